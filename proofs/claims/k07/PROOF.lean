import PyProof.Rows.All
import Wide.All
import OpenK.AllK
import Wide.FinOn
import Lean
import PyProof.EqAt
import PyProof.EqKinds
import PyProof.TupleCall
import PyProof.StationsW
import PyProof.Commute
import PyProof.ExcClass3
import PyProof.ExcInit
import OpenK.KCls
import OpenK.KMake
import PyProof.ExcArgsOwn
import PyProof.InstStoreFacts
import PyProof.MaxThree
import KE.KMinKey
import KE.KIntText
import PyProof.DictUpdate
import PyProof.Draws
import PyProof.EnumMake
import PyProof.DictIter
import KE.KDictSum
import KE.KRevSl
import PyProof.Rows.SortStr
import PyProof.Rows.SortWalk
import PyProof.DictValues
import PyProof.DictWalks
import PyProof.MeetsDictList
import PySem.Challenge.RW_laidcells_k07_equations_of_names
set_option Elab.async false
set_option linter.all false
set_option compiler.extract_closed false
set_option maxRecDepth 100000
set_option maxHeartbeats 20000000
noncomputable section
abbrev Aa:=@List
abbrev Ab:=@Option
abbrev Ac:=@PySem.Value
abbrev Ad:=@PySem.Addr
abbrev Ae:=@PySem.Shared
abbrev Af:=@PySem.Str
abbrev Ag:=@PySem.Heap
abbrev Ah:=@PySem.Program
abbrev nH:=PySem.W.Frag
abbrev aA:=@List.length_map
abbrev aB:=@PySem.wpAny_bind
abbrev aD:=@PySem.wpAny_pure
abbrev aE:=@List.getElem?_eq_getElem
abbrev aF:=@List.mem_cons_self
abbrev aG:=@List.getElem?_eq_some_iff
abbrev aH:=@List.mem_cons_of_mem
abbrev aI:=@List.mem_cons
abbrev aJ:=@if_neg
abbrev aK:=@PySem.Heap.get?_push_of_some
abbrev aL:=@List.mem_of_getElem?
abbrev aM:=@List.mem_map
abbrev aN:=@List.map_cons
abbrev aO:=@List.mem_singleton
abbrev aP:=@if_pos
abbrev aQ:=@List.getElem?_map
abbrev aR:=@Nat.lt_of_lt_of_le
abbrev aT:=@List.mem_append
abbrev aU:=@Nat.le_refl
abbrev aV:=@PySem.Heap.lt_size
abbrev aW:=@List.size_toArray
abbrev aX:=@Classical.byContradiction
abbrev aY:=@List.length_set
abbrev aZ:=@List.length_append
abbrev bA:=@List.map_map
abbrev bB:=@PySem.Heap.get?_push_size
abbrev bC:=@List.not_mem_nil
abbrev bD:=@Bool.false_ne_true
abbrev bE:=@List.map_append
abbrev bF:=@Nat.le_trans
abbrev bG:=@Nat.ne_of_lt
abbrev bH:=@Nat.lt_of_le_of_lt
abbrev bI:=@List.take_of_length_le
abbrev bJ:=@List.mem_append_right
abbrev bK:=@List.mem_append_left
abbrev bL:=@List.append_assoc
abbrev bM:=@List.nodup_cons
abbrev bN:=@List.length_take
abbrev bO:=@Option.some.inj
abbrev bP:=@List.getD_eq_getElem?_getD
abbrev bQ:=@List.take_add_one
abbrev bR:=@List.mem_filter
abbrev bS:=@Option.map_eq_some_iff
abbrev bT:=@PySem.W.mg_none_of
abbrev bU:=@List.nodup_append
abbrev bV:=@List.mem_map_of_mem
abbrev bW:=@PySem.wpAny_holding
abbrev bX:=@PySem.wpAny_callSpecial?_slot
abbrev bY:=@List.length_cons
abbrev bZ:=@PySem.F.plainAttrs_list
abbrev cA:=@List.length_range
abbrev cB:=@List.mem_range
abbrev cC:=@Int.mul_zero
abbrev cD:=@Int.toNat_natCast
abbrev cE:=@PySem.boot_len
abbrev cF:=@decide_eq_false
abbrev cG:=@Nat.zero_le
abbrev cH:=@Bool.and_eq_true
abbrev cI:=@List.getElem?_set_ne
abbrev cJ:=@Array.getElem?_eq_getElem
abbrev cK:=@PySem.wpAny_call_entry
abbrev cL:=@congrArg
abbrev cM:=@List.take_length
abbrev cO:=@List.length_replicate
abbrev cP:=@Int.mul_eq_zero
abbrev cQ:=@List.replicate_succ
abbrev cR:=@PySem.F.slot_list_append
abbrev cS:=@PySem.F.type_list_append
abbrev cT:=@List.cons_append
abbrev cU:=@List.getElem?_append_right
abbrev cV:=@List.zip_cons_cons
abbrev cW:=@List.length_filter_le
abbrev cX:=@Int.eq_ofNat_of_zero_le
abbrev cY:=@beq_eq_false_iff_ne
abbrev cZ:=@List.append_nil
abbrev dB:=@List.length_drop
abbrev dD:=@decide_eq_true
abbrev dF:=@PySem.wpAny_mono
abbrev dH:=@PySem.AutoSeq1.wpAny_loadPart'
abbrev dJ:=@Int.mul_assoc
abbrev dL:=@PyProof.Rows.callWith_type1
abbrev dN:=@Array.getElem?_toList
abbrev dO:=@PySem.PassesOwn.never
abbrev dP:=@PySem.F.slot_zip_next
abbrev dQ:=@List.lookup_cons
abbrev dR:=@Bool.false_eq_true
abbrev dU:=@Int.emod_lt_of_pos
abbrev dX:=@PySem.W.kia_one
abbrev dY:=@or_false
abbrev dZ:=@PySem.Heap.size_push
abbrev eA:=@PyProof.Rows.boot_isinstance
abbrev eC:=@PySem.Paired.length
abbrev eD:=@Option.isSome_iff_exists
abbrev eE:=@PySem.wpAny_isInstance
abbrev eF:=@Nat.le_add_right
abbrev eG:=@PySem.Heap.SameBut.update
abbrev eI:=@PySem.mem_of_lookup
abbrev eJ:=@PySem.wpAny_field
abbrev eK:=@List.length_zipWith
abbrev eL:=@List.foldl_append
abbrev eM:=@Int.mul_left_comm
abbrev eN:=@PyProof.Rows.boot_tuple
abbrev eO:=@PySem.Around.under_plainId
abbrev eP:=@Int.natAbs_mul
abbrev eQ:=@List.find?_cons
abbrev eR:=@Nat.lt_irrefl
abbrev eS:=@List.length_zip
abbrev eT:=@Nat.le_of_lt
abbrev eU:=@List.getElem?_append_left
abbrev eV:=@Array.length_toList
abbrev eW:=@PySem.wpAny_newObj_type
abbrev eX:=@List.mem_iff_getElem?
abbrev eY:=@List.getElem?_eq_none
abbrev eZ:=@PySem.wpAny_attempt
abbrev fA:=@List.set_eq_of_length_le
abbrev fB:=@Ne.symm
abbrev fC:=@Int.emod_nonneg
abbrev fF:=@PySem.F.slot_dict_keyiterator_next
abbrev fH:=@PySem.tupleKind_room_in1
abbrev fJ:=@List.getElem_mem
abbrev fL:=@List.filter_cons_of_pos
abbrev fO:=@if_false
abbrev fP:=@of_decide_eq_true
abbrev fQ:=@List.getElem?_set_self
abbrev fS:=@Nat.ne_of_gt
abbrev fU:=@Int.fdiv_eq_ediv_of_nonneg
abbrev fW:=@List.getElem?_set
abbrev fX:=@Int.zero_mul
abbrev fY:=@PyProof.Rows.boot_list
abbrev fZ:=@PySem.wpAny_dictEpoch
abbrev gB:=@PySem.codeAny_builtin
abbrev gC:=@Int.mul_ne_zero
abbrev gF:=@List.getElem?_zip_eq_some
abbrev gH:=@Int.natAbs_dvd_natAbs
abbrev gI:=@List.all_eq_true
abbrev gJ:=@List.any_cons
abbrev gL:=@PySem.wpAny_seqItems
abbrev gO:=@PySem.wpAny_truthy_bool
abbrev gP:=@List.flatten_cons
abbrev gQ:=@List.filter_cons_of_neg
abbrev gS:=@List.ext_getElem?
abbrev gU:=@PySem.wpAny_rule
abbrev gW:=@List.of_mem_zip
abbrev gX:=@List.map_congr_left
abbrev gY:=@PyProof.Rows.F.plain_set_update_loop
abbrev gZ:=@List.filter_eq_nil_iff
abbrev hU:=@if_true
abbrev hX:=@PySem.wpAny_typeOf
abbrev hZ:=@PyProof.Rows.boot_dict
abbrev iB:=@Sum.inr.inj
abbrev iC:=@PySem.wpAny_Call_Name_kw
abbrev iD:=@PySem.F.slot_tuple_iterator_next
abbrev iE:=@Int.natAbs_natCast
abbrev iF:=@PySem.Heap.get?_update_self
abbrev iG:=@PyProof.Rows.boot_sum
abbrev iH:=@List.take_append_drop
abbrev iI:=@PyProof.Rows.boot_int
abbrev iJ:=@PyProof.Rows.boot_abs
abbrev iK:=@PySem.wpAny_passesOwn
abbrev iL:=@List.cons.injEq
abbrev iM:=@PySem.wpAny_pyIter_list
abbrev iN:=@Nat.mul_comm
abbrev iO:=@List.mem_of_mem_take
abbrev iP:=@Nat.mul_le_mul_right
abbrev iQ:=@PySem.F.args_zip_next_1
abbrev iR:=@Nat.pow_succ
abbrev iS:=@Nat.pow_le_pow_right
abbrev iT:=@Int.mul_comm
abbrev iU:=@List.mem_iff_getElem
abbrev iW:=@PyProof.Rows.slot_tuple_getitem
abbrev iX:=@List.getElem?_cons_zero
abbrev iY:=@List.getElem?_cons_succ
abbrev iZ:=@List.nodup_nil
abbrev jA:=@List.perm_middle
abbrev jB:=@Nat.mul_le_mul
abbrev jC:=@List.eq_nil_iff_forall_not_mem
abbrev jD:=@PySem.F.entry_zip_next
abbrev jE:=@PySem.MeetsSeq3.plain_eq_loop
abbrev jF:=@Nat.max_eq_right
abbrev jG:=@List.nodup_range
abbrev jH:=@List.map_zipWith
abbrev jI:=@Nat.le_succ
abbrev jJ:=@Int.mul_add
abbrev jK:=@Array.getElem?_eq_none
abbrev jL:=@PySem.wpAny_setField_rec
abbrev jM:=@List.map_singleton
abbrev jN:=@Nat.le_mul_of_pos_left
abbrev jO:=@Nat.not_lt_zero
abbrev jP:=@Nat.min_eq_left
abbrev jQ:=@PySem.plainId_quiet
abbrev jR:=@List.sum_cons
abbrev jS:=@PySem.wpAny_notOrdered_dict
abbrev jT:=@PySem.F.slot_dict_get
abbrev jU:=@List.Perm.append_left
abbrev jV:=@PySem.wpAny_dictEntries
abbrev jW:=@PySem.wpAny_of_eq
abbrev jX:=@Bool.and_eq_true_iff
abbrev jY:=@Int.eq_of_mul_eq_mul_left
abbrev jZ:=@List.pairwise_iff_getElem
abbrev kC:=@List.mem_or_eq_of_mem_set
abbrev kD:=@List.filterMap_cons
abbrev kE:=@PyProof.Rows.F.entry_set_update_loop
abbrev kF:=@List.getElem?_range
abbrev kG:=@PySem.F.args_tuple_add_2
abbrev kH:=@PySem.F.slot_list_getattribute
abbrev kI:=@List.length_erase_of_mem
abbrev kJ:=@List.Nodup.mem_erase_iff
abbrev kK:=@Int.mul_ediv_cancel_left
abbrev kL:=@List.nil_append
abbrev kM:=@List.length_nil
abbrev kN:=@Nat.le_antisymm
abbrev kO:=@List.mem_filterMap
abbrev kQ:=@beq_iff_eq
abbrev kR:=@PySem.Calls.spliced_cons
abbrev kS:=@PySem.call_meets
abbrev kT:=@PySem.sub_AttributeError
abbrev kU:=@PySem.Obj.data_mapFields
abbrev kW:=@List.getElem?_drop
abbrev kX:=@PySem.F.entry_tuple_add
abbrev kY:=@PySem.F.args_dict_get_3
abbrev kZ:=@PySem.F.slot_list_index
abbrev lA:=@PySem.F.slot_zip_getattribute
abbrev lB:=@Nat.lt_or_ge
abbrev lC:=@Option.some.injEq
abbrev lE:=@PySem.F.slot_tuple_add
abbrev lF:=@Option.isSome_map
abbrev lG:=@PySem.F.entry_dict_get
abbrev lH:=@Nat.lt_succ_of_lt
abbrev lI:=@Function.comp_def
abbrev lJ:=@List.getElem_cons_drop
abbrev lK:=@List.pairwise_map
abbrev lL:=@List.zipWith_cons_cons
abbrev lM:=@PyProof.Rows.boot_min
abbrev lN:=@PyProof.Rows.boot_max
abbrev lO:=@List.any_eq_true
abbrev lP:=@beq_self_eq_true
abbrev lQ:=@PySem.wpAny_pyIter_zip
abbrev lR:=@Nat.gcd_dvd_left
abbrev lS:=@PySem.StrLaws.seqIndex_nonneg
abbrev lT:=@PySem.wpAny_execs_nil
abbrev lU:=@Bool.eq_iff_iff
abbrev lV:=@List.foldl_cons
abbrev lW:=@List.forIn_cons
abbrev lX:=@List.dropLast_concat_getLast
abbrev lY:=@Nat.pow_le_pow_left
abbrev lZ:=@Int.zero_add
abbrev mB:=@Nat.min_self
abbrev mC:=@Nat.succ.inj
abbrev mD:=@Option.isSome_some
abbrev mE:=@Nat.eq_zero_or_pos
abbrev mF:=@List.filter_append
abbrev mG:=@List.Nodup.sublist
abbrev mH:=@PySem.wpAny_setField
abbrev mI:=@PySem.isSubtype_stop
abbrev mJ:=@List.getElem?_take
abbrev mK:=@Sum.inl.inj
abbrev mL:=@PySem.W.kitx_dict
abbrev mM:=@Nat.pow_pos
abbrev mN:=@Int.neg_mul
abbrev mO:=@Int.dvd_mul_right
abbrev mP:=@PySem.wpAny_standAt
abbrev mQ:=@not_or
abbrev mR:=@Int.dvd_trans
abbrev mS:=@Nat.mul_assoc
abbrev mT:=@Nat.lt_succ_self
abbrev mU:=@Nat.min_eq_right
abbrev mV:=@List.drop_length
abbrev mW:=@List.map_nil
abbrev mX:=@PySem.wpAny_call
abbrev mY:=@Int.sub_self
abbrev mZ:=@Int.sub_zero
abbrev nA:=@Nat.succ_pos
abbrev nB:=@Nat.gcd_comm
abbrev nC:=@Int.natCast_mul
abbrev nE:=@List.range_succ
abbrev nF:=@Int.mul_neg
abbrev nG:=@Int.sub_mul
namespace L2
open PySem PySem.Spec PyProof.Rows
abbrev gV:=Sum Int Af
noncomputable def tA:gV->Ac->Bool
 | .inl k,v=>Value.isInt k v
 | .inr x,v=>Value.isStrOf x v
def FV (w:World):gV->Int
 | .inl k=>hashInt k
 | .inr x=>hashStr w x
theorem tK:∀ {k:gV}{v:Ac},tA k v=true->(∃ i t,k=Sum.inl i/\v=Value.int i t)\/(∃ x t,k=Sum.inr x/\v=Value.str x t)
 | .inl i,v,h=>by
  obtain⟨t,e⟩:=Value.isInt_shape (k:=i) (v:=v) h;exact .inl ⟨i,t,rfl,e⟩
 | .inr x,v,h=>by
  obtain⟨t,e⟩:=Value.isStrOf_shape (x:=x) (v:=v) h;exact .inr ⟨x,t,rfl,e⟩
theorem CM (i:Int) (t:Tok):tA (.inl i) (.int i t)=true:=by simp[tA,Value.isInt]
theorem Sn (x:Af) (t:Tok):tA (.inr x) (.str x t)=true:=by simp[tA,Value.isStrOf]
theorem Xx (a b:Int):decide ((Sum.inl a:gV)=Sum.inl b)=(a == b):=by
 by_cases e:a=b
 .subst e;simp
 .have h:¬ (Sum.inl a:gV)=Sum.inl b:=λq=>e (mK q)
  rw[cF h];exact (cY.mpr e).symm
theorem FW (a b:Af):decide ((Sum.inr a:gV)=Sum.inr b)=decide (a=b):=by
 by_cases e:a=b
 .subst e;simp
 .have h:¬ (Sum.inr a:gV)=Sum.inr b:=λq=>e (iB q)
  rw[cF h,cF e]
theorem IP (a:Int) (b:Af):decide ((Sum.inl a:gV)=Sum.inr b)=false:=cF (λq=>nomatch q)
theorem JU (a:Af) (b:Int):decide ((Sum.inr a:gV)=Sum.inl b)=false:=cF (λq=>nomatch q)
def oG (g:Ah) (w:World):PySem.KeyKind g w gV where
 is:=tA
 hash:=FV w
 inj:=λv a b m f=>by
  rcases tK m with⟨i,t,rfl,rfl⟩ | ⟨x,t,rfl,rfl⟩
  .rcases tK f with⟨j,u,rfl,e⟩ | ⟨y,u,rfl,e⟩
   .injection e with c _;rw[c]
   .exact nomatch e
  .rcases tK f with⟨j,u,rfl,e⟩ | ⟨y,u,rfl,e⟩
   .exact nomatch e
   .injection e with c _;rw[c]
 byValue:=λk v h=>by
  rcases tK h with⟨i,t,rfl,rfl⟩ | ⟨x,t,rfl,rfl⟩<;>rfl
 pyHash:=λd h=>by
  rcases tK d with⟨i,t,rfl,rfl⟩ | ⟨x,t,rfl,rfl⟩
  .exact wpAny_pyHash_int h
  .exact wpAny_pyHash_str h
 eqBool:=λn d h=>by
  rcases tK n with⟨i,t,rfl,rfl⟩ | ⟨x,t,rfl,rfl⟩
  .rcases tK d with⟨j,u,rfl,rfl⟩ | ⟨y,u,rfl,rfl⟩
   .rw[Xx] at h;exact wpAny_eqBool_int h
   .rw[IP] at h;exact SeqAt.EqAt.int_str i t y u _ _ _ _ h
  .rcases tK d with⟨j,u,rfl,rfl⟩ | ⟨y,u,rfl,rfl⟩
   .rw[JU] at h;exact SeqAt.EqAt.str_int x t j u _ _ _ _ h
   .rw[FW] at h;exact wpAny_eqBool_str h
 «strs»:=λk x t v h=>by
  rcases tK h with⟨i,u,rfl,e⟩ | ⟨y,u,rfl,e⟩
  .exact nomatch e
  .injection e with c _;subst c;cases v<;>rfl
theorem Vx (g:Ah) (w:World) (i:Int) (t:Tok):(oG g w).is (.inl i) (.int i t)=true:=CM i t
theorem BW (g:Ah) (w:World) (x:Af) (t:Tok):(oG g w).is (.inr x) (.str x t)=true:=Sn x t
abbrev MK:=Sum gV (Aa gV)
section
variable (P:Ah) (w:World)
def oO (h:Ag):MK->Ac->Prop
 | .inl k,v=>(oG P w).is k v=true
 | .inr b,v=>∃ a,v = .ref a/\IsTupleKey (oG P w) h b a
def rS:MK->Int
 | .inl k=>(oG P w).hash k
 | .inr a=>(tupleKind (oG P w)).hash a
def tY:MK->Nat
 | .inl _=>1
 | .inr a=>a.length+1
def tD (x:MK×Ac×Ac):DictEntry:=⟨rS P w x.1,x.2.1,x.2.2⟩
end
section
variable {P:Ah}{w:World}{s:Ae}{k:MK}
theorem oO.inj (a:oO P w h x v) (b:oO P w h y v):x=y:=by
 rcases x with x | x<;>rcases y with y | y
 .rw[(oG P w).inj v x y a b]
 .obtain⟨p,rfl,_⟩:=b;exact absurd ((oG P w).byValue _ _ a) (by simp[carriedByValue])
 .obtain⟨p,rfl,_⟩:=a;exact absurd ((oG P w).byValue _ _ b) (by simp[carriedByValue])
 .obtain⟨p,rfl,a⟩:=a;obtain⟨q,e,b⟩:=b;injection e with e;subst e;rw[a.inj b]
theorem oO.keeps {j g}(a:oO P w h x v) (r:h.get? d=some o) (hd:o.data = .dict j g) (C:Heap.SameBut d h l):oO P w l x v:=by
 rcases x with x | x
 .exact a
 .obtain⟨p,rfl,a⟩:=a;exact⟨p,rfl,a.keeps r hd C⟩
theorem oO.pyHash (j:A.units<cLine) (a:oO P w s.heap x v) (g:Q (rS P w x) { s with toks:=s.toks+tY x }):wpAny (model P w) A (PySem.pyHash v) Q E s:=by
 rcases x with x | x
 .exact (oG P w).pyHash a g
 .obtain⟨p,rfl,a⟩:=a;exact (tupleKind (oG P w)).pyHash j a g
theorem Qv (t:IsTupleKey (oG P w) h g a):∃ items,h.IsTuple a items:=let ⟨o,items,n,c,b,hd,_⟩:=t;⟨items,o,c,b,n,hd⟩
theorem oO.eqBool (j:A.units<cLine) (a:oO P w s.heap x u) (b:oO P w s.heap y v) (g:Q (decide (x=y)) s):wpAny (model P w) A (PySem.eqBool u v) Q E s:=by
 rcases x with x | x<;>rcases y with y | y
 .refine (oG P w).eqBool a b ?_;rw[show decide (x=y)=decide ((Sum.inl x:MK) = .inl y) from decide_eq_decide.mpr ⟨λe=>by rw[e],λe=>mK e⟩];exact g
 .obtain⟨q,rfl,b⟩:=b;obtain⟨items,t⟩:=Qv b;rw[cF (λe=>nomatch e)] at g;rcases tK (show tA x u=true from a) with⟨i,c,rfl,rfl⟩ | ⟨z,c,rfl,rfl⟩
  .exact SeqAt.EqAt.int_tuple i c t j _ _ _ _ g
  .exact SeqAt.EqAt.str_tuple z c t j _ _ _ _ g
 .obtain⟨q,rfl,a⟩:=a;obtain⟨items,t⟩:=Qv a;rw[cF (λe=>nomatch e)] at g;rcases tK (show tA y v=true from b) with⟨i,c,rfl,rfl⟩ | ⟨z,c,rfl,rfl⟩
  .exact SeqAt.EqAt.tuple_int i c t j _ _ _ _ g
  .exact SeqAt.EqAt.tuple_str z c t j _ _ _ _ g
 .obtain⟨p,rfl,a⟩:=a;obtain⟨q,rfl,b⟩:=b;refine (tupleKind (oG P w)).eqBool (x:=x) (y:=y) j a b ?_;rw[show decide (x=y)=decide ((Sum.inr x:MK) = .inr y) from decide_eq_decide.mpr ⟨λe=>by rw[e],λe=>iB e⟩];exact g
theorem oO.quiet (a:oO P w s.heap x v) (g:Q true s):wpAny (model P w) A (eqIsQuiet 8 v) Q E s:=by
 rcases x with x | x
 .rw[eqIsQuiet_byValue 8 ((oG P w).byValue _ _ a)];exact aD g
 .obtain⟨p,rfl,a⟩:=a;exact (tupleKind (oG P w)).quiet a g
theorem Lg {st:Aa Ac}(a:oO P w s.heap x v) (g:∀ u∈st,∃ y,oO P w s.heap y u) (j:Q false s):wpAny (model P w) A (tableMayTell v st) Q E s:=by
 unfold tableMayTell;split
 .exact aD j
 .refine aB (a.quiet ?_);simp only[Bool.not_true,dR,fO];refine aB (wpAny_forIn_list _ (λrest r b=>b=s/\r=(none,())/\∀ u∈rest,∃ y,oO P w s.heap y u) _ ?_ ?_ _ _ ⟨rfl,rfl,g⟩)
  .rintro u rest r b ⟨rfl,rfl,c⟩;obtain⟨y,d⟩:=c u aF;refine aB (d.quiet ?_);simp only[Bool.not_true,dR,fO];exact aD ⟨rfl,rfl,λz e=>c z (aH _ e)⟩
  .rintro r b ⟨rfl,rfl,_⟩;exact aD j
structure EM (P:Program) (w:World) (h:Heap) (d:Addr) (o:Obj) (es:Array DictEntry) (ep:Nat) (xs:List (MK×Value×Value)):Prop where
 ho:h.get? d=some o
 hc:o.ExactDict
 hd:o.data = .dict es ep
 he:es.toList=xs.map (tD P w)
 is:∀ x∈xs,oO P w h x.1 x.2.1
 nd:(xs.map (·.1)).Nodup
variable {xs:Aa (MK×Ac×Ac)}
theorem EM.at (e:EM P w h d o g l xs) (j:Nat):g[j]?=(xs[j]?).map (tD P w):=by
 rw[<- dN,e.he,aQ]
theorem EM.size (e:EM P w h d o g j xs):g.size=xs.length:=by
 rw[<- eV,e.he,aA]
theorem EM.get (e:EM P w h d o g p xs) (l:j<g.size):∃ x,xs[j]?=some x/\g[j]?=some (tD P w x)/\oO P w h x.1 x.2.1:=by
 have a:j<xs.length:=by rw[<- e.size];exact l
 refine⟨xs[j],aE a,?_,e.is _ (fJ a)⟩;rw[e.at,aE a];rfl
theorem EM.one (e:EM P w h d o C r xs){i j:Nat}{p q:Ac×Ac}(g:xs[i]?=some (k,p)) (l:xs[j]?=some (k,q)):i=j:=by
 have a:(xs.map (·.1))[i]?=some k:=by rw[aQ,g];rfl
 have b:(xs.map (·.1))[j]?=some k:=by rw[aQ,l];rfl
 exact (List.getElem?_inj (aG.mp a).1 e.nd).mp (a.trans b.symm)
abbrev uX (P:Ah) (w:World) (g:Array DictEntry) (k:MK):Aa Nat:=placesWithHash g.size (λi=>g[i]?.map (·.hash)) (rS P w k)
theorem EM.not_pl (e:EM P w h d o l r xs){j:Nat}(g:((l[j]?.map (·.hash)) == some (rS P w k))=false) (p:Ac×Ac):xs[j]?≠some (k,p):=λq=>by
 rw[e.at,q] at g;simp[tD] at g
theorem Sa (T:A.units<cLine) (e:EM P w s.heap d o l J xs) (I:oO P w s.heap k key)
  (r:(∀ (j:Nat) (p:Ac×Ac),xs[j]?≠some (k,p))->Q none s) (C:∀ (j:Nat) (p:Ac×Ac),xs[j]?=some (k,p)->Q (some j) s) :
  wpAny (model P w) A (dictWalkPlain d key (rS P w k) l (uX P w l k)) Q E s:=by
 unfold dictWalkPlain;refine aB (wpAny_forIn_list _ (λrest b F=>F=s/\b=(none,())/\∃ i,rest=(List.range' i (l.size-i)).filter (λi=>(l[i]?.map (·.hash)) == some (rS P w k))/\i<=l.size /\ ∀ (j:Nat) (p:Ac×Ac),j<i->xs[j]?≠some (k,p)) _ ?_ ?_ _ _ ⟨rfl,rfl,0,by rw[uX,placesWithHash,List.range_eq_range',Nat.sub_zero],cG _,λ_ _ h=>absurd h (jO _)⟩)
 .rintro n rest b F ⟨rfl,rfl,i,D,N,f⟩;obtain⟨O,V,S,t,m⟩:=filter_range'_cons _ _ _ _ _ D.symm;have u:n<l.size:=by omega
  obtain⟨⟨z,K,X⟩,G,L,M⟩:=e.get u;have c:¬ z=k->∃ i,rest=(List.range' i (l.size-i)).filter (λi=>(l[i]?.map (·.hash)) == some (rS P w k))/\i<=l.size/\∀ (j:Nat) (p:Ac×Ac),j<i->xs[j]?≠some (k,p):=λB =>
   ⟨n+1,by rw[m];congr 2;omega,u,λj p W q=>by
    rcases lB j i with g | g
    .exact f j p g q
    .rcases lB j n with H | H
     .exact e.not_pl (t j g H) p q
     .have:j=n:=by omega
      subst this;rw[G] at q;injection q with q;injection q with q;exact B q⟩
  rw[L];dsimp only[tD];by_cases v:(rS P w z == rS P w k)=true
  .rw[aP v];refine aB (fZ e.ho e.hd (aB (oO.eqBool (x:=z) (y:=k) T M I (aB (fZ e.ho e.hd ?_)))));show wpAny _ _ (if (J != J)=true then _ else _) _ E _;rw[aJ (by simp)];by_cases a:z=k
   .rw[dD a];subst a;exact aB (gU (aD (aD (C n _ G))))
   .rw[cF a];exact aB (gU (aD ⟨rfl,rfl,c a⟩))
  .rw[aJ v];refine aD ⟨rfl,rfl,c ?_⟩;intro a;rw[a] at v;simp at v
 .rintro b F ⟨rfl,rfl,i,D,N,f⟩;refine aD (r λj p q=>?_);rcases lB j i with g | g
  .exact f j p g q
  .have R:j<l.size:=by
    rw[e.size];exact (aG.mp q).1
   have:=gZ.mp D.symm j (List.mem_range'_1.mpr ⟨g,by omega⟩);exact e.not_pl (by simpa using this) p q
theorem Jd (hu:A.units<cLine) (e:EM P w s.heap d o C T xs) (J:oO P w s.heap k key)
  (I:(∀ (j:Nat) (p:Ac×Ac),xs[j]?≠some (k,p))->Q none s) (l:∀ (j:Nat) (p:Ac×Ac),xs[j]?=some (k,p)->Q (some j) s) (n:Nat) :
  wpAny (model P w) A (do
   let mut hit:Ab Nat:=none
   for i in uX P w C k do
    if let some e:=C[i]? then
     if e.hash == rS P w k then
      let r <- dictEpoch d (keyPart key);let same <- PySem.eqBool e.key key
      if (<- dictEpoch d (keyPart key)) != r then unsupported "dict.changed-during-lookup"
      if same then
       if hit.isSome then unsupported "dict.find:order-among-keys-of-one-hash"
       rule "dict.find.hit"
       if n<2 then return some i
       hit:=some i
      else
       rule "dict.find.same-hash-other-key"
       if false && !(0<=rS P w k&&rS P w k<32) then unsupported "dict.find:asked-again-or-not-hangs-on-the-table"
   return hit) Q E s:=by
 refine aB ?_;refine wpAny_forIn_list _
   (λrest b S=>S=s/\∃ i hit,b=(none,hit)/\rest=(List.range' i (C.size-i)).filter (λi=>(C[i]?.map (·.hash)) == some (rS P w k))/\i<=C.size /\ ((hit=none/\∀ (j:Nat) (p:Ac×Ac),j<i->xs[j]?≠some (k,p))\/∃ (j:Nat) (p:Ac×Ac),hit=some j/\j<i/\xs[j]?=some (k,p))) _ ?_ ?_ _ _
   ⟨rfl,0,none,rfl,by rw[uX,placesWithHash,List.range_eq_range',Nat.sub_zero],cG _,.inl ⟨rfl,λ_ _ h=>absurd h (jO _)⟩⟩
 .rintro m rest b S ⟨rfl,i,hit,rfl,R,Y,N⟩;obtain⟨Z,ac,ab,B,z⟩:=filter_range'_cons _ _ _ _ _ R.symm;have t:m<C.size:=by omega
  have a:rest=(List.range' (m+1) (C.size-(m+1))).filter (λi=>(C[i]?.map (·.hash)) == some (rS P w k)):=by rw[z];congr 2;omega
  obtain⟨⟨K,V,v'⟩,G,W,X⟩:=e.get t;have D:(hit=none/\∀ (j:Nat) (p:Ac×Ac),j<m->xs[j]?≠some (k,p))\/∃ (j:Nat) (p:Ac×Ac),hit=some j/\j<m/\xs[j]?=some (k,p):=by
   rcases N with⟨L,u⟩ | ⟨j,p,M,U,c⟩
   .refine .inl ⟨L,λj p v c=>?_⟩;rcases lB j i with g | g
    .exact u j p g c
    .exact e.not_pl (B j g v) p c
   .exact .inr ⟨j,p,M,by omega,c⟩
  have q:¬ K=k->((hit=none/\∀ (j:Nat) (p:Ac×Ac),j<m+1->xs[j]?≠some (k,p))\/∃ (j:Nat) (p:Ac×Ac),hit=some j/\j<m+1/\xs[j]?=some (k,p)):=by
   intro O;rcases D with⟨L,u⟩ | ⟨j,p,M,v,c⟩
   .refine .inl ⟨L,λj p v c=>?_⟩;rcases lB j m with g | g
    .exact u j p g c
    .have F:j=m:=by omega
     subst F;rw[G] at c;injection c with c;injection c with c;exact O c
   .exact .inr ⟨j,p,M,by omega,c⟩
  rw[W];dsimp only[tD];by_cases H:(rS P w K == rS P w k)=true
  .rw[aP H];refine aB (fZ e.ho e.hd (aB (oO.eqBool (x:=K) (y:=k) hu X J (aB (fZ e.ho e.hd ?_)))));show wpAny _ _ (if (T != T)=true then _ else _) _ E _;rw[aJ (by simp)];by_cases f:K=k
   .rw[dD f];subst f;rcases D with⟨rfl,_⟩ | ⟨j,p,_,v,c⟩
    .first | rw[aP rfl] | skip
     simp only[Option.isSome_none,dR,fO]
     first | refine aB (aD ?_) | skip
     refine aB (gU ?_);split
     .exact aD (aD (l m _ G))
     .exact aD ⟨rfl,m+1,some m,rfl,a,t,.inr ⟨m,_,rfl,mT m,G⟩⟩
    .exact absurd (e.one c G) (by omega)
   .rw[cF f];simp only[dR,fO];refine aB (gU ?_)
    first | rw[aJ (by simp)] | skip
    first
     | exact aD ⟨rfl,m+1,hit,rfl,a,t,q f⟩
     | exact aB (aD (aD ⟨rfl,m+1,hit,rfl,a,t,q f⟩))
  .rw[aJ H];refine aD ⟨rfl,m+1,hit,rfl,a,t,q ?_⟩;intro f;rw[f] at H;simp at H
 .rintro b S ⟨rfl,i,hit,rfl,R,Y,N⟩;rcases N with⟨rfl,u⟩ | ⟨j,p,rfl,_,c⟩
  .refine aD (I λj p c=>?_);rcases lB j i with g | g
   .exact u j p g c
   .have aa:j<C.size:=by
     rw[e.size];exact (aG.mp c).1
    have:=gZ.mp R.symm j (List.mem_range'_1.mpr ⟨g,by omega⟩);exact e.not_pl (by simpa using this) p c
  .exact aD (l j p c)
theorem EM.stored (e:EM P w h d o g j xs) (k:MK):∀ v∈(uX P w g k).filterMap (λi=>g[i]?.map (·.key)),∃ y,oO P w h y v:=by
 intro v n;obtain⟨i,_,b⟩:=kO.mp n;cases a:g[i]? with
 | none=>rw[a] at b;cases b
 | some en =>
  rw[a] at b;obtain rfl:en.key=v:=by simpa using b
  have c:i<g.size:=(Array.getElem?_eq_some_iff.mp a).1;obtain⟨x,_,f,m⟩:=e.get c;rw[a] at f;cases f;exact⟨_,m⟩
theorem EM.same (e:EM P w h d o j l xs) (g:oO P w h k (.ref a)):¬ (j.any λen=>en.key == Value.ref a&&en.hash != rS P w k)=true:=by
 rw[<- Array.any_toList,lO];rintro ⟨en,b,i⟩;rw[e.he] at b;obtain⟨x,m,rfl⟩:=aM.mp b;simp only[tD,cH,kQ,bne_iff_ne,ne_eq] at i;obtain⟨f,c⟩:=i;have:=e.is x m;rw[f] at this;exact c (by rw[this.inj g])
theorem Ta (I:A.units<cLine) (e:EM P w s.heap d o C J xs) (g:oO P w s.heap k key)
  (l:(∀ (j:Nat) (p:Ac×Ac),xs[j]?≠some (k,p))->Q none s) (r:∀ (j:Nat) (p:Ac×Ac),xs[j]?=some (k,p)->Q (some j) s) :
  wpAny (model P w) A (dictFind d key (rS P w k)) Q E s:=by
 have u:=e.stored k;unfold dictFind
 try with_reducible refine bW ?_
 refine aB (jV e.ho e.hd ?_);rcases k with k | k
 .rcases tK (show tA k key=true from g) with⟨i,t,rfl,rfl⟩ | ⟨x,t,rfl,rfl⟩
  .dsimp only;by_cases f:((Value.int i t::(uX P w C (.inl (.inl i))).filterMap λi=>C[i]?.map (·.key)).all carriedByValue)=true
   .rw[aP f];exact Sa I e g l r
   .rw[aJ f];by_cases c:(((uX P w C (.inl (.inl i))).filterMap λi=>C[i]?.map (·.key)) == [Value.int i t])=true <;>
    (first | rw[aP c] | rw[aJ c])<;>(first | refine aB (aD ?_) | refine aB (Lg g u ?_))<;>(
     rw[aJ (by simp)];exact Jd I e g l r _)
  .dsimp only;by_cases h:(C.all λen=>isExactStrKey en.key)=true
   .rw[aP h];have v:(λen:DictEntry=>en.key.isStr x)=λen=>tA (.inr x) en.key:=funext λen=>((oG P w).strs (.inr x) x t en.key (Sn x t)).symm
    unfold foundByValue;rw[v];cases H:C.findIdx? (λen=>tA (.inr x) en.key) with
    | none =>
     refine aD (l λj p q=>?_);have O:C[j]?=some (tD P w (.inl (.inr x),p)):=by rw[e.at,q];rfl
     have b:=Array.findIdx?_eq_none_iff.mp H _ (Array.mem_of_getElem? O);have m:=e.is _ (aL q);rw[show tA (.inr x) (tD P w (.inl (.inr x),p)).key=true from m] at b;cases b
    | some i =>
     obtain⟨z,K,_⟩:=Array.findIdx?_eq_some_iff_getElem.mp H;obtain⟨⟨N,B,R⟩,L,F,G⟩:=e.get z;have M:C[i].key=B:=by
      have:=(cJ z).symm.trans F;rw[bO this];rfl
     have D:N = .inl (.inr x):=G.inj (by rw[M] at K;exact K);subst D;dsimp only;rw[F];refine aB (fZ e.ho e.hd (aB (oO.eqBool (x:=.inl (.inr x)) (y:=.inl (.inr x)) I G g (aB (fZ e.ho e.hd ?_)))));show wpAny _ _ (if (J != J)=true then _ else _) _ E _;rw[aJ (by simp),dD rfl];exact aB (gU (aD (r i _ L)))
   .rw[aJ h];by_cases f:((Value.str x t::(uX P w C (.inl (.inr x))).filterMap λi=>C[i]?.map (·.key)).all carriedByValue)=true
    .rw[aP f];exact Sa I e g l r
    .rw[aJ f];by_cases c:(((uX P w C (.inl (.inr x))).filterMap λi=>C[i]?.map (·.key)) == [Value.str x t])=true <;>
     (first | rw[aP c] | rw[aJ c])<;>(first | refine aB (aD ?_) | refine aB (Lg g u ?_))<;>(
      rw[aJ (by simp)];exact Jd I e g l r _)
 .obtain⟨a,rfl,hk⟩:=g;dsimp only;rw[aJ (show ¬ ((Value.ref a::(uX P w C (.inr k)).filterMap (λi=>C[i]?.map (·.key))).all carriedByValue)=true by simp[carriedByValue])];have n:oO P w s.heap (.inr k) (.ref a):=⟨a,rfl,hk⟩;rw[aJ (e.same n)];by_cases c:(((uX P w C (.inr k)).filterMap λi=>C[i]?.map (·.key)) == [Value.ref a])=true <;>
  (first | rw[aP c] | rw[aJ c])<;>(first | refine aB (aD ?_) | refine aB (Lg n u ?_))<;>(
   rw[aJ (by simp)];exact Jd I e n l r _)
def qS (xs:Aa (MK×Ac×Ac)) (k:MK):Ab (Ac×Ac):=(xs.find? λx=>decide (x.1=k)).map (·.2)
def tR (k:MK) (v:Ac) (x:MK×Ac×Ac):MK×Ac×Ac:=if x.1=k then (x.1,x.2.1,v) else x
def xG (xs:Aa (MK×Ac×Ac)) (k:MK) (key v:Ac):Aa (MK×Ac×Ac):=if (qS xs k).isSome then xs.map (tR k v) else xs++[(k,key,v)]
theorem T9 {j:Nat}{p:Ac×Ac}(l:(xs.map (·.1)).Nodup) (g:xs[j]?=some (k,p)):qS xs k=some p:=by
 induction xs generalizing j with
 | nil=>simp at g
 | cons x rest b =>
  rw[aN,bM] at l;cases j with
  | zero =>
   simp only[iX,lC] at g;subst g;simp[qS]
  | succ j =>
   simp only[iY] at g;have a:¬ x.1=k:=λe=>l.1 (e▸aM.mpr ⟨(k,p),aL g,rfl⟩)
   have:=b l.2 g
   simpa [qS,eQ,a] using this
theorem U6 (h:∀ (j:Nat) (p:Ac×Ac),xs[j]?≠some (k,p)):qS xs k=none:=by
 have:(xs.find? λx=>decide (x.1=k))=none:=by
  rw[List.find?_eq_none];intro x c hk;obtain⟨j,b⟩:=eX.mp c;have a:x.1=k:=fP hk;exact h j x.2 (by rw[b,<- a])
 simp[qS,this]
theorem J1 (r:A.units<cLine) (e:EM P w s.heap d o I C xs) (g:oO P w s.heap k key) (l:Q ((qS xs k).map (·.2)) { s with toks:=s.toks+tY k }) :
  wpAny (model P w) A (dictGet d key) Q E s:=by
 unfold dictGet
 try with_reducible refine bW ?_
 refine aB (oO.pyHash r g (aB (Ta (s:={ s with toks:=s.toks+tY k }) r e g ?_ ?_)))
 .intro a;rw[U6 a] at l;exact aD l
 .intro j p b;rw[T9 e.nd b] at l;refine aB (jV (s:={ s with toks:=s.toks+tY k }) e.ho e.hd ?_);rw[e.at j,b];exact aD l
theorem GI (xs:Aa (MK×Ac×Ac)) (k:MK) (v:Ac):(xs.map (tR k v)).map (·.1)=xs.map (·.1):=by
 rw[bA];refine gX λx _=>?_
 show (tR k v x).1=x.1;unfold tR;split<;>rfl
theorem KN (l:(xs.map (·.1)).Nodup) (g:xs[j]?=some (k,p)):(xs.map (tD P w)).modify j (λen=>{ en with val:=v })=(xs.map (tR k v)).map (tD P w):=by
 induction xs generalizing j with
 | nil=>simp at g
 | cons x rest c =>
  rw[aN,bM] at l;cases j with
  | zero =>
   simp only[iX,lC] at g;subst g;have:rest.map (tR k v)=rest:=by
    refine (gX λy b=>?_).trans (List.map_id _);unfold tR;rw[aJ (λz=>l.1 (aM.mpr ⟨y,b,z⟩))];rfl
   rw[aN,aN,this,aN];unfold tR;rw[aP rfl];rfl
  | succ j =>
   simp only[iY] at g;have a:¬ x.1=k:=λe=>l.1 (e▸aM.mpr ⟨(k,p),aL g,rfl⟩)
   rw[aN,aN,aN,<- c l.2 g];unfold tR;rw[aJ a];rfl
theorem EG (U:A.units<cLine) (e:EM P w s.heap d o es J xs) (g:oO P w s.heap k key) (aa:xs.length<=sizeLine)
  (T:∀ I o' C r,EM P w I d o' C r (xG xs k key v)->Heap.SameBut d s.heap I->Q () { s with heap:=I,toks:=s.toks+tY k }) :
  wpAny (model P w) A (dictSet d key v) Q E s:=by
 obtain⟨c,t,hd,u,f,n⟩:=id e;unfold dictSet
 try with_reducible refine bW ?_
 refine aB (oO.pyHash U g ?_);unfold dictSetHashed
 try with_reducible refine bW ?_
 refine aB (Ta (s:={ s with toks:=s.toks+tY k }) U e g ?_ ?_)
 .intro h;have i:k∉xs.map (·.1):=λB=>by
   obtain⟨x,b,rfl⟩:=aM.mp B;obtain⟨j,m⟩:=eX.mp b;exact h j x.2 m
  have a:xG xs k key v=xs++[(k,key,v)]:=by unfold xG;rw[U6 h];rfl
  refine aB (gU (wpAny_updateDictKeys (hz:=by have z:=e.size;omega) (s:={ s with toks:=s.toks+tY k }) c hd (T _ _ _ (J+1) ⟨iF _ c (Obj.isFreed_of_dict (Obj.data_mapDictKeys hd _)),
   t.mapDictKeys _,Obj.data_mapDictKeys hd _,?_,?_,?_⟩ (eG ..))))
  .rw[a];simp[u,tD]
  .rw[a];intro x b;rcases aT.mp b with b | b
   .exact (f x b).keeps c hd (eG ..)
   .simp only[aO] at b;subst b;exact g.keeps c hd (eG ..)
  .rw[a,bE,bU];refine⟨n,by simp,?_⟩;intro x b y q;simp only[aN,mW,aO] at q;subst q;exact λz=>i (z▸b)
 .intro j p m;have a:xG xs k key v=xs.map (tR k v):=by unfold xG;rw[T9 n m];rfl
  refine aB (gU (aB (wpAny_updateDict (s:={ s with toks:=s.toks+tY k }) c hd (wpAny_point (T _ _ _ J ⟨iF _ c (Obj.isFreed_of_dict (Obj.data_mapDict hd _)),
   t.mapDict _,Obj.data_mapDict hd _,?_,?_,?_⟩ (eG ..))))))
  .rw[a];have:=KN (P:=P) (w:=w) (v:=v) n m;rw[<- u] at this;obtain⟨l⟩:=es
   simpa using this
  .rw[a];intro x b;obtain⟨y,q,rfl⟩:=aM.mp b;unfold tR;split<;>exact (f y q).keeps c hd (eG ..)
  .rw[a,GI];exact n
theorem EM.typeIs (e:EM P w s.heap d o j g xs):s.TypeIs (.ref d) "dict" := ⟨o,e.ho,e.hc.1⟩
theorem Y0 (j:A.units+1<cLine) (e:EM P w s.heap d o r l xs) (g:oO P w s.heap k key) (hd:(d == sysModules)=false)
  (h:Q (.bool (!(qS xs k).isSome)) { s with toks:=s.toks+tY k }):wpAny (model P w) A (compareOp .NotIn key (.ref d)) Q E s:=by
 show wpAny _ _ (do return .bool (!(<- contains (.ref d) key))) Q E s;refine aB ?_;unfold contains
 try with_reducible refine bW ?_
 refine aB (wpAny_specialOf e.typeIs slot_dict_contains.lookup ?_);show wpAny _ _ (if (some (Value.builtin "dict.__contains__") == some Value.none)=true then _ else _) _ E s;rw[aJ (by rw[beq_builtin_none];exact bD)];refine aB (wpAny_callSpecialUnlessNone?_slot (name:=Str.ofString "__contains__") e.typeIs slot_dict_contains (cK slot_dict_contains e.typeIs entry_dict_contains ?_ (args_dict_contains _ _)));show wpAny _ _ (dictGet d key >>= _) _ _ s;refine aB (J1 (fH (K:=gV) (knd:=oG P w) j) e g ?_);cases a:qS xs k with
 | some p =>
  rw[a] at h;show wpAny _ _ (ret (.bool true)) _ _ _;exact aD ⟨_,rfl,gO (aD h)⟩
 | none =>
  rw[a] at h;show wpAny _ _ (Builtin.Dict.pendingKey? d key >>= _) _ _ _;exact aB (wpAny_pendingKey_other hd (aD ⟨_,rfl,gO (aD h)⟩))
theorem IV (l:A.units+1<cLine) (e:EM P w s.heap d o C r xs) (g:oO P w s.heap k key) (j:qS xs k=some p)
  (h:Q p.2 { s with toks:=s.toks+tY k }):wpAny (model P w) A (getItem (.ref d) key) Q E s:=by
 unfold getItem
 try with_reducible refine bW ?_
 refine aB (wpAny_sequenceKey e.typeIs (by decide) ?_);refine aB (bX (name:=Str.ofString "__getitem__") e.typeIs slot_dict_getitem (cK slot_dict_getitem e.typeIs entry_dict_getitem ?_ (args_dict_getitem _ _)));show wpAny _ _ (dictGet d key >>= _) _ _ s;refine aB (J1 (fH (K:=gV) (knd:=oG P w) l) e g ?_);rw[j];exact aD ⟨p.2,rfl,aD h⟩
theorem Of (J:A.units+1<cLine) (e:EM P w s.heap d o U T xs) (p:oO P w s.heap k key) (r:xs.length<=sizeLine)
  (I:∀ l C j g,EM P w l d C j g (xG xs k key v)->Heap.SameBut d s.heap l->Q () { s with heap:=l,toks:=s.toks+tY k }) :
  wpAny (model P w) A (setItem (.ref d) key v) Q E s:=by
 unfold setItem
 try with_reducible refine bW ?_
 refine aB (wpAny_sequenceKey e.typeIs (by decide) ?_);refine aB (bX (name:=Str.ofString "__setitem__") e.typeIs slot_dict_setitem (cK slot_dict_setitem e.typeIs entry_dict_setitem ?_ (args_dict_setitem _ _ _)));show wpAny _ _ (Builtin.Dict.notOrdered "__setitem__" ⟨[.ref d,key,v],[]⟩ >>= _) _ _ s;refine aB (jS e.typeIs ?_);show wpAny _ _ (dictSet d key v >>= _) _ _ s;exact aB (EG (fH (K:=gV) (knd:=oG P w) J) e p r λl C j g a b=>aD ⟨.none,rfl,aD (I l C j g a b)⟩)
theorem BC (hd:(d == sysModules)=false) (key dflt:Ac):MeetsIn P w (Builtin.«dict.get» ⟨[.ref d,key,dflt],[]⟩) (λA R s=>A.in1.units<cLine/\∃ k o j g xs,EM P w s.heap d o j g xs/\oO P w s.heap k key /\ R (.ok (.ret (((qS xs k).map (·.2)).getD dflt))) { s with toks:=s.toks+tY k }) :=
 .of_wp λA R s b=>by
  obtain⟨f,k,o,j,g,xs,e,a,h⟩:=b;show wpAny _ _ (dictGet d key >>= _) _ _ s;refine aB (J1 f e a ?_);cases c:(qS xs k).map (·.2) with
  | some v =>
   rw[c] at h;exact aD ⟨v,rfl,h⟩
  | none =>
   rw[c] at h;show wpAny _ _ (Builtin.Dict.missed d key >>= _) _ _ _;exact aB (wpAny_missed_other hd (aD ⟨dflt,rfl,h⟩))
end
inductive V where
 | e | b (b:Bool) | int (i:Int) | str (x:Str) | byt (b:Array UInt8) | flt (b:UInt64) | ref (a:Addr) | ty (n:String)
 deriving DecidableEq
def nM:V->Ac->Prop
 | .e,u=>u=Value.none
 | .b b,u=>u=Value.bool b
 | .int i,u=>∃ t,u=Value.int i t
 | .str x,u=>∃ t,u=Value.str x t
 | .byt b,u=>∃ t,u=Value.bytes b t
 | .flt b,u=>∃ t,u=Value.float b t
 | .ref a,u=>u=Value.ref a
 | .ty n,u=>u=Value.type n
abbrev nN:Aa V->Aa Ac->Prop:=Paired nM
theorem nN.length (r:nN j g):j.length=g.length:=eC r
theorem nN.get:∀ {j:Aa V}{g:Aa Ac}{i:Nat}{x:V},nN j g->j[i]?=some x->∃ u,g[i]?=some u/\nM x u
 | _,_,_,_,.nil,e=>by simp at e
 | _,_,0,_,.cons r _,e=>by simp at e;subst e;exact⟨_,rfl,r⟩
 | _,_,i+1,x,.cons _ t,e=>by
  obtain⟨u,a,b⟩:=nN.get (i:=i) (x:=x) t (by simpa using e);exact⟨u,by simpa using a,b⟩
theorem nN.set (r:nM x u):∀ {j:Aa V}{g:Aa Ac}(i:Nat),nN j g->nN (j.set i x) (g.set i u)
 | _,_,_,.nil=>.nil
 | _,_,0,.cons _ t=>.cons r t
 | _,_,i+1,.cons q t=>.cons q (nN.set r i t)
theorem nN.append:∀ {l o:Aa V}{g j:Aa Ac},nN l g->nN o j->nN (l++o) (g++j)
 | _,_,_,_,.nil,s=>s
 | _,_,_,_,.cons r t,s=>.cons r (nN.append t s)
theorem nN.take:∀ {j:Aa V}{g:Aa Ac}(n:Nat),nN j g->nN (j.take n) (g.take n)
 | _,_,0,_=>.nil
 | _,_,_+1,.nil=>.nil
 | _,_,n+1,.cons r t=>.cons r (nN.take n t)
theorem nN.drop:∀ {j:Aa V}{g:Aa Ac}(n:Nat),nN j g->nN (j.drop n) (g.drop n)
 | _,_,0,r=>r
 | _,_,_+1,.nil=>.nil
 | _,_,n+1,.cons _ t=>nN.drop n t
def sS:Ab V->Ab Ac->Prop
 | some v,some u=>nM v u
 | none,none=>True
 | _,_=>False
def KV {g:Type}:Aa (g×V)->Aa (g×Ac)->Prop:=Paired λ(p:g×V) (q:g×Ac)=>p.1=q.1/\nM p.2 q.2
def kV:gV->V
 | .inl i=>.int i
 | .inr x=>.str x
inductive HO where
 | l (xs:List V)
 | t (xs:List V)
 | k (kvs:List (gV×V)) | T (kvs:List (List gV×V)) | dM (kvs:List (MK×V))
 | set (S:Int->Bool) (n:Nat)
 | ins (C dx:Addr) (fs:List (Str×V))
 | o (x:Addr)
 | xd (fs:List (Str×V))
 | met (f x:Addr)
 | rng (lo hi:Int)
 | frz (o:Obj) (u:HO)
 | tbl (ps:Array Value)
 | ext (φ:Heap->Prop)
abbrev Hp:=Ad->Ab HO
def upd (H:Hp) (a:Ad) (o:HO):Hp:=λb=>if b=a then some o else H b
theorem hG:upd H a o a=some o:=by unfold upd;rw[if_pos rfl]
theorem gD (h:b≠a):upd H a o b=H b:=by unfold upd;rw[if_neg h]
theorem JL:upd (upd H a o) a u=upd H a u:=by
 funext b;unfold upd;split<;>rfl
theorem zN {H:Hp}{a b:Ad}{o u:HO}(h:H a=some o) (g:H b=some u) (d:o≠u):a≠b:=by
 intro e;subst e;rw[h] at g;exact d (bO g)
theorem hV {H:Hp}{a b:Ad}{o:HO}(h:H a=some o) (g:H b=none):a≠b:=by
 intro e;subst e;rw[h] at g;cases g
section
variable (P:Ah) (w:World)
def vR (h:Ag) (a:Ad) (items:Array Ac):Prop:=IsTup h a items/\∃ o,h.get? a=some o/\o.dict=none
theorem vR.new (h:Ag) (items:Array Ac):vR (h.push { cls:=.type "tuple",data:=.seq items }) h.objs.size items:=⟨IsTup.new _ _,_,bB _ rfl,rfl⟩
def wD (H:Hp):MK->V->Prop
 | .inl k,y=>y=kV k
 | .inr a,y=>∃ b,y = .ref b/\H b=some (.t (a.map kV))
def tZ (H:Hp):MK->Ac->Prop
 | .inl k,u=>nM (kV k) u
 | .inr a,u=>∃ b,u = .ref b/\H b=some (.t (a.map kV))
def oM (H:Hp) (h:Ag) (a:Ad):HO->Prop
 | .l c=>c.length<=sizeLine/\∃ (d:Aa Ac) (n:Nat),nN c d/\h.get? a=some { cls:=.type "list",data:=.seq d.toArray n }
 | .t c=>c.length<=sizeLine/\∃ d:Aa Ac,nN c d/\vR h a d.toArray
 | .k b=>b.length<=sizeLine/\(a == sysModules)=false/\∃ B,KV b B/\h.DictOf (oG P w) a B
 | .T b=>b.length<=sizeLine/\(a == sysModules)=false/\∃ c:Aa (Aa gV×Ad×Ac),
   Paired (λ(p:Aa gV×V) (q:Aa gV×Ad×Ac)=>p.1=q.1/\H q.2.1=some (.t (p.1.map kV))/\nM p.2 q.2.2) b c /\
   ∃ o i s,h.get? a=some o/\o.ExactDict/\o.data = .dict i s/\i.toList=c.map (entryOfKey (tupleKind (oG P w)))/\(c.map (·.1)).Nodup
 | .dM b=>b.length<=sizeLine/\(a == sysModules)=false/\∃ c:Aa (MK×Ac×Ac),
   Paired (λ(p:MK×V) (q:MK×Ac×Ac)=>p.1=q.1/\tZ H p.1 q.2.1/\nM p.2 q.2.2) b c /\
   ∃ o i s,h.get? a=some o/\o.ExactDict/\o.data = .dict i s/\i.toList=c.map (tD P w)/\(c.map (·.1)).Nodup
 | .set S n=>h.SetOf (intKind P w) a S n
 | .ins C m fs=>H m=some (.o a)/\fs.length<=1000/\m≠a/\h.get? a=some (PySem.W.instObj C m) /\
   ∃ e,h.Ns1 m e/\(∀ f,sS (fs.lookup f) (e f))/\PySem.Within e (fs.map (·.1))
 | .o _=>∃ o,h.get? a=some o
 | .xd fs=>∃ e,h.Ns1 a e/\∀ f,sS (fs.lookup f) (e f)
 | .rng lo D=>∃ t u v,h.get? a=some { cls:=.type "range",data:=.fields #[.int lo t,.int D u,.int 1 v] }
 | .frz o u=>h.get? a=some o/\oM H h a u
 | .tbl E=>h.get? a=some { cls:=.none,data:=.fields E }
 | .met f x=>h.get? a=some (PySem.W.methodObj (.ref f) (.ref x))
 | .ext y=>y h/\(∃ o,h.get? a=some o)/\∀ z A:Ag,y z->(∀ o,z.get? a=some o->A.get? a=some o)->y A
def oX (H:Hp) (h:Ag):Prop:=∀ a o,H a=some o->oM P w H h a o
end
section
variable {P:Ah}
theorem oM.lt (x:oM P w H h a o):a<h.objs.size:=by
 cases o with
 | l c=>obtain⟨_,_,_,_,e⟩:=x;exact aV e
 | t c=>obtain⟨_,_,_,p,_⟩:=x;exact p.lt
 | k b=>obtain⟨_,_,_,_,o,_,_,e,_⟩:=x;exact aV e
 | T b=>obtain⟨_,_,_,_,o,_,_,e,_⟩:=x;exact aV e
 | dM b=>obtain⟨_,_,_,_,o,_,_,e,_⟩:=x;exact aV e
 | set S n=>obtain⟨o,_,_,_,e,_⟩:=x;exact aV e
 | ins C d fs=>obtain⟨_,_,_,e,_⟩:=x;exact aV e
 | o y=>obtain⟨_,e⟩:=x;exact aV e
 | xd fs=>obtain⟨_,⟨_,_,_,e,_⟩,_⟩:=x;exact aV e
 | rng lo i=>obtain⟨_,_,_,e⟩:=x;exact aV e
 | frz m u=>obtain⟨e,_⟩:=x;exact aV e
 | tbl q=>exact aV (show h.get? a=some _ from x)
 | met f y=>exact aV (show h.get? a=some _ from x)
 | ext s=>obtain⟨_,⟨_,e⟩,_⟩:=x;exact aV e
theorem Paired.mapP {F:l->o->Prop}:∀ {g:Aa l}{j:Aa o},Paired F g j->(∀ a b,F a b->G a b)->Paired G g j
 | _,_,.nil,_=>.nil
 | _,_,.cons r t,f=>.cons (f _ _ r) (Paired.mapP t f)
theorem P1 (l:∀ b g,H b=some (.t g)->j b=some (.t g)) (h:tZ H k u):tZ j k u:=by
 rcases k with k | a
 .exact h
 .obtain⟨b,e,q⟩:=h;exact⟨b,e,l _ _ q⟩
theorem oM.stay (x:oM P w H h a o) (k:∀ b u,(b=a\/H b=some (.o a))->h.get? b=some u->j.get? b=some u)
  (U:∀ b,H b=some (.o a)->I b=some (.o a)) (J:∀ b g,H b=some (.t g)->I b=some (.t g)):oM P w I j a o:=by
 induction o with
 | l g=>obtain⟨z,A,n,r,e⟩:=x;exact⟨z,A,n,r,k _ _ (.inl rfl) e⟩
 | t g=>obtain⟨z,A,r,⟨i,e,c⟩,M,D,K⟩:=x;exact⟨z,A,r,⟨i,k _ _ (.inl rfl) e,c⟩,M,k _ _ (.inl rfl) D,K⟩
 | k B=>obtain⟨z,y,N,r,i,s,m,e,c⟩:=x;exact⟨z,y,N,r,i,s,m,k _ _ (.inl rfl) e,c⟩
 | T B =>
  obtain⟨z,y,g,r,i,s,m,e,c⟩:=x;exact⟨z,y,g,Paired.mapP r λp q z=>⟨z.1,J _ _ z.2.1,z.2.2⟩,i,s,m,k _ _ (.inl rfl) e,c⟩
 | dM B =>
  obtain⟨z,y,g,r,i,s,m,e,c⟩:=x;exact⟨z,y,g,Paired.mapP r λp q z=>⟨z.1,P1 J z.2.1,z.2.2⟩,i,s,m,k _ _ (.inl rfl) e,c⟩
 | set S n=>obtain⟨i,s,m,t,e,c⟩:=x;exact⟨i,s,m,t,k _ _ (.inl rfl) e,c⟩
 | ins C O fs =>
  obtain⟨d,z,ne,e,E,⟨F,s,m,D,c⟩,r⟩:=x;exact⟨U _ d,z,ne,k _ _ (.inl rfl) e,E,⟨F,s,m,k _ _ (.inr d) D,c⟩,r⟩
 | o y=>obtain⟨i,e⟩:=x;exact⟨i,k _ _ (.inl rfl) e⟩
 | xd fs=>obtain⟨E,⟨F,s,m,e,c⟩,r⟩:=x;exact⟨E,⟨F,s,m,k _ _ (.inl rfl) e,c⟩,r⟩
 | rng lo Q=>obtain⟨t,u,v,e⟩:=x;exact⟨t,u,v,k _ _ (.inl rfl) e⟩
 | frz i u L=>obtain⟨e,q⟩:=x;exact⟨k _ _ (.inl rfl) e,L q⟩
 | tbl G =>
  have e:h.get? a=some { cls:=.none,data:=.fields G }:=x;show j.get? a=some { cls:=.none,data:=.fields G };exact k a _ (.inl rfl) e
 | met f y =>
  have e:h.get? a=some (PySem.W.methodObj (.ref f) (.ref y)):=x;show j.get? a=some (PySem.W.methodObj (.ref f) (.ref y));exact k a _ (.inl rfl) e
 | ext R=>obtain⟨p,⟨o,e⟩,st⟩:=x;exact⟨st _ _ p λo q=>k _ _ (.inl rfl) q,⟨o,k _ _ (.inl rfl) e⟩,st⟩
theorem oX.lt (x:oX P w H h) (e:H a=some o):a<h.objs.size:=(x a o e).lt
theorem oX.fresh (x:oX P w H h) (e:h.objs.size<=a):H a=none:=by
 cases q:H a with
 | none=>rfl
 | some u=>exact absurd (aR (x.lt q) e) (eR _)
theorem oX.kept (x:oX P w H h) (k:∀ b u,h.get? b=some u->h'.get? b=some u):oX P w H h':=λa o e =>
 (x a o e).stay (λb u _ q=>k b u q) (λ_ q=>q) λ_ _ q=>q
theorem oX.laid (x:oX P w H h) (k:∀ b u,h.get? b=some u->g.get? b=some u) (j:h.objs.size<=a) (new:oM P w (upd H a o) g a o):oX P w (upd H a o) g:=λb u e=>by
 have f:=x.fresh j;by_cases d:b=a
 .subst d;rw[hG] at e;cases e;exact new
 .rw[gD d] at e;exact (x b u e).stay (λc v _ q=>k c v q) (λc q=>by rw[gD (hV q f)];exact q) λc i q=>by rw[gD (hV q f)];exact q
end
def Rd (H:Hp) (a:Ad) (u:HO):Prop:=H a=some u\/∃ o,H a=some (.frz o u)
theorem Rd.ok {P:Ah}(r:Rd H a u) (x:oX P w H h):oM P w H h a u:=by
 rcases r with r | ⟨o,r⟩
 .exact x a u r
 .obtain⟨_,q⟩:=x a _ r;exact q
def Ca:Ab HO->Prop
 | some (.l _)=>True
 | some (.k _)=>True
 | some (.T _)=>True
 | some (.dM _)=>True
 | some (.set _ _)=>True
 | some (.ins _ _ _)=>True
 | some (.ext _)=>True
 | _=>False
section
variable {P:Ah}
theorem oX.write (ok:oX P w H h) (g:Ca (H x)) (p:e=x\/H e=some (.o x)) (k:∀ b u,b≠e->h.get? b=some u->j.get? b=some u) (l:∃ u,j.get? e=some u)
  (new:oM P w (upd H x C) j x C):oX P w (upd H x C) j:=λb u q=>by
 have d:∀ c y,H c=some (.o y)->c≠x:=λc y r z=>by subst z;rw[r] at g;exact g
 have f:∀ c n,H c=some (.t n)->c≠x:=λc n r z=>by subst z;rw[r] at g;exact g
 by_cases i:b=x
 .subst i;rw[hG] at q;cases q;exact new
 .rw[gD i] at q;by_cases a:b=e
  .have s:H b=some (.o x):=by
    rcases p with z | z
    .exact absurd (a.trans z) i
    .rw[a];exact z
   rw[q] at s;cases s;obtain⟨v,A⟩:=l;exact⟨v,by rw[a];exact A⟩
  .refine (ok b u q).stay (λc v m r=>k c v ?_ r) (λc r=>by rw[gD (d c b r)];exact r) λc n r=>by rw[gD (f c n r)];exact r
   rcases m with rfl | m
   .exact a
   .rintro rfl;rcases p with z | z
    .exact d c b m z
    .rw[m] at z;cases z;exact i rfl
end
structure Un (fs ex:List Addr) (H H':Hp) (h h':Heap):Prop where
 keep:∀ b o,h.get? b=some o->H b=none->b∉fs->b∉ex->h'.get? b=some o
 slot:∀ b o,h.get? b=some o->H b=none->b∈fs->b∉ex->∃ sl,h'.get? b=some { o with slots:=sl }
 free:∀ b o,h.get? b=some o->H b=none->b∉ex->H' b=none
 there:∀ b o,h.get? b=some o->b∉ex->∃ o',h'.get? b=some o'
 tups:∀ b xs,H b=some (.t xs)->H' b=some (.t xs)
 frzs:∀ b o u,H b=some (.frz o u)->H' b=some (.frz o u)
 tbls:∀ b ps,H b=some (.tbl ps)->∃ more,H' b=some (.tbl (ps++more))
section
theorem Un.any (u:Un fs l H p h o) (q:h.get? b=some g) (n:H b=none) (j:b∉l):∃ sl,o.get? b=some { g with slots:=sl }:=by
 by_cases a:b∈fs
 .exact u.slot b g q n a j
 .exact⟨g.slots,u.keep b g q n a j⟩
theorem Un.kept (k:∀ b u,h.get? b=some u->h'.get? b=some u):Un fs g H H h h' :=
 ⟨λb a q _ _ _=>k b a q,λb a q _ _ _=>⟨a.slots,k b a q⟩,λ_ _ _ n _=>n,λb a q _=>⟨a,k b a q⟩,λ_ _ q=>q,λ_ _ _ q=>q,λ_ c q=>⟨#[],by rw[q];simp⟩⟩
theorem Un.refl:Un fs g H H h h:=Un.kept λ_ _ q=>q
theorem Un.laid (k:∀ b u,h.get? b=some u->j.get? b=some u) (l:h.objs.size<=a) (g:H a=none):Un fs p H (upd H a o) h j where
 keep:=λb u q _ _ _=>k b u q
 slot:=λb u q _ _ _=>⟨u.slots,k b u q⟩
 free:=λb u q n _=>by rw[gD (bG (aR (aV q) l))];exact n
 there:=λb u q _=>⟨u,k b u q⟩
 tups:=λb c q=>by rw[gD (hV q g)];exact q
 frzs:=λb u c q=>by rw[gD (hV q g)];exact q
 tbls:=λb d q=>⟨#[],by rw[gD (hV q g),q];simp⟩
theorem Un.write (g:Ca (H x)) (p:e=x\/H e=some (.o x)) (k:∀ b u,b≠e->h.get? b=some u->l.get? b=some u) (j:∃ u,l.get? e=some u):Un fs C H (upd H x o) h l:=by
 have f:∀ b,H b=none->b≠x:=λb n z=>by subst z;rw[n] at g;exact g
 have d:∀ b,H b=none->b≠e:=λb n z=>by
  subst z;rcases p with r | r
  .exact f b n r
  .rw[n] at r;cases r
 have c:∀ b u,H b=some u->¬ Ca (some u)->b≠x:=λb u q i z=>by subst z;rw[q] at g;exact i g
 refine⟨λb u q n _ _=>k b u (d b n) q,λb u q n _ _=>⟨u.slots,k b u (d b n) q⟩,λb u q n _=>by rw[gD (f b n)];exact n,λb u q _=>?_,
  λb m q=>by rw[gD (c b _ q λz=>z)];exact q,λb u m q=>by rw[gD (c b _ q λz=>z)];exact q,λb s q=>⟨#[],by rw[gD (c b _ q λz=>z),q];simp⟩⟩
 by_cases a:b=e
 .subst a;exact j
 .exact⟨u,k b u a q⟩
end
noncomputable def F5 (h:Ag) (H:Hp):Aa Ad:=(List.range h.objs.size).filter λa=>(H a).isSome
def wN (h:Ag) (H:Hp):Ag:=PySem.W.hideAll h (F5 h H)
theorem MG (h:Ag) (H:Hp):(wN h H).objs.size=h.objs.size:=PySem.W.hideAll_size _ _
theorem HS (e:h.get? b=some o) (n:H b=none):(wN h H).get? b=some o :=
 PySem.W.hideAll_get _ e λa=>by
  have q:(H b).isSome=true:=(bR.mp a).2;rw[n] at q;simp at q
theorem Wu (e:(wN h H).get? b=some o):h.get? b=some o/\H b=none:=by
 have a:h.get? b=some o:=PySem.W.of_hideAll (F5 h H) e;refine⟨a,?_⟩;cases q:H b with
 | none=>rfl
 | some x =>
  have c:b∈F5 h H:=bR.mpr ⟨cB.mpr (aV a),by simp[q]⟩;have z:(wN h H).get? b=none:=PySem.W.hideAll_none (F5 h H) c;rw[z] at e;cases e
structure Mod (K:nH) (mg:Str->Option Value) (base:Heap):Prop where
 kin:K.In base
 glob:base.Ns mainGlobals mg
 blt:∃ mb,base.Ns builtinsNs mb/\∀ x:Str,x ≠ "__name__" -> mb x=bootBuiltins x
 nolimit:base.NoLimit
/-- the context: a def's body (or a comprehension's block) running. base: fixed through the whole law;s₀,H₀: the entry;outer: the frames whose slots others may change (a def's callers);stack: all frames that run;
 ex: iterators that were made ahead of the entry and are walked here (a comprehension's);fn: the names whose cells were made at the entry (a def: all;a comprehension's block: its own);calm: not within an except suite;pn: pins that every state bears;xe: what is wanted of an exception that leaves the code -/
structure Cx where
 prog:Program
 w:World
 K:nH
 mg:Str->Option Value
 base:Heap
 A:Around
 N:List Str
 s₀:Shared
 H₀:Hp
 env:Env
 outer:List Env
 stack:List Env
 ex:List Addr
 fn:Str->Bool
 calm:Bool
 pn:List (Addr×Obj)
 xe:Value->Shared->Prop
noncomputable def uQ (l:Aa Env):Aa Ad:=l.filterMap (·.frame)
abbrev Cx.fs (X:Cx):Aa Ad:=uQ X.outer
def Lb (g:Scope) (x:Af):Prop:=g.names.lookup x=some .local\/g.names.lookup x=some .cell\/g.names.lookup x=some .free
def vI (g:Scope) (x:Af):Prop:=g.names.lookup x=some .local\/g.names.lookup x=some .cell
def LF (g:Env) (h:Ag) (m:Af->Ab Ac) (x:Af) (u:Ac):Prop :=
 (g.kindOf x=some .local/\m x=some u)\/((g.kindOf x=some .cell\/g.kindOf x=some .free)/\∃ c,g.cells.lookup x=some c/\h.IsCell c (some u))
structure Cx.Ok (X:Cx):Prop where
 mod:Mod X.K X.mg X.base
 kind:X.env.scope.kind = .function
 glob:X.env.globals=mainGlobals
 blt:X.env.builtins=builtinsNs
 above:X.s₀.heap.objs.size<=X.env.locals
 inj:∀ x y c,X.env.cells.lookup x=some c->X.env.cells.lookup y=some c->x=y
 has:∀ x,(X.env.kindOf x=some .cell\/X.env.kindOf x=some .free)->∃ c,X.env.cells.lookup x=some c
 cab:∀ x c,X.fn x=true->X.env.cells.lookup x=some c->X.s₀.heap.objs.size<=c
 hd:X.calm=true->X.A.handled=none
 frames:X.A.frames=some X.stack
 stk:X.stack=X.outer\/(X.stack=X.env::X.outer/\X.env.frame=some X.env.locals)
 exf:∀ b∈X.ex,b≠X.env.locals/\∀ x c,X.env.cells.lookup x=some c->c≠b
 bs:∀ b o,X.base.get? b=some o->X.s₀.heap.get? b=some o/\X.H₀ b=none
 bsz:X.base.objs.size<=X.s₀.heap.objs.size
 noex:∀ b o,X.base.get? b=some o->b∉X.ex
 exfs:∀ b∈X.ex,b∉X.fs
 funs:X.s₀.heap.FunFrames X.base X.outer
 frf:∀ b∈X.fs,X.H₀ b=none
structure Inv (X:Cx) (pins:List (Addr×Obj)) (σ:List (Option V)) (H:Hp) (s:Shared):Prop where
 ok:X.Ok
 os:s.os=X.s₀.os
 bare:AllBare s.gens
 base:Un X.fs X.ex X.H₀ H X.s₀.heap s.heap
 loc:∃ m,s.heap.Ns X.env.locals m/\∀ (i:Nat) (x:Str) (v:V),X.N[i]?=some x->σ[i]?=some (some v)->Lb X.env.scope x->∃ u,nM v u/\LF X.env s.heap m x u
 cell:∀ x c,X.env.cells.lookup x=some c->∃ v,s.heap.IsCell c v
 free:H X.env.locals=none
 freeC:∀ x c,X.env.cells.lookup x=some c->H c=none
 pin:∀ p∈X.pn++pins,s.heap.get? p.1=some p.2/\H p.1=none/\p.1≠X.env.locals/\p.1∉X.fs/\∀ v,p.2.data ≠ .cell v
 hok:oX X.prog X.w H s.heap
 len:σ.length=X.N.length
section
variable {X:Cx}
theorem Cx.Ok.nofr (ok:X.Ok) (e:X.base.get? b=some o):b∉X.fs:=λa=>by
 have:=(ok.funs.mem a).1;rw[e] at this;cases this
theorem Inv.bs (I:Inv X g j H s):∀ b o,X.base.get? b=some o->s.heap.get? b=some o/\H b=none:=λb o e =>
 ⟨I.base.keep b o (I.ok.bs b o e).1 (I.ok.bs b o e).2 (I.ok.nofr e) (I.ok.noex b o e),I.base.free b o (I.ok.bs b o e).1 (I.ok.bs b o e).2 (I.ok.noex b o e)⟩
theorem Inv.bk (I:Inv X g j H s):∀ b o,X.base.get? b=some o->s.heap.get? b=some o:=λb o e=>(I.bs b o e).1
theorem Inv.mod (I:Inv X g j H s):Mod X.K X.mg X.base:=I.ok.mod
theorem Inv.kIn (I:Inv X g j H s):X.K.In s.heap:=I.ok.mod.kin.keeps I.bk
theorem Inv.lt (I:Inv X g j H s):X.env.locals<s.heap.objs.size:=let ⟨_,a,_⟩:=I.loc;a.lt
theorem Inv.sz (I:Inv X g j H s):X.s₀.heap.objs.size<=s.heap.objs.size:=bF I.ok.above (eT I.lt)
theorem Inv.nofs (I:Inv X g j H s) (h:s.heap.objs.size<=a):a∉X.fs:=λb=>by
 obtain⟨_,o,c,_⟩:=I.ok.funs.mem b;exact absurd (aR (aV c) (bF I.sz h)) (eR _)
theorem Inv.cne (I:Inv X g j H s):∀ x c,X.env.cells.lookup x=some c->c≠X.env.locals:=λx c e z=>by
 obtain⟨v,o,d,hd⟩:=I.cell x c e;obtain⟨m,⟨i,h,f,b,a,_⟩,_⟩:=I.loc;rw[z,b] at d;cases d;rw[a] at hd;cases hd
theorem Inv.funs (I:Inv X g j H s):s.heap.FunFrames X.base X.outer:=by
 have all:∀ (l:Aa Env),(∀ b∈uQ l,b∈X.fs)->X.s₀.heap.FunFrames X.base l->s.heap.FunFrames X.base l:=by
  intro l;induction l with
  | nil=>intro _ _;trivial
  | cons h r q =>
   intro f i;obtain⟨hk,⟨L,o,d,k,m,hd⟩,n⟩:=i;have a:L∈X.fs:=f L (by unfold uQ;rw[List.filterMap_cons,d];exact aF);obtain⟨sl,e⟩:=I.base.slot L o m (I.ok.frf L a) a λz=>I.ok.exfs L z a
   exact⟨hk,⟨L,_,d,k,e,hd⟩,q (λb c=>f b (by unfold uQ;rw[List.filterMap_cons,d];exact aH _ c)) n⟩
 exact all X.outer (λ_ c=>c) I.ok.funs
theorem Inv.stack (I:Inv X g j H s):s.heap.FunFrames X.base X.stack:=by
 rcases I.ok.stk with e | ⟨e,a⟩
 .rw[e];exact I.funs
 .rw[e];obtain⟨m,b,_⟩:=I.loc;refine .cons (by rw[I.ok.kind];decide) a b ?_ I.funs;exact Heap.get?_none_of_le (bF I.ok.bsz I.ok.above)
theorem Inv.stkSub (I:Inv X g j H s):∀ b∈uQ X.stack,b∈X.env.locals::X.fs:=λb a=>by
 rcases I.ok.stk with e | ⟨e,c⟩
 .rw[e] at a;exact aH _ a
 .rw[e] at a;unfold uQ at a;rw[kD,c] at a;exact a
theorem Inv.stkFree (I:Inv X g j H s):∀ b∈uQ X.stack,H b=none:=λb a=>by
 rcases aI.mp (I.stkSub b a) with e | a
 .rw[e];exact I.free
 .obtain⟨_,o,c,_⟩:=I.ok.funs.mem a;exact I.base.free b o c (I.ok.frf b a) λz=>I.ok.exfs b z a
theorem Inv.step {g':Array GenState}{t':Nat}{d':Drawn}{ch:Aa Ad}(I:Inv X j σ H s)
  (g:∀ b∈ch,(b∈X.ex\/X.s₀.heap.objs.size<=b)/\b≠X.env.locals/\(∀ x c,X.env.cells.lookup x=some c->c≠b)/\∀ p∈X.pn++j,p.1≠b)
  (keep:∀ b o,b≠X.env.locals->b∉X.fs->b∉ch->s.heap.get? b=some o->H b=none->J.get? b=some o)
  (slot:∀ b o,b≠X.env.locals->b∈X.fs->b∉ch->s.heap.get? b=some o->H b=none->∃ sl,J.get? b=some { o with slots:=sl }) (free:∀ b o,b∉ch->s.heap.get? b=some o->H b=none->T b=none)
  (there:∀ b o,b∉ch->s.heap.get? b=some o->∃ o',J.get? b=some o')
  (ab:∀ b C,H b=some (.t C)->T b=some (.t C)) (U:∀ b o u,H b=some (.frz o u)->T b=some (.frz o u)) (aa:∀ b ps,H b=some (.tbl ps)->∃ more,T b=some (.tbl (ps++more)))
  (ns:∀ m,s.heap.Ns X.env.locals m->J.Ns X.env.locals m) (ac:oX X.prog X.w T J) (hg:AllBare g') :
  Inv X j σ T { s with heap:=J,gens:=g',drawn:=d',toks:=t' }:=by
 have F:∀ b o,X.s₀.heap.get? b=some o->b≠X.env.locals:=λb o e=>bG (aR (aV e) I.ok.above)
 have A:∀ b o,X.s₀.heap.get? b=some o->b∉X.ex->b∉ch:=λb o e a B=>by
  rcases (g b B).1 with z | z
  .exact a z
  .exact absurd (aR (aV e) z) (eR _)
 have f:∀ x c,X.env.cells.lookup x=some c->∀ v,s.heap.IsCell c v->J.IsCell c v:=λx c e v G=>by
  obtain⟨o,D,hd⟩:=G;have h:c∉ch:=λz=>(g c z).2.2.1 x c e rfl
  by_cases L:c∈X.fs
  .obtain⟨sl,q⟩:=slot c o (I.cne x c e) L h D (I.freeC x c e);exact⟨_,q,hd⟩
  .exact⟨o,keep c o (I.cne x c e) L h D (I.freeC x c e),hd⟩
 refine⟨I.ok,I.os,hg,⟨λb o e n B a=>?_,λb o e n B a=>?_,λb o e n a=>?_,λb o e a=>?_,λb C e=>ab b C (I.base.tups b C e),λb o C e=>U b o C (I.base.frzs b o C e),λb ps e=>?_⟩,?_,λx c e=>?_,?_,λx c e=>?_,λp M=>?_,ac,I.len⟩
 .exact keep b o (F b o e) B (A b o e a) (I.base.keep b o e n B a) (I.base.free b o e n a)
 .obtain⟨sl,y⟩:=I.base.slot b o e n B a;obtain⟨K,E⟩:=slot b _ (F b o e) B (A b o e a) y (I.base.free b o e n a);exact⟨K,E⟩
 .obtain⟨o',y⟩:=I.base.there b o e a;exact free b o' (A b o e a) y (I.base.free b o e n a)
 .obtain⟨o',y⟩:=I.base.there b o e a;exact there b o' (A b o e a) y
 .obtain⟨R,y⟩:=I.base.tbls b ps e;obtain⟨S,E⟩:=aa b _ y;exact⟨R++S,by rw[E,Array.append_assoc]⟩
 .obtain⟨m,Q,P⟩:=I.loc;refine⟨m,ns m Q,λi x v y E O=>?_⟩;obtain⟨u,r,l⟩:=P i x v y E O;refine⟨u,r,?_⟩;rcases l with l | ⟨k,c,e,z⟩
  .exact .inl l
  .exact .inr ⟨k,c,e,f x c e _ z⟩
 .obtain⟨v,z⟩:=I.cell x c e;exact⟨v,f x c e v z⟩
 .obtain⟨m,⟨o,_,_,D,_⟩,_⟩:=I.loc;exact free _ o (λz=>(g _ z).2.1 rfl) D I.free
 .obtain⟨v,o,D,hd⟩:=I.cell x c e;exact free c o (λz=>(g c z).2.2.1 x c e rfl) D (I.freeC x c e)
 .obtain⟨e,n,ne,N,d⟩:=I.pin p M;have h:p.1∉ch:=λz=>(g p.1 z).2.2.2 p M rfl
  exact⟨keep p.1 p.2 ne N h e n,free p.1 p.2 h e n,ne,N,d⟩
theorem Inv.un (I:Inv X g p H s) (u:Un X.fs [] H l s.heap h') (j:oX X.prog X.w l h'):Inv X g p l { s with heap:=h',toks:=t' }:=by
 obtain⟨m,⟨o,v,t,h,r⟩,_⟩:=id I.loc;obtain⟨sl,i⟩:=u.any h I.free (by simp);exact I.step (g':=s.gens) (d':=s.drawn) (ch:=[]) (λ_ z=>nomatch z) (λb o _ f _ e n=>u.keep b o e n f (by simp)) (λb o _ f _ e n=>u.slot b o e n f (by simp)) (λb o _ e n=>u.free b o e n (by simp)) (λb o _ e=>u.there b o e (by simp)) u.tups u.frzs u.tbls (λx k=>by
  obtain⟨y,d,c,a,q⟩:=k;rw[h] at a;cases a;exact⟨_,d,c,i,q⟩) j I.bare
theorem Inv.call (I:Inv X g T H s) (u:Un (uQ X.stack) ch H C s.heap h') (l:oX X.prog X.w C h') (J:AllBare g')
  (j:∀ b∈ch,(b∈X.ex\/X.s₀.heap.objs.size<=b)/\b≠X.env.locals/\(∀ x c,X.env.cells.lookup x=some c->c≠b)/\∀ p∈X.pn++g,p.1≠b) :
  Inv X g T C { s with heap:=h',gens:=g',drawn:=d',toks:=t' }:=by
 obtain⟨m,⟨o,A,y,k,r⟩,_⟩:=id I.loc;obtain⟨sl,i⟩:=u.any k I.free λz=>(j _ z).2.1 rfl
 exact I.step (ch:=ch) j (λb o i q a e n=>u.keep b o e n (λz=>(aI.mp (I.stkSub b z)).elim i q) a) (λb o _ _ a e n=>u.any e n a) (λb o a e n=>u.free b o e n a) (λb o a e=>u.there b o e a) u.tups u.frzs u.tbls (λB t=>by
  obtain⟨D,h,f,d,v⟩:=t;rw[k] at d;cases d;exact⟨_,h,f,i,v⟩) l J
theorem Inv.turned (I:Inv X j σ H s) (k:∀ b o,b≠g->s.heap.get? b=some o->C.get? b=some o) (hn:H g=none) (l:g≠X.env.locals)
  (J:g∈X.ex\/X.s₀.heap.objs.size<=g) (T:∀ x c,X.env.cells.lookup x=some c->c≠g) (U:∀ p∈X.pn++j,p.1≠g):Inv X j σ H { s with heap:=C,toks:=t' }:=by
 have d:∀ b u,H b=some u->b≠g:=λb u e z=>by rw[z,hn] at e;cases e
 refine I.step (g':=s.gens) (d':=s.drawn) (ch:=[g]) (λb i=>?_) (λb o _ _ a e _=>k b o (λz=>a (by simp[z])) e) (λb o _ _ a e _=>⟨o.slots,k b o (λz=>a (by simp[z])) e⟩) (λ_ _ _ _ n=>n)
  (λb o a e=>⟨o,k b o (λz=>a (by simp[z])) e⟩) (λ_ _ e=>e) (λ_ _ _ e=>e) (λb y e=>⟨#[],by rw[e];simp⟩) (λm t=>?_) (λb u e=>?_) I.bare
 .have e:b=g:=by simpa using i
  subst e;exact⟨J,l,T,U⟩
 .obtain⟨o,h,f,w,r⟩:=t;exact⟨o,h,f,k _ o (fB l) w,r⟩
 .refine (I.hok b u e).stay (λc v a q=>k c v ?_ q) (λ_ q=>q) λ_ _ q=>q
  rcases a with z | z
  .rw[z];exact d b u e
  .exact d c _ z
theorem Inv.tok (I:Inv X g j H s) (t:Nat):Inv X g j H { s with toks:=t }:=I.un (h':=s.heap) (t':=t) Un.refl I.hok
theorem Inv.kept (I:Inv X g j H s) (k:∀ b u,s.heap.get? b=some u->h'.get? b=some u):Inv X g j H { s with heap:=h',toks:=t' }:=I.un (Un.kept k) (I.hok.kept k)
theorem Inv.laid (I:Inv X g p H s) (k:∀ b u,s.heap.get? b=some u->l.get? b=some u) (j:s.heap.objs.size<=a) (new:oM X.prog X.w (upd H a o) l a o) :
  Inv X g p (upd H a o) { s with heap:=l,toks:=t' }:=I.un (Un.laid k j (I.hok.fresh j)) (I.hok.laid k j new)
theorem Inv.write (I:Inv X j C H s) (r:Ca (H x)) (p:e=x\/H e=some (.o x)) (k:∀ b u,b≠e->s.heap.get? b=some u->l.get? b=some u) (g:∃ u,l.get? e=some u)
  (new:oM X.prog X.w (upd H x o) l x o):Inv X j C (upd H x o) { s with heap:=l,toks:=J }:=I.un (Un.write r p k g) (I.hok.write r p k g new)
theorem Inv.pins_of (I:Inv X j l H s) (h:∀ p∈g,s.heap.get? p.1=some p.2/\H p.1=none/\p.1≠X.env.locals/\p.1∉X.fs/\∀ v,p.2.data ≠ .cell v):Inv X g l H s :=
 ⟨I.ok,I.os,I.bare,I.base,I.loc,I.cell,I.free,I.freeC,λp a=>(aT.mp a).elim (λz=>I.pin p (bK _ z)) (h p),I.hok,I.len⟩
theorem Q5 {N:Aa Af}(g:N.Nodup){i j:Nat}{x:Af}(a:N[i]?=some x) (b:N[j]?=some x):i=j:=by
 obtain⟨e,c⟩:=aG.mp a;obtain⟨f,d⟩:=aG.mp b;exact (List.getElem_inj g).mp (c.trans d.symm)
theorem Pz (I:Inv X C σ H s) (hN:X.N.Nodup) (l:X.N[i]?=some x) (g:vI X.env.scope x) (r:nM v u)
  (h:∀ s',Inv X C (σ.set i (some v)) H s'->(∃ a,Heap.SameBut a s.heap s'.heap/\(a=X.env.locals\/X.env.cells.lookup x=some a))->Q () s') (hf:X.fn x=true\/X.env.scope.names.lookup x=some .local:=by first | exact .inl rfl | exact .inr rfl | assumption):wpAny M A (storeName X.env x u) Q E s:=by
 obtain⟨m,hn,hl⟩:=id I.loc;have W:(X.env.scope.kind == .class||(X.env.scope.kind == .module&&X.env.locals != X.env.globals))=false:=by rw[I.ok.kind];rfl
 have K:i<σ.length:=by rw[I.len];exact (aG.mp l).1
 have cne:=I.cne;have B:∀ {a:Ad} {R:Ag},(∃ o,s.heap.get? a=some o/\H a=none)->Heap.SameBut a s.heap R->oX X.prog X.w H R:=λ{a R} ha f b ob e=>by
  obtain⟨_,_,F⟩:=ha;refine (I.hok b ob e).stay (λc T D q=>(f.2 c ?_).trans q) (λ_ q=>q) λ_ _ q=>q
  rintro rfl;rcases D with rfl | D
  .rw[F] at e;cases e
  .rw[F] at D;cases D
 rcases g with hk | hk
 .refine wpAny_storeName_local hk hn (λR aa f=>?_) W;obtain⟨oL,_,_,ab,_⟩:=id hn;refine h _ ⟨I.ok,I.os,I.bare,⟨λb o e n L g=>?_,λb o e n L g=>?_,I.base.free,λb o e g=>?_,I.base.tups,I.base.frzs,I.base.tbls⟩,⟨_,aa,λj y v' t G U=>?_⟩,λy c e=>?_,I.free,I.freeC,λp hp=>?_,B ⟨oL,ab,I.free⟩ f,by simpa using I.len⟩ ⟨_,f,.inl rfl⟩
  .exact (f.2 b (bG (aR (aV e) I.ok.above))).trans (I.base.keep b o e n L g)
  .obtain⟨sl,t⟩:=I.base.slot b o e n L g;exact⟨sl,(f.2 b (bG (aR (aV e) I.ok.above))).trans t⟩
  .obtain⟨o',t⟩:=I.base.there b o e g;exact⟨o',(f.2 b (bG (aR (aV e) I.ok.above))).trans t⟩
  .by_cases P:j=i
   .subst P;rw[l] at t;cases t;rw[fQ K] at G;cases G;exact⟨u,r,.inl ⟨hk,by simp⟩⟩
   .rw[cI (fB P)] at G;obtain⟨u',r',q⟩:=hl j y v' t G U;refine⟨u',r',?_⟩;rcases q with⟨k,e⟩ | ⟨k,c,e,z⟩
    .refine .inl ⟨k,?_⟩;have:y≠x:=λe=>P (Q5 hN t (e▸l))
     simp[this,e]
    .exact .inr ⟨k,c,e,z.sameBut f (cne y c e)⟩
  .obtain⟨T,z⟩:=I.cell y c e;exact⟨T,z.sameBut f (cne y c e)⟩
  .obtain⟨e,n,ne,nf,d⟩:=I.pin p hp;exact⟨(f.2 p.1 ne).trans e,n,ne,nf,d⟩
 .have O:X.fn x=true:=by
   rcases hf with z | z
   .exact z
   .rw[z] at hk;cases hk
  obtain⟨c,D⟩:=I.ok.has x (.inl hk);obtain⟨T,z⟩:=I.cell x c D;refine wpAny_storeName_cell I.ok.kind hk D z (λR S f=>?_);obtain⟨oc,Y,Z⟩:=id z;refine h { s with heap:=R } ⟨I.ok,I.os,I.bare,⟨λb o e n L g=>?_,λb o e n L g=>?_,I.base.free,λb o e g=>?_,I.base.tups,I.base.frzs,I.base.tbls⟩,⟨m,hn.sameBut f (fB (cne x c D)),λj y v' t G U=>?_⟩,λy J e=>?_,I.free,I.freeC,λp hp=>?_,B ⟨oc,Y,I.freeC x c D⟩ f,by simpa using I.len⟩ ⟨c,f,.inr D⟩
  .exact (f.2 b (bG (aR (aV e) (I.ok.cab x c O D)))).trans (I.base.keep b o e n L g)
  .obtain⟨sl,t⟩:=I.base.slot b o e n L g;exact⟨sl,(f.2 b (bG (aR (aV e) (I.ok.cab x c O D)))).trans t⟩
  .obtain⟨o',t⟩:=I.base.there b o e g;exact⟨o',(f.2 b (bG (aR (aV e) (I.ok.cab x c O D)))).trans t⟩
  .by_cases P:j=i
   .subst P;rw[l] at t;cases t;rw[fQ K] at G;cases G;exact⟨u,r,.inr ⟨.inl hk,c,D,S⟩⟩
   .rw[cI (fB P)] at G;obtain⟨u',r',q⟩:=hl j y v' t G U;refine⟨u',r',?_⟩;rcases q with q | ⟨k,J,e,z'⟩
    .exact .inl q
    .refine .inr ⟨k,J,e,z'.sameBut f ?_⟩;rintro rfl;exact P (Q5 hN t (I.ok.inj _ _ _ e D▸l))
  .by_cases V:J=c
   .subst V;exact⟨_,S⟩
   .obtain⟨w2,z2⟩:=I.cell y J e;exact⟨w2,z2.sameBut f V⟩
  .obtain⟨e,n,ne,nf,d⟩:=I.pin p hp;refine⟨(f.2 p.1 ?_).trans e,n,ne,nf,d⟩;intro q;rw[q,Y] at e;have q':oc=p.2:=bO e;exact d T (by rw[<- q'];exact Z)
theorem F3 (I:Inv X g J H s) (l:X.N.Nodup) (p:X.N[i]?=some x) (C:vI X.env.scope x) (r:nM v u)
  (h:∀ j,Inv X g (J.set i (some v)) H j->Q () j) (o:X.fn x=true\/X.env.scope.names.lookup x=some .local:=by first | exact .inl rfl | exact .inr rfl | assumption):wpAny M A (storeName X.env x u) Q E s :=
 Pz I l p C r (λj a _=>h j a) o
theorem Inv.call' (I:Inv X g J H s) (C:s'.os=s.os) (u:Un (uQ X.stack) ch H o s.heap s'.heap) (l:oX X.prog X.w o s'.heap) (r:AllBare s'.gens)
  (j:∀ b∈ch,(b∈X.ex\/X.s₀.heap.objs.size<=b)/\b≠X.env.locals/\(∀ x c,X.env.cells.lookup x=some c->c≠b)/\∀ p∈X.pn++g,p.1≠b):Inv X g J o s':=by
 obtain⟨i,d,a,h,f⟩:=s';have e:f=s.os:=C;subst e;exact I.call (g':=d) (t':=h) (d':=a) u l r j
end
abbrev XK:=Ac->Ab Ad->Hp->Prop
abbrev St:=Aa (Ab V)
abbrev VK:=V->Hp->Prop
abbrev TE:=St->Hp->VK->Prop
abbrev TT:=St->Hp->(Bool->Hp->Prop)->Prop
abbrev TA:=St->Hp->(Aa V->Hp->Prop)->Prop
structure Ends where
 nx:St->Hp->Prop
 rt:VK
 bk:St->Hp->Prop:=λ_ _=>False
 ct:St->Hp->Prop:=λ_ _=>False
abbrev TS:=Ends->St->Hp->Prop
def EP (X:Cx) (g:Aa (Ad×Obj)) (l:St) (Q:VK) (u:Ac) (j:Ae):Prop:=∃ v a,Inv X g l a j/\nM v u/\Q v a
def TP (X:Cx) (g:Aa (Ad×Obj)) (l:St) (Q:Bool->Hp->Prop) (b:Bool) (j:Ae):Prop:=∃ a,Inv X g l a j/\Q b a
def AP (X:Cx) (g:Aa (Ad×Obj)) (o:St) (Q:Aa V->Hp->Prop) (l:Aa Ac) (j:Ae):Prop:=∃ b a,Inv X g o a j/\nN b l/\Q b a
def SP (X:Cx) (g:Aa (Ad×Obj)) (D:Ends) (f:Flow) (j:Ae):Prop :=
 match f with
 | .next=>∃ a b,Inv X g a b j/\D.nx a b
 | .brk=>∃ a b,Inv X g a b j/\D.bk a b
 | .cont=>∃ a b,Inv X g a b j/\D.ct a b
 | .ret u=>∃ v a b,Inv X g a b j/\nM v u/\D.rt v b
def PE (X:Cx) (e:Expr) (t:TE):Prop :=
 ∀ (a:Aa (Ad×Obj)) (s:Ae) (b:St) (H:Hp) (Q:VK),Inv X a b H s->t b H Q->wpAny (model X.prog X.w) X.A (eval e X.env) (EP X a b Q) X.xe s
def PT (X:Cx) (e:Expr) (t:TT):Prop :=
 ∀ (a:Aa (Ad×Obj)) (s:Ae) (b:St) (H:Hp) (Q:Bool->Hp->Prop),Inv X a b H s->t b H Q->wpAny (model X.prog X.w) X.A (isTrue e X.env (eval e X.env)) (TP X a b Q) X.xe s
def PW (X:Cx) (e:Expr) (t:TT):Prop :=
 ∀ (whole:Sem Ac) (a:Aa (Ad×Obj)) (s:Ae) (b:St) (H:Hp) (Q:Bool->Hp->Prop),Inv X a b H s->t b H Q->wpAny (model X.prog X.w) X.A (isTrue e X.env whole) (TP X a b Q) X.xe s
theorem PW.pt {X:Cx}(h:PW X e t):PT X e t:=h _
def PA (X:Cx) (g:Aa Expr) (t:TA):Prop :=
 ∀ (pos:Pos) (a:Aa (Ad×Obj)) (s:Ae) (b:St) (H:Hp) (Q:Aa V->Hp->Prop),Inv X a b H s->t b H Q->wpAny (model X.prog X.w) X.A (spliced (backTo pos (starEach g X.env))) (AP X a b Q) X.xe s
def PS (X:Cx) (st:Stmt) (t:TS):Prop :=
 ∀ (a:Aa (Ad×Obj)) (s:Ae) (b:St) (H:Hp) (D:Ends),Inv X a b H s->t D b H->wpAny (model X.prog X.w) X.A (exec st X.env) (SP X a D) X.xe s
def pR (X:Cx) (st:Aa Stmt) (t:TS):Prop :=
 ∀ (a:Aa (Ad×Obj)) (s:Ae) (b:St) (H:Hp) (D:Ends),Inv X a b H s->t D b H->wpAny (model X.prog X.w) X.A (execs st X.env) (SP X a D) X.xe s
theorem nJ (h:wpAny M A t Q E s) (j:∀ a s,Q a s->g a s):wpAny M A t g E s:=dF h j λ_ _ x=>x
section
variable {X:Cx}
def qO (i:Nat):TE:=λa H Q=>∃ v,a[i]?=some (some v)/\Q v H
def tC (v:V):TE:=λ_ H Q=>Q v H
theorem CS (j:X.N[i]?=some x) (o:Lb X.env.scope x) (hd:(x == ("__debug__" : Af))=false:=by decide) (g:(x == ("__classdict__" : Af))=false:=by decide):PE X (.Name x pos) (qO i):=by
 intro b s q H Q I h;obtain⟨v,e,h⟩:=h;obtain⟨m,n,f⟩:=I.loc;obtain⟨u,r,l⟩:=f i x v j e o;have fin:EP X b q Q u s:=⟨v,H,I,r,h⟩;rcases l with⟨hk,k⟩ | ⟨hk,c,d,a⟩
 .exact wpAny_Name (wpAny_loadName_local I.ok.kind hk n k fin) hd
 .rcases hk with hk | hk
  .exact wpAny_Name (wpAny_loadName_cell I.ok.kind hk d a fin) hd
  .exact wpAny_Name (wpAny_loadName_free I.ok.kind hk d a fin g) hd
theorem oD {i j pos}:PE X (.Constant (.int i) j pos) (tC (.int i)):=λ_ _ _ H _ I h=>wpAny_Constant_int ⟨.int i,H,I.tok _,⟨_,rfl⟩,h⟩
theorem Cw {b j pos}:PE X (.Constant (.bool b) j pos) (tC (.b b)):=λ_ _ _ H _ I h=>Constant_bool ⟨.b b,H,I,rfl,h⟩
theorem uK {x j pos}:PE X (.Constant (.str x) j pos) (tC (.str x)):=λ_ _ _ H _ I h=>Calls.Constant_str ⟨.str x,H,I.tok _,⟨_,rfl⟩,h⟩
def Gl (X:Cx) (x:Af):Prop:=X.env.kindOf x=some .globalImplicit
theorem N6 (I:Inv X g o H s) (j:Gl X x) (l:X.mg x=some u) (h:Q u s)
  (hd:(x == ("__debug__" : Af))=false:=by decide):wpAny (model X.prog X.w) X.A (eval (.Name x pos) X.env) Q E s :=
 Calls.Name_function_global I.ok.kind j (Calls.loadGlobal_global (by rw[I.ok.glob];exact I.mod.glob.keeps I.bk) l h) hd
theorem wU (I:Inv X g r H s) (j:Gl X x) (l:X.mg x=none) (p:bootBuiltins x=some u) (h:Q u s)
  (o:x ≠ "__name__" := by decide) (hd:(x == ("__debug__" : Af))=false:=by decide):wpAny (model X.prog X.w) X.A (eval (.Name x pos) X.env) Q E s:=by
 obtain⟨c,a,b⟩:=I.mod.blt;exact Calls.Name_function_global I.ok.kind j (Calls.loadGlobal_builtin (by rw[I.ok.glob];exact I.mod.glob.keeps I.bk) l (by rw[I.ok.blt];exact a.keeps I.bk) ((b x o).trans p) h) hd
theorem DV (g:Gl X x) (j:X.mg x=none) (o:bootBuiltins x=some u) (r:nM v u) (l:x ≠ "__name__" := by decide) (hd:(x == ("__debug__" : Af))=false:=by decide):PE X (.Name x pos) (tC v) :=
 λ_ _ _ H _ I h=>wU I g j o ⟨v,H,I,r,h⟩ l hd
def PC (X:Cx) (op:CmpOp) (a b:Expr) (t:TE):Prop :=
 ∀ (c:Aa (Ad×Obj)) (s:Ae) (f:St) (H:Hp) (Q:VK),Inv X c f H s->t f H Q ->
  wpAny (model X.prog X.w) X.A (eval a X.env) (λv d=>wpAny (model X.prog X.w) X.A (eval b X.env) (λu e=>wpAny (model X.prog X.w) X.A (compareOp op v u) (EP X c f Q) X.xe e) X.xe d) X.xe s
def tB (t:TE):TT:=λd H Q=>t d H λx a=>∃ c,x = .b c/\Q c a
theorem Wp (h:PC X op a b t) (g:behindInMarks op b=false:=by first | exact nobehind _ (by decide) (by decide) | rfl):PT X (.Compare a [op] [b] pos) (tB t):=by
 intro e s y H Q I hw;refine wpAny_isTrue_Compare1 (nJ (h e s y H _ I hw) λv z g=>nJ g λu A m=>nJ m λc B f=>?_) g;obtain⟨x,i,k,w,n⟩:=f;obtain⟨d,rfl,q⟩:=n;cases w;exact gO ⟨i,k,q⟩
theorem JN (h:PE X e t) (g:∀ whole,isTrue e X.env whole=(do let v <- whole;standAt e.pos;holding [v] (truthy v)):=by intro _;rfl):PT X e (tB t):=by
 intro a s m H Q I hw;refine isTrue_plain (nJ (h a s m H _ I hw) λv n b=>?_) (g _);obtain⟨x,c,f,k,i⟩:=b;obtain⟨d,rfl,q⟩:=i;cases k;exact gO ⟨c,f,q⟩
variable {rest:Aa Expr}
def IT (t u:TT):TT:=λb H Q=>t b H λc a=>if c=true then u b a Q else Q false a
def GX (t u:TT):TT:=λb H Q=>t b H λc a=>if c=true then Q true a else u b a Q
def CH (t:TT):TT:=λb H Q=>t b H λc a=>Q (!c) a
theorem DI (g:PT X a j):PW X (.BoolOp .And [a] pos) j:=by
 intro i b s d H Q I h;refine isTrue_and (nJ (g b s d H Q I h) λc f e=>?_);cases c with
 | true=>exact isTrue_and_nil e
 | false=>exact e
theorem CP (g:PT X a j):PW X (.BoolOp .Or [a] pos) j:=by
 intro i b s d H Q I h;refine isTrue_or (nJ (g b s d H Q I h) λc f e=>?_);cases c with
 | false=>exact isTrue_or_nil e
 | true=>exact e
theorem DC (j:PT X a o) (l:PW X (.BoolOp .And (b::rest) pos) g):PW X (.BoolOp .And (a::b::rest) pos) (IT o g):=by
 intro q d s m H Q I h;refine isTrue_and (nJ (j d s m H _ I h) λc n e=>?_);obtain⟨f,i,k⟩:=e;cases c with
 | true=>exact l q d n m f Q i k
 | false=>exact⟨f,i,k⟩
theorem JZ (j:PT X a o) (l:PW X (.BoolOp .Or (b::rest) pos) g):PW X (.BoolOp .Or (a::b::rest) pos) (GX o g):=by
 intro q d s m H Q I h;refine isTrue_or (nJ (j d s m H _ I h) λc n e=>?_);obtain⟨f,i,k⟩:=e;cases c with
 | true=>exact⟨f,i,k⟩
 | false=>exact l q d n m f Q i k
theorem Q9 (g:PT X a j):PT X (.UnaryOp .Not a pos) (CH j):=by
 intro b s e H Q I h;exact isTrue_not (g b s e H (λc d=>Q (!c) d) I h)
def Vp (t:TT) (g j:TE):TE:=λa H Q=>t a H λc b=>if c=true then g a b Q else j a b Q
theorem MI (l:PT X c o) (g:PE X a p) (j:PE X b r):PE X (.IfExp c a b pos) (Vp o p r):=by
 intro e s i H Q I h;refine wpAny_IfExp (nJ (l e s i H _ I h) λd q f=>?_);obtain⟨k,m,n⟩:=f;cases d with
 | true=>exact g e q i k Q m n
 | false=>exact j e q i k Q m n
end
def dT (K:nH) (H:Hp) (a:Ad) (g:Aa V):Prop :=
 Rd H a (.l g) \/
  ∃ (o:Obj) (b:Array Ac) (n:Nat),K.lookup a=some o/\o.cls = .type "list" /\ o.dict=none/\o.data = .seq b n/\b.size<=sizeLine/\nN g b.toList
def nY (K:nH) (H:Hp) (a:Ad) (g:Aa V):Prop :=
 Rd H a (.t g) \/
  ∃ (o:Obj) (b:Array Ac) (n:Nat),K.lookup a=some o/\o.cls = .type "tuple" /\ o.data = .seq b n/\b.size<=sizeLine/\nN g b.toList
noncomputable def Yg:Ac->Ab V
 | .none=>some .e
 | .bool b=>some (.b b)
 | .int i _=>some (.int i)
 | .str x _=>some (.str x)
 | .bytes b _=>some (.byt b)
 | .float b _=>some (.flt b)
 | .ref a=>some (.ref a)
 | .type n=>some (.ty n)
 | _=>none
theorem nM.abs (r:nM x u):Yg u=some x:=by
 cases x with
 | e=>cases r;rfl
 | b _=>cases r;rfl
 | int _=>obtain⟨t,rfl⟩:=r;rfl
 | str _=>obtain⟨t,rfl⟩:=r;rfl
 | byt _=>obtain⟨t,rfl⟩:=r;rfl
 | flt _=>obtain⟨t,rfl⟩:=r;rfl
 | ref _=>cases r;rfl
 | ty _=>cases r;rfl
theorem nM.inj (r:nM x u) (q:nM y u):x=y:=bO (r.abs.symm.trans q.abs)
theorem nN.inj:∀ {j l:Aa V}{g:Aa Ac},nN j g->nN l g->j=l
 | _,_,_,.nil,.nil=>rfl
 | _,_,_,.cons r t,.cons a b=>by rw[r.inj a,nN.inj t b]
section
variable {X:Cx}
theorem dT.of {K:nH}(h:H a=some (.l xs)):dT K H a xs:=.inl (.inl h)
theorem nY.of {K:nH}(h:H a=some (.t xs)):nY K H a xs:=.inl (.inl h)
theorem Inv.list (I:Inv X j p H s) (h:dT X.K H a l):∃ g:Aa Ac,nN l g/\PlainL s.heap a g.toArray/\l.length<=sizeLine:=by
 rcases h with h | ⟨o,g,n,hk,b,hd,c,d,r⟩
 .obtain⟨z,g,n,r,e⟩:=h.ok I.hok;exact⟨g,r,⟨_,n,e,rfl,rfl,rfl⟩,z⟩
 .refine⟨g.toList,r,⟨o,n,I.kIn a o hk,b,hd,by simpa using c⟩,?_⟩;have e:=r.length;simp only[eV] at e;omega
theorem Inv.tuple (I:Inv X j C H s) (h:nY X.K H a l):∃ g:Aa Ac,nN l g/\IsTup s.heap a g.toArray/\l.length<=sizeLine:=by
 rcases h with h | ⟨o,g,n,hk,b,c,d,r⟩
 .obtain⟨z,g,r,p,_⟩:=h.ok I.hok;exact⟨g,r,p,z⟩
 .refine⟨g.toList,r,⟨o,I.kIn a o hk,b,n,by simpa using c⟩,?_⟩;have e:=r.length;simp only[eV] at e;omega
theorem Inv.list_inj (I:Inv X g C H s) (h:dT X.K H a l) (j:dT X.K H a p):l=p:=by
 obtain⟨c,r,⟨o,n,e,_,_,d⟩,_⟩:=I.list h;obtain⟨b,k,⟨q,m,i,_,_,f⟩,_⟩:=I.list j;rw[e] at i;cases i;rw[d] at f;injection f with d1 _;have:c=b:=by simpa using cL Array.toList d1
 subst this;exact r.inj k
theorem Inv.tuple_inj (I:Inv X g C H s) (h:nY X.K H a l) (j:nY X.K H a p):l=p:=by
 obtain⟨c,r,⟨o,e,_,n,d⟩,_⟩:=I.tuple h;obtain⟨b,k,⟨q,i,_,m,f⟩,_⟩:=I.tuple j;rw[e] at i;cases i;rw[d] at f;injection f with d1 _;have:c=b:=by simpa using cL Array.toList d1
 subst this;exact r.inj k
end
noncomputable abbrev Cx.wish (X:Cx) (E:Ac->Ae->Prop):Cx:={ X with xe:=E }
abbrev Cx.nox (X:Cx):Cx:=X.wish λ_ _=>False
theorem Cx.Ok.wish {X:Cx}(ok:X.Ok) (E:Ac->Ae->Prop):(X.wish E).Ok :=
 ⟨ok.mod,ok.kind,ok.glob,ok.blt,ok.above,ok.inj,ok.has,ok.cab,ok.hd,ok.frames,ok.stk,ok.exf,ok.bs,ok.bsz,ok.noex,ok.exfs,ok.funs,ok.frf⟩
theorem Cx.Ok.unwish {X:Cx}(ok:(X.wish E).Ok):X.Ok :=
 ⟨ok.mod,ok.kind,ok.glob,ok.blt,ok.above,ok.inj,ok.has,ok.cab,ok.hd,ok.frames,ok.stk,ok.exf,ok.bs,ok.bsz,ok.noex,ok.exfs,ok.funs,ok.frf⟩
section
variable {X:Cx}
theorem Inv.wish (I:Inv X g j H s) (E:Ac->Ae->Prop):Inv (X.wish E) g j H s:=⟨I.ok.wish E,I.os,I.bare,I.base,I.loc,I.cell,I.free,I.freeC,I.pin,I.hok,I.len⟩
theorem Inv.unwish (I:Inv (X.wish E) g j H s):Inv X g j H s:=⟨I.ok.unwish,I.os,I.bare,I.base,I.loc,I.cell,I.free,I.freeC,I.pin,I.hok,I.len⟩
theorem SP.unwish {D:Ends}(h:SP (X.wish E) g D f j):SP X g D f j:=by
 cases f with
 | next=>obtain⟨a,b,I,q⟩:=h;exact⟨a,b,I.unwish,q⟩
 | brk=>obtain⟨a,b,I,q⟩:=h;exact⟨a,b,I.unwish,q⟩
 | cont=>obtain⟨a,b,I,q⟩:=h;exact⟨a,b,I.unwish,q⟩
 | ret u=>obtain⟨v,a,b,I,r,q⟩:=h;exact⟨v,a,b,I.unwish,r,q⟩
theorem pR.nox {st:Aa Stmt}(h:pR X.nox st t):pR X st t:=λa s b H D I hw =>
 dF (h a s b H D (I.wish _) hw) (λ_ _ q=>q.unwish) λ_ _ z=>False.elim z
end
section
variable {X:Cx}{st:Stmt}{rest:Aa Stmt}
def HL:TS:=λD a H=>D.nx a H
def Lr (t u:TS):TS:=λD a H=>t { D with nx:=u D } a H
theorem yH:pR X [] HL:=λ_ _ a H _ I h=>lT ⟨a,H,I,h⟩
theorem pW (g:PS X st t) (j:pR X rest u):pR X (st::rest) (Lr t u):=by
 intro a s i H D I h;refine wpAny_execs_cons (nJ (g a s i H { D with nx:=u D } I h) λf e q=>?_);cases f with
 | next =>
  obtain⟨b,c,d,q⟩:=q;exact j a e b c D d q
 | ret v=>exact q
 | brk=>exact q
 | cont=>exact q
theorem pQ (g:PS X st t):pR X [st] t:=by
 intro a s b H D I h;refine wpAny_execs_cons (nJ (g a s b H D I h) λf c q=>?_);cases f with
 | next=>exact lT q
 | ret v=>exact q
 | brk=>exact q
 | cont=>exact q
theorem Inv.quiet (I:Inv X g j H s):interactive X.env=false:=by simp[interactive,I.ok.kind]
def M3 (g:TE):TS:=λD a H=>g a H λ_ b=>D.nx a b
theorem Az (g:PE X e l) (j:swapsWith e none pos.line X.env=pure false:=by rfl):PS X (.Expr e pos) (M3 l):=by
 intro a s b H D I h;exact wpAny_Expr_any (nJ (g a s b H _ I h) λv k ⟨x,c,d,i,f⟩=>⟨b,c,d,f⟩) I.quiet j
def Oj (g:TE):TS:=λD a H=>g a H D.rt
theorem uL (g:PE X e j):PS X (.Return (some e) pos) (Oj j):=by
 intro a s b H D I h;exact wpAny_Return_some (nJ (g a s b H _ I h) λv k ⟨x,c,d,i,f⟩=>⟨x,b,c,d,i,f⟩)
def Zb (c:TT) (t u:TS):TS:=λD a H=>c a H λb d=>if b=true then t D a d else u D a d
theorem wI (l:PT X c o) (g:pR X a t) (j:pR X b u):PS X (.If c a b pos) (Zb o t u):=by
 intro e s i H D I h;refine wpAny_If (nJ (l e s i H _ I h) λd q f=>?_);obtain⟨k,m,n⟩:=f;cases d with
 | true=>exact g e q i k D m n
 | false=>exact j e q i k D m n
def FJ:TS:=λ_ _ _=>False
theorem Xa:PS X st FJ:=λ_ _ _ _ _ _ h=>h.elim
end
abbrev TG:=V->St->Hp->(St->Hp->Prop)->Prop
abbrev Bh:=Aa V->St->Hp->(St->Hp->Prop)->Prop
def PG (X:Cx) (target:Expr) (t:TG):Prop :=
 ∀ (a:Aa (Ad×Obj)) (s:Ae) (d:St) (H:Hp) (v:V) (u:Ac) (Q:St->Hp->Prop),Inv X a d H s->nM v u->t v d H Q ->
  wpAny (model X.prog X.w) X.A (assign target X.env u) (λ_ e=>∃ b c,Inv X a b c e/\Q b c) X.xe s
def xU (X:Cx) (g:Aa Expr) (t:Bh):Prop :=
 ∀ (a:Aa (Ad×Obj)) (s:Ae) (f:St) (H:Hp) (e:Aa V) (d:Aa Ac) (Q:St->Hp->Prop),Inv X a f H s->nN e d->t e f H Q ->
  wpAny (model X.prog X.w) X.A (assignInOrder ((assignEach g X.env).map (·.2)) d) (λ_ h=>∃ b c,Inv X a b c h/\Q b c) X.xe s
abbrev Ik:=V->V->V->Hp->(Hp->Prop)->Prop
def Iw (X:Cx) (t:Ik):Prop :=
 ∀ (a:Aa (Ad×Obj)) (s:Ae) (e:St) (H:Hp) (o i v:V) (d c u:Ac) (Q:Hp->Prop),Inv X a e H s->nM o d->nM i c->nM v u->t o i v H Q ->
  wpAny (model X.prog X.w) X.A (setItem d c u) (λ_ f=>∃ b,Inv X a e b f/\Q b) X.xe s
section
variable {X:Cx}
def yW (i:Nat):TG:=λv a H Q=>Q (a.set i (some v)) H
theorem tP (g:X.N.Nodup) (l:X.N[i]?=some x) (o:vI X.env.scope x) (j:X.fn x=true\/X.env.scope.names.lookup x=some .local:=by first | exact .inl rfl | exact .inr rfl | assumption):PG X (.Name x pos) (yW i):=by
 intro a s d H v u Q I r h;exact wpAny_assign_Name (F3 I g l o r (λc b=>⟨_,H,b,h⟩) j)
def V6:Bh:=λa b H Q=>a=[]/\Q b H
def FZ (t:TG) (u:Bh):Bh:=λc d H Q=>∃ v r,c=v::r/\t v d H λa b=>u r a b Q
theorem BE:xU X [] V6:=by
 intro a s b H d c Q I r h;obtain⟨e,h⟩:=h;subst e;cases r;exact assignInOrder_nil ⟨b,H,I,h⟩
theorem Xh (j:PG X e t) (l:xU X g u)
  (o:(assignEach (e::g) X.env).map (·.2)=assign e X.env::(assignEach g X.env).map (·.2):=by rfl):xU X (e::g) (FZ t u):=by
 intro a s q H y w Q I r h;obtain⟨v,x,i,h⟩:=h;subst i;cases r with
 | cons r m =>
  rw[o];refine assignInOrder_cons (nJ (j a s q H _ _ _ I r h) λ_ n b=>?_);obtain⟨c,d,f,k⟩:=b;exact l a n c d _ _ Q f m k
def X5 (K:nH) (n:Nat) (t:Bh):TG:=λv c H Q=>∃ a b,v = .ref a/\nY K H a b/\b.length=n/\t b c H Q
theorem BF (l:X.calm=true) (h:xU X g t)
  (p:(assignEach g X.env).length=n:=by rfl) (j:(assignEach g X.env).findIdx? (·.1)=none:=by rfl):PG X (.Tuple g k pos) (X5 X.K n t):=by
 intro c s f H v u Q I r hw;obtain⟨a,B,m,x,w,hw⟩:=hw;subst m;cases r;obtain⟨A,d,y,D⟩:=I.tuple x;refine assign_Tuple_tuple (I.ok.hd l) y (by simp[p,<- w,d.length]) j λq z=>?_
 have i:Inv X c f H { s with heap:=q }:=I.kept (t':=s.toks) λb o e=>z b o (bG (aV e)) e
 exact h c _ f H B _ Q i (by simpa using d) hw
def X2 (j g:TE) (t:Ik):TG:=λv a H Q=>j a H λo b=>g a b λi c=>t o i v c λd=>Q a d
theorem Dq (C:PE X o U) (p:PE X i T) (J:Iw X t)
  (l:∀ v,assign (.Subscript o i pos) X.env v=(do
   let g <- holding [v] (eval o X.env);let j <- holding [v,g] (eval i X.env)
   standAt pos
   holding [v,g,j] (setItem g j v)
   release [v,g,j] []):=by intro _;rfl):PG X (.Subscript o i pos) (X2 U T t):=by
 intro b s c H v u Q I r h;rw[l];refine aB (bW (nJ (C b s c H _ I h) λg D a=>?_));obtain⟨x,d,k,A,q⟩:=a;refine aB (bW (nJ (p b D c d _ k q) λj E a=>?_));obtain⟨y,e,m,B,w⟩:=a;refine aB (mP (aB (bW (nJ (J b E c e x y v g j u _ m A B r w) λ_ F a=>?_))));obtain⟨f,n,z⟩:=a;exact wpAny_release ⟨c,f,n,z⟩
def Li (j:TE) (g:TG):TS:=λD a H=>j a H λx b=>g x a b D.nx
theorem Di (o:PE X e C) (p:PG X j g) (r:swapsWithSole [j] e pos.line X.env=pure false:=by rfl) (hw:swappedStores [j] e X.env=pure none:=by rfl)
  (l:(assignEach [j] X.env).map (·.2)=[assign j X.env]:=by rfl):PS X (.Assign [j] e pos) (Li C g):=by
 intro a s c H D I h;refine wpAny_Assign_stores (nJ (o a s c H _ I h) λv m b=>?_) r hw;obtain⟨x,d,f,k,i⟩:=b;rw[l];exact nJ (p a m c d x v _ f k i) λ_ n q=>q
theorem oS {i:Nat}{x:Af}{e:Expr}{j:TE}{g:Pos}(l:X.N.Nodup) (r:X.N[i]?=some x) (J:vI X.env.scope x) (o:PE X e j) (C:swapsWith e (some (.Name x g)) pos.line X.env=pure false:=by rfl) (p:X.fn x=true\/X.env.scope.names.lookup x=some .local:=by first | exact .inl rfl | exact .inr rfl | assumption) :
  PS X (.Assign [.Name x g] e pos) (Li j (yW i)):=by
 intro a s n H D I h;refine wpAny_Assign_Name (nJ (o a s n H _ I h) λv q b=>?_) C;obtain⟨y,c,d,m,k⟩:=b;exact F3 d l r J m (λt f=>⟨_,c,f,k⟩) p
def IU (i j:Nat) (g:TA):TS:=λD a H=>g a H λc b=>∃ v w,c=[v,w]/\D.nx ((a.set i (some v)).set j (some w)) b
theorem KD {py pt:Pos}{C r g}(hc:X.calm=true) (J:X.N.Nodup) (hi:X.N[i]?=some x) (hj:X.N[j]?=some y) (l:i≠j)
  (T:X.env.scope.names.lookup x=some .local) (U:X.env.scope.names.lookup y=some .local) (ha:PA X [a,b] ta)
  (hw:swappedStores [.Tuple [.Name x px,.Name y py] C pt] (.Tuple [a,b] r g) X.env=pure (some [x,y]))
  (hs:swapsWithSole [.Tuple [.Name x px,.Name y py] C pt] (.Tuple [a,b] r g) pos.line X.env=pure false:=by rfl) :
  PS X (.Assign [.Tuple [.Name x px,.Name y py] C pt] (.Tuple [a,b] r g) pos) (IU i j ta):=by
 intro c s E H D I h;rw[exec_Assign_arm];refine aB (mP ?_);rw[hs];refine aB (aD ?_);rw[aJ (by decide)];refine aB (Tuple_ (nJ (ha _ c s E H _ I h) λV d n=>?_));obtain⟨Z,z,F,R,t⟩:=n;obtain⟨v,w,M,t⟩:=t;subst M;obtain⟨f,k,rfl,S,u⟩:∃ f k,V=[f,k]/\nM v f/\nM w k:=by
  cases R with
  | cons p q =>
   cases q with
   | cons P Q =>
    cases Q;exact⟨_,_,rfl,p,P⟩
 refine eW ?_ (by show 2<=sizeLine;decide);have G:Inv X c E z { d with heap:=d.heap.push { cls:=.type "tuple",data:=.seq [f,k].toArray } }:=F.kept (t':=d.toks) λb o e=>aK _ e
 rw[hw];refine aB (aD ?_);show wpAny (model X.prog X.w) X.A (do rule "assign.swapped-stores";let items <- unpackItems (.ref d.heap.objs.size) 2 none;assignInOrder [λv=>bindName X.env y v,λv=>bindName X.env x v] items.reverse;pure Flow.next) _ _ _;refine aB (gU (aB (unpackItems_tuple (items:=#[f,k]) (I.ok.hd hc) (IsTup.new d.heap _) λO m=>?_)));have K:=G.kept (h':=O) (t':=d.toks) λb o e=>m b o (bG (aV e)) e
 show wpAny _ _ (assignInOrder [λv=>bindName X.env y v,λv=>bindName X.env x v] [k,f] >>= λ_=>pure Flow.next) _ _ _;refine aB (assignInOrder_cons (wpAny_bindName (F3 K J hj (.inl U) u (λW L=>?_) (.inr U))));refine assignInOrder_cons (wpAny_bindName (F3 L J hi (.inl T) S (λY B=>assignInOrder_nil (aD ?_)) (.inr T)));rw[List.set_comm _ _ (fB l)] at B;exact⟨_,z,B,t⟩
end
section
variable {X:Cx}
def DL (c:TT) (g:TS):TS:=λD a H=>∃ W:Nat->St->Hp->Prop,(∃ m,W m a H)/\∀ m a H,W m a H ->
 c a H λb f=>if b=true then ∃ N:St->Hp->Prop,(∀ d e,N d e->∃ h,h<m/\W h d e)/\g { D with nx:=N,ct:=N,bk:=D.nx } a f else D.nx a f
theorem Wq (g:PassesOwn (model X.prog X.w) X.A X.env X.xe) (l:PT X c p) (j:pR X body o):PS X (.While c body [] pos) (DL p o):=by
 intro a s Z H D I h;obtain⟨W,⟨P,V⟩,k⟩:=h;refine wpAny_While (codeAny_whileLoop (λn Q=>∃ m F,Inv X a m F Q/\W n m F) ?_ P ⟨Z,H,I,V⟩);rintro n R ⟨e,G,O,Y⟩;refine iK g (nJ (l a R e G _ O (k n e G Y)) λb S y=>?_);obtain⟨K,L,q⟩:=y;cases b with
 | true =>
  obtain⟨N,M,q⟩:=q;rw[aP rfl];refine iK g (nJ (j a S e K _ L q) λf r t=>?_);cases f with
  | next =>
   obtain⟨d,i,u,B⟩:=t;obtain⟨z,x,E⟩:=M d i B;exact⟨z,x,d,i,u,E⟩
  | cont =>
   obtain⟨d,i,u,B⟩:=t;obtain⟨z,x,E⟩:=M d i B;exact⟨z,x,d,i,u,E⟩
  | brk=>exact t
  | ret v=>exact t
 | false =>
  rw[aJ bD];exact lT ⟨e,K,L,q⟩
end
structure It where
 go:Nat->Hp->Prop
 yld:Nat->Hp->V->Hp->Prop
 stop:Nat->Hp->Prop
def tN (X:Cx) (g:Aa (Ad×Obj)) (H:Hp) (b:Ad):Prop :=
 H b=none/\b≠X.env.locals/\b∉X.fs/\(b∈X.ex\/X.s₀.heap.objs.size<=b)/\(∀ x c,X.env.cells.lookup x=some c->c≠b)/\∀ p∈X.pn++g,p.1≠b
theorem Inv.fpOk {X:Cx}(I:Inv X j r H s) (g:s.heap.objs.size<=b) (o:l b=none):tN X j l b:=by
 refine⟨o,fS (aR I.lt g),I.nofs g,.inr (bF I.sz g),λx c e z=>?_,λp a z=>?_⟩
 .obtain⟨v,q⟩:=I.cell x c e;exact absurd (aR q.lt (by rw[z];exact g)) (eR _)
 .exact absurd (aR (aV (I.pin p a).1) (by rw[z];exact g)) (eR _)
structure Turn (P:Program) (w:World) (K:nH) (tg:Expr) (J:It) (fp:List Addr) (it:Addr) (tn:Nat->Heap->Prop):Prop where
 mem:it∈fp
 obj:∀ i h,tn i h->∀ b∈fp,∃ o,h.get? b=some o/\∀ v,o.data ≠ .cell v
 keep:∀ i h h',tn i h->(∀ b∈fp,∀ o,h.get? b=some o->h'.get? b=some o)->tn i h'
 item:∀ (X:Cx),X.prog=P->X.w=w->X.K=K->X.calm=true->∀ (i:Nat) (pins:List (Addr×Obj)) (s:Shared) (σ:St) (H:Hp) (E:Value->Shared->Prop),Inv X pins σ H s->(∀ b∈fp,tN X pins H b)->tn i s.heap->J.go i H ->
  wpAny (model P w) X.A (pyNext (.ref it)) (λr s1=>∃ u,r=some u /\ wpAny (model P w) X.A (letOwnedTupleGo tg (.ref it) u) (λ_ s2=>∃ x H',Inv X pins σ H' s2/\nM x u/\J.yld i H x H'/\tn (i+1) s2.heap/\∀ b∈fp,H' b=none) E s1) E s
 done:∀ (X:Cx),X.prog=P->X.w=w->X.K=K->X.calm=true->∀ (i:Nat) (pins:List (Addr×Obj)) (s:Shared) (σ:St) (H:Hp) (E:Value->Shared->Prop),Inv X pins σ H s->(∀ b∈fp,tN X pins H b)->tn i s.heap->J.stop i H ->
  wpAny (model P w) X.A (pyNext (.ref it)) (λr s1=>r=none/\Inv X pins σ H s1) E s
 self:∀ (A:Around) (i:Nat) (s:Shared) (Q:Value->Shared->Prop) (E:Value->Shared->Prop),tn i s.heap->Q (.ref it) s->wpAny (model P w) A (pyIter (.ref it)) Q E s
abbrev TI:=St->Hp->(It->Hp->Prop)->Prop
def S0 (X:Cx) (g:Aa (Ad×Obj)) (p:St) (o:Expr) (R:It->Hp->Prop) (j:Ac) (l:Ae):Prop :=
 ∃ (d:Ad) (c:Aa Ad) (e:Nat->Ag->Prop) (J:It) (a:Hp),j = .ref d/\Inv X g p a l/\Turn X.prog X.w X.K o J c d e/\e 0 l.heap/\(∀ b∈c,tN X g a b)/\R J a
def PI (X:Cx) (g iter:Expr) (j:TI):Prop :=
 ∀ (a:Aa (Ad×Obj)) (s:Ae) (b:St) (H:Hp) (R:It->Hp->Prop),Inv X a b H s->j b H R ->
  wpAny (model X.prog X.w) X.A (eval iter X.env) (λv c=>wpAny (model X.prog X.w) X.A (pyIter v) (S0 X a b g R) X.xe c) X.xe s
theorem Dc (p:s.heap.get? r=some o) (j:o.cls = .type n) (hd:o.data = .fields I)
  (l:["enumerate","zip","dict_itemiterator","dict_reverseitemiterator","odict_iterator","itertools.zip_longest","itertools.pairwise"].contains n=false) (g:Q () s):wpAny M A (letOwnedTupleGo C (.ref r) u) Q E s:=by
 unfold letOwnedTupleGo;cases C<;>first
  | exact aD g
  | (cases u<;>first
    | exact aD g
    | (refine aB (wpAny_load p ?_);rw[j,hd];show wpAny M A (if (["enumerate","zip","dict_itemiterator","dict_reverseitemiterator","odict_iterator","itertools.zip_longest","itertools.pairwise"].contains n&&I[0]? == some (rawInt _))=true then _ else _) Q E s;rw[aJ (by intro h;rw[l,Bool.false_and] at h;cases h)];exact aD g))
def wP (K:nH) (a:Ad):It :=
 ⟨λi H=>∃ b x,dT K H a b/\b[i]?=some x,λi H x c=>c=H/\∀ b,dT K H a b->b[i]?=some x,λi H=>∃ b,dT K H a b/\b.length<=i⟩
def Br (K:nH) (a:Ad):It :=
 ⟨λi H=>∃ b x,nY K H a b/\b[i]?=some x,λi H x c=>c=H/\∀ b,nY K H a b->b[i]?=some x,λi H=>∃ b,nY K H a b/\b.length<=i⟩
def uC (lo:Int) (n:Nat):It:=⟨λi _=>i<n,λi H x a=>a=H/\x = .int (lo+i),λi _=>n<=i⟩
theorem Ri {P:Ah}{K:nH}(a g:Ad):Turn P w K T (wP K a) [g] g (λi h=>h.IsListIter g a i) where
 mem:=by simp
 obj:=λi h st b m=>by
  have e:b=g:=by simpa using m
  subst e;obtain⟨o,e,c,d⟩:=st;exact⟨o,e,λv z=>by rw[d] at z;cases z⟩
 keep:=λi h q st k=>st.at λo e=>k g (by simp) o e
 item:=by
  intro X L hw G R i f s S H E I t st M;subst L hw G;obtain⟨C,x,y,N⟩:=M;obtain⟨O,Q,p,j⟩:=I.list y;obtain⟨u,Y,l⟩:=Q.get N;obtain⟨A,f1,f2,B,D,F⟩:=t g (by simp);refine wpAny_pyNext_list_item st p.isList (x:=u) (by simpa using Y) λq n r=>?_
  have V:Inv X f S H { s with heap:=q }:=I.turned (t':=s.toks) (λb o m e=>(r.2 b m).trans e) A f1 B D F;obtain⟨o,e,c,d⟩:=id n;exact⟨u,rfl,Dc (s:={ s with heap:=q }) e c d (by decide) ⟨x,H,V,l,⟨rfl,λU Z=>by rw[I.list_inj Z y];exact N⟩,n,λb m=>(t b m).1⟩⟩
 done:=by
  intro X L hw G R i f s S H E I t st M;subst L hw G;obtain⟨C,y,N⟩:=M;obtain⟨O,Q,p,j⟩:=I.list y;obtain⟨A,f1,f2,B,D,F⟩:=t g (by simp);have J:=Q.length;exact wpAny_pyNext_list_end (I.ok.hd R) st p.isList (by simp;omega) λq W=>⟨rfl,I.turned (t':=s.toks) (λb o m e=>W b o m e) A f1 B D F⟩
 self:=λ_ _ _ _ _ st h=>wpAny_pyIter_listiter st h
theorem Xw {P:Ah}{K:nH}(a g:Ad):Turn P w K T (Br K a) [g] g (λi h=>h.IsTupleIter g a i) where
 mem:=by simp
 obj:=λi h st b m=>by
  have e:b=g:=by simpa using m
  subst e;obtain⟨o,e,c,d⟩:=st;exact⟨o,e,λv z=>by rw[d] at z;cases z⟩
 keep:=λi h t st k=>st.at λo e=>k g (by simp) o e
 item:=by
  intro X M hw L R i f s S H E I y st N;subst M hw L;obtain⟨C,x,A,O⟩:=N;obtain⟨n,Q,p,j⟩:=I.tuple A;obtain⟨u,Y,l⟩:=Q.get O;obtain⟨B,f1,f2,D,F,G⟩:=y g (by simp);refine wpAny_pyNext_tuple_item st (show s.heap.IsTuple a n.toArray from p) (x:=u) (by simpa using Y) λt q r=>?_
  have V:Inv X f S H { s with heap:=t }:=I.turned (t':=s.toks) (λb o m e=>(r.2 b m).trans e) B f1 D F G;obtain⟨o,e,c,d⟩:=id q;exact⟨u,rfl,Dc (s:={ s with heap:=t }) e c d (by decide) ⟨x,H,V,l,⟨rfl,λU Z=>by rw[I.tuple_inj Z A];exact O⟩,q,λb m=>(y b m).1⟩⟩
 done:=by
  intro X M hw L R i f s S H E I y st N;subst M hw L;obtain⟨C,A,O⟩:=N;obtain⟨n,Q,p,j⟩:=I.tuple A;obtain⟨B,f1,f2,D,F,G⟩:=y g (by simp);have J:=Q.length;exact wpAny_pyNext_tuple_end (I.ok.hd R) st (show s.heap.IsTuple a n.toArray from p) (by simp;omega) λt W=>⟨rfl,I.turned (t':=s.toks) (λb o m e=>W b o m e) B f1 D F G⟩
 self:=λ_ _ _ _ _ st h=>wpAny_pyIter_tupleiter st h
theorem DJ {P:Ah}{K:nH}(g:Ad) (lo:Int) (n:Nat):Turn P w K j (uC lo n) [g] g (λi h=>IsRangeIter h g (lo+(i:Nat)*1) ((n:Int)-(i:Nat)) 1) where
 mem:=by simp
 obj:=λi h st b c=>by
  have e:b=g:=by simpa using c
  subst e;exact⟨_,st,λv z=>by
   have R:Data.fields _=Data.cell v:=z;cases R⟩
 keep:=λi h f st k=>k g (by simp) _ st
 item:=by
  intro X B hw A D i a s L H E I m st F;subst B hw A;obtain⟨q,f1,f2,u,x,y⟩:=m g (by simp);have W:=Walks.range (prog:=X.prog) (w:=X.w) (I.ok.hd D) g lo 1 n;refine W.item i s _ _ F st λv f G O d Q=>?_
  obtain⟨t,rfl⟩:=O;have M:Inv X a L H { s with heap:=f,toks:=G }:=I.turned (λb o c e=>Q b o (by simpa using c) e) q f1 u x y;refine⟨_,rfl,Dc (s:={ s with heap:=f,toks:=G }) (n := "range_iterator") d rfl rfl (by decide) ⟨.int (lo+i),H,M,⟨t,?_⟩,⟨rfl,rfl⟩,d,λb c=>(m b c).1⟩⟩;rw[Int.mul_one]
 done:=by
  intro X B hw A D i a s L H E I m st F;subst B hw A;obtain⟨q,f1,f2,u,x,y⟩:=m g (by simp);exact wpAny_pyNext_range_end (I.ok.hd D) st (by have:n<=i:=F;omega) λf N=>⟨rfl,I.turned (t':=s.toks) (λb o c e=>N b o c e) q f1 u x y⟩
 self:=λ_ _ _ _ _ st h=>wpAny_pyIter_rangeiter st h
section
variable {X:Cx}
def Zz (K:nH) (g:TE):TI:=λd H R=>g d H λx b=>∃ a,x = .ref a/\(∃ c,dT K b a c)/\R (wP K a) b
theorem Hr (g:PE X l j):PI X r l (Zz X.K j):=by
 intro c s y H R I h;refine nJ (g c s y H _ I h) λv f i=>?_
 obtain⟨x,k,d,w,u⟩:=i;obtain⟨a,e,⟨B,n⟩,q⟩:=u;subst e;cases w;obtain⟨t,A,p,z⟩:=d.list n;refine iM p.isList ?_;refine⟨f.heap.objs.size,[f.heap.objs.size],_,_,k,rfl,d.kept (t':=f.toks) λb o e=>aK _ e,Ri a _,⟨_,bB _ rfl,rfl,rfl⟩,λb m=>?_,q⟩;have e:b=f.heap.objs.size:=by simpa using m
 subst e;exact d.fpOk (aU _) (d.hok.fresh (aU _))
theorem Xn {R:It->Hp->Prop}{lo:Int}(I:Inv X j p H s) (r:-(2 ^ 62)<=lo) (C:lo<2 ^ 62) (J:-(2 ^ 62)<=g) (T:g<2 ^ 62)
  (q:R (uC lo (g-lo).toNat) H):wpAny (model X.prog X.w) X.A (pyIter (.ref s.heap.objs.size)) (S0 X j p U R) E { s with heap:=s.heap.push { cls:=.type "range",data:=.fields #[.int lo t,.int g u,.int 1 v] },toks:=l }:=by
 refine wpAny_pyIter_range (IsRange.new ..) (small_one r C J T) ?_;have a:Inv X j p H { s with heap:=s.heap.push { cls:=.type "range",data:=.fields #[.int lo t,.int g u,.int 1 v] },toks:=l }:=I.kept λb o e=>aK _ e
 refine⟨(s.heap.push { cls:=.type "range",data:=.fields #[.int lo t,.int g u,.int 1 v] }).objs.size,[(s.heap.push { cls:=.type "range",data:=.fields #[.int lo t,.int g u,.int 1 v] }).objs.size],_,_,H,rfl,
  a.kept (t':=l) λb o e=>aK _ e,DJ _ lo (g-lo).toNat,?_,λb f=>?_,q⟩
 .have c:lo+((0:Nat):Int)*1=lo:=by simp
  have d:(((g-lo).toNat:Nat):Int)-((0:Nat):Int)=Builtin.Range.rangeSize lo g 1:=by rw[rangeSize_one];split<;>omega
  show IsRangeIter _ _ (lo+((0:Nat):Int)*1) ((((g-lo).toNat:Nat):Int)-((0:Nat):Int)) 1;rw[c,d];exact bB _ rfl
 .have e:b=(s.heap.push { cls:=.type "range",data:=.fields #[.int lo t,.int g u,.int 1 v] }).objs.size:=by simpa using f
  subst e;exact a.fpOk (aU _) (a.hok.fresh (aU _))
def Xl (g:TA):TI:=λc H R=>g c H λb a=>∃ j:Int,b=[.int j]/\-(2 ^ 62)<=j/\j<2 ^ 62/\R (uC 0 j.toNat) a
theorem zG (l:Gl X "range") (o:X.mg "range" = none) (g:PA X [a] J) (C:starEach [a] X.env=[(false,eval a X.env)]:=by rfl):PI X T (.Call (.Name "range" p) [a] [] pos) (Xl J):=by
 intro b s n H R I h;refine Call_ (wU I l o boot_range (dL (nJ (g pos b s n H _ I h) λw v c=>?_) C rfl));obtain⟨x,u,f,k,d⟩:=c;obtain⟨j,e,d,i,q⟩:=d;subst e;cases k with
 | cons r m =>
  cases m;obtain⟨t,rfl⟩:=r;exact call_range_1 (Xn f (by omega) (by omega) d i (by simpa using q))
def GY (l:TI) (g:TG) (j:TS):TS:=λD a H=>l a H λJ f=>∃ W:Nat->Nat->St->Hp->Prop,(∃ m,W 0 m a f)/\∀ i m a H,W i m a H ->
 (J.stop i H/\D.nx a H)\/(J.go i H/\∃ N:St->Hp->Prop,(∀ c b,N c b->∃ e,e<m/\W (i+1) e c b)/\∀ x b,J.yld i H x b->g x a b λd h=>j { D with nx:=N,ct:=N,bk:=D.nx } d h)
def B3 (g:Aa Ad) (h:Ag):Aa (Ad×Obj):=g.filterMap λb=>(h.get? b).map λo=>(b,o)
theorem Ho (j:b∈g) (e:h.get? b=some o):(b,o)∈B3 g h:=kO.mpr ⟨b,j,by rw[e];rfl⟩
theorem EI (j:p∈B3 g h):p.1∈g/\h.get? p.1=some p.2:=by
 obtain⟨b,c,e⟩:=kO.mp j;cases q:h.get? b with
 | none=>rw[q] at e;cases e
 | some o =>
  rw[q] at e;have a:(b,o)=p:=bO e;subst a;exact⟨c,q⟩
theorem Inv.pinned (I:Inv X g C H s) (l:∀ b∈j,tN X g H b) (r:∀ b∈j,∃ o,s.heap.get? b=some o/\∀ v,o.data ≠ .cell v):Inv X (g++B3 j s.heap) C H s :=
 I.pins_of λp h=>(aT.mp h).elim (λz=>I.pin p (bJ _ z)) λz=>by
  obtain⟨c,e⟩:=EI z;obtain⟨f,f1,f2,_⟩:=l p.1 c;obtain⟨o,a,d⟩:=r p.1 c;rw[e] at a;cases a;exact⟨e,f,f1,f2,d⟩
theorem Inv.unpinned (I:Inv X (g++l) j H s):Inv X g j H s:=I.pins_of λp a=>I.pin p (bJ _ (bK _ a))
theorem vZ {iter:Expr}(l:PassesOwn (model X.prog X.w) X.A X.env X.xe) (hc:X.calm=true) (hi:PI X tg iter wi) (hg:PG X tg g) (j:pR X body tb)
  (hs:∀ x,foldedSetIterable iter X.env x=pure x:=by intro _;rfl):PS X (.For tg iter body [] pos) (GY wi g tb):=by
 intro a s σ H D I h;refine wpAny_For (nJ (hi a s σ H _ I h) λv s1 h1=>nJ h1 λaa s2 h2=>?_) hs;obtain⟨it,K,tn,J,H2,e,I2,T,Z,f2,W,⟨m0,w0⟩,P⟩:=h2;subst e;have y:∀ {E:Hp},(∀ b∈K,E b=none)->∀ b∈K,tN X a E b:=λhn b j=>⟨hn b j,(f2 b j).2⟩
 refine codeAny_forLoop_any (λn s'=>∃ i z E,Inv X a z E s'/\tn i s'.heap/\(∀ b∈K,E b=none)/\W i n z E) ?_ m0 ⟨0,σ,H2,I2,Z,λb j=>(f2 b j).1,w0⟩;rintro n s3 ⟨i,B,Q,U,O,L,w3⟩;rcases P i n B Q w3 with⟨stop,qn⟩ | ⟨go,N,hN,step⟩
 .refine iK l (nJ (T.done X rfl rfl rfl hc i a s3 B Q X.xe U (y L) O stop) λr s4 k=>?_);obtain⟨V,I4⟩:=k;subst V;exact lT ⟨B,Q,I4,qn⟩
 .refine iK l (nJ (T.item X rfl rfl rfl hc i a s3 B Q X.xe U (y L) O go) λr s4 k=>?_);obtain⟨u,V,h4⟩:=k;subst V;refine iK l (nJ h4 λ_ s5 k=>?_);obtain⟨x,C,I5,r5,y5,G,S⟩:=k;have R:=I5.pinned (y S) (T.obj _ _ G);refine iK l (nJ (hg _ s5 B C x u _ R r5 (step x C y5)) λ_ s6 k=>?_);obtain⟨p,H6,I6,q6⟩:=k;refine iK l (nJ (j _ s6 p H6 _ I6 q6) λf Y F=>?_);have again:∀ {c:St} {q:Hp},Inv X (a++B3 K s5.heap) c q Y->N c q->∃ m,m<n/\∃ i z E,Inv X a z E Y/\tn i Y.heap/\(∀ b∈K,E b=none)/\W i m z E:=λ{c q} t M=>by
   obtain⟨m',hm,w7⟩:=hN c q M;refine⟨m',hm,i+1,c,q,t.unpinned,T.keep _ _ _ G λb j o e=>(t.pin (b,o) (bJ _ (bJ _ (Ho j e)))).1,λb j=>?_,w7⟩;obtain⟨o,e,d⟩:=T.obj _ _ G b j;exact (t.pin (b,o) (bJ _ (bJ _ (Ho j e)))).2.1
  cases f with
  | next=>obtain⟨c,q,t,M⟩:=F;exact again t M
  | cont=>obtain⟨c,q,t,M⟩:=F;exact again t M
  | brk=>obtain⟨c,q,t,F⟩:=F;exact⟨c,q,t.unpinned,F⟩
  | ret v=>obtain⟨x7,c,q,t,r7,F⟩:=F;exact⟨x7,c,q,t.unpinned,r7,F⟩
end
theorem Iu {K:nH}{a:Ad}{xs:Aa V}{g:TG}{J:TS}{D:Ends}{j:St}{H:Hp}(Pv:Nat->St->Hp->Prop) (T:Pv 0 j H) (U:∀ i j H,i<=xs.length->Pv i j H->dT K H a xs)
  (hs:∀ i x j H,xs[i]?=some x->Pv i j H->g x j H λr C=>J { D with nx:=Pv (i+1),ct:=Pv (i+1),bk:=D.nx } r C) (hd:∀ j H,Pv xs.length j H->D.nx j H) :
  ∃ W:Nat->Nat->St->Hp->Prop,(∃ m,W 0 m j H)/\∀ i m j H,W i m j H ->
   ((wP K a).stop i H/\D.nx j H)\/((wP K a).go i H/\∃ N:St->Hp->Prop,(∀ o l,N o l->∃ I,I<m/\W (i+1) I o l)/\∀ x l,(wP K a).yld i H x l->g x j l λr C=>J { D with nx:=N,ct:=N,bk:=D.nx } r C):=by
 refine⟨λi m j H=>m=xs.length-i/\i<=xs.length/\Pv i j H,⟨xs.length,by simp,cG _,T⟩,?_⟩;rintro i m j H ⟨rfl,c,p⟩;have q:=U i j H c p;by_cases b:i<xs.length
 .refine .inr ⟨⟨xs,xs[i],q,by simp[b]⟩,Pv (i+1),λo l d=>⟨xs.length-(i+1),by omega,rfl,b,d⟩,λx l y=>?_⟩;obtain⟨e,y⟩:=y;subst e;exact hs i x j _ (y xs q) p
 .have e:i=xs.length:=by omega
  subst e;exact .inl ⟨⟨xs,q,aU _⟩,hd j H p⟩
theorem Xj {K:nH}{a:Ad}{xs:Aa V}{g:TG}{J:TS}{D:Ends}{j:St}{H:Hp}(Pv:Nat->St->Hp->Prop) (T:Pv 0 j H) (U:∀ i j H,i<=xs.length->Pv i j H->nY K H a xs)
  (hs:∀ i x j H,xs[i]?=some x->Pv i j H->g x j H λr C=>J { D with nx:=Pv (i+1),ct:=Pv (i+1),bk:=D.nx } r C) (hd:∀ j H,Pv xs.length j H->D.nx j H) :
  ∃ W:Nat->Nat->St->Hp->Prop,(∃ m,W 0 m j H)/\∀ i m j H,W i m j H ->
   ((Br K a).stop i H/\D.nx j H)\/((Br K a).go i H/\∃ N:St->Hp->Prop,(∀ o l,N o l->∃ I,I<m/\W (i+1) I o l)/\∀ x l,(Br K a).yld i H x l->g x j l λr C=>J { D with nx:=N,ct:=N,bk:=D.nx } r C):=by
 refine⟨λi m j H=>m=xs.length-i/\i<=xs.length/\Pv i j H,⟨xs.length,by simp,cG _,T⟩,?_⟩;rintro i m j H ⟨rfl,c,p⟩;have q:=U i j H c p;by_cases b:i<xs.length
 .refine .inr ⟨⟨xs,xs[i],q,by simp[b]⟩,Pv (i+1),λo l d=>⟨xs.length-(i+1),by omega,rfl,b,d⟩,λx l y=>?_⟩;obtain⟨e,y⟩:=y;subst e;exact hs i x j _ (y xs q) p
 .have e:i=xs.length:=by omega
  subst e;exact .inl ⟨⟨xs,q,aU _⟩,hd j H p⟩
theorem Fz {lo:Int}{n:Nat}{g:TG}{J:TS}{D:Ends}{j:St}{H:Hp}(Pv:Nat->St->Hp->Prop) (T:Pv 0 j H)
  (U:∀ i j H,i<n->Pv i j H->g (.int (lo+i)) j H λr C=>J { D with nx:=Pv (i+1),ct:=Pv (i+1),bk:=D.nx } r C) (hd:∀ j H,Pv n j H->D.nx j H) :
  ∃ W:Nat->Nat->St->Hp->Prop,(∃ m,W 0 m j H)/\∀ i m j H,W i m j H ->
   ((uC lo n).stop i H/\D.nx j H)\/((uC lo n).go i H/\∃ N:St->Hp->Prop,(∀ o l,N o l->∃ I,I<m/\W (i+1) I o l)/\∀ x l,(uC lo n).yld i H x l->g x j l λr C=>J { D with nx:=N,ct:=N,bk:=D.nx } r C):=by
 refine⟨λi m j H=>m=n-i/\i<=n/\Pv i j H,⟨n,by simp,cG _,T⟩,?_⟩;rintro i m j H ⟨rfl,c,p⟩;by_cases a:i<n
 .refine .inr ⟨a,Pv (i+1),λo l b=>⟨n-(i+1),by omega,rfl,a,b⟩,λx l y=>?_⟩;obtain⟨e,y⟩:=y;subst e y;exact U i j _ a p
 .have e:i=n:=by omega
  subst e;exact .inl ⟨aU _,hd j H p⟩
abbrev R2:=V->V->Hp->VK->Prop
def nZ (X:Cx) (f:Ac->Ac->Sem Ac) (r:R2):Prop :=
 ∀ (a:Aa (Ad×Obj)) (s:Ae) (b:St) (H:Hp) (x y:V) (v u:Ac) (Q:VK),Inv X a b H s->nM x v->nM y u->r x y H Q ->
  wpAny (model X.prog X.w) X.A (f v u) (EP X a b Q) X.xe s
def Kj (X:Cx) (f:Ac->Sem Ac) (r:V->Hp->VK->Prop):Prop :=
 ∀ (a:Aa (Ad×Obj)) (s:Ae) (b:St) (H:Hp) (x:V) (v:Ac) (Q:VK),Inv X a b H s->nM x v->r x H Q ->
  wpAny (model X.prog X.w) X.A (f v) (EP X a b Q) X.xe s
def oQ (X:Cx) (f:Ac) (r:Aa V->Hp->VK->Prop):Prop :=
 ∀ (a:Aa (Ad×Obj)) (s:Ae) (d:St) (H:Hp) (c:Aa V) (b:Aa Ac) (Q:VK),Inv X a d H s->nN c b->r c H Q ->
  wpAny (model X.prog X.w) X.A (call f b) (EP X a d Q) X.xe s
def Xe (X:Cx) (r:V->Hp->(Bool->Hp->Prop)->Prop):Prop :=
 ∀ (a:Aa (Ad×Obj)) (s:Ae) (b:St) (H:Hp) (x:V) (v:Ac) (Q:Bool->Hp->Prop),Inv X a b H s->nM x v->r x H Q ->
  wpAny (model X.prog X.w) X.A (truthy v) (TP X a b Q) X.xe s
def Dl (r:R2) (g j:TE):TE:=λa H Q=>g a H λx b=>j a b λy c=>r x y c Q
def Zs (r:V->Hp->VK->Prop) (g:TE):TE:=λb H Q=>g b H λx a=>r x a Q
def rI (C:Int->Int->Prop) (g:Int->Int->V):R2:=λx y H Q=>∃ i j,x = .int i/\y = .int j/\C i j/\Q (g i j) H
def sO (g:Int->Int->V):R2:=λx y H Q=>∃ i j,x = .int i/\y = .int j/\Q (g i j) H
def rU (g:Int->V):V->Hp->VK->Prop:=λx H Q=>∃ i,x = .int i/\Q (g i) H
section
variable {X:Cx}
theorem Lq (J:PE X a ta) (T:PE X b tb){g:Aa (Ad×Obj)}{s:Ae}{l:St}{H:Hp}{R:V->V->Hp->Prop}(I:Inv X g l H s)
  (h:ta l H λx C=>tb l C λy j=>R x y j){Q:Ac->Ae->Prop}{f:Ac->Ac->Sem Ac}
  (U:∀ v u r x y j,Inv X g l j r->nM x v->nM y u->R x y j->wpAny (model X.prog X.w) X.A (f v u) Q X.xe r) :
  wpAny (model X.prog X.w) X.A (eval a X.env) (λv o=>wpAny (model X.prog X.w) X.A (eval b X.env) (λu p=>wpAny (model X.prog X.w) X.A (f v u) Q X.xe p) X.xe o) X.xe s:=by
 refine nJ (J g s l H _ I h) λv q c=>?_
 obtain⟨x,C,d,m,i⟩:=c;refine nJ (T g q l C _ d i) λu r c=>?_
 obtain⟨y,j,e,n,k⟩:=c;exact U v u r x y j e m n k
theorem oC (l:nZ X (binaryOp op) r) (g:PE X a o) (j:PE X b p):PE X (.BinOp a op b pos) (Dl r o p):=by
 intro c s m H Q I h;exact wpAny_BinOp (Lq g j I h λv u k x y d e f i q=>l c k m d x y v u Q e f i q)
theorem GL (j:Kj X (unaryOp op) r) (g:PE X a l):PE X (.UnaryOp op a pos) (Zs r l):=by
 intro b s c H Q I h;exact UnaryOp_ (nJ (g b s c H _ I h) λv k ⟨x,d,e,i,f⟩=>j b k c d x v Q e i f)
theorem yO {f:Ac->Ac->Sem Ac}{C:Int->Int->Prop}{g:Int->Int->Int}
  (rule:∀ (i j:Int) (t u:Tok) (s:Ae) (Q:Ac->Ae->Prop) (E:Ac->Ae->Prop),C i j->Q (.int (g i j) s.toks) { s with toks:=s.toks+1 }->wpAny (model X.prog X.w) X.A (f (.int i t) (.int j u)) Q E s) :
  nZ X f (rI C λi j=>.int (g i j)):=by
 intro a s k H x y v u Q I c d h;obtain⟨i,j,rfl,rfl,b,q⟩:=h;obtain⟨t,rfl⟩:=c;obtain⟨e,rfl⟩:=d;exact rule i j t e s _ _ b ⟨.int (g i j),H,I.tok _,⟨_,rfl⟩,q⟩
theorem O5 {f:Ac->Ac->Sem Ac}{g:Int->Int->Int}
  (rule:∀ (i j:Int) (t u:Tok) (s:Ae) (Q:Ac->Ae->Prop) (E:Ac->Ae->Prop),Q (.int (g i j) s.toks) { s with toks:=s.toks+1 }->wpAny (model X.prog X.w) X.A (f (.int i t) (.int j u)) Q E s) :
  nZ X f (sO λi j=>.int (g i j)):=by
 intro a s e H x y v u Q I b c h;obtain⟨i,j,rfl,rfl,q⟩:=h;obtain⟨t,rfl⟩:=b;obtain⟨d,rfl⟩:=c;exact rule i j t d s _ _ ⟨.int (g i j),H,I.tok _,⟨_,rfl⟩,q⟩
theorem Gb {f:Ac->Ac->Sem Ac}{g:Int->Int->Bool}
  (rule:∀ (i j:Int) (t u:Tok) (s:Ae) (Q:Ac->Ae->Prop) (E:Ac->Ae->Prop),Q (.bool (g i j)) s->wpAny (model X.prog X.w) X.A (f (.int i t) (.int j u)) Q E s) :
  nZ X f (sO λi j=>.b (g i j)):=by
 intro a s k H x y v u Q I c d h;obtain⟨i,j,rfl,rfl,q⟩:=h;obtain⟨t,rfl⟩:=c;obtain⟨e,rfl⟩:=d;exact rule i j t e s _ _ ⟨.b (g i j),H,I,rfl,q⟩
def JF (i j:Int):Prop:=0<j/\j<1073741824
def Sf (i j:Int):Prop:=0<=j/\j<=1000000/\i.natAbs<2 ^ 64
def Fv (i j:Int):Prop:=(-(2 ^ 64)<i/\i<2 ^ 64)\/(-(2 ^ 64)<j/\j<2 ^ 64)
theorem Fv.ok (h:Fv i j):IntMulOk i j:=by
 rcases h with⟨a,b⟩ | ⟨a,b⟩
 .exact .of_left (intBits_le_64 a b)
 .exact .of_right (intBits_le_64 a b)
theorem uE:nZ X (binaryOp .Add) (sO λi j=>.int (i+j)):=O5 λ_ _ _ _ _ _ _ q=>add_int q
theorem A7:nZ X (binaryOp .Sub) (sO λi j=>.int (i-j)):=O5 λ_ _ _ _ _ _ _ q=>sub_int q
theorem wJ:nZ X (binaryOp .Mult) (rI Fv λi j=>.int (i*j)):=yO λ_ _ _ _ _ _ _ a q=>mul_int q a.ok
theorem JR:nZ X (binaryOp .FloorDiv) (rI JF λi j=>.int (i/j)):=yO λi j _ _ _ _ _ a q=>by
 have b:(0:Int)<j:=a.1;have c:j<1073741824:=a.2;exact floordiv_int (by omega) (by rw[fU i (by omega)];exact q) (.inl (PyProof.noPylong_small (by omega)))
theorem rH:nZ X (binaryOp .Mod) (rI (λ_ j=>0<j) λi j=>.int (i%j)):=yO λi j _ _ _ _ _ a q=>by
 have b:(0:Int)<j:=a;exact mod_int' (by omega) (by rw[Int.fmod_eq_emod_of_nonneg i (by omega)];exact q)
theorem Zt:nZ X (binaryOp .Pow) (rI Sf λi j=>.int (i ^ j.toNat)):=yO λ_ _ _ _ _ _ _ a q=>pow_int_small a.1 a.2.1 a.2.2 q
theorem JO {f:Ac->Sem Ac}{g:Int->Int}
  (rule:∀ (i:Int) (t:Tok) (s:Ae) (Q:Ac->Ae->Prop) (E:Ac->Ae->Prop),Q (.int (g i) s.toks) { s with toks:=s.toks+1 }->wpAny (model X.prog X.w) X.A (f (.int i t)) Q E s) :
  Kj X f (rU λi=>.int (g i)):=by
 intro a s c H x v Q I b h;obtain⟨i,rfl,q⟩:=h;obtain⟨t,rfl⟩:=b;exact rule i t s _ _ ⟨.int (g i),H,I.tok _,⟨_,rfl⟩,q⟩
theorem AW:Kj X (unaryOp .USub) (rU λi=>.int (-i)):=JO λ_ _ _ _ _ q=>neg_int q
end
noncomputable def K8:V->V->Bool
 | .e,.e=>true | .e,.int _=>true | .int _,.e=>true | .e,.b _=>true | .b _,.e=>true | .e,.str _=>true | .str _,.e=>true
 | .int _,.int _=>true | .b _,.b _=>true | .str _,.str _=>true | .byt _,.byt _=>true
 | .int _,.str _=>true | .str _,.int _=>true | .b _,.str _=>true | .str _,.b _=>true
 | _,_=>false
def KW:R2:=λx y H Q=>K8 x y=true/\Q (.b (decide (x=y))) H
def Yl:R2:=λx y H Q=>K8 x y=true/\Q (.b (!decide (x=y))) H
theorem N5:decide (V.int i=V.int j)=(i == j):=by
 rw[lU];simp
theorem Q4:decide (V.b i=V.b j)=(i == j):=by
 rw[lU];simp
theorem P7:decide (V.str i=V.str j)=(i == j):=by
 rw[lU];simp
theorem Ts:decide (V.byt i=V.byt j)=(i.toList == j.toList):=by
 rw[lU];cases i;cases j;simp
section
variable {X:Cx}
theorem pE (I:Inv X g l H s) (q:Q (.b k) H) (e:k=j):EP X g l Q (.bool j) s:=by
 subst e;exact⟨.b k,H,I,rfl,q⟩
theorem F2:nZ X (compareOp .Eq) KW:=by
 intro k s m H x y v u Q I f a h;obtain⟨d,q⟩:=h;cases x with
 | e =>
  cases f;cases y with
  | e=>cases a;exact PySem.EqNone.eq_none_none (pE I q (by simp))
  | b j=>cases a;exact PySem.EqNone.eq_none_bool (pE I q (by simp))
  | int j=>obtain⟨c,rfl⟩:=a;exact PySem.EqNone.eq_none_int (pE I q (by simp))
  | str j=>obtain⟨c,rfl⟩:=a;exact PySem.EqNone.eq_none_str (pE I q (by simp))
  | _=>exact absurd (show false=true from d) bD
 | b i =>
  cases f;cases y with
  | e=>cases a;exact PySem.EqNone.eq_bool_none (pE I q (by simp))
  | b j=>cases a;exact eq_bool (pE I q Q4)
  | str j=>obtain⟨c,rfl⟩:=a;exact PySem.EqMixed.eq_bool_str (pE I q (by simp))
  | _=>exact absurd (show false=true from d) bD
 | int i =>
  obtain⟨t,rfl⟩:=f;cases y with
  | e=>cases a;exact PySem.EqNone.eq_int_none (pE I q (by simp))
  | int j=>obtain⟨c,rfl⟩:=a;exact eq_int (pE I q N5)
  | str j=>obtain⟨c,rfl⟩:=a;exact PySem.EqMixed.eq_int_str (pE I q (by simp))
  | _=>exact absurd (show false=true from d) bD
 | str i =>
  obtain⟨t,rfl⟩:=f;cases y with
  | e=>cases a;exact PySem.EqNone.eq_str_none (pE I q (by simp))
  | b j=>cases a;exact PySem.EqMixed.eq_str_bool (pE I q (by simp))
  | int j=>obtain⟨c,rfl⟩:=a;exact PySem.EqMixed.eq_str_int (pE I q (by simp))
  | str j=>obtain⟨c,rfl⟩:=a;exact eq_str (pE I q P7)
  | _=>exact absurd (show false=true from d) bD
 | byt i =>
  obtain⟨t,rfl⟩:=f;cases y with
  | byt j=>obtain⟨c,rfl⟩:=a;exact PySem.W.eq_bytes (pE I q Ts)
  | _=>exact absurd (show false=true from d) bD
 | _=>cases y<;>exact absurd (show false=true from d) bD
theorem Uc:nZ X (compareOp .NotEq) Yl:=by
 intro k s m H x y v u Q I f a h;obtain⟨d,q⟩:=h;cases x with
 | e =>
  cases f;cases y with
  | e=>cases a;exact PySem.EqNone.ne_none_none (pE I q (by simp))
  | b j=>cases a;exact PySem.EqNone.ne_none_bool (pE I q (by simp))
  | int j=>obtain⟨c,rfl⟩:=a;exact PySem.EqNone.ne_none_int (pE I q (by simp))
  | str j=>obtain⟨c,rfl⟩:=a;exact PySem.EqNone.ne_none_str (pE I q (by simp))
  | _=>exact absurd (show false=true from d) bD
 | b i =>
  cases f;cases y with
  | e=>cases a;exact PySem.EqNone.ne_bool_none (pE I q (by simp))
  | b j=>cases a;exact ne_bool (pE I q (cL not Q4))
  | str j=>obtain⟨c,rfl⟩:=a;exact PySem.EqMixed.ne_bool_str (pE I q (by simp))
  | _=>exact absurd (show false=true from d) bD
 | int i =>
  obtain⟨t,rfl⟩:=f;cases y with
  | e=>cases a;exact PySem.EqNone.ne_int_none (pE I q (by simp))
  | int j=>obtain⟨c,rfl⟩:=a;exact ne_int (pE I q (cL not N5))
  | str j=>obtain⟨c,rfl⟩:=a;exact PySem.EqMixed.ne_int_str (pE I q (by simp))
  | _=>exact absurd (show false=true from d) bD
 | str i =>
  obtain⟨t,rfl⟩:=f;cases y with
  | e=>cases a;exact PySem.EqNone.ne_str_none (pE I q (by simp))
  | b j=>cases a;exact PySem.EqMixed.ne_str_bool (pE I q (by simp))
  | int j=>obtain⟨c,rfl⟩:=a;exact PySem.EqMixed.ne_str_int (pE I q (by simp))
  | str j=>obtain⟨c,rfl⟩:=a;exact ne_str (pE I q (cL not P7))
  | _=>exact absurd (show false=true from d) bD
 | byt i =>
  obtain⟨t,rfl⟩:=f;cases y with
  | byt j=>obtain⟨c,rfl⟩:=a;exact PySem.W.ne_bytes (pE I q (cL not Ts))
  | _=>exact absurd (show false=true from d) bD
 | _=>cases y<;>exact absurd (show false=true from d) bD
theorem Ue:nZ X (compareOp .Lt) (sO λi j=>.b (decide (i<j))):=Gb λ_ _ _ _ _ _ _ q=>lt_int q
theorem FE:nZ X (compareOp .LtE) (sO λi j=>.b (decide (i<=j))):=Gb λ_ _ _ _ _ _ _ q=>le_int q
theorem Je:nZ X (compareOp .Gt) (sO λi j=>.b (decide (j<i))):=Gb λ_ _ _ _ _ _ _ q=>gt_int q
theorem Np:nZ X (compareOp .GtE) (sO λi j=>.b (decide (j<=i))):=Gb λ_ _ _ _ _ _ _ q=>ge_int q
theorem CW:nZ X (compareOp .NotIn) (λx y H Q=>∃ i j,x = .str i/\y = .str j/\Q (.b (!(!(Builtin.Str.occurrences j i 0 j.length 1).isEmpty))) H):=by
 intro a s f H x y v u Q I c d h;obtain⟨i,j,rfl,rfl,q⟩:=h;obtain⟨t,rfl⟩:=c;obtain⟨e,rfl⟩:=d;exact notIn_str (pE I q rfl)
theorem nZ.or (h:nZ X f r) (g:nZ X f j):nZ X f (λx y H Q=>r x y H Q\/j x y H Q):=by
 intro a s d H x y v u Q I b c q;rcases q with q | q
 .exact h a s d H x y v u Q I b c q
 .exact g a s d H x y v u Q I b c q
theorem wG (b:Expr) (h:op ≠ .In:=by decide) (g:op ≠ .NotIn:=by decide):behindInMarks op b=false:=by
 have a:(op == CmpOp.In)=false:=by cases op<;>first | rfl | exact absurd rfl h
 have c:(op == CmpOp.NotIn)=false:=by cases op<;>first | rfl | exact absurd rfl g
 cases b<;>simp[behindInMarks,a,c]
theorem MB (o:nZ X (compareOp op) r) (g:PE X a p) (j:PE X b C) (l:behindInMarks op b=false):PE X (.Compare a [op] [b] pos) (Dl r p C):=by
 intro c s m H Q I h;exact wpAny_Compare1 (Lq g j I h λv u k x y d e f i q=>o c k m d x y v u Q e f i q) l
def IE (t:TE):TT:=λc H Q=>t c H λx a=>∃ k,x = .b k/\Q k a
theorem uV (o:nZ X (compareOp op) r) (g:PE X a p) (j:PE X b C) (l:behindInMarks op b=false):PT X (.Compare a [op] [b] pos) (IE (Dl r p C)):=by
 intro d s f H Q I h;refine wpAny_isTrue_Compare1 (nJ (g d s f H _ I h) λv K ⟨x,i,q,E,A⟩=>nJ (j d K f i _ q A) λu L ⟨y,m,t,F,B⟩ =>nJ (o d L f m x y v u _ t E F B) λc M ⟨z,n,w,G,k,e,D⟩=>?_) l;subst e;cases G;exact gO ⟨n,w,D⟩
def Lp (K:nH) (x:V) (H:Hp) (k:Bool):Prop :=
 match x with
 | .e=>k=false
 | .b b=>k=b
 | .int i=>k=(i != 0)
 | .str y=>y.length<=sizeLine/\k=((y.length:Int) != 0)
 | .byt y=>y.size<=sizeLine/\k=((y.size:Int) != 0)
 | .ref p=>(∃ c,dT K H p c/\k = !c.isEmpty)\/(∃ c,nY K H p c/\k = !c.isEmpty)\/∃ a,Rd H p (.k a)/\k = !a.isEmpty
 | _=>False
theorem HY (r:KV g j):(!j.isEmpty) = !g.isEmpty:=by
 cases r<;>rfl
theorem Tt (r:nN j g):(!g.toArray.isEmpty) = !j.isEmpty:=by
 cases r<;>simp
theorem zS:(sizeLine:Nat)<2 ^ 63:=by rw[sizeLine_eq];decide
theorem BG:Xe X (λx H Q=>∃ k,Lp X.K x H k/\Q k H):=by
 intro E s N H x v Q I n h;obtain⟨k,e,q⟩:=h;have L:=zS;have M:sizeLine=16777216:=sizeLine_eq;cases x with
 | e =>
  cases n;have a:k=false:=e;subst a;exact truthy_none ⟨H,I,q⟩
 | b b =>
  cases n;have a:k=b:=e;subst a;exact gO ⟨H,I,q⟩
 | int i =>
  obtain⟨t,rfl⟩:=n;have a:k=(i != 0):=e;subst a;exact PySem.P.truthy_int ⟨H,I,q⟩
 | str y =>
  obtain⟨t,rfl⟩:=n;obtain⟨G,a⟩:y.length<=sizeLine/\k=((y.length:Int) != 0):=e;subst a;exact PySem.P.truthy_str (by omega) ⟨H,I.tok _,q⟩
 | byt y =>
  obtain⟨t,rfl⟩:=n;obtain⟨G,a⟩:y.size<=sizeLine/\k=((y.size:Int) != 0):=e;subst a;exact PySem.W.truthy_bytes (by omega) ⟨H,I.tok _,q⟩
 | ref p =>
  cases n;have a:(∃ f,dT X.K H p f/\k = !f.isEmpty)\/(∃ f,nY X.K H p f/\k = !f.isEmpty)\/∃ c,Rd H p (.k c)/\k = !c.isEmpty:=e;rcases a with⟨f,u,a⟩ | ⟨f,u,a⟩ | ⟨c,u,a⟩
  .subst a;obtain⟨A,r,B,D⟩:=I.list u;have d:=r.length;exact wpAny_truthy_list B.isList (by simp only[aW];omega) ⟨H,I.tok _,by rw[Tt r];exact q⟩
  .subst a;obtain⟨A,r,B,D⟩:=I.tuple u;have d:=r.length;exact truthy_tuple B (by simp only[aW];omega) ⟨H,I.tok _,by rw[Tt r];exact q⟩
  .subst a;obtain⟨D,F,z,r,m⟩:c.length<=sizeLine/\(p == sysModules)=false/\∃ z,KV c z/\s.heap.DictOf (oG X.prog X.w) p z:=Rd.ok u I.hok;have d:c.length=z.length:=eC r;exact wpAny_truthy_dict F m (by omega) ⟨H,I.tok _,by rw[HY r];exact q⟩
 | _=>exact (show False from e).elim
theorem U8 (l:PE X a p) (o:∀ whole,isTrue a X.env whole=(do let v <- whole;standAt a.pos;holding [v] (truthy v))) :
  PT X a (λg H Q=>p g H λx j=>∃ k,Lp X.K x j k/\Q k j):=by
 intro b s g H Q I h;exact isTrue_plain (nJ (l b s g H _ I h) λv i ⟨x,c,d,f,e⟩=>BG b i g c x v Q d f e) (o _)
theorem wS:nZ X (binaryOp .Add) (λx y H Q=>∃ i j,x = .str i/\y = .str j/\i.length+j.length<=sizeLine/\Q (.str (i++j)) H):=by
 intro a s k H x y v u Q I c d h;obtain⟨i,j,rfl,rfl,b,q⟩:=h;obtain⟨t,rfl⟩:=c;obtain⟨e,rfl⟩:=d;exact add_str (λe f=>⟨.str (i++j),H,I.tok _,⟨_,rfl⟩,q⟩) b
theorem qZ (r:nN [x] g):∃ u,g=[u]/\nM x u:=by
 cases r with
 | cons a b=>cases b;exact⟨_,rfl,a⟩
theorem Bp (r:nN [x,y] j):∃ u g,j=[u,g]/\nM x u/\nM y g:=by
 cases r with
 | cons a b =>
  cases b with
  | cons c d=>cases d;exact⟨_,_,rfl,a,c⟩
theorem Dw:oQ X (.builtin "abs") (λg H Q=>∃ i,g=[.int i]/\Q (.int (if i<0 then -i else i)) H):=by
 intro a s d H g c Q I r h;obtain⟨i,rfl,q⟩:=h;obtain⟨u,rfl,t,rfl⟩:=qZ r;exact call_abs_int λu b=>⟨.int (if i<0 then -i else i),H,I.tok _,⟨_,rfl⟩,q⟩
theorem FN (l:X.calm=true):oQ X (.builtin "max") (λg H Q=>∃ i j,g=[.int i,.int j]/\Q (.int (if j>i then j else i)) H):=by
 intro b s n H g f Q I r h;obtain⟨i,j,rfl,q⟩:=h;obtain⟨u,m,rfl,⟨t,rfl⟩,⟨d,rfl⟩⟩:=Bp r;refine max_two_ints (I.ok.hd l) λc e k=>⟨_,H,I.kept k,?_,q⟩
 by_cases a:j>i
 .rw[aP a,aP a];exact⟨_,rfl⟩
 .rw[aJ a,aJ a];exact⟨_,rfl⟩
theorem Ll (l:X.calm=true):oQ X (.builtin "min") (λg H Q=>∃ i j,g=[.int i,.int j]/\Q (.int (if j<i then j else i)) H):=by
 intro b s n H g f Q I r h;obtain⟨i,j,rfl,q⟩:=h;obtain⟨u,m,rfl,⟨t,rfl⟩,⟨d,rfl⟩⟩:=Bp r;refine min_two_ints (I.ok.hd l) λc e k=>⟨_,H,I.kept k,?_,q⟩
 by_cases a:j<i
 .rw[aP a,aP a];exact⟨_,rfl⟩
 .rw[aJ a,aJ a];exact⟨_,rfl⟩
theorem Xr:oQ X (.type "int") (λg H Q=>(∃ i,g=[.int i]/\Q (.int i) H)\/∃ k,g=[.b k]/\Q (.int (if k then 1 else 0)) H):=by
 intro a s e H g d Q I r h;rcases h with⟨i,rfl,q⟩ | ⟨k,rfl,q⟩
 .obtain⟨u,rfl,t,rfl⟩:=qZ r;exact call_int_int ⟨.int i,H,I,⟨_,rfl⟩,q⟩
 .obtain⟨u,rfl,c⟩:=qZ r;cases c;exact call_int_bool ⟨.int (if k then 1 else 0),H,I.tok _,⟨_,rfl⟩,q⟩
end
structure ObjM (h:Heap) (x dx C:Addr) (mA:Str->Option Value):Prop where
 obj:h.get? x=some (PySem.W.instObj C dx)
 ns:h.Ns1 dx mA
 ne:dx≠x
theorem GP {h:Ag}{g:Ad}{j:Af->Ab Ac}(n:h.Ns1 g j):∃ l,h.get? g=some l/\∀ name,PySem.W.lookIn name l=some (j name):=by
 obtain⟨o,c,m,i,hd,hk,_,f⟩:=n;refine⟨o,i,λname=>?_⟩;have e:=f name;unfold nsFind findBy at e;rw[<- Array.find?_toList] at e;unfold PySem.W.lookIn;rw[hd];dsimp only;split
 .rename_i y q
  rw[q] at e;exact cL some e
 .rename_i q
  rw[q] at e;have a:c.toList.any (·.refKey)=false:=by
   rw[List.any_eq_false];intro y k;obtain⟨z,t,b⟩:=hk y (Array.mem_toList_iff.mp k);simp[DictEntry.refKey,b]
  have d:¬ c.toList.any (·.refKey)=true:=by rw[a];exact bD
  rw[aJ d];exact cL some e
theorem ObjM.look (I:ObjM h x j C l):∃ g,PySem.W.InstAt h x (PySem.W.instObj C j) C (some g)/\∀ name,PySem.W.lookIn name g=some (l name) :=
 let ⟨g,b,a⟩:=GP I.ns
 ⟨g,⟨I.obj,rfl,rfl,b⟩,a⟩
theorem sS.some_of (r:sS (some v) o):∃ u,o=some u/\nM v u:=by
 cases o with
 | none=>exact (show False from r).elim
 | some u=>exact⟨u,rfl,r⟩
section
variable {P:Ah}
theorem Yq (l:oX P w H h) (e:H a=some (.ins C j fs)):∃ g,ObjM h a j C g/\(∀ f,sS (fs.lookup f) (g f))/\PySem.Within g (fs.map (·.1))/\fs.length<=1000/\H j=some (.o a):=by
 obtain⟨d,z,ne,b,g,n,r,q⟩:=(show oM P w H h a (.ins C j fs) from l a _ e);exact⟨g,⟨b,n,ne⟩,r,q,z,d⟩
end
structure Cls (K:nH) (C:Addr):Prop where
 pg:PySem.W.plainGet K C Str.empty=true
 hd:PySem.W.hasDictIn K C=true
 po:PySem.W.plainOver K C=true
 sa:PySem.W.findIn K (.ref C) "__setattr__" = some (some (.builtin "object.__setattr__"))
theorem Cls.get {K:nH}(c:Cls K C) (f:Af):PySem.W.plainGet K C f=true:=c.pg
section
variable {X:Cx}
inductive TyOf (K:nH) (H:Hp):V->Value->Prop where
 | e:TyOf K H .e (.type "NoneType")
 | b (x:Bool):TyOf K H (.b x) (.type "bool")
 | int (i:Int):TyOf K H (.int i) (.type "int")
 | str (x:Str):TyOf K H (.str x) (.type "str")
 | flt (x:UInt64):TyOf K H (.flt x) (.type "float")
 | l {a:Addr} {xs:List V} (e:H a=some (.l xs)):TyOf K H (.ref a) (.type "list")
 | frz {a:Addr} {o:Obj} {xs:List V} (e:H a=some (.frz o (.l xs))):TyOf K H (.ref a) (.type "list")
 | t {a:Addr} {xs:List V} (e:H a=some (.t xs)):TyOf K H (.ref a) (.type "tuple")
 | k {a:Addr} {kvs:List (gV×V)} (e:Rd H a (.k kvs)):TyOf K H (.ref a) (.type "dict")
 | T {a:Addr} {kvs:List (List gV×V)} (e:H a=some (.T kvs)):TyOf K H (.ref a) (.type "dict")
 | dM {a:Addr} {kvs:List (MK×V)} (e:H a=some (.dM kvs)):TyOf K H (.ref a) (.type "dict")
 | ins {a C dx:Addr} {fs:List (Str×V)} (e:H a=some (.ins C dx fs)) (cl:Cls K C) (ha:PySem.W.findIn K (.ref C) "__class__" = some (some (.builtin "object.__class__")))
   (hn:PySem.W.specialIn K (.builtin "object.__class__") "__get__" = some (some (.builtin "getset_descriptor.__get__"))) (htk:PySem.W.takesIn K (.builtin "object.__class__")=some true)
   (hm:PySem.W.mroIn K C (.type "object")=some true):TyOf K H (.ref a) (.ref C)
theorem EU (I:Inv X j U H s) (g:nM x u) (ty:TyOf X.K H x t) (e:PySem.W.kitOne X.K t c=some b) (h:∀ r,Q (.bool b) { s with toks:=r }) :
  wpAny (model X.prog X.w) A (call (.builtin "isinstance") [u,c]) Q E s:=by
 cases ty with
 | e=>cases (show u=Value.none from g);exact dX PySem.W.kitx_none I.kIn True.intro e (λz=>nomatch z) h
 | b y=>cases (show u=Value.bool y from g);exact dX PySem.W.kitx_bool I.kIn True.intro e (λz=>nomatch z) h
 | int i=>obtain⟨t,q⟩:=(show ∃ t,u=Value.int i t from g);cases q;exact dX PySem.W.kitx_int I.kIn True.intro e (λz=>nomatch z) h
 | str y=>obtain⟨t,q⟩:=(show ∃ t,u=Value.str y t from g);cases q;exact dX PySem.W.kitx_str I.kIn True.intro e (λz=>nomatch z) h
 | flt y=>obtain⟨t,q⟩:=(show ∃ t,u=Value.float y t from g);cases q;exact dX PySem.W.kitx_float I.kIn True.intro e (λz=>nomatch z) h
 | @l a B d =>
  cases (show u=Value.ref a from g);obtain⟨_,_,n,_,f⟩:=(show oM X.prog X.w H s.heap a (.l B) from I.hok a _ d);exact dX PySem.W.kitx_list I.kIn ⟨_,f,rfl⟩ e (λz=>nomatch z) h
 | @frz a P B d =>
  cases (show u=Value.ref a from g);obtain⟨_,_,_,n,_,f⟩:=(show oM X.prog X.w H s.heap a (.frz P (.l B)) from I.hok a _ d);exact dX PySem.W.kitx_list I.kIn ⟨_,f,rfl⟩ e (λz=>nomatch z) h
 | @t a B d =>
  cases (show u=Value.ref a from g);obtain⟨_,_,_,p,_⟩:=(show oM X.prog X.w H s.heap a (.t B) from I.hok a _ d);obtain⟨o,f,v,_⟩:=p;exact dX PySem.W.kitx_tuple I.kIn ⟨o,f,v⟩ e (λz=>nomatch z) h
 | @k a m d =>
  cases (show u=Value.ref a from g);obtain⟨_,_,Y,_,p⟩:=(show oM X.prog X.w H s.heap a (.k m) from Rd.ok d I.hok);obtain⟨o,G,F,f,v,_⟩:=p;exact dX mL I.kIn ⟨o,f,v.1⟩ e (λz=>nomatch z) h
 | @T a m d =>
  cases (show u=Value.ref a from g);obtain⟨_,_,B,_,o,G,F,f,v,_⟩:=(show oM X.prog X.w H s.heap a (.T m) from I.hok a _ d);exact dX mL I.kIn ⟨o,f,v.1⟩ e (λz=>nomatch z) h
 | @dM a m d =>
  cases (show u=Value.ref a from g);obtain⟨_,_,B,_,o,G,F,f,v,_⟩:=(show oM X.prog X.w H s.heap a (.dM m) from I.hok a _ d);exact dX mL I.kIn ⟨o,f,v.1⟩ e (λz=>nomatch z) h
 | @ins a C R fs d cl L N D M =>
  cases (show u=Value.ref a from g);obtain⟨S,O,_⟩:=Yq I.hok d;obtain⟨V,J,_⟩:=O.look;exact dX (PySem.W.kitx_own (cl.get _) cl.hd L N D M) I.kIn J e (λz=>nomatch z) h
end
structure Room (k:Nat) (A:Around):Prop where
 hd:A.handled=none
 dp:A.depth+3*k+5<recursionLimit
 un:A.units+16*k+200<cLine
theorem Room.mono (r:Room k A) (h:j<=k):Room j A:=⟨r.hd,by have:=r.dp;omega,by have:=r.un;omega⟩
theorem Room.deeper (r:Room (k+1) A) (g:Env):Room k (A.deeper g) :=
 ⟨r.hd,by have:=r.dp;show A.depth+1+3*k+5<_;omega,by have:=r.un;show A.units+3+16*k+200<_;omega⟩
theorem Room.depth (r:Room k A):A.depth<recursionLimit:=by have:=r.dp;omega
theorem Room.units (r:Room k A):A.units+64<cLine:=by have:=r.un;omega
def Fp:TA:=λ_ H Q=>Q [] H
def Cp (g:TE) (j:TA):TA:=λa H Q=>g a H λx b=>j a b λd c=>Q (x::d) c
section
variable {X:Cx}
theorem nL:PA X [] Fp:=λ_ _ _ _ H Q I h=>Calls.spliced_nil ⟨[],H,I,.nil,h⟩
theorem wW (j:PE X e p) (l:PA X g t) (o:starEach (e::g) X.env=(false,eval e X.env)::starEach g X.env:=by rfl):PA X (e::g) (Cp p t):=by
 intro pos a s c H Q I h;rw[o];show wpAny _ _ (spliced ((false,eval e X.env)::backTo pos (starEach g X.env))) _ _ s;refine kR (nJ (j a s c H _ I h) λu w b=>?_);obtain⟨x,d,i,q,m⟩:=b;exact nJ (l pos a w c d _ i m) λA z ⟨y,f,k,v,n⟩=>⟨x::y,f,k,.cons q v,n⟩
def Zj (t:TA):TE:=λc H Q=>t c H λb a=>b.length<=sizeLine/\∀ p,a p=none->Q (.ref p) (upd a p (.t b))
def Qy (t:TA):TE:=λc H Q=>t c H λb a=>b.length<=sizeLine/\∀ p,a p=none->Q (.ref p) (upd a p (.l b))
theorem A3 {j}(h:PA X g t):PE X (.Tuple g j pos) (Zj t):=by
 intro a s v H Q I k;refine wpAny_Tuple_spliced (nJ (h pos a s v H _ I k) λm c ⟨n,d,f,r,z,q⟩=>⟨by rw[<- r.length];exact z,?_⟩);have i:d c.heap.objs.size=none:=f.hok.fresh (aU _);refine⟨.ref c.heap.objs.size,upd d c.heap.objs.size (.t n),f.laid (t':=c.toks) (λb u e=>aK _ e) (aU _) ?_,rfl,q _ i⟩;exact⟨z,m,r,⟨_,bB _ rfl,rfl,_,rfl⟩,_,bB _ rfl,rfl⟩
theorem pY (h:PA X g t):PE X (.List g pos) (Qy t):=by
 intro a s v H Q I k;refine wpAny_List_spliced (nJ (h pos a s v H _ I k) λm c ⟨n,d,f,r,z,q⟩=>⟨by rw[<- r.length];exact z,?_⟩);have i:d c.heap.objs.size=none:=f.hok.fresh (aU _);refine⟨.ref c.heap.objs.size,upd d c.heap.objs.size (.l n),f.laid (t':=c.toks) (λb u e=>aK _ e) (aU _) ?_,rfl,q _ i⟩;exact⟨z,m,0,r,bB _ rfl⟩
end
abbrev Sp:=Aa V->Hp->VK->XK->Prop
abbrev Bx:=Aa Env->Hp->Ae->XK->Ac->Ae->Prop
structure Env0 (P:Program) (w:World) (K:nH) (mg:Str->Option Value) (base:Heap) (A:Around) (outer:List Env) (s:Shared) (H:Hp):Prop where
 frames:A.frames=some outer
 mod:Mod K mg base
 bs:∀ b o,base.get? b=some o->s.heap.get? b=some o/\H b=none
 bsz:base.objs.size<=s.heap.objs.size
 funs:s.heap.FunFrames base outer
 frf:∀ b∈uQ outer,H b=none
 hok:oX P w H s.heap
 bare:AllBare s.gens
def CE (g:Aa Env) (P:Ah) (w:World) (H:Hp) (s:Ae) (Q:VK) (u:Ac) (j:Ae):Prop :=
 ∃ v a,j.os=s.os/\AllBare j.gens/\Un (uQ g) [] H a s.heap j.heap/\oX P w a j.heap/\nM v u/\Q v a
def CR (l:Bx) (g:Aa Env) (P:Ah) (w:World) (H:Hp) (s:Ae) (Q:VK) (E:XK) (r:Result) (j:Ae):Prop :=
 match r with
 | .ok (.ret u)=>CE g P w H s Q u j
 | .ok _=>False
 | .error e=>l g H s E e j
structure FnOk (P:Program) (w:World) (K:nH) (mg:Str->Option Value) (base:Heap) (CX:Bx) (k:Nat) (f:Addr) (fd:FuncData) (ps:List Str) (sp:Sp):Prop where
 len:∀ vs H Q E,sp vs H Q E->vs.length=ps.length
 run:∀ (A:Around) (outer:List Env) (s:Shared) (H:Hp) (args:Args) (us:List Value) (vs:List V) (Q:VK) (E:XK),Room k A->Env0 P w K mg base A outer s H->BindsTo s fd args (ps.zip us)->nN vs us->sp vs H Q E ->
  codeAny (model P w) A (.call (.ref f) args) (CR CX outer P w H s Q E) s
theorem FnOk.imp {P:Ah}{K:nH}(F:FnOk P w K o base l k f fd p r)
  (h:∀ g H Q E,j g H Q E->r g H Q E):FnOk P w K o base l k f fd p j :=
 ⟨λg H Q E q=>F.len g H Q E (h _ _ _ _ q),λA a s H args m g Q E d c b i e=>F.run A a s H args m g Q E d c b i (h _ _ _ _ e)⟩
section
variable {X:Cx}
theorem Inv.env0 (I:Inv X g j H s):Env0 X.prog X.w X.K X.mg X.base X.A X.stack s H :=
 ⟨I.ok.frames,I.ok.mod,I.bs,bF I.ok.bsz I.sz,I.stack,I.stkFree,I.hok,I.bare⟩
theorem Inv.after (I:Inv X j o H s) (h:CE X.stack X.prog X.w H s Q u l):EP X j o Q u l:=by
 obtain⟨v,e,os,bare,un,a,r,q⟩:=h;obtain⟨f,g,d,t,c⟩:=l;obtain rfl:c=s.os:=os;exact⟨v,e,I.call (h':=f) (g':=g) (d':=d) (t':=t) (ch:=[]) un a bare (λb z=>absurd z (by simp)),r,q⟩
end
def Sx (j:Sp) (g:Aa V) (E:XK) (t:TA):TE:=λc H Q=>t c H λb a=>j (b++g) a Q E
def xN (K:nH) (fd:FuncData) (j:Aa Af) (g:Aa Ac):Prop :=
 ∀ (s:Ae) (a:Aa Ac),K.In s.heap->(a++g).length=j.length->BindsTo s fd ⟨a,[]⟩ (j.zip (a++g))
theorem xN.all {K:nH}(h:∀ g:Aa Ac,g.length=j.length->bindArgs fd ⟨g,[]⟩=pure (j.zip g)):xN K fd j []:=λs g _ a=>by
 rw[cZ] at a |-;exact .of_eq (h g a)
def E5 (g:Bx) (X:Cx) (E:XK):Prop:=∀ (a:Aa (Ad×Obj)) (c:St) (H:Hp) (s:Ae) (e:Ac) (b:Ae),Inv X a c H s->g X.stack H s E e b->X.xe e b
section
variable {X:Cx}
theorem Si (F:FnOk X.prog X.w X.K X.mg X.base J k f fd p sp) (U:Room k X.A) (T:xN X.K fd p l) (hd:nN j l) (hx:E5 J X E)
  (I:Inv X g C H s) (r:nN o us) (h:sp (o++j) H Q E):wpAny (model X.prog X.w) X.A (call (.ref f) us) (EP X g C Q) X.xe s:=by
 have b:nN (o++j) (us++l):=r.append hd;have d:(us++l).length=p.length:=by rw[<- b.length];exact F.len _ _ _ _ h
 refine mX (codeAny_mono (F.run X.A X.stack s H ⟨us,[]⟩ (us++l) (o++j) Q E U I.env0 (T s us I.kIn d) b h) λr i a=>?_);cases r with
 | error e=>exact hx g C H s e i I a
 | ok c =>
  cases c with
  | ret u=>exact I.after a
  | next=>exact False.elim a
  | brk=>exact False.elim a
  | cont=>exact False.elim a
structure StB (X:Cx) (e:Expr) (es:List Expr) (pos:Pos):Prop where
 a:starEach (e::es) X.env=(false,eval e X.env)::starEach es X.env:=by rfl
 b:(backTo pos (starEach es X.env)).any (·.1)=false:=by rfl
theorem qF (F:FnOk X.prog X.w X.K X.mg X.base C k f fd ps sp) (hr:Room k X.A) (hg:Gl X x) (hm:X.mg x=some (.ref f)) (hk:PySem.W.keepIn X.K (.ref f)=true) (U:xN X.K fd ps J) (hd:nN j J) (hx:E5 C X E)
  (T:PA X (e::o) t) (l:(x == ("__debug__" : Af))=false:=by decide) (g:StB X e o pos:=by exact {}) :
  PE X (.Call (.Name x p) (e::o) [] pos) (Sx sp j E t):=by
 intro c s i H Q I h;refine iC (N6 I hg hm ?_ l);refine PySem.W.callWith_K (h₀:=X.base) I.ok.mod.kin hk (nJ (T pos c s i H _ I h) λu n ⟨v,m,d,r,q⟩=>⟨d.kIn,?_⟩) g.a g.b;exact Si F hr U hd hx d r q
theorem Oz (F:FnOk X.prog X.w X.K X.mg X.base l k f fd ps sp) (T:Room k X.A) (C:Gl X x) (J:X.mg x=some (.ref f)) (hk:PySem.W.keepIn X.K (.ref f)=true) (r:xN X.K fd ps o) (hd:nN g o) (U:E5 l X E)
  (j:(x == ("__debug__" : Af))=false:=by decide):PE X (.Call (.Name x p) [] [] pos) (Sx sp g E Fp):=by
 intro a s b H Q I h;refine iC (N6 I C J ?_ j);exact PySem.W.callWith_K0 I.kIn hk (Si (us:=[]) F T r hd U I .nil h)
end
structure FnScope (N P:List Str) (sc:Scope):Prop where
 kind:sc.kind = .function
 co:sc.isCoroutine=false
 gen:sc.isGenerator=false
 nd:N.Nodup
 pre:N.take P.length=P
 par:∀ x∈P,sc.names.lookup x=some .local\/sc.names.lookup x=some .cell
 nofree:∀ y∈sc.names,y.2 ≠ .free
theorem Rj {kindOf:Af->Ab NameKind}:∀ {binds:Aa (Af×Ac)}{m:Af->Ab Ac},(∀ v,(x,v)∉binds)->bindL kindOf binds m x=m x
 | [],_,_=>rfl
 | (n,v)::r,m,h=>by
  unfold bindL;rw[Rj λw hw=>h w (aH _ hw)];split
  .have:x≠n:=by rintro rfl;exact h v aF
   simp[this]
  .rfl
theorem Uj {kindOf:Af->Ab NameKind}:∀ {binds:Aa (Af×Ac)}{m:Af->Ab Ac},(∀ v,(x,v)∉binds)->bindC kindOf binds m x=m x
 | [],_,_=>rfl
 | (n,v)::r,m,h=>by
  unfold bindC;rw[Uj λw hw=>h w (aH _ hw)];split
  .rfl
  .have:x≠n:=by rintro rfl;exact h v aF
   simp[this]
theorem Oe {kindOf:Af->Ab NameKind}:∀ {P:Aa Af}{g:Aa Ac}{i:Nat}{m:Af->Ab Ac},P.Nodup->P[i]?=some x->g[i]?=some v->kindOf x=some .local ->
  bindL kindOf (P.zip g) m x=some v
 | [],_,_,_,_,h,_,_=>by simp at h
 | _::_,[],_,_,_,_,h,_=>by simp at h
 | p::P,w::g,0,m,nd,a,b,hk=>by
  simp at a b;subst a;subst b;show bindL kindOf ((p,w)::P.zip g) m p=_;unfold bindL;rw[Rj λv c=>(bM.mp nd).1 (gW c).1,aP hk];simp
 | p::P,w::g,i+1,m,nd,a,b,hk=>by
  show bindL kindOf ((p,w)::P.zip g) m x=_;unfold bindL;exact Oe (i:=i) (bM.mp nd).2 (by simpa using a) (by simpa using b) hk
theorem Pn {kindOf:Af->Ab NameKind}:∀ {P:Aa Af}{g:Aa Ac}{i:Nat}{m:Af->Ab Ac},P.Nodup->P[i]?=some x->g[i]?=some v->kindOf x≠some .local ->
  bindC kindOf (P.zip g) m x=some v
 | [],_,_,_,_,h,_,_=>by simp at h
 | _::_,[],_,_,_,_,h,_=>by simp at h
 | p::P,w::g,0,m,nd,a,b,hk=>by
  simp at a b;subst a;subst b;show bindC kindOf ((p,w)::P.zip g) m p=_;unfold bindC;rw[Uj λv c=>(bM.mp nd).1 (gW c).1,aJ hk];simp
 | p::P,w::g,i+1,m,nd,a,b,hk=>by
  show bindC kindOf ((p,w)::P.zip g) m x=_;unfold bindC;exact Pn (i:=i) (bM.mp nd).2 (by simpa using a) (by simpa using b) hk
def tE (N:Aa Af) (g:Aa V):St:=g.map some++List.replicate (N.length-g.length) none
noncomputable def yN (o:Bx) (P:Ah) (w:World) (K:nH) (p:Af->Ab Ac) (base:Ag) (N:Aa Af) (l:Af) (g:Scope) (f:Ad) (cd:Ac) (A:Around) (j:Aa Env) (s:Ae) (H:Hp) (E:XK):Cx where
 prog:=P
 w:=w
 K:=K
 mg:=p
 base:=base
 A:=A.deeper (envOfC l g s.heap.objs.size f cd)
 N:=N
 s₀:=s
 H₀:=H
 env:=envOfC l g s.heap.objs.size f cd
 outer:=j
 stack:=envOfC l g s.heap.objs.size f cd::j
 ex:=[]
 calm:=true
 fn:=λ_=>true
 pn:=[]
 xe:=λe c=>wpAny (model P w) (A.deeper (envOfC l g s.heap.objs.size f cd)) (leaving (envOfC l g s.heap.objs.size f cd) e) (λ_ a=>o j H s E e a) (λb a=>o j H s E b a) c
theorem Uz {g:Scope}{n:Nat}{x:Af}(h:g.names.lookup x=some .cell):∃ c,(cellsFrom n g.names []).lookup x=some c:=by
 have q:=PySem.W.cellsFrom_some g.names n [] (.inl h);exact eD.mp q
theorem GW {P:Ah}{K:nH}{cd:Ac}
  (S:FnScope N C g) (hd:A.handled=none) (o:Env0 P w K J base A j s H) (hl:I.length=C.length) (r:nN I T)
  (x:InCallC s s.heap.objs.size (bindL (envOfC l g s.heap.objs.size f cd).kindOf (C.zip T) λ_=>none) (cellsFrom (s.heap.objs.size+1) g.names []) (bindC (envOfC l g s.heap.objs.size f cd).kindOf (C.zip T) λ_=>none) s1) :
  Inv (yN U P w K J base N l g f cd A j s H E) [] (tE N I) H s1:=by
 have O:C.length<=N.length:=by have:=cL List.length S.pre;rw[bN] at this;omega
 obtain⟨F,V,rfl,hk⟩:=x.done;have t:∀ b:Ad,b∉(yN U P w K J base N l g f cd A j s H E).ex:=λb z=>absurd (show b∈([]:Aa Ad) from z) (by simp)
 refine⟨⟨o.mod,S.kind,rfl,rfl,aU _,λy z c F d=>?_,λy m=>?_,λy c _ h=>?_,λ_=>hd,Around.frames_deeper o.frames,.inr ⟨rfl,rfl⟩,λb z=>absurd z (t b),o.bs,o.bsz,λb _ _=>t b,λb z=>absurd z (t b),o.funs,o.frf⟩,
  rfl,o.bare,Un.kept hk,⟨_,x.toInCall.ns,λi y v F d R=>?_⟩,λy c h=>⟨_,x.cell y c h⟩,o.hok.fresh (aU _),λy c h=>?_,λp B=>absurd (show p∈([]:Aa (Ad×Obj)) from B) (by simp),o.hok.kept hk,?_⟩
 .exact name_of_addr x.apart (eI F) (eI d)
 .have m:g.names.lookup y=some .cell\/g.names.lookup y=some .free:=m;rcases m with m | m
  .exact Uz m
  .exact absurd rfl (S.nofree _ (eI m))
 .exact eT (x.above y c (eI h))
 .have G:i<I.length:=by
   unfold tE at d;by_cases G:i<I.length
   .exact G
   .rw[cU (by simpa using G)] at d;rw[List.getElem?_replicate] at d;split at d<;>cases d
  have M:I[i]?=some v:=by
   unfold tE at d;rw[eU (by simpa using G),aQ] at d;cases e:I[i]? with
   | none=>rw[e] at d;cases d
   | some a=>rw[e] at d;cases d;rfl
  obtain⟨u,L,Q⟩:=r.get M;have B:C[i]?=some y:=by
   rw[<- S.pre,List.getElem?_take_of_lt (by omega)];exact F
  have D:C.Nodup:=by rw[<- S.pre];exact S.nd.sublist (List.take_sublist _ _)
  refine⟨u,Q,?_⟩;rcases S.par y (aL B) with k | k
  .exact .inl ⟨k,Oe D B L k⟩
  .obtain⟨c,e⟩:=Uz (n:=s.heap.objs.size+1) k;refine .inr ⟨.inl k,c,e,?_⟩;have q:=x.cell y c e;rw[Pn D B L (by show g.names.lookup y≠_;rw[k];decide)] at q;exact q
 .exact o.hok.fresh (eT (x.above y c (eI h)))
 .unfold tE;show _=N.length;rw[aZ,aA,cO];omega
theorem DW {P:Ah}{K:nH}{kV:Ac}
(lk:K.lookup f=some ⟨oc,od,.func (PySem.W.fnOf name l C body g dV kV ab pm an p ct),ae⟩) (ac:PySem.W.codeIn K p l=true) (S:FnScope N ps g)
  (len:∀ T H Q E,sp T H Q E->T.length=ps.length)
  (aa:∀ (A:Around) (j:Aa Env) (s:Ae) (H:Hp) (T:Aa V) (Q:VK) (E:XK),Room k (A.deeper (envOfC l g s.heap.objs.size f p))->sp T H Q E ->∃ t,pR (yN CX P w K mg base N l g f p A j s H E) body t/\t { nx:=λ_ U=>Q .e U,rt:=Q } (tE N T) H) :
  FnOk P w K mg base CX (k+1) f (PySem.W.fnOf name l C body g dV kV ab pm an p ct) ps sp:=by
 refine⟨len,λA j s H args us T Q E m h O r i=>?_⟩;have X:=len _ _ _ _ i;have F:K.In s.heap:=h.mod.kin.keeps λb o e=>(h.bs b o e).1
 have z:s.heap.NoLimit:=h.mod.nolimit.keeps λb o e=>(h.bs b o e).1
 have c:∀ y∈ps.zip us,g.names.lookup y.1=some .local\/(g.names.lookup y.1=some .cell/\((cellsFrom (s.heap.objs.size+1) g.names []).lookup y.1).isSome=true):=λ⟨n,v⟩ hy=>by
  rcases S.par n (gW hy).1 with q | q
  .exact .inl q
  .exact .inr ⟨q,PySem.W.cellsFrom_some _ _ _ (.inl q)⟩
 refine codeAny_call_function m.depth (F _ _ lk) rfl S.co S.gen rfl (PySem.W.codeRec_of F ac) (O _ _ _ _ ?_);refine wpAny_newFunctionEnv_cells S.kind c λL R G x=>?_
 subst R;refine⟨z.keeps x.toInCall.keep,codeAny_func ?_⟩;obtain⟨t,Z,Y⟩:=aa A j s H T Q E (m.deeper _) i;have I:Inv (yN CX P w K mg base N l g f p A j s H E) [] (tE N T) H G:=GW S m.hd h X r x;refine dF (Z [] G (tE N T) H _ I Y) (λM D d=>?_) λe D d=>d
 have fin:∀ {a:St} {U:Hp} {v:V} {u:Ac},Inv (yN CX P w K mg base N l g f p A j s H E) [] a U D->nM v u->Q v U->CE j P w H s Q u D :=
  λ{a U v u} J B q=>⟨v,U,J.os,J.bare,J.base,J.hok,B,q⟩
 cases M with
 | ret u =>
  obtain⟨v,a,U,J,B,q⟩:=d;exact fin J B q
 | next =>
  obtain⟨a,U,J,q⟩:=d;exact fin (v:=V.e) (u:=Value.none) J rfl q
 | brk =>
  obtain⟨_,_,_,q⟩:=d;exact False.elim q
 | cont =>
  obtain⟨_,_,_,q⟩:=d;exact False.elim q
section
variable {X:Cx}{id:String}
def Ut (r:Aa V->Hp->VK->Prop) (t:TA):TE:=λc H Q=>t c H λb a=>r b a Q
theorem sM (C:oQ X (.builtin id) r) (J:Gl X x) (T:X.mg x=none) (hv:bootBuiltins x=some (.builtin id)) (o:PA X (e::l) t) (U:x ≠ "__name__" := by decide) (j:(x == ("__debug__" : Af))=false:=by decide)
  (g:StB X e l pos:=by exact {}):PE X (.Call (.Name x p) (e::l) [] pos) (Ut r t):=by
 intro c s d H Q I h;refine iC (wU I J T hv ?_ U j);exact PyProof.Rows.callWith_builtin1 (nJ (o pos c s d H _ I h) λq n ⟨u,f,i,m,k⟩=>C c n d f u q Q i m k) g.a g.b
theorem xR (C:oQ X (.type T) r) (J:Gl X x) (U:X.mg x=none) (hv:bootBuiltins x=some (.type T)) (o:PA X (e::l) t) (hn:x ≠ "__name__" := by decide) (j:(x == ("__debug__" : Af))=false:=by decide)
  (g:StB X e l pos:=by exact {}):PE X (.Call (.Name x p) (e::l) [] pos) (Ut r t):=by
 intro c s d H Q I h;refine iC (wU I J U hv ?_ hn j);exact dL (nJ (o pos c s d H _ I h) λq n ⟨u,f,i,m,k⟩=>C c n d f u q Q i m k) g.a g.b
end
end L2
namespace HT
open PySem PyProof.Rows
section
theorem cat_tup (J:IsTup s.heap t j.toArray) (I:IsTup s.heap b g.toArray) (o:j≠[])
  (r:g=[]->Q (.ref t) s) (C:g≠[]->Q (.ref s.heap.objs.size) { s with heap:=s.heap.push { cls:=.type "tuple",data:=.seq (j++g).toArray } })
  (l:j.length+g.length<=sizeLine):wpAny (model p w) A (binaryOp .Add (.ref t) (.ref b)) Q E s:=by
 obtain⟨⟨cls,m,data,sl⟩,i,q,n,hd⟩:=id J;obtain⟨⟨k,c,data2,h⟩,a,d,u,f⟩:=id I;simp only at q hd d f;subst q hd d f;have e:j.toArray++g.toArray=(j++g).toArray:=by simp
 by_cases hw:g=[]
 .exact concat_meets ⟨_,i,rfl⟩ ⟨_,a,rfl⟩ noFill_tuple_add seq_tuple_add lE kX (kG _ _)
   (tuple_addW1 t b j.toArray g.toArray n u m c sl h (by simpa using o) (by simp[hw])) ⟨i,a,r hw⟩
 .refine concat_meets ⟨_,i,rfl⟩ ⟨_,a,rfl⟩ noFill_tuple_add seq_tuple_add lE kX (kG _ _)
   (tuple_addW2 t b j.toArray g.toArray n u m c sl h (by simpa using o) (by simpa using hw) (by rw[aW,aW];exact l)) ⟨i,a,?_⟩
  rw[e];exact C hw
noncomputable def sIx (n d:Nat):Ab Int->Nat
 | none=>d
 | some v=>if v<0 then (v+(n:Int)).toNat else min v.toNat n
theorem sIx_none (n d:Nat):sIx n d none=d:=rfl
theorem sIx_nat (n d k:Nat):sIx n d (some (k:Int))=min k n:=by
 show (if (k:Int)<0 then ((k:Int)+(n:Int)).toNat else min (k:Int).toNat n)=min k n;rw[aJ (by omega),cD]
theorem sIx_le (n d:Nat) (hd:d<=n) (o:Ab Int):sIx n d o<=n:=by
 cases o with
 | none=>exact hd
 | some v =>
  show (if v<0 then (v+(n:Int)).toNat else min v.toNat n)<=n;by_cases a:v<0
  .rw[aP a];omega
  .rw[aJ a];exact Nat.min_le_right _ _
theorem Pj (v:Int) (n d:Nat):(if v<0 then max (v+(n:Int)) 0 else min v (n:Int))=((sIx n d (some v):Nat):Int):=by
 show (if v<0 then max (v+(n:Int)) 0 else min v (n:Int))=(((if v<0 then (v+(n:Int)).toNat else min v.toNat n):Nat):Int);by_cases a:v<0
 .simp only[aP a];omega
 .simp only[aJ a];omega
theorem MN (lo g:Ab Int) (n:Nat):Builtin.Slice.sliceAdjust lo g 1 (n:Int)=(((sIx n 0 lo:Nat):Int),((sIx n n g:Nat):Int)):=by
 have a:¬ ((1:Int)<0):=by omega
 unfold Builtin.Slice.sliceAdjust;simp only[a,fO];refine Prod.ext ?_ ?_
 .cases lo with
  | none=>rfl
  | some v=>exact Pj v n 0
 .cases g with
  | none=>rfl
  | some v=>exact Pj v n n
theorem FG (i j:Nat):Builtin.Slice.slicePlaces (i:Int) (j:Int) 1=j-i:=by
 unfold Builtin.Slice.slicePlaces;have a:(1:Int)>0:=by omega
 simp only[a,hU,Int.ediv_one];split<;>omega
theorem Pc (p:IsPart v o) (h:Q o s):wpAny (model g w) A (Builtin.Slice.slicePartIndex v) Q E s:=by
 cases p with
 | none=>exact slicePart_none h
 | int i t=>exact slicePart_int h
theorem FY {sl:Ad}{j l:Ac}{lo g:Ab Int}{n:Nat}{Q:Int×Int×Nat->Ae->Prop}(p:s.heap.IsSliceOf sl j l .none) (r:IsPart j lo) (C:IsPart l g)
  (h:Q (((sIx n 0 lo:Nat):Int),1,sIx n n g-sIx n 0 lo) s):wpAny (model o w) A (Builtin.Slice.sliceApplied (.ref sl) (pure (n:Int))) Q E s:=by
 obtain⟨os,b,c,a⟩:=id p;unfold Builtin.Slice.sliceApplied Builtin.Slice.sliceFields;refine aB (aB (eJ b a (x:=j) rfl (aB (eJ b a (x:=l) rfl (aB (eJ b a (x:=.none) rfl (aD ?_)))))));refine aB (slicePart_none ?_);show wpAny _ _ (if ((1:Int) == 0)=true then _ else _) _ _ s;rw[aJ (by decide)];refine aB (Pc r (aB (Pc C (aB (aD ?_)))));show wpAny _ _ (match Builtin.Slice.sliceAdjust lo g 1 (n:Int) with | (lo,g)=>pure (lo,(1:Int),Builtin.Slice.slicePlaces lo g 1)) _ _ s;rw[MN lo g n];show wpAny _ _ (pure (((sIx n 0 lo:Nat):Int),(1:Int),Builtin.Slice.slicePlaces ((sIx n 0 lo:Nat):Int) ((sIx n n g:Nat):Int) 1)) _ _ s;rw[FG];exact aD h
theorem Y1 (g:Array Ac) (i k:Nat):((List.range k).filterMap λ(m:Nat)=>g[((i:Int)+(m:Int)*1).toNat]?).toArray=((g.toList.drop i).take k).toArray:=by
 have e:(λ(m:Nat)=>g[((i:Int)+(m:Int)*1).toNat]?)=λm=>g[i+m]?:=by
  funext m
  have:((i:Int)+(m:Int)*1).toNat=i+m:=by omega
  rw[this]
 rw[e];have:=pick_run g i k;rw[List.filterMap_map] at this;have a:((λx=>g[x]?)∘λx=>i+x)=λm=>g[i+m]?:=rfl
 rw[a] at this;rw[this]
theorem getItem_tuple_cut {sl:Ad}{lo:Ab Int}(j:IsTup s.heap t items) (l:s.heap.IsSliceOf sl I J .none) (r:IsPart I lo) (C:IsPart J g)
  (hw:¬ (sIx items.size 0 lo=0/\sIx items.size items.size g=items.size))
  (h:Q (.ref s.heap.objs.size) { s with heap:=s.heap.push { cls:=.type "tuple",data:=.seq ((items.toList.drop (sIx items.size 0 lo)).take (sIx items.size items.size g-sIx items.size 0 lo)).toArray } })
  (p:items.size<=sizeLine):wpAny (model o w) A (getItem (.ref t) (.ref sl)) Q E s:=by
 have a:sizeOk (.seq ((items.toList.drop (sIx items.size 0 lo)).take (sIx items.size items.size g-sIx items.size 0 lo)).toArray):=by
  show ((items.toList.drop (sIx items.size 0 lo)).take (sIx items.size items.size g-sIx items.size 0 lo)).toArray.size<=sizeLine;rw[aW,bN,dB,eV];omega
 have i:sIx items.size items.size g<=items.size:=sIx_le _ _ (aU _) g;obtain⟨os,e,c,f⟩:=id l;have b:s.TypeIs (.ref sl) "slice" := ⟨os,e,c⟩;unfold getItem
 try with_reducible refine bW ?_
 first | refine aB (aD ?_) | skip
 refine aB (wpAny_sequenceKey j.typeIs (by decide) ?_);refine aB (bX (name:=Str.ofString "__getitem__") j.typeIs iW (cK iW j.typeIs entry_tuple_getitem ?_ (args_tuple_getitem _ _)));show wpAny _ _ (Builtin.Tuple.tupleItemsOf (.ref t) >>= _) _ _ s;refine aB (tupleItemsOf_ j ?_);refine aB (hX b ?_);rw[aP (by decide)];refine aB (FY l r C ?_);have d:¬ ((((sIx items.size 0 lo:Nat):Int) == 0&&(1:Int) == 1&&(sIx items.size items.size g-sIx items.size 0 lo) == items.size)=true):=by
  intro q;rw[cH,cH] at q;have k:((sIx items.size 0 lo:Nat):Int)=0:=eq_of_beq q.1.1;have n:sIx items.size items.size g-sIx items.size 0 lo=items.size:=eq_of_beq q.2;exact hw ⟨by omega,by omega⟩
 show wpAny _ _ (if (((sIx items.size 0 lo:Nat):Int) == 0&&(1:Int) == 1&&(sIx items.size items.size g-sIx items.size 0 lo) == items.size)=true then _ else _) _ _ s;rw[aJ d,Y1]
 first
  | exact aB (m:=Builtin.Tuple.tupleExact _) (eW (aD ⟨_,rfl,aD h⟩) a)
  | exact aB (m:=Builtin.Tuple.tupleExact _) (eW (aB (aD (aD ⟨_,rfl,aD h⟩))) a)
  | exact aB (aB (m:=Builtin.Tuple.tupleExact _) (eW (aD (aD ⟨_,rfl,aD h⟩)) a))
  | exact aB (aB (m:=Builtin.Tuple.tupleExact _) (eW (aD ⟨_,rfl,aD h⟩) a))
end
end HT
namespace L2
open PySem PySem.Spec PyProof.Rows
abbrev TO:=St->Hp->(Ab Int->Hp->Prop)->Prop
def PO (X:Cx) (e:Ab Expr) (t:TO):Prop :=
 ∀ (a:Aa (Ad×Obj)) (s:Ae) (b:St) (H:Hp) (Q:Ab Int->Hp->Prop),Inv X a b H s->t b H Q ->
  wpAny (model X.prog X.w) X.A (evalPart e X.env) (λu d=>∃ o c,Inv X a b c d/\IsPart u o/\Q o c) X.xe s
def Tc:TO:=λ_ H Q=>Q none H
def S8 (t:TE):TO:=λb H Q=>t b H λx a=>∃ i,x = .int i/\Q (some i) a
section
variable {X:Cx}{lo:Ab Expr}
theorem xL:PO X none Tc:=by
 intro a s b H Q I h;rw[evalPart_none];exact aD ⟨none,H,I,.none,h⟩
theorem xQ (h:PE X e g):PO X (some e) (S8 g):=by
 intro a s m H Q I hw;rw[evalPart_some];refine nJ (h a s m H _ I hw) λu n b=>?_
 obtain⟨x,c,d,k,f⟩:=b;obtain⟨i,rfl,q⟩:=f;obtain⟨t,rfl⟩:=k;exact⟨some i,c,d,.int i t,q⟩
def uT (X:Cx) (r:V->Ab Int->Ab Int->Hp->VK->Prop):Prop :=
 ∀ (a:Aa (Ad×Obj)) (s:Ae) (e:St) (H:Hp) (x:V) (v c d:Ac) (lo b:Ab Int) (sl:Ad) (Q:VK),Inv X a e H s->nM x v->s.heap.IsSliceOf sl c d .none->IsPart c lo->IsPart d b->r x lo b H Q ->
  ∃ T id,typeLookup (.type T) "__getitem__" = pure (some (.builtin id))/\s.TypeIs v T/\wpAny (model X.prog X.w) X.A (getItem v (.ref sl)) (EP X a e Q) X.xe s
theorem uT.or (h:uT X r) (j:uT X l):uT X (λx lo g H Q=>r x lo g H Q\/l x lo g H Q):=by
 intro a s k H x v f i lo g sl Q I e b c d q;rcases q with q | q
 .exact h a s k H x v f i lo g sl Q I e b c d q
 .exact j a s k H x v f i lo g sl Q I e b c d q
def JP (r:V->Ab Int->Ab Int->Hp->VK->Prop) (g:TE) (j th:TO):TE:=λa H Q=>g a H λx b=>j a b λl c=>th a c λu d=>r x l u d Q
theorem wR (p:uT X r) (j:PE X e U) (o:PO X lo tl) (C:PO X g th):PE X (.Subscript e (.Slice lo g none J) pos) (JP r U tl th):=by
 intro a s f H Q I h;refine Subscript_ (nJ (j a s f H _ I h) λv R d=>?_);obtain⟨x,n,y,P,M⟩:=d;refine wpAny_Slice (nJ (o a R f n _ y M) λi S ⟨l,t,z,K,N⟩=>nJ (C a S f t _ z N) λk c d=>?_);obtain⟨u,m,B,L,O⟩:=d;rw[evalPart_none];refine aD ?_;have D:Inv X a f m { c with heap:=c.heap.push { cls:=.type "slice",data:=.fields #[i,k,.none] } }:=B.kept (t':=c.toks) λb V q=>aK _ q
 obtain⟨T,id,E,G,F⟩:=p a { c with heap:=c.heap.push { cls:=.type "slice",data:=.fields #[i,k,.none] } } f m x v i k l u c.heap.objs.size Q D P (Heap.IsSliceOf.new ..) K L O;show wpAny (model X.prog X.w) X.A (subscriptTail e (.Slice lo g none J) v (.ref c.heap.objs.size)) (EP X a f Q) X.xe { c with heap:=c.heap.push { cls:=.type "slice",data:=.fields #[i,k,.none] } };exact tail_any (ops:=[.ref c.heap.objs.size,v]) G E F (by with_unfolding_all rfl)
def sP (g:Aa V) (lo j:Ab Int):Aa V:=(g.drop (HT.sIx g.length 0 lo)).take (HT.sIx g.length g.length j-HT.sIx g.length 0 lo)
theorem Op (g:Aa V) (lo j:Ab Int):(sP g lo j).length<=g.length:=by
 unfold sP;rw[bN,dB];omega
def Tr (K:nH):V->Ab Int->Ab Int->Hp->VK->Prop:=λx lo c H Q=>∃ a b,x = .ref a/\nY K H a b /\
 ¬ (HT.sIx b.length 0 lo=0/\HT.sIx b.length b.length c=b.length)/\∀ p,H p=none->Q (.ref p) (upd H p (.t (sP b lo c)))
theorem HN:uT X (Tr X.K):=by
 intro m s E H x v B D lo e sl Q I z n w y h;obtain⟨a,d,rfl,u,hw,q⟩:=h;cases z;obtain⟨f,r,i,k⟩:=I.tuple u;have c:f.toArray.size=d.length:=by rw[aW];exact r.length.symm
 refine⟨"tuple",_,iW.lookup,i.typeIs,?_⟩;refine HT.getItem_tuple_cut i n w y (by rw[c];exact hw) ?_ (by rw[c];exact k);rw[c];refine⟨.ref s.heap.objs.size,_,I.laid (t':=s.toks) (o:=.t (sP d lo e)) (λb A q=>aK _ q) (aU _) ?_,rfl,q _ (I.hok.fresh (aU _))⟩;exact⟨bF (Op d lo e) k,_,(r.drop (HT.sIx d.length 0 lo)).take (HT.sIx d.length d.length e-HT.sIx d.length 0 lo),vR.new _ _⟩
def Te (K:nH):R2:=λx y H Q=>∃ a b d c,x = .ref a/\y = .ref b/\nY K H a d/\nY K H b c/\d≠[]/\d.length+c.length<=sizeLine /\
 (c=[]->Q (.ref a) H)/\(c≠[]->∀ p,H p=none->Q (.ref p) (upd H p (.t (d++c))))
theorem nN.nil_iff (r:nN j g):g=[]↔j=[]:=by
 cases r with
 | nil=>simp
 | cons _ _=>simp
theorem Vc:nZ X (binaryOp .Add) (Te X.K):=by
 intro i s P H x y v u Q I G L h;obtain⟨a,b,M,N,rfl,rfl,k,m,n,e,E,F⟩:=h;cases G;cases L;obtain⟨A,d,B,_⟩:=I.tuple k;obtain⟨f,c,D,_⟩:=I.tuple m;refine HT.cat_tup B D (λz=>n (d.nil_iff.mp z)) (λz=>⟨.ref a,H,I,rfl,E (c.nil_iff.mp z)⟩) (λz=>?_) (by rw[<- d.length,<- c.length];exact e);refine⟨.ref s.heap.objs.size,_,I.laid (t':=s.toks) (o:=.t (M++N)) (λb O q=>aK _ q) (aU _) ?_,rfl,F (λw=>z (c.nil_iff.mpr w)) _ (I.hok.fresh (aU _))⟩;exact⟨by rw[aZ];exact e,_,d.append c,vR.new _ _⟩
end
noncomputable def sK (n:Nat) (i:Int):Ab Nat:=if 0<=i then (if i<n then some i.toNat else none) else if -(n:Int)<=i then some (i+n).toNat else none
def pI {l:Type}(g:Aa l) (i:Int):Ab l:=(sK g.length i).bind λj=>g[j]?
theorem Tk (h:sK n i=some j):seqIndex? i n=some j/\j<n/\-(n:Int)<=i/\i<n:=by
 unfold sK at h;by_cases b:0<=i
 .rw[aP b] at h;by_cases a:i<n
  .rw[aP a] at h;have e:i.toNat=j:=bO h;exact⟨by rw[seqIndex_of b a,e],by omega,by omega,a⟩
  .rw[aJ a] at h;cases h
 .rw[aJ b] at h;by_cases a:-(n:Int)<=i
  .rw[aP a] at h;have e:(i+n).toNat=j:=bO h;exact⟨by rw[seqIndex_neg (by omega) a,e],by omega,a,by omega⟩
  .rw[aJ a] at h;cases h
theorem Ke (h:pI g i=some v):∃ j,seqIndex? i g.length=some j/\g[j]?=some v/\j<g.length/\-(g.length:Int)<=i/\i<g.length:=by
 unfold pI at h;cases e:sK g.length i with
 | none=>rw[e] at h;cases h
 | some j =>
  rw[e] at h;obtain⟨a,b,c,d⟩:=Tk e;exact⟨j,a,h,b,c,d⟩
theorem yD {l:Type}{g:Aa l}{j:Nat}{v:l}(h:g[j]?=some v):pI g (j:Int)=some v:=by
 have a:j<g.length:=(aG.mp h).1;have e:sK g.length (j:Int)=some j:=by
  unfold sK;rw[aP (by omega),aP (by omega)];simp
 unfold pI;rw[e];exact h
def Jx (b:Expr):Prop:=∀ o i,subscripted b false o i=operate [o,i] (getItem o i)
def vM (X:Cx) (r:R2):Prop :=
 ∀ (value slice:Expr) (a:Aa (Ad×Obj)) (s:Ae) (b:St) (H:Hp) (x y:V) (v u:Ac) (Q:VK),Inv X a b H s->nM x v->nM y u->r x y H Q ->
  subscripted slice false v u=operate [v,u] (getItem v u)->wpAny (model X.prog X.w) X.A (subscriptTail value slice v u) (EP X a b Q) X.xe s
def xT (X:Cx) (id:String) (r:V->Aa V->Hp->VK->Prop):Prop :=
 ∀ (a:Aa (Ad×Obj)) (s:Ae) (d:St) (H:Hp) (x:V) (c:Aa V) (v:Ac) (b:Aa Ac) (Q:VK),Inv X a d H s->nM x v->nN c b->r x c H Q ->
  wpAny (model X.prog X.w) X.A (call (.builtin id) (v::b)) (EP X a d Q) X.xe s
section
variable {X:Cx}
theorem vM.or (h:vM X r) (g:vM X j):vM X (λx y H Q=>r x y H Q\/j x y H Q):=by
 intro value slice a s e H x y v u Q I c d q b;rcases q with q | q
 .exact h value slice a s e H x y v u Q I c d q b
 .exact g value slice a s e H x y v u Q I c d q b
theorem qJ {r:R2}(l:vM X r) (g:PE X a p) (j:PE X b C) (o:Jx b):PE X (.Subscript a b pos) (Dl r p C):=by
 intro c s m H Q I h;exact Subscript_ (Lq g j I h λv u k x y d e f i q=>l a b c k m d x y v u Q e f i q (o _ _))
def Go (K:nH):R2:=λx y H Q=>∃ p a i v,x = .ref p/\y = .int i/\dT K H p a/\pI a i=some v/\Q v H
def Sc (K:nH):R2:=λx y H Q=>∃ p a i v,x = .ref p/\y = .int i/\nY K H p a/\pI a i=some v/\Q v H
def O8:R2:=λx y H Q=>∃ z i c,x = .str z/\y = .int i/\z.length<=sizeLine/\pI z.cps.toList i=some c/\Q (.str ⟨#[c]⟩) H
theorem rD:vM X (Go X.K):=by
 intro value slice a s A H x y v u Q I M N h n;obtain⟨p,V,i,z,rfl,rfl,L,F,q⟩:=h;cases M;obtain⟨t,rfl⟩:=N;obtain⟨d,r,e,S⟩:=I.list L;obtain⟨j,b,B,P,D,E⟩:=Ke F;obtain⟨w,k,f⟩:=r.get B;have G:=r.length;have R:=zS;have fin:EP X a A Q w s:=⟨z,H,I,f,q⟩;by_cases m:0<=i
 .have c:i.toNat=j:=by
   rw[seqIndex_of m E] at b;exact bO b
  exact item_listR e.isList m (by omega) (by rw[c];simpa using k) fin n
 .have c:(i+(d.toArray.size:Int)).toNat=j:=by
   rw[seqIndex_neg (by omega) D] at b;rw[aW,<- G];exact bO b
  exact subscriptTail_builtinR (x:=w) e.isList.typeIs slot_list_getitem.lookup
   (wpAny_getItem_list_neg (Q:=λr O=>r=w/\EP X a A Q r O) e.isList (by omega) (by rw[aW]<;>omega) (by omega) (by rw[c];simpa using k) ⟨rfl,fin⟩) n
theorem Vu:vM X (Sc X.K):=by
 intro value slice a s d H x y v u Q I E F h B;obtain⟨p,R,i,z,rfl,rfl,A,m,q⟩:=h;cases E;obtain⟨t,rfl⟩:=F;obtain⟨D,r,c,P⟩:=I.tuple A;obtain⟨j,f,k,L,M,N⟩:=Ke m;obtain⟨w,e,b⟩:=r.get k;have n:=r.length;have O:=zS;have fin:EP X a d Q w s:=⟨z,H,I,b,q⟩;exact subscriptTail_builtinR (x:=w) c.typeIs slot_tuple_getitem.lookup
  (getItem_tuple (j:=j) (Q:=λr G=>r=w/\EP X a d Q r G) c (by omega) (by omega) (by rw[aW,<- n];exact f) (by simpa using e) ⟨rfl,fin⟩) B
theorem E4:vM X O8:=by
 intro value slice b s L H x y v u Q I B D h A;obtain⟨z,i,c,rfl,rfl,G,n,q⟩:=h;obtain⟨t,rfl⟩:=B;obtain⟨K,rfl⟩:=D;obtain⟨j,a,f,E,k,m⟩:=Ke n;have w:z.cps.toList.length=z.length:=by simp[Str.length]
 rw[w] at a k m;have F:=zS;exact tail_any (typeIs_str s z t) slot_str_getitem.lookup (getItem_str (c:=c) (by
  have d:decide (i < -(2 ^ 63:Int))=false:=cF (by omega);have e:decide (i>=2 ^ 63)=false:=cF (by omega);rw[d,e,Bool.or_false]) (by rw[a];simpa using f) ⟨.str ⟨#[c]⟩,H,I.tok _,⟨_,rfl⟩,q⟩) A
def Q3 (K:nH):R2:=λx y H Q=>Go K x y H Q\/Sc K x y H Q\/O8 x y H Q
theorem AT:vM X (Q3 X.K):=rD.or (Vu.or E4)
theorem GZ (g:Aa Ac) (n j:Nat) (u:Ac):Obj.mapSeq (·.setIfInBounds j u) { cls:=.type "list",data:=.seq g.toArray n }={ cls:=.type "list",data:=.seq (g.set j u).toArray n }:=by
 simp[Obj.mapSeq]
theorem Inv.lst {j:Aa (Ad×Obj)}{C:St}{H:Hp}{s:Ae}{p:Ad}{o:Aa V}(I:Inv X j C H s) (h:H p=some (.l o)) :
  ∃ (g:Aa Ac) (n:Nat),nN o g/\s.heap.get? p=some { cls:=.type "list",data:=.seq g.toArray n }/\o.length<=sizeLine:=by
 obtain⟨z,g,n,r,e⟩:=I.hok p _ h;exact⟨g,n,r,e,z⟩
theorem Inv.lstUpd {j:Aa Ac}(I:Inv X o σ H s) (h:H p=some (.l xs))
  (U:s.heap.get? p=some { cls:=.type "list",data:=.seq j.toArray n }) (C:f { cls:=.type "list",data:=.seq j.toArray n }={ cls:=.type "list",data:=.seq g.toArray J }) (r:nN T g) (hz:T.length<=sizeLine) (t:Nat) :
  Inv X o σ (upd H p (.l T)) { s with heap:=s.heap.update p f,toks:=t }:=by
 have e:(s.heap.update p f).get? p=some { cls:=.type "list",data:=.seq g.toArray J }:=by
  rw[iF f U (by rw[C]<;>rfl),C]
 refine I.write (x:=p) (e:=p) (by rw[h];trivial) (.inl rfl) (λb u a q=>(Heap.get?_update_other _ _ (fB a)).trans q) ⟨_,e⟩ ?_;exact⟨hz,g,J,r,e⟩
def Tv:V->V->V->Hp->(Hp->Prop)->Prop:=λo i v H Q=>∃ p a k j,o = .ref p/\i = .int k/\H p=some (.l a)/\sK a.length k=some j/\Q (upd H p (.l (a.set j v)))
theorem Hf:Iw X Tv:=by
 intro b s G H o i v N M u Q I D B E h;obtain⟨p,F,k,j,rfl,rfl,y,z,q⟩:=h;cases D;obtain⟨t,rfl⟩:=B;obtain⟨a,n,r,e,A⟩:=I.lst y;obtain⟨c,K,w,x⟩:=Tk z;have d:=r.length;have L:=zS;have f:Inv X b G (upd H p (.l (F.set j v))) { s with heap:=s.heap.update p (Obj.mapSeq (·.setIfInBounds j u)) } :=
  I.lstUpd y e (GZ a n j u) (r.set E j) (by rw[aY];exact A) s.toks
 by_cases m:0<=k
 .have hk:k.toNat=j:=by
   rw[seqIndex_of m x] at c;exact bO c
  exact PySem.W.ki_setAt e m (by omega) (by rw[aW,<- d];exact x) (by rw[hk];exact⟨_,f,q⟩)
 .have hk:(k+(a.toArray.size:Int)).toNat=j:=by
   rw[seqIndex_neg (by omega) w] at c;rw[aW,<- d];exact bO c
  exact PySem.W.ki_setBack e (by omega) (by rw[aW,<- d];exact w) (by omega) (by rw[hk];exact⟨_,f,q⟩)
theorem BK (lo g:Ab Int) (n:Nat):(sliceBounds lo g none n).1=((HT.sIx n 0 lo:Nat):Int)/\(sliceBounds lo g none n).2.1=((HT.sIx n n g:Nat):Int)/\(sliceBounds lo g none n).2.2=1:=by
 refine⟨?_,?_,rfl⟩
 .cases lo with
  | none=>simp[sliceBounds,HT.sIx]
  | some i =>
   simp only[sliceBounds,HT.sIx,Option.getD_none,show (1:Int)>0 by decide,hU];by_cases h:i<0
   .simp only[h,hU]<;>omega
   .simp only[h,fO]<;>omega
 .cases g with
  | none=>simp[sliceBounds,HT.sIx]
  | some i =>
   simp only[sliceBounds,HT.sIx,Option.getD_none,show (1:Int)>0 by decide,hU];by_cases h:i<0
   .simp only[h,hU]<;>omega
   .simp only[h,fO]<;>omega
theorem Vl (g:Aa Ac) (lo j:Ab Int):slicePick g.toArray lo j none=((g.drop (HT.sIx g.length 0 lo)).take (HT.sIx g.length g.length j-HT.sIx g.length 0 lo)).toArray:=by
 obtain⟨a,b,c⟩:=BK lo j g.toArray.size;unfold slicePick;rw[a,b,c];simp only[sliceRange_one,pick_run,aW]<;>rfl
def P4 (K:nH):V->Ab Int->Ab Int->Hp->VK->Prop:=λx lo c H Q=>∃ a b,x = .ref a/\dT K H a b/\∀ p,H p=none->Q (.ref p) (upd H p (.l (sP b lo c)))
theorem Aj:uT X (P4 X.K):=by
 intro i s D H x v A B lo e sl Q I y k u w h;obtain⟨a,c,rfl,m,q⟩:=h;cases y;obtain⟨t,r,f,n⟩:=I.list m;have d:=r.length;refine⟨"list",_,slot_list_getitem.lookup,f.isList.typeIs,?_⟩;refine wpAny_getItem_list_slice f.isList k u w .none (by simp) ?_ (by rw[aW]<;>omega);rw[Vl,<- d];refine⟨.ref s.heap.objs.size,_,I.laid (t':=s.toks) (o:=.l (sP c lo e)) (λb z q=>aK _ q) (aU _) ?_,rfl,q _ (I.hok.fresh (aU _))⟩;exact⟨bF (Op c lo e) n,_,0,(r.drop (HT.sIx c.length 0 lo)).take (HT.sIx c.length c.length e-HT.sIx c.length 0 lo),bB _ rfl⟩
def qR:V->Bool
 | .e=>true
 | .b _=>true
 | .int _=>true
 | .str _=>true
 | _=>false
noncomputable def pC:V->V->Bool
 | .e,.e=>true
 | .b a,.b b=>a == b
 | .b a,.int b=>(if a then 1 else 0) == b
 | .int a,.b b=>a == (if b then 1 else 0)
 | .int a,.int b=>a == b
 | .str a,.str b=>a == b
 | _,_=>false
theorem I0 (l:nM y u) (g:nM x v) (o:qR y=true) (j:qR x=true):SeqAt.EqAt A s u v (pC y x):=by
 cases y with
 | e =>
  cases l;cases x with
  | e=>cases g;exact SeqAt.EqAt.same _
  | b b=>cases g;exact SeqAt.EqAt.none_bool b
  | int b=>obtain⟨t,rfl⟩:=g;exact SeqAt.EqAt.none_int b t
  | str b=>obtain⟨t,rfl⟩:=g;exact SeqAt.EqAt.none_str b t
  | _=>exact absurd (show false=true from j) bD
 | b a =>
  cases l;cases x with
  | e=>cases g;exact SeqAt.EqAt.bool_none a
  | b b=>cases g;exact SeqAt.EqAt.bool_bool a b
  | int b=>obtain⟨t,rfl⟩:=g;exact SeqAt.EqAt.bool_int a b t
  | str b=>obtain⟨t,rfl⟩:=g;exact SeqAt.EqAt.bool_str a b t
  | _=>exact absurd (show false=true from j) bD
 | int a =>
  obtain⟨c,rfl⟩:=l;cases x with
  | e=>cases g;exact SeqAt.EqAt.int_none a c
  | b b=>cases g;exact SeqAt.EqAt.int_bool a c b
  | int b=>obtain⟨t,rfl⟩:=g;exact SeqAt.EqAt.int_int a c b t
  | str b=>obtain⟨t,rfl⟩:=g;exact SeqAt.EqAt.int_str a c b t
  | _=>exact absurd (show false=true from j) bD
 | str a =>
  obtain⟨c,rfl⟩:=l;cases x with
  | e=>cases g;exact SeqAt.EqAt.str_none a c
  | b b=>cases g;exact SeqAt.EqAt.str_bool a c b
  | int b=>obtain⟨t,rfl⟩:=g;exact SeqAt.EqAt.str_int a c b t
  | str b=>obtain⟨t,rfl⟩:=g;exact SeqAt.EqAt.str_str a c b t
  | _=>exact absurd (show false=true from j) bD
 | _=>exact absurd (show false=true from o) bD
def rC (x:V) (u:Ac):Bool:=match u with
 | .none=>pC .e x
 | .bool b=>pC (.b b) x
 | .int i _=>pC (.int i) x
 | .str z _=>pC (.str z) x
 | _=>false
theorem Mc (r:nM y u) (f:qR y=true):rC x u=pC y x:=by
 cases y with
 | e=>cases r;rfl
 | b b=>cases r;rfl
 | int i=>obtain⟨t,rfl⟩:=r;rfl
 | str z=>obtain⟨t,rfl⟩:=r;rfl
 | _=>exact absurd (show false=true from f) bD
theorem B5:∀ {g:Aa V}{j:Aa Ac},nN g j->g.all qR=true->j.any (rC x)=g.any λy=>pC y x
 | _,_,.nil,_=>rfl
 | y::g,u::j,.cons r t,f=>by
  rw[List.all_cons,cH] at f;rw[gJ,gJ,Mc r f.1,B5 t f.2]
theorem zT (o:nM x v) (l:qR x=true):∀ {j:Aa V}{g:Aa Ac},nN j g->j.all qR=true->∀ u∈g,SeqAt.EqAt A s u v (rC x u)
 | _,_,.nil,_=>λu a=>by cases a
 | y::j,u::g,.cons r t,f=>λb a=>by
  rw[List.all_cons,cH] at f;rcases aI.mp a with rfl | a
  .rw[Mc r f.1];exact I0 r o f.1 l
  .exact zT o l t f.2 b a
def xM (x:V) (g:Aa V):Bool:=g.any λy=>pC y x
def Gy (K:nH) (neg:Bool):R2:=λx y H Q=>∃ p a,y = .ref p/\(dT K H p a\/nY K H p a)/\qR x=true/\a.all qR=true/\Q (.b (if neg then !xM x a else xM x a)) H
theorem U2:nZ X (compareOp .In) (Gy X.K false):=by
 intro f s t H x y v u Q I i m h;obtain⟨p,n,rfl,c,e,fs,q⟩:=h;cases m;rcases c with c | c
 .obtain⟨a,r,d,k⟩:=I.list c;refine SeqAt.in_listAt (rC x) d.isList (λw hw=>zT i e r fs w (by simpa using hw)) ⟨.b _,H,I,rfl,?_⟩;rw[show a.toArray.any (rC x)=a.any (rC x) by simp,B5 r fs];exact q
 .obtain⟨a,r,d,k⟩:=I.tuple c;refine SeqAt.in_tupleAt (rC x) d (λw hw=>zT i e r fs w (by simpa using hw)) ⟨.b _,H,I,rfl,?_⟩;rw[show a.toArray.any (rC x)=a.any (rC x) by simp,B5 r fs];exact q
theorem MF:nZ X (compareOp .NotIn) (Gy X.K true):=by
 intro f s t H x y v u Q I i m h;obtain⟨p,n,rfl,c,e,fs,q⟩:=h;cases m;rcases c with c | c
 .obtain⟨a,r,d,k⟩:=I.list c;refine SeqAt.notIn_listAt (rC x) d.isList (λw hw=>zT i e r fs w (by simpa using hw)) ⟨.b _,H,I,rfl,?_⟩;rw[show a.toArray.any (rC x)=a.any (rC x) by simp,B5 r fs];exact q
 .obtain⟨a,r,d,k⟩:=I.tuple c;refine SeqAt.notIn_tupleAt (rC x) d (λw hw=>zT i e r fs w (by simpa using hw)) ⟨.b _,H,I,rfl,?_⟩;rw[show a.toArray.any (rC x)=a.any (rC x) by simp,B5 r fs];exact q
theorem vP:oQ X (.builtin "len") (λj H Q=>∃ p g,j=[.ref p]/\(dT X.K H p g\/nY X.K H p g)/\Q (.int g.length) H):=by
 intro f s t H j n Q I r h;obtain⟨p,g,rfl,b,q⟩:=h;obtain⟨u,rfl,k⟩:=qZ r;cases k;have m:=zS;rcases b with b | b
 .obtain⟨c,e,d,i⟩:=I.list b;have a:=e.length;exact Calls.call_len_list d.isList (by simp only[aW]<;>omega) ⟨.int g.length,H,I.tok _,⟨s.toks+1,by rw[aW,a]⟩,q⟩
 .obtain⟨c,e,d,i⟩:=I.tuple b;have a:=e.length;exact len_tuple d (by simp only[aW]<;>omega) ⟨.int g.length,H,I.tok _,⟨s.toks+1,by rw[aW,a]⟩,q⟩
theorem Qa:oQ X (.builtin "len") (λg H Q=>∃ z,g=[.str z]/\z.length<=sizeLine/\Q (.int z.length) H):=by
 intro a s e H g d Q I r h;obtain⟨z,rfl,c,q⟩:=h;obtain⟨u,rfl,t,rfl⟩:=qZ r;have b:=zS;exact len_str (by omega) ⟨.int z.length,H,I.tok _,⟨_,rfl⟩,q⟩
theorem oQ.or (h:oQ X f r) (j:oQ X f l):oQ X f (λg H Q=>r g H Q\/l g H Q):=by
 intro a s d H g c Q I b q;rcases q with q | q
 .exact h a s d H g c Q I b q
 .exact j a s d H g c Q I b q
theorem Dx:oQ X (.type "list") (λj H Q=>∃ p g,j=[.ref p]/\(dT X.K H p g\/nY X.K H p g)/\∀ l,H l=none->Q (.ref l) (upd H l (.l g))):=by
 intro v s D H j E Q I r h;obtain⟨p,g,rfl,k,q⟩:=h;obtain⟨u,rfl,B⟩:=qZ r;cases B;have fin:∀ (a:Aa Ac),nN g a->g.length<=sizeLine->∀ (c:Ag) (d:Nat),(∀ b A,s.heap.get? b=some A->c.get? b=some A) ->
   c.get? s.heap.objs.size=some { cls:=.type "list",dict:=none,data:=.seq a.toArray d,slots:=#[] }->EP X v D Q (.ref s.heap.objs.size) { s with heap:=c }:=λa f m c d t e =>
  ⟨.ref s.heap.objs.size,_,I.laid (t':=s.toks) t (aU _) (show oM X.prog X.w _ c _ (.l g) from ⟨m,a,d,f,e⟩),rfl,q _ (I.hok.fresh (aU _))⟩
 rcases k with k | k
 .obtain⟨a,f,z,m⟩:=I.list k;have i:=f.length;obtain⟨o,y,x,n,hd⟩:=z.isList;exact call_list_seq p (.inl rfl) y x hd (λc d t e=>fin a f m c d t e) (by simp only[aW]<;>omega)
 .obtain⟨a,f,z,m⟩:=I.tuple k;have i:=f.length;obtain⟨o,y,x,n,hd⟩:=z;exact call_list_seq p (.inr rfl) y x hd (λc d t e=>fin a f m c d t e) (by simp only[aW]<;>omega)
theorem B1:oQ X (.type "tuple") (λj H Q=>∃ p g,j=[.ref p]/\((dT X.K H p g/\∀ l,H l=none->Q (.ref l) (upd H l (.t g)))\/(nY X.K H p g/\Q (.ref p) H))):=by
 intro a s x H j B Q I r h;obtain⟨p,g,rfl,h⟩:=h;obtain⟨u,rfl,A⟩:=qZ r;cases A;rcases h with⟨f,q⟩ | ⟨f,q⟩
 .obtain⟨c,k,i,v⟩:=I.list f;have n:=k.length;refine call_tuple_list i.isList (λd z=>?_) (by simp only[aW]<;>omega);have m:Inv X a x H { s with heap:=d }:=I.kept (t':=s.toks) z;have y:Inv X a x (upd H d.objs.size (.t g)) { s with heap:=d.push { cls:=.type "tuple",data:=.seq c.toArray } } :=
   m.laid (t':=s.toks) (λb o e=>aK _ e) (aU _) (show oM X.prog X.w _ _ _ (.t g) from ⟨v,c,k,vR.new _ _⟩)
  exact⟨.ref d.objs.size,_,y,rfl,q _ (m.hok.fresh (aU _))⟩
 .obtain⟨c,k,i,v⟩:=I.tuple f;exact call_tuple_same i ⟨.ref p,H,I,rfl,q⟩
def G9 (K:nH) (T:String) (x:V) (H:Hp):Prop:=match x with
 | .str _=>T = "str"
 | .int _=>T = "int"
 | .ref p=>(T = "list" /\ ∃ b,dT K H p b)\/(T = "tuple" /\ ∃ o,K.lookup p=some o/\o.cls = .type "tuple" /\ o.dict=none) \/
   (T = "dict" /\ ((∃ a,Rd H p (.k a))\/(∃ a,H p=some (.T a))\/∃ a,H p=some (.dM a)))\/(T = "set" /\ ∃ S n,H p=some (.set S n))
 | _=>False
theorem DN (I:Inv X j l H s) (r:nM x v) (ty:G9 X.K T x H) :
  s.TypeIs v T/\∀ a,v = .ref a->∃ g,s.heap.get? a=some g/\g.dict=none:=by
 cases x with
 | str z =>
  obtain⟨t,rfl⟩:=r;cases (show T = "str" from ty);exact⟨typeIs_str s z t,λ_ e=>nomatch e⟩
 | int i =>
  obtain⟨t,rfl⟩:=r;cases (show T = "int" from ty);exact⟨typeIs_int s i t,λ_ e=>nomatch e⟩
 | ref p =>
  cases r;rcases ty with⟨rfl,y,q⟩ | ⟨rfl,o,hk,m,hd⟩ | ⟨rfl,hk⟩ | ⟨rfl,S,n,hk⟩
  .obtain⟨u,_,h,_⟩:=I.list q;refine⟨h.isList.typeIs,λa e=>?_⟩;cases e;obtain⟨o,n,e,c,hd,_⟩:=h;exact⟨o,e,hd⟩
  .refine⟨⟨o,I.kIn p o hk,m⟩,λa e=>?_⟩;cases e;exact⟨o,I.kIn _ o hk,hd⟩
  .have z:∃ o,s.heap.get? p=some o/\o.ExactDict:=by
    rcases hk with⟨d,hk⟩ | ⟨d,hk⟩ | ⟨d,hk⟩
    .obtain⟨_,_,_,_,o,_,_,e,b,_⟩:=(show oM X.prog X.w H s.heap p (.k d) from Rd.ok hk I.hok);exact⟨o,e,b⟩
    .obtain⟨_,_,_,_,o,_,_,e,b,_⟩:=I.hok p _ hk;exact⟨o,e,b⟩
    .obtain⟨_,_,_,_,o,_,_,e,b,_⟩:=I.hok p _ hk;exact⟨o,e,b⟩
   obtain⟨o,e,b⟩:=z;refine⟨⟨o,e,b.1⟩,λa f=>?_⟩;cases f;exact⟨o,e,b.2.1⟩
  .obtain⟨o,_,_,_,e,b,_⟩:=I.hok p _ hk;refine⟨⟨o,e,b.1⟩,λa f=>?_⟩;cases f;exact⟨o,e,b.2.1⟩
 | _=>exact False.elim ty
def Ma (K:nH) (T:String) (r:V->Aa V->Hp->VK->Prop) (g:TE) (t:TA):TE:=λb H Q=>g b H λx a=>G9 K T x a/\t b a λd c=>r x d c Q
variable {id:String}
structure MtB (X:Cx) (o:Expr) (name:Str) (apos:Pos) (e:Expr) (es:List Expr) (cpos:Pos):Prop extends StB X e es cpos where
 c:attributeBase o name X.env (eval o X.env)=eval o X.env:=by rfl
 d:((backTo cpos (starEach (e::es) X.env)).all (λx=>!x.1)&&(backToKw cpos (keywordEach [] X.env)).all (λx=>x.1.isSome)&&decide ((e::es).length+([]:List Keyword).length+(if ([]:List Keyword).isEmpty then 0 else 1)<30))=true:=by rfl
 f:(apos.endLine == cpos.line)=true:=by rfl
theorem vD (pa:PlainAttrs T) (slot:Slot T name id) (p:typeOf (.builtin id)=pure (.type "method_descriptor")) (J:xT X id r) (U:PE X o to) (C:PA X (e::l) t)
  (j:MtB X o name apos e l g:=by exact {}) :
  PE X (.Call (.Attribute o name apos) (e::l) [] g) (Ma X.K T r to t):=by
 intro i s m H Q I h;refine wpAny_Call_method_late j.c j.d j.f rfl (nJ (U i s m H _ I h) λv G k=>?_);obtain⟨x,w,n,u,ty,D⟩:=k;obtain⟨A,B⟩:=DN n u ty;refine⟨T,id,pa,slot,p,A,B,?_⟩;have q:=C g i G m w _ n D;rw[j.a] at q |-;refine Calls.callWith_builtin (by show (false||(backTo g (starEach l X.env)).any (·.1))=false;rw[j.b]<;>rfl) (Calls.evalArgs_plain ?_);exact nJ q λM L ⟨N,y,z,F,E⟩=>J i L m y x N v M Q z u F E
/- xs.append(e),list.index on a module's tuple .. are xT facts of 06m -/
end
def Jg (X:Cx) (id:String) (r:V->Aa V->Hp->VK->Prop):Prop :=
 ∀ (a:Aa (Ad×Obj)) (s:Ae) (d:St) (H:Hp) (x:V) (c:Aa V) (v:Ac) (b:Aa Ac) (Q:VK),Inv X a d H s->nM x v->nN c b->r x c H Q ->
  wpAny (model X.prog X.w) X.A (call (.builtin id) (v::b)) (EP X a d Q) X.xe s
theorem nN.one:∀ {x:V}{g:Aa Ac},nN [x] g->∃ u,g=[u]/\nM x u
 | _,_,.cons r .nil=>⟨_,rfl,r⟩
theorem nN.eraseIdx:∀ {j:Aa V}{g:Aa Ac}(i:Nat),nN j g->nN (j.eraseIdx i) (g.eraseIdx i)
 | _,_,_,.nil=>.nil
 | _,_,0,.cons _ t=>t
 | _,_,i+1,.cons r t=>.cons r (nN.eraseIdx i t)
theorem nN.rep (h:nN j g):∀ k:Nat,nN (List.replicate k j).flatten (List.replicate k g).flatten
 | 0=>.nil
 | k+1=>by
  rw[cQ,cQ,gP,gP];exact nN.append h (nN.rep h k)
theorem Og:∀ (l:Aa g) (i:Nat),(l.eraseIdx i).length<=l.length
 | [],_=>aU _
 | _::_,0=>jI _
 | _::r,i+1=>Nat.succ_le_succ (Og r i)
theorem Qu (j:Aa Ac):∀ (k:Nat) (g:Aa Ac),
  List.foldl (λl o=>l++o) g.toArray (List.replicate k j.toArray)=(g++(List.replicate k j).flatten).toArray
 | 0,g=>by simp
 | k+1,g=>by
  have e:g.toArray++j.toArray=(g++j).toArray:=by simp
  have a:(g++j)++(List.replicate k j).flatten=g++(List.replicate (k+1) j).flatten:=by
   rw[cQ,gP,bL]
  rw[<- a,<- Qu j k (g++j),<- e,cQ,lV]
section
variable {X:Cx}
theorem Inv.lset {g:Aa Ac}(I:Inv X j T H s) (p:H l=some (.l xs))
  (e:s.heap.get? l=some { cls:=.type "list",data:=.seq g.toArray n }) (r:f g.toArray=its'.toArray) (C:nN o its') (J:o.length<=sizeLine) :
  Inv X j T (upd H l (.l o)) { s with heap:=s.heap.update l (Obj.mapSeq f),toks:=U }:=by
 have q:=PySem.IsL.update e f;rw[r] at q;refine I.write (x:=l) (e:=l) (by rw[p];exact trivial) (.inl rfl) (λc u a b=>(Heap.get?_update_other s.heap (Obj.mapSeq f) (fB a)).trans b) ⟨_,q⟩ ?_;exact⟨J,its',_,C,q⟩
theorem Inv.lnew (I:Inv X g p H s) (j:nN ys its) (o:ys.length<=sizeLine) :
  Inv X g p (upd H s.heap.objs.size (.l ys)) { s with heap:=s.heap.push { cls:=.type "list",data:=.seq its.toArray },toks:=t' } :=
 I.laid (λ_ _ q=>aK _ q) (aU _) ⟨o,its,0,j,bB _ rfl⟩
theorem Inv.fresh (I:Inv X g j H s):H s.heap.objs.size=none:=I.hok.fresh (aU _)
theorem Inv.lstM (I:Inv X o C H s) (p:H l=some (.l j)):j.length<=sizeLine/\∃ (g:Aa Ac) (n:Nat),nN j g/\j.length=g.length/\s.heap.get? l=some { cls:=.type "list",data:=.seq g.toArray n }:=by
 obtain⟨z,g,n,r,e⟩:=I.hok l _ p;exact⟨z,g,n,r,r.length,e⟩
theorem Rc (h:n<=sizeLine):Builtin.List.listTooLong n=false:=by
 unfold Builtin.List.listTooLong;exact cF (by omega)
end
section
variable {X:Cx}
def Kc:V->Aa V->Hp->VK->Prop:=λx b H Q=>∃ l a y,x = .ref l/\b=[y]/\H l=some (.l a)/\a.length<sizeLine/\Q .e (upd H l (.l (a++[y])))
theorem wA:Jg X "list.append" Kc:=by
 intro c s B H x w v t Q I i f h;obtain⟨l,A,y,rfl,rfl,b,m,q⟩:=h;cases i;obtain⟨u,rfl,d⟩:=f.one;obtain⟨z,a,n,r,k,e⟩:=I.lstM b;refine kS F.slot_list_append ⟨_,e,rfl⟩ F.entry_list_append (F.args_list_append_2 _ _) (PySem.list_append l a.toArray n u (by rw[aW];omega)) ⟨e,?_⟩;refine⟨.e,_,I.lset (its':=a++[u]) b e (by simp) (r.append (.cons d .nil)) ?_,rfl,q⟩;rw[aZ,List.length_singleton];omega
def So:V->Aa V->Hp->VK->Prop:=λx d H Q=>∃ l b a c,x = .ref l/\d=[.ref b]/\H l=some (.l a)/\H b=some (.l c)/\a.length+c.length<=sizeLine/\Q .e (upd H l (.l (a++c)))
theorem Zc:Jg X "list.extend" So:=by
 intro k s P H x L v K Q I D B h;obtain⟨l,b,M,O,rfl,rfl,i,hB,G,q⟩:=h;cases D;obtain⟨u,rfl,A⟩:=B.one;cases A;obtain⟨z,c,n,r,E,e⟩:=I.lstM i;obtain⟨N,a,w,y,t,m⟩:=I.lstM hB;have f:c.toArray.size+a.toArray.size<=sizeLine:=by rw[aW,aW];omega
 have d:¬ (!c.toArray.isEmpty&&Builtin.List.listTooLong (c.toArray.size+a.toArray.size))=true:=by
  rw[Rc f,Bool.and_false];exact bD
 refine kS F.slot_list_extend ⟨_,e,rfl⟩ F.entry_list_extend (F.args_list_extend_2 _ _)
  (AutoSeq1.list_extend_list_list_0 l c.toArray n b a.toArray w d (by rw[aW];omega) (by omega)) ⟨e,m,?_⟩
 refine⟨.e,_,I.lset (its':=c++a) i e (by simp) (r.append y) ?_,rfl,q⟩;rw[aZ];omega
def IY:V->Aa V->Hp->VK->Prop:=λx b H Q=>∃ l a i k y,x = .ref l/\b=[.int i]/\H l=some (.l a)/\-(2 ^ 63)<=i/\i<2 ^ 63/\seqIndex? i a.length=some k/\a[k]?=some y/\Q y (upd H l (.l (a.eraseIdx k)))
theorem Td:Jg X "list.pop" IY:=by
 intro d s N H x M v L Q I G E h;obtain⟨l,K,i,k,y,rfl,rfl,c,f,m,hk,B,q⟩:=h;cases G;obtain⟨u,rfl,D⟩:=E.one;obtain⟨t,rfl⟩:=D;obtain⟨z,a,n,r,A,e⟩:=I.lstM c;obtain⟨w,hw,b⟩:=r.get B;refine kS F.slot_list_pop ⟨_,e,rfl⟩ F.entry_list_pop (F.args_list_pop_2 _ _)
  (MeetsSeq.list_pop_at l a.toArray n i t k w (fitsIndex_both f m) (by rw[aW,<- A];exact hk) (by rw[<- dN];exact hw) (by rw[aW];omega)) ⟨e,?_⟩
 refine⟨y,_,I.lset (its':=a.eraseIdx k) c e ?_ (r.eraseIdx k) ?_,b,q⟩
 .show a.toArray.eraseIdxIfInBounds k=(a.eraseIdx k).toArray;rw[List.eraseIdxIfInBounds_toArray]
 .have:=Og K k;omega
def P5:R2:=λx y H Q=>∃ l b a c,x = .ref l/\y = .ref b/\H l=some (.l a)/\H b=some (.l c)/\a.length+c.length<=sizeLine/\∀ p,H p=none->Q (.ref p) (upd H p (.l (a++c)))
theorem Ax:nZ X (binaryOp .Add) P5:=by
 intro d s L H x y v u Q I w A h;obtain⟨l,b,F,K,rfl,rfl,k,hB,D,q⟩:=h;cases w;cases A;obtain⟨z,c,n,r,B,e⟩:=I.lstM k;obtain⟨G,a,E,t,m,f⟩:=I.lstM hB;refine PySem.P.add_list e f ?_ (by rw[aW,aW];omega);have i:c.toArray++a.toArray=(c++a).toArray:=by simp
 rw[i];exact⟨.ref _,_,I.lnew (t':=s.toks) (r.append t) (by rw[aZ];omega),rfl,q _ I.fresh⟩
def Qk:R2:=λx y H Q=>∃ l k a,x = .ref l/\y = .int k/\H l=some (.l a)/\-(2 ^ 63)<=k/\k<2 ^ 63/\a.length*k.toNat<=sizeLine /\
 ∀ p,H p=none->Q (.ref p) (upd H p (.l (List.replicate k.toNat a).flatten))
theorem CI (g:Aa j) (k:Nat):(List.replicate k g).flatten.length=k*g.length:=by
 induction k with
 | zero=>simp
 | succ k a=>rw[cQ,gP,aZ,a,Nat.succ_mul,Nat.add_comm]
theorem Xp:nZ X (binaryOp .Mult) Qk:=by
 intro E s W H x y v u Q I O P h;obtain⟨l,k,V,rfl,rfl,M,K,L,D,q⟩:=h;cases O;obtain⟨t,rfl⟩:=P;obtain⟨z,b,n,r,N,e⟩:=I.lstM M;have i:b.toArray.size*k.toNat<=sizeLine:=by rw[aW,<- N];exact D
 have d:¬ b.toArray.size*k.toNat>(2 ^ 63-1)/8:=by
  have:(sizeLine:Nat)<=(2 ^ 63-1)/8:=by decide
  omega
 have f:¬ (!Builtin.List.listFitsIndex k)=true:=by
  rw[fitsIndex_both K L];exact bD
 have c:¬ Builtin.List.listTooLong (b.toArray.size*k.toNat)=true:=by
  rw[Rc i];exact bD
 have w:List.foldl (λA B=>A++B) #[] (List.replicate (if b.toArray.isEmpty=true then 0 else k.toNat) b.toArray)=(List.replicate k.toNat b).flatten.toArray:=by
  have G:∀ m:Nat,List.foldl (λA B=>A++B) #[] (List.replicate m b.toArray)=(List.replicate m b).flatten.toArray:=λm=>by
   have:=Qu b m [];rw[kL] at this;exact this
  rw[G];cases b with
  | nil=>simp
  | cons a S=>rw[aJ (by simp)]
 refine wpAny_binaryOp_repeat_ref (T := "list") (U := "int") (by decide) ⟨_,e,rfl⟩ (λR=>typeIs_int R k t) noFill_list_mul F.fills_int_mul F.slot_int_rmul repeat_list F.slot_int_index.lookup
  (kS F.slot_int_rmul (typeIs_int s k t) F.entry_int_rmul (F.args_int_rmul_2 _ _) (int___rmul___int_list k t l b.toArray n) ⟨e,rfl,⟨_,e,rfl⟩,kS F.slot_list_mul ⟨_,e,rfl⟩ F.entry_list_mul (F.args_list_mul_2 _ _) (AutoListH.list___mul___list_int_3 l b.toArray n k t f d c) ⟨e,?_⟩⟩)
 rw[w];exact⟨.ref _,_,I.lnew (t':=s.toks) (r.rep k.toNat) (by rw[CI,iN];exact D),rfl,q _ I.fresh⟩
end
section
variable [DecidableEq κ]
noncomputable def qM (g:Aa (κ×V)) (k:κ):Ab V:=(g.find? λa=>decide (a.1=k)).map (·.2)
noncomputable def pP (g:Aa (κ×V)) (k:κ) (v:V):Aa (κ×V) :=
 if (g.any λa=>decide (a.1=k))=true then g.map (λa=>if a.1=k then (a.1,v) else a) else g++[(k,v)]
theorem Ai {p:κ×V}{r:Aa (κ×V)}{k:κ}(e:p.1=k):qM (p::r) k=some p.2:=by simp[qM,eQ,e]
theorem Bz {p:κ×V}{r:Aa (κ×V)}{k:κ}(e:¬ p.1=k):qM (p::r) k=qM r k:=by simp[qM,eQ,e]
theorem Lj (k:κ):∀ g:Aa (κ×V),(g.any λj=>decide (j.1=k))=(qM g k).isSome
 | []=>rfl
 | p::r=>by
  rw[gJ];by_cases e:p.1=k
  .simp only[Ai e,dD e,Bool.true_or,mD]
  .rw[Bz e,cF e,Bool.false_or];exact Lj k r
theorem A9 (g:Aa (κ×V)) (k:κ) (v:V):(pP g k v).length<=g.length+1:=by
 unfold pP;split
 .rw[aA];omega
 .rw[aZ,bY,kM];omega
theorem sS.isSome_eq (r:sS o u):o.isSome=u.isSome:=by
 cases o with
 | none=>cases u with
  | none=>rfl
  | some _=>exact (show False from r).elim
 | some _=>cases u with
  | none=>exact (show False from r).elim
  | some _=>rfl
theorem sS.getD (r:sS o u) (rd:nM d g):nM (o.getD d) (u.getD g):=by
 cases o with
 | none=>cases u with
  | none=>exact rd
  | some _=>exact (show False from r).elim
 | some _=>cases u with
  | none=>exact (show False from r).elim
  | some _=>exact r
theorem KV.val (r:KV g j) (k:κ):sS (qM g k) (valueAt j k):=by
 unfold KV at r;induction r with
 | nil=>exact True.intro
 | @cons p q m c h t i =>
  obtain⟨d,f⟩:=h;by_cases e:p.1=k
  .have a:q.1=k:=d.symm.trans e;have b:valueAt (q::c) k=some q.2:=by simp[valueAt,eQ,a]
   rw[Ai e,b];exact f
  .have a:¬ q.1=k:=λz=>e (d.trans z)
   have b:valueAt (q::c) k=valueAt c k:=by simp[valueAt,eQ,a]
   rw[Bz e,b];exact i
theorem KV.any (r:KV j l) (k:κ):(j.any λg=>decide (g.1=k))=l.any λg=>decide (g.1=k):=by
 unfold KV at r;induction r with
 | nil=>rfl
 | cons h t a=>rw[gJ,gJ,a,h.1]
theorem KV.repl (r:KV j o) (k:κ) (l:nM y u) :
  KV (j.map λg=>if g.1=k then (g.1,y) else g) (o.map λg=>if g.1=k then (g.1,u) else g):=by
 unfold KV at r |-;induction r with
 | nil=>exact .nil
 | @cons p q d f h t c =>
  rw[aN,aN];refine .cons ?_ c;obtain⟨a,b⟩:=h;by_cases e:p.1=k
  .rw[aP e,aP (a.symm.trans e)];exact⟨a,l⟩
  .rw[aJ e,aJ (λz=>e (a.trans z))];exact⟨a,b⟩
theorem KV.put (r:KV g l) (k:κ) (j:nM y u):KV (pP g k y) (stored l k u):=by
 unfold pP stored;rw[r.any k];by_cases e:(l.any λa=>decide (a.1=k))=true
 .rw[aP e,aP e];exact r.repl k j
 .rw[aJ e,aJ e];exact Paired.snoc r ⟨rfl,j⟩
theorem KV.length (r:KV g j):g.length=j.length:=eC r
end
theorem yK {P:Ah}(r:nM (kV k) u):(oG P w).is k u=true:=by
 cases k with
 | inl i=>obtain⟨t,e⟩:=(show ∃ t,u=Value.int i t from r);subst e;exact Vx P w i t
 | inr x=>obtain⟨t,e⟩:=(show ∃ t,u=Value.str x t from r);subst e;exact BW P w x t
theorem Pg {P:Ah}:∀ {g:Aa gV}{j:Aa Ac},nN (g.map kV) j->ItemsAre (oG P w) g j
 | [],_,r=>by rw[mW] at r;cases r;exact .nil
 | k::g,_,r=>by
  rw[aN] at r;cases r with
  | cons h t=>exact .cons (yK h) (Pg t)
abbrev KT (H:Hp):Aa (Aa gV×V)->Aa (Aa gV×Ad×Ac)->Prop:=Paired λp q=>p.1=q.1/\H q.2.1=some (.t (p.1.map kV))/\nM p.2 q.2.2
theorem KT.val (r:KT H g j) (k:Aa gV):sS (qM g k) ((atKey j k).map (·.2)):=by
 induction r with
 | nil=>exact True.intro
 | @cons p q m c h t i =>
  obtain⟨d,_,f⟩:=h;by_cases e:p.1=k
  .have a:q.1=k:=d.symm.trans e;have b:atKey (q::c) k=some q.2:=by simp[atKey,eQ,a]
   rw[Ai e,b];exact f
  .have a:¬ q.1=k:=λz=>e (d.trans z)
   have b:atKey (q::c) k=atKey c k:=by simp[atKey,eQ,a]
   rw[Bz e,b];exact i
theorem KT.repl (r:KT H j o) (k:Aa gV) (l:nM y u) :
  KT H (j.map λg=>if g.1=k then (g.1,y) else g) (o.map (putAt k u)):=by
 induction r with
 | nil=>exact .nil
 | @cons p q f i h t d =>
  rw[aN,aN];refine .cons ?_ d;obtain⟨a,b,c⟩:=h;unfold putAt;by_cases e:p.1=k
  .rw[aP e,aP (a.symm.trans e)];exact⟨a,b,l⟩
  .rw[aJ e,aJ (λz=>e (a.trans z))];exact⟨a,b,c⟩
theorem KT.put (r:KT H g j) (k:Aa gV) (o:H b=some (.t (k.map kV))) (l:nM y u) :
  KT H (pP g k y) (storedH j k b u):=by
 have e:(g.any λa=>decide (a.1=k))=(atKey j k).isSome:=by
  rw[Lj,(r.val k).isSome_eq,lF]
 unfold pP storedH;rw[e];by_cases q:(atKey j k).isSome=true
 .rw[aP q,aP q];exact r.repl k l
 .rw[aJ q,aJ q];exact Paired.snoc r ⟨rfl,o,l⟩
theorem KT.keeps (r:KT H g p) (o:∀ b j,H b=some (.t j)->l b=some (.t j)):KT l g p :=
 Paired.mapP r λ_ _ z=>⟨z.1,o _ _ z.2.1,z.2.2⟩
section
variable {P:Ah}
theorem Gs (ok:oX P w H h) (e:Rd H a u):oM P w H h a u:=e.ok ok
theorem tT (ok:oX P w H h) (e:Rd H a (.k g)):g.length<=sizeLine/\(a == sysModules)=false/\∃ j,KV g j/\h.DictOf (oG P w) a j :=
 show oM P w H h a (.k g) from Gs ok e
theorem Io (ok:oX P w H h) (e:H a=some (.k g)):g.length<=sizeLine/\(a == sysModules)=false/\∃ j,KV g j/\h.DictOf (oG P w) a j:=tT ok (.inl e)
theorem Ay (ok:oX P w H h) (e:H a=some (.t (g.map kV))):(tupleKind (oG P w)).is h g a:=by
 obtain⟨_,b,r,⟨o,c,d,n,f⟩,_⟩:=(show oM P w H h a (.t (g.map kV)) from ok a _ e);exact⟨o,b.toArray,n,c,d,f,by simpa using Pg r⟩
theorem Bo (ok:oX P w H h) (e:Rd H a (.T g)):g.length<=sizeLine/\(a == sysModules)=false /\
  ∃ j,KT H g j/\h.DictOfH (tupleKind (oG P w)) a j:=by
 obtain⟨z,y,j,r,o,f,d,i,k,n,s,u⟩:=(show oM P w H h a (.T g) from Gs ok e);refine⟨z,y,j,r,o,f,d,i,k,n,s,λx b=>?_,u⟩;have all:∀ {l:Aa (Aa gV×V)} {m:Aa (Aa gV×Ad×Ac)},KT H l m->∀ x∈m,(tupleKind (oG P w)).is h x.1 x.2.1:=by
  intro l m q;induction q with
  | nil=>intro x b;exact nomatch b
  | @cons p q A B c t v =>
   intro x b;rcases aI.mp b with e | b
   .subst e;exact Ay ok (by rw[<- c.1];exact c.2.1)
   .exact v x b
 exact all r x b
theorem Yx (ok:oX P w H h) (e:H a=some (.T g)):g.length<=sizeLine/\(a == sysModules)=false /\
  ∃ j,KT H g j/\h.DictOfH (tupleKind (oG P w)) a j:=Bo ok (.inl e)
end
abbrev KM (H:Hp):Aa (MK×V)->Aa (MK×Ac×Ac)->Prop:=Paired λp q=>p.1=q.1/\tZ H p.1 q.2.1/\nM p.2 q.2.2
theorem KM.val (r:KM H g j) (k:MK):sS (qM g k) ((qS j k).map (·.2)):=by
 induction r with
 | nil=>exact True.intro
 | @cons p q m c h t i =>
  obtain⟨d,_,f⟩:=h;by_cases e:p.1=k
  .have a:q.1=k:=d.symm.trans e;have b:qS (q::c) k=some q.2:=by simp[qS,eQ,a]
   rw[Ai e,b];exact f
  .have a:¬ q.1=k:=λz=>e (d.trans z)
   have b:qS (q::c) k=qS c k:=by simp[qS,eQ,a]
   rw[Bz e,b];exact i
theorem KM.repl (r:KM H j o) (k:MK) (l:nM y u) :
  KM H (j.map λg=>if g.1=k then (g.1,y) else g) (o.map (tR k u)):=by
 induction r with
 | nil=>exact .nil
 | @cons p q f i h t d =>
  rw[aN,aN];refine .cons ?_ d;obtain⟨a,b,c⟩:=h;unfold tR;by_cases e:p.1=k
  .rw[aP e,aP (a.symm.trans e)];exact⟨a,b,l⟩
  .rw[aJ e,aJ (λz=>e (a.trans z))];exact⟨a,b,c⟩
theorem KM.put (r:KM H g j) (k:MK) (o:tZ H k key) (l:nM y u):KM H (pP g k y) (xG j k key u):=by
 have e:(g.any λa=>decide (a.1=k))=(qS j k).isSome:=by
  rw[Lj,(r.val k).isSome_eq,lF]
 unfold pP xG;rw[e];by_cases q:(qS j k).isSome=true
 .rw[aP q,aP q];exact r.repl k l
 .rw[aJ q,aJ q];exact Paired.snoc r ⟨rfl,o,l⟩
theorem KM.keeps (r:KM H g p) (o:∀ b j,H b=some (.t j)->l b=some (.t j)):KM l g p :=
 Paired.mapP r λ_ _ z=>⟨z.1,P1 o z.2.1,z.2.2⟩
abbrev zA:Aa (gV×Ac)->Aa (MK×Ac×Ac)->Prop:=Paired λp q=>q.1 = .inl p.1/\q.2.2=p.2/\tA p.1 q.2.1=true
theorem FO {P:Ah}(h:Pairs (oG P w) l j):(∀ e∈l,∃ k,(oG P w).is k e.key=true/\e.hash=(oG P w).hash k)->∃ g,l=g.map (tD P w)/\zA j g:=by
 induction h with
 | nil=>exact λ_=>⟨[],rfl,.nil⟩
 | @cons e d v u hk m t q =>
  intro f;obtain⟨g,i,r⟩:=q λx n=>f x (aH _ n)
  obtain⟨k,g1,g2⟩:=f e aF;have s:k=d.1:=(oG P w).inj _ _ _ g1 hk;subst s;refine⟨(.inl d.1,e.key,e.val)::g,?_,.cons ⟨rfl,m,hk⟩ r⟩;rw[aN,<- i]
  congr 1
  obtain⟨a,b,c⟩:=e;cases (show a=(oG P w).hash d.1 from g2);rfl
theorem zA.keys (r:zA g j):j.map (·.1)=(g.map (·.1)).map (Sum.inl:gV->MK):=by
 induction r with
 | nil=>rfl
 | cons h t a=>rw[aN,aN,aN,a,h.1]
theorem zA.mem (r:zA j g) (P:Ah) (w:World) (h:Ag):∀ x∈g,oO P w h x.1 x.2.1:=by
 induction r with
 | nil=>intro x a;exact nomatch a
 | @cons p q d f b t c =>
  intro x a;rcases aI.mp a with e | a
  .subst e;rw[b.1];exact b.2.2
  .exact c x a
theorem EJ {P:Ah}(p:h.DictOf (oG P w) a C):∃ o l j g,EM P w h a o l j g/\zA C g:=by
 obtain⟨o,l,j,i,c,hd,hk,k,f⟩:=p;obtain⟨g,b,r⟩:=FO k λe d=>hk e (Array.mem_toList_iff.mp d)
 refine⟨o,l,j,g,⟨i,c,hd,b,r.mem P w h,?_⟩,r⟩;rw[r.keys];exact List.Pairwise.map _ (λx y z q=>z (mK q)) f
theorem Za (r:KV g j) (q:zA j l):KM H (g.map λp=>((Sum.inl p.1:MK),p.2)) l:=by
 unfold KV at r;induction r generalizing l with
 | nil=>cases q;exact .nil
 | @cons p v e j h t d =>
  cases q with
  | @cons _ y _ f c ty =>
   refine .cons ⟨?_,?_,?_⟩ (d ty)
   .show (Sum.inl p.1:MK)=y.1;rw[c.1,h.1]
   .show nM (kV p.1) y.2.1;rcases tK c.2.2 with⟨i,t,a,b⟩ | ⟨i,t,a,b⟩
    .rw[h.1,a,b];exact⟨t,rfl⟩
    .rw[h.1,a,b];exact⟨t,rfl⟩
   .rw[c.2.1];exact h.2
section
variable {P:Ah}
theorem A8 (ok:oX P w H h) (r:tZ H k u):oO P w h k u:=by
 rcases k with k | a
 .exact yK r
 .obtain⟨b,e,q⟩:=r;exact⟨b,e,Ay ok q⟩
theorem B2 (m:wD H k y) (r:nM y u):tZ H k u:=by
 rcases k with k | a
 .cases (show y=kV k from m);exact r
 .obtain⟨b,e,q⟩:=m;subst e;exact⟨b,r,q⟩
theorem A6 (ok:oX P w H h) (e:Rd H a (.dM g)):g.length<=sizeLine/\(a == sysModules)=false/\∃ j o I C,KM H g j/\EM P w h a o I C j:=by
 obtain⟨z,y,j,r,o,I,C,d,f,i,k,n⟩:=(show oM P w H h a (.dM g) from Gs ok e);refine⟨z,y,j,o,I,C,r,d,f,i,k,λx b=>?_,n⟩;have all:∀ {l:Aa (MK×V)} {m:Aa (MK×Ac×Ac)},KM H l m->∀ x∈m,oO P w h x.1 x.2.1:=by
  intro l m q;induction q with
  | nil=>intro x b;exact nomatch b
  | @cons p q u v c t s =>
   intro x b;rcases aI.mp b with e | b
   .subst e;exact A8 ok (by rw[<- c.1];exact c.2.1)
   .exact s x b
 exact all r x b
end
def tU (H:Hp) (a:Ad) (y:V) (r:Ab V):Prop :=
 (∃ c k,Rd H a (.k c)/\y=kV k/\r=qM c k)\/(∃ c k b,Rd H a (.T c)/\y = .ref b/\H b=some (.t (k.map kV))/\r=qM c k)\/∃ c k,Rd H a (.dM c)/\wD H k y/\r=qM c k
def sU (H:Hp) (a:Ad) (y v:V) (g:Hp):Prop :=
 (∃ c k,H a=some (.k c)/\y=kV k/\c.length<sizeLine/\g=upd H a (.k (pP c k v))) \/
 (∃ c k b,H a=some (.T c)/\y = .ref b/\H b=some (.t (k.map kV))/\c.length<sizeLine/\g=upd H a (.T (pP c k v))) \/
 (∃ c k,H a=some (.dM c)/\wD H k y/\c.length<sizeLine/\g=upd H a (.dM (pP c k v))) \/
 ∃ c k b,H a=some (.k c)/\y = .ref b/\H b=some (.t (k.map kV))/\c.length<sizeLine/\g=upd H a (.dM (pP (c.map λp=>((Sum.inl p.1:MK),p.2)) (.inr k) v))
theorem sU.k {k:gV}(e:H a=some (.k g)) (j:g.length<sizeLine):sU H a (kV k) v (upd H a (.k (pP g k v))):=.inl ⟨g,k,e,rfl,j,rfl⟩
theorem sU.t {H:Hp}{a b:Ad}{g:Aa (Aa gV×V)}{k:Aa gV}{v:V}(e:H a=some (.T g)) (j:H b=some (.t (k.map kV))) (l:g.length<sizeLine) :
  sU H a (.ref b) v (upd H a (.T (pP g k v))):=.inr (.inl ⟨g,k,b,e,rfl,j,l,rfl⟩)
theorem tU.m (e:Rd H a (.dM g)) (m:wD H k y):tU H a y (qM g k):=.inr (.inr ⟨g,k,e,m,rfl⟩)
theorem sU.m {H:Hp}{a:Ad}{g:Aa (MK×V)}{k:MK}{y v:V}(e:H a=some (.dM g)) (m:wD H k y) (j:g.length<sizeLine):sU H a y v (upd H a (.dM (pP g k v))):=.inr (.inr (.inl ⟨g,k,e,m,j,rfl⟩))
theorem sU.km {H:Hp}{a b:Ad}{g:Aa (gV×V)}{k:Aa gV}{v:V}(e:H a=some (.k g)) (j:H b=some (.t (k.map kV))) (l:g.length<sizeLine) :
  sU H a (.ref b) v (upd H a (.dM (pP (g.map λp=>((Sum.inl p.1:MK),p.2)) (.inr k) v))):=.inr (.inr (.inr ⟨g,k,b,e,rfl,j,l,rfl⟩))
section
variable {X:Cx}
theorem Inv.big (I:Inv X g j H s):sysModules<s.heap.objs.size:=by
 have h:mainGlobals<s.heap.objs.size:=(I.mod.glob.keeps I.bk).lt;exact Nat.lt_trans (by decide) h
theorem Yf (J:A.units+1<cLine) (I:Inv X r U H s) (g:tU H a y (some v)) (C:nM y u) (h:∀ j T,Inv X r U H T->nM v j->Q j T) :
  wpAny (model X.prog X.w) A (getItem (.ref a) u) Q E s:=by
 rcases g with⟨i,k,e,m,l⟩ | ⟨i,k,b,e,m,t,l⟩ | ⟨i,k,e,x,l⟩
 .subst m;obtain⟨z,hd,B,rel,f⟩:=tT I.hok e;obtain⟨j,hw,c⟩:=sS.some_of (v:=v) (o:=valueAt B k) (by rw[l];exact rel.val k);exact wpAny_getItem_of (yK C) f.mapOf hw (h j _ (I.tok _) c)
 .subst m;cases (show u=Value.ref b from C);obtain⟨z,hd,q,rel,f⟩:=Bo I.hok e;obtain⟨j,hw,c⟩:=sS.some_of (v:=v) (o:=(atKey q k).map (·.2)) (by rw[l];exact rel.val k);obtain⟨p,n,d⟩:=bS.mp hw;refine wpAny_getItem_heap (fH J) (Ay I.hok t) f n ?_;rw[d];exact h j _ (I.tok _) c
 .obtain⟨z,hd,q,o,F,D,rel,f⟩:=A6 I.hok e;obtain⟨j,hw,c⟩:=sS.some_of (v:=v) (o:=(qS q k).map (·.2)) (by rw[l];exact rel.val k);obtain⟨p,n,d⟩:=bS.mp hw;refine IV J f (A8 I.hok (B2 x C)) n ?_;rw[d];exact h j _ (I.tok _) c
theorem Oa (r:A.units+1<cLine) (I:Inv X j J H s) (g:tU H a y o) (p:nM y u) (h:∀ C,Inv X j J H C->Q (.bool (!o.isSome)) C) :
  wpAny (model X.prog X.w) A (compareOp .NotIn u (.ref a)) Q E s:=by
 rcases g with⟨d,k,e,f,l⟩ | ⟨d,k,b,e,f,i,l⟩ | ⟨d,k,e,m,l⟩
 .subst f;obtain⟨z,hd,B,rel,c⟩:=tT I.hok e;refine wpAny_notIn_of (yK p) hd c.mapOf ?_;rw[<- (rel.val k).isSome_eq,<- l];exact h _ (I.tok _)
 .subst f;cases (show u=Value.ref b from p);obtain⟨z,hd,n,rel,c⟩:=Bo I.hok e;refine wpAny_notIn_heap (fH r) (Ay I.hok i) hd c ?_;have q:=(rel.val k).isSome_eq;rw[lF] at q;rw[<- q,<- l];exact h _ (I.tok _)
 .obtain⟨z,hd,n,x,v,t,rel,c⟩:=A6 I.hok e;refine Y0 r c (A8 I.hok (B2 m p)) hd ?_;have q:=(rel.val k).isSome_eq;rw[lF] at q;rw[<- q,<- l];exact h _ (I.tok _)
theorem B4 (I:Inv X g C H s) (r:Ca (H a)) (p:Heap.SameBut a s.heap j) (o:∃ q,j.get? a=some q) (new:oM X.prog X.w (upd H a l) j a l) :
  Inv X g C (upd H a l) { s with heap:=j,toks:=J } :=
 I.write (x:=a) (e:=a) r (.inl rfl) (λb q c z=>(p.2 b c).trans z) o new
theorem Cs {P:Ah}(z:g.length<=sizeLine) (hd:(a == sysModules)=false) (rel:KV g j) (l:o.DictOf (oG P w) a j) :
  oM P w p o a (.k g):=⟨z,hd,j,rel,l⟩
theorem X3 (T:A.units+1<cLine) (I:Inv X j σ H s) (g:sU H a y v H') (C:nM y u) (J:nM v r) (h:∀ U,Inv X j σ H' U->Q () U) :
  wpAny (model X.prog X.w) A (setItem (.ref a) u r) Q E s:=by
 rcases g with⟨f,k,e,K,l,n⟩ | ⟨f,k,b,e,K,L,l,n⟩ | ⟨f,k,e,M,l,n⟩ | ⟨f,k,b,e,K,L,l,n⟩
 .subst K n;obtain⟨z,hd,V,rel,m⟩:=Io I.hok e;have F:V.length<=sizeLine:=by rw[<- rel.length];exact z
  have B:(pP f k v).length<=sizeLine:=by have:=A9 f k v;omega
  refine wpAny_setItem_pairs (hsz:=F) (yK C) m λN d D=>h _ ?_
  have he:∃ q,N.get? a=some q:=let ⟨q,_,_,O,_⟩:=d;⟨q,O⟩;exact B4 I (by rw[e];exact True.intro) D he (Cs B hd (rel.put k J) d)
 .subst K n;cases (show u=Value.ref b from C);obtain⟨z,hd,G,rel,m⟩:=Yx I.hok e;have F:G.length<=sizeLine:=by rw[<- eC rel];exact z
  have B:(pP f k v).length<=sizeLine:=by have:=A9 f k v;omega
  refine wpAny_setItem_heap (hsz:=F) (fH T) (Ay I.hok L) m λN d D=>h _ ?_
  obtain⟨q,R,P,O,Y,Z,h4,_,h5⟩:=d;refine B4 I (by rw[e];exact True.intro) D ⟨q,O⟩ ⟨B,hd,_,(rel.put k L J).keeps λc W i=>?_,q,R,P,O,Y,Z,h4,h5⟩;rw[gD (zN i e (λz=>nomatch z))];exact i
 .subst n;obtain⟨z,hd,G,o,R,P,rel,m⟩:=A6 I.hok (.inl e);have F:G.length<=sizeLine:=by rw[<- eC rel];exact z
  have B:(pP f k v).length<=sizeLine:=by have:=A9 f k v;omega
  refine Of T m (A8 I.hok (B2 M C)) F λN S x t d D=>h _ ?_
  refine B4 I (by rw[e];exact True.intro) D ⟨_,d.ho⟩ ⟨B,hd,_,(rel.put k (B2 M C) J).keeps λc W i=>?_,S,x,t,d.ho,d.hc,d.hd,d.he,d.nd⟩;rw[gD (zN i e (λz=>nomatch z))];exact i
 .subst K n;cases (show u=Value.ref b from C);obtain⟨z,hd,V,rel,m⟩:=Io I.hok e;obtain⟨o,R,P,G,M,pr⟩:=EJ m;have km:KM H (f.map λp=>((Sum.inl p.1:MK),p.2)) G:=Za rel pr;have F:G.length<=sizeLine:=by rw[<- eC km,aA];exact z
  have B:(pP (f.map λp=>((Sum.inl p.1:MK),p.2)) (.inr k) v).length<=sizeLine:=by
   have:=A9 (f.map λp=>((Sum.inl p.1:MK),p.2)) (.inr k) v;rw[aA] at this;omega
  have mk:tZ H (.inr k) (.ref b):=⟨b,rfl,L⟩;refine Of T M (A8 I.hok mk) F λN S x t d D=>h _ ?_
  refine B4 I (by rw[e];exact True.intro) D ⟨_,d.ho⟩ ⟨B,hd,_,(km.put (.inr k) mk J).keeps λc W i=>?_,S,x,t,d.ho,d.hc,d.hd,d.he,d.nd⟩;rw[gD (zN i e (λz=>nomatch z))];exact i
end
section
variable {X:Cx}
theorem LQ (I:Inv X g o H s) (e:Rd H a (.k j)) (h:∀ t l,Inv X g o H l->Q (.int j.length t) l):wpAny (model X.prog X.w) A (call (.builtin "len") [.ref a]) Q E s:=by
 obtain⟨z,hd,c,rel,b⟩:=tT I.hok e;refine call_len_dict hd b (by rw[<- rel.length];rw[sizeLine_eq] at z;omega) ?_;rw[<- rel.length];exact h _ _ (I.tok _)
end
theorem P2 {X:Cx}(I:Inv X j l H s) (g:tU H a y o):s.TypeIs (.ref a) "dict" := by
 rcases g with⟨d,k,e,_,_⟩ | ⟨d,k,b,e,_,_,_⟩ | ⟨d,k,e,_,_⟩
 .obtain⟨_,_,h,_,c⟩:=tT I.hok e;exact c.typeIs
 .obtain⟨_,_,f,_,c⟩:=Bo I.hok e;exact c.typeIs
 .obtain⟨_,_,f,_,_,_,_,c⟩:=A6 I.hok e;exact c.typeIs
def Wv (ty g:TE):TE:=λd H Q=>ty d H λy e=>g d e λx c=>∃ a o,x = .ref a/\tU c a y o/\Q (.b (!o.isSome)) c
section
variable {X:Cx}{tv:TE}
theorem V4 (p:X.A.units+1<cLine) (j:PE X i ty) (l:PE X o r):PC X .NotIn i o (Wv ty r):=by
 intro c s e H Q I h;refine nJ (j c s e H _ I h) λF E ⟨y,f,m,D,w⟩=>nJ (l c E e f _ m w) λu G d=>?_
 obtain⟨x,k,n,B,a,v,t,g,z⟩:=d;subst t;obtain rfl:u=Value.ref a:=B;exact Oa p n g D λK q=>⟨.b (!v.isSome),k,q,rfl,z⟩
end
theorem LX {P:Ah}(h:Ag) (g:sysModules<h.objs.size):oM P w H (h.push { cls:=.type "dict",data:=.dict #[] }) h.objs.size (.k []) :=
 ⟨cG _,cY.mpr (fB (bG g)),[],.nil,Heap.DictOf.new h⟩
def LO:TE:=λ_ H Q=>∀ p,H p=none->Q (.ref p) (upd H p (.k []))
section
variable {X:Cx}
theorem Rp:PE X (.Dict [] [] pos) LO:=λb s c H Q I h =>
 wpAny_Dict_empty ⟨.ref s.heap.objs.size,_,I.laid (a:=s.heap.objs.size) (o:=.k []) (t':=s.toks) (λ_ _ q=>aK _ q) (aU _) (LX s.heap I.big),rfl,h _ (I.hok.fresh (aU _))⟩
end
def rQ (g more:Aa (gV×V)):Aa (gV×V):=more.foldl (λa b=>pP a b.1 b.2) g
theorem KV.merge:∀ {more:Aa (gV×V)}{l:Aa (gV×Ac)}{g:Aa (gV×V)}{j:Aa (gV×Ac)},KV more l->KV g j->KV (rQ g more) (merged j l):=by
 intro more l g j r;unfold KV at r;induction r generalizing g j with
 | nil=>intro q;exact q
 | @cons p q c d h t a =>
  intro b;have e:KV (pP g p.1 p.2) (stored j q.1 q.2):=by
   have:=b.put p.1 h.2;rw[<- h.1];exact this
  exact a e
theorem El:∀ (more g:Aa (gV×V)),(rQ g more).length<=g.length+more.length
 | [],g=>by show g.length<=g.length+0;omega
 | p::r,g=>by
  have a:=El r (pP g p.1 p.2);have b:=A9 g p.1 p.2;show (rQ (pP g p.1 p.2) r).length<=_;rw[bY];omega
structure M2 (X:Cx) (o:Expr) (m:Str) (apos:Pos) (e f:Expr) (cpos:Pos):Prop where
 base:attributeBase o m X.env (eval o X.env)=eval o X.env
 few:((backTo cpos (starEach [e,f] X.env)).all (λx=>!x.1)&&(backToKw cpos (keywordEach [] X.env)).all (λx=>x.1.isSome) && decide (([e,f]:List Expr).length+([]:List Keyword).length+(if ([]:List Keyword).isEmpty then 0 else 1)<30))=true
 line:(apos.endLine == cpos.line)=true
 trees:backTo cpos (starEach [e,f] X.env)=[(false,eval e X.env),(false,eval f X.env)]
def J7 (H:Hp) (a:Ad):Prop:=(∃ b,Rd H a (.k b))\/(∃ b,Rd H a (.T b))\/∃ b,Rd H a (.dM b)
theorem Yb {X:Cx}(I:Inv X j l H s) (d:J7 H a) :
  s.TypeIs (.ref a) "dict" /\ (∀ b,Value.ref a = .ref b->∃ g,s.heap.get? b=some g/\g.dict=none)/\(a == sysModules)=false:=by
 rcases d with⟨f,e⟩ | ⟨f,e⟩ | ⟨f,e⟩
 .obtain⟨_,hd,m,_,c⟩:=tT I.hok e;refine⟨c.typeIs,λb q=>?_,hd⟩;cases q;obtain⟨g,_,_,h,i,_⟩:=c;exact⟨g,h,i.2.1⟩
 .obtain⟨_,hd,k,_,c⟩:=Bo I.hok e;refine⟨c.typeIs,λb q=>?_,hd⟩;cases q;obtain⟨g,_,_,h,i,_⟩:=c;exact⟨g,h,i.2.1⟩
 .obtain⟨_,hd,k,g,_,_,_,c⟩:=A6 I.hok e;refine⟨c.typeIs,λb q=>?_,hd⟩;cases q;exact⟨g,c.ho,c.hc.2.1⟩
section
variable {X:Cx}
theorem Wh (C:A.units+1<cLine) (I:Inv X j U H s) (g:tU H a y o) (p:nM y u) (rd:nM d r) (h:∀ T J,Inv X j U H J->nM (o.getD d) T->Q T J) :
  wpAny (model X.prog X.w) A (call (.builtin "dict.get") [.ref a,u,r]) Q E s:=by
 rcases g with⟨f,k,e,i,l⟩ | ⟨f,k,b,e,i,n,l⟩ | ⟨f,k,e,q,l⟩
 .subst i;obtain⟨z,hd,B,rel,c⟩:=tT I.hok e;refine call_meetsIn jT c.typeIs lG (kY _ _ _) (meets_dict_get_default (oG X.prog X.w) a (yK p) hd r) ⟨_,c.mapOf,h _ _ (I.tok _) ?_⟩;rw[l];exact (rel.val k).getD rd
 .subst i;cases (show u=Value.ref b from p);obtain⟨z,hd,m,rel,c⟩:=Bo I.hok e;refine call_meetsIn jT c.typeIs lG (kY _ _ _) (meetsH_dict_get_default (tupleKind (oG X.prog X.w)) a b hd r) ⟨fH C,k,m,Ay I.hok n,c,h _ _ (I.tok _) ?_⟩;rw[l];exact (rel.val k).getD rd
 .obtain⟨z,hd,m,x,v,t,rel,c⟩:=A6 I.hok e;refine call_meetsIn jT c.typeIs lG (kY _ _ _) (BC hd u r) ⟨fH (K:=gV) (knd:=oG X.prog X.w) C,k,x,v,t,m,c,A8 I.hok (B2 q p),h _ _ (I.tok _) ?_⟩;rw[l];exact (rel.val k).getD rd
end
def HF (g ty tx:TE):TE:=λb H Q=>g b H λx c=>∃ a,x = .ref a/\J7 c a/\ty b c λy e=>tx b e λz d=>∃ o,tU d a y o/\Q (o.getD z) d
section
variable {X:Cx}{tx:TE}
theorem Wr (C:X.A.units+1<cLine) (r:PE X o J) (l:PE X e ty) (p:PE X f tx) (m:M2 X o "get" apos e f j):PE X (.Call (.Attribute o "get" apos) [e,f] [] j) (HF J ty tx):=by
 intro b s k H Q I h;refine wpAny_Call_method m.base m.few m.line PySem.F.plainAttrs_dict jT PySem.F.type_dict_get (nJ (r b s k H _ I h) λu P c=>?_);obtain⟨x,q,n,M,a,E,d,G⟩:=c;subst E;obtain rfl:u=Value.ref a:=M;obtain⟨S,V,_⟩:=Yb n d;refine⟨S,V,?_⟩;rw[m.trees];refine Calls.callWith_builtin rfl (Calls.evalArgs_plain (kR (nJ (l b P k q _ n G) λY R ⟨y,t,w,N,K⟩ =>kR (nJ (p b R k t _ w K) λW T ⟨z,v,B,O,Z,g,L⟩=>Calls.spliced_nil ?_))));exact Wh C B g N O λw' U D i=>⟨_,v,D,i,L⟩
end
section
variable {X:Cx}
theorem JT (I:Inv X j r H s) (e:Rd H a (.k g)) (h:∀ p l,H p=none->Inv X j r (upd H p (.k g)) l->Q (.ref p) l):wpAny (model X.prog X.w) A (call (.type "dict") [.ref a]) Q E s:=by
 obtain⟨z,hd,n,rel,f⟩:=tT I.hok e;refine kt_call_dict hd f (by rw[<- rel.length];exact z) λm c i=>?_
 refine h _ _ (I.hok.fresh (aU _)) (I.laid (a:=s.heap.objs.size) (o:=.k g) (t':=s.toks) (λb q d=>?_) (aU _) (Cs z (cY.mpr (fB (bG I.big))) rel c));exact (i.2 b (bG (aV d))).trans (aK _ d)
end
end L2
namespace Att
open PySem PySem.W PySem.Calls PyProof.Rows
theorem GD {P:Params}:∀ (g:Aa Int) (j:Aa Ac),WellAll P h j (g.map WData.int)->IntsAre j g:=by
 intro g;induction g with
 | nil =>
  intro j w;rw[mW] at w;cases w;exact .nil
 | cons n g c =>
  intro j w;rw[aN] at w;cases w with
  | cons a b =>
   cases a;exact .cons _ _ (c _ b)
theorem Wa {l:OpenLaw}(I:l.most=some n){P:Params}
  (j:l.row.toRowW.claim.pre args=true) (p:WellAll P h o args) :
  ∃ a C g,o=[Value.ref a]/\args=[WData.list (g.map WData.int)]/\h.get? a=some { cls:=.type "list",data:=.seq C.toArray }/\IntsAre C g/\g.length<=n:=by
 have i:WShape.hasAll [] args [.list .int]=true:=(pre_splitW j).1;have k:l.pre.holds [] { args:=args }=true:=(pre_splitW j).2;obtain⟨d,r,rfl,m,s⟩:=hasAllW_cons i;obtain rfl:=hasAllW_nil s;obtain⟨y,rfl,t⟩:=hasW_list m;obtain⟨g,rfl⟩:=items_int t;have c:g.length<=n:=by
  unfold OpenLaw.pre at k;have e:(WTm.not (.lt (.lit (.int (n:Int))) (.len (.arg 0)))).holds [] { args:=[.list (g.map .int)] }=true:=by
   have e:=(holds_andW k).1;rw[I] at e;exact e
  have f:=condW_of e (w_not (w_lt w_lit (w_len_list (w_arg rfl))));rw[aA] at f;refine Nat.le_of_not_lt λq=>?_
  have v:(n:Int)<((g.length:Nat):Int):=by omega
  first
   | (rw[dD v] at f;exact absurd f (by decide))
   | (simp at f;omega)
 cases p with
 | cons w x =>
  cases x;cases w with
  | list u b=>exact⟨_,_,g,rfl,rfl,u,GD g _ b,c⟩
theorem FK (l:OpenLaw) (args:Aa WData):l.row.toRowW.claim.post args (.bool true) args=true :=
 postW_of (r:=l.row.toRowW) (X:=(true == true))
  (show WShape.has [] (.bool true) .bool=true by first | rfl | decide | simp[WShape.has,WShape.arms,WShape.armsAll])
  (show (WTm.eq .res (.lit (.bool true))).value [] { args:=args,res:=some (.bool true),after:=args }=some (.bool (true == true)) from w_eq_bool (w_res rfl) w_lit) rfl
theorem attach_call {l:OpenLaw}
  (hn:l.most=some n) (aa:d.params.defaults=[])
  (call:∀ (w:World) (j g:Ae) (T mb:Af->Ab Ac) (J:Ad) (o:Obj) (pm cd p:Ac) (a:Ad) (I:Aa Ac) (U:Aa Int),Ground q C [] XP w j T mb g.heap->YP w g.heap ->g.heap.get? J=some o->o.data = .func (docDef d.name d.params d.body d.scope pm cd p)->g.heap.CodeRec cd d.name->T d.name=some (.ref J) ->g.heap.get? a=some { cls:=.type "list",data:=.seq I.toArray }->IntsAre I U->U.length<=n->g.gens=#[] ->
   codeAny (model l.prog w) callerA (.call (.ref J) ⟨[.ref a],[]⟩) (λr s'=>r = .ok (.ret (.bool true))/\OldK g.heap s'.heap/\s'.os=g.os/\AllBare s'.gens) g) :
  WalkO q C XP YP l.row.toRowW d [] (λf I=>PySem.call f I):=by
 intro w j g T mb G Y J o pm cd p v kV E hd i s k A args u as h t H m B;obtain rfl:v = .none:=Dflts.none s aa;obtain rfl:kV = .none:=Dflts.noKw s;obtain⟨a,I,U,rfl,rfl,e,b,c⟩:=Wa hn h m;refine enter_call (codeAny_mono (call w j g T mb J o pm cd p a I U G Y E (fd_plain hd) i k e b c A) λr s' F=>?_);obtain⟨rfl,x,y,z⟩:=F;exact⟨.inl ⟨.bool true,.bool true,[],rfl,λ_=>rfl,.bool true,FK l _,λ_=>⟨List.Pairwise.nil,λ_ D=>(nomatch D)⟩⟩,x,y,z⟩
end Att
namespace L2
open PySem PySem.Spec PyProof.Rows
theorem Pm:∀ {j:Aa Ac}{g:Aa Int},IntsAre j g->nN (g.map V.int) j
 | _,_,.nil=>.nil
 | _,_,.cons n t h=>.cons ⟨t,rfl⟩ (Pm h)
def Ib (H:Hp):Prop:=∀ b,H b=none\/∃ o a,H b=some (.frz o (.l a))
theorem Xy {P:Ah}{K:nH}
  (KX:K.In g.heap) (T:g.heap.Ns mainGlobals mg) (j:g.heap.Ns builtinsNs mb) (ab:∀ x:Af,x ≠ "__name__" -> mb x=bootBuiltins x) (J:g.heap.NoLimit) (hg:g.gens=#[])
  (U:g.heap.get? a=some { cls:=.type "list",data:=.seq I.toArray }) (hi:IntsAre I ns) (hl:ns.length<=sizeLine) (hr:Room k callerA)
  (F:∀ base:Ag,K.In base->base.Ns mainGlobals mg->FnOk P w K mg base CX k fa fd [x] sp) (C:∀ (s:Ae) (u:Ac),BindsTo s fd ⟨[u],[]⟩ [(x,u)])
  (ac:∀ H:Hp,Ib H->dT K H a (ns.map V.int)->sp [.ref a] H (λv _=>v = .b true) λ_ _ _=>False)
  (aa:∀ H e p,CX [] H g (λ_ _ _=>False) e p->False) :
  codeAny (model P w) callerA (.call (.ref fa) ⟨[.ref a],[]⟩) (λr p=>r = .ok (.ret (.bool true))/\OldK g.heap p.heap/\p.os=g.os/\AllBare p.gens) g:=by
 have Q:=Pm hi;have D:=hi.length;have core:∀ H:Hp,Ib H->dT K H a (ns.map V.int)->oX P w H g.heap->(∀ b,H b≠none->b=a)->(H a≠none->K.lookup a=none) ->
   codeAny (model P w) callerA (.call (.ref fa) ⟨[.ref a],[]⟩) (λr p=>r = .ok (.ret (.bool true))/\OldK g.heap p.heap/\p.os=g.os/\AllBare p.gens) g:=by
  intro H O hS A N hK;have c:∀ {b:Ad} {o:Obj},g.heap.get? b=some o->H b=none->(wN g.heap H).get? b=some o:=λe n=>HS e n
  have L:∀ {b:Ad} {o:Obj} {t:Array DictEntry} {i:Nat},g.heap.get? b=some o->o.data = .dict t i->H b=none:=λ{b o t i} e d=>by
   cases q:H b with
   | none=>rfl
   | some u =>
    have G:b=a:=N b (by rw[q];simp);subst G;rw[U] at e;cases e;have R:Data.seq I.toArray _=Data.dict t i:=d;cases R
  have f:∀ {b:Ad} {m:Af->Ab Ac},g.heap.Ns b m->(wN g.heap H).Ns b m:=λ{b m} ⟨o,t,i,e,d,r⟩=>⟨o,t,i,c e (L e d),d,r⟩
  have y:K.In (wN g.heap H):=λb o e=>c (KX b o e) (by
   cases q:H b with
   | none=>rfl
   | some u =>
    have G:b=a:=N b (by rw[q];simp);subst G;rw[hK (by rw[q];simp)] at e;cases e)
  have hM:Mod K mg (wN g.heap H):=⟨y,f T,⟨mb,f j,ab⟩,let ⟨mc,Y,Z⟩:=J;⟨mc,f Y,Z⟩⟩;have S:Env0 P w K mg (wN g.heap H) callerA [] g H:=⟨rfl,hM,λb o e=>Wu e,Nat.le_of_eq (MG _ _),trivial,λb j=>absurd (show b∈([]:Aa Ad) from j) (by simp),A,.of_eq hg⟩;refine codeAny_mono ((F _ y (f T)).run callerA [] g H ⟨[.ref a],[]⟩ [.ref a] [.ref a] _ _ hr S (C g (.ref a)) (.cons rfl .nil) (ac H O hS)) λr p h=>?_
  cases r with
  | error e=>exact (aa H e p h).elim
  | ok X =>
   cases X with
   | next=>exact False.elim h
   | brk=>exact False.elim h
   | cont=>exact False.elim h
   | ret u =>
    obtain⟨v,H',os,bare,un,B,r',q⟩:=h;have q':v = .b true:=q;subst q';obtain rfl:u=Value.bool true:=r';refine⟨rfl,OldK.of_keep λb o e=>?_,os,bare⟩;cases q:H b with
    | none=>exact un.keep b o e q (by intro z;exact absurd (show b∈([]:Aa Ad) from z) (by simp)) (by simp)
    | some u =>
     rcases O b with z | ⟨ob,xs,z⟩
     .rw[q] at z;cases z
     .have z2:=un.frzs b ob _ z;obtain⟨M,_⟩:=A b _ z;obtain⟨W,_⟩:=B b _ z2;rw[e] at M;cases M;exact W
 cases hk:K.lookup a with
 | some o =>
  have e:=KX a o hk;rw[U] at e;cases e;refine core (λ_=>none) (λ_=>.inl rfl) (.inr ⟨_,I.toArray,_,hk,rfl,rfl,rfl,by rw[aW,D];exact hl,by simpa using Q⟩) (λb u z=>by have E:(none:Ab HO)=some u:=z;cases E) (λb z=>absurd rfl z) λz=>absurd rfl z
 | none =>
  refine core (λb=>if b=a then some (.frz { cls:=.type "list",data:=.seq I.toArray } (.l (ns.map V.int))) else none) (λb=>?_) (.inl (.inr ⟨{ cls:=.type "list",data:=.seq I.toArray },aP rfl⟩)) (λb u z=>?_) (λb z=>?_) λ_=>hk
  .by_cases j:b=a
   .exact .inr ⟨_,_,aP j⟩
   .exact .inl (aJ j)
  .by_cases j:b=a
   .have E:=(aP j).symm.trans z;cases E;subst j;exact⟨U,by rw[aA];exact hl,I,_,Q,U⟩
   .have E:=(aJ j).symm.trans z;cases E
  .by_cases j:b=a
   .exact j
   .exact absurd (aJ j) z
theorem walk_of {l:PySem.W.OpenLaw}{n k:Nat}{q:Ah}{j:Aa Af}{XP:(Af->Ab Ac)->Ag->Prop}{YP:World->Ag->Prop}{d:DefRec}{K:Params->nH}{CX:World->Bx}{sp:World->Sp}{x:Af}
  (hn:l.most=some n) (U:n<=sizeLine) (J:d.params.defaults=[]) (hr:Room k callerA)
  (hY:∀ (w:World) (h:Ag),YP w h->(K w.params).In h)
  (F:∀ (w:World) (p:Af->Ab Ac) (r:Ad) (h:Ag),(K w.params).In h->h.Ns mainGlobals p->p d.name=some (.ref r) ->∃ fd:FuncData,(∀ (s:Ae) (u:Ac),BindsTo s fd ⟨[u],[]⟩ [(x,u)]) /\ ∀ base:Ag,(K w.params).In base->base.Ns mainGlobals p->FnOk l.prog w (K w.params) p base (CX w) k r fd [x] (sp w))
  (aa:∀ (w:World) (H:Hp) (a:Ad) (C:Aa Int),C.length<=n->Ib H->dT (K w.params) H a (C.map V.int)->sp w [.ref a] H (λv _=>v = .b true) λ_ _ _=>False)
  (I:∀ (w:World) (H:Hp) (s:Ae) (e:Ac) (s':Ae),CX w [] H s (λ_ _ _=>False) e s'->False) :
  PySem.W.WalkO q j XP YP l.row.toRowW d [] (λf vs=>PySem.call f vs):=by
 refine Att.attach_call hn J λw A t p Q r o pm cd B a vs C G Y P hd N y m i c O=>?_
 have z:=hY w _ Y;obtain⟨fd,M,D⟩:=F w p r _ z G.T.g y;exact Xy z G.T.g G.T.b G.T.builtins G.T.nolimit O m i (bF c U) hr D M (λH E L=>aa w H a C c E L) λH e s'=>I w H t e s'
def uO (s:Stmt):Arguments:=match s with
 | .FunctionDef _ a _ _ _ _ _ _ _ _=>a
 | _=>{ posonlyargs:=[],args:=[],vararg:=none,kwonlyargs:=[],kw_defaults:=[],kwarg:=none,defaults:=[] }
def sT (s:Stmt):Aa Stmt:=match s with
 | .FunctionDef _ _ b _ _ _ _ _ _ _=>b
 | _=>[]
def oB (s:Stmt):Scope:=match s with
 | .FunctionDef _ _ _ _ _ _ a _ _ _=>a
 | _=>{ kind:=.function,names:=[],isGenerator:=false,isCoroutine:=false }
abbrev oK:Bx:=λ_ _ _ _ _ _=>False
abbrev E0:XK:=λ_ _ _=>False
theorem pX {X:Cx}:E5 oK X E0:=λ_ _ _ _ _ _ _ h=>h.elim
structure Fun (K:nH) (x qual:Str) (st:Stmt) (f:Addr) (fd:FuncData):Prop where
 ex:∃ (oc:Value) (od:Option Addr) (kV doc pm:Value) (an:Option Addr) (cdv ct:Value) (osl:Array (Option Value)),
  fd=PySem.W.fnOf x qual (uO st) (sT st) (oB st) .none kV doc pm an cdv ct/\K.lookup f=some ⟨oc,od,.func fd,osl⟩/\PySem.W.codeIn K cdv qual=true
 kp:PySem.W.keepIn K (.ref f)=true
section
variable {P:Ah}{K:nH}
theorem Fun.ok {st:Stmt}(F:Fun K x l st f fd) (S:FnScope N r (oB st)) (len:∀ p H Q E,C p H Q E->p.length=r.length)
  (o:∀ (j:Ac) (A:Around) (g:Aa Env) (s:Ae) (H:Hp) (p:Aa V) (Q:VK) (E:XK),Room k (A.deeper (envOfC l (oB st) s.heap.objs.size f j))->C p H Q E ->∃ t,pR (yN oK P w K J base N l (oB st) f j A g s H E).nox (sT st) t/\t { nx:=λ_ I=>Q .e I,rt:=Q } (tE N p) H):FnOk P w K J base oK (k+1) f fd r C:=by
 obtain⟨v,y,kV,c,pm,n,j,u,m,rfl,i,a⟩:=F.ex;refine DW i a S len λA g s H p Q E d b=>?_
 obtain⟨t,h,q⟩:=o j A g s H p Q E d b;exact⟨t,h.nox,q⟩
theorem Fun.binds {st:Stmt}(F:Fun K x l st f fd)
  (h:∀ (kV j pm:Ac) (o:Ab Ad) (g p:Ac) (r:Aa Ac),r.length=C.length->bindArgs (PySem.W.fnOf x l (uO st) (sT st) (oB st) .none kV j pm o g p) ⟨r,[]⟩=pure (C.zip r)):xN K fd C []:=by
 obtain⟨d,e,kV,j,pm,o,g,p,b,rfl,c,a⟩:=F.ex;exact .all (h kV j pm o g p)
theorem Px {st:Stmt}{kV:Ac}(l:K.lookup f=some ⟨I,J,.func (PySem.W.fnOf x g (uO st) (sT st) (oB st) .none kV o pm r j C),p⟩)
  (c:PySem.W.codeIn K j g=true) (k:PySem.W.keepIn K (.ref f)=true):Fun K x g st f (PySem.W.fnOf x g (uO st) (sT st) (oB st) .none kV o pm r j C):=⟨⟨I,J,kV,o,pm,r,j,C,p,rfl,l,c⟩,k⟩
end
theorem Kk (g:Room k A):A.units+1<cLine:=bH (Nat.add_le_add_left (by decide:1<=64) _) g.units
section
variable {X:Cx}
theorem pv (i:Nat) (j:X.N[i]?=some x:=by rfl) (l:Lb X.env.scope x:=by first | exact Or.inl rfl | exact Or.inr (Or.inl rfl) | exact Or.inr (Or.inr rfl)) (hd:(x == ("__debug__" : Af))=false:=by decide)
  (g:(x == ("__classdict__" : Af))=false:=by decide):PE X (.Name x pos) (qO i):=CS j l hd g
theorem MR:oQ X (.builtin "len") (λj H Q=>∃ a g,j=[V.ref a]/\Rd H a (.k g)/\Q (.int g.length) H):=by
 intro b s m H j i Q I r h;obtain⟨a,g,rfl,d,q⟩:=h;obtain⟨u,rfl,e⟩:=qZ r;cases e;exact LQ I d λt f c=>⟨.int g.length,H,c,⟨t,rfl⟩,q⟩
end
theorem vQ {A B:Prop}(h:B):if false=true then A else B:=by
 rw[aJ bD];exact h
theorem zD {c A B:Prop} [Decidable c] (g:c->A) (j:¬ c->B):if c then A else B:=by
 by_cases h:c
 .rw[aP h];exact g h
 .rw[aJ h];exact j h
def oW (H g:Hp):Prop:=∀ b o,H b=some o->g b=some o
theorem oW.trans (a:oW H g) (b:oW g j):oW H j:=λc o h=>b c o (a c o h)
theorem oW.free (e:oW H g) (h:g l=Option.none):H l=Option.none:=by
 cases q:H l with
 | none=>rfl
 | some o =>
  rw[e l o q] at h;cases h
theorem oW.seq {K:nH}(e:oW H g) (h:dT K H a j):dT K g a j:=by
 rcases h with (h | ⟨o,h⟩) | h
 .exact .inl (.inl (e _ _ h))
 .exact .inl (.inr ⟨o,e _ _ h⟩)
 .exact .inr h
section
variable [DecidableEq κ]
theorem Ph:∀ {l:Aa κ}{k:κ},l.Nodup->¬ k∈l->(l++[k]).Nodup
 | [],k,_,_=>by simp
 | a::r,k,h,hk=>by
  obtain⟨b,c⟩:=bM.mp h;show (a::(r++[k])).Nodup;refine bM.mpr ⟨λm=>?_,Ph c λm=>hk (aI.mpr (Or.inr m))⟩;rcases aT.mp m with q | q
  .exact b q
  .exact hk (aI.mpr (Or.inl (aO.mp q).symm))
end
section
variable {X:Cx}
theorem Em {K:nH}:∀ {j:Aa Int}{g:Aa Ac},nN (j.map V.int) g->∃ xs:Array (Int×Tok),g.toArray=intItems xs/\j=xs.toList.map (·.1)
 | [],_,.nil=>⟨#[],by simp[intItems],rfl⟩
 | n::j,_,.cons r c=>by
  obtain⟨t,rfl⟩:=r;obtain⟨xs,a,b⟩:=Em (K:=K) c;refine⟨(⟨(n,t)::xs.toList⟩:Array (Int×Tok)),?_,by rw[b];rfl⟩;have:(intItems xs).toList=_:=(cL Array.toList a).symm;unfold intItems at this |-;refine Array.toList_inj.mp ?_;simp only[Array.toList_map] at this |-;rw[aN,this]
theorem Hm (en:l=o.toList.map (·.1)) (g:j<o.size):∃ h:j<l.length,numAt o j=l[j]:=by
 subst en;refine⟨by simpa using g,?_⟩;simp[numAt,g]
theorem Ch (l:X.calm=true):oQ X (.builtin "sum") (λj H Q=>∃ (p:Ad) (g:Aa Int),j=[.ref p]/\dT X.K H p (g.map V.int)/\Q (.int g.sum) H):=by
 intro a s x H j w Q I r h;obtain⟨p,g,rfl,b,q⟩:=h;obtain⟨u,rfl,i⟩:=qZ r;cases i;obtain⟨c,f,d,t⟩:=I.list b;obtain⟨m,e,en⟩:=Em (K:=X.K) f;refine sum_intListG (xs:=m) (I.ok.hd l) (e▸d.isList) λn v k hk=>⟨.int g.sum,H,I.kept hk,⟨k,?_⟩,q⟩
 rw[preSum_eq,bI (by simp),en]
theorem W1 (l:X.calm=true):oQ X (.builtin "min") (λxs H Q=>∃ (p:Ad) (g:Aa Int),xs=[.ref p]/\dT X.K H p (g.map V.int)/\g≠[]/\∀ m:Int,m∈g->(∀ a∈g,m<=a)->Q (.int m) H):=by
 intro k s S H xs R Q I r h;obtain⟨p,g,rfl,y,d,q⟩:=h;obtain⟨u,rfl,L⟩:=qZ r;cases L;obtain⟨B,G,F,N⟩:=I.list y;obtain⟨b,e,en⟩:=Em (K:=X.K) G;have f:0<b.size:=by
  rcases mE b.size with z | z
  .exfalso;apply d;rw[en];simp[Array.size_eq_zero_iff.mp z]
  .exact z
 refine min_intList (xs:=b) (I.ok.hd l) (e▸F.isList) f λv M P A hk=>?_
 obtain⟨t,rfl⟩:=intItems_at (xs:=b) A;have c:=argBest_lt (numAt b) (b.size-1);obtain⟨E,n⟩:=Hm en (bH c.1 (show b.size-1<b.size by omega));refine⟨.int _,H,I.kept hk,⟨t,rfl⟩,q _ (n▸fJ E) λa x=>?_⟩;obtain⟨j,i,rfl⟩:=List.getElem_of_mem x;have D:j<b.size:=by rw[en] at i;simpa using i
 obtain⟨O,w⟩:=Hm en D;exact w▸c.2 j (by omega)
theorem We (l:X.calm=true):oQ X (.builtin "max") (λxs H Q=>∃ (p:Ad) (g:Aa Int),xs=[.ref p]/\dT X.K H p (g.map V.int)/\g≠[]/\∀ m:Int,m∈g->(∀ a∈g,a<=m)->Q (.int m) H):=by
 intro k s S H xs R Q I r h;obtain⟨p,g,rfl,y,d,q⟩:=h;obtain⟨u,rfl,L⟩:=qZ r;cases L;obtain⟨B,G,F,N⟩:=I.list y;obtain⟨b,e,en⟩:=Em (K:=X.K) G;have f:0<b.size:=by
  rcases mE b.size with z | z
  .exfalso;apply d;rw[en];simp[Array.size_eq_zero_iff.mp z]
  .exact z
 refine max_intList (xs:=b) (I.ok.hd l) (e▸F.isList) f λv M P A hk=>?_
 obtain⟨t,rfl⟩:=intItems_at (xs:=b) A;have c:=argBest_gt (numAt b) (b.size-1);obtain⟨E,n⟩:=Hm en (bH c.1 (show b.size-1<b.size by omega));refine⟨.int _,H,I.kept hk,⟨t,rfl⟩,q _ (n▸fJ E) λa x=>?_⟩;obtain⟨j,i,rfl⟩:=List.getElem_of_mem x;have D:j<b.size:=by rw[en] at i;simpa using i
 obtain⟨O,w⟩:=Hm en D;exact w▸c.2 j (by omega)
def Pb (K:nH):V->Aa V->Hp->VK->Prop:=λx b H Q=>∃ (l:Ad) (a:Aa V) (y:V) (j:Nat),x = .ref l/\b=[y]/\dT K H l a/\a.all qR=true/\qR y=true/\j<a.length /\
 (∀ z,a[j]?=some z->pC z y=true)/\(∀ (m:Nat) z,m<j->a[m]?=some z->pC z y=false)/\Q (.int j) H
theorem Tx:xT X "list.index" (Pb X.K):=by
 intro P s σ H x vs v U Q I C p h;obtain⟨l,D,y,j,rfl,rfl,Z,E,S,J,V,W,q⟩:=h;cases C;obtain⟨u,rfl,o⟩:=p.one;obtain⟨a,r,g,T⟩:=I.list Z;have M:=r.length;obtain⟨⟨cls,R,data,sl⟩,N,G,n,hd⟩:=g.isList;simp only at G hd;subst G hd;have O:∀ (i:Nat) (L:i<a.toArray.size),∃ z,D[i]?=some z/\rC y a.toArray[i]=pC z y:=λi L=>by
  have f:i<a.length:=by simpa using L
  have w:D[i]?=some (D[i]'(by omega)):=aE (by omega);obtain⟨B,hw,A⟩:=r.get w;have e:a.toArray[i]=B:=by
   rw[aE f] at hw
   simpa using bO hw
  refine⟨_,w,?_⟩;rw[e];exact Mc A (gI.mp E _ (aL w))
 have c:j<a.toArray.size:=by rw[aW];omega
 have k:sizeLine<2 ^ 63-1:=by decide
 refine kS kZ ⟨_,N,rfl⟩ PySem.F.entry_list_index (PySem.F.args_list_index_2 _ _)
  (SeqAt.list_indexAt l a.toArray n R sl u (rC y) j c (by omega) ?_ ?_) ⟨N,λB hw=>zT o S r E B (by simpa using hw),⟨.int j,H,I.tok _,⟨_,rfl⟩,q⟩⟩
 .obtain⟨z,b,d⟩:=O j c;show rC y a.toArray[j]=true;rw[d];exact V z b
 .intro m Y t;obtain⟨z,b,d⟩:=O m Y;show rC y a.toArray[m]=false;rw[d];exact W m z t b
theorem K0:∀ {j:Aa Af}{g:Aa Ac},nN (j.map V.str) g->StrsAre g j:=by
 intro j;induction j with
 | nil=>intro g r;cases r;exact .nil
 | cons y r c =>
  intro g h;cases h with
  | cons a b =>
   obtain⟨t,rfl⟩:=a;exact .cons _ _ (c b)
def X0 (K:nH):V->Aa V->Hp->VK->Prop:=λx b H Q=>∃ (z:Af) (l:Ad) (a:Aa Af),x = .str z/\b=[.ref l]/\(dT K H l (a.map V.str)\/nY K H l (a.map V.str)) /\
 (a.map (·.length)).sum+a.length*z.length<=16777216/\Q (.str (Txt.join z a)) H
theorem Wm:xT X "str.join" (X0 X.K):=by
 intro e s B H x y v w Q I m i h;obtain⟨z,l,A,rfl,rfl,a,d,q⟩:=h;obtain⟨t,rfl⟩:=m;obtain⟨u,rfl,f⟩:=i.one;cases f;rcases a with a | a
 .obtain⟨b,r,c,_⟩:=I.list a;exact join_list c.isList (by simpa using K0 r) d λn k=>⟨.str _,H,I.tok _,⟨_,rfl⟩,q⟩
 .obtain⟨b,r,c,_⟩:=I.tuple a;exact join_tuple c (by simpa using K0 r) d λn k=>⟨.str _,H,I.tok _,⟨_,rfl⟩,q⟩
end
mutual
inductive DatV (K:nH) (H:Hp):V->PyData->Prop where
 | e:DatV K H .e .none
 | b (b:Bool):DatV K H (.b b) (.bool b)
 | int (i:Int):DatV K H (.int i) (.int i)
 | str (x:Str):DatV K H (.str x) (.str x)
 | l {a:Addr} {xs:List V} {ds:List PyData}:dT K H a xs->DatVs K H xs ds->DatV K H (.ref a) (.list ds)
 | t {a:Addr} {xs:List V} {ds:List PyData}:nY K H a xs->DatVs K H xs ds->DatV K H (.ref a) (.tuple ds)
inductive DatVs (K:nH) (H:Hp):List V->List PyData->Prop where
 | nil:DatVs K H [] []
 | cons {x:V} {d:PyData} {xs:List V} {ds:List PyData}:DatV K H x d->DatVs K H xs ds->DatVs K H (x::xs) (d::ds)
end
section
variable {X:Cx}
mutual
theorem DatV.reads (I:Inv X g j H s):∀ {x:V}{d:PyData}{u:Ac},DatV X.K H x d->nM x u->∃ as,Reads s.heap u d as
 | _,_,_,.e,r=>by cases r;exact⟨_,.none⟩
 | _,_,_,.b b,r=>by cases r;exact⟨_,.bool b⟩
 | _,_,_,.int i,r=>by obtain⟨t,rfl⟩:=r;exact⟨_,.int i t⟩
 | _,_,_,.str x,r=>by obtain⟨t,rfl⟩:=r;exact⟨_,.str x t⟩
 | _,_,_,.l a f,r=>by
  cases r;obtain⟨k,m,⟨o,n,e,c,_,d⟩,_⟩:=I.list a;obtain⟨as,h⟩:=DatVs.reads I f m;exact⟨_,.list e c d (by simpa using h)⟩
 | _,_,_,.t a f,r=>by
  cases r;obtain⟨k,m,⟨o,e,c,n,d⟩,_⟩:=I.tuple a;obtain⟨as,h⟩:=DatVs.reads I f m;exact⟨_,.tuple e c d (by simpa using h)⟩
theorem DatVs.reads (I:Inv X j p H s):∀ {o:Aa V}{g:Aa PyData}{l:Aa Ac},DatVs X.K H o g->nN o l->∃ as,ReadsAll s.heap l g as
 | _,_,_,.nil,.nil=>⟨_,.nil⟩
 | _,_,_,.cons h c,.cons r d=>by
  obtain⟨as,a⟩:=DatV.reads I h r;obtain⟨bs,b⟩:=DatVs.reads I c d;exact⟨_,.cons a b⟩
end
end
section
variable {X:Cx}
def Qi (K:nH) (neg:Bool):R2:=λx y H Q=>∃ a c,DatV K H x a/\DatV K H y c/\a.canLay0=true/\c.canLay0=true/\min a.depth c.depth<=60/\Q (.b (if neg then !PyData.eqv a c else PyData.eqv a c)) H
theorem AE (g:X.A.units+64<cLine):nZ X (compareOp .NotEq) (Qi X.K true):=by
 intro a s B H x y v u Q I m n h;obtain⟨t,w,c,d,e,f,z,q⟩:=h;obtain⟨as,i⟩:=c.reads I m;obtain⟨bs,k⟩:=d.reads I n;exact SeqAt.compareNe_reads i k e f (by omega) ⟨.b _,H,I,rfl,q⟩
def Gf (K:nH) (neg:Bool):R2:=λx y H Q=>∃ (a b:Ad) (c:Aa V),x = .ref a/\y = .ref b/\dT K H a c/\dT K H b []/\Q (.b (if neg then !c.isEmpty else c.isEmpty)) H
theorem Ja (g:X.A.units+64<cLine):nZ X (compareOp .Eq) (Gf X.K false):=by
 intro c s M H x y v u Q I F G h;obtain⟨a,b,L,rfl,rfl,f,z,q⟩:=h;cases F;cases G;obtain⟨B,D,m,_⟩:=I.list f;obtain⟨k,E,n,_⟩:=I.list z;cases E;have t:∀ d,d=L.isEmpty->EP X c M Q (.bool d) s:=λd e=>⟨.b d,H,I,rfl,by subst e;exact q⟩
 cases D with
 | nil=>exact SeqAt.RcAt.lists (e:=λ_=>true) m.isList n.isList rfl (by omega) (λi f _=>by simp at f) X.prog X.w _ _ (t _ (by simp))
 | cons r N=>exact SeqAt.RcAt.lists_lengths m.isList n.isList (by simp) (by omega) X.prog X.w _ _ (t _ rfl)
end
end L2
namespace L2
open PySem PySem.Spec PyProof.Rows
section
variable {X:Cx}
def tX (z:Af) (lo g:Ab Int):Af:=⟨((z.cps.toList.drop (HT.sIx z.length 0 lo)).take (HT.sIx z.length z.length g-HT.sIx z.length 0 lo)).toArray⟩
theorem KH (lo g:Ab Int) (n:Nat):Builtin.Str.strSliceIndices lo g 1 n=(List.range (HT.sIx n n g-HT.sIx n 0 lo)).map (HT.sIx n 0 lo+·):=by
 unfold Builtin.Str.strSliceIndices;rw[<- sliceRange_one];have c:∀ (v:Ab Int) (d:Nat),d<=n->(match v with | none=>((d:Nat):Int) | some i=>if (1:Int)>0 then max 0 (min (if i<0 then i+(n:Int) else i) (n:Int)) else max (-1) (min (if i<0 then i+(n:Int) else i) ((n:Int)-1)))=((HT.sIx n d v:Nat):Int):=by
  intro v d hd;cases v with
  | none=>rfl
  | some i =>
   simp only[HT.sIx,show (1:Int)>0 by decide,hU];by_cases h:i<0
   .simp only[h,hU]<;>omega
   .simp only[h,fO]<;>omega
 have a:=c lo 0 (cG _);have b:=c g n (aU _);simp only[show (1:Int)>0 by decide,hU] at a b |-;rw[<- a,<- b];cases lo<;>cases g<;>rfl
def Rb:V->Ab Int->Ab Int->Hp->VK->Prop:=λx lo a H Q=>∃ z:Af,x = .str z/\z.length<=sizeLine/\Q (.str (tX z lo a)) H
theorem Po (p:IsPart v o):∃ l:Ab (Int×Tok),v=partValue l/\o=l.map (·.1):=by
 cases p with
 | none=>exact⟨none,rfl,rfl⟩
 | int i t=>exact⟨some (i,t),rfl,rfl⟩
theorem xF (z:Af):z.cps.toList.length=z.length:=by
 rw[eV];rfl
theorem FI {a b:Af}(h:a.cps.toList=b.cps.toList):a=b:=by
 obtain⟨a⟩:=a;obtain⟨b⟩:=b
 congr
 exact Array.toList_inj.mp h
theorem Im:uT X Rb:=by
 intro c s K H x v E G lo B sl Q I A n w y h;obtain⟨z,rfl,D,q⟩:=h;obtain⟨t,rfl⟩:=A;obtain⟨l,rfl,rfl⟩:=Po w;obtain⟨u,rfl,rfl⟩:=Po y;refine⟨"str",_,PySem.F.slot_str_getitem.lookup,typeIs_str _ z t,?_⟩;refine wpAny_getItem_str_slice (l:=l) (u:=u) (st:=none) n rfl ?_;have e:slicePicked z l u none=(List.range (HT.sIx z.length z.length (u.map (·.1))-HT.sIx z.length 0 (l.map (·.1)))).map (HT.sIx z.length 0 (l.map (·.1))+·):=KH _ _ _;have d:(⟨((slicePicked z l u none).filterMap (z.cps[·]?)).toArray⟩:Af)=tX z (l.map (·.1)) (u.map (·.1)):=by
  rw[e,pick_run];rfl
 have m:=HT.sIx_le z.length z.length (aU _) (u.map (·.1));have b:=HT.sIx_le z.length 0 (cG _) (l.map (·.1));unfold sliceMade;split
 .rename_i k
  have a:(slicePicked z l u none).length=z.length:=by
   have:=(cH _ _).mp k;exact eq_of_beq this.2
  have f:tX z (l.map (·.1)) (u.map (·.1))=z:=by
   rw[e,aA,cA] at a;apply FI;show ((z.cps.toList.drop _).take _)=z.cps.toList;have i:HT.sIx z.length 0 (l.map (·.1))=0:=by omega
   rw[i] at a |-;rw[List.drop_zero,bI];rw[xF];omega
  rw[f] at q;exact⟨.str z,H,I,⟨t,rfl⟩,q⟩
 .rw[d];refine⟨?_,.str _,H,I.tok _,⟨_,rfl⟩,q⟩;have:(tX z (l.map (·.1)) (u.map (·.1))).length<=z.length:=by
   show ((z.cps.toList.drop _).take _).toArray.size<=_;rw[aW,bN,dB,xF];omega
  omega
theorem Nq:oQ X (.type "dict") (λj H Q=>∃ (a:Ad) (g:Aa (gV×V)),j=[.ref a]/\Rd H a (.k g)/\∀ p,H p=none->Q (.ref p) (upd H p (.k g))):=by
 intro b s n H j m Q I r h;obtain⟨a,g,rfl,d,q⟩:=h;obtain⟨u,rfl,f⟩:=qZ r;cases f;exact JT I d λp i e c=>⟨.ref p,_,c,rfl,q p e⟩
theorem LU (I:KV g C) (j:(g.map (·.1)).Nodup) :
  ∀ (r:Aa (gV×V)) (o:Aa (gV×Ac)),KV r o->(∀ p∈r,p∈g)->(∀ p∈r,qR p.2=true/\pC p.2 p.2=true)->PySem.W.KeqHits A s C o true:=by
 intro r;induction r with
 | nil=>intro o h _ _;cases h;exact .nil
 | cons p r x =>
  intro o h c i;cases h with
  | cons t u =>
   rename_i q d
   obtain⟨k,v⟩:=p;obtain⟨D,K⟩:=q;obtain⟨e,G⟩:=t;have e:k=D:=e;subst e;have w:qM g k=some v:=by
    have b:=c (k,v) aF;have:∀ (l:Aa (gV×V)),(l.map (·.1)).Nodup->(k,v)∈l->qM l k=some v:=by
     intro l;induction l with
     | nil=>intro _ h;cases h
     | cons a l B =>
      intro j c;have j:(a.1::l.map (·.1)).Nodup:=j;obtain⟨E,F⟩:=bM.mp j;rcases aI.mp c with z | z
      .subst z;exact Ai rfl
      .rw[Bz (λe=>E (by rw[e];exact aM.mpr ⟨_,z,rfl⟩))];exact B F z
    exact this g j b
   have m:=I.val k;rw[w] at m;obtain⟨y,n,H⟩:=m.some_of;obtain⟨f1,f2⟩:=i (k,v) aF;have f:SeqAt.EqAt A s K y (pC v v):=I0 G H f1 f1;rw[f2] at f;have:=PySem.W.KeqHits.hit n f (x d u (λp b=>c p (aH _ b)) λp b=>i p (aH _ b))
   simpa using this
theorem Yo:oQ X (.builtin "isinstance") (λj H Q=>∃ (x c:V) (t g:Ac) (b:Bool),j=[x,c]/\nM c g/\TyOf X.K H x t/\PySem.W.kitOne X.K t g=some b/\Q (.b b) H):=by
 intro k s A H j y Q I r h;obtain⟨x,c,t,g,b,rfl,d,ty,e,q⟩:=h;obtain⟨u,v,rfl,m,f⟩:=Bp r;have:v=g:=by
  cases c with
  | ref a=>cases d;cases f;rfl
  | ty n=>cases d;cases f;rfl
  | e=>cases d;cases f;rfl
  | b b=>cases d;cases f;rfl
  | int i=>obtain⟨z,rfl⟩:=d;exact absurd e (by unfold PySem.W.kitOne PySem.W.kitCls;cases ty<;>simp)
  | str i=>obtain⟨z,rfl⟩:=d;exact absurd e (by unfold PySem.W.kitOne PySem.W.kitCls;cases ty<;>simp)
  | byt i=>obtain⟨z,rfl⟩:=d;exact absurd e (by unfold PySem.W.kitOne PySem.W.kitCls;cases ty<;>simp)
  | flt i=>obtain⟨z,rfl⟩:=d;exact absurd e (by unfold PySem.W.kitOne PySem.W.kitCls;cases ty<;>simp)
 subst this;exact EU I m ty e λw=>⟨.b b,H,I.tok _,rfl,q⟩
end
def vF (z:Af):It:=⟨λi _=>i<z.length,λi H x a=>a=H/\∃ c,z.cps[i]?=some c/\x = .str ⟨#[c]⟩,λi _=>z.length<=i⟩
theorem Ua {P:Ah}{K:nH}(z:Af) (t:Tok) (it:Ad):Turn P w K tg (vF z) [it] it (λi h=>h.IsStrIter it "str_ascii_iterator" z t i) where
 mem:=by simp
 obj:=λi h st b hb=>by
  have e:b=it:=by simpa using hb
  subst e;obtain⟨o,e,c,d⟩:=st;exact⟨o,e,λv z=>by rw[d] at z;cases z⟩
 keep:=λi h h' st k=>by
  obtain⟨o,e,r⟩:=st;exact⟨o,k it (by simp) o e,r⟩
 item:=by
  intro X hP hw hK hc i pins s σ H E I hf st hg;subst hP hw hK;have hg:i<z.length:=hg;obtain⟨f0,f1,f2,f3,f4,f5⟩:=hf it (by simp);have hz:z.cps[i]?=some (z.cps[i]'hg):=cJ hg;refine wpAny_pyNext_ascii_item st hz λh' st' sb=>?_
  have I1:Inv X pins σ H { s with heap:=h',toks:=s.toks+1 }:=I.turned (t':=s.toks+1) (λb o hb e=>(sb.2 b hb).trans e) f0 f1 f3 f4 f5;obtain⟨o,e,c,d⟩:=id st';exact⟨_,rfl,Dc (s:={ s with heap:=h',toks:=s.toks+1 }) e c d (by decide) ⟨.str ⟨#[z.cps[i]'hg]⟩,H,I1,⟨_,rfl⟩,⟨rfl,_,hz,rfl⟩,st',λb hb=>(hf b hb).1⟩⟩
 done:=by
  intro X hP hw hK hc i pins s σ H E I hf st hg;subst hP hw hK;have hg:z.length<=i:=hg;obtain⟨f0,f1,f2,f3,f4,f5⟩:=hf it (by simp);exact wpAny_pyNext_ascii_end (I.ok.hd hc) st (jK (by exact hg)) λh' eb=>⟨rfl,I.turned (t':=s.toks) (λb o hb e=>eb b o hb e) f0 f1 f3 f4 f5⟩
 self:=λ_ _ _ _ _ st h=>wpAny_pyIter_striter_ascii st h
section
variable {X:Cx}
def GO (g:TE):TI:=λb H R=>g b H λx a=>∃ z:Af,x = .str z/\z.cps.all (·<128)=true/\R (vF z) a
theorem V1 (g:PE X l j):PI X o l (GO j):=by
 intro a s k H R I h;refine nJ (g a s k H _ I h) λv c f=>?_
 obtain⟨x,i,d,y,z,n,u,q⟩:=f;subst n;obtain⟨t,rfl⟩:=y;refine wpAny_pyIter_ascii u ?_;have m:Inv X a k i { c with heap:=c.heap.push { cls:=.type "str_ascii_iterator",data:=.fields #[.str z t,.int 0 0] } }:=d.kept (t':=c.toks) λb A q=>aK _ q
 refine⟨c.heap.objs.size,[c.heap.objs.size],_,vF z,i,rfl,m,Ua z t _,⟨_,bB _ rfl,rfl,rfl⟩,λb w=>?_,q⟩;have e:b=c.heap.objs.size:=by simpa using w
 subst e;exact d.fpOk (aU _) (d.hok.fresh (aU _))
end
def tW (g:Aa Af) (x:Af):Aa Af:=if x∈g then g else g++[x]
def pH (l:Aa Af):Aa Af:=l.foldl tW []
theorem Kb (l:Aa Af) (x:Af):pH (l++[x])=tW (pH l) x:=by unfold pH;rw[List.foldl_append];rfl
theorem KL (g:Aa Af) (x y:Af):y∈tW g x↔y∈g\/y=x:=by
 unfold tW;split
 .rename_i h
  constructor
  .exact .inl
  .rintro (q | q)
   .exact q
   .rw[q];exact h
 .simp[aT]
theorem Gw (g:Aa Af) (x:Af):(tW g x).length=if x∈g then g.length else g.length+1:=by
 unfold tW;split<;>simp
theorem AL (l:Aa Af):∀ k,(pH (l.take k)).length<=k:=by
 intro k;induction k with
 | zero=>simp[pH]
 | succ k a =>
  rw[bQ];cases e:l[k]? with
  | none=>simp;omega
  | some x =>
   simp only[Option.toList_some];rw[Kb,Gw];split<;>omega
theorem Ya (r:Aa Af):∀ g,g.length<=(r.foldl tW g).length/\(r.foldl tW g).length<=g.length+r.length:=by
 induction r with
 | nil=>intro g;simp
 | cons x r a =>
  intro g;have h:=a (tW g x);rw[Gw] at h;simp only[lV,bY];split at h<;>omega
theorem Z4:∀ (r g:Aa Af),g.Nodup->(r.foldl tW g).length=g.length+r.length->(g++r).Nodup:=by
 intro r;induction r with
 | nil=>intro g h _;simpa using h
 | cons x r d =>
  intro g h e;simp only[lV,bY] at e;have b:=Ya r (tW g x);rw[Gw] at b;by_cases a:x∈g
  .rw[aP a] at b;omega
  .have c:tW g x=g++[x]:=by unfold tW;rw[if_neg a]
   rw[c] at e;have:=d (g++[x]) (Ph h a) (by rw[e];simp;omega)
   simpa using this
theorem DO (h:(pH l).length=l.length):l.Nodup:=by
 have:=Z4 l [] iZ (by simpa [pH] using h)
 simpa using this
theorem Nz {P:Ah}{w:World}{h:Ag}{a:Ad}{S g:Af->Bool}{n j:Nat}(z:h.SetOf (PySem.strKind P w) a S n) (e:∀ k,S k=g k) (en:n=j):h.SetOf (PySem.strKind P w) a g j:=by
 have:S=g:=funext e;subst this en;exact z
section
variable {R:Result->Ae->Prop}{P:Nat->Ac->Prop}{St:Nat->Ae->Prop}
theorem Z9 (W:WalksS g w A.in1 J I C G n P St) (a:Ad) (p:a∉I) (j:Aa Af) (aa:j.length=n) (hp:∀ i v,P i v->∃ x t,j[i]?=some x/\v = .str x t) (r:n+1<scanBound) :
  ∀ (k i:Nat) (s:Ae),n-i=k->i<=n->St i s->s.heap.SetOf (PySem.strKind g w) a (λx=>decide (x∈pH (j.take i))) (pH (j.take i)).length ->
   (∀ l,Moved (a::C) G s l->l.heap.SetOf (PySem.strKind g w) a (λx=>decide (x∈pH j)) (pH j).length->R (.ok (.ret .none)) l) ->
   codeAny (model g w) A (.builtin "set.update.loop" ⟨[.ref a,.ref J],[]⟩) R s:=by
 have h:a∉C:=λz=>p (W.sub _ z)
 have c:∀ b∈C,b∈a::C:=λb z=>aH _ z
 intro k;induction k with
 | zero =>
  intro i s hk U st E L;have Z:i=n:=by omega
  subst Z;rw[bI (by omega)] at E;refine gB kE ?_;rw[eO gY _];show wpAny _ A.in1 (pyNext (.ref J) >>= _) _ _ s;refine aB (W.done s _ _ st λl u=>?_);show wpAny _ A.in1 (ret Value.none) _ _ l;obtain⟨o,H,F,t,Q,rest⟩:=E;exact aD (L l (u.mono c) ⟨o,H,F,t,u.heap a _ h Q,rest⟩)
 | succ k ih =>
  intro i s hk U st E L;have q:i<n:=by omega
  refine gB kE ?_;rw[eO gY _];show wpAny _ A.in1 (pyNext (.ref J) >>= _) _ _ s;refine aB (W.item i s _ _ q st λv l hv V u=>?_);obtain⟨x,t,hx,rfl⟩:=hp i v hv;have M:l.heap.SetOf (PySem.strKind g w) a (λx=>decide (x∈pH (j.take i))) (pH (j.take i)).length:=by
   obtain⟨o,H,F,tb,Q,rest⟩:=E;exact⟨o,H,F,tb,u.heap a _ h Q,rest⟩
  show wpAny _ A.in1 (holding [Value.str x t] (setAdd a (.str x t)) >>= _) _ _ l;refine aB (bW ?_);unfold setAdd;refine bW ?_;have m:(PySem.strKind g w).is x (.str x t)=true:=by simp[PySem.strKind,Value.isStrOf]
  refine aB ((PySem.strKind g w).pyHash (k:=x) m ?_);have d:(pH (j.take i)).length+1<scanBound:=by have:=AL j i;omega
  refine wpAny_setAddHashed_of (knd:=strKind g w) (s:={ l with toks:=l.toks+1 }) m rfl M d λT Y N=>?_
  have X:j.take (i+1)=j.take i++[x]:=by rw[bQ,hx];rfl
  have O:T.SetOf (PySem.strKind g w) a (λx=>decide (x∈pH (j.take (i+1)))) (pH (j.take (i+1))).length:=by
   refine Nz N (λy=>?_) ?_
   .rw[X,Kb];have:=KL (pH (j.take i)) x y;by_cases D:y∈pH (j.take i)<;>by_cases K:y=x<;>simp only[D,K,true_or,or_true,dY,false_or] at this<;>simp[this,D,K]
    all_goals (subst K;simp[this])
   .rw[X,Kb,Gw];by_cases D:x∈pH (j.take i)<;>simp[D]
  refine aD ⟨jQ gY _,ih (i+1) _ (by omega) q (W.frame _ l _ _ V (jI _) λb r o e=>?_) O λS B f=>?_⟩
  .rw[Y.2 b (λz:b=a=>p (by rw[<- z];exact r))];exact e
  .refine L S (Moved.trans W.gtrans ((u.mono c).then_heap (jI _) λb o r e=>?_) B) f;rw[Y.2 b (λz:b=a=>r (by rw[z];exact aF))];exact e
end
end L2
namespace PySem
open PyProof.Rows L2
section
theorem V9
  (fill:∀ g,wpAny (model j w) A.in1.in1 (Builtin.«set.__init__» ⟨[.ref s.heap.objs.size,x],[]⟩) (λf l=>f = .done (.ret .none)/\Q (.ref s.heap.objs.size) l) E { s with heap:=s.heap.push { cls:=.type "set",dict:=none,data:=.set #[] 0 (.fresh 0 0 g) } }) :
  wpAny (model j w) A (call (.type "set") [x]) Q E s:=by
 obtain⟨c,r,d⟩:=F.called_set.mro;refine mX (codeAny_of_tree (aD ⟨Code.quiet_builtin _ (by decide +kernel),gB F.entry_type_call ?_⟩));have b:=F.called_set;have body:wpAny (model j w) A.in1 (Builtin.«type.__call__» ⟨[.type "set",x],[]⟩) (λf l=>match f with | .done f=>wants Q E (.ok f) l | .again h=>h.quiet=true/\codeAny (model j w) A h (wants Q E) l) (λe l=>wants Q E (.error e) l) s:=by
  unfold Builtin.«type.__call__»;dsimp only;rw[b.notType];simp only[dR,fO,b.canCreate];refine aB (jW (F.typeCall_set_1 x) (aB (jW d ?_)));rw[aJ (show ¬ (c::r).isEmpty=true from bD)];refine aB (jW b.made (aB (aD (aB (bW (mX (code_set_new_1 x λg=>?_)))))));have a:Shared.TypeIs { s with heap:=s.heap.push { cls:=.type "set",dict:=none,data:=.set #[] 0 (.fresh 0 0 g) } } (.ref s.heap.objs.size) "set" := ⟨_,bB _ rfl,rfl⟩;refine aB (eE a b.sub ?_);rw[aJ (show ¬ (!true)=true from bD)];refine aB (bW (bX a b.init (mX (codeAny_call_builtin b.init.plain F.entry_set_init (check_set_init_1 a ?_)))));refine dF (fill g) (λf l q=>?_) λ_ _ q=>q
  obtain⟨rfl,q⟩:=q;exact aD q
 exact body
theorem FC {S:Ad}(p:s.heap.IsList l C)
  (o:codeAny (model g w) A (.builtin "set.update.loop" ⟨[.ref S,.ref s.heap.objs.size],[]⟩) (λr j=>match r with | .ok (.ret _)=>Q () j | .ok _=>False | .error e=>E e j) { s with heap:=s.heap.push { cls:=.type "list_iterator",data:=.fields #[.ref l,.int 0 0] } }) :
  wpAny (model g w) A (Builtin.Frozenset.updateFrom "set.__init__" S (.ref l)) Q E s:=by
 have a:wpAny (model g w) A (Builtin.Frozenset.isAnySet (.ref l)) (λb j=>b=false/\j=s) E s :=
  aB (eE p.typeIs F.sub_list_set (eE p.typeIs F.sub_list_frozenset ⟨rfl,rfl⟩))
 refine aB (dF a (λb j q=>?_) λ_ _ q=>q);obtain⟨rfl,rfl⟩:=q;refine aB (hX p.typeIs (aB (iM p (aB (wpAny_runValue ?_)))));exact codeAny_mono o λr j q=>by
  match r,q with
  | .ok (.ret v),q=>exact aD q
  | .error e,q=>exact q
abbrev Dr (g:Bool):Obj:={ cls:=.type "set",dict:=none,data:=.set #[] 0 (.fresh 0 0 g) }
theorem FD {S:Ad}(o:s.heap.get? S=some (Dr g))
  (fill:wpAny (model j w) A (Builtin.Frozenset.updateFrom "set.__init__" S x) (λ_ l=>Q (.done (.ret .none)) l) E s) :
  wpAny (model j w) A (Builtin.«set.__init__» ⟨[.ref S,x],[]⟩) Q E s:=by
 unfold Builtin.«set.__init__»;generalize Builtin.Frozenset.updateFrom=up at fill |-
 wp_walk
 exact dF fill (λ_ _ q=>aD q) λ_ _ q=>q
theorem JI (z:StrsAre g j):j.length=g.length:=by
 induction z with
 | nil=>rfl
 | cons _ _ _ a=>rw[bY,bY,a]
theorem HD (z:StrsAre g j):∀ {i:Nat}{v:Ac},g[i]?=some v->∃ x t,j[i]?=some x/\v = .str x t:=by
 induction z with
 | nil=>intro i v e;cases e
 | cons x t _ a =>
  intro i v e
  match i,e with
  | 0,e=>exact⟨x,t,rfl,(bO e).symm⟩
  | i+1,e=>exact a (i:=i) e
theorem Rf {s g:Ae}(a:g.gens=s.gens) (b:g.drawn=s.drawn) (c:g.os=s.os):g={ s with heap:=g.heap,toks:=g.toks }:=by
 cases s;cases g;cases a;cases b;cases c;rfl
theorem BV (T:A.handled=none) (C:s.heap.IsList l items) (I:StrsAre items.toList p) (J:items.size+1<scanBound)
  (h:∀ (r:Ag) (U:Nat),r.SetOf (PySem.strKind j w) s.heap.objs.size (λx=>decide (x∈pH p)) (pH p).length->(∀ b o,b<s.heap.objs.size->s.heap.get? b=some o->r.get? b=some o) ->Q (.ref s.heap.objs.size) { s with heap:=r,toks:=U }):wpAny (model j w) A (call (.type "set") [.ref l]) Q E s:=by
 refine V9 λg=>FD (bB _ rfl) (FC (C.push _) ?_)
 have two:(s.heap.push (Dr g)).objs.size=s.heap.objs.size+1:=dZ ..;have lt:l<s.heap.objs.size:=by
  obtain⟨o,e,_⟩:=C;exact aV e
 have d:l≠(s.heap.push (Dr g)).objs.size:=by
  rw[two];exact bG (lH lt)
 have f:s.heap.objs.size∉[(s.heap.push (Dr g)).objs.size,l]:=λz=>by
  rw[two] at z;rcases aI.mp z with q | q
  .exact bG (mT _) q
  .exact fS lt (aO.mp q)
 have len:p.length=items.size:=by rw[JI I,eV]
 have item:∀ (i:Nat) (v:Ac),items[i]?=some v->∃ x t,p[i]?=some x/\v = .str x t:=λi v e=>HD I (by rw[dN];exact e)
 have empty:((s.heap.push (Dr g)).push { cls:=.type "list_iterator",data:=.fields #[.ref l,.int 0 0] }).SetOf (PySem.strKind j w) s.heap.objs.size (λx=>decide (x∈pH (p.take 0))) (pH (p.take 0)).length :=
  Nz ((setObjOf_fresh (knd:=PySem.strKind j w) g).setOf (aK _ (bB _ rfl)) (by unfold scanBound;omega)) (λ_=>by simp[pH]) (by simp[pH])
 refine Z9 ((Walks.list (by simp[T]) _ l d items).toS) s.heap.objs.size f p len item J items.size 0 _ (by omega) (cG _) ⟨⟨_,bB _ rfl,rfl,rfl⟩,(C.push _).push _⟩ empty λa c fin=>?_
 have res:=h a.heap a.toks fin λb o k e=>c.heap b o (λz=>?_) (aK _ (aK _ e))
 .rw[show a={ s with heap:=a.heap,toks:=a.toks } from Rf c.gens c.drawn c.os];exact⟨rfl,res⟩
 .rcases aI.mp z with q | q
  .exact bG k q
  .have q:=aO.mp q;rw[two] at q;exact bG (lH k) q
end
end PySem
namespace L2
open PySem PySem.Spec PyProof.Rows
section
variable {X:Cx}
def Av (P:Ah) (w:World) (a:Ad) (n:Nat):HO:=.ext λh=>∃ S,h.SetOf (PySem.strKind P w) a S n
theorem IN (l:X.calm=true):oQ X (.type "set") (λj H Q=>∃ (p:Ad) (g:Aa Af),j=[.ref p]/\dT X.K H p (g.map V.str)/\g.length<=4000/\∀ a,H a=none->Q (.ref a) (upd H a (Av X.prog X.w a (pH g).length))):=by
 intro f s M H j L Q I r h;obtain⟨p,g,rfl,x,G,q⟩:=h;obtain⟨u,rfl,B⟩:=qZ r;cases B;obtain⟨y,i,A,_⟩:=I.list x;have c:=i.length;rw[aA] at c;refine BV (I.ok.hd l) A.isList (by simpa using K0 i) (by rw[aW];unfold scanBound;omega) λv D d hk=>?_
 have hex:∃ o,v.get? s.heap.objs.size=some o:=by obtain⟨o,_,_,_,e,_⟩:=d;exact⟨o,e⟩
 refine⟨.ref s.heap.objs.size,_,I.laid (a:=s.heap.objs.size) (o:=Av X.prog X.w s.heap.objs.size (pH g).length) (t':=D) (λb o e=>hk b o (aV e) e) (aU _) ?_,rfl,q _ I.fresh⟩;refine⟨⟨_,d⟩,hex,λE F ⟨S,z⟩ k=>⟨S,?_⟩⟩;obtain⟨o,n,m,t,e,rest⟩:=z;exact⟨o,n,m,t,k o e,rest⟩
theorem GV:oQ X (.builtin "len") (λg H Q=>∃ (a:Ad) (n:Nat),g=[.ref a]/\H a=some (Av X.prog X.w a n)/\Q (.int n) H):=by
 intro b s y H g x Q I r h;obtain⟨a,n,rfl,f,q⟩:=h;obtain⟨u,rfl,k⟩:=qZ r;cases k;obtain⟨⟨S,o,c,m,t,e,d,hd,_,_,v,i,rfl⟩,_⟩:=I.hok a _ f;refine call_len_set e d hd i ?_ ⟨.int c.size,H,I.tok _,⟨_,rfl⟩,q⟩;have:scanBound=4096:=rfl;omega
end
end L2
namespace PySem
open PyProof.Rows L2
theorem Hh:entryFor table "dict.update.loop" = some Builtin.«dict.update.loop»:=entryFor_of_tree (by kernel_rfl)
theorem xX:plainId "dict.update.loop" = true:=by decide +kernel
theorem Ys:typeLookup (.type "list") "keys" = pure none:=am_miss_of_fast (by decide +kernel)
section
theorem Vn {sl:Array (Ab Ac)}
  (l:s.heap.get? a=some { cls:=.type "list",dict:=none,data:=.seq j n,slots:=sl }) (calm:A.handled=none) (o:∀ p r e,Heap.NewAttrErr s.heap p e (.ref a) "keys" -> E (.ref e) { s with heap:=p,toks:=r }) :
  wpAny (model g w) A (boundAndCalled (.builtin "list.__getattribute__") (.ref a) (.str "keys" u)) Q E s:=by
 have ask:wpAny (model g w) A (call (.builtin "list.__getattribute__") [.ref a,.str "keys" u]) Q E s :=
  kS kH ⟨_,l,rfl⟩ am_entry_list_getattribute (F.args_list_getattribute_2 _ _) (meets_getattribute_miss_list a j n sl "keys" u Ys (by decide +kernel)) ⟨l,calm,o⟩
 unfold boundAndCalled;rw[kH.bind (.ref a)];exact aB (aD ask)
theorem HR (t:s.TypeIs (.ref e) "AttributeError") (j:E (.ref e) s) :
  wpAny (model g w) A (getattributeRaised o name (.type "list") (.ref e) none false false) Q E s:=by
 have last:wpAny (model g w) A (hookOrError o name (.ref e) false false none) Q E s:=aB (wpAny_throw j);have a:hookBehind (.type "list") none=pure none:=am_list_getattr_none;unfold getattributeRaised;refine aB (eE t kT ?_);rw[aP rfl,a];exact aB (aD last)
theorem HV {sl:Array (Ab Ac)}
  (l:s.heap.get? a=some { cls:=.type "list",dict:=none,data:=.seq I n,slots:=sl }) (calm:A.handled=none) (C:∀ j p e,Heap.NewExcOf s.heap j e "AttributeError" -> Q none { s with heap:=j,toks:=p }) :
  wpAny (model g w) A (getAttr? (.ref a) "keys") Q E s:=by
 have c:∀ j p e,Heap.NewAttrErr s.heap j e (.ref a) "keys" -> (∃ o,j.get? e=some o/\o.cls = .type "AttributeError")/\Q none { s with heap:=j,toks:=p }:=λj p e x=>by
  obtain⟨_,_,y⟩:=x.there;exact⟨⟨_,y,rfl⟩,C j p e x.of⟩
 let d:Ae:={ s with toks:=s.toks+1 };let b:Except Ac Ac->Ae->Prop:=λr i=>wpAny (model g w) A (match r with | .ok v=>pure (some v) | .error e=>do if <- isInstance e (.type "AttributeError") then pure none else throw e) Q E i
 have look:wpAny (model g w) A (getAttrBy (.ref a) (.str "keys" s.toks) false) (λv=>b (.ok v)) (λe=>b (.error e)) d:=by
  refine bW (aB (hX (T := "list") ⟨_,l,rfl⟩ (aB (jW kH.lookup ?_))));have own:wpAny (model g w) A (getAttrByItsOwn (.ref a) (.str "keys" s.toks) (.type "list") (.builtin "list.__getattribute__") false false) (λv=>b (.ok v)) (λe=>b (.error e)) d:=by
   refine aB (aD (aB (eZ (bW (Vn (s:=d) l calm λj p e x=>?_)))));obtain⟨⟨o,f,h⟩,q⟩:=c j p e x;exact HR ⟨o,f,h⟩ (aB (eE (T := "AttributeError") ⟨o,f,h⟩ kT (aD q)))
  exact own
 exact aB (wpAny_mkText (aB (eZ look)))
end
section
variable {R:Result->Ae->Prop}{P:Nat->Ac->Prop}{St:Nat->Ae->Prop}
theorem JY (W:WalksS j w A.in1 J fp l G n P St) (d:Ad) (I:d∉fp) (C:Ag) (M:Nat->Ag->Prop) (U:∀ i h p,(∀ b o,b∉l->h.get? b=some o->p.get? b=some o)->M i h->M i p)
  (hT:∀ i v,i<n->P i v->∃ (t:Ad) (o:Obj) (m:Nat) (r x:Ac),v = .ref t/\t∉d::l/\C.get? t=some o/\o.cls = .type "tuple" /\ o.data = .seq #[r,x] m /\ ∀ (s:Ae) (Q:Unit->Ae->Prop) (E:Ac->Ae->Prop),(∀ b o,b∉d::l->C.get? b=some o->s.heap.get? b=some o)->M i s.heap ->(∀ p c,M (i+1) p->Heap.SameBut d s.heap p->Q () { s with heap:=p,toks:=s.toks+c })->wpAny (model j w) A.in1 (dictSet d r x) Q E s) :
  ∀ (k i:Nat) (s:Ae),n-i=k->i<=n->St i s->(∀ b o,b∉d::l->C.get? b=some o->s.heap.get? b=some o)->M i s.heap ->
   (∀ g,Moved (d::l) G s g->M n g.heap->R (.ok (.ret .none)) g) ->
   codeAny (model j w) A (.builtin "dict.update.loop" ⟨[.ref d,.ref J,.int (i:Int) 0,.none],[]⟩) R s:=by
 have q:∀ b∈l,b∈d::l:=λb z=>aH _ z
 intro k;induction k with
 | zero =>
  intro i s hk hi st f L K;have ei:i=n:=by omega
  subst ei;refine gB Hh ?_;rw[eO xX _];show wpAny _ A.in1 (pyNext (.ref J) >>= _) _ _ s;refine aB (W.done s _ _ st λg D=>?_);show wpAny _ A.in1 (Builtin.Dict.addKeywords d [] >>= _) _ _ g;exact aB (aD (aD (K g (D.mono q) (U _ _ _ D.heap L))))
 | succ k ih =>
  intro i s hk hi st f L K;have B:i<n:=by omega
  refine gB Hh ?_;rw[eO xX _];show wpAny _ A.in1 (pyNext (.ref J) >>= _) _ _ s;refine aB (W.item i s _ _ B st λv g hv Z D=>?_);obtain⟨t,o,m,r,x,rfl,ht,V,O,S,put⟩:=hT i v B hv;have a:∀ b o,b∉d::l->C.get? b=some o->g.heap.get? b=some o:=λb o u e=>D.heap b o (λz=>u (q _ z)) (f b o u e)
  have y:=a t o ht V;show wpAny _ A.in1 (holding [Value.ref t] _ >>= _) _ _ g;refine aB (bW ?_);refine aB (wpAny_tryCatch ?_);unfold Builtin.Dict.pairItems;refine aB (hX (T := "tuple") ⟨o,y,O⟩ ?_);rw[aP (by decide)];refine aB (gL y S ?_);refine aD ?_;show wpAny _ A.in1 (holding [r,x] (dictSet d r x)) _ _ g;refine bW (put g _ _ a (U _ _ _ D.heap L) λp c N Y=>?_);refine aD ⟨jQ xX _,?_⟩;have e1:(rawInt ((i:Int)+1))=Value.int ((i+1:Nat):Int) 0:=by rfl
  rw[e1];refine ih (i+1) _ (by omega) B (W.frame _ g _ _ Z (eF _ _) λb u o e=>?_) (λb o u e=>?_) N λX H F=>?_
  .rw[Y.2 b (λz:b=d=>I (by rw[<- z];exact u))];exact e
  .rw[Y.2 b (λz:b=d=>u (by rw[z];exact aF))];exact a b o u e
  .refine K X (Moved.trans W.gtrans ((D.mono q).then_heap (eF _ _) λb o u e=>?_) H) F;rw[Y.2 b (λz:b=d=>u (by rw[z];exact aF))];exact e
end
section
variable {K:Type} [DecidableEq K] {knd:KeyKind prog w K}{A:Around}
abbrev Lm (l:Ad):Obj:={ cls:=.type "list_iterator",data:=.fields #[.ref l,.int 0 0] }
abbrev FX (g:Array Ac) (n:Nat) (sl:Array (Ab Ac)):Obj:={ cls:=.type "list",dict:=none,data:=.seq g n,slots:=sl }
theorem LZ {sl:Array (Ab Ac)}(t:s.TypeIs (.ref d) "dict") (j:s.heap.get? l=some (FX r n sl)) (calm:A.handled=none)
  (C:∀ g o e,Heap.NewExcOf s.heap g e "AttributeError" -> Q (.again (.builtin "dict.update.loop" ⟨[.ref d,.ref g.objs.size,.int 0 0,.none],[]⟩)) { s with heap:=g.push (Lm l),toks:=o }) :
  wpAny (model prog w) A (Builtin.«dict.__init__» ⟨[.ref d,.ref l],[]⟩) Q E s:=by
 have first:wpAny (model prog w) A (Builtin.Dict.selfAndRest "__init__" ⟨[.ref d,.ref l],[]⟩) (λp b=>p=(d,[Value.ref l])/\b=s) E s:=aB (jS t (aD ⟨rfl,rfl⟩))
 have a:wpAny (model prog w) A (Builtin.Dict.updateFrom "dict.__init__" d (.ref l) [] .none) Q E s:=by
  refine aB (hX (T := "list") ⟨_,j,rfl⟩ ?_);rw[aP (by decide)];refine aB (HV j calm λg o e x=>?_);exact aB (gU (aB (iM ⟨_,x.keeps _ _ j,rfl,n,rfl⟩ (aD (C g o e x)))))
 exact aB (dF first (λp b q=>by obtain⟨rfl,rfl⟩:=q;exact a) λ_ _ q=>q)
def yV (s:Ae):Ae:={ s with heap:=s.heap.push { cls:=.type "dict",data:=.dict #[] } }
theorem AR (M:Nat->Ag->Prop) (I:A.handled=none) (C:s.heap.get? l=some o) (hc:o.cls = .type "list") (hd:o.dict=none) (r:o.data = .seq items nl)
  (m0:∀ h:Ag,h.get? s.heap.objs.size=some { cls:=.type "dict",data:=.dict #[] }->M 0 h) (T:∀ i h g,(∀ b o,b<=s.heap.objs.size->h.get? b=some o->g.get? b=some o)->M i h->M i g)
  (U:∀ (i:Nat) v,items[i]?=some v->∃ (t:Ad) (o:Obj) (m:Nat) (p x:Ac),v = .ref t/\s.heap.get? t=some o/\o.cls = .type "tuple" /\ o.data = .seq #[p,x] m /\ ∀ (B:Around) (j:Ae) (Q:Unit->Ae->Prop) (E:Ac->Ae->Prop),(A.units+2<cLine->B.units<cLine)->(∀ b o,s.heap.get? b=some o->j.heap.get? b=some o)->M i j.heap ->(∀ g c,M (i+1) g->Heap.SameBut s.heap.objs.size j.heap g->Q () { j with heap:=g,toks:=j.toks+c })->wpAny (model prog w) B (dictSet s.heap.objs.size p x) Q E j)
  (h:∀ (g:Ag) (J:Nat),M items.size g->(∀ b o,s.heap.get? b=some o->g.get? b=some o)->Q (.ref s.heap.objs.size) { s with heap:=g,toks:=J }) :
  wpAny (model prog w) A (call (.type "dict") [.ref l]) Q E s:=by
 obtain⟨oc,od,Z,aa⟩:=o;cases hc;cases hd;cases r;let D:=s.heap.objs.size;have O:(yV s).heap.get? D=some { cls:=.type "dict",data:=.dict #[] }:=bB _ rfl;have ty:(yV s).TypeIs (.ref D) "dict" := ⟨_,O,rfl⟩;have old:∀ b o,s.heap.get? b=some o->(yV s).heap.get? b=some o:=λb o e=>aK _ e
 refine callType_codes F.kt_called_dict (F.kt_typeCall_dict_1 _) F.entry_dict_init (kt_code_dict_new _ (Q₁:=λv N=>v = .ref D/\N=yV s) ⟨rfl,rfl⟩) λv N q=>?_
 obtain⟨rfl,rfl⟩:=q;refine⟨ty,F.args_dict_init_2 _ _,LZ ty (old _ _ C) (by simp[I]) λu J e x=>⟨jQ xX _,?_⟩⟩;have d:D<u.objs.size:=aV (x.keeps _ _ O);have H:l<D:=aV C;have keeps:∀ b o,s.heap.get? b=some o->(u.push (Lm l)).get? b=some o:=λb o e=>aK _ (x.keeps _ _ (old b o e))
 have a:∀ {b:Ad},b<D->b∉[D,u.objs.size]:=λ{b} G z=>by
  rcases aI.mp z with q | q
  .exact bG G q
  .exact bG (Nat.lt_trans G d) (aO.mp q)
 have n:D∉[u.objs.size,l]:=λz=>by
  rcases aI.mp z with q | q
  .exact bG d q
  .exact fS H (aO.mp q)
 have f:(u.push (Lm l)).IsList l items:=⟨_,keeps _ _ C,rfl,nl,rfl⟩;refine JY ((Walks.list (by simp[I]) u.objs.size l (bG (Nat.lt_trans H d)) items).toS) D n s.heap M (λi h g k m=>T i h g (λb o V e=>k b o (λz=>bG (bH V d) (aO.mp z)) e) m) (λi v _ X=>?_) items.size 0 _ (by omega) (cG _) ⟨⟨_,bB _ rfl,rfl,rfl⟩,f⟩ (λb o _ e=>keeps b o e) (m0 _ (aK _ (x.keeps _ _ O))) λj L fin=>?_
 .obtain⟨t,ot,m,p,y,rfl,P,r1,r2,put⟩:=U i v X;exact⟨t,ot,m,p,y,rfl,a (aV P),P,r1,r2,λN S R Y=>put _ N S R (λW=>by simpa using W) λb o e=>Y b o (a (aV e)) e⟩
 .have res:=h j.heap j.toks fin λb o e=>L.heap b o (a (aV e)) (keeps b o e)
  rw[show j={ s with heap:=j.heap,toks:=j.toks } from Rf L.gens L.drawn L.os];exact⟨rfl,res⟩
theorem Yi (J:A.handled=none) (T:s.heap.get? l=some o) (I:o.cls = .type "list") (hd:o.dict=none) (p:o.data = .seq items nl)
  (hn:more.length=items.size)
  (C:∀ (i:Nat) v,items[i]?=some v->∃ (t:Ad) (o:Obj) (m:Nat) (k:K) (j x:Ac),v = .ref t/\s.heap.get? t=some o/\o.cls = .type "tuple" /\ o.data = .seq #[j,x] m/\knd.is k j=true/\more[i]?=some (k,x)) (U:items.size<=sizeLine)
  (h:∀ (g:Ag) (r:Nat),g.DictOf knd s.heap.objs.size (merged [] more)->(∀ b o,s.heap.get? b=some o->g.get? b=some o)->Q (.ref s.heap.objs.size) { s with heap:=g,toks:=r }) :
  wpAny (model prog w) A (call (.type "dict") [.ref l]) Q E s:=by
 refine AR (λi g=>g.DictOf knd s.heap.objs.size (merged [] (more.take i))) J T I hd p (λn e=>?_) (λi n y k m=>?_) (λi v H=>?_) λg r m=>h g r (by rw[bI (by omega)] at m;exact m)
 .obtain⟨z,f,d,u,rest⟩:=Heap.DictOf.new (knd:=knd) s.heap;cases u.symm.trans (bB _ rfl);exact⟨_,f,d,e,rest⟩
 .obtain⟨z,f,d,u,rest⟩:=m;exact⟨z,f,d,k _ _ (aU _) u,rest⟩
 .obtain⟨t,M,m,L,j,x,rfl,n,y,F,c,a⟩:=C i v H;refine⟨t,M,m,j,x,rfl,n,y,F,λB O Q E _ _ G k=>wpAny_dictSet_pairs (hsz:=?_) c G λg q N=>k g 1 (by rw[merged_take_succ [] more i (L,x) a];exact q) N⟩;have D:=merged_length_le ([]:Aa (K×Ac)) (more.take i);rw[kM,bN] at D;omega
end
end PySem
namespace L2
open PySem PySem.Spec PyProof.Rows
section
variable {X:Cx}
def C3 (H:Hp) (j:Aa Ad) (g:Aa (gV×V)):Prop:=Paired (λt (a:gV×V)=>H t=some (.t [kV a.1,a.2])) j g
theorem JW {P:Ah}(p:oX P w H h):∀ {l:Aa Ad}{g:Aa (gV×V)},C3 H l g->∃ more:Aa (gV×Ac),KV g more /\
  ∀ (i:Nat) t,l[i]?=some t->∃ (o:Obj) (m:Nat) (k:gV) (j x:Ac),h.get? t=some o/\o.cls = .type "tuple" /\ o.data = .seq #[j,x] m/\(oG P w).is k j=true/\more[i]?=some (k,x):=by
 intro l g r;unfold C3 at r;induction r with
 | nil=>exact⟨[],.nil,λi t e=>by simp at e⟩
 | @cons t j l g d G u =>
  obtain⟨more,B,q⟩:=u;obtain⟨z,v,a,⟨o,s,f,n,b⟩,_⟩:=p t _ d;cases a with
  | @cons _ E _ K y a =>
   cases a with
   | @cons _ c _ F A a =>
    cases a;refine⟨(j.1,c)::more,.cons ⟨rfl,A⟩ B,λi D e=>?_⟩;cases i with
    | zero =>
     simp at e;subst e;exact⟨o,n,j.1,E,c,s,f,b,yK y,rfl⟩
    | succ i=>simpa using q i D (by simpa using e)
theorem IF (l:X.calm=true):oQ X (.type "dict") (λC H Q=>∃ (p:Ad) (j:Aa Ad) (g:Aa (gV×V)),C=[.ref p]/\dT X.K H p (j.map V.ref)/\C3 H j g/\g.length<=1000/\∀ d,H d=none->Q (.ref d) (upd H d (.k (rQ [] g)))):=by
 intro E s σ H C us Q I r h;obtain⟨p,j,g,rfl,T,D,hz,q⟩:=h;obtain⟨u,rfl,B⟩:=qZ r;cases B;obtain⟨c,F,⟨o,n,e,L,M,N⟩,_⟩:=I.list T;have f:=F.length;rw[aA] at f;have Y:j.length=g.length:=D.length;obtain⟨more,G,Z⟩:=JW I.hok D;have J:=G.length;have b:∀ (i:Nat) v,c[i]?=some v->∃ t,j[i]?=some t/\v = .ref t:=by
  intro i v y;have hi:i<c.length:=(aG.mp y).1;have:i<j.length:=by omega
  obtain⟨u,hu,B⟩:=F.get (i:=i) (x:=V.ref j[i]) (by simp[this]);rw[hu] at y;cases y;cases B;exact⟨j[i],by simp[this],rfl⟩
 refine Yi (knd:=oG X.prog X.w) (more:=more) (I.ok.hd l) e L M N (by rw[aW];omega) ?_ (by rw[aW];exact eT (bH (show c.length<=1000 by omega) (by decide))) λh' tk W hk=>?_
 .intro i v y;obtain⟨t,U,rfl⟩:=b i v (by simpa using y);obtain⟨o,m,k,kv,x,z,O,P,R,S⟩:=Z i t U;exact⟨t,o,m,k,kv,x,rfl,z,O,P,R,S⟩
 .have A:(rQ [] g).length<=sizeLine:=by
   have z:=El g [];rw[kM] at z;exact eT (bH (show (rQ [] g).length<=1000 by omega) (by decide))
  refine⟨.ref s.heap.objs.size,_,I.laid (a:=s.heap.objs.size) (o:=.k (rQ [] g)) (t':=tk) hk (aU _) ?_,rfl,q _ I.fresh⟩;exact Cs A (cY.mpr (fB (bG I.big))) (G.merge .nil) W
end
noncomputable def Ip (o:Ab Af) (N:Aa Af) (kind:Af->Ab NameKind) (g:Scope) (T j:Aa Af) (l:Aa Nat):Bool :=
 decide (g.names.filter (λp=>p.2 == .cell)=o.toList.map λn=>(n,NameKind.cell))&&o.all (λa=>g.names.lookup a == some .cell)&&g.names.all (λp=>p.2 != .free||kind p.1 == some .cell) &&
 g.names.all (λp=>p.2 != .local||g.names.lookup p.1 == some .local) &&
 (j.zip l).all (λp=>decide (N[p.2]?=some p.1)&&g.names.lookup p.1 == some .free)&&j.length == l.length
abbrev zX:=Ip none
noncomputable def sD (T:Aa Af) (g:Aa Nat) (j:St):St:=T.map (λ_=>none)++g.map (λi=>(j[i]?).join)
noncomputable def rN (X:Cx) (o:Aa Af) (g:Scope) (cl:Aa (Af×Ad)) (C:Ad) (l:Ae) (j:Hp) (p:Aa Ad):Cx :=
 { prog:=X.prog,w:=X.w,K:=X.K,mg:=X.mg,base:=X.base,A:=X.A,N:=o,s₀:=l,H₀:=j,env:=compEnvC g cl C X.env,outer:=X.stack,stack:=X.stack,ex:=p, fn:=λx=>(cl.lookup x).isNone,calm:=X.calm,pn:=[],xe:=λ_ _=>False }
def vG (X:Cx) (g:Aa Expr) (t:TT):Prop :=
 ∀ (a:Aa (Ad×Obj)) (s:Ae) (b:St) (H:Hp) (Q:Bool->Hp->Prop),Inv X a b H s->t b H Q ->
  wpAny (model X.prog X.w) X.A (forIn g true λc r=>if r=true then do let ok <- isTrue c X.env (eval c X.env);pure (ForInStep.yield ok) else pure (ForInStep.yield r)) (TP X a b Q) X.xe s
def Gi:TT:=λ_ H Q=>Q true H
theorem Dj {X:Cx}:vG X [] Gi:=λa s b H Q I h=>wpAny_tests_nil ⟨H,I,h⟩
theorem Uy {X:Cx}(h:PT X c t):vG X [c] t:=λa s b H Q I hw=>wpAny_tests_one (h a s b H Q I hw)
def zW (T:Aa Af) (j:Aa Nat) (J:It) (g:TG) (r:TT) (p:TE) (C:St) (o:Hp) (Q:VK) (D:Ad):Prop :=
 ∃ W:Nat->Nat->Aa V->St->Hp->Prop,(∃ m,W 0 m [] (sD T j C) (upd o D (.l [])))/\∀ i m c h d,W i m c h d ->
  (J.stop i d/\Q (.ref D) d)\/(J.go i d/\∃ (N:St->V->Hp->Prop) (F:St->Hp->Prop),(∀ a v k,N a v k->k D=some (.l c)/\c.length<sizeLine/\∃ f,f<m/\W (i+1) f (c++[v]) a (upd k D (.l (c++[v]))))/\(∀ a e,F a e->∃ f,f<m/\W (i+1) f c a e) /\ ∀ x n,J.yld i d x n->g x h n λa q=>r a q λb e=>if b=true then p a e (N a) else F a e)
def Cv (T:Aa Af) (j:Aa Nat) (p:TI) (g:TG) (o:TT) (l:TE):TE:=λb H Q=>p b H λJ a=>∀ D,a D=none->zW T j J g o l b a Q D
theorem Ko:∀ (names:Aa (Af×NameKind)) (g:Aa (Af×Ad)),(∀ p∈names,p.2 = .free->∃ c,env.cells.lookup p.1=some c) ->
  (∀ x c,g.lookup x=some c->env.cells.lookup x=some c) ->
  ∃ cl,(forIn names g λx r=>if (x.2 == NameKind.free)=true then (cellOf env x.1 >>= λa=>pure (ForInStep.yield ((x.1,a)::r))) else pure (ForInStep.yield r):Sem (Aa (Af×Ad)))=pure cl /\
   (∀ x c,cl.lookup x=some c->env.cells.lookup x=some c)/\(∀ x,(x,NameKind.free)∈names->(cl.lookup x).isSome=true)/\(∀ x,(g.lookup x).isSome=true->(cl.lookup x).isSome=true)
 | [],g,_,i=>⟨g,rfl,i,λx h=>by simp at h,λ_ h=>h⟩
 | (n,k)::r,g,v,i=>by
  by_cases hk:k = .free
  .subst hk;obtain⟨c,y⟩:=v (n,.free) aF rfl;have u:∀ x d,((n,c)::g).lookup x=some d->env.cells.lookup x=some d:=by
    intro x d h;rw[dQ] at h;cases e:x == n with
    | true=>rw[e] at h;have:=kQ.mp e;subst this;cases h;exact y
    | false=>rw[e] at h;exact i x d h
   obtain⟨cl,m,s,t,f⟩:=Ko r ((n,c)::g) (λp w=>v p (aH _ w)) u;have z:(((n,c)::g).lookup n).isSome=true:=by rw[dQ];simp
   refine⟨cl,?_,s,λx b=>?_,λx b=>f x ?_⟩
   .rw[lW];simp only[lP,hU];have:cellOf env n=pure c:=by unfold cellOf;rw[y]
    rw[this];exact m
   .rcases aI.mp b with q | q
    .cases q;exact f _ z
    .exact t x q
   .rw[dQ];cases e:x == n with
    | true=>rfl
    | false=>exact b
  .obtain⟨cl,m,s,t,f⟩:=Ko r g (λp w=>v p (aH _ w)) i;refine⟨cl,?_,s,λx b=>?_,f⟩
   .rw[lW];have:(k == NameKind.free)=false:=by simpa using hk
    simp only[this,dR,fO];exact m
   .rcases aI.mp b with q | q
    .cases q;exact absurd rfl hk
    .exact t x q
theorem Xd (l:∀ p∈g.names,p.2 = .free->∃ c,j.cells.lookup p.1=some c) :
  ∃ cl,closureFor g j=pure cl/\(∀ x c,cl.lookup x=some c->j.cells.lookup x=some c)/\(∀ x,(x,NameKind.free)∈g.names->(cl.lookup x).isSome=true):=by
 obtain⟨cl,e,d,f,_⟩:=Ko (env:=j) g.names [] l (λx c h=>by simp at h);refine⟨cl,?_,d,f⟩;simp only[closureFor];have b:(forIn g.names [] λx r=>if (x.2 == NameKind.free)=true then (cellOf j x.1 >>= λa=>pure (ForInStep.yield ((x.1,a)::r))) else pure (ForInStep.yield r):Sem (Aa (Af×Ad)))=pure cl:=e
 first
  | exact b
  | (simp only[bind_pure];exact b)
theorem BX (h:g.names.lookup x=some k):∃ j,(relabel g env).names.lookup x=some j/\(j=k\/(k = .free/\j = .cell)):=by
 have:∀ names:Aa (Af×NameKind),names.lookup x=some k->∃ j,(names.map λ(p:Af×NameKind)=>match p with | (n,k)=>if (k == NameKind.free&&env.scope.kind == .function&&env.kindOf n == some .cell) then (n,NameKind.cell) else (n,k)).lookup x=some j/\(j=k\/(k = .free/\j = .cell)):=by
  intro names;induction names with
  | nil=>intro h;simp at h
  | cons p r b =>
   obtain⟨n,c⟩:=p;intro h;rw[aN];by_cases a:(c == NameKind.free&&env.scope.kind == .function&&env.kindOf n == some .cell)=true
   .simp only[a,hU];rw[dQ] at h |-;cases e:x == n with
    | true =>
     rw[e] at h;cases h;have:k=NameKind.free:=by
      have:=(cH _ _).mp ((cH _ _).mp a).1;exact kQ.mp this.1
     exact⟨_,rfl,.inr ⟨this,rfl⟩⟩
    | false=>rw[e] at h;exact b h
   .simp only[a,fO];rw[aJ (by simp)];rw[dQ] at h |-;cases e:x == n with
    | true=>rw[e] at h;cases h;exact⟨_,rfl,.inl rfl⟩
    | false=>rw[e] at h;exact b h
 exact this g.names h
theorem AM {R:Result->Ae->Prop}{iter:Expr}(I:Nat->Ae->Prop)
  (ae:∀ n s,I n s->wpAny (model g w) A (pyNext it) (λr l=>match r with
   | none=>R (.ok .next) l
   | some v=>wpAny (model g w) A (letOwnedTupleGo target it v) (λ_ o=>wpAny (model g w) A (assign target j v) (λ_ C =>
     wpAny (model g w) A (forIn ac true λc r=>if r=true then do let ok <- isTrue c j (eval c j);pure (ForInStep.yield ok) else pure (ForInStep.yield r)) (λok p =>if ok=true then wpAny (model g w) A (eval ab j) (λx J =>wpAny (model g w) A (call (.builtin "list.append") [aa,x]) (λ_ T=>∃ m,m<n/\I m T) (λ_ _=>False) J) (λ_ _=>False) p else ∃ m,m<n/\I m p) (λ_ _=>False) C) (λ_ _=>False) o) (λ_ _=>False) l) (λ_ _=>False) s)
  (n:Nat) (h:I n s) :
  codeAny (model g w) A (.compLoop (.ListComp ab [⟨target,iter,ac,0⟩] U pos) 0 it aa j) R s:=by
 refine codeAny_loop rfl I (λn s q=>?_) n h;show wpAny _ A ((compTurn (.ListComp ab [⟨target,iter,ac,0⟩] U pos) 0 it aa j).onRaise (λx=>do noteFrame x j;theTreesLotGoes x)) _ _ s;refine wpAny_noted ?_;rw[compTurn_list];refine aB (mP (aB (dF (ae n s q) (λr l b=>?_) λ_ _ a=>a.elim)));cases r with
 | none=>exact aD b
 | some v =>
  refine aB (dF b (λ_ o e=>?_) λ_ _ a=>a.elim);refine aB (dF e (λ_ C f=>aB (dF f (λok p d=>?_) λ_ _ a=>a.elim)) λ_ _ a=>a.elim);cases ok with
  | false=>exact aD ⟨rfl,d⟩
  | true =>
   exact aB (aB (dF d (λx J i=>aB (dF i (λ_ T k=>aD (aD ⟨rfl,k⟩)) λ_ _ a=>a.elim)) λ_ _ a=>a.elim))
structure LcO (nw:Option Str) (N:List Str) (kind:Str->Option NameKind) (scope:Scope) (capN:List Str) (caps:List Nat):Prop where
 one:scope.names.filter (λp=>p.2 == .cell)=nw.toList.map λn=>(n,NameKind.cell)
 cel:∀ nm,nw=some nm->scope.names.lookup nm=some .cell
 free:∀ p∈scope.names,p.2 = .free->kind p.1=some .cell
 loc:∀ p∈scope.names,p.2 = .local->scope.names.lookup p.1=some .local
 cap:∀ (j:Nat) (x:Str),capN[j]?=some x->∃ i:Nat,caps[j]?=some i/\N[i]?=some x/\scope.names.lookup x=some .free
 len:capN.length=caps.length
theorem Us (h:Ip r N kind o T l g=true):LcO r N kind o l g:=by
 unfold Ip at h;simp only[cH] at h;obtain⟨⟨⟨⟨⟨d,c⟩,f⟩,k⟩,m⟩,n⟩:=h;have q:l.length=g.length:=kQ.mp n;refine⟨fP d,λu e=>?_,λp a e=>?_,λp a e=>?_,λj x e=>?_,q⟩
 .rw[e] at c;exact kQ.mp c
 .have:=gI.mp f p a;rw[e] at this
  simpa using this
 .have:=gI.mp k p a;rw[e] at this
  simpa using this
 .have t:j<l.length:=(aG.mp e).1;have b:g[j]?=some (g[j]'(by omega)):=aE (by omega);have s:(x,g[j]'(by omega))∈l.zip g:=aL (i:=j) (by rw[gF];exact⟨e,b⟩);have:=gI.mp m _ s;simp only[cH,decide_eq_true_eq,kQ] at this;exact⟨_,b,this.1,this.2⟩
theorem LcO.only (h:LcO o N kind g j l) (x:Af) (e:g.names.lookup x=some .cell):o=some x:=by
 have a:(x,NameKind.cell)∈g.names.filter (λp=>p.2 == .cell):=bR.mpr ⟨eI e,rfl⟩;rw[h.one] at a;cases o with
 | none=>cases a
 | some n=>rw[(Prod.mk.inj (aO.mp a)).1]
theorem Qz:∀ {g:Scope},(relabel g j).names.lookup x=some k->(k = .cell\/k = .free)->g.names.lookup x=some .cell\/g.names.lookup x=some .free:=by
 intro g;unfold relabel;have all:∀ names:Aa (Af×NameKind),(names.map λ(n,k)=>if (k == NameKind.free&&j.scope.kind == .function&&j.kindOf n == some .cell) then (n,NameKind.cell) else (n,k)).lookup x=some k->(k = .cell\/k = .free)->names.lookup x=some .cell\/names.lookup x=some .free:=by
  intro names;induction names with
  | nil=>intro h _;simp at h
  | cons p r c =>
   intro h hk;obtain⟨n,d⟩:=p;rw[aN] at h;rw[dQ];cases b:x == n with
   | true =>
    by_cases a:(d == NameKind.free&&j.scope.kind == .function&&j.kindOf n == some .cell)=true
    .simp only[cH,kQ] at a;exact .inr (by rw[a.1.1])
    .simp only[a,dR,fO,dQ,b] at h;cases h;rcases hk with q | q
     .exact .inl (by rw[q])
     .exact .inr (by rw[q])
   | false =>
    by_cases a:(d == NameKind.free&&j.scope.kind == .function&&j.kindOf n == some .cell)=true
    .simp only[a,hU,dQ,b] at h;exact c h hk
    .simp only[a,dR,fO,dQ,b] at h;exact c h hk
 exact all g.names
theorem Md:∀ (names:Aa (Af×NameKind)) (n:Nat) (g:Aa (Af×Ad)) (h:Ag),names.filter (λp=>p.2 == .cell)=[]->cellsFrom n names g=g/\pushCells h names=h
 | [],_,_,_,_=>⟨rfl,rfl⟩
 | (y,k)::r,n,g,h,e=>by
  unfold cellsFrom pushCells;by_cases hk:(k == NameKind.cell)=true
  .rw[fL (by exact hk)] at e;cases e
  .rw[gQ (by exact hk)] at e;rw[aJ hk,aJ hk];exact Md r n g h e
theorem M9:∀ (names:Aa (Af×NameKind)) (n:Nat) (g:Aa (Af×Ad)) (h:Ag),names.filter (λp=>p.2 == .cell)=[(j,.cell)]->cellsFrom n names g=(j,n)::g/\pushCells h names=h.push { cls:=.type "cell",data:=.cell none }
 | [],_,_,_,e=>by cases e
 | (y,k)::r,n,g,h,e=>by
  unfold cellsFrom pushCells;by_cases hk:(k == NameKind.cell)=true
  .rw[fL (by exact hk)] at e;have a:=(List.cons.inj e).1;have b:=(List.cons.inj e).2;rw[aP hk,aP hk];have:=Md r (n+1) ((y,n)::g) (h.push { cls:=.type "cell",data:=.cell none }) b;rw[this.1,this.2,(Prod.mk.inj a).1];exact⟨rfl,rfl⟩
  .rw[gQ (by exact hk)] at e;rw[aJ hk,aJ hk];exact M9 r n g h e
def zB (g:Ab Af) (C:Ad):Aa (Af×Ad):=match g with
 | none=>[]
 | some a=>[(a,C+1)]
theorem BJ {globals:Ad}{cl:Aa (Af×Ad)}(one:g.names.filter (λp=>p.2 == .cell)=J.toList.map λn=>(n,NameKind.cell))
  (h:∀ j,j.Ns s.heap.objs.size (λ_=>none)->(∀ I,J=some I->j.IsCell (s.heap.objs.size+1) none)->(∀ b o,s.heap.get? b=some o->j.get? b=some o) ->Q { scope:=g,locals:=s.heap.objs.size,globals:=globals,cells:=zB J s.heap.objs.size++cl,qual:=r,func:=none,code:=l.code,frame:=l.frame,builtins:=l.builtins } { s with heap:=j }) :
  wpAny M A (newFunctionEnv g globals cl [] r none .none (some l)) Q E s:=by
 simp only[newFunctionEnv,mD,hU];refine aB (wpAny_alloc ?_);refine aB (wpAny_layCells _ (λname kind C=>by cases i:kind == NameKind.cell<;>simp[i]) _ _ _ _ ?_);have z:(s.heap.push { cls:=.type "dict",data:=.dict #[] }).objs.size=s.heap.objs.size+1:=dZ ..;have a:=Heap.Ns.new s.heap (.type "dict");show wpAny M A _ Q E _;cases J with
 | none =>
  obtain⟨c,f⟩:=Md g.names (s.heap.push { cls:=.type "dict",data:=.dict #[] }).objs.size cl (s.heap.push { cls:=.type "dict",data:=.dict #[] }) one;rw[c,f];exact aB (aD (aD (h _ a (λ_ e=>nomatch e) λb o e=>aK _ e)))
 | some I =>
  obtain⟨c,f⟩:=M9 g.names (s.heap.push { cls:=.type "dict",data:=.dict #[] }).objs.size cl (s.heap.push { cls:=.type "dict",data:=.dict #[] }) one;have d:cellsFrom ({ s with heap:=s.heap.push { cls:=.type "dict",data:=.dict #[] } }:Ae).heap.objs.size g.names cl=(I,s.heap.objs.size+1)::cl:=by rw[<- z];exact c
  rw[d,f];refine aB (aD (aD (h _ (a.keeps λb o e=>aK _ e) (λ_ _=>?_) λb o e=>aK _ (aK _ e))));exact⟨_,by rw[<- z];exact bB _ rfl,rfl⟩
noncomputable def Z1 (g:Ab Af) (cl:Aa (Af×Ad)):Af->Bool:=match g with
 | none=>λx=>(cl.lookup x).isNone
 | some a=>λx=>x == a||(cl.lookup x).isNone
def uU (o:Ab Af) (X:Cx) (p:Aa Af) (g:Scope) (cl:Aa (Af×Ad)) (C:Ad) (l:Ae) (j:Hp) (r:Aa Ad):Cx :=
 { prog:=X.prog,w:=X.w,K:=X.K,mg:=X.mg,base:=X.base,A:=X.A,N:=p,s₀:=l,H₀:=j,env:=compEnvC g (zB o C++cl) C X.env,outer:=X.stack,stack:=X.stack,ex:=r, fn:=Z1 o cl,calm:=X.calm,pn:=[],xe:=λ_ _=>False }
section
variable {X:Cx}
theorem Inv.moved {t':Nat}{fp:Aa Ad}(I:Inv X g p H s) (j:∀ b∈fp,tN X g H b) (k:∀ b o,b∉fp->s.heap.get? b=some o->l.get? b=some o):Inv X g p H { s with heap:=l,toks:=t' }:=by
 have d:∀ b u,H b=some u->b∉fp:=λb u e z=>by rw[(j b z).1] at e;cases e
 refine I.step (g':=s.gens) (d':=s.drawn) (ch:=fp) (λb f=>⟨(j b f).2.2.2.1,(j b f).2.1,(j b f).2.2.2.2.1,(j b f).2.2.2.2.2⟩) (λb o _ _ a e _=>k b o a e) (λb o _ _ a e _=>⟨o.slots,k b o a e⟩) (λ_ _ _ _ n=>n)
  (λb o a e=>⟨o,k b o a e⟩) (λ_ _ e=>e) (λ_ _ _ e=>e) (λb x e=>⟨#[],by rw[e];simp⟩) (λm t=>?_) (λb u e=>?_) I.bare
 .obtain⟨o,i,h,w,r⟩:=t;exact⟨o,i,h,k _ o (λz=>(j _ z).2.1 rfl) w,r⟩
 .refine (I.hok b u e).stay (λc v a q=>k c v ?_ q) (λ_ q=>q) λ_ _ q=>q
  rcases a with z | z
  .rw[z];exact d b u e
  .exact d c _ z
end
section
variable {X:Cx}
theorem Mo {iter:Expr}(T U:Aa Af) (aa:Aa Nat) (hc:X.calm=true) (hi:PI X tg iter wi)
  (hk:j.kind = .function) (O:LcO nw X.N X.env.kindOf j U aa)
  (hg:∀ ae ab C cl fp,PG (uU nw X (T++U) j cl C ae ab fp) tg g)
  (ht:∀ ae ab C cl fp,vG (uU nw X (T++U) j cl C ae ab fp) af tt)
  (he:∀ ae ab C cl fp,PE (uU nw X (T++U) j cl C ae ab fp) a4 te)
  (hs:∀ x,foldedSetIterable iter X.env x=pure x)
(I:Inv X ac σ H s) (h:Cv T aa wi g tt te σ H Q)
  (fin:∀ (C D:Ad) (s6:Ae) (H5:Hp),Inv X ac σ H5 s6->Q (.ref D) H5->tN X ac H5 C->(∃ m,s6.heap.Ns C m)->compPost (model X.prog X.w) X.A X.xe a2 Qs (.ref D) C (.ok .next) s6) :
  wpAny (model X.prog X.w) X.A (comprehension (.ListComp a4 [⟨tg,iter,af,0⟩] j pos) j X.env (firstIterPos [⟨tg,iter,af,0⟩] pos) (newList []) (firstAsync [⟨tg,iter,af,0⟩]) (firstIter [⟨tg,iter,af,0⟩] X.env) a2) Qs X.xe s:=by
 have ax:∀ p∈j.names,p.2 = .free->∃ c,X.env.cells.lookup p.1=some c:=λp hp e=>I.ok.has p.1 (.inl (O.free p hp e))
 obtain⟨cl,aw,P,a3⟩:=Xd ax;refine wpAny_comprehension_free (use:=a2) rfl hs aw hk O.loc (nJ (hi ac s σ H _ I h) λv s1 h1=>nJ h1 λb4 s2 h2=>?_);obtain⟨it,fp,tn,J,H2,rfl,I2,B,bb,f2,hD⟩:=h2;refine eW ?_;have f:Inv X ac σ (upd H2 s2.heap.objs.size (.l [])) { s2 with heap:=s2.heap.push { cls:=.type "list",data:=.seq ([]:Aa Ac).toArray } }:=I2.lnew (t':=s2.toks) (its:=[]) (ys:=[]) .nil (cG _);have fD:H2 s2.heap.objs.size=none:=I2.fresh;obtain⟨W,⟨m0,w0⟩,ao⟩:=hD s2.heap.objs.size fD;generalize bo:s2.heap.objs.size=D at f fD w0 ao |-;have bz:tn 0 (s2.heap.push { cls:=.type "list",data:=.seq ([]:Aa Ac).toArray }):=B.keep _ _ _ bb λb _ o e=>aK _ e
 have a9:∀ b∈fp,b<D:=λb a=>by
  obtain⟨o,e,_⟩:=B.obj _ _ bb b a;rw[<- bo];exact aV e
 generalize bt:({ s2 with heap:=s2.heap.push { cls:=.type "list",data:=.seq ([]:Aa Ac).toArray } }:Ae)=K at f |-;have ag:tn 0 K.heap:=by rw[<- bt];exact bz
 generalize bp:upd H2 D (.l [])=M at f w0;have f3:∀ b∈fp,tN X ac M b:=λb a=>by
  obtain⟨z0,z⟩:=f2 b a;exact⟨by rw[<- bp,gD (bG (a9 b a))];exact z0,z⟩
 refine BJ O.one (λZ V S old=>?_);have av:M K.heap.objs.size=none:=f.fresh;have ak:M (K.heap.objs.size+1)=none:=f.hok.fresh (jI _);generalize hC:K.heap.objs.size=C at V S av ak |-;have ba:∀ b o,K.heap.get? b=some o->b≠C:=λb o e=>by rw[<- hC];exact bG (aV e)
 have a5:∀ b∈fp,b≠C:=λb a=>by
  obtain⟨o,e,_⟩:=B.obj _ _ ag b a;exact ba b o e
 have a6:∀ b∈fp,b∉uQ X.stack:=λb a z=>by
  rcases aI.mp (f.stkSub b z) with q | q
  .exact (f3 b a).2.1 q
  .exact (f3 b a).2.2.1 q
 have bm:∀ b∈fp,b<C:=λb a=>by
  obtain⟨o,e,_⟩:=B.obj _ _ ag b a;rw[<- hC];exact aV e
 have look:∀ x c,(zB nw C++cl).lookup x=some c->(nw=some x/\c=C+1)\/(nw≠some x/\cl.lookup x=some c):=λx c e=>by
  cases nw with
  | none=>exact .inr ⟨(λz=>nomatch z),e⟩
  | some nm =>
   have e:((nm,C+1)::cl).lookup x=some c:=e;rw[dQ] at e;cases a:x == nm with
   | true=>rw[a] at e;cases e;exact .inl ⟨by rw[kQ.mp a],rfl⟩
   | false=>rw[a] at e;exact .inr ⟨(λz=>by cases z;simp at a),e⟩
 have lift:∀ x c,nw≠some x->cl.lookup x=some c->(zB nw C++cl).lookup x=some c:=λx c n e=>by
  cases nw with
  | none=>exact e
  | some nm =>
   show ((nm,C+1)::cl).lookup x=some c;rw[dQ,show (x == nm)=false from cY.mpr λz=>n (by rw[z])];exact e
 have ai:∀ x c,cl.lookup x=some c->c<C:=λx c e=>by
  obtain⟨v,o,ho,_⟩:=f.cell x c (P x c e);rw[<- hC];exact aV ho
 have aj:∀ b∈fp,∀ x c,(zB nw C++cl).lookup x=some c->c≠b:=λb a x c e=>by
  rcases look x c e with⟨_,q⟩ | ⟨_,q⟩
  .exact λz=>absurd (bm b a) (by rw[<- z,q];exact Nat.not_lt.mpr (jI C))
  .exact (f3 b a).2.2.2.2.1 x c (P x c q)
 have a8:(uU nw X (T++U) j cl C K M fp).Ok:=by
  refine⟨f.ok.mod,hk,f.ok.glob,f.ok.blt,Nat.le_of_eq hC,λx y c R E=>?_,λx hx=>?_,λx c R E=>?_,f.ok.hd,f.ok.frames,.inl rfl,λb a=>⟨a5 b a,λx c e=>aj b a x c e⟩,λb o e=>f.bs b o e,?_,λb o e z=>?_,λb a=>a6 b a,f.stack,f.stkFree⟩
  .rcases look x c R with⟨q1,r1⟩ | ⟨q1,r1⟩
   .rcases look y c E with⟨q2,r2⟩ | ⟨q2,r2⟩
    .exact bO (q1.symm.trans q2)
    .exact absurd (ai y c r2) (by rw[r1];exact Nat.not_lt.mpr (jI C))
   .rcases look y c E with⟨q2,r2⟩ | ⟨q2,r2⟩
    .exact absurd (ai x c r1) (by rw[r2];exact Nat.not_lt.mpr (jI C))
    .exact f.ok.inj x y c (P x c r1) (P y c r2)
  .have bu:(relabel j X.env).names.lookup x=some .cell\/(relabel j X.env).names.lookup x=some .free:=hx;have hf:j.names.lookup x=some .cell\/j.names.lookup x=some .free:=by
    rcases bu with q | q
    .exact Qz q (.inl rfl)
    .exact Qz q (.inr rfl)
   show ∃ c,(zB nw C++cl).lookup x=some c;by_cases a:nw=some x
   .subst a;exact⟨C+1,by show ((x,C+1)::cl).lookup x=_;rw[dQ,lP]⟩
   .rcases hf with q | q
    .exact absurd (O.only x q) a
    .obtain⟨c,e⟩:=eD.mp (a3 x (eI q));exact⟨c,lift x c a e⟩
  .rcases look x c E with⟨q,r⟩ | ⟨q,r⟩
   .show K.heap.objs.size<=c;rw[r,hC];exact jI C
   .cases nw with
    | none =>
     have R:(cl.lookup x).isNone=true:=R;rw[r] at R;cases R
    | some nm =>
     have R:(x == nm||(cl.lookup x).isNone)=true:=R;rw[r,show (x == nm)=false from cY.mpr λz=>q (by rw[z])] at R;cases R
  .exact bF f.ok.bsz f.sz
  .obtain⟨z0,z1,z2,z3,_⟩:=f3 b z;rcases z3 with q | q
   .exact f.ok.noex b o e q
   .exact absurd (aR (aV e) (bF f.ok.bsz q)) (eR _)
 have I4:Inv (uU nw X (T++U) j cl C K M fp) [] (sD T aa σ) M { K with heap:=Z }:=by
  refine⟨a8,rfl,f.bare,Un.kept old,⟨_,V,λi x v R E e3=>?_⟩,λx c e=>?_,av,λx c e=>?_,λp hp=>absurd (show p∈([]:Aa (Ad×Obj)) from hp) (by simp),f.hok.kept old,?_⟩
  .have R:(T++U)[i]?=some x:=R;unfold sD at E;by_cases hi:i<T.length
   .rw[eU (by simpa using hi),aQ] at E;cases q:T[i]? with
    | none=>rw[q] at E;cases E
    | some z=>rw[q] at E;cases E
   .rw[cU (by omega)] at R;rw[cU (by simpa using hi),aQ,aA] at E;obtain⟨k,k1,k2,k3⟩:=O.cap _ x R;rw[k1] at E;have E:(σ[k]?).join=some v:=bO E;have bj:σ[k]?=some (some v):=by
     cases q:σ[k]? with
     | none=>rw[q] at E;cases E
     | some z=>rw[q] at E;exact cL some E
    have Y:X.env.kindOf x=some .cell:=O.free (x,.free) (eI k3) rfl;obtain⟨m,hn,hl⟩:=f.loc;obtain⟨u,r,l⟩:=hl k x v k2 bj (.inr (.inl Y));refine⟨u,r,.inr ⟨?_,?_⟩⟩
    .obtain⟨k',e5,e6⟩:=BX (env:=X.env) k3;rcases e6 with z | ⟨_,z⟩
     .subst z;exact .inr e5
     .subst z;exact .inl e5
    .rcases l with⟨l1,_⟩ | ⟨_,c,e7,o,ay,az⟩
     .rw[Y] at l1;cases l1
     .obtain⟨c',e8⟩:=eD.mp (a3 x (eI k3));have:=P x c' e8;rw[e7] at this;cases this;exact⟨c,lift x c (λz=>by rw[O.cel x z] at k3;cases k3) e8,o,old c o ay,az⟩
  .rcases look x c e with⟨n,q⟩ | ⟨_,q⟩
   .exact⟨none,q▸S x n⟩
   .obtain⟨v,o,ay,az⟩:=f.cell x c (P x c q);exact⟨v,o,old c o ay,az⟩
  .rcases look x c e with⟨_,q⟩ | ⟨_,q⟩
   .exact q▸ak
   .exact f.freeC x c (P x c q)
  .show (sD T aa σ).length=(T++U).length;unfold sD;rw[aZ,aZ,aA,aA,O.len]
 have au:∀ {H':Hp},(∀ b∈fp,H' b=none)->∀ b∈fp,tN (uU nw X (T++U) j cl C K M fp) [] H' b:=λhn b a =>
  ⟨hn b a,a5 b a,a6 b a,.inl a,λx c e=>aj b a x c e,λp hp=>absurd (show p∈([]:Aa (Ad×Obj)) from hp) (by simp)⟩
 have bc:tn 0 Z:=B.keep _ _ _ ag λb _ o e=>old b o e
 have b0:W 0 m0 [] (sD T aa σ) M:=w0;have an:codeAny (model X.prog X.w) X.A (.compLoop (.ListComp a4 [⟨tg,iter,af,0⟩] j pos) 0 (.ref it) (.ref D) (compEnvC j (zB nw C++cl) C X.env))
   (compPost (model X.prog X.w) X.A X.xe a2 Qs (.ref D) C) { K with heap:=Z }:=by
  refine AM (λn s'=>∃ i ys be H',Inv (uU nw X (T++U) j cl C K M fp) [] be H' s'/\tn i s'.heap/\(∀ b∈fp,H' b=none)/\W i n ys be H') ?_ m0 ⟨0,[],sD T aa σ,M,I4,bc,λb a=>(f3 b a).1,b0⟩;rintro n s5 ⟨i,ys,ah,H5,I5,bd,a7,w5⟩;rcases ao i n ys ah H5 w5 with⟨stop,qn⟩ | ⟨go,N,F,hN,hF,step⟩
  .refine nJ (B.done (uU nw X (T++U) j cl C K M fp) rfl rfl rfl hc i [] s5 ah H5 _ I5 (au a7) bd stop) λr s6 t=>?_
   obtain⟨hr,I6⟩:=t;subst hr;obtain⟨m6,br,_⟩:=I6.loc;have bq:H5 C=none:=I6.free;have ub:=I6.base;have a0:=f.fpOk (Nat.le_of_eq hC) av;refine fin C D s6 H5 (Inv.call' (s':=s6) (ch:=fp) f I6.os ?_ I6.hok I6.bare (λb a=>⟨(f3 b a).2.2.2.1,(f3 b a).2.1,(f3 b a).2.2.2.2.1,(f3 b a).2.2.2.2.2⟩)) qn ⟨bq,a0.2⟩ ⟨m6,br⟩;exact⟨λb o q n a hx=>ub.keep b o q n a hx,λb o q n a hx=>ub.slot b o q n a hx,ub.free,λb o q hx=>ub.there b o q hx,ub.tups,ub.frzs,ub.tbls⟩
  .refine nJ (B.item (uU nw X (T++U) j cl C K M fp) rfl rfl rfl hc i [] s5 ah H5 _ I5 (au a7) bd go) λr s6 t=>?_
   obtain⟨u,hr,h6⟩:=t;subst hr;refine nJ h6 λ_ s7 t=>?_
   obtain⟨x,H7,I7,r7,y7,a1,bn⟩:=t;have bh:=I7.pinned (au bn) (B.obj _ _ a1);have G:∀ {L:St} {H8:Hp} {s8:Ae},Inv (uU nw X (T++U) j cl C K M fp) ([]++B3 fp s7.heap) L H8 s8->tn (i+1) s8.heap/\(∀ b∈fp,H8 b=none):=λ{L H8 s8} I8=>by
    refine⟨B.keep _ _ _ a1 λb a o e=>(I8.pin (b,o) (bJ _ (bJ _ (Ho a e)))).1,λb a=>?_⟩;obtain⟨o,e,d⟩:=B.obj _ _ a1 b a;exact (I8.pin (b,o) (bJ _ (bJ _ (Ho a e)))).2.1
   refine nJ (hg K M C cl fp _ s7 ah H7 x u _ bh r7 (step x H7 y7)) λ_ s8 t=>?_
   obtain⟨L,H8,I8,q8⟩:=t;refine nJ (ht K M C cl fp _ s8 L H8 _ I8 q8) λok s9 t=>?_
   obtain⟨H9,I9,q9⟩:=t;cases ok with
   | false =>
    rw[aJ (by simp)] at q9;rw[aJ (by simp)];obtain⟨m',hm,w9⟩:=hF _ _ q9;exact⟨m',hm,i+1,ys,L,H9,I9.unpinned,(G I9).1,(G I9).2,w9⟩
   | true =>
    rw[aP rfl] at q9;rw[aP rfl];refine nJ (he K M C cl fp _ s9 L H9 _ I9 q9) λvv bx t=>?_
    obtain⟨v,bf,bg,bw,bv⟩:=t;obtain⟨bi,b3,m',hm,b1⟩:=hN _ _ _ bv;refine nJ (wA (X:=uU nw X (T++U) j cl C K M fp) _ bx L bf (.ref D) [v] (.ref D) [vv] (λ_ aq=>W (i+1) m' (ys++[v]) L aq) bg rfl (.cons bw .nil) ⟨D,ys,v,rfl,rfl,bi,b3,b1⟩) λ_ b5 t=>?_
    obtain⟨_,aq,ar,_,b2⟩:=t;exact⟨m',hm,i+1,ys++[v],L,aq,ar.unpinned,(G ar).1,(G ar).2,b2⟩
 exact codeAny_compStart_list an (B.self _ 0 _ _ _ bc an)
theorem Vt {D:Ad}(I:Inv X g J j p) (q:Q (.ref D) j) (r:tN X g j C) (l:∃ m,p.heap.Ns C m):compPost (model X.prog X.w) X.A X.xe none (EP X g J Q) (.ref D) C (.ok .next) p:=by
 obtain⟨m,l⟩:=l;refine⟨m,l,λd c=>⟨.ref D,j,I.moved (t':=p.toks) (fp:=[C]) (λb a=>?_) (λb o a e=>?_),rfl,q⟩⟩
 .rw[aO.mp a];exact r
 .exact c.extBut b o (λz=>a (aO.mpr z)) e
theorem Bj {iter:Expr}(T o:Aa Af) (r:Aa Nat) (hc:X.calm=true) (hi:PI X tg iter wi)
  (hk:j.kind = .function) (ho:zX X.N X.env.kindOf j T o r=true)
  (hg:∀ p l C cl J,PG (rN X (T++o) j cl C p l J) tg g)
  (ht:∀ p l C cl J,vG (rN X (T++o) j cl C p l J) aa tt)
  (he:∀ p l C cl J,PE (rN X (T++o) j cl C p l J) U te)
  (hs:∀ x,foldedSetIterable iter X.env x=pure x:=by intro _;rfl) :
  PE X (.ListComp U [⟨tg,iter,aa,0⟩] j pos) (Cv T r wi g tt te):=by
 intro a s e H Q I h;rw[eval_ListComp];exact Mo (nw:=none) T o r hc hi hk (Us ho) hg ht he hs I h λC D d c I q J b=>Vt I q J b
end
structure Yields (J:It) (xs:List V) (R:Hp->Prop):Prop where
 go:∀ i H,i<xs.length->R H->J.go i H
 yld:∀ i H x H',i<xs.length->R H->J.yld i H x H'->H'=H/\xs[i]?=some x
 stop:∀ i H,i=xs.length->R H->J.stop i H
theorem S6 {K:nH}:Yields (wP K a) g (λH=>dT K H a g) :=
 ⟨λi H b r=>⟨g,g[i],r,aE b⟩,λi H x c b r y=>⟨y.1,y.2 g r⟩,λi H e r=>⟨g,r,by omega⟩⟩
theorem S9 {lo:Int}:Yields (uC lo n) ((List.range n).map λ(i:Nat)=>V.int (lo+(i:Int))) (λ_=>True) :=
 ⟨λi H a _=>by simpa [uC] using a,λi H x b a _ y=>⟨y.1,by rw[y.2];simp at a;simp[a]⟩,λi H e _=>by simp[uC,e]⟩
def yZ (z:Af):Aa V:=z.cps.toList.map λc=>V.str ⟨#[c]⟩
theorem CL:Yields (vF z) (yZ z) (λ_=>True) :=
 ⟨λi H a _=>by simpa [vF,yZ,Str.length] using a,
  λi H x d a _ y=>by
   obtain⟨e,c,b,rfl⟩:=y;refine⟨e,?_⟩;unfold yZ;rw[aQ,dN,b];rfl,
  λi H e _=>by simp[vF,e,yZ,Str.length]⟩
def Jj (o:St) (D:Ad) (Pv:Nat->Aa V->Hp->Prop) (i:Nat) (g:Aa V) (j:St):VK:=λv a=>(∃ t,j=t::o)/\a D=some (.l g)/\g.length<sizeLine/\Pv (i+1) (g++[v]) (upd a D (.l (g++[v])))
def Qh (l:St) (Pv:Nat->Aa V->Hp->Prop) (i:Nat) (o:Aa V) (g:St) (j:Hp):Prop:=(∃ t,g=t::l)/\Pv (i+1) o j
theorem S1 {R:Hp->Prop}{D:Ad}(Y:Yields J o R) (Pv:Nat->Aa V->Hp->Prop)
  (U:Pv 0 [] (upd T D (.l []))) (I:∀ i j H,i<=o.length->Pv i j H->R H)
  (hs:∀ i x j H,o[i]?=some x->Pv i j H->tt (some x::g.map (λi=>(r[i]?).join)) H λb C =>if b=true then te (some x::g.map (λi=>(r[i]?).join)) C (Jj (g.map (λi=>(r[i]?).join)) D Pv i j (some x::g.map (λi=>(r[i]?).join))) else Qh (g.map (λi=>(r[i]?).join)) Pv i j (some x::g.map (λi=>(r[i]?).join)) C)
  (hd:∀ j H,Pv o.length j H->Q (.ref D) H):zW [nm] g J (yW 0) tt te r T Q D:=by
 refine⟨λi m j d H=>m=o.length-i/\i<=o.length/\(∃ t,d=t::g.map (λi=>(r[i]?).join))/\Pv i j H,⟨o.length,by simp,cG _,⟨none,rfl⟩,U⟩,?_⟩;rintro i m j d c ⟨rfl,h,⟨t,rfl⟩,p⟩;by_cases a:i<o.length
 .refine .inr ⟨Y.go i c a (I i j c h p),Jj (g.map (λi=>(r[i]?).join)) D Pv i j,Qh (g.map (λi=>(r[i]?).join)) Pv i j,?_,?_,λx q y=>?_⟩
  .rintro n v z ⟨k,s,u,f⟩;exact⟨s,u,o.length-(i+1),by omega,rfl,a,k,f⟩
  .rintro n C ⟨k,f⟩;exact⟨o.length-(i+1),by omega,rfl,a,k,f⟩
  .obtain⟨rfl,w⟩:=Y.yld i c x q a (I i j c h p) y;exact hs i x j q w p
 .have e:i=o.length:=by omega
  subst e;exact .inl ⟨Y.stop _ _ rfl (I _ j c h p),hd j c p⟩
def Bw:Expr->Bool
 | .Starred _ _=>false
 | _=>true
theorem MW (h:Bw e=true):starEach (e::j) g=(false,eval e g)::starEach j g:=by
 cases e<;>first | rfl | (cases h;done)
section
variable {X:Cx}
theorem hI (j:PE X e o) (l:PA X g t) (h:Bw e=true:=by rfl):PA X (e::g) (Cp o t):=wW j l (MW h)
def Xz (g:Aa Af):TA:=λ_ H Q=>Q (g.map V.str) H
theorem yE:∀ (l:Aa (Af×Nat×Pos)),PA X (l.map λp=>.Constant (.str p.1) p.2.1 p.2.2) (Xz (l.map (·.1)))
 | []=>nL
 | a::r=>λpos b s c H Q I h=>hI (uK (x:=a.1) (j:=a.2.1) (pos:=a.2.2)) (yE r) (by rfl) pos b s c H Q I h
end
theorem Es {R:Hp->Prop}{D:Ad}(Y:Yields J o R) (Pv:Nat->Aa V->Hp->Prop)
  (I:Pv 0 [] (upd C D (.l []))) (T:∀ i j H,i<=o.length->Pv i j H->R H)
  (U:∀ i x j H,o[i]?=some x->Pv i j H->te (some x::g.map (λi=>(r[i]?).join)) H (Jj (g.map (λi=>(r[i]?).join)) D Pv i j (some x::g.map (λi=>(r[i]?).join))))
  (hd:∀ j H,Pv o.length j H->Q (.ref D) H):zW [nm] g J (yW 0) Gi te r C Q D:=by
 refine S1 Y Pv I T (λi x j H a p=>?_) hd;unfold Gi;dsimp only;rw[aP rfl];exact U i x j H a p
theorem Zy {R:Hp->Prop}{D:Ad}(Y:Yields J g R) (f:V->V) (T:j D=none) (C:∀ H,oW j H->R H) (hl:g.length<=1000)
  (I:∀ (i:Nat) x H (k:VK),g[i]?=some x->oW j H->k (f x) H->U (some x::r.map (λi=>(σ[i]?).join)) H k)
  (hd:Q (.ref D) (upd j D (.l (g.map f)))):zW [nm] r J (yW 0) Gi U σ j Q D:=by
 have sm:∀ o,oW j (upd j D o):=λo b u e=>by rw[gD (hV e T)];exact e
 refine Es Y (λi a H=>i<=g.length/\a=(g.take i).map f/\H=upd j D (.l a)) ⟨cG _,by simp,rfl⟩ (λi a H _ p=>C H (by rw[p.2.2];exact sm _)) ?_ ?_
 .rintro i x a H d ⟨m,rfl,rfl⟩;have c:=(aG.mp d).1;have h:g.take (i+1)=g.take i++[x]:=by rw[bQ,d];rfl
  refine I i x _ _ d (sm _) ⟨⟨_,rfl⟩,hG,?_,c,?_,?_⟩
  .rw[aA,bN];exact bH (show min i g.length<=1000 by omega) (by decide)
  .rw[h,bE];rfl
  .rw[JL]
 .rintro a H ⟨_,rfl,rfl⟩;rw[bI (aU _)];exact hd
theorem tM {X:Cx}{st:Stmt}{rest:Aa Stmt}{D:Ends}(I:St->Hp->Prop) (g:∀ u:TS,(∀ j l,I j l->u D j l)->∃ t,PS X st t/\t { D with nx:=u D } o H)
  (h:∀ j l,I j l->∃ u,pR X rest u/\u D j l):∃ t,pR X (st::rest) t/\t D o H:=by
 let u:TS:=λb j l=>∃ c,pR X rest c/\c b j l
 have k:pR X rest u:=λa s j l b d ⟨c,i,e⟩=>i a s j l b d e
 obtain⟨t,pt,f⟩:=g u h;exact⟨Lr t u,pW pt k,f⟩
theorem vU {X:Cx}{st:Stmt}{rest:Aa Stmt}{D:Ends}(t:TS) (p:PS X st t) (h:t { D with nx:=λg j=>∃ u,pR X rest u/\u D g j } l H):∃ t,pR X (st::rest) t/\t D l H:=by
 let u:TS:=λb g j=>∃ c,pR X rest c/\c b g j
 have i:pR X rest u:=λa s g j b d ⟨c,f,e⟩=>f a s g j b d e
 exact⟨Lr t u,pW p i,h⟩
section
variable {X:Cx}{id:String}
def AD (K:nH):Aa V->Hp->VK->Prop:=λb H Q=>∃ p a,b=[.ref p]/\(dT K H p a\/nY K H p a)/\Q (.int a.length) H
theorem Zo (K:nH) (g:X.K=K:=by rfl):oQ X (.builtin "len") (AD K):=by subst g;exact vP
theorem V8 (K:nH) (pa:PlainAttrs T) (slot:Slot T name id) (j:typeOf (.builtin id)=pure (.type "method_descriptor")) (J:xT X id r) (U:PE X o to) (C:PA X (e::l) t) (p:X.K=K:=by rfl)
  (I:MtB X o name apos e l g:=by exact {}) :
  PE X (.Call (.Attribute o name apos) (e::l) [] g) (Ma K T r to t):=by
 subst p;exact vD pa slot j J U C I
end
section
variable {X:Cx}
def Xo (g:Aa Int):TA:=λ_ H Q=>Q (g.map V.int) H
theorem Ef:∀ (l:Aa (Int×Nat×Pos)),PA X (l.map λp=>.Constant (.int p.1) p.2.1 p.2.2) (Xo (l.map (·.1)))
 | []=>nL
 | a::r=>λpos b s c H Q I h=>hI (oD (i:=a.1) (j:=a.2.1) (pos:=a.2.2)) (Ef r) (by rfl) pos b s c H Q I h
end
section
variable {X:Cx}
theorem Ti (g:X.A.units+64<cLine):nZ X (compareOp .NotEq) (Gf X.K true):=by
 intro c s M H x y v u Q I F G h;obtain⟨a,b,L,rfl,rfl,f,z,q⟩:=h;cases F;cases G;obtain⟨B,D,m,_⟩:=I.list f;obtain⟨k,E,n,_⟩:=I.list z;cases E;have t:∀ d,d = !L.isEmpty->EP X c M Q (.bool d) s:=λd e=>⟨.b d,H,I,rfl,by subst e;exact q⟩
 cases D with
 | nil=>exact SeqAt.RcNeAt.lists (e:=λ_=>true) m.isList n.isList rfl (by omega) (λi f _=>by simp at f) X.prog X.w _ _ (t _ (by simp))
 | cons r N=>exact SeqAt.RcNeAt.lists_lengths m.isList n.isList (by simp) (by omega) X.prog X.w _ _ (t _ rfl)
def Sr (K:nH):Aa V->Hp->VK->Prop:=λd H Q=>∃ (x c:V) (t a:Ac) (b:Bool),d=[x,c]/\nM c a/\TyOf K H x t/\PySem.W.kitOne K t a=some b/\Q (.b b) H
theorem Aw (K:nH) (g:X.K=K:=by rfl):oQ X (.builtin "isinstance") (Sr K):=by subst g;exact Yo
end
section
variable {X:Cx}
theorem Inv.movedT {t':Nat}{p:Aa Ad}{ys:Aa V}{j:Aa Ac}(I:Inv X g U H s) (l:∀ b∈p,tN X g H b) (k:∀ b o,b∉p->s.heap.get? b=some o->C.get? b=some o)
  (new:vR C s.heap.objs.size j.toArray) (T:nN ys j) (J:ys.length<=sizeLine):Inv X g U (upd H s.heap.objs.size (.t ys)) { s with heap:=C,toks:=t' }:=by
 have f:=I.fresh;have h:∀ b u,H b=some u->b∉p:=λb u e z=>by rw[(l b z).1] at e;cases e
 have lt:∀ b o,s.heap.get? b=some o->b≠s.heap.objs.size:=λb o e=>bG (aV e)
 refine I.step (g':=s.gens) (d':=s.drawn) (ch:=p) (λb a=>⟨(l b a).2.2.2.1,(l b a).2.1,(l b a).2.2.2.2.1,(l b a).2.2.2.2.2⟩) (λb o _ _ d e _=>k b o d e) (λb o _ _ d e _=>⟨o.slots,k b o d e⟩) (λb o _ e n=>by rw[gD (lt b o e)];exact n)
  (λb o d e=>⟨o,k b o d e⟩) (λb A e=>by rw[gD (hV e f)];exact e) (λb o u e=>by rw[gD (hV e f)];exact e) (λb B e=>⟨#[],by rw[gD (hV e f),e];simp⟩) (λm x=>?_) (λb u e=>?_) I.bare
 .obtain⟨o,w,i,y,r⟩:=x;exact⟨o,w,i,k _ o (λz=>(l _ z).2.1 rfl) y,r⟩
 .by_cases a:b=s.heap.objs.size
  .subst a;rw[hG] at e;cases e;exact⟨J,j,T,new⟩
  .rw[gD a] at e;refine (I.hok b u e).stay (λc v d q=>k c v ?_ q) (λc q=>by rw[gD (hV q f)];exact q) λc A q=>by rw[gD (hV q f)];exact q
   rcases d with z | z
   .rw[z];exact h b u e
   .exact h c _ z
end
section
variable {X:Cx}
theorem Kd {iter:Expr}(T p:Aa Af) (J:Aa Nat) (hN:X.N.Nodup) (af:X.N[i]?=some x) (hx:vI X.env.scope x)
  (hc:X.calm=true) (hi:PI X tg iter wi) (hk:j.kind = .function) (ho:zX X.N X.env.kindOf j T p J=true)
  (hg:∀ r l C cl U,PG (rN X (T++p) j cl C r l U) tg g)
  (ht:∀ r l C cl U,vG (rN X (T++p) j cl C r l U) ac tt)
  (he:∀ r l C cl U,PE (rN X (T++p) j cl C r l U) ab te)
  (ag:swapsWith (.ListComp ab [⟨tg,iter,ac,0⟩] j pos) (some (.Name x aa)) ae.line X.env=pure true:=by rfl)
  (hs:∀ x,foldedSetIterable iter X.env x=pure x:=by intro _;rfl)
  (hf:X.fn x=true\/X.env.scope.names.lookup x=some .local:=by first | exact .inl rfl | exact .inr rfl | assumption) :
  PS X (.Assign [.Name x aa] (.ListComp ab [⟨tg,iter,ac,0⟩] j pos) ae) (Li (Cv T J wi g tt te) (yW i)):=by
 intro u s M H D I h;rw[exec_Assign_Name_used _ _ _ _ ag];refine aB (mP (aB ?_));show wpAny _ _ (comprehension _ _ _ _ _ _ _ _ >>= λ_=>pure ()) _ _ _;refine aB (Mo (nw:=none) T p J hc hi hk (Us ho) hg ht he hs I h λC t L w A q U k=>?_);obtain⟨m,E⟩:=k;show wpAny _ _ (assign (.Name x aa) X.env (.ref t)) _ _ _;refine wpAny_assign_Name (Pz A hN af hx (v:=.ref t) rfl (λF y f=>?_) hf);obtain⟨a,G,B⟩:=f;have c:C≠a:=by
  rcases B with z | z
  .rw[z];exact U.2.1
  .exact (U.2.2.2.2.1 x a z).symm
 refine⟨m,E.sameBut G c,λK n=>aD (aD ⟨_,w,y.moved (t':=F.toks) (fp:=[C]) (λb d=>?_) (λb o d e=>?_),q⟩)⟩
 .rw[aO.mp d];exact U
 .exact n.extBut b o (λz=>d (aO.mpr z)) e
end
inductive D where
 | e | b (b:Bool) | int (i:Int) | str (x:Str) | r (v:V)
 | t (xs:List D) | l (xs:List D)
 | k (kvs:List (gV×D)) | T (kvs:List (List gV×D)) | dM (kvs:List (MK×D))
 | c (xs:List D)
 | con (xs:List D)
def Cf (K:nH) (a:Ad) (g:Aa V):Prop:=∃ (o:Obj) (b:Array Ac) (n:Nat),K.lookup a=some o/\o.cls = .type "tuple" /\ o.data = .seq b n/\b.size<=sizeLine/\nN g b.toList
theorem Cf.sqT {K:nH}(h:Cf K a g):nY K H a g:=.inr h
def wO (K:nH) (H:Hp) (a:Ad) (g:Aa V):Prop:=(∃ o,H a=some (.frz o (.l g))) \/
 ∃ (o:Obj) (b:Array Ac) (n:Nat),K.lookup a=some o/\o.cls = .type "list" /\ o.dict=none/\o.data = .seq b n/\b.size<=sizeLine/\nN g b.toList
theorem wO.sqL {K:nH}(h:wO K H a g):dT K H a g:=h.elim (λh=>.inl (.inr h)) .inr
mutual
inductive Rep (K:nH) (A:Addr->Prop) (H:Hp):D->V->Prop where
 | e:Rep K A H .e .e
 | b (b:Bool):Rep K A H (.b b) (.b b)
 | int (i:Int):Rep K A H (.int i) (.int i)
 | str (x:Str):Rep K A H (.str x) (.str x)
 | r (v:V):Rep K A H (.r v) v
 | t {a:Addr} {vs:List V} {ds:List D}:H a=some (.t vs)->Reps K A H ds vs->Rep K A H (.t ds) (.ref a)
 | con {a:Addr} {vs:List V} {ds:List D}:Cf K a vs->Reps K A H ds vs->Rep K A H (.con ds) (.ref a)
 | l {a:Addr} {vs:List V} {ds:List D}:A a->H a=some (.l vs)->Reps K A H ds vs->Rep K A H (.l ds) (.ref a)
 | c {a:Addr} {vs:List V} {ds:List D}:wO K H a vs->Reps K A H ds vs->Rep K A H (.c ds) (.ref a)
 | k {a:Addr} {kvs:List (gV×V)} {ds:List (gV×D)}:A a->Rd H a (.k kvs)->ds.map (·.1)=kvs.map (·.1)->Reps K A H (ds.map (·.2)) (kvs.map (·.2))->Rep K A H (.k ds) (.ref a)
 | T {a:Addr} {kvs:List (List gV×V)} {ds:List (List gV×D)}:A a->Rd H a (.T kvs)->ds.map (·.1)=kvs.map (·.1)->Reps K A H (ds.map (·.2)) (kvs.map (·.2))->Rep K A H (.T ds) (.ref a)
 | dM {a:Addr} {kvs:List (MK×V)} {ds:List (MK×D)}:A a->Rd H a (.dM kvs)->ds.map (·.1)=kvs.map (·.1)->Reps K A H (ds.map (·.2)) (kvs.map (·.2))->Rep K A H (.dM ds) (.ref a)
inductive Reps (K:nH) (A:Addr->Prop) (H:Hp):List D->List V->Prop where
 | nil:Reps K A H [] []
 | cons {d:D} {v:V} {ds:List D} {vs:List V}:Rep K A H d v->Reps K A H ds vs->Reps K A H (d::ds) (v::vs)
end
def Ew:HO->Bool
 | .t _=>true
 | .frz _ _=>true
 | _=>false
def Kp (A j:Ad->Prop) (H g:Hp):Prop:=(∀ a o,A a->H a=some o->j a/\g a=some o)/\∀ a o,Ew o=true->H a=some o->g a=some o
section
variable {K:nH}
theorem Kp.sqF (k:Kp A l H g) (h:wO K H a j):wO K g a j:=by
 rcases h with⟨o,h⟩ | h
 .exact .inl ⟨o,k.2 _ _ rfl h⟩
 .exact .inr h
theorem Kp.rd (k:Kp A j H l) (g:A a) (h:Rd H a u):j a/\Rd l a u:=by
 rcases h with h | ⟨o,h⟩
 .exact⟨(k.1 _ _ g h).1,.inl (k.1 _ _ g h).2⟩
 .exact⟨(k.1 _ _ g h).1,.inr ⟨o,(k.1 _ _ g h).2⟩⟩
theorem Rep.mono (k:Kp A g H j) (h:Rep K A H d v):Rep K g j d v :=
 Rep.rec (motive_1:=λd v _=>Rep K g j d v) (motive_2:=λf i _=>Reps K g j f i) .e .b .int .str .r (λh _ r=>.t (k.2 _ _ rfl h) r) (λh _ r=>.con h r)
  (λa h _ r=>.l (k.1 _ _ a h).1 (k.1 _ _ a h).2 r) (λh _ r=>.c (k.sqF h) r) (λa h e _ r=>.k (k.rd a h).1 (k.rd a h).2 e r) (λa h e _ r=>.T (k.rd a h).1 (k.rd a h).2 e r) (λa h e _ r=>.dM (k.rd a h).1 (k.rd a h).2 e r) .nil (λ_ _ h r=>.cons h r) h
theorem Reps.mono (k:Kp A o H p) (h:Reps K A H j l):Reps K o p j l:=by
 induction j generalizing l with
 | nil=>cases h;exact .nil
 | cons d j a=>cases h with | cons g r=>exact .cons (g.mono k) (a r)
theorem Kp.all (h:∀ a,A a->g a):Kp A g H H:=⟨λa o b e=>⟨h a b,e⟩,λ_ _ _ e=>e⟩
theorem Kp.trans (a:Kp A l H r) (b:Kp l g r j):Kp A g H j:=⟨λx o c e=>let ⟨p,q⟩:=a.1 x o c e;b.1 x o p q,λx o t e=>b.2 x o t (a.2 x o t e)⟩
theorem Kp.laid (g:H p=none) (h:∀ a,A a->a≠p->j a):Kp A j H (upd H p o) :=
 ⟨λa u b e=>⟨h a b (hV e g),by rw[gD (hV e g)];exact e⟩,λa u _ e=>by rw[gD (hV e g)];exact e⟩
theorem Kp.same (s:oW H j) (h:∀ a,A a->g a):Kp A g H j:=⟨λa o b e=>⟨h a b,s a o e⟩,λa o _ e=>s a o e⟩
theorem Kp.write (l:H p=some u) (g:Ew u=false) (j:¬ A p):Kp A A H (upd H p o):=by
 refine⟨λa w b e=>⟨b,?_⟩,λa w t e=>?_⟩
 .rw[gD (λz:a=p=>j (by rw[<- z];exact b))];exact e
 .rw[gD (λz=>?_)]
  .exact e
  .subst z;rw[l] at e;cases e;rw[t] at g;cases g
theorem Reps.length (h:Reps K A H j l):j.length=l.length:=by
 induction j generalizing l with
 | nil=>cases h;rfl
 | cons d j a=>cases h with | cons g r=>exact cL (·+1) (a r)
theorem Reps.get {j:Aa D}{l:Aa V}{i:Nat}{d:D}(h:Reps K A H j l) (e:j[i]?=some d):∃ v,l[i]?=some v/\Rep K A H d v:=by
 induction j generalizing l i with
 | nil=>cases e
 | cons c j a =>
  cases h with
  | cons g r =>
   cases i with
   | zero=>cases e;exact⟨_,rfl,g⟩
   | succ i=>exact a r (i:=i) e
theorem Reps.getV {j:Aa D}{l:Aa V}{i:Nat}{v:V}(h:Reps K A H j l) (e:l[i]?=some v):∃ d,j[i]?=some d/\Rep K A H d v:=by
 induction j generalizing l i with
 | nil=>cases h;cases e
 | cons c j a =>
  cases h with
  | cons g r =>
   cases i with
   | zero=>cases e;exact⟨_,rfl,g⟩
   | succ i=>exact a r (i:=i) e
theorem Reps.append (h:Reps K A H j l) (s:Reps K A H o p):Reps K A H (j++o) (l++p):=by
 induction j generalizing l with
 | nil=>cases h;exact s
 | cons d j a=>cases h with | cons g r=>exact .cons g (a r)
theorem Reps.take:∀ {g:Aa D}{j:Aa V}(n:Nat),Reps K A H g j->Reps K A H (g.take n) (j.take n)
 | _,_,0,_=>by rw[List.take_zero,List.take_zero];exact .nil
 | _,_,n+1,.nil=>.nil
 | _,_,n+1,.cons h r=>.cons h (Reps.take n r)
theorem Reps.drop:∀ {g:Aa D}{j:Aa V}(n:Nat),Reps K A H g j->Reps K A H (g.drop n) (j.drop n)
 | _,_,0,h=>h
 | _,_,n+1,.nil=>.nil
 | _,_,n+1,.cons h r=>Reps.drop n r
theorem Reps.set (h:Rep K A H d v):∀ {j:Aa D}{l:Aa V}(i:Nat),Reps K A H j l->Reps K A H (j.set i d) (l.set i v)
 | _,_,_,.nil=>.nil
 | _,_,0,.cons _ r=>.cons h r
 | _,_,i+1,.cons g r=>.cons g (Reps.set h i r)
theorem Reps.nil_iff (h:Reps K A H g j):j=[]↔g=[]:=by
 cases h<;>simp
theorem Rep.int_inv (h:Rep K A H (.int i) v):v = .int i:=by cases h;rfl
theorem Rep.str_inv (h:Rep K A H (.str i) v):v = .str i:=by cases h;rfl
theorem Rep.bl_inv (h:Rep K A H (.b i) v):v = .b i:=by cases h;rfl
theorem Rep.non_inv (h:Rep K A H .e v):v = .e:=by cases h;rfl
theorem Rep.raw_inv (h:Rep K A H (.r u) v):v=u:=by cases h;rfl
theorem Rep.tup_inv (h:Rep K A H (.t j) v):∃ a g,v = .ref a/\H a=some (.t g)/\Reps K A H j g:=by
 cases h with | t h r=>exact⟨_,_,rfl,h,r⟩
theorem Rep.lst_inv (h:Rep K A H (.l j) v):∃ a g,v = .ref a/\A a/\H a=some (.l g)/\Reps K A H j g:=by
 cases h with | l d h r=>exact⟨_,_,rfl,d,h,r⟩
theorem Rep.con_inv (h:Rep K A H (.con j) v):∃ a g,v = .ref a/\Cf K a g/\Reps K A H j g:=by
 cases h with | con h r=>exact⟨_,_,rfl,h,r⟩
theorem Rep.scr_inv (h:Rep K A H (.c j) v):∃ a g,v = .ref a/\wO K H a g/\Reps K A H j g:=by
 cases h with | c h r=>exact⟨_,_,rfl,h,r⟩
theorem Rep.dK_inv (h:Rep K A H (.k j) v):∃ a g,v = .ref a/\A a/\Rd H a (.k g)/\j.map (·.1)=g.map (·.1)/\Reps K A H (j.map (·.2)) (g.map (·.2)):=by
 cases h with | k d h e r=>exact⟨_,_,rfl,d,h,e,r⟩
theorem Rep.dT_inv (h:Rep K A H (.T j) v):∃ a g,v = .ref a/\A a/\Rd H a (.T g)/\j.map (·.1)=g.map (·.1)/\Reps K A H (j.map (·.2)) (g.map (·.2)):=by
 cases h with | T d h e r=>exact⟨_,_,rfl,d,h,e,r⟩
theorem Rep.dM_inv (h:Rep K A H (.dM j) v):∃ a g,v = .ref a/\A a/\Rd H a (.dM g)/\j.map (·.1)=g.map (·.1)/\Reps K A H (j.map (·.2)) (g.map (·.2)):=by
 cases h with | dM d h e r=>exact⟨_,_,rfl,d,h,e,r⟩
end
mutual
def imm:D->Bool
 | .t a=>uF a
 | .c a=>uF a
 | .con a=>uF a
 | .l _=>false
 | .k _=>false
 | .T _=>false
 | .dM _=>false
 | _=>true
def uF:Aa D->Bool
 | []=>true
 | d::a=>imm d&&uF a
end
section
variable {K:nH}
theorem Rep.imm (h:Rep K A H d v):imm d=true->Rep K g H d v :=
 Rep.rec (motive_1:=λd v _=>L2.imm d=true->Rep K g H d v) (motive_2:=λa f _=>uF a=true->Reps K g H a f) (λ_=>.e) (λb _=>.b b) (λi _=>.int i) (λx _=>.str x) (λv _=>.r v) (λh _ r e=>.t h (r e)) (λh _ r e=>.con h (r e))
  (λ_ _ _ _ e=>Bool.noConfusion (show false=true from e)) (λh _ r e=>.c h (r e)) (λ_ _ _ _ _ e=>Bool.noConfusion (show false=true from e)) (λ_ _ _ _ _ e=>Bool.noConfusion (show false=true from e)) (λ_ _ _ _ _ e=>Bool.noConfusion (show false=true from e)) (λ_=>.nil) (λ_ _ h r e=>.cons (h (jX.mp e).1) (r (jX.mp e).2)) h
theorem Reps.imm (h:Reps K A H j l) (e:uF j=true):Reps K o H j l:=by
 induction j generalizing l with
 | nil=>cases h;exact .nil
 | cons d j a=>cases h with | cons g r=>exact .cons (g.imm (jX.mp e).1) (a r (jX.mp e).2)
end
end L2
namespace Lw
open PySem L2
structure DeckAt (H:Hp) (d c:Addr):Prop where
 ex:∃ (ns:List Int) (p:Int),H d=some (.l [.ref c,.int p])/\H c=some (.l (ns.map V.int))/\0<ns.length/\ns.length<=100
def nD (d c:Ad) (H g:Hp):Prop:=∀ b o,H b=some o->b≠d->b≠c->g b=some o
theorem nD.trans (a:nD d c H g) (b:nD d c g j):nD d c H j:=λx o e f h=>b x o (a x o e f h) f h
theorem nD.new (h:H p=none):nD d c H (upd H p o):=λb u e _ _=>by rw[gD (hV e h)];exact e
theorem DeckAt.ne (D:DeckAt H d c):d≠c:=by
 obtain⟨i,p,f,b,h,_⟩:=D.ex;intro e;subst e;rw[f] at b;injection b with b;injection b with b;cases i with
 | nil=>simp at h
 | cons a r=>simp at b
theorem DeckAt.upd_other (D:DeckAt H d c) (hd:p≠d) (g:p≠c):DeckAt (upd H p o) d c:=by
 obtain⟨h,q,a,b,e,f⟩:=D.ex;exact⟨h,q,by rw[gD hd.symm];exact a,by rw[gD g.symm];exact b,e,f⟩
theorem DeckAt.ned (D:DeckAt H d c) (h:H p=none):p≠d/\p≠c:=by
 obtain⟨e,q,a,b,_⟩:=D.ex;exact⟨(hV a h).symm,(hV b h).symm⟩
theorem DeckAt.new (D:DeckAt H d c) (h:H p=none):DeckAt (upd H p o) d c:=D.upd_other (D.ned h).1 (D.ned h).2
theorem DeckAt.ne_some (D:DeckAt H d c) (h:H p=some o) (g:∀ j,o ≠ .l j):p≠d/\p≠c:=by
 obtain⟨e,q,a,b,_⟩:=D.ex;exact⟨zN h a (g _),zN h b (g _)⟩
end Lw
namespace L2
open PySem PySem.Spec PyProof.Rows Lw
inductive Sl where
 | n | v (d:D) | o (d:D)
abbrev oN:=Aa (Sl×Ab V)
def Dk (g:Aa Ad) (H:Hp):Prop:=g=[]\/∃ d c,g=[d,c]/\DeckAt H d c
theorem Dk.some (h:Dk j H) (g:a∈j):∃ o,H a=some (.l o):=by
 rcases h with rfl | ⟨d,c,rfl,h⟩
 .cases g
 .obtain⟨f,p,b,e,_⟩:=h.ex;rcases aI.mp g with rfl | g
  .exact⟨_,b⟩
  .rcases aI.mp g with rfl | g
   .exact⟨_,e⟩
   .cases g
theorem Dk.keep (h:Dk g H) (k:∀ a∈g,j a=H a):Dk g j:=by
 rcases h with rfl | ⟨d,c,rfl,h⟩
 .exact .inl rfl
 .refine .inr ⟨d,c,rfl,?_⟩;obtain⟨i,p,b,e,f⟩:=h.ex;exact⟨i,p,by rw[k d (by simp)];exact b,by rw[k c (by simp)];exact e,f⟩
theorem Dk.upd (h:Dk g H) (j:p∉g):Dk g (upd H p o):=h.keep λa b=>gD λz=>j (z▸b)
noncomputable def zO:Sl×Ab V->Ab Ad
 | (.o _,some (.ref a))=>some a
 | _=>none
def dK (L:oN):Aa Ad:=L.filterMap zO
structure Bs where
 dk:List Addr
 A0:Addr->Prop
 H0:Hp
def Al (B:Bs) (R:Aa Ad) (a:Ad):Prop:=a∉B.dk/\a∉R/\(B.A0 a\/B.H0 a=none)
def pO (K:nH) (A:Ad->Prop) (H:Hp) (a:Ad):D->Prop
 | .l c=>∃ d,H a=some (.l d)/\Reps K A H c d
 | .k c=>∃ b,H a=some (.k b)/\c.map (·.1)=b.map (·.1)/\Reps K A H (c.map (·.2)) (b.map (·.2))
 | .T c=>∃ b,H a=some (.T b)/\c.map (·.1)=b.map (·.1)/\Reps K A H (c.map (·.2)) (b.map (·.2))
 | .dM c=>∃ b,H a=some (.dM b)/\c.map (·.1)=b.map (·.1)/\Reps K A H (c.map (·.2)) (b.map (·.2))
 | _=>False
def sV (K:nH) (A:Ad->Prop) (H:Hp):Sl->Ab V->Prop
 | .n,_=>True
 | .v d,x=>∃ v,x=some v/\Rep K A H d v
 | .o d,x=>∃ a,x=some (.ref a)/\pO K A H a d
structure DS (K:nH) (B:Bs) (L:oN) (H:Hp):Prop where
 fr:∀ b o,B.H0 b=some o->b∉B.dk->H b=some o
 dk:Dk B.dk H
 nd:(dK L).Nodup
 new:∀ a∈dK L,B.H0 a=none/\a∉B.dk
 ok:∀ p∈L,sV K (Al B (dK L)) H p.1 p.2
section
variable {K:nH}{L2:oN}
theorem pO.mono (k:Kp A p H j) (g:∀ o,H a=some o->j a=some o) (h:pO K A H a d):pO K p j a d:=by
 cases d with
 | l _=>obtain⟨b,h,r⟩:=h;exact⟨b,g _ h,r.mono k⟩
 | k _=>obtain⟨b,h,e,r⟩:=h;exact⟨b,g _ h,e,r.mono k⟩
 | T _=>obtain⟨b,h,e,r⟩:=h;exact⟨b,g _ h,e,r.mono k⟩
 | dM _=>obtain⟨b,h,e,r⟩:=h;exact⟨b,g _ h,e,r.mono k⟩
 | _=>exact False.elim h
theorem pO.some:∀ {d:D},pO K A H a d->∃ o,H a=some o/\Ew o=false
 | .l _,⟨b,h,r⟩=>⟨_,h,rfl⟩
 | .k _,⟨b,h,e,r⟩=>⟨_,h,rfl⟩
 | .T _,⟨b,h,e,r⟩=>⟨_,h,rfl⟩
 | .dM _,⟨b,h,e,r⟩=>⟨_,h,rfl⟩
theorem pO.rep (g:∀ b,A b->o b) (j:o a):∀ {d:D},pO K A H a d->Rep K o H d (.ref a)
 | .l _,⟨c,h,r⟩=>.l j h (r.mono (.all g))
 | .k _,⟨c,h,e,r⟩=>.k j (.inl h) e (r.mono (.all g))
 | .T _,⟨c,h,e,r⟩=>.T j (.inl h) e (r.mono (.all g))
 | .dM _,⟨c,h,e,r⟩=>.dM j (.inl h) e (r.mono (.all g))
theorem sV.mono (k:Kp A j H g) (h:sV K A H s y) (l:∀ a,zO (s,y)=some a->∀ o,H a=some o->g a=some o):sV K j g s y:=by
 cases s with
 | n=>trivial
 | v d=>obtain⟨v,e,r⟩:=h;exact⟨v,e,r.mono k⟩
 | o d=>obtain⟨a,rfl,r⟩:=h;exact⟨a,rfl,r.mono k (l a rfl)⟩
theorem qY:dK (g++L2)=dK g++dK L2:=List.filterMap_append
theorem tG:a∈dK L↔∃ p∈L,zO p=some a:=kO
theorem sE:dK (L1++x::L2)=dK L1++((zO x).toList++dK L2):=by
 unfold dK;rw[List.filterMap_append,List.filterMap_cons];cases zO x<;>rfl
theorem DS.live (h:DS K B L H) (g:a∈dK L):∃ o,H a=some o/\Ew o=false:=by
 obtain⟨p,c,e⟩:=tG.mp g;have:=h.ok p c;obtain⟨s,y⟩:=p;cases s with
 | n=>cases e
 | v d=>cases e
 | o d =>
  obtain⟨b,rfl,r⟩:=this;cases e;exact r.some
theorem DS.drop (h:DS K B (L1++x::L2) H):DS K B (L1++L2) H:=by
 have e:=sE (L1:=L1) (x:=x) (L2:=L2);have d:∀ a,a∈dK (L1++L2)->a∈dK (L1++x::L2):=λa c=>by
  rw[qY] at c;rw[e];simp only[aT] at c |-;rcases c with q | q
  .exact .inl q
  .exact .inr (.inr q)
 refine⟨h.fr,h.dk,?_,λa c=>h.new a (d a c),λp f=>?_⟩
 .have n:=h.nd;rw[e] at n;rw[qY];obtain⟨k,m,s⟩:=bU.mp n;exact bU.mpr ⟨k,(bU.mp m).2.1,λa c b i=>s a c b (bJ _ i)⟩
 .refine (h.ok p (by simp only[aT,aI] at f |-;rcases f with q | q;exact .inl q;exact .inr (.inr q))).mono (.all λa z=>⟨z.1,λq=>z.2.1 (d a q),z.2.2⟩) (λ_ _ _ q=>q)
theorem DS.at (h:DS K B (g++x::L2) H):sV K (Al B (dK (g++x::L2))) H x.1 x.2:=h.ok x (bJ _ aF)
theorem DS.valAt (h:DS K B (g++(.v d,some v)::L2) H):Rep K (Al B (dK (g++L2))) H d v:=by
 obtain⟨u,e,r⟩:=h.at;cases e;have:dK (g++(Sl.v d,some v)::L2)=dK (g++L2):=by rw[sE,qY];rfl
 rw[this] at r;exact r
theorem DS.push (h:DS K B (L1++L2) H) (r:Rep K (Al B (dK (L1++L2))) H d v):DS K B (L1++(.v d,some v)::L2) H:=by
 have e:dK (L1++(Sl.v d,some v)::L2)=dK (L1++L2):=by rw[sE,qY];rfl
 refine⟨h.fr,h.dk,by rw[e];exact h.nd,by rw[e];exact h.new,λp a=>?_⟩;rw[e];simp only[aT,aI] at a;rcases a with q | q | q
 .exact h.ok p (bK _ q)
 .subst q;exact⟨v,rfl,r⟩
 .exact h.ok p (bJ _ q)
theorem DS.pushN (h:DS K B (L1++L2) H) (y:Ab V):DS K B (L1++(.n,y)::L2) H:=by
 have e:dK (L1++(Sl.n,y)::L2)=dK (L1++L2):=by rw[sE,qY];rfl
 refine⟨h.fr,h.dk,by rw[e];exact h.nd,by rw[e];exact h.new,λp a=>?_⟩;rw[e];simp only[aT,aI] at a;rcases a with q | q | q
 .exact h.ok p (bK _ q)
 .subst q;trivial
 .exact h.ok p (bJ _ q)
theorem DS.grow (h:DS K B L H) (s:oW H g) (j:Dk B.dk g):DS K B L g :=
 ⟨λb o e n=>s b o (h.fr b o e n),j,h.nd,h.new,λp a=>(h.ok p a).mono (.same s λ_ z=>z) (λ_ _ o q=>s _ o q)⟩
theorem DS.free (h:DS K B L H) (g:H a=none):B.H0 a=none/\a∉B.dk/\a∉dK L:=by
 have n:a∉B.dk:=λz=>by obtain⟨b,e⟩:=h.dk.some z;rw[e] at g;cases g
 refine⟨?_,n,λz=>by obtain⟨o,e,_⟩:=h.live z;rw[e] at g;cases g⟩;cases e:B.H0 a with
 | none=>rfl
 | some o=>rw[h.fr a o e n] at g;cases g
theorem DS.laid (h:DS K B L H) (g:H a=none):DS K B L (upd H a o) :=
 h.grow (λb u e=>by rw[gD (hV e g)];exact e) (h.dk.upd (h.free g).2.1)
theorem DS.tup (h:DS K B (L1++L2) H){g:Aa D}{l:Aa V}(j:H a=none) (r:Reps K (Al B (dK (L1++L2))) H g l):DS K B (L1++(.v (.t g),some (.ref a))::L2) (upd H a (.t l)) :=
 (h.laid j).push (.t hG (r.mono (.laid j λ_ z _=>z)))
theorem DS.make (h:DS K B (L1++L2) H) (g:H a=none) (r:∀ j,Kp (Al B (dK (L1++L2))) j H (upd H a o)->pO K j (upd H a o) a d):DS K B (L1++(.o d,some (.ref a))::L2) (upd H a o):=by
 obtain⟨f1,f2,k⟩:=h.free g;have e:dK (L1++(Sl.o d,some (.ref a))::L2)=dK L1++a::dK L2:=sE;have m:∀ b,b∈dK L1++a::dK L2↔b=a\/b∈dK (L1++L2):=λb=>by
  rw[qY];simp only[aT,aI];constructor
  .rintro (q | q | q)
   .exact .inr (.inl q)
   .exact .inl q
   .exact .inr (.inr q)
  .rintro (q | q | q)
   .exact .inr (.inl q)
   .exact .inl q
   .exact .inr (.inr q)
 have s:Kp (Al B (dK (L1++L2))) (Al B (dK L1++a::dK L2)) H (upd H a o):=.laid g λb z n=>⟨z.1,λq=>(m b).mp q |>.elim n z.2.1,z.2.2⟩
 refine⟨λb u q n=>by rw[gD (hV (h.fr b u q n) g)];exact h.fr b u q n,h.dk.upd f2,?_,λb i=>?_,λp f=>?_⟩
 .rw[e];have n:=h.nd;rw[qY] at n k;obtain⟨v,x,y⟩:=bU.mp n;refine bU.mpr ⟨v,bM.mpr ⟨λz=>k (bJ _ z),x⟩,λb i c t=>?_⟩;rcases aI.mp t with q | q
  .intro z;subst z;subst q;exact k (bK _ i)
  .exact y b i c q
 .rw[e] at i;rcases (m b).mp i with q | q
  .subst q;exact⟨f1,f2⟩
  .exact h.new b q
 .rw[e];simp only[aT,aI] at f;have old:∀ p∈L1++L2,sV K (Al B (dK L1++a::dK L2)) (upd H a o) p.1 p.2:=λp f=>(h.ok p f).mono s λb i w q=>by rw[gD (hV q g)];exact q
  rcases f with q | q | q
  .exact old p (bK _ q)
  .subst q;exact⟨a,rfl,r _ s⟩
  .exact old p (bJ _ q)
theorem DS.freeze (h:DS K B (g++(.o d,some v)::L2) H):DS K B (g++(.v d,some v)::L2) H:=by
 obtain⟨a,e,r⟩:=h.at;cases e;have c:dK (g++(Sl.o d,some (V.ref a))::L2)=dK g++a::dK L2:=sE;have hd:=h.drop;have f:=h.new a (by rw[c];simp);refine hd.push (r.rep (λb z=>⟨z.1,λq=>z.2.1 ?_,z.2.2⟩) ⟨f.2,λq=>?_,.inr f.1⟩)
 .rw[c];rw[qY] at q;simp only[aT,aI] at q |-;rcases q with q | q
  .exact .inl q
  .exact .inr (.inr q)
 .have n:=h.nd;rw[c] at n;rw[qY] at q;obtain⟨m,i,k⟩:=bU.mp n;rcases aT.mp q with q | q
  .exact k a q a aF rfl
  .exact (bM.mp i).1 q
theorem DS.write (h:DS K B (g++(.o d,some (.ref a))::L2) H) (r:∀ j,Kp (Al B (dK g++a::dK L2)) j H (upd H a o)->pO K j (upd H a o) a d'):DS K B (g++(.o d',some (.ref a))::L2) (upd H a o):=by
 have e:∀ d,dK (g++(Sl.o d,some (V.ref a))::L2)=dK g++a::dK L2:=λd=>sE
 have s:=h.new a (by rw[e];simp);obtain⟨u,t,A⟩:=h.live (a:=a) (by rw[e];simp);have k:Kp (Al B (dK g++a::dK L2)) (Al B (dK g++a::dK L2)) H (upd H a o):=.write t A λz=>z.2.1 (by simp)
 have n:=h.nd;rw[e] at n;have y:∀ b,b∈dK g\/b∈dK L2->b≠a:=λb c z=>by
  subst z;obtain⟨D,v,x⟩:=bU.mp n;rcases c with c | c
  .exact x b c b aF rfl
  .exact (bM.mp v).1 c
 refine⟨λb w q m=>?_,h.dk.upd s.2,by rw[e];exact n,λb c=>h.new b (by rw[e] at c |-;exact c),λp f=>?_⟩
 .have:b≠a:=λz=>by subst z;rw[s.1] at q;cases q
  rw[gD this];exact h.fr b w q m
 .rw[e];have old:∀ p,p∈g\/p∈L2->sV K (Al B (dK g++a::dK L2)) (upd H a o) p.1 p.2:=λp i=>by
   have:=h.ok p (by simp only[aT,aI];rcases i with q | q;exact .inl q;exact .inr (.inr q));rw[e] at this;refine this.mono k λb c w q=>?_
   rw[gD (y b ?_)]
   .exact q
   .rcases i with z | z
    .exact .inl (tG.mpr ⟨p,z,c⟩)
    .exact .inr (tG.mpr ⟨p,z,c⟩)
  simp only[aT,aI] at f;rcases f with q | q | q
  .exact old p (.inl q)
  .subst q;exact⟨a,rfl,r _ k⟩
  .exact old p (.inr q)
theorem DS.ownAt (h:DS K B (g++(.o d,some v)::L2) H):∃ a,v = .ref a/\pO K (Al B (dK g++a::dK L2)) H a d:=by
 obtain⟨a,e,r⟩:=h.at;cases e;rw[show dK (g++(Sl.o d,some (V.ref a))::L2)=dK g++a::dK L2 from sE] at r;exact⟨a,rfl,r⟩
theorem DS.perm (h:DS K B L H) (p:L.Perm M):DS K B M H:=by
 have e:(dK L).Perm (dK M):=p.filterMap zO;refine⟨h.fr,h.dk,e.nodup_iff.mp h.nd,λa b=>h.new a (e.mem_iff.mpr b),λq c=>(h.ok q (p.mem_iff.mpr c)).mono (.all λa z=>⟨z.1,λw=>z.2.1 (e.mem_iff.mpr w),z.2.2⟩) λ_ _ _ w=>w⟩
end
section
theorem uH {g:Aa Sl}{σ:St}(C:g.length=σ.length){i:Nat}{s:Sl}(h:g[i]?=some s):∃ j y l,σ[i]?=some y/\j.length=i/\g.zip σ=j++(s,y)::l/\∀ o p,(g.set i o).zip (σ.set i p)=j++(o,p)::l:=by
 induction g generalizing σ i with
 | nil=>simp at h
 | cons r g e =>
  cases σ with
  | nil=>simp at C
  | cons z σ =>
   cases i with
   | zero=>simp at h;subst h;exact⟨[],z,g.zip σ,rfl,rfl,rfl,λ_ _=>rfl⟩
   | succ i =>
    obtain⟨j,y,l,a,b,c,d⟩:=e (σ:=σ) (by simpa using C) (i:=i) (by simpa using h);exact⟨(r,z)::j,y,l,by simpa using a,by simp[b],by simp[c],λo p=>by simp[d]⟩
theorem zY {g:St}{i:Nat}{y:Ab V}(h:g[i]?=some y):g.set i y=g:=by
 obtain⟨a,rfl⟩:=aG.mp h;exact List.set_getElem_self a
end
abbrev nV:=Aa Ad->Aa Sl->(Sl->Aa Sl->Prop)->Prop
abbrev rK:=Aa Ad->Aa Sl->(Bool->Aa Sl->Prop)->Prop
def dE (K:nH) (g:nV):TE:=λb H Q=>∃ (B:Bs) (c:Aa Sl) (T:oN) (e:Sl->Aa Sl->Prop),c.length=b.length/\DS K B (c.zip b++T) H/\g B.dk c e /\
 ∀ r a v d,a.length=b.length->DS K B (a.zip b++(r,some v)::T) d->e r a->Q v d
def sY (K:nH) (g:rK):TT:=λc H Q=>∃ (B:Bs) (d:Aa Sl) (T:oN) (f:Bool->Aa Sl->Prop),d.length=c.length/\DS K B (d.zip c++T) H/\g B.dk d f /\
 ∀ b a e,a.length=c.length->DS K B (a.zip c++T) e->f b a->Q b e
theorem dE.elim {K:nH}{P:Prop}(h:dE K C o H Q) (f:∀ (B:Bs) (j:Aa Sl) (T:oN) (l:Sl->Aa Sl->Prop),j.length=o.length->DS K B (j.zip o++T) H->C B.dk j l ->(∀ r g v p,g.length=o.length->DS K B (g.zip o++(r,some v)::T) p->l r g->Q v p)->P):P:=by
 obtain⟨B,j,T,l,a,hd,b,k⟩:=h;exact f B j T l a hd b k
theorem sY.elim {K:nH}{P:Prop}(h:sY K r o H Q) (f:∀ (B:Bs) (j:Aa Sl) (T:oN) (l:Bool->Aa Sl->Prop),j.length=o.length->DS K B (j.zip o++T) H->r B.dk j l ->(∀ b g p,g.length=o.length->DS K B (g.zip o++T) p->l b g->Q b p)->P):P:=by
 obtain⟨B,j,T,l,a,hd,c,k⟩:=h;exact f B j T l a hd c k
abbrev PD (X:Cx) (e:Expr) (g:nV):Prop:=PE X e (dE X.K g)
abbrev tO (X:Cx) (e:Expr) (g:rK):Prop:=PT X e (sY X.K g)
abbrev Er (X:Cx) (e:Expr) (g:rK):Prop:=PW X e (sY X.K g)
theorem PE.mono {X:Cx}(h:PE X e t) (k:∀ g H Q,j g H Q->t g H Q):PE X e j:=λa s g H Q I q=>h a s g H Q I (k g H Q q)
theorem PT.mono {X:Cx}(h:PT X e t) (k:∀ g H Q,j g H Q->t g H Q):PT X e j:=λa s g H Q I q=>h a s g H Q I (k g H Q q)
theorem PW.mono {X:Cx}(h:PW X e t) (k:∀ g H Q,j g H Q->t g H Q):PW X e j:=λb a s g H Q I q=>h b a s g H Q I (k g H Q q)
def sd:Sl->Ab D
 | .v d=>some d
 | .o d=>some d
 | .n=>none
section
variable {K:nH}{L2:oN}
theorem Hg:dK (g++(Sl.v d,y)::L2)=dK (g++L2):=by rw[sE,qY];rfl
theorem DS.thaw (h:DS K B (g++(r,some v)::L2) H) (e:sd r=some d):DS K B (g++(.v d,some v)::L2) H:=by
 cases r with
 | n=>cases e
 | v c=>cases e;exact h
 | o c=>cases e;exact h.freeze
theorem DS.one (h:DS K B (L++(r,some v)::T) H) (e:sd r=some d):DS K B (L++T) H/\Rep K (Al B (dK (L++T))) H d v:=by
 have a:=h.thaw e;exact⟨a.drop,a.valAt⟩
theorem DS.two (h:DS K B (L++(l,some u)::(r,some v)::T) H) (g:sd r=some d) (j:sd l=some e):DS K B (L++T) H/\Rep K (Al B (dK (L++T))) H d v/\Rep K (Al B (dK (L++T))) H e u:=by
 have m:=h.thaw j;have n:DS K B ((L++[(Sl.v e,some u)])++(r,some v)::T) H:=by simpa using m
 have a:=n.thaw g;have b:DS K B (L++(Sl.v e,some u)::(.v d,some v)::T) H:=by simpa using a
 have c:=b.valAt;have f:=a.valAt;have i:dK (L++(Sl.v d,some v)::T)=dK (L++T):=by rw[sE,qY];rfl
 have k:dK ((L++[(Sl.v e,some u)])++T)=dK (L++T):=by
  rw[bL];show dK (L++(Sl.v e,some u)::T)=_;rw[sE,qY];rfl
 rw[i] at c;rw[k] at f;exact⟨b.drop.drop,f,c⟩
theorem DS.mid (h:DS K B (x::(L++T)) H):DS K B (L++x::T) H:=h.perm jA.symm
theorem DS.front (h:DS K B (L++x::T) H):DS K B (x::(L++T)) H:=h.perm jA
theorem DS.pushF (h:DS K B L H) (r:Rep K (Al B (dK L)) H d v):DS K B ((.v d,some v)::L) H:=DS.push (L1:=[]) h r
theorem DS.tupF (h:DS K B L H) (j:H a=none) (r:Reps K (Al B (dK L)) H g l):DS K B ((.v (.t g),some (.ref a))::L) (upd H a (.t l)):=DS.tup (L1:=[]) h j r
theorem DS.lstF (h:DS K B L H) (p:H a=none) (r:Reps K (Al B (dK L)) H j g):DS K B ((.o (.l j),some (.ref a))::L) (upd H a (.l g)) :=
 DS.make (L1:=[]) h p λb k=>⟨g,hG,r.mono k⟩
theorem DS.dKF (h:DS K B L H) (g:H a=none) (e:ds.map (·.1)=kvs.map (·.1)) (r:Reps K (Al B (dK L)) H (ds.map (·.2)) (kvs.map (·.2))):DS K B ((.o (.k ds),some (.ref a))::L) (upd H a (.k kvs)) :=
 DS.make (L1:=[]) h g λb k=>⟨kvs,hG,e,r.mono k⟩
theorem DS.dMF (h:DS K B L H) (g:H a=none) (e:ds.map (·.1)=kvs.map (·.1)) (r:Reps K (Al B (dK L)) H (ds.map (·.2)) (kvs.map (·.2))):DS K B ((.o (.dM ds),some (.ref a))::L) (upd H a (.dM kvs)) :=
 DS.make (L1:=[]) h g λb k=>⟨kvs,hG,e,r.mono k⟩
end
def oF (K:nH) (A:Ad->Prop) (H:Hp):D->V->Prop
 | .l f,v=>∃ a h,v = .ref a/\H a=some (.l h)/\Reps K A H f h
 | .k f,v=>∃ a d,v = .ref a/\Rd H a (.k d)/\f.map (·.1)=d.map (·.1)/\Reps K A H (f.map (·.2)) (d.map (·.2))
 | .T f,v=>∃ a d,v = .ref a/\Rd H a (.T d)/\f.map (·.1)=d.map (·.1)/\Reps K A H (f.map (·.2)) (d.map (·.2))
 | .dM f,v=>∃ a d,v = .ref a/\Rd H a (.dM d)/\f.map (·.1)=d.map (·.1)/\Reps K A H (f.map (·.2)) (d.map (·.2))
 | .e,v=>Rep K A H .e v
 | .b b,v=>Rep K A H (.b b) v
 | .int b,v=>Rep K A H (.int b) v
 | .str b,v=>Rep K A H (.str b) v
 | .r b,v=>Rep K A H (.r b) v
 | .t b,v=>Rep K A H (.t b) v
 | .con b,v=>Rep K A H (.con b) v
 | .c b,v=>Rep K A H (.c b) v
section
variable {K:nH}
theorem Rep.peek (h:Rep K A H d v):oF K A H d v:=by
 cases h with
 | l _ h r=>exact⟨_,_,rfl,h,r⟩
 | k _ h e r=>exact⟨_,_,rfl,h,e,r⟩
 | T _ h e r=>exact⟨_,_,rfl,h,e,r⟩
 | dM _ h e r=>exact⟨_,_,rfl,h,e,r⟩
 | e=>exact .e
 | b=>exact .b _
 | int=>exact .int _
 | str=>exact .str _
 | r=>exact .r _
 | t h r=>exact .t h r
 | con h r=>exact .con h r
 | c h r=>exact .c h r
theorem pO.peek:∀ {d:D},pO K A H a d->oF K A H d (.ref a)
 | .l _,⟨b,h,r⟩=>⟨_,b,rfl,h,r⟩
 | .k _,⟨b,h,e,r⟩=>⟨_,b,rfl,.inl h,e,r⟩
 | .T _,⟨b,h,e,r⟩=>⟨_,b,rfl,.inl h,e,r⟩
 | .dM _,⟨b,h,e,r⟩=>⟨_,b,rfl,.inl h,e,r⟩
theorem oF.lst_inv (h:oF K A H (.l j) v):∃ a g,v = .ref a/\H a=some (.l g)/\Reps K A H j g:=h
theorem oF.dK_inv (h:oF K A H (.k j) v):∃ a g,v = .ref a/\Rd H a (.k g)/\j.map (·.1)=g.map (·.1)/\Reps K A H (j.map (·.2)) (g.map (·.2)):=h
theorem oF.dT_inv (h:oF K A H (.T j) v):∃ a g,v = .ref a/\Rd H a (.T g)/\j.map (·.1)=g.map (·.1)/\Reps K A H (j.map (·.2)) (g.map (·.2)):=h
theorem oF.dM_inv (h:oF K A H (.dM j) v):∃ a g,v = .ref a/\Rd H a (.dM g)/\j.map (·.1)=g.map (·.1)/\Reps K A H (j.map (·.2)) (g.map (·.2)):=h
theorem oF.tup_inv (h:oF K A H (.t j) v):∃ a g,v = .ref a/\H a=some (.t g)/\Reps K A H j g:=Rep.tup_inv h
theorem oF.con_inv (h:oF K A H (.con j) v):∃ a g,v = .ref a/\Cf K a g/\Reps K A H j g:=Rep.con_inv h
theorem oF.scr_inv (h:oF K A H (.c j) v):∃ a g,v = .ref a/\wO K H a g/\Reps K A H j g:=Rep.scr_inv h
theorem oF.int_inv (h:oF K A H (.int i) v):v = .int i:=Rep.int_inv h
theorem oF.str_inv (h:oF K A H (.str i) v):v = .str i:=Rep.str_inv h
theorem oF.bl_inv (h:oF K A H (.b i) v):v = .b i:=Rep.bl_inv h
theorem oF.non_inv (h:oF K A H .e v):v = .e:=Rep.non_inv h
theorem oF.raw_inv (h:oF K A H (.r u) v):v=u:=Rep.raw_inv h
def at? (g:Aa Sl) (i:Nat):Ab D:=(g[i]?).bind sd
theorem DS.peek (l:g.length=j.length) (h:DS K B (g.zip j++T) H) (e:at? g i=some d):∃ v,j[i]?=some (some v)/\oF K (Al B (dK (g.zip j++T))) H d v:=by
 unfold at? at e;cases f:g[i]? with
 | none=>rw[f] at e;cases e
 | some s =>
  rw[f] at e;obtain⟨q,y,t,k,_,m,_⟩:=uH l f;have b:=h;rw[m] at b;have:=b.ok (s,y) (by simp);rw[<- m] at this;cases s with
  | n=>cases e
  | v c=>cases e;obtain⟨v,rfl,r⟩:=this;exact⟨v,k,r.peek⟩
  | o c=>cases e;obtain⟨a,rfl,r⟩:=this;exact⟨_,k,r.peek⟩
end
noncomputable def vd (i:Nat):nV:=λ_ a b=>match a[i]? with
 | some (.v d)=>b (.v d) a
 | some (.o d)=>b (.v d) (a.set i (.v d))
 | _=>False
def cd (d:D):nV:=λ_ b a=>a (.v d) b
section
variable {X:Cx}
theorem cN (i:Nat) (h:PE X (.Name x pos) (qO i):=by exact pv _):PD X (.Name x pos) (vd i):=h.mono λL H Q z=>z.elim λB D T M w hd c k=>by
 unfold vd at c;cases e:D[i]? with
 | none=>rw[e] at c;exact c.elim
 | some s =>
  rw[e] at c;obtain⟨f,y,m,A,_,G,q⟩:=uH w e;have b:DS X.K B (f++(s,y)::(m++T)) H:=by rw[G] at hd;simpa using hd
  cases s with
  | n=>exact c.elim
  | v d =>
   obtain⟨v,rfl,_⟩:=b.at;refine⟨v,A,k _ _ v H w ?_ c⟩;refine hd.push ?_;have:=b.valAt;rw[G];have t:dK ((f++(Sl.v d,some v)::m)++T)=dK (f++(m++T)):=by
    rw[bL,cT,Hg]
   rw[t];exact this
  | o d =>
   obtain⟨a,rfl,_⟩:=b.at;have E:=b.freeze;have F:(D.set i (.v d)).zip L=f++(.v d,some (.ref a))::m:=by
    have:=q (.v d) (some (.ref a));rw[zY A] at this;exact this
   have u:DS X.K B ((D.set i (.v d)).zip L++T) H:=by rw[F];simpa using E
   refine⟨.ref a,A,k _ _ _ H (by rw[aY];exact w) ?_ c⟩;refine u.push ?_;have:=E.valAt;rw[F];have t:dK ((f++(Sl.v d,some (V.ref a))::m)++T)=dK (f++(m++T)):=by
    rw[bL,cT,Hg]
   rw[t];exact this
theorem Hk (h:PE X e (tC v)) (r:∀ K A H,Rep K A H d v):PD X e (cd d):=h.mono λm H Q a=>a.elim λB f T i b hd c k=>k _ f v H b (hd.push (r _ _ _)) c
theorem nI:PD X (.Constant (.int i) j pos) (cd (.int i)):=Hk oD λ_ _ _=>.int i
theorem rX:PD X (.Constant (.str x) j pos) (cd (.str x)):=Hk uK λ_ _ _=>.str x
theorem uS:PD X (.Constant (.bool x) j pos) (cd (.b x)):=Hk Cw λ_ _ _=>.b x
abbrev O2:=D->D->(Sl->Prop)->Prop
def pM (K:nH) (r:R2) (f:O2):Prop:=∀ (B:Bs) (L:oN) (H:Hp) (d e:D) (x y:V) (b:Sl->Prop) (Q:VK),DS K B L H->oF K (Al B (dK L)) H d x->oF K (Al B (dK L)) H e y->f d e b ->
 (∀ s v a,b s->DS K B ((s,some v)::L) a->Q v a)->r x y H Q
def d2 (f:O2) (g j:nV):nV:=λc m k=>g c m λh a=>j c a λi b=>match sd h,sd i with
 | some d,some e=>f d e λr=>k r b
 | _,_=>False
theorem Jq (o:pM X.K r f) (h:dE X.K (d2 f p C) l H Q):dE X.K p l H λx j=>dE X.K C l j λy g=>r x y g Q:=by
 obtain⟨B,N,T,O,w,hd,A,k⟩:=h;refine⟨B,N,T,_,w,hd,A,λq m x j D d1 u=>⟨B,m,(q,some x)::T,_,D,d1,u,λM n y g E d2 a=>?_⟩⟩;cases b:sd q with
 | none=>rw[b] at a;exact a.elim
 | some d =>
  cases c:sd M with
  | none=>rw[b,c] at a;exact a.elim
  | some e =>
   rw[b,c] at a;obtain⟨F,G,L⟩:=d2.two b c;exact o B _ g d e x y _ Q F G.peek L.peek a λs v t z i=>k s n v t E i.mid z
def xE (f:O2) (i:Nat) (g:nV):nV:=λc b k=>(at? b i).isSome=true/\g c b λh a=>match at? a i,sd h with
 | some d,some e=>f d e λr=>k r a
 | _,_=>False
def Rz (f:O2) (g:nV) (i:Nat):nV:=λb k h=>g b k λc a=>match sd c,at? a i with
 | some d,some e=>f d e λr=>h r a
 | _,_=>False
theorem Hi (o:pM X.K r f) (h:dE X.K (xE f i p) j H Q):qO i j H λx l=>dE X.K p j l λy g=>r x y g Q:=by
 obtain⟨B,O,T,S,t,hd,⟨E,G⟩,k⟩:=h;obtain⟨P,D⟩:=eD.mp E;obtain⟨x,u,_⟩:=hd.peek t D;refine⟨x,u,B,O,T,_,t,hd,G,λN c y g w d2 a=>?_⟩;cases m:at? c i with
 | none=>rw[m] at a;exact a.elim
 | some d =>
  cases n:sd N with
  | none=>rw[m,n] at a;exact a.elim
  | some e =>
   rw[m,n] at a;obtain⟨z,M⟩:=d2.one n;obtain⟨R,b,L⟩:=z.peek w m;rw[u] at b;cases b;exact o B _ g d e x y _ Q z L M.peek a λs v A F q=>k s c v A w q.mid F
theorem BR (o:pM X.K r f) (h:dE X.K (Rz f p i) j H Q):dE X.K p j H λx g=>qO i j g λy l=>r x y l Q:=by
 obtain⟨B,G,T,L,w,hd,A,k⟩:=h;refine⟨B,G,T,_,w,hd,A,λF b x g q d1 a=>?_⟩;cases c:sd F with
 | none=>rw[c] at a;exact a.elim
 | some d =>
  cases m:at? b i with
  | none=>rw[c,m] at a;exact a.elim
  | some e =>
   rw[c,m] at a;obtain⟨t,E⟩:=d1.one c;obtain⟨y,D,py⟩:=t.peek q m;exact⟨y,D,o B _ g d e x y _ Q t E.peek py a λs v u z n=>k s b v u q n.mid z⟩
theorem sX (o:nZ X (binaryOp op) r) (l:pM X.K r f) (i:Nat) (j:PD X b p) (g:PE X a (qO i):=by exact pv _):PD X (.BinOp a op b pos) (xE f i p):=(oC o g j).mono λ_ _ _ h=>Hi l h
theorem Ek (p:nZ X (compareOp op) r) (l:pM X.K r f) (g:PE X a (qO i)) (j:PD X b C) (o:behindInMarks op b=false:=by first | exact wG _ | (with_unfolding_all rfl)):PD X (.Compare a [op] [b] pos) (xE f i C) :=
 (MB p g j o).mono λ_ _ _ h=>Hi l h
theorem qQ (o:nZ X (binaryOp op) r) (l:pM X.K r f) (g:PD X a p) (j:PD X b C):PD X (.BinOp a op b pos) (d2 f p C):=(oC o g j).mono λ_ _ _ h=>Jq l h
def vC (t:nV):rK:=λc e d=>t c e λr a=>match r with
 | .v (.b b)=>d b a
 | _=>False
theorem Is (h:sY X.K (vC t) j H Q):dE X.K t j H λx g=>∃ k,x = .b k/\Q k g:=by
 obtain⟨B,m,T,q,e,hd,f,k⟩:=h;refine⟨B,m,T,_,e,hd,f,λr c v g i d1 a=>?_⟩;cases r with
 | n=>exact a.elim
 | o d=>exact a.elim
 | v d =>
  cases d with
  | b b=>exact⟨b,d1.valAt.bl_inv,k b c g i d1.drop a⟩
  | _=>exact a.elim
theorem rA (p:nZ X (compareOp op) r) (l:pM X.K r f) (g:PE X a (qO i)) (j:PD X b C) (o:behindInMarks op b=false:=by first | exact wG _ | (with_unfolding_all rfl)):tO X (.Compare a [op] [b] pos) (vC (xE f i C)) :=
 (uV p g j o).mono λc H Q h=>Hi l (Is h)
theorem Ic (p:nZ X (compareOp op) r) (l:pM X.K r f) (g:PD X a C) (j:PE X b (qO i)) (o:behindInMarks op b=false:=by first | exact wG _ | (with_unfolding_all rfl)):tO X (.Compare a [op] [b] pos) (vC (Rz f C i)) :=
 (uV p g j o).mono λc H Q h=>BR l (Is h)
theorem tL (p:nZ X (compareOp op) r) (l:pM X.K r f) (g:PD X a C) (j:PD X b I) (o:behindInMarks op b=false:=by first | exact wG _ | (with_unfolding_all rfl)):tO X (.Compare a [op] [b] pos) (vC (d2 f C I)) :=
 (uV p g j o).mono λc H Q h=>by
  have:=Is h;exact Jq l this
end
section
variable [DecidableEq κ]
noncomputable def nU (g:Aa (κ×D)) (k:κ):Ab D:=(g.find? λa=>decide (a.1=k)).map (·.2)
noncomputable def oY (g:Aa (κ×D)) (k:κ) (d:D):Aa (κ×D):=if g.any (λa=>decide (a.1=k)) then g.map (λa=>if a.1=k then (a.1,d) else a) else g++[(k,d)]
theorem J2:nU ([]:Aa (κ×D)) k=none:=rfl
theorem tS {k j:κ}{d:D}{r:Aa (κ×D)}:nU ((j,d)::r) k=if j=k then some d else nU r k:=by
 unfold nU;rw[List.find?_cons];by_cases h:j=k<;>simp[h]
theorem Jf (k:κ):∀ g:Aa (κ×D),(g.any λl=>decide (l.1=k))=(nU g k).isSome
 | []=>rfl
 | (j,d)::r=>by
  rw[tS,gJ,Jf k r];by_cases h:j=k<;>simp[h]
theorem B7 (g:Aa (κ×D)) (k j:κ) (d:D):nU (oY g k d) j=if k=j then some d else nU g j:=by
 unfold oY;rw[Jf];have a:∀ r:Aa (κ×D),nU (r.map λf=>if f.1=k then (f.1,d) else f) j=if k=j then (nU r j).map (λ_=>d) else nU r j:=by
  intro r;induction r with
  | nil=>simp[J2]
  | cons p r b =>
   obtain⟨i,e⟩:=p;rw[aN];by_cases h:i=k
   .subst h;simp only[hU,tS,b];by_cases z:i=j<;>simp[z]
   .simp only[h,fO,tS,b];by_cases z:i=j
    .subst z;simp[fB h]
    .simp[z]
 have c:∀ r:Aa (κ×D),nU r k=none->nU (r++[(k,d)]) j=if k=j then some d else nU r j:=by
  intro r;induction r with
  | nil=>intro _;rw[kL,tS,J2]
  | cons p r b =>
   obtain⟨i,e⟩:=p;rw[tS];by_cases h:i=k
   .simp[h]
   .rw[aJ h];intro m;rw[cT,tS,b m,tS];by_cases z:i=j
    .subst z;simp[fB h]
    .simp[z]
 cases e:nU g k with
 | none=>simp only[Option.isSome_none,dR,fO];exact c g e
 | some w =>
  simp only[mD,hU,a];by_cases z:k=j
  .subst z;simp[e]
  .simp[z]
theorem Ct (g:Aa (κ×D)) (k:κ) (d:D):(oY g k d).length<=g.length+1:=by
 unfold oY;split<;>simp
end
section
variable [DecidableEq κ] {K:nH}
theorem zV:∀ {l:Aa (κ×D)}{g:Aa (κ×V)},l.map (·.1)=g.map (·.1)->Reps K A H (l.map (·.2)) (g.map (·.2))->∀ k,(∀ d,nU l k=some d->∃ v,qM g k=some v/\Rep K A H d v)/\(nU l k=none->qM g k=none)
 | [],[],_,_,k=>⟨λd h=>by simp[J2] at h,λ_=>rfl⟩
 | [],_::_,e,_,_=>by simp at e
 | _::_,[],e,_,_=>by simp at e
 | (i,d)::l,(j,v)::g,e,r,k=>by
  simp only[aN,iL] at e;obtain⟨a,b⟩:=e;subst a;cases r with
  | cons h r =>
   have c:=zV b r k;rw[tS];by_cases z:i=k
   .rw[aP z,Ai z];exact⟨λf q=>by cases q;exact⟨v,rfl,h⟩,λq=>by cases q⟩
   .rw[aJ z,Bz z];exact c
theorem C4 {ds:Aa (κ×D)}{kvs:Aa (κ×V)}(e:ds.map (·.1)=kvs.map (·.1)) (r:Reps K A H (ds.map (·.2)) (kvs.map (·.2))){k:κ}{d:D}{v:V}(h:Rep K A H d v) :
  (oY ds k d).map (·.1)=(pP kvs k v).map (·.1)/\Reps K A H ((oY ds k d).map (·.2)) ((pP kvs k v).map (·.2)):=by
 have m:∀ (ds:Aa (κ×D)) (kvs:Aa (κ×V)),ds.map (·.1)=kvs.map (·.1)->(ds.any λa=>decide (a.1=k))=kvs.any λa=>decide (a.1=k):=by
  intro ds;induction ds with
  | nil=>intro kvs e;cases kvs with
   | nil=>rfl
   | cons _ _=>simp at e
  | cons p ds b=>intro kvs e;cases kvs with
   | nil=>simp at e
   | cons q kvs =>
    simp only[aN,iL] at e;rw[gJ,gJ,b kvs e.2,e.1]
 have n:∀ (ds:Aa (κ×D)) (kvs:Aa (κ×V)),ds.map (·.1)=kvs.map (·.1)->Reps K A H (ds.map (·.2)) (kvs.map (·.2)) ->
   (ds.map λa=>if a.1=k then (a.1,d) else a).map (·.1)=(kvs.map λa=>if a.1=k then (a.1,v) else a).map (·.1) /\
   Reps K A H ((ds.map λa=>if a.1=k then (a.1,d) else a).map (·.2)) ((kvs.map λa=>if a.1=k then (a.1,v) else a).map (·.2)):=by
  intro ds;induction ds with
  | nil=>intro kvs e r;cases kvs with
   | nil=>exact⟨rfl,.nil⟩
   | cons _ _=>simp at e
  | cons p ds b=>intro kvs e r;cases kvs with
   | nil=>simp at e
   | cons q kvs =>
    simp only[aN,iL] at e;cases r with
    | cons g r =>
     obtain⟨c,f⟩:=b kvs e.2 r;obtain⟨i,s⟩:=p;obtain⟨j,v0⟩:=q;obtain⟨rfl,t⟩:=e;by_cases z:i=k
     .simp only[aN,z,hU];exact⟨by rw[c],.cons h f⟩
     .simp only[aN,z,fO];exact⟨by rw[c],.cons g f⟩
 unfold oY pP;rw[m ds kvs e];by_cases z:(kvs.any λa=>decide (a.1=k))=true
 .rw[aP z,aP z];exact n ds kvs e r
 .rw[aJ z,aJ z];simp only[bE,aN,mW];exact⟨by rw[e],r.append (.cons h .nil)⟩
end
section
variable {X:Cx}{K:nH}
def Rg (K:nH):R2:=λx y H Q=>∃ a b c,x = .ref a/\y = .ref b/\nY K H a []/\nY K H b c/\Q (.ref b) H
theorem Wb:nZ X (binaryOp .Add) (Rg X.K):=by
 intro w s Y H x y v u Q I N O h;obtain⟨a,b,W,rfl,rfl,B,D,q⟩:=h;cases N;cases O;obtain⟨E,M,G,_⟩:=I.tuple B;obtain⟨t,V,L,_⟩:=I.tuple D;cases M;obtain⟨⟨P,A,S,sl⟩,m,k,n,hd⟩:=id G;obtain⟨⟨R,f,z,i⟩,e,c,F,d⟩:=id L;simp only at k hd c d;subst k hd c d;exact concat_meets ⟨_,m,rfl⟩ ⟨_,e,rfl⟩ noFill_tuple_add seq_tuple_add lE kX (kG _ _)
  (tuple_addW0 a b _ _ n F A f sl i (by simp)) ⟨m,e,⟨.ref b,H,I,rfl,q⟩⟩
def Nf (K:nH):R2:=λx y H Q=>(sO λi j=>.int (i+j)) x y H Q\/(∃ i j,x = .str i/\y = .str j/\i.length+j.length<=sizeLine/\Q (.str (i++j)) H)\/P5 x y H Q\/Te K x y H Q\/Rg K x y H Q
theorem uR:nZ X (binaryOp .Add) (Nf X.K):=uE.or (wS.or (Ax.or (Vc.or Wb)))
theorem xI (h:n<=100000):n<=sizeLine:=bF h (by decide)
def DU:O2
 | .int i,.int j,a=>a (.v (.int (i+j)))
 | .str i,.str j,a=>i.length+j.length<=100000/\a (.v (.str (i++j)))
 | .l b,.l c,a=>b.length+c.length<=100000/\a (.o (.l (b++c)))
 | .t b,.t c,a=>b.length+c.length<=100000/\a (.v (.t (b++c)))
 | _,_,_=>False
theorem uG:pM K (Nf K) DU:=by
 intro B L H d e x y A Q hd n s c k;cases d<;>first | exact False.elim c | skip<;>cases e<;>first | exact False.elim c | skip
 .cases n;cases s;exact .inl ⟨_,_,rfl,rfl,k _ _ H c (hd.pushF (.int _))⟩
 .cases n;cases s;exact .inr (.inl ⟨_,_,rfl,rfl,xI c.1,k _ _ H c.2 (hd.pushF (.str _))⟩)
 .obtain⟨a,m,rfl,t,f⟩:=n.tup_inv;obtain⟨b,i,rfl,u,h⟩:=s.tup_inv;have v:m.length+i.length<=100000:=by rw[<- f.length,<- h.length];exact c.1
  by_cases z:m=[]
  .subst z;have:=f.nil_iff.mp rfl;subst this;exact .inr (.inr (.inr (.inr ⟨a,b,i,rfl,rfl,nY.of t,nY.of u,k _ _ H c.2 (hd.pushF s)⟩)))
  .refine .inr (.inr (.inr (.inl ⟨a,b,m,i,rfl,rfl,nY.of t,nY.of u,z,xI v,λq=>?_,λ_ p w=>k _ _ _ c.2 (hd.tupF w (f.append h))⟩)));subst q;have:=h.nil_iff.mp rfl;subst this;exact k _ _ H c.2 (by rw[cZ];exact hd.pushF n)
 .obtain⟨a,m,rfl,t,f⟩:=n.lst_inv;obtain⟨b,i,rfl,u,h⟩:=s.lst_inv;have v:m.length+i.length<=100000:=by rw[<- f.length,<- h.length];exact c.1
  exact .inr (.inr (.inl ⟨a,b,m,i,rfl,rfl,t,u,xI v,λp w=>k _ _ _ c.2 (hd.lstF w (f.append h))⟩))
def fI (C:Int->Int->Prop) (g:Int->Int->D):O2
 | .int i,.int j,a=>C i j/\a (.v (g i j))
 | _,_,_=>False
theorem Dh (p:∀ i j,C i j->l i j) (r:∀ A H i j,Rep K A H (g i j) (o i j)):pM K (rI l o) (fI C g):=by
 intro B L H d e x y f Q hd b c a k;cases d<;>first | exact False.elim a | skip<;>cases e<;>first | exact False.elim a | skip
 cases b;cases c;exact⟨_,_,rfl,rfl,p _ _ a.1,k _ _ H a.2 (hd.pushF (r _ _ _ _))⟩
def zU (g:Int->Int->D):O2
 | .int i,.int j,a=>a (.v (g i j))
 | _,_,_=>False
theorem B8 (o:∀ A H i j,Rep K A H (g i j) (l i j)):pM K (sO l) (zU g):=by
 intro B L H d e x y f Q hd b c a k;cases d<;>first | exact False.elim a | skip<;>cases e<;>first | exact False.elim a | skip
 cases b;cases c;exact⟨_,_,rfl,rfl,k _ _ H a (hd.pushF (o _ _ _ _))⟩
abbrev ED:O2:=zU λi j=>.int (i-j)
theorem Hj:pM K (sO λi j=>.int (i-j)) ED:=B8 λ_ _ _ _=>.int _
def Uw:R2:=λx y H Q=>(rI Fv λi j=>.int (i*j)) x y H Q\/Qk x y H Q
theorem Lv:nZ X (binaryOp .Mult) Uw:=wJ.or Xp
def JE:O2
 | .int i,.int j,a=>((-(2 ^ 64)<i/\i<2 ^ 64)\/(-(2 ^ 64)<j/\j<2 ^ 64))/\a (.v (.int (i*j)))
 | .l b,.int k,a=>0<=k/\k<=1000/\b.length<=100/\a (.o (.l (List.replicate k.toNat b).flatten))
 | _,_,_=>False
theorem Uv (r:Reps K A H g j):∀ k:Nat,Reps K A H (List.replicate k g).flatten (List.replicate k j).flatten
 | 0=>.nil
 | k+1=>by rw[cQ,cQ,gP,gP];exact r.append (Uv r k)
theorem Ix:pM K Uw JE:=by
 intro B L H d e x y w Q hd h i b k;cases d<;>first | exact False.elim b | skip<;>cases e<;>first | exact False.elim b | skip
 .cases h;cases i;exact .inl ⟨_,_,rfl,rfl,b.1,k _ _ H b.2 (hd.pushF (.int _))⟩
 .cases i
  rename_i n
  obtain⟨a,m,rfl,q,f⟩:=h.lst_inv;obtain⟨u,v,s,b⟩:=b;have c:m.length<=100:=by rw[<- f.length];exact s
  refine .inr ⟨a,n,m,rfl,rfl,q,by omega,by omega,bF (jB c (show n.toNat<=1000 by omega)) (by decide),λp t=>?_⟩;exact k _ _ _ b (hd.lstF t (Uv f _))
theorem LH {j:Int}(g:0<j) (h:j<2 ^ 64):j.natAbs.log2<9000:=by
 have:j.natAbs<2 ^ 64:=by omega
 exact aR ((Nat.log2_lt (by omega)).mpr this) (by decide)
theorem N4:nZ X (binaryOp .FloorDiv) (rI (λ_ j=>0<j/\j<2 ^ 64) λi j=>.int (i/j)):=yO λi j _ _ _ _ _ a q=>by
 refine floordiv_int (by omega) ?_ (.inl (PyProof.noPylong_of_log2 (LH a.1 a.2)));rw[fU _ (by omega)];exact q
abbrev Vz:O2:=fI (λ_ j=>0<j/\j<2 ^ 64) λi j=>.int (i/j)
theorem Y2:pM K (rI (λ_ j=>0<j/\j<2 ^ 64) λi j=>.int (i/j)) Vz:=Dh (λ_ _ h=>h) λ_ _ _ _=>.int _
abbrev BQ:O2:=fI (λ_ j=>0<j) λi j=>.int (i%j)
theorem Dg:pM K (rI (λ_ j=>0<j) λi j=>.int (i%j)) BQ:=Dh (λ_ _ h=>h) λ_ _ _ _=>.int _
abbrev BP:O2:=fI (λi j=>0<=j/\j<=1000000/\i.natAbs<2 ^ 64) λi j=>.int (i ^ j.toNat)
theorem JV:pM K (rI Sf λi j=>.int (i ^ j.toNat)) BP:=Dh (λ_ _ h=>h) λ_ _ _ _=>.int _
abbrev DG:O2:=zU λi j=>.b (decide (i<j))
theorem Tp:pM K (sO λi j=>.b (decide (i<j))) DG:=B8 λ_ _ _ _=>.b _
abbrev MZ:O2:=zU λi j=>.b (decide (i<=j))
theorem LC:pM K (sO λi j=>.b (decide (i<=j))) MZ:=B8 λ_ _ _ _=>.b _
abbrev BL:O2:=zU λi j=>.b (decide (j<i))
theorem J6:pM K (sO λi j=>.b (decide (j<i))) BL:=B8 λ_ _ _ _=>.b _
abbrev AI:O2:=zU λi j=>.b (decide (j<=i))
theorem O7:pM K (sO λi j=>.b (decide (j<=i))) AI:=B8 λ_ _ _ _=>.b _
end
noncomputable def rW:D->Ab gV
 | .int i=>some (.inl i)
 | .str x=>some (.inr x)
 | _=>none
def wK:Aa D->Ab (Aa gV)
 | []=>some []
 | d::a=>match rW d,wK a with
  | some k,some b=>some (k::b)
  | _,_=>none
noncomputable def nb (neg b:Bool):Bool:=if neg then !b else b
section
variable {X:Cx}{K:nH}
theorem Ak (h:rW d=some k) (r:oF K A H d v):v=kV k:=by
 cases d<;>cases h
 .exact r.int_inv
 .exact r.str_inv
theorem F9 (h:wK g=some j) (l:Reps K A H g o):o=j.map kV:=by
 induction g generalizing j o with
 | nil=>cases l;cases h;rfl
 | cons d g c =>
  cases l with
  | cons r l =>
  have h:=(show (match rW d,wK g with | some k,some j=>some (k::j) | _,_=>none)=some j from h);cases a:rW d with
  | none=>rw[a] at h;cases h
  | some k =>
   cases b:wK g with
   | none=>rw[a,b] at h;cases h
   | some e =>
    rw[a,b] at h;cases h;rw[Ak a r.peek,c b l];rfl
def Cg:D->Ab MK
 | .t a=>(wK a).map Sum.inr
 | d=>(rW d).map Sum.inl
theorem Qp (h:Cg e=some k) (r:oF K A H e y):wD H k y:=by
 have lf:(rW e).map Sum.inl=some k->wD H k y:=λh=>by
  obtain⟨j,a,rfl⟩:=bS.mp h;exact Ak a r
 cases e with
 | t i =>
  obtain⟨j,a,rfl⟩:=bS.mp h;obtain⟨b,f,rfl,c,d⟩:=r.tup_inv;exact⟨b,rfl,by rw[F9 a d] at c;exact c⟩
 | _=>exact lf h
def zI:D->D->Ab (Ab D)
 | .k a,d=>(rW d).map (nU a)
 | .T a,.t b=>(wK b).map (nU a)
 | .dM a,e=>(Cg e).map (nU a)
 | _,_=>none
theorem Ki (h:zI d e=some o) (g:oF K A H d x) (j:oF K A H e y):∃ a w,x = .ref a/\tU H a y w/\(∀ c,o=some c->∃ v,w=some v/\Rep K A H c v)/\(o=none->w=none):=by
 cases d with
 | k f =>
  obtain⟨a,B,rfl,n,i,z⟩:=g.dK_inv;obtain⟨k,hk,rfl⟩:=bS.mp h;rw[Ak hk j];obtain⟨s,u⟩:=zV i z k;exact⟨a,_,rfl,.inl ⟨B,k,n,rfl,rfl⟩,λc q=>s c q,u⟩
 | T f =>
  obtain⟨a,B,rfl,n,i,z⟩:=g.dT_inv;cases e with
  | t G =>
   obtain⟨b,F,rfl,D,E⟩:=j.tup_inv;obtain⟨k,hk,rfl⟩:=bS.mp h;rw[F9 hk E] at D;obtain⟨s,u⟩:=zV i z k;exact⟨a,_,rfl,.inr (.inl ⟨B,k,b,n,rfl,D,rfl⟩),λc q=>s c q,u⟩
  | _=>cases h
 | dM f =>
  obtain⟨a,B,rfl,n,i,z⟩:=g.dM_inv;obtain⟨k,hk,rfl⟩:=bS.mp (show (Cg e).map (nU f)=some o from h);obtain⟨s,u⟩:=zV i z k;exact⟨a,_,rfl,tU.m n (Qp hk j),λc q=>s c q,u⟩
 | _=>cases h
def N1:R2:=λx y H Q=>∃ a v,x = .ref a/\tU H a y (some v)/\Q v H
theorem W7 (j:X.A.units+1<cLine):vM X N1:=by
 intro value slice b s m H x y v u Q I i k h f;obtain⟨a,w,rfl,g,q⟩:=h;cases i;unfold subscriptTail;refine aB ?_;rw[getitemInPython_of_ne (P2 I g).not_modules];refine aB (wpAny_specialOf (P2 I g) PySem.F.slot_dict_getitem.lookup ?_);have fin:wpAny (model X.prog X.w) X.A (subscripted slice false (.ref a) u) (λr c=>wpAny (model X.prog X.w) X.A (letTemporaryGo value (.ref a) r >>= λ_=>pure r) (EP X b m Q) X.xe c) X.xe s:=by
  rw[f];exact wpAny_operating (Yf j I g k λt n e d=>aB (wpAny_letTemporaryGo (aD ⟨w,H,e,d,q⟩)))
 first
  | exact aD (aB fin)
  | exact aB (aD (aB fin))
  | exact aB fin
def Jh (K:nH):R2:=λx y H Q=>Q3 K x y H Q\/N1 x y H Q
theorem Mq (g:X.A.units+1<cLine):vM X (Jh X.K):=AT.or (W7 g)
def Kl:O2:=λd e b=>match d,e with
 | .l a,.int i=>∃ c,pI a i=some c/\b (.v c)
 | .t a,.int i=>∃ c,pI a i=some c/\b (.v c)
 | .con a,.int i=>∃ c,pI a i=some c/\b (.v c)
 | .c a,.int i=>∃ c,pI a i=some c/\b (.v c)
 | .str z,.int i=>z.length<=100000/\∃ c,pI z.cps.toList i=some c/\b (.v (.str ⟨#[c]⟩))
 | d,e=>∃ c,zI d e=some (some c)/\b (.v c)
theorem Ev (r:Reps K A H g l) (h:pI g i=some c):∃ v,pI l i=some v/\Rep K A H c v:=by
 unfold pI at h |-;rw[<- r.length];cases e:sK g.length i with
 | none=>rw[e] at h;cases h
 | some j =>
  rw[e] at h;obtain⟨v,a,b⟩:=r.get (i:=j) h;exact⟨v,a,b⟩
theorem Um:pM K (Jh K) Kl:=by
 intro B L H d e x y D Q hd t u b k;have f:(∃ c,zI d e=some (some c)/\D (.v c))->Jh K x y H Q:=λz=>by
  obtain⟨c,h,b⟩:=z;obtain⟨a,w,rfl,g,i,_⟩:=Ki h t u;obtain⟨v,rfl,m⟩:=i c rfl;exact .inr ⟨a,v,rfl,g,k _ _ H b (hd.pushF m)⟩
 cases d<;>first | exact f b | skip
 .cases e<;>first | exact f b | skip
  cases u;cases t;obtain⟨A,c,h,b⟩:=b;exact .inl (.inr (.inr ⟨_,_,c,rfl,rfl,xI A,h,k _ _ H b (hd.pushF (.str _))⟩))
 .obtain⟨a,s,rfl,i,q⟩:=t.tup_inv;cases e<;>first | exact f b | skip
  cases u;obtain⟨c,h,b⟩:=b;obtain⟨v,n,m⟩:=Ev q h;exact .inl (.inr (.inl ⟨a,s,_,v,rfl,rfl,nY.of i,n,k _ _ H b (hd.pushF m)⟩))
 .obtain⟨a,s,rfl,i,q⟩:=t.lst_inv;cases e<;>first | exact f b | skip
  cases u;obtain⟨c,h,b⟩:=b;obtain⟨v,n,m⟩:=Ev q h;exact .inl (.inl ⟨a,s,_,v,rfl,rfl,dT.of i,n,k _ _ H b (hd.pushF m)⟩)
 .obtain⟨a,s,rfl,i,q⟩:=t.scr_inv;cases e<;>first | exact f b | skip
  cases u;obtain⟨c,h,b⟩:=b;obtain⟨v,n,m⟩:=Ev q h;exact .inl (.inl ⟨a,s,_,v,rfl,rfl,i.sqL,n,k _ _ H b (hd.pushF m)⟩)
 .obtain⟨a,s,rfl,i,q⟩:=t.con_inv;cases e<;>first | exact f b | skip
  cases u;obtain⟨c,h,b⟩:=b;obtain⟨v,n,m⟩:=Ev q h;exact .inl (.inr (.inl ⟨a,s,_,v,rfl,rfl,i.sqT,n,k _ _ H b (hd.pushF m)⟩))
theorem xO (o:X.A.units+1<cLine) (g:PD X a p) (j:PD X b r) (l:Jx b:=by exact λ_ _=>rfl):PD X (.Subscript a b pos) (d2 Kl p r) :=
 (qJ (Mq o) g j l).mono λ_ _ _ h=>Jq Um h
def Oq (neg:Bool):R2:=λy x H Q=>∃ a o,x = .ref a/\tU H a y o/\Q (.b (nb neg o.isSome)) H
theorem AU (j:X.A.units+1<cLine):nZ X (compareOp .NotIn) (Oq true):=by
 intro c s k H x y v u Q I e f h;obtain⟨a,o,rfl,g,q⟩:=h;cases f;exact Oa j I g e λi d=>⟨.b (!o.isSome),H,d,rfl,q⟩
def N3 (neg:Bool):R2:=λx y H Q=>∃ i j,x = .str i/\y = .str j/\Q (.b (nb neg (!(Builtin.Str.occurrences j i 0 j.length 1).isEmpty))) H
def Fu (K:nH) (neg:Bool):R2:=λx y H Q=>Gy K neg x y H Q\/N3 neg x y H Q\/Oq neg x y H Q
theorem Eu (g:X.A.units+1<cLine):nZ X (compareOp .NotIn) (Fu X.K true):=MF.or ((show nZ X (compareOp .NotIn) (N3 true) from CW).or (AU g))
noncomputable def vX:D->Ab V
 | .e=>some .e
 | .b b=>some (.b b)
 | .int i=>some (.int i)
 | .str x=>some (.str x)
 | _=>none
def xA:Aa D->Ab (Aa V)
 | []=>some []
 | d::a=>match vX d,xA a with
  | some v,some b=>some (v::b)
  | _,_=>none
theorem Ug {l:Type}{f:l->D}{g:l->V}(h:∀ x,vX (f x)=some (g x)):∀ j:Aa l,xA (j.map f)=some (j.map g)
 | []=>rfl
 | x::j=>by
  show (match vX (f x),xA (j.map f) with | some v,some a=>some (v::a) | _,_=>none)=_;rw[h x,Ug h j];rfl
theorem C7 (h:vX d=some u) (r:oF K A H d v):v=u/\qR u=true:=by
 cases d<;>cases h<;>cases r<;>exact⟨rfl,rfl⟩
theorem Qw (h:xA g=some l) (j:Reps K A H g o):o=l/\l.all qR=true:=by
 induction g generalizing l o with
 | nil=>cases j;cases h;exact⟨rfl,rfl⟩
 | cons d g m =>
  cases j with
  | cons r j =>
  have h:=(show (match vX d,xA g with | some v,some o=>some (v::o) | _,_=>none)=some l from h);cases a:vX d with
  | none=>rw[a] at h;cases h
  | some k =>
   cases b:xA g with
   | none=>rw[a,b] at h;cases h
   | some n =>
    rw[a,b] at h;cases h;obtain⟨c,e⟩:=C7 a r.peek;obtain⟨f,i⟩:=m b j;exact⟨by rw[c,f],by rw[List.all_cons,e,i];rfl⟩
def Dz (neg:Bool) (d:D) (g:Aa D) (j:Sl->Prop):Prop:=∃ v a,vX d=some v/\xA g=some a/\j (.v (.b (nb neg (xM v a))))
def LY (neg:Bool):O2:=λd e c=>match e with
 | .l a=>Dz neg d a c
 | .t a=>Dz neg d a c
 | .con a=>Dz neg d a c
 | .str j=>∃ i,d = .str i/\c (.v (.b (nb neg (!(Builtin.Str.occurrences j i 0 j.length 1).isEmpty))))
 | e=>∃ o,zI e d=some o/\c (.v (.b (nb neg o.isSome)))
theorem E8 (neg:Bool):pM K (Fu K neg) (LY neg):=by
 intro B L H d e x y G Q hd E s h k;have seq:∀ (a:Ad) (F:Aa D) (t:Aa V),Dz neg d F G->y = .ref a->(dT K H a t\/nY K H a t)->Reps K (Al B (dK L)) H F t->Fu K neg x y H Q:=by
  rintro a F t ⟨v,m,f,z,M⟩ rfl O r;obtain⟨P,R⟩:=C7 f E;obtain⟨S,W⟩:=Qw z r;subst P S;exact .inl ⟨a,t,rfl,O,R,W,k _ _ H M (hd.pushF (.b _))⟩
 have u:(∃ o,zI e d=some o/\G (.v (.b (nb neg o.isSome))))->Fu K neg x y H Q:=λA=>by
  obtain⟨o,N,h⟩:=A;obtain⟨a,w,rfl,g,f,z⟩:=Ki N s E;have e:o.isSome=w.isSome:=by
   cases o with
   | none=>rw[z rfl];rfl
   | some c=>obtain⟨v,rfl,_⟩:=f c rfl;rfl
  exact .inr (.inr ⟨a,w,rfl,g,by rw[<- e];exact k _ _ H h (hd.pushF (.b _))⟩)
 cases e<;>first | exact u h | skip
 .obtain⟨i,rfl,h⟩:=h;cases E;cases s;exact .inr (.inl ⟨_,_,rfl,rfl,k _ _ H h (hd.pushF (.b _))⟩)
 .obtain⟨a,m,n,f,q⟩:=s.tup_inv;exact seq a _ m h n (.inr (nY.of f)) q
 .obtain⟨a,m,n,f,q⟩:=s.lst_inv;exact seq a _ m h n (.inl (dT.of f)) q
 .obtain⟨a,m,n,f,q⟩:=s.con_inv;exact seq a _ m h n (.inr f.sqT) q
end
mutual
def py:D->PyData
 | .e=>.none
 | .b b=>.bool b
 | .int i=>.int i
 | .str x=>.str x
 | .t a=>.tuple (vW a)
 | .l a=>.list (vW a)
 | .con a=>.tuple (vW a)
 | .c a=>.list (vW a)
 | _=>.none
def vW:Aa D->Aa PyData
 | []=>[]
 | d::a=>py d::vW a
end
mutual
def pF:D->Bool
 | .e=>true
 | .b _=>true
 | .int _=>true
 | .str x=>PyData.strOk x
 | .t a=>vK a
 | .l a=>vK a
 | .con a=>vK a
 | .c a=>vK a
 | _=>false
def vK:Aa D->Bool
 | []=>true
 | d::a=>pF d&&vK a
end
section
variable {X:Cx}{K:nH}
mutual
theorem Ox:∀ {d:D}{v:V},Rep K A H d v->pF d=true->DatV K H v (py d)
 | _,_,.e,_=>.e
 | _,_,.b b,_=>.b b
 | _,_,.int i,_=>.int i
 | _,_,.str x,_=>.str x
 | _,_,.r v,e=>by simp[pF] at e
 | _,_,.t h r,e=>.t (nY.of h) (Ba r (by simpa [pF] using e))
 | _,_,.con h r,e=>.t h.sqT (Ba r (by simpa [pF] using e))
 | _,_,.l _ h r,e=>.l (dT.of h) (Ba r (by simpa [pF] using e))
 | _,_,.c h r,e=>.l h.sqL (Ba r (by simpa [pF] using e))
 | _,_,.k _ _ _ _,e=>by simp[pF] at e
 | _,_,.T _ _ _ _,e=>by simp[pF] at e
 | _,_,.dM _ _ _ _,e=>by simp[pF] at e
theorem Ba:∀ {g:Aa D}{j:Aa V},Reps K A H g j->vK g=true->DatVs K H j (vW g)
 | _,_,.nil,_=>.nil
 | _,_,.cons h r,e=>by
  rw[vK,cH] at e;exact .cons (Ox h e.1) (Ba r e.2)
end
theorem M5 (h:oF K A H d v) (e:pF d=true):DatV K H v (py d):=by
 cases d with
 | l _=>obtain⟨a,b,rfl,h,r⟩:=h.lst_inv;exact .l (dT.of h) (Ba r (by simpa [pF] using e))
 | k _=>simp[pF] at e
 | T _=>simp[pF] at e
 | dM _=>simp[pF] at e
 | _=>exact Ox h e
mutual
theorem G8:∀ {d:D},pF d=true->(py d).canLay0=true
 | .e,_=>rfl
 | .b _,_=>rfl
 | .int _,_=>rfl
 | .str x,e=>by simpa [py,PyData.canLay0,pF] using e
 | .t a,e=>by simp only[py,PyData.canLay0];exact Ci (by simpa [pF] using e)
 | .con a,e=>by simp only[py,PyData.canLay0];exact Ci (by simpa [pF] using e)
 | .l a,e=>by simp only[py,PyData.canLay0];exact Ci (by simpa [pF] using e)
 | .c a,e=>by simp only[py,PyData.canLay0];exact Ci (by simpa [pF] using e)
 | .r _,e=>by simp[pF] at e
 | .k _,e=>by simp[pF] at e
 | .T _,e=>by simp[pF] at e
 | .dM _,e=>by simp[pF] at e
theorem Ci:∀ {g:Aa D},vK g=true->PyData.canLayAll0 (vW g)=true
 | [],_=>rfl
 | d::g,e=>by
  rw[vK,cH] at e;simp only[vW,PyData.canLayAll0,G8 e.1,Ci e.2,Bool.and_self]
end
def Tf (v:Bool):R2:=λx y H Q=>∃ (a b:Ad) (c d:Aa (gV×V)),x = .ref a/\y = .ref b/\Rd H a (.k c)/\Rd H b (.k d)/\c.length=d.length /\
 (∀ p∈c,∃ w,qM d p.1=some w/\qR p.2=true/\qR w=true/\pC p.2 w=true)/\Q (.b v) H
theorem Y9 {A:Around}{s:Ae}{g:Aa (gV×V)}{o:Aa (gV×Ac)}(C:KV g o) (r:Aa (gV×V)) (j:Aa (gV×Ac)) (h:KV r j)
  (l:∀ p∈r,∃ w,qM g p.1=some w/\qR p.2=true/\qR w=true/\pC p.2 w=true):PySem.W.KeqHits A s o j true:=by
 induction h with
 | nil=>exact .nil
 | @cons a b r j m B q =>
  obtain⟨k,v⟩:=a;obtain⟨t,z⟩:=b;obtain⟨e,u⟩:=m;have e:k=t:=e;subst e;obtain⟨w,hw,f1,f2,i⟩:=l (k,v) aF;have d:=C.val k;rw[hw] at d;obtain⟨y,f,x⟩:=d.some_of;have c:SeqAt.EqAt A s z y (pC v w):=I0 u x f1 f2;rw[i] at c;have:=PySem.W.KeqHits.hit f c (q λp n=>l p (aH _ n));rw[Bool.true_and] at this;exact this
theorem Xc (g:X.A.units<cLine):nZ X (compareOp .NotEq) (Tf false):=by
 intro e s L H x y v u Q I D E h;obtain⟨a,b,d,B,rfl,rfl,t,w,c,z,q⟩:=h;cases D;cases E;obtain⟨G,d1,k,f,m⟩:=tT I.hok t;obtain⟨K,d2,F,i,n⟩:=tT I.hok w;have c:k.length=F.length:=by rw[<- f.length,<- i.length];exact c
 refine PySem.W.keq_ne d1 d2 m n g (λ_=>Y9 i d k f z) ⟨.b _,H,I,rfl,?_⟩;rw[c];simpa using q
def Db (neg:Bool):R2:=λx y H Q=>K8 x y=true/\Q (.b (nb neg (decide (x=y)))) H
def R6 (K:nH) (neg:Bool):R2:=λx y H Q=>Db neg x y H Q\/Gf K neg x y H Q\/Tf (!neg) x y H Q\/Qi K neg x y H Q
theorem Z5 (g:X.A.units+64<cLine):nZ X (compareOp .NotEq) (R6 X.K true):=(show nZ X (compareOp .NotEq) (Db true) from Uc).or ((Ti g).or ((Xc (by omega)).or (AE g)))
def M8 (g j:Aa (gV×D)):Prop:=g.length=j.length/\∀ p∈g,∃ e v w,nU j p.1=some e/\vX p.2=some v/\vX e=some w/\pC v w=true
def K6 (neg:Bool):O2:=λd e a=>match d,e with
 | .int i,.int j=>a (.v (.b (nb neg (decide (i=j)))))
 | .str i,.str j=>a (.v (.b (nb neg (decide (i=j)))))
 | .b i,.b j=>a (.v (.b (nb neg (decide (i=j)))))
 | .l c,.l []=>a (.v (.b (nb neg c.isEmpty)))
 | .k c,.k f=>M8 c f/\a (.v (.b (!neg)))
 | d,e=>pF d=true/\pF e=true/\min (py d).depth (py e).depth<=60/\a (.v (.b (nb neg (PyData.eqv (py d) (py e)))))
theorem DT {l C:Aa (gV×D)}{j o:Aa (gV×V)}(h:M8 l C) (I:l.map (·.1)=j.map (·.1)) (T:Reps K A H (l.map (·.2)) (j.map (·.2))) (J:C.map (·.1)=o.map (·.1)) (U:Reps K A H (C.map (·.2)) (o.map (·.2))) :
  j.length=o.length/\∀ p∈j,∃ w,qM o p.1=some w/\qR p.2=true/\qR w=true/\pC p.2 w=true:=by
 refine⟨by have a:=cL List.length I;have b:=cL List.length J;have c:=h.1;simp only[aA] at a b;omega,λp d=>?_⟩;have:∀ (l:Aa (gV×D)) (j:Aa (gV×V)),l.map (·.1)=j.map (·.1)->Reps K A H (l.map (·.2)) (j.map (·.2))->p∈j->∃ q∈l,q.1=p.1/\Rep K A H q.2 p.2:=by
  intro l;induction l with
  | nil=>intro j e _ d;cases j with
   | nil=>cases d
   | cons _ _=>simp at e
  | cons q l x=>intro j e r d;cases j with
   | nil=>cases d
   | cons k j =>
    simp only[aN,iL] at e;cases r with
    | cons g r =>
     rcases aI.mp d with z | z
     .subst z;exact⟨q,aF,e.1,g⟩
     .obtain⟨y,f,m⟩:=x j e.2 r z;exact⟨y,aH _ f,m⟩
 obtain⟨q,u,i,B⟩:=this l j I T d;obtain⟨e,v,w,f,m,s,t⟩:=h.2 q u;rw[i] at f;obtain⟨E,hw,n⟩:=(zV J U p.1).1 e f;obtain⟨F,G⟩:=C7 m B.peek;obtain⟨L,M⟩:=C7 s n.peek;subst F L;exact⟨E,hw,G,M,t⟩
theorem Vr (neg:Bool):pM K (R6 K neg) (K6 neg):=by
 intro B L H d e x y O Q hd h m c k;unfold K6 at c;split at c
 .cases h;cases m
  rename_i i j
  have f:decide (V.int i=V.int j)=decide (i=j):=by simp
  exact .inl ⟨rfl,by rw[f];exact k _ _ H c (hd.pushF (.b _))⟩
 .cases h;cases m
  rename_i i j
  have f:decide (V.str i=V.str j)=decide (i=j):=by simp
  exact .inl ⟨rfl,by rw[f];exact k _ _ H c (hd.pushF (.b _))⟩
 .cases h;cases m
  rename_i i j
  have f:decide (V.b i=V.b j)=decide (i=j):=by simp
  exact .inl ⟨rfl,by rw[f];exact k _ _ H c (hd.pushF (.b _))⟩
 .rename_i M
  obtain⟨a,A,rfl,n,u⟩:=h.lst_inv;obtain⟨b,N,rfl,q,v⟩:=m.lst_inv;cases v;have f:M.isEmpty=A.isEmpty:=by cases u<;>rfl
  refine .inr (.inl ⟨a,b,A,rfl,rfl,dT.of n,dT.of q,?_⟩);rw[<- f];exact k _ _ H c (hd.pushF (.b _))
 .obtain⟨a,s,rfl,n,f,u⟩:=h.dK_inv;obtain⟨b,t,rfl,q,E,v⟩:=m.dK_inv;obtain⟨F,G⟩:=DT c.1 f u E v;exact .inr (.inr (.inl ⟨a,b,s,t,rfl,rfl,n,q,F,G,k _ _ H c.2 (hd.pushF (.b _))⟩))
 .obtain⟨w,z,D,c⟩:=c;exact .inr (.inr (.inr ⟨_,_,M5 h w,M5 m z,G8 w,G8 z,D,k _ _ H c (hd.pushF (.b _))⟩))
end
end L2
namespace L2
open PySem PySem.Spec PyProof.Rows Lw
def wH (g:Aa D) (lo j:Ab Int):Aa D:=(g.drop (HT.sIx g.length 0 lo)).take (HT.sIx g.length g.length j-HT.sIx g.length 0 lo)
def pt (o:Ab nV):Aa Ad->Aa Sl->(Ab Int->Aa Sl->Prop)->Prop:=λc b k=>match o with
 | none=>k none b
 | some t=>t c b λr a=>match r with
  | .v (.int i)=>k (some i) a
  | _=>False
def yU (K:nH):Ab nV->TO
 | none=>Tc
 | some t=>S8 (dE K t)
abbrev O3:=D->Ab Int->Ab Int->(Sl->Prop)->Prop
def Zp (f:O3) (j:nV) (lo g:Ab nV):nV:=λa k i=>j a k λh b=>pt lo a b λl c=>pt g a c λu e=>match sd h with
 | some d=>f d l u λr=>i r e
 | none=>False
def FU (f:O3) (i:Nat) (lo g:Ab nV):nV:=λc e h=>(at? e i).isSome=true/\pt lo c e λl b=>pt g c b λu a=>match at? a i with
 | some d=>f d l u λr=>h r a
 | none=>False
abbrev R3:=V->Ab Int->Ab Int->Hp->VK->Prop
def K5 (K:nH) (r:R3) (f:O3):Prop:=∀ (B:Bs) (L:oN) (H:Hp) (d:D) (lo b:Ab Int) (x:V) (c:Sl->Prop) (Q:VK),DS K B L H->oF K (Al B (dK L)) H d x->f d lo b c ->
 (∀ s v a,c s->DS K B ((s,some v)::L) a->Q v a)->r x lo b H Q
section
variable {X:Cx}{K:nH}{lo:Ab Expr}
theorem Ei (C:l.length=p.length) (hd:DS K B (l.zip p++T) H) (h:pt o B.dk l k)
  (hk:∀ i g j,g.length=p.length->DS K B (g.zip p++T) j->k i g->Q i j):yU K o p H Q:=by
 cases o with
 | none=>exact hk none l H C hd h
 | some t =>
  refine⟨B,l,T,_,C,hd,h,λr g v j b d1 a=>?_⟩;cases r with
  | n=>exact a.elim
  | o d=>exact a.elim
  | v d =>
   cases d with
   | int i=>exact⟨i,d1.valAt.int_inv,hk (some i) g j b d1.drop a⟩
   | _=>exact a.elim
theorem Q8:PO X none (yU X.K none):=xL
theorem Q0 (h:PD X e t):PO X (some e) (yU X.K (some t)):=xQ h
theorem KZ (I:uT X r) (p:K5 X.K r f) (o:PD X a U) (g:PO X lo (yU X.K ol)) (j:PO X C (yU X.K J)):PD X (.Subscript a (.Slice lo C none p2) pos) (Zp f U ol J) :=
 (wR I o g j).mono λW H Q h=>h.elim λB N T V t hd y k=>⟨B,N,T,_,t,hd,y,λG O x R z d1 E=>Ei z d1 E λl P S A d2 F=>Ei A d2 F λu i n D q b=>by
  cases c:sd G with
  | none=>rw[c] at b;exact b.elim
  | some d =>
   rw[c] at b;obtain⟨L,M⟩:=q.one c;exact p B _ n d l u x _ Q L M.peek b λs v m w e=>k s i v m D e.mid w⟩
theorem LD (I:uT X r) (p:K5 X.K r f) (o:PE X a (qO i)) (g:PO X lo (yU X.K ol)) (j:PO X C (yU X.K J)):PD X (.Subscript a (.Slice lo C none U) pos) (FU f i ol J) :=
 (wR I o g j).mono λY H Q q=>q.elim λB W T V w hd ⟨n,G⟩ k=>by
  obtain⟨R,E⟩:=eD.mp n;obtain⟨x,y,_⟩:=hd.peek w E;refine⟨x,y,Ei w hd G λl O P L d2 N=>Ei L d2 N λu c D z t e=>?_⟩;cases h:at? c i with
  | none=>rw[h] at e;exact e.elim
  | some d =>
   rw[h] at e;obtain⟨S,b,M⟩:=t.peek z h;rw[y] at b;cases b;exact p B _ D d l u x _ Q t M e λs v A F m=>k s c v A z m.mid F
def M4 (K:nH):R3:=λx lo a H Q=>P4 K x lo a H Q\/Tr K x lo a H Q\/Rb x lo a H Q
theorem Vj:uT X (M4 X.K):=Aj.or (HN.or Im)
def AX:O3
 | .l a,lo,b,d=>d (.o (.l (wH a lo b)))
 | .c a,lo,b,d=>d (.o (.l (wH a lo b)))
 | .t a,lo,b,d=>¬ (HT.sIx a.length 0 lo=0/\HT.sIx a.length a.length b=a.length)/\d (.v (.t (wH a lo b)))
 | .str z,lo,b,d=>z.length<=100000/\d (.v (.str (tX z lo b)))
 | _,_,_,_=>False
theorem K2 (r:Reps K A H j l) (lo g:Ab Int):Reps K A H (wH j lo g) (sP l lo g):=by
 unfold wH sP;rw[r.length];exact (r.drop _).take _
theorem Rs:K5 K (M4 K) AX:=by
 intro B L H d lo m x n Q hd i b k;cases d<;>first | exact False.elim b | skip
 .cases i;exact .inr (.inr ⟨_,rfl,xI b.1,k _ _ _ b.2 (hd.pushF (.str _))⟩)
 .obtain⟨a,h,rfl,e,c⟩:=i.tup_inv;exact .inr (.inl ⟨a,h,rfl,nY.of e,by rw[<- c.length];exact b.1,λp f=>k _ _ _ b.2 (hd.tupF f (K2 c lo m))⟩)
 .obtain⟨a,h,rfl,e,c⟩:=i.lst_inv;exact .inl ⟨a,h,rfl,dT.of e,λp f=>k _ _ _ b (hd.lstF f (K2 c lo m))⟩
 .obtain⟨a,h,rfl,e,c⟩:=i.scr_inv;exact .inl ⟨a,h,rfl,e.sqL,λp f=>k _ _ _ b (hd.lstF f (K2 c lo m))⟩
abbrev O1:=D->(Sl->Prop)->Prop
abbrev R1:=V->Hp->VK->Prop
def JH (K:nH) (r:R1) (f:O1):Prop:=∀ (B:Bs) (L:oN) (H:Hp) (d:D) (x:V) (b:Sl->Prop) (Q:VK),DS K B L H->oF K (Al B (dK L)) H d x->f d b->(∀ s v a,b s->DS K B ((s,some v)::L) a->Q v a)->r x H Q
def d1 (f:O1) (g:nV):nV:=λb h e=>g b h λc a=>match sd c with
 | some d=>f d λr=>e r a
 | none=>False
theorem EZ (j:JH X.K r f) (h:dE X.K (d1 f l) o H Q):dE X.K l o H λx g=>r x g Q:=by
 obtain⟨B,z,T,A,m,hd,q,k⟩:=h;refine⟨B,z,T,_,m,hd,q,λy e x g t d1 a=>?_⟩;cases b:sd y with
 | none=>rw[b] at a;exact a.elim
 | some d =>
  rw[b] at a;obtain⟨u,w⟩:=d1.one b;exact j B _ g d x _ Q u w.peek a λs v i n c=>k s e v i t c.mid n
def Ov:O1
 | .int i,a=>a (.v (.int (-i)))
 | _,_=>False
theorem Sv (g:PD X a j):PD X (.UnaryOp .USub a pos) (d1 Ov j):=(GL AW g).mono λ_ _ _ h=>EZ (f:=Ov) (λB L H d x e Q hd c b k=>by
 cases d<;>first | exact False.elim b | skip
 cases c;exact⟨_,rfl,k _ _ H b (hd.pushF (.int _))⟩) h
noncomputable def Hb:D->Ab Bool
 | .e=>some false
 | .b b=>some b
 | .int i=>some (i != 0)
 | .str x=>some ((x.length:Int) != 0)
 | .l a=>some (!a.isEmpty)
 | .t a=>some (!a.isEmpty)
 | .k a=>some (!a.isEmpty)
 | _=>none
noncomputable def G3:D->Bool
 | .str x=>decide (x.length<=100000)
 | _=>true
theorem Up (h:oF K A H d x) (e:Hb d=some k) (g:G3 d=true):Lp K x H k:=by
 cases d<;>simp only[Hb,reduceCtorEq,lC] at e<;>subst e
 .have:=h.non_inv;subst this;rfl
 .have:=h.bl_inv;subst this;rfl
 .have:=h.int_inv;subst this;rfl
 .have:=h.str_inv;subst this;exact⟨xI (fP g),rfl⟩
 .obtain⟨a,b,rfl,h,r⟩:=h.tup_inv;exact .inr (.inl ⟨b,nY.of h,by cases r<;>rfl⟩)
 .obtain⟨a,b,rfl,h,r⟩:=h.lst_inv;exact .inl ⟨b,dT.of h,by cases r<;>rfl⟩
 .rename_i c
  obtain⟨a,b,rfl,h,e,r⟩:=h.dK_inv;refine .inr (.inr ⟨b,h,?_⟩);cases c<;>cases b<;>simp at e |-
def Vs (t:nV):rK:=λc f e=>t c f λr a=>match sd r with
 | some d=>G3 d=true/\∃ b,Hb d=some b/\e b a
 | none=>False
def Sb (i:Nat):rK:=λe a c=>match at? a i with
 | some d=>G3 d=true/\∃ b,Hb d=some b/\c b a
 | none=>False
theorem yP (g:PD X a l) (j:∀ whole,isTrue a X.env whole=(do let v <- whole;standAt a.pos;holding [v] (truthy v)):=by intro _;rfl):tO X a (Vs l) :=
 (U8 g j).mono λz H Q f=>f.elim λB x T y n hd s k=>⟨B,x,T,_,n,hd,s,λr h v i t d1 c=>by
  cases e:sd r with
  | none=>rw[e] at c;exact c.elim
  | some d =>
   rw[e] at c;obtain⟨q,b,m,c⟩:=c;obtain⟨u,w⟩:=d1.one e;exact⟨b,Up w.peek m q,k b h i t u c⟩⟩
theorem Sz (g:PE X a (qO i)) (j:∀ whole,isTrue a X.env whole=(do let v <- whole;standAt a.pos;holding [v] (truthy v)):=by intro _;rfl):tO X a (Sb i) :=
 (U8 g j).mono λw H Q f=>f.elim λB m T u h hd c k=>by
  unfold Sb at c;cases e:at? m i with
  | none=>rw[e] at c;exact c.elim
  | some d =>
   rw[e] at c;obtain⟨q,b,n,c⟩:=c;obtain⟨x,s,t⟩:=hd.peek h e;exact⟨x,s,b,Up t n q,k b m H h hd c⟩
def Yd (t u:rK):rK:=λb e d=>t b e λc a=>if c=true then d true a else u b a d
def BA (t:rK):rK:=λb e d=>t b e λc a=>d (!c) a
variable {rest:Aa Expr}
theorem L4 (h:tO X a g):Er X (.BoolOp .Or [a] pos) g:=CP h
theorem Co (j:tO X a o) (l:Er X (.BoolOp .Or (b::rest) pos) g):Er X (.BoolOp .Or (a::b::rest) pos) (Yd o g) :=
 (JZ j l).mono λt H Q e=>e.elim λB s T q m hd n k=>⟨B,s,T,_,m,hd,n,λc d i h d1 f=>by
  cases c with
  | true=>exact (aP rfl).mpr (k true d i h d1 ((aP rfl).mp f))
  | false=>exact vQ ⟨B,d,T,q,h,d1,(aJ (by decide)).mp f,k⟩⟩
theorem Mh (h:Er X a g):tO X a g:=PW.pt h
theorem Ir (h:tO X a g):tO X (.UnaryOp .Not a pos) (BA g):=(Q9 h).mono λt H Q b=>b.elim λB q T s i hd m k=>⟨B,q,T,_,i,hd,m,λc d e n d1 f=>k _ d e n d1 f⟩
def ET (t:rK) (u w:nV):nV:=λb e d=>t b e λc a=>if c=true then u b a d else w b a d
theorem Nb (l:tO X c o) (g:PD X a p) (j:PD X b r):PD X (.IfExp c a b pos) (ET o p r) :=
 (MI l g j).mono λt H Q e=>e.elim λB q T i m hd n k=>⟨B,q,T,_,m,hd,n,λc d s h d1 f=>by
  cases c with
  | true=>exact (aP rfl).mpr ⟨B,d,T,i,h,d1,(aP rfl).mp f,k⟩
  | false=>exact vQ ⟨B,d,T,i,h,d1,(aJ (by decide)).mp f,k⟩⟩
end
inductive Ar where
 | t (d:D) | al (i:Nat)
abbrev rL:=Aa Ad->Aa Sl->(Aa Ar->Aa Sl->Prop)->Prop
def sZ:Aa Ar->Aa V->oN
 | .t d::as,v::a=>(.v d,some v)::sZ as a
 | .al _::as,_::a=>sZ as a
 | _,_=>[]
inductive ArOk (σ:St):List Ar->List V->Prop where
 | nil:ArOk σ [] []
 | t {d:D} {v:V} {as:List Ar} {vs:List V}:ArOk σ as vs->ArOk σ (.t d::as) (v::vs)
 | al {i:Nat} {v:V} {as:List Ar} {vs:List V}:σ[i]?=some (some v)->ArOk σ as vs->ArOk σ (.al i::as) (v::vs)
noncomputable def uM (g:Aa Sl):Aa Ar->Ab (Aa D)
 | []=>some []
 | .t d::as=>(uM g as).map (d::·)
 | .al i::as=>match at? g i,uM g as with
  | some d,some a=>some (d::a)
  | _,_=>none
noncomputable def xW:Aa Ar->Ab (Aa D)
 | []=>some []
 | .t d::as=>(xW as).map (d::·)
 | .al _::_=>none
def Do:Aa Ar->Bool
 | []=>true
 | .t _::as=>Do as
 | .al _::_=>false
def dA (K:nH) (g:rL):TA:=λb H Q=>∃ (B:Bs) (d:Aa Sl) (T:oN) (f:Aa Ar->Aa Sl->Prop),d.length=b.length/\DS K B (d.zip b++T) H/\g B.dk d f /\
 ∀ as a c e,a.length=b.length->ArOk b as c->DS K B (a.zip b++(sZ as c++T)) e->f as a->Q c e
theorem dA.elim {K:nH}{P:Prop}(h:dA K C l H Q) (f:∀ (B:Bs) (j:Aa Sl) (T:oN) (o:Aa Ar->Aa Sl->Prop),j.length=l.length->DS K B (j.zip l++T) H->C B.dk j o ->(∀ as g p r,g.length=l.length->ArOk l as p->DS K B (g.zip l++(sZ as p++T)) r->o as g->Q p r)->P):P:=by
 obtain⟨B,j,T,o,a,hd,b,k⟩:=h;exact f B j T o a hd b k
abbrev rZ (X:Cx) (g:Aa Expr) (j:rL):Prop:=PA X g (dA X.K j)
def Om:rL:=λ_ b a=>a [] b
def aC (g:nV) (j:rL):rL:=λc f e=>g c f λr a=>j c a λas b=>match sd r with
 | some d=>e (.t d::as) b
 | none=>False
def aS (i:Nat) (g:rL):rL:=λc b d=>(at? b i).isSome=true/\g c b λas a=>d (.al i::as) a
theorem PA.mono {X:Cx}(h:PA X j t) (k:∀ g H Q,l g H Q->t g H Q):PA X j l:=λp a s g H Q I q=>h p a s g H Q I (k g H Q q)
def Am (B:Bs) (a:Ad):Prop:=a∉B.dk/\(B.A0 a\/B.H0 a=none)
inductive Peeks (K:nH) (A:Addr->Prop) (H:Hp):List D->List V->Prop where
 | nil:Peeks K A H [] []
 | cons {d:D} {v:V} {ds:List D} {vs:List V}:oF K A H d v->Peeks K A H ds vs->Peeks K A H (d::ds) (v::vs)
section
variable {X:Cx}{K:nH}
theorem hH:rZ X [] Om:=nL.mono λf H Q a=>a.elim λB d T e b hd c k=>k [] d [] H b .nil hd c
theorem eH (j:PD X e p) (l:rZ X g o) (h:Bw e=true:=by rfl):rZ X (e::g) (aC p o):=(hI j l h).mono λD H Q f=>f.elim λB A T F v hd w k =>
 ⟨B,A,T,_,v,hd,w,λr i x E y d1 u=>⟨B,i,(r,some x)::T,_,y,d1,u,λas a n m z ok d2 b=>by
  cases c:sd r with
  | none=>rw[c] at b;exact b.elim
  | some d =>
   rw[c] at b;refine k (.t d::as) a (x::n) m z (.t ok) ?_ b;have q:DS X.K B ((a.zip D++sZ as n)++(r,some x)::T) m:=by simpa using d2
   have s:=(q.thaw c).front;exact DS.mid (by simpa using s)⟩⟩
theorem Bc (j:PE X e (qO i)) (l:rZ X g o) (h:Bw e=true:=by rfl):rZ X (e::g) (aS i o):=(hI j l h).mono λz H Q a=>a.elim λB v T y c hd ⟨q,s⟩ k=>by
 obtain⟨w,m⟩:=eD.mp q;obtain⟨x,d,_⟩:=hd.peek c m;exact⟨x,d,B,v,T,_,c,hd,s,λas b u f t ok d2 n=>k (.al i::as) b (x::u) f t (.al d ok) d2 n⟩
theorem DS.rmArgs:∀ {as:Aa Ar}{vs:Aa V},DS K B (L++(sZ as vs++T)) H->DS K B (L++T) H
 | [],_,h=>h
 | .t d::as,[],h=>h
 | .al _::as,[],h=>h
 | .t d::as,v::vs,h=>DS.rmArgs (as:=as) (vs:=vs) (DS.drop (L1:=L) (L2:=sZ as vs++T) h)
 | .al _::as,v::vs,h=>DS.rmArgs (as:=as) (vs:=vs) h
theorem Gz:∀ {as:Aa Ar}{vs:Aa V},dK (L++(sZ as vs++T))=dK (L++T)
 | [],_=>rfl
 | .t d::as,[]=>rfl
 | .al _::as,[]=>rfl
 | .t d::as,v::vs=>(show dK (L++(Sl.v d,some v)::(sZ as vs++T))=_ from Hg).trans (Gz (as:=as) (vs:=vs))
 | .al _::as,v::vs=>Gz (as:=as) (vs:=vs)
theorem DS.temps (h:DS K B (L++(sZ as j++T)) H) (ok:ArOk σ as j):∀ g,xW as=some g->Reps K (Al B (dK (L++T))) H g j:=by
 have key:∀ p∈sZ as j,sV K (Al B (dK (L++T))) H p.1 p.2:=λp b=>by
  have:=h.ok p (by simp[b]);rw[Gz] at this;exact this
 clear h;induction ok with
 | nil=>intro g e;cases e;exact .nil
 | @t d v as j ok i =>
  intro g e;obtain⟨a,c,rfl⟩:=bS.mp e;obtain⟨u,f,r⟩:=key (.v d,some v) aF;cases f;exact .cons r (i (λp b=>key p (aH _ b)) a c)
 | al _ _ _=>intro g e;cases e
theorem DS.argsP (I:g.length=C.length) (h:DS K B (g.zip C++(sZ as l++T)) H) (ok:ArOk C as l):∀ j,uM g as=some j ->
  Peeks K (Al B (dK (g.zip C++T))) H j l/\Reps K (Am B) H j l/\(Do as=true->Reps K (Al B (dK (g.zip C++T))) H j l):=by
 have key:∀ p∈sZ as l,sV K (Al B (dK (g.zip C++T))) H p.1 p.2:=λp m=>by
  have:=h.ok p (by simp[m]);rw[Gz] at this;exact this
 have A:=h.rmArgs;have am:∀ a,Al B (dK (g.zip C++T)) a->Am B a:=λa z=>⟨z.1,z.2.2⟩
 clear h;induction ok with
 | nil=>intro j e;cases e;exact⟨.nil,.nil,λ_=>.nil⟩
 | @t d v as l ok D =>
  intro j e;obtain⟨f,b,rfl⟩:=bS.mp e;obtain⟨u,k,r⟩:=key (.v d,some v) aF;cases k;obtain⟨E,F,O⟩:=D (λp m=>key p (aH _ m)) f b;exact⟨.cons r.peek E,.cons (r.mono (.all am)) F,λn=>.cons r (O n)⟩
 | @al i v as l G ok D =>
  intro j e;have e:=(show (match at? g i,uM g as with | some d,some j=>some (d::j) | _,_=>none)=some j from e);cases b:at? g i with
  | none=>rw[b] at e;cases e
  | some d =>
   cases k:uM g as with
   | none=>rw[b,k] at e;cases e
   | some f =>
    rw[b,k] at e;cases e;obtain⟨E,F,O⟩:=D (λp m=>key p m) f k;obtain⟨V,q,pv⟩:=A.peek I b;rw[G] at q;cases q;have Q:Rep K (Am B) H d v:=by
     unfold at? at b;cases w:g[i]? with
     | none=>rw[w] at b;cases b
     | some s =>
      rw[w] at b;obtain⟨R,y,S,M,_,P,_⟩:=uH I w;rw[G] at M;cases M;have L:(s,some v)∈g.zip C++T:=by rw[P];simp
      have:=A.ok _ L;cases s with
      | n=>cases b
      | v c=>cases b;obtain⟨u,x,r⟩:=this;cases x;exact r.mono (.all am)
      | o c =>
       cases b;obtain⟨a,x,r⟩:=this;cases x;have N:=A.new a (tG.mpr ⟨_,L,rfl⟩);exact r.rep am ⟨N.2,.inr N.1⟩
    exact⟨.cons pv E,.cons Q F,λn=>by simp[Do] at n⟩
def BZ (g:rL):nV:=λc e d=>g c e λas a=>match xW as with
 | some b=>b.length<=1000/\d (.v (.t b)) a
 | none=>False
def N2 (g:rL):nV:=λc e d=>g c e λas a=>match xW as with
 | some b=>b.length<=1000/\d (.o (.l b)) a
 | none=>False
theorem Pf (h:n<=1000):n<=sizeLine:=bF h (by decide)
theorem wE (h:rZ X g j):PD X (.Tuple g l pos) (BZ j):=(A3 h).mono λv H Q c=>c.elim λB q T u f hd m k=>⟨B,q,T,_,f,hd,m,λas d t s n ok d1 a=>by
 cases b:xW as with
 | none=>rw[b] at a;exact a.elim
 | some e =>
  rw[b] at a;have r:=d1.temps ok e b;exact⟨Pf (by rw[<- r.length];exact a.1),λp i=>k _ d _ _ n (d1.rmArgs.tup i r) a.2⟩⟩
theorem sG (h:rZ X g j):PD X (.List g pos) (N2 j):=(pY h).mono λv H Q c=>c.elim λB q T u f hd m k=>⟨B,q,T,_,f,hd,m,λas d t s n ok d1 a=>by
 cases b:xW as with
 | none=>rw[b] at a;exact a.elim
 | some e =>
  rw[b] at a;have r:=d1.temps ok e b;exact⟨Pf (by rw[<- r.length];exact a.1),λp i=>k _ d _ _ n (d1.rmArgs.lstF i r).mid a.2⟩⟩
def LB:nV:=λ_ b a=>a (.o (.k [])) b
theorem O4:PD X (.Dict [] [] pos) LB:=Rp.mono λh H Q a=>a.elim λB e T f b hd d k p c=>k _ e _ _ b (hd.dKF (ds:=[]) (kvs:=[]) c rfl .nil).mid d
abbrev OC:=Aa D->(Sl->Prop)->Prop
def rM (K:nH) (r:Aa V->Hp->VK->Prop) (f:OC):Prop:=∀ (B:Bs) (L:oN) (H:Hp) (b:Aa D) (c:Aa V) (d:Sl->Prop) (Q:VK),DS K B L H->Peeks K (Al B (dK L)) H b c->f b d ->
 (∀ s v a,d s->DS K B ((s,some v)::L) a->Q v a)->r c H Q
def dC (f:OC) (g:rL):nV:=λb e d=>g b e λas a=>match uM a as with
 | some c=>f c λr=>d r a
 | none=>False
theorem Ie (l:rM X.K r f) (h:dE X.K (dC f o) p H Q):dA X.K o p H λj g=>r j g Q:=by
 obtain⟨B,u,T,w,n,hd,t,k⟩:=h;refine⟨B,u,T,_,n,hd,t,λas a j g i ok d1 b=>?_⟩;cases c:uM a as with
 | none=>rw[c] at b;exact b.elim
 | some e =>
  rw[c] at b;exact l B _ g e j _ Q d1.rmArgs (d1.argsP i ok e c).1 b λs v m q d=>k s a v m i d.mid q
variable {id:String}
theorem pG (C:oQ X (.builtin id) r) (I:rM X.K r f) (T:X.mg x=none) (hv:bootBuiltins x=some (.builtin id)) (o:rZ X (e::l) ta) (J:Gl X x:=by rfl) (U:x ≠ "__name__" := by decide) (g:(x == ("__debug__" : Af))=false:=by decide)
  (j:StB X e l pos:=by exact {}):PD X (.Call (.Name x p) (e::l) [] pos) (dC f ta) :=
 (sM C J T hv o U g j).mono λ_ _ _ h=>Ie I h
theorem uI (C:oQ X (.type id) r) (I:rM X.K r f) (T:X.mg x=none) (hv:bootBuiltins x=some (.type id)) (o:rZ X (e::l) ta) (J:Gl X x:=by rfl) (U:x ≠ "__name__" := by decide) (g:(x == ("__debug__" : Af))=false:=by decide)
  (j:StB X e l pos:=by exact {}):PD X (.Call (.Name x p) (e::l) [] pos) (dC f ta) :=
 (xR C J T hv o U g j).mono λ_ _ _ h=>Ie I h
end
def Dt:Sl->Bool
 | .v d=>imm d
 | .o (.l b)=>uF b
 | .o (.k a)=>uF (a.map (·.2))
 | .o (.T a)=>uF (a.map (·.2))
 | .o (.dM a)=>uF (a.map (·.2))
 | _=>false
def RV (K:nH) (g:Aa Ad) (A:Ad->Prop) (H:Hp) (s:Sl) (v:V) (j:Hp):Prop:=match s with
 | .n=>True
 | .v d=>Rep K (λa=>a∉g/\(A a\/H a=none)) j d v
 | .o d=>∃ a,v = .ref a/\H a=none/\a∉g/\pO K (λb=>b∉g/\b≠a/\(A b\/H b=none)) j a d
def A2 (j:Aa Ad) (H g:Hp):Prop:=∀ b o,H b=some o->b∉j->g b=some o
abbrev RD:=Aa Ad->Aa D->(Sl->Prop)->Prop
def wX (K:nH) (R:RD):Sp:=λf H Q _=>∃ (b:Aa Ad) (A:Ad->Prop) (d:Aa D) (e:Sl->Prop),Dk b H/\(∀ a,A a->a∉b)/\Reps K A H d f/\R b d e /\
 ∀ s v c,e s->A2 b H c->Dk b c->RV K b A H s v c->Q v c
section
variable {K:nH}
theorem pO.immR (h:pO K A H a d) (e:Dt (.o d)=true):pO K g H a d:=by
 cases d with
 | l _=>obtain⟨b,h,r⟩:=h;exact⟨b,h,r.imm e⟩
 | k _=>obtain⟨b,h,k,r⟩:=h;exact⟨b,h,k,r.imm e⟩
 | T _=>obtain⟨b,h,k,r⟩:=h;exact⟨b,h,k,r.imm e⟩
 | dM _=>obtain⟨b,h,k,r⟩:=h;exact⟨b,h,k,r.imm e⟩
 | _=>exact False.elim h
theorem Kp.frm (f:A2 g H l) (hk:Dk g H) (h:∀ a,A a->a∉g/\j a):Kp A j H l:=by
 refine⟨λa o b e=>⟨(h a b).2,f a o e (h a b).1⟩,λa o t e=>f a o e λz=>?_⟩;obtain⟨c,q⟩:=hk.some z;rw[e] at q;cases q;cases t
theorem DS.call (h:DS K B L H) (f:A2 B.dk H g) (hk:Dk B.dk g):DS K B L g :=
 ⟨λb o e n=>f b o (h.fr b o e n) n,hk,h.nd,h.new,λp c=>(h.ok p c).mono (.frm f h.dk λa z=>⟨z.1,z⟩) λb d o q=>f b o q (h.new b (tG.mpr ⟨p,c,d⟩)).2⟩
theorem DS.adopt (h:DS K B L H) (f:A2 B.dk H g) (hk:Dk B.dk g) (j:H a=none) (r:pO K (Al B (a::dK L)) g a d):DS K B ((.o d,some (.ref a))::L) g:=by
 obtain⟨f1,f2,k⟩:=h.free j;have s:Kp (Al B (dK L)) (Al B (a::dK L)) H g:=by
  refine⟨λb o c e=>⟨⟨c.1,λz=>?_,c.2.2⟩,f b o e c.1⟩,λb o t e=>f b o e λz=>?_⟩
  .rcases aI.mp z with q | q
   .subst q;rw[j] at e;cases e
   .exact c.2.1 q
  .obtain⟨u,q⟩:=h.dk.some z;rw[e] at q;cases q;cases t
 have i:dK ((Sl.o d,some (V.ref a))::L)=a::dK L:=rfl;refine⟨λb o e n=>f b o (h.fr b o e n) n,hk,by rw[i];exact bM.mpr ⟨k,h.nd⟩,λb c=>?_,λp m=>?_⟩
 .rw[i] at c;rcases aI.mp c with q | q
  .subst q;exact⟨f1,f2⟩
  .exact h.new b q
 .rw[i];rcases aI.mp m with q | q
  .subst q;exact⟨a,rfl,r⟩
  .exact (h.ok p q).mono s λb c o w=>f b o w (h.new b (tG.mpr ⟨p,q,c⟩)).2
theorem DS.result (h:DS K B L H) (f:A2 B.dk H j) (hk:Dk B.dk j) (r:RV K B.dk l H s v j) (g:(∀ a,l a->Al B (dK L) a)\/Dt s=true):DS K B ((s,some v)::L) j:=by
 have fresh:∀ b,b∉B.dk->H b=none->Al B (dK L) b:=λb n e=>⟨n,(h.free e).2.2,.inr (h.free e).1⟩
 cases s with
 | n=>exact (h.call f hk).pushN (L1:=[]) _
 | v d =>
  refine (h.call f hk).pushF ?_;rcases g with g | g
  .exact (show Rep K _ j d v from r).mono (.all λb z=>z.2.elim (g b) (fresh b z.1))
  .exact (show Rep K _ j d v from r).imm g
 | o d =>
  obtain⟨a,rfl,c,hd,r⟩:=r;refine h.adopt f hk c ?_;rcases g with g | g
  .refine r.mono (.all λb z=>?_) λ_ q=>q
   have:=z.2.2.elim (g b) (fresh b z.1);exact⟨this.1,λq=>(aI.mp q).elim z.2.1 this.2.1,this.2.2⟩
  .exact r.immR g
end
def zQ (R:RD) (g:rL):nV:=λb e d=>g b e λas a=>match uM a as with
 | some c=>R b c λs=>(Do as=true\/Dt s=true)/\d s a
 | none=>False
section
variable {X:Cx}{R:RD}
theorem Xt (h:dE X.K (zQ R l) o H Q):dA X.K l o H λj g=>wX X.K R (j++[]) g Q E0:=by
 obtain⟨B,y,T,A,t,hd,u,k⟩:=h;refine⟨B,y,T,_,t,hd,u,λas b j g n ok d1 c=>?_⟩;cases m:uM b as with
 | none=>rw[m] at c;exact c.elim
 | some i =>
  rw[m] at c;obtain⟨_,w,x⟩:=d1.argsP n ok i m;have d2:=d1.rmArgs;rw[cZ];by_cases q:Do as=true
  .exact⟨B.dk,_,i,_,d2.dk,λa z=>z.1,x q,c,λs v e d f hk r=>k s b v e n (d2.result f hk r (.inl λa z=>z)).mid d.2⟩
  .exact⟨B.dk,_,i,_,d2.dk,λa z=>z.1,w,c,λs v e d f hk r=>k s b v e n (d2.result f hk r (.inr (d.1.resolve_left q))).mid d.2⟩
theorem W9 (F:FnOk X.prog X.w X.K X.mg X.base oK k f fd T (wX X.K R)) (J:Room k X.A) (C:Gl X x) (I:X.mg x=some (.ref f)) (hk:PySem.W.keepIn X.K (.ref f)=true) (r:xN X.K fd T [])
  (o:rZ X (e::l) U) (g:(x == ("__debug__" : Af))=false:=by decide) (j:StB X e l pos:=by exact {}) :
  PD X (.Call (.Name x p) (e::l) [] pos) (zQ R U):=(qF F J C I hk r .nil pX o g j).mono λ_ _ _ h=>Xt h
end
structure DEnds where
 nx:List Sl->Prop
 rt:Sl->Prop
 bk:List Sl->Prop:=λ_=>False
 ct:List Sl->Prop:=λ_=>False
abbrev qL:=Aa Ad->DEnds->Aa Sl->Prop
def Cj (K:nH) (B:Bs) (T:oN) (n:Nat) (g:DEnds) (j:Ends):Prop :=
 (∀ b a c,b.length=a.length->a.length=n->DS K B (b.zip a++T) c->(g.nx b->j.nx a c)/\(g.bk b->j.bk a c)/\(g.ct b->j.ct a c)) /\
 ∀ (r:Sl) (v:V) (b:Aa Sl) (a:St) (c:Hp),b.length=a.length->DS K B (b.zip a++(r,some v)::T) c->g.rt r->j.rt v c
def dS (K:nH) (g:qL):TS:=λd b H=>∃ (B:Bs) (a:Aa Sl) (T:oN) (c:DEnds),a.length=b.length/\DS K B (a.zip b++T) H/\g B.dk c a/\Cj K B T b.length c d
theorem dS.elim {K:nH}{P:Prop}(h:dS K p o j H) (f:∀ (B:Bs) (g:Aa Sl) (T:oN) (l:DEnds),g.length=j.length->DS K B (g.zip j++T) H->p B.dk l g->Cj K B T j.length l o->P):P:=by
 obtain⟨B,g,T,c,a,hd,b,k⟩:=h;exact f B g T c a hd b k
abbrev tH (X:Cx) (st:Stmt) (g:qL):Prop:=PS X st (dS X.K g)
abbrev uY (X:Cx) (st:Aa Stmt) (g:qL):Prop:=pR X st (dS X.K g)
theorem PS.mono {X:Cx}{st:Stmt}(h:PS X st t) (k:∀ D g H,j D g H->t D g H):PS X st j:=λa s g H D I q=>h a s g H D I (k D g H q)
theorem pR.mono {X:Cx}{st:Aa Stmt}(h:pR X st t) (k:∀ D g H,j D g H->t D g H):pR X st j:=λa s g H D I q=>h a s g H D I (k D g H q)
def Jk:qL:=λ_ a b=>a.nx b
def Ec (t u:qL):qL:=λb a c=>t b { a with nx:=u b a } c
def sR (g:nV):qL:=λb a c=>g b c λr _=>a.rt r
def Pk (g:nV):qL:=λc b d=>g c d λ_ a=>b.nx a
def zE (c:rK) (t u:qL):qL:=λd e f=>c d f λb a=>if b=true then t d e a else u d e a
def rY (i:Nat) (g:nV):qL:=λc b d=>g c d λr a=>b.nx (a.set i r)
section
variable {X:Cx}{K:nH}{st:Stmt}{rest:Aa Stmt}
theorem Cj.seq (h:Cj K B T n o p){P:Aa Sl->Prop}(k:∀ j g l,j.length=g.length->g.length=n->DS K B (j.zip g++T) l->P j->N g l):Cj K B T n { o with nx:=P } { p with nx:=N } :=
 ⟨λj g l a b d=>⟨k j g l a b d,(h.1 j g l a b d).2⟩,h.2⟩
theorem pN:uY X [] Jk:=yH.mono λi f H a=>a.elim λB e T h b hd c d=>(d.1 e f H b rfl hd).1 c
theorem hO (g:tH X st t) (j:uY X rest u):uY X (st::rest) (Ec t u):=(pW g j).mono λs w H a=>a.elim λB m T e f hd h c =>
 ⟨B,m,T,_,f,hd,h,c.seq λb n v i k d q=>⟨B,b,T,e,i,d,q,by rw[k];exact c⟩⟩
theorem nQ (h:tH X st t):uY X [st] t:=pQ h
theorem oJ (h:PD X e g):tH X (.Return (some e) pos) (sR g):=(uL h).mono λt q H a=>a.elim λB n T s f hd i m=>⟨B,n,T,_,f,hd,i,λr b v c k d1 d=>m.2 r v b q c k d1 d⟩
theorem yT (h:PD X e j) (g:swapsWith e none pos.line X.env=pure false:=by rfl):tH X (.Expr e pos) (Pk j):=(Az h g).mono λt q H a=>a.elim λB n T s f hd i m=>⟨B,n,T,_,f,hd,i,λr b v c k d1 d=>(m.1 b q c k rfl d1.drop).1 d⟩
theorem pL (l:tO X c o) (g:uY X a t) (j:uY X b u):tH X (.If c a b pos) (zE o t u):=(wI l g j).mono λs w H e=>e.elim λB q T f m hd n k=>⟨B,q,T,_,m,hd,n,λc d v i d1 h=>by
 cases c with
 | true=>exact (aP rfl).mpr ⟨B,d,T,f,i,d1,(aP rfl).mp h,k⟩
 | false=>exact vQ ⟨B,d,T,f,i,d1,(aJ (by decide)).mp h,k⟩⟩
theorem DS.assign {g:Aa Sl}{j:St}(l:g.length=j.length) (h:DS K B (g.zip j++(r,some v)::T) H) (i:Nat):DS K B ((g.set i r).zip (j.set i (some v))++T) H:=by
 by_cases m:i<g.length
 .obtain⟨b,y,c,_,_,n,a⟩:=uH l (aE m);rw[a r (some v)];rw[n] at h;have d:DS K B (b++(c++(r,some v)::T)) H:=DS.drop (L1:=b) (x:=(g[i],y)) (by simpa using h);have e:DS K B ((b++c)++(r,some v)::T) H:=by simpa using d
  have f:=e.front;have k:DS K B ((r,some v)::(b++(c++T))) H:=by simpa using f
  simpa using k.mid
 .rw[fA (by omega),fA (by omega)];exact h.drop
theorem oE (i:Nat) (j:X.N.Nodup) (l:PD X e J) (p:X.N[i]?=some x:=by rfl) (I:vI X.env.scope x:=by first | exact Or.inl rfl | exact Or.inr rfl) (C:swapsWith e (some (.Name x g)) pos.line X.env=pure false:=by rfl)
  (o:X.fn x=true\/X.env.scope.names.lookup x=some .local:=by first | exact .inl rfl | exact .inr rfl | assumption):tH X (.Assign [.Name x g] e pos) (rY i J) :=
 (oS j p I l C o).mono λs t H a=>a.elim λB m T q f hd h k=>⟨B,m,T,_,f,hd,h,λr n v c b d1 d=>(k.1 _ _ c (by rw[aY,aY];exact b) (aY ..) (d1.assign b i)).1 d⟩
end
def zK (N:Aa Af) (g:Aa D):Aa Sl:=g.map .v++List.replicate (N.length-g.length) .n
section
variable {P:Ah}{K:nH}
theorem Pu:∀ {g:Aa D}{j:Aa V}(n:Nat),g.length=j.length->(g.map Sl.v++List.replicate n Sl.n).zip (j.map some++List.replicate n none)=(g.zip j).map (λp=>(Sl.v p.1,some p.2))++List.replicate n (Sl.n,none)
 | [],[],n,_=>by simp
 | [],_::_,_,e=>by simp at e
 | _::_,[],_,e=>by simp at e
 | d::g,v::j,n,e=>by
  simp only[aN,cT,cV,iL,true_and];exact Pu n (by simpa using e)
theorem Xb (l:Reps K A H g j):∀ p∈g.zip j,Rep K A H p.1 p.2:=by
 induction g generalizing j with
 | nil=>intro p a;cases a
 | cons d g b =>
  cases l with
  | cons h r =>
  intro p a;rw[cV] at a;rcases aI.mp a with rfl | q
  .exact h
  .exact b r p q
theorem Fun.okD {st:Stmt}{R:RD}(F:Fun K x J st f fd) (S:FnScope N ps (oB st)) (I:∀ C g T,R C g T->g.length=ps.length) (aa:ps.length<=N.length)
  (U:∀ (l:Ac) (A:Around) (j:Aa Env) (s:Ae) (H:Hp) (E:XK) (C:Aa Ad) (g:Aa D) (T:Sl->Prop),Room k (A.deeper (envOfC J (oB st) s.heap.objs.size f l))->R C g T ->∃ t,uY (yN oK P w K mg base N J (oB st) f l A j s H E).nox (sT st) t/\t C { nx:=λ_=>T (.v .e),rt:=T } (zK N g)):FnOk P w K mg base oK (k+1) f fd ps (wX K R):=by
 refine F.ok S (λm H Q E M=>by obtain⟨C,A,g,T,_,_,r,u,_⟩:=M;rw[<- r.length];exact I _ _ _ u) λl A j s H m Q E hr M=>?_
 obtain⟨C,A1,g,T,L,hA,r,u,X⟩:=M;obtain⟨t,ht,hb⟩:=U l A j s H E C g T hr u;have G:g.length=m.length:=r.length;have dl:g.length=ps.length:=I _ _ _ u;refine⟨_,ht,⟨C,A1,H⟩,zK N g,[],_,?_,?_,hb,?_,?_⟩
 .unfold zK tE;rw[List.length_append,List.length_append,List.length_map,List.length_map,List.length_replicate,List.length_replicate,G]
 .have W:(zK N g).zip (tE N m)=(g.zip m).map (λp=>(Sl.v p.1,some p.2))++List.replicate (N.length-g.length) (Sl.n,none):=by
   unfold zK tE;rw[<- G];exact Pu _ G
  have B:dK ((zK N g).zip (tE N m))=[]:=by
   rw[W];refine jC.mpr λa i=>?_
   obtain⟨q,c,e⟩:=tG.mp i;rcases aT.mp c with z | z
   .obtain⟨p,_,rfl⟩:=aM.mp z;cases e
   .rw[(List.mem_replicate.mp z).2] at e;cases e
  rw[cZ];refine⟨λb o e _=>e,L,by rw[B];exact iZ,(λa i=>by rw[B] at i;exact absurd i bC),λq c=>?_⟩;rw[B];rw[W] at c;rcases aT.mp c with z | z
  .obtain⟨p,hp,rfl⟩:=aM.mp z;exact⟨p.2,rfl,(Xb r p hp).mono (.all λa i=>⟨hA a i,bC,.inl i⟩)⟩
  .rw[(List.mem_replicate.mp z).2];trivial
 .intro O V y l1 l2 d1;refine⟨λh=>X _ _ y h d1.fr d1.dk .e,λh=>h.elim,λh=>h.elim⟩
 .intro Z v O V y l1 d1 h;refine X Z v y h d1.fr d1.dk ?_;cases Z with
  | n=>trivial
  | v d=>exact d1.valAt.mono (.all λa z=>⟨z.1,z.2.2⟩)
  | o d =>
   obtain⟨a,rfl,r'⟩:=d1.ownAt;have Y:=d1.new a (by rw[sE];exact bJ _ aF);exact⟨a,rfl,Y.1,Y.2,r'.mono (.all λb z=>⟨z.1,λq=>z.2.1 (by simp[q]),z.2.2⟩) λ_ q=>q⟩
end
abbrev vH:=D->Aa Sl->(Aa Sl->Prop)->Prop
abbrev Bn:=Aa D->Aa Sl->(Aa Sl->Prop)->Prop
noncomputable def qE (g:Aa D) (j:Aa V):oN:=(g.zip j).map λp=>(Sl.v p.1,some p.2)
def dG (K:nH) (n:Nat) (g:vH):TG:=λv c H Q=>∃ (B:Bs) (e:Aa Sl) (T:oN) (d:D) (h:Aa Sl->Prop),e.length=c.length/\DS K B (e.zip c++(.v d,some v)::T) H/\g d e h /\
 ∀ (b:Aa Sl) (a:St) (f:Hp),b.length=a.length->a.length=c.length->(∀ j,n<=j->a[j]?=c[j]?)->DS K B (b.zip a++T) f->h b->Q a f
def Jw (K:nH) (n:Nat) (g:Bn):Bh:=λh c H Q=>∃ (B:Bs) (e:Aa Sl) (T:oN) (d:Aa D) (i:Aa Sl->Prop),e.length=c.length/\d.length=h.length/\DS K B (e.zip c++(qE d h++T)) H/\g d e i /\
 ∀ (b:Aa Sl) (a:St) (f:Hp),b.length=a.length->a.length=c.length->(∀ j,n<=j->a[j]?=c[j]?)->DS K B (b.zip a++T) f->i b->Q a f
theorem dG.elim {K:nH}{P:Prop}(h:dG K n I v r H Q) (f:∀ (B:Bs) (o:Aa Sl) (T:oN) (d:D) (p:Aa Sl->Prop),o.length=r.length->DS K B (o.zip r++(.v d,some v)::T) H->I d o p ->(∀ (l:Aa Sl) (g:St) (C:Hp),l.length=g.length->g.length=r.length->(∀ j,n<=j->g[j]?=r[j]?)->DS K B (l.zip g++T) C->p l->Q g C)->P):P:=by
 obtain⟨B,o,T,d,p,a,hd,b,k⟩:=h;exact f B o T d p a hd b k
theorem Jw.elim {K:nH}{P:Prop}(h:Jw K n U J C H Q) (f:∀ (B:Bs) (p:Aa Sl) (T:oN) (o:Aa D) (r:Aa Sl->Prop),p.length=C.length->o.length=J.length->DS K B (p.zip C++(qE o J++T)) H->U o p r ->(∀ (l:Aa Sl) (g:St) (I:Hp),l.length=g.length->g.length=C.length->(∀ j,n<=j->g[j]?=C[j]?)->DS K B (l.zip g++T) I->r l->Q g I)->P):P:=by
 obtain⟨B,p,T,o,r,a,c,hd,b,k⟩:=h;exact f B p T o r a c hd b k
abbrev xB (X:Cx) (n:Nat) (e:Expr) (g:vH):Prop:=PG X e (dG X.K n g)
abbrev Ea (X:Cx) (n:Nat) (g:Aa Expr) (j:Bn):Prop:=xU X g (Jw X.K n j)
theorem PG.mono {X:Cx}(h:PG X e t) (k:∀ v g H Q,j v g H Q->t v g H Q):PG X e j:=λa s g H v u Q I r q=>h a s g H v u Q I r (k v g H Q q)
theorem xU.mono {X:Cx}(h:xU X j t) (k:∀ v g H Q,l v g H Q->t v g H Q):xU X j l:=λa s g H v u Q I r q=>h a s g H v u Q I r (k v g H Q q)
def gN (i:Nat):vH:=λd b a=>a (b.set i (.v d))
def JG:Bn:=λa c b=>a=[]/\b c
def GJ (g:vH) (j:Bn):Bn:=λa e c=>match a with
 | d::a=>g d e λb=>j a b c
 | []=>False
def Z8 (n:Nat) (g:Bn):vH:=λd c b=>match d with
 | .t a=>a.length=n/\g a c b
 | _=>False
section
variable {X:Cx}{K:nH}
theorem DS.pushs {A:Ad->Prop}:∀ {ds:Aa D}{vs:Aa V},DS K B (L++T) H->Reps K (Al B (dK (L++T))) H ds vs->DS K B (L++(qE ds vs++T)) H
 | _,_,h,.nil=>h
 | _,_,h,.cons (ds:=ds) (vs:=vs) r i=>by
  have c:=DS.pushs (A:=A) h i;have b:dK (L++(qE ds vs++T))=dK (L++T):=by
   have:∀ (ds:Aa D) (vs:Aa V),dK (qE ds vs)=[]:=λds vs=>by
    refine jC.mpr λa d=>?_
    obtain⟨q,f,e⟩:=tG.mp d;obtain⟨p,_,rfl⟩:=aM.mp f;cases e
   rw[qY,qY,qY,this,kL]
  exact c.push (by rw[b];exact r)
theorem nT (i:Nat) (g:X.N.Nodup) (o:X.N[i]?=some x:=by rfl) (p:vI X.env.scope x:=by first | exact Or.inl rfl | exact Or.inr rfl) (r:i<m:=by decide) (l:X.fn x=true\/X.env.scope.names.lookup x=some .local:=by first | exact .inl rfl | exact .inr rfl | assumption):xB X m (.Name x pos) (gN i) :=
 (tP g o p l).mono λv n H Q a=>a.elim λB h T d f b hd c k=>k _ _ H (by rw[aY,aY];exact b) (aY ..) (λj e=>cI (by omega)) (hd.assign b i) c
theorem yG:Ea X m [] JG:=BE.mono λf i H Q a=>a.elim λB h T n q c e hd ⟨b,d⟩ k=>by
 subst b;cases f with
 | nil=>exact⟨rfl,k h i H c rfl (λ_ _=>rfl) hd d⟩
 | cons _ _=>simp at e
theorem rO (p:xB X m e g) (r:Ea X m l o) (C:(assignEach (e::l) X.env).map (·.2)=assign e X.env::(assignEach l X.env).map (·.2):=by rfl):Ea X m (e::l) (GJ g o) :=
 (Xh p r C).mono λb M H Q c=>c.elim λB F T a E w t hd s k=>by
  cases a with
  | nil=>exact s.elim
  | cons d a =>
   cases b with
   | nil=>simp at t
   | cons v b =>
    refine⟨v,b,rfl,B,F,qE a b++T,d,_,w,hd,s,λf G L x y f1 d1 q=>⟨B,f,T,a,E,x,by simpa using t,d1,q,λh i u z A f2 d2 D=>k h i u z (A.trans y) (λj n=>(f2 j n).trans (f1 j n)) d2 D⟩⟩
theorem xZ (o:X.calm=true) (h:Ea X m g l) (p:(assignEach g X.env).length=n:=by rfl) (j:(assignEach g X.env).findIdx? (·.1)=none:=by rfl):xB X m (.Tuple g k pos) (Z8 n l) :=
 (BF o h p j).mono λv x H Q b=>b.elim λB w T d u q hd c k=>by
  cases d with
  | t f =>
   obtain⟨a,s,rfl,i,e⟩:=hd.valAt.tup_inv;exact⟨a,s,rfl,nY.of i,by rw[<- e.length];exact c.1,B,w,T,f,u,q,e.length,hd.drop.pushs (A:=λ_=>True) e,c.2,k⟩
  | _=>exact c.elim
end
def yS:D->D->D->Ab D
 | .l c,.int i,d=>(sK c.length i).map λj=>.l (c.set j d)
 | .k a,k,d=>if a.length<100000 then (match k with
  | .t b=>(wK b).map λj=>.dM (oY (a.map λp=>((Sum.inl p.1:MK),p.2)) (.inr j) d)
  | k=>(rW k).map λk=>.k (oY a k d)) else none
 | .T a,.t b,d=>if a.length<100000 then (wK b).map λk=>.T (oY a k d) else none
 | .dM a,k,d=>if a.length<100000 then (Cg k).map λk=>.dM (oY a k d) else none
 | _,_,_=>none
def Iv (i:Nat) (g tv:nV):qL:=λf h q=>tv f q λn a=>(at? a i).isSome=true/\g f a λm b=>match sd n,sd m,b[i]? with
 | some d,some k,some (.o c)=>∃ e,yS c k d=some e/\h.nx (b.set i (.o e))
 | _,_,_=>False
section
variable {X:Cx}{K:nH}{tv:nV}
def Jr:Ik:=λo i v H Q=>Tv o i v H Q\/∃ a b,o = .ref a/\sU H a i v b/\Q b
theorem Pw (j:X.A.units+1<cLine):Iw X Jr:=by
 intro b s t H o i v n m u Q I d c e h;rcases h with h | ⟨a,f,rfl,g,q⟩
 .exact Hf b s t H o i v n m u Q I d c e h
 .cases d;exact X3 j I g c e λw k=>⟨f,k,q⟩
theorem DS.slotW {g:Aa Sl}{j:St}(C:g.length=j.length) (h:DS K B (g.zip j++T) H){i:Nat}{c:D}(e:g[i]?=some (.o c)):∃ a,j[i]?=some (some (.ref a))/\pO K (Al B (dK (g.zip j++T))) H a c /\
  ∀ (o:HO) (l:D),(∀ p,Kp (Al B (dK (g.zip j++T))) p H (upd H a o)->pO K p (upd H a o) a l)->DS K B ((g.set i (.o l)).zip j++T) (upd H a o):=by
 obtain⟨q,y,s,m,_,n,b⟩:=uH C e;have d:DS K B (q++(.o c,y)::(s++T)) H:=by rw[n] at h;simpa using h
 obtain⟨a,rfl,_⟩:=d.at;have f:dK (g.zip j++T)=dK q++a::dK (s++T):=by rw[n,bL,cT,sE];rfl
 obtain⟨v,t,r⟩:=d.ownAt;cases t;refine⟨a,m,by rw[f];exact r,λo l k=>?_⟩;rw[f] at k;have u:=d.write (o:=o) (d':=l) k;have:=b (.o l) (some (.ref a));rw[zY m] at this;rw[this]
 simpa using u
theorem ID (h:yS c k d=some c') (r:pO K A H a c) (U:oF K A H k y) (J:Rep K A H d v)
  (I:∀ o,(∀ C,Kp A C H (upd H a o)->pO K C (upd H a o) a c')->Q (upd H a o)):Jr (.ref a) y v H Q:=by
 cases c with
 | l P =>
  cases k with
  | int i =>
   obtain⟨q,z,x⟩:=r;obtain⟨j,u,rfl⟩:=bS.mp h;have:=U.int_inv;subst this;exact .inl ⟨a,q,i,j,rfl,rfl,z,by rw[<- x.length];exact u,I _ λC w=>⟨_,hG,(x.set J j).mono w⟩⟩
  | _=>cases h
 | k e =>
  obtain⟨q,z,s,x⟩:=r;by_cases n:e.length<100000
  .have F:q.length<sizeLine:=by
    have:=cL List.length s;simp only[aA] at this;exact aR (show q.length<100000 by omega) (by decide)
   have N:(rW k).map (λj=>D.k (oY e j d))=some c'->Jr (.ref a) y v H Q:=λh=>by
    obtain⟨j,u,rfl⟩:=bS.mp h;rw[Ak u U];obtain⟨B,E⟩:=C4 s x (k:=j) J;exact .inr ⟨a,_,rfl,sU.k z F,I _ λC w=>⟨_,hG,B,E.mono w⟩⟩
   unfold yS at h;dsimp only at h;rw[aP n] at h;cases k with
   | t M =>
    obtain⟨j,u,rfl⟩:=bS.mp h;obtain⟨b,O,rfl,G,L⟩:=U.tup_inv;rw[F9 u L] at G;obtain⟨B,E⟩:=C4 (ds:=e.map λp=>((Sum.inl p.1:MK),p.2)) (kvs:=q.map λp=>((Sum.inl p.1:MK),p.2)) (by rw[bA,bA];exact (bA (f:=Prod.fst) (g:=(Sum.inl:gV->MK))).symm.trans ((cL (List.map Sum.inl) s).trans bA)) (by rw[bA,bA];exact x) (k:=.inr j) J;exact .inr ⟨a,_,rfl,sU.km z G F,I _ λC w=>⟨_,hG,B,E.mono w⟩⟩
   | _=>exact N h
  .unfold yS at h;dsimp only at h;rw[aJ n] at h;cases h
 | T e =>
  cases k with
  | t M =>
   obtain⟨q,z,s,x⟩:=r;have h:=(show (if e.length<100000 then (wK M).map λj=>D.T (oY e j d) else none)=some c' from h);by_cases n:e.length<100000
   .rw[aP n] at h;obtain⟨j,u,rfl⟩:=bS.mp h;obtain⟨b,O,rfl,G,L⟩:=U.tup_inv;rw[F9 u L] at G;obtain⟨B,E⟩:=C4 s x (k:=j) J;have F:q.length<sizeLine:=by
     have:=cL List.length s;simp only[aA] at this;exact aR (show q.length<100000 by omega) (by decide)
    exact .inr ⟨a,_,rfl,sU.t z G F,I _ λC w=>⟨_,hG,B,E.mono w⟩⟩
   .rw[aJ n] at h;cases h
  | _=>cases h
 | dM e =>
  obtain⟨q,z,s,x⟩:=r;have h:=(show (if e.length<100000 then (Cg k).map λj=>D.dM (oY e j d) else none)=some c' from h);by_cases n:e.length<100000
  .rw[aP n] at h;obtain⟨j,u,rfl⟩:=bS.mp h;obtain⟨B,E⟩:=C4 s x (k:=j) J;have F:q.length<sizeLine:=by
    have:=cL List.length s;simp only[aA] at this;exact aR (show q.length<100000 by omega) (by decide)
   exact .inr ⟨a,_,rfl,sU.m z (Qp u U) F,I _ λC w=>⟨_,hG,B,E.mono w⟩⟩
  .rw[aJ n] at h;cases h
 | _=>cases h
theorem vB (U:X.A.units+1<cLine) (hv:PD X e tv) (I:PE X o (qO n)) (r:PD X i ti)
  (j:∀ v,assign (.Subscript o i g) X.env v=(do
   let l <- holding [v] (eval o X.env);let C <- holding [v,l] (eval i X.env)
   standAt g
   holding [v,l,C] (setItem l C v)
   release [v,l,C] []):=by intro _;rfl)
  (J:swapsWithSole [.Subscript o i g] e pos.line X.env=pure false:=by rfl) (hw:swappedStores [.Subscript o i g] e X.env=pure none:=by rfl)
  (p:(assignEach [.Subscript o i g] X.env).map (·.2)=[assign (.Subscript o i g) X.env]:=by rfl):tH X (.Assign [.Subscript o i g] e pos) (Iv n ti tv) :=
 (Di hv (Dq I r (Pw U) j) J hw p).mono λDn σ H q=>q.elim λB ρ T De N hd P Q=>⟨B,ρ,T,_,N,hd,P,λF u v H1 D d1 t=>by
  obtain⟨r,p⟩:=t;obtain⟨d0,L⟩:=eD.mp r;obtain⟨x,z,_⟩:=d1.peek D L;refine⟨x,z,B,u,(F,some v)::T,_,D,d1,p,λY w y H2 E d2 b=>?_⟩;cases f:sd F with
  | none=>rw[f] at b;exact b.elim
  | some d =>
   cases h:sd Y with
   | none=>rw[f,h] at b;exact b.elim
   | some k =>
    cases m:w[n]? with
    | none=>rw[f,h,m] at b;exact b.elim
    | some s =>
     cases s with
     | n=>rw[f,h,m] at b;exact b.elim
     | v c=>rw[f,h,m] at b;exact b.elim
     | o c =>
      rw[f,h,m] at b;obtain⟨G,M,b⟩:=b;obtain⟨R,S,V⟩:=d2.two f h;obtain⟨a,j,W,Z⟩:=R.slotW E m;rw[z] at j;cases j;exact ID M W V.peek S λo O=>(Q.1 _ _ _ (by rw[aY];exact E) rfl (Z o G O)).1 b⟩
end
section
variable {X:Cx}
def Z0 (K:nH) (R:It->Hp->Prop) (x:V) (H:Hp):Prop:=(∃ a,x = .ref a/\(∃ b,dT K H a b)/\R (wP K a) H)\/(∃ a,x = .ref a/\(∃ b,nY K H a b)/\R (Br K a) H)\/∃ z:Af,x = .str z/\z.cps.all (·<128)=true/\R (vF z) H
def EY (K:nH) (g:TE):TI:=λb H R=>g b H λx a=>Z0 K R x a
theorem Nh (g:PE X l j):PI X r l (EY X.K j):=by
 intro d s G H R I h;refine nJ (g d s G H _ I h) λv c u=>?_
 obtain⟨x,k,f,w,D⟩:=u;have m:∀ b∈[c.heap.objs.size],tN X d k b:=λb A=>by
  have e:b=c.heap.objs.size:=by simpa using A
  subst e;exact f.fpOk (aU _) (f.hok.fresh (aU _))
 rcases D with⟨a,rfl,⟨F,n⟩,q⟩ | ⟨a,rfl,⟨F,n⟩,q⟩ | ⟨z,rfl,y,q⟩
 .cases w;obtain⟨i,E,p,B⟩:=f.list n;exact iM p.isList ⟨c.heap.objs.size,[c.heap.objs.size],_,_,k,rfl,f.kept (t':=c.toks) λb o e=>aK _ e,Ri a _,⟨_,bB _ rfl,rfl,rfl⟩,m,q⟩
 .cases w;obtain⟨i,E,p,B⟩:=f.tuple n;exact wpAny_pyIter_tuple (show c.heap.IsTuple a i.toArray from p) ⟨c.heap.objs.size,[c.heap.objs.size],_,_,k,rfl,f.kept (t':=c.toks) λb o e=>aK _ e,Xw a _,⟨_,bB _ rfl,rfl,rfl⟩,m,q⟩
 .obtain⟨t,rfl⟩:=w;exact wpAny_pyIter_ascii y ⟨c.heap.objs.size,[c.heap.objs.size],_,vF z,k,rfl,f.kept (t':=c.toks) λb L q=>aK _ q,Ua z t _,⟨_,bB _ rfl,rfl,rfl⟩,m,q⟩
end
def xJ (K:nH) (A:Ad->Prop) (H:Hp) (E:oN):Prop:=∀ p∈E,sV K A H p.1 p.2
structure YD (K:nH) (J:It) (ds:List D) (E:oN):Prop where
 vals:dK E=[]
 go:∀ i H A,i<ds.length->xJ K A H E->J.go i H
 yld:∀ i H A x H',i<ds.length->xJ K A H E->J.yld i H x H'->∃ d,ds[i]?=some d/\((H'=H/\Rep K A H d x)\/∃ p es vs,H p=none/\x = .ref p/\H'=upd H p (.t vs)/\d = .t es/\Reps K A H es vs)
 stop:∀ i H A,i=ds.length->xJ K A H E->J.stop i H
abbrev wC:=Aa Ad->Aa Sl->(Aa D->Aa Sl->Prop)->Prop
def dI (K:nH) (g:wC):TI:=λb H R=>∃ (B:Bs) (c:Aa Sl) (T:oN) (f:Aa D->Aa Sl->Prop),c.length=b.length/\DS K B (c.zip b++T) H/\g B.dk c f /\
 ∀ (J:It) (e:Aa D) (a:Aa Sl) (E:oN) (d:Hp),a.length=b.length->DS K B (a.zip b++(E++T)) d->YD K J e E->f e a->R J d
theorem dI.elim {K:nH}{R:It->Hp->Prop}{P:Prop}(h:dI K C o H R) (f:∀ (B:Bs) (j:Aa Sl) (T:oN) (l:Aa D->Aa Sl->Prop),j.length=o.length->DS K B (j.zip o++T) H->C B.dk j l ->(∀ (J:It) (r:Aa D) (g:Aa Sl) (E:oN) (p:Hp),g.length=o.length->DS K B (g.zip o++(E++T)) p->YD K J r E->l r g->R J p)->P):P:=by
 obtain⟨B,j,T,l,a,hd,b,k⟩:=h;exact f B j T l a hd b k
abbrev xV (X:Cx) (g iter:Expr) (j:wC):Prop:=PI X g iter (dI X.K j)
theorem PI.mono {X:Cx}{iter:Expr}(h:PI X j iter w) (k:∀ g H R,l g H R->w g H R):PI X j iter l:=λa s g H R I q=>h a s g H R I (k g H R q)
noncomputable def Bq (z:Af):Aa D:=z.cps.toList.map λc=>D.str ⟨#[c]⟩
def IR:D->Ab (Aa D)
 | .l a=>some a
 | .t a=>some a
 | .con a=>some a
 | .c a=>some a
 | .str z=>if z.cps.all (·<128) then some (Bq z) else none
 | _=>none
def iV (g:nV):wC:=λb e d=>g b e λr a=>match (sd r).bind IR with
 | some c=>d c a
 | none=>False
noncomputable def sW (lo:Int) (n:Nat):Aa D:=(List.range n).map λ(i:Nat)=>D.int (lo+i)
def AQ (g:nV):wC:=λb d c=>g b d λr a=>match r with
 | .v (.int j)=>-(2 ^ 62)<=j/\j<2 ^ 62/\c (sW 0 j.toNat) a
 | _=>False
section
variable {X:Cx}{K:nH}
theorem LG {a:Ad}{g:Aa D}:YD K (wP K a) g [(.v (.l g),some (.ref a))] where
 vals:=rfl
 go:=λi H A h ok=>by
  obtain⟨v,e,r⟩:=ok _ aF;cases e;obtain⟨k,b,e,_,c,f⟩:=r.lst_inv;cases e;exact⟨b,b[i]'(by rw[<- f.length];exact h),dT.of c,aE _⟩
 yld:=λi H A x m h ok y=>by
  obtain⟨v,e,r⟩:=ok _ aF;cases e;obtain⟨k,b,e,_,c,f⟩:=r.lst_inv;cases e;obtain⟨d,hd,rd⟩:=f.getV (y.2 b (dT.of c));exact⟨d,hd,.inl ⟨y.1,rd⟩⟩
 stop:=λi H A h ok=>by
  obtain⟨v,e,r⟩:=ok _ aF;cases e;obtain⟨k,b,e,_,c,f⟩:=r.lst_inv;cases e;exact⟨b,dT.of c,by rw[<- f.length];omega⟩
theorem IH {a:Ad}{g:Aa D}:YD K (wP K a) g [(.v (.c g),some (.ref a))] where
 vals:=rfl
 go:=λi H A k ok=>by
  obtain⟨v,e,r⟩:=ok _ aF;cases e;obtain⟨m,b,e,f,h⟩:=r.scr_inv;cases e;exact⟨b,b[i]'(by rw[<- h.length];exact k),f.sqL,aE _⟩
 yld:=λi H A x n k ok y=>by
  obtain⟨v,e,r⟩:=ok _ aF;cases e;obtain⟨m,b,e,f,h⟩:=r.scr_inv;cases e;obtain⟨d,hd,rd⟩:=h.getV (y.2 b f.sqL);exact⟨d,hd,.inl ⟨y.1,rd⟩⟩
 stop:=λi H A k ok=>by
  obtain⟨v,e,r⟩:=ok _ aF;cases e;obtain⟨m,b,e,f,h⟩:=r.scr_inv;cases e;exact⟨b,f.sqL,by rw[<- h.length];omega⟩
theorem Tg {a:Ad}{d:D}{g:Aa D}(hd:d = .t g\/d = .con g):YD K (Br K a) g [(.v d,some (.ref a))]:=by
 have key:∀ A H,xJ K A H [(.v d,some (.ref a))]->∃ b,nY K H a b/\Reps K A H g b:=λA H ok=>by
  obtain⟨v,e,r⟩:=ok _ aF;cases e;rcases hd with rfl | rfl
  .obtain⟨k,b,e,c,f⟩:=r.tup_inv;cases e;exact⟨b,nY.of c,f⟩
  .obtain⟨k,b,e,c,f⟩:=r.con_inv;cases e;exact⟨b,c.sqT,f⟩
 refine⟨rfl,λi H A h ok=>?_,λi H A x m h ok y=>?_,λi H A h ok=>?_⟩
 .obtain⟨b,c,f⟩:=key A H ok;exact⟨b,b[i]'(by rw[<- f.length];exact h),c,aE _⟩
 .obtain⟨b,c,f⟩:=key A H ok;obtain⟨d,hd,rd⟩:=f.getV (y.2 b c);exact⟨d,hd,.inl ⟨y.1,rd⟩⟩
 .obtain⟨b,c,f⟩:=key A H ok;exact⟨b,c,by rw[<- f.length];omega⟩
theorem Wl:YD K (vF z) (Bq z) [] where
 vals:=rfl
 go:=λi H A a _=>by simpa [vF,Bq,Str.length] using a
 yld:=λi H A x d a _ y=>by
  obtain⟨e,c,b,rfl⟩:=y;refine⟨.str ⟨#[c]⟩,?_,.inl ⟨e,.str _⟩⟩;unfold Bq;rw[aQ,dN,b];rfl
 stop:=λi H A a _=>by simp[vF,a,Bq,Str.length]
theorem MD {lo:Int}:YD K (uC lo n) (sW lo n) [] where
 vals:=rfl
 go:=λi H A a _=>by simpa [uC,sW] using a
 yld:=λi H A x c a _ y=>by
  have b:i<n:=by simpa [sW] using a
  refine⟨.int (lo+i),by simp[sW,b],.inl ⟨y.1,?_⟩⟩;rw[y.2];exact .int _
 stop:=λi H A a _=>by simp[uC,sW,a]
theorem oU (g:PD X e j):xV X o e (iV j):=(Nh g).mono λM H R w=>w.elim λB L T G E hd F k=>⟨B,L,T,_,E,hd,F,λr f v n q d1 b=>by
 cases u:sd r with
 | none=>rw[u] at b;exact b.elim
 | some d =>
  rw[u] at b;have d2:=d1.thaw u;have s:=d2.valAt;cases d with
  | l m=>obtain⟨a,i,rfl,_,h,y⟩:=s.lst_inv;exact .inl ⟨a,rfl,⟨i,dT.of h⟩,k _ m f [_] n q d2 LG b⟩
  | c m=>obtain⟨a,i,rfl,h,y⟩:=s.scr_inv;exact .inl ⟨a,rfl,⟨i,h.sqL⟩,k _ m f [_] n q d2 IH b⟩
  | t m=>obtain⟨a,i,rfl,h,y⟩:=s.tup_inv;exact .inr (.inl ⟨a,rfl,⟨i,nY.of h⟩,k _ m f [_] n q d2 (Tg (.inl rfl)) b⟩)
  | con m=>obtain⟨a,i,rfl,h,y⟩:=s.con_inv;exact .inr (.inl ⟨a,rfl,⟨i,h.sqT⟩,k _ m f [_] n q d2 (Tg (.inr rfl)) b⟩)
  | str z =>
   have:=s.str_inv;subst this;have b:=(show (match (if z.cps.all (·<128)=true then some (Bq z) else none:Ab (Aa D)) with | some A=>G A f | none=>False) from b);by_cases x:z.cps.all (·<128)=true
   .rw[aP x] at b;exact .inr (.inr ⟨z,rfl,x,k _ _ f [] n q d2.drop Wl b⟩)
   .rw[aJ x] at b;exact b.elim
  | _=>exact b.elim⟩
theorem At (j:Gl X "range") (l:X.mg "range" = none) (g:PD X a I) (C:starEach [a] X.env=[(false,eval a X.env)]:=by rfl) (o:Bw a=true:=by rfl):xV X J (.Call (.Name "range" p) [a] [] pos) (AQ I) :=
 (zG j l (hI g nL o) C).mono λs H R c=>c.elim λB n T q h hd i k=>⟨B,n,T,_,h,hd,i,λr e v f m d1 b=>by
  cases r<;>first | exact False.elim b | skip
  rename_i d
  cases d<;>first | exact False.elim b | skip
  have:=d1.valAt.int_inv;subst this;exact⟨_,rfl,b.1,b.2.1,k _ _ e [] f m d1.drop MD b.2.2⟩⟩
def Ml (l:wC) (g:vH) (j:qL):qL:=λf b k=>l f k λh c=>∃ Pv:Nat->Aa Sl->Prop,Pv 0 c /\
 (∀ i d a,h[i]?=some d->Pv i a->g d a λe=>j f { nx:=Pv (i+1),ct:=Pv (i+1),bk:=b.nx,rt:=b.rt } e)/\∀ a,Pv h.length a->b.nx a
theorem DS.rmE:∀ {E:oN},DS K B (L++(E++T)) H->DS K B (L++T) H
 | [],h=>h
 | x::E,h=>DS.rmE (E:=E) (DS.drop (L1:=L) (x:=x) (by simpa using h))
theorem qX {iter:Expr}{body:Aa Stmt}{o:wC}{g:vH}{j:qL}(hi:xV X l iter o) (hg:xB X 99 l g) (I:uY X body j) (hp:PassesOwn (model X.prog X.w) X.A X.env X.xe:=by exact dO) (U:X.calm=true:=by rfl)
  (hs:∀ x,foldedSetIterable iter X.env x=pure x:=by intro _;rfl):tH X (.For l iter body [] pos) (Ml o g j) :=
 (vZ hp U hi hg I hs).mono λDn W H O=>O.elim λB ρ T De hl hd ht Q=>⟨B,ρ,T,_,hl,hd,ht,λJ F S E H1 l1 d1 Y P=>by
  obtain⟨Pv,p0,step,fin⟩:=P;refine⟨λi m c k=>m=F.length-i/\i<=F.length/\∃ a,a.length=c.length/\c.length=W.length/\DS X.K B (a.zip c++(E++T)) k/\Pv i a,⟨_,rfl,cG _,S,l1,rfl,d1,p0⟩,?_⟩;rintro i m c k ⟨rfl,aa,a,V,m2,L,pv⟩;have n:xJ X.K (Al B (dK (a.zip c++(E++T)))) k E:=λq hq=>L.ok q (by simp[hq])
  by_cases s:i<F.length
  .refine .inr ⟨Y.go i k _ s n,λf t=>∃ b,b.length=f.length/\f.length=W.length/\DS X.K B (b.zip f++(E++T)) t/\Pv (i+1) b,λf t ⟨b,q1,q2,R,q4⟩=>⟨_,(by omega:F.length-(i+1)<_),rfl,s,b,q1,q2,R,q4⟩,λx t y=>?_⟩;obtain⟨d,M,alt⟩:=Y.yld i k _ x t s n y;have d2:DS X.K B (a.zip c++(.v d,some x)::(E++T)) t:=by
    rcases alt with⟨rfl,rx⟩ | ⟨p,es,vs,N,rfl,rfl,rfl,rr⟩
    .exact L.push rx
    .exact L.tup N rr
   refine⟨B,a,E++T,d,_,V,d2,step i d a M pv,λb f H3 n1 n2 _ Z R=>⟨B,b,E++T,_,n1,Z,R,?_,?_⟩⟩
   .intro e h G u a2 D;refine⟨λz=>⟨e,u,by omega,D,z⟩,λz=>?_,λz=>⟨e,u,by omega,D,z⟩⟩;exact (Q.1 e h G u (by omega) D.rmE).1 z
   .intro r v e h G u D z;refine Q.2 r v e h G u ?_ z;have:DS X.K B ((e.zip h++[(r,some v)])++(E++T)) G:=by simpa using D
    simpa using this.rmE
  .have C:i=F.length:=by omega
   subst C;exact .inl ⟨Y.stop _ k _ rfl n,(Q.1 a c k V m2 L.rmE).1 (fin a pv)⟩⟩
def Z3 (c:rK) (g:qL):qL:=λi h d=>∃ (Pv:Aa Sl->Prop) (f:Aa Sl->Nat),Pv d/\∀ d,Pv d->c i d λb e =>
 if b=true then g i { nx:=λa=>Pv a/\f a<f d,ct:=λa=>Pv a/\f a<f d,bk:=h.nx,rt:=h.rt } e else h.nx e
theorem Vb {c:Expr}{body:Aa Stmt}{j:rK}{g:qL}(p:PassesOwn (model X.prog X.w) X.A X.env X.xe) (o:tO X c j) (l:uY X body g):tH X (.While c body [] pos) (Z3 j g) :=
 (Wq p o l).mono λI G H t=>t.elim λB Z T C N hd ⟨Pv,x,Q,step⟩ u=>by
  refine⟨λm f y=>∃ a,m=x a/\a.length=f.length/\f.length=G.length/\DS X.K B (a.zip f++T) y/\Pv a,⟨_,Z,rfl,N,rfl,hd,Q⟩,?_⟩;rintro m f y ⟨a,rfl,O,P,M,pv⟩;refine⟨B,a,T,_,O,M,step a pv,λb q L F d1 E=>?_⟩;cases b with
  | true =>
   refine (aP rfl).mpr ⟨λh D=>∃ d,d.length=h.length/\h.length=G.length/\DS X.K B (d.zip h++T) D/\Pv d/\x d<x a,λh D ⟨d,R,S,V,W,Y⟩=>⟨_,Y,d,rfl,R,S,V,W⟩,B,q,T,_,F,d1,(aP rfl).mp E,?_,?_⟩
   .intro e i s k J n;exact⟨λz=>⟨e,k,by omega,n,z⟩,λz=>(u.1 e i s k (by omega) n).1 z,λz=>⟨e,k,by omega,n,z⟩⟩
   .exact λr v e i s k n z=>u.2 r v e i s k n z
  | false=>exact vQ ((u.1 q f L F P d1).1 ((aJ (by decide)).mp E))
end
def oH (B:Bs) (D:Ad) (g:Aa V):Bs:=⟨B.dk,λa=>(B.A0 a\/B.H0 a=none)/\a≠D,λa=>if a=D then some (.l g) else B.H0 a⟩
section
variable {K:nH}{R:oN}{D:Ad}
theorem Cz {R:Aa Ad}:Al (oH B D g) R a↔Al B R a/\a≠D:=by
 unfold Al oH;constructor
 .rintro ⟨c,d,b | b⟩
  .exact⟨⟨c,d,b.1⟩,b.2⟩
  .dsimp only at b;by_cases z:a=D
   .rw[aP z] at b;cases b
   .rw[aJ z] at b;exact⟨⟨c,d,.inr b⟩,z⟩
 .rintro ⟨⟨c,d,b⟩,e⟩;exact⟨c,d,.inl ⟨b,e⟩⟩
theorem DS.pin (h:DS K B L H) (g:H D=none):DS K (oH B D []) L (upd H D (.l [])):=by
 obtain⟨f1,f2,d⟩:=h.free g;refine⟨λb o e n=>?_,h.dk.upd f2,h.nd,λa c=>?_,λp f=>(h.ok p f).mono (.laid g λa z n=>Cz.mpr ⟨z,n⟩) λb i o q=>by rw[gD (hV q g)];exact q⟩
 .by_cases z:b=D
  .subst z;simp only[oH,hU] at e;cases e;exact hG
  .simp only[oH,aJ z] at e;rw[gD z];exact h.fr b o e n
 .have:=h.new a c;have z:a≠D:=λq=>d (q▸c)
  exact⟨by simp only[oH,aJ z];exact this.1,this.2⟩
theorem DS.pinAt (h:DS K (oH B D j) L H) (g:D∉B.dk):H D=some (.l j):=h.fr D _ (by simp[oH]) g
theorem DS.pinW (h:DS K (oH B D j) L H) (g:D∉B.dk):DS K (oH B D ys') L (upd H D (.l ys')):=by
 have d:=h.pinAt g;have k:Kp (Al (oH B D j) (dK L)) (Al (oH B D ys') (dK L)) H (upd H D (.l ys')) :=
  (Kp.write (A:=Al (oH B D j) (dK L)) d rfl λz=>(Cz.mp z).2 rfl).trans (.all λa z=>Cz.mpr (Cz.mp z))
 refine⟨λb o e n=>?_,h.dk.upd g,h.nd,λa f=>?_,λp c=>(h.ok p c).mono k λb i o q=>?_⟩
 .by_cases z:b=D
  .subst z;simp only[oH,hU] at e;cases e;exact hG
  .simp only[oH,aJ z] at e;rw[gD z];exact h.fr b o (by simp only[oH,aJ z];exact e) n
 .have:=h.new a f;have z:a≠D:=λq=>by subst q;simp[oH] at this
  simp only[oH,aJ z] at this |-;exact this
 .have:=(h.new b (tG.mpr ⟨p,c,i⟩)).1;have z:b≠D:=λw=>by subst w;simp[oH] at this
  rw[gD z];exact q
theorem DS.unpin (h:DS K (oH B D g) L H) (r:Reps K (Al (oH B D g) (dK L)) H I g) (j:B.H0 D=none) (C:D∉B.dk):DS K B ((.o (.l I),some (.ref D))::L) H:=by
 have k:=h.pinAt C;have i:D∉dK L:=λz=>by have:=(h.new D z).1;simp[oH] at this
 have c:dK ((Sl.o (.l I),some (V.ref D))::L)=D::dK L:=rfl;have al:∀ a,Al (oH B D g) (dK L) a->Al B (D::dK L) a:=λa z=>by
  obtain⟨d,s⟩:=Cz.mp z;exact⟨d.1,λq=>(aI.mp q).elim s d.2.1,d.2.2⟩
 refine⟨λb o e n=>?_,h.dk,by rw[c];exact bM.mpr ⟨i,h.nd⟩,λa f=>?_,λp m=>?_⟩
 .have z:b≠D:=λq=>by subst q;rw[j] at e;cases e
  exact h.fr b o (by simp only[oH,aJ z];exact e) n
 .rw[c] at f;rcases aI.mp f with q | q
  .subst q;exact⟨j,C⟩
  .have:=h.new a q;have z:a≠D:=λw=>i (w▸q)
   simp only[oH,aJ z] at this;exact this
 .rw[c];rcases aI.mp m with q | q
  .subst q;exact⟨D,rfl,g,k,r.mono (.all al)⟩
  .exact (h.ok p q).mono (.all al) λ_ _ _ w=>w
theorem DS.lend1 {g:Aa Sl}{j:St}(l:g.length=j.length) (h:DS K B (g.zip j++R) H) (i:Nat):DS K B ((g.set i .n).zip j++((g[i]?).getD .n,(j[i]?).join)::R) H:=by
 by_cases d:i<g.length
 .obtain⟨b,y,c,f,_,t,a⟩:=uH l (aE d);rw[t] at h;have k:DS K B (b++(g[i],y)::(c++R)) H:=by simpa using h
  have m:=k.front;have q:DS K B (((g[i],y)::b)++(.n,y)::(c++R)) H:=DS.pushN (L1:=(g[i],y)::b) (by simpa using m) y;have e:=a .n y;rw[zY f] at e;rw[e,aE d,f];have s:DS K B ((g[i],y)::((b++(Sl.n,y)::c)++R)) H:=by simpa using q
  exact s.mid
 .rw[fA (by omega),eY (by omega),eY (by omega)];exact h.pushN _
theorem DS.back1 {g:Aa Sl}{l:St}{s:Sl}{y:Ab V}(o:g.length=l.length) (h:DS K B (g.zip l++(s,y)::R) H){i:Nat}(j:(l[i]?).join=y):DS K B ((g.set i s).zip l++R) H:=by
 by_cases q:i<g.length
 .obtain⟨d,a,f,c,_,t,b⟩:=uH o (aE q);rw[c] at j;have j:a=y:=j;subst j;have e:=b s a;rw[zY c] at e;rw[e];rw[t] at h;have k:DS K B (d++(f++(s,a)::R)) H:=DS.drop (L1:=d) (x:=(g[i],a)) (by simpa using h);have m:DS K B ((d++f)++(s,a)::R) H:=by simpa using k
  have n:DS K B ((s,a)::(d++(f++R))) H:=by simpa using m.front
  simpa using n.mid
 .rw[fA (by omega)];exact h.drop
def qB (g:Aa Nat) (j:Aa Sl):Aa Sl:=g.map λi=>(j[i]?).getD .n
def rP (g:Aa Nat) (j:St):St:=g.map λi=>(j[i]?).join
def qD (g:Aa Nat) (j:Aa Sl):Aa Sl:=g.foldl (λj i=>j.set i .n) j
def qU:Aa Nat->Aa Sl->Aa Sl->Aa Sl
 | i::a,s::c,b=>qU a c (b.set i s)
 | _,_,b=>b
theorem Ju:∀ (g:Aa Nat) (j:Aa Sl),(qD g j).length=j.length
 | [],_=>rfl
 | i::g,j=>by show (qD g (j.set i .n)).length=_;rw[Ju g,aY]
theorem Ui:∀ (g:Aa Nat) (l:Aa Sl) (j:Aa Sl),(qU g l j).length=j.length
 | [],_,_=>rfl
 | _::_,[],_=>rfl
 | i::g,s::l,j=>(Ui g l (j.set i s)).trans (aY ..)
theorem DS.lend:∀ {caps:Aa Nat}{g:Aa Sl}{R:oN},caps.Nodup->g.length=l.length->DS K B (g.zip l++R) H->DS K B ((qD caps g).zip l++((qB caps g).zip (rP caps l)++R)) H
 | [],g,R,_,a,h=>h
 | i::caps,g,R,d,a,h=>by
  obtain⟨f,k⟩:=bM.mp d;have b:=DS.lend (caps:=caps) (R:=((g[i]?).getD .n,(l[i]?).join)::R) k (by rw[aY];exact a) (h.lend1 a i);have e:qB caps (g.set i .n)=qB caps g:=gX λj c=>by rw[cI (λz:i=j=>f (by rw[z];exact c))]
  rw[e] at b;show DS K B ((qD caps (g.set i .n)).zip l++((((g[i]?).getD .n,(l[i]?).join)::(qB caps g).zip (rP caps l))++R)) H;refine b.perm (jU _ ?_);rw[cT];exact jA
theorem DS.back:∀ {caps:Aa Nat}{cs:Aa Sl}{g:Aa Sl}{R:oN},cs.length=caps.length->g.length=j.length->DS K B (g.zip j++(cs.zip (rP caps j)++R)) H->DS K B ((qU caps cs g).zip j++R) H
 | [],[],g,R,_,a,h=>h
 | [],_::_,_,_,e,_,_=>by simp at e
 | _::_,[],_,_,e,_,_=>by simp at e
 | i::caps,s::cs,g,R,e,a,h=>by
  have b:DS K B (g.zip j++(s,(j[i]?).join)::(cs.zip (rP caps j)++R)) H:=h;exact DS.back (caps:=caps) (cs:=cs) (by simpa using e) (by rw[aY];exact a) (b.back1 a rfl)
theorem Y3 (g:Aa Nat):∀ (o:Aa Sl) (l:Aa Sl),o.length=g.length->g.Nodup->qU g o (qD g l)=qU g o l:=by
 have ext:∀ (g:Aa Nat) (o:Aa Sl) (l a:Aa Sl),o.length=g.length->l.length=a.length->(∀ j,j∉g->l[j]?=a[j]?)->qU g o l=qU g o a:=by
  intro g;induction g with
  | nil=>intro o l a _ _ h;cases o<;>exact gS λj=>h j bC
  | cons i g c =>
   intro o l a e d h;cases o with
   | nil=>simp at e
   | cons s o =>
    show qU g o (l.set i s)=qU g o (a.set i s);refine c o _ _ (by simpa using e) (by simp[d]) λj b=>?_
    by_cases z:j=i
    .subst z;rw[fW,fW,d,aP rfl,aP rfl]
    .rw[cI (fB z),cI (fB z)];exact h j λq=>(aI.mp q).elim z b
 intro o l e _;refine ext g o _ _ e (Ju g l) λj b=>?_
 have:∀ (g:Aa Nat) (l:Aa Sl),j∉g->(qD g l)[j]?=l[j]?:=by
  intro g;induction g with
  | nil=>intro l _;rfl
  | cons i g c =>
   intro l b;show (qD g (l.set i .n))[j]?=_;rw[c _ (λz=>b (aH _ z)),cI (λz=>b (by simp[z]))]
 exact this g l b
theorem U4:∀ {g:Aa L2.D}{j:Aa V},g.length=j.length->(∀ p∈qE g j,sV K A H p.1 p.2)->Reps K A H g j
 | [],[],_,_=>.nil
 | [],_::_,e,_=>by simp at e
 | _::_,[],e,_=>by simp at e
 | c::g,y::j,e,key=>by
  obtain⟨u,b,r⟩:=key (.v c,some y) (by simp[qE]);cases b;exact .cons r (U4 (by simpa using e) λp a=>key p (by simp only[qE,cV,aN,aI] at a |-;exact .inr a))
theorem DS.forget {ρ:Aa Sl}(n:Nat) (g:ρ.length=σ.length) (j:n<=ρ.length) (h:DS K B (ρ.zip σ++R) H):DS K B ((List.replicate n Sl.n++ρ.drop n).zip σ++R) H:=by
 induction n generalizing ρ σ R with
 | zero=>simpa using h
 | succ n c =>
  cases ρ with
  | nil=>simp at j
  | cons r ρ =>
   cases σ with
   | nil=>simp at g
   | cons y σ =>
    have a:DS K B (ρ.zip σ++R) H:=DS.drop (L1:=[]) (x:=(r,y)) h;have b:=c (ρ:=ρ) (σ:=σ) (R:=R) (by simpa using g) (by simpa using j) a;rw[cQ,cT,List.drop_succ_cons,cV];exact DS.pushN (L1:=[]) b y
end
def Mr:rK:=λ_ b a=>a true b
def yL (n:Nat) (j:Aa Nat) (I:wC) (g:vH) (C:rK) (p:nV):nV:=λk u t=>I k u λs f=>∃ Pv:Nat->Aa D->Aa Sl->Prop,Pv 0 [] (qB j f) /\
 (∀ i d e a,s[i]?=some d->a.length=j.length->Pv i e a->g d (List.replicate n Sl.n++a) λm=>C k m λb h=>if b=true then p k h λr q=>match sd r with
  | some c=>e.length<100000/\Pv (i+1) (e++[c]) (q.drop n)
  | none=>False
  else Pv (i+1) e (h.drop n)) /\
 ∀ e a,a.length=j.length->Pv s.length e a->t (.o (.l e)) (qU j a f)
section
variable {X:Cx}
theorem L9:vG X [] (sY X.K Mr):=λa s f H Q I b=>b.elim λB e T h c hd d k=>Dj a s f H Q I (k true e H c hd d)
theorem vS (h:tO X c t):vG X [c] (sY X.K t):=Uy h
theorem U9 {T:Aa Af}{C:Aa Nat}{g:vH}{tt:rK}{te:nV}{K:nH}(ac:C.Nodup){σ:St}{H1:Hp}{Q:VK}{B:Bs}{I:Aa Sl}{Tm:oN}{Φ:Sl->Aa Sl->Prop}{J:It}{ds:Aa L2.D}{D:Ad}(l1:I.length=σ.length) (d1:DS K B (I.zip σ++Tm) H1)
  (hJ:∀ i U La M H,(∀ q∈Tm,q∈M)->DS K (oH B D U) (La++M) H->(i<ds.length->J.go i H)/\(i=ds.length->J.stop i H)/\∀ x H2,i<ds.length->J.yld i H x H2->∃ d,ds[i]?=some d/\DS K (oH B D U) (La++(.v d,some x)::M) H2)
  (ag:∃ Pv:Nat->Aa L2.D->Aa Sl->Prop,Pv 0 [] (qB C I) /\ (∀ i d U cs,ds[i]?=some d->cs.length=C.length->Pv i U cs->g d (List.replicate T.length Sl.n++cs) λaf=>tt B.dk af λb ab=>if b=true then te B.dk ab λr aa=>match sd r with
    | some c=>U.length<100000/\Pv (i+1) (U++[c]) (aa.drop T.length)
    | none=>False
    else Pv (i+1) U (ab.drop T.length)) /\
   ∀ U cs,cs.length=C.length->Pv ds.length U cs->Φ (.o (.l U)) (qU C cs I))
  (k:∀ r ae v H',ae.length=σ.length->DS K B (ae.zip σ++(r,some v)::Tm) H'->Φ r ae->Q v H') (hD:H1 D=none):zW T C J (dG K T.length g) (sY K tt) (dE K te) σ H1 Q D:=by
 obtain⟨Pv,p0,step,fin⟩:=ag;obtain⟨f1,f2,f3⟩:=d1.free hD;refine⟨λi m U s H'=>m=ds.length-i/\i<=ds.length/\s.length=T.length+C.length/\(∀ j,T.length<=j->s[j]?=(sD T C σ)[j]?)/\∃ (h:Aa L2.D) (cs:Aa Sl),cs.length=C.length/\h.length=U.length /\ DS K (oH B D U) ((List.replicate T.length Sl.n++cs).zip s++((qD C I).zip σ++(qE h U++Tm))) H'/\Pv i h cs,?_,?_⟩
 .refine⟨_,rfl,cG _,by simp[sD],λ_ _=>rfl,[],qB C I,by simp[qB],rfl,?_,p0⟩;have h2:=(d1.lend ac l1).pin hD;have e:(List.replicate T.length Sl.n++qB C I).zip (sD T C σ)=List.replicate T.length (Sl.n,none)++(qB C I).zip (rP C σ):=by
   have:∀ n,(List.replicate n Sl.n++qB C I).zip (List.replicate n none++rP C σ)=List.replicate n (Sl.n,none)++(qB C I).zip (rP C σ):=by
    intro n;induction n with
    | zero=>rfl
    | succ n ih=>simp only[cQ,cT,cV,ih]
   have W:sD T C σ=List.replicate T.length none++rP C σ:=by unfold sD rP;rw[List.map_const']
   rw[W];exact this _
  rw[e];have h3:DS K (oH B D []) ((qB C I).zip (rP C σ)++((qD C I).zip σ++Tm)) (upd H1 D (.l [])):=h2.perm (by
   rw[<- bL,<- bL (as:=(qB C I).zip (rP C σ))];exact List.perm_append_comm.append_right _)
  have:∀ n,DS K (oH B D []) (List.replicate n (Sl.n,none)++((qB C I).zip (rP C σ)++((qD C I).zip σ++Tm))) (upd H1 D (.l [])):=by
   intro n;induction n with
   | zero=>exact h3
   | succ n ih=>rw[cQ];exact DS.pushN (L1:=[]) ih none
  have e3:qE ([]:Aa L2.D) ([]:Aa V)=[]:=rfl;rw[e3]
  simpa using this T.length
 .rintro i m U s H' ⟨rfl,hi,ls,fs,h,cs,G,z,N,pv⟩;obtain⟨j1,j2,j3⟩:=hJ i U _ _ H' (λq hq=>by simp[hq]) N;by_cases w:i<ds.length
  .refine .inr ⟨j1 w,λf v R=>f.length=T.length+C.length/\(∀ j,T.length<=j->f[j]?=(sD T C σ)[j]?)/\U.length<100000/\∃ (c:L2.D) (aa:Aa Sl),aa.length=f.length/\DS K (oH B D U) (aa.zip f++(.v c,some v)::((qD C I).zip σ++(qE h U++Tm))) R/\Pv (i+1) (h++[c]) (aa.drop T.length),λf P=>f.length=T.length+C.length/\(∀ j,T.length<=j->f[j]?=(sD T C σ)[j]?)/\∃ aa:Aa Sl,aa.length=f.length/\DS K (oH B D U) (aa.zip f++((qD C I).zip σ++(qE h U++Tm))) P/\Pv (i+1) h (aa.drop T.length),?_,?_,λx H2 y=>?_⟩
   .rintro f v R ⟨q1,q2,q3,c,aa,A,t,q6⟩;refine⟨t.pinAt f2,aR q3 (by decide),ds.length-(i+1),by omega,rfl,w,q1,q2,h++[c],aa.drop T.length,by rw[dB];omega,by simp[z],?_,q6⟩;have w1:=(t.pinW (ys':=U++[v]) f2).forget T.length A (by omega);refine w1.perm (jU _ ?_);have ev:qE (h++[c]) (U++[v])=qE h U++[(.v c,some v)]:=by unfold qE;rw[List.zip_append z,List.map_append];rfl
    rw[ev];have p1:((Sl.v c,some v)::((qD C I).zip σ++(qE h U++Tm))).Perm ((qD C I).zip σ++(qE h U++((Sl.v c,some v)::Tm))):=by
     rw[<- bL,<- bL (as:=(qD C I).zip σ)];exact jA.symm
    simpa using p1
   .rintro f P ⟨q1,q2,aa,A,t,q6⟩;exact⟨ds.length-(i+1),by omega,rfl,w,q1,q2,h,aa.drop T.length,by rw[dB];omega,z,t.forget T.length A (by omega),q6⟩
   .obtain⟨d,Z,d2⟩:=j3 x H2 w y;refine⟨oH B D U,_,_,d,_,by simp[G,ls],d2,step i d h cs Z G pv,λaf f H3 n1 n2 fr d3 q3=>⟨oH B D U,af,_,_,n1,d3,q3,λb ab P m1 d4 A=>?_⟩⟩;have F:∀ j,T.length<=j->f[j]?=(sD T C σ)[j]?:=λj O=>(fr j O).trans (fs j O)
    cases b with
    | false=>exact vQ ⟨by omega,F,ab,m1,d4,(aJ (by decide)).mp A⟩
    | true =>
     refine (aP rfl).mpr ⟨oH B D U,ab,_,_,m1,d4,(aP rfl).mp A,λr aa v R m4 d5 t=>?_⟩;cases S:sd r with
     | none=>rw[S] at t;exact t.elim
     | some c =>
      rw[S] at t;exact⟨by omega,F,by rw[<- z];exact t.1,c,aa,m4,d5.thaw S,t.2⟩
  .have ei:i=ds.length:=by omega
   subst ei;refine .inl ⟨j2 rfl,?_⟩;have es:s=s.take T.length++rP C σ:=by
    apply gS;intro j;by_cases O:j<T.length
    .rw[eU (by rw[bN];omega),List.getElem?_take_of_lt O]
    .rw[cU (by rw[bN];omega),bN,fs j (by omega)];have W:sD T C σ=List.replicate T.length none++rP C σ:=by unfold sD rP;rw[List.map_const']
     rw[W,cU (by rw[cO];omega),cO]
     congr 1
     omega
   have ez:(List.replicate T.length Sl.n++cs).zip s=(List.replicate T.length Sl.n).zip (s.take T.length)++cs.zip (rP C σ):=by
    conv=>lhs;rw[es]
    exact List.zip_append (by rw[cO,bN];omega)
   have rr:Reps K (Al (oH B D U) (dK ((qU C cs (qD C I)).zip σ++Tm))) H' h U/\DS K (oH B D U) ((qU C cs (qD C I)).zip σ++Tm) H':=by
    have g1:DS K (oH B D U) (cs.zip (rP C σ)++((qD C I).zip σ++(qE h U++Tm))) H':=by
     rw[ez,bL] at N;exact DS.rmE (L:=[]) (E:=(List.replicate T.length Sl.n).zip (s.take T.length)) N
    have g2:DS K (oH B D U) ((qD C I).zip σ++(cs.zip (rP C σ)++(qE h U++Tm))) H':=g1.perm (by
     rw[<- bL,<- bL (as:=(qD C I).zip σ)];exact List.perm_append_comm.append_right _)
    have g3:=g2.back G (by rw[Ju];exact l1);have Y:DS K (oH B D U) ((qU C cs (qD C I)).zip σ++(qE h U++Tm)) H':=g3;refine⟨?_,Y.rmE⟩;have er:dK ((qU C cs (qD C I)).zip σ++(qE h U++Tm))=dK ((qU C cs (qD C I)).zip σ++Tm):=by
     have:dK (qE h U)=[]:=by
      refine jC.mpr λa ha=>?_
      obtain⟨q,hq,e⟩:=tG.mp ha;obtain⟨p,_,rfl⟩:=aM.mp hq;cases e
     rw[qY,qY,qY,this,kL]
    have key:∀ p∈qE h U,sV K (Al (oH B D U) (dK ((qU C cs (qD C I)).zip σ++Tm))) H' p.1 p.2:=λp hp=>by
     have:=Y.ok p (by simp[hp]);rw[er] at this;exact this
    clear g1 g2 g3 Y er N ez es;revert key z;generalize Al (oH B D U) (dK ((qU C cs (qD C I)).zip σ++Tm))=AA;intro z key;exact U4 z key
   have u:=DS.unpin rr.2 rr.1 f1 f2;rw[Y3 C cs I G ac] at u;exact k _ _ _ H' (by rw[Ui];exact l1) u.mid (fin h cs G pv)
theorem Ru {K:nH}(o:j.Nodup) (h:dE K (yL T.length j ι g U I) C H Q) :
  Cv T j (dI K ι) (dG K T.length g) (sY K U) (dE K I) C H Q:=by
 obtain⟨B,R,Tm,Φ,A,hd,G,k⟩:=h;refine⟨B,R,Tm,_,A,hd,G,λJ W S E V L d1 Y z D u=>U9 o (Tm:=E++Tm) L d1 (λi P s M H w d=>?_) z (λr c v m l d h=>k r c v m l (by
  have:DS K B ((c.zip C++[(r,some v)])++(E++Tm)) m:=by simpa using d
  simpa using this.rmE) h) u⟩
 have a:xJ K (Al (oH B D P) (dK (s++M))) H E:=λq F=>d.ok q (by simp[w q (by simp[F])])
 refine⟨λb=>Y.go i H _ b a,λb=>Y.stop i H _ b a,λx n b y=>?_⟩;obtain⟨t,e,alt⟩:=Y.yld i H _ x n b a y;refine⟨t,e,?_⟩;rcases alt with⟨rfl,O⟩ | ⟨p,Z,vs,f,rfl,rfl,rfl,N⟩
 .exact d.push O
 .exact d.tup f N
theorem qP {iter:Expr}(T o:Aa Af) (r:Aa Nat) (hi:xV X tg iter ι)
  (hg:∀ p l C cl I,xB (rN X (T++o) j cl C p l I) T.length tg g)
  (he:∀ p l C cl I,PD (rN X (T++o) j cl C p l I) U te)
  (ht:∀ p l C cl I,vG (rN X (T++o) j cl C p l I) aa (sY X.K tt):=by exact λ_ _ _ _ _=>L9) (hc:X.calm=true:=by rfl) (hk:j.kind = .function:=by rfl) (ho:zX X.N X.env.kindOf j T o r=true:=by rfl) (J:r.Nodup:=by decide) (hs:∀ x,foldedSetIterable iter X.env x=pure x:=by intro _;rfl):PD X (.ListComp U [⟨tg,iter,aa,0⟩] j pos) (yL T.length r ι g tt te) :=
 (Bj T o r hc hi hk ho hg ht he hs).mono λ_ _ _ h=>Ru J h
theorem Fa (i:Nat){iter:Expr}(T o:Aa Af) (I:Aa Nat) (hN:X.N.Nodup) (hi:xV X tg iter ι) (hg:∀ p l C cl U,xB (rN X (T++o) j cl C p l U) T.length tg g)
  (he:∀ p l C cl U,PD (rN X (T++o) j cl C p l U) J te)
  (ht:∀ p l C cl U,vG (rN X (T++o) j cl C p l U) ab (sY X.K tt):=by exact λ_ _ _ _ _=>L9) (hc:X.calm=true:=by rfl) (hk:j.kind = .function:=by rfl) (ho:zX X.N X.env.kindOf j T o I=true:=by rfl) (af:X.N[i]?=some x:=by rfl) (hx:vI X.env.scope x:=by first | exact Or.inl rfl | exact Or.inr rfl) (aa:I.Nodup:=by decide)
  (ag:swapsWith (.ListComp J [⟨tg,iter,ab,0⟩] j pos) (some (.Name x ac)) ae.line X.env=pure true:=by rfl)
  (hs:∀ x,foldedSetIterable iter X.env x=pure x:=by intro _;rfl)
  (hf:X.fn x=true\/X.env.scope.names.lookup x=some .local:=by first | exact .inl rfl | exact .inr rfl | assumption) :
  tH X (.Assign [.Name x ac] (.ListComp J [⟨tg,iter,ab,0⟩] j pos) ae) (rY i (yL T.length I ι g tt te)) :=
 (Kd T o I hN af hx hc hi hk ho hg ht he ag hs hf).mono λn q H a=>a.elim λB h Tm m e hd ht f=>Ru aa ⟨B,h,Tm,_,e,hd,ht,λr k v c b d1 d=>(f.1 _ _ c (by rw[aY,aY];exact b) (aY ..) (d1.assign b i)).1 d⟩
end
section
variable {X:Cx}{K:nH}
theorem sH (h:Peeks K A H [d] g):∃ x,g=[x]/\oF K A H d x:=by
 cases h with | cons h r=>cases r;exact⟨_,rfl,h⟩
theorem C2 (h:Peeks K A H [d,e] j):∃ x y,j=[x,y]/\oF K A H d x/\oF K A H e y:=by
 cases h with | cons h r=>cases r with | cons g r=>cases r;exact⟨_,_,rfl,h,g⟩
def AS:D->Ab Nat
 | .l a=>some a.length
 | .t a=>some a.length
 | .con a=>some a.length
 | .c a=>some a.length
 | .str z=>some z.length
 | .k b=>some b.length
 | _=>none
def FQ:OC:=λa b=>match a with
 | [d]=>G3 d=true/\∃ n,AS d=some n/\b (.v (.int n))
 | _=>False
def Mn (K:nH):Aa V->Hp->VK->Prop:=λc H Q=>(∃ p d,c=[.ref p]/\(dT K H p d\/nY K H p d)/\Q (.int d.length) H)\/(∃ z,c=[.str z]/\z.length<=sizeLine/\Q (.int z.length) H)\/∃ a b,c=[V.ref a]/\Rd H a (.k b)/\Q (.int b.length) H
theorem vY:oQ X (.builtin "len") (Mn X.K):=vP.or (Qa.or MR)
theorem vV:rM K (Mn K) FQ:=by
 intro B L H m t u Q hd q i k;cases m with
 | nil=>exact False.elim i
 | cons d m =>
 cases m with
 | cons _ _=>exact False.elim i
 | nil =>
 obtain⟨x,rfl,f⟩:=sH q;obtain⟨s,n,c,i⟩:=i;have fin:Q (.int n) H:=k _ _ H i (hd.pushF (.int _));cases d<;>first | (cases c;done) | skip
 .cases c;have:=f.str_inv;subst this;exact .inr (.inl ⟨_,rfl,xI (fP s),fin⟩)
 .cases c;obtain⟨a,b,rfl,h,r⟩:=f.tup_inv;exact .inl ⟨a,b,rfl,.inr (nY.of h),by rw[<- r.length];exact fin⟩
 .cases c;obtain⟨a,b,rfl,h,r⟩:=f.lst_inv;exact .inl ⟨a,b,rfl,.inl (dT.of h),by rw[<- r.length];exact fin⟩
 .cases c;obtain⟨a,b,rfl,h,e,r⟩:=f.dK_inv;refine .inr (.inr ⟨a,b,rfl,h,?_⟩);have:=cL List.length e;rw[aA,aA] at this;rw[<- this];exact fin
 .cases c;obtain⟨a,b,rfl,h,r⟩:=f.scr_inv;exact .inl ⟨a,b,rfl,.inl h.sqL,by rw[<- r.length];exact fin⟩
 .cases c;obtain⟨a,b,rfl,h,r⟩:=f.con_inv;exact .inl ⟨a,b,rfl,.inr h.sqT,by rw[<- r.length];exact fin⟩
noncomputable def yM:Aa D->Ab (Aa Int)
 | []=>some []
 | .int i::a=>(yM a).map (i::·)
 | _=>none
theorem Bf:∀ (g:Aa Int),yM (g.map D.int)=some g
 | []=>rfl
 | n::g=>by
  show (yM (g.map D.int)).map (n::·)=_;rw[Bf g];rfl
theorem Fk (h:yM j=some l) (g:Reps K A H j o):o=l.map V.int:=by
 induction j generalizing l o with
 | nil=>cases g;cases h;rfl
 | cons d j b =>
  cases g with
  | cons r g =>
  cases d with
  | int i =>
   obtain⟨c,a,rfl⟩:=bS.mp h;rw[r.int_inv,b a g];rfl
  | _=>cases h
def KR:OC:=λb d=>match b with
 | [.l c]=>∃ a,yM c=some a/\d (.v (.int a.sum))
 | _=>False
theorem Gp:rM K (λj H Q=>∃ (p:Ad) (g:Aa Int),j=[.ref p]/\dT K H p (g.map V.int)/\Q (.int g.sum) H) KR:=by
 intro B L H c j n Q hd f b k;cases c with
 | nil=>exact False.elim b
 | cons d c =>
 cases d<;>first | exact False.elim b | skip
 cases c with
 | cons _ _=>exact False.elim b
 | nil =>
 obtain⟨x,rfl,i⟩:=sH f;obtain⟨g,e,b⟩:=b;obtain⟨a,m,rfl,h,r⟩:=i.lst_inv;rw[Fk e r] at h;exact⟨a,g,rfl,dT.of h,k _ _ H b (hd.pushF (.int _))⟩
def K7:OC:=λd c=>match d with
 | [.l e]=>∃ b,yM e=some b/\b≠[]/\∀ m:Int,m∈b->(∀ a∈b,m<=a)->c (.v (.int m))
 | [.int i,.int j]=>∀ m:Int,(m=i\/m=j)->m<=i->m<=j->c (.v (.int m))
 | _=>False
def EE:OC:=λd c=>match d with
 | [.l e]=>∃ b,yM e=some b/\b≠[]/\∀ m:Int,m∈b->(∀ a∈b,a<=m)->c (.v (.int m))
 | [.int i,.int j]=>∀ m:Int,(m=i\/m=j)->i<=m->j<=m->c (.v (.int m))
 | _=>False
def Il (K:nH):Aa V->Hp->VK->Prop:=λc H Q=>(∃ (p:Ad) (b:Aa Int),c=[.ref p]/\dT K H p (b.map V.int)/\b≠[]/\∀ m:Int,m∈b->(∀ a∈b,m<=a)->Q (.int m) H)\/∃ i j,c=[.int i,.int j]/\Q (.int (if j<i then j else i)) H
def Pe (K:nH):Aa V->Hp->VK->Prop:=λc H Q=>(∃ (p:Ad) (b:Aa Int),c=[.ref p]/\dT K H p (b.map V.int)/\b≠[]/\∀ m:Int,m∈b->(∀ a∈b,a<=m)->Q (.int m) H)\/∃ i j,c=[.int i,.int j]/\Q (.int (if j>i then j else i)) H
theorem KG (g:X.calm=true):oQ X (.builtin "min") (Il X.K):=(W1 g).or (Ll g)
theorem Kh (g:X.calm=true):oQ X (.builtin "max") (Pe X.K):=(We g).or (FN g)
theorem FS:rM K (Il K) K7:=by
 intro B L H c A D Q hd n b k;cases c with
 | nil=>exact False.elim b
 | cons d c =>
 cases d<;>first | exact False.elim b | skip
 .cases c with
  | nil=>exact False.elim b
  | cons e c =>
  cases e<;>first | exact False.elim b | skip
  cases c with
  | cons _ _=>exact False.elim b
  | nil =>
  obtain⟨x,y,rfl,f,py⟩:=C2 n;have:=f.int_inv;have:=py.int_inv;subst_vars
  rename_i i j
  refine .inr ⟨_,_,rfl,?_⟩;by_cases z:j<i
  .rw[aP z];exact k _ _ H (b _ (.inr rfl) (by omega) (by omega)) (hd.pushF (.int _))
  .rw[aJ z];exact k _ _ H (b _ (.inl rfl) (by omega) (by omega)) (hd.pushF (.int _))
 .cases c with
  | cons _ _=>exact False.elim b
  | nil =>
  obtain⟨x,rfl,f⟩:=sH n;obtain⟨v,u,q,b⟩:=b;obtain⟨a,w,rfl,h,r⟩:=f.lst_inv;rw[Fk u r] at h;exact .inl ⟨a,v,rfl,dT.of h,q,λm s t=>k _ _ H (b m s t) (hd.pushF (.int _))⟩
theorem Lh:rM K (Pe K) EE:=by
 intro B L H c A D Q hd n b k;cases c with
 | nil=>exact False.elim b
 | cons d c =>
 cases d<;>first | exact False.elim b | skip
 .cases c with
  | nil=>exact False.elim b
  | cons e c =>
  cases e<;>first | exact False.elim b | skip
  cases c with
  | cons _ _=>exact False.elim b
  | nil =>
  obtain⟨x,y,rfl,f,py⟩:=C2 n;have:=f.int_inv;have:=py.int_inv;subst_vars
  rename_i i j
  refine .inr ⟨_,_,rfl,?_⟩;by_cases z:j>i
  .rw[aP z];exact k _ _ H (b _ (.inr rfl) (by omega) (by omega)) (hd.pushF (.int _))
  .rw[aJ z];exact k _ _ H (b _ (.inl rfl) (by omega) (by omega)) (hd.pushF (.int _))
 .cases c with
  | cons _ _=>exact False.elim b
  | nil =>
  obtain⟨x,rfl,f⟩:=sH n;obtain⟨v,u,q,b⟩:=b;obtain⟨a,w,rfl,h,r⟩:=f.lst_inv;rw[Fk u r] at h;exact .inl ⟨a,v,rfl,dT.of h,q,λm s t=>k _ _ H (b m s t) (hd.pushF (.int _))⟩
def N0:D->Ab (Aa D)
 | .l a=>some a
 | .t a=>some a
 | .con a=>some a
 | .c a=>some a
 | _=>none
theorem FT (h:N0 d=some j) (p:oF K A H d x):∃ a g,x = .ref a/\(dT K H a g\/nY K H a g)/\Reps K A H j g:=by
 cases d<;>cases h
 .obtain⟨a,g,rfl,h,r⟩:=p.tup_inv;exact⟨a,g,rfl,.inr (nY.of h),r⟩
 .obtain⟨a,g,rfl,h,r⟩:=p.lst_inv;exact⟨a,g,rfl,.inl (dT.of h),r⟩
 .obtain⟨a,g,rfl,h,r⟩:=p.scr_inv;exact⟨a,g,rfl,.inl h.sqL,r⟩
 .obtain⟨a,g,rfl,h,r⟩:=p.con_inv;exact⟨a,g,rfl,.inr h.sqT,r⟩
def Wc:OC:=λb c=>match b with
 | [d]=>∃ a,N0 d=some a/\c (.o (.l a))
 | _=>False
theorem Ka:rM K (λg H Q=>∃ p j,g=[.ref p]/\(dT K H p j\/nY K H p j)/\∀ l,H l=none->Q (.ref l) (upd H l (.l j))) Wc:=by
 intro B L H c g q Q hd f b k;cases c with
 | nil=>exact False.elim b
 | cons d c =>
 cases c with
 | cons _ _=>exact False.elim b
 | nil =>
 obtain⟨x,rfl,m⟩:=sH f;obtain⟨g,i,b⟩:=b;obtain⟨a,n,rfl,h,r⟩:=FT i m;exact⟨a,n,rfl,h,λl e=>k _ _ _ b (hd.lstF e r)⟩
def Zw:OC:=λc b=>match c with
 | [.l a]=>b (.v (.t a))
 | [.t a]=>b (.v (.t a))
 | _=>False
theorem IZ:rM K (λj H Q=>∃ p g,j=[.ref p]/\((dT K H p g/\∀ l,H l=none->Q (.ref l) (upd H l (.t g)))\/(nY K H p g/\Q (.ref p) H))) Zw:=by
 intro B L H e j q Q hd m b k;cases e with
 | nil=>exact False.elim b
 | cons d e =>
 cases d<;>first | exact False.elim b | skip<;>cases e<;>first | exact False.elim b | skip
 .obtain⟨x,rfl,c⟩:=sH m;have f:=c;obtain⟨a,i,rfl,h,r⟩:=c.tup_inv;exact⟨a,i,rfl,.inr ⟨nY.of h,k _ _ _ b (hd.pushF f)⟩⟩
 .obtain⟨x,rfl,c⟩:=sH m;obtain⟨a,i,rfl,h,r⟩:=c.lst_inv;exact⟨a,i,rfl,.inl ⟨dT.of h,λl n=>k _ _ _ b (hd.tupF n r)⟩⟩
def yA:Aa D->Ab (Aa (gV×D))
 | []=>some []
 | .t [k,d]::a=>match rW k,yA a with
  | some k,some r=>some ((k,d)::r)
  | _,_=>none
 | _=>none
theorem Ld {l:Type}{f:l->D}{g:l->gV×D}(h:∀ x,∃ k,f x = .t [k,(g x).2]/\rW k=some (g x).1):∀ j:Aa l,yA (j.map f)=some (j.map g)
 | []=>rfl
 | x::j=>by
  obtain⟨k,a,b⟩:=h x;rw[aN,a];show (match rW k,yA (j.map f) with | some k,some r=>some ((k,(g x).2)::r) | _,_=>none)=_;rw[b,Ld h j];rfl
def sL (g more:Aa (gV×D)):Aa (gV×D):=more.foldl (λa b=>oY a b.1 b.2) g
theorem JJ (h:yA l=some j) (o:Reps K A H l C):∃ (p:Aa Ad) (g:Aa (gV×V)),C=p.map V.ref/\C3 H p g/\j.map (·.1)=g.map (·.1)/\Reps K A H (j.map (·.2)) (g.map (·.2)):=by
 induction l generalizing j C with
 | nil=>cases o;cases h;exact⟨[],[],rfl,.nil,rfl,.nil⟩
 | cons d l t =>
  cases o with
  | cons r o =>
  cases d<;>first | (cases h;done) | skip
  rename_i x
  rcases x with _ | ⟨k,_ | ⟨e,_ | ⟨_,_⟩⟩⟩<;>first | (cases h;done) | skip
  .have h:=(show (match rW k,yA l with | some k,some r=>some ((k,e)::r) | _,_=>none)=some j from h);cases c:rW k with
   | none=>rw[c] at h;cases h
   | some u =>
    cases f:yA l with
    | none=>rw[c,f] at h;cases h
    | some y =>
     rw[c,f] at h;cases h;obtain⟨a,z,rfl,s,b⟩:=r.tup_inv;obtain⟨p,g,i,m,n,q⟩:=t f o;cases b with
     | cons v b =>
      cases b with
      | cons w b =>
       cases b;have:=Ak c v.peek;subst this;exact⟨a::p,(u,_)::g,by rw[i];rfl,.cons s m,by rw[aN,aN,n],.cons w q⟩
theorem Ee:∀ {more:Aa (gV×D)}{mv:Aa (gV×V)}{kvs:Aa (gV×D)}{vs:Aa (gV×V)},more.map (·.1)=mv.map (·.1)->Reps K A H (more.map (·.2)) (mv.map (·.2))->kvs.map (·.1)=vs.map (·.1)->Reps K A H (kvs.map (·.2)) (vs.map (·.2)) ->
  (sL kvs more).map (·.1)=(rQ vs mv).map (·.1)/\Reps K A H ((sL kvs more).map (·.2)) ((rQ vs mv).map (·.2))
 | [],[],_,_,_,_,e,r=>⟨e,r⟩
 | [],_::_,_,_,e,_,_,_=>by simp at e
 | _::_,[],_,_,e,_,_,_=>by simp at e
 | (k,d)::more,(j,v)::mv,kvs,vs,a,b,e,r=>by
  simp only[aN,iL] at a;obtain⟨rfl,a⟩:=a;cases b with
  | cons h b =>
   obtain⟨c,f⟩:=C4 e r (k:=k) h;exact Ee (more:=more) (mv:=mv) a b c f
def IX:OC:=λc b=>match c with
 | [.k a]=>b (.o (.k a))
 | [.l d]=>∃ a,yA d=some a/\a.length<=1000/\b (.o (.k (sL [] a)))
 | _=>False
def Tn (K:nH):Aa V->Hp->VK->Prop:=λe H Q=>(∃ (a:Ad) (b:Aa (gV×V)),e=[.ref a]/\Rd H a (.k b)/\∀ p,H p=none->Q (.ref p) (upd H p (.k b))) \/
 ∃ (p:Ad) (c:Aa Ad) (b:Aa (gV×V)),e=[.ref p]/\dT K H p (c.map V.ref)/\C3 H c b/\b.length<=1000/\∀ d,H d=none->Q (.ref d) (upd H d (.k (rQ [] b)))
theorem Ln (g:X.calm=true):oQ X (.type "dict") (Tn X.K):=Nq.or (IF g)
theorem K9:rM K (Tn K) IX:=by
 intro B L H i D E Q hd c b k;cases i with
 | nil=>exact False.elim b
 | cons d i =>
 cases d<;>first | exact False.elim b | skip<;>cases i<;>first | exact False.elim b | skip
 .obtain⟨x,rfl,n⟩:=sH c;obtain⟨v,hk,A,b⟩:=b;obtain⟨a,s,rfl,h,r⟩:=n.lst_inv;obtain⟨z,f,rfl,t,q,u⟩:=JJ hk r;obtain⟨w,y⟩:=Ee (kvs:=[]) (vs:=[]) q u rfl .nil;have m:f.length<=1000:=by
   have:=cL List.length q;simp only[aA] at this;omega
  exact .inr ⟨a,z,f,rfl,dT.of h,t,m,λp c=>k _ _ _ b (hd.dKF c w y)⟩
 .obtain⟨x,rfl,n⟩:=sH c;obtain⟨a,s,rfl,h,e,r⟩:=n.dK_inv;exact .inl ⟨a,s,rfl,h,λp c=>k _ _ _ b (hd.dKF c e r)⟩
def Lc:OC:=λc a=>match c with
 | [.int i]=>a (.v (.int i))
 | [.b b]=>a (.v (.int (if b then 1 else 0)))
 | _=>False
theorem Wf:rM K (λg H Q=>(∃ i,g=[.int i]/\Q (.int i) H)\/∃ k,g=[.b k]/\Q (.int (if k then 1 else 0)) H) Lc:=by
 intro B L H c g h Q hd f a k;cases c with
 | nil=>exact False.elim a
 | cons d c =>
 cases d<;>first | exact False.elim a | skip<;>cases c<;>first | exact False.elim a | skip
 .obtain⟨x,rfl,e⟩:=sH f;have:=e.bl_inv;subst this;exact .inr ⟨_,rfl,k _ _ H a (hd.pushF (.int _))⟩
 .obtain⟨x,rfl,e⟩:=sH f;have:=e.int_inv;subst this;exact .inl ⟨_,rfl,k _ _ H a (hd.pushF (.int _))⟩
end
def Ha (T:String):D->Bool
 | .str _=>T == "str"
 | .l _=>T == "list"
 | .c _=>T == "list"
 | .k _=>T == "dict"
 | _=>false
section
variable {X:Cx}{K:nH}
theorem Nw (h:Ha T d=true) (p:oF K A H d x):G9 K T x H:=by
 cases d<;>first | (cases h;done) | skip
 all_goals (have h:=eq_of_beq h;subst h)
 .have:=p.str_inv;subst this;rfl
 .obtain⟨a,b,rfl,h,r⟩:=p.lst_inv;exact .inl ⟨rfl,b,dT.of h⟩
 .obtain⟨a,b,rfl,h,e,r⟩:=p.dK_inv;exact .inr (.inr (.inl ⟨rfl,.inl ⟨b,h⟩⟩))
 .obtain⟨a,b,rfl,h,r⟩:=p.scr_inv;exact .inl ⟨rfl,b,h.sqL⟩
abbrev OM:=D->Aa D->(Sl->Prop)->Prop
abbrev RM:=V->Aa V->Hp->VK->Prop
def Tj (K:nH) (r:RM) (f:OM):Prop:=∀ (B:Bs) (L:oN) (H:Hp) (d:D) (b:Aa D) (x:V) (c:Aa V) (e:Sl->Prop) (Q:VK),DS K B L H->oF K (Al B (dK L)) H d x->Peeks K (Al B (dK L)) H b c->f d b e ->
 (∀ s v a,e s->DS K B ((s,some v)::L) a->Q v a)->r x c H Q
def dM (T:String) (f:OM) (j:nV) (g:rL):nV:=λc i h=>j c i λr b=>match sd r with
 | some d=>Ha T d=true/\g c b λas a=>match uM a as with
  | some e=>f d e λs=>h s a
  | none=>False
 | none=>False
def NC (T:String) (f:OM) (i:Nat) (g:rL):nV:=λc b h=>(match at? b i with | some d=>Ha T d=true | none=>False)/\g c b λas a=>match at? a i,uM a as with
 | some d,some e=>f d e λs=>h s a
 | _,_=>False
variable {id:String}
theorem W6 (pa:PlainAttrs T) (slot:Slot T name id) (j:typeOf (.builtin id)=pure (.type "method_descriptor")) (J:xT X id r) (I:Tj X.K r f) (U:PD X o to) (p:rZ X (e::l) ta)
  (C:MtB X o name apos e l g:=by exact {}) :
  PD X (.Call (.Attribute o name apos) (e::l) [] g) (dM T f to ta) :=
 (vD pa slot j J U p C).mono λA H Q q=>q.elim λB R Tm V F hd L k=>⟨B,R,Tm,_,F,hd,L,λt w x S M d1 c=>by
  cases b:sd t with
  | none=>rw[b] at c;exact c.elim
  | some d =>
   rw[b] at c;refine⟨Nw c.1 (d1.one b).2.peek,B,w,(t,some x)::Tm,_,M,d1,c.2,λas a u i z ok d2 h=>?_⟩;cases m:uM a as with
   | none=>rw[m] at h;exact h.elim
   | some y =>
    rw[m] at h;have E:=d2.rmArgs;obtain⟨N,O⟩:=E.one b;have P:=((show DS X.K B (a.zip A++(sZ as u++Tm)) i from by
     have:DS X.K B ((a.zip A++sZ as u)++(t,some x)::Tm) i:=by simpa using d2
     simpa using (this.one b).1).argsP z ok y m).1
    exact I B _ i d y x u _ Q N O.peek P h λs v D G n=>k s a v D z n.mid G⟩
abbrev OW:=D->Aa D->(D->D->Prop)->Prop
def Ck (K:nH) (r:RM) (f:OW):Prop:=∀ (A:Ad->Prop) (H:Hp) (a:Ad) (c:D) (h:Aa D) (i:Aa V) (k:D->D->Prop) (Q:VK),¬ A a->pO K A H a c->Reps K A H h i->f c h k ->
 (∀ d v o e,k d e->Rep K A H d v->(∀ b,Kp A b H (upd H a o)->pO K b (upd H a o) a e)->Q v (upd H a o))->r (.ref a) i H Q
def dW (T:String) (f:OW) (i:Nat) (g:rL):nV:=λh b m=>(match at? b i with | some d=>Ha T d=true | none=>False)/\g h b λas a=>match a[i]?,xW as with
 | some (.o c),some k=>f c k λd e=>m (.v d) (a.set i (.o e))
 | _,_=>False
theorem DX {f:OW}(C:Ck X.K r f){g:St}{H:Hp}{Q:VK}(h:dE X.K (dW T f i ta) g H Q):qO i g H λx l=>G9 X.K T x l/\dA X.K ta g l λxs j=>r x xs j Q:=by
 obtain⟨B,Y,Tm,Φ,S,hd,⟨A,J⟩,k⟩:=h;cases F:at? Y i with
 | none=>rw[F] at A;exact A.elim
 | some d0 =>
  rw[F] at A;obtain⟨x,t,px⟩:=hd.peek S F;refine⟨x,t,Nw A px,B,Y,Tm,_,S,hd,J,λas e vs j D ok d2 b=>?_⟩;cases m:e[i]? with
  | none=>rw[m] at b;exact b.elim
  | some s =>
   cases s with
   | n=>rw[m] at b;exact b.elim
   | v c=>rw[m] at b;exact b.elim
   | o c =>
    cases G:xW as with
    | none=>rw[m,G] at b;exact b.elim
    | some P =>
     rw[m,G] at b;have O:=d2.temps ok P G;have Z:=d2.rmArgs;obtain⟨a,R,W,wr⟩:=Z.slotW D m;rw[t] at R;cases R;obtain⟨u,U,tu⟩:=W.some;have V:¬ Al B (dK (e.zip g++Tm)) a:=λz=>z.2.1 (by
      obtain⟨l1,y,N,w,_,L,_⟩:=uH D m;rw[t] at w;cases w;rw[L,bL,cT,sE];exact bJ _ aF)
     refine C _ j a c P vs _ Q V W O b λd v o E M rd I=>k _ _ v _ (by rw[aY];exact D) ?_ M
     refine (wr o E I).push ?_;have p:dK ((e.set i (.o E)).zip g++Tm)=dK (e.zip g++Tm):=by
      obtain⟨l1,y,N,w,_,L,q⟩:=uH D m;rw[t] at w;cases w;have:=q (.o E) (some (.ref a));rw[zY t] at this;rw[this,L,bL,bL,cT,cT,sE,sE];rfl
     rw[p];exact rd.mono (.write U tu V)
theorem Bk {f:OW}(pa:PlainAttrs T) (slot:Slot T name id) (j:typeOf (.builtin id)=pure (.type "method_descriptor")) (J:xT X id r) (I:Ck X.K r f) (U:PE X o (qO i)) (p:rZ X (e::l) ta)
  (C:MtB X o name apos e l g:=by exact {}) :
  PD X (.Call (.Attribute o name apos) (e::l) [] g) (dW T f i ta):=(vD pa slot j J U p C).mono λ_ _ _ h=>DX I h
noncomputable def Xm:OW:=λc b f=>match c,b with
 | .l a,[d]=>a.length<100000/\f .e (.l (a++[d]))
 | _,_=>False
theorem Fe:Ck K Kc Xm:=by
 intro A H a c q s t Q _ i rd b k;cases c<;>first | exact False.elim b | skip
 cases rd with
 | nil=>exact False.elim b
 | cons f rd =>
 cases rd with
 | cons _ _=>exact False.elim b
 | nil =>
 .obtain⟨m,h,r⟩:=i
  .refine⟨a,m,_,rfl,rfl,h,aR (by rw[<- r.length];exact b.1) (by decide),k _ _ _ _ b.2 .e λn d=>⟨_,hG,(r.append (.cons f .nil)).mono d⟩⟩
def AY:OW:=λc d f=>match c,d with
 | .l a,[.l b]=>a.length+b.length<=100000/\f .e (.l (a++b))
 | _,_=>False
theorem MC:Ck K So AY:=by
 intro A H a c w x y Q _ s rd f k;cases c<;>first | exact False.elim f | skip
 cases rd with
 | nil=>exact False.elim f
 | cons q rd =>
 rename_i d _ _ _
 cases d<;>first | exact False.elim f | skip
 cases rd with
 | cons _ _=>exact False.elim f
 | nil =>
 .obtain⟨t,h,r⟩:=s
  .obtain⟨b,u,rfl,_,m,i⟩:=q.lst_inv;exact⟨a,b,t,u,rfl,rfl,h,m,xI (by rw[<- r.length,<- i.length];exact f.1),k _ _ _ _ f.2 .e λv n=>⟨_,hG,(r.append i).mono n⟩⟩
def V2:D->Bool
 | .k _=>true
 | .T _=>true
 | .dM _=>true
 | _=>false
def CG (i:Nat) (ty tx:nV):nV:=λc e m=>(match at? e i with | some d=>V2 d=true | none=>False)/\ty c e λf b=>tx c b λh a=>match at? a i,sd f,sd h with
 | some d,some k,some x=>∃ o,zI d k=some o/\m (.v (o.getD x)) a
 | _,_,_=>False
theorem DK {tx:nV}(U:X.A.units+1<cLine) (l:PE X o (qO i)) (I:PD X k ty) (J:PD X x tx) (m:M2 X o "get" apos k x j:=by exact⟨rfl,rfl,rfl,rfl⟩):PD X (.Call (.Attribute o "get" apos) [k,x] [] j) (CG i ty tx) :=
 (Wr U l I J m).mono λσ H Q F=>F.elim λB W Tm Φ O hd ⟨u,T⟩ k=>by
  cases D:at? W i with
  | none=>rw[D] at u;exact u.elim
  | some Z =>
   rw[D] at u;obtain⟨x,P,L⟩:=hd.peek O D;obtain⟨a,rfl,G⟩:∃ a,x = .ref a/\J7 H a:=by
    cases Z<;>first | (cases u;done) | skip
    .obtain⟨a,q,rfl,h,e,r⟩:=L.dK_inv;exact⟨a,rfl,.inl ⟨q,h⟩⟩
    .obtain⟨a,q,rfl,h,e,r⟩:=L.dT_inv;exact⟨a,rfl,.inr (.inl ⟨q,h⟩)⟩
    .obtain⟨a,q,rfl,h,e,r⟩:=L.dM_inv;exact⟨a,rfl,.inr (.inr ⟨q,h⟩)⟩
   refine⟨.ref a,P,a,rfl,G,B,W,Tm,_,O,hd,T,λV N y H1 l1 d1 C=>⟨B,N,(V,some y)::Tm,_,l1,d1,C,λrx s z Y R d2 b=>?_⟩⟩;cases f:at? s i with
   | none=>rw[f] at b;exact b.elim
   | some d =>
    cases t:sd V with
    | none=>rw[f,t] at b;exact b.elim
    | some kk =>
     cases E:sd rx with
     | none=>rw[f,t,E] at b;exact b.elim
     | some xx =>
      rw[f,t,E] at b;obtain⟨oo,l,b⟩:=b;obtain⟨S,q2,q3⟩:=d2.two t E;obtain⟨x',n,M⟩:=S.peek R f;rw[P] at n;cases n;obtain⟨a',w,p,g,g1,g2⟩:=Ki l M q2.peek;cases p;refine⟨w,g,k _ s _ Y R (S.push ?_) b⟩;cases oo with
      | none=>rw[g2 rfl];exact q3
      | some c=>obtain⟨v,rfl,rv⟩:=g1 c rfl;exact rv
def Fx:Aa D->Ab (Aa Af)
 | []=>some []
 | .str b::a=>(Fx a).map (b::·)
 | _=>none
theorem Bi:∀ (g:Aa Af),Fx (g.map D.str)=some g
 | []=>rfl
 | n::g=>by
  show (Fx (g.map D.str)).map (n::·)=_;rw[Bi g];rfl
theorem B0 (h:Fx j=some l) (g:Reps K A H j o):o=l.map V.str:=by
 induction j generalizing l o with
 | nil=>cases g;cases h;rfl
 | cons d j b =>
  cases g with
  | cons r g =>
  cases d with
  | str i =>
   obtain⟨c,a,rfl⟩:=bS.mp h;rw[r.str_inv,b a g];rfl
  | _=>cases h
theorem Fw:∀ (g:Aa Af),Reps K A H (g.map D.str) (g.map V.str)
 | []=>.nil
 | y::g=>.cons (.str y) (Fw g)
def AB:OM:=λd b f=>match d,b with
 | .l c,[e]=>∃ a v j,xA c=some a/\vX e=some v/\j<a.length/\(∀ z,a[j]?=some z->pC z v=true)/\(∀ (m:Nat) z,m<j->a[m]?=some z->pC z v=false)/\f (.v (.int j))
 | _,_=>False
theorem NA:Tj K (Pb K) AB:=by
 intro B L H d c x F G Q hd A z b k;cases d<;>first | exact False.elim b | skip
 cases c with
 | nil=>exact False.elim b
 | cons e c =>
  cases c with
  | cons _ _=>exact False.elim b
  | nil =>
   obtain⟨y,rfl,py⟩:=sH z;obtain⟨E,v,j,q,s,t,u,w,b⟩:=b;obtain⟨a,D,rfl,h,r⟩:=A.lst_inv;obtain⟨f,i⟩:=Qw q r;obtain⟨m,n⟩:=C7 s py;subst f m;exact⟨a,D,y,j,rfl,rfl,dT.of h,i,n,t,u,w,k _ _ H b (hd.pushF (.int _))⟩
end
section
variable {X:Cx}
theorem oA (o:X.A.units+1<cLine) (i:Nat) (j:PD X b p) (g:PE X a (qO i):=by exact pv _) (l:Jx b:=by exact λ_ _=>rfl):PD X (.Subscript a b pos) (xE Kl i p) :=
 (qJ (Mq o) g j l).mono λ_ _ _ h=>Hi Um h
end
section
variable {X:Cx}{K:nH}
theorem HK (l:X.calm=true):oQ X (.builtin "min") (λg H Q=>∃ i j k,g=[.int i,.int j,.int k]/\∀ m:Int,(m=i\/m=j\/m=k)->m<=i->m<=j->m<=k->Q (.int m) H):=by
 intro f s A H g F Q I r h;obtain⟨i,j,k,rfl,q⟩:=h;cases r with
 | cons y r =>
  obtain⟨v,u,rfl,⟨D,rfl⟩,⟨E,rfl⟩⟩:=Bp r;obtain⟨B,rfl⟩:=y;refine min_three_ints (I.ok.hd l) λw z x=>?_
  have fin:∀ (m:Int) (t:Tok),(m=i\/m=j\/m=k)->m<=i->m<=j->m<=k->EP X f A Q (.int m t) { s with heap:=w,toks:=z }:=λm t a b c d=>⟨.int m,H,I.kept x,⟨t,rfl⟩,q m a b c d⟩
  by_cases n:j<i
  .rw[aP n];by_cases e:k<j
   .rw[aP e];exact fin _ _ (.inr (.inr rfl)) (by omega) (by omega) (by omega)
   .rw[aJ e];exact fin _ _ (.inr (.inl rfl)) (by omega) (by omega) (by omega)
  .rw[aJ n];by_cases e:k<i
   .rw[aP e];exact fin _ _ (.inr (.inr rfl)) (by omega) (by omega) (by omega)
   .rw[aJ e];exact fin _ _ (.inl rfl) (by omega) (by omega) (by omega)
def Jo (K:nH):Aa V->Hp->VK->Prop:=λa H Q=>Il K a H Q\/∃ i j k,a=[.int i,.int j,.int k]/\∀ m:Int,(m=i\/m=j\/m=k)->m<=i->m<=j->m<=k->Q (.int m) H
theorem Vo (g:X.calm=true):oQ X (.builtin "min") (Jo X.K):=(KG g).or (HK g)
def LR:OC:=λa b=>match a with
 | [.int i,.int j,.int k]=>∀ m:Int,(m=i\/m=j\/m=k)->m<=i->m<=j->m<=k->b (.v (.int m))
 | a=>K7 a b
theorem Yu:rM K (Jo K) LR:=by
 intro B L H i n q Q hd h f k;have two:K7 i q->Jo K n H Q:=λf=>.inl (FS B L H _ n q Q hd h f k)
 rcases i with _ | ⟨d,_ | ⟨e,_ | ⟨g,_ | ⟨_,_⟩⟩⟩⟩
 .exact two f
 .cases d<;>exact two f
 .cases d<;>first | exact two f | (cases e<;>exact two f)
 .cases d<;>first | exact two f | skip
  cases e<;>first | exact two f | skip
  cases g<;>first | exact two f | skip
  cases h with
  | cons s h =>
   obtain⟨x,y,rfl,t,py⟩:=C2 h;have:=s.int_inv;have:=t.int_inv;have:=py.int_inv;subst_vars;exact .inr ⟨_,_,_,rfl,λm a b c d=>k _ _ H (f m a b c d) (hd.pushF (.int _))⟩
 .cases d<;>first | exact two f | (cases e<;>first | exact two f | (cases g<;>exact two f))
noncomputable def Ih:D->Ab String
 | .e=>some "NoneType"
 | .b _=>some "bool"
 | .int _=>some "int"
 | .str _=>some "str"
 | .l _=>some "list"
 | .t _=>some "tuple"
 | .k _=>some "dict"
 | _=>none
theorem ES (h:Ih d=some n) (p:oF K A H d x):TyOf K H x (.type n):=by
 cases d<;>simp only[Ih,reduceCtorEq,lC] at h<;>subst h
 .have:=p.non_inv;subst this;exact .e
 .have:=p.bl_inv;subst this;exact .b _
 .have:=p.int_inv;subst this;exact .int _
 .have:=p.str_inv;subst this;exact .str _
 .obtain⟨a,c,rfl,h,r⟩:=p.tup_inv;exact .t h
 .obtain⟨a,c,rfl,h,r⟩:=p.lst_inv;exact .l h
 .obtain⟨a,c,rfl,h,e,r⟩:=p.dK_inv;exact .k h
def CU (K:nH):OC:=λa e=>match a with
 | [d,.r (.ty c)]=>∃ n b,Ih d=some n/\PySem.W.kitOne K (.type n) (.type c)=some b/\e (.v (.b b))
 | _=>False
theorem Bt:rM K (Sr K) (CU K):=by
 intro B L H c q s Q hd i a k;cases c with
 | nil=>exact False.elim a
 | cons d c =>
  cases c with
  | nil=>exact False.elim a
  | cons e c =>
   cases e<;>first | exact False.elim a | skip
   rename_i v
   cases v<;>first | exact False.elim a | skip
   cases c with
   | cons _ _=>exact False.elim a
   | nil =>
    obtain⟨x,y,rfl,m,py⟩:=C2 i;obtain⟨n,b,f,h,a⟩:=a;have:=py.raw_inv;subst this;exact⟨x,_,_,_,b,rfl,rfl,ES f m,h,k _ _ H a (hd.pushF (.b _))⟩
theorem Bg (g:Gl X x) (j:X.mg x=none) (o:bootBuiltins x=some (.type n)) (l:x ≠ "__name__" := by decide) (hd:(x == ("__debug__" : Af))=false:=by decide):PD X (.Name x pos) (cd (.r (.ty n))) :=
 Hk (DV (v:=.ty n) g j o rfl l hd) λ_ _ _=>.r _
end
end L2
namespace PySem
open PyProof.Rows L2
abbrev wL (h:Ag) (z TI TO T:Ad) (f:Bool):Prop:=h.get? z=some { cls:=.type "zip",dict:=none,data:=.fields #[rawInt T,.bool f,.bool false,.ref TI,.ref TO],slots:=#[] }
section
theorem JQ (j:s.heap.get? a=some o) (h:Q (some o) s):wpAny (model g w) A (loadIfAlive a) Q E s:=λ_ _ _=>by
 show Q (s.heap.get? a) s;rw[j];exact h
theorem CF {TI TO:Ad}(g:wL s.heap z TI TO T f) (p:s.heap.get? T=some r) (l:∀ j,wL j z TI TO T true->Heap.SameBut z s.heap j->Q false { s with heap:=j }) :
  wpAny (model o w) A (Builtin.SmallTypes.ownedTupleIsFree (.ref z)) Q E s:=by
 unfold Builtin.SmallTypes.ownedTupleIsFree;refine aB (eJ g rfl (x:=rawInt T) rfl ?_);show wpAny _ _ (loadIfAlive ((T:Int).toNat) >>= _) _ _ _;rw[cD];refine aB (JQ p ?_);simp only[Option.isNone_some,dR,fO];refine aB (eJ g rfl (x:=.bool f) rfl ?_);cases f with
 | true =>
  rw[aJ (show ¬ ((Value.bool true != Value.bool true)=true) from bD)];exact aD (l _ g (Heap.SameBut.refl _ _))
 | false =>
  rw[aP (show (Value.bool false != Value.bool true)=true from rfl)];exact aB (jL g (by simp) λc b a=>aD (l _ b a))
def T0 (g:Ah) (w:World) (A:Around) (a b:Ac) (Q:Fin->Ae->Prop) (E:Ac->Ae->Prop) (s:Ae):Prop :=
 wpAny (model g w) A (Builtin.SmallTypes.nextOf a) (λx c=>wpAny (model g w) A (Builtin.SmallTypes.nextOf b) (λy d=>wpAny (model g w) A (newTuple [x,y]) (λt e=>Q (.done (.ret t)) e) E d) E c) E s
theorem Nv {TI TO:Ad}(p:wL s.heap z TI TO T f) (r:s.heap.get? T=some C) (o:IsPair s.heap TI a b)
  (go:∀ l,wL l z TI TO T true->Heap.SameBut z s.heap l->T0 j w A a b Q E { s with heap:=l }) :
  wpAny (model j w) A (Builtin.«zip.__next__» ⟨[.ref z],[]⟩) Q E s:=by
 have c:wpAny (model j w) A (Builtin.SmallTypes.ownedTupleIsFree (.ref z)) (λx d=>x=false/\T0 j w A a b Q E d) E s :=
  CF p r λl e k=>⟨rfl,go l e k⟩
 unfold Builtin.«zip.__next__»;refine aB (aD (aB (eJ p rfl (x:=.bool false) rfl (aB (eJ p rfl (x:=.ref TI) rfl (aB (gL o rfl ?_)))))));refine aB (nJ c ?_);rintro _ d ⟨rfl,g⟩;simp only[aJ bD,<- Array.forIn_toList,lW,List.forIn_nil,bind_assoc];refine aB (bW (aB (nJ g λx h g1=>aD (aB (aD ?_)))));refine aB (aB (bW (aB (nJ g1 λy i g2=>aD (aB (aD (aD ?_)))))));exact aB (nJ g2 λt m g3=>aD g3)
def Df (h:Ag) (z TI TO g j:Ad):Prop:=IsPair h TI (.ref g) (.ref j)/\(∃ a b,IsPair h TO a b)/\(IsZip h z TI TO .none\/∃ T f o,wL h z TI TO T f/\h.get? T=some o/\T≠z/\T≠TO/\T≠g/\T≠j)
end
theorem JC:typeLookup (.type "zip") "keys" = pure none:=am_miss_of_fast (by decide +kernel)
theorem Yz:entryFor table "zip.__getattribute__" = some Builtin.«object.__getattribute__»:=entryFor_alias (id' := "object.__getattribute__") (by kernel_rfl) (by decide +kernel) (by decide +kernel) (by kernel_rfl)
theorem Zl:typeLookup (.type "zip") "__getattr__" = pure none:=am_miss_of_fast (by decide +kernel)
theorem EV {sl:Array (Ab Ac)}
  (l:s.heap.get? a=some { cls:=.type "zip",dict:=none,data:=.fields fs,slots:=sl }) (q:Q .missing s):wpAny (model g w) A (Builtin.ObjectAttr.find (.ref a) (.type "zip") "keys") Q E s:=by
 have own:wpAny (model g w) A (Builtin.ObjectAttr.inOwnDict "keys" (.ref a)) (λr b=>r=none/\b=s) E s :=
  aB (aB (wpAny_loadPart l (aB (wpAny_loadPart l (aD (aD ⟨rfl,rfl⟩))))))
 have guard:wpAny (model g w) A (Builtin.ObjectAttr.copiedAttributeGuard "keys" (.ref a)) (λ_ b=>b=s) E s:=by
  have no:¬ (([Str.ofString "__module__",Str.ofString "__name__",Str.ofString "__qualname__",Str.ofString "__doc__",Str.ofString "__annotations__"]:Aa Af).contains (Str.ofString "keys")=true):=by decide +kernel
  simp only[Builtin.ObjectAttr.copiedAttributeGuard,aJ no];exact aD rfl
 unfold Builtin.ObjectAttr.find;rw[JC];refine aB (aD (aB (aD (aB (aD (aB (nJ own ?_)))))));rintro _ _ ⟨rfl,rfl⟩;refine aB (nJ guard ?_);rintro _ _ rfl;exact aB (gU (aD q))
theorem DY (a:Ad) (fs:Array Ac) (sl:Array (Ab Ac)) (u:Tok):Meets (Builtin.«object.__getattribute__» ⟨[.ref a,.str "keys" u],[]⟩) (λA R s=>s.heap.get? a=some { cls:=.type "zip",dict:=none,data:=.fields fs,slots:=sl }/\raisesAttr (.ref a) "keys" A R s) :=
 Meets.of_wp λb w A R s f=>by
  obtain⟨l,calm,c⟩:=f;have tp:s.TypeIs (.ref a) "zip" := ⟨_,l,rfl⟩;unfold Builtin.«object.__getattribute__»;refine aB (aD (aB (aD (aB (hX tp (aB (EV l ?_)))))));have named:wpAny (model b w) A.in1 (typeNameOfCut 100 (.ref a)) (λn d=>n = "zip" /\ d=s) (λe d=>R (.error e) d) s :=
   aB (aB (hX tp (aD (aD ⟨by decide +kernel,rfl⟩))))
  show wpAny _ _ (Builtin.ObjectAttr.noSuchAttribute (.ref a) "keys") _ _ _;unfold Builtin.ObjectAttr.noSuchAttribute;refine aB (nJ named ?_);rintro _ _ ⟨rfl,rfl⟩;exact wpAny_raiseAttrError calm c (by decide +kernel)
section
theorem HU {sl:Array (Ab Ac)}
  (l:s.heap.get? a=some { cls:=.type "zip",dict:=none,data:=.fields fs,slots:=sl }) (calm:A.handled=none) (j:∀ o p e,Heap.NewAttrErr s.heap o e (.ref a) "keys" -> E (.ref e) { s with heap:=o,toks:=p }) :
  wpAny (model g w) A (boundAndCalled (.builtin "zip.__getattribute__") (.ref a) (.str "keys" u)) Q E s:=by
 have ask:wpAny (model g w) A (call (.builtin "zip.__getattribute__") [.ref a,.str "keys" u]) Q E s :=
  kS lA ⟨_,l,rfl⟩ Yz (F.args_zip_getattribute_2 _ _) (DY a fs sl u) ⟨l,calm,j⟩
 unfold boundAndCalled;rw[lA.bind (.ref a)];exact aB (aD ask)
theorem CQ (t:s.TypeIs (.ref e) "AttributeError") (j:E (.ref e) s) :
  wpAny (model g w) A (getattributeRaised o name (.type "zip") (.ref e) none false false) Q E s:=by
 have last:wpAny (model g w) A (hookOrError o name (.ref e) false false none) Q E s:=aB (wpAny_throw j);have a:hookBehind (.type "zip") none=pure none:=Zl;unfold getattributeRaised;refine aB (eE t kT ?_);rw[aP rfl,a];exact aB (aD last)
theorem IM {sl:Array (Ab Ac)}
  (l:s.heap.get? a=some { cls:=.type "zip",dict:=none,data:=.fields fs,slots:=sl }) (calm:A.handled=none) (C:∀ j p e,Heap.NewExcOf s.heap j e "AttributeError" -> Q none { s with heap:=j,toks:=p }) :
  wpAny (model g w) A (getAttr? (.ref a) "keys") Q E s:=by
 have c:∀ j p e,Heap.NewAttrErr s.heap j e (.ref a) "keys" -> (∃ o,j.get? e=some o/\o.cls = .type "AttributeError")/\Q none { s with heap:=j,toks:=p }:=λj p e x=>by
  obtain⟨_,_,y⟩:=x.there;exact⟨⟨_,y,rfl⟩,C j p e x.of⟩
 let d:Ae:={ s with toks:=s.toks+1 };let b:Except Ac Ac->Ae->Prop:=λr i=>wpAny (model g w) A (match r with | .ok v=>pure (some v) | .error e=>do if <- isInstance e (.type "AttributeError") then pure none else throw e) Q E i
 have look:wpAny (model g w) A (getAttrBy (.ref a) (.str "keys" s.toks) false) (λv=>b (.ok v)) (λe=>b (.error e)) d:=by
  refine bW (aB (hX (T := "zip") ⟨_,l,rfl⟩ (aB (jW lA.lookup ?_))));have own:wpAny (model g w) A (getAttrByItsOwn (.ref a) (.str "keys" s.toks) (.type "zip") (.builtin "zip.__getattribute__") false false) (λv=>b (.ok v)) (λe=>b (.error e)) d:=by
   refine aB (aD (aB (eZ (bW (HU (s:=d) l calm λj p e x=>?_)))));obtain⟨⟨o,f,h⟩,q⟩:=c j p e x;exact CQ ⟨o,f,h⟩ (aB (eE (T := "AttributeError") ⟨o,f,h⟩ kT (aD q)))
  exact own
 exact aB (wpAny_mkText (aB (eZ look)))
end
section
variable {K:Type} [DecidableEq K] {R:Result->Ae->Prop}
theorem W8 {TI TO:Ad}(t:s.TypeIs (.ref d) "dict") (l:IsZip s.heap z TI TO .none) (calm:A.handled=none)
  (r:∀ j o e,Heap.NewExcOf s.heap j e "AttributeError" -> Q (.again (.builtin "dict.update.loop" ⟨[.ref d,.ref z,.int 0 0,.none],[]⟩)) { s with heap:=j,toks:=o }) :
  wpAny (model g w) A (Builtin.«dict.__init__» ⟨[.ref d,.ref z],[]⟩) Q E s:=by
 have first:wpAny (model g w) A (Builtin.Dict.selfAndRest "__init__" ⟨[.ref d,.ref z],[]⟩) (λp c=>p=(d,[Value.ref z])/\c=s) E s:=aB (jS t (aD ⟨rfl,rfl⟩))
 have a:wpAny (model g w) A (Builtin.Dict.updateFrom "dict.__init__" d (.ref z) [] .none) Q E s:=by
  refine aB (hX (T := "zip") ⟨_,l,rfl⟩ ?_);rw[aP (by decide)];refine aB (IM l calm λj o e x=>?_);have b:IsZip j z TI TO .none:=x.keeps _ _ l;exact aB (gU (aB (lQ b (aD (r j o e x)))))
 exact aB (dF first (λp c q=>by obtain⟨rfl,rfl⟩:=q;exact a) λ_ _ q=>q)
end
end PySem
namespace L2
open PySem PySem.Spec PyProof.Rows Lw
section
variable {X:Cx}
theorem U0:∀ (g:Aa gV){j:Aa V}{l:Aa Ac},nN j l->KV (g.zip j) (g.zip l)
 | [],_,_,_=>.nil
 | k::g,_,_,.nil=>.nil
 | k::g,_,_,.cons h r=>.cons ⟨rfl,h⟩ (U0 g r)
end
def zF:Aa D->Ab (Aa gV)
 | []=>some []
 | d::a=>match rW d,zF a with
  | some k,some b=>some (k::b)
  | _,_=>none
section
variable {X:Cx}{K:nH}
theorem Yh (h:zF g=some j) (l:Reps K A H g o):o=j.map kV:=by
 induction g generalizing j o with
 | nil=>cases l;cases h;rfl
 | cons d g c =>
  cases l with
  | cons r l =>
  have h:=(show (match rW d,zF g with | some k,some j=>some (k::j) | _,_=>none)=some j from h);cases a:rW d with
  | none=>rw[a] at h;cases h
  | some k =>
   cases b:zF g with
   | none=>rw[a,b] at h;cases h
   | some e =>
    rw[a,b] at h;cases h;rw[c b l,Ak a r.peek];rfl
theorem Uh:∀ (g:Aa gV){j:Aa D}{l:Aa V}{A:Ad->Prop}{H:Hp},Reps K A H j l->(g.zip j).map (·.1)=(g.zip l).map (·.1)/\Reps K A H ((g.zip j).map (·.2)) ((g.zip l).map (·.2))
 | [],_,_,_,_,_=>⟨rfl,.nil⟩
 | k::g,_,_,_,_,.nil=>⟨rfl,.nil⟩
 | k::g,_,_,_,_,.cons h r=>by
  obtain⟨a,b⟩:=Uh g r;exact⟨by simp[a],.cons h b⟩
end
def L6 (K:nH) (a:Ad):It :=
 ⟨λi H=>∃ b x,dT K H a b/\b[i]?=some x,λi H v c=>∃ p x,H p=none/\v = .ref p/\c=upd H p (.t [.int i,x])/\∀ b,dT K H a b->b[i]?=some x,λi H=>∃ b,dT K H a b/\b.length<=i⟩
def Xs (a e g:Ad) (i:Nat) (h:Ag):Prop:=(∃ old,IsEnum h e g i old)/\h.IsListIter g a i
theorem V3 {P:Ah}{K:nH}(g:e≠it) :
  Turn P w K (.Tuple j x1 pos) (L6 K a) [e,it] e (Xs a e it) where
 mem:=by simp
 obj:=λi h st c m=>by
  obtain⟨⟨old,d⟩,⟨o4,f,c4,p⟩⟩:=st;simp only[aI,bC,dY] at m;rcases m with e | e<;>subst e
  .exact⟨_,d,λv z=>nomatch z⟩
  .exact⟨_,f,λv z=>by rw[p] at z;cases z⟩
 keep:=λi h R st k=>by
  obtain⟨⟨old,d⟩,f⟩:=st;exact⟨⟨old,k e (by simp) _ d⟩,f.at λo q=>k it (by simp) o q⟩
 item:=by
  intro X B hw A m i n s σ H E I t st D;subst B hw A;obtain⟨⟨old,d⟩,f⟩:=st;obtain⟨xs,x,u,W⟩:=D;obtain⟨G,N,L,_⟩:=I.list u;obtain⟨Q,F,M⟩:=N.get W;refine wpAny_pyNext_enum_item d f L.isList (x:=Q) (by simpa using F) g λR T U Y n4 n5=>?_
  refine⟨_,rfl,wpAny_letOwnedTupleGo_enum T λS J y=>?_⟩;have C:∀ c o,c∉[e,it]->s.heap.get? c=some o->S.get? c=some o:=λc o b q=>by
   simp only[aI,bC,dY,mQ] at b;exact y.extBut c o b.1 (n5 c o b.1 b.2 q)
  have Z:s.heap.objs.size≠e:=λq=>eR _ (by have:=aV d;rw[<- q] at this;exact this)
  have nt:vR S s.heap.objs.size [.int i s.toks,Q].toArray:=⟨⟨_,y.extBut _ _ Z Y,rfl,_,rfl⟩,_,y.extBut _ _ Z Y,rfl⟩;have l:=I.movedT (t':=s.toks+1) (ys:=[.int i,x]) t C nt (.cons ⟨_,rfl⟩ (.cons M .nil)) (by show 2<=sizeLine;decide);refine⟨.ref s.heap.objs.size,_,l,rfl,⟨_,x,I.fresh,rfl,rfl,λaa q'=>by rw[I.list_inj q' u];exact W⟩,⟨⟨Q,?_⟩,?_⟩,λc b=>?_⟩
  .have:((i+1:Nat):Int)=(i:Int)+1:=by omega
   rw[this];exact J
  .exact U.at λo q=>y.extBut _ o (fB g) q
  .rw[gD]
   .exact (t c b).1
   .intro q;obtain⟨o,r⟩:∃ o,s.heap.get? c=some o:=by
     obtain⟨o4,O,_⟩:=f;simp only[aI,bC,dY] at b;rcases b with q | q<;>rw[q]
     .exact⟨_,d⟩
     .exact⟨_,O⟩
    have:=aV r;rw[q] at this;exact eR _ this
 done:=by
  intro X B hw A m i n s σ H E I t st D;subst B hw A;obtain⟨⟨old,d⟩,f⟩:=st;obtain⟨xs,u,V⟩:=D;obtain⟨G,N,L,_⟩:=I.list u;have lx:=N.length;refine wpAny_pyNext_enum_end (I.ok.hd m) d f L.isList (by simp;omega) λR k=>⟨rfl,I.moved (t':=s.toks) t λc o b q=>?_⟩
  simp only[aI,bC,dY,mQ] at b;exact k c o b.2 q
 self:=λ_ _ _ _ _ st h=>by
  obtain⟨⟨old,d⟩,f⟩:=st;exact wpAny_pyIter_enum d h
section
variable {X:Cx}{K:nH}
def GU (K:nH) (g:TA):TI:=λe H R=>g e H λc b=>∃ a,c=[.ref a]/\(∃ d,dT K b a d)/\R (L6 K a) b
theorem EH (l:Gl X "enumerate") (o:X.mg "enumerate" = none) (j:PA X [e] C) (r:starEach [e] X.env=[(false,eval e X.env)]:=by rfl) :
  PI X (.Tuple g T J) (.Call (.Name "enumerate" p) [e] [] pos) (GU X.K C):=by
 intro b s t H R I h;refine Call_ (wU I l o boot_enumerate (dL (nJ (j pos b s t H _ I h) λM f i=>?_) r rfl));obtain⟨N,k,d,E,B⟩:=i;obtain⟨a,rfl,⟨O,D⟩,q⟩:=B;obtain⟨u,rfl,F⟩:=qZ E;cases F;obtain⟨x,L,A,_⟩:=d.list D;refine call_enumerate_list A.isList λw n y G z=>?_
 have v:Inv X b t k { f with heap:=w }:=d.kept (t':=f.toks) z;refine wpAny_pyIter_enum n ⟨_,[_,_],_,_,k,rfl,v,V3 (a:=a) (e:=f.heap.objs.size+1) (it:=f.heap.objs.size) (Nat.succ_ne_self _),⟨⟨_,n⟩,y⟩,λc m=>?_,q⟩;simp only[aI,bC,dY] at m;rcases m with e | e<;>(subst e;exact d.fpOk (by omega) (d.hok.fresh (by omega)))
def wZ (g:Aa D):Aa D:=(List.range g.length).zipWith (λi d=>D.t [.int (i:Nat),d]) g
theorem Jy {g:Aa D}{i:Nat}{d:D}(h:g[i]?=some d):(wZ g)[i]?=some (.t [.int i,d]):=by
 obtain⟨a,rfl⟩:=aG.mp h;unfold wZ;simp[a]
theorem Cy:(wZ g).length=g.length:=by simp[wZ]
theorem Wn:YD K (L6 K a) (wZ g) [(.v (.l g),some (.ref a))]:=by
 have key:∀ A H,xJ K A H [(.v (.l g),some (.ref a))]->∃ b,dT K H a b/\Reps K A H g b:=λA H ok=>by
  obtain⟨v,e,r⟩:=ok _ aF;cases e;obtain⟨q,b,e,_,c,f⟩:=r.lst_inv;cases e;exact⟨b,dT.of c,f⟩
 refine⟨rfl,λi H A h ok=>?_,λi H A x n h ok y=>?_,λi H A h ok=>?_⟩
 .obtain⟨b,c,f⟩:=key A H ok;rw[Cy] at h;exact⟨b,b[i]'(by rw[<- f.length];exact h),c,aE _⟩
 .obtain⟨b,c,f⟩:=key A H ok;obtain⟨p,z,k,rfl,rfl,m⟩:=y;obtain⟨d,hd,rd⟩:=f.getV (m b c);exact⟨_,Jy hd,.inr ⟨p,_,_,k,rfl,rfl,rfl,.cons (.int _) (.cons rd .nil)⟩⟩
 .obtain⟨b,c,f⟩:=key A H ok;rw[Cy] at h;exact⟨b,c,by rw[<- f.length];omega⟩
def LP (g:nV):wC:=λb e d=>g b e λr a=>match sd r with
 | some (.l c)=>d (wZ c) a
 | _=>False
theorem Nj (o:Gl X "enumerate") (C:X.mg "enumerate" = none) (j:PD X e U) (J:starEach [e] X.env=[(false,eval e X.env)]:=by rfl) (I:Bw e=true:=by rfl) :
  xV X (.Tuple g x1 ps) (.Call (.Name "enumerate" p) [e] [] pos) (LP U) :=
 (EH o C (hI j nL I) J).mono λA H R f=>f.elim λB w T z n hd q k=>⟨B,w,T,_,n,hd,q,λr h v i s d1 b=>by
  cases c:sd r with
  | none=>rw[c] at b;exact b.elim
  | some d =>
   rw[c] at b;have d2:=d1.thaw c;have t:=d2.valAt;cases d with
   | l y=>obtain⟨a,u,rfl,_,m,x⟩:=t.lst_inv;exact⟨a,rfl,⟨u,dT.of m⟩,k _ _ h [_] i s d2 Wn b⟩
   | _=>exact b.elim⟩
end
end L2
namespace Lw
open PySem L2
abbrev sB:=Aa (Af×Int)
noncomputable def hL (t:sB):Aa (gV×D):=t.map λp=>(Sum.inr p.1,D.int p.2)
noncomputable def look (t:sB) (x:Af):Int:=match t.find? (λp=>decide (p.1=x)) with
 | some p=>p.2
 | none=>0
theorem NB:look [] x=0:=rfl
theorem xS:look (p::t) x=if p.1=x then p.2 else look t x:=by
 unfold look;rw[eQ];by_cases h:p.1=x<;>simp[h]
theorem Bd:∀ (t:sB) (x:Af),(x∈t.map (·.1)->nU (hL t) (Sum.inr x)=some (.int (look t x)))/\(x∉t.map (·.1)->nU (hL t) (Sum.inr x)=none/\look t x=0)
 | [],x=>⟨λh=>by simp at h,λ_=>⟨rfl,rfl⟩⟩
 | p::t,x=>by
  have a:=Bd t x;have e:hL (p::t)=(Sum.inr p.1,D.int p.2)::hL t:=rfl;rw[e,tS,xS];by_cases h:p.1=x
  .subst h;exact⟨λ_=>by rw[aP rfl,aP rfl],λn=>absurd (by simp) n⟩
  .have b:(Sum.inr p.1:gV)≠Sum.inr x:=λq=>h (iB q)
   rw[aJ b,aJ h];refine⟨λm=>a.1 ?_,λm=>a.2 λq=>m (by simp only[aN,aI];exact .inr q)⟩;simp only[aN,aI] at m;exact m.resolve_left λq=>h q.symm
theorem FF (t:sB) (x:Af):(nU (hL t) (Sum.inr x)).getD (.int 0) = .int (look t x):=by
 by_cases h:x∈t.map (·.1)
 .rw[(Bd t x).1 h];rfl
 .rw[((Bd t x).2 h).1,((Bd t x).2 h).2];rfl
theorem V7 (h:x∉t.map (·.1)):oY (hL t) (Sum.inr x) (.int n)=hL (t++[(x,n)]):=by
 unfold oY;rw[Jf,((Bd t x).2 h).1];simp[hL]
theorem Q2:∀ (u t:sB),((t++u).map (·.1)).Nodup->sL (hL t) (hL u)=hL (t++u)
 | [],t,_=>by simp[sL,hL]
 | p::u,t,h=>by
  have a:p.1∉t.map (·.1):=λq=>by
   rw[bE] at h;exact (bU.mp h).2.2 p.1 q p.1 (by simp) rfl
  have e:sL (hL t) (hL (p::u))=sL (oY (hL t) (Sum.inr p.1) (.int p.2)) (hL u):=rfl;rw[e,V7 a,Q2 u (t++[p]) (by simpa using h)];simp
theorem Eh (h:(t.map (·.1)).Nodup):sL [] (hL t)=hL t:=by
 have:=Q2 t [] (by simpa using h)
 simpa [hL] using this
end Lw
namespace L2
open PySem PySem.Spec PyProof.Rows Lw
section
variable {X:Cx}{K:nH}
theorem FH:oQ X (.type "int") (λg H Q=>∃ (x:Af) (n:Int),g=[.str x]/\intText? x=some n/\x.length<=640/\Q (.int n) H):=by
 intro a s k H g i Q I r h;obtain⟨x,n,rfl,c,d,q⟩:=h;obtain⟨u,rfl,f⟩:=qZ r;obtain⟨t,rfl⟩:=f;exact PySem.W.KIN.call_text c d ⟨.int n,H,I.kept (t':=s.toks+1) λb o e=>e,⟨_,rfl⟩,q⟩
def MM:OC:=λa b=>match a with
 | [.str x]=>∃ n,intText? x=some n/\x.length<=640/\b (.v (.int n))
 | a=>Lc a b
def Lz:Aa V->Hp->VK->Prop:=λa H Q=>((∃ i,a=[.int i]/\Q (.int i) H)\/∃ k,a=[.b k]/\Q (.int (if k then 1 else 0)) H)\/∃ (x:Af) (n:Int),a=[.str x]/\intText? x=some n/\x.length<=640/\Q (.int n) H
theorem Ep:oQ X (.type "int") Lz:=Xr.or FH
theorem Ey:rM K Lz MM:=by
 intro B L H b e f Q hd c a k;have two:Lc b f->Lz e H Q:=λa=>.inl (Wf B L H b e f Q hd c a k)
 cases b with
 | nil=>exact two a
 | cons d b =>
 cases d<;>first | exact two a | skip
 cases b with
 | cons _ _=>exact two a
 | nil =>
 obtain⟨x,rfl,m⟩:=sH c;have:=m.str_inv;subst this;obtain⟨n,h,i,a⟩:=a;exact .inr ⟨_,n,rfl,h,i,k _ _ H a (hd.pushF (.int _))⟩
end
section
theorem uW (J:Aa α) (U T:α->D) (p:α->Bool) (C:Aa Sl) (ac:∀ Ψ:Aa D->Aa Sl->Prop,Ψ (J.map U) C->ι dk ρ Ψ) (hl:J.length<=100000)
  (hs:∀ (i:Nat) x (I:Aa D) (Nx:Aa D->Aa Sl->Prop),J[i]?=some x->I.length<100000->(p x=true->Nx (I++[T x]) (qB j C))->(p x=false->Nx I (qB j C))->g (U x) (List.replicate n Sl.n++qB j C) λae=>tt dk ae λb aa=>if b=true then te dk aa λr af=>match sd r with
   | some c=>I.length<100000/\Nx (I++[c]) (af.drop n)
   | none=>False
   else Nx I (aa.drop n))
  (ab:Φ (.o (.l ((J.filter p).map T))) (qU j (qB j C) C)):yL n j ι g tt te dk ρ Φ:=by
 refine ac _ ⟨λi I a=>I=((J.take i).filter p).map T/\a=qB j C,⟨by simp,rfl⟩,?_,?_⟩
 .rintro i d I a hd _ ⟨f,h⟩;rw[aQ] at hd;cases e:J[i]? with
  | none=>rw[e] at hd;cases hd
  | some x =>
   rw[e] at hd;cases hd;obtain⟨s,_⟩:=aG.mp e;have k:(J.take (i+1)).filter p=(J.take i).filter p++(if p x=true then [x] else []):=by
    rw[bQ,e,mF];by_cases q:p x=true<;>simp[q]
   have len:I.length<100000:=by
    rw[f,aA];have m:=cW p (J.take i);rw[bN] at m;omega
   rw[h];refine hs i x I (λI a=>I=((J.take (i+1)).filter p).map T/\a=qB j C) e len (λq=>⟨?_,rfl⟩) λq=>⟨?_,rfl⟩
   .rw[k,aP q,f,bE];rfl
   .rw[k,aJ (by rw[q];decide),cZ];exact f
 .rintro I a _ ⟨f,h⟩;rw[f,h,aA,cM];exact ab
theorem rF (J:Aa α) (C I:α->D) (p:Aa Sl) (ab:∀ Ψ:Aa D->Aa Sl->Prop,Ψ (J.map C) p->ι dk ρ Ψ) (hl:J.length<=100000)
  (hs:∀ (i:Nat) x (T:Aa D) (U:Aa D->Aa Sl->Prop),J[i]?=some x->T.length<100000->U (T++[I x]) (qB j p)->g (C x) (List.replicate n Sl.n++qB j p) λac=>te dk ac λr ae=>match sd r with
   | some c=>T.length<100000/\U (T++[c]) (ae.drop n)
   | none=>False)
  (aa:Φ (.o (.l (J.map I))) (qU j (qB j p) p)):yL n j ι g Mr te dk ρ Φ:=by
 refine uW J C I (λ_=>true) p ab hl (λi x T U e a b _=>hs i x T U e a (b rfl)) ?_;have:J.filter (λ_=>true)=J:=List.filter_eq_self.mpr λ_ _=>rfl
 rw[this];exact aa
end
end L2
namespace Lw
open PySem L2
def pB (i:Nat):Stmt:=PySem.Challenge.pw_laidcells_k07_equations_of_names.main.body.getD i (.Pass ⟨0,0,0,0⟩)
abbrev Fs:Stmt:=pB 4
abbrev E2:Stmt:=pB 6
abbrev Hv:Stmt:=pB 7
abbrev Fc:Stmt:=pB 8
abbrev Gu:Stmt:=pB 9
abbrev F0:Stmt:=pB 11
abbrev Eo:Stmt:=pB 12
abbrev Dy:Stmt:=pB 13
abbrev F1:Stmt:=pB 14
abbrev Ia:Stmt:=pB 15
abbrev Fy:Stmt:=pB 16
abbrev Dm:Stmt:=pB 17
abbrev Fq:Stmt:=pB 18
abbrev Cm:Stmt:=pB 19
abbrev Ej:Stmt:=pB 20
abbrev Ga:Stmt:=pB 22
abbrev zJ:Stmt:=pB 23
abbrev C5:Stmt:=pB 24
abbrev Hx:Stmt:=pB 25
abbrev G7:Stmt:=pB 26
abbrev F6:Stmt:=pB 27
abbrev Hs:Stmt:=pB 28
abbrev Ft:Stmt:=pB 30
abbrev Gq:Stmt:=pB 31
abbrev Hq:Stmt:=pB 32
abbrev Ff:Stmt:=pB 33
abbrev Gx:Stmt:=pB 34
abbrev A5:Stmt:=pB 35
abbrev Gj:Stmt:=pB 36
abbrev Ed:Stmt:=pB 37
abbrev Gr:Stmt:=pB 38
abbrev yX:Stmt:=pB 39
structure Txt (mg:Str->Option Value):Prop where
 len:mg "len" = none
 range:mg "range" = none
 sum:mg "sum" = none
 min:mg "min" = none
 max:mg "max" = none
 tuple:mg "tuple" = none
 list:mg "list" = none
 set:mg "set" = none
 dict:mg "dict" = none
 int:mg "int" = none
 str:mg "str" = none
 zip:mg "zip" = none
 enumerate:mg "enumerate" = none
 all:mg "all" = none
 any:mg "any" = none
 isinstance:mg "isinstance" = none
 sorted:mg "sorted" = none
 abs:mg "abs" = none
 reversed:mg "reversed" = none
 bool:mg "bool" = none
structure Gd (K:nH) (mg:Str->Option Value) (x:Str) (st:Stmt) (ps:List Str) (f:Addr) (fd:FuncData):Prop where
 F:Fun K x x st f fd
 m:mg x=some (.ref f)
 k:PySem.W.keepIn K (.ref f)=true
 b:xN K fd ps []
def Kn (P:Ah) (w:World) (K:nH) (g:Af->Ab Ac) (base:Ag) (k:Nat) (x:Af) (st:Stmt) (j:Aa Af) (R:RD):Prop:=∃ f fd,Gd K g x st j f fd/\FnOk P w K g base oK k f fd j (wX K R)
theorem pJ {X:Cx}{st:Stmt}{R:RD}(G:Kn X.prog X.w X.K X.mg X.base k x st J R) (C:Room m X.A) (o:rZ X (e::l) I) (hk:k<=m:=by decide) (r:Gl X x:=by rfl) (g:(x == ("__debug__" : Af))=false:=by decide)
  (j:StB X e l pos:=by exact {}):PD X (.Call (.Name x p) (e::l) [] pos) (zQ R I):=G.elim λ_ h=>h.elim λ_ h=>W9 h.2 (C.mono hk) r h.1.m h.1.k h.1.b o g j
def pZ (P:Ah) (w:World) (K:nH) (g:Af->Ab Ac) (base:Ag) (k:Nat) (x:Af) (st:Stmt) (j:Aa Af) (R:RD):Prop:=∀ f fd,Fun K x x st f fd->FnOk P w K g base oK k f fd j (wX K R)
theorem qI {P:Ah}{K:nH}{st:Stmt}{R:RD}(S:FnScope N J (oB st))
  (j:∀ (f:Ad) (g:Ac) (A:Around) (l:Aa Env) (s:Ae) (H:Hp) (E:XK) (C:Aa Ad) (o:Aa D) (r:Sl->Prop),Room k (A.deeper (PyProof.Rows.envOfC x (oB st) s.heap.objs.size f g))->(A.deeper (PyProof.Rows.envOfC x (oB st) s.heap.objs.size f g)).units+1<cLine->R C o r ->∃ t,uY (yN oK P w K T base N x (oB st) f g A l s H E).nox (sT st) t/\t C { nx:=λ_=>r (.v .e),rt:=r } (zK N o)) (I:J.length<=N.length:=by decide) (p:∀ C o r,R C o r->o.length=J.length:=by rintro _ _ _ h;repeat' (rcases h with⟨i,h⟩;try (subst i;rfl))):pZ P w K T base (k+1) x st J R:=λ_ _ F=>F.okD S p I λ_ _ _ _ _ _ _ _ _ a=>j _ _ _ _ _ _ _ _ _ _ a (Kk a)
def B9:Sp:=λb H Q _=>∃ (d c:Ad) (m:Int),b=[.ref d,.int m]/\DeckAt H d c/\0<m/\m<4611686018427387904/\∀ (r:Int) (a:Hp),0<=r->r<m->DeckAt a d c->nD d c H a->Q (.int r) a
section
variable {P:Ah}{K:nH}
theorem Mj:FnScope ["deck","many","at","cell"] ["deck","many"] (oB zJ):=⟨rfl,rfl,rfl,by decide +kernel,rfl,by decide +kernel,by decide +kernel⟩
theorem Fm (F:Fun K "_law_take" "_law_take" zJ f fd) (T:Txt g):FnOk P w K g base oK 1 f fd ["deck","many"] B9:=by
 refine F.ok Mj (λR H Q E h=>?_) (λG A x s H R Q E X h=>?_)
 .obtain⟨d,c,m,rfl,_⟩:=h;rfl
 .obtain⟨d,c,m,rfl,D,n,W,k⟩:=h;obtain⟨a,p,t,y,L,M⟩:=id D.ex;have q:=D.ne;refine⟨_,pW (oS (i:=2) Mj.nd rfl (Or.inl rfl) (oC rH (qJ rD (pv 0) oD (λ_ _=>rfl)) (sM vP (by rfl) T.len cE (wW (qJ rD (pv 0) oD (λ_ _=>rfl)) nL)))) (pW (Di (oC uE (qJ rD (pv 0) oD (λ_ _=>rfl)) oD) (Dq (pv 0) oD Hf)) (pW (oS (i:=3) Mj.nd rfl (Or.inl rfl) (qJ rD (qJ rD (pv 0) oD (λ_ _=>rfl)) (pv 2) (λ_ _=>rfl))) (pW (Di (oC N4 (pv 3) (pv 1)) (Dq (qJ rD (pv 0) oD (λ_ _=>rfl)) (pv 2) Hf)) (pQ (uL (oC rH (pv 3) (pv 1))))))),?_⟩;refine⟨_,rfl,d,_,_,_,rfl,rfl,dT.of t,rfl,_,rfl,d,_,_,_,rfl,rfl,dT.of t,rfl,c,_,rfl,.inl (dT.of y),_,_,rfl,rfl,?_,?_⟩
  .rw[aA];omega
  .rw[aA];have B:=fC p (show (a.length:Int)≠0 by omega);have S:=dU p (show (0:Int)<a.length by omega);obtain⟨j,z⟩:=cX B;have v:j<a.length:=by omega
   have u:(a.map V.int)[j]?=some (V.int a[j]):=by simp[v]
   refine⟨_,rfl,d,_,_,_,rfl,rfl,dT.of t,rfl,_,_,rfl,rfl,_,rfl,d,_,_,1,rfl,rfl,t,rfl,?_⟩;have g1:upd H d (.l ([V.ref c,V.int p].set 1 (V.int (p+1)))) d=some (.l [.ref c,.int (p+1)]):=hG;have g2:upd H d (.l ([V.ref c,V.int p].set 1 (V.int (p+1)))) c=some (.l (a.map V.int)):=by rw[gD q.symm];exact y
   refine⟨_,rfl,d,_,_,_,rfl,rfl,dT.of g1,rfl,_,rfl,c,_,_,V.int a[j],rfl,rfl,dT.of g2,(by rw[z];exact yD u),?_⟩
   .refine⟨_,rfl,_,rfl,_,_,rfl,rfl,⟨n,by omega⟩,_,rfl,d,_,_,_,rfl,rfl,dT.of g1,rfl,_,rfl,c,_,_,j,rfl,rfl,g2,?_,?_⟩
    .rw[z,aA];unfold sK;rw[aP (by omega),aP (by omega)];simp
    .refine⟨_,rfl,_,rfl,_,_,rfl,rfl,n,?_⟩;refine k _ _ (fC _ (by omega)) (dU _ n) ⟨a.set j (a[j]/m),p+1,?_,?_,by rw[aY];exact L,by rw[aY];exact M⟩ ?_
     .rw[gD q];exact g1
     .rw[hG,List.map_set]
     .intro b o e N O;rw[gD O,gD N];exact e
end
theorem oW.new (h:H p=none):oW H (upd H p o):=λb u e=>by rw[gD (hV e h)];exact e
theorem KI (g:Aa Int) (lo j:Ab Int):∃ l:Aa Int,sP (g.map V.int) lo j=l.map V.int/\l.length<=g.length:=by
 refine⟨(g.drop (HT.sIx g.length 0 lo)).take (HT.sIx g.length g.length j-HT.sIx g.length 0 lo),?_,?_⟩
 .unfold sP;rw[List.length_map,List.map_take,List.map_drop]
 .rw[bN,dB];omega
def Ny (K:nH):Sp:=λf H Q _=>∃ (a:Ad) (e:Aa Int),f=[.ref a]/\dT K H a (e.map V.int)/\e.length<=63/\∀ (d c:Ad) (b:Hp),DeckAt b d c->H d=none->H c=none->oW H b->Q (.ref d) b
section
variable {P:Ah}{K:nH}
theorem Ce:FnScope ["script","cells","k","mixed"] ["script"] (oB Ga):=⟨rfl,rfl,rfl,by decide +kernel,rfl,by decide +kernel,by decide +kernel⟩
theorem HC (F:Fun K "_law_deck" "_law_deck" Ga f fd) (T:Txt mg):FnOk P w K mg base oK 1 f fd ["script"] (Ny K):=by
 refine F.ok Ce (λvs H Q E h=>?_) (λab A g s H vs Q E hr h=>?_)
 .obtain⟨a,t,rfl,_⟩:=h;rfl
 .obtain⟨a,t,rfl,W,aa,k⟩:=h;refine⟨_,pW (oS (i:=1) Ce.nd rfl (Or.inl rfl) (oC Ax (wR Aj (pv 0) xL (xQ oD)) (pY (wW (sM vP (by rfl) T.len cE (wW (pv 0) nL)) nL)))) (pW (wI (uV F2 (oC rH (sM (Ch rfl) (by rfl) T.sum iG (wW (wR Aj (pv 0) xL (xQ oD)) nL)) oD) oD (wG _)) (pQ (vZ dO rfl (zG rfl T.range (wW (sM vP (by rfl) T.len cE (wW (pv 1) nL)) nL)) (tP (i:=2) Ce.nd rfl (Or.inl rfl)) (pW (oS (i:=3) Ce.nd rfl (Or.inl rfl) (oC rH (oC wJ (oC uE (oC uE (oC rH (qJ rD (pv 1) (pv 2) (λ_ _=>rfl)) oD) (oC wJ oD (pv 2))) oD) oD) oD)) (pW (oS (i:=3) Ce.nd rfl (Or.inl rfl) (oC rH (oC wJ (oC rH (oC uE (oC wJ (pv 3) (pv 3)) (oC wJ oD (pv 2))) oD) oD) oD)) (pQ (Di (oC uE (oC wJ (oC wJ (pv 3) (pv 3)) oD) (oC rH (oC wJ (pv 3) oD) oD)) (Dq (pv 1) (pv 2) Hf))))))) yH) (pQ (uL (pY (wW (pv 1) (wW oD nL)))))),?_⟩;obtain⟨q,U,ac⟩:=KI t none (some 63);refine⟨_,rfl,_,rfl,a,_,rfl,W,λG n1=>?_⟩;have p:oW H (upd H G (.l (sP (t.map V.int) none (some 63)))):=oW.new n1;rw[U] at p |-;refine⟨_,rfl,a,_,rfl,.inl (p.seq W),(by show 1<=sizeLine;decide),λj n2=>?_⟩;have s2:=p.trans (oW.new (o:=.l [V.int ((t.map V.int).length:Nat)]) n2);have q1:upd (upd H G (.l (q.map V.int))) j (.l [V.int ((t.map V.int).length:Nat)]) G=some (.l (q.map V.int)):=by rw[gD (hV hG n2)];exact hG
  refine⟨G,j,_,_,rfl,rfl,q1,hG,?_,λc nc=>?_⟩
  .rw[aA];exact bF (show q.length+1<=64 by omega) (by decide)
  have L:=s2.trans (oW.new (o:=.l (q.map V.int++[V.int ((t.map V.int).length:Nat)])) nc);have ec:q.map V.int++[V.int ((t.map V.int).length:Nat)]=(q++[((t.map V.int).length:Int)]).map V.int:=by simp
  rw[ec] at L |-;generalize Y:q++[((t.map V.int).length:Int)]=u at L;have D:0<u.length/\u.length<=64:=by rw[<- Y,aZ,List.length_singleton];omega
  have B:H c=none:=s2.free nc;generalize S:upd (upd (upd H G (.l (q.map V.int))) j (.l [V.int ((t.map V.int).length:Nat)])) c (.l (u.map V.int))=I at L;have J:I c=some (.l (u.map V.int)):=by rw[<- S];exact hG
  have fin:∀ (m:Aa Int) (v x:Ab V) (O:Hp),oW H O->O c=some (.l (m.map V.int))->0<m.length->m.length<=64 ->
    (Oj (Qy (Cp (qO 1) (Cp (tC (.int 0)) Fp)))) { nx:=λ_ H'=>Q .e H',rt:=Q } [some (.ref a),some (.ref c),v,x] O:=by
   intro m v x O N y l1 l2;refine⟨_,rfl,(by show 2<=sizeLine;decide),λd nd=>?_⟩;refine k d c _ ⟨m,0,hG,by rw[gD (hV y nd)];exact y,l1,by omega⟩ (N.free nd) B (N.trans (oW.new nd))
  refine⟨_,rfl,_,rfl,a,_,rfl,L.seq W,λp4 n4=>?_⟩;rw[U];have N:=L.trans (oW.new (o:=.l (q.map V.int)) n4);have y:upd I p4 (.l (q.map V.int)) c=some (.l (u.map V.int)):=by rw[gD (hV J n4)];exact J
  refine⟨p4,q,rfl,dT.of hG,_,_,rfl,rfl,(by show (0:Int)<2;decide),rfl,_,rfl,?_⟩;refine zD (λ_=>?_) (λ_=>?_)
  .refine⟨_,rfl,c,_,rfl,.inl (dT.of y),_,rfl,by omega,by rw[aA];omega,?_⟩;rw[aA,cD];refine Fz (lo:=0) (n:=u.length) (λi C z=>∃ (m:Aa Int) (v x:Ab V),C=[some (.ref a),some (.ref c),v,x]/\oW H z/\z c=some (.l (m.map V.int))/\m.length=u.length)
    ⟨u,none,none,rfl,N,y,rfl⟩ ?_ ?_
   .rintro i C z hi ⟨m,v,x,rfl,r,R,Z⟩;have X:(m.map V.int)[i]?=some (V.int (m[i]'(by omega))):=by simp[Z,hi]
    refine⟨_,rfl,_,rfl,c,_,_,V.int (m[i]'(by omega)),rfl,rfl,dT.of R,(by rw[lZ];exact yD X),_,_,rfl,rfl,(by show (0:Int)<2147483587;decide),_,rfl,_,_,rfl,rfl,.inl (by decide),_,_,rfl,rfl,_,_,rfl,rfl,_,_,rfl,rfl,.inr (by decide),_,_,rfl,rfl,(by show (0:Int)<2147483629;decide),?_⟩;refine⟨_,rfl,_,rfl,_,_,rfl,rfl,.inl ?_,_,rfl,_,_,rfl,rfl,.inl (by decide),_,_,rfl,rfl,_,_,rfl,rfl,(by show (0:Int)<2147483563;decide),_,_,rfl,rfl,.inr (by decide),_,_,rfl,rfl,(by show (0:Int)<2147483549;decide),?_⟩
    .have b0:=fC ((m[i]'(by omega)%2147483587+853*(0+(i:Int))+11)*69621) (show (2147483629:Int)≠0 by decide);have b1:=dU ((m[i]'(by omega)%2147483587+853*(0+(i:Int))+11)*69621) (show (0:Int)<2147483629 by decide);exact⟨by omega,by omega⟩
    generalize hM:((m[i]'(by omega)%2147483587+853*(0+(i:Int))+11)*69621%2147483629)=M;have b0:=fC ((M*M+31*(0+(i:Int)))%2147483563*16807) (show (2147483549:Int)≠0 by decide);have b1:=dU ((M*M+31*(0+(i:Int)))%2147483563*16807) (show (0:Int)<2147483549 by decide);refine⟨_,rfl,_,rfl,_,_,rfl,rfl,.inl ?_,_,_,rfl,rfl,.inr (by decide),_,rfl,_,_,rfl,rfl,.inl ?_,_,_,rfl,rfl,(by show (0:Int)<2147483579;decide),_,_,rfl,rfl,_,rfl,_,rfl,c,_,_,i,rfl,rfl,R,?_,?_⟩
    .exact⟨by omega,by omega⟩
    .exact⟨by omega,by omega⟩
    .rw[aA];unfold sK;rw[aP (by omega),aP (by omega)]
     congr 1
     omega
    .refine⟨m.set i _,_,_,rfl,?_,by rw[hG,List.map_set],by rw[aY];exact Z⟩;intro b o e;rw[gD (hV e B)];exact r b o e
   .rintro C z ⟨m,v,x,rfl,r,R,Z⟩;exact fin m v x z r R (by omega) (by omega)
  .exact fin u none none _ N y D.1 D.2
end
structure LS (n m:Nat) (x:Str):Prop where
 az:∀ c∈x.cps.toList,97<=c/\c<=122
 lo:n<=x.length
 hi:x.length<=m
theorem Vw (x y:Af):(x++y).cps.toList=x.cps.toList++y.cps.toList:=by
 show (x.cps++y.cps).toList=_;simp
theorem Ve (x y:Af):(x++y).length=x.length+y.length:=by
 show (x.cps++y.cps).size=_;simp[Str.length]
theorem LS.app (h:LS a b x) (g:LS c d y):LS (a+c) (b+d) (x++y) :=
 ⟨λz e=>by rw[Vw] at e;exact (aT.mp e).elim (h.az z) (g.az z),by rw[Ve];have:=h.lo;have:=g.lo;omega,by rw[Ve];have:=h.hi;have:=g.hi;omega⟩
theorem LS.weak (h:LS a b x) (g:c<=a) (j:b<=d):LS c d x:=⟨h.az,bF g h.lo,bF h.hi j⟩
noncomputable def Fd (n m:Nat) (x:Af):Bool:=x.cps.toList.all (λc=>decide (97<=c)&&decide (c<=122))&&decide (n<=x.length)&&decide (x.length<=m)
theorem LS.of (h:Fd n m x=true):LS n m x:=by
 unfold Fd at h;simp only[cH,gI,decide_eq_true_eq] at h;exact⟨h.1.1,h.1.2,h.2⟩
theorem LS.cutL (h:LS n n z) (hk:k<=n):LS k k (tX z none (some (k:Int))):=by
 have e:z.length=n:=kN h.hi h.lo;have d:HT.sIx z.length z.length (some (k:Int))=k:=by rw[HT.sIx_nat];omega
 have a:(tX z none (some (k:Int))).cps.toList=z.cps.toList.take k:=by
  show ((z.cps.toList.drop (HT.sIx z.length 0 none)).take _).toArray.toList=_;rw[d,HT.sIx_none];simp
 have f:(tX z none (some (k:Int))).length=k:=by
  rw[<- xF,a,bN,xF];omega
 exact⟨λc b=>by rw[a] at b;exact h.az c (iO b),by omega,by omega⟩
theorem LS.cutR (h:LS n n z) (hk:k<=n):LS (n-k) (n-k) (tX z (some (k:Int)) none):=by
 have e:z.length=n:=kN h.hi h.lo;have d:HT.sIx z.length 0 (some (k:Int))=k:=by rw[HT.sIx_nat];omega
 have a:(tX z (some (k:Int)) none).cps.toList=z.cps.toList.drop k:=by
  show ((z.cps.toList.drop (HT.sIx z.length 0 (some (k:Int)))).take _).toArray.toList=_;rw[d,HT.sIx_none];simp only[List.toList_toArray];rw[bI];rw[dB,xF];omega
 have f:(tX z (some (k:Int)) none).length=n-k:=by
  rw[<- xF,a,dB,xF];omega
 exact⟨λc b=>by rw[a] at b;exact h.az c (List.mem_of_mem_drop b),by omega,by omega⟩
theorem LS.sign (h:97<=c/\c<=122):LS 1 1 ⟨#[c]⟩:=⟨λd hd=>by simp at hd;subst hd;exact h,aU _,aU _⟩
theorem Nr:∀ (g:Aa Af),(∀ y∈g,LS 1 1 y)->LS g.length g.length (Str.join "" g)
 | [],_=>⟨λc e=>(nomatch e),aU _,aU _⟩
 | [x],h=>h x aF
 | x::y::r,h=>by
  have b:=h x aF;have d:=Nr (y::r) λz f=>h z (aH _ f)
  have a:LS 0 0 (Str.ofString ""):=LS.of (by decide +kernel);have:=(b.app a).app d;show LS _ _ (x++(Str.ofString "")++Str.join "" (y::r));exact this.weak (by simp;omega) (by simp;omega)
theorem Zh (g:0<=i) (l:i<xs.length):∃ v,pI xs i=some v/\v∈xs:=by
 obtain⟨j,rfl⟩:=cX g;have a:j<xs.length:=by omega
 exact⟨xs[j],yD (aE a),fJ a⟩
theorem E1 {xs:Aa Af}{i:Int}(g:0<=i) (l:i<xs.length):∃ x,pI (xs.map V.str) i=some (V.str x)/\x∈xs:=by
 obtain⟨j,rfl⟩:=cX g;have a:j<xs.length:=by omega
 exact⟨xs[j],yD (by simp[a]),fJ a⟩
def pD:Af := "abcdefghijklmnopqrstuvwxyz"
theorem Km:pD.length=26:=by decide +kernel
theorem L5 (g:0<=i) (j:i<26):∃ c,pI pD.cps.toList i=some c/\97<=c/\c<=122:=by
 obtain⟨c,e,m⟩:=Zh (xs:=pD.cps.toList) g (by rw[xF,Km];exact j);have h:LS 26 26 pD:=LS.of (by decide +kernel);exact⟨c,e,h.az c m⟩
noncomputable def rT:Aa Af:=["and","or","odd","most","not","one","nil","in","out"]
theorem AN (h:x∈rT):LS 2 4 x:=by
 have:rT.all (Fd 2 4)=true:=by decide +kernel
 exact LS.of (gI.mp this x h)
structure GoodName (x:Str):Prop where
 ls:LS 1 8 x
 nk:x∉rT
def Kw:Sp:=λa H Q _=>a=[]/\∀ l,H l=none->Q (.ref l) (upd H l (.l (rT.map V.str)))
def Rk:Sp:=λe H Q _=>∃ (d c:Ad) (m:Nat),e=[.ref d,.int m]/\DeckAt H d c/\m<=40/\∀ (l:Ad) (b:Aa Af) (a:Hp),H l=none->a l=some (.l (b.map V.str))->b.length=m->(∀ x∈b,LS 1 8 x) ->
 DeckAt a d c->nD d c H a->Q (.ref l) a
theorem nD.free (k:nD d c H g) (j:l≠d) (p:l≠c) (h:g l=none):H l=none:=by
 cases e:H l with
 | none=>rfl
 | some o=>rw[k l o e j p] at h;cases h
theorem GB {g:Aa Af}{n m:Nat}(h:∀ y∈g,y.length<=m) (j:g.length<=n):(g.map (·.length)).sum<=n*m:=by
 have:∀ g:Aa Af,(∀ y∈g,y.length<=m)->(g.map (·.length)).sum<=g.length*m:=by
  intro g;induction g with
  | nil=>intro _;simp
  | cons a r c =>
   intro h;have d:=h a aF;have e:=c λy b=>h y (aH _ b)
   simp only[aN,jR,bY,Nat.add_mul,Nat.one_mul];omega
 exact bF (this g h) (iP m j)
theorem E3 (h:n<=1000):n<=sizeLine:=bF h (by decide)
section
variable {P:Ah}{K:nH}
theorem CZ:FnScope [] [] (oB C5):=⟨rfl,rfl,rfl,by decide +kernel,rfl,by decide +kernel,by decide +kernel⟩
theorem T4 (F:Fun K "_law_kept" "_law_kept" C5 f fd):FnOk P w K g base oK 1 f fd [] Kw:=by
 refine F.ok CZ (λd H Q E h=>?_) (λb A a s H d Q E e h=>?_)
 .obtain⟨rfl,_⟩:=h;rfl
 .obtain⟨rfl,k⟩:=h;refine⟨_,@pQ _ _ _ (@uL _ _ _ _ (@pY _ _ _ _ (@yE _ [("and",_,_),("or",_,_),("odd",_,_),("most",_,_),("not",_,_),("one",_,_),("nil",_,_),("in",_,_),("out",_,_)]))),?_⟩;have c:9<=sizeLine:=by decide
  refine⟨c,?_⟩;exact k
theorem vE:FnScope ["deck","many","letters","base","at","shift","way","names","k","sign","word","name"] ["deck","many"] (oB Hx):=⟨rfl,rfl,rfl,by decide +kernel,rfl,by decide +kernel,by decide +kernel⟩
theorem FM:(["k","letters","deck"]:Aa Af).Nodup:=by decide +kernel
theorem Sq (j:0<=i) (l:i<2) (q:Af) (g:LS 0 1 q):∃ x,pI [V.str "",V.str q] i=some (V.str x)/\LS 0 1 x:=by
 have:i=0\/i=1:=by omega
 rcases this with rfl | rfl
 .exact⟨"",rfl,LS.of (by decide +kernel)⟩
 .exact⟨q,rfl,g⟩
theorem Y4 (F:Fun K "_law_made_names" "_law_made_names" Hx f fd) (T:Txt mg) (g:Gd K mg "_law_take" zJ ["deck","many"] fT aw) (gK:Gd K mg "_law_kept" C5 [] fK av) :
  FnOk P w K mg base oK 2 f fd ["deck","many"] Rk:=by
 have GT:FnOk P w K mg base oK 1 fT aw ["deck","many"] B9:=Fm g.F T;have GK:FnOk P w K mg base oK 1 fK av [] Kw:=T4 gK.F;refine F.ok vE (λvs H Q E h=>?_) (λa8 A a7 s H vs Q E hr h=>?_)
 .obtain⟨d,c,m,rfl,_⟩:=h;rfl
 .obtain⟨d,c,m,rfl,D,hm,k⟩:=h;refine⟨_,pW (oS (i:=2) vE.nd rfl (Or.inr rfl) uK) (pW (oS (i:=3) vE.nd rfl (Or.inl rfl) (vD PySem.F.plainAttrs_str PySem.F.slot_str_join PySem.F.type_str_join Wm uK (hI (Bj ["k"] ["letters","deck"] [2,0] rfl (zG rfl T.range (hI (qF GT hr rfl g.m g.k g.b .nil pX (hI (pv 0) (hI oD nL))) nL)) rfl rfl (λZ S C cl fp=>tP (i:=0) FM rfl (Or.inl rfl)) (λZ S C cl fp=>Dj) (λZ S C cl fp=>qJ E4 (pv 1) (qF GT hr rfl g.m g.k g.b .nil pX (hI (pv 2) (hI oD nL))) (λ_ _=>rfl))) nL))) (pW (oS (i:=4) vE.nd rfl (Or.inl rfl) (qF GT hr rfl g.m g.k g.b .nil pX (hI (pv 0) (hI (oC uE (sM Qa (by rfl) T.len cE (hI (pv 3) nL)) oD) nL)))) (pW (oS (i:=5) vE.nd rfl (Or.inl rfl) (qF GT hr rfl g.m g.k g.b .nil pX (hI (pv 0) (hI oD nL)))) (pW (oS (i:=6) vE.nd rfl (Or.inl rfl) (qF GT hr rfl g.m g.k g.b .nil pX (hI (pv 0) (hI oD nL)))) (pW (oS (i:=7) vE.nd rfl (Or.inl rfl) (pY nL)) (pW (vZ dO rfl (zG rfl T.range (hI (pv 1) nL)) (tP (i:=8) vE.nd rfl (Or.inl rfl)) (pW (oS (i:=9) vE.nd rfl (Or.inl rfl) (qJ E4 (pv 2) (oC rH (oC uE (pv 5) (pv 8)) oD) (λ_ _=>rfl))) (pW (oS (i:=10) vE.nd rfl (Or.inl rfl) (qJ rD (Oz GK hr rfl gK.m gK.k gK.b .nil pX) (oC rH (oC uE (pv 5) (pv 8)) oD) (λ_ _=>rfl))) (pW (oS (i:=11) vE.nd rfl (Or.inl rfl) (oC wS (oC wS (oC wS (oC wS (wR Im (pv 3) xL (xQ (pv 4))) (pv 9)) (qJ rD (pY (hI uK (hI uK nL))) (oC rH (pv 8) oD) (λ_ _=>rfl))) (wR Im (pv 3) (xQ (pv 4)) xL)) (qJ rD (pY (hI uK (hI uK nL))) (oC JR (pv 8) oD) (λ_ _=>rfl)))) (pQ (Az (vD bZ cR cS wA (pv 7) (hI (qJ rD (pY (hI (pv 11) (hI (oC wS (pv 9) (pv 10)) (hI (oC wS (pv 10) (pv 9)) (hI (oC wS (oC wS (pv 9) (pv 10)) (qJ E4 (pv 2) (oC rH (pv 8) oD) (λ_ _=>rfl))) nL))))) (pv 6) (λ_ _=>rfl)) nL)))))))) (pQ (uL (pv 7))))))))),?_⟩;refine⟨rfl,_,rfl,d,c,6,rfl,D,by decide,by decide,λr1 H1 a0 a1 D1 k1=>⟨_,rfl,by omega,by omega,λD0 N=>?_⟩⟩;have u:=D1.ned N;have a2:H D0=none:=k1.free u.1 u.2 N;refine Es S9 (λi ys H2=>∃ t:Aa Af,ys=t.map V.str/\t.length=i/\(∀ z∈t,LS 1 1 z)/\DeckAt H2 d c/\nD d c H H2/\H2 D0=some (.l ys))
   ⟨[],rfl,rfl,(λz Y=>nomatch Y),D1.new N,k1.trans (nD.new N),hG⟩ (λ_ _ _ _ _=>True.intro) ?_ ?_
  .rintro i x ys H2 hx ⟨t,rfl,hl,a6,D2,k2,hD⟩;have hi:i<6:=by
    have:=(aG.mp hx).1;simp at this;omega
   refine⟨_,rfl,_,rfl,d,c,26,rfl,D2,by decide,by decide,λr H3 b0 b1 D3 k3=>?_⟩;obtain⟨W,a3,I⟩:=L5 b0 b1;have az:=k3 D0 _ hD u.1 u.2;refine⟨pD,_,W,rfl,rfl,(by rw[Km];decide),a3,⟨_,rfl⟩,az,(by rw[aA];exact aR (show t.length<1000 by omega) (by decide)),t++[⟨#[W]⟩],by simp,by simp[hl],λz Y=>?_,D3.upd_other u.1 u.2,?_,hG⟩
   .rcases aT.mp Y with q | q
    .exact a6 z q
    .rw[aO.mp q];exact LS.sign I
   .exact λb o e h1 h2=>by rw[gD (hV e a2)];exact k3 b o (k2 b o e h1 h2) h1 h2
  .rintro ys H2 ⟨t,rfl,hl,Y,D2,k2,hD⟩;rw[aA,cA] at hl;have hB:=Nr t Y;have ay:t.length<=5:=by omega
   refine⟨"",D0,t,rfl,rfl,.inl (dT.of hD),?_,?_⟩
   .have h1:=GB (m:=1) (λy hy=>(Y y hy).hi) ay;have h2:(Str.ofString "").length=0:=by decide +kernel
    rw[h2];omega
   have ej:Txt.join (Str.ofString "") t=Str.join (Str.ofString "") t:=StrLaws.glued_eq_join _ _;rw[ej];generalize Str.join (Str.ofString "") t=B at hB;have eB:B.length=t.length:=kN hB.hi hB.lo;refine⟨_,rfl,_,rfl,B,rfl,E3 (by omega),_,_,rfl,rfl,d,c,_,rfl,D2,by omega,by omega,λr2 H3 b0 b1 D3 k3=>?_⟩;refine⟨_,rfl,d,c,26,rfl,D3,by decide,by decide,λr3 H4 c0 c1 D4 k4=>?_⟩;refine⟨_,rfl,d,c,4,rfl,D4,by decide,by decide,λr4 H5 d0 d1 D5 k5=>?_⟩;refine⟨(by show 0<=sizeLine;decide),λl nl=>?_⟩;have kk:nD d c H H5:=((k2.trans k3).trans k4).trans k5;have O:=D5.ned nl;have ae:H l=none:=kk.free O.1 O.2 nl;obtain⟨L,rfl⟩:=cX b0;refine⟨_,rfl,_,rfl,by omega,by omega,?_⟩;rw[cD];refine Fz (lo:=0) (n:=m) (λi σ G=>∃ (v:Aa Af) (v8 v9 v10 v11:Ab V),σ=[some (.ref d),some (.int m),some (.str pD),some (.str B),some (.int L),some (.int r3),some (.int r4),some (.ref l),v8,v9,v10,v11] /\ v.length=i/\(∀ x∈v,LS 1 8 x)/\G l=some (.l (v.map V.str))/\DeckAt G d c/\nD d c H G)
    ⟨[],none,none,none,none,rfl,rfl,(λz Y=>nomatch Y),hG,D5.new nl,kk.trans (nD.new nl)⟩ ?_ ?_
   .rintro i σ G hi ⟨v,v8,v9,v10,v11,rfl,J,U,h6,D6,k6⟩;have M:∀ z:Int,0<=z%26/\z%26<26:=λz=>⟨fC z (by decide),dU z (by decide)⟩
    have e9:∀ z:Int,0<=z%9/\z%9<9:=λz=>⟨fC z (by decide),dU z (by decide)⟩
    have e2:∀ z:Int,0<=z%2/\z%2<2:=λz=>⟨fC z (by decide),dU z (by decide)⟩
    obtain⟨W,af,I⟩:=L5 (M (r3+(0+(i:Int)))).1 (M _).2;obtain⟨wd,ag,a4⟩:=E1 (xs:=rT) (e9 (r3+(0+(i:Int)))).1 (by exact (e9 _).2);obtain⟨x1,ah,ao⟩:=Sq (e2 (0+(i:Int))).1 (e2 _).2 "q" (LS.of (by decide +kernel));obtain⟨x2,ai,aq⟩:=Sq (i:=(0+(i:Int))/26) (by omega) (by omega) "w" (LS.of (by decide +kernel));obtain⟨c5,aj,an⟩:=L5 (M (0+(i:Int))).1 (M _).2;have j:=LS.sign I;have hW:=AN a4;have X:L<=t.length:=by omega
    have hP:=hB.cutL X;have hR:=hB.cutR X;have n1:=hP.app j;have n2:=n1.app ao;have n3:=n2.app hR;have n4:=n3.app aq;have w1:=j.app hW;have w2:=hW.app j;have w3:=w1.app (LS.sign an);have sz:∀ {a b c' d':Nat} {x y:Af},LS a b x->LS c' d' y->b+d'<=100->x.length+y.length<=sizeLine:=λg1 g2 hb=>E3 (by have:=g1.hi;have:=g2.hi;omega)
    have au:pD.length<=sizeLine:=by rw[Km];decide
    have ac:B.length<=sizeLine:=E3 (by omega);refine⟨_,rfl,_,rfl,_,rfl,_,_,rfl,rfl,_,_,rfl,rfl,(by show (0:Int)<26;decide),pD,_,W,rfl,rfl,au,af,?_⟩;refine⟨rfl,λp np=>?_⟩;have D7:DeckAt (upd G p (.l (rT.map V.str))) d c:=D6.new np;refine⟨_,rfl,_,rfl,_,_,rfl,rfl,_,_,rfl,rfl,(by show (0:Int)<9;decide),p,_,_,.str wd,rfl,rfl,dT.of hG,ag,?_⟩;have k7:nD d c H (upd G p (.l (rT.map V.str))):=k6.trans (nD.new np);have h7:upd G p (.l (rT.map V.str)) l=some (.l (v.map V.str)):=by rw[gD (hV h6 np)];exact h6
    generalize upd G p (.l (rT.map V.str))=H7 at D7 k7 h7 |-;refine⟨_,rfl,_,rfl,_,rfl,B,rfl,ac,_,rfl,_,_,rfl,rfl,sz hP j (by omega),(by show 2<=sizeLine;decide),λp2 aa=>?_⟩;have D8:=D7.new (o:=.l [V.str (Str.ofString ""),V.str (Str.ofString "q")]) aa;have k8:=k7.trans (nD.new (d:=d) (c:=c) (o:=.l [V.str (Str.ofString ""),V.str (Str.ofString "q")]) aa);have h8:upd H7 p2 (.l [V.str (Str.ofString ""),V.str (Str.ofString "q")]) l=some (.l (v.map V.str)):=by rw[gD (hV h7 aa)];exact h7
    refine⟨_,rfl,_,_,rfl,rfl,(by show (0:Int)<2;decide),p2,_,_,.str x1,rfl,rfl,dT.of hG,ah,_,_,rfl,rfl,sz n1 ao (by omega),_,rfl,_,rfl,_,rfl,B,rfl,ac,_,_,rfl,rfl,sz n2 hR (by omega),(by show 2<=sizeLine;decide),λp3 R=>?_⟩;generalize upd H7 p2 (.l [V.str (Str.ofString ""),V.str (Str.ofString "q")])=H8 at D8 k8 h8 R |-;have D9:=D8.new (o:=.l [V.str (Str.ofString ""),V.str (Str.ofString "w")]) R;have k9:=k8.trans (nD.new (d:=d) (c:=c) (o:=.l [V.str (Str.ofString ""),V.str (Str.ofString "w")]) R);have h9:upd H8 p3 (.l [V.str (Str.ofString ""),V.str (Str.ofString "w")]) l=some (.l (v.map V.str)):=by rw[gD (hV h8 R)];exact h8
    refine⟨_,rfl,_,_,rfl,rfl,⟨by decide,by decide⟩,p3,_,_,.str x2,rfl,rfl,dT.of hG,ai,_,_,rfl,rfl,sz n3 aq (by omega),?_⟩;generalize upd H8 p3 (.l [V.str (Str.ofString ""),V.str (Str.ofString "w")])=H9 at D9 k9 h9 |-;generalize a9:(tX B none (some (L:Int))++(⟨#[W]⟩:Af)++x1++tX B (some (L:Int)) none++x2)=nm at n4;refine⟨_,rfl,.inl ⟨rfl,_,dT.of h9⟩,_,rfl,_,rfl,_,rfl,_,_,rfl,rfl,sz j hW (by omega),_,rfl,_,rfl,_,_,rfl,rfl,sz hW j (by omega),_,rfl,_,rfl,_,_,rfl,rfl,sz j hW (by omega),_,rfl,_,rfl,_,_,rfl,rfl,(by show (0:Int)<26;decide),pD,_,c5,rfl,rfl,au,aj,_,_,rfl,rfl,sz w1 (LS.sign an) (by omega),(by show 4<=sizeLine;decide),λp4 ab=>?_⟩;obtain⟨z,ak,ar⟩:=E1 (xs:=[nm,(⟨#[W]⟩:Af)++wd,wd++(⟨#[W]⟩:Af),(⟨#[W]⟩:Af)++wd++(⟨#[c5]⟩:Af)]) d0 (by exact d1);have a5:LS 1 8 z:=by
     simp only[aI,bC,dY] at ar;rcases ar with rfl | rfl | rfl | rfl
     .exact n4.weak (by omega) (by omega)
     .exact w1.weak (by omega) (by omega)
     .exact w2.weak (by omega) (by omega)
     .exact w3.weak (by omega) (by omega)
    have ax:∀ o4,upd H9 p4 o4 l=some (.l (v.map V.str)):=λo4=>by rw[gD (hV h9 ab)];exact h9
    refine⟨_,rfl,p4,_,_,.str z,rfl,rfl,dT.of hG,ak,l,v.map V.str,.str z,rfl,rfl,?_,?_,v++[z],_,_,_,_,rfl,by simp[J],?_,?_,?_,?_⟩
    .exact ax _
    .rw[aA];exact aR (show v.length<1000 by omega) (by decide)
    .intro y hy;rcases aT.mp hy with q | q
     .exact U y q
     .rw[aO.mp q];exact a5
    .rw[hG];simp
    .exact (D9.new ab).upd_other O.1 O.2
    .exact λb o e g1 g2=>by rw[gD (hV e ae)];exact (k9.trans (nD.new ab)) b o e g1 g2
   .rintro σ G ⟨v,v8,v9,v10,v11,rfl,J,U,h6,D6,k6⟩;exact⟨_,rfl,k l v G ae h6 J U D6 k6⟩
end
def uN:Aa Af:=["cell","along","lay","judge","late","gates","ways","show"]
noncomputable def yF:Aa Af:=["andx","orb","oddly","mosts","nots","ones","nila","inn","outer","aa","ab","ba"]
def Eb:Aa Af:=["abcdefgh","abcdefgi","zzzzzzzz","names","judged","rowsofx"]
def sI (z:Af):Aa Af:=z.cps.toList.map λc=>(⟨#[c]⟩:Af)
def zM:Aa Af:=sI pD++uN++yF++Eb
theorem X4:zM.Nodup:=by decide +kernel
theorem KQ:zM.length=52:=by decide +kernel
theorem BI:∀ x∈zM,GoodName x:=by
 have h:zM.all (λx=>Fd 1 8 x && !rT.contains x)=true:=by decide +kernel
 intro x b;have:=gI.mp h x b;rw[cH] at this;refine⟨LS.of this.1,λm=>?_⟩;have a:=this.2;rw[List.contains_iff_mem.mpr m] at a;cases a
def Qn:Sp:=λe H Q _=>∃ (d c:Ad) (m:Nat),e=[.ref d,.int m]/\DeckAt H d c/\m<=40/\∀ (l:Ad) (b:Aa Af) (a:Hp),H l=none->a l=some (.l (b.map V.str))->b.length=m->b.Nodup->(∀ x∈b,GoodName x) ->
 DeckAt a d c->nD d c H a->Q (.ref l) a
theorem Kt:∀ {g:Aa Af}{k:Nat}{y:Af},g[k]?=some y->(y::g.eraseIdx k).Perm g
 | [],k,y,h=>by simp at h
 | a::r,0,y,h=>by
  simp at h;subst h;exact List.Perm.refl _
 | a::r,k+1,y,h=>by
  have b:r[k]?=some y:=by simpa using h
  show (y::a::r.eraseIdx k).Perm (a::r);exact (List.Perm.swap a y _).trans ((Kt b).cons a)
theorem J8 (f:g->j):∀ (l:Aa g) (k:Nat),(l.map f).eraseIdx k=(l.eraseIdx k).map f
 | [],_=>rfl
 | _::_,0=>rfl
 | a::r,k+1=>by simp[J8 f r k]
theorem O9 (x:Af) (g:Aa Af):xM (.str x) (g.map V.str)=decide (x∈g):=by
 unfold xM;induction g with
 | nil=>rfl
 | cons y r b =>
  rw[aN,gJ,b];have:pC (V.str y) (V.str x)=decide (y=x):=by
   simp only[pC];exact Bool.beq_eq_decide_eq y x
  rw[this];by_cases h:x=y
  .subst h;simp
  .have a:¬ y=x:=λe=>h e.symm
   simp[h,a]
theorem Js (g:Aa Af):(g.map V.str).all qR=true:=by
 rw[gI];intro v a;obtain⟨y,_,rfl⟩:=aM.mp a;rfl
section
variable {P:Ah}{K:nH}
theorem As:FnScope ["deck","many","letters","names","spare"] ["deck","many"] (oB G7):=⟨rfl,rfl,rfl,by decide +kernel,rfl,by decide +kernel,by decide +kernel⟩
theorem Tl (x:Af):([x]:Aa Af).Nodup:=by simp
theorem Zm:(["k","spare","deck"]:Aa Af).Nodup:=by decide +kernel
theorem Wi (F:Fun K "_law_names" "_law_names" G7 f fd) (T:Txt mg) (gT:Gd K mg "_law_take" zJ ["deck","many"] fT a6) (gK:Gd K mg "_law_kept" C5 [] fK a4)
  (gM:Gd K mg "_law_made_names" Hx ["deck","many"] fM a5):FnOk P w K mg base oK 3 f fd ["deck","many"] Qn:=by
 have GT:FnOk P w K mg base oK 1 fT a6 ["deck","many"] B9:=Fm gT.F T;have GK:FnOk P w K mg base oK 1 fK a4 [] Kw:=T4 gK.F;have GM:FnOk P w K mg base oK 2 fM a5 ["deck","many"] Rk:=Y4 gM.F T gT gK;refine F.ok As (λvs H Q E h=>?_) (λbf A bd s H vs Q E hr h=>?_)
 .obtain⟨d,c,m,rfl,_⟩:=h;rfl
 .obtain⟨d,c,m,rfl,D,hm,k⟩:=h;have aj:Room 1 _:=hr.mono (by decide);have hu:=hr.units;refine vU _ (oS (i:=2) As.nd rfl (Or.inl rfl) uK) ?_;refine tM (λσ S=>∃ v3,σ=[some (.ref d),some (.int m),some (.str pD),v3,none]/\DeckAt S d c/\nD d c H S) (λu L=>?_) ?_
  .-- if _law_take(deck,2) == 1
   refine⟨_,wI (uV F2 (qF GT aj rfl gT.m gT.k gT.b .nil pX (hI (pv 0) (hI oD nL))) oD (wG _)) (pW (oS (i:=3) As.nd rfl (Or.inl rfl) (qF GM hr rfl gM.m gM.k gM.b .nil pX (hI (pv 0) (hI (pv 1) nL)))) (pQ (wI (PW.pt (DC (uV F2 (sM GV (by rfl) T.len cE (hI (xR (IN rfl) (by rfl) T.set PyProof.Rows.boot_set (hI (pv 3) nL)) nL)) (pv 1) (wG _)) (DI (uV (Ja hu) (Bj ["name"] [] [] rfl (Hr (pv 3)) rfl rfl (λB v C cl fp=>tP (i:=0) (Tl _) rfl (Or.inl rfl)) (λB v C cl fp=>Uy (uV (r:=Gy K false) U2 (pv 0) (Oz GK aj rfl gK.m gK.k gK.b .nil pX) rfl)) (λB v C cl fp=>pv 0)) (pY nL) (wG _))))) (pQ (uL (pv 3))) yH))) yH,?_⟩;refine⟨_,rfl,d,c,2,rfl,D,by decide,by decide,λr1 H1 a0 a1 D1 k1=>⟨rfl,_,rfl,?_⟩⟩;refine zD (λ_=>?_) (λ_=>L _ _ ⟨none,rfl,D1,k1⟩);refine⟨_,rfl,_,rfl,d,c,m,rfl,D1,hm,λl O H2 nl hl av ba D2 k2=>?_⟩;have kk:nD d c H H2:=k1.trans k2;have ax:=D1.ned nl;have a8:H l=none:=k1.free ax.1 ax.2 nl;refine⟨_,rfl,l,O,rfl,dT.of hl,by omega,λp np=>?_⟩;have k3:=kk.trans (nD.new (d:=d) (c:=c) (o:=Av P w p (pH O).length) np);have D3:=D2.new (o:=Av P w p (pH O).length) np;have ai:upd H2 p (Av P w p (pH O).length) l=some (.l (O.map V.str)):=by rw[gD (hV hl np)];exact hl
   refine⟨p,_,rfl,hG,_,rfl,rfl,_,rfl,?_⟩;refine zD (λa9=>?_) (λ_=>vQ (L _ _ ⟨_,rfl,D3,k3⟩));have J:O.Nodup:=by
    have:=fP a9;injection this with this;exact DO (by omega)
   refine⟨_,rfl,l,rfl,⟨_,dT.of ai⟩,λR n=>?_⟩;have G:=D3.ned n;have ac:H R=none:=k3.free G.1 G.2 n;have lD:l≠R:=hV ai n;refine S1 S6 (λi ys S=>∃ t:Aa Af,ys=t.map V.str/\t.length<=i/\((∃ x∈O.take i,x∈rT)->t≠[])/\((∀ x∈O.take i,x∉rT)->t=[])/\DeckAt S d c/\nD d c H S/\S R=some (.l ys)/\S l=some (.l (O.map V.str)))
    ⟨[],rfl,aU _,(λ⟨x,N,_⟩=>by simp at N),(λ_=>rfl),D3.new n,k3.trans (nD.new n),hG,by rw[gD lD];exact ai⟩ (λi ys S _ ⟨_,_,_,_,_,_,_,_,h⟩=>dT.of h) ?_ ?_
   .rintro i x ys S N ⟨t,rfl,aw,U,af,D4,k4,g,I⟩;obtain⟨y,hy,rfl⟩:∃ y,O[i]?=some y/\V.str y=x:=by
     rw[aQ] at N;cases e:O[i]? with
     | none=>rw[e] at N;cases N
     | some y=>rw[e] at N;exact⟨y,rfl,bO N⟩
    have hi:i<O.length:=(aG.mp hy).1;have et:O.take (i+1)=O.take i++[y]:=by rw[bQ,hy];rfl
    refine⟨_,rfl,rfl,λq nq=>?_⟩;have bh:=D4.ned nq;refine⟨q,_,rfl,.inl (dT.of hG),rfl,Js _,_,rfl,?_⟩;have D5:=D4.new (o:=.l (rT.map V.str)) nq;have k5:=k4.trans (nD.new (d:=d) (c:=c) (o:=.l (rT.map V.str)) nq);have ab:upd S q (.l (rT.map V.str)) R=some (.l (t.map V.str)):=by rw[gD (hV g nq)];exact g
    have ae:upd S q (.l (rT.map V.str)) l=some (.l (O.map V.str)):=by rw[gD (hV I nq)];exact I
    rw[O9];refine zD (λhk=>?_) (λhk=>?_)
    .have ah:y∈rT:=fP hk;refine⟨_,rfl,⟨_,rfl⟩,ab,?_,t++[y],by simp,by simp;omega,λ_=>by simp,λh=>absurd ah (h y (by rw[et];simp)),D5.upd_other G.1 G.2,?_,hG,?_⟩
     .rw[aA];exact aR (show t.length<1000 by omega) (by decide)
     .exact λb o e g1 g2=>by rw[gD (hV e ac)];exact k5 b o e g1 g2
     .rw[gD lD];exact ae
    .have ah:y∉rT:=λz=>hk (dD z)
     refine⟨⟨_,rfl⟩,t,rfl,by omega,?_,?_,D5,k5,ab,ae⟩
     .rintro ⟨z,hz,ak⟩;rw[et] at hz;rcases aT.mp hz with q' | q'
      .exact U ⟨z,q',ak⟩
      .rw[aO.mp q'] at ak;exact absurd ak ah
     .exact λh=>af λz hz=>h z (by rw[et];exact bK _ hz)
   .rintro ys S ⟨t,rfl,aw,U,af,D4,k4,g,I⟩;rw[aA] at aw U af;rw[bI (aU _)] at U af;refine⟨(by show 0<=sizeLine;decide),λq nq=>?_⟩;have D5:=D4.new (o:=.l []) nq;have k5:=k4.trans (nD.new (d:=d) (c:=c) (o:=.l []) nq);have ab:upd S q (.l []) R=some (.l (t.map V.str)):=by rw[gD (hV g nq)];exact g
    have ae:upd S q (.l []) l=some (.l (O.map V.str)):=by rw[gD (hV I nq)];exact I
    refine⟨R,q,_,rfl,rfl,dT.of ab,dT.of hG,_,rfl,?_⟩;refine zD (λhe=>?_) (λ_=>L _ _ ⟨_,rfl,D5,k5⟩);have bc:t=[]:=by
     cases t with
     | nil=>rfl
     | cons a r=>simp at he
    refine⟨_,rfl,k l O _ a8 ae av J (λx N=>⟨ba x N,λhk=>U ⟨x,N,hk⟩ bc⟩) D5 k5⟩
  .rintro σ S ⟨v3,rfl,D4,k4⟩;refine tM (λσ H7=>∃ p2,σ=[some (.ref d),some (.int m),some (.str pD),v3,some (.ref p2)]/\H7 p2=some (.l ((sI pD++uN).map V.str))/\DeckAt H7 d c/\nD d c H H7/\H p2=none) (λu L=>?_) ?_
   .refine⟨_,oS (i:=4) As.nd rfl (Or.inr rfl) (oC Ax (Bj ["sign"] [] [] rfl (V1 (pv 2)) rfl rfl (λB v C cl fp=>tP (i:=0) (Tl _) rfl (Or.inl rfl)) (λB v C cl fp=>Dj) (λB v C cl fp=>pv 0)) (@pY _ _ _ _ (@yE _ [("cell",_,_),("along",_,_),("lay",_,_),("judge",_,_),("late",_,_),("gates",_,_),("ways",_,_),("show",_,_)]))),?_⟩;refine⟨_,rfl,pD,rfl,by decide +kernel,λR n=>?_⟩;refine Zy CL id n (λ_ _=>True.intro) (by rw[show (yZ pD).length=26 by decide +kernel];decide) (λi x H5 kk N _ h=>⟨_,rfl,h⟩) ?_;have e1:(yZ pD).map id=(sI pD).map V.str:=by rw[List.map_id];unfold yZ sI;rw[List.map_map];rfl
    rw[e1];refine⟨(by show 8<=sizeLine;decide),λp1 n1=>?_⟩;have h0:upd (upd S R (.l ((sI pD).map V.str))) p1 (.l (uN.map V.str)) R=some (.l ((sI pD).map V.str)):=by rw[gD (hV hG n1)];exact hG
    refine⟨R,p1,_,_,rfl,rfl,h0,hG,(by rw[aA,show (sI pD).length=26 by decide +kernel];show 26+8<=sizeLine;decide),λp2 n2=>?_⟩;have D7:=((D4.new (o:=.l ((sI pD).map V.str)) n).new (o:=.l (uN.map V.str)) n1);have k7:=(k4.trans (nD.new (d:=d) (c:=c) (o:=.l ((sI pD).map V.str)) n)).trans (nD.new (d:=d) (c:=c) (o:=.l (uN.map V.str)) n1);have ay:=D7.ned n2;refine L _ _ ⟨p2,rfl,?_,D7.new n2,k7.trans (nD.new n2),k7.free ay.1 ay.2 n2⟩;rw[hG,bE];rfl
   rintro σ H7 ⟨p2,rfl,h7,D7,k7,z7⟩;refine tM (λσ H8=>∃ p3,σ=[some (.ref d),some (.int m),some (.str pD),v3,some (.ref p3)]/\H8 p3=some (.l ((sI pD++uN++yF).map V.str))/\DeckAt H8 d c/\nD d c H H8/\H p3=none) (λu L=>?_) ?_
   .refine⟨_,oS (i:=4) As.nd rfl (Or.inr rfl) (oC Ax (pv 4) (@pY _ _ _ _ (@yE _ [("andx",_,_),("orb",_,_),("oddly",_,_),("mosts",_,_),("nots",_,_),("ones",_,_),("nila",_,_),("inn",_,_),("outer",_,_),("aa",_,_),("ab",_,_),("ba",_,_)]))),?_⟩;refine⟨_,rfl,(by show 12<=sizeLine;decide),λp1 n1=>?_⟩;have h0:upd H7 p1 (.l (yF.map V.str)) p2=some (.l ((sI pD++uN).map V.str)):=by rw[gD (hV h7 n1)];exact h7
    refine⟨p2,p1,_,_,rfl,rfl,h0,hG,(by rw[aA,show (sI pD++uN).length=34 by decide +kernel];show 34+12<=sizeLine;decide),λp3 n3=>?_⟩;have D8:=D7.new (o:=.l (yF.map V.str)) n1;have k8:=k7.trans (nD.new (d:=d) (c:=c) (o:=.l (yF.map V.str)) n1);have az:=D8.ned n3;refine L _ _ ⟨p3,rfl,?_,D8.new n3,k8.trans (nD.new n3),k8.free az.1 az.2 n3⟩;rw[hG,bE (l₁:=sI pD++uN)];rfl
   rintro σ H8 ⟨p3,rfl,h8,D8,k8,z8⟩;refine tM (λσ H9=>∃ Y,σ=[some (.ref d),some (.int m),some (.str pD),v3,some (.ref Y)]/\H9 Y=some (.l (zM.map V.str))/\DeckAt H9 d c/\nD d c H H9/\H Y=none) (λu L=>?_) ?_
   .refine⟨_,oS (i:=4) As.nd rfl (Or.inr rfl) (oC Ax (pv 4) (@pY _ _ _ _ (@yE _ [("abcdefgh",_,_),("abcdefgi",_,_),("zzzzzzzz",_,_),("names",_,_),("judged",_,_),("rowsofx",_,_)]))),?_⟩;refine⟨_,rfl,(by show 6<=sizeLine;decide),λp1 n1=>?_⟩;have h0:upd H8 p1 (.l (Eb.map V.str)) p3=some (.l ((sI pD++uN++yF).map V.str)):=by rw[gD (hV h8 n1)];exact h8
    refine⟨p3,p1,_,_,rfl,rfl,h0,hG,(by rw[aA,show (sI pD++uN++yF).length=46 by decide +kernel];show 46+6<=sizeLine;decide),λY n4=>?_⟩;have D9:=D8.new (o:=.l (Eb.map V.str)) n1;have k9:=k8.trans (nD.new (d:=d) (c:=c) (o:=.l (Eb.map V.str)) n1);have X:=D9.ned n4;refine L _ _ ⟨Y,rfl,?_,D9.new n4,k9.trans (nD.new n4),k9.free X.1 X.2 n4⟩;unfold zM;rw[hG,bE (l₁:=sI pD++uN++yF)];rfl
   rintro σ H9 ⟨Y,rfl,h9,D9,k9,z9⟩;refine⟨_,pQ (uL (Bj ["k"] ["spare","deck"] [4,0] rfl (zG rfl T.range (hI (pv 1) nL)) rfl rfl (λB v C cl fp=>tP (i:=0) Zm rfl (Or.inl rfl)) (λB v C cl fp=>Dj) (λB v C cl fp=>V8 K bZ PySem.F.slot_list_pop PySem.F.type_list_pop Td (pv 1) (hI (qF GT aj rfl gT.m gT.k gT.b .nil pX (hI (pv 2) (hI (sM (Zo K) (by rfl) T.len cE (hI (pv 1) nL)) nL))) nL)))),?_⟩;refine⟨_,rfl,_,rfl,by omega,by omega,λR n=>?_⟩;have G:=D9.ned n;have ac:H R=none:=k9.free G.1 G.2 n;have X:Y≠d/\Y≠c:=D.ned z9;have ar:Y≠R:=hV h9 n;refine Es S9 (λi ys W=>∃ t M:Aa Af,ys=t.map V.str/\t.length=i/\M.length+i=52/\(t++M).Nodup/\(∀ x∈t++M,GoodName x)/\W Y=some (.l (M.map V.str))/\DeckAt W d c/\nD d c H W/\W R=some (.l ys))
    ⟨[],zM,rfl,rfl,KQ,X4,BI,by rw[gD ar];exact h9,D9.new n,k9.trans (nD.new n),hG⟩ (λ_ _ _ _ _=>True.intro) ?_ ?_
   .rintro i x ys W N ⟨t,M,rfl,an,bb,J,hg,aa,ag,ao,Z⟩;have hi:i<40:=by
     have:=(aG.mp N).1;simp at this;omega
    refine⟨_,rfl,.inl ⟨rfl,_,dT.of aa⟩,_,rfl,_,rfl,Y,_,rfl,.inl (dT.of aa),d,c,_,rfl,ag,by rw[aA];omega,by rw[aA];omega,λr be b0 b1 a3 aq=>?_⟩;rw[aA] at b1;obtain⟨j,rfl⟩:=cX b0;have hj:j<M.length:=by omega
    have a7:=aq Y _ aa X.1 X.2;have au:=aq R _ Z G.1 G.2;have hy:M[j]?=some M[j]:=aE hj;have pm:=Kt hy;have a2:((t++[M[j]])++M.eraseIdx j).Perm (t++M):=by
     rw[bL];exact jU t pm
    have bg:(M.eraseIdx j).length+1=M.length:=by
     rw[List.length_eraseIdx,aP hj];omega
    refine⟨Y,_,_,j,.str M[j],rfl,rfl,a7,by omega,by omega,?_,by simp[hj],⟨_,rfl⟩,by rw[gD ar.symm];exact au,?_,t++[M[j]],M.eraseIdx j,by simp,by simp[an],by omega,a2.symm.nodup J,λx N=>hg x (a2.mem_iff.mp N),?_,?_,?_,hG⟩
    .rw[aA];exact lS (by omega) (by omega)
    .rw[aA];exact aR (show t.length<1000 by omega) (by decide)
    .rw[gD ar,hG,J8]
    .exact (a3.upd_other X.1 X.2).upd_other G.1 G.2
    .exact λb o e g1 g2=>by rw[gD (hV e ac),gD (hV e z9)];exact aq b o (ao b o e g1 g2) g1 g2
   .rintro ys W ⟨t,M,rfl,an,bb,J,hg,aa,ag,ao,Z⟩;rw[aA,cA] at an;exact k R t W ac Z (by omega) (mG (List.sublist_append_left t M) J) (λx N=>hg x (bK _ N)) ag ao
end
noncomputable def wB:Aa Af:=["and","or","odd"]
structure ArOk (w:Str) (n:Nat):Prop where
 ok:(w∈wB/\(n=2\/n=3))\/(w = "most" /\ n=3)\/(w = "not" /\ n=1)\/(w = "one" /\ n=0)\/(w = "nil" /\ n=0)
def F8:Aa Af:=["and","or","odd","most","not","one","nil","and","odd","most"]
def vL:Aa Af:=["most","not","one","nil"]
def xP:Aa Int:=[3,1,0,0]
theorem V5 (h:w∈F8) (g:w∉wB):w = "most" \/ w = "not" \/ w = "one" \/ w = "nil" := by
 unfold F8 at h;unfold wB at g;simp only[aI,bC,dY,mQ] at h g;obtain⟨g1,g2,g3⟩:=g;rcases h with q | q | q | q | q | q | q | q | q | q
 .exact absurd q g1
 .exact absurd q g2
 .exact absurd q g3
 .exact .inl q
 .exact .inr (.inl q)
 .exact .inr (.inr (.inl q))
 .exact .inr (.inr (.inr q))
 .exact absurd q g1
 .exact absurd q g3
 .exact .inl q
theorem LI {w:Af}(h:w = "most" \/ w = "not" \/ w = "one" \/ w = "nil"):∃ (j:Nat) (n:Nat),j<4/\(∀ z,(vL.map V.str)[j]?=some z->pC z (.str w)=true)/\(∀ (m:Nat) z,m<j->(vL.map V.str)[m]?=some z->pC z (.str w)=false) /\
  pI (xP.map V.int) (j:Int)=some (.int n)/\ArOk w n:=by
 have go:∀ (j:Nat) (n:Nat),j<4->vL[j]?=some w->pI (xP.map V.int) (j:Int)=some (.int n)->(∀ m,m<j->∀ y,vL[m]?=some y->¬ y=w)->ArOk w n->∃ (j:Nat) (n:Nat),j<4/\(∀ z,(vL.map V.str)[j]?=some z->pC z (.str w)=true)/\(∀ (m:Nat) z,m<j->(vL.map V.str)[m]?=some z->pC z (.str w)=false) /\
   pI (xP.map V.int) (j:Int)=some (.int n)/\ArOk w n:=by
  intro j n k hw i q s;refine⟨j,n,k,λz c=>?_,λm z d c=>?_,i,s⟩
  .rw[aQ,hw] at c;cases c;show (w == w)=true;exact lP w
  .rw[aQ] at c;cases e:vL[m]? with
   | none=>rw[e] at c;cases c
   | some y =>
    rw[e] at c;cases c;show (y == w)=false;exact cY.mpr (q m d y e)
 have t:∀ {a b:Nat},a<b->b<=4->a=0\/a=1\/a=2\/a=3:=λu v=>by omega
 rcases h with rfl | rfl | rfl | rfl
 .exact go 0 3 (by decide) rfl rfl (λm d=>absurd d (jO _)) ⟨.inr (.inl ⟨rfl,rfl⟩)⟩
 .refine go 1 1 (by decide) rfl rfl (λm d y f=>?_) ⟨.inr (.inr (.inl ⟨rfl,rfl⟩))⟩;obtain rfl:m=0:=by omega
  cases f;decide +kernel
 .refine go 2 0 (by decide) rfl rfl (λm d y f=>?_) ⟨.inr (.inr (.inr (.inl ⟨rfl,rfl⟩)))⟩;rcases (show m=0\/m=1 by omega) with rfl | rfl<;>(cases f;decide +kernel)
 .refine go 3 0 (by decide) rfl rfl (λm d y f=>?_) ⟨.inr (.inr (.inr (.inr ⟨rfl,rfl⟩)))⟩;rcases (show m=0\/m=1\/m=2 by omega) with rfl | rfl | rfl<;>(cases f;decide +kernel)
def Qr:Sp:=λf H Q _=>∃ (d c kn:Ad) (b:Aa Af),f=[.ref d,.ref kn]/\DeckAt H d c/\H kn=some (.l (b.map V.str))/\kn≠d/\kn≠c/\b.length<=100 /\
 ∀ (t q:Ad) (wd:Af) (e:Aa Af) (a:Hp),H t=none->H q=none->a t=some (.t [.str wd,.ref q])->a q=some (.t (e.map V.str))->ArOk wd e.length->(∀ p∈e,p∈b)->DeckAt a d c->nD d c H a->Q (.ref t) a
section
variable {P:Ah}{K:nH}
theorem xD:FnScope ["deck","known","word","many","parts","k","at"] ["deck","known"] (oB F6):=⟨rfl,rfl,rfl,by decide +kernel,rfl,by decide +kernel,by decide +kernel⟩
theorem EA (F:Fun K "_law_gate" "_law_gate" F6 f fd) (T:Txt mg) (g:Gd K mg "_law_take" zJ ["deck","many"] fT av):FnOk P w K mg base oK 2 f fd ["deck","known"] Qr:=by
 have GT:FnOk P w K mg base oK 1 fT av ["deck","many"] B9:=Fm g.F T;refine F.ok xD (λvs H Q E h=>?_) (λa2 A ax s H vs Q E hr h=>?_)
 .obtain⟨d,c,kn,B,rfl,_⟩:=h;rfl
 .obtain⟨d,c,kn,B,rfl,D,ag,ab,aa,a4,k⟩:=h;have hu:=hr.units;refine tM (λM H1=>∃ wd,M=[some (.ref d),some (.ref kn),some (.str wd),none,none,none,none]/\wd∈F8/\DeckAt H1 d c/\nD d c H H1) (λu v=>?_) ?_
  .refine⟨_,@oS _ _ 2 _ _ _ _ xD.nd rfl (Or.inl rfl) (@qJ _ _ _ _ _ _ _ rD (@pY _ _ _ _ (@yE _ [("and",_,_),("or",_,_),("odd",_,_),("most",_,_),("not",_,_),("one",_,_),("nil",_,_),("and",_,_),("odd",_,_),("most",_,_)])) (qF GT hr rfl g.m g.k g.b .nil pX (hI (pv 0) (hI oD nL))) (λ_ _=>rfl)) (by rfl) (.inl rfl),?_⟩;refine⟨(by show 10<=sizeLine;decide),λp np=>⟨_,rfl,d,c,10,rfl,D.new np,by decide,by decide,λr H1 a0 a1 D1 k1=>?_⟩⟩;have G:=D.ned np;have h1:=k1 p _ hG G.1 G.2;obtain⟨wd,N,hw⟩:=E1 (xs:=F8) a0 (by exact a1);exact⟨p,_,_,.str wd,rfl,rfl,dT.of h1,N,v _ _ ⟨wd,rfl,hw,D1,(nD.new np).trans k1⟩⟩
  rintro M H1 ⟨wd,rfl,hw,D1,k1⟩;refine tM (λM H2=>∃ n:Int,M=[some (.ref d),some (.ref kn),some (.str wd),some (.int n),none,none,none]/\DeckAt H2 d c/\nD d c H H2) (λu v=>?_) ?_
  .refine⟨_,@oS _ _ 3 _ _ _ _ xD.nd rfl (Or.inl rfl) (@qJ _ _ _ _ _ _ _ rD (@pY _ _ _ _ (@Ef _ [(2,_,_),(2,_,_),(2,_,_),(3,_,_),(1,_,_),(0,_,_),(0,_,_),(3,_,_),(3,_,_),(3,_,_)])) (qF GT hr rfl g.m g.k g.b .nil pX (hI (pv 0) (hI oD nL))) (λ_ _=>rfl)) (by rfl) (.inl rfl),?_⟩;refine⟨(by show 10<=sizeLine;decide),λp np=>⟨_,rfl,d,c,10,rfl,D1.new np,by decide,by decide,λr H2 a0 a1 D2 k2=>?_⟩⟩;have G:=D1.ned np;have h2:=k2 p _ hG G.1 G.2;obtain⟨j,rfl⟩:=cX a0;have hj:j<([2,2,2,3,1,0,0,3,3,3]:Aa Int).length:=by show j<10;omega
   have N:pI (([2,2,2,3,1,0,0,3,3,3]:Aa Int).map V.int) ((j:Nat):Int)=some (V.int ([2,2,2,3,1,0,0,3,3,3]:Aa Int)[j]):=yD (by rw[aQ,aE hj];rfl);exact⟨p,_,_,_,rfl,rfl,dT.of h2,N,v _ _ ⟨_,rfl,D2,k1.trans ((nD.new np).trans k2)⟩⟩
  rintro M H2 ⟨n0,rfl,D2,k2⟩;refine tM (λM H3=>∃ n:Nat,M=[some (.ref d),some (.ref kn),some (.str wd),some (.int n),none,none,none]/\ArOk wd n/\n<=3/\DeckAt H3 d c/\nD d c H H3) (λu v=>?_) ?_
  .refine⟨_,wI (uV U2 (pv 2) (@pY _ _ _ _ (@yE _ [("and",_,_),("or",_,_),("odd",_,_)])) rfl) (pQ (@oS _ _ 3 _ _ _ _ xD.nd rfl (Or.inl rfl) (@qJ _ _ _ _ _ _ _ rD (@pY _ _ _ _ (@Ef _ [(2,_,_),(3,_,_)])) (oC rH (pv 3) oD) (λ_ _=>rfl)) (by rfl) (.inl rfl))) (pQ (@oS _ _ 3 _ _ _ _ xD.nd rfl (Or.inl rfl) (@qJ _ _ _ _ _ _ _ rD (@pY _ _ _ _ (@Ef _ [(3,_,_),(1,_,_),(0,_,_),(0,_,_)])) (vD bZ kZ PySem.F.type_list_index Tx (@pY _ _ _ _ (@yE _ [("most",_,_),("not",_,_),("one",_,_),("nil",_,_)])) (hI (pv 2) nL)) (λ_ _=>rfl)) (by rfl) (.inl rfl))),?_⟩;refine⟨_,rfl,(by show 3<=sizeLine;decide),λp np=>⟨p,wB.map V.str,rfl,.inl (dT.of hG),rfl,Js _,_,rfl,?_⟩⟩;have D3:=D2.new (o:=.l (wB.map V.str)) np;have k3:=k2.trans (nD.new (d:=d) (c:=c) (o:=.l (wB.map V.str)) np);rw[O9];refine zD (λhk=>?_) (λhk=>?_)
   .have U:wd∈wB:=fP hk;refine⟨(by show 2<=sizeLine;decide),λW L=>⟨_,rfl,_,_,rfl,rfl,(by show (0:Int)<2;decide),?_⟩⟩;have b0:=fC n0 (show (2:Int)≠0 by decide);have b1:=dU n0 (show (0:Int)<2 by decide);have C:=D3.new (o:=.l [V.int 2,V.int 3]) L;have J:=k3.trans (nD.new (d:=d) (c:=c) (o:=.l [V.int 2,V.int 3]) L);rcases (show n0%2=0\/n0%2=1 by omega) with e | e
    .exact⟨W,_,_,.int 2,rfl,rfl,dT.of hG,by rw[e];rfl,v _ _ ⟨2,rfl,⟨.inl ⟨U,.inl rfl⟩⟩,by decide,C,J⟩⟩
    .exact⟨W,_,_,.int 3,rfl,rfl,dT.of hG,by rw[e];rfl,v _ _ ⟨3,rfl,⟨.inl ⟨U,.inr rfl⟩⟩,by decide,C,J⟩⟩
   .have U:wd∉wB:=λz=>hk (dD z)
    obtain⟨j,n,hj,i1,i2,N,ho⟩:=LI (V5 hw U);refine⟨(by show 4<=sizeLine;decide),λW L=>⟨(by show 4<=sizeLine;decide),λp3 an=>⟨.inl ⟨rfl,_,dT.of hG⟩,_,rfl,?_⟩⟩⟩;have C:=(D3.new (o:=.l (xP.map V.int)) L).new (o:=.l (vL.map V.str)) an;have J:=(k3.trans (nD.new (d:=d) (c:=c) (o:=.l (xP.map V.int)) L)).trans (nD.new (d:=d) (c:=c) (o:=.l (vL.map V.str)) an);refine⟨p3,vL.map V.str,.str wd,j,rfl,rfl,dT.of hG,Js _,rfl,hj,i1,i2,?_⟩;have h2:upd (upd (upd H2 p (.l (wB.map V.str))) W (.l (xP.map V.int))) p3 (.l (vL.map V.str)) W=some (.l (xP.map V.int)):=by rw[gD (hV hG an)];exact hG
    refine⟨W,xP.map V.int,_,.int n,rfl,rfl,dT.of h2,N,v _ _ ⟨n,rfl,ho,?_,C,J⟩⟩;rcases ho.ok with⟨_,q | q⟩ | ⟨_,q⟩ | ⟨_,q⟩ | ⟨_,q⟩ | ⟨_,q⟩<;>omega
  rintro M H3 ⟨n,rfl,ho,hn,D3,k3⟩;have ae:=k3 kn _ ag ab aa;refine tM (λM H4=>∃ a:Nat,M=[some (.ref d),some (.ref kn),some (.str wd),some (.int n),none,none,none]/\0<B.length/\DeckAt H4 d c/\nD d c H H4) (λu v=>?_) ?_
  .refine⟨_,wI (uV (Ja hu) (pv 1) (pY nL) (wG _)) (pQ (uL (A3 (hI (qJ rD (pY (hI uK (hI uK nL))) (oC rH (pv 3) oD) (λ_ _=>rfl)) (hI (A3 nL) nL))))) yH,?_⟩;refine⟨_,rfl,(by show 0<=sizeLine;decide),λp np=>?_⟩;have C:=D3.new (o:=.l []) np;have J:=k3.trans (nD.new (d:=d) (c:=c) (o:=.l []) np);have aq:upd H3 p (.l []) kn=some (.l (B.map V.str)):=by rw[gD (hV ae np)];exact ae
   refine⟨kn,p,_,rfl,rfl,dT.of aq,dT.of hG,_,rfl,?_⟩;refine zD (λhe=>?_) (λhe=>v _ _ ⟨0,rfl,?_,C,J⟩)
   .refine⟨(by show 2<=sizeLine;decide),λW L=>⟨_,rfl,_,_,rfl,rfl,(by show (0:Int)<2;decide),?_⟩⟩;have b0:=fC (n:Int) (show (2:Int)≠0 by decide);have b1:=dU (n:Int) (show (0:Int)<2 by decide);have D5:=C.new (o:=.l [V.str (Str.ofString "one"),V.str (Str.ofString "nil")]) L;have k5:=J.trans (nD.new (d:=d) (c:=c) (o:=.l [V.str (Str.ofString "one"),V.str (Str.ofString "nil")]) L);have fin:∀ w2:Af,ArOk w2 0->∀ q,upd (upd H3 p (.l [])) W (.l [V.str (Str.ofString "one"),V.str (Str.ofString "nil")]) q=none ->
      ∀ t,upd (upd (upd H3 p (.l [])) W (.l [V.str (Str.ofString "one"),V.str (Str.ofString "nil")])) q (.t []) t=none ->
      Q (.ref t) (upd (upd (upd (upd H3 p (.l [])) W (.l [V.str (Str.ofString "one"),V.str (Str.ofString "nil")])) q (.t [])) t (.t [.str w2,.ref q])):=by
     intro w2 aw q S t O;have D6:=D5.new (o:=.t []) S;have k6:=k5.trans (nD.new (d:=d) (c:=c) (o:=.t []) S);have Y:=D5.ned S;have Z:=D6.ned O;exact k t q w2 [] _ (k6.free Z.1 Z.2 O) (k5.free Y.1 Y.2 S) hG (by rw[gD (hV hG O)];exact hG) aw (λp hp=>nomatch hp) (D6.new O) (k6.trans (nD.new O))
    rcases (show (n:Int)%2=0\/(n:Int)%2=1 by omega) with e | e
    .refine⟨W,_,_,.str "one",rfl,rfl,dT.of hG,by rw[e];rfl,(by show 0<=sizeLine;decide),λq S=>⟨(by show 2<=sizeLine;decide),λt O=>?_⟩⟩;exact fin "one" ⟨.inr (.inr (.inr (.inl ⟨rfl,rfl⟩)))⟩ q S t O
    .refine⟨W,_,_,.str "nil",rfl,rfl,dT.of hG,by rw[e];rfl,(by show 0<=sizeLine;decide),λq S=>⟨(by show 2<=sizeLine;decide),λt O=>?_⟩⟩;exact fin "nil" ⟨.inr (.inr (.inr (.inr ⟨rfl,rfl⟩)))⟩ q S t O
   .cases B with
    | nil=>simp at he
    | cons a r=>simp
  rintro M H4 ⟨_,rfl,a3,C,J⟩;refine⟨_,pW (oS (i:=4) xD.nd rfl (Or.inl rfl) (pY nL)) (pW (vZ dO rfl (zG rfl T.range (hI (pv 3) nL)) (tP (i:=5) xD.nd rfl (Or.inl rfl)) (pW (oS (i:=6) xD.nd rfl (Or.inl rfl) (qJ rD (pY (hI (qF GT hr rfl g.m g.k g.b .nil pX (hI (pv 0) (hI (sM vP (by rfl) T.len cE (hI (pv 1) nL)) nL))) (hI (oC A7 (oC A7 (sM vP (by rfl) T.len cE (hI (pv 1) nL)) oD) (qF GT hr rfl g.m g.k g.b .nil pX (hI (pv 0) (hI (sM (Ll rfl) (by rfl) T.min lM (hI oD (hI (sM vP (by rfl) T.len cE (hI (pv 1) nL)) nL))) nL)))) nL))) (qF GT hr rfl g.m g.k g.b .nil pX (hI (pv 0) (hI oD nL))) (λ_ _=>rfl))) (pQ (Az (vD bZ cR cS wA (pv 4) (hI (qJ rD (pv 1) (pv 6) (λ_ _=>rfl)) nL)))))) (pQ (uL (A3 (hI (pv 2) (hI (xR B1 (by rfl) T.tuple eN (hI (pv 4) nL)) nL)))))),?_⟩;refine⟨(by show 0<=sizeLine;decide),λl nl=>?_⟩;have ak:=C.ned nl;have ao:H l=none:=J.free ak.1 ak.2 nl;have lk:l≠kn:=(hV ag ao).symm;refine⟨_,rfl,_,rfl,by omega,by omega,?_⟩;rw[cD];refine Fz (lo:=0) (n:=n) (λi M I=>∃ (R:Aa Af) (v5 v6:Ab V),M=[some (.ref d),some (.ref kn),some (.str wd),some (.int n),some (.ref l),v5,v6]/\R.length=i/\(∀ p∈R,p∈B)/\I l=some (.l (R.map V.str))/\DeckAt I d c/\nD d c H I)
   ⟨[],none,none,rfl,rfl,(λp hp=>nomatch hp),hG,C.new nl,J.trans (nD.new nl)⟩ ?_ ?_
  .rintro i M I hi ⟨R,v5,v6,rfl,ah,aj,h5,D5,k5⟩;have X:=k5 kn _ ag ab aa;have ai:(if ((B.map V.str).length:Int)<4 then ((B.map V.str).length:Int) else 4)=(if (B.length:Int)<4 then (B.length:Int) else 4):=by rw[aA]
   refine⟨_,rfl,_,rfl,kn,_,rfl,.inl (dT.of X),d,c,_,rfl,D5,by rw[aA];omega,by rw[aA];omega,λr1 H6 a0 a1 D6 k6=>?_⟩;have af:=k6 kn _ X ab aa;refine⟨_,rfl,kn,_,rfl,.inl (dT.of af),_,_,rfl,rfl,_,rfl,_,rfl,kn,_,rfl,.inl (dT.of af),_,_,rfl,d,c,_,rfl,D6,?_,?_,λr2 H7 b0 b1 D7 k7=>?_⟩
   .rw[ai];split<;>omega
   .rw[ai];split<;>omega
   have az:r2<B.length:=by
    rw[ai] at b1;split at b1<;>omega
   refine⟨_,_,rfl,rfl,(by show 2<=sizeLine;decide),λp np=>?_⟩;have D8:=D7.new (o:=.l [V.int r1,V.int (((B.map V.str).length:Int)-1-r2)]) np;refine⟨_,rfl,d,c,2,rfl,D8,by decide,by decide,λr3 H9 c0 c1 D9 k9=>?_⟩;have G:=D7.ned np;have h9:=k9 p _ hG G.1 G.2;have k8:nD d c I H9:=((k6.trans k7).trans (nD.new np)).trans k9;have ar:=k8 kn _ X ab aa;have ac:l≠d/\l≠c:=ak;have au:=k8 l _ h5 ac.1 ac.2;rw[aA] at a1;have fin:∀ a:Int,0<=a->a<B.length->∃ x,pI (B.map V.str) a=some (V.str x)/\x∈B:=λa g0 g1=>E1 g0 g1
   have go:∀ a:Int,0<=a->a<B.length->pI [V.int r1,V.int (((B.map V.str).length:Int)-1-r2)] r3=some (V.int a)->Go K (.ref p) (.int r3) H9 λx H1=>yW 6 x [some (.ref d),some (.ref kn),some (.str wd),some (.int n),some (.ref l),some (.int (0+i)),v6] H1 λay H' =>
     (M3 (Ma K "list" Kc (qO 4) (Cp (Dl (Go K) (qO 1) (qO 6)) Fp))) { nx:=λM I=>∃ (R:Aa Af) (v5 v6:Ab V),M=[some (.ref d),some (.ref kn),some (.str wd),some (.int n),some (.ref l),v5,v6]/\R.length=i+1/\(∀ p∈R,p∈B)/\I l=some (.l (R.map V.str))/\DeckAt I d c/\nD d c H I,rt:=Q } ay H':=by
    intro a g0 g1 N;obtain⟨x,hx,hm⟩:=fin a g0 g1;refine⟨p,_,_,.int a,rfl,rfl,dT.of h9,N,_,rfl,.inl ⟨rfl,_,dT.of au⟩,_,rfl,_,rfl,kn,_,_,.str x,rfl,rfl,dT.of ar,hx,l,_,.str x,rfl,rfl,au,?_,R++[x],_,_,rfl,by simp[ah],?_,?_,D9.upd_other ac.1 ac.2,?_⟩
    .rw[aA];exact aR (show R.length<1000 by omega) (by decide)
    .intro y hy;rcases aT.mp hy with q | q
     .exact aj y q
     .rw[aO.mp q];exact hm
    .rw[hG];simp
    .exact λb o e g1 g2=>by rw[gD (hV e ao)];exact (k5.trans k8) b o e g1 g2
   rcases (show r3=0\/r3=1 by omega) with e | e
   .exact go r1 a0 a1 (by rw[e];rfl)
   .exact go (((B.map V.str).length:Int)-1-r2) (by rw[aA];omega) (by rw[aA];omega) (by rw[e];rfl)
  .rintro M I ⟨R,v5,v6,rfl,ah,aj,h5,D5,k5⟩;refine⟨_,rfl,_,rfl,l,_,rfl,.inl ⟨dT.of h5,λq S=>⟨(by show 2<=sizeLine;decide),λt O=>?_⟩⟩⟩;have Y:=D5.ned S;have D6:=D5.new (o:=.t (R.map V.str)) S;have k6:=k5.trans (nD.new (d:=d) (c:=c) (o:=.t (R.map V.str)) S);have Z:=D6.ned O;exact k t q wd R _ (k6.free Z.1 Z.2 O) (k5.free Y.1 Y.2 S) hG (by rw[gD (hV hG O)];exact hG) (by rw[ah];exact ho) aj (D6.new O) (k6.trans (nD.new O))
end
structure Cel where
 ins:List Str
 gates:List (Str×Str×List Str)
 outs:List Str
def Cel.names (C:Cel):Aa Af:=C.ins++C.gates.map (·.1)
def Mm (H:Hp) (a:Ad) (g:Af×Af×Aa Af):Prop:=∃ q,H a=some (.t [.str g.1,.str g.2.1,.ref q])/\H q=some (.t (g.2.2.map V.str))
abbrev sF (H:Hp):Aa Ad->Aa (Af×Af×Aa Af)->Prop:=Paired (Mm H)
structure CellAt (H:Hp) (a:Addr) (C:Cel):Prop where
 ex:∃ (i g o:Addr) (as:List Addr),H a=some (.t [.ref i,.ref g,.ref o])/\H i=some (.t (C.ins.map V.str))/\H g=some (.t (as.map V.ref))/\H o=some (.t (C.outs.map V.str))/\sF H as C.gates
def oZ (H g:Hp):Prop:=∀ b a,H b=some (.t a)->g b=some (.t a)
theorem oZ.trans (a:oZ H g) (b:oZ g j):oZ H j:=λx c e=>b x c (a x c e)
theorem oZ.of_keep (D:DeckAt H d c) (k:nD d c H g):oZ H g:=λb a e=>by
 have:=D.ne_some e (λf z=>nomatch z);exact k b _ e this.1 this.2
theorem oZ.of_same (s:oW H g):oZ H g:=λb a e=>s b _ e
theorem oZ.new (h:H p=none):oZ H (upd H p o):=λb a e=>by rw[gD (hV e h)];exact e
theorem oZ.lst {H:Hp}{p:Ad}{o:HO}{ys:Aa V}(h:H p=some (.l ys)):oZ H (upd H p o):=λb a e=>by rw[gD (zN e h (λz=>nomatch z))];exact e
theorem sF.mono (t:oZ H j):∀ {as:Aa Ad}{g:Aa (Af×Af×Aa Af)},sF H as g->sF j as g
 | _,_,.nil=>.nil
 | _,_,.cons ⟨q,a,b⟩ r=>.cons ⟨q,t _ _ a,t _ _ b⟩ (sF.mono t r)
theorem CellAt.mono (t:oZ H j) (h:CellAt H a C):CellAt j a C:=by
 obtain⟨i,g,o,as,b,c,d,e,f⟩:=h.ex;exact⟨i,g,o,as,t _ _ b,t _ _ c,t _ _ d,t _ _ e,f.mono t⟩
def uJ:Aa Af->Aa (Af×Af×Aa Af)->Prop
 | _,[]=>True
 | kn,g::r=>ArOk g.2.1 g.2.2.length/\(∀ p∈g.2.2,p∈kn)/\uJ (kn++[g.1]) r
theorem uJ.snoc:∀ {j:Aa (Af×Af×Aa Af)}{kn:Aa Af}{g:Af×Af×Aa Af},uJ kn j->ArOk g.2.1 g.2.2.length->(∀ p∈g.2.2,p∈kn++j.map (·.1))->uJ kn (j++[g])
 | [],kn,g,_,b,c=>⟨b,by simpa using c,True.intro⟩
 | a::r,kn,g,h,b,c=>⟨h.1,h.2.1,uJ.snoc h.2.2 b (by simpa using c)⟩
structure Good (C:Cel):Prop where
 nd:C.names.Nodup
 nm:∀ x∈C.names,GoodName x
 gt:uJ C.ins C.gates
 os:∀ o∈C.outs,o∈C.names
 ond:C.outs.Nodup
 li:C.ins.length<=6
 lg:C.gates.length<=24
 lo:C.outs.length<=6
theorem J4 {F:l->o->Prop}:∀ {g:Aa l}{j:Aa o}{a:l}{b:o},Paired F g j->F a b->Paired F (g++[a]) (j++[b])
 | _,_,_,_,.nil,h=>.cons h .nil
 | _,_,_,_,.cons x r,h=>.cons x (J4 r h)
def Nd:Sp:=λf H Q _=>∃ (d c:Ad) (a b:Nat),f=[.ref d,.int a,.int b]/\DeckAt H d c/\a<=6/\b<=24/\∀ (ce:Ad) (C:Cel) (e:Hp),H ce=none->CellAt e ce C->Good C->DeckAt e d c->nD d c H e->Q (.ref ce) e
theorem Zf (h:Dk [d,c] H):DeckAt H d c:=by
 rcases h with h | ⟨b,a,e,h⟩
 .cases h
 .cases e;exact h
theorem W2 (k:nD d c H g):A2 [d,c] H g:=λb o e n=>k b o e (λz=>n (by simp[z])) (λz=>n (by simp[z]))
theorem Pt (f:j->D) (g:Aa j) (k:Nat):wH (g.map f) (some (k:Int)) none=(g.drop k).map f:=by
 unfold wH;rw[aA,HT.sIx_nat,HT.sIx_none,List.map_drop,bI (by simp)];by_cases h:k<=g.length
 .rw[jP h]
 .rw[mU (by omega),List.drop_eq_nil_of_le (by simp),List.drop_eq_nil_of_le (by simp;omega)]
noncomputable def Cq (g:Af×Af×Aa Af):D:=.t [.str g.1,.str g.2.1,.t (g.2.2.map D.str)]
def nK (C:Cel):D:=.t [.t (C.ins.map D.str),.t (C.gates.map Cq),.t (C.outs.map D.str)]
theorem nO (I:Aa Sl->Prop) (o:∀ N:Aa Sl->Prop,(∀ g,I g->N g)->t l { j with nx:=N } r) (p:∀ g,I g->u l j g):Ec t u l j r:=o _ p
theorem qK (p:Aa D) (l:Aa Sl) (r:∀ J:Aa D->Aa Sl->Prop,J p l->ι I ρ J) (Pv:Nat->Aa Sl->Prop) (T:Pv 0 l)
  (U:∀ (i:Nat) d j,p[i]?=some d->Pv i j->g d j λC=>tb I { nx:=Pv (i+1),ct:=Pv (i+1),bk:=o.nx,rt:=o.rt } C) (hd:∀ j,Pv p.length j->o.nx j):Ml ι g tb I o ρ:=r _ ⟨Pv,T,U,hd⟩
theorem qV {j:Type}{f:j->D}{g:Aa j}{i:Nat}{d:D}(h:(g.map f)[i]?=some d):∃ y,g[i]?=some y/\f y=d:=by
 rw[aQ] at h;cases e:g[i]? with
 | none=>rw[e] at h;cases h
 | some y=>rw[e] at h;exact⟨y,rfl,bO h⟩
theorem Nc {lo:Int}(h:(sW lo n)[i]?=some d):i<n/\d = .int (lo+i):=by
 unfold sW at h;rw[aQ] at h;cases e:(List.range n)[i]? with
 | none=>rw[e] at h;cases h
 | some y =>
  rw[e] at h;obtain⟨a,b⟩:=aG.mp e;rw[cA] at a;rw[List.getElem_range] at b;subst b;exact⟨a,(bO h).symm⟩
end Lw
namespace L2
open PySem PySem.Spec PyProof.Rows Lw
section
variable {X:Cx}{K:nH}
def Ls (K:nH) (neg:Bool):R2:=λx y H Q=>Db neg x y H Q\/Gf K neg x y H Q
theorem sJ (g:X.A.units+64<cLine):nZ X (compareOp .Eq) (Ls X.K false):=(show nZ X (compareOp .Eq) (Db false) from F2).or (Ja g)
theorem uA (g:X.A.units+64<cLine):nZ X (compareOp .NotEq) (Ls X.K true):=(show nZ X (compareOp .NotEq) (Db true) from Uc).or (Ti g)
def Gm (neg:Bool):O2:=λd e a=>match d,e with
 | .int i,.int j=>a (.v (.b (nb neg (decide (i=j)))))
 | .str i,.str j=>a (.v (.b (nb neg (decide (i=j)))))
 | .b i,.b j=>a (.v (.b (nb neg (decide (i=j)))))
 | .e,.int _=>a (.v (.b (nb neg false)))
 | .l c,.l []=>a (.v (.b (nb neg c.isEmpty)))
 | _,_=>False
theorem pK (neg:Bool):pM K (Ls K neg) (Gm neg):=by
 intro B L H d e x y A Q hd h m f k;cases d<;>first | exact False.elim f | skip<;>cases e<;>first | exact False.elim f | skip
 .cases h;cases m
  rename_i j
  have c:decide (V.e=V.int j)=false:=by simp
  exact .inl ⟨rfl,by rw[c];exact k _ _ H f (hd.pushF (.b _))⟩
 .cases h;cases m
  rename_i i j
  have c:decide (V.b i=V.b j)=decide (i=j):=by simp
  exact .inl ⟨rfl,by rw[c];exact k _ _ H f (hd.pushF (.b _))⟩
 .cases h;cases m
  rename_i i j
  have c:decide (V.int i=V.int j)=decide (i=j):=by simp
  exact .inl ⟨rfl,by rw[c];exact k _ _ H f (hd.pushF (.b _))⟩
 .cases h;cases m
  rename_i i j
  have c:decide (V.str i=V.str j)=decide (i=j):=by simp
  exact .inl ⟨rfl,by rw[c];exact k _ _ H f (hd.pushF (.b _))⟩
 .rename_i v w
  cases w with
  | cons _ _=>exact False.elim f
  | nil =>
  obtain⟨a,n,rfl,q,t⟩:=h.lst_inv;obtain⟨b,z,rfl,s,u⟩:=m.lst_inv;cases u;have c:v.isEmpty=n.isEmpty:=by cases t<;>rfl
  refine .inr ⟨a,b,n,rfl,rfl,dT.of q,dT.of s,?_⟩;rw[<- c];exact k _ _ H f (hd.pushF (.b _))
end
def Pa:RM:=λx d H Q=>∃ (a b:Ad) (c more:Aa (gV×V)),x = .ref a/\d=[.ref b]/\a≠b/\H a=some (.k c)/\Rd H b (.k more)/\c.length+more.length<=1000/\Q .e (upd H a (.k (rQ c more)))
section
variable {X:Cx}{K:nH}
theorem MA:xT X "dict.update" Pa:=by
 intro n s Z H x V v S Q I G E h;obtain⟨a,b,c,more,rfl,rfl,ne,m,B,O,q⟩:=h;cases G;obtain⟨u,rfl,D⟩:=qZ E;cases D;obtain⟨W,L,i,t,k⟩:=Io I.hok m;obtain⟨Y,M,f,y,z⟩:=tT I.hok B;have P:c.length=i.length:=eC t;have R:more.length=f.length:=eC y;have d:i.length+f.length<=sizeLine:=bF (show _<=1000 by omega) (by decide);refine call_meetsIn F.slot_dict_update k.typeIs F.entry_dict_update (F.args_dict_update_2 _ _) (meets_dict_update (oG X.prog X.w) a b ne M) ⟨i,f,k,z,d,λA d1 _ sm=>?_⟩;have N:(rQ c more).length<=sizeLine:=by
  have:=El more c;exact bF (show (rQ c more).length<=1000 by omega) (by decide)
 have there:∃ o,A.get? a=some o:=let ⟨o,_,_,e,_⟩:=d1;⟨o,e⟩;exact⟨.e,_,B4 I (by rw[m];exact True.intro) sm there (Cs N L (y.merge t) d1),rfl,q⟩
def Vy:OW:=λc d f=>match c,d with
 | .k a,[.k b]=>a.length+b.length<=1000/\f .e (.k (sL a b))
 | _,_=>False
theorem CA:Ck K Pa Vy:=by
 intro A H a c G L M Q w E rd f k;cases c<;>first | exact False.elim f | skip
 cases rd with
 | nil=>exact False.elim f
 | cons B rd =>
 rename_i d _ _ _
 cases d<;>first | exact False.elim f | skip
 cases rd with
 | cons _ _=>exact False.elim f
 | nil =>
 .obtain⟨i,h,e,r⟩:=E
  .obtain⟨b,m,rfl,s,q,n,D⟩:=B.dK_inv;have u:=cL List.length e;have v:=cL List.length n;simp only[aA] at u v;refine⟨a,b,i,m,rfl,rfl,λz=>w (z▸s),h,q,by have:=f.1;omega,k _ _ _ _ f.2 .e λF t=>?_⟩;obtain⟨x,y⟩:=Ee n D e r;exact⟨_,hG,x,y.mono t⟩
end
end L2
namespace PySem
open PyProof.Rows L2
section
variable {s:Ae}
theorem Vg (calm:A.handled=none) (l:∀ g e,(∀ b o,s.heap.get? b=some o->g.get? b=some o)->(∃ o,g.get? e=some o/\o.cls = .type "StopIteration")->E (.ref e) { s with heap:=g }) :
  wpAny (model j w) A (do raiseNew (<- newExc (.type "StopIteration") [])) Q E s:=by
 have mem:firstArgMember (.type "StopIteration") []=pure Value.none:=by first | rfl | (simp only[firstArgMember];rfl)
 have made:wpAny (model j w) A (newExc (.type "StopIteration") []) (λv c=>∃ e g,v = .ref e/\c={ s with heap:=g }/\(∀ b o,s.heap.get? b=some o->g.get? b=some o)/\∃ o,g.get? e=some o/\o.cls = .type "StopIteration") E s:=by
  unfold newExc newTuple;refine aB (eW ?_ (by size_fits));refine aB (jW mem ?_);exact eW ⟨_,_,rfl,rfl,λb o z=>aK _ (aK _ z),_,bB _ rfl,rfl⟩ (by size_fits)
 refine aB (dF made (λv c a=>?_) λ_ _ z=>z);obtain⟨e,g,f,d,k,t⟩:=a;subst f d;unfold raiseNew;refine aB (wpAny_handled ?_);rw[calm];exact aB (aD (wpAny_throw (l g e k t)))
theorem P0 (x:s.heap.IsTupleIter g t i):∃ o,s.heap.get? g=some o/\o.data = .fields #[.ref t,.int i 0]/\s.TypeIs (.ref g) "tuple_iterator" /\ o.cls = .type "tuple_iterator" := by
 obtain⟨o,a,b,c⟩:=x;exact⟨o,a,c,⟨o,a,b⟩,b⟩
theorem Wx {h:Ag}{g t:Ad}{i:Nat}{o:Obj}(a:h.get? g=some o) (b:o.cls = .type "tuple_iterator") (c:o.data = .fields #[.ref t,.int i 0]):(h.update g (Obj.mapFields (·.setIfInBounds 1 (rawInt ((i:Int)+1))))).IsTupleIter g t (i+1):=by
 refine⟨_,iF _ a (Obj.isFreed_of_fields (kU c _)),?_,?_⟩
 .rw[Obj.cls_mapFields];exact b
 .rw[kU c];simp[rawInt]
end
structure RawD (h:Heap) (d:Addr) (o:Obj) (es:Array DictEntry) (ep:Nat):Prop where
 low:(d == sysModules)=false
 get:h.get? d=some o
 ex:o.ExactDict
 dat:o.data = .dict es ep
section
variable {s:Ae}
theorem RawD.ty (r:RawD s.heap d o j g):s.TypeIs (.ref d) "dict" := ⟨o,r.get,r.ex.1⟩
theorem Sm (r:RawD s.heap d o l j) (q:Q (.ref s.heap.objs.size) { s with heap:=s.heap.push { cls:=.type "dict_keyiterator",data:=.fields #[.ref d,.int 0 0,.int l.size 0,.int j 0] } }) :
  wpAny (model g w) A (pyIter (.ref d)) Q E s:=by
 have fresh:∀ h:Ag,h=s.heap.push { cls:=.type "dict_keyiterator",data:=.fields #[.ref d,rawInt 0,rawInt l.size,rawInt j] }->Shared.TypeIs { s with heap:=h } (.ref s.heap.objs.size) "dict_keyiterator" := λh e=>by
  subst e;exact⟨_,bB _ rfl,rfl⟩
 have body:wpAny (model g w) A.in1 (Builtin.«dict.__iter__» ⟨[.ref d],[]⟩) (λr c=>r = .done (.ret (.ref s.heap.objs.size))/\c={ s with heap:=s.heap.push { cls:=.type "dict_keyiterator",data:=.fields #[.ref d,rawInt 0,rawInt l.size,rawInt j] } }) E s:=by
  have self:wpAny (model g w) A.in1 (Builtin.Dict.dictSlotNone "__iter__" ⟨[.ref d],[]⟩) (λv c=>v = .ref d/\c=s) E s:=aB (jS r.ty (aD ⟨rfl,rfl⟩));refine aB (dF self (λv c a=>?_) λ_ _ z=>z);obtain⟨f,i⟩:=a;subst f i;have b:Builtin.Dict.showsAll d=pure ():=by unfold Builtin.Dict.showsAll;simp[r.low]
  refine aB (jW (show Builtin.Dict.addrOf (.ref d)=pure d from rfl) (aB (jW b ?_)));exact aB (jV r.get r.dat (aB (fZ r.get r.dat (aB (eW (aD ⟨rfl,rfl⟩))))))
 refine wpAny_pyIter_slot r.ty F.slot_dict_iter (cK F.slot_dict_iter r.ty F.entry_dict_iter (dF body (λv c a=>?_) λ_ _ z=>z) (F.args_dict_iter_1 _));obtain⟨f,i⟩:=a;subst f i;refine⟨_,rfl,"dict_keyiterator",_,fresh _ rfl,fF.lookup,?_⟩;exact q
theorem Sg (r:RawD s.heap d o j p) (I:s.heap.IsKeyIter g d i j.size p) (J:i<j.size) (q:∀ C,C.IsKeyIter g d (i+1) j.size p->Heap.SameBut g s.heap C->Q (some j[i].key) { s with heap:=C }) :
  wpAny (model l w) A (pyNext (.ref g)) Q E s:=by
 obtain⟨u,f,n,h⟩:=id I;have ty:s.TypeIs (.ref g) "dict_keyiterator" := ⟨u,f,n⟩;have plain:Builtin.Dict_items.ownsTuple "dict_keyiterator" = false:=by decide
 have c:∀ {E:Ac->Ae->Prop} {b:Ae} {k:Nat->Ae->Prop},b.TypeIs (.ref g) "dict_keyiterator" -> k 0 b->wpAny (model l w) A.in1 (do return if Builtin.Dict_items.ownsTuple (<- typeNameOfWhole (.ref g)) then 2 else 0) k E b:=λt z =>
  aB (wpAny_typeNameOfWhole_keyiter t (by rw[plain];exact aD z))
 let e:=s.heap.update g (Obj.mapFields (·.setIfInBounds 1 (rawInt ((i:Int)+1))));have m:e.IsKeyIter g d (i+1) j.size p:=by
  refine⟨_,iF _ f (Obj.isFreed_of_fields (kU h _)),?_,?_⟩
  .rw[Obj.cls_mapFields];exact n
  .rw[kU h];simp[rawInt]
 have body:wpAny (model l w) A.in1 (Builtin.«dict_keyiterator.__next__» ⟨[.ref g],[]⟩) (λx b=>x = .done (.ret j[i].key)/\b={ s with heap:=e }) (λ_ _=>False) s:=by
  refine aB (aD ?_);refine aB (aB (c ty ?_));refine aB (wpAny_fieldsOf f h ?_);have a:¬ ((Value.ref d == Value.none)=true):=bD;show wpAny _ _ (if (Value.ref d == Value.none)=true then _ else _) _ _ s;rw[aJ a];refine aB (aD (aB (jV r.get r.dat ?_)));rw[aJ (by simp)];refine aB (aD (aB (fZ r.get r.dat ?_)));rw[aJ (by simp)];refine aD ?_;have row:(if (i:Int)<0 then none else j[(i:Int).toNat]?)=some j[i]:=by
   rw[aJ (by omega),cD,cJ J]
  dsimp only;rw[row];refine aB (c ty ?_);refine aB (wpAny_isOneOf_keyiter ty ?_);change wpAny _ _ (setField (.ref g) 1 (rawInt ((i:Int)+1)) >>= _) _ _ s;refine aB (mH f h (by simp) ?_);refine aB (bW (aB (wpAny_isOneOf_keyiter (s:={ s with heap:=e }) m.typeIs ?_)));exact aD (aD ⟨rfl,rfl⟩)
 unfold pyNext;refine aB (eZ (bX (name:=Str.ofString "__next__") ty fF (cK fF ty F.entry_dict_keyiterator_next (dF body (λx b ⟨v,y⟩=>?_) λ_ _ z=>z.elim) (F.args_dict_keyiterator_next_1 _))));subst v y;exact⟨_,rfl,aD (q e m (eG ..))⟩
theorem Ps (calm:A.handled=none) (r:RawD s.heap d o p C) (I:s.heap.IsKeyIter l d p.size p.size C) (q:∀ g,Heap.ExtBut l s.heap g->Q none { s with heap:=g }) :
  wpAny (model j w) A (pyNext (.ref l)) Q E s:=by
 obtain⟨u,h,M,m⟩:=id I;have ty:s.TypeIs (.ref l) "dict_keyiterator" := ⟨u,h,M⟩;have plain:Builtin.Dict_items.ownsTuple "dict_keyiterator" = false:=by decide
 have f:∀ {n:Ac->Ae->Prop} {c:Ae} {i:Nat->Ae->Prop},c.TypeIs (.ref l) "dict_keyiterator" -> i 0 c->wpAny (model j w) A.in1 (do return if Builtin.Dict_items.ownsTuple (<- typeNameOfWhole (.ref l)) then 2 else 0) i n c:=λt z =>
  aB (wpAny_typeNameOfWhole_keyiter t (by rw[plain];exact aD z))
 have body:wpAny (model j w) A.in1 (Builtin.«dict_keyiterator.__next__» ⟨[.ref l],[]⟩) (λ_ _=>False) (λv c=>∃ e g,v = .ref e/\c={ s with heap:=g }/\Heap.ExtBut l s.heap g/\∃ o,g.get? e=some o/\o.cls = .type "StopIteration") s:=by
  refine aB (aD ?_);refine aB (aB (f ty ?_));refine aB (wpAny_fieldsOf h m ?_);have a:¬ ((Value.ref d == Value.none)=true):=bD;show wpAny _ _ (if (Value.ref d == Value.none)=true then _ else _) _ _ s;rw[aJ a];refine aB (aD (aB (jV r.get r.dat ?_)));rw[aJ (by simp)];refine aB (aD (aB (fZ r.get r.dat ?_)));rw[aJ (by simp)];refine aD ?_;have row:(if ((p.size:Nat):Int)<0 then none else p[((p.size:Nat):Int).toNat]?)=none:=by
   rw[aJ (by omega),cD,jK (aU _)]
  dsimp only;rw[row];refine aB (f ty (aB (mH h m (by simp) ?_)));exact Vg calm λg e k z=>⟨e,g,rfl,rfl,λx o L K=>k x o ((eG ..).extBut x o L K),z⟩
 unfold pyNext;refine aB (eZ (bX (name:=Str.ofString "__next__") ty fF (cK fF ty F.entry_dict_keyiterator_next (dF body (λ_ _ z=>z.elim) λv c ⟨e,g,y,B,D,o,G,H⟩=>?_) (F.args_dict_keyiterator_next_1 _))));subst y B;exact aB (eE (T := "StopIteration") (b:=true) ⟨o,G,H⟩ mI (aD (q g D)))
end
end PySem
namespace L2
open PySem PySem.Spec PyProof.Rows Lw
def qT:HO->Ab (Aa MK)
 | .T a=>some (a.map λp=>Sum.inr p.1)
 | .dM a=>some (a.map (·.1))
 | .k a=>some (a.map λp=>Sum.inl p.1)
 | _=>none
def Kf:HO->Bool
 | .T _=>true
 | .dM _=>true
 | .k _=>true
 | .frz _ (.T _)=>true
 | .frz _ (.dM _)=>true
 | .frz _ (.k _)=>true
 | _=>false
structure Sw (H H':Hp) (a:Addr) (u:HO):Prop where
 out:∀ b,b≠a->H' b=H b
 k:(qT u).isSome=true
 l:Rd H a u
 r:Rd H' a u
section
theorem Sw.get (s:Sw H j a u) (h:H b=some g) (n:Kf g=false:=by rfl):j b=some g:=by
 have ne:b≠a:=λz=>by
  subst z;have k:=s.k;rcases s.l with q | ⟨o,q⟩<;>rw[q] at h<;>cases h<;>cases u<;>first | (cases n;done) | (cases k;done)
 rw[s.out b ne];exact h
theorem Sw.rd (s:Sw H g a u) (j:(qT x).isSome=true) (h:Rd H b x):Rd g b x:=by
 by_cases e:b=a
 .subst e;have:x=u:=by
   have k:=s.k;rcases h with h | ⟨o,h⟩<;>rcases s.l with q | ⟨c,q⟩<;>rw[q] at h<;>cases h<;>first | rfl | (cases j;done) | (cases k;done)
  rw[this];exact s.r
 .rcases h with h | ⟨o,h⟩
  .exact .inl (by rw[s.out b e];exact h)
  .exact .inr ⟨o,by rw[s.out b e];exact h⟩
theorem Sw.sqF {K:nH}(s:Sw H g a u) (h:wO K H b j):wO K g b j:=by
 rcases h with⟨o,h⟩ | h
 .exact .inl ⟨o,s.get h⟩
 .exact .inr h
variable {K:nH}
theorem Rep.sw (s:Sw H o a u) (g:∀ b,A b->j b) (h:Rep K A H d v):Rep K j o d v :=
 Rep.rec (motive_1:=λd v _=>Rep K j o d v) (motive_2:=λi m _=>Reps K j o i m) .e .b .int .str .r (λh _ r=>.t (s.get h) r) (λh _ r=>.con h r)
  (λf h _ r=>.l (g _ f) (s.get h) r) (λh _ r=>.c (s.sqF h) r) (λf h e _ r=>.k (g _ f) (s.rd rfl h) e r) (λf h e _ r=>.T (g _ f) (s.rd rfl h) e r) (λf h e _ r=>.dM (g _ f) (s.rd rfl h) e r) .nil (λ_ _ h r=>.cons h r) h
theorem Reps.sw (s:Sw H p a u) (C:∀ b,A b->o b) (h:Reps K A H j l):Reps K o p j l:=by
 induction j generalizing l with
 | nil=>cases h;exact .nil
 | cons d j c=>cases h with | cons g r=>exact .cons (g.sw s C) (c r)
theorem pO.sw (s:Sw H o a u) (g:∀ b,A b->j b) (ne:b≠a) (h:pO K A H b d):pO K j o b d:=by
 cases d with
 | l _=>obtain⟨c,h,r⟩:=h;exact⟨c,by rw[s.out b ne];exact h,r.sw s g⟩
 | k _=>obtain⟨c,h,e,r⟩:=h;exact⟨c,by rw[s.out b ne];exact h,e,r.sw s g⟩
 | T _=>obtain⟨c,h,e,r⟩:=h;exact⟨c,by rw[s.out b ne];exact h,e,r.sw s g⟩
 | dM _=>obtain⟨c,h,e,r⟩:=h;exact⟨c,by rw[s.out b ne];exact h,e,r.sw s g⟩
 | _=>exact False.elim h
theorem sV.sw (s:Sw H l a u) (g:∀ b,A b->j b) (ne:∀ b,zO (x,y)=some b->b≠a) (h:sV K A H x y):sV K j l x y:=by
 cases x with
 | n=>trivial
 | v d=>obtain⟨v,e,r⟩:=h;exact⟨v,e,r.sw s g⟩
 | o d=>obtain⟨b,e,r⟩:=h;subst e;exact⟨b,rfl,r.sw s g (ne b rfl)⟩
noncomputable def qA (B:Bs) (a:Ad) (o:Obj) (u:HO):Bs:=⟨B.dk,λb=>B.A0 b\/b=a,λb=>if b=a then some (.frz o u) else B.H0 b⟩
theorem DS.fz (h:DS K B L H) (s:Sw H g a u) (hk:g a=some (.frz o u)) (al:Al B (dK L) a):DS K (qA B a o u) L g:=by
 refine⟨λb m e n=>?_,h.dk.keep λb c=>s.out b λz=>al.1 (z▸c),h.nd,λb c=>?_,λp d=>?_⟩
 .by_cases z:b=a
  .subst z;rw[show (qA B b o u).H0 b=some (.frz o u) from aP rfl] at e;rw[hk];exact e
  .rw[show (qA B a o u).H0 b=B.H0 b from aJ z] at e;rw[s.out b z];exact h.fr b m e n
 .have z:b≠a:=λz=>al.2.1 (z▸c)
  rw[show (qA B a o u).H0 b=B.H0 b from aJ z];exact h.new b c
 .refine (h.ok p d).sw s (λb ⟨f,i,k⟩=>⟨f,i,?_⟩) λb c z=>al.2.1 (tG.mpr ⟨p,d,z▸c⟩)
  by_cases z:b=a
  .exact .inl (.inr z)
  .refine k.elim (λq=>.inl (.inl q)) λq=>.inr ?_
   rw[show (qA B a o u).H0 b=B.H0 b from aJ z];exact q
theorem DS.known (h:DS K (qA B a o u) L H) (g:a∉B.dk):H a=some (.frz o u):=h.fr a _ (aP rfl) g
theorem DS.th (h:DS K (qA B a o u) L H) (s:Sw H j a u) (C:a∉B.dk) (l:∀ g,B.H0 a=some g->j a=some g) (r:B.A0 a\/B.H0 a=none):DS K B L j:=by
 have f:∀ b∈dK L,b≠a:=λb c z=>by
  have:=(h.new b c).1;rw[z,show (qA B a o u).H0 a=some (.frz o u) from aP rfl] at this;cases this
 refine⟨λb g e n=>?_,h.dk.keep λb c=>s.out b λz=>C (z▸c),h.nd,λb c=>?_,λp d=>?_⟩
 .by_cases z:b=a
  .subst z;exact l g e
  .rw[s.out b z];exact h.fr b g (by rw[show (qA B a o u).H0 b=B.H0 b from aJ z];exact e) n
 .have:=h.new b c;rw[show (qA B a o u).H0 b=B.H0 b from aJ (f b c)] at this;exact this
 .refine (h.ok p d).sw s (λb ⟨i,k,m⟩=>⟨i,k,?_⟩) λb c z=>f b (tG.mpr ⟨p,d,c⟩) z
  by_cases z:b=a
  .rw[z];exact r
  .refine m.elim (λq=>.inl (q.resolve_right z)) λq=>.inr ?_
   rw[show (qA B a o u).H0 b=B.H0 b from aJ z] at q;exact q
end
section
variable {X:Cx}
theorem Inv.swapped (I:Inv X j C H s) (sw:Sw H g a u) (r:∀ o u,X.H₀ a≠some (.frz o u)) (ok:oM X.prog X.w g s.heap a u->∀ v,g a=some v->oM X.prog X.w g s.heap a v):Inv X j C g s:=by
 have d:∀ b,H b=none->g b=none:=λb e=>by
  rw[sw.out b λz=>by subst z;rcases sw.l with q | ⟨o,q⟩<;>rw[q] at e<;>cases e];exact e
 have tup_at:∀ b h,H b=some (.t h)->g b=some (.t h):=λb h e=>sw.get e
 have f:∀ b y,H b=some (.o y)->g b=some (.o y):=λb h e=>sw.get e
 refine⟨I.ok,I.os,I.bare,⟨I.base.keep,I.base.slot,λb u e n x=>d b (I.base.free b u e n x),I.base.there,λb h e=>tup_at b h (I.base.tups b h e),λb i u e=>?_,λb m e=>?_⟩,I.loc,I.cell,d _ I.free,λx c e=>d c (I.freeC x c e),λp k=>?_,λb v e=>?_,I.len⟩
 .have ne:b≠a:=λz=>r i u (z▸e)
  rw[sw.out b ne];exact I.base.frzs b i u e
 .obtain⟨more,q⟩:=I.base.tbls b m e;exact⟨more,sw.get q⟩
 .obtain⟨A,B,D⟩:=I.pin p k;exact⟨A,d _ B,D⟩
 .by_cases z:b=a
  .subst z;have base:oM X.prog X.w H s.heap b u:=sw.l.ok I.hok;exact ok (base.stay (λ_ _ _ q=>q) (λc q=>f c _ q) tup_at) v e
  .rw[sw.out b z] at e;exact (I.hok b v e).stay (λ_ _ _ q=>q) (λc q=>f c _ q) tup_at
theorem Inv.no_frz (I:Inv X j o H s) (hk:(qT u).isSome=true) (l:H a=some u):∀ g v,X.H₀ a≠some (.frz g v):=λg v e=>by
 have:=I.base.frzs a g v e;rw[l] at this;cases this;cases hk
theorem Inv.frozen (I:Inv X g p H s) (hk:(qT u).isSome=true) (j:H a=some u) (l:s.heap.get? a=some o):Inv X g p (upd H a (.frz o u)) s:=by
 refine I.swapped ⟨λb n=>gD n,hk,.inl j,.inr ⟨o,hG⟩⟩ (I.no_frz hk j) λq v e=>?_
 rw[hG] at e;cases e;exact⟨l,q⟩
theorem Inv.thawed (I:Inv X g p H s) (hk:(qT u).isSome=true) (l:H a=some (.frz o u)) (j:∀ o u,X.H₀ a≠some (.frz o u)):Inv X g p (upd H a u) s:=by
 refine I.swapped ⟨λb n=>gD n,hk,.inr ⟨o,l⟩,.inl hG⟩ j λq v e=>?_
 rw[hG] at e;cases e;exact q
end
theorem Wz {P:Ah}(hk:(qT u).isSome=true) (ok:oM P w H h a u):∃ o,h.get? a=some o:=by
 cases u<;>first | (cases hk;done) | (obtain⟨_,_,_,_,o,_,_,e,_⟩:=ok;exact⟨o,e⟩)
def wM (a:Ad) (o:Obj) (u:HO) (g:Aa MK):It :=
 ⟨λi H=>H a=some (.frz o u)/\i<g.length,λi H x b=>b=H/\∃ k,g[i]?=some k/\wD H k x,λi H=>H a=some (.frz o u)/\i=g.length⟩
theorem Dd {F:l->o->Prop}:∀ {g:Aa l}{j:Aa o}{i:Nat}{a:l},Paired F g j->g[i]?=some a->∃ b,j[i]?=some b/\F a b
 | _,_,_,_,.nil,h=>by simp at h
 | _,_,0,_,.cons x r,h=>by simp at h;subst h;exact⟨_,by simp,x⟩
 | _,_,i+1,a,.cons x r,h=>by
  obtain⟨b,c,d⟩:=Dd (i:=i) r (by simpa using h);exact⟨b,by simpa using c,d⟩
theorem HE (h:tZ H k u):∃ y,wD H k y/\nM y u:=by
 rcases k with k | c
 .exact⟨kV k,rfl,h⟩
 .obtain⟨b,rfl,a⟩:=h;exact⟨.ref b,⟨b,rfl,a⟩,rfl⟩
theorem DH (h:tA k v=true):nM (kV k) v:=by
 rcases tK h with⟨i,t,rfl,rfl⟩ | ⟨x,t,rfl,rfl⟩
 .exact⟨t,rfl⟩
 .exact⟨t,rfl⟩
theorem Y6 {P:Ah}:∀ {g:Aa DictEntry}{j:Aa (gV×Ac)},Pairs (oG P w) g j->g.length=j.length/\∀ (i:Nat) e q,g[i]?=some e->j[i]?=some q->tA q.1 e.key=true/\e.val=q.2:=by
 intro g;induction g with
 | nil=>intro j h;cases h;exact⟨rfl,λi e q h=>by cases h⟩
 | cons a g m =>
  intro j h;cases h with
  | cons d f k =>
   obtain⟨n,s⟩:=m k;refine⟨cL (·+1) n,λi e q b c=>?_⟩;cases i with
   | zero=>cases b;cases c;exact⟨d,f⟩
   | succ i=>exact s i e q b c
theorem J9 {P:Ah}(ok:oX P w H h) (hk:qT u=some C) (p:H a=some (.frz o u)) :
  ∃ g l,RawD h a o g l/\g.size=C.length/\∀ (i:Nat) (j:i<g.size),∃ k,C[i]?=some k/\tZ H k g[i].key:=by
 have m:∀ {g:Array DictEntry} {i:Nat} {e:DictEntry} (j:i<g.size),g.toList[i]?=some e->g[i]=e:=λ{g i e} j h=>by
  rw[dN,cJ j] at h;exact bO h
 cases u with
 | T b =>
  cases hk;obtain⟨c,z,lo,B,r,E,g,l,d,n,s,f,_⟩:=(show oM P w H h a (.frz o (.T _)) from ok a _ p);rw[c] at d;cases d;have D:=eC r;have v:g.size=B.length:=by simpa using cL List.length f
  refine⟨g,l,⟨lo,c,n,s⟩,by rw[aA];omega,λi j=>?_⟩;obtain⟨q,t,x,y,K⟩:=Dd r (aE (show i<_ by omega));refine⟨_,by rw[aQ,aE (show i<_ by omega)];rfl,?_⟩;rw[m j (by rw[f,aQ,t];rfl)];exact⟨_,rfl,y⟩
 | k b =>
  cases hk;obtain⟨c,z,lo,L,r,E,g,l,d,n,s,f,F,_⟩:=(show oM P w H h a (.frz o (.k b)) from ok a _ p);rw[c] at d;cases d;have D:b.length=L.length:=eC r;obtain⟨v,A⟩:=Y6 F;rw[eV] at v;refine⟨g,l,⟨lo,c,n,s⟩,by rw[aA];omega,λi j=>?_⟩;have hk:i<b.length:=by omega
  obtain⟨q,t,x,_⟩:=Dd r (aE hk);obtain⟨G,_⟩:=A i g[i] q (by rw[dN,cJ j]) t;refine⟨Sum.inl b[i].1,by rw[aQ,aE hk];rfl,?_⟩;show nM (kV b[i].1) g[i].key;rw[x];exact DH G
 | dM b =>
  cases hk;obtain⟨c,z,lo,B,r,E,g,l,d,n,s,f,_⟩:=(show oM P w H h a (.frz o (.dM _)) from ok a _ p);rw[c] at d;cases d;have D:=eC r;have v:g.size=B.length:=by simpa using cL List.length f
  refine⟨g,l,⟨lo,c,n,s⟩,by rw[aA];omega,λi j=>?_⟩;obtain⟨q,t,x,y,K⟩:=Dd r (aE (show i<_ by omega));refine⟨_,by rw[aQ,aE (show i<_ by omega)];rfl,?_⟩;rw[m j (by rw[f,aQ,t];rfl)];exact y
 | _=>cases hk
theorem DM {P:Ah}{K:nH}(a j:Ad) (o:Obj) (hk:qT u=some p):Turn P w K tg (wM a o u p) [j] j (λi h=>∃ g,(∃ l,o.data = .dict l g)/\h.IsKeyIter j a i p.length g) where
 mem:=by simp
 obj:=λi h st b n=>by
  have e:b=j:=by simpa using n
  subst e;obtain⟨_,_,o,e,c,d⟩:=st;exact⟨o,e,λv z=>by rw[d] at z;cases z⟩
 keep:=λi h A ⟨g,q,o,e,r⟩ k=>⟨g,q,o,k j (by simp) o e,r⟩
 item:=by
  intro X O hw N V i m s W H E I B st R;subst O hw N;obtain⟨g,⟨D,t⟩,st⟩:=st;obtain⟨Q,S⟩:=R;obtain⟨l,f,raw,sz,rows⟩:=J9 I.hok hk Q;have:f=g:=by have:=raw.dat;rw[t] at this;cases this;rfl
  subst this;rw[<- sz] at st S;obtain⟨k,C,J⟩:=rows i S;obtain⟨y,T,U⟩:=HE J;obtain⟨F,f1,f2,G,L,M⟩:=B j (by simp);refine Sg raw st S λA x sb=>?_
  have Y:Inv X m W H { s with heap:=A }:=I.turned (t':=s.toks) (λb o n e=>(sb.2 b n).trans e) F f1 G L M;rw[sz] at x;obtain⟨oi,e,c,d⟩:=id x;exact⟨_,rfl,Dc (s:={ s with heap:=A }) e c d (by decide) ⟨y,H,Y,U,⟨rfl,k,C,T⟩,⟨f,⟨l,raw.dat⟩,x⟩,λb n=>(B b n).1⟩⟩
 done:=by
  intro X O hw N V i m s W H E I B st R;subst O hw N;obtain⟨g,⟨D,t⟩,st⟩:=st;obtain⟨Q,rfl⟩:=R;obtain⟨l,f,raw,sz,rows⟩:=J9 I.hok hk Q;have:f=g:=by have:=raw.dat;rw[t] at this;cases this;rfl
  subst this;rw[<- sz] at st;obtain⟨F,f1,f2,G,L,M⟩:=B j (by simp);exact Ps (I.ok.hd V) raw st λA Z=>⟨rfl,I.turned (t':=s.toks) (λb o n e=>Z b o n e) F f1 G L M⟩
 self:=λ_ _ _ _ _ ⟨_,_,st⟩ h=>wpAny_pyIter_keyiter st h
noncomputable def yR:gV->D
 | .inl i=>.int i
 | .inr x=>.str x
theorem Jc {K:nH}:∀ k:Aa gV,Reps K A H (k.map yR) (k.map kV)
 | []=>.nil
 | .inl i::k=>.cons (.int i) (Jc k)
 | .inr x::k=>.cons (.str x) (Jc k)
def I3 (g:Aa (Aa gV×D)):Aa D:=g.map λp=>.t (p.1.map yR)
def nR:MK->D
 | .inl k=>yR k
 | .inr a=>.t (a.map yR)
theorem W5 {K:nH}:∀ {k:MK}{y:V},wD H k y->Rep K A H (nR k) y
 | .inl (.inl i),_,rfl=>.int i
 | .inl (.inr x),_,rfl=>.str x
 | .inr c,_,⟨b,rfl,a⟩=>.t a (Jc c)
def tI (g:Aa (MK×D)):Aa D:=g.map λp=>nR p.1
def zP (g:Aa (gV×D)):Aa D:=g.map λp=>yR p.1
def Fn:D->Ab (Aa D)
 | .T a=>some (I3 a)
 | .dM a=>some (tI a)
 | .k a=>some (zP a)
 | _=>none
structure YS (K:nH) (J:It) (ds:List D) (S:Hp->Prop):Prop where
 go:∀ i H,i<ds.length->S H->J.go i H
 yld:∀ i H x H',i<ds.length->S H->J.yld i H x H'->∃ d,ds[i]?=some d/\H'=H/\∀ A,Rep K A H d x
 stop:∀ i H,i=ds.length->S H->J.stop i H
def Hu (g:nV):wC:=λb f e=>g b f λr a=>match r with
 | .v d=>match Fn d with
  | some c=>e c a
  | none=>False
 | _=>False
def Py (X:Cx) (g:TE):TI:=λe H R=>g e H λx b=>∃ a u c,qT u=some c/\x = .ref a/\((b a=some u/\∀ o,(∀ d u,X.H₀ a≠some (.frz d u))->R (wM a o u c) (upd b a (.frz o u)))\/∃ o,b a=some (.frz o u)/\R (wM a o u c) b)
section
variable {X:Cx}
theorem Ge (g:PE X l j):PI X p l (Py X j):=by
 intro c s y H R I h;refine nJ (g c s y H _ I h) λv i t=>?_
 obtain⟨x,G,k,F,a,u,w,hk,e,alt⟩:=t;subst e;cases F;have n:(qT u).isSome=true:=by rw[hk];rfl
 obtain⟨o,f,m,d,q⟩:∃ o f,Inv X c y f i/\f a=some (.frz o u)/\R (wM a o u w) f:=by
  rcases alt with⟨d,q⟩ | ⟨o,d,q⟩
  .obtain⟨o,E⟩:=Wz n (k.hok a _ d);exact⟨o,_,k.frozen n d E,hG,q o (k.no_frz n d)⟩
  .exact⟨o,_,k,d,q⟩
 obtain⟨A,z,raw,sz,_⟩:=J9 m.hok hk d;have B:∀ b∈[i.heap.objs.size],tN X c f b:=λb D=>by
  have e:b=i.heap.objs.size:=by simpa using D
  subst e;exact m.fpOk (aU _) (m.hok.fresh (aU _))
 refine Sm raw ⟨i.heap.objs.size,[i.heap.objs.size],_,wM a o u w,f,rfl,m.kept (t':=i.toks) λb K q=>aK _ q,DM a _ o hk,⟨z,⟨A,raw.dat⟩,?_⟩,B,q⟩;exact⟨_,bB _ rfl,rfl,by rw[sz];rfl⟩
def thawQ (X:Cx) (Q:Hp->Prop) (H:Hp):Prop:=Q H\/∃ a o u,(qT u).isSome=true/\H a=some (.frz o u)/\(∀ b u,X.H₀ a≠some (.frz b u))/\Q (upd H a u)
theorem Inv.thawQ (I:Inv X g l H s) (h:L2.thawQ X Q H):∃ j,Inv X g l j s/\Q j:=by
 rcases h with h | ⟨a,o,u,hk,c,b,h⟩
 .exact⟨H,I,h⟩
 .exact⟨_,I.thawed hk c b,h⟩
theorem V0 (h:PE X e t):PE X e (λg H Q=>t g H λv=>thawQ X (Q v)):=λa s g H Q I q=>by
 refine nJ (h a s g H _ I q) λv u b=>?_
 obtain⟨x,n,d,m,i⟩:=b;obtain⟨c,f,k⟩:=d.thawQ i;exact⟨x,c,f,m,k⟩
def Ends.thawQ (X:Cx) (D:Ends):Ends where
 nx:=λa=>L2.thawQ X (D.nx a)
 rt:=λv=>L2.thawQ X (D.rt v)
 bk:=λa=>L2.thawQ X (D.bk a)
 ct:=λa=>L2.thawQ X (D.ct a)
theorem Kx {st:Stmt}(h:PS X st t):PS X st (λD g H=>t (D.thawQ X) g H):=λi s g H D I q=>by
 refine nJ (h i s g H _ I q) λf n q=>?_
 cases f with
 | next=>obtain⟨a,k,b,d⟩:=q;obtain⟨m,c,e⟩:=b.thawQ d;exact⟨a,_,c,e⟩
 | brk=>obtain⟨a,k,b,d⟩:=q;obtain⟨m,c,e⟩:=b.thawQ d;exact⟨a,_,c,e⟩
 | cont=>obtain⟨a,k,b,d⟩:=q;obtain⟨m,c,e⟩:=b.thawQ d;exact⟨a,_,c,e⟩
 | ret u=>obtain⟨v,a,k,b,r,d⟩:=q;obtain⟨m,c,e⟩:=b.thawQ d;exact⟨v,a,_,c,r,e⟩
theorem Gc {K:nH}:YS K (wM a o u ks) (ks.map nR) λH=>H a=some (.frz o u):=by
 refine⟨λi H b c=>⟨c,by rw[aA] at b;exact b⟩,?_,λi H b c=>⟨c,by rw[b,aA]⟩⟩;rintro i H x f b c ⟨rfl,k,d,e⟩;exact⟨nR k,by rw[aQ,d];rfl,rfl,λA=>W5 e⟩
theorem Q7 {T:Aa Af}{j:Aa Nat}{g:vH}{tt:rK}{te:nV}{K:nH}(aa:j.Nodup){σ:St}{H1:Hp}{Q:VK}{B:Bs}{C:Aa Sl}{Tm:oN}{Φ:Sl->Aa Sl->Prop}{J:It}{ds:Aa L2.D}{S:Hp->Prop}{D:Ad}(l1:C.length=σ.length) (d1:DS K B (C.zip σ++Tm) H1) (Y:YS K J ds S)
  (hS:∀ D,H1 D=none->∀ p L H,DS K (oH B D p) L H->S H)
  (ac:∃ Pv:Nat->Aa L2.D->Aa Sl->Prop,Pv 0 [] (qB j C) /\ (∀ i d p I,ds[i]?=some d->I.length=j.length->Pv i p I->g d (List.replicate T.length Sl.n++I) λae=>tt B.dk ae λb ab=>if b=true then te B.dk ab λr af=>match sd r with
    | some c=>p.length<100000/\Pv (i+1) (p++[c]) (af.drop T.length)
    | none=>False
    else Pv (i+1) p (ab.drop T.length)) /\
   ∀ p I,I.length=j.length->Pv ds.length p I->Φ (.o (.l p)) (qU j I C))
  (k:∀ r U v H',U.length=σ.length->DS K B (U.zip σ++(r,some v)::Tm) H'->Φ r U->Q v H') (hD:H1 D=none):zW T j J (dG K T.length g) (sY K tt) (dE K te) σ H1 Q D :=
 U9 aa l1 d1 (λi p q M H _ d=>⟨λa=>Y.go i H a (hS D hD _ _ _ d),λa=>Y.stop i H a (hS D hD _ _ _ d),λx f a y=>by obtain⟨h,e,rfl,m⟩:=Y.yld i H x f a (hS D hD _ _ _ d) y;exact⟨h,e,d.push (m _)⟩⟩) ac k hD
theorem DS.known2 {K:nH}(d:DS K B (L++(.v c,some v)::T) H) (p:Fn c=some r) :
  ∃ a u l,v = .ref a/\qT u=some l/\r=l.map nR/\a∉B.dk /\
   ((H a=some u/\∀ o,DS K (qA B a o u) (L++T) (upd H a (.frz o u))/\∀ j g,DS K (qA B a o u) j g->DS K B j (upd g a u)) \/ ∃ o,H a=some (.frz o u)/\DS K (qA B a o u) (L++T) H/\∀ j g,DS K (qA B a o u) j g->DS K B j g):=by
 have hd:=d.drop;have rep:=d.valAt;obtain⟨a,u,l,rfl,al,rd,hk,q⟩:∃ a u l,v = .ref a/\Al B (dK (L++T)) a/\Rd H a u/\qT u=some l/\r=l.map nR:=by
  cases c with
  | T f =>
   cases p;obtain⟨a,s,rfl,al,rd,q,_⟩:=rep.dT_inv;refine⟨a,_,_,rfl,al,rd,rfl,?_⟩;have e:I3 f=(f.map (·.1)).map λk=>D.t (k.map yR):=by unfold I3;rw[List.map_map];rfl
   rw[e,q,bA,bA];rfl
  | k f =>
   cases p;obtain⟨a,s,rfl,al,rd,q,_⟩:=rep.dK_inv;refine⟨a,_,_,rfl,al,rd,rfl,?_⟩;have e:zP f=(f.map (·.1)).map yR:=by unfold zP;rw[List.map_map];rfl
   rw[e,q,bA,bA];rfl
  | dM f =>
   cases p;obtain⟨a,s,rfl,al,rd,q,_⟩:=rep.dM_inv;refine⟨a,_,_,rfl,al,rd,rfl,?_⟩;have e:tI f=(f.map (·.1)).map nR:=by unfold tI;rw[List.map_map];rfl
   rw[e,q]
  | _=>cases p
 have h:=al.1;have x:(qT u).isSome=true:=by rw[hk];rfl
 refine⟨a,u,l,rfl,hk,q,h,?_⟩;rcases rd with i | ⟨w,i⟩
 .refine .inl ⟨i,λo=>⟨hd.fz (o:=o) ⟨λb n=>gD n,x,.inl i,.inr ⟨o,hG⟩⟩ hG al,λj g m=>m.th ⟨λb n=>gD n,x,.inr ⟨o,m.known h⟩,.inl hG⟩ h (λu e=>?_) al.2.2⟩⟩;have:=hd.fr a u e h;rw[i] at this;rw[hG];exact this
 .refine .inr ⟨w,i,hd.fz ⟨λ_ _=>rfl,x,.inr ⟨w,i⟩,.inr ⟨w,i⟩⟩ i al,λj g m=>m.th ⟨λ_ _=>rfl,x,.inr ⟨w,m.known h⟩,.inr ⟨w,m.known h⟩⟩ h (λu e=>?_) al.2.2⟩;have:=hd.fr a u e h;rw[i] at this;rw[m.known h];exact this
theorem Uo {K:nH}{B:Bs}{a D:Ad}{o:Obj}{u:HO}{p:Aa V}{L:oN}{H g:Hp}(r:a∉B.dk) (j:g a=some (.frz o u)) (C:g D=none) (d:DS K (oH (qA B a o u) D p) L H):H a=some (.frz o u):=by
 have ne:a≠D:=λz=>by rw[z,C] at j;cases j
 refine d.fr a _ ?_ r;show (if a=D then some (.l p) else if a=a then some (HO.frz o u) else B.H0 a)=_;rw[aJ ne,aP rfl]
theorem Ur (l:j.Nodup) (h:dE X.K (yL T.length j (Hu C) g I p) J H Q) :
  Cv T j (Py X (dE X.K C)) (dG X.K T.length g) (sY X.K I) (dE X.K p) J H λv=>thawQ X (Q v):=by
 obtain⟨B,M,Tm,R,y,hd,E,k⟩:=h;refine⟨B,M,Tm,_,y,hd,E,λr N v O s d1 b=>?_⟩;cases r<;>first | exact False.elim b | skip
 rename_i d
 dsimp only at b;cases n:Fn d with
 | none=>rw[n] at b;exact False.elim b
 | some P =>
  rw[n] at b;obtain⟨a,u,F,rfl,hk,rfl,m,alt⟩:=d1.known2 n;have A:(qT u).isSome=true:=by rw[hk];rfl
  refine⟨a,u,F,hk,rfl,?_⟩;rcases alt with⟨f,x⟩ | ⟨o,f,d2,back⟩
  .refine .inl ⟨f,λo w D c=>?_⟩;obtain⟨d2,back⟩:=x o;exact Q7 (B:=qA B a o u) l s d2 Gc (λD c G L H d=>Uo m hG c d) b (λr e v t q i z=>.inr ⟨a,o,u,A,i.known m,w,k r e v _ q (back _ _ i) z⟩) c
  .refine .inr ⟨o,f,λD c=>?_⟩;exact Q7 (B:=qA B a o u) l s d2 Gc (λD c G L H d=>Uo m f c d) b (λr e v t q i z=>.inl (k r e v _ q (back _ _ i) z)) c
theorem Zi {iter:Expr}(T o:Aa Af) (r:Aa Nat) (hc:X.calm=true) (hi:PD X iter ti)
  (hk:j.kind = .function) (ho:zX X.N X.env.kindOf j T o r=true)
  (hg:∀ p l C cl I,xB (rN X (T++o) j cl C p l I) T.length tg g)
  (ht:∀ p l C cl I,vG (rN X (T++o) j cl C p l I) aa (sY X.K tt))
  (he:∀ p l C cl I,PD (rN X (T++o) j cl C p l I) U te)
  (J:r.Nodup:=by decide) (hs:∀ x,foldedSetIterable iter X.env x=pure x:=by intro _;rfl):PD X (.ListComp U [⟨tg,iter,aa,0⟩] j pos) (yL T.length r (Hu ti) g tt te) :=
 (V0 (Bj T o r hc (Ge hi) hk ho hg ht he hs)).mono λ_ _ _ h=>Ur J h
theorem Sh {iter:Expr}(hp:PassesOwn (model X.prog X.w) X.A X.env X.xe) (j:X.calm=true) (hi:PD X iter ti) (hg:xB X m tg g) (hb:uY X body tb)
  (p:∀ x,foldedSetIterable iter X.env x=pure x:=by intro _;rfl):tH X (.For tg iter body [] pos) (Ml (Hu ti) g tb) :=
 (Kx (vZ hp j (Ge hi) hg hb p)).mono λDn Z H ab=>ab.elim λB ρ T De hl hd ht C=>by
  refine⟨B,ρ,T,_,hl,hd,ht,λr S v H1 l1 d1 P=>?_⟩;cases r<;>first | exact False.elim P | skip
  rename_i c
  dsimp only at P;cases j:Fn c with
  | none=>rw[j] at P;exact False.elim P
  | some kd =>
   rw[j] at P;obtain⟨Pv,p0,step,fin⟩:=P;obtain⟨a,u,E,rfl,hk,rfl,U,alt⟩:=d1.known2 j;have p:(qT u).isSome=true:=by rw[hk];rfl
   have Y:∀ o,_:=λo=>Gc (K:=X.K) (a:=a) (o:=o) (u:=u) (ks:=E)
   have G:∀ (o:Obj) (q:Ends) (F:Hp),DS X.K (qA B a o u) (S.zip Z++T) F->(∀ (e:Aa Sl) (b:St) (f:Hp),e.length=b.length->b.length=Z.length->DS X.K (qA B a o u) (e.zip b++T) f->De.nx e->q.nx b f) ->
     (∀ (r:Sl) (v:V) (e:Aa Sl) (b:St) (f:Hp),e.length=b.length->DS X.K (qA B a o u) (e.zip b++(r,some v)::T) f->De.rt r->q.rt v f) ->
     ∃ W:Nat->Nat->St->Hp->Prop,(∃ m,W 0 m Z F)/\∀ i n b f,W i n b f->((wM a o u E).stop i f/\q.nx b f)\/((wM a o u E).go i f/\∃ N:St->Hp->Prop,(∀ L t,N L t->∃ m',m'<n/\W (i+1) m' L t)/\∀ x t,(wM a o u E).yld i f x t->dG X.K m g x b t λk H3=>dS X.K tb { nx:=N,ct:=N,bk:=q.nx,rt:=q.rt } k H3):=λo q F d0 R ac=>by
    refine⟨λi m b f=>m=(E.map nR).length-i/\i<=(E.map nR).length/\∃ e,e.length=b.length/\b.length=Z.length/\DS X.K (qA B a o u) (e.zip b++T) f/\Pv i e,⟨_,rfl,cG _,S,l1,rfl,d0,p0⟩,?_⟩;rintro i m b f ⟨rfl,ae,e,m1,m2,J,pv⟩;have hk:=J.known U;by_cases M:i<(E.map nR).length
    .refine .inr ⟨(Y o).go i f M hk,λk F=>∃ h,h.length=k.length/\k.length=Z.length/\DS X.K (qA B a o u) (h.zip k++T) F/\Pv (i+1) h,λk F ⟨h,q1,q2,q3,q4⟩=>⟨_,(by omega:(E.map nR).length-(i+1)<_),rfl,M,h,q1,q2,q3,q4⟩,λx F y=>?_⟩;obtain⟨d,aa,rfl,rx⟩:=(Y o).yld i f x F M hk y;refine⟨qA B a o u,e,T,d,_,m1,J.push (rx _),step i d e aa pv,λh k H3 n1 n2 _ d3 q3=>⟨qA B a o u,h,T,_,n1,d3,q3,?_,?_⟩⟩
     .intro D O I s l Q;exact⟨λz=>⟨D,s,by omega,Q,z⟩,λz=>R D O I s (by omega) Q z,λz=>⟨D,s,by omega,Q,z⟩⟩
     .exact λr v D O I s Q z=>ac r v D O I s Q z
    .have ei:i=(E.map nR).length:=by omega
     subst ei;exact .inl ⟨(Y o).stop _ f rfl hk,R e b f m1 m2 J (fin e pv)⟩
   refine⟨a,u,E,hk,rfl,?_⟩;rcases alt with⟨ha,hh⟩ | ⟨o,ha,d2,back⟩
   .refine .inl ⟨ha,λo h0=>?_⟩;obtain⟨d2,back⟩:=hh o;exact G o _ _ d2 (λe b f s l d z=>.inr ⟨a,o,u,p,d.known U,h0,(C.1 e b _ s l (back _ _ d)).1 z⟩) λr v e b f s d z=>.inr ⟨a,o,u,p,d.known U,h0,C.2 r v e b _ s (back _ _ d) z⟩
   .exact .inr ⟨o,ha,G o _ _ d2 (λe b f s l d z=>.inl ((C.1 e b _ s l (back _ _ d)).1 z)) λr v e b f s d z=>.inl (C.2 r v e b _ s (back _ _ d) z)⟩
end
end L2
namespace PySem
open PyProof.Rows L2
section
theorem X9 (I:s.heap.IsTupleIter j t i) (T:s.heap.IsTuple t C) (J:C[i]?=some x) (q:∀ g,g.IsTupleIter j t (i+1)->Heap.SameBut j s.heap g->Q x { s with heap:=g }) :
  wpAny (model l w) A (Builtin.SmallTypes.nextOf (.ref j)) Q E s:=by
 obtain⟨o,a,c,ty,b⟩:=P0 I;obtain⟨p,m,v,n,u⟩:=id T;have body:wpAny (model l w) A.in1 (Builtin.«tuple_iterator.__next__» ⟨[.ref j],[]⟩) (λr d=>∃ g,r = .done (.ret x)/\d={ s with heap:=g }/\g.IsTupleIter j t (i+1)/\Heap.SameBut j s.heap g) E s:=by
  show wpAny _ _ (field (.ref j) 0 >>= _) _ _ s;refine aB (eJ a c (x:=.ref t) rfl ?_);refine (show wpAny _ _ (field (.ref j) 1 >>= _) _ _ s from aB (eJ a c (x:=.int i 0) rfl (aB (gL m u ?_))));simp only[cD,J];exact aB (mH a c (by simp) (aD ⟨_,rfl,rfl,Wx a b c,eG ..⟩))
 unfold Builtin.SmallTypes.nextOf;refine aB (bX (name:=Str.ofString "__next__") ty iD (cK iD ty F.entry_tuple_iterator_next (dF body (λr d ⟨g,e,f,h,k⟩=>?_) λ_ _ z=>z) (F.args_tuple_iterator_next_1 _)));subst e f;exact⟨x,rfl,aD (q g h k)⟩
theorem BH (calm:A.handled=none) (I:s.heap.IsTupleIter j t i) (T:s.heap.IsTuple t C) (r:C[i]?=none)
  (q:∀ g e,Heap.ExtBut j s.heap g->(∃ o,g.get? e=some o/\o.cls = .type "StopIteration")->E (.ref e) { s with heap:=g }):wpAny (model l w) A (Builtin.SmallTypes.nextOf (.ref j)) Q E s:=by
 obtain⟨o,a,c,ty,b⟩:=P0 I;obtain⟨p,f,m,n,h⟩:=id T;have body:wpAny (model l w) A.in1 (Builtin.«tuple_iterator.__next__» ⟨[.ref j],[]⟩) (λ_ _=>False) E s:=by
  show wpAny _ _ (field (.ref j) 0 >>= _) _ _ s;refine aB (eJ a c (x:=.ref t) rfl ?_);refine (show wpAny _ _ (field (.ref j) 1 >>= _) _ _ s from aB (eJ a c (x:=.int i 0) rfl (aB (gL f h ?_))));simp only[cD,r];refine aB (gU (aB (mH a c (by simp) ?_)));exact Vg calm λg e k z=>q g e (λx o d r=>k x o ((eG ..).extBut x o d r)) z
 unfold Builtin.SmallTypes.nextOf;exact aB (bX (name:=Str.ofString "__next__") ty iD (cK iD ty F.entry_tuple_iterator_next (dF body (λ_ _ z=>z.elim) λ_ _ z=>z) (F.args_tuple_iterator_next_1 _)))
abbrev vO (h:Ag) (z TI TO:Ad) (x:Ac) (f:Bool):Prop:=h.get? z=some { cls:=.type "zip",dict:=none,data:=.fields #[x,.bool f,.bool false,.ref TI,.ref TO],slots:=#[] }
def He (z TI TO:Ad) (f:Bool) (E:Ac->Ae->Prop):Ac->Ae->Prop:=λe a=>vO a.heap z TI TO .ellipsis f/\∀ b,Heap.SameBut z a.heap b->E e { a with heap:=b }
theorem Mz {z TI TO:Ad}{a b p q:Ac}{x0:Ac}{f:Bool}{Q:Ac->Ae->Prop}(J:vO s.heap z TI TO x0 f) (free:wpAny (model g w) A (Builtin.SmallTypes.ownedTupleIsFree (.ref z)) (λx l=>x=true/\l=s) E s) (aa:IsPair s.heap TI a b)
  (go:∀ C,vO C z TI TO .ellipsis f->Heap.SameBut z s.heap C->wpAny (model g w) A (Builtin.SmallTypes.nextOf a) (λx T=>IsPair T.heap TO p q/\∀ I,IsPair I TO x q->Heap.SameBut TO T.heap I ->wpAny (model g w) A (Builtin.SmallTypes.nextOf b) (λy U=>IsPair U.heap TO x q/\∀ j,IsPair j TO x y->Heap.SameBut TO U.heap j->vO j z TI TO .ellipsis f /\ ∀ r,IsZip r z TI TO (rawInt j.objs.size)->IsPair r j.objs.size x y->r.objs.size=j.objs.size+1->(∀ c o,c≠z->j.get? c=some o->r.get? c=some o)->Q (.ref j.objs.size) { U with heap:=r }) (He z TI TO f E) { T with heap:=I }) (He z TI TO f E) { s with heap:=C }) :
  wpAny (model g w) A (Builtin.«zip.__next__» ⟨[.ref z],[]⟩) (λfin l=>∃ v,fin = .done (.ret v)/\Q v l) E s:=by
 have back:∀ {k:Type} {m:Sem k} {R:k->Ae->Prop} {l:Ae},wpAny (model g w) A m R (He z TI TO f E) l->wpAny (model g w) A (m.onRaise λ_=>setField (.ref z) 0 .none) R E l:=λ{k m R l} h =>
  wpAny_onRaise (dF h (λ_ _ z=>z) λe Z ⟨d,L⟩=>jL d (by simp) λr _ P=>L r P)
 unfold Builtin.«zip.__next__»;refine aB (aD (aB (eJ J rfl (x:=.bool false) rfl (aB (eJ J rfl (x:=.ref TI) rfl (aB (gL aa rfl ?_)))))));refine aB (nJ free ?_);rintro _ l ⟨rfl,rfl⟩;simp only[hU];refine aB (gU (aB (eJ J rfl (x:=.ref TO) rfl (aB (jL J (by simp) λC S d=>?_)))));simp only[List.zipIdx_cons,List.zipIdx_nil,lW,List.forIn_nil,bind_assoc];refine aB (back (aB (nJ (go C S d) λx T ⟨D,g2⟩=>aD ?_)));refine aB (aB (gL D rfl (aB (wpAny_updateSeq_pair D λI O M=>aB (wpAny_letGo (aD ?_))))));refine aB (aB (back (aB (nJ (g2 I O M) λy U ⟨F,K⟩=>aD ?_))));refine aB (aB (gL F rfl (aB (wpAny_updateSeq_pair F λj G N=>aB (wpAny_letGo (aD (aD ?_)))))));obtain⟨H,fin⟩:=K j G N;have i:z<j.objs.size:=aV H;refine aB (gL G rfl (aB (wpAny_newTuple ?_ (hsz:=(show 2<=sizeLine by decide)))));have V:vO (j.push (seqObj "tuple" #[x,y] 0)) z TI TO .ellipsis f:=aK _ H;refine aB (show wpAny _ _ (setField (.ref z) 0 (rawInt j.objs.size) >>= λ_=>setField (.ref z) 1 (.bool false)) _ _ _ from aB (jL V (by simp) λY W u=>jL W (by simp) λt X B=>?_));have up:∀ c o,c≠z->(j.push (seqObj "tuple" #[x,y] 0)).get? c=some o->t.get? c=some o:=λc o n e=>B.extBut _ _ n (u.extBut _ _ n e)
 refine aD ⟨_,rfl,fin t X (up _ _ (fS i) (bB _ rfl)) (by rw[B.1,u.1,dZ]) λc o n e=>up c o n (aK _ e)⟩
theorem Hl {TI TO:Ad}(j:IsZip s.heap z TI TO .none):wpAny (model g w) A (Builtin.SmallTypes.ownedTupleIsFree (.ref z)) (λx l=>x=true/\l=s) E s:=aB (eJ j rfl (x:=.none) rfl (aD ⟨rfl,rfl⟩))
end
def C0 (a b:Ac):Obj:={ cls:=.type "tuple",data:=.seq #[a,b] }
def S4 (a b:Ad):Obj:={ cls:=.type "zip",data:=.fields #[.none,.bool false,.bool false,.ref a,.ref b] }
end PySem
namespace L2
open PySem PySem.Spec PyProof.Rows Lw
section
variable {X:Cx}{K:nH}
def vo (i:Nat):nV:=λ_ a b=>match a[i]? with
 | some (.o d)=>b (.o d) (a.set i .n)
 | _=>False
theorem wY (i:Nat) (h:PE X (.Name x pos) (qO i)):PD X (.Name x pos) (vo i):=h.mono λG H Q q=>q.elim λB E T F m hd c k=>by
 unfold vo at c;cases f:E[i]? with
 | none=>rw[f] at c;exact False.elim c
 | some s =>
 rw[f] at c;cases s<;>first | exact False.elim c | skip
 .rename_i d
  obtain⟨a,y,b,t,_,z,e⟩:=uH m f;have u:=e .n y;rw[zY t] at u;obtain⟨v,w,_⟩:=hd.peek m (d:=d) (i:=i) (by unfold at?;rw[f];rfl);rw[t] at w;cases w;refine⟨v,t,k _ _ v H (by rw[aY];exact m) ?_ c⟩;rw[z,bL,cT] at hd;rw[u,bL,cT];have d1:DS X.K B ((.o d,some v)::(a++(b++T))) H:=hd.perm jA;have d2:DS X.K B (((.o d,some v)::a)++(Sl.n,some v)::(b++T)) H:=DS.pushN (L1:=(.o d,some v)::a) (L2:=b++T) d1 (some v);refine d2.perm ?_;have A:(((Sl.o d,some v)::a)++(Sl.n,some v)::(b++T)).Perm ((Sl.o d,some v)::(a++(Sl.n,some v)::b++T)):=by simp
  refine A.trans ?_;have D:((Sl.o d,some v)::(a++(Sl.n,some v)::b++T)).Perm ((a++(Sl.n,some v)::b)++(Sl.o d,some v)::T):=jA.symm;refine D.trans (by simp)
end
end L2
namespace Lw
open PySem L2
def vT (t:sB):Aa (gV×V):=t.map λp=>(Sum.inr p.1,V.int p.2)
theorem CJ {K:nH}:∀ (t:sB) (g:Aa (gV×V)),(hL t).map (·.1)=g.map (·.1)->Reps K A H ((hL t).map (·.2)) (g.map (·.2))->g=vT t:=λt=>by
 induction t with
 | nil =>
  intro g k r;cases g with
  | nil=>rfl
  | cons p q=>simp[hL] at k
 | cons p t d =>
  intro g k r;cases g with
  | nil=>simp[hL] at k
  | cons q g =>
   obtain⟨e,i⟩:=q;simp only[hL,aN,iL] at k r;cases r with
   | cons f h =>
    have a:=d g k.2 h;have b:=f.int_inv;have c:Sum.inr p.1=e:=k.1;subst a b c;rfl
theorem Vv {K:nH}(h:Rep K A H (.k (hL t)) v):∃ a,v = .ref a/\A a/\Rd H a (.k (vT t)):=by
 obtain⟨a,b,rfl,c,e,k,r⟩:=h.dK_inv;exact⟨a,rfl,c,by rw[<- CJ t b k r];exact e⟩
end Lw
namespace PySem
open PyProof.Rows L2
def oI (b:Bool) (h:Ag) (g t:Ad) (i:Nat):Prop:=match b with
 | true=>h.IsTupleIter g t i
 | false=>h.IsListIter g t i
def oP (b:Bool) (h:Ag) (a:Ad) (g:Array Ac):Prop:=match b with
 | true=>h.IsTuple a g
 | false=>h.IsList a g
theorem qG (x:oI b h g t i) (k:∀ o,h.get? g=some o->j.get? g=some o):oI b j g t i:=by
 cases b
 .exact let ⟨o,e,r⟩:=(show h.IsListIter g t i from x);⟨o,k o e,r⟩
 .exact let ⟨o,e,r⟩:=(show h.IsTupleIter g t i from x);⟨o,k o e,r⟩
theorem rE (x:oP b h a g) (k:∀ o,h.get? a=some o->j.get? a=some o):oP b j a g:=by
 cases b
 .exact let ⟨o,e,r⟩:=(show h.IsList a g from x);⟨o,k o e,r⟩
 .exact let ⟨o,e,r⟩:=(show h.IsTuple a g from x);⟨o,k o e,r⟩
theorem xH (x:oI b h g t i):∃ o,h.get? g=some o:=by
 cases b
 .exact let ⟨o,e,_⟩:=(show h.IsListIter g t i from x);⟨o,e⟩
 .exact let ⟨o,e,_⟩:=(show h.IsTupleIter g t i from x);⟨o,e⟩
theorem yJ (x:oP b h a g):∃ o,h.get? a=some o:=by
 cases b
 .exact let ⟨o,e,_⟩:=(show h.IsList a g from x);⟨o,e⟩
 .exact let ⟨o,e,_⟩:=(show h.IsTuple a g from x);⟨o,e⟩
section
theorem Bv (I:oI b s.heap j t i) (T:oP b s.heap t l) (o:l[i]?=some x) (q:∀ g,oI b g j t (i+1)->Heap.SameBut j s.heap g->Q x { s with heap:=g }) :
  wpAny (model p w) A (Builtin.SmallTypes.nextOf (.ref j)) Q E s:=by
 cases b
 .exact wpAny_nextOf_list_item I T o q
 .exact X9 I T o q
theorem E9 (calm:A.handled=none) (I:oI b s.heap p t i) (T:oP b s.heap t j) (l:j[i]?=none)
  (q:∀ g e,Heap.ExtBut p s.heap g->(∃ o,g.get? e=some o/\o.cls = .type "StopIteration")->E (.ref e) { s with heap:=g }):wpAny (model r w) A (Builtin.SmallTypes.nextOf (.ref p)) Q E s:=by
 cases b
 .exact wpAny_nextOf_list_end calm I T l q
 .exact BH calm I T l q
theorem Lo {J T:Bool}{z TI TO j l C I:Ad}{k1 k2:Nat}{xs ys:Array Ac}{x y a b:Ac}{x0:Ac}{f:Bool}{Q:Ab Ac->Ae->Prop}(D:ZipApart z TI TO j l C I) (hz:vO s.heap z TI TO x0 f) (free:∀ (A:Around) (E:Ac->Ae->Prop),wpAny (model r w) A (Builtin.SmallTypes.ownedTupleIsFree (.ref z)) (λx s'=>x=true/\s'=s) E s) (U:IsPair s.heap TI (.ref j) (.ref l)) (aa:IsPair s.heap TO a b)
  (h1:oI J s.heap j C k1) (h2:oI T s.heap l I k2) (ab:oP J s.heap C xs) (ac:oP T s.heap I ys) (hx:xs[k1]?=some x) (hy:ys[k2]?=some y)
  (ae:∀ g,IsZip g z TI TO (rawInt s.heap.objs.size)->IsPair g TO x y->oI J g j C (k1+1)->oI T g l I (k2+1)->IsPair g s.heap.objs.size x y->g.objs.size=s.heap.objs.size+1 ->(∀ c o,c≠z->c≠TO->c≠j->c≠l->s.heap.get? c=some o->g.get? c=some o)->Q (some (.ref s.heap.objs.size)) { s with heap:=g }):wpAny (model r w) A (pyNext (.ref z)) Q E s:=by
 have ty:s.TypeIs (.ref z) "zip" := ⟨_,hz,rfl⟩;unfold pyNext;refine aB (eZ (bX (name:=Str.ofString "__next__") ty dP (cK dP ty jD (Mz (p:=a) (q:=b) hz (free _ _) U λg1 Z h=>?_) (iQ _))));have d:∀ c o,c≠z->s.heap.get? c=some o->g1.get? c=some o:=λc o n e=>h.extBut _ _ n e
 refine Bv (qG h1 λo e=>d _ o D.i1z e) (rE ab λo e=>d _ o D.l1z e) hx λg2 V i=>?_
 have k:∀ c o,c≠j->g1.get? c=some o->g2.get? c=some o:=λc o n e=>i.extBut _ _ n e
 refine⟨k _ _ D.TOi1 (d _ _ D.TOz aa),λg3 X K=>?_⟩;have m:∀ c o,c≠TO->g2.get? c=some o->g3.get? c=some o:=λc o n e=>K.extBut _ _ n e
 refine Bv (qG h2 λo e=>m _ o D.TOi2.symm (k _ o D.i12.symm (d _ o D.i2z e))) (rE ac λo e=>m _ o D.l2TO (k _ o D.l2i1 (d _ o D.l2z e))) hy λG W L=>?_
 have u:∀ c o,c≠l->g3.get? c=some o->G.get? c=some o:=λc o n e=>L.extBut _ _ n e
 refine⟨u _ _ D.TOi2 X,λH Y M=>?_⟩;have v:∀ c o,c≠TO->G.get? c=some o->H.get? c=some o:=λc o n e=>M.extBut _ _ n e
 have sz:H.objs.size=s.heap.objs.size:=by rw[M.1,L.1,K.1,i.1,h.1]
 refine⟨v _ _ D.TOz.symm (u _ _ D.i2z.symm (m _ _ D.TOz.symm (k _ _ D.i1z.symm Z))),λg N O P t=>?_⟩;rw[sz] at N O P |-;refine aD (ae g N (t _ _ D.TOz Y) (qG V λo e=>t _ o D.i1z (v _ o D.TOi1.symm (u _ o D.i12 (m _ o D.TOi1.symm e)))) (qG W λo e=>t _ o D.i2z (v _ o D.TOi2.symm e)) O P λc o B F R S e=>?_);exact t c o B (v c o F (u c o S (m c o F (k c o R (d c o B e)))))
theorem L7 {b1 r:Bool}{z TI TO l J l1 l2:Ad}{k1 k2:Nat}{xs ys:Array Ac}{a b:Ac}{x0:Ac}{f:Bool}{Q:Ab Ac->Ae->Prop}(calm:A.handled=none) (D:ZipApart z TI TO l J l1 l2) (hz:vO s.heap z TI TO x0 f) (free:∀ (A:Around) (E:Ac->Ae->Prop),wpAny (model j w) A (Builtin.SmallTypes.ownedTupleIsFree (.ref z)) (λx s'=>x=true/\s'=s) E s) (aa:IsPair s.heap TI (.ref l) (.ref J)) (ab:IsPair s.heap TO a b)
  (h1:oI b1 s.heap l l1 k1) (h2:oI r s.heap J l2 k2) (I:oP b1 s.heap l1 xs) (ac:oP r s.heap l2 ys) (C:xs[k1]?=none\/ys[k2]?=none)
  (ae:∀ U,(∀ c o,c≠z->c≠TO->c≠l->c≠J->s.heap.get? c=some o->U.get? c=some o)->Q none { s with heap:=U }):wpAny (model j w) A (pyNext (.ref z)) Q E s:=by
 have ty:s.TypeIs (.ref z) "zip" := ⟨_,hz,rfl⟩;have h:∀ (g:Ag) (e:Ad),(∀ c o,c≠z->c≠TO->c≠l->c≠J->s.heap.get? c=some o->g.get? c=some o)->(∃ o,g.get? e=some o/\o.cls = .type "StopIteration")->vO g z TI TO .ellipsis f ->
   He z TI TO f (λe s'=>wpAny (model j w) A (do if <- isInstance e (.type "StopIteration") then pure none else throw e) Q E s') (.ref e) { s with heap:=g }:=λg e k ⟨o,K,M⟩ P=>by
  refine⟨P,λU N=>?_⟩;have ne:e≠z:=λq=>by
   rw[q,P] at K;cases K;injection M with y;exact absurd y (by decide)
  exact aB (eE (T := "StopIteration") (b:=true) ⟨o,N.extBut _ _ ne K,M⟩ mI (aD (ae U λc o i B m F q=>N.extBut _ _ i (k c o i B m F q))))
 unfold pyNext;refine aB (eZ (bX (name:=Str.ofString "__next__") ty dP (cK dP ty jD (Mz (p:=a) (q:=b) hz (free _ _) aa λg1 O G=>?_) (iQ _))));have d:∀ c o,c≠z->s.heap.get? c=some o->g1.get? c=some o:=λc o n e=>G.extBut _ _ n e
 rcases Option.eq_none_or_eq_some xs[k1]? with t | ⟨x,t⟩
 .exact E9 calm (qG h1 λo e=>d _ o D.i1z e) (rE I λo e=>d _ o D.l1z e) t λg2 e r W=>h g2 e (λc o i _ m _ q=>r c o m (d c o i q)) W (r _ _ D.i1z.symm O)
 .refine Bv (qG h1 λo e=>d _ o D.i1z e) (rE I λo e=>d _ o D.l1z e) t λg2 Y H=>?_
  have u:∀ c o,c≠l->g1.get? c=some o->g2.get? c=some o:=λc o n e=>H.extBut _ _ n e
  refine⟨u _ _ D.TOi1 (d _ _ D.TOz ab),λg3 Z V=>?_⟩;have v:∀ c o,c≠TO->g2.get? c=some o->g3.get? c=some o:=λc o n e=>V.extBut _ _ n e
  have R:ys[k2]?=none:=C.elim (λn=>by rw[n] at t;cases t) id;exact E9 calm (qG h2 λo e=>v _ o D.TOi2.symm (u _ o D.i12.symm (d _ o D.i2z e))) (rE ac λo e=>v _ o D.l2TO (u _ o D.l2i1 (d _ o D.l2z e))) R λS e L X=>h S e (λc o i B m F q=>L c o F (v c o B (u c o m (d c o i q)))) X (L _ _ D.i2z.symm (v _ _ D.TOz.symm (u _ _ D.i1z.symm O)))
end
section
theorem O6 {I J:Bool}{z TI TO T j l r C:Ad}{U k2:Nat}{f:Bool}{oT:Obj}{xs ys:Array Ac}{x y:Ac}{Q:Ac->Ae->Prop}(D:ZipApart z TI TO j l r C)
  (hz:wL s.heap z TI TO T f) (hT:s.heap.get? T=some oT) (aa:IsPair s.heap TI (.ref j) (.ref l))
  (h1:oI I s.heap j r U) (h2:oI J s.heap l C k2) (ab:oP I s.heap r xs) (ac:oP J s.heap C ys) (hx:xs[U]?=some x) (hy:ys[k2]?=some y)
  (hQ:∀ g,wL g z TI TO T true->oI I g j r (U+1)->oI J g l C (k2+1)->IsPair g s.heap.objs.size x y->g.objs.size=s.heap.objs.size+1 ->(∀ c o,c≠z->c≠j->c≠l->s.heap.get? c=some o->g.get? c=some o)->Q (.ref s.heap.objs.size) { s with heap:=g }) :
  wpAny (model ae w) A (Builtin.«zip.__next__» ⟨[.ref z],[]⟩) (λfin s'=>∃ v,fin = .done (.ret v)/\Q v s') E s:=by
 refine Nv hz hT aa λd K m=>?_
 have up1:∀ c o,c≠z->s.heap.get? c=some o->d.get? c=some o:=λc o n e=>m.extBut _ _ n e
 have there:oI I d j r U/\oI J d l C k2/\oP I d r xs/\oP J d C ys:=⟨qG h1 λo e=>up1 _ o D.i1z e,qG h2 λo e=>up1 _ o D.i2z e,rE ab λo e=>up1 _ o D.l1z e,rE ac λo e=>up1 _ o D.l2z e⟩;refine Bv there.1 there.2.2.1 hx λk G q=>?_
 have a:∀ c o,c≠j->d.get? c=some o->k.get? c=some o:=λc o n e=>q.extBut _ _ n e
 refine Bv (qG there.2.1 λo e=>a _ o D.i12.symm e) (rE there.2.2.2 λo e=>a _ o D.l2i1 e) hy λh H t=>?_
 have b:∀ c o,c≠l->k.get? c=some o->h.get? c=some o:=λc o n e=>t.extBut _ _ n e
 have i:h.objs.size=s.heap.objs.size:=t.1.trans (q.1.trans m.1);have more:∀ {c:Ad} {o p:Obj},h.get? c=some o->(h.push p).get? c=some o:=λe=>aK _ e
 refine wpAny_newTuple ⟨_,rfl,?_⟩ (hsz:=(show 2<=sizeLine by decide));have last:=hQ (h.push (seqObj "tuple" #[x,y] 0)) (more (b _ _ D.i2z.symm (a _ _ D.i1z.symm K))) (qG G λo e=>more (b _ o D.i12 e)) (qG H λo e=>more e) (i▸bB _ rfl) ((dZ ..).trans (by rw[i]))
  λc o u B F e=>more (b _ _ F (a _ _ B (up1 _ _ u e)))
 rw[<- i] at last;exact last
theorem S2 {TI TO:Ad}(hh:A.handled=none) (D:ZipApart z TI TO j U l l2)
  (hz:wL s.heap z TI TO T f) (hT:s.heap.get? T=some oT) (C:IsPair s.heap TI (.ref j) (.ref U))
  (h1:oI p s.heap j l k1) (h2:oI b2 s.heap U l2 k2) (I:oP p s.heap l xs) (J:oP b2 s.heap l2 ys) (g:xs[k1]?=none\/ys[k2]?=none)
  (hE:∀ r e,(∀ c o,c≠z->c≠j->c≠U->s.heap.get? c=some o->r.get? c=some o)->(∃ o,r.get? e=some o/\o.cls = .type "StopIteration")->E (.ref e) { s with heap:=r }) :
  wpAny (model aa w) A (Builtin.«zip.__next__» ⟨[.ref z],[]⟩) Q E s:=by
 refine Nv hz hT C λi M F=>?_
 have up1:∀ c o,c≠z->s.heap.get? c=some o->i.get? c=some o:=λc o n e=>F.extBut _ _ n e
 have there:oI p i j l k1/\oP p i l xs:=⟨qG h1 λo e=>up1 _ o D.i1z e,rE I λo e=>up1 _ o D.l1z e⟩;rcases Option.eq_none_or_eq_some xs[k1]? with b | ⟨x,b⟩
 .exact E9 hh there.1 there.2 b λk e t H=>hE k e (λc o d h _ q=>t c o h (up1 c o d q)) H
 .refine Bv there.1 there.2 b λk L G=>?_
  have a:∀ c o,c≠z->c≠j->s.heap.get? c=some o->k.get? c=some o:=λc o n m e=>G.extBut _ _ m (up1 c o n e)
  have y:ys[k2]?=none:=g.elim (λn=>by rw[n] at b;cases b) id;exact E9 hh (qG h2 λo e=>a _ o D.i2z D.i12.symm e) (rE J λo e=>a _ o D.l2z D.l2i1 e) y λB e u K=>hE B e (λc o d h v q=>u c o v (a c o d h q)) K
theorem BS {TI TO:Ad}(D:ZipApart z TI TO r C U l2)
  (j:Df s.heap z TI TO r C) (I:oI b1 s.heap r U k) (J:oI b2 s.heap C l2 k) (l:oP b1 s.heap U xs) (p:oP b2 s.heap l2 ys) (hx:xs[k]?=some x) (hy:ys[k]?=some y)
  (hQ:∀ g,Df g z TI TO r C->oI b1 g r U (k+1)->oI b2 g C l2 (k+1)->IsPair g s.heap.objs.size x y->g.objs.size=s.heap.objs.size+1 ->(∀ c o,c≠z->c≠TO->c≠r->c≠C->s.heap.get? c=some o->g.get? c=some o)->Q (some (.ref s.heap.objs.size)) { s with heap:=g }) :
  wpAny (model aa w) A (pyNext (.ref z)) Q E s:=by
 obtain⟨d,⟨a,b,i⟩,j⟩:=j;obtain⟨V,P⟩:=xH I;obtain⟨W,R⟩:=xH J;have q:∀ {c o},s.heap.get? c=some o->s.heap.objs.size≠c:=λe=>(bG (aV e)).symm
 rcases j with j | ⟨T,f,o,j,F,G,S,H,K⟩
 .refine Lo D j (λ_ _=>Hl j) d i I J l p hx hy λg t L u v n B h=>?_
  exact hQ g ⟨h _ _ D.TIz D.TITO D.TIi1 D.TIi2 d,⟨_,_,L⟩,.inr ⟨_,false,_,t,n,q j,q i,q P,q R⟩⟩ u v n B h
 .have m:s.TypeIs (.ref z) "zip" := ⟨_,j,rfl⟩;unfold pyNext;refine aB (eZ (bX (name:=Str.ofString "__next__") m dP (cK dP m jD (O6 D j F d I J l p hx hy λg t u v n B h=>aD ?_) (iQ _))));exact hQ g ⟨h _ _ D.TIz D.TIi1 D.TIi2 d,⟨_,_,h _ _ D.TOz D.TOi1 D.TOi2 i⟩,.inr ⟨T,true,_,t,h _ _ G H K F,G,S,H,K⟩⟩ u v n B λc o M _ N O e=>h c o M N O e
theorem Xv {TI TO:Ad}(hh:A.handled=none) (D:ZipApart z TI TO C I l1 l2)
  (g:Df s.heap z TI TO C I) (J:oI b1 s.heap C l1 k) (U:oI b2 s.heap I l2 k) (l:oP b1 s.heap l1 xs) (p:oP b2 s.heap l2 ys) (j:xs[k]?=none\/ys[k]?=none)
  (hQ:∀ r,(∀ c o,c≠z->c≠TO->c≠C->c≠I->s.heap.get? c=some o->r.get? c=some o)->Q none { s with heap:=r }):wpAny (model aa w) A (pyNext (.ref z)) Q E s:=by
 obtain⟨d,⟨a,b,i⟩,g⟩:=g;rcases g with g | ⟨T,f,o,g,t,y,B,F,G⟩
 .exact L7 hh D g (λ_ _=>Hl g) d i J U l p j hQ
 .have h:s.TypeIs (.ref z) "zip" := ⟨_,g,rfl⟩;unfold pyNext;refine aB (eZ (bX (name:=Str.ofString "__next__") h dP (cK dP h jD (S2 hh D g t d J U l p j λr e hk v=>?_) (iQ _))));obtain⟨o,x,u⟩:=v;refine aB (eE (T := "StopIteration") (b:=true) ⟨o,x,u⟩ mI ?_);exact aD (hQ _ λc o m _ n q e=>hk c o m n q e)
end
section
variable {K:Type} [DecidableEq K] {knd:KeyKind prog w K}{A:Around}{R:Result->Ae->Prop}
theorem W3 {TI TO:Ad}(hh:A.handled=none) (D:ZipApart z TI TO l p I J) (hd:d∉[z,TI,TO,l,p,I,J]) (more:Aa (K×Ac)) (hn:more.length=min U.size ys.size) (j:more.length<=sizeLine)
  (hT:∀ (i:Nat) x y,U[i]?=some x->ys[i]?=some y->∃ k,knd.is k x=true/\more[i]?=some (k,y)) (h0:Ag) :
  ∀ (m i:Nat) (s:Ae),more.length-i=m->i<=more.length->Df s.heap z TI TO l p->oI r s.heap l I i->oI C s.heap p J i->oP r s.heap I U->oP C s.heap J ys->(∀ b o,b∉[z,TO,l,p,d]->h0.get? b=some o->s.heap.get? b=some o)->s.heap.DictOf knd d (merged [] (more.take i)) ->
   (∀ g tk,(∀ b o,b∉[z,TO,l,p,d]->h0.get? b=some o->g.get? b=some o)->g.DictOf knd d (merged [] more)->R (.ok (.ret .none)) { s with heap:=g,toks:=tk }) ->
   codeAny (model prog w) A (.builtin "dict.update.loop" ⟨[.ref d,.ref z,.int (i:Int) 0,.none],[]⟩) R s:=by
 simp only[aI,bC,dY,mQ] at hd;obtain⟨d1,d2,S,V,W,d6,d7⟩:=hd;have na:∀ {b:Ad},b∉[z,TO,l,p,d]->b≠z/\b≠TO/\b≠l/\b≠p/\b≠d:=λj=>by
  simpa only [aI,bC,dY,mQ] using j
 intro m;induction m with
 | zero =>
  intro i s hm hi hz Z h2 c h kp H hR;have ei:i=more.length:=by omega
  subst ei;rw[bI (aU _)] at H;refine gB Hh ?_;rw[eO xX _];show wpAny _ A.in1 (pyNext (.ref z) >>= _) _ _ s;refine aB (Xv (by simpa using hh) D hz Z h2 c h ?_ λg B=>?_)
  .rcases Nat.le_total U.size ys.size with q | q
   .exact .inl (jK (by omega))
   .exact .inr (jK (by omega))
  .show wpAny _ A.in1 (Builtin.Dict.addKeywords d [] >>= _) _ _ _;refine aB (aD ?_);obtain⟨o,F,E,u,rest⟩:=H;exact aD (hR g _ (λb o j e=>let ⟨r,C,P,Q,b5⟩:=na j;B b o r C P Q (kp b o j e)) ⟨o,F,E,B d _ d1 S V W u,rest⟩)
 | succ m ih =>
  intro i s hm hi hz Z h2 c h kp H hR;have ab:i<more.length:=by omega
  obtain⟨x,hx⟩:∃ x,U[i]?=some x:=⟨_,cJ (by omega)⟩;obtain⟨y,hy⟩:∃ y,ys[i]?=some y:=⟨_,cJ (by omega)⟩;obtain⟨ky,N,t⟩:=hT i x y hx hy;refine gB Hh ?_;rw[eO xX _];show wpAny _ A.in1 (pyNext (.ref z) >>= _) _ _ s;refine aB (BS D hz Z h2 c h hx hy λg z' ac ae pr sz B=>?_);have aa:g.DictOf knd d (merged [] (more.take i)):=by
   obtain⟨o,F,E,u,rest⟩:=H;exact⟨o,F,E,B d _ d1 S V W u,rest⟩
  have af:oP r g I U:=rE c λo e=>B I o D.l1z D.l1TO D.l1i1 D.l1i2 e
  have ag:oP C g J ys:=rE h λo e=>B J o D.l2z D.l2TO D.l2i1 D.l2i2 e
  have pd:s.heap.objs.size≠d:=by
   obtain⟨o,F,E,u,rest⟩:=H;exact (bG (aV u)).symm
  show wpAny _ A.in1 (holding [Value.ref s.heap.objs.size] _ >>= _) _ _ _;refine aB (bW ?_);refine aB (wpAny_tryCatch ?_);unfold Builtin.Dict.pairItems;refine aB (hX (T := "tuple") ⟨_,pr,rfl⟩ ?_);rw[aP (by decide)];refine aB (gL pr rfl ?_);refine aD ?_;show wpAny _ A.in1 (holding [x,y] (dictSet d x y)) _ _ _;refine bW ?_;have v:(merged [] (more.take i)).length<=sizeLine:=by
   have X:=merged_length_le ([]:Aa (K×Ac)) (more.take i);rw[kM,bN] at X;omega
  refine wpAny_dictSet_pairs (hsz:=v) N aa λG n sb=>?_
  rw[<- merged_take_succ [] more i (ky,y) t] at n;refine aD ⟨jQ xX _,?_⟩;have X:(rawInt ((i:Int)+1))=Value.int ((i+1:Nat):Int) 0:=by rfl
  rw[X];have up:∀ b o,b≠d->g.get? b=some o->G.get? b=some o:=λb o j e=>by rw[sb.2 b j];exact e
  have zz:Df G z TI TO l p:=by
   obtain⟨p1,⟨a,b,p2⟩,p3⟩:=z';refine⟨up _ _ (fB d2) p1,⟨a,b,up _ _ (fB S) p2⟩,?_⟩;rcases p3 with p3 | ⟨T,f,o,q1,q2,q3,q4,q5,q6⟩
   .exact .inl (up _ _ (fB d1) p3)
   .by_cases M:T=d
    .subst M;obtain⟨o',F,E,u,rest⟩:=n;exact .inr ⟨T,f,_,up _ _ (fB d1) q1,u,q3,q4,q5,q6⟩
    .exact .inr ⟨T,f,o,up _ _ (fB d1) q1,up _ _ M q2,q3,q4,q5,q6⟩
  refine ih (i+1) _ (by omega) ab zz (qG ac λo e=>up _ o (fB V) e) (qG ae λo e=>up _ o (fB W) e) (rE af λo e=>up _ o (fB d6) e) (rE ag λo e=>up _ o (fB d7) e) (λb o j e=>?_) n λY tk O L=>hR Y tk O L
  obtain⟨r,C,P,Q,b5⟩:=na j;exact up b o b5 (B b o r C P Q (kp b o j e))
theorem LV {TI TO:Ad}(hh:A.handled=none) (D:ZipApart z TI TO U i2 l1 l2)
  (T:IsZip s.heap z TI TO .none) (l:IsPair s.heap TI (.ref U) (.ref i2)) (C:IsPair s.heap TO .none .none) (h1:oI b1 s.heap U l1 0) (h2:oI b2 s.heap i2 l2 0) (I:oP b1 s.heap l1 xs) (J:oP b2 s.heap l2 ys)
  (hn:more.length=min xs.size ys.size) (g:more.length<=sizeLine) (hT:∀ (i:Nat) x y,xs[i]?=some x->ys[i]?=some y->∃ k,knd.is k x=true/\more[i]?=some (k,y))
  (h:∀ (j:Ag) (tk:Nat),j.DictOf knd s.heap.objs.size (merged [] more)->(∀ b o,b∉[z,TO,U,i2]->s.heap.get? b=some o->j.get? b=some o)->Q (.ref s.heap.objs.size) { s with heap:=j,toks:=tk }) :
  wpAny (model prog w) A (call (.type "dict") [.ref z]) Q E s:=by
 let d:=s.heap.objs.size;have made:(yV s).heap.DictOf knd d []:=Heap.DictOf.new s.heap;have old:∀ b o,s.heap.get? b=some o->(yV s).heap.get? b=some o:=λb o e=>aK _ e
 refine callType_codes F.kt_called_dict (F.kt_typeCall_dict_1 _) F.entry_dict_init (kt_code_dict_new _ (Q₁:=λv m=>v = .ref d/\m=yV s) ⟨rfl,rfl⟩) λv m q=>?_
 obtain⟨rfl,rfl⟩:=q;refine⟨made.typeIs,F.args_dict_init_2 _ _,W8 made.typeIs (old _ _ T) (by simp[hh]) λa tk e x=>⟨jQ xX _,?_⟩⟩;have keeps:∀ b o,s.heap.get? b=some o->a.get? b=some o:=λb o e=>x.keeps _ _ (old b o e)
 obtain⟨M,B⟩:=xH h1;obtain⟨N,G⟩:=xH h2;obtain⟨O,H⟩:=yJ I;obtain⟨P,L⟩:=yJ J;have nd:∀ {b o},s.heap.get? b=some o->d≠b:=λe=>(bG (aV e)).symm
 have c:a.DictOf knd d []:=by
  obtain⟨o,t,n,p,r⟩:=made;exact⟨o,t,n,x.keeps _ _ p,r⟩
 refine W3 (knd:=knd) (by simp[hh]) D ?_ more hn g hT s.heap more.length 0 _ rfl (cG _) ⟨keeps _ _ l,⟨_,_,keeps _ _ C⟩,.inl (keeps _ _ T)⟩ (qG h1 λo e=>keeps _ o e) (qG h2 λo e=>keeps _ o e) (rE I λo e=>keeps _ o e) (rE J λo e=>keeps _ o e) (λb o _ e=>keeps b o e) (by simpa [merged] using c) λj f u fin=>?_
 .simp only[aI,bC,dY,mQ];exact⟨nd T,nd l,nd C,nd B,nd G,nd H,nd L⟩
 .refine⟨rfl,h j f fin λb o g e=>u b o (λq=>?_) e⟩;simp only[aI,bC,dY,mQ] at g q;rcases q with q | q | q | q | q
  .exact g.1 q
  .exact g.2.1 q
  .exact g.2.2.1 q
  .exact g.2.2.2 q
  .exact nd e q.symm
end
noncomputable def rB (b:Bool) (t:Ad):Obj:={ cls:=.type (match b with | true => "tuple_iterator" | false => "list_iterator"),data:=.fields #[.ref t,.int 0 0] }
theorem T8 (b:Bool) (e:h.get? g=some (rB b t)):oI b h g t 0:=by
 cases b
 .exact⟨_,e,rfl,rfl⟩
 .exact⟨_,e,rfl,rfl⟩
theorem Rq (T:oP b s.heap l j) (q:Q (.ref s.heap.objs.size) { s with heap:=s.heap.push (rB b l) }):wpAny (model g w) A (pyIter (.ref l)) Q E s:=by
 cases b
 .exact iM T q
 .exact wpAny_pyIter_tuple T q
def Se (g j:Bool) (h:Ag) (s t:Ad):Ag:=((((h.push (rB g s)).push (rB j t)).push (C0 (.ref h.objs.size) (.ref (h.push (rB g s)).objs.size))).push (C0 .none .none)).push (S4 ((h.push (rB g s)).push (rB j t)).objs.size (((h.push (rB g s)).push (rB j t)).push (C0 (.ref h.objs.size) (.ref (h.push (rB g s)).objs.size))).objs.size)
theorem CN (j p:Bool) (l m:Ad) (C I:Array Ac):Meets (Builtin.«zip.__new__» ⟨[.type "zip",.ref l,.ref m],[]⟩) (λ_ R s=>oP j s.heap l C/\oP p s.heap m I /\ ∀ r,r=Se j p s.heap l m->∀ n,n=s.heap.objs.size+4->R (.ok (.ret (.ref n))) { s with heap:=r }) :=
 .of_wp λf w A R s h=>by
  obtain⟨c,g,d,i,os⟩:=s;obtain⟨k,q,h⟩:=h;have under:=sub_zip;have a:oP j (Shared.heap ⟨c,g,d,i,os⟩) l C:=k;have b:oP p (Shared.heap ⟨c.push (rB j l),g,d,i,os⟩) m I:=rE q λo e=>aK _ e
  wp_walk using Rq a,Rq b
  refine⟨_,rfl,h _ rfl _ ?_⟩;rw[dZ,dZ,dZ,dZ]
section
theorem K3 (J:oP r s.heap l U) (T:oP C s.heap m ys)
  (q:∀ j,IsZip j (s.heap.objs.size+4) (s.heap.objs.size+2) (s.heap.objs.size+3) .none->IsPair j (s.heap.objs.size+2) (.ref s.heap.objs.size) (.ref (s.heap.objs.size+1))->IsPair j (s.heap.objs.size+3) .none .none ->oI r j s.heap.objs.size l 0->oI C j (s.heap.objs.size+1) m 0->j.objs.size=s.heap.objs.size+5->(∀ c o,s.heap.get? c=some o->j.get? c=some o)->Q (.ref (s.heap.objs.size+4)) { s with heap:=j }) :
  wpAny (model I w) A (call (.type "zip") [.ref l,.ref m]) Q E s:=by
 refine callType_new F.called_zip (by decide) (F.typeCall_zip_2 _ _) (F.newCall_zip_2 _ _) (λobj=>F.args_object_init_3 obj _ _) F.entry_zip_new (CN r C l m U ys) ⟨J,T,λj e n en=>?_⟩;subst e en;have d:(s.heap.push (rB r l)).objs.size=s.heap.objs.size+1:=dZ ..;have h:((s.heap.push (rB r l)).push (rB C m)).objs.size=s.heap.objs.size+2:=by rw[dZ,d]
 have i:∀ p,(((s.heap.push (rB r l)).push (rB C m)).push p).objs.size=s.heap.objs.size+3:=λp=>by rw[dZ,h]
 have k:∀ p q,((((s.heap.push (rB r l)).push (rB C m)).push p).push q).objs.size=s.heap.objs.size+4:=λp q=>by rw[dZ,i]
 have b:∀ (g:Ag) (o:Obj) (n:Nat),o.isFreed=false->g.objs.size=n->(g.push o).get? n=some o:=λg o n f e=>by rw[<- e];exact bB _ f
 have a:∀ {g:Ag} {o p:Obj} {c:Ad},g.get? c=some o->(g.push p).get? c=some o:=λe=>aK _ e
 unfold Se;rw[d,h,i];have z:=b ((((s.heap.push (rB r l)).push (rB C m)).push (C0 (.ref s.heap.objs.size) (.ref (s.heap.objs.size+1)))).push (C0 .none .none)) (S4 (s.heap.objs.size+2) (s.heap.objs.size+3)) _ rfl (k _ _);exact⟨⟨_,z,rfl⟩,q _ z (a (a (b _ _ _ rfl h))) (a (b _ _ _ rfl (i _))) (T8 r (a (a (a (a (bB _ rfl)))))) (T8 C (a (a (a (b _ _ _ rfl d))))) (by rw[dZ,k]) λc o e=>a (a (a (a (a e))))⟩
end
end PySem
namespace L2
open PySem PySem.Spec PyProof.Rows
def rG (b:Bool) (K:nH) (H:Hp) (a:Ad) (g:Aa V):Prop:=match b with
 | true=>nY K H a g
 | false=>dT K H a g
section
variable {X:Cx}
theorem Inv.seqB (I:Inv X j o H s) (h:rG b X.K H a l):∃ g:Aa Ac,nN l g/\oP b s.heap a g.toArray:=by
 cases b
 .obtain⟨g,r,p,_⟩:=I.list h;exact⟨g,r,p.isList⟩
 .obtain⟨g,r,p,_⟩:=I.tuple h;exact⟨g,r,p⟩
theorem Inv.seqB_inj (I:Inv X j p H s) (h:rG b X.K H a l) (g:rG b X.K H a o):l=o:=by
 cases b
 .exact I.list_inj h g
 .exact I.tuple_inj h g
theorem G2 (x:oI b h g t i):∃ o,h.get? g=some o/\∀ v,o.data ≠ .cell v:=by
 cases b
 .obtain⟨o,e,_,d⟩:=(show h.IsListIter g t i from x);exact⟨o,e,λv z=>by rw[d] at z;cases z⟩
 .obtain⟨o,e,_,d⟩:=(show h.IsTupleIter g t i from x);exact⟨o,e,λv z=>by rw[d] at z;cases z⟩
end
def Hz (g j:Bool) (K:nH) (a b:Ad):It :=
 ⟨λi H=>∃ c d x y,rG g K H a c/\rG j K H b d/\c[i]?=some x/\d[i]?=some y,λi H v e=>∃ p x y,H p=none/\v = .ref p/\e=upd H p (.t [x,y])/\(∀ c,rG g K H a c->c[i]?=some x)/\(∀ d,rG j K H b d->d[i]?=some y),λi H=>∃ c d,rG g K H a c/\rG j K H b d/\(c.length<=i\/d.length<=i)⟩
def JK (l o:Bool) (a b z TI TO g j:Ad) (i:Nat) (h:Ag):Prop:=IsZip h z TI TO .none/\IsPair h TI (.ref g) (.ref j)/\(∃ u v,IsPair h TO u v)/\oI l h g a i/\oI o h j b i
theorem ML {P:Ah}{K:nH}{TI TO:Ad}(D:ZipApart z TI TO i1 i2 a b) :
  Turn P w K (.Tuple ac x1 pos) (Hz b1 b2 K a b) [z,TI,TO,i1,i2] z (JK b1 b2 a b z TI TO i1 i2) where
 mem:=by simp
 obj:=λi h st c F=>by
  obtain⟨f,t,⟨u,v,A⟩,m,n⟩:=st;obtain⟨o4,m,d4⟩:=G2 m;obtain⟨o5,n,d5⟩:=G2 n;simp only[aI,bC,dY] at F;rcases F with e | e | e | e | e<;>subst e
  .exact⟨_,f,λv z=>nomatch z⟩
  .exact⟨_,t,λv z=>nomatch z⟩
  .exact⟨_,A,λv z=>nomatch z⟩
  .exact⟨_,m,d4⟩
  .exact⟨_,n,d5⟩
 keep:=λi h h' st k=>by
  obtain⟨f,t,⟨u,v,A⟩,m,n⟩:=st;exact⟨k z (by simp) _ f,k TI (by simp) _ t,⟨u,v,k TO (by simp) _ A⟩,qG m λo e=>k i1 (by simp) o e,qG n λo e=>k i2 (by simp) o e⟩
 item:=by
  intro X Y hw W F i L s σ H E I N st Z;subst Y hw W;obtain⟨f,t,⟨u,v,A⟩,m,n⟩:=st;obtain⟨xs,ys,x,y,O,Q,hx,hy⟩:=Z;obtain⟨l,U,r⟩:=I.seqB O;obtain⟨p,ry,py⟩:=I.seqB Q;obtain⟨ux,g,J⟩:=U.get hx;obtain⟨uy,j,T⟩:=ry.get hy;refine Lo D f (λ_ _=>Hl f) t A m n r py (x:=ux) (y:=uy) (by simpa using g) (by simpa using j) λh' n1 n2 n3 n4 n5 n6 n7=>?_
  refine⟨_,rfl,wpAny_letOwnedTupleGo_zip n1 λh2 m1 B=>?_⟩;have kp:∀ c o,c∉[z,TI,TO,i1,i2]->s.heap.get? c=some o->h2.get? c=some o:=λc o d e=>by
   simp only[aI,bC,dY,mQ] at d;obtain⟨M,e2,R,S,V⟩:=d;exact B.extBut c o M (n7 c o M R S V e)
  have zs:s.heap.objs.size≠z:=λe=>eR _ (by have:=aV f;rw[<- e] at this;exact this)
  have nt:vR h2 s.heap.objs.size [ux,uy].toArray:=⟨⟨_,B.extBut _ _ zs n5,rfl,_,rfl⟩,_,B.extBut _ _ zs n5,rfl⟩;have I2:=I.movedT (t':=s.toks) (ys:=[x,y]) N kp nt (.cons J (.cons T .nil)) (by show 2<=sizeLine;decide);refine⟨.ref s.heap.objs.size,_,I2,rfl,⟨_,x,y,I.fresh,rfl,rfl,λae C=>by rw[I.seqB_inj C O];exact hx,λaf C=>by rw[I.seqB_inj C Q];exact hy⟩,⟨m1,?_,⟨ux,uy,?_⟩,?_,?_⟩,λc d=>?_⟩
  .exact B.extBut _ _ D.TIz (n7 TI _ D.TIz D.TITO D.TIi1 D.TIi2 t)
  .exact B.extBut _ _ D.TOz n2
  .exact qG n3 λo e=>B.extBut _ o D.i1z e
  .exact qG n4 λo e=>B.extBut _ o D.i2z e
  .rw[gD]
   .exact (N c d).1
   .intro e;obtain⟨o,ho⟩:∃ o,s.heap.get? c=some o:=by
     obtain⟨o4,aa⟩:=xH m;obtain⟨o5,ab⟩:=xH n;simp only[aI,bC,dY] at d;rcases d with q | q | q | q | q<;>rw[q]
     .exact⟨_,f⟩
     .exact⟨_,t⟩
     .exact⟨_,A⟩
     .exact⟨_,aa⟩
     .exact⟨_,ab⟩
    have:=aV ho;rw[e] at this;exact eR _ this
 done:=by
  intro X Y hw W F i L s σ H E I N st Z;subst Y hw W;obtain⟨f,t,⟨u,v,A⟩,m,n⟩:=st;obtain⟨xs,ys,O,Q,G⟩:=Z;obtain⟨l,U,r⟩:=I.seqB O;obtain⟨p,ry,py⟩:=I.seqB Q;have lx:=U.length;have ly:=ry.length;refine L7 (I.ok.hd F) D f (λ_ _=>Hl f) t A m n r py ?_ λh' k=>⟨rfl,I.moved (t':=s.toks) N λc o d e=>?_⟩
  .rcases G with q | q
   .exact .inl (by simp;omega)
   .exact .inr (by simp;omega)
  .simp only[aI,bC,dY,mQ] at d;obtain⟨M,e2,R,S,V⟩:=d;exact k c o M R S V e
 self:=λ_ _ _ _ _ st h=>lQ st.1 h
section
variable {X:Cx}
def Ul (K:nH) (g:TA):TI:=λk H R=>g k H λf c=>∃ a b d e,f=[.ref a,.ref b]/\(∃ h,rG d K c a h)/\(∃ i,rG e K c b i)/\R (Hz d e K a b) c
theorem Zd (C:Gl X "zip") (J:X.mg "zip" = none) (r:PA X [j,g] U) (T:starEach [j,g] X.env=(false,eval j X.env)::starEach [g] X.env:=by rfl)
  (l:(backTo pos (starEach [g] X.env)).any (·.1)=false:=by rfl):PI X (.Tuple o x1 ps) (.Call (.Name "zip" p) [j,g] [] pos) (Ul X.K U):=by
 intro f s A H R I h;refine Call_ (wU I C J boot_zip (dL (nJ (r pos f s A H _ I h) λus d n=>?_) T l));obtain⟨vs,t,i,V,P⟩:=n;obtain⟨a,b,Z,b2,rfl,⟨xs,Q⟩,⟨ys,S⟩,q⟩:=P;obtain⟨u,v,rfl,W,Y⟩:=Bp V;cases W;cases Y;obtain⟨E,rx,y⟩:=i.seqB Q;obtain⟨F,ry,py⟩:=i.seqB S;have k:a<d.heap.objs.size:=by obtain⟨_,e⟩:=yJ y;exact aV e
 have m:b<d.heap.objs.size:=by obtain⟨_,e⟩:=yJ py;exact aV e
 refine K3 y py λD x G L M N n6 O=>?_
 have B:Inv X f A t { d with heap:=D }:=i.kept (t':=d.toks) O;refine lQ x ⟨_,[_,_,_,_,_],_,_,t,rfl,B,ML (a:=a) (b:=b) (i1:=d.heap.objs.size) (i2:=d.heap.objs.size+1) (z:=d.heap.objs.size+4) (TI:=d.heap.objs.size+2) (TO:=d.heap.objs.size+3) ?_,⟨x,G,⟨_,_,L⟩,M,N⟩,λc w=>?_,q⟩
 .constructor<;>first | exact bG k | exact bG m | exact bG (aR k (eF _ _)) | exact bG (aR m (eF _ _)) | exact fS k | exact fS m | exact fS (aR k (eF _ _)) | exact fS (aR m (eF _ _)) | exact (by show (_:Nat)≠_;omega)
 .simp only[aI,bC,dY] at w;rcases w with e | e | e | e | e<;>(subst e;exact i.fpOk (by omega) (i.hok.fresh (by omega)))
variable {K:nH}
def xY:D->Ab (Bool×Aa D)
 | .l a=>some (false,a)
 | .t a=>some (true,a)
 | _=>none
theorem Be (e:xY d=some (b,j)) (r:Rep K A H d v):∃ a g,v = .ref a/\rG b K H a g/\Reps K A H j g:=by
 cases d<;>first | cases e | skip
 .obtain⟨a,g,rfl,h,r⟩:=r.tup_inv;exact⟨a,g,rfl,nY.of h,r⟩
 .obtain⟨a,g,rfl,_,h,r⟩:=r.lst_inv;exact⟨a,g,rfl,dT.of h,r⟩
def wQ (g j:Aa D):Aa D:=g.zipWith (λx y=>D.t [x,y]) j
theorem Qb (g j:Aa D):(wQ g j).length=min g.length j.length:=eK
theorem IB {g j:Aa D}{i:Nat}{x y:D}(l:g[i]?=some x) (o:j[i]?=some y):(wQ g j)[i]?=some (.t [x,y]):=by
 unfold wQ;rw[List.getElem?_zipWith,l,o]
theorem Tq {d1 d2:D}(r:xY d1=some (g,l)) (C:xY d2=some (j,o)):YD K (Hz g j K a b) (wQ l o) [(.v d1,some (.ref a)),(.v d2,some (.ref b))]:=by
 have key:∀ A H,xJ K A H [(.v d1,some (.ref a)),(.v d2,some (.ref b))]->(∃ d,rG g K H a d/\Reps K A H l d)/\∃ c,rG j K H b c/\Reps K A H o c:=λA H ok=>by
  obtain⟨v,E,h⟩:=ok (.v d1,some (.ref a)) aF;obtain⟨u,F,k⟩:=ok (.v d2,some (.ref b)) (aH _ aF);cases E;cases F;obtain⟨N,d,G,e,s⟩:=Be r h;obtain⟨O,c,L,f,t⟩:=Be C k;cases G;cases L;exact⟨⟨d,e,s⟩,c,f,t⟩
 refine⟨rfl,λi H A m ok=>?_,λi H A x M m ok y=>?_,λi H A m ok=>?_⟩
 .obtain⟨⟨d,e,h⟩,c,f,k⟩:=key A H ok;rw[Qb,h.length,k.length] at m;exact⟨d,c,d[i]'(by omega),c[i]'(by omega),e,f,aE _,aE _⟩
 .obtain⟨⟨d,e,h⟩,c,f,k⟩:=key A H ok;obtain⟨p,R,S,w,rfl,rfl,z,B⟩:=y;obtain⟨P,n,s⟩:=h.getV (z d e);obtain⟨Q,q,t⟩:=k.getV (B c f);exact⟨_,IB n q,.inr ⟨p,_,_,w,rfl,rfl,rfl,.cons s (.cons t .nil)⟩⟩
 .obtain⟨⟨d,e,h⟩,c,f,k⟩:=key A H ok;rw[Qb,h.length,k.length] at m;exact⟨d,c,e,f,by omega⟩
def Ql (g:rL):wC:=λf i h=>g f i λas a=>match as with
 | [.t d1,.t d2]=>∃ d e b c,xY d1=some (d,b)/\xY d2=some (e,c)/\h (wQ b c) a
 | _=>False
theorem Iy (I:Gl X "zip") (J:X.mg "zip" = none) (C:rZ X [j,g] ta) (U:starEach [j,g] X.env=(false,eval j X.env)::starEach [g] X.env:=by rfl)
  (l:(backTo pos (starEach [g] X.env)).any (·.1)=false:=by rfl):xV X (.Tuple o x1 ps) (.Call (.Name "zip" p) [j,g] [] pos) (Ql ta) :=
 (Zd I J C U l).mono λA H R d=>d.elim λB z T G q hd s k=>⟨B,z,T,_,q,hd,s,λas e D i u ok d1 c=>by
  cases ok with
  | nil=>exact False.elim c
  | al _ ok=>exact False.elim c
  | t ok =>
   cases ok with
   | nil=>exact False.elim c
   | al _ ok=>cases ok<;>exact False.elim c
   | t ok =>
    cases ok with
    | al _ ok=>exact False.elim c
    | t ok=>exact False.elim c
    | nil =>
     obtain⟨m,n,E,F,f,h,c⟩:=c;have r:=d1.temps (σ:=A) (.t (.t .nil)) _ rfl;cases r with
     | cons v r =>
      cases r with
      | cons w r =>
       obtain⟨a,x,rfl,g1,_⟩:=Be f v;obtain⟨b,y,rfl,g2,_⟩:=Be h w;exact⟨a,b,m,n,rfl,⟨x,g1⟩,⟨y,g2⟩,k _ _ e [_,_] i u d1 (Tq f h) c⟩⟩
end
end L2
namespace L2
open PySem PySem.Spec PyProof.Rows Lw
section
variable {X:Cx}
def Z7 (K:nH) (g:TA):TE:=λi H Q=>g i H λh a=>∃ (e f:Bool) (l m:Ad) (b:Aa gV) (c:Aa V),h=[.ref l,.ref m]/\rG e K a l (b.map kV)/\rG f K a m c/\b.length<=1000/\∀ d,a d=none->Q (.ref d) (upd a d (.k (rQ [] (b.zip c))))
theorem HW (j:X.calm=true) (hg:Gl X "dict") (hm:X.mg "dict" = none) (r:Gl X "zip") (C:X.mg "zip" = none) (ha:PA X [a,b] ta)
  (hs:starEach [a,b] X.env=(false,eval a X.env)::starEach [b] X.env:=by rfl) (J:(backTo g (starEach [b] X.env)).any (·.1)=false:=by rfl) :
  PE X (.Call (.Name "dict" p) [.Call (.Name "zip" p') [a,b] [] g] [] pos) (Z7 X.K ta):=by
 intro z s σ H Q I h;refine iC (wU I hg hm boot_dict ?_ (by decide) (by decide));refine dL ?_ rfl rfl;show wpAny _ _ (spliced ((false,eval (.Call (.Name "zip" p') [a,b] [] g) X.env)::backTo pos (starEach [] X.env))) _ _ s;refine kR ?_;refine iC (wU I r C boot_zip ?_ (by decide) (by decide));refine dL (nJ (ha g z s σ H _ I h) λus B M=>?_) hs J;obtain⟨xs,H1,t,S,q1⟩:=M;obtain⟨b1,b2,l,m,c,E,rfl,hl,hv,hn,q⟩:=q1;obtain⟨Z,T,rfl,W,Y⟩:∃ Z T,us=[Z,T]/\nM (.ref l) Z/\nM (.ref m) T:=by
  cases S with | cons S V=>cases V with | cons V r3=>cases r3;exact⟨_,_,rfl,S,V⟩
 cases W;cases Y;obtain⟨N,r',R⟩:=t.seqB hl;obtain⟨f,A,n⟩:=t.seqB hv;refine K3 R n λD z1 z2 z3 z4 z5 z6 U=>?_
 refine Calls.spliced_nil ?_;have L1:=r'.length;have L2:=A.length;rw[aA] at L1;have F:=U0 c A;have O:l<B.heap.objs.size:=by obtain⟨_,e⟩:=yJ R;exact aV e
 have P:m<B.heap.objs.size:=by obtain⟨_,e⟩:=yJ n;exact aV e
 refine LV (knd:=oG X.prog X.w) (more:=c.zip f) (s:={ B with heap:=D }) (t.ok.hd j) (zipApart_new O P) z1 z2 z3 z4 z5 (rE R λo e=>U _ o e) (rE n λo e=>U _ o e) ?_ ?_ ?_ λh2 tk hD hk=>?_
 .rw[eS,aW,aW];omega
 .rw[eS];exact eT (bH (show min c.length f.length<=1000 by omega) (by decide))
 .intro i x y v G;have v:N[i]?=some x:=by simpa using v
  have G:f[i]?=some y:=by simpa using G
  obtain⟨hi,_⟩:=aG.mp v;obtain⟨u,hu,ru⟩:=r'.get (i:=i) (x:=kV (c[i]'(by omega))) (by simp[show i<c.length by omega]);rw[hu] at v;cases v;refine⟨c[i]'(by omega),yK ru,?_⟩;rw[gF];exact⟨aE _,G⟩
 .have L:(rQ [] (c.zip E)).length<=sizeLine:=by
   have h1:=El (c.zip E) [];rw[kM,eS] at h1;exact eT (bH (show (rQ [] (c.zip E)).length<=1000 by omega) (by decide))
  have d:B.heap.objs.size<=D.objs.size:=by omega
  have kp:∀ b o,B.heap.get? b=some o->h2.get? b=some o:=λb o e=>hk b o (λq=>by
   have:=aV e;simp only[aI,bC,dY] at q;rcases q with q | q | q | q<;>rw[q] at this<;>first | exact absurd this (eR _) | exact absurd this (Nat.not_lt.mpr (eF _ _))) (U b o e)
  refine⟨.ref D.objs.size,_,t.laid (a:=D.objs.size) (o:=.k (rQ [] (c.zip E))) (t':=tk) kp d ?_,rfl,q _ (t.hok.fresh d)⟩;exact Cs L (cY.mpr (fB (bG (aR t.big d)))) (F.merge .nil) hD
end
section
variable {X:Cx}{K:nH}
def Mt:OC:=λf h=>match f with
 | [d1,d2]=>∃ d e b c a,xY d1=some (d,b)/\xY d2=some (e,c)/\zF b=some a/\a.length<=1000/\h (.o (.k (sL [] (a.zip c))))
 | _=>False
theorem Ro (e:xY d=some (b,j)) (r:oF K A H d v):∃ a g,v = .ref a/\rG b K H a g/\Reps K A H j g:=by
 cases d<;>first | cases e | skip
 .obtain⟨a,g,rfl,h,r⟩:=Rep.tup_inv r;exact⟨a,g,rfl,nY.of h,r⟩
 .obtain⟨a,g,rfl,h,r⟩:=r.lst_inv;exact⟨a,g,rfl,dT.of h,r⟩
theorem BU:rM K (λC H Q=>∃ (o r:Bool) (l m:Ad) (g:Aa gV) (j:Aa V),C=[.ref l,.ref m]/\rG o K H l (g.map kV)/\rG r K H m j/\g.length<=1000/\∀ d,H d=none->Q (.ref d) (upd H d (.k (rQ [] (g.zip j))))) Mt:=by
 intro B L H h C M Q hd f c k
 match h,c with
 | [d1,d2],c =>
  obtain⟨x,y,rfl,u,py⟩:=C2 f;obtain⟨o,r,C,G,g,i,n,hk,t,c⟩:=c;obtain⟨a,F,rfl,q,z⟩:=Ro i u;obtain⟨b,j,rfl,s,A⟩:=Ro n py;have e:=Yh hk z;subst e;obtain⟨D,E⟩:=Uh g A;obtain⟨v,w⟩:=Ee (kvs:=[]) (vs:=[]) D E rfl .nil;exact⟨o,r,a,b,g,j,rfl,q,s,t,λp f=>k _ _ _ c (hd.dKF f v w)⟩
theorem Oy (g:X.calm=true) (I:Gl X "dict") (J:X.mg "dict" = none) (l:Gl X "zip") (o:X.mg "zip" = none) (C:rZ X [a,b] U)
  (T:starEach [a,b] X.env=(false,eval a X.env)::starEach [b] X.env:=by rfl) (r:(backTo j (starEach [b] X.env)).any (·.1)=false:=by rfl) :
  PD X (.Call (.Name "dict" p) [.Call (.Name "zip" p') [a,b] [] j] [] pos) (dC Mt U):=(HW g I J l o C T r).mono λ_ _ _ h=>Ie BU h
end
end L2
namespace Lw
open PySem L2
noncomputable def pT (w:Af) (bs:Aa Int):Int :=
 if w = "and" then (if bs.sum=bs.length then 1 else 0)
 else if w = "or" then (if bs.sum>0 then 1 else 0)
 else if w = "odd" then bs.sum%2
 else if w = "most" then (if bs.sum>=2 then 1 else 0)
 else if w = "not" then (if bs.sum=0 then 1 else 0)
 else if w = "one" then 1 else 0
def Bit (i:Int):Prop:=i=0\/i=1
theorem Jl (w:Af) (bs:Aa Int):Bit (pT w bs):=by
 unfold pT Bit;have:=fC bs.sum (show (2:Int)≠0 by decide);have:=dU bs.sum (show (0:Int)<2 by decide)
 repeat' split
 all_goals omega
theorem Jz:∀ {bs:Aa Int},(∀ b∈bs,Bit b)->0<=bs.sum/\bs.sum<=bs.length
 | [],_=>by simp
 | b::r,h=>by
  have a:=h b aF;have d:=Jz λx c=>h x (aH _ c)
  simp only[jR,bY];unfold Bit at a;omega
theorem Ot:∀ {bs:Aa Int},(∀ b∈bs,b=1)->bs.sum=bs.length
 | [],_=>by simp
 | b::r,h=>by
  have c:=h b aF;have d:=Ot λx a=>h x (aH _ a)
  simp only[jR,bY];omega
theorem Vd:∀ {bs:Aa Int},(∀ b∈bs,Bit b)->(0:Int)∈bs->bs.sum<bs.length
 | [],_,h=>by simp at h
 | b::r,h,d=>by
  have c:=h b aF;have a:∀ x∈r,Bit x:=λx f=>h x (aH _ f)
  have i:=Jz a;simp only[jR,bY];unfold Bit at c;rcases aI.mp d with e | e
  .omega
  .have:=Vd a e;omega
theorem P6:∀ {bs:Aa Int},(∀ b∈bs,Bit b)->(1:Int)∈bs->0<bs.sum
 | [],_,h=>by simp at h
 | b::r,h,d=>by
  have c:=h b aF;have a:∀ x∈r,Bit x:=λx f=>h x (aH _ f)
  have i:=Jz a;simp only[jR];unfold Bit at c;rcases aI.mp d with e | e
  .omega
  .have:=P6 a e;omega
theorem Ux:∀ {bs:Aa Int},(∀ b∈bs,b=0)->bs.sum=0
 | [],_=>by simp
 | b::r,h=>by
  have c:=h b aF;have d:=Ux λx a=>h x (aH _ a)
  simp only[jR];omega
theorem EL {bs:Aa Int}{m:Int}(g:∀ b∈bs,Bit b) (j:m∈bs) (l:∀ a∈bs,m<=a):m=if bs.sum=bs.length then 1 else 0:=by
 rcases g m j with e | e
 .subst e;have:=Vd g j;rw[aJ (by omega)]
 .subst e;have:∀ b∈bs,b=1:=λb c=>by
   have:=l b c;rcases g b c with q | q<;>omega
  rw[aP (Ot this)]
theorem LL {bs:Aa Int}{m:Int}(g:∀ b∈bs,Bit b) (j:m∈bs) (l:∀ a∈bs,a<=m):m=if bs.sum>0 then 1 else 0:=by
 rcases g m j with e | e
 .subst e;have:∀ b∈bs,b=0:=λb c=>by
   have:=l b c;rcases g b c with q | q<;>omega
  have:=Ux this;rw[aJ (by omega)]
 .subst e;have:=P6 g j;rw[aP (by omega)]
def tQ (j:Af->Int):Aa (Af×Af×Aa Af)->Af->Int
 | []=>j
 | g::r=>tQ (λx=>if x=g.1 then pT g.2.1 (g.2.2.map j) else j x) r
def Mu (j:Af->Int) (g:Af×Af×Aa Af):Af->Int:=λx=>if x=g.1 then pT g.2.1 (g.2.2.map j) else j x
theorem Mg:∀ (l:Aa (Af×Af×Aa Af)) (j:Af->Int) (g:Af×Af×Aa Af),tQ j (l++[g])=Mu (tQ j l) g
 | [],j,g=>rfl
 | a::r,j,g=>Mg r _ g
def rR (C:Cel) (g:Af->Int):Af->Int:=tQ g C.gates
theorem uJ.at:∀ {kn:Aa Af}{i:Nat}{g:Af×Af×Aa Af},uJ kn j->j[i]?=some g->ArOk g.2.1 g.2.2.length/\∀ p∈g.2.2,p∈kn++(j.take i).map (·.1):=by
 induction j with
 | nil=>intro kn i g _ h;simp at h
 | cons a r c =>
  intro kn i g h e;cases i with
  | zero=>simp at e;subst e;exact⟨h.1,by simpa using h.2.1⟩
  | succ i =>
   have:=c (kn:=kn++[a.1]) (i:=i) (g:=g) h.2.2 (by simpa using e);refine⟨this.1,λp b=>?_⟩;have q:=this.2 p b
   simpa using q
theorem AH (h:ArOk w n) (g:¬ w = "and") (j:¬ w = "or") (l:¬ w = "odd") (o:¬ w = "most") (p:¬ w = "not"):w = "one" \/ w = "nil" := by
 rcases h.ok with⟨q,_⟩ | ⟨q,_⟩ | ⟨q,_⟩ | ⟨q,_⟩ | ⟨q,_⟩
 .unfold wB at q;simp only[aI,bC,dY] at q;rcases q with e | e | e
  .exact absurd e g
  .exact absurd e j
  .exact absurd e l
 .exact absurd q o
 .exact absurd q p
 .exact .inl q
 .exact .inr q
theorem R7 (h:ArOk w n) (g:w = "and" \/ w = "or"):2<=n:=by
 rcases h.ok with⟨_,q | q⟩ | ⟨q,_⟩ | ⟨q,_⟩ | ⟨q,_⟩ | ⟨q,_⟩
 .omega
 .omega
 all_goals (rcases g with e | e<;>(rw[e] at q;exact absurd q (by decide +kernel)))
theorem GA (h:ArOk "not" n):n=1:=by
 rcases h.ok with⟨q,_⟩ | ⟨q,_⟩ | ⟨_,q⟩ | ⟨q,_⟩ | ⟨q,_⟩
 .exact absurd q (by decide +kernel)
 .exact absurd q (by decide +kernel)
 .exact q
 .exact absurd q (by decide +kernel)
 .exact absurd q (by decide +kernel)
structure GC (C:Cel):Prop where
 nd:C.names.Nodup
 gt:uJ C.ins C.gates
 os:∀ o∈C.outs,o∈C.names
 ond:C.outs.Nodup
 li:C.ins.length<=40
 lg:C.gates.length<=40
 lo:C.outs.length<=40
def rJ (g:Aa (gV×D)) (l:Aa Af) (j:Af->Int):Prop:=∀ x∈l,nU g (Sum.inr x)=some (.int (j x))/\Bit (j x)
theorem rJ.step {g:Aa (gV×D)}{j:Aa Af}{l:Af->Int}(h:rJ g j l){n:Af}{v:Int}(o:Bit v) (p:n∉j):rJ (oY g (Sum.inr n) (.int v)) (j++[n]) (λx=>if x=n then v else l x):=by
 intro x a;dsimp only;rw[B7];by_cases e:x=n
 .subst e;rw[aP rfl,aP rfl];exact⟨rfl,o⟩
 .rw[aJ (λz=>e (iB z).symm),aJ e];rcases aT.mp a with q | q
  .exact h x q
  .exact absurd (aO.mp q) e
def Gn:RD:=λd a c=>∃ (wd:Af) (bs:Aa Int),a=[.str wd,.l (bs.map D.int)]/\(∀ b∈bs,Bit b)/\ArOk wd bs.length/\c (.v (.int (pT wd bs)))
def IQ (g:Aa (gV×D)) (j:Aa Af):Prop:=∀ x∈j,∃ d,nU g (Sum.inr x)=some d
def Qf:RD:=λf c d=>∃ (b:Aa Af) (a:Aa (gV×D)),(c=[.t (b.map D.str),.k a]\/c=[.l (b.map D.str),.k a])/\IQ a b/\d (.v .e)
def Pr:RD:=λe c d=>∃ (C:Cel) (a:Aa (gV×D)) (b:Af->Int),c=[nK C,.k a]/\GC C/\rJ a C.ins b/\d (.v (.t (C.outs.map λo=>D.int (rR C b o))))
theorem Ao {g:Type} [DecidableEq g] {a b:g}{p q:Prop}(j:a=b->p) (l:¬ a=b->q):if (nb false (decide (a=b)))=true then p else q:=by
 by_cases e:a=b
 .rw[aP (by simp[nb,e])];exact j e
 .rw[aJ (by simp[nb,e])];exact l e
theorem Ht {c:Prop} [Decidable c] {p q:Prop}(g:c->p) (j:¬ c->q):if (decide c)=true then p else q:=by
 by_cases e:c
 .rw[aP (dD e)];exact g e
 .rw[aJ (by simp[e])];exact j e
theorem Ap (h:g.length<100000):yS (.k g) (.str x) d=some (.k (oY g (Sum.inr x) d)):=by
 simp only[yS,aP h];rfl
theorem Od (t:sB):(hL t).length=t.length:=by simp[hL]
theorem Xu:(["name","bits"]:Aa Af).Nodup:=by decide +kernel
theorem Wd:(["known","told"]:Aa Af).Nodup:=by decide +kernel
theorem Ws:(["name","told"]:Aa Af).Nodup:=by decide +kernel
section
variable {P:Ah}{K:nH}
theorem pU {P:Aa Af}(a:j.kind = .function:=by rfl) (b:j.isCoroutine=false:=by rfl) (c:j.isGenerator=false:=by rfl) (d:N.Nodup:=by decide +kernel) (e:N.take P.length=P:=by rfl) (f:∀ x∈P,j.names.lookup x=some .local\/j.names.lookup x=some .cell:=by decide +kernel) (g:∀ y∈j.names,y.2 ≠ .free:=by decide +kernel):L2.FnScope N P j:=⟨a,b,c,d,e,f,g⟩
theorem ME:FnScope ["word","bits"] ["word","bits"] (oB Fc):=pU
theorem ER (T:Txt g):pZ P w K g base 1 "gate_bit" Fc ["word","bits"] Gn:=by
 refine qI ME λf R A L s H E k o c h Y X=>?_
 obtain⟨wd,bs,rfl,y,ok,F⟩:=X;have fin:∀ z:Int,z=pT wd bs->c (.v (.int z)):=λz e=>by rw[e];exact F
 have a:=Bf bs;have st:∀ (e:Af) (t u:qL),(wd=e->t k { nx:=λ_=>c (.v .e),rt:=c } [.v (.str wd),.v (.l (bs.map D.int))])->(¬ wd=e->u k { nx:=λ_=>c (.v .e),rt:=c } [.v (.str wd),.v (.l (bs.map D.int))]) ->
   (∀ M N Q,M.rt=N.rt->t k M Q->t k N Q)->Ec (zE (vC (xE (Gm false) 0 (cd (.str e)))) t Jk) u k { nx:=λ_=>c (.v .e),rt:=c } [.v (.str wd),.v (.l (bs.map D.int))]:=λe t u S V W =>
  ⟨rfl,Ao (λz=>W { nx:=λ_=>c (.v .e),rt:=c } _ _ rfl (S z)) λz=>V z⟩
 refine⟨_,(hO (pL (rA (sJ h.units) (pK false) (pv 0) rX) (nQ (oJ (pG (Vo rfl) Yu T.min lM (eH (cN 1) hH)))) pN) (hO (pL (rA (sJ h.units) (pK false) (pv 0) rX) (nQ (oJ (pG (Kh rfl) Lh T.max lN (eH (cN 1) hH)))) pN) (hO (pL (rA (sJ h.units) (pK false) (pv 0) rX) (nQ (oJ (qQ rH Dg (pG (Ch rfl) Gp T.sum iG (eH (cN 1) hH)) nI))) pN) (hO (pL (rA (sJ h.units) (pK false) (pv 0) rX) (nQ (oJ (Nb (tL Np O7 (pG (Ch rfl) Gp T.sum iG (eH (cN 1) hH)) nI) nI nI))) pN) (hO (pL (rA (sJ h.units) (pK false) (pv 0) rX) (nQ (oJ (qQ A7 Hj nI (oA Y 1 nI)))) pN) (nQ (oJ (Nb (rA (sJ h.units) (pK false) (pv 0) rX) nI nI)))))))),?_⟩;refine st _ _ _ (λe=>⟨bs,a,?_,λm B x=>fin m ?_⟩) (λd=>?_) (λ_ _ _ e=>by unfold sR;rw[e];exact id)
 .have:=R7 ok (.inl e);intro z;rw[z] at this;simp at this
 .rw[EL y B x];unfold pT;rw[if_pos e]
 refine st _ _ _ (λe=>⟨bs,a,?_,λm B x=>fin m ?_⟩) (λi=>?_) (λ_ _ _ e=>by unfold sR;rw[e];exact id)
 .have:=R7 ok (.inr e);intro z;rw[z] at this;simp at this
 .rw[LL y B x];unfold pT;rw[if_neg d,if_pos e]
 refine st _ _ _ (λe=>⟨bs,a,by show (0:Int)<2;decide,fin _ ?_⟩) (λn=>?_) (λ_ _ _ e=>by unfold sR;rw[e];exact id)
 .unfold pT;rw[if_neg d,if_neg i,if_pos e]
 refine st _ _ _ (λe=>⟨bs,a,Ht (λz=>fin _ ?_) (λz=>fin _ ?_)⟩) (λG=>?_) (λ_ _ _ e=>by unfold sR;rw[e];exact id)
 .unfold pT;rw[if_neg d,if_neg i,if_neg n,if_pos e,if_pos z]
 .unfold pT;rw[if_neg d,if_neg i,if_neg n,if_pos e,if_neg z]
 refine st _ _ _ (λe=>?_) (λO=>?_) (λ_ _ _ e=>by unfold sR;rw[e];exact id)
 .subst e;have Z:=GA ok;obtain⟨b,rfl⟩:∃ b,bs=[b]:=by
   match bs,Z with
   | [b],_=>exact⟨b,rfl⟩
  refine⟨rfl,.int b,rfl,fin _ ?_⟩;have:=y b (by simp);unfold pT;rw[aJ d,aJ i,aJ n,aJ G,aP rfl];rcases this with q | q<;>subst q<;>simp
 refine⟨rfl,Ao (λe=>fin _ ?_) λj=>fin _ ?_⟩
 .unfold pT;rw[if_neg d,if_neg i,if_neg n,if_neg G,if_neg O,if_pos e]
 .unfold pT;rw[if_neg d,if_neg i,if_neg n,if_neg G,if_neg O,if_neg j]
theorem T6:FnScope ["names","given","name"] ["names","given"] (oB Fs):=pU
theorem Qx (j:Rd H b (.k g)) (l:qM g (Sum.inr x)=some v):tU H b (.str x) (some v):=.inl ⟨g,Sum.inr x,j,rfl,l.symm⟩
theorem Nm {g:Aa Af}{i:Nat}{x:V}(h:(g.map V.str)[i]?=some x):∃ y,g[i]?=some y/\V.str y=x:=by
 rw[aQ] at h;cases e:g[i]? with
 | none=>rw[e] at h;cases h
 | some y=>rw[e] at h;exact⟨y,rfl,bO h⟩
theorem X8 (F:Fun K "check_there" "check_there" Fs f fd):FnOk P w K mg base oK 1 f fd ["names","given"] (wX K Qf):=by
 refine F.ok T6 (λg H Q E O=>by obtain⟨l,A,o,Φ,D,C,r,⟨m,S,e,_⟩,Y⟩:=O;rw[<- r.length];rcases e with e | e<;>rw[e]<;>rfl) (λj A W s H g Q E I O=>?_);obtain⟨l,A1,o,Φ,D,C,r,⟨m,S,e,J,R⟩,Y⟩:=O;have T:=Kk I;obtain⟨c,b,u,rfl,q,B,G⟩:∃ c b u,g=[.ref c,.ref b]/\(dT K H c (m.map V.str)\/nY K H c (m.map V.str))/\Rd H b (.k u)/\∀ x∈m,∃ v,qM u (Sum.inr x)=some v:=by
  rcases e with e | e<;>subst e
  all_goals (
   cases r with
   | cons Z r =>
    cases r with
    | cons U r =>
     cases r;obtain⟨b,u,rfl,_,B,p,r3⟩:=U.dK_inv;have G:∀ x∈m,∃ v,qM u (Sum.inr x)=some v:=λx L=>by
      obtain⟨d,hd⟩:=J x L;obtain⟨v,z,_⟩:=(zV p r3 (Sum.inr x)).1 d hd;exact⟨v,z⟩
     first
     | (obtain⟨c,us,rfl,z,X⟩:=Z.tup_inv;have:=B0 (Bi m) X;subst this;exact⟨c,b,u,rfl,.inr (nY.of z),B,G⟩)
     | (obtain⟨c,us,rfl,_,z,X⟩:=Z.lst_inv;have:=B0 (Bi m) X;subst this;exact⟨c,b,u,rfl,.inl (dT.of z),B,G⟩))
 have fin:Q .e H:=Y (.v .e) .e H R (λ_ _ e _=>e) D .e;refine⟨_,pQ (vZ dO rfl (Nh (pv 0)) (tP (i:=2) T6.nd rfl (Or.inl rfl)) (pQ (wI (Wp (V4 T (pv 2) (pv 1))) (pQ Xa) yH))),?_⟩;refine⟨_,rfl,?_⟩;rcases q with q | q
 .refine .inl ⟨c,rfl,⟨_,q⟩,?_⟩;refine Iu (K:=K) (a:=c) (xs:=m.map V.str) (λi n h=>h=H/\∃ M,n=[some (.ref c),some (.ref b),M]) ⟨rfl,none,rfl⟩ (λi n h _ ⟨e,_⟩=>by rw[e];exact q) ?_ ?_
  .rintro i x n h L ⟨rfl,M,rfl⟩;obtain⟨y,N,rfl⟩:=Nm L;obtain⟨v,t⟩:=G y (aL N);exact⟨_,rfl,_,rfl,b,_,rfl,Qx B t,_,rfl,vQ ⟨rfl,_,rfl⟩⟩
  .rintro n h ⟨rfl,_⟩;exact fin
 .refine .inr (.inl ⟨c,rfl,⟨_,q⟩,?_⟩);refine Xj (K:=K) (a:=c) (xs:=m.map V.str) (λi n h=>h=H/\∃ M,n=[some (.ref c),some (.ref b),M]) ⟨rfl,none,rfl⟩ (λi n h _ ⟨e,_⟩=>by rw[e];exact q) ?_ ?_
  .rintro i x n h L ⟨rfl,M,rfl⟩;obtain⟨y,N,rfl⟩:=Nm L;obtain⟨v,t⟩:=G y (aL N);exact⟨_,rfl,_,rfl,b,_,rfl,Qx B t,_,rfl,vQ ⟨rfl,_,rfl⟩⟩
  .rintro n h ⟨rfl,_⟩;exact fin
theorem Cc:FnScope ["cell","bits","told","name","word","names"] ["cell","bits"] (oB E2):=pU
theorem DQ (T:Txt mg) (l:Kn P w K mg base 1 "check_there" Fs ["names","given"] Qf) (I:Kn P w K mg base 1 "gate_bit" Fc ["word","bits"] Gn)
: pZ P w K mg base 2 "told_by" E2 ["cell","bits"] Pr:=by
 refine qI Cc λf ae A ac s H E dk ds Φ hr G hR=>?_
 obtain⟨C,y,m,rfl,L,U,aa⟩:=hR;have li:=L.li;have lg:=L.lg;have O:C.ins.Nodup:=(bU.mp L.nd).1;refine⟨_,(hO (yT (pJ l hr (eH (oA G 0 nI) (eH (cN 1) hH)))) (hO (oE 2 Cc.nd (uI (Ln rfl) K9 T.dict hZ (eH (qP ["name"] ["bits"] [1] (oU (oA G 0 nI)) (λ_ _ _ _ _=>(nT 0 Xu)) (λ_ _ _ _ _=>(wE (eH (cN 0) (eH (oA G 1 (cN 0)) hH))))) hH))) (hO (qX (oU (oA G 0 nI)) (xZ (n:=3) rfl (rO (nT 3 Cc.nd) (rO (nT 4 Cc.nd) (rO (nT 5 Cc.nd) yG)))) (nQ (vB (n:=2) G (pJ I hr (eH (cN 4) (eH (qP ["known"] ["told"] [2] (oU (cN 5)) (λ_ _ _ _ _=>(nT 0 Wd)) (λ_ _ _ _ _=>(oA G 1 (cN 0)))) hH))) (pv 2) (cN 3)))) (nQ (oJ (uI B1 IZ T.tuple eN (eH (qP ["name"] ["told"] [2] (oU (oA G 0 nI)) (λ_ _ _ _ _=>(nT 0 Ws)) (λ_ _ _ _ _=>(oA G 1 (cN 0)))) hH))))))),?_⟩;refine⟨rfl,_,rfl,C.ins,y,.inl rfl,λx M=>⟨_,(U x M).1⟩,.inl rfl,?_⟩;dsimp only;refine nO (λc=>c=[.v (nK C),.v (.k y),.o (.k (hL (C.ins.map λn=>(n,m n)))),.n,.n,.n]) (λN hN=>?_) ?_
 .unfold rY dC aC;refine rF C.ins D.str (λn=>.t [.str n,.int (m n)]) _ (λΨ h=>⟨rfl,_,rfl,h⟩) (by omega) (λi n ys Nx e V W=>?_) ?_
  .refine⟨rfl,.int (m n),?_,by show 2<=1000;decide,V,W⟩;show some (nU y (Sum.inr n))=_;rw[(U n (aL e)).1]
  have e0:yA (C.ins.map λn=>D.t [.str n,.int (m n)])=some (hL (C.ins.map λn=>(n,m n))):=by
   rw[Ld (g:=λn=>((Sum.inr n:gV),D.int (m n))) (λn=>⟨.str n,rfl,rfl⟩)];simp[hL]
  refine⟨_,e0,by simp[hL];omega,?_⟩;rw[Eh (by simpa [lI] using O)];exact hN _ rfl
 rintro _ rfl;have h0:rJ (hL (C.ins.map λn=>(n,m n))) C.ins m:=λx M=>by
  refine⟨?_,(U x M).2⟩;have hm:x∈(C.ins.map λn=>(n,m n)).map (·.1):=by simpa [lI] using M
  rw[(Bd _ x).1 hm]
  congr 2
  clear hm;revert M;generalize C.ins=xs;induction xs with
  | nil=>intro h;simp at h
  | cons a r ih =>
   intro h;rw[aN,xS];by_cases q:a=x
   .rw[aP q,q]
   .rw[aJ q];rcases aI.mp h with z | z
    .exact absurd z.symm q
    .exact ih z
 refine nO (λc=>∃ (d:Aa (gV×D)) (Q R S:Sl),c=[.v (nK C),.v (.k y),.o (.k d),Q,R,S]/\rJ d C.names (rR C m)) (λN hN=>?_) ?_
 .refine qK (C.gates.map Cq) _ (λΨ h=>⟨rfl,_,rfl,h⟩)
   (λi c=>∃ (d:Aa (gV×D)) (Q R S:Sl),c=[.v (nK C),.v (.k y),.o (.k d),Q,R,S]/\rJ d (C.ins++(C.gates.take i).map (·.1)) (tQ m (C.gates.take i))/\d.length<=40+i) ⟨_,.n,.n,.n,rfl,by simpa [tQ] using h0,by rw[Od,aA];omega⟩ ?_ ?_
  .rintro i x c M ⟨d,Q,R,S,rfl,F,hl⟩;obtain⟨g,B,rfl⟩:=qV M;obtain⟨X,J⟩:=L.gt.at B;have hi:i<C.gates.length:=(aG.mp B).1;have Z:g.1∉C.ins++(C.gates.take i).map (·.1):=λq=>by
    have nd:(C.ins++C.gates.map (·.1)).Nodup:=L.nd;have e:C.gates=C.gates.take i++g::C.gates.drop (i+1):=by
     obtain⟨hi,rfl⟩:=aG.mp B;rw[lJ,iH]
    rw[e,bE,<- bL] at nd;exact (bU.mp nd).2.2 g.1 q g.1 (by simp) rfl
   have tk:C.gates.take (i+1)=C.gates.take i++[g]:=by rw[bQ,B];rfl
   generalize ab:tQ m (C.gates.take i)=u at F;have Y:∀ p∈g.2.2,Bit (u p):=λp hp=>(F p (J p hp)).2
   refine⟨rfl,rfl,?_⟩;unfold Iv zQ aC vd;simp only[List.set_cons_succ,List.set_cons_zero,iY,iX];refine rF g.2.2 D.str (λo=>.int (u o)) _ (λΨ h=>h) (by rcases X.ok with⟨_,q | q⟩ | ⟨_,q⟩ | ⟨_,q⟩ | ⟨_,q⟩ | ⟨_,q⟩<;>omega) (λj o ys Nx e V W=>?_) ?_
   .refine⟨rfl,.int (u o),?_,V,W⟩;show some (nU d (Sum.inr o))=_;rw[(F o (J o (aL e))).1]
   refine⟨g.2.1,g.2.2.map u,by rw[bA];rfl,(λb hb=>by obtain⟨p,hp,rfl⟩:=aM.mp hb;exact Y p hp),by rw[aA];exact X,.inl rfl,rfl,_,Ap (by omega),oY d (Sum.inr g.1) (.int (pT g.2.1 (g.2.2.map u))),_,_,_,rfl,?_,?_⟩
   .rw[tk,Mg,ab,bE,<- bL];exact F.step (Jl _ _) Z
   .have:=Ct d (Sum.inr g.1:gV) (.int (pT g.2.1 (g.2.2.map u)));omega
  .rintro c ⟨d,Q,R,S,rfl,F,hl⟩;rw[aA,bI (aU _)] at F;exact hN _ ⟨d,Q,R,S,rfl,F⟩
 rintro _ ⟨d,Q,R,S,rfl,F⟩;unfold sR dC aC;have lo:=L.lo;refine rF C.outs D.str (λo=>.int (rR C m o)) _ (λΨ h=>⟨rfl,_,rfl,h⟩) (by omega) (λj o ys Nx e V W=>?_) aa;refine⟨rfl,.int (rR C m o),?_,V,W⟩;show some (nU d (Sum.inr o))=_;rw[(F o (L.os o (aL e))).1]
end
theorem L3 (g:Aa Af):xA (g.map D.str)=some (g.map V.str):=Ug (λ_=>rfl) g
theorem Ez:∀ g:Aa Af,xM (.str x) (g.map V.str)=decide (x∈g)
 | []=>by simp[xM]
 | y::g=>by
  have a:=Ez (x:=x) g;unfold xM at a |-;rw[aN,gJ,a];by_cases e:x=y
  .subst e;have:pC (V.str x) (V.str x)=true:=lP x;simp[this]
  .have:pC (V.str y) (V.str x)=false:=by
    show (y == x)=false;exact cY.mpr λz=>e z.symm
   have:pC (V.str x) (V.str y)=false:=by
    show (x == y)=false;exact cY.mpr e
   simp[*]
theorem Iz {p q:Prop}{c:Bool}(h:c=false) (g:q):if c=true then p else q:=by rw[aJ (by rw[h];decide)];exact g
theorem Ji {p q:Prop}{c:Bool}(h:c=true) (g:p):if c=true then p else q:=by rw[aP h];exact g
theorem Sj:∀ (j:Aa (Af×Af×Aa Af)) (kn:Aa Af) (l:Af->Int),(∀ x∈kn,Bit (l x))->∀ x∈kn++j.map (·.1),Bit (tQ l j x)
 | [],kn,l,h,x,a=>h x (by simpa using a)
 | g::j,kn,l,h,x,a=>by
  refine Sj j (kn++[g.1]) _ (λy b=>?_) x (by simpa using a);by_cases e:y=g.1
  .show Bit (if y=g.1 then _ else _);rw[aP e];exact Jl _ _
  .show Bit (if y=g.1 then _ else _);rw[aJ e];rcases aT.mp b with z | z
   .exact h y z
   .exact absurd (aO.mp z) e
end Lw
namespace L2
open PySem PySem.Spec PyProof.Rows Lw
section
def K1 (g:Ah) (w:World) (A:Around) (s:Ae) (x y:Ac):Prop:=∀ (E:Ac->Ae->Prop) (Q:Bool->Ae->Prop),Q true s->wpAny (model g w) A (eqBool x y) Q E s
theorem IG {os:OsState}(C:r.get? l=some ol) (I:r.get? m=some T) (dl:ol.data = .seq j n1) (J:T.data = .seq o n2) (hs:j.size=o.size)
  (he:∀ (i:Nat) x y,j[i]?=some x->o[i]?=some y->K1 p w A.in1 ⟨r,g,d,t,os⟩ x y){R:Result->Ae->Prop}(U:R (.ok (.ret (.bool false))) ⟨r,g,d,t,os⟩) :
  ∀ left i:Nat,i+left=j.size->codeAny (model p w) A (.builtin "list.__eq__.loop" ⟨[.ref l,.ref m,rawInt i,rawInt 3],[]⟩) R ⟨r,g,d,t,os⟩:=by
 obtain⟨k,q,_,u⟩:=ol;obtain⟨n,s,_,v⟩:=T;simp only at dl J;subst dl J;intro left;induction left with
 | zero =>
  intro i f;have a:j[((i:Nat):Int).toNat]?=none:=by simp;omega
  have b:o[((i:Nat):Int).toNat]?=none:=by simp;omega
  refine gB MeetsSeq3.entry_eq_loop ?_;rw[eO jE _]
  wp_walk using dH C,dH I
  rw[a,b]
  wp_walk using dH C,dH I
  show R (.ok (.ret (.bool (j.size != o.size)))) _;rw[hs,bne_self_eq_false];exact U
 | succ left h =>
  intro i f;obtain⟨x,c⟩:∃ x,j[i]?=some x:=⟨_,cJ (by omega)⟩;obtain⟨y,e⟩:∃ y,o[i]?=some y:=⟨_,cJ (by omega)⟩;have a:j[((i:Nat):Int).toNat]?=some x:=by rw[cD];exact c
  have b:o[((i:Nat):Int).toNat]?=some y:=by rw[cD];exact e
  refine gB MeetsSeq3.entry_eq_loop ?_;rw[eO jE _]
  wp_walk using dH C,dH I
  rw[a,b];refine aB (he i x y c e _ _ ?_)
  wp_walk
  exact⟨jQ jE _,h (i+1) (by omega)⟩
theorem MH (J:s.heap.IsList l o) (T:s.heap.IsList m p) (r:o.size=p.size) (U:A.units<cLine)
  (I:∀ (i:Nat) x y,o[i]?=some x->p[i]?=some y->K1 j w A.in1 s x y) (C:Q (.bool false) s):wpAny (model j w) A (compareOp .NotEq (.ref l) (.ref m)) Q E s:=by
 obtain⟨k,g,d,t,os⟩:=s;obtain⟨⟨cls,D,data,sl⟩,e,h,n,hd⟩:=id J;obtain⟨⟨f,u,data2,z⟩,a,b,H,c⟩:=id T;simp only at h hd b c;subst h hd b c;have q:(⟨k,g,d,t,os⟩:Ae).TypeIs (.ref l) "list" := ⟨_,e,rfl⟩;have B:(⟨k,g,d,t,os⟩:Ae).TypeIs (.ref m) "list" := ⟨_,a,rfl⟩;refine wpAny_richCompare_same_room (op:=.NotEq) q B F.slot_list_ne ?_ U;refine mX (codeAny_call_builtin F.slot_list_ne.plain F.entry_list_ne (F.slot_list_ne.check _ _ _ _ _ _ _ _ q (F.args_list_ne_2 _ _) ?_));have G:=AutoSeq1.sub_list_list;have v:¬ (o.size != p.size)=true:=by simp[r]
 wp_walk using dH e,dH a
 exact⟨jQ jE _,IG e a rfl rfl r I ⟨(λx=>nomatch x),C⟩ o.size 0 (Nat.zero_add _)⟩
end
section
variable {X:Cx}
def Ks (H:Hp) (x y:V):Prop:=∃ (a b:Ad) (c:Aa (gV×V)),x = .ref a/\y = .ref b/\Rd H a (.k c)/\Rd H b (.k c)/\(c.map (·.1)).Nodup/\∀ p∈c,qR p.2=true/\pC p.2 p.2=true
theorem Ks.now (I:Inv X g p H s) (h:Ks H x y) (l:nM x u) (o:nM y v) (j:A.units<cLine):K1 X.prog X.w A s u v:=by
 obtain⟨a,b,c,rfl,rfl,n,t,F,B⟩:=h;cases l;cases o;by_cases e:a=b
 .subst e;exact λE Q q=>SeqAt.EqAt.same _ X.prog X.w E Q q
 intro E Q q;obtain⟨K,d1,i,d,k⟩:=tT I.hok n;obtain⟨L,d2,G,f,m⟩:=tT I.hok t;have D:i.length=G.length:=by rw[<- d.length,<- f.length]
 unfold eqBool;refine bW (wpAny_ite_split (λz=>absurd (Value.ref.inj (eq_of_beq z)) e) λ_=>aB ?_);refine PySem.W.keq_eq d1 d2 k m j (λ_=>LU f F c i d (λ_ h=>h) B) (gO ?_);rw[D];simpa using q
end
end L2
namespace Lw
open PySem L2
def Pd:RD:=λf d e=>∃ (C:Cel) (a:Aa (gV×D)) (c:Af->Int),d=[nK C,.k a]/\GC C/\rJ a C.ins c/\∀ b,rJ b C.names (rR C c)->b.length<=200->e (.o (.k b))
theorem Et [Decidable p]:(if decide p=true then (1:Int) else 0)=if p then 1 else 0:=by
 by_cases h:p
 .rw[aP (dD h),aP h]
 .rw[aJ (by simp[h]),aJ h]
theorem DD:(["one","known"]:Aa Af).Nodup:=by decide +kernel
section
variable {P:Ah}{K:nH}
theorem N7:FnScope ["word","bits","total"] ["word","bits"] (oB Ft):=pU
theorem MS (T:Txt g):pZ P w K g base 1 "_law_gate_bit" Ft ["word","bits"] Gn:=by
 refine qI N7 λf Q A G s H E i Y a b j X=>?_
 obtain⟨wd,bs,rfl,Z,ok,y⟩:=X;have fin:∀ z:Int,z=pT wd bs->a (.v (.int z)):=λz e=>by rw[e];exact y
 have k:=Bf bs;have st:∀ (e:Af) (t u:qL),(wd=e->t i { nx:=λ_=>a (.v .e),rt:=a } [.v (.str wd),.v (.l (bs.map D.int)),.v (.int bs.sum)])->(¬ wd=e->u i { nx:=λ_=>a (.v .e),rt:=a } [.v (.str wd),.v (.l (bs.map D.int)),.v (.int bs.sum)]) ->
   (∀ L M x,L.rt=M.rt->t i L x->t i M x)->Ec (zE (vC (xE (Gm false) 0 (cd (.str e)))) t Jk) u i { nx:=λ_=>a (.v .e),rt:=a } [.v (.str wd),.v (.l (bs.map D.int)),.v (.int bs.sum)]:=λe t u R S V =>
  ⟨rfl,Ao (λz=>V { nx:=λ_=>a (.v .e),rt:=a } _ _ rfl (R z)) λz=>S z⟩
 refine⟨_,(hO (oE 2 N7.nd (pG (Ch rfl) Gp T.sum iG (eH (cN 1) hH))) (hO (pL (rA (sJ b.units) (pK false) (pv 0) rX) (nQ (oJ (uI Ep Ey T.int iI (eH (Ek (sJ b.units) (pK false) (pv 2) (pG vY vV T.len cE (eH (cN 1) hH))) hH)))) pN) (hO (pL (rA (sJ b.units) (pK false) (pv 0) rX) (nQ (oJ (uI Ep Ey T.int iI (eH (Ek Je J6 (pv 2) nI) hH)))) pN) (hO (pL (rA (sJ b.units) (pK false) (pv 0) rX) (nQ (oJ (sX rH Dg 2 nI))) pN) (hO (pL (rA (sJ b.units) (pK false) (pv 0) rX) (nQ (oJ (uI Ep Ey T.int iI (eH (Ek Np O7 (pv 2) nI) hH)))) pN) (hO (pL (rA (sJ b.units) (pK false) (pv 0) rX) (nQ (oJ (uI Ep Ey T.int iI (eH (Ek (sJ b.units) (pK false) (pv 2) nI) hH)))) pN) (nQ (oJ (W6 bZ kZ PySem.F.type_list_index Tx NA (sG (eH rX (eH rX hH))) (eH (cN 0) hH)))))))))),?_⟩;refine nO (λx=>x=_) (λN W=>⟨bs,k,W _ rfl⟩) ?_;rintro _ rfl;refine st _ _ _ (λe=>⟨rfl,rfl,_,rfl,fin _ ?_⟩) (λc=>?_) (λ_ _ _ e=>by unfold sR;rw[e];exact id)
 .unfold pT;rw[aP e];show (if decide (bs.sum=(((bs.map D.int).length:Nat):Int))=true then (1:Int) else 0)=_;rw[aA];exact Et
 refine st _ _ _ (λe=>⟨rfl,fin _ ?_⟩) (λh=>?_) (λ_ _ _ e=>by unfold sR;rw[e];exact id)
 .unfold pT;rw[aJ c,aP e];exact Et
 refine st _ _ _ (λe=>⟨rfl,by show (0:Int)<2;decide,fin _ ?_⟩) (λn=>?_) (λ_ _ _ e=>by unfold sR;rw[e];exact id)
 .unfold pT;rw[if_neg c,if_neg h,if_pos e]
 refine st _ _ _ (λe=>⟨rfl,fin _ ?_⟩) (λq=>?_) (λ_ _ _ e=>by unfold sR;rw[e];exact id)
 .unfold pT;rw[aJ c,aJ h,aJ n,aP e];exact Et
 refine st _ _ _ (λe=>⟨rfl,fin _ ?_⟩) (λB=>?_) (λ_ _ _ e=>by unfold sR;rw[e];exact id)
 .unfold pT;rw[aJ c,aJ h,aJ n,aJ q,aP e];exact Et
 refine⟨by show 2<=1000;decide,?_⟩;rcases AH ok c h n q B with rfl | rfl
 .refine⟨rfl,[.str "nil",.str "one"],.str "one",1,rfl,rfl,by show 1<2;decide,λz d=>?_,λm z O d=>?_,fin _ ?_⟩
  .cases d;decide +kernel
  .obtain rfl:m=0:=by omega
   cases d;decide +kernel
  .unfold pT;rw[if_neg c,if_neg h,if_neg n,if_neg q,if_neg B,if_pos rfl];rfl
 .refine⟨rfl,[.str "nil",.str "one"],.str "nil",0,rfl,rfl,by show 0<2;decide,λz d=>?_,λm z O d=>absurd O (jO _),fin _ ?_⟩
  .cases d;decide +kernel
  .unfold pT;rw[if_neg c,if_neg h,if_neg n,if_neg q,if_neg B,if_neg (by decide +kernel)];rfl
theorem Bu:FnScope ["cell","bits","known","name","word","names"] ["cell","bits"] (oB Gq):=pU
theorem IK (T:Txt mg) (l:Kn P w K mg base 1 "_law_gate_bit" Ft ["word","bits"] Gn)
: pZ P w K mg base 2 "_law_all_bits" Gq ["cell","bits"] Pd:=by
 refine qI Bu λf ab A aa s H E dk ds Φ hr Q hR=>?_
 obtain⟨C,t,F,rfl,W,h0,J⟩:=hR;have li:=W.li;have lg:=W.lg;refine⟨_,(hO (oE 2 Bu.nd O4) (hO (qX (oU (oA Q 0 nI)) (nT 3 Bu.nd) (nQ (vB (n:=2) Q (oA Q 1 (cN 3)) (pv 2) (cN 3)))) (hO (qX (oU (oA Q 0 nI)) (xZ (n:=3) rfl (rO (nT 3 Bu.nd) (rO (nT 4 Bu.nd) (rO (nT 5 Bu.nd) yG)))) (nQ (vB (n:=2) Q (pJ l hr (eH (cN 4) (eH (qP ["one"] ["known"] [2] (oU (cN 5)) (λ_ _ _ _ _=>(nT 0 DD)) (λ_ _ _ _ _=>(oA Q 1 (cN 0)))) hH))) (pv 2) (cN 3)))) (nQ (oJ (wY 2 (pv 2))))))),?_⟩;refine nO (λc=>c=[.v (nK C),.v (.k t),.o (.k []),.n,.n,.n]) (λN R=>R _ rfl) ?_;rintro _ rfl;refine nO (λc=>∃ (a:Aa (gV×D)) (d:Sl),c=[.v (nK C),.v (.k t),.o (.k a),d,.n,.n]/\rJ a C.ins F/\a.length<=40) (λN R=>?_) ?_
 .refine qK (C.ins.map D.str) _ (λΨ h=>⟨rfl,_,rfl,h⟩)
   (λi c=>∃ (a:Aa (gV×D)) (d:Sl),c=[.v (nK C),.v (.k t),.o (.k a),d,.n,.n]/\rJ a (C.ins.take i) F/\a.length<=i) ⟨_,.n,rfl,λx L=>by simp at L,by simp⟩ ?_ ?_
  .rintro i x c L ⟨a,d,rfl,m,G⟩;obtain⟨y,Y,rfl⟩:=qV L;have r:i<C.ins.length:=(aG.mp Y).1;have hm:=aL Y;have tk:C.ins.take (i+1)=C.ins.take i++[y]:=by rw[bQ,Y];rfl
   have nd:C.ins.Nodup:=(bU.mp W.nd).1;have z:y∉C.ins.take i:=λq=>by
    have e:C.ins=C.ins.take i++y::C.ins.drop (i+1):=by
     obtain⟨r,rfl⟩:=aG.mp Y;rw[lJ,iH]
    rw[e] at nd;exact (bU.mp nd).2.2 y q y (by simp) rfl
   refine⟨rfl,.int (F y),?_,rfl,_,Ap (by omega),oY a (Sum.inr y) (.int (F y)),_,rfl,?_,?_⟩
   .show some (nU t (Sum.inr y))=_;rw[(h0 y hm).1]
   .rw[tk];have:=m.step (h0 y hm).2 z;refine λx L=>?_
    have q:=this x L;dsimp only at q;by_cases e:x=y
    .subst e;rw[aP rfl] at q;exact q
    .rw[aJ e] at q;exact q
   .have:=Ct a (Sum.inr y:gV) (.int (F y));omega
  .rintro c ⟨a,d,rfl,m,G⟩;rw[aA,bI (aU _)] at m;rw[aA] at G;exact R _ ⟨a,d,rfl,m,by omega⟩
 rintro _ ⟨ae,d,rfl,Z,ac⟩;refine nO (λc=>∃ (a:Aa (gV×D)) (d M O:Sl),c=[.v (nK C),.v (.k t),.o (.k a),d,M,O]/\rJ a C.names (rR C F)/\a.length<=200) (λN R=>?_) ?_
 .refine qK (C.gates.map Cq) _ (λΨ h=>⟨rfl,_,rfl,h⟩)
   (λi c=>∃ (a:Aa (gV×D)) (d M O:Sl),c=[.v (nK C),.v (.k t),.o (.k a),d,M,O]/\rJ a (C.ins++(C.gates.take i).map (·.1)) (tQ F (C.gates.take i))/\a.length<=100+i) ⟨_,d,.n,.n,rfl,by simpa [tQ] using Z,by omega⟩ ?_ ?_
  .rintro i x c L ⟨a,d,M,O,rfl,m,G⟩;obtain⟨g,B,rfl⟩:=qV L;obtain⟨S,X⟩:=W.gt.at B;have r:i<C.gates.length:=(aG.mp B).1;have z:g.1∉C.ins++(C.gates.take i).map (·.1):=λq=>by
    have nd:(C.ins++C.gates.map (·.1)).Nodup:=W.nd;have e:C.gates=C.gates.take i++g::C.gates.drop (i+1):=by
     obtain⟨r,rfl⟩:=aG.mp B;rw[lJ,iH]
    rw[e,bE,<- bL] at nd;exact (bU.mp nd).2.2 g.1 q g.1 (by simp) rfl
   have tk:C.gates.take (i+1)=C.gates.take i++[g]:=by rw[bQ,B];rfl
   generalize U:tQ F (C.gates.take i)=u at m;have V:∀ p∈g.2.2,Bit (u p):=λp I=>(m p (X p I)).2
   refine⟨rfl,rfl,?_⟩;unfold Iv zQ aC vd;simp only[List.set_cons_succ,List.set_cons_zero,iY,iX];refine rF g.2.2 D.str (λo=>.int (u o)) _ (λΨ h=>h) (by rcases S.ok with⟨_,q | q⟩ | ⟨_,q⟩ | ⟨_,q⟩ | ⟨_,q⟩ | ⟨_,q⟩<;>rw[q]<;>decide) (λj o ys Nx e Z h2=>?_) ?_
   .refine⟨rfl,.int (u o),?_,Z,h2⟩;show some (nU a (Sum.inr o))=_;rw[(m o (X o (aL e))).1]
   refine⟨g.2.1,g.2.2.map u,by rw[bA];rfl,(λb hb=>by obtain⟨p,I,rfl⟩:=aM.mp hb;exact V p I),by rw[aA];exact S,.inl rfl,rfl,_,Ap (by omega),oY a (Sum.inr g.1) (.int (pT g.2.1 (g.2.2.map u))),_,_,_,rfl,?_,?_⟩
   .rw[tk,Mg,U,bE,<- bL];exact m.step (Jl _ _) z
   .have:=Ct a (Sum.inr g.1:gV) (.int (pT g.2.1 (g.2.2.map u)));omega
  .rintro c ⟨a,d,M,O,rfl,m,G⟩;rw[aA,bI (aU _)] at m;rw[aA] at G;exact R _ ⟨a,d,M,O,rfl,m,by omega⟩
 rintro _ ⟨a,d,M,O,rfl,m,G⟩;exact J a m G
end
theorem Vh:(["bits"]:Aa Af).Nodup:=by decide +kernel
noncomputable def pS:Nat->Aa (Aa Int)
 | 0=>[[]]
 | n+1=>(pS n).map (0::·)++(pS n).map (1::·)
def tV (b:Aa Int):D:=.t (b.map D.int)
theorem Hn:∀ n,(pS n).length=2 ^ n
 | 0=>rfl
 | n+1=>by unfold pS;rw[List.length_append,List.length_map,List.length_map,Hn n,Nat.pow_succ];omega
theorem Cn:∀ {n:Nat}{b:Aa Int},b∈pS n->b.length=n/\∀ x∈b,x=0\/x=1
 | 0,b,h=>by rw[aO.mp h];exact⟨rfl,λ_ z=>nomatch z⟩
 | n+1,b,h=>by
  unfold pS at h;rcases aT.mp h with h | h
  all_goals
   obtain⟨c,e,rfl⟩:=aM.mp h;obtain⟨a,d⟩:=Cn e;refine⟨by rw[bY,a],λx f=>?_⟩;rcases aI.mp f with q | q
   .first | exact .inl q | exact .inr q
   .exact d x q
theorem Dv (h:n<=6):2 ^ n<=64:=iS (by decide) h
def Qg:RD:=λc a b=>∃ n:Nat,a=[.int n]/\n<=6/\b (.o (.l ((pS n).map tV)))
section
variable {P:Ah}{K:nH}
theorem Eg:FnScope ["count","found","step"] ["count"] (oB Gu):=pU
theorem Xq (T:Txt g):pZ P w K g base 1 "all_bits" Gu ["count"] Qg:=by
 refine qI Eg λf z A t s H E O Q Y W X F=>?_
 obtain⟨n,rfl,V,q⟩:=F;refine⟨_,(hO (oE 1 Eg.nd (sG (eH (wE hH) hH))) (hO (qX (At (by rfl) T.range (cN 0)) (nT 2 Eg.nd) (nQ (oE 1 Eg.nd (qQ uR uG (qP ["bits"] [] [] (oU (cN 1)) (λ_ _ _ _ _=>(nT 0 Vh)) (λ_ _ _ _ _=>(qQ uR uG (wE (eH nI hH)) (cN 0)))) (qP ["bits"] [] [] (oU (cN 1)) (λ_ _ _ _ _=>(nT 0 Vh)) (λ_ _ _ _ _=>(qQ uR uG (wE (eH nI hH)) (cN 0)))))))) (nQ (oJ (wY 1 (pv 1)))))),?_⟩;refine nO (λc=>c=[.v (.int n),.o (.l ((pS 0).map tV)),.n]) (λN m=>?_) ?_
 .exact⟨by show 0<=1000;decide,by show 1<=1000;decide,m _ rfl⟩
 rintro _ rfl;refine nO (λc=>∃ a,c=[.v (.int n),.o (.l ((pS n).map tV)),a]) (λN m=>?_) ?_
 .refine qK (sW 0 n) _ (λu h=>⟨by omega,by omega,h⟩) (λi c=>∃ a,c=[.v (.int n),.o (.l ((pS i).map tV)),a]) ⟨_,rfl⟩ ?_ ?_
  .rintro i x c L ⟨a,rfl⟩;obtain⟨R,rfl⟩:=Nc L;have B:=Dv (show i<=6 by omega);have S:=Hn i;unfold gN rY d2;refine rF (pS i) tV (λb=>tV (0::b)) _ (λu h=>h) (by omega) (λj b M y e d k=>?_) ?_
   .have G:=(Cn (aL e)).1;refine⟨by show 1<=1000;decide,?_,d,k⟩;show [D.int 0].length+(b.map D.int).length<=100000;rw[aA];show 1+b.length<=100000;omega
   refine rF (pS i) tV (λb=>tV (1::b)) _ (λu h=>h) (by omega) (λj b M y e d k=>?_) ?_
   .have G:=(Cn (aL e)).1;refine⟨by show 1<=1000;decide,?_,d,k⟩;show [D.int 1].length+(b.map D.int).length<=100000;rw[aA];show 1+b.length<=100000;omega
   refine⟨by rw[aA,aA];omega,.v (.int (0+(i:Int))),?_⟩
   .show _=[_,Sl.o (.l ((pS (i+1)).map tV)),_];rw[show pS (i+1)=(pS i).map (0::·)++(pS i).map (1::·) from rfl,bE,bA,bA];rfl
  .rintro c ⟨a,rfl⟩;have e:(sW 0 n).length=n:=by simp[sW]
   rw[e];exact m _ ⟨a,rfl⟩
 rintro _ ⟨a,rfl⟩;exact q
end
theorem K4:∀ g:Aa Af,zF (g.map D.str)=some (g.map Sum.inr)
 | []=>rfl
 | x::r=>by rw[aN];unfold zF;rw[K4 r];rfl
theorem Ob (f:Af->Int) (x:Af):∀ (j:Aa Af) (g:Aa (gV×D)),nU (sL g (j.map λo=>((Sum.inr o:gV),D.int (f o)))) (Sum.inr x)=if x∈j then some (.int (f x)) else nU g (Sum.inr x)
 | [],g=>by rw[aJ bC];rfl
 | o::r,g=>by
  show nU (sL (oY g (Sum.inr o) (D.int (f o))) (r.map λo=>((Sum.inr o:gV),D.int (f o)))) (Sum.inr x)=_;rw[Ob f x r,B7];by_cases h:x∈r
  .rw[aP h,aP (aH _ h)]
  .rw[aJ h];by_cases e:o=x
   .rw[aP (by rw[e]),aP (by rw[e];exact aF),e]
   .rw[aJ (λz=>e (iB z)),aJ (λz=>(aI.mp z).elim (λq=>e q.symm) h)]
theorem M0 (f:l->o) (g:l->p):∀ j:Aa l,(j.map f).zip (j.map g)=j.map λx=>(f x,g x)
 | []=>rfl
 | x::r=>by rw[aN,aN,aN,cV,M0 f g r]
theorem Rr:∀ (j:Aa (Af×Af×Aa Af)) (l:Af->Int) (x:Af),x∉j.map (·.1)->tQ l j x=l x
 | [],_,_,_=>rfl
 | g::j,l,x,h=>by
  show tQ (Mu l g) j x=l x;rw[Rr j _ x λz=>h (aH _ z)];exact aJ λz=>h (by rw[z];exact aF)
theorem LK (j:GC C) (g:Af->Int) (l:x∈C.ins):rR C g x=g x :=
 Rr C.gates g x λz=>(bU.mp j.nd).2.2 x l x z rfl
theorem Qc:∀ (b a:Aa (gV×D)),(sL a b).length<=a.length+b.length
 | [],a=>aU _
 | p::b,a=>by
  have c:=Qc b (oY a p.1 p.2);have d:=Ct a p.1 p.2;show (sL (oY a p.1 p.2) b).length<=_;rw[bY];omega
def Tw:RD:=λf d e=>∃ (C:Cel) (a:Aa (gV×D)) (c:Af->Int),d=[nK C,.k a]/\GC C/\rJ a C.ins c/\a.length<=100/\∀ b,(∀ x∈C.ins++C.outs,nU b (Sum.inr x)=some (.int (rR C c x)))->b.length<=200->e (.o (.k b))
section
variable {P:Ah}{K:nH}
theorem Uk:FnScope ["cell","bits","known"] ["cell","bits"] (oB Hv):=pU
theorem LM (T:Txt j) (g:Kn P w K j base 2 "told_by" E2 ["cell","bits"] Pr):pZ P w K j base 3 "side_bits" Hv ["cell","bits"] Tw:=by
 refine qI Uk λf z A q s H E V W Y Q R M=>?_
 obtain⟨C,b,a,rfl,c,u,X,n⟩:=M;refine⟨_,(hO (oE 2 Uk.nd (uI (Ln rfl) K9 T.dict hZ (eH (cN 1) hH))) (hO (yT (Bk PySem.F.plainAttrs_dict PySem.F.slot_dict_update PySem.F.type_dict_update MA CA (pv 2) (eH (Oy rfl (by rfl) T.dict (by rfl) T.zip (eH (oA R 0 nI) (eH (pJ g Q (eH (cN 0) (eH (cN 1) hH))) hH))) hH))) (nQ (oJ (wY 2 (pv 2)))))),?_⟩;refine nO (λt=>t=[.v (nK C),.v (.k b),.o (.k b)]) (λN e=>?_) ?_
 .exact e _ rfl
 rintro _ rfl;refine nO (λt=>∃ d,(∀ x∈C.ins++C.outs,nU d (Sum.inr x)=some (.int (rR C a x)))/\d.length<=200/\t=[.v (nK C),.v (.k b),.o (.k d)]) (λN e=>?_) ?_
 .have O:=c.lo;refine⟨rfl,rfl,_,rfl,C,b,a,rfl,c,u,.inl rfl,true,true,_,_,C.outs.map Sum.inr,rfl,rfl,K4 C.outs,by rw[aA];omega,?_⟩;have L:(C.outs.map (Sum.inr:Af->gV)).zip (C.outs.map λo=>D.int (rR C a o))=hL (C.outs.map λo=>(o,rR C a o)):=by
   rw[M0];unfold hL;rw[List.map_map];rfl
  have G:sL [] (hL (C.outs.map λo=>(o,rR C a o)))=hL (C.outs.map λo=>(o,rR C a o)):=Eh (by rw[bA];simpa [lI] using c.ond);have B:hL (C.outs.map λo=>(o,rR C a o))=C.outs.map λo=>((Sum.inr o:gV),D.int (rR C a o)):=by unfold hL;rw[List.map_map];rfl
  rw[L,G];refine⟨?_,e _ ⟨_,λx S=>?_,?_,rfl⟩⟩
  .unfold hL;rw[List.length_map,List.length_map];omega
  .rw[B,Ob];by_cases m:x∈C.outs
   .rw[aP m]
   .rw[aJ m];have y:x∈C.ins:=(aT.mp S).resolve_right m;rw[LK c a y];exact (u x y).1
  .refine bF (Qc _ _) ?_;unfold hL;rw[List.length_map,List.length_map];omega
 rintro _ ⟨d,i,h,rfl⟩;exact n _ i h
end
end Lw
namespace L2
open PySem PySem.Spec PyProof.Rows
def BM:Nat:=2 ^ 4480
def BD:Nat:=2 ^ 8990
theorem GH:0<BM:=mM (by decide)
theorem EF:0<BD:=mM (by decide)
theorem DP:2*BM*BM<BD:=by decide +kernel
def Kz (i j:Int):Prop:=i.natAbs<BM/\j.natAbs<BM
def Jb (_ j:Int):Prop:=j≠0/\j.natAbs<BD
section
variable {X:Cx}{K:nH}
theorem zR:nZ X (binaryOp .Mult) (rI Kz λi j=>.int (i*j)):=yO λ_ _ _ _ _ _ _ a q=>mul_int q (mulOk_of_bits (m:=4480) (n:=4480) (intBits_le_iff.mpr a.1) (intBits_le_iff.mpr a.2) (by decide))
abbrev IJ:O2:=fI Kz λi j=>.int (i*j)
theorem yQ:pM K (rI Kz λi j=>.int (i*j)) IJ:=Dh (λ_ _ h=>h) λ_ _ _ _=>.int _
theorem Hd:nZ X (binaryOp .FloorDiv) (rI Jb λi j=>.int (i.fdiv j)):=yO λi j _ _ _ _ _ a q=>by
 refine floordiv_int a.1 q (.inl (PyProof.noPylong_of_log2 (aR ((Nat.log2_lt (n:=j.natAbs) (by have:=a.1;omega)).mpr a.2) (by decide))))
abbrev Yj:O2:=fI Jb λi j=>.int (i.fdiv j)
theorem Gk:pM K (rI Jb λi j=>.int (i.fdiv j)) Yj:=Dh (λ_ _ h=>h) λ_ _ _ _=>.int _
def FP:OC:=λa b=>match a with
 | [.int i]=>b (.v (.int i.natAbs))
 | _=>False
theorem C8:rM K (λg H Q=>∃ i,g=[.int i]/\Q (.int (if i<0 then -i else i)) H) FP:=by
 intro B L H b g h Q hd c a k;cases b with
 | nil=>exact False.elim a
 | cons d b =>
  cases d<;>first | exact False.elim a | skip<;>cases b<;>first | exact False.elim a | skip
  rename_i i
  obtain⟨x,rfl,f⟩:=sH c;cases f;have e:(if i<0 then -i else i)=((i.natAbs:Nat):Int):=by split<;>omega
  refine⟨i,rfl,?_⟩;rw[e];exact k _ _ H a (hd.pushF (.int _))
def fV (t:nV):nV:=λb e c=>t b e λr a=>∃ d,sd r=some d/\c (.v d) a
theorem Qq {e:Expr}{t:nV}(h:PD X e t):PD X e (fV t):=h.mono λu H Q a=>a.elim λB n T s f hd i k =>
 ⟨B,n,T,_,f,hd,i,λr b v c m d1 ⟨d,e,q⟩=>k _ b v c m (d1.thaw e) q⟩
end
section
variable {X:Cx}{K:nH}
theorem BO {bs:Aa Int}{g:Aa Ac}(r:nN (bs.map V.int) g){i:Nat}{v:Ac}(h:g[i]?=some v):∃ b t,bs[i]?=some b/\v = .int b t:=by
 have d:=r.length;rw[aA] at d;have f:i<g.length:=(aG.mp h).1;have a:bs[i]?=some (bs[i]'(by omega)):=aE (by omega);obtain⟨u,c,e⟩:=r.get (i:=i) (x:=V.int (bs[i]'(by omega))) (by rw[aQ,a];rfl);rw[h] at c;cases c;obtain⟨t,rfl⟩:=e;exact⟨_,t,a,rfl⟩
theorem KY (bs:Aa Bool):((List.range bs.length).any λi=>(bs[i]?).getD true)=bs.any id:=by
 have e:(List.range bs.length).map (λi=>(bs[i]?).getD true)=bs:=by
  apply List.ext_getElem (by simp);intro i p q;simp[q]
 calc ((List.range bs.length).any λi=>(bs[i]?).getD true)=((List.range bs.length).map λi=>(bs[i]?).getD true).any id:=by rw[List.any_map];rfl
  _=bs.any id:=by rw[e]
def Mp (K:nH):Aa V->Hp->VK->Prop:=λc H Q=>∃ (p:Ad) (a:Aa Int),c=[.ref p]/\dT K H p (a.map V.int)/\Q (.b (a.any (· != 0))) H
theorem AF (g:X.calm=true):oQ X (.builtin "any") (Mp X.K):=by
 intro n s R H P O Q I r h;obtain⟨p,d,rfl,B,q⟩:=h;obtain⟨u,rfl,E⟩:=qZ r;cases E;obtain⟨c,w,D,_⟩:=I.list B;have f:=D.isList;have a:=w.length;rw[aA] at a;have k:p<s.heap.objs.size:=by obtain⟨_,e,_⟩:=id f;exact aV e
 refine call_any_walk (iM f ?_);refine⟨s.heap.objs.size,[s.heap.objs.size,p],[s.heap.objs.size],c.toArray.size,_,_,λi=>((d.map (· != 0))[i]?).getD true,rfl,Walks.list (A:=X.A.in1) (I.ok.hd g) _ p (bG k) c.toArray,⟨⟨_,bB _ rfl,rfl,rfl⟩,f.push _⟩,λi v M G F y m=>?_,λL N hk=>?_⟩
 .obtain⟨b,t,e,rfl⟩:=BO w (by simpa using y);simp only[aQ,e,Option.map_some,Option.getD_some] at m;exact truthy_int m
 .have e:((List.range c.toArray.size).any λi=>((d.map (· != 0))[i]?).getD true)=d.any (· != 0):=by
   have:=KY (d.map (· != 0));rw[aA,a] at this;rw[aW,this,List.any_map];rfl
  rw[e];exact⟨.b _,H,I.kept λb x e=>hk b x (λz=>by rw[aO.mp z] at e;exact eR _ (aV e)) (aK _ e),rfl,q⟩
def MX:OC:=λc e=>match c with
 | [.l d]=>∃ a,yM d=some a/\e (.v (.b (a.any (· != 0))))
 | _=>False
theorem X1:rM K (Mp K) MX:=by
 intro B L H e s t Q hd i c k;cases e with
 | nil=>exact False.elim c
 | cons d e =>
  cases e with
  | cons _ _=>cases d<;>exact False.elim c
  | nil =>
   cases d<;>first | exact False.elim c | skip
   obtain⟨x,rfl,n⟩:=sH i;obtain⟨m,f,c⟩:=c;obtain⟨a,q,rfl,h,r⟩:=n.lst_inv;rw[Fk f r] at h;exact⟨a,m,rfl,dT.of h,k _ _ H c (hd.pushF (.b _))⟩
end
end L2
namespace EQ
def sm (g:Nat->Int):Aa Nat->Int
 | []=>0
 | s::S=>g s+sm g S
theorem Cb (f g:Nat->Int):∀ S,sm (λs=>f s+g s) S=sm f S+sm g S
 | []=>rfl
 | s::S=>by simp only[sm,Cb f g S];omega
theorem uZ (c:Int) (g:Nat->Int):∀ S,sm (λs=>c*g s) S=c*sm g S
 | []=>by simp[sm]
 | s::S=>by simp only[sm,uZ c g S,jJ]
theorem zC {f g:Nat->Int}:∀ {S:Aa Nat},(∀ s∈S,f s=g s)->sm f S=sm g S
 | [],_=>rfl
 | s::S,h=>by
  simp only[sm];rw[h s (by simp),zC λt a=>h t (by simp[a])]
theorem wT {f:Nat->Int}{S:Aa Nat}(h:∀ s∈S,f s=0):sm f S=0:=by
 induction S with
 | nil=>rfl
 | cons s S b=>simp only[sm];rw[h s (by simp),b λt a=>h t (by simp[a])];rfl
theorem Ry (f:Nat->Int){S:Aa Nat}{s:Nat}(h:s∈S):sm f S=f s+sm f (S.erase s):=by
 induction S with
 | nil=>cases h
 | cons t S b =>
  by_cases e:t=s
  .subst e;simp[sm]
  .have a:s∈S:=by
    cases h with
    | head=>exact absurd rfl e
    | tail _ h=>exact h
   rw[List.erase_cons_tail (by simpa using e)];simp only[sm];rw[b a];omega
theorem Wj:∀ (n:Nat) (R:Aa (Nat->Int)) (S:Aa Nat),R.length=n->S.Nodup->n<S.length ->
  ∃ w:Nat->Int,(∃ s∈S,w s≠0)/\(∀ s,s∉S->w s=0)/\∀ f∈R,sm (λs=>f s*w s) S=0:=by
 intro n;induction n with
 | zero =>
  intro R S d _ B;cases R with
  | cons _ _=>cases d
  | nil =>
  cases S with
  | nil=>cases B
  | cons t S =>
   refine⟨λs=>if s=t then 1 else 0,⟨t,by simp,by simp⟩,λs a=>?_,λf K=>by cases K⟩;have:s≠t:=λe=>a (by simp[e])
   simp[this]
 | succ n G =>
  intro R S d y B;cases R with
  | nil=>cases d
  | cons f R =>
  have d:R.length=n:=by simpa using d
  by_cases F:∀ s∈S,f s=0
  .obtain⟨w,H,q,v⟩:=G R S d y (by omega);refine⟨w,H,q,λg i=>?_⟩;cases i with
   | head=>exact wT λs a=>by simp[F s a]
   | tail _ i=>exact v g i
  .have ⟨t,z,x⟩:∃ t,t∈S/\f t≠0:=by
    apply aX;intro m;exact F λs a=>aX λh=>m ⟨s,a,h⟩
   have D:(S.erase t).length=S.length-1:=kI z;have b:∀ s,s∈S.erase t->s≠t/\s∈S:=λs a=>(kJ y).mp a
   obtain⟨w,⟨u,E,A⟩,q,v⟩:=G (R.map λg s=>f t*g s-g t*f s) (S.erase t)
    (by rw[aA,d]) (y.erase t) (by omega)
   obtain⟨c,m⟩:∃ c,sm (λs=>f s*w s) (S.erase t)=c:=⟨_,rfl⟩;refine⟨λs=>if s=t then -c else f t*w s,⟨u,(b u E).2,?_⟩,λs a=>?_,λg i=>?_⟩
   .simp only[(b u E).1,fO];exact gC x A
   .have h:s≠t:=λe=>a (e▸z)
    simp only[h,fO];rw[q s λL=>a (b s L).2];exact cC _
   .have key:∀ k:Nat->Int,sm (λs=>k s*(if s=t then -c else f t*w s)) S
      = -(k t*c)+f t*sm (λs=>k s*w s) (S.erase t):=λk=>by
     rw[Ry _ z,zC (g:=λs=>f t*(k s*w s)) λs a=>by
      simp only[(b s a).1,fO];exact eM _ _ _,uZ]
     simp only[hU];rw[nF]
    rw[key g];cases i with
    | head=>rw[m];omega
    | tail _ i =>
     have:=v _ (bV i);rw[zC (g:=λs=>f t*(g s*w s)+(-(g t))*(f s*w s)) λs _=>by
      rw[nG,dJ,dJ,mN];rfl,Cb,uZ,uZ,m,mN] at this
     omega
theorem F7 {f:Nat->Int}:∀ {S T:Aa Nat},S.Nodup->T.Nodup->(∀ s∈S,s∈T)->(∀ s∈T,s∉S->f s=0) ->
  sm f T=sm f S:=by
 intro S;induction S with
 | nil=>intro T _ _ _ h;rw[wT λs b=>h s b (by simp)];rfl
 | cons t S n =>
  intro T i c b m;have k:=b t (by simp);have a:=bM.mp i;rw[Ry f k];simp only[sm];rw[n a.2 (c.erase t) (λs h=>(kJ c).mpr ⟨λe=>a.1 (e▸h),b s (by simp[h])⟩) λs h d=>by
    have h:=(kJ c).mp h;exact m s h.2 (by simp[h.1,d])]
/-- rows with own places (a row is not 0 at its own,and rows of a list behind are 0 there) that come to 0 only where
fewer rows do: there are not more of them -/
theorem few {T:Aa Nat}(o:T.Nodup){R:Aa (Nat->Int)}{P:Aa (Nat×(Nat->Int))}(g:(P.map (·.1)).Nodup)
  (r:∀ p∈P,p.1∈T) (j:∀ p∈P,p.2 p.1≠0) (l:P.Pairwise λp q=>q.2 p.1=0)
  (hk:∀ w:Nat->Int,(∀ f∈R,sm (λs=>f s*w s) T=0)->∀ p∈P,sm (λs=>p.2 s*w s) T=0) :
  P.length<=R.length:=by
 apply aX;intro i;obtain⟨w,⟨u,A,hw⟩,x,m⟩:=Wj R.length R (P.map (·.1)) rfl g (by rw[aA];omega);have d:∀ s∈P.map (·.1),s∈T:=λs h=>by
  obtain⟨p,a,rfl⟩:=aM.mp h;exact r p a
 have c:∀ f:Nat->Int,sm (λs=>f s*w s) T=sm (λs=>f s*w s) (P.map (·.1)):=λf =>
  F7 g o d λs _ h=>by rw[x s h];exact cC _
 have n:=hk w λf z=>by rw[c];exact m f z
 have y:∀ p∈P,sm (λs=>p.2 s*w s) (P.map (·.1))=0:=λp a=>by rw[<- c];exact n p a
 clear n c d m hk i;have:∀ (Q:Aa (Nat×(Nat->Int))) ,(Q.map (·.1)).Nodup->(∀ p∈Q,p.2 p.1≠0)->(Q.Pairwise λp q=>q.2 p.1=0) ->
   (∀ p∈Q,sm (λs=>p.2 s*w s) (Q.map (·.1))=0)->∀ p∈Q,w p.1=0:=by
  intro Q;induction Q with
  | nil=>intro _ _ _ _ p a;cases a
  | cons q Q B =>
   intro g j l t;have e:=List.pairwise_cons.mp l;have k:=bM.mp g;have b:=B k.2 (λp a=>j p (by simp[a])) e.2 λp a=>by
    have:=t p (by simp[a]);simp only[aN,sm] at this;rw[e.1 p a] at this;simpa using this
   intro p a;cases a with
   | tail _ a=>exact b p a
   | head =>
    have:=t q (by simp);simp only[aN,sm] at this;rw[wT λs h=>by
     obtain⟨p,a,rfl⟩:=aM.mp h;rw[b p a];exact cC _] at this
    have v:q.2 q.1*w q.1=0:=by simpa using this
    exact (cP.mp v).resolve_left (j q (by simp))
 obtain⟨p,a,rfl⟩:=aM.mp A;exact hw (this P g j l y p a)
def ix (v:Aa Int) (k:Nat):Int:=v.getD k 0
def gc (l:Aa Int):Nat:=l.foldl (λa n=>Nat.gcd a n.natAbs) 0
def wd (l:Aa Int):Aa Int:=l.map (·/((max 1 (gc l):Nat):Int))
def cl (v b:Aa Int) (k:Nat):Aa Int :=
 if ix v k=0 then v else wd (List.zipWith (λx y=>ix b k*x-ix v k*y) v b)
abbrev dot (m:Nat) (v:Aa Int) (w:Nat->Int):Int:=sm (λs=>ix v s*w s) (List.range m)
theorem LW {d:Nat}{x:Int}(h:d ∣ x.natAbs):(d:Int) ∣ x:=gH.mp (by simpa using h)
theorem Uf {d:Nat}{x:Int}(h:(d:Int) ∣ x):d ∣ x.natAbs:=by simpa using gH.mpr h
theorem Rx:∀ (l:Aa Int) (a:Nat),(l.foldl (λa n=>Nat.gcd a n.natAbs) a) ∣ a/\∀ x∈l,((l.foldl (λa n=>Nat.gcd a n.natAbs) a:Nat):Int) ∣ x
 | [],a=>⟨Nat.dvd_refl _,λx h=>by cases h⟩
 | y::l,a=>by
  have ⟨c,d⟩:=Rx l (Nat.gcd a y.natAbs);refine⟨Nat.dvd_trans c (lR _ _),λx b=>?_⟩;cases b with
  | head=>exact LW (Nat.dvd_trans c (Nat.gcd_dvd_right _ _))
  | tail _ b=>exact d x b
theorem Aq {l:Aa Int}{x:Int}(h:x∈l):(gc l:Int) ∣ x:=(Rx l 0).2 x h
theorem Nn:∀ (l:Aa Int) (a d:Nat),d ∣ a->(∀ x∈l,(d:Int) ∣ x)->d ∣ l.foldl (λa n=>Nat.gcd a n.natAbs) a
 | [],_,_,h,_=>h
 | y::l,_,_,h,b=>Nn l _ _ (Nat.dvd_gcd h (Uf (b y (by simp)))) λx c=>b x (by simp[c])
theorem Fg {l:Aa Int}{d:Nat}(h:∀ x∈l,(d:Int) ∣ x):d ∣ gc l:=Nn l 0 d (Nat.dvd_zero d) h
theorem G4 {l:Aa Int}(h:gc l=0):∀ x∈l,x=0:=λx a=>by
 have:=Aq a;rw[h] at this;exact Int.zero_dvd.mp (by simpa using this)
theorem Nu {l:Aa Int}{x:Int}(h:x∈l):((max 1 (gc l):Nat):Int) ∣ x:=by
 by_cases a:gc l=0
 .rw[a,G4 a x h];exact Int.dvd_zero _
 .rw[jF (by omega)];exact Aq h
theorem U5 (l:Aa Int):(wd l).length=l.length:=aA _
theorem ix_mem {l:Aa Int}{k:Nat}(h:k<l.length):ix l k∈l:=by
 unfold ix;rw[List.getD_eq_getElem?_getD,List.getElem?_eq_getElem h];exact fJ h
theorem ix_out {l:Aa Int}{k:Nat}(h:¬ k<l.length):ix l k=0:=by
 unfold ix;rw[List.getD_eq_getElem?_getD,List.getElem?_eq_none (by omega)];rfl
theorem GQ (f:Int->Int) (g:f 0=0) (l:Aa Int) (k:Nat):ix (l.map f) k=f (ix l k):=by
 unfold ix;rw[List.getD_eq_getElem?_getD,List.getD_eq_getElem?_getD,List.getElem?_map];cases l[k]? with
 | none=>exact g.symm
 | some x=>rfl
theorem Fb (l:Aa Int) (k:Nat):((max 1 (gc l):Nat):Int)*ix (wd l) k=ix l k:=by
 unfold wd;rw[GQ (λx=>x/((max 1 (gc l):Nat):Int)) (Int.zero_ediv _)];by_cases h:k<l.length
 .exact Int.mul_ediv_cancel' (Nu (ix_mem h))
 .rw[ix_out h,Int.zero_ediv,cC]
theorem L8 {l:Aa Int}(h:gc l≠0):gc (wd l)=1:=by
 have hd:gc l*gc (wd l) ∣ gc l:=Fg λx f=>by
  obtain⟨c,b⟩:=Aq f;have a:x/((max 1 (gc l):Nat):Int)∈wd l:=bV f;rw[jF (by omega)] at a;have e:x/(gc l:Int)=c:=by rw[b];exact kK c (by omega)
  rw[e] at a;obtain⟨d,hd⟩:=Aq a;exact⟨d,by rw[b,hd,nC,dJ]⟩
 exact Nat.dvd_one.mp (Nat.dvd_of_mul_dvd_mul_left (by omega:0<gc l) (by simpa using hd))
theorem Jn {a b:Aa Int}(f:Int->Int->Int) (g:f 0 0=0) (j:a.length=b.length) (k:Nat):ix (List.zipWith f a b) k=f (ix a k) (ix b k):=by
 unfold ix;simp only[bP,List.getElem?_zipWith];by_cases h:k<a.length
 .rw[aE h,aE (j▸h)];rfl
 .rw[eY (by omega),eY (by omega)];exact g.symm
theorem cl_len {v b:Aa Int}{k:Nat}(g:v.length=b.length):(cl v b k).length=v.length:=by
 unfold cl;split
 .rfl
 .rw[U5,eK,<- g,mB]
theorem Dp {v b:Aa Int}{k:Nat}(j:v.length=b.length) (g:ix b k≠0):∃ d c e:Int,0<d/\c≠0/\(ix v k=0->e=0)/\(∀ s,d*ix (cl v b k) s=c*ix v s-e*ix b s)/\ix (cl v b k) k=0:=by
 unfold cl;split
 .rename_i h
  exact⟨1,1,0,by decide,by decide,λ_=>rfl,λs=>by simp,h⟩
 .rename_i h
  have key:=λs=>(Fb (List.zipWith (λx y=>ix b k*x-ix v k*y) v b) s).trans (Jn (λx y=>ix b k*x-ix v k*y) (by simp) j s)
  have hd:0<((max 1 (gc (List.zipWith (λx y=>ix b k*x-ix v k*y) v b)):Nat):Int):=by omega
  refine⟨_,ix b k,ix v k,hd,g,λa=>absurd a h,key,?_⟩;have:=key k;rw[iT (ix b k),mY] at this;exact (cP.mp this).resolve_left (by omega)
theorem Va {m:Nat}{r v b:Aa Int}{d c e:Int}{w:Nat->Int}(h:∀ s,d*ix r s=c*ix v s-e*ix b s):d*dot m r w=c*dot m v w-e*dot m b w:=by
 have:c*dot m v w-e*dot m b w=c*dot m v w+(-e)*dot m b w:=by rw[mN];rfl
 rw[this];unfold dot;rw[<- uZ,<- uZ,<- uZ,<- Cb];exact zC λs _=>by
  rw[<- dJ,h s,nG,dJ,dJ,mN];rfl
theorem Ly {m:Nat}{v b:Aa Int}{k:Nat}{w:Nat->Int}(j:v.length=b.length) (g:ix b k≠0) (h:dot m b w=0):dot m (cl v b k) w=0↔dot m v w=0:=by
 obtain⟨d,c,e,hd,f,_,i,_⟩:=Dp j g;have:=Va (m:=m) (w:=w) i;rw[h,cC,mZ] at this;constructor
 .intro a;rw[a,cC] at this;exact (cP.mp this.symm).resolve_left f
 .intro a;rw[a,cC] at this;exact (cP.mp this).resolve_left (by omega)
theorem Kr {v b:Aa Int}{k s:Nat}(o:v.length=b.length) (l:ix b k≠0) (g:ix v s=0) (j:ix b s=0):ix (cl v b k) s=0:=by
 obtain⟨d,c,e,hd,_,_,a,_⟩:=Dp o l;have:=a s;rw[g,j,cC,cC] at this;exact (cP.mp this).resolve_left (by omega)
theorem Mw {v b:Aa Int}{k s:Nat}(o:v.length=b.length) (l:ix b k≠0) (g:ix v s≠0) (j:ix b s=0):ix (cl v b k) s≠0:=by
 obtain⟨d,c,e,hd,a,_,f,_⟩:=Dp o l;have:=f s;rw[j,cC,mZ] at this;intro h;rw[h,cC] at this;exact (gC a g) this.symm
structure Inv (m:Nat) (K:(Nat->Int)->Prop) (hs:List (Nat×List Int)):Prop where
 nd:(hs.map (·.1)).Nodup
 lt:∀ h∈hs,h.1<m
 len:∀ h∈hs,h.2.length=m
 own:∀ h∈hs,ix h.2 h.1≠0
 beh:∀ h∈hs,∀ j,h.1<j->ix h.2 j=0
 oth:∀ h∈hs,∀ g∈hs,h.1≠g.1->ix h.2 g.1=0
 ker:∀ w,K w↔∀ h∈hs,dot m h.2 w=0
theorem Inv.nil (m:Nat):Inv m (λ_=>True) [] :=
 have e:∀ {P:Nat×Aa Int->Prop},∀ h∈([]:Aa (Nat×Aa Int)),P h:=λ_ h=>nomatch h
 ⟨iZ,e,e,e,e,e,λ_=>⟨λ_=>e,λ_=>trivial⟩⟩
def rest (g:Aa (Nat×Aa Int)) (v:Aa Int):Aa Int:=g.foldl (λr h=>cl r h.2 h.1) v
theorem Nl {m:Nat}{K:(Nat->Int)->Prop}{l:Aa (Nat×Aa Int)}(I:Inv m K l):∀ (j:Aa (Nat×Aa Int)) (D:Nat->Prop) (r:Aa Int),(∀ h∈j,h∈l)->r.length=m->(∀ k,D k->ix r k=0/\∃ g∈l,g.1=k) ->
  (rest j r).length=m/\(∀ k,D k\/k∈j.map (·.1)->ix (rest j r) k=0)/\∀ w,(∀ h∈l,dot m h.2 w=0)->(dot m (rest j r) w=0↔dot m r w=0)
 | [],D,r,_,d,i=>⟨d,λk h=>(i k (h.resolve_right (by simp))).1,λ_ _=>Iff.rfl⟩
 | h::j,D,r,q,d,i=>by
  have b:=q h (by simp);have a:r.length=h.2.length:=d.trans (I.len h b).symm;have n:=I.own h b;obtain⟨t,u,v⟩:=Nl I j (λk=>D k\/k=h.1) (cl r h.2 h.1) (λg c=>q g (by simp[c])) ((cl_len a).trans d) λk hk=>by
   by_cases e:k=h.1
   .refine⟨?_,h,b,e.symm⟩;obtain⟨_,_,_,_,_,_,_,f⟩:=Dp a n;rw[e];exact f
   .obtain⟨f,g,c,rfl⟩:=i k (hk.resolve_right e);exact⟨Kr a n f (I.oth h b g c λs=>e s.symm),g,c,rfl⟩
  refine⟨t,λk hk=>u k ?_,λw hw=>(v w hw).trans (Ly a n (hw h b))⟩;rcases hk with hk | hk
  .exact .inl (.inl hk)
  .rw[aN] at hk;cases hk with
   | head=>exact .inl (.inr rfl)
   | tail _ hk=>exact .inr hk
theorem Inv.rest {m:Nat}{K:(Nat->Int)->Prop}{g:Aa (Nat×Aa Int)}(I:Inv m K g){v:Aa Int}(j:v.length=m) :
  (rest g v).length=m/\(∀ h∈g,ix (EQ.rest g v) h.1=0)/\∀ w,(∀ h∈g,dot m h.2 w=0)->(dot m (EQ.rest g v) w=0↔dot m v w=0):=by
 obtain⟨a,b,c⟩:=Nl I g (λ_=>False) v (λ_ h=>h) j λ_ h=>h.elim
 exact⟨a,λh d=>b _ (.inr (bV d)),c⟩
theorem Inv.same {m:Nat}{K:(Nat->Int)->Prop}{g:Aa (Nat×Aa Int)}(I:Inv m K g){v:Aa Int}(l:v.length=m) (j:∀ s,ix (EQ.rest g v) s=0) :
  Inv m (λw=>K w/\dot m v w=0) g :=
 ⟨I.nd,I.lt,I.len,I.own,I.beh,I.oth,λw=>by
  rw[I.ker w];exact⟨λh=>h.1,λh=>⟨h,((I.rest l).2.2 w h).mp (wT λs _=>by rw[j s];exact fX _)⟩⟩⟩
theorem Inv.more {m:Nat}{K:(Nat->Int)->Prop}{l:Aa (Nat×Aa Int)}(I:Inv m K l){v:Aa Int}(C:v.length=m){a:Nat}(o:ix (EQ.rest l v) a≠0) (p:∀ j,a<j->ix (EQ.rest l v) j=0) :
  Inv m (λw=>K w/\dot m v w=0) (l.map (λh=>(h.1,cl h.2 (EQ.rest l v) a))++[(a,EQ.rest l v)]):=by
 obtain⟨z,s,A⟩:=I.rest C;generalize EQ.rest l v=r at *;have f:∀ h∈l,h.1≠a:=λh c e=>o (e▸s h c)
 have d:∀ h∈l,h.2.length=r.length:=λh c=>(I.len h c).trans z.symm
 have am:a<m:=aX λh=>o (ix_out (by omega))
 have b:∀ {P:Nat×Aa Int->Prop},(∀ h∈l,P (h.1,cl h.2 r a))->P (a,r)->∀ h∈l.map (λh=>(h.1,cl h.2 r a))++[(a,r)],P h:=λi k h c=>by
  rcases aT.mp c with c | c
  .obtain⟨g,n,rfl⟩:=aM.mp c;exact i g n
  .rw[aO.mp c];exact k
 refine⟨?_,b I.lt am,b (λh c=>(cl_len (d h c)).trans (I.len h c)) z,b (λh c=>Mw (d h c) o (I.own h c) (s h c)) o,b (λh c j t=>?_) p,b (λh c=>b (λg n ne=>Kr (d h c) o (I.oth h c g n ne) (s g n)) λ_=>?_) (b (λg n _=>s g n) λne=>absurd rfl ne),λw=>?_⟩
 .rw[bE,bA];refine bU.mpr ⟨I.nd,by simp,λx E y u e=>?_⟩;obtain⟨h,c,rfl⟩:=aM.mp E;rw[jM,aO] at u;exact f h c (e.trans u)
 .by_cases e:ix h.2 a=0
  .show ix (cl h.2 r a) j=0;unfold cl;rw[if_pos e];exact I.beh h c j t
  .have D:a<h.1:=aX λF=>e (I.beh h c a (by have:=f h c;omega))
   exact Kr (d h c) o (I.beh h c j t) (p j (by have:h.1<j:=t;omega))
 .obtain⟨_,_,_,_,_,_,_,B⟩:=Dp (d h c) o;exact B
 .rw[I.ker w];constructor
  .rintro ⟨i,k⟩;have q:=(A w i).mpr k;exact b (λh c=>(Ly (d h c) o q).mpr (i h c)) q
  .intro i;have q:=i (a,r) (by simp);have k:∀ h∈l,dot m h.2 w=0:=λh c=>(Ly (d h c) o q).mp (i _ (bK _ (bV c)))
   exact⟨k,(A w k).mp q⟩
def whole (g:Aa (Nat×Aa Int)) (f:Nat) (a:Int):Int :=
 g.foldl (λa h=>a*((ix h.2 h.1).natAbs:Int)/(Nat.gcd (ix h.2 h.1).natAbs (ix h.2 f).natAbs:Int)) a
def put (j:Aa (Nat×Aa Int)) (f:Nat) (q:Int) (g:Aa Int):Aa Int :=
 j.foldl (λg h=>g.set h.1 ((-(q*ix h.2 f)).fdiv (ix h.2 h.1))) g
def shown (m:Nat) (g:Aa (Nat×Aa Int)) (f:Nat):Aa Int :=
 wd (put g f (whole g f 1) ((List.replicate m 0).set f (whole g f 1)))
theorem R5 {f:Nat}:∀ (j:Aa (Nat×Aa Int)) (a:Int),(∀ h∈j,ix h.2 h.1≠0)->0<a ->
  0<whole j f a/\a ∣ whole j f a/\∀ h∈j,ix h.2 h.1 ∣ whole j f a*ix h.2 f
 | [],a,_,c=>⟨c,Int.dvd_refl a,λ_ h=>nomatch h⟩
 | h::j,a,i,c=>by
  have B:=i h (by simp);have d:0<Nat.gcd (ix h.2 h.1).natAbs (ix h.2 f).natAbs:=Nat.gcd_pos_of_pos_left _ (by omega);obtain⟨p,b⟩:=lR (ix h.2 h.1).natAbs (ix h.2 f).natAbs;obtain⟨q,m⟩:=Nat.gcd_dvd_right (ix h.2 h.1).natAbs (ix h.2 f).natAbs;generalize v:Nat.gcd (ix h.2 h.1).natAbs (ix h.2 f).natAbs=g at d b m;have x:0<p:=by
   rcases mE p with e | e
   .rw[e] at b;omega
   .exact e
  have s:a*((ix h.2 h.1).natAbs:Int)/(g:Int)=a*p:=by
   rw[b,nC,eM];exact kK _ (by omega)
  obtain⟨z,n,A⟩:=R5 (f:=f) j (a*p) (λg w=>i g (by simp[w])) (Int.mul_pos c (by omega));have u:whole (h::j) f a=whole j f (a*p):=by
   show whole j f (a*((ix h.2 h.1).natAbs:Int)/(Nat.gcd (ix h.2 h.1).natAbs (ix h.2 f).natAbs:Int))=_;rw[v,s]
  rw[u];refine⟨z,mR (mO _ _) n,λk hk=>?_⟩;cases hk with
  | tail _ hk=>exact A k hk
  | head =>
   obtain⟨t,y⟩:=n;refine gH.mp ?_;rw[y,eP,eP,eP,m,b,iE];exact⟨a.natAbs*t.natAbs*q,by simp only[mS,iN,Nat.mul_left_comm]⟩
theorem U1 {l:Aa Int}{k s:Nat}{x:Int}(h:k<l.length):ix (l.set k x) s=if s=k then x else ix l s:=by
 unfold ix;rw[List.getD_eq_getElem?_getD,List.getD_eq_getElem?_getD,List.getElem?_set];by_cases e:k=s
 .subst e;simp[h]
 .have:s≠k:=λh=>e h.symm
  simp[e,this]
theorem put_len {f:Nat}{q:Int}:∀ (g:Aa (Nat×Aa Int)) (j:Aa Int),(put g f q j).length=j.length
 | [],_=>rfl
 | _::g,_=>(put_len g _).trans (aY ..)
theorem Q6 {f:Nat}{q:Int}:∀ (j:Aa (Nat×Aa Int)) (l:Aa Int),(j.map (·.1)).Nodup->(∀ h∈j,h.1<l.length) ->
  (∀ s,s∉j.map (·.1)->ix (put j f q l) s=ix l s)/\∀ h∈j,ix (put j f q l) h.1=(-(q*ix h.2 f)).fdiv (ix h.2 h.1)
 | [],_,_,_=>⟨λ_ _=>rfl,λ_ h=>nomatch h⟩
 | h::j,l,m,i=>by
  have c:=bM.mp m;obtain⟨k,n⟩:=Q6 (f:=f) (q:=q) j (l.set h.1 ((-(q*ix h.2 f)).fdiv (ix h.2 h.1))) c.2 λg b=>by
   rw[aY];exact i g (by simp[b])
  have d:=λs=>U1 (s:=s) (x:=(-(q*ix h.2 f)).fdiv (ix h.2 h.1)) (i h (by simp))
  refine⟨λs a=>?_,λg b=>?_⟩
  .rw[aN,aI] at a;have:=k s λe=>a (.inr e)
   rw[d,aJ λe=>a (.inl e)] at this;exact this
  .cases b with
   | head=>have:=k h.1 c.1;rw[d,aP rfl] at this;exact this
   | tail _ b=>exact n g b
theorem BN (m s:Nat):ix (List.replicate m 0) s=0:=by
 unfold ix;rw[List.getD_eq_getElem?_getD,List.getElem?_replicate];split<;>rfl
theorem Inv.shown {m:Nat}{K:(Nat->Int)->Prop}{j:Aa (Nat×Aa Int)}(I:Inv m K j){f:Nat}(l:f<m) (hk:f∉j.map (·.1)) :
  (shown m j f).length=m/\K (ix (EQ.shown m j f))/\gc (EQ.shown m j f)=1/\0<ix (EQ.shown m j f) f /\
  (∀ s,s<f->ix (EQ.shown m j f) s=0)/\∀ s,s≠f->s∉j.map (·.1)->ix (EQ.shown m j f) s=0:=by
 obtain⟨P,_,M⟩:=R5 (f:=f) j 1 I.own (by decide);unfold EQ.shown;generalize whole j f 1=q at *;have n:((List.replicate m (0:Int)).set f q).length=m:=by rw[aY,cO]
 obtain⟨x,H⟩:=Q6 (f:=f) (q:=q) j ((List.replicate m 0).set f q) I.nd λh b=>by rw[n];exact I.lt h b
 have L:=(put_len (f:=f) (q:=q) j ((List.replicate m 0).set f q)).trans n;generalize put j f q ((List.replicate m 0).set f q)=c at *;have y:∀ s,ix ((List.replicate m (0:Int)).set f q) s=if s=f then q else 0:=λs=>by
  rw[U1 (by rw[cO];exact l),BN]
 have A:ix c f=q:=by rw[x f hk,y,aP rfl]
 have w:∀ s,s≠f->s∉j.map (·.1)->ix c s=0:=λs d i=>by rw[x s i,y,aJ d]
 have B:∀ h∈j,ix h.2 h.1*ix c h.1 = -(q*ix h.2 f):=λh b=>by
  rw[H h b];exact Int.mul_fdiv_cancel' (Int.dvd_neg.mpr (M h b))
 have N:∀ s,s<f->ix c s=0:=λs a=>by
  by_cases t:s∈j.map (·.1)
  .obtain⟨h,b,rfl⟩:=aM.mp t;have:=B h b;rw[I.beh h b f a,cC,Int.neg_zero] at this;exact (cP.mp this).resolve_left (I.own h b)
  .exact w s (by omega) t
 have G:∀ h∈j,dot m h.2 (ix c)=0:=λh b=>by
  have u:f≠h.1:=λe=>hk (e▸bV b)
  unfold dot;rw[F7 (S:=[f,h.1]) (by simp[u]) jG (λs a=>by
   rcases aI.mp a with rfl | a
   .exact cB.mpr l
   .rw[aO.mp a];exact cB.mpr (I.lt h b)) λs _ a=>by
   have d:s≠f:=λe=>a (by simp[e])
   have i:s≠h.1:=λe=>a (by simp[e])
   by_cases t:s∈j.map (·.1)
   .obtain⟨g,F,rfl⟩:=aM.mp t;rw[I.oth h b g F λe=>i e.symm];exact fX _
   .rw[w s d t];exact cC _]
  simp only[sm];rw[A,B h b,iT q];omega
 have E:gc c≠0:=λe=>by
  have:=G4 e _ (ix_mem (k:=f) (by omega));omega
 have v:=λs=>Fb c s
 have D:0<((max 1 (gc c):Nat):Int):=by omega
 have z:∀ s,ix c s=0->ix (wd c) s=0:=λs h=>by
  have:=v s;rw[h] at this;exact (cP.mp this).resolve_left (by omega)
 refine⟨(U5 c).trans L,(I.ker _).mpr λh b=>?_,L8 E,?_,λs h=>z s (N s h),λs d i=>z s (w s d i)⟩
 .have e:((max 1 (gc c):Nat):Int)*dot m h.2 (ix (wd c))=0:=by
   rw[<- G h b];unfold dot;rw[<- uZ];exact zC λs _=>by rw[eM,v s]
  exact (cP.mp e).resolve_left (by omega)
 .have:=v f;rw[A] at this;apply aX;intro O;have:=Int.mul_nonneg (Int.le_of_lt D) (show 0 <= -ix (wd c) f by omega);rw[nF] at this;omega
def off (head:Aa Int) (k:Nat) (row:Aa Int):Aa Int:=List.zipWith (λx y=>ix head k*x-ix row k*y) row head
def told (head:Aa Int) (k:Nat) (left:Aa (Aa Int)):Aa (Aa Int) :=
 ((left.map (off head k)).filter λr=>decide (0<gc r)).map λr=>r.map (·/(gc r:Int))
def rk1 (k:Nat) (st:Aa (Aa Int)×Nat):Aa (Aa Int)×Nat :=
 match st.1.filter λr=>decide (ix r k≠0) with
 | []=>st
 | head::_=>(told head k st.1,st.2+1)
def rank (m:Nat) (rows:Aa (Aa Int)):Nat:=((List.range m).foldl (λst k=>rk1 k st) (rows,0)).2
structure RInv (m:Nat) (K:(Nat->Int)->Prop) (k:Nat) (left:List (List Int)) (P:List (Nat×(Nat->Int))):Prop where
 len:∀ r∈left,r.length=m
 zero:∀ r∈left,∀ j,j<k->ix r j=0
 nd:(P.map (·.1)).Nodup
 lt:∀ p∈P,p.1<k
 own:∀ p∈P,p.2 p.1≠0
 ord:P.Pairwise λp q=>q.2 p.1=0
 ker:∀ w,K w↔(∀ p∈P,sm (λs=>p.2 s*w s) (List.range m)=0)/\∀ r∈left,dot m r w=0
theorem off_len {head row:Aa Int}{k:Nat}(h:row.length=head.length):(off head k row).length=head.length:=by
 unfold off;rw[List.length_zipWith,h,Nat.min_self]
theorem E6 {head row:Aa Int}{k:Nat}(h:row.length=head.length) (s:Nat):ix (off head k row) s=ix head k*ix row s-ix row k*ix head s :=
 Jn (λx y=>ix head k*x-ix row k*y) (by simp) h s
theorem Oi {m:Nat}{head row:Aa Int}{k:Nat}{w:Nat->Int}(h:row.length=head.length):dot m (off head k row) w=ix head k*dot m row w-ix row k*dot m head w:=by
 have:=Va (m:=m) (w:=w) (r:=off head k row) (v:=row) (b:=head) (d:=1) (c:=ix head k) (e:=ix row k) λs=>by rw[E6 h,Int.one_mul]
 rw[Int.one_mul] at this;exact this
theorem Fj {r:Aa Int}(h:0<gc r) (s:Nat):(gc r:Int)*ix (r.map (·/(gc r:Int))) s=ix r s:=by
 have:=Fb r s;unfold wd at this;rw[Nat.max_eq_right (by omega)] at this;exact this
theorem Rt {m:Nat}{r:Aa Int}{w:Nat->Int}(h:0<gc r):(gc r:Int)*dot m (r.map (·/(gc r:Int))) w=dot m r w:=by
 unfold dot;rw[<- uZ];exact zC λs _=>by rw[<- dJ,Fj h]
theorem RInv.step {m:Nat}{K:(Nat->Int)->Prop}{k:Nat}{left:Aa (Aa Int)}{P:Aa (Nat×(Nat->Int))}(I:RInv m K k left P) :
  ∃ g,RInv m K (k+1) (rk1 k (left,P.length)).1 g/\(rk1 k (left,P.length)).2=g.length:=by
 unfold rk1;cases v:left.filter (λr=>decide (ix r k≠0)) with
 | nil =>
  refine⟨P,⟨I.len,λr b j D=>?_,I.nd,λp a=>lH (I.lt p a),I.own,I.ord,I.ker⟩,rfl⟩;by_cases e:j=k
  .subst e;have:=gZ.mp v r b;simpa using this
  .exact I.zero r b j (by omega)
 | cons head F =>
  have z:head∈left.filter (λr=>decide (ix r k≠0)):=v▸aF;have f:=(bR.mp z).1;have u:ix head k≠0:=by simpa using (bR.mp z).2
  have len:∀ r∈left,r.length=head.length:=λr b=>(I.len r b).trans (I.len head f).symm
  have t:∀ r∈told head k left,∃ x∈left,0<gc (off head k x)/\r=(off head k x).map (·/(gc (off head k x):Int)):=λr b=>by
   obtain⟨y,i,rfl⟩:=aM.mp b;obtain⟨i,d⟩:=bR.mp i;obtain⟨x,c,rfl⟩:=aM.mp i;exact⟨x,c,by simpa using d,rfl⟩
  refine⟨P++[(k,ix head)],⟨λr b=>?_,λr b j D=>?_,?_,λp a=>?_,λp a=>?_,?_,λw=>?_⟩,by rw[aZ];rfl⟩
  .obtain⟨x,c,_,rfl⟩:=t r b;rw[aA,off_len (len x c)];exact I.len head f
  .obtain⟨x,c,d,rfl⟩:=t r b;have e:ix (off head k x) j=0:=by
    rw[E6 (len x c)];by_cases e:j=k
    .subst e;rw[iT];exact mY _
    .rw[I.zero x c j (by omega),I.zero head f j (by omega),cC,cC];rfl
   have:=Fj d j;rw[e] at this;exact (cP.mp this).resolve_left (by omega)
  .rw[bE];refine bU.mpr ⟨I.nd,by simp,λx c y i e=>?_⟩;obtain⟨p,a,rfl⟩:=aM.mp c;rw[jM,aO] at i;have:=I.lt p a;omega
  .rcases aT.mp a with a | a
   .exact lH (I.lt p a)
   .rw[aO.mp a];exact mT k
  .rcases aT.mp a with a | a
   .exact I.own p a
   .rw[aO.mp a];exact u
  .refine List.pairwise_append.mpr ⟨I.ord,List.pairwise_singleton _ _,λp a q E=>?_⟩;rw[aO.mp E];exact I.zero head f p.1 (I.lt p a)
  .rw[I.ker w];constructor
   .rintro ⟨n,h⟩;refine⟨λp a=>?_,λr b=>?_⟩
    .rcases aT.mp a with a | a
     .exact n p a
     .rw[aO.mp a];exact h head f
    .obtain⟨x,c,d,rfl⟩:=t r b;have:=Rt (m:=m) (w:=w) d;rw[Oi (len x c),h x c,h head f,cC,cC,mZ] at this;exact (cP.mp this).resolve_left (by omega)
   .rintro ⟨n,h⟩;refine⟨λp a=>n p (bK _ a),λr b=>?_⟩;have hd:dot m head w=0:=n (k,ix head) (by simp);have A:dot m (off head k r) w=0:=by
     by_cases d:0<gc (off head k r)
     .rw[<- Rt d,h _ (bV (bR.mpr ⟨bV b,by simpa using d⟩))];exact cC _
     .exact wT λs _=>by
       by_cases B:s<(off head k r).length
       .rw[G4 (by omega) _ (ix_mem B)];exact fX _
       .rw[ix_out B];exact fX _
    rw[Oi (len r b),hd,cC,mZ] at A;exact (cP.mp A).resolve_left u
theorem rank_inv {m:Nat}{K:(Nat->Int)->Prop}{rows:Aa (Aa Int)}(j:∀ r∈rows,r.length=m) (g:∀ w,K w↔∀ r∈rows,dot m r w=0) :
  ∀ k,∃ P,RInv m K k ((List.range k).foldl (λst k=>rk1 k st) (rows,0)).1 P/\((List.range k).foldl (λst k=>rk1 k st) (rows,0)).2=P.length
 | 0=>⟨[],⟨j,λ_ _ _ h=>absurd h (jO _),iZ,λ_ h=>(nomatch h),λ_ h=>(nomatch h),List.Pairwise.nil,λw=>(g w).trans ⟨λh=>⟨λ_ h=>(nomatch h),h⟩,λh=>h.2⟩⟩,rfl⟩
 | k+1=>by
  obtain⟨P,I,e⟩:=rank_inv j g k;rw[nE,eL];obtain⟨c,a,b⟩:=I.step;rw[<- e] at a b;exact⟨c,a,b⟩
theorem rank_eq {m:Nat}{K:(Nat->Int)->Prop}{rows:Aa (Aa Int)}(l:∀ r∈rows,r.length=m) (j:∀ w,K w↔∀ r∈rows,dot m r w=0)
  {g:Aa (Nat×Aa Int)}(J:Inv m K g):rank m rows=g.length:=by
 obtain⟨P,I,e⟩:=rank_inv l j m;have kP:∀ w,K w↔∀ p∈P,sm (λs=>p.2 s*w s) (List.range m)=0:=λw=>by
  rw[I.ker w];refine⟨λh=>h.1,λh=>⟨h,λr d=>wT λs g=>?_⟩⟩;rw[I.zero r d s (cB.mp g)];exact fX _
 unfold rank;rw[e];refine kN ?_ ?_
 .have:=few (T:=List.range m) jG (R:=g.map λh=>ix h.2) I.nd (λp a=>cB.mpr (I.lt p a)) I.own I.ord
   λw hw=>(kP w).mp ((J.ker w).mpr λh b=>hw _ (bV b))
  rwa [aA] at this
 .have:=few (T:=List.range m) jG (R:=P.map (·.2)) (P:=g.map λh=>(h.1,ix h.2)) (by rw[bA];exact J.nd)
   (λp a=>by obtain⟨h,b,rfl⟩:=aM.mp a;exact cB.mpr (J.lt h b))
   (λp a=>by obtain⟨h,b,rfl⟩:=aM.mp a;exact J.own h b)
   (lK.mpr ((lK.mp J.nd).imp_of_mem λa c ne=>J.oth _ c _ a λe=>ne e.symm))
   λw hw p a=>by
    obtain⟨h,b,rfl⟩:=aM.mp a;exact (J.ker w).mp ((kP w).mpr λp a=>hw _ (bV a)) h b
  rwa [aA,aA] at this
theorem C1:∀ {L M:Aa Nat},L.Nodup->(∀ x∈L,x∈M)->L.length<=M.length
 | [],_,_,_=>cG _
 | x::L,M,f,b=>by
  have a:=bM.mp f;have c:=b x (by simp);have:=C1 (L:=L) (M:=M.erase x) a.2 λy d=>by
   have ne:y≠x:=λe=>a.1 (e▸d)
   exact (List.mem_erase_of_ne ne).mpr (b y (by simp[d]))
  rw[kI c] at this;have:0<M.length:=List.length_pos_of_mem c;simp only[bY];omega
theorem Xk {P Q:Nat}(f:Nat->Nat) (g:∀ n,n<Q->f n<P) (h:P<Q):∃ a b,a<b/\b<Q/\f a=f b:=by
 apply aX;intro k;have d:((List.range Q).map f).Nodup:=by
  refine lK.mpr ?_;refine (List.pairwise_lt_range (n:=Q)).imp_of_mem λ{a b} q i c e=>?_
  exact k ⟨a,b,c,cB.mp i,e⟩
 have:=C1 (M:=List.range P) d λx m=>by
  obtain⟨n,d,rfl⟩:=aM.mp m;exact cB.mpr (g n (cB.mp d))
 rw[aA,cA,cA] at this;omega
def dg (b:Nat):Nat->Nat->Aa Nat
 | 0,_=>[]
 | r+1,n=>n%b::dg b r (n/b)
theorem E7 (b:Nat):∀ r n,(dg b r n).length=r
 | 0,_=>rfl
 | r+1,_=>cL (·+1) (E7 b r _)
theorem Fo {b:Nat}(g:0<b):∀ r n,∀ x∈dg b r n,x<b
 | 0,_,_,h=>nomatch h
 | r+1,n,x,h=>by
  cases h with
  | head=>exact Nat.mod_lt _ g
  | tail _ h=>exact Fo g r _ x h
theorem N8 {b:Nat}(g:0<b):∀ r m n,m<b ^ r->n<b ^ r->dg b r m=dg b r n->m=n
 | 0,m,n,a,c,_=>by rw[Nat.pow_zero] at a c;omega
 | r+1,m,n,a,c,h=>by
  have ⟨d,e⟩:=List.cons.inj h;have:=N8 g r (m/b) (n/b) (Nat.div_lt_of_lt_mul (by rw[iR,iN] at a;exact a)) (Nat.div_lt_of_lt_mul (by rw[iR,iN] at c;exact c)) e;rw[<- Nat.div_add_mod m b,<- Nat.div_add_mod n b,this,d]
def en (b:Nat):Aa Nat->Nat
 | []=>0
 | x::l=>x+b*en b l
theorem R9 {b:Nat}(g:0<b):∀ l,(∀ x∈l,x<b)->en b l<b ^ l.length
 | [],_=>by simp[en]
 | x::l,h=>by
  have e:=h x (by simp);have a:=R9 g l λy d=>h y (by simp[d])
  have c:b*(en b l+1)<=b*b ^ l.length:=Nat.mul_le_mul_left b a;rw[bY,iR,iN (b ^ l.length)];simp only[en];rw[Nat.mul_add] at c;omega
theorem Ni {b:Nat}(g:0<b):∀ {l k:Aa Nat},l.length=k.length->(∀ x∈l,x<b)->(∀ x∈k,x<b)->en b l=en b k->l=k
 | [],[],_,_,_,_=>rfl
 | x::l,y::k,i,c,d,h=>by
  simp only[en] at h;have m:=c x (by simp);have n:=d y (by simp);have e:x=y:=by
   have:=cL (·%b) h;simp only[Nat.add_mul_mod_self_left] at this
   rwa [Nat.mod_eq_of_lt m,Nat.mod_eq_of_lt n] at this
  subst e;have f:en b l=en b k:=Nat.eq_of_mul_eq_mul_left g (by omega);rw[Ni g (by simpa using i) (λz a=>c z (by simp[a])) (λz a=>d z (by simp[a])) f]
def tJ:Aa Nat->Aa (Nat->Nat)->Nat->Nat
 | a::l,v::V,z=>a*v z+tJ l V z
 | _,_,_=>0
def cb:Aa Int->Aa (Nat->Int)->Nat->Int
 | a::l,v::V,z=>a*v z+cb l V z
 | _,_,_=>0
theorem Tu {N:Nat}:∀ (a:Aa Nat) (V:Aa (Nat->Nat)) (z:Nat),(∀ x∈a,x<=N)->(∀ v∈V,v z<=1)->tJ a V z<=V.length*N
 | [],V,_,_,_=>by simp[tJ]
 | _::_,[],_,_,_=>by simp[tJ]
 | x::a,v::V,z,c,b=>by
  have f:=Tu a V z (λy e=>c y (by simp[e])) λv d=>b v (by simp[d])
  have h:x*v z<=N*1:=jB (c x (by simp)) (b v (by simp));simp only[tJ,bY,Nat.succ_mul];omega
theorem T7:∀ (a b:Aa Nat) (V:Aa (Nat->Nat)) (z:Nat),a.length=b.length ->
  cb (List.zipWith (λx y:Nat=>(x:Int)-y) a b) (V.map λv s=>(v s:Int)) z=(tJ a V z:Int)-tJ b V z
 | [],[],V,z,_=>by simp[cb,tJ]
 | x::a,y::b,[],z,_=>by simp[cb,tJ]
 | x::a,y::b,v::V,z,h=>by
  simp only[lL,aN,cb,tJ,T7 a b V z (by simpa using h),Int.natCast_add,nC,nG];omega
theorem small {V:Aa (Nat->Nat)}{Z:Aa Nat}{N:Nat}(j:∀ v∈V,∀ z∈Z,v z<=1) (g:(V.length*N+1) ^ Z.length<(N+1) ^ V.length) :
  ∃ c:Aa Int,c.length=V.length/\(∃ x∈c,x≠0)/\(∀ x∈c,x.natAbs<=N)/\∀ z∈Z,cb c (V.map λv s=>(v s:Int)) z=0:=by
 have m:0<N+1:=nA N;have u:∀ n,∀ x∈Z.map (tJ (dg (N+1) V.length n) V),x<V.length*N+1:=λn x f=>by
  obtain⟨z,d,rfl⟩:=aM.mp f;exact Nat.lt_succ_of_le (Tu _ V z (λy H=>Nat.le_of_lt_succ (Fo m _ _ y H)) λv G=>j v G z d)
 obtain⟨a,b,E,q,e⟩:=Xk (P:=(V.length*N+1) ^ Z.length) (Q:=(N+1) ^ V.length)
  (λn=>en (V.length*N+1) (Z.map (tJ (dg (N+1) V.length n) V)))
  (λn _=>by have:=R9 (nA _) _ (u n);rwa [aA] at this) g
 have A:=Ni (nA _) (by rw[aA,aA]) (u a) (u b) e;have t:(dg (N+1) V.length a).length=(dg (N+1) V.length b).length:=(E7 ..).trans (E7 ..).symm;refine⟨List.zipWith (λx y:Nat=>(x:Int)-y) (dg (N+1) V.length a) (dg (N+1) V.length b),by rw[eK,<- t,mB,E7],?_,λx f=>?_,λz d=>?_⟩
 .apply aX;intro F;have:∀ (l k:Aa Nat),l.length=k.length->(∀ x∈List.zipWith (λx y:Nat=>(x:Int)-y) l k,x=0)->l=k:=by
   intro l;induction l with
   | nil=>intro k hk _;cases k with
    | nil=>rfl
    | cons _ _=>cases hk
   | cons x l K=>intro k hk h;cases k with
    | nil=>cases hk
    | cons y k =>
     have B:=h ((x:Int)-y) (by simp);rw[K k (by simpa using hk) λz d=>h z (by rw[lL];exact aH _ d),show x=y by omega]
  have:=N8 m _ a b (by omega) q (this _ _ t λx f=>aX λh=>F ⟨x,f,h⟩);omega
 .obtain⟨i,w,rfl⟩:=iU.mp f;rw[List.getElem_zipWith];have D:i<(dg (N+1) V.length a).length:=by rw[eK] at w;omega
  have q:i<(dg (N+1) V.length b).length:=by rw[eK] at w;omega
  have B:=Fo m V.length a _ (fJ D);have L:=Fo m V.length b _ (fJ q);omega
 .rw[T7 _ _ _ _ t];have:∀ z∈Z,tJ (dg (N+1) V.length a) V z=tJ (dg (N+1) V.length b) V z:=λz d=>by
   exact List.map_inj_left.mp A z d
  rw[this z d];exact mY _
theorem Qt (a:Nat) (x:Int):∀ (l:Aa Int) (b:Nat),(l.map (x*·)).foldl (λa n=>Nat.gcd a n.natAbs) (x.natAbs*b)=x.natAbs*l.foldl (λa n=>Nat.gcd a n.natAbs) b
 | [],_=>rfl
 | y::l,b=>by
  simp only[aN,lV,eP];rw[Nat.gcd_mul_left];exact Qt a x l _
theorem T2 (x:Int) (l:Aa Int):gc (l.map (x*·))=x.natAbs*gc l:=by
 have:=Qt 0 x l 0;rw[Nat.mul_zero] at this;exact this
theorem Kv {w:Nat->Int}{T:Aa Nat}:∀ (c:Aa Int) (V:Aa (Nat->Int)),(∀ v∈V,sm (λs=>v s*w s) T=0)->sm (λs=>cb c V s*w s) T=0
 | [],V,_=>wT λs _=>by simp[cb]
 | _::_,[],_=>wT λs _=>by simp[cb]
 | a::c,v::V,h=>by
  rw[zC (g:=λs=>a*(v s*w s)+cb c V s*w s) λs _=>by simp only[cb];rw[Int.add_mul,dJ],Cb,uZ,h v (by simp),Kv c V λu b=>h u (by simp[b])];simp
theorem Fl {z:Nat}{v:Nat->Int}{x:Int}:∀ (c:Aa Int) (V:Aa (Nat->Int)),c.length=V.length->cb (c++[x]) (V++[v]) z=cb c V z+x*v z
 | [],[],_=>by simp[cb]
 | a::c,u::V,h=>by
  simp only[cT,cb];rw[Fl c V (by simpa using h)];omega
theorem Ij {z N:Nat}:∀ (c:Aa Int) (V:Aa (Nat->Int)),(∀ x∈c,x.natAbs<=N)->(∀ v∈V,(v z).natAbs<=1)->(cb c V z).natAbs<=V.length*N
 | [],V,_,_=>by simp[cb]
 | _::_,[],_,_=>by simp[cb]
 | a::c,v::V,b,d=>by
  have i:=Ij (z:=z) (N:=N) c V (λx f=>b x (by simp[f])) λu e=>d u (by simp[e])
  have j:(a*v z).natAbs<=N*1:=by rw[eP];exact jB (b a (by simp)) (d v (by simp))
  simp only[cb,bY,Nat.succ_mul];omega
def Bit (v:Aa Int):Prop:=∀ x∈v,x=0\/x=1
theorem Bit.ix {v:Aa Int}(h:Bit v) (s:Nat):ix v s=0\/EQ.ix v s=1:=by
 by_cases a:s<v.length
 .exact h _ (ix_mem a)
 .exact .inl (ix_out a)
structure Bas (m:Nat) (K:(Nat->Int)->Prop) (hs:List (Nat×List Int)) (B:List (List Int)):Prop where
 len:B.length=hs.length
 bit:∀ b∈B,Bit b
 ker:∀ b∈B,∀ w,K w->dot m b w=0
 ind:∀ c:List Int,c.length=B.length->(∀ s,s<m->cb c (B.map ix) s=0)->∀ x∈c,x=0
 prim:∀ h∈hs,gc h.2=1
theorem Bas.nil {m:Nat}:Bas m (λ_=>True) [] []:=by
 refine⟨rfl,λ_ h=>(nomatch h),λ_ h=>(nomatch h),λc a _ x b=>?_,λ_ h=>(nomatch h)⟩;cases c with
 | nil=>cases b
 | cons _ _=>cases a
theorem Bas.mono {m:Nat}{K g:(Nat->Int)->Prop}{j:Aa (Nat×Aa Int)}{B:Aa (Aa Int)}(b:Bas m K j B) (h:∀ w,g w->K w):Bas m g j B :=
 ⟨b.len,b.bit,λv a w hw=>b.ker v a w (h w hw),b.ind,b.prim⟩
theorem Inv.two {m:Nat}{K:(Nat->Int)->Prop}{j:Aa (Nat×Aa Int)}(I:Inv m K j){f:Nat}(o:f<m) (hk:f∉j.map (·.1)){h:Nat×Aa Int}(p:h∈j)
  {u:Nat->Int}(r:∀ g∈j,g.1≠h.1->u g.1=0) (l:sm (λs=>u s*ix (EQ.shown m j f) s) (List.range m)=0):u f*ix (EQ.shown m j f) f+u h.1*ix (EQ.shown m j f) h.1=0:=by
 obtain⟨_,_,_,_,_,z⟩:=I.shown o hk;have b:f≠h.1:=λe=>hk (e▸bV p)
 rw[F7 (S:=[f,h.1]) (by simp[b]) jG (λs a=>by
  rcases aI.mp a with rfl | a
  .exact cB.mpr o
  .rw[aO.mp a];exact cB.mpr (I.lt h p)) λs _ a=>by
  have d:s≠f:=λe=>a (by simp[e])
  have i:s≠h.1:=λe=>a (by simp[e])
  by_cases c:s∈j.map (·.1)
  .obtain⟨g,k,rfl⟩:=aM.mp c;rw[r g k i];exact fX _
  .rw[z s d c];exact cC _] at l
 simpa [sm] using l
theorem Oo {k m:Nat}(hk:k<=m) (g:0<k):(k*m ^ m+1) ^ (k-1)<(m ^ m+1) ^ k:=by
 have a:k*m ^ m+1<=k*(m ^ m+1):=by rw[Nat.mul_add];omega
 have d:k ^ (k-1)<=m ^ m:=bF (lY hk _) (iS (by omega) (by omega));have b:(k*m ^ m+1) ^ (k-1)<=k ^ (k-1)*(m ^ m+1) ^ (k-1):=by rw[<- Nat.mul_pow];exact lY a _
 have c:(m ^ m+1) ^ k=(m ^ m+1)*(m ^ m+1) ^ (k-1):=by
  rw[iN,<- iR];congr 1;omega
 rw[c];exact bH b (Nat.mul_lt_mul_of_pos_right (by omega) (mM (by omega)))
theorem Inv.le {m:Nat}{K:(Nat->Int)->Prop}{g:Aa (Nat×Aa Int)}(I:Inv m K g):g.length<=m:=by
 have:=C1 (M:=List.range m) I.nd λx b=>by
  obtain⟨h,a,rfl⟩:=aM.mp b;exact cB.mpr (I.lt h a)
 rwa [aA,cA] at this
theorem Bas.small {m:Nat}{K:(Nat->Int)->Prop}{o:Aa (Nat×Aa Int)}{B:Aa (Aa Int)}(b:Bas m K o B) (I:Inv m K o){h:Nat×Aa Int}(l:h∈o) (j:Nat) :
  (ix h.2 j).natAbs<=m*m ^ m:=by
 by_cases L:j<m
 case neg=>rw[ix_out (by rw[I.len h l];exact L)];exact cG _
 have A:0<o.length:=List.length_pos_of_mem l;have D:((o.map (·.1)).erase h.1).length=o.length-1:=by rw[kI (bV l),aA]
 have d:(B.map λb s=>(ix b s).toNat).length=o.length:=by rw[aA,b.len]
 obtain⟨c,cl,⟨x,T,F⟩,W,G⟩:=EQ.small (V:=B.map λb s=>(ix b s).toNat) (Z:=(o.map (·.1)).erase h.1) (N:=m ^ m)
  (λv n z _=>by
   obtain⟨r,f,rfl⟩:=aM.mp n;show (ix r z).toNat<=1;rcases (b.bit r f).ix z with e | e<;>rw[e]<;>decide)
  (by rw[D,d];exact Oo I.le A)
 have J:((B.map λb s=>(ix b s).toNat).map λv s=>(v s:Int))=B.map ix:=by
  rw[bA];exact gX λr f=>by
   funext s
   show (((ix r s).toNat:Nat):Int)=ix r s;rcases (b.bit r f).ix s with e | e<;>rw[e]<;>rfl
 rw[J] at G;rw[d] at cl;have ub:∀ s,(cb c (B.map ix) s).natAbs<=m*m ^ m:=λs=>by
  have:=Ij (z:=s) (N:=m ^ m) c (B.map ix) W λv n=>by
   obtain⟨r,f,rfl⟩:=aM.mp n;rcases (b.bit r f).ix s with e | e<;>rw[e]<;>decide
  rw[aA,b.len] at this;exact bF this (iP _ I.le)
 have uk:∀ w,K w->sm (λs=>cb c (B.map ix) s*w s) (List.range m)=0:=λw hw=>Kv c _ λv n=>by
  obtain⟨r,f,rfl⟩:=aM.mp n;exact b.ker r f w hw
 have ui:=b.ind c (cl.trans b.len.symm);generalize cb c (B.map ix)=u at *;have Q:∀ g∈o,g.1≠h.1->u g.1=0:=λg k ne=>G g.1 ((List.mem_erase_of_ne ne).mpr (bV k))
 have P:∀ s,s<m->ix h.2 h.1*u s=u h.1*ix h.2 s:=λs a=>by
  by_cases E:s∈o.map (·.1)
  .obtain⟨g,k,rfl⟩:=aM.mp E;by_cases e:g.1=h.1
   .rw[e,iT]
   .rw[Q g k e,I.oth h l g k λY=>e Y.symm,cC,cC]
  .obtain⟨_,O,_,pos,_,_⟩:=I.shown a E;have e1:=I.two a E l Q (uk _ O);have e2:=I.two a E l (u:=ix h.2) (λg k ne=>I.oth h l g k λe=>ne e.symm) ((I.ker _).mp O h l);generalize ix (EQ.shown m o s) s=p at *;generalize ix (EQ.shown m o s) h.1=q at *;have C:p*(ix h.2 h.1*u s)=p*(u h.1*ix h.2 s):=by
    have R:u s*p = -(u h.1*q):=by omega
    have S:ix h.2 s*p = -(ix h.2 h.1*q):=by omega
    calc p*(ix h.2 h.1*u s)=ix h.2 h.1*(u s*p):=by rw[eM,iT p]
     _=u h.1*(ix h.2 s*p):=by rw[R,S,nF,nF,eM]
     _=p*(u h.1*ix h.2 s):=by rw[eM p,iT p]
   exact jY (by omega) C
 have u0:u h.1≠0:=λe=>F (ui (λs a=>by
  have:=P s a;rw[e,fX] at this;exact (cP.mp this).resolve_left (I.own h l)) x T)
 have X:ix h.2 h.1 ∣ u h.1:=by
  have d1:(ix h.2 h.1).natAbs ∣ gc (h.2.map (u h.1*·)):=Fg λy U=>by
   obtain⟨z,hz,rfl⟩:=aM.mp U;obtain⟨i,H,rfl⟩:=iU.mp hz;have e:ix h.2 i=h.2[i]:=by unfold ix;rw[List.getD_eq_getElem?_getD,List.getElem?_eq_getElem H];rfl
   rw[<- e,<- P i (by rw[<- I.len h l];exact H)];exact mR (Int.natAbs_dvd.mpr (Int.dvd_refl _)) (mO _ _)
  rw[T2,b.prim h l,Nat.mul_one] at d1;exact gH.mp d1
 obtain⟨t,M⟩:=X;have t0:t≠0:=λe=>u0 (by rw[M,e,cC])
 have e:u j=t*ix h.2 j:=by
  have:=P j L;rw[M,dJ] at this;exact jY (I.own h l) this
 have:=ub j;rw[e,eP] at this;exact bF (jN _ (by omega)) this
theorem Bit.gc {v:Aa Int}(h:Bit v){s:Nat}(g:EQ.ix v s≠0):EQ.gc v=1:=by
 have c:s<v.length:=aX λb=>g (ix_out b)
 have a:=Aq (ix_mem c);rw[((h.ix s).resolve_left g)] at a;have:=gH.mpr a
 simpa using this
theorem Qe {v b:Aa Int}{k s:Nat}(g:gc v=1) (h:ix (cl v b k) s≠0):gc (cl v b k)=1:=by
 unfold cl at h |-;split
 .exact g
 .rename_i c
  rw[aJ c] at h;refine L8 λe=>h ?_
  have:=Fb (List.zipWith (λx y=>ix b k*x-ix v k*y) v b) s;have z:ix (List.zipWith (λx y=>ix b k*x-ix v k*y) v b) s=0:=by
   by_cases a:s<(List.zipWith (λx y=>ix b k*x-ix v k*y) v b).length
   .exact G4 e _ (ix_mem a)
   .exact ix_out a
  rw[z] at this;exact (cP.mp this).resolve_left (by omega)
def vN (v:Aa Int):Prop:=gc v=1\/∀ s,ix v s=0
theorem vN.cl {v b:Aa Int}{k:Nat}(h:vN v):vN (EQ.cl v b k):=by
 by_cases e:∀ s,ix (EQ.cl v b k) s=0
 .exact .inr e
 .have ⟨s,a⟩:∃ s,ix (EQ.cl v b k) s≠0:=aX λc=>e λs=>aX λh=>c ⟨s,h⟩
  rcases h with h | h
  .exact .inl (Qe h a)
  .unfold EQ.cl at a;rw[if_pos (h k)] at a;exact absurd (h s) a
theorem vN.rest:∀ (g:Aa (Nat×Aa Int)){v:Aa Int},vN v->vN (EQ.rest g v)
 | [],_,h=>h
 | _::g,_,h=>vN.rest g h.cl
theorem Bit.prm {v:Aa Int}(h:Bit v):vN v:=by
 by_cases e:∀ s,EQ.ix v s=0
 .exact .inr e
 .have ⟨s,b⟩:∃ s,EQ.ix v s≠0:=aX λa=>e λs=>aX λh=>a ⟨s,h⟩
  exact .inl (h.gc b)
theorem Bas.more {m:Nat}{K:(Nat->Int)->Prop}{j:Aa (Nat×Aa Int)}{B:Aa (Aa Int)}(b:Bas m K j B) (I:Inv m K j){v:Aa Int}(p:v.length=m) (o:Bit v){a:Nat}(l:ix (EQ.rest j v) a≠0) :
  Bas m (λw=>K w/\dot m v w=0) (j.map (λh=>(h.1,cl h.2 (EQ.rest j v) a))++[(a,EQ.rest j v)]) (B++[v]):=by
 obtain⟨U,L,r3⟩:=I.rest p;have J:=vN.rest j o.prm;generalize EQ.rest j v=r at *;have am:a<m:=aX λh=>l (ix_out (by omega))
 have R:a∉j.map (·.1):=λh=>by
  obtain⟨g,f,e⟩:=aM.mp h;exact l (e▸L g f)
 have A:∀ h∈j,h.2.length=r.length:=λh k=>(I.len h k).trans U.symm
 refine⟨by rw[aZ,aZ,aA,b.len];rfl,λu d=>?_,λu d w hw=>?_,λc F C=>?_,λh k=>?_⟩
 .rcases aT.mp d with d | d
  .exact b.bit u d
  .rw[aO.mp d];exact o
 .rcases aT.mp d with d | d
  .exact b.ker u d w hw.1
  .rw[aO.mp d];exact hw.2
 .have q:c≠[]:=λe=>by rw[e,aZ] at F;simp at F
  obtain⟨i,x,rfl⟩:∃ i x,c=i++[x]:=⟨c.dropLast,c.getLast q,(lX q).symm⟩;have n:i.length=B.length:=by simpa using F
  have E:∀ s,s<m->cb i (B.map ix) s+x*ix v s=0:=λs h=>by
   have:=C s h;rw[bE,jM,Fl _ _ (by rw[n,aA])] at this;exact this
  have Q:x=0:=by
   apply aX;intro Z;obtain⟨_,P,_,pos,_,z⟩:=I.shown am R;have V:x*dot m v (ix (EQ.shown m j a))=0:=by
    have X:=Kv (w:=ix (EQ.shown m j a)) (T:=List.range m) i (B.map ix) λu d=>by
     obtain⟨t,Y,rfl⟩:=aM.mp d;exact b.ker t Y _ P
    have N:sm (λs=>cb i (B.map ix) s*ix (EQ.shown m j a) s+x*(ix v s*ix (EQ.shown m j a) s)) (List.range m)=0:=wT λs H=>by
     rw[<- dJ,<- Int.add_mul,E s (cB.mp H)];exact fX _
    rw[Cb,uZ,X,lZ] at N;exact N
   have W:=(r3 _ ((I.ker _).mp P)).mpr ((cP.mp V).resolve_left Z);have M:dot m r (ix (EQ.shown m j a))=ix r a*ix (EQ.shown m j a) a+0:=by
    unfold dot;refine (F7 (S:=[a]) (by simp) jG (λs h=>by rw[aO.mp h];exact cB.mpr am) λs _ h=>?_);have G:s≠a:=λe=>h (by simp[e])
    by_cases O:s∈j.map (·.1)
    .obtain⟨g,f,rfl⟩:=aM.mp O;rw[L g f];exact fX _
    .rw[z s G O];exact cC _
   rw[W,Int.add_zero] at M;exact gC l (by omega) M.symm
  intro y D;rcases aT.mp D with D | D
  .refine b.ind i n (λs h=>?_) y D;have:=E s h;rw[Q,fX,Int.add_zero] at this;exact this
  .rw[aO.mp D];exact Q
 .rcases aT.mp k with k | k
  .obtain⟨g,f,rfl⟩:=aM.mp k;exact Qe (b.prim g f) (Mw (A g f) l (I.own g f) (L g f))
  .rw[aO.mp k];exact J.resolve_right λh=>l (h a)
theorem gc_le {l:Aa Int}{M:Nat}(h:∀ x∈l,x.natAbs<=M):gc l<=M:=by
 by_cases e:∀ x∈l,x=0
 .have:0 ∣ gc l:=Fg λx a=>by rw[e x a];exact Int.dvd_zero _
  rw[Nat.zero_dvd.mp this];exact cG _
 .have ⟨x,a,c⟩:∃ x,x∈l/\x≠0:=aX λb=>e λx a=>aX λh=>b ⟨x,a,h⟩
  exact bF (Nat.le_of_dvd (by omega) (Uf (Aq a))) (h x a)
def Le (M:Nat) (v:Aa Int):Prop:=∀ x∈v,x.natAbs<=M
theorem Le.mono {M N:Nat}{v:Aa Int}(h:Le M v) (g:M<=N):Le N v:=λx a=>bF (h x a) g
theorem Le.ix {M:Nat}{v:Aa Int}(h:Le M v) (s:Nat):(ix v s).natAbs<=M:=by
 by_cases a:s<v.length
 .exact h _ (ix_mem a)
 .rw[ix_out a];exact cG _
theorem Le.of_ix {M:Nat}{v:Aa Int}(h:∀ s,(EQ.ix v s).natAbs<=M):Le M v:=λx b=>by
 obtain⟨i,a,rfl⟩:=iU.mp b;have e:EQ.ix v i=v[i]:=by unfold EQ.ix;rw[List.getD_eq_getElem?_getD,List.getElem?_eq_getElem a];rfl
 rw[<- e];exact h i
theorem Bit.le {v:Aa Int}(h:Bit v):Le 1 v:=λx a=>by rcases h x a with e | e<;>rw[e]<;>decide
theorem Mv (x:Int) (d:Nat):(x/(d:Int)).natAbs<=x.natAbs\/¬ (d:Int) ∣ x:=by
 by_cases h:(d:Int) ∣ x
 .obtain⟨c,rfl⟩:=h;by_cases hd:d=0
  .subst hd;left;simp
  .left;rw[kK _ (by omega),eP];exact jN _ (by simp;omega)
 .exact .inr h
theorem Le.wd {M:Nat}{v:Aa Int}(h:Le M v):Le M (EQ.wd v):=λx c=>by
 obtain⟨y,a,rfl⟩:=aM.mp c;exact bF ((Mv y _).resolve_right λb=>b (Nu a)) (h y a)
theorem JA {a b c d:Int}{A C:Nat}(g:a.natAbs<=C) (j:b.natAbs<=A) (l:c.natAbs<=A) (o:d.natAbs<=C):(a*b-c*d).natAbs<=2*C*A:=by
 have e:(a*b).natAbs<=C*A:=by rw[eP];exact jB g j
 have f:(c*d).natAbs<=C*A:=by rw[eP,iN C];exact jB l o
 rw[mS];omega
theorem Le.zip {A C k:Nat}{v b:Aa Int}(l:v.length=b.length) (j:Le A v) (g:Le C b):Le (2*C*A) (List.zipWith (λx y=>EQ.ix b k*x-EQ.ix v k*y) v b) :=
 .of_ix λs=>by rw[Jn _ (by simp) l];exact JA (g.ix k) (j.ix s) (j.ix k) (g.ix s)
theorem Le.cl {A C k:Nat}{v b:Aa Int}(l:v.length=b.length) (o:0<C) (g:Le A v) (j:Le C b):Le (2*C*A) (EQ.cl v b k):=by
 unfold EQ.cl;split
 .exact g.mono (jN _ (by omega))
 .exact (Le.zip l g j).wd
theorem Le.rest {C m:Nat}(l:0<C):∀ (j:Aa (Nat×Aa Int)){A:Nat}{v:Aa Int},v.length=m->(∀ h∈j,h.2.length=m/\Le C h.2)->Le A v->Le ((2*C) ^ j.length*A) (EQ.rest j v)
 | [],_,_,_,_,h=>h.mono (by simp)
 | h::j,A,v,a,b,d=>by
  have ⟨c,f⟩:=b h (by simp);have:=Le.rest l j ((cl_len (k:=h.1) (a.trans c.symm)).trans a) (λg e=>b g (by simp[e])) (d.cl (k:=h.1) (a.trans c.symm) l f);rw[<- mS,<- iR] at this;exact this
theorem whole_le {f C:Nat}(l:0<C):∀ (j:Aa (Nat×Aa Int)){a:Int}{A:Nat},(∀ h∈j,Le C h.2)->a.natAbs<=A->(whole j f a).natAbs<=C ^ j.length*A
 | [],_,_,_,h=>by simpa [whole] using h
 | h::j,a,A,b,c=>by
  have e:(a*((ix h.2 h.1).natAbs:Int)/(Nat.gcd (ix h.2 h.1).natAbs (ix h.2 f).natAbs:Int)).natAbs<=C*A:=by
   refine bF ((Mv _ _).resolve_right λi=>i ?_) ?_
   .exact mR (Int.natCast_dvd_natCast.mpr (lR _ _)) (Int.dvd_mul_left _ _)
   .rw[eP,iN C];exact jB c (by rw[iE];exact (b h (by simp)).ix _)
  have:=whole_le (f:=f) l j (λg d=>b g (by simp[d])) e;rw[<- mS,<- iR] at this;exact this
theorem off_le {A k:Nat}{head row:Aa Int}(l:row.length=head.length) (g:Le A head) (j:Le A row):Le (2*A*A) (off head k row):=Le.zip l j g
def lastNZ (v:Aa Int):Nat:=((List.range v.length).filter λs=>decide (ix v s≠0)).foldl max 0
def red1 (g:Aa (Nat×Aa Int)) (v:Aa Int):Aa (Nat×Aa Int) :=
 if (rest g v).any (λx=>decide (x≠0)) then g.map (λh=>(h.1,cl h.2 (rest g v) (lastNZ (rest g v))))++[(lastNZ (rest g v),rest g v)] else g
def red (rows:Aa (Aa Int)):Aa (Nat×Aa Int):=rows.foldl red1 []
def firsts (m:Nat) (g:Aa (Nat×Aa Int)):Aa Nat:=(List.range m).filter λk=>!(g.map (·.1)).contains k
theorem Ky:∀ (l:Aa Nat) (a:Nat),a<=l.foldl max a/\∀ x∈l,x<=l.foldl max a
 | [],a=>⟨aU a,λ_ h=>(nomatch h)⟩
 | y::l,a=>by
  have ⟨c,d⟩:=Ky l (max a y);refine⟨bF (Nat.le_max_left _ _) c,λx b=>?_⟩;cases b with
  | head=>exact bF (Nat.le_max_right _ _) c
  | tail _ b=>exact d x b
theorem Ud:∀ (l:Aa Nat) (a:Nat),l.foldl max a=a\/l.foldl max a∈l
 | [],_=>.inl rfl
 | y::l,a=>by
  rcases Ud l (max a y) with h | h
  .rcases Nat.le_total a y with e | e
   .rw[jF e] at h;right;show l.foldl max (max a y)∈_;rw[jF e,h];exact aF
   .rw[Nat.max_eq_left e] at h;left;show l.foldl max (max a y)=a;rw[Nat.max_eq_left e,h]
  .exact .inr (aH _ h)
theorem lastNZ_ok {v:Aa Int}{s:Nat}(h:ix v s≠0):ix v (lastNZ v)≠0/\∀ j,lastNZ v<j->ix v j=0:=by
 have mem:∀ j,ix v j≠0->j∈(List.range v.length).filter λs=>decide (ix v s≠0):=λj a =>
  bR.mpr ⟨cB.mpr (aX λb=>a (ix_out b)),by simpa using a⟩
 refine⟨?_,λj a=>aX λb=>?_⟩
 .rcases Ud ((List.range v.length).filter λs=>decide (ix v s≠0)) 0 with e | e
  .have:=(Ky ((List.range v.length).filter λs=>decide (ix v s≠0)) 0).2 s (mem s h);rw[e] at this;have c:lastNZ v=0:=e;rw[c];rwa [Nat.le_zero.mp this] at h
  .have:=(bR.mp e).2;have d:ix v (lastNZ v)≠0:=by simpa [lastNZ] using this
   exact d
 .have:=(Ky ((List.range v.length).filter λs=>decide (ix v s≠0)) 0).2 j (mem j b);have e:lastNZ v<j:=a;unfold lastNZ at e;omega
theorem any_ix {v:Aa Int}:v.any (λx=>decide (x≠0))=true↔∃ s,ix v s≠0:=by
 rw[lO];constructor
 .rintro ⟨x,d,h⟩;obtain⟨i,b,rfl⟩:=iU.mp d;refine⟨i,?_⟩;unfold ix;rw[List.getD_eq_getElem?_getD,List.getElem?_eq_getElem b];simpa using h
 .rintro ⟨s,a⟩;have h:s<v.length:=aX λc=>a (ix_out c)
  exact⟨_,ix_mem h,by simpa using a⟩
theorem W0 {m:Nat}{K:(Nat->Int)->Prop}{g:Aa (Nat×Aa Int)}{B:Aa (Aa Int)}(I:Inv m K g) (b:Bas m K g B){v:Aa Int}(j:v.length=m) (o:Bit v) :
  ∃ l,Inv m (λw=>K w/\dot m v w=0) (red1 g v)/\Bas m (λw=>K w/\dot m v w=0) (red1 g v) l:=by
 unfold red1;split
 .rename_i h
  obtain⟨s,g⟩:=any_ix.mp h;obtain⟨a,c⟩:=lastNZ_ok g;exact⟨_,I.more j a c,b.more I j o a⟩
 .rename_i h
  exact⟨B,I.same j λs=>aX λd=>h (any_ix.mpr ⟨s,d⟩),b.mono λ_ h=>h.1⟩
theorem S5 {m:Nat}:∀ (rows:Aa (Aa Int)) (K:(Nat->Int)->Prop) (j:Aa (Nat×Aa Int)) (B:Aa (Aa Int)),Inv m K j->Bas m K j B->(∀ r∈rows,r.length=m/\Bit r) ->
  ∃ (g:(Nat->Int)->Prop) (l:Aa (Aa Int)),(∀ w,g w↔K w/\∀ r∈rows,dot m r w=0)/\Inv m g (rows.foldl red1 j)/\Bas m g (rows.foldl red1 j) l
 | [],K,_,B,I,b,_=>⟨K,B,λ_=>⟨λh=>⟨h,λ_ h=>(nomatch h)⟩,λh=>h.1⟩,I,b⟩
 | v::rows,K,j,B,I,b,h=>by
  have ⟨q,n⟩:=h v (by simp);obtain⟨c,e,i⟩:=W0 I b q n;obtain⟨g,l,k,d,f⟩:=S5 rows _ _ c e i λr a=>h r (by simp[a])
  refine⟨g,l,λw=>(k w).trans ⟨λh=>⟨h.1.1,λr a=>?_⟩,λh=>⟨⟨h.1,h.2 v (by simp)⟩,λr a=>h.2 r (by simp[a])⟩⟩,d,f⟩;cases a with
  | head=>exact h.1.2
  | tail _ a=>exact h.2 r a
theorem red_ok {m:Nat}{rows:Aa (Aa Int)}(h:∀ r∈rows,r.length=m/\Bit r) :
  Inv m (λw=>∀ r∈rows,dot m r w=0) (red rows)/\∀ g∈red rows,Le (m*m ^ m) g.2:=by
 obtain⟨c,f,d,I,b⟩:=S5 rows _ _ _ (Inv.nil m) Bas.nil h;have a:∀ w,c w↔∀ r∈rows,dot m r w=0:=λw=>(d w).trans ⟨λh=>h.2,λh=>⟨trivial,h⟩⟩
 exact⟨⟨I.nd,I.lt,I.len,I.own,I.beh,I.oth,λw=>(a w).symm.trans (I.ker w)⟩,λg e=>.of_ix (b.small I e)⟩
theorem CD {l:Aa Nat}(p:Nat->Bool):(l.filter p).length+(l.filter λx=>!p x).length=l.length:=by
 induction l with
 | nil=>rfl
 | cons x l a=>cases h:p x<;>simp[h]<;>omega
theorem firsts_len {m:Nat}{K:(Nat->Int)->Prop}{g:Aa (Nat×Aa Int)}(I:Inv m K g):(firsts m g).length=m-g.length:=by
 have b:=CD (l:=List.range m) λk=>(g.map (·.1)).contains k
 rw[cA] at b;have d:((List.range m).filter λk=>(g.map (·.1)).contains k).length=g.length:=by
  refine kN ?_ ?_
  .have:=C1 (L:=(List.range m).filter λk=>(g.map (·.1)).contains k) (M:=g.map (·.1)) (jG.filter _) λx a=>by
    have:=(bR.mp a).2;simpa using this
   rwa [aA] at this
  .have:=C1 (M:=(List.range m).filter λk=>(g.map (·.1)).contains k) I.nd λx a=>bR.mpr ⟨by
    obtain⟨h,c,rfl⟩:=aM.mp a;exact cB.mpr (I.lt h c),by simpa using a⟩
   rwa [aA] at this
 unfold firsts;omega
theorem firsts_mem {m f:Nat}{g:Aa (Nat×Aa Int)}(h:f∈firsts m g):f<m/\f∉g.map (·.1):=by
 have ⟨a,b⟩:=bR.mp h;exact⟨cB.mp a,by simpa using b⟩
theorem firsts_up (m:Nat) (g:Aa (Nat×Aa Int)):(firsts m g).Pairwise (·<·):=(List.pairwise_lt_range (n:=m)).filter _
theorem IW {p:Nat->Bool}{f:Nat}(g:p f=true):∀ m,f<m->(∀ s,s<f->p s=false)->∃ t,(List.range m).filter p=f::t:=by
 intro m c b;obtain⟨k,rfl⟩:∃ k,m=f+(k+1):=⟨m-f-1,by omega⟩;rw[List.range_add,mF,gZ.mpr λs a=>by rw[b s (cB.mp a)];decide,kL,List.range_succ_eq_map,aN];refine⟨_,fL (by simpa using g)⟩
theorem Inv.first {m:Nat}{K:(Nat->Int)->Prop}{g:Aa (Nat×Aa Int)}(I:Inv m K g){f:Nat}(h:f∈firsts m g) :
  ∃ t,((List.range m).filter λs=>decide (ix (EQ.shown m g f) s≠0))=f::t:=by
 have ⟨b,c⟩:=firsts_mem h;obtain⟨_,_,_,pos,z,_⟩:=I.shown b c;exact IW (p:=λs=>decide (ix (EQ.shown m g f) s≠0)) (by simpa using (show ix (EQ.shown m g f) f≠0 by omega)) m b λs a=>by simpa using z s a
theorem M7 {o:Type}{g:Nat->o}{p:o->Bool}{f:Nat}:∀ {l:Aa Nat},l.Nodup->f∈l->p (g f)=true->(∀ k∈l,k≠f->p (g k)=false)->(l.map g).filter p=[g f]
 | [],_,h,_,_=>nomatch h
 | k::l,m,h,d,c=>by
  have a:=bM.mp m;rw[aN];by_cases e:k=f
  .subst e;rw[fL d,gZ.mpr λx n=>?_];obtain⟨j,b,rfl⟩:=aM.mp n;rw[c j (aH _ b) λe=>a.1 (e▸b)];decide
  .rw[gQ (by rw[c k aF e];decide)];have i:f∈l:=by
    cases h with
    | head=>exact absurd rfl e
    | tail _ h=>exact h
   exact M7 a.2 i d λj b=>c j (aH _ b)
theorem Inv.alone {m:Nat}{K:(Nat->Int)->Prop}{j:Aa (Nat×Aa Int)}(I:Inv m K j){f:Nat}(h:f∈firsts m j) :
  ((firsts m j).map (EQ.shown m j)).filter (λo=>decide (ix o f≠0))=[EQ.shown m j f]:=by
 have ⟨i,d⟩:=firsts_mem h;obtain⟨_,_,_,pos,_,_⟩:=I.shown i d;refine M7 (g:=EQ.shown m j) (p:=λo=>decide (ix o f≠0)) ((firsts_up m j).imp λ{a b} c=>bG c) h (by simpa using (show ix (EQ.shown m j f) f≠0 by omega)) λk hk ne=>?_
 have ⟨n,q⟩:=firsts_mem hk;obtain⟨_,_,_,_,_,z⟩:=I.shown n q
 simpa using z f (λe=>ne e.symm) d
end EQ
namespace Lw
open PySem L2
abbrev ln (l:Aa Int):D:=.l (l.map D.int)
def A4 (v:Aa Int):Prop:=∀ x∈v,x.natAbs<BM
def Mf:RD:=λe c d=>∃ a b:Nat,c=[.int a,.int b]/\d (.v (.int (Nat.gcd a b:Nat)))
def Bl:RD:=λc a b=>∃ l:Aa Int,a=[ln l]/\b (.v (.int (EQ.gc l:Nat)))
def Mb:RD:=λc a b=>∃ l:Aa Int,a=[ln l]/\l.length<=1000/\EQ.gc l<BD/\b (.o (ln (EQ.wd l)))
def Uu:RD:=λd a c=>∃ (v b:Aa Int) (k:Nat),a=[ln v,ln b,.int k]/\k<v.length/\v.length=b.length/\v.length<=1000/\A4 v/\A4 b/\c (.v (ln (EQ.cl v b k)))
theorem xC {g:Type} [DecidableEq g] {a b:g}{p q:Prop}(j:¬ a=b->p) (l:a=b->q):if (nb true (decide (a=b)))=true then p else q:=by
 by_cases h:a=b
 .rw[dD h];exact l h
 .rw[cF h];exact j h
theorem uP {l:Aa Int}{k:Nat}(h:k<l.length):pI (l.map D.int) (k:Int)=some (.int (EQ.ix l k)):=by
 unfold pI;have e:sK (l.map D.int).length (k:Int)=some k:=by
  unfold sK;rw[aP (by omega),aA,aP (by omega)];rfl
 rw[e];show (l.map D.int)[k]?=_;rw[aQ,aE h];unfold EQ.ix;rw[bP,aE h];rfl
theorem Ig (j g:Aa Int):wQ (j.map D.int) (g.map D.int)=(j.zip g).map λp=>D.t [.int p.1,.int p.2]:=by
 unfold wQ;rw[List.zipWith_map,List.zip,jH]
def CK:Aa Sl->Nat
 | [_,.v (.int b),_]=>b.natAbs
 | _=>0
theorem KU:(["number","divisor"]:Aa Af).Nodup:=by decide +kernel
theorem Ms:(["value","other","by","at","values"]:Aa Af).Nodup:=by decide +kernel
section
variable {P:Ah}{K:nH}
theorem G6:FnScope ["one","other","rest"] ["one","other"] (oB Cm):=pU
theorem MP:pZ P w K g base 1 "divisor_of_two" Cm ["one","other"] Mf:=by
 refine qI G6 λf x A m s H E F G M D L B=>?_
 obtain⟨a,b,rfl,k⟩:=B;refine⟨_,(hO (Vb dO (rA (uA D.units) (pK true) (pv 1) nI) (hO (oE 2 G6.nd (sX rH Dg 0 (cN 1))) (hO (oE 0 G6.nd (cN 1)) (nQ (oE 1 G6.nd (cN 2)))))) (nQ (oJ (cN 0)))),?_⟩;refine nO (λq=>∃ t u,q=[.v (.int (Nat.gcd a b:Nat)),t,u]) (λN z=>?_) ?_
 .refine⟨λq=>∃ (c d:Nat) (s:Sl),q=[.v (.int c),.v (.int d),s]/\Nat.gcd c d=Nat.gcd a b,CK,⟨a,b,.n,rfl,rfl⟩,?_⟩;rintro _ ⟨c,d,s,rfl,i⟩;refine⟨rfl,xC (λh=>?_) λh=>?_⟩
  .have y:0<d:=by omega
   have e:(c:Int)%(d:Int)=((c%d:Nat):Int):=rfl;refine⟨rfl,by show (0:Int)<d;omega,?_⟩;refine⟨⟨d,c%d,_,rfl,?_⟩,?_⟩
   .rw[<- i,nB c d,Nat.gcd_rec d c,nB]
   .show ((c:Int)%(d:Int)).natAbs<(d:Int).natAbs;rw[e];have:=Nat.mod_lt c y;omega
  .have:d=0:=by omega
   subst this;rw[Nat.gcd_zero_right] at i;subst i;exact z _ ⟨_,_,rfl⟩
 rintro _ ⟨t,u,rfl⟩;exact k
theorem Gv:FnScope ["numbers","found","number"] ["numbers"] (oB Fq):=pU
theorem Zu (T:Txt j) (g:Kn P w K j base 1 "divisor_of_two" Cm ["one","other"] Mf):pZ P w K j base 2 "common_divisor" Fq ["numbers"] Bl:=by
 refine qI Gv λf q A m s H E z B G u F t=>?_
 obtain⟨l,rfl,k⟩:=t;refine⟨_,(hO (oE 1 Gv.nd nI) (hO (qX (oU (cN 0)) (nT 2 Gv.nd) (nQ (oE 1 Gv.nd (pJ g u (eH (cN 1) (eH (pG Dw C8 T.abs iJ (eH (cN 2) hH)) hH)))))) (nQ (oJ (cN 1))))),?_⟩;refine nO (λb=>b=[.v (ln l),.v (.int 0),.n]) (λN c=>c _ rfl) ?_;rintro _ rfl;refine nO (λb=>∃ a,b=[.v (ln l),.v (.int (EQ.gc l:Nat)),a]) (λN c=>?_) ?_
 .refine qK (l.map D.int) [.v (ln l),.v (.int 0),.n] (λL h=>h) (λi b=>∃ a,b=[.v (ln l),.v (.int (EQ.gc (l.take i):Nat)),a]) ⟨_,rfl⟩ ?_ ?_
  .rintro i d _ hd ⟨a,rfl⟩;obtain⟨x,y,rfl⟩:=qV hd;refine⟨_,x.natAbs,rfl,.inl rfl,⟨.v (.int x),?_⟩⟩;have e:EQ.gc (l.take (i+1))=Nat.gcd (EQ.gc (l.take i)) x.natAbs:=by
    rw[bQ,y];unfold EQ.gc;rw[eL];rfl
   rw[e];rfl
  .rintro _ ⟨a,rfl⟩;rw[aA,cM];exact c _ ⟨_,rfl⟩
 rintro _ ⟨a,rfl⟩;exact k
theorem Rw:FnScope ["numbers","divisor"] ["numbers"] (oB Dm):=pU
theorem JB (T:Txt j) (g:Kn P w K j base 2 "common_divisor" Fq ["numbers"] Bl):pZ P w K j base 3 "without_divisor" Dm ["numbers"] Mb:=by
 refine qI Rw λf n A b s H E F G R u Q t=>?_
 obtain⟨l,rfl,O,M,a⟩:=t;refine⟨_,(hO (oE 1 Rw.nd (pG (Kh rfl) Lh T.max lN (eH nI (eH (pJ g u (eH (cN 0) hH)) hH)))) (nQ (oJ (qP ["number"] ["divisor"] [1] (oU (cN 0)) (λ_ _ _ _ _=>(nT 0 KU)) (λ_ _ _ _ _=>(sX Hd Gk 0 (cN 1))))))),?_⟩;refine nO (λz=>z=[.v (ln l),.v (.int ((max 1 (EQ.gc l):Nat):Int))]) (λN q=>?_) ?_
 .refine⟨l,rfl,.inl rfl,λm c d L=>?_⟩;have:m=((max 1 (EQ.gc l):Nat):Int):=by omega
  rw[this];exact q _ rfl
 rintro _ rfl;unfold sR;refine rF l D.int (λx=>D.int (x/((max 1 (EQ.gc l):Nat):Int))) [.v (ln l),.v (.int ((max 1 (EQ.gc l):Nat):Int))] (λS h=>h) (by omega) (λi x y k e c d=>?_) ?_
 .have:=EF;refine⟨rfl,⟨by omega,?_⟩,c,?_⟩
  .show ((max 1 (EQ.gc l):Nat):Int).natAbs<BD;have B:1<BD:=by decide +kernel
   rw[iE];omega
  .show k (y++[.int (x.fdiv ((max 1 (EQ.gc l):Nat):Int))]) _;rw[fU _ (by omega)];exact d
 .have:(l.map λx=>D.int (x/((max 1 (EQ.gc l):Nat):Int)))=(EQ.wd l).map D.int:=by unfold EQ.wd;rw[List.map_map];rfl
  rw[this];exact a
theorem S7:FnScope ["values","by","at","rest"] ["values","by","at"] (oB Fy):=pU
theorem Vk (T:Txt j) (g:Kn P w K j base 3 "without_divisor" Dm ["numbers"] Mb):pZ P w K j base 4 "cleared" Fy ["values","by","at"] Uu:=by
 refine qI S7 λf Q A z s H E X Y l M m S=>?_
 obtain⟨v,b,k,rfl,hk,V,G,q,d,a⟩:=S;refine⟨_,(hO (pL (tL (sJ M.units) (pK false) (oA m 0 (cN 2)) nI) (nQ (oJ (cN 0))) pN) (hO (Fa 3 ["value","other"] ["by","at","values"] [1,2,0] S7.nd (Iy (by rfl) T.zip (eH (cN 0) (eH (cN 1) hH))) (λ_ _ _ _ _=>(xZ (n:=2) rfl (rO (nT 0 Ms) (rO (nT 1 Ms) yG)))) (λ_ _ _ _ _=>(qQ A7 Hj (qQ zR yQ (oA m 2 (cN 3)) (cN 0)) (qQ zR yQ (oA m 4 (cN 3)) (cN 1))))) (nQ (oJ (Qq (pJ g M (eH (cN 3) hH))))))),?_⟩;have F:=uP hk;have O:=uP (show k<b.length by omega);unfold EQ.cl at a;refine nO (λB=>B=[.v (ln v),.v (ln b),.v (.int k),.n]/\¬ EQ.ix v k=0) (λN c=>?_) ?_
 .refine⟨rfl,_,F,Ao (λh=>?_) λh=>c _ ⟨rfl,h⟩⟩;rw[aP h] at a;exact a
 rintro _ ⟨rfl,h⟩;rw[aJ h] at a;refine nO (λB=>B=[.v (ln v),.v (ln b),.v (.int k),.o (ln (List.zipWith (λx y=>EQ.ix b k*x-EQ.ix v k*y) v b))]) (λN c=>?_) ?_
 .unfold rY;refine rF (v.zip b) (λp=>.t [.int p.1,.int p.2]) (λp=>.int (EQ.ix b k*p.1-EQ.ix v k*p.2)) [.v (ln v),.v (ln b),.v (.int k),.n] (λr h=>⟨_,_,_,_,rfl,rfl,by rw[Ig];exact h⟩) (by rw[eS];omega) (λi x Z W e G R=>?_) (c _ ?_)
  .have L:=gW (aL e);exact⟨rfl,rfl,rfl,_,O,⟨d _ (EQ.ix_mem (by omega)),q _ L.1⟩,rfl,_,F,⟨q _ (EQ.ix_mem hk),d _ L.2⟩,G,R⟩
  .have:(v.zip b).map (λp=>D.int (EQ.ix b k*p.1-EQ.ix v k*p.2))=(List.zipWith (λx y=>EQ.ix b k*x-EQ.ix v k*y) v b).map D.int:=by
    rw[List.zip,jH,jH]
   rw[this];rfl
 rintro _ rfl;refine⟨_,rfl,by rw[eK];omega,?_,.inl rfl,_,rfl,a⟩;refine bH (EQ.gc_le (EQ.Le.zip (A:=BM) (C:=BM) V (λx u=>eT (q x u)) λx u=>eT (d x u))) DP
end
end Lw
namespace L2
open PySem PySem.Spec PyProof.Rows Lw
mutual
def rV:D->Bool
 | .k _=>false
 | .T _=>false
 | .dM _=>false
 | .t a=>yC a
 | .l a=>yC a
 | .c a=>yC a
 | .con a=>yC a
 | _=>true
def yC:Aa D->Bool
 | []=>true
 | x::a=>rV x&&yC a
end
theorem Lx:∀ {g:Aa D},(∀ x∈g,rV x=true)->yC g=true
 | [],_=>rfl
 | x::g,h=>by
  show (rV x&&yC g)=true;rw[h x aF,Lx λy a=>h y (aH _ a)];rfl
theorem sQ (g:Aa Int):rV (.l (g.map D.int))=true:=Lx λx a=>by obtain⟨_,_,rfl⟩:=aM.mp a;rfl
theorem Ze (g:Aa (Aa Int)):rV (.l (g.map λr=>.l (r.map D.int)))=true:=Lx λx a=>by obtain⟨_,_,rfl⟩:=aM.mp a;exact sQ _
section
variable {K:nH}
theorem Rep.nd (I:∀ b,b≠a->g b=H b) (hw:H a=some w) (J:Kf w=true) (C:∀ b p,A b->H b=some (.l p)->j b){d:D}{v:V}(h:Rep K A H d v):rV d=true->Rep K j g d v :=
 have get:∀ {b:Ad} {u:HO},H b=some u->Kf u=false->g b=some u:=λ{b u} e n=>by
  rw[I b λz=>by subst z;rw[hw] at e;cases e;rw[J] at n;cases n];exact e
 Rep.rec (motive_1:=λd v _=>rV d=true->Rep K j g d v) (motive_2:=λf p _=>yC f=true->Reps K j g f p)
  (λ_=>.e) (λb _=>.b b) (λi _=>.int i) (λx _=>.str x) (λv _=>.r v)
  (λh _ r n=>.t (get h rfl) (r n)) (λh _ r n=>.con h (r n)) (λm h _ r n=>.l (C _ _ m h) (get h rfl) (r n))
  (λh _ r n=>.c (h.elim (λ⟨o,q⟩=>.inl ⟨o,get q rfl⟩) .inr) (r n)) (λ_ _ _ _ _ n=>by cases n) (λ_ _ _ _ _ n=>by cases n) (λ_ _ _ _ _ n=>by cases n)
  (λ_=>.nil) (λ_ _ h r n=>.cons (h ((cH _ _).mp n).1) (r ((cH _ _).mp n).2)) h
def sA (n:Nat) (g:Aa Sl):Prop:=∀ i s,i≠n->g[i]?=some s->s = .n\/∃ d,s = .v d/\rV d=true
theorem sA.set {n i:Nat}{g:Aa Sl}(h:sA n g){d:D}(hd:rV d=true):sA n (g.set i (.v d)):=λk s hk e=>by
 rw[fW] at e;by_cases z:i=k
 .subst z;by_cases l:i<g.length
  .rw[aP rfl,aP l] at e;cases e;exact .inr ⟨d,rfl,hd⟩
  .rw[aP rfl,aJ l] at e;cases e
 .rw[aJ z] at e;exact h k s hk e
theorem sA.setN {n:Nat}{g:Aa Sl}(h:sA n g) (x:Sl):sA n (g.set n x):=λk s hk e=>by
 rw[cI (λz=>hk z.symm)] at e;exact h k s hk e
theorem Ng {g:Aa Sl}{j:St}{p:Sl×Ab V}(l:p∈g.zip j):∃ i:Nat,g[i]?=some p.1/\j[i]?=some p.2:=by
 obtain⟨i,a⟩:=eX.mp l;exact⟨i,gF.mp a⟩
theorem Jp:∀ {ρ:Aa Sl}{σ:St},(∀ s∈ρ,s = .n\/∃ d,s = .v d)->dK (ρ.zip σ)=[]
 | [],_,_=>rfl
 | _::_,[],_=>rfl
 | s::ρ,y::σ,h=>by
  have:=Jp (σ:=σ) λt a=>h t (aH _ a)
  rcases h s aF with rfl | ⟨d,rfl⟩<;>exact this
theorem Lf {c:D}:∀ {n:Nat}{ρ:Aa Sl}{σ:St},sA n ρ->σ[n]?=some (some (.ref a))->n<ρ.length->dK ((ρ.set n (.o c)).zip σ)=[a]
 | 0,s::ρ,y::σ,ok,b,_=>by
  have e:y=some (.ref a):=by simpa using b
  subst e;have:=Jp (ρ:=ρ) (σ:=σ) λt m=>by
   obtain⟨i,f⟩:=eX.mp m;rcases ok (i+1) t (by omega) (by simpa using f) with e | ⟨d,e,_⟩
   .exact .inl e
   .exact .inr ⟨d,e⟩
  show a::dK (ρ.zip σ)=[a];rw[this]
 | n+1,s::ρ,y::σ,ok,b,k=>by
  have q:=Lf (c:=c) (n:=n) (ρ:=ρ) (σ:=σ) (λi t f e=>ok (i+1) t (by omega) (by simpa using e)) (by simpa using b) (by simpa using k);rcases ok 0 s (by omega) rfl with rfl | ⟨d,rfl,_⟩<;>exact q
 | n,[],_,_,_,h=>absurd h (jO _)
 | 0,_::_,[],_,b,_=>by simp at b
 | n+1,_::_,[],_,b,_=>by simp at b
def hB (B:Bs) (R:Aa Ad) (a:Ad) (o:Obj) (u:HO) (H:Hp):Bs:=⟨B.dk,λb=>Al B R b\/b=a,upd H a (.frz o u)⟩
theorem DS.hold {C:Aa Sl}{J:St}{n:Nat}{l:Aa (MK×D)}(hl:C.length=J.length) (hd:DS K B (C.zip J++T) H) (hn:C[n]?=some (.o (.dM l))) (ok:sA n C) (hv:∀ p∈l,rV p.2=true) :
  ∃ a j,J[n]?=some (some (.ref a))/\H a=some (.dM j)/\l.map (·.1)=j.map (·.1)/\a∉B.dk /\
   (∀ o,DS K (hB B (dK (C.zip J++T)) a o (.dM j) H) ((C.set n (.v (.dM l))).zip J++[]) (upd H a (.frz o (.dM j)))) /\
   ∀ o I U H',I.length=U.length->DS K (hB B (dK (C.zip J++T)) a o (.dM j) H) (I.zip U++[]) H'->I[n]?=some (.v (.dM l))->U[n]?=some (some (.ref a))->sA n I ->
    DS K B ((I.set n (.o (.dM l))).zip U++T) (upd H' a (.dM j)):=by
 obtain⟨l1,y,l2,hy,_,hz,_⟩:=uH hl hn;have hm:((Sl.o (.dM l),y):Sl×Ab V)∈C.zip J++T:=by rw[hz];simp
 obtain⟨a,e0,j,Z,Y,rs⟩:=hd.ok _ hm;have e':y=some (.ref a):=e0;clear e0;subst e';have E:n<C.length:=(aG.mp hn).1;have A:dK (C.zip J++T)=a::dK T:=by
  have O:C.set n (.o (.dM l))=C:=by
   apply gS ;intro i;rw[fW];by_cases z:n=i
   .subst z;rw[aP rfl,aP E];exact hn.symm
   .rw[aJ z]
  have:=Lf (c:=.dM l) ok hy E;rw[O] at this;rw[qY,this];rfl
 have hR:a∈dK (C.zip J++T):=by rw[A];exact aF
 obtain⟨n0,S⟩:=hd.new a hR;refine⟨a,j,hy,Z,Y,S,λo=>?_,λo I U H' l' X aa R W=>?_⟩
 .have ns:∀ s∈C.set n (.v (.dM l)),s = .n\/∃ d,s = .v d:=λs hs=>by
   obtain⟨i,hi⟩:=eX.mp hs;by_cases z:i=n
   .subst z;rw[fQ E] at hi;cases hi;exact .inr ⟨_,rfl⟩
   .rcases ok.setN (.v (.dM l)) i s z hi with e | ⟨d,e,_⟩
    .exact .inl e
    .exact .inr ⟨d,e⟩
  have r0:dK ((C.set n (.v (.dM l))).zip J++[])=[]:=by rw[cZ];exact Jp ns
  have mv:∀ {d:D} {v:V},Rep K (Al B (dK (C.zip J++T))) H d v->rV d=true->Rep K (Al (hB B (dK (C.zip J++T)) a o (.dM j) H) []) (upd H a (.frz o (.dM j))) d v:=λr nd =>
   r.nd (a:=a) (λb z=>gD z) Z rfl (λb P m _=>⟨m.1,bC,.inl (.inl m)⟩) nd
  refine⟨λb o' q _=>q,hd.dk.upd S,by rw[r0];exact iZ,by rw[r0];exact λb m=>absurd m bC,λp w=>?_⟩;rw[r0];rw[cZ] at w;obtain⟨i,f,F⟩:=Ng w;obtain⟨s,x⟩:=p;dsimp only at f F;by_cases z:i=n
  .subst z;rw[fQ E] at f;rw[hy] at F;cases f;cases F;refine⟨.ref a,rfl,.dM ⟨S,bC,.inl (.inr rfl)⟩ (.inr ⟨o,hG⟩) Y ?_⟩;have:∀ {N:Aa D} {P:Aa V},Reps K (Al B (a::dK T)) H N P->(∀ d∈N,rV d=true)->Reps K (Al (hB B (dK (C.zip J++T)) a o (.dM j) H) []) (upd H a (.frz o (.dM j))) N P:=λ{N}=>by
    induction N with
    | nil=>intro P r _;cases r;exact .nil
    | cons d N ih=>intro P r h;cases r with | cons g r=>exact .cons (mv (by rw[A];exact g) (h d aF)) (ih r λx hx=>h x (aH _ hx))
   exact this (by rw[<- A];exact rs) λd hd=>by obtain⟨p,w,rfl⟩:=aM.mp hd;exact hv p w
  .rcases ok.setN (.v (.dM l)) i s z f with e | ⟨d,e,nd⟩
   .subst e;trivial
   .subst e;rw[cI (λq=>z q.symm)] at f;obtain⟨v,e,r⟩:=hd.ok (.v d,x) (bK _ (eX.mpr ⟨i,gF.mpr ⟨f,F⟩⟩));exact⟨v,e,mv r nd⟩
 .have L:n<I.length:=(aG.mp aa).1;have r2:dK ((I.set n (.o (.dM l))).zip U++T)=a::dK T:=by rw[qY,Lf W R L];rfl
  have Q:H' a=some (.frz o (.dM j)):=X.fr a _ hG S;have keep:∀ b u,b≠a->b∉B.dk->H b=some u->upd H' a (.dM j) b=some u:=λb u z k e=>by
   rw[gD z];exact X.fr b u (by show upd H a _ b=_;rw[gD z];exact e) k
  have kp:Kp (Al B (a::dK T)) (Al B (a::dK T)) H (upd H' a (.dM j)):=by
   refine⟨λb u m e=>⟨m,keep b u (λz=>m.2.1 (z▸aF)) m.1 e⟩,λb u t O=>keep b u (λz=>?_) (λz=>?_) O⟩
   .subst z;rw[Z] at O;cases O;cases t
   .obtain⟨xs,q⟩:=hd.dk.some z;rw[O] at q;cases q;cases t
  have M:=hd.nd;rw[A] at M;refine⟨λb u e k=>keep b u (λz=>by rw[z,n0] at e;cases e) k (hd.fr b u e k),X.dk.upd S,by rw[r2];exact M,by rw[r2,<- A];exact hd.new,λp w=>?_⟩;rw[r2];rcases aT.mp w with w | w
  .obtain⟨i,f,F⟩:=Ng w;obtain⟨s,x⟩:=p;dsimp only at f F;by_cases z:i=n
   .subst z;rw[fQ L] at f;rw[R] at F;cases f;cases F;exact⟨a,rfl,j,hG,Y,(by rw[<- A];exact rs:Reps K (Al B (a::dK T)) H _ _).mono kp⟩
   .rcases W.setN (.o (.dM l)) i s z f with e | ⟨d,e,nd⟩
    .subst e;trivial
    .subst e;rw[cI (λq=>z q.symm)] at f;obtain⟨v,e,r⟩:=X.ok (.v d,x) (bK _ (eX.mpr ⟨i,gF.mpr ⟨f,F⟩⟩));refine⟨v,e,r.nd (a:=a) (λb z=>gD z) Q rfl (λb P m q=>?_) nd⟩;obtain⟨b1,_,G⟩:=m;rcases G with (G | G) | G
     .rw[<- A];exact G
     .subst G;rw[Q] at q;cases q
     .have ne:b≠a:=λz=>by
       subst z;have:upd H b (.frz o (.dM j)) b=none:=G;rw[hG] at this;cases this
      have m:H b=none:=by have:upd H a (.frz o (.dM j)) b=none:=G;rwa [gD ne] at this
      obtain⟨f1,f2,f3⟩:=hd.free m;rw[A] at f3;exact⟨b1,f3,.inr f1⟩
  .have:=hd.ok p (bJ _ w);rw[A] at this;refine this.mono kp λr hr u e=>keep r u (λz=>?_) (hd.new r ?_).2 e
   .subst z;exact (bM.mp M).1 (tG.mpr ⟨p,w,hr⟩)
   .rw[A];exact aH _ (tG.mpr ⟨p,w,hr⟩)
end
def EW (n i j:Nat) (g:nV):qL:=λh f e=>∃ a,e[n]?=some (.o (.dM a))/\sA n e/\(∀ p∈a,rV p.2=true)/\∃ Pv:Nat->Aa Sl->Prop,Pv 0 (e.set n (.v (.dM a))) /\
 (∀ q d b,(tI a)[q]?=some d->Pv q b->rV d=true/\g h (b.set j (.v d)) λr c=>∃ x,sd r=some x/\rV x=true/\c[n]?=some (.v (.dM a))/\sA n c/\Pv (q+1) (c.set i (.v x))) /\
 ∀ b,Pv a.length b->f.nx (b.set n (.o (.dM a)))
section
variable {X:Cx}
theorem IS (n i j:Nat){x y z:Af}{p1 C p3 p4 pos:Pos}{e:Expr}{te:nV}(I:X.N.Nodup) (he:PD X e te) (hx:PE X (.Name x C) (qO n):=by exact pv _) (hj:X.N[j]?=some y:=by rfl) (hi:X.N[i]?=some z:=by rfl) (nj:j≠n:=by decide) (ni:i≠n:=by decide)
  (hy:vI X.env.scope y:=by first | exact Or.inl rfl | exact Or.inr rfl) (hz:vI X.env.scope z:=by first | exact Or.inl rfl | exact Or.inr rfl) (hc:X.calm=true:=by rfl)
  (p:swapsWith e (some (.Name z p3)) p4.line X.env=pure false:=by rfl) (hp:PassesOwn (model X.prog X.w) X.A X.env X.xe:=by exact dO)
  (g:X.fn y=true\/X.env.scope.names.lookup y=some .local:=by first | exact .inl rfl | exact .inr rfl | assumption) (l:X.fn z=true\/X.env.scope.names.lookup z=some .local:=by first | exact .inl rfl | exact .inr rfl | assumption)
  (hs:∀ v,foldedSetIterable (.Name x C) X.env v=pure v:=by intro _;rfl) :
  tH X (.For (.Name y p1) (.Name x C) [.Assign [.Name z p3] e p4] [] pos) (EW n i j te) :=
 (Kx (vZ hp hc (Ge hx) (tP I hj hy g) (pQ (oS I hi hz he p l)) hs)).mono λDn G H Q=>Q.elim λB V T De W hd ⟨c,Z,ok,hv,Pv,p0,step,fin⟩ lk=>by
  obtain⟨a,h,D,ha,ek,nk,tE,back⟩:=hd.hold W Z ok hv;have O:n<V.length:=(aG.mp Z).1;refine⟨.ref a,D,a,.dM h,h.map (·.1),rfl,rfl,.inl ⟨ha,λo h0=>?_⟩⟩;have Y:=Gc (K:=X.K) (a:=a) (o:=o) (u:=.dM h) (ks:=h.map (·.1));have km:(h.map (·.1)).map nR=tI c:=by unfold tI;rw[<- ek,List.map_map];rfl
  rw[km] at Y;have kl:(tI c).length=c.length:=by unfold tI;rw[List.length_map]
  refine⟨λq m k t=>m=c.length-q/\q<=c.length/\∃ b,b.length=k.length/\k.length=G.length/\k[n]?=some (some (.ref a))/\b[n]?=some (.v (.dM c))/\sA n b/\DS X.K (hB B (dK (V.zip G++T)) a o (.dM h) H) (b.zip k++[]) t/\Pv q b,⟨_,rfl,cG _,_,by rw[aY];exact W,rfl,D,fQ O,ok.setN _,tE o,p0⟩,?_⟩;rintro q m k t ⟨rfl,hq,b,F,U,m3,m4,m5,L,pv⟩;have hk:t a=some (.frz o (.dM h)):=L.fr a _ hG nk;by_cases P:q<c.length
  .refine .inr ⟨Y.go q t (by omega) hk,λs E=>∃ f,f.length=s.length/\s.length=G.length/\s[n]?=some (some (.ref a))/\f[n]?=some (.v (.dM c))/\sA n f/\DS X.K (hB B (dK (V.zip G++T)) a o (.dM h) H) (f.zip s++[]) E/\Pv (q+1) f,λs E ⟨f,w1,w2,w3,w4,w5,w6,w7⟩=>⟨_,(by omega:c.length-(q+1)<_),rfl,P,f,w1,w2,w3,w4,w5,w6,w7⟩,λv E yl=>?_⟩;obtain⟨d,M,rfl,rx⟩:=Y.yld q t v E (by omega) hk yl;obtain⟨nd,st⟩:=step q d b M pv;have d2:=(DS.push (L1:=b.zip k) (L2:=[]) L (rx _)).assign F j;refine⟨_,b.set j (.v d),[],_,by rw[aY,aY];exact F,d2,st,λr f v2 H3 J d3 R=>?_⟩;obtain⟨x',e1,e2,e3,e4,e5⟩:=R;have d4:=(d3.thaw e1).assign (by rw[J]) i;have S:f.length=(k.set j (some v)).length:=J;refine⟨f.set i (.v x'),by rw[aY,aY];exact S,by rw[aY,aY];exact U,?_,?_,e4.set e2,d4,e5⟩
   .rw[cI ni,cI nj];exact m3
   .rw[cI ni];exact e3
  .have eq:q=c.length:=by omega
   subst eq;refine .inl ⟨Y.stop _ t kl.symm hk,.inr ⟨a,o,.dM h,rfl,hk,h0,?_⟩⟩;exact (lk.1 _ _ _ (by rw[aY];exact F) U (back o b k t F L m4 m3 m5)).1 (fin b pv)
end
end L2
namespace L2
open PySem PySem.W PySem.Spec PyProof.Rows Lw
section
theorem IC (C:A.handled=none) (I:Ad) (l:d≠I):Walks p w A I [I,d] [I] g.size (λi v=>∃ j:i<g.size,v=g[i].key) (λi h=>h.IsKeyIter I d i g.size r/\RawD h d o g r) where
 sub:=λb a=>by simp at a;simp[a]
 frame:=λ_ _ _ st hk=>⟨st.1.at λo e=>hk I (by simp) o e,⟨st.2.low,hk d (by simp) _ st.2.get,st.2.ex,st.2.dat⟩⟩
 item:=λi s Q E j st c=>Sg st.2 st.1 j λf k m=>c _ f s.toks ⟨j,rfl⟩ ⟨k,⟨st.2.low,(m.2 d l).trans st.2.get,st.2.ex,st.2.dat⟩⟩ λb o a e=>(m.2 b (λz=>a (by simp[z]))).trans e
 done:=λs Q E st c=>Ps C st.2 st.1 λf n=>c f s.toks λb o a e=>n b o (λz=>a (by simp[z])) e
 self:=λ_ _ _ _ st c=>wpAny_pyIter_keyiter st.1 c
theorem JM:KdlSrc j w "dict" d d g.size (λi v=>∃ p:i<g.size,v=g[i].key) (λh=>RawD h d o g l) where
 type:=λ_ a=>a.ty
 there:=λ_ a=>⟨aV a.get,aV a.get⟩
 keep:=λ_ _ a hk=>⟨a.low,hk d (.inl rfl) _ a.get,a.ex,a.dat⟩
 notList:=by decide
 notTuple:=by decide
 hint:=λ_ _ _ _ a b=>kdl_hint_dict a.ty b
 iter:=λ_ _ c a=>⟨_,_,(λ_ _ b=>Sm a b),IC c _ (bG (aV a.get)),⟨⟨_,bB _ rfl,rfl,rfl⟩,⟨a.low,aK _ a.get,a.ex,a.dat⟩⟩⟩
end
theorem Y5 {P:Ah}{w:World}{H:Hp}{h:Ag}{a:Ad}{g:Aa (MK×V)}(ok:oX P w H h) (C:Rd H a (.dM g)) :
  ∃ o j p,RawD h a o j p/\j.size=g.length/\∀ (i:Nat) (l:i<j.size),∃ k v,g[i]?=some (k,v)/\tZ H k j[i].key:=by
 have b:∀ {j:Array DictEntry} {i:Nat} {e:DictEntry} (l:i<j.size),j.toList[i]?=some e->j[i]=e:=λ{j i e} l h=>by
  rw[dN,cJ l] at h;exact bO h
 obtain⟨z,lo,u,r,s,j,p,d,f,m,c,_⟩:=(show oM P w H h a (.dM g) from Gs ok C);have x:=eC r;have y:j.size=u.length:=by simpa using cL List.length c
 refine⟨s,j,p,⟨lo,d,f,m⟩,by omega,λi l=>?_⟩;have hk:i<g.length:=by omega
 obtain⟨q,n,A,t,B⟩:=Dd r (aE hk);refine⟨g[i].1,g[i].2,aE hk,?_⟩;rw[b l (by rw[c,aQ,n];rfl)];exact t
def zH:MK->V
 | .inl k=>kV k
 | .inr _=>.e
def By (k:MK):Bool:=match k with
 | .inl _=>true
 | .inr _=>false
section
variable {X:Cx}{K:nH}
def My:Aa V->Hp->VK->Prop:=λc H Q=>∃ (a:Ad) (b:Aa (MK×V)),c=[.ref a]/\Rd H a (.dM b)/\b.length<=1000/\(∀ p∈b,By p.1=true)/\∀ l,H l=none->Q (.ref l) (upd H l (.l (b.map λp=>zH p.1)))
theorem W4 (g:X.calm=true):oQ X (.type "list") My:=by
 intro A s U H T d Q I r h;obtain⟨a,b,rfl,E,z,n,q⟩:=h;obtain⟨u,rfl,R⟩:=qZ r;cases R;obtain⟨J,Z,Y,raw,sz,rows⟩:=Y5 I.hok E;refine PySem.W.kdl_call JM (I.ok.hd g) raw (by rw[sz];exact bF z (by decide)) λj S f c O t w=>?_
 obtain⟨C,P⟩:=w;have rel:nN (b.map λp=>zH p.1) f.toList:=by
  have go:∀ (b:Aa (MK×V)) (d:Aa Ac),d.length=b.length->(∀ p∈b,By p.1=true)->(∀ (i:Nat) v,d[i]?=some v->∃ k x,b[i]?=some (k,x)/\tZ H k v)->nN (b.map λp=>zH p.1) d:=by
   intro b;induction b with
   | nil =>
    intro d m _ _;cases d with
    | nil=>exact .nil
    | cons _ _=>cases m
   | cons p b L =>
    intro d m n y;cases d with
    | nil=>cases m
    | cons u d =>
     obtain⟨k,x,B,D⟩:=y 0 u rfl;cases B;have:=n _ aF;rw[aN];refine .cons ?_ (L d (mC m) (λp G=>n p (aH _ G)) λi v e=>y (i+1) v e);rcases k with k | k
     .exact D
     .cases this
  refine go b f.toList (by rw[eV];omega) n λi v e=>?_
  rw[dN] at e;obtain⟨F,rfl⟩:=P i v e;obtain⟨k,x,M,N⟩:=rows i F;exact⟨k,x,M,N⟩
 exact⟨.ref s.heap.objs.size,_,I.laid (a:=s.heap.objs.size) (o:=.l (b.map λp=>zH p.1)) (t':=S) O (aU _) ⟨by rw[aA];exact bF z (by decide),f.toList,c,rel,by rw[Array.toArray_toList];exact t⟩,rfl,q _ (I.hok.fresh (aU _))⟩
def Y8:OC:=λb c=>match b with
 | [.dM a]=>a.length<=1000/\(∀ p∈a,By p.1=true)/\c (.o (.l (tI a)))
 | _=>False
theorem AK:rM K My Y8:=by
 intro B L H s F G Q hd n c k;cases s with
 | nil=>exact False.elim c
 | cons d s =>
 cases d<;>first | exact False.elim c | skip<;>cases s<;>first | exact False.elim c | skip
 rename_i b
 obtain⟨x,rfl,E⟩:=sH n;obtain⟨a,m,rfl,h,e,r⟩:=E.dM_inv;have D:b.length=m.length:=by have:=cL List.length e;simpa using this
 have u:∀ p∈m,By p.1=true:=λp n=>by
  have:p.1∈b.map (·.1):=by rw[e];exact bV n
  obtain⟨q,y,t⟩:=aM.mp this;rw[<- t];exact c.2.1 q y
 refine⟨a,m,rfl,h,by rw[<- D];exact c.1,u,λl w=>k _ _ _ c.2.2 (hd.lstF w ?_)⟩;have t:tI b=(m.map (·.1)).map nR:=by rw[<- e,bA];rfl
 have v:(m.map λp=>zH p.1)=(m.map (·.1)).map zH:=by rw[bA];rfl
 rw[t,v];have go:∀ f:Aa MK,(∀ k∈f,By k=true)->Reps K (Al B (dK L)) H (f.map nR) (f.map zH):=λf=>by
  induction f with
  | nil=>intro _;exact .nil
  | cons k f A =>
   intro hk;refine .cons ?_ (A λx z=>hk x (aH _ z));have:=hk k aF;rcases k with (i | x) | k
   .exact .int i
   .exact .str x
   .cases this
 exact go _ λk hk=>by obtain⟨p,n,rfl⟩:=aM.mp hk;exact u p n
end
end L2
namespace L2
open PySem PySem.Spec PyProof.Rows
theorem IA {P:Ah}(h:Ag) (g:sysModules<h.objs.size):oM P w H (h.push { cls:=.type "dict",data:=.dict #[] }) h.objs.size (.dM []) :=
 ⟨cG _,cY.mpr (fB (bG g)),[],.nil,_,#[],0,bB _ rfl,⟨rfl,rfl,rfl⟩,rfl,rfl,iZ⟩
def AV:TE:=λ_ H Q=>∀ p,H p=none->Q (.ref p) (upd H p (.dM []))
section
variable {X:Cx}
theorem Ww:PE X (.Dict [] [] pos) AV:=λb s c H Q I h =>
 wpAny_Dict_empty ⟨.ref s.heap.objs.size,_,I.laid (a:=s.heap.objs.size) (o:=.dM []) (t':=s.toks) (λ_ _ q=>aK _ q) (aU _) (IA s.heap I.big),rfl,h _ (I.hok.fresh (aU _))⟩
def AG:nV:=λ_ b a=>a (.o (.dM [])) b
theorem Yy:PD X (.Dict [] [] pos) AG:=Ww.mono λh H Q a=>a.elim λB e T f b hd d k p c=>k _ e _ _ b (hd.dMF (ds:=[]) (kvs:=[]) c rfl .nil).mid d
end
end L2
namespace Lw
open PySem L2
abbrev hk (k:Nat):MK:=Sum.inl (Sum.inl (k:Int))
def nS (g:Aa (Nat×Aa Int)):Aa (MK×D):=g.map λh=>(hk h.1,ln h.2)
def Uq:RD:=λc a b=>∃ (rows:Aa (Aa Int)) (m:Nat),a=[.l (rows.map ln)]/\rows.length<=1000/\m<=28/\(∀ r∈rows,r.length=m/\EQ.Bit r)/\b (.o (.dM (nS (EQ.red rows))))
theorem B6 {j k:Nat}:hk j=hk k↔j=k:=⟨λh=>Int.ofNat.inj (mK (mK h)),λh=>by rw[h]⟩
theorem Me {j:Aa (Nat×Aa Int)}(l:(j.map (·.1)).Nodup){i:Nat}{h:Nat×Aa Int}(e:j[i]?=some h):nU (nS j) (hk h.1)=some (ln h.2):=by
 induction j generalizing i with
 | nil=>simp at e
 | cons g j c =>
  have a:=bM.mp l;show nU ((hk g.1,ln g.2)::nS j) _=_;rw[tS];cases i with
  | zero=>simp at e;subst e;rw[aP rfl]
  | succ i =>
   have b:j[i]?=some h:=by simpa using e
   rw[aJ λz=>a.1 (by show g.1∈_;rw[B6.mp z];exact bV (aL b))];exact c a.2 b
theorem EO {j:Aa (Nat×Aa Int)}{k:Nat}{v:Aa Int}(h:k∉j.map (·.1)):oY (nS j) (hk k) (ln v)=nS (j++[(k,v)]):=by
 unfold oY;rw[aJ]
 .unfold nS;rw[List.map_append];rfl
 .intro z;obtain⟨p,b,e⟩:=lO.mp z;obtain⟨g,a,rfl⟩:=aM.mp b;exact h (by rw[<- B6.mp (fP e)];exact bV a)
theorem AJ {l:Aa (Nat×Aa Int)}(o:(l.map (·.1)).Nodup){i:Nat}{h:Nat×Aa Int}(e:l[i]?=some h) (v:Aa Int):oY (nS l) (hk h.1) (ln v)=nS (l.set i (h.1,v)):=by
 unfold oY;have n:((nS l).any λs=>decide (s.1=hk h.1))=true:=lO.mpr ⟨(hk h.1,ln h.2),aM.mpr ⟨h,aL e,rfl⟩,by simp⟩;rw[aP n];unfold nS;rw[bA];apply gS;intro j;rw[aQ,aQ,fW];by_cases z:i=j
 .subst z;rw[aP rfl,aP (aG.mp e).1,e];simp
 .rw[aJ z];cases f:l[j]? with
  | none=>rfl
  | some g =>
   have ne:¬ hk g.1=hk h.1:=λq=>z (by
    have k:(l.map (·.1))[i]?=some h.1:=by rw[aQ,e];rfl
    have m:(l.map (·.1))[j]?=some h.1:=by rw[aQ,f,<- B6.mp q];rfl
    obtain⟨a,c⟩:=aG.mp k;obtain⟨b,d⟩:=aG.mp m;rcases Nat.lt_trichotomy i j with lt | eq | gt
    .exact absurd (c.trans d.symm) (jZ.mp o i j a b lt)
    .exact eq
    .exact absurd (d.trans c.symm) (jZ.mp o j i b a gt))
   show some (if hk g.1=hk h.1 then _ else _)=_;rw[aJ ne];rfl
theorem JD (j:Aa (Nat×Aa Int)):∀ p∈nS j,rV p.2=true:=λp a=>by
 obtain⟨g,_,rfl⟩:=aM.mp a;exact sQ _
theorem Xg (j:Aa (Nat×Aa Int)):∀ p∈nS j,By p.1=true:=λp a=>by
 obtain⟨g,_,rfl⟩:=aM.mp a;rfl
theorem Hc (g:Aa (Nat×Aa Int)):tI (nS g)=g.map λh=>D.int (h.1:Nat):=by
 unfold tI nS;rw[List.map_map];rfl
def CC:Nat:=2 ^ 140
theorem vA:0<CC:=mM (by decide)
theorem L0 {m:Nat}(h:m<=28):m*m ^ m<=CC:=by
 have:∀ m≤28,m*m ^ m<=CC:=by decide +kernel
 exact this m h
theorem Qd {j:Nat}(h:j<=28):(2*CC) ^ j*1<BM:=by
 refine bH (iP 1 (iS (Nat.mul_pos (by decide) vA) h)) ?_;decide +kernel
theorem Hy:CC<BM:=by decide +kernel
theorem U7 (l:Aa Int):l.any (λx=>decide (x≠0))=l.any (· != 0):=by
 congr 1;funext x
 by_cases h:x=0
 .subst h;rfl
 .have:(x != 0)=true:=by simpa using h
  rw[this];simpa using h
abbrev yB (s:Sl):Prop:=s = .n\/∃ d,s = .v d/\rV d=true
theorem yY {g U j l o p:Sl}(r:yB g) (C:yB j) (I:yB l) (J:yB o) (T:yB p):sA 1 [g,U,j,l,o,p]:=λi s a e=>by
 rcases i with _ | _ | _ | _ | _ | _ | i
 .cases e;exact r
 .exact absurd rfl a
 .cases e;exact C
 .cases e;exact I
 .cases e;exact J
 .cases e;exact T
 .simp at e
theorem BB (l:Aa Int):wZ (l.map D.int)=(List.range l.length).map λi=>D.t [.int (i:Nat),.int (EQ.ix l i)]:=by
 apply gS;intro i;by_cases h:i<l.length
 .rw[Jy (d:=.int (EQ.ix l i)) (by
   rw[aQ,aE h];unfold EQ.ix;rw[bP,aE h];rfl),aQ,kF h];rfl
 .rw[eY (by rw[Cy,aA];omega),eY (by rw[aA,cA];omega)]
theorem Su:∀ (j:Aa (Nat×Aa Int)) (v:Aa Int){m:Nat},v.length=m->(∀ h∈j,h.2.length=m)->(EQ.rest j v).length=m
 | [],_,_,e,_=>e
 | h::j,v,m,e,a=>by
  show (EQ.rest j (EQ.cl v h.2 h.1)).length=m;exact Su j _ ((EQ.cl_len (e.trans (a h aF).symm)).trans e) λg b=>a g (aH _ b)
theorem Rl:(["at","value"]:Aa Af).Nodup:=by decide +kernel
section
variable {P:Ah}{K:nH}
theorem zL:FnScope ["table","heads","values","rest","at","last"] ["table"] (oB Ia):=pU
theorem Ym (T:Txt mg) (p:Kn P w K mg base 4 "cleared" Fy ["values","by","at"] Uu):pZ P w K mg base 5 "reduced" Ia ["table"] Uq:=by
 refine qI zL λf ae A ac s H E dk ds Φ Z hu hR=>?_
 obtain⟨rows,m,rfl,hl,hm,Q,ab⟩:=hR;refine⟨_,(hO (oE 1 zL.nd Yy) (hO (qX (oU (cN 0)) (nT 2 zL.nd) (hO (oE 3 zL.nd (cN 2)) (hO (IS 1 3 4 zL.nd (pJ p Z (eH (cN 3) (eH (oA hu 1 (cN 4)) (eH (cN 4) hH))))) (nQ (pL (yP (pG (AF rfl) X1 T.any PyProof.Rows.boot_any (eH (cN 3) hH))) (hO (oE 5 zL.nd (pG (Kh rfl) Lh T.max lN (eH (qP ["at","value"] [] [] (Nj (by rfl) T.enumerate (cN 3)) (λ_ _ _ _ _=>(xZ (n:=2) rfl (rO (nT 0 Rl) (rO (nT 1 Rl) yG)))) (λ_ _ _ _ _=>(cN 0)) (ht:=λ_ _ _ _ _=>(vS (rA (uA Z.units) (pK true) (pv 1) nI)))) hH))) (hO (qX (oU (uI (W4 rfl) AK T.list fY (Bc (pv 1) hH))) (nT 4 zL.nd) (nQ (vB (n:=1) hu (pJ p Z (eH (oA hu 1 (cN 4)) (eH (cN 3) (eH (cN 5) hH)))) (pv 1) (cN 4)))) (nQ (vB (n:=1) hu (cN 3) (pv 1) (cN 5))))) pN))))) (nQ (oJ (wY 1 (pv 1)))))),?_⟩;refine nO (λk=>k=[.v (.l (rows.map ln)),.o (.dM []),.n,.n,.n,.n]) (λN G=>G _ rfl) ?_;rintro _ rfl;refine nO (λk=>∃ W X y L,k=[.v (.l (rows.map ln)),.o (.dM (nS (EQ.red rows))),W,X,y,L]) (λN G=>?_) ?_
 .refine qK (rows.map ln) [.v (.l (rows.map ln)),.o (.dM []),.n,.n,.n,.n] (λΨ h=>h) (λi k=>∃ W X y L,k=[.v (.l (rows.map ln)),.o (.dM (nS (EQ.red (rows.take i)))),W,X,y,L]/\sA 1 k) ⟨_,_,_,_,rfl,yY (.inr ⟨_,rfl,Ze rows⟩) (.inl rfl) (.inl rfl) (.inl rfl) (.inl rfl)⟩ ?_ ?_
  .rintro i d _ hd ⟨W,X,y,L,rfl,ok⟩;obtain⟨v,hv,rfl⟩:=qV hd;have ht:EQ.red (rows.take (i+1))=EQ.red1 (EQ.red (rows.take i)) v:=by
    rw[bQ,hv];unfold EQ.red;rw[eL];rfl
   rw[ht];obtain⟨vm,vb⟩:=Q v (aL hv);obtain⟨I,sm⟩:=EQ.red_ok (m:=m) (rows:=rows.take i) λr Z=>Q r (iO Z)
   generalize EQ.red (rows.take i)=a at *;generalize (λw=>∀ r∈rows.take i,EQ.dot m r w=0)=KK at *;have ag:=I.le;have S:∀ h∈a,EQ.Le CC h.2:=λh B=>(sm h B).mono (L0 hm)
   have rl:∀ q,(EQ.rest (a.take q) v).length=m/\A4 (EQ.rest (a.take q) v):=λq=>by
    have hq:∀ h∈a.take q,h.2.length=m/\EQ.Le CC h.2:=λh B=>⟨I.len h (iO B),S h (iO B)⟩
    refine⟨Su (a.take q) v vm λh B=>(hq h B).1,λx C=>bH (EQ.Le.rest vA (a.take q) vm hq vb.le x C) (Qd ?_)⟩;rw[bN];omega
   have V:=ok 0 _ (by decide) rfl;have J:=ok 5 _ (by decide) rfl;refine nO (λk=>k=[.v (.l (rows.map ln)),.o (.dM (nS a)),.v (ln v),.v (ln v),y,L]) (λN G=>G _ rfl) ?_;rintro _ rfl;refine nO (λk=>∃ c,k=[.v (.l (rows.map ln)),.o (.dM (nS a)),.v (ln v),.v (ln (EQ.rest a v)),c,L]/\sA 1 k) (λN G=>?_) ?_
   .refine⟨nS a,rfl,yY V (.inr ⟨_,rfl,sQ v⟩) (.inr ⟨_,rfl,sQ v⟩) (ok 4 _ (by decide) rfl) J,JD a,λq k=>∃ c,k=[.v (.l (rows.map ln)),.v (.dM (nS a)),.v (ln v),.v (ln (EQ.rest (a.take q) v)),c,L]/\sA 1 k,⟨y,rfl,yY V (.inr ⟨_,rfl,sQ v⟩) (.inr ⟨_,rfl,sQ v⟩) (ok 4 _ (by decide) rfl) J⟩,?_,?_⟩
    .rintro q d _ M ⟨c,rfl,F⟩;rw[Hc] at M;obtain⟨h,B,rfl⟩:=qV M;have u:=aL B;refine⟨rfl,?_⟩;refine⟨rfl,ln h.2,by show (some (nU (nS a) (hk h.1)))=_;rw[Me I.nd B],?_⟩;refine⟨EQ.rest (a.take q) v,h.2,h.1,rfl,by rw[(rl q).1];exact I.lt h u,by rw[(rl q).1,I.len h u],by rw[(rl q).1];omega,(rl q).2,λx C=>bH (S h u x C) Hy,.inl rfl,?_⟩;have er:EQ.rest (a.take (q+1)) v=EQ.cl (EQ.rest (a.take q) v) h.2 h.1:=by
      rw[bQ,B];unfold EQ.rest;rw[eL];rfl
     dsimp only;rw[er];have i1:yB (.v (.int (h.1:Nat))):=.inr ⟨_,rfl,rfl⟩;exact⟨_,rfl,sQ _,rfl,yY V (.inr ⟨_,rfl,sQ v⟩) (.inr ⟨_,rfl,sQ _⟩) i1 J,⟨.v (.int (h.1:Nat)),rfl,yY V (.inr ⟨_,rfl,sQ v⟩) (.inr ⟨_,rfl,sQ _⟩) i1 J⟩⟩
    .rintro _ ⟨c,rfl,F⟩;have e:(nS a).length=a.length:=by unfold nS;rw[List.length_map]
     rw[e,cM] at F |-;exact G _ ⟨c,rfl,yY V (.inr ⟨_,rfl,sQ v⟩) (.inr ⟨_,rfl,sQ _⟩) (F 4 _ (by decide) rfl) J⟩
   rintro _ ⟨c,rfl,F⟩;have U:=rl a.length;rw[cM] at U;have o4:=F 4 _ (by decide) rfl;refine⟨_,Bf _,rfl,_,rfl,?_⟩;unfold EQ.red1;rw[U7];cases ha:(EQ.rest a v).any (· != 0) with
   | false=>rw[aJ (by decide),aJ (by decide)];exact⟨_,_,_,_,rfl,F⟩
   | true =>
    rw[aP rfl,aP rfl];rw[<- U7] at ha;obtain⟨s0,R⟩:=EQ.any_ix.mp ha;obtain⟨a1,a2⟩:=EQ.lastNZ_ok R;refine nO (λk=>k=[.v (.l (rows.map ln)),.o (.dM (nS a)),.v (ln v),.v (ln (EQ.rest a v)),c,.v (.int (EQ.lastNZ (EQ.rest a v):Nat))]) (λN G=>?_) ?_
    .unfold rY dC aC;refine uW (List.range (EQ.rest a v).length) (λi=>.t [.int (i:Nat),.int (EQ.ix (EQ.rest a v) i)]) (λi=>.int (i:Nat)) (λi=>decide (EQ.ix (EQ.rest a v) i≠0)) [.v (.l (rows.map ln)),.o (.dM (nS a)),.v (ln v),.v (ln (EQ.rest a v)),c,L] (λΨ h=>?_) (by rw[cA,U.1];omega) (λi x ys Nx e h1 h2 h3=>?_) ?_
     .show Ψ (wZ _) _;rw[BB];exact h
     .refine⟨rfl,rfl,rfl,xC (λh=>?_) λh=>?_⟩
      .exact⟨h1,h2 (by simpa using h)⟩
      .exact h3 (by simpa using h)
     .refine⟨((List.range (EQ.rest a v).length).filter λi=>decide (EQ.ix (EQ.rest a v) i≠0)).map λi=>((i:Nat):Int),?_,?_,λb hb ht=>?_⟩
      .rw[<- Bf,bA];rfl
      .intro z;have aa:s0<(EQ.rest a v).length:=aX λY=>R (EQ.ix_out Y)
       have:((s0:Nat):Int)∈([]:Aa Int):=by rw[<- z];exact bV (bR.mpr ⟨cB.mpr aa,by simpa using R⟩)
       cases this
      .have:b=((EQ.lastNZ (EQ.rest a v):Nat):Int):=by
        obtain⟨j,hj,rfl⟩:=aM.mp hb;have l1:EQ.lastNZ (EQ.rest a v)<(EQ.rest a v).length:=aX λY=>a1 (EQ.ix_out Y)
        have h1:=ht _ (bV (f:=λi:Nat=>(i:Int)) (bR.mpr ⟨cB.mpr l1,by simpa using a1⟩));have h2:¬ EQ.lastNZ (EQ.rest a v)<j:=λlt=>by
         have:=(bR.mp hj).2;rw[a2 j lt] at this;simp at this
        have af:((EQ.lastNZ (EQ.rest a v):Nat):Int)<=(j:Int):=h1;omega
       rw[this];exact G _ rfl
    rintro _ rfl;refine nO (λk=>∃ y,k=[.v (.l (rows.map ln)),.o (.dM (nS (a.map λh=>(h.1,EQ.cl h.2 (EQ.rest a v) (EQ.lastNZ (EQ.rest a v)))))),.v (ln v),.v (ln (EQ.rest a v)),y,.v (.int (EQ.lastNZ (EQ.rest a v):Nat))]/\yB y) (λN G=>?_) ?_
    .refine qK (a.map λh=>D.int (h.1:Nat)) [.v (.l (rows.map ln)),.o (.dM (nS a)),.v (ln v),.v (ln (EQ.rest a v)),c,.v (.int (EQ.lastNZ (EQ.rest a v):Nat))] (λΨ h=>?_)
      (λq k=>∃ y,k=[.v (.l (rows.map ln)),.o (.dM (nS (((a.take q).map λh=>(h.1,EQ.cl h.2 (EQ.rest a v) (EQ.lastNZ (EQ.rest a v))))++a.drop q))),.v (ln v),.v (ln (EQ.rest a v)),y,.v (.int (EQ.lastNZ (EQ.rest a v):Nat))]/\yB y) ⟨_,rfl,o4⟩ ?_ ?_
     .refine⟨rfl,by unfold nS;rw[List.length_map];omega,Xg a,?_⟩;rw[Hc];exact h
     .rintro q d _ M ⟨y,rfl,O⟩;obtain⟨h,B,rfl⟩:=qV M;have u:=aL B;have ql:q<a.length:=(aG.mp B).1;have ek:((((a.take q).map λh=>(h.1,EQ.cl h.2 (EQ.rest a v) (EQ.lastNZ (EQ.rest a v))))++a.drop q).map (·.1))=a.map (·.1):=by
       rw[bE,bA,show ((λx:Nat×Aa Int=>x.1)∘λh:Nat×Aa Int=>(h.1,EQ.cl h.2 (EQ.rest a v) (EQ.lastNZ (EQ.rest a v))))=(λx=>x.1) from rfl,<- bE,iH]
      have eh:(((a.take q).map λh=>(h.1,EQ.cl h.2 (EQ.rest a v) (EQ.lastNZ (EQ.rest a v))))++a.drop q)[q]?=some h:=by
       rw[cU (by simp;omega),kW];simp only[aA,bN,jP (eT ql),Nat.sub_self,Nat.add_zero];exact B
      refine⟨rfl,ln h.2,by show (some (nU (nS _) (hk h.1)))=_;rw[Me (by rw[ek];exact I.nd) eh],?_⟩;refine⟨h.2,EQ.rest a v,EQ.lastNZ (EQ.rest a v),rfl,?_,by rw[U.1,I.len h u],by rw[I.len h u];omega,λx C=>bH (S h u x C) Hy,U.2,.inl rfl,rfl,?_⟩
      .rw[I.len h u,<- U.1];exact aX λY=>a1 (EQ.ix_out Y)
      refine⟨.dM (nS (((a.take (q+1)).map λh=>(h.1,EQ.cl h.2 (EQ.rest a v) (EQ.lastNZ (EQ.rest a v))))++a.drop (q+1))),?_,⟨_,rfl,.inr ⟨_,rfl,rfl⟩⟩⟩;show (if (nS _).length<100000 then some (D.dM (oY (nS _) (hk h.1) _)) else none)=_;rw[aP (by
       have:=cL List.length ek;rw[aA,aA] at this;unfold nS;rw[List.length_map,this];omega),AJ (by rw[ek];exact I.nd) eh]
      congr 3
      apply gS;intro j;rw[fW];by_cases z:q=j
      .subst z;rw[aP rfl,aP (aG.mp eh).1,eU (by simp;omega),aQ,mJ,aP (by omega),B];rfl
      .rw[aJ z];by_cases lt:j<q
       .rw[eU (by simp;omega),eU (by simp;omega),aQ,aQ,mJ,mJ,aP lt,aP (by omega)]
       .rw[cU (by simp;omega),cU (by simp;omega),kW,kW];simp only[aA,bN,jP (eT ql),jP (show q+1<=a.length from ql)]
        congr 1;omega
     .rintro _ ⟨y,rfl,O⟩;rw[aA,cM,mV,cZ];exact G _ ⟨_,rfl,O⟩
    rintro _ ⟨y,rfl,O⟩;have nk:EQ.lastNZ (EQ.rest a v)∉(a.map λh=>(h.1,EQ.cl h.2 (EQ.rest a v) (EQ.lastNZ (EQ.rest a v)))).map (·.1):=λz=>by
     rw[bA] at z;obtain⟨g,hg,e⟩:=aM.mp z;have e':g.1=EQ.lastNZ (EQ.rest a v):=e;exact a1 (by rw[<- e'];exact (I.rest vm).2.1 g hg)
    refine⟨rfl,.dM (nS ((a.map λh=>(h.1,EQ.cl h.2 (EQ.rest a v) (EQ.lastNZ (EQ.rest a v))))++[(EQ.lastNZ (EQ.rest a v),EQ.rest a v)])),?_,⟨_,_,_,_,rfl,yY V (.inr ⟨_,rfl,sQ v⟩) (.inr ⟨_,rfl,sQ _⟩) O (.inr ⟨_,rfl,rfl⟩)⟩⟩;show (if (nS _).length<100000 then some (D.dM (oY (nS _) (hk _) _)) else none)=_;rw[aP (by unfold nS;rw[List.length_map,List.length_map];omega),EO nk]
  .rintro _ ⟨W,X,y,L,rfl,_⟩;rw[aA,cM];exact G _ ⟨_,_,_,_,rfl⟩
 rintro _ ⟨W,X,y,L,rfl⟩;exact ab
end
abbrev tx (x:Af):MK:=Sum.inl (Sum.inr x)
abbrev tp (a b:Af):MK:=Sum.inr [Sum.inr a,Sum.inr b]
def qC:Aa Af->Aa MK
 | []=>[]
 | x::r=>r.map (tp x)++qC r
def pV (C:Cel):Aa Af:=C.ins++C.outs.filter λo=>!decide (o∈C.ins)
def oR (C:Cel) (g:Bool):Aa MK:=(((("" : Af)::pV C)).map tx)++(if g=true then qC C.ins else [])
def tv (u:Af->Int):MK->Int
 | .inl (.inr x)=>u x
 | .inr [.inr a,.inr b]=>u a*u b
 | _=>0
def U3:MK->Aa Af
 | .inl (.inr x)=>[x]
 | .inr [.inr a,.inr b]=>[a,b]
 | _=>[]
def R8 (t:MK):Prop:=(∃ x,t=tx x)\/∃ a b,t=tp a b
def Fi:RD:=λe c d=>∃ (C:Cel) (a:Bool),c=[nK C,.b a]/\C.ins.length<=6/\C.outs.length<=6/\d (.o (.l ((oR C a).map nR)))
def Pq:RD:=λd b c=>∃ (t:MK) (a:Aa (gV×D)) (u:Af->Int),b=[nR t,.k a]/\R8 t/\(∀ x∈U3 t,nU a (Sum.inr x)=some (.int (u x))/\Bit (u x))/\c (.v (.int (tv u t)))
theorem Jm:∀ g:Aa Af,g.length<=6->(qC g).length<=15
 | [],_=>by decide
 | [_],_=>by show 0<=15;decide
 | [_,_],_=>by show 1<=15;decide
 | [_,_,_],_=>by show 3<=15;decide
 | [_,_,_,_],_=>by show 6<=15;decide
 | [_,_,_,_,_],_=>by show 10<=15;decide
 | [_,_,_,_,_,_],_=>by show 15<=15;decide
 | _::_::_::_::_::_::_::_,h=>by simp only[bY] at h;omega
theorem Lk:∀ (g:Aa Af) (i:Nat),qC (g.drop i)=(match g[i]? with | some x=>(g.drop (i+1)).map (tp x) | none=>[])++qC (g.drop (i+1))
 | [],i=>by simp[qC]
 | x::g,0=>rfl
 | x::g,i+1=>by simpa using Lk g i
theorem Rv:∀ {g:Aa Af}{t:MK},t∈qC g->∃ a b,t=tp a b/\a∈g/\b∈g
 | x::r,t,h=>by
  rcases aT.mp h with h | h
  .obtain⟨b,f,rfl⟩:=aM.mp h;exact⟨x,b,rfl,aF,aH _ f⟩
  .obtain⟨a,b,e,c,d⟩:=Rv h;exact⟨a,b,e,aH _ c,aH _ d⟩
theorem zZ {C:Cel}{pr:Bool}(g:C.ins.length<=6) (j:C.outs.length<=6):(oR C pr).length<=28:=by
 unfold oR pV;have:=Jm _ g;have a:=cW (λo=>!decide (o∈C.ins)) C.outs;rw[aZ,aA,bY,aZ];split
 .omega
 .show _+0<=28;omega
theorem Ou {C:Cel}{g:Bool}{t:MK}(h:t∈oR C g):R8 t/\∀ x∈U3 t,x = "" \/ x∈C.ins++C.outs:=by
 rcases aT.mp h with h | h
 .obtain⟨x,c,rfl⟩:=aM.mp h;refine⟨.inl ⟨x,rfl⟩,λy d=>?_⟩;rw[aO.mp (show y∈[x] from d)];rcases aI.mp c with c | c
  .exact .inl c
  .refine .inr ?_;rcases aT.mp c with c | c
   .exact bK _ c
   .exact bJ _ (bR.mp c).1
 .cases g with
  | false=>cases h
  | true =>
   obtain⟨a,b,rfl,e,f⟩:=Rv (show t∈qC C.ins from h);refine⟨.inr ⟨a,b,rfl⟩,λy d=>.inr (bK _ ?_)⟩;rcases aI.mp (show y∈[a,b] from d) with rfl | d
   .exact e
   .rw[aO.mp d];exact f
theorem LN:(["name","inputs"]:Aa Af).Nodup:=by decide +kernel
theorem JX:(["second","first"]:Aa Af).Nodup:=by decide +kernel
section
variable {P:Ah}{K:nH}
theorem C9:FnScope ["cell","pairs","inputs","things","at","first"] ["cell","pairs"] (oB Eo):=pU
theorem HZ (T:Txt U):pZ P w K U base 1 "things_of" Eo ["cell","pairs"] Fi:=by
 refine qI C9 λf Z A R s H E dk ds Φ hr O r=>?_
 obtain⟨C,k,rfl,M,ho,Q⟩:=r;refine⟨_,(hO (oE 2 C9.nd (uI Dx Ka T.list fY (eH (oA O 0 nI) hH))) (hO (oE 3 C9.nd (qQ uR uG (qQ uR uG (sG (eH rX hH)) (cN 2)) (qP ["name"] ["inputs"] [2] (oU (oA O 0 nI)) (λ_ _ _ _ _=>(nT 0 LN)) (λ_ _ _ _ _=>(cN 0)) (ht:=λ_ _ _ _ _=>(vS (Ic (Eu O) (E8 true) (cN 0) (pv 1))))))) (hO (pL (Sz (pv 1)) (nQ (qX (Nj (by rfl) T.enumerate (cN 2)) (xZ (n:=2) rfl (rO (nT 4 C9.nd) (rO (nT 5 C9.nd) yG))) (nQ (yT (Bk bZ PySem.F.slot_list_extend PySem.F.type_list_extend Zc MC (pv 3) (eH (qP ["second"] ["first"] [5] (oU (LD Vj Rs (pv 2) (Q0 (sX uR uG 4 nI)) Q8)) (λ_ _ _ _ _=>(nT 0 JX)) (λ_ _ _ _ _=>(wE (eH (cN 1) (eH (cN 0) hH))))) hH)))))) pN) (nQ (oJ (wY 3 (pv 3))))))),?_⟩;refine nO (λa=>a=[.v (nK C),.v (.b k),.o (.l (C.ins.map D.str)),.n,.n,.n]) (λN c=>?_) ?_
 .exact⟨rfl,_,rfl,_,rfl,c _ rfl⟩
 rintro _ rfl;refine nO (λa=>a=[.v (nK C),.v (.b k),.v (.l (C.ins.map D.str)),.o (.l (((("" : Af)::pV C).map tx).map nR)),.n,.n]) (λN c=>?_) ?_
 .unfold rY d2;refine⟨by show 1<=1000;decide,by show 1+(C.ins.map D.str).length<=100000;rw[aA];omega,?_⟩;refine uW C.outs D.str D.str (λo=>!decide (o∈C.ins)) [.v (nK C),.v (.b k),.v (.l (C.ins.map D.str)),.n,.n,.n] (λS h=>⟨rfl,_,rfl,h⟩) (by omega) (λi x ys Y e B G W=>?_) ?_
  .refine⟨.str x,C.ins.map V.str,rfl,L3 _,?_⟩;rw[Ez];show if (!decide (x∈C.ins))=true then _ else _
   by_cases q:x∈C.ins
   .exact Iz (by rw[dD q];rfl) (W (by rw[dD q];rfl))
   .exact Ji (by rw[cF q];rfl) ⟨B,G (by rw[cF q];rfl)⟩
  .have W:=cW (λo=>!decide (o∈C.ins)) C.outs;refine⟨by show (([D.str (Str.ofString "")]++C.ins.map D.str)).length+((C.outs.filter λo=>!decide (o∈C.ins)).map D.str).length<=100000;rw[aZ,aA,aA];show 1+_+_<=_;omega,c _ ?_⟩;have:([D.str ("" : Af)]++C.ins.map D.str)++(C.outs.filter λo=>!decide (o∈C.ins)).map D.str=((("" : Af)::pV C).map tx).map nR:=by
    rw[bA];unfold pV;rw[aN,bE];rfl
   rw[<- this];rfl
 rintro _ rfl;refine nO (λa=>∃ m t,a=[.v (nK C),.v (.b k),.v (.l (C.ins.map D.str)),.o (.l ((oR C k).map nR)),m,t]) (λN c=>?_) ?_
 .cases k with
  | false =>
   refine⟨rfl,_,rfl,c _ ⟨.n,.n,?_⟩⟩;unfold oR;rw[aJ (by decide),cZ]
  | true =>
   refine⟨rfl,_,rfl,?_⟩;dsimp only;rw[aP rfl];have I:=cW (λo=>!decide (o∈C.ins)) C.outs;refine qK (wZ (C.ins.map D.str)) [.v (nK C),.v (.b true),.v (.l (C.ins.map D.str)),.o (.l (((("" : Af)::pV C).map tx).map nR)),.n,.n] (λS h=>h)
    (λi a=>∃ L m t,L++qC (C.ins.drop i)=qC C.ins/\a=[.v (nK C),.v (.b true),.v (.l (C.ins.map D.str)),.o (.l (((((("" : Af)::pV C)).map tx)++L).map nR)),m,t]) ⟨[],_,_,rfl,by rw[cZ]⟩ ?_ ?_
   .rintro i d _ hd ⟨L,m,t,u,rfl⟩;have X:i<C.ins.length:=by
     have:=(aG.mp hd).1
     rwa [Cy,aA] at this
    rw[Jy (d:=.str C.ins[i]) (by rw[aQ,aE X];rfl)] at hd;cases hd;have y:=Lk C.ins i;rw[aE X] at y;dsimp only at y;have J:L.length+(qC (C.ins.drop i)).length=(qC C.ins).length:=by rw[<- aZ,u]
    have p:=Jm _ M;refine⟨rfl,rfl,?_⟩;unfold Pk dW aC;refine⟨rfl,?_⟩;refine rF (C.ins.drop (i+1)) D.str (λz=>nR (tp C.ins[i] z)) [.v (nK C),.v (.b true),.v (.l (C.ins.map D.str)),.o (.l (((((("" : Af)::pV C)).map tx)++L).map nR)),.v (.int (i:Nat)),.v (.str C.ins[i])] (λS h=>?_) (by rw[dB];omega) (λj x ys Y e B G=>?_) ?_
    .refine⟨rfl,rfl,?_⟩;show S (wH (C.ins.map D.str) (some ((i:Int)+1)) none) _;have:=Pt D.str C.ins (i+1);rw[show (((i+1:Nat):Int))=(i:Int)+1 from rfl] at this;rw[this];exact h
    .exact⟨by show 2<=1000;decide,B,G⟩
    .have pl:=cL List.length y;rw[aZ,aA] at pl;have sl:(pV C).length<=12:=by unfold pV;rw[List.length_append];omega
     refine⟨?_,⟨L++(C.ins.drop (i+1)).map (tp C.ins[i]),.v (.int (i:Nat)),.v (.str C.ins[i]),?_,?_⟩⟩
     .show (List.map nR (List.map tx (("" : Af)::pV C)++L)).length+(List.map (λz=>nR (tp C.ins[i] z)) (List.drop (i+1) C.ins)).length<=100000;rw[aA,aZ,aA,bY,aA];omega
     .rw[bL,<- y];exact u
     .have:List.map nR (List.map tx (("" : Af)::pV C)++L)++List.map (λz=>nR (tp C.ins[i] z)) (List.drop (i+1) C.ins)=List.map nR (List.map tx (("" : Af)::pV C)++(L++(C.ins.drop (i+1)).map (tp C.ins[i]))):=by
       rw[<- bL,bE (f:=nR) (l₂:=(C.ins.drop (i+1)).map (tp C.ins[i])),bA (g:=nR)];rfl
      rw[<- this];rfl
   .rintro _ ⟨L,m,t,u,rfl⟩;rw[Cy,aA,mV] at u;have e:L=qC C.ins:=by simpa [qC] using u
    subst e;exact c _ ⟨_,_,rfl⟩
 rintro _ ⟨m,t,rfl⟩;exact Q
theorem KP:FnScope ["thing","known"] ["thing","known"] (oB F1):=pU
theorem MO (T:Txt g):pZ P w K g base 1 "thing_value" F1 ["thing","known"] Pq:=by
 refine qI KP λf m A i s H E y z D B c n=>?_
 obtain⟨t,h,u,rfl,v,hk,d⟩:=n;refine⟨_,(hO (pL (yP (pG (Aw K) (Bt (K:=K)) T.isinstance eA (eH (cN 0) (eH (Bg (by rfl) T.tuple eN) hH)))) (nQ (oJ (qQ Lv Ix (oA c 1 (oA c 0 nI)) (oA c 1 (oA c 0 nI))))) pN) (nQ (oJ (oA c 1 (cN 0))))),?_⟩;rcases v with⟨x,rfl⟩ | ⟨a,b,rfl⟩
 .refine⟨"str",false,rfl,rfl,rfl,_,rfl,?_⟩;refine⟨rfl,.int (u x),?_,d⟩;show some (nU h (Sum.inr x))=_;rw[(hk x aF).1]
 .refine⟨"tuple",true,rfl,rfl,rfl,_,rfl,?_⟩;have k:=hk a aF;have q:=hk b (aH _ aF);refine⟨rfl,rfl,.str a,rfl,.int (u a),?_,rfl,rfl,.str b,rfl,.int (u b),?_,?_,d⟩
  .show some (nU h (Sum.inr a))=_;rw[k.1]
  .show some (nU h (Sum.inr b))=_;rw[q.1]
  .left;rcases k.2 with e | e<;>rw[e]<;>decide
end
structure GCq (C:Cel):Prop where
 gc:GC C
 li:C.ins.length<=6
 lo:C.outs.length<=6
 ne:("" : Str)∉C.names
def uB (C:Cel) (b:Aa Int) (x:Af):Int:=if x = "" then 1 else rR C (look (C.ins.zip b)) x
def wV (C:Cel) (g:Bool):Aa (Aa Int):=(pS C.ins.length).map λb=>(oR C g).map (tv (uB C b))
theorem MV {g:Aa Af}{b:Aa Int}(j:g.length=b.length){x:Af}(l:x∈g):nU (hL (g.zip b)) (Sum.inr x)=some (.int (look (g.zip b) x)):=by
 induction g generalizing b with
 | nil=>cases l
 | cons k g a =>
  cases b with
  | nil=>cases j
  | cons v b =>
   rw[cV,xS];show nU ((Sum.inr k,D.int v)::hL (g.zip b)) _=_;rw[tS];by_cases e:k=x
   .rw[aP e,aP (by rw[e])]
   .rw[aJ e,aJ λz=>e (iB z)];exact a (mC j) ((aI.mp l).resolve_left λz=>e z.symm)
def S3:RD:=λd b c=>∃ (C:Cel) (a:Bool),b=[nK C,.l ((oR C a).map nR)]/\GCq C/\c (.o (.l ((wV C a).map ln)))
theorem O0 {g:Aa Af}{b:Aa Int}(j:∀ x∈b,x=0\/x=1) (l:g.length=b.length){x:Af}(o:x∈g):Bit (look (g.zip b) x):=by
 induction g generalizing b with
 | nil=>cases o
 | cons k g c =>
  cases b with
  | nil=>cases l
  | cons v b =>
   rw[cV,xS];by_cases e:k=x
   .rw[aP e];exact j v aF
   .rw[aJ e];exact c (λy a=>j y (aH _ a)) (mC l) ((aI.mp o).resolve_left λz=>e z.symm)
theorem Ub {C:Cel}(l:GCq C){b:Aa Int}(g:b∈pS C.ins.length){x:Af}(j:x = "" \/ x∈C.names):Bit (uB C b x):=by
 obtain⟨a,c⟩:=Cn g;unfold uB;by_cases e:x = ""
 .rw[aP e];exact .inr rfl
 .rw[aJ e];exact Sj C.gates C.ins _ (λy d=>O0 c a.symm d) x (j.resolve_left e)
theorem Z6:(["thing","known"]:Aa Af).Nodup:=by decide +kernel
section
variable {P:Ah}{K:nH}
theorem Gh:FnScope ["cell","things","table","bits","known"] ["cell","things"] (oB Dy):=pU
theorem Y7 (T:Txt I) (r:Kn P w K I base 1 "all_bits" Gu ["count"] Qg) (p:Kn P w K I base 3 "side_bits" Hv ["cell","bits"] Tw) (g:Kn P w K I base 1 "thing_value" F1 ["thing","known"] Pq) :
  pZ P w K I base 4 "value_table" Dy ["cell","things"] S3:=by
 refine qI Gh λf J A V s H E dk ds Φ Q R hR=>?_
 obtain⟨C,a,rfl,q,S⟩:=hR;refine⟨_,(hO (oE 2 Gh.nd (sG hH)) (hO (qX (oU (pJ r Q (eH (pG vY vV T.len cE (eH (oA R 0 nI) hH)) hH))) (nT 3 Gh.nd) (hO (oE 4 Gh.nd (pJ p Q (eH (cN 0) (eH (Oy rfl (by rfl) T.dict (by rfl) T.zip (eH (oA R 0 nI) (eH (cN 3) hH))) hH)))) (hO (vB (n:=4) R nI (pv 4) rX) (nQ (yT (Bk bZ cR cS wA Fe (pv 2) (eH (qP ["thing"] ["known"] [4] (oU (cN 1)) (λ_ _ _ _ _=>(nT 0 Z6)) (λ_ _ _ _ _=>(pJ g Q (eH (cN 0) (Bc (pv 1) hH))))) hH))))))) (nQ (oJ (wY 2 (pv 2)))))),?_⟩;have X:=q.li;have tl:=zZ (pr:=a) q.li q.lo;refine nO (λm=>m=[.v (nK C),.v (.l ((oR C a).map nR)),.o (.l []),.n,.n]) (λN u=>⟨by show 0<=1000;decide,u _ rfl⟩) ?_;rintro _ rfl;refine nO (λm=>∃ B F,m=[.v (nK C),.v (.l ((oR C a).map nR)),.o (.l ((wV C a).map ln)),B,F]) (λN u=>?_) ?_
 .refine qK ((pS C.ins.length).map tV) [.v (nK C),.v (.l ((oR C a).map nR)),.o (.l []),.n,.n] (λΨ h=>?_)
   (λi m=>∃ B F,m=[.v (nK C),.v (.l ((oR C a).map nR)),.o (.l ((((pS C.ins.length).take i).map λb=>(oR C a).map (tv (uB C b))).map ln)),B,F]) ⟨_,_,rfl⟩ ?_ ?_
  .refine⟨rfl,_,rfl,rfl,C.ins.length,by show some (C.ins.map D.str).length=_;rw[aA],C.ins.length,rfl,X,.inl rfl,h⟩
  .rintro i d _ hd ⟨B,F,rfl⟩;obtain⟨b,W,rfl⟩:=qV hd;have Y:=aL W;obtain⟨bl,Z⟩:=Cn Y;have hT:rJ (hL (C.ins.zip b)) C.ins (look (C.ins.zip b)):=λx y=>by
    have:=O0 Z bl.symm y;exact⟨MV (by rw[bl]) y,this⟩
   refine nO (λm=>∃ c,(∀ x∈C.ins++C.outs,nU c (Sum.inr x)=some (.int (rR C (look (C.ins.zip b)) x)))/\c.length<=200/\m=[.v (nK C),.v (.l ((oR C a).map nR)),.o (.l ((((pS C.ins.length).take i).map λb=>(oR C a).map (tv (uB C b))).map ln)),.v (tV b),.o (.k c)]) (λN u=>?_) ?_
   .refine⟨rfl,_,rfl,true,true,_,_,C.ins.map Sum.inr,rfl,rfl,K4 C.ins,by rw[aA];omega,?_⟩;have ez:sL [] ((C.ins.map (Sum.inr:Af->gV)).zip (b.map D.int))=hL (C.ins.zip b):=by
     have U:(C.ins.map (Sum.inr:Af->gV)).zip (b.map D.int)=hL (C.ins.zip b):=by rw[List.zip_map];rfl
     rw[U];exact Eh (by rw[List.map_fst_zip (by omega)];exact (bU.mp q.gc.nd).1)
    rw[ez];exact⟨C,_,look (C.ins.zip b),rfl,q.gc,hT,by rw[Od,eS];omega,λc L M=>⟨.inl rfl,u _ ⟨c,L,M,rfl⟩⟩⟩
   rintro _ ⟨c,O,aa,rfl⟩;refine nO (λm=>∃ c:Aa (gV×D),(∀ x:Af,x = "" \/ x∈C.ins++C.outs->nU c (Sum.inr x)=some (.int (uB C b x))/\Bit (uB C b x))/\m=[.v (nK C),.v (.l ((oR C a).map nR)),.o (.l ((((pS C.ins.length).take i).map λb=>(oR C a).map (tv (uB C b))).map ln)),.v (tV b),.o (.k c)]) (λN u=>?_) ?_
   .refine⟨rfl,_,Ap (by omega),u _ ⟨_,λx y=>⟨?_,Ub q Y ?_⟩,rfl⟩⟩
    .rw[B7];unfold uB;by_cases e:x = ""
     .rw[aP (by rw[e]),aP e]
     .rw[aJ (λz=>e (iB z).symm),aJ e];exact O x (y.resolve_left e)
    .rcases y with h | h
     .exact .inl h
     .refine .inr ?_;rcases aT.mp h with h | h
      .exact bK _ h
      .exact q.gc.os x h
   rintro _ ⟨G,hk,rfl⟩;refine⟨rfl,?_⟩;refine rF (oR C a) nR (λt=>.int (tv (uB C b) t)) _ (λΨ h=>h) (by omega) (λj t ys Nx e L M=>?_) ?_
   .obtain⟨i1,i2⟩:=Ou (aL e);exact⟨rfl,t,G,uB C b,rfl,i1,λx y=>hk x (i2 x y),.inr rfl,L,M⟩
   .have tk:((((pS C.ins.length).take (i+1)).map λb=>(oR C a).map (tv (uB C b))).map ln)=((((pS C.ins.length).take i).map λb=>(oR C a).map (tv (uB C b))).map ln)++[.l ((oR C a).map λt=>.int (tv (uB C b) t))]:=by
     rw[bQ,W,bE,bE];show _++[D.l (((oR C a).map (tv (uB C b))).map D.int)]=_;rw[bA (l:=oR C a)];rfl
    refine⟨?_,.v (tV b),.o (.k G),?_⟩
    .show (List.map ln _).length<100000;rw[aA,aA,bN];have:=Hn C.ins.length;have:=Dv X;omega
    .rw[tk];rfl
  .rintro _ ⟨B,F,rfl⟩;rw[aA,cM];exact u _ ⟨_,_,rfl⟩
 rintro _ ⟨B,F,rfl⟩;exact S
end
end Lw
namespace PySem
open PyProof.Rows L2
def Du (h:Ag) (z TI TO:Ad):Prop:=∃ x f,vO h z TI TO x f/\(x = .none\/∃ T:Ad,x=rawInt T)
section
theorem Sd {z TI TO:Ad}(g:Du s.heap z TI TO):(∃ T f o,wL s.heap z TI TO T f/\s.heap.get? T=some o) \/
  ∃ x f,vO s.heap z TI TO x f/\∀ (A:Around) (E:Ac->Ae->Prop),wpAny (model prog w) A (Builtin.SmallTypes.ownedTupleIsFree (.ref z)) (λx j=>x=true/\j=s) E s:=by
 obtain⟨x,f,g,rfl | ⟨T,rfl⟩⟩:=g
 .exact .inr ⟨_,f,g,λA E=>aB (eJ g rfl (x:=.none) rfl (aD ⟨rfl,rfl⟩))⟩
 .cases e:s.heap.get? T with
  | some o=>exact .inl ⟨T,f,o,g,e⟩
  | none =>
   refine .inr ⟨_,f,g,λA E=>?_⟩;unfold Builtin.SmallTypes.ownedTupleIsFree;refine aB (eJ g rfl (x:=rawInt T) rfl ?_);show wpAny _ _ (loadIfAlive ((T:Int).toNat) >>= _) _ _ _;rw[cD];have load:∀ {Q:Ab Obj->Ae->Prop},Q none s->wpAny (model prog w) A (loadIfAlive T) Q E s:=λ{Q} q _ _ _=>by
    show Q (s.heap.get? T) s;rw[e];exact q
   refine aB (load ?_);simp only[Option.isNone_none,hU];exact aD ⟨rfl,rfl⟩
theorem MT {b1 b2:Bool}{z TI TO I J l1 l2:Ad}{k:Nat}{xs ys:Array Ac}{x y a b:Ac}{Q:Ab Ac->Ae->Prop}(D:ZipApart z TI TO I J l1 l2)
  (j:Du s.heap z TI TO) (l:IsPair s.heap TI (.ref I) (.ref J)) (p:IsPair s.heap TO a b) (h1:oI b1 s.heap I l1 k) (h2:oI b2 s.heap J l2 k) (r:oP b1 s.heap l1 xs) (C:oP b2 s.heap l2 ys) (hx:xs[k]?=some x) (hy:ys[k]?=some y)
  (hQ:∀ g,Du g z TI TO->(∃ u v,IsPair g TO u v)->oI b1 g I l1 (k+1)->oI b2 g J l2 (k+1)->IsPair g s.heap.objs.size x y->g.objs.size=s.heap.objs.size+1 ->(∀ c o,c≠z->c≠TO->c≠I->c≠J->s.heap.get? c=some o->g.get? c=some o)->Q (some (.ref s.heap.objs.size)) { s with heap:=g }) :
  wpAny (model U w) A (pyNext (.ref z)) Q E s:=by
 rcases Sd (prog:=U) (w:=w) j with⟨T,f,o,j,K⟩ | ⟨L,f,j,free⟩
 .have d:s.TypeIs (.ref z) "zip" := ⟨_,j,rfl⟩;unfold pyNext;refine aB (eZ (bX (name:=Str.ofString "__next__") d dP (cK dP d jD (O6 D j K l h1 h2 r C hx hy λg i m n q t h=>aD ?_) (iQ _))));exact hQ g ⟨_,_,i,.inr ⟨T,rfl⟩⟩ ⟨_,_,h _ _ D.TOz D.TOi1 D.TOi2 p⟩ m n q t λc o F _ G H e=>h c o F G H e
 .refine Lo D j free l p h1 h2 r C hx hy λg i B m n q t h=>?_
  exact hQ g ⟨_,_,i,.inr ⟨_,rfl⟩⟩ ⟨_,_,B⟩ m n q t h
theorem HI {b1 b2:Bool}{z TI TO I J l1 l2:Ad}{k:Nat}{xs ys:Array Ac}{a b:Ac}{Q:Ab Ac->Ae->Prop}(hh:A.handled=none) (D:ZipApart z TI TO I J l1 l2)
  (j:Du s.heap z TI TO) (l:IsPair s.heap TI (.ref I) (.ref J)) (aa:IsPair s.heap TO a b) (h1:oI b1 s.heap I l1 k) (h2:oI b2 s.heap J l2 k) (p:oP b1 s.heap l1 xs) (r:oP b2 s.heap l2 ys) (g:xs[k]?=none\/ys[k]?=none)
  (hQ:∀ U,(∀ c o,c≠z->c≠TO->c≠I->c≠J->s.heap.get? c=some o->U.get? c=some o)->Q none { s with heap:=U }):wpAny (model C w) A (pyNext (.ref z)) Q E s:=by
 rcases Sd (prog:=C) (w:=w) j with⟨T,f,o,j,n⟩ | ⟨v,f,j,free⟩
 .have d:s.TypeIs (.ref z) "zip" := ⟨_,j,rfl⟩;unfold pyNext;refine aB (eZ (bX (name:=Str.ofString "__next__") d dP (cK dP d jD (S2 hh D j n l h1 h2 p r g λU e hk t=>?_) (iQ _))));obtain⟨o,u,q⟩:=t;refine aB (eE (T := "StopIteration") (b:=true) ⟨o,u,q⟩ mI ?_);exact aD (hQ _ λc o h _ i m e=>hk c o h i m e)
 .exact L7 hh D j free l aa h1 h2 p r g hQ
end
end PySem
namespace L2
open PySem PySem.Spec PyProof.Rows
def CO (l o:Bool) (a b z TI TO g j:Ad) (i:Nat) (h:Ag):Prop:=Du h z TI TO/\IsPair h TI (.ref g) (.ref j)/\(∃ u v,IsPair h TO u v)/\oI l h g a i/\oI o h j b i
theorem Yt {b1 b2:Bool}{P:Ah}{w:World}{K:nH}{x0:Af}{pos:Pos}{a b z TI TO i1 i2:Ad}(D:ZipApart z TI TO i1 i2 a b) :
  Turn P w K (.Name x0 pos) (Hz b1 b2 K a b) [z,TI,TO,i1,i2] z (CO b1 b2 a b z TI TO i1 i2) where
 mem:=by simp
 obj:=λi h st c G=>by
  obtain⟨⟨_,_,m,_⟩,A,⟨u,v,B⟩,n,t⟩:=st;obtain⟨o4,n,d4⟩:=G2 n;obtain⟨o5,t,d5⟩:=G2 t;simp only[aI,bC,dY] at G;rcases G with e | e | e | e | e<;>subst e
  .exact⟨_,m,λv z=>nomatch z⟩
  .exact⟨_,A,λv z=>nomatch z⟩
  .exact⟨_,B,λv z=>nomatch z⟩
  .exact⟨_,n,d4⟩
  .exact⟨_,t,d5⟩
 keep:=λi h N st k=>by
  obtain⟨⟨x,f,m,sx⟩,A,⟨u,v,B⟩,n,t⟩:=st;exact⟨⟨x,f,k z (by simp) _ m,sx⟩,k TI (by simp) _ A,⟨u,v,k TO (by simp) _ B⟩,qG n λo e=>k i1 (by simp) o e,qG t λo e=>k i2 (by simp) o e⟩
 item:=by
  intro X g hw Z G i M s σ H E I O st l;subst g hw Z;obtain⟨m,A,⟨u,v,B⟩,n,t⟩:=st;obtain⟨xs,ys,x,y,Q,R,hx,hy⟩:=l;obtain⟨C,rx,T⟩:=I.seqB Q;obtain⟨J,ry,py⟩:=I.seqB R;obtain⟨ux,p,aa⟩:=rx.get hx;obtain⟨uy,r,ab⟩:=ry.get hy;refine MT D m A B n t T py (x:=ux) (y:=uy) (by simpa using p) (by simpa using r) λN n1 n2 n3 n4 n5 n6 n7=>⟨_,rfl,?_⟩
  have kp:∀ c o,c∉[z,TI,TO,i1,i2]->s.heap.get? c=some o->N.get? c=some o:=λc o d e=>by
   simp only[aI,bC,dY,mQ] at d;obtain⟨S,e2,V,W,Y⟩:=d;exact n7 c o S V W Y e
  have nt:vR N s.heap.objs.size [ux,uy].toArray:=⟨⟨_,n5,rfl,_,rfl⟩,_,n5,rfl⟩;have I2:=I.movedT (t':=s.toks) (ys:=[x,y]) O kp nt (.cons aa (.cons ab .nil)) (by show 2<=sizeLine;decide);show wpAny _ _ (pure ()) _ _ _;refine aD ⟨.ref s.heap.objs.size,_,I2,rfl,⟨_,x,y,I.fresh,rfl,rfl,λaf U=>by rw[I.seqB_inj U Q];exact hx,λag U=>by rw[I.seqB_inj U R];exact hy⟩,⟨n1,n7 TI _ D.TIz D.TITO D.TIi1 D.TIi2 A,n2,n3,n4⟩,λc d=>?_⟩;rw[gD]
  .exact (O c d).1
  .intro e;obtain⟨o,ho⟩:∃ o,s.heap.get? c=some o:=by
    obtain⟨o4,ac⟩:=xH n;obtain⟨o5,ae⟩:=xH t;obtain⟨_,_,m,_⟩:=m;simp only[aI,bC,dY] at d;rcases d with q | q | q | q | q<;>rw[q]
    .exact⟨_,m⟩
    .exact⟨_,A⟩
    .exact⟨_,B⟩
    .exact⟨_,ac⟩
    .exact⟨_,ae⟩
   have:=aV ho;rw[e] at this;exact eR _ this
 done:=by
  intro X g hw Z G i M s σ H E I O st l;subst g hw Z;obtain⟨m,A,⟨u,v,B⟩,n,t⟩:=st;obtain⟨xs,ys,Q,R,L⟩:=l;obtain⟨C,rx,T⟩:=I.seqB Q;obtain⟨J,ry,py⟩:=I.seqB R;have lx:=rx.length;have ly:=ry.length;refine HI (I.ok.hd G) D m A B n t T py ?_ λN k=>⟨rfl,I.moved (t':=s.toks) O λc o d e=>?_⟩
  .rcases L with q | q
   .exact .inl (by simp;omega)
   .exact .inr (by simp;omega)
  .simp only[aI,bC,dY,mQ] at d;obtain⟨S,e2,V,W,Y⟩:=d;exact k c o S V W Y e
 self:=λ_ _ _ _ _ st h=>by
  obtain⟨⟨_,_,hz,_⟩,_⟩:=st;have j:Shared.TypeIs _ (.ref z) "zip" := ⟨_,hz,rfl⟩;refine wpAny_pyIter_slot j F.slot_zip_iter (cK F.slot_zip_iter j F.entry_zip_iter ?_ (F.args_zip_iter_1 _));show wpAny _ _ (ret (.ref z)) _ _ _;exact aD ⟨_,rfl,"zip",_,j,dP.lookup,h⟩
section
variable {X:Cx}
theorem Yc {x0:Af}{U:Pos}{j g:Expr}{o:TA}{p pos:Pos}(C:Gl X "zip") (J:X.mg "zip" = none) (r:PA X [j,g] o) (T:starEach [j,g] X.env=(false,eval j X.env)::starEach [g] X.env:=by rfl)
  (l:(backTo pos (starEach [g] X.env)).any (·.1)=false:=by rfl):PI X (.Name x0 U) (.Call (.Name "zip" p) [j,g] [] pos) (Ul X.K o):=by
 intro f s A H R I h;refine Call_ (wU I C J boot_zip (dL (nJ (r pos f s A H _ I h) λus d n=>?_) T l));obtain⟨vs,t,i,V,P⟩:=n;obtain⟨a,b,Z,b2,rfl,⟨xs,Q⟩,⟨ys,S⟩,q⟩:=P;obtain⟨u,v,rfl,W,Y⟩:=Bp V;cases W;cases Y;obtain⟨E,rx,y⟩:=i.seqB Q;obtain⟨F,ry,py⟩:=i.seqB S;have k:a<d.heap.objs.size:=by obtain⟨_,e⟩:=yJ y;exact aV e
 have m:b<d.heap.objs.size:=by obtain⟨_,e⟩:=yJ py;exact aV e
 refine K3 y py λD x G L M N n6 O=>?_
 have B:Inv X f A t { d with heap:=D }:=i.kept (t':=d.toks) O;refine lQ x ⟨_,[_,_,_,_,_],_,_,t,rfl,B,Yt (a:=a) (b:=b) (i1:=d.heap.objs.size) (i2:=d.heap.objs.size+1) (z:=d.heap.objs.size+4) (TI:=d.heap.objs.size+2) (TO:=d.heap.objs.size+3) ?_,⟨⟨_,_,x,.inl rfl⟩,G,⟨_,_,L⟩,M,N⟩,λc w=>?_,q⟩
 .constructor<;>first | exact bG k | exact bG m | exact bG (aR k (eF _ _)) | exact bG (aR m (eF _ _)) | exact fS k | exact fS m | exact fS (aR k (eF _ _)) | exact fS (aR m (eF _ _)) | exact (by show (_:Nat)≠_;omega)
 .simp only[aI,bC,dY] at w;rcases w with e | e | e | e | e<;>(subst e;exact i.fpOk (by omega) (i.hok.fresh (by omega)))
theorem Yn {x0:Af}{ps:Pos}{j g:Expr}{o:rL}{p pos:Pos}(I:Gl X "zip") (J:X.mg "zip" = none) (C:rZ X [j,g] o) (U:starEach [j,g] X.env=(false,eval j X.env)::starEach [g] X.env:=by rfl)
  (l:(backTo pos (starEach [g] X.env)).any (·.1)=false:=by rfl):xV X (.Name x0 ps) (.Call (.Name "zip" p) [j,g] [] pos) (Ql o) :=
 (Yc I J C U l).mono λA H R d=>d.elim λB z T G q hd s k=>⟨B,z,T,_,q,hd,s,λas e D i u ok d1 c=>by
  cases ok with
  | nil=>exact False.elim c
  | al _ ok=>exact False.elim c
  | t ok =>
   cases ok with
   | nil=>exact False.elim c
   | al _ ok=>cases ok<;>exact False.elim c
   | t ok =>
    cases ok with
    | al _ ok=>exact False.elim c
    | t ok=>exact False.elim c
    | nil =>
     obtain⟨m,n,E,F,f,h,c⟩:=c;have r:=d1.temps (σ:=A) (.t (.t .nil)) _ rfl;cases r with
     | cons v r =>
      cases r with
      | cons w r =>
       obtain⟨a,x,rfl,g1,_⟩:=Be f v;obtain⟨b,y,rfl,g2,_⟩:=Be h w;exact⟨a,b,m,n,rfl,⟨x,g1⟩,⟨y,g2⟩,k _ _ e [_,_] i u d1 (Tq f h) c⟩⟩
end
end L2
namespace Lw
open PySem L2
def Vi:RD:=λe c d=>∃ (b:Aa Af) (m f:Nat) (a:Aa (Nat×Aa Int)) (KK:(Nat->Int)->Prop),c=[.l (b.map D.str),.int f,.dM (nS a)]/\b.Nodup/\b.length=m/\m<=28/\EQ.Inv m KK a/\(∀ h∈a,EQ.Le CC h.2)/\f<m /\
 d (.o (.k (hL ((b.zip (EQ.shown m a f)).filter λp=>p.2 != 0))))
theorem MY:BM*CC<BD:=by decide +kernel
theorem Nt:CC<BD:=by decide +kernel
theorem AO (m:Nat):(List.replicate ((m:Int).toNat) [D.int 0]).flatten=(List.replicate m (0:Int)).map D.int:=by
 rw[cD,List.map_replicate];induction m with
 | zero=>rfl
 | succ m a=>rw[cQ,cQ,gP,a];rfl
theorem Wy (l:Aa Int):Dt (.o (ln l))=true:=by
 show uF (l.map D.int)=true;induction l with
 | nil=>rfl
 | cons x l a=>exact a
theorem Vq (j:Aa Af) (g:Aa Int):wQ (j.map D.str) (g.map D.int)=(j.zip g).map λp=>D.t [.str p.1,.int p.2]:=by
 unfold wQ;rw[List.zipWith_map,List.zip,jH]
theorem Mi {f M C:Nat}{q:Int}(o:q.natAbs<=M) (p:0<C):∀ (j:Aa (Nat×Aa Int)) (l:Aa Int),(∀ h∈j,EQ.Le C h.2)->EQ.Le (M*C) l->EQ.Le (M*C) (EQ.put j f q l)
 | [],_,_,h=>h
 | h::j,l,b,hw=>Mi o p j _ (λg c=>b g (aH _ c)) λx a=>by
  rcases kC a with a | rfl
  .exact hw x a
  .refine bF (PySem.natAbs_fdiv_le _ _) ?_;rw[Int.natAbs_neg,eP];exact jB o ((b h aF).ix f)
theorem Oc:∀ (g:Aa Af) (j:Aa Int),((g.zip j).map (·.1)).Sublist g
 | [],_=>.slnil
 | _::_,[]=>List.nil_sublist _
 | x::g,_::j=>(Oc g j).cons_cons x
theorem Kg (p:Af×Int->Bool){g:Aa Af}{j:Aa Int}(h:g.Nodup):(((g.zip j).filter p).map (·.1)).Nodup :=
 mG (List.Sublist.trans ((List.filter_sublist (p:=p) (l:=g.zip j)).map _) (Oc g j)) h
theorem T1 {l:Aa Int}{k:Nat}{x:Int}(h:k<l.length):yS (ln l) (.int (k:Nat)) (.int x)=some (ln (l.set k x)):=by
 have e:sK (l.map D.int).length (k:Int)=some k:=by
  unfold sK;rw[aP (by omega),aA,aP (by omega)];rfl
 show (sK (l.map D.int).length (k:Int)).map _=_;rw[e];show some (D.l ((l.map D.int).set k (.int x)))=_;rw[<- List.map_set]
theorem KA:(["pair"]:Aa Af).Nodup:=by decide +kernel
section
variable {P:Ah}{K:nH}
theorem An:FnScope ["things","first","heads","whole","at","weights"] ["things","first","heads"] (oB Ej):=pU
theorem Zr (T:Txt mg) (r:Kn P w K mg base 1 "divisor_of_two" Cm ["one","other"] Mf) (j:Kn P w K mg base 3 "without_divisor" Dm ["numbers"] Mb) :
  pZ P w K mg base 4 "shown_equation" Ej ["things","first","heads"] Vi:=by
 refine qI An λf ac A aa s H E dk ds Φ hr B hR=>?_
 obtain⟨y,m,f,b,KK,rfl,xn,xm,hm,I,sm,U,O⟩:=hR;refine⟨_,(hO (oE 3 An.nd nI) (hO (Sh (m:=99) dO rfl (cN 2) (nT 4 An.nd) (nQ (oE 3 An.nd (qQ Hd Gk (sX zR yQ 3 (pG Dw C8 T.abs iJ (eH (xO B (oA B 2 (cN 4)) (cN 4)) hH))) (pJ r hr (eH (pG Dw C8 T.abs iJ (eH (xO B (oA B 2 (cN 4)) (cN 4)) hH)) (eH (pG Dw C8 T.abs iJ (eH (xO B (oA B 2 (cN 4)) (cN 1)) hH)) hH))))))) (hO (oE 5 An.nd (qQ Lv Ix (sG (eH nI hH)) (pG vY vV T.len cE (eH (cN 0) hH)))) (hO (vB (n:=5) B (cN 3) (pv 5) (cN 1)) (hO (Sh (m:=99) dO rfl (cN 2) (nT 4 An.nd) (nQ (vB (n:=5) B (qQ Hd Gk (Sv (sX zR yQ 3 (xO B (oA B 2 (cN 4)) (cN 1)))) (xO B (oA B 2 (cN 4)) (cN 4))) (pv 5) (cN 4)))) (nQ (oJ (uI (Ln rfl) K9 T.dict hZ (eH (qP ["pair"] [] [] (Yn (by rfl) T.zip (eH (cN 0) (eH (pJ j hr (Bc (pv 5) hH)) hH))) (λ_ _ _ _ _=>(nT 0 KA)) (λ_ _ _ _ _=>(cN 0)) (ht:=λ_ _ _ _ _=>(vS (tL (uA hr.units) (pK true) (oA B 0 nI) nI)))) hH))))))))),?_⟩;have ae:=I.le;have G:∀ {q:Nat} {h:Nat×Aa Int},b[q]?=some h->zI (.dM (nS b)) (.int (h.1:Nat))=some (some (ln h.2)):=λz=>by
  show some (nU (nS b) (hk _))=_;rw[Me I.nd z]
 have e0:(nS b).length=b.length:=by unfold nS;rw[List.length_map]
 have wb:∀ q,(EQ.whole (b.take q) f 1).natAbs<BM:=λq=>by
  have:=EQ.whole_le (f:=f) vA (b.take q) (a:=1) (A:=1) (λh z=>sm h (iO z)) (by decide);refine bH this (bH ?_ (Qd (aU 28)));refine iP 1 ?_;refine bF (iS vA (show (b.take q).length<=28 by rw[bN];omega)) (lY (by omega) _)
 have wf:=wb b.length;rw[cM] at wf;refine nO (λF=>F=[.v (.l (y.map D.str)),.v (.int (f:Nat)),.v (.dM (nS b)),.v (.int 1),.n,.n]) (λN L=>L _ rfl) ?_;rintro _ rfl;refine nO (λF=>∃ u,F=[.v (.l (y.map D.str)),.v (.int (f:Nat)),.v (.dM (nS b)),.v (.int (EQ.whole b f 1)),u,.n]) (λN L=>?_) ?_
 .refine qK (b.map λh=>D.int (h.1:Nat)) [.v (.l (y.map D.str)),.v (.int (f:Nat)),.v (.dM (nS b)),.v (.int 1),.n,.n] (λX h=>?_)
   (λq F=>∃ u,F=[.v (.l (y.map D.str)),.v (.int (f:Nat)),.v (.dM (nS b)),.v (.int (EQ.whole (b.take q) f 1)),u,.n]) ⟨_,rfl⟩ ?_ ?_
  .show X (tI (nS b)) _;rw[Hc];exact h
  .rintro q d _ hd ⟨u,rfl⟩;obtain⟨h,z,rfl⟩:=qV hd;have c:=aL z;have S:=I.len h c;have V:=uP (l:=h.2) (k:=h.1) (by rw[S];exact I.lt h c);have Y:=uP (l:=h.2) (k:=f) (by rw[S];exact U);have g0:0<Nat.gcd (EQ.ix h.2 h.1).natAbs (EQ.ix h.2 f).natAbs:=Nat.gcd_pos_of_pos_left _ (Int.natAbs_pos.mpr (I.own h c));have J:Nat.gcd (EQ.ix h.2 h.1).natAbs (EQ.ix h.2 f).natAbs<=CC:=bF (Nat.le_of_dvd (Int.natAbs_pos.mpr (I.own h c)) (lR _ _)) ((sm h c).ix h.1);refine⟨rfl,rfl,_,G z,_,V,⟨wb q,?_⟩,?_⟩
   .rw[iE];exact bH ((sm h c).ix h.1) Hy
   refine⟨rfl,_,G z,_,V,rfl,_,G z,_,Y,_,_,rfl,.inl rfl,⟨by omega,?_⟩,.v (.int (h.1:Nat)),?_⟩
   .rw[iE];exact bH J Nt
   .have Z:EQ.whole (b.take (q+1)) f 1=EQ.whole (b.take q) f 1*((EQ.ix h.2 h.1).natAbs:Int)/(Nat.gcd (EQ.ix h.2 h.1).natAbs (EQ.ix h.2 f).natAbs:Int):=by
     rw[bQ,z];unfold EQ.whole;rw[eL];rfl
    rw[Z,<- fU _ (by omega)];rfl
  .rintro _ ⟨u,rfl⟩;rw[aA,cM];exact L _ ⟨_,rfl⟩
 rintro _ ⟨u,rfl⟩;refine nO (λF=>F=[.v (.l (y.map D.str)),.v (.int (f:Nat)),.v (.dM (nS b)),.v (.int (EQ.whole b f 1)),u,.o (ln (List.replicate m 0))]) (λN L=>?_) ?_
 .refine⟨by show 1<=1000;decide,rfl,m,by show some (y.map D.str).length=_;rw[aA,xm],by omega,by show (m:Int)<=1000;omega,by show 1<=100;decide,L _ ?_⟩;show [_,_,_,_,_,Sl.o (D.l (List.replicate ((m:Int).toNat) [D.int 0]).flatten)]=_;rw[AO]
 rintro _ rfl;refine nO (λF=>F=[.v (.l (y.map D.str)),.v (.int (f:Nat)),.v (.dM (nS b)),.v (.int (EQ.whole b f 1)),u,.o (ln ((List.replicate m 0).set f (EQ.whole b f 1)))]) (λN L=>?_) ?_
 .refine⟨rfl,_,T1 (by rw[cO];exact U),L _ rfl⟩
 rintro _ rfl;refine nO (λF=>∃ u,F=[.v (.l (y.map D.str)),.v (.int (f:Nat)),.v (.dM (nS b)),.v (.int (EQ.whole b f 1)),u,.o (ln (EQ.put b f (EQ.whole b f 1) ((List.replicate m 0).set f (EQ.whole b f 1))))]) (λN L=>?_) ?_
 .refine qK (b.map λh=>D.int (h.1:Nat)) [.v (.l (y.map D.str)),.v (.int (f:Nat)),.v (.dM (nS b)),.v (.int (EQ.whole b f 1)),u,.o (ln ((List.replicate m 0).set f (EQ.whole b f 1)))] (λX h=>?_)
   (λq F=>∃ u,F=[.v (.l (y.map D.str)),.v (.int (f:Nat)),.v (.dM (nS b)),.v (.int (EQ.whole b f 1)),u,.o (ln (EQ.put (b.take q) f (EQ.whole b f 1) ((List.replicate m 0).set f (EQ.whole b f 1))))]) ⟨_,rfl⟩ ?_ ?_
  .show X (tI (nS b)) _;rw[Hc];exact h
  .rintro q d _ hd ⟨u,rfl⟩;obtain⟨h,z,rfl⟩:=qV hd;have c:=aL z;have S:=I.len h c;have V:=uP (l:=h.2) (k:=h.1) (by rw[S];exact I.lt h c);have Y:=uP (l:=h.2) (k:=f) (by rw[S];exact U);refine⟨rfl,rfl,_,G z,_,Y,⟨wf,?_⟩,rfl,_,G z,_,V,⟨I.own h c,?_⟩,rfl,_,T1 ?_,.v (.int (h.1:Nat)),?_⟩
   .exact bH ((sm h c).ix f) Hy
   .exact bH ((sm h c).ix h.1) Nt
   .rw[EQ.put_len,aY,cO];exact I.lt h c
   .have Z:∀ Q W,EQ.put (b.take (q+1)) f Q W=(EQ.put (b.take q) f Q W).set h.1 ((-(Q*EQ.ix h.2 f)).fdiv (EQ.ix h.2 h.1)):=λQ W=>by
     rw[bQ,z];unfold EQ.put;rw[eL];rfl
    rw[Z];rfl
  .rintro _ ⟨u,rfl⟩;rw[aA,cM];exact L _ ⟨_,rfl⟩
 rintro _ ⟨ab,rfl⟩;have pl:(EQ.put b f (EQ.whole b f 1) ((List.replicate m 0).set f (EQ.whole b f 1))).length=m:=by rw[EQ.put_len,aY,cO]
 have pg:EQ.gc (EQ.put b f (EQ.whole b f 1) ((List.replicate m 0).set f (EQ.whole b f 1)))<BD:=by
  refine bH (EQ.gc_le (Mi (M:=BM) (C:=CC) (eT wf) vA b _ sm λx hx=>?_)) MY;rcases kC hx with hx | rfl
  .rw[List.eq_of_mem_replicate hx];exact cG _
  .exact bF (eT wf) (Nat.le_mul_of_pos_right _ vA)
 unfold EQ.shown at O;generalize EQ.put b f (EQ.whole b f 1) ((List.replicate m 0).set f (EQ.whole b f 1))=R at *;unfold sR dC aC;refine uW (y.zip (EQ.wd R)) (λp=>.t [.str p.1,.int p.2]) (λp=>.t [.str p.1,.int p.2]) (λp=>p.2 != 0) [.v (.l (y.map D.str)),.v (.int (f:Nat)),.v (.dM (nS b)),.v (.int (EQ.whole b f 1)),ab,.o (ln R)] (λX h=>?_) (by rw[eS];omega) (λi x ys Nx e h1 h2 h3=>?_) ?_
 .exact⟨rfl,R,rfl,by omega,pg,.inr (Wy _),false,false,_,_,rfl,rfl,by rw[Vq];exact h⟩
 .refine⟨rfl,.int x.2,rfl,xC (λh=>?_) λh=>?_⟩
  .exact⟨h1,h2 (by simpa using h)⟩
  .exact h3 (by simpa using h)
 .have fl:=cW (λp:Af×Int=>p.2 != 0) (y.zip (EQ.wd R));rw[eS] at fl;refine⟨((y.zip (EQ.wd R)).filter λp=>p.2 != 0).map λp=>(Sum.inr p.1,D.int p.2),Ld (g:=λp:Af×Int=>((Sum.inr p.1:gV),D.int p.2)) (λx=>⟨.str x.1,rfl,rfl⟩) _,by rw[aA];omega,?_⟩;have em:=Eh (t:=(y.zip (EQ.wd R)).filter λp=>p.2 != 0) (Kg _ xn);unfold hL at em O;rw[em];exact O
end
abbrev nP (C:Cel):Aa Af:=("" : Af)::pV C
def qH (C:Cel) (g:Bool):Aa (Nat×Aa Int):=EQ.red (wV C g)
def nX (C:Cel) (f:Nat):sB:=((nP C).zip (EQ.shown (nP C).length (qH C false) f)).filter λp=>p.2 != 0
def nW (C:Cel):Aa Nat:=EQ.firsts (nP C).length (qH C false)
def R4:RD:=λd a c=>∃ C,a=[nK C,.b false]/\GCq C/\c (.o (.l ((nW C).map λf=>.k (hL (nX C f)))))
theorem Jt (C:Cel):(oR C false).map nR=(nP C).map D.str:=by
 unfold oR;rw[aJ (by decide),cZ,bA];rfl
theorem Cu (C:Cel):(oR C false).length=(nP C).length:=by
 have:=cL List.length (Jt C)
 rwa [aA,aA] at this
theorem Kq {C:Cel}(g:GCq C):(nP C).Nodup:=by
 have c:C.ins.Nodup:=(bU.mp g.gc.nd).1;refine bM.mpr ⟨λh=>g.ne ?_,bU.mpr ⟨c,g.gc.ond.filter _,λa d b f e=>?_⟩⟩
 .rcases aT.mp h with h | h
  .exact bK _ h
  .exact g.gc.os _ (bR.mp h).1
 .subst e;have:=(bR.mp f).2;simp at this;exact this d
theorem FR {C:Cel}{o:Bool}(g:GCq C){b:Aa Int}(j:b∈pS C.ins.length){t:MK}(l:t∈oR C o):tv (uB C b) t=0\/tv (uB C b) t=1:=by
 obtain⟨q,d⟩:=Ou l;have e:∀ x:Af,(x = "" \/ x∈C.ins++C.outs)->Bit (uB C b x):=λx n=>Ub g j (n.imp_right λh=>(aT.mp h).elim (bK _) (g.gc.os x))
 rcases q with⟨x,rfl⟩ | ⟨a,c,rfl⟩
 .exact e x (d x aF)
 .have k:=e a (d a aF);have m:=e c (d c (aH _ aF));show uB C b a*uB C b c=0\/uB C b a*uB C b c=1;rcases k with f | f<;>rcases m with i | i<;>rw[f,i]<;>decide
theorem Ku {C:Cel}{pr:Bool}(g:GCq C):∀ r∈wV C pr,r.length=(oR C pr).length/\EQ.Bit r:=λr c=>by
 obtain⟨b,a,rfl⟩:=aM.mp c;refine⟨aA ..,λx e=>?_⟩;obtain⟨t,d,rfl⟩:=aM.mp e;exact FR g a d
theorem AZ {C:Cel}{pr:Bool}(g:GCq C):(wV C pr).length<=64:=by
 unfold wV;rw[aA,Hn];exact Dv g.li
theorem Hw (n:Nat):sW 0 n=(List.range n).map λi=>D.int (i:Nat):=by
 unfold sW
 congr 1;funext i
 rw[lZ]
theorem Xf (j:Aa (Nat×Aa Int)) (k:Nat):(nU (nS j) (hk k)).isSome=(j.map (·.1)).contains k:=by
 induction j with
 | nil=>rfl
 | cons g j a =>
  show (nU ((hk g.1,ln g.2)::nS j) _).isSome=_;rw[tS,aN,List.contains_cons];by_cases e:g.1=k
  .rw[aP (B6.mpr e)];simp[e]
  .rw[aJ λz=>e (B6.mp z),a];have:(k == g.1)=false:=by simp;exact λz=>e z.symm
   rw[this];rfl
theorem EC (t:sB):Dt (.o (.k (hL t)))=true:=by
 show uF ((hL t).map (·.2))=true;induction t with
 | nil=>rfl
 | cons x l a=>exact a
theorem Zv:(["at","heads"]:Aa Af).Nodup:=by decide +kernel
theorem MJ:(["first","things","heads"]:Aa Af).Nodup:=by decide +kernel
section
variable {P:Ah}{K:nH}
theorem G1:FnScope ["cell","pairs","things","heads","firsts"] ["cell","pairs"] (oB F0):=pU
theorem X7 (T:Txt J) (p:Kn P w K J base 1 "things_of" Eo ["cell","pairs"] Fi) (j:Kn P w K J base 4 "value_table" Dy ["cell","things"] S3) (r:Kn P w K J base 5 "reduced" Ia ["table"] Uq)
  (g:Kn P w K J base 4 "shown_equation" Ej ["things","first","heads"] Vi):pZ P w K J base 6 "equations" F0 ["cell","pairs"] R4:=by
 refine qI G1 λf M A F s H E Z U Φ t W R=>?_
 obtain⟨C,rfl,a,B⟩:=R;refine⟨_,(hO (oE 2 G1.nd (pJ p t (eH (cN 0) (eH (cN 1) hH)))) (hO (oE 3 G1.nd (pJ r t (eH (pJ j t (eH (cN 0) (eH (cN 2) hH))) hH))) (hO (Fa 4 ["at"] ["heads"] [3] G1.nd (At (by rfl) T.range (pG vY vV T.len cE (eH (cN 2) hH))) (λ_ _ _ _ _=>(nT 0 Zv)) (λ_ _ _ _ _=>(cN 0)) (ht:=λ_ _ _ _ _=>(vS (Ic (Eu W) (E8 true) (cN 0) (pv 1))))) (nQ (oJ (qP ["first"] ["things","heads"] [2,3] (oU (cN 4)) (λ_ _ _ _ _=>(nT 0 MJ)) (λ_ _ _ _ _=>(pJ g t (eH (cN 1) (eH (cN 0) (Bc (pv 2) hH))))))))))),?_⟩;have m:=zZ (pr:=false) a.li a.lo;have z:=Cu C;have ok:=Ku (pr:=false) a;rw[z] at ok m;obtain⟨I,sm⟩:=EQ.red_ok ok;have G:∀ h∈qH C false,EQ.Le CC h.2:=λh V=>(sm h V).mono (L0 m)
 refine nO (λd=>d=[.v (nK C),.v (.b false),.o (.l ((oR C false).map nR)),.n,.n]) (λN c=>?_) ?_
 .exact⟨C,false,rfl,a.li,a.lo,.inl rfl,c _ rfl⟩
 rintro _ rfl;refine nO (λd=>d=[.v (nK C),.v (.b false),.v (.l ((nP C).map D.str)),.o (.dM (nS (qH C false))),.n]) (λN c=>?_) ?_
 .refine⟨C,false,rfl,a,.inl rfl,_,_,rfl,by have:=AZ (pr:=false) a;omega,m,ok,.inl rfl,c _ ?_⟩;rw[<- Jt];rfl
 rintro _ rfl;refine nO (λd=>d=[.v (nK C),.v (.b false),.v (.l ((nP C).map D.str)),.o (.dM (nS (qH C false))),.o (.l ((nW C).map λf=>D.int (f:Nat)))]) (λN c=>?_) ?_
 .unfold rY;refine uW (List.range (nP C).length) (λi=>.int (i:Nat)) (λi=>.int (i:Nat)) (λi=>!((qH C false).map (·.1)).contains i) [.v (nK C),.v (.b false),.v (.l ((nP C).map D.str)),.o (.dM (nS (qH C false))),.n] (λY h=>?_) (by rw[cA];omega) (λi x X L e u y Q=>?_) (c _ rfl)
  .refine⟨rfl,(nP C).length,by show some ((nP C).map D.str).length=_;rw[aA],by omega,by omega,?_⟩;rw[cD,Hw];exact h
  .refine⟨_,rfl,?_⟩;have O:(nU (nS (qH C false)) (hk x)).isSome=((qH C false).map (·.1)).contains x:=Xf _ _;show if (nb true (nU (nS (qH C false)) (hk x)).isSome)=true then _ else _
   rw[O];cases q:((qH C false).map (·.1)).contains x with
   | true=>exact Iz rfl (Q (by rw[q];rfl))
   | false=>exact Ji rfl ⟨u,y (by rw[q];rfl)⟩
 rintro _ rfl;unfold sR;refine rF (nW C) (λf=>.int (f:Nat)) (λf=>.k (hL (nX C f))) [.v (nK C),.v (.b false),.v (.l ((nP C).map D.str)),.o (.dM (nS (qH C false))),.v (.l ((nW C).map λf=>D.int (f:Nat)))] (λY h=>h) ?_ (λi f X L e u y=>?_) B
 .have:=EQ.firsts_len I;show (EQ.firsts (nP C).length (qH C false)).length<=_;unfold qH;omega
 .have S:=EQ.firsts_mem (aL e);exact⟨rfl,nP C,(nP C).length,f,qH C false,_,rfl,Kq a,rfl,m,I,G,S.1,.inr (EC _),u,y⟩
end
theorem Rh (g:Aa Af) (m:Nat):sP (g.map V.str) none (some (m:Int))=(g.take m).map V.str:=by
 unfold sP;rw[HT.sIx_none,HT.sIx_nat,aA,List.drop_zero,Nat.sub_zero,List.map_take];by_cases h:m<=g.length
 .rw[jP h]
 .rw[mU (by omega),bI (by simp),bI (by simp;omega)]
theorem Zk (g:Aa Af) (m:Nat):sP (g.map V.str) (some (m:Int)) none=(g.drop m).map V.str:=by
 unfold sP;rw[HT.sIx_none,HT.sIx_nat,aA,List.map_drop];by_cases h:m<=g.length
 .rw[jP h,bI (by simp)]
 .rw[mU (by omega)];rw[List.drop_of_length_le (by simp),List.drop_of_length_le (by simp;omega)];simp
section
variable {P:Ah}{K:nH}
theorem vJ:FnScope ["deck","inputs","gates","many","count","names","known","rows","name","left","outputs","k"] ["deck","inputs","gates"] (oB Hs):=pU
theorem DZ (F:Fun K "_law_cell" "_law_cell" Hs f fd) (T:Txt mg) (gT:Gd K mg "_law_take" zJ ["deck","many"] fT cv) (gN:Gd K mg "_law_names" G7 ["deck","many"] fN cu)
  (gG:Gd K mg "_law_gate" F6 ["deck","known"] fG ct) (GT:FnOk P w K mg base oK 1 fT cv ["deck","many"] B9) (GN:FnOk P w K mg base oK 3 fN cu ["deck","many"] Qn) (GG:FnOk P w K mg base oK 2 fG ct ["deck","known"] Qr) :
  FnOk P w K mg base oK 4 f fd ["deck","inputs","gates"] Nd:=by
 refine F.ok vJ (λvs H Q E h=>?_) (λdm A db s H vs Q E hr h=>?_)
 .obtain⟨d,c,a,b,rfl,_⟩:=h;rfl
 .obtain⟨d,c,a,b,rfl,D,ha,hb,k⟩:=h;have bb:Room 1 _:=hr.mono (by decide);have c5:Room 2 _:=hr.mono (by decide);refine vU _ (oS (i:=3) vJ.nd rfl (Or.inl rfl) (qF GT bb rfl gT.m gT.k gT.b .nil pX (hI (pv 0) (hI (oC uE (pv 1) oD) nL)))) ?_;refine⟨_,rfl,_,rfl,_,_,rfl,rfl,d,c,_,rfl,D,by omega,by omega,λr1 H1 a0 a1 D1 k1=>?_⟩;refine vU _ (oS (i:=4) vJ.nd rfl (Or.inl rfl) (qF GT bb rfl gT.m gT.k gT.b .nil pX (hI (pv 0) (hI (oC uE (pv 2) oD) nL)))) ?_;refine⟨_,rfl,_,rfl,_,_,rfl,rfl,d,c,_,rfl,D1,by omega,by omega,λr2 H2 b0 b1 D2 k2=>?_⟩;obtain⟨m,rfl⟩:=cX a0;obtain⟨n,rfl⟩:=cX b0;refine vU _ (oS (i:=5) vJ.nd rfl (Or.inl rfl) (qF GN hr rfl gN.m gN.k gN.b .nil pX (hI (pv 0) (hI (oC uE (pv 3) (pv 4)) nL)))) ?_;refine⟨_,rfl,_,rfl,_,rfl,_,_,rfl,rfl,d,c,m+n,rfl,D2,by omega,λl v H3 nl hl dj b4 cw D3 k3=>?_⟩;have ck:=D2.ned nl;have b8:nD d c H H3:=(k1.trans k2).trans k3;have zl:H l=none:=(k1.trans k2).free ck.1 ck.2 nl;refine tM (λW H5=>∃ (kn B:Ad),W=[some (.ref d),some (.int a),some (.int b),some (.int m),some (.int n),some (.ref l),some (.ref kn),none,none,none,none,none] /\ H5 l=some (.l (v.map V.str))/\H5 kn=some (.l ((v.take m).map V.str))/\H kn=none/\DeckAt H5 d c/\nD d c H H5) (λu X=>?_) ?_
  .refine⟨_,oS (i:=6) vJ.nd rfl (Or.inl rfl) (wR Aj (pv 5) xL (xQ (pv 3))),?_⟩;refine⟨_,rfl,_,rfl,_,rfl,l,_,rfl,dT.of hl,λkn nk=>?_⟩;have cj:=D3.ned nk;refine X _ _ ⟨kn,kn,rfl,by rw[gD (hV hl nk)];exact hl,?_,b8.free cj.1 cj.2 nk,D3.new nk,b8.trans (nD.new nk)⟩;rw[Rh];exact hG
  rintro W H4 ⟨kn,_,rfl,bo,ay,dh,D4,k4⟩;refine tM (λW H5=>∃ (B:Ad),W=[some (.ref d),some (.int a),some (.int b),some (.int m),some (.int n),some (.ref l),some (.ref kn),some (.ref B),none,none,none,none] /\ H5 l=some (.l (v.map V.str))/\H5 kn=some (.l ((v.take m).map V.str))/\H5 B=some (.l [])/\l≠B/\kn≠B/\H B=none/\DeckAt H5 d c/\nD d c H H5) (λu X=>?_) ?_
  .refine⟨_,oS (i:=7) vJ.nd rfl (Or.inl rfl) (pY nL),?_⟩;refine⟨(by show 0<=sizeLine;decide),λB nr=>?_⟩;have cn:=D4.ned nr;exact X _ _ ⟨B,rfl,by rw[gD (hV bo nr)];exact bo,by rw[gD (hV ay nr)];exact ay,hG,hV bo nr,hV ay nr,k4.free cn.1 cn.2 nr,D4.new nr,k4.trans (nD.new nr)⟩
  rintro W H5 ⟨B,rfl,bp,bf,a7,da,c7,bt,D5,k5⟩;refine tM (λW Y=>∃ (L:Ad) (as:Aa Ad) (Z:Aa (Af×Af×Aa Af)) (v8:Ab V),W=[some (.ref d),some (.int a),some (.int b),some (.int m),some (.int n),some (.ref l),some (.ref L),some (.ref B),v8,none,none,none] /\ Y l=some (.l (v.map V.str))/\Y L=some (.l (v.map V.str))/\Y B=some (.l (as.map V.ref))/\sF Y as Z/\Z.map (·.1)=v.drop m/\uJ (v.take m) Z/\DeckAt Y d c/\nD d c H Y) (λu X=>?_) ?_
  .refine⟨_,vZ dO rfl (Hr (wR Aj (pv 5) (xQ (pv 3)) xL)) (tP (i:=8) vJ.nd rfl (Or.inl rfl)) (pW (Az (vD bZ cR cS wA (pv 7) (hI (oC Vc (A3 (hI (pv 8) nL)) (qF GG c5 rfl gG.m gG.k gG.b .nil pX (hI (pv 0) (hI (pv 6) nL)))) nL))) (pQ (oS (i:=6) vJ.nd rfl (Or.inl rfl) (oC Ax (pv 6) (pY (hI (pv 8) nL)))))),?_⟩;refine⟨_,rfl,_,rfl,_,rfl,l,_,rfl,dT.of bp,λln ah=>?_⟩;rw[Zk];have bm:=D5.ned ah;have di:H ln=none:=k5.free bm.1 bm.2 ah;have cc:ln≠B:=(hV a7 ah).symm;refine⟨ln,rfl,⟨_,dT.of hG⟩,?_⟩;refine Iu (K:=K) (a:=ln) (xs:=(v.drop m).map V.str) (λi W Y=>∃ (L:Ad) (as:Aa Ad) (Z:Aa (Af×Af×Aa Af)) (v8:Ab V),W=[some (.ref d),some (.int a),some (.int b),some (.int m),some (.int n),some (.ref l),some (.ref L),some (.ref B),v8,none,none,none] /\ Y l=some (.l (v.map V.str))/\Y ln=some (.l ((v.drop m).map V.str))/\Y L=some (.l ((v.take (m+i)).map V.str))/\H L=none/\L≠B/\Y B=some (.l (as.map V.ref))/\as.length=i/\sF Y as Z/\Z.map (·.1)=(v.drop m).take i/\uJ (v.take m) Z/\DeckAt Y d c/\nD d c H Y)
    ⟨kn,[],[],none,rfl,by rw[gD (hV bp ah)];exact bp,hG,by rw[gD (hV bf ah)];exact bf,dh,c7,by rw[gD (hV a7 ah)];exact a7,rfl,.nil,by simp,True.intro,D5.new ah,k5.trans (nD.new ah)⟩
    (λi W Y _ ⟨_,_,_,_,_,_,h,_⟩=>dT.of h) ?_ ?_
   .rintro i x W Y hx ⟨L,as,Z,v8,rfl,an,bh,R,bn,b9,S,bu,aw,O,ax,D6,k6⟩;obtain⟨y,hy,rfl⟩:∃ y,(v.drop m)[i]?=some y/\V.str y=x:=by
     rw[aQ] at hx;cases e:(v.drop m)[i]? with
     | none=>rw[e] at hx;cases hx
     | some y=>rw[e] at hx;exact⟨y,rfl,bO hx⟩
    have hi:i<(v.drop m).length:=(aG.mp hy).1;rw[dB] at hi;have bd:=D.ned bn;refine⟨_,rfl,.inl ⟨rfl,_,dT.of S⟩,_,rfl,(by show 1<=sizeLine;decide),λt1 be=>?_⟩;have D7:=D6.new (o:=.t [V.str y]) be;have b2:upd Y t1 (.t [V.str y]) L=some (.l ((v.take (m+i)).map V.str)):=by rw[gD (hV R be)];exact R
    refine⟨_,rfl,_,rfl,d,c,L,v.take (m+i),rfl,D7,b2,bd.1,bd.2,by rw[bN];omega,λt q wd ps H8 nt nq ht hq c3 c4 D8 k8=>?_⟩;have bc:nD d c Y H8:=(nD.new be).trans k8;have cp:=D6.ned be;have c6:=k8 t1 _ hG cp.1 cp.2;refine⟨t1,t,_,_,rfl,rfl,nY.of c6,nY.of ht,by simp,(by show 1+2<=sizeLine;decide),(λz=>by cases z),λ_ C ao=>?_⟩;have ae:=D.ned bt;have J:=bc B _ S ae.1 ae.2;have af:∀ o,upd H8 C o B=some (.l (as.map V.ref)):=λo=>by rw[gD (hV J ao)];exact J
    refine⟨B,_,.ref C,rfl,rfl,af _,?_,?_⟩
    .rw[aA];exact aR (show as.length<1000 by omega) (by decide)
    have df:B≠C:=hV J ao;have ai:DeckAt (upd (upd H8 C (.t ([V.str y]++[V.str wd,V.ref q]))) B (.l (as.map V.ref++[V.ref C]))) d c:=(D8.new ao).upd_other ae.1 ae.2;have ar:nD d c H (upd (upd H8 C (.t ([V.str y]++[V.str wd,V.ref q]))) B (.l (as.map V.ref++[V.ref C]))):=λb o e g1 g2=>by
     rw[gD (hV e bt)];exact (k6.trans (bc.trans (nD.new ao))) b o e g1 g2
    have aq:∀ b ys,b≠B->b≠d->b≠c->Y b=some (.l ys)->upd (upd H8 C (.t ([V.str y]++[V.str wd,V.ref q]))) B (.l (as.map V.ref++[V.ref C])) b=some (.l ys):=λb ys e1 e2 e3 e=>by
     have e8:=bc b _ e e2 e3;rw[gD e1,gD (hV e8 ao)];exact e8
    have tp:oZ Y (upd (upd H8 C (.t ([V.str y]++[V.str wd,V.ref q]))) B (.l (as.map V.ref++[V.ref C]))):=(oZ.of_keep D6 bc).trans ((oZ.new ao).trans (oZ.lst (af _)));have bv:Mm (upd (upd H8 C (.t ([V.str y]++[V.str wd,V.ref q]))) B (.l (as.map V.ref++[V.ref C]))) C (y,wd,ps):=by
     refine⟨q,?_,?_⟩
     .rw[gD df.symm];exact hG
     .have qr:q≠B:=zN hq J (λz=>nomatch z);rw[gD qr,gD (hV hq ao)];exact hq
    have ld:=D.ned zl;have ca:=D.ned di;have I:=aq l _ da ld.1 ld.2 an;have a3:=aq ln _ cc ca.1 ca.2 bh;have ak:=aq L _ b9 bd.1 bd.2 R;have G:upd (upd H8 C (.t ([V.str y]++[V.str wd,V.ref q]))) B (.l (as.map V.ref++[V.ref C])) B=some (.l ((as++[C]).map V.ref)):=by rw[hG];simp
    generalize upd (upd H8 C (.t ([V.str y]++[V.str wd,V.ref q]))) B (.l (as.map V.ref++[V.ref C]))=M at ai ar tp bv I a3 ak G |-;refine⟨_,rfl,_,rfl,(by show 1<=sizeLine;decide),λp1 n1=>?_⟩;have ba:=ai.new (o:=.l [V.str y]) n1;have ac:=ar.trans (nD.new (d:=d) (c:=c) (o:=.l [V.str y]) n1);refine⟨L,p1,_,_,rfl,rfl,by rw[gD (hV ak n1)];exact ak,hG,?_,λp2 n2=>?_⟩
    .rw[aA,bN];exact E3 (by show min (m+i) v.length+1<=1000;omega)
    have ag:∀ b o,M b=some o->upd (upd M p1 (.l [V.str y])) p2 (.l ((v.take (m+i)).map V.str++[V.str y])) b=some o:=λb o e=>by
     have e1:upd M p1 (.l [V.str y]) b=some o:=by rw[gD (hV e n1)];exact e
     rw[gD (hV e1 n2)];exact e1
    have cf:=ba.ned n2;refine⟨p2,as++[C],Z++[(y,wd,ps)],_,rfl,ag _ _ I,ag _ _ a3,?_,ac.free cf.1 cf.2 n2,?_,ag _ _ G,by simp[bu],?_,?_,?_,ba.new n2,ac.trans (nD.new n2)⟩
    .rw[hG,<- Nat.add_assoc,bQ,bE];rw[kW] at hy;rw[hy];rfl
    .intro e;have:=ag B _ G;rw[<- e] at G;have q1:upd M p1 (.l [V.str y]) p2=some (.l ((as++[C]).map V.ref)):=by rw[gD (hV G n1)];exact G
     rw[q1] at n2;cases n2
    .exact sF.mono (λb ys e=>ag b _ e) (J4 (sF.mono tp aw) bv)
    .rw[bE,O,bQ,hy];rfl
    .refine uJ.snoc ax c3 (λp hp=>?_);have:=c4 p hp;rw[O];rw[List.take_add] at this;exact this
   .rintro W Y ⟨L,as,Z,v8,rfl,an,bh,R,bn,b9,S,bu,aw,O,ax,D6,k6⟩;rw[aA] at R O;rw[bI (aU _)] at O;rw[bI (by rw[dB];omega)] at R;exact X _ _ ⟨L,as,Z,v8,rfl,an,R,S,aw,O,ax,D6,k6⟩
  rintro W Y ⟨L,as,Z,v8,rfl,an,R,S,aw,O,ax,D6,k6⟩;refine tM (λW H7=>∃ (lf g:Ad),W=[some (.ref d),some (.int a),some (.int b),some (.int m),some (.int n),some (.ref l),some (.ref L),some (.ref B),v8,some (.ref lf),none,none] /\ H7 l=some (.l (v.map V.str))/\H7 B=some (.l (as.map V.ref))/\H7 lf=some (.l (v.map V.str))/\l≠lf/\B≠lf/\H lf=none/\sF H7 as Z/\DeckAt H7 d c/\nD d c H H7) (λu X=>?_) ?_
  .refine⟨_,oS (i:=9) vJ.nd rfl (Or.inl rfl) (xR Dx (by rfl) T.list fY (hI (pv 6) nL)),?_⟩;refine⟨_,rfl,L,_,rfl,.inl (dT.of R),λlf nf=>?_⟩;have ch:=D6.ned nf;exact X _ _ ⟨lf,lf,rfl,by rw[gD (hV an nf)];exact an,by rw[gD (hV S nf)];exact S,hG,hV an nf,hV S nf,k6.free ch.1 ch.2 nf,aw.mono (oZ.new nf),D6.new nf,k6.trans (nD.new nf)⟩
  rintro W H7 ⟨lf,_,rfl,bq,a8,a2,c8,dd,cq,bw,D7,k7⟩;refine tM (λW H8=>∃ (g:Ad),W=[some (.ref d),some (.int a),some (.int b),some (.int m),some (.int n),some (.ref l),some (.ref L),some (.ref B),v8,some (.ref lf),some (.ref g),none] /\ H8 l=some (.l (v.map V.str))/\H8 B=some (.l (as.map V.ref))/\H8 lf=some (.l (v.map V.str))/\H8 g=some (.l [])/\l≠g/\B≠g/\lf≠g/\H g=none/\sF H8 as Z/\DeckAt H8 d c/\nD d c H H8) (λu X=>?_) ?_
  .refine⟨_,oS (i:=10) vJ.nd rfl (Or.inl rfl) (pY nL),?_⟩;refine⟨(by show 0<=sizeLine;decide),λg no=>?_⟩;have cm:=D7.ned no;exact X _ _ ⟨g,rfl,by rw[gD (hV bq no)];exact bq,by rw[gD (hV a8 no)];exact a8,by rw[gD (hV a2 no)];exact a2,hG,hV bq no,hV a8 no,hV a2 no,k7.free cm.1 cm.2 no,bw.mono (oZ.new no),D7.new no,k7.trans (nD.new no)⟩
  rintro W H8 ⟨g,rfl,cx,J,b3,b6,c9,de,a9,cs,bx,D8,k8⟩;refine tM (λW H9=>∃ (os lt:Aa Af) (v11:Ab V),W=[some (.ref d),some (.int a),some (.int b),some (.int m),some (.int n),some (.ref l),some (.ref L),some (.ref B),v8,some (.ref lf),some (.ref g),v11] /\ H9 l=some (.l (v.map V.str))/\H9 B=some (.l (as.map V.ref))/\H9 g=some (.l (os.map V.str))/\os.length<=6/\(os++lt).Perm v/\sF H9 as Z/\DeckAt H9 d c/\nD d c H H9) (λu X=>?_) ?_
  .refine⟨_,vZ dO rfl (zG rfl T.range (hI (sM (Ll rfl) (by rfl) T.min lM (hI (qF GT bb rfl gT.m gT.k gT.b .nil pX (hI (pv 0) (hI oD nL))) (hI (sM vP (by rfl) T.len cE (hI (pv 9) nL)) nL))) nL)) (tP (i:=11) vJ.nd rfl (Or.inl rfl)) (pQ (Az (vD bZ cR cS wA (pv 10) (hI (vD bZ PySem.F.slot_list_pop PySem.F.type_list_pop Td (pv 9) (hI (qF GT bb rfl gT.m gT.k gT.b .nil pX (hI (pv 0) (hI (sM vP (by rfl) T.len cE (hI (pv 9) nL)) nL))) nL)) nL)))),?_⟩;refine⟨_,rfl,d,c,7,rfl,D8,by decide,by decide,λr H9 c0 c1 D9 k9=>?_⟩;have ld:=D.ned zl;have ae:=D.ned bt;have au:=D.ned cq;have av:=D.ned cs;have bg:=k9 lf _ b3 au.1 au.2;refine⟨_,rfl,lf,_,rfl,.inl (dT.of bg),_,_,rfl,_,rfl,?_,?_,?_⟩
   .split<;>omega
   .split
    .rw[aA];omega
    .omega
   rw[aA];have hN:(if (v.length:Int)<r then (v.length:Int) else r).toNat<=6/\(if (v.length:Int)<r then (v.length:Int) else r).toNat<=v.length:=by split<;>omega
   generalize (if (v.length:Int)<r then (v.length:Int) else r).toNat=N at hN;refine Fz (lo:=0) (n:=N) (λi W M=>∃ (os lt:Aa Af) (v11:Ab V),W=[some (.ref d),some (.int a),some (.int b),some (.int m),some (.int n),some (.ref l),some (.ref L),some (.ref B),v8,some (.ref lf),some (.ref g),v11] /\ M l=some (.l (v.map V.str))/\M B=some (.l (as.map V.ref))/\M lf=some (.l (lt.map V.str))/\M g=some (.l (os.map V.str))/\os.length=i/\lt.length+i=v.length/\(os++lt).Perm v/\sF M as Z/\DeckAt M d c/\nD d c H M)
    ⟨[],v,none,rfl,k9 l _ cx ld.1 ld.2,k9 B _ J ae.1 ae.2,bg,k9 g _ b6 av.1 av.2,rfl,rfl,List.Perm.refl _,bx.mono (oZ.of_keep D8 k9),D9,k8.trans k9⟩ ?_ ?_
   .rintro i W M hi ⟨os,lt,v11,rfl,I,G,aa,ab,b5,cz,br,aj,ai,ar⟩;refine⟨_,rfl,.inl ⟨rfl,_,dT.of ab⟩,_,rfl,.inl ⟨rfl,_,dT.of aa⟩,_,rfl,_,rfl,lf,_,rfl,.inl (dT.of aa),d,c,_,rfl,ai,by rw[aA];omega,by rw[aA];omega,λr2 dk e0 e1 ba ac=>?_⟩;rw[aA] at e1;obtain⟨j,rfl⟩:=cX e0;have hj:j<lt.length:=by omega
    have az:=ac lf _ aa au.1 au.2;have a4:=ac g _ ab av.1 av.2;have hy:lt[j]?=some lt[j]:=aE hj;have dc:((os++[lt[j]])++lt.eraseIdx j).Perm (os++lt):=by
     rw[bL];exact jU os (Kt hy)
    have dn:(lt.eraseIdx j).length+1=lt.length:=by
     rw[List.length_eraseIdx,aP hj];omega
    refine⟨lf,_,_,j,.str lt[j],rfl,rfl,az,by omega,by omega,?_,by simp[hj],g,_,.str lt[j],rfl,rfl,by rw[gD a9.symm];exact a4,?_,os++[lt[j]],lt.eraseIdx j,_,rfl,?_,?_,?_,by rw[hG];simp,by simp[b5],by omega,dc.trans br,?_,?_,?_⟩
    .rw[aA];exact lS (by omega) (by omega)
    .rw[aA];exact aR (show os.length<1000 by omega) (by decide)
    .rw[gD c9,gD c8];exact ac l _ I ld.1 ld.2
    .rw[gD de,gD dd];exact ac B _ G ae.1 ae.2
    .rw[gD a9,hG,J8]
    .refine aj.mono ((oZ.of_keep ai ac).trans ((oZ.lst az).trans (oZ.lst (ys:=os.map V.str) ?_)));rw[gD a9.symm];exact a4
    .exact (ba.upd_other au.1 au.2).upd_other av.1 av.2
    .exact λb o e g1 g2=>by rw[gD (hV e cs),gD (hV e cq)];exact ac b o (ar b o e g1 g2) g1 g2
   .rintro W M ⟨os,lt,v11,rfl,I,G,aa,ab,b5,cz,br,aj,ai,ar⟩;exact X _ _ ⟨os,lt,v11,rfl,I,G,ab,by omega,br,aj,ai,ar⟩
  rintro W H9 ⟨os,lt,v11,rfl,cy,af,bi,c2,a6,bz,D9,k9⟩;refine⟨_,pQ (uL (A3 (hI (xR B1 (by rfl) T.tuple eN (hI (wR Aj (pv 5) xL (xQ (pv 3))) nL)) (hI (xR B1 (by rfl) T.tuple eN (hI (pv 7) nL)) (hI (xR B1 (by rfl) T.tuple eN (hI (pv 10) nL)) nL))))),?_⟩;refine⟨_,rfl,_,rfl,_,rfl,l,_,rfl,dT.of cy,λp1 n1=>⟨p1,_,rfl,.inl ⟨dT.of hG,λp2 n2=>?_⟩⟩⟩;rw[Rh] at n2 |-;have bj:upd (upd H9 p1 (.l ((v.take m).map V.str))) p2 (.t ((v.take m).map V.str)) B=some (.l (as.map V.ref)):=by
   have e1:upd H9 p1 (.l ((v.take m).map V.str)) B=some (.l (as.map V.ref)):=by rw[gD (hV af n1)];exact af
   rw[gD (hV e1 n2)];exact e1
  have a5:upd (upd H9 p1 (.l ((v.take m).map V.str))) p2 (.t ((v.take m).map V.str)) g=some (.l (os.map V.str)):=by
   have e1:upd H9 p1 (.l ((v.take m).map V.str)) g=some (.l (os.map V.str)):=by rw[gD (hV bi n1)];exact bi
   rw[gD (hV e1 n2)];exact e1
  have DA:=(D9.new (o:=.l ((v.take m).map V.str)) n1).new (o:=.t ((v.take m).map V.str)) n2;have kA:=(k9.trans (nD.new (d:=d) (c:=c) (o:=.l ((v.take m).map V.str)) n1)).trans (nD.new (d:=d) (c:=c) (o:=.t ((v.take m).map V.str)) n2);have gA:sF (upd (upd H9 p1 (.l ((v.take m).map V.str))) p2 (.t ((v.take m).map V.str))) as Z:=bz.mono ((oZ.new n1).trans (oZ.new n2));have iA:upd (upd H9 p1 (.l ((v.take m).map V.str))) p2 (.t ((v.take m).map V.str)) p2=some (.t ((v.take m).map V.str)):=hG;generalize upd (upd H9 p1 (.l ((v.take m).map V.str))) p2 (.t ((v.take m).map V.str))=HA at bj a5 DA kA gA iA |-;refine⟨_,rfl,B,_,rfl,.inl ⟨dT.of bj,λp3 n3=>?_⟩⟩;have b7:upd HA p3 (.t (as.map V.ref)) g=some (.l (os.map V.str)):=by rw[gD (hV a5 n3)];exact a5
  refine⟨_,rfl,g,_,rfl,.inl ⟨dT.of b7,λp4 n4=>⟨(by show 3<=sizeLine;decide),λce nc=>?_⟩⟩⟩;have DB:=(DA.new (o:=.t (as.map V.ref)) n3).new (o:=.t (os.map V.str)) n4;have kB:=(kA.trans (nD.new (d:=d) (c:=c) (o:=.t (as.map V.ref)) n3)).trans (nD.new (d:=d) (c:=c) (o:=.t (os.map V.str)) n4);have tB:oZ HA (upd (upd (upd HA p3 (.t (as.map V.ref))) p4 (.t (os.map V.str))) ce (.t [V.ref p2,V.ref p3,V.ref p4])):=(oZ.new n3).trans ((oZ.new n4).trans (oZ.new nc));have cg:=DB.ned nc;refine k ce ⟨v.take m,Z,os⟩ _ (kB.free cg.1 cg.2 nc) ⟨p2,p3,p4,as,hG,tB _ _ iA,((oZ.new n4).trans (oZ.new nc)) _ _ hG,(oZ.new nc) _ _ hG,gA.mono tB⟩ ?_ (DB.new nc) (kB.trans (nD.new nc));have U:(⟨v.take m,Z,os⟩:Cel).names=v:=by
   show v.take m++Z.map (·.1)=v;rw[O];exact iH m v
  have dp:Z.length=v.length-m:=by
   have:=cL List.length O;rw[aA,dB] at this;exact this
  refine⟨by rw[U];exact b4,by rw[U];exact cw,ax,λo ho=>by rw[U];exact a6.mem_iff.mp (bK _ ho),?_,by show (v.take m).length<=6;rw[bN];omega,by show Z.length<=24;omega,c2⟩;exact mG (List.sublist_append_left os lt) (a6.symm.nodup b4)
end
def Pl:RD:=λe f h=>∃ (d c:Ad) (a b:Nat),e=[d,c]/\f=[.r (.ref d),.int a,.int b]/\a<=6/\b<=24/\∀ C,Good C->h (.v (nK C))
def sC:Nat->Nat->Aa Int
 | 0,_=>[]
 | m+1,n=>((n%2:Nat):Int)::sC m (n/2)
theorem Vf:∀ (m n:Nat){i:Nat},i<m->(sC m n)[i]?=some ((n/2 ^ i%2:Nat):Int)
 | m+1,n,0,_=>by simp[sC]
 | m+1,n,i+1,h=>by
  have:=Vf m (n/2) (i:=i) (by omega);rw[Nat.div_div_eq_div_mul,iN 2,<- iR] at this
  simpa [sC] using this
theorem Qo:∀ {g:Aa Af}{bs:Aa Int}{i:Nat}{y:Af}{v:Int},g.Nodup->g[i]?=some y->bs[i]?=some v->look (g.zip bs) y=v
 | x::g,b::bs,0,y,v,_,c,d=>by
  simp at c d;subst c d;rw[cV,xS,aP rfl]
 | x::g,b::bs,i+1,y,v,e,c,d=>by
  have a:g[i]?=some y:=by simpa using c
  rw[cV,xS,aJ λz:x=y=>(bM.mp e).1 (z▸aL a)];exact Qo (bM.mp e).2 a (by simpa using d)
 | [],_,_,_,_,_,h,_=>by simp at h
 | _::_,[],_,_,_,_,_,h=>by simp at h
theorem Ow:∀ m≤6,∀ n<2 ^ m,sC m n∈pS m:=by decide +kernel
theorem Yp:∀ m≤6,∀ b∈pS m,∃ n<2 ^ m,sC m n=b:=by decide +kernel
theorem KC {C:Cel}(h:Good C):GCq C:=⟨⟨h.nd,h.gt,h.os,h.ond,bF h.li (by decide),bF h.lg (by decide),bF h.lo (by decide)⟩,h.li,h.lo,λz=>by
 have:=(h.nm _ z).ls.lo;exact absurd this (by decide)⟩
theorem Nk {K:nH}{A:Ad->Prop}{H:Hp}:∀ {as:Aa Ad}{g:Aa (Af×Af×Aa Af)},sF H as g->Reps K A H (g.map Cq) (as.map V.ref)
 | _,_,.nil=>.nil
 | _,_,.cons ⟨q,a,b⟩ r=>.cons (.t a (.cons (.str _) (.cons (.str _) (.cons (.t b (Fw _)) .nil)))) (Nk r)
theorem J0 {K:nH}{A:Ad->Prop}{H:Hp}{a:Ad}{C:Cel}(h:CellAt H a C):Rep K A H (nK C) (.ref a):=by
 obtain⟨i,g,o,as,b,c,d,e,f⟩:=h.ex;exact .t b (.cons (.t c (Fw _)) (.cons (.t d (Nk f)) (.cons (.t e (Fw _)) .nil)))
def Ol:RD:=λe c d=>∃ (a:Aa Af) (n:Nat),c=[.t (a.map D.str),.int n]/\a.Nodup/\a.length<=6/\∀ b,rJ b a (look (a.zip (sC a.length n)))->b.length<=6->d (.o (.k b))
section
variable {P:Ah}{K:nH}
theorem KJ {f:Ad}{fd:FuncData}{k:Nat}{g:Aa Af}(F:FnOk P w K j base oK k f fd g Nd):FnOk P w K j base oK k f fd g (wX K Pl):=F.imp λR H Q E y=>by
 obtain⟨L,A,M,S,e,N,r,⟨d,c,a,b,n,q,s,t,h⟩,x⟩:=y;subst n q;cases r with
 | cons B r =>
  cases r with
  | cons D r =>
   cases r with
   | cons G r =>
    cases r;have:=B.raw_inv;have:=D.int_inv;have:=G.int_inv;subst_vars;exact⟨d,c,a,b,rfl,Zf e,s,t,λce C m O u v i z=>x _ _ m (h C v) (W2 z) (.inr ⟨d,c,rfl,i⟩) (J0 u)⟩
theorem F4:FnScope ["names","number","found","name"] ["names","number"] (oB Hq):=pU
theorem Yv (T:Txt g):pZ P w K g base 1 "_law_bits" Hq ["names","number"] Ol:=by
 refine qI F4 λf R A Q s H E Z j r l W S=>?_
 obtain⟨b,c,rfl,Y,p,O⟩:=S;refine⟨_,(hO (oE 2 F4.nd O4) (hO (qX (oU (cN 0)) (nT 3 F4.nd) (hO (vB (n:=2) W (sX rH Dg 1 nI) (pv 2) (cN 3)) (nQ (oE 1 F4.nd (sX N4 Y2 1 nI))))) (nQ (oJ (wY 2 (pv 2)))))),?_⟩;refine nO (λB=>B=[.v (.t (b.map D.str)),.v (.int c),.o (.k []),.n]) (λN G=>G _ rfl) ?_;rintro _ rfl;refine nO (λB=>∃ a n m,B=[.v (.t (b.map D.str)),.v (.int (n:Nat)),.o (.k a),m]/\rJ a b (look (b.zip (sC b.length c)))/\a.length<=6) (λN G=>?_) ?_
 .refine qK (b.map D.str) [.v (.t (b.map D.str)),.v (.int c),.o (.k []),.n] (λC h=>h)
   (λi B=>∃ a m,B=[.v (.t (b.map D.str)),.v (.int (c/2 ^ i:Nat)),.o (.k a),m]/\rJ a (b.take i) (look (b.zip (sC b.length c)))/\a.length<=i) ⟨[],_,by rw[Nat.pow_zero,Nat.div_one],λx L=>by simp at L,aU _⟩ ?_ ?_
  .rintro i d _ hd ⟨a,m,rfl,u,F⟩;obtain⟨y,M,rfl⟩:=qV hd;have V:i<b.length:=(aG.mp M).1;refine⟨rfl,by show (0:Int)<2;decide,rfl,_,Ap (by omega),rfl,⟨by show (0:Int)<2;decide,by show (2:Int)<2 ^ 64;decide⟩,oY a (Sum.inr y) (.int ((c/2 ^ i%2:Nat):Int)),.v (.str y),?_,?_,?_⟩
   .rw[iR,<- Nat.div_div_eq_div_mul];rfl
   .rw[bQ,M];intro x L;rw[B7];have X:=Qo Y M (Vf b.length c V);by_cases e:y=x
    .subst e;rw[aP rfl,X];exact⟨rfl,by
      rcases Nat.mod_two_eq_zero_or_one (c/2 ^ i) with q | q<;>rw[q]
      .exact .inl rfl
      .exact .inr rfl⟩
    .rw[aJ λz=>e (iB z)];refine u x ?_;rcases aT.mp L with h | h
     .exact h
     .exact absurd (aO.mp (show x∈[y] from h)).symm e
   .have:=Ct a (Sum.inr y:gV) (.int ((c/2 ^ i%2:Nat):Int));omega
  .rintro _ ⟨a,m,rfl,u,F⟩;rw[aA] at F;rw[aA,cM] at u;exact G _ ⟨a,_,m,rfl,u,by omega⟩
 rintro _ ⟨a,n,m,rfl,u,F⟩;exact O a u F
end
end Lw
namespace L2
open PySem PySem.Spec PyProof.Rows
def HB (i j:Nat) (g:rL):qL:=λc b d=>g c d λas a=>match as with
 | [.t d1,.t d2]=>b.nx ((a.set i (.v d1)).set j (.v d2))
 | _=>False
section
variable {X:Cx}
theorem II (i j:Nat){x y:Af}{a b:Expr}{I:rL}{pos C py pt:Pos}{p o g}(J:X.N.Nodup) (U:rZ X [a,b] I) (hi:X.N[i]?=some x:=by rfl) (hj:X.N[j]?=some y:=by rfl) (l:i≠j:=by decide)
  (hx:X.env.scope.names.lookup x=some .local:=by rfl) (hy:X.env.scope.names.lookup y=some .local:=by rfl) (hc:X.calm=true:=by rfl)
  (hw:swappedStores [.Tuple [.Name x C,.Name y py] p pt] (.Tuple [a,b] o g) X.env=pure (some [x,y]):=by rfl)
  (hs:swapsWithSole [.Tuple [.Name x C,.Name y py] p pt] (.Tuple [a,b] o g) pos.line X.env=pure false:=by rfl) :
  tH X (.Assign [.Tuple [.Name x C,.Name y py] p pt] (.Tuple [a,b] o g) pos) (HB i j I) :=
 (KD hc J hi hj l hx hy U hw hs).mono λD h H e=>e.elim λB z T A q hd s u=>⟨B,z,T,_,q,hd,s,λas d F E f ok d1 c=>by
  cases ok with
  | nil=>exact False.elim c
  | al _ ok=>exact False.elim c
  | t ok =>
   cases ok with
   | nil=>exact False.elim c
   | al _ ok=>cases ok<;>exact False.elim c
   | t ok =>
    cases ok with
    | al _ ok=>exact False.elim c
    | t ok=>exact False.elim c
    | nil =>
     have r:=d1.temps (σ:=h) (.t (.t .nil)) _ rfl;have k:=d1.rmArgs;cases r with
     | cons v r =>
      cases r with
      | cons w r =>
       refine⟨_,_,rfl,?_⟩;have d2:=DS.push (L1:=d.zip h) (L2:=T) k w;have m:=DS.push (L1:=d.zip h) (L2:=(_,_)::T) d2 (by rw[Hg];exact v);have n:=(m.assign f i).assign (by rw[aY,aY];exact f) j;exact (u.1 _ _ _ (by simp only[aY];exact f) (by simp only[aY]) n).1 c⟩
end
end L2
namespace Lw
open PySem L2
section
variable {P:Ah}{K:nH}
theorem Cd:FnScope ["row","found","number","other"] ["row"] (oB A5):=pU
theorem Zn (T:Txt g):pZ P w K g base 1 "_law_divisor" A5 ["row"] Bl:=by
 refine qI Cd λf z A y s H E M O S Q R G=>?_
 obtain⟨l,rfl,u⟩:=G;refine⟨_,(hO (oE 1 Cd.nd nI) (hO (qX (oU (cN 0)) (nT 2 Cd.nd) (hO (oE 3 Cd.nd (pG Dw C8 T.abs iJ (eH (cN 2) hH))) (nQ (Vb dO (rA Je J6 (pv 3) nI) (nQ (II 1 3 Cd.nd (eH (cN 3) (eH (sX rH Dg 1 (cN 3)) hH)))))))) (nQ (oJ (cN 1))))),?_⟩;refine nO (λb=>b=[.v (ln l),.v (.int 0),.n,.n]) (λN q=>q _ rfl) ?_;rintro _ rfl;refine nO (λb=>∃ k m,b=[.v (ln l),.v (.int (EQ.gc l:Nat)),k,m]) (λN q=>?_) ?_
 .refine qK (l.map D.int) [.v (ln l),.v (.int 0),.n,.n] (λV h=>h) (λi b=>∃ k m,b=[.v (ln l),.v (.int (EQ.gc (l.take i):Nat)),k,m]) ⟨_,_,rfl⟩ ?_ ?_
  .rintro i d _ hd ⟨k,m,rfl⟩;obtain⟨x,L,rfl⟩:=qV hd;have e:EQ.gc (l.take (i+1))=Nat.gcd (EQ.gc (l.take i)) x.natAbs:=by
    rw[bQ,L];unfold EQ.gc;rw[eL];rfl
   rw[e];generalize EQ.gc (l.take i)=a at *;refine nO (λb=>b=[.v (ln l),.v (.int a),.v (.int x),.v (.int x.natAbs)]) (λN q=>q _ rfl) ?_;rintro _ rfl;refine⟨λb=>∃ c d:Nat,b=[.v (ln l),.v (.int c),.v (.int x),.v (.int d)]/\Nat.gcd c d=Nat.gcd a x.natAbs,λb=>match b with | [_,_,_,.v (.int d)]=>d.natAbs | _=>0,⟨a,x.natAbs,rfl,rfl⟩,?_⟩;rintro _ ⟨c,d,rfl,t⟩;refine⟨rfl,Ht (λh=>?_) λh=>?_⟩
   .have F:0<d:=by omega
    have B:(c:Int)%(d:Int)=((c%d:Nat):Int):=rfl;refine⟨rfl,by show (0:Int)<d;omega,⟨d,c%d,rfl,?_⟩,?_⟩
    .rw[<- t,nB c d,Nat.gcd_rec d c,nB]
    .show ((c:Int)%(d:Int)).natAbs<(d:Int).natAbs;rw[B];have:=Nat.mod_lt c F;omega
   .have:d=0:=by omega
    subst this;rw[Nat.gcd_zero_right] at t;subst t;exact⟨_,_,rfl⟩
  .rintro _ ⟨k,m,rfl⟩;rw[aA,cM];exact q _ ⟨_,_,rfl⟩
 rintro _ ⟨k,m,rfl⟩;exact u
end
theorem KS:(["name","cell"]:Aa Af).Nodup:=by decide +kernel
theorem Wo:(["other","cell","at"]:Aa Af).Nodup:=by decide +kernel
section
variable {P:Ah}{K:nH}
theorem Bb:FnScope ["cell","pairs","found","some","at"] ["cell","pairs"] (oB Ff):=pU
theorem MQ (T:Txt U):pZ P w K U base 1 "_law_things" Ff ["cell","pairs"] Fi:=by
 refine qI Bb λf Z A R s H E dk ds Φ hr m r=>?_
 obtain⟨C,a,rfl,M,ho,Q⟩:=r;refine⟨_,(hO (oE 2 Bb.nd (qQ uR uG (qQ uR uG (sG (eH rX hH)) (uI Dx Ka T.list fY (eH (oA m 0 nI) hH))) (qP ["name"] ["cell"] [0] (oU (oA m 0 nI)) (λ_ _ _ _ _=>(nT 0 KS)) (λ_ _ _ _ _=>(cN 0)) (ht:=λ_ _ _ _ _=>(vS (rA (Eu m) (E8 true) (pv 0) (oA m 1 nI))))))) (hO (oE 3 Bb.nd (sG hH)) (hO (qX (At (by rfl) T.range (pG vY vV T.len cE (eH (oA m 0 nI) hH))) (nT 4 Bb.nd) (nQ (oE 3 Bb.nd (sX uR uG 3 (qP ["other"] ["cell","at"] [0,4] (oU (KZ Vj Rs (oA m 0 nI) (Q0 (sX uR uG 4 nI)) Q8)) (λ_ _ _ _ _=>(nT 0 Wo)) (λ_ _ _ _ _=>(wE (eH (xO m (oA m 1 nI) (cN 2)) (eH (cN 0) hH))))))))) (hO (pL (Sz (pv 1)) (nQ (oE 2 Bb.nd (sX uR uG 2 (cN 3)))) pN) (nQ (oJ (wY 2 (pv 2)))))))),?_⟩;refine nO (λc=>c=[.v (nK C),.v (.b a),.o (.l (((("" : Af)::pV C).map tx).map nR)),.n,.n]) (λN k=>?_) ?_
 .unfold rY d2;refine⟨by show 1<=1000;decide,rfl,_,rfl,_,rfl,by show 1+(C.ins.map D.str).length<=100000;rw[aA];omega,?_⟩;refine uW C.outs D.str D.str (λo=>!decide (o∈C.ins)) [.v (nK C),.v (.b a),.n,.n,.n] (λS h=>⟨rfl,_,rfl,h⟩) (by omega) (λi x ys Y e B F W=>?_) ?_
  .refine⟨rfl,rfl,_,rfl,.str x,C.ins.map V.str,rfl,L3 _,?_⟩;rw[Ez];show if (!decide (x∈C.ins))=true then _ else _
   by_cases q:x∈C.ins
   .exact Iz (by rw[dD q];rfl) (W (by rw[dD q];rfl))
   .exact Ji (by rw[cF q];rfl) ⟨B,F (by rw[cF q];rfl)⟩
  .have W:=cW (λo=>!decide (o∈C.ins)) C.outs;refine⟨by show (([D.str (Str.ofString "")]++C.ins.map D.str)).length+((C.outs.filter λo=>!decide (o∈C.ins)).map D.str).length<=100000;rw[aZ,aA,aA];show 1+_+_<=_;omega,k _ ?_⟩;have:([D.str ("" : Af)]++C.ins.map D.str)++(C.outs.filter λo=>!decide (o∈C.ins)).map D.str=((("" : Af)::pV C).map tx).map nR:=by
    rw[bA];unfold pV;rw[aN,bE];rfl
   rw[<- this];rfl
 rintro _ rfl;have I:=cW (λo=>!decide (o∈C.ins)) C.outs;have p:=Jm _ M;have sl:(pV C).length<=12:=by unfold pV;rw[List.length_append];omega
 refine nO (λc=>c=[.v (nK C),.v (.b a),.o (.l (((("" : Af)::pV C).map tx).map nR)),.o (.l []),.n]) (λN k=>⟨by show 0<=1000;decide,k _ rfl⟩) ?_;rintro _ rfl;refine nO (λc=>∃ t,c=[.v (nK C),.v (.b a),.o (.l (((("" : Af)::pV C).map tx).map nR)),.o (.l ((qC C.ins).map nR)),t]) (λN k=>?_) ?_
 .refine qK ((List.range C.ins.length).map λi=>D.int (i:Nat)) [.v (nK C),.v (.b a),.o (.l (((("" : Af)::pV C).map tx).map nR)),.o (.l []),.n] (λS h=>?_)
   (λi c=>∃ L t,L++qC (C.ins.drop i)=qC C.ins/\c=[.v (nK C),.v (.b a),.o (.l (((("" : Af)::pV C).map tx).map nR)),.o (.l (L.map nR)),t]) ⟨[],_,rfl,rfl⟩ ?_ ?_
  .refine⟨rfl,_,rfl,rfl,C.ins.length,by show some (C.ins.map D.str).length=_;rw[aA],by omega,by omega,?_⟩;rw[cD,Hw];exact h
  .rintro i d _ hd ⟨L,t,u,rfl⟩;obtain⟨j,O,rfl⟩:=qV hd;have G:i<C.ins.length:=by
    have:=(aG.mp O).1
    rwa [cA] at this
   rw[kF G] at O;cases O;have y:=Lk C.ins i;rw[aE G] at y;dsimp only at y;have J:L.length+(qC (C.ins.drop i)).length=(qC C.ins).length:=by rw[<- aZ,u]
   have pl:=cL List.length y;rw[aZ,aA] at pl;unfold rY;refine⟨rfl,?_⟩;refine rF (C.ins.drop (i+1)) D.str (λz=>nR (tp C.ins[i] z)) [.v (nK C),.v (.b a),.o (.l (((("" : Af)::pV C).map tx).map nR)),.o (.l (L.map nR)),.v (.int (i:Nat))] (λS h=>?_) (by rw[dB];omega) (λj x ys Y e B F=>?_) ?_
   .refine⟨rfl,_,rfl,rfl,?_,?_⟩
    .rintro ⟨z,_⟩;have:HT.sIx (C.ins.map D.str).length 0 (some ((i+1:Nat):Int))=0:=z;rw[HT.sIx_nat,aA] at this;omega
    .show S (wH (C.ins.map D.str) (some ((i:Int)+1)) none) _;have:=Pt D.str C.ins (i+1);rw[show (((i+1:Nat):Int))=(i:Int)+1 from rfl] at this;rw[this];exact h
   .exact⟨rfl,_,rfl,D.str C.ins[i],yD (j:=i) (v:=D.str C.ins[i]) (by rw[aQ,aE G];rfl),by show 2<=1000;decide,B,F⟩
   .refine⟨?_,L++(C.ins.drop (i+1)).map (tp C.ins[i]),.v (.int (i:Nat)),?_,?_⟩
    .show (L.map nR).length+(List.map (λz=>nR (tp C.ins[i] z)) (List.drop (i+1) C.ins)).length<=100000;rw[aA,aA];omega
    .rw[bL,<- y];exact u
    .have:L.map nR++List.map (λz=>nR (tp C.ins[i] z)) (List.drop (i+1) C.ins)=(L++(C.ins.drop (i+1)).map (tp C.ins[i])).map nR:=by
      rw[bE,bA (g:=nR)];rfl
     rw[<- this];rfl
  .rintro _ ⟨L,t,u,rfl⟩;rw[aA,cA,mV] at u;have e:L=qC C.ins:=by simpa [qC] using u
   subst e;exact k _ ⟨_,rfl⟩
 rintro _ ⟨t,rfl⟩;refine nO (λc=>∃ X,c=[.v (nK C),.v (.b a),.o (.l ((oR C a).map nR)),X,t]) (λN k=>?_) ?_
 .cases a with
  | false =>
   refine⟨rfl,_,rfl,k _ ⟨.o (.l ((qC C.ins).map nR)),?_⟩⟩;unfold oR;rw[aJ (by decide),cZ]
  | true =>
   refine⟨rfl,_,rfl,?_⟩;refine⟨rfl,?_,k _ ⟨.v (.l ((qC C.ins).map nR)),?_⟩⟩
   .show (List.map nR (List.map tx (("" : Af)::pV C))).length+((qC C.ins).map nR).length<=100000;rw[aA,aA,bY,aA];omega
   .have:List.map nR (List.map tx (("" : Af)::pV C))++(qC C.ins).map nR=(oR C true).map nR:=by
     unfold oR;rw[aP rfl,bE]
    rw[<- this];rfl
 rintro _ ⟨X,rfl⟩;exact Q
end
def pA (C:Cel) (g:Bool):Aa (Aa Int):=(List.range (2 ^ C.ins.length)).map λn=>(oR C g).map (tv (uB C (sC C.ins.length n)))
def Qj:RD:=λc a b=>∃ C,a=[nK C,.l ((nP C).map D.str)]/\GCq C/\b (.o (.l ((pA C false).map ln)))
theorem LJ (C:Cel):oR C false=(nP C).map tx:=by
 unfold oR;rw[aJ (by decide),cZ]
theorem HM {n:Nat}(h:n<=6):pI [D.int 1,.int 2,.int 4,.int 8,.int 16,.int 32,.int 64] (n:Int)=some (.int (2 ^ n:Nat)):=by
 rcases n with _ | _ | _ | _ | _ | _ | _ | n
 .rfl
 .rfl
 .rfl
 .rfl
 .rfl
 .rfl
 .rfl
 .omega
theorem CY:(["thing","known"]:Aa Af).Nodup:=by decide +kernel
section
variable {P:Ah}{K:nH}
theorem C6:FnScope ["cell","things","rows","number","known","thing"] ["cell","things"] (oB Gx):=pU
theorem HP (T:Txt r) (g:Kn P w K r base 2 "_law_all_bits" Gq ["cell","bits"] Pd) (p:Kn P w K r base 1 "_law_bits" Hq ["names","number"] Ol) :
  pZ P w K r base 3 "_law_worths" Gx ["cell","things"] Qj:=by
 refine qI C6 λf I A S s H E dk ds Φ X c hR=>?_
 obtain⟨C,rfl,y,Q⟩:=hR;refine⟨_,(hO (oE 2 C6.nd (sG hH)) (hO (qX (At (by rfl) T.range (qQ Zt JV nI nI)) (nT 3 C6.nd) (nQ (pL (rA Ue Tp (pv 3) (xO c (sG (eH nI (eH nI (eH nI (eH nI (eH nI (eH nI (eH nI hH)))))))) (pG vY vV T.len cE (eH (oA c 0 nI) hH)))) (hO (oE 4 C6.nd (pJ g X (eH (cN 0) (eH (pJ p X (eH (oA c 0 nI) (eH (cN 3) hH))) hH)))) (hO (vB (n:=4) c nI (pv 4) rX) (hO (qX (oU (cN 1)) (nT 5 C6.nd) (nQ (pL (yP (pG (Aw K) (Bt (K:=K)) T.isinstance eA (eH (cN 5) (eH (Bg (by rfl) T.tuple eN) hH)))) (nQ (vB (n:=4) c (qQ Lv Ix (oA c 4 (oA c 5 nI)) (oA c 4 (oA c 5 nI))) (pv 4) (cN 5))) pN))) (nQ (yT (Bk bZ cR cS wA Fe (pv 2) (eH (qP ["thing"] ["known"] [4] (oU (cN 1)) (λ_ _ _ _ _=>(nT 0 CY)) (λ_ _ _ _ _=>(oA c 1 (cN 0)))) hH))))))) pN))) (nQ (oJ (wY 2 (pv 2)))))),?_⟩;have G:=y.li;have hm:=zZ (pr:=false) y.li y.lo;rw[Cu] at hm;refine nO (λb=>b=[.v (nK C),.v (.l ((nP C).map D.str)),.o (.l []),.n,.n,.n]) (λN m=>⟨by show 0<=1000;decide,m _ rfl⟩) ?_;rintro _ rfl;refine nO (λb=>∃ B u a,b=[.v (nK C),.v (.l ((nP C).map D.str)),.o (.l ((pA C false).map ln)),B,u,a]) (λN m=>?_) ?_
 .refine qK (sW 0 64) [.v (nK C),.v (.l ((nP C).map D.str)),.o (.l []),.n,.n,.n] (λZ h=>?_)
   (λi b=>∃ B u a,b=[.v (nK C),.v (.l ((nP C).map D.str)),.o (.l (((pA C false).take i).map ln)),B,u,a]) ⟨_,_,_,rfl⟩ ?_ ?_
  .exact⟨⟨by decide,by decide,by decide⟩,by decide,by decide,h⟩
  .rintro i d _ hd ⟨B,u,a,rfl⟩;obtain⟨W,rfl⟩:=Nc hd;have wl:(pA C false).length=2 ^ C.ins.length:=by unfold pA;rw[List.length_map,List.length_range]
   have J:pI [D.int 1,.int 2,.int 4,.int 8,.int 16,.int 32,.int 64] (C.ins.length:Int)=some (.int (2 ^ C.ins.length:Nat)):=HM G;rw[lZ];refine⟨rfl,by show 7<=1000;decide,rfl,_,rfl,rfl,C.ins.length,by show some (C.ins.map D.str).length=_;rw[aA],_,J,?_⟩;refine Ht (λh=>?_) λh=>?_
   .have F:i<2 ^ C.ins.length:=by omega
    have hb:=Ow _ G i F;refine nO (λb=>∃ q:Aa (gV×D),rJ q C.names (rR C (look (C.ins.zip (sC C.ins.length i))))/\q.length<=200/\b=[.v (nK C),.v (.l ((nP C).map D.str)),.o (.l (((pA C false).take i).map ln)),.v (.int (i:Nat)),.o (.k q),a]) (λN m=>?_) ?_
    .refine⟨rfl,_,rfl,C.ins,i,rfl,(bU.mp y.gc.nd).1,G,λR U l0=>⟨.inl rfl,?_⟩⟩;exact⟨C,R,_,rfl,y.gc,U,λq L M=>⟨.inl rfl,m _ ⟨q,L,M,rfl⟩⟩⟩
    rintro _ ⟨q,O,aa,rfl⟩;refine nO (λb=>∃ q:Aa (gV×D),(∀ x:Af,x = "" \/ x∈C.ins++C.outs->nU q (Sum.inr x)=some (.int (uB C (sC C.ins.length i) x)))/\b=[.v (nK C),.v (.l ((nP C).map D.str)),.o (.l (((pA C false).take i).map ln)),.v (.int (i:Nat)),.o (.k q),a]) (λN m=>?_) ?_
    .refine⟨rfl,_,Ap (by omega),m _ ⟨_,λx Y=>?_,rfl⟩⟩;rw[B7];unfold uB;by_cases e:x = ""
     .rw[aP (by rw[e]),aP e]
     .rw[aJ (λz=>e (iB z).symm),aJ e];refine (O x ?_).1;rcases aT.mp (Y.resolve_left e) with h | h
      .exact bK _ h
      .exact y.gc.os x h
    rintro _ ⟨t,hk,rfl⟩;refine nO (λb=>∃ a,b=[.v (nK C),.v (.l ((nP C).map D.str)),.o (.l (((pA C false).take i).map ln)),.v (.int (i:Nat)),.o (.k t),a]) (λN m=>?_) ?_
    .refine qK ((nP C).map D.str) _ (λZ h=>h) (λj b=>∃ a,b=[.v (nK C),.v (.l ((nP C).map D.str)),.o (.l (((pA C false).take i).map ln)),.v (.int (i:Nat)),.o (.k t),a]) ⟨_,rfl⟩ ?_ λab h=>m _ h
     rintro j d _ hd ⟨a,rfl⟩;obtain⟨x,Y,rfl⟩:=qV hd;exact⟨"str",false,rfl,rfl,rfl,_,rfl,.v (.str x),rfl⟩
    rintro _ ⟨V,rfl⟩;refine⟨rfl,?_⟩;refine rF (nP C) D.str (λx=>.int (uB C (sC C.ins.length i) x)) _ (λZ h=>h) (by omega) (λj x ys Nx e L M=>?_) ?_
    .have:x = "" \/ x∈C.ins++C.outs:=by
      rcases aI.mp (aL e) with h | h
      .exact .inl h
      .refine .inr ?_;rcases aT.mp h with h | h
       .exact bK _ h
       .exact bJ _ (bR.mp h).1
     refine⟨rfl,.int (uB C (sC C.ins.length i) x),?_,L,M⟩;show some (nU t (Sum.inr x))=_;rw[hk x this]
    .have tk:((pA C false).take (i+1)).map ln=((pA C false).take i).map ln++[.l ((nP C).map λx=>.int (uB C (sC C.ins.length i) x))]:=by
      have:(pA C false)[i]?=some ((oR C false).map (tv (uB C (sC C.ins.length i)))):=by unfold pA;rw[List.getElem?_map,List.getElem?_range F];rfl
      rw[bQ,this,bE,LJ];show _++[D.l (((nP C).map tx |>.map (tv (uB C (sC C.ins.length i)))).map D.int)]=_;rw[bA,bA];rfl
     refine⟨?_,.v (.int (i:Nat)),.o (.k t),V,?_⟩
     .show (List.map ln _).length<100000;rw[aA,bN];omega
     .rw[tk];rfl
   .refine⟨.v (.int (i:Nat)),u,a,?_⟩;rw[bI (by omega),bI (by omega)];rfl
  .rintro _ ⟨B,u,a,rfl⟩;have wl:(pA C false).length=2 ^ C.ins.length:=by unfold pA;rw[List.length_map,List.length_range]
   have:=Dv G;rw[bI (by rw[show (sW 0 64).length=64 from rfl];omega)];exact m _ ⟨_,_,_,rfl⟩
 rintro _ ⟨B,u,a,rfl⟩;exact Q
end
end Lw
namespace EQ
theorem Fh {s:Nat}(a b:Int):∀ (c d:Aa Int) (V:Aa (Nat->Int)),c.length=d.length->cb (List.zipWith (λx y=>a*x-b*y) c d) V s=a*cb c V s-b*cb d V s
 | [],[],_,_=>by simp[cb]
 | _::_,_::_,[],_=>by simp[cb]
 | x::c,y::d,v::V,h=>by
  simp only[lL,cb];rw[Fh a b c d V (by simpa using h),nG,jJ,jJ,dJ,dJ];omega
theorem J5 {s:Nat}:∀ (c:Aa Int) (V:Aa (Nat->Int)),(∀ x∈c,x=0)->cb c V s=0
 | [],_,_=>by simp[cb]
 | _::_,[],_=>by simp[cb]
 | x::c,v::V,h=>by
  simp only[cb];rw[h x (by simp),J5 c V λy a=>h y (by simp[a])];simp
structure LInv (left:List (List Int)) (t:List (List Int)) (Z:List Nat):Prop where
 len:t.length=Z.length
 bit:∀ x∈t,Bit x
 ind:∀ c:List Int,c.length=t.length->(∀ z∈Z,cb c (t.map ix) z=0)->∀ x∈c,x=0
 zer:∀ r∈left,∀ z∈Z,ix r z=0
 prm:∀ r∈left,vN r
 frm:∀ r∈left,∃ v,Bit v/\∃ (D a:Int) (b:List Int),D≠0/\a≠0/\b.length=t.length/\∀ s,D*ix r s=a*ix v s+cb b (t.map ix) s
theorem LInv.small {left t:Aa (Aa Int)}{Z:Aa Nat}(L:LInv left t Z){r:Aa Int}(g:r∈left){M:Nat}(j:t.length<M):Le (M*M ^ M) r:=by
 rcases L.prm r g with g1 | I
 case inr=>exact .of_ix λs=>by rw[I s];exact cG _
 obtain⟨v,o,D,a,b,O,P,bl,Y⟩:=L.frm r g;have G:∀ x∈v::t,Bit x:=λx d=>by
  cases d with
  | head=>exact o
  | tail _ d=>exact L.bit x d
 have f:((v::t).map λb s=>(ix b s).toNat).length=t.length+1:=by rw[aA];rfl
 obtain⟨c,cl,⟨x,d,n⟩,Q,B⟩:=EQ.small (V:=(v::t).map λb s=>(ix b s).toNat) (Z:=Z) (N:=M ^ M)
  (λu F z _=>by
   obtain⟨y,m,rfl⟩:=aM.mp F;show (ix y z).toNat<=1;rcases (G y m).ix z with e | e<;>rw[e]<;>decide)
  (by rw[f,<- L.len];exact Oo (k:=t.length+1) j (nA _))
 have W:(((v::t).map λb s=>(ix b s).toNat).map λv s=>(v s:Int))=(v::t).map ix:=by
  rw[bA];exact gX λy m=>by
   funext s
   show (((ix y s).toNat:Nat):Int)=ix y s;rcases (G y m).ix s with e | e<;>rw[e]<;>rfl
 rw[W] at B;rw[f] at cl;have K:∀ s,(cb c ((v::t).map ix) s).natAbs<=M*M ^ M:=λs=>by
  have:=Ij (z:=s) (N:=M ^ M) c ((v::t).map ix) Q λu F=>by
   obtain⟨y,m,rfl⟩:=aM.mp F;rcases (G y m).ix s with e | e<;>rw[e]<;>decide
  rw[aA,bY] at this;exact bF this (iP _ j)
 cases c with
 | nil=>cases d
 | cons q c =>
 have h:c.length=t.length:=by simpa using cl
 simp only[aN,cb] at B K;have C:q≠0:=λe=>by
  have X:=L.ind c h λz E=>by have:=B z E;rw[e,fX,lZ] at this;exact this
  cases d with
  | head=>exact n e
  | tail _ d=>exact n (X x d)
 have key:∀ s,a*(q*ix v s+cb c (t.map ix) s)=q*D*ix r s:=λs=>by
  have A:=λs=>Fh (s:=s) a q c b (t.map ix) (h.trans bl.symm)
  have expand:∀ s,a*cb c (t.map ix) s-q*cb b (t.map ix) s=a*(q*ix v s+cb c (t.map ix) s)-q*D*ix r s:=λs=>by
   rw[dJ q D,Y s,jJ,jJ,eM a q];omega
  have z:=L.ind (List.zipWith (λx y=>a*x-q*y) c b) (by rw[eK,h,bl,mB]) λz E=>by
   rw[A,expand,B z E,L.zer r g z E];simp
  have S:=A s;rw[J5 _ _ z,expand] at S;omega
 have R:a ∣ q*D:=by
  have d1:a.natAbs ∣ gc (r.map (q*D*·)):=Fg λy m=>by
   obtain⟨w,hw,rfl⟩:=aM.mp m;obtain⟨i,l,rfl⟩:=iU.mp hw;have e:ix r i=r[i]:=by unfold ix;rw[List.getD_eq_getElem?_getD,List.getElem?_eq_getElem l];rfl
   rw[<- e,<- key i];exact mR (Int.natAbs_dvd.mpr (Int.dvd_refl _)) (mO _ _)
  rw[T2,g1,Nat.mul_one] at d1;exact gH.mp d1
 obtain⟨p,H⟩:=R;have J:p≠0:=λe=>gC C O (by rw[H,e,cC])
 refine .of_ix λs=>?_
 have e:q*ix v s+cb c (t.map ix) s=p*ix r s:=by
  have:=key s;rw[H,dJ] at this;exact jY P this
 have:=K s;rw[e,eP] at this;exact bF (jN _ (by omega)) this
theorem LInv.nil {rows:Aa (Aa Int)}(h:∀ r∈rows,Bit r):LInv rows [] []:=by
 refine⟨rfl,λ_ h=>(nomatch h),λc b _ x d=>?_,λ_ _ _ h=>(nomatch h),λr a=>(h r a).prm,λr a=>⟨r,h r a,1,1,[],by decide,by decide,rfl,λs=>by simp[cb]⟩⟩;cases c with
 | nil=>cases d
 | cons _ _=>cases b
theorem LInv.step {m k n:Nat}{left t:Aa (Aa Int)}{Z:Aa Nat}(L:LInv left t Z) (hm:∀ r∈left,r.length=m):∃ t' Z',t'.length<=t.length+1/\LInv (rk1 k (left,n)).1 t' Z':=by
 unfold rk1;cases hf:left.filter (λr=>decide (ix r k≠0)) with
 | nil=>exact⟨t,Z,jI _,L⟩
 | cons head tl =>
  have K:head∈left.filter (λr=>decide (ix r k≠0)):=hf▸aF;have j:=(bR.mp K).1;have h0:ix head k≠0:=by simpa using (bR.mp K).2
  have len:∀ r∈left,r.length=head.length:=λr A=>(hm r A).trans (hm head j).symm
  have I:∀ r∈told head k left,∃ x∈left,0<gc (off head k x)/\r=(off head k x).map (·/(gc (off head k x):Int)):=λr A=>by
   obtain⟨y,B,rfl⟩:=aM.mp A;obtain⟨B,V⟩:=bR.mp B;obtain⟨x,d,rfl⟩:=aM.mp B;exact⟨x,d,by simpa using V,rfl⟩
  obtain⟨J,C,i,O,S,N,aa,q,W⟩:=L.frm head j;refine⟨t++[J],Z++[k],by rw[aZ];exact aU _,⟨by rw[aZ,aZ,L.len];rfl,λx d=>?_,λc o M=>?_,λr A z M=>?_,λr A=>?_,λr A=>?_⟩⟩
  .rcases aT.mp d with d | d
   .exact L.bit x d
   .rw[aO.mp d];exact C
  .have Y:c≠[]:=λe=>by rw[e,aZ] at o;simp at o
   obtain⟨E,x,rfl⟩:∃ E x,c=E++[x]:=⟨c.dropLast,c.getLast Y,(lX Y).symm⟩;have w:E.length=t.length:=by simpa using o
   have g:∀ z∈Z++[k],cb E (t.map ix) z+x*ix J z=0:=λz h=>by
    have:=M z h;rw[bE,jM,Fl _ _ (by rw[w,aA])] at this;exact this
   have F:∀ z∈Z++[k],cb (List.zipWith (λu y=>O*u-x*y) E S) (t.map ix) z = -(x*(i*ix head z)):=λz f=>by
    rw[Fh O x E S _ (w.trans q.symm),W z,jJ];have:=cL (O*·) (g z f);simp only[jJ,cC] at this;rw[eM O x] at this;omega
   have zz:=L.ind (List.zipWith (λu y=>O*u-x*y) E S) (by rw[eK,w,q,mB]) λz f=>by
    rw[F z (bK _ f),L.zer head j z f];simp
   have x0:x=0:=by
    have:=F k (by simp);rw[J5 _ _ zz] at this;have e:x*(i*ix head k)=0:=by omega
    exact (cP.mp e).resolve_right (gC N h0)
   intro y B;rcases aT.mp B with B | B
   .refine L.ind E w (λz f=>?_) y B;have:=g z (bK _ f);rw[x0,fX,Int.add_zero] at this;exact this
   .rw[aO.mp B];exact x0
  .obtain⟨x,d,V,rfl⟩:=I r A;have e:ix (off head k x) z=0:=by
    rw[E6 (len x d)];rcases aT.mp M with M | M
    .rw[L.zer x d z M,L.zer head j z M];simp
    .rw[aO.mp M,iT];exact mY _
   have:=Fj V z;rw[e] at this;exact (cP.mp this).resolve_left (by omega)
  .obtain⟨x,d,V,rfl⟩:=I r A;have:=L8 (l:=off head k x) (by omega);unfold wd at this;rw[jF (by omega)] at this;exact .inl this
  .obtain⟨x,d,V,rfl⟩:=I r A;obtain⟨v,hv,D,a,b,D0,a0,bl,hb⟩:=L.frm x d;refine⟨v,hv,gc (off head k x)*(D*i),ix head k*i*a,List.zipWith (λu y=>ix head k*i*u-ix x k*D*y) b S++[-(ix x k*D*O)],gC (by omega) (gC D0 N),gC (gC h0 N) a0,by simp[bl,q],λs=>?_⟩;rw[bE,jM,Fl _ _ (by simp[bl,q]),Fh _ _ b S _ (bl.trans q.symm)];have U:=Fj V s;rw[E6 (len x d)] at U;have e2:=hb s;have e3:=W s;generalize ix ((off head k x).map (·/(gc (off head k x):Int))) s=R at *;generalize (gc (off head k x):Int)=G at *;generalize ix head k=H at *;generalize ix x k=X at *;generalize ix x s=T at *;generalize ix head s=p at *;generalize ix v s=vs at *;generalize ix J s=ws at *;generalize cb b (t.map ix) s=P at *;generalize cb S (t.map ix) s=Q at *;have f1:G*(D*i)*R=D*i*(H*T-X*p):=by rw[<- U];simp only[iT,eM]
   have f2:D*i*(H*T-X*p)=H*i*(D*T)-X*D*(i*p):=by rw[Int.mul_sub];simp only[iT,eM]
   rw[f1,f2,e2,e3,jJ,jJ,mN,dJ (H*i) a,dJ (X*D) O];omega
end EQ
namespace Lw
open PySem L2
def CR:Nat:=2 ^ 150
theorem CV {m:Nat}(h:m<=28):(m+1)*(m+1) ^ (m+1)<=CR:=by
 have:∀ m≤28,(m+1)*(m+1) ^ (m+1)<=CR:=by decide +kernel
 exact this m h
theorem BY:CR<BM:=by decide +kernel
theorem Zx:2*CR*CR<BD:=by decide +kernel
abbrev tF (rows:Aa (Aa Int)) (k:Nat):Aa (Aa Int)×Nat:=(List.range k).foldl (λst k=>EQ.rk1 k st) (rows,0)
theorem DR {m:Nat}{rows:Aa (Aa Int)}(g:m<=28) (h:∀ r∈rows,r.length=m/\EQ.Bit r):∀ k,k<=m->(∀ r∈(tF rows k).1,r.length=m)/\(∃ t Z,t.length<=k/\EQ.LInv (tF rows k).1 t Z)/\∀ r∈(tF rows k).1,EQ.Le CR r:=by
 have len:∀ k,∀ r∈(tF rows k).1,r.length=m:=λk=>by
  obtain⟨P,I,_⟩:=EQ.rank_inv (m:=m) (K:=λw=>∀ r∈rows,EQ.dot m r w=0) (λr a=>(h r a).1) (λ_=>Iff.rfl) k;exact I.len
 have b:∀ k,∃ t Z,t.length<=k/\EQ.LInv (tF rows k).1 t Z:=λk=>by
  induction k with
  | zero=>exact⟨[],[],aU _,EQ.LInv.nil λr a=>(h r a).2⟩
  | succ k q =>
   obtain⟨t,Z,f,L⟩:=q;obtain⟨s,d,i,c⟩:=L.step (k:=k) (n:=(tF rows k).2) (len k);refine⟨s,d,by omega,?_⟩;have e:tF rows (k+1)=EQ.rk1 k (tF rows k):=by
    show (List.range (k+1)).foldl _ _=_;rw[nE,eL];rfl
   rw[e];exact c
 intro k hk;refine⟨len k,b k,λr a=>?_⟩;obtain⟨t,Z,f,L⟩:=b k;exact (L.small a (M:=m+1) (by omega)).mono (CV g)
theorem Q1 (head:Aa Int) (k:Nat) (left:Aa (Aa Int)):(EQ.told head k left).length<=left.length:=by
 unfold EQ.told;rw[aA];refine bF (cW _ _) ?_;rw[aA];exact aU _
theorem EB (k:Nat) (st:Aa (Aa Int)×Nat):(EQ.rk1 k st).1.length<=st.1.length:=by
 unfold EQ.rk1;cases st.1.filter λr=>decide (EQ.ix r k≠0) with
 | nil=>exact aU _
 | cons h _=>exact Q1 h k st.1
theorem Sk (rows:Aa (Aa Int)) (k:Nat):tF rows (k+1)=EQ.rk1 k (tF rows k):=by
 show (List.range (k+1)).foldl _ _=_;rw[nE,eL];rfl
theorem Ra (rows:Aa (Aa Int)):∀ k,(tF rows k).1.length<=rows.length
 | 0=>aU _
 | k+1=>by rw[Sk];exact bF (EB k _) (Ra rows k)
theorem En {r:Aa Ad}{g:Aa Sl}{i:Nat}{s:Sl}{d:D}{p:Sl->Aa Sl->Prop}(h:g[i]?=some s) (l:sd s=some d) (k:p (.v d) (g.set i (.v d))):vd i r g p:=by
 unfold vd;rw[h];cases s with
 | n=>cases l
 | o c=>cases l;exact k
 | v c =>
  cases l;have:g.set i (.v d)=g:=by
   apply gS;intro j;rw[fW];by_cases z:i=j
   .subst z;rw[aP rfl,aP (aG.mp h).1];exact h.symm
   .rw[aJ z]
  rw[this] at k;exact k
theorem EN {p:Aa Ad}{g:Aa Sl}{i:Nat}{s:Sl}{j:Aa D}{o:Bool->Aa Sl->Prop}(h:g[i]?=some s) (r:sd s=some (.l j)) (k:o (!j.isEmpty) g):vC (xE (Gm true) i (N2 Om)) p g o:=by
 have e:at? g i=some (.l j):=by unfold at?;rw[h];exact r
 refine⟨by rw[e];rfl,by show 0<=1000;decide,?_⟩;dsimp only[sd];rw[e];exact k
abbrev wF (head:Aa Int) (k:Nat) (left:Aa (Aa Int)) (i:Nat):Aa (Aa Int):=EQ.told head k (left.take i)
theorem HX {head:Aa Int}{k:Nat}{left:Aa (Aa Int)}{i:Nat}{r:Aa Int}(h:left[i]?=some r):wF head k left (i+1)=wF head k left i++(if 0<EQ.gc (EQ.off head k r) then [(EQ.off head k r).map (·/(EQ.gc (EQ.off head k r):Int))] else []):=by
 unfold wF EQ.told;rw[bQ,h,bE,mF,bE]
 congr 1
 show List.map _ (List.filter _ [EQ.off head k r])=_;by_cases q:0<EQ.gc (EQ.off head k r)
 .rw[aP q,fL (by simpa using q)];rfl
 .rw[aJ q,gQ (by simpa using q)];rfl
def Pp:RD:=λc a b=>∃ (rows:Aa (Aa Int)) (m:Nat),a=[.l (rows.map ln),.int m]/\rows.length<=64/\m<=28/\(∀ r∈rows,r.length=m/\EQ.Bit r)/\b (.v (.int (EQ.rank m rows:Nat)))
theorem EK:(["row"]:Aa Af).Nodup:=by decide +kernel
theorem GS:(["row","at"]:Aa Af).Nodup:=by decide +kernel
theorem M6:(["one","other","head","at","row"]:Aa Af).Nodup:=by decide +kernel
theorem EX:(["number","by"]:Aa Af).Nodup:=by decide +kernel
section
variable {P:Ah}{K:nH}
theorem uD:FnScope ["rows","many","left","rank","at","some","head","told","row","by"] ["rows","many"] (oB Gj):=pU
theorem MU (T:Txt mg) (g:Kn P w K mg base 1 "_law_divisor" A5 ["row"] Bl):pZ P w K mg base 2 "_law_rank" Gj ["rows","many"] Pp:=by
 refine qI uD λf ae A ac s H E dk ds Φ V I hR=>?_
 obtain⟨rows,m,rfl,hl,C,X,ab⟩:=hR;refine⟨_,(hO (Fa 2 ["row"] [] [] uD.nd (oU (cN 0)) (λ_ _ _ _ _=>(nT 0 EK)) (λ_ _ _ _ _=>(uI Dx Ka T.list fY (eH (cN 0) hH)))) (hO (oE 3 uD.nd nI) (hO (qX (At (by rfl) T.range (cN 1)) (nT 4 uD.nd) (hO (Fa 5 ["row"] ["at"] [4] uD.nd (oU (cN 2)) (λ_ _ _ _ _=>(nT 0 GS)) (λ_ _ _ _ _=>(cN 0)) (ht:=λ_ _ _ _ _=>(vS (tL (uA V.units) (pK true) (oA I 0 (cN 1)) nI)))) (nQ (pL (rA (uA V.units) (pK true) (pv 5) (sG hH)) (hO (oE 6 uD.nd (oA I 5 nI)) (hO (oE 3 uD.nd (sX uR uG 3 nI)) (hO (oE 7 uD.nd (sG hH)) (hO (qX (oU (cN 2)) (nT 8 uD.nd) (hO (oE 8 uD.nd (qP ["one","other"] ["head","at","row"] [6,4,8] (Iy (by rfl) T.zip (eH (cN 8) (eH (cN 6) hH))) (λ_ _ _ _ _=>(xZ (n:=2) rfl (rO (nT 0 M6) (rO (nT 1 M6) yG)))) (λ_ _ _ _ _=>(qQ A7 Hj (qQ zR yQ (oA I 2 (cN 3)) (cN 0)) (qQ zR yQ (oA I 4 (cN 3)) (cN 1)))))) (hO (oE 9 uD.nd (pJ g V (eH (cN 8) hH))) (nQ (pL (rA Je J6 (pv 9) nI) (nQ (yT (Bk bZ cR cS wA Fe (pv 7) (eH (qP ["number"] ["by"] [9] (oU (cN 8)) (λ_ _ _ _ _=>(nT 0 EX)) (λ_ _ _ _ _=>(sX Hd Gk 0 (cN 1)))) hH)))) pN))))) (nQ (oE 2 uD.nd (cN 7))))))) pN)))) (nQ (oJ (cN 3)))))),?_⟩;refine nO (λa=>a=[.v (.l (rows.map ln)),.v (.int m),.o (.l (rows.map ln)),.n,.n,.n,.n,.n,.n,.n]) (λN c=>?_) ?_
 .unfold rY;exact rF rows ln ln [.v (.l (rows.map ln)),.v (.int m),.n,.n,.n,.n,.n,.n,.n,.n] (λY h=>h) (by omega) (λi x U Z e L M=>⟨_,rfl,L,M⟩) (c _ rfl)
 rintro _ rfl;refine nO (λa=>a=[.v (.l (rows.map ln)),.v (.int m),.o (.l (rows.map ln)),.v (.int 0),.n,.n,.n,.n,.n,.n]) (λN c=>c _ rfl) ?_;rintro _ rfl;refine nO (λa=>∃ Q S B G z u b,a=[.v (.l (rows.map ln)),.v (.int m),Q,.v (.int (EQ.rank m rows:Nat)),S,B,G,z,u,b]) (λN c=>?_) ?_
 .refine qK ((List.range m).map λi=>D.int (i:Nat)) [.v (.l (rows.map ln)),.v (.int m),.o (.l (rows.map ln)),.v (.int 0),.n,.n,.n,.n,.n,.n] (λY h=>?_)
   (λk a=>∃ Q S B G z u b,a=[.v (.l (rows.map ln)),.v (.int m),Q,.v (.int ((tF rows k).2:Nat)),S,B,G,z,u,b]/\sd Q=some (.l ((tF rows k).1.map ln))) ⟨_,_,_,_,_,_,_,rfl,rfl⟩ ?_ ?_
  .refine⟨by omega,by omega,?_⟩;rw[cD,Hw];exact h
  .rintro k d _ hd ⟨Q,S,B,G,z,u,b,rfl,hs⟩;obtain⟨j,hj,rfl⟩:=qV hd;have hk:k<m:=by
    have:=(aG.mp hj).1
    rwa [cA] at this
   rw[kF hk] at hj;cases hj;obtain⟨len,_,small⟩:=DR C X k (eT hk);have ll:=Ra rows k;rw[Sk];generalize tF rows k=st at *;obtain⟨left,n⟩:=st;dsimp only at len small ll hs;have J:∀ r∈left,A4 r:=λr V x hx=>bH (small r V x hx) BY
   refine nO (λa=>a=[.v (.l (rows.map ln)),.v (.int m),.v (.l (left.map ln)),.v (.int (n:Nat)),.v (.int (k:Nat)),.o (.l ((left.filter λr=>decide (EQ.ix r k≠0)).map ln)),G,z,u,b]) (λN c=>?_) ?_
   .unfold rY;refine uW left ln ln (λr=>decide (EQ.ix r k≠0)) [.v (.l (rows.map ln)),.v (.int m),.v (.l (left.map ln)),.v (.int (n:Nat)),.v (.int (k:Nat)),B,G,z,u,b] (λY h=>En (d:=.l (left.map ln)) (by rfl) hs h) (by omega) (λi x U Z e L M h3=>?_) (c _ rfl);refine⟨rfl,_,uP (by rw[len x (aL e)];exact hk),xC (λh=>⟨L,M (by simpa using h)⟩) λh=>h3 (by simpa using h)⟩
   rintro _ rfl;unfold zE;refine EN (by rfl) rfl ?_;unfold EQ.rk1;dsimp only;cases hf:left.filter (λr=>decide (EQ.ix r k≠0)) with
   | nil=>rw[aJ (by decide)];exact⟨_,_,_,_,_,_,_,rfl,rfl⟩
   | cons head tl =>
    rw[aP (show (!((head::tl).map ln).isEmpty)=true from rfl)];have O:head∈left:=by
     have:head∈left.filter λr=>decide (EQ.ix r k≠0):=by rw[hf];exact aF
     exact (bR.mp this).1
    refine nO (λa=>∃ B,a=[.v (.l (rows.map ln)),.v (.int m),.v (.l (left.map ln)),.v (.int (n:Nat)),.v (.int (k:Nat)),B,.v (ln head),z,u,b]) (λN c=>⟨rfl,_,yD (j:=0) rfl,c _ ⟨_,rfl⟩⟩) ?_;rintro _ ⟨q,rfl⟩;refine nO (λa=>a=[.v (.l (rows.map ln)),.v (.int m),.v (.l (left.map ln)),.v (.int ((n+1:Nat):Int)),.v (.int (k:Nat)),q,.v (ln head),z,u,b]) (λN c=>⟨rfl,c _ rfl⟩) ?_;rintro _ rfl;refine nO (λa=>a=[.v (.l (rows.map ln)),.v (.int m),.v (.l (left.map ln)),.v (.int ((n+1:Nat):Int)),.v (.int (k:Nat)),q,.v (ln head),.o (.l []),u,b]) (λN c=>⟨by show 0<=1000;decide,c _ rfl⟩) ?_;rintro _ rfl;refine nO (λa=>∃ u b,a=[.v (.l (rows.map ln)),.v (.int m),.v (.l (left.map ln)),.v (.int ((n+1:Nat):Int)),.v (.int (k:Nat)),q,.v (ln head),.o (.l ((EQ.told head k left).map ln)),u,b]) (λN c=>?_) ?_
    .refine qK (left.map ln) [.v (.l (rows.map ln)),.v (.int m),.v (.l (left.map ln)),.v (.int ((n+1:Nat):Int)),.v (.int (k:Nat)),q,.v (ln head),.o (.l []),u,b] (λY h=>h)
      (λi a=>∃ u b,a=[.v (.l (rows.map ln)),.v (.int m),.v (.l (left.map ln)),.v (.int ((n+1:Nat):Int)),.v (.int (k:Nat)),q,.v (ln head),.o (.l ((wF head k left i).map ln)),u,b]) ⟨_,_,rfl⟩ ?_ ?_
     .rintro i d _ hd ⟨u,b,rfl⟩;obtain⟨r,W,rfl⟩:=qV hd;have y:=aL W;have F:r.length=head.length:=(len r y).trans (len head O).symm;refine nO (λa=>∃ R,a=[.v (.l (rows.map ln)),.v (.int m),.v (.l (left.map ln)),.v (.int ((n+1:Nat):Int)),.v (.int (k:Nat)),q,.v (ln head),.o (.l ((wF head k left i).map ln)),R,b]/\sd R=some (ln (EQ.off head k r))) (λN c=>?_) ?_
      .unfold rY;refine rF (r.zip head) (λp=>.t [.int p.1,.int p.2]) (λp=>.int (EQ.ix head k*p.1-EQ.ix r k*p.2)) [.v (.l (rows.map ln)),.v (.int m),.v (.l (left.map ln)),.v (.int ((n+1:Nat):Int)),.v (.int (k:Nat)),q,.v (ln head),.o (.l ((wF head k left i).map ln)),.v (ln r),b] (λY h=>⟨_,_,_,_,rfl,rfl,by rw[Ig];exact h⟩) (by rw[eS,len r y];omega) (λi x U Z e L M=>?_) (c _ ⟨_,rfl,?_⟩)
       .have C:=gW (aL e);exact⟨rfl,rfl,rfl,_,uP (by rw[len head O];exact hk),⟨J head O _ (EQ.ix_mem (by rw[len head O];exact hk)),J r y _ C.1⟩,rfl,_,uP (by rw[len r y];exact hk),⟨J r y _ (EQ.ix_mem (by rw[len r y];exact hk)),J head O _ C.2⟩,L,M⟩
       .show some (D.l ((r.zip head).map λp=>D.int (EQ.ix head k*p.1-EQ.ix r k*p.2)))=_;have:(r.zip head).map (λp=>D.int (EQ.ix head k*p.1-EQ.ix r k*p.2))=(EQ.off head k r).map D.int:=by
         unfold EQ.off;rw[List.zip,jH,jH]
        rw[this]
      rintro _ ⟨R,rfl,aa⟩;have ol:(EQ.off head k r).length=m:=(EQ.off_len F).trans (len head O);have og:EQ.gc (EQ.off head k r)<BD:=bH (EQ.gc_le (EQ.off_le F (small head O) (small r y))) Zx;rw[HX W];generalize EQ.off head k r=o at *;have fl:(wF head k left i).length<=64:=by
       have:=Q1 head k (left.take i);rw[bN] at this;show (EQ.told head k (left.take i)).length<=64;omega
      refine nO (λa=>a=[.v (.l (rows.map ln)),.v (.int m),.v (.l (left.map ln)),.v (.int ((n+1:Nat):Int)),.v (.int (k:Nat)),q,.v (ln head),.o (.l ((wF head k left i).map ln)),.v (ln o),.v (.int (EQ.gc o:Nat))]) (λN c=>?_) ?_
      .unfold rY zQ aC;refine En (d:=ln o) (by rfl) aa ?_;exact⟨o,rfl,.inl rfl,c _ rfl⟩
      rintro _ rfl;refine⟨rfl,Ht (λh=>?_) λh=>?_⟩
      .have g0:0<EQ.gc o:=by omega
       rw[aP g0];refine⟨rfl,?_⟩;refine rF o D.int (λx=>.int (x/(EQ.gc o:Int))) [.v (.l (rows.map ln)),.v (.int m),.v (.l (left.map ln)),.v (.int ((n+1:Nat):Int)),.v (.int (k:Nat)),q,.v (ln head),.o (.l ((wF head k left i).map ln)),.v (ln o),.v (.int (EQ.gc o:Nat))] (λY h=>h) (by omega) (λi x U Z e L M=>?_) ?_
       .refine⟨rfl,⟨by omega,by rw[iE];exact og⟩,L,?_⟩;show Z (U++[.int (x.fdiv (EQ.gc o:Int))]) _;rw[fU _ (by omega)];exact M
       .refine⟨by show (List.map ln _).length<100000;rw[aA];omega,.v (ln o),.v (.int (EQ.gc o:Nat)),?_⟩;rw[bE];show _=[_,_,_,_,_,_,_,Sl.o (.l (_++[D.l ((o.map (·/(EQ.gc o:Int))).map D.int)])),_,_];rw[bA];rfl
      .rw[aJ (by omega),cZ];exact⟨_,_,rfl⟩
     .rintro _ ⟨u,b,rfl⟩;rw[aA,wF,cM];exact c _ ⟨_,_,rfl⟩
    rintro _ ⟨u,b,rfl⟩;exact⟨_,_,_,_,_,_,_,rfl,rfl⟩
  .rintro _ ⟨Q,S,B,G,z,u,b,rfl,hs⟩;rw[aA,cA];exact c _ ⟨_,_,_,_,_,_,_,rfl⟩
 rintro _ ⟨Q,S,B,G,z,u,b,rfl⟩;exact ab
end
structure Redu (m:Nat) (F:List Nat) (g:Nat->List Int):Prop where
 len:∀ f∈F,(g f).length=m
 first:∀ f∈F,∃ t,((List.range m).filter λs=>decide (EQ.ix (g f) s≠0))=f::t
 pos:∀ f∈F,0<EQ.ix (g f) f
 gc:∀ f∈F,EQ.gc (g f)=1
 alone:∀ f∈F,(F.map g).filter (λo=>decide (EQ.ix o f≠0))=[g f]
 up:F.Pairwise (·<·)
 lt:∀ f∈F,f<m
def Rn:RD:=λe c d=>∃ (a:Aa D) (m:Nat) (F:Aa Nat) (g:Nat->Aa Int),c=[.l a,.l (F.map λf=>ln (g f))]/\a.length=m/\m<=28/\F.length<=28/\Redu m F g/\d (.v (.b true))
theorem Oh {p:Prop} [Decidable p] (h:¬ p){a b:Prop}(g:b):if decide p=true then a else b:=by rw[cF h];exact g
theorem Ii:∀ {g:Aa D},(∀ x∈g,pF x=true)->vK g=true
 | [],_=>rfl
 | x::g,h=>by
  show (pF x&&vK g)=true;rw[h x aF,Ii λy a=>h y (aH _ a)];rfl
theorem Th {n:Nat}:∀ {g:Aa D},(∀ x∈g,(py x).depth<=n)->PyData.depthAll (vW g)<=n
 | [],_=>cG _
 | x::g,h=>Nat.max_le.mpr ⟨h x aF,Th λy a=>h y (aH _ a)⟩
theorem P9 {n:Nat}{g:Aa D}(h:∀ x∈g,(py x).depth<=n):(py (.l g)).depth<=n+1:=by
 show PyData.depthAll (vW g)+1<=n+1;have:=Th h;omega
theorem Xi (r:Aa Int){g:Sl->Prop}(k:g (.v (.b false))):K6 true (.l [ln r]) (.l [ln r]) g:=by
 have l:pF (.l [ln r])=true:=Ii λx a=>by
  rw[aO.mp a];exact Ii λx a=>by obtain⟨_,_,rfl⟩:=aM.mp a;rfl
 have c:(py (.l [ln r])).depth<=60:=bF (P9 (n:=1) λx a=>by
  rw[aO.mp a];exact P9 (n:=0) λx a=>by obtain⟨_,_,rfl⟩:=aM.mp a;exact aU _) (by decide)
 refine⟨l,l,bF (Nat.min_le_left _ _) c,?_⟩;rw[SeqAt.eqv_refl _ (G8 l)];exact k
theorem Wt:(["k","row"]:Aa Af).Nodup:=by decide +kernel
theorem Zg:(["other","first"]:Aa Af).Nodup:=by decide +kernel
section
variable {P:Ah}{K:nH}
theorem Ds:FnScope ["things","rows","last","row","first"] ["things","rows"] (oB Ed):=pU
theorem HJ (T:Txt r) (p:Kn P w K r base 1 "_law_divisor" A5 ["row"] Bl):pZ P w K r base 2 "_law_is_reduced" Ed ["things","rows"] Rn:=by
 refine qI Ds λf I A O s H E dk ds Φ y z hR=>?_
 obtain⟨q,m,F,g,rfl,xl,hm,hF,R,M⟩:=hR;refine⟨_,(hO (oE 2 Ds.nd (Sv nI)) (hO (qX (oU (cN 1)) (nT 3 Ds.nd) (hO (oE 4 Ds.nd (xO z (qP ["k"] ["row"] [3] (At (by rfl) T.range (pG vY vV T.len cE (eH (cN 0) hH))) (λ_ _ _ _ _=>(nT 0 Wt)) (λ_ _ _ _ _=>(cN 0)) (ht:=λ_ _ _ _ _=>(vS (tL (uA y.units) (pK true) (oA z 1 (cN 0)) nI)))) nI)) (hO (pL (Mh (Co (rA FE LC (pv 4) (cN 2)) (Co (tL Ue Tp (oA z 3 (cN 4)) nI) (L4 (tL (uA y.units) (pK true) (pJ p y (eH (cN 3) hH)) nI))))) (nQ (oJ uS)) pN) (hO (pL (tL (Z5 y.units) (Vr true) (qP ["other"] ["first"] [4] (oU (cN 1)) (λ_ _ _ _ _=>(nT 0 Zg)) (λ_ _ _ _ _=>(cN 0)) (ht:=λ_ _ _ _ _=>(vS (tL (uA y.units) (pK true) (oA z 0 (cN 1)) nI)))) (sG (eH (cN 3) hH))) (nQ (oJ uS)) pN) (nQ (oE 2 Ds.nd (cN 4))))))) (nQ (oJ uS)))),?_⟩;refine nO (λb=>b=[.v (.l q),.v (.l (F.map λf=>ln (g f))),.v (.int (-1)),.n,.n]) (λN c=>c _ rfl) ?_;rintro _ rfl;refine nO (λb=>True) (λN c=>?_) ?_
 .refine qK (F.map λf=>ln (g f)) [.v (.l q),.v (.l (F.map λf=>ln (g f))),.v (.int (-1)),.n,.n] (λY h=>h)
   (λi b=>∃ (last:Int) (X Q:Sl),b=[.v (.l q),.v (.l (F.map λf=>ln (g f))),.v (.int last),X,Q]/\∀ f,F[i]?=some f->last<f) ⟨_,_,_,rfl,λf _=>by omega⟩ ?_ λaa _=>c _ trivial
  rintro i d _ hd ⟨last,X,Q,rfl,t⟩;obtain⟨f,G,rfl⟩:=qV hd;have a:=aL G;have S:=R.len f a;obtain⟨tl,ht⟩:=R.first f a
  have V:=R.pos f a;refine nO (λb=>b=[.v (.l q),.v (.l (F.map λf=>ln (g f))),.v (.int last),.v (ln (g f)),.v (.int (f:Nat))]) (λN c=>?_) ?_
  .unfold rY d2;refine uW (List.range m) (λi=>.int (i:Nat)) (λi=>.int (i:Nat)) (λs=>decide (EQ.ix (g f) s≠0)) [.v (.l q),.v (.l (F.map λf=>ln (g f))),.v (.int last),.v (ln (g f)),Q] (λY h=>?_) (by rw[cA];omega) (λi x ys Z e B u D=>?_) ?_
   .refine⟨rfl,m,by show some q.length=_;rw[xl],by omega,by omega,?_⟩;rw[cD,Hw];exact h
   .have hx:x<m:=cB.mp (aL e);refine⟨rfl,_,uP (by rw[S];exact hx),xC (λh=>⟨B,u (by simpa using h)⟩) λh=>D (by simpa using h)⟩
   .rw[ht];exact⟨_,yD (j:=0) rfl,c _ rfl⟩
  rintro _ rfl;have C:=uP (l:=g f) (k:=f) (by rw[S];exact R.lt f a);refine nO (λb=>b=[.v (.l q),.v (.l (F.map λf=>ln (g f))),.v (.int last),.v (ln (g f)),.v (.int (f:Nat))]) (λN c=>?_) ?_
  .refine⟨rfl,?_⟩;have W:=t f G;refine Oh (by omega) ?_;refine⟨rfl,_,C,Oh (by omega) ?_⟩;refine⟨_,rfl,.inl rfl,xC (λh=>?_) λ_=>c _ rfl⟩;rw[R.gc f a] at h;exact absurd rfl h
  rintro _ rfl;refine nO (λb=>b=[.v (.l q),.v (.l (F.map λf=>ln (g f))),.v (.int last),.v (ln (g f)),.v (.int (f:Nat))]) (λN c=>?_) ?_
  .unfold zE vC d2;refine uW F (λf=>ln (g f)) (λf=>ln (g f)) (λo=>decide (EQ.ix (g o) f≠0)) [.v (.l q),.v (.l (F.map λf=>ln (g f))),.v (.int last),.v (ln (g f)),.v (.int (f:Nat))] (λY h=>h) (by omega) (λi x ys Z e B u D=>?_) ?_
   .refine⟨rfl,_,uP (by rw[R.len x (aL e)];exact R.lt f a),xC (λh=>⟨B,u (by simpa using h)⟩) λh=>D (by simpa using h)⟩
   .have J:(F.filter λo=>decide (EQ.ix (g o) f≠0)).map (λf=>ln (g f))=[ln (g f)]:=by
     have:=R.alone f a;rw[List.filter_map] at this;have u:=cL (List.map ln) this;rw[bA] at u;exact u
    rw[J];refine⟨by show 1<=1000;decide,?_⟩;exact Xi (g f) (c _ rfl)
  rintro _ rfl;refine⟨_,_,_,rfl,λU L=>?_⟩;have:f<U:=by
   obtain⟨W,q1⟩:=aG.mp G;obtain⟨l2,q2⟩:=aG.mp L;have:=jZ.mp R.up i (i+1) W l2 (by omega);rw[q1,q2] at this;exact this
  omega
 intro _ _;exact M
end
theorem P8:∀ {g:Aa Af}{j:Aa Int},g.Nodup->g.length=j.length->g.map (look ((g.zip j).filter λp=>p.2 != 0))=j
 | [],[],_,_=>rfl
 | x::g,v::j,i,f=>by
  have a:=bM.mp i;have d:=P8 a.2 (mC f);have b:∀ y∈g,y≠x:=λy c e=>a.1 (e▸c)
  have m:look ((g.zip j).filter λp=>p.2 != 0) x=0:=by
   unfold look;rw[List.find?_eq_none.mpr λp k=>?_];have:=gW (bR.mp k).1;simp;exact b _ this.1
  rw[cV,aN];by_cases h:v=0
  .rw[gQ (by simp[h]),m,h,d]
  .rw[fL (by simpa using h),xS,aP rfl]
   congr 1
   refine Eq.trans (gX λy c=>?_) d;rw[xS,aJ λz=>b y c z.symm]
theorem FA {t:sB}(j:(t.map (·.1)).Nodup){p:Af×Int}(g:p∈t):nU (hL t) (Sum.inr p.1)=some (.int p.2):=by
 induction t with
 | nil=>cases g
 | cons q t b =>
  have a:=bM.mp j;show nU ((Sum.inr q.1,D.int q.2)::hL t) _=_;rw[tS];rcases aI.mp g with rfl | g
  .rw[aP rfl]
  .rw[aJ λz=>a.1 (by show q.1∈_;rw[iB z];exact bV g)];exact b a.2 g
theorem HQ:∀ (a b:Aa Int),a.length=b.length->((a.zip b).map λp=>p.1*p.2).sum=EQ.dot a.length a (EQ.ix b):=by
 intro a;have c:∀ (f:Nat->Int) (n:Nat),EQ.sm f (List.range (n+1))=f 0+EQ.sm (λs=>f (s+1)) (List.range n):=λf n=>by
  rw[List.range_succ_eq_map];show f 0+EQ.sm f ((List.range n).map Nat.succ)=_
  congr 1
  have:∀ l:Aa Nat,EQ.sm f (l.map Nat.succ)=EQ.sm (λs=>f (s+1)) l:=λl=>by
   induction l with
   | nil=>rfl
   | cons x l d=>show f (x+1)+_=f (x+1)+_;rw[d]
  exact this _
 induction a with
 | nil=>intro b _;cases b<;>rfl
 | cons x a d =>
  intro b e;cases b with
  | nil=>cases e
  | cons y b =>
   rw[cV,aN,jR,d b (mC e)];show _=EQ.sm _ (List.range (a.length+1));rw[c];rfl
theorem HG {m:Nat}{KK:(Nat->Int)->Prop}{g:Aa (Nat×Aa Int)}(I:EQ.Inv m KK g) (j:m<=28) (sm:∀ h∈g,EQ.Le CC h.2) (f:Nat):A4 (EQ.shown m g f):=by
 have e:=I.le;have d:(EQ.whole g f 1).natAbs<=CC ^ 28:=by
  have:=EQ.whole_le (f:=f) vA g (a:=1) (A:=1) sm (by decide);rw[Nat.mul_one] at this;exact bF this (iS vA (by omega))
 have i:0<CC ^ 28:=mM vA;have:EQ.Le (CC ^ 28*CC) (EQ.shown m g f):=EQ.Le.wd (Mi d vA g _ sm λx c=>by
  rcases kC c with c | rfl
  .rw[List.eq_of_mem_replicate c];exact cG _
  .exact bF d (Nat.le_mul_of_pos_right _ vA))
 have b:CC ^ 28*CC<BM:=by decide +kernel
 exact λx c=>bH (this x c) b
theorem Gg {C:Cel}{j:Bool}(g:GCq C) (r:Aa Int):r∈pA C j↔r∈wV C j:=by
 unfold pA wV;constructor
 .intro h;obtain⟨n,a,rfl⟩:=aM.mp h;exact aM.mpr ⟨_,Ow _ g.li n (cB.mp a),rfl⟩
 .intro h;obtain⟨b,c,rfl⟩:=aM.mp h;obtain⟨n,a,e⟩:=Yp _ g.li b c;exact aM.mpr ⟨n,cB.mpr a,by rw[e]⟩
theorem Yk {m:Nat}{KK:(Nat->Int)->Prop}{g:Aa (Nat×Aa Int)}(I:EQ.Inv m KK g):Redu m (EQ.firsts m g) (EQ.shown m g):=by
 have s:=λf (a:f∈EQ.firsts m g)=>I.shown (EQ.firsts_mem a).1 (EQ.firsts_mem a).2
 exact⟨λf a=>(s f a).1,λf a=>I.first a,λf a=>(s f a).2.2.2.1,λf a=>(s f a).2.2.1,λf a=>I.alone a,EQ.firsts_up m g,λf a=>(EQ.firsts_mem a).1⟩
end Lw
namespace L2
open PySem PySem.Spec PyProof.Rows
section
variable {X:Cx}
theorem Wk (i:Nat){x:Af}{J U:Pos}{aa tg iter:Expr}{ab:Aa Expr}{j:Scope}{pos:Pos}{ti:nV}{g:vH}{tt:rK}{te:nV}(T o:Aa Af) (I:Aa Nat) (hN:X.N.Nodup) (hi:PD X iter ti) (hg:∀ p l C cl fp,xB (rN X (T++o) j cl C p l fp) T.length tg g)
  (he:∀ p l C cl fp,PD (rN X (T++o) j cl C p l fp) aa te)
  (ht:∀ p l C cl fp,vG (rN X (T++o) j cl C p l fp) ab (sY X.K tt):=by exact λ_ _ _ _ _=>L9) (hc:X.calm=true:=by rfl) (hk:j.kind = .function:=by rfl) (ho:zX X.N X.env.kindOf j T o I=true:=by rfl) (ae:X.N[i]?=some x:=by rfl) (hx:vI X.env.scope x:=by first | exact Or.inl rfl | exact Or.inr rfl) (ac:I.Nodup:=by decide)
  (af:swapsWith (.ListComp aa [⟨tg,iter,ab,0⟩] j pos) (some (.Name x J)) U.line X.env=pure true:=by rfl)
  (hs:∀ x,foldedSetIterable iter X.env x=pure x:=by intro _;rfl)
  (hf:X.fn x=true\/X.env.scope.names.lookup x=some .local:=by first | exact .inl rfl | exact .inr rfl | assumption) :
  tH X (.Assign [.Name x J] (.ListComp aa [⟨tg,iter,ab,0⟩] j pos) U) (rY i (yL T.length I (Hu ti) g tt te)) :=
 (Kx (Kd T o I hN ae hx hc (Ge hi) hk ho hg ht he af hs hf)).mono λd n H b=>b.elim λB k Tm q f hd ht h =>
  Ur (Q:=λv a=>d.nx (n.set i (some v)) a) ac ⟨B,k,Tm,_,f,hd,ht,λr m v a c d1 e=>(h.1 _ _ a (by rw[aY,aY];exact c) (aY ..) (d1.assign c i)).1 e⟩
end
end L2
namespace Lw
open PySem L2
def oV (C:Cel) (f:Nat):Aa Int:=EQ.shown (nP C).length (qH C false) f
def Na:RD:=λd a c=>∃ C,a=[nK C,.l ((nW C).map λf=>.k (hL (nX C f)))]/\GCq C/\c (.v (.b true))
theorem Z2:(["thing","things"]:Aa Af).Nodup:=by decide +kernel
theorem R0:(["thing","weights"]:Aa Af).Nodup:=by decide +kernel
theorem JS:(["one"]:Aa Af).Nodup:=by decide +kernel
theorem To:(["a","b"]:Aa Af).Nodup:=by decide +kernel
section
variable {P:Ah}{K:nH}
theorem xK:FnScope ["cell","found","things","rows","weights","numbers","worths","row","one"] ["cell","found"] (oB Gr):=pU
theorem KO (T:Txt mg) (U:Kn P w K mg base 1 "_law_things" Ff ["cell","pairs"] Fi) (aa:Kn P w K mg base 3 "_law_worths" Gx ["cell","things"] Qj) (J:Kn P w K mg base 1 "_law_divisor" A5 ["row"] Bl)
  (ab:Kn P w K mg base 2 "_law_rank" Gj ["rows","many"] Pp) (g:Kn P w K mg base 2 "_law_is_reduced" Ed ["things","rows"] Rn):pZ P w K mg base 4 "_law_right" Gr ["cell","found"] Na:=by
 refine qI xK λf an A aj s H E dk ds Φ c hu hR=>?_
 obtain⟨C,rfl,y,ai⟩:=hR;refine⟨_,(hO (oE 2 xK.nd (Qq (pJ U c (eH (cN 0) (eH uS hH))))) (hO (pL (Ir (yP (pG (Aw K) (Bt (K:=K)) T.isinstance eA (eH (cN 1) (eH (Bg (by rfl) T.list fY) hH))))) (nQ (oJ uS)) pN) (hO (oE 3 xK.nd (sG hH)) (hO (qX (oU (cN 1)) (nT 4 xK.nd) (hO (pL (Mh (Co (Ir (yP (pG (Aw K) (Bt (K:=K)) T.isinstance eA (eH (cN 4) (eH (Bg (by rfl) T.dict hZ) hH))))) (L4 (tL (uA c.units) (pK true) (Zi ["thing"] ["things"] [2] rfl (cN 4) rfl rfl (λ_ _ _ _ _=>(nT 0 Z2)) (λ_ _ _ _ _=>(vS (Ic (Eu hu) (E8 true) (cN 0) (pv 1)))) (λ_ _ _ _ _=>(cN 0))) (sG hH))))) (nQ (oJ uS)) pN) (hO (Wk 5 ["thing"] ["weights"] [4] xK.nd (cN 4) (λ_ _ _ _ _=>(nT 0 R0)) (λ_ _ _ _ _=>(oA hu 1 (cN 0)))) (hO (pL (tL (uA c.units) (pK true) (qP ["one"] [] [] (oU (cN 5)) (λ_ _ _ _ _=>(nT 0 JS)) (λ_ _ _ _ _=>(cN 0)) (ht:=λ_ _ _ _ _=>(vS (Mh (Co (yP (pG (Aw K) (Bt (K:=K)) T.isinstance eA (eH (cN 0) (eH (Bg (by rfl) T.bool PyProof.Rows.boot_bool) hH)))) (Co (Ir (yP (pG (Aw K) (Bt (K:=K)) T.isinstance eA (eH (cN 0) (eH (Bg (by rfl) T.int iI) hH))))) (L4 (rA (sJ c.units) (pK false) (pv 0) nI)))))))) (sG hH)) (nQ (oJ uS)) pN) (nQ (yT (Bk bZ cR cS wA Fe (pv 3) (eH (qP ["thing"] ["weights"] [4] (oU (cN 2)) (λ_ _ _ _ _=>(nT 0 R0)) (λ_ _ _ _ _=>(DK hu (pv 1) (cN 0) nI))) hH)))))))) (hO (oE 6 xK.nd (pJ aa c (eH (cN 0) (eH (cN 2) hH)))) (hO (qX (oU (cN 3)) (nT 7 xK.nd) (hO (pL (tL (sJ c.units) (pK false) (pJ J c (eH (cN 7) hH)) nI) (nQ (oJ uS)) pN) (nQ (qX (oU (cN 6)) (nT 8 xK.nd) (nQ (pL (tL (uA c.units) (pK true) (pG (Ch rfl) Gp T.sum iG (eH (qP ["a","b"] [] [] (Iy (by rfl) T.zip (eH (cN 8) (eH (cN 7) hH))) (λ_ _ _ _ _=>(xZ (n:=2) rfl (rO (nT 0 To) (rO (nT 1 To) yG)))) (λ_ _ _ _ _=>(sX zR yQ 0 (cN 1)))) hH)) nI) (nQ (oJ uS)) pN)))))) (hO (pL (tL (uA c.units) (pK true) (pG vY vV T.len cE (Bc (pv 3) hH)) (qQ A7 Hj (pG vY vV T.len cE (eH (cN 2) hH)) (pJ ab c (eH (cN 6) (eH (pG vY vV T.len cE (eH (cN 2) hH)) hH))))) (nQ (oJ uS)) pN) (nQ (oJ (pJ g c (eH (cN 2) (Bc (pv 3) hH)))))))))))),?_⟩;have L:=zZ (pr:=false) y.li y.lo;have ah:=Cu C;have ok:=Ku (pr:=false) y;rw[ah] at ok L;obtain⟨I,sm⟩:=EQ.red_ok ok;have ak:∀ h∈qH C false,EQ.Le CC h.2:=λh hh=>(sm h hh).mono (L0 L)
 have fl:(nW C).length=(nP C).length-(qH C false).length:=EQ.firsts_len I;have Rd:=Yk I;have xn:=Kq y;refine nO (λa=>a=[.v (nK C),.v (.l ((nW C).map λf=>.k (hL (nX C f)))),.v (.l ((nP C).map D.str)),.n,.n,.n,.n,.n,.n]) (λN b=>?_) ?_
 .refine⟨C,false,rfl,y.li,y.lo,.inl rfl,_,rfl,b _ ?_⟩;rw[Jt];rfl
 rintro _ rfl;refine nO (λa=>a=[.v (nK C),.v (.l ((nW C).map λf=>.k (hL (nX C f)))),.v (.l ((nP C).map D.str)),.n,.n,.n,.n,.n,.n]) (λN b=>?_) ?_
 .exact⟨"list",true,rfl,rfl,rfl,_,rfl,b _ rfl⟩
 rintro _ rfl;refine nO (λa=>a=[.v (nK C),.v (.l ((nW C).map λf=>.k (hL (nX C f)))),.v (.l ((nP C).map D.str)),.o (.l []),.n,.n,.n,.n,.n]) (λN b=>⟨by show 0<=1000;decide,b _ rfl⟩) ?_;rintro _ rfl;refine nO (λa=>∃ u m,a=[.v (nK C),.v (.l ((nW C).map λf=>.k (hL (nX C f)))),.v (.l ((nP C).map D.str)),.o (.l ((nW C).map λf=>ln (oV C f))),u,m,.n,.n,.n]) (λN b=>?_) ?_
 .refine qK ((nW C).map λf=>.k (hL (nX C f))) [.v (nK C),.v (.l ((nW C).map λf=>.k (hL (nX C f)))),.v (.l ((nP C).map D.str)),.o (.l []),.n,.n,.n,.n,.n] (λG h=>h)
   (λi a=>∃ u m,a=[.v (nK C),.v (.l ((nW C).map λf=>.k (hL (nX C f)))),.v (.l ((nP C).map D.str)),.o (.l (((nW C).take i).map λf=>ln (oV C f))),u,m,.n,.n,.n]) ⟨_,_,rfl⟩ ?_ ?_
  .rintro i d _ hd ⟨u,m,rfl⟩;obtain⟨f,hf,rfl⟩:=qV hd;have Q:=aL hf;have ae:(oV C f).length=(nP C).length:=Rd.len f Q;have tn:((nX C f).map (·.1)).Nodup:=Kg _ xn;have tm:∀ p∈nX C f,p.1∈nP C/\p.2≠0:=λp hp=>by
    have h:=bR.mp hp;exact⟨(gW h.1).1,by simpa using h.2⟩
   have tl:(nX C f).length<=28:=by
    have:=cW (λp:Af×Int=>p.2 != 0) ((nP C).zip (EQ.shown (nP C).length (qH C false) f));rw[eS] at this;show (List.filter _ _).length<=28;omega
   have kk:zP (hL (nX C f))=(nX C f).map λp=>D.str p.1:=by unfold zP hL;rw[List.map_map];rfl
   refine nO (λa=>a=[.v (nK C),.v (.l ((nW C).map λf=>.k (hL (nX C f)))),.v (.l ((nP C).map D.str)),.o (.l (((nW C).take i).map λf=>ln (oV C f))),.v (.k (hL (nX C f))),m,.n,.n,.n]) (λN b=>?_) ?_
   .refine⟨"dict",true,rfl,rfl,rfl,_,rfl,?_⟩;dsimp only[Bool.not_true];rw[aJ (by decide)];unfold vC d2;refine uW (nX C f) (λp=>.str p.1) (λp=>.str p.1) (λ_=>false) [.v (nK C),.v (.l ((nW C).map λf=>.k (hL (nX C f)))),.v (.l ((nP C).map D.str)),.o (.l (((nW C).take i).map λf=>ln (oV C f))),.v (.k (hL (nX C f))),m,.n,.n,.n] (λG h=>?_) (by omega) (λj x ys X e O F h3=>?_) ?_
    .show G (zP (hL (nX C f))) _;rw[kk];exact h
    .refine⟨.str x.1,(nP C).map V.str,rfl,L3 _,?_⟩;rw[Ez,dD (tm x (aL e)).1];exact h3 rfl
    .rw[show (nX C f).filter (λ_=>false)=[] by simp];exact⟨by show 0<=1000;decide,b _ rfl⟩
   rintro _ rfl;refine nO (λa=>a=[.v (nK C),.v (.l ((nW C).map λf=>.k (hL (nX C f)))),.v (.l ((nP C).map D.str)),.o (.l (((nW C).take i).map λf=>ln (oV C f))),.v (.k (hL (nX C f))),.o (.l ((nX C f).map λp:Af×Int=>D.int p.2)),.n,.n,.n]) (λN b=>?_) ?_
   .unfold rY;refine rF (nX C f) (λp=>.str p.1) (λp=>.int p.2) [.v (nK C),.v (.l ((nW C).map λf=>.k (hL (nX C f)))),.v (.l ((nP C).map D.str)),.o (.l (((nW C).take i).map λf=>ln (oV C f))),.v (.k (hL (nX C f))),m,.n,.n,.n] (λG h=>?_) (by omega) (λj x ys X e O F=>?_) (b _ rfl)
    .show G (zP (hL (nX C f))) _;rw[kk];exact h
    .refine⟨rfl,.int x.2,?_,O,F⟩;show some (nU (hL (nX C f)) (Sum.inr x.1))=_;rw[FA tn (aL e)]
   rintro _ rfl;refine nO (λa=>∃ m,a=[.v (nK C),.v (.l ((nW C).map λf=>.k (hL (nX C f)))),.v (.l ((nP C).map D.str)),.o (.l (((nW C).take i).map λf=>ln (oV C f))),.v (.k (hL (nX C f))),m,.n,.n,.n]) (λN b=>?_) ?_
   .unfold zE vC d2;refine uW (nX C f) (λp=>.int p.2) (λp=>.int p.2) (λ_=>false) [.v (nK C),.v (.l ((nW C).map λf=>.k (hL (nX C f)))),.v (.l ((nP C).map D.str)),.o (.l (((nW C).take i).map λf=>ln (oV C f))),.v (.k (hL (nX C f))),.v (.l ((nX C f).map λp:Af×Int=>D.int p.2)),.n,.n,.n] (λG h=>h) (by omega) (λj x ys X e O F h3=>?_) ?_
    .refine⟨"int",false,rfl,rfl,rfl,_,rfl,"int",true,rfl,rfl,rfl,_,rfl,rfl,Ao (λh=>absurd h (tm x (aL e)).2) λh=>h3 rfl⟩
    .rw[show (nX C f).filter (λ_=>false)=[] by simp];exact⟨by show 0<=1000;decide,b _ ⟨_,rfl⟩⟩
   rintro _ ⟨ac,rfl⟩;refine⟨rfl,?_⟩;refine rF (nP C) D.str (λx=>.int (look (nX C f) x)) [.v (nK C),.v (.l ((nW C).map λf=>.k (hL (nX C f)))),.v (.l ((nP C).map D.str)),.o (.l (((nW C).take i).map λf=>ln (oV C f))),.v (.k (hL (nX C f))),ac,.n,.n,.n] (λG h=>h) (by omega) (λj x ys X e O F=>?_) ?_
   .refine⟨rfl,_,rfl,O,?_⟩;show X (ys++[(nU (hL (nX C f)) (Sum.inr x)).getD (D.int 0)]) _;rw[FF];exact F
   .have es:(nP C).map (λx=>D.int (look (nX C f) x))=(oV C f).map D.int:=by
     have:=P8 xn ae.symm;have F:=cL (List.map D.int) this;rw[bA] at F;exact F
    rw[es];have tk:((nW C).take (i+1)).map (λf=>ln (oV C f))=((nW C).take i).map (λf=>ln (oV C f))++[ln (oV C f)]:=by
     rw[bQ,hf,bE];rfl
    refine⟨?_,.v (.k (hL (nX C f))),ac,?_⟩
    .show (List.map _ _).length<100000;rw[aA,bN];omega
    .rw[tk];rfl
  .rintro _ ⟨u,m,rfl⟩;rw[aA,cM];exact b _ ⟨_,_,rfl⟩
 rintro _ ⟨u,m,rfl⟩;refine nO (λa=>a=[.v (nK C),.v (.l ((nW C).map λf=>.k (hL (nX C f)))),.v (.l ((nP C).map D.str)),.o (.l ((nW C).map λf=>ln (oV C f))),u,m,.o (.l ((pA C false).map ln)),.n,.n]) (λN b=>?_) ?_
 .exact⟨C,rfl,y,.inl rfl,b _ rfl⟩
 rintro _ rfl;have S:∀ r∈pA C false,r.length=(nP C).length/\EQ.Bit r:=λr c=>ok r ((Gg y r).mp c)
 have wl:(pA C false).length<=64:=by unfold pA;rw[List.length_map,List.length_range];exact Dv y.li
 refine nO (λa=>∃ B W z,a=[.v (nK C),.v (.l ((nW C).map λf=>.k (hL (nX C f)))),.v (.l ((nP C).map D.str)),.v (.l ((nW C).map λf=>ln (oV C f))),u,m,B,W,z]/\sd B=some (.l ((pA C false).map ln))) (λN b=>?_) ?_
 .refine qK ((nW C).map λf=>ln (oV C f)) [.v (nK C),.v (.l ((nW C).map λf=>.k (hL (nX C f)))),.v (.l ((nP C).map D.str)),.v (.l ((nW C).map λf=>ln (oV C f))),u,m,.o (.l ((pA C false).map ln)),.n,.n] (λG h=>h)
   (λi a=>∃ B W z,a=[.v (nK C),.v (.l ((nW C).map λf=>.k (hL (nX C f)))),.v (.l ((nP C).map D.str)),.v (.l ((nW C).map λf=>ln (oV C f))),u,m,B,W,z]/\sd B=some (.l ((pA C false).map ln))) ⟨_,_,_,rfl,rfl⟩ ?_ λaq h=>b _ h
  rintro i d _ hd ⟨B,W,z,rfl,R⟩;obtain⟨f,hf,rfl⟩:=qV hd;have Q:=aL hf;obtain⟨af,ag⟩:=EQ.firsts_mem Q;obtain⟨sl,sk,sg,_,_,_⟩:=I.shown af ag;refine nO (λa=>a=[.v (nK C),.v (.l ((nW C).map λf=>.k (hL (nX C f)))),.v (.l ((nP C).map D.str)),.v (.l ((nW C).map λf=>ln (oV C f))),u,m,B,.v (ln (oV C f)),z]) (λN b=>?_) ?_
  .refine⟨oV C f,rfl,.inl rfl,Ao (λh=>?_) λ_=>b _ rfl⟩;have:EQ.gc (oV C f)=1:=sg;rw[this] at h;exact absurd h (by decide)
  rintro _ rfl;refine qK ((pA C false).map ln) [.v (nK C),.v (.l ((nW C).map λf=>.k (hL (nX C f)))),.v (.l ((nP C).map D.str)),.v (.l ((nW C).map λf=>ln (oV C f))),u,m,.v (.l ((pA C false).map ln)),.v (ln (oV C f)),z] (λG h=>En (d:=.l ((pA C false).map ln)) (by rfl) R h)
   (λi a=>∃ z,a=[.v (nK C),.v (.l ((nW C).map λf=>.k (hL (nX C f)))),.v (.l ((nP C).map D.str)),.v (.l ((nW C).map λf=>ln (oV C f))),u,m,.v (.l ((pA C false).map ln)),.v (ln (oV C f)),z]) ⟨_,rfl⟩ ?_ ?_
  .rintro j d _ hd ⟨z,rfl⟩;obtain⟨r,c,rfl⟩:=qV hd;have Y:=aL c;obtain⟨M,Z⟩:=S r Y;have sb:A4 (oV C f):=HG I L ak f;unfold gN zE vC d2 dC aC;refine rF (r.zip (oV C f)) (λp=>.t [.int p.1,.int p.2]) (λp=>.int (p.1*p.2)) [.v (nK C),.v (.l ((nW C).map λf=>.k (hL (nX C f)))),.v (.l ((nP C).map D.str)),.v (.l ((nW C).map λf=>ln (oV C f))),u,m,.v (.l ((pA C false).map ln)),.v (ln (oV C f)),.v (ln r)] (λG h=>⟨_,_,_,_,rfl,rfl,by rw[Ig];exact h⟩) (by rw[eS];omega) (λi x ys X e O F=>?_) ?_
   .have L:=gW (aL e);refine⟨rfl,rfl,rfl,⟨?_,sb _ L.2⟩,O,F⟩;have b2:1<BM:=by decide +kernel
    rcases Z x.1 L.1 with q | q<;>rw[q]
    .exact GH
    .exact b2
   .refine⟨(r.zip (oV C f)).map λp=>p.1*p.2,by rw[<- Bf,bA];rfl,xC (λh=>?_) λ_=>⟨_,rfl⟩⟩;rw[HQ r (oV C f) (M.trans sl.symm),M] at h;exact absurd (sk r ((Gg y r).mp Y)) h
  .rintro _ ⟨z,rfl⟩;exact⟨_,_,_,rfl,rfl⟩
 rintro _ ⟨B,W,z,rfl,R⟩;have rk:EQ.rank (nP C).length (pA C false)=(qH C false).length:=EQ.rank_eq (K:=λw=>∀ r∈wV C false,EQ.dot (nP C).length r w=0) (λr c=>(S r c).1) (λw=>⟨λh r c=>h r ((Gg y r).mp c),λh r c=>h r ((Gg y r).mpr c)⟩) I;have ao:(qH C false).length<=(nP C).length:=I.le;refine nO (λa=>∃ B,a=[.v (nK C),.v (.l ((nW C).map λf=>.k (hL (nX C f)))),.v (.l ((nP C).map D.str)),.v (.l ((nW C).map λf=>ln (oV C f))),u,m,B,W,z]) (λN b=>?_) ?_
 .refine⟨rfl,rfl,(nW C).length,by show some ((nW C).map λf=>ln (oV C f)).length=_;rw[aA],rfl,(nP C).length,by show some ((nP C).map D.str).length=_;rw[aA],?_⟩;unfold zQ aC;refine En (d:=.l ((pA C false).map ln)) (by rfl) R ?_;refine⟨rfl,(nP C).length,by show some ((nP C).map D.str).length=_;rw[aA],pA C false,(nP C).length,rfl,wl,L,S,.inl rfl,xC (λh=>?_) λ_=>b _ ⟨_,rfl⟩⟩;rw[rk,fl] at h;exact absurd (by omega) h
 rintro _ ⟨B,rfl⟩;exact⟨rfl,(nP C).map D.str,(nP C).length,nW C,EQ.shown (nP C).length (qH C false),rfl,by rw[aA],L,by omega,Rd,.inr rfl,ai⟩
end
end Lw
namespace L2
open PySem PySem.Spec PyProof.Rows Lw
section
variable {X:Cx}
def DE:R2:=λx y H Q=>∃ (l m:Ad) (a c:Aa V),x = .ref l/\y = .ref m/\H l=some (.l a)/\H m=some (.l c)/\a.length=c.length/\(∀ (i:Nat) p q,a[i]?=some p->c[i]?=some q->Ks H p q)/\Q (.b false) H
theorem Vm (g:X.A.units+64<cLine):nZ X (compareOp .NotEq) DE:=by
 intro z s j H x y v u Q I O P h;obtain⟨l,m,M,N,rfl,rfl,f,n,S,E,k⟩:=h;cases O;cases P;obtain⟨d,B,G,_⟩:=I.list (dT.of (K:=X.K) f);obtain⟨e,D,L,_⟩:=I.list (dT.of (K:=X.K) n);have V:=B.length;have W:=D.length;refine MH G.isList L.isList (by simp;omega) (by omega) (λi x y f n=>?_) ⟨.b false,H,I,rfl,k⟩;have w:d[i]?=some x:=by simpa using f
 have F:e[i]?=some y:=by simpa using n
 have R:i<d.length:=(aG.mp w).1;obtain⟨Y,a,q⟩:=B.get (i:=i) (x:=M[i]'(by omega)) (aE _);obtain⟨Z,c,t⟩:=D.get (i:=i) (x:=N[i]'(by omega)) (aE _);rw[w] at a;cases a;rw[F] at c;cases c;exact (E i _ _ (aE _) (aE _)).now I q t (by rw[Around.in1_units];omega)
inductive Thaws (H0:Hp):Hp->Hp->Prop where
 | refl {H:Hp}:Thaws H0 H H
 | step {H H':Hp} {a:Addr} {o:Obj} {u:HO}:(qT u).isSome=true->H a=some (.frz o u)->(∀ ob v,H0 a≠some (.frz ob v))->Thaws H0 (upd H a u) H'->Thaws H0 H H'
theorem Inv.thaws {g:Aa (Ad×Obj)}{l:St}{H j:Hp}{s:Ae}(t:Thaws X.H₀ H j) (I:Inv X g l H s):Inv X g l j s:=by
 induction t with
 | refl=>exact I
 | step hk b a _ c=>exact c (I.thawed hk b a)
theorem Ye {st:Stmt}{t:TS}(h:PS X st t):PS X st (λD j H=>∃ g,Thaws X.H₀ H g/\t D j g):=λa s j H D I ⟨g,th,q⟩=>h a s j g D (I.thaws th) q
theorem Thaws.keep {j H g:Hp}(t:Thaws j H g){b:Ad}{v:HO}(e:H b=some v) (n:∀ o u,v ≠ .frz o u):g b=some v:=by
 induction t with
 | refl=>exact e
 | @step H g a o u _ c _ _ d =>
  refine d ?_;rw[gD (λz=>?_)]
  .exact e
  .subst z;rw[c] at e;cases e;exact n _ _ rfl
theorem Sy {u:HO}(h:(qT u).isSome=true):∀ o v,u ≠ .frz o v:=λo v e=>by subst e;cases h
theorem Jv {H0:Hp}:∀ (as:Aa Ad) (j:Aa HO) (H:Hp),Paired (λa u=>Rd H a u) as j->(∀ u∈j,(qT u).isSome=true)->(∀ a∈as,∀ l v,H0 a≠some (.frz l v)) ->
  ∃ g,Thaws H0 H g/\(∀ b,b∉as->g b=H b)/\Paired (λa u=>g a=some u) as j
 | [],_,H,.nil,_,_=>⟨H,.refl,λ_ _=>rfl,.nil⟩
 | a::as,u::j,H,.cons r A,hk,s=>by
  have n:=hk u aF;have c:∀ v∈j,(qT v).isSome=true:=λv m=>hk v (aH _ m)
  have i:∀ b∈as,∀ l v,H0 b≠some (.frz l v):=λb f=>s b (aH _ f)
  rcases r with r | ⟨o,r⟩
  .obtain⟨g,t,d,p⟩:=Jv as j H A c i;exact⟨g,t,λb f=>d b λz=>f (aH _ z),.cons (t.keep r (Sy n)) p⟩
  .have q:∀ {bs:Aa Ad} {k:Aa HO},Paired (λa u=>Rd H a u) bs k->(∀ v∈k,(qT v).isSome=true)->Paired (λb v=>Rd (upd H a u) b v) bs k:=λ{bs k} h=>by
    induction h with
    | nil=>intro _;exact .nil
    | @cons b v bs k x _ B =>
     intro m;refine .cons ?_ (B λw hw=>m w (aH _ hw));by_cases e:b=a
     .subst e;rcases x with x | ⟨y,x⟩
      .rw[r] at x;cases x;have:=m _ aF;cases this
      .rw[r] at x;cases x;exact .inl hG
     .rcases x with x | ⟨y,x⟩
      .exact .inl (by rw[gD e];exact x)
      .exact .inr ⟨y,by rw[gD e];exact x⟩
   obtain⟨g,t,d,p⟩:=Jv as j (upd H a u) (q A c) c i;refine⟨g,.step n r (s a aF) t,λb f=>?_,.cons (t.keep hG (Sy n)) p⟩;rw[d b λz=>f (aH _ z),gD (λz:b=a=>f (z▸aF))]
theorem Zq {b:Aa Stmt}{T:TS}(h:∀ D g H,(∀ a,H a=none->∀ j u,X.H₀ a≠some (.frz j u))->T D g H->∃ t,pR X b t/\t D g H):pR X b T:=λc s g H D I q=>by
 obtain⟨t,p,k⟩:=h D g H (λa d j u e=>by have:=I.base.frzs a j u e;rw[d] at this;cases this) q;exact p c s g H D I k
end
section
variable {K:nH}{ρ:Aa Sl}{σ:St}
theorem DS.unsetN (g:ρ.length=σ.length) (h:DS K B (ρ.zip σ++T) H) (i:Nat) (y:Ab V):DS K B ((ρ.set i .n).zip (σ.set i y)++T) H:=by
 by_cases d:i<ρ.length
 .obtain⟨b,k,f,_,_,e,a⟩:=uH g (aE d);rw[a .n y];rw[e] at h;have c:DS K B (b++(f++T)) H:=DS.drop (L1:=b) (x:=(ρ[i],k)) (by simpa using h)
  simpa using c.pushN y
 .rw[fA (by omega),fA (by omega)];exact h
theorem Dk.sameH {j:Aa Ad}{H g:Hp}(h:Dk j H) (s:oW H g):Dk j g:=h.keep λa b=>by
 obtain⟨c,e⟩:=h.some b;rw[e,s a _ e]
theorem DS.grown {g:Hp}{L:oN}(h:DS K B L H) (s:oW H g):DS K B L g:=h.call (λb o e _=>s b o e) (h.dk.sameH s)
end
end L2
namespace Lw
open PySem L2
def G0 (K:nH):Sp:=λe H Q _=>∃ (a:Ad) (c:Aa Int),e=[.ref a]/\dT K H a (c.map V.int)/\c.length<=63/\∀ d,Q (.b true) d
abbrev Bm (H:Hp):Aa Ad->Aa sB->Prop:=Paired λa t=>Rd H a (.k (vT t))
abbrev qN (C:Cel):Aa sB:=(nW C).map (nX C)
def Tz:Sp:=λd H Q _=>∃ (ce:Ad) (C:Cel),d=[.ref ce,.b false]/\CellAt H ce C/\GCq C/\∀ (l:Ad) (as:Aa Ad) (c:Hp),H l=none->c l=some (.l (as.map V.ref))->(∀ a∈as,H a=none/\a≠l)->Bm c as (qN C)->oW H c->Q (.ref l) c
def T3:Sp:=λc H Q _=>∃ (ce l:Ad) (C:Cel) (as:Aa Ad),c=[.ref ce,.ref l]/\CellAt H ce C/\GCq C/\H l=some (.l (as.map V.ref))/\Bm H as (qN C)/\∀ a,oW H a->Q (.b true) a
theorem Qm {K:nH}{A:Ad->Prop}{H:Hp}:∀ {g:Aa sB}{j:Aa V},Reps K A H (g.map λt=>.k (hL t)) j->∃ as,j=as.map V.ref/\(∀ a∈as,A a)/\Bm H as g
 | [],_,.nil=>⟨[],rfl,(λ_ h=>nomatch h),.nil⟩
 | t::g,_,.cons r f=>by
  obtain⟨a,rfl,e,h⟩:=Vv r;obtain⟨as,rfl,d,p⟩:=Qm f;refine⟨a::as,rfl,λb c=>?_,.cons h p⟩;rcases aI.mp c with rfl | c
  .exact e
  .exact d b c
theorem X6 {K:nH}{A:Ad->Prop}{H:Hp}{t:sB}{a:Ad}(g:A a) (h:Rd H a (.k (vT t))):Rep K A H (.k (hL t)) (.ref a):=by
 refine .k g h (by simp[hL,vT,lI]) ?_;clear g h;induction t with
 | nil=>exact .nil
 | cons p t b=>exact .cons (.int _) b
theorem T5 {K:nH}{A:Ad->Prop}{H:Hp}:∀ {as:Aa Ad}{g:Aa sB},(∀ a∈as,A a)->Bm H as g->Reps K A H (g.map λt=>.k (hL t)) (as.map V.ref)
 | _,_,_,.nil=>.nil
 | a::as,_,c,.cons h p=>.cons (X6 (c a aF) h) (T5 (λb d=>c b (aH _ d)) p)
theorem Rm (C:Cel):((nW C).map λf=>D.k (hL (nX C f)))=(qN C).map λt=>.k (hL t):=by rw[bA];rfl
theorem No {K:nH}{A:Ad->Prop}{H:Hp}:∀ {j:Aa (Af×Af×Aa Af)}{l:Aa V},Reps K A H (j.map Cq) l->∃ as,l=as.map V.ref/\sF H as j
 | [],_,.nil=>⟨[],rfl,.nil⟩
 | g::j,_,.cons r e=>by
  obtain⟨as,rfl,p⟩:=No e;obtain⟨a,l,rfl,h,b⟩:=r.tup_inv;cases b with
  | cons f b=>cases b with
   | cons i b=>cases b with
    | cons k b =>
     cases b;cases f.str_inv;cases i.str_inv;obtain⟨q,m,rfl,c,d⟩:=k.tup_inv;have:=B0 (Bi g.2.2) d;subst this;exact⟨a::as,rfl,.cons ⟨q,h,c⟩ p⟩
theorem Yr {K:nH}{A:Ad->Prop}{H:Hp}{C:Cel}{v:V}(r:Rep K A H (nK C) v):∃ ce,v = .ref ce/\CellAt H ce C:=by
 obtain⟨a,E,rfl,h,b⟩:=r.tup_inv;cases b with
 | cons w b=>cases b with
  | cons x b=>cases b with
   | cons y b =>
    cases b;obtain⟨m,z,rfl,f,s⟩:=w.tup_inv;obtain⟨n,B,rfl,i,t⟩:=x.tup_inv;obtain⟨q,D,rfl,k,u⟩:=y.tup_inv;have c:=B0 (Bi C.ins) s;have e:=B0 (Bi C.outs) u;obtain⟨as,d,p⟩:=No t;subst c d e;exact⟨a,rfl,⟨m,n,q,as,h,f,i,k,p⟩⟩
section
variable {P:Ah}{K:nH}
theorem GF (F:FnOk P w K g base oK k f fd j (wX K R4)):FnOk P w K g base oK k f fd j Tz:=F.imp λz H Q E y=>by
 obtain⟨ce,C,rfl,n,q,hk⟩:=y;refine⟨[],λ_=>False,[nK C,.b false],λs=>s = .o (.l ((nW C).map λf=>.k (hL (nX C f)))),.inl rfl,λa h=>h.elim,.cons (J0 n) (.cons (.b _) .nil),⟨C,rfl,q,rfl⟩,λs v m x f t r=>?_⟩;subst x;obtain⟨l,rfl,nl,_,z,u,i⟩:=r;rw[Rm] at i;obtain⟨as,rfl,c,p⟩:=Qm i;exact hk l as m nl u (λa d=>⟨(c a d).2.2.resolve_left id,(c a d).2.1⟩) p λb o e=>f b o e bC
theorem IL (F:FnOk P w K g base oK k f fd j (wX K Na)):FnOk P w K g base oK k f fd j T3:=F.imp λt H Q E q=>by
 obtain⟨ce,l,C,as,rfl,d,h,m,p,hk⟩:=q;refine⟨[],λ_=>True,[nK C,.l ((nW C).map λf=>.k (hL (nX C f)))],λs=>s = .v (.b true),.inl rfl,λa _=>bC,.cons (J0 d) (.cons (.l trivial m ?_) .nil),⟨C,rfl,h,rfl⟩,λs v c n f i r=>?_⟩
 .rw[Rm];exact T5 (λ_ _=>trivial) p
 .subst n;have:Rep K _ c (.b true) v:=r;rw[this.bl_inv];exact hk c λb o e=>f b o e bC
end
theorem AC:(["weights"]:Aa Af).Nodup:=by decide +kernel
theorem HH {j:Type}:∀ {l:Aa j},l.length=8->∃ a b c d e f g h,l=[a,b,c,d,e,f,g,h]
 | [a,b,c,d,e,f,g,h],_=>⟨a,b,c,d,e,f,g,h,rfl⟩
def CB:qL:=λm e k=>∃ C a b c d f h i,k=[a,b,c,d,.v (nK C),f,h,i]/\GCq C/\e.nx [a,b,c,d,.v (nK C),.n,.n,.n]
theorem LA {t:sB}(h:(t.map (·.1)).Nodup):((vT t).map (·.1)).Nodup:=by
 unfold vT;rw[bA];have:((λx:gV×V=>x.1)∘λp:Af×Int=>((Sum.inr p.1:gV),V.int p.2))=Sum.inr∘λp:Af×Int=>p.1:=rfl
 rw[this,<- bA];exact lK.mpr (h.imp λ{a b} ne e=>ne (iB e))
theorem G5 {l o:Type}{F:l->o->Prop}:∀ {g:Aa l}{j:Aa o}{i:Nat}{a:l}{b:o},Paired F g j->g[i]?=some a->j[i]?=some b->F a b
 | _,_,_,_,_,.nil,h,_=>by simp at h
 | _,_,0,_,_,.cons x r,c,d=>by simp at c d;subst c d;exact x
 | _,_,i+1,_,_,.cons x r,c,d=>G5 (i:=i) r (by simpa using c) (by simpa using d)
theorem Ss {l o:Type}{F G:l->o->Prop}:∀ {g:Aa l}{j:Aa o},Paired F g j->(∀ a∈g,∀ b,F a b->G a b)->Paired G g j
 | _,_,.nil,_=>.nil
 | _,_,.cons x r,h=>.cons (h _ aF _ x) (Ss r λa c b=>h a (aH _ c) b)
theorem N9 {o p C:Type}{F:o->C->Prop}(g:p->C):∀ {j:Aa o}{l:Aa p},Paired (λa b=>F a (g b)) j l->Paired F j (l.map g)
 | _,_,.nil=>.nil
 | _,_,.cons x r=>.cons x (N9 g r)
theorem Lu {l o:Type}{F:l->o->Prop}:∀ {g:Aa l}{j:Aa o},Paired F g j->∀ a∈g,∃ b∈j,F a b
 | _,_,.nil,_,h=>nomatch h
 | _,_,.cons x r,a,h=>by
  rcases aI.mp h with rfl | h
  .exact⟨_,aF,x⟩
  .obtain⟨b,c,q⟩:=Lu r a h;exact⟨b,aH _ c,q⟩
theorem J3 {H g:Hp}{a:Ad}{u:HO}(s:oW H g) (h:Rd H a u):Rd g a u:=h.elim (λh=>.inl (s a _ h)) λ⟨o,h⟩=>.inr ⟨o,s a _ h⟩
section
variable {P:Ah}{K:nH}
theorem yI:FnScope ["script","deck","inputs","gates","cell","found","kept","weights"] ["script"] (oB yX):=pU
theorem Yw {f fD fE fR:Ad}{fd a0 a1 a2:FuncData}(F:Fun K "law" "law" yX f fd) (T:Txt mg) (g:Gd K mg "_law_deck" Ga ["script"] fD a0) (gE:Gd K mg "equations" F0 ["cell","pairs"] fE a1) (gR:Gd K mg "_law_right" Gr ["cell","found"] fR a2)
  (I:Kn P w K mg base 4 "_law_cell" Hs ["deck","inputs","gates"] Pl) (j:FnOk P w K mg base oK 1 fD a0 ["script"] (Ny K)) (GE:FnOk P w K mg base oK 6 fE a1 ["cell","pairs"] Tz) (GR:FnOk P w K mg base oK 4 fR a2 ["cell","found"] T3) :
  FnOk P w K mg base oK 7 f fd ["script"] (G0 K):=by
 refine F.ok yI (λvs H Q E h=>?_) (λbx A br s H vs Q E hr h=>?_)
 .obtain⟨a,ns,rfl,_⟩:=h;rfl
 .obtain⟨a,ns,rfl,hS,a6,hQ⟩:=h;have hu:=Kk hr;have bo:Room 1 _:=hr.mono (by decide);have bp:Room 4 _:=hr.mono (by decide);refine vU _ (oS (i:=1) yI.nd rfl (Or.inl rfl) (qF j bo rfl g.m g.k g.b .nil pX (hI (pv 0) nL))) ?_;refine⟨_,rfl,a,ns,rfl,hS,a6,λd c H1 D1 _ _ _=>?_⟩;refine⟨_,(hO (qX (oU (sG (eH (wE (eH nI (eH nI hH))) (eH (wE (eH nI (eH nI hH))) (eH (wE (eH nI (eH nI hH))) (eH (wE (eH nI (eH nI hH))) hH)))))) (xZ (n:=2) rfl (rO (nT 2 yI.nd) (rO (nT 3 yI.nd) yG))) (hO (oE 4 yI.nd (pJ I hr (eH (cN 1) (eH (cN 2) (eH (cN 3) hH))))) (t:=_) (u:=CB) (Zq λDn σ H2 h0 hq=>?_))) (nQ (oJ uS))),⟨[d,c],λ_=>False,H1⟩,[.n,.v (.r (.ref d)),.n,.n,.n,.n,.n,.n],[],{ nx:=λ_=>False,rt:=λr=>r = .v (.b true) },rfl,?_,?_,?_,?_⟩
  .-- found,kept,changed,told again
   obtain⟨B,ρ,T',De,hl,hd,⟨C,s0,s1,s2,s3,s5,s6,s7,rfl,U,bn⟩,lk⟩:=hq;obtain⟨x0,x1,x2,x3,x4,x5,x6,x7,rfl⟩:=HH hl.symm;obtain⟨v,e4,r4⟩:=hd.ok (.v (nK C),x4) (by simp);have bf:x4=some v:=e4;subst bf;obtain⟨ce,rfl,ak⟩:=Yr r4;refine vU _ (oS (i:=5) yI.nd rfl (Or.inl rfl) (qF GE hr rfl gE.m gE.k gE.b .nil pX (hI (pv 4) (hI Cw nL)))) ?_;refine⟨_,rfl,ce,C,rfl,ak,U,λl as H3 nl a5 a3 au bb=>?_⟩;refine vU _ (wI (Q9 (JN (qF GR bp rfl gR.m gR.k gR.b .nil pX (hI (pv 4) (hI (pv 5) nL))))) (pQ (uL Cw)) yH) ?_;refine⟨_,rfl,_,rfl,ce,l,C,as,rfl,ak.mono (.of_same bb),U,a5,au,λH4 aw=>⟨_,rfl,vQ ?_⟩⟩;have aa:=aw l _ a5;have a9:oW H2 H4:=bb.trans aw;have av:Bm H4 as (qN C):=au.mono λa t h=>J3 aw h
   have aq:l∉as:=λz=>(a3 l z).2 rfl
   have ay:as.length=(qN C).length:=eC au;have aj:∀ t∈qN C,t.length<=28/\(t.map (·.1)).Nodup:=λt ht=>by
    obtain⟨f,hf,rfl⟩:=aM.mp ht;have hm:=zZ (pr:=false) U.li U.lo;rw[Cu] at hm;have:=cW (λp:Af×Int=>p.2 != 0) ((nP C).zip (EQ.shown (nP C).length (qH C false) f));rw[eS] at this;refine⟨?_,Kg _ (Kq U)⟩;show (List.filter _ _).length<=28;omega
   have bw:(qN C).length<=28:=by
    have ok:=Ku (pr:=false) U;have hm:=zZ (pr:=false) U.li U.lo;rw[Cu] at ok hm;have:(nW C).length=(nP C).length-(qH C false).length:=EQ.firsts_len (EQ.red_ok ok).1;rw[aA];omega
   refine vU _ (Kd (i:=6) ["weights"] [] [] yI.nd rfl (Or.inl rfl) rfl (Hr (pv 5)) rfl rfl (λai af C cl fp=>tP (i:=0) AC rfl (Or.inl rfl)) (λai af C cl fp=>Dj) (λai af C cl fp=>xR Nq (by rfl) T.dict hZ (hI (pv 0) nL))) ?_;refine⟨_,rfl,l,rfl,⟨_,dT.of aa⟩,λY ar=>?_⟩;refine Es S6 (λi ys M=>∃ X:Aa Ad,ys=X.map V.ref/\X.length=i/\M Y=some (.l ys)/\oW H4 M/\(∀ q∈X,H4 q=none/\q≠Y)/\Paired (λq t=>M q=some (.k (vT t))) X ((qN C).take i))
    ⟨[],rfl,rfl,hG,oW.new ar,(λ_ h=>nomatch h),.nil⟩ (λi ys M _ ⟨_,_,_,_,sm,_⟩=>dT.of (sm l _ aa)) ?_ ?_
   .rintro i x ys M L ⟨X,rfl,ab,R,O,J,ae⟩;obtain⟨b,G,rfl⟩:∃ b,as[i]?=some b/\V.ref b=x:=by
     rw[aQ] at L;cases e:as[i]? with
     | none=>rw[e] at L;cases L
     | some y=>rw[e] at L;exact⟨y,rfl,bO L⟩
    have hi:i<(qN C).length:=by rw[<- ay];exact (aG.mp G).1
    have ht:(qN C)[i]?=some (qN C)[i]:=aE hi;have rb:Rd M b (.k (vT (qN C)[i])):=J3 O (G5 (F:=λa t=>Rd H4 a (.k (vT t))) av G ht);refine⟨_,rfl,b,vT (qN C)[i],rfl,rb,λq nq=>⟨⟨_,rfl⟩,?_,?_,X++[q],by rw[bE];rfl,by rw[aZ,ab];rfl,hG,?_,?_,?_⟩⟩
    .rw[gD (hV R nq)];exact R
    .rw[aA,ab];exact aR (show i<1000 by omega) (by decide)
    .intro z o e;have e5:=O z o e;rw[gD (λy=>by rw[y,ar] at e;cases e),gD (hV e5 nq)];exact e5
    .intro z S;rcases aT.mp S with S | S
     .exact J z S
     .rw[aO.mp S];refine⟨?_,λe=>by rw[e,R] at nq;cases nq⟩;cases e:H4 q with
      | none=>rfl
      | some o=>rw[O q o e] at nq;cases nq
    .rw[bQ,ht];have keep:∀ z u,z≠Y->M z=some u->upd (upd M q (.k (vT (qN C)[i]))) Y (.l (X.map V.ref++[V.ref q])) z=some u:=λz u n e=>by
      rw[gD n,gD (hV e nq)];exact e
     refine J4 ?_ ?_
     .exact Ss ae λz S t h=>keep z _ (J z S).2 h
     .rw[gD (λe=>by rw[e,R] at nq;cases nq)];exact hG
   .rintro ys M ⟨X,rfl,ab,R,O,J,ae⟩;rw[aA] at ab;rw[aA,ay,cM] at ae;have ba:oW H2 M:=a9.trans O;have bt:Bm M as (qN C):=av.mono λa t h=>J3 O h
    have bj:=O l _ aa;have az:∀ b∈as,H2 b=none:=λb G=>(a3 b G).1
    obtain⟨H6,th,ag,bu⟩:=Jv (H0:=H) as ((qN C).map λt=>.k (vT t)) M (N9 _ bt) (λu hu=>by obtain⟨_,_,rfl⟩:=aM.mp hu;rfl) λb G=>h0 b (az b G)
    have an:H6 l=some (.l (as.map V.ref)):=by rw[ag l aq];exact bj
    refine vU _ (Ye (vZ dO rfl (Hr (pv 5)) (tP (i:=7) yI.nd rfl (Or.inl rfl)) (pQ (Di oD (Dq (pv 7) uK (Pw hu)))))) ?_;refine⟨H6,th,_,rfl,l,rfl,⟨_,dT.of an⟩,?_⟩;refine Iu (K:=K) (a:=l) (xs:=as.map V.ref) (λi σ W=>(∃ y7,σ=[x0,x1,x2,x3,some (.ref ce),some (.ref l),some (.ref Y),y7])/\(∀ b,b∉as->W b=H6 b)/\∀ b∈as,∃ ac:Aa (gV×V),W b=some (.k ac)/\ac.length<=28+i)
     ⟨⟨x7,rfl⟩,λ_ _=>rfl,λb G=>?_⟩ (λi σ W _ ⟨_,o7,_⟩=>dT.of (by rw[o7 l aq];exact an)) ?_ ?_
    .obtain⟨u,hu,e⟩:=Lu bu b G;obtain⟨t,ht,rfl⟩:=aM.mp hu;refine⟨vT t,e,?_⟩;have:=(aj t ht).1;unfold vT;rw[aA];omega
    .rintro i x σ W L ⟨⟨y7,rfl⟩,o7,k7⟩;obtain⟨b,G,rfl⟩:∃ b,as[i]?=some b/\V.ref b=x:=by
      rw[aQ] at L;cases e:as[i]? with
      | none=>rw[e] at L;cases L
      | some y=>rw[e] at L;exact⟨y,rfl,bO L⟩
     have hi:i<as.length:=(aG.mp G).1;have a4:=aL G;obtain⟨ac,hk,bh⟩:=k7 b a4;refine⟨_,rfl,.inr ⟨b,_,rfl,sU.k (k:=Sum.inr "") hk (bH bh (aR (show 28+i<1000 by omega) (by decide))),⟨_,rfl⟩,λz S=>?_,λz S=>?_⟩⟩
     .rw[gD (λe:z=b=>S (e▸a4))];exact o7 z S
     .by_cases e:z=b
      .subst e;refine⟨_,hG,?_⟩;have:=A9 ac (Sum.inr "" : gV) (V.int 7);omega
      .obtain⟨kv,h1,h2⟩:=k7 z S;exact⟨kv,by rw[gD e];exact h1,by omega⟩
    .rintro σ W ⟨⟨y7,rfl⟩,o7,_⟩;have bq:∀ b,b∉as->W b=M b:=λb G=>(o7 b G).trans (ag b G)
     have be:∀ b∈as,H4 b≠none:=λb G e=>by
      obtain⟨_,_,r⟩:=Lu av b G;rcases r with r | ⟨_,r⟩<;>rw[e] at r<;>cases r
     have ao:W l=some (.l (as.map V.ref)):=by rw[o7 l aq];exact an
     refine vU _ (Az (vD bZ cR cS wA (pv 5) (hI Rp nL))) ?_;refine⟨_,rfl,.inl ⟨rfl,_,dT.of ao⟩,λp np=>⟨l,as.map V.ref,.ref p,rfl,rfl,by rw[gD (hV ao np)];exact ao,by rw[aA];exact aR (show as.length<1000 by omega) (by decide),?_⟩⟩;have k8:∀ b o,b∉as->b≠l->M b=some o->upd (upd W p (.k [])) l (.l (as.map V.ref++[.ref p])) b=some o:=λb o n1 n2 e=>by
      have e7:W b=some o:=by rw[bq b n1];exact e
      rw[gD n2,gD (hV e7 np)];exact e7
     have a7:∀ b o,H4 b=none->M b=some o->upd (upd W p (.k [])) l (.l (as.map V.ref++[.ref p])) b=some o:=λb o n e=>k8 b o (λz=>be b z n) (λz=>by rw[z,aa] at n;cases n) e
     have ah:oW H2 (upd (upd W p (.k [])) l (.l (as.map V.ref++[.ref p]))):=λb o e=>k8 b o (λz=>by rw[az b z] at e;cases e) (λz=>by rw[z,nl] at e;cases e) (ba b o e)
     refine⟨_,pQ (wI (uV (Vm hr.units) (qF GE hr rfl gE.m gE.k gE.b .nil pX (hI (pv 4) (hI Cw nL))) (pv 6) (wG _)) (pQ (uL Cw)) yH),?_⟩;refine⟨_,rfl,ce,C,rfl,ak.mono (.of_same ah),U,λl2 Z H9 b0 bi bz a8 ax=>?_⟩;have bg:=ax Y _ (a7 Y _ ar R);have bd:Z.length=(qN C).length:=eC a8;refine⟨_,rfl,l2,Y,Z.map V.ref,X.map V.ref,rfl,rfl,bi,bg,by rw[aA,aA];omega,λi x y L hy=>?_,?_⟩
     .obtain⟨b,G,rfl⟩:∃ b,Z[i]?=some b/\V.ref b=x:=by
       rw[aQ] at L;cases e:Z[i]? with
       | none=>rw[e] at L;cases L
       | some y=>rw[e] at L;exact⟨y,rfl,bO L⟩
      obtain⟨q,hq,rfl⟩:∃ q,X[i]?=some q/\V.ref q=y:=by
       rw[aQ] at hy;cases e:X[i]? with
       | none=>rw[e] at hy;cases hy
       | some y=>rw[e] at hy;exact⟨y,rfl,bO hy⟩
      have hi:i<(qN C).length:=by rw[<- bd];exact (aG.mp G).1
      have ht:(qN C)[i]?=some (qN C)[i]:=aE hi;have r1:Rd H9 b (.k (vT (qN C)[i])):=G5 (F:=λa t=>Rd H9 a (.k (vT t))) a8 G ht;have r2:M q=some (.k (vT (qN C)[i])):=G5 (F:=λq t=>M q=some (.k (vT t))) ae hq ht;refine⟨b,q,vT (qN C)[i],rfl,rfl,r1,.inl (ax q _ (a7 q _ (J q (aL hq)).1 r2)),LA (aj _ (fJ hi)).2,λp hp=>?_⟩;obtain⟨z,_,rfl⟩:=aM.mp hp;exact⟨rfl,by simp[pC]⟩
     .refine⟨_,rfl,vQ ?_⟩;have d9:=((((hd.grown (ah.trans ax)).unsetN rfl 5 (some (.ref l))).unsetN rfl 6 (some (.ref Y))).unsetN rfl 7 y7);exact (lk.1 [s0,s1,s2,s3,.v (nK C),.n,.n,.n] [x0,x1,x2,x3,some (.ref ce),some (.ref l),some (.ref Y),y7] H9 rfl rfl d9).1 bn
  .refine⟨λb o e _=>e,.inr ⟨d,c,rfl,D1⟩,iZ,λb G=>absurd G bC,λp hp=>?_⟩;have hp:p∈[((Sl.n:Sl),some (V.ref a)),(.v (.r (.ref d)),some (V.ref d)),(.n,none),(.n,none),(.n,none),(.n,none),(.n,none),(.n,none)]:=hp;simp only[aI,bC,dY] at hp;rcases hp with rfl | rfl | rfl | rfl | rfl | rfl | rfl | rfl<;>first | trivial | exact⟨_,rfl,.r _⟩
  .refine nO (λρ=>∃ s2 s3 s4 s5 s6 s7,ρ=[.n,.v (.r (.ref d)),s2,s3,s4,s5,s6,s7]) (λN hN=>?_) ?_
   .refine qK ([((6,24):Nat×Nat),(3,5),(2,3),(4,12)].map λp:Nat×Nat=>D.t [.int (p.1:Nat),.int (p.2:Nat)]) [.n,.v (.r (.ref d)),.n,.n,.n,.n,.n,.n] (λΨ h=>⟨by show 2<=1000;decide,by show 2<=1000;decide,by show 2<=1000;decide,by show 2<=1000;decide,by show 4<=1000;decide,h⟩)
     (λi ρ=>∃ s2 s3 s4 s5 s6 s7,ρ=[.n,.v (.r (.ref d)),s2,s3,s4,s5,s6,s7]) ⟨_,_,_,_,_,_,rfl⟩ ?_ λbc h=>hN _ h
    rintro i x _ L ⟨s2,s3,s4,s5,s6,s7,rfl⟩;obtain⟨⟨m,n⟩,bm,rfl⟩:=qV L;have G:m<=6/\n<=24:=by
     have:=aL bm;simp only[aI,bC,dY,Prod.mk.injEq] at this;omega
    refine⟨rfl,rfl,?_⟩;refine nO (λρ=>∃ C,Good C/\ρ=[.n,.v (.r (.ref d)),.v (.int (m:Nat)),.v (.int (n:Nat)),.v (nK C),s5,s6,s7]) (λN hN=>⟨d,c,m,n,rfl,rfl,G.1,G.2,λC hC=>⟨.inl rfl,hN _ ⟨C,hC,rfl⟩⟩⟩) ?_;rintro _ ⟨C,hC,rfl⟩;exact⟨C,_,_,_,_,_,_,_,rfl,KC hC,_,_,_,_,_,_,rfl⟩
   rintro _ ⟨s2,s3,s4,s5,s6,s7,rfl⟩;rfl
  .intro bc bv H' _ _ _;exact⟨False.elim,False.elim,False.elim⟩
  .rintro r v bc bv H' _ d1 rfl;obtain rfl:=d1.valAt.bl_inv;exact hQ H'
end
def DF (K:nH) (x:Af) (st:Stmt):Prop:=∃ (f:Ad) (e a:Ab Ad) (sl:Array (Ab Ac)) (d kV c pm cd b:Ac),PySem.W.nsIn K mainGlobals x=some (some (.ref f))/\K.lookup f=some ⟨d,e,.func (PySem.W.fnOf x x (uO st) (sT st) (oB st) .none kV c pm a cd b),sl⟩/\PySem.W.codeIn K cd x=true/\PySem.W.keepIn K (.ref f)=true
def NZ (K:nH) (x:Af):Prop:=PySem.W.nsIn K mainGlobals x=some none
theorem df_mk {K:nH}{st:Stmt}{sl:Array (Ab Ac)}{kV cd:Ac}(a:PySem.W.nsIn K mainGlobals x=some (some (.ref f))) (l:K.lookup f=some ⟨p,r,.func (PySem.W.fnOf x x (uO st) (sT st) (oB st) .none kV o pm g cd j),sl⟩) (c:PySem.W.codeIn K cd x=true) (k:PySem.W.keepIn K (.ref f)=true):DF K x st:=⟨f,r,g,sl,p,kV,o,pm,cd,j,a,l,c,k⟩
theorem Ex {K:nH}{st:Stmt}(o:Aa Af) (X:K.In h) (G:h.Ns mainGlobals J) (d:DF K x st)
  (I:∀ (kV j pm:Ac) (r:Ab Ad) (g C:Ac) (p:Aa Ac),p.length=o.length->bindArgs (PySem.W.fnOf x x (uO st) (sT st) (oB st) .none kV j pm r g C) ⟨p,[]⟩=pure (o.zip p)):∃ f fd,Gd K J x st o f fd:=by
 obtain⟨f,i,r,sl,e,kV,b,pm,cd,C,a,l,c,k⟩:=d;have F:=Px (st:=st) l c k;exact⟨f,_,F,PySem.W.mg_of X G a,k,F.binds I⟩
theorem Wg {K:nH}{st:Stmt}(X:K.In h) (G:h.Ns mainGlobals j) (d:DF K x st) (g:∀ a b c d e f,bindArgs (PySem.W.fnOf x x (uO st) (sT st) (oB st) .none a b c d e f) ⟨[],[]⟩=pure []:=by intros;rfl):∃ f fd,Gd K j x st [] f fd :=
 Ex [] X G d λa b c d e f k i=>by rcases k with _ | _<;>first | exact g a b c d e f | cases i
theorem Au {K:nH}{st:Stmt}(j:Af) (X:K.In h) (G:h.Ns mainGlobals o) (d:DF K x st) (l:∀ a b c d e f g,bindArgs (PySem.W.fnOf x x (uO st) (sT st) (oB st) .none a b c d e f) ⟨[g],[]⟩=pure [(j,g)]:=by intros;rfl):∃ f fd,Gd K o x st [j] f fd :=
 Ex [j] X G d λa b c d e f k i=>by rcases k with _ | ⟨g,_ | _⟩<;>first | exact l a b c d e f g | cases i
theorem qW {K:nH}{st:Stmt}(l o:Af) (X:K.In h) (G:h.Ns mainGlobals r) (d:DF K x st) (p:∀ a b c d e f g j,bindArgs (PySem.W.fnOf x x (uO st) (sT st) (oB st) .none a b c d e f) ⟨[g,j],[]⟩=pure [(l,g),(o,j)]:=by intros;rfl):∃ f fd,Gd K r x st [l,o] f fd :=
 Ex [l,o] X G d λa b c d e f k i=>by rcases k with _ | ⟨g,_ | ⟨j,_ | _⟩⟩<;>first | exact p a b c d e f g j | cases i
theorem Iq {K:nH}{st:Stmt}(o p r:Af) (X:K.In h) (G:h.Ns mainGlobals I) (d:DF K x st) (C:∀ a b c d e f g j l,bindArgs (PySem.W.fnOf x x (uO st) (sT st) (oB st) .none a b c d e f) ⟨[g,j,l],[]⟩=pure [(o,g),(p,j),(r,l)]:=by intros;rfl):∃ f fd,Gd K I x st [o,p,r] f fd :=
 Ex [o,p,r] X G d λa b c d e f k i=>by rcases k with _ | ⟨g,_ | ⟨j,_ | ⟨l,_ | _⟩⟩⟩<;>first | exact C a b c d e f g j l | cases i
theorem all_mk {l:PySem.W.OpenLaw}{K:nH}(X:K.In h) (G:h.Ns mainGlobals mg) (bt:mg "law" = some (.ref fa))
  (d1:DF K "check_there" Fs)
  (d2:DF K "told_by" E2)
  (d3:DF K "side_bits" Hv)
  (d4:DF K "gate_bit" Fc)
  (d5:DF K "all_bits" Gu)
  (d6:DF K "equations" F0)
  (d7:DF K "things_of" Eo)
  (d8:DF K "value_table" Dy)
  (d9:DF K "thing_value" F1)
  (a3:DF K "reduced" Ia)
  (a4:DF K "cleared" Fy)
  (a5:DF K "without_divisor" Dm)
  (a6:DF K "common_divisor" Fq)
  (a7:DF K "divisor_of_two" Cm)
  (a8:DF K "shown_equation" Ej)
  (a9:DF K "_law_deck" Ga)
  (ba:DF K "_law_take" zJ)
  (bb:DF K "_law_kept" C5)
  (bc:DF K "_law_made_names" Hx)
  (bd:DF K "_law_names" G7)
  (be:DF K "_law_gate" F6)
  (bf:DF K "_law_cell" Hs)
  (bg:DF K "_law_gate_bit" Ft)
  (bh:DF K "_law_all_bits" Gq)
  (bi:DF K "_law_bits" Hq)
  (bj:DF K "_law_things" Ff)
  (bm:DF K "_law_worths" Gx)
  (bn:DF K "_law_divisor" A5)
  (bo:DF K "_law_rank" Gj)
  (bp:DF K "_law_is_reduced" Ed)
  (bq:DF K "_law_right" Gr)
  (br:DF K "law" yX)
  (z1:NZ K "len")
  (z2:NZ K "range")
  (z3:NZ K "sum")
  (z4:NZ K "min")
  (z5:NZ K "max")
  (z6:NZ K "tuple")
  (z7:NZ K "list")
  (z8:NZ K "set")
  (z9:NZ K "dict")
  (bu:NZ K "int")
  (bv:NZ K "str")
  (bw:NZ K "zip")
  (bx:NZ K "enumerate")
  (bz:NZ K "all")
  (b0:NZ K "any")
  (b1:NZ K "isinstance")
  (b2:NZ K "sorted")
  (b3:NZ K "abs")
  (b4:NZ K "reversed")
  (b5:NZ K "bool")
  : ∃ fd:FuncData,(∀ (s:Ae) (v:Ac),BindsTo s fd ⟨[v],[]⟩ [("script",v)])/\∀ base:Ag,K.In base->base.Ns mainGlobals mg->FnOk l.prog w K mg base oK 7 fa fd ["script"] (G0 K):=by
 obtain⟨f1,e1,S⟩:=qW "names" "given" X G d1;obtain⟨f2,e2,az⟩:=qW "cell" "bits" X G d2;obtain⟨f3,e3,ab⟩:=qW "cell" "bits" X G d3;obtain⟨f4,e4,ah⟩:=qW "word" "bits" X G d4;obtain⟨f5,e5,ag⟩:=Au "count" X G d5;obtain⟨f6,e6,t⟩:=qW "cell" "pairs" X G d6;obtain⟨f7,e7,ac⟩:=qW "cell" "pairs" X G d7;obtain⟨f8,e8,Z⟩:=qW "cell" "things" X G d8;obtain⟨f9,e9,Y⟩:=qW "thing" "known" X G d9;obtain⟨c0,b6,ay⟩:=Au "table" X G a3;obtain⟨c1,b7,ax⟩:=Iq "values" "by" "at" X G a4;obtain⟨c2,b8,m⟩:=Au "numbers" X G a5;obtain⟨c3,b9,n⟩:=Au "numbers" X G a6;obtain⟨c4,ca,q⟩:=qW "one" "other" X G a7;obtain⟨c5,cc,B⟩:=Iq "things" "first" "heads" X G a8;obtain⟨c6,cf,L⟩:=Au "script" X G a9;obtain⟨c7,cg,e⟩:=qW "deck" "many" X G ba;obtain⟨c8,ch,ak⟩:=Wg X G bb;obtain⟨c9,cj,y⟩:=qW "deck" "many" X G bc;obtain⟨da,ck,z⟩:=qW "deck" "many" X G bd;obtain⟨db,cm,M⟩:=qW "deck" "known" X G be;obtain⟨dd,cn,aj⟩:=Iq "deck" "inputs" "gates" X G bf;obtain⟨de,cp,O⟩:=qW "word" "bits" X G bg;obtain⟨df,cq,N⟩:=qW "cell" "bits" X G bh;obtain⟨dh,cs,ai⟩:=qW "names" "number" X G bi;obtain⟨di,cu,I⟩:=qW "cell" "pairs" X G bj;obtain⟨dj,cv,J⟩:=qW "cell" "things" X G bm;obtain⟨dk,cw,V⟩:=Au "row" X G bn;obtain⟨dm,cx,ao⟩:=qW "rows" "many" X G bo;obtain⟨dn,cy,u⟩:=qW "things" "rows" X G bp;obtain⟨dp,cz,A⟩:=qW "cell" "found" X G bq;obtain⟨f,od,an,sl,oc,kV,dc,pm,cd,ct,a,lk,c,k⟩:=br;cases bt.symm.trans (PySem.W.mg_of X G a);have FL:=Px (st:=yX) lk c k;refine⟨PySem.W.fnOf "law" "law" (uO yX) (sT yX) (oB yX) .none kV dc pm an cd ct,λs v=>.of_eq rfl,λbase _ _=>?_⟩;have T:Txt mg:=⟨bT X G z1,bT X G z2,bT X G z3,bT X G z4,bT X G z5,bT X G z6,bT X G z7,bT X G z8,bT X G z9,bT X G bu,bT X G bv,bT X G bw,bT X G bx,bT X G bz,bT X G b0,bT X G b1,bT X G b2,bT X G b3,bT X G b4,bT X G b5⟩;have C:∀ {k x st ps R f fd},Gd K mg x st ps f fd->pZ l.prog w K mg base k x st ps R->Kn l.prog w K mg base k x st ps R:=λg o=>⟨_,_,g,o _ _ g.F⟩
 have av:=C aj λ_ _ F=>KJ (DZ F T e z M (Fm e.F T) (Wi z.F T e ak y) (EA M.F T e))
 have j:=C S λ_ _=>X8
 have ar:=C ah (ER T);have a2:=C az (DQ T j ar);have aq:=C ag (Xq T);have ae:=C ab (LM T a2);have i:=C q MP;have D:=C n (Zu T i);have d:=C m (JB T D);have a0:=C ax (Vk T d);have a1:=C ay (Ym T a0);have af:=C ac (HZ T);have p:=C Y (MO T);have r:=C Z (Y7 T aq ae p);have H:=C B (Zr T i d);have Q:=C O (MS T);have P:=C N (IK T Q);have au:=C ai (Yv T);have b:=C V (Zn T);have U:=C I (MQ T);have aa:=C J (HP T P au);have aw:=C ao (MU T b);have E:=C u (HJ T b);exact Yw FL T L t A av (HC L.F T) (GF (X7 T af r a1 H _ _ t.F)) (IL (KO T U aa b aw E _ _ A.F))
theorem walk {l:PySem.W.OpenLaw}{q:Ah}{g:Aa Af}{C:(Af->Ab Ac)->Ag->Prop}{p:World->Ag->Prop}{d:DefRec}{K:Params->nH}(J:l.most=some 63) (o:d.params.defaults=[])
  (I:∀ (w:World) (h:Ag),p w h->(K w.params).In h)
  (F:∀ (w:World) (j:Af->Ab Ac) (r:Ad) (h:Ag),(K w.params).In h->h.Ns mainGlobals j->j d.name=some (.ref r) ->∃ fd:FuncData,(∀ (s:Ae) (u:Ac),BindsTo s fd ⟨[u],[]⟩ [("script",u)])/\∀ base:Ag,(K w.params).In base->base.Ns mainGlobals j->FnOk l.prog w (K w.params) j base oK 7 r fd ["script"] (G0 (K w.params))) :
  PySem.W.WalkO q g C p l.row.toRowW d [] (λf T=>PySem.call f T) :=
 L2.walk_of (n:=63) (k:=7) (x := "script") (CX:=λ_=>oK) (sp:=λw=>G0 (K w.params)) J (by decide) o ⟨rfl,by decide,by decide⟩ I F (λ_ _ a e c _ b=>⟨a,e,rfl,b,c,λ_=>rfl⟩) λ_ _ _ _ _ z=>z
end Lw
namespace PySem.W.Fast
theorem tw12792171314102223276:True:=⟨⟩
theorem tw5680793013799897376:True:=⟨⟩
theorem tw8095530500453894378:True:=⟨⟩
theorem tw2563868021205003937:True:=⟨⟩
theorem tw3831605399887979772:True:=⟨⟩
theorem tw10198312858285007265:True:=⟨⟩
theorem tw5179471480374959202:True:=⟨⟩
theorem tw8073056361644735463:True:=⟨⟩
theorem tw8418072645272919906:True:=⟨⟩
theorem tw12054360079589100219:True:=⟨⟩
theorem tw563493021626022519:True:=⟨⟩
theorem tw11107507772571431431:True:=⟨⟩
theorem tw4599702921146422445:True:=⟨⟩
theorem tw6689126495020835234:True:=⟨⟩
theorem tw11049516661301616624:True:=⟨⟩
theorem tw4550763675365205167:True:=⟨⟩
theorem tw581594267912901175:True:=⟨⟩
theorem tw10827348368462751031:True:=⟨⟩
theorem tw12765987602943695425:True:=⟨⟩
theorem tw6548712607300921901:True:=⟨⟩
theorem tw5422563813114456650:True:=⟨⟩
theorem tw4428011880528922618:True:=⟨⟩
theorem tw3536130119434990683:True:=⟨⟩
theorem tw16300299249514432248:True:=⟨⟩
theorem tw18355474382790461924:True:=⟨⟩
theorem tw16204666034924352227:True:=⟨⟩
theorem tw13292596750566123434:True:=⟨⟩
theorem tw12619562915949657479:True:=⟨⟩
theorem tw6048149472299638519:True:=⟨⟩
theorem tw9716982689865333103:True:=⟨⟩
theorem tw18253174128925709453:True:=⟨⟩
theorem tw5512117646932805436:True:=⟨⟩
theorem tw17982026504389580439:True:=⟨⟩
theorem tw2526515598574003393:True:=⟨⟩
theorem tw8855884659031186732:True:=⟨⟩
theorem tw12729052500830676489:True:=⟨⟩
theorem tw8361887877871519703:True:=⟨⟩
theorem tw14752416018043219955:True:=⟨⟩
theorem tw12365418627157321075:True:=⟨⟩
theorem tw8442829458153108219:True:=⟨⟩
theorem tw15973822750506357136:True:=⟨⟩
theorem tw10435786663252377796:True:=⟨⟩
theorem tw11355829098508111559:True:=⟨⟩
theorem tw8640476025586290347:True:=⟨⟩
theorem tw18291918947840469109:True:=⟨⟩
theorem tw15920225610328533862:True:=⟨⟩
theorem tw16482140495898856578:True:=⟨⟩
theorem tw9787138002457256083:True:=⟨⟩
theorem tw16651408728137234190:True:=⟨⟩
theorem tw1162943887173341969:True:=⟨⟩
theorem tw12178559492291783761:True:=⟨⟩
theorem tw13843366902300092238:True:=⟨⟩
theorem tw6212767207886391998:True:=⟨⟩
theorem tw18341472809299134170:True:=⟨⟩
theorem tw7690008720257346916:True:=⟨⟩
theorem tw10914039178933394054:True:=⟨⟩
theorem tw10276518315977304851:True:=⟨⟩
theorem tw15422917446394575417:True:=⟨⟩
theorem tw11942557994125410522:True:=⟨⟩
theorem tw14978894933772109574:True:=⟨⟩
theorem tw4284204507231759795:True:=⟨⟩
theorem tw15021764254981876788:True:=⟨⟩
theorem tw12107903002096045729:True:=⟨⟩
theorem tw9107863445860787597:True:=⟨⟩
theorem tw6434044712766875439:True:=⟨⟩
theorem tw16489125642016958210:True:=⟨⟩
theorem tw16418912884653538535:True:=⟨⟩
theorem tw9726849414699034128:True:=⟨⟩
theorem tw6949953398680880219:True:=⟨⟩
theorem tw17675849903530398681:True:=⟨⟩
theorem tw11554401853119246998:True:=⟨⟩
theorem tw6512576052338766754:True:=⟨⟩
theorem tw1744926484534573249:True:=⟨⟩
theorem tw2198305647006033456:True:=⟨⟩
theorem tw10322777888756377918:True:=⟨⟩
theorem tw8707824112564760598:True:=⟨⟩
theorem tw12682679259286892738:True:=⟨⟩
theorem tw6808969302618368968:True:=⟨⟩
theorem tw3896692662567660384:True:=⟨⟩
theorem tw17814637672126717850:True:=⟨⟩
theorem tw6987744162154603696:True:=⟨⟩
theorem tw16780787539909258530:True:=⟨⟩
theorem tw12117186211350185313:True:=⟨⟩
theorem tw10632086898528797005:True:=⟨⟩
theorem tw14127907543242961475:True:=⟨⟩
theorem tw8458383806068707138:True:=⟨⟩
theorem tw3938758102607650440:True:=⟨⟩
theorem tw8858638048851170730:True:=⟨⟩
end PySem.W.Fast
open PySem PySem.W PyProof.Rows
set_option maxRecDepth 100000 in
set_option maxHeartbeats 0 in
theorem PySem.Challenge.cw_laidcells_k07_equations_of_names_holds : PySem.Challenge.rw_laidcells_k07_equations_of_names.Holds := by
 w_on;o_law;k_head;(case hw=>w_witness2)
 k_fill
 refine Lw.walk (l:=PySem.Challenge.rw_laidcells_k07_equations_of_names) rfl rfl (fun w h Y=>PySem.W.kIn_of Y) ?F
 case F =>
  intro w mg fa h KX G hmg;refine' Lw.all_mk KX G hmg ?_ ?_ ?_ ?_ ?_ ?_ ?_ ?_ ?_ ?_ ?_ ?_ ?_ ?_ ?_ ?_ ?_ ?_ ?_ ?_ ?_ ?_ ?_ ?_ ?_ ?_ ?_ ?_ ?_ ?_ ?_ ?_ ?_ ?_ ?_ ?_ ?_ ?_ ?_ ?_ ?_ ?_ ?_ ?_ ?_ ?_ ?_ ?_ ?_ ?_ ?_ ?_
  all_goals try refine' Lw.df_mk ?_ ?_ ?_ ?_
  all_goals try unfold Lw.NZ
  all_goals try first | k_is | (dsimp only;k_is)
