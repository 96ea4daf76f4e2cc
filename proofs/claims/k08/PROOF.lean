import PyProof.Rows.All
import Wide.All
import OpenK.AllK
import Wide.FinOn
import Lean
import PyProof.EqAt
import PyProof.EqKinds
import PyProof.TupleCall
import PyProof.StationsW
import PyProof.Commute
import PyProof.ExcClass3
import PyProof.ExcInit
import OpenK.KCls
import OpenK.KMake
import PyProof.ExcArgsOwn
import PyProof.InstStoreFacts
import PyProof.MaxThree
import KE.KMinKey
import KE.KIntText
import PyProof.DictUpdate
import PyProof.Draws
import PyProof.EnumMake
import PyProof.DictIter
import KE.KDictSum
import KE.KRevSl
import PyProof.Rows.SortStr
import PyProof.Rows.SortWalk
import PyProof.DictValues
import PyProof.DictWalks
import PyProof.MeetsDictList
import PySem.Challenge.RW_laidcells_k08_equations_with_pairs
set_option Elab.async false
set_option linter.all false
set_option compiler.extract_closed false
set_option maxRecDepth 100000
set_option maxHeartbeats 20000000
noncomputable section
abbrev Aa:=@List
abbrev Ab:=@Option
abbrev Ac:=@PySem.Value
abbrev Ad:=@PySem.Addr
abbrev Ae:=@PySem.Shared
abbrev Af:=@PySem.Str
abbrev Ag:=@PySem.Heap
abbrev Ah:=@PySem.Program
abbrev mZ:=PySem.W.Frag
abbrev aA:=@List.length_map
abbrev aB:=@PySem.wpAny_bind
abbrev aD:=@PySem.wpAny_pure
abbrev aE:=@List.mem_cons_self
abbrev aF:=@List.getElem?_eq_getElem
abbrev aG:=@List.getElem?_eq_some_iff
abbrev aH:=@List.mem_cons
abbrev aI:=@if_neg
abbrev aJ:=@List.mem_cons_of_mem
abbrev aK:=@List.mem_of_getElem?
abbrev aL:=@PySem.Heap.get?_push_of_some
abbrev aM:=@List.mem_singleton
abbrev aN:=@List.mem_map
abbrev aO:=@List.map_cons
abbrev aP:=@if_pos
abbrev aQ:=@List.mem_append
abbrev aR:=@Nat.le_refl
abbrev aT:=@PySem.Heap.lt_size
abbrev aU:=@List.getElem?_map
abbrev aV:=@List.size_toArray
abbrev aW:=@Nat.lt_of_lt_of_le
abbrev aX:=@Classical.byContradiction
abbrev aY:=@List.length_set
abbrev aZ:=@List.length_append
abbrev bA:=@List.not_mem_nil
abbrev bB:=@List.map_map
abbrev bC:=@PySem.Heap.get?_push_size
abbrev bD:=@Nat.le_trans
abbrev bE:=@Bool.false_ne_true
abbrev bF:=@List.map_append
abbrev bG:=@Nat.lt_of_le_of_lt
abbrev bH:=@Nat.ne_of_lt
abbrev bI:=@List.append_assoc
abbrev bJ:=@List.take_of_length_le
abbrev bK:=@List.mem_append_left
abbrev bL:=@List.mem_append_right
abbrev bM:=@List.nodup_append
abbrev bN:=@List.nodup_cons
abbrev bO:=@List.length_take
abbrev bP:=@List.take_add_one
abbrev bQ:=@List.mem_map_of_mem
abbrev bR:=@Option.some.inj
abbrev bS:=@List.length_cons
abbrev bT:=@List.getD_eq_getElem?_getD
abbrev bU:=@Option.map_eq_some_iff
abbrev bV:=@PySem.W.mg_none_of
abbrev bW:=@List.mem_filter
abbrev bX:=@PySem.wpAny_callSpecial?_slot
abbrev bY:=@PySem.wpAny_holding
abbrev bZ:=@List.length_range
abbrev cA:=@Bool.and_eq_true
abbrev cB:=@List.mem_range
abbrev cC:=@PySem.F.plainAttrs_list
abbrev cD:=@Int.mul_zero
abbrev cE:=@Nat.zero_le
abbrev cF:=@PySem.boot_len
abbrev cG:=@decide_eq_false
abbrev cH:=@List.getElem?_set_ne
abbrev cI:=@Int.toNat_natCast
abbrev cJ:=@PySem.wpAny_call_entry
abbrev cK:=@congrArg
abbrev cL:=@List.take_length
abbrev cM:=@Int.eq_ofNat_of_zero_le
abbrev cO:=@List.length_replicate
abbrev cP:=@Int.mul_eq_zero
abbrev cQ:=@beq_eq_false_iff_ne
abbrev cR:=@List.replicate_succ
abbrev cS:=@List.cons_append
abbrev cT:=@List.getElem?_append_right
abbrev cU:=@List.zip_cons_cons
abbrev cV:=@Array.getElem?_eq_getElem
abbrev cW:=@List.length_drop
abbrev cX:=@decide_eq_true
abbrev cY:=@PySem.wpAny_mono
abbrev cZ:=@PySem.F.slot_list_append
abbrev dB:=@PySem.F.type_list_append
abbrev dD:=@Int.mul_assoc
abbrev dF:=@PyProof.Rows.callWith_type1
abbrev dH:=@Array.getElem?_toList
abbrev dJ:=@List.length_filter_le
abbrev dL:=@PySem.W.kia_one
abbrev dN:=@List.append_nil
abbrev dO:=@PySem.F.slot_zip_next
abbrev dP:=@or_false
abbrev dQ:=@List.lookup_cons
abbrev dR:=@List.foldl_append
abbrev dU:=@Bool.false_eq_true
abbrev dX:=@Nat.le_of_lt
abbrev dY:=@Int.emod_lt_of_pos
abbrev dZ:=@List.find?_cons
abbrev eA:=@PySem.Heap.size_push
abbrev eC:=@PySem.PassesOwn.never
abbrev eD:=@PyProof.Rows.boot_isinstance
abbrev eE:=@Option.isSome_iff_exists
abbrev eF:=@PySem.wpAny_isInstance
abbrev eG:=@Nat.le_add_right
abbrev eI:=@PySem.Heap.SameBut.update
abbrev eJ:=@PySem.mem_of_lookup
abbrev eK:=@PySem.wpAny_field
abbrev eL:=@List.length_zipWith
abbrev eM:=@Int.mul_left_comm
abbrev eN:=@PyProof.Rows.boot_tuple
abbrev eO:=@Int.natAbs_mul
abbrev eP:=@PySem.Paired.length
abbrev eQ:=@Nat.lt_irrefl
abbrev eR:=@List.getElem_mem
abbrev eS:=@List.getElem?_append_left
abbrev eT:=@Array.length_toList
abbrev eU:=@of_decide_eq_true
abbrev eV:=@Ne.symm
abbrev eW:=@PySem.wpAny_newObj_type
abbrev eX:=@List.mem_iff_getElem?
abbrev eY:=@List.getElem?_eq_none
abbrev eZ:=@List.any_cons
abbrev fA:=@PySem.wpAny_attempt
abbrev fB:=@Int.emod_nonneg
abbrev fC:=@PySem.F.slot_dict_keyiterator_next
abbrev fE:=@List.length_zip
abbrev fF:=@PySem.tupleKind_room_in1
abbrev fH:=@List.filter_cons_of_pos
abbrev fJ:=@if_false
abbrev fL:=@List.getElem?_set_self
abbrev fO:=@Nat.ne_of_gt
abbrev fP:=@Int.fdiv_eq_ediv_of_nonneg
abbrev fQ:=@List.getElem?_set
abbrev fR:=@Int.zero_mul
abbrev fS:=@PyProof.Rows.boot_list
abbrev fU:=@PySem.wpAny_dictEpoch
abbrev fW:=@List.cons.injEq
abbrev fX:=@Int.mul_ne_zero
abbrev fY:=@List.getElem?_zip_eq_some
abbrev fZ:=@Int.natAbs_dvd_natAbs
abbrev gB:=@List.all_eq_true
abbrev gC:=@Sum.inr.inj
abbrev gE:=@List.nodup_nil
abbrev gF:=@PySem.Around.under_plainId
abbrev gH:=@PySem.wpAny_seqItems
abbrev gI:=@List.mem_of_mem_take
abbrev gJ:=@List.flatten_cons
abbrev gL:=@List.filter_cons_of_neg
abbrev gO:=@List.ext_getElem?
abbrev gP:=@PySem.wpAny_rule
abbrev gQ:=@List.of_mem_zip
abbrev gR:=@List.map_congr_left
abbrev gS:=@PyProof.Rows.F.plain_set_update_loop
abbrev gU:=@List.filter_eq_nil_iff
abbrev gW:=@if_true
abbrev gX:=@PySem.wpAny_typeOf
abbrev gY:=@PySem.wpAny_Call_Name_kw
abbrev gZ:=@PySem.F.slot_tuple_iterator_next
abbrev hU:=@Int.natAbs_natCast
abbrev hX:=@PySem.Heap.get?_update_self
abbrev hZ:=@PyProof.Rows.boot_sum
abbrev iB:=@List.take_append_drop
abbrev iC:=@PyProof.Rows.boot_int
abbrev iD:=@PyProof.Rows.boot_abs
abbrev iE:=@PySem.wpAny_passesOwn
abbrev iF:=@PySem.codeAny_builtin
abbrev iG:=@PySem.wpAny_pyIter_list
abbrev iH:=@Nat.mul_comm
abbrev iI:=@Nat.mul_le_mul_right
abbrev iJ:=@PySem.F.args_zip_next_1
abbrev iK:=@Nat.pow_succ
abbrev iL:=@Nat.pow_le_pow_right
abbrev iM:=@Int.mul_comm
abbrev iN:=@List.mem_iff_getElem
abbrev iO:=@List.set_eq_of_length_le
abbrev iP:=@PyProof.Rows.slot_tuple_getitem
abbrev iQ:=@List.any_eq_true
abbrev iR:=@List.getElem?_cons_zero
abbrev iS:=@List.getElem?_cons_succ
abbrev iT:=@List.perm_middle
abbrev iU:=@Nat.mul_le_mul
abbrev iW:=@List.eq_nil_iff_forall_not_mem
abbrev iX:=@PySem.F.entry_zip_next
abbrev iY:=@Nat.max_eq_right
abbrev iZ:=@List.nodup_range
abbrev jA:=@List.map_zipWith
abbrev jB:=@Nat.le_succ
abbrev jC:=@Int.mul_add
abbrev jD:=@Array.getElem?_eq_none
abbrev jE:=@PySem.wpAny_setField_rec
abbrev jF:=@PyProof.Rows.boot_dict
abbrev jG:=@List.map_singleton
abbrev jH:=@Nat.le_mul_of_pos_left
abbrev jI:=@Nat.not_lt_zero
abbrev jJ:=@List.length_nil
abbrev jK:=@Nat.min_eq_left
abbrev jL:=@List.sum_cons
abbrev jM:=@PySem.wpAny_notOrdered_dict
abbrev jN:=@PySem.F.slot_dict_get
abbrev jO:=@List.Perm.append_left
abbrev jP:=@PySem.wpAny_dictEntries
abbrev jQ:=@PySem.wpAny_truthy_bool
abbrev jR:=@List.pairwise_map
abbrev jS:=@PySem.wpAny_of_eq
abbrev jT:=@Bool.and_eq_true_iff
abbrev jU:=@Int.eq_of_mul_eq_mul_left
abbrev jV:=@List.pairwise_iff_getElem
abbrev jW:=@List.mem_or_eq_of_mem_set
abbrev jX:=@List.filterMap_cons
abbrev jY:=@PyProof.Rows.F.entry_set_update_loop
abbrev jZ:=@List.getElem?_range
abbrev kC:=@PySem.F.args_tuple_add_2
abbrev kD:=@PySem.F.slot_list_getattribute
abbrev kE:=@List.length_erase_of_mem
abbrev kF:=@List.Nodup.mem_erase_iff
abbrev kG:=@Int.mul_ediv_cancel_left
abbrev kH:=@List.nil_append
abbrev kI:=@Nat.le_antisymm
abbrev kJ:=@List.mem_filterMap
abbrev kK:=@beq_iff_eq
abbrev kL:=@PySem.Calls.spliced_cons
abbrev kM:=@PySem.call_meets
abbrev kN:=@PySem.sub_AttributeError
abbrev kO:=@PySem.Obj.data_mapFields
abbrev kQ:=@List.getElem?_drop
abbrev kR:=@Sum.inl.inj
abbrev kS:=@PySem.F.entry_tuple_add
abbrev kT:=@PySem.F.args_dict_get_3
abbrev kU:=@PySem.F.slot_list_index
abbrev kW:=@PySem.F.slot_zip_getattribute
abbrev kX:=@Nat.lt_or_ge
abbrev kY:=@Option.some.injEq
abbrev kZ:=@PySem.W.kitx_dict
abbrev lA:=@PySem.F.slot_tuple_add
abbrev lB:=@Option.isSome_map
abbrev lC:=@PySem.F.entry_dict_get
abbrev lE:=@Nat.lt_succ_of_lt
abbrev lF:=@List.getElem_cons_drop
abbrev lG:=@List.zipWith_cons_cons
abbrev lH:=@PyProof.Rows.boot_min
abbrev lI:=@PyProof.Rows.boot_max
abbrev lJ:=@beq_self_eq_true
abbrev lK:=@PySem.wpAny_pyIter_zip
abbrev lL:=@Nat.gcd_dvd_left
abbrev lM:=@PySem.plainId_quiet
abbrev lN:=@PySem.StrLaws.seqIndex_nonneg
abbrev lO:=@PySem.wpAny_execs_nil
abbrev lP:=@Bool.eq_iff_iff
abbrev lQ:=@List.foldl_cons
abbrev lR:=@List.forIn_cons
abbrev lS:=@List.dropLast_concat_getLast
abbrev lT:=@Nat.pow_le_pow_left
abbrev lU:=@Int.zero_add
abbrev lV:=@Nat.min_self
abbrev lW:=@Nat.succ.inj
abbrev lX:=@Option.isSome_some
abbrev lY:=@Nat.eq_zero_or_pos
abbrev lZ:=@List.filter_append
abbrev mB:=@List.Nodup.sublist
abbrev mC:=@PySem.wpAny_setField
abbrev mD:=@PySem.isSubtype_stop
abbrev mE:=@List.getElem?_take
abbrev mF:=@Function.comp_def
abbrev mG:=@Nat.pow_pos
abbrev mH:=@Int.neg_mul
abbrev mI:=@Int.dvd_mul_right
abbrev mJ:=@PySem.wpAny_standAt
abbrev mK:=@not_or
abbrev mL:=@Int.dvd_trans
abbrev mM:=@Nat.mul_assoc
abbrev mN:=@Nat.lt_succ_self
abbrev mO:=@Nat.min_eq_right
abbrev mP:=@List.drop_length
abbrev mQ:=@List.map_nil
abbrev mR:=@Int.sub_self
abbrev mS:=@Int.sub_zero
abbrev mT:=@Nat.succ_pos
abbrev mU:=@Nat.gcd_comm
abbrev mV:=@Int.natCast_mul
abbrev mW:=@List.range_succ
abbrev mX:=@Int.mul_neg
abbrev mY:=@Int.sub_mul
namespace L2
open PySem PySem.Spec PyProof.Rows
abbrev hG:=Sum Int Af
noncomputable def sO:hG->Ac->Bool
 | .inl k,v=>Value.isInt k v
 | .inr x,v=>Value.isStrOf x v
def MZ (w:World):hG->Int
 | .inl k=>hashInt k
 | .inr x=>hashStr w x
theorem sX:∀ {k:hG}{v:Ac},sO k v=true->(∃ i t,k=Sum.inl i/\v=Value.int i t)\/(∃ x t,k=Sum.inr x/\v=Value.str x t)
 | .inl i,v,h=>by
  obtain⟨t,e⟩:=Value.isInt_shape (k:=i) (v:=v) h;exact .inl ⟨i,t,rfl,e⟩
 | .inr x,v,h=>by
  obtain⟨t,e⟩:=Value.isStrOf_shape (x:=x) (v:=v) h;exact .inr ⟨x,t,rfl,e⟩
theorem Wq (i:Int) (t:Tok):sO (.inl i) (.int i t)=true:=by simp[sO,Value.isInt]
theorem Sb (x:Af) (t:Tok):sO (.inr x) (.str x t)=true:=by simp[sO,Value.isStrOf]
theorem CA (a b:Int):decide ((Sum.inl a:hG)=Sum.inl b)=(a == b):=by
 by_cases e:a=b
 .subst e;simp
 .have h:¬ (Sum.inl a:hG)=Sum.inl b:=λq=>e (kR q)
  rw[cG h];exact (cQ.mpr e).symm
theorem X4 (a b:Af):decide ((Sum.inr a:hG)=Sum.inr b)=decide (a=b):=by
 by_cases e:a=b
 .subst e;simp
 .have h:¬ (Sum.inr a:hG)=Sum.inr b:=λq=>e (gC q)
  rw[cG h,cG e]
theorem BR (a:Int) (b:Af):decide ((Sum.inl a:hG)=Sum.inr b)=false:=cG (λq=>nomatch q)
theorem Yx (a:Af) (b:Int):decide ((Sum.inr a:hG)=Sum.inl b)=false:=cG (λq=>nomatch q)
def oB (g:Ah) (w:World):PySem.KeyKind g w hG where
 is:=sO
 hash:=MZ w
 inj:=λv a b m f=>by
  rcases sX m with⟨i,t,rfl,rfl⟩ | ⟨x,t,rfl,rfl⟩
  .rcases sX f with⟨j,u,rfl,e⟩ | ⟨y,u,rfl,e⟩
   .injection e with c _;rw[c]
   .exact nomatch e
  .rcases sX f with⟨j,u,rfl,e⟩ | ⟨y,u,rfl,e⟩
   .exact nomatch e
   .injection e with c _;rw[c]
 byValue:=λk v h=>by
  rcases sX h with⟨i,t,rfl,rfl⟩ | ⟨x,t,rfl,rfl⟩<;>rfl
 pyHash:=λd h=>by
  rcases sX d with⟨i,t,rfl,rfl⟩ | ⟨x,t,rfl,rfl⟩
  .exact wpAny_pyHash_int h
  .exact wpAny_pyHash_str h
 eqBool:=λn d h=>by
  rcases sX n with⟨i,t,rfl,rfl⟩ | ⟨x,t,rfl,rfl⟩
  .rcases sX d with⟨j,u,rfl,rfl⟩ | ⟨y,u,rfl,rfl⟩
   .rw[CA] at h;exact wpAny_eqBool_int h
   .rw[BR] at h;exact SeqAt.EqAt.int_str i t y u _ _ _ _ h
  .rcases sX d with⟨j,u,rfl,rfl⟩ | ⟨y,u,rfl,rfl⟩
   .rw[Yx] at h;exact SeqAt.EqAt.str_int x t j u _ _ _ _ h
   .rw[X4] at h;exact wpAny_eqBool_str h
 «strs»:=λk x t v h=>by
  rcases sX h with⟨i,u,rfl,e⟩ | ⟨y,u,rfl,e⟩
  .exact nomatch e
  .injection e with c _;subst c;cases v<;>rfl
theorem X1 (g:Ah) (w:World) (i:Int) (t:Tok):(oB g w).is (.inl i) (.int i t)=true:=Wq i t
theorem MG (g:Ah) (w:World) (x:Af) (t:Tok):(oB g w).is (.inr x) (.str x t)=true:=Sb x t
abbrev MK:=Sum hG (Aa hG)
section
variable (P:Ah) (w:World)
def nZ (h:Ag):MK->Ac->Prop
 | .inl k,v=>(oB P w).is k v=true
 | .inr b,v=>∃ a,v = .ref a/\IsTupleKey (oB P w) h b a
def rL:MK->Int
 | .inl k=>(oB P w).hash k
 | .inr a=>(tupleKind (oB P w)).hash a
def uD:MK->Nat
 | .inl _=>1
 | .inr a=>a.length+1
def sF (x:MK×Ac×Ac):DictEntry:=⟨rL P w x.1,x.2.1,x.2.2⟩
end
section
variable {P:Ah}{w:World}{s:Ae}{k:MK}
theorem nZ.inj (a:nZ P w h x v) (b:nZ P w h y v):x=y:=by
 rcases x with x | x<;>rcases y with y | y
 .rw[(oB P w).inj v x y a b]
 .obtain⟨p,rfl,_⟩:=b;exact absurd ((oB P w).byValue _ _ a) (by simp[carriedByValue])
 .obtain⟨p,rfl,_⟩:=a;exact absurd ((oB P w).byValue _ _ b) (by simp[carriedByValue])
 .obtain⟨p,rfl,a⟩:=a;obtain⟨q,e,b⟩:=b;injection e with e;subst e;rw[a.inj b]
theorem nZ.keeps {j g}(a:nZ P w h x v) (r:h.get? d=some o) (hd:o.data = .dict j g) (C:Heap.SameBut d h l):nZ P w l x v:=by
 rcases x with x | x
 .exact a
 .obtain⟨p,rfl,a⟩:=a;exact⟨p,rfl,a.keeps r hd C⟩
theorem nZ.pyHash (j:A.units<cLine) (a:nZ P w s.heap x v) (g:Q (rL P w x) { s with toks:=s.toks+uD x }):wpAny (model P w) A (PySem.pyHash v) Q E s:=by
 rcases x with x | x
 .exact (oB P w).pyHash a g
 .obtain⟨p,rfl,a⟩:=a;exact (tupleKind (oB P w)).pyHash j a g
theorem N8 (t:IsTupleKey (oB P w) h g a):∃ items,h.IsTuple a items:=let ⟨o,items,n,c,b,hd,_⟩:=t;⟨items,o,c,b,n,hd⟩
theorem nZ.eqBool (j:A.units<cLine) (a:nZ P w s.heap x u) (b:nZ P w s.heap y v) (g:Q (decide (x=y)) s):wpAny (model P w) A (PySem.eqBool u v) Q E s:=by
 rcases x with x | x<;>rcases y with y | y
 .refine (oB P w).eqBool a b ?_;rw[show decide (x=y)=decide ((Sum.inl x:MK) = .inl y) from decide_eq_decide.mpr ⟨λe=>by rw[e],λe=>kR e⟩];exact g
 .obtain⟨q,rfl,b⟩:=b;obtain⟨items,t⟩:=N8 b;rw[cG (λe=>nomatch e)] at g;rcases sX (show sO x u=true from a) with⟨i,c,rfl,rfl⟩ | ⟨z,c,rfl,rfl⟩
  .exact SeqAt.EqAt.int_tuple i c t j _ _ _ _ g
  .exact SeqAt.EqAt.str_tuple z c t j _ _ _ _ g
 .obtain⟨q,rfl,a⟩:=a;obtain⟨items,t⟩:=N8 a;rw[cG (λe=>nomatch e)] at g;rcases sX (show sO y v=true from b) with⟨i,c,rfl,rfl⟩ | ⟨z,c,rfl,rfl⟩
  .exact SeqAt.EqAt.tuple_int i c t j _ _ _ _ g
  .exact SeqAt.EqAt.tuple_str z c t j _ _ _ _ g
 .obtain⟨p,rfl,a⟩:=a;obtain⟨q,rfl,b⟩:=b;refine (tupleKind (oB P w)).eqBool (x:=x) (y:=y) j a b ?_;rw[show decide (x=y)=decide ((Sum.inr x:MK) = .inr y) from decide_eq_decide.mpr ⟨λe=>by rw[e],λe=>gC e⟩];exact g
theorem nZ.quiet (a:nZ P w s.heap x v) (g:Q true s):wpAny (model P w) A (eqIsQuiet 8 v) Q E s:=by
 rcases x with x | x
 .rw[eqIsQuiet_byValue 8 ((oB P w).byValue _ _ a)];exact aD g
 .obtain⟨p,rfl,a⟩:=a;exact (tupleKind (oB P w)).quiet a g
theorem J7 {st:Aa Ac}(a:nZ P w s.heap x v) (g:∀ u∈st,∃ y,nZ P w s.heap y u) (j:Q false s):wpAny (model P w) A (tableMayTell v st) Q E s:=by
 unfold tableMayTell;split
 .exact aD j
 .refine aB (a.quiet ?_);simp only[Bool.not_true,dU,fJ];refine aB (wpAny_forIn_list _ (λrest r b=>b=s/\r=(none,())/\∀ u∈rest,∃ y,nZ P w s.heap y u) _ ?_ ?_ _ _ ⟨rfl,rfl,g⟩)
  .rintro u rest r b ⟨rfl,rfl,c⟩;obtain⟨y,d⟩:=c u aE;refine aB (d.quiet ?_);simp only[Bool.not_true,dU,fJ];exact aD ⟨rfl,rfl,λz e=>c z (aJ _ e)⟩
  .rintro r b ⟨rfl,rfl,_⟩;exact aD j
structure EM (P:Program) (w:World) (h:Heap) (d:Addr) (o:Obj) (es:Array DictEntry) (ep:Nat) (xs:List (MK×Value×Value)):Prop where
 ho:h.get? d=some o
 hc:o.ExactDict
 hd:o.data = .dict es ep
 he:es.toList=xs.map (sF P w)
 is:∀ x∈xs,nZ P w h x.1 x.2.1
 nd:(xs.map (·.1)).Nodup
variable {xs:Aa (MK×Ac×Ac)}
theorem EM.at (e:EM P w h d o g l xs) (j:Nat):g[j]?=(xs[j]?).map (sF P w):=by
 rw[<- dH,e.he,aU]
theorem EM.size (e:EM P w h d o g j xs):g.size=xs.length:=by
 rw[<- eT,e.he,aA]
theorem EM.get (e:EM P w h d o g p xs) (l:j<g.size):∃ x,xs[j]?=some x/\g[j]?=some (sF P w x)/\nZ P w h x.1 x.2.1:=by
 have a:j<xs.length:=by rw[<- e.size];exact l
 refine⟨xs[j],aF a,?_,e.is _ (eR a)⟩;rw[e.at,aF a];rfl
theorem EM.one (e:EM P w h d o C r xs){i j:Nat}{p q:Ac×Ac}(g:xs[i]?=some (k,p)) (l:xs[j]?=some (k,q)):i=j:=by
 have a:(xs.map (·.1))[i]?=some k:=by rw[aU,g];rfl
 have b:(xs.map (·.1))[j]?=some k:=by rw[aU,l];rfl
 exact (List.getElem?_inj (aG.mp a).1 e.nd).mp (a.trans b.symm)
abbrev uU (P:Ah) (w:World) (g:Array DictEntry) (k:MK):Aa Nat:=placesWithHash g.size (λi=>g[i]?.map (·.hash)) (rL P w k)
theorem EM.not_pl (e:EM P w h d o l r xs){j:Nat}(g:((l[j]?.map (·.hash)) == some (rL P w k))=false) (p:Ac×Ac):xs[j]?≠some (k,p):=λq=>by
 rw[e.at,q] at g;simp[sF] at g
theorem Pc (T:A.units<cLine) (e:EM P w s.heap d o l J xs) (I:nZ P w s.heap k key)
  (r:(∀ (j:Nat) (p:Ac×Ac),xs[j]?≠some (k,p))->Q none s) (C:∀ (j:Nat) (p:Ac×Ac),xs[j]?=some (k,p)->Q (some j) s) :
  wpAny (model P w) A (dictWalkPlain d key (rL P w k) l (uU P w l k)) Q E s:=by
 unfold dictWalkPlain;refine aB (wpAny_forIn_list _ (λrest b F=>F=s/\b=(none,())/\∃ i,rest=(List.range' i (l.size-i)).filter (λi=>(l[i]?.map (·.hash)) == some (rL P w k))/\i<=l.size /\ ∀ (j:Nat) (p:Ac×Ac),j<i->xs[j]?≠some (k,p)) _ ?_ ?_ _ _ ⟨rfl,rfl,0,by rw[uU,placesWithHash,List.range_eq_range',Nat.sub_zero],cE _,λ_ _ h=>absurd h (jI _)⟩)
 .rintro n rest b F ⟨rfl,rfl,i,D,N,f⟩;obtain⟨O,V,S,t,m⟩:=filter_range'_cons _ _ _ _ _ D.symm;have u:n<l.size:=by omega
  obtain⟨⟨z,K,X⟩,G,L,M⟩:=e.get u;have c:¬ z=k->∃ i,rest=(List.range' i (l.size-i)).filter (λi=>(l[i]?.map (·.hash)) == some (rL P w k))/\i<=l.size/\∀ (j:Nat) (p:Ac×Ac),j<i->xs[j]?≠some (k,p):=λB =>
   ⟨n+1,by rw[m];congr 2;omega,u,λj p W q=>by
    rcases kX j i with g | g
    .exact f j p g q
    .rcases kX j n with H | H
     .exact e.not_pl (t j g H) p q
     .have:j=n:=by omega
      subst this;rw[G] at q;injection q with q;injection q with q;exact B q⟩
  rw[L];dsimp only[sF];by_cases v:(rL P w z == rL P w k)=true
  .rw[aP v];refine aB (fU e.ho e.hd (aB (nZ.eqBool (x:=z) (y:=k) T M I (aB (fU e.ho e.hd ?_)))));show wpAny _ _ (if (J != J)=true then _ else _) _ E _;rw[aI (by simp)];by_cases a:z=k
   .rw[cX a];subst a;exact aB (gP (aD (aD (C n _ G))))
   .rw[cG a];exact aB (gP (aD ⟨rfl,rfl,c a⟩))
  .rw[aI v];refine aD ⟨rfl,rfl,c ?_⟩;intro a;rw[a] at v;simp at v
 .rintro b F ⟨rfl,rfl,i,D,N,f⟩;refine aD (r λj p q=>?_);rcases kX j i with g | g
  .exact f j p g q
  .have R:j<l.size:=by
    rw[e.size];exact (aG.mp q).1
   have:=gU.mp D.symm j (List.mem_range'_1.mpr ⟨g,by omega⟩);exact e.not_pl (by simpa using this) p q
theorem J4 (hu:A.units<cLine) (e:EM P w s.heap d o C T xs) (J:nZ P w s.heap k key)
  (I:(∀ (j:Nat) (p:Ac×Ac),xs[j]?≠some (k,p))->Q none s) (l:∀ (j:Nat) (p:Ac×Ac),xs[j]?=some (k,p)->Q (some j) s) (n:Nat) :
  wpAny (model P w) A (do
   let mut hit:Ab Nat:=none
   for i in uU P w C k do
    if let some e:=C[i]? then
     if e.hash == rL P w k then
      let r <- dictEpoch d (keyPart key);let same <- PySem.eqBool e.key key
      if (<- dictEpoch d (keyPart key)) != r then unsupported "dict.changed-during-lookup"
      if same then
       if hit.isSome then unsupported "dict.find:order-among-keys-of-one-hash"
       rule "dict.find.hit"
       if n<2 then return some i
       hit:=some i
      else
       rule "dict.find.same-hash-other-key"
       if false && !(0<=rL P w k&&rL P w k<32) then unsupported "dict.find:asked-again-or-not-hangs-on-the-table"
   return hit) Q E s:=by
 refine aB ?_;refine wpAny_forIn_list _
   (λrest b S=>S=s/\∃ i hit,b=(none,hit)/\rest=(List.range' i (C.size-i)).filter (λi=>(C[i]?.map (·.hash)) == some (rL P w k))/\i<=C.size /\ ((hit=none/\∀ (j:Nat) (p:Ac×Ac),j<i->xs[j]?≠some (k,p))\/∃ (j:Nat) (p:Ac×Ac),hit=some j/\j<i/\xs[j]?=some (k,p))) _ ?_ ?_ _ _
   ⟨rfl,0,none,rfl,by rw[uU,placesWithHash,List.range_eq_range',Nat.sub_zero],cE _,.inl ⟨rfl,λ_ _ h=>absurd h (jI _)⟩⟩
 .rintro m rest b S ⟨rfl,i,hit,rfl,R,Y,N⟩;obtain⟨Z,ac,ab,B,z⟩:=filter_range'_cons _ _ _ _ _ R.symm;have t:m<C.size:=by omega
  have a:rest=(List.range' (m+1) (C.size-(m+1))).filter (λi=>(C[i]?.map (·.hash)) == some (rL P w k)):=by rw[z];congr 2;omega
  obtain⟨⟨K,V,v'⟩,G,W,X⟩:=e.get t;have D:(hit=none/\∀ (j:Nat) (p:Ac×Ac),j<m->xs[j]?≠some (k,p))\/∃ (j:Nat) (p:Ac×Ac),hit=some j/\j<m/\xs[j]?=some (k,p):=by
   rcases N with⟨L,u⟩ | ⟨j,p,M,U,c⟩
   .refine .inl ⟨L,λj p v c=>?_⟩;rcases kX j i with g | g
    .exact u j p g c
    .exact e.not_pl (B j g v) p c
   .exact .inr ⟨j,p,M,by omega,c⟩
  have q:¬ K=k->((hit=none/\∀ (j:Nat) (p:Ac×Ac),j<m+1->xs[j]?≠some (k,p))\/∃ (j:Nat) (p:Ac×Ac),hit=some j/\j<m+1/\xs[j]?=some (k,p)):=by
   intro O;rcases D with⟨L,u⟩ | ⟨j,p,M,v,c⟩
   .refine .inl ⟨L,λj p v c=>?_⟩;rcases kX j m with g | g
    .exact u j p g c
    .have F:j=m:=by omega
     subst F;rw[G] at c;injection c with c;injection c with c;exact O c
   .exact .inr ⟨j,p,M,by omega,c⟩
  rw[W];dsimp only[sF];by_cases H:(rL P w K == rL P w k)=true
  .rw[aP H];refine aB (fU e.ho e.hd (aB (nZ.eqBool (x:=K) (y:=k) hu X J (aB (fU e.ho e.hd ?_)))));show wpAny _ _ (if (T != T)=true then _ else _) _ E _;rw[aI (by simp)];by_cases f:K=k
   .rw[cX f];subst f;rcases D with⟨rfl,_⟩ | ⟨j,p,_,v,c⟩
    .first | rw[aP rfl] | skip
     simp only[Option.isSome_none,dU,fJ]
     first | refine aB (aD ?_) | skip
     refine aB (gP ?_);split
     .exact aD (aD (l m _ G))
     .exact aD ⟨rfl,m+1,some m,rfl,a,t,.inr ⟨m,_,rfl,mN m,G⟩⟩
    .exact absurd (e.one c G) (by omega)
   .rw[cG f];simp only[dU,fJ];refine aB (gP ?_)
    first | rw[aI (by simp)] | skip
    first
     | exact aD ⟨rfl,m+1,hit,rfl,a,t,q f⟩
     | exact aB (aD (aD ⟨rfl,m+1,hit,rfl,a,t,q f⟩))
  .rw[aI H];refine aD ⟨rfl,m+1,hit,rfl,a,t,q ?_⟩;intro f;rw[f] at H;simp at H
 .rintro b S ⟨rfl,i,hit,rfl,R,Y,N⟩;rcases N with⟨rfl,u⟩ | ⟨j,p,rfl,_,c⟩
  .refine aD (I λj p c=>?_);rcases kX j i with g | g
   .exact u j p g c
   .have aa:j<C.size:=by
     rw[e.size];exact (aG.mp c).1
    have:=gU.mp R.symm j (List.mem_range'_1.mpr ⟨g,by omega⟩);exact e.not_pl (by simpa using this) p c
  .exact aD (l j p c)
theorem EM.stored (e:EM P w h d o g j xs) (k:MK):∀ v∈(uU P w g k).filterMap (λi=>g[i]?.map (·.key)),∃ y,nZ P w h y v:=by
 intro v n;obtain⟨i,_,b⟩:=kJ.mp n;cases a:g[i]? with
 | none=>rw[a] at b;cases b
 | some en =>
  rw[a] at b;obtain rfl:en.key=v:=by simpa using b
  have c:i<g.size:=(Array.getElem?_eq_some_iff.mp a).1;obtain⟨x,_,f,m⟩:=e.get c;rw[a] at f;cases f;exact⟨_,m⟩
theorem EM.same (e:EM P w h d o j l xs) (g:nZ P w h k (.ref a)):¬ (j.any λen=>en.key == Value.ref a&&en.hash != rL P w k)=true:=by
 rw[<- Array.any_toList,iQ];rintro ⟨en,b,i⟩;rw[e.he] at b;obtain⟨x,m,rfl⟩:=aN.mp b;simp only[sF,cA,kK,bne_iff_ne,ne_eq] at i;obtain⟨f,c⟩:=i;have:=e.is x m;rw[f] at this;exact c (by rw[this.inj g])
theorem Pw (I:A.units<cLine) (e:EM P w s.heap d o C J xs) (g:nZ P w s.heap k key)
  (l:(∀ (j:Nat) (p:Ac×Ac),xs[j]?≠some (k,p))->Q none s) (r:∀ (j:Nat) (p:Ac×Ac),xs[j]?=some (k,p)->Q (some j) s) :
  wpAny (model P w) A (dictFind d key (rL P w k)) Q E s:=by
 have u:=e.stored k;unfold dictFind
 try with_reducible refine bY ?_
 refine aB (jP e.ho e.hd ?_);rcases k with k | k
 .rcases sX (show sO k key=true from g) with⟨i,t,rfl,rfl⟩ | ⟨x,t,rfl,rfl⟩
  .dsimp only;by_cases f:((Value.int i t::(uU P w C (.inl (.inl i))).filterMap λi=>C[i]?.map (·.key)).all carriedByValue)=true
   .rw[aP f];exact Pc I e g l r
   .rw[aI f];by_cases c:(((uU P w C (.inl (.inl i))).filterMap λi=>C[i]?.map (·.key)) == [Value.int i t])=true <;>
    (first | rw[aP c] | rw[aI c])<;>(first | refine aB (aD ?_) | refine aB (J7 g u ?_))<;>(
     rw[aI (by simp)];exact J4 I e g l r _)
  .dsimp only;by_cases h:(C.all λen=>isExactStrKey en.key)=true
   .rw[aP h];have v:(λen:DictEntry=>en.key.isStr x)=λen=>sO (.inr x) en.key:=funext λen=>((oB P w).strs (.inr x) x t en.key (Sb x t)).symm
    unfold foundByValue;rw[v];cases H:C.findIdx? (λen=>sO (.inr x) en.key) with
    | none =>
     refine aD (l λj p q=>?_);have O:C[j]?=some (sF P w (.inl (.inr x),p)):=by rw[e.at,q];rfl
     have b:=Array.findIdx?_eq_none_iff.mp H _ (Array.mem_of_getElem? O);have m:=e.is _ (aK q);rw[show sO (.inr x) (sF P w (.inl (.inr x),p)).key=true from m] at b;cases b
    | some i =>
     obtain⟨z,K,_⟩:=Array.findIdx?_eq_some_iff_getElem.mp H;obtain⟨⟨N,B,R⟩,L,F,G⟩:=e.get z;have M:C[i].key=B:=by
      have:=(cV z).symm.trans F;rw[bR this];rfl
     have D:N = .inl (.inr x):=G.inj (by rw[M] at K;exact K);subst D;dsimp only;rw[F];refine aB (fU e.ho e.hd (aB (nZ.eqBool (x:=.inl (.inr x)) (y:=.inl (.inr x)) I G g (aB (fU e.ho e.hd ?_)))));show wpAny _ _ (if (J != J)=true then _ else _) _ E _;rw[aI (by simp),cX rfl];exact aB (gP (aD (r i _ L)))
   .rw[aI h];by_cases f:((Value.str x t::(uU P w C (.inl (.inr x))).filterMap λi=>C[i]?.map (·.key)).all carriedByValue)=true
    .rw[aP f];exact Pc I e g l r
    .rw[aI f];by_cases c:(((uU P w C (.inl (.inr x))).filterMap λi=>C[i]?.map (·.key)) == [Value.str x t])=true <;>
     (first | rw[aP c] | rw[aI c])<;>(first | refine aB (aD ?_) | refine aB (J7 g u ?_))<;>(
      rw[aI (by simp)];exact J4 I e g l r _)
 .obtain⟨a,rfl,hk⟩:=g;dsimp only;rw[aI (show ¬ ((Value.ref a::(uU P w C (.inr k)).filterMap (λi=>C[i]?.map (·.key))).all carriedByValue)=true by simp[carriedByValue])];have n:nZ P w s.heap (.inr k) (.ref a):=⟨a,rfl,hk⟩;rw[aI (e.same n)];by_cases c:(((uU P w C (.inr k)).filterMap λi=>C[i]?.map (·.key)) == [Value.ref a])=true <;>
  (first | rw[aP c] | rw[aI c])<;>(first | refine aB (aD ?_) | refine aB (J7 n u ?_))<;>(
   rw[aI (by simp)];exact J4 I e n l r _)
def qD (xs:Aa (MK×Ac×Ac)) (k:MK):Ab (Ac×Ac):=(xs.find? λx=>decide (x.1=k)).map (·.2)
def tI (k:MK) (v:Ac) (x:MK×Ac×Ac):MK×Ac×Ac:=if x.1=k then (x.1,x.2.1,v) else x
def sL (xs:Aa (MK×Ac×Ac)) (k:MK) (key v:Ac):Aa (MK×Ac×Ac):=if (qD xs k).isSome then xs.map (tI k v) else xs++[(k,key,v)]
theorem Rq {j:Nat}{p:Ac×Ac}(l:(xs.map (·.1)).Nodup) (g:xs[j]?=some (k,p)):qD xs k=some p:=by
 induction xs generalizing j with
 | nil=>simp at g
 | cons x rest b =>
  rw[aO,bN] at l;cases j with
  | zero =>
   simp only[iR,kY] at g;subst g;simp[qD]
  | succ j =>
   simp only[iS] at g;have a:¬ x.1=k:=λe=>l.1 (e▸aN.mpr ⟨(k,p),aK g,rfl⟩)
   have:=b l.2 g
   simpa [qD,dZ,a] using this
theorem Qd (h:∀ (j:Nat) (p:Ac×Ac),xs[j]?≠some (k,p)):qD xs k=none:=by
 have:(xs.find? λx=>decide (x.1=k))=none:=by
  rw[List.find?_eq_none];intro x c hk;obtain⟨j,b⟩:=eX.mp c;have a:x.1=k:=eU hk;exact h j x.2 (by rw[b,<- a])
 simp[qD,this]
theorem Hx (r:A.units<cLine) (e:EM P w s.heap d o I C xs) (g:nZ P w s.heap k key) (l:Q ((qD xs k).map (·.2)) { s with toks:=s.toks+uD k }) :
  wpAny (model P w) A (dictGet d key) Q E s:=by
 unfold dictGet
 try with_reducible refine bY ?_
 refine aB (nZ.pyHash r g (aB (Pw (s:={ s with toks:=s.toks+uD k }) r e g ?_ ?_)))
 .intro a;rw[Qd a] at l;exact aD l
 .intro j p b;rw[Rq e.nd b] at l;refine aB (jP (s:={ s with toks:=s.toks+uD k }) e.ho e.hd ?_);rw[e.at j,b];exact aD l
theorem GV (xs:Aa (MK×Ac×Ac)) (k:MK) (v:Ac):(xs.map (tI k v)).map (·.1)=xs.map (·.1):=by
 rw[bB];refine gR λx _=>?_
 show (tI k v x).1=x.1;unfold tI;split<;>rfl
theorem Zj (l:(xs.map (·.1)).Nodup) (g:xs[j]?=some (k,p)):(xs.map (sF P w)).modify j (λen=>{ en with val:=v })=(xs.map (tI k v)).map (sF P w):=by
 induction xs generalizing j with
 | nil=>simp at g
 | cons x rest c =>
  rw[aO,bN] at l;cases j with
  | zero =>
   simp only[iR,kY] at g;subst g;have:rest.map (tI k v)=rest:=by
    refine (gR λy b=>?_).trans (List.map_id _);unfold tI;rw[aI (λz=>l.1 (aN.mpr ⟨y,b,z⟩))];rfl
   rw[aO,aO,this,aO];unfold tI;rw[aP rfl];rfl
  | succ j =>
   simp only[iS] at g;have a:¬ x.1=k:=λe=>l.1 (e▸aN.mpr ⟨(k,p),aK g,rfl⟩)
   rw[aO,aO,aO,<- c l.2 g];unfold tI;rw[aI a];rfl
theorem T1 (U:A.units<cLine) (e:EM P w s.heap d o es J xs) (g:nZ P w s.heap k key) (aa:xs.length<=sizeLine)
  (T:∀ I o' C r,EM P w I d o' C r (sL xs k key v)->Heap.SameBut d s.heap I->Q () { s with heap:=I,toks:=s.toks+uD k }) :
  wpAny (model P w) A (dictSet d key v) Q E s:=by
 obtain⟨c,t,hd,u,f,n⟩:=id e;unfold dictSet
 try with_reducible refine bY ?_
 refine aB (nZ.pyHash U g ?_);unfold dictSetHashed
 try with_reducible refine bY ?_
 refine aB (Pw (s:={ s with toks:=s.toks+uD k }) U e g ?_ ?_)
 .intro h;have i:k∉xs.map (·.1):=λB=>by
   obtain⟨x,b,rfl⟩:=aN.mp B;obtain⟨j,m⟩:=eX.mp b;exact h j x.2 m
  have a:sL xs k key v=xs++[(k,key,v)]:=by unfold sL;rw[Qd h];rfl
  refine aB (gP (wpAny_updateDictKeys (hz:=by have z:=e.size;omega) (s:={ s with toks:=s.toks+uD k }) c hd (T _ _ _ (J+1) ⟨hX _ c (Obj.isFreed_of_dict (Obj.data_mapDictKeys hd _)),
   t.mapDictKeys _,Obj.data_mapDictKeys hd _,?_,?_,?_⟩ (eI ..))))
  .rw[a];simp[u,sF]
  .rw[a];intro x b;rcases aQ.mp b with b | b
   .exact (f x b).keeps c hd (eI ..)
   .simp only[aM] at b;subst b;exact g.keeps c hd (eI ..)
  .rw[a,bF,bM];refine⟨n,by simp,?_⟩;intro x b y q;simp only[aO,mQ,aM] at q;subst q;exact λz=>i (z▸b)
 .intro j p m;have a:sL xs k key v=xs.map (tI k v):=by unfold sL;rw[Rq n m];rfl
  refine aB (gP (aB (wpAny_updateDict (s:={ s with toks:=s.toks+uD k }) c hd (wpAny_point (T _ _ _ J ⟨hX _ c (Obj.isFreed_of_dict (Obj.data_mapDict hd _)),
   t.mapDict _,Obj.data_mapDict hd _,?_,?_,?_⟩ (eI ..))))))
  .rw[a];have:=Zj (P:=P) (w:=w) (v:=v) n m;rw[<- u] at this;obtain⟨l⟩:=es
   simpa using this
  .rw[a];intro x b;obtain⟨y,q,rfl⟩:=aN.mp b;unfold tI;split<;>exact (f y q).keeps c hd (eI ..)
  .rw[a,GV];exact n
theorem EM.typeIs (e:EM P w s.heap d o j g xs):s.TypeIs (.ref d) "dict" := ⟨o,e.ho,e.hc.1⟩
theorem Wa (j:A.units+1<cLine) (e:EM P w s.heap d o r l xs) (g:nZ P w s.heap k key) (hd:(d == sysModules)=false)
  (h:Q (.bool (!(qD xs k).isSome)) { s with toks:=s.toks+uD k }):wpAny (model P w) A (compareOp .NotIn key (.ref d)) Q E s:=by
 show wpAny _ _ (do return .bool (!(<- contains (.ref d) key))) Q E s;refine aB ?_;unfold contains
 try with_reducible refine bY ?_
 refine aB (wpAny_specialOf e.typeIs slot_dict_contains.lookup ?_);show wpAny _ _ (if (some (Value.builtin "dict.__contains__") == some Value.none)=true then _ else _) _ E s;rw[aI (by rw[beq_builtin_none];exact bE)];refine aB (wpAny_callSpecialUnlessNone?_slot (name:=Str.ofString "__contains__") e.typeIs slot_dict_contains (cJ slot_dict_contains e.typeIs entry_dict_contains ?_ (args_dict_contains _ _)));show wpAny _ _ (dictGet d key >>= _) _ _ s;refine aB (Hx (fF (K:=hG) (knd:=oB P w) j) e g ?_);cases a:qD xs k with
 | some p =>
  rw[a] at h;show wpAny _ _ (ret (.bool true)) _ _ _;exact aD ⟨_,rfl,jQ (aD h)⟩
 | none =>
  rw[a] at h;show wpAny _ _ (Builtin.Dict.pendingKey? d key >>= _) _ _ _;exact aB (wpAny_pendingKey_other hd (aD ⟨_,rfl,jQ (aD h)⟩))
theorem BY (l:A.units+1<cLine) (e:EM P w s.heap d o C r xs) (g:nZ P w s.heap k key) (j:qD xs k=some p)
  (h:Q p.2 { s with toks:=s.toks+uD k }):wpAny (model P w) A (getItem (.ref d) key) Q E s:=by
 unfold getItem
 try with_reducible refine bY ?_
 refine aB (wpAny_sequenceKey e.typeIs (by decide) ?_);refine aB (bX (name:=Str.ofString "__getitem__") e.typeIs slot_dict_getitem (cJ slot_dict_getitem e.typeIs entry_dict_getitem ?_ (args_dict_getitem _ _)));show wpAny _ _ (dictGet d key >>= _) _ _ s;refine aB (Hx (fF (K:=hG) (knd:=oB P w) l) e g ?_);rw[j];exact aD ⟨p.2,rfl,aD h⟩
theorem Me (J:A.units+1<cLine) (e:EM P w s.heap d o U T xs) (p:nZ P w s.heap k key) (r:xs.length<=sizeLine)
  (I:∀ l C j g,EM P w l d C j g (sL xs k key v)->Heap.SameBut d s.heap l->Q () { s with heap:=l,toks:=s.toks+uD k }) :
  wpAny (model P w) A (setItem (.ref d) key v) Q E s:=by
 unfold setItem
 try with_reducible refine bY ?_
 refine aB (wpAny_sequenceKey e.typeIs (by decide) ?_);refine aB (bX (name:=Str.ofString "__setitem__") e.typeIs slot_dict_setitem (cJ slot_dict_setitem e.typeIs entry_dict_setitem ?_ (args_dict_setitem _ _ _)));show wpAny _ _ (Builtin.Dict.notOrdered "__setitem__" ⟨[.ref d,key,v],[]⟩ >>= _) _ _ s;refine aB (jM e.typeIs ?_);show wpAny _ _ (dictSet d key v >>= _) _ _ s;exact aB (T1 (fF (K:=hG) (knd:=oB P w) J) e p r λl C j g a b=>aD ⟨.none,rfl,aD (I l C j g a b)⟩)
theorem HF (hd:(d == sysModules)=false) (key dflt:Ac):MeetsIn P w (Builtin.«dict.get» ⟨[.ref d,key,dflt],[]⟩) (λA R s=>A.in1.units<cLine/\∃ k o j g xs,EM P w s.heap d o j g xs/\nZ P w s.heap k key /\ R (.ok (.ret (((qD xs k).map (·.2)).getD dflt))) { s with toks:=s.toks+uD k }) :=
 .of_wp λA R s b=>by
  obtain⟨f,k,o,j,g,xs,e,a,h⟩:=b;show wpAny _ _ (dictGet d key >>= _) _ _ s;refine aB (Hx f e a ?_);cases c:(qD xs k).map (·.2) with
  | some v =>
   rw[c] at h;exact aD ⟨v,rfl,h⟩
  | none =>
   rw[c] at h;show wpAny _ _ (Builtin.Dict.missed d key >>= _) _ _ _;exact aB (wpAny_missed_other hd (aD ⟨dflt,rfl,h⟩))
end
inductive V where
 | e | b (b:Bool) | int (i:Int) | str (x:Str) | byt (b:Array UInt8) | flt (b:UInt64) | ref (a:Addr) | ty (n:String)
 deriving DecidableEq
def nF:V->Ac->Prop
 | .e,u=>u=Value.none
 | .b b,u=>u=Value.bool b
 | .int i,u=>∃ t,u=Value.int i t
 | .str x,u=>∃ t,u=Value.str x t
 | .byt b,u=>∃ t,u=Value.bytes b t
 | .flt b,u=>∃ t,u=Value.float b t
 | .ref a,u=>u=Value.ref a
 | .ty n,u=>u=Value.type n
abbrev nE:Aa V->Aa Ac->Prop:=Paired nF
theorem nE.length (r:nE j g):j.length=g.length:=eP r
theorem nE.get:∀ {j:Aa V}{g:Aa Ac}{i:Nat}{x:V},nE j g->j[i]?=some x->∃ u,g[i]?=some u/\nF x u
 | _,_,_,_,.nil,e=>by simp at e
 | _,_,0,_,.cons r _,e=>by simp at e;subst e;exact⟨_,rfl,r⟩
 | _,_,i+1,x,.cons _ t,e=>by
  obtain⟨u,a,b⟩:=nE.get (i:=i) (x:=x) t (by simpa using e);exact⟨u,by simpa using a,b⟩
theorem nE.set (r:nF x u):∀ {j:Aa V}{g:Aa Ac}(i:Nat),nE j g->nE (j.set i x) (g.set i u)
 | _,_,_,.nil=>.nil
 | _,_,0,.cons _ t=>.cons r t
 | _,_,i+1,.cons q t=>.cons q (nE.set r i t)
theorem nE.append:∀ {l o:Aa V}{g j:Aa Ac},nE l g->nE o j->nE (l++o) (g++j)
 | _,_,_,_,.nil,s=>s
 | _,_,_,_,.cons r t,s=>.cons r (nE.append t s)
theorem nE.take:∀ {j:Aa V}{g:Aa Ac}(n:Nat),nE j g->nE (j.take n) (g.take n)
 | _,_,0,_=>.nil
 | _,_,_+1,.nil=>.nil
 | _,_,n+1,.cons r t=>.cons r (nE.take n t)
theorem nE.drop:∀ {j:Aa V}{g:Aa Ac}(n:Nat),nE j g->nE (j.drop n) (g.drop n)
 | _,_,0,r=>r
 | _,_,_+1,.nil=>.nil
 | _,_,n+1,.cons _ t=>nE.drop n t
def sV:Ab V->Ab Ac->Prop
 | some v,some u=>nF v u
 | none,none=>True
 | _,_=>False
def KV {g:Type}:Aa (g×V)->Aa (g×Ac)->Prop:=Paired λ(p:g×V) (q:g×Ac)=>p.1=q.1/\nF p.2 q.2
def kV:hG->V
 | .inl i=>.int i
 | .inr x=>.str x
inductive HO where
 | l (xs:List V)
 | t (xs:List V)
 | k (kvs:List (hG×V)) | T (kvs:List (List hG×V)) | dM (kvs:List (MK×V))
 | set (S:Int->Bool) (n:Nat)
 | ins (C dx:Addr) (fs:List (Str×V))
 | o (x:Addr)
 | xd (fs:List (Str×V))
 | met (f x:Addr)
 | rng (lo hi:Int)
 | frz (o:Obj) (u:HO)
 | tbl (ps:Array Value)
 | ext (φ:Heap->Prop)
abbrev Hp:=Ad->Ab HO
def upd (H:Hp) (a:Ad) (o:HO):Hp:=λb=>if b=a then some o else H b
theorem hI:upd H a o a=some o:=by unfold upd;rw[if_pos rfl]
theorem gV (h:b≠a):upd H a o b=H b:=by unfold upd;rw[if_neg h]
theorem AB:upd (upd H a o) a u=upd H a u:=by
 funext b;unfold upd;split<;>rfl
theorem yZ {H:Hp}{a b:Ad}{o u:HO}(h:H a=some o) (g:H b=some u) (d:o≠u):a≠b:=by
 intro e;subst e;rw[h] at g;exact d (bR g)
theorem nB {H:Hp}{a b:Ad}{o:HO}(h:H a=some o) (g:H b=none):a≠b:=by
 intro e;subst e;rw[h] at g;cases g
section
variable (P:Ah) (w:World)
def vX (h:Ag) (a:Ad) (items:Array Ac):Prop:=IsTup h a items/\∃ o,h.get? a=some o/\o.dict=none
theorem vX.new (h:Ag) (items:Array Ac):vX (h.push { cls:=.type "tuple",data:=.seq items }) h.objs.size items:=⟨IsTup.new _ _,_,bC _ rfl,rfl⟩
def tZ (H:Hp):MK->V->Prop
 | .inl k,y=>y=kV k
 | .inr a,y=>∃ b,y = .ref b/\H b=some (.t (a.map kV))
def tS (H:Hp):MK->Ac->Prop
 | .inl k,u=>nF (kV k) u
 | .inr a,u=>∃ b,u = .ref b/\H b=some (.t (a.map kV))
def oG (H:Hp) (h:Ag) (a:Ad):HO->Prop
 | .l c=>c.length<=sizeLine/\∃ (d:Aa Ac) (n:Nat),nE c d/\h.get? a=some { cls:=.type "list",data:=.seq d.toArray n }
 | .t c=>c.length<=sizeLine/\∃ d:Aa Ac,nE c d/\vX h a d.toArray
 | .k b=>b.length<=sizeLine/\(a == sysModules)=false/\∃ B,KV b B/\h.DictOf (oB P w) a B
 | .T b=>b.length<=sizeLine/\(a == sysModules)=false/\∃ c:Aa (Aa hG×Ad×Ac),
   Paired (λ(p:Aa hG×V) (q:Aa hG×Ad×Ac)=>p.1=q.1/\H q.2.1=some (.t (p.1.map kV))/\nF p.2 q.2.2) b c /\
   ∃ o i s,h.get? a=some o/\o.ExactDict/\o.data = .dict i s/\i.toList=c.map (entryOfKey (tupleKind (oB P w)))/\(c.map (·.1)).Nodup
 | .dM b=>b.length<=sizeLine/\(a == sysModules)=false/\∃ c:Aa (MK×Ac×Ac),
   Paired (λ(p:MK×V) (q:MK×Ac×Ac)=>p.1=q.1/\tS H p.1 q.2.1/\nF p.2 q.2.2) b c /\
   ∃ o i s,h.get? a=some o/\o.ExactDict/\o.data = .dict i s/\i.toList=c.map (sF P w)/\(c.map (·.1)).Nodup
 | .set S n=>h.SetOf (intKind P w) a S n
 | .ins C m fs=>H m=some (.o a)/\fs.length<=1000/\m≠a/\h.get? a=some (PySem.W.instObj C m) /\
   ∃ e,h.Ns1 m e/\(∀ f,sV (fs.lookup f) (e f))/\PySem.Within e (fs.map (·.1))
 | .o _=>∃ o,h.get? a=some o
 | .xd fs=>∃ e,h.Ns1 a e/\∀ f,sV (fs.lookup f) (e f)
 | .rng lo D=>∃ t u v,h.get? a=some { cls:=.type "range",data:=.fields #[.int lo t,.int D u,.int 1 v] }
 | .frz o u=>h.get? a=some o/\oG H h a u
 | .tbl E=>h.get? a=some { cls:=.none,data:=.fields E }
 | .met f x=>h.get? a=some (PySem.W.methodObj (.ref f) (.ref x))
 | .ext y=>y h/\(∃ o,h.get? a=some o)/\∀ z A:Ag,y z->(∀ o,z.get? a=some o->A.get? a=some o)->y A
def oO (H:Hp) (h:Ag):Prop:=∀ a o,H a=some o->oG P w H h a o
end
section
variable {P:Ah}
theorem oG.lt (x:oG P w H h a o):a<h.objs.size:=by
 cases o with
 | l c=>obtain⟨_,_,_,_,e⟩:=x;exact aT e
 | t c=>obtain⟨_,_,_,p,_⟩:=x;exact p.lt
 | k b=>obtain⟨_,_,_,_,o,_,_,e,_⟩:=x;exact aT e
 | T b=>obtain⟨_,_,_,_,o,_,_,e,_⟩:=x;exact aT e
 | dM b=>obtain⟨_,_,_,_,o,_,_,e,_⟩:=x;exact aT e
 | set S n=>obtain⟨o,_,_,_,e,_⟩:=x;exact aT e
 | ins C d fs=>obtain⟨_,_,_,e,_⟩:=x;exact aT e
 | o y=>obtain⟨_,e⟩:=x;exact aT e
 | xd fs=>obtain⟨_,⟨_,_,_,e,_⟩,_⟩:=x;exact aT e
 | rng lo i=>obtain⟨_,_,_,e⟩:=x;exact aT e
 | frz m u=>obtain⟨e,_⟩:=x;exact aT e
 | tbl q=>exact aT (show h.get? a=some _ from x)
 | met f y=>exact aT (show h.get? a=some _ from x)
 | ext s=>obtain⟨_,⟨_,e⟩,_⟩:=x;exact aT e
theorem Paired.mapP {F:l->o->Prop}:∀ {g:Aa l}{j:Aa o},Paired F g j->(∀ a b,F a b->G a b)->Paired G g j
 | _,_,.nil,_=>.nil
 | _,_,.cons r t,f=>.cons (f _ _ r) (Paired.mapP t f)
theorem Rr (l:∀ b g,H b=some (.t g)->j b=some (.t g)) (h:tS H k u):tS j k u:=by
 rcases k with k | a
 .exact h
 .obtain⟨b,e,q⟩:=h;exact⟨b,e,l _ _ q⟩
theorem oG.stay (x:oG P w H h a o) (k:∀ b u,(b=a\/H b=some (.o a))->h.get? b=some u->j.get? b=some u)
  (U:∀ b,H b=some (.o a)->I b=some (.o a)) (J:∀ b g,H b=some (.t g)->I b=some (.t g)):oG P w I j a o:=by
 induction o with
 | l g=>obtain⟨z,A,n,r,e⟩:=x;exact⟨z,A,n,r,k _ _ (.inl rfl) e⟩
 | t g=>obtain⟨z,A,r,⟨i,e,c⟩,M,D,K⟩:=x;exact⟨z,A,r,⟨i,k _ _ (.inl rfl) e,c⟩,M,k _ _ (.inl rfl) D,K⟩
 | k B=>obtain⟨z,y,N,r,i,s,m,e,c⟩:=x;exact⟨z,y,N,r,i,s,m,k _ _ (.inl rfl) e,c⟩
 | T B =>
  obtain⟨z,y,g,r,i,s,m,e,c⟩:=x;exact⟨z,y,g,Paired.mapP r λp q z=>⟨z.1,J _ _ z.2.1,z.2.2⟩,i,s,m,k _ _ (.inl rfl) e,c⟩
 | dM B =>
  obtain⟨z,y,g,r,i,s,m,e,c⟩:=x;exact⟨z,y,g,Paired.mapP r λp q z=>⟨z.1,Rr J z.2.1,z.2.2⟩,i,s,m,k _ _ (.inl rfl) e,c⟩
 | set S n=>obtain⟨i,s,m,t,e,c⟩:=x;exact⟨i,s,m,t,k _ _ (.inl rfl) e,c⟩
 | ins C O fs =>
  obtain⟨d,z,ne,e,E,⟨F,s,m,D,c⟩,r⟩:=x;exact⟨U _ d,z,ne,k _ _ (.inl rfl) e,E,⟨F,s,m,k _ _ (.inr d) D,c⟩,r⟩
 | o y=>obtain⟨i,e⟩:=x;exact⟨i,k _ _ (.inl rfl) e⟩
 | xd fs=>obtain⟨E,⟨F,s,m,e,c⟩,r⟩:=x;exact⟨E,⟨F,s,m,k _ _ (.inl rfl) e,c⟩,r⟩
 | rng lo Q=>obtain⟨t,u,v,e⟩:=x;exact⟨t,u,v,k _ _ (.inl rfl) e⟩
 | frz i u L=>obtain⟨e,q⟩:=x;exact⟨k _ _ (.inl rfl) e,L q⟩
 | tbl G =>
  have e:h.get? a=some { cls:=.none,data:=.fields G }:=x;show j.get? a=some { cls:=.none,data:=.fields G };exact k a _ (.inl rfl) e
 | met f y =>
  have e:h.get? a=some (PySem.W.methodObj (.ref f) (.ref y)):=x;show j.get? a=some (PySem.W.methodObj (.ref f) (.ref y));exact k a _ (.inl rfl) e
 | ext R=>obtain⟨p,⟨o,e⟩,st⟩:=x;exact⟨st _ _ p λo q=>k _ _ (.inl rfl) q,⟨o,k _ _ (.inl rfl) e⟩,st⟩
theorem oO.lt (x:oO P w H h) (e:H a=some o):a<h.objs.size:=(x a o e).lt
theorem oO.fresh (x:oO P w H h) (e:h.objs.size<=a):H a=none:=by
 cases q:H a with
 | none=>rfl
 | some u=>exact absurd (aW (x.lt q) e) (eQ _)
theorem oO.kept (x:oO P w H h) (k:∀ b u,h.get? b=some u->h'.get? b=some u):oO P w H h':=λa o e =>
 (x a o e).stay (λb u _ q=>k b u q) (λ_ q=>q) λ_ _ q=>q
theorem oO.laid (x:oO P w H h) (k:∀ b u,h.get? b=some u->g.get? b=some u) (j:h.objs.size<=a) (new:oG P w (upd H a o) g a o):oO P w (upd H a o) g:=λb u e=>by
 have f:=x.fresh j;by_cases d:b=a
 .subst d;rw[hI] at e;cases e;exact new
 .rw[gV d] at e;exact (x b u e).stay (λc v _ q=>k c v q) (λc q=>by rw[gV (nB q f)];exact q) λc i q=>by rw[gV (nB q f)];exact q
end
def Rd (H:Hp) (a:Ad) (u:HO):Prop:=H a=some u\/∃ o,H a=some (.frz o u)
theorem Rd.ok {P:Ah}(r:Rd H a u) (x:oO P w H h):oG P w H h a u:=by
 rcases r with r | ⟨o,r⟩
 .exact x a u r
 .obtain⟨_,q⟩:=x a _ r;exact q
def Dg:Ab HO->Prop
 | some (.l _)=>True
 | some (.k _)=>True
 | some (.T _)=>True
 | some (.dM _)=>True
 | some (.set _ _)=>True
 | some (.ins _ _ _)=>True
 | some (.ext _)=>True
 | _=>False
section
variable {P:Ah}
theorem oO.write (ok:oO P w H h) (g:Dg (H x)) (p:e=x\/H e=some (.o x)) (k:∀ b u,b≠e->h.get? b=some u->j.get? b=some u) (l:∃ u,j.get? e=some u)
  (new:oG P w (upd H x C) j x C):oO P w (upd H x C) j:=λb u q=>by
 have d:∀ c y,H c=some (.o y)->c≠x:=λc y r z=>by subst z;rw[r] at g;exact g
 have f:∀ c n,H c=some (.t n)->c≠x:=λc n r z=>by subst z;rw[r] at g;exact g
 by_cases i:b=x
 .subst i;rw[hI] at q;cases q;exact new
 .rw[gV i] at q;by_cases a:b=e
  .have s:H b=some (.o x):=by
    rcases p with z | z
    .exact absurd (a.trans z) i
    .rw[a];exact z
   rw[q] at s;cases s;obtain⟨v,A⟩:=l;exact⟨v,by rw[a];exact A⟩
  .refine (ok b u q).stay (λc v m r=>k c v ?_ r) (λc r=>by rw[gV (d c b r)];exact r) λc n r=>by rw[gV (f c n r)];exact r
   rcases m with rfl | m
   .exact a
   .rintro rfl;rcases p with z | z
    .exact d c b m z
    .rw[m] at z;cases z;exact i rfl
end
structure Un (fs ex:List Addr) (H H':Hp) (h h':Heap):Prop where
 keep:∀ b o,h.get? b=some o->H b=none->b∉fs->b∉ex->h'.get? b=some o
 slot:∀ b o,h.get? b=some o->H b=none->b∈fs->b∉ex->∃ sl,h'.get? b=some { o with slots:=sl }
 free:∀ b o,h.get? b=some o->H b=none->b∉ex->H' b=none
 there:∀ b o,h.get? b=some o->b∉ex->∃ o',h'.get? b=some o'
 tups:∀ b xs,H b=some (.t xs)->H' b=some (.t xs)
 frzs:∀ b o u,H b=some (.frz o u)->H' b=some (.frz o u)
 tbls:∀ b ps,H b=some (.tbl ps)->∃ more,H' b=some (.tbl (ps++more))
section
theorem Un.any (u:Un fs l H p h o) (q:h.get? b=some g) (n:H b=none) (j:b∉l):∃ sl,o.get? b=some { g with slots:=sl }:=by
 by_cases a:b∈fs
 .exact u.slot b g q n a j
 .exact⟨g.slots,u.keep b g q n a j⟩
theorem Un.kept (k:∀ b u,h.get? b=some u->h'.get? b=some u):Un fs g H H h h' :=
 ⟨λb a q _ _ _=>k b a q,λb a q _ _ _=>⟨a.slots,k b a q⟩,λ_ _ _ n _=>n,λb a q _=>⟨a,k b a q⟩,λ_ _ q=>q,λ_ _ _ q=>q,λ_ c q=>⟨#[],by rw[q];simp⟩⟩
theorem Un.refl:Un fs g H H h h:=Un.kept λ_ _ q=>q
theorem Un.laid (k:∀ b u,h.get? b=some u->j.get? b=some u) (l:h.objs.size<=a) (g:H a=none):Un fs p H (upd H a o) h j where
 keep:=λb u q _ _ _=>k b u q
 slot:=λb u q _ _ _=>⟨u.slots,k b u q⟩
 free:=λb u q n _=>by rw[gV (bH (aW (aT q) l))];exact n
 there:=λb u q _=>⟨u,k b u q⟩
 tups:=λb c q=>by rw[gV (nB q g)];exact q
 frzs:=λb u c q=>by rw[gV (nB q g)];exact q
 tbls:=λb d q=>⟨#[],by rw[gV (nB q g),q];simp⟩
theorem Un.write (g:Dg (H x)) (p:e=x\/H e=some (.o x)) (k:∀ b u,b≠e->h.get? b=some u->l.get? b=some u) (j:∃ u,l.get? e=some u):Un fs C H (upd H x o) h l:=by
 have f:∀ b,H b=none->b≠x:=λb n z=>by subst z;rw[n] at g;exact g
 have d:∀ b,H b=none->b≠e:=λb n z=>by
  subst z;rcases p with r | r
  .exact f b n r
  .rw[n] at r;cases r
 have c:∀ b u,H b=some u->¬ Dg (some u)->b≠x:=λb u q i z=>by subst z;rw[q] at g;exact i g
 refine⟨λb u q n _ _=>k b u (d b n) q,λb u q n _ _=>⟨u.slots,k b u (d b n) q⟩,λb u q n _=>by rw[gV (f b n)];exact n,λb u q _=>?_,
  λb m q=>by rw[gV (c b _ q λz=>z)];exact q,λb u m q=>by rw[gV (c b _ q λz=>z)];exact q,λb s q=>⟨#[],by rw[gV (c b _ q λz=>z),q];simp⟩⟩
 by_cases a:b=e
 .subst a;exact j
 .exact⟨u,k b u a q⟩
end
noncomputable def F0 (h:Ag) (H:Hp):Aa Ad:=(List.range h.objs.size).filter λa=>(H a).isSome
def wB (h:Ag) (H:Hp):Ag:=PySem.W.hideAll h (F0 h H)
theorem X6 (h:Ag) (H:Hp):(wB h H).objs.size=h.objs.size:=PySem.W.hideAll_size _ _
theorem Zs (e:h.get? b=some o) (n:H b=none):(wB h H).get? b=some o :=
 PySem.W.hideAll_get _ e λa=>by
  have q:(H b).isSome=true:=(bW.mp a).2;rw[n] at q;simp at q
theorem CJ (e:(wB h H).get? b=some o):h.get? b=some o/\H b=none:=by
 have a:h.get? b=some o:=PySem.W.of_hideAll (F0 h H) e;refine⟨a,?_⟩;cases q:H b with
 | none=>rfl
 | some x =>
  have c:b∈F0 h H:=bW.mpr ⟨cB.mpr (aT a),by simp[q]⟩;have z:(wB h H).get? b=none:=PySem.W.hideAll_none (F0 h H) c;rw[z] at e;cases e
structure Mod (K:mZ) (mg:Str->Option Value) (base:Heap):Prop where
 kin:K.In base
 glob:base.Ns mainGlobals mg
 blt:∃ mb,base.Ns builtinsNs mb/\∀ x:Str,x ≠ "__name__" -> mb x=bootBuiltins x
 nolimit:base.NoLimit
/-- the context: a def's body (or a comprehension's block) running. base: fixed through the whole law;s₀,H₀: the entry;outer: the frames whose slots others may change (a def's callers);stack: all frames that run;
 ex: iterators that were made ahead of the entry and are walked here (a comprehension's);fn: the names whose cells were made at the entry (a def: all;a comprehension's block: its own);calm: not within an except suite;pn: pins that every state bears;xe: what is wanted of an exception that leaves the code -/
structure Cx where
 prog:Program
 w:World
 K:mZ
 mg:Str->Option Value
 base:Heap
 A:Around
 N:List Str
 s₀:Shared
 H₀:Hp
 env:Env
 outer:List Env
 stack:List Env
 ex:List Addr
 fn:Str->Bool
 calm:Bool
 pn:List (Addr×Obj)
 xe:Value->Shared->Prop
noncomputable def tW (l:Aa Env):Aa Ad:=l.filterMap (·.frame)
abbrev Cx.fs (X:Cx):Aa Ad:=tW X.outer
def Kc (g:Scope) (x:Af):Prop:=g.names.lookup x=some .local\/g.names.lookup x=some .cell\/g.names.lookup x=some .free
def uN (g:Scope) (x:Af):Prop:=g.names.lookup x=some .local\/g.names.lookup x=some .cell
def W0 (g:Env) (h:Ag) (m:Af->Ab Ac) (x:Af) (u:Ac):Prop :=
 (g.kindOf x=some .local/\m x=some u)\/((g.kindOf x=some .cell\/g.kindOf x=some .free)/\∃ c,g.cells.lookup x=some c/\h.IsCell c (some u))
structure Cx.Ok (X:Cx):Prop where
 mod:Mod X.K X.mg X.base
 kind:X.env.scope.kind = .function
 glob:X.env.globals=mainGlobals
 blt:X.env.builtins=builtinsNs
 above:X.s₀.heap.objs.size<=X.env.locals
 inj:∀ x y c,X.env.cells.lookup x=some c->X.env.cells.lookup y=some c->x=y
 has:∀ x,(X.env.kindOf x=some .cell\/X.env.kindOf x=some .free)->∃ c,X.env.cells.lookup x=some c
 cab:∀ x c,X.fn x=true->X.env.cells.lookup x=some c->X.s₀.heap.objs.size<=c
 hd:X.calm=true->X.A.handled=none
 frames:X.A.frames=some X.stack
 stk:X.stack=X.outer\/(X.stack=X.env::X.outer/\X.env.frame=some X.env.locals)
 exf:∀ b∈X.ex,b≠X.env.locals/\∀ x c,X.env.cells.lookup x=some c->c≠b
 bs:∀ b o,X.base.get? b=some o->X.s₀.heap.get? b=some o/\X.H₀ b=none
 bsz:X.base.objs.size<=X.s₀.heap.objs.size
 noex:∀ b o,X.base.get? b=some o->b∉X.ex
 exfs:∀ b∈X.ex,b∉X.fs
 funs:X.s₀.heap.FunFrames X.base X.outer
 frf:∀ b∈X.fs,X.H₀ b=none
structure Inv (X:Cx) (pins:List (Addr×Obj)) (σ:List (Option V)) (H:Hp) (s:Shared):Prop where
 ok:X.Ok
 os:s.os=X.s₀.os
 bare:AllBare s.gens
 base:Un X.fs X.ex X.H₀ H X.s₀.heap s.heap
 loc:∃ m,s.heap.Ns X.env.locals m/\∀ (i:Nat) (x:Str) (v:V),X.N[i]?=some x->σ[i]?=some (some v)->Kc X.env.scope x->∃ u,nF v u/\W0 X.env s.heap m x u
 cell:∀ x c,X.env.cells.lookup x=some c->∃ v,s.heap.IsCell c v
 free:H X.env.locals=none
 freeC:∀ x c,X.env.cells.lookup x=some c->H c=none
 pin:∀ p∈X.pn++pins,s.heap.get? p.1=some p.2/\H p.1=none/\p.1≠X.env.locals/\p.1∉X.fs/\∀ v,p.2.data ≠ .cell v
 hok:oO X.prog X.w H s.heap
 len:σ.length=X.N.length
section
variable {X:Cx}
theorem Cx.Ok.nofr (ok:X.Ok) (e:X.base.get? b=some o):b∉X.fs:=λa=>by
 have:=(ok.funs.mem a).1;rw[e] at this;cases this
theorem Inv.bs (I:Inv X g j H s):∀ b o,X.base.get? b=some o->s.heap.get? b=some o/\H b=none:=λb o e =>
 ⟨I.base.keep b o (I.ok.bs b o e).1 (I.ok.bs b o e).2 (I.ok.nofr e) (I.ok.noex b o e),I.base.free b o (I.ok.bs b o e).1 (I.ok.bs b o e).2 (I.ok.noex b o e)⟩
theorem Inv.bk (I:Inv X g j H s):∀ b o,X.base.get? b=some o->s.heap.get? b=some o:=λb o e=>(I.bs b o e).1
theorem Inv.mod (I:Inv X g j H s):Mod X.K X.mg X.base:=I.ok.mod
theorem Inv.kIn (I:Inv X g j H s):X.K.In s.heap:=I.ok.mod.kin.keeps I.bk
theorem Inv.lt (I:Inv X g j H s):X.env.locals<s.heap.objs.size:=let ⟨_,a,_⟩:=I.loc;a.lt
theorem Inv.sz (I:Inv X g j H s):X.s₀.heap.objs.size<=s.heap.objs.size:=bD I.ok.above (dX I.lt)
theorem Inv.nofs (I:Inv X g j H s) (h:s.heap.objs.size<=a):a∉X.fs:=λb=>by
 obtain⟨_,o,c,_⟩:=I.ok.funs.mem b;exact absurd (aW (aT c) (bD I.sz h)) (eQ _)
theorem Inv.cne (I:Inv X g j H s):∀ x c,X.env.cells.lookup x=some c->c≠X.env.locals:=λx c e z=>by
 obtain⟨v,o,d,hd⟩:=I.cell x c e;obtain⟨m,⟨i,h,f,b,a,_⟩,_⟩:=I.loc;rw[z,b] at d;cases d;rw[a] at hd;cases hd
theorem Inv.funs (I:Inv X g j H s):s.heap.FunFrames X.base X.outer:=by
 have all:∀ (l:Aa Env),(∀ b∈tW l,b∈X.fs)->X.s₀.heap.FunFrames X.base l->s.heap.FunFrames X.base l:=by
  intro l;induction l with
  | nil=>intro _ _;trivial
  | cons h r q =>
   intro f i;obtain⟨hk,⟨L,o,d,k,m,hd⟩,n⟩:=i;have a:L∈X.fs:=f L (by unfold tW;rw[List.filterMap_cons,d];exact aE);obtain⟨sl,e⟩:=I.base.slot L o m (I.ok.frf L a) a λz=>I.ok.exfs L z a
   exact⟨hk,⟨L,_,d,k,e,hd⟩,q (λb c=>f b (by unfold tW;rw[List.filterMap_cons,d];exact aJ _ c)) n⟩
 exact all X.outer (λ_ c=>c) I.ok.funs
theorem Inv.stack (I:Inv X g j H s):s.heap.FunFrames X.base X.stack:=by
 rcases I.ok.stk with e | ⟨e,a⟩
 .rw[e];exact I.funs
 .rw[e];obtain⟨m,b,_⟩:=I.loc;refine .cons (by rw[I.ok.kind];decide) a b ?_ I.funs;exact Heap.get?_none_of_le (bD I.ok.bsz I.ok.above)
theorem Inv.stkSub (I:Inv X g j H s):∀ b∈tW X.stack,b∈X.env.locals::X.fs:=λb a=>by
 rcases I.ok.stk with e | ⟨e,c⟩
 .rw[e] at a;exact aJ _ a
 .rw[e] at a;unfold tW at a;rw[jX,c] at a;exact a
theorem Inv.stkFree (I:Inv X g j H s):∀ b∈tW X.stack,H b=none:=λb a=>by
 rcases aH.mp (I.stkSub b a) with e | a
 .rw[e];exact I.free
 .obtain⟨_,o,c,_⟩:=I.ok.funs.mem a;exact I.base.free b o c (I.ok.frf b a) λz=>I.ok.exfs b z a
theorem Inv.step {g':Array GenState}{t':Nat}{d':Drawn}{ch:Aa Ad}(I:Inv X j σ H s)
  (g:∀ b∈ch,(b∈X.ex\/X.s₀.heap.objs.size<=b)/\b≠X.env.locals/\(∀ x c,X.env.cells.lookup x=some c->c≠b)/\∀ p∈X.pn++j,p.1≠b)
  (keep:∀ b o,b≠X.env.locals->b∉X.fs->b∉ch->s.heap.get? b=some o->H b=none->J.get? b=some o)
  (slot:∀ b o,b≠X.env.locals->b∈X.fs->b∉ch->s.heap.get? b=some o->H b=none->∃ sl,J.get? b=some { o with slots:=sl }) (free:∀ b o,b∉ch->s.heap.get? b=some o->H b=none->T b=none)
  (there:∀ b o,b∉ch->s.heap.get? b=some o->∃ o',J.get? b=some o')
  (ab:∀ b C,H b=some (.t C)->T b=some (.t C)) (U:∀ b o u,H b=some (.frz o u)->T b=some (.frz o u)) (aa:∀ b ps,H b=some (.tbl ps)->∃ more,T b=some (.tbl (ps++more)))
  (ns:∀ m,s.heap.Ns X.env.locals m->J.Ns X.env.locals m) (ac:oO X.prog X.w T J) (hg:AllBare g') :
  Inv X j σ T { s with heap:=J,gens:=g',drawn:=d',toks:=t' }:=by
 have F:∀ b o,X.s₀.heap.get? b=some o->b≠X.env.locals:=λb o e=>bH (aW (aT e) I.ok.above)
 have A:∀ b o,X.s₀.heap.get? b=some o->b∉X.ex->b∉ch:=λb o e a B=>by
  rcases (g b B).1 with z | z
  .exact a z
  .exact absurd (aW (aT e) z) (eQ _)
 have f:∀ x c,X.env.cells.lookup x=some c->∀ v,s.heap.IsCell c v->J.IsCell c v:=λx c e v G=>by
  obtain⟨o,D,hd⟩:=G;have h:c∉ch:=λz=>(g c z).2.2.1 x c e rfl
  by_cases L:c∈X.fs
  .obtain⟨sl,q⟩:=slot c o (I.cne x c e) L h D (I.freeC x c e);exact⟨_,q,hd⟩
  .exact⟨o,keep c o (I.cne x c e) L h D (I.freeC x c e),hd⟩
 refine⟨I.ok,I.os,hg,⟨λb o e n B a=>?_,λb o e n B a=>?_,λb o e n a=>?_,λb o e a=>?_,λb C e=>ab b C (I.base.tups b C e),λb o C e=>U b o C (I.base.frzs b o C e),λb ps e=>?_⟩,?_,λx c e=>?_,?_,λx c e=>?_,λp M=>?_,ac,I.len⟩
 .exact keep b o (F b o e) B (A b o e a) (I.base.keep b o e n B a) (I.base.free b o e n a)
 .obtain⟨sl,y⟩:=I.base.slot b o e n B a;obtain⟨K,E⟩:=slot b _ (F b o e) B (A b o e a) y (I.base.free b o e n a);exact⟨K,E⟩
 .obtain⟨o',y⟩:=I.base.there b o e a;exact free b o' (A b o e a) y (I.base.free b o e n a)
 .obtain⟨o',y⟩:=I.base.there b o e a;exact there b o' (A b o e a) y
 .obtain⟨R,y⟩:=I.base.tbls b ps e;obtain⟨S,E⟩:=aa b _ y;exact⟨R++S,by rw[E,Array.append_assoc]⟩
 .obtain⟨m,Q,P⟩:=I.loc;refine⟨m,ns m Q,λi x v y E O=>?_⟩;obtain⟨u,r,l⟩:=P i x v y E O;refine⟨u,r,?_⟩;rcases l with l | ⟨k,c,e,z⟩
  .exact .inl l
  .exact .inr ⟨k,c,e,f x c e _ z⟩
 .obtain⟨v,z⟩:=I.cell x c e;exact⟨v,f x c e v z⟩
 .obtain⟨m,⟨o,_,_,D,_⟩,_⟩:=I.loc;exact free _ o (λz=>(g _ z).2.1 rfl) D I.free
 .obtain⟨v,o,D,hd⟩:=I.cell x c e;exact free c o (λz=>(g c z).2.2.1 x c e rfl) D (I.freeC x c e)
 .obtain⟨e,n,ne,N,d⟩:=I.pin p M;have h:p.1∉ch:=λz=>(g p.1 z).2.2.2 p M rfl
  exact⟨keep p.1 p.2 ne N h e n,free p.1 p.2 h e n,ne,N,d⟩
theorem Inv.un (I:Inv X g p H s) (u:Un X.fs [] H l s.heap h') (j:oO X.prog X.w l h'):Inv X g p l { s with heap:=h',toks:=t' }:=by
 obtain⟨m,⟨o,v,t,h,r⟩,_⟩:=id I.loc;obtain⟨sl,i⟩:=u.any h I.free (by simp);exact I.step (g':=s.gens) (d':=s.drawn) (ch:=[]) (λ_ z=>nomatch z) (λb o _ f _ e n=>u.keep b o e n f (by simp)) (λb o _ f _ e n=>u.slot b o e n f (by simp)) (λb o _ e n=>u.free b o e n (by simp)) (λb o _ e=>u.there b o e (by simp)) u.tups u.frzs u.tbls (λx k=>by
  obtain⟨y,d,c,a,q⟩:=k;rw[h] at a;cases a;exact⟨_,d,c,i,q⟩) j I.bare
theorem Inv.call (I:Inv X g T H s) (u:Un (tW X.stack) ch H C s.heap h') (l:oO X.prog X.w C h') (J:AllBare g')
  (j:∀ b∈ch,(b∈X.ex\/X.s₀.heap.objs.size<=b)/\b≠X.env.locals/\(∀ x c,X.env.cells.lookup x=some c->c≠b)/\∀ p∈X.pn++g,p.1≠b) :
  Inv X g T C { s with heap:=h',gens:=g',drawn:=d',toks:=t' }:=by
 obtain⟨m,⟨o,A,y,k,r⟩,_⟩:=id I.loc;obtain⟨sl,i⟩:=u.any k I.free λz=>(j _ z).2.1 rfl
 exact I.step (ch:=ch) j (λb o i q a e n=>u.keep b o e n (λz=>(aH.mp (I.stkSub b z)).elim i q) a) (λb o _ _ a e n=>u.any e n a) (λb o a e n=>u.free b o e n a) (λb o a e=>u.there b o e a) u.tups u.frzs u.tbls (λB t=>by
  obtain⟨D,h,f,d,v⟩:=t;rw[k] at d;cases d;exact⟨_,h,f,i,v⟩) l J
theorem Inv.turned (I:Inv X j σ H s) (k:∀ b o,b≠g->s.heap.get? b=some o->C.get? b=some o) (hn:H g=none) (l:g≠X.env.locals)
  (J:g∈X.ex\/X.s₀.heap.objs.size<=g) (T:∀ x c,X.env.cells.lookup x=some c->c≠g) (U:∀ p∈X.pn++j,p.1≠g):Inv X j σ H { s with heap:=C,toks:=t' }:=by
 have d:∀ b u,H b=some u->b≠g:=λb u e z=>by rw[z,hn] at e;cases e
 refine I.step (g':=s.gens) (d':=s.drawn) (ch:=[g]) (λb i=>?_) (λb o _ _ a e _=>k b o (λz=>a (by simp[z])) e) (λb o _ _ a e _=>⟨o.slots,k b o (λz=>a (by simp[z])) e⟩) (λ_ _ _ _ n=>n)
  (λb o a e=>⟨o,k b o (λz=>a (by simp[z])) e⟩) (λ_ _ e=>e) (λ_ _ _ e=>e) (λb y e=>⟨#[],by rw[e];simp⟩) (λm t=>?_) (λb u e=>?_) I.bare
 .have e:b=g:=by simpa using i
  subst e;exact⟨J,l,T,U⟩
 .obtain⟨o,h,f,w,r⟩:=t;exact⟨o,h,f,k _ o (eV l) w,r⟩
 .refine (I.hok b u e).stay (λc v a q=>k c v ?_ q) (λ_ q=>q) λ_ _ q=>q
  rcases a with z | z
  .rw[z];exact d b u e
  .exact d c _ z
theorem Inv.tok (I:Inv X g j H s) (t:Nat):Inv X g j H { s with toks:=t }:=I.un (h':=s.heap) (t':=t) Un.refl I.hok
theorem Inv.kept (I:Inv X g j H s) (k:∀ b u,s.heap.get? b=some u->h'.get? b=some u):Inv X g j H { s with heap:=h',toks:=t' }:=I.un (Un.kept k) (I.hok.kept k)
theorem Inv.laid (I:Inv X g p H s) (k:∀ b u,s.heap.get? b=some u->l.get? b=some u) (j:s.heap.objs.size<=a) (new:oG X.prog X.w (upd H a o) l a o) :
  Inv X g p (upd H a o) { s with heap:=l,toks:=t' }:=I.un (Un.laid k j (I.hok.fresh j)) (I.hok.laid k j new)
theorem Inv.write (I:Inv X j C H s) (r:Dg (H x)) (p:e=x\/H e=some (.o x)) (k:∀ b u,b≠e->s.heap.get? b=some u->l.get? b=some u) (g:∃ u,l.get? e=some u)
  (new:oG X.prog X.w (upd H x o) l x o):Inv X j C (upd H x o) { s with heap:=l,toks:=J }:=I.un (Un.write r p k g) (I.hok.write r p k g new)
theorem Inv.pins_of (I:Inv X j l H s) (h:∀ p∈g,s.heap.get? p.1=some p.2/\H p.1=none/\p.1≠X.env.locals/\p.1∉X.fs/\∀ v,p.2.data ≠ .cell v):Inv X g l H s :=
 ⟨I.ok,I.os,I.bare,I.base,I.loc,I.cell,I.free,I.freeC,λp a=>(aQ.mp a).elim (λz=>I.pin p (bK _ z)) (h p),I.hok,I.len⟩
theorem M8 {N:Aa Af}(g:N.Nodup){i j:Nat}{x:Af}(a:N[i]?=some x) (b:N[j]?=some x):i=j:=by
 obtain⟨e,c⟩:=aG.mp a;obtain⟨f,d⟩:=aG.mp b;exact (List.getElem_inj g).mp (c.trans d.symm)
theorem U2 (I:Inv X C σ H s) (hN:X.N.Nodup) (l:X.N[i]?=some x) (g:uN X.env.scope x) (r:nF v u)
  (h:∀ s',Inv X C (σ.set i (some v)) H s'->(∃ a,Heap.SameBut a s.heap s'.heap/\(a=X.env.locals\/X.env.cells.lookup x=some a))->Q () s') (hf:X.fn x=true\/X.env.scope.names.lookup x=some .local:=by first | exact .inl rfl | exact .inr rfl | assumption):wpAny M A (storeName X.env x u) Q E s:=by
 obtain⟨m,hn,hl⟩:=id I.loc;have W:(X.env.scope.kind == .class||(X.env.scope.kind == .module&&X.env.locals != X.env.globals))=false:=by rw[I.ok.kind];rfl
 have K:i<σ.length:=by rw[I.len];exact (aG.mp l).1
 have cne:=I.cne;have B:∀ {a:Ad} {R:Ag},(∃ o,s.heap.get? a=some o/\H a=none)->Heap.SameBut a s.heap R->oO X.prog X.w H R:=λ{a R} ha f b ob e=>by
  obtain⟨_,_,F⟩:=ha;refine (I.hok b ob e).stay (λc T D q=>(f.2 c ?_).trans q) (λ_ q=>q) λ_ _ q=>q
  rintro rfl;rcases D with rfl | D
  .rw[F] at e;cases e
  .rw[F] at D;cases D
 rcases g with hk | hk
 .refine wpAny_storeName_local hk hn (λR aa f=>?_) W;obtain⟨oL,_,_,ab,_⟩:=id hn;refine h _ ⟨I.ok,I.os,I.bare,⟨λb o e n L g=>?_,λb o e n L g=>?_,I.base.free,λb o e g=>?_,I.base.tups,I.base.frzs,I.base.tbls⟩,⟨_,aa,λj y v' t G U=>?_⟩,λy c e=>?_,I.free,I.freeC,λp hp=>?_,B ⟨oL,ab,I.free⟩ f,by simpa using I.len⟩ ⟨_,f,.inl rfl⟩
  .exact (f.2 b (bH (aW (aT e) I.ok.above))).trans (I.base.keep b o e n L g)
  .obtain⟨sl,t⟩:=I.base.slot b o e n L g;exact⟨sl,(f.2 b (bH (aW (aT e) I.ok.above))).trans t⟩
  .obtain⟨o',t⟩:=I.base.there b o e g;exact⟨o',(f.2 b (bH (aW (aT e) I.ok.above))).trans t⟩
  .by_cases P:j=i
   .subst P;rw[l] at t;cases t;rw[fL K] at G;cases G;exact⟨u,r,.inl ⟨hk,by simp⟩⟩
   .rw[cH (eV P)] at G;obtain⟨u',r',q⟩:=hl j y v' t G U;refine⟨u',r',?_⟩;rcases q with⟨k,e⟩ | ⟨k,c,e,z⟩
    .refine .inl ⟨k,?_⟩;have:y≠x:=λe=>P (M8 hN t (e▸l))
     simp[this,e]
    .exact .inr ⟨k,c,e,z.sameBut f (cne y c e)⟩
  .obtain⟨T,z⟩:=I.cell y c e;exact⟨T,z.sameBut f (cne y c e)⟩
  .obtain⟨e,n,ne,nf,d⟩:=I.pin p hp;exact⟨(f.2 p.1 ne).trans e,n,ne,nf,d⟩
 .have O:X.fn x=true:=by
   rcases hf with z | z
   .exact z
   .rw[z] at hk;cases hk
  obtain⟨c,D⟩:=I.ok.has x (.inl hk);obtain⟨T,z⟩:=I.cell x c D;refine wpAny_storeName_cell I.ok.kind hk D z (λR S f=>?_);obtain⟨oc,Y,Z⟩:=id z;refine h { s with heap:=R } ⟨I.ok,I.os,I.bare,⟨λb o e n L g=>?_,λb o e n L g=>?_,I.base.free,λb o e g=>?_,I.base.tups,I.base.frzs,I.base.tbls⟩,⟨m,hn.sameBut f (eV (cne x c D)),λj y v' t G U=>?_⟩,λy J e=>?_,I.free,I.freeC,λp hp=>?_,B ⟨oc,Y,I.freeC x c D⟩ f,by simpa using I.len⟩ ⟨c,f,.inr D⟩
  .exact (f.2 b (bH (aW (aT e) (I.ok.cab x c O D)))).trans (I.base.keep b o e n L g)
  .obtain⟨sl,t⟩:=I.base.slot b o e n L g;exact⟨sl,(f.2 b (bH (aW (aT e) (I.ok.cab x c O D)))).trans t⟩
  .obtain⟨o',t⟩:=I.base.there b o e g;exact⟨o',(f.2 b (bH (aW (aT e) (I.ok.cab x c O D)))).trans t⟩
  .by_cases P:j=i
   .subst P;rw[l] at t;cases t;rw[fL K] at G;cases G;exact⟨u,r,.inr ⟨.inl hk,c,D,S⟩⟩
   .rw[cH (eV P)] at G;obtain⟨u',r',q⟩:=hl j y v' t G U;refine⟨u',r',?_⟩;rcases q with q | ⟨k,J,e,z'⟩
    .exact .inl q
    .refine .inr ⟨k,J,e,z'.sameBut f ?_⟩;rintro rfl;exact P (M8 hN t (I.ok.inj _ _ _ e D▸l))
  .by_cases V:J=c
   .subst V;exact⟨_,S⟩
   .obtain⟨w2,z2⟩:=I.cell y J e;exact⟨w2,z2.sameBut f V⟩
  .obtain⟨e,n,ne,nf,d⟩:=I.pin p hp;refine⟨(f.2 p.1 ?_).trans e,n,ne,nf,d⟩;intro q;rw[q,Y] at e;have q':oc=p.2:=bR e;exact d T (by rw[<- q'];exact Z)
theorem Ex (I:Inv X g J H s) (l:X.N.Nodup) (p:X.N[i]?=some x) (C:uN X.env.scope x) (r:nF v u)
  (h:∀ j,Inv X g (J.set i (some v)) H j->Q () j) (o:X.fn x=true\/X.env.scope.names.lookup x=some .local:=by first | exact .inl rfl | exact .inr rfl | assumption):wpAny M A (storeName X.env x u) Q E s :=
 U2 I l p C r (λj a _=>h j a) o
theorem Inv.call' (I:Inv X g J H s) (C:s'.os=s.os) (u:Un (tW X.stack) ch H o s.heap s'.heap) (l:oO X.prog X.w o s'.heap) (r:AllBare s'.gens)
  (j:∀ b∈ch,(b∈X.ex\/X.s₀.heap.objs.size<=b)/\b≠X.env.locals/\(∀ x c,X.env.cells.lookup x=some c->c≠b)/\∀ p∈X.pn++g,p.1≠b):Inv X g J o s':=by
 obtain⟨i,d,a,h,f⟩:=s';have e:f=s.os:=C;subst e;exact I.call (g':=d) (t':=h) (d':=a) u l r j
end
abbrev XK:=Ac->Ab Ad->Hp->Prop
abbrev St:=Aa (Ab V)
abbrev VK:=V->Hp->Prop
abbrev TE:=St->Hp->VK->Prop
abbrev TT:=St->Hp->(Bool->Hp->Prop)->Prop
abbrev TA:=St->Hp->(Aa V->Hp->Prop)->Prop
structure Ends where
 nx:St->Hp->Prop
 rt:VK
 bk:St->Hp->Prop:=λ_ _=>False
 ct:St->Hp->Prop:=λ_ _=>False
abbrev TS:=Ends->St->Hp->Prop
def EP (X:Cx) (g:Aa (Ad×Obj)) (l:St) (Q:VK) (u:Ac) (j:Ae):Prop:=∃ v a,Inv X g l a j/\nF v u/\Q v a
def TP (X:Cx) (g:Aa (Ad×Obj)) (l:St) (Q:Bool->Hp->Prop) (b:Bool) (j:Ae):Prop:=∃ a,Inv X g l a j/\Q b a
def AP (X:Cx) (g:Aa (Ad×Obj)) (o:St) (Q:Aa V->Hp->Prop) (l:Aa Ac) (j:Ae):Prop:=∃ b a,Inv X g o a j/\nE b l/\Q b a
def SP (X:Cx) (g:Aa (Ad×Obj)) (D:Ends) (f:Flow) (j:Ae):Prop :=
 match f with
 | .next=>∃ a b,Inv X g a b j/\D.nx a b
 | .brk=>∃ a b,Inv X g a b j/\D.bk a b
 | .cont=>∃ a b,Inv X g a b j/\D.ct a b
 | .ret u=>∃ v a b,Inv X g a b j/\nF v u/\D.rt v b
def PE (X:Cx) (e:Expr) (t:TE):Prop :=
 ∀ (a:Aa (Ad×Obj)) (s:Ae) (b:St) (H:Hp) (Q:VK),Inv X a b H s->t b H Q->wpAny (model X.prog X.w) X.A (eval e X.env) (EP X a b Q) X.xe s
def PT (X:Cx) (e:Expr) (t:TT):Prop :=
 ∀ (a:Aa (Ad×Obj)) (s:Ae) (b:St) (H:Hp) (Q:Bool->Hp->Prop),Inv X a b H s->t b H Q->wpAny (model X.prog X.w) X.A (isTrue e X.env (eval e X.env)) (TP X a b Q) X.xe s
def PW (X:Cx) (e:Expr) (t:TT):Prop :=
 ∀ (whole:Sem Ac) (a:Aa (Ad×Obj)) (s:Ae) (b:St) (H:Hp) (Q:Bool->Hp->Prop),Inv X a b H s->t b H Q->wpAny (model X.prog X.w) X.A (isTrue e X.env whole) (TP X a b Q) X.xe s
theorem PW.pt {X:Cx}(h:PW X e t):PT X e t:=h _
def PA (X:Cx) (g:Aa Expr) (t:TA):Prop :=
 ∀ (pos:Pos) (a:Aa (Ad×Obj)) (s:Ae) (b:St) (H:Hp) (Q:Aa V->Hp->Prop),Inv X a b H s->t b H Q->wpAny (model X.prog X.w) X.A (spliced (backTo pos (starEach g X.env))) (AP X a b Q) X.xe s
def PS (X:Cx) (st:Stmt) (t:TS):Prop :=
 ∀ (a:Aa (Ad×Obj)) (s:Ae) (b:St) (H:Hp) (D:Ends),Inv X a b H s->t D b H->wpAny (model X.prog X.w) X.A (exec st X.env) (SP X a D) X.xe s
def pS (X:Cx) (st:Aa Stmt) (t:TS):Prop :=
 ∀ (a:Aa (Ad×Obj)) (s:Ae) (b:St) (H:Hp) (D:Ends),Inv X a b H s->t D b H->wpAny (model X.prog X.w) X.A (execs st X.env) (SP X a D) X.xe s
theorem nD (h:wpAny M A t Q E s) (j:∀ a s,Q a s->g a s):wpAny M A t g E s:=cY h j λ_ _ x=>x
section
variable {X:Cx}
def pY (i:Nat):TE:=λa H Q=>∃ v,a[i]?=some (some v)/\Q v H
def tC (v:V):TE:=λ_ H Q=>Q v H
theorem EX (j:X.N[i]?=some x) (o:Kc X.env.scope x) (hd:(x == ("__debug__" : Af))=false:=by decide) (g:(x == ("__classdict__" : Af))=false:=by decide):PE X (.Name x pos) (pY i):=by
 intro b s q H Q I h;obtain⟨v,e,h⟩:=h;obtain⟨m,n,f⟩:=I.loc;obtain⟨u,r,l⟩:=f i x v j e o;have fin:EP X b q Q u s:=⟨v,H,I,r,h⟩;rcases l with⟨hk,k⟩ | ⟨hk,c,d,a⟩
 .exact wpAny_Name (wpAny_loadName_local I.ok.kind hk n k fin) hd
 .rcases hk with hk | hk
  .exact wpAny_Name (wpAny_loadName_cell I.ok.kind hk d a fin) hd
  .exact wpAny_Name (wpAny_loadName_free I.ok.kind hk d a fin g) hd
theorem nW {i j pos}:PE X (.Constant (.int i) j pos) (tC (.int i)):=λ_ _ _ H _ I h=>wpAny_Constant_int ⟨.int i,H,I.tok _,⟨_,rfl⟩,h⟩
theorem Yb {b j pos}:PE X (.Constant (.bool b) j pos) (tC (.b b)):=λ_ _ _ H _ I h=>Constant_bool ⟨.b b,H,I,rfl,h⟩
theorem vC {x j pos}:PE X (.Constant (.str x) j pos) (tC (.str x)):=λ_ _ _ H _ I h=>Calls.Constant_str ⟨.str x,H,I.tok _,⟨_,rfl⟩,h⟩
def Gl (X:Cx) (x:Af):Prop:=X.env.kindOf x=some .globalImplicit
theorem Vb (I:Inv X g o H s) (j:Gl X x) (l:X.mg x=some u) (h:Q u s)
  (hd:(x == ("__debug__" : Af))=false:=by decide):wpAny (model X.prog X.w) X.A (eval (.Name x pos) X.env) Q E s :=
 Calls.Name_function_global I.ok.kind j (Calls.loadGlobal_global (by rw[I.ok.glob];exact I.mod.glob.keeps I.bk) l h) hd
theorem wD (I:Inv X g r H s) (j:Gl X x) (l:X.mg x=none) (p:bootBuiltins x=some u) (h:Q u s)
  (o:x ≠ "__name__" := by decide) (hd:(x == ("__debug__" : Af))=false:=by decide):wpAny (model X.prog X.w) X.A (eval (.Name x pos) X.env) Q E s:=by
 obtain⟨c,a,b⟩:=I.mod.blt;exact Calls.Name_function_global I.ok.kind j (Calls.loadGlobal_builtin (by rw[I.ok.glob];exact I.mod.glob.keeps I.bk) l (by rw[I.ok.blt];exact a.keeps I.bk) ((b x o).trans p) h) hd
theorem Ws (g:Gl X x) (j:X.mg x=none) (o:bootBuiltins x=some u) (r:nF v u) (l:x ≠ "__name__" := by decide) (hd:(x == ("__debug__" : Af))=false:=by decide):PE X (.Name x pos) (tC v) :=
 λ_ _ _ H _ I h=>wD I g j o ⟨v,H,I,r,h⟩ l hd
def PC (X:Cx) (op:CmpOp) (a b:Expr) (t:TE):Prop :=
 ∀ (c:Aa (Ad×Obj)) (s:Ae) (f:St) (H:Hp) (Q:VK),Inv X c f H s->t f H Q ->
  wpAny (model X.prog X.w) X.A (eval a X.env) (λv d=>wpAny (model X.prog X.w) X.A (eval b X.env) (λu e=>wpAny (model X.prog X.w) X.A (compareOp op v u) (EP X c f Q) X.xe e) X.xe d) X.xe s
def tB (t:TE):TT:=λd H Q=>t d H λx a=>∃ c,x = .b c/\Q c a
theorem Xz (h:PC X op a b t) (g:behindInMarks op b=false:=by first | exact nobehind _ (by decide) (by decide) | rfl):PT X (.Compare a [op] [b] pos) (tB t):=by
 intro e s y H Q I hw;refine wpAny_isTrue_Compare1 (nD (h e s y H _ I hw) λv z g=>nD g λu A m=>nD m λc B f=>?_) g;obtain⟨x,i,k,w,n⟩:=f;obtain⟨d,rfl,q⟩:=n;cases w;exact jQ ⟨i,k,q⟩
variable {rest:Aa Expr}
def GO (t u:TT):TT:=λb H Q=>t b H λc a=>if c=true then u b a Q else Q false a
def CZ (t u:TT):TT:=λb H Q=>t b H λc a=>if c=true then Q true a else u b a Q
def EA (t:TT):TT:=λb H Q=>t b H λc a=>Q (!c) a
theorem Xs (g:PT X a j):PW X (.BoolOp .And [a] pos) j:=by
 intro i b s d H Q I h;refine isTrue_and (nD (g b s d H Q I h) λc f e=>?_);cases c with
 | true=>exact isTrue_and_nil e
 | false=>exact e
theorem LF (g:PT X a j):PW X (.BoolOp .Or [a] pos) j:=by
 intro i b s d H Q I h;refine isTrue_or (nD (g b s d H Q I h) λc f e=>?_);cases c with
 | false=>exact isTrue_or_nil e
 | true=>exact e
theorem Vy (j:PT X a o) (l:PW X (.BoolOp .And (b::rest) pos) g):PW X (.BoolOp .And (a::b::rest) pos) (GO o g):=by
 intro q d s m H Q I h;refine isTrue_and (nD (j d s m H _ I h) λc n e=>?_);obtain⟨f,i,k⟩:=e;cases c with
 | true=>exact l q d n m f Q i k
 | false=>exact⟨f,i,k⟩
theorem Zh (j:PT X a o) (l:PW X (.BoolOp .Or (b::rest) pos) g):PW X (.BoolOp .Or (a::b::rest) pos) (CZ o g):=by
 intro q d s m H Q I h;refine isTrue_or (nD (j d s m H _ I h) λc n e=>?_);obtain⟨f,i,k⟩:=e;cases c with
 | true=>exact⟨f,i,k⟩
 | false=>exact l q d n m f Q i k
theorem JV (g:PT X a j):PT X (.UnaryOp .Not a pos) (EA j):=by
 intro b s e H Q I h;exact isTrue_not (g b s e H (λc d=>Q (!c) d) I h)
def FN (t:TT) (g j:TE):TE:=λa H Q=>t a H λc b=>if c=true then g a b Q else j a b Q
theorem Zv (l:PT X c o) (g:PE X a p) (j:PE X b r):PE X (.IfExp c a b pos) (FN o p r):=by
 intro e s i H Q I h;refine wpAny_IfExp (nD (l e s i H _ I h) λd q f=>?_);obtain⟨k,m,n⟩:=f;cases d with
 | true=>exact g e q i k Q m n
 | false=>exact j e q i k Q m n
end
def eH (K:mZ) (H:Hp) (a:Ad) (g:Aa V):Prop :=
 Rd H a (.l g) \/
  ∃ (o:Obj) (b:Array Ac) (n:Nat),K.lookup a=some o/\o.cls = .type "list" /\ o.dict=none/\o.data = .seq b n/\b.size<=sizeLine/\nE g b.toList
def nQ (K:mZ) (H:Hp) (a:Ad) (g:Aa V):Prop :=
 Rd H a (.t g) \/
  ∃ (o:Obj) (b:Array Ac) (n:Nat),K.lookup a=some o/\o.cls = .type "tuple" /\ o.data = .seq b n/\b.size<=sizeLine/\nE g b.toList
noncomputable def Vt:Ac->Ab V
 | .none=>some .e
 | .bool b=>some (.b b)
 | .int i _=>some (.int i)
 | .str x _=>some (.str x)
 | .bytes b _=>some (.byt b)
 | .float b _=>some (.flt b)
 | .ref a=>some (.ref a)
 | .type n=>some (.ty n)
 | _=>none
theorem nF.abs (r:nF x u):Vt u=some x:=by
 cases x with
 | e=>cases r;rfl
 | b _=>cases r;rfl
 | int _=>obtain⟨t,rfl⟩:=r;rfl
 | str _=>obtain⟨t,rfl⟩:=r;rfl
 | byt _=>obtain⟨t,rfl⟩:=r;rfl
 | flt _=>obtain⟨t,rfl⟩:=r;rfl
 | ref _=>cases r;rfl
 | ty _=>cases r;rfl
theorem nF.inj (r:nF x u) (q:nF y u):x=y:=bR (r.abs.symm.trans q.abs)
theorem nE.inj:∀ {j l:Aa V}{g:Aa Ac},nE j g->nE l g->j=l
 | _,_,_,.nil,.nil=>rfl
 | _,_,_,.cons r t,.cons a b=>by rw[r.inj a,nE.inj t b]
section
variable {X:Cx}
theorem eH.of {K:mZ}(h:H a=some (.l xs)):eH K H a xs:=.inl (.inl h)
theorem nQ.of {K:mZ}(h:H a=some (.t xs)):nQ K H a xs:=.inl (.inl h)
theorem Inv.list (I:Inv X j p H s) (h:eH X.K H a l):∃ g:Aa Ac,nE l g/\PlainL s.heap a g.toArray/\l.length<=sizeLine:=by
 rcases h with h | ⟨o,g,n,hk,b,hd,c,d,r⟩
 .obtain⟨z,g,n,r,e⟩:=h.ok I.hok;exact⟨g,r,⟨_,n,e,rfl,rfl,rfl⟩,z⟩
 .refine⟨g.toList,r,⟨o,n,I.kIn a o hk,b,hd,by simpa using c⟩,?_⟩;have e:=r.length;simp only[eT] at e;omega
theorem Inv.tuple (I:Inv X j C H s) (h:nQ X.K H a l):∃ g:Aa Ac,nE l g/\IsTup s.heap a g.toArray/\l.length<=sizeLine:=by
 rcases h with h | ⟨o,g,n,hk,b,c,d,r⟩
 .obtain⟨z,g,r,p,_⟩:=h.ok I.hok;exact⟨g,r,p,z⟩
 .refine⟨g.toList,r,⟨o,I.kIn a o hk,b,n,by simpa using c⟩,?_⟩;have e:=r.length;simp only[eT] at e;omega
theorem Inv.list_inj (I:Inv X g C H s) (h:eH X.K H a l) (j:eH X.K H a p):l=p:=by
 obtain⟨c,r,⟨o,n,e,_,_,d⟩,_⟩:=I.list h;obtain⟨b,k,⟨q,m,i,_,_,f⟩,_⟩:=I.list j;rw[e] at i;cases i;rw[d] at f;injection f with d1 _;have:c=b:=by simpa using cK Array.toList d1
 subst this;exact r.inj k
theorem Inv.tuple_inj (I:Inv X g C H s) (h:nQ X.K H a l) (j:nQ X.K H a p):l=p:=by
 obtain⟨c,r,⟨o,e,_,n,d⟩,_⟩:=I.tuple h;obtain⟨b,k,⟨q,i,_,m,f⟩,_⟩:=I.tuple j;rw[e] at i;cases i;rw[d] at f;injection f with d1 _;have:c=b:=by simpa using cK Array.toList d1
 subst this;exact r.inj k
end
noncomputable abbrev Cx.wish (X:Cx) (E:Ac->Ae->Prop):Cx:={ X with xe:=E }
abbrev Cx.nox (X:Cx):Cx:=X.wish λ_ _=>False
theorem Cx.Ok.wish {X:Cx}(ok:X.Ok) (E:Ac->Ae->Prop):(X.wish E).Ok :=
 ⟨ok.mod,ok.kind,ok.glob,ok.blt,ok.above,ok.inj,ok.has,ok.cab,ok.hd,ok.frames,ok.stk,ok.exf,ok.bs,ok.bsz,ok.noex,ok.exfs,ok.funs,ok.frf⟩
theorem Cx.Ok.unwish {X:Cx}(ok:(X.wish E).Ok):X.Ok :=
 ⟨ok.mod,ok.kind,ok.glob,ok.blt,ok.above,ok.inj,ok.has,ok.cab,ok.hd,ok.frames,ok.stk,ok.exf,ok.bs,ok.bsz,ok.noex,ok.exfs,ok.funs,ok.frf⟩
section
variable {X:Cx}
theorem Inv.wish (I:Inv X g j H s) (E:Ac->Ae->Prop):Inv (X.wish E) g j H s:=⟨I.ok.wish E,I.os,I.bare,I.base,I.loc,I.cell,I.free,I.freeC,I.pin,I.hok,I.len⟩
theorem Inv.unwish (I:Inv (X.wish E) g j H s):Inv X g j H s:=⟨I.ok.unwish,I.os,I.bare,I.base,I.loc,I.cell,I.free,I.freeC,I.pin,I.hok,I.len⟩
theorem SP.unwish {D:Ends}(h:SP (X.wish E) g D f j):SP X g D f j:=by
 cases f with
 | next=>obtain⟨a,b,I,q⟩:=h;exact⟨a,b,I.unwish,q⟩
 | brk=>obtain⟨a,b,I,q⟩:=h;exact⟨a,b,I.unwish,q⟩
 | cont=>obtain⟨a,b,I,q⟩:=h;exact⟨a,b,I.unwish,q⟩
 | ret u=>obtain⟨v,a,b,I,r,q⟩:=h;exact⟨v,a,b,I.unwish,r,q⟩
theorem pS.nox {st:Aa Stmt}(h:pS X.nox st t):pS X st t:=λa s b H D I hw =>
 cY (h a s b H D (I.wish _) hw) (λ_ _ q=>q.unwish) λ_ _ z=>False.elim z
end
section
variable {X:Cx}{st:Stmt}{rest:Aa Stmt}
def KO:TS:=λD a H=>D.nx a H
def Iz (t u:TS):TS:=λD a H=>t { D with nx:=u D } a H
theorem Av:pS X [] KO:=λ_ _ a H _ I h=>lO ⟨a,H,I,h⟩
theorem pN (g:PS X st t) (j:pS X rest u):pS X (st::rest) (Iz t u):=by
 intro a s i H D I h;refine wpAny_execs_cons (nD (g a s i H { D with nx:=u D } I h) λf e q=>?_);cases f with
 | next =>
  obtain⟨b,c,d,q⟩:=q;exact j a e b c D d q
 | ret v=>exact q
 | brk=>exact q
 | cont=>exact q
theorem qE (g:PS X st t):pS X [st] t:=by
 intro a s b H D I h;refine wpAny_execs_cons (nD (g a s b H D I h) λf c q=>?_);cases f with
 | next=>exact lO q
 | ret v=>exact q
 | brk=>exact q
 | cont=>exact q
theorem Inv.quiet (I:Inv X g j H s):interactive X.env=false:=by simp[interactive,I.ok.kind]
def Sr (g:TE):TS:=λD a H=>g a H λ_ b=>D.nx a b
theorem Ci (g:PE X e l) (j:swapsWith e none pos.line X.env=pure false:=by rfl):PS X (.Expr e pos) (Sr l):=by
 intro a s b H D I h;exact wpAny_Expr_any (nD (g a s b H _ I h) λv k ⟨x,c,d,i,f⟩=>⟨b,c,d,f⟩) I.quiet j
def Tv (g:TE):TS:=λD a H=>g a H D.rt
theorem vJ (g:PE X e j):PS X (.Return (some e) pos) (Tv j):=by
 intro a s b H D I h;exact wpAny_Return_some (nD (g a s b H _ I h) λv k ⟨x,c,d,i,f⟩=>⟨x,b,c,d,i,f⟩)
def Y7 (c:TT) (t u:TS):TS:=λD a H=>c a H λb d=>if b=true then t D a d else u D a d
theorem yX (l:PT X c o) (g:pS X a t) (j:pS X b u):PS X (.If c a b pos) (Y7 o t u):=by
 intro e s i H D I h;refine wpAny_If (nD (l e s i H _ I h) λd q f=>?_);obtain⟨k,m,n⟩:=f;cases d with
 | true=>exact g e q i k D m n
 | false=>exact j e q i k D m n
def X9:TS:=λ_ _ _=>False
theorem X8:PS X st X9:=λ_ _ _ _ _ _ h=>h.elim
end
abbrev TG:=V->St->Hp->(St->Hp->Prop)->Prop
abbrev zT:=Aa V->St->Hp->(St->Hp->Prop)->Prop
def PG (X:Cx) (target:Expr) (t:TG):Prop :=
 ∀ (a:Aa (Ad×Obj)) (s:Ae) (d:St) (H:Hp) (v:V) (u:Ac) (Q:St->Hp->Prop),Inv X a d H s->nF v u->t v d H Q ->
  wpAny (model X.prog X.w) X.A (assign target X.env u) (λ_ e=>∃ b c,Inv X a b c e/\Q b c) X.xe s
def xH (X:Cx) (g:Aa Expr) (t:zT):Prop :=
 ∀ (a:Aa (Ad×Obj)) (s:Ae) (f:St) (H:Hp) (e:Aa V) (d:Aa Ac) (Q:St->Hp->Prop),Inv X a f H s->nE e d->t e f H Q ->
  wpAny (model X.prog X.w) X.A (assignInOrder ((assignEach g X.env).map (·.2)) d) (λ_ h=>∃ b c,Inv X a b c h/\Q b c) X.xe s
abbrev Kj:=V->V->V->Hp->(Hp->Prop)->Prop
def Jf (X:Cx) (t:Kj):Prop :=
 ∀ (a:Aa (Ad×Obj)) (s:Ae) (e:St) (H:Hp) (o i v:V) (d c u:Ac) (Q:Hp->Prop),Inv X a e H s->nF o d->nF i c->nF v u->t o i v H Q ->
  wpAny (model X.prog X.w) X.A (setItem d c u) (λ_ f=>∃ b,Inv X a e b f/\Q b) X.xe s
section
variable {X:Cx}
def yN (i:Nat):TG:=λv a H Q=>Q (a.set i (some v)) H
theorem uH (g:X.N.Nodup) (l:X.N[i]?=some x) (o:uN X.env.scope x) (j:X.fn x=true\/X.env.scope.names.lookup x=some .local:=by first | exact .inl rfl | exact .inr rfl | assumption):PG X (.Name x pos) (yN i):=by
 intro a s d H v u Q I r h;exact wpAny_assign_Name (Ex I g l o r (λc b=>⟨_,H,b,h⟩) j)
def LB:zT:=λa b H Q=>a=[]/\Q b H
def V6 (t:TG) (u:zT):zT:=λc d H Q=>∃ v r,c=v::r/\t v d H λa b=>u r a b Q
theorem Ye:xH X [] LB:=by
 intro a s b H d c Q I r h;obtain⟨e,h⟩:=h;subst e;cases r;exact assignInOrder_nil ⟨b,H,I,h⟩
theorem AF (j:PG X e t) (l:xH X g u)
  (o:(assignEach (e::g) X.env).map (·.2)=assign e X.env::(assignEach g X.env).map (·.2):=by rfl):xH X (e::g) (V6 t u):=by
 intro a s q H y w Q I r h;obtain⟨v,x,i,h⟩:=h;subst i;cases r with
 | cons r m =>
  rw[o];refine assignInOrder_cons (nD (j a s q H _ _ _ I r h) λ_ n b=>?_);obtain⟨c,d,f,k⟩:=b;exact l a n c d _ _ Q f m k
def Yl (K:mZ) (n:Nat) (t:zT):TG:=λv c H Q=>∃ a b,v = .ref a/\nQ K H a b/\b.length=n/\t b c H Q
theorem GB (l:X.calm=true) (h:xH X g t)
  (p:(assignEach g X.env).length=n:=by rfl) (j:(assignEach g X.env).findIdx? (·.1)=none:=by rfl):PG X (.Tuple g k pos) (Yl X.K n t):=by
 intro c s f H v u Q I r hw;obtain⟨a,B,m,x,w,hw⟩:=hw;subst m;cases r;obtain⟨A,d,y,D⟩:=I.tuple x;refine assign_Tuple_tuple (I.ok.hd l) y (by simp[p,<- w,d.length]) j λq z=>?_
 have i:Inv X c f H { s with heap:=q }:=I.kept (t':=s.toks) λb o e=>z b o (bH (aT e)) e
 exact h c _ f H B _ Q i (by simpa using d) hw
def DG (j g:TE) (t:Kj):TG:=λv a H Q=>j a H λo b=>g a b λi c=>t o i v c λd=>Q a d
theorem Hn (C:PE X o U) (p:PE X i T) (J:Jf X t)
  (l:∀ v,assign (.Subscript o i pos) X.env v=(do
   let g <- holding [v] (eval o X.env);let j <- holding [v,g] (eval i X.env)
   standAt pos
   holding [v,g,j] (setItem g j v)
   release [v,g,j] []):=by intro _;rfl):PG X (.Subscript o i pos) (DG U T t):=by
 intro b s c H v u Q I r h;rw[l];refine aB (bY (nD (C b s c H _ I h) λg D a=>?_));obtain⟨x,d,k,A,q⟩:=a;refine aB (bY (nD (p b D c d _ k q) λj E a=>?_));obtain⟨y,e,m,B,w⟩:=a;refine aB (mJ (aB (bY (nD (J b E c e x y v g j u _ m A B r w) λ_ F a=>?_))));obtain⟨f,n,z⟩:=a;exact wpAny_release ⟨c,f,n,z⟩
def Jm (j:TE) (g:TG):TS:=λD a H=>j a H λx b=>g x a b D.nx
theorem F9 (o:PE X e C) (p:PG X j g) (r:swapsWithSole [j] e pos.line X.env=pure false:=by rfl) (hw:swappedStores [j] e X.env=pure none:=by rfl)
  (l:(assignEach [j] X.env).map (·.2)=[assign j X.env]:=by rfl):PS X (.Assign [j] e pos) (Jm C g):=by
 intro a s c H D I h;refine wpAny_Assign_stores (nD (o a s c H _ I h) λv m b=>?_) r hw;obtain⟨x,d,f,k,i⟩:=b;rw[l];exact nD (p a m c d x v _ f k i) λ_ n q=>q
theorem oN {i:Nat}{x:Af}{e:Expr}{j:TE}{g:Pos}(l:X.N.Nodup) (r:X.N[i]?=some x) (J:uN X.env.scope x) (o:PE X e j) (C:swapsWith e (some (.Name x g)) pos.line X.env=pure false:=by rfl) (p:X.fn x=true\/X.env.scope.names.lookup x=some .local:=by first | exact .inl rfl | exact .inr rfl | assumption) :
  PS X (.Assign [.Name x g] e pos) (Jm j (yN i)):=by
 intro a s n H D I h;refine wpAny_Assign_Name (nD (o a s n H _ I h) λv q b=>?_) C;obtain⟨y,c,d,m,k⟩:=b;exact Ex d l r J m (λt f=>⟨_,c,f,k⟩) p
def Yv (i j:Nat) (g:TA):TS:=λD a H=>g a H λc b=>∃ v w,c=[v,w]/\D.nx ((a.set i (some v)).set j (some w)) b
theorem FZ {py pt:Pos}{C r g}(hc:X.calm=true) (J:X.N.Nodup) (hi:X.N[i]?=some x) (hj:X.N[j]?=some y) (l:i≠j)
  (T:X.env.scope.names.lookup x=some .local) (U:X.env.scope.names.lookup y=some .local) (ha:PA X [a,b] ta)
  (hw:swappedStores [.Tuple [.Name x px,.Name y py] C pt] (.Tuple [a,b] r g) X.env=pure (some [x,y]))
  (hs:swapsWithSole [.Tuple [.Name x px,.Name y py] C pt] (.Tuple [a,b] r g) pos.line X.env=pure false:=by rfl) :
  PS X (.Assign [.Tuple [.Name x px,.Name y py] C pt] (.Tuple [a,b] r g) pos) (Yv i j ta):=by
 intro c s E H D I h;rw[exec_Assign_arm];refine aB (mJ ?_);rw[hs];refine aB (aD ?_);rw[aI (by decide)];refine aB (Tuple_ (nD (ha _ c s E H _ I h) λV d n=>?_));obtain⟨Z,z,F,R,t⟩:=n;obtain⟨v,w,M,t⟩:=t;subst M;obtain⟨f,k,rfl,S,u⟩:∃ f k,V=[f,k]/\nF v f/\nF w k:=by
  cases R with
  | cons p q =>
   cases q with
   | cons P Q =>
    cases Q;exact⟨_,_,rfl,p,P⟩
 refine eW ?_ (by show 2<=sizeLine;decide);have G:Inv X c E z { d with heap:=d.heap.push { cls:=.type "tuple",data:=.seq [f,k].toArray } }:=F.kept (t':=d.toks) λb o e=>aL _ e
 rw[hw];refine aB (aD ?_);show wpAny (model X.prog X.w) X.A (do rule "assign.swapped-stores";let items <- unpackItems (.ref d.heap.objs.size) 2 none;assignInOrder [λv=>bindName X.env y v,λv=>bindName X.env x v] items.reverse;pure Flow.next) _ _ _;refine aB (gP (aB (unpackItems_tuple (items:=#[f,k]) (I.ok.hd hc) (IsTup.new d.heap _) λO m=>?_)));have K:=G.kept (h':=O) (t':=d.toks) λb o e=>m b o (bH (aT e)) e
 show wpAny _ _ (assignInOrder [λv=>bindName X.env y v,λv=>bindName X.env x v] [k,f] >>= λ_=>pure Flow.next) _ _ _;refine aB (assignInOrder_cons (wpAny_bindName (Ex K J hj (.inl U) u (λW L=>?_) (.inr U))));refine assignInOrder_cons (wpAny_bindName (Ex L J hi (.inl T) S (λY B=>assignInOrder_nil (aD ?_)) (.inr T)));rw[List.set_comm _ _ (eV l)] at B;exact⟨_,z,B,t⟩
end
section
variable {X:Cx}
def Zo (c:TT) (g:TS):TS:=λD a H=>∃ W:Nat->St->Hp->Prop,(∃ m,W m a H)/\∀ m a H,W m a H ->
 c a H λb f=>if b=true then ∃ N:St->Hp->Prop,(∀ d e,N d e->∃ h,h<m/\W h d e)/\g { D with nx:=N,ct:=N,bk:=D.nx } a f else D.nx a f
theorem JN (g:PassesOwn (model X.prog X.w) X.A X.env X.xe) (l:PT X c p) (j:pS X body o):PS X (.While c body [] pos) (Zo p o):=by
 intro a s Z H D I h;obtain⟨W,⟨P,V⟩,k⟩:=h;refine wpAny_While (codeAny_whileLoop (λn Q=>∃ m F,Inv X a m F Q/\W n m F) ?_ P ⟨Z,H,I,V⟩);rintro n R ⟨e,G,O,Y⟩;refine iE g (nD (l a R e G _ O (k n e G Y)) λb S y=>?_);obtain⟨K,L,q⟩:=y;cases b with
 | true =>
  obtain⟨N,M,q⟩:=q;rw[aP rfl];refine iE g (nD (j a S e K _ L q) λf r t=>?_);cases f with
  | next =>
   obtain⟨d,i,u,B⟩:=t;obtain⟨z,x,E⟩:=M d i B;exact⟨z,x,d,i,u,E⟩
  | cont =>
   obtain⟨d,i,u,B⟩:=t;obtain⟨z,x,E⟩:=M d i B;exact⟨z,x,d,i,u,E⟩
  | brk=>exact t
  | ret v=>exact t
 | false =>
  rw[aI bE];exact lO ⟨e,K,L,q⟩
end
structure It where
 go:Nat->Hp->Prop
 yld:Nat->Hp->V->Hp->Prop
 stop:Nat->Hp->Prop
def tH (X:Cx) (g:Aa (Ad×Obj)) (H:Hp) (b:Ad):Prop :=
 H b=none/\b≠X.env.locals/\b∉X.fs/\(b∈X.ex\/X.s₀.heap.objs.size<=b)/\(∀ x c,X.env.cells.lookup x=some c->c≠b)/\∀ p∈X.pn++g,p.1≠b
theorem Inv.fpOk {X:Cx}(I:Inv X j r H s) (g:s.heap.objs.size<=b) (o:l b=none):tH X j l b:=by
 refine⟨o,fO (aW I.lt g),I.nofs g,.inr (bD I.sz g),λx c e z=>?_,λp a z=>?_⟩
 .obtain⟨v,q⟩:=I.cell x c e;exact absurd (aW q.lt (by rw[z];exact g)) (eQ _)
 .exact absurd (aW (aT (I.pin p a).1) (by rw[z];exact g)) (eQ _)
structure Turn (P:Program) (w:World) (K:mZ) (tg:Expr) (J:It) (fp:List Addr) (it:Addr) (tn:Nat->Heap->Prop):Prop where
 mem:it∈fp
 obj:∀ i h,tn i h->∀ b∈fp,∃ o,h.get? b=some o/\∀ v,o.data ≠ .cell v
 keep:∀ i h h',tn i h->(∀ b∈fp,∀ o,h.get? b=some o->h'.get? b=some o)->tn i h'
 item:∀ (X:Cx),X.prog=P->X.w=w->X.K=K->X.calm=true->∀ (i:Nat) (pins:List (Addr×Obj)) (s:Shared) (σ:St) (H:Hp) (E:Value->Shared->Prop),Inv X pins σ H s->(∀ b∈fp,tH X pins H b)->tn i s.heap->J.go i H ->
  wpAny (model P w) X.A (pyNext (.ref it)) (λr s1=>∃ u,r=some u /\ wpAny (model P w) X.A (letOwnedTupleGo tg (.ref it) u) (λ_ s2=>∃ x H',Inv X pins σ H' s2/\nF x u/\J.yld i H x H'/\tn (i+1) s2.heap/\∀ b∈fp,H' b=none) E s1) E s
 done:∀ (X:Cx),X.prog=P->X.w=w->X.K=K->X.calm=true->∀ (i:Nat) (pins:List (Addr×Obj)) (s:Shared) (σ:St) (H:Hp) (E:Value->Shared->Prop),Inv X pins σ H s->(∀ b∈fp,tH X pins H b)->tn i s.heap->J.stop i H ->
  wpAny (model P w) X.A (pyNext (.ref it)) (λr s1=>r=none/\Inv X pins σ H s1) E s
 self:∀ (A:Around) (i:Nat) (s:Shared) (Q:Value->Shared->Prop) (E:Value->Shared->Prop),tn i s.heap->Q (.ref it) s->wpAny (model P w) A (pyIter (.ref it)) Q E s
abbrev TI:=St->Hp->(It->Hp->Prop)->Prop
def Vc (X:Cx) (g:Aa (Ad×Obj)) (p:St) (o:Expr) (R:It->Hp->Prop) (j:Ac) (l:Ae):Prop :=
 ∃ (d:Ad) (c:Aa Ad) (e:Nat->Ag->Prop) (J:It) (a:Hp),j = .ref d/\Inv X g p a l/\Turn X.prog X.w X.K o J c d e/\e 0 l.heap/\(∀ b∈c,tH X g a b)/\R J a
def PI (X:Cx) (g iter:Expr) (j:TI):Prop :=
 ∀ (a:Aa (Ad×Obj)) (s:Ae) (b:St) (H:Hp) (R:It->Hp->Prop),Inv X a b H s->j b H R ->
  wpAny (model X.prog X.w) X.A (eval iter X.env) (λv c=>wpAny (model X.prog X.w) X.A (pyIter v) (Vc X a b g R) X.xe c) X.xe s
theorem Cq (p:s.heap.get? r=some o) (j:o.cls = .type n) (hd:o.data = .fields I)
  (l:["enumerate","zip","dict_itemiterator","dict_reverseitemiterator","odict_iterator","itertools.zip_longest","itertools.pairwise"].contains n=false) (g:Q () s):wpAny M A (letOwnedTupleGo C (.ref r) u) Q E s:=by
 unfold letOwnedTupleGo;cases C<;>first
  | exact aD g
  | (cases u<;>first
    | exact aD g
    | (refine aB (wpAny_load p ?_);rw[j,hd];show wpAny M A (if (["enumerate","zip","dict_itemiterator","dict_reverseitemiterator","odict_iterator","itertools.zip_longest","itertools.pairwise"].contains n&&I[0]? == some (rawInt _))=true then _ else _) Q E s;rw[aI (by intro h;rw[l,Bool.false_and] at h;cases h)];exact aD g))
def wL (K:mZ) (a:Ad):It :=
 ⟨λi H=>∃ b x,eH K H a b/\b[i]?=some x,λi H x c=>c=H/\∀ b,eH K H a b->b[i]?=some x,λi H=>∃ b,eH K H a b/\b.length<=i⟩
def Ba (K:mZ) (a:Ad):It :=
 ⟨λi H=>∃ b x,nQ K H a b/\b[i]?=some x,λi H x c=>c=H/\∀ b,nQ K H a b->b[i]?=some x,λi H=>∃ b,nQ K H a b/\b.length<=i⟩
def uF (lo:Int) (n:Nat):It:=⟨λi _=>i<n,λi H x a=>a=H/\x = .int (lo+i),λi _=>n<=i⟩
theorem Sg {P:Ah}{K:mZ}(a g:Ad):Turn P w K T (wL K a) [g] g (λi h=>h.IsListIter g a i) where
 mem:=by simp
 obj:=λi h st b m=>by
  have e:b=g:=by simpa using m
  subst e;obtain⟨o,e,c,d⟩:=st;exact⟨o,e,λv z=>by rw[d] at z;cases z⟩
 keep:=λi h q st k=>st.at λo e=>k g (by simp) o e
 item:=by
  intro X L hw G R i f s S H E I t st M;subst L hw G;obtain⟨C,x,y,N⟩:=M;obtain⟨O,Q,p,j⟩:=I.list y;obtain⟨u,Y,l⟩:=Q.get N;obtain⟨A,f1,f2,B,D,F⟩:=t g (by simp);refine wpAny_pyNext_list_item st p.isList (x:=u) (by simpa using Y) λq n r=>?_
  have V:Inv X f S H { s with heap:=q }:=I.turned (t':=s.toks) (λb o m e=>(r.2 b m).trans e) A f1 B D F;obtain⟨o,e,c,d⟩:=id n;exact⟨u,rfl,Cq (s:={ s with heap:=q }) e c d (by decide) ⟨x,H,V,l,⟨rfl,λU Z=>by rw[I.list_inj Z y];exact N⟩,n,λb m=>(t b m).1⟩⟩
 done:=by
  intro X L hw G R i f s S H E I t st M;subst L hw G;obtain⟨C,y,N⟩:=M;obtain⟨O,Q,p,j⟩:=I.list y;obtain⟨A,f1,f2,B,D,F⟩:=t g (by simp);have J:=Q.length;exact wpAny_pyNext_list_end (I.ok.hd R) st p.isList (by simp;omega) λq W=>⟨rfl,I.turned (t':=s.toks) (λb o m e=>W b o m e) A f1 B D F⟩
 self:=λ_ _ _ _ _ st h=>wpAny_pyIter_listiter st h
theorem NE {P:Ah}{K:mZ}(a g:Ad):Turn P w K T (Ba K a) [g] g (λi h=>h.IsTupleIter g a i) where
 mem:=by simp
 obj:=λi h st b m=>by
  have e:b=g:=by simpa using m
  subst e;obtain⟨o,e,c,d⟩:=st;exact⟨o,e,λv z=>by rw[d] at z;cases z⟩
 keep:=λi h t st k=>st.at λo e=>k g (by simp) o e
 item:=by
  intro X M hw L R i f s S H E I y st N;subst M hw L;obtain⟨C,x,A,O⟩:=N;obtain⟨n,Q,p,j⟩:=I.tuple A;obtain⟨u,Y,l⟩:=Q.get O;obtain⟨B,f1,f2,D,F,G⟩:=y g (by simp);refine wpAny_pyNext_tuple_item st (show s.heap.IsTuple a n.toArray from p) (x:=u) (by simpa using Y) λt q r=>?_
  have V:Inv X f S H { s with heap:=t }:=I.turned (t':=s.toks) (λb o m e=>(r.2 b m).trans e) B f1 D F G;obtain⟨o,e,c,d⟩:=id q;exact⟨u,rfl,Cq (s:={ s with heap:=t }) e c d (by decide) ⟨x,H,V,l,⟨rfl,λU Z=>by rw[I.tuple_inj Z A];exact O⟩,q,λb m=>(y b m).1⟩⟩
 done:=by
  intro X M hw L R i f s S H E I y st N;subst M hw L;obtain⟨C,A,O⟩:=N;obtain⟨n,Q,p,j⟩:=I.tuple A;obtain⟨B,f1,f2,D,F,G⟩:=y g (by simp);have J:=Q.length;exact wpAny_pyNext_tuple_end (I.ok.hd R) st (show s.heap.IsTuple a n.toArray from p) (by simp;omega) λt W=>⟨rfl,I.turned (t':=s.toks) (λb o m e=>W b o m e) B f1 D F G⟩
 self:=λ_ _ _ _ _ st h=>wpAny_pyIter_tupleiter st h
theorem BL {P:Ah}{K:mZ}(g:Ad) (lo:Int) (n:Nat):Turn P w K j (uF lo n) [g] g (λi h=>IsRangeIter h g (lo+(i:Nat)*1) ((n:Int)-(i:Nat)) 1) where
 mem:=by simp
 obj:=λi h st b c=>by
  have e:b=g:=by simpa using c
  subst e;exact⟨_,st,λv z=>by
   have R:Data.fields _=Data.cell v:=z;cases R⟩
 keep:=λi h f st k=>k g (by simp) _ st
 item:=by
  intro X B hw A D i a s L H E I m st F;subst B hw A;obtain⟨q,f1,f2,u,x,y⟩:=m g (by simp);have W:=Walks.range (prog:=X.prog) (w:=X.w) (I.ok.hd D) g lo 1 n;refine W.item i s _ _ F st λv f G O d Q=>?_
  obtain⟨t,rfl⟩:=O;have M:Inv X a L H { s with heap:=f,toks:=G }:=I.turned (λb o c e=>Q b o (by simpa using c) e) q f1 u x y;refine⟨_,rfl,Cq (s:={ s with heap:=f,toks:=G }) (n := "range_iterator") d rfl rfl (by decide) ⟨.int (lo+i),H,M,⟨t,?_⟩,⟨rfl,rfl⟩,d,λb c=>(m b c).1⟩⟩;rw[Int.mul_one]
 done:=by
  intro X B hw A D i a s L H E I m st F;subst B hw A;obtain⟨q,f1,f2,u,x,y⟩:=m g (by simp);exact wpAny_pyNext_range_end (I.ok.hd D) st (by have:n<=i:=F;omega) λf N=>⟨rfl,I.turned (t':=s.toks) (λb o c e=>N b o c e) q f1 u x y⟩
 self:=λ_ _ _ _ _ st h=>wpAny_pyIter_rangeiter st h
section
variable {X:Cx}
def JM (K:mZ) (g:TE):TI:=λd H R=>g d H λx b=>∃ a,x = .ref a/\(∃ c,eH K b a c)/\R (wL K a) b
theorem Mv (g:PE X l j):PI X r l (JM X.K j):=by
 intro c s y H R I h;refine nD (g c s y H _ I h) λv f i=>?_
 obtain⟨x,k,d,w,u⟩:=i;obtain⟨a,e,⟨B,n⟩,q⟩:=u;subst e;cases w;obtain⟨t,A,p,z⟩:=d.list n;refine iG p.isList ?_;refine⟨f.heap.objs.size,[f.heap.objs.size],_,_,k,rfl,d.kept (t':=f.toks) λb o e=>aL _ e,Sg a _,⟨_,bC _ rfl,rfl,rfl⟩,λb m=>?_,q⟩;have e:b=f.heap.objs.size:=by simpa using m
 subst e;exact d.fpOk (aR _) (d.hok.fresh (aR _))
theorem GU {R:It->Hp->Prop}{lo:Int}(I:Inv X j p H s) (r:-(2 ^ 62)<=lo) (C:lo<2 ^ 62) (J:-(2 ^ 62)<=g) (T:g<2 ^ 62)
  (q:R (uF lo (g-lo).toNat) H):wpAny (model X.prog X.w) X.A (pyIter (.ref s.heap.objs.size)) (Vc X j p U R) E { s with heap:=s.heap.push { cls:=.type "range",data:=.fields #[.int lo t,.int g u,.int 1 v] },toks:=l }:=by
 refine wpAny_pyIter_range (IsRange.new ..) (small_one r C J T) ?_;have a:Inv X j p H { s with heap:=s.heap.push { cls:=.type "range",data:=.fields #[.int lo t,.int g u,.int 1 v] },toks:=l }:=I.kept λb o e=>aL _ e
 refine⟨(s.heap.push { cls:=.type "range",data:=.fields #[.int lo t,.int g u,.int 1 v] }).objs.size,[(s.heap.push { cls:=.type "range",data:=.fields #[.int lo t,.int g u,.int 1 v] }).objs.size],_,_,H,rfl,
  a.kept (t':=l) λb o e=>aL _ e,BL _ lo (g-lo).toNat,?_,λb f=>?_,q⟩
 .have c:lo+((0:Nat):Int)*1=lo:=by simp
  have d:(((g-lo).toNat:Nat):Int)-((0:Nat):Int)=Builtin.Range.rangeSize lo g 1:=by rw[rangeSize_one];split<;>omega
  show IsRangeIter _ _ (lo+((0:Nat):Int)*1) ((((g-lo).toNat:Nat):Int)-((0:Nat):Int)) 1;rw[c,d];exact bC _ rfl
 .have e:b=(s.heap.push { cls:=.type "range",data:=.fields #[.int lo t,.int g u,.int 1 v] }).objs.size:=by simpa using f
  subst e;exact a.fpOk (aR _) (a.hok.fresh (aR _))
def Xk (g:TA):TI:=λc H R=>g c H λb a=>∃ j:Int,b=[.int j]/\-(2 ^ 62)<=j/\j<2 ^ 62/\R (uF 0 j.toNat) a
theorem zJ (l:Gl X "range") (o:X.mg "range" = none) (g:PA X [a] J) (C:starEach [a] X.env=[(false,eval a X.env)]:=by rfl):PI X T (.Call (.Name "range" p) [a] [] pos) (Xk J):=by
 intro b s n H R I h;refine Call_ (wD I l o boot_range (dF (nD (g pos b s n H _ I h) λw v c=>?_) C rfl));obtain⟨x,u,f,k,d⟩:=c;obtain⟨j,e,d,i,q⟩:=d;subst e;cases k with
 | cons r m =>
  cases m;obtain⟨t,rfl⟩:=r;exact call_range_1 (GU f (by omega) (by omega) d i (by simpa using q))
def V2 (l:TI) (g:TG) (j:TS):TS:=λD a H=>l a H λJ f=>∃ W:Nat->Nat->St->Hp->Prop,(∃ m,W 0 m a f)/\∀ i m a H,W i m a H ->
 (J.stop i H/\D.nx a H)\/(J.go i H/\∃ N:St->Hp->Prop,(∀ c b,N c b->∃ e,e<m/\W (i+1) e c b)/\∀ x b,J.yld i H x b->g x a b λd h=>j { D with nx:=N,ct:=N,bk:=D.nx } d h)
def Bu (g:Aa Ad) (h:Ag):Aa (Ad×Obj):=g.filterMap λb=>(h.get? b).map λo=>(b,o)
theorem F3 (j:b∈g) (e:h.get? b=some o):(b,o)∈Bu g h:=kJ.mpr ⟨b,j,by rw[e];rfl⟩
theorem IN (j:p∈Bu g h):p.1∈g/\h.get? p.1=some p.2:=by
 obtain⟨b,c,e⟩:=kJ.mp j;cases q:h.get? b with
 | none=>rw[q] at e;cases e
 | some o =>
  rw[q] at e;have a:(b,o)=p:=bR e;subst a;exact⟨c,q⟩
theorem Inv.pinned (I:Inv X g C H s) (l:∀ b∈j,tH X g H b) (r:∀ b∈j,∃ o,s.heap.get? b=some o/\∀ v,o.data ≠ .cell v):Inv X (g++Bu j s.heap) C H s :=
 I.pins_of λp h=>(aQ.mp h).elim (λz=>I.pin p (bL _ z)) λz=>by
  obtain⟨c,e⟩:=IN z;obtain⟨f,f1,f2,_⟩:=l p.1 c;obtain⟨o,a,d⟩:=r p.1 c;rw[e] at a;cases a;exact⟨e,f,f1,f2,d⟩
theorem Inv.unpinned (I:Inv X (g++l) j H s):Inv X g j H s:=I.pins_of λp a=>I.pin p (bL _ (bK _ a))
theorem vZ {iter:Expr}(l:PassesOwn (model X.prog X.w) X.A X.env X.xe) (hc:X.calm=true) (hi:PI X tg iter wi) (hg:PG X tg g) (j:pS X body tb)
  (hs:∀ x,foldedSetIterable iter X.env x=pure x:=by intro _;rfl):PS X (.For tg iter body [] pos) (V2 wi g tb):=by
 intro a s σ H D I h;refine wpAny_For (nD (hi a s σ H _ I h) λv s1 h1=>nD h1 λaa s2 h2=>?_) hs;obtain⟨it,K,tn,J,H2,e,I2,T,Z,f2,W,⟨m0,w0⟩,P⟩:=h2;subst e;have y:∀ {E:Hp},(∀ b∈K,E b=none)->∀ b∈K,tH X a E b:=λhn b j=>⟨hn b j,(f2 b j).2⟩
 refine codeAny_forLoop_any (λn s'=>∃ i z E,Inv X a z E s'/\tn i s'.heap/\(∀ b∈K,E b=none)/\W i n z E) ?_ m0 ⟨0,σ,H2,I2,Z,λb j=>(f2 b j).1,w0⟩;rintro n s3 ⟨i,B,Q,U,O,L,w3⟩;rcases P i n B Q w3 with⟨stop,qn⟩ | ⟨go,N,hN,step⟩
 .refine iE l (nD (T.done X rfl rfl rfl hc i a s3 B Q X.xe U (y L) O stop) λr s4 k=>?_);obtain⟨V,I4⟩:=k;subst V;exact lO ⟨B,Q,I4,qn⟩
 .refine iE l (nD (T.item X rfl rfl rfl hc i a s3 B Q X.xe U (y L) O go) λr s4 k=>?_);obtain⟨u,V,h4⟩:=k;subst V;refine iE l (nD h4 λ_ s5 k=>?_);obtain⟨x,C,I5,r5,y5,G,S⟩:=k;have R:=I5.pinned (y S) (T.obj _ _ G);refine iE l (nD (hg _ s5 B C x u _ R r5 (step x C y5)) λ_ s6 k=>?_);obtain⟨p,H6,I6,q6⟩:=k;refine iE l (nD (j _ s6 p H6 _ I6 q6) λf Y F=>?_);have again:∀ {c:St} {q:Hp},Inv X (a++Bu K s5.heap) c q Y->N c q->∃ m,m<n/\∃ i z E,Inv X a z E Y/\tn i Y.heap/\(∀ b∈K,E b=none)/\W i m z E:=λ{c q} t M=>by
   obtain⟨m',hm,w7⟩:=hN c q M;refine⟨m',hm,i+1,c,q,t.unpinned,T.keep _ _ _ G λb j o e=>(t.pin (b,o) (bL _ (bL _ (F3 j e)))).1,λb j=>?_,w7⟩;obtain⟨o,e,d⟩:=T.obj _ _ G b j;exact (t.pin (b,o) (bL _ (bL _ (F3 j e)))).2.1
  cases f with
  | next=>obtain⟨c,q,t,M⟩:=F;exact again t M
  | cont=>obtain⟨c,q,t,M⟩:=F;exact again t M
  | brk=>obtain⟨c,q,t,F⟩:=F;exact⟨c,q,t.unpinned,F⟩
  | ret v=>obtain⟨x7,c,q,t,r7,F⟩:=F;exact⟨x7,c,q,t.unpinned,r7,F⟩
end
theorem Qw {K:mZ}{a:Ad}{xs:Aa V}{g:TG}{J:TS}{D:Ends}{j:St}{H:Hp}(Pv:Nat->St->Hp->Prop) (T:Pv 0 j H) (U:∀ i j H,i<=xs.length->Pv i j H->eH K H a xs)
  (hs:∀ i x j H,xs[i]?=some x->Pv i j H->g x j H λr C=>J { D with nx:=Pv (i+1),ct:=Pv (i+1),bk:=D.nx } r C) (hd:∀ j H,Pv xs.length j H->D.nx j H) :
  ∃ W:Nat->Nat->St->Hp->Prop,(∃ m,W 0 m j H)/\∀ i m j H,W i m j H ->
   ((wL K a).stop i H/\D.nx j H)\/((wL K a).go i H/\∃ N:St->Hp->Prop,(∀ o l,N o l->∃ I,I<m/\W (i+1) I o l)/\∀ x l,(wL K a).yld i H x l->g x j l λr C=>J { D with nx:=N,ct:=N,bk:=D.nx } r C):=by
 refine⟨λi m j H=>m=xs.length-i/\i<=xs.length/\Pv i j H,⟨xs.length,by simp,cE _,T⟩,?_⟩;rintro i m j H ⟨rfl,c,p⟩;have q:=U i j H c p;by_cases b:i<xs.length
 .refine .inr ⟨⟨xs,xs[i],q,by simp[b]⟩,Pv (i+1),λo l d=>⟨xs.length-(i+1),by omega,rfl,b,d⟩,λx l y=>?_⟩;obtain⟨e,y⟩:=y;subst e;exact hs i x j _ (y xs q) p
 .have e:i=xs.length:=by omega
  subst e;exact .inl ⟨⟨xs,q,aR _⟩,hd j H p⟩
theorem Wv {K:mZ}{a:Ad}{xs:Aa V}{g:TG}{J:TS}{D:Ends}{j:St}{H:Hp}(Pv:Nat->St->Hp->Prop) (T:Pv 0 j H) (U:∀ i j H,i<=xs.length->Pv i j H->nQ K H a xs)
  (hs:∀ i x j H,xs[i]?=some x->Pv i j H->g x j H λr C=>J { D with nx:=Pv (i+1),ct:=Pv (i+1),bk:=D.nx } r C) (hd:∀ j H,Pv xs.length j H->D.nx j H) :
  ∃ W:Nat->Nat->St->Hp->Prop,(∃ m,W 0 m j H)/\∀ i m j H,W i m j H ->
   ((Ba K a).stop i H/\D.nx j H)\/((Ba K a).go i H/\∃ N:St->Hp->Prop,(∀ o l,N o l->∃ I,I<m/\W (i+1) I o l)/\∀ x l,(Ba K a).yld i H x l->g x j l λr C=>J { D with nx:=N,ct:=N,bk:=D.nx } r C):=by
 refine⟨λi m j H=>m=xs.length-i/\i<=xs.length/\Pv i j H,⟨xs.length,by simp,cE _,T⟩,?_⟩;rintro i m j H ⟨rfl,c,p⟩;have q:=U i j H c p;by_cases b:i<xs.length
 .refine .inr ⟨⟨xs,xs[i],q,by simp[b]⟩,Pv (i+1),λo l d=>⟨xs.length-(i+1),by omega,rfl,b,d⟩,λx l y=>?_⟩;obtain⟨e,y⟩:=y;subst e;exact hs i x j _ (y xs q) p
 .have e:i=xs.length:=by omega
  subst e;exact .inl ⟨⟨xs,q,aR _⟩,hd j H p⟩
theorem Ea {lo:Int}{n:Nat}{g:TG}{J:TS}{D:Ends}{j:St}{H:Hp}(Pv:Nat->St->Hp->Prop) (T:Pv 0 j H)
  (U:∀ i j H,i<n->Pv i j H->g (.int (lo+i)) j H λr C=>J { D with nx:=Pv (i+1),ct:=Pv (i+1),bk:=D.nx } r C) (hd:∀ j H,Pv n j H->D.nx j H) :
  ∃ W:Nat->Nat->St->Hp->Prop,(∃ m,W 0 m j H)/\∀ i m j H,W i m j H ->
   ((uF lo n).stop i H/\D.nx j H)\/((uF lo n).go i H/\∃ N:St->Hp->Prop,(∀ o l,N o l->∃ I,I<m/\W (i+1) I o l)/\∀ x l,(uF lo n).yld i H x l->g x j l λr C=>J { D with nx:=N,ct:=N,bk:=D.nx } r C):=by
 refine⟨λi m j H=>m=n-i/\i<=n/\Pv i j H,⟨n,by simp,cE _,T⟩,?_⟩;rintro i m j H ⟨rfl,c,p⟩;by_cases a:i<n
 .refine .inr ⟨a,Pv (i+1),λo l b=>⟨n-(i+1),by omega,rfl,a,b⟩,λx l y=>?_⟩;obtain⟨e,y⟩:=y;subst e y;exact U i j _ a p
 .have e:i=n:=by omega
  subst e;exact .inl ⟨aR _,hd j H p⟩
abbrev R2:=V->V->Hp->VK->Prop
def nR (X:Cx) (f:Ac->Ac->Sem Ac) (r:R2):Prop :=
 ∀ (a:Aa (Ad×Obj)) (s:Ae) (b:St) (H:Hp) (x y:V) (v u:Ac) (Q:VK),Inv X a b H s->nF x v->nF y u->r x y H Q ->
  wpAny (model X.prog X.w) X.A (f v u) (EP X a b Q) X.xe s
def Ik (X:Cx) (f:Ac->Sem Ac) (r:V->Hp->VK->Prop):Prop :=
 ∀ (a:Aa (Ad×Obj)) (s:Ae) (b:St) (H:Hp) (x:V) (v:Ac) (Q:VK),Inv X a b H s->nF x v->r x H Q ->
  wpAny (model X.prog X.w) X.A (f v) (EP X a b Q) X.xe s
def oH (X:Cx) (f:Ac) (r:Aa V->Hp->VK->Prop):Prop :=
 ∀ (a:Aa (Ad×Obj)) (s:Ae) (d:St) (H:Hp) (c:Aa V) (b:Aa Ac) (Q:VK),Inv X a d H s->nE c b->r c H Q ->
  wpAny (model X.prog X.w) X.A (call f b) (EP X a d Q) X.xe s
def KJ (X:Cx) (r:V->Hp->(Bool->Hp->Prop)->Prop):Prop :=
 ∀ (a:Aa (Ad×Obj)) (s:Ae) (b:St) (H:Hp) (x:V) (v:Ac) (Q:Bool->Hp->Prop),Inv X a b H s->nF x v->r x H Q ->
  wpAny (model X.prog X.w) X.A (truthy v) (TP X a b Q) X.xe s
def Bz (r:R2) (g j:TE):TE:=λa H Q=>g a H λx b=>j a b λy c=>r x y c Q
def FA (r:V->Hp->VK->Prop) (g:TE):TE:=λb H Q=>g b H λx a=>r x a Q
def rI (C:Int->Int->Prop) (g:Int->Int->V):R2:=λx y H Q=>∃ i j,x = .int i/\y = .int j/\C i j/\Q (g i j) H
def sW (g:Int->Int->V):R2:=λx y H Q=>∃ i j,x = .int i/\y = .int j/\Q (g i j) H
def rU (g:Int->V):V->Hp->VK->Prop:=λx H Q=>∃ i,x = .int i/\Q (g i) H
section
variable {X:Cx}
theorem Li (J:PE X a ta) (T:PE X b tb){g:Aa (Ad×Obj)}{s:Ae}{l:St}{H:Hp}{R:V->V->Hp->Prop}(I:Inv X g l H s)
  (h:ta l H λx C=>tb l C λy j=>R x y j){Q:Ac->Ae->Prop}{f:Ac->Ac->Sem Ac}
  (U:∀ v u r x y j,Inv X g l j r->nF x v->nF y u->R x y j->wpAny (model X.prog X.w) X.A (f v u) Q X.xe r) :
  wpAny (model X.prog X.w) X.A (eval a X.env) (λv o=>wpAny (model X.prog X.w) X.A (eval b X.env) (λu p=>wpAny (model X.prog X.w) X.A (f v u) Q X.xe p) X.xe o) X.xe s:=by
 refine nD (J g s l H _ I h) λv q c=>?_
 obtain⟨x,C,d,m,i⟩:=c;refine nD (T g q l C _ d i) λu r c=>?_
 obtain⟨y,j,e,n,k⟩:=c;exact U v u r x y j e m n k
theorem nV (l:nR X (binaryOp op) r) (g:PE X a o) (j:PE X b p):PE X (.BinOp a op b pos) (Bz r o p):=by
 intro c s m H Q I h;exact wpAny_BinOp (Li g j I h λv u k x y d e f i q=>l c k m d x y v u Q e f i q)
theorem AQ (j:Ik X (unaryOp op) r) (g:PE X a l):PE X (.UnaryOp op a pos) (FA r l):=by
 intro b s c H Q I h;exact UnaryOp_ (nD (g b s c H _ I h) λv k ⟨x,d,e,i,f⟩=>j b k c d x v Q e i f)
theorem zF {f:Ac->Ac->Sem Ac}{C:Int->Int->Prop}{g:Int->Int->Int}
  (rule:∀ (i j:Int) (t u:Tok) (s:Ae) (Q:Ac->Ae->Prop) (E:Ac->Ae->Prop),C i j->Q (.int (g i j) s.toks) { s with toks:=s.toks+1 }->wpAny (model X.prog X.w) X.A (f (.int i t) (.int j u)) Q E s) :
  nR X f (rI C λi j=>.int (g i j)):=by
 intro a s k H x y v u Q I c d h;obtain⟨i,j,rfl,rfl,b,q⟩:=h;obtain⟨t,rfl⟩:=c;obtain⟨e,rfl⟩:=d;exact rule i j t e s _ _ b ⟨.int (g i j),H,I.tok _,⟨_,rfl⟩,q⟩
theorem Oh {f:Ac->Ac->Sem Ac}{g:Int->Int->Int}
  (rule:∀ (i j:Int) (t u:Tok) (s:Ae) (Q:Ac->Ae->Prop) (E:Ac->Ae->Prop),Q (.int (g i j) s.toks) { s with toks:=s.toks+1 }->wpAny (model X.prog X.w) X.A (f (.int i t) (.int j u)) Q E s) :
  nR X f (sW λi j=>.int (g i j)):=by
 intro a s e H x y v u Q I b c h;obtain⟨i,j,rfl,rfl,q⟩:=h;obtain⟨t,rfl⟩:=b;obtain⟨d,rfl⟩:=c;exact rule i j t d s _ _ ⟨.int (g i j),H,I.tok _,⟨_,rfl⟩,q⟩
theorem Gn {f:Ac->Ac->Sem Ac}{g:Int->Int->Bool}
  (rule:∀ (i j:Int) (t u:Tok) (s:Ae) (Q:Ac->Ae->Prop) (E:Ac->Ae->Prop),Q (.bool (g i j)) s->wpAny (model X.prog X.w) X.A (f (.int i t) (.int j u)) Q E s) :
  nR X f (sW λi j=>.b (g i j)):=by
 intro a s k H x y v u Q I c d h;obtain⟨i,j,rfl,rfl,q⟩:=h;obtain⟨t,rfl⟩:=c;obtain⟨e,rfl⟩:=d;exact rule i j t e s _ _ ⟨.b (g i j),H,I,rfl,q⟩
def V3 (i j:Int):Prop:=0<j/\j<1073741824
def M4 (i j:Int):Prop:=0<=j/\j<=1000000/\i.natAbs<2 ^ 64
def Ff (i j:Int):Prop:=(-(2 ^ 64)<i/\i<2 ^ 64)\/(-(2 ^ 64)<j/\j<2 ^ 64)
theorem Ff.ok (h:Ff i j):IntMulOk i j:=by
 rcases h with⟨a,b⟩ | ⟨a,b⟩
 .exact .of_left (intBits_le_64 a b)
 .exact .of_right (intBits_le_64 a b)
theorem tY:nR X (binaryOp .Add) (sW λi j=>.int (i+j)):=Oh λ_ _ _ _ _ _ _ q=>add_int q
theorem Bb:nR X (binaryOp .Sub) (sW λi j=>.int (i-j)):=Oh λ_ _ _ _ _ _ _ q=>sub_int q
theorem wW:nR X (binaryOp .Mult) (rI Ff λi j=>.int (i*j)):=zF λ_ _ _ _ _ _ _ a q=>mul_int q a.ok
theorem MS:nR X (binaryOp .FloorDiv) (rI V3 λi j=>.int (i/j)):=zF λi j _ _ _ _ _ a q=>by
 have b:(0:Int)<j:=a.1;have c:j<1073741824:=a.2;exact floordiv_int (by omega) (by rw[fP i (by omega)];exact q) (.inl (PyProof.noPylong_small (by omega)))
theorem rB:nR X (binaryOp .Mod) (rI (λ_ j=>0<j) λi j=>.int (i%j)):=zF λi j _ _ _ _ _ a q=>by
 have b:(0:Int)<j:=a;exact mod_int' (by omega) (by rw[Int.fmod_eq_emod_of_nonneg i (by omega)];exact q)
theorem HE:nR X (binaryOp .Pow) (rI M4 λi j=>.int (i ^ j.toNat)):=zF λ_ _ _ _ _ _ _ a q=>pow_int_small a.1 a.2.1 a.2.2 q
theorem DL {f:Ac->Sem Ac}{g:Int->Int}
  (rule:∀ (i:Int) (t:Tok) (s:Ae) (Q:Ac->Ae->Prop) (E:Ac->Ae->Prop),Q (.int (g i) s.toks) { s with toks:=s.toks+1 }->wpAny (model X.prog X.w) X.A (f (.int i t)) Q E s) :
  Ik X f (rU λi=>.int (g i)):=by
 intro a s c H x v Q I b h;obtain⟨i,rfl,q⟩:=h;obtain⟨t,rfl⟩:=b;exact rule i t s _ _ ⟨.int (g i),H,I.tok _,⟨_,rfl⟩,q⟩
theorem Wb:Ik X (unaryOp .USub) (rU λi=>.int (-i)):=DL λ_ _ _ _ _ q=>neg_int q
end
noncomputable def Lx:V->V->Bool
 | .e,.e=>true | .e,.int _=>true | .int _,.e=>true | .e,.b _=>true | .b _,.e=>true | .e,.str _=>true | .str _,.e=>true
 | .int _,.int _=>true | .b _,.b _=>true | .str _,.str _=>true | .byt _,.byt _=>true
 | .int _,.str _=>true | .str _,.int _=>true | .b _,.str _=>true | .str _,.b _=>true
 | _,_=>false
def GL:R2:=λx y H Q=>Lx x y=true/\Q (.b (decide (x=y))) H
def Ys:R2:=λx y H Q=>Lx x y=true/\Q (.b (!decide (x=y))) H
theorem Qq:decide (V.int i=V.int j)=(i == j):=by
 rw[lP];simp
theorem Oj:decide (V.b i=V.b j)=(i == j):=by
 rw[lP];simp
theorem Qt:decide (V.str i=V.str j)=(i == j):=by
 rw[lP];simp
theorem Th:decide (V.byt i=V.byt j)=(i.toList == j.toList):=by
 rw[lP];cases i;cases j;simp
section
variable {X:Cx}
theorem oY (I:Inv X g l H s) (q:Q (.b k) H) (e:k=j):EP X g l Q (.bool j) s:=by
 subst e;exact⟨.b k,H,I,rfl,q⟩
theorem Fh:nR X (compareOp .Eq) GL:=by
 intro k s m H x y v u Q I f a h;obtain⟨d,q⟩:=h;cases x with
 | e =>
  cases f;cases y with
  | e=>cases a;exact PySem.EqNone.eq_none_none (oY I q (by simp))
  | b j=>cases a;exact PySem.EqNone.eq_none_bool (oY I q (by simp))
  | int j=>obtain⟨c,rfl⟩:=a;exact PySem.EqNone.eq_none_int (oY I q (by simp))
  | str j=>obtain⟨c,rfl⟩:=a;exact PySem.EqNone.eq_none_str (oY I q (by simp))
  | _=>exact absurd (show false=true from d) bE
 | b i =>
  cases f;cases y with
  | e=>cases a;exact PySem.EqNone.eq_bool_none (oY I q (by simp))
  | b j=>cases a;exact eq_bool (oY I q Oj)
  | str j=>obtain⟨c,rfl⟩:=a;exact PySem.EqMixed.eq_bool_str (oY I q (by simp))
  | _=>exact absurd (show false=true from d) bE
 | int i =>
  obtain⟨t,rfl⟩:=f;cases y with
  | e=>cases a;exact PySem.EqNone.eq_int_none (oY I q (by simp))
  | int j=>obtain⟨c,rfl⟩:=a;exact eq_int (oY I q Qq)
  | str j=>obtain⟨c,rfl⟩:=a;exact PySem.EqMixed.eq_int_str (oY I q (by simp))
  | _=>exact absurd (show false=true from d) bE
 | str i =>
  obtain⟨t,rfl⟩:=f;cases y with
  | e=>cases a;exact PySem.EqNone.eq_str_none (oY I q (by simp))
  | b j=>cases a;exact PySem.EqMixed.eq_str_bool (oY I q (by simp))
  | int j=>obtain⟨c,rfl⟩:=a;exact PySem.EqMixed.eq_str_int (oY I q (by simp))
  | str j=>obtain⟨c,rfl⟩:=a;exact eq_str (oY I q Qt)
  | _=>exact absurd (show false=true from d) bE
 | byt i =>
  obtain⟨t,rfl⟩:=f;cases y with
  | byt j=>obtain⟨c,rfl⟩:=a;exact PySem.W.eq_bytes (oY I q Th)
  | _=>exact absurd (show false=true from d) bE
 | _=>cases y<;>exact absurd (show false=true from d) bE
theorem Q1:nR X (compareOp .NotEq) Ys:=by
 intro k s m H x y v u Q I f a h;obtain⟨d,q⟩:=h;cases x with
 | e =>
  cases f;cases y with
  | e=>cases a;exact PySem.EqNone.ne_none_none (oY I q (by simp))
  | b j=>cases a;exact PySem.EqNone.ne_none_bool (oY I q (by simp))
  | int j=>obtain⟨c,rfl⟩:=a;exact PySem.EqNone.ne_none_int (oY I q (by simp))
  | str j=>obtain⟨c,rfl⟩:=a;exact PySem.EqNone.ne_none_str (oY I q (by simp))
  | _=>exact absurd (show false=true from d) bE
 | b i =>
  cases f;cases y with
  | e=>cases a;exact PySem.EqNone.ne_bool_none (oY I q (by simp))
  | b j=>cases a;exact ne_bool (oY I q (cK not Oj))
  | str j=>obtain⟨c,rfl⟩:=a;exact PySem.EqMixed.ne_bool_str (oY I q (by simp))
  | _=>exact absurd (show false=true from d) bE
 | int i =>
  obtain⟨t,rfl⟩:=f;cases y with
  | e=>cases a;exact PySem.EqNone.ne_int_none (oY I q (by simp))
  | int j=>obtain⟨c,rfl⟩:=a;exact ne_int (oY I q (cK not Qq))
  | str j=>obtain⟨c,rfl⟩:=a;exact PySem.EqMixed.ne_int_str (oY I q (by simp))
  | _=>exact absurd (show false=true from d) bE
 | str i =>
  obtain⟨t,rfl⟩:=f;cases y with
  | e=>cases a;exact PySem.EqNone.ne_str_none (oY I q (by simp))
  | b j=>cases a;exact PySem.EqMixed.ne_str_bool (oY I q (by simp))
  | int j=>obtain⟨c,rfl⟩:=a;exact PySem.EqMixed.ne_str_int (oY I q (by simp))
  | str j=>obtain⟨c,rfl⟩:=a;exact ne_str (oY I q (cK not Qt))
  | _=>exact absurd (show false=true from d) bE
 | byt i =>
  obtain⟨t,rfl⟩:=f;cases y with
  | byt j=>obtain⟨c,rfl⟩:=a;exact PySem.W.ne_bytes (oY I q (cK not Th))
  | _=>exact absurd (show false=true from d) bE
 | _=>cases y<;>exact absurd (show false=true from d) bE
theorem L9:nR X (compareOp .Lt) (sW λi j=>.b (decide (i<j))):=Gn λ_ _ _ _ _ _ _ q=>lt_int q
theorem LD:nR X (compareOp .LtE) (sW λi j=>.b (decide (i<=j))):=Gn λ_ _ _ _ _ _ _ q=>le_int q
theorem L0:nR X (compareOp .Gt) (sW λi j=>.b (decide (j<i))):=Gn λ_ _ _ _ _ _ _ q=>gt_int q
theorem Ql:nR X (compareOp .GtE) (sW λi j=>.b (decide (j<=i))):=Gn λ_ _ _ _ _ _ _ q=>ge_int q
theorem GY:nR X (compareOp .NotIn) (λx y H Q=>∃ i j,x = .str i/\y = .str j/\Q (.b (!(!(Builtin.Str.occurrences j i 0 j.length 1).isEmpty))) H):=by
 intro a s f H x y v u Q I c d h;obtain⟨i,j,rfl,rfl,q⟩:=h;obtain⟨t,rfl⟩:=c;obtain⟨e,rfl⟩:=d;exact notIn_str (oY I q rfl)
theorem nR.or (h:nR X f r) (g:nR X f j):nR X f (λx y H Q=>r x y H Q\/j x y H Q):=by
 intro a s d H x y v u Q I b c q;rcases q with q | q
 .exact h a s d H x y v u Q I b c q
 .exact g a s d H x y v u Q I b c q
theorem wS (b:Expr) (h:op ≠ .In:=by decide) (g:op ≠ .NotIn:=by decide):behindInMarks op b=false:=by
 have a:(op == CmpOp.In)=false:=by cases op<;>first | rfl | exact absurd rfl h
 have c:(op == CmpOp.NotIn)=false:=by cases op<;>first | rfl | exact absurd rfl g
 cases b<;>simp[behindInMarks,a,c]
theorem II (o:nR X (compareOp op) r) (g:PE X a p) (j:PE X b C) (l:behindInMarks op b=false):PE X (.Compare a [op] [b] pos) (Bz r p C):=by
 intro c s m H Q I h;exact wpAny_Compare1 (Li g j I h λv u k x y d e f i q=>o c k m d x y v u Q e f i q) l
def NB (t:TE):TT:=λc H Q=>t c H λx a=>∃ k,x = .b k/\Q k a
theorem vO (o:nR X (compareOp op) r) (g:PE X a p) (j:PE X b C) (l:behindInMarks op b=false):PT X (.Compare a [op] [b] pos) (NB (Bz r p C)):=by
 intro d s f H Q I h;refine wpAny_isTrue_Compare1 (nD (g d s f H _ I h) λv K ⟨x,i,q,E,A⟩=>nD (j d K f i _ q A) λu L ⟨y,m,t,F,B⟩ =>nD (o d L f m x y v u _ t E F B) λc M ⟨z,n,w,G,k,e,D⟩=>?_) l;subst e;cases G;exact jQ ⟨n,w,D⟩
def Hy (K:mZ) (x:V) (H:Hp) (k:Bool):Prop :=
 match x with
 | .e=>k=false
 | .b b=>k=b
 | .int i=>k=(i != 0)
 | .str y=>y.length<=sizeLine/\k=((y.length:Int) != 0)
 | .byt y=>y.size<=sizeLine/\k=((y.size:Int) != 0)
 | .ref p=>(∃ c,eH K H p c/\k = !c.isEmpty)\/(∃ c,nQ K H p c/\k = !c.isEmpty)\/∃ a,Rd H p (.k a)/\k = !a.isEmpty
 | _=>False
theorem Vq (r:KV g j):(!j.isEmpty) = !g.isEmpty:=by
 cases r<;>rfl
theorem Nv (r:nE j g):(!g.toArray.isEmpty) = !j.isEmpty:=by
 cases r<;>simp
theorem yL:(sizeLine:Nat)<2 ^ 63:=by rw[sizeLine_eq];decide
theorem AO:KJ X (λx H Q=>∃ k,Hy X.K x H k/\Q k H):=by
 intro E s N H x v Q I n h;obtain⟨k,e,q⟩:=h;have L:=yL;have M:sizeLine=16777216:=sizeLine_eq;cases x with
 | e =>
  cases n;have a:k=false:=e;subst a;exact truthy_none ⟨H,I,q⟩
 | b b =>
  cases n;have a:k=b:=e;subst a;exact jQ ⟨H,I,q⟩
 | int i =>
  obtain⟨t,rfl⟩:=n;have a:k=(i != 0):=e;subst a;exact PySem.P.truthy_int ⟨H,I,q⟩
 | str y =>
  obtain⟨t,rfl⟩:=n;obtain⟨G,a⟩:y.length<=sizeLine/\k=((y.length:Int) != 0):=e;subst a;exact PySem.P.truthy_str (by omega) ⟨H,I.tok _,q⟩
 | byt y =>
  obtain⟨t,rfl⟩:=n;obtain⟨G,a⟩:y.size<=sizeLine/\k=((y.size:Int) != 0):=e;subst a;exact PySem.W.truthy_bytes (by omega) ⟨H,I.tok _,q⟩
 | ref p =>
  cases n;have a:(∃ f,eH X.K H p f/\k = !f.isEmpty)\/(∃ f,nQ X.K H p f/\k = !f.isEmpty)\/∃ c,Rd H p (.k c)/\k = !c.isEmpty:=e;rcases a with⟨f,u,a⟩ | ⟨f,u,a⟩ | ⟨c,u,a⟩
  .subst a;obtain⟨A,r,B,D⟩:=I.list u;have d:=r.length;exact wpAny_truthy_list B.isList (by simp only[aV];omega) ⟨H,I.tok _,by rw[Nv r];exact q⟩
  .subst a;obtain⟨A,r,B,D⟩:=I.tuple u;have d:=r.length;exact truthy_tuple B (by simp only[aV];omega) ⟨H,I.tok _,by rw[Nv r];exact q⟩
  .subst a;obtain⟨D,F,z,r,m⟩:c.length<=sizeLine/\(p == sysModules)=false/\∃ z,KV c z/\s.heap.DictOf (oB X.prog X.w) p z:=Rd.ok u I.hok;have d:c.length=z.length:=eP r;exact wpAny_truthy_dict F m (by omega) ⟨H,I.tok _,by rw[Vq r];exact q⟩
 | _=>exact (show False from e).elim
theorem S3 (l:PE X a p) (o:∀ whole,isTrue a X.env whole=(do let v <- whole;standAt a.pos;holding [v] (truthy v))) :
  PT X a (λg H Q=>p g H λx j=>∃ k,Hy X.K x j k/\Q k j):=by
 intro b s g H Q I h;exact isTrue_plain (nD (l b s g H _ I h) λv i ⟨x,c,d,f,e⟩=>AO b i g c x v Q d f e) (o _)
theorem wG:nR X (binaryOp .Add) (λx y H Q=>∃ i j,x = .str i/\y = .str j/\i.length+j.length<=sizeLine/\Q (.str (i++j)) H):=by
 intro a s k H x y v u Q I c d h;obtain⟨i,j,rfl,rfl,b,q⟩:=h;obtain⟨t,rfl⟩:=c;obtain⟨e,rfl⟩:=d;exact add_str (λe f=>⟨.str (i++j),H,I.tok _,⟨_,rfl⟩,q⟩) b
theorem qJ (r:nE [x] g):∃ u,g=[u]/\nF x u:=by
 cases r with
 | cons a b=>cases b;exact⟨_,rfl,a⟩
theorem yS (r:nE [x,y] j):∃ u g,j=[u,g]/\nF x u/\nF y g:=by
 cases r with
 | cons a b =>
  cases b with
  | cons c d=>cases d;exact⟨_,_,rfl,a,c⟩
theorem Bw:oH X (.builtin "abs") (λg H Q=>∃ i,g=[.int i]/\Q (.int (if i<0 then -i else i)) H):=by
 intro a s d H g c Q I r h;obtain⟨i,rfl,q⟩:=h;obtain⟨u,rfl,t,rfl⟩:=qJ r;exact call_abs_int λu b=>⟨.int (if i<0 then -i else i),H,I.tok _,⟨_,rfl⟩,q⟩
theorem LC (l:X.calm=true):oH X (.builtin "max") (λg H Q=>∃ i j,g=[.int i,.int j]/\Q (.int (if j>i then j else i)) H):=by
 intro b s n H g f Q I r h;obtain⟨i,j,rfl,q⟩:=h;obtain⟨u,m,rfl,⟨t,rfl⟩,⟨d,rfl⟩⟩:=yS r;refine max_two_ints (I.ok.hd l) λc e k=>⟨_,H,I.kept k,?_,q⟩
 by_cases a:j>i
 .rw[aP a,aP a];exact⟨_,rfl⟩
 .rw[aI a,aI a];exact⟨_,rfl⟩
theorem Ib (l:X.calm=true):oH X (.builtin "min") (λg H Q=>∃ i j,g=[.int i,.int j]/\Q (.int (if j<i then j else i)) H):=by
 intro b s n H g f Q I r h;obtain⟨i,j,rfl,q⟩:=h;obtain⟨u,m,rfl,⟨t,rfl⟩,⟨d,rfl⟩⟩:=yS r;refine min_two_ints (I.ok.hd l) λc e k=>⟨_,H,I.kept k,?_,q⟩
 by_cases a:j<i
 .rw[aP a,aP a];exact⟨_,rfl⟩
 .rw[aI a,aI a];exact⟨_,rfl⟩
theorem LU:oH X (.type "int") (λg H Q=>(∃ i,g=[.int i]/\Q (.int i) H)\/∃ k,g=[.b k]/\Q (.int (if k then 1 else 0)) H):=by
 intro a s e H g d Q I r h;rcases h with⟨i,rfl,q⟩ | ⟨k,rfl,q⟩
 .obtain⟨u,rfl,t,rfl⟩:=qJ r;exact call_int_int ⟨.int i,H,I,⟨_,rfl⟩,q⟩
 .obtain⟨u,rfl,c⟩:=qJ r;cases c;exact call_int_bool ⟨.int (if k then 1 else 0),H,I.tok _,⟨_,rfl⟩,q⟩
end
structure ObjM (h:Heap) (x dx C:Addr) (mA:Str->Option Value):Prop where
 obj:h.get? x=some (PySem.W.instObj C dx)
 ns:h.Ns1 dx mA
 ne:dx≠x
theorem KR {h:Ag}{g:Ad}{j:Af->Ab Ac}(n:h.Ns1 g j):∃ l,h.get? g=some l/\∀ name,PySem.W.lookIn name l=some (j name):=by
 obtain⟨o,c,m,i,hd,hk,_,f⟩:=n;refine⟨o,i,λname=>?_⟩;have e:=f name;unfold nsFind findBy at e;rw[<- Array.find?_toList] at e;unfold PySem.W.lookIn;rw[hd];dsimp only;split
 .rename_i y q
  rw[q] at e;exact cK some e
 .rename_i q
  rw[q] at e;have a:c.toList.any (·.refKey)=false:=by
   rw[List.any_eq_false];intro y k;obtain⟨z,t,b⟩:=hk y (Array.mem_toList_iff.mp k);simp[DictEntry.refKey,b]
  have d:¬ c.toList.any (·.refKey)=true:=by rw[a];exact bE
  rw[aI d];exact cK some e
theorem ObjM.look (I:ObjM h x j C l):∃ g,PySem.W.InstAt h x (PySem.W.instObj C j) C (some g)/\∀ name,PySem.W.lookIn name g=some (l name) :=
 let ⟨g,b,a⟩:=KR I.ns
 ⟨g,⟨I.obj,rfl,rfl,b⟩,a⟩
theorem sV.some_of (r:sV (some v) o):∃ u,o=some u/\nF v u:=by
 cases o with
 | none=>exact (show False from r).elim
 | some u=>exact⟨u,rfl,r⟩
section
variable {P:Ah}
theorem EH (l:oO P w H h) (e:H a=some (.ins C j fs)):∃ g,ObjM h a j C g/\(∀ f,sV (fs.lookup f) (g f))/\PySem.Within g (fs.map (·.1))/\fs.length<=1000/\H j=some (.o a):=by
 obtain⟨d,z,ne,b,g,n,r,q⟩:=(show oG P w H h a (.ins C j fs) from l a _ e);exact⟨g,⟨b,n,ne⟩,r,q,z,d⟩
end
structure Cls (K:mZ) (C:Addr):Prop where
 pg:PySem.W.plainGet K C Str.empty=true
 hd:PySem.W.hasDictIn K C=true
 po:PySem.W.plainOver K C=true
 sa:PySem.W.findIn K (.ref C) "__setattr__" = some (some (.builtin "object.__setattr__"))
theorem Cls.get {K:mZ}(c:Cls K C) (f:Af):PySem.W.plainGet K C f=true:=c.pg
section
variable {X:Cx}
inductive TyOf (K:mZ) (H:Hp):V->Value->Prop where
 | e:TyOf K H .e (.type "NoneType")
 | b (x:Bool):TyOf K H (.b x) (.type "bool")
 | int (i:Int):TyOf K H (.int i) (.type "int")
 | str (x:Str):TyOf K H (.str x) (.type "str")
 | flt (x:UInt64):TyOf K H (.flt x) (.type "float")
 | l {a:Addr} {xs:List V} (e:H a=some (.l xs)):TyOf K H (.ref a) (.type "list")
 | frz {a:Addr} {o:Obj} {xs:List V} (e:H a=some (.frz o (.l xs))):TyOf K H (.ref a) (.type "list")
 | t {a:Addr} {xs:List V} (e:H a=some (.t xs)):TyOf K H (.ref a) (.type "tuple")
 | k {a:Addr} {kvs:List (hG×V)} (e:Rd H a (.k kvs)):TyOf K H (.ref a) (.type "dict")
 | T {a:Addr} {kvs:List (List hG×V)} (e:H a=some (.T kvs)):TyOf K H (.ref a) (.type "dict")
 | dM {a:Addr} {kvs:List (MK×V)} (e:H a=some (.dM kvs)):TyOf K H (.ref a) (.type "dict")
 | ins {a C dx:Addr} {fs:List (Str×V)} (e:H a=some (.ins C dx fs)) (cl:Cls K C) (ha:PySem.W.findIn K (.ref C) "__class__" = some (some (.builtin "object.__class__")))
   (hn:PySem.W.specialIn K (.builtin "object.__class__") "__get__" = some (some (.builtin "getset_descriptor.__get__"))) (htk:PySem.W.takesIn K (.builtin "object.__class__")=some true)
   (hm:PySem.W.mroIn K C (.type "object")=some true):TyOf K H (.ref a) (.ref C)
theorem Z5 (I:Inv X j U H s) (g:nF x u) (ty:TyOf X.K H x t) (e:PySem.W.kitOne X.K t c=some b) (h:∀ r,Q (.bool b) { s with toks:=r }) :
  wpAny (model X.prog X.w) A (call (.builtin "isinstance") [u,c]) Q E s:=by
 cases ty with
 | e=>cases (show u=Value.none from g);exact dL PySem.W.kitx_none I.kIn True.intro e (λz=>nomatch z) h
 | b y=>cases (show u=Value.bool y from g);exact dL PySem.W.kitx_bool I.kIn True.intro e (λz=>nomatch z) h
 | int i=>obtain⟨t,q⟩:=(show ∃ t,u=Value.int i t from g);cases q;exact dL PySem.W.kitx_int I.kIn True.intro e (λz=>nomatch z) h
 | str y=>obtain⟨t,q⟩:=(show ∃ t,u=Value.str y t from g);cases q;exact dL PySem.W.kitx_str I.kIn True.intro e (λz=>nomatch z) h
 | flt y=>obtain⟨t,q⟩:=(show ∃ t,u=Value.float y t from g);cases q;exact dL PySem.W.kitx_float I.kIn True.intro e (λz=>nomatch z) h
 | @l a B d =>
  cases (show u=Value.ref a from g);obtain⟨_,_,n,_,f⟩:=(show oG X.prog X.w H s.heap a (.l B) from I.hok a _ d);exact dL PySem.W.kitx_list I.kIn ⟨_,f,rfl⟩ e (λz=>nomatch z) h
 | @frz a P B d =>
  cases (show u=Value.ref a from g);obtain⟨_,_,_,n,_,f⟩:=(show oG X.prog X.w H s.heap a (.frz P (.l B)) from I.hok a _ d);exact dL PySem.W.kitx_list I.kIn ⟨_,f,rfl⟩ e (λz=>nomatch z) h
 | @t a B d =>
  cases (show u=Value.ref a from g);obtain⟨_,_,_,p,_⟩:=(show oG X.prog X.w H s.heap a (.t B) from I.hok a _ d);obtain⟨o,f,v,_⟩:=p;exact dL PySem.W.kitx_tuple I.kIn ⟨o,f,v⟩ e (λz=>nomatch z) h
 | @k a m d =>
  cases (show u=Value.ref a from g);obtain⟨_,_,Y,_,p⟩:=(show oG X.prog X.w H s.heap a (.k m) from Rd.ok d I.hok);obtain⟨o,G,F,f,v,_⟩:=p;exact dL kZ I.kIn ⟨o,f,v.1⟩ e (λz=>nomatch z) h
 | @T a m d =>
  cases (show u=Value.ref a from g);obtain⟨_,_,B,_,o,G,F,f,v,_⟩:=(show oG X.prog X.w H s.heap a (.T m) from I.hok a _ d);exact dL kZ I.kIn ⟨o,f,v.1⟩ e (λz=>nomatch z) h
 | @dM a m d =>
  cases (show u=Value.ref a from g);obtain⟨_,_,B,_,o,G,F,f,v,_⟩:=(show oG X.prog X.w H s.heap a (.dM m) from I.hok a _ d);exact dL kZ I.kIn ⟨o,f,v.1⟩ e (λz=>nomatch z) h
 | @ins a C R fs d cl L N D M =>
  cases (show u=Value.ref a from g);obtain⟨S,O,_⟩:=EH I.hok d;obtain⟨V,J,_⟩:=O.look;exact dL (PySem.W.kitx_own (cl.get _) cl.hd L N D M) I.kIn J e (λz=>nomatch z) h
end
structure Room (k:Nat) (A:Around):Prop where
 hd:A.handled=none
 dp:A.depth+3*k+5<recursionLimit
 un:A.units+16*k+200<cLine
theorem Room.mono (r:Room k A) (h:j<=k):Room j A:=⟨r.hd,by have:=r.dp;omega,by have:=r.un;omega⟩
theorem Room.deeper (r:Room (k+1) A) (g:Env):Room k (A.deeper g) :=
 ⟨r.hd,by have:=r.dp;show A.depth+1+3*k+5<_;omega,by have:=r.un;show A.units+3+16*k+200<_;omega⟩
theorem Room.depth (r:Room k A):A.depth<recursionLimit:=by have:=r.dp;omega
theorem Room.units (r:Room k A):A.units+64<cLine:=by have:=r.un;omega
def Fd:TA:=λ_ H Q=>Q [] H
def Cg (g:TE) (j:TA):TA:=λa H Q=>g a H λx b=>j a b λd c=>Q (x::d) c
section
variable {X:Cx}
theorem nI:PA X [] Fd:=λ_ _ _ _ H Q I h=>Calls.spliced_nil ⟨[],H,I,.nil,h⟩
theorem wP (j:PE X e p) (l:PA X g t) (o:starEach (e::g) X.env=(false,eval e X.env)::starEach g X.env:=by rfl):PA X (e::g) (Cg p t):=by
 intro pos a s c H Q I h;rw[o];show wpAny _ _ (spliced ((false,eval e X.env)::backTo pos (starEach g X.env))) _ _ s;refine kL (nD (j a s c H _ I h) λu w b=>?_);obtain⟨x,d,i,q,m⟩:=b;exact nD (l pos a w c d _ i m) λA z ⟨y,f,k,v,n⟩=>⟨x::y,f,k,.cons q v,n⟩
def Zr (t:TA):TE:=λc H Q=>t c H λb a=>b.length<=sizeLine/\∀ p,a p=none->Q (.ref p) (upd a p (.t b))
def L7 (t:TA):TE:=λc H Q=>t c H λb a=>b.length<=sizeLine/\∀ p,a p=none->Q (.ref p) (upd a p (.l b))
theorem zV {j}(h:PA X g t):PE X (.Tuple g j pos) (Zr t):=by
 intro a s v H Q I k;refine wpAny_Tuple_spliced (nD (h pos a s v H _ I k) λm c ⟨n,d,f,r,z,q⟩=>⟨by rw[<- r.length];exact z,?_⟩);have i:d c.heap.objs.size=none:=f.hok.fresh (aR _);refine⟨.ref c.heap.objs.size,upd d c.heap.objs.size (.t n),f.laid (t':=c.toks) (λb u e=>aL _ e) (aR _) ?_,rfl,q _ i⟩;exact⟨z,m,r,⟨_,bC _ rfl,rfl,_,rfl⟩,_,bC _ rfl,rfl⟩
theorem pU (h:PA X g t):PE X (.List g pos) (L7 t):=by
 intro a s v H Q I k;refine wpAny_List_spliced (nD (h pos a s v H _ I k) λm c ⟨n,d,f,r,z,q⟩=>⟨by rw[<- r.length];exact z,?_⟩);have i:d c.heap.objs.size=none:=f.hok.fresh (aR _);refine⟨.ref c.heap.objs.size,upd d c.heap.objs.size (.l n),f.laid (t':=c.toks) (λb u e=>aL _ e) (aR _) ?_,rfl,q _ i⟩;exact⟨z,m,0,r,bC _ rfl⟩
end
abbrev Sp:=Aa V->Hp->VK->XK->Prop
abbrev At:=Aa Env->Hp->Ae->XK->Ac->Ae->Prop
structure Env0 (P:Program) (w:World) (K:mZ) (mg:Str->Option Value) (base:Heap) (A:Around) (outer:List Env) (s:Shared) (H:Hp):Prop where
 frames:A.frames=some outer
 mod:Mod K mg base
 bs:∀ b o,base.get? b=some o->s.heap.get? b=some o/\H b=none
 bsz:base.objs.size<=s.heap.objs.size
 funs:s.heap.FunFrames base outer
 frf:∀ b∈tW outer,H b=none
 hok:oO P w H s.heap
 bare:AllBare s.gens
def CE (g:Aa Env) (P:Ah) (w:World) (H:Hp) (s:Ae) (Q:VK) (u:Ac) (j:Ae):Prop :=
 ∃ v a,j.os=s.os/\AllBare j.gens/\Un (tW g) [] H a s.heap j.heap/\oO P w a j.heap/\nF v u/\Q v a
def CR (l:At) (g:Aa Env) (P:Ah) (w:World) (H:Hp) (s:Ae) (Q:VK) (E:XK) (r:Result) (j:Ae):Prop :=
 match r with
 | .ok (.ret u)=>CE g P w H s Q u j
 | .ok _=>False
 | .error e=>l g H s E e j
structure FnOk (P:Program) (w:World) (K:mZ) (mg:Str->Option Value) (base:Heap) (CX:At) (k:Nat) (f:Addr) (fd:FuncData) (ps:List Str) (sp:Sp):Prop where
 len:∀ vs H Q E,sp vs H Q E->vs.length=ps.length
 run:∀ (A:Around) (outer:List Env) (s:Shared) (H:Hp) (args:Args) (us:List Value) (vs:List V) (Q:VK) (E:XK),Room k A->Env0 P w K mg base A outer s H->BindsTo s fd args (ps.zip us)->nE vs us->sp vs H Q E ->
  codeAny (model P w) A (.call (.ref f) args) (CR CX outer P w H s Q E) s
theorem FnOk.imp {P:Ah}{K:mZ}(F:FnOk P w K o base l k f fd p r)
  (h:∀ g H Q E,j g H Q E->r g H Q E):FnOk P w K o base l k f fd p j :=
 ⟨λg H Q E q=>F.len g H Q E (h _ _ _ _ q),λA a s H args m g Q E d c b i e=>F.run A a s H args m g Q E d c b i (h _ _ _ _ e)⟩
section
variable {X:Cx}
theorem Inv.env0 (I:Inv X g j H s):Env0 X.prog X.w X.K X.mg X.base X.A X.stack s H :=
 ⟨I.ok.frames,I.ok.mod,I.bs,bD I.ok.bsz I.sz,I.stack,I.stkFree,I.hok,I.bare⟩
theorem Inv.after (I:Inv X j o H s) (h:CE X.stack X.prog X.w H s Q u l):EP X j o Q u l:=by
 obtain⟨v,e,os,bare,un,a,r,q⟩:=h;obtain⟨f,g,d,t,c⟩:=l;obtain rfl:c=s.os:=os;exact⟨v,e,I.call (h':=f) (g':=g) (d':=d) (t':=t) (ch:=[]) un a bare (λb z=>absurd z (by simp)),r,q⟩
end
def Q3 (j:Sp) (g:Aa V) (E:XK) (t:TA):TE:=λc H Q=>t c H λb a=>j (b++g) a Q E
def xR (K:mZ) (fd:FuncData) (j:Aa Af) (g:Aa Ac):Prop :=
 ∀ (s:Ae) (a:Aa Ac),K.In s.heap->(a++g).length=j.length->BindsTo s fd ⟨a,[]⟩ (j.zip (a++g))
theorem xR.all {K:mZ}(h:∀ g:Aa Ac,g.length=j.length->bindArgs fd ⟨g,[]⟩=pure (j.zip g)):xR K fd j []:=λs g _ a=>by
 rw[dN] at a |-;exact .of_eq (h g a)
def Hf (g:At) (X:Cx) (E:XK):Prop:=∀ (a:Aa (Ad×Obj)) (c:St) (H:Hp) (s:Ae) (e:Ac) (b:Ae),Inv X a c H s->g X.stack H s E e b->X.xe e b
section
variable {X:Cx}
theorem P8 (F:FnOk X.prog X.w X.K X.mg X.base J k f fd p sp) (U:Room k X.A) (T:xR X.K fd p l) (hd:nE j l) (hx:Hf J X E)
  (I:Inv X g C H s) (r:nE o us) (h:sp (o++j) H Q E):wpAny (model X.prog X.w) X.A (call (.ref f) us) (EP X g C Q) X.xe s:=by
 have b:nE (o++j) (us++l):=r.append hd;have d:(us++l).length=p.length:=by rw[<- b.length];exact F.len _ _ _ _ h
 refine wpAny_call (codeAny_mono (F.run X.A X.stack s H ⟨us,[]⟩ (us++l) (o++j) Q E U I.env0 (T s us I.kIn d) b h) λr i a=>?_);cases r with
 | error e=>exact hx g C H s e i I a
 | ok c =>
  cases c with
  | ret u=>exact I.after a
  | next=>exact False.elim a
  | brk=>exact False.elim a
  | cont=>exact False.elim a
structure StB (X:Cx) (e:Expr) (es:List Expr) (pos:Pos):Prop where
 a:starEach (e::es) X.env=(false,eval e X.env)::starEach es X.env:=by rfl
 b:(backTo pos (starEach es X.env)).any (·.1)=false:=by rfl
theorem qM (F:FnOk X.prog X.w X.K X.mg X.base C k f fd ps sp) (hr:Room k X.A) (hg:Gl X x) (hm:X.mg x=some (.ref f)) (hk:PySem.W.keepIn X.K (.ref f)=true) (U:xR X.K fd ps J) (hd:nE j J) (hx:Hf C X E)
  (T:PA X (e::o) t) (l:(x == ("__debug__" : Af))=false:=by decide) (g:StB X e o pos:=by exact {}) :
  PE X (.Call (.Name x p) (e::o) [] pos) (Q3 sp j E t):=by
 intro c s i H Q I h;refine gY (Vb I hg hm ?_ l);refine PySem.W.callWith_K (h₀:=X.base) I.ok.mod.kin hk (nD (T pos c s i H _ I h) λu n ⟨v,m,d,r,q⟩=>⟨d.kIn,?_⟩) g.a g.b;exact P8 F hr U hd hx d r q
theorem Ug (F:FnOk X.prog X.w X.K X.mg X.base l k f fd ps sp) (T:Room k X.A) (C:Gl X x) (J:X.mg x=some (.ref f)) (hk:PySem.W.keepIn X.K (.ref f)=true) (r:xR X.K fd ps o) (hd:nE g o) (U:Hf l X E)
  (j:(x == ("__debug__" : Af))=false:=by decide):PE X (.Call (.Name x p) [] [] pos) (Q3 sp g E Fd):=by
 intro a s b H Q I h;refine gY (Vb I C J ?_ j);exact PySem.W.callWith_K0 I.kIn hk (P8 (us:=[]) F T r hd U I .nil h)
end
structure FnScope (N P:List Str) (sc:Scope):Prop where
 kind:sc.kind = .function
 co:sc.isCoroutine=false
 gen:sc.isGenerator=false
 nd:N.Nodup
 pre:N.take P.length=P
 par:∀ x∈P,sc.names.lookup x=some .local\/sc.names.lookup x=some .cell
 nofree:∀ y∈sc.names,y.2 ≠ .free
theorem Pn {kindOf:Af->Ab NameKind}:∀ {binds:Aa (Af×Ac)}{m:Af->Ab Ac},(∀ v,(x,v)∉binds)->bindL kindOf binds m x=m x
 | [],_,_=>rfl
 | (n,v)::r,m,h=>by
  unfold bindL;rw[Pn λw hw=>h w (aJ _ hw)];split
  .have:x≠n:=by rintro rfl;exact h v aE
   simp[this]
  .rfl
theorem Ri {kindOf:Af->Ab NameKind}:∀ {binds:Aa (Af×Ac)}{m:Af->Ab Ac},(∀ v,(x,v)∉binds)->bindC kindOf binds m x=m x
 | [],_,_=>rfl
 | (n,v)::r,m,h=>by
  unfold bindC;rw[Ri λw hw=>h w (aJ _ hw)];split
  .rfl
  .have:x≠n:=by rintro rfl;exact h v aE
   simp[this]
theorem Qv {kindOf:Af->Ab NameKind}:∀ {P:Aa Af}{g:Aa Ac}{i:Nat}{m:Af->Ab Ac},P.Nodup->P[i]?=some x->g[i]?=some v->kindOf x=some .local ->
  bindL kindOf (P.zip g) m x=some v
 | [],_,_,_,_,h,_,_=>by simp at h
 | _::_,[],_,_,_,_,h,_=>by simp at h
 | p::P,w::g,0,m,nd,a,b,hk=>by
  simp at a b;subst a;subst b;show bindL kindOf ((p,w)::P.zip g) m p=_;unfold bindL;rw[Pn λv c=>(bN.mp nd).1 (gQ c).1,aP hk];simp
 | p::P,w::g,i+1,m,nd,a,b,hk=>by
  show bindL kindOf ((p,w)::P.zip g) m x=_;unfold bindL;exact Qv (i:=i) (bN.mp nd).2 (by simpa using a) (by simpa using b) hk
theorem M5 {kindOf:Af->Ab NameKind}:∀ {P:Aa Af}{g:Aa Ac}{i:Nat}{m:Af->Ab Ac},P.Nodup->P[i]?=some x->g[i]?=some v->kindOf x≠some .local ->
  bindC kindOf (P.zip g) m x=some v
 | [],_,_,_,_,h,_,_=>by simp at h
 | _::_,[],_,_,_,_,h,_=>by simp at h
 | p::P,w::g,0,m,nd,a,b,hk=>by
  simp at a b;subst a;subst b;show bindC kindOf ((p,w)::P.zip g) m p=_;unfold bindC;rw[Ri λv c=>(bN.mp nd).1 (gQ c).1,aI hk];simp
 | p::P,w::g,i+1,m,nd,a,b,hk=>by
  show bindC kindOf ((p,w)::P.zip g) m x=_;unfold bindC;exact M5 (i:=i) (bN.mp nd).2 (by simpa using a) (by simpa using b) hk
def tF (N:Aa Af) (g:Aa V):St:=g.map some++List.replicate (N.length-g.length) none
noncomputable def xZ (o:At) (P:Ah) (w:World) (K:mZ) (p:Af->Ab Ac) (base:Ag) (N:Aa Af) (l:Af) (g:Scope) (f:Ad) (cd:Ac) (A:Around) (j:Aa Env) (s:Ae) (H:Hp) (E:XK):Cx where
 prog:=P
 w:=w
 K:=K
 mg:=p
 base:=base
 A:=A.deeper (envOfC l g s.heap.objs.size f cd)
 N:=N
 s₀:=s
 H₀:=H
 env:=envOfC l g s.heap.objs.size f cd
 outer:=j
 stack:=envOfC l g s.heap.objs.size f cd::j
 ex:=[]
 calm:=true
 fn:=λ_=>true
 pn:=[]
 xe:=λe c=>wpAny (model P w) (A.deeper (envOfC l g s.heap.objs.size f cd)) (leaving (envOfC l g s.heap.objs.size f cd) e) (λ_ a=>o j H s E e a) (λb a=>o j H s E b a) c
theorem R7 {g:Scope}{n:Nat}{x:Af}(h:g.names.lookup x=some .cell):∃ c,(cellsFrom n g.names []).lookup x=some c:=by
 have q:=PySem.W.cellsFrom_some g.names n [] (.inl h);exact eE.mp q
theorem Zb {P:Ah}{K:mZ}{cd:Ac}
  (S:FnScope N C g) (hd:A.handled=none) (o:Env0 P w K J base A j s H) (hl:I.length=C.length) (r:nE I T)
  (x:InCallC s s.heap.objs.size (bindL (envOfC l g s.heap.objs.size f cd).kindOf (C.zip T) λ_=>none) (cellsFrom (s.heap.objs.size+1) g.names []) (bindC (envOfC l g s.heap.objs.size f cd).kindOf (C.zip T) λ_=>none) s1) :
  Inv (xZ U P w K J base N l g f cd A j s H E) [] (tF N I) H s1:=by
 have O:C.length<=N.length:=by have:=cK List.length S.pre;rw[bO] at this;omega
 obtain⟨F,V,rfl,hk⟩:=x.done;have t:∀ b:Ad,b∉(xZ U P w K J base N l g f cd A j s H E).ex:=λb z=>absurd (show b∈([]:Aa Ad) from z) (by simp)
 refine⟨⟨o.mod,S.kind,rfl,rfl,aR _,λy z c F d=>?_,λy m=>?_,λy c _ h=>?_,λ_=>hd,Around.frames_deeper o.frames,.inr ⟨rfl,rfl⟩,λb z=>absurd z (t b),o.bs,o.bsz,λb _ _=>t b,λb z=>absurd z (t b),o.funs,o.frf⟩,
  rfl,o.bare,Un.kept hk,⟨_,x.toInCall.ns,λi y v F d R=>?_⟩,λy c h=>⟨_,x.cell y c h⟩,o.hok.fresh (aR _),λy c h=>?_,λp B=>absurd (show p∈([]:Aa (Ad×Obj)) from B) (by simp),o.hok.kept hk,?_⟩
 .exact name_of_addr x.apart (eJ F) (eJ d)
 .have m:g.names.lookup y=some .cell\/g.names.lookup y=some .free:=m;rcases m with m | m
  .exact R7 m
  .exact absurd rfl (S.nofree _ (eJ m))
 .exact dX (x.above y c (eJ h))
 .have G:i<I.length:=by
   unfold tF at d;by_cases G:i<I.length
   .exact G
   .rw[cT (by simpa using G)] at d;rw[List.getElem?_replicate] at d;split at d<;>cases d
  have M:I[i]?=some v:=by
   unfold tF at d;rw[eS (by simpa using G),aU] at d;cases e:I[i]? with
   | none=>rw[e] at d;cases d
   | some a=>rw[e] at d;cases d;rfl
  obtain⟨u,L,Q⟩:=r.get M;have B:C[i]?=some y:=by
   rw[<- S.pre,List.getElem?_take_of_lt (by omega)];exact F
  have D:C.Nodup:=by rw[<- S.pre];exact S.nd.sublist (List.take_sublist _ _)
  refine⟨u,Q,?_⟩;rcases S.par y (aK B) with k | k
  .exact .inl ⟨k,Qv D B L k⟩
  .obtain⟨c,e⟩:=R7 (n:=s.heap.objs.size+1) k;refine .inr ⟨.inl k,c,e,?_⟩;have q:=x.cell y c e;rw[M5 D B L (by show g.names.lookup y≠_;rw[k];decide)] at q;exact q
 .exact o.hok.fresh (dX (x.above y c (eJ h)))
 .unfold tF;show _=N.length;rw[aZ,aA,cO];omega
theorem BN {P:Ah}{K:mZ}{kV:Ac}
(lk:K.lookup f=some ⟨oc,od,.func (PySem.W.fnOf name l C body g dV kV ab pm an p ct),ae⟩) (ac:PySem.W.codeIn K p l=true) (S:FnScope N ps g)
  (len:∀ T H Q E,sp T H Q E->T.length=ps.length)
  (aa:∀ (A:Around) (j:Aa Env) (s:Ae) (H:Hp) (T:Aa V) (Q:VK) (E:XK),Room k (A.deeper (envOfC l g s.heap.objs.size f p))->sp T H Q E ->∃ t,pS (xZ CX P w K mg base N l g f p A j s H E) body t/\t { nx:=λ_ U=>Q .e U,rt:=Q } (tF N T) H) :
  FnOk P w K mg base CX (k+1) f (PySem.W.fnOf name l C body g dV kV ab pm an p ct) ps sp:=by
 refine⟨len,λA j s H args us T Q E m h O r i=>?_⟩;have X:=len _ _ _ _ i;have F:K.In s.heap:=h.mod.kin.keeps λb o e=>(h.bs b o e).1
 have z:s.heap.NoLimit:=h.mod.nolimit.keeps λb o e=>(h.bs b o e).1
 have c:∀ y∈ps.zip us,g.names.lookup y.1=some .local\/(g.names.lookup y.1=some .cell/\((cellsFrom (s.heap.objs.size+1) g.names []).lookup y.1).isSome=true):=λ⟨n,v⟩ hy=>by
  rcases S.par n (gQ hy).1 with q | q
  .exact .inl q
  .exact .inr ⟨q,PySem.W.cellsFrom_some _ _ _ (.inl q)⟩
 refine codeAny_call_function m.depth (F _ _ lk) rfl S.co S.gen rfl (PySem.W.codeRec_of F ac) (O _ _ _ _ ?_);refine wpAny_newFunctionEnv_cells S.kind c λL R G x=>?_
 subst R;refine⟨z.keeps x.toInCall.keep,codeAny_func ?_⟩;obtain⟨t,Z,Y⟩:=aa A j s H T Q E (m.deeper _) i;have I:Inv (xZ CX P w K mg base N l g f p A j s H E) [] (tF N T) H G:=Zb S m.hd h X r x;refine cY (Z [] G (tF N T) H _ I Y) (λM D d=>?_) λe D d=>d
 have fin:∀ {a:St} {U:Hp} {v:V} {u:Ac},Inv (xZ CX P w K mg base N l g f p A j s H E) [] a U D->nF v u->Q v U->CE j P w H s Q u D :=
  λ{a U v u} J B q=>⟨v,U,J.os,J.bare,J.base,J.hok,B,q⟩
 cases M with
 | ret u =>
  obtain⟨v,a,U,J,B,q⟩:=d;exact fin J B q
 | next =>
  obtain⟨a,U,J,q⟩:=d;exact fin (v:=V.e) (u:=Value.none) J rfl q
 | brk =>
  obtain⟨_,_,_,q⟩:=d;exact False.elim q
 | cont =>
  obtain⟨_,_,_,q⟩:=d;exact False.elim q
section
variable {X:Cx}{id:String}
def Te (r:Aa V->Hp->VK->Prop) (t:TA):TE:=λc H Q=>t c H λb a=>r b a Q
theorem sJ (C:oH X (.builtin id) r) (J:Gl X x) (T:X.mg x=none) (hv:bootBuiltins x=some (.builtin id)) (o:PA X (e::l) t) (U:x ≠ "__name__" := by decide) (j:(x == ("__debug__" : Af))=false:=by decide)
  (g:StB X e l pos:=by exact {}):PE X (.Call (.Name x p) (e::l) [] pos) (Te r t):=by
 intro c s d H Q I h;refine gY (wD I J T hv ?_ U j);exact PyProof.Rows.callWith_builtin1 (nD (o pos c s d H _ I h) λq n ⟨u,f,i,m,k⟩=>C c n d f u q Q i m k) g.a g.b
theorem zC (C:oH X (.type T) r) (J:Gl X x) (U:X.mg x=none) (hv:bootBuiltins x=some (.type T)) (o:PA X (e::l) t) (hn:x ≠ "__name__" := by decide) (j:(x == ("__debug__" : Af))=false:=by decide)
  (g:StB X e l pos:=by exact {}):PE X (.Call (.Name x p) (e::l) [] pos) (Te r t):=by
 intro c s d H Q I h;refine gY (wD I J U hv ?_ hn j);exact dF (nD (o pos c s d H _ I h) λq n ⟨u,f,i,m,k⟩=>C c n d f u q Q i m k) g.a g.b
end
end L2
namespace HT
open PySem PyProof.Rows
section
theorem cat_tup (J:IsTup s.heap t j.toArray) (I:IsTup s.heap b g.toArray) (o:j≠[])
  (r:g=[]->Q (.ref t) s) (C:g≠[]->Q (.ref s.heap.objs.size) { s with heap:=s.heap.push { cls:=.type "tuple",data:=.seq (j++g).toArray } })
  (l:j.length+g.length<=sizeLine):wpAny (model p w) A (binaryOp .Add (.ref t) (.ref b)) Q E s:=by
 obtain⟨⟨cls,m,data,sl⟩,i,q,n,hd⟩:=id J;obtain⟨⟨k,c,data2,h⟩,a,d,u,f⟩:=id I;simp only at q hd d f;subst q hd d f;have e:j.toArray++g.toArray=(j++g).toArray:=by simp
 by_cases hw:g=[]
 .exact concat_meets ⟨_,i,rfl⟩ ⟨_,a,rfl⟩ noFill_tuple_add seq_tuple_add lA kS (kC _ _)
   (tuple_addW1 t b j.toArray g.toArray n u m c sl h (by simpa using o) (by simp[hw])) ⟨i,a,r hw⟩
 .refine concat_meets ⟨_,i,rfl⟩ ⟨_,a,rfl⟩ noFill_tuple_add seq_tuple_add lA kS (kC _ _)
   (tuple_addW2 t b j.toArray g.toArray n u m c sl h (by simpa using o) (by simpa using hw) (by rw[aV,aV];exact l)) ⟨i,a,?_⟩
  rw[e];exact C hw
noncomputable def sIx (n d:Nat):Ab Int->Nat
 | none=>d
 | some v=>if v<0 then (v+(n:Int)).toNat else min v.toNat n
theorem sIx_none (n d:Nat):sIx n d none=d:=rfl
theorem sIx_nat (n d k:Nat):sIx n d (some (k:Int))=min k n:=by
 show (if (k:Int)<0 then ((k:Int)+(n:Int)).toNat else min (k:Int).toNat n)=min k n;rw[aI (by omega),cI]
theorem sIx_le (n d:Nat) (hd:d<=n) (o:Ab Int):sIx n d o<=n:=by
 cases o with
 | none=>exact hd
 | some v =>
  show (if v<0 then (v+(n:Int)).toNat else min v.toNat n)<=n;by_cases a:v<0
  .rw[aP a];omega
  .rw[aI a];exact Nat.min_le_right _ _
theorem Uc (v:Int) (n d:Nat):(if v<0 then max (v+(n:Int)) 0 else min v (n:Int))=((sIx n d (some v):Nat):Int):=by
 show (if v<0 then max (v+(n:Int)) 0 else min v (n:Int))=(((if v<0 then (v+(n:Int)).toNat else min v.toNat n):Nat):Int);by_cases a:v<0
 .simp only[aP a];omega
 .simp only[aI a];omega
theorem MO (lo g:Ab Int) (n:Nat):Builtin.Slice.sliceAdjust lo g 1 (n:Int)=(((sIx n 0 lo:Nat):Int),((sIx n n g:Nat):Int)):=by
 have a:¬ ((1:Int)<0):=by omega
 unfold Builtin.Slice.sliceAdjust;simp only[a,fJ];refine Prod.ext ?_ ?_
 .cases lo with
  | none=>rfl
  | some v=>exact Uc v n 0
 .cases g with
  | none=>rfl
  | some v=>exact Uc v n n
theorem Zf (i j:Nat):Builtin.Slice.slicePlaces (i:Int) (j:Int) 1=j-i:=by
 unfold Builtin.Slice.slicePlaces;have a:(1:Int)>0:=by omega
 simp only[a,gW,Int.ediv_one];split<;>omega
theorem Rf (p:IsPart v o) (h:Q o s):wpAny (model g w) A (Builtin.Slice.slicePartIndex v) Q E s:=by
 cases p with
 | none=>exact slicePart_none h
 | int i t=>exact slicePart_int h
theorem BI {sl:Ad}{j l:Ac}{lo g:Ab Int}{n:Nat}{Q:Int×Int×Nat->Ae->Prop}(p:s.heap.IsSliceOf sl j l .none) (r:IsPart j lo) (C:IsPart l g)
  (h:Q (((sIx n 0 lo:Nat):Int),1,sIx n n g-sIx n 0 lo) s):wpAny (model o w) A (Builtin.Slice.sliceApplied (.ref sl) (pure (n:Int))) Q E s:=by
 obtain⟨os,b,c,a⟩:=id p;unfold Builtin.Slice.sliceApplied Builtin.Slice.sliceFields;refine aB (aB (eK b a (x:=j) rfl (aB (eK b a (x:=l) rfl (aB (eK b a (x:=.none) rfl (aD ?_)))))));refine aB (slicePart_none ?_);show wpAny _ _ (if ((1:Int) == 0)=true then _ else _) _ _ s;rw[aI (by decide)];refine aB (Rf r (aB (Rf C (aB (aD ?_)))));show wpAny _ _ (match Builtin.Slice.sliceAdjust lo g 1 (n:Int) with | (lo,g)=>pure (lo,(1:Int),Builtin.Slice.slicePlaces lo g 1)) _ _ s;rw[MO lo g n];show wpAny _ _ (pure (((sIx n 0 lo:Nat):Int),(1:Int),Builtin.Slice.slicePlaces ((sIx n 0 lo:Nat):Int) ((sIx n n g:Nat):Int) 1)) _ _ s;rw[Zf];exact aD h
theorem DI (g:Array Ac) (i k:Nat):((List.range k).filterMap λ(m:Nat)=>g[((i:Int)+(m:Int)*1).toNat]?).toArray=((g.toList.drop i).take k).toArray:=by
 have e:(λ(m:Nat)=>g[((i:Int)+(m:Int)*1).toNat]?)=λm=>g[i+m]?:=by
  funext m
  have:((i:Int)+(m:Int)*1).toNat=i+m:=by omega
  rw[this]
 rw[e];have:=pick_run g i k;rw[List.filterMap_map] at this;have a:((λx=>g[x]?)∘λx=>i+x)=λm=>g[i+m]?:=rfl
 rw[a] at this;rw[this]
theorem getItem_tuple_cut {sl:Ad}{lo:Ab Int}(j:IsTup s.heap t items) (l:s.heap.IsSliceOf sl I J .none) (r:IsPart I lo) (C:IsPart J g)
  (hw:¬ (sIx items.size 0 lo=0/\sIx items.size items.size g=items.size))
  (h:Q (.ref s.heap.objs.size) { s with heap:=s.heap.push { cls:=.type "tuple",data:=.seq ((items.toList.drop (sIx items.size 0 lo)).take (sIx items.size items.size g-sIx items.size 0 lo)).toArray } })
  (p:items.size<=sizeLine):wpAny (model o w) A (getItem (.ref t) (.ref sl)) Q E s:=by
 have a:sizeOk (.seq ((items.toList.drop (sIx items.size 0 lo)).take (sIx items.size items.size g-sIx items.size 0 lo)).toArray):=by
  show ((items.toList.drop (sIx items.size 0 lo)).take (sIx items.size items.size g-sIx items.size 0 lo)).toArray.size<=sizeLine;rw[aV,bO,cW,eT];omega
 have i:sIx items.size items.size g<=items.size:=sIx_le _ _ (aR _) g;obtain⟨os,e,c,f⟩:=id l;have b:s.TypeIs (.ref sl) "slice" := ⟨os,e,c⟩;unfold getItem
 try with_reducible refine bY ?_
 first | refine aB (aD ?_) | skip
 refine aB (wpAny_sequenceKey j.typeIs (by decide) ?_);refine aB (bX (name:=Str.ofString "__getitem__") j.typeIs iP (cJ iP j.typeIs entry_tuple_getitem ?_ (args_tuple_getitem _ _)));show wpAny _ _ (Builtin.Tuple.tupleItemsOf (.ref t) >>= _) _ _ s;refine aB (tupleItemsOf_ j ?_);refine aB (gX b ?_);rw[aP (by decide)];refine aB (BI l r C ?_);have d:¬ ((((sIx items.size 0 lo:Nat):Int) == 0&&(1:Int) == 1&&(sIx items.size items.size g-sIx items.size 0 lo) == items.size)=true):=by
  intro q;rw[cA,cA] at q;have k:((sIx items.size 0 lo:Nat):Int)=0:=eq_of_beq q.1.1;have n:sIx items.size items.size g-sIx items.size 0 lo=items.size:=eq_of_beq q.2;exact hw ⟨by omega,by omega⟩
 show wpAny _ _ (if (((sIx items.size 0 lo:Nat):Int) == 0&&(1:Int) == 1&&(sIx items.size items.size g-sIx items.size 0 lo) == items.size)=true then _ else _) _ _ s;rw[aI d,DI]
 first
  | exact aB (m:=Builtin.Tuple.tupleExact _) (eW (aD ⟨_,rfl,aD h⟩) a)
  | exact aB (m:=Builtin.Tuple.tupleExact _) (eW (aB (aD (aD ⟨_,rfl,aD h⟩))) a)
  | exact aB (aB (m:=Builtin.Tuple.tupleExact _) (eW (aD (aD ⟨_,rfl,aD h⟩)) a))
  | exact aB (aB (m:=Builtin.Tuple.tupleExact _) (eW (aD ⟨_,rfl,aD h⟩) a))
end
end HT
namespace L2
open PySem PySem.Spec PyProof.Rows
abbrev TO:=St->Hp->(Ab Int->Hp->Prop)->Prop
def PO (X:Cx) (e:Ab Expr) (t:TO):Prop :=
 ∀ (a:Aa (Ad×Obj)) (s:Ae) (b:St) (H:Hp) (Q:Ab Int->Hp->Prop),Inv X a b H s->t b H Q ->
  wpAny (model X.prog X.w) X.A (evalPart e X.env) (λu d=>∃ o c,Inv X a b c d/\IsPart u o/\Q o c) X.xe s
def Mu:TO:=λ_ H Q=>Q none H
def Qa (t:TE):TO:=λb H Q=>t b H λx a=>∃ i,x = .int i/\Q (some i) a
section
variable {X:Cx}{lo:Ab Expr}
theorem yF:PO X none Mu:=by
 intro a s b H Q I h;rw[evalPart_none];exact aD ⟨none,H,I,.none,h⟩
theorem xX (h:PE X e g):PO X (some e) (Qa g):=by
 intro a s m H Q I hw;rw[evalPart_some];refine nD (h a s m H _ I hw) λu n b=>?_
 obtain⟨x,c,d,k,f⟩:=b;obtain⟨i,rfl,q⟩:=f;obtain⟨t,rfl⟩:=k;exact⟨some i,c,d,.int i t,q⟩
def uR (X:Cx) (r:V->Ab Int->Ab Int->Hp->VK->Prop):Prop :=
 ∀ (a:Aa (Ad×Obj)) (s:Ae) (e:St) (H:Hp) (x:V) (v c d:Ac) (lo b:Ab Int) (sl:Ad) (Q:VK),Inv X a e H s->nF x v->s.heap.IsSliceOf sl c d .none->IsPart c lo->IsPart d b->r x lo b H Q ->
  ∃ T id,typeLookup (.type T) "__getitem__" = pure (some (.builtin id))/\s.TypeIs v T/\wpAny (model X.prog X.w) X.A (getItem v (.ref sl)) (EP X a e Q) X.xe s
theorem uR.or (h:uR X r) (j:uR X l):uR X (λx lo g H Q=>r x lo g H Q\/l x lo g H Q):=by
 intro a s k H x v f i lo g sl Q I e b c d q;rcases q with q | q
 .exact h a s k H x v f i lo g sl Q I e b c d q
 .exact j a s k H x v f i lo g sl Q I e b c d q
def LA (r:V->Ab Int->Ab Int->Hp->VK->Prop) (g:TE) (j th:TO):TE:=λa H Q=>g a H λx b=>j a b λl c=>th a c λu d=>r x l u d Q
theorem wO (p:uR X r) (j:PE X e U) (o:PO X lo tl) (C:PO X g th):PE X (.Subscript e (.Slice lo g none J) pos) (LA r U tl th):=by
 intro a s f H Q I h;refine Subscript_ (nD (j a s f H _ I h) λv R d=>?_);obtain⟨x,n,y,P,M⟩:=d;refine wpAny_Slice (nD (o a R f n _ y M) λi S ⟨l,t,z,K,N⟩=>nD (C a S f t _ z N) λk c d=>?_);obtain⟨u,m,B,L,O⟩:=d;rw[evalPart_none];refine aD ?_;have D:Inv X a f m { c with heap:=c.heap.push { cls:=.type "slice",data:=.fields #[i,k,.none] } }:=B.kept (t':=c.toks) λb V q=>aL _ q
 obtain⟨T,id,E,G,F⟩:=p a { c with heap:=c.heap.push { cls:=.type "slice",data:=.fields #[i,k,.none] } } f m x v i k l u c.heap.objs.size Q D P (Heap.IsSliceOf.new ..) K L O;show wpAny (model X.prog X.w) X.A (subscriptTail e (.Slice lo g none J) v (.ref c.heap.objs.size)) (EP X a f Q) X.xe { c with heap:=c.heap.push { cls:=.type "slice",data:=.fields #[i,k,.none] } };exact tail_any (ops:=[.ref c.heap.objs.size,v]) G E F (by with_unfolding_all rfl)
def sU (g:Aa V) (lo j:Ab Int):Aa V:=(g.drop (HT.sIx g.length 0 lo)).take (HT.sIx g.length g.length j-HT.sIx g.length 0 lo)
theorem L8 (g:Aa V) (lo j:Ab Int):(sU g lo j).length<=g.length:=by
 unfold sU;rw[bO,cW];omega
def Uj (K:mZ):V->Ab Int->Ab Int->Hp->VK->Prop:=λx lo c H Q=>∃ a b,x = .ref a/\nQ K H a b /\
 ¬ (HT.sIx b.length 0 lo=0/\HT.sIx b.length b.length c=b.length)/\∀ p,H p=none->Q (.ref p) (upd H p (.t (sU b lo c)))
theorem AW:uR X (Uj X.K):=by
 intro m s E H x v B D lo e sl Q I z n w y h;obtain⟨a,d,rfl,u,hw,q⟩:=h;cases z;obtain⟨f,r,i,k⟩:=I.tuple u;have c:f.toArray.size=d.length:=by rw[aV];exact r.length.symm
 refine⟨"tuple",_,iP.lookup,i.typeIs,?_⟩;refine HT.getItem_tuple_cut i n w y (by rw[c];exact hw) ?_ (by rw[c];exact k);rw[c];refine⟨.ref s.heap.objs.size,_,I.laid (t':=s.toks) (o:=.t (sU d lo e)) (λb A q=>aL _ q) (aR _) ?_,rfl,q _ (I.hok.fresh (aR _))⟩;exact⟨bD (L8 d lo e) k,_,(r.drop (HT.sIx d.length 0 lo)).take (HT.sIx d.length d.length e-HT.sIx d.length 0 lo),vX.new _ _⟩
def Qy (K:mZ):R2:=λx y H Q=>∃ a b d c,x = .ref a/\y = .ref b/\nQ K H a d/\nQ K H b c/\d≠[]/\d.length+c.length<=sizeLine /\
 (c=[]->Q (.ref a) H)/\(c≠[]->∀ p,H p=none->Q (.ref p) (upd H p (.t (d++c))))
theorem nE.nil_iff (r:nE j g):g=[]↔j=[]:=by
 cases r with
 | nil=>simp
 | cons _ _=>simp
theorem S2:nR X (binaryOp .Add) (Qy X.K):=by
 intro i s P H x y v u Q I G L h;obtain⟨a,b,M,N,rfl,rfl,k,m,n,e,E,F⟩:=h;cases G;cases L;obtain⟨A,d,B,_⟩:=I.tuple k;obtain⟨f,c,D,_⟩:=I.tuple m;refine HT.cat_tup B D (λz=>n (d.nil_iff.mp z)) (λz=>⟨.ref a,H,I,rfl,E (c.nil_iff.mp z)⟩) (λz=>?_) (by rw[<- d.length,<- c.length];exact e);refine⟨.ref s.heap.objs.size,_,I.laid (t':=s.toks) (o:=.t (M++N)) (λb O q=>aL _ q) (aR _) ?_,rfl,F (λw=>z (c.nil_iff.mpr w)) _ (I.hok.fresh (aR _))⟩;exact⟨by rw[aZ];exact e,_,d.append c,vX.new _ _⟩
end
noncomputable def rZ (n:Nat) (i:Int):Ab Nat:=if 0<=i then (if i<n then some i.toNat else none) else if -(n:Int)<=i then some (i+n).toNat else none
def pA {l:Type}(g:Aa l) (i:Int):Ab l:=(rZ g.length i).bind λj=>g[j]?
theorem Qh (h:rZ n i=some j):seqIndex? i n=some j/\j<n/\-(n:Int)<=i/\i<n:=by
 unfold rZ at h;by_cases b:0<=i
 .rw[aP b] at h;by_cases a:i<n
  .rw[aP a] at h;have e:i.toNat=j:=bR h;exact⟨by rw[seqIndex_of b a,e],by omega,by omega,a⟩
  .rw[aI a] at h;cases h
 .rw[aI b] at h;by_cases a:-(n:Int)<=i
  .rw[aP a] at h;have e:(i+n).toNat=j:=bR h;exact⟨by rw[seqIndex_neg (by omega) a,e],by omega,a,by omega⟩
  .rw[aI a] at h;cases h
theorem I0 (h:pA g i=some v):∃ j,seqIndex? i g.length=some j/\g[j]?=some v/\j<g.length/\-(g.length:Int)<=i/\i<g.length:=by
 unfold pA at h;cases e:rZ g.length i with
 | none=>rw[e] at h;cases h
 | some j =>
  rw[e] at h;obtain⟨a,b,c,d⟩:=Qh e;exact⟨j,a,h,b,c,d⟩
theorem wY {l:Type}{g:Aa l}{j:Nat}{v:l}(h:g[j]?=some v):pA g (j:Int)=some v:=by
 have a:j<g.length:=(aG.mp h).1;have e:rZ g.length (j:Int)=some j:=by
  unfold rZ;rw[aP (by omega),aP (by omega)];simp
 unfold pA;rw[e];exact h
def Im (b:Expr):Prop:=∀ o i,subscripted b false o i=operate [o,i] (getItem o i)
def uS (X:Cx) (r:R2):Prop :=
 ∀ (value slice:Expr) (a:Aa (Ad×Obj)) (s:Ae) (b:St) (H:Hp) (x y:V) (v u:Ac) (Q:VK),Inv X a b H s->nF x v->nF y u->r x y H Q ->
  subscripted slice false v u=operate [v,u] (getItem v u)->wpAny (model X.prog X.w) X.A (subscriptTail value slice v u) (EP X a b Q) X.xe s
def yD (X:Cx) (id:String) (r:V->Aa V->Hp->VK->Prop):Prop :=
 ∀ (a:Aa (Ad×Obj)) (s:Ae) (d:St) (H:Hp) (x:V) (c:Aa V) (v:Ac) (b:Aa Ac) (Q:VK),Inv X a d H s->nF x v->nE c b->r x c H Q ->
  wpAny (model X.prog X.w) X.A (call (.builtin id) (v::b)) (EP X a d Q) X.xe s
section
variable {X:Cx}
theorem uS.or (h:uS X r) (g:uS X j):uS X (λx y H Q=>r x y H Q\/j x y H Q):=by
 intro value slice a s e H x y v u Q I c d q b;rcases q with q | q
 .exact h value slice a s e H x y v u Q I c d q b
 .exact g value slice a s e H x y v u Q I c d q b
theorem qC {r:R2}(l:uS X r) (g:PE X a p) (j:PE X b C) (o:Im b):PE X (.Subscript a b pos) (Bz r p C):=by
 intro c s m H Q I h;exact Subscript_ (Li g j I h λv u k x y d e f i q=>l a b c k m d x y v u Q e f i q (o _ _))
def Ei (K:mZ):R2:=λx y H Q=>∃ p a i v,x = .ref p/\y = .int i/\eH K H p a/\pA a i=some v/\Q v H
def Rt (K:mZ):R2:=λx y H Q=>∃ p a i v,x = .ref p/\y = .int i/\nQ K H p a/\pA a i=some v/\Q v H
def Op:R2:=λx y H Q=>∃ z i c,x = .str z/\y = .int i/\z.length<=sizeLine/\pA z.cps.toList i=some c/\Q (.str ⟨#[c]⟩) H
theorem rC:uS X (Ei X.K):=by
 intro value slice a s A H x y v u Q I M N h n;obtain⟨p,V,i,z,rfl,rfl,L,F,q⟩:=h;cases M;obtain⟨t,rfl⟩:=N;obtain⟨d,r,e,S⟩:=I.list L;obtain⟨j,b,B,P,D,E⟩:=I0 F;obtain⟨w,k,f⟩:=r.get B;have G:=r.length;have R:=yL;have fin:EP X a A Q w s:=⟨z,H,I,f,q⟩;by_cases m:0<=i
 .have c:i.toNat=j:=by
   rw[seqIndex_of m E] at b;exact bR b
  exact item_listR e.isList m (by omega) (by rw[c];simpa using k) fin n
 .have c:(i+(d.toArray.size:Int)).toNat=j:=by
   rw[seqIndex_neg (by omega) D] at b;rw[aV,<- G];exact bR b
  exact subscriptTail_builtinR (x:=w) e.isList.typeIs slot_list_getitem.lookup
   (wpAny_getItem_list_neg (Q:=λr O=>r=w/\EP X a A Q r O) e.isList (by omega) (by rw[aV]<;>omega) (by omega) (by rw[c];simpa using k) ⟨rfl,fin⟩) n
theorem FP:uS X (Rt X.K):=by
 intro value slice a s d H x y v u Q I E F h B;obtain⟨p,R,i,z,rfl,rfl,A,m,q⟩:=h;cases E;obtain⟨t,rfl⟩:=F;obtain⟨D,r,c,P⟩:=I.tuple A;obtain⟨j,f,k,L,M,N⟩:=I0 m;obtain⟨w,e,b⟩:=r.get k;have n:=r.length;have O:=yL;have fin:EP X a d Q w s:=⟨z,H,I,b,q⟩;exact subscriptTail_builtinR (x:=w) c.typeIs slot_tuple_getitem.lookup
  (getItem_tuple (j:=j) (Q:=λr G=>r=w/\EP X a d Q r G) c (by omega) (by omega) (by rw[aV,<- n];exact f) (by simpa using e) ⟨rfl,fin⟩) B
theorem Hm:uS X Op:=by
 intro value slice b s L H x y v u Q I B D h A;obtain⟨z,i,c,rfl,rfl,G,n,q⟩:=h;obtain⟨t,rfl⟩:=B;obtain⟨K,rfl⟩:=D;obtain⟨j,a,f,E,k,m⟩:=I0 n;have w:z.cps.toList.length=z.length:=by simp[Str.length]
 rw[w] at a k m;have F:=yL;exact tail_any (typeIs_str s z t) slot_str_getitem.lookup (getItem_str (c:=c) (by
  have d:decide (i < -(2 ^ 63:Int))=false:=cG (by omega);have e:decide (i>=2 ^ 63)=false:=cG (by omega);rw[d,e,Bool.or_false]) (by rw[a];simpa using f) ⟨.str ⟨#[c]⟩,H,I.tok _,⟨_,rfl⟩,q⟩) A
def Q6 (K:mZ):R2:=λx y H Q=>Ei K x y H Q\/Rt K x y H Q\/Op x y H Q
theorem Y4:uS X (Q6 X.K):=rC.or (FP.or Hm)
theorem Y5 (g:Aa Ac) (n j:Nat) (u:Ac):Obj.mapSeq (·.setIfInBounds j u) { cls:=.type "list",data:=.seq g.toArray n }={ cls:=.type "list",data:=.seq (g.set j u).toArray n }:=by
 simp[Obj.mapSeq]
theorem Inv.lst {j:Aa (Ad×Obj)}{C:St}{H:Hp}{s:Ae}{p:Ad}{o:Aa V}(I:Inv X j C H s) (h:H p=some (.l o)) :
  ∃ (g:Aa Ac) (n:Nat),nE o g/\s.heap.get? p=some { cls:=.type "list",data:=.seq g.toArray n }/\o.length<=sizeLine:=by
 obtain⟨z,g,n,r,e⟩:=I.hok p _ h;exact⟨g,n,r,e,z⟩
theorem Inv.lstUpd {j:Aa Ac}(I:Inv X o σ H s) (h:H p=some (.l xs))
  (U:s.heap.get? p=some { cls:=.type "list",data:=.seq j.toArray n }) (C:f { cls:=.type "list",data:=.seq j.toArray n }={ cls:=.type "list",data:=.seq g.toArray J }) (r:nE T g) (hz:T.length<=sizeLine) (t:Nat) :
  Inv X o σ (upd H p (.l T)) { s with heap:=s.heap.update p f,toks:=t }:=by
 have e:(s.heap.update p f).get? p=some { cls:=.type "list",data:=.seq g.toArray J }:=by
  rw[hX f U (by rw[C]<;>rfl),C]
 refine I.write (x:=p) (e:=p) (by rw[h];trivial) (.inl rfl) (λb u a q=>(Heap.get?_update_other _ _ (eV a)).trans q) ⟨_,e⟩ ?_;exact⟨hz,g,J,r,e⟩
def U1:V->V->V->Hp->(Hp->Prop)->Prop:=λo i v H Q=>∃ p a k j,o = .ref p/\i = .int k/\H p=some (.l a)/\rZ a.length k=some j/\Q (upd H p (.l (a.set j v)))
theorem Gz:Jf X U1:=by
 intro b s G H o i v N M u Q I D B E h;obtain⟨p,F,k,j,rfl,rfl,y,z,q⟩:=h;cases D;obtain⟨t,rfl⟩:=B;obtain⟨a,n,r,e,A⟩:=I.lst y;obtain⟨c,K,w,x⟩:=Qh z;have d:=r.length;have L:=yL;have f:Inv X b G (upd H p (.l (F.set j v))) { s with heap:=s.heap.update p (Obj.mapSeq (·.setIfInBounds j u)) } :=
  I.lstUpd y e (Y5 a n j u) (r.set E j) (by rw[aY];exact A) s.toks
 by_cases m:0<=k
 .have hk:k.toNat=j:=by
   rw[seqIndex_of m x] at c;exact bR c
  exact PySem.W.ki_setAt e m (by omega) (by rw[aV,<- d];exact x) (by rw[hk];exact⟨_,f,q⟩)
 .have hk:(k+(a.toArray.size:Int)).toNat=j:=by
   rw[seqIndex_neg (by omega) w] at c;rw[aV,<- d];exact bR c
  exact PySem.W.ki_setBack e (by omega) (by rw[aV,<- d];exact w) (by omega) (by rw[hk];exact⟨_,f,q⟩)
theorem CV (lo g:Ab Int) (n:Nat):(sliceBounds lo g none n).1=((HT.sIx n 0 lo:Nat):Int)/\(sliceBounds lo g none n).2.1=((HT.sIx n n g:Nat):Int)/\(sliceBounds lo g none n).2.2=1:=by
 refine⟨?_,?_,rfl⟩
 .cases lo with
  | none=>simp[sliceBounds,HT.sIx]
  | some i =>
   simp only[sliceBounds,HT.sIx,Option.getD_none,show (1:Int)>0 by decide,gW];by_cases h:i<0
   .simp only[h,gW]<;>omega
   .simp only[h,fJ]<;>omega
 .cases g with
  | none=>simp[sliceBounds,HT.sIx]
  | some i =>
   simp only[sliceBounds,HT.sIx,Option.getD_none,show (1:Int)>0 by decide,gW];by_cases h:i<0
   .simp only[h,gW]<;>omega
   .simp only[h,fJ]<;>omega
theorem KP (g:Aa Ac) (lo j:Ab Int):slicePick g.toArray lo j none=((g.drop (HT.sIx g.length 0 lo)).take (HT.sIx g.length g.length j-HT.sIx g.length 0 lo)).toArray:=by
 obtain⟨a,b,c⟩:=CV lo j g.toArray.size;unfold slicePick;rw[a,b,c];simp only[sliceRange_one,pick_run,aV]<;>rfl
def Nh (K:mZ):V->Ab Int->Ab Int->Hp->VK->Prop:=λx lo c H Q=>∃ a b,x = .ref a/\eH K H a b/\∀ p,H p=none->Q (.ref p) (upd H p (.l (sU b lo c)))
theorem Aw:uR X (Nh X.K):=by
 intro i s D H x v A B lo e sl Q I y k u w h;obtain⟨a,c,rfl,m,q⟩:=h;cases y;obtain⟨t,r,f,n⟩:=I.list m;have d:=r.length;refine⟨"list",_,slot_list_getitem.lookup,f.isList.typeIs,?_⟩;refine wpAny_getItem_list_slice f.isList k u w .none (by simp) ?_ (by rw[aV]<;>omega);rw[KP,<- d];refine⟨.ref s.heap.objs.size,_,I.laid (t':=s.toks) (o:=.l (sU c lo e)) (λb z q=>aL _ q) (aR _) ?_,rfl,q _ (I.hok.fresh (aR _))⟩;exact⟨bD (L8 c lo e) n,_,0,(r.drop (HT.sIx c.length 0 lo)).take (HT.sIx c.length c.length e-HT.sIx c.length 0 lo),bC _ rfl⟩
def qW:V->Bool
 | .e=>true
 | .b _=>true
 | .int _=>true
 | .str _=>true
 | _=>false
noncomputable def pI:V->V->Bool
 | .e,.e=>true
 | .b a,.b b=>a == b
 | .b a,.int b=>(if a then 1 else 0) == b
 | .int a,.b b=>a == (if b then 1 else 0)
 | .int a,.int b=>a == b
 | .str a,.str b=>a == b
 | _,_=>false
theorem Mt (l:nF y u) (g:nF x v) (o:qW y=true) (j:qW x=true):SeqAt.EqAt A s u v (pI y x):=by
 cases y with
 | e =>
  cases l;cases x with
  | e=>cases g;exact SeqAt.EqAt.same _
  | b b=>cases g;exact SeqAt.EqAt.none_bool b
  | int b=>obtain⟨t,rfl⟩:=g;exact SeqAt.EqAt.none_int b t
  | str b=>obtain⟨t,rfl⟩:=g;exact SeqAt.EqAt.none_str b t
  | _=>exact absurd (show false=true from j) bE
 | b a =>
  cases l;cases x with
  | e=>cases g;exact SeqAt.EqAt.bool_none a
  | b b=>cases g;exact SeqAt.EqAt.bool_bool a b
  | int b=>obtain⟨t,rfl⟩:=g;exact SeqAt.EqAt.bool_int a b t
  | str b=>obtain⟨t,rfl⟩:=g;exact SeqAt.EqAt.bool_str a b t
  | _=>exact absurd (show false=true from j) bE
 | int a =>
  obtain⟨c,rfl⟩:=l;cases x with
  | e=>cases g;exact SeqAt.EqAt.int_none a c
  | b b=>cases g;exact SeqAt.EqAt.int_bool a c b
  | int b=>obtain⟨t,rfl⟩:=g;exact SeqAt.EqAt.int_int a c b t
  | str b=>obtain⟨t,rfl⟩:=g;exact SeqAt.EqAt.int_str a c b t
  | _=>exact absurd (show false=true from j) bE
 | str a =>
  obtain⟨c,rfl⟩:=l;cases x with
  | e=>cases g;exact SeqAt.EqAt.str_none a c
  | b b=>cases g;exact SeqAt.EqAt.str_bool a c b
  | int b=>obtain⟨t,rfl⟩:=g;exact SeqAt.EqAt.str_int a c b t
  | str b=>obtain⟨t,rfl⟩:=g;exact SeqAt.EqAt.str_str a c b t
  | _=>exact absurd (show false=true from j) bE
 | _=>exact absurd (show false=true from o) bE
def qX (x:V) (u:Ac):Bool:=match u with
 | .none=>pI .e x
 | .bool b=>pI (.b b) x
 | .int i _=>pI (.int i) x
 | .str z _=>pI (.str z) x
 | _=>false
theorem Is (r:nF y u) (f:qW y=true):qX x u=pI y x:=by
 cases y with
 | e=>cases r;rfl
 | b b=>cases r;rfl
 | int i=>obtain⟨t,rfl⟩:=r;rfl
 | str z=>obtain⟨t,rfl⟩:=r;rfl
 | _=>exact absurd (show false=true from f) bE
theorem Cv:∀ {g:Aa V}{j:Aa Ac},nE g j->g.all qW=true->j.any (qX x)=g.any λy=>pI y x
 | _,_,.nil,_=>rfl
 | y::g,u::j,.cons r t,f=>by
  rw[List.all_cons,cA] at f;rw[eZ,eZ,Is r f.1,Cv t f.2]
theorem Ay (o:nF x v) (l:qW x=true):∀ {j:Aa V}{g:Aa Ac},nE j g->j.all qW=true->∀ u∈g,SeqAt.EqAt A s u v (qX x u)
 | _,_,.nil,_=>λu a=>by cases a
 | y::j,u::g,.cons r t,f=>λb a=>by
  rw[List.all_cons,cA] at f;rcases aH.mp a with rfl | a
  .rw[Is r f.1];exact Mt r o f.1 l
  .exact Ay o l t f.2 b a
def xS (x:V) (g:Aa V):Bool:=g.any λy=>pI y x
def F6 (K:mZ) (neg:Bool):R2:=λx y H Q=>∃ p a,y = .ref p/\(eH K H p a\/nQ K H p a)/\qW x=true/\a.all qW=true/\Q (.b (if neg then !xS x a else xS x a)) H
theorem Nu:nR X (compareOp .In) (F6 X.K false):=by
 intro f s t H x y v u Q I i m h;obtain⟨p,n,rfl,c,e,fs,q⟩:=h;cases m;rcases c with c | c
 .obtain⟨a,r,d,k⟩:=I.list c;refine SeqAt.in_listAt (qX x) d.isList (λw hw=>Ay i e r fs w (by simpa using hw)) ⟨.b _,H,I,rfl,?_⟩;rw[show a.toArray.any (qX x)=a.any (qX x) by simp,Cv r fs];exact q
 .obtain⟨a,r,d,k⟩:=I.tuple c;refine SeqAt.in_tupleAt (qX x) d (λw hw=>Ay i e r fs w (by simpa using hw)) ⟨.b _,H,I,rfl,?_⟩;rw[show a.toArray.any (qX x)=a.any (qX x) by simp,Cv r fs];exact q
theorem Vu:nR X (compareOp .NotIn) (F6 X.K true):=by
 intro f s t H x y v u Q I i m h;obtain⟨p,n,rfl,c,e,fs,q⟩:=h;cases m;rcases c with c | c
 .obtain⟨a,r,d,k⟩:=I.list c;refine SeqAt.notIn_listAt (qX x) d.isList (λw hw=>Ay i e r fs w (by simpa using hw)) ⟨.b _,H,I,rfl,?_⟩;rw[show a.toArray.any (qX x)=a.any (qX x) by simp,Cv r fs];exact q
 .obtain⟨a,r,d,k⟩:=I.tuple c;refine SeqAt.notIn_tupleAt (qX x) d (λw hw=>Ay i e r fs w (by simpa using hw)) ⟨.b _,H,I,rfl,?_⟩;rw[show a.toArray.any (qX x)=a.any (qX x) by simp,Cv r fs];exact q
theorem vY:oH X (.builtin "len") (λj H Q=>∃ p g,j=[.ref p]/\(eH X.K H p g\/nQ X.K H p g)/\Q (.int g.length) H):=by
 intro f s t H j n Q I r h;obtain⟨p,g,rfl,b,q⟩:=h;obtain⟨u,rfl,k⟩:=qJ r;cases k;have m:=yL;rcases b with b | b
 .obtain⟨c,e,d,i⟩:=I.list b;have a:=e.length;exact Calls.call_len_list d.isList (by simp only[aV]<;>omega) ⟨.int g.length,H,I.tok _,⟨s.toks+1,by rw[aV,a]⟩,q⟩
 .obtain⟨c,e,d,i⟩:=I.tuple b;have a:=e.length;exact len_tuple d (by simp only[aV]<;>omega) ⟨.int g.length,H,I.tok _,⟨s.toks+1,by rw[aV,a]⟩,q⟩
theorem N2:oH X (.builtin "len") (λg H Q=>∃ z,g=[.str z]/\z.length<=sizeLine/\Q (.int z.length) H):=by
 intro a s e H g d Q I r h;obtain⟨z,rfl,c,q⟩:=h;obtain⟨u,rfl,t,rfl⟩:=qJ r;have b:=yL;exact len_str (by omega) ⟨.int z.length,H,I.tok _,⟨_,rfl⟩,q⟩
theorem oH.or (h:oH X f r) (j:oH X f l):oH X f (λg H Q=>r g H Q\/l g H Q):=by
 intro a s d H g c Q I b q;rcases q with q | q
 .exact h a s d H g c Q I b q
 .exact j a s d H g c Q I b q
theorem Et:oH X (.type "list") (λj H Q=>∃ p g,j=[.ref p]/\(eH X.K H p g\/nQ X.K H p g)/\∀ l,H l=none->Q (.ref l) (upd H l (.l g))):=by
 intro v s D H j E Q I r h;obtain⟨p,g,rfl,k,q⟩:=h;obtain⟨u,rfl,B⟩:=qJ r;cases B;have fin:∀ (a:Aa Ac),nE g a->g.length<=sizeLine->∀ (c:Ag) (d:Nat),(∀ b A,s.heap.get? b=some A->c.get? b=some A) ->
   c.get? s.heap.objs.size=some { cls:=.type "list",dict:=none,data:=.seq a.toArray d,slots:=#[] }->EP X v D Q (.ref s.heap.objs.size) { s with heap:=c }:=λa f m c d t e =>
  ⟨.ref s.heap.objs.size,_,I.laid (t':=s.toks) t (aR _) (show oG X.prog X.w _ c _ (.l g) from ⟨m,a,d,f,e⟩),rfl,q _ (I.hok.fresh (aR _))⟩
 rcases k with k | k
 .obtain⟨a,f,z,m⟩:=I.list k;have i:=f.length;obtain⟨o,y,x,n,hd⟩:=z.isList;exact call_list_seq p (.inl rfl) y x hd (λc d t e=>fin a f m c d t e) (by simp only[aV]<;>omega)
 .obtain⟨a,f,z,m⟩:=I.tuple k;have i:=f.length;obtain⟨o,y,x,n,hd⟩:=z;exact call_list_seq p (.inr rfl) y x hd (λc d t e=>fin a f m c d t e) (by simp only[aV]<;>omega)
theorem Dj:oH X (.type "tuple") (λj H Q=>∃ p g,j=[.ref p]/\((eH X.K H p g/\∀ l,H l=none->Q (.ref l) (upd H l (.t g)))\/(nQ X.K H p g/\Q (.ref p) H))):=by
 intro a s x H j B Q I r h;obtain⟨p,g,rfl,h⟩:=h;obtain⟨u,rfl,A⟩:=qJ r;cases A;rcases h with⟨f,q⟩ | ⟨f,q⟩
 .obtain⟨c,k,i,v⟩:=I.list f;have n:=k.length;refine call_tuple_list i.isList (λd z=>?_) (by simp only[aV]<;>omega);have m:Inv X a x H { s with heap:=d }:=I.kept (t':=s.toks) z;have y:Inv X a x (upd H d.objs.size (.t g)) { s with heap:=d.push { cls:=.type "tuple",data:=.seq c.toArray } } :=
   m.laid (t':=s.toks) (λb o e=>aL _ e) (aR _) (show oG X.prog X.w _ _ _ (.t g) from ⟨v,c,k,vX.new _ _⟩)
  exact⟨.ref d.objs.size,_,y,rfl,q _ (m.hok.fresh (aR _))⟩
 .obtain⟨c,k,i,v⟩:=I.tuple f;exact call_tuple_same i ⟨.ref p,H,I,rfl,q⟩
def Hd (K:mZ) (T:String) (x:V) (H:Hp):Prop:=match x with
 | .str _=>T = "str"
 | .int _=>T = "int"
 | .ref p=>(T = "list" /\ ∃ b,eH K H p b)\/(T = "tuple" /\ ∃ o,K.lookup p=some o/\o.cls = .type "tuple" /\ o.dict=none) \/
   (T = "dict" /\ ((∃ a,Rd H p (.k a))\/(∃ a,H p=some (.T a))\/∃ a,H p=some (.dM a)))\/(T = "set" /\ ∃ S n,H p=some (.set S n))
 | _=>False
theorem Vn (I:Inv X j l H s) (r:nF x v) (ty:Hd X.K T x H) :
  s.TypeIs v T/\∀ a,v = .ref a->∃ g,s.heap.get? a=some g/\g.dict=none:=by
 cases x with
 | str z =>
  obtain⟨t,rfl⟩:=r;cases (show T = "str" from ty);exact⟨typeIs_str s z t,λ_ e=>nomatch e⟩
 | int i =>
  obtain⟨t,rfl⟩:=r;cases (show T = "int" from ty);exact⟨typeIs_int s i t,λ_ e=>nomatch e⟩
 | ref p =>
  cases r;rcases ty with⟨rfl,y,q⟩ | ⟨rfl,o,hk,m,hd⟩ | ⟨rfl,hk⟩ | ⟨rfl,S,n,hk⟩
  .obtain⟨u,_,h,_⟩:=I.list q;refine⟨h.isList.typeIs,λa e=>?_⟩;cases e;obtain⟨o,n,e,c,hd,_⟩:=h;exact⟨o,e,hd⟩
  .refine⟨⟨o,I.kIn p o hk,m⟩,λa e=>?_⟩;cases e;exact⟨o,I.kIn _ o hk,hd⟩
  .have z:∃ o,s.heap.get? p=some o/\o.ExactDict:=by
    rcases hk with⟨d,hk⟩ | ⟨d,hk⟩ | ⟨d,hk⟩
    .obtain⟨_,_,_,_,o,_,_,e,b,_⟩:=(show oG X.prog X.w H s.heap p (.k d) from Rd.ok hk I.hok);exact⟨o,e,b⟩
    .obtain⟨_,_,_,_,o,_,_,e,b,_⟩:=I.hok p _ hk;exact⟨o,e,b⟩
    .obtain⟨_,_,_,_,o,_,_,e,b,_⟩:=I.hok p _ hk;exact⟨o,e,b⟩
   obtain⟨o,e,b⟩:=z;refine⟨⟨o,e,b.1⟩,λa f=>?_⟩;cases f;exact⟨o,e,b.2.1⟩
  .obtain⟨o,_,_,_,e,b,_⟩:=I.hok p _ hk;refine⟨⟨o,e,b.1⟩,λa f=>?_⟩;cases f;exact⟨o,e,b.2.1⟩
 | _=>exact False.elim ty
def I3 (K:mZ) (T:String) (r:V->Aa V->Hp->VK->Prop) (g:TE) (t:TA):TE:=λb H Q=>g b H λx a=>Hd K T x a/\t b a λd c=>r x d c Q
variable {id:String}
structure MtB (X:Cx) (o:Expr) (name:Str) (apos:Pos) (e:Expr) (es:List Expr) (cpos:Pos):Prop extends StB X e es cpos where
 c:attributeBase o name X.env (eval o X.env)=eval o X.env:=by rfl
 d:((backTo cpos (starEach (e::es) X.env)).all (λx=>!x.1)&&(backToKw cpos (keywordEach [] X.env)).all (λx=>x.1.isSome)&&decide ((e::es).length+([]:List Keyword).length+(if ([]:List Keyword).isEmpty then 0 else 1)<30))=true:=by rfl
 f:(apos.endLine == cpos.line)=true:=by rfl
theorem vI (pa:PlainAttrs T) (slot:Slot T name id) (p:typeOf (.builtin id)=pure (.type "method_descriptor")) (J:yD X id r) (U:PE X o to) (C:PA X (e::l) t)
  (j:MtB X o name apos e l g:=by exact {}) :
  PE X (.Call (.Attribute o name apos) (e::l) [] g) (I3 X.K T r to t):=by
 intro i s m H Q I h;refine wpAny_Call_method_late j.c j.d j.f rfl (nD (U i s m H _ I h) λv G k=>?_);obtain⟨x,w,n,u,ty,D⟩:=k;obtain⟨A,B⟩:=Vn n u ty;refine⟨T,id,pa,slot,p,A,B,?_⟩;have q:=C g i G m w _ n D;rw[j.a] at q |-;refine Calls.callWith_builtin (by show (false||(backTo g (starEach l X.env)).any (·.1))=false;rw[j.b]<;>rfl) (Calls.evalArgs_plain ?_);exact nD q λM L ⟨N,y,z,F,E⟩=>J i L m y x N v M Q z u F E
/- xs.append(e),list.index on a module's tuple .. are yD facts of 06m -/
end
def K5 (X:Cx) (id:String) (r:V->Aa V->Hp->VK->Prop):Prop :=
 ∀ (a:Aa (Ad×Obj)) (s:Ae) (d:St) (H:Hp) (x:V) (c:Aa V) (v:Ac) (b:Aa Ac) (Q:VK),Inv X a d H s->nF x v->nE c b->r x c H Q ->
  wpAny (model X.prog X.w) X.A (call (.builtin id) (v::b)) (EP X a d Q) X.xe s
theorem nE.one:∀ {x:V}{g:Aa Ac},nE [x] g->∃ u,g=[u]/\nF x u
 | _,_,.cons r .nil=>⟨_,rfl,r⟩
theorem nE.eraseIdx:∀ {j:Aa V}{g:Aa Ac}(i:Nat),nE j g->nE (j.eraseIdx i) (g.eraseIdx i)
 | _,_,_,.nil=>.nil
 | _,_,0,.cons _ t=>t
 | _,_,i+1,.cons r t=>.cons r (nE.eraseIdx i t)
theorem nE.rep (h:nE j g):∀ k:Nat,nE (List.replicate k j).flatten (List.replicate k g).flatten
 | 0=>.nil
 | k+1=>by
  rw[cR,cR,gJ,gJ];exact nE.append h (nE.rep h k)
theorem Mr:∀ (l:Aa g) (i:Nat),(l.eraseIdx i).length<=l.length
 | [],_=>aR _
 | _::_,0=>jB _
 | _::r,i+1=>Nat.succ_le_succ (Mr r i)
theorem N4 (j:Aa Ac):∀ (k:Nat) (g:Aa Ac),
  List.foldl (λl o=>l++o) g.toArray (List.replicate k j.toArray)=(g++(List.replicate k j).flatten).toArray
 | 0,g=>by simp
 | k+1,g=>by
  have e:g.toArray++j.toArray=(g++j).toArray:=by simp
  have a:(g++j)++(List.replicate k j).flatten=g++(List.replicate (k+1) j).flatten:=by
   rw[cR,gJ,bI]
  rw[<- a,<- N4 j k (g++j),<- e,cR,lQ]
section
variable {X:Cx}
theorem Inv.lset {g:Aa Ac}(I:Inv X j T H s) (p:H l=some (.l xs))
  (e:s.heap.get? l=some { cls:=.type "list",data:=.seq g.toArray n }) (r:f g.toArray=its'.toArray) (C:nE o its') (J:o.length<=sizeLine) :
  Inv X j T (upd H l (.l o)) { s with heap:=s.heap.update l (Obj.mapSeq f),toks:=U }:=by
 have q:=PySem.IsL.update e f;rw[r] at q;refine I.write (x:=l) (e:=l) (by rw[p];exact trivial) (.inl rfl) (λc u a b=>(Heap.get?_update_other s.heap (Obj.mapSeq f) (eV a)).trans b) ⟨_,q⟩ ?_;exact⟨J,its',_,C,q⟩
theorem Inv.lnew (I:Inv X g p H s) (j:nE ys its) (o:ys.length<=sizeLine) :
  Inv X g p (upd H s.heap.objs.size (.l ys)) { s with heap:=s.heap.push { cls:=.type "list",data:=.seq its.toArray },toks:=t' } :=
 I.laid (λ_ _ q=>aL _ q) (aR _) ⟨o,its,0,j,bC _ rfl⟩
theorem Inv.fresh (I:Inv X g j H s):H s.heap.objs.size=none:=I.hok.fresh (aR _)
theorem Inv.lstM (I:Inv X o C H s) (p:H l=some (.l j)):j.length<=sizeLine/\∃ (g:Aa Ac) (n:Nat),nE j g/\j.length=g.length/\s.heap.get? l=some { cls:=.type "list",data:=.seq g.toArray n }:=by
 obtain⟨z,g,n,r,e⟩:=I.hok l _ p;exact⟨z,g,n,r,r.length,e⟩
theorem Mp (h:n<=sizeLine):Builtin.List.listTooLong n=false:=by
 unfold Builtin.List.listTooLong;exact cG (by omega)
end
section
variable {X:Cx}
def Iw:V->Aa V->Hp->VK->Prop:=λx b H Q=>∃ l a y,x = .ref l/\b=[y]/\H l=some (.l a)/\a.length<sizeLine/\Q .e (upd H l (.l (a++[y])))
theorem wK:K5 X "list.append" Iw:=by
 intro c s B H x w v t Q I i f h;obtain⟨l,A,y,rfl,rfl,b,m,q⟩:=h;cases i;obtain⟨u,rfl,d⟩:=f.one;obtain⟨z,a,n,r,k,e⟩:=I.lstM b;refine kM F.slot_list_append ⟨_,e,rfl⟩ F.entry_list_append (F.args_list_append_2 _ _) (PySem.list_append l a.toArray n u (by rw[aV];omega)) ⟨e,?_⟩;refine⟨.e,_,I.lset (its':=a++[u]) b e (by simp) (r.append (.cons d .nil)) ?_,rfl,q⟩;rw[aZ,List.length_singleton];omega
def Mw:V->Aa V->Hp->VK->Prop:=λx d H Q=>∃ l b a c,x = .ref l/\d=[.ref b]/\H l=some (.l a)/\H b=some (.l c)/\a.length+c.length<=sizeLine/\Q .e (upd H l (.l (a++c)))
theorem MJ:K5 X "list.extend" Mw:=by
 intro k s P H x L v K Q I D B h;obtain⟨l,b,M,O,rfl,rfl,i,hB,G,q⟩:=h;cases D;obtain⟨u,rfl,A⟩:=B.one;cases A;obtain⟨z,c,n,r,E,e⟩:=I.lstM i;obtain⟨N,a,w,y,t,m⟩:=I.lstM hB;have f:c.toArray.size+a.toArray.size<=sizeLine:=by rw[aV,aV];omega
 have d:¬ (!c.toArray.isEmpty&&Builtin.List.listTooLong (c.toArray.size+a.toArray.size))=true:=by
  rw[Mp f,Bool.and_false];exact bE
 refine kM F.slot_list_extend ⟨_,e,rfl⟩ F.entry_list_extend (F.args_list_extend_2 _ _)
  (AutoSeq1.list_extend_list_list_0 l c.toArray n b a.toArray w d (by rw[aV];omega) (by omega)) ⟨e,m,?_⟩
 refine⟨.e,_,I.lset (its':=c++a) i e (by simp) (r.append y) ?_,rfl,q⟩;rw[aZ];omega
def EU:V->Aa V->Hp->VK->Prop:=λx b H Q=>∃ l a i k y,x = .ref l/\b=[.int i]/\H l=some (.l a)/\-(2 ^ 63)<=i/\i<2 ^ 63/\seqIndex? i a.length=some k/\a[k]?=some y/\Q y (upd H l (.l (a.eraseIdx k)))
theorem Qx:K5 X "list.pop" EU:=by
 intro d s N H x M v L Q I G E h;obtain⟨l,K,i,k,y,rfl,rfl,c,f,m,hk,B,q⟩:=h;cases G;obtain⟨u,rfl,D⟩:=E.one;obtain⟨t,rfl⟩:=D;obtain⟨z,a,n,r,A,e⟩:=I.lstM c;obtain⟨w,hw,b⟩:=r.get B;refine kM F.slot_list_pop ⟨_,e,rfl⟩ F.entry_list_pop (F.args_list_pop_2 _ _)
  (MeetsSeq.list_pop_at l a.toArray n i t k w (fitsIndex_both f m) (by rw[aV,<- A];exact hk) (by rw[<- dH];exact hw) (by rw[aV];omega)) ⟨e,?_⟩
 refine⟨y,_,I.lset (its':=a.eraseIdx k) c e ?_ (r.eraseIdx k) ?_,b,q⟩
 .show a.toArray.eraseIdxIfInBounds k=(a.eraseIdx k).toArray;rw[List.eraseIdxIfInBounds_toArray]
 .have:=Mr K k;omega
def Tg:R2:=λx y H Q=>∃ l b a c,x = .ref l/\y = .ref b/\H l=some (.l a)/\H b=some (.l c)/\a.length+c.length<=sizeLine/\∀ p,H p=none->Q (.ref p) (upd H p (.l (a++c)))
theorem A3:nR X (binaryOp .Add) Tg:=by
 intro d s L H x y v u Q I w A h;obtain⟨l,b,F,K,rfl,rfl,k,hB,D,q⟩:=h;cases w;cases A;obtain⟨z,c,n,r,B,e⟩:=I.lstM k;obtain⟨G,a,E,t,m,f⟩:=I.lstM hB;refine PySem.P.add_list e f ?_ (by rw[aV,aV];omega);have i:c.toArray++a.toArray=(c++a).toArray:=by simp
 rw[i];exact⟨.ref _,_,I.lnew (t':=s.toks) (r.append t) (by rw[aZ];omega),rfl,q _ I.fresh⟩
def Ow:R2:=λx y H Q=>∃ l k a,x = .ref l/\y = .int k/\H l=some (.l a)/\-(2 ^ 63)<=k/\k<2 ^ 63/\a.length*k.toNat<=sizeLine /\
 ∀ p,H p=none->Q (.ref p) (upd H p (.l (List.replicate k.toNat a).flatten))
theorem KZ (g:Aa j) (k:Nat):(List.replicate k g).flatten.length=k*g.length:=by
 induction k with
 | zero=>simp
 | succ k a=>rw[cR,gJ,aZ,a,Nat.succ_mul,Nat.add_comm]
theorem LG:nR X (binaryOp .Mult) Ow:=by
 intro E s W H x y v u Q I O P h;obtain⟨l,k,V,rfl,rfl,M,K,L,D,q⟩:=h;cases O;obtain⟨t,rfl⟩:=P;obtain⟨z,b,n,r,N,e⟩:=I.lstM M;have i:b.toArray.size*k.toNat<=sizeLine:=by rw[aV,<- N];exact D
 have d:¬ b.toArray.size*k.toNat>(2 ^ 63-1)/8:=by
  have:(sizeLine:Nat)<=(2 ^ 63-1)/8:=by decide
  omega
 have f:¬ (!Builtin.List.listFitsIndex k)=true:=by
  rw[fitsIndex_both K L];exact bE
 have c:¬ Builtin.List.listTooLong (b.toArray.size*k.toNat)=true:=by
  rw[Mp i];exact bE
 have w:List.foldl (λA B=>A++B) #[] (List.replicate (if b.toArray.isEmpty=true then 0 else k.toNat) b.toArray)=(List.replicate k.toNat b).flatten.toArray:=by
  have G:∀ m:Nat,List.foldl (λA B=>A++B) #[] (List.replicate m b.toArray)=(List.replicate m b).flatten.toArray:=λm=>by
   have:=N4 b m [];rw[kH] at this;exact this
  rw[G];cases b with
  | nil=>simp
  | cons a S=>rw[aI (by simp)]
 refine wpAny_binaryOp_repeat_ref (T := "list") (U := "int") (by decide) ⟨_,e,rfl⟩ (λR=>typeIs_int R k t) noFill_list_mul F.fills_int_mul F.slot_int_rmul repeat_list F.slot_int_index.lookup
  (kM F.slot_int_rmul (typeIs_int s k t) F.entry_int_rmul (F.args_int_rmul_2 _ _) (int___rmul___int_list k t l b.toArray n) ⟨e,rfl,⟨_,e,rfl⟩,kM F.slot_list_mul ⟨_,e,rfl⟩ F.entry_list_mul (F.args_list_mul_2 _ _) (AutoListH.list___mul___list_int_3 l b.toArray n k t f d c) ⟨e,?_⟩⟩)
 rw[w];exact⟨.ref _,_,I.lnew (t':=s.toks) (r.rep k.toNat) (by rw[KZ,iH];exact D),rfl,q _ I.fresh⟩
end
section
variable [DecidableEq κ]
noncomputable def qK (g:Aa (κ×V)) (k:κ):Ab V:=(g.find? λa=>decide (a.1=k)).map (·.2)
noncomputable def oK (g:Aa (κ×V)) (k:κ) (v:V):Aa (κ×V) :=
 if (g.any λa=>decide (a.1=k))=true then g.map (λa=>if a.1=k then (a.1,v) else a) else g++[(k,v)]
theorem C0 {p:κ×V}{r:Aa (κ×V)}{k:κ}(e:p.1=k):qK (p::r) k=some p.2:=by simp[qK,dZ,e]
theorem C3 {p:κ×V}{r:Aa (κ×V)}{k:κ}(e:¬ p.1=k):qK (p::r) k=qK r k:=by simp[qK,dZ,e]
theorem J0 (k:κ):∀ g:Aa (κ×V),(g.any λj=>decide (j.1=k))=(qK g k).isSome
 | []=>rfl
 | p::r=>by
  rw[eZ];by_cases e:p.1=k
  .simp only[C0 e,cX e,Bool.true_or,lX]
  .rw[C3 e,cG e,Bool.false_or];exact J0 k r
theorem Bm (g:Aa (κ×V)) (k:κ) (v:V):(oK g k v).length<=g.length+1:=by
 unfold oK;split
 .rw[aA];omega
 .rw[aZ,bS,jJ];omega
theorem sV.isSome_eq (r:sV o u):o.isSome=u.isSome:=by
 cases o with
 | none=>cases u with
  | none=>rfl
  | some _=>exact (show False from r).elim
 | some _=>cases u with
  | none=>exact (show False from r).elim
  | some _=>rfl
theorem sV.getD (r:sV o u) (rd:nF d g):nF (o.getD d) (u.getD g):=by
 cases o with
 | none=>cases u with
  | none=>exact rd
  | some _=>exact (show False from r).elim
 | some _=>cases u with
  | none=>exact (show False from r).elim
  | some _=>exact r
theorem KV.val (r:KV g j) (k:κ):sV (qK g k) (valueAt j k):=by
 unfold KV at r;induction r with
 | nil=>exact True.intro
 | @cons p q m c h t i =>
  obtain⟨d,f⟩:=h;by_cases e:p.1=k
  .have a:q.1=k:=d.symm.trans e;have b:valueAt (q::c) k=some q.2:=by simp[valueAt,dZ,a]
   rw[C0 e,b];exact f
  .have a:¬ q.1=k:=λz=>e (d.trans z)
   have b:valueAt (q::c) k=valueAt c k:=by simp[valueAt,dZ,a]
   rw[C3 e,b];exact i
theorem KV.any (r:KV j l) (k:κ):(j.any λg=>decide (g.1=k))=l.any λg=>decide (g.1=k):=by
 unfold KV at r;induction r with
 | nil=>rfl
 | cons h t a=>rw[eZ,eZ,a,h.1]
theorem KV.repl (r:KV j o) (k:κ) (l:nF y u) :
  KV (j.map λg=>if g.1=k then (g.1,y) else g) (o.map λg=>if g.1=k then (g.1,u) else g):=by
 unfold KV at r |-;induction r with
 | nil=>exact .nil
 | @cons p q d f h t c =>
  rw[aO,aO];refine .cons ?_ c;obtain⟨a,b⟩:=h;by_cases e:p.1=k
  .rw[aP e,aP (a.symm.trans e)];exact⟨a,l⟩
  .rw[aI e,aI (λz=>e (a.trans z))];exact⟨a,b⟩
theorem KV.put (r:KV g l) (k:κ) (j:nF y u):KV (oK g k y) (stored l k u):=by
 unfold oK stored;rw[r.any k];by_cases e:(l.any λa=>decide (a.1=k))=true
 .rw[aP e,aP e];exact r.repl k j
 .rw[aI e,aI e];exact Paired.snoc r ⟨rfl,j⟩
theorem KV.length (r:KV g j):g.length=j.length:=eP r
end
theorem yG {P:Ah}(r:nF (kV k) u):(oB P w).is k u=true:=by
 cases k with
 | inl i=>obtain⟨t,e⟩:=(show ∃ t,u=Value.int i t from r);subst e;exact X1 P w i t
 | inr x=>obtain⟨t,e⟩:=(show ∃ t,u=Value.str x t from r);subst e;exact MG P w x t
theorem Ry {P:Ah}:∀ {g:Aa hG}{j:Aa Ac},nE (g.map kV) j->ItemsAre (oB P w) g j
 | [],_,r=>by rw[mQ] at r;cases r;exact .nil
 | k::g,_,r=>by
  rw[aO] at r;cases r with
  | cons h t=>exact .cons (yG h) (Ry t)
abbrev KT (H:Hp):Aa (Aa hG×V)->Aa (Aa hG×Ad×Ac)->Prop:=Paired λp q=>p.1=q.1/\H q.2.1=some (.t (p.1.map kV))/\nF p.2 q.2.2
theorem KT.val (r:KT H g j) (k:Aa hG):sV (qK g k) ((atKey j k).map (·.2)):=by
 induction r with
 | nil=>exact True.intro
 | @cons p q m c h t i =>
  obtain⟨d,_,f⟩:=h;by_cases e:p.1=k
  .have a:q.1=k:=d.symm.trans e;have b:atKey (q::c) k=some q.2:=by simp[atKey,dZ,a]
   rw[C0 e,b];exact f
  .have a:¬ q.1=k:=λz=>e (d.trans z)
   have b:atKey (q::c) k=atKey c k:=by simp[atKey,dZ,a]
   rw[C3 e,b];exact i
theorem KT.repl (r:KT H j o) (k:Aa hG) (l:nF y u) :
  KT H (j.map λg=>if g.1=k then (g.1,y) else g) (o.map (putAt k u)):=by
 induction r with
 | nil=>exact .nil
 | @cons p q f i h t d =>
  rw[aO,aO];refine .cons ?_ d;obtain⟨a,b,c⟩:=h;unfold putAt;by_cases e:p.1=k
  .rw[aP e,aP (a.symm.trans e)];exact⟨a,b,l⟩
  .rw[aI e,aI (λz=>e (a.trans z))];exact⟨a,b,c⟩
theorem KT.put (r:KT H g j) (k:Aa hG) (o:H b=some (.t (k.map kV))) (l:nF y u) :
  KT H (oK g k y) (storedH j k b u):=by
 have e:(g.any λa=>decide (a.1=k))=(atKey j k).isSome:=by
  rw[J0,(r.val k).isSome_eq,lB]
 unfold oK storedH;rw[e];by_cases q:(atKey j k).isSome=true
 .rw[aP q,aP q];exact r.repl k l
 .rw[aI q,aI q];exact Paired.snoc r ⟨rfl,o,l⟩
theorem KT.keeps (r:KT H g p) (o:∀ b j,H b=some (.t j)->l b=some (.t j)):KT l g p :=
 Paired.mapP r λ_ _ z=>⟨z.1,o _ _ z.2.1,z.2.2⟩
section
variable {P:Ah}
theorem Db (ok:oO P w H h) (e:Rd H a u):oG P w H h a u:=e.ok ok
theorem vF (ok:oO P w H h) (e:Rd H a (.k g)):g.length<=sizeLine/\(a == sysModules)=false/\∃ j,KV g j/\h.DictOf (oB P w) a j :=
 show oG P w H h a (.k g) from Db ok e
theorem Lj (ok:oO P w H h) (e:H a=some (.k g)):g.length<=sizeLine/\(a == sysModules)=false/\∃ j,KV g j/\h.DictOf (oB P w) a j:=vF ok (.inl e)
theorem Aj (ok:oO P w H h) (e:H a=some (.t (g.map kV))):(tupleKind (oB P w)).is h g a:=by
 obtain⟨_,b,r,⟨o,c,d,n,f⟩,_⟩:=(show oG P w H h a (.t (g.map kV)) from ok a _ e);exact⟨o,b.toArray,n,c,d,f,by simpa using Ry r⟩
theorem Bc (ok:oO P w H h) (e:Rd H a (.T g)):g.length<=sizeLine/\(a == sysModules)=false /\
  ∃ j,KT H g j/\h.DictOfH (tupleKind (oB P w)) a j:=by
 obtain⟨z,y,j,r,o,f,d,i,k,n,s,u⟩:=(show oG P w H h a (.T g) from Db ok e);refine⟨z,y,j,r,o,f,d,i,k,n,s,λx b=>?_,u⟩;have all:∀ {l:Aa (Aa hG×V)} {m:Aa (Aa hG×Ad×Ac)},KT H l m->∀ x∈m,(tupleKind (oB P w)).is h x.1 x.2.1:=by
  intro l m q;induction q with
  | nil=>intro x b;exact nomatch b
  | @cons p q A B c t v =>
   intro x b;rcases aH.mp b with e | b
   .subst e;exact Aj ok (by rw[<- c.1];exact c.2.1)
   .exact v x b
 exact all r x b
theorem IT (ok:oO P w H h) (e:H a=some (.T g)):g.length<=sizeLine/\(a == sysModules)=false /\
  ∃ j,KT H g j/\h.DictOfH (tupleKind (oB P w)) a j:=Bc ok (.inl e)
end
abbrev KM (H:Hp):Aa (MK×V)->Aa (MK×Ac×Ac)->Prop:=Paired λp q=>p.1=q.1/\tS H p.1 q.2.1/\nF p.2 q.2.2
theorem KM.val (r:KM H g j) (k:MK):sV (qK g k) ((qD j k).map (·.2)):=by
 induction r with
 | nil=>exact True.intro
 | @cons p q m c h t i =>
  obtain⟨d,_,f⟩:=h;by_cases e:p.1=k
  .have a:q.1=k:=d.symm.trans e;have b:qD (q::c) k=some q.2:=by simp[qD,dZ,a]
   rw[C0 e,b];exact f
  .have a:¬ q.1=k:=λz=>e (d.trans z)
   have b:qD (q::c) k=qD c k:=by simp[qD,dZ,a]
   rw[C3 e,b];exact i
theorem KM.repl (r:KM H j o) (k:MK) (l:nF y u) :
  KM H (j.map λg=>if g.1=k then (g.1,y) else g) (o.map (tI k u)):=by
 induction r with
 | nil=>exact .nil
 | @cons p q f i h t d =>
  rw[aO,aO];refine .cons ?_ d;obtain⟨a,b,c⟩:=h;unfold tI;by_cases e:p.1=k
  .rw[aP e,aP (a.symm.trans e)];exact⟨a,b,l⟩
  .rw[aI e,aI (λz=>e (a.trans z))];exact⟨a,b,c⟩
theorem KM.put (r:KM H g j) (k:MK) (o:tS H k key) (l:nF y u):KM H (oK g k y) (sL j k key u):=by
 have e:(g.any λa=>decide (a.1=k))=(qD j k).isSome:=by
  rw[J0,(r.val k).isSome_eq,lB]
 unfold oK sL;rw[e];by_cases q:(qD j k).isSome=true
 .rw[aP q,aP q];exact r.repl k l
 .rw[aI q,aI q];exact Paired.snoc r ⟨rfl,o,l⟩
theorem KM.keeps (r:KM H g p) (o:∀ b j,H b=some (.t j)->l b=some (.t j)):KM l g p :=
 Paired.mapP r λ_ _ z=>⟨z.1,Rr o z.2.1,z.2.2⟩
abbrev yO:Aa (hG×Ac)->Aa (MK×Ac×Ac)->Prop:=Paired λp q=>q.1 = .inl p.1/\q.2.2=p.2/\sO p.1 q.2.1=true
theorem CP {P:Ah}(h:Pairs (oB P w) l j):(∀ e∈l,∃ k,(oB P w).is k e.key=true/\e.hash=(oB P w).hash k)->∃ g,l=g.map (sF P w)/\yO j g:=by
 induction h with
 | nil=>exact λ_=>⟨[],rfl,.nil⟩
 | @cons e d v u hk m t q =>
  intro f;obtain⟨g,i,r⟩:=q λx n=>f x (aJ _ n)
  obtain⟨k,g1,g2⟩:=f e aE;have s:k=d.1:=(oB P w).inj _ _ _ g1 hk;subst s;refine⟨(.inl d.1,e.key,e.val)::g,?_,.cons ⟨rfl,m,hk⟩ r⟩;rw[aO,<- i]
  congr 1
  obtain⟨a,b,c⟩:=e;cases (show a=(oB P w).hash d.1 from g2);rfl
theorem yO.keys (r:yO g j):j.map (·.1)=(g.map (·.1)).map (Sum.inl:hG->MK):=by
 induction r with
 | nil=>rfl
 | cons h t a=>rw[aO,aO,aO,a,h.1]
theorem yO.mem (r:yO j g) (P:Ah) (w:World) (h:Ag):∀ x∈g,nZ P w h x.1 x.2.1:=by
 induction r with
 | nil=>intro x a;exact nomatch a
 | @cons p q d f b t c =>
  intro x a;rcases aH.mp a with e | a
  .subst e;rw[b.1];exact b.2.2
  .exact c x a
theorem Yt {P:Ah}(p:h.DictOf (oB P w) a C):∃ o l j g,EM P w h a o l j g/\yO C g:=by
 obtain⟨o,l,j,i,c,hd,hk,k,f⟩:=p;obtain⟨g,b,r⟩:=CP k λe d=>hk e (Array.mem_toList_iff.mp d)
 refine⟨o,l,j,g,⟨i,c,hd,b,r.mem P w h,?_⟩,r⟩;rw[r.keys];exact List.Pairwise.map _ (λx y z q=>z (kR q)) f
theorem BC (r:KV g j) (q:yO j l):KM H (g.map λp=>((Sum.inl p.1:MK),p.2)) l:=by
 unfold KV at r;induction r generalizing l with
 | nil=>cases q;exact .nil
 | @cons p v e j h t d =>
  cases q with
  | @cons _ y _ f c ty =>
   refine .cons ⟨?_,?_,?_⟩ (d ty)
   .show (Sum.inl p.1:MK)=y.1;rw[c.1,h.1]
   .show nF (kV p.1) y.2.1;rcases sX c.2.2 with⟨i,t,a,b⟩ | ⟨i,t,a,b⟩
    .rw[h.1,a,b];exact⟨t,rfl⟩
    .rw[h.1,a,b];exact⟨t,rfl⟩
   .rw[c.2.1];exact h.2
section
variable {P:Ah}
theorem yK (ok:oO P w H h) (r:tS H k u):nZ P w h k u:=by
 rcases k with k | a
 .exact yG r
 .obtain⟨b,e,q⟩:=r;exact⟨b,e,Aj ok q⟩
theorem Bj (m:tZ H k y) (r:nF y u):tS H k u:=by
 rcases k with k | a
 .cases (show y=kV k from m);exact r
 .obtain⟨b,e,q⟩:=m;subst e;exact⟨b,r,q⟩
theorem Be (ok:oO P w H h) (e:Rd H a (.dM g)):g.length<=sizeLine/\(a == sysModules)=false/\∃ j o I C,KM H g j/\EM P w h a o I C j:=by
 obtain⟨z,y,j,r,o,I,C,d,f,i,k,n⟩:=(show oG P w H h a (.dM g) from Db ok e);refine⟨z,y,j,o,I,C,r,d,f,i,k,λx b=>?_,n⟩;have all:∀ {l:Aa (MK×V)} {m:Aa (MK×Ac×Ac)},KM H l m->∀ x∈m,nZ P w h x.1 x.2.1:=by
  intro l m q;induction q with
  | nil=>intro x b;exact nomatch b
  | @cons p q u v c t s =>
   intro x b;rcases aH.mp b with e | b
   .subst e;exact yK ok (by rw[<- c.1];exact c.2.1)
   .exact s x b
 exact all r x b
end
def tO (H:Hp) (a:Ad) (y:V) (r:Ab V):Prop :=
 (∃ c k,Rd H a (.k c)/\y=kV k/\r=qK c k)\/(∃ c k b,Rd H a (.T c)/\y = .ref b/\H b=some (.t (k.map kV))/\r=qK c k)\/∃ c k,Rd H a (.dM c)/\tZ H k y/\r=qK c k
def tE (H:Hp) (a:Ad) (y v:V) (g:Hp):Prop :=
 (∃ c k,H a=some (.k c)/\y=kV k/\c.length<sizeLine/\g=upd H a (.k (oK c k v))) \/
 (∃ c k b,H a=some (.T c)/\y = .ref b/\H b=some (.t (k.map kV))/\c.length<sizeLine/\g=upd H a (.T (oK c k v))) \/
 (∃ c k,H a=some (.dM c)/\tZ H k y/\c.length<sizeLine/\g=upd H a (.dM (oK c k v))) \/
 ∃ c k b,H a=some (.k c)/\y = .ref b/\H b=some (.t (k.map kV))/\c.length<sizeLine/\g=upd H a (.dM (oK (c.map λp=>((Sum.inl p.1:MK),p.2)) (.inr k) v))
theorem tE.k {k:hG}(e:H a=some (.k g)) (j:g.length<sizeLine):tE H a (kV k) v (upd H a (.k (oK g k v))):=.inl ⟨g,k,e,rfl,j,rfl⟩
theorem tE.t {H:Hp}{a b:Ad}{g:Aa (Aa hG×V)}{k:Aa hG}{v:V}(e:H a=some (.T g)) (j:H b=some (.t (k.map kV))) (l:g.length<sizeLine) :
  tE H a (.ref b) v (upd H a (.T (oK g k v))):=.inr (.inl ⟨g,k,b,e,rfl,j,l,rfl⟩)
theorem tO.m (e:Rd H a (.dM g)) (m:tZ H k y):tO H a y (qK g k):=.inr (.inr ⟨g,k,e,m,rfl⟩)
theorem tE.m {H:Hp}{a:Ad}{g:Aa (MK×V)}{k:MK}{y v:V}(e:H a=some (.dM g)) (m:tZ H k y) (j:g.length<sizeLine):tE H a y v (upd H a (.dM (oK g k v))):=.inr (.inr (.inl ⟨g,k,e,m,j,rfl⟩))
theorem tE.km {H:Hp}{a b:Ad}{g:Aa (hG×V)}{k:Aa hG}{v:V}(e:H a=some (.k g)) (j:H b=some (.t (k.map kV))) (l:g.length<sizeLine) :
  tE H a (.ref b) v (upd H a (.dM (oK (g.map λp=>((Sum.inl p.1:MK),p.2)) (.inr k) v))):=.inr (.inr (.inr ⟨g,k,b,e,rfl,j,l,rfl⟩))
section
variable {X:Cx}
theorem Inv.big (I:Inv X g j H s):sysModules<s.heap.objs.size:=by
 have h:mainGlobals<s.heap.objs.size:=(I.mod.glob.keeps I.bk).lt;exact Nat.lt_trans (by decide) h
theorem Zp (J:A.units+1<cLine) (I:Inv X r U H s) (g:tO H a y (some v)) (C:nF y u) (h:∀ j T,Inv X r U H T->nF v j->Q j T) :
  wpAny (model X.prog X.w) A (getItem (.ref a) u) Q E s:=by
 rcases g with⟨i,k,e,m,l⟩ | ⟨i,k,b,e,m,t,l⟩ | ⟨i,k,e,x,l⟩
 .subst m;obtain⟨z,hd,B,rel,f⟩:=vF I.hok e;obtain⟨j,hw,c⟩:=sV.some_of (v:=v) (o:=valueAt B k) (by rw[l];exact rel.val k);exact wpAny_getItem_of (yG C) f.mapOf hw (h j _ (I.tok _) c)
 .subst m;cases (show u=Value.ref b from C);obtain⟨z,hd,q,rel,f⟩:=Bc I.hok e;obtain⟨j,hw,c⟩:=sV.some_of (v:=v) (o:=(atKey q k).map (·.2)) (by rw[l];exact rel.val k);obtain⟨p,n,d⟩:=bU.mp hw;refine wpAny_getItem_heap (fF J) (Aj I.hok t) f n ?_;rw[d];exact h j _ (I.tok _) c
 .obtain⟨z,hd,q,o,F,D,rel,f⟩:=Be I.hok e;obtain⟨j,hw,c⟩:=sV.some_of (v:=v) (o:=(qD q k).map (·.2)) (by rw[l];exact rel.val k);obtain⟨p,n,d⟩:=bU.mp hw;refine BY J f (yK I.hok (Bj x C)) n ?_;rw[d];exact h j _ (I.tok _) c
theorem Td (r:A.units+1<cLine) (I:Inv X j J H s) (g:tO H a y o) (p:nF y u) (h:∀ C,Inv X j J H C->Q (.bool (!o.isSome)) C) :
  wpAny (model X.prog X.w) A (compareOp .NotIn u (.ref a)) Q E s:=by
 rcases g with⟨d,k,e,f,l⟩ | ⟨d,k,b,e,f,i,l⟩ | ⟨d,k,e,m,l⟩
 .subst f;obtain⟨z,hd,B,rel,c⟩:=vF I.hok e;refine wpAny_notIn_of (yG p) hd c.mapOf ?_;rw[<- (rel.val k).isSome_eq,<- l];exact h _ (I.tok _)
 .subst f;cases (show u=Value.ref b from p);obtain⟨z,hd,n,rel,c⟩:=Bc I.hok e;refine wpAny_notIn_heap (fF r) (Aj I.hok i) hd c ?_;have q:=(rel.val k).isSome_eq;rw[lB] at q;rw[<- q,<- l];exact h _ (I.tok _)
 .obtain⟨z,hd,n,x,v,t,rel,c⟩:=Be I.hok e;refine Wa r c (yK I.hok (Bj m p)) hd ?_;have q:=(rel.val k).isSome_eq;rw[lB] at q;rw[<- q,<- l];exact h _ (I.tok _)
theorem Cs (I:Inv X g C H s) (r:Dg (H a)) (p:Heap.SameBut a s.heap j) (o:∃ q,j.get? a=some q) (new:oG X.prog X.w (upd H a l) j a l) :
  Inv X g C (upd H a l) { s with heap:=j,toks:=J } :=
 I.write (x:=a) (e:=a) r (.inl rfl) (λb q c z=>(p.2 b c).trans z) o new
theorem Dl {P:Ah}(z:g.length<=sizeLine) (hd:(a == sysModules)=false) (rel:KV g j) (l:o.DictOf (oB P w) a j) :
  oG P w p o a (.k g):=⟨z,hd,j,rel,l⟩
theorem MF (T:A.units+1<cLine) (I:Inv X j σ H s) (g:tE H a y v H') (C:nF y u) (J:nF v r) (h:∀ U,Inv X j σ H' U->Q () U) :
  wpAny (model X.prog X.w) A (setItem (.ref a) u r) Q E s:=by
 rcases g with⟨f,k,e,K,l,n⟩ | ⟨f,k,b,e,K,L,l,n⟩ | ⟨f,k,e,M,l,n⟩ | ⟨f,k,b,e,K,L,l,n⟩
 .subst K n;obtain⟨z,hd,V,rel,m⟩:=Lj I.hok e;have F:V.length<=sizeLine:=by rw[<- rel.length];exact z
  have B:(oK f k v).length<=sizeLine:=by have:=Bm f k v;omega
  refine wpAny_setItem_pairs (hsz:=F) (yG C) m λN d D=>h _ ?_
  have he:∃ q,N.get? a=some q:=let ⟨q,_,_,O,_⟩:=d;⟨q,O⟩;exact Cs I (by rw[e];exact True.intro) D he (Dl B hd (rel.put k J) d)
 .subst K n;cases (show u=Value.ref b from C);obtain⟨z,hd,G,rel,m⟩:=IT I.hok e;have F:G.length<=sizeLine:=by rw[<- eP rel];exact z
  have B:(oK f k v).length<=sizeLine:=by have:=Bm f k v;omega
  refine wpAny_setItem_heap (hsz:=F) (fF T) (Aj I.hok L) m λN d D=>h _ ?_
  obtain⟨q,R,P,O,Y,Z,h4,_,h5⟩:=d;refine Cs I (by rw[e];exact True.intro) D ⟨q,O⟩ ⟨B,hd,_,(rel.put k L J).keeps λc W i=>?_,q,R,P,O,Y,Z,h4,h5⟩;rw[gV (yZ i e (λz=>nomatch z))];exact i
 .subst n;obtain⟨z,hd,G,o,R,P,rel,m⟩:=Be I.hok (.inl e);have F:G.length<=sizeLine:=by rw[<- eP rel];exact z
  have B:(oK f k v).length<=sizeLine:=by have:=Bm f k v;omega
  refine Me T m (yK I.hok (Bj M C)) F λN S x t d D=>h _ ?_
  refine Cs I (by rw[e];exact True.intro) D ⟨_,d.ho⟩ ⟨B,hd,_,(rel.put k (Bj M C) J).keeps λc W i=>?_,S,x,t,d.ho,d.hc,d.hd,d.he,d.nd⟩;rw[gV (yZ i e (λz=>nomatch z))];exact i
 .subst K n;cases (show u=Value.ref b from C);obtain⟨z,hd,V,rel,m⟩:=Lj I.hok e;obtain⟨o,R,P,G,M,pr⟩:=Yt m;have km:KM H (f.map λp=>((Sum.inl p.1:MK),p.2)) G:=BC rel pr;have F:G.length<=sizeLine:=by rw[<- eP km,aA];exact z
  have B:(oK (f.map λp=>((Sum.inl p.1:MK),p.2)) (.inr k) v).length<=sizeLine:=by
   have:=Bm (f.map λp=>((Sum.inl p.1:MK),p.2)) (.inr k) v;rw[aA] at this;omega
  have mk:tS H (.inr k) (.ref b):=⟨b,rfl,L⟩;refine Me T M (yK I.hok mk) F λN S x t d D=>h _ ?_
  refine Cs I (by rw[e];exact True.intro) D ⟨_,d.ho⟩ ⟨B,hd,_,(km.put (.inr k) mk J).keeps λc W i=>?_,S,x,t,d.ho,d.hc,d.hd,d.he,d.nd⟩;rw[gV (yZ i e (λz=>nomatch z))];exact i
end
section
variable {X:Cx}
theorem Zc (I:Inv X g o H s) (e:Rd H a (.k j)) (h:∀ t l,Inv X g o H l->Q (.int j.length t) l):wpAny (model X.prog X.w) A (call (.builtin "len") [.ref a]) Q E s:=by
 obtain⟨z,hd,c,rel,b⟩:=vF I.hok e;refine call_len_dict hd b (by rw[<- rel.length];rw[sizeLine_eq] at z;omega) ?_;rw[<- rel.length];exact h _ _ (I.tok _)
end
theorem Sc {X:Cx}(I:Inv X j l H s) (g:tO H a y o):s.TypeIs (.ref a) "dict" := by
 rcases g with⟨d,k,e,_,_⟩ | ⟨d,k,b,e,_,_,_⟩ | ⟨d,k,e,_,_⟩
 .obtain⟨_,_,h,_,c⟩:=vF I.hok e;exact c.typeIs
 .obtain⟨_,_,f,_,c⟩:=Bc I.hok e;exact c.typeIs
 .obtain⟨_,_,f,_,_,_,_,c⟩:=Be I.hok e;exact c.typeIs
def Y1 (ty g:TE):TE:=λd H Q=>ty d H λy e=>g d e λx c=>∃ a o,x = .ref a/\tO c a y o/\Q (.b (!o.isSome)) c
section
variable {X:Cx}{tv:TE}
theorem EW (p:X.A.units+1<cLine) (j:PE X i ty) (l:PE X o r):PC X .NotIn i o (Y1 ty r):=by
 intro c s e H Q I h;refine nD (j c s e H _ I h) λF E ⟨y,f,m,D,w⟩=>nD (l c E e f _ m w) λu G d=>?_
 obtain⟨x,k,n,B,a,v,t,g,z⟩:=d;subst t;obtain rfl:u=Value.ref a:=B;exact Td p n g D λK q=>⟨.b (!v.isSome),k,q,rfl,z⟩
end
theorem EB {P:Ah}(h:Ag) (g:sysModules<h.objs.size):oG P w H (h.push { cls:=.type "dict",data:=.dict #[] }) h.objs.size (.k []) :=
 ⟨cE _,cQ.mpr (eV (bH g)),[],.nil,Heap.DictOf.new h⟩
def X5:TE:=λ_ H Q=>∀ p,H p=none->Q (.ref p) (upd H p (.k []))
section
variable {X:Cx}
theorem KI:PE X (.Dict [] [] pos) X5:=λb s c H Q I h =>
 wpAny_Dict_empty ⟨.ref s.heap.objs.size,_,I.laid (a:=s.heap.objs.size) (o:=.k []) (t':=s.toks) (λ_ _ q=>aL _ q) (aR _) (EB s.heap I.big),rfl,h _ (I.hok.fresh (aR _))⟩
end
def rF (g more:Aa (hG×V)):Aa (hG×V):=more.foldl (λa b=>oK a b.1 b.2) g
theorem KV.merge:∀ {more:Aa (hG×V)}{l:Aa (hG×Ac)}{g:Aa (hG×V)}{j:Aa (hG×Ac)},KV more l->KV g j->KV (rF g more) (merged j l):=by
 intro more l g j r;unfold KV at r;induction r generalizing g j with
 | nil=>intro q;exact q
 | @cons p q c d h t a =>
  intro b;have e:KV (oK g p.1 p.2) (stored j q.1 q.2):=by
   have:=b.put p.1 h.2;rw[<- h.1];exact this
  exact a e
theorem Fy:∀ (more g:Aa (hG×V)),(rF g more).length<=g.length+more.length
 | [],g=>by show g.length<=g.length+0;omega
 | p::r,g=>by
  have a:=Fy r (oK g p.1 p.2);have b:=Bm g p.1 p.2;show (rF (oK g p.1 p.2) r).length<=_;rw[bS];omega
structure M2 (X:Cx) (o:Expr) (m:Str) (apos:Pos) (e f:Expr) (cpos:Pos):Prop where
 base:attributeBase o m X.env (eval o X.env)=eval o X.env
 few:((backTo cpos (starEach [e,f] X.env)).all (λx=>!x.1)&&(backToKw cpos (keywordEach [] X.env)).all (λx=>x.1.isSome) && decide (([e,f]:List Expr).length+([]:List Keyword).length+(if ([]:List Keyword).isEmpty then 0 else 1)<30))=true
 line:(apos.endLine == cpos.line)=true
 trees:backTo cpos (starEach [e,f] X.env)=[(false,eval e X.env),(false,eval f X.env)]
def Lu (H:Hp) (a:Ad):Prop:=(∃ b,Rd H a (.k b))\/(∃ b,Rd H a (.T b))\/∃ b,Rd H a (.dM b)
theorem Xx {X:Cx}(I:Inv X j l H s) (d:Lu H a) :
  s.TypeIs (.ref a) "dict" /\ (∀ b,Value.ref a = .ref b->∃ g,s.heap.get? b=some g/\g.dict=none)/\(a == sysModules)=false:=by
 rcases d with⟨f,e⟩ | ⟨f,e⟩ | ⟨f,e⟩
 .obtain⟨_,hd,m,_,c⟩:=vF I.hok e;refine⟨c.typeIs,λb q=>?_,hd⟩;cases q;obtain⟨g,_,_,h,i,_⟩:=c;exact⟨g,h,i.2.1⟩
 .obtain⟨_,hd,k,_,c⟩:=Bc I.hok e;refine⟨c.typeIs,λb q=>?_,hd⟩;cases q;obtain⟨g,_,_,h,i,_⟩:=c;exact⟨g,h,i.2.1⟩
 .obtain⟨_,hd,k,g,_,_,_,c⟩:=Be I.hok e;refine⟨c.typeIs,λb q=>?_,hd⟩;cases q;exact⟨g,c.ho,c.hc.2.1⟩
section
variable {X:Cx}
theorem Yh (C:A.units+1<cLine) (I:Inv X j U H s) (g:tO H a y o) (p:nF y u) (rd:nF d r) (h:∀ T J,Inv X j U H J->nF (o.getD d) T->Q T J) :
  wpAny (model X.prog X.w) A (call (.builtin "dict.get") [.ref a,u,r]) Q E s:=by
 rcases g with⟨f,k,e,i,l⟩ | ⟨f,k,b,e,i,n,l⟩ | ⟨f,k,e,q,l⟩
 .subst i;obtain⟨z,hd,B,rel,c⟩:=vF I.hok e;refine call_meetsIn jN c.typeIs lC (kT _ _ _) (meets_dict_get_default (oB X.prog X.w) a (yG p) hd r) ⟨_,c.mapOf,h _ _ (I.tok _) ?_⟩;rw[l];exact (rel.val k).getD rd
 .subst i;cases (show u=Value.ref b from p);obtain⟨z,hd,m,rel,c⟩:=Bc I.hok e;refine call_meetsIn jN c.typeIs lC (kT _ _ _) (meetsH_dict_get_default (tupleKind (oB X.prog X.w)) a b hd r) ⟨fF C,k,m,Aj I.hok n,c,h _ _ (I.tok _) ?_⟩;rw[l];exact (rel.val k).getD rd
 .obtain⟨z,hd,m,x,v,t,rel,c⟩:=Be I.hok e;refine call_meetsIn jN c.typeIs lC (kT _ _ _) (HF hd u r) ⟨fF (K:=hG) (knd:=oB X.prog X.w) C,k,x,v,t,m,c,yK I.hok (Bj q p),h _ _ (I.tok _) ?_⟩;rw[l];exact (rel.val k).getD rd
end
def Yj (g ty tx:TE):TE:=λb H Q=>g b H λx c=>∃ a,x = .ref a/\Lu c a/\ty b c λy e=>tx b e λz d=>∃ o,tO d a y o/\Q (o.getD z) d
section
variable {X:Cx}{tx:TE}
theorem HB (C:X.A.units+1<cLine) (r:PE X o J) (l:PE X e ty) (p:PE X f tx) (m:M2 X o "get" apos e f j):PE X (.Call (.Attribute o "get" apos) [e,f] [] j) (Yj J ty tx):=by
 intro b s k H Q I h;refine wpAny_Call_method m.base m.few m.line PySem.F.plainAttrs_dict jN PySem.F.type_dict_get (nD (r b s k H _ I h) λu P c=>?_);obtain⟨x,q,n,M,a,E,d,G⟩:=c;subst E;obtain rfl:u=Value.ref a:=M;obtain⟨S,V,_⟩:=Xx n d;refine⟨S,V,?_⟩;rw[m.trees];refine Calls.callWith_builtin rfl (Calls.evalArgs_plain (kL (nD (l b P k q _ n G) λY R ⟨y,t,w,N,K⟩ =>kL (nD (p b R k t _ w K) λW T ⟨z,v,B,O,Z,g,L⟩=>Calls.spliced_nil ?_))));exact Yh C B g N O λw' U D i=>⟨_,v,D,i,L⟩
end
section
variable {X:Cx}
theorem DE (I:Inv X j r H s) (e:Rd H a (.k g)) (h:∀ p l,H p=none->Inv X j r (upd H p (.k g)) l->Q (.ref p) l):wpAny (model X.prog X.w) A (call (.type "dict") [.ref a]) Q E s:=by
 obtain⟨z,hd,n,rel,f⟩:=vF I.hok e;refine kt_call_dict hd f (by rw[<- rel.length];exact z) λm c i=>?_
 refine h _ _ (I.hok.fresh (aR _)) (I.laid (a:=s.heap.objs.size) (o:=.k g) (t':=s.toks) (λb q d=>?_) (aR _) (Dl z (cQ.mpr (eV (bH I.big))) rel c));exact (i.2 b (bH (aT d))).trans (aL _ d)
end
end L2
namespace Att
open PySem PySem.W PySem.Calls PyProof.Rows
theorem AD {P:Params}:∀ (g:Aa Int) (j:Aa Ac),WellAll P h j (g.map WData.int)->IntsAre j g:=by
 intro g;induction g with
 | nil =>
  intro j w;rw[mQ] at w;cases w;exact .nil
 | cons n g c =>
  intro j w;rw[aO] at w;cases w with
  | cons a b =>
   cases a;exact .cons _ _ (c _ b)
theorem BU {l:OpenLaw}(I:l.most=some n){P:Params}
  (j:l.row.toRowW.claim.pre args=true) (p:WellAll P h o args) :
  ∃ a C g,o=[Value.ref a]/\args=[WData.list (g.map WData.int)]/\h.get? a=some { cls:=.type "list",data:=.seq C.toArray }/\IntsAre C g/\g.length<=n:=by
 have i:WShape.hasAll [] args [.list .int]=true:=(pre_splitW j).1;have k:l.pre.holds [] { args:=args }=true:=(pre_splitW j).2;obtain⟨d,r,rfl,m,s⟩:=hasAllW_cons i;obtain rfl:=hasAllW_nil s;obtain⟨y,rfl,t⟩:=hasW_list m;obtain⟨g,rfl⟩:=items_int t;have c:g.length<=n:=by
  unfold OpenLaw.pre at k;have e:(WTm.not (.lt (.lit (.int (n:Int))) (.len (.arg 0)))).holds [] { args:=[.list (g.map .int)] }=true:=by
   have e:=(holds_andW k).1;rw[I] at e;exact e
  have f:=condW_of e (w_not (w_lt w_lit (w_len_list (w_arg rfl))));rw[aA] at f;refine Nat.le_of_not_lt λq=>?_
  have v:(n:Int)<((g.length:Nat):Int):=by omega
  first
   | (rw[cX v] at f;exact absurd f (by decide))
   | (simp at f;omega)
 cases p with
 | cons w x =>
  cases x;cases w with
  | list u b=>exact⟨_,_,g,rfl,rfl,u,AD g _ b,c⟩
theorem AT (l:OpenLaw) (args:Aa WData):l.row.toRowW.claim.post args (.bool true) args=true :=
 postW_of (r:=l.row.toRowW) (X:=(true == true))
  (show WShape.has [] (.bool true) .bool=true by first | rfl | decide | simp[WShape.has,WShape.arms,WShape.armsAll])
  (show (WTm.eq .res (.lit (.bool true))).value [] { args:=args,res:=some (.bool true),after:=args }=some (.bool (true == true)) from w_eq_bool (w_res rfl) w_lit) rfl
theorem attach_call {l:OpenLaw}
  (hn:l.most=some n) (aa:d.params.defaults=[])
  (call:∀ (w:World) (j g:Ae) (T mb:Af->Ab Ac) (J:Ad) (o:Obj) (pm cd p:Ac) (a:Ad) (I:Aa Ac) (U:Aa Int),Ground q C [] XP w j T mb g.heap->YP w g.heap ->g.heap.get? J=some o->o.data = .func (docDef d.name d.params d.body d.scope pm cd p)->g.heap.CodeRec cd d.name->T d.name=some (.ref J) ->g.heap.get? a=some { cls:=.type "list",data:=.seq I.toArray }->IntsAre I U->U.length<=n->g.gens=#[] ->
   codeAny (model l.prog w) callerA (.call (.ref J) ⟨[.ref a],[]⟩) (λr s'=>r = .ok (.ret (.bool true))/\OldK g.heap s'.heap/\s'.os=g.os/\AllBare s'.gens) g) :
  WalkO q C XP YP l.row.toRowW d [] (λf I=>PySem.call f I):=by
 intro w j g T mb G Y J o pm cd p v kV E hd i s k A args u as h t H m B;obtain rfl:v = .none:=Dflts.none s aa;obtain rfl:kV = .none:=Dflts.noKw s;obtain⟨a,I,U,rfl,rfl,e,b,c⟩:=BU hn h m;refine enter_call (codeAny_mono (call w j g T mb J o pm cd p a I U G Y E (fd_plain hd) i k e b c A) λr s' F=>?_);obtain⟨rfl,x,y,z⟩:=F;exact⟨.inl ⟨.bool true,.bool true,[],rfl,λ_=>rfl,.bool true,AT l _,λ_=>⟨List.Pairwise.nil,λ_ D=>(nomatch D)⟩⟩,x,y,z⟩
end Att
namespace L2
open PySem PySem.Spec PyProof.Rows
theorem Ti:∀ {j:Aa Ac}{g:Aa Int},IntsAre j g->nE (g.map V.int) j
 | _,_,.nil=>.nil
 | _,_,.cons n t h=>.cons ⟨t,rfl⟩ (Ti h)
def Jz (H:Hp):Prop:=∀ b,H b=none\/∃ o a,H b=some (.frz o (.l a))
theorem JR {P:Ah}{K:mZ}
  (KX:K.In g.heap) (T:g.heap.Ns mainGlobals mg) (j:g.heap.Ns builtinsNs mb) (ab:∀ x:Af,x ≠ "__name__" -> mb x=bootBuiltins x) (J:g.heap.NoLimit) (hg:g.gens=#[])
  (U:g.heap.get? a=some { cls:=.type "list",data:=.seq I.toArray }) (hi:IntsAre I ns) (hl:ns.length<=sizeLine) (hr:Room k callerA)
  (F:∀ base:Ag,K.In base->base.Ns mainGlobals mg->FnOk P w K mg base CX k fa fd [x] sp) (C:∀ (s:Ae) (u:Ac),BindsTo s fd ⟨[u],[]⟩ [(x,u)])
  (ac:∀ H:Hp,Jz H->eH K H a (ns.map V.int)->sp [.ref a] H (λv _=>v = .b true) λ_ _ _=>False)
  (aa:∀ H e p,CX [] H g (λ_ _ _=>False) e p->False) :
  codeAny (model P w) callerA (.call (.ref fa) ⟨[.ref a],[]⟩) (λr p=>r = .ok (.ret (.bool true))/\OldK g.heap p.heap/\p.os=g.os/\AllBare p.gens) g:=by
 have Q:=Ti hi;have D:=hi.length;have core:∀ H:Hp,Jz H->eH K H a (ns.map V.int)->oO P w H g.heap->(∀ b,H b≠none->b=a)->(H a≠none->K.lookup a=none) ->
   codeAny (model P w) callerA (.call (.ref fa) ⟨[.ref a],[]⟩) (λr p=>r = .ok (.ret (.bool true))/\OldK g.heap p.heap/\p.os=g.os/\AllBare p.gens) g:=by
  intro H O hS A N hK;have c:∀ {b:Ad} {o:Obj},g.heap.get? b=some o->H b=none->(wB g.heap H).get? b=some o:=λe n=>Zs e n
  have L:∀ {b:Ad} {o:Obj} {t:Array DictEntry} {i:Nat},g.heap.get? b=some o->o.data = .dict t i->H b=none:=λ{b o t i} e d=>by
   cases q:H b with
   | none=>rfl
   | some u =>
    have G:b=a:=N b (by rw[q];simp);subst G;rw[U] at e;cases e;have R:Data.seq I.toArray _=Data.dict t i:=d;cases R
  have f:∀ {b:Ad} {m:Af->Ab Ac},g.heap.Ns b m->(wB g.heap H).Ns b m:=λ{b m} ⟨o,t,i,e,d,r⟩=>⟨o,t,i,c e (L e d),d,r⟩
  have y:K.In (wB g.heap H):=λb o e=>c (KX b o e) (by
   cases q:H b with
   | none=>rfl
   | some u =>
    have G:b=a:=N b (by rw[q];simp);subst G;rw[hK (by rw[q];simp)] at e;cases e)
  have hM:Mod K mg (wB g.heap H):=⟨y,f T,⟨mb,f j,ab⟩,let ⟨mc,Y,Z⟩:=J;⟨mc,f Y,Z⟩⟩;have S:Env0 P w K mg (wB g.heap H) callerA [] g H:=⟨rfl,hM,λb o e=>CJ e,Nat.le_of_eq (X6 _ _),trivial,λb j=>absurd (show b∈([]:Aa Ad) from j) (by simp),A,.of_eq hg⟩;refine codeAny_mono ((F _ y (f T)).run callerA [] g H ⟨[.ref a],[]⟩ [.ref a] [.ref a] _ _ hr S (C g (.ref a)) (.cons rfl .nil) (ac H O hS)) λr p h=>?_
  cases r with
  | error e=>exact (aa H e p h).elim
  | ok X =>
   cases X with
   | next=>exact False.elim h
   | brk=>exact False.elim h
   | cont=>exact False.elim h
   | ret u =>
    obtain⟨v,H',os,bare,un,B,r',q⟩:=h;have q':v = .b true:=q;subst q';obtain rfl:u=Value.bool true:=r';refine⟨rfl,OldK.of_keep λb o e=>?_,os,bare⟩;cases q:H b with
    | none=>exact un.keep b o e q (by intro z;exact absurd (show b∈([]:Aa Ad) from z) (by simp)) (by simp)
    | some u =>
     rcases O b with z | ⟨ob,xs,z⟩
     .rw[q] at z;cases z
     .have z2:=un.frzs b ob _ z;obtain⟨M,_⟩:=A b _ z;obtain⟨W,_⟩:=B b _ z2;rw[e] at M;cases M;exact W
 cases hk:K.lookup a with
 | some o =>
  have e:=KX a o hk;rw[U] at e;cases e;refine core (λ_=>none) (λ_=>.inl rfl) (.inr ⟨_,I.toArray,_,hk,rfl,rfl,rfl,by rw[aV,D];exact hl,by simpa using Q⟩) (λb u z=>by have E:(none:Ab HO)=some u:=z;cases E) (λb z=>absurd rfl z) λz=>absurd rfl z
 | none =>
  refine core (λb=>if b=a then some (.frz { cls:=.type "list",data:=.seq I.toArray } (.l (ns.map V.int))) else none) (λb=>?_) (.inl (.inr ⟨{ cls:=.type "list",data:=.seq I.toArray },aP rfl⟩)) (λb u z=>?_) (λb z=>?_) λ_=>hk
  .by_cases j:b=a
   .exact .inr ⟨_,_,aP j⟩
   .exact .inl (aI j)
  .by_cases j:b=a
   .have E:=(aP j).symm.trans z;cases E;subst j;exact⟨U,by rw[aA];exact hl,I,_,Q,U⟩
   .have E:=(aI j).symm.trans z;cases E
  .by_cases j:b=a
   .exact j
   .exact absurd (aI j) z
theorem walk_of {l:PySem.W.OpenLaw}{n k:Nat}{q:Ah}{j:Aa Af}{XP:(Af->Ab Ac)->Ag->Prop}{YP:World->Ag->Prop}{d:DefRec}{K:Params->mZ}{CX:World->At}{sp:World->Sp}{x:Af}
  (hn:l.most=some n) (U:n<=sizeLine) (J:d.params.defaults=[]) (hr:Room k callerA)
  (hY:∀ (w:World) (h:Ag),YP w h->(K w.params).In h)
  (F:∀ (w:World) (p:Af->Ab Ac) (r:Ad) (h:Ag),(K w.params).In h->h.Ns mainGlobals p->p d.name=some (.ref r) ->∃ fd:FuncData,(∀ (s:Ae) (u:Ac),BindsTo s fd ⟨[u],[]⟩ [(x,u)]) /\ ∀ base:Ag,(K w.params).In base->base.Ns mainGlobals p->FnOk l.prog w (K w.params) p base (CX w) k r fd [x] (sp w))
  (aa:∀ (w:World) (H:Hp) (a:Ad) (C:Aa Int),C.length<=n->Jz H->eH (K w.params) H a (C.map V.int)->sp w [.ref a] H (λv _=>v = .b true) λ_ _ _=>False)
  (I:∀ (w:World) (H:Hp) (s:Ae) (e:Ac) (s':Ae),CX w [] H s (λ_ _ _=>False) e s'->False) :
  PySem.W.WalkO q j XP YP l.row.toRowW d [] (λf vs=>PySem.call f vs):=by
 refine Att.attach_call hn J λw A t p Q r o pm cd B a vs C G Y P hd N y m i c O=>?_
 have z:=hY w _ Y;obtain⟨fd,M,D⟩:=F w p r _ z G.T.g y;exact JR z G.T.g G.T.b G.T.builtins G.T.nolimit O m i (bD c U) hr D M (λH E L=>aa w H a C c E L) λH e s'=>I w H t e s'
def uL (s:Stmt):Arguments:=match s with
 | .FunctionDef _ a _ _ _ _ _ _ _ _=>a
 | _=>{ posonlyargs:=[],args:=[],vararg:=none,kwonlyargs:=[],kw_defaults:=[],kwarg:=none,defaults:=[] }
def sT (s:Stmt):Aa Stmt:=match s with
 | .FunctionDef _ _ b _ _ _ _ _ _ _=>b
 | _=>[]
def nS (s:Stmt):Scope:=match s with
 | .FunctionDef _ _ _ _ _ _ a _ _ _=>a
 | _=>{ kind:=.function,names:=[],isGenerator:=false,isCoroutine:=false }
abbrev oQ:At:=λ_ _ _ _ _ _=>False
abbrev E0:XK:=λ_ _ _=>False
theorem qA {X:Cx}:Hf oQ X E0:=λ_ _ _ _ _ _ _ h=>h.elim
structure Fun (K:mZ) (x qual:Str) (st:Stmt) (f:Addr) (fd:FuncData):Prop where
 ex:∃ (oc:Value) (od:Option Addr) (kV doc pm:Value) (an:Option Addr) (cdv ct:Value) (osl:Array (Option Value)),
  fd=PySem.W.fnOf x qual (uL st) (sT st) (nS st) .none kV doc pm an cdv ct/\K.lookup f=some ⟨oc,od,.func fd,osl⟩/\PySem.W.codeIn K cdv qual=true
 kp:PySem.W.keepIn K (.ref f)=true
section
variable {P:Ah}{K:mZ}
theorem Fun.ok {st:Stmt}(F:Fun K x l st f fd) (S:FnScope N r (nS st)) (len:∀ p H Q E,C p H Q E->p.length=r.length)
  (o:∀ (j:Ac) (A:Around) (g:Aa Env) (s:Ae) (H:Hp) (p:Aa V) (Q:VK) (E:XK),Room k (A.deeper (envOfC l (nS st) s.heap.objs.size f j))->C p H Q E ->∃ t,pS (xZ oQ P w K J base N l (nS st) f j A g s H E).nox (sT st) t/\t { nx:=λ_ I=>Q .e I,rt:=Q } (tF N p) H):FnOk P w K J base oQ (k+1) f fd r C:=by
 obtain⟨v,y,kV,c,pm,n,j,u,m,rfl,i,a⟩:=F.ex;refine BN i a S len λA g s H p Q E d b=>?_
 obtain⟨t,h,q⟩:=o j A g s H p Q E d b;exact⟨t,h.nox,q⟩
theorem Fun.binds {st:Stmt}(F:Fun K x l st f fd)
  (h:∀ (kV j pm:Ac) (o:Ab Ad) (g p:Ac) (r:Aa Ac),r.length=C.length->bindArgs (PySem.W.fnOf x l (uL st) (sT st) (nS st) .none kV j pm o g p) ⟨r,[]⟩=pure (C.zip r)):xR K fd C []:=by
 obtain⟨d,e,kV,j,pm,o,g,p,b,rfl,c,a⟩:=F.ex;exact .all (h kV j pm o g p)
theorem Nk {st:Stmt}{kV:Ac}(l:K.lookup f=some ⟨I,J,.func (PySem.W.fnOf x g (uL st) (sT st) (nS st) .none kV o pm r j C),p⟩)
  (c:PySem.W.codeIn K j g=true) (k:PySem.W.keepIn K (.ref f)=true):Fun K x g st f (PySem.W.fnOf x g (uL st) (sT st) (nS st) .none kV o pm r j C):=⟨⟨I,J,kV,o,pm,r,j,C,p,rfl,l,c⟩,k⟩
end
theorem Ln (g:Room k A):A.units+1<cLine:=bG (Nat.add_le_add_left (by decide:1<=64) _) g.units
section
variable {X:Cx}
theorem pv (i:Nat) (j:X.N[i]?=some x:=by rfl) (l:Kc X.env.scope x:=by first | exact Or.inl rfl | exact Or.inr (Or.inl rfl) | exact Or.inr (Or.inr rfl)) (hd:(x == ("__debug__" : Af))=false:=by decide)
  (g:(x == ("__classdict__" : Af))=false:=by decide):PE X (.Name x pos) (pY i):=EX j l hd g
theorem JL:oH X (.builtin "len") (λj H Q=>∃ a g,j=[V.ref a]/\Rd H a (.k g)/\Q (.int g.length) H):=by
 intro b s m H j i Q I r h;obtain⟨a,g,rfl,d,q⟩:=h;obtain⟨u,rfl,e⟩:=qJ r;cases e;exact Zc I d λt f c=>⟨.int g.length,H,c,⟨t,rfl⟩,q⟩
end
theorem wV {A B:Prop}(h:B):if false=true then A else B:=by
 rw[aI bE];exact h
theorem zN {c A B:Prop} [Decidable c] (g:c->A) (j:¬ c->B):if c then A else B:=by
 by_cases h:c
 .rw[aP h];exact g h
 .rw[aI h];exact j h
def pW (H g:Hp):Prop:=∀ b o,H b=some o->g b=some o
theorem pW.trans (a:pW H g) (b:pW g j):pW H j:=λc o h=>b c o (a c o h)
theorem pW.free (e:pW H g) (h:g l=Option.none):H l=Option.none:=by
 cases q:H l with
 | none=>rfl
 | some o =>
  rw[e l o q] at h;cases h
theorem pW.seq {K:mZ}(e:pW H g) (h:eH K H a j):eH K g a j:=by
 rcases h with (h | ⟨o,h⟩) | h
 .exact .inl (.inl (e _ _ h))
 .exact .inl (.inr ⟨o,e _ _ h⟩)
 .exact .inr h
section
variable [DecidableEq κ]
theorem Vi:∀ {l:Aa κ}{k:κ},l.Nodup->¬ k∈l->(l++[k]).Nodup
 | [],k,_,_=>by simp
 | a::r,k,h,hk=>by
  obtain⟨b,c⟩:=bN.mp h;show (a::(r++[k])).Nodup;refine bN.mpr ⟨λm=>?_,Vi c λm=>hk (aH.mpr (Or.inr m))⟩;rcases aQ.mp m with q | q
  .exact b q
  .exact hk (aH.mpr (Or.inl (aM.mp q).symm))
end
section
variable {X:Cx}
theorem Eo {K:mZ}:∀ {j:Aa Int}{g:Aa Ac},nE (j.map V.int) g->∃ xs:Array (Int×Tok),g.toArray=intItems xs/\j=xs.toList.map (·.1)
 | [],_,.nil=>⟨#[],by simp[intItems],rfl⟩
 | n::j,_,.cons r c=>by
  obtain⟨t,rfl⟩:=r;obtain⟨xs,a,b⟩:=Eo (K:=K) c;refine⟨(⟨(n,t)::xs.toList⟩:Array (Int×Tok)),?_,by rw[b];rfl⟩;have:(intItems xs).toList=_:=(cK Array.toList a).symm;unfold intItems at this |-;refine Array.toList_inj.mp ?_;simp only[Array.toList_map] at this |-;rw[aO,this]
theorem Dq (en:l=o.toList.map (·.1)) (g:j<o.size):∃ h:j<l.length,numAt o j=l[j]:=by
 subst en;refine⟨by simpa using g,?_⟩;simp[numAt,g]
theorem Ct (l:X.calm=true):oH X (.builtin "sum") (λj H Q=>∃ (p:Ad) (g:Aa Int),j=[.ref p]/\eH X.K H p (g.map V.int)/\Q (.int g.sum) H):=by
 intro a s x H j w Q I r h;obtain⟨p,g,rfl,b,q⟩:=h;obtain⟨u,rfl,i⟩:=qJ r;cases i;obtain⟨c,f,d,t⟩:=I.list b;obtain⟨m,e,en⟩:=Eo (K:=X.K) f;refine sum_intListG (xs:=m) (I.ok.hd l) (e▸d.isList) λn v k hk=>⟨.int g.sum,H,I.kept hk,⟨k,?_⟩,q⟩
 rw[preSum_eq,bJ (by simp),en]
theorem JI (l:X.calm=true):oH X (.builtin "min") (λxs H Q=>∃ (p:Ad) (g:Aa Int),xs=[.ref p]/\eH X.K H p (g.map V.int)/\g≠[]/\∀ m:Int,m∈g->(∀ a∈g,m<=a)->Q (.int m) H):=by
 intro k s S H xs R Q I r h;obtain⟨p,g,rfl,y,d,q⟩:=h;obtain⟨u,rfl,L⟩:=qJ r;cases L;obtain⟨B,G,F,N⟩:=I.list y;obtain⟨b,e,en⟩:=Eo (K:=X.K) G;have f:0<b.size:=by
  rcases lY b.size with z | z
  .exfalso;apply d;rw[en];simp[Array.size_eq_zero_iff.mp z]
  .exact z
 refine min_intList (xs:=b) (I.ok.hd l) (e▸F.isList) f λv M P A hk=>?_
 obtain⟨t,rfl⟩:=intItems_at (xs:=b) A;have c:=argBest_lt (numAt b) (b.size-1);obtain⟨E,n⟩:=Dq en (bG c.1 (show b.size-1<b.size by omega));refine⟨.int _,H,I.kept hk,⟨t,rfl⟩,q _ (n▸eR E) λa x=>?_⟩;obtain⟨j,i,rfl⟩:=List.getElem_of_mem x;have D:j<b.size:=by rw[en] at i;simpa using i
 obtain⟨O,w⟩:=Dq en D;exact w▸c.2 j (by omega)
theorem DD (l:X.calm=true):oH X (.builtin "max") (λxs H Q=>∃ (p:Ad) (g:Aa Int),xs=[.ref p]/\eH X.K H p (g.map V.int)/\g≠[]/\∀ m:Int,m∈g->(∀ a∈g,a<=m)->Q (.int m) H):=by
 intro k s S H xs R Q I r h;obtain⟨p,g,rfl,y,d,q⟩:=h;obtain⟨u,rfl,L⟩:=qJ r;cases L;obtain⟨B,G,F,N⟩:=I.list y;obtain⟨b,e,en⟩:=Eo (K:=X.K) G;have f:0<b.size:=by
  rcases lY b.size with z | z
  .exfalso;apply d;rw[en];simp[Array.size_eq_zero_iff.mp z]
  .exact z
 refine max_intList (xs:=b) (I.ok.hd l) (e▸F.isList) f λv M P A hk=>?_
 obtain⟨t,rfl⟩:=intItems_at (xs:=b) A;have c:=argBest_gt (numAt b) (b.size-1);obtain⟨E,n⟩:=Dq en (bG c.1 (show b.size-1<b.size by omega));refine⟨.int _,H,I.kept hk,⟨t,rfl⟩,q _ (n▸eR E) λa x=>?_⟩;obtain⟨j,i,rfl⟩:=List.getElem_of_mem x;have D:j<b.size:=by rw[en] at i;simpa using i
 obtain⟨O,w⟩:=Dq en D;exact w▸c.2 j (by omega)
def R9 (K:mZ):V->Aa V->Hp->VK->Prop:=λx b H Q=>∃ (l:Ad) (a:Aa V) (y:V) (j:Nat),x = .ref l/\b=[y]/\eH K H l a/\a.all qW=true/\qW y=true/\j<a.length /\
 (∀ z,a[j]?=some z->pI z y=true)/\(∀ (m:Nat) z,m<j->a[m]?=some z->pI z y=false)/\Q (.int j) H
theorem U3:yD X "list.index" (R9 X.K):=by
 intro P s σ H x vs v U Q I C p h;obtain⟨l,D,y,j,rfl,rfl,Z,E,S,J,V,W,q⟩:=h;cases C;obtain⟨u,rfl,o⟩:=p.one;obtain⟨a,r,g,T⟩:=I.list Z;have M:=r.length;obtain⟨⟨cls,R,data,sl⟩,N,G,n,hd⟩:=g.isList;simp only at G hd;subst G hd;have O:∀ (i:Nat) (L:i<a.toArray.size),∃ z,D[i]?=some z/\qX y a.toArray[i]=pI z y:=λi L=>by
  have f:i<a.length:=by simpa using L
  have w:D[i]?=some (D[i]'(by omega)):=aF (by omega);obtain⟨B,hw,A⟩:=r.get w;have e:a.toArray[i]=B:=by
   rw[aF f] at hw
   simpa using bR hw
  refine⟨_,w,?_⟩;rw[e];exact Is A (gB.mp E _ (aK w))
 have c:j<a.toArray.size:=by rw[aV];omega
 have k:sizeLine<2 ^ 63-1:=by decide
 refine kM kU ⟨_,N,rfl⟩ PySem.F.entry_list_index (PySem.F.args_list_index_2 _ _)
  (SeqAt.list_indexAt l a.toArray n R sl u (qX y) j c (by omega) ?_ ?_) ⟨N,λB hw=>Ay o S r E B (by simpa using hw),⟨.int j,H,I.tok _,⟨_,rfl⟩,q⟩⟩
 .obtain⟨z,b,d⟩:=O j c;show qX y a.toArray[j]=true;rw[d];exact V z b
 .intro m Y t;obtain⟨z,b,d⟩:=O m Y;show qX y a.toArray[m]=false;rw[d];exact W m z t b
theorem Lh:∀ {j:Aa Af}{g:Aa Ac},nE (j.map V.str) g->StrsAre g j:=by
 intro j;induction j with
 | nil=>intro g r;cases r;exact .nil
 | cons y r c =>
  intro g h;cases h with
  | cons a b =>
   obtain⟨t,rfl⟩:=a;exact .cons _ _ (c b)
def X2 (K:mZ):V->Aa V->Hp->VK->Prop:=λx b H Q=>∃ (z:Af) (l:Ad) (a:Aa Af),x = .str z/\b=[.ref l]/\(eH K H l (a.map V.str)\/nQ K H l (a.map V.str)) /\
 (a.map (·.length)).sum+a.length*z.length<=16777216/\Q (.str (Txt.join z a)) H
theorem JO:yD X "str.join" (X2 X.K):=by
 intro e s B H x y v w Q I m i h;obtain⟨z,l,A,rfl,rfl,a,d,q⟩:=h;obtain⟨t,rfl⟩:=m;obtain⟨u,rfl,f⟩:=i.one;cases f;rcases a with a | a
 .obtain⟨b,r,c,_⟩:=I.list a;exact join_list c.isList (by simpa using Lh r) d λn k=>⟨.str _,H,I.tok _,⟨_,rfl⟩,q⟩
 .obtain⟨b,r,c,_⟩:=I.tuple a;exact join_tuple c (by simpa using Lh r) d λn k=>⟨.str _,H,I.tok _,⟨_,rfl⟩,q⟩
end
mutual
inductive DatV (K:mZ) (H:Hp):V->PyData->Prop where
 | e:DatV K H .e .none
 | b (b:Bool):DatV K H (.b b) (.bool b)
 | int (i:Int):DatV K H (.int i) (.int i)
 | str (x:Str):DatV K H (.str x) (.str x)
 | l {a:Addr} {xs:List V} {ds:List PyData}:eH K H a xs->DatVs K H xs ds->DatV K H (.ref a) (.list ds)
 | t {a:Addr} {xs:List V} {ds:List PyData}:nQ K H a xs->DatVs K H xs ds->DatV K H (.ref a) (.tuple ds)
inductive DatVs (K:mZ) (H:Hp):List V->List PyData->Prop where
 | nil:DatVs K H [] []
 | cons {x:V} {d:PyData} {xs:List V} {ds:List PyData}:DatV K H x d->DatVs K H xs ds->DatVs K H (x::xs) (d::ds)
end
section
variable {X:Cx}
mutual
theorem DatV.reads (I:Inv X g j H s):∀ {x:V}{d:PyData}{u:Ac},DatV X.K H x d->nF x u->∃ as,Reads s.heap u d as
 | _,_,_,.e,r=>by cases r;exact⟨_,.none⟩
 | _,_,_,.b b,r=>by cases r;exact⟨_,.bool b⟩
 | _,_,_,.int i,r=>by obtain⟨t,rfl⟩:=r;exact⟨_,.int i t⟩
 | _,_,_,.str x,r=>by obtain⟨t,rfl⟩:=r;exact⟨_,.str x t⟩
 | _,_,_,.l a f,r=>by
  cases r;obtain⟨k,m,⟨o,n,e,c,_,d⟩,_⟩:=I.list a;obtain⟨as,h⟩:=DatVs.reads I f m;exact⟨_,.list e c d (by simpa using h)⟩
 | _,_,_,.t a f,r=>by
  cases r;obtain⟨k,m,⟨o,e,c,n,d⟩,_⟩:=I.tuple a;obtain⟨as,h⟩:=DatVs.reads I f m;exact⟨_,.tuple e c d (by simpa using h)⟩
theorem DatVs.reads (I:Inv X j p H s):∀ {o:Aa V}{g:Aa PyData}{l:Aa Ac},DatVs X.K H o g->nE o l->∃ as,ReadsAll s.heap l g as
 | _,_,_,.nil,.nil=>⟨_,.nil⟩
 | _,_,_,.cons h c,.cons r d=>by
  obtain⟨as,a⟩:=DatV.reads I h r;obtain⟨bs,b⟩:=DatVs.reads I c d;exact⟨_,.cons a b⟩
end
end
section
variable {X:Cx}
def Ol (K:mZ) (neg:Bool):R2:=λx y H Q=>∃ a c,DatV K H x a/\DatV K H y c/\a.canLay0=true/\c.canLay0=true/\min a.depth c.depth<=60/\Q (.b (if neg then !PyData.eqv a c else PyData.eqv a c)) H
theorem Vl (g:X.A.units+64<cLine):nR X (compareOp .NotEq) (Ol X.K true):=by
 intro a s B H x y v u Q I m n h;obtain⟨t,w,c,d,e,f,z,q⟩:=h;obtain⟨as,i⟩:=c.reads I m;obtain⟨bs,k⟩:=d.reads I n;exact SeqAt.compareNe_reads i k e f (by omega) ⟨.b _,H,I,rfl,q⟩
def Ed (K:mZ) (neg:Bool):R2:=λx y H Q=>∃ (a b:Ad) (c:Aa V),x = .ref a/\y = .ref b/\eH K H a c/\eH K H b []/\Q (.b (if neg then !c.isEmpty else c.isEmpty)) H
theorem Ig (g:X.A.units+64<cLine):nR X (compareOp .Eq) (Ed X.K false):=by
 intro c s M H x y v u Q I F G h;obtain⟨a,b,L,rfl,rfl,f,z,q⟩:=h;cases F;cases G;obtain⟨B,D,m,_⟩:=I.list f;obtain⟨k,E,n,_⟩:=I.list z;cases E;have t:∀ d,d=L.isEmpty->EP X c M Q (.bool d) s:=λd e=>⟨.b d,H,I,rfl,by subst e;exact q⟩
 cases D with
 | nil=>exact SeqAt.RcAt.lists (e:=λ_=>true) m.isList n.isList rfl (by omega) (λi f _=>by simp at f) X.prog X.w _ _ (t _ (by simp))
 | cons r N=>exact SeqAt.RcAt.lists_lengths m.isList n.isList (by simp) (by omega) X.prog X.w _ _ (t _ rfl)
end
end L2
namespace L2
open PySem PySem.Spec PyProof.Rows
section
variable {X:Cx}
def tP (z:Af) (lo g:Ab Int):Af:=⟨((z.cps.toList.drop (HT.sIx z.length 0 lo)).take (HT.sIx z.length z.length g-HT.sIx z.length 0 lo)).toArray⟩
theorem Yd (lo g:Ab Int) (n:Nat):Builtin.Str.strSliceIndices lo g 1 n=(List.range (HT.sIx n n g-HT.sIx n 0 lo)).map (HT.sIx n 0 lo+·):=by
 unfold Builtin.Str.strSliceIndices;rw[<- sliceRange_one];have c:∀ (v:Ab Int) (d:Nat),d<=n->(match v with | none=>((d:Nat):Int) | some i=>if (1:Int)>0 then max 0 (min (if i<0 then i+(n:Int) else i) (n:Int)) else max (-1) (min (if i<0 then i+(n:Int) else i) ((n:Int)-1)))=((HT.sIx n d v:Nat):Int):=by
  intro v d hd;cases v with
  | none=>rfl
  | some i =>
   simp only[HT.sIx,show (1:Int)>0 by decide,gW];by_cases h:i<0
   .simp only[h,gW]<;>omega
   .simp only[h,fJ]<;>omega
 have a:=c lo 0 (cE _);have b:=c g n (aR _);simp only[show (1:Int)>0 by decide,gW] at a b |-;rw[<- a,<- b];cases lo<;>cases g<;>rfl
def T7:V->Ab Int->Ab Int->Hp->VK->Prop:=λx lo a H Q=>∃ z:Af,x = .str z/\z.length<=sizeLine/\Q (.str (tP z lo a)) H
theorem Ua (p:IsPart v o):∃ l:Ab (Int×Tok),v=partValue l/\o=l.map (·.1):=by
 cases p with
 | none=>exact⟨none,rfl,rfl⟩
 | int i t=>exact⟨some (i,t),rfl,rfl⟩
theorem yC (z:Af):z.cps.toList.length=z.length:=by
 rw[eT];rfl
theorem W3 {a b:Af}(h:a.cps.toList=b.cps.toList):a=b:=by
 obtain⟨a⟩:=a;obtain⟨b⟩:=b
 congr
 exact Array.toList_inj.mp h
theorem Kl:uR X T7:=by
 intro c s K H x v E G lo B sl Q I A n w y h;obtain⟨z,rfl,D,q⟩:=h;obtain⟨t,rfl⟩:=A;obtain⟨l,rfl,rfl⟩:=Ua w;obtain⟨u,rfl,rfl⟩:=Ua y;refine⟨"str",_,PySem.F.slot_str_getitem.lookup,typeIs_str _ z t,?_⟩;refine wpAny_getItem_str_slice (l:=l) (u:=u) (st:=none) n rfl ?_;have e:slicePicked z l u none=(List.range (HT.sIx z.length z.length (u.map (·.1))-HT.sIx z.length 0 (l.map (·.1)))).map (HT.sIx z.length 0 (l.map (·.1))+·):=Yd _ _ _;have d:(⟨((slicePicked z l u none).filterMap (z.cps[·]?)).toArray⟩:Af)=tP z (l.map (·.1)) (u.map (·.1)):=by
  rw[e,pick_run];rfl
 have m:=HT.sIx_le z.length z.length (aR _) (u.map (·.1));have b:=HT.sIx_le z.length 0 (cE _) (l.map (·.1));unfold sliceMade;split
 .rename_i k
  have a:(slicePicked z l u none).length=z.length:=by
   have:=(cA _ _).mp k;exact eq_of_beq this.2
  have f:tP z (l.map (·.1)) (u.map (·.1))=z:=by
   rw[e,aA,bZ] at a;apply W3;show ((z.cps.toList.drop _).take _)=z.cps.toList;have i:HT.sIx z.length 0 (l.map (·.1))=0:=by omega
   rw[i] at a |-;rw[List.drop_zero,bJ];rw[yC];omega
  rw[f] at q;exact⟨.str z,H,I,⟨t,rfl⟩,q⟩
 .rw[d];refine⟨?_,.str _,H,I.tok _,⟨_,rfl⟩,q⟩;have:(tP z (l.map (·.1)) (u.map (·.1))).length<=z.length:=by
   show ((z.cps.toList.drop _).take _).toArray.size<=_;rw[aV,bO,cW,yC];omega
  omega
theorem X0:oH X (.type "dict") (λj H Q=>∃ (a:Ad) (g:Aa (hG×V)),j=[.ref a]/\Rd H a (.k g)/\∀ p,H p=none->Q (.ref p) (upd H p (.k g))):=by
 intro b s n H j m Q I r h;obtain⟨a,g,rfl,d,q⟩:=h;obtain⟨u,rfl,f⟩:=qJ r;cases f;exact DE I d λp i e c=>⟨.ref p,_,c,rfl,q p e⟩
theorem HK:oH X (.builtin "isinstance") (λj H Q=>∃ (x c:V) (t g:Ac) (b:Bool),j=[x,c]/\nF c g/\TyOf X.K H x t/\PySem.W.kitOne X.K t g=some b/\Q (.b b) H):=by
 intro k s A H j y Q I r h;obtain⟨x,c,t,g,b,rfl,d,ty,e,q⟩:=h;obtain⟨u,v,rfl,m,f⟩:=yS r;have:v=g:=by
  cases c with
  | ref a=>cases d;cases f;rfl
  | ty n=>cases d;cases f;rfl
  | e=>cases d;cases f;rfl
  | b b=>cases d;cases f;rfl
  | int i=>obtain⟨z,rfl⟩:=d;exact absurd e (by unfold PySem.W.kitOne PySem.W.kitCls;cases ty<;>simp)
  | str i=>obtain⟨z,rfl⟩:=d;exact absurd e (by unfold PySem.W.kitOne PySem.W.kitCls;cases ty<;>simp)
  | byt i=>obtain⟨z,rfl⟩:=d;exact absurd e (by unfold PySem.W.kitOne PySem.W.kitCls;cases ty<;>simp)
  | flt i=>obtain⟨z,rfl⟩:=d;exact absurd e (by unfold PySem.W.kitOne PySem.W.kitCls;cases ty<;>simp)
 subst this;exact Z5 I m ty e λw=>⟨.b b,H,I.tok _,rfl,q⟩
end
def vG (z:Af):It:=⟨λi _=>i<z.length,λi H x a=>a=H/\∃ c,z.cps[i]?=some c/\x = .str ⟨#[c]⟩,λi _=>z.length<=i⟩
theorem Sn {P:Ah}{K:mZ}(z:Af) (t:Tok) (it:Ad):Turn P w K tg (vG z) [it] it (λi h=>h.IsStrIter it "str_ascii_iterator" z t i) where
 mem:=by simp
 obj:=λi h st b hb=>by
  have e:b=it:=by simpa using hb
  subst e;obtain⟨o,e,c,d⟩:=st;exact⟨o,e,λv z=>by rw[d] at z;cases z⟩
 keep:=λi h h' st k=>by
  obtain⟨o,e,r⟩:=st;exact⟨o,k it (by simp) o e,r⟩
 item:=by
  intro X hP hw hK hc i pins s σ H E I hf st hg;subst hP hw hK;have hg:i<z.length:=hg;obtain⟨f0,f1,f2,f3,f4,f5⟩:=hf it (by simp);have hz:z.cps[i]?=some (z.cps[i]'hg):=cV hg;refine wpAny_pyNext_ascii_item st hz λh' st' sb=>?_
  have I1:Inv X pins σ H { s with heap:=h',toks:=s.toks+1 }:=I.turned (t':=s.toks+1) (λb o hb e=>(sb.2 b hb).trans e) f0 f1 f3 f4 f5;obtain⟨o,e,c,d⟩:=id st';exact⟨_,rfl,Cq (s:={ s with heap:=h',toks:=s.toks+1 }) e c d (by decide) ⟨.str ⟨#[z.cps[i]'hg]⟩,H,I1,⟨_,rfl⟩,⟨rfl,_,hz,rfl⟩,st',λb hb=>(hf b hb).1⟩⟩
 done:=by
  intro X hP hw hK hc i pins s σ H E I hf st hg;subst hP hw hK;have hg:z.length<=i:=hg;obtain⟨f0,f1,f2,f3,f4,f5⟩:=hf it (by simp);exact wpAny_pyNext_ascii_end (I.ok.hd hc) st (jD (by exact hg)) λh' eb=>⟨rfl,I.turned (t':=s.toks) (λb o hb e=>eb b o hb e) f0 f1 f3 f4 f5⟩
 self:=λ_ _ _ _ _ st h=>wpAny_pyIter_striter_ascii st h
section
variable {X:Cx}
def JX (g:TE):TI:=λb H R=>g b H λx a=>∃ z:Af,x = .str z/\z.cps.all (·<128)=true/\R (vG z) a
theorem Ya (g:PE X l j):PI X o l (JX j):=by
 intro a s k H R I h;refine nD (g a s k H _ I h) λv c f=>?_
 obtain⟨x,i,d,y,z,n,u,q⟩:=f;subst n;obtain⟨t,rfl⟩:=y;refine wpAny_pyIter_ascii u ?_;have m:Inv X a k i { c with heap:=c.heap.push { cls:=.type "str_ascii_iterator",data:=.fields #[.str z t,.int 0 0] } }:=d.kept (t':=c.toks) λb A q=>aL _ q
 refine⟨c.heap.objs.size,[c.heap.objs.size],_,vG z,i,rfl,m,Sn z t _,⟨_,bC _ rfl,rfl,rfl⟩,λb w=>?_,q⟩;have e:b=c.heap.objs.size:=by simpa using w
 subst e;exact d.fpOk (aR _) (d.hok.fresh (aR _))
end
def tT (g:Aa Af) (x:Af):Aa Af:=if x∈g then g else g++[x]
def pB (l:Aa Af):Aa Af:=l.foldl tT []
theorem J3 (l:Aa Af) (x:Af):pB (l++[x])=tT (pB l) x:=by unfold pB;rw[List.foldl_append];rfl
theorem BW (g:Aa Af) (x y:Af):y∈tT g x↔y∈g\/y=x:=by
 unfold tT;split
 .rename_i h
  constructor
  .exact .inl
  .rintro (q | q)
   .exact q
   .rw[q];exact h
 .simp[aQ]
theorem El (g:Aa Af) (x:Af):(tT g x).length=if x∈g then g.length else g.length+1:=by
 unfold tT;split<;>simp
theorem LN (l:Aa Af):∀ k,(pB (l.take k)).length<=k:=by
 intro k;induction k with
 | zero=>simp[pB]
 | succ k a =>
  rw[bP];cases e:l[k]? with
  | none=>simp;omega
  | some x =>
   simp only[Option.toList_some];rw[J3,El];split<;>omega
theorem BQ (r:Aa Af):∀ g,g.length<=(r.foldl tT g).length/\(r.foldl tT g).length<=g.length+r.length:=by
 induction r with
 | nil=>intro g;simp
 | cons x r a =>
  intro g;have h:=a (tT g x);rw[El] at h;simp only[lQ,bS];split at h<;>omega
theorem MB:∀ (r g:Aa Af),g.Nodup->(r.foldl tT g).length=g.length+r.length->(g++r).Nodup:=by
 intro r;induction r with
 | nil=>intro g h _;simpa using h
 | cons x r d =>
  intro g h e;simp only[lQ,bS] at e;have b:=BQ r (tT g x);rw[El] at b;by_cases a:x∈g
  .rw[aP a] at b;omega
  .have c:tT g x=g++[x]:=by unfold tT;rw[if_neg a]
   rw[c] at e;have:=d (g++[x]) (Vi h a) (by rw[e];simp;omega)
   simpa using this
theorem KD (h:(pB l).length=l.length):l.Nodup:=by
 have:=MB l [] gE (by simpa [pB] using h)
 simpa using this
theorem Q2 {P:Ah}{w:World}{h:Ag}{a:Ad}{S g:Af->Bool}{n j:Nat}(z:h.SetOf (PySem.strKind P w) a S n) (e:∀ k,S k=g k) (en:n=j):h.SetOf (PySem.strKind P w) a g j:=by
 have:S=g:=funext e;subst this en;exact z
section
variable {R:Result->Ae->Prop}{P:Nat->Ac->Prop}{St:Nat->Ae->Prop}
theorem Vo (W:WalksS g w A.in1 J I C G n P St) (a:Ad) (p:a∉I) (j:Aa Af) (aa:j.length=n) (hp:∀ i v,P i v->∃ x t,j[i]?=some x/\v = .str x t) (r:n+1<scanBound) :
  ∀ (k i:Nat) (s:Ae),n-i=k->i<=n->St i s->s.heap.SetOf (PySem.strKind g w) a (λx=>decide (x∈pB (j.take i))) (pB (j.take i)).length ->
   (∀ l,Moved (a::C) G s l->l.heap.SetOf (PySem.strKind g w) a (λx=>decide (x∈pB j)) (pB j).length->R (.ok (.ret .none)) l) ->
   codeAny (model g w) A (.builtin "set.update.loop" ⟨[.ref a,.ref J],[]⟩) R s:=by
 have h:a∉C:=λz=>p (W.sub _ z)
 have c:∀ b∈C,b∈a::C:=λb z=>aJ _ z
 intro k;induction k with
 | zero =>
  intro i s hk U st E L;have Z:i=n:=by omega
  subst Z;rw[bJ (by omega)] at E;refine iF jY ?_;rw[gF gS _];show wpAny _ A.in1 (pyNext (.ref J) >>= _) _ _ s;refine aB (W.done s _ _ st λl u=>?_);show wpAny _ A.in1 (ret Value.none) _ _ l;obtain⟨o,H,F,t,Q,rest⟩:=E;exact aD (L l (u.mono c) ⟨o,H,F,t,u.heap a _ h Q,rest⟩)
 | succ k ih =>
  intro i s hk U st E L;have q:i<n:=by omega
  refine iF jY ?_;rw[gF gS _];show wpAny _ A.in1 (pyNext (.ref J) >>= _) _ _ s;refine aB (W.item i s _ _ q st λv l hv V u=>?_);obtain⟨x,t,hx,rfl⟩:=hp i v hv;have M:l.heap.SetOf (PySem.strKind g w) a (λx=>decide (x∈pB (j.take i))) (pB (j.take i)).length:=by
   obtain⟨o,H,F,tb,Q,rest⟩:=E;exact⟨o,H,F,tb,u.heap a _ h Q,rest⟩
  show wpAny _ A.in1 (holding [Value.str x t] (setAdd a (.str x t)) >>= _) _ _ l;refine aB (bY ?_);unfold setAdd;refine bY ?_;have m:(PySem.strKind g w).is x (.str x t)=true:=by simp[PySem.strKind,Value.isStrOf]
  refine aB ((PySem.strKind g w).pyHash (k:=x) m ?_);have d:(pB (j.take i)).length+1<scanBound:=by have:=LN j i;omega
  refine wpAny_setAddHashed_of (knd:=strKind g w) (s:={ l with toks:=l.toks+1 }) m rfl M d λT Y N=>?_
  have X:j.take (i+1)=j.take i++[x]:=by rw[bP,hx];rfl
  have O:T.SetOf (PySem.strKind g w) a (λx=>decide (x∈pB (j.take (i+1)))) (pB (j.take (i+1))).length:=by
   refine Q2 N (λy=>?_) ?_
   .rw[X,J3];have:=BW (pB (j.take i)) x y;by_cases D:y∈pB (j.take i)<;>by_cases K:y=x<;>simp only[D,K,true_or,or_true,dP,false_or] at this<;>simp[this,D,K]
    all_goals (subst K;simp[this])
   .rw[X,J3,El];by_cases D:x∈pB (j.take i)<;>simp[D]
  refine aD ⟨lM gS _,ih (i+1) _ (by omega) q (W.frame _ l _ _ V (jB _) λb r o e=>?_) O λS B f=>?_⟩
  .rw[Y.2 b (λz:b=a=>p (by rw[<- z];exact r))];exact e
  .refine L S (Moved.trans W.gtrans ((u.mono c).then_heap (jB _) λb o r e=>?_) B) f;rw[Y.2 b (λz:b=a=>r (by rw[z];exact aE))];exact e
end
end L2
namespace PySem
open PyProof.Rows L2
section
theorem EC
  (fill:∀ g,wpAny (model j w) A.in1.in1 (Builtin.«set.__init__» ⟨[.ref s.heap.objs.size,x],[]⟩) (λf l=>f = .done (.ret .none)/\Q (.ref s.heap.objs.size) l) E { s with heap:=s.heap.push { cls:=.type "set",dict:=none,data:=.set #[] 0 (.fresh 0 0 g) } }) :
  wpAny (model j w) A (call (.type "set") [x]) Q E s:=by
 obtain⟨c,r,d⟩:=F.called_set.mro;refine wpAny_call (codeAny_of_tree (aD ⟨Code.quiet_builtin _ (by decide +kernel),iF F.entry_type_call ?_⟩));have b:=F.called_set;have body:wpAny (model j w) A.in1 (Builtin.«type.__call__» ⟨[.type "set",x],[]⟩) (λf l=>match f with | .done f=>wants Q E (.ok f) l | .again h=>h.quiet=true/\codeAny (model j w) A h (wants Q E) l) (λe l=>wants Q E (.error e) l) s:=by
  unfold Builtin.«type.__call__»;dsimp only;rw[b.notType];simp only[dU,fJ,b.canCreate];refine aB (jS (F.typeCall_set_1 x) (aB (jS d ?_)));rw[aI (show ¬ (c::r).isEmpty=true from bE)];refine aB (jS b.made (aB (aD (aB (bY (wpAny_call (code_set_new_1 x λg=>?_)))))));have a:Shared.TypeIs { s with heap:=s.heap.push { cls:=.type "set",dict:=none,data:=.set #[] 0 (.fresh 0 0 g) } } (.ref s.heap.objs.size) "set" := ⟨_,bC _ rfl,rfl⟩;refine aB (eF a b.sub ?_);rw[aI (show ¬ (!true)=true from bE)];refine aB (bY (bX a b.init (wpAny_call (codeAny_call_builtin b.init.plain F.entry_set_init (check_set_init_1 a ?_)))));refine cY (fill g) (λf l q=>?_) λ_ _ q=>q
  obtain⟨rfl,q⟩:=q;exact aD q
 exact body
theorem MP {S:Ad}(p:s.heap.IsList l C)
  (o:codeAny (model g w) A (.builtin "set.update.loop" ⟨[.ref S,.ref s.heap.objs.size],[]⟩) (λr j=>match r with | .ok (.ret _)=>Q () j | .ok _=>False | .error e=>E e j) { s with heap:=s.heap.push { cls:=.type "list_iterator",data:=.fields #[.ref l,.int 0 0] } }) :
  wpAny (model g w) A (Builtin.Frozenset.updateFrom "set.__init__" S (.ref l)) Q E s:=by
 have a:wpAny (model g w) A (Builtin.Frozenset.isAnySet (.ref l)) (λb j=>b=false/\j=s) E s :=
  aB (eF p.typeIs F.sub_list_set (eF p.typeIs F.sub_list_frozenset ⟨rfl,rfl⟩))
 refine aB (cY a (λb j q=>?_) λ_ _ q=>q);obtain⟨rfl,rfl⟩:=q;refine aB (gX p.typeIs (aB (iG p (aB (wpAny_runValue ?_)))));exact codeAny_mono o λr j q=>by
  match r,q with
  | .ok (.ret v),q=>exact aD q
  | .error e,q=>exact q
abbrev Cn (g:Bool):Obj:={ cls:=.type "set",dict:=none,data:=.set #[] 0 (.fresh 0 0 g) }
theorem IH {S:Ad}(o:s.heap.get? S=some (Cn g))
  (fill:wpAny (model j w) A (Builtin.Frozenset.updateFrom "set.__init__" S x) (λ_ l=>Q (.done (.ret .none)) l) E s) :
  wpAny (model j w) A (Builtin.«set.__init__» ⟨[.ref S,x],[]⟩) Q E s:=by
 unfold Builtin.«set.__init__»;generalize Builtin.Frozenset.updateFrom=up at fill |-
 wp_walk
 exact cY fill (λ_ _ q=>aD q) λ_ _ q=>q
theorem JQ (z:StrsAre g j):j.length=g.length:=by
 induction z with
 | nil=>rfl
 | cons _ _ _ a=>rw[bS,bS,a]
theorem GA (z:StrsAre g j):∀ {i:Nat}{v:Ac},g[i]?=some v->∃ x t,j[i]?=some x/\v = .str x t:=by
 induction z with
 | nil=>intro i v e;cases e
 | cons x t _ a =>
  intro i v e
  match i,e with
  | 0,e=>exact⟨x,t,rfl,(bR e).symm⟩
  | i+1,e=>exact a (i:=i) e
theorem Og {s g:Ae}(a:g.gens=s.gens) (b:g.drawn=s.drawn) (c:g.os=s.os):g={ s with heap:=g.heap,toks:=g.toks }:=by
 cases s;cases g;cases a;cases b;cases c;rfl
theorem AK (T:A.handled=none) (C:s.heap.IsList l items) (I:StrsAre items.toList p) (J:items.size+1<scanBound)
  (h:∀ (r:Ag) (U:Nat),r.SetOf (PySem.strKind j w) s.heap.objs.size (λx=>decide (x∈pB p)) (pB p).length->(∀ b o,b<s.heap.objs.size->s.heap.get? b=some o->r.get? b=some o) ->Q (.ref s.heap.objs.size) { s with heap:=r,toks:=U }):wpAny (model j w) A (call (.type "set") [.ref l]) Q E s:=by
 refine EC λg=>IH (bC _ rfl) (MP (C.push _) ?_)
 have two:(s.heap.push (Cn g)).objs.size=s.heap.objs.size+1:=eA ..;have lt:l<s.heap.objs.size:=by
  obtain⟨o,e,_⟩:=C;exact aT e
 have d:l≠(s.heap.push (Cn g)).objs.size:=by
  rw[two];exact bH (lE lt)
 have f:s.heap.objs.size∉[(s.heap.push (Cn g)).objs.size,l]:=λz=>by
  rw[two] at z;rcases aH.mp z with q | q
  .exact bH (mN _) q
  .exact fO lt (aM.mp q)
 have len:p.length=items.size:=by rw[JQ I,eT]
 have item:∀ (i:Nat) (v:Ac),items[i]?=some v->∃ x t,p[i]?=some x/\v = .str x t:=λi v e=>GA I (by rw[dH];exact e)
 have empty:((s.heap.push (Cn g)).push { cls:=.type "list_iterator",data:=.fields #[.ref l,.int 0 0] }).SetOf (PySem.strKind j w) s.heap.objs.size (λx=>decide (x∈pB (p.take 0))) (pB (p.take 0)).length :=
  Q2 ((setObjOf_fresh (knd:=PySem.strKind j w) g).setOf (aL _ (bC _ rfl)) (by unfold scanBound;omega)) (λ_=>by simp[pB]) (by simp[pB])
 refine Vo ((Walks.list (by simp[T]) _ l d items).toS) s.heap.objs.size f p len item J items.size 0 _ (by omega) (cE _) ⟨⟨_,bC _ rfl,rfl,rfl⟩,(C.push _).push _⟩ empty λa c fin=>?_
 have res:=h a.heap a.toks fin λb o k e=>c.heap b o (λz=>?_) (aL _ (aL _ e))
 .rw[show a={ s with heap:=a.heap,toks:=a.toks } from Og c.gens c.drawn c.os];exact⟨rfl,res⟩
 .rcases aH.mp z with q | q
  .exact bH k q
  .have q:=aM.mp q;rw[two] at q;exact bH (lE k) q
end
end PySem
namespace L2
open PySem PySem.Spec PyProof.Rows
section
variable {X:Cx}
def A8 (P:Ah) (w:World) (a:Ad) (n:Nat):HO:=.ext λh=>∃ S,h.SetOf (PySem.strKind P w) a S n
theorem Xd (l:X.calm=true):oH X (.type "set") (λj H Q=>∃ (p:Ad) (g:Aa Af),j=[.ref p]/\eH X.K H p (g.map V.str)/\g.length<=4000/\∀ a,H a=none->Q (.ref a) (upd H a (A8 X.prog X.w a (pB g).length))):=by
 intro f s M H j L Q I r h;obtain⟨p,g,rfl,x,G,q⟩:=h;obtain⟨u,rfl,B⟩:=qJ r;cases B;obtain⟨y,i,A,_⟩:=I.list x;have c:=i.length;rw[aA] at c;refine AK (I.ok.hd l) A.isList (by simpa using Lh i) (by rw[aV];unfold scanBound;omega) λv D d hk=>?_
 have hex:∃ o,v.get? s.heap.objs.size=some o:=by obtain⟨o,_,_,_,e,_⟩:=d;exact⟨o,e⟩
 refine⟨.ref s.heap.objs.size,_,I.laid (a:=s.heap.objs.size) (o:=A8 X.prog X.w s.heap.objs.size (pB g).length) (t':=D) (λb o e=>hk b o (aT e) e) (aR _) ?_,rfl,q _ I.fresh⟩;refine⟨⟨_,d⟩,hex,λE F ⟨S,z⟩ k=>⟨S,?_⟩⟩;obtain⟨o,n,m,t,e,rest⟩:=z;exact⟨o,n,m,t,k o e,rest⟩
theorem V4:oH X (.builtin "len") (λg H Q=>∃ (a:Ad) (n:Nat),g=[.ref a]/\H a=some (A8 X.prog X.w a n)/\Q (.int n) H):=by
 intro b s y H g x Q I r h;obtain⟨a,n,rfl,f,q⟩:=h;obtain⟨u,rfl,k⟩:=qJ r;cases k;obtain⟨⟨S,o,c,m,t,e,d,hd,_,_,v,i,rfl⟩,_⟩:=I.hok a _ f;refine call_len_set e d hd i ?_ ⟨.int c.size,H,I.tok _,⟨_,rfl⟩,q⟩;have:scanBound=4096:=rfl;omega
end
end L2
namespace PySem
open PyProof.Rows L2
theorem F2:entryFor table "dict.update.loop" = some Builtin.«dict.update.loop»:=entryFor_of_tree (by kernel_rfl)
theorem xN:plainId "dict.update.loop" = true:=by decide +kernel
theorem MR:typeLookup (.type "list") "keys" = pure none:=am_miss_of_fast (by decide +kernel)
section
theorem DN {sl:Array (Ab Ac)}
  (l:s.heap.get? a=some { cls:=.type "list",dict:=none,data:=.seq j n,slots:=sl }) (calm:A.handled=none) (o:∀ p r e,Heap.NewAttrErr s.heap p e (.ref a) "keys" -> E (.ref e) { s with heap:=p,toks:=r }) :
  wpAny (model g w) A (boundAndCalled (.builtin "list.__getattribute__") (.ref a) (.str "keys" u)) Q E s:=by
 have ask:wpAny (model g w) A (call (.builtin "list.__getattribute__") [.ref a,.str "keys" u]) Q E s :=
  kM kD ⟨_,l,rfl⟩ am_entry_list_getattribute (F.args_list_getattribute_2 _ _) (meets_getattribute_miss_list a j n sl "keys" u MR (by decide +kernel)) ⟨l,calm,o⟩
 unfold boundAndCalled;rw[kD.bind (.ref a)];exact aB (aD ask)
theorem GZ (t:s.TypeIs (.ref e) "AttributeError") (j:E (.ref e) s) :
  wpAny (model g w) A (getattributeRaised o name (.type "list") (.ref e) none false false) Q E s:=by
 have last:wpAny (model g w) A (hookOrError o name (.ref e) false false none) Q E s:=aB (wpAny_throw j);have a:hookBehind (.type "list") none=pure none:=am_list_getattr_none;unfold getattributeRaised;refine aB (eF t kN ?_);rw[aP rfl,a];exact aB (aD last)
theorem Ww {sl:Array (Ab Ac)}
  (l:s.heap.get? a=some { cls:=.type "list",dict:=none,data:=.seq I n,slots:=sl }) (calm:A.handled=none) (C:∀ j p e,Heap.NewExcOf s.heap j e "AttributeError" -> Q none { s with heap:=j,toks:=p }) :
  wpAny (model g w) A (getAttr? (.ref a) "keys") Q E s:=by
 have c:∀ j p e,Heap.NewAttrErr s.heap j e (.ref a) "keys" -> (∃ o,j.get? e=some o/\o.cls = .type "AttributeError")/\Q none { s with heap:=j,toks:=p }:=λj p e x=>by
  obtain⟨_,_,y⟩:=x.there;exact⟨⟨_,y,rfl⟩,C j p e x.of⟩
 let d:Ae:={ s with toks:=s.toks+1 };let b:Except Ac Ac->Ae->Prop:=λr i=>wpAny (model g w) A (match r with | .ok v=>pure (some v) | .error e=>do if <- isInstance e (.type "AttributeError") then pure none else throw e) Q E i
 have look:wpAny (model g w) A (getAttrBy (.ref a) (.str "keys" s.toks) false) (λv=>b (.ok v)) (λe=>b (.error e)) d:=by
  refine bY (aB (gX (T := "list") ⟨_,l,rfl⟩ (aB (jS kD.lookup ?_))));have own:wpAny (model g w) A (getAttrByItsOwn (.ref a) (.str "keys" s.toks) (.type "list") (.builtin "list.__getattribute__") false false) (λv=>b (.ok v)) (λe=>b (.error e)) d:=by
   refine aB (aD (aB (fA (bY (DN (s:=d) l calm λj p e x=>?_)))));obtain⟨⟨o,f,h⟩,q⟩:=c j p e x;exact GZ ⟨o,f,h⟩ (aB (eF (T := "AttributeError") ⟨o,f,h⟩ kN (aD q)))
  exact own
 exact aB (wpAny_mkText (aB (fA look)))
end
section
variable {R:Result->Ae->Prop}{P:Nat->Ac->Prop}{St:Nat->Ae->Prop}
theorem EY (W:WalksS j w A.in1 J fp l G n P St) (d:Ad) (I:d∉fp) (C:Ag) (M:Nat->Ag->Prop) (U:∀ i h p,(∀ b o,b∉l->h.get? b=some o->p.get? b=some o)->M i h->M i p)
  (hT:∀ i v,i<n->P i v->∃ (t:Ad) (o:Obj) (m:Nat) (r x:Ac),v = .ref t/\t∉d::l/\C.get? t=some o/\o.cls = .type "tuple" /\ o.data = .seq #[r,x] m /\ ∀ (s:Ae) (Q:Unit->Ae->Prop) (E:Ac->Ae->Prop),(∀ b o,b∉d::l->C.get? b=some o->s.heap.get? b=some o)->M i s.heap ->(∀ p c,M (i+1) p->Heap.SameBut d s.heap p->Q () { s with heap:=p,toks:=s.toks+c })->wpAny (model j w) A.in1 (dictSet d r x) Q E s) :
  ∀ (k i:Nat) (s:Ae),n-i=k->i<=n->St i s->(∀ b o,b∉d::l->C.get? b=some o->s.heap.get? b=some o)->M i s.heap ->
   (∀ g,Moved (d::l) G s g->M n g.heap->R (.ok (.ret .none)) g) ->
   codeAny (model j w) A (.builtin "dict.update.loop" ⟨[.ref d,.ref J,.int (i:Int) 0,.none],[]⟩) R s:=by
 have q:∀ b∈l,b∈d::l:=λb z=>aJ _ z
 intro k;induction k with
 | zero =>
  intro i s hk hi st f L K;have ei:i=n:=by omega
  subst ei;refine iF F2 ?_;rw[gF xN _];show wpAny _ A.in1 (pyNext (.ref J) >>= _) _ _ s;refine aB (W.done s _ _ st λg D=>?_);show wpAny _ A.in1 (Builtin.Dict.addKeywords d [] >>= _) _ _ g;exact aB (aD (aD (K g (D.mono q) (U _ _ _ D.heap L))))
 | succ k ih =>
  intro i s hk hi st f L K;have B:i<n:=by omega
  refine iF F2 ?_;rw[gF xN _];show wpAny _ A.in1 (pyNext (.ref J) >>= _) _ _ s;refine aB (W.item i s _ _ B st λv g hv Z D=>?_);obtain⟨t,o,m,r,x,rfl,ht,V,O,S,put⟩:=hT i v B hv;have a:∀ b o,b∉d::l->C.get? b=some o->g.heap.get? b=some o:=λb o u e=>D.heap b o (λz=>u (q _ z)) (f b o u e)
  have y:=a t o ht V;show wpAny _ A.in1 (holding [Value.ref t] _ >>= _) _ _ g;refine aB (bY ?_);refine aB (wpAny_tryCatch ?_);unfold Builtin.Dict.pairItems;refine aB (gX (T := "tuple") ⟨o,y,O⟩ ?_);rw[aP (by decide)];refine aB (gH y S ?_);refine aD ?_;show wpAny _ A.in1 (holding [r,x] (dictSet d r x)) _ _ g;refine bY (put g _ _ a (U _ _ _ D.heap L) λp c N Y=>?_);refine aD ⟨lM xN _,?_⟩;have e1:(rawInt ((i:Int)+1))=Value.int ((i+1:Nat):Int) 0:=by rfl
  rw[e1];refine ih (i+1) _ (by omega) B (W.frame _ g _ _ Z (eG _ _) λb u o e=>?_) (λb o u e=>?_) N λX H F=>?_
  .rw[Y.2 b (λz:b=d=>I (by rw[<- z];exact u))];exact e
  .rw[Y.2 b (λz:b=d=>u (by rw[z];exact aE))];exact a b o u e
  .refine K X (Moved.trans W.gtrans ((D.mono q).then_heap (eG _ _) λb o u e=>?_) H) F;rw[Y.2 b (λz:b=d=>u (by rw[z];exact aE))];exact e
end
section
variable {K:Type} [DecidableEq K] {knd:KeyKind prog w K}{A:Around}
abbrev K2 (l:Ad):Obj:={ cls:=.type "list_iterator",data:=.fields #[.ref l,.int 0 0] }
abbrev Yn (g:Array Ac) (n:Nat) (sl:Array (Ab Ac)):Obj:={ cls:=.type "list",dict:=none,data:=.seq g n,slots:=sl }
theorem AZ {sl:Array (Ab Ac)}(t:s.TypeIs (.ref d) "dict") (j:s.heap.get? l=some (Yn r n sl)) (calm:A.handled=none)
  (C:∀ g o e,Heap.NewExcOf s.heap g e "AttributeError" -> Q (.again (.builtin "dict.update.loop" ⟨[.ref d,.ref g.objs.size,.int 0 0,.none],[]⟩)) { s with heap:=g.push (K2 l),toks:=o }) :
  wpAny (model prog w) A (Builtin.«dict.__init__» ⟨[.ref d,.ref l],[]⟩) Q E s:=by
 have first:wpAny (model prog w) A (Builtin.Dict.selfAndRest "__init__" ⟨[.ref d,.ref l],[]⟩) (λp b=>p=(d,[Value.ref l])/\b=s) E s:=aB (jM t (aD ⟨rfl,rfl⟩))
 have a:wpAny (model prog w) A (Builtin.Dict.updateFrom "dict.__init__" d (.ref l) [] .none) Q E s:=by
  refine aB (gX (T := "list") ⟨_,j,rfl⟩ ?_);rw[aP (by decide)];refine aB (Ww j calm λg o e x=>?_);exact aB (gP (aB (iG ⟨_,x.keeps _ _ j,rfl,n,rfl⟩ (aD (C g o e x)))))
 exact aB (cY first (λp b q=>by obtain⟨rfl,rfl⟩:=q;exact a) λ_ _ q=>q)
def zH (s:Ae):Ae:={ s with heap:=s.heap.push { cls:=.type "dict",data:=.dict #[] } }
theorem Se (M:Nat->Ag->Prop) (I:A.handled=none) (C:s.heap.get? l=some o) (hc:o.cls = .type "list") (hd:o.dict=none) (r:o.data = .seq items nl)
  (m0:∀ h:Ag,h.get? s.heap.objs.size=some { cls:=.type "dict",data:=.dict #[] }->M 0 h) (T:∀ i h g,(∀ b o,b<=s.heap.objs.size->h.get? b=some o->g.get? b=some o)->M i h->M i g)
  (U:∀ (i:Nat) v,items[i]?=some v->∃ (t:Ad) (o:Obj) (m:Nat) (p x:Ac),v = .ref t/\s.heap.get? t=some o/\o.cls = .type "tuple" /\ o.data = .seq #[p,x] m /\ ∀ (B:Around) (j:Ae) (Q:Unit->Ae->Prop) (E:Ac->Ae->Prop),(A.units+2<cLine->B.units<cLine)->(∀ b o,s.heap.get? b=some o->j.heap.get? b=some o)->M i j.heap ->(∀ g c,M (i+1) g->Heap.SameBut s.heap.objs.size j.heap g->Q () { j with heap:=g,toks:=j.toks+c })->wpAny (model prog w) B (dictSet s.heap.objs.size p x) Q E j)
  (h:∀ (g:Ag) (J:Nat),M items.size g->(∀ b o,s.heap.get? b=some o->g.get? b=some o)->Q (.ref s.heap.objs.size) { s with heap:=g,toks:=J }) :
  wpAny (model prog w) A (call (.type "dict") [.ref l]) Q E s:=by
 obtain⟨oc,od,Z,aa⟩:=o;cases hc;cases hd;cases r;let D:=s.heap.objs.size;have O:(zH s).heap.get? D=some { cls:=.type "dict",data:=.dict #[] }:=bC _ rfl;have ty:(zH s).TypeIs (.ref D) "dict" := ⟨_,O,rfl⟩;have old:∀ b o,s.heap.get? b=some o->(zH s).heap.get? b=some o:=λb o e=>aL _ e
 refine callType_codes F.kt_called_dict (F.kt_typeCall_dict_1 _) F.entry_dict_init (kt_code_dict_new _ (Q₁:=λv N=>v = .ref D/\N=zH s) ⟨rfl,rfl⟩) λv N q=>?_
 obtain⟨rfl,rfl⟩:=q;refine⟨ty,F.args_dict_init_2 _ _,AZ ty (old _ _ C) (by simp[I]) λu J e x=>⟨lM xN _,?_⟩⟩;have d:D<u.objs.size:=aT (x.keeps _ _ O);have H:l<D:=aT C;have keeps:∀ b o,s.heap.get? b=some o->(u.push (K2 l)).get? b=some o:=λb o e=>aL _ (x.keeps _ _ (old b o e))
 have a:∀ {b:Ad},b<D->b∉[D,u.objs.size]:=λ{b} G z=>by
  rcases aH.mp z with q | q
  .exact bH G q
  .exact bH (Nat.lt_trans G d) (aM.mp q)
 have n:D∉[u.objs.size,l]:=λz=>by
  rcases aH.mp z with q | q
  .exact bH d q
  .exact fO H (aM.mp q)
 have f:(u.push (K2 l)).IsList l items:=⟨_,keeps _ _ C,rfl,nl,rfl⟩;refine EY ((Walks.list (by simp[I]) u.objs.size l (bH (Nat.lt_trans H d)) items).toS) D n s.heap M (λi h g k m=>T i h g (λb o V e=>k b o (λz=>bH (bG V d) (aM.mp z)) e) m) (λi v _ X=>?_) items.size 0 _ (by omega) (cE _) ⟨⟨_,bC _ rfl,rfl,rfl⟩,f⟩ (λb o _ e=>keeps b o e) (m0 _ (aL _ (x.keeps _ _ O))) λj L fin=>?_
 .obtain⟨t,ot,m,p,y,rfl,P,r1,r2,put⟩:=U i v X;exact⟨t,ot,m,p,y,rfl,a (aT P),P,r1,r2,λN S R Y=>put _ N S R (λW=>by simpa using W) λb o e=>Y b o (a (aT e)) e⟩
 .have res:=h j.heap j.toks fin λb o e=>L.heap b o (a (aT e)) (keeps b o e)
  rw[show j={ s with heap:=j.heap,toks:=j.toks } from Og L.gens L.drawn L.os];exact⟨rfl,res⟩
theorem AY (J:A.handled=none) (T:s.heap.get? l=some o) (I:o.cls = .type "list") (hd:o.dict=none) (p:o.data = .seq items nl)
  (hn:more.length=items.size)
  (C:∀ (i:Nat) v,items[i]?=some v->∃ (t:Ad) (o:Obj) (m:Nat) (k:K) (j x:Ac),v = .ref t/\s.heap.get? t=some o/\o.cls = .type "tuple" /\ o.data = .seq #[j,x] m/\knd.is k j=true/\more[i]?=some (k,x)) (U:items.size<=sizeLine)
  (h:∀ (g:Ag) (r:Nat),g.DictOf knd s.heap.objs.size (merged [] more)->(∀ b o,s.heap.get? b=some o->g.get? b=some o)->Q (.ref s.heap.objs.size) { s with heap:=g,toks:=r }) :
  wpAny (model prog w) A (call (.type "dict") [.ref l]) Q E s:=by
 refine Se (λi g=>g.DictOf knd s.heap.objs.size (merged [] (more.take i))) J T I hd p (λn e=>?_) (λi n y k m=>?_) (λi v H=>?_) λg r m=>h g r (by rw[bJ (by omega)] at m;exact m)
 .obtain⟨z,f,d,u,rest⟩:=Heap.DictOf.new (knd:=knd) s.heap;cases u.symm.trans (bC _ rfl);exact⟨_,f,d,e,rest⟩
 .obtain⟨z,f,d,u,rest⟩:=m;exact⟨z,f,d,k _ _ (aR _) u,rest⟩
 .obtain⟨t,M,m,L,j,x,rfl,n,y,F,c,a⟩:=C i v H;refine⟨t,M,m,j,x,rfl,n,y,F,λB O Q E _ _ G k=>wpAny_dictSet_pairs (hsz:=?_) c G λg q N=>k g 1 (by rw[merged_take_succ [] more i (L,x) a];exact q) N⟩;have D:=merged_length_le ([]:Aa (K×Ac)) (more.take i);rw[jJ,bO] at D;omega
end
end PySem
namespace L2
open PySem PySem.Spec PyProof.Rows
section
variable {X:Cx}
def C8 (H:Hp) (j:Aa Ad) (g:Aa (hG×V)):Prop:=Paired (λt (a:hG×V)=>H t=some (.t [kV a.1,a.2])) j g
theorem Yk {P:Ah}(p:oO P w H h):∀ {l:Aa Ad}{g:Aa (hG×V)},C8 H l g->∃ more:Aa (hG×Ac),KV g more /\
  ∀ (i:Nat) t,l[i]?=some t->∃ (o:Obj) (m:Nat) (k:hG) (j x:Ac),h.get? t=some o/\o.cls = .type "tuple" /\ o.data = .seq #[j,x] m/\(oB P w).is k j=true/\more[i]?=some (k,x):=by
 intro l g r;unfold C8 at r;induction r with
 | nil=>exact⟨[],.nil,λi t e=>by simp at e⟩
 | @cons t j l g d G u =>
  obtain⟨more,B,q⟩:=u;obtain⟨z,v,a,⟨o,s,f,n,b⟩,_⟩:=p t _ d;cases a with
  | @cons _ E _ K y a =>
   cases a with
   | @cons _ c _ F A a =>
    cases a;refine⟨(j.1,c)::more,.cons ⟨rfl,A⟩ B,λi D e=>?_⟩;cases i with
    | zero =>
     simp at e;subst e;exact⟨o,n,j.1,E,c,s,f,b,yG y,rfl⟩
    | succ i=>simpa using q i D (by simpa using e)
theorem MN (l:X.calm=true):oH X (.type "dict") (λC H Q=>∃ (p:Ad) (j:Aa Ad) (g:Aa (hG×V)),C=[.ref p]/\eH X.K H p (j.map V.ref)/\C8 H j g/\g.length<=1000/\∀ d,H d=none->Q (.ref d) (upd H d (.k (rF [] g)))):=by
 intro E s σ H C us Q I r h;obtain⟨p,j,g,rfl,T,D,hz,q⟩:=h;obtain⟨u,rfl,B⟩:=qJ r;cases B;obtain⟨c,F,⟨o,n,e,L,M,N⟩,_⟩:=I.list T;have f:=F.length;rw[aA] at f;have Y:j.length=g.length:=D.length;obtain⟨more,G,Z⟩:=Yk I.hok D;have J:=G.length;have b:∀ (i:Nat) v,c[i]?=some v->∃ t,j[i]?=some t/\v = .ref t:=by
  intro i v y;have hi:i<c.length:=(aG.mp y).1;have:i<j.length:=by omega
  obtain⟨u,hu,B⟩:=F.get (i:=i) (x:=V.ref j[i]) (by simp[this]);rw[hu] at y;cases y;cases B;exact⟨j[i],by simp[this],rfl⟩
 refine AY (knd:=oB X.prog X.w) (more:=more) (I.ok.hd l) e L M N (by rw[aV];omega) ?_ (by rw[aV];exact dX (bG (show c.length<=1000 by omega) (by decide))) λh' tk W hk=>?_
 .intro i v y;obtain⟨t,U,rfl⟩:=b i v (by simpa using y);obtain⟨o,m,k,kv,x,z,O,P,R,S⟩:=Z i t U;exact⟨t,o,m,k,kv,x,rfl,z,O,P,R,S⟩
 .have A:(rF [] g).length<=sizeLine:=by
   have z:=Fy g [];rw[jJ] at z;exact dX (bG (show (rF [] g).length<=1000 by omega) (by decide))
  refine⟨.ref s.heap.objs.size,_,I.laid (a:=s.heap.objs.size) (o:=.k (rF [] g)) (t':=tk) hk (aR _) ?_,rfl,q _ I.fresh⟩;exact Dl A (cQ.mpr (eV (bH I.big))) (G.merge .nil) W
end
noncomputable def Iu (o:Ab Af) (N:Aa Af) (kind:Af->Ab NameKind) (g:Scope) (T j:Aa Af) (l:Aa Nat):Bool :=
 decide (g.names.filter (λp=>p.2 == .cell)=o.toList.map λn=>(n,NameKind.cell))&&o.all (λa=>g.names.lookup a == some .cell)&&g.names.all (λp=>p.2 != .free||kind p.1 == some .cell) &&
 g.names.all (λp=>p.2 != .local||g.names.lookup p.1 == some .local) &&
 (j.zip l).all (λp=>decide (N[p.2]?=some p.1)&&g.names.lookup p.1 == some .free)&&j.length == l.length
abbrev Bq:=Iu none
noncomputable def rP (T:Aa Af) (g:Aa Nat) (j:St):St:=T.map (λ_=>none)++g.map (λi=>(j[i]?).join)
noncomputable def rN (X:Cx) (o:Aa Af) (g:Scope) (cl:Aa (Af×Ad)) (C:Ad) (l:Ae) (j:Hp) (p:Aa Ad):Cx :=
 { prog:=X.prog,w:=X.w,K:=X.K,mg:=X.mg,base:=X.base,A:=X.A,N:=o,s₀:=l,H₀:=j,env:=compEnvC g cl C X.env,outer:=X.stack,stack:=X.stack,ex:=p, fn:=λx=>(cl.lookup x).isNone,calm:=X.calm,pn:=[],xe:=λ_ _=>False }
def uY (X:Cx) (g:Aa Expr) (t:TT):Prop :=
 ∀ (a:Aa (Ad×Obj)) (s:Ae) (b:St) (H:Hp) (Q:Bool->Hp->Prop),Inv X a b H s->t b H Q ->
  wpAny (model X.prog X.w) X.A (forIn g true λc r=>if r=true then do let ok <- isTrue c X.env (eval c X.env);pure (ForInStep.yield ok) else pure (ForInStep.yield r)) (TP X a b Q) X.xe s
def Fw:TT:=λ_ H Q=>Q true H
theorem G2 {X:Cx}:uY X [] Fw:=λa s b H Q I h=>wpAny_tests_nil ⟨H,I,h⟩
theorem Mm {X:Cx}(h:PT X c t):uY X [c] t:=λa s b H Q I hw=>wpAny_tests_one (h a s b H Q I hw)
def A4 (T:Aa Af) (j:Aa Nat) (J:It) (g:TG) (r:TT) (p:TE) (C:St) (o:Hp) (Q:VK) (D:Ad):Prop :=
 ∃ W:Nat->Nat->Aa V->St->Hp->Prop,(∃ m,W 0 m [] (rP T j C) (upd o D (.l [])))/\∀ i m c h d,W i m c h d ->
  (J.stop i d/\Q (.ref D) d)\/(J.go i d/\∃ (N:St->V->Hp->Prop) (F:St->Hp->Prop),(∀ a v k,N a v k->k D=some (.l c)/\c.length<sizeLine/\∃ f,f<m/\W (i+1) f (c++[v]) a (upd k D (.l (c++[v]))))/\(∀ a e,F a e->∃ f,f<m/\W (i+1) f c a e) /\ ∀ x n,J.yld i d x n->g x h n λa q=>r a q λb e=>if b=true then p a e (N a) else F a e)
def Cf (T:Aa Af) (j:Aa Nat) (p:TI) (g:TG) (o:TT) (l:TE):TE:=λb H Q=>p b H λJ a=>∀ D,a D=none->A4 T j J g o l b a Q D
theorem Kx:∀ (names:Aa (Af×NameKind)) (g:Aa (Af×Ad)),(∀ p∈names,p.2 = .free->∃ c,env.cells.lookup p.1=some c) ->
  (∀ x c,g.lookup x=some c->env.cells.lookup x=some c) ->
  ∃ cl,(forIn names g λx r=>if (x.2 == NameKind.free)=true then (cellOf env x.1 >>= λa=>pure (ForInStep.yield ((x.1,a)::r))) else pure (ForInStep.yield r):Sem (Aa (Af×Ad)))=pure cl /\
   (∀ x c,cl.lookup x=some c->env.cells.lookup x=some c)/\(∀ x,(x,NameKind.free)∈names->(cl.lookup x).isSome=true)/\(∀ x,(g.lookup x).isSome=true->(cl.lookup x).isSome=true)
 | [],g,_,i=>⟨g,rfl,i,λx h=>by simp at h,λ_ h=>h⟩
 | (n,k)::r,g,v,i=>by
  by_cases hk:k = .free
  .subst hk;obtain⟨c,y⟩:=v (n,.free) aE rfl;have u:∀ x d,((n,c)::g).lookup x=some d->env.cells.lookup x=some d:=by
    intro x d h;rw[dQ] at h;cases e:x == n with
    | true=>rw[e] at h;have:=kK.mp e;subst this;cases h;exact y
    | false=>rw[e] at h;exact i x d h
   obtain⟨cl,m,s,t,f⟩:=Kx r ((n,c)::g) (λp w=>v p (aJ _ w)) u;have z:(((n,c)::g).lookup n).isSome=true:=by rw[dQ];simp
   refine⟨cl,?_,s,λx b=>?_,λx b=>f x ?_⟩
   .rw[lR];simp only[lJ,gW];have:cellOf env n=pure c:=by unfold cellOf;rw[y]
    rw[this];exact m
   .rcases aH.mp b with q | q
    .cases q;exact f _ z
    .exact t x q
   .rw[dQ];cases e:x == n with
    | true=>rfl
    | false=>exact b
  .obtain⟨cl,m,s,t,f⟩:=Kx r g (λp w=>v p (aJ _ w)) i;refine⟨cl,?_,s,λx b=>?_,f⟩
   .rw[lR];have:(k == NameKind.free)=false:=by simpa using hk
    simp only[this,dU,fJ];exact m
   .rcases aH.mp b with q | q
    .cases q;exact absurd rfl hk
    .exact t x q
theorem CH (l:∀ p∈g.names,p.2 = .free->∃ c,j.cells.lookup p.1=some c) :
  ∃ cl,closureFor g j=pure cl/\(∀ x c,cl.lookup x=some c->j.cells.lookup x=some c)/\(∀ x,(x,NameKind.free)∈g.names->(cl.lookup x).isSome=true):=by
 obtain⟨cl,e,d,f,_⟩:=Kx (env:=j) g.names [] l (λx c h=>by simp at h);refine⟨cl,?_,d,f⟩;simp only[closureFor];have b:(forIn g.names [] λx r=>if (x.2 == NameKind.free)=true then (cellOf j x.1 >>= λa=>pure (ForInStep.yield ((x.1,a)::r))) else pure (ForInStep.yield r):Sem (Aa (Af×Ad)))=pure cl:=e
 first
  | exact b
  | (simp only[bind_pure];exact b)
theorem HM (h:g.names.lookup x=some k):∃ j,(relabel g env).names.lookup x=some j/\(j=k\/(k = .free/\j = .cell)):=by
 have:∀ names:Aa (Af×NameKind),names.lookup x=some k->∃ j,(names.map λ(p:Af×NameKind)=>match p with | (n,k)=>if (k == NameKind.free&&env.scope.kind == .function&&env.kindOf n == some .cell) then (n,NameKind.cell) else (n,k)).lookup x=some j/\(j=k\/(k = .free/\j = .cell)):=by
  intro names;induction names with
  | nil=>intro h;simp at h
  | cons p r b =>
   obtain⟨n,c⟩:=p;intro h;rw[aO];by_cases a:(c == NameKind.free&&env.scope.kind == .function&&env.kindOf n == some .cell)=true
   .simp only[a,gW];rw[dQ] at h |-;cases e:x == n with
    | true =>
     rw[e] at h;cases h;have:k=NameKind.free:=by
      have:=(cA _ _).mp ((cA _ _).mp a).1;exact kK.mp this.1
     exact⟨_,rfl,.inr ⟨this,rfl⟩⟩
    | false=>rw[e] at h;exact b h
   .simp only[a,fJ];rw[aI (by simp)];rw[dQ] at h |-;cases e:x == n with
    | true=>rw[e] at h;cases h;exact⟨_,rfl,.inl rfl⟩
    | false=>rw[e] at h;exact b h
 exact this g.names h
theorem KW {R:Result->Ae->Prop}{iter:Expr}(I:Nat->Ae->Prop)
  (ae:∀ n s,I n s->wpAny (model g w) A (pyNext it) (λr l=>match r with
   | none=>R (.ok .next) l
   | some v=>wpAny (model g w) A (letOwnedTupleGo target it v) (λ_ o=>wpAny (model g w) A (assign target j v) (λ_ C =>
     wpAny (model g w) A (forIn ac true λc r=>if r=true then do let ok <- isTrue c j (eval c j);pure (ForInStep.yield ok) else pure (ForInStep.yield r)) (λok p =>if ok=true then wpAny (model g w) A (eval ab j) (λx J =>wpAny (model g w) A (call (.builtin "list.append") [aa,x]) (λ_ T=>∃ m,m<n/\I m T) (λ_ _=>False) J) (λ_ _=>False) p else ∃ m,m<n/\I m p) (λ_ _=>False) C) (λ_ _=>False) o) (λ_ _=>False) l) (λ_ _=>False) s)
  (n:Nat) (h:I n s) :
  codeAny (model g w) A (.compLoop (.ListComp ab [⟨target,iter,ac,0⟩] U pos) 0 it aa j) R s:=by
 refine codeAny_loop rfl I (λn s q=>?_) n h;show wpAny _ A ((compTurn (.ListComp ab [⟨target,iter,ac,0⟩] U pos) 0 it aa j).onRaise (λx=>do noteFrame x j;theTreesLotGoes x)) _ _ s;refine wpAny_noted ?_;rw[compTurn_list];refine aB (mJ (aB (cY (ae n s q) (λr l b=>?_) λ_ _ a=>a.elim)));cases r with
 | none=>exact aD b
 | some v =>
  refine aB (cY b (λ_ o e=>?_) λ_ _ a=>a.elim);refine aB (cY e (λ_ C f=>aB (cY f (λok p d=>?_) λ_ _ a=>a.elim)) λ_ _ a=>a.elim);cases ok with
  | false=>exact aD ⟨rfl,d⟩
  | true =>
   exact aB (aB (cY d (λx J i=>aB (cY i (λ_ T k=>aD (aD ⟨rfl,k⟩)) λ_ _ a=>a.elim)) λ_ _ a=>a.elim))
structure LcO (nw:Option Str) (N:List Str) (kind:Str->Option NameKind) (scope:Scope) (capN:List Str) (caps:List Nat):Prop where
 one:scope.names.filter (λp=>p.2 == .cell)=nw.toList.map λn=>(n,NameKind.cell)
 cel:∀ nm,nw=some nm->scope.names.lookup nm=some .cell
 free:∀ p∈scope.names,p.2 = .free->kind p.1=some .cell
 loc:∀ p∈scope.names,p.2 = .local->scope.names.lookup p.1=some .local
 cap:∀ (j:Nat) (x:Str),capN[j]?=some x->∃ i:Nat,caps[j]?=some i/\N[i]?=some x/\scope.names.lookup x=some .free
 len:capN.length=caps.length
theorem L6 (h:Iu r N kind o T l g=true):LcO r N kind o l g:=by
 unfold Iu at h;simp only[cA] at h;obtain⟨⟨⟨⟨⟨d,c⟩,f⟩,k⟩,m⟩,n⟩:=h;have q:l.length=g.length:=kK.mp n;refine⟨eU d,λu e=>?_,λp a e=>?_,λp a e=>?_,λj x e=>?_,q⟩
 .rw[e] at c;exact kK.mp c
 .have:=gB.mp f p a;rw[e] at this
  simpa using this
 .have:=gB.mp k p a;rw[e] at this
  simpa using this
 .have t:j<l.length:=(aG.mp e).1;have b:g[j]?=some (g[j]'(by omega)):=aF (by omega);have s:(x,g[j]'(by omega))∈l.zip g:=aK (i:=j) (by rw[fY];exact⟨e,b⟩);have:=gB.mp m _ s;simp only[cA,decide_eq_true_eq,kK] at this;exact⟨_,b,this.1,this.2⟩
theorem LcO.only (h:LcO o N kind g j l) (x:Af) (e:g.names.lookup x=some .cell):o=some x:=by
 have a:(x,NameKind.cell)∈g.names.filter (λp=>p.2 == .cell):=bW.mpr ⟨eJ e,rfl⟩;rw[h.one] at a;cases o with
 | none=>cases a
 | some n=>rw[(Prod.mk.inj (aM.mp a)).1]
theorem Nf:∀ {g:Scope},(relabel g j).names.lookup x=some k->(k = .cell\/k = .free)->g.names.lookup x=some .cell\/g.names.lookup x=some .free:=by
 intro g;unfold relabel;have all:∀ names:Aa (Af×NameKind),(names.map λ(n,k)=>if (k == NameKind.free&&j.scope.kind == .function&&j.kindOf n == some .cell) then (n,NameKind.cell) else (n,k)).lookup x=some k->(k = .cell\/k = .free)->names.lookup x=some .cell\/names.lookup x=some .free:=by
  intro names;induction names with
  | nil=>intro h _;simp at h
  | cons p r c =>
   intro h hk;obtain⟨n,d⟩:=p;rw[aO] at h;rw[dQ];cases b:x == n with
   | true =>
    by_cases a:(d == NameKind.free&&j.scope.kind == .function&&j.kindOf n == some .cell)=true
    .simp only[cA,kK] at a;exact .inr (by rw[a.1.1])
    .simp only[a,dU,fJ,dQ,b] at h;cases h;rcases hk with q | q
     .exact .inl (by rw[q])
     .exact .inr (by rw[q])
   | false =>
    by_cases a:(d == NameKind.free&&j.scope.kind == .function&&j.kindOf n == some .cell)=true
    .simp only[a,gW,dQ,b] at h;exact c h hk
    .simp only[a,dU,fJ,dQ,b] at h;exact c h hk
 exact all g.names
theorem Ie:∀ (names:Aa (Af×NameKind)) (n:Nat) (g:Aa (Af×Ad)) (h:Ag),names.filter (λp=>p.2 == .cell)=[]->cellsFrom n names g=g/\pushCells h names=h
 | [],_,_,_,_=>⟨rfl,rfl⟩
 | (y,k)::r,n,g,h,e=>by
  unfold cellsFrom pushCells;by_cases hk:(k == NameKind.cell)=true
  .rw[fH (by exact hk)] at e;cases e
  .rw[gL (by exact hk)] at e;rw[aI hk,aI hk];exact Ie r n g h e
theorem N7:∀ (names:Aa (Af×NameKind)) (n:Nat) (g:Aa (Af×Ad)) (h:Ag),names.filter (λp=>p.2 == .cell)=[(j,.cell)]->cellsFrom n names g=(j,n)::g/\pushCells h names=h.push { cls:=.type "cell",data:=.cell none }
 | [],_,_,_,e=>by cases e
 | (y,k)::r,n,g,h,e=>by
  unfold cellsFrom pushCells;by_cases hk:(k == NameKind.cell)=true
  .rw[fH (by exact hk)] at e;have a:=(List.cons.inj e).1;have b:=(List.cons.inj e).2;rw[aP hk,aP hk];have:=Ie r (n+1) ((y,n)::g) (h.push { cls:=.type "cell",data:=.cell none }) b;rw[this.1,this.2,(Prod.mk.inj a).1];exact⟨rfl,rfl⟩
  .rw[gL (by exact hk)] at e;rw[aI hk,aI hk];exact N7 r n g h e
def zA (g:Ab Af) (C:Ad):Aa (Af×Ad):=match g with
 | none=>[]
 | some a=>[(a,C+1)]
theorem X7 {globals:Ad}{cl:Aa (Af×Ad)}(one:g.names.filter (λp=>p.2 == .cell)=J.toList.map λn=>(n,NameKind.cell))
  (h:∀ j,j.Ns s.heap.objs.size (λ_=>none)->(∀ I,J=some I->j.IsCell (s.heap.objs.size+1) none)->(∀ b o,s.heap.get? b=some o->j.get? b=some o) ->Q { scope:=g,locals:=s.heap.objs.size,globals:=globals,cells:=zA J s.heap.objs.size++cl,qual:=r,func:=none,code:=l.code,frame:=l.frame,builtins:=l.builtins } { s with heap:=j }) :
  wpAny M A (newFunctionEnv g globals cl [] r none .none (some l)) Q E s:=by
 simp only[newFunctionEnv,lX,gW];refine aB (wpAny_alloc ?_);refine aB (wpAny_layCells _ (λname kind C=>by cases i:kind == NameKind.cell<;>simp[i]) _ _ _ _ ?_);have z:(s.heap.push { cls:=.type "dict",data:=.dict #[] }).objs.size=s.heap.objs.size+1:=eA ..;have a:=Heap.Ns.new s.heap (.type "dict");show wpAny M A _ Q E _;cases J with
 | none =>
  obtain⟨c,f⟩:=Ie g.names (s.heap.push { cls:=.type "dict",data:=.dict #[] }).objs.size cl (s.heap.push { cls:=.type "dict",data:=.dict #[] }) one;rw[c,f];exact aB (aD (aD (h _ a (λ_ e=>nomatch e) λb o e=>aL _ e)))
 | some I =>
  obtain⟨c,f⟩:=N7 g.names (s.heap.push { cls:=.type "dict",data:=.dict #[] }).objs.size cl (s.heap.push { cls:=.type "dict",data:=.dict #[] }) one;have d:cellsFrom ({ s with heap:=s.heap.push { cls:=.type "dict",data:=.dict #[] } }:Ae).heap.objs.size g.names cl=(I,s.heap.objs.size+1)::cl:=by rw[<- z];exact c
  rw[d,f];refine aB (aD (aD (h _ (a.keeps λb o e=>aL _ e) (λ_ _=>?_) λb o e=>aL _ (aL _ e))));exact⟨_,by rw[<- z];exact bC _ rfl,rfl⟩
noncomputable def GS (g:Ab Af) (cl:Aa (Af×Ad)):Af->Bool:=match g with
 | none=>λx=>(cl.lookup x).isNone
 | some a=>λx=>x == a||(cl.lookup x).isNone
def uZ (o:Ab Af) (X:Cx) (p:Aa Af) (g:Scope) (cl:Aa (Af×Ad)) (C:Ad) (l:Ae) (j:Hp) (r:Aa Ad):Cx :=
 { prog:=X.prog,w:=X.w,K:=X.K,mg:=X.mg,base:=X.base,A:=X.A,N:=p,s₀:=l,H₀:=j,env:=compEnvC g (zA o C++cl) C X.env,outer:=X.stack,stack:=X.stack,ex:=r, fn:=GS o cl,calm:=X.calm,pn:=[],xe:=λ_ _=>False }
section
variable {X:Cx}
theorem Inv.moved {t':Nat}{fp:Aa Ad}(I:Inv X g p H s) (j:∀ b∈fp,tH X g H b) (k:∀ b o,b∉fp->s.heap.get? b=some o->l.get? b=some o):Inv X g p H { s with heap:=l,toks:=t' }:=by
 have d:∀ b u,H b=some u->b∉fp:=λb u e z=>by rw[(j b z).1] at e;cases e
 refine I.step (g':=s.gens) (d':=s.drawn) (ch:=fp) (λb f=>⟨(j b f).2.2.2.1,(j b f).2.1,(j b f).2.2.2.2.1,(j b f).2.2.2.2.2⟩) (λb o _ _ a e _=>k b o a e) (λb o _ _ a e _=>⟨o.slots,k b o a e⟩) (λ_ _ _ _ n=>n)
  (λb o a e=>⟨o,k b o a e⟩) (λ_ _ e=>e) (λ_ _ _ e=>e) (λb x e=>⟨#[],by rw[e];simp⟩) (λm t=>?_) (λb u e=>?_) I.bare
 .obtain⟨o,i,h,w,r⟩:=t;exact⟨o,i,h,k _ o (λz=>(j _ z).2.1 rfl) w,r⟩
 .refine (I.hok b u e).stay (λc v a q=>k c v ?_ q) (λ_ q=>q) λ_ _ q=>q
  rcases a with z | z
  .rw[z];exact d b u e
  .exact d c _ z
end
section
variable {X:Cx}
theorem Va {iter:Expr}(T U:Aa Af) (aa:Aa Nat) (hc:X.calm=true) (hi:PI X tg iter wi)
  (hk:j.kind = .function) (O:LcO nw X.N X.env.kindOf j U aa)
  (hg:∀ ae ab C cl fp,PG (uZ nw X (T++U) j cl C ae ab fp) tg g)
  (ht:∀ ae ab C cl fp,uY (uZ nw X (T++U) j cl C ae ab fp) af tt)
  (he:∀ ae ab C cl fp,PE (uZ nw X (T++U) j cl C ae ab fp) a4 te)
  (hs:∀ x,foldedSetIterable iter X.env x=pure x)
(I:Inv X ac σ H s) (h:Cf T aa wi g tt te σ H Q)
  (fin:∀ (C D:Ad) (s6:Ae) (H5:Hp),Inv X ac σ H5 s6->Q (.ref D) H5->tH X ac H5 C->(∃ m,s6.heap.Ns C m)->compPost (model X.prog X.w) X.A X.xe a2 Qs (.ref D) C (.ok .next) s6) :
  wpAny (model X.prog X.w) X.A (comprehension (.ListComp a4 [⟨tg,iter,af,0⟩] j pos) j X.env (firstIterPos [⟨tg,iter,af,0⟩] pos) (newList []) (firstAsync [⟨tg,iter,af,0⟩]) (firstIter [⟨tg,iter,af,0⟩] X.env) a2) Qs X.xe s:=by
 have ax:∀ p∈j.names,p.2 = .free->∃ c,X.env.cells.lookup p.1=some c:=λp hp e=>I.ok.has p.1 (.inl (O.free p hp e))
 obtain⟨cl,aw,P,a3⟩:=CH ax;refine wpAny_comprehension_free (use:=a2) rfl hs aw hk O.loc (nD (hi ac s σ H _ I h) λv s1 h1=>nD h1 λb4 s2 h2=>?_);obtain⟨it,fp,tn,J,H2,rfl,I2,B,bb,f2,hD⟩:=h2;refine eW ?_;have f:Inv X ac σ (upd H2 s2.heap.objs.size (.l [])) { s2 with heap:=s2.heap.push { cls:=.type "list",data:=.seq ([]:Aa Ac).toArray } }:=I2.lnew (t':=s2.toks) (its:=[]) (ys:=[]) .nil (cE _);have fD:H2 s2.heap.objs.size=none:=I2.fresh;obtain⟨W,⟨m0,w0⟩,ao⟩:=hD s2.heap.objs.size fD;generalize bo:s2.heap.objs.size=D at f fD w0 ao |-;have bz:tn 0 (s2.heap.push { cls:=.type "list",data:=.seq ([]:Aa Ac).toArray }):=B.keep _ _ _ bb λb _ o e=>aL _ e
 have a9:∀ b∈fp,b<D:=λb a=>by
  obtain⟨o,e,_⟩:=B.obj _ _ bb b a;rw[<- bo];exact aT e
 generalize bt:({ s2 with heap:=s2.heap.push { cls:=.type "list",data:=.seq ([]:Aa Ac).toArray } }:Ae)=K at f |-;have ag:tn 0 K.heap:=by rw[<- bt];exact bz
 generalize bp:upd H2 D (.l [])=M at f w0;have f3:∀ b∈fp,tH X ac M b:=λb a=>by
  obtain⟨z0,z⟩:=f2 b a;exact⟨by rw[<- bp,gV (bH (a9 b a))];exact z0,z⟩
 refine X7 O.one (λZ V S old=>?_);have av:M K.heap.objs.size=none:=f.fresh;have ak:M (K.heap.objs.size+1)=none:=f.hok.fresh (jB _);generalize hC:K.heap.objs.size=C at V S av ak |-;have ba:∀ b o,K.heap.get? b=some o->b≠C:=λb o e=>by rw[<- hC];exact bH (aT e)
 have a5:∀ b∈fp,b≠C:=λb a=>by
  obtain⟨o,e,_⟩:=B.obj _ _ ag b a;exact ba b o e
 have a6:∀ b∈fp,b∉tW X.stack:=λb a z=>by
  rcases aH.mp (f.stkSub b z) with q | q
  .exact (f3 b a).2.1 q
  .exact (f3 b a).2.2.1 q
 have bm:∀ b∈fp,b<C:=λb a=>by
  obtain⟨o,e,_⟩:=B.obj _ _ ag b a;rw[<- hC];exact aT e
 have look:∀ x c,(zA nw C++cl).lookup x=some c->(nw=some x/\c=C+1)\/(nw≠some x/\cl.lookup x=some c):=λx c e=>by
  cases nw with
  | none=>exact .inr ⟨(λz=>nomatch z),e⟩
  | some nm =>
   have e:((nm,C+1)::cl).lookup x=some c:=e;rw[dQ] at e;cases a:x == nm with
   | true=>rw[a] at e;cases e;exact .inl ⟨by rw[kK.mp a],rfl⟩
   | false=>rw[a] at e;exact .inr ⟨(λz=>by cases z;simp at a),e⟩
 have lift:∀ x c,nw≠some x->cl.lookup x=some c->(zA nw C++cl).lookup x=some c:=λx c n e=>by
  cases nw with
  | none=>exact e
  | some nm =>
   show ((nm,C+1)::cl).lookup x=some c;rw[dQ,show (x == nm)=false from cQ.mpr λz=>n (by rw[z])];exact e
 have ai:∀ x c,cl.lookup x=some c->c<C:=λx c e=>by
  obtain⟨v,o,ho,_⟩:=f.cell x c (P x c e);rw[<- hC];exact aT ho
 have aj:∀ b∈fp,∀ x c,(zA nw C++cl).lookup x=some c->c≠b:=λb a x c e=>by
  rcases look x c e with⟨_,q⟩ | ⟨_,q⟩
  .exact λz=>absurd (bm b a) (by rw[<- z,q];exact Nat.not_lt.mpr (jB C))
  .exact (f3 b a).2.2.2.2.1 x c (P x c q)
 have a8:(uZ nw X (T++U) j cl C K M fp).Ok:=by
  refine⟨f.ok.mod,hk,f.ok.glob,f.ok.blt,Nat.le_of_eq hC,λx y c R E=>?_,λx hx=>?_,λx c R E=>?_,f.ok.hd,f.ok.frames,.inl rfl,λb a=>⟨a5 b a,λx c e=>aj b a x c e⟩,λb o e=>f.bs b o e,?_,λb o e z=>?_,λb a=>a6 b a,f.stack,f.stkFree⟩
  .rcases look x c R with⟨q1,r1⟩ | ⟨q1,r1⟩
   .rcases look y c E with⟨q2,r2⟩ | ⟨q2,r2⟩
    .exact bR (q1.symm.trans q2)
    .exact absurd (ai y c r2) (by rw[r1];exact Nat.not_lt.mpr (jB C))
   .rcases look y c E with⟨q2,r2⟩ | ⟨q2,r2⟩
    .exact absurd (ai x c r1) (by rw[r2];exact Nat.not_lt.mpr (jB C))
    .exact f.ok.inj x y c (P x c r1) (P y c r2)
  .have bu:(relabel j X.env).names.lookup x=some .cell\/(relabel j X.env).names.lookup x=some .free:=hx;have hf:j.names.lookup x=some .cell\/j.names.lookup x=some .free:=by
    rcases bu with q | q
    .exact Nf q (.inl rfl)
    .exact Nf q (.inr rfl)
   show ∃ c,(zA nw C++cl).lookup x=some c;by_cases a:nw=some x
   .subst a;exact⟨C+1,by show ((x,C+1)::cl).lookup x=_;rw[dQ,lJ]⟩
   .rcases hf with q | q
    .exact absurd (O.only x q) a
    .obtain⟨c,e⟩:=eE.mp (a3 x (eJ q));exact⟨c,lift x c a e⟩
  .rcases look x c E with⟨q,r⟩ | ⟨q,r⟩
   .show K.heap.objs.size<=c;rw[r,hC];exact jB C
   .cases nw with
    | none =>
     have R:(cl.lookup x).isNone=true:=R;rw[r] at R;cases R
    | some nm =>
     have R:(x == nm||(cl.lookup x).isNone)=true:=R;rw[r,show (x == nm)=false from cQ.mpr λz=>q (by rw[z])] at R;cases R
  .exact bD f.ok.bsz f.sz
  .obtain⟨z0,z1,z2,z3,_⟩:=f3 b z;rcases z3 with q | q
   .exact f.ok.noex b o e q
   .exact absurd (aW (aT e) (bD f.ok.bsz q)) (eQ _)
 have I4:Inv (uZ nw X (T++U) j cl C K M fp) [] (rP T aa σ) M { K with heap:=Z }:=by
  refine⟨a8,rfl,f.bare,Un.kept old,⟨_,V,λi x v R E e3=>?_⟩,λx c e=>?_,av,λx c e=>?_,λp hp=>absurd (show p∈([]:Aa (Ad×Obj)) from hp) (by simp),f.hok.kept old,?_⟩
  .have R:(T++U)[i]?=some x:=R;unfold rP at E;by_cases hi:i<T.length
   .rw[eS (by simpa using hi),aU] at E;cases q:T[i]? with
    | none=>rw[q] at E;cases E
    | some z=>rw[q] at E;cases E
   .rw[cT (by omega)] at R;rw[cT (by simpa using hi),aU,aA] at E;obtain⟨k,k1,k2,k3⟩:=O.cap _ x R;rw[k1] at E;have E:(σ[k]?).join=some v:=bR E;have bj:σ[k]?=some (some v):=by
     cases q:σ[k]? with
     | none=>rw[q] at E;cases E
     | some z=>rw[q] at E;exact cK some E
    have Y:X.env.kindOf x=some .cell:=O.free (x,.free) (eJ k3) rfl;obtain⟨m,hn,hl⟩:=f.loc;obtain⟨u,r,l⟩:=hl k x v k2 bj (.inr (.inl Y));refine⟨u,r,.inr ⟨?_,?_⟩⟩
    .obtain⟨k',e5,e6⟩:=HM (env:=X.env) k3;rcases e6 with z | ⟨_,z⟩
     .subst z;exact .inr e5
     .subst z;exact .inl e5
    .rcases l with⟨l1,_⟩ | ⟨_,c,e7,o,ay,az⟩
     .rw[Y] at l1;cases l1
     .obtain⟨c',e8⟩:=eE.mp (a3 x (eJ k3));have:=P x c' e8;rw[e7] at this;cases this;exact⟨c,lift x c (λz=>by rw[O.cel x z] at k3;cases k3) e8,o,old c o ay,az⟩
  .rcases look x c e with⟨n,q⟩ | ⟨_,q⟩
   .exact⟨none,q▸S x n⟩
   .obtain⟨v,o,ay,az⟩:=f.cell x c (P x c q);exact⟨v,o,old c o ay,az⟩
  .rcases look x c e with⟨_,q⟩ | ⟨_,q⟩
   .exact q▸ak
   .exact f.freeC x c (P x c q)
  .show (rP T aa σ).length=(T++U).length;unfold rP;rw[aZ,aZ,aA,aA,O.len]
 have au:∀ {H':Hp},(∀ b∈fp,H' b=none)->∀ b∈fp,tH (uZ nw X (T++U) j cl C K M fp) [] H' b:=λhn b a =>
  ⟨hn b a,a5 b a,a6 b a,.inl a,λx c e=>aj b a x c e,λp hp=>absurd (show p∈([]:Aa (Ad×Obj)) from hp) (by simp)⟩
 have bc:tn 0 Z:=B.keep _ _ _ ag λb _ o e=>old b o e
 have b0:W 0 m0 [] (rP T aa σ) M:=w0;have an:codeAny (model X.prog X.w) X.A (.compLoop (.ListComp a4 [⟨tg,iter,af,0⟩] j pos) 0 (.ref it) (.ref D) (compEnvC j (zA nw C++cl) C X.env))
   (compPost (model X.prog X.w) X.A X.xe a2 Qs (.ref D) C) { K with heap:=Z }:=by
  refine KW (λn s'=>∃ i ys be H',Inv (uZ nw X (T++U) j cl C K M fp) [] be H' s'/\tn i s'.heap/\(∀ b∈fp,H' b=none)/\W i n ys be H') ?_ m0 ⟨0,[],rP T aa σ,M,I4,bc,λb a=>(f3 b a).1,b0⟩;rintro n s5 ⟨i,ys,ah,H5,I5,bd,a7,w5⟩;rcases ao i n ys ah H5 w5 with⟨stop,qn⟩ | ⟨go,N,F,hN,hF,step⟩
  .refine nD (B.done (uZ nw X (T++U) j cl C K M fp) rfl rfl rfl hc i [] s5 ah H5 _ I5 (au a7) bd stop) λr s6 t=>?_
   obtain⟨hr,I6⟩:=t;subst hr;obtain⟨m6,br,_⟩:=I6.loc;have bq:H5 C=none:=I6.free;have ub:=I6.base;have a0:=f.fpOk (Nat.le_of_eq hC) av;refine fin C D s6 H5 (Inv.call' (s':=s6) (ch:=fp) f I6.os ?_ I6.hok I6.bare (λb a=>⟨(f3 b a).2.2.2.1,(f3 b a).2.1,(f3 b a).2.2.2.2.1,(f3 b a).2.2.2.2.2⟩)) qn ⟨bq,a0.2⟩ ⟨m6,br⟩;exact⟨λb o q n a hx=>ub.keep b o q n a hx,λb o q n a hx=>ub.slot b o q n a hx,ub.free,λb o q hx=>ub.there b o q hx,ub.tups,ub.frzs,ub.tbls⟩
  .refine nD (B.item (uZ nw X (T++U) j cl C K M fp) rfl rfl rfl hc i [] s5 ah H5 _ I5 (au a7) bd go) λr s6 t=>?_
   obtain⟨u,hr,h6⟩:=t;subst hr;refine nD h6 λ_ s7 t=>?_
   obtain⟨x,H7,I7,r7,y7,a1,bn⟩:=t;have bh:=I7.pinned (au bn) (B.obj _ _ a1);have G:∀ {L:St} {H8:Hp} {s8:Ae},Inv (uZ nw X (T++U) j cl C K M fp) ([]++Bu fp s7.heap) L H8 s8->tn (i+1) s8.heap/\(∀ b∈fp,H8 b=none):=λ{L H8 s8} I8=>by
    refine⟨B.keep _ _ _ a1 λb a o e=>(I8.pin (b,o) (bL _ (bL _ (F3 a e)))).1,λb a=>?_⟩;obtain⟨o,e,d⟩:=B.obj _ _ a1 b a;exact (I8.pin (b,o) (bL _ (bL _ (F3 a e)))).2.1
   refine nD (hg K M C cl fp _ s7 ah H7 x u _ bh r7 (step x H7 y7)) λ_ s8 t=>?_
   obtain⟨L,H8,I8,q8⟩:=t;refine nD (ht K M C cl fp _ s8 L H8 _ I8 q8) λok s9 t=>?_
   obtain⟨H9,I9,q9⟩:=t;cases ok with
   | false =>
    rw[aI (by simp)] at q9;rw[aI (by simp)];obtain⟨m',hm,w9⟩:=hF _ _ q9;exact⟨m',hm,i+1,ys,L,H9,I9.unpinned,(G I9).1,(G I9).2,w9⟩
   | true =>
    rw[aP rfl] at q9;rw[aP rfl];refine nD (he K M C cl fp _ s9 L H9 _ I9 q9) λvv bx t=>?_
    obtain⟨v,bf,bg,bw,bv⟩:=t;obtain⟨bi,b3,m',hm,b1⟩:=hN _ _ _ bv;refine nD (wK (X:=uZ nw X (T++U) j cl C K M fp) _ bx L bf (.ref D) [v] (.ref D) [vv] (λ_ aq=>W (i+1) m' (ys++[v]) L aq) bg rfl (.cons bw .nil) ⟨D,ys,v,rfl,rfl,bi,b3,b1⟩) λ_ b5 t=>?_
    obtain⟨_,aq,ar,_,b2⟩:=t;exact⟨m',hm,i+1,ys++[v],L,aq,ar.unpinned,(G ar).1,(G ar).2,b2⟩
 exact codeAny_compStart_list an (B.self _ 0 _ _ _ bc an)
theorem BF {D:Ad}(I:Inv X g J j p) (q:Q (.ref D) j) (r:tH X g j C) (l:∃ m,p.heap.Ns C m):compPost (model X.prog X.w) X.A X.xe none (EP X g J Q) (.ref D) C (.ok .next) p:=by
 obtain⟨m,l⟩:=l;refine⟨m,l,λd c=>⟨.ref D,j,I.moved (t':=p.toks) (fp:=[C]) (λb a=>?_) (λb o a e=>?_),rfl,q⟩⟩
 .rw[aM.mp a];exact r
 .exact c.extBut b o (λz=>a (aM.mpr z)) e
theorem Bo {iter:Expr}(T o:Aa Af) (r:Aa Nat) (hc:X.calm=true) (hi:PI X tg iter wi)
  (hk:j.kind = .function) (ho:Bq X.N X.env.kindOf j T o r=true)
  (hg:∀ p l C cl J,PG (rN X (T++o) j cl C p l J) tg g)
  (ht:∀ p l C cl J,uY (rN X (T++o) j cl C p l J) aa tt)
  (he:∀ p l C cl J,PE (rN X (T++o) j cl C p l J) U te)
  (hs:∀ x,foldedSetIterable iter X.env x=pure x:=by intro _;rfl) :
  PE X (.ListComp U [⟨tg,iter,aa,0⟩] j pos) (Cf T r wi g tt te):=by
 intro a s e H Q I h;rw[eval_ListComp];exact Va (nw:=none) T o r hc hi hk (L6 ho) hg ht he hs I h λC D d c I q J b=>BF I q J b
end
structure Yields (J:It) (xs:List V) (R:Hp->Prop):Prop where
 go:∀ i H,i<xs.length->R H->J.go i H
 yld:∀ i H x H',i<xs.length->R H->J.yld i H x H'->H'=H/\xs[i]?=some x
 stop:∀ i H,i=xs.length->R H->J.stop i H
theorem Yp {K:mZ}:Yields (wL K a) g (λH=>eH K H a g) :=
 ⟨λi H b r=>⟨g,g[i],r,aF b⟩,λi H x c b r y=>⟨y.1,y.2 g r⟩,λi H e r=>⟨g,r,by omega⟩⟩
theorem Qu {lo:Int}:Yields (uF lo n) ((List.range n).map λ(i:Nat)=>V.int (lo+(i:Int))) (λ_=>True) :=
 ⟨λi H a _=>by simpa [uF] using a,λi H x b a _ y=>⟨y.1,by rw[y.2];simp at a;simp[a]⟩,λi H e _=>by simp[uF,e]⟩
def zB (z:Af):Aa V:=z.cps.toList.map λc=>V.str ⟨#[c]⟩
theorem HI:Yields (vG z) (zB z) (λ_=>True) :=
 ⟨λi H a _=>by simpa [vG,zB,Str.length] using a,
  λi H x d a _ y=>by
   obtain⟨e,c,b,rfl⟩:=y;refine⟨e,?_⟩;unfold zB;rw[aU,dH,b];rfl,
  λi H e _=>by simp[vG,e,zB,Str.length]⟩
def Jj (o:St) (D:Ad) (Pv:Nat->Aa V->Hp->Prop) (i:Nat) (g:Aa V) (j:St):VK:=λv a=>(∃ t,j=t::o)/\a D=some (.l g)/\g.length<sizeLine/\Pv (i+1) (g++[v]) (upd a D (.l (g++[v])))
def M9 (l:St) (Pv:Nat->Aa V->Hp->Prop) (i:Nat) (o:Aa V) (g:St) (j:Hp):Prop:=(∃ t,g=t::l)/\Pv (i+1) o j
theorem Na {R:Hp->Prop}{D:Ad}(Y:Yields J o R) (Pv:Nat->Aa V->Hp->Prop)
  (U:Pv 0 [] (upd T D (.l []))) (I:∀ i j H,i<=o.length->Pv i j H->R H)
  (hs:∀ i x j H,o[i]?=some x->Pv i j H->tt (some x::g.map (λi=>(r[i]?).join)) H λb C =>if b=true then te (some x::g.map (λi=>(r[i]?).join)) C (Jj (g.map (λi=>(r[i]?).join)) D Pv i j (some x::g.map (λi=>(r[i]?).join))) else M9 (g.map (λi=>(r[i]?).join)) Pv i j (some x::g.map (λi=>(r[i]?).join)) C)
  (hd:∀ j H,Pv o.length j H->Q (.ref D) H):A4 [nm] g J (yN 0) tt te r T Q D:=by
 refine⟨λi m j d H=>m=o.length-i/\i<=o.length/\(∃ t,d=t::g.map (λi=>(r[i]?).join))/\Pv i j H,⟨o.length,by simp,cE _,⟨none,rfl⟩,U⟩,?_⟩;rintro i m j d c ⟨rfl,h,⟨t,rfl⟩,p⟩;by_cases a:i<o.length
 .refine .inr ⟨Y.go i c a (I i j c h p),Jj (g.map (λi=>(r[i]?).join)) D Pv i j,M9 (g.map (λi=>(r[i]?).join)) Pv i j,?_,?_,λx q y=>?_⟩
  .rintro n v z ⟨k,s,u,f⟩;exact⟨s,u,o.length-(i+1),by omega,rfl,a,k,f⟩
  .rintro n C ⟨k,f⟩;exact⟨o.length-(i+1),by omega,rfl,a,k,f⟩
  .obtain⟨rfl,w⟩:=Y.yld i c x q a (I i j c h p) y;exact hs i x j q w p
 .have e:i=o.length:=by omega
  subst e;exact .inl ⟨Y.stop _ _ rfl (I _ j c h p),hd j c p⟩
def zZ:Expr->Bool
 | .Starred _ _=>false
 | _=>true
theorem Xy (h:zZ e=true):starEach (e::j) g=(false,eval e g)::starEach j g:=by
 cases e<;>first | rfl | (cases h;done)
section
variable {X:Cx}
theorem hL (j:PE X e o) (l:PA X g t) (h:zZ e=true:=by rfl):PA X (e::g) (Cg o t):=wP j l (Xy h)
def IK (g:Aa Af):TA:=λ_ H Q=>Q (g.map V.str) H
theorem xD:∀ (l:Aa (Af×Nat×Pos)),PA X (l.map λp=>.Constant (.str p.1) p.2.1 p.2.2) (IK (l.map (·.1)))
 | []=>nI
 | a::r=>λpos b s c H Q I h=>hL (vC (x:=a.1) (j:=a.2.1) (pos:=a.2.2)) (xD r) (by rfl) pos b s c H Q I h
end
theorem Jx {R:Hp->Prop}{D:Ad}(Y:Yields J o R) (Pv:Nat->Aa V->Hp->Prop)
  (I:Pv 0 [] (upd C D (.l []))) (T:∀ i j H,i<=o.length->Pv i j H->R H)
  (U:∀ i x j H,o[i]?=some x->Pv i j H->te (some x::g.map (λi=>(r[i]?).join)) H (Jj (g.map (λi=>(r[i]?).join)) D Pv i j (some x::g.map (λi=>(r[i]?).join))))
  (hd:∀ j H,Pv o.length j H->Q (.ref D) H):A4 [nm] g J (yN 0) Fw te r C Q D:=by
 refine Na Y Pv I T (λi x j H a p=>?_) hd;unfold Fw;dsimp only;rw[aP rfl];exact U i x j H a p
theorem KG {R:Hp->Prop}{D:Ad}(Y:Yields J g R) (f:V->V) (T:j D=none) (C:∀ H,pW j H->R H) (hl:g.length<=1000)
  (I:∀ (i:Nat) x H (k:VK),g[i]?=some x->pW j H->k (f x) H->U (some x::r.map (λi=>(σ[i]?).join)) H k)
  (hd:Q (.ref D) (upd j D (.l (g.map f)))):A4 [nm] r J (yN 0) Fw U σ j Q D:=by
 have sm:∀ o,pW j (upd j D o):=λo b u e=>by rw[gV (nB e T)];exact e
 refine Jx Y (λi a H=>i<=g.length/\a=(g.take i).map f/\H=upd j D (.l a)) ⟨cE _,by simp,rfl⟩ (λi a H _ p=>C H (by rw[p.2.2];exact sm _)) ?_ ?_
 .rintro i x a H d ⟨m,rfl,rfl⟩;have c:=(aG.mp d).1;have h:g.take (i+1)=g.take i++[x]:=by rw[bP,d];rfl
  refine I i x _ _ d (sm _) ⟨⟨_,rfl⟩,hI,?_,c,?_,?_⟩
  .rw[aA,bO];exact bG (show min i g.length<=1000 by omega) (by decide)
  .rw[h,bF];rfl
  .rw[AB]
 .rintro a H ⟨_,rfl,rfl⟩;rw[bJ (aR _)];exact hd
theorem tJ {X:Cx}{st:Stmt}{rest:Aa Stmt}{D:Ends}(I:St->Hp->Prop) (g:∀ u:TS,(∀ j l,I j l->u D j l)->∃ t,PS X st t/\t { D with nx:=u D } o H)
  (h:∀ j l,I j l->∃ u,pS X rest u/\u D j l):∃ t,pS X (st::rest) t/\t D o H:=by
 let u:TS:=λb j l=>∃ c,pS X rest c/\c b j l
 have k:pS X rest u:=λa s j l b d ⟨c,i,e⟩=>i a s j l b d e
 obtain⟨t,pt,f⟩:=g u h;exact⟨Iz t u,pN pt k,f⟩
theorem Cp {X:Cx}{st:Stmt}{rest:Aa Stmt}{D:Ends}(t:TS) (p:PS X st t) (h:t { D with nx:=λg j=>∃ u,pS X rest u/\u D g j } l H):∃ t,pS X (st::rest) t/\t D l H:=by
 let u:TS:=λb g j=>∃ c,pS X rest c/\c b g j
 have i:pS X rest u:=λa s g j b d ⟨c,f,e⟩=>f a s g j b d e
 exact⟨Iz t u,pN p i,h⟩
section
variable {X:Cx}{id:String}
def AH (K:mZ):Aa V->Hp->VK->Prop:=λb H Q=>∃ p a,b=[.ref p]/\(eH K H p a\/nQ K H p a)/\Q (.int a.length) H
theorem Wl (K:mZ) (g:X.K=K:=by rfl):oH X (.builtin "len") (AH K):=by subst g;exact vY
theorem Vz (K:mZ) (pa:PlainAttrs T) (slot:Slot T name id) (j:typeOf (.builtin id)=pure (.type "method_descriptor")) (J:yD X id r) (U:PE X o to) (C:PA X (e::l) t) (p:X.K=K:=by rfl)
  (I:MtB X o name apos e l g:=by exact {}) :
  PE X (.Call (.Attribute o name apos) (e::l) [] g) (I3 K T r to t):=by
 subst p;exact vI pa slot j J U C I
end
section
variable {X:Cx}
def LK (g:Aa Int):TA:=λ_ H Q=>Q (g.map V.int) H
theorem Fv:∀ (l:Aa (Int×Nat×Pos)),PA X (l.map λp=>.Constant (.int p.1) p.2.1 p.2.2) (LK (l.map (·.1)))
 | []=>nI
 | a::r=>λpos b s c H Q I h=>hL (nW (i:=a.1) (j:=a.2.1) (pos:=a.2.2)) (Fv r) (by rfl) pos b s c H Q I h
end
section
variable {X:Cx}
theorem Oi (g:X.A.units+64<cLine):nR X (compareOp .NotEq) (Ed X.K true):=by
 intro c s M H x y v u Q I F G h;obtain⟨a,b,L,rfl,rfl,f,z,q⟩:=h;cases F;cases G;obtain⟨B,D,m,_⟩:=I.list f;obtain⟨k,E,n,_⟩:=I.list z;cases E;have t:∀ d,d = !L.isEmpty->EP X c M Q (.bool d) s:=λd e=>⟨.b d,H,I,rfl,by subst e;exact q⟩
 cases D with
 | nil=>exact SeqAt.RcNeAt.lists (e:=λ_=>true) m.isList n.isList rfl (by omega) (λi f _=>by simp at f) X.prog X.w _ _ (t _ (by simp))
 | cons r N=>exact SeqAt.RcNeAt.lists_lengths m.isList n.isList (by simp) (by omega) X.prog X.w _ _ (t _ rfl)
def Qz (K:mZ):Aa V->Hp->VK->Prop:=λd H Q=>∃ (x c:V) (t a:Ac) (b:Bool),d=[x,c]/\nF c a/\TyOf K H x t/\PySem.W.kitOne K t a=some b/\Q (.b b) H
theorem Cd (K:mZ) (g:X.K=K:=by rfl):oH X (.builtin "isinstance") (Qz K):=by subst g;exact HK
end
section
variable {X:Cx}
theorem Inv.movedT {t':Nat}{p:Aa Ad}{ys:Aa V}{j:Aa Ac}(I:Inv X g U H s) (l:∀ b∈p,tH X g H b) (k:∀ b o,b∉p->s.heap.get? b=some o->C.get? b=some o)
  (new:vX C s.heap.objs.size j.toArray) (T:nE ys j) (J:ys.length<=sizeLine):Inv X g U (upd H s.heap.objs.size (.t ys)) { s with heap:=C,toks:=t' }:=by
 have f:=I.fresh;have h:∀ b u,H b=some u->b∉p:=λb u e z=>by rw[(l b z).1] at e;cases e
 have lt:∀ b o,s.heap.get? b=some o->b≠s.heap.objs.size:=λb o e=>bH (aT e)
 refine I.step (g':=s.gens) (d':=s.drawn) (ch:=p) (λb a=>⟨(l b a).2.2.2.1,(l b a).2.1,(l b a).2.2.2.2.1,(l b a).2.2.2.2.2⟩) (λb o _ _ d e _=>k b o d e) (λb o _ _ d e _=>⟨o.slots,k b o d e⟩) (λb o _ e n=>by rw[gV (lt b o e)];exact n)
  (λb o d e=>⟨o,k b o d e⟩) (λb A e=>by rw[gV (nB e f)];exact e) (λb o u e=>by rw[gV (nB e f)];exact e) (λb B e=>⟨#[],by rw[gV (nB e f),e];simp⟩) (λm x=>?_) (λb u e=>?_) I.bare
 .obtain⟨o,w,i,y,r⟩:=x;exact⟨o,w,i,k _ o (λz=>(l _ z).2.1 rfl) y,r⟩
 .by_cases a:b=s.heap.objs.size
  .subst a;rw[hI] at e;cases e;exact⟨J,j,T,new⟩
  .rw[gV a] at e;refine (I.hok b u e).stay (λc v d q=>k c v ?_ q) (λc q=>by rw[gV (nB q f)];exact q) λc A q=>by rw[gV (nB q f)];exact q
   rcases d with z | z
   .rw[z];exact h b u e
   .exact h c _ z
end
section
variable {X:Cx}
theorem Vg {iter:Expr}(T p:Aa Af) (J:Aa Nat) (hN:X.N.Nodup) (af:X.N[i]?=some x) (hx:uN X.env.scope x)
  (hc:X.calm=true) (hi:PI X tg iter wi) (hk:j.kind = .function) (ho:Bq X.N X.env.kindOf j T p J=true)
  (hg:∀ r l C cl U,PG (rN X (T++p) j cl C r l U) tg g)
  (ht:∀ r l C cl U,uY (rN X (T++p) j cl C r l U) ac tt)
  (he:∀ r l C cl U,PE (rN X (T++p) j cl C r l U) ab te)
  (ag:swapsWith (.ListComp ab [⟨tg,iter,ac,0⟩] j pos) (some (.Name x aa)) ae.line X.env=pure true:=by rfl)
  (hs:∀ x,foldedSetIterable iter X.env x=pure x:=by intro _;rfl)
  (hf:X.fn x=true\/X.env.scope.names.lookup x=some .local:=by first | exact .inl rfl | exact .inr rfl | assumption) :
  PS X (.Assign [.Name x aa] (.ListComp ab [⟨tg,iter,ac,0⟩] j pos) ae) (Jm (Cf T J wi g tt te) (yN i)):=by
 intro u s M H D I h;rw[exec_Assign_Name_used _ _ _ _ ag];refine aB (mJ (aB ?_));show wpAny _ _ (comprehension _ _ _ _ _ _ _ _ >>= λ_=>pure ()) _ _ _;refine aB (Va (nw:=none) T p J hc hi hk (L6 ho) hg ht he hs I h λC t L w A q U k=>?_);obtain⟨m,E⟩:=k;show wpAny _ _ (assign (.Name x aa) X.env (.ref t)) _ _ _;refine wpAny_assign_Name (U2 A hN af hx (v:=.ref t) rfl (λF y f=>?_) hf);obtain⟨a,G,B⟩:=f;have c:C≠a:=by
  rcases B with z | z
  .rw[z];exact U.2.1
  .exact (U.2.2.2.2.1 x a z).symm
 refine⟨m,E.sameBut G c,λK n=>aD (aD ⟨_,w,y.moved (t':=F.toks) (fp:=[C]) (λb d=>?_) (λb o d e=>?_),q⟩)⟩
 .rw[aM.mp d];exact U
 .exact n.extBut b o (λz=>d (aM.mpr z)) e
end
inductive D where
 | e | b (b:Bool) | int (i:Int) | str (x:Str) | r (v:V)
 | t (xs:List D) | l (xs:List D)
 | k (kvs:List (hG×D)) | T (kvs:List (List hG×D)) | dM (kvs:List (MK×D))
 | c (xs:List D)
 | con (xs:List D)
def Cm (K:mZ) (a:Ad) (g:Aa V):Prop:=∃ (o:Obj) (b:Array Ac) (n:Nat),K.lookup a=some o/\o.cls = .type "tuple" /\ o.data = .seq b n/\b.size<=sizeLine/\nE g b.toList
theorem Cm.sqT {K:mZ}(h:Cm K a g):nQ K H a g:=.inr h
def wE (K:mZ) (H:Hp) (a:Ad) (g:Aa V):Prop:=(∃ o,H a=some (.frz o (.l g))) \/
 ∃ (o:Obj) (b:Array Ac) (n:Nat),K.lookup a=some o/\o.cls = .type "list" /\ o.dict=none/\o.data = .seq b n/\b.size<=sizeLine/\nE g b.toList
theorem wE.sqL {K:mZ}(h:wE K H a g):eH K H a g:=h.elim (λh=>.inl (.inr h)) .inr
mutual
inductive Rep (K:mZ) (A:Addr->Prop) (H:Hp):D->V->Prop where
 | e:Rep K A H .e .e
 | b (b:Bool):Rep K A H (.b b) (.b b)
 | int (i:Int):Rep K A H (.int i) (.int i)
 | str (x:Str):Rep K A H (.str x) (.str x)
 | r (v:V):Rep K A H (.r v) v
 | t {a:Addr} {vs:List V} {ds:List D}:H a=some (.t vs)->Reps K A H ds vs->Rep K A H (.t ds) (.ref a)
 | con {a:Addr} {vs:List V} {ds:List D}:Cm K a vs->Reps K A H ds vs->Rep K A H (.con ds) (.ref a)
 | l {a:Addr} {vs:List V} {ds:List D}:A a->H a=some (.l vs)->Reps K A H ds vs->Rep K A H (.l ds) (.ref a)
 | c {a:Addr} {vs:List V} {ds:List D}:wE K H a vs->Reps K A H ds vs->Rep K A H (.c ds) (.ref a)
 | k {a:Addr} {kvs:List (hG×V)} {ds:List (hG×D)}:A a->Rd H a (.k kvs)->ds.map (·.1)=kvs.map (·.1)->Reps K A H (ds.map (·.2)) (kvs.map (·.2))->Rep K A H (.k ds) (.ref a)
 | T {a:Addr} {kvs:List (List hG×V)} {ds:List (List hG×D)}:A a->Rd H a (.T kvs)->ds.map (·.1)=kvs.map (·.1)->Reps K A H (ds.map (·.2)) (kvs.map (·.2))->Rep K A H (.T ds) (.ref a)
 | dM {a:Addr} {kvs:List (MK×V)} {ds:List (MK×D)}:A a->Rd H a (.dM kvs)->ds.map (·.1)=kvs.map (·.1)->Reps K A H (ds.map (·.2)) (kvs.map (·.2))->Rep K A H (.dM ds) (.ref a)
inductive Reps (K:mZ) (A:Addr->Prop) (H:Hp):List D->List V->Prop where
 | nil:Reps K A H [] []
 | cons {d:D} {v:V} {ds:List D} {vs:List V}:Rep K A H d v->Reps K A H ds vs->Reps K A H (d::ds) (v::vs)
end
def Ht:HO->Bool
 | .t _=>true
 | .frz _ _=>true
 | _=>false
def Kp (A j:Ad->Prop) (H g:Hp):Prop:=(∀ a o,A a->H a=some o->j a/\g a=some o)/\∀ a o,Ht o=true->H a=some o->g a=some o
section
variable {K:mZ}
theorem Kp.sqF (k:Kp A l H g) (h:wE K H a j):wE K g a j:=by
 rcases h with⟨o,h⟩ | h
 .exact .inl ⟨o,k.2 _ _ rfl h⟩
 .exact .inr h
theorem Kp.rd (k:Kp A j H l) (g:A a) (h:Rd H a u):j a/\Rd l a u:=by
 rcases h with h | ⟨o,h⟩
 .exact⟨(k.1 _ _ g h).1,.inl (k.1 _ _ g h).2⟩
 .exact⟨(k.1 _ _ g h).1,.inr ⟨o,(k.1 _ _ g h).2⟩⟩
theorem Rep.mono (k:Kp A g H j) (h:Rep K A H d v):Rep K g j d v :=
 Rep.rec (motive_1:=λd v _=>Rep K g j d v) (motive_2:=λf i _=>Reps K g j f i) .e .b .int .str .r (λh _ r=>.t (k.2 _ _ rfl h) r) (λh _ r=>.con h r)
  (λa h _ r=>.l (k.1 _ _ a h).1 (k.1 _ _ a h).2 r) (λh _ r=>.c (k.sqF h) r) (λa h e _ r=>.k (k.rd a h).1 (k.rd a h).2 e r) (λa h e _ r=>.T (k.rd a h).1 (k.rd a h).2 e r) (λa h e _ r=>.dM (k.rd a h).1 (k.rd a h).2 e r) .nil (λ_ _ h r=>.cons h r) h
theorem Reps.mono (k:Kp A o H p) (h:Reps K A H j l):Reps K o p j l:=by
 induction j generalizing l with
 | nil=>cases h;exact .nil
 | cons d j a=>cases h with | cons g r=>exact .cons (g.mono k) (a r)
theorem Kp.all (h:∀ a,A a->g a):Kp A g H H:=⟨λa o b e=>⟨h a b,e⟩,λ_ _ _ e=>e⟩
theorem Kp.trans (a:Kp A l H r) (b:Kp l g r j):Kp A g H j:=⟨λx o c e=>let ⟨p,q⟩:=a.1 x o c e;b.1 x o p q,λx o t e=>b.2 x o t (a.2 x o t e)⟩
theorem Kp.laid (g:H p=none) (h:∀ a,A a->a≠p->j a):Kp A j H (upd H p o) :=
 ⟨λa u b e=>⟨h a b (nB e g),by rw[gV (nB e g)];exact e⟩,λa u _ e=>by rw[gV (nB e g)];exact e⟩
theorem Kp.same (s:pW H j) (h:∀ a,A a->g a):Kp A g H j:=⟨λa o b e=>⟨h a b,s a o e⟩,λa o _ e=>s a o e⟩
theorem Kp.write (l:H p=some u) (g:Ht u=false) (j:¬ A p):Kp A A H (upd H p o):=by
 refine⟨λa w b e=>⟨b,?_⟩,λa w t e=>?_⟩
 .rw[gV (λz:a=p=>j (by rw[<- z];exact b))];exact e
 .rw[gV (λz=>?_)]
  .exact e
  .subst z;rw[l] at e;cases e;rw[t] at g;cases g
theorem Reps.length (h:Reps K A H j l):j.length=l.length:=by
 induction j generalizing l with
 | nil=>cases h;rfl
 | cons d j a=>cases h with | cons g r=>exact cK (·+1) (a r)
theorem Reps.get {j:Aa D}{l:Aa V}{i:Nat}{d:D}(h:Reps K A H j l) (e:j[i]?=some d):∃ v,l[i]?=some v/\Rep K A H d v:=by
 induction j generalizing l i with
 | nil=>cases e
 | cons c j a =>
  cases h with
  | cons g r =>
   cases i with
   | zero=>cases e;exact⟨_,rfl,g⟩
   | succ i=>exact a r (i:=i) e
theorem Reps.getV {j:Aa D}{l:Aa V}{i:Nat}{v:V}(h:Reps K A H j l) (e:l[i]?=some v):∃ d,j[i]?=some d/\Rep K A H d v:=by
 induction j generalizing l i with
 | nil=>cases h;cases e
 | cons c j a =>
  cases h with
  | cons g r =>
   cases i with
   | zero=>cases e;exact⟨_,rfl,g⟩
   | succ i=>exact a r (i:=i) e
theorem Reps.append (h:Reps K A H j l) (s:Reps K A H o p):Reps K A H (j++o) (l++p):=by
 induction j generalizing l with
 | nil=>cases h;exact s
 | cons d j a=>cases h with | cons g r=>exact .cons g (a r)
theorem Reps.take:∀ {g:Aa D}{j:Aa V}(n:Nat),Reps K A H g j->Reps K A H (g.take n) (j.take n)
 | _,_,0,_=>by rw[List.take_zero,List.take_zero];exact .nil
 | _,_,n+1,.nil=>.nil
 | _,_,n+1,.cons h r=>.cons h (Reps.take n r)
theorem Reps.drop:∀ {g:Aa D}{j:Aa V}(n:Nat),Reps K A H g j->Reps K A H (g.drop n) (j.drop n)
 | _,_,0,h=>h
 | _,_,n+1,.nil=>.nil
 | _,_,n+1,.cons h r=>Reps.drop n r
theorem Reps.set (h:Rep K A H d v):∀ {j:Aa D}{l:Aa V}(i:Nat),Reps K A H j l->Reps K A H (j.set i d) (l.set i v)
 | _,_,_,.nil=>.nil
 | _,_,0,.cons _ r=>.cons h r
 | _,_,i+1,.cons g r=>.cons g (Reps.set h i r)
theorem Reps.nil_iff (h:Reps K A H g j):j=[]↔g=[]:=by
 cases h<;>simp
theorem Rep.int_inv (h:Rep K A H (.int i) v):v = .int i:=by cases h;rfl
theorem Rep.str_inv (h:Rep K A H (.str i) v):v = .str i:=by cases h;rfl
theorem Rep.bl_inv (h:Rep K A H (.b i) v):v = .b i:=by cases h;rfl
theorem Rep.non_inv (h:Rep K A H .e v):v = .e:=by cases h;rfl
theorem Rep.raw_inv (h:Rep K A H (.r u) v):v=u:=by cases h;rfl
theorem Rep.tup_inv (h:Rep K A H (.t j) v):∃ a g,v = .ref a/\H a=some (.t g)/\Reps K A H j g:=by
 cases h with | t h r=>exact⟨_,_,rfl,h,r⟩
theorem Rep.lst_inv (h:Rep K A H (.l j) v):∃ a g,v = .ref a/\A a/\H a=some (.l g)/\Reps K A H j g:=by
 cases h with | l d h r=>exact⟨_,_,rfl,d,h,r⟩
theorem Rep.con_inv (h:Rep K A H (.con j) v):∃ a g,v = .ref a/\Cm K a g/\Reps K A H j g:=by
 cases h with | con h r=>exact⟨_,_,rfl,h,r⟩
theorem Rep.scr_inv (h:Rep K A H (.c j) v):∃ a g,v = .ref a/\wE K H a g/\Reps K A H j g:=by
 cases h with | c h r=>exact⟨_,_,rfl,h,r⟩
theorem Rep.dK_inv (h:Rep K A H (.k j) v):∃ a g,v = .ref a/\A a/\Rd H a (.k g)/\j.map (·.1)=g.map (·.1)/\Reps K A H (j.map (·.2)) (g.map (·.2)):=by
 cases h with | k d h e r=>exact⟨_,_,rfl,d,h,e,r⟩
theorem Rep.dT_inv (h:Rep K A H (.T j) v):∃ a g,v = .ref a/\A a/\Rd H a (.T g)/\j.map (·.1)=g.map (·.1)/\Reps K A H (j.map (·.2)) (g.map (·.2)):=by
 cases h with | T d h e r=>exact⟨_,_,rfl,d,h,e,r⟩
theorem Rep.dM_inv (h:Rep K A H (.dM j) v):∃ a g,v = .ref a/\A a/\Rd H a (.dM g)/\j.map (·.1)=g.map (·.1)/\Reps K A H (j.map (·.2)) (g.map (·.2)):=by
 cases h with | dM d h e r=>exact⟨_,_,rfl,d,h,e,r⟩
end
mutual
def imm:D->Bool
 | .t a=>uM a
 | .c a=>uM a
 | .con a=>uM a
 | .l _=>false
 | .k _=>false
 | .T _=>false
 | .dM _=>false
 | _=>true
def uM:Aa D->Bool
 | []=>true
 | d::a=>imm d&&uM a
end
section
variable {K:mZ}
theorem Rep.imm (h:Rep K A H d v):imm d=true->Rep K g H d v :=
 Rep.rec (motive_1:=λd v _=>L2.imm d=true->Rep K g H d v) (motive_2:=λa f _=>uM a=true->Reps K g H a f) (λ_=>.e) (λb _=>.b b) (λi _=>.int i) (λx _=>.str x) (λv _=>.r v) (λh _ r e=>.t h (r e)) (λh _ r e=>.con h (r e))
  (λ_ _ _ _ e=>Bool.noConfusion (show false=true from e)) (λh _ r e=>.c h (r e)) (λ_ _ _ _ _ e=>Bool.noConfusion (show false=true from e)) (λ_ _ _ _ _ e=>Bool.noConfusion (show false=true from e)) (λ_ _ _ _ _ e=>Bool.noConfusion (show false=true from e)) (λ_=>.nil) (λ_ _ h r e=>.cons (h (jT.mp e).1) (r (jT.mp e).2)) h
theorem Reps.imm (h:Reps K A H j l) (e:uM j=true):Reps K o H j l:=by
 induction j generalizing l with
 | nil=>cases h;exact .nil
 | cons d j a=>cases h with | cons g r=>exact .cons (g.imm (jT.mp e).1) (a r (jT.mp e).2)
end
end L2
namespace Lw
open PySem L2
structure DeckAt (H:Hp) (d c:Addr):Prop where
 ex:∃ (ns:List Int) (p:Int),H d=some (.l [.ref c,.int p])/\H c=some (.l (ns.map V.int))/\0<ns.length/\ns.length<=100
def nA (d c:Ad) (H g:Hp):Prop:=∀ b o,H b=some o->b≠d->b≠c->g b=some o
theorem nA.trans (a:nA d c H g) (b:nA d c g j):nA d c H j:=λx o e f h=>b x o (a x o e f h) f h
theorem nA.new (h:H p=none):nA d c H (upd H p o):=λb u e _ _=>by rw[gV (nB e h)];exact e
theorem DeckAt.ne (D:DeckAt H d c):d≠c:=by
 obtain⟨i,p,f,b,h,_⟩:=D.ex;intro e;subst e;rw[f] at b;injection b with b;injection b with b;cases i with
 | nil=>simp at h
 | cons a r=>simp at b
theorem DeckAt.upd_other (D:DeckAt H d c) (hd:p≠d) (g:p≠c):DeckAt (upd H p o) d c:=by
 obtain⟨h,q,a,b,e,f⟩:=D.ex;exact⟨h,q,by rw[gV hd.symm];exact a,by rw[gV g.symm];exact b,e,f⟩
theorem DeckAt.ned (D:DeckAt H d c) (h:H p=none):p≠d/\p≠c:=by
 obtain⟨e,q,a,b,_⟩:=D.ex;exact⟨(nB a h).symm,(nB b h).symm⟩
theorem DeckAt.new (D:DeckAt H d c) (h:H p=none):DeckAt (upd H p o) d c:=D.upd_other (D.ned h).1 (D.ned h).2
theorem DeckAt.ne_some (D:DeckAt H d c) (h:H p=some o) (g:∀ j,o ≠ .l j):p≠d/\p≠c:=by
 obtain⟨e,q,a,b,_⟩:=D.ex;exact⟨yZ h a (g _),yZ h b (g _)⟩
end Lw
namespace L2
open PySem PySem.Spec PyProof.Rows Lw
inductive Sl where
 | n | v (d:D) | o (d:D)
abbrev oM:=Aa (Sl×Ab V)
def Dk (g:Aa Ad) (H:Hp):Prop:=g=[]\/∃ d c,g=[d,c]/\DeckAt H d c
theorem Dk.some (h:Dk j H) (g:a∈j):∃ o,H a=some (.l o):=by
 rcases h with rfl | ⟨d,c,rfl,h⟩
 .cases g
 .obtain⟨f,p,b,e,_⟩:=h.ex;rcases aH.mp g with rfl | g
  .exact⟨_,b⟩
  .rcases aH.mp g with rfl | g
   .exact⟨_,e⟩
   .cases g
theorem Dk.keep (h:Dk g H) (k:∀ a∈g,j a=H a):Dk g j:=by
 rcases h with rfl | ⟨d,c,rfl,h⟩
 .exact .inl rfl
 .refine .inr ⟨d,c,rfl,?_⟩;obtain⟨i,p,b,e,f⟩:=h.ex;exact⟨i,p,by rw[k d (by simp)];exact b,by rw[k c (by simp)];exact e,f⟩
theorem Dk.upd (h:Dk g H) (j:p∉g):Dk g (upd H p o):=h.keep λa b=>gV λz=>j (z▸b)
noncomputable def yT:Sl×Ab V->Ab Ad
 | (.o _,some (.ref a))=>some a
 | _=>none
def dT (L:oM):Aa Ad:=L.filterMap yT
structure Bs where
 dk:List Addr
 A0:Addr->Prop
 H0:Hp
def Al (B:Bs) (R:Aa Ad) (a:Ad):Prop:=a∉B.dk/\a∉R/\(B.A0 a\/B.H0 a=none)
def pJ (K:mZ) (A:Ad->Prop) (H:Hp) (a:Ad):D->Prop
 | .l c=>∃ d,H a=some (.l d)/\Reps K A H c d
 | .k c=>∃ b,H a=some (.k b)/\c.map (·.1)=b.map (·.1)/\Reps K A H (c.map (·.2)) (b.map (·.2))
 | .T c=>∃ b,H a=some (.T b)/\c.map (·.1)=b.map (·.1)/\Reps K A H (c.map (·.2)) (b.map (·.2))
 | .dM c=>∃ b,H a=some (.dM b)/\c.map (·.1)=b.map (·.1)/\Reps K A H (c.map (·.2)) (b.map (·.2))
 | _=>False
def sG (K:mZ) (A:Ad->Prop) (H:Hp):Sl->Ab V->Prop
 | .n,_=>True
 | .v d,x=>∃ v,x=some v/\Rep K A H d v
 | .o d,x=>∃ a,x=some (.ref a)/\pJ K A H a d
structure DS (K:mZ) (B:Bs) (L:oM) (H:Hp):Prop where
 fr:∀ b o,B.H0 b=some o->b∉B.dk->H b=some o
 dk:Dk B.dk H
 nd:(dT L).Nodup
 new:∀ a∈dT L,B.H0 a=none/\a∉B.dk
 ok:∀ p∈L,sG K (Al B (dT L)) H p.1 p.2
section
variable {K:mZ}{L2:oM}
theorem pJ.mono (k:Kp A p H j) (g:∀ o,H a=some o->j a=some o) (h:pJ K A H a d):pJ K p j a d:=by
 cases d with
 | l _=>obtain⟨b,h,r⟩:=h;exact⟨b,g _ h,r.mono k⟩
 | k _=>obtain⟨b,h,e,r⟩:=h;exact⟨b,g _ h,e,r.mono k⟩
 | T _=>obtain⟨b,h,e,r⟩:=h;exact⟨b,g _ h,e,r.mono k⟩
 | dM _=>obtain⟨b,h,e,r⟩:=h;exact⟨b,g _ h,e,r.mono k⟩
 | _=>exact False.elim h
theorem pJ.some:∀ {d:D},pJ K A H a d->∃ o,H a=some o/\Ht o=false
 | .l _,⟨b,h,r⟩=>⟨_,h,rfl⟩
 | .k _,⟨b,h,e,r⟩=>⟨_,h,rfl⟩
 | .T _,⟨b,h,e,r⟩=>⟨_,h,rfl⟩
 | .dM _,⟨b,h,e,r⟩=>⟨_,h,rfl⟩
theorem pJ.rep (g:∀ b,A b->o b) (j:o a):∀ {d:D},pJ K A H a d->Rep K o H d (.ref a)
 | .l _,⟨c,h,r⟩=>.l j h (r.mono (.all g))
 | .k _,⟨c,h,e,r⟩=>.k j (.inl h) e (r.mono (.all g))
 | .T _,⟨c,h,e,r⟩=>.T j (.inl h) e (r.mono (.all g))
 | .dM _,⟨c,h,e,r⟩=>.dM j (.inl h) e (r.mono (.all g))
theorem sG.mono (k:Kp A j H g) (h:sG K A H s y) (l:∀ a,yT (s,y)=some a->∀ o,H a=some o->g a=some o):sG K j g s y:=by
 cases s with
 | n=>trivial
 | v d=>obtain⟨v,e,r⟩:=h;exact⟨v,e,r.mono k⟩
 | o d=>obtain⟨a,rfl,r⟩:=h;exact⟨a,rfl,r.mono k (l a rfl)⟩
theorem qQ:dT (g++L2)=dT g++dT L2:=List.filterMap_append
theorem tG:a∈dT L↔∃ p∈L,yT p=some a:=kJ
theorem sD:dT (L1++x::L2)=dT L1++((yT x).toList++dT L2):=by
 unfold dT;rw[List.filterMap_append,List.filterMap_cons];cases yT x<;>rfl
theorem DS.live (h:DS K B L H) (g:a∈dT L):∃ o,H a=some o/\Ht o=false:=by
 obtain⟨p,c,e⟩:=tG.mp g;have:=h.ok p c;obtain⟨s,y⟩:=p;cases s with
 | n=>cases e
 | v d=>cases e
 | o d =>
  obtain⟨b,rfl,r⟩:=this;cases e;exact r.some
theorem DS.drop (h:DS K B (L1++x::L2) H):DS K B (L1++L2) H:=by
 have e:=sD (L1:=L1) (x:=x) (L2:=L2);have d:∀ a,a∈dT (L1++L2)->a∈dT (L1++x::L2):=λa c=>by
  rw[qQ] at c;rw[e];simp only[aQ] at c |-;rcases c with q | q
  .exact .inl q
  .exact .inr (.inr q)
 refine⟨h.fr,h.dk,?_,λa c=>h.new a (d a c),λp f=>?_⟩
 .have n:=h.nd;rw[e] at n;rw[qQ];obtain⟨k,m,s⟩:=bM.mp n;exact bM.mpr ⟨k,(bM.mp m).2.1,λa c b i=>s a c b (bL _ i)⟩
 .refine (h.ok p (by simp only[aQ,aH] at f |-;rcases f with q | q;exact .inl q;exact .inr (.inr q))).mono (.all λa z=>⟨z.1,λq=>z.2.1 (d a q),z.2.2⟩) (λ_ _ _ q=>q)
theorem DS.at (h:DS K B (g++x::L2) H):sG K (Al B (dT (g++x::L2))) H x.1 x.2:=h.ok x (bL _ aE)
theorem DS.valAt (h:DS K B (g++(.v d,some v)::L2) H):Rep K (Al B (dT (g++L2))) H d v:=by
 obtain⟨u,e,r⟩:=h.at;cases e;have:dT (g++(Sl.v d,some v)::L2)=dT (g++L2):=by rw[sD,qQ];rfl
 rw[this] at r;exact r
theorem DS.push (h:DS K B (L1++L2) H) (r:Rep K (Al B (dT (L1++L2))) H d v):DS K B (L1++(.v d,some v)::L2) H:=by
 have e:dT (L1++(Sl.v d,some v)::L2)=dT (L1++L2):=by rw[sD,qQ];rfl
 refine⟨h.fr,h.dk,by rw[e];exact h.nd,by rw[e];exact h.new,λp a=>?_⟩;rw[e];simp only[aQ,aH] at a;rcases a with q | q | q
 .exact h.ok p (bK _ q)
 .subst q;exact⟨v,rfl,r⟩
 .exact h.ok p (bL _ q)
theorem DS.pushN (h:DS K B (L1++L2) H) (y:Ab V):DS K B (L1++(.n,y)::L2) H:=by
 have e:dT (L1++(Sl.n,y)::L2)=dT (L1++L2):=by rw[sD,qQ];rfl
 refine⟨h.fr,h.dk,by rw[e];exact h.nd,by rw[e];exact h.new,λp a=>?_⟩;rw[e];simp only[aQ,aH] at a;rcases a with q | q | q
 .exact h.ok p (bK _ q)
 .subst q;trivial
 .exact h.ok p (bL _ q)
theorem DS.grow (h:DS K B L H) (s:pW H g) (j:Dk B.dk g):DS K B L g :=
 ⟨λb o e n=>s b o (h.fr b o e n),j,h.nd,h.new,λp a=>(h.ok p a).mono (.same s λ_ z=>z) (λ_ _ o q=>s _ o q)⟩
theorem DS.free (h:DS K B L H) (g:H a=none):B.H0 a=none/\a∉B.dk/\a∉dT L:=by
 have n:a∉B.dk:=λz=>by obtain⟨b,e⟩:=h.dk.some z;rw[e] at g;cases g
 refine⟨?_,n,λz=>by obtain⟨o,e,_⟩:=h.live z;rw[e] at g;cases g⟩;cases e:B.H0 a with
 | none=>rfl
 | some o=>rw[h.fr a o e n] at g;cases g
theorem DS.laid (h:DS K B L H) (g:H a=none):DS K B L (upd H a o) :=
 h.grow (λb u e=>by rw[gV (nB e g)];exact e) (h.dk.upd (h.free g).2.1)
theorem DS.tup (h:DS K B (L1++L2) H){g:Aa D}{l:Aa V}(j:H a=none) (r:Reps K (Al B (dT (L1++L2))) H g l):DS K B (L1++(.v (.t g),some (.ref a))::L2) (upd H a (.t l)) :=
 (h.laid j).push (.t hI (r.mono (.laid j λ_ z _=>z)))
theorem DS.make (h:DS K B (L1++L2) H) (g:H a=none) (r:∀ j,Kp (Al B (dT (L1++L2))) j H (upd H a o)->pJ K j (upd H a o) a d):DS K B (L1++(.o d,some (.ref a))::L2) (upd H a o):=by
 obtain⟨f1,f2,k⟩:=h.free g;have e:dT (L1++(Sl.o d,some (.ref a))::L2)=dT L1++a::dT L2:=sD;have m:∀ b,b∈dT L1++a::dT L2↔b=a\/b∈dT (L1++L2):=λb=>by
  rw[qQ];simp only[aQ,aH];constructor
  .rintro (q | q | q)
   .exact .inr (.inl q)
   .exact .inl q
   .exact .inr (.inr q)
  .rintro (q | q | q)
   .exact .inr (.inl q)
   .exact .inl q
   .exact .inr (.inr q)
 have s:Kp (Al B (dT (L1++L2))) (Al B (dT L1++a::dT L2)) H (upd H a o):=.laid g λb z n=>⟨z.1,λq=>(m b).mp q |>.elim n z.2.1,z.2.2⟩
 refine⟨λb u q n=>by rw[gV (nB (h.fr b u q n) g)];exact h.fr b u q n,h.dk.upd f2,?_,λb i=>?_,λp f=>?_⟩
 .rw[e];have n:=h.nd;rw[qQ] at n k;obtain⟨v,x,y⟩:=bM.mp n;refine bM.mpr ⟨v,bN.mpr ⟨λz=>k (bL _ z),x⟩,λb i c t=>?_⟩;rcases aH.mp t with q | q
  .intro z;subst z;subst q;exact k (bK _ i)
  .exact y b i c q
 .rw[e] at i;rcases (m b).mp i with q | q
  .subst q;exact⟨f1,f2⟩
  .exact h.new b q
 .rw[e];simp only[aQ,aH] at f;have old:∀ p∈L1++L2,sG K (Al B (dT L1++a::dT L2)) (upd H a o) p.1 p.2:=λp f=>(h.ok p f).mono s λb i w q=>by rw[gV (nB q g)];exact q
  rcases f with q | q | q
  .exact old p (bK _ q)
  .subst q;exact⟨a,rfl,r _ s⟩
  .exact old p (bL _ q)
theorem DS.freeze (h:DS K B (g++(.o d,some v)::L2) H):DS K B (g++(.v d,some v)::L2) H:=by
 obtain⟨a,e,r⟩:=h.at;cases e;have c:dT (g++(Sl.o d,some (V.ref a))::L2)=dT g++a::dT L2:=sD;have hd:=h.drop;have f:=h.new a (by rw[c];simp);refine hd.push (r.rep (λb z=>⟨z.1,λq=>z.2.1 ?_,z.2.2⟩) ⟨f.2,λq=>?_,.inr f.1⟩)
 .rw[c];rw[qQ] at q;simp only[aQ,aH] at q |-;rcases q with q | q
  .exact .inl q
  .exact .inr (.inr q)
 .have n:=h.nd;rw[c] at n;rw[qQ] at q;obtain⟨m,i,k⟩:=bM.mp n;rcases aQ.mp q with q | q
  .exact k a q a aE rfl
  .exact (bN.mp i).1 q
theorem DS.write (h:DS K B (g++(.o d,some (.ref a))::L2) H) (r:∀ j,Kp (Al B (dT g++a::dT L2)) j H (upd H a o)->pJ K j (upd H a o) a d'):DS K B (g++(.o d',some (.ref a))::L2) (upd H a o):=by
 have e:∀ d,dT (g++(Sl.o d,some (V.ref a))::L2)=dT g++a::dT L2:=λd=>sD
 have s:=h.new a (by rw[e];simp);obtain⟨u,t,A⟩:=h.live (a:=a) (by rw[e];simp);have k:Kp (Al B (dT g++a::dT L2)) (Al B (dT g++a::dT L2)) H (upd H a o):=.write t A λz=>z.2.1 (by simp)
 have n:=h.nd;rw[e] at n;have y:∀ b,b∈dT g\/b∈dT L2->b≠a:=λb c z=>by
  subst z;obtain⟨D,v,x⟩:=bM.mp n;rcases c with c | c
  .exact x b c b aE rfl
  .exact (bN.mp v).1 c
 refine⟨λb w q m=>?_,h.dk.upd s.2,by rw[e];exact n,λb c=>h.new b (by rw[e] at c |-;exact c),λp f=>?_⟩
 .have:b≠a:=λz=>by subst z;rw[s.1] at q;cases q
  rw[gV this];exact h.fr b w q m
 .rw[e];have old:∀ p,p∈g\/p∈L2->sG K (Al B (dT g++a::dT L2)) (upd H a o) p.1 p.2:=λp i=>by
   have:=h.ok p (by simp only[aQ,aH];rcases i with q | q;exact .inl q;exact .inr (.inr q));rw[e] at this;refine this.mono k λb c w q=>?_
   rw[gV (y b ?_)]
   .exact q
   .rcases i with z | z
    .exact .inl (tG.mpr ⟨p,z,c⟩)
    .exact .inr (tG.mpr ⟨p,z,c⟩)
  simp only[aQ,aH] at f;rcases f with q | q | q
  .exact old p (.inl q)
  .subst q;exact⟨a,rfl,r _ k⟩
  .exact old p (.inr q)
theorem DS.ownAt (h:DS K B (g++(.o d,some v)::L2) H):∃ a,v = .ref a/\pJ K (Al B (dT g++a::dT L2)) H a d:=by
 obtain⟨a,e,r⟩:=h.at;cases e;rw[show dT (g++(Sl.o d,some (V.ref a))::L2)=dT g++a::dT L2 from sD] at r;exact⟨a,rfl,r⟩
theorem DS.perm (h:DS K B L H) (p:L.Perm M):DS K B M H:=by
 have e:(dT L).Perm (dT M):=p.filterMap yT;refine⟨h.fr,h.dk,e.nodup_iff.mp h.nd,λa b=>h.new a (e.mem_iff.mpr b),λq c=>(h.ok q (p.mem_iff.mpr c)).mono (.all λa z=>⟨z.1,λw=>z.2.1 (e.mem_iff.mpr w),z.2.2⟩) λ_ _ _ w=>w⟩
end
section
theorem vB {g:Aa Sl}{σ:St}(C:g.length=σ.length){i:Nat}{s:Sl}(h:g[i]?=some s):∃ j y l,σ[i]?=some y/\j.length=i/\g.zip σ=j++(s,y)::l/\∀ o p,(g.set i o).zip (σ.set i p)=j++(o,p)::l:=by
 induction g generalizing σ i with
 | nil=>simp at h
 | cons r g e =>
  cases σ with
  | nil=>simp at C
  | cons z σ =>
   cases i with
   | zero=>simp at h;subst h;exact⟨[],z,g.zip σ,rfl,rfl,rfl,λ_ _=>rfl⟩
   | succ i =>
    obtain⟨j,y,l,a,b,c,d⟩:=e (σ:=σ) (by simpa using C) (i:=i) (by simpa using h);exact⟨(r,z)::j,y,l,by simpa using a,by simp[b],by simp[c],λo p=>by simp[d]⟩
theorem zS {g:St}{i:Nat}{y:Ab V}(h:g[i]?=some y):g.set i y=g:=by
 obtain⟨a,rfl⟩:=aG.mp h;exact List.set_getElem_self a
end
abbrev nN:=Aa Ad->Aa Sl->(Sl->Aa Sl->Prop)->Prop
abbrev qV:=Aa Ad->Aa Sl->(Bool->Aa Sl->Prop)->Prop
def dE (K:mZ) (g:nN):TE:=λb H Q=>∃ (B:Bs) (c:Aa Sl) (T:oM) (e:Sl->Aa Sl->Prop),c.length=b.length/\DS K B (c.zip b++T) H/\g B.dk c e /\
 ∀ r a v d,a.length=b.length->DS K B (a.zip b++(r,some v)::T) d->e r a->Q v d
def sQ (K:mZ) (g:qV):TT:=λc H Q=>∃ (B:Bs) (d:Aa Sl) (T:oM) (f:Bool->Aa Sl->Prop),d.length=c.length/\DS K B (d.zip c++T) H/\g B.dk d f /\
 ∀ b a e,a.length=c.length->DS K B (a.zip c++T) e->f b a->Q b e
theorem dE.elim {K:mZ}{P:Prop}(h:dE K C o H Q) (f:∀ (B:Bs) (j:Aa Sl) (T:oM) (l:Sl->Aa Sl->Prop),j.length=o.length->DS K B (j.zip o++T) H->C B.dk j l ->(∀ r g v p,g.length=o.length->DS K B (g.zip o++(r,some v)::T) p->l r g->Q v p)->P):P:=by
 obtain⟨B,j,T,l,a,hd,b,k⟩:=h;exact f B j T l a hd b k
theorem sQ.elim {K:mZ}{P:Prop}(h:sQ K r o H Q) (f:∀ (B:Bs) (j:Aa Sl) (T:oM) (l:Bool->Aa Sl->Prop),j.length=o.length->DS K B (j.zip o++T) H->r B.dk j l ->(∀ b g p,g.length=o.length->DS K B (g.zip o++T) p->l b g->Q b p)->P):P:=by
 obtain⟨B,j,T,l,a,hd,c,k⟩:=h;exact f B j T l a hd c k
abbrev PD (X:Cx) (e:Expr) (g:nN):Prop:=PE X e (dE X.K g)
abbrev tK (X:Cx) (e:Expr) (g:qV):Prop:=PT X e (sQ X.K g)
abbrev Gg (X:Cx) (e:Expr) (g:qV):Prop:=PW X e (sQ X.K g)
theorem PE.mono {X:Cx}(h:PE X e t) (k:∀ g H Q,j g H Q->t g H Q):PE X e j:=λa s g H Q I q=>h a s g H Q I (k g H Q q)
theorem PT.mono {X:Cx}(h:PT X e t) (k:∀ g H Q,j g H Q->t g H Q):PT X e j:=λa s g H Q I q=>h a s g H Q I (k g H Q q)
theorem PW.mono {X:Cx}(h:PW X e t) (k:∀ g H Q,j g H Q->t g H Q):PW X e j:=λb a s g H Q I q=>h b a s g H Q I (k g H Q q)
def sd:Sl->Ab D
 | .v d=>some d
 | .o d=>some d
 | .n=>none
section
variable {K:mZ}{L2:oM}
theorem Ek:dT (g++(Sl.v d,y)::L2)=dT (g++L2):=by rw[sD,qQ];rfl
theorem DS.thaw (h:DS K B (g++(r,some v)::L2) H) (e:sd r=some d):DS K B (g++(.v d,some v)::L2) H:=by
 cases r with
 | n=>cases e
 | v c=>cases e;exact h
 | o c=>cases e;exact h.freeze
theorem DS.one (h:DS K B (L++(r,some v)::T) H) (e:sd r=some d):DS K B (L++T) H/\Rep K (Al B (dT (L++T))) H d v:=by
 have a:=h.thaw e;exact⟨a.drop,a.valAt⟩
theorem DS.two (h:DS K B (L++(l,some u)::(r,some v)::T) H) (g:sd r=some d) (j:sd l=some e):DS K B (L++T) H/\Rep K (Al B (dT (L++T))) H d v/\Rep K (Al B (dT (L++T))) H e u:=by
 have m:=h.thaw j;have n:DS K B ((L++[(Sl.v e,some u)])++(r,some v)::T) H:=by simpa using m
 have a:=n.thaw g;have b:DS K B (L++(Sl.v e,some u)::(.v d,some v)::T) H:=by simpa using a
 have c:=b.valAt;have f:=a.valAt;have i:dT (L++(Sl.v d,some v)::T)=dT (L++T):=by rw[sD,qQ];rfl
 have k:dT ((L++[(Sl.v e,some u)])++T)=dT (L++T):=by
  rw[bI];show dT (L++(Sl.v e,some u)::T)=_;rw[sD,qQ];rfl
 rw[i] at c;rw[k] at f;exact⟨b.drop.drop,f,c⟩
theorem DS.mid (h:DS K B (x::(L++T)) H):DS K B (L++x::T) H:=h.perm iT.symm
theorem DS.front (h:DS K B (L++x::T) H):DS K B (x::(L++T)) H:=h.perm iT
theorem DS.pushF (h:DS K B L H) (r:Rep K (Al B (dT L)) H d v):DS K B ((.v d,some v)::L) H:=DS.push (L1:=[]) h r
theorem DS.tupF (h:DS K B L H) (j:H a=none) (r:Reps K (Al B (dT L)) H g l):DS K B ((.v (.t g),some (.ref a))::L) (upd H a (.t l)):=DS.tup (L1:=[]) h j r
theorem DS.lstF (h:DS K B L H) (p:H a=none) (r:Reps K (Al B (dT L)) H j g):DS K B ((.o (.l j),some (.ref a))::L) (upd H a (.l g)) :=
 DS.make (L1:=[]) h p λb k=>⟨g,hI,r.mono k⟩
theorem DS.dKF (h:DS K B L H) (g:H a=none) (e:ds.map (·.1)=kvs.map (·.1)) (r:Reps K (Al B (dT L)) H (ds.map (·.2)) (kvs.map (·.2))):DS K B ((.o (.k ds),some (.ref a))::L) (upd H a (.k kvs)) :=
 DS.make (L1:=[]) h g λb k=>⟨kvs,hI,e,r.mono k⟩
theorem DS.dMF (h:DS K B L H) (g:H a=none) (e:ds.map (·.1)=kvs.map (·.1)) (r:Reps K (Al B (dT L)) H (ds.map (·.2)) (kvs.map (·.2))):DS K B ((.o (.dM ds),some (.ref a))::L) (upd H a (.dM kvs)) :=
 DS.make (L1:=[]) h g λb k=>⟨kvs,hI,e,r.mono k⟩
end
def nY (K:mZ) (A:Ad->Prop) (H:Hp):D->V->Prop
 | .l f,v=>∃ a h,v = .ref a/\H a=some (.l h)/\Reps K A H f h
 | .k f,v=>∃ a d,v = .ref a/\Rd H a (.k d)/\f.map (·.1)=d.map (·.1)/\Reps K A H (f.map (·.2)) (d.map (·.2))
 | .T f,v=>∃ a d,v = .ref a/\Rd H a (.T d)/\f.map (·.1)=d.map (·.1)/\Reps K A H (f.map (·.2)) (d.map (·.2))
 | .dM f,v=>∃ a d,v = .ref a/\Rd H a (.dM d)/\f.map (·.1)=d.map (·.1)/\Reps K A H (f.map (·.2)) (d.map (·.2))
 | .e,v=>Rep K A H .e v
 | .b b,v=>Rep K A H (.b b) v
 | .int b,v=>Rep K A H (.int b) v
 | .str b,v=>Rep K A H (.str b) v
 | .r b,v=>Rep K A H (.r b) v
 | .t b,v=>Rep K A H (.t b) v
 | .con b,v=>Rep K A H (.con b) v
 | .c b,v=>Rep K A H (.c b) v
section
variable {K:mZ}
theorem Rep.peek (h:Rep K A H d v):nY K A H d v:=by
 cases h with
 | l _ h r=>exact⟨_,_,rfl,h,r⟩
 | k _ h e r=>exact⟨_,_,rfl,h,e,r⟩
 | T _ h e r=>exact⟨_,_,rfl,h,e,r⟩
 | dM _ h e r=>exact⟨_,_,rfl,h,e,r⟩
 | e=>exact .e
 | b=>exact .b _
 | int=>exact .int _
 | str=>exact .str _
 | r=>exact .r _
 | t h r=>exact .t h r
 | con h r=>exact .con h r
 | c h r=>exact .c h r
theorem pJ.peek:∀ {d:D},pJ K A H a d->nY K A H d (.ref a)
 | .l _,⟨b,h,r⟩=>⟨_,b,rfl,h,r⟩
 | .k _,⟨b,h,e,r⟩=>⟨_,b,rfl,.inl h,e,r⟩
 | .T _,⟨b,h,e,r⟩=>⟨_,b,rfl,.inl h,e,r⟩
 | .dM _,⟨b,h,e,r⟩=>⟨_,b,rfl,.inl h,e,r⟩
theorem nY.lst_inv (h:nY K A H (.l j) v):∃ a g,v = .ref a/\H a=some (.l g)/\Reps K A H j g:=h
theorem nY.dK_inv (h:nY K A H (.k j) v):∃ a g,v = .ref a/\Rd H a (.k g)/\j.map (·.1)=g.map (·.1)/\Reps K A H (j.map (·.2)) (g.map (·.2)):=h
theorem nY.dT_inv (h:nY K A H (.T j) v):∃ a g,v = .ref a/\Rd H a (.T g)/\j.map (·.1)=g.map (·.1)/\Reps K A H (j.map (·.2)) (g.map (·.2)):=h
theorem nY.dM_inv (h:nY K A H (.dM j) v):∃ a g,v = .ref a/\Rd H a (.dM g)/\j.map (·.1)=g.map (·.1)/\Reps K A H (j.map (·.2)) (g.map (·.2)):=h
theorem nY.tup_inv (h:nY K A H (.t j) v):∃ a g,v = .ref a/\H a=some (.t g)/\Reps K A H j g:=Rep.tup_inv h
theorem nY.con_inv (h:nY K A H (.con j) v):∃ a g,v = .ref a/\Cm K a g/\Reps K A H j g:=Rep.con_inv h
theorem nY.scr_inv (h:nY K A H (.c j) v):∃ a g,v = .ref a/\wE K H a g/\Reps K A H j g:=Rep.scr_inv h
theorem nY.int_inv (h:nY K A H (.int i) v):v = .int i:=Rep.int_inv h
theorem nY.str_inv (h:nY K A H (.str i) v):v = .str i:=Rep.str_inv h
theorem nY.bl_inv (h:nY K A H (.b i) v):v = .b i:=Rep.bl_inv h
theorem nY.non_inv (h:nY K A H .e v):v = .e:=Rep.non_inv h
theorem nY.raw_inv (h:nY K A H (.r u) v):v=u:=Rep.raw_inv h
def at? (g:Aa Sl) (i:Nat):Ab D:=(g[i]?).bind sd
theorem DS.peek (l:g.length=j.length) (h:DS K B (g.zip j++T) H) (e:at? g i=some d):∃ v,j[i]?=some (some v)/\nY K (Al B (dT (g.zip j++T))) H d v:=by
 unfold at? at e;cases f:g[i]? with
 | none=>rw[f] at e;cases e
 | some s =>
  rw[f] at e;obtain⟨q,y,t,k,_,m,_⟩:=vB l f;have b:=h;rw[m] at b;have:=b.ok (s,y) (by simp);rw[<- m] at this;cases s with
  | n=>cases e
  | v c=>cases e;obtain⟨v,rfl,r⟩:=this;exact⟨v,k,r.peek⟩
  | o c=>cases e;obtain⟨a,rfl,r⟩:=this;exact⟨_,k,r.peek⟩
end
noncomputable def vd (i:Nat):nN:=λ_ a b=>match a[i]? with
 | some (.v d)=>b (.v d) a
 | some (.o d)=>b (.v d) (a.set i (.v d))
 | _=>False
def cd (d:D):nN:=λ_ b a=>a (.v d) b
section
variable {X:Cx}
theorem cN (i:Nat) (h:PE X (.Name x pos) (pY i):=by exact pv _):PD X (.Name x pos) (vd i):=h.mono λL H Q z=>z.elim λB D T M w hd c k=>by
 unfold vd at c;cases e:D[i]? with
 | none=>rw[e] at c;exact c.elim
 | some s =>
  rw[e] at c;obtain⟨f,y,m,A,_,G,q⟩:=vB w e;have b:DS X.K B (f++(s,y)::(m++T)) H:=by rw[G] at hd;simpa using hd
  cases s with
  | n=>exact c.elim
  | v d =>
   obtain⟨v,rfl,_⟩:=b.at;refine⟨v,A,k _ _ v H w ?_ c⟩;refine hd.push ?_;have:=b.valAt;rw[G];have t:dT ((f++(Sl.v d,some v)::m)++T)=dT (f++(m++T)):=by
    rw[bI,cS,Ek]
   rw[t];exact this
  | o d =>
   obtain⟨a,rfl,_⟩:=b.at;have E:=b.freeze;have F:(D.set i (.v d)).zip L=f++(.v d,some (.ref a))::m:=by
    have:=q (.v d) (some (.ref a));rw[zS A] at this;exact this
   have u:DS X.K B ((D.set i (.v d)).zip L++T) H:=by rw[F];simpa using E
   refine⟨.ref a,A,k _ _ _ H (by rw[aY];exact w) ?_ c⟩;refine u.push ?_;have:=E.valAt;rw[F];have t:dT ((f++(Sl.v d,some (V.ref a))::m)++T)=dT (f++(m++T)):=by
    rw[bI,cS,Ek]
   rw[t];exact this
theorem Ew (h:PE X e (tC v)) (r:∀ K A H,Rep K A H d v):PD X e (cd d):=h.mono λm H Q a=>a.elim λB f T i b hd c k=>k _ f v H b (hd.push (r _ _ _)) c
theorem hV:PD X (.Constant (.int i) j pos) (cd (.int i)):=Ew nW λ_ _ _=>.int i
theorem rR:PD X (.Constant (.str x) j pos) (cd (.str x)):=Ew vC λ_ _ _=>.str x
theorem tR:PD X (.Constant (.bool x) j pos) (cd (.b x)):=Ew Yb λ_ _ _=>.b x
abbrev O2:=D->D->(Sl->Prop)->Prop
def pD (K:mZ) (r:R2) (f:O2):Prop:=∀ (B:Bs) (L:oM) (H:Hp) (d e:D) (x y:V) (b:Sl->Prop) (Q:VK),DS K B L H->nY K (Al B (dT L)) H d x->nY K (Al B (dT L)) H e y->f d e b ->
 (∀ s v a,b s->DS K B ((s,some v)::L) a->Q v a)->r x y H Q
def d2 (f:O2) (g j:nN):nN:=λc m k=>g c m λh a=>j c a λi b=>match sd h,sd i with
 | some d,some e=>f d e λr=>k r b
 | _,_=>False
theorem Hw (o:pD X.K r f) (h:dE X.K (d2 f p C) l H Q):dE X.K p l H λx j=>dE X.K C l j λy g=>r x y g Q:=by
 obtain⟨B,N,T,O,w,hd,A,k⟩:=h;refine⟨B,N,T,_,w,hd,A,λq m x j D d1 u=>⟨B,m,(q,some x)::T,_,D,d1,u,λM n y g E d2 a=>?_⟩⟩;cases b:sd q with
 | none=>rw[b] at a;exact a.elim
 | some d =>
  cases c:sd M with
  | none=>rw[b,c] at a;exact a.elim
  | some e =>
   rw[b,c] at a;obtain⟨F,G,L⟩:=d2.two b c;exact o B _ g d e x y _ Q F G.peek L.peek a λs v t z i=>k s n v t E i.mid z
def xC (f:O2) (i:Nat) (g:nN):nN:=λc b k=>(at? b i).isSome=true/\g c b λh a=>match at? a i,sd h with
 | some d,some e=>f d e λr=>k r a
 | _,_=>False
def Om (f:O2) (g:nN) (i:Nat):nN:=λb k h=>g b k λc a=>match sd c,at? a i with
 | some d,some e=>f d e λr=>h r a
 | _,_=>False
theorem Gx (o:pD X.K r f) (h:dE X.K (xC f i p) j H Q):pY i j H λx l=>dE X.K p j l λy g=>r x y g Q:=by
 obtain⟨B,O,T,S,t,hd,⟨E,G⟩,k⟩:=h;obtain⟨P,D⟩:=eE.mp E;obtain⟨x,u,_⟩:=hd.peek t D;refine⟨x,u,B,O,T,_,t,hd,G,λN c y g w d2 a=>?_⟩;cases m:at? c i with
 | none=>rw[m] at a;exact a.elim
 | some d =>
  cases n:sd N with
  | none=>rw[m,n] at a;exact a.elim
  | some e =>
   rw[m,n] at a;obtain⟨z,M⟩:=d2.one n;obtain⟨R,b,L⟩:=z.peek w m;rw[u] at b;cases b;exact o B _ g d e x y _ Q z L M.peek a λs v A F q=>k s c v A w q.mid F
theorem BE (o:pD X.K r f) (h:dE X.K (Om f p i) j H Q):dE X.K p j H λx g=>pY i j g λy l=>r x y l Q:=by
 obtain⟨B,G,T,L,w,hd,A,k⟩:=h;refine⟨B,G,T,_,w,hd,A,λF b x g q d1 a=>?_⟩;cases c:sd F with
 | none=>rw[c] at a;exact a.elim
 | some d =>
  cases m:at? b i with
  | none=>rw[c,m] at a;exact a.elim
  | some e =>
   rw[c,m] at a;obtain⟨t,E⟩:=d1.one c;obtain⟨y,D,py⟩:=t.peek q m;exact⟨y,D,o B _ g d e x y _ Q t E.peek py a λs v u z n=>k s b v u q n.mid z⟩
theorem sP (o:nR X (binaryOp op) r) (l:pD X.K r f) (i:Nat) (j:PD X b p) (g:PE X a (pY i):=by exact pv _):PD X (.BinOp a op b pos) (xC f i p):=(nV o g j).mono λ_ _ _ h=>Gx l h
theorem Gp (p:nR X (compareOp op) r) (l:pD X.K r f) (g:PE X a (pY i)) (j:PD X b C) (o:behindInMarks op b=false:=by first | exact wS _ | (with_unfolding_all rfl)):PD X (.Compare a [op] [b] pos) (xC f i C) :=
 (II p g j o).mono λ_ _ _ h=>Gx l h
theorem qF (o:nR X (binaryOp op) r) (l:pD X.K r f) (g:PD X a p) (j:PD X b C):PD X (.BinOp a op b pos) (d2 f p C):=(nV o g j).mono λ_ _ _ h=>Hw l h
def uX (t:nN):qV:=λc e d=>t c e λr a=>match r with
 | .v (.b b)=>d b a
 | _=>False
theorem Lg (h:sQ X.K (uX t) j H Q):dE X.K t j H λx g=>∃ k,x = .b k/\Q k g:=by
 obtain⟨B,m,T,q,e,hd,f,k⟩:=h;refine⟨B,m,T,_,e,hd,f,λr c v g i d1 a=>?_⟩;cases r with
 | n=>exact a.elim
 | o d=>exact a.elim
 | v d =>
  cases d with
  | b b=>exact⟨b,d1.valAt.bl_inv,k b c g i d1.drop a⟩
  | _=>exact a.elim
theorem qT (p:nR X (compareOp op) r) (l:pD X.K r f) (g:PE X a (pY i)) (j:PD X b C) (o:behindInMarks op b=false:=by first | exact wS _ | (with_unfolding_all rfl)):tK X (.Compare a [op] [b] pos) (uX (xC f i C)) :=
 (vO p g j o).mono λc H Q h=>Gx l (Lg h)
theorem Jv (p:nR X (compareOp op) r) (l:pD X.K r f) (g:PD X a C) (j:PE X b (pY i)) (o:behindInMarks op b=false:=by first | exact wS _ | (with_unfolding_all rfl)):tK X (.Compare a [op] [b] pos) (uX (Om f C i)) :=
 (vO p g j o).mono λc H Q h=>BE l (Lg h)
theorem sZ (p:nR X (compareOp op) r) (l:pD X.K r f) (g:PD X a C) (j:PD X b I) (o:behindInMarks op b=false:=by first | exact wS _ | (with_unfolding_all rfl)):tK X (.Compare a [op] [b] pos) (uX (d2 f C I)) :=
 (vO p g j o).mono λc H Q h=>by
  have:=Lg h;exact Hw l this
end
section
variable [DecidableEq κ]
noncomputable def nK (g:Aa (κ×D)) (k:κ):Ab D:=(g.find? λa=>decide (a.1=k)).map (·.2)
noncomputable def oA (g:Aa (κ×D)) (k:κ) (d:D):Aa (κ×D):=if g.any (λa=>decide (a.1=k)) then g.map (λa=>if a.1=k then (a.1,d) else a) else g++[(k,d)]
theorem Jl:nK ([]:Aa (κ×D)) k=none:=rfl
theorem sB {k j:κ}{d:D}{r:Aa (κ×D)}:nK ((j,d)::r) k=if j=k then some d else nK r k:=by
 unfold nK;rw[List.find?_cons];by_cases h:j=k<;>simp[h]
theorem Jn (k:κ):∀ g:Aa (κ×D),(g.any λl=>decide (l.1=k))=(nK g k).isSome
 | []=>rfl
 | (j,d)::r=>by
  rw[sB,eZ,Jn k r];by_cases h:j=k<;>simp[h]
theorem zP (g:Aa (κ×D)) (k j:κ) (d:D):nK (oA g k d) j=if k=j then some d else nK g j:=by
 unfold oA;rw[Jn];have a:∀ r:Aa (κ×D),nK (r.map λf=>if f.1=k then (f.1,d) else f) j=if k=j then (nK r j).map (λ_=>d) else nK r j:=by
  intro r;induction r with
  | nil=>simp[Jl]
  | cons p r b =>
   obtain⟨i,e⟩:=p;rw[aO];by_cases h:i=k
   .subst h;simp only[gW,sB,b];by_cases z:i=j<;>simp[z]
   .simp only[h,fJ,sB,b];by_cases z:i=j
    .subst z;simp[eV h]
    .simp[z]
 have c:∀ r:Aa (κ×D),nK r k=none->nK (r++[(k,d)]) j=if k=j then some d else nK r j:=by
  intro r;induction r with
  | nil=>intro _;rw[kH,sB,Jl]
  | cons p r b =>
   obtain⟨i,e⟩:=p;rw[sB];by_cases h:i=k
   .simp[h]
   .rw[aI h];intro m;rw[cS,sB,b m,sB];by_cases z:i=j
    .subst z;simp[eV h]
    .simp[z]
 cases e:nK g k with
 | none=>simp only[Option.isSome_none,dU,fJ];exact c g e
 | some w =>
  simp only[lX,gW,a];by_cases z:k=j
  .subst z;simp[e]
  .simp[z]
theorem zQ (g:Aa (κ×D)) (k:κ) (d:D):(oA g k d).length<=g.length+1:=by
 unfold oA;split<;>simp
end
section
variable [DecidableEq κ] {K:mZ}
theorem A5:∀ {l:Aa (κ×D)}{g:Aa (κ×V)},l.map (·.1)=g.map (·.1)->Reps K A H (l.map (·.2)) (g.map (·.2))->∀ k,(∀ d,nK l k=some d->∃ v,qK g k=some v/\Rep K A H d v)/\(nK l k=none->qK g k=none)
 | [],[],_,_,k=>⟨λd h=>by simp[Jl] at h,λ_=>rfl⟩
 | [],_::_,e,_,_=>by simp at e
 | _::_,[],e,_,_=>by simp at e
 | (i,d)::l,(j,v)::g,e,r,k=>by
  simp only[aO,fW] at e;obtain⟨a,b⟩:=e;subst a;cases r with
  | cons h r =>
   have c:=A5 b r k;rw[sB];by_cases z:i=k
   .rw[aP z,C0 z];exact⟨λf q=>by cases q;exact⟨v,rfl,h⟩,λq=>by cases q⟩
   .rw[aI z,C3 z];exact c
theorem Bl {ds:Aa (κ×D)}{kvs:Aa (κ×V)}(e:ds.map (·.1)=kvs.map (·.1)) (r:Reps K A H (ds.map (·.2)) (kvs.map (·.2))){k:κ}{d:D}{v:V}(h:Rep K A H d v) :
  (oA ds k d).map (·.1)=(oK kvs k v).map (·.1)/\Reps K A H ((oA ds k d).map (·.2)) ((oK kvs k v).map (·.2)):=by
 have m:∀ (ds:Aa (κ×D)) (kvs:Aa (κ×V)),ds.map (·.1)=kvs.map (·.1)->(ds.any λa=>decide (a.1=k))=kvs.any λa=>decide (a.1=k):=by
  intro ds;induction ds with
  | nil=>intro kvs e;cases kvs with
   | nil=>rfl
   | cons _ _=>simp at e
  | cons p ds b=>intro kvs e;cases kvs with
   | nil=>simp at e
   | cons q kvs =>
    simp only[aO,fW] at e;rw[eZ,eZ,b kvs e.2,e.1]
 have n:∀ (ds:Aa (κ×D)) (kvs:Aa (κ×V)),ds.map (·.1)=kvs.map (·.1)->Reps K A H (ds.map (·.2)) (kvs.map (·.2)) ->
   (ds.map λa=>if a.1=k then (a.1,d) else a).map (·.1)=(kvs.map λa=>if a.1=k then (a.1,v) else a).map (·.1) /\
   Reps K A H ((ds.map λa=>if a.1=k then (a.1,d) else a).map (·.2)) ((kvs.map λa=>if a.1=k then (a.1,v) else a).map (·.2)):=by
  intro ds;induction ds with
  | nil=>intro kvs e r;cases kvs with
   | nil=>exact⟨rfl,.nil⟩
   | cons _ _=>simp at e
  | cons p ds b=>intro kvs e r;cases kvs with
   | nil=>simp at e
   | cons q kvs =>
    simp only[aO,fW] at e;cases r with
    | cons g r =>
     obtain⟨c,f⟩:=b kvs e.2 r;obtain⟨i,s⟩:=p;obtain⟨j,v0⟩:=q;obtain⟨rfl,t⟩:=e;by_cases z:i=k
     .simp only[aO,z,gW];exact⟨by rw[c],.cons h f⟩
     .simp only[aO,z,fJ];exact⟨by rw[c],.cons g f⟩
 unfold oA oK;rw[m ds kvs e];by_cases z:(kvs.any λa=>decide (a.1=k))=true
 .rw[aP z,aP z];exact n ds kvs e r
 .rw[aI z,aI z];simp only[bF,aO,mQ];exact⟨by rw[e],r.append (.cons h .nil)⟩
end
section
variable {X:Cx}{K:mZ}
def Nc (K:mZ):R2:=λx y H Q=>∃ a b c,x = .ref a/\y = .ref b/\nQ K H a []/\nQ K H b c/\Q (.ref b) H
theorem HU:nR X (binaryOp .Add) (Nc X.K):=by
 intro w s Y H x y v u Q I N O h;obtain⟨a,b,W,rfl,rfl,B,D,q⟩:=h;cases N;cases O;obtain⟨E,M,G,_⟩:=I.tuple B;obtain⟨t,V,L,_⟩:=I.tuple D;cases M;obtain⟨⟨P,A,S,sl⟩,m,k,n,hd⟩:=id G;obtain⟨⟨R,f,z,i⟩,e,c,F,d⟩:=id L;simp only at k hd c d;subst k hd c d;exact concat_meets ⟨_,m,rfl⟩ ⟨_,e,rfl⟩ noFill_tuple_add seq_tuple_add lA kS (kC _ _)
  (tuple_addW0 a b _ _ n F A f sl i (by simp)) ⟨m,e,⟨.ref b,H,I,rfl,q⟩⟩
def Qp (K:mZ):R2:=λx y H Q=>(sW λi j=>.int (i+j)) x y H Q\/(∃ i j,x = .str i/\y = .str j/\i.length+j.length<=sizeLine/\Q (.str (i++j)) H)\/Tg x y H Q\/Qy K x y H Q\/Nc K x y H Q
theorem tU:nR X (binaryOp .Add) (Qp X.K):=tY.or (wG.or (A3.or (S2.or HU)))
theorem xY (h:n<=100000):n<=sizeLine:=bD h (by decide)
def Ym:O2
 | .int i,.int j,a=>a (.v (.int (i+j)))
 | .str i,.str j,a=>i.length+j.length<=100000/\a (.v (.str (i++j)))
 | .l b,.l c,a=>b.length+c.length<=100000/\a (.o (.l (b++c)))
 | .t b,.t c,a=>b.length+c.length<=100000/\a (.v (.t (b++c)))
 | _,_,_=>False
theorem tV:pD K (Qp K) Ym:=by
 intro B L H d e x y A Q hd n s c k;cases d<;>first | exact False.elim c | skip<;>cases e<;>first | exact False.elim c | skip
 .cases n;cases s;exact .inl ⟨_,_,rfl,rfl,k _ _ H c (hd.pushF (.int _))⟩
 .cases n;cases s;exact .inr (.inl ⟨_,_,rfl,rfl,xY c.1,k _ _ H c.2 (hd.pushF (.str _))⟩)
 .obtain⟨a,m,rfl,t,f⟩:=n.tup_inv;obtain⟨b,i,rfl,u,h⟩:=s.tup_inv;have v:m.length+i.length<=100000:=by rw[<- f.length,<- h.length];exact c.1
  by_cases z:m=[]
  .subst z;have:=f.nil_iff.mp rfl;subst this;exact .inr (.inr (.inr (.inr ⟨a,b,i,rfl,rfl,nQ.of t,nQ.of u,k _ _ H c.2 (hd.pushF s)⟩)))
  .refine .inr (.inr (.inr (.inl ⟨a,b,m,i,rfl,rfl,nQ.of t,nQ.of u,z,xY v,λq=>?_,λ_ p w=>k _ _ _ c.2 (hd.tupF w (f.append h))⟩)));subst q;have:=h.nil_iff.mp rfl;subst this;exact k _ _ H c.2 (by rw[dN];exact hd.pushF n)
 .obtain⟨a,m,rfl,t,f⟩:=n.lst_inv;obtain⟨b,i,rfl,u,h⟩:=s.lst_inv;have v:m.length+i.length<=100000:=by rw[<- f.length,<- h.length];exact c.1
  exact .inr (.inr (.inl ⟨a,b,m,i,rfl,rfl,t,u,xY v,λp w=>k _ _ _ c.2 (hd.lstF w (f.append h))⟩))
def fI (C:Int->Int->Prop) (g:Int->Int->D):O2
 | .int i,.int j,a=>C i j/\a (.v (g i j))
 | _,_,_=>False
theorem Cz (p:∀ i j,C i j->l i j) (r:∀ A H i j,Rep K A H (g i j) (o i j)):pD K (rI l o) (fI C g):=by
 intro B L H d e x y f Q hd b c a k;cases d<;>first | exact False.elim a | skip<;>cases e<;>first | exact False.elim a | skip
 cases b;cases c;exact⟨_,_,rfl,rfl,p _ _ a.1,k _ _ H a.2 (hd.pushF (r _ _ _ _))⟩
def Ai (g:Int->Int->D):O2
 | .int i,.int j,a=>a (.v (g i j))
 | _,_,_=>False
theorem C5 (o:∀ A H i j,Rep K A H (g i j) (l i j)):pD K (sW l) (Ai g):=by
 intro B L H d e x y f Q hd b c a k;cases d<;>first | exact False.elim a | skip<;>cases e<;>first | exact False.elim a | skip
 cases b;cases c;exact⟨_,_,rfl,rfl,k _ _ H a (hd.pushF (o _ _ _ _))⟩
abbrev KH:O2:=Ai λi j=>.int (i-j)
theorem E7:pD K (sW λi j=>.int (i-j)) KH:=C5 λ_ _ _ _=>.int _
def Pt:R2:=λx y H Q=>(rI Ff λi j=>.int (i*j)) x y H Q\/Ow x y H Q
theorem Iq:nR X (binaryOp .Mult) Pt:=wW.or LG
def Xu:O2
 | .int i,.int j,a=>((-(2 ^ 64)<i/\i<2 ^ 64)\/(-(2 ^ 64)<j/\j<2 ^ 64))/\a (.v (.int (i*j)))
 | .l b,.int k,a=>0<=k/\k<=1000/\b.length<=100/\a (.o (.l (List.replicate k.toNat b).flatten))
 | _,_,_=>False
theorem Pf (r:Reps K A H g j):∀ k:Nat,Reps K A H (List.replicate k g).flatten (List.replicate k j).flatten
 | 0=>.nil
 | k+1=>by rw[cR,cR,gJ,gJ];exact r.append (Pf r k)
theorem Jo:pD K Pt Xu:=by
 intro B L H d e x y w Q hd h i b k;cases d<;>first | exact False.elim b | skip<;>cases e<;>first | exact False.elim b | skip
 .cases h;cases i;exact .inl ⟨_,_,rfl,rfl,b.1,k _ _ H b.2 (hd.pushF (.int _))⟩
 .cases i
  rename_i n
  obtain⟨a,m,rfl,q,f⟩:=h.lst_inv;obtain⟨u,v,s,b⟩:=b;have c:m.length<=100:=by rw[<- f.length];exact s
  refine .inr ⟨a,n,m,rfl,rfl,q,by omega,by omega,bD (iU c (show n.toNat<=1000 by omega)) (by decide),λp t=>?_⟩;exact k _ _ _ b (hd.lstF t (Pf f _))
theorem HD {j:Int}(g:0<j) (h:j<2 ^ 64):j.natAbs.log2<9000:=by
 have:j.natAbs<2 ^ 64:=by omega
 exact aW ((Nat.log2_lt (by omega)).mpr this) (by decide)
theorem Mh:nR X (binaryOp .FloorDiv) (rI (λ_ j=>0<j/\j<2 ^ 64) λi j=>.int (i/j)):=zF λi j _ _ _ _ _ a q=>by
 refine floordiv_int (by omega) ?_ (.inl (PyProof.noPylong_of_log2 (HD a.1 a.2)));rw[fP _ (by omega)];exact q
abbrev GJ:O2:=fI (λ_ j=>0<j/\j<2 ^ 64) λi j=>.int (i/j)
theorem Yo:pD K (rI (λ_ j=>0<j/\j<2 ^ 64) λi j=>.int (i/j)) GJ:=Cz (λ_ _ h=>h) λ_ _ _ _=>.int _
abbrev X3:O2:=fI (λ_ j=>0<j) λi j=>.int (i%j)
theorem B9:pD K (rI (λ_ j=>0<j) λi j=>.int (i%j)) X3:=Cz (λ_ _ h=>h) λ_ _ _ _=>.int _
abbrev Vv:O2:=fI (λi j=>0<=j/\j<=1000000/\i.natAbs<2 ^ 64) λi j=>.int (i ^ j.toNat)
theorem LX:pD K (rI M4 λi j=>.int (i ^ j.toNat)) Vv:=Cz (λ_ _ h=>h) λ_ _ _ _=>.int _
abbrev HW:O2:=Ai λi j=>.b (decide (i<j))
theorem Mo:pD K (sW λi j=>.b (decide (i<j))) HW:=C5 λ_ _ _ _=>.b _
abbrev JK:O2:=Ai λi j=>.b (decide (i<=j))
theorem GW:pD K (sW λi j=>.b (decide (i<=j))) JK:=C5 λ_ _ _ _=>.b _
abbrev GI:O2:=Ai λi j=>.b (decide (j<i))
theorem Lv:pD K (sW λi j=>.b (decide (j<i))) GI:=C5 λ_ _ _ _=>.b _
abbrev NC:O2:=Ai λi j=>.b (decide (j<=i))
theorem Pg:pD K (sW λi j=>.b (decide (j<=i))) NC:=C5 λ_ _ _ _=>.b _
end
noncomputable def rX:D->Ab hG
 | .int i=>some (.inl i)
 | .str x=>some (.inr x)
 | _=>none
def wQ:Aa D->Ab (Aa hG)
 | []=>some []
 | d::a=>match rX d,wQ a with
  | some k,some b=>some (k::b)
  | _,_=>none
noncomputable def nb (neg b:Bool):Bool:=if neg then !b else b
section
variable {X:Cx}{K:mZ}
theorem Bd (h:rX d=some k) (r:nY K A H d v):v=kV k:=by
 cases d<;>cases h
 .exact r.int_inv
 .exact r.str_inv
theorem Gy (h:wQ g=some j) (l:Reps K A H g o):o=j.map kV:=by
 induction g generalizing j o with
 | nil=>cases l;cases h;rfl
 | cons d g c =>
  cases l with
  | cons r l =>
  have h:=(show (match rX d,wQ g with | some k,some j=>some (k::j) | _,_=>none)=some j from h);cases a:rX d with
  | none=>rw[a] at h;cases h
  | some k =>
   cases b:wQ g with
   | none=>rw[a,b] at h;cases h
   | some e =>
    rw[a,b] at h;cases h;rw[Bd a r.peek,c b l];rfl
def vK:D->Ab MK
 | .t a=>(wQ a).map Sum.inr
 | d=>(rX d).map Sum.inl
theorem Uf (h:vK e=some k) (r:nY K A H e y):tZ H k y:=by
 have lf:(rX e).map Sum.inl=some k->tZ H k y:=λh=>by
  obtain⟨j,a,rfl⟩:=bU.mp h;exact Bd a r
 cases e with
 | t i =>
  obtain⟨j,a,rfl⟩:=bU.mp h;obtain⟨b,f,rfl,c,d⟩:=r.tup_inv;exact⟨b,rfl,by rw[Gy a d] at c;exact c⟩
 | _=>exact lf h
def tX:D->D->Ab (Ab D)
 | .k a,d=>(rX d).map (nK a)
 | .T a,.t b=>(wQ b).map (nK a)
 | .dM a,e=>(vK e).map (nK a)
 | _,_=>none
theorem Ly (h:tX d e=some o) (g:nY K A H d x) (j:nY K A H e y):∃ a w,x = .ref a/\tO H a y w/\(∀ c,o=some c->∃ v,w=some v/\Rep K A H c v)/\(o=none->w=none):=by
 cases d with
 | k f =>
  obtain⟨a,B,rfl,n,i,z⟩:=g.dK_inv;obtain⟨k,hk,rfl⟩:=bU.mp h;rw[Bd hk j];obtain⟨s,u⟩:=A5 i z k;exact⟨a,_,rfl,.inl ⟨B,k,n,rfl,rfl⟩,λc q=>s c q,u⟩
 | T f =>
  obtain⟨a,B,rfl,n,i,z⟩:=g.dT_inv;cases e with
  | t G =>
   obtain⟨b,F,rfl,D,E⟩:=j.tup_inv;obtain⟨k,hk,rfl⟩:=bU.mp h;rw[Gy hk E] at D;obtain⟨s,u⟩:=A5 i z k;exact⟨a,_,rfl,.inr (.inl ⟨B,k,b,n,rfl,D,rfl⟩),λc q=>s c q,u⟩
  | _=>cases h
 | dM f =>
  obtain⟨a,B,rfl,n,i,z⟩:=g.dM_inv;obtain⟨k,hk,rfl⟩:=bU.mp (show (vK e).map (nK f)=some o from h);obtain⟨s,u⟩:=A5 i z k;exact⟨a,_,rfl,tO.m n (Uf hk j),λc q=>s c q,u⟩
 | _=>cases h
def Q5:R2:=λx y H Q=>∃ a v,x = .ref a/\tO H a y (some v)/\Q v H
theorem Wt (j:X.A.units+1<cLine):uS X Q5:=by
 intro value slice b s m H x y v u Q I i k h f;obtain⟨a,w,rfl,g,q⟩:=h;cases i;unfold subscriptTail;refine aB ?_;rw[getitemInPython_of_ne (Sc I g).not_modules];refine aB (wpAny_specialOf (Sc I g) PySem.F.slot_dict_getitem.lookup ?_);have fin:wpAny (model X.prog X.w) X.A (subscripted slice false (.ref a) u) (λr c=>wpAny (model X.prog X.w) X.A (letTemporaryGo value (.ref a) r >>= λ_=>pure r) (EP X b m Q) X.xe c) X.xe s:=by
  rw[f];exact wpAny_operating (Zp j I g k λt n e d=>aB (wpAny_letTemporaryGo (aD ⟨w,H,e,d,q⟩)))
 first
  | exact aD (aB fin)
  | exact aB (aD (aB fin))
  | exact aB fin
def K4 (K:mZ):R2:=λx y H Q=>Q6 K x y H Q\/Q5 x y H Q
theorem Sf (g:X.A.units+1<cLine):uS X (K4 X.K):=Y4.or (Wt g)
def Gs:O2:=λd e b=>match d,e with
 | .l a,.int i=>∃ c,pA a i=some c/\b (.v c)
 | .t a,.int i=>∃ c,pA a i=some c/\b (.v c)
 | .con a,.int i=>∃ c,pA a i=some c/\b (.v c)
 | .c a,.int i=>∃ c,pA a i=some c/\b (.v c)
 | .str z,.int i=>z.length<=100000/\∃ c,pA z.cps.toList i=some c/\b (.v (.str ⟨#[c]⟩))
 | d,e=>∃ c,tX d e=some (some c)/\b (.v c)
theorem Eb (r:Reps K A H g l) (h:pA g i=some c):∃ v,pA l i=some v/\Rep K A H c v:=by
 unfold pA at h |-;rw[<- r.length];cases e:rZ g.length i with
 | none=>rw[e] at h;cases h
 | some j =>
  rw[e] at h;obtain⟨v,a,b⟩:=r.get (i:=j) h;exact⟨v,a,b⟩
theorem Ng:pD K (K4 K) Gs:=by
 intro B L H d e x y D Q hd t u b k;have f:(∃ c,tX d e=some (some c)/\D (.v c))->K4 K x y H Q:=λz=>by
  obtain⟨c,h,b⟩:=z;obtain⟨a,w,rfl,g,i,_⟩:=Ly h t u;obtain⟨v,rfl,m⟩:=i c rfl;exact .inr ⟨a,v,rfl,g,k _ _ H b (hd.pushF m)⟩
 cases d<;>first | exact f b | skip
 .cases e<;>first | exact f b | skip
  cases u;cases t;obtain⟨A,c,h,b⟩:=b;exact .inl (.inr (.inr ⟨_,_,c,rfl,rfl,xY A,h,k _ _ H b (hd.pushF (.str _))⟩))
 .obtain⟨a,s,rfl,i,q⟩:=t.tup_inv;cases e<;>first | exact f b | skip
  cases u;obtain⟨c,h,b⟩:=b;obtain⟨v,n,m⟩:=Eb q h;exact .inl (.inr (.inl ⟨a,s,_,v,rfl,rfl,nQ.of i,n,k _ _ H b (hd.pushF m)⟩))
 .obtain⟨a,s,rfl,i,q⟩:=t.lst_inv;cases e<;>first | exact f b | skip
  cases u;obtain⟨c,h,b⟩:=b;obtain⟨v,n,m⟩:=Eb q h;exact .inl (.inl ⟨a,s,_,v,rfl,rfl,eH.of i,n,k _ _ H b (hd.pushF m)⟩)
 .obtain⟨a,s,rfl,i,q⟩:=t.scr_inv;cases e<;>first | exact f b | skip
  cases u;obtain⟨c,h,b⟩:=b;obtain⟨v,n,m⟩:=Eb q h;exact .inl (.inl ⟨a,s,_,v,rfl,rfl,i.sqL,n,k _ _ H b (hd.pushF m)⟩)
 .obtain⟨a,s,rfl,i,q⟩:=t.con_inv;cases e<;>first | exact f b | skip
  cases u;obtain⟨c,h,b⟩:=b;obtain⟨v,n,m⟩:=Eb q h;exact .inl (.inr (.inl ⟨a,s,_,v,rfl,rfl,i.sqT,n,k _ _ H b (hd.pushF m)⟩))
theorem vV (o:X.A.units+1<cLine) (g:PD X a p) (j:PD X b r) (l:Im b:=by exact λ_ _=>rfl):PD X (.Subscript a b pos) (d2 Gs p r) :=
 (qC (Sf o) g j l).mono λ_ _ _ h=>Hw Ng h
def Ot (neg:Bool):R2:=λy x H Q=>∃ a o,x = .ref a/\tO H a y o/\Q (.b (nb neg o.isSome)) H
theorem EV (j:X.A.units+1<cLine):nR X (compareOp .NotIn) (Ot true):=by
 intro c s k H x y v u Q I e f h;obtain⟨a,o,rfl,g,q⟩:=h;cases f;exact Td j I g e λi d=>⟨.b (!o.isSome),H,d,rfl,q⟩
def Nt (neg:Bool):R2:=λx y H Q=>∃ i j,x = .str i/\y = .str j/\Q (.b (nb neg (!(Builtin.Str.occurrences j i 0 j.length 1).isEmpty))) H
def Hs (K:mZ) (neg:Bool):R2:=λx y H Q=>F6 K neg x y H Q\/Nt neg x y H Q\/Ot neg x y H Q
theorem Ku (g:X.A.units+1<cLine):nR X (compareOp .NotIn) (Hs X.K true):=Vu.or ((show nR X (compareOp .NotIn) (Nt true) from GY).or (EV g))
noncomputable def vQ:D->Ab V
 | .e=>some .e
 | .b b=>some (.b b)
 | .int i=>some (.int i)
 | .str x=>some (.str x)
 | _=>none
def wR:Aa D->Ab (Aa V)
 | []=>some []
 | d::a=>match vQ d,wR a with
  | some v,some b=>some (v::b)
  | _,_=>none
theorem R4 {l:Type}{f:l->D}{g:l->V}(h:∀ x,vQ (f x)=some (g x)):∀ j:Aa l,wR (j.map f)=some (j.map g)
 | []=>rfl
 | x::j=>by
  show (match vQ (f x),wR (j.map f) with | some v,some a=>some (v::a) | _,_=>none)=_;rw[h x,R4 h j];rfl
theorem C4 (h:vQ d=some u) (r:nY K A H d v):v=u/\qW u=true:=by
 cases d<;>cases h<;>cases r<;>exact⟨rfl,rfl⟩
theorem Tr (h:wR g=some l) (j:Reps K A H g o):o=l/\l.all qW=true:=by
 induction g generalizing l o with
 | nil=>cases j;cases h;exact⟨rfl,rfl⟩
 | cons d g m =>
  cases j with
  | cons r j =>
  have h:=(show (match vQ d,wR g with | some v,some o=>some (v::o) | _,_=>none)=some l from h);cases a:vQ d with
  | none=>rw[a] at h;cases h
  | some k =>
   cases b:wR g with
   | none=>rw[a,b] at h;cases h
   | some n =>
    rw[a,b] at h;cases h;obtain⟨c,e⟩:=C4 a r.peek;obtain⟨f,i⟩:=m b j;exact⟨by rw[c,f],by rw[List.all_cons,e,i];rfl⟩
def Gk (neg:Bool) (d:D) (g:Aa D) (j:Sl->Prop):Prop:=∃ v a,vQ d=some v/\wR g=some a/\j (.v (.b (nb neg (xS v a))))
def CM (neg:Bool):O2:=λd e c=>match e with
 | .l a=>Gk neg d a c
 | .t a=>Gk neg d a c
 | .con a=>Gk neg d a c
 | .str j=>∃ i,d = .str i/\c (.v (.b (nb neg (!(Builtin.Str.occurrences j i 0 j.length 1).isEmpty))))
 | e=>∃ o,tX e d=some o/\c (.v (.b (nb neg o.isSome)))
theorem Jy (neg:Bool):pD K (Hs K neg) (CM neg):=by
 intro B L H d e x y G Q hd E s h k;have seq:∀ (a:Ad) (F:Aa D) (t:Aa V),Gk neg d F G->y = .ref a->(eH K H a t\/nQ K H a t)->Reps K (Al B (dT L)) H F t->Hs K neg x y H Q:=by
  rintro a F t ⟨v,m,f,z,M⟩ rfl O r;obtain⟨P,R⟩:=C4 f E;obtain⟨S,W⟩:=Tr z r;subst P S;exact .inl ⟨a,t,rfl,O,R,W,k _ _ H M (hd.pushF (.b _))⟩
 have u:(∃ o,tX e d=some o/\G (.v (.b (nb neg o.isSome))))->Hs K neg x y H Q:=λA=>by
  obtain⟨o,N,h⟩:=A;obtain⟨a,w,rfl,g,f,z⟩:=Ly N s E;have e:o.isSome=w.isSome:=by
   cases o with
   | none=>rw[z rfl];rfl
   | some c=>obtain⟨v,rfl,_⟩:=f c rfl;rfl
  exact .inr (.inr ⟨a,w,rfl,g,by rw[<- e];exact k _ _ H h (hd.pushF (.b _))⟩)
 cases e<;>first | exact u h | skip
 .obtain⟨i,rfl,h⟩:=h;cases E;cases s;exact .inr (.inl ⟨_,_,rfl,rfl,k _ _ H h (hd.pushF (.b _))⟩)
 .obtain⟨a,m,n,f,q⟩:=s.tup_inv;exact seq a _ m h n (.inr (nQ.of f)) q
 .obtain⟨a,m,n,f,q⟩:=s.lst_inv;exact seq a _ m h n (.inl (eH.of f)) q
 .obtain⟨a,m,n,f,q⟩:=s.con_inv;exact seq a _ m h n (.inr f.sqT) q
end
mutual
def py:D->PyData
 | .e=>.none
 | .b b=>.bool b
 | .int i=>.int i
 | .str x=>.str x
 | .t a=>.tuple (rS a)
 | .l a=>.list (rS a)
 | .con a=>.tuple (rS a)
 | .c a=>.list (rS a)
 | _=>.none
def rS:Aa D->Aa PyData
 | []=>[]
 | d::a=>py d::rS a
end
mutual
def oF:D->Bool
 | .e=>true
 | .b _=>true
 | .int _=>true
 | .str x=>PyData.strOk x
 | .t a=>sY a
 | .l a=>sY a
 | .con a=>sY a
 | .c a=>sY a
 | _=>false
def sY:Aa D->Bool
 | []=>true
 | d::a=>oF d&&sY a
end
section
variable {X:Cx}{K:mZ}
mutual
theorem Mg:∀ {d:D}{v:V},Rep K A H d v->oF d=true->DatV K H v (py d)
 | _,_,.e,_=>.e
 | _,_,.b b,_=>.b b
 | _,_,.int i,_=>.int i
 | _,_,.str x,_=>.str x
 | _,_,.r v,e=>by simp[oF] at e
 | _,_,.t h r,e=>.t (nQ.of h) (yJ r (by simpa [oF] using e))
 | _,_,.con h r,e=>.t h.sqT (yJ r (by simpa [oF] using e))
 | _,_,.l _ h r,e=>.l (eH.of h) (yJ r (by simpa [oF] using e))
 | _,_,.c h r,e=>.l h.sqL (yJ r (by simpa [oF] using e))
 | _,_,.k _ _ _ _,e=>by simp[oF] at e
 | _,_,.T _ _ _ _,e=>by simp[oF] at e
 | _,_,.dM _ _ _ _,e=>by simp[oF] at e
theorem yJ:∀ {g:Aa D}{j:Aa V},Reps K A H g j->sY g=true->DatVs K H j (rS g)
 | _,_,.nil,_=>.nil
 | _,_,.cons h r,e=>by
  rw[sY,cA] at e;exact .cons (Mg h e.1) (yJ r e.2)
end
theorem J8 (h:nY K A H d v) (e:oF d=true):DatV K H v (py d):=by
 cases d with
 | l _=>obtain⟨a,b,rfl,h,r⟩:=h.lst_inv;exact .l (eH.of h) (yJ r (by simpa [oF] using e))
 | k _=>simp[oF] at e
 | T _=>simp[oF] at e
 | dM _=>simp[oF] at e
 | _=>exact Mg h e
mutual
theorem Ce:∀ {d:D},oF d=true->(py d).canLay0=true
 | .e,_=>rfl
 | .b _,_=>rfl
 | .int _,_=>rfl
 | .str x,e=>by simpa [py,PyData.canLay0,oF] using e
 | .t a,e=>by simp only[py,PyData.canLay0];exact Bh (by simpa [oF] using e)
 | .con a,e=>by simp only[py,PyData.canLay0];exact Bh (by simpa [oF] using e)
 | .l a,e=>by simp only[py,PyData.canLay0];exact Bh (by simpa [oF] using e)
 | .c a,e=>by simp only[py,PyData.canLay0];exact Bh (by simpa [oF] using e)
 | .r _,e=>by simp[oF] at e
 | .k _,e=>by simp[oF] at e
 | .T _,e=>by simp[oF] at e
 | .dM _,e=>by simp[oF] at e
theorem Bh:∀ {g:Aa D},sY g=true->PyData.canLayAll0 (rS g)=true
 | [],_=>rfl
 | d::g,e=>by
  rw[sY,cA] at e;simp only[rS,PyData.canLayAll0,Ce e.1,Bh e.2,Bool.and_self]
end
mutual
theorem Rv:∀ {d:D},oF d=true->PyData.eqv (py d) (py d)=true
 | .e,_=>rfl
 | .b b,_=>by simp[py,PyData.eqv]
 | .int i,_=>by simp[py,PyData.eqv]
 | .str x,_=>by simp[py,PyData.eqv]
 | .t a,e=>by simp only[py,PyData.eqv];exact Dm (by simpa [oF] using e)
 | .con a,e=>by simp only[py,PyData.eqv];exact Dm (by simpa [oF] using e)
 | .l a,e=>by simp only[py,PyData.eqv];exact Dm (by simpa [oF] using e)
 | .c a,e=>by simp only[py,PyData.eqv];exact Dm (by simpa [oF] using e)
 | .r _,e=>by simp[oF] at e
 | .k _,e=>by simp[oF] at e
 | .T _,e=>by simp[oF] at e
 | .dM _,e=>by simp[oF] at e
theorem Dm:∀ {g:Aa D},sY g=true->PyData.eqvAll (rS g) (rS g)=true
 | [],_=>rfl
 | d::g,e=>by
  rw[sY,cA] at e;simp only[rS,PyData.eqvAll,Rv e.1,Dm e.2,Bool.and_self]
end
def Pk (v:Bool):R2:=λx y H Q=>∃ (a b:Ad) (c d:Aa (hG×V)),x = .ref a/\y = .ref b/\Rd H a (.k c)/\Rd H b (.k d)/\c.length=d.length /\
 (∀ p∈c,∃ w,qK d p.1=some w/\qW p.2=true/\qW w=true/\pI p.2 w=true)/\Q (.b v) H
theorem Wr {A:Around}{s:Ae}{g:Aa (hG×V)}{o:Aa (hG×Ac)}(C:KV g o) (r:Aa (hG×V)) (j:Aa (hG×Ac)) (h:KV r j)
  (l:∀ p∈r,∃ w,qK g p.1=some w/\qW p.2=true/\qW w=true/\pI p.2 w=true):PySem.W.KeqHits A s o j true:=by
 induction h with
 | nil=>exact .nil
 | @cons a b r j m B q =>
  obtain⟨k,v⟩:=a;obtain⟨t,z⟩:=b;obtain⟨e,u⟩:=m;have e:k=t:=e;subst e;obtain⟨w,hw,f1,f2,i⟩:=l (k,v) aE;have d:=C.val k;rw[hw] at d;obtain⟨y,f,x⟩:=d.some_of;have c:SeqAt.EqAt A s z y (pI v w):=Mt u x f1 f2;rw[i] at c;have:=PySem.W.KeqHits.hit f c (q λp n=>l p (aJ _ n));rw[Bool.true_and] at this;exact this
theorem JF (g:X.A.units<cLine):nR X (compareOp .NotEq) (Pk false):=by
 intro e s L H x y v u Q I D E h;obtain⟨a,b,d,B,rfl,rfl,t,w,c,z,q⟩:=h;cases D;cases E;obtain⟨G,d1,k,f,m⟩:=vF I.hok t;obtain⟨K,d2,F,i,n⟩:=vF I.hok w;have c:k.length=F.length:=by rw[<- f.length,<- i.length];exact c
 refine PySem.W.keq_ne d1 d2 m n g (λ_=>Wr i d k f z) ⟨.b _,H,I,rfl,?_⟩;rw[c];simpa using q
def Cu (neg:Bool):R2:=λx y H Q=>Lx x y=true/\Q (.b (nb neg (decide (x=y)))) H
def Sm (K:mZ) (neg:Bool):R2:=λx y H Q=>Cu neg x y H Q\/Ed K neg x y H Q\/Pk (!neg) x y H Q\/Ol K neg x y H Q
theorem Vx (g:X.A.units+64<cLine):nR X (compareOp .NotEq) (Sm X.K true):=(show nR X (compareOp .NotEq) (Cu true) from Q1).or ((Oi g).or ((JF (by omega)).or (Vl g)))
def Ms (g j:Aa (hG×D)):Prop:=g.length=j.length/\∀ p∈g,∃ e v w,nK j p.1=some e/\vQ p.2=some v/\vQ e=some w/\pI v w=true
def Hv (neg:Bool):O2:=λd e a=>match d,e with
 | .int i,.int j=>a (.v (.b (nb neg (decide (i=j)))))
 | .str i,.str j=>a (.v (.b (nb neg (decide (i=j)))))
 | .b i,.b j=>a (.v (.b (nb neg (decide (i=j)))))
 | .l c,.l []=>a (.v (.b (nb neg c.isEmpty)))
 | .k c,.k f=>Ms c f/\a (.v (.b (!neg)))
 | d,e=>oF d=true/\oF e=true/\min (py d).depth (py e).depth<=60/\a (.v (.b (nb neg (PyData.eqv (py d) (py e)))))
theorem Zu {l C:Aa (hG×D)}{j o:Aa (hG×V)}(h:Ms l C) (I:l.map (·.1)=j.map (·.1)) (T:Reps K A H (l.map (·.2)) (j.map (·.2))) (J:C.map (·.1)=o.map (·.1)) (U:Reps K A H (C.map (·.2)) (o.map (·.2))) :
  j.length=o.length/\∀ p∈j,∃ w,qK o p.1=some w/\qW p.2=true/\qW w=true/\pI p.2 w=true:=by
 refine⟨by have a:=cK List.length I;have b:=cK List.length J;have c:=h.1;simp only[aA] at a b;omega,λp d=>?_⟩;have:∀ (l:Aa (hG×D)) (j:Aa (hG×V)),l.map (·.1)=j.map (·.1)->Reps K A H (l.map (·.2)) (j.map (·.2))->p∈j->∃ q∈l,q.1=p.1/\Rep K A H q.2 p.2:=by
  intro l;induction l with
  | nil=>intro j e _ d;cases j with
   | nil=>cases d
   | cons _ _=>simp at e
  | cons q l x=>intro j e r d;cases j with
   | nil=>cases d
   | cons k j =>
    simp only[aO,fW] at e;cases r with
    | cons g r =>
     rcases aH.mp d with z | z
     .subst z;exact⟨q,aE,e.1,g⟩
     .obtain⟨y,f,m⟩:=x j e.2 r z;exact⟨y,aJ _ f,m⟩
 obtain⟨q,u,i,B⟩:=this l j I T d;obtain⟨e,v,w,f,m,s,t⟩:=h.2 q u;rw[i] at f;obtain⟨E,hw,n⟩:=(A5 J U p.1).1 e f;obtain⟨F,G⟩:=C4 m B.peek;obtain⟨L,M⟩:=C4 s n.peek;subst F L;exact⟨E,hw,G,M,t⟩
theorem HS (neg:Bool):pD K (Sm K neg) (Hv neg):=by
 intro B L H d e x y O Q hd h m c k;unfold Hv at c;split at c
 .cases h;cases m
  rename_i i j
  have f:decide (V.int i=V.int j)=decide (i=j):=by simp
  exact .inl ⟨rfl,by rw[f];exact k _ _ H c (hd.pushF (.b _))⟩
 .cases h;cases m
  rename_i i j
  have f:decide (V.str i=V.str j)=decide (i=j):=by simp
  exact .inl ⟨rfl,by rw[f];exact k _ _ H c (hd.pushF (.b _))⟩
 .cases h;cases m
  rename_i i j
  have f:decide (V.b i=V.b j)=decide (i=j):=by simp
  exact .inl ⟨rfl,by rw[f];exact k _ _ H c (hd.pushF (.b _))⟩
 .rename_i M
  obtain⟨a,A,rfl,n,u⟩:=h.lst_inv;obtain⟨b,N,rfl,q,v⟩:=m.lst_inv;cases v;have f:M.isEmpty=A.isEmpty:=by cases u<;>rfl
  refine .inr (.inl ⟨a,b,A,rfl,rfl,eH.of n,eH.of q,?_⟩);rw[<- f];exact k _ _ H c (hd.pushF (.b _))
 .obtain⟨a,s,rfl,n,f,u⟩:=h.dK_inv;obtain⟨b,t,rfl,q,E,v⟩:=m.dK_inv;obtain⟨F,G⟩:=Zu c.1 f u E v;exact .inr (.inr (.inl ⟨a,b,s,t,rfl,rfl,n,q,F,G,k _ _ H c.2 (hd.pushF (.b _))⟩))
 .obtain⟨w,z,D,c⟩:=c;exact .inr (.inr (.inr ⟨_,_,J8 h w,J8 m z,Ce w,Ce z,D,k _ _ H c (hd.pushF (.b _))⟩))
end
end L2
namespace L2
open PySem PySem.Spec PyProof.Rows Lw
def wF (g:Aa D) (lo j:Ab Int):Aa D:=(g.drop (HT.sIx g.length 0 lo)).take (HT.sIx g.length g.length j-HT.sIx g.length 0 lo)
def pt (o:Ab nN):Aa Ad->Aa Sl->(Ab Int->Aa Sl->Prop)->Prop:=λc b k=>match o with
 | none=>k none b
 | some t=>t c b λr a=>match r with
  | .v (.int i)=>k (some i) a
  | _=>False
def zI (K:mZ):Ab nN->TO
 | none=>Mu
 | some t=>Qa (dE K t)
abbrev O3:=D->Ab Int->Ab Int->(Sl->Prop)->Prop
def Xl (f:O3) (j:nN) (lo g:Ab nN):nN:=λa k i=>j a k λh b=>pt lo a b λl c=>pt g a c λu e=>match sd h with
 | some d=>f d l u λr=>i r e
 | none=>False
def V5 (f:O3) (i:Nat) (lo g:Ab nN):nN:=λc e h=>(at? e i).isSome=true/\pt lo c e λl b=>pt g c b λu a=>match at? a i with
 | some d=>f d l u λr=>h r a
 | none=>False
abbrev R3:=V->Ab Int->Ab Int->Hp->VK->Prop
def Ih (K:mZ) (r:R3) (f:O3):Prop:=∀ (B:Bs) (L:oM) (H:Hp) (d:D) (lo b:Ab Int) (x:V) (c:Sl->Prop) (Q:VK),DS K B L H->nY K (Al B (dT L)) H d x->f d lo b c ->
 (∀ s v a,c s->DS K B ((s,some v)::L) a->Q v a)->r x lo b H Q
section
variable {X:Cx}{K:mZ}{lo:Ab Expr}
theorem F7 (C:l.length=p.length) (hd:DS K B (l.zip p++T) H) (h:pt o B.dk l k)
  (hk:∀ i g j,g.length=p.length->DS K B (g.zip p++T) j->k i g->Q i j):zI K o p H Q:=by
 cases o with
 | none=>exact hk none l H C hd h
 | some t =>
  refine⟨B,l,T,_,C,hd,h,λr g v j b d1 a=>?_⟩;cases r with
  | n=>exact a.elim
  | o d=>exact a.elim
  | v d =>
   cases d with
   | int i=>exact⟨i,d1.valAt.int_inv,hk (some i) g j b d1.drop a⟩
   | _=>exact a.elim
theorem Qj:PO X none (zI X.K none):=yF
theorem Tl (h:PD X e t):PO X (some e) (zI X.K (some t)):=xX h
theorem AJ (I:uR X r) (p:Ih X.K r f) (o:PD X a U) (g:PO X lo (zI X.K ol)) (j:PO X C (zI X.K J)):PD X (.Subscript a (.Slice lo C none p2) pos) (Xl f U ol J) :=
 (wO I o g j).mono λW H Q h=>h.elim λB N T V t hd y k=>⟨B,N,T,_,t,hd,y,λG O x R z d1 E=>F7 z d1 E λl P S A d2 F=>F7 A d2 F λu i n D q b=>by
  cases c:sd G with
  | none=>rw[c] at b;exact b.elim
  | some d =>
   rw[c] at b;obtain⟨L,M⟩:=q.one c;exact p B _ n d l u x _ Q L M.peek b λs v m w e=>k s i v m D e.mid w⟩
theorem Za (I:uR X r) (p:Ih X.K r f) (o:PE X a (pY i)) (g:PO X lo (zI X.K ol)) (j:PO X C (zI X.K J)):PD X (.Subscript a (.Slice lo C none U) pos) (V5 f i ol J) :=
 (wO I o g j).mono λY H Q q=>q.elim λB W T V w hd ⟨n,G⟩ k=>by
  obtain⟨R,E⟩:=eE.mp n;obtain⟨x,y,_⟩:=hd.peek w E;refine⟨x,y,F7 w hd G λl O P L d2 N=>F7 L d2 N λu c D z t e=>?_⟩;cases h:at? c i with
  | none=>rw[h] at e;exact e.elim
  | some d =>
   rw[h] at e;obtain⟨S,b,M⟩:=t.peek z h;rw[y] at b;cases b;exact p B _ D d l u x _ Q t M e λs v A F m=>k s c v A z m.mid F
def Qr (K:mZ):R3:=λx lo a H Q=>Nh K x lo a H Q\/Uj K x lo a H Q\/T7 x lo a H Q
theorem T5:uR X (Qr X.K):=Aw.or (AW.or Kl)
def DJ:O3
 | .l a,lo,b,d=>d (.o (.l (wF a lo b)))
 | .c a,lo,b,d=>d (.o (.l (wF a lo b)))
 | .t a,lo,b,d=>¬ (HT.sIx a.length 0 lo=0/\HT.sIx a.length a.length b=a.length)/\d (.v (.t (wF a lo b)))
 | .str z,lo,b,d=>z.length<=100000/\d (.v (.str (tP z lo b)))
 | _,_,_,_=>False
theorem J9 (r:Reps K A H j l) (lo g:Ab Int):Reps K A H (wF j lo g) (sU l lo g):=by
 unfold wF sU;rw[r.length];exact (r.drop _).take _
theorem To:Ih K (Qr K) DJ:=by
 intro B L H d lo m x n Q hd i b k;cases d<;>first | exact False.elim b | skip
 .cases i;exact .inr (.inr ⟨_,rfl,xY b.1,k _ _ _ b.2 (hd.pushF (.str _))⟩)
 .obtain⟨a,h,rfl,e,c⟩:=i.tup_inv;exact .inr (.inl ⟨a,h,rfl,nQ.of e,by rw[<- c.length];exact b.1,λp f=>k _ _ _ b.2 (hd.tupF f (J9 c lo m))⟩)
 .obtain⟨a,h,rfl,e,c⟩:=i.lst_inv;exact .inl ⟨a,h,rfl,eH.of e,λp f=>k _ _ _ b (hd.lstF f (J9 c lo m))⟩
 .obtain⟨a,h,rfl,e,c⟩:=i.scr_inv;exact .inl ⟨a,h,rfl,e.sqL,λp f=>k _ _ _ b (hd.lstF f (J9 c lo m))⟩
abbrev O1:=D->(Sl->Prop)->Prop
abbrev R1:=V->Hp->VK->Prop
def IS (K:mZ) (r:R1) (f:O1):Prop:=∀ (B:Bs) (L:oM) (H:Hp) (d:D) (x:V) (b:Sl->Prop) (Q:VK),DS K B L H->nY K (Al B (dT L)) H d x->f d b->(∀ s v a,b s->DS K B ((s,some v)::L) a->Q v a)->r x H Q
def d1 (f:O1) (g:nN):nN:=λb h e=>g b h λc a=>match sd c with
 | some d=>f d λr=>e r a
 | none=>False
theorem HN (j:IS X.K r f) (h:dE X.K (d1 f l) o H Q):dE X.K l o H λx g=>r x g Q:=by
 obtain⟨B,z,T,A,m,hd,q,k⟩:=h;refine⟨B,z,T,_,m,hd,q,λy e x g t d1 a=>?_⟩;cases b:sd y with
 | none=>rw[b] at a;exact a.elim
 | some d =>
  rw[b] at a;obtain⟨u,w⟩:=d1.one b;exact j B _ g d x _ Q u w.peek a λs v i n c=>k s e v i t c.mid n
def Py:O1
 | .int i,a=>a (.v (.int (-i)))
 | _,_=>False
theorem S4 (g:PD X a j):PD X (.UnaryOp .USub a pos) (d1 Py j):=(AQ Wb g).mono λ_ _ _ h=>HN (f:=Py) (λB L H d x e Q hd c b k=>by
 cases d<;>first | exact False.elim b | skip
 cases c;exact⟨_,rfl,k _ _ H b (hd.pushF (.int _))⟩) h
noncomputable def Du:D->Ab Bool
 | .e=>some false
 | .b b=>some b
 | .int i=>some (i != 0)
 | .str x=>some ((x.length:Int) != 0)
 | .l a=>some (!a.isEmpty)
 | .t a=>some (!a.isEmpty)
 | .k a=>some (!a.isEmpty)
 | _=>none
noncomputable def Dw:D->Bool
 | .str x=>decide (x.length<=100000)
 | _=>true
theorem O0 (h:nY K A H d x) (e:Du d=some k) (g:Dw d=true):Hy K x H k:=by
 cases d<;>simp only[Du,reduceCtorEq,kY] at e<;>subst e
 .have:=h.non_inv;subst this;rfl
 .have:=h.bl_inv;subst this;rfl
 .have:=h.int_inv;subst this;rfl
 .have:=h.str_inv;subst this;exact⟨xY (eU g),rfl⟩
 .obtain⟨a,b,rfl,h,r⟩:=h.tup_inv;exact .inr (.inl ⟨b,nQ.of h,by cases r<;>rfl⟩)
 .obtain⟨a,b,rfl,h,r⟩:=h.lst_inv;exact .inl ⟨b,eH.of h,by cases r<;>rfl⟩
 .rename_i c
  obtain⟨a,b,rfl,h,e,r⟩:=h.dK_inv;refine .inr (.inr ⟨b,h,?_⟩);cases c<;>cases b<;>simp at e |-
def Yi (t:nN):qV:=λc f e=>t c f λr a=>match sd r with
 | some d=>Dw d=true/\∃ b,Du d=some b/\e b a
 | none=>False
def Su (i:Nat):qV:=λe a c=>match at? a i with
 | some d=>Dw d=true/\∃ b,Du d=some b/\c b a
 | none=>False
theorem xW (g:PD X a l) (j:∀ whole,isTrue a X.env whole=(do let v <- whole;standAt a.pos;holding [v] (truthy v)):=by intro _;rfl):tK X a (Yi l) :=
 (S3 g j).mono λz H Q f=>f.elim λB x T y n hd s k=>⟨B,x,T,_,n,hd,s,λr h v i t d1 c=>by
  cases e:sd r with
  | none=>rw[e] at c;exact c.elim
  | some d =>
   rw[e] at c;obtain⟨q,b,m,c⟩:=c;obtain⟨u,w⟩:=d1.one e;exact⟨b,O0 w.peek m q,k b h i t u c⟩⟩
theorem O7 (g:PE X a (pY i)) (j:∀ whole,isTrue a X.env whole=(do let v <- whole;standAt a.pos;holding [v] (truthy v)):=by intro _;rfl):tK X a (Su i) :=
 (S3 g j).mono λw H Q f=>f.elim λB m T u h hd c k=>by
  unfold Su at c;cases e:at? m i with
  | none=>rw[e] at c;exact c.elim
  | some d =>
   rw[e] at c;obtain⟨q,b,n,c⟩:=c;obtain⟨x,s,t⟩:=hd.peek h e;exact⟨x,s,b,O0 t n q,k b m H h hd c⟩
def CY (t u:qV):qV:=λb e d=>t b e λc a=>if c=true then d true a else u b a d
def Z1 (t:qV):qV:=λb e d=>t b e λc a=>d (!c) a
variable {rest:Aa Expr}
theorem Kr (h:tK X a g):Gg X (.BoolOp .Or [a] pos) g:=LF h
theorem B1 (j:tK X a o) (l:Gg X (.BoolOp .Or (b::rest) pos) g):Gg X (.BoolOp .Or (a::b::rest) pos) (CY o g) :=
 (Zh j l).mono λt H Q e=>e.elim λB s T q m hd n k=>⟨B,s,T,_,m,hd,n,λc d i h d1 f=>by
  cases c with
  | true=>exact (aP rfl).mpr (k true d i h d1 ((aP rfl).mp f))
  | false=>exact wV ⟨B,d,T,q,h,d1,(aI (by decide)).mp f,k⟩⟩
theorem J2 (h:Gg X a g):tK X a g:=PW.pt h
theorem Ft (h:tK X a g):tK X (.UnaryOp .Not a pos) (Z1 g):=(JV h).mono λt H Q b=>b.elim λB q T s i hd m k=>⟨B,q,T,_,i,hd,m,λc d e n d1 f=>k _ d e n d1 f⟩
def KU (t:qV) (u w:nN):nN:=λb e d=>t b e λc a=>if c=true then u b a d else w b a d
theorem Ru (l:tK X c o) (g:PD X a p) (j:PD X b r):PD X (.IfExp c a b pos) (KU o p r) :=
 (Zv l g j).mono λt H Q e=>e.elim λB q T i m hd n k=>⟨B,q,T,_,m,hd,n,λc d s h d1 f=>by
  cases c with
  | true=>exact (aP rfl).mpr ⟨B,d,T,i,h,d1,(aP rfl).mp f,k⟩
  | false=>exact wV ⟨B,d,T,i,h,d1,(aI (by decide)).mp f,k⟩⟩
end
inductive Ar where
 | t (d:D) | al (i:Nat)
abbrev rJ:=Aa Ad->Aa Sl->(Aa Ar->Aa Sl->Prop)->Prop
def sI:Aa Ar->Aa V->oM
 | .t d::as,v::a=>(.v d,some v)::sI as a
 | .al _::as,_::a=>sI as a
 | _,_=>[]
inductive ArOk (σ:St):List Ar->List V->Prop where
 | nil:ArOk σ [] []
 | t {d:D} {v:V} {as:List Ar} {vs:List V}:ArOk σ as vs->ArOk σ (.t d::as) (v::vs)
 | al {i:Nat} {v:V} {as:List Ar} {vs:List V}:σ[i]?=some (some v)->ArOk σ as vs->ArOk σ (.al i::as) (v::vs)
noncomputable def uA (g:Aa Sl):Aa Ar->Ab (Aa D)
 | []=>some []
 | .t d::as=>(uA g as).map (d::·)
 | .al i::as=>match at? g i,uA g as with
  | some d,some a=>some (d::a)
  | _,_=>none
noncomputable def xQ:Aa Ar->Ab (Aa D)
 | []=>some []
 | .t d::as=>(xQ as).map (d::·)
 | .al _::_=>none
def C6:Aa Ar->Bool
 | []=>true
 | .t _::as=>C6 as
 | .al _::_=>false
def dA (K:mZ) (g:rJ):TA:=λb H Q=>∃ (B:Bs) (d:Aa Sl) (T:oM) (f:Aa Ar->Aa Sl->Prop),d.length=b.length/\DS K B (d.zip b++T) H/\g B.dk d f /\
 ∀ as a c e,a.length=b.length->ArOk b as c->DS K B (a.zip b++(sI as c++T)) e->f as a->Q c e
theorem dA.elim {K:mZ}{P:Prop}(h:dA K C l H Q) (f:∀ (B:Bs) (j:Aa Sl) (T:oM) (o:Aa Ar->Aa Sl->Prop),j.length=l.length->DS K B (j.zip l++T) H->C B.dk j o ->(∀ as g p r,g.length=l.length->ArOk l as p->DS K B (g.zip l++(sI as p++T)) r->o as g->Q p r)->P):P:=by
 obtain⟨B,j,T,o,a,hd,b,k⟩:=h;exact f B j T o a hd b k
abbrev rW (X:Cx) (g:Aa Expr) (j:rJ):Prop:=PA X g (dA X.K j)
def Ra:rJ:=λ_ b a=>a [] b
def aC (g:nN) (j:rJ):rJ:=λc f e=>g c f λr a=>j c a λas b=>match sd r with
 | some d=>e (.t d::as) b
 | none=>False
def aS (i:Nat) (g:rJ):rJ:=λc b d=>(at? b i).isSome=true/\g c b λas a=>d (.al i::as) a
theorem PA.mono {X:Cx}(h:PA X j t) (k:∀ g H Q,l g H Q->t g H Q):PA X j l:=λp a s g H Q I q=>h p a s g H Q I (k g H Q q)
def Am (B:Bs) (a:Ad):Prop:=a∉B.dk/\(B.A0 a\/B.H0 a=none)
inductive Peeks (K:mZ) (A:Addr->Prop) (H:Hp):List D->List V->Prop where
 | nil:Peeks K A H [] []
 | cons {d:D} {v:V} {ds:List D} {vs:List V}:nY K A H d v->Peeks K A H ds vs->Peeks K A H (d::ds) (v::vs)
section
variable {X:Cx}{K:mZ}
theorem hH:rW X [] Ra:=nI.mono λf H Q a=>a.elim λB d T e b hd c k=>k [] d [] H b .nil hd c
theorem dK (j:PD X e p) (l:rW X g o) (h:zZ e=true:=by rfl):rW X (e::g) (aC p o):=(hL j l h).mono λD H Q f=>f.elim λB A T F v hd w k =>
 ⟨B,A,T,_,v,hd,w,λr i x E y d1 u=>⟨B,i,(r,some x)::T,_,y,d1,u,λas a n m z ok d2 b=>by
  cases c:sd r with
  | none=>rw[c] at b;exact b.elim
  | some d =>
   rw[c] at b;refine k (.t d::as) a (x::n) m z (.t ok) ?_ b;have q:DS X.K B ((a.zip D++sI as n)++(r,some x)::T) m:=by simpa using d2
   have s:=(q.thaw c).front;exact DS.mid (by simpa using s)⟩⟩
theorem Bf (j:PE X e (pY i)) (l:rW X g o) (h:zZ e=true:=by rfl):rW X (e::g) (aS i o):=(hL j l h).mono λz H Q a=>a.elim λB v T y c hd ⟨q,s⟩ k=>by
 obtain⟨w,m⟩:=eE.mp q;obtain⟨x,d,_⟩:=hd.peek c m;exact⟨x,d,B,v,T,_,c,hd,s,λas b u f t ok d2 n=>k (.al i::as) b (x::u) f t (.al d ok) d2 n⟩
theorem DS.rmArgs:∀ {as:Aa Ar}{vs:Aa V},DS K B (L++(sI as vs++T)) H->DS K B (L++T) H
 | [],_,h=>h
 | .t d::as,[],h=>h
 | .al _::as,[],h=>h
 | .t d::as,v::vs,h=>DS.rmArgs (as:=as) (vs:=vs) (DS.drop (L1:=L) (L2:=sI as vs++T) h)
 | .al _::as,v::vs,h=>DS.rmArgs (as:=as) (vs:=vs) h
theorem E1:∀ {as:Aa Ar}{vs:Aa V},dT (L++(sI as vs++T))=dT (L++T)
 | [],_=>rfl
 | .t d::as,[]=>rfl
 | .al _::as,[]=>rfl
 | .t d::as,v::vs=>(show dT (L++(Sl.v d,some v)::(sI as vs++T))=_ from Ek).trans (E1 (as:=as) (vs:=vs))
 | .al _::as,v::vs=>E1 (as:=as) (vs:=vs)
theorem DS.temps (h:DS K B (L++(sI as j++T)) H) (ok:ArOk σ as j):∀ g,xQ as=some g->Reps K (Al B (dT (L++T))) H g j:=by
 have key:∀ p∈sI as j,sG K (Al B (dT (L++T))) H p.1 p.2:=λp b=>by
  have:=h.ok p (by simp[b]);rw[E1] at this;exact this
 clear h;induction ok with
 | nil=>intro g e;cases e;exact .nil
 | @t d v as j ok i =>
  intro g e;obtain⟨a,c,rfl⟩:=bU.mp e;obtain⟨u,f,r⟩:=key (.v d,some v) aE;cases f;exact .cons r (i (λp b=>key p (aJ _ b)) a c)
 | al _ _ _=>intro g e;cases e
theorem DS.argsP (I:g.length=C.length) (h:DS K B (g.zip C++(sI as l++T)) H) (ok:ArOk C as l):∀ j,uA g as=some j ->
  Peeks K (Al B (dT (g.zip C++T))) H j l/\Reps K (Am B) H j l/\(C6 as=true->Reps K (Al B (dT (g.zip C++T))) H j l):=by
 have key:∀ p∈sI as l,sG K (Al B (dT (g.zip C++T))) H p.1 p.2:=λp m=>by
  have:=h.ok p (by simp[m]);rw[E1] at this;exact this
 have A:=h.rmArgs;have am:∀ a,Al B (dT (g.zip C++T)) a->Am B a:=λa z=>⟨z.1,z.2.2⟩
 clear h;induction ok with
 | nil=>intro j e;cases e;exact⟨.nil,.nil,λ_=>.nil⟩
 | @t d v as l ok D =>
  intro j e;obtain⟨f,b,rfl⟩:=bU.mp e;obtain⟨u,k,r⟩:=key (.v d,some v) aE;cases k;obtain⟨E,F,O⟩:=D (λp m=>key p (aJ _ m)) f b;exact⟨.cons r.peek E,.cons (r.mono (.all am)) F,λn=>.cons r (O n)⟩
 | @al i v as l G ok D =>
  intro j e;have e:=(show (match at? g i,uA g as with | some d,some j=>some (d::j) | _,_=>none)=some j from e);cases b:at? g i with
  | none=>rw[b] at e;cases e
  | some d =>
   cases k:uA g as with
   | none=>rw[b,k] at e;cases e
   | some f =>
    rw[b,k] at e;cases e;obtain⟨E,F,O⟩:=D (λp m=>key p m) f k;obtain⟨V,q,pv⟩:=A.peek I b;rw[G] at q;cases q;have Q:Rep K (Am B) H d v:=by
     unfold at? at b;cases w:g[i]? with
     | none=>rw[w] at b;cases b
     | some s =>
      rw[w] at b;obtain⟨R,y,S,M,_,P,_⟩:=vB I w;rw[G] at M;cases M;have L:(s,some v)∈g.zip C++T:=by rw[P];simp
      have:=A.ok _ L;cases s with
      | n=>cases b
      | v c=>cases b;obtain⟨u,x,r⟩:=this;cases x;exact r.mono (.all am)
      | o c =>
       cases b;obtain⟨a,x,r⟩:=this;cases x;have N:=A.new a (tG.mpr ⟨_,L,rfl⟩);exact r.rep am ⟨N.2,.inr N.1⟩
    exact⟨.cons pv E,.cons Q F,λn=>by simp[C6] at n⟩
def GP (g:rJ):nN:=λc e d=>g c e λas a=>match xQ as with
 | some b=>b.length<=1000/\d (.v (.t b)) a
 | none=>False
def Oa (g:rJ):nN:=λc e d=>g c e λas a=>match xQ as with
 | some b=>b.length<=1000/\d (.o (.l b)) a
 | none=>False
theorem Mf (h:n<=1000):n<=sizeLine:=bD h (by decide)
theorem wN (h:rW X g j):PD X (.Tuple g l pos) (GP j):=(zV h).mono λv H Q c=>c.elim λB q T u f hd m k=>⟨B,q,T,_,f,hd,m,λas d t s n ok d1 a=>by
 cases b:xQ as with
 | none=>rw[b] at a;exact a.elim
 | some e =>
  rw[b] at a;have r:=d1.temps ok e b;exact⟨Mf (by rw[<- r.length];exact a.1),λp i=>k _ d _ _ n (d1.rmArgs.tup i r) a.2⟩⟩
theorem rM (h:rW X g j):PD X (.List g pos) (Oa j):=(pU h).mono λv H Q c=>c.elim λB q T u f hd m k=>⟨B,q,T,_,f,hd,m,λas d t s n ok d1 a=>by
 cases b:xQ as with
 | none=>rw[b] at a;exact a.elim
 | some e =>
  rw[b] at a;have r:=d1.temps ok e b;exact⟨Mf (by rw[<- r.length];exact a.1),λp i=>k _ d _ _ n (d1.rmArgs.lstF i r).mid a.2⟩⟩
def KL:nN:=λ_ b a=>a (.o (.k [])) b
theorem M7:PD X (.Dict [] [] pos) KL:=KI.mono λh H Q a=>a.elim λB e T f b hd d k p c=>k _ e _ _ b (hd.dKF (ds:=[]) (kvs:=[]) c rfl .nil).mid d
abbrev OC:=Aa D->(Sl->Prop)->Prop
def qR (K:mZ) (r:Aa V->Hp->VK->Prop) (f:OC):Prop:=∀ (B:Bs) (L:oM) (H:Hp) (b:Aa D) (c:Aa V) (d:Sl->Prop) (Q:VK),DS K B L H->Peeks K (Al B (dT L)) H b c->f b d ->
 (∀ s v a,d s->DS K B ((s,some v)::L) a->Q v a)->r c H Q
def dC (f:OC) (g:rJ):nN:=λb e d=>g b e λas a=>match uA a as with
 | some c=>f c λr=>d r a
 | none=>False
theorem Kw (l:qR X.K r f) (h:dE X.K (dC f o) p H Q):dA X.K o p H λj g=>r j g Q:=by
 obtain⟨B,u,T,w,n,hd,t,k⟩:=h;refine⟨B,u,T,_,n,hd,t,λas a j g i ok d1 b=>?_⟩;cases c:uA a as with
 | none=>rw[c] at b;exact b.elim
 | some e =>
  rw[c] at b;exact l B _ g e j _ Q d1.rmArgs (d1.argsP i ok e c).1 b λs v m q d=>k s a v m i d.mid q
variable {id:String}
theorem pC (C:oH X (.builtin id) r) (I:qR X.K r f) (T:X.mg x=none) (hv:bootBuiltins x=some (.builtin id)) (o:rW X (e::l) ta) (J:Gl X x:=by rfl) (U:x ≠ "__name__" := by decide) (g:(x == ("__debug__" : Af))=false:=by decide)
  (j:StB X e l pos:=by exact {}):PD X (.Call (.Name x p) (e::l) [] pos) (dC f ta) :=
 (sJ C J T hv o U g j).mono λ_ _ _ h=>Kw I h
theorem uG (C:oH X (.type id) r) (I:qR X.K r f) (T:X.mg x=none) (hv:bootBuiltins x=some (.type id)) (o:rW X (e::l) ta) (J:Gl X x:=by rfl) (U:x ≠ "__name__" := by decide) (g:(x == ("__debug__" : Af))=false:=by decide)
  (j:StB X e l pos:=by exact {}):PD X (.Call (.Name x p) (e::l) [] pos) (dC f ta) :=
 (zC C J T hv o U g j).mono λ_ _ _ h=>Kw I h
end
def Cc:Sl->Bool
 | .v d=>imm d
 | .o (.l b)=>uM b
 | .o (.k a)=>uM (a.map (·.2))
 | .o (.T a)=>uM (a.map (·.2))
 | .o (.dM a)=>uM (a.map (·.2))
 | _=>false
def RV (K:mZ) (g:Aa Ad) (A:Ad->Prop) (H:Hp) (s:Sl) (v:V) (j:Hp):Prop:=match s with
 | .n=>True
 | .v d=>Rep K (λa=>a∉g/\(A a\/H a=none)) j d v
 | .o d=>∃ a,v = .ref a/\H a=none/\a∉g/\pJ K (λb=>b∉g/\b≠a/\(A b\/H b=none)) j a d
def Aq (j:Aa Ad) (H g:Hp):Prop:=∀ b o,H b=some o->b∉j->g b=some o
abbrev RD:=Aa Ad->Aa D->(Sl->Prop)->Prop
def yH (K:mZ) (R:RD):Sp:=λf H Q _=>∃ (b:Aa Ad) (A:Ad->Prop) (d:Aa D) (e:Sl->Prop),Dk b H/\(∀ a,A a->a∉b)/\Reps K A H d f/\R b d e /\
 ∀ s v c,e s->Aq b H c->Dk b c->RV K b A H s v c->Q v c
section
variable {K:mZ}
theorem pJ.immR (h:pJ K A H a d) (e:Cc (.o d)=true):pJ K g H a d:=by
 cases d with
 | l _=>obtain⟨b,h,r⟩:=h;exact⟨b,h,r.imm e⟩
 | k _=>obtain⟨b,h,k,r⟩:=h;exact⟨b,h,k,r.imm e⟩
 | T _=>obtain⟨b,h,k,r⟩:=h;exact⟨b,h,k,r.imm e⟩
 | dM _=>obtain⟨b,h,k,r⟩:=h;exact⟨b,h,k,r.imm e⟩
 | _=>exact False.elim h
theorem Kp.frm (f:Aq g H l) (hk:Dk g H) (h:∀ a,A a->a∉g/\j a):Kp A j H l:=by
 refine⟨λa o b e=>⟨(h a b).2,f a o e (h a b).1⟩,λa o t e=>f a o e λz=>?_⟩;obtain⟨c,q⟩:=hk.some z;rw[e] at q;cases q;cases t
theorem DS.call (h:DS K B L H) (f:Aq B.dk H g) (hk:Dk B.dk g):DS K B L g :=
 ⟨λb o e n=>f b o (h.fr b o e n) n,hk,h.nd,h.new,λp c=>(h.ok p c).mono (.frm f h.dk λa z=>⟨z.1,z⟩) λb d o q=>f b o q (h.new b (tG.mpr ⟨p,c,d⟩)).2⟩
theorem DS.adopt (h:DS K B L H) (f:Aq B.dk H g) (hk:Dk B.dk g) (j:H a=none) (r:pJ K (Al B (a::dT L)) g a d):DS K B ((.o d,some (.ref a))::L) g:=by
 obtain⟨f1,f2,k⟩:=h.free j;have s:Kp (Al B (dT L)) (Al B (a::dT L)) H g:=by
  refine⟨λb o c e=>⟨⟨c.1,λz=>?_,c.2.2⟩,f b o e c.1⟩,λb o t e=>f b o e λz=>?_⟩
  .rcases aH.mp z with q | q
   .subst q;rw[j] at e;cases e
   .exact c.2.1 q
  .obtain⟨u,q⟩:=h.dk.some z;rw[e] at q;cases q;cases t
 have i:dT ((Sl.o d,some (V.ref a))::L)=a::dT L:=rfl;refine⟨λb o e n=>f b o (h.fr b o e n) n,hk,by rw[i];exact bN.mpr ⟨k,h.nd⟩,λb c=>?_,λp m=>?_⟩
 .rw[i] at c;rcases aH.mp c with q | q
  .subst q;exact⟨f1,f2⟩
  .exact h.new b q
 .rw[i];rcases aH.mp m with q | q
  .subst q;exact⟨a,rfl,r⟩
  .exact (h.ok p q).mono s λb c o w=>f b o w (h.new b (tG.mpr ⟨p,q,c⟩)).2
theorem DS.result (h:DS K B L H) (f:Aq B.dk H j) (hk:Dk B.dk j) (r:RV K B.dk l H s v j) (g:(∀ a,l a->Al B (dT L) a)\/Cc s=true):DS K B ((s,some v)::L) j:=by
 have fresh:∀ b,b∉B.dk->H b=none->Al B (dT L) b:=λb n e=>⟨n,(h.free e).2.2,.inr (h.free e).1⟩
 cases s with
 | n=>exact (h.call f hk).pushN (L1:=[]) _
 | v d =>
  refine (h.call f hk).pushF ?_;rcases g with g | g
  .exact (show Rep K _ j d v from r).mono (.all λb z=>z.2.elim (g b) (fresh b z.1))
  .exact (show Rep K _ j d v from r).imm g
 | o d =>
  obtain⟨a,rfl,c,hd,r⟩:=r;refine h.adopt f hk c ?_;rcases g with g | g
  .refine r.mono (.all λb z=>?_) λ_ q=>q
   have:=z.2.2.elim (g b) (fresh b z.1);exact⟨this.1,λq=>(aH.mp q).elim z.2.1 this.2.1,this.2.2⟩
  .exact r.immR g
end
def zK (R:RD) (g:rJ):nN:=λb e d=>g b e λas a=>match uA a as with
 | some c=>R b c λs=>(C6 as=true\/Cc s=true)/\d s a
 | none=>False
section
variable {X:Cx}{R:RD}
theorem W8 (h:dE X.K (zK R l) o H Q):dA X.K l o H λj g=>yH X.K R (j++[]) g Q E0:=by
 obtain⟨B,y,T,A,t,hd,u,k⟩:=h;refine⟨B,y,T,_,t,hd,u,λas b j g n ok d1 c=>?_⟩;cases m:uA b as with
 | none=>rw[m] at c;exact c.elim
 | some i =>
  rw[m] at c;obtain⟨_,w,x⟩:=d1.argsP n ok i m;have d2:=d1.rmArgs;rw[dN];by_cases q:C6 as=true
  .exact⟨B.dk,_,i,_,d2.dk,λa z=>z.1,x q,c,λs v e d f hk r=>k s b v e n (d2.result f hk r (.inl λa z=>z)).mid d.2⟩
  .exact⟨B.dk,_,i,_,d2.dk,λa z=>z.1,w,c,λs v e d f hk r=>k s b v e n (d2.result f hk r (.inr (d.1.resolve_left q))).mid d.2⟩
theorem AC (F:FnOk X.prog X.w X.K X.mg X.base oQ k f fd T (yH X.K R)) (J:Room k X.A) (C:Gl X x) (I:X.mg x=some (.ref f)) (hk:PySem.W.keepIn X.K (.ref f)=true) (r:xR X.K fd T [])
  (o:rW X (e::l) U) (g:(x == ("__debug__" : Af))=false:=by decide) (j:StB X e l pos:=by exact {}) :
  PD X (.Call (.Name x p) (e::l) [] pos) (zK R U):=(qM F J C I hk r .nil qA o g j).mono λ_ _ _ h=>W8 h
end
structure DEnds where
 nx:List Sl->Prop
 rt:Sl->Prop
 bk:List Sl->Prop:=λ_=>False
 ct:List Sl->Prop:=λ_=>False
abbrev qG:=Aa Ad->DEnds->Aa Sl->Prop
def Ca (K:mZ) (B:Bs) (T:oM) (n:Nat) (g:DEnds) (j:Ends):Prop :=
 (∀ b a c,b.length=a.length->a.length=n->DS K B (b.zip a++T) c->(g.nx b->j.nx a c)/\(g.bk b->j.bk a c)/\(g.ct b->j.ct a c)) /\
 ∀ (r:Sl) (v:V) (b:Aa Sl) (a:St) (c:Hp),b.length=a.length->DS K B (b.zip a++(r,some v)::T) c->g.rt r->j.rt v c
def dS (K:mZ) (g:qG):TS:=λd b H=>∃ (B:Bs) (a:Aa Sl) (T:oM) (c:DEnds),a.length=b.length/\DS K B (a.zip b++T) H/\g B.dk c a/\Ca K B T b.length c d
theorem dS.elim {K:mZ}{P:Prop}(h:dS K p o j H) (f:∀ (B:Bs) (g:Aa Sl) (T:oM) (l:DEnds),g.length=j.length->DS K B (g.zip j++T) H->p B.dk l g->Ca K B T j.length l o->P):P:=by
 obtain⟨B,g,T,c,a,hd,b,k⟩:=h;exact f B g T c a hd b k
abbrev tL (X:Cx) (st:Stmt) (g:qG):Prop:=PS X st (dS X.K g)
abbrev uV (X:Cx) (st:Aa Stmt) (g:qG):Prop:=pS X st (dS X.K g)
theorem PS.mono {X:Cx}{st:Stmt}(h:PS X st t) (k:∀ D g H,j D g H->t D g H):PS X st j:=λa s g H D I q=>h a s g H D I (k D g H q)
theorem pS.mono {X:Cx}{st:Aa Stmt}(h:pS X st t) (k:∀ D g H,j D g H->t D g H):pS X st j:=λa s g H D I q=>h a s g H D I (k D g H q)
def Ij:qG:=λ_ a b=>a.nx b
def F4 (t u:qG):qG:=λb a c=>t b { a with nx:=u b a } c
def sH (g:nN):qG:=λb a c=>g b c λr _=>a.rt r
def T9 (g:nN):qG:=λc b d=>g c d λ_ a=>b.nx a
def zG (c:qV) (t u:qG):qG:=λd e f=>c d f λb a=>if b=true then t d e a else u d e a
def rQ (i:Nat) (g:nN):qG:=λc b d=>g c d λr a=>b.nx (a.set i r)
section
variable {X:Cx}{K:mZ}{st:Stmt}{rest:Aa Stmt}
theorem Ca.seq (h:Ca K B T n o p){P:Aa Sl->Prop}(k:∀ j g l,j.length=g.length->g.length=n->DS K B (j.zip g++T) l->P j->N g l):Ca K B T n { o with nx:=P } { p with nx:=N } :=
 ⟨λj g l a b d=>⟨k j g l a b d,(h.1 j g l a b d).2⟩,h.2⟩
theorem pG:uV X [] Ij:=Av.mono λi f H a=>a.elim λB e T h b hd c d=>(d.1 e f H b rfl hd).1 c
theorem hO (g:tL X st t) (j:uV X rest u):uV X (st::rest) (F4 t u):=(pN g j).mono λs w H a=>a.elim λB m T e f hd h c =>
 ⟨B,m,T,_,f,hd,h,c.seq λb n v i k d q=>⟨B,b,T,e,i,d,q,by rw[k];exact c⟩⟩
theorem nJ (h:tL X st t):uV X [st] t:=qE h
theorem oC (h:PD X e g):tL X (.Return (some e) pos) (sH g):=(vJ h).mono λt q H a=>a.elim λB n T s f hd i m=>⟨B,n,T,_,f,hd,i,λr b v c k d1 d=>m.2 r v b q c k d1 d⟩
theorem zD (h:PD X e j) (g:swapsWith e none pos.line X.env=pure false:=by rfl):tL X (.Expr e pos) (T9 j):=(Ci h g).mono λt q H a=>a.elim λB n T s f hd i m=>⟨B,n,T,_,f,hd,i,λr b v c k d1 d=>(m.1 b q c k rfl d1.drop).1 d⟩
theorem pE (l:tK X c o) (g:uV X a t) (j:uV X b u):tL X (.If c a b pos) (zG o t u):=(yX l g j).mono λs w H e=>e.elim λB q T f m hd n k=>⟨B,q,T,_,m,hd,n,λc d v i d1 h=>by
 cases c with
 | true=>exact (aP rfl).mpr ⟨B,d,T,f,i,d1,(aP rfl).mp h,k⟩
 | false=>exact wV ⟨B,d,T,f,i,d1,(aI (by decide)).mp h,k⟩⟩
theorem DS.assign {g:Aa Sl}{j:St}(l:g.length=j.length) (h:DS K B (g.zip j++(r,some v)::T) H) (i:Nat):DS K B ((g.set i r).zip (j.set i (some v))++T) H:=by
 by_cases m:i<g.length
 .obtain⟨b,y,c,_,_,n,a⟩:=vB l (aF m);rw[a r (some v)];rw[n] at h;have d:DS K B (b++(c++(r,some v)::T)) H:=DS.drop (L1:=b) (x:=(g[i],y)) (by simpa using h);have e:DS K B ((b++c)++(r,some v)::T) H:=by simpa using d
  have f:=e.front;have k:DS K B ((r,some v)::(b++(c++T))) H:=by simpa using f
  simpa using k.mid
 .rw[iO (by omega),iO (by omega)];exact h.drop
theorem nX (i:Nat) (j:X.N.Nodup) (l:PD X e J) (p:X.N[i]?=some x:=by rfl) (I:uN X.env.scope x:=by first | exact Or.inl rfl | exact Or.inr rfl) (C:swapsWith e (some (.Name x g)) pos.line X.env=pure false:=by rfl)
  (o:X.fn x=true\/X.env.scope.names.lookup x=some .local:=by first | exact .inl rfl | exact .inr rfl | assumption):tL X (.Assign [.Name x g] e pos) (rQ i J) :=
 (oN j p I l C o).mono λs t H a=>a.elim λB m T q f hd h k=>⟨B,m,T,_,f,hd,h,λr n v c b d1 d=>(k.1 _ _ c (by rw[aY,aY];exact b) (aY ..) (d1.assign b i)).1 d⟩
end
def zL (N:Aa Af) (g:Aa D):Aa Sl:=g.map .v++List.replicate (N.length-g.length) .n
section
variable {P:Ah}{K:mZ}
theorem No:∀ {g:Aa D}{j:Aa V}(n:Nat),g.length=j.length->(g.map Sl.v++List.replicate n Sl.n).zip (j.map some++List.replicate n none)=(g.zip j).map (λp=>(Sl.v p.1,some p.2))++List.replicate n (Sl.n,none)
 | [],[],n,_=>by simp
 | [],_::_,_,e=>by simp at e
 | _::_,[],_,e=>by simp at e
 | d::g,v::j,n,e=>by
  simp only[aO,cS,cU,fW,true_and];exact No n (by simpa using e)
theorem FJ (l:Reps K A H g j):∀ p∈g.zip j,Rep K A H p.1 p.2:=by
 induction g generalizing j with
 | nil=>intro p a;cases a
 | cons d g b =>
  cases l with
  | cons h r =>
  intro p a;rw[cU] at a;rcases aH.mp a with rfl | q
  .exact h
  .exact b r p q
theorem Fun.okD {st:Stmt}{R:RD}(F:Fun K x J st f fd) (S:FnScope N ps (nS st)) (I:∀ C g T,R C g T->g.length=ps.length) (aa:ps.length<=N.length)
  (U:∀ (l:Ac) (A:Around) (j:Aa Env) (s:Ae) (H:Hp) (E:XK) (C:Aa Ad) (g:Aa D) (T:Sl->Prop),Room k (A.deeper (envOfC J (nS st) s.heap.objs.size f l))->R C g T ->∃ t,uV (xZ oQ P w K mg base N J (nS st) f l A j s H E).nox (sT st) t/\t C { nx:=λ_=>T (.v .e),rt:=T } (zL N g)):FnOk P w K mg base oQ (k+1) f fd ps (yH K R):=by
 refine F.ok S (λm H Q E M=>by obtain⟨C,A,g,T,_,_,r,u,_⟩:=M;rw[<- r.length];exact I _ _ _ u) λl A j s H m Q E hr M=>?_
 obtain⟨C,A1,g,T,L,hA,r,u,X⟩:=M;obtain⟨t,ht,hb⟩:=U l A j s H E C g T hr u;have G:g.length=m.length:=r.length;have dl:g.length=ps.length:=I _ _ _ u;refine⟨_,ht,⟨C,A1,H⟩,zL N g,[],_,?_,?_,hb,?_,?_⟩
 .unfold zL tF;rw[List.length_append,List.length_append,List.length_map,List.length_map,List.length_replicate,List.length_replicate,G]
 .have W:(zL N g).zip (tF N m)=(g.zip m).map (λp=>(Sl.v p.1,some p.2))++List.replicate (N.length-g.length) (Sl.n,none):=by
   unfold zL tF;rw[<- G];exact No _ G
  have B:dT ((zL N g).zip (tF N m))=[]:=by
   rw[W];refine iW.mpr λa i=>?_
   obtain⟨q,c,e⟩:=tG.mp i;rcases aQ.mp c with z | z
   .obtain⟨p,_,rfl⟩:=aN.mp z;cases e
   .rw[(List.mem_replicate.mp z).2] at e;cases e
  rw[dN];refine⟨λb o e _=>e,L,by rw[B];exact gE,(λa i=>by rw[B] at i;exact absurd i bA),λq c=>?_⟩;rw[B];rw[W] at c;rcases aQ.mp c with z | z
  .obtain⟨p,hp,rfl⟩:=aN.mp z;exact⟨p.2,rfl,(FJ r p hp).mono (.all λa i=>⟨hA a i,bA,.inl i⟩)⟩
  .rw[(List.mem_replicate.mp z).2];trivial
 .intro O V y l1 l2 d1;refine⟨λh=>X _ _ y h d1.fr d1.dk .e,λh=>h.elim,λh=>h.elim⟩
 .intro Z v O V y l1 d1 h;refine X Z v y h d1.fr d1.dk ?_;cases Z with
  | n=>trivial
  | v d=>exact d1.valAt.mono (.all λa z=>⟨z.1,z.2.2⟩)
  | o d =>
   obtain⟨a,rfl,r'⟩:=d1.ownAt;have Y:=d1.new a (by rw[sD];exact bL _ aE);exact⟨a,rfl,Y.1,Y.2,r'.mono (.all λb z=>⟨z.1,λq=>z.2.1 (by simp[q]),z.2.2⟩) λ_ q=>q⟩
end
abbrev vE:=D->Aa Sl->(Aa Sl->Prop)->Prop
abbrev zR:=Aa D->Aa Sl->(Aa Sl->Prop)->Prop
noncomputable def pV (g:Aa D) (j:Aa V):oM:=(g.zip j).map λp=>(Sl.v p.1,some p.2)
def dG (K:mZ) (n:Nat) (g:vE):TG:=λv c H Q=>∃ (B:Bs) (e:Aa Sl) (T:oM) (d:D) (h:Aa Sl->Prop),e.length=c.length/\DS K B (e.zip c++(.v d,some v)::T) H/\g d e h /\
 ∀ (b:Aa Sl) (a:St) (f:Hp),b.length=a.length->a.length=c.length->(∀ j,n<=j->a[j]?=c[j]?)->DS K B (b.zip a++T) f->h b->Q a f
def K3 (K:mZ) (n:Nat) (g:zR):zT:=λh c H Q=>∃ (B:Bs) (e:Aa Sl) (T:oM) (d:Aa D) (i:Aa Sl->Prop),e.length=c.length/\d.length=h.length/\DS K B (e.zip c++(pV d h++T)) H/\g d e i /\
 ∀ (b:Aa Sl) (a:St) (f:Hp),b.length=a.length->a.length=c.length->(∀ j,n<=j->a[j]?=c[j]?)->DS K B (b.zip a++T) f->i b->Q a f
theorem dG.elim {K:mZ}{P:Prop}(h:dG K n I v r H Q) (f:∀ (B:Bs) (o:Aa Sl) (T:oM) (d:D) (p:Aa Sl->Prop),o.length=r.length->DS K B (o.zip r++(.v d,some v)::T) H->I d o p ->(∀ (l:Aa Sl) (g:St) (C:Hp),l.length=g.length->g.length=r.length->(∀ j,n<=j->g[j]?=r[j]?)->DS K B (l.zip g++T) C->p l->Q g C)->P):P:=by
 obtain⟨B,o,T,d,p,a,hd,b,k⟩:=h;exact f B o T d p a hd b k
theorem K3.elim {K:mZ}{P:Prop}(h:K3 K n U J C H Q) (f:∀ (B:Bs) (p:Aa Sl) (T:oM) (o:Aa D) (r:Aa Sl->Prop),p.length=C.length->o.length=J.length->DS K B (p.zip C++(pV o J++T)) H->U o p r ->(∀ (l:Aa Sl) (g:St) (I:Hp),l.length=g.length->g.length=C.length->(∀ j,n<=j->g[j]?=C[j]?)->DS K B (l.zip g++T) I->r l->Q g I)->P):P:=by
 obtain⟨B,p,T,o,r,a,c,hd,b,k⟩:=h;exact f B p T o r a c hd b k
abbrev wX (X:Cx) (n:Nat) (e:Expr) (g:vE):Prop:=PG X e (dG X.K n g)
abbrev E8 (X:Cx) (n:Nat) (g:Aa Expr) (j:zR):Prop:=xH X g (K3 X.K n j)
theorem PG.mono {X:Cx}(h:PG X e t) (k:∀ v g H Q,j v g H Q->t v g H Q):PG X e j:=λa s g H v u Q I r q=>h a s g H v u Q I r (k v g H Q q)
theorem xH.mono {X:Cx}(h:xH X j t) (k:∀ v g H Q,l v g H Q->t v g H Q):xH X j l:=λa s g H v u Q I r q=>h a s g H v u Q I r (k v g H Q q)
def gN (i:Nat):vE:=λd b a=>a (b.set i (.v d))
def LP:zR:=λa c b=>a=[]/\b c
def CN (g:vE) (j:zR):zR:=λa e c=>match a with
 | d::a=>g d e λb=>j a b c
 | []=>False
def LH (n:Nat) (g:zR):vE:=λd c b=>match d with
 | .t a=>a.length=n/\g a c b
 | _=>False
section
variable {X:Cx}{K:mZ}
theorem DS.pushs {A:Ad->Prop}:∀ {ds:Aa D}{vs:Aa V},DS K B (L++T) H->Reps K (Al B (dT (L++T))) H ds vs->DS K B (L++(pV ds vs++T)) H
 | _,_,h,.nil=>h
 | _,_,h,.cons (ds:=ds) (vs:=vs) r i=>by
  have c:=DS.pushs (A:=A) h i;have b:dT (L++(pV ds vs++T))=dT (L++T):=by
   have:∀ (ds:Aa D) (vs:Aa V),dT (pV ds vs)=[]:=λds vs=>by
    refine iW.mpr λa d=>?_
    obtain⟨q,f,e⟩:=tG.mp d;obtain⟨p,_,rfl⟩:=aN.mp f;cases e
   rw[qQ,qQ,qQ,this,kH]
  exact c.push (by rw[b];exact r)
theorem nM (i:Nat) (g:X.N.Nodup) (o:X.N[i]?=some x:=by rfl) (p:uN X.env.scope x:=by first | exact Or.inl rfl | exact Or.inr rfl) (r:i<m:=by decide) (l:X.fn x=true\/X.env.scope.names.lookup x=some .local:=by first | exact .inl rfl | exact .inr rfl | assumption):wX X m (.Name x pos) (gN i) :=
 (uH g o p l).mono λv n H Q a=>a.elim λB h T d f b hd c k=>k _ _ H (by rw[aY,aY];exact b) (aY ..) (λj e=>cH (by omega)) (hd.assign b i) c
theorem xO:E8 X m [] LP:=Ye.mono λf i H Q a=>a.elim λB h T n q c e hd ⟨b,d⟩ k=>by
 subst b;cases f with
 | nil=>exact⟨rfl,k h i H c rfl (λ_ _=>rfl) hd d⟩
 | cons _ _=>simp at e
theorem rD (p:wX X m e g) (r:E8 X m l o) (C:(assignEach (e::l) X.env).map (·.2)=assign e X.env::(assignEach l X.env).map (·.2):=by rfl):E8 X m (e::l) (CN g o) :=
 (AF p r C).mono λb M H Q c=>c.elim λB F T a E w t hd s k=>by
  cases a with
  | nil=>exact s.elim
  | cons d a =>
   cases b with
   | nil=>simp at t
   | cons v b =>
    refine⟨v,b,rfl,B,F,pV a b++T,d,_,w,hd,s,λf G L x y f1 d1 q=>⟨B,f,T,a,E,x,by simpa using t,d1,q,λh i u z A f2 d2 D=>k h i u z (A.trans y) (λj n=>(f2 j n).trans (f1 j n)) d2 D⟩⟩
theorem yE (o:X.calm=true) (h:E8 X m g l) (p:(assignEach g X.env).length=n:=by rfl) (j:(assignEach g X.env).findIdx? (·.1)=none:=by rfl):wX X m (.Tuple g k pos) (LH n l) :=
 (GB o h p j).mono λv x H Q b=>b.elim λB w T d u q hd c k=>by
  cases d with
  | t f =>
   obtain⟨a,s,rfl,i,e⟩:=hd.valAt.tup_inv;exact⟨a,s,rfl,nQ.of i,by rw[<- e.length];exact c.1,B,w,T,f,u,q,e.length,hd.drop.pushs (A:=λ_=>True) e,c.2,k⟩
  | _=>exact c.elim
end
def xT:D->D->D->Ab D
 | .l c,.int i,d=>(rZ c.length i).map λj=>.l (c.set j d)
 | .k a,k,d=>if a.length<100000 then (match k with
  | .t b=>(wQ b).map λj=>.dM (oA (a.map λp=>((Sum.inl p.1:MK),p.2)) (.inr j) d)
  | k=>(rX k).map λk=>.k (oA a k d)) else none
 | .T a,.t b,d=>if a.length<100000 then (wQ b).map λk=>.T (oA a k d) else none
 | .dM a,k,d=>if a.length<100000 then (vK k).map λk=>.dM (oA a k d) else none
 | _,_,_=>none
def Jc (i:Nat) (g tv:nN):qG:=λf h q=>tv f q λn a=>(at? a i).isSome=true/\g f a λm b=>match sd n,sd m,b[i]? with
 | some d,some k,some (.o c)=>∃ e,xT c k d=some e/\h.nx (b.set i (.o e))
 | _,_,_=>False
section
variable {X:Cx}{K:mZ}{tv:nN}
def Ju:Kj:=λo i v H Q=>U1 o i v H Q\/∃ a b,o = .ref a/\tE H a i v b/\Q b
theorem GD (j:X.A.units+1<cLine):Jf X Ju:=by
 intro b s t H o i v n m u Q I d c e h;rcases h with h | ⟨a,f,rfl,g,q⟩
 .exact Gz b s t H o i v n m u Q I d c e h
 .cases d;exact MF j I g c e λw k=>⟨f,k,q⟩
theorem DS.slotW {g:Aa Sl}{j:St}(C:g.length=j.length) (h:DS K B (g.zip j++T) H){i:Nat}{c:D}(e:g[i]?=some (.o c)):∃ a,j[i]?=some (some (.ref a))/\pJ K (Al B (dT (g.zip j++T))) H a c /\
  ∀ (o:HO) (l:D),(∀ p,Kp (Al B (dT (g.zip j++T))) p H (upd H a o)->pJ K p (upd H a o) a l)->DS K B ((g.set i (.o l)).zip j++T) (upd H a o):=by
 obtain⟨q,y,s,m,_,n,b⟩:=vB C e;have d:DS K B (q++(.o c,y)::(s++T)) H:=by rw[n] at h;simpa using h
 obtain⟨a,rfl,_⟩:=d.at;have f:dT (g.zip j++T)=dT q++a::dT (s++T):=by rw[n,bI,cS,sD];rfl
 obtain⟨v,t,r⟩:=d.ownAt;cases t;refine⟨a,m,by rw[f];exact r,λo l k=>?_⟩;rw[f] at k;have u:=d.write (o:=o) (d':=l) k;have:=b (.o l) (some (.ref a));rw[zS m] at this;rw[this]
 simpa using u
theorem IJ (h:xT c k d=some c') (r:pJ K A H a c) (U:nY K A H k y) (J:Rep K A H d v)
  (I:∀ o,(∀ C,Kp A C H (upd H a o)->pJ K C (upd H a o) a c')->Q (upd H a o)):Ju (.ref a) y v H Q:=by
 cases c with
 | l P =>
  cases k with
  | int i =>
   obtain⟨q,z,x⟩:=r;obtain⟨j,u,rfl⟩:=bU.mp h;have:=U.int_inv;subst this;exact .inl ⟨a,q,i,j,rfl,rfl,z,by rw[<- x.length];exact u,I _ λC w=>⟨_,hI,(x.set J j).mono w⟩⟩
  | _=>cases h
 | k e =>
  obtain⟨q,z,s,x⟩:=r;by_cases n:e.length<100000
  .have F:q.length<sizeLine:=by
    have:=cK List.length s;simp only[aA] at this;exact aW (show q.length<100000 by omega) (by decide)
   have N:(rX k).map (λj=>D.k (oA e j d))=some c'->Ju (.ref a) y v H Q:=λh=>by
    obtain⟨j,u,rfl⟩:=bU.mp h;rw[Bd u U];obtain⟨B,E⟩:=Bl s x (k:=j) J;exact .inr ⟨a,_,rfl,tE.k z F,I _ λC w=>⟨_,hI,B,E.mono w⟩⟩
   unfold xT at h;dsimp only at h;rw[aP n] at h;cases k with
   | t M =>
    obtain⟨j,u,rfl⟩:=bU.mp h;obtain⟨b,O,rfl,G,L⟩:=U.tup_inv;rw[Gy u L] at G;obtain⟨B,E⟩:=Bl (ds:=e.map λp=>((Sum.inl p.1:MK),p.2)) (kvs:=q.map λp=>((Sum.inl p.1:MK),p.2)) (by rw[bB,bB];exact (bB (f:=Prod.fst) (g:=(Sum.inl:hG->MK))).symm.trans ((cK (List.map Sum.inl) s).trans bB)) (by rw[bB,bB];exact x) (k:=.inr j) J;exact .inr ⟨a,_,rfl,tE.km z G F,I _ λC w=>⟨_,hI,B,E.mono w⟩⟩
   | _=>exact N h
  .unfold xT at h;dsimp only at h;rw[aI n] at h;cases h
 | T e =>
  cases k with
  | t M =>
   obtain⟨q,z,s,x⟩:=r;have h:=(show (if e.length<100000 then (wQ M).map λj=>D.T (oA e j d) else none)=some c' from h);by_cases n:e.length<100000
   .rw[aP n] at h;obtain⟨j,u,rfl⟩:=bU.mp h;obtain⟨b,O,rfl,G,L⟩:=U.tup_inv;rw[Gy u L] at G;obtain⟨B,E⟩:=Bl s x (k:=j) J;have F:q.length<sizeLine:=by
     have:=cK List.length s;simp only[aA] at this;exact aW (show q.length<100000 by omega) (by decide)
    exact .inr ⟨a,_,rfl,tE.t z G F,I _ λC w=>⟨_,hI,B,E.mono w⟩⟩
   .rw[aI n] at h;cases h
  | _=>cases h
 | dM e =>
  obtain⟨q,z,s,x⟩:=r;have h:=(show (if e.length<100000 then (vK k).map λj=>D.dM (oA e j d) else none)=some c' from h);by_cases n:e.length<100000
  .rw[aP n] at h;obtain⟨j,u,rfl⟩:=bU.mp h;obtain⟨B,E⟩:=Bl s x (k:=j) J;have F:q.length<sizeLine:=by
    have:=cK List.length s;simp only[aA] at this;exact aW (show q.length<100000 by omega) (by decide)
   exact .inr ⟨a,_,rfl,tE.m z (Uf u U) F,I _ λC w=>⟨_,hI,B,E.mono w⟩⟩
  .rw[aI n] at h;cases h
 | _=>cases h
theorem uP (U:X.A.units+1<cLine) (hv:PD X e tv) (I:PE X o (pY n)) (r:PD X i ti)
  (j:∀ v,assign (.Subscript o i g) X.env v=(do
   let l <- holding [v] (eval o X.env);let C <- holding [v,l] (eval i X.env)
   standAt g
   holding [v,l,C] (setItem l C v)
   release [v,l,C] []):=by intro _;rfl)
  (J:swapsWithSole [.Subscript o i g] e pos.line X.env=pure false:=by rfl) (hw:swappedStores [.Subscript o i g] e X.env=pure none:=by rfl)
  (p:(assignEach [.Subscript o i g] X.env).map (·.2)=[assign (.Subscript o i g) X.env]:=by rfl):tL X (.Assign [.Subscript o i g] e pos) (Jc n ti tv) :=
 (F9 hv (Hn I r (GD U) j) J hw p).mono λDn σ H q=>q.elim λB ρ T De N hd P Q=>⟨B,ρ,T,_,N,hd,P,λF u v H1 D d1 t=>by
  obtain⟨r,p⟩:=t;obtain⟨d0,L⟩:=eE.mp r;obtain⟨x,z,_⟩:=d1.peek D L;refine⟨x,z,B,u,(F,some v)::T,_,D,d1,p,λY w y H2 E d2 b=>?_⟩;cases f:sd F with
  | none=>rw[f] at b;exact b.elim
  | some d =>
   cases h:sd Y with
   | none=>rw[f,h] at b;exact b.elim
   | some k =>
    cases m:w[n]? with
    | none=>rw[f,h,m] at b;exact b.elim
    | some s =>
     cases s with
     | n=>rw[f,h,m] at b;exact b.elim
     | v c=>rw[f,h,m] at b;exact b.elim
     | o c =>
      rw[f,h,m] at b;obtain⟨G,M,b⟩:=b;obtain⟨R,S,V⟩:=d2.two f h;obtain⟨a,j,W,Z⟩:=R.slotW E m;rw[z] at j;cases j;exact IJ M W V.peek S λo O=>(Q.1 _ _ _ (by rw[aY];exact E) rfl (Z o G O)).1 b⟩
end
section
variable {X:Cx}
def JG (K:mZ) (R:It->Hp->Prop) (x:V) (H:Hp):Prop:=(∃ a,x = .ref a/\(∃ b,eH K H a b)/\R (wL K a) H)\/(∃ a,x = .ref a/\(∃ b,nQ K H a b)/\R (Ba K a) H)\/∃ z:Af,x = .str z/\z.cps.all (·<128)=true/\R (vG z) H
def Z7 (K:mZ) (g:TE):TI:=λb H R=>g b H λx a=>JG K R x a
theorem S9 (g:PE X l j):PI X r l (Z7 X.K j):=by
 intro d s G H R I h;refine nD (g d s G H _ I h) λv c u=>?_
 obtain⟨x,k,f,w,D⟩:=u;have m:∀ b∈[c.heap.objs.size],tH X d k b:=λb A=>by
  have e:b=c.heap.objs.size:=by simpa using A
  subst e;exact f.fpOk (aR _) (f.hok.fresh (aR _))
 rcases D with⟨a,rfl,⟨F,n⟩,q⟩ | ⟨a,rfl,⟨F,n⟩,q⟩ | ⟨z,rfl,y,q⟩
 .cases w;obtain⟨i,E,p,B⟩:=f.list n;exact iG p.isList ⟨c.heap.objs.size,[c.heap.objs.size],_,_,k,rfl,f.kept (t':=c.toks) λb o e=>aL _ e,Sg a _,⟨_,bC _ rfl,rfl,rfl⟩,m,q⟩
 .cases w;obtain⟨i,E,p,B⟩:=f.tuple n;exact wpAny_pyIter_tuple (show c.heap.IsTuple a i.toArray from p) ⟨c.heap.objs.size,[c.heap.objs.size],_,_,k,rfl,f.kept (t':=c.toks) λb o e=>aL _ e,NE a _,⟨_,bC _ rfl,rfl,rfl⟩,m,q⟩
 .obtain⟨t,rfl⟩:=w;exact wpAny_pyIter_ascii y ⟨c.heap.objs.size,[c.heap.objs.size],_,vG z,k,rfl,f.kept (t':=c.toks) λb L q=>aL _ q,Sn z t _,⟨_,bC _ rfl,rfl,rfl⟩,m,q⟩
end
def xB (K:mZ) (A:Ad->Prop) (H:Hp) (E:oM):Prop:=∀ p∈E,sG K A H p.1 p.2
structure YD (K:mZ) (J:It) (ds:List D) (E:oM):Prop where
 vals:dT E=[]
 go:∀ i H A,i<ds.length->xB K A H E->J.go i H
 yld:∀ i H A x H',i<ds.length->xB K A H E->J.yld i H x H'->∃ d,ds[i]?=some d/\((H'=H/\Rep K A H d x)\/∃ p es vs,H p=none/\x = .ref p/\H'=upd H p (.t vs)/\d = .t es/\Reps K A H es vs)
 stop:∀ i H A,i=ds.length->xB K A H E->J.stop i H
abbrev vL:=Aa Ad->Aa Sl->(Aa D->Aa Sl->Prop)->Prop
def dI (K:mZ) (g:vL):TI:=λb H R=>∃ (B:Bs) (c:Aa Sl) (T:oM) (f:Aa D->Aa Sl->Prop),c.length=b.length/\DS K B (c.zip b++T) H/\g B.dk c f /\
 ∀ (J:It) (e:Aa D) (a:Aa Sl) (E:oM) (d:Hp),a.length=b.length->DS K B (a.zip b++(E++T)) d->YD K J e E->f e a->R J d
theorem dI.elim {K:mZ}{R:It->Hp->Prop}{P:Prop}(h:dI K C o H R) (f:∀ (B:Bs) (j:Aa Sl) (T:oM) (l:Aa D->Aa Sl->Prop),j.length=o.length->DS K B (j.zip o++T) H->C B.dk j l ->(∀ (J:It) (r:Aa D) (g:Aa Sl) (E:oM) (p:Hp),g.length=o.length->DS K B (g.zip o++(E++T)) p->YD K J r E->l r g->R J p)->P):P:=by
 obtain⟨B,j,T,l,a,hd,b,k⟩:=h;exact f B j T l a hd b k
abbrev xU (X:Cx) (g iter:Expr) (j:vL):Prop:=PI X g iter (dI X.K j)
theorem PI.mono {X:Cx}{iter:Expr}(h:PI X j iter w) (k:∀ g H R,l g H R->w g H R):PI X j iter l:=λa s g H R I q=>h a s g H R I (k g H R q)
noncomputable def A6 (z:Af):Aa D:=z.cps.toList.map λc=>D.str ⟨#[c]⟩
def HJ:D->Ab (Aa D)
 | .l a=>some a
 | .t a=>some a
 | .con a=>some a
 | .c a=>some a
 | .str z=>if z.cps.all (·<128) then some (A6 z) else none
 | _=>none
def iV (g:nN):vL:=λb e d=>g b e λr a=>match (sd r).bind HJ with
 | some c=>d c a
 | none=>False
noncomputable def sM (lo:Int) (n:Nat):Aa D:=(List.range n).map λ(i:Nat)=>D.int (lo+i)
def W9 (g:nN):vL:=λb d c=>g b d λr a=>match r with
 | .v (.int j)=>-(2 ^ 62)<=j/\j<2 ^ 62/\c (sM 0 j.toNat) a
 | _=>False
section
variable {X:Cx}{K:mZ}
theorem Wz {a:Ad}{g:Aa D}:YD K (wL K a) g [(.v (.l g),some (.ref a))] where
 vals:=rfl
 go:=λi H A h ok=>by
  obtain⟨v,e,r⟩:=ok _ aE;cases e;obtain⟨k,b,e,_,c,f⟩:=r.lst_inv;cases e;exact⟨b,b[i]'(by rw[<- f.length];exact h),eH.of c,aF _⟩
 yld:=λi H A x m h ok y=>by
  obtain⟨v,e,r⟩:=ok _ aE;cases e;obtain⟨k,b,e,_,c,f⟩:=r.lst_inv;cases e;obtain⟨d,hd,rd⟩:=f.getV (y.2 b (eH.of c));exact⟨d,hd,.inl ⟨y.1,rd⟩⟩
 stop:=λi H A h ok=>by
  obtain⟨v,e,r⟩:=ok _ aE;cases e;obtain⟨k,b,e,_,c,f⟩:=r.lst_inv;cases e;exact⟨b,eH.of c,by rw[<- f.length];omega⟩
theorem MM {a:Ad}{g:Aa D}:YD K (wL K a) g [(.v (.c g),some (.ref a))] where
 vals:=rfl
 go:=λi H A k ok=>by
  obtain⟨v,e,r⟩:=ok _ aE;cases e;obtain⟨m,b,e,f,h⟩:=r.scr_inv;cases e;exact⟨b,b[i]'(by rw[<- h.length];exact k),f.sqL,aF _⟩
 yld:=λi H A x n k ok y=>by
  obtain⟨v,e,r⟩:=ok _ aE;cases e;obtain⟨m,b,e,f,h⟩:=r.scr_inv;cases e;obtain⟨d,hd,rd⟩:=h.getV (y.2 b f.sqL);exact⟨d,hd,.inl ⟨y.1,rd⟩⟩
 stop:=λi H A k ok=>by
  obtain⟨v,e,r⟩:=ok _ aE;cases e;obtain⟨m,b,e,f,h⟩:=r.scr_inv;cases e;exact⟨b,f.sqL,by rw[<- h.length];omega⟩
theorem S7 {a:Ad}{d:D}{g:Aa D}(hd:d = .t g\/d = .con g):YD K (Ba K a) g [(.v d,some (.ref a))]:=by
 have key:∀ A H,xB K A H [(.v d,some (.ref a))]->∃ b,nQ K H a b/\Reps K A H g b:=λA H ok=>by
  obtain⟨v,e,r⟩:=ok _ aE;cases e;rcases hd with rfl | rfl
  .obtain⟨k,b,e,c,f⟩:=r.tup_inv;cases e;exact⟨b,nQ.of c,f⟩
  .obtain⟨k,b,e,c,f⟩:=r.con_inv;cases e;exact⟨b,c.sqT,f⟩
 refine⟨rfl,λi H A h ok=>?_,λi H A x m h ok y=>?_,λi H A h ok=>?_⟩
 .obtain⟨b,c,f⟩:=key A H ok;exact⟨b,b[i]'(by rw[<- f.length];exact h),c,aF _⟩
 .obtain⟨b,c,f⟩:=key A H ok;obtain⟨d,hd,rd⟩:=f.getV (y.2 b c);exact⟨d,hd,.inl ⟨y.1,rd⟩⟩
 .obtain⟨b,c,f⟩:=key A H ok;exact⟨b,c,by rw[<- f.length];omega⟩
theorem Zy:YD K (vG z) (A6 z) [] where
 vals:=rfl
 go:=λi H A a _=>by simpa [vG,A6,Str.length] using a
 yld:=λi H A x d a _ y=>by
  obtain⟨e,c,b,rfl⟩:=y;refine⟨.str ⟨#[c]⟩,?_,.inl ⟨e,.str _⟩⟩;unfold A6;rw[aU,dH,b];rfl
 stop:=λi H A a _=>by simp[vG,a,A6,Str.length]
theorem Yy {lo:Int}:YD K (uF lo n) (sM lo n) [] where
 vals:=rfl
 go:=λi H A a _=>by simpa [uF,sM] using a
 yld:=λi H A x c a _ y=>by
  have b:i<n:=by simpa [sM] using a
  refine⟨.int (lo+i),by simp[sM,b],.inl ⟨y.1,?_⟩⟩;rw[y.2];exact .int _
 stop:=λi H A a _=>by simp[uF,sM,a]
theorem oP (g:PD X e j):xU X o e (iV j):=(S9 g).mono λM H R w=>w.elim λB L T G E hd F k=>⟨B,L,T,_,E,hd,F,λr f v n q d1 b=>by
 cases u:sd r with
 | none=>rw[u] at b;exact b.elim
 | some d =>
  rw[u] at b;have d2:=d1.thaw u;have s:=d2.valAt;cases d with
  | l m=>obtain⟨a,i,rfl,_,h,y⟩:=s.lst_inv;exact .inl ⟨a,rfl,⟨i,eH.of h⟩,k _ m f [_] n q d2 Wz b⟩
  | c m=>obtain⟨a,i,rfl,h,y⟩:=s.scr_inv;exact .inl ⟨a,rfl,⟨i,h.sqL⟩,k _ m f [_] n q d2 MM b⟩
  | t m=>obtain⟨a,i,rfl,h,y⟩:=s.tup_inv;exact .inr (.inl ⟨a,rfl,⟨i,nQ.of h⟩,k _ m f [_] n q d2 (S7 (.inl rfl)) b⟩)
  | con m=>obtain⟨a,i,rfl,h,y⟩:=s.con_inv;exact .inr (.inl ⟨a,rfl,⟨i,h.sqT⟩,k _ m f [_] n q d2 (S7 (.inr rfl)) b⟩)
  | str z =>
   have:=s.str_inv;subst this;have b:=(show (match (if z.cps.all (·<128)=true then some (A6 z) else none:Ab (Aa D)) with | some A=>G A f | none=>False) from b);by_cases x:z.cps.all (·<128)=true
   .rw[aP x] at b;exact .inr (.inr ⟨z,rfl,x,k _ _ f [] n q d2.drop Zy b⟩)
   .rw[aI x] at b;exact b.elim
  | _=>exact b.elim⟩
theorem Ak (j:Gl X "range") (l:X.mg "range" = none) (g:PD X a I) (C:starEach [a] X.env=[(false,eval a X.env)]:=by rfl) (o:zZ a=true:=by rfl):xU X J (.Call (.Name "range" p) [a] [] pos) (W9 I) :=
 (zJ j l (hL g nI o) C).mono λs H R c=>c.elim λB n T q h hd i k=>⟨B,n,T,_,h,hd,i,λr e v f m d1 b=>by
  cases r<;>first | exact False.elim b | skip
  rename_i d
  cases d<;>first | exact False.elim b | skip
  have:=d1.valAt.int_inv;subst this;exact⟨_,rfl,b.1,b.2.1,k _ _ e [] f m d1.drop Yy b.2.2⟩⟩
def Gr (l:vL) (g:vE) (j:qG):qG:=λf b k=>l f k λh c=>∃ Pv:Nat->Aa Sl->Prop,Pv 0 c /\
 (∀ i d a,h[i]?=some d->Pv i a->g d a λe=>j f { nx:=Pv (i+1),ct:=Pv (i+1),bk:=b.nx,rt:=b.rt } e)/\∀ a,Pv h.length a->b.nx a
theorem DS.rmE:∀ {E:oM},DS K B (L++(E++T)) H->DS K B (L++T) H
 | [],h=>h
 | x::E,h=>DS.rmE (E:=E) (DS.drop (L1:=L) (x:=x) (by simpa using h))
theorem qL {iter:Expr}{body:Aa Stmt}{o:vL}{g:vE}{j:qG}(hi:xU X l iter o) (hg:wX X 99 l g) (I:uV X body j) (hp:PassesOwn (model X.prog X.w) X.A X.env X.xe:=by exact eC) (U:X.calm=true:=by rfl)
  (hs:∀ x,foldedSetIterable iter X.env x=pure x:=by intro _;rfl):tL X (.For l iter body [] pos) (Gr o g j) :=
 (vZ hp U hi hg I hs).mono λDn W H O=>O.elim λB ρ T De hl hd ht Q=>⟨B,ρ,T,_,hl,hd,ht,λJ F S E H1 l1 d1 Y P=>by
  obtain⟨Pv,p0,step,fin⟩:=P;refine⟨λi m c k=>m=F.length-i/\i<=F.length/\∃ a,a.length=c.length/\c.length=W.length/\DS X.K B (a.zip c++(E++T)) k/\Pv i a,⟨_,rfl,cE _,S,l1,rfl,d1,p0⟩,?_⟩;rintro i m c k ⟨rfl,aa,a,V,m2,L,pv⟩;have n:xB X.K (Al B (dT (a.zip c++(E++T)))) k E:=λq hq=>L.ok q (by simp[hq])
  by_cases s:i<F.length
  .refine .inr ⟨Y.go i k _ s n,λf t=>∃ b,b.length=f.length/\f.length=W.length/\DS X.K B (b.zip f++(E++T)) t/\Pv (i+1) b,λf t ⟨b,q1,q2,R,q4⟩=>⟨_,(by omega:F.length-(i+1)<_),rfl,s,b,q1,q2,R,q4⟩,λx t y=>?_⟩;obtain⟨d,M,alt⟩:=Y.yld i k _ x t s n y;have d2:DS X.K B (a.zip c++(.v d,some x)::(E++T)) t:=by
    rcases alt with⟨rfl,rx⟩ | ⟨p,es,vs,N,rfl,rfl,rfl,rr⟩
    .exact L.push rx
    .exact L.tup N rr
   refine⟨B,a,E++T,d,_,V,d2,step i d a M pv,λb f H3 n1 n2 _ Z R=>⟨B,b,E++T,_,n1,Z,R,?_,?_⟩⟩
   .intro e h G u a2 D;refine⟨λz=>⟨e,u,by omega,D,z⟩,λz=>?_,λz=>⟨e,u,by omega,D,z⟩⟩;exact (Q.1 e h G u (by omega) D.rmE).1 z
   .intro r v e h G u D z;refine Q.2 r v e h G u ?_ z;have:DS X.K B ((e.zip h++[(r,some v)])++(E++T)) G:=by simpa using D
    simpa using this.rmE
  .have C:i=F.length:=by omega
   subst C;exact .inl ⟨Y.stop _ k _ rfl n,(Q.1 a c k V m2 L.rmE).1 (fin a pv)⟩⟩
def Yr (c:qV) (g:qG):qG:=λi h d=>∃ (Pv:Aa Sl->Prop) (f:Aa Sl->Nat),Pv d/\∀ d,Pv d->c i d λb e =>
 if b=true then g i { nx:=λa=>Pv a/\f a<f d,ct:=λa=>Pv a/\f a<f d,bk:=h.nx,rt:=h.rt } e else h.nx e
theorem Oy {c:Expr}{body:Aa Stmt}{j:qV}{g:qG}(p:PassesOwn (model X.prog X.w) X.A X.env X.xe) (o:tK X c j) (l:uV X body g):tL X (.While c body [] pos) (Yr j g) :=
 (JN p o l).mono λI G H t=>t.elim λB Z T C N hd ⟨Pv,x,Q,step⟩ u=>by
  refine⟨λm f y=>∃ a,m=x a/\a.length=f.length/\f.length=G.length/\DS X.K B (a.zip f++T) y/\Pv a,⟨_,Z,rfl,N,rfl,hd,Q⟩,?_⟩;rintro m f y ⟨a,rfl,O,P,M,pv⟩;refine⟨B,a,T,_,O,M,step a pv,λb q L F d1 E=>?_⟩;cases b with
  | true =>
   refine (aP rfl).mpr ⟨λh D=>∃ d,d.length=h.length/\h.length=G.length/\DS X.K B (d.zip h++T) D/\Pv d/\x d<x a,λh D ⟨d,R,S,V,W,Y⟩=>⟨_,Y,d,rfl,R,S,V,W⟩,B,q,T,_,F,d1,(aP rfl).mp E,?_,?_⟩
   .intro e i s k J n;exact⟨λz=>⟨e,k,by omega,n,z⟩,λz=>(u.1 e i s k (by omega) n).1 z,λz=>⟨e,k,by omega,n,z⟩⟩
   .exact λr v e i s k n z=>u.2 r v e i s k n z
  | false=>exact wV ((u.1 q f L F P d1).1 ((aI (by decide)).mp E))
end
def oD (B:Bs) (D:Ad) (g:Aa V):Bs:=⟨B.dk,λa=>(B.A0 a\/B.H0 a=none)/\a≠D,λa=>if a=D then some (.l g) else B.H0 a⟩
section
variable {K:mZ}{R:oM}{D:Ad}
theorem Bv {R:Aa Ad}:Al (oD B D g) R a↔Al B R a/\a≠D:=by
 unfold Al oD;constructor
 .rintro ⟨c,d,b | b⟩
  .exact⟨⟨c,d,b.1⟩,b.2⟩
  .dsimp only at b;by_cases z:a=D
   .rw[aP z] at b;cases b
   .rw[aI z] at b;exact⟨⟨c,d,.inr b⟩,z⟩
 .rintro ⟨⟨c,d,b⟩,e⟩;exact⟨c,d,.inl ⟨b,e⟩⟩
theorem DS.pin (h:DS K B L H) (g:H D=none):DS K (oD B D []) L (upd H D (.l [])):=by
 obtain⟨f1,f2,d⟩:=h.free g;refine⟨λb o e n=>?_,h.dk.upd f2,h.nd,λa c=>?_,λp f=>(h.ok p f).mono (.laid g λa z n=>Bv.mpr ⟨z,n⟩) λb i o q=>by rw[gV (nB q g)];exact q⟩
 .by_cases z:b=D
  .subst z;simp only[oD,gW] at e;cases e;exact hI
  .simp only[oD,aI z] at e;rw[gV z];exact h.fr b o e n
 .have:=h.new a c;have z:a≠D:=λq=>d (q▸c)
  exact⟨by simp only[oD,aI z];exact this.1,this.2⟩
theorem DS.pinAt (h:DS K (oD B D j) L H) (g:D∉B.dk):H D=some (.l j):=h.fr D _ (by simp[oD]) g
theorem DS.pinW (h:DS K (oD B D j) L H) (g:D∉B.dk):DS K (oD B D ys') L (upd H D (.l ys')):=by
 have d:=h.pinAt g;have k:Kp (Al (oD B D j) (dT L)) (Al (oD B D ys') (dT L)) H (upd H D (.l ys')) :=
  (Kp.write (A:=Al (oD B D j) (dT L)) d rfl λz=>(Bv.mp z).2 rfl).trans (.all λa z=>Bv.mpr (Bv.mp z))
 refine⟨λb o e n=>?_,h.dk.upd g,h.nd,λa f=>?_,λp c=>(h.ok p c).mono k λb i o q=>?_⟩
 .by_cases z:b=D
  .subst z;simp only[oD,gW] at e;cases e;exact hI
  .simp only[oD,aI z] at e;rw[gV z];exact h.fr b o (by simp only[oD,aI z];exact e) n
 .have:=h.new a f;have z:a≠D:=λq=>by subst q;simp[oD] at this
  simp only[oD,aI z] at this |-;exact this
 .have:=(h.new b (tG.mpr ⟨p,c,i⟩)).1;have z:b≠D:=λw=>by subst w;simp[oD] at this
  rw[gV z];exact q
theorem DS.unpin (h:DS K (oD B D g) L H) (r:Reps K (Al (oD B D g) (dT L)) H I g) (j:B.H0 D=none) (C:D∉B.dk):DS K B ((.o (.l I),some (.ref D))::L) H:=by
 have k:=h.pinAt C;have i:D∉dT L:=λz=>by have:=(h.new D z).1;simp[oD] at this
 have c:dT ((Sl.o (.l I),some (V.ref D))::L)=D::dT L:=rfl;have al:∀ a,Al (oD B D g) (dT L) a->Al B (D::dT L) a:=λa z=>by
  obtain⟨d,s⟩:=Bv.mp z;exact⟨d.1,λq=>(aH.mp q).elim s d.2.1,d.2.2⟩
 refine⟨λb o e n=>?_,h.dk,by rw[c];exact bN.mpr ⟨i,h.nd⟩,λa f=>?_,λp m=>?_⟩
 .have z:b≠D:=λq=>by subst q;rw[j] at e;cases e
  exact h.fr b o (by simp only[oD,aI z];exact e) n
 .rw[c] at f;rcases aH.mp f with q | q
  .subst q;exact⟨j,C⟩
  .have:=h.new a q;have z:a≠D:=λw=>i (w▸q)
   simp only[oD,aI z] at this;exact this
 .rw[c];rcases aH.mp m with q | q
  .subst q;exact⟨D,rfl,g,k,r.mono (.all al)⟩
  .exact (h.ok p q).mono (.all al) λ_ _ _ w=>w
theorem DS.lend1 {g:Aa Sl}{j:St}(l:g.length=j.length) (h:DS K B (g.zip j++R) H) (i:Nat):DS K B ((g.set i .n).zip j++((g[i]?).getD .n,(j[i]?).join)::R) H:=by
 by_cases d:i<g.length
 .obtain⟨b,y,c,f,_,t,a⟩:=vB l (aF d);rw[t] at h;have k:DS K B (b++(g[i],y)::(c++R)) H:=by simpa using h
  have m:=k.front;have q:DS K B (((g[i],y)::b)++(.n,y)::(c++R)) H:=DS.pushN (L1:=(g[i],y)::b) (by simpa using m) y;have e:=a .n y;rw[zS f] at e;rw[e,aF d,f];have s:DS K B ((g[i],y)::((b++(Sl.n,y)::c)++R)) H:=by simpa using q
  exact s.mid
 .rw[iO (by omega),eY (by omega),eY (by omega)];exact h.pushN _
theorem DS.back1 {g:Aa Sl}{l:St}{s:Sl}{y:Ab V}(o:g.length=l.length) (h:DS K B (g.zip l++(s,y)::R) H){i:Nat}(j:(l[i]?).join=y):DS K B ((g.set i s).zip l++R) H:=by
 by_cases q:i<g.length
 .obtain⟨d,a,f,c,_,t,b⟩:=vB o (aF q);rw[c] at j;have j:a=y:=j;subst j;have e:=b s a;rw[zS c] at e;rw[e];rw[t] at h;have k:DS K B (d++(f++(s,a)::R)) H:=DS.drop (L1:=d) (x:=(g[i],a)) (by simpa using h);have m:DS K B ((d++f)++(s,a)::R) H:=by simpa using k
  have n:DS K B ((s,a)::(d++(f++R))) H:=by simpa using m.front
  simpa using n.mid
 .rw[iO (by omega)];exact h.drop
def pP (g:Aa Nat) (j:Aa Sl):Aa Sl:=g.map λi=>(j[i]?).getD .n
def rH (g:Aa Nat) (j:St):St:=g.map λi=>(j[i]?).join
def pR (g:Aa Nat) (j:Aa Sl):Aa Sl:=g.foldl (λj i=>j.set i .n) j
def qN:Aa Nat->Aa Sl->Aa Sl->Aa Sl
 | i::a,s::c,b=>qN a c (b.set i s)
 | _,_,b=>b
theorem Io:∀ (g:Aa Nat) (j:Aa Sl),(pR g j).length=j.length
 | [],_=>rfl
 | i::g,j=>by show (pR g (j.set i .n)).length=_;rw[Io g,aY]
theorem R5:∀ (g:Aa Nat) (l:Aa Sl) (j:Aa Sl),(qN g l j).length=j.length
 | [],_,_=>rfl
 | _::_,[],_=>rfl
 | i::g,s::l,j=>(R5 g l (j.set i s)).trans (aY ..)
theorem DS.lend:∀ {caps:Aa Nat}{g:Aa Sl}{R:oM},caps.Nodup->g.length=l.length->DS K B (g.zip l++R) H->DS K B ((pR caps g).zip l++((pP caps g).zip (rH caps l)++R)) H
 | [],g,R,_,a,h=>h
 | i::caps,g,R,d,a,h=>by
  obtain⟨f,k⟩:=bN.mp d;have b:=DS.lend (caps:=caps) (R:=((g[i]?).getD .n,(l[i]?).join)::R) k (by rw[aY];exact a) (h.lend1 a i);have e:pP caps (g.set i .n)=pP caps g:=gR λj c=>by rw[cH (λz:i=j=>f (by rw[z];exact c))]
  rw[e] at b;show DS K B ((pR caps (g.set i .n)).zip l++((((g[i]?).getD .n,(l[i]?).join)::(pP caps g).zip (rH caps l))++R)) H;refine b.perm (jO _ ?_);rw[cS];exact iT
theorem DS.back:∀ {caps:Aa Nat}{cs:Aa Sl}{g:Aa Sl}{R:oM},cs.length=caps.length->g.length=j.length->DS K B (g.zip j++(cs.zip (rH caps j)++R)) H->DS K B ((qN caps cs g).zip j++R) H
 | [],[],g,R,_,a,h=>h
 | [],_::_,_,_,e,_,_=>by simp at e
 | _::_,[],_,_,e,_,_=>by simp at e
 | i::caps,s::cs,g,R,e,a,h=>by
  have b:DS K B (g.zip j++(s,(j[i]?).join)::(cs.zip (rH caps j)++R)) H:=h;exact DS.back (caps:=caps) (cs:=cs) (by simpa using e) (by rw[aY];exact a) (b.back1 a rfl)
theorem Wc (g:Aa Nat):∀ (o:Aa Sl) (l:Aa Sl),o.length=g.length->g.Nodup->qN g o (pR g l)=qN g o l:=by
 have ext:∀ (g:Aa Nat) (o:Aa Sl) (l a:Aa Sl),o.length=g.length->l.length=a.length->(∀ j,j∉g->l[j]?=a[j]?)->qN g o l=qN g o a:=by
  intro g;induction g with
  | nil=>intro o l a _ _ h;cases o<;>exact gO λj=>h j bA
  | cons i g c =>
   intro o l a e d h;cases o with
   | nil=>simp at e
   | cons s o =>
    show qN g o (l.set i s)=qN g o (a.set i s);refine c o _ _ (by simpa using e) (by simp[d]) λj b=>?_
    by_cases z:j=i
    .subst z;rw[fQ,fQ,d,aP rfl,aP rfl]
    .rw[cH (eV z),cH (eV z)];exact h j λq=>(aH.mp q).elim z b
 intro o l e _;refine ext g o _ _ e (Io g l) λj b=>?_
 have:∀ (g:Aa Nat) (l:Aa Sl),j∉g->(pR g l)[j]?=l[j]?:=by
  intro g;induction g with
  | nil=>intro l _;rfl
  | cons i g c =>
   intro l b;show (pR g (l.set i .n))[j]?=_;rw[c _ (λz=>b (aJ _ z)),cH (λz=>b (by simp[z]))]
 exact this g l b
theorem Pd:∀ {g:Aa L2.D}{j:Aa V},g.length=j.length->(∀ p∈pV g j,sG K A H p.1 p.2)->Reps K A H g j
 | [],[],_,_=>.nil
 | [],_::_,e,_=>by simp at e
 | _::_,[],e,_=>by simp at e
 | c::g,y::j,e,key=>by
  obtain⟨u,b,r⟩:=key (.v c,some y) (by simp[pV]);cases b;exact .cons r (Pd (by simpa using e) λp a=>key p (by simp only[pV,cU,aO,aH] at a |-;exact .inr a))
theorem DS.forget {ρ:Aa Sl}(n:Nat) (g:ρ.length=σ.length) (j:n<=ρ.length) (h:DS K B (ρ.zip σ++R) H):DS K B ((List.replicate n Sl.n++ρ.drop n).zip σ++R) H:=by
 induction n generalizing ρ σ R with
 | zero=>simpa using h
 | succ n c =>
  cases ρ with
  | nil=>simp at j
  | cons r ρ =>
   cases σ with
   | nil=>simp at g
   | cons y σ =>
    have a:DS K B (ρ.zip σ++R) H:=DS.drop (L1:=[]) (x:=(r,y)) h;have b:=c (ρ:=ρ) (σ:=σ) (R:=R) (by simpa using g) (by simpa using j) a;rw[cR,cS,List.drop_succ_cons,cU];exact DS.pushN (L1:=[]) b y
end
def S5:qV:=λ_ b a=>a true b
def yI (n:Nat) (j:Aa Nat) (I:vL) (g:vE) (C:qV) (p:nN):nN:=λk u t=>I k u λs f=>∃ Pv:Nat->Aa D->Aa Sl->Prop,Pv 0 [] (pP j f) /\
 (∀ i d e a,s[i]?=some d->a.length=j.length->Pv i e a->g d (List.replicate n Sl.n++a) λm=>C k m λb h=>if b=true then p k h λr q=>match sd r with
  | some c=>e.length<100000/\Pv (i+1) (e++[c]) (q.drop n)
  | none=>False
  else Pv (i+1) e (h.drop n)) /\
 ∀ e a,a.length=j.length->Pv s.length e a->t (.o (.l e)) (qN j a f)
section
variable {X:Cx}
theorem Ke:uY X [] (sQ X.K S5):=λa s f H Q I b=>b.elim λB e T h c hd d k=>G2 a s f H Q I (k true e H c hd d)
theorem vS (h:tK X c t):uY X [c] (sQ X.K t):=Mm h
theorem Ma {T:Aa Af}{C:Aa Nat}{g:vE}{tt:qV}{te:nN}{K:mZ}(ac:C.Nodup){σ:St}{H1:Hp}{Q:VK}{B:Bs}{I:Aa Sl}{Tm:oM}{Φ:Sl->Aa Sl->Prop}{J:It}{ds:Aa L2.D}{D:Ad}(l1:I.length=σ.length) (d1:DS K B (I.zip σ++Tm) H1)
  (hJ:∀ i U La M H,(∀ q∈Tm,q∈M)->DS K (oD B D U) (La++M) H->(i<ds.length->J.go i H)/\(i=ds.length->J.stop i H)/\∀ x H2,i<ds.length->J.yld i H x H2->∃ d,ds[i]?=some d/\DS K (oD B D U) (La++(.v d,some x)::M) H2)
  (ag:∃ Pv:Nat->Aa L2.D->Aa Sl->Prop,Pv 0 [] (pP C I) /\ (∀ i d U cs,ds[i]?=some d->cs.length=C.length->Pv i U cs->g d (List.replicate T.length Sl.n++cs) λaf=>tt B.dk af λb ab=>if b=true then te B.dk ab λr aa=>match sd r with
    | some c=>U.length<100000/\Pv (i+1) (U++[c]) (aa.drop T.length)
    | none=>False
    else Pv (i+1) U (ab.drop T.length)) /\
   ∀ U cs,cs.length=C.length->Pv ds.length U cs->Φ (.o (.l U)) (qN C cs I))
  (k:∀ r ae v H',ae.length=σ.length->DS K B (ae.zip σ++(r,some v)::Tm) H'->Φ r ae->Q v H') (hD:H1 D=none):A4 T C J (dG K T.length g) (sQ K tt) (dE K te) σ H1 Q D:=by
 obtain⟨Pv,p0,step,fin⟩:=ag;obtain⟨f1,f2,f3⟩:=d1.free hD;refine⟨λi m U s H'=>m=ds.length-i/\i<=ds.length/\s.length=T.length+C.length/\(∀ j,T.length<=j->s[j]?=(rP T C σ)[j]?)/\∃ (h:Aa L2.D) (cs:Aa Sl),cs.length=C.length/\h.length=U.length /\ DS K (oD B D U) ((List.replicate T.length Sl.n++cs).zip s++((pR C I).zip σ++(pV h U++Tm))) H'/\Pv i h cs,?_,?_⟩
 .refine⟨_,rfl,cE _,by simp[rP],λ_ _=>rfl,[],pP C I,by simp[pP],rfl,?_,p0⟩;have h2:=(d1.lend ac l1).pin hD;have e:(List.replicate T.length Sl.n++pP C I).zip (rP T C σ)=List.replicate T.length (Sl.n,none)++(pP C I).zip (rH C σ):=by
   have:∀ n,(List.replicate n Sl.n++pP C I).zip (List.replicate n none++rH C σ)=List.replicate n (Sl.n,none)++(pP C I).zip (rH C σ):=by
    intro n;induction n with
    | zero=>rfl
    | succ n ih=>simp only[cR,cS,cU,ih]
   have W:rP T C σ=List.replicate T.length none++rH C σ:=by unfold rP rH;rw[List.map_const']
   rw[W];exact this _
  rw[e];have h3:DS K (oD B D []) ((pP C I).zip (rH C σ)++((pR C I).zip σ++Tm)) (upd H1 D (.l [])):=h2.perm (by
   rw[<- bI,<- bI (as:=(pP C I).zip (rH C σ))];exact List.perm_append_comm.append_right _)
  have:∀ n,DS K (oD B D []) (List.replicate n (Sl.n,none)++((pP C I).zip (rH C σ)++((pR C I).zip σ++Tm))) (upd H1 D (.l [])):=by
   intro n;induction n with
   | zero=>exact h3
   | succ n ih=>rw[cR];exact DS.pushN (L1:=[]) ih none
  have e3:pV ([]:Aa L2.D) ([]:Aa V)=[]:=rfl;rw[e3]
  simpa using this T.length
 .rintro i m U s H' ⟨rfl,hi,ls,fs,h,cs,G,z,N,pv⟩;obtain⟨j1,j2,j3⟩:=hJ i U _ _ H' (λq hq=>by simp[hq]) N;by_cases w:i<ds.length
  .refine .inr ⟨j1 w,λf v R=>f.length=T.length+C.length/\(∀ j,T.length<=j->f[j]?=(rP T C σ)[j]?)/\U.length<100000/\∃ (c:L2.D) (aa:Aa Sl),aa.length=f.length/\DS K (oD B D U) (aa.zip f++(.v c,some v)::((pR C I).zip σ++(pV h U++Tm))) R/\Pv (i+1) (h++[c]) (aa.drop T.length),λf P=>f.length=T.length+C.length/\(∀ j,T.length<=j->f[j]?=(rP T C σ)[j]?)/\∃ aa:Aa Sl,aa.length=f.length/\DS K (oD B D U) (aa.zip f++((pR C I).zip σ++(pV h U++Tm))) P/\Pv (i+1) h (aa.drop T.length),?_,?_,λx H2 y=>?_⟩
   .rintro f v R ⟨q1,q2,q3,c,aa,A,t,q6⟩;refine⟨t.pinAt f2,aW q3 (by decide),ds.length-(i+1),by omega,rfl,w,q1,q2,h++[c],aa.drop T.length,by rw[cW];omega,by simp[z],?_,q6⟩;have w1:=(t.pinW (ys':=U++[v]) f2).forget T.length A (by omega);refine w1.perm (jO _ ?_);have ev:pV (h++[c]) (U++[v])=pV h U++[(.v c,some v)]:=by unfold pV;rw[List.zip_append z,List.map_append];rfl
    rw[ev];have p1:((Sl.v c,some v)::((pR C I).zip σ++(pV h U++Tm))).Perm ((pR C I).zip σ++(pV h U++((Sl.v c,some v)::Tm))):=by
     rw[<- bI,<- bI (as:=(pR C I).zip σ)];exact iT.symm
    simpa using p1
   .rintro f P ⟨q1,q2,aa,A,t,q6⟩;exact⟨ds.length-(i+1),by omega,rfl,w,q1,q2,h,aa.drop T.length,by rw[cW];omega,z,t.forget T.length A (by omega),q6⟩
   .obtain⟨d,Z,d2⟩:=j3 x H2 w y;refine⟨oD B D U,_,_,d,_,by simp[G,ls],d2,step i d h cs Z G pv,λaf f H3 n1 n2 fr d3 q3=>⟨oD B D U,af,_,_,n1,d3,q3,λb ab P m1 d4 A=>?_⟩⟩;have F:∀ j,T.length<=j->f[j]?=(rP T C σ)[j]?:=λj O=>(fr j O).trans (fs j O)
    cases b with
    | false=>exact wV ⟨by omega,F,ab,m1,d4,(aI (by decide)).mp A⟩
    | true =>
     refine (aP rfl).mpr ⟨oD B D U,ab,_,_,m1,d4,(aP rfl).mp A,λr aa v R m4 d5 t=>?_⟩;cases S:sd r with
     | none=>rw[S] at t;exact t.elim
     | some c =>
      rw[S] at t;exact⟨by omega,F,by rw[<- z];exact t.1,c,aa,m4,d5.thaw S,t.2⟩
  .have ei:i=ds.length:=by omega
   subst ei;refine .inl ⟨j2 rfl,?_⟩;have es:s=s.take T.length++rH C σ:=by
    apply gO;intro j;by_cases O:j<T.length
    .rw[eS (by rw[bO];omega),List.getElem?_take_of_lt O]
    .rw[cT (by rw[bO];omega),bO,fs j (by omega)];have W:rP T C σ=List.replicate T.length none++rH C σ:=by unfold rP rH;rw[List.map_const']
     rw[W,cT (by rw[cO];omega),cO]
     congr 1
     omega
   have ez:(List.replicate T.length Sl.n++cs).zip s=(List.replicate T.length Sl.n).zip (s.take T.length)++cs.zip (rH C σ):=by
    conv=>lhs;rw[es]
    exact List.zip_append (by rw[cO,bO];omega)
   have rr:Reps K (Al (oD B D U) (dT ((qN C cs (pR C I)).zip σ++Tm))) H' h U/\DS K (oD B D U) ((qN C cs (pR C I)).zip σ++Tm) H':=by
    have g1:DS K (oD B D U) (cs.zip (rH C σ)++((pR C I).zip σ++(pV h U++Tm))) H':=by
     rw[ez,bI] at N;exact DS.rmE (L:=[]) (E:=(List.replicate T.length Sl.n).zip (s.take T.length)) N
    have g2:DS K (oD B D U) ((pR C I).zip σ++(cs.zip (rH C σ)++(pV h U++Tm))) H':=g1.perm (by
     rw[<- bI,<- bI (as:=(pR C I).zip σ)];exact List.perm_append_comm.append_right _)
    have g3:=g2.back G (by rw[Io];exact l1);have Y:DS K (oD B D U) ((qN C cs (pR C I)).zip σ++(pV h U++Tm)) H':=g3;refine⟨?_,Y.rmE⟩;have er:dT ((qN C cs (pR C I)).zip σ++(pV h U++Tm))=dT ((qN C cs (pR C I)).zip σ++Tm):=by
     have:dT (pV h U)=[]:=by
      refine iW.mpr λa ha=>?_
      obtain⟨q,hq,e⟩:=tG.mp ha;obtain⟨p,_,rfl⟩:=aN.mp hq;cases e
     rw[qQ,qQ,qQ,this,kH]
    have key:∀ p∈pV h U,sG K (Al (oD B D U) (dT ((qN C cs (pR C I)).zip σ++Tm))) H' p.1 p.2:=λp hp=>by
     have:=Y.ok p (by simp[hp]);rw[er] at this;exact this
    clear g1 g2 g3 Y er N ez es;revert key z;generalize Al (oD B D U) (dT ((qN C cs (pR C I)).zip σ++Tm))=AA;intro z key;exact Pd z key
   have u:=DS.unpin rr.2 rr.1 f1 f2;rw[Wc C cs I G ac] at u;exact k _ _ _ H' (by rw[R5];exact l1) u.mid (fin h cs G pv)
theorem Qo {K:mZ}(o:j.Nodup) (h:dE K (yI T.length j ι g U I) C H Q) :
  Cf T j (dI K ι) (dG K T.length g) (sQ K U) (dE K I) C H Q:=by
 obtain⟨B,R,Tm,Φ,A,hd,G,k⟩:=h;refine⟨B,R,Tm,_,A,hd,G,λJ W S E V L d1 Y z D u=>Ma o (Tm:=E++Tm) L d1 (λi P s M H w d=>?_) z (λr c v m l d h=>k r c v m l (by
  have:DS K B ((c.zip C++[(r,some v)])++(E++Tm)) m:=by simpa using d
  simpa using this.rmE) h) u⟩
 have a:xB K (Al (oD B D P) (dT (s++M))) H E:=λq F=>d.ok q (by simp[w q (by simp[F])])
 refine⟨λb=>Y.go i H _ b a,λb=>Y.stop i H _ b a,λx n b y=>?_⟩;obtain⟨t,e,alt⟩:=Y.yld i H _ x n b a y;refine⟨t,e,?_⟩;rcases alt with⟨rfl,O⟩ | ⟨p,Z,vs,f,rfl,rfl,rfl,N⟩
 .exact d.push O
 .exact d.tup f N
theorem qB {iter:Expr}(T o:Aa Af) (r:Aa Nat) (hi:xU X tg iter ι)
  (hg:∀ p l C cl I,wX (rN X (T++o) j cl C p l I) T.length tg g)
  (he:∀ p l C cl I,PD (rN X (T++o) j cl C p l I) U te)
  (ht:∀ p l C cl I,uY (rN X (T++o) j cl C p l I) aa (sQ X.K tt):=by exact λ_ _ _ _ _=>Ke) (hc:X.calm=true:=by rfl) (hk:j.kind = .function:=by rfl) (ho:Bq X.N X.env.kindOf j T o r=true:=by rfl) (J:r.Nodup:=by decide) (hs:∀ x,foldedSetIterable iter X.env x=pure x:=by intro _;rfl):PD X (.ListComp U [⟨tg,iter,aa,0⟩] j pos) (yI T.length r ι g tt te) :=
 (Bo T o r hc hi hk ho hg ht he hs).mono λ_ _ _ h=>Qo J h
theorem Fc (i:Nat){iter:Expr}(T o:Aa Af) (I:Aa Nat) (hN:X.N.Nodup) (hi:xU X tg iter ι) (hg:∀ p l C cl U,wX (rN X (T++o) j cl C p l U) T.length tg g)
  (he:∀ p l C cl U,PD (rN X (T++o) j cl C p l U) J te)
  (ht:∀ p l C cl U,uY (rN X (T++o) j cl C p l U) ab (sQ X.K tt):=by exact λ_ _ _ _ _=>Ke) (hc:X.calm=true:=by rfl) (hk:j.kind = .function:=by rfl) (ho:Bq X.N X.env.kindOf j T o I=true:=by rfl) (af:X.N[i]?=some x:=by rfl) (hx:uN X.env.scope x:=by first | exact Or.inl rfl | exact Or.inr rfl) (aa:I.Nodup:=by decide)
  (ag:swapsWith (.ListComp J [⟨tg,iter,ab,0⟩] j pos) (some (.Name x ac)) ae.line X.env=pure true:=by rfl)
  (hs:∀ x,foldedSetIterable iter X.env x=pure x:=by intro _;rfl)
  (hf:X.fn x=true\/X.env.scope.names.lookup x=some .local:=by first | exact .inl rfl | exact .inr rfl | assumption) :
  tL X (.Assign [.Name x ac] (.ListComp J [⟨tg,iter,ab,0⟩] j pos) ae) (rQ i (yI T.length I ι g tt te)) :=
 (Vg T o I hN af hx hc hi hk ho hg ht he ag hs hf).mono λn q H a=>a.elim λB h Tm m e hd ht f=>Qo aa ⟨B,h,Tm,_,e,hd,ht,λr k v c b d1 d=>(f.1 _ _ c (by rw[aY,aY];exact b) (aY ..) (d1.assign b i)).1 d⟩
end
section
variable {X:Cx}{K:mZ}
theorem rV (h:Peeks K A H [d] g):∃ x,g=[x]/\nY K A H d x:=by
 cases h with | cons h r=>cases r;exact⟨_,rfl,h⟩
theorem Ap (h:Peeks K A H [d,e] j):∃ x y,j=[x,y]/\nY K A H d x/\nY K A H e y:=by
 cases h with | cons h r=>cases r with | cons g r=>cases r;exact⟨_,_,rfl,h,g⟩
def JH:D->Ab Nat
 | .l a=>some a.length
 | .t a=>some a.length
 | .con a=>some a.length
 | .c a=>some a.length
 | .str z=>some z.length
 | .k b=>some b.length
 | _=>none
def Zl:OC:=λa b=>match a with
 | [d]=>Dw d=true/\∃ n,JH d=some n/\b (.v (.int n))
 | _=>False
def Q9 (K:mZ):Aa V->Hp->VK->Prop:=λc H Q=>(∃ p d,c=[.ref p]/\(eH K H p d\/nQ K H p d)/\Q (.int d.length) H)\/(∃ z,c=[.str z]/\z.length<=sizeLine/\Q (.int z.length) H)\/∃ a b,c=[V.ref a]/\Rd H a (.k b)/\Q (.int b.length) H
theorem vM:oH X (.builtin "len") (Q9 X.K):=vY.or (N2.or JL)
theorem vW:qR K (Q9 K) Zl:=by
 intro B L H m t u Q hd q i k;cases m with
 | nil=>exact False.elim i
 | cons d m =>
 cases m with
 | cons _ _=>exact False.elim i
 | nil =>
 obtain⟨x,rfl,f⟩:=rV q;obtain⟨s,n,c,i⟩:=i;have fin:Q (.int n) H:=k _ _ H i (hd.pushF (.int _));cases d<;>first | (cases c;done) | skip
 .cases c;have:=f.str_inv;subst this;exact .inr (.inl ⟨_,rfl,xY (eU s),fin⟩)
 .cases c;obtain⟨a,b,rfl,h,r⟩:=f.tup_inv;exact .inl ⟨a,b,rfl,.inr (nQ.of h),by rw[<- r.length];exact fin⟩
 .cases c;obtain⟨a,b,rfl,h,r⟩:=f.lst_inv;exact .inl ⟨a,b,rfl,.inl (eH.of h),by rw[<- r.length];exact fin⟩
 .cases c;obtain⟨a,b,rfl,h,e,r⟩:=f.dK_inv;refine .inr (.inr ⟨a,b,rfl,h,?_⟩);have:=cK List.length e;rw[aA,aA] at this;rw[<- this];exact fin
 .cases c;obtain⟨a,b,rfl,h,r⟩:=f.scr_inv;exact .inl ⟨a,b,rfl,.inl h.sqL,by rw[<- r.length];exact fin⟩
 .cases c;obtain⟨a,b,rfl,h,r⟩:=f.con_inv;exact .inl ⟨a,b,rfl,.inr h.sqT,by rw[<- r.length];exact fin⟩
noncomputable def xI:Aa D->Ab (Aa Int)
 | []=>some []
 | .int i::a=>(xI a).map (i::·)
 | _=>none
theorem Bp:∀ (g:Aa Int),xI (g.map D.int)=some g
 | []=>rfl
 | n::g=>by
  show (xI (g.map D.int)).map (n::·)=_;rw[Bp g];rfl
theorem Fo (h:xI j=some l) (g:Reps K A H j o):o=l.map V.int:=by
 induction j generalizing l o with
 | nil=>cases g;cases h;rfl
 | cons d j b =>
  cases g with
  | cons r g =>
  cases d with
  | int i =>
   obtain⟨c,a,rfl⟩:=bU.mp h;rw[r.int_inv,b a g];rfl
  | _=>cases h
def Wo:OC:=λb d=>match b with
 | [.l c]=>∃ a,xI c=some a/\d (.v (.int a.sum))
 | _=>False
theorem Eg:qR K (λj H Q=>∃ (p:Ad) (g:Aa Int),j=[.ref p]/\eH K H p (g.map V.int)/\Q (.int g.sum) H) Wo:=by
 intro B L H c j n Q hd f b k;cases c with
 | nil=>exact False.elim b
 | cons d c =>
 cases d<;>first | exact False.elim b | skip
 cases c with
 | cons _ _=>exact False.elim b
 | nil =>
 obtain⟨x,rfl,i⟩:=rV f;obtain⟨g,e,b⟩:=b;obtain⟨a,m,rfl,h,r⟩:=i.lst_inv;rw[Fo e r] at h;exact⟨a,g,rfl,eH.of h,k _ _ H b (hd.pushF (.int _))⟩
def Lz:OC:=λd c=>match d with
 | [.l e]=>∃ b,xI e=some b/\b≠[]/\∀ m:Int,m∈b->(∀ a∈b,m<=a)->c (.v (.int m))
 | [.int i,.int j]=>∀ m:Int,(m=i\/m=j)->m<=i->m<=j->c (.v (.int m))
 | _=>False
def MH:OC:=λd c=>match d with
 | [.l e]=>∃ b,xI e=some b/\b≠[]/\∀ m:Int,m∈b->(∀ a∈b,a<=m)->c (.v (.int m))
 | [.int i,.int j]=>∀ m:Int,(m=i\/m=j)->i<=m->j<=m->c (.v (.int m))
 | _=>False
def K8 (K:mZ):Aa V->Hp->VK->Prop:=λc H Q=>(∃ (p:Ad) (b:Aa Int),c=[.ref p]/\eH K H p (b.map V.int)/\b≠[]/\∀ m:Int,m∈b->(∀ a∈b,m<=a)->Q (.int m) H)\/∃ i j,c=[.int i,.int j]/\Q (.int (if j<i then j else i)) H
def Sv (K:mZ):Aa V->Hp->VK->Prop:=λc H Q=>(∃ (p:Ad) (b:Aa Int),c=[.ref p]/\eH K H p (b.map V.int)/\b≠[]/\∀ m:Int,m∈b->(∀ a∈b,a<=m)->Q (.int m) H)\/∃ i j,c=[.int i,.int j]/\Q (.int (if j>i then j else i)) H
theorem FF (g:X.calm=true):oH X (.builtin "min") (K8 X.K):=(JI g).or (Ib g)
theorem J6 (g:X.calm=true):oH X (.builtin "max") (Sv X.K):=(DD g).or (LC g)
theorem CS:qR K (K8 K) Lz:=by
 intro B L H c A D Q hd n b k;cases c with
 | nil=>exact False.elim b
 | cons d c =>
 cases d<;>first | exact False.elim b | skip
 .cases c with
  | nil=>exact False.elim b
  | cons e c =>
  cases e<;>first | exact False.elim b | skip
  cases c with
  | cons _ _=>exact False.elim b
  | nil =>
  obtain⟨x,y,rfl,f,py⟩:=Ap n;have:=f.int_inv;have:=py.int_inv;subst_vars
  rename_i i j
  refine .inr ⟨_,_,rfl,?_⟩;by_cases z:j<i
  .rw[aP z];exact k _ _ H (b _ (.inr rfl) (by omega) (by omega)) (hd.pushF (.int _))
  .rw[aI z];exact k _ _ H (b _ (.inl rfl) (by omega) (by omega)) (hd.pushF (.int _))
 .cases c with
  | cons _ _=>exact False.elim b
  | nil =>
  obtain⟨x,rfl,f⟩:=rV n;obtain⟨v,u,q,b⟩:=b;obtain⟨a,w,rfl,h,r⟩:=f.lst_inv;rw[Fo u r] at h;exact .inl ⟨a,v,rfl,eH.of h,q,λm s t=>k _ _ H (b m s t) (hd.pushF (.int _))⟩
theorem Jk:qR K (Sv K) MH:=by
 intro B L H c A D Q hd n b k;cases c with
 | nil=>exact False.elim b
 | cons d c =>
 cases d<;>first | exact False.elim b | skip
 .cases c with
  | nil=>exact False.elim b
  | cons e c =>
  cases e<;>first | exact False.elim b | skip
  cases c with
  | cons _ _=>exact False.elim b
  | nil =>
  obtain⟨x,y,rfl,f,py⟩:=Ap n;have:=f.int_inv;have:=py.int_inv;subst_vars
  rename_i i j
  refine .inr ⟨_,_,rfl,?_⟩;by_cases z:j>i
  .rw[aP z];exact k _ _ H (b _ (.inr rfl) (by omega) (by omega)) (hd.pushF (.int _))
  .rw[aI z];exact k _ _ H (b _ (.inl rfl) (by omega) (by omega)) (hd.pushF (.int _))
 .cases c with
  | cons _ _=>exact False.elim b
  | nil =>
  obtain⟨x,rfl,f⟩:=rV n;obtain⟨v,u,q,b⟩:=b;obtain⟨a,w,rfl,h,r⟩:=f.lst_inv;rw[Fo u r] at h;exact .inl ⟨a,v,rfl,eH.of h,q,λm s t=>k _ _ H (b m s t) (hd.pushF (.int _))⟩
def Ve:D->Ab (Aa D)
 | .l a=>some a
 | .t a=>some a
 | .con a=>some a
 | .c a=>some a
 | _=>none
theorem ET (h:Ve d=some j) (p:nY K A H d x):∃ a g,x = .ref a/\(eH K H a g\/nQ K H a g)/\Reps K A H j g:=by
 cases d<;>cases h
 .obtain⟨a,g,rfl,h,r⟩:=p.tup_inv;exact⟨a,g,rfl,.inr (nQ.of h),r⟩
 .obtain⟨a,g,rfl,h,r⟩:=p.lst_inv;exact⟨a,g,rfl,.inl (eH.of h),r⟩
 .obtain⟨a,g,rfl,h,r⟩:=p.scr_inv;exact⟨a,g,rfl,.inl h.sqL,r⟩
 .obtain⟨a,g,rfl,h,r⟩:=p.con_inv;exact⟨a,g,rfl,.inr h.sqT,r⟩
def Yc:OC:=λb c=>match b with
 | [d]=>∃ a,Ve d=some a/\c (.o (.l a))
 | _=>False
theorem Ir:qR K (λg H Q=>∃ p j,g=[.ref p]/\(eH K H p j\/nQ K H p j)/\∀ l,H l=none->Q (.ref l) (upd H l (.l j))) Yc:=by
 intro B L H c g q Q hd f b k;cases c with
 | nil=>exact False.elim b
 | cons d c =>
 cases c with
 | cons _ _=>exact False.elim b
 | nil =>
 obtain⟨x,rfl,m⟩:=rV f;obtain⟨g,i,b⟩:=b;obtain⟨a,n,rfl,h,r⟩:=ET i m;exact⟨a,n,rfl,h,λl e=>k _ _ _ b (hd.lstF e r)⟩
def Zq:OC:=λc b=>match c with
 | [.l a]=>b (.v (.t a))
 | [.t a]=>b (.v (.t a))
 | _=>False
theorem Xn:qR K (λj H Q=>∃ p g,j=[.ref p]/\((eH K H p g/\∀ l,H l=none->Q (.ref l) (upd H l (.t g)))\/(nQ K H p g/\Q (.ref p) H))) Zq:=by
 intro B L H e j q Q hd m b k;cases e with
 | nil=>exact False.elim b
 | cons d e =>
 cases d<;>first | exact False.elim b | skip<;>cases e<;>first | exact False.elim b | skip
 .obtain⟨x,rfl,c⟩:=rV m;have f:=c;obtain⟨a,i,rfl,h,r⟩:=c.tup_inv;exact⟨a,i,rfl,.inr ⟨nQ.of h,k _ _ _ b (hd.pushF f)⟩⟩
 .obtain⟨x,rfl,c⟩:=rV m;obtain⟨a,i,rfl,h,r⟩:=c.lst_inv;exact⟨a,i,rfl,.inl ⟨eH.of h,λl n=>k _ _ _ b (hd.tupF n r)⟩⟩
def yA:Aa D->Ab (Aa (hG×D))
 | []=>some []
 | .t [k,d]::a=>match rX k,yA a with
  | some k,some r=>some ((k,d)::r)
  | _,_=>none
 | _=>none
theorem Uo {l:Type}{f:l->D}{g:l->hG×D}(h:∀ x,∃ k,f x = .t [k,(g x).2]/\rX k=some (g x).1):∀ j:Aa l,yA (j.map f)=some (j.map g)
 | []=>rfl
 | x::j=>by
  obtain⟨k,a,b⟩:=h x;rw[aO,a];show (match rX k,yA (j.map f) with | some k,some r=>some ((k,(g x).2)::r) | _,_=>none)=_;rw[b,Uo h j];rfl
def sC (g more:Aa (hG×D)):Aa (hG×D):=more.foldl (λa b=>oA a b.1 b.2) g
theorem CW (h:yA l=some j) (o:Reps K A H l C):∃ (p:Aa Ad) (g:Aa (hG×V)),C=p.map V.ref/\C8 H p g/\j.map (·.1)=g.map (·.1)/\Reps K A H (j.map (·.2)) (g.map (·.2)):=by
 induction l generalizing j C with
 | nil=>cases o;cases h;exact⟨[],[],rfl,.nil,rfl,.nil⟩
 | cons d l t =>
  cases o with
  | cons r o =>
  cases d<;>first | (cases h;done) | skip
  rename_i x
  rcases x with _ | ⟨k,_ | ⟨e,_ | ⟨_,_⟩⟩⟩<;>first | (cases h;done) | skip
  .have h:=(show (match rX k,yA l with | some k,some r=>some ((k,e)::r) | _,_=>none)=some j from h);cases c:rX k with
   | none=>rw[c] at h;cases h
   | some u =>
    cases f:yA l with
    | none=>rw[c,f] at h;cases h
    | some y =>
     rw[c,f] at h;cases h;obtain⟨a,z,rfl,s,b⟩:=r.tup_inv;obtain⟨p,g,i,m,n,q⟩:=t f o;cases b with
     | cons v b =>
      cases b with
      | cons w b =>
       cases b;have:=Bd c v.peek;subst this;exact⟨a::p,(u,_)::g,by rw[i];rfl,.cons s m,by rw[aO,aO,n],.cons w q⟩
theorem Hq:∀ {more:Aa (hG×D)}{mv:Aa (hG×V)}{kvs:Aa (hG×D)}{vs:Aa (hG×V)},more.map (·.1)=mv.map (·.1)->Reps K A H (more.map (·.2)) (mv.map (·.2))->kvs.map (·.1)=vs.map (·.1)->Reps K A H (kvs.map (·.2)) (vs.map (·.2)) ->
  (sC kvs more).map (·.1)=(rF vs mv).map (·.1)/\Reps K A H ((sC kvs more).map (·.2)) ((rF vs mv).map (·.2))
 | [],[],_,_,_,_,e,r=>⟨e,r⟩
 | [],_::_,_,_,e,_,_,_=>by simp at e
 | _::_,[],_,_,e,_,_,_=>by simp at e
 | (k,d)::more,(j,v)::mv,kvs,vs,a,b,e,r=>by
  simp only[aO,fW] at a;obtain⟨rfl,a⟩:=a;cases b with
  | cons h b =>
   obtain⟨c,f⟩:=Bl e r (k:=k) h;exact Hq (more:=more) (mv:=mv) a b c f
def Wk:OC:=λc b=>match c with
 | [.k a]=>b (.o (.k a))
 | [.l d]=>∃ a,yA d=some a/\a.length<=1000/\b (.o (.k (sC [] a)))
 | _=>False
def Sq (K:mZ):Aa V->Hp->VK->Prop:=λe H Q=>(∃ (a:Ad) (b:Aa (hG×V)),e=[.ref a]/\Rd H a (.k b)/\∀ p,H p=none->Q (.ref p) (upd H p (.k b))) \/
 ∃ (p:Ad) (c:Aa Ad) (b:Aa (hG×V)),e=[.ref p]/\eH K H p (c.map V.ref)/\C8 H c b/\b.length<=1000/\∀ d,H d=none->Q (.ref d) (upd H d (.k (rF [] b)))
theorem Of (g:X.calm=true):oH X (.type "dict") (Sq X.K):=X0.or (MN g)
theorem Pz:qR K (Sq K) Wk:=by
 intro B L H i D E Q hd c b k;cases i with
 | nil=>exact False.elim b
 | cons d i =>
 cases d<;>first | exact False.elim b | skip<;>cases i<;>first | exact False.elim b | skip
 .obtain⟨x,rfl,n⟩:=rV c;obtain⟨v,hk,A,b⟩:=b;obtain⟨a,s,rfl,h,r⟩:=n.lst_inv;obtain⟨z,f,rfl,t,q,u⟩:=CW hk r;obtain⟨w,y⟩:=Hq (kvs:=[]) (vs:=[]) q u rfl .nil;have m:f.length<=1000:=by
   have:=cK List.length q;simp only[aA] at this;omega
  exact .inr ⟨a,z,f,rfl,eH.of h,t,m,λp c=>k _ _ _ b (hd.dKF c w y)⟩
 .obtain⟨x,rfl,n⟩:=rV c;obtain⟨a,s,rfl,h,e,r⟩:=n.dK_inv;exact .inl ⟨a,s,rfl,h,λp c=>k _ _ _ b (hd.dKF c e r)⟩
def Kg:OC:=λc a=>match c with
 | [.int i]=>a (.v (.int i))
 | [.b b]=>a (.v (.int (if b then 1 else 0)))
 | _=>False
theorem MQ:qR K (λg H Q=>(∃ i,g=[.int i]/\Q (.int i) H)\/∃ k,g=[.b k]/\Q (.int (if k then 1 else 0)) H) Kg:=by
 intro B L H c g h Q hd f a k;cases c with
 | nil=>exact False.elim a
 | cons d c =>
 cases d<;>first | exact False.elim a | skip<;>cases c<;>first | exact False.elim a | skip
 .obtain⟨x,rfl,e⟩:=rV f;have:=e.bl_inv;subst this;exact .inr ⟨_,rfl,k _ _ H a (hd.pushF (.int _))⟩
 .obtain⟨x,rfl,e⟩:=rV f;have:=e.int_inv;subst this;exact .inl ⟨_,rfl,k _ _ H a (hd.pushF (.int _))⟩
end
def Ez (T:String):D->Bool
 | .str _=>T == "str"
 | .l _=>T == "list"
 | .c _=>T == "list"
 | .k _=>T == "dict"
 | _=>false
section
variable {X:Cx}{K:mZ}
theorem Rb (h:Ez T d=true) (p:nY K A H d x):Hd K T x H:=by
 cases d<;>first | (cases h;done) | skip
 all_goals (have h:=eq_of_beq h;subst h)
 .have:=p.str_inv;subst this;rfl
 .obtain⟨a,b,rfl,h,r⟩:=p.lst_inv;exact .inl ⟨rfl,b,eH.of h⟩
 .obtain⟨a,b,rfl,h,e,r⟩:=p.dK_inv;exact .inr (.inr (.inl ⟨rfl,.inl ⟨b,h⟩⟩))
 .obtain⟨a,b,rfl,h,r⟩:=p.scr_inv;exact .inl ⟨rfl,b,h.sqL⟩
abbrev OM:=D->Aa D->(Sl->Prop)->Prop
abbrev RM:=V->Aa V->Hp->VK->Prop
def U9 (K:mZ) (r:RM) (f:OM):Prop:=∀ (B:Bs) (L:oM) (H:Hp) (d:D) (b:Aa D) (x:V) (c:Aa V) (e:Sl->Prop) (Q:VK),DS K B L H->nY K (Al B (dT L)) H d x->Peeks K (Al B (dT L)) H b c->f d b e ->
 (∀ s v a,e s->DS K B ((s,some v)::L) a->Q v a)->r x c H Q
def dM (T:String) (f:OM) (j:nN) (g:rJ):nN:=λc i h=>j c i λr b=>match sd r with
 | some d=>Ez T d=true/\g c b λas a=>match uA a as with
  | some e=>f d e λs=>h s a
  | none=>False
 | none=>False
def NF (T:String) (f:OM) (i:Nat) (g:rJ):nN:=λc b h=>(match at? b i with | some d=>Ez T d=true | none=>False)/\g c b λas a=>match at? a i,uA a as with
 | some d,some e=>f d e λs=>h s a
 | _,_=>False
variable {id:String}
theorem FT (pa:PlainAttrs T) (slot:Slot T name id) (j:typeOf (.builtin id)=pure (.type "method_descriptor")) (J:yD X id r) (I:U9 X.K r f) (U:PD X o to) (p:rW X (e::l) ta)
  (C:MtB X o name apos e l g:=by exact {}) :
  PD X (.Call (.Attribute o name apos) (e::l) [] g) (dM T f to ta) :=
 (vI pa slot j J U p C).mono λA H Q q=>q.elim λB R Tm V F hd L k=>⟨B,R,Tm,_,F,hd,L,λt w x S M d1 c=>by
  cases b:sd t with
  | none=>rw[b] at c;exact c.elim
  | some d =>
   rw[b] at c;refine⟨Rb c.1 (d1.one b).2.peek,B,w,(t,some x)::Tm,_,M,d1,c.2,λas a u i z ok d2 h=>?_⟩;cases m:uA a as with
   | none=>rw[m] at h;exact h.elim
   | some y =>
    rw[m] at h;have E:=d2.rmArgs;obtain⟨N,O⟩:=E.one b;have P:=((show DS X.K B (a.zip A++(sI as u++Tm)) i from by
     have:DS X.K B ((a.zip A++sI as u)++(t,some x)::Tm) i:=by simpa using d2
     simpa using (this.one b).1).argsP z ok y m).1
    exact I B _ i d y x u _ Q N O.peek P h λs v D G n=>k s a v D z n.mid G⟩
abbrev OW:=D->Aa D->(D->D->Prop)->Prop
def Df (K:mZ) (r:RM) (f:OW):Prop:=∀ (A:Ad->Prop) (H:Hp) (a:Ad) (c:D) (h:Aa D) (i:Aa V) (k:D->D->Prop) (Q:VK),¬ A a->pJ K A H a c->Reps K A H h i->f c h k ->
 (∀ d v o e,k d e->Rep K A H d v->(∀ b,Kp A b H (upd H a o)->pJ K b (upd H a o) a e)->Q v (upd H a o))->r (.ref a) i H Q
def dW (T:String) (f:OW) (i:Nat) (g:rJ):nN:=λh b m=>(match at? b i with | some d=>Ez T d=true | none=>False)/\g h b λas a=>match a[i]?,xQ as with
 | some (.o c),some k=>f c k λd e=>m (.v d) (a.set i (.o e))
 | _,_=>False
theorem DU {f:OW}(C:Df X.K r f){g:St}{H:Hp}{Q:VK}(h:dE X.K (dW T f i ta) g H Q):pY i g H λx l=>Hd X.K T x l/\dA X.K ta g l λxs j=>r x xs j Q:=by
 obtain⟨B,Y,Tm,Φ,S,hd,⟨A,J⟩,k⟩:=h;cases F:at? Y i with
 | none=>rw[F] at A;exact A.elim
 | some d0 =>
  rw[F] at A;obtain⟨x,t,px⟩:=hd.peek S F;refine⟨x,t,Rb A px,B,Y,Tm,_,S,hd,J,λas e vs j D ok d2 b=>?_⟩;cases m:e[i]? with
  | none=>rw[m] at b;exact b.elim
  | some s =>
   cases s with
   | n=>rw[m] at b;exact b.elim
   | v c=>rw[m] at b;exact b.elim
   | o c =>
    cases G:xQ as with
    | none=>rw[m,G] at b;exact b.elim
    | some P =>
     rw[m,G] at b;have O:=d2.temps ok P G;have Z:=d2.rmArgs;obtain⟨a,R,W,wr⟩:=Z.slotW D m;rw[t] at R;cases R;obtain⟨u,U,tu⟩:=W.some;have V:¬ Al B (dT (e.zip g++Tm)) a:=λz=>z.2.1 (by
      obtain⟨l1,y,N,w,_,L,_⟩:=vB D m;rw[t] at w;cases w;rw[L,bI,cS,sD];exact bL _ aE)
     refine C _ j a c P vs _ Q V W O b λd v o E M rd I=>k _ _ v _ (by rw[aY];exact D) ?_ M
     refine (wr o E I).push ?_;have p:dT ((e.set i (.o E)).zip g++Tm)=dT (e.zip g++Tm):=by
      obtain⟨l1,y,N,w,_,L,q⟩:=vB D m;rw[t] at w;cases w;have:=q (.o E) (some (.ref a));rw[zS t] at this;rw[this,L,bI,bI,cS,cS,sD,sD];rfl
     rw[p];exact rd.mono (.write U tu V)
theorem Bk {f:OW}(pa:PlainAttrs T) (slot:Slot T name id) (j:typeOf (.builtin id)=pure (.type "method_descriptor")) (J:yD X id r) (I:Df X.K r f) (U:PE X o (pY i)) (p:rW X (e::l) ta)
  (C:MtB X o name apos e l g:=by exact {}) :
  PD X (.Call (.Attribute o name apos) (e::l) [] g) (dW T f i ta):=(vI pa slot j J U p C).mono λ_ _ _ h=>DU I h
noncomputable def Xq:OW:=λc b f=>match c,b with
 | .l a,[d]=>a.length<100000/\f .e (.l (a++[d]))
 | _,_=>False
theorem Ef:Df K Iw Xq:=by
 intro A H a c q s t Q _ i rd b k;cases c<;>first | exact False.elim b | skip
 cases rd with
 | nil=>exact False.elim b
 | cons f rd =>
 cases rd with
 | cons _ _=>exact False.elim b
 | nil =>
 .obtain⟨m,h,r⟩:=i
  .refine⟨a,m,_,rfl,rfl,h,aW (by rw[<- r.length];exact b.1) (by decide),k _ _ _ _ b.2 .e λn d=>⟨_,hI,(r.append (.cons f .nil)).mono d⟩⟩
def Zx:OW:=λc d f=>match c,d with
 | .l a,[.l b]=>a.length+b.length<=100000/\f .e (.l (a++b))
 | _,_=>False
theorem Y8:Df K Mw Zx:=by
 intro A H a c w x y Q _ s rd f k;cases c<;>first | exact False.elim f | skip
 cases rd with
 | nil=>exact False.elim f
 | cons q rd =>
 rename_i d _ _ _
 cases d<;>first | exact False.elim f | skip
 cases rd with
 | cons _ _=>exact False.elim f
 | nil =>
 .obtain⟨t,h,r⟩:=s
  .obtain⟨b,u,rfl,_,m,i⟩:=q.lst_inv;exact⟨a,b,t,u,rfl,rfl,h,m,xY (by rw[<- r.length,<- i.length];exact f.1),k _ _ _ _ f.2 .e λv n=>⟨_,hI,(r.append i).mono n⟩⟩
def EI:D->Bool
 | .k _=>true
 | .T _=>true
 | .dM _=>true
 | _=>false
def V9 (i:Nat) (ty tx:nN):nN:=λc e m=>(match at? e i with | some d=>EI d=true | none=>False)/\ty c e λf b=>tx c b λh a=>match at? a i,sd f,sd h with
 | some d,some k,some x=>∃ o,tX d k=some o/\m (.v (o.getD x)) a
 | _,_,_=>False
theorem Y0 {tx:nN}(U:X.A.units+1<cLine) (l:PE X o (pY i)) (I:PD X k ty) (J:PD X x tx) (m:M2 X o "get" apos k x j:=by exact⟨rfl,rfl,rfl,rfl⟩):PD X (.Call (.Attribute o "get" apos) [k,x] [] j) (V9 i ty tx) :=
 (HB U l I J m).mono λσ H Q F=>F.elim λB W Tm Φ O hd ⟨u,T⟩ k=>by
  cases D:at? W i with
  | none=>rw[D] at u;exact u.elim
  | some Z =>
   rw[D] at u;obtain⟨x,P,L⟩:=hd.peek O D;obtain⟨a,rfl,G⟩:∃ a,x = .ref a/\Lu H a:=by
    cases Z<;>first | (cases u;done) | skip
    .obtain⟨a,q,rfl,h,e,r⟩:=L.dK_inv;exact⟨a,rfl,.inl ⟨q,h⟩⟩
    .obtain⟨a,q,rfl,h,e,r⟩:=L.dT_inv;exact⟨a,rfl,.inr (.inl ⟨q,h⟩)⟩
    .obtain⟨a,q,rfl,h,e,r⟩:=L.dM_inv;exact⟨a,rfl,.inr (.inr ⟨q,h⟩)⟩
   refine⟨.ref a,P,a,rfl,G,B,W,Tm,_,O,hd,T,λV N y H1 l1 d1 C=>⟨B,N,(V,some y)::Tm,_,l1,d1,C,λrx s z Y R d2 b=>?_⟩⟩;cases f:at? s i with
   | none=>rw[f] at b;exact b.elim
   | some d =>
    cases t:sd V with
    | none=>rw[f,t] at b;exact b.elim
    | some kk =>
     cases E:sd rx with
     | none=>rw[f,t,E] at b;exact b.elim
     | some xx =>
      rw[f,t,E] at b;obtain⟨oo,l,b⟩:=b;obtain⟨S,q2,q3⟩:=d2.two t E;obtain⟨x',n,M⟩:=S.peek R f;rw[P] at n;cases n;obtain⟨a',w,p,g,g1,g2⟩:=Ly l M q2.peek;cases p;refine⟨w,g,k _ s _ Y R (S.push ?_) b⟩;cases oo with
      | none=>rw[g2 rfl];exact q3
      | some c=>obtain⟨v,rfl,rv⟩:=g1 c rfl;exact rv
def Gq:Aa D->Ab (Aa Af)
 | []=>some []
 | .str b::a=>(Gq a).map (b::·)
 | _=>none
theorem Ki:∀ (g:Aa Af),Gq (g.map D.str)=some g
 | []=>rfl
 | n::g=>by
  show (Gq (g.map D.str)).map (n::·)=_;rw[Ki g];rfl
theorem P7 (h:Gq j=some l) (g:Reps K A H j o):o=l.map V.str:=by
 induction j generalizing l o with
 | nil=>cases g;cases h;rfl
 | cons d j b =>
  cases g with
  | cons r g =>
  cases d with
  | str i =>
   obtain⟨c,a,rfl⟩:=bU.mp h;rw[r.str_inv,b a g];rfl
  | _=>cases h
theorem Er:∀ (g:Aa Af),Reps K A H (g.map D.str) (g.map V.str)
 | []=>.nil
 | y::g=>.cons (.str y) (Er g)
def DX:OM:=λd b f=>match d,b with
 | .l c,[e]=>∃ a v j,wR c=some a/\vQ e=some v/\j<a.length/\(∀ z,a[j]?=some z->pI z v=true)/\(∀ (m:Nat) z,m<j->a[m]?=some z->pI z v=false)/\f (.v (.int j))
 | _,_=>False
theorem FO:U9 K (R9 K) DX:=by
 intro B L H d c x F G Q hd A z b k;cases d<;>first | exact False.elim b | skip
 cases c with
 | nil=>exact False.elim b
 | cons e c =>
  cases c with
  | cons _ _=>exact False.elim b
  | nil =>
   obtain⟨y,rfl,py⟩:=rV z;obtain⟨E,v,j,q,s,t,u,w,b⟩:=b;obtain⟨a,D,rfl,h,r⟩:=A.lst_inv;obtain⟨f,i⟩:=Tr q r;obtain⟨m,n⟩:=C4 s py;subst f m;exact⟨a,D,y,j,rfl,rfl,eH.of h,i,n,t,u,w,k _ _ H b (hd.pushF (.int _))⟩
end
section
variable {X:Cx}
theorem nT (o:X.A.units+1<cLine) (i:Nat) (j:PD X b p) (g:PE X a (pY i):=by exact pv _) (l:Im b:=by exact λ_ _=>rfl):PD X (.Subscript a b pos) (xC Gs i p) :=
 (qC (Sf o) g j l).mono λ_ _ _ h=>Gx Ng h
end
section
variable {X:Cx}{K:mZ}
theorem Xi (l:X.calm=true):oH X (.builtin "min") (λg H Q=>∃ i j k,g=[.int i,.int j,.int k]/\∀ m:Int,(m=i\/m=j\/m=k)->m<=i->m<=j->m<=k->Q (.int m) H):=by
 intro f s A H g F Q I r h;obtain⟨i,j,k,rfl,q⟩:=h;cases r with
 | cons y r =>
  obtain⟨v,u,rfl,⟨D,rfl⟩,⟨E,rfl⟩⟩:=yS r;obtain⟨B,rfl⟩:=y;refine min_three_ints (I.ok.hd l) λw z x=>?_
  have fin:∀ (m:Int) (t:Tok),(m=i\/m=j\/m=k)->m<=i->m<=j->m<=k->EP X f A Q (.int m t) { s with heap:=w,toks:=z }:=λm t a b c d=>⟨.int m,H,I.kept x,⟨t,rfl⟩,q m a b c d⟩
  by_cases n:j<i
  .rw[aP n];by_cases e:k<j
   .rw[aP e];exact fin _ _ (.inr (.inr rfl)) (by omega) (by omega) (by omega)
   .rw[aI e];exact fin _ _ (.inr (.inl rfl)) (by omega) (by omega) (by omega)
  .rw[aI n];by_cases e:k<i
   .rw[aP e];exact fin _ _ (.inr (.inr rfl)) (by omega) (by omega) (by omega)
   .rw[aI e];exact fin _ _ (.inl rfl) (by omega) (by omega) (by omega)
def Js (K:mZ):Aa V->Hp->VK->Prop:=λa H Q=>K8 K a H Q\/∃ i j k,a=[.int i,.int j,.int k]/\∀ m:Int,(m=i\/m=j\/m=k)->m<=i->m<=j->m<=k->Q (.int m) H
theorem Y6 (g:X.calm=true):oH X (.builtin "min") (Js X.K):=(FF g).or (Xi g)
def MD:OC:=λa b=>match a with
 | [.int i,.int j,.int k]=>∀ m:Int,(m=i\/m=j\/m=k)->m<=i->m<=j->m<=k->b (.v (.int m))
 | a=>Lz a b
theorem ID:qR K (Js K) MD:=by
 intro B L H i n q Q hd h f k;have two:Lz i q->Js K n H Q:=λf=>.inl (CS B L H _ n q Q hd h f k)
 rcases i with _ | ⟨d,_ | ⟨e,_ | ⟨g,_ | ⟨_,_⟩⟩⟩⟩
 .exact two f
 .cases d<;>exact two f
 .cases d<;>first | exact two f | (cases e<;>exact two f)
 .cases d<;>first | exact two f | skip
  cases e<;>first | exact two f | skip
  cases g<;>first | exact two f | skip
  cases h with
  | cons s h =>
   obtain⟨x,y,rfl,t,py⟩:=Ap h;have:=s.int_inv;have:=t.int_inv;have:=py.int_inv;subst_vars;exact .inr ⟨_,_,_,rfl,λm a b c d=>k _ _ H (f m a b c d) (hd.pushF (.int _))⟩
 .cases d<;>first | exact two f | (cases e<;>first | exact two f | (cases g<;>exact two f))
noncomputable def Iv:D->Ab String
 | .e=>some "NoneType"
 | .b _=>some "bool"
 | .int _=>some "int"
 | .str _=>some "str"
 | .l _=>some "list"
 | .t _=>some "tuple"
 | .k _=>some "dict"
 | _=>none
theorem V1 (h:Iv d=some n) (p:nY K A H d x):TyOf K H x (.type n):=by
 cases d<;>simp only[Iv,reduceCtorEq,kY] at h<;>subst h
 .have:=p.non_inv;subst this;exact .e
 .have:=p.bl_inv;subst this;exact .b _
 .have:=p.int_inv;subst this;exact .int _
 .have:=p.str_inv;subst this;exact .str _
 .obtain⟨a,c,rfl,h,r⟩:=p.tup_inv;exact .t h
 .obtain⟨a,c,rfl,h,r⟩:=p.lst_inv;exact .l h
 .obtain⟨a,c,rfl,h,e,r⟩:=p.dK_inv;exact .k h
def FS (K:mZ):OC:=λa e=>match a with
 | [d,.r (.ty c)]=>∃ n b,Iv d=some n/\PySem.W.kitOne K (.type n) (.type c)=some b/\e (.v (.b b))
 | _=>False
theorem Dc:qR K (Qz K) (FS K):=by
 intro B L H c q s Q hd i a k;cases c with
 | nil=>exact False.elim a
 | cons d c =>
  cases c with
  | nil=>exact False.elim a
  | cons e c =>
   cases e<;>first | exact False.elim a | skip
   rename_i v
   cases v<;>first | exact False.elim a | skip
   cases c with
   | cons _ _=>exact False.elim a
   | nil =>
    obtain⟨x,y,rfl,m,py⟩:=Ap i;obtain⟨n,b,f,h,a⟩:=a;have:=py.raw_inv;subst this;exact⟨x,_,_,_,b,rfl,rfl,V1 f m,h,k _ _ H a (hd.pushF (.b _))⟩
theorem Bi (g:Gl X x) (j:X.mg x=none) (o:bootBuiltins x=some (.type n)) (l:x ≠ "__name__" := by decide) (hd:(x == ("__debug__" : Af))=false:=by decide):PD X (.Name x pos) (cd (.r (.ty n))) :=
 Ew (Ws (v:=.ty n) g j o rfl l hd) λ_ _ _=>.r _
end
end L2
namespace PySem
open PyProof.Rows L2
abbrev wJ (h:Ag) (z TI TO T:Ad) (f:Bool):Prop:=h.get? z=some { cls:=.type "zip",dict:=none,data:=.fields #[rawInt T,.bool f,.bool false,.ref TI,.ref TO],slots:=#[] }
section
theorem FG (j:s.heap.get? a=some o) (h:Q (some o) s):wpAny (model g w) A (loadIfAlive a) Q E s:=λ_ _ _=>by
 show Q (s.heap.get? a) s;rw[j];exact h
theorem GR {TI TO:Ad}(g:wJ s.heap z TI TO T f) (p:s.heap.get? T=some r) (l:∀ j,wJ j z TI TO T true->Heap.SameBut z s.heap j->Q false { s with heap:=j }) :
  wpAny (model o w) A (Builtin.SmallTypes.ownedTupleIsFree (.ref z)) Q E s:=by
 unfold Builtin.SmallTypes.ownedTupleIsFree;refine aB (eK g rfl (x:=rawInt T) rfl ?_);show wpAny _ _ (loadIfAlive ((T:Int).toNat) >>= _) _ _ _;rw[cI];refine aB (FG p ?_);simp only[Option.isNone_some,dU,fJ];refine aB (eK g rfl (x:=.bool f) rfl ?_);cases f with
 | true =>
  rw[aI (show ¬ ((Value.bool true != Value.bool true)=true) from bE)];exact aD (l _ g (Heap.SameBut.refl _ _))
 | false =>
  rw[aP (show (Value.bool false != Value.bool true)=true from rfl)];exact aB (jE g (by simp) λc b a=>aD (l _ b a))
def Ui (g:Ah) (w:World) (A:Around) (a b:Ac) (Q:Fin->Ae->Prop) (E:Ac->Ae->Prop) (s:Ae):Prop :=
 wpAny (model g w) A (Builtin.SmallTypes.nextOf a) (λx c=>wpAny (model g w) A (Builtin.SmallTypes.nextOf b) (λy d=>wpAny (model g w) A (newTuple [x,y]) (λt e=>Q (.done (.ret t)) e) E d) E c) E s
theorem Qf {TI TO:Ad}(p:wJ s.heap z TI TO T f) (r:s.heap.get? T=some C) (o:IsPair s.heap TI a b)
  (go:∀ l,wJ l z TI TO T true->Heap.SameBut z s.heap l->Ui j w A a b Q E { s with heap:=l }) :
  wpAny (model j w) A (Builtin.«zip.__next__» ⟨[.ref z],[]⟩) Q E s:=by
 have c:wpAny (model j w) A (Builtin.SmallTypes.ownedTupleIsFree (.ref z)) (λx d=>x=false/\Ui j w A a b Q E d) E s :=
  GR p r λl e k=>⟨rfl,go l e k⟩
 unfold Builtin.«zip.__next__»;refine aB (aD (aB (eK p rfl (x:=.bool false) rfl (aB (eK p rfl (x:=.ref TI) rfl (aB (gH o rfl ?_)))))));refine aB (nD c ?_);rintro _ d ⟨rfl,g⟩;simp only[aI bE,<- Array.forIn_toList,lR,List.forIn_nil,bind_assoc];refine aB (bY (aB (nD g λx h g1=>aD (aB (aD ?_)))));refine aB (aB (bY (aB (nD g1 λy i g2=>aD (aB (aD (aD ?_)))))));exact aB (nD g2 λt m g3=>aD g3)
def Ck (h:Ag) (z TI TO g j:Ad):Prop:=IsPair h TI (.ref g) (.ref j)/\(∃ a b,IsPair h TO a b)/\(IsZip h z TI TO .none\/∃ T f o,wJ h z TI TO T f/\h.get? T=some o/\T≠z/\T≠TO/\T≠g/\T≠j)
end
theorem IQ:typeLookup (.type "zip") "keys" = pure none:=am_miss_of_fast (by decide +kernel)
theorem MY:entryFor table "zip.__getattribute__" = some Builtin.«object.__getattribute__»:=entryFor_alias (id' := "object.__getattribute__") (by kernel_rfl) (by decide +kernel) (by decide +kernel) (by kernel_rfl)
theorem ED:typeLookup (.type "zip") "__getattr__" = pure none:=am_miss_of_fast (by decide +kernel)
theorem CO {sl:Array (Ab Ac)}
  (l:s.heap.get? a=some { cls:=.type "zip",dict:=none,data:=.fields fs,slots:=sl }) (q:Q .missing s):wpAny (model g w) A (Builtin.ObjectAttr.find (.ref a) (.type "zip") "keys") Q E s:=by
 have own:wpAny (model g w) A (Builtin.ObjectAttr.inOwnDict "keys" (.ref a)) (λr b=>r=none/\b=s) E s :=
  aB (aB (wpAny_loadPart l (aB (wpAny_loadPart l (aD (aD ⟨rfl,rfl⟩))))))
 have guard:wpAny (model g w) A (Builtin.ObjectAttr.copiedAttributeGuard "keys" (.ref a)) (λ_ b=>b=s) E s:=by
  have no:¬ (([Str.ofString "__module__",Str.ofString "__name__",Str.ofString "__qualname__",Str.ofString "__doc__",Str.ofString "__annotations__"]:Aa Af).contains (Str.ofString "keys")=true):=by decide +kernel
  simp only[Builtin.ObjectAttr.copiedAttributeGuard,aI no];exact aD rfl
 unfold Builtin.ObjectAttr.find;rw[IQ];refine aB (aD (aB (aD (aB (aD (aB (nD own ?_)))))));rintro _ _ ⟨rfl,rfl⟩;refine aB (nD guard ?_);rintro _ _ rfl;exact aB (gP (aD q))
theorem BO (a:Ad) (fs:Array Ac) (sl:Array (Ab Ac)) (u:Tok):Meets (Builtin.«object.__getattribute__» ⟨[.ref a,.str "keys" u],[]⟩) (λA R s=>s.heap.get? a=some { cls:=.type "zip",dict:=none,data:=.fields fs,slots:=sl }/\raisesAttr (.ref a) "keys" A R s) :=
 Meets.of_wp λb w A R s f=>by
  obtain⟨l,calm,c⟩:=f;have tp:s.TypeIs (.ref a) "zip" := ⟨_,l,rfl⟩;unfold Builtin.«object.__getattribute__»;refine aB (aD (aB (aD (aB (gX tp (aB (CO l ?_)))))));have named:wpAny (model b w) A.in1 (typeNameOfCut 100 (.ref a)) (λn d=>n = "zip" /\ d=s) (λe d=>R (.error e) d) s :=
   aB (aB (gX tp (aD (aD ⟨by decide +kernel,rfl⟩))))
  show wpAny _ _ (Builtin.ObjectAttr.noSuchAttribute (.ref a) "keys") _ _ _;unfold Builtin.ObjectAttr.noSuchAttribute;refine aB (nD named ?_);rintro _ _ ⟨rfl,rfl⟩;exact wpAny_raiseAttrError calm c (by decide +kernel)
section
theorem W7 {sl:Array (Ab Ac)}
  (l:s.heap.get? a=some { cls:=.type "zip",dict:=none,data:=.fields fs,slots:=sl }) (calm:A.handled=none) (j:∀ o p e,Heap.NewAttrErr s.heap o e (.ref a) "keys" -> E (.ref e) { s with heap:=o,toks:=p }) :
  wpAny (model g w) A (boundAndCalled (.builtin "zip.__getattribute__") (.ref a) (.str "keys" u)) Q E s:=by
 have ask:wpAny (model g w) A (call (.builtin "zip.__getattribute__") [.ref a,.str "keys" u]) Q E s :=
  kM kW ⟨_,l,rfl⟩ MY (F.args_zip_getattribute_2 _ _) (BO a fs sl u) ⟨l,calm,j⟩
 unfold boundAndCalled;rw[kW.bind (.ref a)];exact aB (aD ask)
theorem Xa (t:s.TypeIs (.ref e) "AttributeError") (j:E (.ref e) s) :
  wpAny (model g w) A (getattributeRaised o name (.type "zip") (.ref e) none false false) Q E s:=by
 have last:wpAny (model g w) A (hookOrError o name (.ref e) false false none) Q E s:=aB (wpAny_throw j);have a:hookBehind (.type "zip") none=pure none:=ED;unfold getattributeRaised;refine aB (eF t kN ?_);rw[aP rfl,a];exact aB (aD last)
theorem W1 {sl:Array (Ab Ac)}
  (l:s.heap.get? a=some { cls:=.type "zip",dict:=none,data:=.fields fs,slots:=sl }) (calm:A.handled=none) (C:∀ j p e,Heap.NewExcOf s.heap j e "AttributeError" -> Q none { s with heap:=j,toks:=p }) :
  wpAny (model g w) A (getAttr? (.ref a) "keys") Q E s:=by
 have c:∀ j p e,Heap.NewAttrErr s.heap j e (.ref a) "keys" -> (∃ o,j.get? e=some o/\o.cls = .type "AttributeError")/\Q none { s with heap:=j,toks:=p }:=λj p e x=>by
  obtain⟨_,_,y⟩:=x.there;exact⟨⟨_,y,rfl⟩,C j p e x.of⟩
 let d:Ae:={ s with toks:=s.toks+1 };let b:Except Ac Ac->Ae->Prop:=λr i=>wpAny (model g w) A (match r with | .ok v=>pure (some v) | .error e=>do if <- isInstance e (.type "AttributeError") then pure none else throw e) Q E i
 have look:wpAny (model g w) A (getAttrBy (.ref a) (.str "keys" s.toks) false) (λv=>b (.ok v)) (λe=>b (.error e)) d:=by
  refine bY (aB (gX (T := "zip") ⟨_,l,rfl⟩ (aB (jS kW.lookup ?_))));have own:wpAny (model g w) A (getAttrByItsOwn (.ref a) (.str "keys" s.toks) (.type "zip") (.builtin "zip.__getattribute__") false false) (λv=>b (.ok v)) (λe=>b (.error e)) d:=by
   refine aB (aD (aB (fA (bY (W7 (s:=d) l calm λj p e x=>?_)))));obtain⟨⟨o,f,h⟩,q⟩:=c j p e x;exact Xa ⟨o,f,h⟩ (aB (eF (T := "AttributeError") ⟨o,f,h⟩ kN (aD q)))
  exact own
 exact aB (wpAny_mkText (aB (fA look)))
end
section
variable {K:Type} [DecidableEq K] {R:Result->Ae->Prop}
theorem LQ {TI TO:Ad}(t:s.TypeIs (.ref d) "dict") (l:IsZip s.heap z TI TO .none) (calm:A.handled=none)
  (r:∀ j o e,Heap.NewExcOf s.heap j e "AttributeError" -> Q (.again (.builtin "dict.update.loop" ⟨[.ref d,.ref z,.int 0 0,.none],[]⟩)) { s with heap:=j,toks:=o }) :
  wpAny (model g w) A (Builtin.«dict.__init__» ⟨[.ref d,.ref z],[]⟩) Q E s:=by
 have first:wpAny (model g w) A (Builtin.Dict.selfAndRest "__init__" ⟨[.ref d,.ref z],[]⟩) (λp c=>p=(d,[Value.ref z])/\c=s) E s:=aB (jM t (aD ⟨rfl,rfl⟩))
 have a:wpAny (model g w) A (Builtin.Dict.updateFrom "dict.__init__" d (.ref z) [] .none) Q E s:=by
  refine aB (gX (T := "zip") ⟨_,l,rfl⟩ ?_);rw[aP (by decide)];refine aB (W1 l calm λj o e x=>?_);have b:IsZip j z TI TO .none:=x.keeps _ _ l;exact aB (gP (aB (lK b (aD (r j o e x)))))
 exact aB (cY first (λp c q=>by obtain⟨rfl,rfl⟩:=q;exact a) λ_ _ q=>q)
end
end PySem
namespace L2
open PySem PySem.Spec PyProof.Rows Lw
section
variable {X:Cx}
theorem Qg:∀ (g:Aa hG){j:Aa V}{l:Aa Ac},nE j l->KV (g.zip j) (g.zip l)
 | [],_,_,_=>.nil
 | k::g,_,_,.nil=>.nil
 | k::g,_,_,.cons h r=>.cons ⟨rfl,h⟩ (Qg g r)
end
def yW:Aa D->Ab (Aa hG)
 | []=>some []
 | d::a=>match rX d,yW a with
  | some k,some b=>some (k::b)
  | _,_=>none
section
variable {X:Cx}{K:mZ}
theorem HX (h:yW g=some j) (l:Reps K A H g o):o=j.map kV:=by
 induction g generalizing j o with
 | nil=>cases l;cases h;rfl
 | cons d g c =>
  cases l with
  | cons r l =>
  have h:=(show (match rX d,yW g with | some k,some j=>some (k::j) | _,_=>none)=some j from h);cases a:rX d with
  | none=>rw[a] at h;cases h
  | some k =>
   cases b:yW g with
   | none=>rw[a,b] at h;cases h
   | some e =>
    rw[a,b] at h;cases h;rw[c b l,Bd a r.peek];rfl
theorem S6:∀ (g:Aa hG){j:Aa D}{l:Aa V}{A:Ad->Prop}{H:Hp},Reps K A H j l->(g.zip j).map (·.1)=(g.zip l).map (·.1)/\Reps K A H ((g.zip j).map (·.2)) ((g.zip l).map (·.2))
 | [],_,_,_,_,_=>⟨rfl,.nil⟩
 | k::g,_,_,_,_,.nil=>⟨rfl,.nil⟩
 | k::g,_,_,_,_,.cons h r=>by
  obtain⟨a,b⟩:=S6 g r;exact⟨by simp[a],.cons h b⟩
end
def Je (K:mZ) (a:Ad):It :=
 ⟨λi H=>∃ b x,eH K H a b/\b[i]?=some x,λi H v c=>∃ p x,H p=none/\v = .ref p/\c=upd H p (.t [.int i,x])/\∀ b,eH K H a b->b[i]?=some x,λi H=>∃ b,eH K H a b/\b.length<=i⟩
def HV (a e g:Ad) (i:Nat) (h:Ag):Prop:=(∃ old,IsEnum h e g i old)/\h.IsListIter g a i
theorem DM {P:Ah}{K:mZ}(g:e≠it) :
  Turn P w K (.Tuple j x1 pos) (Je K a) [e,it] e (HV a e it) where
 mem:=by simp
 obj:=λi h st c m=>by
  obtain⟨⟨old,d⟩,⟨o4,f,c4,p⟩⟩:=st;simp only[aH,bA,dP] at m;rcases m with e | e<;>subst e
  .exact⟨_,d,λv z=>nomatch z⟩
  .exact⟨_,f,λv z=>by rw[p] at z;cases z⟩
 keep:=λi h R st k=>by
  obtain⟨⟨old,d⟩,f⟩:=st;exact⟨⟨old,k e (by simp) _ d⟩,f.at λo q=>k it (by simp) o q⟩
 item:=by
  intro X B hw A m i n s σ H E I t st D;subst B hw A;obtain⟨⟨old,d⟩,f⟩:=st;obtain⟨xs,x,u,W⟩:=D;obtain⟨G,N,L,_⟩:=I.list u;obtain⟨Q,F,M⟩:=N.get W;refine wpAny_pyNext_enum_item d f L.isList (x:=Q) (by simpa using F) g λR T U Y n4 n5=>?_
  refine⟨_,rfl,wpAny_letOwnedTupleGo_enum T λS J y=>?_⟩;have C:∀ c o,c∉[e,it]->s.heap.get? c=some o->S.get? c=some o:=λc o b q=>by
   simp only[aH,bA,dP,mK] at b;exact y.extBut c o b.1 (n5 c o b.1 b.2 q)
  have Z:s.heap.objs.size≠e:=λq=>eQ _ (by have:=aT d;rw[<- q] at this;exact this)
  have nt:vX S s.heap.objs.size [.int i s.toks,Q].toArray:=⟨⟨_,y.extBut _ _ Z Y,rfl,_,rfl⟩,_,y.extBut _ _ Z Y,rfl⟩;have l:=I.movedT (t':=s.toks+1) (ys:=[.int i,x]) t C nt (.cons ⟨_,rfl⟩ (.cons M .nil)) (by show 2<=sizeLine;decide);refine⟨.ref s.heap.objs.size,_,l,rfl,⟨_,x,I.fresh,rfl,rfl,λaa q'=>by rw[I.list_inj q' u];exact W⟩,⟨⟨Q,?_⟩,?_⟩,λc b=>?_⟩
  .have:((i+1:Nat):Int)=(i:Int)+1:=by omega
   rw[this];exact J
  .exact U.at λo q=>y.extBut _ o (eV g) q
  .rw[gV]
   .exact (t c b).1
   .intro q;obtain⟨o,r⟩:∃ o,s.heap.get? c=some o:=by
     obtain⟨o4,O,_⟩:=f;simp only[aH,bA,dP] at b;rcases b with q | q<;>rw[q]
     .exact⟨_,d⟩
     .exact⟨_,O⟩
    have:=aT r;rw[q] at this;exact eQ _ this
 done:=by
  intro X B hw A m i n s σ H E I t st D;subst B hw A;obtain⟨⟨old,d⟩,f⟩:=st;obtain⟨xs,u,V⟩:=D;obtain⟨G,N,L,_⟩:=I.list u;have lx:=N.length;refine wpAny_pyNext_enum_end (I.ok.hd m) d f L.isList (by simp;omega) λR k=>⟨rfl,I.moved (t':=s.toks) t λc o b q=>?_⟩
  simp only[aH,bA,dP,mK] at b;exact k c o b.2 q
 self:=λ_ _ _ _ _ st h=>by
  obtain⟨⟨old,d⟩,f⟩:=st;exact wpAny_pyIter_enum d h
section
variable {X:Cx}{K:mZ}
def DY (K:mZ) (g:TA):TI:=λe H R=>g e H λc b=>∃ a,c=[.ref a]/\(∃ d,eH K b a d)/\R (Je K a) b
theorem HR (l:Gl X "enumerate") (o:X.mg "enumerate" = none) (j:PA X [e] C) (r:starEach [e] X.env=[(false,eval e X.env)]:=by rfl) :
  PI X (.Tuple g T J) (.Call (.Name "enumerate" p) [e] [] pos) (DY X.K C):=by
 intro b s t H R I h;refine Call_ (wD I l o boot_enumerate (dF (nD (j pos b s t H _ I h) λM f i=>?_) r rfl));obtain⟨N,k,d,E,B⟩:=i;obtain⟨a,rfl,⟨O,D⟩,q⟩:=B;obtain⟨u,rfl,F⟩:=qJ E;cases F;obtain⟨x,L,A,_⟩:=d.list D;refine call_enumerate_list A.isList λw n y G z=>?_
 have v:Inv X b t k { f with heap:=w }:=d.kept (t':=f.toks) z;refine wpAny_pyIter_enum n ⟨_,[_,_],_,_,k,rfl,v,DM (a:=a) (e:=f.heap.objs.size+1) (it:=f.heap.objs.size) (Nat.succ_ne_self _),⟨⟨_,n⟩,y⟩,λc m=>?_,q⟩;simp only[aH,bA,dP] at m;rcases m with e | e<;>(subst e;exact d.fpOk (by omega) (d.hok.fresh (by omega)))
def wA (g:Aa D):Aa D:=(List.range g.length).zipWith (λi d=>D.t [.int (i:Nat),d]) g
theorem Jh {g:Aa D}{i:Nat}{d:D}(h:g[i]?=some d):(wA g)[i]?=some (.t [.int i,d]):=by
 obtain⟨a,rfl⟩:=aG.mp h;unfold wA;simp[a]
theorem B7:(wA g).length=g.length:=by simp[wA]
theorem Xg:YD K (Je K a) (wA g) [(.v (.l g),some (.ref a))]:=by
 have key:∀ A H,xB K A H [(.v (.l g),some (.ref a))]->∃ b,eH K H a b/\Reps K A H g b:=λA H ok=>by
  obtain⟨v,e,r⟩:=ok _ aE;cases e;obtain⟨q,b,e,_,c,f⟩:=r.lst_inv;cases e;exact⟨b,eH.of c,f⟩
 refine⟨rfl,λi H A h ok=>?_,λi H A x n h ok y=>?_,λi H A h ok=>?_⟩
 .obtain⟨b,c,f⟩:=key A H ok;rw[B7] at h;exact⟨b,b[i]'(by rw[<- f.length];exact h),c,aF _⟩
 .obtain⟨b,c,f⟩:=key A H ok;obtain⟨p,z,k,rfl,rfl,m⟩:=y;obtain⟨d,hd,rd⟩:=f.getV (m b c);exact⟨_,Jh hd,.inr ⟨p,_,_,k,rfl,rfl,rfl,.cons (.int _) (.cons rd .nil)⟩⟩
 .obtain⟨b,c,f⟩:=key A H ok;rw[B7] at h;exact⟨b,c,by rw[<- f.length];omega⟩
def Xj (g:nN):vL:=λb e d=>g b e λr a=>match sd r with
 | some (.l c)=>d (wA c) a
 | _=>False
theorem P2 (o:Gl X "enumerate") (C:X.mg "enumerate" = none) (j:PD X e U) (J:starEach [e] X.env=[(false,eval e X.env)]:=by rfl) (I:zZ e=true:=by rfl) :
  xU X (.Tuple g x1 ps) (.Call (.Name "enumerate" p) [e] [] pos) (Xj U) :=
 (HR o C (hL j nI I) J).mono λA H R f=>f.elim λB w T z n hd q k=>⟨B,w,T,_,n,hd,q,λr h v i s d1 b=>by
  cases c:sd r with
  | none=>rw[c] at b;exact b.elim
  | some d =>
   rw[c] at b;have d2:=d1.thaw c;have t:=d2.valAt;cases d with
   | l y=>obtain⟨a,u,rfl,_,m,x⟩:=t.lst_inv;exact⟨a,rfl,⟨u,eH.of m⟩,k _ _ h [_] i s d2 Xg b⟩
   | _=>exact b.elim⟩
end
end L2
namespace Lw
open PySem L2
abbrev B4:=Aa (Af×Int)
noncomputable def oJ (t:B4):Aa (hG×D):=t.map λp=>(Sum.inr p.1,D.int p.2)
noncomputable def look (t:B4) (x:Af):Int:=match t.find? (λp=>decide (p.1=x)) with
 | some p=>p.2
 | none=>0
theorem NG:look [] x=0:=rfl
theorem As:look (p::t) x=if p.1=x then p.2 else look t x:=by
 unfold look;rw[dZ];by_cases h:p.1=x<;>simp[h]
theorem K6:∀ (t:B4) (x:Af),(x∈t.map (·.1)->nK (oJ t) (Sum.inr x)=some (.int (look t x)))/\(x∉t.map (·.1)->nK (oJ t) (Sum.inr x)=none/\look t x=0)
 | [],x=>⟨λh=>by simp at h,λ_=>⟨rfl,rfl⟩⟩
 | p::t,x=>by
  have a:=K6 t x;have e:oJ (p::t)=(Sum.inr p.1,D.int p.2)::oJ t:=rfl;rw[e,sB,As];by_cases h:p.1=x
  .subst h;exact⟨λ_=>by rw[aP rfl,aP rfl],λn=>absurd (by simp) n⟩
  .have b:(Sum.inr p.1:hG)≠Sum.inr x:=λq=>h (gC q)
   rw[aI b,aI h];refine⟨λm=>a.1 ?_,λm=>a.2 λq=>m (by simp only[aO,aH];exact .inr q)⟩;simp only[aO,aH] at m;exact m.resolve_left λq=>h q.symm
theorem LM (h:x∉t.map (·.1)):oA (oJ t) (Sum.inr x) (.int n)=oJ (t++[(x,n)]):=by
 unfold oA;rw[Jn,((K6 t x).2 h).1];simp[oJ]
theorem Qc:∀ (u t:B4),((t++u).map (·.1)).Nodup->sC (oJ t) (oJ u)=oJ (t++u)
 | [],t,_=>by simp[sC,oJ]
 | p::u,t,h=>by
  have a:p.1∉t.map (·.1):=λq=>by
   rw[bF] at h;exact (bM.mp h).2.2 p.1 q p.1 (by simp) rfl
  have e:sC (oJ t) (oJ (p::u))=sC (oA (oJ t) (Sum.inr p.1) (.int p.2)) (oJ u):=rfl;rw[e,LM a,Qc u (t++[p]) (by simpa using h)];simp
theorem J5 (h:(t.map (·.1)).Nodup):sC [] (oJ t)=oJ t:=by
 have:=Qc t [] (by simpa using h)
 simpa [oJ] using this
end Lw
namespace L2
open PySem PySem.Spec PyProof.Rows Lw
section
variable {X:Cx}{K:mZ}
theorem Xf:oH X (.type "int") (λg H Q=>∃ (x:Af) (n:Int),g=[.str x]/\intText? x=some n/\x.length<=640/\Q (.int n) H):=by
 intro a s k H g i Q I r h;obtain⟨x,n,rfl,c,d,q⟩:=h;obtain⟨u,rfl,f⟩:=qJ r;obtain⟨t,rfl⟩:=f;exact PySem.W.KIN.call_text c d ⟨.int n,H,I.kept (t':=s.toks+1) λb o e=>e,⟨_,rfl⟩,q⟩
def Zd:OC:=λa b=>match a with
 | [.str x]=>∃ n,intText? x=some n/\x.length<=640/\b (.v (.int n))
 | a=>Kg a b
def Lk:Aa V->Hp->VK->Prop:=λa H Q=>((∃ i,a=[.int i]/\Q (.int i) H)\/∃ k,a=[.b k]/\Q (.int (if k then 1 else 0)) H)\/∃ (x:Af) (n:Int),a=[.str x]/\intText? x=some n/\x.length<=640/\Q (.int n) H
theorem Eu:oH X (.type "int") Lk:=LU.or Xf
theorem Do:qR K Lk Zd:=by
 intro B L H b e f Q hd c a k;have two:Kg b f->Lk e H Q:=λa=>.inl (MQ B L H b e f Q hd c a k)
 cases b with
 | nil=>exact two a
 | cons d b =>
 cases d<;>first | exact two a | skip
 cases b with
 | cons _ _=>exact two a
 | nil =>
 obtain⟨x,rfl,m⟩:=rV c;have:=m.str_inv;subst this;obtain⟨n,h,i,a⟩:=a;exact .inr ⟨_,n,rfl,h,i,k _ _ H a (hd.pushF (.int _))⟩
end
section
theorem uT (J:Aa α) (U T:α->D) (p:α->Bool) (C:Aa Sl) (ac:∀ Ψ:Aa D->Aa Sl->Prop,Ψ (J.map U) C->ι dk ρ Ψ) (hl:J.length<=100000)
  (hs:∀ (i:Nat) x (I:Aa D) (Nx:Aa D->Aa Sl->Prop),J[i]?=some x->I.length<100000->(p x=true->Nx (I++[T x]) (pP j C))->(p x=false->Nx I (pP j C))->g (U x) (List.replicate n Sl.n++pP j C) λae=>tt dk ae λb aa=>if b=true then te dk aa λr af=>match sd r with
   | some c=>I.length<100000/\Nx (I++[c]) (af.drop n)
   | none=>False
   else Nx I (aa.drop n))
  (ab:Φ (.o (.l ((J.filter p).map T))) (qN j (pP j C) C)):yI n j ι g tt te dk ρ Φ:=by
 refine ac _ ⟨λi I a=>I=((J.take i).filter p).map T/\a=pP j C,⟨by simp,rfl⟩,?_,?_⟩
 .rintro i d I a hd _ ⟨f,h⟩;rw[aU] at hd;cases e:J[i]? with
  | none=>rw[e] at hd;cases hd
  | some x =>
   rw[e] at hd;cases hd;obtain⟨s,_⟩:=aG.mp e;have k:(J.take (i+1)).filter p=(J.take i).filter p++(if p x=true then [x] else []):=by
    rw[bP,e,lZ];by_cases q:p x=true<;>simp[q]
   have len:I.length<100000:=by
    rw[f,aA];have m:=dJ p (J.take i);rw[bO] at m;omega
   rw[h];refine hs i x I (λI a=>I=((J.take (i+1)).filter p).map T/\a=pP j C) e len (λq=>⟨?_,rfl⟩) λq=>⟨?_,rfl⟩
   .rw[k,aP q,f,bF];rfl
   .rw[k,aI (by rw[q];decide),dN];exact f
 .rintro I a _ ⟨f,h⟩;rw[f,h,aA,cL];exact ab
theorem rA (J:Aa α) (C I:α->D) (p:Aa Sl) (ab:∀ Ψ:Aa D->Aa Sl->Prop,Ψ (J.map C) p->ι dk ρ Ψ) (hl:J.length<=100000)
  (hs:∀ (i:Nat) x (T:Aa D) (U:Aa D->Aa Sl->Prop),J[i]?=some x->T.length<100000->U (T++[I x]) (pP j p)->g (C x) (List.replicate n Sl.n++pP j p) λac=>te dk ac λr ae=>match sd r with
   | some c=>T.length<100000/\U (T++[c]) (ae.drop n)
   | none=>False)
  (aa:Φ (.o (.l (J.map I))) (qN j (pP j p) p)):yI n j ι g S5 te dk ρ Φ:=by
 refine uT J C I (λ_=>true) p ab hl (λi x T U e a b _=>hs i x T U e a (b rfl)) ?_;have:J.filter (λ_=>true)=J:=List.filter_eq_self.mpr λ_ _=>rfl
 rw[this];exact aa
end
end L2
namespace Lw
open PySem L2
def oU (i:Nat):Stmt:=PySem.Challenge.pw_laidcells_k08_equations_with_pairs.main.body.getD i (.Pass ⟨0,0,0,0⟩)
abbrev G4:Stmt:=oU 4
abbrev Ha:Stmt:=oU 6
abbrev Hk:Stmt:=oU 7
abbrev Ee:Stmt:=oU 8
abbrev Ep:Stmt:=oU 9
abbrev Fz:Stmt:=oU 11
abbrev Dz:Stmt:=oU 12
abbrev En:Stmt:=oU 13
abbrev E5:Stmt:=oU 14
abbrev Dv:Stmt:=oU 15
abbrev Ec:Stmt:=oU 16
abbrev B0:Stmt:=oU 17
abbrev G6:Stmt:=oU 18
abbrev B2:Stmt:=oU 19
abbrev Fe:Stmt:=oU 20
abbrev G3:Stmt:=oU 22
abbrev xG:Stmt:=oU 23
abbrev B5:Stmt:=oU 24
abbrev Gc:Stmt:=oU 25
abbrev Gw:Stmt:=oU 26
abbrev G0:Stmt:=oU 27
abbrev Fs:Stmt:=oU 28
abbrev F8:Stmt:=oU 30
abbrev Hg:Stmt:=oU 31
abbrev Gh:Stmt:=oU 32
abbrev Hl:Stmt:=oU 33
abbrev Hj:Stmt:=oU 34
abbrev Au:Stmt:=oU 35
abbrev Ga:Stmt:=oU 36
abbrev Gu:Stmt:=oU 37
abbrev Fq:Stmt:=oU 38
abbrev yP:Stmt:=oU 39
structure Txt (mg:Str->Option Value):Prop where
 len:mg "len" = none
 range:mg "range" = none
 sum:mg "sum" = none
 min:mg "min" = none
 max:mg "max" = none
 tuple:mg "tuple" = none
 list:mg "list" = none
 set:mg "set" = none
 dict:mg "dict" = none
 int:mg "int" = none
 str:mg "str" = none
 zip:mg "zip" = none
 enumerate:mg "enumerate" = none
 all:mg "all" = none
 any:mg "any" = none
 isinstance:mg "isinstance" = none
 sorted:mg "sorted" = none
 abs:mg "abs" = none
 reversed:mg "reversed" = none
 bool:mg "bool" = none
structure Gd (K:mZ) (mg:Str->Option Value) (x:Str) (st:Stmt) (ps:List Str) (f:Addr) (fd:FuncData):Prop where
 F:Fun K x x st f fd
 m:mg x=some (.ref f)
 k:PySem.W.keepIn K (.ref f)=true
 b:xR K fd ps []
def Kn (P:Ah) (w:World) (K:mZ) (g:Af->Ab Ac) (base:Ag) (k:Nat) (x:Af) (st:Stmt) (j:Aa Af) (R:RD):Prop:=∃ f fd,Gd K g x st j f fd/\FnOk P w K g base oQ k f fd j (yH K R)
theorem oV {X:Cx}{st:Stmt}{R:RD}(G:Kn X.prog X.w X.K X.mg X.base k x st J R) (C:Room m X.A) (o:rW X (e::l) I) (hk:k<=m:=by decide) (r:Gl X x:=by rfl) (g:(x == ("__debug__" : Af))=false:=by decide)
  (j:StB X e l pos:=by exact {}):PD X (.Call (.Name x p) (e::l) [] pos) (zK R I):=G.elim λ_ h=>h.elim λ_ h=>AC h.2 (C.mono hk) r h.1.m h.1.k h.1.b o g j
def pQ (P:Ah) (w:World) (K:mZ) (g:Af->Ab Ac) (base:Ag) (k:Nat) (x:Af) (st:Stmt) (j:Aa Af) (R:RD):Prop:=∀ f fd,Fun K x x st f fd->FnOk P w K g base oQ k f fd j (yH K R)
theorem pZ {P:Ah}{K:mZ}{st:Stmt}{R:RD}(S:FnScope N J (nS st))
  (j:∀ (f:Ad) (g:Ac) (A:Around) (l:Aa Env) (s:Ae) (H:Hp) (E:XK) (C:Aa Ad) (o:Aa D) (r:Sl->Prop),Room k (A.deeper (PyProof.Rows.envOfC x (nS st) s.heap.objs.size f g))->(A.deeper (PyProof.Rows.envOfC x (nS st) s.heap.objs.size f g)).units+1<cLine->R C o r ->∃ t,uV (xZ oQ P w K T base N x (nS st) f g A l s H E).nox (sT st) t/\t C { nx:=λ_=>r (.v .e),rt:=r } (zL N o)) (I:J.length<=N.length:=by decide) (p:∀ C o r,R C o r->o.length=J.length:=by rintro _ _ _ h;repeat' (rcases h with⟨i,h⟩;try (subst i;rfl))):pQ P w K T base (k+1) x st J R:=λ_ _ F=>F.okD S p I λ_ _ _ _ _ _ _ _ _ a=>j _ _ _ _ _ _ _ _ _ _ a (Ln a)
def Ao:Sp:=λb H Q _=>∃ (d c:Ad) (m:Int),b=[.ref d,.int m]/\DeckAt H d c/\0<m/\m<4611686018427387904/\∀ (r:Int) (a:Hp),0<=r->r<m->DeckAt a d c->nA d c H a->Q (.int r) a
section
variable {P:Ah}{K:mZ}
theorem Kq:FnScope ["deck","many","at","cell"] ["deck","many"] (nS xG):=⟨rfl,rfl,rfl,by decide +kernel,rfl,by decide +kernel,by decide +kernel⟩
theorem Cj (F:Fun K "_law_take" "_law_take" xG f fd) (T:Txt g):FnOk P w K g base oQ 1 f fd ["deck","many"] Ao:=by
 refine F.ok Kq (λR H Q E h=>?_) (λG A x s H R Q E X h=>?_)
 .obtain⟨d,c,m,rfl,_⟩:=h;rfl
 .obtain⟨d,c,m,rfl,D,n,W,k⟩:=h;obtain⟨a,p,t,y,L,M⟩:=id D.ex;have q:=D.ne;refine⟨_,pN (oN (i:=2) Kq.nd rfl (Or.inl rfl) (nV rB (qC rC (pv 0) nW (λ_ _=>rfl)) (sJ vY (by rfl) T.len cF (wP (qC rC (pv 0) nW (λ_ _=>rfl)) nI)))) (pN (F9 (nV tY (qC rC (pv 0) nW (λ_ _=>rfl)) nW) (Hn (pv 0) nW Gz)) (pN (oN (i:=3) Kq.nd rfl (Or.inl rfl) (qC rC (qC rC (pv 0) nW (λ_ _=>rfl)) (pv 2) (λ_ _=>rfl))) (pN (F9 (nV Mh (pv 3) (pv 1)) (Hn (qC rC (pv 0) nW (λ_ _=>rfl)) (pv 2) Gz)) (qE (vJ (nV rB (pv 3) (pv 1))))))),?_⟩;refine⟨_,rfl,d,_,_,_,rfl,rfl,eH.of t,rfl,_,rfl,d,_,_,_,rfl,rfl,eH.of t,rfl,c,_,rfl,.inl (eH.of y),_,_,rfl,rfl,?_,?_⟩
  .rw[aA];omega
  .rw[aA];have B:=fB p (show (a.length:Int)≠0 by omega);have S:=dY p (show (0:Int)<a.length by omega);obtain⟨j,z⟩:=cM B;have v:j<a.length:=by omega
   have u:(a.map V.int)[j]?=some (V.int a[j]):=by simp[v]
   refine⟨_,rfl,d,_,_,_,rfl,rfl,eH.of t,rfl,_,_,rfl,rfl,_,rfl,d,_,_,1,rfl,rfl,t,rfl,?_⟩;have g1:upd H d (.l ([V.ref c,V.int p].set 1 (V.int (p+1)))) d=some (.l [.ref c,.int (p+1)]):=hI;have g2:upd H d (.l ([V.ref c,V.int p].set 1 (V.int (p+1)))) c=some (.l (a.map V.int)):=by rw[gV q.symm];exact y
   refine⟨_,rfl,d,_,_,_,rfl,rfl,eH.of g1,rfl,_,rfl,c,_,_,V.int a[j],rfl,rfl,eH.of g2,(by rw[z];exact wY u),?_⟩
   .refine⟨_,rfl,_,rfl,_,_,rfl,rfl,⟨n,by omega⟩,_,rfl,d,_,_,_,rfl,rfl,eH.of g1,rfl,_,rfl,c,_,_,j,rfl,rfl,g2,?_,?_⟩
    .rw[z,aA];unfold rZ;rw[aP (by omega),aP (by omega)];simp
    .refine⟨_,rfl,_,rfl,_,_,rfl,rfl,n,?_⟩;refine k _ _ (fB _ (by omega)) (dY _ n) ⟨a.set j (a[j]/m),p+1,?_,?_,by rw[aY];exact L,by rw[aY];exact M⟩ ?_
     .rw[gV q];exact g1
     .rw[hI,List.map_set]
     .intro b o e N O;rw[gV O,gV N];exact e
end
theorem pW.new (h:H p=none):pW H (upd H p o):=λb u e=>by rw[gV (nB e h)];exact e
theorem DO (g:Aa Int) (lo j:Ab Int):∃ l:Aa Int,sU (g.map V.int) lo j=l.map V.int/\l.length<=g.length:=by
 refine⟨(g.drop (HT.sIx g.length 0 lo)).take (HT.sIx g.length g.length j-HT.sIx g.length 0 lo),?_,?_⟩
 .unfold sU;rw[List.length_map,List.map_take,List.map_drop]
 .rw[bO,cW];omega
def Ob (K:mZ):Sp:=λf H Q _=>∃ (a:Ad) (e:Aa Int),f=[.ref a]/\eH K H a (e.map V.int)/\e.length<=63/\∀ (d c:Ad) (b:Hp),DeckAt b d c->H d=none->H c=none->pW H b->Q (.ref d) b
section
variable {P:Ah}{K:mZ}
theorem Bt:FnScope ["script","cells","k","mixed"] ["script"] (nS G3):=⟨rfl,rfl,rfl,by decide +kernel,rfl,by decide +kernel,by decide +kernel⟩
theorem KQ (F:Fun K "_law_deck" "_law_deck" G3 f fd) (T:Txt mg):FnOk P w K mg base oQ 1 f fd ["script"] (Ob K):=by
 refine F.ok Bt (λvs H Q E h=>?_) (λab A g s H vs Q E hr h=>?_)
 .obtain⟨a,t,rfl,_⟩:=h;rfl
 .obtain⟨a,t,rfl,W,aa,k⟩:=h;refine⟨_,pN (oN (i:=1) Bt.nd rfl (Or.inl rfl) (nV A3 (wO Aw (pv 0) yF (xX nW)) (pU (wP (sJ vY (by rfl) T.len cF (wP (pv 0) nI)) nI)))) (pN (yX (vO Fh (nV rB (sJ (Ct rfl) (by rfl) T.sum hZ (wP (wO Aw (pv 0) yF (xX nW)) nI)) nW) nW (wS _)) (qE (vZ eC rfl (zJ rfl T.range (wP (sJ vY (by rfl) T.len cF (wP (pv 1) nI)) nI)) (uH (i:=2) Bt.nd rfl (Or.inl rfl)) (pN (oN (i:=3) Bt.nd rfl (Or.inl rfl) (nV rB (nV wW (nV tY (nV tY (nV rB (qC rC (pv 1) (pv 2) (λ_ _=>rfl)) nW) (nV wW nW (pv 2))) nW) nW) nW)) (pN (oN (i:=3) Bt.nd rfl (Or.inl rfl) (nV rB (nV wW (nV rB (nV tY (nV wW (pv 3) (pv 3)) (nV wW nW (pv 2))) nW) nW) nW)) (qE (F9 (nV tY (nV wW (nV wW (pv 3) (pv 3)) nW) (nV rB (nV wW (pv 3) nW) nW)) (Hn (pv 1) (pv 2) Gz))))))) Av) (qE (vJ (pU (wP (pv 1) (wP nW nI)))))),?_⟩;obtain⟨q,U,ac⟩:=DO t none (some 63);refine⟨_,rfl,_,rfl,a,_,rfl,W,λG n1=>?_⟩;have p:pW H (upd H G (.l (sU (t.map V.int) none (some 63)))):=pW.new n1;rw[U] at p |-;refine⟨_,rfl,a,_,rfl,.inl (p.seq W),(by show 1<=sizeLine;decide),λj n2=>?_⟩;have s2:=p.trans (pW.new (o:=.l [V.int ((t.map V.int).length:Nat)]) n2);have q1:upd (upd H G (.l (q.map V.int))) j (.l [V.int ((t.map V.int).length:Nat)]) G=some (.l (q.map V.int)):=by rw[gV (nB hI n2)];exact hI
  refine⟨G,j,_,_,rfl,rfl,q1,hI,?_,λc nc=>?_⟩
  .rw[aA];exact bD (show q.length+1<=64 by omega) (by decide)
  have L:=s2.trans (pW.new (o:=.l (q.map V.int++[V.int ((t.map V.int).length:Nat)])) nc);have ec:q.map V.int++[V.int ((t.map V.int).length:Nat)]=(q++[((t.map V.int).length:Int)]).map V.int:=by simp
  rw[ec] at L |-;generalize Y:q++[((t.map V.int).length:Int)]=u at L;have D:0<u.length/\u.length<=64:=by rw[<- Y,aZ,List.length_singleton];omega
  have B:H c=none:=s2.free nc;generalize S:upd (upd (upd H G (.l (q.map V.int))) j (.l [V.int ((t.map V.int).length:Nat)])) c (.l (u.map V.int))=I at L;have J:I c=some (.l (u.map V.int)):=by rw[<- S];exact hI
  have fin:∀ (m:Aa Int) (v x:Ab V) (O:Hp),pW H O->O c=some (.l (m.map V.int))->0<m.length->m.length<=64 ->
    (Tv (L7 (Cg (pY 1) (Cg (tC (.int 0)) Fd)))) { nx:=λ_ H'=>Q .e H',rt:=Q } [some (.ref a),some (.ref c),v,x] O:=by
   intro m v x O N y l1 l2;refine⟨_,rfl,(by show 2<=sizeLine;decide),λd nd=>?_⟩;refine k d c _ ⟨m,0,hI,by rw[gV (nB y nd)];exact y,l1,by omega⟩ (N.free nd) B (N.trans (pW.new nd))
  refine⟨_,rfl,_,rfl,a,_,rfl,L.seq W,λp4 n4=>?_⟩;rw[U];have N:=L.trans (pW.new (o:=.l (q.map V.int)) n4);have y:upd I p4 (.l (q.map V.int)) c=some (.l (u.map V.int)):=by rw[gV (nB J n4)];exact J
  refine⟨p4,q,rfl,eH.of hI,_,_,rfl,rfl,(by show (0:Int)<2;decide),rfl,_,rfl,?_⟩;refine zN (λ_=>?_) (λ_=>?_)
  .refine⟨_,rfl,c,_,rfl,.inl (eH.of y),_,rfl,by omega,by rw[aA];omega,?_⟩;rw[aA,cI];refine Ea (lo:=0) (n:=u.length) (λi C z=>∃ (m:Aa Int) (v x:Ab V),C=[some (.ref a),some (.ref c),v,x]/\pW H z/\z c=some (.l (m.map V.int))/\m.length=u.length)
    ⟨u,none,none,rfl,N,y,rfl⟩ ?_ ?_
   .rintro i C z hi ⟨m,v,x,rfl,r,R,Z⟩;have X:(m.map V.int)[i]?=some (V.int (m[i]'(by omega))):=by simp[Z,hi]
    refine⟨_,rfl,_,rfl,c,_,_,V.int (m[i]'(by omega)),rfl,rfl,eH.of R,(by rw[lU];exact wY X),_,_,rfl,rfl,(by show (0:Int)<2147483587;decide),_,rfl,_,_,rfl,rfl,.inl (by decide),_,_,rfl,rfl,_,_,rfl,rfl,_,_,rfl,rfl,.inr (by decide),_,_,rfl,rfl,(by show (0:Int)<2147483629;decide),?_⟩;refine⟨_,rfl,_,rfl,_,_,rfl,rfl,.inl ?_,_,rfl,_,_,rfl,rfl,.inl (by decide),_,_,rfl,rfl,_,_,rfl,rfl,(by show (0:Int)<2147483563;decide),_,_,rfl,rfl,.inr (by decide),_,_,rfl,rfl,(by show (0:Int)<2147483549;decide),?_⟩
    .have b0:=fB ((m[i]'(by omega)%2147483587+853*(0+(i:Int))+11)*69621) (show (2147483629:Int)≠0 by decide);have b1:=dY ((m[i]'(by omega)%2147483587+853*(0+(i:Int))+11)*69621) (show (0:Int)<2147483629 by decide);exact⟨by omega,by omega⟩
    generalize hM:((m[i]'(by omega)%2147483587+853*(0+(i:Int))+11)*69621%2147483629)=M;have b0:=fB ((M*M+31*(0+(i:Int)))%2147483563*16807) (show (2147483549:Int)≠0 by decide);have b1:=dY ((M*M+31*(0+(i:Int)))%2147483563*16807) (show (0:Int)<2147483549 by decide);refine⟨_,rfl,_,rfl,_,_,rfl,rfl,.inl ?_,_,_,rfl,rfl,.inr (by decide),_,rfl,_,_,rfl,rfl,.inl ?_,_,_,rfl,rfl,(by show (0:Int)<2147483579;decide),_,_,rfl,rfl,_,rfl,_,rfl,c,_,_,i,rfl,rfl,R,?_,?_⟩
    .exact⟨by omega,by omega⟩
    .exact⟨by omega,by omega⟩
    .rw[aA];unfold rZ;rw[aP (by omega),aP (by omega)]
     congr 1
     omega
    .refine⟨m.set i _,_,_,rfl,?_,by rw[hI,List.map_set],by rw[aY];exact Z⟩;intro b o e;rw[gV (nB e B)];exact r b o e
   .rintro C z ⟨m,v,x,rfl,r,R,Z⟩;exact fin m v x z r R (by omega) (by omega)
  .exact fin u none none _ N y D.1 D.2
end
structure LS (n m:Nat) (x:Str):Prop where
 az:∀ c∈x.cps.toList,97<=c/\c<=122
 lo:n<=x.length
 hi:x.length<=m
theorem CI (x y:Af):(x++y).cps.toList=x.cps.toList++y.cps.toList:=by
 show (x.cps++y.cps).toList=_;simp
theorem P4 (x y:Af):(x++y).length=x.length+y.length:=by
 show (x.cps++y.cps).size=_;simp[Str.length]
theorem LS.app (h:LS a b x) (g:LS c d y):LS (a+c) (b+d) (x++y) :=
 ⟨λz e=>by rw[CI] at e;exact (aQ.mp e).elim (h.az z) (g.az z),by rw[P4];have:=h.lo;have:=g.lo;omega,by rw[P4];have:=h.hi;have:=g.hi;omega⟩
theorem LS.weak (h:LS a b x) (g:c<=a) (j:b<=d):LS c d x:=⟨h.az,bD g h.lo,bD h.hi j⟩
noncomputable def Hi (n m:Nat) (x:Af):Bool:=x.cps.toList.all (λc=>decide (97<=c)&&decide (c<=122))&&decide (n<=x.length)&&decide (x.length<=m)
theorem LS.of (h:Hi n m x=true):LS n m x:=by
 unfold Hi at h;simp only[cA,gB,decide_eq_true_eq] at h;exact⟨h.1.1,h.1.2,h.2⟩
theorem LS.cutL (h:LS n n z) (hk:k<=n):LS k k (tP z none (some (k:Int))):=by
 have e:z.length=n:=kI h.hi h.lo;have d:HT.sIx z.length z.length (some (k:Int))=k:=by rw[HT.sIx_nat];omega
 have a:(tP z none (some (k:Int))).cps.toList=z.cps.toList.take k:=by
  show ((z.cps.toList.drop (HT.sIx z.length 0 none)).take _).toArray.toList=_;rw[d,HT.sIx_none];simp
 have f:(tP z none (some (k:Int))).length=k:=by
  rw[<- yC,a,bO,yC];omega
 exact⟨λc b=>by rw[a] at b;exact h.az c (gI b),by omega,by omega⟩
theorem LS.cutR (h:LS n n z) (hk:k<=n):LS (n-k) (n-k) (tP z (some (k:Int)) none):=by
 have e:z.length=n:=kI h.hi h.lo;have d:HT.sIx z.length 0 (some (k:Int))=k:=by rw[HT.sIx_nat];omega
 have a:(tP z (some (k:Int)) none).cps.toList=z.cps.toList.drop k:=by
  show ((z.cps.toList.drop (HT.sIx z.length 0 (some (k:Int)))).take _).toArray.toList=_;rw[d,HT.sIx_none];simp only[List.toList_toArray];rw[bJ];rw[cW,yC];omega
 have f:(tP z (some (k:Int)) none).length=n-k:=by
  rw[<- yC,a,cW,yC];omega
 exact⟨λc b=>by rw[a] at b;exact h.az c (List.mem_of_mem_drop b),by omega,by omega⟩
theorem LS.sign (h:97<=c/\c<=122):LS 1 1 ⟨#[c]⟩:=⟨λd hd=>by simp at hd;subst hd;exact h,aR _,aR _⟩
theorem Ox:∀ (g:Aa Af),(∀ y∈g,LS 1 1 y)->LS g.length g.length (Str.join "" g)
 | [],_=>⟨λc e=>(nomatch e),aR _,aR _⟩
 | [x],h=>h x aE
 | x::y::r,h=>by
  have b:=h x aE;have d:=Ox (y::r) λz f=>h z (aJ _ f)
  have a:LS 0 0 (Str.ofString ""):=LS.of (by decide +kernel);have:=(b.app a).app d;show LS _ _ (x++(Str.ofString "")++Str.join "" (y::r));exact this.weak (by simp;omega) (by simp;omega)
theorem Z3 (g:0<=i) (l:i<xs.length):∃ v,pA xs i=some v/\v∈xs:=by
 obtain⟨j,rfl⟩:=cM g;have a:j<xs.length:=by omega
 exact⟨xs[j],wY (aF a),eR a⟩
theorem Es {xs:Aa Af}{i:Int}(g:0<=i) (l:i<xs.length):∃ x,pA (xs.map V.str) i=some (V.str x)/\x∈xs:=by
 obtain⟨j,rfl⟩:=cM g;have a:j<xs.length:=by omega
 exact⟨xs[j],wY (by simp[a]),eR a⟩
def oX:Af := "abcdefghijklmnopqrstuvwxyz"
theorem Ji:oX.length=26:=by decide +kernel
theorem Kb (g:0<=i) (j:i<26):∃ c,pA oX.cps.toList i=some c/\97<=c/\c<=122:=by
 obtain⟨c,e,m⟩:=Z3 (xs:=oX.cps.toList) g (by rw[yC,Ji];exact j);have h:LS 26 26 oX:=LS.of (by decide +kernel);exact⟨c,e,h.az c m⟩
noncomputable def rE:Aa Af:=["and","or","odd","most","not","one","nil","in","out"]
theorem MI (h:x∈rE):LS 2 4 x:=by
 have:rE.all (Hi 2 4)=true:=by decide +kernel
 exact LS.of (gB.mp this x h)
structure GoodName (x:Str):Prop where
 ls:LS 1 8 x
 nk:x∉rE
def Lf:Sp:=λa H Q _=>a=[]/\∀ l,H l=none->Q (.ref l) (upd H l (.l (rE.map V.str)))
def Sk:Sp:=λe H Q _=>∃ (d c:Ad) (m:Nat),e=[.ref d,.int m]/\DeckAt H d c/\m<=40/\∀ (l:Ad) (b:Aa Af) (a:Hp),H l=none->a l=some (.l (b.map V.str))->b.length=m->(∀ x∈b,LS 1 8 x) ->
 DeckAt a d c->nA d c H a->Q (.ref l) a
theorem nA.free (k:nA d c H g) (j:l≠d) (p:l≠c) (h:g l=none):H l=none:=by
 cases e:H l with
 | none=>rfl
 | some o=>rw[k l o e j p] at h;cases h
theorem LV {g:Aa Af}{n m:Nat}(h:∀ y∈g,y.length<=m) (j:g.length<=n):(g.map (·.length)).sum<=n*m:=by
 have:∀ g:Aa Af,(∀ y∈g,y.length<=m)->(g.map (·.length)).sum<=g.length*m:=by
  intro g;induction g with
  | nil=>intro _;simp
  | cons a r c =>
   intro h;have d:=h a aE;have e:=c λy b=>h y (aJ _ b)
   simp only[aO,jL,bS,Nat.add_mul,Nat.one_mul];omega
 exact bD (this g h) (iI m j)
theorem E6 (h:n<=1000):n<=sizeLine:=bD h (by decide)
section
variable {P:Ah}{K:mZ}
theorem JZ:FnScope [] [] (nS B5):=⟨rfl,rfl,rfl,by decide +kernel,rfl,by decide +kernel,by decide +kernel⟩
theorem Vf (F:Fun K "_law_kept" "_law_kept" B5 f fd):FnOk P w K g base oQ 1 f fd [] Lf:=by
 refine F.ok JZ (λd H Q E h=>?_) (λb A a s H d Q E e h=>?_)
 .obtain⟨rfl,_⟩:=h;rfl
 .obtain⟨rfl,k⟩:=h;refine⟨_,@qE _ _ _ (@vJ _ _ _ _ (@pU _ _ _ _ (@xD _ [("and",_,_),("or",_,_),("odd",_,_),("most",_,_),("not",_,_),("one",_,_),("nil",_,_),("in",_,_),("out",_,_)]))),?_⟩;have c:9<=sizeLine:=by decide
  refine⟨c,?_⟩;exact k
theorem vH:FnScope ["deck","many","letters","base","at","shift","way","names","k","sign","word","name"] ["deck","many"] (nS Gc):=⟨rfl,rfl,rfl,by decide +kernel,rfl,by decide +kernel,by decide +kernel⟩
theorem ND:(["k","letters","deck"]:Aa Af).Nodup:=by decide +kernel
theorem Ml (j:0<=i) (l:i<2) (q:Af) (g:LS 0 1 q):∃ x,pA [V.str "",V.str q] i=some (V.str x)/\LS 0 1 x:=by
 have:i=0\/i=1:=by omega
 rcases this with rfl | rfl
 .exact⟨"",rfl,LS.of (by decide +kernel)⟩
 .exact⟨q,rfl,g⟩
theorem Zz (F:Fun K "_law_made_names" "_law_made_names" Gc f fd) (T:Txt mg) (g:Gd K mg "_law_take" xG ["deck","many"] fT aw) (gK:Gd K mg "_law_kept" B5 [] fK av) :
  FnOk P w K mg base oQ 2 f fd ["deck","many"] Sk:=by
 have GT:FnOk P w K mg base oQ 1 fT aw ["deck","many"] Ao:=Cj g.F T;have GK:FnOk P w K mg base oQ 1 fK av [] Lf:=Vf gK.F;refine F.ok vH (λvs H Q E h=>?_) (λa8 A a7 s H vs Q E hr h=>?_)
 .obtain⟨d,c,m,rfl,_⟩:=h;rfl
 .obtain⟨d,c,m,rfl,D,hm,k⟩:=h;refine⟨_,pN (oN (i:=2) vH.nd rfl (Or.inr rfl) vC) (pN (oN (i:=3) vH.nd rfl (Or.inl rfl) (vI PySem.F.plainAttrs_str PySem.F.slot_str_join PySem.F.type_str_join JO vC (hL (Bo ["k"] ["letters","deck"] [2,0] rfl (zJ rfl T.range (hL (qM GT hr rfl g.m g.k g.b .nil qA (hL (pv 0) (hL nW nI))) nI)) rfl rfl (λZ S C cl fp=>uH (i:=0) ND rfl (Or.inl rfl)) (λZ S C cl fp=>G2) (λZ S C cl fp=>qC Hm (pv 1) (qM GT hr rfl g.m g.k g.b .nil qA (hL (pv 2) (hL nW nI))) (λ_ _=>rfl))) nI))) (pN (oN (i:=4) vH.nd rfl (Or.inl rfl) (qM GT hr rfl g.m g.k g.b .nil qA (hL (pv 0) (hL (nV tY (sJ N2 (by rfl) T.len cF (hL (pv 3) nI)) nW) nI)))) (pN (oN (i:=5) vH.nd rfl (Or.inl rfl) (qM GT hr rfl g.m g.k g.b .nil qA (hL (pv 0) (hL nW nI)))) (pN (oN (i:=6) vH.nd rfl (Or.inl rfl) (qM GT hr rfl g.m g.k g.b .nil qA (hL (pv 0) (hL nW nI)))) (pN (oN (i:=7) vH.nd rfl (Or.inl rfl) (pU nI)) (pN (vZ eC rfl (zJ rfl T.range (hL (pv 1) nI)) (uH (i:=8) vH.nd rfl (Or.inl rfl)) (pN (oN (i:=9) vH.nd rfl (Or.inl rfl) (qC Hm (pv 2) (nV rB (nV tY (pv 5) (pv 8)) nW) (λ_ _=>rfl))) (pN (oN (i:=10) vH.nd rfl (Or.inl rfl) (qC rC (Ug GK hr rfl gK.m gK.k gK.b .nil qA) (nV rB (nV tY (pv 5) (pv 8)) nW) (λ_ _=>rfl))) (pN (oN (i:=11) vH.nd rfl (Or.inl rfl) (nV wG (nV wG (nV wG (nV wG (wO Kl (pv 3) yF (xX (pv 4))) (pv 9)) (qC rC (pU (hL vC (hL vC nI))) (nV rB (pv 8) nW) (λ_ _=>rfl))) (wO Kl (pv 3) (xX (pv 4)) yF)) (qC rC (pU (hL vC (hL vC nI))) (nV MS (pv 8) nW) (λ_ _=>rfl)))) (qE (Ci (vI cC cZ dB wK (pv 7) (hL (qC rC (pU (hL (pv 11) (hL (nV wG (pv 9) (pv 10)) (hL (nV wG (pv 10) (pv 9)) (hL (nV wG (nV wG (pv 9) (pv 10)) (qC Hm (pv 2) (nV rB (pv 8) nW) (λ_ _=>rfl))) nI))))) (pv 6) (λ_ _=>rfl)) nI)))))))) (qE (vJ (pv 7))))))))),?_⟩;refine⟨rfl,_,rfl,d,c,6,rfl,D,by decide,by decide,λr1 H1 a0 a1 D1 k1=>⟨_,rfl,by omega,by omega,λD0 N=>?_⟩⟩;have u:=D1.ned N;have a2:H D0=none:=k1.free u.1 u.2 N;refine Jx Qu (λi ys H2=>∃ t:Aa Af,ys=t.map V.str/\t.length=i/\(∀ z∈t,LS 1 1 z)/\DeckAt H2 d c/\nA d c H H2/\H2 D0=some (.l ys))
   ⟨[],rfl,rfl,(λz Y=>nomatch Y),D1.new N,k1.trans (nA.new N),hI⟩ (λ_ _ _ _ _=>True.intro) ?_ ?_
  .rintro i x ys H2 hx ⟨t,rfl,hl,a6,D2,k2,hD⟩;have hi:i<6:=by
    have:=(aG.mp hx).1;simp at this;omega
   refine⟨_,rfl,_,rfl,d,c,26,rfl,D2,by decide,by decide,λr H3 b0 b1 D3 k3=>?_⟩;obtain⟨W,a3,I⟩:=Kb b0 b1;have az:=k3 D0 _ hD u.1 u.2;refine⟨oX,_,W,rfl,rfl,(by rw[Ji];decide),a3,⟨_,rfl⟩,az,(by rw[aA];exact aW (show t.length<1000 by omega) (by decide)),t++[⟨#[W]⟩],by simp,by simp[hl],λz Y=>?_,D3.upd_other u.1 u.2,?_,hI⟩
   .rcases aQ.mp Y with q | q
    .exact a6 z q
    .rw[aM.mp q];exact LS.sign I
   .exact λb o e h1 h2=>by rw[gV (nB e a2)];exact k3 b o (k2 b o e h1 h2) h1 h2
  .rintro ys H2 ⟨t,rfl,hl,Y,D2,k2,hD⟩;rw[aA,bZ] at hl;have hB:=Ox t Y;have ay:t.length<=5:=by omega
   refine⟨"",D0,t,rfl,rfl,.inl (eH.of hD),?_,?_⟩
   .have h1:=LV (m:=1) (λy hy=>(Y y hy).hi) ay;have h2:(Str.ofString "").length=0:=by decide +kernel
    rw[h2];omega
   have ej:Txt.join (Str.ofString "") t=Str.join (Str.ofString "") t:=StrLaws.glued_eq_join _ _;rw[ej];generalize Str.join (Str.ofString "") t=B at hB;have eB:B.length=t.length:=kI hB.hi hB.lo;refine⟨_,rfl,_,rfl,B,rfl,E6 (by omega),_,_,rfl,rfl,d,c,_,rfl,D2,by omega,by omega,λr2 H3 b0 b1 D3 k3=>?_⟩;refine⟨_,rfl,d,c,26,rfl,D3,by decide,by decide,λr3 H4 c0 c1 D4 k4=>?_⟩;refine⟨_,rfl,d,c,4,rfl,D4,by decide,by decide,λr4 H5 d0 d1 D5 k5=>?_⟩;refine⟨(by show 0<=sizeLine;decide),λl nl=>?_⟩;have kk:nA d c H H5:=((k2.trans k3).trans k4).trans k5;have O:=D5.ned nl;have ae:H l=none:=kk.free O.1 O.2 nl;obtain⟨L,rfl⟩:=cM b0;refine⟨_,rfl,_,rfl,by omega,by omega,?_⟩;rw[cI];refine Ea (lo:=0) (n:=m) (λi σ G=>∃ (v:Aa Af) (v8 v9 v10 v11:Ab V),σ=[some (.ref d),some (.int m),some (.str oX),some (.str B),some (.int L),some (.int r3),some (.int r4),some (.ref l),v8,v9,v10,v11] /\ v.length=i/\(∀ x∈v,LS 1 8 x)/\G l=some (.l (v.map V.str))/\DeckAt G d c/\nA d c H G)
    ⟨[],none,none,none,none,rfl,rfl,(λz Y=>nomatch Y),hI,D5.new nl,kk.trans (nA.new nl)⟩ ?_ ?_
   .rintro i σ G hi ⟨v,v8,v9,v10,v11,rfl,J,U,h6,D6,k6⟩;have M:∀ z:Int,0<=z%26/\z%26<26:=λz=>⟨fB z (by decide),dY z (by decide)⟩
    have e9:∀ z:Int,0<=z%9/\z%9<9:=λz=>⟨fB z (by decide),dY z (by decide)⟩
    have e2:∀ z:Int,0<=z%2/\z%2<2:=λz=>⟨fB z (by decide),dY z (by decide)⟩
    obtain⟨W,af,I⟩:=Kb (M (r3+(0+(i:Int)))).1 (M _).2;obtain⟨wd,ag,a4⟩:=Es (xs:=rE) (e9 (r3+(0+(i:Int)))).1 (by exact (e9 _).2);obtain⟨x1,ah,ao⟩:=Ml (e2 (0+(i:Int))).1 (e2 _).2 "q" (LS.of (by decide +kernel));obtain⟨x2,ai,aq⟩:=Ml (i:=(0+(i:Int))/26) (by omega) (by omega) "w" (LS.of (by decide +kernel));obtain⟨c5,aj,an⟩:=Kb (M (0+(i:Int))).1 (M _).2;have j:=LS.sign I;have hW:=MI a4;have X:L<=t.length:=by omega
    have hP:=hB.cutL X;have hR:=hB.cutR X;have n1:=hP.app j;have n2:=n1.app ao;have n3:=n2.app hR;have n4:=n3.app aq;have w1:=j.app hW;have w2:=hW.app j;have w3:=w1.app (LS.sign an);have sz:∀ {a b c' d':Nat} {x y:Af},LS a b x->LS c' d' y->b+d'<=100->x.length+y.length<=sizeLine:=λg1 g2 hb=>E6 (by have:=g1.hi;have:=g2.hi;omega)
    have au:oX.length<=sizeLine:=by rw[Ji];decide
    have ac:B.length<=sizeLine:=E6 (by omega);refine⟨_,rfl,_,rfl,_,rfl,_,_,rfl,rfl,_,_,rfl,rfl,(by show (0:Int)<26;decide),oX,_,W,rfl,rfl,au,af,?_⟩;refine⟨rfl,λp np=>?_⟩;have D7:DeckAt (upd G p (.l (rE.map V.str))) d c:=D6.new np;refine⟨_,rfl,_,rfl,_,_,rfl,rfl,_,_,rfl,rfl,(by show (0:Int)<9;decide),p,_,_,.str wd,rfl,rfl,eH.of hI,ag,?_⟩;have k7:nA d c H (upd G p (.l (rE.map V.str))):=k6.trans (nA.new np);have h7:upd G p (.l (rE.map V.str)) l=some (.l (v.map V.str)):=by rw[gV (nB h6 np)];exact h6
    generalize upd G p (.l (rE.map V.str))=H7 at D7 k7 h7 |-;refine⟨_,rfl,_,rfl,_,rfl,B,rfl,ac,_,rfl,_,_,rfl,rfl,sz hP j (by omega),(by show 2<=sizeLine;decide),λp2 aa=>?_⟩;have D8:=D7.new (o:=.l [V.str (Str.ofString ""),V.str (Str.ofString "q")]) aa;have k8:=k7.trans (nA.new (d:=d) (c:=c) (o:=.l [V.str (Str.ofString ""),V.str (Str.ofString "q")]) aa);have h8:upd H7 p2 (.l [V.str (Str.ofString ""),V.str (Str.ofString "q")]) l=some (.l (v.map V.str)):=by rw[gV (nB h7 aa)];exact h7
    refine⟨_,rfl,_,_,rfl,rfl,(by show (0:Int)<2;decide),p2,_,_,.str x1,rfl,rfl,eH.of hI,ah,_,_,rfl,rfl,sz n1 ao (by omega),_,rfl,_,rfl,_,rfl,B,rfl,ac,_,_,rfl,rfl,sz n2 hR (by omega),(by show 2<=sizeLine;decide),λp3 R=>?_⟩;generalize upd H7 p2 (.l [V.str (Str.ofString ""),V.str (Str.ofString "q")])=H8 at D8 k8 h8 R |-;have D9:=D8.new (o:=.l [V.str (Str.ofString ""),V.str (Str.ofString "w")]) R;have k9:=k8.trans (nA.new (d:=d) (c:=c) (o:=.l [V.str (Str.ofString ""),V.str (Str.ofString "w")]) R);have h9:upd H8 p3 (.l [V.str (Str.ofString ""),V.str (Str.ofString "w")]) l=some (.l (v.map V.str)):=by rw[gV (nB h8 R)];exact h8
    refine⟨_,rfl,_,_,rfl,rfl,⟨by decide,by decide⟩,p3,_,_,.str x2,rfl,rfl,eH.of hI,ai,_,_,rfl,rfl,sz n3 aq (by omega),?_⟩;generalize upd H8 p3 (.l [V.str (Str.ofString ""),V.str (Str.ofString "w")])=H9 at D9 k9 h9 |-;generalize a9:(tP B none (some (L:Int))++(⟨#[W]⟩:Af)++x1++tP B (some (L:Int)) none++x2)=nm at n4;refine⟨_,rfl,.inl ⟨rfl,_,eH.of h9⟩,_,rfl,_,rfl,_,rfl,_,_,rfl,rfl,sz j hW (by omega),_,rfl,_,rfl,_,_,rfl,rfl,sz hW j (by omega),_,rfl,_,rfl,_,_,rfl,rfl,sz j hW (by omega),_,rfl,_,rfl,_,_,rfl,rfl,(by show (0:Int)<26;decide),oX,_,c5,rfl,rfl,au,aj,_,_,rfl,rfl,sz w1 (LS.sign an) (by omega),(by show 4<=sizeLine;decide),λp4 ab=>?_⟩;obtain⟨z,ak,ar⟩:=Es (xs:=[nm,(⟨#[W]⟩:Af)++wd,wd++(⟨#[W]⟩:Af),(⟨#[W]⟩:Af)++wd++(⟨#[c5]⟩:Af)]) d0 (by exact d1);have a5:LS 1 8 z:=by
     simp only[aH,bA,dP] at ar;rcases ar with rfl | rfl | rfl | rfl
     .exact n4.weak (by omega) (by omega)
     .exact w1.weak (by omega) (by omega)
     .exact w2.weak (by omega) (by omega)
     .exact w3.weak (by omega) (by omega)
    have ax:∀ o4,upd H9 p4 o4 l=some (.l (v.map V.str)):=λo4=>by rw[gV (nB h9 ab)];exact h9
    refine⟨_,rfl,p4,_,_,.str z,rfl,rfl,eH.of hI,ak,l,v.map V.str,.str z,rfl,rfl,?_,?_,v++[z],_,_,_,_,rfl,by simp[J],?_,?_,?_,?_⟩
    .exact ax _
    .rw[aA];exact aW (show v.length<1000 by omega) (by decide)
    .intro y hy;rcases aQ.mp hy with q | q
     .exact U y q
     .rw[aM.mp q];exact a5
    .rw[hI];simp
    .exact (D9.new ab).upd_other O.1 O.2
    .exact λb o e g1 g2=>by rw[gV (nB e ae)];exact (k9.trans (nA.new ab)) b o e g1 g2
   .rintro σ G ⟨v,v8,v9,v10,v11,rfl,J,U,h6,D6,k6⟩;exact⟨_,rfl,k l v G ae h6 J U D6 k6⟩
end
def uK:Aa Af:=["cell","along","lay","judge","late","gates","ways","show"]
noncomputable def xM:Aa Af:=["andx","orb","oddly","mosts","nots","ones","nila","inn","outer","aa","ab","ba"]
def Dr:Aa Af:=["abcdefgh","abcdefgi","zzzzzzzz","names","judged","rowsofx"]
def rY (z:Af):Aa Af:=z.cps.toList.map λc=>(⟨#[c]⟩:Af)
def yU:Aa Af:=rY oX++uK++xM++Dr
theorem LW:yU.Nodup:=by decide +kernel
theorem KS:yU.length=52:=by decide +kernel
theorem AU:∀ x∈yU,GoodName x:=by
 have h:yU.all (λx=>Hi 1 8 x && !rE.contains x)=true:=by decide +kernel
 intro x b;have:=gB.mp h x b;rw[cA] at this;refine⟨LS.of this.1,λm=>?_⟩;have a:=this.2;rw[List.contains_iff_mem.mpr m] at a;cases a
def Oe:Sp:=λe H Q _=>∃ (d c:Ad) (m:Nat),e=[.ref d,.int m]/\DeckAt H d c/\m<=40/\∀ (l:Ad) (b:Aa Af) (a:Hp),H l=none->a l=some (.l (b.map V.str))->b.length=m->b.Nodup->(∀ x∈b,GoodName x) ->
 DeckAt a d c->nA d c H a->Q (.ref l) a
theorem Ld:∀ {g:Aa Af}{k:Nat}{y:Af},g[k]?=some y->(y::g.eraseIdx k).Perm g
 | [],k,y,h=>by simp at h
 | a::r,0,y,h=>by
  simp at h;subst h;exact List.Perm.refl _
 | a::r,k+1,y,h=>by
  have b:r[k]?=some y:=by simpa using h
  show (y::a::r.eraseIdx k).Perm (a::r);exact (List.Perm.swap a y _).trans ((Ld b).cons a)
theorem Kf (f:g->j):∀ (l:Aa g) (k:Nat),(l.map f).eraseIdx k=(l.eraseIdx k).map f
 | [],_=>rfl
 | _::_,0=>rfl
 | a::r,k+1=>by simp[Kf f r k]
theorem U0 (x:Af) (g:Aa Af):xS (.str x) (g.map V.str)=decide (x∈g):=by
 unfold xS;induction g with
 | nil=>rfl
 | cons y r b =>
  rw[aO,eZ,b];have:pI (V.str y) (V.str x)=decide (y=x):=by
   simp only[pI];exact Bool.beq_eq_decide_eq y x
  rw[this];by_cases h:x=y
  .subst h;simp
  .have a:¬ y=x:=λe=>h e.symm
   simp[h,a]
theorem Lr (g:Aa Af):(g.map V.str).all qW=true:=by
 rw[gB];intro v a;obtain⟨y,_,rfl⟩:=aN.mp a;rfl
section
variable {P:Ah}{K:mZ}
theorem Ax:FnScope ["deck","many","letters","names","spare"] ["deck","many"] (nS Gw):=⟨rfl,rfl,rfl,by decide +kernel,rfl,by decide +kernel,by decide +kernel⟩
theorem Tx (x:Af):([x]:Aa Af).Nodup:=by simp
theorem DR:(["k","spare","deck"]:Aa Af).Nodup:=by decide +kernel
theorem Zg (F:Fun K "_law_names" "_law_names" Gw f fd) (T:Txt mg) (gT:Gd K mg "_law_take" xG ["deck","many"] fT a6) (gK:Gd K mg "_law_kept" B5 [] fK a4)
  (gM:Gd K mg "_law_made_names" Gc ["deck","many"] fM a5):FnOk P w K mg base oQ 3 f fd ["deck","many"] Oe:=by
 have GT:FnOk P w K mg base oQ 1 fT a6 ["deck","many"] Ao:=Cj gT.F T;have GK:FnOk P w K mg base oQ 1 fK a4 [] Lf:=Vf gK.F;have GM:FnOk P w K mg base oQ 2 fM a5 ["deck","many"] Sk:=Zz gM.F T gT gK;refine F.ok Ax (λvs H Q E h=>?_) (λbf A bd s H vs Q E hr h=>?_)
 .obtain⟨d,c,m,rfl,_⟩:=h;rfl
 .obtain⟨d,c,m,rfl,D,hm,k⟩:=h;have aj:Room 1 _:=hr.mono (by decide);have hu:=hr.units;refine Cp _ (oN (i:=2) Ax.nd rfl (Or.inl rfl) vC) ?_;refine tJ (λσ S=>∃ v3,σ=[some (.ref d),some (.int m),some (.str oX),v3,none]/\DeckAt S d c/\nA d c H S) (λu L=>?_) ?_
  .-- if _law_take(deck,2) == 1
   refine⟨_,yX (vO Fh (qM GT aj rfl gT.m gT.k gT.b .nil qA (hL (pv 0) (hL nW nI))) nW (wS _)) (pN (oN (i:=3) Ax.nd rfl (Or.inl rfl) (qM GM hr rfl gM.m gM.k gM.b .nil qA (hL (pv 0) (hL (pv 1) nI)))) (qE (yX (PW.pt (Vy (vO Fh (sJ V4 (by rfl) T.len cF (hL (zC (Xd rfl) (by rfl) T.set PyProof.Rows.boot_set (hL (pv 3) nI)) nI)) (pv 1) (wS _)) (Xs (vO (Ig hu) (Bo ["name"] [] [] rfl (Mv (pv 3)) rfl rfl (λB v C cl fp=>uH (i:=0) (Tx _) rfl (Or.inl rfl)) (λB v C cl fp=>Mm (vO (r:=F6 K false) Nu (pv 0) (Ug GK aj rfl gK.m gK.k gK.b .nil qA) rfl)) (λB v C cl fp=>pv 0)) (pU nI) (wS _))))) (qE (vJ (pv 3))) Av))) Av,?_⟩;refine⟨_,rfl,d,c,2,rfl,D,by decide,by decide,λr1 H1 a0 a1 D1 k1=>⟨rfl,_,rfl,?_⟩⟩;refine zN (λ_=>?_) (λ_=>L _ _ ⟨none,rfl,D1,k1⟩);refine⟨_,rfl,_,rfl,d,c,m,rfl,D1,hm,λl O H2 nl hl av ba D2 k2=>?_⟩;have kk:nA d c H H2:=k1.trans k2;have ax:=D1.ned nl;have a8:H l=none:=k1.free ax.1 ax.2 nl;refine⟨_,rfl,l,O,rfl,eH.of hl,by omega,λp np=>?_⟩;have k3:=kk.trans (nA.new (d:=d) (c:=c) (o:=A8 P w p (pB O).length) np);have D3:=D2.new (o:=A8 P w p (pB O).length) np;have ai:upd H2 p (A8 P w p (pB O).length) l=some (.l (O.map V.str)):=by rw[gV (nB hl np)];exact hl
   refine⟨p,_,rfl,hI,_,rfl,rfl,_,rfl,?_⟩;refine zN (λa9=>?_) (λ_=>wV (L _ _ ⟨_,rfl,D3,k3⟩));have J:O.Nodup:=by
    have:=eU a9;injection this with this;exact KD (by omega)
   refine⟨_,rfl,l,rfl,⟨_,eH.of ai⟩,λR n=>?_⟩;have G:=D3.ned n;have ac:H R=none:=k3.free G.1 G.2 n;have lD:l≠R:=nB ai n;refine Na Yp (λi ys S=>∃ t:Aa Af,ys=t.map V.str/\t.length<=i/\((∃ x∈O.take i,x∈rE)->t≠[])/\((∀ x∈O.take i,x∉rE)->t=[])/\DeckAt S d c/\nA d c H S/\S R=some (.l ys)/\S l=some (.l (O.map V.str)))
    ⟨[],rfl,aR _,(λ⟨x,N,_⟩=>by simp at N),(λ_=>rfl),D3.new n,k3.trans (nA.new n),hI,by rw[gV lD];exact ai⟩ (λi ys S _ ⟨_,_,_,_,_,_,_,_,h⟩=>eH.of h) ?_ ?_
   .rintro i x ys S N ⟨t,rfl,aw,U,af,D4,k4,g,I⟩;obtain⟨y,hy,rfl⟩:∃ y,O[i]?=some y/\V.str y=x:=by
     rw[aU] at N;cases e:O[i]? with
     | none=>rw[e] at N;cases N
     | some y=>rw[e] at N;exact⟨y,rfl,bR N⟩
    have hi:i<O.length:=(aG.mp hy).1;have et:O.take (i+1)=O.take i++[y]:=by rw[bP,hy];rfl
    refine⟨_,rfl,rfl,λq nq=>?_⟩;have bh:=D4.ned nq;refine⟨q,_,rfl,.inl (eH.of hI),rfl,Lr _,_,rfl,?_⟩;have D5:=D4.new (o:=.l (rE.map V.str)) nq;have k5:=k4.trans (nA.new (d:=d) (c:=c) (o:=.l (rE.map V.str)) nq);have ab:upd S q (.l (rE.map V.str)) R=some (.l (t.map V.str)):=by rw[gV (nB g nq)];exact g
    have ae:upd S q (.l (rE.map V.str)) l=some (.l (O.map V.str)):=by rw[gV (nB I nq)];exact I
    rw[U0];refine zN (λhk=>?_) (λhk=>?_)
    .have ah:y∈rE:=eU hk;refine⟨_,rfl,⟨_,rfl⟩,ab,?_,t++[y],by simp,by simp;omega,λ_=>by simp,λh=>absurd ah (h y (by rw[et];simp)),D5.upd_other G.1 G.2,?_,hI,?_⟩
     .rw[aA];exact aW (show t.length<1000 by omega) (by decide)
     .exact λb o e g1 g2=>by rw[gV (nB e ac)];exact k5 b o e g1 g2
     .rw[gV lD];exact ae
    .have ah:y∉rE:=λz=>hk (cX z)
     refine⟨⟨_,rfl⟩,t,rfl,by omega,?_,?_,D5,k5,ab,ae⟩
     .rintro ⟨z,hz,ak⟩;rw[et] at hz;rcases aQ.mp hz with q' | q'
      .exact U ⟨z,q',ak⟩
      .rw[aM.mp q'] at ak;exact absurd ak ah
     .exact λh=>af λz hz=>h z (by rw[et];exact bK _ hz)
   .rintro ys S ⟨t,rfl,aw,U,af,D4,k4,g,I⟩;rw[aA] at aw U af;rw[bJ (aR _)] at U af;refine⟨(by show 0<=sizeLine;decide),λq nq=>?_⟩;have D5:=D4.new (o:=.l []) nq;have k5:=k4.trans (nA.new (d:=d) (c:=c) (o:=.l []) nq);have ab:upd S q (.l []) R=some (.l (t.map V.str)):=by rw[gV (nB g nq)];exact g
    have ae:upd S q (.l []) l=some (.l (O.map V.str)):=by rw[gV (nB I nq)];exact I
    refine⟨R,q,_,rfl,rfl,eH.of ab,eH.of hI,_,rfl,?_⟩;refine zN (λhe=>?_) (λ_=>L _ _ ⟨_,rfl,D5,k5⟩);have bc:t=[]:=by
     cases t with
     | nil=>rfl
     | cons a r=>simp at he
    refine⟨_,rfl,k l O _ a8 ae av J (λx N=>⟨ba x N,λhk=>U ⟨x,N,hk⟩ bc⟩) D5 k5⟩
  .rintro σ S ⟨v3,rfl,D4,k4⟩;refine tJ (λσ H7=>∃ p2,σ=[some (.ref d),some (.int m),some (.str oX),v3,some (.ref p2)]/\H7 p2=some (.l ((rY oX++uK).map V.str))/\DeckAt H7 d c/\nA d c H H7/\H p2=none) (λu L=>?_) ?_
   .refine⟨_,oN (i:=4) Ax.nd rfl (Or.inr rfl) (nV A3 (Bo ["sign"] [] [] rfl (Ya (pv 2)) rfl rfl (λB v C cl fp=>uH (i:=0) (Tx _) rfl (Or.inl rfl)) (λB v C cl fp=>G2) (λB v C cl fp=>pv 0)) (@pU _ _ _ _ (@xD _ [("cell",_,_),("along",_,_),("lay",_,_),("judge",_,_),("late",_,_),("gates",_,_),("ways",_,_),("show",_,_)]))),?_⟩;refine⟨_,rfl,oX,rfl,by decide +kernel,λR n=>?_⟩;refine KG HI id n (λ_ _=>True.intro) (by rw[show (zB oX).length=26 by decide +kernel];decide) (λi x H5 kk N _ h=>⟨_,rfl,h⟩) ?_;have e1:(zB oX).map id=(rY oX).map V.str:=by rw[List.map_id];unfold zB rY;rw[List.map_map];rfl
    rw[e1];refine⟨(by show 8<=sizeLine;decide),λp1 n1=>?_⟩;have h0:upd (upd S R (.l ((rY oX).map V.str))) p1 (.l (uK.map V.str)) R=some (.l ((rY oX).map V.str)):=by rw[gV (nB hI n1)];exact hI
    refine⟨R,p1,_,_,rfl,rfl,h0,hI,(by rw[aA,show (rY oX).length=26 by decide +kernel];show 26+8<=sizeLine;decide),λp2 n2=>?_⟩;have D7:=((D4.new (o:=.l ((rY oX).map V.str)) n).new (o:=.l (uK.map V.str)) n1);have k7:=(k4.trans (nA.new (d:=d) (c:=c) (o:=.l ((rY oX).map V.str)) n)).trans (nA.new (d:=d) (c:=c) (o:=.l (uK.map V.str)) n1);have ay:=D7.ned n2;refine L _ _ ⟨p2,rfl,?_,D7.new n2,k7.trans (nA.new n2),k7.free ay.1 ay.2 n2⟩;rw[hI,bF];rfl
   rintro σ H7 ⟨p2,rfl,h7,D7,k7,z7⟩;refine tJ (λσ H8=>∃ p3,σ=[some (.ref d),some (.int m),some (.str oX),v3,some (.ref p3)]/\H8 p3=some (.l ((rY oX++uK++xM).map V.str))/\DeckAt H8 d c/\nA d c H H8/\H p3=none) (λu L=>?_) ?_
   .refine⟨_,oN (i:=4) Ax.nd rfl (Or.inr rfl) (nV A3 (pv 4) (@pU _ _ _ _ (@xD _ [("andx",_,_),("orb",_,_),("oddly",_,_),("mosts",_,_),("nots",_,_),("ones",_,_),("nila",_,_),("inn",_,_),("outer",_,_),("aa",_,_),("ab",_,_),("ba",_,_)]))),?_⟩;refine⟨_,rfl,(by show 12<=sizeLine;decide),λp1 n1=>?_⟩;have h0:upd H7 p1 (.l (xM.map V.str)) p2=some (.l ((rY oX++uK).map V.str)):=by rw[gV (nB h7 n1)];exact h7
    refine⟨p2,p1,_,_,rfl,rfl,h0,hI,(by rw[aA,show (rY oX++uK).length=34 by decide +kernel];show 34+12<=sizeLine;decide),λp3 n3=>?_⟩;have D8:=D7.new (o:=.l (xM.map V.str)) n1;have k8:=k7.trans (nA.new (d:=d) (c:=c) (o:=.l (xM.map V.str)) n1);have az:=D8.ned n3;refine L _ _ ⟨p3,rfl,?_,D8.new n3,k8.trans (nA.new n3),k8.free az.1 az.2 n3⟩;rw[hI,bF (l₁:=rY oX++uK)];rfl
   rintro σ H8 ⟨p3,rfl,h8,D8,k8,z8⟩;refine tJ (λσ H9=>∃ Y,σ=[some (.ref d),some (.int m),some (.str oX),v3,some (.ref Y)]/\H9 Y=some (.l (yU.map V.str))/\DeckAt H9 d c/\nA d c H H9/\H Y=none) (λu L=>?_) ?_
   .refine⟨_,oN (i:=4) Ax.nd rfl (Or.inr rfl) (nV A3 (pv 4) (@pU _ _ _ _ (@xD _ [("abcdefgh",_,_),("abcdefgi",_,_),("zzzzzzzz",_,_),("names",_,_),("judged",_,_),("rowsofx",_,_)]))),?_⟩;refine⟨_,rfl,(by show 6<=sizeLine;decide),λp1 n1=>?_⟩;have h0:upd H8 p1 (.l (Dr.map V.str)) p3=some (.l ((rY oX++uK++xM).map V.str)):=by rw[gV (nB h8 n1)];exact h8
    refine⟨p3,p1,_,_,rfl,rfl,h0,hI,(by rw[aA,show (rY oX++uK++xM).length=46 by decide +kernel];show 46+6<=sizeLine;decide),λY n4=>?_⟩;have D9:=D8.new (o:=.l (Dr.map V.str)) n1;have k9:=k8.trans (nA.new (d:=d) (c:=c) (o:=.l (Dr.map V.str)) n1);have X:=D9.ned n4;refine L _ _ ⟨Y,rfl,?_,D9.new n4,k9.trans (nA.new n4),k9.free X.1 X.2 n4⟩;unfold yU;rw[hI,bF (l₁:=rY oX++uK++xM)];rfl
   rintro σ H9 ⟨Y,rfl,h9,D9,k9,z9⟩;refine⟨_,qE (vJ (Bo ["k"] ["spare","deck"] [4,0] rfl (zJ rfl T.range (hL (pv 1) nI)) rfl rfl (λB v C cl fp=>uH (i:=0) DR rfl (Or.inl rfl)) (λB v C cl fp=>G2) (λB v C cl fp=>Vz K cC PySem.F.slot_list_pop PySem.F.type_list_pop Qx (pv 1) (hL (qM GT aj rfl gT.m gT.k gT.b .nil qA (hL (pv 2) (hL (sJ (Wl K) (by rfl) T.len cF (hL (pv 1) nI)) nI))) nI)))),?_⟩;refine⟨_,rfl,_,rfl,by omega,by omega,λR n=>?_⟩;have G:=D9.ned n;have ac:H R=none:=k9.free G.1 G.2 n;have X:Y≠d/\Y≠c:=D.ned z9;have ar:Y≠R:=nB h9 n;refine Jx Qu (λi ys W=>∃ t M:Aa Af,ys=t.map V.str/\t.length=i/\M.length+i=52/\(t++M).Nodup/\(∀ x∈t++M,GoodName x)/\W Y=some (.l (M.map V.str))/\DeckAt W d c/\nA d c H W/\W R=some (.l ys))
    ⟨[],yU,rfl,rfl,KS,LW,AU,by rw[gV ar];exact h9,D9.new n,k9.trans (nA.new n),hI⟩ (λ_ _ _ _ _=>True.intro) ?_ ?_
   .rintro i x ys W N ⟨t,M,rfl,an,bb,J,hg,aa,ag,ao,Z⟩;have hi:i<40:=by
     have:=(aG.mp N).1;simp at this;omega
    refine⟨_,rfl,.inl ⟨rfl,_,eH.of aa⟩,_,rfl,_,rfl,Y,_,rfl,.inl (eH.of aa),d,c,_,rfl,ag,by rw[aA];omega,by rw[aA];omega,λr be b0 b1 a3 aq=>?_⟩;rw[aA] at b1;obtain⟨j,rfl⟩:=cM b0;have hj:j<M.length:=by omega
    have a7:=aq Y _ aa X.1 X.2;have au:=aq R _ Z G.1 G.2;have hy:M[j]?=some M[j]:=aF hj;have pm:=Ld hy;have a2:((t++[M[j]])++M.eraseIdx j).Perm (t++M):=by
     rw[bI];exact jO t pm
    have bg:(M.eraseIdx j).length+1=M.length:=by
     rw[List.length_eraseIdx,aP hj];omega
    refine⟨Y,_,_,j,.str M[j],rfl,rfl,a7,by omega,by omega,?_,by simp[hj],⟨_,rfl⟩,by rw[gV ar.symm];exact au,?_,t++[M[j]],M.eraseIdx j,by simp,by simp[an],by omega,a2.symm.nodup J,λx N=>hg x (a2.mem_iff.mp N),?_,?_,?_,hI⟩
    .rw[aA];exact lN (by omega) (by omega)
    .rw[aA];exact aW (show t.length<1000 by omega) (by decide)
    .rw[gV ar,hI,Kf]
    .exact (a3.upd_other X.1 X.2).upd_other G.1 G.2
    .exact λb o e g1 g2=>by rw[gV (nB e ac),gV (nB e z9)];exact aq b o (ao b o e g1 g2) g1 g2
   .rintro ys W ⟨t,M,rfl,an,bb,J,hg,aa,ag,ao,Z⟩;rw[aA,bZ] at an;exact k R t W ac Z (by omega) (mB (List.sublist_append_left t M) J) (λx N=>hg x (bK _ N)) ag ao
end
noncomputable def vU:Aa Af:=["and","or","odd"]
structure ArOk (w:Str) (n:Nat):Prop where
 ok:(w∈vU/\(n=2\/n=3))\/(w = "most" /\ n=3)\/(w = "not" /\ n=1)\/(w = "one" /\ n=0)\/(w = "nil" /\ n=0)
def Gf:Aa Af:=["and","or","odd","most","not","one","nil","and","odd","most"]
def uQ:Aa Af:=["most","not","one","nil"]
def xF:Aa Int:=[3,1,0,0]
theorem Wu (h:w∈Gf) (g:w∉vU):w = "most" \/ w = "not" \/ w = "one" \/ w = "nil" := by
 unfold Gf at h;unfold vU at g;simp only[aH,bA,dP,mK] at h g;obtain⟨g1,g2,g3⟩:=g;rcases h with q | q | q | q | q | q | q | q | q | q
 .exact absurd q g1
 .exact absurd q g2
 .exact absurd q g3
 .exact .inl q
 .exact .inr (.inl q)
 .exact .inr (.inr (.inl q))
 .exact .inr (.inr (.inr q))
 .exact absurd q g1
 .exact absurd q g3
 .exact .inl q
theorem CK {w:Af}(h:w = "most" \/ w = "not" \/ w = "one" \/ w = "nil"):∃ (j:Nat) (n:Nat),j<4/\(∀ z,(uQ.map V.str)[j]?=some z->pI z (.str w)=true)/\(∀ (m:Nat) z,m<j->(uQ.map V.str)[m]?=some z->pI z (.str w)=false) /\
  pA (xF.map V.int) (j:Int)=some (.int n)/\ArOk w n:=by
 have go:∀ (j:Nat) (n:Nat),j<4->uQ[j]?=some w->pA (xF.map V.int) (j:Int)=some (.int n)->(∀ m,m<j->∀ y,uQ[m]?=some y->¬ y=w)->ArOk w n->∃ (j:Nat) (n:Nat),j<4/\(∀ z,(uQ.map V.str)[j]?=some z->pI z (.str w)=true)/\(∀ (m:Nat) z,m<j->(uQ.map V.str)[m]?=some z->pI z (.str w)=false) /\
   pA (xF.map V.int) (j:Int)=some (.int n)/\ArOk w n:=by
  intro j n k hw i q s;refine⟨j,n,k,λz c=>?_,λm z d c=>?_,i,s⟩
  .rw[aU,hw] at c;cases c;show (w == w)=true;exact lJ w
  .rw[aU] at c;cases e:uQ[m]? with
   | none=>rw[e] at c;cases c
   | some y =>
    rw[e] at c;cases c;show (y == w)=false;exact cQ.mpr (q m d y e)
 have t:∀ {a b:Nat},a<b->b<=4->a=0\/a=1\/a=2\/a=3:=λu v=>by omega
 rcases h with rfl | rfl | rfl | rfl
 .exact go 0 3 (by decide) rfl rfl (λm d=>absurd d (jI _)) ⟨.inr (.inl ⟨rfl,rfl⟩)⟩
 .refine go 1 1 (by decide) rfl rfl (λm d y f=>?_) ⟨.inr (.inr (.inl ⟨rfl,rfl⟩))⟩;obtain rfl:m=0:=by omega
  cases f;decide +kernel
 .refine go 2 0 (by decide) rfl rfl (λm d y f=>?_) ⟨.inr (.inr (.inr (.inl ⟨rfl,rfl⟩)))⟩;rcases (show m=0\/m=1 by omega) with rfl | rfl<;>(cases f;decide +kernel)
 .refine go 3 0 (by decide) rfl rfl (λm d y f=>?_) ⟨.inr (.inr (.inr (.inr ⟨rfl,rfl⟩)))⟩;rcases (show m=0\/m=1\/m=2 by omega) with rfl | rfl | rfl<;>(cases f;decide +kernel)
def Oz:Sp:=λf H Q _=>∃ (d c kn:Ad) (b:Aa Af),f=[.ref d,.ref kn]/\DeckAt H d c/\H kn=some (.l (b.map V.str))/\kn≠d/\kn≠c/\b.length<=100 /\
 ∀ (t q:Ad) (wd:Af) (e:Aa Af) (a:Hp),H t=none->H q=none->a t=some (.t [.str wd,.ref q])->a q=some (.t (e.map V.str))->ArOk wd e.length->(∀ p∈e,p∈b)->DeckAt a d c->nA d c H a->Q (.ref t) a
section
variable {P:Ah}{K:mZ}
theorem xP:FnScope ["deck","known","word","many","parts","k","at"] ["deck","known"] (nS G0):=⟨rfl,rfl,rfl,by decide +kernel,rfl,by decide +kernel,by decide +kernel⟩
theorem AV (F:Fun K "_law_gate" "_law_gate" G0 f fd) (T:Txt mg) (g:Gd K mg "_law_take" xG ["deck","many"] fT av):FnOk P w K mg base oQ 2 f fd ["deck","known"] Oz:=by
 have GT:FnOk P w K mg base oQ 1 fT av ["deck","many"] Ao:=Cj g.F T;refine F.ok xP (λvs H Q E h=>?_) (λa2 A ax s H vs Q E hr h=>?_)
 .obtain⟨d,c,kn,B,rfl,_⟩:=h;rfl
 .obtain⟨d,c,kn,B,rfl,D,ag,ab,aa,a4,k⟩:=h;have hu:=hr.units;refine tJ (λM H1=>∃ wd,M=[some (.ref d),some (.ref kn),some (.str wd),none,none,none,none]/\wd∈Gf/\DeckAt H1 d c/\nA d c H H1) (λu v=>?_) ?_
  .refine⟨_,@oN _ _ 2 _ _ _ _ xP.nd rfl (Or.inl rfl) (@qC _ _ _ _ _ _ _ rC (@pU _ _ _ _ (@xD _ [("and",_,_),("or",_,_),("odd",_,_),("most",_,_),("not",_,_),("one",_,_),("nil",_,_),("and",_,_),("odd",_,_),("most",_,_)])) (qM GT hr rfl g.m g.k g.b .nil qA (hL (pv 0) (hL nW nI))) (λ_ _=>rfl)) (by rfl) (.inl rfl),?_⟩;refine⟨(by show 10<=sizeLine;decide),λp np=>⟨_,rfl,d,c,10,rfl,D.new np,by decide,by decide,λr H1 a0 a1 D1 k1=>?_⟩⟩;have G:=D.ned np;have h1:=k1 p _ hI G.1 G.2;obtain⟨wd,N,hw⟩:=Es (xs:=Gf) a0 (by exact a1);exact⟨p,_,_,.str wd,rfl,rfl,eH.of h1,N,v _ _ ⟨wd,rfl,hw,D1,(nA.new np).trans k1⟩⟩
  rintro M H1 ⟨wd,rfl,hw,D1,k1⟩;refine tJ (λM H2=>∃ n:Int,M=[some (.ref d),some (.ref kn),some (.str wd),some (.int n),none,none,none]/\DeckAt H2 d c/\nA d c H H2) (λu v=>?_) ?_
  .refine⟨_,@oN _ _ 3 _ _ _ _ xP.nd rfl (Or.inl rfl) (@qC _ _ _ _ _ _ _ rC (@pU _ _ _ _ (@Fv _ [(2,_,_),(2,_,_),(2,_,_),(3,_,_),(1,_,_),(0,_,_),(0,_,_),(3,_,_),(3,_,_),(3,_,_)])) (qM GT hr rfl g.m g.k g.b .nil qA (hL (pv 0) (hL nW nI))) (λ_ _=>rfl)) (by rfl) (.inl rfl),?_⟩;refine⟨(by show 10<=sizeLine;decide),λp np=>⟨_,rfl,d,c,10,rfl,D1.new np,by decide,by decide,λr H2 a0 a1 D2 k2=>?_⟩⟩;have G:=D1.ned np;have h2:=k2 p _ hI G.1 G.2;obtain⟨j,rfl⟩:=cM a0;have hj:j<([2,2,2,3,1,0,0,3,3,3]:Aa Int).length:=by show j<10;omega
   have N:pA (([2,2,2,3,1,0,0,3,3,3]:Aa Int).map V.int) ((j:Nat):Int)=some (V.int ([2,2,2,3,1,0,0,3,3,3]:Aa Int)[j]):=wY (by rw[aU,aF hj];rfl);exact⟨p,_,_,_,rfl,rfl,eH.of h2,N,v _ _ ⟨_,rfl,D2,k1.trans ((nA.new np).trans k2)⟩⟩
  rintro M H2 ⟨n0,rfl,D2,k2⟩;refine tJ (λM H3=>∃ n:Nat,M=[some (.ref d),some (.ref kn),some (.str wd),some (.int n),none,none,none]/\ArOk wd n/\n<=3/\DeckAt H3 d c/\nA d c H H3) (λu v=>?_) ?_
  .refine⟨_,yX (vO Nu (pv 2) (@pU _ _ _ _ (@xD _ [("and",_,_),("or",_,_),("odd",_,_)])) rfl) (qE (@oN _ _ 3 _ _ _ _ xP.nd rfl (Or.inl rfl) (@qC _ _ _ _ _ _ _ rC (@pU _ _ _ _ (@Fv _ [(2,_,_),(3,_,_)])) (nV rB (pv 3) nW) (λ_ _=>rfl)) (by rfl) (.inl rfl))) (qE (@oN _ _ 3 _ _ _ _ xP.nd rfl (Or.inl rfl) (@qC _ _ _ _ _ _ _ rC (@pU _ _ _ _ (@Fv _ [(3,_,_),(1,_,_),(0,_,_),(0,_,_)])) (vI cC kU PySem.F.type_list_index U3 (@pU _ _ _ _ (@xD _ [("most",_,_),("not",_,_),("one",_,_),("nil",_,_)])) (hL (pv 2) nI)) (λ_ _=>rfl)) (by rfl) (.inl rfl))),?_⟩;refine⟨_,rfl,(by show 3<=sizeLine;decide),λp np=>⟨p,vU.map V.str,rfl,.inl (eH.of hI),rfl,Lr _,_,rfl,?_⟩⟩;have D3:=D2.new (o:=.l (vU.map V.str)) np;have k3:=k2.trans (nA.new (d:=d) (c:=c) (o:=.l (vU.map V.str)) np);rw[U0];refine zN (λhk=>?_) (λhk=>?_)
   .have U:wd∈vU:=eU hk;refine⟨(by show 2<=sizeLine;decide),λW L=>⟨_,rfl,_,_,rfl,rfl,(by show (0:Int)<2;decide),?_⟩⟩;have b0:=fB n0 (show (2:Int)≠0 by decide);have b1:=dY n0 (show (0:Int)<2 by decide);have C:=D3.new (o:=.l [V.int 2,V.int 3]) L;have J:=k3.trans (nA.new (d:=d) (c:=c) (o:=.l [V.int 2,V.int 3]) L);rcases (show n0%2=0\/n0%2=1 by omega) with e | e
    .exact⟨W,_,_,.int 2,rfl,rfl,eH.of hI,by rw[e];rfl,v _ _ ⟨2,rfl,⟨.inl ⟨U,.inl rfl⟩⟩,by decide,C,J⟩⟩
    .exact⟨W,_,_,.int 3,rfl,rfl,eH.of hI,by rw[e];rfl,v _ _ ⟨3,rfl,⟨.inl ⟨U,.inr rfl⟩⟩,by decide,C,J⟩⟩
   .have U:wd∉vU:=λz=>hk (cX z)
    obtain⟨j,n,hj,i1,i2,N,ho⟩:=CK (Wu hw U);refine⟨(by show 4<=sizeLine;decide),λW L=>⟨(by show 4<=sizeLine;decide),λp3 an=>⟨.inl ⟨rfl,_,eH.of hI⟩,_,rfl,?_⟩⟩⟩;have C:=(D3.new (o:=.l (xF.map V.int)) L).new (o:=.l (uQ.map V.str)) an;have J:=(k3.trans (nA.new (d:=d) (c:=c) (o:=.l (xF.map V.int)) L)).trans (nA.new (d:=d) (c:=c) (o:=.l (uQ.map V.str)) an);refine⟨p3,uQ.map V.str,.str wd,j,rfl,rfl,eH.of hI,Lr _,rfl,hj,i1,i2,?_⟩;have h2:upd (upd (upd H2 p (.l (vU.map V.str))) W (.l (xF.map V.int))) p3 (.l (uQ.map V.str)) W=some (.l (xF.map V.int)):=by rw[gV (nB hI an)];exact hI
    refine⟨W,xF.map V.int,_,.int n,rfl,rfl,eH.of h2,N,v _ _ ⟨n,rfl,ho,?_,C,J⟩⟩;rcases ho.ok with⟨_,q | q⟩ | ⟨_,q⟩ | ⟨_,q⟩ | ⟨_,q⟩ | ⟨_,q⟩<;>omega
  rintro M H3 ⟨n,rfl,ho,hn,D3,k3⟩;have ae:=k3 kn _ ag ab aa;refine tJ (λM H4=>∃ a:Nat,M=[some (.ref d),some (.ref kn),some (.str wd),some (.int n),none,none,none]/\0<B.length/\DeckAt H4 d c/\nA d c H H4) (λu v=>?_) ?_
  .refine⟨_,yX (vO (Ig hu) (pv 1) (pU nI) (wS _)) (qE (vJ (zV (hL (qC rC (pU (hL vC (hL vC nI))) (nV rB (pv 3) nW) (λ_ _=>rfl)) (hL (zV nI) nI))))) Av,?_⟩;refine⟨_,rfl,(by show 0<=sizeLine;decide),λp np=>?_⟩;have C:=D3.new (o:=.l []) np;have J:=k3.trans (nA.new (d:=d) (c:=c) (o:=.l []) np);have aq:upd H3 p (.l []) kn=some (.l (B.map V.str)):=by rw[gV (nB ae np)];exact ae
   refine⟨kn,p,_,rfl,rfl,eH.of aq,eH.of hI,_,rfl,?_⟩;refine zN (λhe=>?_) (λhe=>v _ _ ⟨0,rfl,?_,C,J⟩)
   .refine⟨(by show 2<=sizeLine;decide),λW L=>⟨_,rfl,_,_,rfl,rfl,(by show (0:Int)<2;decide),?_⟩⟩;have b0:=fB (n:Int) (show (2:Int)≠0 by decide);have b1:=dY (n:Int) (show (0:Int)<2 by decide);have D5:=C.new (o:=.l [V.str (Str.ofString "one"),V.str (Str.ofString "nil")]) L;have k5:=J.trans (nA.new (d:=d) (c:=c) (o:=.l [V.str (Str.ofString "one"),V.str (Str.ofString "nil")]) L);have fin:∀ w2:Af,ArOk w2 0->∀ q,upd (upd H3 p (.l [])) W (.l [V.str (Str.ofString "one"),V.str (Str.ofString "nil")]) q=none ->
      ∀ t,upd (upd (upd H3 p (.l [])) W (.l [V.str (Str.ofString "one"),V.str (Str.ofString "nil")])) q (.t []) t=none ->
      Q (.ref t) (upd (upd (upd (upd H3 p (.l [])) W (.l [V.str (Str.ofString "one"),V.str (Str.ofString "nil")])) q (.t [])) t (.t [.str w2,.ref q])):=by
     intro w2 aw q S t O;have D6:=D5.new (o:=.t []) S;have k6:=k5.trans (nA.new (d:=d) (c:=c) (o:=.t []) S);have Y:=D5.ned S;have Z:=D6.ned O;exact k t q w2 [] _ (k6.free Z.1 Z.2 O) (k5.free Y.1 Y.2 S) hI (by rw[gV (nB hI O)];exact hI) aw (λp hp=>nomatch hp) (D6.new O) (k6.trans (nA.new O))
    rcases (show (n:Int)%2=0\/(n:Int)%2=1 by omega) with e | e
    .refine⟨W,_,_,.str "one",rfl,rfl,eH.of hI,by rw[e];rfl,(by show 0<=sizeLine;decide),λq S=>⟨(by show 2<=sizeLine;decide),λt O=>?_⟩⟩;exact fin "one" ⟨.inr (.inr (.inr (.inl ⟨rfl,rfl⟩)))⟩ q S t O
    .refine⟨W,_,_,.str "nil",rfl,rfl,eH.of hI,by rw[e];rfl,(by show 0<=sizeLine;decide),λq S=>⟨(by show 2<=sizeLine;decide),λt O=>?_⟩⟩;exact fin "nil" ⟨.inr (.inr (.inr (.inr ⟨rfl,rfl⟩)))⟩ q S t O
   .cases B with
    | nil=>simp at he
    | cons a r=>simp
  rintro M H4 ⟨_,rfl,a3,C,J⟩;refine⟨_,pN (oN (i:=4) xP.nd rfl (Or.inl rfl) (pU nI)) (pN (vZ eC rfl (zJ rfl T.range (hL (pv 3) nI)) (uH (i:=5) xP.nd rfl (Or.inl rfl)) (pN (oN (i:=6) xP.nd rfl (Or.inl rfl) (qC rC (pU (hL (qM GT hr rfl g.m g.k g.b .nil qA (hL (pv 0) (hL (sJ vY (by rfl) T.len cF (hL (pv 1) nI)) nI))) (hL (nV Bb (nV Bb (sJ vY (by rfl) T.len cF (hL (pv 1) nI)) nW) (qM GT hr rfl g.m g.k g.b .nil qA (hL (pv 0) (hL (sJ (Ib rfl) (by rfl) T.min lH (hL nW (hL (sJ vY (by rfl) T.len cF (hL (pv 1) nI)) nI))) nI)))) nI))) (qM GT hr rfl g.m g.k g.b .nil qA (hL (pv 0) (hL nW nI))) (λ_ _=>rfl))) (qE (Ci (vI cC cZ dB wK (pv 4) (hL (qC rC (pv 1) (pv 6) (λ_ _=>rfl)) nI)))))) (qE (vJ (zV (hL (pv 2) (hL (zC Dj (by rfl) T.tuple eN (hL (pv 4) nI)) nI)))))),?_⟩;refine⟨(by show 0<=sizeLine;decide),λl nl=>?_⟩;have ak:=C.ned nl;have ao:H l=none:=J.free ak.1 ak.2 nl;have lk:l≠kn:=(nB ag ao).symm;refine⟨_,rfl,_,rfl,by omega,by omega,?_⟩;rw[cI];refine Ea (lo:=0) (n:=n) (λi M I=>∃ (R:Aa Af) (v5 v6:Ab V),M=[some (.ref d),some (.ref kn),some (.str wd),some (.int n),some (.ref l),v5,v6]/\R.length=i/\(∀ p∈R,p∈B)/\I l=some (.l (R.map V.str))/\DeckAt I d c/\nA d c H I)
   ⟨[],none,none,rfl,rfl,(λp hp=>nomatch hp),hI,C.new nl,J.trans (nA.new nl)⟩ ?_ ?_
  .rintro i M I hi ⟨R,v5,v6,rfl,ah,aj,h5,D5,k5⟩;have X:=k5 kn _ ag ab aa;have ai:(if ((B.map V.str).length:Int)<4 then ((B.map V.str).length:Int) else 4)=(if (B.length:Int)<4 then (B.length:Int) else 4):=by rw[aA]
   refine⟨_,rfl,_,rfl,kn,_,rfl,.inl (eH.of X),d,c,_,rfl,D5,by rw[aA];omega,by rw[aA];omega,λr1 H6 a0 a1 D6 k6=>?_⟩;have af:=k6 kn _ X ab aa;refine⟨_,rfl,kn,_,rfl,.inl (eH.of af),_,_,rfl,rfl,_,rfl,_,rfl,kn,_,rfl,.inl (eH.of af),_,_,rfl,d,c,_,rfl,D6,?_,?_,λr2 H7 b0 b1 D7 k7=>?_⟩
   .rw[ai];split<;>omega
   .rw[ai];split<;>omega
   have az:r2<B.length:=by
    rw[ai] at b1;split at b1<;>omega
   refine⟨_,_,rfl,rfl,(by show 2<=sizeLine;decide),λp np=>?_⟩;have D8:=D7.new (o:=.l [V.int r1,V.int (((B.map V.str).length:Int)-1-r2)]) np;refine⟨_,rfl,d,c,2,rfl,D8,by decide,by decide,λr3 H9 c0 c1 D9 k9=>?_⟩;have G:=D7.ned np;have h9:=k9 p _ hI G.1 G.2;have k8:nA d c I H9:=((k6.trans k7).trans (nA.new np)).trans k9;have ar:=k8 kn _ X ab aa;have ac:l≠d/\l≠c:=ak;have au:=k8 l _ h5 ac.1 ac.2;rw[aA] at a1;have fin:∀ a:Int,0<=a->a<B.length->∃ x,pA (B.map V.str) a=some (V.str x)/\x∈B:=λa g0 g1=>Es g0 g1
   have go:∀ a:Int,0<=a->a<B.length->pA [V.int r1,V.int (((B.map V.str).length:Int)-1-r2)] r3=some (V.int a)->Ei K (.ref p) (.int r3) H9 λx H1=>yN 6 x [some (.ref d),some (.ref kn),some (.str wd),some (.int n),some (.ref l),some (.int (0+i)),v6] H1 λay H' =>
     (Sr (I3 K "list" Iw (pY 4) (Cg (Bz (Ei K) (pY 1) (pY 6)) Fd))) { nx:=λM I=>∃ (R:Aa Af) (v5 v6:Ab V),M=[some (.ref d),some (.ref kn),some (.str wd),some (.int n),some (.ref l),v5,v6]/\R.length=i+1/\(∀ p∈R,p∈B)/\I l=some (.l (R.map V.str))/\DeckAt I d c/\nA d c H I,rt:=Q } ay H':=by
    intro a g0 g1 N;obtain⟨x,hx,hm⟩:=fin a g0 g1;refine⟨p,_,_,.int a,rfl,rfl,eH.of h9,N,_,rfl,.inl ⟨rfl,_,eH.of au⟩,_,rfl,_,rfl,kn,_,_,.str x,rfl,rfl,eH.of ar,hx,l,_,.str x,rfl,rfl,au,?_,R++[x],_,_,rfl,by simp[ah],?_,?_,D9.upd_other ac.1 ac.2,?_⟩
    .rw[aA];exact aW (show R.length<1000 by omega) (by decide)
    .intro y hy;rcases aQ.mp hy with q | q
     .exact aj y q
     .rw[aM.mp q];exact hm
    .rw[hI];simp
    .exact λb o e g1 g2=>by rw[gV (nB e ao)];exact (k5.trans k8) b o e g1 g2
   rcases (show r3=0\/r3=1 by omega) with e | e
   .exact go r1 a0 a1 (by rw[e];rfl)
   .exact go (((B.map V.str).length:Int)-1-r2) (by rw[aA];omega) (by rw[aA];omega) (by rw[e];rfl)
  .rintro M I ⟨R,v5,v6,rfl,ah,aj,h5,D5,k5⟩;refine⟨_,rfl,_,rfl,l,_,rfl,.inl ⟨eH.of h5,λq S=>⟨(by show 2<=sizeLine;decide),λt O=>?_⟩⟩⟩;have Y:=D5.ned S;have D6:=D5.new (o:=.t (R.map V.str)) S;have k6:=k5.trans (nA.new (d:=d) (c:=c) (o:=.t (R.map V.str)) S);have Z:=D6.ned O;exact k t q wd R _ (k6.free Z.1 Z.2 O) (k5.free Y.1 Y.2 S) hI (by rw[gV (nB hI O)];exact hI) (by rw[ah];exact ho) aj (D6.new O) (k6.trans (nA.new O))
end
structure Cel where
 ins:List Str
 gates:List (Str×Str×List Str)
 outs:List Str
def Cel.names (C:Cel):Aa Af:=C.ins++C.gates.map (·.1)
def P9 (H:Hp) (a:Ad) (g:Af×Af×Aa Af):Prop:=∃ q,H a=some (.t [.str g.1,.str g.2.1,.ref q])/\H q=some (.t (g.2.2.map V.str))
abbrev sR (H:Hp):Aa Ad->Aa (Af×Af×Aa Af)->Prop:=Paired (P9 H)
structure CellAt (H:Hp) (a:Addr) (C:Cel):Prop where
 ex:∃ (i g o:Addr) (as:List Addr),H a=some (.t [.ref i,.ref g,.ref o])/\H i=some (.t (C.ins.map V.str))/\H g=some (.t (as.map V.ref))/\H o=some (.t (C.outs.map V.str))/\sR H as C.gates
def oZ (H g:Hp):Prop:=∀ b a,H b=some (.t a)->g b=some (.t a)
theorem oZ.trans (a:oZ H g) (b:oZ g j):oZ H j:=λx c e=>b x c (a x c e)
theorem oZ.of_keep (D:DeckAt H d c) (k:nA d c H g):oZ H g:=λb a e=>by
 have:=D.ne_some e (λf z=>nomatch z);exact k b _ e this.1 this.2
theorem oZ.new (h:H p=none):oZ H (upd H p o):=λb a e=>by rw[gV (nB e h)];exact e
theorem oZ.lst {H:Hp}{p:Ad}{o:HO}{ys:Aa V}(h:H p=some (.l ys)):oZ H (upd H p o):=λb a e=>by rw[gV (yZ e h (λz=>nomatch z))];exact e
theorem sR.mono (t:oZ H j):∀ {as:Aa Ad}{g:Aa (Af×Af×Aa Af)},sR H as g->sR j as g
 | _,_,.nil=>.nil
 | _,_,.cons ⟨q,a,b⟩ r=>.cons ⟨q,t _ _ a,t _ _ b⟩ (sR.mono t r)
def uI:Aa Af->Aa (Af×Af×Aa Af)->Prop
 | _,[]=>True
 | kn,g::r=>ArOk g.2.1 g.2.2.length/\(∀ p∈g.2.2,p∈kn)/\uI (kn++[g.1]) r
theorem uI.snoc:∀ {j:Aa (Af×Af×Aa Af)}{kn:Aa Af}{g:Af×Af×Aa Af},uI kn j->ArOk g.2.1 g.2.2.length->(∀ p∈g.2.2,p∈kn++j.map (·.1))->uI kn (j++[g])
 | [],kn,g,_,b,c=>⟨b,by simpa using c,True.intro⟩
 | a::r,kn,g,h,b,c=>⟨h.1,h.2.1,uI.snoc h.2.2 b (by simpa using c)⟩
structure Good (C:Cel):Prop where
 nd:C.names.Nodup
 nm:∀ x∈C.names,GoodName x
 gt:uI C.ins C.gates
 os:∀ o∈C.outs,o∈C.names
 ond:C.outs.Nodup
 li:C.ins.length<=6
 lg:C.gates.length<=24
 lo:C.outs.length<=6
theorem Pl {F:l->o->Prop}:∀ {g:Aa l}{j:Aa o}{a:l}{b:o},Paired F g j->F a b->Paired F (g++[a]) (j++[b])
 | _,_,_,_,.nil,h=>.cons h .nil
 | _,_,_,_,.cons x r,h=>.cons x (Pl r h)
def Us:Sp:=λf H Q _=>∃ (d c:Ad) (a b:Nat),f=[.ref d,.int a,.int b]/\DeckAt H d c/\a<=6/\b<=24/\∀ (ce:Ad) (C:Cel) (e:Hp),H ce=none->CellAt e ce C->Good C->DeckAt e d c->nA d c H e->Q (.ref ce) e
def Uh:RD:=λa b e=>∃ (d c:Ad) (m:Int),a=[d,c]/\b=[.r (.ref d),.int m]/\0<m/\m<4611686018427387904/\∀ r:Nat,(r:Int)<m->e (.v (.int r))
theorem Tj (h:Dk [d,c] H):DeckAt H d c:=by
 rcases h with h | ⟨b,a,e,h⟩
 .cases h
 .cases e;exact h
theorem Rg (k:nA d c H g):Aq [d,c] H g:=λb o e n=>k b o e (λz=>n (by simp[z])) (λz=>n (by simp[z]))
section
variable {P:Ah}{K:mZ}
theorem Xe (F:FnOk P w K g base oQ k f fd j Ao):FnOk P w K g base oQ k f fd j (yH K Uh):=F.imp λN H Q E y=>by
 obtain⟨G,A,L,O,e,M,r,⟨d,c,m,s,t,u,v,h⟩,x⟩:=y;subst s t;cases r with
 | cons B r =>
  cases r with
  | cons D r =>
   cases r;have:=B.raw_inv;have:=D.int_inv;subst_vars;refine⟨d,c,m,rfl,Tj e,u,v,λr q a b i z=>?_⟩;obtain⟨n,rfl⟩:=cM a;exact x _ _ q (h n b) (Rg z) (.inr ⟨d,c,rfl,i⟩) (.int _)
end
theorem Uk (f:j->D) (g:Aa j) (k:Nat):wF (g.map f) (some (k:Int)) none=(g.drop k).map f:=by
 unfold wF;rw[aA,HT.sIx_nat,HT.sIx_none,List.map_drop,bJ (by simp)];by_cases h:k<=g.length
 .rw[jK h]
 .rw[mO (by omega),List.drop_eq_nil_of_le (by simp),List.drop_eq_nil_of_le (by simp;omega)]
noncomputable def G5 (g:Af×Af×Aa Af):D:=.t [.str g.1,.str g.2.1,.t (g.2.2.map D.str)]
def nH (C:Cel):D:=.t [.t (C.ins.map D.str),.t (C.gates.map G5),.t (C.outs.map D.str)]
theorem nG (I:Aa Sl->Prop) (o:∀ N:Aa Sl->Prop,(∀ g,I g->N g)->t l { j with nx:=N } r) (p:∀ g,I g->u l j g):F4 t u l j r:=o _ p
theorem qI (p:Aa D) (l:Aa Sl) (r:∀ J:Aa D->Aa Sl->Prop,J p l->ι I ρ J) (Pv:Nat->Aa Sl->Prop) (T:Pv 0 l)
  (U:∀ (i:Nat) d j,p[i]?=some d->Pv i j->g d j λC=>tb I { nx:=Pv (i+1),ct:=Pv (i+1),bk:=o.nx,rt:=o.rt } C) (hd:∀ j,Pv p.length j->o.nx j):Gr ι g tb I o ρ:=r _ ⟨Pv,T,U,hd⟩
theorem qP {j:Type}{f:j->D}{g:Aa j}{i:Nat}{d:D}(h:(g.map f)[i]?=some d):∃ y,g[i]?=some y/\f y=d:=by
 rw[aU] at h;cases e:g[i]? with
 | none=>rw[e] at h;cases h
 | some y=>rw[e] at h;exact⟨y,rfl,bR h⟩
theorem Nn {lo:Int}(h:(sM lo n)[i]?=some d):i<n/\d = .int (lo+i):=by
 unfold sM at h;rw[aU] at h;cases e:(List.range n)[i]? with
 | none=>rw[e] at h;cases h
 | some y =>
  rw[e] at h;obtain⟨a,b⟩:=aG.mp e;rw[bZ] at a;rw[List.getElem_range] at b;subst b;exact⟨a,(bR h).symm⟩
end Lw
namespace L2
open PySem PySem.Spec PyProof.Rows Lw
section
variable {X:Cx}{K:mZ}
def Jt (K:mZ) (neg:Bool):R2:=λx y H Q=>Cu neg x y H Q\/Ed K neg x y H Q
theorem sA (g:X.A.units+64<cLine):nR X (compareOp .Eq) (Jt X.K false):=(show nR X (compareOp .Eq) (Cu false) from Fh).or (Ig g)
theorem uE (g:X.A.units+64<cLine):nR X (compareOp .NotEq) (Jt X.K true):=(show nR X (compareOp .NotEq) (Cu true) from Q1).or (Oi g)
def Hh (neg:Bool):O2:=λd e a=>match d,e with
 | .int i,.int j=>a (.v (.b (nb neg (decide (i=j)))))
 | .str i,.str j=>a (.v (.b (nb neg (decide (i=j)))))
 | .b i,.b j=>a (.v (.b (nb neg (decide (i=j)))))
 | .e,.int _=>a (.v (.b (nb neg false)))
 | .l c,.l []=>a (.v (.b (nb neg c.isEmpty)))
 | _,_=>False
theorem pF (neg:Bool):pD K (Jt K neg) (Hh neg):=by
 intro B L H d e x y A Q hd h m f k;cases d<;>first | exact False.elim f | skip<;>cases e<;>first | exact False.elim f | skip
 .cases h;cases m
  rename_i j
  have c:decide (V.e=V.int j)=false:=by simp
  exact .inl ⟨rfl,by rw[c];exact k _ _ H f (hd.pushF (.b _))⟩
 .cases h;cases m
  rename_i i j
  have c:decide (V.b i=V.b j)=decide (i=j):=by simp
  exact .inl ⟨rfl,by rw[c];exact k _ _ H f (hd.pushF (.b _))⟩
 .cases h;cases m
  rename_i i j
  have c:decide (V.int i=V.int j)=decide (i=j):=by simp
  exact .inl ⟨rfl,by rw[c];exact k _ _ H f (hd.pushF (.b _))⟩
 .cases h;cases m
  rename_i i j
  have c:decide (V.str i=V.str j)=decide (i=j):=by simp
  exact .inl ⟨rfl,by rw[c];exact k _ _ H f (hd.pushF (.b _))⟩
 .rename_i v w
  cases w with
  | cons _ _=>exact False.elim f
  | nil =>
  obtain⟨a,n,rfl,q,t⟩:=h.lst_inv;obtain⟨b,z,rfl,s,u⟩:=m.lst_inv;cases u;have c:v.isEmpty=n.isEmpty:=by cases t<;>rfl
  refine .inr ⟨a,b,n,rfl,rfl,eH.of q,eH.of s,?_⟩;rw[<- c];exact k _ _ H f (hd.pushF (.b _))
end
def Pp:RM:=λx d H Q=>∃ (a b:Ad) (c more:Aa (hG×V)),x = .ref a/\d=[.ref b]/\a≠b/\H a=some (.k c)/\Rd H b (.k more)/\c.length+more.length<=1000/\Q .e (upd H a (.k (rF c more)))
section
variable {X:Cx}{K:mZ}
theorem Vr:yD X "dict.update" Pp:=by
 intro n s Z H x V v S Q I G E h;obtain⟨a,b,c,more,rfl,rfl,ne,m,B,O,q⟩:=h;cases G;obtain⟨u,rfl,D⟩:=qJ E;cases D;obtain⟨W,L,i,t,k⟩:=Lj I.hok m;obtain⟨Y,M,f,y,z⟩:=vF I.hok B;have P:c.length=i.length:=eP t;have R:more.length=f.length:=eP y;have d:i.length+f.length<=sizeLine:=bD (show _<=1000 by omega) (by decide);refine call_meetsIn F.slot_dict_update k.typeIs F.entry_dict_update (F.args_dict_update_2 _ _) (meets_dict_update (oB X.prog X.w) a b ne M) ⟨i,f,k,z,d,λA d1 _ sm=>?_⟩;have N:(rF c more).length<=sizeLine:=by
  have:=Fy more c;exact bD (show (rF c more).length<=1000 by omega) (by decide)
 have there:∃ o,A.get? a=some o:=let ⟨o,_,_,e,_⟩:=d1;⟨o,e⟩;exact⟨.e,_,Cs I (by rw[m];exact True.intro) sm there (Dl N L (y.merge t) d1),rfl,q⟩
def Zw:OW:=λc d f=>match c,d with
 | .k a,[.k b]=>a.length+b.length<=1000/\f .e (.k (sC a b))
 | _,_=>False
theorem MW:Df K Pp Zw:=by
 intro A H a c G L M Q w E rd f k;cases c<;>first | exact False.elim f | skip
 cases rd with
 | nil=>exact False.elim f
 | cons B rd =>
 rename_i d _ _ _
 cases d<;>first | exact False.elim f | skip
 cases rd with
 | cons _ _=>exact False.elim f
 | nil =>
 .obtain⟨i,h,e,r⟩:=E
  .obtain⟨b,m,rfl,s,q,n,D⟩:=B.dK_inv;have u:=cK List.length e;have v:=cK List.length n;simp only[aA] at u v;refine⟨a,b,i,m,rfl,rfl,λz=>w (z▸s),h,q,by have:=f.1;omega,k _ _ _ _ f.2 .e λF t=>?_⟩;obtain⟨x,y⟩:=Hq n D e r;exact⟨_,hI,x,y.mono t⟩
end
end L2
namespace PySem
open PyProof.Rows L2
section
variable {s:Ae}
theorem M0 (calm:A.handled=none) (l:∀ g e,(∀ b o,s.heap.get? b=some o->g.get? b=some o)->(∃ o,g.get? e=some o/\o.cls = .type "StopIteration")->E (.ref e) { s with heap:=g }) :
  wpAny (model j w) A (do raiseNew (<- newExc (.type "StopIteration") [])) Q E s:=by
 have mem:firstArgMember (.type "StopIteration") []=pure Value.none:=by first | rfl | (simp only[firstArgMember];rfl)
 have made:wpAny (model j w) A (newExc (.type "StopIteration") []) (λv c=>∃ e g,v = .ref e/\c={ s with heap:=g }/\(∀ b o,s.heap.get? b=some o->g.get? b=some o)/\∃ o,g.get? e=some o/\o.cls = .type "StopIteration") E s:=by
  unfold newExc newTuple;refine aB (eW ?_ (by size_fits));refine aB (jS mem ?_);exact eW ⟨_,_,rfl,rfl,λb o z=>aL _ (aL _ z),_,bC _ rfl,rfl⟩ (by size_fits)
 refine aB (cY made (λv c a=>?_) λ_ _ z=>z);obtain⟨e,g,f,d,k,t⟩:=a;subst f d;unfold raiseNew;refine aB (wpAny_handled ?_);rw[calm];exact aB (aD (wpAny_throw (l g e k t)))
theorem S8 (x:s.heap.IsTupleIter g t i):∃ o,s.heap.get? g=some o/\o.data = .fields #[.ref t,.int i 0]/\s.TypeIs (.ref g) "tuple_iterator" /\ o.cls = .type "tuple_iterator" := by
 obtain⟨o,a,b,c⟩:=x;exact⟨o,a,c,⟨o,a,b⟩,b⟩
theorem JT {h:Ag}{g t:Ad}{i:Nat}{o:Obj}(a:h.get? g=some o) (b:o.cls = .type "tuple_iterator") (c:o.data = .fields #[.ref t,.int i 0]):(h.update g (Obj.mapFields (·.setIfInBounds 1 (rawInt ((i:Int)+1))))).IsTupleIter g t (i+1):=by
 refine⟨_,hX _ a (Obj.isFreed_of_fields (kO c _)),?_,?_⟩
 .rw[Obj.cls_mapFields];exact b
 .rw[kO c];simp[rawInt]
end
structure RawD (h:Heap) (d:Addr) (o:Obj) (es:Array DictEntry) (ep:Nat):Prop where
 low:(d == sysModules)=false
 get:h.get? d=some o
 ex:o.ExactDict
 dat:o.data = .dict es ep
section
variable {s:Ae}
theorem RawD.ty (r:RawD s.heap d o j g):s.TypeIs (.ref d) "dict" := ⟨o,r.get,r.ex.1⟩
theorem Rm (r:RawD s.heap d o l j) (q:Q (.ref s.heap.objs.size) { s with heap:=s.heap.push { cls:=.type "dict_keyiterator",data:=.fields #[.ref d,.int 0 0,.int l.size 0,.int j 0] } }) :
  wpAny (model g w) A (pyIter (.ref d)) Q E s:=by
 have fresh:∀ h:Ag,h=s.heap.push { cls:=.type "dict_keyiterator",data:=.fields #[.ref d,rawInt 0,rawInt l.size,rawInt j] }->Shared.TypeIs { s with heap:=h } (.ref s.heap.objs.size) "dict_keyiterator" := λh e=>by
  subst e;exact⟨_,bC _ rfl,rfl⟩
 have body:wpAny (model g w) A.in1 (Builtin.«dict.__iter__» ⟨[.ref d],[]⟩) (λr c=>r = .done (.ret (.ref s.heap.objs.size))/\c={ s with heap:=s.heap.push { cls:=.type "dict_keyiterator",data:=.fields #[.ref d,rawInt 0,rawInt l.size,rawInt j] } }) E s:=by
  have self:wpAny (model g w) A.in1 (Builtin.Dict.dictSlotNone "__iter__" ⟨[.ref d],[]⟩) (λv c=>v = .ref d/\c=s) E s:=aB (jM r.ty (aD ⟨rfl,rfl⟩));refine aB (cY self (λv c a=>?_) λ_ _ z=>z);obtain⟨f,i⟩:=a;subst f i;have b:Builtin.Dict.showsAll d=pure ():=by unfold Builtin.Dict.showsAll;simp[r.low]
  refine aB (jS (show Builtin.Dict.addrOf (.ref d)=pure d from rfl) (aB (jS b ?_)));exact aB (jP r.get r.dat (aB (fU r.get r.dat (aB (eW (aD ⟨rfl,rfl⟩))))))
 refine wpAny_pyIter_slot r.ty F.slot_dict_iter (cJ F.slot_dict_iter r.ty F.entry_dict_iter (cY body (λv c a=>?_) λ_ _ z=>z) (F.args_dict_iter_1 _));obtain⟨f,i⟩:=a;subst f i;refine⟨_,rfl,"dict_keyiterator",_,fresh _ rfl,fC.lookup,?_⟩;exact q
theorem Qn (r:RawD s.heap d o j p) (I:s.heap.IsKeyIter g d i j.size p) (J:i<j.size) (q:∀ C,C.IsKeyIter g d (i+1) j.size p->Heap.SameBut g s.heap C->Q (some j[i].key) { s with heap:=C }) :
  wpAny (model l w) A (pyNext (.ref g)) Q E s:=by
 obtain⟨u,f,n,h⟩:=id I;have ty:s.TypeIs (.ref g) "dict_keyiterator" := ⟨u,f,n⟩;have plain:Builtin.Dict_items.ownsTuple "dict_keyiterator" = false:=by decide
 have c:∀ {E:Ac->Ae->Prop} {b:Ae} {k:Nat->Ae->Prop},b.TypeIs (.ref g) "dict_keyiterator" -> k 0 b->wpAny (model l w) A.in1 (do return if Builtin.Dict_items.ownsTuple (<- typeNameOfWhole (.ref g)) then 2 else 0) k E b:=λt z =>
  aB (wpAny_typeNameOfWhole_keyiter t (by rw[plain];exact aD z))
 let e:=s.heap.update g (Obj.mapFields (·.setIfInBounds 1 (rawInt ((i:Int)+1))));have m:e.IsKeyIter g d (i+1) j.size p:=by
  refine⟨_,hX _ f (Obj.isFreed_of_fields (kO h _)),?_,?_⟩
  .rw[Obj.cls_mapFields];exact n
  .rw[kO h];simp[rawInt]
 have body:wpAny (model l w) A.in1 (Builtin.«dict_keyiterator.__next__» ⟨[.ref g],[]⟩) (λx b=>x = .done (.ret j[i].key)/\b={ s with heap:=e }) (λ_ _=>False) s:=by
  refine aB (aD ?_);refine aB (aB (c ty ?_));refine aB (wpAny_fieldsOf f h ?_);have a:¬ ((Value.ref d == Value.none)=true):=bE;show wpAny _ _ (if (Value.ref d == Value.none)=true then _ else _) _ _ s;rw[aI a];refine aB (aD (aB (jP r.get r.dat ?_)));rw[aI (by simp)];refine aB (aD (aB (fU r.get r.dat ?_)));rw[aI (by simp)];refine aD ?_;have row:(if (i:Int)<0 then none else j[(i:Int).toNat]?)=some j[i]:=by
   rw[aI (by omega),cI,cV J]
  dsimp only;rw[row];refine aB (c ty ?_);refine aB (wpAny_isOneOf_keyiter ty ?_);change wpAny _ _ (setField (.ref g) 1 (rawInt ((i:Int)+1)) >>= _) _ _ s;refine aB (mC f h (by simp) ?_);refine aB (bY (aB (wpAny_isOneOf_keyiter (s:={ s with heap:=e }) m.typeIs ?_)));exact aD (aD ⟨rfl,rfl⟩)
 unfold pyNext;refine aB (fA (bX (name:=Str.ofString "__next__") ty fC (cJ fC ty F.entry_dict_keyiterator_next (cY body (λx b ⟨v,y⟩=>?_) λ_ _ z=>z.elim) (F.args_dict_keyiterator_next_1 _))));subst v y;exact⟨_,rfl,aD (q e m (eI ..))⟩
theorem Ro (calm:A.handled=none) (r:RawD s.heap d o p C) (I:s.heap.IsKeyIter l d p.size p.size C) (q:∀ g,Heap.ExtBut l s.heap g->Q none { s with heap:=g }) :
  wpAny (model j w) A (pyNext (.ref l)) Q E s:=by
 obtain⟨u,h,M,m⟩:=id I;have ty:s.TypeIs (.ref l) "dict_keyiterator" := ⟨u,h,M⟩;have plain:Builtin.Dict_items.ownsTuple "dict_keyiterator" = false:=by decide
 have f:∀ {n:Ac->Ae->Prop} {c:Ae} {i:Nat->Ae->Prop},c.TypeIs (.ref l) "dict_keyiterator" -> i 0 c->wpAny (model j w) A.in1 (do return if Builtin.Dict_items.ownsTuple (<- typeNameOfWhole (.ref l)) then 2 else 0) i n c:=λt z =>
  aB (wpAny_typeNameOfWhole_keyiter t (by rw[plain];exact aD z))
 have body:wpAny (model j w) A.in1 (Builtin.«dict_keyiterator.__next__» ⟨[.ref l],[]⟩) (λ_ _=>False) (λv c=>∃ e g,v = .ref e/\c={ s with heap:=g }/\Heap.ExtBut l s.heap g/\∃ o,g.get? e=some o/\o.cls = .type "StopIteration") s:=by
  refine aB (aD ?_);refine aB (aB (f ty ?_));refine aB (wpAny_fieldsOf h m ?_);have a:¬ ((Value.ref d == Value.none)=true):=bE;show wpAny _ _ (if (Value.ref d == Value.none)=true then _ else _) _ _ s;rw[aI a];refine aB (aD (aB (jP r.get r.dat ?_)));rw[aI (by simp)];refine aB (aD (aB (fU r.get r.dat ?_)));rw[aI (by simp)];refine aD ?_;have row:(if ((p.size:Nat):Int)<0 then none else p[((p.size:Nat):Int).toNat]?)=none:=by
   rw[aI (by omega),cI,jD (aR _)]
  dsimp only;rw[row];refine aB (f ty (aB (mC h m (by simp) ?_)));exact M0 calm λg e k z=>⟨e,g,rfl,rfl,λx o L K=>k x o ((eI ..).extBut x o L K),z⟩
 unfold pyNext;refine aB (fA (bX (name:=Str.ofString "__next__") ty fC (cJ fC ty F.entry_dict_keyiterator_next (cY body (λ_ _ z=>z.elim) λv c ⟨e,g,y,B,D,o,G,H⟩=>?_) (F.args_dict_keyiterator_next_1 _))));subst y B;exact aB (eF (T := "StopIteration") (b:=true) ⟨o,G,H⟩ mD (aD (q g D)))
end
end PySem
namespace L2
open PySem PySem.Spec PyProof.Rows Lw
def sE:HO->Ab (Aa MK)
 | .T a=>some (a.map λp=>Sum.inr p.1)
 | .dM a=>some (a.map (·.1))
 | .k a=>some (a.map λp=>Sum.inl p.1)
 | _=>none
def Kd:HO->Bool
 | .T _=>true
 | .dM _=>true
 | .k _=>true
 | .frz _ (.T _)=>true
 | .frz _ (.dM _)=>true
 | .frz _ (.k _)=>true
 | _=>false
structure Sw (H H':Hp) (a:Addr) (u:HO):Prop where
 out:∀ b,b≠a->H' b=H b
 k:(sE u).isSome=true
 l:Rd H a u
 r:Rd H' a u
section
theorem Sw.get (s:Sw H j a u) (h:H b=some g) (n:Kd g=false:=by rfl):j b=some g:=by
 have ne:b≠a:=λz=>by
  subst z;have k:=s.k;rcases s.l with q | ⟨o,q⟩<;>rw[q] at h<;>cases h<;>cases u<;>first | (cases n;done) | (cases k;done)
 rw[s.out b ne];exact h
theorem Sw.rd (s:Sw H g a u) (j:(sE x).isSome=true) (h:Rd H b x):Rd g b x:=by
 by_cases e:b=a
 .subst e;have:x=u:=by
   have k:=s.k;rcases h with h | ⟨o,h⟩<;>rcases s.l with q | ⟨c,q⟩<;>rw[q] at h<;>cases h<;>first | rfl | (cases j;done) | (cases k;done)
  rw[this];exact s.r
 .rcases h with h | ⟨o,h⟩
  .exact .inl (by rw[s.out b e];exact h)
  .exact .inr ⟨o,by rw[s.out b e];exact h⟩
theorem Sw.sqF {K:mZ}(s:Sw H g a u) (h:wE K H b j):wE K g b j:=by
 rcases h with⟨o,h⟩ | h
 .exact .inl ⟨o,s.get h⟩
 .exact .inr h
variable {K:mZ}
theorem Rep.sw (s:Sw H o a u) (g:∀ b,A b->j b) (h:Rep K A H d v):Rep K j o d v :=
 Rep.rec (motive_1:=λd v _=>Rep K j o d v) (motive_2:=λi m _=>Reps K j o i m) .e .b .int .str .r (λh _ r=>.t (s.get h) r) (λh _ r=>.con h r)
  (λf h _ r=>.l (g _ f) (s.get h) r) (λh _ r=>.c (s.sqF h) r) (λf h e _ r=>.k (g _ f) (s.rd rfl h) e r) (λf h e _ r=>.T (g _ f) (s.rd rfl h) e r) (λf h e _ r=>.dM (g _ f) (s.rd rfl h) e r) .nil (λ_ _ h r=>.cons h r) h
theorem Reps.sw (s:Sw H p a u) (C:∀ b,A b->o b) (h:Reps K A H j l):Reps K o p j l:=by
 induction j generalizing l with
 | nil=>cases h;exact .nil
 | cons d j c=>cases h with | cons g r=>exact .cons (g.sw s C) (c r)
theorem pJ.sw (s:Sw H o a u) (g:∀ b,A b->j b) (ne:b≠a) (h:pJ K A H b d):pJ K j o b d:=by
 cases d with
 | l _=>obtain⟨c,h,r⟩:=h;exact⟨c,by rw[s.out b ne];exact h,r.sw s g⟩
 | k _=>obtain⟨c,h,e,r⟩:=h;exact⟨c,by rw[s.out b ne];exact h,e,r.sw s g⟩
 | T _=>obtain⟨c,h,e,r⟩:=h;exact⟨c,by rw[s.out b ne];exact h,e,r.sw s g⟩
 | dM _=>obtain⟨c,h,e,r⟩:=h;exact⟨c,by rw[s.out b ne];exact h,e,r.sw s g⟩
 | _=>exact False.elim h
theorem sG.sw (s:Sw H l a u) (g:∀ b,A b->j b) (ne:∀ b,yT (x,y)=some b->b≠a) (h:sG K A H x y):sG K j l x y:=by
 cases x with
 | n=>trivial
 | v d=>obtain⟨v,e,r⟩:=h;exact⟨v,e,r.sw s g⟩
 | o d=>obtain⟨b,e,r⟩:=h;subst e;exact⟨b,rfl,r.sw s g (ne b rfl)⟩
noncomputable def pT (B:Bs) (a:Ad) (o:Obj) (u:HO):Bs:=⟨B.dk,λb=>B.A0 b\/b=a,λb=>if b=a then some (.frz o u) else B.H0 b⟩
theorem DS.fz (h:DS K B L H) (s:Sw H g a u) (hk:g a=some (.frz o u)) (al:Al B (dT L) a):DS K (pT B a o u) L g:=by
 refine⟨λb m e n=>?_,h.dk.keep λb c=>s.out b λz=>al.1 (z▸c),h.nd,λb c=>?_,λp d=>?_⟩
 .by_cases z:b=a
  .subst z;rw[show (pT B b o u).H0 b=some (.frz o u) from aP rfl] at e;rw[hk];exact e
  .rw[show (pT B a o u).H0 b=B.H0 b from aI z] at e;rw[s.out b z];exact h.fr b m e n
 .have z:b≠a:=λz=>al.2.1 (z▸c)
  rw[show (pT B a o u).H0 b=B.H0 b from aI z];exact h.new b c
 .refine (h.ok p d).sw s (λb ⟨f,i,k⟩=>⟨f,i,?_⟩) λb c z=>al.2.1 (tG.mpr ⟨p,d,z▸c⟩)
  by_cases z:b=a
  .exact .inl (.inr z)
  .refine k.elim (λq=>.inl (.inl q)) λq=>.inr ?_
   rw[show (pT B a o u).H0 b=B.H0 b from aI z];exact q
theorem DS.known (h:DS K (pT B a o u) L H) (g:a∉B.dk):H a=some (.frz o u):=h.fr a _ (aP rfl) g
theorem DS.th (h:DS K (pT B a o u) L H) (s:Sw H j a u) (C:a∉B.dk) (l:∀ g,B.H0 a=some g->j a=some g) (r:B.A0 a\/B.H0 a=none):DS K B L j:=by
 have f:∀ b∈dT L,b≠a:=λb c z=>by
  have:=(h.new b c).1;rw[z,show (pT B a o u).H0 a=some (.frz o u) from aP rfl] at this;cases this
 refine⟨λb g e n=>?_,h.dk.keep λb c=>s.out b λz=>C (z▸c),h.nd,λb c=>?_,λp d=>?_⟩
 .by_cases z:b=a
  .subst z;exact l g e
  .rw[s.out b z];exact h.fr b g (by rw[show (pT B a o u).H0 b=B.H0 b from aI z];exact e) n
 .have:=h.new b c;rw[show (pT B a o u).H0 b=B.H0 b from aI (f b c)] at this;exact this
 .refine (h.ok p d).sw s (λb ⟨i,k,m⟩=>⟨i,k,?_⟩) λb c z=>f b (tG.mpr ⟨p,d,c⟩) z
  by_cases z:b=a
  .rw[z];exact r
  .refine m.elim (λq=>.inl (q.resolve_right z)) λq=>.inr ?_
   rw[show (pT B a o u).H0 b=B.H0 b from aI z] at q;exact q
end
section
variable {X:Cx}
theorem Inv.swapped (I:Inv X j C H s) (sw:Sw H g a u) (r:∀ o u,X.H₀ a≠some (.frz o u)) (ok:oG X.prog X.w g s.heap a u->∀ v,g a=some v->oG X.prog X.w g s.heap a v):Inv X j C g s:=by
 have d:∀ b,H b=none->g b=none:=λb e=>by
  rw[sw.out b λz=>by subst z;rcases sw.l with q | ⟨o,q⟩<;>rw[q] at e<;>cases e];exact e
 have tup_at:∀ b h,H b=some (.t h)->g b=some (.t h):=λb h e=>sw.get e
 have f:∀ b y,H b=some (.o y)->g b=some (.o y):=λb h e=>sw.get e
 refine⟨I.ok,I.os,I.bare,⟨I.base.keep,I.base.slot,λb u e n x=>d b (I.base.free b u e n x),I.base.there,λb h e=>tup_at b h (I.base.tups b h e),λb i u e=>?_,λb m e=>?_⟩,I.loc,I.cell,d _ I.free,λx c e=>d c (I.freeC x c e),λp k=>?_,λb v e=>?_,I.len⟩
 .have ne:b≠a:=λz=>r i u (z▸e)
  rw[sw.out b ne];exact I.base.frzs b i u e
 .obtain⟨more,q⟩:=I.base.tbls b m e;exact⟨more,sw.get q⟩
 .obtain⟨A,B,D⟩:=I.pin p k;exact⟨A,d _ B,D⟩
 .by_cases z:b=a
  .subst z;have base:oG X.prog X.w H s.heap b u:=sw.l.ok I.hok;exact ok (base.stay (λ_ _ _ q=>q) (λc q=>f c _ q) tup_at) v e
  .rw[sw.out b z] at e;exact (I.hok b v e).stay (λ_ _ _ q=>q) (λc q=>f c _ q) tup_at
theorem Inv.no_frz (I:Inv X j o H s) (hk:(sE u).isSome=true) (l:H a=some u):∀ g v,X.H₀ a≠some (.frz g v):=λg v e=>by
 have:=I.base.frzs a g v e;rw[l] at this;cases this;cases hk
theorem Inv.frozen (I:Inv X g p H s) (hk:(sE u).isSome=true) (j:H a=some u) (l:s.heap.get? a=some o):Inv X g p (upd H a (.frz o u)) s:=by
 refine I.swapped ⟨λb n=>gV n,hk,.inl j,.inr ⟨o,hI⟩⟩ (I.no_frz hk j) λq v e=>?_
 rw[hI] at e;cases e;exact⟨l,q⟩
theorem Inv.thawed (I:Inv X g p H s) (hk:(sE u).isSome=true) (l:H a=some (.frz o u)) (j:∀ o u,X.H₀ a≠some (.frz o u)):Inv X g p (upd H a u) s:=by
 refine I.swapped ⟨λb n=>gV n,hk,.inr ⟨o,l⟩,.inl hI⟩ j λq v e=>?_
 rw[hI] at e;cases e;exact q
end
theorem W4 {P:Ah}(hk:(sE u).isSome=true) (ok:oG P w H h a u):∃ o,h.get? a=some o:=by
 cases u<;>first | (cases hk;done) | (obtain⟨_,_,_,_,o,_,_,e,_⟩:=ok;exact⟨o,e⟩)
def wM (a:Ad) (o:Obj) (u:HO) (g:Aa MK):It :=
 ⟨λi H=>H a=some (.frz o u)/\i<g.length,λi H x b=>b=H/\∃ k,g[i]?=some k/\tZ H k x,λi H=>H a=some (.frz o u)/\i=g.length⟩
theorem By {F:l->o->Prop}:∀ {g:Aa l}{j:Aa o}{i:Nat}{a:l},Paired F g j->g[i]?=some a->∃ b,j[i]?=some b/\F a b
 | _,_,_,_,.nil,h=>by simp at h
 | _,_,0,_,.cons x r,h=>by simp at h;subst h;exact⟨_,by simp,x⟩
 | _,_,i+1,a,.cons x r,h=>by
  obtain⟨b,c,d⟩:=By (i:=i) r (by simpa using h);exact⟨b,by simpa using c,d⟩
theorem IC (h:tS H k u):∃ y,tZ H k y/\nF y u:=by
 rcases k with k | c
 .exact⟨kV k,rfl,h⟩
 .obtain⟨b,rfl,a⟩:=h;exact⟨.ref b,⟨b,rfl,a⟩,rfl⟩
theorem Vw (h:sO k v=true):nF (kV k) v:=by
 rcases sX h with⟨i,t,rfl,rfl⟩ | ⟨x,t,rfl,rfl⟩
 .exact⟨t,rfl⟩
 .exact⟨t,rfl⟩
theorem IB {P:Ah}:∀ {g:Aa DictEntry}{j:Aa (hG×Ac)},Pairs (oB P w) g j->g.length=j.length/\∀ (i:Nat) e q,g[i]?=some e->j[i]?=some q->sO q.1 e.key=true/\e.val=q.2:=by
 intro g;induction g with
 | nil=>intro j h;cases h;exact⟨rfl,λi e q h=>by cases h⟩
 | cons a g m =>
  intro j h;cases h with
  | cons d f k =>
   obtain⟨n,s⟩:=m k;refine⟨cK (·+1) n,λi e q b c=>?_⟩;cases i with
   | zero=>cases b;cases c;exact⟨d,f⟩
   | succ i=>exact s i e q b c
theorem Lb {P:Ah}(ok:oO P w H h) (hk:sE u=some C) (p:H a=some (.frz o u)) :
  ∃ g l,RawD h a o g l/\g.size=C.length/\∀ (i:Nat) (j:i<g.size),∃ k,C[i]?=some k/\tS H k g[i].key:=by
 have m:∀ {g:Array DictEntry} {i:Nat} {e:DictEntry} (j:i<g.size),g.toList[i]?=some e->g[i]=e:=λ{g i e} j h=>by
  rw[dH,cV j] at h;exact bR h
 cases u with
 | T b =>
  cases hk;obtain⟨c,z,lo,B,r,E,g,l,d,n,s,f,_⟩:=(show oG P w H h a (.frz o (.T _)) from ok a _ p);rw[c] at d;cases d;have D:=eP r;have v:g.size=B.length:=by simpa using cK List.length f
  refine⟨g,l,⟨lo,c,n,s⟩,by rw[aA];omega,λi j=>?_⟩;obtain⟨q,t,x,y,K⟩:=By r (aF (show i<_ by omega));refine⟨_,by rw[aU,aF (show i<_ by omega)];rfl,?_⟩;rw[m j (by rw[f,aU,t];rfl)];exact⟨_,rfl,y⟩
 | k b =>
  cases hk;obtain⟨c,z,lo,L,r,E,g,l,d,n,s,f,F,_⟩:=(show oG P w H h a (.frz o (.k b)) from ok a _ p);rw[c] at d;cases d;have D:b.length=L.length:=eP r;obtain⟨v,A⟩:=IB F;rw[eT] at v;refine⟨g,l,⟨lo,c,n,s⟩,by rw[aA];omega,λi j=>?_⟩;have hk:i<b.length:=by omega
  obtain⟨q,t,x,_⟩:=By r (aF hk);obtain⟨G,_⟩:=A i g[i] q (by rw[dH,cV j]) t;refine⟨Sum.inl b[i].1,by rw[aU,aF hk];rfl,?_⟩;show nF (kV b[i].1) g[i].key;rw[x];exact Vw G
 | dM b =>
  cases hk;obtain⟨c,z,lo,B,r,E,g,l,d,n,s,f,_⟩:=(show oG P w H h a (.frz o (.dM _)) from ok a _ p);rw[c] at d;cases d;have D:=eP r;have v:g.size=B.length:=by simpa using cK List.length f
  refine⟨g,l,⟨lo,c,n,s⟩,by rw[aA];omega,λi j=>?_⟩;obtain⟨q,t,x,y,K⟩:=By r (aF (show i<_ by omega));refine⟨_,by rw[aU,aF (show i<_ by omega)];rfl,?_⟩;rw[m j (by rw[f,aU,t];rfl)];exact y
 | _=>cases hk
theorem LI {P:Ah}{K:mZ}(a j:Ad) (o:Obj) (hk:sE u=some p):Turn P w K tg (wM a o u p) [j] j (λi h=>∃ g,(∃ l,o.data = .dict l g)/\h.IsKeyIter j a i p.length g) where
 mem:=by simp
 obj:=λi h st b n=>by
  have e:b=j:=by simpa using n
  subst e;obtain⟨_,_,o,e,c,d⟩:=st;exact⟨o,e,λv z=>by rw[d] at z;cases z⟩
 keep:=λi h A ⟨g,q,o,e,r⟩ k=>⟨g,q,o,k j (by simp) o e,r⟩
 item:=by
  intro X O hw N V i m s W H E I B st R;subst O hw N;obtain⟨g,⟨D,t⟩,st⟩:=st;obtain⟨Q,S⟩:=R;obtain⟨l,f,raw,sz,rows⟩:=Lb I.hok hk Q;have:f=g:=by have:=raw.dat;rw[t] at this;cases this;rfl
  subst this;rw[<- sz] at st S;obtain⟨k,C,J⟩:=rows i S;obtain⟨y,T,U⟩:=IC J;obtain⟨F,f1,f2,G,L,M⟩:=B j (by simp);refine Qn raw st S λA x sb=>?_
  have Y:Inv X m W H { s with heap:=A }:=I.turned (t':=s.toks) (λb o n e=>(sb.2 b n).trans e) F f1 G L M;rw[sz] at x;obtain⟨oi,e,c,d⟩:=id x;exact⟨_,rfl,Cq (s:={ s with heap:=A }) e c d (by decide) ⟨y,H,Y,U,⟨rfl,k,C,T⟩,⟨f,⟨l,raw.dat⟩,x⟩,λb n=>(B b n).1⟩⟩
 done:=by
  intro X O hw N V i m s W H E I B st R;subst O hw N;obtain⟨g,⟨D,t⟩,st⟩:=st;obtain⟨Q,rfl⟩:=R;obtain⟨l,f,raw,sz,rows⟩:=Lb I.hok hk Q;have:f=g:=by have:=raw.dat;rw[t] at this;cases this;rfl
  subst this;rw[<- sz] at st;obtain⟨F,f1,f2,G,L,M⟩:=B j (by simp);exact Ro (I.ok.hd V) raw st λA Z=>⟨rfl,I.turned (t':=s.toks) (λb o n e=>Z b o n e) F f1 G L M⟩
 self:=λ_ _ _ _ _ ⟨_,_,st⟩ h=>wpAny_pyIter_keyiter st h
noncomputable def yQ:hG->D
 | .inl i=>.int i
 | .inr x=>.str x
theorem Lq {K:mZ}:∀ k:Aa hG,Reps K A H (k.map yQ) (k.map kV)
 | []=>.nil
 | .inl i::k=>.cons (.int i) (Lq k)
 | .inr x::k=>.cons (.str x) (Lq k)
def Km (g:Aa (Aa hG×D)):Aa D:=g.map λp=>.t (p.1.map yQ)
def gD:MK->D
 | .inl k=>yQ k
 | .inr a=>.t (a.map yQ)
theorem DZ {K:mZ}:∀ {k:MK}{y:V},tZ H k y->Rep K A H (gD k) y
 | .inl (.inl i),_,rfl=>.int i
 | .inl (.inr x),_,rfl=>.str x
 | .inr c,_,⟨b,rfl,a⟩=>.t a (Lq c)
def rG (g:Aa (MK×D)):Aa D:=g.map λp=>gD p.1
def Lc (g:Aa (hG×D)):Aa D:=g.map λp=>yQ p.1
def F1:D->Ab (Aa D)
 | .T a=>some (Km a)
 | .dM a=>some (rG a)
 | .k a=>some (Lc a)
 | _=>none
structure YS (K:mZ) (J:It) (ds:List D) (S:Hp->Prop):Prop where
 go:∀ i H,i<ds.length->S H->J.go i H
 yld:∀ i H x H',i<ds.length->S H->J.yld i H x H'->∃ d,ds[i]?=some d/\H'=H/\∀ A,Rep K A H d x
 stop:∀ i H,i=ds.length->S H->J.stop i H
def Dt (g:nN):vL:=λb f e=>g b f λr a=>match r with
 | .v d=>match F1 d with
  | some c=>e c a
  | none=>False
 | _=>False
def P5 (X:Cx) (g:TE):TI:=λe H R=>g e H λx b=>∃ a u c,sE u=some c/\x = .ref a/\((b a=some u/\∀ o,(∀ d u,X.H₀ a≠some (.frz d u))->R (wM a o u c) (upd b a (.frz o u)))\/∃ o,b a=some (.frz o u)/\R (wM a o u c) b)
section
variable {X:Cx}
theorem Ey (g:PE X l j):PI X p l (P5 X j):=by
 intro c s y H R I h;refine nD (g c s y H _ I h) λv i t=>?_
 obtain⟨x,G,k,F,a,u,w,hk,e,alt⟩:=t;subst e;cases F;have n:(sE u).isSome=true:=by rw[hk];rfl
 obtain⟨o,f,m,d,q⟩:∃ o f,Inv X c y f i/\f a=some (.frz o u)/\R (wM a o u w) f:=by
  rcases alt with⟨d,q⟩ | ⟨o,d,q⟩
  .obtain⟨o,E⟩:=W4 n (k.hok a _ d);exact⟨o,_,k.frozen n d E,hI,q o (k.no_frz n d)⟩
  .exact⟨o,_,k,d,q⟩
 obtain⟨A,z,raw,sz,_⟩:=Lb m.hok hk d;have B:∀ b∈[i.heap.objs.size],tH X c f b:=λb D=>by
  have e:b=i.heap.objs.size:=by simpa using D
  subst e;exact m.fpOk (aR _) (m.hok.fresh (aR _))
 refine Rm raw ⟨i.heap.objs.size,[i.heap.objs.size],_,wM a o u w,f,rfl,m.kept (t':=i.toks) λb K q=>aL _ q,LI a _ o hk,⟨z,⟨A,raw.dat⟩,?_⟩,B,q⟩;exact⟨_,bC _ rfl,rfl,by rw[sz];rfl⟩
def thawQ (X:Cx) (Q:Hp->Prop) (H:Hp):Prop:=Q H\/∃ a o u,(sE u).isSome=true/\H a=some (.frz o u)/\(∀ b u,X.H₀ a≠some (.frz b u))/\Q (upd H a u)
theorem Inv.thawQ (I:Inv X g l H s) (h:L2.thawQ X Q H):∃ j,Inv X g l j s/\Q j:=by
 rcases h with h | ⟨a,o,u,hk,c,b,h⟩
 .exact⟨H,I,h⟩
 .exact⟨_,I.thawed hk c b,h⟩
theorem IE (h:PE X e t):PE X e (λg H Q=>t g H λv=>thawQ X (Q v)):=λa s g H Q I q=>by
 refine nD (h a s g H _ I q) λv u b=>?_
 obtain⟨x,n,d,m,i⟩:=b;obtain⟨c,f,k⟩:=d.thawQ i;exact⟨x,c,f,m,k⟩
def Ends.thawQ (X:Cx) (D:Ends):Ends where
 nx:=λa=>L2.thawQ X (D.nx a)
 rt:=λv=>L2.thawQ X (D.rt v)
 bk:=λa=>L2.thawQ X (D.bk a)
 ct:=λa=>L2.thawQ X (D.ct a)
theorem Ja {st:Stmt}(h:PS X st t):PS X st (λD g H=>t (D.thawQ X) g H):=λi s g H D I q=>by
 refine nD (h i s g H _ I q) λf n q=>?_
 cases f with
 | next=>obtain⟨a,k,b,d⟩:=q;obtain⟨m,c,e⟩:=b.thawQ d;exact⟨a,_,c,e⟩
 | brk=>obtain⟨a,k,b,d⟩:=q;obtain⟨m,c,e⟩:=b.thawQ d;exact⟨a,_,c,e⟩
 | cont=>obtain⟨a,k,b,d⟩:=q;obtain⟨m,c,e⟩:=b.thawQ d;exact⟨a,_,c,e⟩
 | ret u=>obtain⟨v,a,k,b,r,d⟩:=q;obtain⟨m,c,e⟩:=b.thawQ d;exact⟨v,a,_,c,r,e⟩
theorem E2 {K:mZ}:YS K (wM a o u ks) (ks.map gD) λH=>H a=some (.frz o u):=by
 refine⟨λi H b c=>⟨c,by rw[aA] at b;exact b⟩,?_,λi H b c=>⟨c,by rw[b,aA]⟩⟩;rintro i H x f b c ⟨rfl,k,d,e⟩;exact⟨gD k,by rw[aU,d];rfl,rfl,λA=>DZ e⟩
theorem R8 {T:Aa Af}{j:Aa Nat}{g:vE}{tt:qV}{te:nN}{K:mZ}(aa:j.Nodup){σ:St}{H1:Hp}{Q:VK}{B:Bs}{C:Aa Sl}{Tm:oM}{Φ:Sl->Aa Sl->Prop}{J:It}{ds:Aa L2.D}{S:Hp->Prop}{D:Ad}(l1:C.length=σ.length) (d1:DS K B (C.zip σ++Tm) H1) (Y:YS K J ds S)
  (hS:∀ D,H1 D=none->∀ p L H,DS K (oD B D p) L H->S H)
  (ac:∃ Pv:Nat->Aa L2.D->Aa Sl->Prop,Pv 0 [] (pP j C) /\ (∀ i d p I,ds[i]?=some d->I.length=j.length->Pv i p I->g d (List.replicate T.length Sl.n++I) λae=>tt B.dk ae λb ab=>if b=true then te B.dk ab λr af=>match sd r with
    | some c=>p.length<100000/\Pv (i+1) (p++[c]) (af.drop T.length)
    | none=>False
    else Pv (i+1) p (ab.drop T.length)) /\
   ∀ p I,I.length=j.length->Pv ds.length p I->Φ (.o (.l p)) (qN j I C))
  (k:∀ r U v H',U.length=σ.length->DS K B (U.zip σ++(r,some v)::Tm) H'->Φ r U->Q v H') (hD:H1 D=none):A4 T j J (dG K T.length g) (sQ K tt) (dE K te) σ H1 Q D :=
 Ma aa l1 d1 (λi p q M H _ d=>⟨λa=>Y.go i H a (hS D hD _ _ _ d),λa=>Y.stop i H a (hS D hD _ _ _ d),λx f a y=>by obtain⟨h,e,rfl,m⟩:=Y.yld i H x f a (hS D hD _ _ _ d) y;exact⟨h,e,d.push (m _)⟩⟩) ac k hD
theorem DS.known2 {K:mZ}(d:DS K B (L++(.v c,some v)::T) H) (p:F1 c=some r) :
  ∃ a u l,v = .ref a/\sE u=some l/\r=l.map gD/\a∉B.dk /\
   ((H a=some u/\∀ o,DS K (pT B a o u) (L++T) (upd H a (.frz o u))/\∀ j g,DS K (pT B a o u) j g->DS K B j (upd g a u)) \/ ∃ o,H a=some (.frz o u)/\DS K (pT B a o u) (L++T) H/\∀ j g,DS K (pT B a o u) j g->DS K B j g):=by
 have hd:=d.drop;have rep:=d.valAt;obtain⟨a,u,l,rfl,al,rd,hk,q⟩:∃ a u l,v = .ref a/\Al B (dT (L++T)) a/\Rd H a u/\sE u=some l/\r=l.map gD:=by
  cases c with
  | T f =>
   cases p;obtain⟨a,s,rfl,al,rd,q,_⟩:=rep.dT_inv;refine⟨a,_,_,rfl,al,rd,rfl,?_⟩;have e:Km f=(f.map (·.1)).map λk=>D.t (k.map yQ):=by unfold Km;rw[List.map_map];rfl
   rw[e,q,bB,bB];rfl
  | k f =>
   cases p;obtain⟨a,s,rfl,al,rd,q,_⟩:=rep.dK_inv;refine⟨a,_,_,rfl,al,rd,rfl,?_⟩;have e:Lc f=(f.map (·.1)).map yQ:=by unfold Lc;rw[List.map_map];rfl
   rw[e,q,bB,bB];rfl
  | dM f =>
   cases p;obtain⟨a,s,rfl,al,rd,q,_⟩:=rep.dM_inv;refine⟨a,_,_,rfl,al,rd,rfl,?_⟩;have e:rG f=(f.map (·.1)).map gD:=by unfold rG;rw[List.map_map];rfl
   rw[e,q]
  | _=>cases p
 have h:=al.1;have x:(sE u).isSome=true:=by rw[hk];rfl
 refine⟨a,u,l,rfl,hk,q,h,?_⟩;rcases rd with i | ⟨w,i⟩
 .refine .inl ⟨i,λo=>⟨hd.fz (o:=o) ⟨λb n=>gV n,x,.inl i,.inr ⟨o,hI⟩⟩ hI al,λj g m=>m.th ⟨λb n=>gV n,x,.inr ⟨o,m.known h⟩,.inl hI⟩ h (λu e=>?_) al.2.2⟩⟩;have:=hd.fr a u e h;rw[i] at this;rw[hI];exact this
 .refine .inr ⟨w,i,hd.fz ⟨λ_ _=>rfl,x,.inr ⟨w,i⟩,.inr ⟨w,i⟩⟩ i al,λj g m=>m.th ⟨λ_ _=>rfl,x,.inr ⟨w,m.known h⟩,.inr ⟨w,m.known h⟩⟩ h (λu e=>?_) al.2.2⟩;have:=hd.fr a u e h;rw[i] at this;rw[m.known h];exact this
theorem Ov {K:mZ}{B:Bs}{a D:Ad}{o:Obj}{u:HO}{p:Aa V}{L:oM}{H g:Hp}(r:a∉B.dk) (j:g a=some (.frz o u)) (C:g D=none) (d:DS K (oD (pT B a o u) D p) L H):H a=some (.frz o u):=by
 have ne:a≠D:=λz=>by rw[z,C] at j;cases j
 refine d.fr a _ ?_ r;show (if a=D then some (.l p) else if a=a then some (HO.frz o u) else B.H0 a)=_;rw[aI ne,aP rfl]
theorem Pu (l:j.Nodup) (h:dE X.K (yI T.length j (Dt C) g I p) J H Q) :
  Cf T j (P5 X (dE X.K C)) (dG X.K T.length g) (sQ X.K I) (dE X.K p) J H λv=>thawQ X (Q v):=by
 obtain⟨B,M,Tm,R,y,hd,E,k⟩:=h;refine⟨B,M,Tm,_,y,hd,E,λr N v O s d1 b=>?_⟩;cases r<;>first | exact False.elim b | skip
 rename_i d
 dsimp only at b;cases n:F1 d with
 | none=>rw[n] at b;exact False.elim b
 | some P =>
  rw[n] at b;obtain⟨a,u,F,rfl,hk,rfl,m,alt⟩:=d1.known2 n;have A:(sE u).isSome=true:=by rw[hk];rfl
  refine⟨a,u,F,hk,rfl,?_⟩;rcases alt with⟨f,x⟩ | ⟨o,f,d2,back⟩
  .refine .inl ⟨f,λo w D c=>?_⟩;obtain⟨d2,back⟩:=x o;exact R8 (B:=pT B a o u) l s d2 E2 (λD c G L H d=>Ov m hI c d) b (λr e v t q i z=>.inr ⟨a,o,u,A,i.known m,w,k r e v _ q (back _ _ i) z⟩) c
  .refine .inr ⟨o,f,λD c=>?_⟩;exact R8 (B:=pT B a o u) l s d2 E2 (λD c G L H d=>Ov m f c d) b (λr e v t q i z=>.inl (k r e v _ q (back _ _ i) z)) c
theorem IV {iter:Expr}(T o:Aa Af) (r:Aa Nat) (hc:X.calm=true) (hi:PD X iter ti)
  (hk:j.kind = .function) (ho:Bq X.N X.env.kindOf j T o r=true)
  (hg:∀ p l C cl I,wX (rN X (T++o) j cl C p l I) T.length tg g)
  (ht:∀ p l C cl I,uY (rN X (T++o) j cl C p l I) aa (sQ X.K tt))
  (he:∀ p l C cl I,PD (rN X (T++o) j cl C p l I) U te)
  (J:r.Nodup:=by decide) (hs:∀ x,foldedSetIterable iter X.env x=pure x:=by intro _;rfl):PD X (.ListComp U [⟨tg,iter,aa,0⟩] j pos) (yI T.length r (Dt ti) g tt te) :=
 (IE (Bo T o r hc (Ey hi) hk ho hg ht he hs)).mono λ_ _ _ h=>Pu J h
theorem N3 {iter:Expr}(hp:PassesOwn (model X.prog X.w) X.A X.env X.xe) (j:X.calm=true) (hi:PD X iter ti) (hg:wX X m tg g) (hb:uV X body tb)
  (p:∀ x,foldedSetIterable iter X.env x=pure x:=by intro _;rfl):tL X (.For tg iter body [] pos) (Gr (Dt ti) g tb) :=
 (Ja (vZ hp j (Ey hi) hg hb p)).mono λDn Z H ab=>ab.elim λB ρ T De hl hd ht C=>by
  refine⟨B,ρ,T,_,hl,hd,ht,λr S v H1 l1 d1 P=>?_⟩;cases r<;>first | exact False.elim P | skip
  rename_i c
  dsimp only at P;cases j:F1 c with
  | none=>rw[j] at P;exact False.elim P
  | some kd =>
   rw[j] at P;obtain⟨Pv,p0,step,fin⟩:=P;obtain⟨a,u,E,rfl,hk,rfl,U,alt⟩:=d1.known2 j;have p:(sE u).isSome=true:=by rw[hk];rfl
   have Y:∀ o,_:=λo=>E2 (K:=X.K) (a:=a) (o:=o) (u:=u) (ks:=E)
   have G:∀ (o:Obj) (q:Ends) (F:Hp),DS X.K (pT B a o u) (S.zip Z++T) F->(∀ (e:Aa Sl) (b:St) (f:Hp),e.length=b.length->b.length=Z.length->DS X.K (pT B a o u) (e.zip b++T) f->De.nx e->q.nx b f) ->
     (∀ (r:Sl) (v:V) (e:Aa Sl) (b:St) (f:Hp),e.length=b.length->DS X.K (pT B a o u) (e.zip b++(r,some v)::T) f->De.rt r->q.rt v f) ->
     ∃ W:Nat->Nat->St->Hp->Prop,(∃ m,W 0 m Z F)/\∀ i n b f,W i n b f->((wM a o u E).stop i f/\q.nx b f)\/((wM a o u E).go i f/\∃ N:St->Hp->Prop,(∀ L t,N L t->∃ m',m'<n/\W (i+1) m' L t)/\∀ x t,(wM a o u E).yld i f x t->dG X.K m g x b t λk H3=>dS X.K tb { nx:=N,ct:=N,bk:=q.nx,rt:=q.rt } k H3):=λo q F d0 R ac=>by
    refine⟨λi m b f=>m=(E.map gD).length-i/\i<=(E.map gD).length/\∃ e,e.length=b.length/\b.length=Z.length/\DS X.K (pT B a o u) (e.zip b++T) f/\Pv i e,⟨_,rfl,cE _,S,l1,rfl,d0,p0⟩,?_⟩;rintro i m b f ⟨rfl,ae,e,m1,m2,J,pv⟩;have hk:=J.known U;by_cases M:i<(E.map gD).length
    .refine .inr ⟨(Y o).go i f M hk,λk F=>∃ h,h.length=k.length/\k.length=Z.length/\DS X.K (pT B a o u) (h.zip k++T) F/\Pv (i+1) h,λk F ⟨h,q1,q2,q3,q4⟩=>⟨_,(by omega:(E.map gD).length-(i+1)<_),rfl,M,h,q1,q2,q3,q4⟩,λx F y=>?_⟩;obtain⟨d,aa,rfl,rx⟩:=(Y o).yld i f x F M hk y;refine⟨pT B a o u,e,T,d,_,m1,J.push (rx _),step i d e aa pv,λh k H3 n1 n2 _ d3 q3=>⟨pT B a o u,h,T,_,n1,d3,q3,?_,?_⟩⟩
     .intro D O I s l Q;exact⟨λz=>⟨D,s,by omega,Q,z⟩,λz=>R D O I s (by omega) Q z,λz=>⟨D,s,by omega,Q,z⟩⟩
     .exact λr v D O I s Q z=>ac r v D O I s Q z
    .have ei:i=(E.map gD).length:=by omega
     subst ei;exact .inl ⟨(Y o).stop _ f rfl hk,R e b f m1 m2 J (fin e pv)⟩
   refine⟨a,u,E,hk,rfl,?_⟩;rcases alt with⟨ha,hh⟩ | ⟨o,ha,d2,back⟩
   .refine .inl ⟨ha,λo h0=>?_⟩;obtain⟨d2,back⟩:=hh o;exact G o _ _ d2 (λe b f s l d z=>.inr ⟨a,o,u,p,d.known U,h0,(C.1 e b _ s l (back _ _ d)).1 z⟩) λr v e b f s d z=>.inr ⟨a,o,u,p,d.known U,h0,C.2 r v e b _ s (back _ _ d) z⟩
   .exact .inr ⟨o,ha,G o _ _ d2 (λe b f s l d z=>.inl ((C.1 e b _ s l (back _ _ d)).1 z)) λr v e b f s d z=>.inl (C.2 r v e b _ s (back _ _ d) z)⟩
end
end L2
namespace PySem
open PyProof.Rows L2
section
theorem LL (I:s.heap.IsTupleIter j t i) (T:s.heap.IsTuple t C) (J:C[i]?=some x) (q:∀ g,g.IsTupleIter j t (i+1)->Heap.SameBut j s.heap g->Q x { s with heap:=g }) :
  wpAny (model l w) A (Builtin.SmallTypes.nextOf (.ref j)) Q E s:=by
 obtain⟨o,a,c,ty,b⟩:=S8 I;obtain⟨p,m,v,n,u⟩:=id T;have body:wpAny (model l w) A.in1 (Builtin.«tuple_iterator.__next__» ⟨[.ref j],[]⟩) (λr d=>∃ g,r = .done (.ret x)/\d={ s with heap:=g }/\g.IsTupleIter j t (i+1)/\Heap.SameBut j s.heap g) E s:=by
  show wpAny _ _ (field (.ref j) 0 >>= _) _ _ s;refine aB (eK a c (x:=.ref t) rfl ?_);refine (show wpAny _ _ (field (.ref j) 1 >>= _) _ _ s from aB (eK a c (x:=.int i 0) rfl (aB (gH m u ?_))));simp only[cI,J];exact aB (mC a c (by simp) (aD ⟨_,rfl,rfl,JT a b c,eI ..⟩))
 unfold Builtin.SmallTypes.nextOf;refine aB (bX (name:=Str.ofString "__next__") ty gZ (cJ gZ ty F.entry_tuple_iterator_next (cY body (λr d ⟨g,e,f,h,k⟩=>?_) λ_ _ z=>z) (F.args_tuple_iterator_next_1 _)));subst e f;exact⟨x,rfl,aD (q g h k)⟩
theorem FX (calm:A.handled=none) (I:s.heap.IsTupleIter j t i) (T:s.heap.IsTuple t C) (r:C[i]?=none)
  (q:∀ g e,Heap.ExtBut j s.heap g->(∃ o,g.get? e=some o/\o.cls = .type "StopIteration")->E (.ref e) { s with heap:=g }):wpAny (model l w) A (Builtin.SmallTypes.nextOf (.ref j)) Q E s:=by
 obtain⟨o,a,c,ty,b⟩:=S8 I;obtain⟨p,f,m,n,h⟩:=id T;have body:wpAny (model l w) A.in1 (Builtin.«tuple_iterator.__next__» ⟨[.ref j],[]⟩) (λ_ _=>False) E s:=by
  show wpAny _ _ (field (.ref j) 0 >>= _) _ _ s;refine aB (eK a c (x:=.ref t) rfl ?_);refine (show wpAny _ _ (field (.ref j) 1 >>= _) _ _ s from aB (eK a c (x:=.int i 0) rfl (aB (gH f h ?_))));simp only[cI,r];refine aB (gP (aB (mC a c (by simp) ?_)));exact M0 calm λg e k z=>q g e (λx o d r=>k x o ((eI ..).extBut x o d r)) z
 unfold Builtin.SmallTypes.nextOf;exact aB (bX (name:=Str.ofString "__next__") ty gZ (cJ gZ ty F.entry_tuple_iterator_next (cY body (λ_ _ z=>z.elim) λ_ _ z=>z) (F.args_tuple_iterator_next_1 _)))
abbrev vR (h:Ag) (z TI TO:Ad) (x:Ac) (f:Bool):Prop:=h.get? z=some { cls:=.type "zip",dict:=none,data:=.fields #[x,.bool f,.bool false,.ref TI,.ref TO],slots:=#[] }
def E9 (z TI TO:Ad) (f:Bool) (E:Ac->Ae->Prop):Ac->Ae->Prop:=λe a=>vR a.heap z TI TO .ellipsis f/\∀ b,Heap.SameBut z a.heap b->E e { a with heap:=b }
theorem Oc {z TI TO:Ad}{a b p q:Ac}{x0:Ac}{f:Bool}{Q:Ac->Ae->Prop}(J:vR s.heap z TI TO x0 f) (free:wpAny (model g w) A (Builtin.SmallTypes.ownedTupleIsFree (.ref z)) (λx l=>x=true/\l=s) E s) (aa:IsPair s.heap TI a b)
  (go:∀ C,vR C z TI TO .ellipsis f->Heap.SameBut z s.heap C->wpAny (model g w) A (Builtin.SmallTypes.nextOf a) (λx T=>IsPair T.heap TO p q/\∀ I,IsPair I TO x q->Heap.SameBut TO T.heap I ->wpAny (model g w) A (Builtin.SmallTypes.nextOf b) (λy U=>IsPair U.heap TO x q/\∀ j,IsPair j TO x y->Heap.SameBut TO U.heap j->vR j z TI TO .ellipsis f /\ ∀ r,IsZip r z TI TO (rawInt j.objs.size)->IsPair r j.objs.size x y->r.objs.size=j.objs.size+1->(∀ c o,c≠z->j.get? c=some o->r.get? c=some o)->Q (.ref j.objs.size) { U with heap:=r }) (E9 z TI TO f E) { T with heap:=I }) (E9 z TI TO f E) { s with heap:=C }) :
  wpAny (model g w) A (Builtin.«zip.__next__» ⟨[.ref z],[]⟩) (λfin l=>∃ v,fin = .done (.ret v)/\Q v l) E s:=by
 have back:∀ {k:Type} {m:Sem k} {R:k->Ae->Prop} {l:Ae},wpAny (model g w) A m R (E9 z TI TO f E) l->wpAny (model g w) A (m.onRaise λ_=>setField (.ref z) 0 .none) R E l:=λ{k m R l} h =>
  wpAny_onRaise (cY h (λ_ _ z=>z) λe Z ⟨d,L⟩=>jE d (by simp) λr _ P=>L r P)
 unfold Builtin.«zip.__next__»;refine aB (aD (aB (eK J rfl (x:=.bool false) rfl (aB (eK J rfl (x:=.ref TI) rfl (aB (gH aa rfl ?_)))))));refine aB (nD free ?_);rintro _ l ⟨rfl,rfl⟩;simp only[gW];refine aB (gP (aB (eK J rfl (x:=.ref TO) rfl (aB (jE J (by simp) λC S d=>?_)))));simp only[List.zipIdx_cons,List.zipIdx_nil,lR,List.forIn_nil,bind_assoc];refine aB (back (aB (nD (go C S d) λx T ⟨D,g2⟩=>aD ?_)));refine aB (aB (gH D rfl (aB (wpAny_updateSeq_pair D λI O M=>aB (wpAny_letGo (aD ?_))))));refine aB (aB (back (aB (nD (g2 I O M) λy U ⟨F,K⟩=>aD ?_))));refine aB (aB (gH F rfl (aB (wpAny_updateSeq_pair F λj G N=>aB (wpAny_letGo (aD (aD ?_)))))));obtain⟨H,fin⟩:=K j G N;have i:z<j.objs.size:=aT H;refine aB (gH G rfl (aB (wpAny_newTuple ?_ (hsz:=(show 2<=sizeLine by decide)))));have V:vR (j.push (seqObj "tuple" #[x,y] 0)) z TI TO .ellipsis f:=aL _ H;refine aB (show wpAny _ _ (setField (.ref z) 0 (rawInt j.objs.size) >>= λ_=>setField (.ref z) 1 (.bool false)) _ _ _ from aB (jE V (by simp) λY W u=>jE W (by simp) λt X B=>?_));have up:∀ c o,c≠z->(j.push (seqObj "tuple" #[x,y] 0)).get? c=some o->t.get? c=some o:=λc o n e=>B.extBut _ _ n (u.extBut _ _ n e)
 refine aD ⟨_,rfl,fin t X (up _ _ (fO i) (bC _ rfl)) (by rw[B.1,u.1,eA]) λc o n e=>up c o n (aL _ e)⟩
theorem Gj {TI TO:Ad}(j:IsZip s.heap z TI TO .none):wpAny (model g w) A (Builtin.SmallTypes.ownedTupleIsFree (.ref z)) (λx l=>x=true/\l=s) E s:=aB (eK j rfl (x:=.none) rfl (aD ⟨rfl,rfl⟩))
end
def Dh (a b:Ac):Obj:={ cls:=.type "tuple",data:=.seq #[a,b] }
def Nb (a b:Ad):Obj:={ cls:=.type "zip",data:=.fields #[.none,.bool false,.bool false,.ref a,.ref b] }
end PySem
namespace L2
open PySem PySem.Spec PyProof.Rows Lw
section
variable {X:Cx}{K:mZ}
def vo (i:Nat):nN:=λ_ a b=>match a[i]? with
 | some (.o d)=>b (.o d) (a.set i .n)
 | _=>False
theorem wI (i:Nat) (h:PE X (.Name x pos) (pY i)):PD X (.Name x pos) (vo i):=h.mono λG H Q q=>q.elim λB E T F m hd c k=>by
 unfold vo at c;cases f:E[i]? with
 | none=>rw[f] at c;exact False.elim c
 | some s =>
 rw[f] at c;cases s<;>first | exact False.elim c | skip
 .rename_i d
  obtain⟨a,y,b,t,_,z,e⟩:=vB m f;have u:=e .n y;rw[zS t] at u;obtain⟨v,w,_⟩:=hd.peek m (d:=d) (i:=i) (by unfold at?;rw[f];rfl);rw[t] at w;cases w;refine⟨v,t,k _ _ v H (by rw[aY];exact m) ?_ c⟩;rw[z,bI,cS] at hd;rw[u,bI,cS];have d1:DS X.K B ((.o d,some v)::(a++(b++T))) H:=hd.perm iT;have d2:DS X.K B (((.o d,some v)::a)++(Sl.n,some v)::(b++T)) H:=DS.pushN (L1:=(.o d,some v)::a) (L2:=b++T) d1 (some v);refine d2.perm ?_;have A:(((Sl.o d,some v)::a)++(Sl.n,some v)::(b++T)).Perm ((Sl.o d,some v)::(a++(Sl.n,some v)::b++T)):=by simp
  refine A.trans ?_;have D:((Sl.o d,some v)::(a++(Sl.n,some v)::b++T)).Perm ((a++(Sl.n,some v)::b)++(Sl.o d,some v)::T):=iT.symm;refine D.trans (by simp)
end
end L2
namespace PySem
open PyProof.Rows L2
def oE (b:Bool) (h:Ag) (g t:Ad) (i:Nat):Prop:=match b with
 | true=>h.IsTupleIter g t i
 | false=>h.IsListIter g t i
def oI (b:Bool) (h:Ag) (a:Ad) (g:Array Ac):Prop:=match b with
 | true=>h.IsTuple a g
 | false=>h.IsList a g
theorem pX (x:oE b h g t i) (k:∀ o,h.get? g=some o->j.get? g=some o):oE b j g t i:=by
 cases b
 .exact let ⟨o,e,r⟩:=(show h.IsListIter g t i from x);⟨o,k o e,r⟩
 .exact let ⟨o,e,r⟩:=(show h.IsTupleIter g t i from x);⟨o,k o e,r⟩
theorem qY (x:oI b h a g) (k:∀ o,h.get? a=some o->j.get? a=some o):oI b j a g:=by
 cases b
 .exact let ⟨o,e,r⟩:=(show h.IsList a g from x);⟨o,k o e,r⟩
 .exact let ⟨o,e,r⟩:=(show h.IsTuple a g from x);⟨o,k o e,r⟩
theorem yB (x:oE b h g t i):∃ o,h.get? g=some o:=by
 cases b
 .exact let ⟨o,e,_⟩:=(show h.IsListIter g t i from x);⟨o,e⟩
 .exact let ⟨o,e,_⟩:=(show h.IsTupleIter g t i from x);⟨o,e⟩
theorem xE (x:oI b h a g):∃ o,h.get? a=some o:=by
 cases b
 .exact let ⟨o,e,_⟩:=(show h.IsList a g from x);⟨o,e⟩
 .exact let ⟨o,e,_⟩:=(show h.IsTuple a g from x);⟨o,e⟩
section
theorem A2 (I:oE b s.heap j t i) (T:oI b s.heap t l) (o:l[i]?=some x) (q:∀ g,oE b g j t (i+1)->Heap.SameBut j s.heap g->Q x { s with heap:=g }) :
  wpAny (model p w) A (Builtin.SmallTypes.nextOf (.ref j)) Q E s:=by
 cases b
 .exact wpAny_nextOf_list_item I T o q
 .exact LL I T o q
theorem G9 (calm:A.handled=none) (I:oE b s.heap p t i) (T:oI b s.heap t j) (l:j[i]?=none)
  (q:∀ g e,Heap.ExtBut p s.heap g->(∃ o,g.get? e=some o/\o.cls = .type "StopIteration")->E (.ref e) { s with heap:=g }):wpAny (model r w) A (Builtin.SmallTypes.nextOf (.ref p)) Q E s:=by
 cases b
 .exact wpAny_nextOf_list_end calm I T l q
 .exact FX calm I T l q
theorem Iy {J T:Bool}{z TI TO j l C I:Ad}{k1 k2:Nat}{xs ys:Array Ac}{x y a b:Ac}{x0:Ac}{f:Bool}{Q:Ab Ac->Ae->Prop}(D:ZipApart z TI TO j l C I) (hz:vR s.heap z TI TO x0 f) (free:∀ (A:Around) (E:Ac->Ae->Prop),wpAny (model r w) A (Builtin.SmallTypes.ownedTupleIsFree (.ref z)) (λx s'=>x=true/\s'=s) E s) (U:IsPair s.heap TI (.ref j) (.ref l)) (aa:IsPair s.heap TO a b)
  (h1:oE J s.heap j C k1) (h2:oE T s.heap l I k2) (ab:oI J s.heap C xs) (ac:oI T s.heap I ys) (hx:xs[k1]?=some x) (hy:ys[k2]?=some y)
  (ae:∀ g,IsZip g z TI TO (rawInt s.heap.objs.size)->IsPair g TO x y->oE J g j C (k1+1)->oE T g l I (k2+1)->IsPair g s.heap.objs.size x y->g.objs.size=s.heap.objs.size+1 ->(∀ c o,c≠z->c≠TO->c≠j->c≠l->s.heap.get? c=some o->g.get? c=some o)->Q (some (.ref s.heap.objs.size)) { s with heap:=g }):wpAny (model r w) A (pyNext (.ref z)) Q E s:=by
 have ty:s.TypeIs (.ref z) "zip" := ⟨_,hz,rfl⟩;unfold pyNext;refine aB (fA (bX (name:=Str.ofString "__next__") ty dO (cJ dO ty iX (Oc (p:=a) (q:=b) hz (free _ _) U λg1 Z h=>?_) (iJ _))));have d:∀ c o,c≠z->s.heap.get? c=some o->g1.get? c=some o:=λc o n e=>h.extBut _ _ n e
 refine A2 (pX h1 λo e=>d _ o D.i1z e) (qY ab λo e=>d _ o D.l1z e) hx λg2 V i=>?_
 have k:∀ c o,c≠j->g1.get? c=some o->g2.get? c=some o:=λc o n e=>i.extBut _ _ n e
 refine⟨k _ _ D.TOi1 (d _ _ D.TOz aa),λg3 X K=>?_⟩;have m:∀ c o,c≠TO->g2.get? c=some o->g3.get? c=some o:=λc o n e=>K.extBut _ _ n e
 refine A2 (pX h2 λo e=>m _ o D.TOi2.symm (k _ o D.i12.symm (d _ o D.i2z e))) (qY ac λo e=>m _ o D.l2TO (k _ o D.l2i1 (d _ o D.l2z e))) hy λG W L=>?_
 have u:∀ c o,c≠l->g3.get? c=some o->G.get? c=some o:=λc o n e=>L.extBut _ _ n e
 refine⟨u _ _ D.TOi2 X,λH Y M=>?_⟩;have v:∀ c o,c≠TO->G.get? c=some o->H.get? c=some o:=λc o n e=>M.extBut _ _ n e
 have sz:H.objs.size=s.heap.objs.size:=by rw[M.1,L.1,K.1,i.1,h.1]
 refine⟨v _ _ D.TOz.symm (u _ _ D.i2z.symm (m _ _ D.TOz.symm (k _ _ D.i1z.symm Z))),λg N O P t=>?_⟩;rw[sz] at N O P |-;refine aD (ae g N (t _ _ D.TOz Y) (pX V λo e=>t _ o D.i1z (v _ o D.TOi1.symm (u _ o D.i12 (m _ o D.TOi1.symm e)))) (pX W λo e=>t _ o D.i2z (v _ o D.TOi2.symm e)) O P λc o B F R S e=>?_);exact t c o B (v c o F (u c o S (m c o F (k c o R (d c o B e)))))
theorem Ky {b1 r:Bool}{z TI TO l J l1 l2:Ad}{k1 k2:Nat}{xs ys:Array Ac}{a b:Ac}{x0:Ac}{f:Bool}{Q:Ab Ac->Ae->Prop}(calm:A.handled=none) (D:ZipApart z TI TO l J l1 l2) (hz:vR s.heap z TI TO x0 f) (free:∀ (A:Around) (E:Ac->Ae->Prop),wpAny (model j w) A (Builtin.SmallTypes.ownedTupleIsFree (.ref z)) (λx s'=>x=true/\s'=s) E s) (aa:IsPair s.heap TI (.ref l) (.ref J)) (ab:IsPair s.heap TO a b)
  (h1:oE b1 s.heap l l1 k1) (h2:oE r s.heap J l2 k2) (I:oI b1 s.heap l1 xs) (ac:oI r s.heap l2 ys) (C:xs[k1]?=none\/ys[k2]?=none)
  (ae:∀ U,(∀ c o,c≠z->c≠TO->c≠l->c≠J->s.heap.get? c=some o->U.get? c=some o)->Q none { s with heap:=U }):wpAny (model j w) A (pyNext (.ref z)) Q E s:=by
 have ty:s.TypeIs (.ref z) "zip" := ⟨_,hz,rfl⟩;have h:∀ (g:Ag) (e:Ad),(∀ c o,c≠z->c≠TO->c≠l->c≠J->s.heap.get? c=some o->g.get? c=some o)->(∃ o,g.get? e=some o/\o.cls = .type "StopIteration")->vR g z TI TO .ellipsis f ->
   E9 z TI TO f (λe s'=>wpAny (model j w) A (do if <- isInstance e (.type "StopIteration") then pure none else throw e) Q E s') (.ref e) { s with heap:=g }:=λg e k ⟨o,K,M⟩ P=>by
  refine⟨P,λU N=>?_⟩;have ne:e≠z:=λq=>by
   rw[q,P] at K;cases K;injection M with y;exact absurd y (by decide)
  exact aB (eF (T := "StopIteration") (b:=true) ⟨o,N.extBut _ _ ne K,M⟩ mD (aD (ae U λc o i B m F q=>N.extBut _ _ i (k c o i B m F q))))
 unfold pyNext;refine aB (fA (bX (name:=Str.ofString "__next__") ty dO (cJ dO ty iX (Oc (p:=a) (q:=b) hz (free _ _) aa λg1 O G=>?_) (iJ _))));have d:∀ c o,c≠z->s.heap.get? c=some o->g1.get? c=some o:=λc o n e=>G.extBut _ _ n e
 rcases Option.eq_none_or_eq_some xs[k1]? with t | ⟨x,t⟩
 .exact G9 calm (pX h1 λo e=>d _ o D.i1z e) (qY I λo e=>d _ o D.l1z e) t λg2 e r W=>h g2 e (λc o i _ m _ q=>r c o m (d c o i q)) W (r _ _ D.i1z.symm O)
 .refine A2 (pX h1 λo e=>d _ o D.i1z e) (qY I λo e=>d _ o D.l1z e) t λg2 Y H=>?_
  have u:∀ c o,c≠l->g1.get? c=some o->g2.get? c=some o:=λc o n e=>H.extBut _ _ n e
  refine⟨u _ _ D.TOi1 (d _ _ D.TOz ab),λg3 Z V=>?_⟩;have v:∀ c o,c≠TO->g2.get? c=some o->g3.get? c=some o:=λc o n e=>V.extBut _ _ n e
  have R:ys[k2]?=none:=C.elim (λn=>by rw[n] at t;cases t) id;exact G9 calm (pX h2 λo e=>v _ o D.TOi2.symm (u _ o D.i12.symm (d _ o D.i2z e))) (qY ac λo e=>v _ o D.l2TO (u _ o D.l2i1 (d _ o D.l2z e))) R λS e L X=>h S e (λc o i B m F q=>L c o F (v c o B (u c o m (d c o i q)))) X (L _ _ D.i2z.symm (v _ _ D.TOz.symm (u _ _ D.i1z.symm O)))
end
section
theorem Mj {I J:Bool}{z TI TO T j l r C:Ad}{U k2:Nat}{f:Bool}{oT:Obj}{xs ys:Array Ac}{x y:Ac}{Q:Ac->Ae->Prop}(D:ZipApart z TI TO j l r C)
  (hz:wJ s.heap z TI TO T f) (hT:s.heap.get? T=some oT) (aa:IsPair s.heap TI (.ref j) (.ref l))
  (h1:oE I s.heap j r U) (h2:oE J s.heap l C k2) (ab:oI I s.heap r xs) (ac:oI J s.heap C ys) (hx:xs[U]?=some x) (hy:ys[k2]?=some y)
  (hQ:∀ g,wJ g z TI TO T true->oE I g j r (U+1)->oE J g l C (k2+1)->IsPair g s.heap.objs.size x y->g.objs.size=s.heap.objs.size+1 ->(∀ c o,c≠z->c≠j->c≠l->s.heap.get? c=some o->g.get? c=some o)->Q (.ref s.heap.objs.size) { s with heap:=g }) :
  wpAny (model ae w) A (Builtin.«zip.__next__» ⟨[.ref z],[]⟩) (λfin s'=>∃ v,fin = .done (.ret v)/\Q v s') E s:=by
 refine Qf hz hT aa λd K m=>?_
 have up1:∀ c o,c≠z->s.heap.get? c=some o->d.get? c=some o:=λc o n e=>m.extBut _ _ n e
 have there:oE I d j r U/\oE J d l C k2/\oI I d r xs/\oI J d C ys:=⟨pX h1 λo e=>up1 _ o D.i1z e,pX h2 λo e=>up1 _ o D.i2z e,qY ab λo e=>up1 _ o D.l1z e,qY ac λo e=>up1 _ o D.l2z e⟩;refine A2 there.1 there.2.2.1 hx λk G q=>?_
 have a:∀ c o,c≠j->d.get? c=some o->k.get? c=some o:=λc o n e=>q.extBut _ _ n e
 refine A2 (pX there.2.1 λo e=>a _ o D.i12.symm e) (qY there.2.2.2 λo e=>a _ o D.l2i1 e) hy λh H t=>?_
 have b:∀ c o,c≠l->k.get? c=some o->h.get? c=some o:=λc o n e=>t.extBut _ _ n e
 have i:h.objs.size=s.heap.objs.size:=t.1.trans (q.1.trans m.1);have more:∀ {c:Ad} {o p:Obj},h.get? c=some o->(h.push p).get? c=some o:=λe=>aL _ e
 refine wpAny_newTuple ⟨_,rfl,?_⟩ (hsz:=(show 2<=sizeLine by decide));have last:=hQ (h.push (seqObj "tuple" #[x,y] 0)) (more (b _ _ D.i2z.symm (a _ _ D.i1z.symm K))) (pX G λo e=>more (b _ o D.i12 e)) (pX H λo e=>more e) (i▸bC _ rfl) ((eA ..).trans (by rw[i]))
  λc o u B F e=>more (b _ _ F (a _ _ B (up1 _ _ u e)))
 rw[<- i] at last;exact last
theorem Ux {TI TO:Ad}(hh:A.handled=none) (D:ZipApart z TI TO j U l l2)
  (hz:wJ s.heap z TI TO T f) (hT:s.heap.get? T=some oT) (C:IsPair s.heap TI (.ref j) (.ref U))
  (h1:oE p s.heap j l k1) (h2:oE b2 s.heap U l2 k2) (I:oI p s.heap l xs) (J:oI b2 s.heap l2 ys) (g:xs[k1]?=none\/ys[k2]?=none)
  (hE:∀ r e,(∀ c o,c≠z->c≠j->c≠U->s.heap.get? c=some o->r.get? c=some o)->(∃ o,r.get? e=some o/\o.cls = .type "StopIteration")->E (.ref e) { s with heap:=r }) :
  wpAny (model aa w) A (Builtin.«zip.__next__» ⟨[.ref z],[]⟩) Q E s:=by
 refine Qf hz hT C λi M F=>?_
 have up1:∀ c o,c≠z->s.heap.get? c=some o->i.get? c=some o:=λc o n e=>F.extBut _ _ n e
 have there:oE p i j l k1/\oI p i l xs:=⟨pX h1 λo e=>up1 _ o D.i1z e,qY I λo e=>up1 _ o D.l1z e⟩;rcases Option.eq_none_or_eq_some xs[k1]? with b | ⟨x,b⟩
 .exact G9 hh there.1 there.2 b λk e t H=>hE k e (λc o d h _ q=>t c o h (up1 c o d q)) H
 .refine A2 there.1 there.2 b λk L G=>?_
  have a:∀ c o,c≠z->c≠j->s.heap.get? c=some o->k.get? c=some o:=λc o n m e=>G.extBut _ _ m (up1 c o n e)
  have y:ys[k2]?=none:=g.elim (λn=>by rw[n] at b;cases b) id;exact G9 hh (pX h2 λo e=>a _ o D.i2z D.i12.symm e) (qY J λo e=>a _ o D.l2z D.l2i1 e) y λB e u K=>hE B e (λc o d h v q=>u c o v (a c o d h q)) K
theorem V0 {TI TO:Ad}(D:ZipApart z TI TO r C U l2)
  (j:Ck s.heap z TI TO r C) (I:oE b1 s.heap r U k) (J:oE b2 s.heap C l2 k) (l:oI b1 s.heap U xs) (p:oI b2 s.heap l2 ys) (hx:xs[k]?=some x) (hy:ys[k]?=some y)
  (hQ:∀ g,Ck g z TI TO r C->oE b1 g r U (k+1)->oE b2 g C l2 (k+1)->IsPair g s.heap.objs.size x y->g.objs.size=s.heap.objs.size+1 ->(∀ c o,c≠z->c≠TO->c≠r->c≠C->s.heap.get? c=some o->g.get? c=some o)->Q (some (.ref s.heap.objs.size)) { s with heap:=g }) :
  wpAny (model aa w) A (pyNext (.ref z)) Q E s:=by
 obtain⟨d,⟨a,b,i⟩,j⟩:=j;obtain⟨V,P⟩:=yB I;obtain⟨W,R⟩:=yB J;have q:∀ {c o},s.heap.get? c=some o->s.heap.objs.size≠c:=λe=>(bH (aT e)).symm
 rcases j with j | ⟨T,f,o,j,F,G,S,H,K⟩
 .refine Iy D j (λ_ _=>Gj j) d i I J l p hx hy λg t L u v n B h=>?_
  exact hQ g ⟨h _ _ D.TIz D.TITO D.TIi1 D.TIi2 d,⟨_,_,L⟩,.inr ⟨_,false,_,t,n,q j,q i,q P,q R⟩⟩ u v n B h
 .have m:s.TypeIs (.ref z) "zip" := ⟨_,j,rfl⟩;unfold pyNext;refine aB (fA (bX (name:=Str.ofString "__next__") m dO (cJ dO m iX (Mj D j F d I J l p hx hy λg t u v n B h=>aD ?_) (iJ _))));exact hQ g ⟨h _ _ D.TIz D.TIi1 D.TIi2 d,⟨_,_,h _ _ D.TOz D.TOi1 D.TOi2 i⟩,.inr ⟨T,true,_,t,h _ _ G H K F,G,S,H,K⟩⟩ u v n B λc o M _ N O e=>h c o M N O e
theorem FV {TI TO:Ad}(hh:A.handled=none) (D:ZipApart z TI TO C I l1 l2)
  (g:Ck s.heap z TI TO C I) (J:oE b1 s.heap C l1 k) (U:oE b2 s.heap I l2 k) (l:oI b1 s.heap l1 xs) (p:oI b2 s.heap l2 ys) (j:xs[k]?=none\/ys[k]?=none)
  (hQ:∀ r,(∀ c o,c≠z->c≠TO->c≠C->c≠I->s.heap.get? c=some o->r.get? c=some o)->Q none { s with heap:=r }):wpAny (model aa w) A (pyNext (.ref z)) Q E s:=by
 obtain⟨d,⟨a,b,i⟩,g⟩:=g;rcases g with g | ⟨T,f,o,g,t,y,B,F,G⟩
 .exact Ky hh D g (λ_ _=>Gj g) d i J U l p j hQ
 .have h:s.TypeIs (.ref z) "zip" := ⟨_,g,rfl⟩;unfold pyNext;refine aB (fA (bX (name:=Str.ofString "__next__") h dO (cJ dO h iX (Ux hh D g t d J U l p j λr e hk v=>?_) (iJ _))));obtain⟨o,x,u⟩:=v;refine aB (eF (T := "StopIteration") (b:=true) ⟨o,x,u⟩ mD ?_);exact aD (hQ _ λc o m _ n q e=>hk c o m n q e)
end
section
variable {K:Type} [DecidableEq K] {knd:KeyKind prog w K}{A:Around}{R:Result->Ae->Prop}
theorem FR {TI TO:Ad}(hh:A.handled=none) (D:ZipApart z TI TO l p I J) (hd:d∉[z,TI,TO,l,p,I,J]) (more:Aa (K×Ac)) (hn:more.length=min U.size ys.size) (j:more.length<=sizeLine)
  (hT:∀ (i:Nat) x y,U[i]?=some x->ys[i]?=some y->∃ k,knd.is k x=true/\more[i]?=some (k,y)) (h0:Ag) :
  ∀ (m i:Nat) (s:Ae),more.length-i=m->i<=more.length->Ck s.heap z TI TO l p->oE r s.heap l I i->oE C s.heap p J i->oI r s.heap I U->oI C s.heap J ys->(∀ b o,b∉[z,TO,l,p,d]->h0.get? b=some o->s.heap.get? b=some o)->s.heap.DictOf knd d (merged [] (more.take i)) ->
   (∀ g tk,(∀ b o,b∉[z,TO,l,p,d]->h0.get? b=some o->g.get? b=some o)->g.DictOf knd d (merged [] more)->R (.ok (.ret .none)) { s with heap:=g,toks:=tk }) ->
   codeAny (model prog w) A (.builtin "dict.update.loop" ⟨[.ref d,.ref z,.int (i:Int) 0,.none],[]⟩) R s:=by
 simp only[aH,bA,dP,mK] at hd;obtain⟨d1,d2,S,V,W,d6,d7⟩:=hd;have na:∀ {b:Ad},b∉[z,TO,l,p,d]->b≠z/\b≠TO/\b≠l/\b≠p/\b≠d:=λj=>by
  simpa only [aH,bA,dP,mK] using j
 intro m;induction m with
 | zero =>
  intro i s hm hi hz Z h2 c h kp H hR;have ei:i=more.length:=by omega
  subst ei;rw[bJ (aR _)] at H;refine iF F2 ?_;rw[gF xN _];show wpAny _ A.in1 (pyNext (.ref z) >>= _) _ _ s;refine aB (FV (by simpa using hh) D hz Z h2 c h ?_ λg B=>?_)
  .rcases Nat.le_total U.size ys.size with q | q
   .exact .inl (jD (by omega))
   .exact .inr (jD (by omega))
  .show wpAny _ A.in1 (Builtin.Dict.addKeywords d [] >>= _) _ _ _;refine aB (aD ?_);obtain⟨o,F,E,u,rest⟩:=H;exact aD (hR g _ (λb o j e=>let ⟨r,C,P,Q,b5⟩:=na j;B b o r C P Q (kp b o j e)) ⟨o,F,E,B d _ d1 S V W u,rest⟩)
 | succ m ih =>
  intro i s hm hi hz Z h2 c h kp H hR;have ab:i<more.length:=by omega
  obtain⟨x,hx⟩:∃ x,U[i]?=some x:=⟨_,cV (by omega)⟩;obtain⟨y,hy⟩:∃ y,ys[i]?=some y:=⟨_,cV (by omega)⟩;obtain⟨ky,N,t⟩:=hT i x y hx hy;refine iF F2 ?_;rw[gF xN _];show wpAny _ A.in1 (pyNext (.ref z) >>= _) _ _ s;refine aB (V0 D hz Z h2 c h hx hy λg z' ac ae pr sz B=>?_);have aa:g.DictOf knd d (merged [] (more.take i)):=by
   obtain⟨o,F,E,u,rest⟩:=H;exact⟨o,F,E,B d _ d1 S V W u,rest⟩
  have af:oI r g I U:=qY c λo e=>B I o D.l1z D.l1TO D.l1i1 D.l1i2 e
  have ag:oI C g J ys:=qY h λo e=>B J o D.l2z D.l2TO D.l2i1 D.l2i2 e
  have pd:s.heap.objs.size≠d:=by
   obtain⟨o,F,E,u,rest⟩:=H;exact (bH (aT u)).symm
  show wpAny _ A.in1 (holding [Value.ref s.heap.objs.size] _ >>= _) _ _ _;refine aB (bY ?_);refine aB (wpAny_tryCatch ?_);unfold Builtin.Dict.pairItems;refine aB (gX (T := "tuple") ⟨_,pr,rfl⟩ ?_);rw[aP (by decide)];refine aB (gH pr rfl ?_);refine aD ?_;show wpAny _ A.in1 (holding [x,y] (dictSet d x y)) _ _ _;refine bY ?_;have v:(merged [] (more.take i)).length<=sizeLine:=by
   have X:=merged_length_le ([]:Aa (K×Ac)) (more.take i);rw[jJ,bO] at X;omega
  refine wpAny_dictSet_pairs (hsz:=v) N aa λG n sb=>?_
  rw[<- merged_take_succ [] more i (ky,y) t] at n;refine aD ⟨lM xN _,?_⟩;have X:(rawInt ((i:Int)+1))=Value.int ((i+1:Nat):Int) 0:=by rfl
  rw[X];have up:∀ b o,b≠d->g.get? b=some o->G.get? b=some o:=λb o j e=>by rw[sb.2 b j];exact e
  have zz:Ck G z TI TO l p:=by
   obtain⟨p1,⟨a,b,p2⟩,p3⟩:=z';refine⟨up _ _ (eV d2) p1,⟨a,b,up _ _ (eV S) p2⟩,?_⟩;rcases p3 with p3 | ⟨T,f,o,q1,q2,q3,q4,q5,q6⟩
   .exact .inl (up _ _ (eV d1) p3)
   .by_cases M:T=d
    .subst M;obtain⟨o',F,E,u,rest⟩:=n;exact .inr ⟨T,f,_,up _ _ (eV d1) q1,u,q3,q4,q5,q6⟩
    .exact .inr ⟨T,f,o,up _ _ (eV d1) q1,up _ _ M q2,q3,q4,q5,q6⟩
  refine ih (i+1) _ (by omega) ab zz (pX ac λo e=>up _ o (eV V) e) (pX ae λo e=>up _ o (eV W) e) (qY af λo e=>up _ o (eV d6) e) (qY ag λo e=>up _ o (eV d7) e) (λb o j e=>?_) n λY tk O L=>hR Y tk O L
  obtain⟨r,C,P,Q,b5⟩:=na j;exact up b o b5 (B b o r C P Q (kp b o j e))
theorem JY {TI TO:Ad}(hh:A.handled=none) (D:ZipApart z TI TO U i2 l1 l2)
  (T:IsZip s.heap z TI TO .none) (l:IsPair s.heap TI (.ref U) (.ref i2)) (C:IsPair s.heap TO .none .none) (h1:oE b1 s.heap U l1 0) (h2:oE b2 s.heap i2 l2 0) (I:oI b1 s.heap l1 xs) (J:oI b2 s.heap l2 ys)
  (hn:more.length=min xs.size ys.size) (g:more.length<=sizeLine) (hT:∀ (i:Nat) x y,xs[i]?=some x->ys[i]?=some y->∃ k,knd.is k x=true/\more[i]?=some (k,y))
  (h:∀ (j:Ag) (tk:Nat),j.DictOf knd s.heap.objs.size (merged [] more)->(∀ b o,b∉[z,TO,U,i2]->s.heap.get? b=some o->j.get? b=some o)->Q (.ref s.heap.objs.size) { s with heap:=j,toks:=tk }) :
  wpAny (model prog w) A (call (.type "dict") [.ref z]) Q E s:=by
 let d:=s.heap.objs.size;have made:(zH s).heap.DictOf knd d []:=Heap.DictOf.new s.heap;have old:∀ b o,s.heap.get? b=some o->(zH s).heap.get? b=some o:=λb o e=>aL _ e
 refine callType_codes F.kt_called_dict (F.kt_typeCall_dict_1 _) F.entry_dict_init (kt_code_dict_new _ (Q₁:=λv m=>v = .ref d/\m=zH s) ⟨rfl,rfl⟩) λv m q=>?_
 obtain⟨rfl,rfl⟩:=q;refine⟨made.typeIs,F.args_dict_init_2 _ _,LQ made.typeIs (old _ _ T) (by simp[hh]) λa tk e x=>⟨lM xN _,?_⟩⟩;have keeps:∀ b o,s.heap.get? b=some o->a.get? b=some o:=λb o e=>x.keeps _ _ (old b o e)
 obtain⟨M,B⟩:=yB h1;obtain⟨N,G⟩:=yB h2;obtain⟨O,H⟩:=xE I;obtain⟨P,L⟩:=xE J;have nd:∀ {b o},s.heap.get? b=some o->d≠b:=λe=>(bH (aT e)).symm
 have c:a.DictOf knd d []:=by
  obtain⟨o,t,n,p,r⟩:=made;exact⟨o,t,n,x.keeps _ _ p,r⟩
 refine FR (knd:=knd) (by simp[hh]) D ?_ more hn g hT s.heap more.length 0 _ rfl (cE _) ⟨keeps _ _ l,⟨_,_,keeps _ _ C⟩,.inl (keeps _ _ T)⟩ (pX h1 λo e=>keeps _ o e) (pX h2 λo e=>keeps _ o e) (qY I λo e=>keeps _ o e) (qY J λo e=>keeps _ o e) (λb o _ e=>keeps b o e) (by simpa [merged] using c) λj f u fin=>?_
 .simp only[aH,bA,dP,mK];exact⟨nd T,nd l,nd C,nd B,nd G,nd H,nd L⟩
 .refine⟨rfl,h j f fin λb o g e=>u b o (λq=>?_) e⟩;simp only[aH,bA,dP,mK] at g q;rcases q with q | q | q | q | q
  .exact g.1 q
  .exact g.2.1 q
  .exact g.2.2.1 q
  .exact g.2.2.2 q
  .exact nd e q.symm
end
noncomputable def qS (b:Bool) (t:Ad):Obj:={ cls:=.type (match b with | true => "tuple_iterator" | false => "list_iterator"),data:=.fields #[.ref t,.int 0 0] }
theorem Qe (b:Bool) (e:h.get? g=some (qS b t)):oE b h g t 0:=by
 cases b
 .exact⟨_,e,rfl,rfl⟩
 .exact⟨_,e,rfl,rfl⟩
theorem O6 (T:oI b s.heap l j) (q:Q (.ref s.heap.objs.size) { s with heap:=s.heap.push (qS b l) }):wpAny (model g w) A (pyIter (.ref l)) Q E s:=by
 cases b
 .exact iG T q
 .exact wpAny_pyIter_tuple T q
def Rj (g j:Bool) (h:Ag) (s t:Ad):Ag:=((((h.push (qS g s)).push (qS j t)).push (Dh (.ref h.objs.size) (.ref (h.push (qS g s)).objs.size))).push (Dh .none .none)).push (Nb ((h.push (qS g s)).push (qS j t)).objs.size (((h.push (qS g s)).push (qS j t)).push (Dh (.ref h.objs.size) (.ref (h.push (qS g s)).objs.size))).objs.size)
theorem FQ (j p:Bool) (l m:Ad) (C I:Array Ac):Meets (Builtin.«zip.__new__» ⟨[.type "zip",.ref l,.ref m],[]⟩) (λ_ R s=>oI j s.heap l C/\oI p s.heap m I /\ ∀ r,r=Rj j p s.heap l m->∀ n,n=s.heap.objs.size+4->R (.ok (.ret (.ref n))) { s with heap:=r }) :=
 .of_wp λf w A R s h=>by
  obtain⟨c,g,d,i,os⟩:=s;obtain⟨k,q,h⟩:=h;have under:=sub_zip;have a:oI j (Shared.heap ⟨c,g,d,i,os⟩) l C:=k;have b:oI p (Shared.heap ⟨c.push (qS j l),g,d,i,os⟩) m I:=qY q λo e=>aL _ e
  wp_walk using O6 a,O6 b
  refine⟨_,rfl,h _ rfl _ ?_⟩;rw[eA,eA,eA,eA]
section
theorem K0 (J:oI r s.heap l U) (T:oI C s.heap m ys)
  (q:∀ j,IsZip j (s.heap.objs.size+4) (s.heap.objs.size+2) (s.heap.objs.size+3) .none->IsPair j (s.heap.objs.size+2) (.ref s.heap.objs.size) (.ref (s.heap.objs.size+1))->IsPair j (s.heap.objs.size+3) .none .none ->oE r j s.heap.objs.size l 0->oE C j (s.heap.objs.size+1) m 0->j.objs.size=s.heap.objs.size+5->(∀ c o,s.heap.get? c=some o->j.get? c=some o)->Q (.ref (s.heap.objs.size+4)) { s with heap:=j }) :
  wpAny (model I w) A (call (.type "zip") [.ref l,.ref m]) Q E s:=by
 refine callType_new F.called_zip (by decide) (F.typeCall_zip_2 _ _) (F.newCall_zip_2 _ _) (λobj=>F.args_object_init_3 obj _ _) F.entry_zip_new (FQ r C l m U ys) ⟨J,T,λj e n en=>?_⟩;subst e en;have d:(s.heap.push (qS r l)).objs.size=s.heap.objs.size+1:=eA ..;have h:((s.heap.push (qS r l)).push (qS C m)).objs.size=s.heap.objs.size+2:=by rw[eA,d]
 have i:∀ p,(((s.heap.push (qS r l)).push (qS C m)).push p).objs.size=s.heap.objs.size+3:=λp=>by rw[eA,h]
 have k:∀ p q,((((s.heap.push (qS r l)).push (qS C m)).push p).push q).objs.size=s.heap.objs.size+4:=λp q=>by rw[eA,i]
 have b:∀ (g:Ag) (o:Obj) (n:Nat),o.isFreed=false->g.objs.size=n->(g.push o).get? n=some o:=λg o n f e=>by rw[<- e];exact bC _ f
 have a:∀ {g:Ag} {o p:Obj} {c:Ad},g.get? c=some o->(g.push p).get? c=some o:=λe=>aL _ e
 unfold Rj;rw[d,h,i];have z:=b ((((s.heap.push (qS r l)).push (qS C m)).push (Dh (.ref s.heap.objs.size) (.ref (s.heap.objs.size+1)))).push (Dh .none .none)) (Nb (s.heap.objs.size+2) (s.heap.objs.size+3)) _ rfl (k _ _);exact⟨⟨_,z,rfl⟩,q _ z (a (a (b _ _ _ rfl h))) (a (b _ _ _ rfl (i _))) (Qe r (a (a (a (a (bC _ rfl)))))) (Qe C (a (a (a (b _ _ _ rfl d))))) (by rw[eA,k]) λc o e=>a (a (a (a (a e))))⟩
end
end PySem
namespace L2
open PySem PySem.Spec PyProof.Rows
def qZ (b:Bool) (K:mZ) (H:Hp) (a:Ad) (g:Aa V):Prop:=match b with
 | true=>nQ K H a g
 | false=>eH K H a g
section
variable {X:Cx}
theorem Inv.seqB (I:Inv X j o H s) (h:qZ b X.K H a l):∃ g:Aa Ac,nE l g/\oI b s.heap a g.toArray:=by
 cases b
 .obtain⟨g,r,p,_⟩:=I.list h;exact⟨g,r,p.isList⟩
 .obtain⟨g,r,p,_⟩:=I.tuple h;exact⟨g,r,p⟩
theorem Inv.seqB_inj (I:Inv X j p H s) (h:qZ b X.K H a l) (g:qZ b X.K H a o):l=o:=by
 cases b
 .exact I.list_inj h g
 .exact I.tuple_inj h g
theorem Fl (x:oE b h g t i):∃ o,h.get? g=some o/\∀ v,o.data ≠ .cell v:=by
 cases b
 .obtain⟨o,e,_,d⟩:=(show h.IsListIter g t i from x);exact⟨o,e,λv z=>by rw[d] at z;cases z⟩
 .obtain⟨o,e,_,d⟩:=(show h.IsTupleIter g t i from x);exact⟨o,e,λv z=>by rw[d] at z;cases z⟩
end
def G1 (g j:Bool) (K:mZ) (a b:Ad):It :=
 ⟨λi H=>∃ c d x y,qZ g K H a c/\qZ j K H b d/\c[i]?=some x/\d[i]?=some y,λi H v e=>∃ p x y,H p=none/\v = .ref p/\e=upd H p (.t [x,y])/\(∀ c,qZ g K H a c->c[i]?=some x)/\(∀ d,qZ j K H b d->d[i]?=some y),λi H=>∃ c d,qZ g K H a c/\qZ j K H b d/\(c.length<=i\/d.length<=i)⟩
def FH (l o:Bool) (a b z TI TO g j:Ad) (i:Nat) (h:Ag):Prop:=IsZip h z TI TO .none/\IsPair h TI (.ref g) (.ref j)/\(∃ u v,IsPair h TO u v)/\oE l h g a i/\oE o h j b i
theorem Xo {P:Ah}{K:mZ}{TI TO:Ad}(D:ZipApart z TI TO i1 i2 a b) :
  Turn P w K (.Tuple ac x1 pos) (G1 b1 b2 K a b) [z,TI,TO,i1,i2] z (FH b1 b2 a b z TI TO i1 i2) where
 mem:=by simp
 obj:=λi h st c F=>by
  obtain⟨f,t,⟨u,v,A⟩,m,n⟩:=st;obtain⟨o4,m,d4⟩:=Fl m;obtain⟨o5,n,d5⟩:=Fl n;simp only[aH,bA,dP] at F;rcases F with e | e | e | e | e<;>subst e
  .exact⟨_,f,λv z=>nomatch z⟩
  .exact⟨_,t,λv z=>nomatch z⟩
  .exact⟨_,A,λv z=>nomatch z⟩
  .exact⟨_,m,d4⟩
  .exact⟨_,n,d5⟩
 keep:=λi h h' st k=>by
  obtain⟨f,t,⟨u,v,A⟩,m,n⟩:=st;exact⟨k z (by simp) _ f,k TI (by simp) _ t,⟨u,v,k TO (by simp) _ A⟩,pX m λo e=>k i1 (by simp) o e,pX n λo e=>k i2 (by simp) o e⟩
 item:=by
  intro X Y hw W F i L s σ H E I N st Z;subst Y hw W;obtain⟨f,t,⟨u,v,A⟩,m,n⟩:=st;obtain⟨xs,ys,x,y,O,Q,hx,hy⟩:=Z;obtain⟨l,U,r⟩:=I.seqB O;obtain⟨p,ry,py⟩:=I.seqB Q;obtain⟨ux,g,J⟩:=U.get hx;obtain⟨uy,j,T⟩:=ry.get hy;refine Iy D f (λ_ _=>Gj f) t A m n r py (x:=ux) (y:=uy) (by simpa using g) (by simpa using j) λh' n1 n2 n3 n4 n5 n6 n7=>?_
  refine⟨_,rfl,wpAny_letOwnedTupleGo_zip n1 λh2 m1 B=>?_⟩;have kp:∀ c o,c∉[z,TI,TO,i1,i2]->s.heap.get? c=some o->h2.get? c=some o:=λc o d e=>by
   simp only[aH,bA,dP,mK] at d;obtain⟨M,e2,R,S,V⟩:=d;exact B.extBut c o M (n7 c o M R S V e)
  have zs:s.heap.objs.size≠z:=λe=>eQ _ (by have:=aT f;rw[<- e] at this;exact this)
  have nt:vX h2 s.heap.objs.size [ux,uy].toArray:=⟨⟨_,B.extBut _ _ zs n5,rfl,_,rfl⟩,_,B.extBut _ _ zs n5,rfl⟩;have I2:=I.movedT (t':=s.toks) (ys:=[x,y]) N kp nt (.cons J (.cons T .nil)) (by show 2<=sizeLine;decide);refine⟨.ref s.heap.objs.size,_,I2,rfl,⟨_,x,y,I.fresh,rfl,rfl,λae C=>by rw[I.seqB_inj C O];exact hx,λaf C=>by rw[I.seqB_inj C Q];exact hy⟩,⟨m1,?_,⟨ux,uy,?_⟩,?_,?_⟩,λc d=>?_⟩
  .exact B.extBut _ _ D.TIz (n7 TI _ D.TIz D.TITO D.TIi1 D.TIi2 t)
  .exact B.extBut _ _ D.TOz n2
  .exact pX n3 λo e=>B.extBut _ o D.i1z e
  .exact pX n4 λo e=>B.extBut _ o D.i2z e
  .rw[gV]
   .exact (N c d).1
   .intro e;obtain⟨o,ho⟩:∃ o,s.heap.get? c=some o:=by
     obtain⟨o4,aa⟩:=yB m;obtain⟨o5,ab⟩:=yB n;simp only[aH,bA,dP] at d;rcases d with q | q | q | q | q<;>rw[q]
     .exact⟨_,f⟩
     .exact⟨_,t⟩
     .exact⟨_,A⟩
     .exact⟨_,aa⟩
     .exact⟨_,ab⟩
    have:=aT ho;rw[e] at this;exact eQ _ this
 done:=by
  intro X Y hw W F i L s σ H E I N st Z;subst Y hw W;obtain⟨f,t,⟨u,v,A⟩,m,n⟩:=st;obtain⟨xs,ys,O,Q,G⟩:=Z;obtain⟨l,U,r⟩:=I.seqB O;obtain⟨p,ry,py⟩:=I.seqB Q;have lx:=U.length;have ly:=ry.length;refine Ky (I.ok.hd F) D f (λ_ _=>Gj f) t A m n r py ?_ λh' k=>⟨rfl,I.moved (t':=s.toks) N λc o d e=>?_⟩
  .rcases G with q | q
   .exact .inl (by simp;omega)
   .exact .inr (by simp;omega)
  .simp only[aH,bA,dP,mK] at d;obtain⟨M,e2,R,S,V⟩:=d;exact k c o M R S V e
 self:=λ_ _ _ _ _ st h=>lK st.1 h
section
variable {X:Cx}
def Tp (K:mZ) (g:TA):TI:=λk H R=>g k H λf c=>∃ a b d e,f=[.ref a,.ref b]/\(∃ h,qZ d K c a h)/\(∃ i,qZ e K c b i)/\R (G1 d e K a b) c
theorem W2 (C:Gl X "zip") (J:X.mg "zip" = none) (r:PA X [j,g] U) (T:starEach [j,g] X.env=(false,eval j X.env)::starEach [g] X.env:=by rfl)
  (l:(backTo pos (starEach [g] X.env)).any (·.1)=false:=by rfl):PI X (.Tuple o x1 ps) (.Call (.Name "zip" p) [j,g] [] pos) (Tp X.K U):=by
 intro f s A H R I h;refine Call_ (wD I C J boot_zip (dF (nD (r pos f s A H _ I h) λus d n=>?_) T l));obtain⟨vs,t,i,V,P⟩:=n;obtain⟨a,b,Z,b2,rfl,⟨xs,Q⟩,⟨ys,S⟩,q⟩:=P;obtain⟨u,v,rfl,W,Y⟩:=yS V;cases W;cases Y;obtain⟨E,rx,y⟩:=i.seqB Q;obtain⟨F,ry,py⟩:=i.seqB S;have k:a<d.heap.objs.size:=by obtain⟨_,e⟩:=xE y;exact aT e
 have m:b<d.heap.objs.size:=by obtain⟨_,e⟩:=xE py;exact aT e
 refine K0 y py λD x G L M N n6 O=>?_
 have B:Inv X f A t { d with heap:=D }:=i.kept (t':=d.toks) O;refine lK x ⟨_,[_,_,_,_,_],_,_,t,rfl,B,Xo (a:=a) (b:=b) (i1:=d.heap.objs.size) (i2:=d.heap.objs.size+1) (z:=d.heap.objs.size+4) (TI:=d.heap.objs.size+2) (TO:=d.heap.objs.size+3) ?_,⟨x,G,⟨_,_,L⟩,M,N⟩,λc w=>?_,q⟩
 .constructor<;>first | exact bH k | exact bH m | exact bH (aW k (eG _ _)) | exact bH (aW m (eG _ _)) | exact fO k | exact fO m | exact fO (aW k (eG _ _)) | exact fO (aW m (eG _ _)) | exact (by show (_:Nat)≠_;omega)
 .simp only[aH,bA,dP] at w;rcases w with e | e | e | e | e<;>(subst e;exact i.fpOk (by omega) (i.hok.fresh (by omega)))
variable {K:mZ}
def xL:D->Ab (Bool×Aa D)
 | .l a=>some (false,a)
 | .t a=>some (true,a)
 | _=>none
theorem A9 (e:xL d=some (b,j)) (r:Rep K A H d v):∃ a g,v = .ref a/\qZ b K H a g/\Reps K A H j g:=by
 cases d<;>first | cases e | skip
 .obtain⟨a,g,rfl,h,r⟩:=r.tup_inv;exact⟨a,g,rfl,nQ.of h,r⟩
 .obtain⟨a,g,rfl,_,h,r⟩:=r.lst_inv;exact⟨a,g,rfl,eH.of h,r⟩
def wZ (g j:Aa D):Aa D:=g.zipWith (λx y=>D.t [x,y]) j
theorem L4 (g j:Aa D):(wZ g j).length=min g.length j.length:=eL
theorem HC {g j:Aa D}{i:Nat}{x y:D}(l:g[i]?=some x) (o:j[i]?=some y):(wZ g j)[i]?=some (.t [x,y]):=by
 unfold wZ;rw[List.getElem?_zipWith,l,o]
theorem P0 {d1 d2:D}(r:xL d1=some (g,l)) (C:xL d2=some (j,o)):YD K (G1 g j K a b) (wZ l o) [(.v d1,some (.ref a)),(.v d2,some (.ref b))]:=by
 have key:∀ A H,xB K A H [(.v d1,some (.ref a)),(.v d2,some (.ref b))]->(∃ d,qZ g K H a d/\Reps K A H l d)/\∃ c,qZ j K H b c/\Reps K A H o c:=λA H ok=>by
  obtain⟨v,E,h⟩:=ok (.v d1,some (.ref a)) aE;obtain⟨u,F,k⟩:=ok (.v d2,some (.ref b)) (aJ _ aE);cases E;cases F;obtain⟨N,d,G,e,s⟩:=A9 r h;obtain⟨O,c,L,f,t⟩:=A9 C k;cases G;cases L;exact⟨⟨d,e,s⟩,c,f,t⟩
 refine⟨rfl,λi H A m ok=>?_,λi H A x M m ok y=>?_,λi H A m ok=>?_⟩
 .obtain⟨⟨d,e,h⟩,c,f,k⟩:=key A H ok;rw[L4,h.length,k.length] at m;exact⟨d,c,d[i]'(by omega),c[i]'(by omega),e,f,aF _,aF _⟩
 .obtain⟨⟨d,e,h⟩,c,f,k⟩:=key A H ok;obtain⟨p,R,S,w,rfl,rfl,z,B⟩:=y;obtain⟨P,n,s⟩:=h.getV (z d e);obtain⟨Q,q,t⟩:=k.getV (B c f);exact⟨_,HC n q,.inr ⟨p,_,_,w,rfl,rfl,rfl,.cons s (.cons t .nil)⟩⟩
 .obtain⟨⟨d,e,h⟩,c,f,k⟩:=key A H ok;rw[L4,h.length,k.length] at m;exact⟨d,c,e,f,by omega⟩
def Ss (g:rJ):vL:=λf i h=>g f i λas a=>match as with
 | [.t d1,.t d2]=>∃ d e b c,xL d1=some (d,b)/\xL d2=some (e,c)/\h (wZ b c) a
 | _=>False
theorem Ll (I:Gl X "zip") (J:X.mg "zip" = none) (C:rW X [j,g] ta) (U:starEach [j,g] X.env=(false,eval j X.env)::starEach [g] X.env:=by rfl)
  (l:(backTo pos (starEach [g] X.env)).any (·.1)=false:=by rfl):xU X (.Tuple o x1 ps) (.Call (.Name "zip" p) [j,g] [] pos) (Ss ta) :=
 (W2 I J C U l).mono λA H R d=>d.elim λB z T G q hd s k=>⟨B,z,T,_,q,hd,s,λas e D i u ok d1 c=>by
  cases ok with
  | nil=>exact False.elim c
  | al _ ok=>exact False.elim c
  | t ok =>
   cases ok with
   | nil=>exact False.elim c
   | al _ ok=>cases ok<;>exact False.elim c
   | t ok =>
    cases ok with
    | al _ ok=>exact False.elim c
    | t ok=>exact False.elim c
    | nil =>
     obtain⟨m,n,E,F,f,h,c⟩:=c;have r:=d1.temps (σ:=A) (.t (.t .nil)) _ rfl;cases r with
     | cons v r =>
      cases r with
      | cons w r =>
       obtain⟨a,x,rfl,g1,_⟩:=A9 f v;obtain⟨b,y,rfl,g2,_⟩:=A9 h w;exact⟨a,b,m,n,rfl,⟨x,g1⟩,⟨y,g2⟩,k _ _ e [_,_] i u d1 (P0 f h) c⟩⟩
end
end L2
namespace L2
open PySem PySem.Spec PyProof.Rows Lw
section
variable {X:Cx}
def CB (K:mZ) (g:TA):TE:=λi H Q=>g i H λh a=>∃ (e f:Bool) (l m:Ad) (b:Aa hG) (c:Aa V),h=[.ref l,.ref m]/\qZ e K a l (b.map kV)/\qZ f K a m c/\b.length<=1000/\∀ d,a d=none->Q (.ref d) (upd a d (.k (rF [] (b.zip c))))
theorem IF (j:X.calm=true) (hg:Gl X "dict") (hm:X.mg "dict" = none) (r:Gl X "zip") (C:X.mg "zip" = none) (ha:PA X [a,b] ta)
  (hs:starEach [a,b] X.env=(false,eval a X.env)::starEach [b] X.env:=by rfl) (J:(backTo g (starEach [b] X.env)).any (·.1)=false:=by rfl) :
  PE X (.Call (.Name "dict" p) [.Call (.Name "zip" p') [a,b] [] g] [] pos) (CB X.K ta):=by
 intro z s σ H Q I h;refine gY (wD I hg hm boot_dict ?_ (by decide) (by decide));refine dF ?_ rfl rfl;show wpAny _ _ (spliced ((false,eval (.Call (.Name "zip" p') [a,b] [] g) X.env)::backTo pos (starEach [] X.env))) _ _ s;refine kL ?_;refine gY (wD I r C boot_zip ?_ (by decide) (by decide));refine dF (nD (ha g z s σ H _ I h) λus B M=>?_) hs J;obtain⟨xs,H1,t,S,q1⟩:=M;obtain⟨b1,b2,l,m,c,E,rfl,hl,hv,hn,q⟩:=q1;obtain⟨Z,T,rfl,W,Y⟩:∃ Z T,us=[Z,T]/\nF (.ref l) Z/\nF (.ref m) T:=by
  cases S with | cons S V=>cases V with | cons V r3=>cases r3;exact⟨_,_,rfl,S,V⟩
 cases W;cases Y;obtain⟨N,r',R⟩:=t.seqB hl;obtain⟨f,A,n⟩:=t.seqB hv;refine K0 R n λD z1 z2 z3 z4 z5 z6 U=>?_
 refine Calls.spliced_nil ?_;have L1:=r'.length;have L2:=A.length;rw[aA] at L1;have F:=Qg c A;have O:l<B.heap.objs.size:=by obtain⟨_,e⟩:=xE R;exact aT e
 have P:m<B.heap.objs.size:=by obtain⟨_,e⟩:=xE n;exact aT e
 refine JY (knd:=oB X.prog X.w) (more:=c.zip f) (s:={ B with heap:=D }) (t.ok.hd j) (zipApart_new O P) z1 z2 z3 z4 z5 (qY R λo e=>U _ o e) (qY n λo e=>U _ o e) ?_ ?_ ?_ λh2 tk hD hk=>?_
 .rw[fE,aV,aV];omega
 .rw[fE];exact dX (bG (show min c.length f.length<=1000 by omega) (by decide))
 .intro i x y v G;have v:N[i]?=some x:=by simpa using v
  have G:f[i]?=some y:=by simpa using G
  obtain⟨hi,_⟩:=aG.mp v;obtain⟨u,hu,ru⟩:=r'.get (i:=i) (x:=kV (c[i]'(by omega))) (by simp[show i<c.length by omega]);rw[hu] at v;cases v;refine⟨c[i]'(by omega),yG ru,?_⟩;rw[fY];exact⟨aF _,G⟩
 .have L:(rF [] (c.zip E)).length<=sizeLine:=by
   have h1:=Fy (c.zip E) [];rw[jJ,fE] at h1;exact dX (bG (show (rF [] (c.zip E)).length<=1000 by omega) (by decide))
  have d:B.heap.objs.size<=D.objs.size:=by omega
  have kp:∀ b o,B.heap.get? b=some o->h2.get? b=some o:=λb o e=>hk b o (λq=>by
   have:=aT e;simp only[aH,bA,dP] at q;rcases q with q | q | q | q<;>rw[q] at this<;>first | exact absurd this (eQ _) | exact absurd this (Nat.not_lt.mpr (eG _ _))) (U b o e)
  refine⟨.ref D.objs.size,_,t.laid (a:=D.objs.size) (o:=.k (rF [] (c.zip E))) (t':=tk) kp d ?_,rfl,q _ (t.hok.fresh d)⟩;exact Dl L (cQ.mpr (eV (bH (aW t.big d)))) (F.merge .nil) hD
end
section
variable {X:Cx}{K:mZ}
def Tc:OC:=λf h=>match f with
 | [d1,d2]=>∃ d e b c a,xL d1=some (d,b)/\xL d2=some (e,c)/\yW b=some a/\a.length<=1000/\h (.o (.k (sC [] (a.zip c))))
 | _=>False
theorem Nw (e:xL d=some (b,j)) (r:nY K A H d v):∃ a g,v = .ref a/\qZ b K H a g/\Reps K A H j g:=by
 cases d<;>first | cases e | skip
 .obtain⟨a,g,rfl,h,r⟩:=Rep.tup_inv r;exact⟨a,g,rfl,nQ.of h,r⟩
 .obtain⟨a,g,rfl,h,r⟩:=r.lst_inv;exact⟨a,g,rfl,eH.of h,r⟩
theorem Z4:qR K (λC H Q=>∃ (o r:Bool) (l m:Ad) (g:Aa hG) (j:Aa V),C=[.ref l,.ref m]/\qZ o K H l (g.map kV)/\qZ r K H m j/\g.length<=1000/\∀ d,H d=none->Q (.ref d) (upd H d (.k (rF [] (g.zip j))))) Tc:=by
 intro B L H h C M Q hd f c k
 match h,c with
 | [d1,d2],c =>
  obtain⟨x,y,rfl,u,py⟩:=Ap f;obtain⟨o,r,C,G,g,i,n,hk,t,c⟩:=c;obtain⟨a,F,rfl,q,z⟩:=Nw i u;obtain⟨b,j,rfl,s,A⟩:=Nw n py;have e:=HX hk z;subst e;obtain⟨D,E⟩:=S6 g A;obtain⟨v,w⟩:=Hq (kvs:=[]) (vs:=[]) D E rfl .nil;exact⟨o,r,a,b,g,j,rfl,q,s,t,λp f=>k _ _ _ c (hd.dKF f v w)⟩
theorem Oo (g:X.calm=true) (I:Gl X "dict") (J:X.mg "dict" = none) (l:Gl X "zip") (o:X.mg "zip" = none) (C:rW X [a,b] U)
  (T:starEach [a,b] X.env=(false,eval a X.env)::starEach [b] X.env:=by rfl) (r:(backTo j (starEach [b] X.env)).any (·.1)=false:=by rfl) :
  PD X (.Call (.Name "dict" p) [.Call (.Name "zip" p') [a,b] [] j] [] pos) (dC Tc U):=(IF g I J l o C T r).mono λ_ _ _ h=>Kw Z4 h
end
end L2
namespace Lw
open PySem L2
noncomputable def pK (w:Af) (bs:Aa Int):Int :=
 if w = "and" then (if bs.sum=bs.length then 1 else 0)
 else if w = "or" then (if bs.sum>0 then 1 else 0)
 else if w = "odd" then bs.sum%2
 else if w = "most" then (if bs.sum>=2 then 1 else 0)
 else if w = "not" then (if bs.sum=0 then 1 else 0)
 else if w = "one" then 1 else 0
def Bit (i:Int):Prop:=i=0\/i=1
theorem L3 (w:Af) (bs:Aa Int):Bit (pK w bs):=by
 unfold pK Bit;have:=fB bs.sum (show (2:Int)≠0 by decide);have:=dY bs.sum (show (0:Int)<2 by decide)
 repeat' split
 all_goals omega
theorem Kh:∀ {bs:Aa Int},(∀ b∈bs,Bit b)->0<=bs.sum/\bs.sum<=bs.length
 | [],_=>by simp
 | b::r,h=>by
  have a:=h b aE;have d:=Kh λx c=>h x (aJ _ c)
  simp only[jL,bS];unfold Bit at a;omega
theorem T2:∀ {bs:Aa Int},(∀ b∈bs,b=1)->bs.sum=bs.length
 | [],_=>by simp
 | b::r,h=>by
  have c:=h b aE;have d:=T2 λx a=>h x (aJ _ a)
  simp only[jL,bS];omega
theorem Ph:∀ {bs:Aa Int},(∀ b∈bs,Bit b)->(0:Int)∈bs->bs.sum<bs.length
 | [],_,h=>by simp at h
 | b::r,h,d=>by
  have c:=h b aE;have a:∀ x∈r,Bit x:=λx f=>h x (aJ _ f)
  have i:=Kh a;simp only[jL,bS];unfold Bit at c;rcases aH.mp d with e | e
  .omega
  .have:=Ph a e;omega
theorem Ul:∀ {bs:Aa Int},(∀ b∈bs,Bit b)->(1:Int)∈bs->0<bs.sum
 | [],_,h=>by simp at h
 | b::r,h,d=>by
  have c:=h b aE;have a:∀ x∈r,Bit x:=λx f=>h x (aJ _ f)
  have i:=Kh a;simp only[jL];unfold Bit at c;rcases aH.mp d with e | e
  .omega
  .have:=Ul a e;omega
theorem Qm:∀ {bs:Aa Int},(∀ b∈bs,b=0)->bs.sum=0
 | [],_=>by simp
 | b::r,h=>by
  have c:=h b aE;have d:=Qm λx a=>h x (aJ _ a)
  simp only[jL];omega
theorem DP {bs:Aa Int}{m:Int}(g:∀ b∈bs,Bit b) (j:m∈bs) (l:∀ a∈bs,m<=a):m=if bs.sum=bs.length then 1 else 0:=by
 rcases g m j with e | e
 .subst e;have:=Ph g j;rw[aI (by omega)]
 .subst e;have:∀ b∈bs,b=1:=λb c=>by
   have:=l b c;rcases g b c with q | q<;>omega
  rw[aP (T2 this)]
theorem W5 {bs:Aa Int}{m:Int}(g:∀ b∈bs,Bit b) (j:m∈bs) (l:∀ a∈bs,a<=m):m=if bs.sum>0 then 1 else 0:=by
 rcases g m j with e | e
 .subst e;have:∀ b∈bs,b=0:=λb c=>by
   have:=l b c;rcases g b c with q | q<;>omega
  have:=Qm this;rw[aI (by omega)]
 .subst e;have:=Ul g j;rw[aP (by omega)]
def tN (j:Af->Int):Aa (Af×Af×Aa Af)->Af->Int
 | []=>j
 | g::r=>tN (λx=>if x=g.1 then pK g.2.1 (g.2.2.map j) else j x) r
def Px (j:Af->Int) (g:Af×Af×Aa Af):Af->Int:=λx=>if x=g.1 then pK g.2.1 (g.2.2.map j) else j x
theorem Kt:∀ (l:Aa (Af×Af×Aa Af)) (j:Af->Int) (g:Af×Af×Aa Af),tN j (l++[g])=Px (tN j l) g
 | [],j,g=>rfl
 | a::r,j,g=>Kt r _ g
def rK (C:Cel) (g:Af->Int):Af->Int:=tN g C.gates
theorem uI.at:∀ {kn:Aa Af}{i:Nat}{g:Af×Af×Aa Af},uI kn j->j[i]?=some g->ArOk g.2.1 g.2.2.length/\∀ p∈g.2.2,p∈kn++(j.take i).map (·.1):=by
 induction j with
 | nil=>intro kn i g _ h;simp at h
 | cons a r c =>
  intro kn i g h e;cases i with
  | zero=>simp at e;subst e;exact⟨h.1,by simpa using h.2.1⟩
  | succ i =>
   have:=c (kn:=kn++[a.1]) (i:=i) (g:=g) h.2.2 (by simpa using e);refine⟨this.1,λp b=>?_⟩;have q:=this.2 p b
   simpa using q
theorem HH (h:ArOk w n) (g:¬ w = "and") (j:¬ w = "or") (l:¬ w = "odd") (o:¬ w = "most") (p:¬ w = "not"):w = "one" \/ w = "nil" := by
 rcases h.ok with⟨q,_⟩ | ⟨q,_⟩ | ⟨q,_⟩ | ⟨q,_⟩ | ⟨q,_⟩
 .unfold vU at q;simp only[aH,bA,dP] at q;rcases q with e | e | e
  .exact absurd e g
  .exact absurd e j
  .exact absurd e l
 .exact absurd q o
 .exact absurd q p
 .exact .inl q
 .exact .inr q
theorem Oq (h:ArOk w n) (g:w = "and" \/ w = "or"):2<=n:=by
 rcases h.ok with⟨_,q | q⟩ | ⟨q,_⟩ | ⟨q,_⟩ | ⟨q,_⟩ | ⟨q,_⟩
 .omega
 .omega
 all_goals (rcases g with e | e<;>(rw[e] at q;exact absurd q (by decide +kernel)))
theorem DQ (h:ArOk "not" n):n=1:=by
 rcases h.ok with⟨q,_⟩ | ⟨q,_⟩ | ⟨_,q⟩ | ⟨q,_⟩ | ⟨q,_⟩
 .exact absurd q (by decide +kernel)
 .exact absurd q (by decide +kernel)
 .exact q
 .exact absurd q (by decide +kernel)
 .exact absurd q (by decide +kernel)
structure GC (C:Cel):Prop where
 nd:C.names.Nodup
 gt:uI C.ins C.gates
 os:∀ o∈C.outs,o∈C.names
 ond:C.outs.Nodup
 li:C.ins.length<=40
 lg:C.gates.length<=40
 lo:C.outs.length<=40
def qU (g:Aa (hG×D)) (l:Aa Af) (j:Af->Int):Prop:=∀ x∈l,nK g (Sum.inr x)=some (.int (j x))/\Bit (j x)
theorem qU.step (h:qU g j o) (l:Bit v) (p:n∉j):qU (oA g (Sum.inr n) (.int v)) (j++[n]) (λx=>if x=n then v else o x):=by
 intro x a;dsimp only;rw[zP];by_cases e:x=n
 .subst e;rw[aP rfl,aP rfl];exact⟨rfl,l⟩
 .rw[aI (λz=>e (gC z).symm),aI e];rcases aQ.mp a with q | q
  .exact h x q
  .exact absurd (aM.mp q) e
def Ds:RD:=λd a c=>∃ (wd:Af) (bs:Aa Int),a=[.str wd,.l (bs.map D.int)]/\(∀ b∈bs,Bit b)/\ArOk wd bs.length/\c (.v (.int (pK wd bs)))
def EN (g:Aa (hG×D)) (j:Aa Af):Prop:=∀ x∈j,∃ d,nK g (Sum.inr x)=some d
def R0:RD:=λf c d=>∃ (b:Aa Af) (a:Aa (hG×D)),(c=[.t (b.map D.str),.k a]\/c=[.l (b.map D.str),.k a])/\EN a b/\d (.v .e)
def S1:RD:=λe c d=>∃ (C:Cel) (a:Aa (hG×D)) (b:Af->Int),c=[nH C,.k a]/\GC C/\qU a C.ins b/\d (.v (.t (C.outs.map λo=>D.int (rK C b o))))
theorem Br {g:Type} [DecidableEq g] {a b:g}{p q:Prop}(j:a=b->p) (l:¬ a=b->q):if (nb false (decide (a=b)))=true then p else q:=by
 by_cases e:a=b
 .rw[aP (by simp[nb,e])];exact j e
 .rw[aI (by simp[nb,e])];exact l e
theorem Fk {c:Prop} [Decidable c] {p q:Prop}(g:c->p) (j:¬ c->q):if (decide c)=true then p else q:=by
 by_cases e:c
 .rw[aP (cX e)];exact g e
 .rw[aI (by simp[e])];exact j e
theorem Bg (h:g.length<100000):xT (.k g) (.str x) d=some (.k (oA g (Sum.inr x) d)):=by
 simp only[xT,aP h];rfl
theorem Mq (t:B4):(oJ t).length=t.length:=by simp[oJ]
theorem Wx:(["name","bits"]:Aa Af).Nodup:=by decide +kernel
theorem JJ:(["known","told"]:Aa Af).Nodup:=by decide +kernel
theorem FE:(["name","told"]:Aa Af).Nodup:=by decide +kernel
section
variable {P:Ah}{K:mZ}
theorem pO {P:Aa Af}(a:j.kind = .function:=by rfl) (b:j.isCoroutine=false:=by rfl) (c:j.isGenerator=false:=by rfl) (d:N.Nodup:=by decide +kernel) (e:N.take P.length=P:=by rfl) (f:∀ x∈P,j.names.lookup x=some .local\/j.names.lookup x=some .cell:=by decide +kernel) (g:∀ y∈j.names,y.2 ≠ .free:=by decide +kernel):L2.FnScope N P j:=⟨a,b,c,d,e,f,g⟩
theorem DT:FnScope ["word","bits"] ["word","bits"] (nS Ee):=pO
theorem FI (T:Txt g):pQ P w K g base 1 "gate_bit" Ee ["word","bits"] Ds:=by
 refine pZ DT λf R A L s H E k o c h Y X=>?_
 obtain⟨wd,bs,rfl,y,ok,F⟩:=X;have fin:∀ z:Int,z=pK wd bs->c (.v (.int z)):=λz e=>by rw[e];exact F
 have a:=Bp bs;have st:∀ (e:Af) (t u:qG),(wd=e->t k { nx:=λ_=>c (.v .e),rt:=c } [.v (.str wd),.v (.l (bs.map D.int))])->(¬ wd=e->u k { nx:=λ_=>c (.v .e),rt:=c } [.v (.str wd),.v (.l (bs.map D.int))]) ->
   (∀ M N Q,M.rt=N.rt->t k M Q->t k N Q)->F4 (zG (uX (xC (Hh false) 0 (cd (.str e)))) t Ij) u k { nx:=λ_=>c (.v .e),rt:=c } [.v (.str wd),.v (.l (bs.map D.int))]:=λe t u S V W =>
  ⟨rfl,Br (λz=>W { nx:=λ_=>c (.v .e),rt:=c } _ _ rfl (S z)) λz=>V z⟩
 refine⟨_,(hO (pE (qT (sA h.units) (pF false) (pv 0) rR) (nJ (oC (pC (Y6 rfl) ID T.min lH (dK (cN 1) hH)))) pG) (hO (pE (qT (sA h.units) (pF false) (pv 0) rR) (nJ (oC (pC (J6 rfl) Jk T.max lI (dK (cN 1) hH)))) pG) (hO (pE (qT (sA h.units) (pF false) (pv 0) rR) (nJ (oC (qF rB B9 (pC (Ct rfl) Eg T.sum hZ (dK (cN 1) hH)) hV))) pG) (hO (pE (qT (sA h.units) (pF false) (pv 0) rR) (nJ (oC (Ru (sZ Ql Pg (pC (Ct rfl) Eg T.sum hZ (dK (cN 1) hH)) hV) hV hV))) pG) (hO (pE (qT (sA h.units) (pF false) (pv 0) rR) (nJ (oC (qF Bb E7 hV (nT Y 1 hV)))) pG) (nJ (oC (Ru (qT (sA h.units) (pF false) (pv 0) rR) hV hV)))))))),?_⟩;refine st _ _ _ (λe=>⟨bs,a,?_,λm B x=>fin m ?_⟩) (λd=>?_) (λ_ _ _ e=>by unfold sH;rw[e];exact id)
 .have:=Oq ok (.inl e);intro z;rw[z] at this;simp at this
 .rw[DP y B x];unfold pK;rw[if_pos e]
 refine st _ _ _ (λe=>⟨bs,a,?_,λm B x=>fin m ?_⟩) (λi=>?_) (λ_ _ _ e=>by unfold sH;rw[e];exact id)
 .have:=Oq ok (.inr e);intro z;rw[z] at this;simp at this
 .rw[W5 y B x];unfold pK;rw[if_neg d,if_pos e]
 refine st _ _ _ (λe=>⟨bs,a,by show (0:Int)<2;decide,fin _ ?_⟩) (λn=>?_) (λ_ _ _ e=>by unfold sH;rw[e];exact id)
 .unfold pK;rw[if_neg d,if_neg i,if_pos e]
 refine st _ _ _ (λe=>⟨bs,a,Fk (λz=>fin _ ?_) (λz=>fin _ ?_)⟩) (λG=>?_) (λ_ _ _ e=>by unfold sH;rw[e];exact id)
 .unfold pK;rw[if_neg d,if_neg i,if_neg n,if_pos e,if_pos z]
 .unfold pK;rw[if_neg d,if_neg i,if_neg n,if_pos e,if_neg z]
 refine st _ _ _ (λe=>?_) (λO=>?_) (λ_ _ _ e=>by unfold sH;rw[e];exact id)
 .subst e;have Z:=DQ ok;obtain⟨b,rfl⟩:∃ b,bs=[b]:=by
   match bs,Z with
   | [b],_=>exact⟨b,rfl⟩
  refine⟨rfl,.int b,rfl,fin _ ?_⟩;have:=y b (by simp);unfold pK;rw[aI d,aI i,aI n,aI G,aP rfl];rcases this with q | q<;>subst q<;>simp
 refine⟨rfl,Br (λe=>fin _ ?_) λj=>fin _ ?_⟩
 .unfold pK;rw[if_neg d,if_neg i,if_neg n,if_neg G,if_neg O,if_pos e]
 .unfold pK;rw[if_neg d,if_neg i,if_neg n,if_neg G,if_neg O,if_neg j]
theorem Sd:FnScope ["names","given","name"] ["names","given"] (nS G4):=pO
theorem Nr (j:Rd H b (.k g)) (l:qK g (Sum.inr x)=some v):tO H b (.str x) (some v):=.inl ⟨g,Sum.inr x,j,rfl,l.symm⟩
theorem Rn {g:Aa Af}{i:Nat}{x:V}(h:(g.map V.str)[i]?=some x):∃ y,g[i]?=some y/\V.str y=x:=by
 rw[aU] at h;cases e:g[i]? with
 | none=>rw[e] at h;cases h
 | some y=>rw[e] at h;exact⟨y,rfl,bR h⟩
theorem MT (F:Fun K "check_there" "check_there" G4 f fd):FnOk P w K mg base oQ 1 f fd ["names","given"] (yH K R0):=by
 refine F.ok Sd (λg H Q E O=>by obtain⟨l,A,o,Φ,D,C,r,⟨m,S,e,_⟩,Y⟩:=O;rw[<- r.length];rcases e with e | e<;>rw[e]<;>rfl) (λj A W s H g Q E I O=>?_);obtain⟨l,A1,o,Φ,D,C,r,⟨m,S,e,J,R⟩,Y⟩:=O;have T:=Ln I;obtain⟨c,b,u,rfl,q,B,G⟩:∃ c b u,g=[.ref c,.ref b]/\(eH K H c (m.map V.str)\/nQ K H c (m.map V.str))/\Rd H b (.k u)/\∀ x∈m,∃ v,qK u (Sum.inr x)=some v:=by
  rcases e with e | e<;>subst e
  all_goals (
   cases r with
   | cons Z r =>
    cases r with
    | cons U r =>
     cases r;obtain⟨b,u,rfl,_,B,p,r3⟩:=U.dK_inv;have G:∀ x∈m,∃ v,qK u (Sum.inr x)=some v:=λx L=>by
      obtain⟨d,hd⟩:=J x L;obtain⟨v,z,_⟩:=(A5 p r3 (Sum.inr x)).1 d hd;exact⟨v,z⟩
     first
     | (obtain⟨c,us,rfl,z,X⟩:=Z.tup_inv;have:=P7 (Ki m) X;subst this;exact⟨c,b,u,rfl,.inr (nQ.of z),B,G⟩)
     | (obtain⟨c,us,rfl,_,z,X⟩:=Z.lst_inv;have:=P7 (Ki m) X;subst this;exact⟨c,b,u,rfl,.inl (eH.of z),B,G⟩))
 have fin:Q .e H:=Y (.v .e) .e H R (λ_ _ e _=>e) D .e;refine⟨_,qE (vZ eC rfl (S9 (pv 0)) (uH (i:=2) Sd.nd rfl (Or.inl rfl)) (qE (yX (Xz (EW T (pv 2) (pv 1))) (qE X8) Av))),?_⟩;refine⟨_,rfl,?_⟩;rcases q with q | q
 .refine .inl ⟨c,rfl,⟨_,q⟩,?_⟩;refine Qw (K:=K) (a:=c) (xs:=m.map V.str) (λi n h=>h=H/\∃ M,n=[some (.ref c),some (.ref b),M]) ⟨rfl,none,rfl⟩ (λi n h _ ⟨e,_⟩=>by rw[e];exact q) ?_ ?_
  .rintro i x n h L ⟨rfl,M,rfl⟩;obtain⟨y,N,rfl⟩:=Rn L;obtain⟨v,t⟩:=G y (aK N);exact⟨_,rfl,_,rfl,b,_,rfl,Nr B t,_,rfl,wV ⟨rfl,_,rfl⟩⟩
  .rintro n h ⟨rfl,_⟩;exact fin
 .refine .inr (.inl ⟨c,rfl,⟨_,q⟩,?_⟩);refine Wv (K:=K) (a:=c) (xs:=m.map V.str) (λi n h=>h=H/\∃ M,n=[some (.ref c),some (.ref b),M]) ⟨rfl,none,rfl⟩ (λi n h _ ⟨e,_⟩=>by rw[e];exact q) ?_ ?_
  .rintro i x n h L ⟨rfl,M,rfl⟩;obtain⟨y,N,rfl⟩:=Rn L;obtain⟨v,t⟩:=G y (aK N);exact⟨_,rfl,_,rfl,b,_,rfl,Nr B t,_,rfl,wV ⟨rfl,_,rfl⟩⟩
  .rintro n h ⟨rfl,_⟩;exact fin
theorem Co:FnScope ["cell","bits","told","name","word","names"] ["cell","bits"] (nS Ha):=pO
theorem Wd (T:Txt mg) (l:Kn P w K mg base 1 "check_there" G4 ["names","given"] R0) (I:Kn P w K mg base 1 "gate_bit" Ee ["word","bits"] Ds)
: pQ P w K mg base 2 "told_by" Ha ["cell","bits"] S1:=by
 refine pZ Co λf ae A ac s H E dk ds Φ hr G hR=>?_
 obtain⟨C,y,m,rfl,L,U,aa⟩:=hR;have li:=L.li;have lg:=L.lg;have O:C.ins.Nodup:=(bM.mp L.nd).1;refine⟨_,(hO (zD (oV l hr (dK (nT G 0 hV) (dK (cN 1) hH)))) (hO (nX 2 Co.nd (uG (Of rfl) Pz T.dict jF (dK (qB ["name"] ["bits"] [1] (oP (nT G 0 hV)) (λ_ _ _ _ _=>(nM 0 Wx)) (λ_ _ _ _ _=>(wN (dK (cN 0) (dK (nT G 1 (cN 0)) hH))))) hH))) (hO (qL (oP (nT G 0 hV)) (yE (n:=3) rfl (rD (nM 3 Co.nd) (rD (nM 4 Co.nd) (rD (nM 5 Co.nd) xO)))) (nJ (uP (n:=2) G (oV I hr (dK (cN 4) (dK (qB ["known"] ["told"] [2] (oP (cN 5)) (λ_ _ _ _ _=>(nM 0 JJ)) (λ_ _ _ _ _=>(nT G 1 (cN 0)))) hH))) (pv 2) (cN 3)))) (nJ (oC (uG Dj Xn T.tuple eN (dK (qB ["name"] ["told"] [2] (oP (nT G 0 hV)) (λ_ _ _ _ _=>(nM 0 FE)) (λ_ _ _ _ _=>(nT G 1 (cN 0)))) hH))))))),?_⟩;refine⟨rfl,_,rfl,C.ins,y,.inl rfl,λx M=>⟨_,(U x M).1⟩,.inl rfl,?_⟩;dsimp only;refine nG (λc=>c=[.v (nH C),.v (.k y),.o (.k (oJ (C.ins.map λn=>(n,m n)))),.n,.n,.n]) (λN hN=>?_) ?_
 .unfold rQ dC aC;refine rA C.ins D.str (λn=>.t [.str n,.int (m n)]) _ (λΨ h=>⟨rfl,_,rfl,h⟩) (by omega) (λi n ys Nx e V W=>?_) ?_
  .refine⟨rfl,.int (m n),?_,by show 2<=1000;decide,V,W⟩;show some (nK y (Sum.inr n))=_;rw[(U n (aK e)).1]
  have e0:yA (C.ins.map λn=>D.t [.str n,.int (m n)])=some (oJ (C.ins.map λn=>(n,m n))):=by
   rw[Uo (g:=λn=>((Sum.inr n:hG),D.int (m n))) (λn=>⟨.str n,rfl,rfl⟩)];simp[oJ]
  refine⟨_,e0,by simp[oJ];omega,?_⟩;rw[J5 (by simpa [mF] using O)];exact hN _ rfl
 rintro _ rfl;have h0:qU (oJ (C.ins.map λn=>(n,m n))) C.ins m:=λx M=>by
  refine⟨?_,(U x M).2⟩;have hm:x∈(C.ins.map λn=>(n,m n)).map (·.1):=by simpa [mF] using M
  rw[(K6 _ x).1 hm]
  congr 2
  clear hm;revert M;generalize C.ins=xs;induction xs with
  | nil=>intro h;simp at h
  | cons a r ih =>
   intro h;rw[aO,As];by_cases q:a=x
   .rw[aP q,q]
   .rw[aI q];rcases aH.mp h with z | z
    .exact absurd z.symm q
    .exact ih z
 refine nG (λc=>∃ (d:Aa (hG×D)) (Q R S:Sl),c=[.v (nH C),.v (.k y),.o (.k d),Q,R,S]/\qU d C.names (rK C m)) (λN hN=>?_) ?_
 .refine qI (C.gates.map G5) _ (λΨ h=>⟨rfl,_,rfl,h⟩)
   (λi c=>∃ (d:Aa (hG×D)) (Q R S:Sl),c=[.v (nH C),.v (.k y),.o (.k d),Q,R,S]/\qU d (C.ins++(C.gates.take i).map (·.1)) (tN m (C.gates.take i))/\d.length<=40+i) ⟨_,.n,.n,.n,rfl,by simpa [tN] using h0,by rw[Mq,aA];omega⟩ ?_ ?_
  .rintro i x c M ⟨d,Q,R,S,rfl,F,hl⟩;obtain⟨g,B,rfl⟩:=qP M;obtain⟨X,J⟩:=L.gt.at B;have hi:i<C.gates.length:=(aG.mp B).1;have Z:g.1∉C.ins++(C.gates.take i).map (·.1):=λq=>by
    have nd:(C.ins++C.gates.map (·.1)).Nodup:=L.nd;have e:C.gates=C.gates.take i++g::C.gates.drop (i+1):=by
     obtain⟨hi,rfl⟩:=aG.mp B;rw[lF,iB]
    rw[e,bF,<- bI] at nd;exact (bM.mp nd).2.2 g.1 q g.1 (by simp) rfl
   have tk:C.gates.take (i+1)=C.gates.take i++[g]:=by rw[bP,B];rfl
   generalize ab:tN m (C.gates.take i)=u at F;have Y:∀ p∈g.2.2,Bit (u p):=λp hp=>(F p (J p hp)).2
   refine⟨rfl,rfl,?_⟩;unfold Jc zK aC vd;simp only[List.set_cons_succ,List.set_cons_zero,iS,iR];refine rA g.2.2 D.str (λo=>.int (u o)) _ (λΨ h=>h) (by rcases X.ok with⟨_,q | q⟩ | ⟨_,q⟩ | ⟨_,q⟩ | ⟨_,q⟩ | ⟨_,q⟩<;>omega) (λj o ys Nx e V W=>?_) ?_
   .refine⟨rfl,.int (u o),?_,V,W⟩;show some (nK d (Sum.inr o))=_;rw[(F o (J o (aK e))).1]
   refine⟨g.2.1,g.2.2.map u,by rw[bB];rfl,(λb hb=>by obtain⟨p,hp,rfl⟩:=aN.mp hb;exact Y p hp),by rw[aA];exact X,.inl rfl,rfl,_,Bg (by omega),oA d (Sum.inr g.1) (.int (pK g.2.1 (g.2.2.map u))),_,_,_,rfl,?_,?_⟩
   .rw[tk,Kt,ab,bF,<- bI];exact F.step (L3 _ _) Z
   .have:=zQ d (Sum.inr g.1:hG) (.int (pK g.2.1 (g.2.2.map u)));omega
  .rintro c ⟨d,Q,R,S,rfl,F,hl⟩;rw[aA,bJ (aR _)] at F;exact hN _ ⟨d,Q,R,S,rfl,F⟩
 rintro _ ⟨d,Q,R,S,rfl,F⟩;unfold sH dC aC;have lo:=L.lo;refine rA C.outs D.str (λo=>.int (rK C m o)) _ (λΨ h=>⟨rfl,_,rfl,h⟩) (by omega) (λj o ys Nx e V W=>?_) aa;refine⟨rfl,.int (rK C m o),?_,V,W⟩;show some (nK d (Sum.inr o))=_;rw[(F o (L.os o (aK e))).1]
end
theorem S0 (g:Aa Af):wR (g.map D.str)=some (g.map V.str):=R4 (λ_=>rfl) g
theorem Hu:∀ g:Aa Af,xS (.str x) (g.map V.str)=decide (x∈g)
 | []=>by simp[xS]
 | y::g=>by
  have a:=Hu (x:=x) g;unfold xS at a |-;rw[aO,eZ,a];by_cases e:x=y
  .subst e;have:pI (V.str x) (V.str x)=true:=lJ x;simp[this]
  .have:pI (V.str y) (V.str x)=false:=by
    show (y == x)=false;exact cQ.mpr λz=>e z.symm
   have:pI (V.str x) (V.str y)=false:=by
    show (x == y)=false;exact cQ.mpr e
   simp[*]
theorem Kv {p q:Prop}{c:Bool}(h:c=false) (g:q):if c=true then p else q:=by rw[aI (by rw[h];decide)];exact g
theorem Ip {p q:Prop}{c:Bool}(h:c=true) (g:p):if c=true then p else q:=by rw[aP h];exact g
theorem Uq:∀ (j:Aa (Af×Af×Aa Af)) (kn:Aa Af) (l:Af->Int),(∀ x∈kn,Bit (l x))->∀ x∈kn++j.map (·.1),Bit (tN l j x)
 | [],kn,l,h,x,a=>h x (by simpa using a)
 | g::j,kn,l,h,x,a=>by
  refine Uq j (kn++[g.1]) _ (λy b=>?_) x (by simpa using a);by_cases e:y=g.1
  .show Bit (if y=g.1 then _ else _);rw[aP e];exact L3 _ _
  .show Bit (if y=g.1 then _ else _);rw[aI e];rcases aQ.mp b with z | z
   .exact h y z
   .exact absurd (aM.mp z) e
def Mn:RD:=λf d e=>∃ (C:Cel) (a:Aa (hG×D)) (c:Af->Int),d=[nH C,.k a]/\GC C/\qU a C.ins c/\∀ b,qU b C.names (rK C c)->b.length<=200->e (.o (.k b))
theorem Fp [Decidable p]:(if decide p=true then (1:Int) else 0)=if p then 1 else 0:=by
 by_cases h:p
 .rw[aP (cX h),aP h]
 .rw[aI (by simp[h]),aI h]
theorem ER:(["one","known"]:Aa Af).Nodup:=by decide +kernel
section
variable {P:Ah}{K:mZ}
theorem Si:FnScope ["word","bits","total"] ["word","bits"] (nS F8):=pO
theorem AG (T:Txt g):pQ P w K g base 1 "_law_gate_bit" F8 ["word","bits"] Ds:=by
 refine pZ Si λf Q A G s H E i Y a b j X=>?_
 obtain⟨wd,bs,rfl,Z,ok,y⟩:=X;have fin:∀ z:Int,z=pK wd bs->a (.v (.int z)):=λz e=>by rw[e];exact y
 have k:=Bp bs;have st:∀ (e:Af) (t u:qG),(wd=e->t i { nx:=λ_=>a (.v .e),rt:=a } [.v (.str wd),.v (.l (bs.map D.int)),.v (.int bs.sum)])->(¬ wd=e->u i { nx:=λ_=>a (.v .e),rt:=a } [.v (.str wd),.v (.l (bs.map D.int)),.v (.int bs.sum)]) ->
   (∀ L M x,L.rt=M.rt->t i L x->t i M x)->F4 (zG (uX (xC (Hh false) 0 (cd (.str e)))) t Ij) u i { nx:=λ_=>a (.v .e),rt:=a } [.v (.str wd),.v (.l (bs.map D.int)),.v (.int bs.sum)]:=λe t u R S V =>
  ⟨rfl,Br (λz=>V { nx:=λ_=>a (.v .e),rt:=a } _ _ rfl (R z)) λz=>S z⟩
 refine⟨_,(hO (nX 2 Si.nd (pC (Ct rfl) Eg T.sum hZ (dK (cN 1) hH))) (hO (pE (qT (sA b.units) (pF false) (pv 0) rR) (nJ (oC (uG Eu Do T.int iC (dK (Gp (sA b.units) (pF false) (pv 2) (pC vM vW T.len cF (dK (cN 1) hH))) hH)))) pG) (hO (pE (qT (sA b.units) (pF false) (pv 0) rR) (nJ (oC (uG Eu Do T.int iC (dK (Gp L0 Lv (pv 2) hV) hH)))) pG) (hO (pE (qT (sA b.units) (pF false) (pv 0) rR) (nJ (oC (sP rB B9 2 hV))) pG) (hO (pE (qT (sA b.units) (pF false) (pv 0) rR) (nJ (oC (uG Eu Do T.int iC (dK (Gp Ql Pg (pv 2) hV) hH)))) pG) (hO (pE (qT (sA b.units) (pF false) (pv 0) rR) (nJ (oC (uG Eu Do T.int iC (dK (Gp (sA b.units) (pF false) (pv 2) hV) hH)))) pG) (nJ (oC (FT cC kU PySem.F.type_list_index U3 FO (rM (dK rR (dK rR hH))) (dK (cN 0) hH)))))))))),?_⟩;refine nG (λx=>x=_) (λN W=>⟨bs,k,W _ rfl⟩) ?_;rintro _ rfl;refine st _ _ _ (λe=>⟨rfl,rfl,_,rfl,fin _ ?_⟩) (λc=>?_) (λ_ _ _ e=>by unfold sH;rw[e];exact id)
 .unfold pK;rw[aP e];show (if decide (bs.sum=(((bs.map D.int).length:Nat):Int))=true then (1:Int) else 0)=_;rw[aA];exact Fp
 refine st _ _ _ (λe=>⟨rfl,fin _ ?_⟩) (λh=>?_) (λ_ _ _ e=>by unfold sH;rw[e];exact id)
 .unfold pK;rw[aI c,aP e];exact Fp
 refine st _ _ _ (λe=>⟨rfl,by show (0:Int)<2;decide,fin _ ?_⟩) (λn=>?_) (λ_ _ _ e=>by unfold sH;rw[e];exact id)
 .unfold pK;rw[if_neg c,if_neg h,if_pos e]
 refine st _ _ _ (λe=>⟨rfl,fin _ ?_⟩) (λq=>?_) (λ_ _ _ e=>by unfold sH;rw[e];exact id)
 .unfold pK;rw[aI c,aI h,aI n,aP e];exact Fp
 refine st _ _ _ (λe=>⟨rfl,fin _ ?_⟩) (λB=>?_) (λ_ _ _ e=>by unfold sH;rw[e];exact id)
 .unfold pK;rw[aI c,aI h,aI n,aI q,aP e];exact Fp
 refine⟨by show 2<=1000;decide,?_⟩;rcases HH ok c h n q B with rfl | rfl
 .refine⟨rfl,[.str "nil",.str "one"],.str "one",1,rfl,rfl,by show 1<2;decide,λz d=>?_,λm z O d=>?_,fin _ ?_⟩
  .cases d;decide +kernel
  .obtain rfl:m=0:=by omega
   cases d;decide +kernel
  .unfold pK;rw[if_neg c,if_neg h,if_neg n,if_neg q,if_neg B,if_pos rfl];rfl
 .refine⟨rfl,[.str "nil",.str "one"],.str "nil",0,rfl,rfl,by show 0<2;decide,λz d=>?_,λm z O d=>absurd O (jI _),fin _ ?_⟩
  .cases d;decide +kernel
  .unfold pK;rw[if_neg c,if_neg h,if_neg n,if_neg q,if_neg B,if_neg (by decide +kernel)];rfl
theorem Az:FnScope ["cell","bits","known","name","word","names"] ["cell","bits"] (nS Hg):=pO
theorem LJ (T:Txt mg) (l:Kn P w K mg base 1 "_law_gate_bit" F8 ["word","bits"] Ds)
: pQ P w K mg base 2 "_law_all_bits" Hg ["cell","bits"] Mn:=by
 refine pZ Az λf ab A aa s H E dk ds Φ hr Q hR=>?_
 obtain⟨C,t,F,rfl,W,h0,J⟩:=hR;have li:=W.li;have lg:=W.lg;refine⟨_,(hO (nX 2 Az.nd M7) (hO (qL (oP (nT Q 0 hV)) (nM 3 Az.nd) (nJ (uP (n:=2) Q (nT Q 1 (cN 3)) (pv 2) (cN 3)))) (hO (qL (oP (nT Q 0 hV)) (yE (n:=3) rfl (rD (nM 3 Az.nd) (rD (nM 4 Az.nd) (rD (nM 5 Az.nd) xO)))) (nJ (uP (n:=2) Q (oV l hr (dK (cN 4) (dK (qB ["one"] ["known"] [2] (oP (cN 5)) (λ_ _ _ _ _=>(nM 0 ER)) (λ_ _ _ _ _=>(nT Q 1 (cN 0)))) hH))) (pv 2) (cN 3)))) (nJ (oC (wI 2 (pv 2))))))),?_⟩;refine nG (λc=>c=[.v (nH C),.v (.k t),.o (.k []),.n,.n,.n]) (λN R=>R _ rfl) ?_;rintro _ rfl;refine nG (λc=>∃ (a:Aa (hG×D)) (d:Sl),c=[.v (nH C),.v (.k t),.o (.k a),d,.n,.n]/\qU a C.ins F/\a.length<=40) (λN R=>?_) ?_
 .refine qI (C.ins.map D.str) _ (λΨ h=>⟨rfl,_,rfl,h⟩)
   (λi c=>∃ (a:Aa (hG×D)) (d:Sl),c=[.v (nH C),.v (.k t),.o (.k a),d,.n,.n]/\qU a (C.ins.take i) F/\a.length<=i) ⟨_,.n,rfl,λx L=>by simp at L,by simp⟩ ?_ ?_
  .rintro i x c L ⟨a,d,rfl,m,G⟩;obtain⟨y,Y,rfl⟩:=qP L;have r:i<C.ins.length:=(aG.mp Y).1;have hm:=aK Y;have tk:C.ins.take (i+1)=C.ins.take i++[y]:=by rw[bP,Y];rfl
   have nd:C.ins.Nodup:=(bM.mp W.nd).1;have z:y∉C.ins.take i:=λq=>by
    have e:C.ins=C.ins.take i++y::C.ins.drop (i+1):=by
     obtain⟨r,rfl⟩:=aG.mp Y;rw[lF,iB]
    rw[e] at nd;exact (bM.mp nd).2.2 y q y (by simp) rfl
   refine⟨rfl,.int (F y),?_,rfl,_,Bg (by omega),oA a (Sum.inr y) (.int (F y)),_,rfl,?_,?_⟩
   .show some (nK t (Sum.inr y))=_;rw[(h0 y hm).1]
   .rw[tk];have:=m.step (h0 y hm).2 z;refine λx L=>?_
    have q:=this x L;dsimp only at q;by_cases e:x=y
    .subst e;rw[aP rfl] at q;exact q
    .rw[aI e] at q;exact q
   .have:=zQ a (Sum.inr y:hG) (.int (F y));omega
  .rintro c ⟨a,d,rfl,m,G⟩;rw[aA,bJ (aR _)] at m;rw[aA] at G;exact R _ ⟨a,d,rfl,m,by omega⟩
 rintro _ ⟨ae,d,rfl,Z,ac⟩;refine nG (λc=>∃ (a:Aa (hG×D)) (d M O:Sl),c=[.v (nH C),.v (.k t),.o (.k a),d,M,O]/\qU a C.names (rK C F)/\a.length<=200) (λN R=>?_) ?_
 .refine qI (C.gates.map G5) _ (λΨ h=>⟨rfl,_,rfl,h⟩)
   (λi c=>∃ (a:Aa (hG×D)) (d M O:Sl),c=[.v (nH C),.v (.k t),.o (.k a),d,M,O]/\qU a (C.ins++(C.gates.take i).map (·.1)) (tN F (C.gates.take i))/\a.length<=100+i) ⟨_,d,.n,.n,rfl,by simpa [tN] using Z,by omega⟩ ?_ ?_
  .rintro i x c L ⟨a,d,M,O,rfl,m,G⟩;obtain⟨g,B,rfl⟩:=qP L;obtain⟨S,X⟩:=W.gt.at B;have r:i<C.gates.length:=(aG.mp B).1;have z:g.1∉C.ins++(C.gates.take i).map (·.1):=λq=>by
    have nd:(C.ins++C.gates.map (·.1)).Nodup:=W.nd;have e:C.gates=C.gates.take i++g::C.gates.drop (i+1):=by
     obtain⟨r,rfl⟩:=aG.mp B;rw[lF,iB]
    rw[e,bF,<- bI] at nd;exact (bM.mp nd).2.2 g.1 q g.1 (by simp) rfl
   have tk:C.gates.take (i+1)=C.gates.take i++[g]:=by rw[bP,B];rfl
   generalize U:tN F (C.gates.take i)=u at m;have V:∀ p∈g.2.2,Bit (u p):=λp I=>(m p (X p I)).2
   refine⟨rfl,rfl,?_⟩;unfold Jc zK aC vd;simp only[List.set_cons_succ,List.set_cons_zero,iS,iR];refine rA g.2.2 D.str (λo=>.int (u o)) _ (λΨ h=>h) (by rcases S.ok with⟨_,q | q⟩ | ⟨_,q⟩ | ⟨_,q⟩ | ⟨_,q⟩ | ⟨_,q⟩<;>rw[q]<;>decide) (λj o ys Nx e Z h2=>?_) ?_
   .refine⟨rfl,.int (u o),?_,Z,h2⟩;show some (nK a (Sum.inr o))=_;rw[(m o (X o (aK e))).1]
   refine⟨g.2.1,g.2.2.map u,by rw[bB];rfl,(λb hb=>by obtain⟨p,I,rfl⟩:=aN.mp hb;exact V p I),by rw[aA];exact S,.inl rfl,rfl,_,Bg (by omega),oA a (Sum.inr g.1) (.int (pK g.2.1 (g.2.2.map u))),_,_,_,rfl,?_,?_⟩
   .rw[tk,Kt,U,bF,<- bI];exact m.step (L3 _ _) z
   .have:=zQ a (Sum.inr g.1:hG) (.int (pK g.2.1 (g.2.2.map u)));omega
  .rintro c ⟨a,d,M,O,rfl,m,G⟩;rw[aA,bJ (aR _)] at m;rw[aA] at G;exact R _ ⟨a,d,M,O,rfl,m,by omega⟩
 rintro _ ⟨a,d,M,O,rfl,m,G⟩;exact J a m G
end
theorem Vd:(["bits"]:Aa Af).Nodup:=by decide +kernel
noncomputable def pH:Nat->Aa (Aa Int)
 | 0=>[[]]
 | n+1=>(pH n).map (0::·)++(pH n).map (1::·)
def tQ (b:Aa Int):D:=.t (b.map D.int)
theorem Dp:∀ n,(pH n).length=2 ^ n
 | 0=>rfl
 | n+1=>by unfold pH;rw[List.length_append,List.length_map,List.length_map,Dp n,Nat.pow_succ];omega
theorem B3:∀ {n:Nat}{b:Aa Int},b∈pH n->b.length=n/\∀ x∈b,x=0\/x=1
 | 0,b,h=>by rw[aM.mp h];exact⟨rfl,λ_ z=>nomatch z⟩
 | n+1,b,h=>by
  unfold pH at h;rcases aQ.mp h with h | h
  all_goals
   obtain⟨c,e,rfl⟩:=aN.mp h;obtain⟨a,d⟩:=B3 e;refine⟨by rw[bS,a],λx f=>?_⟩;rcases aH.mp f with q | q
   .first | exact .inl q | exact .inr q
   .exact d x q
theorem Cy (h:n<=6):2 ^ n<=64:=iL (by decide) h
def O5:RD:=λc a b=>∃ n:Nat,a=[.int n]/\n<=6/\b (.o (.l ((pH n).map tQ)))
section
variable {P:Ah}{K:mZ}
theorem Ge:FnScope ["count","found","step"] ["count"] (nS Ep):=pO
theorem IU (T:Txt g):pQ P w K g base 1 "all_bits" Ep ["count"] O5:=by
 refine pZ Ge λf z A t s H E O Q Y W X F=>?_
 obtain⟨n,rfl,V,q⟩:=F;refine⟨_,(hO (nX 1 Ge.nd (rM (dK (wN hH) hH))) (hO (qL (Ak (by rfl) T.range (cN 0)) (nM 2 Ge.nd) (nJ (nX 1 Ge.nd (qF tU tV (qB ["bits"] [] [] (oP (cN 1)) (λ_ _ _ _ _=>(nM 0 Vd)) (λ_ _ _ _ _=>(qF tU tV (wN (dK hV hH)) (cN 0)))) (qB ["bits"] [] [] (oP (cN 1)) (λ_ _ _ _ _=>(nM 0 Vd)) (λ_ _ _ _ _=>(qF tU tV (wN (dK hV hH)) (cN 0)))))))) (nJ (oC (wI 1 (pv 1)))))),?_⟩;refine nG (λc=>c=[.v (.int n),.o (.l ((pH 0).map tQ)),.n]) (λN m=>?_) ?_
 .exact⟨by show 0<=1000;decide,by show 1<=1000;decide,m _ rfl⟩
 rintro _ rfl;refine nG (λc=>∃ a,c=[.v (.int n),.o (.l ((pH n).map tQ)),a]) (λN m=>?_) ?_
 .refine qI (sM 0 n) _ (λu h=>⟨by omega,by omega,h⟩) (λi c=>∃ a,c=[.v (.int n),.o (.l ((pH i).map tQ)),a]) ⟨_,rfl⟩ ?_ ?_
  .rintro i x c L ⟨a,rfl⟩;obtain⟨R,rfl⟩:=Nn L;have B:=Cy (show i<=6 by omega);have S:=Dp i;unfold gN rQ d2;refine rA (pH i) tQ (λb=>tQ (0::b)) _ (λu h=>h) (by omega) (λj b M y e d k=>?_) ?_
   .have G:=(B3 (aK e)).1;refine⟨by show 1<=1000;decide,?_,d,k⟩;show [D.int 0].length+(b.map D.int).length<=100000;rw[aA];show 1+b.length<=100000;omega
   refine rA (pH i) tQ (λb=>tQ (1::b)) _ (λu h=>h) (by omega) (λj b M y e d k=>?_) ?_
   .have G:=(B3 (aK e)).1;refine⟨by show 1<=1000;decide,?_,d,k⟩;show [D.int 1].length+(b.map D.int).length<=100000;rw[aA];show 1+b.length<=100000;omega
   refine⟨by rw[aA,aA];omega,.v (.int (0+(i:Int))),?_⟩
   .show _=[_,Sl.o (.l ((pH (i+1)).map tQ)),_];rw[show pH (i+1)=(pH i).map (0::·)++(pH i).map (1::·) from rfl,bF,bB,bB];rfl
  .rintro c ⟨a,rfl⟩;have e:(sM 0 n).length=n:=by simp[sM]
   rw[e];exact m _ ⟨a,rfl⟩
 rintro _ ⟨a,rfl⟩;exact q
end
theorem Ic:∀ g:Aa Af,yW (g.map D.str)=some (g.map Sum.inr)
 | []=>rfl
 | x::r=>by rw[aO];unfold yW;rw[Ic r];rfl
theorem Q0 (f:Af->Int) (x:Af):∀ (j:Aa Af) (g:Aa (hG×D)),nK (sC g (j.map λo=>((Sum.inr o:hG),D.int (f o)))) (Sum.inr x)=if x∈j then some (.int (f x)) else nK g (Sum.inr x)
 | [],g=>by rw[aI bA];rfl
 | o::r,g=>by
  show nK (sC (oA g (Sum.inr o) (D.int (f o))) (r.map λo=>((Sum.inr o:hG),D.int (f o)))) (Sum.inr x)=_;rw[Q0 f x r,zP];by_cases h:x∈r
  .rw[aP h,aP (aJ _ h)]
  .rw[aI h];by_cases e:o=x
   .rw[aP (by rw[e]),aP (by rw[e];exact aE),e]
   .rw[aI (λz=>e (gC z)),aI (λz=>(aH.mp z).elim (λq=>e q.symm) h)]
theorem Np (f:l->o) (g:l->p):∀ j:Aa l,(j.map f).zip (j.map g)=j.map λx=>(f x,g x)
 | []=>rfl
 | x::r=>by rw[aO,aO,aO,cU,Np f g r]
theorem U5:∀ (j:Aa (Af×Af×Aa Af)) (l:Af->Int) (x:Af),x∉j.map (·.1)->tN l j x=l x
 | [],_,_,_=>rfl
 | g::j,l,x,h=>by
  show tN (Px l g) j x=l x;rw[U5 j _ x λz=>h (aJ _ z)];exact aI λz=>h (by rw[z];exact aE)
theorem BB (j:GC C) (g:Af->Int) (l:x∈C.ins):rK C g x=g x :=
 U5 C.gates g x λz=>(bM.mp j.nd).2.2 x l x z rfl
theorem Sx:∀ (b a:Aa (hG×D)),(sC a b).length<=a.length+b.length
 | [],a=>aR _
 | p::b,a=>by
  have c:=Sx b (oA a p.1 p.2);have d:=zQ a p.1 p.2;show (sC (oA a p.1 p.2) b).length<=_;rw[bS];omega
def Sz:RD:=λf d e=>∃ (C:Cel) (a:Aa (hG×D)) (c:Af->Int),d=[nH C,.k a]/\GC C/\qU a C.ins c/\a.length<=100/\∀ b,(∀ x∈C.ins++C.outs,nK b (Sum.inr x)=some (.int (rK C c x)))->b.length<=200->e (.o (.k b))
section
variable {P:Ah}{K:mZ}
theorem Qb:FnScope ["cell","bits","known"] ["cell","bits"] (nS Hk):=pO
theorem BP (T:Txt j) (g:Kn P w K j base 2 "told_by" Ha ["cell","bits"] S1):pQ P w K j base 3 "side_bits" Hk ["cell","bits"] Sz:=by
 refine pZ Qb λf z A q s H E V W Y Q R M=>?_
 obtain⟨C,b,a,rfl,c,u,X,n⟩:=M;refine⟨_,(hO (nX 2 Qb.nd (uG (Of rfl) Pz T.dict jF (dK (cN 1) hH))) (hO (zD (Bk PySem.F.plainAttrs_dict PySem.F.slot_dict_update PySem.F.type_dict_update Vr MW (pv 2) (dK (Oo rfl (by rfl) T.dict (by rfl) T.zip (dK (nT R 0 hV) (dK (oV g Q (dK (cN 0) (dK (cN 1) hH))) hH))) hH))) (nJ (oC (wI 2 (pv 2)))))),?_⟩;refine nG (λt=>t=[.v (nH C),.v (.k b),.o (.k b)]) (λN e=>?_) ?_
 .exact e _ rfl
 rintro _ rfl;refine nG (λt=>∃ d,(∀ x∈C.ins++C.outs,nK d (Sum.inr x)=some (.int (rK C a x)))/\d.length<=200/\t=[.v (nH C),.v (.k b),.o (.k d)]) (λN e=>?_) ?_
 .have O:=c.lo;refine⟨rfl,rfl,_,rfl,C,b,a,rfl,c,u,.inl rfl,true,true,_,_,C.outs.map Sum.inr,rfl,rfl,Ic C.outs,by rw[aA];omega,?_⟩;have L:(C.outs.map (Sum.inr:Af->hG)).zip (C.outs.map λo=>D.int (rK C a o))=oJ (C.outs.map λo=>(o,rK C a o)):=by
   rw[Np];unfold oJ;rw[List.map_map];rfl
  have G:sC [] (oJ (C.outs.map λo=>(o,rK C a o)))=oJ (C.outs.map λo=>(o,rK C a o)):=J5 (by rw[bB];simpa [mF] using c.ond);have B:oJ (C.outs.map λo=>(o,rK C a o))=C.outs.map λo=>((Sum.inr o:hG),D.int (rK C a o)):=by unfold oJ;rw[List.map_map];rfl
  rw[L,G];refine⟨?_,e _ ⟨_,λx S=>?_,?_,rfl⟩⟩
  .unfold oJ;rw[List.length_map,List.length_map];omega
  .rw[B,Q0];by_cases m:x∈C.outs
   .rw[aP m]
   .rw[aI m];have y:x∈C.ins:=(aQ.mp S).resolve_right m;rw[BB c a y];exact (u x y).1
  .refine bD (Sx _ _) ?_;unfold oJ;rw[List.length_map,List.length_map];omega
 rintro _ ⟨d,i,h,rfl⟩;exact n _ i h
end
end Lw
namespace L2
open PySem PySem.Spec PyProof.Rows
def BM:Nat:=2 ^ 4480
def BD:Nat:=2 ^ 8990
theorem MX:0<BM:=mG (by decide)
theorem HZ:0<BD:=mG (by decide)
theorem ME:2*BM*BM<BD:=by decide +kernel
def K7 (i j:Int):Prop:=i.natAbs<BM/\j.natAbs<BM
def K1 (_ j:Int):Prop:=j≠0/\j.natAbs<BD
section
variable {X:Cx}{K:mZ}
theorem yV:nR X (binaryOp .Mult) (rI K7 λi j=>.int (i*j)):=zF λ_ _ _ _ _ _ _ a q=>mul_int q (mulOk_of_bits (m:=4480) (n:=4480) (intBits_le_iff.mpr a.1) (intBits_le_iff.mpr a.2) (by decide))
abbrev Xm:O2:=fI K7 λi j=>.int (i*j)
theorem yR:pD K (rI K7 λi j=>.int (i*j)) Xm:=Cz (λ_ _ h=>h) λ_ _ _ _=>.int _
theorem Fm:nR X (binaryOp .FloorDiv) (rI K1 λi j=>.int (i.fdiv j)):=zF λi j _ _ _ _ _ a q=>by
 refine floordiv_int a.1 q (.inl (PyProof.noPylong_of_log2 (aW ((Nat.log2_lt (n:=j.natAbs) (by have:=a.1;omega)).mpr a.2) (by decide))))
abbrev Wp:O2:=fI K1 λi j=>.int (i.fdiv j)
theorem Fa:pD K (rI K1 λi j=>.int (i.fdiv j)) Wp:=Cz (λ_ _ h=>h) λ_ _ _ _=>.int _
def Wg:OC:=λa b=>match a with
 | [.int i]=>b (.v (.int i.natAbs))
 | _=>False
theorem C9:qR K (λg H Q=>∃ i,g=[.int i]/\Q (.int (if i<0 then -i else i)) H) Wg:=by
 intro B L H b g h Q hd c a k;cases b with
 | nil=>exact False.elim a
 | cons d b =>
  cases d<;>first | exact False.elim a | skip<;>cases b<;>first | exact False.elim a | skip
  rename_i i
  obtain⟨x,rfl,f⟩:=rV c;cases f;have e:(if i<0 then -i else i)=((i.natAbs:Nat):Int):=by split<;>omega
  refine⟨i,rfl,?_⟩;rw[e];exact k _ _ H a (hd.pushF (.int _))
def fV (t:nN):nN:=λb e c=>t b e λr a=>∃ d,sd r=some d/\c (.v d) a
theorem Rs {e:Expr}{t:nN}(h:PD X e t):PD X e (fV t):=h.mono λu H Q a=>a.elim λB n T s f hd i k =>
 ⟨B,n,T,_,f,hd,i,λr b v c m d1 ⟨d,e,q⟩=>k _ b v c m (d1.thaw e) q⟩
end
section
variable {X:Cx}{K:mZ}
theorem Yz {bs:Aa Int}{g:Aa Ac}(r:nE (bs.map V.int) g){i:Nat}{v:Ac}(h:g[i]?=some v):∃ b t,bs[i]?=some b/\v = .int b t:=by
 have d:=r.length;rw[aA] at d;have f:i<g.length:=(aG.mp h).1;have a:bs[i]?=some (bs[i]'(by omega)):=aF (by omega);obtain⟨u,c,e⟩:=r.get (i:=i) (x:=V.int (bs[i]'(by omega))) (by rw[aU,a];rfl);rw[h] at c;cases c;obtain⟨t,rfl⟩:=e;exact⟨_,t,a,rfl⟩
theorem HP (bs:Aa Bool):((List.range bs.length).any λi=>(bs[i]?).getD true)=bs.any id:=by
 have e:(List.range bs.length).map (λi=>(bs[i]?).getD true)=bs:=by
  apply List.ext_getElem (by simp);intro i p q;simp[q]
 calc ((List.range bs.length).any λi=>(bs[i]?).getD true)=((List.range bs.length).map λi=>(bs[i]?).getD true).any id:=by rw[List.any_map];rfl
  _=bs.any id:=by rw[e]
def Tn (K:mZ):Aa V->Hp->VK->Prop:=λc H Q=>∃ (p:Ad) (a:Aa Int),c=[.ref p]/\eH K H p (a.map V.int)/\Q (.b (a.any (· != 0))) H
theorem FW (g:X.calm=true):oH X (.builtin "any") (Tn X.K):=by
 intro n s R H P O Q I r h;obtain⟨p,d,rfl,B,q⟩:=h;obtain⟨u,rfl,E⟩:=qJ r;cases E;obtain⟨c,w,D,_⟩:=I.list B;have f:=D.isList;have a:=w.length;rw[aA] at a;have k:p<s.heap.objs.size:=by obtain⟨_,e,_⟩:=id f;exact aT e
 refine call_any_walk (iG f ?_);refine⟨s.heap.objs.size,[s.heap.objs.size,p],[s.heap.objs.size],c.toArray.size,_,_,λi=>((d.map (· != 0))[i]?).getD true,rfl,Walks.list (A:=X.A.in1) (I.ok.hd g) _ p (bH k) c.toArray,⟨⟨_,bC _ rfl,rfl,rfl⟩,f.push _⟩,λi v M G F y m=>?_,λL N hk=>?_⟩
 .obtain⟨b,t,e,rfl⟩:=Yz w (by simpa using y);simp only[aU,e,Option.map_some,Option.getD_some] at m;exact truthy_int m
 .have e:((List.range c.toArray.size).any λi=>((d.map (· != 0))[i]?).getD true)=d.any (· != 0):=by
   have:=HP (d.map (· != 0));rw[aA,a] at this;rw[aV,this,List.any_map];rfl
  rw[e];exact⟨.b _,H,I.kept λb x e=>hk b x (λz=>by rw[aM.mp z] at e;exact eQ _ (aT e)) (aL _ e),rfl,q⟩
def FC:OC:=λc e=>match c with
 | [.l d]=>∃ a,xI d=some a/\e (.v (.b (a.any (· != 0))))
 | _=>False
theorem HQ:qR K (Tn K) FC:=by
 intro B L H e s t Q hd i c k;cases e with
 | nil=>exact False.elim c
 | cons d e =>
  cases e with
  | cons _ _=>cases d<;>exact False.elim c
  | nil =>
   cases d<;>first | exact False.elim c | skip
   obtain⟨x,rfl,n⟩:=rV i;obtain⟨m,f,c⟩:=c;obtain⟨a,q,rfl,h,r⟩:=n.lst_inv;rw[Fo f r] at h;exact⟨a,m,rfl,eH.of h,k _ _ H c (hd.pushF (.b _))⟩
end
end L2
namespace EQ
def sm (g:Nat->Int):Aa Nat->Int
 | []=>0
 | s::S=>g s+sm g S
theorem C7 (f g:Nat->Int):∀ S,sm (λs=>f s+g s) S=sm f S+sm g S
 | []=>rfl
 | s::S=>by simp only[sm,C7 f g S];omega
theorem vD (c:Int) (g:Nat->Int):∀ S,sm (λs=>c*g s) S=c*sm g S
 | []=>by simp[sm]
 | s::S=>by simp only[sm,vD c g S,jC]
theorem yY {f g:Nat->Int}:∀ {S:Aa Nat},(∀ s∈S,f s=g s)->sm f S=sm g S
 | [],_=>rfl
 | s::S,h=>by
  simp only[sm];rw[h s (by simp),yY λt a=>h t (by simp[a])]
theorem wT {f:Nat->Int}{S:Aa Nat}(h:∀ s∈S,f s=0):sm f S=0:=by
 induction S with
 | nil=>rfl
 | cons s S b=>simp only[sm];rw[h s (by simp),b λt a=>h t (by simp[a])];rfl
theorem Ub (f:Nat->Int){S:Aa Nat}{s:Nat}(h:s∈S):sm f S=f s+sm f (S.erase s):=by
 induction S with
 | nil=>cases h
 | cons t S b =>
  by_cases e:t=s
  .subst e;simp[sm]
  .have a:s∈S:=by
    cases h with
    | head=>exact absurd rfl e
    | tail _ h=>exact h
   rw[List.erase_cons_tail (by simpa using e)];simp only[sm];rw[b a];omega
theorem DK:∀ (n:Nat) (R:Aa (Nat->Int)) (S:Aa Nat),R.length=n->S.Nodup->n<S.length ->
  ∃ w:Nat->Int,(∃ s∈S,w s≠0)/\(∀ s,s∉S->w s=0)/\∀ f∈R,sm (λs=>f s*w s) S=0:=by
 intro n;induction n with
 | zero =>
  intro R S d _ B;cases R with
  | cons _ _=>cases d
  | nil =>
  cases S with
  | nil=>cases B
  | cons t S =>
   refine⟨λs=>if s=t then 1 else 0,⟨t,by simp,by simp⟩,λs a=>?_,λf K=>by cases K⟩;have:s≠t:=λe=>a (by simp[e])
   simp[this]
 | succ n G =>
  intro R S d y B;cases R with
  | nil=>cases d
  | cons f R =>
  have d:R.length=n:=by simpa using d
  by_cases F:∀ s∈S,f s=0
  .obtain⟨w,H,q,v⟩:=G R S d y (by omega);refine⟨w,H,q,λg i=>?_⟩;cases i with
   | head=>exact wT λs a=>by simp[F s a]
   | tail _ i=>exact v g i
  .have ⟨t,z,x⟩:∃ t,t∈S/\f t≠0:=by
    apply aX;intro m;exact F λs a=>aX λh=>m ⟨s,a,h⟩
   have D:(S.erase t).length=S.length-1:=kE z;have b:∀ s,s∈S.erase t->s≠t/\s∈S:=λs a=>(kF y).mp a
   obtain⟨w,⟨u,E,A⟩,q,v⟩:=G (R.map λg s=>f t*g s-g t*f s) (S.erase t)
    (by rw[aA,d]) (y.erase t) (by omega)
   obtain⟨c,m⟩:∃ c,sm (λs=>f s*w s) (S.erase t)=c:=⟨_,rfl⟩;refine⟨λs=>if s=t then -c else f t*w s,⟨u,(b u E).2,?_⟩,λs a=>?_,λg i=>?_⟩
   .simp only[(b u E).1,fJ];exact fX x A
   .have h:s≠t:=λe=>a (e▸z)
    simp only[h,fJ];rw[q s λL=>a (b s L).2];exact cD _
   .have key:∀ k:Nat->Int,sm (λs=>k s*(if s=t then -c else f t*w s)) S
      = -(k t*c)+f t*sm (λs=>k s*w s) (S.erase t):=λk=>by
     rw[Ub _ z,yY (g:=λs=>f t*(k s*w s)) λs a=>by
      simp only[(b s a).1,fJ];exact eM _ _ _,vD]
     simp only[gW];rw[mX]
    rw[key g];cases i with
    | head=>rw[m];omega
    | tail _ i =>
     have:=v _ (bQ i);rw[yY (g:=λs=>f t*(g s*w s)+(-(g t))*(f s*w s)) λs _=>by
      rw[mY,dD,dD,mH];rfl,C7,vD,vD,m,mH] at this
     omega
theorem Fb {f:Nat->Int}:∀ {S T:Aa Nat},S.Nodup->T.Nodup->(∀ s∈S,s∈T)->(∀ s∈T,s∉S->f s=0) ->
  sm f T=sm f S:=by
 intro S;induction S with
 | nil=>intro T _ _ _ h;rw[wT λs b=>h s b (by simp)];rfl
 | cons t S n =>
  intro T i c b m;have k:=b t (by simp);have a:=bN.mp i;rw[Ub f k];simp only[sm];rw[n a.2 (c.erase t) (λs h=>(kF c).mpr ⟨λe=>a.1 (e▸h),b s (by simp[h])⟩) λs h d=>by
    have h:=(kF c).mp h;exact m s h.2 (by simp[h.1,d])]
/-- rows with own places (a row is not 0 at its own,and rows of a list behind are 0 there) that come to 0 only where
fewer rows do: there are not more of them -/
theorem few {T:Aa Nat}(o:T.Nodup){R:Aa (Nat->Int)}{P:Aa (Nat×(Nat->Int))}(g:(P.map (·.1)).Nodup)
  (r:∀ p∈P,p.1∈T) (j:∀ p∈P,p.2 p.1≠0) (l:P.Pairwise λp q=>q.2 p.1=0)
  (hk:∀ w:Nat->Int,(∀ f∈R,sm (λs=>f s*w s) T=0)->∀ p∈P,sm (λs=>p.2 s*w s) T=0) :
  P.length<=R.length:=by
 apply aX;intro i;obtain⟨w,⟨u,A,hw⟩,x,m⟩:=DK R.length R (P.map (·.1)) rfl g (by rw[aA];omega);have d:∀ s∈P.map (·.1),s∈T:=λs h=>by
  obtain⟨p,a,rfl⟩:=aN.mp h;exact r p a
 have c:∀ f:Nat->Int,sm (λs=>f s*w s) T=sm (λs=>f s*w s) (P.map (·.1)):=λf =>
  Fb g o d λs _ h=>by rw[x s h];exact cD _
 have n:=hk w λf z=>by rw[c];exact m f z
 have y:∀ p∈P,sm (λs=>p.2 s*w s) (P.map (·.1))=0:=λp a=>by rw[<- c];exact n p a
 clear n c d m hk i;have:∀ (Q:Aa (Nat×(Nat->Int))) ,(Q.map (·.1)).Nodup->(∀ p∈Q,p.2 p.1≠0)->(Q.Pairwise λp q=>q.2 p.1=0) ->
   (∀ p∈Q,sm (λs=>p.2 s*w s) (Q.map (·.1))=0)->∀ p∈Q,w p.1=0:=by
  intro Q;induction Q with
  | nil=>intro _ _ _ _ p a;cases a
  | cons q Q B =>
   intro g j l t;have e:=List.pairwise_cons.mp l;have k:=bN.mp g;have b:=B k.2 (λp a=>j p (by simp[a])) e.2 λp a=>by
    have:=t p (by simp[a]);simp only[aO,sm] at this;rw[e.1 p a] at this;simpa using this
   intro p a;cases a with
   | tail _ a=>exact b p a
   | head =>
    have:=t q (by simp);simp only[aO,sm] at this;rw[wT λs h=>by
     obtain⟨p,a,rfl⟩:=aN.mp h;rw[b p a];exact cD _] at this
    have v:q.2 q.1*w q.1=0:=by simpa using this
    exact (cP.mp v).resolve_left (j q (by simp))
 obtain⟨p,a,rfl⟩:=aN.mp A;exact hw (this P g j l y p a)
def ix (v:Aa Int) (k:Nat):Int:=v.getD k 0
def gc (l:Aa Int):Nat:=l.foldl (λa n=>Nat.gcd a n.natAbs) 0
def wd (l:Aa Int):Aa Int:=l.map (·/((max 1 (gc l):Nat):Int))
def cl (v b:Aa Int) (k:Nat):Aa Int :=
 if ix v k=0 then v else wd (List.zipWith (λx y=>ix b k*x-ix v k*y) v b)
abbrev dot (m:Nat) (v:Aa Int) (w:Nat->Int):Int:=sm (λs=>ix v s*w s) (List.range m)
theorem JB {d:Nat}{x:Int}(h:d ∣ x.natAbs):(d:Int) ∣ x:=fZ.mp (by simpa using h)
theorem N9 {d:Nat}{x:Int}(h:(d:Int) ∣ x):d ∣ x.natAbs:=by simpa using fZ.mpr h
theorem Nl:∀ (l:Aa Int) (a:Nat),(l.foldl (λa n=>Nat.gcd a n.natAbs) a) ∣ a/\∀ x∈l,((l.foldl (λa n=>Nat.gcd a n.natAbs) a:Nat):Int) ∣ x
 | [],a=>⟨Nat.dvd_refl _,λx h=>by cases h⟩
 | y::l,a=>by
  have ⟨c,d⟩:=Nl l (Nat.gcd a y.natAbs);refine⟨Nat.dvd_trans c (lL _ _),λx b=>?_⟩;cases b with
  | head=>exact JB (Nat.dvd_trans c (Nat.gcd_dvd_right _ _))
  | tail _ b=>exact d x b
theorem Bn {l:Aa Int}{x:Int}(h:x∈l):(gc l:Int) ∣ x:=(Nl l 0).2 x h
theorem Rh:∀ (l:Aa Int) (a d:Nat),d ∣ a->(∀ x∈l,(d:Int) ∣ x)->d ∣ l.foldl (λa n=>Nat.gcd a n.natAbs) a
 | [],_,_,h,_=>h
 | y::l,_,_,h,b=>Rh l _ _ (Nat.dvd_gcd h (N9 (b y (by simp)))) λx c=>b x (by simp[c])
theorem G8 {l:Aa Int}{d:Nat}(h:∀ x∈l,(d:Int) ∣ x):d ∣ gc l:=Rh l 0 d (Nat.dvd_zero d) h
theorem Go {l:Aa Int}(h:gc l=0):∀ x∈l,x=0:=λx a=>by
 have:=Bn a;rw[h] at this;exact Int.zero_dvd.mp (by simpa using this)
theorem N0 {l:Aa Int}{x:Int}(h:x∈l):((max 1 (gc l):Nat):Int) ∣ x:=by
 by_cases a:gc l=0
 .rw[a,Go a x h];exact Int.dvd_zero _
 .rw[iY (by omega)];exact Bn h
theorem Nj (l:Aa Int):(wd l).length=l.length:=aA _
theorem ix_mem {l:Aa Int}{k:Nat}(h:k<l.length):ix l k∈l:=by
 unfold ix;rw[List.getD_eq_getElem?_getD,List.getElem?_eq_getElem h];exact eR h
theorem ix_out {l:Aa Int}{k:Nat}(h:¬ k<l.length):ix l k=0:=by
 unfold ix;rw[List.getD_eq_getElem?_getD,List.getElem?_eq_none (by omega)];rfl
theorem GH (f:Int->Int) (g:f 0=0) (l:Aa Int) (k:Nat):ix (l.map f) k=f (ix l k):=by
 unfold ix;rw[List.getD_eq_getElem?_getD,List.getD_eq_getElem?_getD,List.getElem?_map];cases l[k]? with
 | none=>exact g.symm
 | some x=>rfl
theorem Hb (l:Aa Int) (k:Nat):((max 1 (gc l):Nat):Int)*ix (wd l) k=ix l k:=by
 unfold wd;rw[GH (λx=>x/((max 1 (gc l):Nat):Int)) (Int.zero_ediv _)];by_cases h:k<l.length
 .exact Int.mul_ediv_cancel' (N0 (ix_mem h))
 .rw[ix_out h,Int.zero_ediv,cD]
theorem Ls {l:Aa Int}(h:gc l≠0):gc (wd l)=1:=by
 have hd:gc l*gc (wd l) ∣ gc l:=G8 λx f=>by
  obtain⟨c,b⟩:=Bn f;have a:x/((max 1 (gc l):Nat):Int)∈wd l:=bQ f;rw[iY (by omega)] at a;have e:x/(gc l:Int)=c:=by rw[b];exact kG c (by omega)
  rw[e] at a;obtain⟨d,hd⟩:=Bn a;exact⟨d,by rw[b,hd,mV,dD]⟩
 exact Nat.dvd_one.mp (Nat.dvd_of_mul_dvd_mul_left (by omega:0<gc l) (by simpa using hd))
theorem Jq {a b:Aa Int}(f:Int->Int->Int) (g:f 0 0=0) (j:a.length=b.length) (k:Nat):ix (List.zipWith f a b) k=f (ix a k) (ix b k):=by
 unfold ix;simp only[bT,List.getElem?_zipWith];by_cases h:k<a.length
 .rw[aF h,aF (j▸h)];rfl
 .rw[eY (by omega),eY (by omega)];exact g.symm
theorem cl_len {v b:Aa Int}{k:Nat}(g:v.length=b.length):(cl v b k).length=v.length:=by
 unfold cl;split
 .rfl
 .rw[Nj,eL,<- g,lV]
theorem C1 {v b:Aa Int}{k:Nat}(j:v.length=b.length) (g:ix b k≠0):∃ d c e:Int,0<d/\c≠0/\(ix v k=0->e=0)/\(∀ s,d*ix (cl v b k) s=c*ix v s-e*ix b s)/\ix (cl v b k) k=0:=by
 unfold cl;split
 .rename_i h
  exact⟨1,1,0,by decide,by decide,λ_=>rfl,λs=>by simp,h⟩
 .rename_i h
  have key:=λs=>(Hb (List.zipWith (λx y=>ix b k*x-ix v k*y) v b) s).trans (Jq (λx y=>ix b k*x-ix v k*y) (by simp) j s)
  have hd:0<((max 1 (gc (List.zipWith (λx y=>ix b k*x-ix v k*y) v b)):Nat):Int):=by omega
  refine⟨_,ix b k,ix v k,hd,g,λa=>absurd a h,key,?_⟩;have:=key k;rw[iM (ix b k),mR] at this;exact (cP.mp this).resolve_left (by omega)
theorem Rk {m:Nat}{r v b:Aa Int}{d c e:Int}{w:Nat->Int}(h:∀ s,d*ix r s=c*ix v s-e*ix b s):d*dot m r w=c*dot m v w-e*dot m b w:=by
 have:c*dot m v w-e*dot m b w=c*dot m v w+(-e)*dot m b w:=by rw[mH];rfl
 rw[this];unfold dot;rw[<- vD,<- vD,<- vD,<- C7];exact yY λs _=>by
  rw[<- dD,h s,mY,dD,dD,mH];rfl
theorem Jb {m:Nat}{v b:Aa Int}{k:Nat}{w:Nat->Int}(j:v.length=b.length) (g:ix b k≠0) (h:dot m b w=0):dot m (cl v b k) w=0↔dot m v w=0:=by
 obtain⟨d,c,e,hd,f,_,i,_⟩:=C1 j g;have:=Rk (m:=m) (w:=w) i;rw[h,cD,mS] at this;constructor
 .intro a;rw[a,cD] at this;exact (cP.mp this.symm).resolve_left f
 .intro a;rw[a,cD] at this;exact (cP.mp this).resolve_left (by omega)
theorem Lo {v b:Aa Int}{k s:Nat}(o:v.length=b.length) (l:ix b k≠0) (g:ix v s=0) (j:ix b s=0):ix (cl v b k) s=0:=by
 obtain⟨d,c,e,hd,_,_,a,_⟩:=C1 o l;have:=a s;rw[g,j,cD,cD] at this;exact (cP.mp this).resolve_left (by omega)
theorem Pr {v b:Aa Int}{k s:Nat}(o:v.length=b.length) (l:ix b k≠0) (g:ix v s≠0) (j:ix b s=0):ix (cl v b k) s≠0:=by
 obtain⟨d,c,e,hd,a,_,f,_⟩:=C1 o l;have:=f s;rw[j,cD,mS] at this;intro h;rw[h,cD] at this;exact (fX a g) this.symm
structure Inv (m:Nat) (K:(Nat->Int)->Prop) (hs:List (Nat×List Int)):Prop where
 nd:(hs.map (·.1)).Nodup
 lt:∀ h∈hs,h.1<m
 len:∀ h∈hs,h.2.length=m
 own:∀ h∈hs,ix h.2 h.1≠0
 beh:∀ h∈hs,∀ j,h.1<j->ix h.2 j=0
 oth:∀ h∈hs,∀ g∈hs,h.1≠g.1->ix h.2 g.1=0
 ker:∀ w,K w↔∀ h∈hs,dot m h.2 w=0
theorem Inv.nil (m:Nat):Inv m (λ_=>True) [] :=
 have e:∀ {P:Nat×Aa Int->Prop},∀ h∈([]:Aa (Nat×Aa Int)),P h:=λ_ h=>nomatch h
 ⟨gE,e,e,e,e,e,λ_=>⟨λ_=>e,λ_=>trivial⟩⟩
def rest (g:Aa (Nat×Aa Int)) (v:Aa Int):Aa Int:=g.foldl (λr h=>cl r h.2 h.1) v
theorem Q4 {m:Nat}{K:(Nat->Int)->Prop}{l:Aa (Nat×Aa Int)}(I:Inv m K l):∀ (j:Aa (Nat×Aa Int)) (D:Nat->Prop) (r:Aa Int),(∀ h∈j,h∈l)->r.length=m->(∀ k,D k->ix r k=0/\∃ g∈l,g.1=k) ->
  (rest j r).length=m/\(∀ k,D k\/k∈j.map (·.1)->ix (rest j r) k=0)/\∀ w,(∀ h∈l,dot m h.2 w=0)->(dot m (rest j r) w=0↔dot m r w=0)
 | [],D,r,_,d,i=>⟨d,λk h=>(i k (h.resolve_right (by simp))).1,λ_ _=>Iff.rfl⟩
 | h::j,D,r,q,d,i=>by
  have b:=q h (by simp);have a:r.length=h.2.length:=d.trans (I.len h b).symm;have n:=I.own h b;obtain⟨t,u,v⟩:=Q4 I j (λk=>D k\/k=h.1) (cl r h.2 h.1) (λg c=>q g (by simp[c])) ((cl_len a).trans d) λk hk=>by
   by_cases e:k=h.1
   .refine⟨?_,h,b,e.symm⟩;obtain⟨_,_,_,_,_,_,_,f⟩:=C1 a n;rw[e];exact f
   .obtain⟨f,g,c,rfl⟩:=i k (hk.resolve_right e);exact⟨Lo a n f (I.oth h b g c λs=>e s.symm),g,c,rfl⟩
  refine⟨t,λk hk=>u k ?_,λw hw=>(v w hw).trans (Jb a n (hw h b))⟩;rcases hk with hk | hk
  .exact .inl (.inl hk)
  .rw[aO] at hk;cases hk with
   | head=>exact .inl (.inr rfl)
   | tail _ hk=>exact .inr hk
theorem Inv.rest {m:Nat}{K:(Nat->Int)->Prop}{g:Aa (Nat×Aa Int)}(I:Inv m K g){v:Aa Int}(j:v.length=m) :
  (rest g v).length=m/\(∀ h∈g,ix (EQ.rest g v) h.1=0)/\∀ w,(∀ h∈g,dot m h.2 w=0)->(dot m (EQ.rest g v) w=0↔dot m v w=0):=by
 obtain⟨a,b,c⟩:=Q4 I g (λ_=>False) v (λ_ h=>h) j λ_ h=>h.elim
 exact⟨a,λh d=>b _ (.inr (bQ d)),c⟩
theorem Inv.same {m:Nat}{K:(Nat->Int)->Prop}{g:Aa (Nat×Aa Int)}(I:Inv m K g){v:Aa Int}(l:v.length=m) (j:∀ s,ix (EQ.rest g v) s=0) :
  Inv m (λw=>K w/\dot m v w=0) g :=
 ⟨I.nd,I.lt,I.len,I.own,I.beh,I.oth,λw=>by
  rw[I.ker w];exact⟨λh=>h.1,λh=>⟨h,((I.rest l).2.2 w h).mp (wT λs _=>by rw[j s];exact fR _)⟩⟩⟩
theorem Inv.more {m:Nat}{K:(Nat->Int)->Prop}{l:Aa (Nat×Aa Int)}(I:Inv m K l){v:Aa Int}(C:v.length=m){a:Nat}(o:ix (EQ.rest l v) a≠0) (p:∀ j,a<j->ix (EQ.rest l v) j=0) :
  Inv m (λw=>K w/\dot m v w=0) (l.map (λh=>(h.1,cl h.2 (EQ.rest l v) a))++[(a,EQ.rest l v)]):=by
 obtain⟨z,s,A⟩:=I.rest C;generalize EQ.rest l v=r at *;have f:∀ h∈l,h.1≠a:=λh c e=>o (e▸s h c)
 have d:∀ h∈l,h.2.length=r.length:=λh c=>(I.len h c).trans z.symm
 have am:a<m:=aX λh=>o (ix_out (by omega))
 have b:∀ {P:Nat×Aa Int->Prop},(∀ h∈l,P (h.1,cl h.2 r a))->P (a,r)->∀ h∈l.map (λh=>(h.1,cl h.2 r a))++[(a,r)],P h:=λi k h c=>by
  rcases aQ.mp c with c | c
  .obtain⟨g,n,rfl⟩:=aN.mp c;exact i g n
  .rw[aM.mp c];exact k
 refine⟨?_,b I.lt am,b (λh c=>(cl_len (d h c)).trans (I.len h c)) z,b (λh c=>Pr (d h c) o (I.own h c) (s h c)) o,b (λh c j t=>?_) p,b (λh c=>b (λg n ne=>Lo (d h c) o (I.oth h c g n ne) (s g n)) λ_=>?_) (b (λg n _=>s g n) λne=>absurd rfl ne),λw=>?_⟩
 .rw[bF,bB];refine bM.mpr ⟨I.nd,by simp,λx E y u e=>?_⟩;obtain⟨h,c,rfl⟩:=aN.mp E;rw[jG,aM] at u;exact f h c (e.trans u)
 .by_cases e:ix h.2 a=0
  .show ix (cl h.2 r a) j=0;unfold cl;rw[if_pos e];exact I.beh h c j t
  .have D:a<h.1:=aX λF=>e (I.beh h c a (by have:=f h c;omega))
   exact Lo (d h c) o (I.beh h c j t) (p j (by have:h.1<j:=t;omega))
 .obtain⟨_,_,_,_,_,_,_,B⟩:=C1 (d h c) o;exact B
 .rw[I.ker w];constructor
  .rintro ⟨i,k⟩;have q:=(A w i).mpr k;exact b (λh c=>(Jb (d h c) o q).mpr (i h c)) q
  .intro i;have q:=i (a,r) (by simp);have k:∀ h∈l,dot m h.2 w=0:=λh c=>(Jb (d h c) o q).mp (i _ (bK _ (bQ c)))
   exact⟨k,(A w k).mp q⟩
def whole (g:Aa (Nat×Aa Int)) (f:Nat) (a:Int):Int :=
 g.foldl (λa h=>a*((ix h.2 h.1).natAbs:Int)/(Nat.gcd (ix h.2 h.1).natAbs (ix h.2 f).natAbs:Int)) a
def put (j:Aa (Nat×Aa Int)) (f:Nat) (q:Int) (g:Aa Int):Aa Int :=
 j.foldl (λg h=>g.set h.1 ((-(q*ix h.2 f)).fdiv (ix h.2 h.1))) g
def shown (m:Nat) (g:Aa (Nat×Aa Int)) (f:Nat):Aa Int :=
 wd (put g f (whole g f 1) ((List.replicate m 0).set f (whole g f 1)))
theorem Rc {f:Nat}:∀ (j:Aa (Nat×Aa Int)) (a:Int),(∀ h∈j,ix h.2 h.1≠0)->0<a ->
  0<whole j f a/\a ∣ whole j f a/\∀ h∈j,ix h.2 h.1 ∣ whole j f a*ix h.2 f
 | [],a,_,c=>⟨c,Int.dvd_refl a,λ_ h=>nomatch h⟩
 | h::j,a,i,c=>by
  have B:=i h (by simp);have d:0<Nat.gcd (ix h.2 h.1).natAbs (ix h.2 f).natAbs:=Nat.gcd_pos_of_pos_left _ (by omega);obtain⟨p,b⟩:=lL (ix h.2 h.1).natAbs (ix h.2 f).natAbs;obtain⟨q,m⟩:=Nat.gcd_dvd_right (ix h.2 h.1).natAbs (ix h.2 f).natAbs;generalize v:Nat.gcd (ix h.2 h.1).natAbs (ix h.2 f).natAbs=g at d b m;have x:0<p:=by
   rcases lY p with e | e
   .rw[e] at b;omega
   .exact e
  have s:a*((ix h.2 h.1).natAbs:Int)/(g:Int)=a*p:=by
   rw[b,mV,eM];exact kG _ (by omega)
  obtain⟨z,n,A⟩:=Rc (f:=f) j (a*p) (λg w=>i g (by simp[w])) (Int.mul_pos c (by omega));have u:whole (h::j) f a=whole j f (a*p):=by
   show whole j f (a*((ix h.2 h.1).natAbs:Int)/(Nat.gcd (ix h.2 h.1).natAbs (ix h.2 f).natAbs:Int))=_;rw[v,s]
  rw[u];refine⟨z,mL (mI _ _) n,λk hk=>?_⟩;cases hk with
  | tail _ hk=>exact A k hk
  | head =>
   obtain⟨t,y⟩:=n;refine fZ.mp ?_;rw[y,eO,eO,eO,m,b,hU];exact⟨a.natAbs*t.natAbs*q,by simp only[mM,iH,Nat.mul_left_comm]⟩
theorem Sa {l:Aa Int}{k s:Nat}{x:Int}(h:k<l.length):ix (l.set k x) s=if s=k then x else ix l s:=by
 unfold ix;rw[List.getD_eq_getElem?_getD,List.getD_eq_getElem?_getD,List.getElem?_set];by_cases e:k=s
 .subst e;simp[h]
 .have:s≠k:=λh=>e h.symm
  simp[e,this]
theorem put_len {f:Nat}{q:Int}:∀ (g:Aa (Nat×Aa Int)) (j:Aa Int),(put g f q j).length=j.length
 | [],_=>rfl
 | _::g,_=>(put_len g _).trans (aY ..)
theorem Tz {f:Nat}{q:Int}:∀ (j:Aa (Nat×Aa Int)) (l:Aa Int),(j.map (·.1)).Nodup->(∀ h∈j,h.1<l.length) ->
  (∀ s,s∉j.map (·.1)->ix (put j f q l) s=ix l s)/\∀ h∈j,ix (put j f q l) h.1=(-(q*ix h.2 f)).fdiv (ix h.2 h.1)
 | [],_,_,_=>⟨λ_ _=>rfl,λ_ h=>nomatch h⟩
 | h::j,l,m,i=>by
  have c:=bN.mp m;obtain⟨k,n⟩:=Tz (f:=f) (q:=q) j (l.set h.1 ((-(q*ix h.2 f)).fdiv (ix h.2 h.1))) c.2 λg b=>by
   rw[aY];exact i g (by simp[b])
  have d:=λs=>Sa (s:=s) (x:=(-(q*ix h.2 f)).fdiv (ix h.2 h.1)) (i h (by simp))
  refine⟨λs a=>?_,λg b=>?_⟩
  .rw[aO,aH] at a;have:=k s λe=>a (.inr e)
   rw[d,aI λe=>a (.inl e)] at this;exact this
  .cases b with
   | head=>have:=k h.1 c.1;rw[d,aP rfl] at this;exact this
   | tail _ b=>exact n g b
theorem EJ (m s:Nat):ix (List.replicate m 0) s=0:=by
 unfold ix;rw[List.getD_eq_getElem?_getD,List.getElem?_replicate];split<;>rfl
theorem Inv.shown {m:Nat}{K:(Nat->Int)->Prop}{j:Aa (Nat×Aa Int)}(I:Inv m K j){f:Nat}(l:f<m) (hk:f∉j.map (·.1)) :
  (shown m j f).length=m/\K (ix (EQ.shown m j f))/\gc (EQ.shown m j f)=1/\0<ix (EQ.shown m j f) f /\
  (∀ s,s<f->ix (EQ.shown m j f) s=0)/\∀ s,s≠f->s∉j.map (·.1)->ix (EQ.shown m j f) s=0:=by
 obtain⟨P,_,M⟩:=Rc (f:=f) j 1 I.own (by decide);unfold EQ.shown;generalize whole j f 1=q at *;have n:((List.replicate m (0:Int)).set f q).length=m:=by rw[aY,cO]
 obtain⟨x,H⟩:=Tz (f:=f) (q:=q) j ((List.replicate m 0).set f q) I.nd λh b=>by rw[n];exact I.lt h b
 have L:=(put_len (f:=f) (q:=q) j ((List.replicate m 0).set f q)).trans n;generalize put j f q ((List.replicate m 0).set f q)=c at *;have y:∀ s,ix ((List.replicate m (0:Int)).set f q) s=if s=f then q else 0:=λs=>by
  rw[Sa (by rw[cO];exact l),EJ]
 have A:ix c f=q:=by rw[x f hk,y,aP rfl]
 have w:∀ s,s≠f->s∉j.map (·.1)->ix c s=0:=λs d i=>by rw[x s i,y,aI d]
 have B:∀ h∈j,ix h.2 h.1*ix c h.1 = -(q*ix h.2 f):=λh b=>by
  rw[H h b];exact Int.mul_fdiv_cancel' (Int.dvd_neg.mpr (M h b))
 have N:∀ s,s<f->ix c s=0:=λs a=>by
  by_cases t:s∈j.map (·.1)
  .obtain⟨h,b,rfl⟩:=aN.mp t;have:=B h b;rw[I.beh h b f a,cD,Int.neg_zero] at this;exact (cP.mp this).resolve_left (I.own h b)
  .exact w s (by omega) t
 have G:∀ h∈j,dot m h.2 (ix c)=0:=λh b=>by
  have u:f≠h.1:=λe=>hk (e▸bQ b)
  unfold dot;rw[Fb (S:=[f,h.1]) (by simp[u]) iZ (λs a=>by
   rcases aH.mp a with rfl | a
   .exact cB.mpr l
   .rw[aM.mp a];exact cB.mpr (I.lt h b)) λs _ a=>by
   have d:s≠f:=λe=>a (by simp[e])
   have i:s≠h.1:=λe=>a (by simp[e])
   by_cases t:s∈j.map (·.1)
   .obtain⟨g,F,rfl⟩:=aN.mp t;rw[I.oth h b g F λe=>i e.symm];exact fR _
   .rw[w s d t];exact cD _]
  simp only[sm];rw[A,B h b,iM q];omega
 have E:gc c≠0:=λe=>by
  have:=Go e _ (ix_mem (k:=f) (by omega));omega
 have v:=λs=>Hb c s
 have D:0<((max 1 (gc c):Nat):Int):=by omega
 have z:∀ s,ix c s=0->ix (wd c) s=0:=λs h=>by
  have:=v s;rw[h] at this;exact (cP.mp this).resolve_left (by omega)
 refine⟨(Nj c).trans L,(I.ker _).mpr λh b=>?_,Ls E,?_,λs h=>z s (N s h),λs d i=>z s (w s d i)⟩
 .have e:((max 1 (gc c):Nat):Int)*dot m h.2 (ix (wd c))=0:=by
   rw[<- G h b];unfold dot;rw[<- vD];exact yY λs _=>by rw[eM,v s]
  exact (cP.mp e).resolve_left (by omega)
 .have:=v f;rw[A] at this;apply aX;intro O;have:=Int.mul_nonneg (Int.le_of_lt D) (show 0 <= -ix (wd c) f by omega);rw[mX] at this;omega
def off (head:Aa Int) (k:Nat) (row:Aa Int):Aa Int:=List.zipWith (λx y=>ix head k*x-ix row k*y) row head
def told (head:Aa Int) (k:Nat) (left:Aa (Aa Int)):Aa (Aa Int) :=
 ((left.map (off head k)).filter λr=>decide (0<gc r)).map λr=>r.map (·/(gc r:Int))
def rk1 (k:Nat) (st:Aa (Aa Int)×Nat):Aa (Aa Int)×Nat :=
 match st.1.filter λr=>decide (ix r k≠0) with
 | []=>st
 | head::_=>(told head k st.1,st.2+1)
def rank (m:Nat) (rows:Aa (Aa Int)):Nat:=((List.range m).foldl (λst k=>rk1 k st) (rows,0)).2
structure RInv (m:Nat) (K:(Nat->Int)->Prop) (k:Nat) (left:List (List Int)) (P:List (Nat×(Nat->Int))):Prop where
 len:∀ r∈left,r.length=m
 zero:∀ r∈left,∀ j,j<k->ix r j=0
 nd:(P.map (·.1)).Nodup
 lt:∀ p∈P,p.1<k
 own:∀ p∈P,p.2 p.1≠0
 ord:P.Pairwise λp q=>q.2 p.1=0
 ker:∀ w,K w↔(∀ p∈P,sm (λs=>p.2 s*w s) (List.range m)=0)/\∀ r∈left,dot m r w=0
theorem off_len {head row:Aa Int}{k:Nat}(h:row.length=head.length):(off head k row).length=head.length:=by
 unfold off;rw[List.length_zipWith,h,Nat.min_self]
theorem Fj {head row:Aa Int}{k:Nat}(h:row.length=head.length) (s:Nat):ix (off head k row) s=ix head k*ix row s-ix row k*ix head s :=
 Jq (λx y=>ix head k*x-ix row k*y) (by simp) h s
theorem Uu {m:Nat}{head row:Aa Int}{k:Nat}{w:Nat->Int}(h:row.length=head.length):dot m (off head k row) w=ix head k*dot m row w-ix row k*dot m head w:=by
 have:=Rk (m:=m) (w:=w) (r:=off head k row) (v:=row) (b:=head) (d:=1) (c:=ix head k) (e:=ix row k) λs=>by rw[Fj h,Int.one_mul]
 rw[Int.one_mul] at this;exact this
theorem Gm {r:Aa Int}(h:0<gc r) (s:Nat):(gc r:Int)*ix (r.map (·/(gc r:Int))) s=ix r s:=by
 have:=Hb r s;unfold wd at this;rw[Nat.max_eq_right (by omega)] at this;exact this
theorem T0 {m:Nat}{r:Aa Int}{w:Nat->Int}(h:0<gc r):(gc r:Int)*dot m (r.map (·/(gc r:Int))) w=dot m r w:=by
 unfold dot;rw[<- vD];exact yY λs _=>by rw[<- dD,Gm h]
theorem RInv.step {m:Nat}{K:(Nat->Int)->Prop}{k:Nat}{left:Aa (Aa Int)}{P:Aa (Nat×(Nat->Int))}(I:RInv m K k left P) :
  ∃ g,RInv m K (k+1) (rk1 k (left,P.length)).1 g/\(rk1 k (left,P.length)).2=g.length:=by
 unfold rk1;cases v:left.filter (λr=>decide (ix r k≠0)) with
 | nil =>
  refine⟨P,⟨I.len,λr b j D=>?_,I.nd,λp a=>lE (I.lt p a),I.own,I.ord,I.ker⟩,rfl⟩;by_cases e:j=k
  .subst e;have:=gU.mp v r b;simpa using this
  .exact I.zero r b j (by omega)
 | cons head F =>
  have z:head∈left.filter (λr=>decide (ix r k≠0)):=v▸aE;have f:=(bW.mp z).1;have u:ix head k≠0:=by simpa using (bW.mp z).2
  have len:∀ r∈left,r.length=head.length:=λr b=>(I.len r b).trans (I.len head f).symm
  have t:∀ r∈told head k left,∃ x∈left,0<gc (off head k x)/\r=(off head k x).map (·/(gc (off head k x):Int)):=λr b=>by
   obtain⟨y,i,rfl⟩:=aN.mp b;obtain⟨i,d⟩:=bW.mp i;obtain⟨x,c,rfl⟩:=aN.mp i;exact⟨x,c,by simpa using d,rfl⟩
  refine⟨P++[(k,ix head)],⟨λr b=>?_,λr b j D=>?_,?_,λp a=>?_,λp a=>?_,?_,λw=>?_⟩,by rw[aZ];rfl⟩
  .obtain⟨x,c,_,rfl⟩:=t r b;rw[aA,off_len (len x c)];exact I.len head f
  .obtain⟨x,c,d,rfl⟩:=t r b;have e:ix (off head k x) j=0:=by
    rw[Fj (len x c)];by_cases e:j=k
    .subst e;rw[iM];exact mR _
    .rw[I.zero x c j (by omega),I.zero head f j (by omega),cD,cD];rfl
   have:=Gm d j;rw[e] at this;exact (cP.mp this).resolve_left (by omega)
  .rw[bF];refine bM.mpr ⟨I.nd,by simp,λx c y i e=>?_⟩;obtain⟨p,a,rfl⟩:=aN.mp c;rw[jG,aM] at i;have:=I.lt p a;omega
  .rcases aQ.mp a with a | a
   .exact lE (I.lt p a)
   .rw[aM.mp a];exact mN k
  .rcases aQ.mp a with a | a
   .exact I.own p a
   .rw[aM.mp a];exact u
  .refine List.pairwise_append.mpr ⟨I.ord,List.pairwise_singleton _ _,λp a q E=>?_⟩;rw[aM.mp E];exact I.zero head f p.1 (I.lt p a)
  .rw[I.ker w];constructor
   .rintro ⟨n,h⟩;refine⟨λp a=>?_,λr b=>?_⟩
    .rcases aQ.mp a with a | a
     .exact n p a
     .rw[aM.mp a];exact h head f
    .obtain⟨x,c,d,rfl⟩:=t r b;have:=T0 (m:=m) (w:=w) d;rw[Uu (len x c),h x c,h head f,cD,cD,mS] at this;exact (cP.mp this).resolve_left (by omega)
   .rintro ⟨n,h⟩;refine⟨λp a=>n p (bK _ a),λr b=>?_⟩;have hd:dot m head w=0:=n (k,ix head) (by simp);have A:dot m (off head k r) w=0:=by
     by_cases d:0<gc (off head k r)
     .rw[<- T0 d,h _ (bQ (bW.mpr ⟨bQ b,by simpa using d⟩))];exact cD _
     .exact wT λs _=>by
       by_cases B:s<(off head k r).length
       .rw[Go (by omega) _ (ix_mem B)];exact fR _
       .rw[ix_out B];exact fR _
    rw[Uu (len r b),hd,cD,mS] at A;exact (cP.mp A).resolve_left u
theorem rank_inv {m:Nat}{K:(Nat->Int)->Prop}{rows:Aa (Aa Int)}(j:∀ r∈rows,r.length=m) (g:∀ w,K w↔∀ r∈rows,dot m r w=0) :
  ∀ k,∃ P,RInv m K k ((List.range k).foldl (λst k=>rk1 k st) (rows,0)).1 P/\((List.range k).foldl (λst k=>rk1 k st) (rows,0)).2=P.length
 | 0=>⟨[],⟨j,λ_ _ _ h=>absurd h (jI _),gE,λ_ h=>(nomatch h),λ_ h=>(nomatch h),List.Pairwise.nil,λw=>(g w).trans ⟨λh=>⟨λ_ h=>(nomatch h),h⟩,λh=>h.2⟩⟩,rfl⟩
 | k+1=>by
  obtain⟨P,I,e⟩:=rank_inv j g k;rw[mW,dR];obtain⟨c,a,b⟩:=I.step;rw[<- e] at a b;exact⟨c,a,b⟩
theorem rank_eq {m:Nat}{K:(Nat->Int)->Prop}{rows:Aa (Aa Int)}(l:∀ r∈rows,r.length=m) (j:∀ w,K w↔∀ r∈rows,dot m r w=0)
  {g:Aa (Nat×Aa Int)}(J:Inv m K g):rank m rows=g.length:=by
 obtain⟨P,I,e⟩:=rank_inv l j m;have kP:∀ w,K w↔∀ p∈P,sm (λs=>p.2 s*w s) (List.range m)=0:=λw=>by
  rw[I.ker w];refine⟨λh=>h.1,λh=>⟨h,λr d=>wT λs g=>?_⟩⟩;rw[I.zero r d s (cB.mp g)];exact fR _
 unfold rank;rw[e];refine kI ?_ ?_
 .have:=few (T:=List.range m) iZ (R:=g.map λh=>ix h.2) I.nd (λp a=>cB.mpr (I.lt p a)) I.own I.ord
   λw hw=>(kP w).mp ((J.ker w).mpr λh b=>hw _ (bQ b))
  rwa [aA] at this
 .have:=few (T:=List.range m) iZ (R:=P.map (·.2)) (P:=g.map λh=>(h.1,ix h.2)) (by rw[bB];exact J.nd)
   (λp a=>by obtain⟨h,b,rfl⟩:=aN.mp a;exact cB.mpr (J.lt h b))
   (λp a=>by obtain⟨h,b,rfl⟩:=aN.mp a;exact J.own h b)
   (jR.mpr ((jR.mp J.nd).imp_of_mem λa c ne=>J.oth _ c _ a λe=>ne e.symm))
   λw hw p a=>by
    obtain⟨h,b,rfl⟩:=aN.mp a;exact (J.ker w).mp ((kP w).mpr λp a=>hw _ (bQ a)) h b
  rwa [aA,aA] at this
theorem Cw:∀ {L M:Aa Nat},L.Nodup->(∀ x∈L,x∈M)->L.length<=M.length
 | [],_,_,_=>cE _
 | x::L,M,f,b=>by
  have a:=bN.mp f;have c:=b x (by simp);have:=Cw (L:=L) (M:=M.erase x) a.2 λy d=>by
   have ne:y≠x:=λe=>a.1 (e▸d)
   exact (List.mem_erase_of_ne ne).mpr (b y (by simp[d]))
  rw[kE c] at this;have:0<M.length:=List.length_pos_of_mem c;simp only[bS];omega
theorem Wn {P Q:Nat}(f:Nat->Nat) (g:∀ n,n<Q->f n<P) (h:P<Q):∃ a b,a<b/\b<Q/\f a=f b:=by
 apply aX;intro k;have d:((List.range Q).map f).Nodup:=by
  refine jR.mpr ?_;refine (List.pairwise_lt_range (n:=Q)).imp_of_mem λ{a b} q i c e=>?_
  exact k ⟨a,b,c,cB.mp i,e⟩
 have:=Cw (M:=List.range P) d λx m=>by
  obtain⟨n,d,rfl⟩:=aN.mp m;exact cB.mpr (g n (cB.mp d))
 rw[aA,bZ,bZ] at this;omega
def dg (b:Nat):Nat->Nat->Aa Nat
 | 0,_=>[]
 | r+1,n=>n%b::dg b r (n/b)
theorem He (b:Nat):∀ r n,(dg b r n).length=r
 | 0,_=>rfl
 | r+1,_=>cK (·+1) (He b r _)
theorem Dy {b:Nat}(g:0<b):∀ r n,∀ x∈dg b r n,x<b
 | 0,_,_,h=>nomatch h
 | r+1,n,x,h=>by
  cases h with
  | head=>exact Nat.mod_lt _ g
  | tail _ h=>exact Dy g r _ x h
theorem Ps {b:Nat}(g:0<b):∀ r m n,m<b ^ r->n<b ^ r->dg b r m=dg b r n->m=n
 | 0,m,n,a,c,_=>by rw[Nat.pow_zero] at a c;omega
 | r+1,m,n,a,c,h=>by
  have ⟨d,e⟩:=List.cons.inj h;have:=Ps g r (m/b) (n/b) (Nat.div_lt_of_lt_mul (by rw[iK,iH] at a;exact a)) (Nat.div_lt_of_lt_mul (by rw[iK,iH] at c;exact c)) e;rw[<- Nat.div_add_mod m b,<- Nat.div_add_mod n b,this,d]
def en (b:Nat):Aa Nat->Nat
 | []=>0
 | x::l=>x+b*en b l
theorem Qi {b:Nat}(g:0<b):∀ l,(∀ x∈l,x<b)->en b l<b ^ l.length
 | [],_=>by simp[en]
 | x::l,h=>by
  have e:=h x (by simp);have a:=Qi g l λy d=>h y (by simp[d])
  have c:b*(en b l+1)<=b*b ^ l.length:=Nat.mul_le_mul_left b a;rw[bS,iK,iH (b ^ l.length)];simp only[en];rw[Nat.mul_add] at c;omega
theorem Q7 {b:Nat}(g:0<b):∀ {l k:Aa Nat},l.length=k.length->(∀ x∈l,x<b)->(∀ x∈k,x<b)->en b l=en b k->l=k
 | [],[],_,_,_,_=>rfl
 | x::l,y::k,i,c,d,h=>by
  simp only[en] at h;have m:=c x (by simp);have n:=d y (by simp);have e:x=y:=by
   have:=cK (·%b) h;simp only[Nat.add_mul_mod_self_left] at this
   rwa [Nat.mod_eq_of_lt m,Nat.mod_eq_of_lt n] at this
  subst e;have f:en b l=en b k:=Nat.eq_of_mul_eq_mul_left g (by omega);rw[Q7 g (by simpa using i) (λz a=>c z (by simp[a])) (λz a=>d z (by simp[a])) f]
def tD:Aa Nat->Aa (Nat->Nat)->Nat->Nat
 | a::l,v::V,z=>a*v z+tD l V z
 | _,_,_=>0
def cb:Aa Int->Aa (Nat->Int)->Nat->Int
 | a::l,v::V,z=>a*v z+cb l V z
 | _,_,_=>0
theorem Mz {N:Nat}:∀ (a:Aa Nat) (V:Aa (Nat->Nat)) (z:Nat),(∀ x∈a,x<=N)->(∀ v∈V,v z<=1)->tD a V z<=V.length*N
 | [],V,_,_,_=>by simp[tD]
 | _::_,[],_,_,_=>by simp[tD]
 | x::a,v::V,z,c,b=>by
  have f:=Mz a V z (λy e=>c y (by simp[e])) λv d=>b v (by simp[d])
  have h:x*v z<=N*1:=iU (c x (by simp)) (b v (by simp));simp only[tD,bS,Nat.succ_mul];omega
theorem Pb:∀ (a b:Aa Nat) (V:Aa (Nat->Nat)) (z:Nat),a.length=b.length ->
  cb (List.zipWith (λx y:Nat=>(x:Int)-y) a b) (V.map λv s=>(v s:Int)) z=(tD a V z:Int)-tD b V z
 | [],[],V,z,_=>by simp[cb,tD]
 | x::a,y::b,[],z,_=>by simp[cb,tD]
 | x::a,y::b,v::V,z,h=>by
  simp only[lG,aO,cb,tD,Pb a b V z (by simpa using h),Int.natCast_add,mV,mY];omega
theorem small {V:Aa (Nat->Nat)}{Z:Aa Nat}{N:Nat}(j:∀ v∈V,∀ z∈Z,v z<=1) (g:(V.length*N+1) ^ Z.length<(N+1) ^ V.length) :
  ∃ c:Aa Int,c.length=V.length/\(∃ x∈c,x≠0)/\(∀ x∈c,x.natAbs<=N)/\∀ z∈Z,cb c (V.map λv s=>(v s:Int)) z=0:=by
 have m:0<N+1:=mT N;have u:∀ n,∀ x∈Z.map (tD (dg (N+1) V.length n) V),x<V.length*N+1:=λn x f=>by
  obtain⟨z,d,rfl⟩:=aN.mp f;exact Nat.lt_succ_of_le (Mz _ V z (λy H=>Nat.le_of_lt_succ (Dy m _ _ y H)) λv G=>j v G z d)
 obtain⟨a,b,E,q,e⟩:=Wn (P:=(V.length*N+1) ^ Z.length) (Q:=(N+1) ^ V.length)
  (λn=>en (V.length*N+1) (Z.map (tD (dg (N+1) V.length n) V)))
  (λn _=>by have:=Qi (mT _) _ (u n);rwa [aA] at this) g
 have A:=Q7 (mT _) (by rw[aA,aA]) (u a) (u b) e;have t:(dg (N+1) V.length a).length=(dg (N+1) V.length b).length:=(He ..).trans (He ..).symm;refine⟨List.zipWith (λx y:Nat=>(x:Int)-y) (dg (N+1) V.length a) (dg (N+1) V.length b),by rw[eL,<- t,lV,He],?_,λx f=>?_,λz d=>?_⟩
 .apply aX;intro F;have:∀ (l k:Aa Nat),l.length=k.length->(∀ x∈List.zipWith (λx y:Nat=>(x:Int)-y) l k,x=0)->l=k:=by
   intro l;induction l with
   | nil=>intro k hk _;cases k with
    | nil=>rfl
    | cons _ _=>cases hk
   | cons x l K=>intro k hk h;cases k with
    | nil=>cases hk
    | cons y k =>
     have B:=h ((x:Int)-y) (by simp);rw[K k (by simpa using hk) λz d=>h z (by rw[lG];exact aJ _ d),show x=y by omega]
  have:=Ps m _ a b (by omega) q (this _ _ t λx f=>aX λh=>F ⟨x,f,h⟩);omega
 .obtain⟨i,w,rfl⟩:=iN.mp f;rw[List.getElem_zipWith];have D:i<(dg (N+1) V.length a).length:=by rw[eL] at w;omega
  have q:i<(dg (N+1) V.length b).length:=by rw[eL] at w;omega
  have B:=Dy m V.length a _ (eR D);have L:=Dy m V.length b _ (eR q);omega
 .rw[Pb _ _ _ _ t];have:∀ z∈Z,tD (dg (N+1) V.length a) V z=tD (dg (N+1) V.length b) V z:=λz d=>by
   exact List.map_inj_left.mp A z d
  rw[this z d];exact mR _
theorem Po (a:Nat) (x:Int):∀ (l:Aa Int) (b:Nat),(l.map (x*·)).foldl (λa n=>Nat.gcd a n.natAbs) (x.natAbs*b)=x.natAbs*l.foldl (λa n=>Nat.gcd a n.natAbs) b
 | [],_=>rfl
 | y::l,b=>by
  simp only[aO,lQ,eO];rw[Nat.gcd_mul_left];exact Po a x l _
theorem P1 (x:Int) (l:Aa Int):gc (l.map (x*·))=x.natAbs*gc l:=by
 have:=Po 0 x l 0;rw[Nat.mul_zero] at this;exact this
theorem Lp {w:Nat->Int}{T:Aa Nat}:∀ (c:Aa Int) (V:Aa (Nat->Int)),(∀ v∈V,sm (λs=>v s*w s) T=0)->sm (λs=>cb c V s*w s) T=0
 | [],V,_=>wT λs _=>by simp[cb]
 | _::_,[],_=>wT λs _=>by simp[cb]
 | a::c,v::V,h=>by
  rw[yY (g:=λs=>a*(v s*w s)+cb c V s*w s) λs _=>by simp only[cb];rw[Int.add_mul,dD],C7,vD,h v (by simp),Lp c V λu b=>h u (by simp[b])];simp
theorem Ev {z:Nat}{v:Nat->Int}{x:Int}:∀ (c:Aa Int) (V:Aa (Nat->Int)),c.length=V.length->cb (c++[x]) (V++[v]) z=cb c V z+x*v z
 | [],[],_=>by simp[cb]
 | a::c,u::V,h=>by
  simp only[cS,cb];rw[Ev c V (by simpa using h)];omega
theorem Jg {z N:Nat}:∀ (c:Aa Int) (V:Aa (Nat->Int)),(∀ x∈c,x.natAbs<=N)->(∀ v∈V,(v z).natAbs<=1)->(cb c V z).natAbs<=V.length*N
 | [],V,_,_=>by simp[cb]
 | _::_,[],_,_=>by simp[cb]
 | a::c,v::V,b,d=>by
  have i:=Jg (z:=z) (N:=N) c V (λx f=>b x (by simp[f])) λu e=>d u (by simp[e])
  have j:(a*v z).natAbs<=N*1:=by rw[eO];exact iU (b a (by simp)) (d v (by simp))
  simp only[cb,bS,Nat.succ_mul];omega
def Bit (v:Aa Int):Prop:=∀ x∈v,x=0\/x=1
theorem Bit.ix {v:Aa Int}(h:Bit v) (s:Nat):ix v s=0\/EQ.ix v s=1:=by
 by_cases a:s<v.length
 .exact h _ (ix_mem a)
 .exact .inl (ix_out a)
structure Bas (m:Nat) (K:(Nat->Int)->Prop) (hs:List (Nat×List Int)) (B:List (List Int)):Prop where
 len:B.length=hs.length
 bit:∀ b∈B,Bit b
 ker:∀ b∈B,∀ w,K w->dot m b w=0
 ind:∀ c:List Int,c.length=B.length->(∀ s,s<m->cb c (B.map ix) s=0)->∀ x∈c,x=0
 prim:∀ h∈hs,gc h.2=1
theorem Bas.nil {m:Nat}:Bas m (λ_=>True) [] []:=by
 refine⟨rfl,λ_ h=>(nomatch h),λ_ h=>(nomatch h),λc a _ x b=>?_,λ_ h=>(nomatch h)⟩;cases c with
 | nil=>cases b
 | cons _ _=>cases a
theorem Bas.mono {m:Nat}{K g:(Nat->Int)->Prop}{j:Aa (Nat×Aa Int)}{B:Aa (Aa Int)}(b:Bas m K j B) (h:∀ w,g w->K w):Bas m g j B :=
 ⟨b.len,b.bit,λv a w hw=>b.ker v a w (h w hw),b.ind,b.prim⟩
theorem Inv.two {m:Nat}{K:(Nat->Int)->Prop}{j:Aa (Nat×Aa Int)}(I:Inv m K j){f:Nat}(o:f<m) (hk:f∉j.map (·.1)){h:Nat×Aa Int}(p:h∈j)
  {u:Nat->Int}(r:∀ g∈j,g.1≠h.1->u g.1=0) (l:sm (λs=>u s*ix (EQ.shown m j f) s) (List.range m)=0):u f*ix (EQ.shown m j f) f+u h.1*ix (EQ.shown m j f) h.1=0:=by
 obtain⟨_,_,_,_,_,z⟩:=I.shown o hk;have b:f≠h.1:=λe=>hk (e▸bQ p)
 rw[Fb (S:=[f,h.1]) (by simp[b]) iZ (λs a=>by
  rcases aH.mp a with rfl | a
  .exact cB.mpr o
  .rw[aM.mp a];exact cB.mpr (I.lt h p)) λs _ a=>by
  have d:s≠f:=λe=>a (by simp[e])
  have i:s≠h.1:=λe=>a (by simp[e])
  by_cases c:s∈j.map (·.1)
  .obtain⟨g,k,rfl⟩:=aN.mp c;rw[r g k i];exact fR _
  .rw[z s d c];exact cD _] at l
 simpa [sm] using l
theorem O4 {k m:Nat}(hk:k<=m) (g:0<k):(k*m ^ m+1) ^ (k-1)<(m ^ m+1) ^ k:=by
 have a:k*m ^ m+1<=k*(m ^ m+1):=by rw[Nat.mul_add];omega
 have d:k ^ (k-1)<=m ^ m:=bD (lT hk _) (iL (by omega) (by omega));have b:(k*m ^ m+1) ^ (k-1)<=k ^ (k-1)*(m ^ m+1) ^ (k-1):=by rw[<- Nat.mul_pow];exact lT a _
 have c:(m ^ m+1) ^ k=(m ^ m+1)*(m ^ m+1) ^ (k-1):=by
  rw[iH,<- iK];congr 1;omega
 rw[c];exact bG b (Nat.mul_lt_mul_of_pos_right (by omega) (mG (by omega)))
theorem Inv.le {m:Nat}{K:(Nat->Int)->Prop}{g:Aa (Nat×Aa Int)}(I:Inv m K g):g.length<=m:=by
 have:=Cw (M:=List.range m) I.nd λx b=>by
  obtain⟨h,a,rfl⟩:=aN.mp b;exact cB.mpr (I.lt h a)
 rwa [aA,bZ] at this
theorem Bas.small {m:Nat}{K:(Nat->Int)->Prop}{o:Aa (Nat×Aa Int)}{B:Aa (Aa Int)}(b:Bas m K o B) (I:Inv m K o){h:Nat×Aa Int}(l:h∈o) (j:Nat) :
  (ix h.2 j).natAbs<=m*m ^ m:=by
 by_cases L:j<m
 case neg=>rw[ix_out (by rw[I.len h l];exact L)];exact cE _
 have A:0<o.length:=List.length_pos_of_mem l;have D:((o.map (·.1)).erase h.1).length=o.length-1:=by rw[kE (bQ l),aA]
 have d:(B.map λb s=>(ix b s).toNat).length=o.length:=by rw[aA,b.len]
 obtain⟨c,cl,⟨x,T,F⟩,W,G⟩:=EQ.small (V:=B.map λb s=>(ix b s).toNat) (Z:=(o.map (·.1)).erase h.1) (N:=m ^ m)
  (λv n z _=>by
   obtain⟨r,f,rfl⟩:=aN.mp n;show (ix r z).toNat<=1;rcases (b.bit r f).ix z with e | e<;>rw[e]<;>decide)
  (by rw[D,d];exact O4 I.le A)
 have J:((B.map λb s=>(ix b s).toNat).map λv s=>(v s:Int))=B.map ix:=by
  rw[bB];exact gR λr f=>by
   funext s
   show (((ix r s).toNat:Nat):Int)=ix r s;rcases (b.bit r f).ix s with e | e<;>rw[e]<;>rfl
 rw[J] at G;rw[d] at cl;have ub:∀ s,(cb c (B.map ix) s).natAbs<=m*m ^ m:=λs=>by
  have:=Jg (z:=s) (N:=m ^ m) c (B.map ix) W λv n=>by
   obtain⟨r,f,rfl⟩:=aN.mp n;rcases (b.bit r f).ix s with e | e<;>rw[e]<;>decide
  rw[aA,b.len] at this;exact bD this (iI _ I.le)
 have uk:∀ w,K w->sm (λs=>cb c (B.map ix) s*w s) (List.range m)=0:=λw hw=>Lp c _ λv n=>by
  obtain⟨r,f,rfl⟩:=aN.mp n;exact b.ker r f w hw
 have ui:=b.ind c (cl.trans b.len.symm);generalize cb c (B.map ix)=u at *;have Q:∀ g∈o,g.1≠h.1->u g.1=0:=λg k ne=>G g.1 ((List.mem_erase_of_ne ne).mpr (bQ k))
 have P:∀ s,s<m->ix h.2 h.1*u s=u h.1*ix h.2 s:=λs a=>by
  by_cases E:s∈o.map (·.1)
  .obtain⟨g,k,rfl⟩:=aN.mp E;by_cases e:g.1=h.1
   .rw[e,iM]
   .rw[Q g k e,I.oth h l g k λY=>e Y.symm,cD,cD]
  .obtain⟨_,O,_,pos,_,_⟩:=I.shown a E;have e1:=I.two a E l Q (uk _ O);have e2:=I.two a E l (u:=ix h.2) (λg k ne=>I.oth h l g k λe=>ne e.symm) ((I.ker _).mp O h l);generalize ix (EQ.shown m o s) s=p at *;generalize ix (EQ.shown m o s) h.1=q at *;have C:p*(ix h.2 h.1*u s)=p*(u h.1*ix h.2 s):=by
    have R:u s*p = -(u h.1*q):=by omega
    have S:ix h.2 s*p = -(ix h.2 h.1*q):=by omega
    calc p*(ix h.2 h.1*u s)=ix h.2 h.1*(u s*p):=by rw[eM,iM p]
     _=u h.1*(ix h.2 s*p):=by rw[R,S,mX,mX,eM]
     _=p*(u h.1*ix h.2 s):=by rw[eM p,iM p]
   exact jU (by omega) C
 have u0:u h.1≠0:=λe=>F (ui (λs a=>by
  have:=P s a;rw[e,fR] at this;exact (cP.mp this).resolve_left (I.own h l)) x T)
 have X:ix h.2 h.1 ∣ u h.1:=by
  have d1:(ix h.2 h.1).natAbs ∣ gc (h.2.map (u h.1*·)):=G8 λy U=>by
   obtain⟨z,hz,rfl⟩:=aN.mp U;obtain⟨i,H,rfl⟩:=iN.mp hz;have e:ix h.2 i=h.2[i]:=by unfold ix;rw[List.getD_eq_getElem?_getD,List.getElem?_eq_getElem H];rfl
   rw[<- e,<- P i (by rw[<- I.len h l];exact H)];exact mL (Int.natAbs_dvd.mpr (Int.dvd_refl _)) (mI _ _)
  rw[P1,b.prim h l,Nat.mul_one] at d1;exact fZ.mp d1
 obtain⟨t,M⟩:=X;have t0:t≠0:=λe=>u0 (by rw[M,e,cD])
 have e:u j=t*ix h.2 j:=by
  have:=P j L;rw[M,dD] at this;exact jU (I.own h l) this
 have:=ub j;rw[e,eO] at this;exact bD (jH _ (by omega)) this
theorem Bit.gc {v:Aa Int}(h:Bit v){s:Nat}(g:EQ.ix v s≠0):EQ.gc v=1:=by
 have c:s<v.length:=aX λb=>g (ix_out b)
 have a:=Bn (ix_mem c);rw[((h.ix s).resolve_left g)] at a;have:=fZ.mpr a
 simpa using this
theorem My {v b:Aa Int}{k s:Nat}(g:gc v=1) (h:ix (cl v b k) s≠0):gc (cl v b k)=1:=by
 unfold cl at h |-;split
 .exact g
 .rename_i c
  rw[aI c] at h;refine Ls λe=>h ?_
  have:=Hb (List.zipWith (λx y=>ix b k*x-ix v k*y) v b) s;have z:ix (List.zipWith (λx y=>ix b k*x-ix v k*y) v b) s=0:=by
   by_cases a:s<(List.zipWith (λx y=>ix b k*x-ix v k*y) v b).length
   .exact Go e _ (ix_mem a)
   .exact ix_out a
  rw[z] at this;exact (cP.mp this).resolve_left (by omega)
def vP (v:Aa Int):Prop:=gc v=1\/∀ s,ix v s=0
theorem vP.cl {v b:Aa Int}{k:Nat}(h:vP v):vP (EQ.cl v b k):=by
 by_cases e:∀ s,ix (EQ.cl v b k) s=0
 .exact .inr e
 .have ⟨s,a⟩:∃ s,ix (EQ.cl v b k) s≠0:=aX λc=>e λs=>aX λh=>c ⟨s,h⟩
  rcases h with h | h
  .exact .inl (My h a)
  .unfold EQ.cl at a;rw[if_pos (h k)] at a;exact absurd (h s) a
theorem vP.rest:∀ (g:Aa (Nat×Aa Int)){v:Aa Int},vP v->vP (EQ.rest g v)
 | [],_,h=>h
 | _::g,_,h=>vP.rest g h.cl
theorem Bit.prm {v:Aa Int}(h:Bit v):vP v:=by
 by_cases e:∀ s,EQ.ix v s=0
 .exact .inr e
 .have ⟨s,b⟩:∃ s,EQ.ix v s≠0:=aX λa=>e λs=>aX λh=>a ⟨s,h⟩
  exact .inl (h.gc b)
theorem Bas.more {m:Nat}{K:(Nat->Int)->Prop}{j:Aa (Nat×Aa Int)}{B:Aa (Aa Int)}(b:Bas m K j B) (I:Inv m K j){v:Aa Int}(p:v.length=m) (o:Bit v){a:Nat}(l:ix (EQ.rest j v) a≠0) :
  Bas m (λw=>K w/\dot m v w=0) (j.map (λh=>(h.1,cl h.2 (EQ.rest j v) a))++[(a,EQ.rest j v)]) (B++[v]):=by
 obtain⟨U,L,r3⟩:=I.rest p;have J:=vP.rest j o.prm;generalize EQ.rest j v=r at *;have am:a<m:=aX λh=>l (ix_out (by omega))
 have R:a∉j.map (·.1):=λh=>by
  obtain⟨g,f,e⟩:=aN.mp h;exact l (e▸L g f)
 have A:∀ h∈j,h.2.length=r.length:=λh k=>(I.len h k).trans U.symm
 refine⟨by rw[aZ,aZ,aA,b.len];rfl,λu d=>?_,λu d w hw=>?_,λc F C=>?_,λh k=>?_⟩
 .rcases aQ.mp d with d | d
  .exact b.bit u d
  .rw[aM.mp d];exact o
 .rcases aQ.mp d with d | d
  .exact b.ker u d w hw.1
  .rw[aM.mp d];exact hw.2
 .have q:c≠[]:=λe=>by rw[e,aZ] at F;simp at F
  obtain⟨i,x,rfl⟩:∃ i x,c=i++[x]:=⟨c.dropLast,c.getLast q,(lS q).symm⟩;have n:i.length=B.length:=by simpa using F
  have E:∀ s,s<m->cb i (B.map ix) s+x*ix v s=0:=λs h=>by
   have:=C s h;rw[bF,jG,Ev _ _ (by rw[n,aA])] at this;exact this
  have Q:x=0:=by
   apply aX;intro Z;obtain⟨_,P,_,pos,_,z⟩:=I.shown am R;have V:x*dot m v (ix (EQ.shown m j a))=0:=by
    have X:=Lp (w:=ix (EQ.shown m j a)) (T:=List.range m) i (B.map ix) λu d=>by
     obtain⟨t,Y,rfl⟩:=aN.mp d;exact b.ker t Y _ P
    have N:sm (λs=>cb i (B.map ix) s*ix (EQ.shown m j a) s+x*(ix v s*ix (EQ.shown m j a) s)) (List.range m)=0:=wT λs H=>by
     rw[<- dD,<- Int.add_mul,E s (cB.mp H)];exact fR _
    rw[C7,vD,X,lU] at N;exact N
   have W:=(r3 _ ((I.ker _).mp P)).mpr ((cP.mp V).resolve_left Z);have M:dot m r (ix (EQ.shown m j a))=ix r a*ix (EQ.shown m j a) a+0:=by
    unfold dot;refine (Fb (S:=[a]) (by simp) iZ (λs h=>by rw[aM.mp h];exact cB.mpr am) λs _ h=>?_);have G:s≠a:=λe=>h (by simp[e])
    by_cases O:s∈j.map (·.1)
    .obtain⟨g,f,rfl⟩:=aN.mp O;rw[L g f];exact fR _
    .rw[z s G O];exact cD _
   rw[W,Int.add_zero] at M;exact fX l (by omega) M.symm
  intro y D;rcases aQ.mp D with D | D
  .refine b.ind i n (λs h=>?_) y D;have:=E s h;rw[Q,fR,Int.add_zero] at this;exact this
  .rw[aM.mp D];exact Q
 .rcases aQ.mp k with k | k
  .obtain⟨g,f,rfl⟩:=aN.mp k;exact My (b.prim g f) (Pr (A g f) l (I.own g f) (L g f))
  .rw[aM.mp k];exact J.resolve_right λh=>l (h a)
theorem gc_le {l:Aa Int}{M:Nat}(h:∀ x∈l,x.natAbs<=M):gc l<=M:=by
 by_cases e:∀ x∈l,x=0
 .have:0 ∣ gc l:=G8 λx a=>by rw[e x a];exact Int.dvd_zero _
  rw[Nat.zero_dvd.mp this];exact cE _
 .have ⟨x,a,c⟩:∃ x,x∈l/\x≠0:=aX λb=>e λx a=>aX λh=>b ⟨x,a,h⟩
  exact bD (Nat.le_of_dvd (by omega) (N9 (Bn a))) (h x a)
def Le (M:Nat) (v:Aa Int):Prop:=∀ x∈v,x.natAbs<=M
theorem Le.mono {M N:Nat}{v:Aa Int}(h:Le M v) (g:M<=N):Le N v:=λx a=>bD (h x a) g
theorem Le.ix {M:Nat}{v:Aa Int}(h:Le M v) (s:Nat):(ix v s).natAbs<=M:=by
 by_cases a:s<v.length
 .exact h _ (ix_mem a)
 .rw[ix_out a];exact cE _
theorem Le.of_ix {M:Nat}{v:Aa Int}(h:∀ s,(EQ.ix v s).natAbs<=M):Le M v:=λx b=>by
 obtain⟨i,a,rfl⟩:=iN.mp b;have e:EQ.ix v i=v[i]:=by unfold EQ.ix;rw[List.getD_eq_getElem?_getD,List.getElem?_eq_getElem a];rfl
 rw[<- e];exact h i
theorem Bit.le {v:Aa Int}(h:Bit v):Le 1 v:=λx a=>by rcases h x a with e | e<;>rw[e]<;>decide
theorem Sy (x:Int) (d:Nat):(x/(d:Int)).natAbs<=x.natAbs\/¬ (d:Int) ∣ x:=by
 by_cases h:(d:Int) ∣ x
 .obtain⟨c,rfl⟩:=h;by_cases hd:d=0
  .subst hd;left;simp
  .left;rw[kG _ (by omega),eO];exact jH _ (by simp;omega)
 .exact .inr h
theorem Le.wd {M:Nat}{v:Aa Int}(h:Le M v):Le M (EQ.wd v):=λx c=>by
 obtain⟨y,a,rfl⟩:=aN.mp c;exact bD ((Sy y _).resolve_right λb=>b (N0 a)) (h y a)
theorem Vp {a b c d:Int}{A C:Nat}(g:a.natAbs<=C) (j:b.natAbs<=A) (l:c.natAbs<=A) (o:d.natAbs<=C):(a*b-c*d).natAbs<=2*C*A:=by
 have e:(a*b).natAbs<=C*A:=by rw[eO];exact iU g j
 have f:(c*d).natAbs<=C*A:=by rw[eO,iH C];exact iU l o
 rw[mM];omega
theorem Le.zip {A C k:Nat}{v b:Aa Int}(l:v.length=b.length) (j:Le A v) (g:Le C b):Le (2*C*A) (List.zipWith (λx y=>EQ.ix b k*x-EQ.ix v k*y) v b) :=
 .of_ix λs=>by rw[Jq _ (by simp) l];exact Vp (g.ix k) (j.ix s) (j.ix k) (g.ix s)
theorem Le.cl {A C k:Nat}{v b:Aa Int}(l:v.length=b.length) (o:0<C) (g:Le A v) (j:Le C b):Le (2*C*A) (EQ.cl v b k):=by
 unfold EQ.cl;split
 .exact g.mono (jH _ (by omega))
 .exact (Le.zip l g j).wd
theorem Le.rest {C m:Nat}(l:0<C):∀ (j:Aa (Nat×Aa Int)){A:Nat}{v:Aa Int},v.length=m->(∀ h∈j,h.2.length=m/\Le C h.2)->Le A v->Le ((2*C) ^ j.length*A) (EQ.rest j v)
 | [],_,_,_,_,h=>h.mono (by simp)
 | h::j,A,v,a,b,d=>by
  have ⟨c,f⟩:=b h (by simp);have:=Le.rest l j ((cl_len (k:=h.1) (a.trans c.symm)).trans a) (λg e=>b g (by simp[e])) (d.cl (k:=h.1) (a.trans c.symm) l f);rw[<- mM,<- iK] at this;exact this
theorem whole_le {f C:Nat}(l:0<C):∀ (j:Aa (Nat×Aa Int)){a:Int}{A:Nat},(∀ h∈j,Le C h.2)->a.natAbs<=A->(whole j f a).natAbs<=C ^ j.length*A
 | [],_,_,_,h=>by simpa [whole] using h
 | h::j,a,A,b,c=>by
  have e:(a*((ix h.2 h.1).natAbs:Int)/(Nat.gcd (ix h.2 h.1).natAbs (ix h.2 f).natAbs:Int)).natAbs<=C*A:=by
   refine bD ((Sy _ _).resolve_right λi=>i ?_) ?_
   .exact mL (Int.natCast_dvd_natCast.mpr (lL _ _)) (Int.dvd_mul_left _ _)
   .rw[eO,iH C];exact iU c (by rw[hU];exact (b h (by simp)).ix _)
  have:=whole_le (f:=f) l j (λg d=>b g (by simp[d])) e;rw[<- mM,<- iK] at this;exact this
theorem off_le {A k:Nat}{head row:Aa Int}(l:row.length=head.length) (g:Le A head) (j:Le A row):Le (2*A*A) (off head k row):=Le.zip l j g
def lastNZ (v:Aa Int):Nat:=((List.range v.length).filter λs=>decide (ix v s≠0)).foldl max 0
def red1 (g:Aa (Nat×Aa Int)) (v:Aa Int):Aa (Nat×Aa Int) :=
 if (rest g v).any (λx=>decide (x≠0)) then g.map (λh=>(h.1,cl h.2 (rest g v) (lastNZ (rest g v))))++[(lastNZ (rest g v),rest g v)] else g
def red (rows:Aa (Aa Int)):Aa (Nat×Aa Int):=rows.foldl red1 []
def firsts (m:Nat) (g:Aa (Nat×Aa Int)):Aa Nat:=(List.range m).filter λk=>!(g.map (·.1)).contains k
theorem Jw:∀ (l:Aa Nat) (a:Nat),a<=l.foldl max a/\∀ x∈l,x<=l.foldl max a
 | [],a=>⟨aR a,λ_ h=>(nomatch h)⟩
 | y::l,a=>by
  have ⟨c,d⟩:=Jw l (max a y);refine⟨bD (Nat.le_max_left _ _) c,λx b=>?_⟩;cases b with
  | head=>exact bD (Nat.le_max_right _ _) c
  | tail _ b=>exact d x b
theorem T3:∀ (l:Aa Nat) (a:Nat),l.foldl max a=a\/l.foldl max a∈l
 | [],_=>.inl rfl
 | y::l,a=>by
  rcases T3 l (max a y) with h | h
  .rcases Nat.le_total a y with e | e
   .rw[iY e] at h;right;show l.foldl max (max a y)∈_;rw[iY e,h];exact aE
   .rw[Nat.max_eq_left e] at h;left;show l.foldl max (max a y)=a;rw[Nat.max_eq_left e,h]
  .exact .inr (aJ _ h)
theorem lastNZ_ok {v:Aa Int}{s:Nat}(h:ix v s≠0):ix v (lastNZ v)≠0/\∀ j,lastNZ v<j->ix v j=0:=by
 have mem:∀ j,ix v j≠0->j∈(List.range v.length).filter λs=>decide (ix v s≠0):=λj a =>
  bW.mpr ⟨cB.mpr (aX λb=>a (ix_out b)),by simpa using a⟩
 refine⟨?_,λj a=>aX λb=>?_⟩
 .rcases T3 ((List.range v.length).filter λs=>decide (ix v s≠0)) 0 with e | e
  .have:=(Jw ((List.range v.length).filter λs=>decide (ix v s≠0)) 0).2 s (mem s h);rw[e] at this;have c:lastNZ v=0:=e;rw[c];rwa [Nat.le_zero.mp this] at h
  .have:=(bW.mp e).2;have d:ix v (lastNZ v)≠0:=by simpa [lastNZ] using this
   exact d
 .have:=(Jw ((List.range v.length).filter λs=>decide (ix v s≠0)) 0).2 j (mem j b);have e:lastNZ v<j:=a;unfold lastNZ at e;omega
theorem any_ix {v:Aa Int}:v.any (λx=>decide (x≠0))=true↔∃ s,ix v s≠0:=by
 rw[iQ];constructor
 .rintro ⟨x,d,h⟩;obtain⟨i,b,rfl⟩:=iN.mp d;refine⟨i,?_⟩;unfold ix;rw[List.getD_eq_getElem?_getD,List.getElem?_eq_getElem b];simpa using h
 .rintro ⟨s,a⟩;have h:s<v.length:=aX λc=>a (ix_out c)
  exact⟨_,ix_mem h,by simpa using a⟩
theorem IW {m:Nat}{K:(Nat->Int)->Prop}{g:Aa (Nat×Aa Int)}{B:Aa (Aa Int)}(I:Inv m K g) (b:Bas m K g B){v:Aa Int}(j:v.length=m) (o:Bit v) :
  ∃ l,Inv m (λw=>K w/\dot m v w=0) (red1 g v)/\Bas m (λw=>K w/\dot m v w=0) (red1 g v) l:=by
 unfold red1;split
 .rename_i h
  obtain⟨s,g⟩:=any_ix.mp h;obtain⟨a,c⟩:=lastNZ_ok g;exact⟨_,I.more j a c,b.more I j o a⟩
 .rename_i h
  exact⟨B,I.same j λs=>aX λd=>h (any_ix.mpr ⟨s,d⟩),b.mono λ_ h=>h.1⟩
theorem Tt {m:Nat}:∀ (rows:Aa (Aa Int)) (K:(Nat->Int)->Prop) (j:Aa (Nat×Aa Int)) (B:Aa (Aa Int)),Inv m K j->Bas m K j B->(∀ r∈rows,r.length=m/\Bit r) ->
  ∃ (g:(Nat->Int)->Prop) (l:Aa (Aa Int)),(∀ w,g w↔K w/\∀ r∈rows,dot m r w=0)/\Inv m g (rows.foldl red1 j)/\Bas m g (rows.foldl red1 j) l
 | [],K,_,B,I,b,_=>⟨K,B,λ_=>⟨λh=>⟨h,λ_ h=>(nomatch h)⟩,λh=>h.1⟩,I,b⟩
 | v::rows,K,j,B,I,b,h=>by
  have ⟨q,n⟩:=h v (by simp);obtain⟨c,e,i⟩:=IW I b q n;obtain⟨g,l,k,d,f⟩:=Tt rows _ _ c e i λr a=>h r (by simp[a])
  refine⟨g,l,λw=>(k w).trans ⟨λh=>⟨h.1.1,λr a=>?_⟩,λh=>⟨⟨h.1,h.2 v (by simp)⟩,λr a=>h.2 r (by simp[a])⟩⟩,d,f⟩;cases a with
  | head=>exact h.1.2
  | tail _ a=>exact h.2 r a
theorem red_ok {m:Nat}{rows:Aa (Aa Int)}(h:∀ r∈rows,r.length=m/\Bit r) :
  Inv m (λw=>∀ r∈rows,dot m r w=0) (red rows)/\∀ g∈red rows,Le (m*m ^ m) g.2:=by
 obtain⟨c,f,d,I,b⟩:=Tt rows _ _ _ (Inv.nil m) Bas.nil h;have a:∀ w,c w↔∀ r∈rows,dot m r w=0:=λw=>(d w).trans ⟨λh=>h.2,λh=>⟨trivial,h⟩⟩
 exact⟨⟨I.nd,I.lt,I.len,I.own,I.beh,I.oth,λw=>(a w).symm.trans (I.ker w)⟩,λg e=>.of_ix (b.small I e)⟩
theorem Xt {l:Aa Nat}(p:Nat->Bool):(l.filter p).length+(l.filter λx=>!p x).length=l.length:=by
 induction l with
 | nil=>rfl
 | cons x l a=>cases h:p x<;>simp[h]<;>omega
theorem firsts_len {m:Nat}{K:(Nat->Int)->Prop}{g:Aa (Nat×Aa Int)}(I:Inv m K g):(firsts m g).length=m-g.length:=by
 have b:=Xt (l:=List.range m) λk=>(g.map (·.1)).contains k
 rw[bZ] at b;have d:((List.range m).filter λk=>(g.map (·.1)).contains k).length=g.length:=by
  refine kI ?_ ?_
  .have:=Cw (L:=(List.range m).filter λk=>(g.map (·.1)).contains k) (M:=g.map (·.1)) (iZ.filter _) λx a=>by
    have:=(bW.mp a).2;simpa using this
   rwa [aA] at this
  .have:=Cw (M:=(List.range m).filter λk=>(g.map (·.1)).contains k) I.nd λx a=>bW.mpr ⟨by
    obtain⟨h,c,rfl⟩:=aN.mp a;exact cB.mpr (I.lt h c),by simpa using a⟩
   rwa [aA] at this
 unfold firsts;omega
theorem firsts_mem {m f:Nat}{g:Aa (Nat×Aa Int)}(h:f∈firsts m g):f<m/\f∉g.map (·.1):=by
 have ⟨a,b⟩:=bW.mp h;exact⟨cB.mp a,by simpa using b⟩
theorem firsts_up (m:Nat) (g:Aa (Nat×Aa Int)):(firsts m g).Pairwise (·<·):=(List.pairwise_lt_range (n:=m)).filter _
theorem Xb {p:Nat->Bool}{f:Nat}(g:p f=true):∀ m,f<m->(∀ s,s<f->p s=false)->∃ t,(List.range m).filter p=f::t:=by
 intro m c b;obtain⟨k,rfl⟩:∃ k,m=f+(k+1):=⟨m-f-1,by omega⟩;rw[List.range_add,lZ,gU.mpr λs a=>by rw[b s (cB.mp a)];decide,kH,List.range_succ_eq_map,aO];refine⟨_,fH (by simpa using g)⟩
theorem Inv.first {m:Nat}{K:(Nat->Int)->Prop}{g:Aa (Nat×Aa Int)}(I:Inv m K g){f:Nat}(h:f∈firsts m g) :
  ∃ t,((List.range m).filter λs=>decide (ix (EQ.shown m g f) s≠0))=f::t:=by
 have ⟨b,c⟩:=firsts_mem h;obtain⟨_,_,_,pos,z,_⟩:=I.shown b c;exact Xb (p:=λs=>decide (ix (EQ.shown m g f) s≠0)) (by simpa using (show ix (EQ.shown m g f) f≠0 by omega)) m b λs a=>by simpa using z s a
theorem Pa {o:Type}{g:Nat->o}{p:o->Bool}{f:Nat}:∀ {l:Aa Nat},l.Nodup->f∈l->p (g f)=true->(∀ k∈l,k≠f->p (g k)=false)->(l.map g).filter p=[g f]
 | [],_,h,_,_=>nomatch h
 | k::l,m,h,d,c=>by
  have a:=bN.mp m;rw[aO];by_cases e:k=f
  .subst e;rw[fH d,gU.mpr λx n=>?_];obtain⟨j,b,rfl⟩:=aN.mp n;rw[c j (aJ _ b) λe=>a.1 (e▸b)];decide
  .rw[gL (by rw[c k aE e];decide)];have i:f∈l:=by
    cases h with
    | head=>exact absurd rfl e
    | tail _ h=>exact h
   exact Pa a.2 i d λj b=>c j (aJ _ b)
theorem Inv.alone {m:Nat}{K:(Nat->Int)->Prop}{j:Aa (Nat×Aa Int)}(I:Inv m K j){f:Nat}(h:f∈firsts m j) :
  ((firsts m j).map (EQ.shown m j)).filter (λo=>decide (ix o f≠0))=[EQ.shown m j f]:=by
 have ⟨i,d⟩:=firsts_mem h;obtain⟨_,_,_,pos,_,_⟩:=I.shown i d;refine Pa (g:=EQ.shown m j) (p:=λo=>decide (ix o f≠0)) ((firsts_up m j).imp λ{a b} c=>bH c) h (by simpa using (show ix (EQ.shown m j f) f≠0 by omega)) λk hk ne=>?_
 have ⟨n,q⟩:=firsts_mem hk;obtain⟨_,_,_,_,_,z⟩:=I.shown n q
 simpa using z f (λe=>ne e.symm) d
end EQ
namespace Lw
open PySem L2
abbrev ln (l:Aa Int):D:=.l (l.map D.int)
def zX (v:Aa Int):Prop:=∀ x∈v,x.natAbs<BM
def Kk:RD:=λe c d=>∃ a b:Nat,c=[.int a,.int b]/\d (.v (.int (Nat.gcd a b:Nat)))
def An:RD:=λc a b=>∃ l:Aa Int,a=[ln l]/\b (.v (.int (EQ.gc l:Nat)))
def Kz:RD:=λc a b=>∃ l:Aa Int,a=[ln l]/\l.length<=1000/\EQ.gc l<BD/\b (.o (ln (EQ.wd l)))
def Sj:RD:=λd a c=>∃ (v b:Aa Int) (k:Nat),a=[ln v,ln b,.int k]/\k<v.length/\v.length=b.length/\v.length<=1000/\zX v/\zX b/\c (.v (ln (EQ.cl v b k)))
theorem wU {g:Type} [DecidableEq g] {a b:g}{p q:Prop}(j:¬ a=b->p) (l:a=b->q):if (nb true (decide (a=b)))=true then p else q:=by
 by_cases h:a=b
 .rw[cX h];exact l h
 .rw[cG h];exact j h
theorem uJ {l:Aa Int}{k:Nat}(h:k<l.length):pA (l.map D.int) (k:Int)=some (.int (EQ.ix l k)):=by
 unfold pA;have e:rZ (l.map D.int).length (k:Int)=some k:=by
  unfold rZ;rw[aP (by omega),aA,aP (by omega)];rfl
 rw[e];show (l.map D.int)[k]?=_;rw[aU,aF h];unfold EQ.ix;rw[bT,aF h];rfl
theorem Ko (j g:Aa Int):wZ (j.map D.int) (g.map D.int)=(j.zip g).map λp=>D.t [.int p.1,.int p.2]:=by
 unfold wZ;rw[List.zipWith_map,List.zip,jA]
def Xc:Aa Sl->Nat
 | [_,.v (.int b),_]=>b.natAbs
 | _=>0
theorem ML:(["number","divisor"]:Aa Af).Nodup:=by decide +kernel
theorem Ts:(["value","other","by","at","values"]:Aa Af).Nodup:=by decide +kernel
section
variable {P:Ah}{K:mZ}
theorem E3:FnScope ["one","other","rest"] ["one","other"] (nS B2):=pO
theorem KN:pQ P w K g base 1 "divisor_of_two" B2 ["one","other"] Kk:=by
 refine pZ E3 λf x A m s H E F G M D L B=>?_
 obtain⟨a,b,rfl,k⟩:=B;refine⟨_,(hO (Oy eC (qT (uE D.units) (pF true) (pv 1) hV) (hO (nX 2 E3.nd (sP rB B9 0 (cN 1))) (hO (nX 0 E3.nd (cN 1)) (nJ (nX 1 E3.nd (cN 2)))))) (nJ (oC (cN 0)))),?_⟩;refine nG (λq=>∃ t u,q=[.v (.int (Nat.gcd a b:Nat)),t,u]) (λN z=>?_) ?_
 .refine⟨λq=>∃ (c d:Nat) (s:Sl),q=[.v (.int c),.v (.int d),s]/\Nat.gcd c d=Nat.gcd a b,Xc,⟨a,b,.n,rfl,rfl⟩,?_⟩;rintro _ ⟨c,d,s,rfl,i⟩;refine⟨rfl,wU (λh=>?_) λh=>?_⟩
  .have y:0<d:=by omega
   have e:(c:Int)%(d:Int)=((c%d:Nat):Int):=rfl;refine⟨rfl,by show (0:Int)<d;omega,?_⟩;refine⟨⟨d,c%d,_,rfl,?_⟩,?_⟩
   .rw[<- i,mU c d,Nat.gcd_rec d c,mU]
   .show ((c:Int)%(d:Int)).natAbs<(d:Int).natAbs;rw[e];have:=Nat.mod_lt c y;omega
  .have:d=0:=by omega
   subst this;rw[Nat.gcd_zero_right] at i;subst i;exact z _ ⟨_,_,rfl⟩
 rintro _ ⟨t,u,rfl⟩;exact k
theorem Fu:FnScope ["numbers","found","number"] ["numbers"] (nS G6):=pO
theorem KA (T:Txt j) (g:Kn P w K j base 1 "divisor_of_two" B2 ["one","other"] Kk):pQ P w K j base 2 "common_divisor" G6 ["numbers"] An:=by
 refine pZ Fu λf q A m s H E z B G u F t=>?_
 obtain⟨l,rfl,k⟩:=t;refine⟨_,(hO (nX 1 Fu.nd hV) (hO (qL (oP (cN 0)) (nM 2 Fu.nd) (nJ (nX 1 Fu.nd (oV g u (dK (cN 1) (dK (pC Bw C9 T.abs iD (dK (cN 2) hH)) hH)))))) (nJ (oC (cN 1))))),?_⟩;refine nG (λb=>b=[.v (ln l),.v (.int 0),.n]) (λN c=>c _ rfl) ?_;rintro _ rfl;refine nG (λb=>∃ a,b=[.v (ln l),.v (.int (EQ.gc l:Nat)),a]) (λN c=>?_) ?_
 .refine qI (l.map D.int) [.v (ln l),.v (.int 0),.n] (λL h=>h) (λi b=>∃ a,b=[.v (ln l),.v (.int (EQ.gc (l.take i):Nat)),a]) ⟨_,rfl⟩ ?_ ?_
  .rintro i d _ hd ⟨a,rfl⟩;obtain⟨x,y,rfl⟩:=qP hd;refine⟨_,x.natAbs,rfl,.inl rfl,⟨.v (.int x),?_⟩⟩;have e:EQ.gc (l.take (i+1))=Nat.gcd (EQ.gc (l.take i)) x.natAbs:=by
    rw[bP,y];unfold EQ.gc;rw[dR];rfl
   rw[e];rfl
  .rintro _ ⟨a,rfl⟩;rw[aA,cL];exact c _ ⟨_,rfl⟩
 rintro _ ⟨a,rfl⟩;exact k
theorem U7:FnScope ["numbers","divisor"] ["numbers"] (nS B0):=pO
theorem IY (T:Txt j) (g:Kn P w K j base 2 "common_divisor" G6 ["numbers"] An):pQ P w K j base 3 "without_divisor" B0 ["numbers"] Kz:=by
 refine pZ U7 λf n A b s H E F G R u Q t=>?_
 obtain⟨l,rfl,O,M,a⟩:=t;refine⟨_,(hO (nX 1 U7.nd (pC (J6 rfl) Jk T.max lI (dK hV (dK (oV g u (dK (cN 0) hH)) hH)))) (nJ (oC (qB ["number"] ["divisor"] [1] (oP (cN 0)) (λ_ _ _ _ _=>(nM 0 ML)) (λ_ _ _ _ _=>(sP Fm Fa 0 (cN 1))))))),?_⟩;refine nG (λz=>z=[.v (ln l),.v (.int ((max 1 (EQ.gc l):Nat):Int))]) (λN q=>?_) ?_
 .refine⟨l,rfl,.inl rfl,λm c d L=>?_⟩;have:m=((max 1 (EQ.gc l):Nat):Int):=by omega
  rw[this];exact q _ rfl
 rintro _ rfl;unfold sH;refine rA l D.int (λx=>D.int (x/((max 1 (EQ.gc l):Nat):Int))) [.v (ln l),.v (.int ((max 1 (EQ.gc l):Nat):Int))] (λS h=>h) (by omega) (λi x y k e c d=>?_) ?_
 .have:=HZ;refine⟨rfl,⟨by omega,?_⟩,c,?_⟩
  .show ((max 1 (EQ.gc l):Nat):Int).natAbs<BD;have B:1<BD:=by decide +kernel
   rw[hU];omega
  .show k (y++[.int (x.fdiv ((max 1 (EQ.gc l):Nat):Int))]) _;rw[fP _ (by omega)];exact d
 .have:(l.map λx=>D.int (x/((max 1 (EQ.gc l):Nat):Int)))=(EQ.wd l).map D.int:=by unfold EQ.wd;rw[List.map_map];rfl
  rw[this];exact a
theorem Ni:FnScope ["values","by","at","rest"] ["values","by","at"] (nS Ec):=pO
theorem Yg (T:Txt j) (g:Kn P w K j base 3 "without_divisor" B0 ["numbers"] Kz):pQ P w K j base 4 "cleared" Ec ["values","by","at"] Sj:=by
 refine pZ Ni λf Q A z s H E X Y l M m S=>?_
 obtain⟨v,b,k,rfl,hk,V,G,q,d,a⟩:=S;refine⟨_,(hO (pE (sZ (sA M.units) (pF false) (nT m 0 (cN 2)) hV) (nJ (oC (cN 0))) pG) (hO (Fc 3 ["value","other"] ["by","at","values"] [1,2,0] Ni.nd (Ll (by rfl) T.zip (dK (cN 0) (dK (cN 1) hH))) (λ_ _ _ _ _=>(yE (n:=2) rfl (rD (nM 0 Ts) (rD (nM 1 Ts) xO)))) (λ_ _ _ _ _=>(qF Bb E7 (qF yV yR (nT m 2 (cN 3)) (cN 0)) (qF yV yR (nT m 4 (cN 3)) (cN 1))))) (nJ (oC (Rs (oV g M (dK (cN 3) hH))))))),?_⟩;have F:=uJ hk;have O:=uJ (show k<b.length by omega);unfold EQ.cl at a;refine nG (λB=>B=[.v (ln v),.v (ln b),.v (.int k),.n]/\¬ EQ.ix v k=0) (λN c=>?_) ?_
 .refine⟨rfl,_,F,Br (λh=>?_) λh=>c _ ⟨rfl,h⟩⟩;rw[aP h] at a;exact a
 rintro _ ⟨rfl,h⟩;rw[aI h] at a;refine nG (λB=>B=[.v (ln v),.v (ln b),.v (.int k),.o (ln (List.zipWith (λx y=>EQ.ix b k*x-EQ.ix v k*y) v b))]) (λN c=>?_) ?_
 .unfold rQ;refine rA (v.zip b) (λp=>.t [.int p.1,.int p.2]) (λp=>.int (EQ.ix b k*p.1-EQ.ix v k*p.2)) [.v (ln v),.v (ln b),.v (.int k),.n] (λr h=>⟨_,_,_,_,rfl,rfl,by rw[Ko];exact h⟩) (by rw[fE];omega) (λi x Z W e G R=>?_) (c _ ?_)
  .have L:=gQ (aK e);exact⟨rfl,rfl,rfl,_,O,⟨d _ (EQ.ix_mem (by omega)),q _ L.1⟩,rfl,_,F,⟨q _ (EQ.ix_mem hk),d _ L.2⟩,G,R⟩
  .have:(v.zip b).map (λp=>D.int (EQ.ix b k*p.1-EQ.ix v k*p.2))=(List.zipWith (λx y=>EQ.ix b k*x-EQ.ix v k*y) v b).map D.int:=by
    rw[List.zip,jA,jA]
   rw[this];rfl
 rintro _ rfl;refine⟨_,rfl,by rw[eL];omega,?_,.inl rfl,_,rfl,a⟩;refine bG (EQ.gc_le (EQ.Le.zip (A:=BM) (C:=BM) V (λx u=>dX (q x u)) λx u=>dX (d x u))) ME
end
end Lw
namespace L2
open PySem PySem.Spec PyProof.Rows Lw
mutual
def rO:D->Bool
 | .k _=>false
 | .T _=>false
 | .dM _=>false
 | .t a=>xV a
 | .l a=>xV a
 | .c a=>xV a
 | .con a=>xV a
 | _=>true
def xV:Aa D->Bool
 | []=>true
 | x::a=>rO x&&xV a
end
theorem Ix:∀ {g:Aa D},(∀ x∈g,rO x=true)->xV g=true
 | [],_=>rfl
 | x::g,h=>by
  show (rO x&&xV g)=true;rw[h x aE,Ix λy a=>h y (aJ _ a)];rfl
theorem sS (g:Aa Int):rO (.l (g.map D.int))=true:=Ix λx a=>by obtain⟨_,_,rfl⟩:=aN.mp a;rfl
theorem Z9 (g:Aa (Aa Int)):rO (.l (g.map λr=>.l (r.map D.int)))=true:=Ix λx a=>by obtain⟨_,_,rfl⟩:=aN.mp a;exact sS _
section
variable {K:mZ}
theorem Rep.nd (I:∀ b,b≠a->g b=H b) (hw:H a=some w) (J:Kd w=true) (C:∀ b p,A b->H b=some (.l p)->j b){d:D}{v:V}(h:Rep K A H d v):rO d=true->Rep K j g d v :=
 have get:∀ {b:Ad} {u:HO},H b=some u->Kd u=false->g b=some u:=λ{b u} e n=>by
  rw[I b λz=>by subst z;rw[hw] at e;cases e;rw[J] at n;cases n];exact e
 Rep.rec (motive_1:=λd v _=>rO d=true->Rep K j g d v) (motive_2:=λf p _=>xV f=true->Reps K j g f p)
  (λ_=>.e) (λb _=>.b b) (λi _=>.int i) (λx _=>.str x) (λv _=>.r v)
  (λh _ r n=>.t (get h rfl) (r n)) (λh _ r n=>.con h (r n)) (λm h _ r n=>.l (C _ _ m h) (get h rfl) (r n))
  (λh _ r n=>.c (h.elim (λ⟨o,q⟩=>.inl ⟨o,get q rfl⟩) .inr) (r n)) (λ_ _ _ _ _ n=>by cases n) (λ_ _ _ _ _ n=>by cases n) (λ_ _ _ _ _ n=>by cases n)
  (λ_=>.nil) (λ_ _ h r n=>.cons (h ((cA _ _).mp n).1) (r ((cA _ _).mp n).2)) h
def rT (n:Nat) (g:Aa Sl):Prop:=∀ i s,i≠n->g[i]?=some s->s = .n\/∃ d,s = .v d/\rO d=true
theorem rT.set {n i:Nat}{g:Aa Sl}(h:rT n g){d:D}(hd:rO d=true):rT n (g.set i (.v d)):=λk s hk e=>by
 rw[fQ] at e;by_cases z:i=k
 .subst z;by_cases l:i<g.length
  .rw[aP rfl,aP l] at e;cases e;exact .inr ⟨d,rfl,hd⟩
  .rw[aP rfl,aI l] at e;cases e
 .rw[aI z] at e;exact h k s hk e
theorem rT.setN {n:Nat}{g:Aa Sl}(h:rT n g) (x:Sl):rT n (g.set n x):=λk s hk e=>by
 rw[cH (λz=>hk z.symm)] at e;exact h k s hk e
theorem Uz {g:Aa Sl}{j:St}{p:Sl×Ab V}(l:p∈g.zip j):∃ i:Nat,g[i]?=some p.1/\j[i]?=some p.2:=by
 obtain⟨i,a⟩:=eX.mp l;exact⟨i,fY.mp a⟩
theorem Ia:∀ {ρ:Aa Sl}{σ:St},(∀ s∈ρ,s = .n\/∃ d,s = .v d)->dT (ρ.zip σ)=[]
 | [],_,_=>rfl
 | _::_,[],_=>rfl
 | s::ρ,y::σ,h=>by
  have:=Ia (σ:=σ) λt a=>h t (aJ _ a)
  rcases h s aE with rfl | ⟨d,rfl⟩<;>exact this
theorem K9 {c:D}:∀ {n:Nat}{ρ:Aa Sl}{σ:St},rT n ρ->σ[n]?=some (some (.ref a))->n<ρ.length->dT ((ρ.set n (.o c)).zip σ)=[a]
 | 0,s::ρ,y::σ,ok,b,_=>by
  have e:y=some (.ref a):=by simpa using b
  subst e;have:=Ia (ρ:=ρ) (σ:=σ) λt m=>by
   obtain⟨i,f⟩:=eX.mp m;rcases ok (i+1) t (by omega) (by simpa using f) with e | ⟨d,e,_⟩
   .exact .inl e
   .exact .inr ⟨d,e⟩
  show a::dT (ρ.zip σ)=[a];rw[this]
 | n+1,s::ρ,y::σ,ok,b,k=>by
  have q:=K9 (c:=c) (n:=n) (ρ:=ρ) (σ:=σ) (λi t f e=>ok (i+1) t (by omega) (by simpa using e)) (by simpa using b) (by simpa using k);rcases ok 0 s (by omega) rfl with rfl | ⟨d,rfl,_⟩<;>exact q
 | n,[],_,_,_,h=>absurd h (jI _)
 | 0,_::_,[],_,b,_=>by simp at b
 | n+1,_::_,[],_,b,_=>by simp at b
def hB (B:Bs) (R:Aa Ad) (a:Ad) (o:Obj) (u:HO) (H:Hp):Bs:=⟨B.dk,λb=>Al B R b\/b=a,upd H a (.frz o u)⟩
theorem DS.hold {C:Aa Sl}{J:St}{n:Nat}{l:Aa (MK×D)}(hl:C.length=J.length) (hd:DS K B (C.zip J++T) H) (hn:C[n]?=some (.o (.dM l))) (ok:rT n C) (hv:∀ p∈l,rO p.2=true) :
  ∃ a j,J[n]?=some (some (.ref a))/\H a=some (.dM j)/\l.map (·.1)=j.map (·.1)/\a∉B.dk /\
   (∀ o,DS K (hB B (dT (C.zip J++T)) a o (.dM j) H) ((C.set n (.v (.dM l))).zip J++[]) (upd H a (.frz o (.dM j)))) /\
   ∀ o I U H',I.length=U.length->DS K (hB B (dT (C.zip J++T)) a o (.dM j) H) (I.zip U++[]) H'->I[n]?=some (.v (.dM l))->U[n]?=some (some (.ref a))->rT n I ->
    DS K B ((I.set n (.o (.dM l))).zip U++T) (upd H' a (.dM j)):=by
 obtain⟨l1,y,l2,hy,_,hz,_⟩:=vB hl hn;have hm:((Sl.o (.dM l),y):Sl×Ab V)∈C.zip J++T:=by rw[hz];simp
 obtain⟨a,e0,j,Z,Y,rs⟩:=hd.ok _ hm;have e':y=some (.ref a):=e0;clear e0;subst e';have E:n<C.length:=(aG.mp hn).1;have A:dT (C.zip J++T)=a::dT T:=by
  have O:C.set n (.o (.dM l))=C:=by
   apply gO ;intro i;rw[fQ];by_cases z:n=i
   .subst z;rw[aP rfl,aP E];exact hn.symm
   .rw[aI z]
  have:=K9 (c:=.dM l) ok hy E;rw[O] at this;rw[qQ,this];rfl
 have hR:a∈dT (C.zip J++T):=by rw[A];exact aE
 obtain⟨n0,S⟩:=hd.new a hR;refine⟨a,j,hy,Z,Y,S,λo=>?_,λo I U H' l' X aa R W=>?_⟩
 .have ns:∀ s∈C.set n (.v (.dM l)),s = .n\/∃ d,s = .v d:=λs hs=>by
   obtain⟨i,hi⟩:=eX.mp hs;by_cases z:i=n
   .subst z;rw[fL E] at hi;cases hi;exact .inr ⟨_,rfl⟩
   .rcases ok.setN (.v (.dM l)) i s z hi with e | ⟨d,e,_⟩
    .exact .inl e
    .exact .inr ⟨d,e⟩
  have r0:dT ((C.set n (.v (.dM l))).zip J++[])=[]:=by rw[dN];exact Ia ns
  have mv:∀ {d:D} {v:V},Rep K (Al B (dT (C.zip J++T))) H d v->rO d=true->Rep K (Al (hB B (dT (C.zip J++T)) a o (.dM j) H) []) (upd H a (.frz o (.dM j))) d v:=λr nd =>
   r.nd (a:=a) (λb z=>gV z) Z rfl (λb P m _=>⟨m.1,bA,.inl (.inl m)⟩) nd
  refine⟨λb o' q _=>q,hd.dk.upd S,by rw[r0];exact gE,by rw[r0];exact λb m=>absurd m bA,λp w=>?_⟩;rw[r0];rw[dN] at w;obtain⟨i,f,F⟩:=Uz w;obtain⟨s,x⟩:=p;dsimp only at f F;by_cases z:i=n
  .subst z;rw[fL E] at f;rw[hy] at F;cases f;cases F;refine⟨.ref a,rfl,.dM ⟨S,bA,.inl (.inr rfl)⟩ (.inr ⟨o,hI⟩) Y ?_⟩;have:∀ {N:Aa D} {P:Aa V},Reps K (Al B (a::dT T)) H N P->(∀ d∈N,rO d=true)->Reps K (Al (hB B (dT (C.zip J++T)) a o (.dM j) H) []) (upd H a (.frz o (.dM j))) N P:=λ{N}=>by
    induction N with
    | nil=>intro P r _;cases r;exact .nil
    | cons d N ih=>intro P r h;cases r with | cons g r=>exact .cons (mv (by rw[A];exact g) (h d aE)) (ih r λx hx=>h x (aJ _ hx))
   exact this (by rw[<- A];exact rs) λd hd=>by obtain⟨p,w,rfl⟩:=aN.mp hd;exact hv p w
  .rcases ok.setN (.v (.dM l)) i s z f with e | ⟨d,e,nd⟩
   .subst e;trivial
   .subst e;rw[cH (λq=>z q.symm)] at f;obtain⟨v,e,r⟩:=hd.ok (.v d,x) (bK _ (eX.mpr ⟨i,fY.mpr ⟨f,F⟩⟩));exact⟨v,e,mv r nd⟩
 .have L:n<I.length:=(aG.mp aa).1;have r2:dT ((I.set n (.o (.dM l))).zip U++T)=a::dT T:=by rw[qQ,K9 W R L];rfl
  have Q:H' a=some (.frz o (.dM j)):=X.fr a _ hI S;have keep:∀ b u,b≠a->b∉B.dk->H b=some u->upd H' a (.dM j) b=some u:=λb u z k e=>by
   rw[gV z];exact X.fr b u (by show upd H a _ b=_;rw[gV z];exact e) k
  have kp:Kp (Al B (a::dT T)) (Al B (a::dT T)) H (upd H' a (.dM j)):=by
   refine⟨λb u m e=>⟨m,keep b u (λz=>m.2.1 (z▸aE)) m.1 e⟩,λb u t O=>keep b u (λz=>?_) (λz=>?_) O⟩
   .subst z;rw[Z] at O;cases O;cases t
   .obtain⟨xs,q⟩:=hd.dk.some z;rw[O] at q;cases q;cases t
  have M:=hd.nd;rw[A] at M;refine⟨λb u e k=>keep b u (λz=>by rw[z,n0] at e;cases e) k (hd.fr b u e k),X.dk.upd S,by rw[r2];exact M,by rw[r2,<- A];exact hd.new,λp w=>?_⟩;rw[r2];rcases aQ.mp w with w | w
  .obtain⟨i,f,F⟩:=Uz w;obtain⟨s,x⟩:=p;dsimp only at f F;by_cases z:i=n
   .subst z;rw[fL L] at f;rw[R] at F;cases f;cases F;exact⟨a,rfl,j,hI,Y,(by rw[<- A];exact rs:Reps K (Al B (a::dT T)) H _ _).mono kp⟩
   .rcases W.setN (.o (.dM l)) i s z f with e | ⟨d,e,nd⟩
    .subst e;trivial
    .subst e;rw[cH (λq=>z q.symm)] at f;obtain⟨v,e,r⟩:=X.ok (.v d,x) (bK _ (eX.mpr ⟨i,fY.mpr ⟨f,F⟩⟩));refine⟨v,e,r.nd (a:=a) (λb z=>gV z) Q rfl (λb P m q=>?_) nd⟩;obtain⟨b1,_,G⟩:=m;rcases G with (G | G) | G
     .rw[<- A];exact G
     .subst G;rw[Q] at q;cases q
     .have ne:b≠a:=λz=>by
       subst z;have:upd H b (.frz o (.dM j)) b=none:=G;rw[hI] at this;cases this
      have m:H b=none:=by have:upd H a (.frz o (.dM j)) b=none:=G;rwa [gV ne] at this
      obtain⟨f1,f2,f3⟩:=hd.free m;rw[A] at f3;exact⟨b1,f3,.inr f1⟩
  .have:=hd.ok p (bL _ w);rw[A] at this;refine this.mono kp λr hr u e=>keep r u (λz=>?_) (hd.new r ?_).2 e
   .subst z;exact (bN.mp M).1 (tG.mpr ⟨p,w,hr⟩)
   .rw[A];exact aJ _ (tG.mpr ⟨p,w,hr⟩)
end
def EZ (n i j:Nat) (g:nN):qG:=λh f e=>∃ a,e[n]?=some (.o (.dM a))/\rT n e/\(∀ p∈a,rO p.2=true)/\∃ Pv:Nat->Aa Sl->Prop,Pv 0 (e.set n (.v (.dM a))) /\
 (∀ q d b,(rG a)[q]?=some d->Pv q b->rO d=true/\g h (b.set j (.v d)) λr c=>∃ x,sd r=some x/\rO x=true/\c[n]?=some (.v (.dM a))/\rT n c/\Pv (q+1) (c.set i (.v x))) /\
 ∀ b,Pv a.length b->f.nx (b.set n (.o (.dM a)))
section
variable {X:Cx}
theorem LZ (n i j:Nat){x y z:Af}{p1 C p3 p4 pos:Pos}{e:Expr}{te:nN}(I:X.N.Nodup) (he:PD X e te) (hx:PE X (.Name x C) (pY n):=by exact pv _) (hj:X.N[j]?=some y:=by rfl) (hi:X.N[i]?=some z:=by rfl) (nj:j≠n:=by decide) (ni:i≠n:=by decide)
  (hy:uN X.env.scope y:=by first | exact Or.inl rfl | exact Or.inr rfl) (hz:uN X.env.scope z:=by first | exact Or.inl rfl | exact Or.inr rfl) (hc:X.calm=true:=by rfl)
  (p:swapsWith e (some (.Name z p3)) p4.line X.env=pure false:=by rfl) (hp:PassesOwn (model X.prog X.w) X.A X.env X.xe:=by exact eC)
  (g:X.fn y=true\/X.env.scope.names.lookup y=some .local:=by first | exact .inl rfl | exact .inr rfl | assumption) (l:X.fn z=true\/X.env.scope.names.lookup z=some .local:=by first | exact .inl rfl | exact .inr rfl | assumption)
  (hs:∀ v,foldedSetIterable (.Name x C) X.env v=pure v:=by intro _;rfl) :
  tL X (.For (.Name y p1) (.Name x C) [.Assign [.Name z p3] e p4] [] pos) (EZ n i j te) :=
 (Ja (vZ hp hc (Ey hx) (uH I hj hy g) (qE (oN I hi hz he p l)) hs)).mono λDn G H Q=>Q.elim λB V T De W hd ⟨c,Z,ok,hv,Pv,p0,step,fin⟩ lk=>by
  obtain⟨a,h,D,ha,ek,nk,tF,back⟩:=hd.hold W Z ok hv;have O:n<V.length:=(aG.mp Z).1;refine⟨.ref a,D,a,.dM h,h.map (·.1),rfl,rfl,.inl ⟨ha,λo h0=>?_⟩⟩;have Y:=E2 (K:=X.K) (a:=a) (o:=o) (u:=.dM h) (ks:=h.map (·.1));have km:(h.map (·.1)).map gD=rG c:=by unfold rG;rw[<- ek,List.map_map];rfl
  rw[km] at Y;have kl:(rG c).length=c.length:=by unfold rG;rw[List.length_map]
  refine⟨λq m k t=>m=c.length-q/\q<=c.length/\∃ b,b.length=k.length/\k.length=G.length/\k[n]?=some (some (.ref a))/\b[n]?=some (.v (.dM c))/\rT n b/\DS X.K (hB B (dT (V.zip G++T)) a o (.dM h) H) (b.zip k++[]) t/\Pv q b,⟨_,rfl,cE _,_,by rw[aY];exact W,rfl,D,fL O,ok.setN _,tF o,p0⟩,?_⟩;rintro q m k t ⟨rfl,hq,b,F,U,m3,m4,m5,L,pv⟩;have hk:t a=some (.frz o (.dM h)):=L.fr a _ hI nk;by_cases P:q<c.length
  .refine .inr ⟨Y.go q t (by omega) hk,λs E=>∃ f,f.length=s.length/\s.length=G.length/\s[n]?=some (some (.ref a))/\f[n]?=some (.v (.dM c))/\rT n f/\DS X.K (hB B (dT (V.zip G++T)) a o (.dM h) H) (f.zip s++[]) E/\Pv (q+1) f,λs E ⟨f,w1,w2,w3,w4,w5,w6,w7⟩=>⟨_,(by omega:c.length-(q+1)<_),rfl,P,f,w1,w2,w3,w4,w5,w6,w7⟩,λv E yl=>?_⟩;obtain⟨d,M,rfl,rx⟩:=Y.yld q t v E (by omega) hk yl;obtain⟨nd,st⟩:=step q d b M pv;have d2:=(DS.push (L1:=b.zip k) (L2:=[]) L (rx _)).assign F j;refine⟨_,b.set j (.v d),[],_,by rw[aY,aY];exact F,d2,st,λr f v2 H3 J d3 R=>?_⟩;obtain⟨x',e1,e2,e3,e4,e5⟩:=R;have d4:=(d3.thaw e1).assign (by rw[J]) i;have S:f.length=(k.set j (some v)).length:=J;refine⟨f.set i (.v x'),by rw[aY,aY];exact S,by rw[aY,aY];exact U,?_,?_,e4.set e2,d4,e5⟩
   .rw[cH ni,cH nj];exact m3
   .rw[cH ni];exact e3
  .have eq:q=c.length:=by omega
   subst eq;refine .inl ⟨Y.stop _ t kl.symm hk,.inr ⟨a,o,.dM h,rfl,hk,h0,?_⟩⟩;exact (lk.1 _ _ _ (by rw[aY];exact F) U (back o b k t F L m4 m3 m5)).1 (fin b pv)
end
end L2
namespace L2
open PySem PySem.W PySem.Spec PyProof.Rows Lw
section
theorem KY (C:A.handled=none) (I:Ad) (l:d≠I):Walks p w A I [I,d] [I] g.size (λi v=>∃ j:i<g.size,v=g[i].key) (λi h=>h.IsKeyIter I d i g.size r/\RawD h d o g r) where
 sub:=λb a=>by simp at a;simp[a]
 frame:=λ_ _ _ st hk=>⟨st.1.at λo e=>hk I (by simp) o e,⟨st.2.low,hk d (by simp) _ st.2.get,st.2.ex,st.2.dat⟩⟩
 item:=λi s Q E j st c=>Qn st.2 st.1 j λf k m=>c _ f s.toks ⟨j,rfl⟩ ⟨k,⟨st.2.low,(m.2 d l).trans st.2.get,st.2.ex,st.2.dat⟩⟩ λb o a e=>(m.2 b (λz=>a (by simp[z]))).trans e
 done:=λs Q E st c=>Ro C st.2 st.1 λf n=>c f s.toks λb o a e=>n b o (λz=>a (by simp[z])) e
 self:=λ_ _ _ _ st c=>wpAny_pyIter_keyiter st.1 c
theorem MA:KdlSrc j w "dict" d d g.size (λi v=>∃ p:i<g.size,v=g[i].key) (λh=>RawD h d o g l) where
 type:=λ_ a=>a.ty
 there:=λ_ a=>⟨aT a.get,aT a.get⟩
 keep:=λ_ _ a hk=>⟨a.low,hk d (.inl rfl) _ a.get,a.ex,a.dat⟩
 notList:=by decide
 notTuple:=by decide
 hint:=λ_ _ _ _ a b=>kdl_hint_dict a.ty b
 iter:=λ_ _ c a=>⟨_,_,(λ_ _ b=>Rm a b),KY c _ (bH (aT a.get)),⟨⟨_,bC _ rfl,rfl,rfl⟩,⟨a.low,aL _ a.get,a.ex,a.dat⟩⟩⟩
end
theorem Wj {P:Ah}{w:World}{H:Hp}{h:Ag}{a:Ad}{g:Aa (MK×V)}(ok:oO P w H h) (C:Rd H a (.dM g)) :
  ∃ o j p,RawD h a o j p/\j.size=g.length/\∀ (i:Nat) (l:i<j.size),∃ k v,g[i]?=some (k,v)/\tS H k j[i].key:=by
 have b:∀ {j:Array DictEntry} {i:Nat} {e:DictEntry} (l:i<j.size),j.toList[i]?=some e->j[i]=e:=λ{j i e} l h=>by
  rw[dH,cV l] at h;exact bR h
 obtain⟨z,lo,u,r,s,j,p,d,f,m,c,_⟩:=(show oG P w H h a (.dM g) from Db ok C);have x:=eP r;have y:j.size=u.length:=by simpa using cK List.length c
 refine⟨s,j,p,⟨lo,d,f,m⟩,by omega,λi l=>?_⟩;have hk:i<g.length:=by omega
 obtain⟨q,n,A,t,B⟩:=By r (aF hk);refine⟨g[i].1,g[i].2,aF hk,?_⟩;rw[b l (by rw[c,aU,n];rfl)];exact t
def zO:MK->V
 | .inl k=>kV k
 | .inr _=>.e
def A7 (k:MK):Bool:=match k with
 | .inl _=>true
 | .inr _=>false
section
variable {X:Cx}{K:mZ}
def Rp:Aa V->Hp->VK->Prop:=λc H Q=>∃ (a:Ad) (b:Aa (MK×V)),c=[.ref a]/\Rd H a (.dM b)/\b.length<=1000/\(∀ p∈b,A7 p.1=true)/\∀ l,H l=none->Q (.ref l) (upd H l (.l (b.map λp=>zO p.1)))
theorem DH (g:X.calm=true):oH X (.type "list") Rp:=by
 intro A s U H T d Q I r h;obtain⟨a,b,rfl,E,z,n,q⟩:=h;obtain⟨u,rfl,R⟩:=qJ r;cases R;obtain⟨J,Z,Y,raw,sz,rows⟩:=Wj I.hok E;refine PySem.W.kdl_call MA (I.ok.hd g) raw (by rw[sz];exact bD z (by decide)) λj S f c O t w=>?_
 obtain⟨C,P⟩:=w;have rel:nE (b.map λp=>zO p.1) f.toList:=by
  have go:∀ (b:Aa (MK×V)) (d:Aa Ac),d.length=b.length->(∀ p∈b,A7 p.1=true)->(∀ (i:Nat) v,d[i]?=some v->∃ k x,b[i]?=some (k,x)/\tS H k v)->nE (b.map λp=>zO p.1) d:=by
   intro b;induction b with
   | nil =>
    intro d m _ _;cases d with
    | nil=>exact .nil
    | cons _ _=>cases m
   | cons p b L =>
    intro d m n y;cases d with
    | nil=>cases m
    | cons u d =>
     obtain⟨k,x,B,D⟩:=y 0 u rfl;cases B;have:=n _ aE;rw[aO];refine .cons ?_ (L d (lW m) (λp G=>n p (aJ _ G)) λi v e=>y (i+1) v e);rcases k with k | k
     .exact D
     .cases this
  refine go b f.toList (by rw[eT];omega) n λi v e=>?_
  rw[dH] at e;obtain⟨F,rfl⟩:=P i v e;obtain⟨k,x,M,N⟩:=rows i F;exact⟨k,x,M,N⟩
 exact⟨.ref s.heap.objs.size,_,I.laid (a:=s.heap.objs.size) (o:=.l (b.map λp=>zO p.1)) (t':=S) O (aR _) ⟨by rw[aA];exact bD z (by decide),f.toList,c,rel,by rw[Array.toArray_toList];exact t⟩,rfl,q _ (I.hok.fresh (aR _))⟩
def CF:OC:=λb c=>match b with
 | [.dM a]=>a.length<=1000/\(∀ p∈a,A7 p.1=true)/\c (.o (.l (rG a)))
 | _=>False
theorem Xp:qR K Rp CF:=by
 intro B L H s F G Q hd n c k;cases s with
 | nil=>exact False.elim c
 | cons d s =>
 cases d<;>first | exact False.elim c | skip<;>cases s<;>first | exact False.elim c | skip
 rename_i b
 obtain⟨x,rfl,E⟩:=rV n;obtain⟨a,m,rfl,h,e,r⟩:=E.dM_inv;have D:b.length=m.length:=by have:=cK List.length e;simpa using this
 have u:∀ p∈m,A7 p.1=true:=λp n=>by
  have:p.1∈b.map (·.1):=by rw[e];exact bQ n
  obtain⟨q,y,t⟩:=aN.mp this;rw[<- t];exact c.2.1 q y
 refine⟨a,m,rfl,h,by rw[<- D];exact c.1,u,λl w=>k _ _ _ c.2.2 (hd.lstF w ?_)⟩;have t:rG b=(m.map (·.1)).map gD:=by rw[<- e,bB];rfl
 have v:(m.map λp=>zO p.1)=(m.map (·.1)).map zO:=by rw[bB];rfl
 rw[t,v];have go:∀ f:Aa MK,(∀ k∈f,A7 k=true)->Reps K (Al B (dT L)) H (f.map gD) (f.map zO):=λf=>by
  induction f with
  | nil=>intro _;exact .nil
  | cons k f A =>
   intro hk;refine .cons ?_ (A λx z=>hk x (aJ _ z));have:=hk k aE;rcases k with (i | x) | k
   .exact .int i
   .exact .str x
   .cases this
 exact go _ λk hk=>by obtain⟨p,n,rfl⟩:=aN.mp hk;exact u p n
end
end L2
namespace L2
open PySem PySem.Spec PyProof.Rows
theorem Zn {P:Ah}(h:Ag) (g:sysModules<h.objs.size):oG P w H (h.push { cls:=.type "dict",data:=.dict #[] }) h.objs.size (.dM []) :=
 ⟨cE _,cQ.mpr (eV (bH g)),[],.nil,_,#[],0,bC _ rfl,⟨rfl,rfl,rfl⟩,rfl,rfl,gE⟩
def BX:TE:=λ_ H Q=>∀ p,H p=none->Q (.ref p) (upd H p (.dM []))
section
variable {X:Cx}
theorem IL:PE X (.Dict [] [] pos) BX:=λb s c H Q I h =>
 wpAny_Dict_empty ⟨.ref s.heap.objs.size,_,I.laid (a:=s.heap.objs.size) (o:=.dM []) (t':=s.toks) (λ_ _ q=>aL _ q) (aR _) (Zn s.heap I.big),rfl,h _ (I.hok.fresh (aR _))⟩
def EL:nN:=λ_ b a=>a (.o (.dM [])) b
theorem BV:PD X (.Dict [] [] pos) EL:=IL.mono λh H Q a=>a.elim λB e T f b hd d k p c=>k _ e _ _ b (hd.dMF (ds:=[]) (kvs:=[]) c rfl .nil).mid d
end
end L2
namespace Lw
open PySem L2
abbrev hk (k:Nat):MK:=Sum.inl (Sum.inl (k:Int))
def nL (g:Aa (Nat×Aa Int)):Aa (MK×D):=g.map λh=>(hk h.1,ln h.2)
def N5:RD:=λc a b=>∃ (rows:Aa (Aa Int)) (m:Nat),a=[.l (rows.map ln)]/\rows.length<=1000/\m<=28/\(∀ r∈rows,r.length=m/\EQ.Bit r)/\b (.o (.dM (nL (EQ.red rows))))
theorem Cb {j k:Nat}:hk j=hk k↔j=k:=⟨λh=>Int.ofNat.inj (kR (kR h)),λh=>by rw[h]⟩
theorem Hz {j:Aa (Nat×Aa Int)}(l:(j.map (·.1)).Nodup){i:Nat}{h:Nat×Aa Int}(e:j[i]?=some h):nK (nL j) (hk h.1)=some (ln h.2):=by
 induction j generalizing i with
 | nil=>simp at e
 | cons g j c =>
  have a:=bN.mp l;show nK ((hk g.1,ln g.2)::nL j) _=_;rw[sB];cases i with
  | zero=>simp at e;subst e;rw[aP rfl]
  | succ i =>
   have b:j[i]?=some h:=by simpa using e
   rw[aI λz=>a.1 (by show g.1∈_;rw[Cb.mp z];exact bQ (aK b))];exact c a.2 b
theorem IZ {j:Aa (Nat×Aa Int)}{k:Nat}{v:Aa Int}(h:k∉j.map (·.1)):oA (nL j) (hk k) (ln v)=nL (j++[(k,v)]):=by
 unfold oA;rw[aI]
 .unfold nL;rw[List.map_append];rfl
 .intro z;obtain⟨p,b,e⟩:=iQ.mp z;obtain⟨g,a,rfl⟩:=aN.mp b;exact h (by rw[<- Cb.mp (eU e)];exact bQ a)
theorem IM {l:Aa (Nat×Aa Int)}(o:(l.map (·.1)).Nodup){i:Nat}{h:Nat×Aa Int}(e:l[i]?=some h) (v:Aa Int):oA (nL l) (hk h.1) (ln v)=nL (l.set i (h.1,v)):=by
 unfold oA;have n:((nL l).any λs=>decide (s.1=hk h.1))=true:=iQ.mpr ⟨(hk h.1,ln h.2),aN.mpr ⟨h,aK e,rfl⟩,by simp⟩;rw[aP n];unfold nL;rw[bB];apply gO;intro j;rw[aU,aU,fQ];by_cases z:i=j
 .subst z;rw[aP rfl,aP (aG.mp e).1,e];simp
 .rw[aI z];cases f:l[j]? with
  | none=>rfl
  | some g =>
   have ne:¬ hk g.1=hk h.1:=λq=>z (by
    have k:(l.map (·.1))[i]?=some h.1:=by rw[aU,e];rfl
    have m:(l.map (·.1))[j]?=some h.1:=by rw[aU,f,<- Cb.mp q];rfl
    obtain⟨a,c⟩:=aG.mp k;obtain⟨b,d⟩:=aG.mp m;rcases Nat.lt_trichotomy i j with lt | eq | gt
    .exact absurd (c.trans d.symm) (jV.mp o i j a b lt)
    .exact eq
    .exact absurd (d.trans c.symm) (jV.mp o j i b a gt))
   show some (if hk g.1=hk h.1 then _ else _)=_;rw[aI ne];rfl
theorem Ze (j:Aa (Nat×Aa Int)):∀ p∈nL j,rO p.2=true:=λp a=>by
 obtain⟨g,_,rfl⟩:=aN.mp a;exact sS _
theorem Yw (j:Aa (Nat×Aa Int)):∀ p∈nL j,A7 p.1=true:=λp a=>by
 obtain⟨g,_,rfl⟩:=aN.mp a;rfl
theorem Eh (g:Aa (Nat×Aa Int)):rG (nL g)=g.map λh=>D.int (h.1:Nat):=by
 unfold rG nL;rw[List.map_map];rfl
def CC:Nat:=2 ^ 140
theorem vA:0<CC:=mG (by decide)
theorem Jp {m:Nat}(h:m<=28):m*m ^ m<=CC:=by
 have:∀ m≤28,m*m ^ m<=CC:=by decide +kernel
 exact this m h
theorem Pq {j:Nat}(h:j<=28):(2*CC) ^ j*1<BM:=by
 refine bG (iI 1 (iL (Nat.mul_pos (by decide) vA) h)) ?_;decide +kernel
theorem E4:CC<BM:=by decide +kernel
theorem Ta (l:Aa Int):l.any (λx=>decide (x≠0))=l.any (· != 0):=by
 congr 1;funext x
 by_cases h:x=0
 .subst h;rfl
 .have:(x != 0)=true:=by simpa using h
  rw[this];simpa using h
abbrev xJ (s:Sl):Prop:=s = .n\/∃ d,s = .v d/\rO d=true
theorem zE {g U j l o p:Sl}(r:xJ g) (C:xJ j) (I:xJ l) (J:xJ o) (T:xJ p):rT 1 [g,U,j,l,o,p]:=λi s a e=>by
 rcases i with _ | _ | _ | _ | _ | _ | i
 .cases e;exact r
 .exact absurd rfl a
 .cases e;exact C
 .cases e;exact I
 .cases e;exact J
 .cases e;exact T
 .simp at e
theorem BK (l:Aa Int):wA (l.map D.int)=(List.range l.length).map λi=>D.t [.int (i:Nat),.int (EQ.ix l i)]:=by
 apply gO;intro i;by_cases h:i<l.length
 .rw[Jh (d:=.int (EQ.ix l i)) (by
   rw[aU,aF h];unfold EQ.ix;rw[bT,aF h];rfl),aU,jZ h];rfl
 .rw[eY (by rw[B7,aA];omega),eY (by rw[aA,bZ];omega)]
theorem Uw:∀ (j:Aa (Nat×Aa Int)) (v:Aa Int){m:Nat},v.length=m->(∀ h∈j,h.2.length=m)->(EQ.rest j v).length=m
 | [],_,_,e,_=>e
 | h::j,v,m,e,a=>by
  show (EQ.rest j (EQ.cl v h.2 h.1)).length=m;exact Uw j _ ((EQ.cl_len (e.trans (a h aE).symm)).trans e) λg b=>a g (aJ _ b)
theorem Rz:(["at","value"]:Aa Af).Nodup:=by decide +kernel
section
variable {P:Ah}{K:mZ}
theorem zM:FnScope ["table","heads","values","rest","at","last"] ["table"] (nS Dv):=pO
theorem JS (T:Txt mg) (p:Kn P w K mg base 4 "cleared" Ec ["values","by","at"] Sj):pQ P w K mg base 5 "reduced" Dv ["table"] N5:=by
 refine pZ zM λf ae A ac s H E dk ds Φ Z hu hR=>?_
 obtain⟨rows,m,rfl,hl,hm,Q,ab⟩:=hR;refine⟨_,(hO (nX 1 zM.nd BV) (hO (qL (oP (cN 0)) (nM 2 zM.nd) (hO (nX 3 zM.nd (cN 2)) (hO (LZ 1 3 4 zM.nd (oV p Z (dK (cN 3) (dK (nT hu 1 (cN 4)) (dK (cN 4) hH))))) (nJ (pE (xW (pC (FW rfl) HQ T.any PyProof.Rows.boot_any (dK (cN 3) hH))) (hO (nX 5 zM.nd (pC (J6 rfl) Jk T.max lI (dK (qB ["at","value"] [] [] (P2 (by rfl) T.enumerate (cN 3)) (λ_ _ _ _ _=>(yE (n:=2) rfl (rD (nM 0 Rz) (rD (nM 1 Rz) xO)))) (λ_ _ _ _ _=>(cN 0)) (ht:=λ_ _ _ _ _=>(vS (qT (uE Z.units) (pF true) (pv 1) hV)))) hH))) (hO (qL (oP (uG (DH rfl) Xp T.list fS (Bf (pv 1) hH))) (nM 4 zM.nd) (nJ (uP (n:=1) hu (oV p Z (dK (nT hu 1 (cN 4)) (dK (cN 3) (dK (cN 5) hH)))) (pv 1) (cN 4)))) (nJ (uP (n:=1) hu (cN 3) (pv 1) (cN 5))))) pG))))) (nJ (oC (wI 1 (pv 1)))))),?_⟩;refine nG (λk=>k=[.v (.l (rows.map ln)),.o (.dM []),.n,.n,.n,.n]) (λN G=>G _ rfl) ?_;rintro _ rfl;refine nG (λk=>∃ W X y L,k=[.v (.l (rows.map ln)),.o (.dM (nL (EQ.red rows))),W,X,y,L]) (λN G=>?_) ?_
 .refine qI (rows.map ln) [.v (.l (rows.map ln)),.o (.dM []),.n,.n,.n,.n] (λΨ h=>h) (λi k=>∃ W X y L,k=[.v (.l (rows.map ln)),.o (.dM (nL (EQ.red (rows.take i)))),W,X,y,L]/\rT 1 k) ⟨_,_,_,_,rfl,zE (.inr ⟨_,rfl,Z9 rows⟩) (.inl rfl) (.inl rfl) (.inl rfl) (.inl rfl)⟩ ?_ ?_
  .rintro i d _ hd ⟨W,X,y,L,rfl,ok⟩;obtain⟨v,hv,rfl⟩:=qP hd;have ht:EQ.red (rows.take (i+1))=EQ.red1 (EQ.red (rows.take i)) v:=by
    rw[bP,hv];unfold EQ.red;rw[dR];rfl
   rw[ht];obtain⟨vm,vb⟩:=Q v (aK hv);obtain⟨I,sm⟩:=EQ.red_ok (m:=m) (rows:=rows.take i) λr Z=>Q r (gI Z)
   generalize EQ.red (rows.take i)=a at *;generalize (λw=>∀ r∈rows.take i,EQ.dot m r w=0)=KK at *;have ag:=I.le;have S:∀ h∈a,EQ.Le CC h.2:=λh B=>(sm h B).mono (Jp hm)
   have rl:∀ q,(EQ.rest (a.take q) v).length=m/\zX (EQ.rest (a.take q) v):=λq=>by
    have hq:∀ h∈a.take q,h.2.length=m/\EQ.Le CC h.2:=λh B=>⟨I.len h (gI B),S h (gI B)⟩
    refine⟨Uw (a.take q) v vm λh B=>(hq h B).1,λx C=>bG (EQ.Le.rest vA (a.take q) vm hq vb.le x C) (Pq ?_)⟩;rw[bO];omega
   have V:=ok 0 _ (by decide) rfl;have J:=ok 5 _ (by decide) rfl;refine nG (λk=>k=[.v (.l (rows.map ln)),.o (.dM (nL a)),.v (ln v),.v (ln v),y,L]) (λN G=>G _ rfl) ?_;rintro _ rfl;refine nG (λk=>∃ c,k=[.v (.l (rows.map ln)),.o (.dM (nL a)),.v (ln v),.v (ln (EQ.rest a v)),c,L]/\rT 1 k) (λN G=>?_) ?_
   .refine⟨nL a,rfl,zE V (.inr ⟨_,rfl,sS v⟩) (.inr ⟨_,rfl,sS v⟩) (ok 4 _ (by decide) rfl) J,Ze a,λq k=>∃ c,k=[.v (.l (rows.map ln)),.v (.dM (nL a)),.v (ln v),.v (ln (EQ.rest (a.take q) v)),c,L]/\rT 1 k,⟨y,rfl,zE V (.inr ⟨_,rfl,sS v⟩) (.inr ⟨_,rfl,sS v⟩) (ok 4 _ (by decide) rfl) J⟩,?_,?_⟩
    .rintro q d _ M ⟨c,rfl,F⟩;rw[Eh] at M;obtain⟨h,B,rfl⟩:=qP M;have u:=aK B;refine⟨rfl,?_⟩;refine⟨rfl,ln h.2,by show (some (nK (nL a) (hk h.1)))=_;rw[Hz I.nd B],?_⟩;refine⟨EQ.rest (a.take q) v,h.2,h.1,rfl,by rw[(rl q).1];exact I.lt h u,by rw[(rl q).1,I.len h u],by rw[(rl q).1];omega,(rl q).2,λx C=>bG (S h u x C) E4,.inl rfl,?_⟩;have er:EQ.rest (a.take (q+1)) v=EQ.cl (EQ.rest (a.take q) v) h.2 h.1:=by
      rw[bP,B];unfold EQ.rest;rw[dR];rfl
     dsimp only;rw[er];have i1:xJ (.v (.int (h.1:Nat))):=.inr ⟨_,rfl,rfl⟩;exact⟨_,rfl,sS _,rfl,zE V (.inr ⟨_,rfl,sS v⟩) (.inr ⟨_,rfl,sS _⟩) i1 J,⟨.v (.int (h.1:Nat)),rfl,zE V (.inr ⟨_,rfl,sS v⟩) (.inr ⟨_,rfl,sS _⟩) i1 J⟩⟩
    .rintro _ ⟨c,rfl,F⟩;have e:(nL a).length=a.length:=by unfold nL;rw[List.length_map]
     rw[e,cL] at F |-;exact G _ ⟨c,rfl,zE V (.inr ⟨_,rfl,sS v⟩) (.inr ⟨_,rfl,sS _⟩) (F 4 _ (by decide) rfl) J⟩
   rintro _ ⟨c,rfl,F⟩;have U:=rl a.length;rw[cL] at U;have o4:=F 4 _ (by decide) rfl;refine⟨_,Bp _,rfl,_,rfl,?_⟩;unfold EQ.red1;rw[Ta];cases ha:(EQ.rest a v).any (· != 0) with
   | false=>rw[aI (by decide),aI (by decide)];exact⟨_,_,_,_,rfl,F⟩
   | true =>
    rw[aP rfl,aP rfl];rw[<- Ta] at ha;obtain⟨s0,R⟩:=EQ.any_ix.mp ha;obtain⟨a1,a2⟩:=EQ.lastNZ_ok R;refine nG (λk=>k=[.v (.l (rows.map ln)),.o (.dM (nL a)),.v (ln v),.v (ln (EQ.rest a v)),c,.v (.int (EQ.lastNZ (EQ.rest a v):Nat))]) (λN G=>?_) ?_
    .unfold rQ dC aC;refine uT (List.range (EQ.rest a v).length) (λi=>.t [.int (i:Nat),.int (EQ.ix (EQ.rest a v) i)]) (λi=>.int (i:Nat)) (λi=>decide (EQ.ix (EQ.rest a v) i≠0)) [.v (.l (rows.map ln)),.o (.dM (nL a)),.v (ln v),.v (ln (EQ.rest a v)),c,L] (λΨ h=>?_) (by rw[bZ,U.1];omega) (λi x ys Nx e h1 h2 h3=>?_) ?_
     .show Ψ (wA _) _;rw[BK];exact h
     .refine⟨rfl,rfl,rfl,wU (λh=>?_) λh=>?_⟩
      .exact⟨h1,h2 (by simpa using h)⟩
      .exact h3 (by simpa using h)
     .refine⟨((List.range (EQ.rest a v).length).filter λi=>decide (EQ.ix (EQ.rest a v) i≠0)).map λi=>((i:Nat):Int),?_,?_,λb hb ht=>?_⟩
      .rw[<- Bp,bB];rfl
      .intro z;have aa:s0<(EQ.rest a v).length:=aX λY=>R (EQ.ix_out Y)
       have:((s0:Nat):Int)∈([]:Aa Int):=by rw[<- z];exact bQ (bW.mpr ⟨cB.mpr aa,by simpa using R⟩)
       cases this
      .have:b=((EQ.lastNZ (EQ.rest a v):Nat):Int):=by
        obtain⟨j,hj,rfl⟩:=aN.mp hb;have l1:EQ.lastNZ (EQ.rest a v)<(EQ.rest a v).length:=aX λY=>a1 (EQ.ix_out Y)
        have h1:=ht _ (bQ (f:=λi:Nat=>(i:Int)) (bW.mpr ⟨cB.mpr l1,by simpa using a1⟩));have h2:¬ EQ.lastNZ (EQ.rest a v)<j:=λlt=>by
         have:=(bW.mp hj).2;rw[a2 j lt] at this;simp at this
        have af:((EQ.lastNZ (EQ.rest a v):Nat):Int)<=(j:Int):=h1;omega
       rw[this];exact G _ rfl
    rintro _ rfl;refine nG (λk=>∃ y,k=[.v (.l (rows.map ln)),.o (.dM (nL (a.map λh=>(h.1,EQ.cl h.2 (EQ.rest a v) (EQ.lastNZ (EQ.rest a v)))))),.v (ln v),.v (ln (EQ.rest a v)),y,.v (.int (EQ.lastNZ (EQ.rest a v):Nat))]/\xJ y) (λN G=>?_) ?_
    .refine qI (a.map λh=>D.int (h.1:Nat)) [.v (.l (rows.map ln)),.o (.dM (nL a)),.v (ln v),.v (ln (EQ.rest a v)),c,.v (.int (EQ.lastNZ (EQ.rest a v):Nat))] (λΨ h=>?_)
      (λq k=>∃ y,k=[.v (.l (rows.map ln)),.o (.dM (nL (((a.take q).map λh=>(h.1,EQ.cl h.2 (EQ.rest a v) (EQ.lastNZ (EQ.rest a v))))++a.drop q))),.v (ln v),.v (ln (EQ.rest a v)),y,.v (.int (EQ.lastNZ (EQ.rest a v):Nat))]/\xJ y) ⟨_,rfl,o4⟩ ?_ ?_
     .refine⟨rfl,by unfold nL;rw[List.length_map];omega,Yw a,?_⟩;rw[Eh];exact h
     .rintro q d _ M ⟨y,rfl,O⟩;obtain⟨h,B,rfl⟩:=qP M;have u:=aK B;have ql:q<a.length:=(aG.mp B).1;have ek:((((a.take q).map λh=>(h.1,EQ.cl h.2 (EQ.rest a v) (EQ.lastNZ (EQ.rest a v))))++a.drop q).map (·.1))=a.map (·.1):=by
       rw[bF,bB,show ((λx:Nat×Aa Int=>x.1)∘λh:Nat×Aa Int=>(h.1,EQ.cl h.2 (EQ.rest a v) (EQ.lastNZ (EQ.rest a v))))=(λx=>x.1) from rfl,<- bF,iB]
      have eh:(((a.take q).map λh=>(h.1,EQ.cl h.2 (EQ.rest a v) (EQ.lastNZ (EQ.rest a v))))++a.drop q)[q]?=some h:=by
       rw[cT (by simp;omega),kQ];simp only[aA,bO,jK (dX ql),Nat.sub_self,Nat.add_zero];exact B
      refine⟨rfl,ln h.2,by show (some (nK (nL _) (hk h.1)))=_;rw[Hz (by rw[ek];exact I.nd) eh],?_⟩;refine⟨h.2,EQ.rest a v,EQ.lastNZ (EQ.rest a v),rfl,?_,by rw[U.1,I.len h u],by rw[I.len h u];omega,λx C=>bG (S h u x C) E4,U.2,.inl rfl,rfl,?_⟩
      .rw[I.len h u,<- U.1];exact aX λY=>a1 (EQ.ix_out Y)
      refine⟨.dM (nL (((a.take (q+1)).map λh=>(h.1,EQ.cl h.2 (EQ.rest a v) (EQ.lastNZ (EQ.rest a v))))++a.drop (q+1))),?_,⟨_,rfl,.inr ⟨_,rfl,rfl⟩⟩⟩;show (if (nL _).length<100000 then some (D.dM (oA (nL _) (hk h.1) _)) else none)=_;rw[aP (by
       have:=cK List.length ek;rw[aA,aA] at this;unfold nL;rw[List.length_map,this];omega),IM (by rw[ek];exact I.nd) eh]
      congr 3
      apply gO;intro j;rw[fQ];by_cases z:q=j
      .subst z;rw[aP rfl,aP (aG.mp eh).1,eS (by simp;omega),aU,mE,aP (by omega),B];rfl
      .rw[aI z];by_cases lt:j<q
       .rw[eS (by simp;omega),eS (by simp;omega),aU,aU,mE,mE,aP lt,aP (by omega)]
       .rw[cT (by simp;omega),cT (by simp;omega),kQ,kQ];simp only[aA,bO,jK (dX ql),jK (show q+1<=a.length from ql)]
        congr 1;omega
     .rintro _ ⟨y,rfl,O⟩;rw[aA,cL,mP,dN];exact G _ ⟨_,rfl,O⟩
    rintro _ ⟨y,rfl,O⟩;have nk:EQ.lastNZ (EQ.rest a v)∉(a.map λh=>(h.1,EQ.cl h.2 (EQ.rest a v) (EQ.lastNZ (EQ.rest a v)))).map (·.1):=λz=>by
     rw[bB] at z;obtain⟨g,hg,e⟩:=aN.mp z;have e':g.1=EQ.lastNZ (EQ.rest a v):=e;exact a1 (by rw[<- e'];exact (I.rest vm).2.1 g hg)
    refine⟨rfl,.dM (nL ((a.map λh=>(h.1,EQ.cl h.2 (EQ.rest a v) (EQ.lastNZ (EQ.rest a v))))++[(EQ.lastNZ (EQ.rest a v),EQ.rest a v)])),?_,⟨_,_,_,_,rfl,zE V (.inr ⟨_,rfl,sS v⟩) (.inr ⟨_,rfl,sS _⟩) O (.inr ⟨_,rfl,rfl⟩)⟩⟩;show (if (nL _).length<100000 then some (D.dM (oA (nL _) (hk _) _)) else none)=_;rw[aP (by unfold nL;rw[List.length_map,List.length_map];omega),IZ nk]
  .rintro _ ⟨W,X,y,L,rfl,_⟩;rw[aA,cL];exact G _ ⟨_,_,_,_,rfl⟩
 rintro _ ⟨W,X,y,L,rfl⟩;exact ab
end
abbrev tx (x:Af):MK:=Sum.inl (Sum.inr x)
abbrev tp (a b:Af):MK:=Sum.inr [Sum.inr a,Sum.inr b]
def pL:Aa Af->Aa MK
 | []=>[]
 | x::r=>r.map (tp x)++pL r
def pM (C:Cel):Aa Af:=C.ins++C.outs.filter λo=>!decide (o∈C.ins)
def oW (C:Cel) (g:Bool):Aa MK:=(((("" : Af)::pM C)).map tx)++(if g=true then pL C.ins else [])
def tv (u:Af->Int):MK->Int
 | .inl (.inr x)=>u x
 | .inr [.inr a,.inr b]=>u a*u b
 | _=>0
def Vh:MK->Aa Af
 | .inl (.inr x)=>[x]
 | .inr [.inr a,.inr b]=>[a,b]
 | _=>[]
def yM (t:MK):Prop:=(∃ x,t=tx x)\/∃ a b,t=tp a b
def Dx:RD:=λe c d=>∃ (C:Cel) (a:Bool),c=[nH C,.b a]/\C.ins.length<=6/\C.outs.length<=6/\d (.o (.l ((oW C a).map gD)))
def T6:RD:=λd b c=>∃ (t:MK) (a:Aa (hG×D)) (u:Af->Int),b=[gD t,.k a]/\yM t/\(∀ x∈Vh t,nK a (Sum.inr x)=some (.int (u x))/\Bit (u x))/\c (.v (.int (tv u t)))
theorem J1:∀ g:Aa Af,g.length<=6->(pL g).length<=15
 | [],_=>by decide
 | [_],_=>by show 0<=15;decide
 | [_,_],_=>by show 1<=15;decide
 | [_,_,_],_=>by show 3<=15;decide
 | [_,_,_,_],_=>by show 6<=15;decide
 | [_,_,_,_,_],_=>by show 10<=15;decide
 | [_,_,_,_,_,_],_=>by show 15<=15;decide
 | _::_::_::_::_::_::_::_,h=>by simp only[bS] at h;omega
theorem Ks:∀ (g:Aa Af) (i:Nat),pL (g.drop i)=(match g[i]? with | some x=>(g.drop (i+1)).map (tp x) | none=>[])++pL (g.drop (i+1))
 | [],i=>by simp[pL]
 | x::g,0=>rfl
 | x::g,i+1=>by simpa using Ks g i
theorem Fx:∀ {g:Aa Af}{t:MK},t∈pL g->∃ a b,t=tp a b/\a∈g/\b∈g
 | x::r,t,h=>by
  rcases aQ.mp h with h | h
  .obtain⟨b,f,rfl⟩:=aN.mp h;exact⟨x,b,rfl,aE,aJ _ f⟩
  .obtain⟨a,b,e,c,d⟩:=Fx h;exact⟨a,b,e,aJ _ c,aJ _ d⟩
theorem Hc {C:Cel}{pr:Bool}(g:C.ins.length<=6) (j:C.outs.length<=6):(oW C pr).length<=28:=by
 unfold oW pM;have:=J1 _ g;have a:=dJ (λo=>!decide (o∈C.ins)) C.outs;rw[aZ,aA,bS,aZ];split
 .omega
 .show _+0<=28;omega
theorem xK {C:Cel}{g:Bool}{t:MK}(h:t∈oW C g):yM t/\∀ x∈Vh t,x = "" \/ x∈C.ins++C.outs:=by
 rcases aQ.mp h with h | h
 .obtain⟨x,c,rfl⟩:=aN.mp h;refine⟨.inl ⟨x,rfl⟩,λy d=>?_⟩;rw[aM.mp (show y∈[x] from d)];rcases aH.mp c with c | c
  .exact .inl c
  .refine .inr ?_;rcases aQ.mp c with c | c
   .exact bK _ c
   .exact bL _ (bW.mp c).1
 .cases g with
  | false=>cases h
  | true =>
   obtain⟨a,b,rfl,e,f⟩:=Fx (show t∈pL C.ins from h);refine⟨.inr ⟨a,b,rfl⟩,λy d=>.inr (bK _ ?_)⟩;rcases aH.mp (show y∈[a,b] from d) with rfl | d
   .exact e
   .rw[aM.mp d];exact f
theorem BS:(["name","inputs"]:Aa Af).Nodup:=by decide +kernel
theorem Yu:(["second","first"]:Aa Af).Nodup:=by decide +kernel
section
variable {P:Ah}{K:mZ}
theorem Di:FnScope ["cell","pairs","inputs","things","at","first"] ["cell","pairs"] (nS Dz):=pO
theorem ES (T:Txt U):pQ P w K U base 1 "things_of" Dz ["cell","pairs"] Dx:=by
 refine pZ Di λf Z A R s H E dk ds Φ hr O r=>?_
 obtain⟨C,k,rfl,M,ho,Q⟩:=r;refine⟨_,(hO (nX 2 Di.nd (uG Et Ir T.list fS (dK (nT O 0 hV) hH))) (hO (nX 3 Di.nd (qF tU tV (qF tU tV (rM (dK rR hH)) (cN 2)) (qB ["name"] ["inputs"] [2] (oP (nT O 0 hV)) (λ_ _ _ _ _=>(nM 0 BS)) (λ_ _ _ _ _=>(cN 0)) (ht:=λ_ _ _ _ _=>(vS (Jv (Ku O) (Jy true) (cN 0) (pv 1))))))) (hO (pE (O7 (pv 1)) (nJ (qL (P2 (by rfl) T.enumerate (cN 2)) (yE (n:=2) rfl (rD (nM 4 Di.nd) (rD (nM 5 Di.nd) xO))) (nJ (zD (Bk cC PySem.F.slot_list_extend PySem.F.type_list_extend MJ Y8 (pv 3) (dK (qB ["second"] ["first"] [5] (oP (Za T5 To (pv 2) (Tl (sP tU tV 4 hV)) Qj)) (λ_ _ _ _ _=>(nM 0 Yu)) (λ_ _ _ _ _=>(wN (dK (cN 1) (dK (cN 0) hH))))) hH)))))) pG) (nJ (oC (wI 3 (pv 3))))))),?_⟩;refine nG (λa=>a=[.v (nH C),.v (.b k),.o (.l (C.ins.map D.str)),.n,.n,.n]) (λN c=>?_) ?_
 .exact⟨rfl,_,rfl,_,rfl,c _ rfl⟩
 rintro _ rfl;refine nG (λa=>a=[.v (nH C),.v (.b k),.v (.l (C.ins.map D.str)),.o (.l (((("" : Af)::pM C).map tx).map gD)),.n,.n]) (λN c=>?_) ?_
 .unfold rQ d2;refine⟨by show 1<=1000;decide,by show 1+(C.ins.map D.str).length<=100000;rw[aA];omega,?_⟩;refine uT C.outs D.str D.str (λo=>!decide (o∈C.ins)) [.v (nH C),.v (.b k),.v (.l (C.ins.map D.str)),.n,.n,.n] (λS h=>⟨rfl,_,rfl,h⟩) (by omega) (λi x ys Y e B G W=>?_) ?_
  .refine⟨.str x,C.ins.map V.str,rfl,S0 _,?_⟩;rw[Hu];show if (!decide (x∈C.ins))=true then _ else _
   by_cases q:x∈C.ins
   .exact Kv (by rw[cX q];rfl) (W (by rw[cX q];rfl))
   .exact Ip (by rw[cG q];rfl) ⟨B,G (by rw[cG q];rfl)⟩
  .have W:=dJ (λo=>!decide (o∈C.ins)) C.outs;refine⟨by show (([D.str (Str.ofString "")]++C.ins.map D.str)).length+((C.outs.filter λo=>!decide (o∈C.ins)).map D.str).length<=100000;rw[aZ,aA,aA];show 1+_+_<=_;omega,c _ ?_⟩;have:([D.str ("" : Af)]++C.ins.map D.str)++(C.outs.filter λo=>!decide (o∈C.ins)).map D.str=((("" : Af)::pM C).map tx).map gD:=by
    rw[bB];unfold pM;rw[aO,bF];rfl
   rw[<- this];rfl
 rintro _ rfl;refine nG (λa=>∃ m t,a=[.v (nH C),.v (.b k),.v (.l (C.ins.map D.str)),.o (.l ((oW C k).map gD)),m,t]) (λN c=>?_) ?_
 .cases k with
  | false =>
   refine⟨rfl,_,rfl,c _ ⟨.n,.n,?_⟩⟩;unfold oW;rw[aI (by decide),dN]
  | true =>
   refine⟨rfl,_,rfl,?_⟩;dsimp only;rw[aP rfl];have I:=dJ (λo=>!decide (o∈C.ins)) C.outs;refine qI (wA (C.ins.map D.str)) [.v (nH C),.v (.b true),.v (.l (C.ins.map D.str)),.o (.l (((("" : Af)::pM C).map tx).map gD)),.n,.n] (λS h=>h)
    (λi a=>∃ L m t,L++pL (C.ins.drop i)=pL C.ins/\a=[.v (nH C),.v (.b true),.v (.l (C.ins.map D.str)),.o (.l (((((("" : Af)::pM C)).map tx)++L).map gD)),m,t]) ⟨[],_,_,rfl,by rw[dN]⟩ ?_ ?_
   .rintro i d _ hd ⟨L,m,t,u,rfl⟩;have X:i<C.ins.length:=by
     have:=(aG.mp hd).1
     rwa [B7,aA] at this
    rw[Jh (d:=.str C.ins[i]) (by rw[aU,aF X];rfl)] at hd;cases hd;have y:=Ks C.ins i;rw[aF X] at y;dsimp only at y;have J:L.length+(pL (C.ins.drop i)).length=(pL C.ins).length:=by rw[<- aZ,u]
    have p:=J1 _ M;refine⟨rfl,rfl,?_⟩;unfold T9 dW aC;refine⟨rfl,?_⟩;refine rA (C.ins.drop (i+1)) D.str (λz=>gD (tp C.ins[i] z)) [.v (nH C),.v (.b true),.v (.l (C.ins.map D.str)),.o (.l (((((("" : Af)::pM C)).map tx)++L).map gD)),.v (.int (i:Nat)),.v (.str C.ins[i])] (λS h=>?_) (by rw[cW];omega) (λj x ys Y e B G=>?_) ?_
    .refine⟨rfl,rfl,?_⟩;show S (wF (C.ins.map D.str) (some ((i:Int)+1)) none) _;have:=Uk D.str C.ins (i+1);rw[show (((i+1:Nat):Int))=(i:Int)+1 from rfl] at this;rw[this];exact h
    .exact⟨by show 2<=1000;decide,B,G⟩
    .have pl:=cK List.length y;rw[aZ,aA] at pl;have sl:(pM C).length<=12:=by unfold pM;rw[List.length_append];omega
     refine⟨?_,⟨L++(C.ins.drop (i+1)).map (tp C.ins[i]),.v (.int (i:Nat)),.v (.str C.ins[i]),?_,?_⟩⟩
     .show (List.map gD (List.map tx (("" : Af)::pM C)++L)).length+(List.map (λz=>gD (tp C.ins[i] z)) (List.drop (i+1) C.ins)).length<=100000;rw[aA,aZ,aA,bS,aA];omega
     .rw[bI,<- y];exact u
     .have:List.map gD (List.map tx (("" : Af)::pM C)++L)++List.map (λz=>gD (tp C.ins[i] z)) (List.drop (i+1) C.ins)=List.map gD (List.map tx (("" : Af)::pM C)++(L++(C.ins.drop (i+1)).map (tp C.ins[i]))):=by
       rw[<- bI,bF (f:=gD) (l₂:=(C.ins.drop (i+1)).map (tp C.ins[i])),bB (g:=gD)];rfl
      rw[<- this];rfl
   .rintro _ ⟨L,m,t,u,rfl⟩;rw[B7,aA,mP] at u;have e:L=pL C.ins:=by simpa [pL] using u
    subst e;exact c _ ⟨_,_,rfl⟩
 rintro _ ⟨m,t,rfl⟩;exact Q
theorem Zt:FnScope ["thing","known"] ["thing","known"] (nS E5):=pO
theorem AN (T:Txt g):pQ P w K g base 1 "thing_value" E5 ["thing","known"] T6:=by
 refine pZ Zt λf m A i s H E y z D B c n=>?_
 obtain⟨t,h,u,rfl,v,hk,d⟩:=n;refine⟨_,(hO (pE (xW (pC (Cd K) (Dc (K:=K)) T.isinstance eD (dK (cN 0) (dK (Bi (by rfl) T.tuple eN) hH)))) (nJ (oC (qF Iq Jo (nT c 1 (nT c 0 hV)) (nT c 1 (nT c 0 hV))))) pG) (nJ (oC (nT c 1 (cN 0))))),?_⟩;rcases v with⟨x,rfl⟩ | ⟨a,b,rfl⟩
 .refine⟨"str",false,rfl,rfl,rfl,_,rfl,?_⟩;refine⟨rfl,.int (u x),?_,d⟩;show some (nK h (Sum.inr x))=_;rw[(hk x aE).1]
 .refine⟨"tuple",true,rfl,rfl,rfl,_,rfl,?_⟩;have k:=hk a aE;have q:=hk b (aJ _ aE);refine⟨rfl,rfl,.str a,rfl,.int (u a),?_,rfl,rfl,.str b,rfl,.int (u b),?_,?_,d⟩
  .show some (nK h (Sum.inr a))=_;rw[k.1]
  .show some (nK h (Sum.inr b))=_;rw[q.1]
  .left;rcases k.2 with e | e<;>rw[e]<;>decide
end
structure GCq (C:Cel):Prop where
 gc:GC C
 li:C.ins.length<=6
 lo:C.outs.length<=6
 ne:("" : Str)∉C.names
def uB (C:Cel) (b:Aa Int) (x:Af):Int:=if x = "" then 1 else rK C (look (C.ins.zip b)) x
def uW (C:Cel) (g:Bool):Aa (Aa Int):=(pH C.ins.length).map λb=>(oW C g).map (tv (uB C b))
theorem V7 {g:Aa Af}{b:Aa Int}(j:g.length=b.length){x:Af}(l:x∈g):nK (oJ (g.zip b)) (Sum.inr x)=some (.int (look (g.zip b) x)):=by
 induction g generalizing b with
 | nil=>cases l
 | cons k g a =>
  cases b with
  | nil=>cases j
  | cons v b =>
   rw[cU,As];show nK ((Sum.inr k,D.int v)::oJ (g.zip b)) _=_;rw[sB];by_cases e:k=x
   .rw[aP e,aP (by rw[e])]
   .rw[aI e,aI λz=>e (gC z)];exact a (lW j) ((aH.mp l).resolve_left λz=>e z.symm)
def N6:RD:=λd b c=>∃ (C:Cel) (a:Bool),b=[nH C,.l ((oW C a).map gD)]/\GCq C/\c (.o (.l ((uW C a).map ln)))
theorem Uy {g:Aa Af}{b:Aa Int}(j:∀ x∈b,x=0\/x=1) (l:g.length=b.length){x:Af}(o:x∈g):Bit (look (g.zip b) x):=by
 induction g generalizing b with
 | nil=>cases o
 | cons k g c =>
  cases b with
  | nil=>cases l
  | cons v b =>
   rw[cU,As];by_cases e:k=x
   .rw[aP e];exact j v aE
   .rw[aI e];exact c (λy a=>j y (aJ _ a)) (lW l) ((aH.mp o).resolve_left λz=>e z.symm)
theorem Lm {C:Cel}(l:GCq C){b:Aa Int}(g:b∈pH C.ins.length){x:Af}(j:x = "" \/ x∈C.names):Bit (uB C b x):=by
 obtain⟨a,c⟩:=B3 g;unfold uB;by_cases e:x = ""
 .rw[aP e];exact .inr rfl
 .rw[aI e];exact Uq C.gates C.ins _ (λy d=>Uy c a.symm d) x (j.resolve_left e)
theorem JW:(["thing","known"]:Aa Af).Nodup:=by decide +kernel
section
variable {P:Ah}{K:mZ}
theorem G7:FnScope ["cell","things","table","bits","known"] ["cell","things"] (nS En):=pO
theorem FU (T:Txt I) (r:Kn P w K I base 1 "all_bits" Ep ["count"] O5) (p:Kn P w K I base 3 "side_bits" Hk ["cell","bits"] Sz) (g:Kn P w K I base 1 "thing_value" E5 ["thing","known"] T6) :
  pQ P w K I base 4 "value_table" En ["cell","things"] N6:=by
 refine pZ G7 λf J A V s H E dk ds Φ Q R hR=>?_
 obtain⟨C,a,rfl,q,S⟩:=hR;refine⟨_,(hO (nX 2 G7.nd (rM hH)) (hO (qL (oP (oV r Q (dK (pC vM vW T.len cF (dK (nT R 0 hV) hH)) hH))) (nM 3 G7.nd) (hO (nX 4 G7.nd (oV p Q (dK (cN 0) (dK (Oo rfl (by rfl) T.dict (by rfl) T.zip (dK (nT R 0 hV) (dK (cN 3) hH))) hH)))) (hO (uP (n:=4) R hV (pv 4) rR) (nJ (zD (Bk cC cZ dB wK Ef (pv 2) (dK (qB ["thing"] ["known"] [4] (oP (cN 1)) (λ_ _ _ _ _=>(nM 0 JW)) (λ_ _ _ _ _=>(oV g Q (dK (cN 0) (Bf (pv 1) hH))))) hH))))))) (nJ (oC (wI 2 (pv 2)))))),?_⟩;have X:=q.li;have tl:=Hc (pr:=a) q.li q.lo;refine nG (λm=>m=[.v (nH C),.v (.l ((oW C a).map gD)),.o (.l []),.n,.n]) (λN u=>⟨by show 0<=1000;decide,u _ rfl⟩) ?_;rintro _ rfl;refine nG (λm=>∃ B F,m=[.v (nH C),.v (.l ((oW C a).map gD)),.o (.l ((uW C a).map ln)),B,F]) (λN u=>?_) ?_
 .refine qI ((pH C.ins.length).map tQ) [.v (nH C),.v (.l ((oW C a).map gD)),.o (.l []),.n,.n] (λΨ h=>?_)
   (λi m=>∃ B F,m=[.v (nH C),.v (.l ((oW C a).map gD)),.o (.l ((((pH C.ins.length).take i).map λb=>(oW C a).map (tv (uB C b))).map ln)),B,F]) ⟨_,_,rfl⟩ ?_ ?_
  .refine⟨rfl,_,rfl,rfl,C.ins.length,by show some (C.ins.map D.str).length=_;rw[aA],C.ins.length,rfl,X,.inl rfl,h⟩
  .rintro i d _ hd ⟨B,F,rfl⟩;obtain⟨b,W,rfl⟩:=qP hd;have Y:=aK W;obtain⟨bl,Z⟩:=B3 Y;have hT:qU (oJ (C.ins.zip b)) C.ins (look (C.ins.zip b)):=λx y=>by
    have:=Uy Z bl.symm y;exact⟨V7 (by rw[bl]) y,this⟩
   refine nG (λm=>∃ c,(∀ x∈C.ins++C.outs,nK c (Sum.inr x)=some (.int (rK C (look (C.ins.zip b)) x)))/\c.length<=200/\m=[.v (nH C),.v (.l ((oW C a).map gD)),.o (.l ((((pH C.ins.length).take i).map λb=>(oW C a).map (tv (uB C b))).map ln)),.v (tQ b),.o (.k c)]) (λN u=>?_) ?_
   .refine⟨rfl,_,rfl,true,true,_,_,C.ins.map Sum.inr,rfl,rfl,Ic C.ins,by rw[aA];omega,?_⟩;have ez:sC [] ((C.ins.map (Sum.inr:Af->hG)).zip (b.map D.int))=oJ (C.ins.zip b):=by
     have U:(C.ins.map (Sum.inr:Af->hG)).zip (b.map D.int)=oJ (C.ins.zip b):=by rw[List.zip_map];rfl
     rw[U];exact J5 (by rw[List.map_fst_zip (by omega)];exact (bM.mp q.gc.nd).1)
    rw[ez];exact⟨C,_,look (C.ins.zip b),rfl,q.gc,hT,by rw[Mq,fE];omega,λc L M=>⟨.inl rfl,u _ ⟨c,L,M,rfl⟩⟩⟩
   rintro _ ⟨c,O,aa,rfl⟩;refine nG (λm=>∃ c:Aa (hG×D),(∀ x:Af,x = "" \/ x∈C.ins++C.outs->nK c (Sum.inr x)=some (.int (uB C b x))/\Bit (uB C b x))/\m=[.v (nH C),.v (.l ((oW C a).map gD)),.o (.l ((((pH C.ins.length).take i).map λb=>(oW C a).map (tv (uB C b))).map ln)),.v (tQ b),.o (.k c)]) (λN u=>?_) ?_
   .refine⟨rfl,_,Bg (by omega),u _ ⟨_,λx y=>⟨?_,Lm q Y ?_⟩,rfl⟩⟩
    .rw[zP];unfold uB;by_cases e:x = ""
     .rw[aP (by rw[e]),aP e]
     .rw[aI (λz=>e (gC z).symm),aI e];exact O x (y.resolve_left e)
    .rcases y with h | h
     .exact .inl h
     .refine .inr ?_;rcases aQ.mp h with h | h
      .exact bK _ h
      .exact q.gc.os x h
   rintro _ ⟨G,hk,rfl⟩;refine⟨rfl,?_⟩;refine rA (oW C a) gD (λt=>.int (tv (uB C b) t)) _ (λΨ h=>h) (by omega) (λj t ys Nx e L M=>?_) ?_
   .obtain⟨i1,i2⟩:=xK (aK e);exact⟨rfl,t,G,uB C b,rfl,i1,λx y=>hk x (i2 x y),.inr rfl,L,M⟩
   .have tk:((((pH C.ins.length).take (i+1)).map λb=>(oW C a).map (tv (uB C b))).map ln)=((((pH C.ins.length).take i).map λb=>(oW C a).map (tv (uB C b))).map ln)++[.l ((oW C a).map λt=>.int (tv (uB C b) t))]:=by
     rw[bP,W,bF,bF];show _++[D.l (((oW C a).map (tv (uB C b))).map D.int)]=_;rw[bB (l:=oW C a)];rfl
    refine⟨?_,.v (tQ b),.o (.k G),?_⟩
    .show (List.map ln _).length<100000;rw[aA,aA,bO];have:=Dp C.ins.length;have:=Cy X;omega
    .rw[tk];rfl
  .rintro _ ⟨B,F,rfl⟩;rw[aA,cL];exact u _ ⟨_,_,rfl⟩
 rintro _ ⟨B,F,rfl⟩;exact S
end
end Lw
namespace PySem
open PyProof.Rows L2
def Bx (h:Ag) (z TI TO:Ad):Prop:=∃ x f,vR h z TI TO x f/\(x = .none\/∃ T:Ad,x=rawInt T)
section
theorem N1 {z TI TO:Ad}(g:Bx s.heap z TI TO):(∃ T f o,wJ s.heap z TI TO T f/\s.heap.get? T=some o) \/
  ∃ x f,vR s.heap z TI TO x f/\∀ (A:Around) (E:Ac->Ae->Prop),wpAny (model prog w) A (Builtin.SmallTypes.ownedTupleIsFree (.ref z)) (λx j=>x=true/\j=s) E s:=by
 obtain⟨x,f,g,rfl | ⟨T,rfl⟩⟩:=g
 .exact .inr ⟨_,f,g,λA E=>aB (eK g rfl (x:=.none) rfl (aD ⟨rfl,rfl⟩))⟩
 .cases e:s.heap.get? T with
  | some o=>exact .inl ⟨T,f,o,g,e⟩
  | none =>
   refine .inr ⟨_,f,g,λA E=>?_⟩;unfold Builtin.SmallTypes.ownedTupleIsFree;refine aB (eK g rfl (x:=rawInt T) rfl ?_);show wpAny _ _ (loadIfAlive ((T:Int).toNat) >>= _) _ _ _;rw[cI];have load:∀ {Q:Ab Obj->Ae->Prop},Q none s->wpAny (model prog w) A (loadIfAlive T) Q E s:=λ{Q} q _ _ _=>by
    show Q (s.heap.get? T) s;rw[e];exact q
   refine aB (load ?_);simp only[Option.isNone_none,gW];exact aD ⟨rfl,rfl⟩
theorem IA {b1 b2:Bool}{z TI TO I J l1 l2:Ad}{k:Nat}{xs ys:Array Ac}{x y a b:Ac}{Q:Ab Ac->Ae->Prop}(D:ZipApart z TI TO I J l1 l2)
  (j:Bx s.heap z TI TO) (l:IsPair s.heap TI (.ref I) (.ref J)) (p:IsPair s.heap TO a b) (h1:oE b1 s.heap I l1 k) (h2:oE b2 s.heap J l2 k) (r:oI b1 s.heap l1 xs) (C:oI b2 s.heap l2 ys) (hx:xs[k]?=some x) (hy:ys[k]?=some y)
  (hQ:∀ g,Bx g z TI TO->(∃ u v,IsPair g TO u v)->oE b1 g I l1 (k+1)->oE b2 g J l2 (k+1)->IsPair g s.heap.objs.size x y->g.objs.size=s.heap.objs.size+1 ->(∀ c o,c≠z->c≠TO->c≠I->c≠J->s.heap.get? c=some o->g.get? c=some o)->Q (some (.ref s.heap.objs.size)) { s with heap:=g }) :
  wpAny (model U w) A (pyNext (.ref z)) Q E s:=by
 rcases N1 (prog:=U) (w:=w) j with⟨T,f,o,j,K⟩ | ⟨L,f,j,free⟩
 .have d:s.TypeIs (.ref z) "zip" := ⟨_,j,rfl⟩;unfold pyNext;refine aB (fA (bX (name:=Str.ofString "__next__") d dO (cJ dO d iX (Mj D j K l h1 h2 r C hx hy λg i m n q t h=>aD ?_) (iJ _))));exact hQ g ⟨_,_,i,.inr ⟨T,rfl⟩⟩ ⟨_,_,h _ _ D.TOz D.TOi1 D.TOi2 p⟩ m n q t λc o F _ G H e=>h c o F G H e
 .refine Iy D j free l p h1 h2 r C hx hy λg i B m n q t h=>?_
  exact hQ g ⟨_,_,i,.inr ⟨_,rfl⟩⟩ ⟨_,_,B⟩ m n q t h
theorem Wf {b1 b2:Bool}{z TI TO I J l1 l2:Ad}{k:Nat}{xs ys:Array Ac}{a b:Ac}{Q:Ab Ac->Ae->Prop}(hh:A.handled=none) (D:ZipApart z TI TO I J l1 l2)
  (j:Bx s.heap z TI TO) (l:IsPair s.heap TI (.ref I) (.ref J)) (aa:IsPair s.heap TO a b) (h1:oE b1 s.heap I l1 k) (h2:oE b2 s.heap J l2 k) (p:oI b1 s.heap l1 xs) (r:oI b2 s.heap l2 ys) (g:xs[k]?=none\/ys[k]?=none)
  (hQ:∀ U,(∀ c o,c≠z->c≠TO->c≠I->c≠J->s.heap.get? c=some o->U.get? c=some o)->Q none { s with heap:=U }):wpAny (model C w) A (pyNext (.ref z)) Q E s:=by
 rcases N1 (prog:=C) (w:=w) j with⟨T,f,o,j,n⟩ | ⟨v,f,j,free⟩
 .have d:s.TypeIs (.ref z) "zip" := ⟨_,j,rfl⟩;unfold pyNext;refine aB (fA (bX (name:=Str.ofString "__next__") d dO (cJ dO d iX (Ux hh D j n l h1 h2 p r g λU e hk t=>?_) (iJ _))));obtain⟨o,u,q⟩:=t;refine aB (eF (T := "StopIteration") (b:=true) ⟨o,u,q⟩ mD ?_);exact aD (hQ _ λc o h _ i m e=>hk c o h i m e)
 .exact Ky hh D j free l aa h1 h2 p r g hQ
end
end PySem
namespace L2
open PySem PySem.Spec PyProof.Rows
def HL (l o:Bool) (a b z TI TO g j:Ad) (i:Nat) (h:Ag):Prop:=Bx h z TI TO/\IsPair h TI (.ref g) (.ref j)/\(∃ u v,IsPair h TO u v)/\oE l h g a i/\oE o h j b i
theorem Yq {b1 b2:Bool}{P:Ah}{w:World}{K:mZ}{x0:Af}{pos:Pos}{a b z TI TO i1 i2:Ad}(D:ZipApart z TI TO i1 i2 a b) :
  Turn P w K (.Name x0 pos) (G1 b1 b2 K a b) [z,TI,TO,i1,i2] z (HL b1 b2 a b z TI TO i1 i2) where
 mem:=by simp
 obj:=λi h st c G=>by
  obtain⟨⟨_,_,m,_⟩,A,⟨u,v,B⟩,n,t⟩:=st;obtain⟨o4,n,d4⟩:=Fl n;obtain⟨o5,t,d5⟩:=Fl t;simp only[aH,bA,dP] at G;rcases G with e | e | e | e | e<;>subst e
  .exact⟨_,m,λv z=>nomatch z⟩
  .exact⟨_,A,λv z=>nomatch z⟩
  .exact⟨_,B,λv z=>nomatch z⟩
  .exact⟨_,n,d4⟩
  .exact⟨_,t,d5⟩
 keep:=λi h N st k=>by
  obtain⟨⟨x,f,m,sx⟩,A,⟨u,v,B⟩,n,t⟩:=st;exact⟨⟨x,f,k z (by simp) _ m,sx⟩,k TI (by simp) _ A,⟨u,v,k TO (by simp) _ B⟩,pX n λo e=>k i1 (by simp) o e,pX t λo e=>k i2 (by simp) o e⟩
 item:=by
  intro X g hw Z G i M s σ H E I O st l;subst g hw Z;obtain⟨m,A,⟨u,v,B⟩,n,t⟩:=st;obtain⟨xs,ys,x,y,Q,R,hx,hy⟩:=l;obtain⟨C,rx,T⟩:=I.seqB Q;obtain⟨J,ry,py⟩:=I.seqB R;obtain⟨ux,p,aa⟩:=rx.get hx;obtain⟨uy,r,ab⟩:=ry.get hy;refine IA D m A B n t T py (x:=ux) (y:=uy) (by simpa using p) (by simpa using r) λN n1 n2 n3 n4 n5 n6 n7=>⟨_,rfl,?_⟩
  have kp:∀ c o,c∉[z,TI,TO,i1,i2]->s.heap.get? c=some o->N.get? c=some o:=λc o d e=>by
   simp only[aH,bA,dP,mK] at d;obtain⟨S,e2,V,W,Y⟩:=d;exact n7 c o S V W Y e
  have nt:vX N s.heap.objs.size [ux,uy].toArray:=⟨⟨_,n5,rfl,_,rfl⟩,_,n5,rfl⟩;have I2:=I.movedT (t':=s.toks) (ys:=[x,y]) O kp nt (.cons aa (.cons ab .nil)) (by show 2<=sizeLine;decide);show wpAny _ _ (pure ()) _ _ _;refine aD ⟨.ref s.heap.objs.size,_,I2,rfl,⟨_,x,y,I.fresh,rfl,rfl,λaf U=>by rw[I.seqB_inj U Q];exact hx,λag U=>by rw[I.seqB_inj U R];exact hy⟩,⟨n1,n7 TI _ D.TIz D.TITO D.TIi1 D.TIi2 A,n2,n3,n4⟩,λc d=>?_⟩;rw[gV]
  .exact (O c d).1
  .intro e;obtain⟨o,ho⟩:∃ o,s.heap.get? c=some o:=by
    obtain⟨o4,ac⟩:=yB n;obtain⟨o5,ae⟩:=yB t;obtain⟨_,_,m,_⟩:=m;simp only[aH,bA,dP] at d;rcases d with q | q | q | q | q<;>rw[q]
    .exact⟨_,m⟩
    .exact⟨_,A⟩
    .exact⟨_,B⟩
    .exact⟨_,ac⟩
    .exact⟨_,ae⟩
   have:=aT ho;rw[e] at this;exact eQ _ this
 done:=by
  intro X g hw Z G i M s σ H E I O st l;subst g hw Z;obtain⟨m,A,⟨u,v,B⟩,n,t⟩:=st;obtain⟨xs,ys,Q,R,L⟩:=l;obtain⟨C,rx,T⟩:=I.seqB Q;obtain⟨J,ry,py⟩:=I.seqB R;have lx:=rx.length;have ly:=ry.length;refine Wf (I.ok.hd G) D m A B n t T py ?_ λN k=>⟨rfl,I.moved (t':=s.toks) O λc o d e=>?_⟩
  .rcases L with q | q
   .exact .inl (by simp;omega)
   .exact .inr (by simp;omega)
  .simp only[aH,bA,dP,mK] at d;obtain⟨S,e2,V,W,Y⟩:=d;exact k c o S V W Y e
 self:=λ_ _ _ _ _ st h=>by
  obtain⟨⟨_,_,hz,_⟩,_⟩:=st;have j:Shared.TypeIs _ (.ref z) "zip" := ⟨_,hz,rfl⟩;refine wpAny_pyIter_slot j F.slot_zip_iter (cJ F.slot_zip_iter j F.entry_zip_iter ?_ (F.args_zip_iter_1 _));show wpAny _ _ (ret (.ref z)) _ _ _;exact aD ⟨_,rfl,"zip",_,j,dO.lookup,h⟩
section
variable {X:Cx}
theorem AI {x0:Af}{U:Pos}{j g:Expr}{o:TA}{p pos:Pos}(C:Gl X "zip") (J:X.mg "zip" = none) (r:PA X [j,g] o) (T:starEach [j,g] X.env=(false,eval j X.env)::starEach [g] X.env:=by rfl)
  (l:(backTo pos (starEach [g] X.env)).any (·.1)=false:=by rfl):PI X (.Name x0 U) (.Call (.Name "zip" p) [j,g] [] pos) (Tp X.K o):=by
 intro f s A H R I h;refine Call_ (wD I C J boot_zip (dF (nD (r pos f s A H _ I h) λus d n=>?_) T l));obtain⟨vs,t,i,V,P⟩:=n;obtain⟨a,b,Z,b2,rfl,⟨xs,Q⟩,⟨ys,S⟩,q⟩:=P;obtain⟨u,v,rfl,W,Y⟩:=yS V;cases W;cases Y;obtain⟨E,rx,y⟩:=i.seqB Q;obtain⟨F,ry,py⟩:=i.seqB S;have k:a<d.heap.objs.size:=by obtain⟨_,e⟩:=xE y;exact aT e
 have m:b<d.heap.objs.size:=by obtain⟨_,e⟩:=xE py;exact aT e
 refine K0 y py λD x G L M N n6 O=>?_
 have B:Inv X f A t { d with heap:=D }:=i.kept (t':=d.toks) O;refine lK x ⟨_,[_,_,_,_,_],_,_,t,rfl,B,Yq (a:=a) (b:=b) (i1:=d.heap.objs.size) (i2:=d.heap.objs.size+1) (z:=d.heap.objs.size+4) (TI:=d.heap.objs.size+2) (TO:=d.heap.objs.size+3) ?_,⟨⟨_,_,x,.inl rfl⟩,G,⟨_,_,L⟩,M,N⟩,λc w=>?_,q⟩
 .constructor<;>first | exact bH k | exact bH m | exact bH (aW k (eG _ _)) | exact bH (aW m (eG _ _)) | exact fO k | exact fO m | exact fO (aW k (eG _ _)) | exact fO (aW m (eG _ _)) | exact (by show (_:Nat)≠_;omega)
 .simp only[aH,bA,dP] at w;rcases w with e | e | e | e | e<;>(subst e;exact i.fpOk (by omega) (i.hok.fresh (by omega)))
theorem EK {x0:Af}{ps:Pos}{j g:Expr}{o:rJ}{p pos:Pos}(I:Gl X "zip") (J:X.mg "zip" = none) (C:rW X [j,g] o) (U:starEach [j,g] X.env=(false,eval j X.env)::starEach [g] X.env:=by rfl)
  (l:(backTo pos (starEach [g] X.env)).any (·.1)=false:=by rfl):xU X (.Name x0 ps) (.Call (.Name "zip" p) [j,g] [] pos) (Ss o) :=
 (AI I J C U l).mono λA H R d=>d.elim λB z T G q hd s k=>⟨B,z,T,_,q,hd,s,λas e D i u ok d1 c=>by
  cases ok with
  | nil=>exact False.elim c
  | al _ ok=>exact False.elim c
  | t ok =>
   cases ok with
   | nil=>exact False.elim c
   | al _ ok=>cases ok<;>exact False.elim c
   | t ok =>
    cases ok with
    | al _ ok=>exact False.elim c
    | t ok=>exact False.elim c
    | nil =>
     obtain⟨m,n,E,F,f,h,c⟩:=c;have r:=d1.temps (σ:=A) (.t (.t .nil)) _ rfl;cases r with
     | cons v r =>
      cases r with
      | cons w r =>
       obtain⟨a,x,rfl,g1,_⟩:=A9 f v;obtain⟨b,y,rfl,g2,_⟩:=A9 h w;exact⟨a,b,m,n,rfl,⟨x,g1⟩,⟨y,g2⟩,k _ _ e [_,_] i u d1 (P0 f h) c⟩⟩
end
end L2
namespace L2
open PySem PySem.W PySem.Spec PyProof.Rows Lw
section
variable {P:Ah}
theorem nZ.grow (k:∀ b o,h.get? b=some o->g.get? b=some o) (a:nZ P w h x v):nZ P w g x v:=by
 rcases x with x | d
 .exact a
 .obtain⟨b,e,o,items,n,c,rest⟩:=a;exact⟨b,e,o,items,n,k _ _ c,rest⟩
def wC (more:Aa (MK×Ac×Ac)):Aa (MK×Ac×Ac):=more.foldl (λa q=>sL a q.1 q.2.1 q.2.2) []
theorem Y2 (g:Aa (MK×Ac×Ac)) (k:MK) (a v:Ac):(sL g k a v).length<=g.length+1:=by
 unfold sL;by_cases h:(qD g k).isSome=true
 .rw[aP h,aA];omega
 .rw[aI h,aZ];exact aR _
theorem AE (g:∀ x∈j,nZ P w h x.1 x.2.1) (l:nZ P w h k a):∀ x∈sL j k a v,nZ P w h x.1 x.2.1:=λx b=>by
 unfold sL at b;by_cases e:(qD j k).isSome=true
 .rw[aP e] at b;obtain⟨y,c,rfl⟩:=aN.mp b;unfold tI;by_cases z:y.1=k
  .rw[aP z];exact g y c
  .rw[aI z];exact g y c
 .rw[aI e] at b;rcases aQ.mp b with b | b
  .exact g x b
  .rw[aM.mp b];exact l
theorem Pm {more:Aa (MK×Ac×Ac)}{i:Nat}{q:MK×Ac×Ac}(h:more[i]?=some q):wC (more.take (i+1))=sL (wC (more.take i)) q.1 q.2.1 q.2.2:=by
 unfold wC;rw[bP,h,dR];rfl
theorem Tw {more:Aa (MK×Ac×Ac)}{h:Ag}(g:∀ x∈more,nZ P w h x.1 x.2.1):∀ i,i<=more.length->(wC (more.take i)).length<=i/\∀ x∈wC (more.take i),nZ P w h x.1 x.2.1
 | 0,_=>⟨aR _,λx b=>(bA b).elim⟩
 | i+1,d=>by
  obtain⟨c,a⟩:=Tw g i (by omega);rw[Pm (aF (show i<more.length by omega))];exact⟨bD (Y2 _ _ _ _) (by omega),AE a (g _ (eR _))⟩
theorem We (hh:A.handled=none) (hu:A.units+2<cLine) (hl:s.heap.get? l=some o) (U:o.cls = .type "list") (hd:o.dict=none) (C:o.data = .seq items nl)
  (hn:more.length=items.size)
  (T:∀ (i:Nat) v,items[i]?=some v->∃ (t:Ad) (o:Obj) (m:Nat) (q:MK×Ac×Ac),v = .ref t/\s.heap.get? t=some o/\o.cls = .type "tuple" /\ o.data = .seq #[q.2.1,q.2.2] m/\more[i]?=some q)
  (J:∀ q∈more,nZ P w s.heap q.1 q.2.1) (hb:items.size<=sizeLine)
  (h:∀ (g:Ag) (I:Nat),(∃ o j p,g.get? s.heap.objs.size=some o/\o.ExactDict/\o.data = .dict j p/\j.toList=(wC more).map (sF P w)/\((wC more).map (·.1)).Nodup)->(∀ b o,s.heap.get? b=some o->g.get? b=some o)->Q (.ref s.heap.objs.size) { s with heap:=g,toks:=I }) :
  wpAny (model P w) A (call (.type "dict") [.ref l]) Q E s:=by
 refine Se (λi g=>∃ o j p,g.get? s.heap.objs.size=some o/\o.ExactDict/\o.data = .dict j p/\j.toList=(wC (more.take i)).map (sF P w)/\((wC (more.take i)).map λx:MK×Ac×Ac=>x.1).Nodup) hh hl U hd C (λn e=>⟨_,#[],0,e,⟨rfl,rfl,rfl⟩,rfl,rfl,gE⟩) (λi n u k ⟨o,j,p,G,r⟩=>⟨o,j,p,k _ _ (aR _) G,r⟩) (λi v H=>?_) λg I m=>h g I (by rw[bJ (by omega)] at m;exact m)
 obtain⟨t,M,m,q,rfl,n,u,F,a⟩:=T i v H;have R:i<more.length:=(aG.mp a).1;refine⟨t,M,m,_,_,rfl,n,u,F,λB V Q E hB y ⟨S,j,p,g1,g2,g3,z,D⟩ k=>?_⟩;obtain⟨W,O⟩:=Tw J i (by omega);refine T1 (hB hu) ⟨g1,g2,g3,z,λx K=>(O x K).grow y,D⟩ ((J q (aK a)).grow y) (by omega) λg L f d c N=>k g _ ?_ N
 rw[Pm a];exact⟨L,f,d,c.ho,c.hc,c.hd,c.he,c.nd⟩
end
def Gb (H:Hp):Aa Ad->Aa (MK×V×V)->Prop:=Paired λt m=>H t=some (.t [m.2.1,m.2.2])/\tZ H m.1 m.2.1
def sK {j:Type}(put:Aa (MK×j)->MK->j->Aa (MK×j)) (g:Aa (MK×j)) (l:Aa (MK×j)):Aa (MK×j):=l.foldl (λg m=>put g m.1 m.2) g
theorem CL {P:Ah}(j:oO P w H h) (r:Gb H I p):∃ more:Aa (MK×Ac×Ac),more.length=p.length /\
  (∀ (i:Nat) t,I[i]?=some t->∃ (o:Obj) (m:Nat) (q:MK×Ac×Ac),h.get? t=some o/\o.cls = .type "tuple" /\ o.data = .seq #[q.2.1,q.2.2] m/\more[i]?=some q) /\
  (∀ q∈more,nZ P w h q.1 q.2.1)/\∀ g C,KM H g C->KM H (sK oK g (p.map λm=>(m.1,m.2.2))) (more.foldl (λl q=>sL l q.1 q.2.1 q.2.2) C):=by
 unfold Gb at r;induction r with
 | nil=>exact⟨[],rfl,λi t e=>by simp at e,λq a=>(bA a).elim,λ_ _ k=>k⟩
 | @cons t m I p v O D =>
  obtain⟨more,F,A,hk,y⟩:=D;obtain⟨s,u⟩:=v;obtain⟨z,E,b,⟨o,B,x,n,c⟩,_⟩:=j t _ s;cases b with
  | @cons _ f _ Q G b =>
   cases b with
   | @cons _ M _ N K b =>
    cases b;have d:tS H m.1 f:=Bj u G;refine⟨(m.1,f,M)::more,by rw[bS,bS,F],λi L e=>?_,λq a=>?_,λg C k=>?_⟩
    .cases i with
     | zero =>
      simp at e;subst e;exact⟨o,n,_,B,x,c,rfl⟩
     | succ i=>simpa using A i L (by simpa using e)
    .rcases aH.mp a with rfl | a
     .exact yK j d
     .exact hk q a
    .exact y _ _ (k.put _ d K)
def Nz (K:mZ):Aa V->Hp->VK->Prop:=λc H Q=>∃ (p:Ad) (b:Aa Ad) (a:Aa (MK×V×V)),c=[.ref p]/\eH K H p (b.map V.ref)/\Gb H b a/\a.length<=1000/\∀ d,H d=none->Q (.ref d) (upd H d (.dM (sK oK [] (a.map λm=>(m.1,m.2.2)))))
theorem Tk:∀ (j:Aa (MK×V)) (g:Aa (MK×V)),(sK oK g j).length<=g.length+j.length
 | [],g=>by simp[sK]
 | m::j,g=>by
  have a:=Tk j (oK g m.1 m.2);have b:=Bm g m.1 m.2;show (sK oK (oK g m.1 m.2) j).length<=_;rw[bS];omega
section
variable {X:Cx}
theorem GQ (g:X.calm=true) (j:X.A.units+2<cLine):oH X (.type "dict") (Nz X.K):=by
 intro L s σ H xs us Q I r h;obtain⟨p,z,y,rfl,hq,G,hz,q⟩:=h;obtain⟨u,rfl,E⟩:=qJ r;cases E;obtain⟨f,M,⟨o,n,e,R,S,W⟩,_⟩:=I.list hq;have k:=M.length;rw[aA] at k;have aa:z.length=y.length:=eP G;obtain⟨more,ml,hm,hk,U⟩:=CL I.hok G;have d:∀ (i:Nat) v,f[i]?=some v->∃ t,z[i]?=some t/\v = .ref t:=by
  intro i v w;have hi:i<f.length:=(aG.mp w).1;have:i<z.length:=by omega
  obtain⟨u,j,E⟩:=M.get (i:=i) (x:=V.ref z[i]) (by simp[this]);rw[j] at w;cases w;cases E;exact⟨z[i],by simp[this],rfl⟩
 refine We (more:=more) (I.ok.hd g) j e R S W (by rw[aV];omega) ?_ hk (by rw[aV];exact dX (bG (show f.length<=1000 by omega) (by decide))) λh' tk T c=>?_
 .intro i v w;obtain⟨t,ht,rfl⟩:=d i v (by simpa using w);obtain⟨o,m,q,B,l,C,J⟩:=hm i t ht;exact⟨t,o,m,q,rfl,B,l,C,J⟩
 .have D:(sK oK [] (y.map λm=>(m.1,m.2.2))).length<=sizeLine:=by
   have B:=Tk (y.map λm=>(m.1,m.2.2)) [];rw[jJ,aA] at B;exact dX (bG (show (sK oK [] (y.map λm=>(m.1,m.2.2))).length<=1000 by omega) (by decide))
  obtain⟨ob,Z,Y,d1,d2,N,O,P⟩:=T;refine⟨.ref s.heap.objs.size,_,I.laid (a:=s.heap.objs.size) (o:=.dM (sK oK [] (y.map λm=>(m.1,m.2.2)))) (t':=tk) c (aR _) ?_,rfl,q _ I.fresh⟩;refine⟨D,cQ.mpr (eV (bH I.big)),_,(U [] [] .nil).keeps λb ys F=>?_,ob,Z,Y,d1,d2,N,O,P⟩;rw[gV (nB F I.fresh)];exact F
end
section
variable {K:mZ}
theorem BJ (h:Rep K A H (gD k) y):tZ H k y:=by
 rcases k with (i | x) | c
 .exact h.int_inv
 .exact h.str_inv
 .obtain⟨b,e,rfl,a,d⟩:=Rep.tup_inv h;refine⟨b,rfl,?_⟩;have:e=c.map kV:=by
   clear a h;induction c generalizing e with
   | nil=>cases d;rfl
   | cons k c f =>
    cases d with
    | cons g r =>
     rw[f _ r];rcases k with i | x
     .rw[Rep.int_inv g];rfl
     .rw[Rep.str_inv g];rfl
  rw[this] at a;exact a
theorem Nq:∀ {j:Aa (MK×D)}{o:Aa V},Reps K A H (j.map λm=>D.t [gD m.1,m.2]) o->∃ (l:Aa Ad) (g:Aa (MK×V×V)),o=l.map V.ref/\Gb H l g/\g.map (·.1)=j.map (·.1)/\Reps K A H (j.map (·.2)) (g.map (·.2.2))
 | [],_,.nil=>⟨[],[],rfl,.nil,rfl,.nil⟩
 | m::j,_,.cons h r=>by
  obtain⟨l,g,rfl,c,d,e⟩:=Nq r;obtain⟨a,n,rfl,f,b⟩:=h.tup_inv;cases b with
  | cons i b =>
   cases b with
   | cons k b =>
    cases b;exact⟨a::l,(m.1,_,_)::g,rfl,.cons ⟨f,BJ i⟩ c,by rw[aO,aO,d],.cons k e⟩
theorem So:∀ {ms:Aa (MK×D)}{mv:Aa (MK×V)}{kvs:Aa (MK×D)}{vs:Aa (MK×V)},ms.map (·.1)=mv.map (·.1)->Reps K A H (ms.map (·.2)) (mv.map (·.2))->kvs.map (·.1)=vs.map (·.1)->Reps K A H (kvs.map (·.2)) (vs.map (·.2)) ->
  (sK oA kvs ms).map (·.1)=(sK oK vs mv).map (·.1)/\Reps K A H ((sK oA kvs ms).map (·.2)) ((sK oK vs mv).map (·.2))
 | [],[],_,_,_,_,e,r=>⟨e,r⟩
 | [],_::_,_,_,e,_,_,_=>by simp at e
 | _::_,[],_,_,e,_,_,_=>by simp at e
 | (k,d)::ms,(j,v)::mv,kvs,vs,a,b,e,r=>by
  simp only[aO,fW] at a;obtain⟨rfl,a⟩:=a;cases b with
  | cons h b =>
   obtain⟨c,f⟩:=Bl e r (k:=k) h;exact So (ms:=ms) (mv:=mv) a b c f
def CG:OC:=λb d=>match b with
 | [.l c]=>∃ a:Aa (MK×D),c=a.map (λm=>D.t [gD m.1,m.2])/\a.length<=1000/\d (.o (.dM (sK oA [] a)))
 | _=>False
theorem CQ:qR K (Nz K) CG:=by
 intro B L H c F G Q hd u b k;cases c with
 | nil=>exact False.elim b
 | cons d c =>
 cases c with
 | cons _ _=>cases d<;>exact False.elim b
 | nil =>
 cases d<;>first | exact False.elim b | skip
 obtain⟨x,rfl,v⟩:=rV u;obtain⟨n,rfl,D,b⟩:=b;obtain⟨a,E,rfl,h,r⟩:=v.lst_inv;obtain⟨A,f,rfl,s,i,t⟩:=Nq r;have q:n.map (·.1)=(f.map λm=>(m.1,m.2.2)).map (·.1):=by rw[bB,<- i];rfl
 have z:Reps K (Al B (dT L)) H (n.map (·.2)) ((f.map λm=>(m.1,m.2.2)).map (·.2)):=by rw[bB];exact t
 obtain⟨w,y⟩:=So (kvs:=[]) (vs:=[]) q z rfl .nil;refine⟨a,A,f,rfl,eH.of h,s,?_,λd e=>k _ _ _ b (hd.dMF e w y)⟩;have:=cK List.length i;rw[aA,aA] at this;omega
end
end L2
namespace Lw
open PySem L2
abbrev WT:=Aa (MK×Int)
def nO (t:WT):Aa (MK×D):=t.map λp=>(p.1,.int p.2)
def Mi:RD:=λe c d=>∃ (b:Aa MK) (m f:Nat) (a:Aa (Nat×Aa Int)) (KK:(Nat->Int)->Prop),c=[.l (b.map gD),.int f,.dM (nL a)]/\b.Nodup/\b.length=m/\m<=28/\EQ.Inv m KK a/\(∀ h∈a,EQ.Le CC h.2)/\f<m /\
 d (.o (.dM (nO ((b.zip (EQ.shown m a f)).filter λp=>p.2 != 0))))
theorem Zk:BM*CC<BD:=by decide +kernel
theorem BZ {A:Around}{k:Nat}(g:Room k A):A.units+2<cLine:=bG (Nat.add_le_add_left (by decide:2<=64) _) g.units
theorem M6:CC<BD:=by decide +kernel
theorem JC (m:Nat):(List.replicate ((m:Int).toNat) [D.int 0]).flatten=(List.replicate m (0:Int)).map D.int:=by
 rw[cI,List.map_replicate];induction m with
 | zero=>rfl
 | succ m a=>rw[cR,cR,gJ,a];rfl
theorem JD (l:Aa Int):Cc (.o (ln l))=true:=by
 show uM (l.map D.int)=true;induction l with
 | nil=>rfl
 | cons x l a=>exact a
theorem Xr (j:Aa MK) (g:Aa Int):wZ (j.map gD) (g.map D.int)=(j.zip g).map λp=>D.t [gD p.1,.int p.2]:=by
 unfold wZ;rw[List.zipWith_map,List.zip,jA]
theorem Qk:∀ (j:Aa (MK×D)) (g:Aa (MK×D)),((g++j).map (·.1)).Nodup->sK oA g j=g++j
 | [],g,_=>(dN _).symm
 | m::j,g,h=>by
  have e:oA g m.1 m.2=g++[m]:=by
   unfold oA;rw[aI];intro z;obtain⟨p,a,e⟩:=iQ.mp z;rw[bF,bM] at h;exact h.2.2 p.1 (bQ a) m.1 (bQ aE) (eU e)
  show sK oA (oA g m.1 m.2) j=_;rw[e,Qk j (g++[m]) (by rw[bI];exact h),bI];rfl
theorem Jd {f M C:Nat}{q:Int}(o:q.natAbs<=M) (p:0<C):∀ (j:Aa (Nat×Aa Int)) (l:Aa Int),(∀ h∈j,EQ.Le C h.2)->EQ.Le (M*C) l->EQ.Le (M*C) (EQ.put j f q l)
 | [],_,_,h=>h
 | h::j,l,b,hw=>Jd o p j _ (λg c=>b g (aJ _ c)) λx a=>by
  rcases jW a with a | rfl
  .exact hw x a
  .refine bD (PySem.natAbs_fdiv_le _ _) ?_;rw[Int.natAbs_neg,eO];exact iU o ((b h aE).ix f)
theorem L5:∀ (g:Aa MK) (j:Aa Int),((g.zip j).map (·.1)).Sublist g
 | [],_=>.slnil
 | _::_,[]=>List.nil_sublist _
 | x::g,_::j=>(L5 g j).cons_cons x
theorem Mc (p:MK×Int->Bool){g:Aa MK}{j:Aa Int}(h:g.Nodup):(((g.zip j).filter p).map (·.1)).Nodup :=
 mB (List.Sublist.trans ((List.filter_sublist (p:=p) (l:=g.zip j)).map _) (L5 g j)) h
theorem Nm {l:Aa Int}{k:Nat}{x:Int}(h:k<l.length):xT (ln l) (.int (k:Nat)) (.int x)=some (ln (l.set k x)):=by
 have e:rZ (l.map D.int).length (k:Int)=some k:=by
  unfold rZ;rw[aP (by omega),aA,aP (by omega)];rfl
 show (rZ (l.map D.int).length (k:Int)).map _=_;rw[e];show some (D.l ((l.map D.int).set k (.int x)))=_;rw[<- List.map_set]
theorem IG:(["pair"]:Aa Af).Nodup:=by decide +kernel
section
variable {P:Ah}{K:mZ}
theorem zW:FnScope ["things","first","heads","whole","at","weights"] ["things","first","heads"] (nS Fe):=pO
theorem Z2 (T:Txt mg) (j:Kn P w K mg base 1 "divisor_of_two" B2 ["one","other"] Kk) (g:Kn P w K mg base 3 "without_divisor" B0 ["numbers"] Kz) :
  pQ P w K mg base 4 "shown_equation" Fe ["things","first","heads"] Mi:=by
 refine pZ zW λf ac A aa s H E dk ds Φ X B hR=>?_
 obtain⟨u,m,f,b,KK,rfl,xn,xm,hm,I,sm,U,R⟩:=hR;refine⟨_,(hO (nX 3 zW.nd hV) (hO (N3 (m:=99) eC rfl (cN 2) (nM 4 zW.nd) (nJ (nX 3 zW.nd (qF Fm Fa (sP yV yR 3 (pC Bw C9 T.abs iD (dK (vV B (nT B 2 (cN 4)) (cN 4)) hH))) (oV j X (dK (pC Bw C9 T.abs iD (dK (vV B (nT B 2 (cN 4)) (cN 4)) hH)) (dK (pC Bw C9 T.abs iD (dK (vV B (nT B 2 (cN 4)) (cN 1)) hH)) hH))))))) (hO (nX 5 zW.nd (qF Iq Jo (rM (dK hV hH)) (pC vM vW T.len cF (dK (cN 0) hH)))) (hO (uP (n:=5) B (cN 3) (pv 5) (cN 1)) (hO (N3 (m:=99) eC rfl (cN 2) (nM 4 zW.nd) (nJ (uP (n:=5) B (qF Fm Fa (S4 (sP yV yR 3 (vV B (nT B 2 (cN 4)) (cN 1)))) (vV B (nT B 2 (cN 4)) (cN 4))) (pv 5) (cN 4)))) (nJ (oC (uG (GQ rfl (BZ X)) CQ T.dict jF (dK (qB ["pair"] [] [] (EK (by rfl) T.zip (dK (cN 0) (dK (oV g X (Bf (pv 5) hH)) hH))) (λ_ _ _ _ _=>(nM 0 IG)) (λ_ _ _ _ _=>(cN 0)) (ht:=λ_ _ _ _ _=>(vS (sZ (uE X.units) (pF true) (nT B 0 hV) hV)))) hH))))))))),?_⟩;have ae:=I.le;have G:∀ {q:Nat} {h:Nat×Aa Int},b[q]?=some h->tX (.dM (nL b)) (.int (h.1:Nat))=some (some (ln h.2)):=λz=>by
  show some (nK (nL b) (hk _))=_;rw[Hz I.nd z]
 have e0:(nL b).length=b.length:=by unfold nL;rw[List.length_map]
 have wb:∀ q,(EQ.whole (b.take q) f 1).natAbs<BM:=λq=>by
  have:=EQ.whole_le (f:=f) vA (b.take q) (a:=1) (A:=1) (λh z=>sm h (gI z)) (by decide);refine bG this (bG ?_ (Pq (aR 28)));refine iI 1 ?_;refine bD (iL vA (show (b.take q).length<=28 by rw[bO];omega)) (lT (by omega) _)
 have wf:=wb b.length;rw[cL] at wf;refine nG (λF=>F=[.v (.l (u.map gD)),.v (.int (f:Nat)),.v (.dM (nL b)),.v (.int 1),.n,.n]) (λN L=>L _ rfl) ?_;rintro _ rfl;refine nG (λF=>∃ y,F=[.v (.l (u.map gD)),.v (.int (f:Nat)),.v (.dM (nL b)),.v (.int (EQ.whole b f 1)),y,.n]) (λN L=>?_) ?_
 .refine qI (b.map λh=>D.int (h.1:Nat)) [.v (.l (u.map gD)),.v (.int (f:Nat)),.v (.dM (nL b)),.v (.int 1),.n,.n] (λY h=>?_)
   (λq F=>∃ y,F=[.v (.l (u.map gD)),.v (.int (f:Nat)),.v (.dM (nL b)),.v (.int (EQ.whole (b.take q) f 1)),y,.n]) ⟨_,rfl⟩ ?_ ?_
  .show Y (rG (nL b)) _;rw[Eh];exact h
  .rintro q d _ hd ⟨y,rfl⟩;obtain⟨h,z,rfl⟩:=qP hd;have c:=aK z;have S:=I.len h c;have V:=uJ (l:=h.2) (k:=h.1) (by rw[S];exact I.lt h c);have Z:=uJ (l:=h.2) (k:=f) (by rw[S];exact U);have g0:0<Nat.gcd (EQ.ix h.2 h.1).natAbs (EQ.ix h.2 f).natAbs:=Nat.gcd_pos_of_pos_left _ (Int.natAbs_pos.mpr (I.own h c));have J:Nat.gcd (EQ.ix h.2 h.1).natAbs (EQ.ix h.2 f).natAbs<=CC:=bD (Nat.le_of_dvd (Int.natAbs_pos.mpr (I.own h c)) (lL _ _)) ((sm h c).ix h.1);refine⟨rfl,rfl,_,G z,_,V,⟨wb q,?_⟩,?_⟩
   .rw[hU];exact bG ((sm h c).ix h.1) E4
   refine⟨rfl,_,G z,_,V,rfl,_,G z,_,Z,_,_,rfl,.inl rfl,⟨by omega,?_⟩,.v (.int (h.1:Nat)),?_⟩
   .rw[hU];exact bG J M6
   .have r:EQ.whole (b.take (q+1)) f 1=EQ.whole (b.take q) f 1*((EQ.ix h.2 h.1).natAbs:Int)/(Nat.gcd (EQ.ix h.2 h.1).natAbs (EQ.ix h.2 f).natAbs:Int):=by
     rw[bP,z];unfold EQ.whole;rw[dR];rfl
    rw[r,<- fP _ (by omega)];rfl
  .rintro _ ⟨y,rfl⟩;rw[aA,cL];exact L _ ⟨_,rfl⟩
 rintro _ ⟨y,rfl⟩;refine nG (λF=>F=[.v (.l (u.map gD)),.v (.int (f:Nat)),.v (.dM (nL b)),.v (.int (EQ.whole b f 1)),y,.o (ln (List.replicate m 0))]) (λN L=>?_) ?_
 .refine⟨by show 1<=1000;decide,rfl,m,by show some (u.map gD).length=_;rw[aA,xm],by omega,by show (m:Int)<=1000;omega,by show 1<=100;decide,L _ ?_⟩;show [_,_,_,_,_,Sl.o (D.l (List.replicate ((m:Int).toNat) [D.int 0]).flatten)]=_;rw[JC]
 rintro _ rfl;refine nG (λF=>F=[.v (.l (u.map gD)),.v (.int (f:Nat)),.v (.dM (nL b)),.v (.int (EQ.whole b f 1)),y,.o (ln ((List.replicate m 0).set f (EQ.whole b f 1)))]) (λN L=>?_) ?_
 .refine⟨rfl,_,Nm (by rw[cO];exact U),L _ rfl⟩
 rintro _ rfl;refine nG (λF=>∃ y,F=[.v (.l (u.map gD)),.v (.int (f:Nat)),.v (.dM (nL b)),.v (.int (EQ.whole b f 1)),y,.o (ln (EQ.put b f (EQ.whole b f 1) ((List.replicate m 0).set f (EQ.whole b f 1))))]) (λN L=>?_) ?_
 .refine qI (b.map λh=>D.int (h.1:Nat)) [.v (.l (u.map gD)),.v (.int (f:Nat)),.v (.dM (nL b)),.v (.int (EQ.whole b f 1)),y,.o (ln ((List.replicate m 0).set f (EQ.whole b f 1)))] (λY h=>?_)
   (λq F=>∃ y,F=[.v (.l (u.map gD)),.v (.int (f:Nat)),.v (.dM (nL b)),.v (.int (EQ.whole b f 1)),y,.o (ln (EQ.put (b.take q) f (EQ.whole b f 1) ((List.replicate m 0).set f (EQ.whole b f 1))))]) ⟨_,rfl⟩ ?_ ?_
  .show Y (rG (nL b)) _;rw[Eh];exact h
  .rintro q d _ hd ⟨y,rfl⟩;obtain⟨h,z,rfl⟩:=qP hd;have c:=aK z;have S:=I.len h c;have V:=uJ (l:=h.2) (k:=h.1) (by rw[S];exact I.lt h c);have Z:=uJ (l:=h.2) (k:=f) (by rw[S];exact U);refine⟨rfl,rfl,_,G z,_,Z,⟨wf,?_⟩,rfl,_,G z,_,V,⟨I.own h c,?_⟩,rfl,_,Nm ?_,.v (.int (h.1:Nat)),?_⟩
   .exact bG ((sm h c).ix f) E4
   .exact bG ((sm h c).ix h.1) M6
   .rw[EQ.put_len,aY,cO];exact I.lt h c
   .have r:∀ Q W,EQ.put (b.take (q+1)) f Q W=(EQ.put (b.take q) f Q W).set h.1 ((-(Q*EQ.ix h.2 f)).fdiv (EQ.ix h.2 h.1)):=λQ W=>by
     rw[bP,z];unfold EQ.put;rw[dR];rfl
    rw[r];rfl
  .rintro _ ⟨y,rfl⟩;rw[aA,cL];exact L _ ⟨_,rfl⟩
 rintro _ ⟨ab,rfl⟩;have pl:(EQ.put b f (EQ.whole b f 1) ((List.replicate m 0).set f (EQ.whole b f 1))).length=m:=by rw[EQ.put_len,aY,cO]
 have pg:EQ.gc (EQ.put b f (EQ.whole b f 1) ((List.replicate m 0).set f (EQ.whole b f 1)))<BD:=by
  refine bG (EQ.gc_le (Jd (M:=BM) (C:=CC) (dX wf) vA b _ sm λx hx=>?_)) Zk;rcases jW hx with hx | rfl
  .rw[List.eq_of_mem_replicate hx];exact cE _
  .exact bD (dX wf) (Nat.le_mul_of_pos_right _ vA)
 unfold EQ.shown at R;generalize EQ.put b f (EQ.whole b f 1) ((List.replicate m 0).set f (EQ.whole b f 1))=O at *;unfold sH dC aC;refine uT (u.zip (EQ.wd O)) (λp=>.t [gD p.1,.int p.2]) (λp=>.t [gD p.1,.int p.2]) (λp=>p.2 != 0) [.v (.l (u.map gD)),.v (.int (f:Nat)),.v (.dM (nL b)),.v (.int (EQ.whole b f 1)),ab,.o (ln O)] (λY h=>?_) (by rw[fE];omega) (λi x ys Nx e h1 h2 h3=>?_) ?_
 .exact⟨rfl,O,rfl,by omega,pg,.inr (JD _),false,false,_,_,rfl,rfl,by rw[Xr];exact h⟩
 .refine⟨rfl,.int x.2,rfl,wU (λh=>?_) λh=>?_⟩
  .exact⟨h1,h2 (by simpa using h)⟩
  .exact h3 (by simpa using h)
 .have fl:=dJ (λp:MK×Int=>p.2 != 0) (u.zip (EQ.wd O));rw[fE] at fl;have hn:((nO ((u.zip (EQ.wd O)).filter λp=>p.2 != 0)).map (·.1)).Nodup:=by
   unfold nO;rw[bB];exact Mc _ xn
  refine⟨nO ((u.zip (EQ.wd O)).filter λp=>p.2 != 0),by unfold nO;rw[List.map_map];rfl,by unfold nO;rw[List.length_map];omega,?_⟩;rw[Qk (nO ((u.zip (EQ.wd O)).filter λp=>p.2 != 0)) [] hn];exact R
end
abbrev HY (C:Cel):Aa Af:=("" : Af)::pM C
abbrev nC (C:Cel):Aa MK:=oW C true
def qH (C:Cel) (g:Bool):Aa (Nat×Aa Int):=EQ.red (uW C g)
def nP (C:Cel) (f:Nat):WT:=((nC C).zip (EQ.shown (nC C).length (qH C true) f)).filter λp=>p.2 != 0
def nU (C:Cel):Aa Nat:=EQ.firsts (nC C).length (qH C true)
def Tq:RD:=λd a c=>∃ C,a=[nH C,.b true]/\GCq C/\c (.o (.l ((nU C).map λf=>.dM (nO (nP C f)))))
theorem Z0 {C:Cel}(g:GCq C):(HY C).Nodup:=by
 have c:C.ins.Nodup:=(bM.mp g.gc.nd).1;refine bN.mpr ⟨λh=>g.ne ?_,bM.mpr ⟨c,g.gc.ond.filter _,λa d b f e=>?_⟩⟩
 .rcases aQ.mp h with h | h
  .exact bK _ h
  .exact g.gc.os _ (bW.mp h).1
 .subst e;have:=(bW.mp f).2;simp at this;exact this d
theorem O8:∀ {g:Aa Af},g.Nodup->(pL g).Nodup
 | [],_=>gE
 | x::g,h=>by
  have f:=bN.mp h;have inj:∀ {a b:Af},tp x a=tp x b->a=b:=λ{a b} e=>by
   have d:[Sum.inr x,Sum.inr a]=([Sum.inr x,Sum.inr b]:Aa hG):=gC e;simp only[fW,Sum.inr.injEq,and_true,true_and] at d;exact d
  refine bM.mpr ⟨jR.mpr (f.2.imp λ{a b} ne e=>ne (inj e)),O8 f.2,λs k t m e=>?_⟩
  .subst e;obtain⟨b,_,rfl⟩:=aN.mp k;obtain⟨a,c,e,i,_⟩:=Fx m;have d:[Sum.inr x,Sum.inr b]=([Sum.inr a,Sum.inr c]:Aa hG):=gC e;simp only[fW,Sum.inr.injEq,and_true] at d;exact f.1 (d.1▸i)
theorem Q8 {C:Cel}(g:GCq C):(nC C).Nodup:=by
 have d:=Z0 g;refine bM.mpr ⟨jR.mpr (d.imp λ{a b} ne e=>ne (gC (kR e))),O8 (bM.mp g.gc.nd).1,λs f t h e=>?_⟩;subst e;obtain⟨x,_,rfl⟩:=aN.mp f;obtain⟨a,c,e,_⟩:=Fx h;cases e
theorem W6 {C:Cel}{o:Bool}(g:GCq C){b:Aa Int}(j:b∈pH C.ins.length){t:MK}(l:t∈oW C o):tv (uB C b) t=0\/tv (uB C b) t=1:=by
 obtain⟨q,d⟩:=xK l;have e:∀ x:Af,(x = "" \/ x∈C.ins++C.outs)->Bit (uB C b x):=λx n=>Lm g j (n.imp_right λh=>(aQ.mp h).elim (bK _) (g.gc.os x))
 rcases q with⟨x,rfl⟩ | ⟨a,c,rfl⟩
 .exact e x (d x aE)
 .have k:=e a (d a aE);have m:=e c (d c (aJ _ aE));show uB C b a*uB C b c=0\/uB C b a*uB C b c=1;rcases k with f | f<;>rcases m with i | i<;>rw[f,i]<;>decide
theorem Ny {C:Cel}{pr:Bool}(g:GCq C):∀ r∈uW C pr,r.length=(oW C pr).length/\EQ.Bit r:=λr c=>by
 obtain⟨b,a,rfl⟩:=aN.mp c;refine⟨aA ..,λx e=>?_⟩;obtain⟨t,d,rfl⟩:=aN.mp e;exact W6 g a d
theorem Zm {C:Cel}{pr:Bool}(g:GCq C):(uW C pr).length<=64:=by
 unfold uW;rw[aA,Dp];exact Cy g.li
theorem Fg (n:Nat):sM 0 n=(List.range n).map λi=>D.int (i:Nat):=by
 unfold sM
 congr 1;funext i
 rw[lU]
theorem Vj (j:Aa (Nat×Aa Int)) (k:Nat):(nK (nL j) (hk k)).isSome=(j.map (·.1)).contains k:=by
 induction j with
 | nil=>rfl
 | cons g j a =>
  show (nK ((hk g.1,ln g.2)::nL j) _).isSome=_;rw[sB,aO,List.contains_cons];by_cases e:g.1=k
  .rw[aP (Cb.mpr e)];simp[e]
  .rw[aI λz=>e (Cb.mp z),a];have:(k == g.1)=false:=by simp;exact λz=>e z.symm
   rw[this];rfl
theorem AR (t:WT):Cc (.o (.dM (nO t)))=true:=by
 show uM ((nO t).map (·.2))=true;induction t with
 | nil=>rfl
 | cons x l a=>exact a
theorem Z6:(["at","heads"]:Aa Af).Nodup:=by decide +kernel
theorem JA:(["first","things","heads"]:Aa Af).Nodup:=by decide +kernel
section
variable {P:Ah}{K:mZ}
theorem Gv:FnScope ["cell","pairs","things","heads","firsts"] ["cell","pairs"] (nS Fz):=pO
theorem DC (T:Txt U) (p:Kn P w K U base 1 "things_of" Dz ["cell","pairs"] Dx) (j:Kn P w K U base 4 "value_table" En ["cell","things"] N6) (J:Kn P w K U base 5 "reduced" Dv ["table"] N5)
  (g:Kn P w K U base 4 "shown_equation" Fe ["things","first","heads"] Mi):pQ P w K U base 6 "equations" Fz ["cell","pairs"] Tq:=by
 refine pZ Gv λf G A z s H E X Y Z k S O=>?_
 obtain⟨C,rfl,a,y⟩:=O;refine⟨_,(hO (nX 2 Gv.nd (oV p k (dK (cN 0) (dK (cN 1) hH)))) (hO (nX 3 Gv.nd (oV J k (dK (oV j k (dK (cN 0) (dK (cN 2) hH))) hH))) (hO (Fc 4 ["at"] ["heads"] [3] Gv.nd (Ak (by rfl) T.range (pC vM vW T.len cF (dK (cN 2) hH))) (λ_ _ _ _ _=>(nM 0 Z6)) (λ_ _ _ _ _=>(cN 0)) (ht:=λ_ _ _ _ _=>(vS (Jv (Ku S) (Jy true) (cN 0) (pv 1))))) (nJ (oC (qB ["first"] ["things","heads"] [2,3] (oP (cN 4)) (λ_ _ _ _ _=>(nM 0 JA)) (λ_ _ _ _ _=>(oV g k (dK (cN 1) (dK (cN 0) (Bf (pv 2) hH))))))))))),?_⟩;have u:(nC C).length<=28:=Hc (pr:=true) a.li a.lo;have ok:∀ r∈uW C true,r.length=(nC C).length/\EQ.Bit r:=Ny (pr:=true) a;obtain⟨I,sm⟩:=EQ.red_ok ok;have B:∀ h∈qH C true,EQ.Le CC h.2:=λh R=>(sm h R).mono (Jp u)
 refine nG (λd=>d=[.v (nH C),.v (.b true),.o (.l ((nC C).map gD)),.n,.n]) (λN c=>?_) ?_
 .exact⟨C,true,rfl,a.li,a.lo,.inl rfl,c _ rfl⟩
 rintro _ rfl;refine nG (λd=>d=[.v (nH C),.v (.b true),.v (.l ((nC C).map gD)),.o (.dM (nL (qH C true))),.n]) (λN c=>?_) ?_
 .refine⟨C,true,rfl,a,.inl rfl,_,_,rfl,by have:=Zm (pr:=true) a;omega,u,ok,.inl rfl,c _ ?_⟩;rfl
 rintro _ rfl;refine nG (λd=>d=[.v (nH C),.v (.b true),.v (.l ((nC C).map gD)),.o (.dM (nL (qH C true))),.o (.l ((nU C).map λf=>D.int (f:Nat)))]) (λN c=>?_) ?_
 .unfold rQ;refine uT (List.range (nC C).length) (λi=>.int (i:Nat)) (λi=>.int (i:Nat)) (λi=>!((qH C true).map (·.1)).contains i) [.v (nH C),.v (.b true),.v (.l ((nC C).map gD)),.o (.dM (nL (qH C true))),.n] (λW h=>?_) (by rw[bZ];omega) (λi x V F e m t M=>?_) (c _ rfl)
  .refine⟨rfl,(nC C).length,by show some ((nC C).map gD).length=_;rw[aA],by omega,by omega,?_⟩;rw[cI,Fg];exact h
  .refine⟨_,rfl,?_⟩;have L:(nK (nL (qH C true)) (hk x)).isSome=((qH C true).map (·.1)).contains x:=Vj _ _;show if (nb true (nK (nL (qH C true)) (hk x)).isSome)=true then _ else _
   rw[L];cases q:((qH C true).map (·.1)).contains x with
   | true=>exact Kv rfl (M (by rw[q];rfl))
   | false=>exact Ip rfl ⟨m,t (by rw[q];rfl)⟩
 rintro _ rfl;unfold sH;refine rA (nU C) (λf=>.int (f:Nat)) (λf=>.dM (nO (nP C f))) [.v (nH C),.v (.b true),.v (.l ((nC C).map gD)),.o (.dM (nL (qH C true))),.v (.l ((nU C).map λf=>D.int (f:Nat)))] (λW h=>h) ?_ (λi f V F e m t=>?_) y
 .have:=EQ.firsts_len I;show (EQ.firsts (nC C).length (qH C true)).length<=_;unfold qH;omega
 .have Q:=EQ.firsts_mem (aK e);exact⟨rfl,nC C,(nC C).length,f,qH C true,_,rfl,Q8 a,rfl,u,I,B,Q.1,.inr (AR _),m,t⟩
end
theorem R6 (g:Aa Af) (m:Nat):sU (g.map V.str) none (some (m:Int))=(g.take m).map V.str:=by
 unfold sU;rw[HT.sIx_none,HT.sIx_nat,aA,List.drop_zero,Nat.sub_zero,List.map_take];by_cases h:m<=g.length
 .rw[jK h]
 .rw[mO (by omega),bJ (by simp),bJ (by simp;omega)]
theorem KC (g:Aa Af) (m:Nat):sU (g.map V.str) (some (m:Int)) none=(g.drop m).map V.str:=by
 unfold sU;rw[HT.sIx_none,HT.sIx_nat,aA,List.map_drop];by_cases h:m<=g.length
 .rw[jK h,bJ (by simp)]
 .rw[mO (by omega)];rw[List.drop_of_length_le (by simp),List.drop_of_length_le (by simp;omega)];simp
section
variable {P:Ah}{K:mZ}
theorem uO:FnScope ["deck","inputs","gates","many","count","names","known","rows","name","left","outputs","k"] ["deck","inputs","gates"] (nS Fs):=pO
theorem V8 (F:Fun K "_law_cell" "_law_cell" Fs f fd) (T:Txt mg) (gT:Gd K mg "_law_take" xG ["deck","many"] fT cv) (gN:Gd K mg "_law_names" Gw ["deck","many"] fN cu)
  (gG:Gd K mg "_law_gate" G0 ["deck","known"] fG ct) (GT:FnOk P w K mg base oQ 1 fT cv ["deck","many"] Ao) (GN:FnOk P w K mg base oQ 3 fN cu ["deck","many"] Oe) (GG:FnOk P w K mg base oQ 2 fG ct ["deck","known"] Oz) :
  FnOk P w K mg base oQ 4 f fd ["deck","inputs","gates"] Us:=by
 refine F.ok uO (λvs H Q E h=>?_) (λdm A db s H vs Q E hr h=>?_)
 .obtain⟨d,c,a,b,rfl,_⟩:=h;rfl
 .obtain⟨d,c,a,b,rfl,D,ha,hb,k⟩:=h;have bb:Room 1 _:=hr.mono (by decide);have c5:Room 2 _:=hr.mono (by decide);refine Cp _ (oN (i:=3) uO.nd rfl (Or.inl rfl) (qM GT bb rfl gT.m gT.k gT.b .nil qA (hL (pv 0) (hL (nV tY (pv 1) nW) nI)))) ?_;refine⟨_,rfl,_,rfl,_,_,rfl,rfl,d,c,_,rfl,D,by omega,by omega,λr1 H1 a0 a1 D1 k1=>?_⟩;refine Cp _ (oN (i:=4) uO.nd rfl (Or.inl rfl) (qM GT bb rfl gT.m gT.k gT.b .nil qA (hL (pv 0) (hL (nV tY (pv 2) nW) nI)))) ?_;refine⟨_,rfl,_,rfl,_,_,rfl,rfl,d,c,_,rfl,D1,by omega,by omega,λr2 H2 b0 b1 D2 k2=>?_⟩;obtain⟨m,rfl⟩:=cM a0;obtain⟨n,rfl⟩:=cM b0;refine Cp _ (oN (i:=5) uO.nd rfl (Or.inl rfl) (qM GN hr rfl gN.m gN.k gN.b .nil qA (hL (pv 0) (hL (nV tY (pv 3) (pv 4)) nI)))) ?_;refine⟨_,rfl,_,rfl,_,rfl,_,_,rfl,rfl,d,c,m+n,rfl,D2,by omega,λl v H3 nl hl dj b4 cw D3 k3=>?_⟩;have ck:=D2.ned nl;have b8:nA d c H H3:=(k1.trans k2).trans k3;have zl:H l=none:=(k1.trans k2).free ck.1 ck.2 nl;refine tJ (λW H5=>∃ (kn B:Ad),W=[some (.ref d),some (.int a),some (.int b),some (.int m),some (.int n),some (.ref l),some (.ref kn),none,none,none,none,none] /\ H5 l=some (.l (v.map V.str))/\H5 kn=some (.l ((v.take m).map V.str))/\H kn=none/\DeckAt H5 d c/\nA d c H H5) (λu X=>?_) ?_
  .refine⟨_,oN (i:=6) uO.nd rfl (Or.inl rfl) (wO Aw (pv 5) yF (xX (pv 3))),?_⟩;refine⟨_,rfl,_,rfl,_,rfl,l,_,rfl,eH.of hl,λkn nk=>?_⟩;have cj:=D3.ned nk;refine X _ _ ⟨kn,kn,rfl,by rw[gV (nB hl nk)];exact hl,?_,b8.free cj.1 cj.2 nk,D3.new nk,b8.trans (nA.new nk)⟩;rw[R6];exact hI
  rintro W H4 ⟨kn,_,rfl,bo,ay,dh,D4,k4⟩;refine tJ (λW H5=>∃ (B:Ad),W=[some (.ref d),some (.int a),some (.int b),some (.int m),some (.int n),some (.ref l),some (.ref kn),some (.ref B),none,none,none,none] /\ H5 l=some (.l (v.map V.str))/\H5 kn=some (.l ((v.take m).map V.str))/\H5 B=some (.l [])/\l≠B/\kn≠B/\H B=none/\DeckAt H5 d c/\nA d c H H5) (λu X=>?_) ?_
  .refine⟨_,oN (i:=7) uO.nd rfl (Or.inl rfl) (pU nI),?_⟩;refine⟨(by show 0<=sizeLine;decide),λB nr=>?_⟩;have cn:=D4.ned nr;exact X _ _ ⟨B,rfl,by rw[gV (nB bo nr)];exact bo,by rw[gV (nB ay nr)];exact ay,hI,nB bo nr,nB ay nr,k4.free cn.1 cn.2 nr,D4.new nr,k4.trans (nA.new nr)⟩
  rintro W H5 ⟨B,rfl,bp,bf,a7,da,c7,bt,D5,k5⟩;refine tJ (λW Y=>∃ (L:Ad) (as:Aa Ad) (Z:Aa (Af×Af×Aa Af)) (v8:Ab V),W=[some (.ref d),some (.int a),some (.int b),some (.int m),some (.int n),some (.ref l),some (.ref L),some (.ref B),v8,none,none,none] /\ Y l=some (.l (v.map V.str))/\Y L=some (.l (v.map V.str))/\Y B=some (.l (as.map V.ref))/\sR Y as Z/\Z.map (·.1)=v.drop m/\uI (v.take m) Z/\DeckAt Y d c/\nA d c H Y) (λu X=>?_) ?_
  .refine⟨_,vZ eC rfl (Mv (wO Aw (pv 5) (xX (pv 3)) yF)) (uH (i:=8) uO.nd rfl (Or.inl rfl)) (pN (Ci (vI cC cZ dB wK (pv 7) (hL (nV S2 (zV (hL (pv 8) nI)) (qM GG c5 rfl gG.m gG.k gG.b .nil qA (hL (pv 0) (hL (pv 6) nI)))) nI))) (qE (oN (i:=6) uO.nd rfl (Or.inl rfl) (nV A3 (pv 6) (pU (hL (pv 8) nI)))))),?_⟩;refine⟨_,rfl,_,rfl,_,rfl,l,_,rfl,eH.of bp,λln ah=>?_⟩;rw[KC];have bm:=D5.ned ah;have di:H ln=none:=k5.free bm.1 bm.2 ah;have cc:ln≠B:=(nB a7 ah).symm;refine⟨ln,rfl,⟨_,eH.of hI⟩,?_⟩;refine Qw (K:=K) (a:=ln) (xs:=(v.drop m).map V.str) (λi W Y=>∃ (L:Ad) (as:Aa Ad) (Z:Aa (Af×Af×Aa Af)) (v8:Ab V),W=[some (.ref d),some (.int a),some (.int b),some (.int m),some (.int n),some (.ref l),some (.ref L),some (.ref B),v8,none,none,none] /\ Y l=some (.l (v.map V.str))/\Y ln=some (.l ((v.drop m).map V.str))/\Y L=some (.l ((v.take (m+i)).map V.str))/\H L=none/\L≠B/\Y B=some (.l (as.map V.ref))/\as.length=i/\sR Y as Z/\Z.map (·.1)=(v.drop m).take i/\uI (v.take m) Z/\DeckAt Y d c/\nA d c H Y)
    ⟨kn,[],[],none,rfl,by rw[gV (nB bp ah)];exact bp,hI,by rw[gV (nB bf ah)];exact bf,dh,c7,by rw[gV (nB a7 ah)];exact a7,rfl,.nil,by simp,True.intro,D5.new ah,k5.trans (nA.new ah)⟩
    (λi W Y _ ⟨_,_,_,_,_,_,h,_⟩=>eH.of h) ?_ ?_
   .rintro i x W Y hx ⟨L,as,Z,v8,rfl,an,bh,R,bn,b9,S,bu,aw,O,ax,D6,k6⟩;obtain⟨y,hy,rfl⟩:∃ y,(v.drop m)[i]?=some y/\V.str y=x:=by
     rw[aU] at hx;cases e:(v.drop m)[i]? with
     | none=>rw[e] at hx;cases hx
     | some y=>rw[e] at hx;exact⟨y,rfl,bR hx⟩
    have hi:i<(v.drop m).length:=(aG.mp hy).1;rw[cW] at hi;have bd:=D.ned bn;refine⟨_,rfl,.inl ⟨rfl,_,eH.of S⟩,_,rfl,(by show 1<=sizeLine;decide),λt1 be=>?_⟩;have D7:=D6.new (o:=.t [V.str y]) be;have b2:upd Y t1 (.t [V.str y]) L=some (.l ((v.take (m+i)).map V.str)):=by rw[gV (nB R be)];exact R
    refine⟨_,rfl,_,rfl,d,c,L,v.take (m+i),rfl,D7,b2,bd.1,bd.2,by rw[bO];omega,λt q wd ps H8 nt nq ht hq c3 c4 D8 k8=>?_⟩;have bc:nA d c Y H8:=(nA.new be).trans k8;have cp:=D6.ned be;have c6:=k8 t1 _ hI cp.1 cp.2;refine⟨t1,t,_,_,rfl,rfl,nQ.of c6,nQ.of ht,by simp,(by show 1+2<=sizeLine;decide),(λz=>by cases z),λ_ C ao=>?_⟩;have ae:=D.ned bt;have J:=bc B _ S ae.1 ae.2;have af:∀ o,upd H8 C o B=some (.l (as.map V.ref)):=λo=>by rw[gV (nB J ao)];exact J
    refine⟨B,_,.ref C,rfl,rfl,af _,?_,?_⟩
    .rw[aA];exact aW (show as.length<1000 by omega) (by decide)
    have df:B≠C:=nB J ao;have ai:DeckAt (upd (upd H8 C (.t ([V.str y]++[V.str wd,V.ref q]))) B (.l (as.map V.ref++[V.ref C]))) d c:=(D8.new ao).upd_other ae.1 ae.2;have ar:nA d c H (upd (upd H8 C (.t ([V.str y]++[V.str wd,V.ref q]))) B (.l (as.map V.ref++[V.ref C]))):=λb o e g1 g2=>by
     rw[gV (nB e bt)];exact (k6.trans (bc.trans (nA.new ao))) b o e g1 g2
    have aq:∀ b ys,b≠B->b≠d->b≠c->Y b=some (.l ys)->upd (upd H8 C (.t ([V.str y]++[V.str wd,V.ref q]))) B (.l (as.map V.ref++[V.ref C])) b=some (.l ys):=λb ys e1 e2 e3 e=>by
     have e8:=bc b _ e e2 e3;rw[gV e1,gV (nB e8 ao)];exact e8
    have tp:oZ Y (upd (upd H8 C (.t ([V.str y]++[V.str wd,V.ref q]))) B (.l (as.map V.ref++[V.ref C]))):=(oZ.of_keep D6 bc).trans ((oZ.new ao).trans (oZ.lst (af _)));have bv:P9 (upd (upd H8 C (.t ([V.str y]++[V.str wd,V.ref q]))) B (.l (as.map V.ref++[V.ref C]))) C (y,wd,ps):=by
     refine⟨q,?_,?_⟩
     .rw[gV df.symm];exact hI
     .have qr:q≠B:=yZ hq J (λz=>nomatch z);rw[gV qr,gV (nB hq ao)];exact hq
    have ld:=D.ned zl;have ca:=D.ned di;have I:=aq l _ da ld.1 ld.2 an;have a3:=aq ln _ cc ca.1 ca.2 bh;have ak:=aq L _ b9 bd.1 bd.2 R;have G:upd (upd H8 C (.t ([V.str y]++[V.str wd,V.ref q]))) B (.l (as.map V.ref++[V.ref C])) B=some (.l ((as++[C]).map V.ref)):=by rw[hI];simp
    generalize upd (upd H8 C (.t ([V.str y]++[V.str wd,V.ref q]))) B (.l (as.map V.ref++[V.ref C]))=M at ai ar tp bv I a3 ak G |-;refine⟨_,rfl,_,rfl,(by show 1<=sizeLine;decide),λp1 n1=>?_⟩;have ba:=ai.new (o:=.l [V.str y]) n1;have ac:=ar.trans (nA.new (d:=d) (c:=c) (o:=.l [V.str y]) n1);refine⟨L,p1,_,_,rfl,rfl,by rw[gV (nB ak n1)];exact ak,hI,?_,λp2 n2=>?_⟩
    .rw[aA,bO];exact E6 (by show min (m+i) v.length+1<=1000;omega)
    have ag:∀ b o,M b=some o->upd (upd M p1 (.l [V.str y])) p2 (.l ((v.take (m+i)).map V.str++[V.str y])) b=some o:=λb o e=>by
     have e1:upd M p1 (.l [V.str y]) b=some o:=by rw[gV (nB e n1)];exact e
     rw[gV (nB e1 n2)];exact e1
    have cf:=ba.ned n2;refine⟨p2,as++[C],Z++[(y,wd,ps)],_,rfl,ag _ _ I,ag _ _ a3,?_,ac.free cf.1 cf.2 n2,?_,ag _ _ G,by simp[bu],?_,?_,?_,ba.new n2,ac.trans (nA.new n2)⟩
    .rw[hI,<- Nat.add_assoc,bP,bF];rw[kQ] at hy;rw[hy];rfl
    .intro e;have:=ag B _ G;rw[<- e] at G;have q1:upd M p1 (.l [V.str y]) p2=some (.l ((as++[C]).map V.ref)):=by rw[gV (nB G n1)];exact G
     rw[q1] at n2;cases n2
    .exact sR.mono (λb ys e=>ag b _ e) (Pl (sR.mono tp aw) bv)
    .rw[bF,O,bP,hy];rfl
    .refine uI.snoc ax c3 (λp hp=>?_);have:=c4 p hp;rw[O];rw[List.take_add] at this;exact this
   .rintro W Y ⟨L,as,Z,v8,rfl,an,bh,R,bn,b9,S,bu,aw,O,ax,D6,k6⟩;rw[aA] at R O;rw[bJ (aR _)] at O;rw[bJ (by rw[cW];omega)] at R;exact X _ _ ⟨L,as,Z,v8,rfl,an,R,S,aw,O,ax,D6,k6⟩
  rintro W Y ⟨L,as,Z,v8,rfl,an,R,S,aw,O,ax,D6,k6⟩;refine tJ (λW H7=>∃ (lf g:Ad),W=[some (.ref d),some (.int a),some (.int b),some (.int m),some (.int n),some (.ref l),some (.ref L),some (.ref B),v8,some (.ref lf),none,none] /\ H7 l=some (.l (v.map V.str))/\H7 B=some (.l (as.map V.ref))/\H7 lf=some (.l (v.map V.str))/\l≠lf/\B≠lf/\H lf=none/\sR H7 as Z/\DeckAt H7 d c/\nA d c H H7) (λu X=>?_) ?_
  .refine⟨_,oN (i:=9) uO.nd rfl (Or.inl rfl) (zC Et (by rfl) T.list fS (hL (pv 6) nI)),?_⟩;refine⟨_,rfl,L,_,rfl,.inl (eH.of R),λlf nf=>?_⟩;have ch:=D6.ned nf;exact X _ _ ⟨lf,lf,rfl,by rw[gV (nB an nf)];exact an,by rw[gV (nB S nf)];exact S,hI,nB an nf,nB S nf,k6.free ch.1 ch.2 nf,aw.mono (oZ.new nf),D6.new nf,k6.trans (nA.new nf)⟩
  rintro W H7 ⟨lf,_,rfl,bq,a8,a2,c8,dd,cq,bw,D7,k7⟩;refine tJ (λW H8=>∃ (g:Ad),W=[some (.ref d),some (.int a),some (.int b),some (.int m),some (.int n),some (.ref l),some (.ref L),some (.ref B),v8,some (.ref lf),some (.ref g),none] /\ H8 l=some (.l (v.map V.str))/\H8 B=some (.l (as.map V.ref))/\H8 lf=some (.l (v.map V.str))/\H8 g=some (.l [])/\l≠g/\B≠g/\lf≠g/\H g=none/\sR H8 as Z/\DeckAt H8 d c/\nA d c H H8) (λu X=>?_) ?_
  .refine⟨_,oN (i:=10) uO.nd rfl (Or.inl rfl) (pU nI),?_⟩;refine⟨(by show 0<=sizeLine;decide),λg no=>?_⟩;have cm:=D7.ned no;exact X _ _ ⟨g,rfl,by rw[gV (nB bq no)];exact bq,by rw[gV (nB a8 no)];exact a8,by rw[gV (nB a2 no)];exact a2,hI,nB bq no,nB a8 no,nB a2 no,k7.free cm.1 cm.2 no,bw.mono (oZ.new no),D7.new no,k7.trans (nA.new no)⟩
  rintro W H8 ⟨g,rfl,cx,J,b3,b6,c9,de,a9,cs,bx,D8,k8⟩;refine tJ (λW H9=>∃ (os lt:Aa Af) (v11:Ab V),W=[some (.ref d),some (.int a),some (.int b),some (.int m),some (.int n),some (.ref l),some (.ref L),some (.ref B),v8,some (.ref lf),some (.ref g),v11] /\ H9 l=some (.l (v.map V.str))/\H9 B=some (.l (as.map V.ref))/\H9 g=some (.l (os.map V.str))/\os.length<=6/\(os++lt).Perm v/\sR H9 as Z/\DeckAt H9 d c/\nA d c H H9) (λu X=>?_) ?_
  .refine⟨_,vZ eC rfl (zJ rfl T.range (hL (sJ (Ib rfl) (by rfl) T.min lH (hL (qM GT bb rfl gT.m gT.k gT.b .nil qA (hL (pv 0) (hL nW nI))) (hL (sJ vY (by rfl) T.len cF (hL (pv 9) nI)) nI))) nI)) (uH (i:=11) uO.nd rfl (Or.inl rfl)) (qE (Ci (vI cC cZ dB wK (pv 10) (hL (vI cC PySem.F.slot_list_pop PySem.F.type_list_pop Qx (pv 9) (hL (qM GT bb rfl gT.m gT.k gT.b .nil qA (hL (pv 0) (hL (sJ vY (by rfl) T.len cF (hL (pv 9) nI)) nI))) nI)) nI)))),?_⟩;refine⟨_,rfl,d,c,7,rfl,D8,by decide,by decide,λr H9 c0 c1 D9 k9=>?_⟩;have ld:=D.ned zl;have ae:=D.ned bt;have au:=D.ned cq;have av:=D.ned cs;have bg:=k9 lf _ b3 au.1 au.2;refine⟨_,rfl,lf,_,rfl,.inl (eH.of bg),_,_,rfl,_,rfl,?_,?_,?_⟩
   .split<;>omega
   .split
    .rw[aA];omega
    .omega
   rw[aA];have hN:(if (v.length:Int)<r then (v.length:Int) else r).toNat<=6/\(if (v.length:Int)<r then (v.length:Int) else r).toNat<=v.length:=by split<;>omega
   generalize (if (v.length:Int)<r then (v.length:Int) else r).toNat=N at hN;refine Ea (lo:=0) (n:=N) (λi W M=>∃ (os lt:Aa Af) (v11:Ab V),W=[some (.ref d),some (.int a),some (.int b),some (.int m),some (.int n),some (.ref l),some (.ref L),some (.ref B),v8,some (.ref lf),some (.ref g),v11] /\ M l=some (.l (v.map V.str))/\M B=some (.l (as.map V.ref))/\M lf=some (.l (lt.map V.str))/\M g=some (.l (os.map V.str))/\os.length=i/\lt.length+i=v.length/\(os++lt).Perm v/\sR M as Z/\DeckAt M d c/\nA d c H M)
    ⟨[],v,none,rfl,k9 l _ cx ld.1 ld.2,k9 B _ J ae.1 ae.2,bg,k9 g _ b6 av.1 av.2,rfl,rfl,List.Perm.refl _,bx.mono (oZ.of_keep D8 k9),D9,k8.trans k9⟩ ?_ ?_
   .rintro i W M hi ⟨os,lt,v11,rfl,I,G,aa,ab,b5,cz,br,aj,ai,ar⟩;refine⟨_,rfl,.inl ⟨rfl,_,eH.of ab⟩,_,rfl,.inl ⟨rfl,_,eH.of aa⟩,_,rfl,_,rfl,lf,_,rfl,.inl (eH.of aa),d,c,_,rfl,ai,by rw[aA];omega,by rw[aA];omega,λr2 dk e0 e1 ba ac=>?_⟩;rw[aA] at e1;obtain⟨j,rfl⟩:=cM e0;have hj:j<lt.length:=by omega
    have az:=ac lf _ aa au.1 au.2;have a4:=ac g _ ab av.1 av.2;have hy:lt[j]?=some lt[j]:=aF hj;have dc:((os++[lt[j]])++lt.eraseIdx j).Perm (os++lt):=by
     rw[bI];exact jO os (Ld hy)
    have dn:(lt.eraseIdx j).length+1=lt.length:=by
     rw[List.length_eraseIdx,aP hj];omega
    refine⟨lf,_,_,j,.str lt[j],rfl,rfl,az,by omega,by omega,?_,by simp[hj],g,_,.str lt[j],rfl,rfl,by rw[gV a9.symm];exact a4,?_,os++[lt[j]],lt.eraseIdx j,_,rfl,?_,?_,?_,by rw[hI];simp,by simp[b5],by omega,dc.trans br,?_,?_,?_⟩
    .rw[aA];exact lN (by omega) (by omega)
    .rw[aA];exact aW (show os.length<1000 by omega) (by decide)
    .rw[gV c9,gV c8];exact ac l _ I ld.1 ld.2
    .rw[gV de,gV dd];exact ac B _ G ae.1 ae.2
    .rw[gV a9,hI,Kf]
    .refine aj.mono ((oZ.of_keep ai ac).trans ((oZ.lst az).trans (oZ.lst (ys:=os.map V.str) ?_)));rw[gV a9.symm];exact a4
    .exact (ba.upd_other au.1 au.2).upd_other av.1 av.2
    .exact λb o e g1 g2=>by rw[gV (nB e cs),gV (nB e cq)];exact ac b o (ar b o e g1 g2) g1 g2
   .rintro W M ⟨os,lt,v11,rfl,I,G,aa,ab,b5,cz,br,aj,ai,ar⟩;exact X _ _ ⟨os,lt,v11,rfl,I,G,ab,by omega,br,aj,ai,ar⟩
  rintro W H9 ⟨os,lt,v11,rfl,cy,af,bi,c2,a6,bz,D9,k9⟩;refine⟨_,qE (vJ (zV (hL (zC Dj (by rfl) T.tuple eN (hL (wO Aw (pv 5) yF (xX (pv 3))) nI)) (hL (zC Dj (by rfl) T.tuple eN (hL (pv 7) nI)) (hL (zC Dj (by rfl) T.tuple eN (hL (pv 10) nI)) nI))))),?_⟩;refine⟨_,rfl,_,rfl,_,rfl,l,_,rfl,eH.of cy,λp1 n1=>⟨p1,_,rfl,.inl ⟨eH.of hI,λp2 n2=>?_⟩⟩⟩;rw[R6] at n2 |-;have bj:upd (upd H9 p1 (.l ((v.take m).map V.str))) p2 (.t ((v.take m).map V.str)) B=some (.l (as.map V.ref)):=by
   have e1:upd H9 p1 (.l ((v.take m).map V.str)) B=some (.l (as.map V.ref)):=by rw[gV (nB af n1)];exact af
   rw[gV (nB e1 n2)];exact e1
  have a5:upd (upd H9 p1 (.l ((v.take m).map V.str))) p2 (.t ((v.take m).map V.str)) g=some (.l (os.map V.str)):=by
   have e1:upd H9 p1 (.l ((v.take m).map V.str)) g=some (.l (os.map V.str)):=by rw[gV (nB bi n1)];exact bi
   rw[gV (nB e1 n2)];exact e1
  have DA:=(D9.new (o:=.l ((v.take m).map V.str)) n1).new (o:=.t ((v.take m).map V.str)) n2;have kA:=(k9.trans (nA.new (d:=d) (c:=c) (o:=.l ((v.take m).map V.str)) n1)).trans (nA.new (d:=d) (c:=c) (o:=.t ((v.take m).map V.str)) n2);have gA:sR (upd (upd H9 p1 (.l ((v.take m).map V.str))) p2 (.t ((v.take m).map V.str))) as Z:=bz.mono ((oZ.new n1).trans (oZ.new n2));have iA:upd (upd H9 p1 (.l ((v.take m).map V.str))) p2 (.t ((v.take m).map V.str)) p2=some (.t ((v.take m).map V.str)):=hI;generalize upd (upd H9 p1 (.l ((v.take m).map V.str))) p2 (.t ((v.take m).map V.str))=HA at bj a5 DA kA gA iA |-;refine⟨_,rfl,B,_,rfl,.inl ⟨eH.of bj,λp3 n3=>?_⟩⟩;have b7:upd HA p3 (.t (as.map V.ref)) g=some (.l (os.map V.str)):=by rw[gV (nB a5 n3)];exact a5
  refine⟨_,rfl,g,_,rfl,.inl ⟨eH.of b7,λp4 n4=>⟨(by show 3<=sizeLine;decide),λce nc=>?_⟩⟩⟩;have DB:=(DA.new (o:=.t (as.map V.ref)) n3).new (o:=.t (os.map V.str)) n4;have kB:=(kA.trans (nA.new (d:=d) (c:=c) (o:=.t (as.map V.ref)) n3)).trans (nA.new (d:=d) (c:=c) (o:=.t (os.map V.str)) n4);have tB:oZ HA (upd (upd (upd HA p3 (.t (as.map V.ref))) p4 (.t (os.map V.str))) ce (.t [V.ref p2,V.ref p3,V.ref p4])):=(oZ.new n3).trans ((oZ.new n4).trans (oZ.new nc));have cg:=DB.ned nc;refine k ce ⟨v.take m,Z,os⟩ _ (kB.free cg.1 cg.2 nc) ⟨p2,p3,p4,as,hI,tB _ _ iA,((oZ.new n4).trans (oZ.new nc)) _ _ hI,(oZ.new nc) _ _ hI,gA.mono tB⟩ ?_ (DB.new nc) (kB.trans (nA.new nc));have U:(⟨v.take m,Z,os⟩:Cel).names=v:=by
   show v.take m++Z.map (·.1)=v;rw[O];exact iB m v
  have dp:Z.length=v.length-m:=by
   have:=cK List.length O;rw[aA,cW] at this;exact this
  refine⟨by rw[U];exact b4,by rw[U];exact cw,ax,λo ho=>by rw[U];exact a6.mem_iff.mp (bK _ ho),?_,by show (v.take m).length<=6;rw[bO];omega,by show Z.length<=24;omega,c2⟩;exact mB (List.sublist_append_left os lt) (a6.symm.nodup b4)
end
def U8:RD:=λe f h=>∃ (d c:Ad) (a b:Nat),e=[d,c]/\f=[.r (.ref d),.int a,.int b]/\a<=6/\b<=24/\∀ C,Good C->h (.v (nH C))
def tM:Nat->Nat->Aa Int
 | 0,_=>[]
 | m+1,n=>((n%2:Nat):Int)::tM m (n/2)
theorem M3:∀ (m n:Nat){i:Nat},i<m->(tM m n)[i]?=some ((n/2 ^ i%2:Nat):Int)
 | m+1,n,0,_=>by simp[tM]
 | m+1,n,i+1,h=>by
  have:=M3 m (n/2) (i:=i) (by omega);rw[Nat.div_div_eq_div_mul,iH 2,<- iK] at this
  simpa [tM] using this
theorem U4:∀ {g:Aa Af}{bs:Aa Int}{i:Nat}{y:Af}{v:Int},g.Nodup->g[i]?=some y->bs[i]?=some v->look (g.zip bs) y=v
 | x::g,b::bs,0,y,v,_,c,d=>by
  simp at c d;subst c d;rw[cU,As,aP rfl]
 | x::g,b::bs,i+1,y,v,e,c,d=>by
  have a:g[i]?=some y:=by simpa using c
  rw[cU,As,aI λz:x=y=>(bN.mp e).1 (z▸aK a)];exact U4 (bN.mp e).2 a (by simpa using d)
 | [],_,_,_,_,_,h,_=>by simp at h
 | _::_,[],_,_,_,_,_,h=>by simp at h
theorem Ur:∀ m≤6,∀ n<2 ^ m,tM m n∈pH m:=by decide +kernel
theorem Xw:∀ m≤6,∀ b∈pH m,∃ n<2 ^ m,tM m n=b:=by decide +kernel
theorem Ut {C:Cel}(h:Good C):GCq C:=⟨⟨h.nd,h.gt,h.os,h.ond,bD h.li (by decide),bD h.lg (by decide),bD h.lo (by decide)⟩,h.li,h.lo,λz=>by
 have:=(h.nm _ z).ls.lo;exact absurd this (by decide)⟩
theorem Um {K:mZ}{A:Ad->Prop}{H:Hp}:∀ {as:Aa Ad}{g:Aa (Af×Af×Aa Af)},sR H as g->Reps K A H (g.map G5) (as.map V.ref)
 | _,_,.nil=>.nil
 | _,_,.cons ⟨q,a,b⟩ r=>.cons (.t a (.cons (.str _) (.cons (.str _) (.cons (.t b (Er _)) .nil)))) (Um r)
theorem MU {K:mZ}{A:Ad->Prop}{H:Hp}{a:Ad}{C:Cel}(h:CellAt H a C):Rep K A H (nH C) (.ref a):=by
 obtain⟨i,g,o,as,b,c,d,e,f⟩:=h.ex;exact .t b (.cons (.t c (Er _)) (.cons (.t d (Um f)) (.cons (.t e (Er _)) .nil)))
def Uv:RD:=λe c d=>∃ (a:Aa Af) (n:Nat),c=[.t (a.map D.str),.int n]/\a.Nodup/\a.length<=6/\∀ b,qU b a (look (a.zip (tM a.length n)))->b.length<=6->d (.o (.k b))
section
variable {P:Ah}{K:mZ}
theorem Xh {f:Ad}{fd:FuncData}{k:Nat}{g:Aa Af}(F:FnOk P w K j base oQ k f fd g Us):FnOk P w K j base oQ k f fd g (yH K U8):=F.imp λR H Q E y=>by
 obtain⟨L,A,M,S,e,N,r,⟨d,c,a,b,n,q,s,t,h⟩,x⟩:=y;subst n q;cases r with
 | cons B r =>
  cases r with
  | cons D r =>
   cases r with
   | cons G r =>
    cases r;have:=B.raw_inv;have:=D.int_inv;have:=G.int_inv;subst_vars;exact⟨d,c,a,b,rfl,Tj e,s,t,λce C m O u v i z=>x _ _ m (h C v) (Rg z) (.inr ⟨d,c,rfl,i⟩) (MU u)⟩
theorem Gi:FnScope ["names","number","found","name"] ["names","number"] (nS Gh):=pO
theorem Xv (T:Txt g):pQ P w K g base 1 "_law_bits" Gh ["names","number"] Uv:=by
 refine pZ Gi λf R A Q s H E Z j r l W S=>?_
 obtain⟨b,c,rfl,Y,p,O⟩:=S;refine⟨_,(hO (nX 2 Gi.nd M7) (hO (qL (oP (cN 0)) (nM 3 Gi.nd) (hO (uP (n:=2) W (sP rB B9 1 hV) (pv 2) (cN 3)) (nJ (nX 1 Gi.nd (sP Mh Yo 1 hV))))) (nJ (oC (wI 2 (pv 2)))))),?_⟩;refine nG (λB=>B=[.v (.t (b.map D.str)),.v (.int c),.o (.k []),.n]) (λN G=>G _ rfl) ?_;rintro _ rfl;refine nG (λB=>∃ a n m,B=[.v (.t (b.map D.str)),.v (.int (n:Nat)),.o (.k a),m]/\qU a b (look (b.zip (tM b.length c)))/\a.length<=6) (λN G=>?_) ?_
 .refine qI (b.map D.str) [.v (.t (b.map D.str)),.v (.int c),.o (.k []),.n] (λC h=>h)
   (λi B=>∃ a m,B=[.v (.t (b.map D.str)),.v (.int (c/2 ^ i:Nat)),.o (.k a),m]/\qU a (b.take i) (look (b.zip (tM b.length c)))/\a.length<=i) ⟨[],_,by rw[Nat.pow_zero,Nat.div_one],λx L=>by simp at L,aR _⟩ ?_ ?_
  .rintro i d _ hd ⟨a,m,rfl,u,F⟩;obtain⟨y,M,rfl⟩:=qP hd;have V:i<b.length:=(aG.mp M).1;refine⟨rfl,by show (0:Int)<2;decide,rfl,_,Bg (by omega),rfl,⟨by show (0:Int)<2;decide,by show (2:Int)<2 ^ 64;decide⟩,oA a (Sum.inr y) (.int ((c/2 ^ i%2:Nat):Int)),.v (.str y),?_,?_,?_⟩
   .rw[iK,<- Nat.div_div_eq_div_mul];rfl
   .rw[bP,M];intro x L;rw[zP];have X:=U4 Y M (M3 b.length c V);by_cases e:y=x
    .subst e;rw[aP rfl,X];exact⟨rfl,by
      rcases Nat.mod_two_eq_zero_or_one (c/2 ^ i) with q | q<;>rw[q]
      .exact .inl rfl
      .exact .inr rfl⟩
    .rw[aI λz=>e (gC z)];refine u x ?_;rcases aQ.mp L with h | h
     .exact h
     .exact absurd (aM.mp (show x∈[y] from h)).symm e
   .have:=zQ a (Sum.inr y:hG) (.int ((c/2 ^ i%2:Nat):Int));omega
  .rintro _ ⟨a,m,rfl,u,F⟩;rw[aA] at F;rw[aA,cL] at u;exact G _ ⟨a,_,m,rfl,u,by omega⟩
 rintro _ ⟨a,n,m,rfl,u,F⟩;exact O a u F
end
end Lw
namespace L2
open PySem PySem.Spec PyProof.Rows
def IX (i j:Nat) (g:rJ):qG:=λc b d=>g c d λas a=>match as with
 | [.t d1,.t d2]=>b.nx ((a.set i (.v d1)).set j (.v d2))
 | _=>False
section
variable {X:Cx}
theorem BA (i j:Nat){x y:Af}{a b:Expr}{I:rJ}{pos C py pt:Pos}{p o g}(J:X.N.Nodup) (U:rW X [a,b] I) (hi:X.N[i]?=some x:=by rfl) (hj:X.N[j]?=some y:=by rfl) (l:i≠j:=by decide)
  (hx:X.env.scope.names.lookup x=some .local:=by rfl) (hy:X.env.scope.names.lookup y=some .local:=by rfl) (hc:X.calm=true:=by rfl)
  (hw:swappedStores [.Tuple [.Name x C,.Name y py] p pt] (.Tuple [a,b] o g) X.env=pure (some [x,y]):=by rfl)
  (hs:swapsWithSole [.Tuple [.Name x C,.Name y py] p pt] (.Tuple [a,b] o g) pos.line X.env=pure false:=by rfl) :
  tL X (.Assign [.Tuple [.Name x C,.Name y py] p pt] (.Tuple [a,b] o g) pos) (IX i j I) :=
 (FZ hc J hi hj l hx hy U hw hs).mono λD h H e=>e.elim λB z T A q hd s u=>⟨B,z,T,_,q,hd,s,λas d F E f ok d1 c=>by
  cases ok with
  | nil=>exact False.elim c
  | al _ ok=>exact False.elim c
  | t ok =>
   cases ok with
   | nil=>exact False.elim c
   | al _ ok=>cases ok<;>exact False.elim c
   | t ok =>
    cases ok with
    | al _ ok=>exact False.elim c
    | t ok=>exact False.elim c
    | nil =>
     have r:=d1.temps (σ:=h) (.t (.t .nil)) _ rfl;have k:=d1.rmArgs;cases r with
     | cons v r =>
      cases r with
      | cons w r =>
       refine⟨_,_,rfl,?_⟩;have d2:=DS.push (L1:=d.zip h) (L2:=T) k w;have m:=DS.push (L1:=d.zip h) (L2:=(_,_)::T) d2 (by rw[Ek];exact v);have n:=(m.assign f i).assign (by rw[aY,aY];exact f) j;exact (u.1 _ _ _ (by simp only[aY];exact f) (by simp only[aY]) n).1 c⟩
end
end L2
namespace Lw
open PySem L2
section
variable {P:Ah}{K:mZ}
theorem Ch:FnScope ["row","found","number","other"] ["row"] (nS Au):=pO
theorem JE (T:Txt g):pQ P w K g base 1 "_law_divisor" Au ["row"] An:=by
 refine pZ Ch λf z A y s H E M O S Q R G=>?_
 obtain⟨l,rfl,u⟩:=G;refine⟨_,(hO (nX 1 Ch.nd hV) (hO (qL (oP (cN 0)) (nM 2 Ch.nd) (hO (nX 3 Ch.nd (pC Bw C9 T.abs iD (dK (cN 2) hH))) (nJ (Oy eC (qT L0 Lv (pv 3) hV) (nJ (BA 1 3 Ch.nd (dK (cN 3) (dK (sP rB B9 1 (cN 3)) hH)))))))) (nJ (oC (cN 1))))),?_⟩;refine nG (λb=>b=[.v (ln l),.v (.int 0),.n,.n]) (λN q=>q _ rfl) ?_;rintro _ rfl;refine nG (λb=>∃ k m,b=[.v (ln l),.v (.int (EQ.gc l:Nat)),k,m]) (λN q=>?_) ?_
 .refine qI (l.map D.int) [.v (ln l),.v (.int 0),.n,.n] (λV h=>h) (λi b=>∃ k m,b=[.v (ln l),.v (.int (EQ.gc (l.take i):Nat)),k,m]) ⟨_,_,rfl⟩ ?_ ?_
  .rintro i d _ hd ⟨k,m,rfl⟩;obtain⟨x,L,rfl⟩:=qP hd;have e:EQ.gc (l.take (i+1))=Nat.gcd (EQ.gc (l.take i)) x.natAbs:=by
    rw[bP,L];unfold EQ.gc;rw[dR];rfl
   rw[e];generalize EQ.gc (l.take i)=a at *;refine nG (λb=>b=[.v (ln l),.v (.int a),.v (.int x),.v (.int x.natAbs)]) (λN q=>q _ rfl) ?_;rintro _ rfl;refine⟨λb=>∃ c d:Nat,b=[.v (ln l),.v (.int c),.v (.int x),.v (.int d)]/\Nat.gcd c d=Nat.gcd a x.natAbs,λb=>match b with | [_,_,_,.v (.int d)]=>d.natAbs | _=>0,⟨a,x.natAbs,rfl,rfl⟩,?_⟩;rintro _ ⟨c,d,rfl,t⟩;refine⟨rfl,Fk (λh=>?_) λh=>?_⟩
   .have F:0<d:=by omega
    have B:(c:Int)%(d:Int)=((c%d:Nat):Int):=rfl;refine⟨rfl,by show (0:Int)<d;omega,⟨d,c%d,rfl,?_⟩,?_⟩
    .rw[<- t,mU c d,Nat.gcd_rec d c,mU]
    .show ((c:Int)%(d:Int)).natAbs<(d:Int).natAbs;rw[B];have:=Nat.mod_lt c F;omega
   .have:d=0:=by omega
    subst this;rw[Nat.gcd_zero_right] at t;subst t;exact⟨_,_,rfl⟩
  .rintro _ ⟨k,m,rfl⟩;rw[aA,cL];exact q _ ⟨_,_,rfl⟩
 rintro _ ⟨k,m,rfl⟩;exact u
end
theorem EF:(["name","cell"]:Aa Af).Nodup:=by decide +kernel
theorem Wh:(["other","cell","at"]:Aa Af).Nodup:=by decide +kernel
section
variable {P:Ah}{K:mZ}
theorem zY:FnScope ["cell","pairs","found","some","at"] ["cell","pairs"] (nS Hl):=pO
theorem Zi (T:Txt U):pQ P w K U base 1 "_law_things" Hl ["cell","pairs"] Dx:=by
 refine pZ zY λf Z A R s H E dk ds Φ hr m r=>?_
 obtain⟨C,a,rfl,M,ho,Q⟩:=r;refine⟨_,(hO (nX 2 zY.nd (qF tU tV (qF tU tV (rM (dK rR hH)) (uG Et Ir T.list fS (dK (nT m 0 hV) hH))) (qB ["name"] ["cell"] [0] (oP (nT m 0 hV)) (λ_ _ _ _ _=>(nM 0 EF)) (λ_ _ _ _ _=>(cN 0)) (ht:=λ_ _ _ _ _=>(vS (qT (Ku m) (Jy true) (pv 0) (nT m 1 hV))))))) (hO (nX 3 zY.nd (rM hH)) (hO (qL (Ak (by rfl) T.range (pC vM vW T.len cF (dK (nT m 0 hV) hH))) (nM 4 zY.nd) (nJ (nX 3 zY.nd (sP tU tV 3 (qB ["other"] ["cell","at"] [0,4] (oP (AJ T5 To (nT m 0 hV) (Tl (sP tU tV 4 hV)) Qj)) (λ_ _ _ _ _=>(nM 0 Wh)) (λ_ _ _ _ _=>(wN (dK (vV m (nT m 1 hV) (cN 2)) (dK (cN 0) hH))))))))) (hO (pE (O7 (pv 1)) (nJ (nX 2 zY.nd (sP tU tV 2 (cN 3)))) pG) (nJ (oC (wI 2 (pv 2)))))))),?_⟩;refine nG (λc=>c=[.v (nH C),.v (.b a),.o (.l (((("" : Af)::pM C).map tx).map gD)),.n,.n]) (λN k=>?_) ?_
 .unfold rQ d2;refine⟨by show 1<=1000;decide,rfl,_,rfl,_,rfl,by show 1+(C.ins.map D.str).length<=100000;rw[aA];omega,?_⟩;refine uT C.outs D.str D.str (λo=>!decide (o∈C.ins)) [.v (nH C),.v (.b a),.n,.n,.n] (λS h=>⟨rfl,_,rfl,h⟩) (by omega) (λi x ys Y e B F W=>?_) ?_
  .refine⟨rfl,rfl,_,rfl,.str x,C.ins.map V.str,rfl,S0 _,?_⟩;rw[Hu];show if (!decide (x∈C.ins))=true then _ else _
   by_cases q:x∈C.ins
   .exact Kv (by rw[cX q];rfl) (W (by rw[cX q];rfl))
   .exact Ip (by rw[cG q];rfl) ⟨B,F (by rw[cG q];rfl)⟩
  .have W:=dJ (λo=>!decide (o∈C.ins)) C.outs;refine⟨by show (([D.str (Str.ofString "")]++C.ins.map D.str)).length+((C.outs.filter λo=>!decide (o∈C.ins)).map D.str).length<=100000;rw[aZ,aA,aA];show 1+_+_<=_;omega,k _ ?_⟩;have:([D.str ("" : Af)]++C.ins.map D.str)++(C.outs.filter λo=>!decide (o∈C.ins)).map D.str=((("" : Af)::pM C).map tx).map gD:=by
    rw[bB];unfold pM;rw[aO,bF];rfl
   rw[<- this];rfl
 rintro _ rfl;have I:=dJ (λo=>!decide (o∈C.ins)) C.outs;have p:=J1 _ M;have sl:(pM C).length<=12:=by unfold pM;rw[List.length_append];omega
 refine nG (λc=>c=[.v (nH C),.v (.b a),.o (.l (((("" : Af)::pM C).map tx).map gD)),.o (.l []),.n]) (λN k=>⟨by show 0<=1000;decide,k _ rfl⟩) ?_;rintro _ rfl;refine nG (λc=>∃ t,c=[.v (nH C),.v (.b a),.o (.l (((("" : Af)::pM C).map tx).map gD)),.o (.l ((pL C.ins).map gD)),t]) (λN k=>?_) ?_
 .refine qI ((List.range C.ins.length).map λi=>D.int (i:Nat)) [.v (nH C),.v (.b a),.o (.l (((("" : Af)::pM C).map tx).map gD)),.o (.l []),.n] (λS h=>?_)
   (λi c=>∃ L t,L++pL (C.ins.drop i)=pL C.ins/\c=[.v (nH C),.v (.b a),.o (.l (((("" : Af)::pM C).map tx).map gD)),.o (.l (L.map gD)),t]) ⟨[],_,rfl,rfl⟩ ?_ ?_
  .refine⟨rfl,_,rfl,rfl,C.ins.length,by show some (C.ins.map D.str).length=_;rw[aA],by omega,by omega,?_⟩;rw[cI,Fg];exact h
  .rintro i d _ hd ⟨L,t,u,rfl⟩;obtain⟨j,O,rfl⟩:=qP hd;have G:i<C.ins.length:=by
    have:=(aG.mp O).1
    rwa [bZ] at this
   rw[jZ G] at O;cases O;have y:=Ks C.ins i;rw[aF G] at y;dsimp only at y;have J:L.length+(pL (C.ins.drop i)).length=(pL C.ins).length:=by rw[<- aZ,u]
   have pl:=cK List.length y;rw[aZ,aA] at pl;unfold rQ;refine⟨rfl,?_⟩;refine rA (C.ins.drop (i+1)) D.str (λz=>gD (tp C.ins[i] z)) [.v (nH C),.v (.b a),.o (.l (((("" : Af)::pM C).map tx).map gD)),.o (.l (L.map gD)),.v (.int (i:Nat))] (λS h=>?_) (by rw[cW];omega) (λj x ys Y e B F=>?_) ?_
   .refine⟨rfl,_,rfl,rfl,?_,?_⟩
    .rintro ⟨z,_⟩;have:HT.sIx (C.ins.map D.str).length 0 (some ((i+1:Nat):Int))=0:=z;rw[HT.sIx_nat,aA] at this;omega
    .show S (wF (C.ins.map D.str) (some ((i:Int)+1)) none) _;have:=Uk D.str C.ins (i+1);rw[show (((i+1:Nat):Int))=(i:Int)+1 from rfl] at this;rw[this];exact h
   .exact⟨rfl,_,rfl,D.str C.ins[i],wY (j:=i) (v:=D.str C.ins[i]) (by rw[aU,aF G];rfl),by show 2<=1000;decide,B,F⟩
   .refine⟨?_,L++(C.ins.drop (i+1)).map (tp C.ins[i]),.v (.int (i:Nat)),?_,?_⟩
    .show (L.map gD).length+(List.map (λz=>gD (tp C.ins[i] z)) (List.drop (i+1) C.ins)).length<=100000;rw[aA,aA];omega
    .rw[bI,<- y];exact u
    .have:L.map gD++List.map (λz=>gD (tp C.ins[i] z)) (List.drop (i+1) C.ins)=(L++(C.ins.drop (i+1)).map (tp C.ins[i])).map gD:=by
      rw[bF,bB (g:=gD)];rfl
     rw[<- this];rfl
  .rintro _ ⟨L,t,u,rfl⟩;rw[aA,bZ,mP] at u;have e:L=pL C.ins:=by simpa [pL] using u
   subst e;exact k _ ⟨_,rfl⟩
 rintro _ ⟨t,rfl⟩;refine nG (λc=>∃ X,c=[.v (nH C),.v (.b a),.o (.l ((oW C a).map gD)),X,t]) (λN k=>?_) ?_
 .cases a with
  | false =>
   refine⟨rfl,_,rfl,k _ ⟨.o (.l ((pL C.ins).map gD)),?_⟩⟩;unfold oW;rw[aI (by decide),dN]
  | true =>
   refine⟨rfl,_,rfl,?_⟩;refine⟨rfl,?_,k _ ⟨.v (.l ((pL C.ins).map gD)),?_⟩⟩
   .show (List.map gD (List.map tx (("" : Af)::pM C))).length+((pL C.ins).map gD).length<=100000;rw[aA,aA,bS,aA];omega
   .have:List.map gD (List.map tx (("" : Af)::pM C))++(pL C.ins).map gD=(oW C true).map gD:=by
     unfold oW;rw[aP rfl,bF]
    rw[<- this];rfl
 rintro _ ⟨X,rfl⟩;exact Q
end
def oS (C:Cel) (g:Bool):Aa (Aa Int):=(List.range (2 ^ C.ins.length)).map λn=>(oW C g).map (tv (uB C (tM C.ins.length n)))
def Sh:RD:=λc a b=>∃ C,a=[nH C,.l ((nC C).map gD)]/\GCq C/\b (.o (.l ((oS C true).map ln)))
structure KnT (C:Cel) (u:Str->Int) (ts:List MK) (n:Nat) (d:D):Prop where
 k:(∃ kvs:List (hG×D),d = .k kvs/\kvs.length<=n)\/∃ kvs:List (MK×D),d = .dM kvs/\kvs.length<=n
 nm:∀ x:Str,x = "" \/ x∈C.ins++C.outs->tX d (.str x)=some (some (.int (u x)))
 th:∀ t∈ts,tX d (gD t)=some (some (.int (tv u t)))
theorem Ej {t:MK}(h:yM t):vK (gD t)=some t:=by
 rcases h with⟨x,rfl⟩ | ⟨a,b,rfl⟩<;>rfl
theorem Up (g:Aa (hG×D)) (j:hG):nK (g.map λp=>((Sum.inl p.1:MK),p.2)) (.inl j)=nK g j:=by
 induction g with
 | nil=>rfl
 | cons p g a =>
  rw[aO,sB,a];show _=nK ((p.1,p.2)::g) j;rw[sB];by_cases e:p.1=j
  .rw[aP (by rw[e]),aP e]
  .rw[aI λz=>e (kR z),aI e]
theorem KnT.put {C:Cel}{u:Af->Int}{j:Aa MK}{n:Nat}{d:D}(h:KnT C u j n d) (o:n<1000) (g:∀ t∈j,yM t){a b:Af} :
  ∃ l,xT d (gD (tp a b)) (.int (u a*u b))=some l/\KnT C u (j++[tp a b]) (n+1) l:=by
 have fin:∀ {f:Aa (MK×D)},f.length<=n->(∀ x:Af,x = "" \/ x∈C.ins++C.outs->nK f (tx x)=some (.int (u x)))->(∀ t∈j,t≠tp a b->nK f t=some (.int (tv u t)))->KnT C u (j++[tp a b]) (n+1) (.dM (oA f (tp a b) (.int (u a*u b)))):=λ{f} q s v=>by
  refine⟨.inr ⟨_,rfl,bD (zQ f _ _) (by omega)⟩,λx m=>?_,λt i=>?_⟩
  .show some (nK (oA f (tp a b) _) (tx x))=_;rw[zP,aI (λz=>by cases z),s x m]
  .have w:yM t:=by
    rcases aQ.mp i with i | i
    .exact g t i
    .exact .inr ⟨a,b,aM.mp i⟩
   show (vK (gD t)).map (nK (oA f (tp a b) _))=_;rw[Ej w];show some (nK (oA f (tp a b) _) t)=_;rw[zP];by_cases e:tp a b=t
   .rw[aP e,<- e];rfl
   .rw[aI e,v t ?_ λz=>e z.symm];rcases aQ.mp i with i | i
    .exact i
    .exact absurd (aM.mp i).symm e
 rcases h.k with⟨f,rfl,q⟩ | ⟨f,rfl,q⟩
 .refine⟨.dM (oA (f.map λp=>((Sum.inl p.1:MK),p.2)) (tp a b) (.int (u a*u b))),?_,fin (by rw[aA];exact q) (λx m=>?_) λt i ne=>?_⟩
  .show (if f.length<100000 then _ else none)=_;rw[aP (by omega)];rfl
  .rw[Up];exact bR (h.nm x m)
  .have:=h.th t i;rcases g t i with⟨x,rfl⟩ | ⟨c,e,rfl⟩
   .rw[Up];exact bR this
   .cases this
 .refine⟨.dM (oA f (tp a b) (.int (u a*u b))),?_,fin q (λx m=>bR (h.nm x m)) λt i _=>?_⟩
  .show (if f.length<100000 then _ else none)=_;rw[aP (by omega)];rfl
  .have:=h.th t i;have e:tX (.dM f) (gD t)=some (nK f t):=by
    show (vK (gD t)).map (nK f)=_;rw[Ej (g t i)];rfl
   rw[e] at this;exact bR this
theorem KnT.text {C:Cel}{u:Af->Int}{g:Aa MK}{n:Nat}{d:D}(h:KnT C u g n d){x:Af}(j:x = "" \/ x∈C.ins++C.outs):KnT C u (g++[tx x]) (n+1) d:=by
 refine⟨h.k.imp (λ⟨k,e,l⟩=>⟨k,e,by omega⟩) λ⟨k,e,l⟩=>⟨k,e,by omega⟩,h.nm,λt a=>?_⟩;rcases aQ.mp a with a | a
 .exact h.th t a
 .rw[aM.mp a];exact h.nm x j
theorem KnT.ix {C:Cel}{u:Af->Int}{j:Aa MK}{n:Nat}{d e:D}{v:Int}{Φ:Sl->Prop}(h:KnT C u j n d) (g:tX d e=some (some (.int v))) (k:Φ (.v (.int v))):Gs d e Φ:=by
 rcases h.k with⟨a,rfl,_⟩ | ⟨a,rfl,_⟩<;>exact⟨_,g,k⟩
theorem AM {n:Nat}(h:n<=6):pA [D.int 1,.int 2,.int 4,.int 8,.int 16,.int 32,.int 64] (n:Int)=some (.int (2 ^ n:Nat)):=by
 rcases n with _ | _ | _ | _ | _ | _ | _ | n
 .rfl
 .rfl
 .rfl
 .rfl
 .rfl
 .rfl
 .rfl
 .omega
theorem MV:(["thing","known"]:Aa Af).Nodup:=by decide +kernel
section
variable {P:Ah}{K:mZ}
theorem C2:FnScope ["cell","things","rows","number","known","thing"] ["cell","things"] (nS Hj):=pO
theorem DW (T:Txt mg) (g:Kn P w K mg base 2 "_law_all_bits" Hg ["cell","bits"] Mn) (p:Kn P w K mg base 1 "_law_bits" Gh ["names","number"] Uv) :
  pQ P w K mg base 3 "_law_worths" Hj ["cell","things"] Sh:=by
 refine pZ C2 λf aj A ag s H E dk ds Φ hr F hR=>?_
 obtain⟨C,rfl,L,ac⟩:=hR;refine⟨_,(hO (nX 2 C2.nd (rM hH)) (hO (qL (Ak (by rfl) T.range (qF HE LX hV hV)) (nM 3 C2.nd) (nJ (pE (qT L9 Mo (pv 3) (vV F (rM (dK hV (dK hV (dK hV (dK hV (dK hV (dK hV (dK hV hH)))))))) (pC vM vW T.len cF (dK (nT F 0 hV) hH)))) (hO (nX 4 C2.nd (oV g hr (dK (cN 0) (dK (oV p hr (dK (nT F 0 hV) (dK (cN 3) hH))) hH)))) (hO (uP (n:=4) F hV (pv 4) rR) (hO (qL (oP (cN 1)) (nM 5 C2.nd) (nJ (pE (xW (pC (Cd K) (Dc (K:=K)) T.isinstance eD (dK (cN 5) (dK (Bi (by rfl) T.tuple eN) hH)))) (nJ (uP (n:=4) F (qF Iq Jo (nT F 4 (nT F 5 hV)) (nT F 4 (nT F 5 hV))) (pv 4) (cN 5))) pG))) (nJ (zD (Bk cC cZ dB wK Ef (pv 2) (dK (qB ["thing"] ["known"] [4] (oP (cN 1)) (λ_ _ _ _ _=>(nM 0 MV)) (λ_ _ _ _ _=>(nT F 1 (cN 0)))) hH))))))) pG))) (nJ (oC (wI 2 (pv 2)))))),?_⟩;have Y:=L.li;have hm:(nC C).length<=28:=Hc (pr:=true) L.li L.lo;refine nG (λy=>y=[.v (nH C),.v (.l ((nC C).map gD)),.o (.l []),.n,.n,.n]) (λN G=>⟨by show 0<=1000;decide,G _ rfl⟩) ?_;rintro _ rfl;refine nG (λy=>∃ R Q q,y=[.v (nH C),.v (.l ((nC C).map gD)),.o (.l ((oS C true).map ln)),R,Q,q]) (λN G=>?_) ?_
 .refine qI (sM 0 64) [.v (nH C),.v (.l ((nC C).map gD)),.o (.l []),.n,.n,.n] (λΨ h=>?_)
   (λi y=>∃ R Q q,y=[.v (nH C),.v (.l ((nC C).map gD)),.o (.l (((oS C true).take i).map ln)),R,Q,q]) ⟨_,_,_,rfl⟩ ?_ ?_
  .exact⟨⟨by decide,by decide,by decide⟩,by decide,by decide,h⟩
  .rintro i d _ hd ⟨R,Q,q,rfl⟩;obtain⟨ah,rfl⟩:=Nn hd;have wl:(oS C true).length=2 ^ C.ins.length:=by unfold oS;rw[List.length_map,List.length_range]
   have e7:pA [D.int 1,.int 2,.int 4,.int 8,.int 16,.int 32,.int 64] (C.ins.length:Int)=some (.int (2 ^ C.ins.length:Nat)):=AM Y;rw[lU];refine⟨rfl,by show 7<=1000;decide,rfl,_,rfl,rfl,C.ins.length,by show some (C.ins.map D.str).length=_;rw[aA],_,e7,?_⟩;refine Fk (λh=>?_) λh=>?_
   .have S:i<2 ^ C.ins.length:=by omega
    have hb:=Ur _ Y i S;refine nG (λy=>∃ B:Aa (hG×D),qU B C.names (rK C (look (C.ins.zip (tM C.ins.length i))))/\B.length<=200/\y=[.v (nH C),.v (.l ((nC C).map gD)),.o (.l (((oS C true).take i).map ln)),.v (.int (i:Nat)),.o (.k B),q]) (λN G=>?_) ?_
    .refine⟨rfl,_,rfl,C.ins,i,rfl,(bM.mp L.gc.nd).1,Y,λaf h0 l0=>⟨.inl rfl,?_⟩⟩;exact⟨C,af,_,rfl,L.gc,h0,λB J U=>⟨.inl rfl,G _ ⟨B,J,U,rfl⟩⟩⟩
    rintro _ ⟨B,aa,ak,rfl⟩;refine nG (λy=>∃ B:Aa (hG×D),(∀ x:Af,x = "" \/ x∈C.ins++C.outs->nK B (Sum.inr x)=some (.int (uB C (tM C.ins.length i) x)))/\B.length<=201/\y=[.v (nH C),.v (.l ((nC C).map gD)),.o (.l (((oS C true).take i).map ln)),.v (.int (i:Nat)),.o (.k B),q]) (λN G=>?_) ?_
    .refine⟨rfl,_,Bg (by omega),G _ ⟨_,λx W=>?_,bD (zQ B _ _) (by omega),rfl⟩⟩;rw[zP];unfold uB;by_cases e:x = ""
     .rw[aP (by rw[e]),aP e]
     .rw[aI (λz=>e (gC z).symm),aI e];refine (aa x ?_).1;rcases aQ.mp (W.resolve_left e) with h | h
      .exact bK _ h
      .exact L.gc.os x h
    rintro _ ⟨O,hk,ai,rfl⟩;generalize V:uB C (tM C.ins.length i)=u at *;have I:∀ x:Af,x = "" \/ x∈C.ins++C.outs->Bit (u x):=λx W=>by
     rw[<- V];exact Lm L hb (W.imp_right λh=>(aQ.mp h).elim (bK _) (L.gc.os x))
    have ae:∀ t∈nC C,yM t:=λt M=>(xK M).1
    refine nG (λy=>∃ q d,KnT C u (nC C) 300 d/\y=[.v (nH C),.v (.l ((nC C).map gD)),.o (.l (((oS C true).take i).map ln)),.v (.int (i:Nat)),.o d,q]) (λN G=>?_) ?_
    .refine qI ((nC C).map gD) [.v (nH C),.v (.l ((nC C).map gD)),.o (.l (((oS C true).take i).map ln)),.v (.int (i:Nat)),.o (.k O),q] (λΨ h=>h)
      (λj y=>∃ q d,KnT C u ((nC C).take j) (250+j) d/\y=[.v (nH C),.v (.l ((nC C).map gD)),.o (.l (((oS C true).take i).map ln)),.v (.int (i:Nat)),.o d,q]) ⟨_,_,⟨.inl ⟨O,rfl,by omega⟩,λx W=>by show some (nK O (Sum.inr x))=_;rw[hk x W],λ_ h=>by simp at h⟩,rfl⟩ ?_ ?_
     .rintro j dd _ hd ⟨q,d,m,rfl⟩;obtain⟨t,M,rfl⟩:=qP hd;have ab:=aK M;have hj:j<(nC C).length:=(aG.mp M).1;have Z:(nC C).take (j+1)=(nC C).take j++[t]:=by rw[bP,M];rfl
      obtain⟨it,im⟩:=xK ab;rcases it with⟨x,rfl⟩ | ⟨a,c,rfl⟩
      .refine⟨"str",false,rfl,rfl,rfl,_,rfl,.v (.str x),d,?_,rfl⟩;rw[Z];exact m.text (im x aE)
      .have ha:=im a aE;have hc:=im c (aJ _ aE);obtain⟨d',e1,e2⟩:=m.put (by omega) (λt M=>ae t (gI M)) (a:=a) (b:=c);refine⟨"tuple",true,rfl,rfl,rfl,_,rfl,?_⟩;refine⟨rfl,rfl,.str a,rfl,?_⟩;refine m.ix (m.nm a ha) ⟨rfl,rfl,.str c,rfl,m.ix (m.nm c hc) ⟨?_,rfl,d',e1,.v (gD (tp a c)),d',by rw[Z];exact e2,rfl⟩⟩;left;rcases I a ha with e | e<;>rw[e]<;>decide
     .rintro _ ⟨q,d,m,rfl⟩;rw[aA,cL] at m;exact G _ ⟨_,d,⟨m.k.imp (λ⟨k,e,l⟩=>⟨k,e,by omega⟩) λ⟨k,e,l⟩=>⟨k,e,by omega⟩,m.nm,m.th⟩,rfl⟩
    rintro _ ⟨X,d,m,rfl⟩;refine⟨rfl,?_⟩;refine rA (nC C) gD (λt=>.int (tv u t)) [.v (nH C),.v (.l ((nC C).map gD)),.o (.l (((oS C true).take i).map ln)),.v (.int (i:Nat)),.o d,X] (λΨ h=>h) (by omega) (λj t ys Nx e J U=>?_) ?_
    .exact⟨rfl,m.ix (Φ:=λr=>match sd r with | some c=>ys.length<100000/\Nx (ys++[c]) [.o d] | none=>False) (m.th t (aK e)) ⟨J,U⟩⟩
    .have Z:((oS C true).take (i+1)).map ln=((oS C true).take i).map ln++[.l ((nC C).map λt=>.int (tv u t))]:=by
      have:(oS C true)[i]?=some ((nC C).map (tv u)):=by rw[<- V];unfold oS;rw[List.getElem?_map,List.getElem?_range S];rfl
      rw[bP,this,bF];show _++[D.l (((nC C).map (tv u)).map D.int)]=_;rw[bB];rfl
     refine⟨?_,.v (.int (i:Nat)),.o d,X,?_⟩
     .show (List.map ln _).length<100000;rw[aA,bO];omega
     .rw[Z];rfl
   .refine⟨.v (.int (i:Nat)),Q,q,?_⟩;rw[bJ (by omega),bJ (by omega)];rfl
  .rintro _ ⟨R,Q,q,rfl⟩;have wl:(oS C true).length=2 ^ C.ins.length:=by unfold oS;rw[List.length_map,List.length_range]
   have:=Cy Y;rw[bJ (by rw[show (sM 0 64).length=64 from rfl];omega)];exact G _ ⟨_,_,_,rfl⟩
 rintro _ ⟨R,Q,q,rfl⟩;exact ac
end
end Lw
namespace EQ
theorem F5 {s:Nat}(a b:Int):∀ (c d:Aa Int) (V:Aa (Nat->Int)),c.length=d.length->cb (List.zipWith (λx y=>a*x-b*y) c d) V s=a*cb c V s-b*cb d V s
 | [],[],_,_=>by simp[cb]
 | _::_,_::_,[],_=>by simp[cb]
 | x::c,y::d,v::V,h=>by
  simp only[lG,cb];rw[F5 a b c d V (by simpa using h),mY,jC,jC,dD,dD];omega
theorem Il {s:Nat}:∀ (c:Aa Int) (V:Aa (Nat->Int)),(∀ x∈c,x=0)->cb c V s=0
 | [],_,_=>by simp[cb]
 | _::_,[],_=>by simp[cb]
 | x::c,v::V,h=>by
  simp only[cb];rw[h x (by simp),Il c V λy a=>h y (by simp[a])];simp
structure LInv (left:List (List Int)) (t:List (List Int)) (Z:List Nat):Prop where
 len:t.length=Z.length
 bit:∀ x∈t,Bit x
 ind:∀ c:List Int,c.length=t.length->(∀ z∈Z,cb c (t.map ix) z=0)->∀ x∈c,x=0
 zer:∀ r∈left,∀ z∈Z,ix r z=0
 prm:∀ r∈left,vP r
 frm:∀ r∈left,∃ v,Bit v/\∃ (D a:Int) (b:List Int),D≠0/\a≠0/\b.length=t.length/\∀ s,D*ix r s=a*ix v s+cb b (t.map ix) s
theorem LInv.small {left t:Aa (Aa Int)}{Z:Aa Nat}(L:LInv left t Z){r:Aa Int}(g:r∈left){M:Nat}(j:t.length<M):Le (M*M ^ M) r:=by
 rcases L.prm r g with g1 | I
 case inr=>exact .of_ix λs=>by rw[I s];exact cE _
 obtain⟨v,o,D,a,b,O,P,bl,Y⟩:=L.frm r g;have G:∀ x∈v::t,Bit x:=λx d=>by
  cases d with
  | head=>exact o
  | tail _ d=>exact L.bit x d
 have f:((v::t).map λb s=>(ix b s).toNat).length=t.length+1:=by rw[aA];rfl
 obtain⟨c,cl,⟨x,d,n⟩,Q,B⟩:=EQ.small (V:=(v::t).map λb s=>(ix b s).toNat) (Z:=Z) (N:=M ^ M)
  (λu F z _=>by
   obtain⟨y,m,rfl⟩:=aN.mp F;show (ix y z).toNat<=1;rcases (G y m).ix z with e | e<;>rw[e]<;>decide)
  (by rw[f,<- L.len];exact O4 (k:=t.length+1) j (mT _))
 have W:(((v::t).map λb s=>(ix b s).toNat).map λv s=>(v s:Int))=(v::t).map ix:=by
  rw[bB];exact gR λy m=>by
   funext s
   show (((ix y s).toNat:Nat):Int)=ix y s;rcases (G y m).ix s with e | e<;>rw[e]<;>rfl
 rw[W] at B;rw[f] at cl;have K:∀ s,(cb c ((v::t).map ix) s).natAbs<=M*M ^ M:=λs=>by
  have:=Jg (z:=s) (N:=M ^ M) c ((v::t).map ix) Q λu F=>by
   obtain⟨y,m,rfl⟩:=aN.mp F;rcases (G y m).ix s with e | e<;>rw[e]<;>decide
  rw[aA,bS] at this;exact bD this (iI _ j)
 cases c with
 | nil=>cases d
 | cons q c =>
 have h:c.length=t.length:=by simpa using cl
 simp only[aO,cb] at B K;have C:q≠0:=λe=>by
  have X:=L.ind c h λz E=>by have:=B z E;rw[e,fR,lU] at this;exact this
  cases d with
  | head=>exact n e
  | tail _ d=>exact n (X x d)
 have key:∀ s,a*(q*ix v s+cb c (t.map ix) s)=q*D*ix r s:=λs=>by
  have A:=λs=>F5 (s:=s) a q c b (t.map ix) (h.trans bl.symm)
  have expand:∀ s,a*cb c (t.map ix) s-q*cb b (t.map ix) s=a*(q*ix v s+cb c (t.map ix) s)-q*D*ix r s:=λs=>by
   rw[dD q D,Y s,jC,jC,eM a q];omega
  have z:=L.ind (List.zipWith (λx y=>a*x-q*y) c b) (by rw[eL,h,bl,lV]) λz E=>by
   rw[A,expand,B z E,L.zer r g z E];simp
  have S:=A s;rw[Il _ _ z,expand] at S;omega
 have R:a ∣ q*D:=by
  have d1:a.natAbs ∣ gc (r.map (q*D*·)):=G8 λy m=>by
   obtain⟨w,hw,rfl⟩:=aN.mp m;obtain⟨i,l,rfl⟩:=iN.mp hw;have e:ix r i=r[i]:=by unfold ix;rw[List.getD_eq_getElem?_getD,List.getElem?_eq_getElem l];rfl
   rw[<- e,<- key i];exact mL (Int.natAbs_dvd.mpr (Int.dvd_refl _)) (mI _ _)
  rw[P1,g1,Nat.mul_one] at d1;exact fZ.mp d1
 obtain⟨p,H⟩:=R;have J:p≠0:=λe=>fX C O (by rw[H,e,cD])
 refine .of_ix λs=>?_
 have e:q*ix v s+cb c (t.map ix) s=p*ix r s:=by
  have:=key s;rw[H,dD] at this;exact jU P this
 have:=K s;rw[e,eO] at this;exact bD (jH _ (by omega)) this
theorem LInv.nil {rows:Aa (Aa Int)}(h:∀ r∈rows,Bit r):LInv rows [] []:=by
 refine⟨rfl,λ_ h=>(nomatch h),λc b _ x d=>?_,λ_ _ _ h=>(nomatch h),λr a=>(h r a).prm,λr a=>⟨r,h r a,1,1,[],by decide,by decide,rfl,λs=>by simp[cb]⟩⟩;cases c with
 | nil=>cases d
 | cons _ _=>cases b
theorem LInv.step {m k n:Nat}{left t:Aa (Aa Int)}{Z:Aa Nat}(L:LInv left t Z) (hm:∀ r∈left,r.length=m):∃ t' Z',t'.length<=t.length+1/\LInv (rk1 k (left,n)).1 t' Z':=by
 unfold rk1;cases hf:left.filter (λr=>decide (ix r k≠0)) with
 | nil=>exact⟨t,Z,jB _,L⟩
 | cons head tl =>
  have K:head∈left.filter (λr=>decide (ix r k≠0)):=hf▸aE;have j:=(bW.mp K).1;have h0:ix head k≠0:=by simpa using (bW.mp K).2
  have len:∀ r∈left,r.length=head.length:=λr A=>(hm r A).trans (hm head j).symm
  have I:∀ r∈told head k left,∃ x∈left,0<gc (off head k x)/\r=(off head k x).map (·/(gc (off head k x):Int)):=λr A=>by
   obtain⟨y,B,rfl⟩:=aN.mp A;obtain⟨B,V⟩:=bW.mp B;obtain⟨x,d,rfl⟩:=aN.mp B;exact⟨x,d,by simpa using V,rfl⟩
  obtain⟨J,C,i,O,S,N,aa,q,W⟩:=L.frm head j;refine⟨t++[J],Z++[k],by rw[aZ];exact aR _,⟨by rw[aZ,aZ,L.len];rfl,λx d=>?_,λc o M=>?_,λr A z M=>?_,λr A=>?_,λr A=>?_⟩⟩
  .rcases aQ.mp d with d | d
   .exact L.bit x d
   .rw[aM.mp d];exact C
  .have Y:c≠[]:=λe=>by rw[e,aZ] at o;simp at o
   obtain⟨E,x,rfl⟩:∃ E x,c=E++[x]:=⟨c.dropLast,c.getLast Y,(lS Y).symm⟩;have w:E.length=t.length:=by simpa using o
   have g:∀ z∈Z++[k],cb E (t.map ix) z+x*ix J z=0:=λz h=>by
    have:=M z h;rw[bF,jG,Ev _ _ (by rw[w,aA])] at this;exact this
   have F:∀ z∈Z++[k],cb (List.zipWith (λu y=>O*u-x*y) E S) (t.map ix) z = -(x*(i*ix head z)):=λz f=>by
    rw[F5 O x E S _ (w.trans q.symm),W z,jC];have:=cK (O*·) (g z f);simp only[jC,cD] at this;rw[eM O x] at this;omega
   have zz:=L.ind (List.zipWith (λu y=>O*u-x*y) E S) (by rw[eL,w,q,lV]) λz f=>by
    rw[F z (bK _ f),L.zer head j z f];simp
   have x0:x=0:=by
    have:=F k (by simp);rw[Il _ _ zz] at this;have e:x*(i*ix head k)=0:=by omega
    exact (cP.mp e).resolve_right (fX N h0)
   intro y B;rcases aQ.mp B with B | B
   .refine L.ind E w (λz f=>?_) y B;have:=g z (bK _ f);rw[x0,fR,Int.add_zero] at this;exact this
   .rw[aM.mp B];exact x0
  .obtain⟨x,d,V,rfl⟩:=I r A;have e:ix (off head k x) z=0:=by
    rw[Fj (len x d)];rcases aQ.mp M with M | M
    .rw[L.zer x d z M,L.zer head j z M];simp
    .rw[aM.mp M,iM];exact mR _
   have:=Gm V z;rw[e] at this;exact (cP.mp this).resolve_left (by omega)
  .obtain⟨x,d,V,rfl⟩:=I r A;have:=Ls (l:=off head k x) (by omega);unfold wd at this;rw[iY (by omega)] at this;exact .inl this
  .obtain⟨x,d,V,rfl⟩:=I r A;obtain⟨v,hv,D,a,b,D0,a0,bl,hb⟩:=L.frm x d;refine⟨v,hv,gc (off head k x)*(D*i),ix head k*i*a,List.zipWith (λu y=>ix head k*i*u-ix x k*D*y) b S++[-(ix x k*D*O)],fX (by omega) (fX D0 N),fX (fX h0 N) a0,by simp[bl,q],λs=>?_⟩;rw[bF,jG,Ev _ _ (by simp[bl,q]),F5 _ _ b S _ (bl.trans q.symm)];have U:=Gm V s;rw[Fj (len x d)] at U;have e2:=hb s;have e3:=W s;generalize ix ((off head k x).map (·/(gc (off head k x):Int))) s=R at *;generalize (gc (off head k x):Int)=G at *;generalize ix head k=H at *;generalize ix x k=X at *;generalize ix x s=T at *;generalize ix head s=p at *;generalize ix v s=vs at *;generalize ix J s=ws at *;generalize cb b (t.map ix) s=P at *;generalize cb S (t.map ix) s=Q at *;have f1:G*(D*i)*R=D*i*(H*T-X*p):=by rw[<- U];simp only[iM,eM]
   have f2:D*i*(H*T-X*p)=H*i*(D*T)-X*D*(i*p):=by rw[Int.mul_sub];simp only[iM,eM]
   rw[f1,f2,e2,e3,jC,jC,mH,dD (H*i) a,dD (X*D) O];omega
end EQ
namespace Lw
open PySem L2
def CR:Nat:=2 ^ 150
theorem GX {m:Nat}(h:m<=28):(m+1)*(m+1) ^ (m+1)<=CR:=by
 have:∀ m≤28,(m+1)*(m+1) ^ (m+1)<=CR:=by decide +kernel
 exact this m h
theorem NA:CR<BM:=by decide +kernel
theorem AX:2*CR*CR<BD:=by decide +kernel
abbrev tA (rows:Aa (Aa Int)) (k:Nat):Aa (Aa Int)×Nat:=(List.range k).foldl (λst k=>EQ.rk1 k st) (rows,0)
theorem AS {m:Nat}{rows:Aa (Aa Int)}(g:m<=28) (h:∀ r∈rows,r.length=m/\EQ.Bit r):∀ k,k<=m->(∀ r∈(tA rows k).1,r.length=m)/\(∃ t Z,t.length<=k/\EQ.LInv (tA rows k).1 t Z)/\∀ r∈(tA rows k).1,EQ.Le CR r:=by
 have len:∀ k,∀ r∈(tA rows k).1,r.length=m:=λk=>by
  obtain⟨P,I,_⟩:=EQ.rank_inv (m:=m) (K:=λw=>∀ r∈rows,EQ.dot m r w=0) (λr a=>(h r a).1) (λ_=>Iff.rfl) k;exact I.len
 have b:∀ k,∃ t Z,t.length<=k/\EQ.LInv (tA rows k).1 t Z:=λk=>by
  induction k with
  | zero=>exact⟨[],[],aR _,EQ.LInv.nil λr a=>(h r a).2⟩
  | succ k q =>
   obtain⟨t,Z,f,L⟩:=q;obtain⟨s,d,i,c⟩:=L.step (k:=k) (n:=(tA rows k).2) (len k);refine⟨s,d,by omega,?_⟩;have e:tA rows (k+1)=EQ.rk1 k (tA rows k):=by
    show (List.range (k+1)).foldl _ _=_;rw[mW,dR];rfl
   rw[e];exact c
 intro k hk;refine⟨len k,b k,λr a=>?_⟩;obtain⟨t,Z,f,L⟩:=b k;exact (L.small a (M:=m+1) (by omega)).mono (GX g)
theorem Ud (head:Aa Int) (k:Nat) (left:Aa (Aa Int)):(EQ.told head k left).length<=left.length:=by
 unfold EQ.told;rw[aA];refine bD (dJ _ _) ?_;rw[aA];exact aR _
theorem Vk (k:Nat) (st:Aa (Aa Int)×Nat):(EQ.rk1 k st).1.length<=st.1.length:=by
 unfold EQ.rk1;cases st.1.filter λr=>decide (EQ.ix r k≠0) with
 | nil=>exact aR _
 | cons h _=>exact Ud h k st.1
theorem Rx (rows:Aa (Aa Int)) (k:Nat):tA rows (k+1)=EQ.rk1 k (tA rows k):=by
 show (List.range (k+1)).foldl _ _=_;rw[mW,dR];rfl
theorem Tf (rows:Aa (Aa Int)):∀ k,(tA rows k).1.length<=rows.length
 | 0=>aR _
 | k+1=>by rw[Rx];exact bD (Vk k _) (Tf rows k)
theorem Em {r:Aa Ad}{g:Aa Sl}{i:Nat}{s:Sl}{d:D}{p:Sl->Aa Sl->Prop}(h:g[i]?=some s) (l:sd s=some d) (k:p (.v d) (g.set i (.v d))):vd i r g p:=by
 unfold vd;rw[h];cases s with
 | n=>cases l
 | o c=>cases l;exact k
 | v c =>
  cases l;have:g.set i (.v d)=g:=by
   apply gO;intro j;rw[fQ];by_cases z:i=j
   .subst z;rw[aP rfl,aP (aG.mp h).1];exact h.symm
   .rw[aI z]
  rw[this] at k;exact k
theorem Wi {p:Aa Ad}{g:Aa Sl}{i:Nat}{s:Sl}{j:Aa D}{o:Bool->Aa Sl->Prop}(h:g[i]?=some s) (r:sd s=some (.l j)) (k:o (!j.isEmpty) g):uX (xC (Hh true) i (Oa Ra)) p g o:=by
 have e:at? g i=some (.l j):=by unfold at?;rw[h];exact r
 refine⟨by rw[e];rfl,by show 0<=1000;decide,?_⟩;dsimp only[sd];rw[e];exact k
abbrev vN (head:Aa Int) (k:Nat) (left:Aa (Aa Int)) (i:Nat):Aa (Aa Int):=EQ.told head k (left.take i)
theorem Yf {head:Aa Int}{k:Nat}{left:Aa (Aa Int)}{i:Nat}{r:Aa Int}(h:left[i]?=some r):vN head k left (i+1)=vN head k left i++(if 0<EQ.gc (EQ.off head k r) then [(EQ.off head k r).map (·/(EQ.gc (EQ.off head k r):Int))] else []):=by
 unfold vN EQ.told;rw[bP,h,bF,lZ,bF]
 congr 1
 show List.map _ (List.filter _ [EQ.off head k r])=_;by_cases q:0<EQ.gc (EQ.off head k r)
 .rw[aP q,fH (by simpa using q)];rfl
 .rw[aI q,gL (by simpa using q)];rfl
def Ou:RD:=λc a b=>∃ (rows:Aa (Aa Int)) (m:Nat),a=[.l (rows.map ln),.int m]/\rows.length<=64/\m<=28/\(∀ r∈rows,r.length=m/\EQ.Bit r)/\b (.v (.int (EQ.rank m rows:Nat)))
theorem DV:(["row"]:Aa Af).Nodup:=by decide +kernel
theorem AL:(["row","at"]:Aa Af).Nodup:=by decide +kernel
theorem Md:(["one","other","head","at","row"]:Aa Af).Nodup:=by decide +kernel
theorem FD:(["number","by"]:Aa Af).Nodup:=by decide +kernel
section
variable {P:Ah}{K:mZ}
theorem uC:FnScope ["rows","many","left","rank","at","some","head","told","row","by"] ["rows","many"] (nS Ga):=pO
theorem IP (T:Txt mg) (g:Kn P w K mg base 1 "_law_divisor" Au ["row"] An):pQ P w K mg base 2 "_law_rank" Ga ["rows","many"] Ou:=by
 refine pZ uC λf ae A ac s H E dk ds Φ V I hR=>?_
 obtain⟨rows,m,rfl,hl,C,X,ab⟩:=hR;refine⟨_,(hO (Fc 2 ["row"] [] [] uC.nd (oP (cN 0)) (λ_ _ _ _ _=>(nM 0 DV)) (λ_ _ _ _ _=>(uG Et Ir T.list fS (dK (cN 0) hH)))) (hO (nX 3 uC.nd hV) (hO (qL (Ak (by rfl) T.range (cN 1)) (nM 4 uC.nd) (hO (Fc 5 ["row"] ["at"] [4] uC.nd (oP (cN 2)) (λ_ _ _ _ _=>(nM 0 AL)) (λ_ _ _ _ _=>(cN 0)) (ht:=λ_ _ _ _ _=>(vS (sZ (uE V.units) (pF true) (nT I 0 (cN 1)) hV)))) (nJ (pE (qT (uE V.units) (pF true) (pv 5) (rM hH)) (hO (nX 6 uC.nd (nT I 5 hV)) (hO (nX 3 uC.nd (sP tU tV 3 hV)) (hO (nX 7 uC.nd (rM hH)) (hO (qL (oP (cN 2)) (nM 8 uC.nd) (hO (nX 8 uC.nd (qB ["one","other"] ["head","at","row"] [6,4,8] (Ll (by rfl) T.zip (dK (cN 8) (dK (cN 6) hH))) (λ_ _ _ _ _=>(yE (n:=2) rfl (rD (nM 0 Md) (rD (nM 1 Md) xO)))) (λ_ _ _ _ _=>(qF Bb E7 (qF yV yR (nT I 2 (cN 3)) (cN 0)) (qF yV yR (nT I 4 (cN 3)) (cN 1)))))) (hO (nX 9 uC.nd (oV g V (dK (cN 8) hH))) (nJ (pE (qT L0 Lv (pv 9) hV) (nJ (zD (Bk cC cZ dB wK Ef (pv 7) (dK (qB ["number"] ["by"] [9] (oP (cN 8)) (λ_ _ _ _ _=>(nM 0 FD)) (λ_ _ _ _ _=>(sP Fm Fa 0 (cN 1)))) hH)))) pG))))) (nJ (nX 2 uC.nd (cN 7))))))) pG)))) (nJ (oC (cN 3)))))),?_⟩;refine nG (λa=>a=[.v (.l (rows.map ln)),.v (.int m),.o (.l (rows.map ln)),.n,.n,.n,.n,.n,.n,.n]) (λN c=>?_) ?_
 .unfold rQ;exact rA rows ln ln [.v (.l (rows.map ln)),.v (.int m),.n,.n,.n,.n,.n,.n,.n,.n] (λY h=>h) (by omega) (λi x U Z e L M=>⟨_,rfl,L,M⟩) (c _ rfl)
 rintro _ rfl;refine nG (λa=>a=[.v (.l (rows.map ln)),.v (.int m),.o (.l (rows.map ln)),.v (.int 0),.n,.n,.n,.n,.n,.n]) (λN c=>c _ rfl) ?_;rintro _ rfl;refine nG (λa=>∃ Q S B G z u b,a=[.v (.l (rows.map ln)),.v (.int m),Q,.v (.int (EQ.rank m rows:Nat)),S,B,G,z,u,b]) (λN c=>?_) ?_
 .refine qI ((List.range m).map λi=>D.int (i:Nat)) [.v (.l (rows.map ln)),.v (.int m),.o (.l (rows.map ln)),.v (.int 0),.n,.n,.n,.n,.n,.n] (λY h=>?_)
   (λk a=>∃ Q S B G z u b,a=[.v (.l (rows.map ln)),.v (.int m),Q,.v (.int ((tA rows k).2:Nat)),S,B,G,z,u,b]/\sd Q=some (.l ((tA rows k).1.map ln))) ⟨_,_,_,_,_,_,_,rfl,rfl⟩ ?_ ?_
  .refine⟨by omega,by omega,?_⟩;rw[cI,Fg];exact h
  .rintro k d _ hd ⟨Q,S,B,G,z,u,b,rfl,hs⟩;obtain⟨j,hj,rfl⟩:=qP hd;have hk:k<m:=by
    have:=(aG.mp hj).1
    rwa [bZ] at this
   rw[jZ hk] at hj;cases hj;obtain⟨len,_,small⟩:=AS C X k (dX hk);have ll:=Tf rows k;rw[Rx];generalize tA rows k=st at *;obtain⟨left,n⟩:=st;dsimp only at len small ll hs;have J:∀ r∈left,zX r:=λr V x hx=>bG (small r V x hx) NA
   refine nG (λa=>a=[.v (.l (rows.map ln)),.v (.int m),.v (.l (left.map ln)),.v (.int (n:Nat)),.v (.int (k:Nat)),.o (.l ((left.filter λr=>decide (EQ.ix r k≠0)).map ln)),G,z,u,b]) (λN c=>?_) ?_
   .unfold rQ;refine uT left ln ln (λr=>decide (EQ.ix r k≠0)) [.v (.l (rows.map ln)),.v (.int m),.v (.l (left.map ln)),.v (.int (n:Nat)),.v (.int (k:Nat)),B,G,z,u,b] (λY h=>Em (d:=.l (left.map ln)) (by rfl) hs h) (by omega) (λi x U Z e L M h3=>?_) (c _ rfl);refine⟨rfl,_,uJ (by rw[len x (aK e)];exact hk),wU (λh=>⟨L,M (by simpa using h)⟩) λh=>h3 (by simpa using h)⟩
   rintro _ rfl;unfold zG;refine Wi (by rfl) rfl ?_;unfold EQ.rk1;dsimp only;cases hf:left.filter (λr=>decide (EQ.ix r k≠0)) with
   | nil=>rw[aI (by decide)];exact⟨_,_,_,_,_,_,_,rfl,rfl⟩
   | cons head tl =>
    rw[aP (show (!((head::tl).map ln).isEmpty)=true from rfl)];have O:head∈left:=by
     have:head∈left.filter λr=>decide (EQ.ix r k≠0):=by rw[hf];exact aE
     exact (bW.mp this).1
    refine nG (λa=>∃ B,a=[.v (.l (rows.map ln)),.v (.int m),.v (.l (left.map ln)),.v (.int (n:Nat)),.v (.int (k:Nat)),B,.v (ln head),z,u,b]) (λN c=>⟨rfl,_,wY (j:=0) rfl,c _ ⟨_,rfl⟩⟩) ?_;rintro _ ⟨q,rfl⟩;refine nG (λa=>a=[.v (.l (rows.map ln)),.v (.int m),.v (.l (left.map ln)),.v (.int ((n+1:Nat):Int)),.v (.int (k:Nat)),q,.v (ln head),z,u,b]) (λN c=>⟨rfl,c _ rfl⟩) ?_;rintro _ rfl;refine nG (λa=>a=[.v (.l (rows.map ln)),.v (.int m),.v (.l (left.map ln)),.v (.int ((n+1:Nat):Int)),.v (.int (k:Nat)),q,.v (ln head),.o (.l []),u,b]) (λN c=>⟨by show 0<=1000;decide,c _ rfl⟩) ?_;rintro _ rfl;refine nG (λa=>∃ u b,a=[.v (.l (rows.map ln)),.v (.int m),.v (.l (left.map ln)),.v (.int ((n+1:Nat):Int)),.v (.int (k:Nat)),q,.v (ln head),.o (.l ((EQ.told head k left).map ln)),u,b]) (λN c=>?_) ?_
    .refine qI (left.map ln) [.v (.l (rows.map ln)),.v (.int m),.v (.l (left.map ln)),.v (.int ((n+1:Nat):Int)),.v (.int (k:Nat)),q,.v (ln head),.o (.l []),u,b] (λY h=>h)
      (λi a=>∃ u b,a=[.v (.l (rows.map ln)),.v (.int m),.v (.l (left.map ln)),.v (.int ((n+1:Nat):Int)),.v (.int (k:Nat)),q,.v (ln head),.o (.l ((vN head k left i).map ln)),u,b]) ⟨_,_,rfl⟩ ?_ ?_
     .rintro i d _ hd ⟨u,b,rfl⟩;obtain⟨r,W,rfl⟩:=qP hd;have y:=aK W;have F:r.length=head.length:=(len r y).trans (len head O).symm;refine nG (λa=>∃ R,a=[.v (.l (rows.map ln)),.v (.int m),.v (.l (left.map ln)),.v (.int ((n+1:Nat):Int)),.v (.int (k:Nat)),q,.v (ln head),.o (.l ((vN head k left i).map ln)),R,b]/\sd R=some (ln (EQ.off head k r))) (λN c=>?_) ?_
      .unfold rQ;refine rA (r.zip head) (λp=>.t [.int p.1,.int p.2]) (λp=>.int (EQ.ix head k*p.1-EQ.ix r k*p.2)) [.v (.l (rows.map ln)),.v (.int m),.v (.l (left.map ln)),.v (.int ((n+1:Nat):Int)),.v (.int (k:Nat)),q,.v (ln head),.o (.l ((vN head k left i).map ln)),.v (ln r),b] (λY h=>⟨_,_,_,_,rfl,rfl,by rw[Ko];exact h⟩) (by rw[fE,len r y];omega) (λi x U Z e L M=>?_) (c _ ⟨_,rfl,?_⟩)
       .have C:=gQ (aK e);exact⟨rfl,rfl,rfl,_,uJ (by rw[len head O];exact hk),⟨J head O _ (EQ.ix_mem (by rw[len head O];exact hk)),J r y _ C.1⟩,rfl,_,uJ (by rw[len r y];exact hk),⟨J r y _ (EQ.ix_mem (by rw[len r y];exact hk)),J head O _ C.2⟩,L,M⟩
       .show some (D.l ((r.zip head).map λp=>D.int (EQ.ix head k*p.1-EQ.ix r k*p.2)))=_;have:(r.zip head).map (λp=>D.int (EQ.ix head k*p.1-EQ.ix r k*p.2))=(EQ.off head k r).map D.int:=by
         unfold EQ.off;rw[List.zip,jA,jA]
        rw[this]
      rintro _ ⟨R,rfl,aa⟩;have ol:(EQ.off head k r).length=m:=(EQ.off_len F).trans (len head O);have og:EQ.gc (EQ.off head k r)<BD:=bG (EQ.gc_le (EQ.off_le F (small head O) (small r y))) AX;rw[Yf W];generalize EQ.off head k r=o at *;have fl:(vN head k left i).length<=64:=by
       have:=Ud head k (left.take i);rw[bO] at this;show (EQ.told head k (left.take i)).length<=64;omega
      refine nG (λa=>a=[.v (.l (rows.map ln)),.v (.int m),.v (.l (left.map ln)),.v (.int ((n+1:Nat):Int)),.v (.int (k:Nat)),q,.v (ln head),.o (.l ((vN head k left i).map ln)),.v (ln o),.v (.int (EQ.gc o:Nat))]) (λN c=>?_) ?_
      .unfold rQ zK aC;refine Em (d:=ln o) (by rfl) aa ?_;exact⟨o,rfl,.inl rfl,c _ rfl⟩
      rintro _ rfl;refine⟨rfl,Fk (λh=>?_) λh=>?_⟩
      .have g0:0<EQ.gc o:=by omega
       rw[aP g0];refine⟨rfl,?_⟩;refine rA o D.int (λx=>.int (x/(EQ.gc o:Int))) [.v (.l (rows.map ln)),.v (.int m),.v (.l (left.map ln)),.v (.int ((n+1:Nat):Int)),.v (.int (k:Nat)),q,.v (ln head),.o (.l ((vN head k left i).map ln)),.v (ln o),.v (.int (EQ.gc o:Nat))] (λY h=>h) (by omega) (λi x U Z e L M=>?_) ?_
       .refine⟨rfl,⟨by omega,by rw[hU];exact og⟩,L,?_⟩;show Z (U++[.int (x.fdiv (EQ.gc o:Int))]) _;rw[fP _ (by omega)];exact M
       .refine⟨by show (List.map ln _).length<100000;rw[aA];omega,.v (ln o),.v (.int (EQ.gc o:Nat)),?_⟩;rw[bF];show _=[_,_,_,_,_,_,_,Sl.o (.l (_++[D.l ((o.map (·/(EQ.gc o:Int))).map D.int)])),_,_];rw[bB];rfl
      .rw[aI (by omega),dN];exact⟨_,_,rfl⟩
     .rintro _ ⟨u,b,rfl⟩;rw[aA,vN,cL];exact c _ ⟨_,_,rfl⟩
    rintro _ ⟨u,b,rfl⟩;exact⟨_,_,_,_,_,_,_,rfl,rfl⟩
  .rintro _ ⟨Q,S,B,G,z,u,b,rfl,hs⟩;rw[aA,bZ];exact c _ ⟨_,_,_,_,_,_,_,rfl⟩
 rintro _ ⟨Q,S,B,G,z,u,b,rfl⟩;exact ab
end
structure Redu (m:Nat) (F:List Nat) (g:Nat->List Int):Prop where
 len:∀ f∈F,(g f).length=m
 first:∀ f∈F,∃ t,((List.range m).filter λs=>decide (EQ.ix (g f) s≠0))=f::t
 pos:∀ f∈F,0<EQ.ix (g f) f
 gc:∀ f∈F,EQ.gc (g f)=1
 alone:∀ f∈F,(F.map g).filter (λo=>decide (EQ.ix o f≠0))=[g f]
 up:F.Pairwise (·<·)
 lt:∀ f∈F,f<m
def Ue:RD:=λe c d=>∃ (a:Aa D) (m:Nat) (F:Aa Nat) (g:Nat->Aa Int),c=[.l a,.l (F.map λf=>ln (g f))]/\a.length=m/\m<=28/\F.length<=28/\Redu m F g/\d (.v (.b true))
theorem T4 {p:Prop} [Decidable p] (h:¬ p){a b:Prop}(g:b):if decide p=true then a else b:=by rw[cG h];exact g
theorem Ho:∀ {g:Aa D},(∀ x∈g,oF x=true)->sY g=true
 | [],_=>rfl
 | x::g,h=>by
  show (oF x&&sY g)=true;rw[h x aE,Ho λy a=>h y (aJ _ a)];rfl
theorem Pj {n:Nat}:∀ {g:Aa D},(∀ x∈g,(py x).depth<=n)->PyData.depthAll (rS g)<=n
 | [],_=>cE _
 | x::g,h=>Nat.max_le.mpr ⟨h x aE,Pj λy a=>h y (aJ _ a)⟩
theorem Mb {n:Nat}{g:Aa D}(h:∀ x∈g,(py x).depth<=n):(py (.l g)).depth<=n+1:=by
 show PyData.depthAll (rS g)+1<=n+1;have:=Pj h;omega
theorem JP (r:Aa Int){g:Sl->Prop}(k:g (.v (.b false))):Hv true (.l [ln r]) (.l [ln r]) g:=by
 have l:oF (.l [ln r])=true:=Ho λx a=>by
  rw[aM.mp a];exact Ho λx a=>by obtain⟨_,_,rfl⟩:=aN.mp a;rfl
 have c:(py (.l [ln r])).depth<=60:=bD (Mb (n:=1) λx a=>by
  rw[aM.mp a];exact Mb (n:=0) λx a=>by obtain⟨_,_,rfl⟩:=aN.mp a;exact aR _) (by decide)
 refine⟨l,l,bD (Nat.min_le_left _ _) c,?_⟩;rw[SeqAt.eqv_refl _ (Ce l)];exact k
theorem CU:(["k","row"]:Aa Af).Nodup:=by decide +kernel
theorem Y9:(["other","first"]:Aa Af).Nodup:=by decide +kernel
section
variable {P:Ah}{K:mZ}
theorem B6:FnScope ["things","rows","last","row","first"] ["things","rows"] (nS Gu):=pO
theorem Y3 (T:Txt r) (p:Kn P w K r base 1 "_law_divisor" Au ["row"] An):pQ P w K r base 2 "_law_is_reduced" Gu ["things","rows"] Ue:=by
 refine pZ B6 λf I A O s H E dk ds Φ y z hR=>?_
 obtain⟨q,m,F,g,rfl,xl,hm,hF,R,M⟩:=hR;refine⟨_,(hO (nX 2 B6.nd (S4 hV)) (hO (qL (oP (cN 1)) (nM 3 B6.nd) (hO (nX 4 B6.nd (vV z (qB ["k"] ["row"] [3] (Ak (by rfl) T.range (pC vM vW T.len cF (dK (cN 0) hH))) (λ_ _ _ _ _=>(nM 0 CU)) (λ_ _ _ _ _=>(cN 0)) (ht:=λ_ _ _ _ _=>(vS (sZ (uE y.units) (pF true) (nT z 1 (cN 0)) hV)))) hV)) (hO (pE (J2 (B1 (qT LD GW (pv 4) (cN 2)) (B1 (sZ L9 Mo (nT z 3 (cN 4)) hV) (Kr (sZ (uE y.units) (pF true) (oV p y (dK (cN 3) hH)) hV))))) (nJ (oC tR)) pG) (hO (pE (sZ (Vx y.units) (HS true) (qB ["other"] ["first"] [4] (oP (cN 1)) (λ_ _ _ _ _=>(nM 0 Y9)) (λ_ _ _ _ _=>(cN 0)) (ht:=λ_ _ _ _ _=>(vS (sZ (uE y.units) (pF true) (nT z 0 (cN 1)) hV)))) (rM (dK (cN 3) hH))) (nJ (oC tR)) pG) (nJ (nX 2 B6.nd (cN 4))))))) (nJ (oC tR)))),?_⟩;refine nG (λb=>b=[.v (.l q),.v (.l (F.map λf=>ln (g f))),.v (.int (-1)),.n,.n]) (λN c=>c _ rfl) ?_;rintro _ rfl;refine nG (λb=>True) (λN c=>?_) ?_
 .refine qI (F.map λf=>ln (g f)) [.v (.l q),.v (.l (F.map λf=>ln (g f))),.v (.int (-1)),.n,.n] (λY h=>h)
   (λi b=>∃ (last:Int) (X Q:Sl),b=[.v (.l q),.v (.l (F.map λf=>ln (g f))),.v (.int last),X,Q]/\∀ f,F[i]?=some f->last<f) ⟨_,_,_,rfl,λf _=>by omega⟩ ?_ λaa _=>c _ trivial
  rintro i d _ hd ⟨last,X,Q,rfl,t⟩;obtain⟨f,G,rfl⟩:=qP hd;have a:=aK G;have S:=R.len f a;obtain⟨tl,ht⟩:=R.first f a
  have V:=R.pos f a;refine nG (λb=>b=[.v (.l q),.v (.l (F.map λf=>ln (g f))),.v (.int last),.v (ln (g f)),.v (.int (f:Nat))]) (λN c=>?_) ?_
  .unfold rQ d2;refine uT (List.range m) (λi=>.int (i:Nat)) (λi=>.int (i:Nat)) (λs=>decide (EQ.ix (g f) s≠0)) [.v (.l q),.v (.l (F.map λf=>ln (g f))),.v (.int last),.v (ln (g f)),Q] (λY h=>?_) (by rw[bZ];omega) (λi x ys Z e B u D=>?_) ?_
   .refine⟨rfl,m,by show some q.length=_;rw[xl],by omega,by omega,?_⟩;rw[cI,Fg];exact h
   .have hx:x<m:=cB.mp (aK e);refine⟨rfl,_,uJ (by rw[S];exact hx),wU (λh=>⟨B,u (by simpa using h)⟩) λh=>D (by simpa using h)⟩
   .rw[ht];exact⟨_,wY (j:=0) rfl,c _ rfl⟩
  rintro _ rfl;have C:=uJ (l:=g f) (k:=f) (by rw[S];exact R.lt f a);refine nG (λb=>b=[.v (.l q),.v (.l (F.map λf=>ln (g f))),.v (.int last),.v (ln (g f)),.v (.int (f:Nat))]) (λN c=>?_) ?_
  .refine⟨rfl,?_⟩;have W:=t f G;refine T4 (by omega) ?_;refine⟨rfl,_,C,T4 (by omega) ?_⟩;refine⟨_,rfl,.inl rfl,wU (λh=>?_) λ_=>c _ rfl⟩;rw[R.gc f a] at h;exact absurd rfl h
  rintro _ rfl;refine nG (λb=>b=[.v (.l q),.v (.l (F.map λf=>ln (g f))),.v (.int last),.v (ln (g f)),.v (.int (f:Nat))]) (λN c=>?_) ?_
  .unfold zG uX d2;refine uT F (λf=>ln (g f)) (λf=>ln (g f)) (λo=>decide (EQ.ix (g o) f≠0)) [.v (.l q),.v (.l (F.map λf=>ln (g f))),.v (.int last),.v (ln (g f)),.v (.int (f:Nat))] (λY h=>h) (by omega) (λi x ys Z e B u D=>?_) ?_
   .refine⟨rfl,_,uJ (by rw[R.len x (aK e)];exact R.lt f a),wU (λh=>⟨B,u (by simpa using h)⟩) λh=>D (by simpa using h)⟩
   .have J:(F.filter λo=>decide (EQ.ix (g o) f≠0)).map (λf=>ln (g f))=[ln (g f)]:=by
     have:=R.alone f a;rw[List.filter_map] at this;have u:=cK (List.map ln) this;rw[bB] at u;exact u
    rw[J];refine⟨by show 1<=1000;decide,?_⟩;exact JP (g f) (c _ rfl)
  rintro _ rfl;refine⟨_,_,_,rfl,λU L=>?_⟩;have:f<U:=by
   obtain⟨W,q1⟩:=aG.mp G;obtain⟨l2,q2⟩:=aG.mp L;have:=jV.mp R.up i (i+1) W l2 (by omega);rw[q1,q2] at this;exact this
  omega
 intro _ _;exact M
end
def wH (t:WT) (k:MK):Int:=match t.find? (λp=>decide (p.1=k)) with
 | some p=>p.2
 | none=>0
theorem Ii {p:MK×Int}{t:WT}{k:MK}:wH (p::t) k=if p.1=k then p.2 else wH t k:=by
 unfold wH;rw[dZ];by_cases h:p.1=k
 .rw[aP h];simp[h]
 .rw[aI h];simp[h]
theorem Od:∀ {g:Aa MK}{j:Aa Int},g.Nodup->g.length=j.length->g.map (wH ((g.zip j).filter λp=>p.2 != 0))=j
 | [],[],_,_=>rfl
 | x::g,v::j,i,f=>by
  have a:=bN.mp i;have d:=Od a.2 (lW f);have b:∀ y∈g,y≠x:=λy c e=>a.1 (e▸c)
  have m:wH ((g.zip j).filter λp=>p.2 != 0) x=0:=by
   unfold wH;rw[List.find?_eq_none.mpr λp k=>?_];have:=gQ (bW.mp k).1;simp;exact b _ this.1
  rw[cU,aO];by_cases h:v=0
  .rw[gL (by simp[h]),m,h,d]
  .rw[fH (by simpa using h),Ii,aP rfl]
   congr 1
   refine Eq.trans (gR λy c=>?_) d;rw[Ii,aI λz=>b y c z.symm]
theorem FY (t:WT) (k:MK):(nK (nO t) k).getD (.int 0) = .int (wH t k):=by
 induction t with
 | nil=>rfl
 | cons p t a =>
  show (nK ((p.1,D.int p.2)::nO t) k).getD _=_;rw[sB,Ii];by_cases e:p.1=k
  .rw[aP e,aP e];rfl
  .rw[aI e,aI e];exact a
theorem MC {t:WT}(j:(t.map (·.1)).Nodup){p:MK×Int}(g:p∈t):nK (nO t) p.1=some (.int p.2):=by
 induction t with
 | nil=>cases g
 | cons q t b =>
  have a:=bN.mp j;show nK ((q.1,D.int q.2)::nO t) _=_;rw[sB];rcases aH.mp g with rfl | g
  .rw[aP rfl]
  .rw[aI λz=>a.1 (by show q.1∈_;rw[z];exact bQ g)];exact b a.2 g
structure GCp (C:Cel):Prop where
 q:GCq C
 ok:∀ x∈C.names,PyData.strOk x=true
theorem Wy {x:Af}(h:∀ c∈x.cps.toList,97<=c/\c<=122):PyData.strOk x=true:=by
 unfold PyData.strOk;rw[Array.all_eq_true'];intro c a;have:=h c (by simpa using a);exact cX (by omega)
theorem Vm {C:Cel}(h:Good C):GCp C:=⟨Ut h,λx a=>Wy (h.nm x a).ls.az⟩
theorem Jr {C:Cel}(h:GCp C):∀ t∈nC C,oF (gD t)=true:=λt e=>by
 obtain⟨f,d⟩:=xK e;have ok:∀ x:Af,x = "" \/ x∈C.ins++C.outs->PyData.strOk x=true:=λx c=>by
  rcases c with rfl | c
  .decide +kernel
  .rcases aQ.mp c with c | c
   .exact h.ok x (bK _ c)
   .exact h.ok x (h.q.gc.os x c)
 rcases f with⟨x,rfl⟩ | ⟨a,b,rfl⟩
 .exact ok x (d x aE)
 .show (PyData.strOk a&&(PyData.strOk b&&true))=true;rw[ok a (d a aE),ok b (d b (aJ _ aE))];rfl
theorem LY {t:MK}(h:yM t):(py (gD t)).depth<=50:=by
 rcases h with⟨x,rfl⟩ | ⟨a,b,rfl⟩
 .exact cE _
 .show max 0 (max 0 0)+1<=50;decide
theorem Wm (g:Aa D):rS g=g.map py:=by
 induction g with
 | nil=>rfl
 | cons x g a=>show py x::rS g=_;rw[a];rfl
theorem FK {C:Cel}(h:GCp C){t:MK}(g:t∈nC C):((rS ((nC C).map gD)).any λx=>PyData.eqv x (py (gD t)))=true:=by
 rw[Wm,bB];exact iQ.mpr ⟨_,aN.mpr ⟨t,g,rfl⟩,Rv (Jr h t g)⟩
theorem BH:∀ (a b:Aa Int),a.length=b.length->((a.zip b).map λp=>p.1*p.2).sum=EQ.dot a.length a (EQ.ix b):=by
 intro a;have c:∀ (f:Nat->Int) (n:Nat),EQ.sm f (List.range (n+1))=f 0+EQ.sm (λs=>f (s+1)) (List.range n):=λf n=>by
  rw[List.range_succ_eq_map];show f 0+EQ.sm f ((List.range n).map Nat.succ)=_
  congr 1
  have:∀ l:Aa Nat,EQ.sm f (l.map Nat.succ)=EQ.sm (λs=>f (s+1)) l:=λl=>by
   induction l with
   | nil=>rfl
   | cons x l d=>show f (x+1)+_=f (x+1)+_;rw[d]
  exact this _
 induction a with
 | nil=>intro b _;cases b<;>rfl
 | cons x a d =>
  intro b e;cases b with
  | nil=>cases e
  | cons y b =>
   rw[cU,aO,jL,d b (lW e)];show _=EQ.sm _ (List.range (a.length+1));rw[c];rfl
theorem HG {m:Nat}{KK:(Nat->Int)->Prop}{g:Aa (Nat×Aa Int)}(I:EQ.Inv m KK g) (j:m<=28) (sm:∀ h∈g,EQ.Le CC h.2) (f:Nat):zX (EQ.shown m g f):=by
 have e:=I.le;have d:(EQ.whole g f 1).natAbs<=CC ^ 28:=by
  have:=EQ.whole_le (f:=f) vA g (a:=1) (A:=1) sm (by decide);rw[Nat.mul_one] at this;exact bD this (iL vA (by omega))
 have i:0<CC ^ 28:=mG vA;have:EQ.Le (CC ^ 28*CC) (EQ.shown m g f):=EQ.Le.wd (Jd d vA g _ sm λx c=>by
  rcases jW c with c | rfl
  .rw[List.eq_of_mem_replicate c];exact cE _
  .exact bD d (Nat.le_mul_of_pos_right _ vA))
 have b:CC ^ 28*CC<BM:=by decide +kernel
 exact λx c=>bG (this x c) b
theorem Hr {C:Cel}{j:Bool}(g:GCq C) (r:Aa Int):r∈oS C j↔r∈uW C j:=by
 unfold oS uW;constructor
 .intro h;obtain⟨n,a,rfl⟩:=aN.mp h;exact aN.mpr ⟨_,Ur _ g.li n (cB.mp a),rfl⟩
 .intro h;obtain⟨b,c,rfl⟩:=aN.mp h;obtain⟨n,a,e⟩:=Xw _ g.li b c;exact aN.mpr ⟨n,cB.mpr a,by rw[e]⟩
theorem Z8 {m:Nat}{KK:(Nat->Int)->Prop}{g:Aa (Nat×Aa Int)}(I:EQ.Inv m KK g):Redu m (EQ.firsts m g) (EQ.shown m g):=by
 have s:=λf (a:f∈EQ.firsts m g)=>I.shown (EQ.firsts_mem a).1 (EQ.firsts_mem a).2
 exact⟨λf a=>(s f a).1,λf a=>I.first a,λf a=>(s f a).2.2.2.1,λf a=>(s f a).2.2.1,λf a=>I.alone a,EQ.firsts_up m g,λf a=>(EQ.firsts_mem a).1⟩
end Lw
namespace L2
open PySem PySem.Spec PyProof.Rows
section
variable {X:Cx}
theorem JU (i:Nat){x:Af}{J U:Pos}{aa tg iter:Expr}{ab:Aa Expr}{j:Scope}{pos:Pos}{ti:nN}{g:vE}{tt:qV}{te:nN}(T o:Aa Af) (I:Aa Nat) (hN:X.N.Nodup) (hi:PD X iter ti) (hg:∀ p l C cl fp,wX (rN X (T++o) j cl C p l fp) T.length tg g)
  (he:∀ p l C cl fp,PD (rN X (T++o) j cl C p l fp) aa te)
  (ht:∀ p l C cl fp,uY (rN X (T++o) j cl C p l fp) ab (sQ X.K tt):=by exact λ_ _ _ _ _=>Ke) (hc:X.calm=true:=by rfl) (hk:j.kind = .function:=by rfl) (ho:Bq X.N X.env.kindOf j T o I=true:=by rfl) (ae:X.N[i]?=some x:=by rfl) (hx:uN X.env.scope x:=by first | exact Or.inl rfl | exact Or.inr rfl) (ac:I.Nodup:=by decide)
  (af:swapsWith (.ListComp aa [⟨tg,iter,ab,0⟩] j pos) (some (.Name x J)) U.line X.env=pure true:=by rfl)
  (hs:∀ x,foldedSetIterable iter X.env x=pure x:=by intro _;rfl)
  (hf:X.fn x=true\/X.env.scope.names.lookup x=some .local:=by first | exact .inl rfl | exact .inr rfl | assumption) :
  tL X (.Assign [.Name x J] (.ListComp aa [⟨tg,iter,ab,0⟩] j pos) U) (rQ i (yI T.length I (Dt ti) g tt te)) :=
 (Ja (Vg T o I hN ae hx hc (Ey hi) hk ho hg ht he af hs hf)).mono λd n H b=>b.elim λB k Tm q f hd ht h =>
  Pu (Q:=λv a=>d.nx (n.set i (some v)) a) ac ⟨B,k,Tm,_,f,hd,ht,λr m v a c d1 e=>(h.1 _ _ a (by rw[aY,aY];exact c) (aY ..) (d1.assign c i)).1 e⟩
end
section
variable {X:Cx}{K:mZ}
def U6 (K:mZ) (neg:Bool):R2:=λx y H Q=>∃ (p:Ad) (e:Aa V) (a:PyData) (c:Aa PyData),DatV K H x a/\y = .ref p/\eH K H p e/\DatVs K H e c/\a.canLay0=true/\PyData.canLayAll0 c=true/\a.depth<=50/\Q (.b (nb neg (c.any λd=>PyData.eqv d a))) H
def B8 (h:Ag) (g:PyData) (y:Ac):Bool:=@decide (∃ d as,Reads h y d as/\d.canLay0=true/\PyData.eqv d g=true) (Classical.propDecidable _)
theorem Rl {h:Ag}{g d:PyData}{y:Ac}{as:Aa Ad}(r:Reads h y d as) (l:d.canLay0=true):B8 h g y=PyData.eqv d g:=by
 unfold B8;cases e:PyData.eqv d g with
 | true=>exact @decide_eq_true _ (Classical.propDecidable _) ⟨d,as,r,l,e⟩
 | false =>
  refine @decide_eq_false _ (Classical.propDecidable _) λb=>?_
  obtain⟨f,a,i,_,c⟩:=b;rw[(r.unique f a i).1] at e;rw[e] at c;cases c
theorem Nd {h:Ag}{j:PyData}:∀ {o:Aa Ac}{g:Aa PyData}{as:Aa Ad},ReadsAll h o g as->PyData.canLayAll0 g=true->o.any (B8 h j)=g.any λd=>PyData.eqv d j
 | _,_,_,.nil,_=>rfl
 | _,_,_,.cons r a,l=>by
  rw[PyData.canLayAll0,cA] at l;rw[eZ,eZ,Rl r l.1,Nd a l.2]
theorem T8 {s:Ae}{A:Around}{u:Ac}{g:PyData}{bs:Aa Ad}(J:A.units+60<cLine) (p:Reads s.heap u g bs) (o:g.canLay0=true) (I:g.depth<=50):∀ {C:Aa Ac}{j:Aa PyData}{as:Aa Ad},ReadsAll s.heap C j as->PyData.canLayAll0 j=true ->
  ∀ y,y∈C->SeqAt.EqAt A s y u (B8 s.heap g y)
 | _,_,_,.nil,_,y,a=>by cases a
 | _,_,_,.cons r b,l,y,a=>by
  rw[PyData.canLayAll0,cA] at l;rcases aH.mp a with rfl | a
  .rw[Rl r l.1];exact SeqAt.eqAt_reads _ _ _ _ _ _ _ _ r p l.1 o (by omega)
  .exact T8 J p o I b l.2 y a
theorem IR (g:X.A.units+64<cLine):nR X (compareOp .NotIn) (U6 X.K true):=by
 intro e s M H x y v u Q I E F h;obtain⟨p,L,i,G,m,rfl,n,a,z,d,k,q⟩:=h;cases F;obtain⟨w,r,B,_⟩:=I.list n;obtain⟨as,D⟩:=m.reads I E;obtain⟨bs,f⟩:=a.reads I r;have c:X.A.in1.units+60<cLine:=by rw[Around.in1_units];omega
 refine SeqAt.notIn_listAt (B8 s.heap i) B.isList (λy t=>T8 c D z k f d y (by simpa using t)) ⟨.b _,H,I,rfl,?_⟩;rw[List.any_toArray,Nd f d];exact q
def Vs (neg:Bool):O2:=λd e c=>match e with
 | .l a=>oF d=true/\sY a=true/\(py d).depth<=50/\c (.v (.b (nb neg ((rS a).any λx=>PyData.eqv x (py d)))))
 | _=>False
theorem EE (neg:Bool):pD K (U6 K neg) (Vs neg):=by
 intro B L H d e x y u Q hd q s i k;cases e<;>first | exact False.elim i | skip
 obtain⟨c,f,m,n⟩:=i;obtain⟨a,t,rfl,h,r⟩:=s.lst_inv;exact⟨a,t,py d,_,J8 q c,rfl,eH.of h,yJ r f,Ce c,Bh f,m,k _ _ H n (hd.pushF (.b _))⟩
end
section
variable {X:Cx}{K:mZ}
def Tu (K:mZ):Aa V->Hp->VK->Prop:=λe H Q=>∃ (a:Ad) (d:Aa (MK×V)) (c:String) (b:Bool),e=[.ref a,.ty c]/\Rd H a (.dM d)/\PySem.W.kitOne K (.type "dict") (.type c)=some b/\Q (.b b) H
theorem CD (K:mZ) (g:X.K=K:=by rfl):oH X (.builtin "isinstance") (Tu K):=by
 subst g;intro f s E H x B Q I r h;obtain⟨a,d,c,b,rfl,m,e,q⟩:=h;obtain⟨u,D,rfl,n,t⟩:=yS r;cases n;cases t;obtain⟨_,_,x,_,o,A,y,i,k,_⟩:=(show oG X.prog X.w H s.heap a (.dM d) from Db I.hok m);exact dL kZ I.kIn ⟨o,i,k.1⟩ e (λz=>nomatch z) λv=>⟨.b b,H,I.kept (t':=v) λ_ _ q=>q,rfl,q⟩
def EO (K:mZ):OC:=λa d=>match a with
 | [.dM _,.r (.ty c)]=>∃ b,PySem.W.kitOne K (.type "dict") (.type c)=some b/\d (.v (.b b))
 | _=>False
theorem FM:qR K (Tu K) (EO K):=by
 intro B L H f s t Q hd n c k;cases f with
 | nil=>exact False.elim c
 | cons d f =>
  cases f with
  | nil=>cases d<;>exact False.elim c
  | cons e f =>
   cases d<;>first | exact False.elim c | skip
   cases e<;>first | exact False.elim c | skip
   rename_i v
   cases v<;>first | exact False.elim c | skip
   cases f with
   | cons _ _=>exact False.elim c
   | nil =>
    obtain⟨x,y,rfl,q,py⟩:=Ap n;obtain⟨b,m,c⟩:=c;have:=py.raw_inv;subst this;obtain⟨a,i,rfl,h,_⟩:=q.dM_inv;exact⟨a,i,_,b,rfl,h,m,k _ _ H c (hd.pushF (.b _))⟩
end
end L2
namespace Lw
open PySem L2
def oR (C:Cel) (f:Nat):Aa Int:=EQ.shown (nC C).length (qH C true) f
def Rw:RD:=λd a c=>∃ C,a=[nH C,.l ((nU C).map λf=>.dM (nO (nP C f)))]/\GCp C/\c (.v (.b true))
theorem LO:(["thing","things"]:Aa Af).Nodup:=by decide +kernel
theorem P6:(["thing","weights"]:Aa Af).Nodup:=by decide +kernel
theorem EG:(["one"]:Aa Af).Nodup:=by decide +kernel
theorem O9:(["a","b"]:Aa Af).Nodup:=by decide +kernel
section
variable {P:Ah}{K:mZ}
theorem xA:FnScope ["cell","found","things","rows","weights","numbers","worths","row","one"] ["cell","found"] (nS Fq):=pO
theorem GF (T:Txt mg) (U:Kn P w K mg base 1 "_law_things" Hl ["cell","pairs"] Dx) (aa:Kn P w K mg base 3 "_law_worths" Hj ["cell","things"] Sh) (J:Kn P w K mg base 1 "_law_divisor" Au ["row"] An)
  (ab:Kn P w K mg base 2 "_law_rank" Ga ["rows","many"] Ou) (g:Kn P w K mg base 2 "_law_is_reduced" Gu ["things","rows"] Ue):pQ P w K mg base 4 "_law_right" Fq ["cell","found"] Rw:=by
 refine pZ xA λf ak A ai s H E dk ds Φ b hu hR=>?_
 obtain⟨C,rfl,hP,ah⟩:=hR;have u:=hP.q;refine⟨_,(hO (nX 2 xA.nd (Rs (oV U b (dK (cN 0) (dK tR hH))))) (hO (pE (Ft (xW (pC (Cd K) (Dc (K:=K)) T.isinstance eD (dK (cN 1) (dK (Bi (by rfl) T.list fS) hH))))) (nJ (oC tR)) pG) (hO (nX 3 xA.nd (rM hH)) (hO (qL (oP (cN 1)) (nM 4 xA.nd) (hO (pE (J2 (B1 (Ft (xW (pC (CD K) (FM (K:=K)) T.isinstance eD (dK (cN 4) (dK (Bi (by rfl) T.dict jF) hH))))) (Kr (sZ (uE b.units) (pF true) (IV ["thing"] ["things"] [2] rfl (cN 4) rfl rfl (λ_ _ _ _ _=>(nM 0 LO)) (λ_ _ _ _ _=>(vS (Jv (IR b.units) (EE true) (cN 0) (pv 1)))) (λ_ _ _ _ _=>(cN 0))) (rM hH))))) (nJ (oC tR)) pG) (hO (JU 5 ["thing"] ["weights"] [4] xA.nd (cN 4) (λ_ _ _ _ _=>(nM 0 P6)) (λ_ _ _ _ _=>(nT hu 1 (cN 0)))) (hO (pE (sZ (uE b.units) (pF true) (qB ["one"] [] [] (oP (cN 5)) (λ_ _ _ _ _=>(nM 0 EG)) (λ_ _ _ _ _=>(cN 0)) (ht:=λ_ _ _ _ _=>(vS (J2 (B1 (xW (pC (Cd K) (Dc (K:=K)) T.isinstance eD (dK (cN 0) (dK (Bi (by rfl) T.bool PyProof.Rows.boot_bool) hH)))) (B1 (Ft (xW (pC (Cd K) (Dc (K:=K)) T.isinstance eD (dK (cN 0) (dK (Bi (by rfl) T.int iC) hH))))) (Kr (qT (sA b.units) (pF false) (pv 0) hV)))))))) (rM hH)) (nJ (oC tR)) pG) (nJ (zD (Bk cC cZ dB wK Ef (pv 3) (dK (qB ["thing"] ["weights"] [4] (oP (cN 2)) (λ_ _ _ _ _=>(nM 0 P6)) (λ_ _ _ _ _=>(Y0 hu (pv 1) (cN 0) hV))) hH)))))))) (hO (nX 6 xA.nd (oV aa b (dK (cN 0) (dK (cN 2) hH)))) (hO (qL (oP (cN 3)) (nM 7 xA.nd) (hO (pE (sZ (sA b.units) (pF false) (oV J b (dK (cN 7) hH)) hV) (nJ (oC tR)) pG) (nJ (qL (oP (cN 6)) (nM 8 xA.nd) (nJ (pE (sZ (uE b.units) (pF true) (pC (Ct rfl) Eg T.sum hZ (dK (qB ["a","b"] [] [] (Ll (by rfl) T.zip (dK (cN 8) (dK (cN 7) hH))) (λ_ _ _ _ _=>(yE (n:=2) rfl (rD (nM 0 O9) (rD (nM 1 O9) xO)))) (λ_ _ _ _ _=>(sP yV yR 0 (cN 1)))) hH)) hV) (nJ (oC tR)) pG)))))) (hO (pE (sZ (uE b.units) (pF true) (pC vM vW T.len cF (Bf (pv 3) hH)) (qF Bb E7 (pC vM vW T.len cF (dK (cN 2) hH)) (oV ab b (dK (cN 6) (dK (pC vM vW T.len cF (dK (cN 2) hH)) hH))))) (nJ (oC tR)) pG) (nJ (oC (oV g b (dK (cN 2) (Bf (pv 3) hH)))))))))))),?_⟩;have R:(nC C).length<=28:=Hc (pr:=true) u.li u.lo;have ok:∀ r∈uW C true,r.length=(nC C).length/\EQ.Bit r:=Ny (pr:=true) u;obtain⟨I,sm⟩:=EQ.red_ok ok;have aj:∀ h∈qH C true,EQ.Le CC h.2:=λh hh=>(sm h hh).mono (Jp R)
 have fl:(nU C).length=(nC C).length-(qH C true).length:=EQ.firsts_len I;have Rd:=Z8 I;have xn:=Q8 u;refine nG (λa=>a=[.v (nH C),.v (.l ((nU C).map λf=>.dM (nO (nP C f)))),.v (.l ((nC C).map gD)),.n,.n,.n,.n,.n,.n]) (λN c=>?_) ?_
 .refine⟨C,true,rfl,u.li,u.lo,.inl rfl,_,rfl,c _ ?_⟩;rfl
 rintro _ rfl;refine nG (λa=>a=[.v (nH C),.v (.l ((nU C).map λf=>.dM (nO (nP C f)))),.v (.l ((nC C).map gD)),.n,.n,.n,.n,.n,.n]) (λN c=>?_) ?_
 .exact⟨"list",true,rfl,rfl,rfl,_,rfl,c _ rfl⟩
 rintro _ rfl;refine nG (λa=>a=[.v (nH C),.v (.l ((nU C).map λf=>.dM (nO (nP C f)))),.v (.l ((nC C).map gD)),.o (.l []),.n,.n,.n,.n,.n]) (λN c=>⟨by show 0<=1000;decide,c _ rfl⟩) ?_;rintro _ rfl;refine nG (λa=>∃ m k,a=[.v (nH C),.v (.l ((nU C).map λf=>.dM (nO (nP C f)))),.v (.l ((nC C).map gD)),.o (.l ((nU C).map λf=>ln (oR C f))),m,k,.n,.n,.n]) (λN c=>?_) ?_
 .refine qI ((nU C).map λf=>.dM (nO (nP C f))) [.v (nH C),.v (.l ((nU C).map λf=>.dM (nO (nP C f)))),.v (.l ((nC C).map gD)),.o (.l []),.n,.n,.n,.n,.n] (λL h=>h)
   (λi a=>∃ m k,a=[.v (nH C),.v (.l ((nU C).map λf=>.dM (nO (nP C f)))),.v (.l ((nC C).map gD)),.o (.l (((nU C).take i).map λf=>ln (oR C f))),m,k,.n,.n,.n]) ⟨_,_,rfl⟩ ?_ ?_
  .rintro i d _ hd ⟨m,k,rfl⟩;obtain⟨f,hf,rfl⟩:=qP hd;have Q:=aK hf;have ae:(oR C f).length=(nC C).length:=Rd.len f Q;have tn:((nP C f).map (·.1)).Nodup:=Mc _ xn;have tm:∀ p∈nP C f,p.1∈nC C/\p.2≠0:=λp hp=>by
    have h:=bW.mp hp;exact⟨(gQ h.1).1,by simpa using h.2⟩
   have tl:(nP C f).length<=28:=by
    have:=dJ (λp:MK×Int=>p.2 != 0) ((nC C).zip (EQ.shown (nC C).length (qH C true) f));rw[fE] at this;show (List.filter _ _).length<=28;omega
   have kk:rG (nO (nP C f))=(nP C f).map λp=>gD p.1:=by unfold rG nO;rw[List.map_map];rfl
   refine nG (λa=>a=[.v (nH C),.v (.l ((nU C).map λf=>.dM (nO (nP C f)))),.v (.l ((nC C).map gD)),.o (.l (((nU C).take i).map λf=>ln (oR C f))),.v (.dM (nO (nP C f))),k,.n,.n,.n]) (λN c=>?_) ?_
   .refine⟨true,rfl,rfl,_,rfl,?_⟩;dsimp only[Bool.not_true];rw[aI (by decide)];unfold uX d2;refine uT (nP C f) (λp=>gD p.1) (λp=>gD p.1) (λ_=>false) [.v (nH C),.v (.l ((nU C).map λf=>.dM (nO (nP C f)))),.v (.l ((nC C).map gD)),.o (.l (((nU C).take i).map λf=>ln (oR C f))),.v (.dM (nO (nP C f))),k,.n,.n,.n] (λL h=>?_) (by omega) (λj x ys X e O G h3=>?_) ?_
    .show L (rG (nO (nP C f))) _;rw[kk];exact h
    .have hx:=(tm x (aK e)).1;refine⟨Jr hP _ hx,Ho λy hy=>by obtain⟨z,hz,rfl⟩:=aN.mp hy;exact Jr hP z hz,LY (xK hx).1,?_⟩;rw[FK hP hx];exact h3 rfl
    .rw[show (nP C f).filter (λ_=>false)=[] by simp];exact⟨by show 0<=1000;decide,c _ rfl⟩
   rintro _ rfl;refine nG (λa=>a=[.v (nH C),.v (.l ((nU C).map λf=>.dM (nO (nP C f)))),.v (.l ((nC C).map gD)),.o (.l (((nU C).take i).map λf=>ln (oR C f))),.v (.dM (nO (nP C f))),.o (.l ((nP C f).map λp:MK×Int=>D.int p.2)),.n,.n,.n]) (λN c=>?_) ?_
   .unfold rQ;refine rA (nP C f) (λp=>gD p.1) (λp=>.int p.2) [.v (nH C),.v (.l ((nU C).map λf=>.dM (nO (nP C f)))),.v (.l ((nC C).map gD)),.o (.l (((nU C).take i).map λf=>ln (oR C f))),.v (.dM (nO (nP C f))),k,.n,.n,.n] (λL h=>?_) (by omega) (λj x ys X e O G=>?_) (c _ rfl)
    .show L (rG (nO (nP C f))) _;rw[kk];exact h
    .have it:=(xK (tm x (aK e)).1).1;refine⟨rfl,.int x.2,?_,O,G⟩;show (vK (gD x.1)).map (nK (nO (nP C f)))=_;rw[Ej it];show some (nK (nO (nP C f)) x.1)=_;rw[MC tn (aK e)]
   rintro _ rfl;refine nG (λa=>∃ k,a=[.v (nH C),.v (.l ((nU C).map λf=>.dM (nO (nP C f)))),.v (.l ((nC C).map gD)),.o (.l (((nU C).take i).map λf=>ln (oR C f))),.v (.dM (nO (nP C f))),k,.n,.n,.n]) (λN c=>?_) ?_
   .unfold zG uX d2;refine uT (nP C f) (λp=>.int p.2) (λp=>.int p.2) (λ_=>false) [.v (nH C),.v (.l ((nU C).map λf=>.dM (nO (nP C f)))),.v (.l ((nC C).map gD)),.o (.l (((nU C).take i).map λf=>ln (oR C f))),.v (.dM (nO (nP C f))),.v (.l ((nP C f).map λp:MK×Int=>D.int p.2)),.n,.n,.n] (λL h=>h) (by omega) (λj x ys X e O G h3=>?_) ?_
    .refine⟨"int",false,rfl,rfl,rfl,_,rfl,"int",true,rfl,rfl,rfl,_,rfl,rfl,Br (λh=>absurd h (tm x (aK e)).2) λh=>h3 rfl⟩
    .rw[show (nP C f).filter (λ_=>false)=[] by simp];exact⟨by show 0<=1000;decide,c _ ⟨_,rfl⟩⟩
   rintro _ ⟨ac,rfl⟩;refine⟨rfl,?_⟩;refine rA (nC C) gD (λx=>.int (wH (nP C f) x)) [.v (nH C),.v (.l ((nU C).map λf=>.dM (nO (nP C f)))),.v (.l ((nC C).map gD)),.o (.l (((nU C).take i).map λf=>ln (oR C f))),.v (.dM (nO (nP C f))),ac,.n,.n,.n] (λL h=>h) (by omega) (λj x ys X e O G=>?_) ?_
   .have it:=(xK (aK e)).1;have el:tX (.dM (nO (nP C f))) (gD x)=some (nK (nO (nP C f)) x):=by
     show (vK (gD x)).map (nK (nO (nP C f)))=_;rw[Ej it];rfl
    refine⟨rfl,_,el,O,?_⟩;show X (ys++[(nK (nO (nP C f)) x).getD (D.int 0)]) _;rw[FY];exact G
   .have es:(nC C).map (λx=>D.int (wH (nP C f) x))=(oR C f).map D.int:=by
     have:=Od xn ae.symm;have G:=cK (List.map D.int) this;rw[bB] at G;exact G
    rw[es];have tk:((nU C).take (i+1)).map (λf=>ln (oR C f))=((nU C).take i).map (λf=>ln (oR C f))++[ln (oR C f)]:=by
     rw[bP,hf,bF];rfl
    refine⟨?_,.v (.dM (nO (nP C f))),ac,?_⟩
    .show (List.map _ _).length<100000;rw[aA,bO];omega
    .rw[tk];rfl
  .rintro _ ⟨m,k,rfl⟩;rw[aA,cL];exact c _ ⟨_,_,rfl⟩
 rintro _ ⟨m,k,rfl⟩;refine nG (λa=>a=[.v (nH C),.v (.l ((nU C).map λf=>.dM (nO (nP C f)))),.v (.l ((nC C).map gD)),.o (.l ((nU C).map λf=>ln (oR C f))),m,k,.o (.l ((oS C true).map ln)),.n,.n]) (λN c=>?_) ?_
 .exact⟨C,rfl,u,.inl rfl,c _ rfl⟩
 rintro _ rfl;have V:∀ r∈oS C true,r.length=(nC C).length/\EQ.Bit r:=λr b=>ok r ((Hr u r).mp b)
 have wl:(oS C true).length<=64:=by unfold oS;rw[List.length_map,List.length_range];exact Cy u.li
 refine nG (λa=>∃ F W B,a=[.v (nH C),.v (.l ((nU C).map λf=>.dM (nO (nP C f)))),.v (.l ((nC C).map gD)),.v (.l ((nU C).map λf=>ln (oR C f))),m,k,F,W,B]/\sd F=some (.l ((oS C true).map ln))) (λN c=>?_) ?_
 .refine qI ((nU C).map λf=>ln (oR C f)) [.v (nH C),.v (.l ((nU C).map λf=>.dM (nO (nP C f)))),.v (.l ((nC C).map gD)),.v (.l ((nU C).map λf=>ln (oR C f))),m,k,.o (.l ((oS C true).map ln)),.n,.n] (λL h=>h)
   (λi a=>∃ F W B,a=[.v (nH C),.v (.l ((nU C).map λf=>.dM (nO (nP C f)))),.v (.l ((nC C).map gD)),.v (.l ((nU C).map λf=>ln (oR C f))),m,k,F,W,B]/\sd F=some (.l ((oS C true).map ln))) ⟨_,_,_,rfl,rfl⟩ ?_ λao h=>c _ h
  rintro i d _ hd ⟨F,W,B,rfl,S⟩;obtain⟨f,hf,rfl⟩:=qP hd;have Q:=aK hf;obtain⟨af,ag⟩:=EQ.firsts_mem Q;obtain⟨sl,sk,sg,_,_,_⟩:=I.shown af ag;refine nG (λa=>a=[.v (nH C),.v (.l ((nU C).map λf=>.dM (nO (nP C f)))),.v (.l ((nC C).map gD)),.v (.l ((nU C).map λf=>ln (oR C f))),m,k,F,.v (ln (oR C f)),B]) (λN c=>?_) ?_
  .refine⟨oR C f,rfl,.inl rfl,Br (λh=>?_) λ_=>c _ rfl⟩;have:EQ.gc (oR C f)=1:=sg;rw[this] at h;exact absurd h (by decide)
  rintro _ rfl;refine qI ((oS C true).map ln) [.v (nH C),.v (.l ((nU C).map λf=>.dM (nO (nP C f)))),.v (.l ((nC C).map gD)),.v (.l ((nU C).map λf=>ln (oR C f))),m,k,.v (.l ((oS C true).map ln)),.v (ln (oR C f)),B] (λL h=>Em (d:=.l ((oS C true).map ln)) (by rfl) S h)
   (λi a=>∃ B,a=[.v (nH C),.v (.l ((nU C).map λf=>.dM (nO (nP C f)))),.v (.l ((nC C).map gD)),.v (.l ((nU C).map λf=>ln (oR C f))),m,k,.v (.l ((oS C true).map ln)),.v (ln (oR C f)),B]) ⟨_,rfl⟩ ?_ ?_
  .rintro j d _ hd ⟨B,rfl⟩;obtain⟨r,b,rfl⟩:=qP hd;have Y:=aK b;obtain⟨M,Z⟩:=V r Y;have sb:zX (oR C f):=HG I R aj f;unfold gN zG uX d2 dC aC;refine rA (r.zip (oR C f)) (λp=>.t [.int p.1,.int p.2]) (λp=>.int (p.1*p.2)) [.v (nH C),.v (.l ((nU C).map λf=>.dM (nO (nP C f)))),.v (.l ((nC C).map gD)),.v (.l ((nU C).map λf=>ln (oR C f))),m,k,.v (.l ((oS C true).map ln)),.v (ln (oR C f)),.v (ln r)] (λL h=>⟨_,_,_,_,rfl,rfl,by rw[Ko];exact h⟩) (by rw[fE];omega) (λi x ys X e O G=>?_) ?_
   .have R:=gQ (aK e);refine⟨rfl,rfl,rfl,⟨?_,sb _ R.2⟩,O,G⟩;have b2:1<BM:=by decide +kernel
    rcases Z x.1 R.1 with q | q<;>rw[q]
    .exact MX
    .exact b2
   .refine⟨(r.zip (oR C f)).map λp=>p.1*p.2,by rw[<- Bp,bB];rfl,wU (λh=>?_) λ_=>⟨_,rfl⟩⟩;rw[BH r (oR C f) (M.trans sl.symm),M] at h;exact absurd (sk r ((Hr u r).mp Y)) h
  .rintro _ ⟨B,rfl⟩;exact⟨_,_,_,rfl,rfl⟩
 rintro _ ⟨F,W,B,rfl,S⟩;have rk:EQ.rank (nC C).length (oS C true)=(qH C true).length:=EQ.rank_eq (K:=λw=>∀ r∈uW C true,EQ.dot (nC C).length r w=0) (λr b=>(V r b).1) (λw=>⟨λh r b=>h r ((Hr u r).mp b),λh r b=>h r ((Hr u r).mpr b)⟩) I;have an:(qH C true).length<=(nC C).length:=I.le;refine nG (λa=>∃ F,a=[.v (nH C),.v (.l ((nU C).map λf=>.dM (nO (nP C f)))),.v (.l ((nC C).map gD)),.v (.l ((nU C).map λf=>ln (oR C f))),m,k,F,W,B]) (λN c=>?_) ?_
 .refine⟨rfl,rfl,(nU C).length,by show some ((nU C).map λf=>ln (oR C f)).length=_;rw[aA],rfl,(nC C).length,by show some ((nC C).map gD).length=_;rw[aA],?_⟩;unfold zK aC;refine Em (d:=.l ((oS C true).map ln)) (by rfl) S ?_;refine⟨rfl,(nC C).length,by show some ((nC C).map gD).length=_;rw[aA],oS C true,(nC C).length,rfl,wl,R,V,.inl rfl,wU (λh=>?_) λ_=>c _ ⟨_,rfl⟩⟩;rw[rk,fl] at h;exact absurd (by omega) h
 rintro _ ⟨F,rfl⟩;exact⟨rfl,(nC C).map gD,(nC C).length,nU C,EQ.shown (nC C).length (qH C true),rfl,by rw[aA],R,by omega,Rd,.inr rfl,ah⟩
end
def Fi (K:mZ):Sp:=λe H Q _=>∃ (a:Ad) (c:Aa Int),e=[.ref a]/\eH K H a (c.map V.int)/\c.length<=63/\∀ d,Q (.b true) d
theorem Pe {ns:Aa Int}{r:Nat}(h:r<ns.length):∃ v∈ns,pA (ns.map D.int) (r:Int)=some (.int v):=⟨ns[r],eR h,wY (by rw[aU,aF h];rfl)⟩
section
variable {P:Ah}{K:mZ}
theorem Dd:FnScope ["script","deck","inputs","gates","cell"] ["script"] (nS yP):=pO
theorem BG {f fD:Ad}{fd aa:FuncData}(F:Fun K "law" "law" yP f fd) (T:Txt mg) (g:Gd K mg "_law_deck" G3 ["script"] fD aa)
  (j:Kn P w K mg base 1 "_law_take" xG ["deck","many"] Uh) (U:Kn P w K mg base 4 "_law_cell" Fs ["deck","inputs","gates"] U8) (l:Kn P w K mg base 6 "equations" Fz ["cell","pairs"] Tq) (I:Kn P w K mg base 4 "_law_right" Fq ["cell","found"] Rw)
  (J:FnOk P w K mg base oQ 1 fD aa ["script"] (Ob K)):FnOk P w K mg base oQ 7 f fd ["script"] (Fi K):=by
 refine F.ok Dd (λvs H Q E h=>?_) (λab A W s H vs Q E y h=>?_)
 .obtain⟨a,ns,rfl,_⟩:=h;rfl
 .obtain⟨a,ns,rfl,hS,z,hQ⟩:=h;have hu:=Ln y;have R:Room 1 _:=y.mono (by decide);refine Cp _ (oN (i:=1) Dd.nd rfl (Or.inl rfl) (qM J R rfl g.m g.k g.b .nil qA (hL (pv 0) nI))) ?_;refine⟨_,rfl,a,ns,rfl,hS,z,λd c H1 D1 _ _ _=>?_⟩;refine⟨_,(hO (qL (oP (rM (dK (wN (dK (vV hu (rM (dK hV (dK hV (dK hV (dK hV hH))))) (oV j y (dK (cN 1) (dK hV hH)))) (dK (vV hu (rM (dK hV (dK hV (dK hV hH)))) (oV j y (dK (cN 1) (dK hV hH)))) hH))) (dK (wN (dK hV (dK hV hH))) (dK (wN (dK hV (dK hV hH))) hH))))) (yE (n:=2) rfl (rD (nM 2 Dd.nd) (rD (nM 3 Dd.nd) xO))) (hO (nX 4 Dd.nd (oV U y (dK (cN 1) (dK (cN 2) (dK (cN 3) hH))))) (nJ (pE (Ft (xW (oV I y (dK (cN 4) (dK (oV l y (dK (cN 4) (dK tR hH))) hH))))) (nJ (oC tR)) pG)))) (nJ (oC tR))),⟨[d,c],λ_=>False,H1⟩,[.n,.v (.r (.ref d)),.n,.n,.n],[],{ nx:=λ_=>False,rt:=λr=>r = .v (.b true) },rfl,?_,?_,?_,?_⟩
  .refine⟨λb o e _=>e,.inr ⟨d,c,rfl,D1⟩,gE,λb O=>absurd O bA,λp L=>?_⟩;have L:p∈[((Sl.n:Sl),some (V.ref a)),(.v (.r (.ref d)),some (V.ref d)),(.n,none),(.n,none),(.n,none)]:=L;simp only[aH,bA,dP] at L;rcases L with rfl | rfl | rfl | rfl | rfl<;>first | trivial | exact⟨_,rfl,.r _⟩
  .refine nG (λX=>∃ B D G,X=[.n,.v (.r (.ref d)),B,D,G]) (λN hN=>?_) ?_
   .unfold Gr iV;refine⟨by show 4<=1000;decide,⟨d,c,4,rfl,rfl,by decide,by decide,λr y=>?_⟩⟩;obtain⟨v,M,av⟩:=Pe (ns:=[5,5,5,6]) (r:=r) (by show r<4;omega);refine⟨.inl rfl,_,av,?_⟩;refine⟨by show 3<=1000;decide,⟨d,c,3,rfl,rfl,by decide,by decide,λr' ac=>?_⟩⟩;obtain⟨u,q,au⟩:=Pe (ns:=[9,9,24]) (r:=r') (by show r'<3;omega);refine⟨.inl rfl,_,au,by show 2<=1000;decide,by show 2<=1000;decide,by show 2<=1000;decide,by show 3<=1000;decide,?_⟩;have M:∃ n:Nat,v=n/\n<=6:=by
     simp only[aH,bA,dP] at M;rcases M with rfl | rfl | rfl | rfl
     .exact⟨5,rfl,by decide⟩
     .exact⟨5,rfl,by decide⟩
     .exact⟨5,rfl,by decide⟩
     .exact⟨6,rfl,by decide⟩
    have q:∃ n:Nat,u=n/\n<=24:=by
     simp only[aH,bA,dP] at q;rcases q with rfl | rfl | rfl
     .exact⟨9,rfl,by decide⟩
     .exact⟨9,rfl,by decide⟩
     .exact⟨24,rfl,by decide⟩
    obtain⟨n,rfl,hn⟩:=M;obtain⟨m,rfl,hm⟩:=q;refine⟨λ_ X=>∃ B D G,X=[.n,.v (.r (.ref d)),B,D,G],⟨_,_,_,rfl⟩,λi dd x hd S=>?_,λx h=>hN x h⟩;obtain⟨B,D,G,e⟩:=S;subst e;obtain⟨a,b,rfl,ha,O⟩:∃ a b:Nat,dd = .t [.int a,.int b]/\a<=6/\b<=24:=by
     have:=aK hd;simp only[aH,bA,dP] at this;rcases this with rfl | rfl | rfl
     .exact⟨n,m,rfl,hn,hm⟩
     .exact⟨3,5,rfl,by decide,by decide⟩
     .exact⟨4,3,rfl,by decide,by decide⟩
    refine⟨rfl,rfl,d,c,a,b,rfl,rfl,ha,O,λC hC=>?_⟩;refine⟨.inl rfl,C,rfl,Ut hC,?_⟩;refine⟨.inl rfl,C,rfl,Vm hC,?_⟩;refine⟨.inl rfl,rfl,true,rfl,wV ?_⟩;exact⟨_,_,_,rfl⟩
   rintro _ ⟨B,D,G,rfl⟩;rfl
  .intro x Y Z _ _ _;exact⟨False.elim,False.elim,False.elim⟩
  .rintro r v x Y Z _ d1 rfl;obtain rfl:=d1.valAt.bl_inv;exact hQ Z
end
def DF (K:mZ) (x:Af) (st:Stmt):Prop:=∃ (f:Ad) (e a:Ab Ad) (sl:Array (Ab Ac)) (d kV c pm cd b:Ac),PySem.W.nsIn K mainGlobals x=some (some (.ref f))/\K.lookup f=some ⟨d,e,.func (PySem.W.fnOf x x (uL st) (sT st) (nS st) .none kV c pm a cd b),sl⟩/\PySem.W.codeIn K cd x=true/\PySem.W.keepIn K (.ref f)=true
def NZ (K:mZ) (x:Af):Prop:=PySem.W.nsIn K mainGlobals x=some none
theorem df_mk {K:mZ}{st:Stmt}{sl:Array (Ab Ac)}{kV cd:Ac}(a:PySem.W.nsIn K mainGlobals x=some (some (.ref f))) (l:K.lookup f=some ⟨p,r,.func (PySem.W.fnOf x x (uL st) (sT st) (nS st) .none kV o pm g cd j),sl⟩) (c:PySem.W.codeIn K cd x=true) (k:PySem.W.keepIn K (.ref f)=true):DF K x st:=⟨f,r,g,sl,p,kV,o,pm,cd,j,a,l,c,k⟩
theorem Fn {K:mZ}{st:Stmt}(o:Aa Af) (X:K.In h) (G:h.Ns mainGlobals J) (d:DF K x st)
  (I:∀ (kV j pm:Ac) (r:Ab Ad) (g C:Ac) (p:Aa Ac),p.length=o.length->bindArgs (PySem.W.fnOf x x (uL st) (sT st) (nS st) .none kV j pm r g C) ⟨p,[]⟩=pure (o.zip p)):∃ f fd,Gd K J x st o f fd:=by
 obtain⟨f,i,r,sl,e,kV,b,pm,cd,C,a,l,c,k⟩:=d;have F:=Nk (st:=st) l c k;exact⟨f,_,F,PySem.W.mg_of X G a,k,F.binds I⟩
theorem LR {K:mZ}{st:Stmt}(X:K.In h) (G:h.Ns mainGlobals j) (d:DF K x st) (g:∀ a b c d e f,bindArgs (PySem.W.fnOf x x (uL st) (sT st) (nS st) .none a b c d e f) ⟨[],[]⟩=pure []:=by intros;rfl):∃ f fd,Gd K j x st [] f fd :=
 Fn [] X G d λa b c d e f k i=>by rcases k with _ | _<;>first | exact g a b c d e f | cases i
theorem zU {K:mZ}{st:Stmt}(j:Af) (X:K.In h) (G:h.Ns mainGlobals o) (d:DF K x st) (l:∀ a b c d e f g,bindArgs (PySem.W.fnOf x x (uL st) (sT st) (nS st) .none a b c d e f) ⟨[g],[]⟩=pure [(j,g)]:=by intros;rfl):∃ f fd,Gd K o x st [j] f fd :=
 Fn [j] X G d λa b c d e f k i=>by rcases k with _ | ⟨g,_ | _⟩<;>first | exact l a b c d e f g | cases i
theorem qO {K:mZ}{st:Stmt}(l o:Af) (X:K.In h) (G:h.Ns mainGlobals r) (d:DF K x st) (p:∀ a b c d e f g j,bindArgs (PySem.W.fnOf x x (uL st) (sT st) (nS st) .none a b c d e f) ⟨[g,j],[]⟩=pure [(l,g),(o,j)]:=by intros;rfl):∃ f fd,Gd K r x st [l,o] f fd :=
 Fn [l,o] X G d λa b c d e f k i=>by rcases k with _ | ⟨g,_ | ⟨j,_ | _⟩⟩<;>first | exact p a b c d e f g j | cases i
theorem Ka {K:mZ}{st:Stmt}(o p r:Af) (X:K.In h) (G:h.Ns mainGlobals I) (d:DF K x st) (C:∀ a b c d e f g j l,bindArgs (PySem.W.fnOf x x (uL st) (sT st) (nS st) .none a b c d e f) ⟨[g,j,l],[]⟩=pure [(o,g),(p,j),(r,l)]:=by intros;rfl):∃ f fd,Gd K I x st [o,p,r] f fd :=
 Fn [o,p,r] X G d λa b c d e f k i=>by rcases k with _ | ⟨g,_ | ⟨j,_ | ⟨l,_ | _⟩⟩⟩<;>first | exact C a b c d e f g j l | cases i
theorem all_mk {l:PySem.W.OpenLaw}{K:mZ}(X:K.In h) (G:h.Ns mainGlobals mg) (bw:mg "law" = some (.ref fa))
  (d1:DF K "check_there" G4)
  (d2:DF K "told_by" Ha)
  (d3:DF K "side_bits" Hk)
  (d4:DF K "gate_bit" Ee)
  (d5:DF K "all_bits" Ep)
  (d6:DF K "equations" Fz)
  (d7:DF K "things_of" Dz)
  (d8:DF K "value_table" En)
  (d9:DF K "thing_value" E5)
  (a6:DF K "reduced" Dv)
  (a7:DF K "cleared" Ec)
  (a8:DF K "without_divisor" B0)
  (a9:DF K "common_divisor" G6)
  (ba:DF K "divisor_of_two" B2)
  (bb:DF K "shown_equation" Fe)
  (bc:DF K "_law_deck" G3)
  (bd:DF K "_law_take" xG)
  (be:DF K "_law_kept" B5)
  (bf:DF K "_law_made_names" Gc)
  (bg:DF K "_law_names" Gw)
  (bh:DF K "_law_gate" G0)
  (bi:DF K "_law_cell" Fs)
  (bj:DF K "_law_gate_bit" F8)
  (bm:DF K "_law_all_bits" Hg)
  (bn:DF K "_law_bits" Gh)
  (bo:DF K "_law_things" Hl)
  (bp:DF K "_law_worths" Hj)
  (bq:DF K "_law_divisor" Au)
  (br:DF K "_law_rank" Ga)
  (bt:DF K "_law_is_reduced" Gu)
  (bu:DF K "_law_right" Fq)
  (bv:DF K "law" yP)
  (z1:NZ K "len")
  (z2:NZ K "range")
  (z3:NZ K "sum")
  (z4:NZ K "min")
  (z5:NZ K "max")
  (z6:NZ K "tuple")
  (z7:NZ K "list")
  (z8:NZ K "set")
  (z9:NZ K "dict")
  (bx:NZ K "int")
  (bz:NZ K "str")
  (b0:NZ K "zip")
  (b1:NZ K "enumerate")
  (b2:NZ K "all")
  (b3:NZ K "any")
  (b4:NZ K "isinstance")
  (b5:NZ K "sorted")
  (b6:NZ K "abs")
  (b7:NZ K "reversed")
  (b8:NZ K "bool")
  : ∃ fd:FuncData,(∀ (s:Ae) (v:Ac),BindsTo s fd ⟨[v],[]⟩ [("script",v)])/\∀ base:Ag,K.In base->base.Ns mainGlobals mg->FnOk l.prog w K mg base oQ 7 fa fd ["script"] (Fi K):=by
 obtain⟨f1,e1,Q⟩:=qO "names" "given" X G d1;obtain⟨f2,e2,a2⟩:=qO "cell" "bits" X G d2;obtain⟨f3,e3,ab⟩:=qO "cell" "bits" X G d3;obtain⟨f4,e4,aj⟩:=qO "word" "bits" X G d4;obtain⟨f5,e5,ai⟩:=zU "count" X G d5;obtain⟨f6,e6,U⟩:=qO "cell" "pairs" X G d6;obtain⟨f7,e7,ac⟩:=qO "cell" "pairs" X G d7;obtain⟨f8,e8,Y⟩:=qO "cell" "things" X G d8;obtain⟨f9,e9,V⟩:=qO "thing" "known" X G d9;obtain⟨c3,b9,a1⟩:=zU "table" X G a6;obtain⟨c4,ca,a0⟩:=Ka "values" "by" "at" X G a7;obtain⟨c5,cc,m⟩:=zU "numbers" X G a8;obtain⟨c6,cf,n⟩:=zU "numbers" X G a9;obtain⟨c7,cg,q⟩:=qO "one" "other" X G ba;obtain⟨c8,ch,z⟩:=Ka "things" "first" "heads" X G bb;obtain⟨c9,cj,E⟩:=zU "script" X G bc;obtain⟨da,ck,b⟩:=qO "deck" "many" X G bd;obtain⟨db,cm,aq⟩:=LR X G be;obtain⟨dd,cn,u⟩:=qO "deck" "many" X G bf;obtain⟨de,cp,y⟩:=qO "deck" "many" X G bg;obtain⟨df,cq,H⟩:=qO "deck" "known" X G bh;obtain⟨dh,cs,ao⟩:=Ka "deck" "inputs" "gates" X G bi;obtain⟨di,cu,N⟩:=qO "word" "bits" X G bj;obtain⟨dj,cv,M⟩:=qO "cell" "bits" X G bm;obtain⟨dk,cw,ak⟩:=qO "names" "number" X G bn;obtain⟨dm,cx,r⟩:=qO "cell" "pairs" X G bo;obtain⟨dn,cy,C⟩:=qO "cell" "things" X G bp;obtain⟨dp,cz,S⟩:=zU "row" X G bq;obtain⟨dq,c0,ar⟩:=qO "rows" "many" X G br;obtain⟨dr,c1,t⟩:=qO "things" "rows" X G bt;obtain⟨ds,c2,aa⟩:=qO "cell" "found" X G bu;obtain⟨f,od,an,sl,oc,kV,dc,pm,cd,ct,a,lk,c,k⟩:=bv;cases bw.symm.trans (PySem.W.mg_of X G a);have FL:=Nk (st:=yP) lk c k;refine⟨PySem.W.fnOf "law" "law" (uL yP) (sT yP) (nS yP) .none kV dc pm an cd ct,λs v=>.of_eq rfl,λbase _ _=>?_⟩;have T:Txt mg:=⟨bV X G z1,bV X G z2,bV X G z3,bV X G z4,bV X G z5,bV X G z6,bV X G z7,bV X G z8,bV X G z9,bV X G bx,bV X G bz,bV X G b0,bV X G b1,bV X G b2,bV X G b3,bV X G b4,bV X G b5,bV X G b6,bV X G b7,bV X G b8⟩;have L:∀ {k x st ps R f fd},Gd K mg x st ps f fd->pQ l.prog w K mg base k x st ps R->Kn l.prog w K mg base k x st ps R:=λg o=>⟨_,_,g,o _ _ g.F⟩
 have ax:=L ao λ_ _ F=>Xh (V8 F T b y H (Cj b.F T) (Zg y.F T b aq u) (AV H.F T b))
 have Z:=L Q λ_ _=>MT
 have av:=L aj (FI T);have a5:=L a2 (Wd T Z av);have au:=L ai (IU T);have ag:=L ab (BP T a5);have i:=L q KN;have A:=L n (KA T i);have e:=L m (IY T A);have a3:=L a0 (Yg T e);have a4:=L a1 (JS T a3);have ah:=L ac (ES T);have j:=L V (AN T);have p:=L Y (FU T au ag j);have D:=L z (Z2 T i e);have P:=L N (AG T);have O:=L M (LJ T P);have aw:=L ak (Xv T);have d:=L S (JE T);have I:=L r (Zi T);have J:=L C (DW T O aw);have ay:=L ar (IP T d);have B:=L t (Y3 T d);have az:=L b λ_ _ F=>Xe (Cj F T)
 have ae:=L U (DC T ah p a4 D);have af:=L aa (GF T I J d ay B);exact BG FL T E az ax ae af (KQ E.F T)
theorem walk {l:PySem.W.OpenLaw}{q:Ah}{g:Aa Af}{C:(Af->Ab Ac)->Ag->Prop}{p:World->Ag->Prop}{d:DefRec}{K:Params->mZ}(J:l.most=some 63) (o:d.params.defaults=[])
  (I:∀ (w:World) (h:Ag),p w h->(K w.params).In h)
  (F:∀ (w:World) (j:Af->Ab Ac) (r:Ad) (h:Ag),(K w.params).In h->h.Ns mainGlobals j->j d.name=some (.ref r) ->∃ fd:FuncData,(∀ (s:Ae) (u:Ac),BindsTo s fd ⟨[u],[]⟩ [("script",u)])/\∀ base:Ag,(K w.params).In base->base.Ns mainGlobals j->FnOk l.prog w (K w.params) j base oQ 7 r fd ["script"] (Fi (K w.params))) :
  PySem.W.WalkO q g C p l.row.toRowW d [] (λf T=>PySem.call f T) :=
 L2.walk_of (n:=63) (k:=7) (x := "script") (CX:=λ_=>oQ) (sp:=λw=>Fi (K w.params)) J (by decide) o ⟨rfl,by decide,by decide⟩ I F (λ_ _ a e c _ b=>⟨a,e,rfl,b,c,λ_=>rfl⟩) λ_ _ _ _ _ z=>z
end Lw
namespace PySem.W.Fast
theorem tw4063015654449559663:True:=⟨⟩
theorem tw14850127526180164510:True:=⟨⟩
theorem tw16627174074352988451:True:=⟨⟩
theorem tw6830528197344941155:True:=⟨⟩
theorem tw767375191110043734:True:=⟨⟩
theorem tw14304318480326139848:True:=⟨⟩
theorem tw4507844849510072935:True:=⟨⟩
theorem tw15790422983510910128:True:=⟨⟩
theorem tw9478470144067976073:True:=⟨⟩
theorem tw2153348651397254272:True:=⟨⟩
theorem tw15555762256942538316:True:=⟨⟩
theorem tw1103471926203009828:True:=⟨⟩
theorem tw5031331866671619166:True:=⟨⟩
theorem tw3486006787226305246:True:=⟨⟩
theorem tw14308318476016777244:True:=⟨⟩
theorem tw13180565448523491771:True:=⟨⟩
theorem tw13885254061331886151:True:=⟨⟩
theorem tw1976254123734623102:True:=⟨⟩
theorem tw14269416903210686281:True:=⟨⟩
theorem tw15771324061899746869:True:=⟨⟩
theorem tw6061421867830511298:True:=⟨⟩
theorem tw2187527410441613094:True:=⟨⟩
theorem tw2763072020812117089:True:=⟨⟩
theorem tw16464774063401559459:True:=⟨⟩
theorem tw2951347304753275541:True:=⟨⟩
theorem tw2191109934630572263:True:=⟨⟩
theorem tw17918852873379242124:True:=⟨⟩
theorem tw11261775020798970150:True:=⟨⟩
theorem tw2888450134431421818:True:=⟨⟩
theorem tw17810941192503912680:True:=⟨⟩
theorem tw8336893985514681471:True:=⟨⟩
theorem tw16666496395644956805:True:=⟨⟩
theorem tw11707620826711573658:True:=⟨⟩
theorem tw11402766409803613235:True:=⟨⟩
theorem tw18401643632773402671:True:=⟨⟩
theorem tw14772812967350985373:True:=⟨⟩
theorem tw16119145301455841530:True:=⟨⟩
theorem tw11304167230826357399:True:=⟨⟩
theorem tw4397470252124670130:True:=⟨⟩
theorem tw14049121346439429496:True:=⟨⟩
theorem tw4680416898995405845:True:=⟨⟩
theorem tw17618441276041480192:True:=⟨⟩
theorem tw8836198779728323252:True:=⟨⟩
theorem tw16516118093687592653:True:=⟨⟩
theorem tw581933412111119735:True:=⟨⟩
theorem tw6768268126386057374:True:=⟨⟩
theorem tw18331804374345465834:True:=⟨⟩
theorem tw6132264913263038707:True:=⟨⟩
theorem tw16650876898357288655:True:=⟨⟩
theorem tw8679717703577528393:True:=⟨⟩
theorem tw398419665984432581:True:=⟨⟩
theorem tw14818824896374776639:True:=⟨⟩
theorem tw8121600514396662931:True:=⟨⟩
theorem tw301308335749113270:True:=⟨⟩
theorem tw15957875320812976979:True:=⟨⟩
theorem tw15878455001532726069:True:=⟨⟩
theorem tw6937374736853782069:True:=⟨⟩
theorem tw4289835352256890435:True:=⟨⟩
theorem tw9267637437390194729:True:=⟨⟩
theorem tw3869028011565142839:True:=⟨⟩
theorem tw11007672724150230651:True:=⟨⟩
theorem tw777449701562695140:True:=⟨⟩
theorem tw18189236309700196950:True:=⟨⟩
theorem tw16935125960159080550:True:=⟨⟩
theorem tw18152448690157411436:True:=⟨⟩
theorem tw15417872324306389171:True:=⟨⟩
theorem tw3447531349723079580:True:=⟨⟩
theorem tw7044238794376520956:True:=⟨⟩
theorem tw16080206486885771030:True:=⟨⟩
theorem tw11879444074531872574:True:=⟨⟩
theorem tw15307507630324587959:True:=⟨⟩
theorem tw4526351021333539260:True:=⟨⟩
theorem tw15237386913915899599:True:=⟨⟩
theorem tw17018523980066538818:True:=⟨⟩
theorem tw12568239407189325685:True:=⟨⟩
theorem tw13331737949954713854:True:=⟨⟩
theorem tw17848742415737317361:True:=⟨⟩
theorem tw17511014432660147806:True:=⟨⟩
theorem tw12656224613324750323:True:=⟨⟩
theorem tw8183425952708708163:True:=⟨⟩
theorem tw17102821843727329533:True:=⟨⟩
theorem tw8800931308451128188:True:=⟨⟩
theorem tw11196971293942775998:True:=⟨⟩
theorem tw8969976078284314645:True:=⟨⟩
theorem tw11699087381100077680:True:=⟨⟩
theorem tw860248547608108394:True:=⟨⟩
theorem tw14880442289262222331:True:=⟨⟩
theorem tw2606218416296204311:True:=⟨⟩
end PySem.W.Fast
open PySem PySem.W PyProof.Rows
set_option maxRecDepth 100000 in
set_option maxHeartbeats 0 in
theorem PySem.Challenge.cw_laidcells_k08_equations_with_pairs_holds : PySem.Challenge.rw_laidcells_k08_equations_with_pairs.Holds := by
 w_on;o_law;k_head;(case hw=>w_witness2)
 k_fill
 refine Lw.walk (l:=PySem.Challenge.rw_laidcells_k08_equations_with_pairs) rfl rfl (fun w h Y=>PySem.W.kIn_of Y) ?F
 case F =>
  intro w mg fa h KX G hmg;refine' Lw.all_mk KX G hmg ?_ ?_ ?_ ?_ ?_ ?_ ?_ ?_ ?_ ?_ ?_ ?_ ?_ ?_ ?_ ?_ ?_ ?_ ?_ ?_ ?_ ?_ ?_ ?_ ?_ ?_ ?_ ?_ ?_ ?_ ?_ ?_ ?_ ?_ ?_ ?_ ?_ ?_ ?_ ?_ ?_ ?_ ?_ ?_ ?_ ?_ ?_ ?_ ?_ ?_ ?_ ?_
  all_goals try refine' Lw.df_mk ?_ ?_ ?_ ?_
  all_goals try unfold Lw.NZ
  all_goals try first | k_is | (dsimp only;k_is)
