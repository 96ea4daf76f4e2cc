import PyProof.Rows.All
import Wide.All
import OpenK.AllK
import Wide.FinOn
import Lean
import PyProof.EqAt
import PyProof.EqKinds
import PyProof.TupleCall
import PyProof.StationsW
import PyProof.Commute
import PyProof.ExcClass3
import PyProof.ExcInit
import OpenK.KCls
import OpenK.KMake
import PyProof.ExcArgsOwn
import PyProof.InstStoreFacts
import PyProof.MaxThree
import KE.KMinKey
import KE.KIntText
import PyProof.DictUpdate
import PyProof.Draws
import PyProof.EnumMake
import PyProof.DictIter
import KE.KDictSum
import KE.KRevSl
import PyProof.Rows.SortStr
import PyProof.Rows.SortWalk
import PyProof.DictValues
import PyProof.DictWalks
import PyProof.MeetsDictList
import KE.KSortTup
import KE.KRevIter
import PySem.Challenge.RW_laidcells_k18_whole_shown_at_wide_widths
set_option Elab.async false
set_option linter.all false
set_option compiler.extract_closed false
set_option maxRecDepth 100000
set_option maxHeartbeats 20000000
noncomputable section
abbrev Aa:=@List
abbrev Ab:=@Option
abbrev Ac:=@PySem.Value
abbrev Ad:=@PySem.Addr
abbrev Ae:=@PySem.Shared
abbrev Af:=@PySem.Str
abbrev Ag:=@PySem.Heap
abbrev Ah:=@PySem.Program
abbrev mH:=PySem.W.Frag
abbrev aA:=@List.length_map
abbrev aB:=@PySem.wpAny_bind
abbrev aE:=@PySem.wpAny_pure
abbrev aF:=@List.mem_cons_self
abbrev aG:=@PySem.Heap.get?_push_of_some
abbrev aH:=@List.getElem?_eq_getElem
abbrev aI:=@List.mem_map
abbrev aJ:=@List.map_map
abbrev aK:=@List.map_cons
abbrev aL:=@List.mem_of_getElem?
abbrev aM:=@if_neg
abbrev aN:=@List.mem_append_right
abbrev aO:=@List.mem_cons
abbrev aP:=@List.mem_cons_of_mem
abbrev aQ:=@List.map_append
abbrev aR:=@if_pos
abbrev aT:=@List.mem_append_left
abbrev aU:=@List.mem_append
abbrev aV:=@List.mem_singleton
abbrev aW:=@Nat.le_refl
abbrev aX:=@List.getElem?_eq_some_iff
abbrev aY:=@Bool.false_ne_true
abbrev aZ:=@List.size_toArray
abbrev bA:=@PySem.Heap.lt_size
abbrev bB:=@PySem.Heap.get?_push_size
abbrev bC:=@List.getElem?_map
abbrev bD:=@List.nodup_append
abbrev bE:=@decide_eq_true
abbrev bF:=@List.length_append
abbrev bG:=@decide_eq_false
abbrev bH:=@List.not_mem_nil
abbrev bI:=@Nat.lt_of_lt_of_le
abbrev bJ:=@List.append_assoc
abbrev bK:=@Nat.ne_of_lt
abbrev bL:=@List.take_of_length_le
abbrev bM:=@List.mem_filter
abbrev bN:=@Nat.le_trans
abbrev bO:=@List.length_set
abbrev bP:=@List.nodup_cons
abbrev bQ:=@List.length_cons
abbrev bR:=@List.take_add_one
abbrev bS:=@List.length_take
abbrev bT:=@PySem.F.plainAttrs_list
abbrev bU:=@Option.some.inj
abbrev bV:=@List.map_congr_left
abbrev bW:=@List.any_eq_true
abbrev bX:=@PySem.W.mg_none_of
abbrev bY:=@PySem.wpAny_holding
abbrev bZ:=@PySem.F.slot_list_append
abbrev cA:=@PySem.F.type_list_append
abbrev cB:=@List.length_filter_le
abbrev cC:=@congrArg
abbrev cD:=@of_decide_eq_true
abbrev cE:=@Bool.and_eq_true
abbrev cF:=@List.all_eq_true
abbrev cG:=@PySem.boot_len
abbrev cH:=@Int.toNat_natCast
abbrev cI:=@Array.getElem?_eq_getElem
abbrev cJ:=@Function.comp_def
abbrev cK:=@Option.map_eq_some_iff
abbrev cL:=@PyProof.Rows.boot_dict
abbrev cM:=@List.getElem_mem
abbrev cN:=@PyProof.Rows.boot_tuple
abbrev cO:=@Nat.lt_of_le_of_lt
abbrev cP:=@List.length_range
abbrev cQ:=@List.cons_append
abbrev cR:=@PyProof.Rows.callWith_type1
abbrev cS:=@List.find?_cons
abbrev cT:=@PySem.Heap.SameBut.update
abbrev cU:=@PySem.wpAny_callSpecial?_slot
abbrev cV:=@PySem.wpAny_mono
abbrev cW:=@List.zip_cons_cons
abbrev cX:=@List.getD_eq_getElem?_getD
abbrev cY:=@beq_eq_false_iff_ne
abbrev cZ:=@List.append_nil
abbrev dB:=@PySem.wpAny_call_entry
abbrev dD:=@List.take_length
abbrev dF:=@Nat.zero_le
abbrev dH:=@Option.isSome_iff_exists
abbrev dJ:=@List.cons.inj
abbrev dL:=@List.length_replicate
abbrev dM:=@Array.getElem?_toList
abbrev dN:=@List.replicate_succ
abbrev dO:=@PySem.wpAny_isInstance
abbrev dP:=@List.lookup_cons
abbrev dQ:=@decide_eq_true_eq
abbrev dR:=@List.sum_cons
abbrev dU:=@List.getElem?_set_ne
abbrev dX:=@PySem.wpAny_field
abbrev dY:=@PySem.wpAny_of_eq
abbrev dZ:=@Bool.false_eq_true
abbrev eA:=@PySem.Heap.size_push
abbrev eC:=@PySem.mem_of_lookup
abbrev eD:=@List.getElem_of_mem
abbrev eF:=@Int.eq_ofNat_of_zero_le
abbrev eI:=@Ne.symm
abbrev eJ:=@List.mem_range
abbrev eK:=@List.getElem?_append_right
abbrev eL:=@Int.emod_lt_of_pos
abbrev eM:=@Nat.lt_irrefl
abbrev eO:=@PySem.W.kia_one
abbrev eP:=@Nat.le_of_lt
abbrev eQ:=@Array.length_toList
abbrev eR:=@List.mem_map_of_mem
abbrev eS:=@List.any_eq_false
abbrev eT:=@PySem.wpAny_newObj_type
abbrev eU:=@PySem.Paired.length
abbrev eV:=@PySem.F.slot_dict_keyiterator_next
abbrev eW:=@PyProof.Rows.boot_isinstance
abbrev eX:=@PySem.wpAny_Call_Name_kw
abbrev eY:=@PySem.Around.under_plainId
abbrev eZ:=@List.any_cons
abbrev fA:=@PySem.wpAny_truthy_bool
abbrev fB:=@PySem.wpAny_pyIter_list
abbrev fC:=@PySem.wpAny_typeOf
abbrev fE:=@List.nodup_nil
abbrev fF:=@PySem.wpAny_dictEntries
abbrev fG:=@Int.emod_nonneg
abbrev fH:=@PySem.Heap.get?_update_self
abbrev fJ:=@List.length_singleton
abbrev fL:=@or_false
abbrev fN:=@List.getElem?_eq_none
abbrev fO:=@List.length_drop
abbrev fP:=@PySem.wpAny_attempt
abbrev fQ:=@PySem.wpAny_seqItems
abbrev fR:=@List.of_mem_zip
abbrev fS:=@List.nil_append
abbrev fU:=@List.length_nil
abbrev fV:=@PySem.codeAny_builtin
abbrev fW:=@List.cons.injEq
abbrev fX:=@PySem.F.slot_zip_next
abbrev fY:=@if_false
abbrev fZ:=@PyProof.Rows.F.plain_set_update_loop
abbrev gA:=@if_true
abbrev gB:=@Array.getElem?_eq_none
abbrev gC:=@Sum.inr.inj
abbrev gE:=@Nat.le_add_right
abbrev gF:=@PySem.tupleKind_room_in1
abbrev gG:=@PySem.F.slot_tuple_iterator_next
abbrev gI:=@PyProof.Rows.boot_sum
abbrev gJ:=@List.take_append_drop
abbrev gL:=@PyProof.Rows.boot_all
abbrev gO:=@List.getElem?_append_left
abbrev gQ:=@PySem.wpAny_passesOwn
abbrev gR:=@Bool.eq_iff_iff
abbrev gS:=@Option.map_some
abbrev gU:=@List.flatten_cons
abbrev gW:=@List.mem_of_mem_take
abbrev gX:=@Nat.pow_le_pow_right
abbrev gY:=@Int.mul_left_comm
abbrev gZ:=@List.set_eq_of_length_le
abbrev hU:=@PyProof.Rows.slot_tuple_getitem
abbrev hV:=@List.filterMap_cons
abbrev hX:=@List.length_pos_iff
abbrev hZ:=@PySem.F.plainAttrs_dict
abbrev iA:=@List.perm_middle
abbrev iB:=@List.eq_nil_iff_forall_not_mem
abbrev iC:=@Int.mul_add
abbrev iD:=@Nat.ne_of_gt
abbrev iE:=@PySem.Calls.spliced_cons
abbrev iF:=@PySem.F.slot_str_split
abbrev iG:=@PySem.wpAny_setField_rec
abbrev iH:=@List.getElem_range
abbrev iJ:=@List.filter_eq_nil_iff
abbrev iK:=@PySem.PassesOwn.never
abbrev iL:=@List.length_zip
abbrev iM:=@PySem.wpAny_notOrdered_dict
abbrev iN:=@Int.fdiv_eq_ediv_of_nonneg
abbrev iP:=@Nat.le_succ
abbrev iQ:=@PySem.call_meets
abbrev iR:=@beq_iff_eq
abbrev iS:=@Bool.and_eq_true_iff
abbrev iT:=@PySem.Obj.data_mapDictKeys
abbrev iU:=@beq_self_eq_true
abbrev iW:=@Int.mul_zero
abbrev iX:=@Int.add_zero
abbrev iY:=@List.mem_of_find?_eq_some
abbrev iZ:=@PyProof.Rows.F.entry_set_update_loop
abbrev jA:=@PySem.F.args_tuple_add_2
abbrev jB:=@PySem.plainId_quiet
abbrev jC:=@PySem.F.slot_list_getattribute
abbrev jD:=@PySem.F.args_str_split_2
abbrev jE:=@PySem.F.slot_dict_update
abbrev jF:=@PySem.F.type_dict_update
abbrev jG:=@List.foldl_cons
abbrev jH:=@PySem.wpAny_specialOf
abbrev jI:=@PySem.wpAny_dictEpoch
abbrev jJ:=@Nat.eq_zero_or_pos
abbrev jK:=@PySem.sub_AttributeError
abbrev jL:=@PySem.wpAny_rule
abbrev jM:=@PySem.Obj.data_mapFields
abbrev jN:=@PySem.F.entry_tuple_add
abbrev jO:=@PySem.F.entry_str_split
abbrev jP:=@PySem.F.slot_zip_getattribute
abbrev jQ:=@List.map_id
abbrev jR:=@List.length_eq_zero_iff
abbrev jS:=@PySem.wpAny_pyIter_rangeiter
abbrev jT:=@PySem.Calls.spliced_nil
abbrev jU:=@PySem.F.slot_tuple_add
abbrev jV:=@List.foldl_append
abbrev jW:=@List.all_map
abbrev jX:=@List.ext_getElem?
abbrev jY:=@PyProof.Rows.boot_list
abbrev jZ:=@PySem.F.args_zip_next_1
abbrev kA:=@PySem.atKey_none_of_get
abbrev kB:=@PySem.F.slot_dict_get
abbrev kC:=@List.filterMap_append
abbrev kE:=@List.Perm.append_left
abbrev kF:=@PyProof.Rows.boot_int
abbrev kJ:=@PySem.F.slot_range_reversed
abbrev kK:=@Int.emod_add_mul_ediv
abbrev kL:=@PySem.F.entry_zip_next
abbrev kM:=@Int.mul_assoc
abbrev kQ:=@PySem.sizeLine_eq
abbrev kR:=@Array.mem_toList_iff
abbrev kS:=@PySem.wpAny_pyIter_keyiter
abbrev kT:=@PySem.wpAny_execs_nil
abbrev kU:=@List.forIn_cons
abbrev kW:=@Nat.le_antisymm
abbrev kX:=@List.range_succ
abbrev kY:=@List.dropLast_concat_getLast
abbrev kZ:=@ne_true_of_eq_false
abbrev lA:=@PySem.Obj.isFreed_of_dict
abbrev lC:=@List.map_nil
abbrev lE:=@List.any_map
abbrev lF:=@Nat.lt_or_ge
abbrev lG:=@List.mem_filterMap
abbrev lH:=@List.filterMap_map
abbrev lI:=@PySem.typeIs_str
abbrev lJ:=@Option.isSome_some
abbrev lK:=@List.drop_zero
abbrev lL:=@List.take_zero
abbrev lM:=@List.mem_replicate
abbrev lN:=@List.filter_append
abbrev lP:=@PySem.wpAny_setField
abbrev lQ:=@List.find?_eq_none
abbrev lR:=@Option.isSome_map
abbrev lS:=@Option.some.injEq
abbrev lT:=@List.getElem?_inj
abbrev lU:=@PySem.wpAny_standAt
abbrev lV:=@List.all_cons
abbrev lW:=@Array.toList_inj
abbrev lX:=@List.map_fst_zip
abbrev lY:=@Nat.le_of_eq
abbrev lZ:=@Int.mul_comm
abbrev mB:=@List.zip_append
abbrev mC:=@Int.ediv_nonneg
abbrev mD:=@Bool.or_eq_true
abbrev mE:=@Nat.min_eq_left
abbrev mF:=@List.sum_append
abbrev mG:=@not_or
namespace L2
open PySem PySem.Spec PyProof.Rows
abbrev dT:=Sum Int Af
noncomputable def zR:dT->Ac->Bool
 | .inl k,v=>Value.isInt k v
 | .inr x,v=>Value.isStrOf x v
def T8 (w:World):dT->Int
 | .inl k=>hashInt k
 | .inr x=>hashStr w x
theorem wY:∀ {k:dT}{v:Ac},zR k v=true->(∃ i t,k=Sum.inl i/\v=Value.int i t)\/(∃ x t,k=Sum.inr x/\v=Value.str x t)
 | .inl i,v,h=>by
  obtain⟨t,e⟩:=Value.isInt_shape (k:=i) (v:=v) h;exact .inl ⟨i,t,rfl,e⟩
 | .inr x,v,h=>by
  obtain⟨t,e⟩:=Value.isStrOf_shape (x:=x) (v:=v) h;exact .inr ⟨x,t,rfl,e⟩
theorem FG (i:Int) (t:Tok):zR (.inl i) (.int i t)=true:=by simp[zR,Value.isInt]
theorem JD (x:Af) (t:Tok):zR (.inr x) (.str x t)=true:=by simp[zR,Value.isStrOf]
theorem UW (a b:Int):decide ((Sum.inl a:dT)=Sum.inl b)=(a == b):=by
 by_cases e:a=b
 .subst e;simp
 .have h:¬ (Sum.inl a:dT)=Sum.inl b:=λq=>e (Sum.inl.inj q)
  rw[bG h];exact (cY.mpr e).symm
theorem SW (a b:Af):decide ((Sum.inr a:dT)=Sum.inr b)=decide (a=b):=by
 by_cases e:a=b
 .subst e;simp
 .have h:¬ (Sum.inr a:dT)=Sum.inr b:=λq=>e (gC q)
  rw[bG h,bG e]
theorem KW (a:Int) (b:Af):decide ((Sum.inl a:dT)=Sum.inr b)=false:=bG (λq=>nomatch q)
theorem DH (a:Af) (b:Int):decide ((Sum.inr a:dT)=Sum.inl b)=false:=bG (λq=>nomatch q)
def pK (g:Ah) (w:World):PySem.KeyKind g w dT where
 is:=zR
 hash:=T8 w
 inj:=λv a b m f=>by
  rcases wY m with⟨i,t,rfl,rfl⟩ | ⟨x,t,rfl,rfl⟩
  .rcases wY f with⟨j,u,rfl,e⟩ | ⟨y,u,rfl,e⟩
   .injection e with c _;rw[c]
   .exact nomatch e
  .rcases wY f with⟨j,u,rfl,e⟩ | ⟨y,u,rfl,e⟩
   .exact nomatch e
   .injection e with c _;rw[c]
 byValue:=λk v h=>by
  rcases wY h with⟨i,t,rfl,rfl⟩ | ⟨x,t,rfl,rfl⟩<;>rfl
 pyHash:=λd h=>by
  rcases wY d with⟨i,t,rfl,rfl⟩ | ⟨x,t,rfl,rfl⟩
  .exact wpAny_pyHash_int h
  .exact wpAny_pyHash_str h
 eqBool:=λn d h=>by
  rcases wY n with⟨i,t,rfl,rfl⟩ | ⟨x,t,rfl,rfl⟩
  .rcases wY d with⟨j,u,rfl,rfl⟩ | ⟨y,u,rfl,rfl⟩
   .rw[UW] at h;exact wpAny_eqBool_int h
   .rw[KW] at h;exact SeqAt.EqAt.int_str i t y u _ _ _ _ h
  .rcases wY d with⟨j,u,rfl,rfl⟩ | ⟨y,u,rfl,rfl⟩
   .rw[DH] at h;exact SeqAt.EqAt.str_int x t j u _ _ _ _ h
   .rw[SW] at h;exact wpAny_eqBool_str h
 «strs»:=λk x t v h=>by
  rcases wY h with⟨i,u,rfl,e⟩ | ⟨y,u,rfl,e⟩
  .exact nomatch e
  .injection e with c _;subst c;cases v<;>rfl
theorem EO (g:Ah) (w:World) (i:Int) (t:Tok):(pK g w).is (.inl i) (.int i t)=true:=FG i t
theorem NW (g:Ah) (w:World) (x:Af) (t:Tok):(pK g w).is (.inr x) (.str x t)=true:=JD x t
inductive V where
 | e | b (b:Bool) | int (i:Int) | str (x:Str) | byt (b:Array UInt8) | flt (b:UInt64) | ref (a:Addr) | ty (n:String)
 deriving DecidableEq
def mX:V->Ac->Prop
 | .e,u=>u=Value.none
 | .b b,u=>u=Value.bool b
 | .int i,u=>∃ t,u=Value.int i t
 | .str x,u=>∃ t,u=Value.str x t
 | .byt b,u=>∃ t,u=Value.bytes b t
 | .flt b,u=>∃ t,u=Value.float b t
 | .ref a,u=>u=Value.ref a
 | .ty n,u=>u=Value.type n
abbrev mV:Aa V->Aa Ac->Prop:=Paired mX
theorem mV.length (r:mV j g):j.length=g.length:=eU r
theorem mV.get:∀ {j:Aa V}{g:Aa Ac}{i:Nat}{x:V},mV j g->j[i]?=some x->∃ u,g[i]?=some u/\mX x u
 | _,_,_,_,.nil,e=>by simp at e
 | _,_,0,_,.cons r _,e=>by simp at e;subst e;exact⟨_,rfl,r⟩
 | _,_,i+1,x,.cons _ t,e=>by
  obtain⟨u,a,b⟩:=mV.get (i:=i) (x:=x) t (by simpa using e);exact⟨u,by simpa using a,b⟩
theorem mV.set (r:mX x u):∀ {j:Aa V}{g:Aa Ac}(i:Nat),mV j g->mV (j.set i x) (g.set i u)
 | _,_,_,.nil=>.nil
 | _,_,0,.cons _ t=>.cons r t
 | _,_,i+1,.cons q t=>.cons q (mV.set r i t)
theorem mV.append:∀ {l o:Aa V}{g j:Aa Ac},mV l g->mV o j->mV (l++o) (g++j)
 | _,_,_,_,.nil,s=>s
 | _,_,_,_,.cons r t,s=>.cons r (mV.append t s)
theorem mV.take:∀ {j:Aa V}{g:Aa Ac}(n:Nat),mV j g->mV (j.take n) (g.take n)
 | _,_,0,_=>.nil
 | _,_,_+1,.nil=>.nil
 | _,_,n+1,.cons r t=>.cons r (mV.take n t)
theorem mV.drop:∀ {j:Aa V}{g:Aa Ac}(n:Nat),mV j g->mV (j.drop n) (g.drop n)
 | _,_,0,r=>r
 | _,_,_+1,.nil=>.nil
 | _,_,n+1,.cons _ t=>mV.drop n t
def uS:Ab V->Ab Ac->Prop
 | some v,some u=>mX v u
 | none,none=>True
 | _,_=>False
def KV {g:Type}:Aa (g×V)->Aa (g×Ac)->Prop:=Paired λ(p:g×V) (q:g×Ac)=>p.1=q.1/\mX p.2 q.2
def kV:dT->V
 | .inl i=>.int i
 | .inr x=>.str x
inductive HO where
 | l (xs:List V)
 | t (xs:List V)
 | k (kvs:List (dT×V)) | T (kvs:List (List dT×V))
 | set (S:Int->Bool) (n:Nat)
 | ins (C dx:Addr) (fs:List (Str×V))
 | o (x:Addr)
 | xd (fs:List (Str×V))
 | met (f x:Addr)
 | rng (lo hi:Int)
 | frz (o:Obj) (u:HO)
 | tbl (ps:Array Value)
 | ext (φ:Heap->Prop)
abbrev Hp:=Ad->Ab HO
def upd (H:Hp) (a:Ad) (o:HO):Hp:=λb=>if b=a then some o else H b
theorem mZ:upd H a o a=some o:=by unfold upd;rw[if_pos rfl]
theorem mQ (h:b≠a):upd H a o b=H b:=by unfold upd;rw[if_neg h]
theorem VH:upd (upd H a o) a u=upd H a u:=by
 funext b;unfold upd;split<;>rfl
theorem JT {H:Hp}{a b:Ad}{o u:HO}(h:H a=some o) (g:H b=some u) (d:o≠u):a≠b:=by
 intro e;subst e;rw[h] at g;exact d (bU g)
theorem nN {H:Hp}{a b:Ad}{o:HO}(h:H a=some o) (g:H b=none):a≠b:=by
 intro e;subst e;rw[h] at g;cases g
section
variable (P:Ah) (w:World)
def yB (h:Ag) (a:Ad) (items:Array Ac):Prop:=IsTup h a items/\∃ o,h.get? a=some o/\o.dict=none
theorem yB.new (h:Ag) (items:Array Ac):yB (h.push { cls:=.type "tuple",data:=.seq items }) h.objs.size items:=⟨IsTup.new _ _,_,bB _ rfl,rfl⟩
def nT (H:Hp) (h:Ag) (a:Ad):HO->Prop
 | .l d=>d.length<=sizeLine/\∃ (b:Aa Ac) (n:Nat),mV d b/\h.get? a=some { cls:=.type "list",data:=.seq b.toArray n }
 | .t d=>d.length<=sizeLine/\∃ b:Aa Ac,mV d b/\yB h a b.toArray
 | .k c=>c.length<=sizeLine/\(a == sysModules)=false/\∃ A,KV c A/\h.DictOf (pK P w) a A
 | .T c=>c.length<=sizeLine/\(a == sysModules)=false/\∃ d:Aa (Aa dT×Ad×Ac),
   Paired (λ(p:Aa dT×V) (q:Aa dT×Ad×Ac)=>p.1=q.1/\H q.2.1=some (.t (p.1.map kV))/\mX p.2 q.2.2) c d /\
   ∃ o s B,h.get? a=some o/\o.ExactDict/\o.data = .dict s B/\s.toList=d.map (entryOfKey (tupleKind (pK P w)))/\(d.map (·.1)).Nodup
 | .set S n=>h.SetOf (intKind P w) a S n
 | .ins C i fs=>H i=some (.o a)/\fs.length<=1000/\i≠a/\h.get? a=some (PySem.W.instObj C i) /\
   ∃ e,h.Ns1 i e/\(∀ f,uS (fs.lookup f) (e f))/\PySem.Within e (fs.map (·.1))
 | .o _=>∃ o,h.get? a=some o
 | .xd fs=>∃ e,h.Ns1 a e/\∀ f,uS (fs.lookup f) (e f)
 | .rng lo D=>∃ t u v,h.get? a=some { cls:=.type "range",data:=.fields #[.int lo t,.int D u,.int 1 v] }
 | .frz o u=>h.get? a=some o/\nT H h a u
 | .tbl E=>h.get? a=some { cls:=.none,data:=.fields E }
 | .met f x=>h.get? a=some (PySem.W.methodObj (.ref f) (.ref x))
 | .ext m=>m h/\(∃ o,h.get? a=some o)/\∀ y z:Ag,m y->(∀ o,y.get? a=some o->z.get? a=some o)->m z
def oC (H:Hp) (h:Ag):Prop:=∀ a o,H a=some o->nT P w H h a o
end
section
variable {P:Ah}
theorem nT.lt (x:nT P w H h a o):a<h.objs.size:=by
 cases o with
 | l c=>obtain⟨_,_,_,_,e⟩:=x;exact bA e
 | t c=>obtain⟨_,_,_,p,_⟩:=x;exact p.lt
 | k b=>obtain⟨_,_,_,_,o,_,_,e,_⟩:=x;exact bA e
 | T b=>obtain⟨_,_,_,_,o,_,_,e,_⟩:=x;exact bA e
 | set S n=>obtain⟨o,_,_,_,e,_⟩:=x;exact bA e
 | ins C d fs=>obtain⟨_,_,_,e,_⟩:=x;exact bA e
 | o y=>obtain⟨_,e⟩:=x;exact bA e
 | xd fs=>obtain⟨_,⟨_,_,_,e,_⟩,_⟩:=x;exact bA e
 | rng lo i=>obtain⟨_,_,_,e⟩:=x;exact bA e
 | frz m u=>obtain⟨e,_⟩:=x;exact bA e
 | tbl q=>exact bA (show h.get? a=some _ from x)
 | met f y=>exact bA (show h.get? a=some _ from x)
 | ext s=>obtain⟨_,⟨_,e⟩,_⟩:=x;exact bA e
theorem Paired.mapP {F:l->o->Prop}:∀ {g:Aa l}{j:Aa o},Paired F g j->(∀ a b,F a b->G a b)->Paired G g j
 | _,_,.nil,_=>.nil
 | _,_,.cons r t,f=>.cons (f _ _ r) (Paired.mapP t f)
theorem nT.stay (x:nT P w H h a o) (k:∀ b u,(b=a\/H b=some (.o a))->h.get? b=some u->j.get? b=some u)
  (J:∀ b,H b=some (.o a)->I b=some (.o a)) (U:∀ b g,H b=some (.t g)->I b=some (.t g)):nT P w I j a o:=by
 induction o with
 | l g=>obtain⟨z,A,n,r,e⟩:=x;exact⟨z,A,n,r,k _ _ (.inl rfl) e⟩
 | t g=>obtain⟨z,A,r,⟨i,e,c⟩,M,B,K⟩:=x;exact⟨z,A,r,⟨i,k _ _ (.inl rfl) e,c⟩,M,k _ _ (.inl rfl) B,K⟩
 | k D=>obtain⟨z,y,N,r,i,s,m,e,c⟩:=x;exact⟨z,y,N,r,i,s,m,k _ _ (.inl rfl) e,c⟩
 | T D =>
  obtain⟨z,y,g,r,i,s,m,e,c⟩:=x;exact⟨z,y,g,Paired.mapP r λp q z=>⟨z.1,U _ _ z.2.1,z.2.2⟩,i,s,m,k _ _ (.inl rfl) e,c⟩
 | set S n=>obtain⟨i,s,m,t,e,c⟩:=x;exact⟨i,s,m,t,k _ _ (.inl rfl) e,c⟩
 | ins C O fs =>
  obtain⟨d,z,ne,e,E,⟨F,s,m,B,c⟩,r⟩:=x;exact⟨J _ d,z,ne,k _ _ (.inl rfl) e,E,⟨F,s,m,k _ _ (.inr d) B,c⟩,r⟩
 | o y=>obtain⟨i,e⟩:=x;exact⟨i,k _ _ (.inl rfl) e⟩
 | xd fs=>obtain⟨E,⟨F,s,m,e,c⟩,r⟩:=x;exact⟨E,⟨F,s,m,k _ _ (.inl rfl) e,c⟩,r⟩
 | rng lo Q=>obtain⟨t,u,v,e⟩:=x;exact⟨t,u,v,k _ _ (.inl rfl) e⟩
 | frz i u L=>obtain⟨e,q⟩:=x;exact⟨k _ _ (.inl rfl) e,L q⟩
 | tbl G =>
  have e:h.get? a=some { cls:=.none,data:=.fields G }:=x;show j.get? a=some { cls:=.none,data:=.fields G };exact k a _ (.inl rfl) e
 | met f y =>
  have e:h.get? a=some (PySem.W.methodObj (.ref f) (.ref y)):=x;show j.get? a=some (PySem.W.methodObj (.ref f) (.ref y));exact k a _ (.inl rfl) e
 | ext R=>obtain⟨p,⟨o,e⟩,st⟩:=x;exact⟨st _ _ p λo q=>k _ _ (.inl rfl) q,⟨o,k _ _ (.inl rfl) e⟩,st⟩
theorem oC.lt (x:oC P w H h) (e:H a=some o):a<h.objs.size:=(x a o e).lt
theorem oC.fresh (x:oC P w H h) (e:h.objs.size<=a):H a=none:=by
 cases q:H a with
 | none=>rfl
 | some u=>exact absurd (bI (x.lt q) e) (eM _)
theorem oC.kept (x:oC P w H h) (k:∀ b u,h.get? b=some u->g.get? b=some u):oC P w H g:=λa o e =>
 (x a o e).stay (λb u _ q=>k b u q) (λ_ q=>q) λ_ _ q=>q
theorem oC.laid (x:oC P w H h) (k:∀ b u,h.get? b=some u->g.get? b=some u) (j:h.objs.size<=a) (new:nT P w (upd H a o) g a o):oC P w (upd H a o) g:=λb u e=>by
 have f:=x.fresh j;by_cases d:b=a
 .subst d;rw[mZ] at e;cases e;exact new
 .rw[mQ d] at e;exact (x b u e).stay (λc v _ q=>k c v q) (λc q=>by rw[mQ (nN q f)];exact q) λc i q=>by rw[mQ (nN q f)];exact q
end
def Rd (H:Hp) (a:Ad) (u:HO):Prop:=H a=some u\/∃ o,H a=some (.frz o u)
theorem Rd.ok {P:Ah}(r:Rd H a u) (x:oC P w H h):nT P w H h a u:=by
 rcases r with r | ⟨o,r⟩
 .exact x a u r
 .obtain⟨_,q⟩:=x a _ r;exact q
def Cz:Ab HO->Prop
 | some (.l _)=>True
 | some (.k _)=>True
 | some (.T _)=>True
 | some (.set _ _)=>True
 | some (.ins _ _ _)=>True
 | some (.ext _)=>True
 | _=>False
section
variable {P:Ah}
theorem oC.write (ok:oC P w H h) (g:Cz (H x)) (p:e=x\/H e=some (.o x)) (k:∀ b u,b≠e->h.get? b=some u->j.get? b=some u) (l:∃ u,j.get? e=some u)
  (new:nT P w (upd H x C) j x C):oC P w (upd H x C) j:=λb u q=>by
 have d:∀ c y,H c=some (.o y)->c≠x:=λc y r z=>by subst z;rw[r] at g;exact g
 have f:∀ c n,H c=some (.t n)->c≠x:=λc n r z=>by subst z;rw[r] at g;exact g
 by_cases i:b=x
 .subst i;rw[mZ] at q;cases q;exact new
 .rw[mQ i] at q;by_cases a:b=e
  .have s:H b=some (.o x):=by
    rcases p with z | z
    .exact absurd (a.trans z) i
    .rw[a];exact z
   rw[q] at s;cases s;obtain⟨v,A⟩:=l;exact⟨v,by rw[a];exact A⟩
  .refine (ok b u q).stay (λc v m r=>k c v ?_ r) (λc r=>by rw[mQ (d c b r)];exact r) λc n r=>by rw[mQ (f c n r)];exact r
   rcases m with rfl | m
   .exact a
   .rintro rfl;rcases p with z | z
    .exact d c b m z
    .rw[m] at z;cases z;exact i rfl
end
structure Un (fs ex:List Addr) (H H':Hp) (h h':Heap):Prop where
 keep:∀ b o,h.get? b=some o->H b=none->b∉fs->b∉ex->h'.get? b=some o
 slot:∀ b o,h.get? b=some o->H b=none->b∈fs->b∉ex->∃ sl,h'.get? b=some { o with slots:=sl }
 free:∀ b o,h.get? b=some o->H b=none->b∉ex->H' b=none
 there:∀ b o,h.get? b=some o->b∉ex->∃ o',h'.get? b=some o'
 tups:∀ b xs,H b=some (.t xs)->H' b=some (.t xs)
 frzs:∀ b o u,H b=some (.frz o u)->H' b=some (.frz o u)
 tbls:∀ b ps,H b=some (.tbl ps)->∃ more,H' b=some (.tbl (ps++more))
section
theorem Un.any (u:Un fs l H p h o) (q:h.get? b=some g) (n:H b=none) (j:b∉l):∃ sl,o.get? b=some { g with slots:=sl }:=by
 by_cases a:b∈fs
 .exact u.slot b g q n a j
 .exact⟨g.slots,u.keep b g q n a j⟩
theorem Un.kept (k:∀ b u,h.get? b=some u->g.get? b=some u):Un fs j H H h g :=
 ⟨λb a q _ _ _=>k b a q,λb a q _ _ _=>⟨a.slots,k b a q⟩,λ_ _ _ n _=>n,λb a q _=>⟨a,k b a q⟩,λ_ _ q=>q,λ_ _ _ q=>q,λ_ c q=>⟨#[],by rw[q];simp⟩⟩
theorem Un.refl:Un fs g H H h h:=Un.kept λ_ _ q=>q
theorem Un.laid (k:∀ b u,h.get? b=some u->j.get? b=some u) (l:h.objs.size<=a) (g:H a=none):Un fs p H (upd H a o) h j where
 keep:=λb u q _ _ _=>k b u q
 slot:=λb u q _ _ _=>⟨u.slots,k b u q⟩
 free:=λb u q n _=>by rw[mQ (bK (bI (bA q) l))];exact n
 there:=λb u q _=>⟨u,k b u q⟩
 tups:=λb c q=>by rw[mQ (nN q g)];exact q
 frzs:=λb u c q=>by rw[mQ (nN q g)];exact q
 tbls:=λb d q=>⟨#[],by rw[mQ (nN q g),q];simp⟩
theorem Un.write (g:Cz (H x)) (p:e=x\/H e=some (.o x)) (k:∀ b u,b≠e->h.get? b=some u->l.get? b=some u) (j:∃ u,l.get? e=some u):Un fs C H (upd H x o) h l:=by
 have f:∀ b,H b=none->b≠x:=λb n z=>by subst z;rw[n] at g;exact g
 have d:∀ b,H b=none->b≠e:=λb n z=>by
  subst z;rcases p with r | r
  .exact f b n r
  .rw[n] at r;cases r
 have c:∀ b u,H b=some u->¬ Cz (some u)->b≠x:=λb u q i z=>by subst z;rw[q] at g;exact i g
 refine⟨λb u q n _ _=>k b u (d b n) q,λb u q n _ _=>⟨u.slots,k b u (d b n) q⟩,λb u q n _=>by rw[mQ (f b n)];exact n,λb u q _=>?_,
  λb m q=>by rw[mQ (c b _ q λz=>z)];exact q,λb u m q=>by rw[mQ (c b _ q λz=>z)];exact q,λb s q=>⟨#[],by rw[mQ (c b _ q λz=>z),q];simp⟩⟩
 by_cases a:b=e
 .subst a;exact j
 .exact⟨u,k b u a q⟩
end
noncomputable def G3 (h:Ag) (H:Hp):Aa Ad:=(List.range h.objs.size).filter λa=>(H a).isSome
def yH (h:Ag) (H:Hp):Ag:=PySem.W.hideAll h (G3 h H)
theorem MU (h:Ag) (H:Hp):(yH h H).objs.size=h.objs.size:=PySem.W.hideAll_size _ _
theorem EC (e:h.get? b=some o) (n:H b=none):(yH h H).get? b=some o :=
 PySem.W.hideAll_get _ e λa=>by
  have q:(H b).isSome=true:=(bM.mp a).2;rw[n] at q;simp at q
theorem AL (e:(yH h H).get? b=some o):h.get? b=some o/\H b=none:=by
 have a:h.get? b=some o:=PySem.W.of_hideAll (G3 h H) e;refine⟨a,?_⟩;cases q:H b with
 | none=>rfl
 | some x =>
  have c:b∈G3 h H:=bM.mpr ⟨eJ.mpr (bA a),by simp[q]⟩;have z:(yH h H).get? b=none:=PySem.W.hideAll_none (G3 h H) c;rw[z] at e;cases e
structure Mod (K:mH) (mg:Str->Option Value) (base:Heap):Prop where
 kin:K.In base
 glob:base.Ns mainGlobals mg
 blt:∃ mb,base.Ns builtinsNs mb/\∀ x:Str,x ≠ "__name__" -> mb x=bootBuiltins x
 nolimit:base.NoLimit
/-- the context: a def's body (or a comprehension's block) running. base: fixed through the whole law;s₀,H₀: the entry;outer: the frames whose slots others may change (a def's callers);stack: all frames that run;
 ex: iterators that were made ahead of the entry and are walked here (a comprehension's);fn: the names whose cells were made at the entry (a def: all;a comprehension's block: its own);calm: not within an except suite;pn: pins that every state bears;xe: what is wanted of an exception that leaves the code -/
structure Cx where
 prog:Program
 w:World
 K:mH
 mg:Str->Option Value
 base:Heap
 A:Around
 N:List Str
 s₀:Shared
 H₀:Hp
 env:Env
 outer:List Env
 stack:List Env
 ex:List Addr
 fn:Str->Bool
 calm:Bool
 pn:List (Addr×Obj)
 xe:Value->Shared->Prop
noncomputable def vM (l:Aa Env):Aa Ad:=l.filterMap (·.frame)
abbrev Cx.fs (X:Cx):Aa Ad:=vM X.outer
def Ji (g:Scope) (x:Af):Prop:=g.names.lookup x=some .local\/g.names.lookup x=some .cell\/g.names.lookup x=some .free
def xP (g:Scope) (x:Af):Prop:=g.names.lookup x=some .local\/g.names.lookup x=some .cell
def KC (g:Env) (h:Ag) (m:Af->Ab Ac) (x:Af) (u:Ac):Prop :=
 (g.kindOf x=some .local/\m x=some u)\/((g.kindOf x=some .cell\/g.kindOf x=some .free)/\∃ c,g.cells.lookup x=some c/\h.IsCell c (some u))
structure Cx.Ok (X:Cx):Prop where
 mod:Mod X.K X.mg X.base
 kind:X.env.scope.kind = .function
 glob:X.env.globals=mainGlobals
 blt:X.env.builtins=builtinsNs
 above:X.s₀.heap.objs.size<=X.env.locals
 inj:∀ x y c,X.env.cells.lookup x=some c->X.env.cells.lookup y=some c->x=y
 has:∀ x,(X.env.kindOf x=some .cell\/X.env.kindOf x=some .free)->∃ c,X.env.cells.lookup x=some c
 cab:∀ x c,X.fn x=true->X.env.cells.lookup x=some c->X.s₀.heap.objs.size<=c
 hd:X.calm=true->X.A.handled=none
 frames:X.A.frames=some X.stack
 stk:X.stack=X.outer\/(X.stack=X.env::X.outer/\X.env.frame=some X.env.locals)
 exf:∀ b∈X.ex,b≠X.env.locals/\∀ x c,X.env.cells.lookup x=some c->c≠b
 bs:∀ b o,X.base.get? b=some o->X.s₀.heap.get? b=some o/\X.H₀ b=none
 bsz:X.base.objs.size<=X.s₀.heap.objs.size
 noex:∀ b o,X.base.get? b=some o->b∉X.ex
 exfs:∀ b∈X.ex,b∉X.fs
 funs:X.s₀.heap.FunFrames X.base X.outer
 frf:∀ b∈X.fs,X.H₀ b=none
structure Inv (X:Cx) (pins:List (Addr×Obj)) (σ:List (Option V)) (H:Hp) (s:Shared):Prop where
 ok:X.Ok
 os:s.os=X.s₀.os
 bare:AllBare s.gens
 base:Un X.fs X.ex X.H₀ H X.s₀.heap s.heap
 loc:∃ m,s.heap.Ns X.env.locals m/\∀ (i:Nat) (x:Str) (v:V),X.N[i]?=some x->σ[i]?=some (some v)->Ji X.env.scope x->∃ u,mX v u/\KC X.env s.heap m x u
 cell:∀ x c,X.env.cells.lookup x=some c->∃ v,s.heap.IsCell c v
 free:H X.env.locals=none
 freeC:∀ x c,X.env.cells.lookup x=some c->H c=none
 pin:∀ p∈X.pn++pins,s.heap.get? p.1=some p.2/\H p.1=none/\p.1≠X.env.locals/\p.1∉X.fs/\∀ v,p.2.data ≠ .cell v
 hok:oC X.prog X.w H s.heap
 len:σ.length=X.N.length
section
variable {X:Cx}
theorem Cx.Ok.nofr (ok:X.Ok) (e:X.base.get? b=some o):b∉X.fs:=λa=>by
 have:=(ok.funs.mem a).1;rw[e] at this;cases this
theorem Inv.bs (I:Inv X g j H s):∀ b o,X.base.get? b=some o->s.heap.get? b=some o/\H b=none:=λb o e =>
 ⟨I.base.keep b o (I.ok.bs b o e).1 (I.ok.bs b o e).2 (I.ok.nofr e) (I.ok.noex b o e),I.base.free b o (I.ok.bs b o e).1 (I.ok.bs b o e).2 (I.ok.noex b o e)⟩
theorem Inv.bk (I:Inv X g j H s):∀ b o,X.base.get? b=some o->s.heap.get? b=some o:=λb o e=>(I.bs b o e).1
theorem Inv.mod (I:Inv X g j H s):Mod X.K X.mg X.base:=I.ok.mod
theorem Inv.kIn (I:Inv X g j H s):X.K.In s.heap:=I.ok.mod.kin.keeps I.bk
theorem Inv.lt (I:Inv X g j H s):X.env.locals<s.heap.objs.size:=let ⟨_,a,_⟩:=I.loc;a.lt
theorem Inv.sz (I:Inv X g j H s):X.s₀.heap.objs.size<=s.heap.objs.size:=bN I.ok.above (eP I.lt)
theorem Inv.nofs (I:Inv X g j H s) (h:s.heap.objs.size<=a):a∉X.fs:=λb=>by
 obtain⟨_,o,c,_⟩:=I.ok.funs.mem b;exact absurd (bI (bA c) (bN I.sz h)) (eM _)
theorem Inv.cne (I:Inv X g j H s):∀ x c,X.env.cells.lookup x=some c->c≠X.env.locals:=λx c e z=>by
 obtain⟨v,o,d,hd⟩:=I.cell x c e;obtain⟨m,⟨i,h,f,b,a,_⟩,_⟩:=I.loc;rw[z,b] at d;cases d;rw[a] at hd;cases hd
theorem Inv.funs (I:Inv X g j H s):s.heap.FunFrames X.base X.outer:=by
 have all:∀ (l:Aa Env),(∀ b∈vM l,b∈X.fs)->X.s₀.heap.FunFrames X.base l->s.heap.FunFrames X.base l:=by
  intro l;induction l with
  | nil=>intro _ _;trivial
  | cons h r t =>
   intro f k;obtain⟨i,⟨L,o,d,m,n,hd⟩,q⟩:=k;have a:L∈X.fs:=f L (by unfold vM;rw[List.filterMap_cons,d];exact aF);obtain⟨sl,e⟩:=I.base.slot L o n (I.ok.frf L a) a λz=>I.ok.exfs L z a
   exact⟨i,⟨L,_,d,m,e,hd⟩,t (λb c=>f b (by unfold vM;rw[List.filterMap_cons,d];exact aP _ c)) q⟩
 exact all X.outer (λ_ c=>c) I.ok.funs
theorem Inv.stack (I:Inv X g j H s):s.heap.FunFrames X.base X.stack:=by
 rcases I.ok.stk with e | ⟨e,a⟩
 .rw[e];exact I.funs
 .rw[e];obtain⟨m,b,_⟩:=I.loc;refine .cons (by rw[I.ok.kind];decide) a b ?_ I.funs;exact Heap.get?_none_of_le (bN I.ok.bsz I.ok.above)
theorem Inv.stkSub (I:Inv X g j H s):∀ b∈vM X.stack,b∈X.env.locals::X.fs:=λb a=>by
 rcases I.ok.stk with e | ⟨e,c⟩
 .rw[e] at a;exact aP _ a
 .rw[e] at a;unfold vM at a;rw[hV,c] at a;exact a
theorem Inv.stkFree (I:Inv X g j H s):∀ b∈vM X.stack,H b=none:=λb a=>by
 rcases aO.mp (I.stkSub b a) with e | a
 .rw[e];exact I.free
 .obtain⟨_,o,c,_⟩:=I.ok.funs.mem a;exact I.base.free b o c (I.ok.frf b a) λz=>I.ok.exfs b z a
theorem Inv.step {g':Array GenState}{t':Nat}{d':Drawn}{ch:Aa Ad}(I:Inv X j σ H s)
  (g:∀ b∈ch,(b∈X.ex\/X.s₀.heap.objs.size<=b)/\b≠X.env.locals/\(∀ x c,X.env.cells.lookup x=some c->c≠b)/\∀ p∈X.pn++j,p.1≠b)
  (keep:∀ b o,b≠X.env.locals->b∉X.fs->b∉ch->s.heap.get? b=some o->H b=none->J.get? b=some o)
  (slot:∀ b o,b≠X.env.locals->b∈X.fs->b∉ch->s.heap.get? b=some o->H b=none->∃ sl,J.get? b=some { o with slots:=sl }) (free:∀ b o,b∉ch->s.heap.get? b=some o->H b=none->T b=none)
  (there:∀ b o,b∉ch->s.heap.get? b=some o->∃ o',J.get? b=some o')
  (ab:∀ b C,H b=some (.t C)->T b=some (.t C)) (U:∀ b o u,H b=some (.frz o u)->T b=some (.frz o u)) (aa:∀ b ps,H b=some (.tbl ps)->∃ more,T b=some (.tbl (ps++more)))
  (ns:∀ m,s.heap.Ns X.env.locals m->J.Ns X.env.locals m) (ac:oC X.prog X.w T J) (hg:AllBare g') :
  Inv X j σ T { s with heap:=J,gens:=g',drawn:=d',toks:=t' }:=by
 have F:∀ b o,X.s₀.heap.get? b=some o->b≠X.env.locals:=λb o e=>bK (bI (bA e) I.ok.above)
 have A:∀ b o,X.s₀.heap.get? b=some o->b∉X.ex->b∉ch:=λb o e a B=>by
  rcases (g b B).1 with z | z
  .exact a z
  .exact absurd (bI (bA e) z) (eM _)
 have f:∀ x c,X.env.cells.lookup x=some c->∀ v,s.heap.IsCell c v->J.IsCell c v:=λx c e v G=>by
  obtain⟨o,D,hd⟩:=G;have h:c∉ch:=λz=>(g c z).2.2.1 x c e rfl
  by_cases L:c∈X.fs
  .obtain⟨sl,q⟩:=slot c o (I.cne x c e) L h D (I.freeC x c e);exact⟨_,q,hd⟩
  .exact⟨o,keep c o (I.cne x c e) L h D (I.freeC x c e),hd⟩
 refine⟨I.ok,I.os,hg,⟨λb o e n B a=>?_,λb o e n B a=>?_,λb o e n a=>?_,λb o e a=>?_,λb C e=>ab b C (I.base.tups b C e),λb o C e=>U b o C (I.base.frzs b o C e),λb ps e=>?_⟩,?_,λx c e=>?_,?_,λx c e=>?_,λp M=>?_,ac,I.len⟩
 .exact keep b o (F b o e) B (A b o e a) (I.base.keep b o e n B a) (I.base.free b o e n a)
 .obtain⟨sl,y⟩:=I.base.slot b o e n B a;obtain⟨K,E⟩:=slot b _ (F b o e) B (A b o e a) y (I.base.free b o e n a);exact⟨K,E⟩
 .obtain⟨o',y⟩:=I.base.there b o e a;exact free b o' (A b o e a) y (I.base.free b o e n a)
 .obtain⟨o',y⟩:=I.base.there b o e a;exact there b o' (A b o e a) y
 .obtain⟨R,y⟩:=I.base.tbls b ps e;obtain⟨S,E⟩:=aa b _ y;exact⟨R++S,by rw[E,Array.append_assoc]⟩
 .obtain⟨m,Q,P⟩:=I.loc;refine⟨m,ns m Q,λi x v y E O=>?_⟩;obtain⟨u,r,l⟩:=P i x v y E O;refine⟨u,r,?_⟩;rcases l with l | ⟨k,c,e,z⟩
  .exact .inl l
  .exact .inr ⟨k,c,e,f x c e _ z⟩
 .obtain⟨v,z⟩:=I.cell x c e;exact⟨v,f x c e v z⟩
 .obtain⟨m,⟨o,_,_,D,_⟩,_⟩:=I.loc;exact free _ o (λz=>(g _ z).2.1 rfl) D I.free
 .obtain⟨v,o,D,hd⟩:=I.cell x c e;exact free c o (λz=>(g c z).2.2.1 x c e rfl) D (I.freeC x c e)
 .obtain⟨e,n,ne,N,d⟩:=I.pin p M;have h:p.1∉ch:=λz=>(g p.1 z).2.2.2 p M rfl
  exact⟨keep p.1 p.2 ne N h e n,free p.1 p.2 h e n,ne,N,d⟩
theorem Inv.un (I:Inv X g p H s) (u:Un X.fs [] H l s.heap h') (j:oC X.prog X.w l h'):Inv X g p l { s with heap:=h',toks:=t' }:=by
 obtain⟨m,⟨o,v,t,h,r⟩,_⟩:=id I.loc;obtain⟨sl,i⟩:=u.any h I.free (by simp);exact I.step (g':=s.gens) (d':=s.drawn) (ch:=[]) (λ_ z=>nomatch z) (λb o _ f _ e n=>u.keep b o e n f (by simp)) (λb o _ f _ e n=>u.slot b o e n f (by simp)) (λb o _ e n=>u.free b o e n (by simp)) (λb o _ e=>u.there b o e (by simp)) u.tups u.frzs u.tbls (λx k=>by
  obtain⟨y,d,c,a,q⟩:=k;rw[h] at a;cases a;exact⟨_,d,c,i,q⟩) j I.bare
theorem Inv.call (I:Inv X g T H s) (u:Un (vM X.stack) ch H C s.heap h') (l:oC X.prog X.w C h') (J:AllBare g')
  (j:∀ b∈ch,(b∈X.ex\/X.s₀.heap.objs.size<=b)/\b≠X.env.locals/\(∀ x c,X.env.cells.lookup x=some c->c≠b)/\∀ p∈X.pn++g,p.1≠b) :
  Inv X g T C { s with heap:=h',gens:=g',drawn:=d',toks:=t' }:=by
 obtain⟨m,⟨o,A,y,k,r⟩,_⟩:=id I.loc;obtain⟨sl,i⟩:=u.any k I.free λz=>(j _ z).2.1 rfl
 exact I.step (ch:=ch) j (λb o i q a e n=>u.keep b o e n (λz=>(aO.mp (I.stkSub b z)).elim i q) a) (λb o _ _ a e n=>u.any e n a) (λb o a e n=>u.free b o e n a) (λb o a e=>u.there b o e a) u.tups u.frzs u.tbls (λB t=>by
  obtain⟨D,h,f,d,v⟩:=t;rw[k] at d;cases d;exact⟨_,h,f,i,v⟩) l J
theorem Inv.turned (I:Inv X j σ H s) (k:∀ b o,b≠g->s.heap.get? b=some o->C.get? b=some o) (hn:H g=none) (l:g≠X.env.locals)
  (J:g∈X.ex\/X.s₀.heap.objs.size<=g) (T:∀ x c,X.env.cells.lookup x=some c->c≠g) (U:∀ p∈X.pn++j,p.1≠g):Inv X j σ H { s with heap:=C,toks:=t' }:=by
 have d:∀ b u,H b=some u->b≠g:=λb u e z=>by rw[z,hn] at e;cases e
 refine I.step (g':=s.gens) (d':=s.drawn) (ch:=[g]) (λb i=>?_) (λb o _ _ a e _=>k b o (λz=>a (by simp[z])) e) (λb o _ _ a e _=>⟨o.slots,k b o (λz=>a (by simp[z])) e⟩) (λ_ _ _ _ n=>n)
  (λb o a e=>⟨o,k b o (λz=>a (by simp[z])) e⟩) (λ_ _ e=>e) (λ_ _ _ e=>e) (λb y e=>⟨#[],by rw[e];simp⟩) (λm t=>?_) (λb u e=>?_) I.bare
 .have e:b=g:=by simpa using i
  subst e;exact⟨J,l,T,U⟩
 .obtain⟨o,h,f,w,r⟩:=t;exact⟨o,h,f,k _ o (eI l) w,r⟩
 .refine (I.hok b u e).stay (λc v a q=>k c v ?_ q) (λ_ q=>q) λ_ _ q=>q
  rcases a with z | z
  .rw[z];exact d b u e
  .exact d c _ z
theorem Inv.tok (I:Inv X g j H s) (t:Nat):Inv X g j H { s with toks:=t }:=I.un (h':=s.heap) (t':=t) Un.refl I.hok
theorem Inv.kept (I:Inv X g l H s) (k:∀ b u,s.heap.get? b=some u->j.get? b=some u):Inv X g l H { s with heap:=j,toks:=t' }:=I.un (Un.kept k) (I.hok.kept k)
theorem Inv.laid (I:Inv X g p H s) (k:∀ b u,s.heap.get? b=some u->l.get? b=some u) (j:s.heap.objs.size<=a) (new:nT X.prog X.w (upd H a o) l a o) :
  Inv X g p (upd H a o) { s with heap:=l,toks:=t' }:=I.un (Un.laid k j (I.hok.fresh j)) (I.hok.laid k j new)
theorem Inv.write (I:Inv X j C H s) (r:Cz (H x)) (p:e=x\/H e=some (.o x)) (k:∀ b u,b≠e->s.heap.get? b=some u->l.get? b=some u) (g:∃ u,l.get? e=some u)
  (new:nT X.prog X.w (upd H x o) l x o):Inv X j C (upd H x o) { s with heap:=l,toks:=J }:=I.un (Un.write r p k g) (I.hok.write r p k g new)
theorem Inv.pins_of (I:Inv X j l H s) (h:∀ p∈g,s.heap.get? p.1=some p.2/\H p.1=none/\p.1≠X.env.locals/\p.1∉X.fs/\∀ v,p.2.data ≠ .cell v):Inv X g l H s :=
 ⟨I.ok,I.os,I.bare,I.base,I.loc,I.cell,I.free,I.freeC,λp a=>(aU.mp a).elim (λz=>I.pin p (aT _ z)) (h p),I.hok,I.len⟩
theorem Qx {N:Aa Af}(g:N.Nodup){i j:Nat}{x:Af}(a:N[i]?=some x) (b:N[j]?=some x):i=j:=by
 obtain⟨e,c⟩:=aX.mp a;obtain⟨f,d⟩:=aX.mp b;exact (List.getElem_inj g).mp (c.trans d.symm)
theorem T6 (I:Inv X J σ H s) (hN:X.N.Nodup) (l:X.N[i]?=some x) (g:xP X.env.scope x) (r:mX v u)
  (h:∀ s',Inv X J (σ.set i (some v)) H s'->(∃ a,Heap.SameBut a s.heap s'.heap/\(a=X.env.locals\/X.env.cells.lookup x=some a))->Q () s') (hf:X.fn x=true\/X.env.scope.names.lookup x=some .local:=by first | exact .inl rfl | exact .inr rfl | assumption):wpAny M A (storeName X.env x u) Q E s:=by
 obtain⟨m,hn,hl⟩:=id I.loc;have Y:(X.env.scope.kind == .class||(X.env.scope.kind == .module&&X.env.locals != X.env.globals))=false:=by rw[I.ok.kind];rfl
 have K:i<σ.length:=by rw[I.len];exact (aX.mp l).1
 have cne:=I.cne;have B:∀ {a:Ad} {S:Ag},(∃ o,s.heap.get? a=some o/\H a=none)->Heap.SameBut a s.heap S->oC X.prog X.w H S:=λ{a S} ha f b ob e=>by
  obtain⟨_,_,F⟩:=ha;refine (I.hok b ob e).stay (λc U D q=>(f.2 c ?_).trans q) (λ_ q=>q) λ_ _ q=>q
  rintro rfl;rcases D with rfl | D
  .rw[F] at e;cases e
  .rw[F] at D;cases D
 rcases g with L | L
 .refine wpAny_storeName_local L hn (λS aa f=>?_) Y;obtain⟨oL,_,_,ab,_⟩:=id hn;refine h _ ⟨I.ok,I.os,I.bare,⟨λb o e n O g=>?_,λb o e n O g=>?_,I.base.free,λb o e g=>?_,I.base.tups,I.base.frzs,I.base.tbls⟩,⟨_,aa,λj y v' t G e3=>?_⟩,λy c e=>?_,I.free,I.freeC,λp hp=>?_,B ⟨oL,ab,I.free⟩ f,by simpa using I.len⟩ ⟨_,f,.inl rfl⟩
  .exact (f.2 b (bK (bI (bA e) I.ok.above))).trans (I.base.keep b o e n O g)
  .obtain⟨sl,t⟩:=I.base.slot b o e n O g;exact⟨sl,(f.2 b (bK (bI (bA e) I.ok.above))).trans t⟩
  .obtain⟨o',t⟩:=I.base.there b o e g;exact⟨o',(f.2 b (bK (bI (bA e) I.ok.above))).trans t⟩
  .by_cases R:j=i
   .subst R;rw[l] at t;cases t;rw[List.getElem?_set_self K] at G;cases G;exact⟨u,r,.inl ⟨L,by simp⟩⟩
   .rw[dU (eI R)] at G;obtain⟨u',r',q⟩:=hl j y v' t G e3;refine⟨u',r',?_⟩;rcases q with⟨k,e⟩ | ⟨k,c,e,z⟩
    .refine .inl ⟨k,?_⟩;have:y≠x:=λe=>R (Qx hN t (e▸l))
     simp[this,e]
    .exact .inr ⟨k,c,e,z.sameBut f (cne y c e)⟩
  .obtain⟨U,z⟩:=I.cell y c e;exact⟨U,z.sameBut f (cne y c e)⟩
  .obtain⟨e,n,ne,nf,d⟩:=I.pin p hp;exact⟨(f.2 p.1 ne).trans e,n,ne,nf,d⟩
 .have P:X.fn x=true:=by
   rcases hf with z | z
   .exact z
   .rw[z] at L;cases L
  obtain⟨c,D⟩:=I.ok.has x (.inl L);obtain⟨U,z⟩:=I.cell x c D;refine wpAny_storeName_cell I.ok.kind L D z (λS V f=>?_);obtain⟨oc,Z,C⟩:=id z;refine h { s with heap:=S } ⟨I.ok,I.os,I.bare,⟨λb o e n O g=>?_,λb o e n O g=>?_,I.base.free,λb o e g=>?_,I.base.tups,I.base.frzs,I.base.tbls⟩,⟨m,hn.sameBut f (eI (cne x c D)),λj y v' t G e3=>?_⟩,λy T e=>?_,I.free,I.freeC,λp hp=>?_,B ⟨oc,Z,I.freeC x c D⟩ f,by simpa using I.len⟩ ⟨c,f,.inr D⟩
  .exact (f.2 b (bK (bI (bA e) (I.ok.cab x c P D)))).trans (I.base.keep b o e n O g)
  .obtain⟨sl,t⟩:=I.base.slot b o e n O g;exact⟨sl,(f.2 b (bK (bI (bA e) (I.ok.cab x c P D)))).trans t⟩
  .obtain⟨o',t⟩:=I.base.there b o e g;exact⟨o',(f.2 b (bK (bI (bA e) (I.ok.cab x c P D)))).trans t⟩
  .by_cases R:j=i
   .subst R;rw[l] at t;cases t;rw[List.getElem?_set_self K] at G;cases G;exact⟨u,r,.inr ⟨.inl L,c,D,V⟩⟩
   .rw[dU (eI R)] at G;obtain⟨u',r',q⟩:=hl j y v' t G e3;refine⟨u',r',?_⟩;rcases q with q | ⟨k,T,e,z'⟩
    .exact .inl q
    .refine .inr ⟨k,T,e,z'.sameBut f ?_⟩;rintro rfl;exact R (Qx hN t (I.ok.inj _ _ _ e D▸l))
  .by_cases W:T=c
   .subst W;exact⟨_,V⟩
   .obtain⟨w2,z2⟩:=I.cell y T e;exact⟨w2,z2.sameBut f W⟩
  .obtain⟨e,n,ne,nf,d⟩:=I.pin p hp;refine⟨(f.2 p.1 ?_).trans e,n,ne,nf,d⟩;intro q;rw[q,Z] at e;have q':oc=p.2:=bU e;exact d U (by rw[<- q'];exact C)
theorem Nc (I:Inv X g J H s) (l:X.N.Nodup) (p:X.N[i]?=some x) (C:xP X.env.scope x) (r:mX v u)
  (h:∀ j,Inv X g (J.set i (some v)) H j->Q () j) (o:X.fn x=true\/X.env.scope.names.lookup x=some .local:=by first | exact .inl rfl | exact .inr rfl | assumption):wpAny M A (storeName X.env x u) Q E s :=
 T6 I l p C r (λj a _=>h j a) o
theorem Inv.call' (I:Inv X g J H s) (C:s'.os=s.os) (u:Un (vM X.stack) ch H o s.heap s'.heap) (l:oC X.prog X.w o s'.heap) (r:AllBare s'.gens)
  (j:∀ b∈ch,(b∈X.ex\/X.s₀.heap.objs.size<=b)/\b≠X.env.locals/\(∀ x c,X.env.cells.lookup x=some c->c≠b)/\∀ p∈X.pn++g,p.1≠b):Inv X g J o s':=by
 obtain⟨i,d,a,h,f⟩:=s';have e:f=s.os:=C;subst e;exact I.call (g':=d) (t':=h) (d':=a) u l r j
end
abbrev XK:=Ac->Ab Ad->Hp->Prop
abbrev St:=Aa (Ab V)
abbrev VK:=V->Hp->Prop
abbrev TE:=St->Hp->VK->Prop
abbrev TT:=St->Hp->(Bool->Hp->Prop)->Prop
abbrev TA:=St->Hp->(Aa V->Hp->Prop)->Prop
structure Ends where
 nx:St->Hp->Prop
 rt:VK
 bk:St->Hp->Prop:=λ_ _=>False
 ct:St->Hp->Prop:=λ_ _=>False
abbrev TS:=Ends->St->Hp->Prop
def EP (X:Cx) (g:Aa (Ad×Obj)) (l:St) (Q:VK) (u:Ac) (j:Ae):Prop:=∃ v a,Inv X g l a j/\mX v u/\Q v a
def TP (X:Cx) (g:Aa (Ad×Obj)) (l:St) (Q:Bool->Hp->Prop) (b:Bool) (j:Ae):Prop:=∃ a,Inv X g l a j/\Q b a
def AP (X:Cx) (g:Aa (Ad×Obj)) (o:St) (Q:Aa V->Hp->Prop) (l:Aa Ac) (j:Ae):Prop:=∃ b a,Inv X g o a j/\mV b l/\Q b a
def SP (X:Cx) (g:Aa (Ad×Obj)) (D:Ends) (f:Flow) (j:Ae):Prop :=
 match f with
 | .next=>∃ a b,Inv X g a b j/\D.nx a b
 | .brk=>∃ a b,Inv X g a b j/\D.bk a b
 | .cont=>∃ a b,Inv X g a b j/\D.ct a b
 | .ret u=>∃ v a b,Inv X g a b j/\mX v u/\D.rt v b
def PE (X:Cx) (e:Expr) (t:TE):Prop :=
 ∀ (a:Aa (Ad×Obj)) (s:Ae) (b:St) (H:Hp) (Q:VK),Inv X a b H s->t b H Q->wpAny (model X.prog X.w) X.A (eval e X.env) (EP X a b Q) X.xe s
def PT (X:Cx) (e:Expr) (t:TT):Prop :=
 ∀ (a:Aa (Ad×Obj)) (s:Ae) (b:St) (H:Hp) (Q:Bool->Hp->Prop),Inv X a b H s->t b H Q->wpAny (model X.prog X.w) X.A (isTrue e X.env (eval e X.env)) (TP X a b Q) X.xe s
def PW (X:Cx) (e:Expr) (t:TT):Prop :=
 ∀ (whole:Sem Ac) (a:Aa (Ad×Obj)) (s:Ae) (b:St) (H:Hp) (Q:Bool->Hp->Prop),Inv X a b H s->t b H Q->wpAny (model X.prog X.w) X.A (isTrue e X.env whole) (TP X a b Q) X.xe s
theorem PW.pt {X:Cx}(h:PW X e t):PT X e t:=h _
def PA (X:Cx) (g:Aa Expr) (t:TA):Prop :=
 ∀ (pos:Pos) (a:Aa (Ad×Obj)) (s:Ae) (b:St) (H:Hp) (Q:Aa V->Hp->Prop),Inv X a b H s->t b H Q->wpAny (model X.prog X.w) X.A (spliced (backTo pos (starEach g X.env))) (AP X a b Q) X.xe s
def PS (X:Cx) (st:Stmt) (t:TS):Prop :=
 ∀ (a:Aa (Ad×Obj)) (s:Ae) (b:St) (H:Hp) (D:Ends),Inv X a b H s->t D b H->wpAny (model X.prog X.w) X.A (exec st X.env) (SP X a D) X.xe s
def pX (X:Cx) (st:Aa Stmt) (t:TS):Prop :=
 ∀ (a:Aa (Ad×Obj)) (s:Ae) (b:St) (H:Hp) (D:Ends),Inv X a b H s->t D b H->wpAny (model X.prog X.w) X.A (execs st X.env) (SP X a D) X.xe s
theorem mM (h:wpAny M A t Q E s) (j:∀ a s,Q a s->g a s):wpAny M A t g E s:=cV h j λ_ _ x=>x
section
variable {X:Cx}
def pT (i:Nat):TE:=λa H Q=>∃ v,a[i]?=some (some v)/\Q v H
def tC (v:V):TE:=λ_ H Q=>Q v H
theorem IV (j:X.N[i]?=some x) (o:Ji X.env.scope x) (hd:(x == ("__debug__" : Af))=false:=by decide) (g:(x == ("__classdict__" : Af))=false:=by decide):PE X (.Name x pos) (pT i):=by
 intro d s t H Q I h;obtain⟨v,e,h⟩:=h;obtain⟨m,q,k⟩:=I.loc;obtain⟨u,r,l⟩:=k i x v j e o;have fin:EP X d t Q u s:=⟨v,H,I,r,h⟩;rcases l with⟨b,n⟩ | ⟨b,c,f,a⟩
 .exact wpAny_Name (wpAny_loadName_local I.ok.kind b q n fin) hd
 .rcases b with b | b
  .exact wpAny_Name (wpAny_loadName_cell I.ok.kind b f a fin) hd
  .exact wpAny_Name (wpAny_loadName_free I.ok.kind b f a fin g) hd
theorem oD {i j pos}:PE X (.Constant (.int i) j pos) (tC (.int i)):=λ_ _ _ H _ I h=>wpAny_Constant_int ⟨.int i,H,I.tok _,⟨_,rfl⟩,h⟩
theorem Z9 {b j pos}:PE X (.Constant (.bool b) j pos) (tC (.b b)):=λ_ _ _ H _ I h=>Constant_bool ⟨.b b,H,I,rfl,h⟩
theorem QU {j pos}:PE X (.Constant .none j pos) (tC .e):=λ_ _ _ H _ I h=>Constant_none ⟨.e,H,I,rfl,h⟩
theorem yA {x j pos}:PE X (.Constant (.str x) j pos) (tC (.str x)):=λ_ _ _ H _ I h=>Calls.Constant_str ⟨.str x,H,I.tok _,⟨_,rfl⟩,h⟩
def Gl (X:Cx) (x:Af):Prop:=X.env.kindOf x=some .globalImplicit
theorem T1 (I:Inv X g o H s) (j:Gl X x) (l:X.mg x=some u) (h:Q u s)
  (hd:(x == ("__debug__" : Af))=false:=by decide):wpAny (model X.prog X.w) X.A (eval (.Name x pos) X.env) Q E s :=
 Calls.Name_function_global I.ok.kind j (Calls.loadGlobal_global (by rw[I.ok.glob];exact I.mod.glob.keeps I.bk) l h) hd
theorem vZ (I:Inv X g r H s) (j:Gl X x) (l:X.mg x=none) (p:bootBuiltins x=some u) (h:Q u s)
  (o:x ≠ "__name__" := by decide) (hd:(x == ("__debug__" : Af))=false:=by decide):wpAny (model X.prog X.w) X.A (eval (.Name x pos) X.env) Q E s:=by
 obtain⟨c,a,b⟩:=I.mod.blt;exact Calls.Name_function_global I.ok.kind j (Calls.loadGlobal_builtin (by rw[I.ok.glob];exact I.mod.glob.keeps I.bk) l (by rw[I.ok.blt];exact a.keeps I.bk) ((b x o).trans p) h) hd
theorem IA (g:Gl X x) (j:X.mg x=none) (o:bootBuiltins x=some u) (r:mX v u) (l:x ≠ "__name__" := by decide) (hd:(x == ("__debug__" : Af))=false:=by decide):PE X (.Name x pos) (tC v) :=
 λ_ _ _ H _ I h=>vZ I g j o ⟨v,H,I,r,h⟩ l hd
def PC (X:Cx) (op:CmpOp) (a b:Expr) (t:TE):Prop :=
 ∀ (c:Aa (Ad×Obj)) (s:Ae) (f:St) (H:Hp) (Q:VK),Inv X c f H s->t f H Q ->
  wpAny (model X.prog X.w) X.A (eval a X.env) (λv d=>wpAny (model X.prog X.w) X.A (eval b X.env) (λu e=>wpAny (model X.prog X.w) X.A (compareOp op v u) (EP X c f Q) X.xe e) X.xe d) X.xe s
def tB (t:TE):TT:=λd H Q=>t d H λx a=>∃ c,x = .b c/\Q c a
theorem GU (h:PC X op a b t) (g:behindInMarks op b=false:=by first | exact nobehind _ (by decide) (by decide) | rfl):PT X (.Compare a [op] [b] pos) (tB t):=by
 intro e s y H Q I hw;refine wpAny_isTrue_Compare1 (mM (h e s y H _ I hw) λv z g=>mM g λu A m=>mM m λc B f=>?_) g;obtain⟨x,i,k,w,n⟩:=f;obtain⟨d,rfl,q⟩:=n;cases w;exact fA ⟨i,k,q⟩
variable {rest:Aa Expr}
def Z7 (t u:TT):TT:=λb H Q=>t b H λc a=>if c=true then u b a Q else Q false a
def JY (t u:TT):TT:=λb H Q=>t b H λc a=>if c=true then Q true a else u b a Q
def HK (t:TT):TT:=λb H Q=>t b H λc a=>Q (!c) a
theorem PJ (g:PT X a j):PW X (.BoolOp .And [a] pos) j:=by
 intro i b s d H Q I h;refine isTrue_and (mM (g b s d H Q I h) λc f e=>?_);cases c with
 | true=>exact isTrue_and_nil e
 | false=>exact e
theorem UH (g:PT X a j):PW X (.BoolOp .Or [a] pos) j:=by
 intro i b s d H Q I h;refine isTrue_or (mM (g b s d H Q I h) λc f e=>?_);cases c with
 | false=>exact isTrue_or_nil e
 | true=>exact e
theorem DK (j:PT X a o) (l:PW X (.BoolOp .And (b::rest) pos) g):PW X (.BoolOp .And (a::b::rest) pos) (Z7 o g):=by
 intro q d s m H Q I h;refine isTrue_and (mM (j d s m H _ I h) λc n e=>?_);obtain⟨f,i,k⟩:=e;cases c with
 | true=>exact l q d n m f Q i k
 | false=>exact⟨f,i,k⟩
theorem NM (j:PT X a o) (l:PW X (.BoolOp .Or (b::rest) pos) g):PW X (.BoolOp .Or (a::b::rest) pos) (JY o g):=by
 intro q d s m H Q I h;refine isTrue_or (mM (j d s m H _ I h) λc n e=>?_);obtain⟨f,i,k⟩:=e;cases c with
 | true=>exact⟨f,i,k⟩
 | false=>exact l q d n m f Q i k
theorem CO (g:PT X a j):PT X (.UnaryOp .Not a pos) (HK j):=by
 intro b s e H Q I h;exact isTrue_not (g b s e H (λc d=>Q (!c) d) I h)
def GG (g j:TE):TE:=λd H Q=>g d H λx a=>∃ c,x = .b c/\if c=true then j d a Q else Q (.b false) a
def MV (g j:TE):TE:=λd H Q=>g d H λx a=>∃ c,x = .b c/\if c=true then Q (.b true) a else j d a Q
theorem CM {op}(h:PE X a t):PE X (.BoolOp op [a] pos) t:=λb s c H Q I hw=>BoolOp_one (h b s c H Q I hw)
theorem MX (g:PE X a l) (j:PE X (.BoolOp .And (b::rest) pos) o):PE X (.BoolOp .And (a::b::rest) pos) (GG l o):=by
 intro d s m H Q I h;refine BoolOp_and (mM (g d s m H _ I h) λv q f=>?_);obtain⟨x,i,k,n,e⟩:=f;obtain⟨c,rfl,e⟩:=e;cases n;refine fA ?_;cases c with
 | true=>exact j d q m i Q k e
 | false=>exact⟨.b false,i,k,rfl,e⟩
theorem FM (g:PE X a l) (j:PE X (.BoolOp .Or (b::rest) pos) o):PE X (.BoolOp .Or (a::b::rest) pos) (MV l o):=by
 intro d s m H Q I h;refine BoolOp_or (mM (g d s m H _ I h) λv q f=>?_);obtain⟨x,i,k,n,e⟩:=f;obtain⟨c,rfl,e⟩:=e;cases n;refine fA ?_;cases c with
 | false=>exact j d q m i Q k e
 | true=>exact⟨.b true,i,k,rfl,e⟩
def WO (t:TT) (g j:TE):TE:=λa H Q=>t a H λc b=>if c=true then g a b Q else j a b Q
theorem HH (l:PT X c o) (g:PE X a p) (j:PE X b r):PE X (.IfExp c a b pos) (WO o p r):=by
 intro e s i H Q I h;refine wpAny_IfExp (mM (l e s i H _ I h) λd q f=>?_);obtain⟨k,m,n⟩:=f;cases d with
 | true=>exact g e q i k Q m n
 | false=>exact j e q i k Q m n
end
def mK (K:mH) (H:Hp) (a:Ad) (g:Aa V):Prop :=
 Rd H a (.l g) \/
  ∃ (o:Obj) (b:Array Ac) (n:Nat),K.lookup a=some o/\o.cls = .type "list" /\ o.dict=none/\o.data = .seq b n/\b.size<=sizeLine/\mV g b.toList
def nG (K:mH) (H:Hp) (a:Ad) (g:Aa V):Prop :=
 Rd H a (.t g) \/
  ∃ (o:Obj) (b:Array Ac) (n:Nat),K.lookup a=some o/\o.cls = .type "tuple" /\ o.data = .seq b n/\b.size<=sizeLine/\mV g b.toList
noncomputable def QT:Ac->Ab V
 | .none=>some .e
 | .bool b=>some (.b b)
 | .int i _=>some (.int i)
 | .str x _=>some (.str x)
 | .bytes b _=>some (.byt b)
 | .float b _=>some (.flt b)
 | .ref a=>some (.ref a)
 | .type n=>some (.ty n)
 | _=>none
theorem mX.abs (r:mX x u):QT u=some x:=by
 cases x with
 | e=>cases r;rfl
 | b _=>cases r;rfl
 | int _=>obtain⟨t,rfl⟩:=r;rfl
 | str _=>obtain⟨t,rfl⟩:=r;rfl
 | byt _=>obtain⟨t,rfl⟩:=r;rfl
 | flt _=>obtain⟨t,rfl⟩:=r;rfl
 | ref _=>cases r;rfl
 | ty _=>cases r;rfl
theorem mX.inj (r:mX x u) (q:mX y u):x=y:=bU (r.abs.symm.trans q.abs)
theorem mV.inj:∀ {j l:Aa V}{g:Aa Ac},mV j g->mV l g->j=l
 | _,_,_,.nil,.nil=>rfl
 | _,_,_,.cons r t,.cons a b=>by rw[r.inj a,mV.inj t b]
section
variable {X:Cx}
theorem mK.of {K:mH}(h:H a=some (.l g)):mK K H a g:=.inl (.inl h)
theorem nG.of {K:mH}(h:H a=some (.t g)):nG K H a g:=.inl (.inl h)
theorem Inv.list (I:Inv X j p H s) (h:mK X.K H a l):∃ g:Aa Ac,mV l g/\PlainL s.heap a g.toArray/\l.length<=sizeLine:=by
 rcases h with h | ⟨o,g,n,c,b,hd,d,f,r⟩
 .obtain⟨z,g,n,r,e⟩:=h.ok I.hok;exact⟨g,r,⟨_,n,e,rfl,rfl,rfl⟩,z⟩
 .refine⟨g.toList,r,⟨o,n,I.kIn a o c,b,hd,by simpa using d⟩,?_⟩;have e:=r.length;simp only[eQ] at e;omega
theorem Inv.tuple (I:Inv X j C H s) (h:nG X.K H a l):∃ g:Aa Ac,mV l g/\IsTup s.heap a g.toArray/\l.length<=sizeLine:=by
 rcases h with h | ⟨o,g,n,c,b,d,f,r⟩
 .obtain⟨z,g,r,p,_⟩:=h.ok I.hok;exact⟨g,r,p,z⟩
 .refine⟨g.toList,r,⟨o,I.kIn a o c,b,n,by simpa using d⟩,?_⟩;have e:=r.length;simp only[eQ] at e;omega
theorem Inv.list_inj (I:Inv X g C H s) (h:mK X.K H a l) (j:mK X.K H a p):l=p:=by
 obtain⟨c,r,⟨o,n,e,_,_,d⟩,_⟩:=I.list h;obtain⟨b,k,⟨q,m,i,_,_,f⟩,_⟩:=I.list j;rw[e] at i;cases i;rw[d] at f;injection f with d1 _;have:c=b:=by simpa using cC Array.toList d1
 subst this;exact r.inj k
theorem Inv.tuple_inj (I:Inv X g C H s) (h:nG X.K H a l) (j:nG X.K H a p):l=p:=by
 obtain⟨c,r,⟨o,e,_,n,d⟩,_⟩:=I.tuple h;obtain⟨b,k,⟨q,i,_,m,f⟩,_⟩:=I.tuple j;rw[e] at i;cases i;rw[d] at f;injection f with d1 _;have:c=b:=by simpa using cC Array.toList d1
 subst this;exact r.inj k
end
noncomputable abbrev Cx.wish (X:Cx) (E:Ac->Ae->Prop):Cx:={ X with xe:=E }
abbrev Cx.nox (X:Cx):Cx:=X.wish λ_ _=>False
theorem Cx.Ok.wish {X:Cx}(ok:X.Ok) (E:Ac->Ae->Prop):(X.wish E).Ok :=
 ⟨ok.mod,ok.kind,ok.glob,ok.blt,ok.above,ok.inj,ok.has,ok.cab,ok.hd,ok.frames,ok.stk,ok.exf,ok.bs,ok.bsz,ok.noex,ok.exfs,ok.funs,ok.frf⟩
theorem Cx.Ok.unwish {X:Cx}(ok:(X.wish E).Ok):X.Ok :=
 ⟨ok.mod,ok.kind,ok.glob,ok.blt,ok.above,ok.inj,ok.has,ok.cab,ok.hd,ok.frames,ok.stk,ok.exf,ok.bs,ok.bsz,ok.noex,ok.exfs,ok.funs,ok.frf⟩
section
variable {X:Cx}
theorem Inv.wish (I:Inv X g j H s) (E:Ac->Ae->Prop):Inv (X.wish E) g j H s:=⟨I.ok.wish E,I.os,I.bare,I.base,I.loc,I.cell,I.free,I.freeC,I.pin,I.hok,I.len⟩
theorem Inv.unwish (I:Inv (X.wish E) g j H s):Inv X g j H s:=⟨I.ok.unwish,I.os,I.bare,I.base,I.loc,I.cell,I.free,I.freeC,I.pin,I.hok,I.len⟩
theorem SP.unwish {D:Ends}(h:SP (X.wish E) g D f j):SP X g D f j:=by
 cases f with
 | next=>obtain⟨a,b,I,q⟩:=h;exact⟨a,b,I.unwish,q⟩
 | brk=>obtain⟨a,b,I,q⟩:=h;exact⟨a,b,I.unwish,q⟩
 | cont=>obtain⟨a,b,I,q⟩:=h;exact⟨a,b,I.unwish,q⟩
 | ret u=>obtain⟨v,a,b,I,r,q⟩:=h;exact⟨v,a,b,I.unwish,r,q⟩
theorem pX.nox {st:Aa Stmt}(h:pX X.nox st t):pX X st t:=λa s b H D I hw =>
 cV (h a s b H D (I.wish _) hw) (λ_ _ q=>q.unwish) λ_ _ z=>False.elim z
end
section
variable {X:Cx}{st:Stmt}{rest:Aa Stmt}
def DZ:TS:=λD a H=>D.nx a H
def Mi (t u:TS):TS:=λD a H=>t { D with nx:=u D } a H
theorem E9:pX X [] DZ:=λ_ _ a H _ I h=>kT ⟨a,H,I,h⟩
theorem qL (g:PS X st t) (j:pX X rest u):pX X (st::rest) (Mi t u):=by
 intro a s i H D I h;refine wpAny_execs_cons (mM (g a s i H { D with nx:=u D } I h) λf e q=>?_);cases f with
 | next =>
  obtain⟨b,c,d,q⟩:=q;exact j a e b c D d q
 | ret v=>exact q
 | brk=>exact q
 | cont=>exact q
theorem uE (g:PS X st t):pX X [st] t:=by
 intro a s b H D I h;refine wpAny_execs_cons (mM (g a s b H D I h) λf c q=>?_);cases f with
 | next=>exact kT q
 | ret v=>exact q
 | brk=>exact q
 | cont=>exact q
theorem Inv.quiet (I:Inv X g j H s):interactive X.env=false:=by simp[interactive,I.ok.kind]
def AV (g:TE):TS:=λD a H=>g a H λ_ b=>D.nx a b
theorem S5 (g:PE X e l) (j:swapsWith e none pos.line X.env=pure false:=by rfl):PS X (.Expr e pos) (AV l):=by
 intro a s b H D I h;exact wpAny_Expr_any (mM (g a s b H _ I h) λv k ⟨x,c,d,i,f⟩=>⟨b,c,d,f⟩) I.quiet j
def Wj (g:TE):TS:=λD a H=>g a H D.rt
theorem Bi (g:PE X e j):PS X (.Return (some e) pos) (Wj j):=by
 intro a s b H D I h;exact wpAny_Return_some (mM (g a s b H _ I h) λv k ⟨x,c,d,i,f⟩=>⟨x,b,c,d,i,f⟩)
def TY (c:TT) (t u:TS):TS:=λD a H=>c a H λb d=>if b=true then t D a d else u D a d
theorem Ew (l:PT X c o) (g:pX X a t) (j:pX X b u):PS X (.If c a b pos) (TY o t u):=by
 intro e s i H D I h;refine wpAny_If (mM (l e s i H _ I h) λd q f=>?_);obtain⟨k,m,n⟩:=f;cases d with
 | true=>exact g e q i k D m n
 | false=>exact j e q i k D m n
def WL:TS:=λ_ _ _=>False
theorem HS:PS X st WL:=λ_ _ _ _ _ _ h=>h.elim
end
abbrev TG:=V->St->Hp->(St->Hp->Prop)->Prop
abbrev Aj:=Aa V->St->Hp->(St->Hp->Prop)->Prop
def PG (X:Cx) (target:Expr) (t:TG):Prop :=
 ∀ (a:Aa (Ad×Obj)) (s:Ae) (d:St) (H:Hp) (v:V) (u:Ac) (Q:St->Hp->Prop),Inv X a d H s->mX v u->t v d H Q ->
  wpAny (model X.prog X.w) X.A (assign target X.env u) (λ_ e=>∃ b c,Inv X a b c e/\Q b c) X.xe s
def yK (X:Cx) (g:Aa Expr) (t:Aj):Prop :=
 ∀ (a:Aa (Ad×Obj)) (s:Ae) (f:St) (H:Hp) (e:Aa V) (d:Aa Ac) (Q:St->Hp->Prop),Inv X a f H s->mV e d->t e f H Q ->
  wpAny (model X.prog X.w) X.A (assignInOrder ((assignEach g X.env).map (·.2)) d) (λ_ h=>∃ b c,Inv X a b c h/\Q b c) X.xe s
abbrev Ob:=V->V->V->Hp->(Hp->Prop)->Prop
def Kl (X:Cx) (t:Ob):Prop :=
 ∀ (a:Aa (Ad×Obj)) (s:Ae) (e:St) (H:Hp) (o i v:V) (d c u:Ac) (Q:Hp->Prop),Inv X a e H s->mX o d->mX i c->mX v u->t o i v H Q ->
  wpAny (model X.prog X.w) X.A (setItem d c u) (λ_ f=>∃ b,Inv X a e b f/\Q b) X.xe s
abbrev Kv:=V->V->Hp->VK->Prop
def K1 (X:Cx) (op:Operator) (t:Kv):Prop :=
 ∀ (a:Aa (Ad×Obj)) (s:Ae) (b:St) (H:Hp) (x y:V) (v u:Ac) (Q:VK),Inv X a b H s->mX x v->mX y u->t x y H Q ->
  wpAny (model X.prog X.w) X.A (inplaceOp op v u) (EP X a b Q) X.xe s
section
variable {X:Cx}
def zI (i:Nat):TG:=λv a H Q=>Q (a.set i (some v)) H
theorem xO (g:X.N.Nodup) (l:X.N[i]?=some x) (o:xP X.env.scope x) (j:X.fn x=true\/X.env.scope.names.lookup x=some .local:=by first | exact .inl rfl | exact .inr rfl | assumption):PG X (.Name x pos) (zI i):=by
 intro a s d H v u Q I r h;exact wpAny_assign_Name (Nc I g l o r (λc b=>⟨_,H,b,h⟩) j)
def QA:Aj:=λa b H Q=>a=[]/\Q b H
def CF (t:TG) (u:Aj):Aj:=λc d H Q=>∃ v r,c=v::r/\t v d H λa b=>u r a b Q
theorem EZ:yK X [] QA:=by
 intro a s b H d c Q I r h;obtain⟨e,h⟩:=h;subst e;cases r;exact assignInOrder_nil ⟨b,H,I,h⟩
theorem IR (j:PG X e t) (l:yK X g u)
  (o:(assignEach (e::g) X.env).map (·.2)=assign e X.env::(assignEach g X.env).map (·.2):=by rfl):yK X (e::g) (CF t u):=by
 intro a s q H y w Q I r h;obtain⟨v,x,i,h⟩:=h;subst i;cases r with
 | cons r m =>
  rw[o];refine assignInOrder_cons (mM (j a s q H _ _ _ I r h) λ_ n b=>?_);obtain⟨c,d,f,k⟩:=b;exact l a n c d _ _ Q f m k
def LN (K:mH) (n:Nat) (t:Aj):TG:=λv c H Q=>∃ a b,v = .ref a/\nG K H a b/\b.length=n/\t b c H Q
theorem SG (l:X.calm=true) (h:yK X g t)
  (p:(assignEach g X.env).length=n:=by rfl) (j:(assignEach g X.env).findIdx? (·.1)=none:=by rfl):PG X (.Tuple g k pos) (LN X.K n t):=by
 intro c s f H v u Q I r hw;obtain⟨a,B,m,x,w,hw⟩:=hw;subst m;cases r;obtain⟨A,d,y,D⟩:=I.tuple x;refine assign_Tuple_tuple (I.ok.hd l) y (by simp[p,<- w,d.length]) j λq z=>?_
 have i:Inv X c f H { s with heap:=q }:=I.kept (t':=s.toks) λb o e=>z b o (bK (bA e)) e
 exact h c _ f H B _ Q i (by simpa using d) hw
def KQ (j g:TE) (t:Ob):TG:=λv a H Q=>j a H λo b=>g a b λi c=>t o i v c λd=>Q a d
theorem Fv (C:PE X o U) (p:PE X i T) (J:Kl X t)
  (l:∀ v,assign (.Subscript o i pos) X.env v=(do
   let g <- holding [v] (eval o X.env);let j <- holding [v,g] (eval i X.env)
   standAt pos
   holding [v,g,j] (setItem g j v)
   release [v,g,j] []):=by intro _;rfl):PG X (.Subscript o i pos) (KQ U T t):=by
 intro b s c H v u Q I r h;rw[l];refine aB (bY (mM (C b s c H _ I h) λg D a=>?_));obtain⟨x,d,k,A,q⟩:=a;refine aB (bY (mM (p b D c d _ k q) λj E a=>?_));obtain⟨y,e,m,B,w⟩:=a;refine aB (lU (aB (bY (mM (J b E c e x y v g j u _ m A B r w) λ_ F a=>?_))));obtain⟨f,n,z⟩:=a;exact wpAny_release ⟨c,f,n,z⟩
def Om (j:TE) (g:TG):TS:=λD a H=>j a H λx b=>g x a b D.nx
theorem E2 (o:PE X e C) (p:PG X j g) (r:swapsWithSole [j] e pos.line X.env=pure false:=by rfl) (hw:swappedStores [j] e X.env=pure none:=by rfl)
  (l:(assignEach [j] X.env).map (·.2)=[assign j X.env]:=by rfl):PS X (.Assign [j] e pos) (Om C g):=by
 intro a s c H D I h;refine wpAny_Assign_stores (mM (o a s c H _ I h) λv m b=>?_) r hw;obtain⟨x,d,f,k,i⟩:=b;rw[l];exact mM (p a m c d x v _ f k i) λ_ n q=>q
theorem qT (j:X.N.Nodup) (p:X.N[i]?=some x) (C:xP X.env.scope x) (l:PE X e J) (r:swapsWith e (some (.Name x g)) pos.line X.env=pure false:=by rfl) (o:X.fn x=true\/X.env.scope.names.lookup x=some .local:=by first | exact .inl rfl | exact .inr rfl | assumption) :
  PS X (.Assign [.Name x g] e pos) (Om J (zI i)):=by
 intro a s n H D I h;refine wpAny_Assign_Name (mM (l a s n H _ I h) λv q b=>?_) r;obtain⟨y,c,d,m,k⟩:=b;exact Nc d j p C m (λt f=>⟨_,c,f,k⟩) o
def HI (i:Nat) (g:TE) (j:Kv):TS:=λD a H=>∃ x,a[i]?=some (some x)/\g a H λy b=>j x y b λz c=>D.nx (a.set i (some z)) c
theorem SU (p:X.N.Nodup) (j:X.N[i]?=some x) (g:xP X.env.scope x) (C:PE X e U) (T:K1 X op ti) (J:X.fn x=true\/X.env.scope.names.lookup x=some .local:=by first | exact .inl rfl | exact .inr rfl | assumption) :
  PS X (.AugAssign (.Name x o) op e pos) (HI i U ti):=by
 intro a s B H D I h;obtain⟨v,M,h⟩:=h;obtain⟨m,R,P⟩:=I.loc;have t:Ji X.env.scope x:=by rcases g with k | k;exact .inl k;exact .inr (.inl k)
 obtain⟨u,r,l⟩:=P i x v j M t;refine wpAny_AugAssign_Name ?_;have go:wpAny (model X.prog X.w) X.A (eval e X.env) (λw n=>wpAny (model X.prog X.w) X.A (inplaceOp op u w) (λr q=>wpAny (model X.prog X.w) X.A (storeName X.env x r) (λ_=>SP X a D .next) X.xe q) X.xe n) X.xe s:=by
  refine mM (C a s B H _ I h) λw Z f=>?_
  obtain⟨y,E,G,W,S⟩:=f;refine mM (T a Z B E v y u w _ G r W S) λz s2 f=>?_
  obtain⟨zv,F,K,Y,V⟩:=f;exact Nc K p j g Y (λs3 L=>⟨_,F,L,V⟩) J
 rcases l with⟨b,Q⟩ | ⟨b,c,O,d⟩
 .exact wpAny_loadName_local I.ok.kind b R Q go
 .rcases b with b | b
  .exact wpAny_loadName_cell I.ok.kind b O d go
  .rcases g with k | k
   .have:X.env.scope.names.lookup x=some .free:=b;rw[k] at this;cases this
   .have:X.env.scope.names.lookup x=some .free:=b;rw[k] at this;cases this
def Uv (f:Int->Int->Int):Kv:=λx y H Q=>∃ i j,x = .int i/\y = .int j/\Q (.int (f i j)) H
theorem Mp:K1 X .Add (Uv λi j=>i+j):=by
 intro a s k H x y v u Q I d e h;obtain⟨i,j,b,c,q⟩:=h;subst b;subst c;obtain⟨t,rfl⟩:=d;obtain⟨f,rfl⟩:=e;exact iadd_int ⟨.int _,H,I.tok _,⟨_,rfl⟩,q⟩
end
section
variable {X:Cx}
def EJ (c:TT) (g:TS):TS:=λD a H=>∃ W:Nat->St->Hp->Prop,(∃ m,W m a H)/\∀ m a H,W m a H ->
 c a H λb f=>if b=true then ∃ N:St->Hp->Prop,(∀ d e,N d e->∃ h,h<m/\W h d e)/\g { D with nx:=N,ct:=N,bk:=D.nx } a f else D.nx a f
theorem QS (g:PassesOwn (model X.prog X.w) X.A X.env X.xe) (l:PT X c p) (j:pX X body o):PS X (.While c body [] pos) (EJ p o):=by
 intro a s Z H D I h;obtain⟨W,⟨P,V⟩,k⟩:=h;refine wpAny_While (codeAny_whileLoop (λn Q=>∃ m F,Inv X a m F Q/\W n m F) ?_ P ⟨Z,H,I,V⟩);rintro n R ⟨e,G,O,Y⟩;refine gQ g (mM (l a R e G _ O (k n e G Y)) λb S y=>?_);obtain⟨K,L,q⟩:=y;cases b with
 | true =>
  obtain⟨N,M,q⟩:=q;rw[aR rfl];refine gQ g (mM (j a S e K _ L q) λf r t=>?_);cases f with
  | next =>
   obtain⟨d,i,u,B⟩:=t;obtain⟨z,x,E⟩:=M d i B;exact⟨z,x,d,i,u,E⟩
  | cont =>
   obtain⟨d,i,u,B⟩:=t;obtain⟨z,x,E⟩:=M d i B;exact⟨z,x,d,i,u,E⟩
  | brk=>exact t
  | ret v=>exact t
 | false =>
  rw[aM aY];exact kT ⟨e,K,L,q⟩
end
structure It where
 go:Nat->Hp->Prop
 yld:Nat->Hp->V->Hp->Prop
 stop:Nat->Hp->Prop
def tU (X:Cx) (g:Aa (Ad×Obj)) (H:Hp) (b:Ad):Prop :=
 H b=none/\b≠X.env.locals/\b∉X.fs/\(b∈X.ex\/X.s₀.heap.objs.size<=b)/\(∀ x c,X.env.cells.lookup x=some c->c≠b)/\∀ p∈X.pn++g,p.1≠b
theorem Inv.fpOk {X:Cx}(I:Inv X j r H s) (g:s.heap.objs.size<=b) (o:l b=none):tU X j l b:=by
 refine⟨o,iD (bI I.lt g),I.nofs g,.inr (bN I.sz g),λx c e z=>?_,λp a z=>?_⟩
 .obtain⟨v,q⟩:=I.cell x c e;exact absurd (bI q.lt (by rw[z];exact g)) (eM _)
 .exact absurd (bI (bA (I.pin p a).1) (by rw[z];exact g)) (eM _)
structure Turn (P:Program) (w:World) (K:mH) (tg:Expr) (J:It) (fp:List Addr) (it:Addr) (tn:Nat->Heap->Prop):Prop where
 mem:it∈fp
 obj:∀ i h,tn i h->∀ b∈fp,∃ o,h.get? b=some o/\∀ v,o.data ≠ .cell v
 keep:∀ i h h',tn i h->(∀ b∈fp,∀ o,h.get? b=some o->h'.get? b=some o)->tn i h'
 item:∀ (X:Cx),X.prog=P->X.w=w->X.K=K->X.calm=true->∀ (i:Nat) (pins:List (Addr×Obj)) (s:Shared) (σ:St) (H:Hp) (E:Value->Shared->Prop),Inv X pins σ H s->(∀ b∈fp,tU X pins H b)->tn i s.heap->J.go i H ->
  wpAny (model P w) X.A (pyNext (.ref it)) (λr s1=>∃ u,r=some u /\ wpAny (model P w) X.A (letOwnedTupleGo tg (.ref it) u) (λ_ s2=>∃ x H',Inv X pins σ H' s2/\mX x u/\J.yld i H x H'/\tn (i+1) s2.heap/\∀ b∈fp,H' b=none) E s1) E s
 done:∀ (X:Cx),X.prog=P->X.w=w->X.K=K->X.calm=true->∀ (i:Nat) (pins:List (Addr×Obj)) (s:Shared) (σ:St) (H:Hp) (E:Value->Shared->Prop),Inv X pins σ H s->(∀ b∈fp,tU X pins H b)->tn i s.heap->J.stop i H ->
  wpAny (model P w) X.A (pyNext (.ref it)) (λr s1=>r=none/\Inv X pins σ H s1) E s
 self:∀ (A:Around) (i:Nat) (s:Shared) (Q:Value->Shared->Prop) (E:Value->Shared->Prop),tn i s.heap->Q (.ref it) s->wpAny (model P w) A (pyIter (.ref it)) Q E s
abbrev TI:=St->Hp->(It->Hp->Prop)->Prop
def R4 (X:Cx) (g:Aa (Ad×Obj)) (p:St) (o:Expr) (R:It->Hp->Prop) (j:Ac) (l:Ae):Prop :=
 ∃ (d:Ad) (c:Aa Ad) (e:Nat->Ag->Prop) (J:It) (a:Hp),j = .ref d/\Inv X g p a l/\Turn X.prog X.w X.K o J c d e/\e 0 l.heap/\(∀ b∈c,tU X g a b)/\R J a
def PI (X:Cx) (g iter:Expr) (j:TI):Prop :=
 ∀ (a:Aa (Ad×Obj)) (s:Ae) (b:St) (H:Hp) (R:It->Hp->Prop),Inv X a b H s->j b H R ->
  wpAny (model X.prog X.w) X.A (eval iter X.env) (λv c=>wpAny (model X.prog X.w) X.A (pyIter v) (R4 X a b g R) X.xe c) X.xe s
theorem At (p:s.heap.get? r=some o) (j:o.cls = .type n) (hd:o.data = .fields I)
  (l:["enumerate","zip","dict_itemiterator","dict_reverseitemiterator","odict_iterator","itertools.zip_longest","itertools.pairwise"].contains n=false) (g:Q () s):wpAny M A (letOwnedTupleGo C (.ref r) u) Q E s:=by
 unfold letOwnedTupleGo;cases C<;>first
  | exact aE g
  | (cases u<;>first
    | exact aE g
    | (refine aB (wpAny_load p ?_);rw[j,hd];show wpAny M A (if (["enumerate","zip","dict_itemiterator","dict_reverseitemiterator","odict_iterator","itertools.zip_longest","itertools.pairwise"].contains n&&I[0]? == some (rawInt _))=true then _ else _) Q E s;rw[aM (by intro h;rw[l,Bool.false_and] at h;cases h)];exact aE g))
def xX (K:mH) (a:Ad):It :=
 ⟨λi H=>∃ b x,mK K H a b/\b[i]?=some x,λi H x c=>c=H/\∀ b,mK K H a b->b[i]?=some x,λi H=>∃ b,mK K H a b/\b.length<=i⟩
def Cs (K:mH) (a:Ad):It :=
 ⟨λi H=>∃ b x,nG K H a b/\b[i]?=some x,λi H x c=>c=H/\∀ b,nG K H a b->b[i]?=some x,λi H=>∃ b,nG K H a b/\b.length<=i⟩
def vQ (lo:Int) (n:Nat):It:=⟨λi _=>i<n,λi H x a=>a=H/\x = .int (lo+i),λi _=>n<=i⟩
theorem Sb {P:Ah}{K:mH}(a g:Ad):Turn P w K J (xX K a) [g] g (λi h=>h.IsListIter g a i) where
 mem:=by simp
 obj:=λi h st b m=>by
  have e:b=g:=by simpa using m
  subst e;obtain⟨o,e,c,d⟩:=st;exact⟨o,e,λv z=>by rw[d] at z;cases z⟩
 keep:=λi h q st k=>st.at λo e=>k g (by simp) o e
 item:=by
  intro X G hw F Q i f s R H E I t st L;subst G hw F;obtain⟨r,x,y,M⟩:=L;obtain⟨N,O,p,Z⟩:=I.list y;obtain⟨u,W,j⟩:=O.get M;obtain⟨f0,f1,f2,A,B,D⟩:=t g (by simp);refine wpAny_pyNext_list_item st p.isList (x:=u) (by simpa using W) λq n l=>?_
  have S:Inv X f R H { s with heap:=q }:=I.turned (t':=s.toks) (λb o m e=>(l.2 b m).trans e) f0 f1 A B D;obtain⟨o,e,c,d⟩:=id n;exact⟨u,rfl,At (s:={ s with heap:=q }) e c d (by decide) ⟨x,H,S,j,⟨rfl,λT Y=>by rw[I.list_inj Y y];exact M⟩,n,λb m=>(t b m).1⟩⟩
 done:=by
  intro X G hw F Q i f s R H E I t st L;subst G hw F;obtain⟨r,y,M⟩:=L;obtain⟨N,O,p,Z⟩:=I.list y;obtain⟨f0,f1,f2,A,B,D⟩:=t g (by simp);have C:=O.length;exact wpAny_pyNext_list_end (I.ok.hd Q) st p.isList (by simp;omega) λq V=>⟨rfl,I.turned (t':=s.toks) (λb o m e=>V b o m e) f0 f1 A B D⟩
 self:=λ_ _ _ _ _ st h=>wpAny_pyIter_listiter st h
theorem NI {P:Ah}{K:mH}(a g:Ad):Turn P w K J (Cs K a) [g] g (λi h=>h.IsTupleIter g a i) where
 mem:=by simp
 obj:=λi h st b m=>by
  have e:b=g:=by simpa using m
  subst e;obtain⟨o,e,c,d⟩:=st;exact⟨o,e,λv z=>by rw[d] at z;cases z⟩
 keep:=λi h t st k=>st.at λo e=>k g (by simp) o e
 item:=by
  intro X L hw G Q i f s R H E I y st M;subst L hw G;obtain⟨r,x,A,N⟩:=M;obtain⟨n,O,p,Z⟩:=I.tuple A;obtain⟨u,W,j⟩:=O.get N;obtain⟨f0,f1,f2,B,D,F⟩:=y g (by simp);refine wpAny_pyNext_tuple_item st (show s.heap.IsTuple a n.toArray from p) (x:=u) (by simpa using W) λt q l=>?_
  have S:Inv X f R H { s with heap:=t }:=I.turned (t':=s.toks) (λb o m e=>(l.2 b m).trans e) f0 f1 B D F;obtain⟨o,e,c,d⟩:=id q;exact⟨u,rfl,At (s:={ s with heap:=t }) e c d (by decide) ⟨x,H,S,j,⟨rfl,λT Y=>by rw[I.tuple_inj Y A];exact N⟩,q,λb m=>(y b m).1⟩⟩
 done:=by
  intro X L hw G Q i f s R H E I y st M;subst L hw G;obtain⟨r,A,N⟩:=M;obtain⟨n,O,p,Z⟩:=I.tuple A;obtain⟨f0,f1,f2,B,D,F⟩:=y g (by simp);have C:=O.length;exact wpAny_pyNext_tuple_end (I.ok.hd Q) st (show s.heap.IsTuple a n.toArray from p) (by simp;omega) λt V=>⟨rfl,I.turned (t':=s.toks) (λb o m e=>V b o m e) f0 f1 B D F⟩
 self:=λ_ _ _ _ _ st h=>wpAny_pyIter_tupleiter st h
theorem TL {P:Ah}{K:mH}(g:Ad) (lo:Int) (n:Nat):Turn P w K j (vQ lo n) [g] g (λi h=>IsRangeIter h g (lo+(i:Nat)*1) ((n:Int)-(i:Nat)) 1) where
 mem:=by simp
 obj:=λi h st b c=>by
  have e:b=g:=by simpa using c
  subst e;exact⟨_,st,λv z=>by
   have Q:Data.fields _=Data.cell v:=z;cases Q⟩
 keep:=λi h f st k=>k g (by simp) _ st
 item:=by
  intro X A hw y B i a s G H E I m st D;subst A hw y;obtain⟨f0,f1,f2,q,u,x⟩:=m g (by simp);have W:=Walks.range (prog:=X.prog) (w:=X.w) (I.ok.hd B) g lo 1 n;refine W.item i s _ _ D st λv f F N d O=>?_
  obtain⟨t,rfl⟩:=N;have L:Inv X a G H { s with heap:=f,toks:=F }:=I.turned (λb o c e=>O b o (by simpa using c) e) f0 f1 q u x;refine⟨_,rfl,At (s:={ s with heap:=f,toks:=F }) (n := "range_iterator") d rfl rfl (by decide) ⟨.int (lo+i),H,L,⟨t,?_⟩,⟨rfl,rfl⟩,d,λb c=>(m b c).1⟩⟩;rw[Int.mul_one]
 done:=by
  intro X A hw y B i a s G H E I m st D;subst A hw y;obtain⟨f0,f1,f2,q,u,x⟩:=m g (by simp);exact wpAny_pyNext_range_end (I.ok.hd B) st (by have:n<=i:=D;omega) λf M=>⟨rfl,I.turned (t':=s.toks) (λb o c e=>M b o c e) f0 f1 q u x⟩
 self:=λ_ _ _ _ _ st h=>jS st h
section
variable {X:Cx}
def Y6 (K:mH) (g:TE):TI:=λd H R=>g d H λx b=>∃ a,x = .ref a/\(∃ c,mK K b a c)/\R (xX K a) b
theorem BA (g:PE X l j):PI X r l (Y6 X.K j):=by
 intro c s y H R I h;refine mM (g c s y H _ I h) λv f i=>?_
 obtain⟨x,k,d,w,u⟩:=i;obtain⟨a,e,⟨B,n⟩,q⟩:=u;subst e;cases w;obtain⟨t,A,p,z⟩:=d.list n;refine fB p.isList ?_;refine⟨f.heap.objs.size,[f.heap.objs.size],_,_,k,rfl,d.kept (t':=f.toks) λb o e=>aG _ e,Sb a _,⟨_,bB _ rfl,rfl,rfl⟩,λb m=>?_,q⟩;have e:b=f.heap.objs.size:=by simpa using m
 subst e;exact d.fpOk (aW _) (d.hok.fresh (aW _))
theorem EA {R:It->Hp->Prop}{lo:Int}(I:Inv X j p H s) (r:-(2 ^ 62)<=lo) (C:lo<2 ^ 62) (J:-(2 ^ 62)<=g) (T:g<2 ^ 62)
  (q:R (vQ lo (g-lo).toNat) H):wpAny (model X.prog X.w) X.A (pyIter (.ref s.heap.objs.size)) (R4 X j p U R) E { s with heap:=s.heap.push { cls:=.type "range",data:=.fields #[.int lo t,.int g u,.int 1 v] },toks:=l }:=by
 refine wpAny_pyIter_range (IsRange.new ..) (small_one r C J T) ?_;have a:Inv X j p H { s with heap:=s.heap.push { cls:=.type "range",data:=.fields #[.int lo t,.int g u,.int 1 v] },toks:=l }:=I.kept λb o e=>aG _ e
 refine⟨(s.heap.push { cls:=.type "range",data:=.fields #[.int lo t,.int g u,.int 1 v] }).objs.size,[(s.heap.push { cls:=.type "range",data:=.fields #[.int lo t,.int g u,.int 1 v] }).objs.size],_,_,H,rfl,
  a.kept (t':=l) λb o e=>aG _ e,TL _ lo (g-lo).toNat,?_,λb f=>?_,q⟩
 .have c:lo+((0:Nat):Int)*1=lo:=by simp
  have d:(((g-lo).toNat:Nat):Int)-((0:Nat):Int)=Builtin.Range.rangeSize lo g 1:=by rw[rangeSize_one];split<;>omega
  show IsRangeIter _ _ (lo+((0:Nat):Int)*1) ((((g-lo).toNat:Nat):Int)-((0:Nat):Int)) 1;rw[c,d];exact bB _ rfl
 .have e:b=(s.heap.push { cls:=.type "range",data:=.fields #[.int lo t,.int g u,.int 1 v] }).objs.size:=by simpa using f
  subst e;exact a.fpOk (aW _) (a.hok.fresh (aW _))
def DX (g:TA):TI:=λc H R=>g c H λb a=>∃ j:Int,b=[.int j]/\-(2 ^ 62)<=j/\j<2 ^ 62/\R (vQ 0 j.toNat) a
theorem Ee (l:Gl X "range") (o:X.mg "range" = none) (g:PA X [a] J) (C:starEach [a] X.env=[(false,eval a X.env)]:=by rfl):PI X T (.Call (.Name "range" p) [a] [] pos) (DX J):=by
 intro b s n H R I h;refine Call_ (vZ I l o boot_range (cR (mM (g pos b s n H _ I h) λw v c=>?_) C rfl));obtain⟨x,u,f,k,d⟩:=c;obtain⟨j,e,d,i,q⟩:=d;subst e;cases k with
 | cons r m =>
  cases m;obtain⟨t,rfl⟩:=r;exact call_range_1 (EA f (by omega) (by omega) d i (by simpa using q))
def EI (l:TI) (g:TG) (j:TS):TS:=λD a H=>l a H λJ f=>∃ W:Nat->Nat->St->Hp->Prop,(∃ m,W 0 m a f)/\∀ i m a H,W i m a H ->
 (J.stop i H/\D.nx a H)\/(J.go i H/\∃ N:St->Hp->Prop,(∀ c b,N c b->∃ e,e<m/\W (i+1) e c b)/\∀ x b,J.yld i H x b->g x a b λd h=>j { D with nx:=N,ct:=N,bk:=D.nx } d h)
def C9 (g:Aa Ad) (h:Ag):Aa (Ad×Obj):=g.filterMap λb=>(h.get? b).map λo=>(b,o)
theorem Gr (j:b∈g) (e:h.get? b=some o):(b,o)∈C9 g h:=lG.mpr ⟨b,j,by rw[e];rfl⟩
theorem WP (j:p∈C9 g h):p.1∈g/\h.get? p.1=some p.2:=by
 obtain⟨b,c,e⟩:=lG.mp j;cases q:h.get? b with
 | none=>rw[q] at e;cases e
 | some o =>
  rw[q] at e;have a:(b,o)=p:=bU e;subst a;exact⟨c,q⟩
theorem Inv.pinned (I:Inv X g C H s) (l:∀ b∈j,tU X g H b) (r:∀ b∈j,∃ o,s.heap.get? b=some o/\∀ v,o.data ≠ .cell v):Inv X (g++C9 j s.heap) C H s :=
 I.pins_of λp f=>(aU.mp f).elim (λz=>I.pin p (aN _ z)) λz=>by
  obtain⟨c,e⟩:=WP z;obtain⟨f0,f1,f2,_⟩:=l p.1 c;obtain⟨o,a,d⟩:=r p.1 c;rw[e] at a;cases a;exact⟨e,f0,f1,f2,d⟩
theorem Inv.unpinned (I:Inv X (g++l) j H s):Inv X g j H s:=I.pins_of λp a=>I.pin p (aN _ (aT _ a))
theorem J4 {iter:Expr}(l:PassesOwn (model X.prog X.w) X.A X.env X.xe) (hc:X.calm=true) (hi:PI X tg iter wi) (hg:PG X tg g) (j:pX X body tb)
  (hs:∀ x,foldedSetIterable iter X.env x=pure x:=by intro _;rfl):PS X (.For tg iter body [] pos) (EI wi g tb):=by
 intro a s σ H D I h;refine wpAny_For (mM (hi a s σ H _ I h) λv s1 h1=>mM h1 λaa s2 h2=>?_) hs;obtain⟨it,K,tn,J,H2,e,I2,T,Z,f2,W,⟨m0,w0⟩,P⟩:=h2;subst e;have y:∀ {E:Hp},(∀ b∈K,E b=none)->∀ b∈K,tU X a E b:=λhn b j=>⟨hn b j,(f2 b j).2⟩
 refine codeAny_forLoop_any (λn s'=>∃ i z E,Inv X a z E s'/\tn i s'.heap/\(∀ b∈K,E b=none)/\W i n z E) ?_ m0 ⟨0,σ,H2,I2,Z,λb j=>(f2 b j).1,w0⟩;rintro n s3 ⟨i,B,Q,U,O,L,w3⟩;rcases P i n B Q w3 with⟨stop,qn⟩ | ⟨go,N,hN,step⟩
 .refine gQ l (mM (T.done X rfl rfl rfl hc i a s3 B Q X.xe U (y L) O stop) λr s4 k=>?_);obtain⟨V,I4⟩:=k;subst V;exact kT ⟨B,Q,I4,qn⟩
 .refine gQ l (mM (T.item X rfl rfl rfl hc i a s3 B Q X.xe U (y L) O go) λr s4 k=>?_);obtain⟨u,V,h4⟩:=k;subst V;refine gQ l (mM h4 λ_ s5 k=>?_);obtain⟨x,C,I5,r5,y5,G,S⟩:=k;have R:=I5.pinned (y S) (T.obj _ _ G);refine gQ l (mM (hg _ s5 B C x u _ R r5 (step x C y5)) λ_ s6 k=>?_);obtain⟨p,H6,I6,q6⟩:=k;refine gQ l (mM (j _ s6 p H6 _ I6 q6) λf Y F=>?_);have again:∀ {c:St} {q:Hp},Inv X (a++C9 K s5.heap) c q Y->N c q->∃ m,m<n/\∃ i z E,Inv X a z E Y/\tn i Y.heap/\(∀ b∈K,E b=none)/\W i m z E:=λ{c q} t M=>by
   obtain⟨m',hm,w7⟩:=hN c q M;refine⟨m',hm,i+1,c,q,t.unpinned,T.keep _ _ _ G λb j o e=>(t.pin (b,o) (aN _ (aN _ (Gr j e)))).1,λb j=>?_,w7⟩;obtain⟨o,e,d⟩:=T.obj _ _ G b j;exact (t.pin (b,o) (aN _ (aN _ (Gr j e)))).2.1
  cases f with
  | next=>obtain⟨c,q,t,M⟩:=F;exact again t M
  | cont=>obtain⟨c,q,t,M⟩:=F;exact again t M
  | brk=>obtain⟨c,q,t,F⟩:=F;exact⟨c,q,t.unpinned,F⟩
  | ret v=>obtain⟨x7,c,q,t,r7,F⟩:=F;exact⟨x7,c,q,t.unpinned,r7,F⟩
end
theorem UE {K:mH}{a:Ad}{xs:Aa V}{g:TG}{J:TS}{D:Ends}{j:St}{H:Hp}(Pv:Nat->St->Hp->Prop) (T:Pv 0 j H) (U:∀ i j H,i<=xs.length->Pv i j H->mK K H a xs)
  (hs:∀ i x j H,xs[i]?=some x->Pv i j H->g x j H λr C=>J { D with nx:=Pv (i+1),ct:=Pv (i+1),bk:=D.nx } r C) (hd:∀ j H,Pv xs.length j H->D.nx j H) :
  ∃ W:Nat->Nat->St->Hp->Prop,(∃ m,W 0 m j H)/\∀ i m j H,W i m j H ->
   ((xX K a).stop i H/\D.nx j H)\/((xX K a).go i H/\∃ N:St->Hp->Prop,(∀ o l,N o l->∃ I,I<m/\W (i+1) I o l)/\∀ x l,(xX K a).yld i H x l->g x j l λr C=>J { D with nx:=N,ct:=N,bk:=D.nx } r C):=by
 refine⟨λi m j H=>m=xs.length-i/\i<=xs.length/\Pv i j H,⟨xs.length,by simp,dF _,T⟩,?_⟩;rintro i m j H ⟨rfl,c,p⟩;have q:=U i j H c p;by_cases b:i<xs.length
 .refine .inr ⟨⟨xs,xs[i],q,by simp[b]⟩,Pv (i+1),λo l d=>⟨xs.length-(i+1),by omega,rfl,b,d⟩,λx l y=>?_⟩;obtain⟨e,y⟩:=y;subst e;exact hs i x j _ (y xs q) p
 .have e:i=xs.length:=by omega
  subst e;exact .inl ⟨⟨xs,q,aW _⟩,hd j H p⟩
theorem VZ {K:mH}{a:Ad}{xs:Aa V}{g:TG}{J:TS}{D:Ends}{j:St}{H:Hp}(Pv:Nat->St->Hp->Prop) (T:Pv 0 j H) (U:∀ i j H,i<=xs.length->Pv i j H->nG K H a xs)
  (hs:∀ i x j H,xs[i]?=some x->Pv i j H->g x j H λr C=>J { D with nx:=Pv (i+1),ct:=Pv (i+1),bk:=D.nx } r C) (hd:∀ j H,Pv xs.length j H->D.nx j H) :
  ∃ W:Nat->Nat->St->Hp->Prop,(∃ m,W 0 m j H)/\∀ i m j H,W i m j H ->
   ((Cs K a).stop i H/\D.nx j H)\/((Cs K a).go i H/\∃ N:St->Hp->Prop,(∀ o l,N o l->∃ I,I<m/\W (i+1) I o l)/\∀ x l,(Cs K a).yld i H x l->g x j l λr C=>J { D with nx:=N,ct:=N,bk:=D.nx } r C):=by
 refine⟨λi m j H=>m=xs.length-i/\i<=xs.length/\Pv i j H,⟨xs.length,by simp,dF _,T⟩,?_⟩;rintro i m j H ⟨rfl,c,p⟩;have q:=U i j H c p;by_cases b:i<xs.length
 .refine .inr ⟨⟨xs,xs[i],q,by simp[b]⟩,Pv (i+1),λo l d=>⟨xs.length-(i+1),by omega,rfl,b,d⟩,λx l y=>?_⟩;obtain⟨e,y⟩:=y;subst e;exact hs i x j _ (y xs q) p
 .have e:i=xs.length:=by omega
  subst e;exact .inl ⟨⟨xs,q,aW _⟩,hd j H p⟩
theorem V2 {lo:Int}{n:Nat}{g:TG}{J:TS}{D:Ends}{j:St}{H:Hp}(Pv:Nat->St->Hp->Prop) (T:Pv 0 j H)
  (U:∀ i j H,i<n->Pv i j H->g (.int (lo+i)) j H λr C=>J { D with nx:=Pv (i+1),ct:=Pv (i+1),bk:=D.nx } r C) (hd:∀ j H,Pv n j H->D.nx j H) :
  ∃ W:Nat->Nat->St->Hp->Prop,(∃ m,W 0 m j H)/\∀ i m j H,W i m j H ->
   ((vQ lo n).stop i H/\D.nx j H)\/((vQ lo n).go i H/\∃ N:St->Hp->Prop,(∀ o l,N o l->∃ I,I<m/\W (i+1) I o l)/\∀ x l,(vQ lo n).yld i H x l->g x j l λr C=>J { D with nx:=N,ct:=N,bk:=D.nx } r C):=by
 refine⟨λi m j H=>m=n-i/\i<=n/\Pv i j H,⟨n,by simp,dF _,T⟩,?_⟩;rintro i m j H ⟨rfl,c,p⟩;by_cases a:i<n
 .refine .inr ⟨a,Pv (i+1),λo l b=>⟨n-(i+1),by omega,rfl,a,b⟩,λx l y=>?_⟩;obtain⟨e,y⟩:=y;subst e y;exact U i j _ a p
 .have e:i=n:=by omega
  subst e;exact .inl ⟨aW _,hd j H p⟩
abbrev R2:=V->V->Hp->VK->Prop
def nC (X:Cx) (f:Ac->Ac->Sem Ac) (r:R2):Prop :=
 ∀ (a:Aa (Ad×Obj)) (s:Ae) (b:St) (H:Hp) (x y:V) (v u:Ac) (Q:VK),Inv X a b H s->mX x v->mX y u->r x y H Q ->
  wpAny (model X.prog X.w) X.A (f v u) (EP X a b Q) X.xe s
def Nf (X:Cx) (f:Ac->Sem Ac) (r:V->Hp->VK->Prop):Prop :=
 ∀ (a:Aa (Ad×Obj)) (s:Ae) (b:St) (H:Hp) (x:V) (v:Ac) (Q:VK),Inv X a b H s->mX x v->r x H Q ->
  wpAny (model X.prog X.w) X.A (f v) (EP X a b Q) X.xe s
def nW (X:Cx) (f:Ac) (r:Aa V->Hp->VK->Prop):Prop :=
 ∀ (a:Aa (Ad×Obj)) (s:Ae) (d:St) (H:Hp) (c:Aa V) (b:Aa Ac) (Q:VK),Inv X a d H s->mV c b->r c H Q ->
  wpAny (model X.prog X.w) X.A (call f b) (EP X a d Q) X.xe s
def IG (X:Cx) (r:V->Hp->(Bool->Hp->Prop)->Prop):Prop :=
 ∀ (a:Aa (Ad×Obj)) (s:Ae) (b:St) (H:Hp) (x:V) (v:Ac) (Q:Bool->Hp->Prop),Inv X a b H s->mX x v->r x H Q ->
  wpAny (model X.prog X.w) X.A (truthy v) (TP X a b Q) X.xe s
def Js (r:R2) (g j:TE):TE:=λa H Q=>g a H λx b=>j a b λy c=>r x y c Q
def AF (r:V->Hp->VK->Prop) (g:TE):TE:=λb H Q=>g b H λx a=>r x a Q
def rI (C:Int->Int->Prop) (g:Int->Int->V):R2:=λx y H Q=>∃ i j,x = .int i/\y = .int j/\C i j/\Q (g i j) H
def uW (g:Int->Int->V):R2:=λx y H Q=>∃ i j,x = .int i/\y = .int j/\Q (g i j) H
def rU (g:Int->V):V->Hp->VK->Prop:=λx H Q=>∃ i,x = .int i/\Q (g i) H
section
variable {X:Cx}
theorem M6 (J:PE X a ta) (T:PE X b tb){g:Aa (Ad×Obj)}{s:Ae}{l:St}{H:Hp}{R:V->V->Hp->Prop}(I:Inv X g l H s)
  (h:ta l H λx C=>tb l C λy j=>R x y j){Q:Ac->Ae->Prop}{f:Ac->Ac->Sem Ac}
  (U:∀ v u r x y j,Inv X g l j r->mX x v->mX y u->R x y j->wpAny (model X.prog X.w) X.A (f v u) Q X.xe r) :
  wpAny (model X.prog X.w) X.A (eval a X.env) (λv o=>wpAny (model X.prog X.w) X.A (eval b X.env) (λu p=>wpAny (model X.prog X.w) X.A (f v u) Q X.xe p) X.xe o) X.xe s:=by
 refine mM (J g s l H _ I h) λv q c=>?_
 obtain⟨x,C,d,m,i⟩:=c;refine mM (T g q l C _ d i) λu r c=>?_
 obtain⟨y,j,e,n,k⟩:=c;exact U v u r x y j e m n k
theorem nP (l:nC X (binaryOp op) r) (g:PE X a o) (j:PE X b p):PE X (.BinOp a op b pos) (Js r o p):=by
 intro c s m H Q I h;exact wpAny_BinOp (M6 g j I h λv u k x y d e f i q=>l c k m d x y v u Q e f i q)
theorem Y3 (j:Nf X (unaryOp op) r) (g:PE X a l):PE X (.UnaryOp op a pos) (AF r l):=by
 intro b s c H Q I h;exact UnaryOp_ (mM (g b s c H _ I h) λv k ⟨x,d,e,i,f⟩=>j b k c d x v Q e i f)
theorem As {f:Ac->Ac->Sem Ac}{C:Int->Int->Prop}{g:Int->Int->Int}
  (rule:∀ (i j:Int) (t u:Tok) (s:Ae) (Q:Ac->Ae->Prop) (E:Ac->Ae->Prop),C i j->Q (.int (g i j) s.toks) { s with toks:=s.toks+1 }->wpAny (model X.prog X.w) X.A (f (.int i t) (.int j u)) Q E s) :
  nC X f (rI C λi j=>.int (g i j)):=by
 intro a s k H x y v u Q I c d h;obtain⟨i,j,rfl,rfl,b,q⟩:=h;obtain⟨t,rfl⟩:=c;obtain⟨e,rfl⟩:=d;exact rule i j t e s _ _ b ⟨.int (g i j),H,I.tok _,⟨_,rfl⟩,q⟩
theorem Oj {f:Ac->Ac->Sem Ac}{g:Int->Int->Int}
  (rule:∀ (i j:Int) (t u:Tok) (s:Ae) (Q:Ac->Ae->Prop) (E:Ac->Ae->Prop),Q (.int (g i j) s.toks) { s with toks:=s.toks+1 }->wpAny (model X.prog X.w) X.A (f (.int i t) (.int j u)) Q E s) :
  nC X f (uW λi j=>.int (g i j)):=by
 intro a s e H x y v u Q I b c h;obtain⟨i,j,rfl,rfl,q⟩:=h;obtain⟨t,rfl⟩:=b;obtain⟨d,rfl⟩:=c;exact rule i j t d s _ _ ⟨.int (g i j),H,I.tok _,⟨_,rfl⟩,q⟩
theorem V6 {f:Ac->Ac->Sem Ac}{g:Int->Int->Bool}
  (rule:∀ (i j:Int) (t u:Tok) (s:Ae) (Q:Ac->Ae->Prop) (E:Ac->Ae->Prop),Q (.bool (g i j)) s->wpAny (model X.prog X.w) X.A (f (.int i t) (.int j u)) Q E s) :
  nC X f (uW λi j=>.b (g i j)):=by
 intro a s k H x y v u Q I c d h;obtain⟨i,j,rfl,rfl,q⟩:=h;obtain⟨t,rfl⟩:=c;obtain⟨e,rfl⟩:=d;exact rule i j t e s _ _ ⟨.b (g i j),H,I,rfl,q⟩
def WI (i j:Int):Prop:=0<j/\j<1073741824
def F9 (i j:Int):Prop:=0<=j/\j<=1000000/\i.natAbs<2 ^ 64
def Jc (i j:Int):Prop:=(-(2 ^ 64)<i/\i<2 ^ 64)\/(-(2 ^ 64)<j/\j<2 ^ 64)
theorem Jc.ok (h:Jc i j):IntMulOk i j:=by
 rcases h with⟨a,b⟩ | ⟨a,b⟩
 .exact .of_left (intBits_le_64 a b)
 .exact .of_right (intBits_le_64 a b)
theorem RA (k:Nat):(0:Int)<=2 ^ k:=by
 rw[two_pow_cast];exact Int.natCast_nonneg _
theorem xU:nC X (binaryOp .Add) (uW λi j=>.int (i+j)):=Oj λ_ _ _ _ _ _ _ q=>add_int q
theorem xR:nC X (binaryOp .Sub) (uW λi j=>.int (i-j)):=Oj λ_ _ _ _ _ _ _ q=>sub_int q
theorem wM:nC X (binaryOp .Mult) (rI Jc λi j=>.int (i*j)):=As λ_ _ _ _ _ _ _ a q=>mul_int q a.ok
theorem OF:nC X (binaryOp .FloorDiv) (rI WI λi j=>.int (i/j)):=As λi j _ _ _ _ _ a q=>by
 have b:(0:Int)<j:=a.1;have c:j<1073741824:=a.2;exact floordiv_int (by omega) (by rw[iN i (by omega)];exact q) (.inl (PyProof.noPylong_small (by omega)))
theorem uM:nC X (binaryOp .Mod) (rI (λ_ j=>0<j) λi j=>.int (i%j)):=As λi j _ _ _ _ _ a q=>by
 have b:(0:Int)<j:=a;exact mod_int' (by omega) (by rw[Int.fmod_eq_emod_of_nonneg i (by omega)];exact q)
theorem RG:nC X (binaryOp .Pow) (rI F9 λi j=>.int (i ^ j.toNat)):=As λ_ _ _ _ _ _ _ a q=>pow_int_small a.1 a.2.1 a.2.2 q
theorem Bv:nC X (binaryOp .LShift) (rI F9 λi j=>.int (i*2 ^ j.toNat)):=As λ_ _ _ _ _ _ _ a q=>lshift_int_small a.1 a.2.1 a.2.2 q
theorem FS:nC X (binaryOp .RShift) (rI (λ_ j=>0<=j) λi j=>.int (i/2 ^ j.toNat)):=As λi j _ _ _ _ _ a q =>
 rshift_int a (by rw[iN i (RA _)];exact q)
theorem SN:nC X (binaryOp .BitAnd) (uW λi j=>.int (Builtin.bitAnd i j)):=Oj λ_ _ _ _ _ _ _ q=>and_int q
theorem OU {f:Ac->Sem Ac}{g:Int->Int}
  (rule:∀ (i:Int) (t:Tok) (s:Ae) (Q:Ac->Ae->Prop) (E:Ac->Ae->Prop),Q (.int (g i) s.toks) { s with toks:=s.toks+1 }->wpAny (model X.prog X.w) X.A (f (.int i t)) Q E s) :
  Nf X f (rU λi=>.int (g i)):=by
 intro a s c H x v Q I b h;obtain⟨i,rfl,q⟩:=h;obtain⟨t,rfl⟩:=b;exact rule i t s _ _ ⟨.int (g i),H,I.tok _,⟨_,rfl⟩,q⟩
theorem WS:Nf X (unaryOp .USub) (rU λi=>.int (-i)):=OU λ_ _ _ _ _ q=>neg_int q
end
noncomputable def Kg:V->V->Bool
 | .e,.e=>true | .e,.int _=>true | .int _,.e=>true | .e,.b _=>true | .b _,.e=>true | .e,.str _=>true | .str _,.e=>true
 | .int _,.int _=>true | .b _,.b _=>true | .str _,.str _=>true | .byt _,.byt _=>true
 | .int _,.str _=>true | .str _,.int _=>true | .b _,.str _=>true | .str _,.b _=>true
 | _,_=>false
def UZ:R2:=λx y H Q=>Kg x y=true/\Q (.b (decide (x=y))) H
def NG:R2:=λx y H Q=>Kg x y=true/\Q (.b (!decide (x=y))) H
theorem X9:decide (V.int i=V.int j)=(i == j):=by
 rw[gR];simp
theorem Wm:decide (V.b i=V.b j)=(i == j):=by
 rw[gR];simp
theorem Yk:decide (V.str i=V.str j)=(i == j):=by
 rw[gR];simp
theorem Q3:decide (V.byt i=V.byt j)=(i.toList == j.toList):=by
 rw[gR];cases i;cases j;simp
section
variable {X:Cx}
theorem oS (I:Inv X g l H s) (q:Q (.b k) H) (e:k=j):EP X g l Q (.bool j) s:=by
 subst e;exact⟨.b k,H,I,rfl,q⟩
theorem Ht:nC X (compareOp .Eq) UZ:=by
 intro k s m H x y v u Q I f a h;obtain⟨d,q⟩:=h;cases x with
 | e =>
  cases f;cases y with
  | e=>cases a;exact PySem.EqNone.eq_none_none (oS I q (by simp))
  | b j=>cases a;exact PySem.EqNone.eq_none_bool (oS I q (by simp))
  | int j=>obtain⟨c,rfl⟩:=a;exact PySem.EqNone.eq_none_int (oS I q (by simp))
  | str j=>obtain⟨c,rfl⟩:=a;exact PySem.EqNone.eq_none_str (oS I q (by simp))
  | _=>exact absurd (show false=true from d) aY
 | b i =>
  cases f;cases y with
  | e=>cases a;exact PySem.EqNone.eq_bool_none (oS I q (by simp))
  | b j=>cases a;exact eq_bool (oS I q Wm)
  | str j=>obtain⟨c,rfl⟩:=a;exact PySem.EqMixed.eq_bool_str (oS I q (by simp))
  | _=>exact absurd (show false=true from d) aY
 | int i =>
  obtain⟨t,rfl⟩:=f;cases y with
  | e=>cases a;exact PySem.EqNone.eq_int_none (oS I q (by simp))
  | int j=>obtain⟨c,rfl⟩:=a;exact eq_int (oS I q X9)
  | str j=>obtain⟨c,rfl⟩:=a;exact PySem.EqMixed.eq_int_str (oS I q (by simp))
  | _=>exact absurd (show false=true from d) aY
 | str i =>
  obtain⟨t,rfl⟩:=f;cases y with
  | e=>cases a;exact PySem.EqNone.eq_str_none (oS I q (by simp))
  | b j=>cases a;exact PySem.EqMixed.eq_str_bool (oS I q (by simp))
  | int j=>obtain⟨c,rfl⟩:=a;exact PySem.EqMixed.eq_str_int (oS I q (by simp))
  | str j=>obtain⟨c,rfl⟩:=a;exact eq_str (oS I q Yk)
  | _=>exact absurd (show false=true from d) aY
 | byt i =>
  obtain⟨t,rfl⟩:=f;cases y with
  | byt j=>obtain⟨c,rfl⟩:=a;exact PySem.W.eq_bytes (oS I q Q3)
  | _=>exact absurd (show false=true from d) aY
 | _=>cases y<;>exact absurd (show false=true from d) aY
theorem JR:nC X (compareOp .NotEq) NG:=by
 intro k s m H x y v u Q I f a h;obtain⟨d,q⟩:=h;cases x with
 | e =>
  cases f;cases y with
  | e=>cases a;exact PySem.EqNone.ne_none_none (oS I q (by simp))
  | b j=>cases a;exact PySem.EqNone.ne_none_bool (oS I q (by simp))
  | int j=>obtain⟨c,rfl⟩:=a;exact PySem.EqNone.ne_none_int (oS I q (by simp))
  | str j=>obtain⟨c,rfl⟩:=a;exact PySem.EqNone.ne_none_str (oS I q (by simp))
  | _=>exact absurd (show false=true from d) aY
 | b i =>
  cases f;cases y with
  | e=>cases a;exact PySem.EqNone.ne_bool_none (oS I q (by simp))
  | b j=>cases a;exact ne_bool (oS I q (cC not Wm))
  | str j=>obtain⟨c,rfl⟩:=a;exact PySem.EqMixed.ne_bool_str (oS I q (by simp))
  | _=>exact absurd (show false=true from d) aY
 | int i =>
  obtain⟨t,rfl⟩:=f;cases y with
  | e=>cases a;exact PySem.EqNone.ne_int_none (oS I q (by simp))
  | int j=>obtain⟨c,rfl⟩:=a;exact ne_int (oS I q (cC not X9))
  | str j=>obtain⟨c,rfl⟩:=a;exact PySem.EqMixed.ne_int_str (oS I q (by simp))
  | _=>exact absurd (show false=true from d) aY
 | str i =>
  obtain⟨t,rfl⟩:=f;cases y with
  | e=>cases a;exact PySem.EqNone.ne_str_none (oS I q (by simp))
  | b j=>cases a;exact PySem.EqMixed.ne_str_bool (oS I q (by simp))
  | int j=>obtain⟨c,rfl⟩:=a;exact PySem.EqMixed.ne_str_int (oS I q (by simp))
  | str j=>obtain⟨c,rfl⟩:=a;exact ne_str (oS I q (cC not Yk))
  | _=>exact absurd (show false=true from d) aY
 | byt i =>
  obtain⟨t,rfl⟩:=f;cases y with
  | byt j=>obtain⟨c,rfl⟩:=a;exact PySem.W.ne_bytes (oS I q (cC not Q3))
  | _=>exact absurd (show false=true from d) aY
 | _=>cases y<;>exact absurd (show false=true from d) aY
theorem MH:nC X (compareOp .Gt) (uW λi j=>.b (decide (j<i))):=V6 λ_ _ _ _ _ _ _ q=>gt_int q
theorem BF:nC X (compareOp .GtE) (uW λi j=>.b (decide (j<=i))):=V6 λ_ _ _ _ _ _ _ q=>ge_int q
theorem JN:nC X (compareOp .In) (λx y H Q=>∃ i j,x = .str i/\y = .str j/\Q (.b (!(Builtin.Str.occurrences j i 0 j.length 1).isEmpty)) H):=by
 intro a s f H x y v u Q I c d h;obtain⟨i,j,rfl,rfl,q⟩:=h;obtain⟨t,rfl⟩:=c;obtain⟨e,rfl⟩:=d;exact in_str (oS I q rfl)
theorem DV:nC X (compareOp .Is) (λx y H Q=>y = .e/\Q (.b (decide (x = .e))) H):=by
 intro a s f H x y v u Q I c d h;obtain⟨rfl,q⟩:=h;cases d;refine is_none_gen (oS I q ?_);cases x<;>first
  | (cases c;rfl)
  | (obtain⟨t,rfl⟩:=c;rfl)
theorem RB:nC X (compareOp .NotIn) (λx y H Q=>∃ i j,x = .str i/\y = .str j/\Q (.b (!(!(Builtin.Str.occurrences j i 0 j.length 1).isEmpty))) H):=by
 intro a s f H x y v u Q I c d h;obtain⟨i,j,rfl,rfl,q⟩:=h;obtain⟨t,rfl⟩:=c;obtain⟨e,rfl⟩:=d;exact notIn_str (oS I q rfl)
theorem nC.or (h:nC X f r) (g:nC X f j):nC X f (λx y H Q=>r x y H Q\/j x y H Q):=by
 intro a s d H x y v u Q I b c q;rcases q with q | q
 .exact h a s d H x y v u Q I b c q
 .exact g a s d H x y v u Q I b c q
theorem xG (b:Expr) (h:op ≠ .In:=by decide) (g:op ≠ .NotIn:=by decide):behindInMarks op b=false:=by
 have a:(op == CmpOp.In)=false:=by cases op<;>first | rfl | exact absurd rfl h
 have c:(op == CmpOp.NotIn)=false:=by cases op<;>first | rfl | exact absurd rfl g
 cases b<;>simp[behindInMarks,a,c]
theorem Nh (o:nC X (compareOp op) r) (g:PE X a p) (j:PE X b C) (l:behindInMarks op b=false):PE X (.Compare a [op] [b] pos) (Js r p C):=by
 intro c s m H Q I h;exact wpAny_Compare1 (M6 g j I h λv u k x y d e f i q=>o c k m d x y v u Q e f i q) l
def TD (t:TE):TT:=λc H Q=>t c H λx a=>∃ k,x = .b k/\Q k a
theorem yW (o:nC X (compareOp op) r) (g:PE X a p) (j:PE X b C) (l:behindInMarks op b=false):PT X (.Compare a [op] [b] pos) (TD (Js r p C)):=by
 intro d s f H Q I h;refine wpAny_isTrue_Compare1 (mM (g d s f H _ I h) λv K ⟨x,i,q,E,A⟩=>mM (j d K f i _ q A) λu L ⟨y,m,t,F,B⟩ =>mM (o d L f m x y v u _ t E F B) λc M ⟨z,n,w,G,k,e,D⟩=>?_) l;subst e;cases G;exact fA ⟨n,w,D⟩
def Nn (K:mH) (x:V) (H:Hp) (k:Bool):Prop :=
 match x with
 | .e=>k=false
 | .b b=>k=b
 | .int i=>k=(i != 0)
 | .str y=>y.length<=sizeLine/\k=((y.length:Int) != 0)
 | .byt y=>y.size<=sizeLine/\k=((y.size:Int) != 0)
 | .ref p=>(∃ c,mK K H p c/\k = !c.isEmpty)\/(∃ c,nG K H p c/\k = !c.isEmpty)\/∃ a,H p=some (.k a)/\k = !a.isEmpty
 | _=>False
theorem BS (r:KV g j):(!j.isEmpty) = !g.isEmpty:=by
 cases r<;>rfl
theorem Ri (r:mV j g):(!g.toArray.isEmpty) = !j.isEmpty:=by
 cases r<;>simp
theorem Ay:(sizeLine:Nat)<2 ^ 63:=by rw[kQ];decide
theorem VU:IG X (λx H Q=>∃ k,Nn X.K x H k/\Q k H):=by
 intro E s N H x v Q I n h;obtain⟨k,e,q⟩:=h;have L:=Ay;have M:sizeLine=16777216:=kQ;cases x with
 | e =>
  cases n;have a:k=false:=e;subst a;exact truthy_none ⟨H,I,q⟩
 | b b =>
  cases n;have a:k=b:=e;subst a;exact fA ⟨H,I,q⟩
 | int i =>
  obtain⟨t,rfl⟩:=n;have a:k=(i != 0):=e;subst a;exact PySem.P.truthy_int ⟨H,I,q⟩
 | str y =>
  obtain⟨t,rfl⟩:=n;obtain⟨G,a⟩:y.length<=sizeLine/\k=((y.length:Int) != 0):=e;subst a;exact PySem.P.truthy_str (by omega) ⟨H,I.tok _,q⟩
 | byt y =>
  obtain⟨t,rfl⟩:=n;obtain⟨G,a⟩:y.size<=sizeLine/\k=((y.size:Int) != 0):=e;subst a;exact PySem.W.truthy_bytes (by omega) ⟨H,I.tok _,q⟩
 | ref p =>
  cases n;have a:(∃ f,mK X.K H p f/\k = !f.isEmpty)\/(∃ f,nG X.K H p f/\k = !f.isEmpty)\/∃ c,H p=some (.k c)/\k = !c.isEmpty:=e;rcases a with⟨f,u,a⟩ | ⟨f,u,a⟩ | ⟨c,u,a⟩
  .subst a;obtain⟨A,r,B,D⟩:=I.list u;have d:=r.length;exact wpAny_truthy_list B.isList (by simp only[aZ];omega) ⟨H,I.tok _,by rw[Ri r];exact q⟩
  .subst a;obtain⟨A,r,B,D⟩:=I.tuple u;have d:=r.length;exact truthy_tuple B (by simp only[aZ];omega) ⟨H,I.tok _,by rw[Ri r];exact q⟩
  .subst a;obtain⟨D,F,z,r,m⟩:c.length<=sizeLine/\(p == sysModules)=false/\∃ z,KV c z/\s.heap.DictOf (pK X.prog X.w) p z:=I.hok p _ u;have d:c.length=z.length:=eU r;exact wpAny_truthy_dict F m (by omega) ⟨H,I.tok _,by rw[BS r];exact q⟩
 | _=>exact (show False from e).elim
theorem T3 (l:PE X a p) (o:∀ whole,isTrue a X.env whole=(do let v <- whole;standAt a.pos;holding [v] (truthy v))) :
  PT X a (λg H Q=>p g H λx j=>∃ k,Nn X.K x j k/\Q k j):=by
 intro b s g H Q I h;exact isTrue_plain (mM (l b s g H _ I h) λv i ⟨x,c,d,f,e⟩=>VU b i g c x v Q d f e) (o _)
theorem xQ:nC X (binaryOp .Add) (λx y H Q=>∃ i j,x = .str i/\y = .str j/\i.length+j.length<=sizeLine/\Q (.str (i++j)) H):=by
 intro a s k H x y v u Q I c d h;obtain⟨i,j,rfl,rfl,b,q⟩:=h;obtain⟨t,rfl⟩:=c;obtain⟨e,rfl⟩:=d;exact add_str (λe f=>⟨.str (i++j),H,I.tok _,⟨_,rfl⟩,q⟩) b
theorem qC (r:mV [x] g):∃ u,g=[u]/\mX x u:=by
 cases r with
 | cons a b=>cases b;exact⟨_,rfl,a⟩
theorem Fj (r:mV [x,y] j):∃ u g,j=[u,g]/\mX x u/\mX y g:=by
 cases r with
 | cons a b =>
  cases b with
  | cons c d=>cases d;exact⟨_,_,rfl,a,c⟩
theorem GD (l:X.calm=true):nW X (.builtin "max") (λg H Q=>∃ i j,g=[.int i,.int j]/\Q (.int (if j>i then j else i)) H):=by
 intro b s n H g f Q I r h;obtain⟨i,j,rfl,q⟩:=h;obtain⟨u,m,rfl,⟨t,rfl⟩,⟨d,rfl⟩⟩:=Fj r;refine max_two_ints (I.ok.hd l) λc e k=>⟨_,H,I.kept k,?_,q⟩
 by_cases a:j>i
 .rw[aR a,aR a];exact⟨_,rfl⟩
 .rw[aM a,aM a];exact⟨_,rfl⟩
theorem KZ (l:X.calm=true):nW X (.builtin "min") (λg H Q=>∃ i j,g=[.int i,.int j]/\Q (.int (if j<i then j else i)) H):=by
 intro b s n H g f Q I r h;obtain⟨i,j,rfl,q⟩:=h;obtain⟨u,m,rfl,⟨t,rfl⟩,⟨d,rfl⟩⟩:=Fj r;refine min_two_ints (I.ok.hd l) λc e k=>⟨_,H,I.kept k,?_,q⟩
 by_cases a:j<i
 .rw[aR a,aR a];exact⟨_,rfl⟩
 .rw[aM a,aM a];exact⟨_,rfl⟩
theorem KU:nW X (.type "int") (λg H Q=>(∃ i,g=[.int i]/\Q (.int i) H)\/∃ k,g=[.b k]/\Q (.int (if k then 1 else 0)) H):=by
 intro a s e H g d Q I r h;rcases h with⟨i,rfl,q⟩ | ⟨k,rfl,q⟩
 .obtain⟨u,rfl,t,rfl⟩:=qC r;exact call_int_int ⟨.int i,H,I,⟨_,rfl⟩,q⟩
 .obtain⟨u,rfl,c⟩:=qC r;cases c;exact call_int_bool ⟨.int (if k then 1 else 0),H,I.tok _,⟨_,rfl⟩,q⟩
theorem ED:nW X (.type "str") (λg H Q=>∃ i,g=[.int i]/\i.natAbs.log2<1920/\Q (.str (toString i)) H):=by
 intro a s d H g c Q I r h;obtain⟨i,rfl,b,q⟩:=h;obtain⟨u,rfl,t,rfl⟩:=qC r;exact PySem.P.str_of_int b ⟨.str _,H,I.tok _,⟨_,rfl⟩,q⟩
end
structure ObjM (h:Heap) (x dx C:Addr) (mA:Str->Option Value):Prop where
 obj:h.get? x=some (PySem.W.instObj C dx)
 ns:h.Ns1 dx mA
 ne:dx≠x
theorem Zy {h:Ag}{g:Ad}{j:Af->Ab Ac}(n:h.Ns1 g j):∃ l,h.get? g=some l/\∀ name,PySem.W.lookIn name l=some (j name):=by
 obtain⟨o,c,s,k,hd,f,_,i⟩:=n;refine⟨o,k,λname=>?_⟩;have e:=i name;unfold nsFind findBy at e;rw[<- Array.find?_toList] at e;unfold PySem.W.lookIn;rw[hd];dsimp only;split
 .rename_i y q
  rw[q] at e;exact cC some e
 .rename_i q
  rw[q] at e;have a:c.toList.any (·.refKey)=false:=by
   rw[eS];intro y m;obtain⟨z,t,b⟩:=f y (kR.mp m);simp[DictEntry.refKey,b]
  have d:¬ c.toList.any (·.refKey)=true:=by rw[a];exact aY
  rw[aM d];exact cC some e
theorem ObjM.look (I:ObjM h x j C l):∃ g,PySem.W.InstAt h x (PySem.W.instObj C j) C (some g)/\∀ name,PySem.W.lookIn name g=some (l name) :=
 let ⟨g,b,a⟩:=Zy I.ns
 ⟨g,⟨I.obj,rfl,rfl,b⟩,a⟩
theorem uS.some_of (r:uS (some v) o):∃ u,o=some u/\mX v u:=by
 cases o with
 | none=>exact (show False from r).elim
 | some u=>exact⟨u,rfl,r⟩
section
variable {P:Ah}
theorem VY (l:oC P w H h) (e:H a=some (.ins C j fs)):∃ g,ObjM h a j C g/\(∀ f,uS (fs.lookup f) (g f))/\PySem.Within g (fs.map (·.1))/\fs.length<=1000/\H j=some (.o a):=by
 obtain⟨d,z,ne,b,g,n,r,q⟩:=(show nT P w H h a (.ins C j fs) from l a _ e);exact⟨g,⟨b,n,ne⟩,r,q,z,d⟩
end
structure Cls (K:mH) (C:Addr):Prop where
 pg:PySem.W.plainGet K C Str.empty=true
 hd:PySem.W.hasDictIn K C=true
 po:PySem.W.plainOver K C=true
 sa:PySem.W.findIn K (.ref C) "__setattr__" = some (some (.builtin "object.__setattr__"))
theorem Cls.get {K:mH}(c:Cls K C) (f:Af):PySem.W.plainGet K C f=true:=c.pg
def Rb (X:Cx) (op:Operator) (rd:V->V->Hp->VK->Prop):Prop :=
 ∀ (a:Aa (Ad×Obj)) (s:Ae) (b:St) (H:Hp) (x y:V) (u v:Ac) (Q:VK),Inv X a b H s->mX x u->mX y v->rd x y H Q->wpAny (model X.prog X.w) X.A (inplaceOp op u v) (EP X a b Q) X.xe s
section
variable {X:Cx}
def BP:V->V->Hp->VK->Prop:=λx y H Q=>∃ i j,x = .int i/\y = .int j/\Q (.int (i+j)) H
theorem FE:Rb X .Add BP:=by
 rintro a s e H x y u v Q I c d ⟨i,j,rfl,rfl,q⟩;obtain⟨t,rfl⟩:=(show ∃ t,u=Value.int i t from c);obtain⟨b,rfl⟩:=(show ∃ b,v=Value.int j b from d);exact PyProof.Rows.iadd_int ⟨.int (i+j),H,I.tok _,⟨_,rfl⟩,q⟩
end
section
variable {X:Cx}
inductive TyOf (K:mH) (H:Hp):V->Value->Prop where
 | e:TyOf K H .e (.type "NoneType")
 | b (x:Bool):TyOf K H (.b x) (.type "bool")
 | int (i:Int):TyOf K H (.int i) (.type "int")
 | str (x:Str):TyOf K H (.str x) (.type "str")
 | flt (x:UInt64):TyOf K H (.flt x) (.type "float")
 | l {a:Addr} {xs:List V} (e:H a=some (.l xs)):TyOf K H (.ref a) (.type "list")
 | frz {a:Addr} {o:Obj} {xs:List V} (e:H a=some (.frz o (.l xs))):TyOf K H (.ref a) (.type "list")
 | t {a:Addr} {xs:List V} (e:H a=some (.t xs)):TyOf K H (.ref a) (.type "tuple")
 | k {a:Addr} {kvs:List (dT×V)} (e:H a=some (.k kvs)):TyOf K H (.ref a) (.type "dict")
 | T {a:Addr} {kvs:List (List dT×V)} (e:H a=some (.T kvs)):TyOf K H (.ref a) (.type "dict")
 | ins {a C dx:Addr} {fs:List (Str×V)} (e:H a=some (.ins C dx fs)) (cl:Cls K C) (ha:PySem.W.findIn K (.ref C) "__class__" = some (some (.builtin "object.__class__")))
   (hn:PySem.W.specialIn K (.builtin "object.__class__") "__get__" = some (some (.builtin "getset_descriptor.__get__"))) (htk:PySem.W.takesIn K (.builtin "object.__class__")=some true)
   (hm:PySem.W.mroIn K C (.type "object")=some true):TyOf K H (.ref a) (.ref C)
theorem CL (I:Inv X j U H s) (g:mX x u) (ty:TyOf X.K H x t) (e:PySem.W.kitOne X.K t c=some b) (h:∀ r,Q (.bool b) { s with toks:=r }) :
  wpAny (model X.prog X.w) A (call (.builtin "isinstance") [u,c]) Q E s:=by
 cases ty with
 | e=>cases (show u=Value.none from g);exact eO PySem.W.kitx_none I.kIn True.intro e (λz=>nomatch z) h
 | b y=>cases (show u=Value.bool y from g);exact eO PySem.W.kitx_bool I.kIn True.intro e (λz=>nomatch z) h
 | int i=>obtain⟨t,q⟩:=(show ∃ t,u=Value.int i t from g);cases q;exact eO PySem.W.kitx_int I.kIn True.intro e (λz=>nomatch z) h
 | str y=>obtain⟨t,q⟩:=(show ∃ t,u=Value.str y t from g);cases q;exact eO PySem.W.kitx_str I.kIn True.intro e (λz=>nomatch z) h
 | flt y=>obtain⟨t,q⟩:=(show ∃ t,u=Value.float y t from g);cases q;exact eO PySem.W.kitx_float I.kIn True.intro e (λz=>nomatch z) h
 | @l a v d =>
  cases (show u=Value.ref a from g);obtain⟨_,_,n,_,f⟩:=(show nT X.prog X.w H s.heap a (.l v) from I.hok a _ d);exact eO PySem.W.kitx_list I.kIn ⟨_,f,rfl⟩ e (λz=>nomatch z) h
 | @frz a R v d =>
  cases (show u=Value.ref a from g);obtain⟨_,_,_,n,_,f⟩:=(show nT X.prog X.w H s.heap a (.frz R (.l v)) from I.hok a _ d);exact eO PySem.W.kitx_list I.kIn ⟨_,f,rfl⟩ e (λz=>nomatch z) h
 | @t a v d =>
  cases (show u=Value.ref a from g);obtain⟨_,_,_,p,_⟩:=(show nT X.prog X.w H s.heap a (.t v) from I.hok a _ d);obtain⟨o,f,B,_⟩:=p;exact eO PySem.W.kitx_tuple I.kIn ⟨o,f,B⟩ e (λz=>nomatch z) h
 | @k a m d =>
  cases (show u=Value.ref a from g);obtain⟨_,_,Z,_,p⟩:=(show nT X.prog X.w H s.heap a (.k m) from I.hok a _ d);obtain⟨o,L,G,f,B,_⟩:=p;exact eO PySem.W.kitx_dict I.kIn ⟨o,f,B.1⟩ e (λz=>nomatch z) h
 | @T a m d =>
  cases (show u=Value.ref a from g);obtain⟨_,_,v,_,o,L,G,f,B,_⟩:=(show nT X.prog X.w H s.heap a (.T m) from I.hok a _ d);exact eO PySem.W.kitx_dict I.kIn ⟨o,f,B.1⟩ e (λz=>nomatch z) h
 | @ins a C S fs d F M P D N =>
  cases (show u=Value.ref a from g);obtain⟨V,O,_⟩:=VY I.hok d;obtain⟨Y,J,_⟩:=O.look;exact eO (PySem.W.kitx_own (F.get _) F.hd M P D N) I.kIn J e (λz=>nomatch z) h
end
structure Room (k:Nat) (A:Around):Prop where
 hd:A.handled=none
 dp:A.depth+3*k+5<recursionLimit
 un:A.units+16*k+200<cLine
theorem Room.mono (r:Room k A) (h:j<=k):Room j A:=⟨r.hd,by have:=r.dp;omega,by have:=r.un;omega⟩
theorem Room.deeper (r:Room (k+1) A) (g:Env):Room k (A.deeper g) :=
 ⟨r.hd,by have:=r.dp;show A.depth+1+3*k+5<_;omega,by have:=r.un;show A.units+3+16*k+200<_;omega⟩
theorem Room.depth (r:Room k A):A.depth<recursionLimit:=by have:=r.dp;omega
theorem Room.units (r:Room k A):A.units+64<cLine:=by have:=r.un;omega
def Ls:TA:=λ_ H Q=>Q [] H
def Fw (g:TE) (j:TA):TA:=λa H Q=>g a H λx b=>j a b λd c=>Q (x::d) c
section
variable {X:Cx}
theorem oG:PA X [] Ls:=λ_ _ _ _ H Q I h=>jT ⟨[],H,I,.nil,h⟩
theorem xY (j:PE X e p) (l:PA X g t) (o:starEach (e::g) X.env=(false,eval e X.env)::starEach g X.env:=by rfl):PA X (e::g) (Fw p t):=by
 intro pos a s c H Q I h;rw[o];show wpAny _ _ (spliced ((false,eval e X.env)::backTo pos (starEach g X.env))) _ _ s;refine iE (mM (j a s c H _ I h) λu w b=>?_);obtain⟨x,d,i,q,m⟩:=b;exact mM (l pos a w c d _ i m) λA z ⟨y,f,k,v,n⟩=>⟨x::y,f,k,.cons q v,n⟩
def IH (t:TA):TE:=λc H Q=>t c H λb a=>b.length<=sizeLine/\∀ p,a p=none->Q (.ref p) (upd a p (.t b))
def Sa (t:TA):TE:=λc H Q=>t c H λb a=>b.length<=sizeLine/\∀ p,a p=none->Q (.ref p) (upd a p (.l b))
theorem Q1 {j}(h:PA X g t):PE X (.Tuple g j pos) (IH t):=by
 intro a s v H Q I k;refine wpAny_Tuple_spliced (mM (h pos a s v H _ I k) λm c ⟨n,d,f,r,z,q⟩=>⟨by rw[<- r.length];exact z,?_⟩);have i:d c.heap.objs.size=none:=f.hok.fresh (aW _);refine⟨.ref c.heap.objs.size,upd d c.heap.objs.size (.t n),f.laid (t':=c.toks) (λb u e=>aG _ e) (aW _) ?_,rfl,q _ i⟩;exact⟨z,m,r,⟨_,bB _ rfl,rfl,_,rfl⟩,_,bB _ rfl,rfl⟩
theorem vK (h:PA X g t):PE X (.List g pos) (Sa t):=by
 intro a s v H Q I k;refine wpAny_List_spliced (mM (h pos a s v H _ I k) λm c ⟨n,d,f,r,z,q⟩=>⟨by rw[<- r.length];exact z,?_⟩);have i:d c.heap.objs.size=none:=f.hok.fresh (aW _);refine⟨.ref c.heap.objs.size,upd d c.heap.objs.size (.l n),f.laid (t':=c.toks) (λb u e=>aG _ e) (aW _) ?_,rfl,q _ i⟩;exact⟨z,m,0,r,bB _ rfl⟩
end
abbrev Sp:=Aa V->Hp->VK->XK->Prop
abbrev B0:=Aa Env->Hp->Ae->XK->Ac->Ae->Prop
structure Env0 (P:Program) (w:World) (K:mH) (mg:Str->Option Value) (base:Heap) (A:Around) (outer:List Env) (s:Shared) (H:Hp):Prop where
 frames:A.frames=some outer
 mod:Mod K mg base
 bs:∀ b o,base.get? b=some o->s.heap.get? b=some o/\H b=none
 bsz:base.objs.size<=s.heap.objs.size
 funs:s.heap.FunFrames base outer
 frf:∀ b∈vM outer,H b=none
 hok:oC P w H s.heap
 bare:AllBare s.gens
def CE (g:Aa Env) (P:Ah) (w:World) (H:Hp) (s:Ae) (Q:VK) (u:Ac) (j:Ae):Prop :=
 ∃ v a,j.os=s.os/\AllBare j.gens/\Un (vM g) [] H a s.heap j.heap/\oC P w a j.heap/\mX v u/\Q v a
def CR (l:B0) (g:Aa Env) (P:Ah) (w:World) (H:Hp) (s:Ae) (Q:VK) (E:XK) (r:Result) (j:Ae):Prop :=
 match r with
 | .ok (.ret u)=>CE g P w H s Q u j
 | .ok _=>False
 | .error e=>l g H s E e j
structure FnOk (P:Program) (w:World) (K:mH) (mg:Str->Option Value) (base:Heap) (CX:B0) (k:Nat) (f:Addr) (fd:FuncData) (ps:List Str) (sp:Sp):Prop where
 len:∀ vs H Q E,sp vs H Q E->vs.length=ps.length
 run:∀ (A:Around) (outer:List Env) (s:Shared) (H:Hp) (args:Args) (us:List Value) (vs:List V) (Q:VK) (E:XK),Room k A->Env0 P w K mg base A outer s H->BindsTo s fd args (ps.zip us)->mV vs us->sp vs H Q E ->
  codeAny (model P w) A (.call (.ref f) args) (CR CX outer P w H s Q E) s
theorem FnOk.imp {P:Ah}{K:mH}(F:FnOk P w K o base l k f fd p r)
  (h:∀ g H Q E,j g H Q E->r g H Q E):FnOk P w K o base l k f fd p j :=
 ⟨λg H Q E q=>F.len g H Q E (h _ _ _ _ q),λA a s H args m g Q E d c b i e=>F.run A a s H args m g Q E d c b i (h _ _ _ _ e)⟩
section
variable {X:Cx}
theorem Inv.env0 (I:Inv X g j H s):Env0 X.prog X.w X.K X.mg X.base X.A X.stack s H :=
 ⟨I.ok.frames,I.ok.mod,I.bs,bN I.ok.bsz I.sz,I.stack,I.stkFree,I.hok,I.bare⟩
theorem Inv.after (I:Inv X j o H s) (h:CE X.stack X.prog X.w H s Q u l):EP X j o Q u l:=by
 obtain⟨v,e,os,bare,un,a,r,q⟩:=h;obtain⟨f,g,d,t,c⟩:=l;obtain rfl:c=s.os:=os;exact⟨v,e,I.call (h':=f) (g':=g) (d':=d) (t':=t) (ch:=[]) un a bare (λb z=>absurd z (by simp)),r,q⟩
end
def Ur (j:Sp) (g:Aa V) (E:XK) (t:TA):TE:=λc H Q=>t c H λb a=>j (b++g) a Q E
def zW (K:mH) (fd:FuncData) (j:Aa Af) (g:Aa Ac):Prop :=
 ∀ (s:Ae) (a:Aa Ac),K.In s.heap->(a++g).length=j.length->BindsTo s fd ⟨a,[]⟩ (j.zip (a++g))
theorem zW.all {K:mH}(h:∀ g:Aa Ac,g.length=j.length->bindArgs fd ⟨g,[]⟩=pure (j.zip g)):zW K fd j []:=λs g _ a=>by
 rw[cZ] at a |-;exact .of_eq (h g a)
def Jo (g:B0) (X:Cx) (E:XK):Prop:=∀ (a:Aa (Ad×Obj)) (c:St) (H:Hp) (s:Ae) (e:Ac) (b:Ae),Inv X a c H s->g X.stack H s E e b->X.xe e b
section
variable {X:Cx}
theorem Xg (F:FnOk X.prog X.w X.K X.mg X.base J k f fd p sp) (U:Room k X.A) (T:zW X.K fd p l) (hd:mV j l) (hx:Jo J X E)
  (I:Inv X g C H s) (r:mV o us) (h:sp (o++j) H Q E):wpAny (model X.prog X.w) X.A (call (.ref f) us) (EP X g C Q) X.xe s:=by
 have b:mV (o++j) (us++l):=r.append hd;have d:(us++l).length=p.length:=by rw[<- b.length];exact F.len _ _ _ _ h
 refine wpAny_call (codeAny_mono (F.run X.A X.stack s H ⟨us,[]⟩ (us++l) (o++j) Q E U I.env0 (T s us I.kIn d) b h) λr i a=>?_);cases r with
 | error e=>exact hx g C H s e i I a
 | ok c =>
  cases c with
  | ret u=>exact I.after a
  | next=>exact False.elim a
  | brk=>exact False.elim a
  | cont=>exact False.elim a
structure StB (X:Cx) (e:Expr) (es:List Expr) (pos:Pos):Prop where
 a:starEach (e::es) X.env=(false,eval e X.env)::starEach es X.env:=by rfl
 b:(backTo pos (starEach es X.env)).any (·.1)=false:=by rfl
theorem xF (F:FnOk X.prog X.w X.K X.mg X.base C k f fd ps sp) (hr:Room k X.A) (hg:Gl X x) (hm:X.mg x=some (.ref f)) (hk:PySem.W.keepIn X.K (.ref f)=true) (U:zW X.K fd ps J) (hd:mV j J) (hx:Jo C X E)
  (T:PA X (e::o) t) (l:(x == ("__debug__" : Af))=false:=by decide) (g:StB X e o pos:=by exact {}) :
  PE X (.Call (.Name x p) (e::o) [] pos) (Ur sp j E t):=by
 intro c s i H Q I h;refine eX (T1 I hg hm ?_ l);refine PySem.W.callWith_K (h₀:=X.base) I.ok.mod.kin hk (mM (T pos c s i H _ I h) λu n ⟨v,m,d,r,q⟩=>⟨d.kIn,?_⟩) g.a g.b;exact Xg F hr U hd hx d r q
theorem Uw (F:FnOk X.prog X.w X.K X.mg X.base l k f fd ps sp) (U:Room k X.A) (C:Gl X x) (T:X.mg x=some (.ref f)) (J:PySem.W.keepIn X.K (.ref f)=true) (r:zW X.K fd ps o) (hd:mV g o) (hx:Jo l X E)
  (j:(x == ("__debug__" : Af))=false:=by decide):PE X (.Call (.Name x p) [] [] pos) (Ur sp g E Ls):=by
 intro a s b H Q I h;refine eX (T1 I C T ?_ j);exact PySem.W.callWith_K0 I.kIn J (Xg (us:=[]) F U r hd hx I .nil h)
end
structure FnScope (N P:List Str) (sc:Scope):Prop where
 kind:sc.kind = .function
 co:sc.isCoroutine=false
 gen:sc.isGenerator=false
 nd:N.Nodup
 pre:N.take P.length=P
 par:∀ x∈P,sc.names.lookup x=some .local\/sc.names.lookup x=some .cell
 nofree:∀ y∈sc.names,y.2 ≠ .free
theorem Vu {kindOf:Af->Ab NameKind}:∀ {binds:Aa (Af×Ac)}{m:Af->Ab Ac},(∀ v,(x,v)∉binds)->bindL kindOf binds m x=m x
 | [],_,_=>rfl
 | (n,v)::r,m,h=>by
  unfold bindL;rw[Vu λw hw=>h w (aP _ hw)];split
  .have:x≠n:=by rintro rfl;exact h v aF
   simp[this]
  .rfl
theorem Te {kindOf:Af->Ab NameKind}:∀ {binds:Aa (Af×Ac)}{m:Af->Ab Ac},(∀ v,(x,v)∉binds)->bindC kindOf binds m x=m x
 | [],_,_=>rfl
 | (n,v)::r,m,h=>by
  unfold bindC;rw[Te λw hw=>h w (aP _ hw)];split
  .rfl
  .have:x≠n:=by rintro rfl;exact h v aF
   simp[this]
theorem Yt {kindOf:Af->Ab NameKind}:∀ {P:Aa Af}{g:Aa Ac}{i:Nat}{m:Af->Ab Ac},P.Nodup->P[i]?=some x->g[i]?=some v->kindOf x=some .local ->
  bindL kindOf (P.zip g) m x=some v
 | [],_,_,_,_,h,_,_=>by simp at h
 | _::_,[],_,_,_,_,h,_=>by simp at h
 | p::P,w::g,0,m,d,a,b,c=>by
  simp at a b;subst a;subst b;show bindL kindOf ((p,w)::P.zip g) m p=_;unfold bindL;rw[Vu λv e=>(bP.mp d).1 (fR e).1,aR c];simp
 | p::P,w::g,i+1,m,d,a,b,c=>by
  show bindL kindOf ((p,w)::P.zip g) m x=_;unfold bindL;exact Yt (i:=i) (bP.mp d).2 (by simpa using a) (by simpa using b) c
theorem Vj {kindOf:Af->Ab NameKind}:∀ {P:Aa Af}{g:Aa Ac}{i:Nat}{m:Af->Ab Ac},P.Nodup->P[i]?=some x->g[i]?=some v->kindOf x≠some .local ->
  bindC kindOf (P.zip g) m x=some v
 | [],_,_,_,_,h,_,_=>by simp at h
 | _::_,[],_,_,_,_,h,_=>by simp at h
 | p::P,w::g,0,m,d,a,b,c=>by
  simp at a b;subst a;subst b;show bindC kindOf ((p,w)::P.zip g) m p=_;unfold bindC;rw[Te λv e=>(bP.mp d).1 (fR e).1,aM c];simp
 | p::P,w::g,i+1,m,d,a,b,c=>by
  show bindC kindOf ((p,w)::P.zip g) m x=_;unfold bindC;exact Vj (i:=i) (bP.mp d).2 (by simpa using a) (by simpa using b) c
def start (N:Aa Af) (g:Aa V):St:=g.map some++List.replicate (N.length-g.length) none
noncomputable def yX (o:B0) (P:Ah) (w:World) (K:mH) (p:Af->Ab Ac) (base:Ag) (N:Aa Af) (l:Af) (g:Scope) (f:Ad) (cd:Ac) (A:Around) (j:Aa Env) (s:Ae) (H:Hp) (E:XK):Cx where
 prog:=P
 w:=w
 K:=K
 mg:=p
 base:=base
 A:=A.deeper (envOfC l g s.heap.objs.size f cd)
 N:=N
 s₀:=s
 H₀:=H
 env:=envOfC l g s.heap.objs.size f cd
 outer:=j
 stack:=envOfC l g s.heap.objs.size f cd::j
 ex:=[]
 calm:=true
 fn:=λ_=>true
 pn:=[]
 xe:=λe c=>wpAny (model P w) (A.deeper (envOfC l g s.heap.objs.size f cd)) (leaving (envOfC l g s.heap.objs.size f cd) e) (λ_ a=>o j H s E e a) (λb a=>o j H s E b a) c
theorem To {g:Scope}{n:Nat}{x:Af}(h:g.names.lookup x=some .cell):∃ c,(cellsFrom n g.names []).lookup x=some c:=by
 have q:=PySem.W.cellsFrom_some g.names n [] (.inl h);exact dH.mp q
theorem BB {P:Ah}{K:mH}{cd:Ac}
  (S:FnScope N C g) (hd:A.handled=none) (o:Env0 P w K J base A j s H) (hl:I.length=C.length) (r:mV I T)
  (x:InCallC s s.heap.objs.size (bindL (envOfC l g s.heap.objs.size f cd).kindOf (C.zip T) λ_=>none) (cellsFrom (s.heap.objs.size+1) g.names []) (bindC (envOfC l g s.heap.objs.size f cd).kindOf (C.zip T) λ_=>none) s1) :
  Inv (yX U P w K J base N l g f cd A j s H E) [] (start N I) H s1:=by
 have Q:C.length<=N.length:=by have:=cC List.length S.pre;rw[bS] at this;omega
 obtain⟨F,W,rfl,L⟩:=x.done;have t:∀ b:Ad,b∉(yX U P w K J base N l g f cd A j s H E).ex:=λb z=>absurd (show b∈([]:Aa Ad) from z) (by simp)
 refine⟨⟨o.mod,S.kind,rfl,rfl,aW _,λy z c F d=>?_,λy m=>?_,λy c _ h=>?_,λ_=>hd,Around.frames_deeper o.frames,.inr ⟨rfl,rfl⟩,λb z=>absurd z (t b),o.bs,o.bsz,λb _ _=>t b,λb z=>absurd z (t b),o.funs,o.frf⟩,
  rfl,o.bare,Un.kept L,⟨_,x.toInCall.ns,λi y v F d V=>?_⟩,λy c h=>⟨_,x.cell y c h⟩,o.hok.fresh (aW _),λy c h=>?_,λp B=>absurd (show p∈([]:Aa (Ad×Obj)) from B) (by simp),o.hok.kept L,?_⟩
 .exact name_of_addr x.apart (eC F) (eC d)
 .have m:g.names.lookup y=some .cell\/g.names.lookup y=some .free:=m;rcases m with m | m
  .exact To m
  .exact absurd rfl (S.nofree _ (eC m))
 .exact eP (x.above y c (eC h))
 .have G:i<I.length:=by
   unfold start at d;by_cases G:i<I.length
   .exact G
   .rw[eK (by simpa using G)] at d;rw[List.getElem?_replicate] at d;split at d<;>cases d
  have O:I[i]?=some v:=by
   unfold start at d;rw[gO (by simpa using G),bC] at d;cases e:I[i]? with
   | none=>rw[e] at d;cases d
   | some a=>rw[e] at d;cases d;rfl
  obtain⟨u,M,R⟩:=r.get O;have B:C[i]?=some y:=by
   rw[<- S.pre,List.getElem?_take_of_lt (by omega)];exact F
  have D:C.Nodup:=by rw[<- S.pre];exact S.nd.sublist (List.take_sublist _ _)
  refine⟨u,R,?_⟩;rcases S.par y (aL B) with k | k
  .exact .inl ⟨k,Yt D B M k⟩
  .obtain⟨c,e⟩:=To (n:=s.heap.objs.size+1) k;refine .inr ⟨.inl k,c,e,?_⟩;have q:=x.cell y c e;rw[Vj D B M (by show g.names.lookup y≠_;rw[k];decide)] at q;exact q
 .exact o.hok.fresh (eP (x.above y c (eC h)))
 .unfold start;show _=N.length;rw[bF,aA,dL];omega
theorem PN {P:Ah}{K:mH}{kV:Ac}
(lk:K.lookup f=some ⟨oc,od,.func (PySem.W.fnOf name l C body g dV kV ab pm an p ct),ae⟩) (ac:PySem.W.codeIn K p l=true) (S:FnScope N ps g)
  (len:∀ T H Q E,sp T H Q E->T.length=ps.length)
  (aa:∀ (A:Around) (j:Aa Env) (s:Ae) (H:Hp) (T:Aa V) (Q:VK) (E:XK),Room k (A.deeper (envOfC l g s.heap.objs.size f p))->sp T H Q E ->∃ t,pX (yX CX P w K mg base N l g f p A j s H E) body t/\t { nx:=λ_ U=>Q .e U,rt:=Q } (start N T) H) :
  FnOk P w K mg base CX (k+1) f (PySem.W.fnOf name l C body g dV kV ab pm an p ct) ps sp:=by
 refine⟨len,λA j s H args us T Q E m h O r i=>?_⟩;have X:=len _ _ _ _ i;have F:K.In s.heap:=h.mod.kin.keeps λb o e=>(h.bs b o e).1
 have z:s.heap.NoLimit:=h.mod.nolimit.keeps λb o e=>(h.bs b o e).1
 have c:∀ y∈ps.zip us,g.names.lookup y.1=some .local\/(g.names.lookup y.1=some .cell/\((cellsFrom (s.heap.objs.size+1) g.names []).lookup y.1).isSome=true):=λ⟨n,v⟩ hy=>by
  rcases S.par n (fR hy).1 with q | q
  .exact .inl q
  .exact .inr ⟨q,PySem.W.cellsFrom_some _ _ _ (.inl q)⟩
 refine codeAny_call_function m.depth (F _ _ lk) rfl S.co S.gen rfl (PySem.W.codeRec_of F ac) (O _ _ _ _ ?_);refine wpAny_newFunctionEnv_cells S.kind c λL R G x=>?_
 subst R;refine⟨z.keeps x.toInCall.keep,codeAny_func ?_⟩;obtain⟨t,Z,Y⟩:=aa A j s H T Q E (m.deeper _) i;have I:Inv (yX CX P w K mg base N l g f p A j s H E) [] (start N T) H G:=BB S m.hd h X r x;refine cV (Z [] G (start N T) H _ I Y) (λM D d=>?_) λe D d=>d
 have fin:∀ {a:St} {U:Hp} {v:V} {u:Ac},Inv (yX CX P w K mg base N l g f p A j s H E) [] a U D->mX v u->Q v U->CE j P w H s Q u D :=
  λ{a U v u} J B q=>⟨v,U,J.os,J.bare,J.base,J.hok,B,q⟩
 cases M with
 | ret u =>
  obtain⟨v,a,U,J,B,q⟩:=d;exact fin J B q
 | next =>
  obtain⟨a,U,J,q⟩:=d;exact fin (v:=V.e) (u:=Value.none) J rfl q
 | brk =>
  obtain⟨_,_,_,q⟩:=d;exact False.elim q
 | cont =>
  obtain⟨_,_,_,q⟩:=d;exact False.elim q
section
variable {X:Cx}{id:String}
def V9 (r:Aa V->Hp->VK->Prop) (t:TA):TE:=λc H Q=>t c H λb a=>r b a Q
theorem zE (C:nW X (.builtin id) r) (J:Gl X x) (T:X.mg x=none) (hv:bootBuiltins x=some (.builtin id)) (o:PA X (e::l) t) (U:x ≠ "__name__" := by decide) (j:(x == ("__debug__" : Af))=false:=by decide)
  (g:StB X e l pos:=by exact {}):PE X (.Call (.Name x p) (e::l) [] pos) (V9 r t):=by
 intro c s d H Q I h;refine eX (vZ I J T hv ?_ U j);exact PyProof.Rows.callWith_builtin1 (mM (o pos c s d H _ I h) λq n ⟨u,f,i,m,k⟩=>C c n d f u q Q i m k) g.a g.b
theorem Sf (C:nW X (.type T) r) (J:Gl X x) (U:X.mg x=none) (hv:bootBuiltins x=some (.type T)) (o:PA X (e::l) t) (hn:x ≠ "__name__" := by decide) (j:(x == ("__debug__" : Af))=false:=by decide)
  (g:StB X e l pos:=by exact {}):PE X (.Call (.Name x p) (e::l) [] pos) (V9 r t):=by
 intro c s d H Q I h;refine eX (vZ I J U hv ?_ hn j);exact cR (mM (o pos c s d H _ I h) λq n ⟨u,f,i,m,k⟩=>C c n d f u q Q i m k) g.a g.b
end
end L2
namespace HT
open PySem PyProof.Rows
section
theorem cat_tup (J:IsTup s.heap t j.toArray) (I:IsTup s.heap b g.toArray) (o:j≠[])
  (r:g=[]->Q (.ref t) s) (C:g≠[]->Q (.ref s.heap.objs.size) { s with heap:=s.heap.push { cls:=.type "tuple",data:=.seq (j++g).toArray } })
  (l:j.length+g.length<=sizeLine):wpAny (model p w) A (binaryOp .Add (.ref t) (.ref b)) Q E s:=by
 obtain⟨⟨cls,m,data,sl⟩,i,q,n,hd⟩:=id J;obtain⟨⟨k,c,data2,h⟩,a,d,u,f⟩:=id I;simp only at q hd d f;subst q hd d f;have e:j.toArray++g.toArray=(j++g).toArray:=by simp
 by_cases hw:g=[]
 .exact concat_meets ⟨_,i,rfl⟩ ⟨_,a,rfl⟩ noFill_tuple_add seq_tuple_add jU jN (jA _ _)
   (tuple_addW1 t b j.toArray g.toArray n u m c sl h (by simpa using o) (by simp[hw])) ⟨i,a,r hw⟩
 .refine concat_meets ⟨_,i,rfl⟩ ⟨_,a,rfl⟩ noFill_tuple_add seq_tuple_add jU jN (jA _ _)
   (tuple_addW2 t b j.toArray g.toArray n u m c sl h (by simpa using o) (by simpa using hw) (by rw[aZ,aZ];exact l)) ⟨i,a,?_⟩
  rw[e];exact C hw
noncomputable def sIx (n d:Nat):Ab Int->Nat
 | none=>d
 | some v=>if v<0 then (v+(n:Int)).toNat else min v.toNat n
theorem sIx_none (n d:Nat):sIx n d none=d:=rfl
theorem sIx_nat (n d k:Nat):sIx n d (some (k:Int))=min k n:=by
 show (if (k:Int)<0 then ((k:Int)+(n:Int)).toNat else min (k:Int).toNat n)=min k n;rw[aM (by omega),cH]
theorem sIx_le (n d:Nat) (hd:d<=n) (o:Ab Int):sIx n d o<=n:=by
 cases o with
 | none=>exact hd
 | some v =>
  show (if v<0 then (v+(n:Int)).toNat else min v.toNat n)<=n;by_cases a:v<0
  .rw[aR a];omega
  .rw[aM a];exact Nat.min_le_right _ _
theorem Vm (v:Int) (n d:Nat):(if v<0 then max (v+(n:Int)) 0 else min v (n:Int))=((sIx n d (some v):Nat):Int):=by
 show (if v<0 then max (v+(n:Int)) 0 else min v (n:Int))=(((if v<0 then (v+(n:Int)).toNat else min v.toNat n):Nat):Int);by_cases a:v<0
 .simp only[aR a];omega
 .simp only[aM a];omega
theorem FH (lo g:Ab Int) (n:Nat):Builtin.Slice.sliceAdjust lo g 1 (n:Int)=(((sIx n 0 lo:Nat):Int),((sIx n n g:Nat):Int)):=by
 have a:¬ ((1:Int)<0):=by omega
 unfold Builtin.Slice.sliceAdjust;simp only[a,fY];refine Prod.ext ?_ ?_
 .cases lo with
  | none=>rfl
  | some v=>exact Vm v n 0
 .cases g with
  | none=>rfl
  | some v=>exact Vm v n n
theorem BY (i j:Nat):Builtin.Slice.slicePlaces (i:Int) (j:Int) 1=j-i:=by
 unfold Builtin.Slice.slicePlaces;have a:(1:Int)>0:=by omega
 simp only[a,gA,Int.ediv_one];split<;>omega
theorem Xy (p:IsPart v o) (h:Q o s):wpAny (model g w) A (Builtin.Slice.slicePartIndex v) Q E s:=by
 cases p with
 | none=>exact slicePart_none h
 | int i t=>exact slicePart_int h
theorem HP {sl:Ad}{j l:Ac}{lo g:Ab Int}{n:Nat}{Q:Int×Int×Nat->Ae->Prop}(p:s.heap.IsSliceOf sl j l .none) (r:IsPart j lo) (C:IsPart l g)
  (h:Q (((sIx n 0 lo:Nat):Int),1,sIx n n g-sIx n 0 lo) s):wpAny (model o w) A (Builtin.Slice.sliceApplied (.ref sl) (pure (n:Int))) Q E s:=by
 obtain⟨os,b,c,a⟩:=id p;unfold Builtin.Slice.sliceApplied Builtin.Slice.sliceFields;refine aB (aB (dX b a (x:=j) rfl (aB (dX b a (x:=l) rfl (aB (dX b a (x:=.none) rfl (aE ?_)))))));refine aB (slicePart_none ?_);show wpAny _ _ (if ((1:Int) == 0)=true then _ else _) _ _ s;rw[aM (by decide)];refine aB (Xy r (aB (Xy C (aB (aE ?_)))));show wpAny _ _ (match Builtin.Slice.sliceAdjust lo g 1 (n:Int) with | (lo,g)=>pure (lo,(1:Int),Builtin.Slice.slicePlaces lo g 1)) _ _ s;rw[FH lo g n];show wpAny _ _ (pure (((sIx n 0 lo:Nat):Int),(1:Int),Builtin.Slice.slicePlaces ((sIx n 0 lo:Nat):Int) ((sIx n n g:Nat):Int) 1)) _ _ s;rw[BY];exact aE h
theorem TN (g:Array Ac) (i k:Nat):((List.range k).filterMap λ(m:Nat)=>g[((i:Int)+(m:Int)*1).toNat]?).toArray=((g.toList.drop i).take k).toArray:=by
 have e:(λ(m:Nat)=>g[((i:Int)+(m:Int)*1).toNat]?)=λm=>g[i+m]?:=by
  funext m
  have:((i:Int)+(m:Int)*1).toNat=i+m:=by omega
  rw[this]
 rw[e];have:=pick_run g i k;rw[lH] at this;have a:((λx=>g[x]?)∘λx=>i+x)=λm=>g[i+m]?:=rfl
 rw[a] at this;rw[this]
theorem getItem_tuple_cut {sl:Ad}{lo:Ab Int}(j:IsTup s.heap t items) (l:s.heap.IsSliceOf sl I J .none) (r:IsPart I lo) (C:IsPart J g)
  (hw:¬ (sIx items.size 0 lo=0/\sIx items.size items.size g=items.size))
  (h:Q (.ref s.heap.objs.size) { s with heap:=s.heap.push { cls:=.type "tuple",data:=.seq ((items.toList.drop (sIx items.size 0 lo)).take (sIx items.size items.size g-sIx items.size 0 lo)).toArray } })
  (p:items.size<=sizeLine):wpAny (model o w) A (getItem (.ref t) (.ref sl)) Q E s:=by
 have a:sizeOk (.seq ((items.toList.drop (sIx items.size 0 lo)).take (sIx items.size items.size g-sIx items.size 0 lo)).toArray):=by
  show ((items.toList.drop (sIx items.size 0 lo)).take (sIx items.size items.size g-sIx items.size 0 lo)).toArray.size<=sizeLine;rw[aZ,bS,fO,eQ];omega
 have i:sIx items.size items.size g<=items.size:=sIx_le _ _ (aW _) g;obtain⟨os,e,c,f⟩:=id l;have b:s.TypeIs (.ref sl) "slice" := ⟨os,e,c⟩;unfold getItem
 try with_reducible refine bY ?_
 first | refine aB (aE ?_) | skip
 refine aB (wpAny_sequenceKey j.typeIs (by decide) ?_);refine aB (cU (name:=Str.ofString "__getitem__") j.typeIs hU (dB hU j.typeIs entry_tuple_getitem ?_ (args_tuple_getitem _ _)));show wpAny _ _ (Builtin.Tuple.tupleItemsOf (.ref t) >>= _) _ _ s;refine aB (tupleItemsOf_ j ?_);refine aB (fC b ?_);rw[aR (by decide)];refine aB (HP l r C ?_);have d:¬ ((((sIx items.size 0 lo:Nat):Int) == 0&&(1:Int) == 1&&(sIx items.size items.size g-sIx items.size 0 lo) == items.size)=true):=by
  intro q;rw[cE,cE] at q;have k:((sIx items.size 0 lo:Nat):Int)=0:=eq_of_beq q.1.1;have n:sIx items.size items.size g-sIx items.size 0 lo=items.size:=eq_of_beq q.2;exact hw ⟨by omega,by omega⟩
 show wpAny _ _ (if (((sIx items.size 0 lo:Nat):Int) == 0&&(1:Int) == 1&&(sIx items.size items.size g-sIx items.size 0 lo) == items.size)=true then _ else _) _ _ s;rw[aM d,TN]
 first
  | exact aB (m:=Builtin.Tuple.tupleExact _) (eT (aE ⟨_,rfl,aE h⟩) a)
  | exact aB (m:=Builtin.Tuple.tupleExact _) (eT (aB (aE (aE ⟨_,rfl,aE h⟩))) a)
  | exact aB (aB (m:=Builtin.Tuple.tupleExact _) (eT (aE (aE ⟨_,rfl,aE h⟩)) a))
  | exact aB (aB (m:=Builtin.Tuple.tupleExact _) (eT (aE ⟨_,rfl,aE h⟩) a))
end
end HT
namespace L2
open PySem PySem.Spec PyProof.Rows
abbrev TO:=St->Hp->(Ab Int->Hp->Prop)->Prop
def PO (X:Cx) (e:Ab Expr) (t:TO):Prop :=
 ∀ (a:Aa (Ad×Obj)) (s:Ae) (b:St) (H:Hp) (Q:Ab Int->Hp->Prop),Inv X a b H s->t b H Q ->
  wpAny (model X.prog X.w) X.A (evalPart e X.env) (λu d=>∃ o c,Inv X a b c d/\IsPart u o/\Q o c) X.xe s
def Qk:TO:=λ_ H Q=>Q none H
def Wn (t:TE):TO:=λb H Q=>t b H λx a=>∃ i,x = .int i/\Q (some i) a
section
variable {X:Cx}{lo:Ab Expr}
theorem E6:PO X none Qk:=by
 intro a s b H Q I h;rw[evalPart_none];exact aE ⟨none,H,I,.none,h⟩
theorem Fk (h:PE X e g):PO X (some e) (Wn g):=by
 intro a s m H Q I hw;rw[evalPart_some];refine mM (h a s m H _ I hw) λu n b=>?_
 obtain⟨x,c,d,k,f⟩:=b;obtain⟨i,rfl,q⟩:=f;obtain⟨t,rfl⟩:=k;exact⟨some i,c,d,.int i t,q⟩
def wV (X:Cx) (r:V->Ab Int->Ab Int->Hp->VK->Prop):Prop :=
 ∀ (a:Aa (Ad×Obj)) (s:Ae) (e:St) (H:Hp) (x:V) (v c d:Ac) (lo b:Ab Int) (sl:Ad) (Q:VK),Inv X a e H s->mX x v->s.heap.IsSliceOf sl c d .none->IsPart c lo->IsPart d b->r x lo b H Q ->
  ∃ T id,typeLookup (.type T) "__getitem__" = pure (some (.builtin id))/\s.TypeIs v T/\wpAny (model X.prog X.w) X.A (getItem v (.ref sl)) (EP X a e Q) X.xe s
theorem wV.or (h:wV X r) (j:wV X l):wV X (λx lo g H Q=>r x lo g H Q\/l x lo g H Q):=by
 intro a s k H x v f i lo g sl Q I e b c d q;rcases q with q | q
 .exact h a s k H x v f i lo g sl Q I e b c d q
 .exact j a s k H x v f i lo g sl Q I e b c d q
def BX (r:V->Ab Int->Ab Int->Hp->VK->Prop) (g:TE) (j th:TO):TE:=λa H Q=>g a H λx b=>j a b λl c=>th a c λu d=>r x l u d Q
theorem Cy (p:wV X r) (j:PE X e U) (o:PO X lo tl) (C:PO X g th):PE X (.Subscript e (.Slice lo g none J) pos) (BX r U tl th):=by
 intro a s f H Q I h;refine Subscript_ (mM (j a s f H _ I h) λv R d=>?_);obtain⟨x,n,y,P,M⟩:=d;refine wpAny_Slice (mM (o a R f n _ y M) λi S ⟨l,t,z,K,N⟩=>mM (C a S f t _ z N) λk c d=>?_);obtain⟨u,m,B,L,O⟩:=d;rw[evalPart_none];refine aE ?_;have D:Inv X a f m { c with heap:=c.heap.push { cls:=.type "slice",data:=.fields #[i,k,.none] } }:=B.kept (t':=c.toks) λb V q=>aG _ q
 obtain⟨T,id,E,G,F⟩:=p a { c with heap:=c.heap.push { cls:=.type "slice",data:=.fields #[i,k,.none] } } f m x v i k l u c.heap.objs.size Q D P (Heap.IsSliceOf.new ..) K L O;show wpAny (model X.prog X.w) X.A (subscriptTail e (.Slice lo g none J) v (.ref c.heap.objs.size)) (EP X a f Q) X.xe { c with heap:=c.heap.push { cls:=.type "slice",data:=.fields #[i,k,.none] } };exact tail_any (ops:=[.ref c.heap.objs.size,v]) G E F (by with_unfolding_all rfl)
def wJ (g:Aa V) (lo j:Ab Int):Aa V:=(g.drop (HT.sIx g.length 0 lo)).take (HT.sIx g.length g.length j-HT.sIx g.length 0 lo)
theorem Vh (g:Aa V) (lo j:Ab Int):(wJ g lo j).length<=g.length:=by
 unfold wJ;rw[bS,fO];omega
def Sh (K:mH):V->Ab Int->Ab Int->Hp->VK->Prop:=λx lo c H Q=>∃ a b,x = .ref a/\nG K H a b /\
 ¬ (HT.sIx b.length 0 lo=0/\HT.sIx b.length b.length c=b.length)/\∀ p,H p=none->Q (.ref p) (upd H p (.t (wJ b lo c)))
theorem IX:wV X (Sh X.K):=by
 intro m s E H x v B D lo e sl Q I z n w y h;obtain⟨a,d,rfl,u,hw,q⟩:=h;cases z;obtain⟨f,r,i,k⟩:=I.tuple u;have c:f.toArray.size=d.length:=by rw[aZ];exact r.length.symm
 refine⟨"tuple",_,hU.lookup,i.typeIs,?_⟩;refine HT.getItem_tuple_cut i n w y (by rw[c];exact hw) ?_ (by rw[c];exact k);rw[c];refine⟨.ref s.heap.objs.size,_,I.laid (t':=s.toks) (o:=.t (wJ d lo e)) (λb A q=>aG _ q) (aW _) ?_,rfl,q _ (I.hok.fresh (aW _))⟩;exact⟨bN (Vh d lo e) k,_,(r.drop (HT.sIx d.length 0 lo)).take (HT.sIx d.length d.length e-HT.sIx d.length 0 lo),yB.new _ _⟩
def Sm (K:mH):R2:=λx y H Q=>∃ a b d c,x = .ref a/\y = .ref b/\nG K H a d/\nG K H b c/\d≠[]/\d.length+c.length<=sizeLine /\
 (c=[]->Q (.ref a) H)/\(c≠[]->∀ p,H p=none->Q (.ref p) (upd H p (.t (d++c))))
theorem mV.nil_iff (r:mV j g):g=[]↔j=[]:=by
 cases r with
 | nil=>simp
 | cons _ _=>simp
theorem Y5:nC X (binaryOp .Add) (Sm X.K):=by
 intro i s P H x y v u Q I G L h;obtain⟨a,b,M,N,rfl,rfl,k,m,n,e,E,F⟩:=h;cases G;cases L;obtain⟨A,d,B,_⟩:=I.tuple k;obtain⟨f,c,D,_⟩:=I.tuple m;refine HT.cat_tup B D (λz=>n (d.nil_iff.mp z)) (λz=>⟨.ref a,H,I,rfl,E (c.nil_iff.mp z)⟩) (λz=>?_) (by rw[<- d.length,<- c.length];exact e);refine⟨.ref s.heap.objs.size,_,I.laid (t':=s.toks) (o:=.t (M++N)) (λb O q=>aG _ q) (aW _) ?_,rfl,F (λw=>z (c.nil_iff.mpr w)) _ (I.hok.fresh (aW _))⟩;exact⟨by rw[bF];exact e,_,d.append c,yB.new _ _⟩
end
noncomputable def tQ (n:Nat) (i:Int):Ab Nat:=if 0<=i then (if i<n then some i.toNat else none) else if -(n:Int)<=i then some (i+n).toNat else none
def oV {l:Type}(g:Aa l) (i:Int):Ab l:=(tQ g.length i).bind λj=>g[j]?
theorem Po (h:tQ n i=some j):seqIndex? i n=some j/\j<n/\-(n:Int)<=i/\i<n:=by
 unfold tQ at h;by_cases b:0<=i
 .rw[aR b] at h;by_cases a:i<n
  .rw[aR a] at h;have e:i.toNat=j:=bU h;exact⟨by rw[seqIndex_of b a,e],by omega,by omega,a⟩
  .rw[aM a] at h;cases h
 .rw[aM b] at h;by_cases a:-(n:Int)<=i
  .rw[aR a] at h;have e:(i+n).toNat=j:=bU h;exact⟨by rw[seqIndex_neg (by omega) a,e],by omega,a,by omega⟩
  .rw[aM a] at h;cases h
theorem M0 (h:oV g i=some v):∃ j,seqIndex? i g.length=some j/\g[j]?=some v/\j<g.length/\-(g.length:Int)<=i/\i<g.length:=by
 unfold oV at h;cases e:tQ g.length i with
 | none=>rw[e] at h;cases h
 | some j =>
  rw[e] at h;obtain⟨a,b,c,d⟩:=Po e;exact⟨j,a,h,b,c,d⟩
theorem pB {l:Type}{g:Aa l}{j:Nat}{v:l}(h:g[j]?=some v):oV g (j:Int)=some v:=by
 have a:j<g.length:=(aX.mp h).1;have e:tQ g.length (j:Int)=some j:=by
  unfold tQ;rw[aR (by omega),aR (by omega)];simp
 unfold oV;rw[e];exact h
def K0 (b:Expr):Prop:=∀ o i,subscripted b false o i=operate [o,i] (getItem o i)
def wD (X:Cx) (r:R2):Prop :=
 ∀ (value slice:Expr) (a:Aa (Ad×Obj)) (s:Ae) (b:St) (H:Hp) (x y:V) (v u:Ac) (Q:VK),Inv X a b H s->mX x v->mX y u->r x y H Q ->
  subscripted slice false v u=operate [v,u] (getItem v u)->wpAny (model X.prog X.w) X.A (subscriptTail value slice v u) (EP X a b Q) X.xe s
def xN (X:Cx) (id:String) (r:V->Aa V->Hp->VK->Prop):Prop :=
 ∀ (a:Aa (Ad×Obj)) (s:Ae) (d:St) (H:Hp) (x:V) (c:Aa V) (v:Ac) (b:Aa Ac) (Q:VK),Inv X a d H s->mX x v->mV c b->r x c H Q ->
  wpAny (model X.prog X.w) X.A (call (.builtin id) (v::b)) (EP X a d Q) X.xe s
section
variable {X:Cx}
theorem wD.or (h:wD X r) (g:wD X j):wD X (λx y H Q=>r x y H Q\/j x y H Q):=by
 intro value slice a s e H x y v u Q I c d q b;rcases q with q | q
 .exact h value slice a s e H x y v u Q I c d q b
 .exact g value slice a s e H x y v u Q I c d q b
theorem tD (l:wD X r) (g:PE X a p) (j:PE X b C) (o:K0 b):PE X (.Subscript a b pos) (Js r p C):=by
 intro c s m H Q I h;exact Subscript_ (M6 g j I h λv u k x y d e f i q=>l a b c k m d x y v u Q e f i q (o _ _))
def Pb (K:mH):R2:=λx y H Q=>∃ p a i v,x = .ref p/\y = .int i/\mK K H p a/\oV a i=some v/\Q v H
def Wd (K:mH):R2:=λx y H Q=>∃ p a i v,x = .ref p/\y = .int i/\nG K H p a/\oV a i=some v/\Q v H
def T7:R2:=λx y H Q=>∃ z i c,x = .str z/\y = .int i/\z.length<=sizeLine/\oV z.cps.toList i=some c/\Q (.str ⟨#[c]⟩) H
theorem vI:wD X (Pb X.K):=by
 intro value slice a s A H x y v u Q I M N h n;obtain⟨p,V,i,z,rfl,rfl,L,F,q⟩:=h;cases M;obtain⟨t,rfl⟩:=N;obtain⟨d,r,e,S⟩:=I.list L;obtain⟨j,b,B,P,D,E⟩:=M0 F;obtain⟨w,k,f⟩:=r.get B;have G:=r.length;have R:=Ay;have fin:EP X a A Q w s:=⟨z,H,I,f,q⟩;by_cases m:0<=i
 .have c:i.toNat=j:=by
   rw[seqIndex_of m E] at b;exact bU b
  exact item_listR e.isList m (by omega) (by rw[c];simpa using k) fin n
 .have c:(i+(d.toArray.size:Int)).toNat=j:=by
   rw[seqIndex_neg (by omega) D] at b;rw[aZ,<- G];exact bU b
  exact subscriptTail_builtinR (x:=w) e.isList.typeIs slot_list_getitem.lookup
   (wpAny_getItem_list_neg (Q:=λr O=>r=w/\EP X a A Q r O) e.isList (by omega) (by rw[aZ]<;>omega) (by omega) (by rw[c];simpa using k) ⟨rfl,fin⟩) n
theorem NL:wD X (Wd X.K):=by
 intro value slice a s d H x y v u Q I E F h B;obtain⟨p,R,i,z,rfl,rfl,A,m,q⟩:=h;cases E;obtain⟨t,rfl⟩:=F;obtain⟨D,r,c,P⟩:=I.tuple A;obtain⟨j,f,k,L,M,N⟩:=M0 m;obtain⟨w,e,b⟩:=r.get k;have n:=r.length;have O:=Ay;have fin:EP X a d Q w s:=⟨z,H,I,b,q⟩;exact subscriptTail_builtinR (x:=w) c.typeIs slot_tuple_getitem.lookup
  (getItem_tuple (j:=j) (Q:=λr G=>r=w/\EP X a d Q r G) c (by omega) (by omega) (by rw[aZ,<- n];exact f) (by simpa using e) ⟨rfl,fin⟩) B
theorem J8:wD X T7:=by
 intro value slice b s L H x y v u Q I B D h A;obtain⟨z,i,c,rfl,rfl,G,n,q⟩:=h;obtain⟨t,rfl⟩:=B;obtain⟨K,rfl⟩:=D;obtain⟨j,a,f,E,k,m⟩:=M0 n;have w:z.cps.toList.length=z.length:=by simp[Str.length]
 rw[w] at a k m;have F:=Ay;exact tail_any (lI s z t) slot_str_getitem.lookup (getItem_str (c:=c) (by
  have d:decide (i < -(2 ^ 63:Int))=false:=bG (by omega);have e:decide (i>=2 ^ 63)=false:=bG (by omega);rw[d,e,Bool.or_false]) (by rw[a];simpa using f) ⟨.str ⟨#[c]⟩,H,I.tok _,⟨_,rfl⟩,q⟩) A
def Pr (K:mH):R2:=λx y H Q=>Pb K x y H Q\/Wd K x y H Q\/T7 x y H Q
theorem WA:wD X (Pr X.K):=vI.or (NL.or J8)
theorem RK (g:Aa Ac) (n j:Nat) (u:Ac):Obj.mapSeq (·.setIfInBounds j u) { cls:=.type "list",data:=.seq g.toArray n }={ cls:=.type "list",data:=.seq (g.set j u).toArray n }:=by
 simp[Obj.mapSeq]
theorem Inv.lst {j:Aa (Ad×Obj)}{C:St}{H:Hp}{s:Ae}{p:Ad}{o:Aa V}(I:Inv X j C H s) (h:H p=some (.l o)) :
  ∃ (g:Aa Ac) (n:Nat),mV o g/\s.heap.get? p=some { cls:=.type "list",data:=.seq g.toArray n }/\o.length<=sizeLine:=by
 obtain⟨z,g,n,r,e⟩:=I.hok p _ h;exact⟨g,n,r,e,z⟩
theorem Inv.lstUpd {j:Aa Ac}(I:Inv X o σ H s) (h:H p=some (.l xs))
  (U:s.heap.get? p=some { cls:=.type "list",data:=.seq j.toArray n }) (C:f { cls:=.type "list",data:=.seq j.toArray n }={ cls:=.type "list",data:=.seq g.toArray J }) (r:mV T g) (hz:T.length<=sizeLine) (t:Nat) :
  Inv X o σ (upd H p (.l T)) { s with heap:=s.heap.update p f,toks:=t }:=by
 have e:(s.heap.update p f).get? p=some { cls:=.type "list",data:=.seq g.toArray J }:=by
  rw[fH f U (by rw[C]<;>rfl),C]
 refine I.write (x:=p) (e:=p) (by rw[h];trivial) (.inl rfl) (λb u a q=>(Heap.get?_update_other _ _ (eI a)).trans q) ⟨_,e⟩ ?_;exact⟨hz,g,J,r,e⟩
def Qa:V->V->V->Hp->(Hp->Prop)->Prop:=λo i v H Q=>∃ p a k j,o = .ref p/\i = .int k/\H p=some (.l a)/\tQ a.length k=some j/\Q (upd H p (.l (a.set j v)))
theorem Gz:Kl X Qa:=by
 intro b s K H o i v O N u Q I E D F h;obtain⟨p,G,k,j,rfl,rfl,z,A,q⟩:=h;cases E;obtain⟨t,rfl⟩:=D;obtain⟨a,n,r,f,B⟩:=I.lst z;obtain⟨c,L,x,y⟩:=Po A;have e:=r.length;have M:=Ay;have m:Inv X b K (upd H p (.l (G.set j v))) { s with heap:=s.heap.update p (Obj.mapSeq (·.setIfInBounds j u)) } :=
  I.lstUpd z f (RK a n j u) (r.set F j) (by rw[bO];exact B) s.toks
 by_cases w:0<=k
 .have d:k.toNat=j:=by
   rw[seqIndex_of w y] at c;exact bU c
  exact PySem.W.ki_setAt f w (by omega) (by rw[aZ,<- e];exact y) (by rw[d];exact⟨_,m,q⟩)
 .have d:(k+(a.toArray.size:Int)).toNat=j:=by
   rw[seqIndex_neg (by omega) x] at c;rw[aZ,<- e];exact bU c
  exact PySem.W.ki_setBack f (by omega) (by rw[aZ,<- e];exact x) (by omega) (by rw[d];exact⟨_,m,q⟩)
theorem ON (lo g:Ab Int) (n:Nat):(sliceBounds lo g none n).1=((HT.sIx n 0 lo:Nat):Int)/\(sliceBounds lo g none n).2.1=((HT.sIx n n g:Nat):Int)/\(sliceBounds lo g none n).2.2=1:=by
 refine⟨?_,?_,rfl⟩
 .cases lo with
  | none=>simp[sliceBounds,HT.sIx]
  | some i =>
   simp only[sliceBounds,HT.sIx,Option.getD_none,show (1:Int)>0 by decide,gA];by_cases h:i<0
   .simp only[h,gA]<;>omega
   .simp only[h,fY]<;>omega
 .cases g with
  | none=>simp[sliceBounds,HT.sIx]
  | some i =>
   simp only[sliceBounds,HT.sIx,Option.getD_none,show (1:Int)>0 by decide,gA];by_cases h:i<0
   .simp only[h,gA]<;>omega
   .simp only[h,fY]<;>omega
theorem WR (g:Aa Ac) (lo j:Ab Int):slicePick g.toArray lo j none=((g.drop (HT.sIx g.length 0 lo)).take (HT.sIx g.length g.length j-HT.sIx g.length 0 lo)).toArray:=by
 obtain⟨a,b,c⟩:=ON lo j g.toArray.size;unfold slicePick;rw[a,b,c];simp only[sliceRange_one,pick_run,aZ]<;>rfl
def Wt (K:mH):V->Ab Int->Ab Int->Hp->VK->Prop:=λx lo c H Q=>∃ a b,x = .ref a/\mK K H a b/\∀ p,H p=none->Q (.ref p) (upd H p (.l (wJ b lo c)))
theorem Ot:wV X (Wt X.K):=by
 intro i s D H x v A B lo e sl Q I y k u w h;obtain⟨a,c,rfl,m,q⟩:=h;cases y;obtain⟨t,r,f,n⟩:=I.list m;have d:=r.length;refine⟨"list",_,slot_list_getitem.lookup,f.isList.typeIs,?_⟩;refine wpAny_getItem_list_slice f.isList k u w .none (by simp) ?_ (by rw[aZ]<;>omega);rw[WR,<- d];refine⟨.ref s.heap.objs.size,_,I.laid (t':=s.toks) (o:=.l (wJ c lo e)) (λb z q=>aG _ q) (aW _) ?_,rfl,q _ (I.hok.fresh (aW _))⟩;exact⟨bN (Vh c lo e) n,_,0,(r.drop (HT.sIx c.length 0 lo)).take (HT.sIx c.length c.length e-HT.sIx c.length 0 lo),bB _ rfl⟩
def uK:V->Bool
 | .e=>true
 | .b _=>true
 | .int _=>true
 | .str _=>true
 | _=>false
noncomputable def qW:V->V->Bool
 | .e,.e=>true
 | .b a,.b b=>a == b
 | .b a,.int b=>(if a then 1 else 0) == b
 | .int a,.b b=>a == (if b then 1 else 0)
 | .int a,.int b=>a == b
 | .str a,.str b=>a == b
 | _,_=>false
theorem Gu (l:mX y u) (g:mX x v) (o:uK y=true) (j:uK x=true):SeqAt.EqAt A s u v (qW y x):=by
 cases y with
 | e =>
  cases l;cases x with
  | e=>cases g;exact SeqAt.EqAt.same _
  | b b=>cases g;exact SeqAt.EqAt.none_bool b
  | int b=>obtain⟨t,rfl⟩:=g;exact SeqAt.EqAt.none_int b t
  | str b=>obtain⟨t,rfl⟩:=g;exact SeqAt.EqAt.none_str b t
  | _=>exact absurd (show false=true from j) aY
 | b a =>
  cases l;cases x with
  | e=>cases g;exact SeqAt.EqAt.bool_none a
  | b b=>cases g;exact SeqAt.EqAt.bool_bool a b
  | int b=>obtain⟨t,rfl⟩:=g;exact SeqAt.EqAt.bool_int a b t
  | str b=>obtain⟨t,rfl⟩:=g;exact SeqAt.EqAt.bool_str a b t
  | _=>exact absurd (show false=true from j) aY
 | int a =>
  obtain⟨c,rfl⟩:=l;cases x with
  | e=>cases g;exact SeqAt.EqAt.int_none a c
  | b b=>cases g;exact SeqAt.EqAt.int_bool a c b
  | int b=>obtain⟨t,rfl⟩:=g;exact SeqAt.EqAt.int_int a c b t
  | str b=>obtain⟨t,rfl⟩:=g;exact SeqAt.EqAt.int_str a c b t
  | _=>exact absurd (show false=true from j) aY
 | str a =>
  obtain⟨c,rfl⟩:=l;cases x with
  | e=>cases g;exact SeqAt.EqAt.str_none a c
  | b b=>cases g;exact SeqAt.EqAt.str_bool a c b
  | int b=>obtain⟨t,rfl⟩:=g;exact SeqAt.EqAt.str_int a c b t
  | str b=>obtain⟨t,rfl⟩:=g;exact SeqAt.EqAt.str_str a c b t
  | _=>exact absurd (show false=true from j) aY
 | _=>exact absurd (show false=true from o) aY
def uA (x:V) (u:Ac):Bool:=match u with
 | .none=>qW .e x
 | .bool b=>qW (.b b) x
 | .int i _=>qW (.int i) x
 | .str z _=>qW (.str z) x
 | _=>false
theorem U1 (r:mX y u) (f:uK y=true):uA x u=qW y x:=by
 cases y with
 | e=>cases r;rfl
 | b b=>cases r;rfl
 | int i=>obtain⟨t,rfl⟩:=r;rfl
 | str z=>obtain⟨t,rfl⟩:=r;rfl
 | _=>exact absurd (show false=true from f) aY
theorem Dc:∀ {g:Aa V}{j:Aa Ac},mV g j->g.all uK=true->j.any (uA x)=g.any λy=>qW y x
 | _,_,.nil,_=>rfl
 | y::g,u::j,.cons r t,f=>by
  rw[lV,cE] at f;rw[eZ,eZ,U1 r f.1,Dc t f.2]
theorem Ds (o:mX x v) (l:uK x=true):∀ {j:Aa V}{g:Aa Ac},mV j g->j.all uK=true->∀ u∈g,SeqAt.EqAt A s u v (uA x u)
 | _,_,.nil,_=>λu a=>by cases a
 | y::j,u::g,.cons r t,f=>λb a=>by
  rw[lV,cE] at f;rcases aO.mp a with rfl | a
  .rw[U1 r f.1];exact Gu r o f.1 l
  .exact Ds o l t f.2 b a
def tR (x:V) (g:Aa V):Bool:=g.any λy=>qW y x
def G4 (K:mH) (neg:Bool):R2:=λx y H Q=>∃ p a,y = .ref p/\(mK K H p a\/nG K H p a)/\uK x=true/\a.all uK=true/\Q (.b (if neg then !tR x a else tR x a)) H
theorem Uu:nC X (compareOp .In) (G4 X.K false):=by
 intro f s t H x y v u Q I i m h;obtain⟨p,n,rfl,c,e,fs,q⟩:=h;cases m;rcases c with c | c
 .obtain⟨a,r,d,k⟩:=I.list c;refine SeqAt.in_listAt (uA x) d.isList (λw hw=>Ds i e r fs w (by simpa using hw)) ⟨.b _,H,I,rfl,?_⟩;rw[show a.toArray.any (uA x)=a.any (uA x) by simp,Dc r fs];exact q
 .obtain⟨a,r,d,k⟩:=I.tuple c;refine SeqAt.in_tupleAt (uA x) d (λw hw=>Ds i e r fs w (by simpa using hw)) ⟨.b _,H,I,rfl,?_⟩;rw[show a.toArray.any (uA x)=a.any (uA x) by simp,Dc r fs];exact q
theorem Zb:nC X (compareOp .NotIn) (G4 X.K true):=by
 intro f s t H x y v u Q I i m h;obtain⟨p,n,rfl,c,e,fs,q⟩:=h;cases m;rcases c with c | c
 .obtain⟨a,r,d,k⟩:=I.list c;refine SeqAt.notIn_listAt (uA x) d.isList (λw hw=>Ds i e r fs w (by simpa using hw)) ⟨.b _,H,I,rfl,?_⟩;rw[show a.toArray.any (uA x)=a.any (uA x) by simp,Dc r fs];exact q
 .obtain⟨a,r,d,k⟩:=I.tuple c;refine SeqAt.notIn_tupleAt (uA x) d (λw hw=>Ds i e r fs w (by simpa using hw)) ⟨.b _,H,I,rfl,?_⟩;rw[show a.toArray.any (uA x)=a.any (uA x) by simp,Dc r fs];exact q
theorem Ej:nW X (.builtin "len") (λj H Q=>∃ p g,j=[.ref p]/\(mK X.K H p g\/nG X.K H p g)/\Q (.int g.length) H):=by
 intro f s t H j n Q I r h;obtain⟨p,g,rfl,b,q⟩:=h;obtain⟨u,rfl,k⟩:=qC r;cases k;have m:=Ay;rcases b with b | b
 .obtain⟨c,e,d,i⟩:=I.list b;have a:=e.length;exact Calls.call_len_list d.isList (by simp only[aZ]<;>omega) ⟨.int g.length,H,I.tok _,⟨s.toks+1,by rw[aZ,a]⟩,q⟩
 .obtain⟨c,e,d,i⟩:=I.tuple b;have a:=e.length;exact len_tuple d (by simp only[aZ]<;>omega) ⟨.int g.length,H,I.tok _,⟨s.toks+1,by rw[aZ,a]⟩,q⟩
theorem Vo:nW X (.builtin "len") (λg H Q=>∃ z,g=[.str z]/\z.length<=sizeLine/\Q (.int z.length) H):=by
 intro a s e H g d Q I r h;obtain⟨z,rfl,c,q⟩:=h;obtain⟨u,rfl,t,rfl⟩:=qC r;have b:=Ay;exact len_str (by omega) ⟨.int z.length,H,I.tok _,⟨_,rfl⟩,q⟩
theorem nW.or (h:nW X f r) (j:nW X f l):nW X f (λg H Q=>r g H Q\/l g H Q):=by
 intro a s d H g c Q I b q;rcases q with q | q
 .exact h a s d H g c Q I b q
 .exact j a s d H g c Q I b q
theorem Yq:nW X (.type "list") (λj H Q=>∃ p g,j=[.ref p]/\(mK X.K H p g\/nG X.K H p g)/\∀ l,H l=none->Q (.ref l) (upd H l (.l g))):=by
 intro v s D H j E Q I r h;obtain⟨p,g,rfl,k,q⟩:=h;obtain⟨u,rfl,B⟩:=qC r;cases B;have fin:∀ (a:Aa Ac),mV g a->g.length<=sizeLine->∀ (c:Ag) (d:Nat),(∀ b A,s.heap.get? b=some A->c.get? b=some A) ->
   c.get? s.heap.objs.size=some { cls:=.type "list",dict:=none,data:=.seq a.toArray d,slots:=#[] }->EP X v D Q (.ref s.heap.objs.size) { s with heap:=c }:=λa f m c d t e =>
  ⟨.ref s.heap.objs.size,_,I.laid (t':=s.toks) t (aW _) (show nT X.prog X.w _ c _ (.l g) from ⟨m,a,d,f,e⟩),rfl,q _ (I.hok.fresh (aW _))⟩
 rcases k with k | k
 .obtain⟨a,f,z,m⟩:=I.list k;have i:=f.length;obtain⟨o,y,x,n,hd⟩:=z.isList;exact call_list_seq p (.inl rfl) y x hd (λc d t e=>fin a f m c d t e) (by simp only[aZ]<;>omega)
 .obtain⟨a,f,z,m⟩:=I.tuple k;have i:=f.length;obtain⟨o,y,x,n,hd⟩:=z;exact call_list_seq p (.inr rfl) y x hd (λc d t e=>fin a f m c d t e) (by simp only[aZ]<;>omega)
theorem yI:nW X (.type "tuple") (λj H Q=>∃ p g,j=[.ref p]/\((mK X.K H p g/\∀ l,H l=none->Q (.ref l) (upd H l (.t g)))\/(nG X.K H p g/\Q (.ref p) H))):=by
 intro a s x H j B Q I r h;obtain⟨p,g,rfl,h⟩:=h;obtain⟨u,rfl,A⟩:=qC r;cases A;rcases h with⟨f,q⟩ | ⟨f,q⟩
 .obtain⟨c,k,i,v⟩:=I.list f;have n:=k.length;refine call_tuple_list i.isList (λd z=>?_) (by simp only[aZ]<;>omega);have m:Inv X a x H { s with heap:=d }:=I.kept (t':=s.toks) z;have y:Inv X a x (upd H d.objs.size (.t g)) { s with heap:=d.push { cls:=.type "tuple",data:=.seq c.toArray } } :=
   m.laid (t':=s.toks) (λb o e=>aG _ e) (aW _) (show nT X.prog X.w _ _ _ (.t g) from ⟨v,c,k,yB.new _ _⟩)
  exact⟨.ref d.objs.size,_,y,rfl,q _ (m.hok.fresh (aW _))⟩
 .obtain⟨c,k,i,v⟩:=I.tuple f;exact call_tuple_same i ⟨.ref p,H,I,rfl,q⟩
def Ed (K:mH) (T:String) (x:V) (H:Hp):Prop:=match x with
 | .str _=>T = "str"
 | .int _=>T = "int"
 | .ref p=>(T = "list" /\ ∃ b,mK K H p b)\/(T = "tuple" /\ ∃ o,K.lookup p=some o/\o.cls = .type "tuple" /\ o.dict=none) \/
   (T = "dict" /\ ((∃ a,H p=some (.k a))\/∃ a,H p=some (.T a)))\/(T = "set" /\ ∃ S n,H p=some (.set S n))
 | _=>False
theorem VJ (I:Inv X j l H s) (r:mX x v) (ty:Ed X.K T x H) :
  s.TypeIs v T/\∀ a,v = .ref a->∃ g,s.heap.get? a=some g/\g.dict=none:=by
 cases x with
 | str z =>
  obtain⟨t,rfl⟩:=r;cases (show T = "str" from ty);exact⟨lI s z t,λ_ e=>nomatch e⟩
 | int i =>
  obtain⟨t,rfl⟩:=r;cases (show T = "int" from ty);exact⟨typeIs_int s i t,λ_ e=>nomatch e⟩
 | ref p =>
  cases r;rcases ty with⟨rfl,w,q⟩ | ⟨rfl,o,b,m,hd⟩ | ⟨rfl,b⟩ | ⟨rfl,S,n,b⟩
  .obtain⟨u,_,k,_⟩:=I.list q;refine⟨k.isList.typeIs,λa e=>?_⟩;cases e;obtain⟨o,n,e,c,hd,_⟩:=k;exact⟨o,e,hd⟩
  .refine⟨⟨o,I.kIn p o b,m⟩,λa e=>?_⟩;cases e;exact⟨o,I.kIn _ o b,hd⟩
  .have z:∃ o,s.heap.get? p=some o/\o.ExactDict:=by
    rcases b with⟨h,b⟩ | ⟨h,b⟩
    .obtain⟨_,_,_,_,o,_,_,e,d,_⟩:=I.hok p _ b;exact⟨o,e,d⟩
    .obtain⟨_,_,_,_,o,_,_,e,d,_⟩:=I.hok p _ b;exact⟨o,e,d⟩
   obtain⟨o,e,d⟩:=z;refine⟨⟨o,e,d.1⟩,λa f=>?_⟩;cases f;exact⟨o,e,d.2.1⟩
  .obtain⟨o,_,_,_,e,d,_⟩:=I.hok p _ b;refine⟨⟨o,e,d.1⟩,λa f=>?_⟩;cases f;exact⟨o,e,d.2.1⟩
 | _=>exact False.elim ty
def S6 (K:mH) (T:String) (r:V->Aa V->Hp->VK->Prop) (g:TE) (t:TA):TE:=λb H Q=>g b H λx a=>Ed K T x a/\t b a λd c=>r x d c Q
variable {id:String}
structure MtB (X:Cx) (o:Expr) (name:Str) (apos:Pos) (e:Expr) (es:List Expr) (cpos:Pos):Prop extends StB X e es cpos where
 c:attributeBase o name X.env (eval o X.env)=eval o X.env:=by rfl
 d:((backTo cpos (starEach (e::es) X.env)).all (λx=>!x.1)&&(backToKw cpos (keywordEach [] X.env)).all (λx=>x.1.isSome)&&decide ((e::es).length+([]:List Keyword).length+(if ([]:List Keyword).isEmpty then 0 else 1)<30))=true:=by rfl
 f:(apos.endLine == cpos.line)=true:=by rfl
theorem Bx (pa:PlainAttrs T) (slot:Slot T name id) (p:typeOf (.builtin id)=pure (.type "method_descriptor")) (J:xN X id r) (U:PE X o to) (C:PA X (e::l) t)
  (j:MtB X o name apos e l g:=by exact {}) :
  PE X (.Call (.Attribute o name apos) (e::l) [] g) (S6 X.K T r to t):=by
 intro i s m H Q I h;refine wpAny_Call_method_late j.c j.d j.f rfl (mM (U i s m H _ I h) λv G k=>?_);obtain⟨x,w,n,u,ty,D⟩:=k;obtain⟨A,B⟩:=VJ n u ty;refine⟨T,id,pa,slot,p,A,B,?_⟩;have q:=C g i G m w _ n D;rw[j.a] at q |-;refine Calls.callWith_builtin (by show (false||(backTo g (starEach l X.env)).any (·.1))=false;rw[j.b]<;>rfl) (Calls.evalArgs_plain ?_);exact mM q λM L ⟨N,y,z,F,E⟩=>J i L m y x N v M Q z u F E
/- xs.append(e),list.index on a module's tuple .. are xN facts of 06m -/
end
def Uf (X:Cx) (id:String) (r:V->Aa V->Hp->VK->Prop):Prop :=
 ∀ (a:Aa (Ad×Obj)) (s:Ae) (d:St) (H:Hp) (x:V) (c:Aa V) (v:Ac) (b:Aa Ac) (Q:VK),Inv X a d H s->mX x v->mV c b->r x c H Q ->
  wpAny (model X.prog X.w) X.A (call (.builtin id) (v::b)) (EP X a d Q) X.xe s
theorem mV.one:∀ {x:V}{g:Aa Ac},mV [x] g->∃ u,g=[u]/\mX x u
 | _,_,.cons r .nil=>⟨_,rfl,r⟩
theorem mV.eraseIdx:∀ {j:Aa V}{g:Aa Ac}(i:Nat),mV j g->mV (j.eraseIdx i) (g.eraseIdx i)
 | _,_,_,.nil=>.nil
 | _,_,0,.cons _ t=>t
 | _,_,i+1,.cons r t=>.cons r (mV.eraseIdx i t)
theorem mV.rep (h:mV j g):∀ k:Nat,mV (List.replicate k j).flatten (List.replicate k g).flatten
 | 0=>.nil
 | k+1=>by
  rw[dN,dN,gU,gU];exact mV.append h (mV.rep h k)
theorem X8:∀ (l:Aa g) (i:Nat),(l.eraseIdx i).length<=l.length
 | [],_=>aW _
 | _::_,0=>iP _
 | _::r,i+1=>Nat.succ_le_succ (X8 r i)
theorem Sx (j:Aa Ac):∀ (k:Nat) (g:Aa Ac),
  List.foldl (λl o=>l++o) g.toArray (List.replicate k j.toArray)=(g++(List.replicate k j).flatten).toArray
 | 0,g=>by simp
 | k+1,g=>by
  have e:g.toArray++j.toArray=(g++j).toArray:=by simp
  have a:(g++j)++(List.replicate k j).flatten=g++(List.replicate (k+1) j).flatten:=by
   rw[dN,gU,bJ]
  rw[<- a,<- Sx j k (g++j),<- e,dN,jG]
section
variable {X:Cx}
theorem Inv.lset {g:Aa Ac}(I:Inv X j T H s) (p:H l=some (.l xs))
  (e:s.heap.get? l=some { cls:=.type "list",data:=.seq g.toArray n }) (r:f g.toArray=its'.toArray) (C:mV o its') (J:o.length<=sizeLine) :
  Inv X j T (upd H l (.l o)) { s with heap:=s.heap.update l (Obj.mapSeq f),toks:=U }:=by
 have q:=PySem.IsL.update e f;rw[r] at q;refine I.write (x:=l) (e:=l) (by rw[p];exact trivial) (.inl rfl) (λc u a b=>(Heap.get?_update_other s.heap (Obj.mapSeq f) (eI a)).trans b) ⟨_,q⟩ ?_;exact⟨J,its',_,C,q⟩
theorem Inv.lnew (I:Inv X g p H s) (j:mV ys its) (o:ys.length<=sizeLine) :
  Inv X g p (upd H s.heap.objs.size (.l ys)) { s with heap:=s.heap.push { cls:=.type "list",data:=.seq its.toArray },toks:=t' } :=
 I.laid (λ_ _ q=>aG _ q) (aW _) ⟨o,its,0,j,bB _ rfl⟩
theorem Inv.fresh (I:Inv X g j H s):H s.heap.objs.size=none:=I.hok.fresh (aW _)
theorem Inv.lstM (I:Inv X o C H s) (p:H l=some (.l j)):j.length<=sizeLine/\∃ (g:Aa Ac) (n:Nat),mV j g/\j.length=g.length/\s.heap.get? l=some { cls:=.type "list",data:=.seq g.toArray n }:=by
 obtain⟨z,g,n,r,e⟩:=I.hok l _ p;exact⟨z,g,n,r,r.length,e⟩
theorem UJ (h:n<=sizeLine):Builtin.List.listTooLong n=false:=by
 unfold Builtin.List.listTooLong;exact bG (by omega)
end
section
variable {X:Cx}
def Xk:V->Aa V->Hp->VK->Prop:=λx b H Q=>∃ l a y,x = .ref l/\b=[y]/\H l=some (.l a)/\a.length<sizeLine/\Q .e (upd H l (.l (a++[y])))
theorem tX:Uf X "list.append" Xk:=by
 intro c s B H x w v t Q I i f h;obtain⟨l,A,y,rfl,rfl,b,m,q⟩:=h;cases i;obtain⟨u,rfl,d⟩:=f.one;obtain⟨z,a,n,r,k,e⟩:=I.lstM b;refine iQ F.slot_list_append ⟨_,e,rfl⟩ F.entry_list_append (F.args_list_append_2 _ _) (PySem.list_append l a.toArray n u (by rw[aZ];omega)) ⟨e,?_⟩;refine⟨.e,_,I.lset (its':=a++[u]) b e (by simp) (r.append (.cons d .nil)) ?_,rfl,q⟩;rw[bF,fJ];omega
def XB:V->Aa V->Hp->VK->Prop:=λx d H Q=>∃ l b a c,x = .ref l/\d=[.ref b]/\H l=some (.l a)/\H b=some (.l c)/\a.length+c.length<=sizeLine/\Q .e (upd H l (.l (a++c)))
def Wo:V->Aa V->Hp->VK->Prop:=λx b H Q=>∃ l a i k y,x = .ref l/\b=[.int i]/\H l=some (.l a)/\-(2 ^ 63)<=i/\i<2 ^ 63/\seqIndex? i a.length=some k/\a[k]?=some y/\Q y (upd H l (.l (a.eraseIdx k)))
theorem Ud:Uf X "list.pop" Wo:=by
 intro d s O H x N v M Q I K G h;obtain⟨l,L,i,k,y,rfl,rfl,c,f,m,A,D,q⟩:=h;cases K;obtain⟨u,rfl,E⟩:=G.one;obtain⟨t,rfl⟩:=E;obtain⟨z,a,n,r,B,e⟩:=I.lstM c;obtain⟨w,hw,b⟩:=r.get D;refine iQ F.slot_list_pop ⟨_,e,rfl⟩ F.entry_list_pop (F.args_list_pop_2 _ _)
  (MeetsSeq.list_pop_at l a.toArray n i t k w (fitsIndex_both f m) (by rw[aZ,<- B];exact A) (by rw[<- dM];exact hw) (by rw[aZ];omega)) ⟨e,?_⟩
 refine⟨y,_,I.lset (its':=a.eraseIdx k) c e ?_ (r.eraseIdx k) ?_,b,q⟩
 .show a.toArray.eraseIdxIfInBounds k=(a.eraseIdx k).toArray;rw[List.eraseIdxIfInBounds_toArray]
 .have:=X8 L k;omega
def Rl:R2:=λx y H Q=>∃ l b a c,x = .ref l/\y = .ref b/\H l=some (.l a)/\H b=some (.l c)/\a.length+c.length<=sizeLine/\∀ p,H p=none->Q (.ref p) (upd H p (.l (a++c)))
theorem Dw:nC X (binaryOp .Add) Rl:=by
 intro d s M H x y v u Q I A B h;obtain⟨l,b,G,L,rfl,rfl,m,k,E,q⟩:=h;cases A;cases B;obtain⟨z,c,n,r,D,e⟩:=I.lstM m;obtain⟨K,a,F,w,t,f⟩:=I.lstM k;refine PySem.P.add_list e f ?_ (by rw[aZ,aZ];omega);have i:c.toArray++a.toArray=(c++a).toArray:=by simp
 rw[i];exact⟨.ref _,_,I.lnew (t':=s.toks) (r.append w) (by rw[bF];omega),rfl,q _ I.fresh⟩
def Td:R2:=λx y H Q=>∃ l k a,x = .ref l/\y = .int k/\H l=some (.l a)/\-(2 ^ 63)<=k/\k<2 ^ 63/\a.length*k.toNat<=sizeLine /\
 ∀ p,H p=none->Q (.ref p) (upd H p (.l (List.replicate k.toNat a).flatten))
theorem Z6 (g:Aa j) (k:Nat):(List.replicate k g).flatten.length=k*g.length:=by
 induction k with
 | zero=>simp
 | succ k a=>rw[dN,gU,bF,a,Nat.succ_mul,Nat.add_comm]
theorem NA:nC X (binaryOp .Mult) Td:=by
 intro E s V H x y v u Q I N O h;obtain⟨l,k,S,rfl,rfl,L,G,K,D,q⟩:=h;cases N;obtain⟨t,rfl⟩:=O;obtain⟨z,b,n,r,M,e⟩:=I.lstM L;have i:b.toArray.size*k.toNat<=sizeLine:=by rw[aZ,<- M];exact D
 have d:¬ b.toArray.size*k.toNat>(2 ^ 63-1)/8:=by
  have:(sizeLine:Nat)<=(2 ^ 63-1)/8:=by decide
  omega
 have f:¬ (!Builtin.List.listFitsIndex k)=true:=by
  rw[fitsIndex_both G K];exact aY
 have c:¬ Builtin.List.listTooLong (b.toArray.size*k.toNat)=true:=by
  rw[UJ i];exact aY
 have w:List.foldl (λA B=>A++B) #[] (List.replicate (if b.toArray.isEmpty=true then 0 else k.toNat) b.toArray)=(List.replicate k.toNat b).flatten.toArray:=by
  have f0:∀ m:Nat,List.foldl (λA B=>A++B) #[] (List.replicate m b.toArray)=(List.replicate m b).flatten.toArray:=λm=>by
   have:=Sx b m [];rw[fS] at this;exact this
  rw[f0];cases b with
  | nil=>simp
  | cons a R=>rw[aM (by simp)]
 refine wpAny_binaryOp_repeat_ref (T := "list") (U := "int") (by decide) ⟨_,e,rfl⟩ (λP=>typeIs_int P k t) noFill_list_mul F.fills_int_mul F.slot_int_rmul repeat_list F.slot_int_index.lookup
  (iQ F.slot_int_rmul (typeIs_int s k t) F.entry_int_rmul (F.args_int_rmul_2 _ _) (int___rmul___int_list k t l b.toArray n) ⟨e,rfl,⟨_,e,rfl⟩,iQ F.slot_list_mul ⟨_,e,rfl⟩ F.entry_list_mul (F.args_list_mul_2 _ _) (AutoListH.list___mul___list_int_3 l b.toArray n k t f d c) ⟨e,?_⟩⟩)
 rw[w];exact⟨.ref _,_,I.lnew (t':=s.toks) (r.rep k.toNat) (by rw[Z6,Nat.mul_comm];exact D),rfl,q _ I.fresh⟩
end
section
variable [DecidableEq κ]
noncomputable def qA (g:Aa (κ×V)) (k:κ):Ab V:=(g.find? λa=>decide (a.1=k)).map (·.2)
noncomputable def nR (g:Aa (κ×V)) (k:κ) (v:V):Aa (κ×V) :=
 if (g.any λa=>decide (a.1=k))=true then g.map (λa=>if a.1=k then (a.1,v) else a) else g++[(k,v)]
theorem Ec {p:κ×V}{r:Aa (κ×V)}{k:κ}(e:p.1=k):qA (p::r) k=some p.2:=by simp[qA,cS,e]
theorem Bq {p:κ×V}{r:Aa (κ×V)}{k:κ}(e:¬ p.1=k):qA (p::r) k=qA r k:=by simp[qA,cS,e]
theorem W9 (k:κ):∀ g:Aa (κ×V),(g.any λj=>decide (j.1=k))=(qA g k).isSome
 | []=>rfl
 | p::r=>by
  rw[eZ];by_cases e:p.1=k
  .simp only[Ec e,bE e,Bool.true_or,lJ]
  .rw[Bq e,bG e,Bool.false_or];exact W9 k r
theorem Eb (g:Aa (κ×V)) (k:κ) (v:V):(nR g k v).length<=g.length+1:=by
 unfold nR;split
 .rw[aA];omega
 .rw[bF,bQ,fU];omega
theorem uS.isSome_eq (r:uS o u):o.isSome=u.isSome:=by
 cases o with
 | none=>cases u with
  | none=>rfl
  | some _=>exact (show False from r).elim
 | some _=>cases u with
  | none=>exact (show False from r).elim
  | some _=>rfl
theorem uS.getD (r:uS o u) (rd:mX d g):mX (o.getD d) (u.getD g):=by
 cases o with
 | none=>cases u with
  | none=>exact rd
  | some _=>exact (show False from r).elim
 | some _=>cases u with
  | none=>exact (show False from r).elim
  | some _=>exact r
theorem KV.val (r:KV g j) (k:κ):uS (qA g k) (valueAt j k):=by
 unfold KV at r;induction r with
 | nil=>exact True.intro
 | @cons p q m c h t i =>
  obtain⟨d,f⟩:=h;by_cases e:p.1=k
  .have a:q.1=k:=d.symm.trans e;have b:valueAt (q::c) k=some q.2:=by simp[valueAt,cS,a]
   rw[Ec e,b];exact f
  .have a:¬ q.1=k:=λz=>e (d.trans z)
   have b:valueAt (q::c) k=valueAt c k:=by simp[valueAt,cS,a]
   rw[Bq e,b];exact i
theorem KV.any (r:KV j l) (k:κ):(j.any λg=>decide (g.1=k))=l.any λg=>decide (g.1=k):=by
 unfold KV at r;induction r with
 | nil=>rfl
 | cons h t a=>rw[eZ,eZ,a,h.1]
theorem KV.repl (r:KV j o) (k:κ) (l:mX y u) :
  KV (j.map λg=>if g.1=k then (g.1,y) else g) (o.map λg=>if g.1=k then (g.1,u) else g):=by
 unfold KV at r |-;induction r with
 | nil=>exact .nil
 | @cons p q d f h t c =>
  rw[aK,aK];refine .cons ?_ c;obtain⟨a,b⟩:=h;by_cases e:p.1=k
  .rw[aR e,aR (a.symm.trans e)];exact⟨a,l⟩
  .rw[aM e,aM (λz=>e (a.trans z))];exact⟨a,b⟩
theorem KV.put (r:KV g l) (k:κ) (j:mX y u):KV (nR g k y) (stored l k u):=by
 unfold nR stored;rw[r.any k];by_cases e:(l.any λa=>decide (a.1=k))=true
 .rw[aR e,aR e];exact r.repl k j
 .rw[aM e,aM e];exact Paired.snoc r ⟨rfl,j⟩
theorem KV.length (r:KV g j):g.length=j.length:=eU r
end
theorem zK {P:Ah}(r:mX (kV k) u):(pK P w).is k u=true:=by
 cases k with
 | inl i=>obtain⟨t,e⟩:=(show ∃ t,u=Value.int i t from r);subst e;exact EO P w i t
 | inr x=>obtain⟨t,e⟩:=(show ∃ t,u=Value.str x t from r);subst e;exact NW P w x t
theorem Nj {P:Ah}:∀ {g:Aa dT}{j:Aa Ac},mV (g.map kV) j->ItemsAre (pK P w) g j
 | [],_,r=>by rw[lC] at r;cases r;exact .nil
 | k::g,_,r=>by
  rw[aK] at r;cases r with
  | cons h t=>exact .cons (zK h) (Nj t)
abbrev KT (H:Hp):Aa (Aa dT×V)->Aa (Aa dT×Ad×Ac)->Prop:=Paired λp q=>p.1=q.1/\H q.2.1=some (.t (p.1.map kV))/\mX p.2 q.2.2
theorem KT.val (r:KT H g j) (k:Aa dT):uS (qA g k) ((atKey j k).map (·.2)):=by
 induction r with
 | nil=>exact True.intro
 | @cons p q m c h t i =>
  obtain⟨d,_,f⟩:=h;by_cases e:p.1=k
  .have a:q.1=k:=d.symm.trans e;have b:atKey (q::c) k=some q.2:=by simp[atKey,cS,a]
   rw[Ec e,b];exact f
  .have a:¬ q.1=k:=λz=>e (d.trans z)
   have b:atKey (q::c) k=atKey c k:=by simp[atKey,cS,a]
   rw[Bq e,b];exact i
theorem KT.repl (r:KT H j o) (k:Aa dT) (l:mX y u) :
  KT H (j.map λg=>if g.1=k then (g.1,y) else g) (o.map (putAt k u)):=by
 induction r with
 | nil=>exact .nil
 | @cons p q f i h t d =>
  rw[aK,aK];refine .cons ?_ d;obtain⟨a,b,c⟩:=h;unfold putAt;by_cases e:p.1=k
  .rw[aR e,aR (a.symm.trans e)];exact⟨a,b,l⟩
  .rw[aM e,aM (λz=>e (a.trans z))];exact⟨a,b,c⟩
theorem KT.put (r:KT H g j) (k:Aa dT) (o:H b=some (.t (k.map kV))) (l:mX y u) :
  KT H (nR g k y) (storedH j k b u):=by
 have e:(g.any λa=>decide (a.1=k))=(atKey j k).isSome:=by
  rw[W9,(r.val k).isSome_eq,lR]
 unfold nR storedH;rw[e];by_cases q:(atKey j k).isSome=true
 .rw[aR q,aR q];exact r.repl k l
 .rw[aM q,aM q];exact Paired.snoc r ⟨rfl,o,l⟩
theorem KT.keeps (r:KT H g p) (o:∀ b j,H b=some (.t j)->l b=some (.t j)):KT l g p :=
 Paired.mapP r λ_ _ z=>⟨z.1,o _ _ z.2.1,z.2.2⟩
section
variable {P:Ah}
theorem Md (ok:oC P w H h) (e:Rd H a u):nT P w H h a u:=e.ok ok
theorem yM (ok:oC P w H h) (e:Rd H a (.k g)):g.length<=sizeLine/\(a == sysModules)=false/\∃ j,KV g j/\h.DictOf (pK P w) a j :=
 show nT P w H h a (.k g) from Md ok e
theorem Fc (ok:oC P w H h) (e:H a=some (.k g)):g.length<=sizeLine/\(a == sysModules)=false/\∃ j,KV g j/\h.DictOf (pK P w) a j:=yM ok (.inl e)
theorem Au (ok:oC P w H h) (e:H a=some (.t (g.map kV))):(tupleKind (pK P w)).is h g a:=by
 obtain⟨_,b,r,⟨o,c,d,n,f⟩,_⟩:=(show nT P w H h a (.t (g.map kV)) from ok a _ e);exact⟨o,b.toArray,n,c,d,f,by simpa using Nj r⟩
theorem zA (ok:oC P w H h) (e:Rd H a (.T g)):g.length<=sizeLine/\(a == sysModules)=false /\
  ∃ j,KT H g j/\h.DictOfH (tupleKind (pK P w)) a j:=by
 obtain⟨z,y,j,r,o,f,d,i,k,n,s,u⟩:=(show nT P w H h a (.T g) from Md ok e);refine⟨z,y,j,r,o,f,d,i,k,n,s,λx b=>?_,u⟩;have all:∀ {l:Aa (Aa dT×V)} {m:Aa (Aa dT×Ad×Ac)},KT H l m->∀ x∈m,(tupleKind (pK P w)).is h x.1 x.2.1:=by
  intro l m q;induction q with
  | nil=>intro x b;exact nomatch b
  | @cons p q A B c t v =>
   intro x b;rcases aO.mp b with e | b
   .subst e;exact Au ok (by rw[<- c.1];exact c.2.1)
   .exact v x b
 exact all r x b
theorem R6 (ok:oC P w H h) (e:H a=some (.T g)):g.length<=sizeLine/\(a == sysModules)=false /\
  ∃ j,KT H g j/\h.DictOfH (tupleKind (pK P w)) a j:=zA ok (.inl e)
end
def qY (H:Hp) (a:Ad) (y:V) (r:Ab V):Prop :=
 (∃ c k,Rd H a (.k c)/\y=kV k/\r=qA c k)\/∃ c k b,Rd H a (.T c)/\y = .ref b/\H b=some (.t (k.map kV))/\r=qA c k
def wZ (H:Hp) (a:Ad) (y v:V) (g:Hp):Prop :=
 (∃ c k,H a=some (.k c)/\y=kV k/\c.length<sizeLine/\g=upd H a (.k (nR c k v))) \/
 ∃ c k b,H a=some (.T c)/\y = .ref b/\H b=some (.t (k.map kV))/\c.length<sizeLine/\g=upd H a (.T (nR c k v))
theorem qY.k {k:dT}(e:H a=some (.k g)):qY H a (kV k) (qA g k):=.inl ⟨g,k,.inl e,rfl,rfl⟩
theorem wZ.k {k:dT}(e:H a=some (.k g)) (j:g.length<sizeLine):wZ H a (kV k) v (upd H a (.k (nR g k v))):=.inl ⟨g,k,e,rfl,j,rfl⟩
theorem wZ.t {H:Hp}{a b:Ad}{g:Aa (Aa dT×V)}{k:Aa dT}{v:V}(e:H a=some (.T g)) (j:H b=some (.t (k.map kV))) (l:g.length<sizeLine) :
  wZ H a (.ref b) v (upd H a (.T (nR g k v))):=.inr ⟨g,k,b,e,rfl,j,l,rfl⟩
section
variable {X:Cx}
theorem Inv.big (I:Inv X g j H s):sysModules<s.heap.objs.size:=by
 have h:mainGlobals<s.heap.objs.size:=(I.mod.glob.keeps I.bk).lt;exact Nat.lt_trans (by decide) h
theorem Op (T:A.units+1<cLine) (I:Inv X r U H s) (g:qY H a y (some v)) (C:mX y u) (h:∀ j J,Inv X r U H J->mX v j->Q j J) :
  wpAny (model X.prog X.w) A (getItem (.ref a) u) Q E s:=by
 rcases g with⟨m,k,e,f,l⟩ | ⟨m,k,b,e,f,n,l⟩
 .subst f;obtain⟨z,hd,t,rel,d⟩:=yM I.hok e;obtain⟨j,hw,c⟩:=uS.some_of (v:=v) (o:=valueAt t k) (by rw[l];exact rel.val k);exact wpAny_getItem_of (zK C) d.mapOf hw (h j _ (I.tok _) c)
 .subst f;cases (show u=Value.ref b from C);obtain⟨z,hd,x,rel,d⟩:=zA I.hok e;obtain⟨j,hw,c⟩:=uS.some_of (v:=v) (o:=(atKey x k).map (·.2)) (by rw[l];exact rel.val k);obtain⟨p,q,i⟩:=cK.mp hw;refine wpAny_getItem_heap (gF T) (Au I.hok n) d q ?_;rw[i];exact h j _ (I.tok _) c
theorem BH (C:A.units+1<cLine) (I:Inv X j J H s) (g:qY H a y o) (p:mX y u) (h:∀ r,Inv X j J H r->Q (.bool o.isSome) r) :
  wpAny (model X.prog X.w) A (compareOp .In u (.ref a)) Q E s:=by
 rcases g with⟨f,k,e,d,l⟩ | ⟨f,k,b,e,d,i,l⟩
 .subst d;obtain⟨z,hd,m,rel,c⟩:=yM I.hok e;refine wpAny_in_of (zK p) hd c.mapOf ?_;rw[<- (rel.val k).isSome_eq,<- l];exact h _ (I.tok _)
 .subst d;cases (show u=Value.ref b from p);obtain⟨z,hd,n,rel,c⟩:=zA I.hok e;refine wpAny_in_heap (gF C) (Au I.hok i) hd c ?_;have q:=(rel.val k).isSome_eq;rw[lR] at q;rw[<- q,<- l];exact h _ (I.tok _)
theorem Ss (C:A.units+1<cLine) (I:Inv X j J H s) (g:qY H a y o) (p:mX y u) (h:∀ r,Inv X j J H r->Q (.bool (!o.isSome)) r) :
  wpAny (model X.prog X.w) A (compareOp .NotIn u (.ref a)) Q E s:=by
 rcases g with⟨f,k,e,d,l⟩ | ⟨f,k,b,e,d,i,l⟩
 .subst d;obtain⟨z,hd,m,rel,c⟩:=yM I.hok e;refine wpAny_notIn_of (zK p) hd c.mapOf ?_;rw[<- (rel.val k).isSome_eq,<- l];exact h _ (I.tok _)
 .subst d;cases (show u=Value.ref b from p);obtain⟨z,hd,n,rel,c⟩:=zA I.hok e;refine wpAny_notIn_heap (gF C) (Au I.hok i) hd c ?_;have q:=(rel.val k).isSome_eq;rw[lR] at q;rw[<- q,<- l];exact h _ (I.tok _)
theorem Hn (I:Inv X g r H s) (p:Cz (H a)) (o:Heap.SameBut a s.heap j) (l:∃ q,j.get? a=some q) (new:nT X.prog X.w (upd H a ob) j a ob) :
  Inv X g r (upd H a ob) { s with heap:=j,toks:=C } :=
 I.write (x:=a) (e:=a) p (.inl rfl) (λb q c z=>(o.2 b c).trans z) l new
theorem Dh {P:Ah}(z:g.length<=sizeLine) (hd:(a == sysModules)=false) (rel:KV g j) (l:o.DictOf (pK P w) a j) :
  nT P w p o a (.k g):=⟨z,hd,j,rel,l⟩
theorem Pl (T:A.units+1<cLine) (I:Inv X j U H s) (g:wZ H a y v J) (p:mX y u) (o:mX v r) (h:∀ C,Inv X j U J C->Q () C) :
  wpAny (model X.prog X.w) A (setItem (.ref a) u r) Q E s:=by
 rcases g with⟨d,k,e,t,l,n⟩ | ⟨d,k,b,e,t,F,l,n⟩
 .subst t n;obtain⟨z,hd,V,rel,m⟩:=Fc I.hok e;have D:V.length<=sizeLine:=by rw[<- rel.length];exact z
  have x:(nR d k v).length<=sizeLine:=by have:=Eb d k v;omega
  refine wpAny_setItem_pairs (hsz:=D) (zK p) m λK f B=>h _ ?_
  have S:∃ q,K.get? a=some q:=let ⟨q,_,_,i,_⟩:=f;⟨q,i⟩;exact Hn I (by rw[e];exact True.intro) B S (Dh x hd (rel.put k o) f)
 .subst t n;cases (show u=Value.ref b from p);obtain⟨z,hd,W,rel,m⟩:=R6 I.hok e;have D:W.length<=sizeLine:=by rw[<- eU rel];exact z
  have x:(nR d k v).length<=sizeLine:=by have:=Eb d k v;omega
  refine wpAny_setItem_heap (hsz:=D) (gF T) (Au I.hok F) m λK f B=>h _ ?_
  obtain⟨q,M,L,i,N,O,P,_,R⟩:=f;refine Hn I (by rw[e];exact True.intro) B ⟨q,i⟩ ⟨x,hd,_,(rel.put k F o).keeps λc Y G=>?_,q,M,L,i,N,O,P,R⟩;rw[mQ (JT G e (λz=>nomatch z))];exact G
end
section
variable {X:Cx}
theorem BN (I:Inv X g o H s) (e:Rd H a (.k j)) (h:∀ t l,Inv X g o H l->Q (.int j.length t) l):wpAny (model X.prog X.w) A (call (.builtin "len") [.ref a]) Q E s:=by
 obtain⟨z,hd,c,rel,b⟩:=yM I.hok e;refine call_len_dict hd b (by rw[<- rel.length];rw[kQ] at z;omega) ?_;rw[<- rel.length];exact h _ _ (I.tok _)
end
def Rp (i:Expr):Prop:=∀ b a,subscripted i false b a=operate [b,a] (getItem b a)
theorem OG {id:String}
  (C:typeLookup (.type T) "__getitem__" = pure (some (.builtin id))) (I:Rp slice)
  (h:wpAny (model g w) A (eval value p) (λo l=>wpAny (model g w) A (eval slice p) (λi j=>j.TypeIs o T/\wpAny (model g w) A (getItem o i) Q E j) E l) E s) :
  wpAny (model g w) A (eval (.Subscript value slice pos) p) Q E s:=by
 refine Subscript_ (cV h (λo l c=>cV c (λi j a=>?_) λ_ _ x=>x) λ_ _ x=>x);obtain⟨e,a⟩:=a;unfold subscriptTail;refine aB ?_;rw[getitemInPython_of_ne e.not_modules];refine aB (jH e C ?_);have fin:wpAny (model g w) A (subscripted slice false o i) (λr b=>wpAny (model g w) A (letTemporaryGo value o r >>= λ_=>pure r) Q E b) E j:=by
  rw[I o i];exact wpAny_operating (cV a (λr b d=>aB (wpAny_letTemporaryGo (aE d))) λ_ _ x=>x)
 first
  | exact aE (aB fin)
  | exact aB (aE (aB fin))
  | exact aB fin
theorem M9 {X:Cx}(I:Inv X j l H s) (g:qY H a y o):s.TypeIs (.ref a) "dict" := by
 rcases g with⟨d,k,e,_,_⟩ | ⟨d,k,b,e,_,_,_⟩
 .obtain⟨_,_,f,_,c⟩:=yM I.hok e;exact c.typeIs
 .obtain⟨_,_,h,_,c⟩:=zA I.hok e;exact c.typeIs
def Z8 (g ty:TE):TE:=λc H Q=>g c H λx d=>ty c d λy b=>∃ a v,x = .ref a/\qY b a y (some v)/\Q v b
def HQ (ty g:TE):TE:=λd H Q=>ty d H λy e=>g d e λx c=>∃ a o,x = .ref a/\qY c a y o/\Q (.b (!o.isSome)) c
def EL (g ty j:TE) (rd:V->V->Hp->VK->Prop):TS:=λD b H=>g b H λx e=>ty b e λy c=>∃ a v,x = .ref a/\qY c a y (some v) /\
 j b c λi f=>rd v i f λz h=>∃ d,wZ h a y z d/\D.nx b d
section
variable {X:Cx}
theorem Rc (r:X.A.units+1<cLine) (l:PE X o C) (j:PE X i ty) (p:Rp i):PE X (.Subscript o i pos) (Z8 C ty):=by
 intro b s f H Q I h;refine OG PySem.F.slot_dict_getitem.lookup p (mM (l b s f H _ I h) λu E ⟨x,k,n,B,w⟩=>mM (j b E f k _ n w) λG K c=>?_);obtain⟨y,m,e,D,a,v,t,g,z⟩:=c;subst t;obtain rfl:u=Value.ref a:=B;exact⟨M9 e g,Op r e g D λM L q d=>⟨v,m,q,d,z⟩⟩
theorem AQ (p:X.A.units+1<cLine) (j:PE X i ty) (l:PE X o r):PC X .NotIn i o (HQ ty r):=by
 intro c s e H Q I h;refine mM (j c s e H _ I h) λF E ⟨y,f,m,D,w⟩=>mM (l c E e f _ m w) λu G d=>?_
 obtain⟨x,k,n,B,a,v,t,g,z⟩:=d;subst t;obtain rfl:u=Value.ref a:=B;exact Ss p n g D λK q=>⟨.b (!v.isSome),k,q,rfl,z⟩
theorem SQ (r:X.A.units+1<cLine) (U:PE X o td) (T:PE X i ty) (hv:PE X value tv) (p:Rb X op rd)
  (J:∀ l j new,augStore i l j new=(do holding [new,l,j] (setItem l j new);release [new,l,j] [];pure .next)):PS X (.AugAssign (.Subscript o i C) op value pos) (EL td ty tv rd):=by
 intro b s d H D I h;refine wpAny_AugAssign_SubscriptAny (mM (U b s d H _ I h) λu V ⟨x,m,w,R,N⟩=>mM (T b V d m _ w N) λj s2 c=>?_) J;obtain⟨y,n,B,k,a,v,L,g,O⟩:=c;subst L;obtain rfl:u=Value.ref a:=R;refine Op r B g k λZ W E e=>mM (hv b W d n _ E O) λw2 Y ⟨y2,q,F,f,P⟩=>mM (p b Y d q v y2 Z w2 _ F e f P) λw3 s5 c=>?_
 obtain⟨z,H4,G,S,t,M,Q⟩:=c;exact Pl r G M k S λs6 K=>⟨d,t,K,Q⟩
end
theorem MF {P:Ah}(h:Ag) (g:sysModules<h.objs.size):nT P w H (h.push { cls:=.type "dict",data:=.dict #[] }) h.objs.size (.k []) :=
 ⟨dF _,cY.mpr (eI (bK g)),[],.nil,Heap.DictOf.new h⟩
theorem JO {P:Ah}(h:Ag) (g:sysModules<h.objs.size):nT P w H (h.push { cls:=.type "dict",data:=.dict #[] }) h.objs.size (.T []) :=
 ⟨dF _,cY.mpr (eI (bK g)),[],.nil,_,#[],0,bB _ rfl,⟨rfl,rfl,rfl⟩,rfl,rfl,fE⟩
def Y8:TE:=λ_ H Q=>∀ p,H p=none->Q (.ref p) (upd H p (.k []))
def UC:TE:=λ_ H Q=>∀ p,H p=none->Q (.ref p) (upd H p (.T []))
section
variable {X:Cx}
theorem WX:PE X (.Dict [] [] pos) Y8:=λb s c H Q I h =>
 wpAny_Dict_empty ⟨.ref s.heap.objs.size,_,I.laid (a:=s.heap.objs.size) (o:=.k []) (t':=s.toks) (λ_ _ q=>aG _ q) (aW _) (MF s.heap I.big),rfl,h _ (I.hok.fresh (aW _))⟩
theorem CA:PE X (.Dict [] [] pos) UC:=λb s c H Q I h =>
 wpAny_Dict_empty ⟨.ref s.heap.objs.size,_,I.laid (a:=s.heap.objs.size) (o:=.T []) (t':=s.toks) (λ_ _ q=>aG _ q) (aW _) (JO s.heap I.big),rfl,h _ (I.hok.fresh (aW _))⟩
end
def rY (g more:Aa (dT×V)):Aa (dT×V):=more.foldl (λa b=>nR a b.1 b.2) g
theorem KV.merge:∀ {more:Aa (dT×V)}{l:Aa (dT×Ac)}{g:Aa (dT×V)}{j:Aa (dT×Ac)},KV more l->KV g j->KV (rY g more) (merged j l):=by
 intro more l g j r;unfold KV at r;induction r generalizing g j with
 | nil=>intro q;exact q
 | @cons p q c d h t a =>
  intro b;have e:KV (nR g p.1 p.2) (stored j q.1 q.2):=by
   have:=b.put p.1 h.2;rw[<- h.1];exact this
  exact a e
theorem Gi:∀ (more g:Aa (dT×V)),(rY g more).length<=g.length+more.length
 | [],g=>by show g.length<=g.length+0;omega
 | p::r,g=>by
  have a:=Gi r (nR g p.1 p.2);have b:=Eb g p.1 p.2;show (rY (nR g p.1 p.2) r).length<=_;rw[bQ];omega
structure M2 (X:Cx) (o:Expr) (m:Str) (apos:Pos) (e f:Expr) (cpos:Pos):Prop where
 base:attributeBase o m X.env (eval o X.env)=eval o X.env
 few:((backTo cpos (starEach [e,f] X.env)).all (λx=>!x.1)&&(backToKw cpos (keywordEach [] X.env)).all (λx=>x.1.isSome) && decide (([e,f]:List Expr).length+([]:List Keyword).length+(if ([]:List Keyword).isEmpty then 0 else 1)<30))=true
 line:(apos.endLine == cpos.line)=true
 trees:backTo cpos (starEach [e,f] X.env)=[(false,eval e X.env),(false,eval f X.env)]
def Jz (H:Hp) (a:Ad):Prop:=(∃ b,Rd H a (.k b))\/∃ b,Rd H a (.T b)
theorem MY {X:Cx}(I:Inv X j l H s) (d:Jz H a) :
  s.TypeIs (.ref a) "dict" /\ (∀ b,Value.ref a = .ref b->∃ g,s.heap.get? b=some g/\g.dict=none)/\(a == sysModules)=false:=by
 rcases d with⟨i,e⟩ | ⟨i,e⟩
 .obtain⟨_,hd,k,_,c⟩:=yM I.hok e;refine⟨c.typeIs,λb q=>?_,hd⟩;cases q;obtain⟨g,_,_,f,h,_⟩:=c;exact⟨g,f,h.2.1⟩
 .obtain⟨_,hd,m,_,c⟩:=zA I.hok e;refine⟨c.typeIs,λb q=>?_,hd⟩;cases q;obtain⟨g,_,_,f,h,_⟩:=c;exact⟨g,f,h.2.1⟩
section
variable {X:Cx}
theorem DP (T:A.units+1<cLine) (I:Inv X j U H s) (g:qY H a y o) (p:mX y u) (rd:mX d r) (h:∀ J C,Inv X j U H C->mX (o.getD d) J->Q J C) :
  wpAny (model X.prog X.w) A (call (.builtin "dict.get") [.ref a,u,r]) Q E s:=by
 rcases g with⟨i,k,e,f,l⟩ | ⟨i,k,b,e,f,m,l⟩
 .subst f;obtain⟨z,hd,q,rel,c⟩:=yM I.hok e;refine call_meetsIn kB c.typeIs PySem.F.entry_dict_get (PySem.F.args_dict_get_3 _ _ _) (meets_dict_get_default (pK X.prog X.w) a (zK p) hd r) ⟨_,c.mapOf,h _ _ (I.tok _) ?_⟩;rw[l];exact (rel.val k).getD rd
 .subst f;cases (show u=Value.ref b from p);obtain⟨z,hd,n,rel,c⟩:=zA I.hok e;refine call_meetsIn kB c.typeIs PySem.F.entry_dict_get (PySem.F.args_dict_get_3 _ _ _) (meetsH_dict_get_default (tupleKind (pK X.prog X.w)) a b hd r) ⟨gF T,k,n,Au I.hok m,c,h _ _ (I.tok _) ?_⟩;rw[l];exact (rel.val k).getD rd
end
def JE (g ty j:TE):TE:=λb H Q=>g b H λx c=>∃ a,x = .ref a/\Jz c a/\ty b c λy e=>j b e λz d=>∃ o,qY d a y o/\Q (o.getD z) d
section
variable {X:Cx}
theorem Qe (C:X.A.units+1<cLine) (r:PE X o J) (l:PE X e ty) (p:PE X f T) (m:M2 X o "get" apos e f j):PE X (.Call (.Attribute o "get" apos) [e,f] [] j) (JE J ty T):=by
 intro b s k H Q I h;refine wpAny_Call_method m.base m.few m.line hZ kB PySem.F.type_dict_get (mM (r b s k H _ I h) λu P c=>?_);obtain⟨x,q,n,M,a,E,d,G⟩:=c;subst E;obtain rfl:u=Value.ref a:=M;obtain⟨S,V,_⟩:=MY n d;refine⟨S,V,?_⟩;rw[m.trees];refine Calls.callWith_builtin rfl (Calls.evalArgs_plain (iE (mM (l b P k q _ n G) λY R ⟨y,t,w,N,K⟩ =>iE (mM (p b R k t _ w K) λW U ⟨z,v,B,O,Z,g,L⟩=>jT ?_))));exact DP C B g N O λw' s4 D i=>⟨_,v,D,i,L⟩
end
section
variable {X:Cx}
theorem OY (I:Inv X j r H s) (e:Rd H a (.k g)) (h:∀ p l,H p=none->Inv X j r (upd H p (.k g)) l->Q (.ref p) l):wpAny (model X.prog X.w) A (call (.type "dict") [.ref a]) Q E s:=by
 obtain⟨z,hd,n,rel,f⟩:=yM I.hok e;refine kt_call_dict hd f (by rw[<- rel.length];exact z) λm c i=>?_
 refine h _ _ (I.hok.fresh (aW _)) (I.laid (a:=s.heap.objs.size) (o:=.k g) (t':=s.toks) (λb q d=>?_) (aW _) (Dh z (cY.mpr (eI (bK I.big))) rel c));exact (i.2 b (bK (bA d))).trans (aG _ d)
end
end L2
namespace Att
open PySem PySem.W PySem.Calls PyProof.Rows
theorem SX {P:Params}:∀ (g:Aa Int) (j:Aa Ac),WellAll P h j (g.map WData.int)->IntsAre j g:=by
 intro g;induction g with
 | nil =>
  intro j w;rw[lC] at w;cases w;exact .nil
 | cons n g c =>
  intro j w;rw[aK] at w;cases w with
  | cons a b =>
   cases a;exact .cons _ _ (c _ b)
theorem QJ {l:OpenLaw}(I:l.most=some n){P:Params}
  (j:l.row.toRowW.claim.pre args=true) (p:WellAll P h o args) :
  ∃ a C g,o=[Value.ref a]/\args=[WData.list (g.map WData.int)]/\h.get? a=some { cls:=.type "list",data:=.seq C.toArray }/\IntsAre C g/\g.length<=n:=by
 have i:WShape.hasAll [] args [.list .int]=true:=(pre_splitW j).1;have k:l.pre.holds [] { args:=args }=true:=(pre_splitW j).2;obtain⟨d,r,rfl,m,s⟩:=hasAllW_cons i;obtain rfl:=hasAllW_nil s;obtain⟨y,rfl,t⟩:=hasW_list m;obtain⟨g,rfl⟩:=items_int t;have c:g.length<=n:=by
  unfold OpenLaw.pre at k;have e:(WTm.not (.lt (.lit (.int (n:Int))) (.len (.arg 0)))).holds [] { args:=[.list (g.map .int)] }=true:=by
   have e:=(holds_andW k).1;rw[I] at e;exact e
  have f:=condW_of e (w_not (w_lt w_lit (w_len_list (w_arg rfl))));rw[aA] at f;refine Nat.le_of_not_lt λq=>?_
  have v:(n:Int)<((g.length:Nat):Int):=by omega
  first
   | (rw[bE v] at f;exact absurd f (by decide))
   | (simp at f;omega)
 cases p with
 | cons w x =>
  cases x;cases w with
  | list u b=>exact⟨_,_,g,rfl,rfl,u,SX g _ b,c⟩
theorem FA (l:OpenLaw) (args:Aa WData):l.row.toRowW.claim.post args (.bool true) args=true :=
 postW_of (r:=l.row.toRowW) (X:=(true == true))
  (show WShape.has [] (.bool true) .bool=true by first | rfl | decide | simp[WShape.has,WShape.arms,WShape.armsAll])
  (show (WTm.eq .res (.lit (.bool true))).value [] { args:=args,res:=some (.bool true),after:=args }=some (.bool (true == true)) from w_eq_bool (w_res rfl) w_lit) rfl
theorem attach_call {l:OpenLaw}
  (hn:l.most=some n) (aa:d.params.defaults=[])
  (call:∀ (w:World) (j g:Ae) (T mb:Af->Ab Ac) (J:Ad) (o:Obj) (pm cd p:Ac) (a:Ad) (I:Aa Ac) (U:Aa Int),Ground q C [] XP w j T mb g.heap->YP w g.heap ->g.heap.get? J=some o->o.data = .func (docDef d.name d.params d.body d.scope pm cd p)->g.heap.CodeRec cd d.name->T d.name=some (.ref J) ->g.heap.get? a=some { cls:=.type "list",data:=.seq I.toArray }->IntsAre I U->U.length<=n->g.gens=#[] ->
   codeAny (model l.prog w) callerA (.call (.ref J) ⟨[.ref a],[]⟩) (λr s'=>r = .ok (.ret (.bool true))/\OldK g.heap s'.heap/\s'.os=g.os/\AllBare s'.gens) g) :
  WalkO q C XP YP l.row.toRowW d [] (λf I=>PySem.call f I):=by
 intro w j g T mb G Y J o pm cd p v kV E hd i s k A args u as h t H m B;obtain rfl:v = .none:=Dflts.none s aa;obtain rfl:kV = .none:=Dflts.noKw s;obtain⟨a,I,U,rfl,rfl,e,b,c⟩:=QJ hn h m;refine enter_call (codeAny_mono (call w j g T mb J o pm cd p a I U G Y E (fd_plain hd) i k e b c A) λr s' F=>?_);obtain⟨rfl,x,y,z⟩:=F;exact⟨.inl ⟨.bool true,.bool true,[],rfl,λ_=>rfl,.bool true,FA l _,λ_=>⟨List.Pairwise.nil,λ_ D=>(nomatch D)⟩⟩,x,y,z⟩
end Att
namespace L2
open PySem PySem.Spec PyProof.Rows
theorem Wy:∀ {j:Aa Ac}{g:Aa Int},IntsAre j g->mV (g.map V.int) j
 | _,_,.nil=>.nil
 | _,_,.cons n t h=>.cons ⟨t,rfl⟩ (Wy h)
def Lu (H:Hp):Prop:=∀ b,H b=none\/∃ o a,H b=some (.frz o (.l a))
theorem MZ {P:Ah}{K:mH}
  (KX:K.In g.heap) (T:g.heap.Ns mainGlobals mg) (j:g.heap.Ns builtinsNs mb) (ab:∀ x:Af,x ≠ "__name__" -> mb x=bootBuiltins x) (J:g.heap.NoLimit) (hg:g.gens=#[])
  (U:g.heap.get? a=some { cls:=.type "list",data:=.seq I.toArray }) (hi:IntsAre I ns) (hl:ns.length<=sizeLine) (hr:Room k callerA)
  (F:∀ base:Ag,K.In base->base.Ns mainGlobals mg->FnOk P w K mg base CX k fa fd [x] sp) (C:∀ (s:Ae) (u:Ac),BindsTo s fd ⟨[u],[]⟩ [(x,u)])
  (ac:∀ H:Hp,Lu H->mK K H a (ns.map V.int)->sp [.ref a] H (λv _=>v = .b true) λ_ _ _=>False)
  (aa:∀ H e p,CX [] H g (λ_ _ _=>False) e p->False) :
  codeAny (model P w) callerA (.call (.ref fa) ⟨[.ref a],[]⟩) (λr p=>r = .ok (.ret (.bool true))/\OldK g.heap p.heap/\p.os=g.os/\AllBare p.gens) g:=by
 have R:=Wy hi;have D:=hi.length;have core:∀ H:Hp,Lu H->mK K H a (ns.map V.int)->oC P w H g.heap->(∀ b,H b≠none->b=a)->(H a≠none->K.lookup a=none) ->
   codeAny (model P w) callerA (.call (.ref fa) ⟨[.ref a],[]⟩) (λr p=>r = .ok (.ret (.bool true))/\OldK g.heap p.heap/\p.os=g.os/\AllBare p.gens) g:=by
  intro H Q hS A O hK;have c:∀ {b:Ad} {o:Obj},g.heap.get? b=some o->H b=none->(yH g.heap H).get? b=some o:=λe n=>EC e n
  have M:∀ {b:Ad} {o:Obj} {t:Array DictEntry} {i:Nat},g.heap.get? b=some o->o.data = .dict t i->H b=none:=λ{b o t i} e d=>by
   cases q:H b with
   | none=>rfl
   | some u =>
    have G:b=a:=O b (by rw[q];simp);subst G;rw[U] at e;cases e;have S:Data.seq I.toArray _=Data.dict t i:=d;cases S
  have f:∀ {b:Ad} {m:Af->Ab Ac},g.heap.Ns b m->(yH g.heap H).Ns b m:=λ{b m} ⟨o,t,i,e,d,r⟩=>⟨o,t,i,c e (M e d),d,r⟩
  have y:K.In (yH g.heap H):=λb o e=>c (KX b o e) (by
   cases q:H b with
   | none=>rfl
   | some u =>
    have G:b=a:=O b (by rw[q];simp);subst G;rw[hK (by rw[q];simp)] at e;cases e)
  have hM:Mod K mg (yH g.heap H):=⟨y,f T,⟨mb,f j,ab⟩,let ⟨mc,Z,h2⟩:=J;⟨mc,f Z,h2⟩⟩;have W:Env0 P w K mg (yH g.heap H) callerA [] g H:=⟨rfl,hM,λb o e=>AL e,lY (MU _ _),trivial,λb j=>absurd (show b∈([]:Aa Ad) from j) (by simp),A,.of_eq hg⟩;refine codeAny_mono ((F _ y (f T)).run callerA [] g H ⟨[.ref a],[]⟩ [.ref a] [.ref a] _ _ hr W (C g (.ref a)) (.cons rfl .nil) (ac H Q hS)) λr p h=>?_
  cases r with
  | error e=>exact (aa H e p h).elim
  | ok Y =>
   cases Y with
   | next=>exact False.elim h
   | brk=>exact False.elim h
   | cont=>exact False.elim h
   | ret u =>
    obtain⟨v,H',os,bare,un,B,r',q⟩:=h;have q':v = .b true:=q;subst q';obtain rfl:u=Value.bool true:=r';refine⟨rfl,OldK.of_keep λb o e=>?_,os,bare⟩;cases q:H b with
    | none=>exact un.keep b o e q (by intro z;exact absurd (show b∈([]:Aa Ad) from z) (by simp)) (by simp)
    | some u =>
     rcases Q b with z | ⟨ob,xs,z⟩
     .rw[q] at z;cases z
     .have z2:=un.frzs b ob _ z;obtain⟨N,_⟩:=A b _ z;obtain⟨X,_⟩:=B b _ z2;rw[e] at N;cases N;exact X
 cases L:K.lookup a with
 | some o =>
  have e:=KX a o L;rw[U] at e;cases e;refine core (λ_=>none) (λ_=>.inl rfl) (.inr ⟨_,I.toArray,_,L,rfl,rfl,rfl,by rw[aZ,D];exact hl,by simpa using R⟩) (λb u z=>by have E:(none:Ab HO)=some u:=z;cases E) (λb z=>absurd rfl z) λz=>absurd rfl z
 | none =>
  refine core (λb=>if b=a then some (.frz { cls:=.type "list",data:=.seq I.toArray } (.l (ns.map V.int))) else none) (λb=>?_) (.inl (.inr ⟨{ cls:=.type "list",data:=.seq I.toArray },aR rfl⟩)) (λb u z=>?_) (λb z=>?_) λ_=>L
  .by_cases j:b=a
   .exact .inr ⟨_,_,aR j⟩
   .exact .inl (aM j)
  .by_cases j:b=a
   .have E:=(aR j).symm.trans z;cases E;subst j;exact⟨U,by rw[aA];exact hl,I,_,R,U⟩
   .have E:=(aM j).symm.trans z;cases E
  .by_cases j:b=a
   .exact j
   .exact absurd (aM j) z
theorem walk_of {l:PySem.W.OpenLaw}{n k:Nat}{q:Ah}{j:Aa Af}{XP:(Af->Ab Ac)->Ag->Prop}{YP:World->Ag->Prop}{d:DefRec}{K:Params->mH}{CX:World->B0}{sp:World->Sp}{x:Af}
  (hn:l.most=some n) (U:n<=sizeLine) (J:d.params.defaults=[]) (hr:Room k callerA)
  (hY:∀ (w:World) (h:Ag),YP w h->(K w.params).In h)
  (F:∀ (w:World) (p:Af->Ab Ac) (r:Ad) (h:Ag),(K w.params).In h->h.Ns mainGlobals p->p d.name=some (.ref r) ->∃ fd:FuncData,(∀ (s:Ae) (u:Ac),BindsTo s fd ⟨[u],[]⟩ [(x,u)]) /\ ∀ base:Ag,(K w.params).In base->base.Ns mainGlobals p->FnOk l.prog w (K w.params) p base (CX w) k r fd [x] (sp w))
  (aa:∀ (w:World) (H:Hp) (a:Ad) (C:Aa Int),C.length<=n->Lu H->mK (K w.params) H a (C.map V.int)->sp w [.ref a] H (λv _=>v = .b true) λ_ _ _=>False)
  (I:∀ (w:World) (H:Hp) (s:Ae) (e:Ac) (s':Ae),CX w [] H s (λ_ _ _=>False) e s'->False) :
  PySem.W.WalkO q j XP YP l.row.toRowW d [] (λf vs=>PySem.call f vs):=by
 refine Att.attach_call hn J λw A t p Q r o pm cd B a vs C G Y P hd N y m i c O=>?_
 have z:=hY w _ Y;obtain⟨fd,M,D⟩:=F w p r _ z G.T.g y;exact MZ z G.T.g G.T.b G.T.builtins G.T.nolimit O m i (bN c U) hr D M (λH E L=>aa w H a C c E L) λH e s'=>I w H t e s'
def uH (s:Stmt):Arguments:=match s with
 | .FunctionDef _ a _ _ _ _ _ _ _ _=>a
 | _=>{ posonlyargs:=[],args:=[],vararg:=none,kwonlyargs:=[],kw_defaults:=[],kwarg:=none,defaults:=[] }
def sV (s:Stmt):Aa Stmt:=match s with
 | .FunctionDef _ _ b _ _ _ _ _ _ _=>b
 | _=>[]
def nA (s:Stmt):Scope:=match s with
 | .FunctionDef _ _ _ _ _ _ a _ _ _=>a
 | _=>{ kind:=.function,names:=[],isGenerator:=false,isCoroutine:=false }
abbrev pG:B0:=λ_ _ _ _ _ _=>False
abbrev E0:XK:=λ_ _ _=>False
theorem vY {X:Cx}:Jo pG X E0:=λ_ _ _ _ _ _ _ h=>h.elim
structure Fun (K:mH) (x qual:Str) (st:Stmt) (f:Addr) (fd:FuncData):Prop where
 ex:∃ (oc:Value) (od:Option Addr) (kV doc pm:Value) (an:Option Addr) (cdv ct:Value) (osl:Array (Option Value)),
  fd=PySem.W.fnOf x qual (uH st) (sV st) (nA st) .none kV doc pm an cdv ct/\K.lookup f=some ⟨oc,od,.func fd,osl⟩/\PySem.W.codeIn K cdv qual=true
 kp:PySem.W.keepIn K (.ref f)=true
section
variable {P:Ah}{K:mH}
theorem Fun.ok {st:Stmt}(F:Fun K x l st f fd) (S:FnScope N r (nA st)) (len:∀ p H Q E,C p H Q E->p.length=r.length)
  (o:∀ (j:Ac) (A:Around) (g:Aa Env) (s:Ae) (H:Hp) (p:Aa V) (Q:VK) (E:XK),Room k (A.deeper (envOfC l (nA st) s.heap.objs.size f j))->C p H Q E ->∃ t,pX (yX pG P w K J base N l (nA st) f j A g s H E).nox (sV st) t/\t { nx:=λ_ I=>Q .e I,rt:=Q } (start N p) H):FnOk P w K J base pG (k+1) f fd r C:=by
 obtain⟨v,y,kV,c,pm,n,j,u,m,rfl,i,a⟩:=F.ex;refine PN i a S len λA g s H p Q E d b=>?_
 obtain⟨t,h,q⟩:=o j A g s H p Q E d b;exact⟨t,h.nox,q⟩
theorem Fun.binds {st:Stmt}(F:Fun K x l st f fd)
  (h:∀ (kV j pm:Ac) (o:Ab Ad) (g p:Ac) (r:Aa Ac),r.length=C.length->bindArgs (PySem.W.fnOf x l (uH st) (sV st) (nA st) .none kV j pm o g p) ⟨r,[]⟩=pure (C.zip r)):zW K fd C []:=by
 obtain⟨d,e,kV,j,pm,o,g,p,b,rfl,c,a⟩:=F.ex;exact .all (h kV j pm o g p)
theorem Sd {st:Stmt}{kV:Ac}(l:K.lookup f=some ⟨I,J,.func (PySem.W.fnOf x g (uH st) (sV st) (nA st) .none kV o pm r j C),p⟩)
  (c:PySem.W.codeIn K j g=true) (k:PySem.W.keepIn K (.ref f)=true):Fun K x g st f (PySem.W.fnOf x g (uH st) (sV st) (nA st) .none kV o pm r j C):=⟨⟨I,J,kV,o,pm,r,j,C,p,rfl,l,c⟩,k⟩
end
theorem Lr (g:Room k A):A.units+1<cLine:=cO (Nat.add_le_add_left (by decide:1<=64) _) g.units
section
variable {X:Cx}
theorem pv (i:Nat) (j:X.N[i]?=some x:=by rfl) (l:Ji X.env.scope x:=by first | exact Or.inl rfl | exact Or.inr (Or.inl rfl) | exact Or.inr (Or.inr rfl)) (hd:(x == ("__debug__" : Af))=false:=by decide)
  (g:(x == ("__classdict__" : Af))=false:=by decide):PE X (.Name x pos) (pT i):=IV j l hd g
theorem OD:nW X (.builtin "len") (λj H Q=>∃ a g,j=[V.ref a]/\H a=some (.k g)/\Q (.int g.length) H):=by
 intro b s m H j i Q I r h;obtain⟨a,g,rfl,d,q⟩:=h;obtain⟨u,rfl,e⟩:=qC r;cases e;exact BN I (.inl d) λt f c=>⟨.int g.length,H,c,⟨t,rfl⟩,q⟩
end
theorem vD {A B:Prop}(h:B):if false=true then A else B:=by
 rw[aM aY];exact h
theorem Ev {c A B:Prop} [Decidable c] (g:c->A) (j:¬ c->B):if c then A else B:=by
 by_cases h:c
 .rw[aR h];exact g h
 .rw[aM h];exact j h
def pL (H g:Hp):Prop:=∀ b o,H b=some o->g b=some o
theorem pL.trans (a:pL H g) (b:pL g j):pL H j:=λc o h=>b c o (a c o h)
theorem pL.free (e:pL H g) (h:g l=Option.none):H l=Option.none:=by
 cases q:H l with
 | none=>rfl
 | some o =>
  rw[e l o q] at h;cases h
theorem pL.seq {K:mH}(e:pL H g) (h:mK K H a j):mK K g a j:=by
 rcases h with (h | ⟨o,h⟩) | h
 .exact .inl (.inl (e _ _ h))
 .exact .inl (.inr ⟨o,e _ _ h⟩)
 .exact .inr h
section
variable [DecidableEq κ]
theorem Xr:∀ {l:Aa κ}{k:κ},l.Nodup->¬ k∈l->(l++[k]).Nodup
 | [],k,_,_=>by simp
 | a::r,k,h,b=>by
  obtain⟨c,d⟩:=bP.mp h;show (a::(r++[k])).Nodup;refine bP.mpr ⟨λm=>?_,Xr d λm=>b (aO.mpr (Or.inr m))⟩;rcases aU.mp m with q | q
  .exact c q
  .exact b (aO.mpr (Or.inl (aV.mp q).symm))
end
section
variable {X:Cx}
theorem F2 {K:mH}:∀ {j:Aa Int}{g:Aa Ac},mV (j.map V.int) g->∃ xs:Array (Int×Tok),g.toArray=intItems xs/\j=xs.toList.map (·.1)
 | [],_,.nil=>⟨#[],by simp[intItems],rfl⟩
 | n::j,_,.cons r c=>by
  obtain⟨t,rfl⟩:=r;obtain⟨xs,a,b⟩:=F2 (K:=K) c;refine⟨(⟨(n,t)::xs.toList⟩:Array (Int×Tok)),?_,by rw[b];rfl⟩;have:(intItems xs).toList=_:=(cC Array.toList a).symm;unfold intItems at this |-;refine lW.mp ?_;simp only[Array.toList_map] at this |-;rw[aK,this]
theorem Gm (p:l=o.toList.map (·.1)) (g:j<o.size):∃ h:j<l.length,numAt o j=l[j]:=by
 subst p;refine⟨by simpa using g,?_⟩;simp[numAt,g]
theorem Fm (l:X.calm=true):nW X (.builtin "sum") (λj H Q=>∃ (p:Ad) (g:Aa Int),j=[.ref p]/\mK X.K H p (g.map V.int)/\Q (.int g.sum) H):=by
 intro a s z H j y Q I r h;obtain⟨p,g,rfl,d,q⟩:=h;obtain⟨u,rfl,m⟩:=qC r;cases m;obtain⟨f,k,i,w⟩:=I.list d;obtain⟨t,e,b⟩:=F2 (K:=X.K) k;refine sum_intListG (xs:=t) (I.ok.hd l) (e▸i.isList) λv x n c=>⟨.int g.sum,H,I.kept c,⟨n,?_⟩,q⟩
 rw[preSum_eq,bL (by simp),b]
theorem JF (l:X.calm=true):nW X (.builtin "min") (λxs H Q=>∃ (p:Ad) (g:Aa Int),xs=[.ref p]/\mK X.K H p (g.map V.int)/\g≠[]/\∀ m:Int,m∈g->(∀ a∈g,m<=a)->Q (.int m) H):=by
 intro n s Y H xs W Q I r h;obtain⟨p,g,rfl,B,f,q⟩:=h;obtain⟨u,rfl,N⟩:=qC r;cases N;obtain⟨E,M,L,P⟩:=I.list B;obtain⟨b,e,d⟩:=F2 (K:=X.K) M;have i:0<b.size:=by
  rcases jJ b.size with z | z
  .exfalso;apply f;rw[d];simp[Array.size_eq_zero_iff.mp z]
  .exact z
 refine min_intList (xs:=b) (I.ok.hd l) (e▸L.isList) i λv O S D A=>?_
 obtain⟨t,rfl⟩:=intItems_at (xs:=b) D;have c:=argBest_lt (numAt b) (b.size-1);obtain⟨G,w⟩:=Gm d (cO c.1 (show b.size-1<b.size by omega));refine⟨.int _,H,I.kept A,⟨t,rfl⟩,q _ (w▸cM G) λa y=>?_⟩;obtain⟨j,k,rfl⟩:=eD y;have F:j<b.size:=by rw[d] at k;simpa using k
 obtain⟨R,x⟩:=Gm d F;exact x▸c.2 j (by omega)
theorem MR (l:X.calm=true):nW X (.builtin "max") (λxs H Q=>∃ (p:Ad) (g:Aa Int),xs=[.ref p]/\mK X.K H p (g.map V.int)/\g≠[]/\∀ m:Int,m∈g->(∀ a∈g,a<=m)->Q (.int m) H):=by
 intro n s Y H xs W Q I r h;obtain⟨p,g,rfl,B,f,q⟩:=h;obtain⟨u,rfl,N⟩:=qC r;cases N;obtain⟨E,M,L,P⟩:=I.list B;obtain⟨b,e,d⟩:=F2 (K:=X.K) M;have i:0<b.size:=by
  rcases jJ b.size with z | z
  .exfalso;apply f;rw[d];simp[Array.size_eq_zero_iff.mp z]
  .exact z
 refine max_intList (xs:=b) (I.ok.hd l) (e▸L.isList) i λv O S D A=>?_
 obtain⟨t,rfl⟩:=intItems_at (xs:=b) D;have c:=argBest_gt (numAt b) (b.size-1);obtain⟨G,w⟩:=Gm d (cO c.1 (show b.size-1<b.size by omega));refine⟨.int _,H,I.kept A,⟨t,rfl⟩,q _ (w▸cM G) λa y=>?_⟩;obtain⟨j,k,rfl⟩:=eD y;have F:j<b.size:=by rw[d] at k;simpa using k
 obtain⟨R,x⟩:=Gm d F;exact x▸c.2 j (by omega)
theorem Nw:∀ {j:Aa Af}{g:Aa Ac},mV (j.map V.str) g->StrsAre g j:=by
 intro j;induction j with
 | nil=>intro g r;cases r;exact .nil
 | cons y r c =>
  intro g h;cases h with
  | cons a b =>
   obtain⟨t,rfl⟩:=a;exact .cons _ _ (c b)
def OX (K:mH):V->Aa V->Hp->VK->Prop:=λx b H Q=>∃ (z:Af) (l:Ad) (a:Aa Af),x = .str z/\b=[.ref l]/\(mK K H l (a.map V.str)\/nG K H l (a.map V.str)) /\
 (a.map (·.length)).sum+a.length*z.length<=16777216/\Q (.str (Txt.join z a)) H
theorem RR:xN X "str.join" (OX X.K):=by
 intro e s B H x y v w Q I m i h;obtain⟨z,l,A,rfl,rfl,a,d,q⟩:=h;obtain⟨t,rfl⟩:=m;obtain⟨u,rfl,f⟩:=i.one;cases f;rcases a with a | a
 .obtain⟨b,r,c,_⟩:=I.list a;exact join_list c.isList (by simpa using Nw r) d λn k=>⟨.str _,H,I.tok _,⟨_,rfl⟩,q⟩
 .obtain⟨b,r,c,_⟩:=I.tuple a;exact join_tuple c (by simpa using Nw r) d λn k=>⟨.str _,H,I.tok _,⟨_,rfl⟩,q⟩
end
section
variable {X:Cx}
def Oi (K:mH) (neg:Bool):R2:=λx y H Q=>∃ (a b:Ad) (c:Aa V),x = .ref a/\y = .ref b/\mK K H a c/\mK K H b []/\Q (.b (if neg then !c.isEmpty else c.isEmpty)) H
theorem Q5 (g:X.A.units+64<cLine):nC X (compareOp .Eq) (Oi X.K false):=by
 intro c s M H x y v u Q I F G h;obtain⟨a,b,L,rfl,rfl,f,z,q⟩:=h;cases F;cases G;obtain⟨B,D,m,_⟩:=I.list f;obtain⟨k,E,n,_⟩:=I.list z;cases E;have t:∀ d,d=L.isEmpty->EP X c M Q (.bool d) s:=λd e=>⟨.b d,H,I,rfl,by subst e;exact q⟩
 cases D with
 | nil=>exact SeqAt.RcAt.lists (e:=λ_=>true) m.isList n.isList rfl (by omega) (λi f _=>by simp at f) X.prog X.w _ _ (t _ (by simp))
 | cons r N=>exact SeqAt.RcAt.lists_lengths m.isList n.isList (by simp) (by omega) X.prog X.w _ _ (t _ rfl)
end
section
variable {X:Cx}
def uU (z:Af) (lo g:Ab Int):Af:=⟨((z.cps.toList.drop (HT.sIx z.length 0 lo)).take (HT.sIx z.length z.length g-HT.sIx z.length 0 lo)).toArray⟩
theorem UF (lo g:Ab Int) (n:Nat):Builtin.Str.strSliceIndices lo g 1 n=(List.range (HT.sIx n n g-HT.sIx n 0 lo)).map (HT.sIx n 0 lo+·):=by
 unfold Builtin.Str.strSliceIndices;rw[<- sliceRange_one];have c:∀ (v:Ab Int) (d:Nat),d<=n->(match v with | none=>((d:Nat):Int) | some i=>if (1:Int)>0 then max 0 (min (if i<0 then i+(n:Int) else i) (n:Int)) else max (-1) (min (if i<0 then i+(n:Int) else i) ((n:Int)-1)))=((HT.sIx n d v:Nat):Int):=by
  intro v d hd;cases v with
  | none=>rfl
  | some i =>
   simp only[HT.sIx,show (1:Int)>0 by decide,gA];by_cases h:i<0
   .simp only[h,gA]<;>omega
   .simp only[h,fY]<;>omega
 have a:=c lo 0 (dF _);have b:=c g n (aW _);simp only[show (1:Int)>0 by decide,gA] at a b |-;rw[<- a,<- b];cases lo<;>cases g<;>rfl
def Xc:V->Ab Int->Ab Int->Hp->VK->Prop:=λx lo a H Q=>∃ z:Af,x = .str z/\z.length<=sizeLine/\Q (.str (uU z lo a)) H
theorem S2 (p:IsPart v o):∃ l:Ab (Int×Tok),v=partValue l/\o=l.map (·.1):=by
 cases p with
 | none=>exact⟨none,rfl,rfl⟩
 | int i t=>exact⟨some (i,t),rfl,rfl⟩
theorem zX (z:Af):z.cps.toList.length=z.length:=by
 rw[eQ];rfl
theorem QI {a b:Af}(h:a.cps.toList=b.cps.toList):a=b:=by
 obtain⟨a⟩:=a;obtain⟨b⟩:=b
 congr
 exact lW.mp h
theorem Ny:wV X Xc:=by
 intro c s K H x v E G lo B sl Q I A n w y h;obtain⟨z,rfl,D,q⟩:=h;obtain⟨t,rfl⟩:=A;obtain⟨l,rfl,rfl⟩:=S2 w;obtain⟨u,rfl,rfl⟩:=S2 y;refine⟨"str",_,PySem.F.slot_str_getitem.lookup,lI _ z t,?_⟩;refine wpAny_getItem_str_slice (l:=l) (u:=u) (st:=none) n rfl ?_;have e:slicePicked z l u none=(List.range (HT.sIx z.length z.length (u.map (·.1))-HT.sIx z.length 0 (l.map (·.1)))).map (HT.sIx z.length 0 (l.map (·.1))+·):=UF _ _ _;have d:(⟨((slicePicked z l u none).filterMap (z.cps[·]?)).toArray⟩:Af)=uU z (l.map (·.1)) (u.map (·.1)):=by
  rw[e,pick_run];rfl
 have m:=HT.sIx_le z.length z.length (aW _) (u.map (·.1));have b:=HT.sIx_le z.length 0 (dF _) (l.map (·.1));unfold sliceMade;split
 .rename_i k
  have a:(slicePicked z l u none).length=z.length:=by
   have:=(cE _ _).mp k;exact eq_of_beq this.2
  have f:uU z (l.map (·.1)) (u.map (·.1))=z:=by
   rw[e,aA,cP] at a;apply QI;show ((z.cps.toList.drop _).take _)=z.cps.toList;have i:HT.sIx z.length 0 (l.map (·.1))=0:=by omega
   rw[i] at a |-;rw[lK,bL];rw[zX];omega
  rw[f] at q;exact⟨.str z,H,I,⟨t,rfl⟩,q⟩
 .rw[d];refine⟨?_,.str _,H,I.tok _,⟨_,rfl⟩,q⟩;have:(uU z (l.map (·.1)) (u.map (·.1))).length<=z.length:=by
   show ((z.cps.toList.drop _).take _).toArray.size<=_;rw[aZ,bS,fO,zX];omega
  omega
theorem BR:nW X (.type "dict") (λj H Q=>∃ (a:Ad) (g:Aa (dT×V)),j=[.ref a]/\H a=some (.k g)/\∀ p,H p=none->Q (.ref p) (upd H p (.k g))):=by
 intro b s n H j m Q I r h;obtain⟨a,g,rfl,d,q⟩:=h;obtain⟨u,rfl,f⟩:=qC r;cases f;exact OY I (.inl d) λp i e c=>⟨.ref p,_,c,rfl,q p e⟩
theorem VR (I:KV g C) (j:(g.map (·.1)).Nodup) :
  ∀ (r:Aa (dT×V)) (o:Aa (dT×Ac)),KV r o->(∀ p∈r,p∈g)->(∀ p∈r,uK p.2=true/\qW p.2 p.2=true)->PySem.W.KeqHits A s C o true:=by
 intro r;induction r with
 | nil=>intro o h _ _;cases h;exact .nil
 | cons p r x =>
  intro o h c i;cases h with
  | cons t u =>
   rename_i q d
   obtain⟨k,v⟩:=p;obtain⟨D,K⟩:=q;obtain⟨e,G⟩:=t;have e:k=D:=e;subst e;have w:qA g k=some v:=by
    have b:=c (k,v) aF;have:∀ (l:Aa (dT×V)),(l.map (·.1)).Nodup->(k,v)∈l->qA l k=some v:=by
     intro l;induction l with
     | nil=>intro _ h;cases h
     | cons a l B =>
      intro j c;have j:(a.1::l.map (·.1)).Nodup:=j;obtain⟨E,F⟩:=bP.mp j;rcases aO.mp c with z | z
      .subst z;exact Ec rfl
      .rw[Bq (λe=>E (by rw[e];exact aI.mpr ⟨_,z,rfl⟩))];exact B F z
    exact this g j b
   have m:=I.val k;rw[w] at m;obtain⟨y,n,H⟩:=m.some_of;obtain⟨f1,f2⟩:=i (k,v) aF;have f:SeqAt.EqAt A s K y (qW v v):=Gu G H f1 f1;rw[f2] at f;have:=PySem.W.KeqHits.hit n f (x d u (λp b=>c p (aP _ b)) λp b=>i p (aP _ b))
   simpa using this
theorem DE:nW X (.builtin "isinstance") (λj H Q=>∃ (x c:V) (t g:Ac) (b:Bool),j=[x,c]/\mX c g/\TyOf X.K H x t/\PySem.W.kitOne X.K t g=some b/\Q (.b b) H):=by
 intro k s A H j y Q I r h;obtain⟨x,c,t,g,b,rfl,d,ty,e,q⟩:=h;obtain⟨u,v,rfl,m,f⟩:=Fj r;have:v=g:=by
  cases c with
  | ref a=>cases d;cases f;rfl
  | ty n=>cases d;cases f;rfl
  | e=>cases d;cases f;rfl
  | b b=>cases d;cases f;rfl
  | int i=>obtain⟨z,rfl⟩:=d;exact absurd e (by unfold PySem.W.kitOne PySem.W.kitCls;cases ty<;>simp)
  | str i=>obtain⟨z,rfl⟩:=d;exact absurd e (by unfold PySem.W.kitOne PySem.W.kitCls;cases ty<;>simp)
  | byt i=>obtain⟨z,rfl⟩:=d;exact absurd e (by unfold PySem.W.kitOne PySem.W.kitCls;cases ty<;>simp)
  | flt i=>obtain⟨z,rfl⟩:=d;exact absurd e (by unfold PySem.W.kitOne PySem.W.kitCls;cases ty<;>simp)
 subst this;exact CL I m ty e λw=>⟨.b b,H,I.tok _,rfl,q⟩
end
def wO (z:Af):It:=⟨λi _=>i<z.length,λi H x a=>a=H/\∃ c,z.cps[i]?=some c/\x = .str ⟨#[c]⟩,λi _=>z.length<=i⟩
theorem U9 {P:Ah}{K:mH}(z:Af) (t:Tok) (it:Ad):Turn P w K tg (wO z) [it] it (λi h=>h.IsStrIter it "str_ascii_iterator" z t i) where
 mem:=by simp
 obj:=λi h st b hb=>by
  have e:b=it:=by simpa using hb
  subst e;obtain⟨o,e,c,d⟩:=st;exact⟨o,e,λv z=>by rw[d] at z;cases z⟩
 keep:=λi h h' st k=>by
  obtain⟨o,e,r⟩:=st;exact⟨o,k it (by simp) o e,r⟩
 item:=by
  intro X hP hw hK hc i pins s σ H E I hf st hg;subst hP hw hK;have hg:i<z.length:=hg;obtain⟨f0,f1,f2,f3,f4,f5⟩:=hf it (by simp);have hz:z.cps[i]?=some (z.cps[i]'hg):=cI hg;refine wpAny_pyNext_ascii_item st hz λh' st' sb=>?_
  have I1:Inv X pins σ H { s with heap:=h',toks:=s.toks+1 }:=I.turned (t':=s.toks+1) (λb o hb e=>(sb.2 b hb).trans e) f0 f1 f3 f4 f5;obtain⟨o,e,c,d⟩:=id st';exact⟨_,rfl,At (s:={ s with heap:=h',toks:=s.toks+1 }) e c d (by decide) ⟨.str ⟨#[z.cps[i]'hg]⟩,H,I1,⟨_,rfl⟩,⟨rfl,_,hz,rfl⟩,st',λb hb=>(hf b hb).1⟩⟩
 done:=by
  intro X hP hw hK hc i pins s σ H E I hf st hg;subst hP hw hK;have hg:z.length<=i:=hg;obtain⟨f0,f1,f2,f3,f4,f5⟩:=hf it (by simp);exact wpAny_pyNext_ascii_end (I.ok.hd hc) st (gB (by exact hg)) λh' eb=>⟨rfl,I.turned (t':=s.toks) (λb o hb e=>eb b o hb e) f0 f1 f3 f4 f5⟩
 self:=λ_ _ _ _ _ st h=>wpAny_pyIter_striter_ascii st h
section
variable {X:Cx}
def PX (g:TE):TI:=λb H R=>g b H λx a=>∃ z:Af,x = .str z/\z.cps.all (·<128)=true/\R (wO z) a
theorem IB (g:PE X l j):PI X o l (PX j):=by
 intro a s k H R I h;refine mM (g a s k H _ I h) λv c f=>?_
 obtain⟨x,i,d,y,z,n,u,q⟩:=f;subst n;obtain⟨t,rfl⟩:=y;refine wpAny_pyIter_ascii u ?_;have m:Inv X a k i { c with heap:=c.heap.push { cls:=.type "str_ascii_iterator",data:=.fields #[.str z t,.int 0 0] } }:=d.kept (t':=c.toks) λb A q=>aG _ q
 refine⟨c.heap.objs.size,[c.heap.objs.size],_,wO z,i,rfl,m,U9 z t _,⟨_,bB _ rfl,rfl,rfl⟩,λb w=>?_,q⟩;have e:b=c.heap.objs.size:=by simpa using w
 subst e;exact d.fpOk (aW _) (d.hok.fresh (aW _))
end
def uR (g:Aa Af) (x:Af):Aa Af:=if x∈g then g else g++[x]
def pD (l:Aa Af):Aa Af:=l.foldl uR []
theorem Oh (l:Aa Af) (x:Af):pD (l++[x])=uR (pD l) x:=by unfold pD;rw[List.foldl_append];rfl
theorem DL (g:Aa Af) (x y:Af):y∈uR g x↔y∈g\/y=x:=by
 unfold uR;split
 .rename_i h
  constructor
  .exact .inl
  .rintro (q | q)
   .exact q
   .rw[q];exact h
 .simp[aU]
theorem Hy (g:Aa Af) (x:Af):(uR g x).length=if x∈g then g.length else g.length+1:=by
 unfold uR;split<;>simp
theorem RS (l:Aa Af):∀ k,(pD (l.take k)).length<=k:=by
 intro k;induction k with
 | zero=>simp[pD]
 | succ k a =>
  rw[bR];cases e:l[k]? with
  | none=>simp;omega
  | some x =>
   simp only[Option.toList_some];rw[Oh,Hy];split<;>omega
theorem FZ (r:Aa Af):∀ g,g.length<=(r.foldl uR g).length/\(r.foldl uR g).length<=g.length+r.length:=by
 induction r with
 | nil=>intro g;simp
 | cons x r a =>
  intro g;have h:=a (uR g x);rw[Hy] at h;simp only[jG,bQ];split at h<;>omega
theorem PU:∀ (r g:Aa Af),g.Nodup->(r.foldl uR g).length=g.length+r.length->(g++r).Nodup:=by
 intro r;induction r with
 | nil=>intro g h _;simpa using h
 | cons x r d =>
  intro g h e;simp only[jG,bQ] at e;have b:=FZ r (uR g x);rw[Hy] at b;by_cases a:x∈g
  .rw[aR a] at b;omega
  .have c:uR g x=g++[x]:=by unfold uR;rw[if_neg a]
   rw[c] at e;have:=d (g++[x]) (Xr h a) (by rw[e];simp;omega)
   simpa using this
theorem KS (h:(pD l).length=l.length):l.Nodup:=by
 have:=PU l [] fE (by simpa [pD] using h)
 simpa using this
theorem Vi {P:Ah}{w:World}{h:Ag}{a:Ad}{S g:Af->Bool}{n j:Nat}(z:h.SetOf (PySem.strKind P w) a S n) (e:∀ k,S k=g k) (l:n=j):h.SetOf (PySem.strKind P w) a g j:=by
 have:S=g:=funext e;subst this l;exact z
section
variable {R:Result->Ae->Prop}{P:Nat->Ac->Prop}{St:Nat->Ae->Prop}
theorem GN (W:WalksS g w A.in1 J I C G n P St) (a:Ad) (p:a∉I) (j:Aa Af) (aa:j.length=n) (hp:∀ i v,P i v->∃ x t,j[i]?=some x/\v = .str x t) (r:n+1<scanBound) :
  ∀ (k i:Nat) (s:Ae),n-i=k->i<=n->St i s->s.heap.SetOf (PySem.strKind g w) a (λx=>decide (x∈pD (j.take i))) (pD (j.take i)).length ->
   (∀ l,Moved (a::C) G s l->l.heap.SetOf (PySem.strKind g w) a (λx=>decide (x∈pD j)) (pD j).length->R (.ok (.ret .none)) l) ->
   codeAny (model g w) A (.builtin "set.update.loop" ⟨[.ref a,.ref J],[]⟩) R s:=by
 have h:a∉C:=λz=>p (W.sub _ z)
 have c:∀ b∈C,b∈a::C:=λb z=>aP _ z
 intro k;induction k with
 | zero =>
  intro i s hk U st E L;have Z:i=n:=by omega
  subst Z;rw[bL (by omega)] at E;refine fV iZ ?_;rw[eY fZ _];show wpAny _ A.in1 (pyNext (.ref J) >>= _) _ _ s;refine aB (W.done s _ _ st λl u=>?_);show wpAny _ A.in1 (ret Value.none) _ _ l;obtain⟨o,H,F,t,Q,rest⟩:=E;exact aE (L l (u.mono c) ⟨o,H,F,t,u.heap a _ h Q,rest⟩)
 | succ k ih =>
  intro i s hk U st E L;have q:i<n:=by omega
  refine fV iZ ?_;rw[eY fZ _];show wpAny _ A.in1 (pyNext (.ref J) >>= _) _ _ s;refine aB (W.item i s _ _ q st λv l hv V u=>?_);obtain⟨x,t,hx,rfl⟩:=hp i v hv;have M:l.heap.SetOf (PySem.strKind g w) a (λx=>decide (x∈pD (j.take i))) (pD (j.take i)).length:=by
   obtain⟨o,H,F,tb,Q,rest⟩:=E;exact⟨o,H,F,tb,u.heap a _ h Q,rest⟩
  show wpAny _ A.in1 (holding [Value.str x t] (setAdd a (.str x t)) >>= _) _ _ l;refine aB (bY ?_);unfold setAdd;refine bY ?_;have m:(PySem.strKind g w).is x (.str x t)=true:=by simp[PySem.strKind,Value.isStrOf]
  refine aB ((PySem.strKind g w).pyHash (k:=x) m ?_);have d:(pD (j.take i)).length+1<scanBound:=by have:=RS j i;omega
  refine wpAny_setAddHashed_of (knd:=strKind g w) (s:={ l with toks:=l.toks+1 }) m rfl M d λT Y N=>?_
  have X:j.take (i+1)=j.take i++[x]:=by rw[bR,hx];rfl
  have O:T.SetOf (PySem.strKind g w) a (λx=>decide (x∈pD (j.take (i+1)))) (pD (j.take (i+1))).length:=by
   refine Vi N (λy=>?_) ?_
   .rw[X,Oh];have:=DL (pD (j.take i)) x y;by_cases D:y∈pD (j.take i)<;>by_cases K:y=x<;>simp only[D,K,true_or,or_true,fL,false_or] at this<;>simp[this,D,K]
    all_goals (subst K;simp[this])
   .rw[X,Oh,Hy];by_cases D:x∈pD (j.take i)<;>simp[D]
  refine aE ⟨jB fZ _,ih (i+1) _ (by omega) q (W.frame _ l _ _ V (iP _) λb r o e=>?_) O λS B f=>?_⟩
  .rw[Y.2 b (λz:b=a=>p (by rw[<- z];exact r))];exact e
  .refine L S (Moved.trans W.gtrans ((u.mono c).then_heap (iP _) λb o r e=>?_) B) f;rw[Y.2 b (λz:b=a=>r (by rw[z];exact aF))];exact e
end
end L2
namespace PySem
open PyProof.Rows L2
section
theorem SS
  (fill:∀ g,wpAny (model j w) A.in1.in1 (Builtin.«set.__init__» ⟨[.ref s.heap.objs.size,x],[]⟩) (λf l=>f = .done (.ret .none)/\Q (.ref s.heap.objs.size) l) E { s with heap:=s.heap.push { cls:=.type "set",dict:=none,data:=.set #[] 0 (.fresh 0 0 g) } }) :
  wpAny (model j w) A (call (.type "set") [x]) Q E s:=by
 obtain⟨c,r,d⟩:=F.called_set.mro;refine wpAny_call (codeAny_of_tree (aE ⟨Code.quiet_builtin _ (by decide +kernel),fV F.entry_type_call ?_⟩));have b:=F.called_set;have body:wpAny (model j w) A.in1 (Builtin.«type.__call__» ⟨[.type "set",x],[]⟩) (λf l=>match f with | .done f=>wants Q E (.ok f) l | .again h=>h.quiet=true/\codeAny (model j w) A h (wants Q E) l) (λe l=>wants Q E (.error e) l) s:=by
  unfold Builtin.«type.__call__»;dsimp only;rw[b.notType];simp only[dZ,fY,b.canCreate];refine aB (dY (F.typeCall_set_1 x) (aB (dY d ?_)));rw[aM (show ¬ (c::r).isEmpty=true from aY)];refine aB (dY b.made (aB (aE (aB (bY (wpAny_call (code_set_new_1 x λg=>?_)))))));have a:Shared.TypeIs { s with heap:=s.heap.push { cls:=.type "set",dict:=none,data:=.set #[] 0 (.fresh 0 0 g) } } (.ref s.heap.objs.size) "set" := ⟨_,bB _ rfl,rfl⟩;refine aB (dO a b.sub ?_);rw[aM (show ¬ (!true)=true from aY)];refine aB (bY (cU a b.init (wpAny_call (codeAny_call_builtin b.init.plain F.entry_set_init (check_set_init_1 a ?_)))));refine cV (fill g) (λf l q=>?_) λ_ _ q=>q
  obtain⟨rfl,q⟩:=q;exact aE q
 exact body
theorem IM {S:Ad}(p:s.heap.IsList l C)
  (o:codeAny (model g w) A (.builtin "set.update.loop" ⟨[.ref S,.ref s.heap.objs.size],[]⟩) (λr j=>match r with | .ok (.ret _)=>Q () j | .ok _=>False | .error e=>E e j) { s with heap:=s.heap.push { cls:=.type "list_iterator",data:=.fields #[.ref l,.int 0 0] } }) :
  wpAny (model g w) A (Builtin.Frozenset.updateFrom "set.__init__" S (.ref l)) Q E s:=by
 have a:wpAny (model g w) A (Builtin.Frozenset.isAnySet (.ref l)) (λb j=>b=false/\j=s) E s :=
  aB (dO p.typeIs F.sub_list_set (dO p.typeIs F.sub_list_frozenset ⟨rfl,rfl⟩))
 refine aB (cV a (λb j q=>?_) λ_ _ q=>q);obtain⟨rfl,rfl⟩:=q;refine aB (fC p.typeIs (aB (fB p (aB (wpAny_runValue ?_)))));exact codeAny_mono o λr j q=>by
  match r,q with
  | .ok (.ret v),q=>exact aE q
  | .error e,q=>exact q
abbrev Et (g:Bool):Obj:={ cls:=.type "set",dict:=none,data:=.set #[] 0 (.fresh 0 0 g) }
theorem KJ {S:Ad}(o:s.heap.get? S=some (Et g))
  (fill:wpAny (model j w) A (Builtin.Frozenset.updateFrom "set.__init__" S x) (λ_ l=>Q (.done (.ret .none)) l) E s) :
  wpAny (model j w) A (Builtin.«set.__init__» ⟨[.ref S,x],[]⟩) Q E s:=by
 unfold Builtin.«set.__init__»;generalize Builtin.Frozenset.updateFrom=up at fill |-
 wp_walk
 exact cV fill (λ_ _ q=>aE q) λ_ _ q=>q
theorem MM (z:StrsAre g j):j.length=g.length:=by
 induction z with
 | nil=>rfl
 | cons _ _ _ a=>rw[bQ,bQ,a]
theorem AY (z:StrsAre g j):∀ {i:Nat}{v:Ac},g[i]?=some v->∃ x t,j[i]?=some x/\v = .str x t:=by
 induction z with
 | nil=>intro i v e;cases e
 | cons x t _ a =>
  intro i v e
  match i,e with
  | 0,e=>exact⟨x,t,rfl,(bU e).symm⟩
  | i+1,e=>exact a (i:=i) e
theorem Wv {s g:Ae}(a:g.gens=s.gens) (b:g.drawn=s.drawn) (c:g.os=s.os):g={ s with heap:=g.heap,toks:=g.toks }:=by
 cases s;cases g;cases a;cases b;cases c;rfl
theorem RJ (T:A.handled=none) (C:s.heap.IsList l items) (I:StrsAre items.toList p) (J:items.size+1<scanBound)
  (h:∀ (r:Ag) (U:Nat),r.SetOf (PySem.strKind j w) s.heap.objs.size (λx=>decide (x∈pD p)) (pD p).length->(∀ b o,b<s.heap.objs.size->s.heap.get? b=some o->r.get? b=some o) ->Q (.ref s.heap.objs.size) { s with heap:=r,toks:=U }):wpAny (model j w) A (call (.type "set") [.ref l]) Q E s:=by
 refine SS λg=>KJ (bB _ rfl) (IM (C.push _) ?_)
 have two:(s.heap.push (Et g)).objs.size=s.heap.objs.size+1:=eA ..;have lt:l<s.heap.objs.size:=by
  obtain⟨o,e,_⟩:=C;exact bA e
 have d:l≠(s.heap.push (Et g)).objs.size:=by
  rw[two];exact bK (Nat.lt_succ_of_lt lt)
 have f:s.heap.objs.size∉[(s.heap.push (Et g)).objs.size,l]:=λz=>by
  rw[two] at z;rcases aO.mp z with q | q
  .exact bK (Nat.lt_succ_self _) q
  .exact iD lt (aV.mp q)
 have len:p.length=items.size:=by rw[MM I,eQ]
 have item:∀ (i:Nat) (v:Ac),items[i]?=some v->∃ x t,p[i]?=some x/\v = .str x t:=λi v e=>AY I (by rw[dM];exact e)
 have empty:((s.heap.push (Et g)).push { cls:=.type "list_iterator",data:=.fields #[.ref l,.int 0 0] }).SetOf (PySem.strKind j w) s.heap.objs.size (λx=>decide (x∈pD (p.take 0))) (pD (p.take 0)).length :=
  Vi ((setObjOf_fresh (knd:=PySem.strKind j w) g).setOf (aG _ (bB _ rfl)) (by unfold scanBound;omega)) (λ_=>by simp[pD]) (by simp[pD])
 refine GN ((Walks.list (by simp[T]) _ l d items).toS) s.heap.objs.size f p len item J items.size 0 _ (by omega) (dF _) ⟨⟨_,bB _ rfl,rfl,rfl⟩,(C.push _).push _⟩ empty λa c fin=>?_
 have res:=h a.heap a.toks fin λb o k e=>c.heap b o (λz=>?_) (aG _ (aG _ e))
 .rw[show a={ s with heap:=a.heap,toks:=a.toks } from Wv c.gens c.drawn c.os];exact⟨rfl,res⟩
 .rcases aO.mp z with q | q
  .exact bK k q
  .have q:=aV.mp q;rw[two] at q;exact bK (Nat.lt_succ_of_lt k) q
end
end PySem
namespace L2
open PySem PySem.Spec PyProof.Rows
section
variable {X:Cx}
def Ce (P:Ah) (w:World) (a:Ad) (n:Nat):HO:=.ext λh=>∃ S,h.SetOf (PySem.strKind P w) a S n
theorem SE (l:X.calm=true):nW X (.type "set") (λj H Q=>∃ (p:Ad) (g:Aa Af),j=[.ref p]/\mK X.K H p (g.map V.str)/\g.length<=4000/\∀ a,H a=none->Q (.ref a) (upd H a (Ce X.prog X.w a (pD g).length))):=by
 intro f s N H j M Q I r h;obtain⟨p,g,rfl,y,L,q⟩:=h;obtain⟨u,rfl,D⟩:=qC r;cases D;obtain⟨A,i,B,_⟩:=I.list y;have c:=i.length;rw[aA] at c;refine RJ (I.ok.hd l) B.isList (by simpa using Nw i) (by rw[aZ];unfold scanBound;omega) λv E d x=>?_
 have hex:∃ o,v.get? s.heap.objs.size=some o:=by obtain⟨o,_,_,_,e,_⟩:=d;exact⟨o,e⟩
 refine⟨.ref s.heap.objs.size,_,I.laid (a:=s.heap.objs.size) (o:=Ce X.prog X.w s.heap.objs.size (pD g).length) (t':=E) (λb o e=>x b o (bA e) e) (aW _) ?_,rfl,q _ I.fresh⟩;refine⟨⟨_,d⟩,hex,λF G ⟨S,z⟩ k=>⟨S,?_⟩⟩;obtain⟨o,n,m,t,e,rest⟩:=z;exact⟨o,n,m,t,k o e,rest⟩
theorem IN:nW X (.builtin "len") (λg H Q=>∃ (a:Ad) (n:Nat),g=[.ref a]/\H a=some (Ce X.prog X.w a n)/\Q (.int n) H):=by
 intro b s y H g x Q I r h;obtain⟨a,n,rfl,f,q⟩:=h;obtain⟨u,rfl,k⟩:=qC r;cases k;obtain⟨⟨S,o,c,m,t,e,d,hd,_,_,v,i,rfl⟩,_⟩:=I.hok a _ f;refine call_len_set e d hd i ?_ ⟨.int c.size,H,I.tok _,⟨_,rfl⟩,q⟩;have:scanBound=4096:=rfl;omega
end
end L2
namespace PySem
open PyProof.Rows L2
theorem Ip:entryFor table "dict.update.loop" = some Builtin.«dict.update.loop»:=entryFor_of_tree (by kernel_rfl)
theorem zQ:plainId "dict.update.loop" = true:=by decide +kernel
theorem RT:typeLookup (.type "list") "keys" = pure none:=am_miss_of_fast (by decide +kernel)
section
theorem DJ {sl:Array (Ab Ac)}
  (l:s.heap.get? a=some { cls:=.type "list",dict:=none,data:=.seq j n,slots:=sl }) (calm:A.handled=none) (o:∀ p r e,Heap.NewAttrErr s.heap p e (.ref a) "keys" -> E (.ref e) { s with heap:=p,toks:=r }) :
  wpAny (model g w) A (boundAndCalled (.builtin "list.__getattribute__") (.ref a) (.str "keys" u)) Q E s:=by
 have ask:wpAny (model g w) A (call (.builtin "list.__getattribute__") [.ref a,.str "keys" u]) Q E s :=
  iQ jC ⟨_,l,rfl⟩ am_entry_list_getattribute (F.args_list_getattribute_2 _ _) (meets_getattribute_miss_list a j n sl "keys" u RT (by decide +kernel)) ⟨l,calm,o⟩
 unfold boundAndCalled;rw[jC.bind (.ref a)];exact aB (aE ask)
theorem PY (t:s.TypeIs (.ref e) "AttributeError") (j:E (.ref e) s) :
  wpAny (model g w) A (getattributeRaised o name (.type "list") (.ref e) none false false) Q E s:=by
 have last:wpAny (model g w) A (hookOrError o name (.ref e) false false none) Q E s:=aB (wpAny_throw j);have a:hookBehind (.type "list") none=pure none:=am_list_getattr_none;unfold getattributeRaised;refine aB (dO t jK ?_);rw[aR rfl,a];exact aB (aE last)
theorem BG {sl:Array (Ab Ac)}
  (l:s.heap.get? a=some { cls:=.type "list",dict:=none,data:=.seq I n,slots:=sl }) (calm:A.handled=none) (C:∀ j p e,Heap.NewExcOf s.heap j e "AttributeError" -> Q none { s with heap:=j,toks:=p }) :
  wpAny (model g w) A (getAttr? (.ref a) "keys") Q E s:=by
 have c:∀ j p e,Heap.NewAttrErr s.heap j e (.ref a) "keys" -> (∃ o,j.get? e=some o/\o.cls = .type "AttributeError")/\Q none { s with heap:=j,toks:=p }:=λj p e x=>by
  obtain⟨_,_,y⟩:=x.there;exact⟨⟨_,y,rfl⟩,C j p e x.of⟩
 let d:Ae:={ s with toks:=s.toks+1 };let b:Except Ac Ac->Ae->Prop:=λr i=>wpAny (model g w) A (match r with | .ok v=>pure (some v) | .error e=>do if <- isInstance e (.type "AttributeError") then pure none else throw e) Q E i
 have look:wpAny (model g w) A (getAttrBy (.ref a) (.str "keys" s.toks) false) (λv=>b (.ok v)) (λe=>b (.error e)) d:=by
  refine bY (aB (fC (T := "list") ⟨_,l,rfl⟩ (aB (dY jC.lookup ?_))));have own:wpAny (model g w) A (getAttrByItsOwn (.ref a) (.str "keys" s.toks) (.type "list") (.builtin "list.__getattribute__") false false) (λv=>b (.ok v)) (λe=>b (.error e)) d:=by
   refine aB (aE (aB (fP (bY (DJ (s:=d) l calm λj p e x=>?_)))));obtain⟨⟨o,f,h⟩,q⟩:=c j p e x;exact PY ⟨o,f,h⟩ (aB (dO (T := "AttributeError") ⟨o,f,h⟩ jK (aE q)))
  exact own
 exact aB (wpAny_mkText (aB (fP look)))
end
section
variable {R:Result->Ae->Prop}{P:Nat->Ac->Prop}{St:Nat->Ae->Prop}
theorem CB (W:WalksS j w A.in1 J fp l G n P St) (d:Ad) (I:d∉fp) (C:Ag) (M:Nat->Ag->Prop) (U:∀ i h p,(∀ b o,b∉l->h.get? b=some o->p.get? b=some o)->M i h->M i p)
  (hT:∀ i v,i<n->P i v->∃ (t:Ad) (o:Obj) (m:Nat) (r x:Ac),v = .ref t/\t∉d::l/\C.get? t=some o/\o.cls = .type "tuple" /\ o.data = .seq #[r,x] m /\ ∀ (s:Ae) (Q:Unit->Ae->Prop) (E:Ac->Ae->Prop),(∀ b o,b∉d::l->C.get? b=some o->s.heap.get? b=some o)->M i s.heap ->(∀ p c,M (i+1) p->Heap.SameBut d s.heap p->Q () { s with heap:=p,toks:=s.toks+c })->wpAny (model j w) A.in1 (dictSet d r x) Q E s) :
  ∀ (k i:Nat) (s:Ae),n-i=k->i<=n->St i s->(∀ b o,b∉d::l->C.get? b=some o->s.heap.get? b=some o)->M i s.heap ->
   (∀ g,Moved (d::l) G s g->M n g.heap->R (.ok (.ret .none)) g) ->
   codeAny (model j w) A (.builtin "dict.update.loop" ⟨[.ref d,.ref J,.int (i:Int) 0,.none],[]⟩) R s:=by
 have q:∀ b∈l,b∈d::l:=λb z=>aP _ z
 intro k;induction k with
 | zero =>
  intro i s hk hi st f L K;have ei:i=n:=by omega
  subst ei;refine fV Ip ?_;rw[eY zQ _];show wpAny _ A.in1 (pyNext (.ref J) >>= _) _ _ s;refine aB (W.done s _ _ st λg D=>?_);show wpAny _ A.in1 (Builtin.Dict.addKeywords d [] >>= _) _ _ g;exact aB (aE (aE (K g (D.mono q) (U _ _ _ D.heap L))))
 | succ k ih =>
  intro i s hk hi st f L K;have B:i<n:=by omega
  refine fV Ip ?_;rw[eY zQ _];show wpAny _ A.in1 (pyNext (.ref J) >>= _) _ _ s;refine aB (W.item i s _ _ B st λv g hv Z D=>?_);obtain⟨t,o,m,r,x,rfl,ht,V,O,S,put⟩:=hT i v B hv;have a:∀ b o,b∉d::l->C.get? b=some o->g.heap.get? b=some o:=λb o u e=>D.heap b o (λz=>u (q _ z)) (f b o u e)
  have y:=a t o ht V;show wpAny _ A.in1 (holding [Value.ref t] _ >>= _) _ _ g;refine aB (bY ?_);refine aB (wpAny_tryCatch ?_);unfold Builtin.Dict.pairItems;refine aB (fC (T := "tuple") ⟨o,y,O⟩ ?_);rw[aR (by decide)];refine aB (fQ y S ?_);refine aE ?_;show wpAny _ A.in1 (holding [r,x] (dictSet d r x)) _ _ g;refine bY (put g _ _ a (U _ _ _ D.heap L) λp c N Y=>?_);refine aE ⟨jB zQ _,?_⟩;have e1:(rawInt ((i:Int)+1))=Value.int ((i+1:Nat):Int) 0:=by rfl
  rw[e1];refine ih (i+1) _ (by omega) B (W.frame _ g _ _ Z (gE _ _) λb u o e=>?_) (λb o u e=>?_) N λX H F=>?_
  .rw[Y.2 b (λz:b=d=>I (by rw[<- z];exact u))];exact e
  .rw[Y.2 b (λz:b=d=>u (by rw[z];exact aF))];exact a b o u e
  .refine K X (Moved.trans W.gtrans ((D.mono q).then_heap (gE _ _) λb o u e=>?_) H) F;rw[Y.2 b (λz:b=d=>u (by rw[z];exact aF))];exact e
end
section
variable {K:Type} [DecidableEq K] {knd:KeyKind prog w K}{A:Around}
abbrev Nm (l:Ad):Obj:={ cls:=.type "list_iterator",data:=.fields #[.ref l,.int 0 0] }
abbrev ND (g:Array Ac) (n:Nat) (sl:Array (Ab Ac)):Obj:={ cls:=.type "list",dict:=none,data:=.seq g n,slots:=sl }
theorem LY {sl:Array (Ab Ac)}(t:s.TypeIs (.ref d) "dict") (j:s.heap.get? l=some (ND r n sl)) (calm:A.handled=none)
  (C:∀ g o e,Heap.NewExcOf s.heap g e "AttributeError" -> Q (.again (.builtin "dict.update.loop" ⟨[.ref d,.ref g.objs.size,.int 0 0,.none],[]⟩)) { s with heap:=g.push (Nm l),toks:=o }) :
  wpAny (model prog w) A (Builtin.«dict.__init__» ⟨[.ref d,.ref l],[]⟩) Q E s:=by
 have first:wpAny (model prog w) A (Builtin.Dict.selfAndRest "__init__" ⟨[.ref d,.ref l],[]⟩) (λp b=>p=(d,[Value.ref l])/\b=s) E s:=aB (iM t (aE ⟨rfl,rfl⟩))
 have a:wpAny (model prog w) A (Builtin.Dict.updateFrom "dict.__init__" d (.ref l) [] .none) Q E s:=by
  refine aB (fC (T := "list") ⟨_,j,rfl⟩ ?_);rw[aR (by decide)];refine aB (BG j calm λg o e x=>?_);exact aB (jL (aB (fB ⟨_,x.keeps _ _ j,rfl,n,rfl⟩ (aE (C g o e x)))))
 exact aB (cV first (λp b q=>by obtain⟨rfl,rfl⟩:=q;exact a) λ_ _ q=>q)
def zZ (s:Ae):Ae:={ s with heap:=s.heap.push { cls:=.type "dict",data:=.dict #[] } }
theorem R8 (M:Nat->Ag->Prop) (I:A.handled=none) (C:s.heap.get? l=some o) (hc:o.cls = .type "list") (hd:o.dict=none) (r:o.data = .seq items nl)
  (m0:∀ h:Ag,h.get? s.heap.objs.size=some { cls:=.type "dict",data:=.dict #[] }->M 0 h) (T:∀ i h g,(∀ b o,b<=s.heap.objs.size->h.get? b=some o->g.get? b=some o)->M i h->M i g)
  (U:∀ (i:Nat) v,items[i]?=some v->∃ (t:Ad) (o:Obj) (m:Nat) (p x:Ac),v = .ref t/\s.heap.get? t=some o/\o.cls = .type "tuple" /\ o.data = .seq #[p,x] m /\ ∀ (B:Around) (j:Ae) (Q:Unit->Ae->Prop) (E:Ac->Ae->Prop),(A.units+2<cLine->B.units<cLine)->(∀ b o,s.heap.get? b=some o->j.heap.get? b=some o)->M i j.heap ->(∀ g c,M (i+1) g->Heap.SameBut s.heap.objs.size j.heap g->Q () { j with heap:=g,toks:=j.toks+c })->wpAny (model prog w) B (dictSet s.heap.objs.size p x) Q E j)
  (h:∀ (g:Ag) (J:Nat),M items.size g->(∀ b o,s.heap.get? b=some o->g.get? b=some o)->Q (.ref s.heap.objs.size) { s with heap:=g,toks:=J }) :
  wpAny (model prog w) A (call (.type "dict") [.ref l]) Q E s:=by
 obtain⟨oc,od,Z,aa⟩:=o;cases hc;cases hd;cases r;let D:=s.heap.objs.size;have O:(zZ s).heap.get? D=some { cls:=.type "dict",data:=.dict #[] }:=bB _ rfl;have ty:(zZ s).TypeIs (.ref D) "dict" := ⟨_,O,rfl⟩;have old:∀ b o,s.heap.get? b=some o->(zZ s).heap.get? b=some o:=λb o e=>aG _ e
 refine callType_codes F.kt_called_dict (F.kt_typeCall_dict_1 _) F.entry_dict_init (kt_code_dict_new _ (Q₁:=λv N=>v = .ref D/\N=zZ s) ⟨rfl,rfl⟩) λv N q=>?_
 obtain⟨rfl,rfl⟩:=q;refine⟨ty,F.args_dict_init_2 _ _,LY ty (old _ _ C) (by simp[I]) λu J e x=>⟨jB zQ _,?_⟩⟩;have d:D<u.objs.size:=bA (x.keeps _ _ O);have H:l<D:=bA C;have keeps:∀ b o,s.heap.get? b=some o->(u.push (Nm l)).get? b=some o:=λb o e=>aG _ (x.keeps _ _ (old b o e))
 have a:∀ {b:Ad},b<D->b∉[D,u.objs.size]:=λ{b} G z=>by
  rcases aO.mp z with q | q
  .exact bK G q
  .exact bK (Nat.lt_trans G d) (aV.mp q)
 have n:D∉[u.objs.size,l]:=λz=>by
  rcases aO.mp z with q | q
  .exact bK d q
  .exact iD H (aV.mp q)
 have f:(u.push (Nm l)).IsList l items:=⟨_,keeps _ _ C,rfl,nl,rfl⟩;refine CB ((Walks.list (by simp[I]) u.objs.size l (bK (Nat.lt_trans H d)) items).toS) D n s.heap M (λi h g k m=>T i h g (λb o V e=>k b o (λz=>bK (cO V d) (aV.mp z)) e) m) (λi v _ X=>?_) items.size 0 _ (by omega) (dF _) ⟨⟨_,bB _ rfl,rfl,rfl⟩,f⟩ (λb o _ e=>keeps b o e) (m0 _ (aG _ (x.keeps _ _ O))) λj L fin=>?_
 .obtain⟨t,ot,m,p,y,rfl,P,r1,r2,put⟩:=U i v X;exact⟨t,ot,m,p,y,rfl,a (bA P),P,r1,r2,λN S R Y=>put _ N S R (λW=>by simpa using W) λb o e=>Y b o (a (bA e)) e⟩
 .have res:=h j.heap j.toks fin λb o e=>L.heap b o (a (bA e)) (keeps b o e)
  rw[show j={ s with heap:=j.heap,toks:=j.toks } from Wv L.gens L.drawn L.os];exact⟨rfl,res⟩
theorem Y2 (J:A.handled=none) (T:s.heap.get? l=some o) (I:o.cls = .type "list") (hd:o.dict=none) (p:o.data = .seq items nl)
  (hn:more.length=items.size)
  (C:∀ (i:Nat) v,items[i]?=some v->∃ (t:Ad) (o:Obj) (m:Nat) (k:K) (j x:Ac),v = .ref t/\s.heap.get? t=some o/\o.cls = .type "tuple" /\ o.data = .seq #[j,x] m/\knd.is k j=true/\more[i]?=some (k,x)) (U:items.size<=sizeLine)
  (h:∀ (g:Ag) (r:Nat),g.DictOf knd s.heap.objs.size (merged [] more)->(∀ b o,s.heap.get? b=some o->g.get? b=some o)->Q (.ref s.heap.objs.size) { s with heap:=g,toks:=r }) :
  wpAny (model prog w) A (call (.type "dict") [.ref l]) Q E s:=by
 refine R8 (λi g=>g.DictOf knd s.heap.objs.size (merged [] (more.take i))) J T I hd p (λn e=>?_) (λi n y k m=>?_) (λi v H=>?_) λg r m=>h g r (by rw[bL (by omega)] at m;exact m)
 .obtain⟨z,f,d,u,rest⟩:=Heap.DictOf.new (knd:=knd) s.heap;cases u.symm.trans (bB _ rfl);exact⟨_,f,d,e,rest⟩
 .obtain⟨z,f,d,u,rest⟩:=m;exact⟨z,f,d,k _ _ (aW _) u,rest⟩
 .obtain⟨t,M,m,L,j,x,rfl,n,y,F,c,a⟩:=C i v H;refine⟨t,M,m,j,x,rfl,n,y,F,λB O Q E _ _ G k=>wpAny_dictSet_pairs (hsz:=?_) c G λg q N=>k g 1 (by rw[merged_take_succ [] more i (L,x) a];exact q) N⟩;have D:=merged_length_le ([]:Aa (K×Ac)) (more.take i);rw[fU,bS] at D;omega
end
end PySem
namespace L2
open PySem PySem.Spec PyProof.Rows
section
variable {X:Cx}
def Dj (H:Hp) (j:Aa Ad) (g:Aa (dT×V)):Prop:=Paired (λt (a:dT×V)=>H t=some (.t [kV a.1,a.2])) j g
theorem JA {P:Ah}(p:oC P w H h):∀ {l:Aa Ad}{g:Aa (dT×V)},Dj H l g->∃ more:Aa (dT×Ac),KV g more /\
  ∀ (i:Nat) t,l[i]?=some t->∃ (o:Obj) (m:Nat) (k:dT) (j x:Ac),h.get? t=some o/\o.cls = .type "tuple" /\ o.data = .seq #[j,x] m/\(pK P w).is k j=true/\more[i]?=some (k,x):=by
 intro l g r;unfold Dj at r;induction r with
 | nil=>exact⟨[],.nil,λi t e=>by simp at e⟩
 | @cons t j l g d G u =>
  obtain⟨more,B,q⟩:=u;obtain⟨z,v,a,⟨o,s,f,n,b⟩,_⟩:=p t _ d;cases a with
  | @cons _ E _ K y a =>
   cases a with
   | @cons _ c _ F A a =>
    cases a;refine⟨(j.1,c)::more,.cons ⟨rfl,A⟩ B,λi D e=>?_⟩;cases i with
    | zero =>
     simp at e;subst e;exact⟨o,n,j.1,E,c,s,f,b,zK y,rfl⟩
    | succ i=>simpa using q i D (by simpa using e)
theorem Z3 (l:X.calm=true):nW X (.type "dict") (λC H Q=>∃ (p:Ad) (j:Aa Ad) (g:Aa (dT×V)),C=[.ref p]/\mK X.K H p (j.map V.ref)/\Dj H j g/\g.length<=1000/\∀ d,H d=none->Q (.ref d) (upd H d (.k (rY [] g)))):=by
 intro E s σ H C us Q I r h;obtain⟨p,j,g,rfl,U,D,hz,q⟩:=h;obtain⟨u,rfl,B⟩:=qC r;cases B;obtain⟨c,F,⟨o,n,e,L,M,N⟩,_⟩:=I.list U;have f:=F.length;rw[aA] at f;have Z:j.length=g.length:=D.length;obtain⟨more,G,J⟩:=JA I.hok D;have T:=G.length;have b:∀ (i:Nat) v,c[i]?=some v->∃ t,j[i]?=some t/\v = .ref t:=by
  intro i v y;have hi:i<c.length:=(aX.mp y).1;have:i<j.length:=by omega
  obtain⟨u,hu,B⟩:=F.get (i:=i) (x:=V.ref j[i]) (by simp[this]);rw[hu] at y;cases y;cases B;exact⟨j[i],by simp[this],rfl⟩
 refine Y2 (knd:=pK X.prog X.w) (more:=more) (I.ok.hd l) e L M N (by rw[aZ];omega) ?_ (by rw[aZ];exact eP (cO (show c.length<=1000 by omega) (by decide))) λh' tk W Y=>?_
 .intro i v y;obtain⟨t,ht,rfl⟩:=b i v (by simpa using y);obtain⟨o,m,k,kv,x,z,O,P,R,S⟩:=J i t ht;exact⟨t,o,m,k,kv,x,rfl,z,O,P,R,S⟩
 .have A:(rY [] g).length<=sizeLine:=by
   have z:=Gi g [];rw[fU] at z;exact eP (cO (show (rY [] g).length<=1000 by omega) (by decide))
  refine⟨.ref s.heap.objs.size,_,I.laid (a:=s.heap.objs.size) (o:=.k (rY [] g)) (t':=tk) Y (aW _) ?_,rfl,q _ I.fresh⟩;exact Dh A (cY.mpr (eI (bK I.big))) (G.merge .nil) W
end
noncomputable def Ei (o:Ab Af) (N:Aa Af) (kind:Af->Ab NameKind) (g:Scope) (T j:Aa Af) (l:Aa Nat):Bool :=
 decide (g.names.filter (λp=>p.2 == .cell)=o.toList.map λn=>(n,NameKind.cell))&&o.all (λa=>g.names.lookup a == some .cell)&&g.names.all (λp=>p.2 != .free||kind p.1 == some .cell) &&
 g.names.all (λp=>p.2 != .local||g.names.lookup p.1 == some .local) &&
 (j.zip l).all (λp=>decide (N[p.2]?=some p.1)&&g.names.lookup p.1 == some .free)&&j.length == l.length
abbrev C2:=Ei none
noncomputable def sT (T:Aa Af) (g:Aa Nat) (j:St):St:=T.map (λ_=>none)++g.map (λi=>(j[i]?).join)
noncomputable def tZ (X:Cx) (p:Aa Af) (g:Scope) (o:Aa (Af×Ad)) (C:Ad) (l:Ae) (j:Hp) (r:Aa Ad):Cx :=
 { prog:=X.prog,w:=X.w,K:=X.K,mg:=X.mg,base:=X.base,A:=X.A,N:=p,s₀:=l,H₀:=j,env:=compEnvC g o C X.env,outer:=X.stack,stack:=X.stack,ex:=r, fn:=λx=>(o.lookup x).isNone,calm:=X.calm,pn:=[],xe:=λ_ _=>False }
def vG (X:Cx) (g:Aa Expr) (t:TT):Prop :=
 ∀ (a:Aa (Ad×Obj)) (s:Ae) (b:St) (H:Hp) (Q:Bool->Hp->Prop),Inv X a b H s->t b H Q ->
  wpAny (model X.prog X.w) X.A (forIn g true λc r=>if r=true then do let ok <- isTrue c X.env (eval c X.env);pure (ForInStep.yield ok) else pure (ForInStep.yield r)) (TP X a b Q) X.xe s
def Cg:TT:=λ_ H Q=>Q true H
theorem Cb {X:Cx}:vG X [] Cg:=λa s b H Q I h=>wpAny_tests_nil ⟨H,I,h⟩
theorem Vn {X:Cx}(h:PT X c t):vG X [c] t:=λa s b H Q I hw=>wpAny_tests_one (h a s b H Q I hw)
def Cm (T:Aa Af) (j:Aa Nat) (J:It) (g:TG) (r:TT) (p:TE) (C:St) (o:Hp) (Q:VK) (D:Ad):Prop :=
 ∃ W:Nat->Nat->Aa V->St->Hp->Prop,(∃ m,W 0 m [] (sT T j C) (upd o D (.l [])))/\∀ i m c h d,W i m c h d ->
  (J.stop i d/\Q (.ref D) d)\/(J.go i d/\∃ (N:St->V->Hp->Prop) (F:St->Hp->Prop),(∀ a v k,N a v k->k D=some (.l c)/\c.length<sizeLine/\∃ f,f<m/\W (i+1) f (c++[v]) a (upd k D (.l (c++[v]))))/\(∀ a e,F a e->∃ f,f<m/\W (i+1) f c a e) /\ ∀ x n,J.yld i d x n->g x h n λa q=>r a q λb e=>if b=true then p a e (N a) else F a e)
def zD (T:Aa Af) (j:Aa Nat) (p:TI) (g:TG) (o:TT) (l:TE):TE:=λb H Q=>p b H λJ a=>∀ D,a D=none->Cm T j J g o l b a Q D
theorem Np:∀ (names:Aa (Af×NameKind)) (g:Aa (Af×Ad)),(∀ p∈names,p.2 = .free->∃ c,env.cells.lookup p.1=some c) ->
  (∀ x c,g.lookup x=some c->env.cells.lookup x=some c) ->
  ∃ j,(forIn names g λx r=>if (x.2 == NameKind.free)=true then (cellOf env x.1 >>= λa=>pure (ForInStep.yield ((x.1,a)::r))) else pure (ForInStep.yield r):Sem (Aa (Af×Ad)))=pure j /\
   (∀ x c,j.lookup x=some c->env.cells.lookup x=some c)/\(∀ x,(x,NameKind.free)∈names->(j.lookup x).isSome=true)/\(∀ x,(g.lookup x).isSome=true->(j.lookup x).isSome=true)
 | [],g,_,i=>⟨g,rfl,i,λx h=>by simp at h,λ_ h=>h⟩
 | (n,k)::r,g,v,i=>by
  by_cases w:k = .free
  .subst w;obtain⟨c,z⟩:=v (n,.free) aF rfl;have u:∀ x d,((n,c)::g).lookup x=some d->env.cells.lookup x=some d:=by
    intro x d h;rw[dP] at h;cases e:x == n with
    | true=>rw[e] at h;have:=iR.mp e;subst this;cases h;exact z
    | false=>rw[e] at h;exact i x d h
   obtain⟨j,m,s,t,f⟩:=Np r ((n,c)::g) (λp y=>v p (aP _ y)) u;have A:(((n,c)::g).lookup n).isSome=true:=by rw[dP];simp
   refine⟨j,?_,s,λx b=>?_,λx b=>f x ?_⟩
   .rw[kU];simp only[iU,gA];have:cellOf env n=pure c:=by unfold cellOf;rw[z]
    rw[this];exact m
   .rcases aO.mp b with q | q
    .cases q;exact f _ A
    .exact t x q
   .rw[dP];cases e:x == n with
    | true=>rfl
    | false=>exact b
  .obtain⟨j,m,s,t,f⟩:=Np r g (λp y=>v p (aP _ y)) i;refine⟨j,?_,s,λx b=>?_,f⟩
   .rw[kU];have:(k == NameKind.free)=false:=by simpa using w
    simp only[this,dZ,fY];exact m
   .rcases aO.mp b with q | q
    .cases q;exact absurd rfl w
    .exact t x q
theorem HF (o:∀ p∈g.names,p.2 = .free->∃ c,j.cells.lookup p.1=some c) :
  ∃ l,closureFor g j=pure l/\(∀ x c,l.lookup x=some c->j.cells.lookup x=some c)/\(∀ x,(x,NameKind.free)∈g.names->(l.lookup x).isSome=true):=by
 obtain⟨l,e,d,f,_⟩:=Np (env:=j) g.names [] o (λx c h=>by simp at h);refine⟨l,?_,d,f⟩;simp only[closureFor];have b:(forIn g.names [] λx r=>if (x.2 == NameKind.free)=true then (cellOf j x.1 >>= λa=>pure (ForInStep.yield ((x.1,a)::r))) else pure (ForInStep.yield r):Sem (Aa (Af×Ad)))=pure l:=e
 first
  | exact b
  | (simp only[bind_pure];exact b)
theorem MG (h:g.names.lookup x=some k):∃ j,(relabel g env).names.lookup x=some j/\(j=k\/(k = .free/\j = .cell)):=by
 have:∀ names:Aa (Af×NameKind),names.lookup x=some k->∃ j,(names.map λ(p:Af×NameKind)=>match p with | (n,k)=>if (k == NameKind.free&&env.scope.kind == .function&&env.kindOf n == some .cell) then (n,NameKind.cell) else (n,k)).lookup x=some j/\(j=k\/(k = .free/\j = .cell)):=by
  intro names;induction names with
  | nil=>intro h;simp at h
  | cons p r b =>
   obtain⟨n,c⟩:=p;intro h;rw[aK];by_cases a:(c == NameKind.free&&env.scope.kind == .function&&env.kindOf n == some .cell)=true
   .simp only[a,gA];rw[dP] at h |-;cases e:x == n with
    | true =>
     rw[e] at h;cases h;have:k=NameKind.free:=by
      have:=(cE _ _).mp ((cE _ _).mp a).1;exact iR.mp this.1
     exact⟨_,rfl,.inr ⟨this,rfl⟩⟩
    | false=>rw[e] at h;exact b h
   .simp only[a,fY];rw[aM (by simp)];rw[dP] at h |-;cases e:x == n with
    | true=>rw[e] at h;cases h;exact⟨_,rfl,.inl rfl⟩
    | false=>rw[e] at h;exact b h
 exact this g.names h
theorem DT {R:Result->Ae->Prop}{iter:Expr}(I:Nat->Ae->Prop)
  (ae:∀ n s,I n s->wpAny (model g w) A (pyNext it) (λr l=>match r with
   | none=>R (.ok .next) l
   | some v=>wpAny (model g w) A (letOwnedTupleGo target it v) (λ_ o=>wpAny (model g w) A (assign target j v) (λ_ C =>
     wpAny (model g w) A (forIn ac true λc r=>if r=true then do let ok <- isTrue c j (eval c j);pure (ForInStep.yield ok) else pure (ForInStep.yield r)) (λok p =>if ok=true then wpAny (model g w) A (eval ab j) (λx J =>wpAny (model g w) A (call (.builtin "list.append") [aa,x]) (λ_ T=>∃ m,m<n/\I m T) (λ_ _=>False) J) (λ_ _=>False) p else ∃ m,m<n/\I m p) (λ_ _=>False) C) (λ_ _=>False) o) (λ_ _=>False) l) (λ_ _=>False) s)
  (n:Nat) (h:I n s) :
  codeAny (model g w) A (.compLoop (.ListComp ab [⟨target,iter,ac,0⟩] U pos) 0 it aa j) R s:=by
 refine codeAny_loop rfl I (λn s q=>?_) n h;show wpAny _ A ((compTurn (.ListComp ab [⟨target,iter,ac,0⟩] U pos) 0 it aa j).onRaise (λx=>do noteFrame x j;theTreesLotGoes x)) _ _ s;refine wpAny_noted ?_;rw[compTurn_list];refine aB (lU (aB (cV (ae n s q) (λr l b=>?_) λ_ _ a=>a.elim)));cases r with
 | none=>exact aE b
 | some v =>
  refine aB (cV b (λ_ o e=>?_) λ_ _ a=>a.elim);refine aB (cV e (λ_ C f=>aB (cV f (λok p d=>?_) λ_ _ a=>a.elim)) λ_ _ a=>a.elim);cases ok with
  | false=>exact aE ⟨rfl,d⟩
  | true =>
   exact aB (aB (cV d (λx J i=>aB (cV i (λ_ T k=>aE (aE ⟨rfl,k⟩)) λ_ _ a=>a.elim)) λ_ _ a=>a.elim))
structure LcO (nw:Option Str) (N:List Str) (kind:Str->Option NameKind) (scope:Scope) (capN:List Str) (caps:List Nat):Prop where
 one:scope.names.filter (λp=>p.2 == .cell)=nw.toList.map λn=>(n,NameKind.cell)
 cel:∀ nm,nw=some nm->scope.names.lookup nm=some .cell
 free:∀ p∈scope.names,p.2 = .free->kind p.1=some .cell
 loc:∀ p∈scope.names,p.2 = .local->scope.names.lookup p.1=some .local
 cap:∀ (j:Nat) (x:Str),capN[j]?=some x->∃ i:Nat,caps[j]?=some i/\N[i]?=some x/\scope.names.lookup x=some .free
 len:capN.length=caps.length
theorem Od (h:Ei r N kind o T l g=true):LcO r N kind o l g:=by
 unfold Ei at h;simp only[cE] at h;obtain⟨⟨⟨⟨⟨d,c⟩,f⟩,k⟩,m⟩,n⟩:=h;have q:l.length=g.length:=iR.mp n;refine⟨cD d,λu e=>?_,λp a e=>?_,λp a e=>?_,λj x e=>?_,q⟩
 .rw[e] at c;exact iR.mp c
 .have:=cF.mp f p a;rw[e] at this
  simpa using this
 .have:=cF.mp k p a;rw[e] at this
  simpa using this
 .have t:j<l.length:=(aX.mp e).1;have b:g[j]?=some (g[j]'(by omega)):=aH (by omega);have s:(x,g[j]'(by omega))∈l.zip g:=aL (i:=j) (by rw[List.getElem?_zip_eq_some];exact⟨e,b⟩);have:=cF.mp m _ s;simp only[cE,dQ,iR] at this;exact⟨_,b,this.1,this.2⟩
theorem LcO.only (h:LcO o N kind g j l) (x:Af) (e:g.names.lookup x=some .cell):o=some x:=by
 have a:(x,NameKind.cell)∈g.names.filter (λp=>p.2 == .cell):=bM.mpr ⟨eC e,rfl⟩;rw[h.one] at a;cases o with
 | none=>cases a
 | some n=>rw[(Prod.mk.inj (aV.mp a)).1]
theorem Wl:∀ {g:Scope},(relabel g j).names.lookup x=some k->(k = .cell\/k = .free)->g.names.lookup x=some .cell\/g.names.lookup x=some .free:=by
 intro g;unfold relabel;have all:∀ names:Aa (Af×NameKind),(names.map λ(n,k)=>if (k == NameKind.free&&j.scope.kind == .function&&j.kindOf n == some .cell) then (n,NameKind.cell) else (n,k)).lookup x=some k->(k = .cell\/k = .free)->names.lookup x=some .cell\/names.lookup x=some .free:=by
  intro names;induction names with
  | nil=>intro h _;simp at h
  | cons p r d =>
   intro h b;obtain⟨n,e⟩:=p;rw[aK] at h;rw[dP];cases c:x == n with
   | true =>
    by_cases a:(e == NameKind.free&&j.scope.kind == .function&&j.kindOf n == some .cell)=true
    .simp only[cE,iR] at a;exact .inr (by rw[a.1.1])
    .simp only[a,dZ,fY,dP,c] at h;cases h;rcases b with q | q
     .exact .inl (by rw[q])
     .exact .inr (by rw[q])
   | false =>
    by_cases a:(e == NameKind.free&&j.scope.kind == .function&&j.kindOf n == some .cell)=true
    .simp only[a,gA,dP,c] at h;exact d h b
    .simp only[a,dZ,fY,dP,c] at h;exact d h b
 exact all g.names
theorem Ky:∀ (names:Aa (Af×NameKind)) (n:Nat) (g:Aa (Af×Ad)) (h:Ag),names.filter (λp=>p.2 == .cell)=[]->cellsFrom n names g=g/\pushCells h names=h
 | [],_,_,_,_=>⟨rfl,rfl⟩
 | (y,k)::r,n,g,h,e=>by
  unfold cellsFrom pushCells;by_cases a:(k == NameKind.cell)=true
  .rw[List.filter_cons_of_pos (by exact a)] at e;cases e
  .rw[List.filter_cons_of_neg (by exact a)] at e;rw[aM a,aM a];exact Ky r n g h e
theorem Rf:∀ (names:Aa (Af×NameKind)) (n:Nat) (g:Aa (Af×Ad)) (h:Ag),names.filter (λp=>p.2 == .cell)=[(j,.cell)]->cellsFrom n names g=(j,n)::g/\pushCells h names=h.push { cls:=.type "cell",data:=.cell none }
 | [],_,_,_,e=>by cases e
 | (y,k)::r,n,g,h,e=>by
  unfold cellsFrom pushCells;by_cases a:(k == NameKind.cell)=true
  .rw[List.filter_cons_of_pos (by exact a)] at e;have b:=(dJ e).1;have c:=(dJ e).2;rw[aR a,aR a];have:=Ky r (n+1) ((y,n)::g) (h.push { cls:=.type "cell",data:=.cell none }) c;rw[this.1,this.2,(Prod.mk.inj b).1];exact⟨rfl,rfl⟩
  .rw[List.filter_cons_of_neg (by exact a)] at e;rw[aM a,aM a];exact Rf r n g h e
def Bd (g:Ab Af) (C:Ad):Aa (Af×Ad):=match g with
 | none=>[]
 | some a=>[(a,C+1)]
theorem OJ {globals:Ad}(one:g.names.filter (λp=>p.2 == .cell)=T.toList.map λn=>(n,NameKind.cell))
  (h:∀ j,j.Ns s.heap.objs.size (λ_=>none)->(∀ J,T=some J->j.IsCell (s.heap.objs.size+1) none)->(∀ b o,s.heap.get? b=some o->j.get? b=some o) ->Q { scope:=g,locals:=s.heap.objs.size,globals:=globals,cells:=Bd T s.heap.objs.size++r,qual:=C,func:=none,code:=l.code,frame:=l.frame,builtins:=l.builtins } { s with heap:=j }) :
  wpAny M A (newFunctionEnv g globals r [] C none .none (some l)) Q E s:=by
 simp only[newFunctionEnv,lJ,gA];refine aB (wpAny_alloc ?_);refine aB (wpAny_layCells _ (λname kind I=>by cases i:kind == NameKind.cell<;>simp[i]) _ _ _ _ ?_);have z:(s.heap.push { cls:=.type "dict",data:=.dict #[] }).objs.size=s.heap.objs.size+1:=eA ..;have a:=Heap.Ns.new s.heap (.type "dict");show wpAny M A _ Q E _;cases T with
 | none =>
  obtain⟨c,f⟩:=Ky g.names (s.heap.push { cls:=.type "dict",data:=.dict #[] }).objs.size r (s.heap.push { cls:=.type "dict",data:=.dict #[] }) one;rw[c,f];exact aB (aE (aE (h _ a (λ_ e=>nomatch e) λb o e=>aG _ e)))
 | some J =>
  obtain⟨c,f⟩:=Rf g.names (s.heap.push { cls:=.type "dict",data:=.dict #[] }).objs.size r (s.heap.push { cls:=.type "dict",data:=.dict #[] }) one;have d:cellsFrom ({ s with heap:=s.heap.push { cls:=.type "dict",data:=.dict #[] } }:Ae).heap.objs.size g.names r=(J,s.heap.objs.size+1)::r:=by rw[<- z];exact c
  rw[d,f];refine aB (aE (aE (h _ (a.keeps λb o e=>aG _ e) (λ_ _=>?_) λb o e=>aG _ (aG _ e))));exact⟨_,by rw[<- z];exact bB _ rfl,rfl⟩
noncomputable def EF (j:Ab Af) (g:Aa (Af×Ad)):Af->Bool:=match j with
 | none=>λx=>(g.lookup x).isNone
 | some a=>λx=>x == a||(g.lookup x).isNone
def sU (p:Ab Af) (X:Cx) (r:Aa Af) (g:Scope) (o:Aa (Af×Ad)) (C:Ad) (l:Ae) (j:Hp) (I:Aa Ad):Cx :=
 { prog:=X.prog,w:=X.w,K:=X.K,mg:=X.mg,base:=X.base,A:=X.A,N:=r,s₀:=l,H₀:=j,env:=compEnvC g (Bd p C++o) C X.env,outer:=X.stack,stack:=X.stack,ex:=I, fn:=EF p o,calm:=X.calm,pn:=[],xe:=λ_ _=>False }
section
variable {X:Cx}
theorem Inv.moved {t':Nat}{fp:Aa Ad}(I:Inv X g p H s) (j:∀ b∈fp,tU X g H b) (k:∀ b o,b∉fp->s.heap.get? b=some o->l.get? b=some o):Inv X g p H { s with heap:=l,toks:=t' }:=by
 have d:∀ b u,H b=some u->b∉fp:=λb u e z=>by rw[(j b z).1] at e;cases e
 refine I.step (g':=s.gens) (d':=s.drawn) (ch:=fp) (λb f=>⟨(j b f).2.2.2.1,(j b f).2.1,(j b f).2.2.2.2.1,(j b f).2.2.2.2.2⟩) (λb o _ _ a e _=>k b o a e) (λb o _ _ a e _=>⟨o.slots,k b o a e⟩) (λ_ _ _ _ n=>n)
  (λb o a e=>⟨o,k b o a e⟩) (λ_ _ e=>e) (λ_ _ _ e=>e) (λb x e=>⟨#[],by rw[e];simp⟩) (λm t=>?_) (λb u e=>?_) I.bare
 .obtain⟨o,i,h,w,r⟩:=t;exact⟨o,i,h,k _ o (λz=>(j _ z).2.1 rfl) w,r⟩
 .refine (I.hok b u e).stay (λc v a q=>k c v ?_ q) (λ_ q=>q) λ_ _ q=>q
  rcases a with z | z
  .rw[z];exact d b u e
  .exact d c _ z
end
section
variable {X:Cx}
theorem Ng {iter:Expr}(T U:Aa Af) (aa:Aa Nat) (hc:X.calm=true) (hi:PI X tg iter wi)
  (hk:j.kind = .function) (O:LcO nw X.N X.env.kindOf j U aa)
  (hg:∀ ae ab C cl fp,PG (sU nw X (T++U) j cl C ae ab fp) tg g)
  (ht:∀ ae ab C cl fp,vG (sU nw X (T++U) j cl C ae ab fp) af tt)
  (he:∀ ae ab C cl fp,PE (sU nw X (T++U) j cl C ae ab fp) a4 te)
  (hs:∀ x,foldedSetIterable iter X.env x=pure x)
(I:Inv X ac σ H s) (h:zD T aa wi g tt te σ H Q)
  (fin:∀ (C D:Ad) (s6:Ae) (H5:Hp),Inv X ac σ H5 s6->Q (.ref D) H5->tU X ac H5 C->(∃ m,s6.heap.Ns C m)->compPost (model X.prog X.w) X.A X.xe a2 Qs (.ref D) C (.ok .next) s6) :
  wpAny (model X.prog X.w) X.A (comprehension (.ListComp a4 [⟨tg,iter,af,0⟩] j pos) j X.env (firstIterPos [⟨tg,iter,af,0⟩] pos) (newList []) (firstAsync [⟨tg,iter,af,0⟩]) (firstIter [⟨tg,iter,af,0⟩] X.env) a2) Qs X.xe s:=by
 have ax:∀ p∈j.names,p.2 = .free->∃ c,X.env.cells.lookup p.1=some c:=λp hp e=>I.ok.has p.1 (.inl (O.free p hp e))
 obtain⟨cl,aw,P,a3⟩:=HF ax;refine wpAny_comprehension_free (use:=a2) rfl hs aw hk O.loc (mM (hi ac s σ H _ I h) λv s1 h1=>mM h1 λb4 s2 h2=>?_);obtain⟨it,fp,tn,J,H2,rfl,I2,B,bb,f2,hD⟩:=h2;refine eT ?_;have f:Inv X ac σ (upd H2 s2.heap.objs.size (.l [])) { s2 with heap:=s2.heap.push { cls:=.type "list",data:=.seq ([]:Aa Ac).toArray } }:=I2.lnew (t':=s2.toks) (its:=[]) (ys:=[]) .nil (dF _);have fD:H2 s2.heap.objs.size=none:=I2.fresh;obtain⟨W,⟨m0,w0⟩,ao⟩:=hD s2.heap.objs.size fD;generalize bo:s2.heap.objs.size=D at f fD w0 ao |-;have bz:tn 0 (s2.heap.push { cls:=.type "list",data:=.seq ([]:Aa Ac).toArray }):=B.keep _ _ _ bb λb _ o e=>aG _ e
 have a9:∀ b∈fp,b<D:=λb a=>by
  obtain⟨o,e,_⟩:=B.obj _ _ bb b a;rw[<- bo];exact bA e
 generalize bt:({ s2 with heap:=s2.heap.push { cls:=.type "list",data:=.seq ([]:Aa Ac).toArray } }:Ae)=K at f |-;have ag:tn 0 K.heap:=by rw[<- bt];exact bz
 generalize bp:upd H2 D (.l [])=M at f w0;have f3:∀ b∈fp,tU X ac M b:=λb a=>by
  obtain⟨z0,z⟩:=f2 b a;exact⟨by rw[<- bp,mQ (bK (a9 b a))];exact z0,z⟩
 refine OJ O.one (λZ V S old=>?_);have av:M K.heap.objs.size=none:=f.fresh;have ak:M (K.heap.objs.size+1)=none:=f.hok.fresh (iP _);generalize hC:K.heap.objs.size=C at V S av ak |-;have ba:∀ b o,K.heap.get? b=some o->b≠C:=λb o e=>by rw[<- hC];exact bK (bA e)
 have a5:∀ b∈fp,b≠C:=λb a=>by
  obtain⟨o,e,_⟩:=B.obj _ _ ag b a;exact ba b o e
 have a6:∀ b∈fp,b∉vM X.stack:=λb a z=>by
  rcases aO.mp (f.stkSub b z) with q | q
  .exact (f3 b a).2.1 q
  .exact (f3 b a).2.2.1 q
 have bm:∀ b∈fp,b<C:=λb a=>by
  obtain⟨o,e,_⟩:=B.obj _ _ ag b a;rw[<- hC];exact bA e
 have look:∀ x c,(Bd nw C++cl).lookup x=some c->(nw=some x/\c=C+1)\/(nw≠some x/\cl.lookup x=some c):=λx c e=>by
  cases nw with
  | none=>exact .inr ⟨(λz=>nomatch z),e⟩
  | some nm =>
   have e:((nm,C+1)::cl).lookup x=some c:=e;rw[dP] at e;cases a:x == nm with
   | true=>rw[a] at e;cases e;exact .inl ⟨by rw[iR.mp a],rfl⟩
   | false=>rw[a] at e;exact .inr ⟨(λz=>by cases z;simp at a),e⟩
 have lift:∀ x c,nw≠some x->cl.lookup x=some c->(Bd nw C++cl).lookup x=some c:=λx c n e=>by
  cases nw with
  | none=>exact e
  | some nm =>
   show ((nm,C+1)::cl).lookup x=some c;rw[dP,show (x == nm)=false from cY.mpr λz=>n (by rw[z])];exact e
 have ai:∀ x c,cl.lookup x=some c->c<C:=λx c e=>by
  obtain⟨v,o,ho,_⟩:=f.cell x c (P x c e);rw[<- hC];exact bA ho
 have aj:∀ b∈fp,∀ x c,(Bd nw C++cl).lookup x=some c->c≠b:=λb a x c e=>by
  rcases look x c e with⟨_,q⟩ | ⟨_,q⟩
  .exact λz=>absurd (bm b a) (by rw[<- z,q];exact Nat.not_lt.mpr (iP C))
  .exact (f3 b a).2.2.2.2.1 x c (P x c q)
 have a8:(sU nw X (T++U) j cl C K M fp).Ok:=by
  refine⟨f.ok.mod,hk,f.ok.glob,f.ok.blt,lY hC,λx y c R E=>?_,λx hx=>?_,λx c R E=>?_,f.ok.hd,f.ok.frames,.inl rfl,λb a=>⟨a5 b a,λx c e=>aj b a x c e⟩,λb o e=>f.bs b o e,?_,λb o e z=>?_,λb a=>a6 b a,f.stack,f.stkFree⟩
  .rcases look x c R with⟨q1,r1⟩ | ⟨q1,r1⟩
   .rcases look y c E with⟨q2,r2⟩ | ⟨q2,r2⟩
    .exact bU (q1.symm.trans q2)
    .exact absurd (ai y c r2) (by rw[r1];exact Nat.not_lt.mpr (iP C))
   .rcases look y c E with⟨q2,r2⟩ | ⟨q2,r2⟩
    .exact absurd (ai x c r1) (by rw[r2];exact Nat.not_lt.mpr (iP C))
    .exact f.ok.inj x y c (P x c r1) (P y c r2)
  .have bu:(relabel j X.env).names.lookup x=some .cell\/(relabel j X.env).names.lookup x=some .free:=hx;have hf:j.names.lookup x=some .cell\/j.names.lookup x=some .free:=by
    rcases bu with q | q
    .exact Wl q (.inl rfl)
    .exact Wl q (.inr rfl)
   show ∃ c,(Bd nw C++cl).lookup x=some c;by_cases a:nw=some x
   .subst a;exact⟨C+1,by show ((x,C+1)::cl).lookup x=_;rw[dP,iU]⟩
   .rcases hf with q | q
    .exact absurd (O.only x q) a
    .obtain⟨c,e⟩:=dH.mp (a3 x (eC q));exact⟨c,lift x c a e⟩
  .rcases look x c E with⟨q,r⟩ | ⟨q,r⟩
   .show K.heap.objs.size<=c;rw[r,hC];exact iP C
   .cases nw with
    | none =>
     have R:(cl.lookup x).isNone=true:=R;rw[r] at R;cases R
    | some nm =>
     have R:(x == nm||(cl.lookup x).isNone)=true:=R;rw[r,show (x == nm)=false from cY.mpr λz=>q (by rw[z])] at R;cases R
  .exact bN f.ok.bsz f.sz
  .obtain⟨z0,z1,z2,z3,_⟩:=f3 b z;rcases z3 with q | q
   .exact f.ok.noex b o e q
   .exact absurd (bI (bA e) (bN f.ok.bsz q)) (eM _)
 have I4:Inv (sU nw X (T++U) j cl C K M fp) [] (sT T aa σ) M { K with heap:=Z }:=by
  refine⟨a8,rfl,f.bare,Un.kept old,⟨_,V,λi x v R E e3=>?_⟩,λx c e=>?_,av,λx c e=>?_,λp hp=>absurd (show p∈([]:Aa (Ad×Obj)) from hp) (by simp),f.hok.kept old,?_⟩
  .have R:(T++U)[i]?=some x:=R;unfold sT at E;by_cases hi:i<T.length
   .rw[gO (by simpa using hi),bC] at E;cases q:T[i]? with
    | none=>rw[q] at E;cases E
    | some z=>rw[q] at E;cases E
   .rw[eK (by omega)] at R;rw[eK (by simpa using hi),bC,aA] at E;obtain⟨k,k1,k2,k3⟩:=O.cap _ x R;rw[k1] at E;have E:(σ[k]?).join=some v:=bU E;have bj:σ[k]?=some (some v):=by
     cases q:σ[k]? with
     | none=>rw[q] at E;cases E
     | some z=>rw[q] at E;exact cC some E
    have Y:X.env.kindOf x=some .cell:=O.free (x,.free) (eC k3) rfl;obtain⟨m,hn,hl⟩:=f.loc;obtain⟨u,r,l⟩:=hl k x v k2 bj (.inr (.inl Y));refine⟨u,r,.inr ⟨?_,?_⟩⟩
    .obtain⟨k',e5,e6⟩:=MG (env:=X.env) k3;rcases e6 with z | ⟨_,z⟩
     .subst z;exact .inr e5
     .subst z;exact .inl e5
    .rcases l with⟨l1,_⟩ | ⟨_,c,e7,o,ay,az⟩
     .rw[Y] at l1;cases l1
     .obtain⟨c',e8⟩:=dH.mp (a3 x (eC k3));have:=P x c' e8;rw[e7] at this;cases this;exact⟨c,lift x c (λz=>by rw[O.cel x z] at k3;cases k3) e8,o,old c o ay,az⟩
  .rcases look x c e with⟨n,q⟩ | ⟨_,q⟩
   .exact⟨none,q▸S x n⟩
   .obtain⟨v,o,ay,az⟩:=f.cell x c (P x c q);exact⟨v,o,old c o ay,az⟩
  .rcases look x c e with⟨_,q⟩ | ⟨_,q⟩
   .exact q▸ak
   .exact f.freeC x c (P x c q)
  .show (sT T aa σ).length=(T++U).length;unfold sT;rw[bF,bF,aA,aA,O.len]
 have au:∀ {H':Hp},(∀ b∈fp,H' b=none)->∀ b∈fp,tU (sU nw X (T++U) j cl C K M fp) [] H' b:=λhn b a =>
  ⟨hn b a,a5 b a,a6 b a,.inl a,λx c e=>aj b a x c e,λp hp=>absurd (show p∈([]:Aa (Ad×Obj)) from hp) (by simp)⟩
 have bc:tn 0 Z:=B.keep _ _ _ ag λb _ o e=>old b o e
 have b0:W 0 m0 [] (sT T aa σ) M:=w0;have an:codeAny (model X.prog X.w) X.A (.compLoop (.ListComp a4 [⟨tg,iter,af,0⟩] j pos) 0 (.ref it) (.ref D) (compEnvC j (Bd nw C++cl) C X.env))
   (compPost (model X.prog X.w) X.A X.xe a2 Qs (.ref D) C) { K with heap:=Z }:=by
  refine DT (λn s'=>∃ i ys be H',Inv (sU nw X (T++U) j cl C K M fp) [] be H' s'/\tn i s'.heap/\(∀ b∈fp,H' b=none)/\W i n ys be H') ?_ m0 ⟨0,[],sT T aa σ,M,I4,bc,λb a=>(f3 b a).1,b0⟩;rintro n s5 ⟨i,ys,ah,H5,I5,bd,a7,w5⟩;rcases ao i n ys ah H5 w5 with⟨stop,qn⟩ | ⟨go,N,F,hN,hF,step⟩
  .refine mM (B.done (sU nw X (T++U) j cl C K M fp) rfl rfl rfl hc i [] s5 ah H5 _ I5 (au a7) bd stop) λr s6 t=>?_
   obtain⟨hr,I6⟩:=t;subst hr;obtain⟨m6,br,_⟩:=I6.loc;have bq:H5 C=none:=I6.free;have ub:=I6.base;have a0:=f.fpOk (lY hC) av;refine fin C D s6 H5 (Inv.call' (s':=s6) (ch:=fp) f I6.os ?_ I6.hok I6.bare (λb a=>⟨(f3 b a).2.2.2.1,(f3 b a).2.1,(f3 b a).2.2.2.2.1,(f3 b a).2.2.2.2.2⟩)) qn ⟨bq,a0.2⟩ ⟨m6,br⟩;exact⟨λb o q n a hx=>ub.keep b o q n a hx,λb o q n a hx=>ub.slot b o q n a hx,ub.free,λb o q hx=>ub.there b o q hx,ub.tups,ub.frzs,ub.tbls⟩
  .refine mM (B.item (sU nw X (T++U) j cl C K M fp) rfl rfl rfl hc i [] s5 ah H5 _ I5 (au a7) bd go) λr s6 t=>?_
   obtain⟨u,hr,h6⟩:=t;subst hr;refine mM h6 λ_ s7 t=>?_
   obtain⟨x,H7,I7,r7,y7,a1,bn⟩:=t;have bh:=I7.pinned (au bn) (B.obj _ _ a1);have G:∀ {L:St} {H8:Hp} {s8:Ae},Inv (sU nw X (T++U) j cl C K M fp) ([]++C9 fp s7.heap) L H8 s8->tn (i+1) s8.heap/\(∀ b∈fp,H8 b=none):=λ{L H8 s8} I8=>by
    refine⟨B.keep _ _ _ a1 λb a o e=>(I8.pin (b,o) (aN _ (aN _ (Gr a e)))).1,λb a=>?_⟩;obtain⟨o,e,d⟩:=B.obj _ _ a1 b a;exact (I8.pin (b,o) (aN _ (aN _ (Gr a e)))).2.1
   refine mM (hg K M C cl fp _ s7 ah H7 x u _ bh r7 (step x H7 y7)) λ_ s8 t=>?_
   obtain⟨L,H8,I8,q8⟩:=t;refine mM (ht K M C cl fp _ s8 L H8 _ I8 q8) λok s9 t=>?_
   obtain⟨H9,I9,q9⟩:=t;cases ok with
   | false =>
    rw[aM (by simp)] at q9;rw[aM (by simp)];obtain⟨m',hm,w9⟩:=hF _ _ q9;exact⟨m',hm,i+1,ys,L,H9,I9.unpinned,(G I9).1,(G I9).2,w9⟩
   | true =>
    rw[aR rfl] at q9;rw[aR rfl];refine mM (he K M C cl fp _ s9 L H9 _ I9 q9) λvv bx t=>?_
    obtain⟨v,bf,bg,bw,bv⟩:=t;obtain⟨bi,b3,m',hm,b1⟩:=hN _ _ _ bv;refine mM (tX (X:=sU nw X (T++U) j cl C K M fp) _ bx L bf (.ref D) [v] (.ref D) [vv] (λ_ aq=>W (i+1) m' (ys++[v]) L aq) bg rfl (.cons bw .nil) ⟨D,ys,v,rfl,rfl,bi,b3,b1⟩) λ_ b5 t=>?_
    obtain⟨_,aq,ar,_,b2⟩:=t;exact⟨m',hm,i+1,ys++[v],L,aq,ar.unpinned,(G ar).1,(G ar).2,b2⟩
 exact codeAny_compStart_list an (B.self _ 0 _ _ _ bc an)
theorem Ry {D:Ad}(I:Inv X g J j p) (q:Q (.ref D) j) (r:tU X g j C) (l:∃ m,p.heap.Ns C m):compPost (model X.prog X.w) X.A X.xe none (EP X g J Q) (.ref D) C (.ok .next) p:=by
 obtain⟨m,l⟩:=l;refine⟨m,l,λd c=>⟨.ref D,j,I.moved (t':=p.toks) (fp:=[C]) (λb a=>?_) (λb o a e=>?_),rfl,q⟩⟩
 .rw[aV.mp a];exact r
 .exact c.extBut b o (λz=>a (aV.mpr z)) e
theorem yZ {iter:Expr}(T o:Aa Af) (r:Aa Nat) (hc:X.calm=true) (hi:PI X tg iter wi)
  (hk:j.kind = .function) (ho:C2 X.N X.env.kindOf j T o r=true)
  (hg:∀ p l C U J,PG (tZ X (T++o) j U C p l J) tg g)
  (ht:∀ p l C U J,vG (tZ X (T++o) j U C p l J) ab tt)
  (he:∀ p l C U J,PE (tZ X (T++o) j U C p l J) aa te)
  (hs:∀ x,foldedSetIterable iter X.env x=pure x:=by intro _;rfl) :
  PE X (.ListComp aa [⟨tg,iter,ab,0⟩] j pos) (zD T r wi g tt te):=by
 intro a s e H Q I h;rw[eval_ListComp];exact Ng (nw:=none) T o r hc hi hk (Od ho) hg ht he hs I h λC D d c I q J b=>Ry I q J b
end
structure Yields (J:It) (xs:List V) (R:Hp->Prop):Prop where
 go:∀ i H,i<xs.length->R H->J.go i H
 yld:∀ i H x H',i<xs.length->R H->J.yld i H x H'->H'=H/\xs[i]?=some x
 stop:∀ i H,i=xs.length->R H->J.stop i H
theorem CD {K:mH}:Yields (xX K a) g (λH=>mK K H a g) :=
 ⟨λi H b r=>⟨g,g[i],r,aH b⟩,λi H x c b r y=>⟨y.1,y.2 g r⟩,λi H e r=>⟨g,r,by omega⟩⟩
theorem Vt {lo:Int}:Yields (vQ lo n) ((List.range n).map λ(i:Nat)=>V.int (lo+(i:Int))) (λ_=>True) :=
 ⟨λi H a _=>by simpa [vQ] using a,λi H x b a _ y=>⟨y.1,by rw[y.2];simp at a;simp[a]⟩,λi H e _=>by simp[vQ,e]⟩
def zY (z:Af):Aa V:=z.cps.toList.map λc=>V.str ⟨#[c]⟩
theorem SD:Yields (wO z) (zY z) (λ_=>True) :=
 ⟨λi H a _=>by simpa [wO,zY,Str.length] using a,
  λi H x d a _ y=>by
   obtain⟨e,c,b,rfl⟩:=y;refine⟨e,?_⟩;unfold zY;rw[bC,dM,b];rfl,
  λi H e _=>by simp[wO,e,zY,Str.length]⟩
def Ln (o:St) (D:Ad) (Pv:Nat->Aa V->Hp->Prop) (i:Nat) (g:Aa V) (j:St):VK:=λv a=>(∃ t,j=t::o)/\a D=some (.l g)/\g.length<sizeLine/\Pv (i+1) (g++[v]) (upd a D (.l (g++[v])))
def X4 (l:St) (Pv:Nat->Aa V->Hp->Prop) (i:Nat) (o:Aa V) (g:St) (j:Hp):Prop:=(∃ t,g=t::l)/\Pv (i+1) o j
theorem K3 {R:Hp->Prop}{D:Ad}(Y:Yields J o R) (Pv:Nat->Aa V->Hp->Prop)
  (U:Pv 0 [] (upd T D (.l []))) (I:∀ i j H,i<=o.length->Pv i j H->R H)
  (hs:∀ i x j H,o[i]?=some x->Pv i j H->tt (some x::g.map (λi=>(r[i]?).join)) H λb C =>if b=true then te (some x::g.map (λi=>(r[i]?).join)) C (Ln (g.map (λi=>(r[i]?).join)) D Pv i j (some x::g.map (λi=>(r[i]?).join))) else X4 (g.map (λi=>(r[i]?).join)) Pv i j (some x::g.map (λi=>(r[i]?).join)) C)
  (hd:∀ j H,Pv o.length j H->Q (.ref D) H):Cm [nm] g J (zI 0) tt te r T Q D:=by
 refine⟨λi m j d H=>m=o.length-i/\i<=o.length/\(∃ t,d=t::g.map (λi=>(r[i]?).join))/\Pv i j H,⟨o.length,by simp,dF _,⟨none,rfl⟩,U⟩,?_⟩;rintro i m j d c ⟨rfl,h,⟨t,rfl⟩,p⟩;by_cases a:i<o.length
 .refine .inr ⟨Y.go i c a (I i j c h p),Ln (g.map (λi=>(r[i]?).join)) D Pv i j,X4 (g.map (λi=>(r[i]?).join)) Pv i j,?_,?_,λx q y=>?_⟩
  .rintro n v z ⟨k,s,u,f⟩;exact⟨s,u,o.length-(i+1),by omega,rfl,a,k,f⟩
  .rintro n C ⟨k,f⟩;exact⟨o.length-(i+1),by omega,rfl,a,k,f⟩
  .obtain⟨rfl,w⟩:=Y.yld i c x q a (I i j c h p) y;exact hs i x j q w p
 .have e:i=o.length:=by omega
  subst e;exact .inl ⟨Y.stop _ _ rfl (I _ j c h p),hd j c p⟩
def wQ:Expr->Bool
 | .Starred _ _=>false
 | _=>true
theorem ES (h:wQ e=true):starEach (e::j) g=(false,eval e g)::starEach j g:=by
 cases e<;>first | rfl | (cases h;done)
section
variable {X:Cx}
theorem nM (j:PE X e o) (l:PA X g t) (h:wQ e=true:=by rfl):PA X (e::g) (Fw o t):=xY j l (ES h)
def II (g:Aa Af):TA:=λ_ H Q=>Q (g.map V.str) H
theorem C4:∀ (l:Aa (Af×Nat×Pos)),PA X (l.map λp=>.Constant (.str p.1) p.2.1 p.2.2) (II (l.map (·.1)))
 | []=>oG
 | a::r=>λpos b s c H Q I h=>nM (yA (x:=a.1) (j:=a.2.1) (pos:=a.2.2)) (C4 r) (by rfl) pos b s c H Q I h
end
theorem Mg {R:Hp->Prop}{D:Ad}(Y:Yields J o R) (Pv:Nat->Aa V->Hp->Prop)
  (I:Pv 0 [] (upd C D (.l []))) (T:∀ i j H,i<=o.length->Pv i j H->R H)
  (U:∀ i x j H,o[i]?=some x->Pv i j H->te (some x::g.map (λi=>(r[i]?).join)) H (Ln (g.map (λi=>(r[i]?).join)) D Pv i j (some x::g.map (λi=>(r[i]?).join))))
  (hd:∀ j H,Pv o.length j H->Q (.ref D) H):Cm [nm] g J (zI 0) Cg te r C Q D:=by
 refine K3 Y Pv I T (λi x j H a p=>?_) hd;unfold Cg;dsimp only;rw[aR rfl];exact U i x j H a p
theorem RH {R:Hp->Prop}{D:Ad}(Y:Yields J g R) (f:V->V) (T:j D=none) (C:∀ H,pL j H->R H) (hl:g.length<=1000)
  (I:∀ (i:Nat) x H (k:VK),g[i]?=some x->pL j H->k (f x) H->U (some x::r.map (λi=>(σ[i]?).join)) H k)
  (hd:Q (.ref D) (upd j D (.l (g.map f)))):Cm [nm] r J (zI 0) Cg U σ j Q D:=by
 have sm:∀ o,pL j (upd j D o):=λo b u e=>by rw[mQ (nN e T)];exact e
 refine Mg Y (λi a H=>i<=g.length/\a=(g.take i).map f/\H=upd j D (.l a)) ⟨dF _,by simp,rfl⟩ (λi a H _ p=>C H (by rw[p.2.2];exact sm _)) ?_ ?_
 .rintro i x a H d ⟨m,rfl,rfl⟩;have c:=(aX.mp d).1;have h:g.take (i+1)=g.take i++[x]:=by rw[bR,d];rfl
  refine I i x _ _ d (sm _) ⟨⟨_,rfl⟩,mZ,?_,c,?_,?_⟩
  .rw[aA,bS];exact cO (show min i g.length<=1000 by omega) (by decide)
  .rw[h,aQ];rfl
  .rw[VH]
 .rintro a H ⟨_,rfl,rfl⟩;rw[bL (aW _)];exact hd
theorem Hc {X:Cx}{st:Stmt}{rest:Aa Stmt}{D:Ends}(I:St->Hp->Prop) (g:∀ u:TS,(∀ j l,I j l->u D j l)->∃ t,PS X st t/\t { D with nx:=u D } o H)
  (h:∀ j l,I j l->∃ u,pX X rest u/\u D j l):∃ t,pX X (st::rest) t/\t D o H:=by
 let u:TS:=λb j l=>∃ c,pX X rest c/\c b j l
 have k:pX X rest u:=λa s j l b d ⟨c,i,e⟩=>i a s j l b d e
 obtain⟨t,pt,f⟩:=g u h;exact⟨Mi t u,qL pt k,f⟩
theorem Pd {X:Cx}{st:Stmt}{rest:Aa Stmt}{D:Ends}(t:TS) (p:PS X st t) (h:t { D with nx:=λg j=>∃ u,pX X rest u/\u D g j } l H):∃ t,pX X (st::rest) t/\t D l H:=by
 let u:TS:=λb g j=>∃ c,pX X rest c/\c b g j
 have i:pX X rest u:=λa s g j b d ⟨c,f,e⟩=>f a s g j b d e
 exact⟨Mi t u,qL p i,h⟩
section
variable {X:Cx}{id:String}
def BW (K:mH):Aa V->Hp->VK->Prop:=λb H Q=>∃ p a,b=[.ref p]/\(mK K H p a\/nG K H p a)/\Q (.int a.length) H
theorem Zo (K:mH) (g:X.K=K:=by rfl):nW X (.builtin "len") (BW K):=by subst g;exact Ej
theorem LB (K:mH) (pa:PlainAttrs T) (slot:Slot T name id) (j:typeOf (.builtin id)=pure (.type "method_descriptor")) (J:xN X id r) (U:PE X o to) (C:PA X (e::l) t) (p:X.K=K:=by rfl)
  (I:MtB X o name apos e l g:=by exact {}) :
  PE X (.Call (.Attribute o name apos) (e::l) [] g) (S6 K T r to t):=by
 subst p;exact Bx pa slot j J U C I
end
section
variable {X:Cx}
theorem BZ (g:X.A.units+64<cLine):nC X (compareOp .NotEq) (Oi X.K true):=by
 intro c s M H x y v u Q I F G h;obtain⟨a,b,L,rfl,rfl,f,z,q⟩:=h;cases F;cases G;obtain⟨B,D,m,_⟩:=I.list f;obtain⟨k,E,n,_⟩:=I.list z;cases E;have t:∀ d,d = !L.isEmpty->EP X c M Q (.bool d) s:=λd e=>⟨.b d,H,I,rfl,by subst e;exact q⟩
 cases D with
 | nil=>exact SeqAt.RcNeAt.lists (e:=λ_=>true) m.isList n.isList rfl (by omega) (λi f _=>by simp at f) X.prog X.w _ _ (t _ (by simp))
 | cons r N=>exact SeqAt.RcNeAt.lists_lengths m.isList n.isList (by simp) (by omega) X.prog X.w _ _ (t _ rfl)
def P0 (K:mH):Aa V->Hp->VK->Prop:=λd H Q=>∃ (x c:V) (t a:Ac) (b:Bool),d=[x,c]/\mX c a/\TyOf K H x t/\PySem.W.kitOne K t a=some b/\Q (.b b) H
theorem E8 (K:mH) (g:X.K=K:=by rfl):nW X (.builtin "isinstance") (P0 K):=by subst g;exact DE
end
section
variable {X:Cx}
theorem Pc {bs:Aa Bool}{g:Aa Ac}(r:mV (bs.map V.b) g){i:Nat}{v:Ac}(h:g[i]?=some v):∃ b,bs[i]?=some b/\v = .bool b:=by
 have d:=r.length;rw[aA] at d;have f:i<g.length:=(aX.mp h).1;have a:bs[i]?=some (bs[i]'(by omega)):=aH (by omega);obtain⟨u,c,e⟩:=r.get (i:=i) (x:=V.b (bs[i]'(by omega))) (by rw[bC,a];rfl);rw[h] at c;cases c;exact⟨_,a,e⟩
theorem IP (bs:Aa Bool):((List.range bs.length).all λi=>(bs[i]?).getD true)=bs.all id:=by
 have e:(List.range bs.length).map (λi=>(bs[i]?).getD true)=bs:=by
  apply List.ext_getElem (by simp);intro i p q;simp[q]
 calc ((List.range bs.length).all λi=>(bs[i]?).getD true)=((List.range bs.length).map λi=>(bs[i]?).getD true).all id:=by rw[jW];rfl
  _=bs.all id:=by rw[e]
def Rv (K:mH):Aa V->Hp->VK->Prop:=λa H Q=>∃ (p:Ad) (bs:Aa Bool),a=[.ref p]/\mK K H p (bs.map V.b)/\Q (.b (bs.all id)) H
theorem Dr (g:X.calm=true):nW X (.builtin "all") (Rv X.K):=by
 intro m s P H O N Q I r h;obtain⟨p,bs,rfl,z,q⟩:=h;obtain⟨u,rfl,D⟩:=qC r;cases D;obtain⟨c,n,B,_⟩:=I.list z;have d:=B.isList;have a:=n.length;rw[aA] at a;have f:p<s.heap.objs.size:=by obtain⟨_,e,_⟩:=id d;exact bA e
 refine call_all_walk (fB d ?_);refine⟨s.heap.objs.size,[s.heap.objs.size,p],[s.heap.objs.size],c.toArray.size,_,_,λi=>(bs[i]?).getD true,rfl,Walks.list (A:=X.A.in1) (I.ok.hd g) _ p (bK f) c.toArray,⟨⟨_,bB _ rfl,rfl,rfl⟩,d.push _⟩,λi v L F E t k=>?_,λG M w=>?_⟩
 .obtain⟨b,e,rfl⟩:=Pc n (by simpa using t);simp only[e,Option.getD_some] at k;exact fA k
 .have e:((List.range c.toArray.size).all λi=>(bs[i]?).getD true)=bs.all id:=by
   rw[aZ,<- a];exact IP bs
  rw[e];exact⟨.b _,H,I.kept λb x e=>w b x (λy=>by rw[aV.mp y] at e;exact eM _ (bA e)) (aG _ e),rfl,q⟩
def Tp:V->Aa V->Hp->VK->Prop:=λx a H Q=>∃ (z y:Af),x = .str z/\a=[.str y]/\y.length≠0/\z.length<=1000000/\∀ p,H p=none->Q (.ref p) (upd H p (.l ((Txt.split z y).map V.str)))
theorem Qj:∀ (l:Aa (Af×Tok)),mV ((l.map (·.1)).map V.str) (strValues l)
 | []=>.nil
 | a::r=>.cons ⟨a.2,rfl⟩ (Qj r)
theorem NT:xN X "str.split" Tp:=by
 intro b s A H x F v E Q I w n h;obtain⟨z,y,rfl,rfl,m,D,q⟩:=h;obtain⟨t,rfl⟩:=w;obtain⟨u,rfl,c,rfl⟩:=n.one;have a:(y.length == 0)=false:=by simpa using m
 have fin:∀ (l:Aa (Af×Tok)) (d:Nat),l.map (·.1)=Txt.split z y->l.length<=sizeLine->EP X b A Q (.ref s.heap.objs.size) { s with heap:=s.heap.push { cls:=.type "list",data:=.seq (strValues l).toArray },toks:=d }:=by
  intro l d e k;refine⟨.ref _,_,I.lnew (its:=strValues l) (ys:=(Txt.split z y).map V.str) (t':=d) (by rw[<- e];exact Qj l) ?_,rfl,q _ I.fresh⟩;rw[aA,<- e,aA];exact k
 have f:(Builtin.Str.partsBetween z (Builtin.Str.occurrences z y 0 z.length (z.length+1)) y.length).length<=sizeLine:=by
  have B:=StrLaws.occ_length_le z y 0 z.length (z.length+1);rw[length_partsBetween,kQ];omega
 cases g1:(decide (z.length<y.length)||decide (Builtin.Str.strKind z<Builtin.Str.strKind y)) with
 | false =>
  cases g2:(Builtin.Str.occurrences z y 0 z.length (z.length+1)).isEmpty with
  | false =>
   refine iQ iF (lI _ _ _) jO (jD _ _) (meets_str_split_sep z y t c g1 a g2 (by rw[kQ];omega) f) ?_;show wants _ _ _ { s with toks:=_,heap:=s.heap.push { cls:=.type "list",data:=.seq (strsFrom s.toks (Builtin.Str.partsBetween z (Builtin.Str.occurrences z y 0 z.length (z.length+1)) y.length)).toArray } };rw[strsFrom_eq];have i:(numbered s.toks (Builtin.Str.partsBetween z (Builtin.Str.occurrences z y 0 z.length (z.length+1)) y.length)).map (·.1)=Txt.split z y:=(numbered_texts _ _).trans ((aM (kZ g1)).trans (aM (kZ g2))).symm;refine fin _ _ i ?_;have:=cC List.length (numbered_texts s.toks (Builtin.Str.partsBetween z (Builtin.Str.occurrences z y 0 z.length (z.length+1)) y.length));rw[aA] at this;rw[this];exact f
  | true =>
   exact iQ iF (lI _ _ _) jO (jD _ _) (meets_str_split_not_found z y t c g1 a g2)
    (fin [(z,t)] s.toks ((aM (kZ g1)).trans (aR g2)).symm (by show 1<=sizeLine;decide))
 | true =>
  exact iQ iF (lI _ _ _) jO (jD _ _) (meets_str_split_cannot_occur z y t c g1)
   (fin [(z,t)] s.toks (aR g1).symm (by show 1<=sizeLine;decide))
end
section
variable {X:Cx}
theorem Inv.movedT {t':Nat}{p:Aa Ad}{ys:Aa V}{j:Aa Ac}(I:Inv X g U H s) (l:∀ b∈p,tU X g H b) (k:∀ b o,b∉p->s.heap.get? b=some o->C.get? b=some o)
  (new:yB C s.heap.objs.size j.toArray) (T:mV ys j) (J:ys.length<=sizeLine):Inv X g U (upd H s.heap.objs.size (.t ys)) { s with heap:=C,toks:=t' }:=by
 have f:=I.fresh;have h:∀ b u,H b=some u->b∉p:=λb u e z=>by rw[(l b z).1] at e;cases e
 have lt:∀ b o,s.heap.get? b=some o->b≠s.heap.objs.size:=λb o e=>bK (bA e)
 refine I.step (g':=s.gens) (d':=s.drawn) (ch:=p) (λb a=>⟨(l b a).2.2.2.1,(l b a).2.1,(l b a).2.2.2.2.1,(l b a).2.2.2.2.2⟩) (λb o _ _ d e _=>k b o d e) (λb o _ _ d e _=>⟨o.slots,k b o d e⟩) (λb o _ e n=>by rw[mQ (lt b o e)];exact n)
  (λb o d e=>⟨o,k b o d e⟩) (λb A e=>by rw[mQ (nN e f)];exact e) (λb o u e=>by rw[mQ (nN e f)];exact e) (λb B e=>⟨#[],by rw[mQ (nN e f),e];simp⟩) (λm x=>?_) (λb u e=>?_) I.bare
 .obtain⟨o,w,i,y,r⟩:=x;exact⟨o,w,i,k _ o (λz=>(l _ z).2.1 rfl) y,r⟩
 .by_cases a:b=s.heap.objs.size
  .subst a;rw[mZ] at e;cases e;exact⟨J,j,T,new⟩
  .rw[mQ a] at e;refine (I.hok b u e).stay (λc v d q=>k c v ?_ q) (λc q=>by rw[mQ (nN q f)];exact q) λc A q=>by rw[mQ (nN q f)];exact q
   rcases d with z | z
   .rw[z];exact h b u e
   .exact h c _ z
end
section
variable {X:Cx}
theorem NP {iter:Expr}(T p:Aa Af) (J:Aa Nat) (hN:X.N.Nodup) (af:X.N[i]?=some x) (hx:xP X.env.scope x)
  (hc:X.calm=true) (hi:PI X tg iter wi) (hk:j.kind = .function) (ho:C2 X.N X.env.kindOf j T p J=true)
  (hg:∀ r l C cl U,PG (tZ X (T++p) j cl C r l U) tg g)
  (ht:∀ r l C cl U,vG (tZ X (T++p) j cl C r l U) ac tt)
  (he:∀ r l C cl U,PE (tZ X (T++p) j cl C r l U) ab te)
  (ag:swapsWith (.ListComp ab [⟨tg,iter,ac,0⟩] j pos) (some (.Name x aa)) ae.line X.env=pure true:=by rfl)
  (hs:∀ x,foldedSetIterable iter X.env x=pure x:=by intro _;rfl)
  (hf:X.fn x=true\/X.env.scope.names.lookup x=some .local:=by first | exact .inl rfl | exact .inr rfl | assumption) :
  PS X (.Assign [.Name x aa] (.ListComp ab [⟨tg,iter,ac,0⟩] j pos) ae) (Om (zD T J wi g tt te) (zI i)):=by
 intro u s M H D I h;rw[exec_Assign_Name_used _ _ _ _ ag];refine aB (lU (aB ?_));show wpAny _ _ (comprehension _ _ _ _ _ _ _ _ >>= λ_=>pure ()) _ _ _;refine aB (Ng (nw:=none) T p J hc hi hk (Od ho) hg ht he hs I h λC t L w A q U k=>?_);obtain⟨m,E⟩:=k;show wpAny _ _ (assign (.Name x aa) X.env (.ref t)) _ _ _;refine wpAny_assign_Name (T6 A hN af hx (v:=.ref t) rfl (λF y f=>?_) hf);obtain⟨a,G,B⟩:=f;have c:C≠a:=by
  rcases B with z | z
  .rw[z];exact U.2.1
  .exact (U.2.2.2.2.1 x a z).symm
 refine⟨m,E.sameBut G c,λK n=>aE (aE ⟨_,w,y.moved (t':=F.toks) (fp:=[C]) (λb d=>?_) (λb o d e=>?_),q⟩)⟩
 .rw[aV.mp d];exact U
 .exact n.extBut b o (λz=>d (aV.mpr z)) e
end
inductive D where
 | e | b (b:Bool) | int (i:Int) | str (x:Str) | r (v:V)
 | t (xs:List D) | l (xs:List D)
 | k (kvs:List (dT×D)) | T (kvs:List (List dT×D))
 | c (xs:List D)
 | con (xs:List D)
def Dt (K:mH) (a:Ad) (g:Aa V):Prop:=∃ (o:Obj) (b:Array Ac) (n:Nat),K.lookup a=some o/\o.cls = .type "tuple" /\ o.data = .seq b n/\b.size<=sizeLine/\mV g b.toList
theorem Dt.sqT {K:mH}(h:Dt K a g):nG K H a g:=.inr h
def yN (K:mH) (H:Hp) (a:Ad) (g:Aa V):Prop:=(∃ o,H a=some (.frz o (.l g))) \/
 ∃ (o:Obj) (b:Array Ac) (n:Nat),K.lookup a=some o/\o.cls = .type "list" /\ o.dict=none/\o.data = .seq b n/\b.size<=sizeLine/\mV g b.toList
theorem yN.sqL {K:mH}(h:yN K H a g):mK K H a g:=h.elim (λh=>.inl (.inr h)) .inr
mutual
inductive Rep (K:mH) (A:Addr->Prop) (H:Hp):D->V->Prop where
 | e:Rep K A H .e .e
 | b (b:Bool):Rep K A H (.b b) (.b b)
 | int (i:Int):Rep K A H (.int i) (.int i)
 | str (x:Str):Rep K A H (.str x) (.str x)
 | r (v:V):Rep K A H (.r v) v
 | t {a:Addr} {vs:List V} {ds:List D}:H a=some (.t vs)->Reps K A H ds vs->Rep K A H (.t ds) (.ref a)
 | con {a:Addr} {vs:List V} {ds:List D}:Dt K a vs->Reps K A H ds vs->Rep K A H (.con ds) (.ref a)
 | l {a:Addr} {vs:List V} {ds:List D}:A a->H a=some (.l vs)->Reps K A H ds vs->Rep K A H (.l ds) (.ref a)
 | c {a:Addr} {vs:List V} {ds:List D}:yN K H a vs->Reps K A H ds vs->Rep K A H (.c ds) (.ref a)
 | k {a:Addr} {kvs:List (dT×V)} {ds:List (dT×D)}:A a->H a=some (.k kvs)->ds.map (·.1)=kvs.map (·.1)->Reps K A H (ds.map (·.2)) (kvs.map (·.2))->Rep K A H (.k ds) (.ref a)
 | T {a:Addr} {kvs:List (List dT×V)} {ds:List (List dT×D)}:A a->Rd H a (.T kvs)->ds.map (·.1)=kvs.map (·.1)->Reps K A H (ds.map (·.2)) (kvs.map (·.2))->Rep K A H (.T ds) (.ref a)
inductive Reps (K:mH) (A:Addr->Prop) (H:Hp):List D->List V->Prop where
 | nil:Reps K A H [] []
 | cons {d:D} {v:V} {ds:List D} {vs:List V}:Rep K A H d v->Reps K A H ds vs->Reps K A H (d::ds) (v::vs)
end
def Gf:HO->Bool
 | .t _=>true
 | .frz _ _=>true
 | _=>false
def Kp (A j:Ad->Prop) (H g:Hp):Prop:=(∀ a o,A a->H a=some o->j a/\g a=some o)/\∀ a o,Gf o=true->H a=some o->g a=some o
section
variable {K:mH}
theorem Kp.sqF (k:Kp A l H g) (h:yN K H a j):yN K g a j:=by
 rcases h with⟨o,h⟩ | h
 .exact .inl ⟨o,k.2 _ _ rfl h⟩
 .exact .inr h
theorem Kp.rd (k:Kp A j H l) (g:A a) (h:Rd H a u):j a/\Rd l a u:=by
 rcases h with h | ⟨o,h⟩
 .exact⟨(k.1 _ _ g h).1,.inl (k.1 _ _ g h).2⟩
 .exact⟨(k.1 _ _ g h).1,.inr ⟨o,(k.1 _ _ g h).2⟩⟩
theorem Rep.mono (k:Kp A g H j) (h:Rep K A H d v):Rep K g j d v :=
 Rep.rec (motive_1:=λd v _=>Rep K g j d v) (motive_2:=λf i _=>Reps K g j f i) .e .b .int .str .r (λh _ r=>.t (k.2 _ _ rfl h) r) (λh _ r=>.con h r)
  (λa h _ r=>.l (k.1 _ _ a h).1 (k.1 _ _ a h).2 r) (λh _ r=>.c (k.sqF h) r) (λa h e _ r=>.k (k.1 _ _ a h).1 (k.1 _ _ a h).2 e r) (λa h e _ r=>.T (k.rd a h).1 (k.rd a h).2 e r) .nil (λ_ _ h r=>.cons h r) h
theorem Reps.mono (k:Kp A o H p) (h:Reps K A H j l):Reps K o p j l:=by
 induction j generalizing l with
 | nil=>cases h;exact .nil
 | cons d j a=>cases h with | cons g r=>exact .cons (g.mono k) (a r)
theorem Kp.all (h:∀ a,A a->g a):Kp A g H H:=⟨λa o b e=>⟨h a b,e⟩,λ_ _ _ e=>e⟩
theorem Kp.trans (a:Kp A l H r) (b:Kp l g r j):Kp A g H j:=⟨λx o c e=>let ⟨p,q⟩:=a.1 x o c e;b.1 x o p q,λx o t e=>b.2 x o t (a.2 x o t e)⟩
theorem Kp.laid (g:H p=none) (h:∀ a,A a->a≠p->j a):Kp A j H (upd H p o) :=
 ⟨λa u b e=>⟨h a b (nN e g),by rw[mQ (nN e g)];exact e⟩,λa u _ e=>by rw[mQ (nN e g)];exact e⟩
theorem Kp.same (s:pL H j) (h:∀ a,A a->g a):Kp A g H j:=⟨λa o b e=>⟨h a b,s a o e⟩,λa o _ e=>s a o e⟩
theorem Kp.write (l:H p=some u) (g:Gf u=false) (j:¬ A p):Kp A A H (upd H p o):=by
 refine⟨λa w b e=>⟨b,?_⟩,λa w t e=>?_⟩
 .rw[mQ (λz:a=p=>j (by rw[<- z];exact b))];exact e
 .rw[mQ (λz=>?_)]
  .exact e
  .subst z;rw[l] at e;cases e;rw[t] at g;cases g
theorem Reps.length (h:Reps K A H j l):j.length=l.length:=by
 induction j generalizing l with
 | nil=>cases h;rfl
 | cons d j a=>cases h with | cons g r=>exact cC (·+1) (a r)
theorem Reps.get {j:Aa D}{l:Aa V}{i:Nat}{d:D}(h:Reps K A H j l) (e:j[i]?=some d):∃ v,l[i]?=some v/\Rep K A H d v:=by
 induction j generalizing l i with
 | nil=>cases e
 | cons c j a =>
  cases h with
  | cons g r =>
   cases i with
   | zero=>cases e;exact⟨_,rfl,g⟩
   | succ i=>exact a r (i:=i) e
theorem Reps.getV {j:Aa D}{l:Aa V}{i:Nat}{v:V}(h:Reps K A H j l) (e:l[i]?=some v):∃ d,j[i]?=some d/\Rep K A H d v:=by
 induction j generalizing l i with
 | nil=>cases h;cases e
 | cons c j a =>
  cases h with
  | cons g r =>
   cases i with
   | zero=>cases e;exact⟨_,rfl,g⟩
   | succ i=>exact a r (i:=i) e
theorem Reps.append (h:Reps K A H j l) (s:Reps K A H o p):Reps K A H (j++o) (l++p):=by
 induction j generalizing l with
 | nil=>cases h;exact s
 | cons d j a=>cases h with | cons g r=>exact .cons g (a r)
theorem Reps.take:∀ {g:Aa D}{j:Aa V}(n:Nat),Reps K A H g j->Reps K A H (g.take n) (j.take n)
 | _,_,0,_=>by rw[lL,lL];exact .nil
 | _,_,n+1,.nil=>.nil
 | _,_,n+1,.cons h r=>.cons h (Reps.take n r)
theorem Reps.drop:∀ {g:Aa D}{j:Aa V}(n:Nat),Reps K A H g j->Reps K A H (g.drop n) (j.drop n)
 | _,_,0,h=>h
 | _,_,n+1,.nil=>.nil
 | _,_,n+1,.cons h r=>Reps.drop n r
theorem Reps.set (h:Rep K A H d v):∀ {j:Aa D}{l:Aa V}(i:Nat),Reps K A H j l->Reps K A H (j.set i d) (l.set i v)
 | _,_,_,.nil=>.nil
 | _,_,0,.cons _ r=>.cons h r
 | _,_,i+1,.cons g r=>.cons g (Reps.set h i r)
theorem Reps.erase:∀ {j:Aa D}{l:Aa V}(i:Nat),Reps K A H j l->Reps K A H (j.eraseIdx i) (l.eraseIdx i)
 | _,_,_,.nil=>.nil
 | _,_,0,.cons _ r=>r
 | _,_,i+1,.cons g r=>.cons g (Reps.erase i r)
theorem Reps.nil_iff (h:Reps K A H g j):j=[]↔g=[]:=by
 cases h<;>simp
theorem Rep.int_inv (h:Rep K A H (.int i) v):v = .int i:=by cases h;rfl
theorem Rep.str_inv (h:Rep K A H (.str i) v):v = .str i:=by cases h;rfl
theorem Rep.bl_inv (h:Rep K A H (.b i) v):v = .b i:=by cases h;rfl
theorem Rep.non_inv (h:Rep K A H .e v):v = .e:=by cases h;rfl
theorem Rep.raw_inv (h:Rep K A H (.r u) v):v=u:=by cases h;rfl
theorem Rep.tup_inv (h:Rep K A H (.t j) v):∃ a g,v = .ref a/\H a=some (.t g)/\Reps K A H j g:=by
 cases h with | t h r=>exact⟨_,_,rfl,h,r⟩
theorem Rep.lst_inv (h:Rep K A H (.l j) v):∃ a g,v = .ref a/\A a/\H a=some (.l g)/\Reps K A H j g:=by
 cases h with | l d h r=>exact⟨_,_,rfl,d,h,r⟩
theorem Rep.con_inv (h:Rep K A H (.con j) v):∃ a g,v = .ref a/\Dt K a g/\Reps K A H j g:=by
 cases h with | con h r=>exact⟨_,_,rfl,h,r⟩
theorem Rep.scr_inv (h:Rep K A H (.c j) v):∃ a g,v = .ref a/\yN K H a g/\Reps K A H j g:=by
 cases h with | c h r=>exact⟨_,_,rfl,h,r⟩
theorem Rep.dK_inv (h:Rep K A H (.k j) v):∃ a g,v = .ref a/\A a/\H a=some (.k g)/\j.map (·.1)=g.map (·.1)/\Reps K A H (j.map (·.2)) (g.map (·.2)):=by
 cases h with | k d h e r=>exact⟨_,_,rfl,d,h,e,r⟩
theorem Rep.dT_inv (h:Rep K A H (.T j) v):∃ a g,v = .ref a/\A a/\Rd H a (.T g)/\j.map (·.1)=g.map (·.1)/\Reps K A H (j.map (·.2)) (g.map (·.2)):=by
 cases h with | T d h e r=>exact⟨_,_,rfl,d,h,e,r⟩
end
mutual
def imm:D->Bool
 | .t a=>xJ a
 | .c a=>xJ a
 | .con a=>xJ a
 | .l _=>false
 | .k _=>false
 | .T _=>false
 | _=>true
def xJ:Aa D->Bool
 | []=>true
 | d::a=>imm d&&xJ a
end
section
variable {K:mH}
theorem Rep.imm (h:Rep K A H d v):imm d=true->Rep K g H d v :=
 Rep.rec (motive_1:=λd v _=>L2.imm d=true->Rep K g H d v) (motive_2:=λa f _=>xJ a=true->Reps K g H a f) (λ_=>.e) (λb _=>.b b) (λi _=>.int i) (λx _=>.str x) (λv _=>.r v) (λh _ r e=>.t h (r e)) (λh _ r e=>.con h (r e))
  (λ_ _ _ _ e=>Bool.noConfusion (show false=true from e)) (λh _ r e=>.c h (r e)) (λ_ _ _ _ _ e=>Bool.noConfusion (show false=true from e)) (λ_ _ _ _ _ e=>Bool.noConfusion (show false=true from e)) (λ_=>.nil) (λ_ _ h r e=>.cons (h (iS.mp e).1) (r (iS.mp e).2)) h
theorem Reps.imm (h:Reps K A H j l) (e:xJ j=true):Reps K o H j l:=by
 induction j generalizing l with
 | nil=>cases h;exact .nil
 | cons d j a=>cases h with | cons g r=>exact .cons (g.imm (iS.mp e).1) (a r (iS.mp e).2)
end
end L2
namespace Lw
open PySem L2
structure DeckAt (H:Hp) (d c:Addr):Prop where
 ex:∃ (ns:List Int) (p:Int),H d=some (.l [.ref c,.int p])/\H c=some (.l (ns.map V.int))/\0<ns.length/\ns.length<=100
def nS (d c:Ad) (H g:Hp):Prop:=∀ b o,H b=some o->b≠d->b≠c->g b=some o
theorem nS.trans (a:nS d c H g) (b:nS d c g j):nS d c H j:=λx o e f h=>b x o (a x o e f h) f h
theorem nS.new (h:H p=none):nS d c H (upd H p o):=λb u e _ _=>by rw[mQ (nN e h)];exact e
theorem DeckAt.ne (D:DeckAt H d c):d≠c:=by
 obtain⟨i,p,f,b,h,_⟩:=D.ex;intro e;subst e;rw[f] at b;injection b with b;injection b with b;cases i with
 | nil=>simp at h
 | cons a r=>simp at b
theorem DeckAt.upd_other (D:DeckAt H d c) (hd:p≠d) (g:p≠c):DeckAt (upd H p o) d c:=by
 obtain⟨h,q,a,b,e,f⟩:=D.ex;exact⟨h,q,by rw[mQ hd.symm];exact a,by rw[mQ g.symm];exact b,e,f⟩
theorem DeckAt.ned (D:DeckAt H d c) (h:H p=none):p≠d/\p≠c:=by
 obtain⟨e,q,a,b,_⟩:=D.ex;exact⟨(nN a h).symm,(nN b h).symm⟩
theorem DeckAt.new (D:DeckAt H d c) (h:H p=none):DeckAt (upd H p o) d c:=D.upd_other (D.ned h).1 (D.ned h).2
end Lw
namespace L2
open PySem PySem.Spec PyProof.Rows Lw
inductive Sl where
 | n | v (d:D) | o (d:D)
abbrev oF:=Aa (Sl×Ab V)
def Dk (g:Aa Ad) (H:Hp):Prop:=g=[]\/∃ d c,g=[d,c]/\DeckAt H d c
theorem Dk.some (h:Dk j H) (g:a∈j):∃ o,H a=some (.l o):=by
 rcases h with rfl | ⟨d,c,rfl,h⟩
 .cases g
 .obtain⟨f,p,b,e,_⟩:=h.ex;rcases aO.mp g with rfl | g
  .exact⟨_,b⟩
  .rcases aO.mp g with rfl | g
   .exact⟨_,e⟩
   .cases g
theorem Dk.keep (h:Dk g H) (k:∀ a∈g,j a=H a):Dk g j:=by
 rcases h with rfl | ⟨d,c,rfl,h⟩
 .exact .inl rfl
 .refine .inr ⟨d,c,rfl,?_⟩;obtain⟨i,p,b,e,f⟩:=h.ex;exact⟨i,p,by rw[k d (by simp)];exact b,by rw[k c (by simp)];exact e,f⟩
theorem Dk.upd (h:Dk g H) (j:p∉g):Dk g (upd H p o):=h.keep λa b=>mQ λz=>j (z▸b)
noncomputable def A7:Sl×Ab V->Ab Ad
 | (.o _,some (.ref a))=>some a
 | _=>none
def hI (L:oF):Aa Ad:=L.filterMap A7
structure Bs where
 dk:List Addr
 A0:Addr->Prop
 H0:Hp
def Al (B:Bs) (R:Aa Ad) (a:Ad):Prop:=a∉B.dk/\a∉R/\(B.A0 a\/B.H0 a=none)
def pM (K:mH) (A:Ad->Prop) (H:Hp) (a:Ad):D->Prop
 | .l c=>∃ d,H a=some (.l d)/\Reps K A H c d
 | .k c=>∃ b,H a=some (.k b)/\c.map (·.1)=b.map (·.1)/\Reps K A H (c.map (·.2)) (b.map (·.2))
 | .T c=>∃ b,H a=some (.T b)/\c.map (·.1)=b.map (·.1)/\Reps K A H (c.map (·.2)) (b.map (·.2))
 | _=>False
def tN (K:mH) (A:Ad->Prop) (H:Hp):Sl->Ab V->Prop
 | .n,_=>True
 | .v d,x=>∃ v,x=some v/\Rep K A H d v
 | .o d,x=>∃ a,x=some (.ref a)/\pM K A H a d
structure DS (K:mH) (B:Bs) (L:oF) (H:Hp):Prop where
 fr:∀ b o,B.H0 b=some o->b∉B.dk->H b=some o
 dk:Dk B.dk H
 nd:(hI L).Nodup
 new:∀ a∈hI L,B.H0 a=none/\a∉B.dk
 ok:∀ p∈L,tN K (Al B (hI L)) H p.1 p.2
section
variable {K:mH}{L2:oF}
theorem pM.mono (k:Kp A p H j) (g:∀ o,H a=some o->j a=some o) (h:pM K A H a d):pM K p j a d:=by
 cases d with
 | l _=>obtain⟨b,h,r⟩:=h;exact⟨b,g _ h,r.mono k⟩
 | k _=>obtain⟨b,h,e,r⟩:=h;exact⟨b,g _ h,e,r.mono k⟩
 | T _=>obtain⟨b,h,e,r⟩:=h;exact⟨b,g _ h,e,r.mono k⟩
 | _=>exact False.elim h
theorem pM.some:∀ {d:D},pM K A H a d->∃ o,H a=some o/\Gf o=false
 | .l _,⟨b,h,r⟩=>⟨_,h,rfl⟩
 | .k _,⟨b,h,e,r⟩=>⟨_,h,rfl⟩
 | .T _,⟨b,h,e,r⟩=>⟨_,h,rfl⟩
theorem pM.rep (g:∀ b,A b->o b) (j:o a):∀ {d:D},pM K A H a d->Rep K o H d (.ref a)
 | .l _,⟨c,h,r⟩=>.l j h (r.mono (.all g))
 | .k _,⟨c,h,e,r⟩=>.k j h e (r.mono (.all g))
 | .T _,⟨c,h,e,r⟩=>.T j (.inl h) e (r.mono (.all g))
theorem tN.mono (k:Kp A j H g) (h:tN K A H s y) (l:∀ a,A7 (s,y)=some a->∀ o,H a=some o->g a=some o):tN K j g s y:=by
 cases s with
 | n=>trivial
 | v d=>obtain⟨v,e,r⟩:=h;exact⟨v,e,r.mono k⟩
 | o d=>obtain⟨a,rfl,r⟩:=h;exact⟨a,rfl,r.mono k (l a rfl)⟩
theorem sE:hI (g++L2)=hI g++hI L2:=kC
theorem vE:a∈hI L↔∃ p∈L,A7 p=some a:=lG
theorem rK:hI (L1++x::L2)=hI L1++((A7 x).toList++hI L2):=by
 unfold hI;rw[List.filterMap_append,List.filterMap_cons];cases A7 x<;>rfl
theorem DS.live (h:DS K B L H) (g:a∈hI L):∃ o,H a=some o/\Gf o=false:=by
 obtain⟨p,c,e⟩:=vE.mp g;have:=h.ok p c;obtain⟨s,y⟩:=p;cases s with
 | n=>cases e
 | v d=>cases e
 | o d =>
  obtain⟨b,rfl,r⟩:=this;cases e;exact r.some
theorem DS.drop (h:DS K B (L1++x::L2) H):DS K B (L1++L2) H:=by
 have e:=rK (L1:=L1) (x:=x) (L2:=L2);have d:∀ a,a∈hI (L1++L2)->a∈hI (L1++x::L2):=λa c=>by
  rw[sE] at c;rw[e];simp only[aU] at c |-;rcases c with q | q
  .exact .inl q
  .exact .inr (.inr q)
 refine⟨h.fr,h.dk,?_,λa c=>h.new a (d a c),λp f=>?_⟩
 .have n:=h.nd;rw[e] at n;rw[sE];obtain⟨k,m,s⟩:=bD.mp n;exact bD.mpr ⟨k,(bD.mp m).2.1,λa c b i=>s a c b (aN _ i)⟩
 .refine (h.ok p (by simp only[aU,aO] at f |-;rcases f with q | q;exact .inl q;exact .inr (.inr q))).mono (.all λa z=>⟨z.1,λq=>z.2.1 (d a q),z.2.2⟩) (λ_ _ _ q=>q)
theorem DS.at (h:DS K B (g++x::L2) H):tN K (Al B (hI (g++x::L2))) H x.1 x.2:=h.ok x (aN _ aF)
theorem DS.valAt (h:DS K B (g++(.v d,some v)::L2) H):Rep K (Al B (hI (g++L2))) H d v:=by
 obtain⟨u,e,r⟩:=h.at;cases e;have:hI (g++(Sl.v d,some v)::L2)=hI (g++L2):=by rw[rK,sE];rfl
 rw[this] at r;exact r
theorem DS.push (h:DS K B (L1++L2) H) (r:Rep K (Al B (hI (L1++L2))) H d v):DS K B (L1++(.v d,some v)::L2) H:=by
 have e:hI (L1++(Sl.v d,some v)::L2)=hI (L1++L2):=by rw[rK,sE];rfl
 refine⟨h.fr,h.dk,by rw[e];exact h.nd,by rw[e];exact h.new,λp a=>?_⟩;rw[e];simp only[aU,aO] at a;rcases a with q | q | q
 .exact h.ok p (aT _ q)
 .subst q;exact⟨v,rfl,r⟩
 .exact h.ok p (aN _ q)
theorem DS.pushN (h:DS K B (L1++L2) H) (y:Ab V):DS K B (L1++(.n,y)::L2) H:=by
 have e:hI (L1++(Sl.n,y)::L2)=hI (L1++L2):=by rw[rK,sE];rfl
 refine⟨h.fr,h.dk,by rw[e];exact h.nd,by rw[e];exact h.new,λp a=>?_⟩;rw[e];simp only[aU,aO] at a;rcases a with q | q | q
 .exact h.ok p (aT _ q)
 .subst q;trivial
 .exact h.ok p (aN _ q)
theorem DS.grow (h:DS K B L H) (s:pL H g) (j:Dk B.dk g):DS K B L g :=
 ⟨λb o e n=>s b o (h.fr b o e n),j,h.nd,h.new,λp a=>(h.ok p a).mono (.same s λ_ z=>z) (λ_ _ o q=>s _ o q)⟩
theorem DS.free (h:DS K B L H) (g:H a=none):B.H0 a=none/\a∉B.dk/\a∉hI L:=by
 have n:a∉B.dk:=λz=>by obtain⟨b,e⟩:=h.dk.some z;rw[e] at g;cases g
 refine⟨?_,n,λz=>by obtain⟨o,e,_⟩:=h.live z;rw[e] at g;cases g⟩;cases e:B.H0 a with
 | none=>rfl
 | some o=>rw[h.fr a o e n] at g;cases g
theorem DS.laid (h:DS K B L H) (g:H a=none):DS K B L (upd H a o) :=
 h.grow (λb u e=>by rw[mQ (nN e g)];exact e) (h.dk.upd (h.free g).2.1)
theorem DS.tup (h:DS K B (L1++L2) H){g:Aa D}{l:Aa V}(j:H a=none) (r:Reps K (Al B (hI (L1++L2))) H g l):DS K B (L1++(.v (.t g),some (.ref a))::L2) (upd H a (.t l)) :=
 (h.laid j).push (.t mZ (r.mono (.laid j λ_ z _=>z)))
theorem DS.make (h:DS K B (L1++L2) H) (g:H a=none) (r:∀ j,Kp (Al B (hI (L1++L2))) j H (upd H a o)->pM K j (upd H a o) a d):DS K B (L1++(.o d,some (.ref a))::L2) (upd H a o):=by
 obtain⟨f1,f2,k⟩:=h.free g;have e:hI (L1++(Sl.o d,some (.ref a))::L2)=hI L1++a::hI L2:=rK;have m:∀ b,b∈hI L1++a::hI L2↔b=a\/b∈hI (L1++L2):=λb=>by
  rw[sE];simp only[aU,aO];constructor
  .rintro (q | q | q)
   .exact .inr (.inl q)
   .exact .inl q
   .exact .inr (.inr q)
  .rintro (q | q | q)
   .exact .inr (.inl q)
   .exact .inl q
   .exact .inr (.inr q)
 have s:Kp (Al B (hI (L1++L2))) (Al B (hI L1++a::hI L2)) H (upd H a o):=.laid g λb z n=>⟨z.1,λq=>(m b).mp q |>.elim n z.2.1,z.2.2⟩
 refine⟨λb u q n=>by rw[mQ (nN (h.fr b u q n) g)];exact h.fr b u q n,h.dk.upd f2,?_,λb i=>?_,λp f=>?_⟩
 .rw[e];have n:=h.nd;rw[sE] at n k;obtain⟨v,x,y⟩:=bD.mp n;refine bD.mpr ⟨v,bP.mpr ⟨λz=>k (aN _ z),x⟩,λb i c t=>?_⟩;rcases aO.mp t with q | q
  .intro z;subst z;subst q;exact k (aT _ i)
  .exact y b i c q
 .rw[e] at i;rcases (m b).mp i with q | q
  .subst q;exact⟨f1,f2⟩
  .exact h.new b q
 .rw[e];simp only[aU,aO] at f;have old:∀ p∈L1++L2,tN K (Al B (hI L1++a::hI L2)) (upd H a o) p.1 p.2:=λp f=>(h.ok p f).mono s λb i w q=>by rw[mQ (nN q g)];exact q
  rcases f with q | q | q
  .exact old p (aT _ q)
  .subst q;exact⟨a,rfl,r _ s⟩
  .exact old p (aN _ q)
theorem DS.freeze (h:DS K B (g++(.o d,some v)::L2) H):DS K B (g++(.v d,some v)::L2) H:=by
 obtain⟨a,e,r⟩:=h.at;cases e;have c:hI (g++(Sl.o d,some (V.ref a))::L2)=hI g++a::hI L2:=rK;have hd:=h.drop;have f:=h.new a (by rw[c];simp);refine hd.push (r.rep (λb z=>⟨z.1,λq=>z.2.1 ?_,z.2.2⟩) ⟨f.2,λq=>?_,.inr f.1⟩)
 .rw[c];rw[sE] at q;simp only[aU,aO] at q |-;rcases q with q | q
  .exact .inl q
  .exact .inr (.inr q)
 .have n:=h.nd;rw[c] at n;rw[sE] at q;obtain⟨m,i,k⟩:=bD.mp n;rcases aU.mp q with q | q
  .exact k a q a aF rfl
  .exact (bP.mp i).1 q
theorem DS.write (h:DS K B (g++(.o d,some (.ref a))::L2) H) (r:∀ j,Kp (Al B (hI g++a::hI L2)) j H (upd H a o)->pM K j (upd H a o) a d'):DS K B (g++(.o d',some (.ref a))::L2) (upd H a o):=by
 have e:∀ d,hI (g++(Sl.o d,some (V.ref a))::L2)=hI g++a::hI L2:=λd=>rK
 have s:=h.new a (by rw[e];simp);obtain⟨u,t,A⟩:=h.live (a:=a) (by rw[e];simp);have k:Kp (Al B (hI g++a::hI L2)) (Al B (hI g++a::hI L2)) H (upd H a o):=.write t A λz=>z.2.1 (by simp)
 have n:=h.nd;rw[e] at n;have y:∀ b,b∈hI g\/b∈hI L2->b≠a:=λb c z=>by
  subst z;obtain⟨D,v,x⟩:=bD.mp n;rcases c with c | c
  .exact x b c b aF rfl
  .exact (bP.mp v).1 c
 refine⟨λb w q m=>?_,h.dk.upd s.2,by rw[e];exact n,λb c=>h.new b (by rw[e] at c |-;exact c),λp f=>?_⟩
 .have:b≠a:=λz=>by subst z;rw[s.1] at q;cases q
  rw[mQ this];exact h.fr b w q m
 .rw[e];have old:∀ p,p∈g\/p∈L2->tN K (Al B (hI g++a::hI L2)) (upd H a o) p.1 p.2:=λp i=>by
   have:=h.ok p (by simp only[aU,aO];rcases i with q | q;exact .inl q;exact .inr (.inr q));rw[e] at this;refine this.mono k λb c w q=>?_
   rw[mQ (y b ?_)]
   .exact q
   .rcases i with z | z
    .exact .inl (vE.mpr ⟨p,z,c⟩)
    .exact .inr (vE.mpr ⟨p,z,c⟩)
  simp only[aU,aO] at f;rcases f with q | q | q
  .exact old p (.inl q)
  .subst q;exact⟨a,rfl,r _ k⟩
  .exact old p (.inr q)
theorem DS.ownAt (h:DS K B (g++(.o d,some v)::L2) H):∃ a,v = .ref a/\pM K (Al B (hI g++a::hI L2)) H a d:=by
 obtain⟨a,e,r⟩:=h.at;cases e;rw[show hI (g++(Sl.o d,some (V.ref a))::L2)=hI g++a::hI L2 from rK] at r;exact⟨a,rfl,r⟩
theorem DS.perm (h:DS K B L H) (p:L.Perm M):DS K B M H:=by
 have e:(hI L).Perm (hI M):=p.filterMap A7;refine⟨h.fr,h.dk,e.nodup_iff.mp h.nd,λa b=>h.new a (e.mem_iff.mpr b),λq c=>(h.ok q (p.mem_iff.mpr c)).mono (.all λa z=>⟨z.1,λw=>z.2.1 (e.mem_iff.mpr w),z.2.2⟩) λ_ _ _ w=>w⟩
end
section
theorem vJ {g:Aa Sl}{σ:St}(C:g.length=σ.length){i:Nat}{s:Sl}(h:g[i]?=some s):∃ j y l,σ[i]?=some y/\j.length=i/\g.zip σ=j++(s,y)::l/\∀ o p,(g.set i o).zip (σ.set i p)=j++(o,p)::l:=by
 induction g generalizing σ i with
 | nil=>simp at h
 | cons r g e =>
  cases σ with
  | nil=>simp at C
  | cons z σ =>
   cases i with
   | zero=>simp at h;subst h;exact⟨[],z,g.zip σ,rfl,rfl,rfl,λ_ _=>rfl⟩
   | succ i =>
    obtain⟨j,y,l,a,b,c,d⟩:=e (σ:=σ) (by simpa using C) (i:=i) (by simpa using h);exact⟨(r,z)::j,y,l,by simpa using a,by simp[b],by simp[c],λo p=>by simp[d]⟩
theorem A4 {g:St}{i:Nat}{y:Ab V}(h:g[i]?=some y):g.set i y=g:=by
 obtain⟨a,rfl⟩:=aX.mp h;exact List.set_getElem_self a
end
abbrev nF:=Aa Ad->Aa Sl->(Sl->Aa Sl->Prop)->Prop
abbrev rW:=Aa Ad->Aa Sl->(Bool->Aa Sl->Prop)->Prop
def dE (K:mH) (g:nF):TE:=λb H Q=>∃ (B:Bs) (c:Aa Sl) (T:oF) (e:Sl->Aa Sl->Prop),c.length=b.length/\DS K B (c.zip b++T) H/\g B.dk c e /\
 ∀ r a v d,a.length=b.length->DS K B (a.zip b++(r,some v)::T) d->e r a->Q v d
def uC (K:mH) (g:rW):TT:=λc H Q=>∃ (B:Bs) (d:Aa Sl) (T:oF) (f:Bool->Aa Sl->Prop),d.length=c.length/\DS K B (d.zip c++T) H/\g B.dk d f /\
 ∀ b a e,a.length=c.length->DS K B (a.zip c++T) e->f b a->Q b e
theorem dE.elim {K:mH}{P:Prop}(h:dE K C o H Q) (f:∀ (B:Bs) (j:Aa Sl) (T:oF) (l:Sl->Aa Sl->Prop),j.length=o.length->DS K B (j.zip o++T) H->C B.dk j l ->(∀ r g v p,g.length=o.length->DS K B (g.zip o++(r,some v)::T) p->l r g->Q v p)->P):P:=by
 obtain⟨B,j,T,l,a,hd,b,k⟩:=h;exact f B j T l a hd b k
theorem uC.elim {K:mH}{P:Prop}(h:uC K r o H Q) (f:∀ (B:Bs) (j:Aa Sl) (T:oF) (l:Bool->Aa Sl->Prop),j.length=o.length->DS K B (j.zip o++T) H->r B.dk j l ->(∀ b g p,g.length=o.length->DS K B (g.zip o++T) p->l b g->Q b p)->P):P:=by
 obtain⟨B,j,T,l,a,hd,c,k⟩:=h;exact f B j T l a hd c k
abbrev PD (X:Cx) (e:Expr) (g:nF):Prop:=PE X e (dE X.K g)
abbrev uO (X:Cx) (e:Expr) (g:rW):Prop:=PT X e (uC X.K g)
abbrev Hq (X:Cx) (e:Expr) (g:rW):Prop:=PW X e (uC X.K g)
theorem PE.mono {X:Cx}(h:PE X e t) (k:∀ g H Q,j g H Q->t g H Q):PE X e j:=λa s g H Q I q=>h a s g H Q I (k g H Q q)
theorem PT.mono {X:Cx}(h:PT X e t) (k:∀ g H Q,j g H Q->t g H Q):PT X e j:=λa s g H Q I q=>h a s g H Q I (k g H Q q)
theorem PW.mono {X:Cx}(h:PW X e t) (k:∀ g H Q,j g H Q->t g H Q):PW X e j:=λb a s g H Q I q=>h b a s g H Q I (k g H Q q)
def sd:Sl->Ab D
 | .v d=>some d
 | .o d=>some d
 | .n=>none
section
variable {K:mH}{L2:oF}
theorem Ld:hI (g++(Sl.v d,y)::L2)=hI (g++L2):=by rw[rK,sE];rfl
theorem DS.thaw (h:DS K B (g++(r,some v)::L2) H) (e:sd r=some d):DS K B (g++(.v d,some v)::L2) H:=by
 cases r with
 | n=>cases e
 | v c=>cases e;exact h
 | o c=>cases e;exact h.freeze
theorem DS.one (h:DS K B (L++(r,some v)::T) H) (e:sd r=some d):DS K B (L++T) H/\Rep K (Al B (hI (L++T))) H d v:=by
 have a:=h.thaw e;exact⟨a.drop,a.valAt⟩
theorem DS.two (h:DS K B (L++(l,some u)::(r,some v)::T) H) (g:sd r=some d) (j:sd l=some e):DS K B (L++T) H/\Rep K (Al B (hI (L++T))) H d v/\Rep K (Al B (hI (L++T))) H e u:=by
 have m:=h.thaw j;have n:DS K B ((L++[(Sl.v e,some u)])++(r,some v)::T) H:=by simpa using m
 have a:=n.thaw g;have b:DS K B (L++(Sl.v e,some u)::(.v d,some v)::T) H:=by simpa using a
 have c:=b.valAt;have f:=a.valAt;have i:hI (L++(Sl.v d,some v)::T)=hI (L++T):=by rw[rK,sE];rfl
 have k:hI ((L++[(Sl.v e,some u)])++T)=hI (L++T):=by
  rw[bJ];show hI (L++(Sl.v e,some u)::T)=_;rw[rK,sE];rfl
 rw[i] at c;rw[k] at f;exact⟨b.drop.drop,f,c⟩
theorem DS.mid (h:DS K B (x::(L++T)) H):DS K B (L++x::T) H:=h.perm iA.symm
theorem DS.front (h:DS K B (L++x::T) H):DS K B (x::(L++T)) H:=h.perm iA
theorem DS.pushF (h:DS K B L H) (r:Rep K (Al B (hI L)) H d v):DS K B ((.v d,some v)::L) H:=DS.push (L1:=[]) h r
theorem DS.tupF (h:DS K B L H) (j:H a=none) (r:Reps K (Al B (hI L)) H g l):DS K B ((.v (.t g),some (.ref a))::L) (upd H a (.t l)):=DS.tup (L1:=[]) h j r
theorem DS.lstF (h:DS K B L H) (p:H a=none) (r:Reps K (Al B (hI L)) H j g):DS K B ((.o (.l j),some (.ref a))::L) (upd H a (.l g)) :=
 DS.make (L1:=[]) h p λb k=>⟨g,mZ,r.mono k⟩
theorem DS.dKF (h:DS K B L H) (g:H a=none) (e:ds.map (·.1)=kvs.map (·.1)) (r:Reps K (Al B (hI L)) H (ds.map (·.2)) (kvs.map (·.2))):DS K B ((.o (.k ds),some (.ref a))::L) (upd H a (.k kvs)) :=
 DS.make (L1:=[]) h g λb k=>⟨kvs,mZ,e,r.mono k⟩
theorem DS.dTF (h:DS K B L H) (g:H a=none) (e:ds.map (·.1)=kvs.map (·.1)) (r:Reps K (Al B (hI L)) H (ds.map (·.2)) (kvs.map (·.2))):DS K B ((.o (.T ds),some (.ref a))::L) (upd H a (.T kvs)) :=
 DS.make (L1:=[]) h g λb k=>⟨kvs,mZ,e,r.mono k⟩
end
def nJ (K:mH) (A:Ad->Prop) (H:Hp):D->V->Prop
 | .l f,v=>∃ a h,v = .ref a/\H a=some (.l h)/\Reps K A H f h
 | .k f,v=>∃ a d,v = .ref a/\H a=some (.k d)/\f.map (·.1)=d.map (·.1)/\Reps K A H (f.map (·.2)) (d.map (·.2))
 | .T f,v=>∃ a d,v = .ref a/\Rd H a (.T d)/\f.map (·.1)=d.map (·.1)/\Reps K A H (f.map (·.2)) (d.map (·.2))
 | .e,v=>Rep K A H .e v
 | .b b,v=>Rep K A H (.b b) v
 | .int b,v=>Rep K A H (.int b) v
 | .str b,v=>Rep K A H (.str b) v
 | .r b,v=>Rep K A H (.r b) v
 | .t b,v=>Rep K A H (.t b) v
 | .con b,v=>Rep K A H (.con b) v
 | .c b,v=>Rep K A H (.c b) v
section
variable {K:mH}
theorem Rep.peek (h:Rep K A H d v):nJ K A H d v:=by
 cases h with
 | l _ h r=>exact⟨_,_,rfl,h,r⟩
 | k _ h e r=>exact⟨_,_,rfl,h,e,r⟩
 | T _ h e r=>exact⟨_,_,rfl,h,e,r⟩
 | e=>exact .e
 | b=>exact .b _
 | int=>exact .int _
 | str=>exact .str _
 | r=>exact .r _
 | t h r=>exact .t h r
 | con h r=>exact .con h r
 | c h r=>exact .c h r
theorem pM.peek:∀ {d:D},pM K A H a d->nJ K A H d (.ref a)
 | .l _,⟨b,h,r⟩=>⟨_,b,rfl,h,r⟩
 | .k _,⟨b,h,e,r⟩=>⟨_,b,rfl,h,e,r⟩
 | .T _,⟨b,h,e,r⟩=>⟨_,b,rfl,.inl h,e,r⟩
theorem nJ.lst_inv (h:nJ K A H (.l j) v):∃ a g,v = .ref a/\H a=some (.l g)/\Reps K A H j g:=h
theorem nJ.dK_inv (h:nJ K A H (.k j) v):∃ a g,v = .ref a/\H a=some (.k g)/\j.map (·.1)=g.map (·.1)/\Reps K A H (j.map (·.2)) (g.map (·.2)):=h
theorem nJ.dT_inv (h:nJ K A H (.T j) v):∃ a g,v = .ref a/\Rd H a (.T g)/\j.map (·.1)=g.map (·.1)/\Reps K A H (j.map (·.2)) (g.map (·.2)):=h
theorem nJ.tup_inv (h:nJ K A H (.t j) v):∃ a g,v = .ref a/\H a=some (.t g)/\Reps K A H j g:=Rep.tup_inv h
theorem nJ.con_inv (h:nJ K A H (.con j) v):∃ a g,v = .ref a/\Dt K a g/\Reps K A H j g:=Rep.con_inv h
theorem nJ.scr_inv (h:nJ K A H (.c j) v):∃ a g,v = .ref a/\yN K H a g/\Reps K A H j g:=Rep.scr_inv h
theorem nJ.int_inv (h:nJ K A H (.int i) v):v = .int i:=Rep.int_inv h
theorem nJ.str_inv (h:nJ K A H (.str i) v):v = .str i:=Rep.str_inv h
theorem nJ.bl_inv (h:nJ K A H (.b i) v):v = .b i:=Rep.bl_inv h
theorem nJ.non_inv (h:nJ K A H .e v):v = .e:=Rep.non_inv h
theorem nJ.raw_inv (h:nJ K A H (.r u) v):v=u:=Rep.raw_inv h
def at? (g:Aa Sl) (i:Nat):Ab D:=(g[i]?).bind sd
theorem DS.peek (l:g.length=j.length) (h:DS K B (g.zip j++T) H) (e:at? g i=some d):∃ v,j[i]?=some (some v)/\nJ K (Al B (hI (g.zip j++T))) H d v:=by
 unfold at? at e;cases f:g[i]? with
 | none=>rw[f] at e;cases e
 | some s =>
  rw[f] at e;obtain⟨q,y,t,k,_,m,_⟩:=vJ l f;have b:=h;rw[m] at b;have:=b.ok (s,y) (by simp);rw[<- m] at this;cases s with
  | n=>cases e
  | v c=>cases e;obtain⟨v,rfl,r⟩:=this;exact⟨v,k,r.peek⟩
  | o c=>cases e;obtain⟨a,rfl,r⟩:=this;exact⟨_,k,r.peek⟩
end
noncomputable def vd (i:Nat):nF:=λ_ a b=>match a[i]? with
 | some (.v d)=>b (.v d) a
 | some (.o d)=>b (.v d) (a.set i (.v d))
 | _=>False
def cd (d:D):nF:=λ_ b a=>a (.v d) b
section
variable {X:Cx}
theorem dK (i:Nat) (h:PE X (.Name x pos) (pT i):=by exact pv _):PD X (.Name x pos) (vd i):=h.mono λL H Q z=>z.elim λB D T M w hd c k=>by
 unfold vd at c;cases e:D[i]? with
 | none=>rw[e] at c;exact c.elim
 | some s =>
  rw[e] at c;obtain⟨f,y,m,A,_,G,q⟩:=vJ w e;have b:DS X.K B (f++(s,y)::(m++T)) H:=by rw[G] at hd;simpa using hd
  cases s with
  | n=>exact c.elim
  | v d =>
   obtain⟨v,rfl,_⟩:=b.at;refine⟨v,A,k _ _ v H w ?_ c⟩;refine hd.push ?_;have:=b.valAt;rw[G];have t:hI ((f++(Sl.v d,some v)::m)++T)=hI (f++(m++T)):=by
    rw[bJ,cQ,Ld]
   rw[t];exact this
  | o d =>
   obtain⟨a,rfl,_⟩:=b.at;have E:=b.freeze;have F:(D.set i (.v d)).zip L=f++(.v d,some (.ref a))::m:=by
    have:=q (.v d) (some (.ref a));rw[A4 A] at this;exact this
   have u:DS X.K B ((D.set i (.v d)).zip L++T) H:=by rw[F];simpa using E
   refine⟨.ref a,A,k _ _ _ H (by rw[bO];exact w) ?_ c⟩;refine u.push ?_;have:=E.valAt;rw[F];have t:hI ((f++(Sl.v d,some (V.ref a))::m)++T)=hI (f++(m++T)):=by
    rw[bJ,cQ,Ld]
   rw[t];exact this
theorem E7 (h:PE X e (tC v)) (r:∀ K A H,Rep K A H d v):PD X e (cd d):=h.mono λm H Q a=>a.elim λB f T i b hd c k=>k _ f v H b (hd.push (r _ _ _)) c
theorem hL:PD X (.Constant (.int i) j pos) (cd (.int i)):=E7 oD λ_ _ _=>.int i
theorem mS:PD X (.Constant (.str x) j pos) (cd (.str x)):=E7 yA λ_ _ _=>.str x
theorem sL:PD X (.Constant (.bool x) j pos) (cd (.b x)):=E7 Z9 λ_ _ _=>.b x
theorem Hm:PD X (.Constant .none j pos) (cd .e):=E7 QU λ_ _ _=>.e
abbrev O2:=D->D->(Sl->Prop)->Prop
def oY (K:mH) (r:R2) (f:O2):Prop:=∀ (B:Bs) (L:oF) (H:Hp) (d e:D) (x y:V) (b:Sl->Prop) (Q:VK),DS K B L H->nJ K (Al B (hI L)) H d x->nJ K (Al B (hI L)) H e y->f d e b ->
 (∀ s v a,b s->DS K B ((s,some v)::L) a->Q v a)->r x y H Q
def d2 (f:O2) (g j:nF):nF:=λc m k=>g c m λh a=>j c a λi b=>match sd h,sd i with
 | some d,some e=>f d e λr=>k r b
 | _,_=>False
theorem Ga (o:oY X.K r f) (h:dE X.K (d2 f p C) l H Q):dE X.K p l H λx j=>dE X.K C l j λy g=>r x y g Q:=by
 obtain⟨B,N,T,O,w,hd,A,k⟩:=h;refine⟨B,N,T,_,w,hd,A,λq m x j D d1 u=>⟨B,m,(q,some x)::T,_,D,d1,u,λM n y g E d2 a=>?_⟩⟩;cases b:sd q with
 | none=>rw[b] at a;exact a.elim
 | some d =>
  cases c:sd M with
  | none=>rw[b,c] at a;exact a.elim
  | some e =>
   rw[b,c] at a;obtain⟨F,G,L⟩:=d2.two b c;exact o B _ g d e x y _ Q F G.peek L.peek a λs v t z i=>k s n v t E i.mid z
def uZ (f:O2) (i:Nat) (g:nF):nF:=λc b k=>(at? b i).isSome=true/\g c b λh a=>match at? a i,sd h with
 | some d,some e=>f d e λr=>k r a
 | _,_=>False
def Fh (f:O2) (g:nF) (i:Nat):nF:=λb k h=>g b k λc a=>match sd c,at? a i with
 | some d,some e=>f d e λr=>h r a
 | _,_=>False
theorem Gw (o:oY X.K r f) (h:dE X.K (uZ f i p) j H Q):pT i j H λx l=>dE X.K p j l λy g=>r x y g Q:=by
 obtain⟨B,O,T,S,t,hd,⟨E,G⟩,k⟩:=h;obtain⟨P,D⟩:=dH.mp E;obtain⟨x,u,_⟩:=hd.peek t D;refine⟨x,u,B,O,T,_,t,hd,G,λN c y g w d2 a=>?_⟩;cases m:at? c i with
 | none=>rw[m] at a;exact a.elim
 | some d =>
  cases n:sd N with
  | none=>rw[m,n] at a;exact a.elim
  | some e =>
   rw[m,n] at a;obtain⟨z,M⟩:=d2.one n;obtain⟨R,b,L⟩:=z.peek w m;rw[u] at b;cases b;exact o B _ g d e x y _ Q z L M.peek a λs v A F q=>k s c v A w q.mid F
theorem O0 (o:oY X.K r f) (h:dE X.K (Fh f p i) j H Q):dE X.K p j H λx g=>pT i j g λy l=>r x y l Q:=by
 obtain⟨B,G,T,L,w,hd,A,k⟩:=h;refine⟨B,G,T,_,w,hd,A,λF b x g q d1 a=>?_⟩;cases c:sd F with
 | none=>rw[c] at a;exact a.elim
 | some d =>
  cases m:at? b i with
  | none=>rw[c,m] at a;exact a.elim
  | some e =>
   rw[c,m] at a;obtain⟨t,E⟩:=d1.one c;obtain⟨y,D,py⟩:=t.peek q m;exact⟨y,D,o B _ g d e x y _ Q t E.peek py a λs v u z n=>k s b v u q n.mid z⟩
theorem uJ (o:nC X (binaryOp op) r) (l:oY X.K r f) (i:Nat) (j:PD X b p) (g:PE X a (pT i):=by exact pv _):PD X (.BinOp a op b pos) (uZ f i p):=(nP o g j).mono λ_ _ _ h=>Gw l h
theorem O6 (p:nC X (compareOp op) r) (l:oY X.K r f) (g:PE X a (pT i)) (j:PD X b C) (o:behindInMarks op b=false:=by first | exact xG _ | (with_unfolding_all rfl)):PD X (.Compare a [op] [b] pos) (uZ f i C) :=
 (Nh p g j o).mono λ_ _ _ h=>Gw l h
theorem Mf (p:nC X (compareOp op) r) (l:oY X.K r f) (g:PD X a C) (j:PE X b (pT i)) (o:behindInMarks op b=false:=by first | exact xG _ | (with_unfolding_all rfl)):PD X (.Compare a [op] [b] pos) (Fh f C i) :=
 (Nh p g j o).mono λ_ _ _ h=>O0 l h
theorem oE (o:nC X (binaryOp op) r) (l:oY X.K r f) (g:PD X a p) (j:PD X b C):PD X (.BinOp a op b pos) (d2 f p C):=(nP o g j).mono λ_ _ _ h=>Ga l h
theorem B1 (p:nC X (compareOp op) r) (l:oY X.K r f) (g:PD X a C) (j:PD X b I) (o:behindInMarks op b=false:=by first | exact xG _ | (with_unfolding_all rfl)):PD X (.Compare a [op] [b] pos) (d2 f C I) :=
 (Nh p g j o).mono λ_ _ _ h=>Ga l h
def xS (t:nF):rW:=λc e d=>t c e λr a=>match r with
 | .v (.b b)=>d b a
 | _=>False
theorem Kq (h:uC X.K (xS t) j H Q):dE X.K t j H λx g=>∃ k,x = .b k/\Q k g:=by
 obtain⟨B,m,T,q,e,hd,f,k⟩:=h;refine⟨B,m,T,_,e,hd,f,λr c v g i d1 a=>?_⟩;cases r with
 | n=>exact a.elim
 | o d=>exact a.elim
 | v d =>
  cases d with
  | b b=>exact⟨b,d1.valAt.bl_inv,k b c g i d1.drop a⟩
  | _=>exact a.elim
theorem wR (p:nC X (compareOp op) r) (l:oY X.K r f) (g:PE X a (pT i)) (j:PD X b C) (o:behindInMarks op b=false:=by first | exact xG _ | (with_unfolding_all rfl)):uO X (.Compare a [op] [b] pos) (xS (uZ f i C)) :=
 (yW p g j o).mono λc H Q h=>Gw l (Kq h)
theorem Bu (p:nC X (compareOp op) r) (l:oY X.K r f) (g:PD X a C) (j:PE X b (pT i)) (o:behindInMarks op b=false:=by first | exact xG _ | (with_unfolding_all rfl)):uO X (.Compare a [op] [b] pos) (xS (Fh f C i)) :=
 (yW p g j o).mono λc H Q h=>O0 l (Kq h)
theorem xD (p:nC X (compareOp op) r) (l:oY X.K r f) (g:PD X a C) (j:PD X b I) (o:behindInMarks op b=false:=by first | exact xG _ | (with_unfolding_all rfl)):uO X (.Compare a [op] [b] pos) (xS (d2 f C I)) :=
 (yW p g j o).mono λc H Q h=>by
  have:=Kq h;exact Ga l this
end
section
variable [DecidableEq κ]
noncomputable def mN (g:Aa (κ×D)) (k:κ):Ab D:=(g.find? λa=>decide (a.1=k)).map (·.2)
noncomputable def nD (g:Aa (κ×D)) (k:κ) (d:D):Aa (κ×D):=if g.any (λa=>decide (a.1=k)) then g.map (λa=>if a.1=k then (a.1,d) else a) else g++[(k,d)]
theorem Ki:mN ([]:Aa (κ×D)) k=none:=rfl
theorem xK {k j:κ}{d:D}{r:Aa (κ×D)}:mN ((j,d)::r) k=if j=k then some d else mN r k:=by
 unfold mN;rw[List.find?_cons];by_cases h:j=k<;>simp[h]
theorem Ft (k:κ):∀ g:Aa (κ×D),(g.any λl=>decide (l.1=k))=(mN g k).isSome
 | []=>rfl
 | (j,d)::r=>by
  rw[xK,eZ,Ft k r];by_cases h:j=k<;>simp[h]
theorem Q4 (g:Aa (κ×D)) (k j:κ) (d:D):mN (nD g k d) j=if k=j then some d else mN g j:=by
 unfold nD;rw[Ft];have a:∀ r:Aa (κ×D),mN (r.map λf=>if f.1=k then (f.1,d) else f) j=if k=j then (mN r j).map (λ_=>d) else mN r j:=by
  intro r;induction r with
  | nil=>simp[Ki]
  | cons p r b =>
   obtain⟨i,e⟩:=p;rw[aK];by_cases h:i=k
   .subst h;simp only[gA,xK,b];by_cases z:i=j<;>simp[z]
   .simp only[h,fY,xK,b];by_cases z:i=j
    .subst z;simp[eI h]
    .simp[z]
 have c:∀ r:Aa (κ×D),mN r k=none->mN (r++[(k,d)]) j=if k=j then some d else mN r j:=by
  intro r;induction r with
  | nil=>intro _;rw[fS,xK,Ki]
  | cons p r b =>
   obtain⟨i,e⟩:=p;rw[xK];by_cases h:i=k
   .simp[h]
   .rw[aM h];intro m;rw[cQ,xK,b m,xK];by_cases z:i=j
    .subst z;simp[eI h]
    .simp[z]
 cases e:mN g k with
 | none=>simp only[Option.isSome_none,dZ,fY];exact c g e
 | some w =>
  simp only[lJ,gA,a];by_cases z:k=j
  .subst z;simp[e]
  .simp[z]
theorem PV (g:Aa (κ×D)) (k:κ) (d:D):(nD g k d).length<=g.length+1:=by
 unfold nD;split<;>simp
end
section
variable [DecidableEq κ] {K:mH}
theorem Jw:∀ {l:Aa (κ×D)}{g:Aa (κ×V)},l.map (·.1)=g.map (·.1)->Reps K A H (l.map (·.2)) (g.map (·.2))->∀ k,(∀ d,mN l k=some d->∃ v,qA g k=some v/\Rep K A H d v)/\(mN l k=none->qA g k=none)
 | [],[],_,_,k=>⟨λd h=>by simp[Ki] at h,λ_=>rfl⟩
 | [],_::_,e,_,_=>by simp at e
 | _::_,[],e,_,_=>by simp at e
 | (i,d)::l,(j,v)::g,e,r,k=>by
  simp only[aK,fW] at e;obtain⟨a,b⟩:=e;subst a;cases r with
  | cons h r =>
   have c:=Jw b r k;rw[xK];by_cases z:i=k
   .rw[aR z,Ec z];exact⟨λf q=>by cases q;exact⟨v,rfl,h⟩,λq=>by cases q⟩
   .rw[aM z,Bq z];exact c
theorem C1 {o:Aa (κ×D)}{l:Aa (κ×V)}(e:o.map (·.1)=l.map (·.1)) (r:Reps K A H (o.map (·.2)) (l.map (·.2))){k:κ}{d:D}{v:V}(h:Rep K A H d v) :
  (nD o k d).map (·.1)=(nR l k v).map (·.1)/\Reps K A H ((nD o k d).map (·.2)) ((nR l k v).map (·.2)):=by
 have m:∀ (o:Aa (κ×D)) (l:Aa (κ×V)),o.map (·.1)=l.map (·.1)->(o.any λa=>decide (a.1=k))=l.any λa=>decide (a.1=k):=by
  intro o;induction o with
  | nil=>intro l e;cases l with
   | nil=>rfl
   | cons _ _=>simp at e
  | cons p o b=>intro l e;cases l with
   | nil=>simp at e
   | cons q l =>
    simp only[aK,fW] at e;rw[eZ,eZ,b l e.2,e.1]
 have n:∀ (o:Aa (κ×D)) (l:Aa (κ×V)),o.map (·.1)=l.map (·.1)->Reps K A H (o.map (·.2)) (l.map (·.2)) ->
   (o.map λa=>if a.1=k then (a.1,d) else a).map (·.1)=(l.map λa=>if a.1=k then (a.1,v) else a).map (·.1) /\
   Reps K A H ((o.map λa=>if a.1=k then (a.1,d) else a).map (·.2)) ((l.map λa=>if a.1=k then (a.1,v) else a).map (·.2)):=by
  intro o;induction o with
  | nil=>intro l e r;cases l with
   | nil=>exact⟨rfl,.nil⟩
   | cons _ _=>simp at e
  | cons p o b=>intro l e r;cases l with
   | nil=>simp at e
   | cons q l =>
    simp only[aK,fW] at e;cases r with
    | cons g r =>
     obtain⟨c,f⟩:=b l e.2 r;obtain⟨i,s⟩:=p;obtain⟨j,v0⟩:=q;obtain⟨rfl,t⟩:=e;by_cases z:i=k
     .simp only[aK,z,gA];exact⟨by rw[c],.cons h f⟩
     .simp only[aK,z,fY];exact⟨by rw[c],.cons g f⟩
 unfold nD nR;rw[m o l e];by_cases z:(l.any λa=>decide (a.1=k))=true
 .rw[aR z,aR z];exact n o l e r
 .rw[aM z,aM z];simp only[aQ,aK,lC];exact⟨by rw[e],r.append (.cons h .nil)⟩
end
section
variable {X:Cx}{K:mH}
def Wa (K:mH):R2:=λx y H Q=>∃ a b c,x = .ref a/\y = .ref b/\nG K H a []/\nG K H b c/\Q (.ref b) H
theorem QF:nC X (binaryOp .Add) (Wa X.K):=by
 intro w s Y H x y v u Q I N O h;obtain⟨a,b,W,rfl,rfl,B,D,q⟩:=h;cases N;cases O;obtain⟨E,M,G,_⟩:=I.tuple B;obtain⟨t,V,L,_⟩:=I.tuple D;cases M;obtain⟨⟨P,A,S,sl⟩,m,k,n,hd⟩:=id G;obtain⟨⟨R,f,z,i⟩,e,c,F,d⟩:=id L;simp only at k hd c d;subst k hd c d;exact concat_meets ⟨_,m,rfl⟩ ⟨_,e,rfl⟩ noFill_tuple_add seq_tuple_add jU jN (jA _ _)
  (tuple_addW0 a b _ _ n F A f sl i (by simp)) ⟨m,e,⟨.ref b,H,I,rfl,q⟩⟩
def Vv (K:mH):R2:=λx y H Q=>(uW λi j=>.int (i+j)) x y H Q\/(∃ i j,x = .str i/\y = .str j/\i.length+j.length<=sizeLine/\Q (.str (i++j)) H)\/Rl x y H Q\/Sm K x y H Q\/Wa K x y H Q
theorem qP:nC X (binaryOp .Add) (Vv X.K):=xU.or (xQ.or (Dw.or (Y5.or QF)))
theorem Bl (h:n<=100000):n<=sizeLine:=bN h (by decide)
def Dv:O2
 | .int i,.int j,a=>a (.v (.int (i+j)))
 | .str i,.str j,a=>i.length+j.length<=100000/\a (.v (.str (i++j)))
 | .l b,.l c,a=>b.length+c.length<=100000/\a (.o (.l (b++c)))
 | .t b,.t c,a=>b.length+c.length<=100000/\a (.v (.t (b++c)))
 | _,_,_=>False
theorem qX:oY K (Vv K) Dv:=by
 intro B L H d e x y A Q hd n s c k;cases d<;>first | exact False.elim c | skip<;>cases e<;>first | exact False.elim c | skip
 .cases n;cases s;exact .inl ⟨_,_,rfl,rfl,k _ _ H c (hd.pushF (.int _))⟩
 .cases n;cases s;exact .inr (.inl ⟨_,_,rfl,rfl,Bl c.1,k _ _ H c.2 (hd.pushF (.str _))⟩)
 .obtain⟨a,m,rfl,t,f⟩:=n.tup_inv;obtain⟨b,i,rfl,u,h⟩:=s.tup_inv;have v:m.length+i.length<=100000:=by rw[<- f.length,<- h.length];exact c.1
  by_cases z:m=[]
  .subst z;have:=f.nil_iff.mp rfl;subst this;exact .inr (.inr (.inr (.inr ⟨a,b,i,rfl,rfl,nG.of t,nG.of u,k _ _ H c.2 (hd.pushF s)⟩)))
  .refine .inr (.inr (.inr (.inl ⟨a,b,m,i,rfl,rfl,nG.of t,nG.of u,z,Bl v,λq=>?_,λ_ p w=>k _ _ _ c.2 (hd.tupF w (f.append h))⟩)));subst q;have:=h.nil_iff.mp rfl;subst this;exact k _ _ H c.2 (by rw[cZ];exact hd.pushF n)
 .obtain⟨a,m,rfl,t,f⟩:=n.lst_inv;obtain⟨b,i,rfl,u,h⟩:=s.lst_inv;have v:m.length+i.length<=100000:=by rw[<- f.length,<- h.length];exact c.1
  exact .inr (.inr (.inl ⟨a,b,m,i,rfl,rfl,t,u,Bl v,λp w=>k _ _ _ c.2 (hd.lstF w (f.append h))⟩))
def fI (C:Int->Int->Prop) (g:Int->Int->D):O2
 | .int i,.int j,a=>C i j/\a (.v (g i j))
 | _,_,_=>False
theorem Fb (p:∀ i j,C i j->l i j) (r:∀ A H i j,Rep K A H (g i j) (o i j)):oY K (rI l o) (fI C g):=by
 intro B L H d e x y f Q hd b c a k;cases d<;>first | exact False.elim a | skip<;>cases e<;>first | exact False.elim a | skip
 cases b;cases c;exact⟨_,_,rfl,rfl,p _ _ a.1,k _ _ H a.2 (hd.pushF (r _ _ _ _))⟩
def C7 (g:Int->Int->D):O2
 | .int i,.int j,a=>a (.v (g i j))
 | _,_,_=>False
theorem Jk (o:∀ A H i j,Rep K A H (g i j) (l i j)):oY K (uW l) (C7 g):=by
 intro B L H d e x y f Q hd b c a k;cases d<;>first | exact False.elim a | skip<;>cases e<;>first | exact False.elim a | skip
 cases b;cases c;exact⟨_,_,rfl,rfl,k _ _ H a (hd.pushF (o _ _ _ _))⟩
abbrev MK:O2:=C7 λi j=>.int (i-j)
theorem yP:oY K (uW λi j=>.int (i-j)) MK:=Jk λ_ _ _ _=>.int _
def Tg:R2:=λx y H Q=>(rI Jc λi j=>.int (i*j)) x y H Q\/Td x y H Q
theorem xM:nC X (binaryOp .Mult) Tg:=wM.or NA
def En:O2
 | .int i,.int j,a=>((-(2 ^ 64)<i/\i<2 ^ 64)\/(-(2 ^ 64)<j/\j<2 ^ 64))/\a (.v (.int (i*j)))
 | .l b,.int k,a=>0<=k/\k<=1000/\b.length<=100/\a (.o (.l (List.replicate k.toNat b).flatten))
 | _,_,_=>False
theorem Vw (r:Reps K A H g j):∀ k:Nat,Reps K A H (List.replicate k g).flatten (List.replicate k j).flatten
 | 0=>.nil
 | k+1=>by rw[dN,dN,gU,gU];exact r.append (Vw r k)
theorem xB:oY K Tg En:=by
 intro B L H d e x y w Q hd h i b k;cases d<;>first | exact False.elim b | skip<;>cases e<;>first | exact False.elim b | skip
 .cases h;cases i;exact .inl ⟨_,_,rfl,rfl,b.1,k _ _ H b.2 (hd.pushF (.int _))⟩
 .cases i
  rename_i n
  obtain⟨a,m,rfl,q,f⟩:=h.lst_inv;obtain⟨u,v,s,b⟩:=b;have c:m.length<=100:=by rw[<- f.length];exact s
  refine .inr ⟨a,n,m,rfl,rfl,q,by omega,by omega,bN (Nat.mul_le_mul c (show n.toNat<=1000 by omega)) (by decide),λp t=>?_⟩;exact k _ _ _ b (hd.lstF t (Vw f _))
theorem UO {j:Int}(g:0<j) (h:j<2 ^ 64):j.natAbs.log2<9000:=by
 have:j.natAbs<2 ^ 64:=by omega
 exact bI ((Nat.log2_lt (by omega)).mpr this) (by decide)
theorem Vy:nC X (binaryOp .FloorDiv) (rI (λ_ j=>0<j/\j<2 ^ 64) λi j=>.int (i/j)):=As λi j _ _ _ _ _ a q=>by
 refine floordiv_int (by omega) ?_ (.inl (PyProof.noPylong_of_log2 (UO a.1 a.2)));rw[iN _ (by omega)];exact q
abbrev TZ:O2:=fI (λ_ j=>0<j/\j<2 ^ 64) λi j=>.int (i/j)
theorem FN:oY K (rI (λ_ j=>0<j/\j<2 ^ 64) λi j=>.int (i/j)) TZ:=Fb (λ_ _ h=>h) λ_ _ _ _=>.int _
abbrev GQ:O2:=fI (λ_ j=>0<j) λi j=>.int (i%j)
theorem P6:oY K (rI (λ_ j=>0<j) λi j=>.int (i%j)) GQ:=Fb (λ_ _ h=>h) λ_ _ _ _=>.int _
abbrev KD:O2:=fI (λi j=>0<=j/\j<=1000000/\i.natAbs<2 ^ 64) λi j=>.int (i*2 ^ j.toNat)
theorem Bm:oY K (rI F9 λi j=>.int (i*2 ^ j.toNat)) KD:=Fb (λ_ _ h=>h) λ_ _ _ _=>.int _
abbrev Zz:O2:=fI (λi j=>0<=j/\j<=1000000/\i.natAbs<2 ^ 64) λi j=>.int (i ^ j.toNat)
theorem FJ:oY K (rI F9 λi j=>.int (i ^ j.toNat)) Zz:=Fb (λ_ _ h=>h) λ_ _ _ _=>.int _
abbrev Zf:O2:=fI (λ_ j=>0<=j) λi j=>.int (i/2 ^ j.toNat)
theorem DA:oY K (rI (λ_ j=>0<=j) λi j=>.int (i/2 ^ j.toNat)) Zf:=Fb (λ_ _ h=>h) λ_ _ _ _=>.int _
abbrev BL:O2:=C7 λi j=>.int (Builtin.bitAnd i j)
theorem QP:oY K (uW λi j=>.int (Builtin.bitAnd i j)) BL:=Jk λ_ _ _ _=>.int _
abbrev BV:O2:=C7 λi j=>.b (decide (j<i))
theorem CC:oY K (uW λi j=>.b (decide (j<i))) BV:=Jk λ_ _ _ _=>.b _
abbrev VF:O2:=C7 λi j=>.b (decide (j<=i))
theorem Yw:oY K (uW λi j=>.b (decide (j<=i))) VF:=Jk λ_ _ _ _=>.b _
def OP (neg:Bool):O2
 | .e,.e,a=>a (.v (.b (!neg)))
 | .r v,.e,a=>v ≠ .e/\a (.v (.b neg))
 | _,.e,a=>a (.v (.b neg))
 | _,_,_=>False
theorem VD (r:nJ K A H d x):(d = .e/\x = .e)\/(∃ v,d = .r v/\x=v)\/(x ≠ .e/\d ≠ .e/\∀ v,d ≠ .r v):=by
 cases d with
 | e=>exact .inl ⟨rfl,r.non_inv⟩
 | r v=>exact .inr (.inl ⟨_,rfl,r.raw_inv⟩)
 | l _=>obtain⟨a,f,rfl,_⟩:=r.lst_inv;exact .inr (.inr ⟨by simp,by simp,by simp⟩)
 | k _=>obtain⟨a,f,rfl,_⟩:=r.dK_inv;exact .inr (.inr ⟨by simp,by simp,by simp⟩)
 | T _=>obtain⟨a,f,rfl,_⟩:=r.dT_inv;exact .inr (.inr ⟨by simp,by simp,by simp⟩)
 | t _=>obtain⟨a,f,rfl,_⟩:=r.tup_inv;exact .inr (.inr ⟨by simp,by simp,by simp⟩)
 | con _=>obtain⟨a,f,rfl,_⟩:=r.con_inv;exact .inr (.inr ⟨by simp,by simp,by simp⟩)
 | c _=>obtain⟨a,f,rfl,_⟩:=r.scr_inv;exact .inr (.inr ⟨by simp,by simp,by simp⟩)
 | b _=>have:=r.bl_inv;subst this;exact .inr (.inr ⟨by simp,by simp,by simp⟩)
 | int _=>have:=r.int_inv;subst this;exact .inr (.inr ⟨by simp,by simp,by simp⟩)
 | str _=>have:=r.str_inv;subst this;exact .inr (.inr ⟨by simp,by simp,by simp⟩)
theorem FP (neg:Bool):oY K (λx y H Q=>y = .e/\Q (.b (if neg then !decide (x = .e) else decide (x = .e))) H) (OP neg):=by
 intro B L H d e x y w Q hd t u a k;have n:e = .e:=by
  cases e<;>first | rfl | (exfalso;cases d<;>exact a)
 subst n;have s:=u.non_inv;subst s;refine⟨rfl,?_⟩;rcases VD t with⟨rfl,rfl⟩ | ⟨v,rfl,rfl⟩ | ⟨h,i,m⟩
 .have c:(if neg then !decide ((V.e) = .e) else decide (V.e = .e)) = !neg:=by cases neg<;>rfl
  rw[c];exact k _ _ H a (hd.pushF (.b _))
 .obtain⟨q,a⟩:=a;have c:(if neg then !decide (x=V.e) else decide (x = .e))=neg:=by cases neg<;>simp[q]
  rw[c];exact k _ _ H a (hd.pushF (.b _))
 .have c:(if neg then !decide (x=V.e) else decide (x = .e))=neg:=by cases neg<;>simp[h]
  rw[c];have f:w (.v (.b neg)):=by
   cases d with
   | e=>exact absurd rfl i
   | r v=>exact absurd rfl (m v)
   | _=>exact a
  exact k _ _ H f (hd.pushF (.b _))
theorem OH:nC X (compareOp .Is) (λx y H Q=>y = .e/\Q (.b (if false then !decide (x = .e) else decide (x = .e))) H):=DV
end
noncomputable def tW:D->Ab dT
 | .int i=>some (.inl i)
 | .str x=>some (.inr x)
 | _=>none
def uT:Aa D->Ab (Aa dT)
 | []=>some []
 | d::a=>match tW d,uT a with
  | some k,some b=>some (k::b)
  | _,_=>none
noncomputable def nb (neg b:Bool):Bool:=if neg then !b else b
section
variable {X:Cx}{K:mH}
theorem Db (h:tW d=some k) (r:nJ K A H d v):v=kV k:=by
 cases d<;>cases h
 .exact r.int_inv
 .exact r.str_inv
theorem Tx (h:uT g=some j) (l:Reps K A H g o):o=j.map kV:=by
 induction g generalizing j o with
 | nil=>cases l;cases h;rfl
 | cons d g c =>
  cases l with
  | cons r l =>
  have h:=(show (match tW d,uT g with | some k,some j=>some (k::j) | _,_=>none)=some j from h);cases a:tW d with
  | none=>rw[a] at h;cases h
  | some k =>
   cases b:uT g with
   | none=>rw[a,b] at h;cases h
   | some e =>
    rw[a,b] at h;cases h;rw[Db a r.peek,c b l];rfl
def yE:D->D->Ab (Ab D)
 | .k a,d=>(tW d).map (mN a)
 | .T a,.t b=>(uT b).map (mN a)
 | _,_=>none
theorem Lh (h:yE d e=some o) (g:nJ K A H d x) (j:nJ K A H e y):∃ a w,x = .ref a/\qY H a y w/\(∀ c,o=some c->∃ v,w=some v/\Rep K A H c v)/\(o=none->w=none):=by
 cases d with
 | k q =>
  obtain⟨a,D,rfl,i,f,z⟩:=g.dK_inv;obtain⟨k,n,rfl⟩:=cK.mp h;rw[Db n j];obtain⟨s,u⟩:=Jw f z k;exact⟨a,_,rfl,qY.k i,λc m=>s c m,u⟩
 | T q =>
  obtain⟨a,D,rfl,i,f,z⟩:=g.dT_inv;cases e with
  | t G =>
   obtain⟨b,F,rfl,B,E⟩:=j.tup_inv;obtain⟨k,n,rfl⟩:=cK.mp h;rw[Tx n E] at B;obtain⟨s,u⟩:=Jw f z k;exact⟨a,_,rfl,.inr ⟨D,k,b,i,rfl,B,rfl⟩,λc m=>s c m,u⟩
  | _=>cases h
 | _=>cases h
def Si:R2:=λx y H Q=>∃ a v,x = .ref a/\qY H a y (some v)/\Q v H
theorem SH (j:X.A.units+1<cLine):wD X Si:=by
 intro value slice b s m H x y v u Q I i k h f;obtain⟨a,w,rfl,g,q⟩:=h;cases i;unfold subscriptTail;refine aB ?_;rw[getitemInPython_of_ne (M9 I g).not_modules];refine aB (jH (M9 I g) PySem.F.slot_dict_getitem.lookup ?_);have fin:wpAny (model X.prog X.w) X.A (subscripted slice false (.ref a) u) (λr c=>wpAny (model X.prog X.w) X.A (letTemporaryGo value (.ref a) r >>= λ_=>pure r) (EP X b m Q) X.xe c) X.xe s:=by
  rw[f];exact wpAny_operating (Op j I g k λt n e d=>aB (wpAny_letTemporaryGo (aE ⟨w,H,e,d,q⟩)))
 first
  | exact aE (aB fin)
  | exact aB (aE (aB fin))
  | exact aB fin
def Nz (K:mH):R2:=λx y H Q=>Pr K x y H Q\/Si x y H Q
theorem Uk (g:X.A.units+1<cLine):wD X (Nz X.K):=WA.or (SH g)
def Cq:O2:=λd e b=>match d,e with
 | .l a,.int i=>∃ c,oV a i=some c/\b (.v c)
 | .t a,.int i=>∃ c,oV a i=some c/\b (.v c)
 | .con a,.int i=>∃ c,oV a i=some c/\b (.v c)
 | .c a,.int i=>∃ c,oV a i=some c/\b (.v c)
 | .str z,.int i=>z.length<=100000/\∃ c,oV z.cps.toList i=some c/\b (.v (.str ⟨#[c]⟩))
 | d,e=>∃ c,yE d e=some (some c)/\b (.v c)
theorem Hf (r:Reps K A H g l) (h:oV g i=some c):∃ v,oV l i=some v/\Rep K A H c v:=by
 unfold oV at h |-;rw[<- r.length];cases e:tQ g.length i with
 | none=>rw[e] at h;cases h
 | some j =>
  rw[e] at h;obtain⟨v,a,b⟩:=r.get (i:=j) h;exact⟨v,a,b⟩
theorem U5:oY K (Nz K) Cq:=by
 intro B L H d e x y D Q hd t u b k;have f:(∃ c,yE d e=some (some c)/\D (.v c))->Nz K x y H Q:=λz=>by
  obtain⟨c,h,b⟩:=z;obtain⟨a,w,rfl,g,i,_⟩:=Lh h t u;obtain⟨v,rfl,m⟩:=i c rfl;exact .inr ⟨a,v,rfl,g,k _ _ H b (hd.pushF m)⟩
 cases d<;>first | exact f b | skip
 .cases e<;>first | exact f b | skip
  cases u;cases t;obtain⟨A,c,h,b⟩:=b;exact .inl (.inr (.inr ⟨_,_,c,rfl,rfl,Bl A,h,k _ _ H b (hd.pushF (.str _))⟩))
 .obtain⟨a,s,rfl,i,q⟩:=t.tup_inv;cases e<;>first | exact f b | skip
  cases u;obtain⟨c,h,b⟩:=b;obtain⟨v,n,m⟩:=Hf q h;exact .inl (.inr (.inl ⟨a,s,_,v,rfl,rfl,nG.of i,n,k _ _ H b (hd.pushF m)⟩))
 .obtain⟨a,s,rfl,i,q⟩:=t.lst_inv;cases e<;>first | exact f b | skip
  cases u;obtain⟨c,h,b⟩:=b;obtain⟨v,n,m⟩:=Hf q h;exact .inl (.inl ⟨a,s,_,v,rfl,rfl,mK.of i,n,k _ _ H b (hd.pushF m)⟩)
 .obtain⟨a,s,rfl,i,q⟩:=t.scr_inv;cases e<;>first | exact f b | skip
  cases u;obtain⟨c,h,b⟩:=b;obtain⟨v,n,m⟩:=Hf q h;exact .inl (.inl ⟨a,s,_,v,rfl,rfl,i.sqL,n,k _ _ H b (hd.pushF m)⟩)
 .obtain⟨a,s,rfl,i,q⟩:=t.con_inv;cases e<;>first | exact f b | skip
  cases u;obtain⟨c,h,b⟩:=b;obtain⟨v,n,m⟩:=Hf q h;exact .inl (.inr (.inl ⟨a,s,_,v,rfl,rfl,i.sqT,n,k _ _ H b (hd.pushF m)⟩))
theorem sG (o:X.A.units+1<cLine) (g:PD X a p) (j:PD X b r) (l:K0 b:=by exact λ_ _=>rfl):PD X (.Subscript a b pos) (d2 Cq p r) :=
 (tD (Uk o) g j l).mono λ_ _ _ h=>Ga U5 h
def Lk (neg:Bool):R2:=λy x H Q=>∃ a o,x = .ref a/\qY H a y o/\Q (.b (nb neg o.isSome)) H
theorem DG (j:X.A.units+1<cLine):nC X (compareOp .In) (Lk false):=by
 intro c s k H x y v u Q I e f h;obtain⟨a,o,rfl,g,q⟩:=h;cases f;exact BH j I g e λi d=>⟨.b o.isSome,H,d,rfl,q⟩
theorem IQ (j:X.A.units+1<cLine):nC X (compareOp .NotIn) (Lk true):=by
 intro c s k H x y v u Q I e f h;obtain⟨a,o,rfl,g,q⟩:=h;cases f;exact Ss j I g e λi d=>⟨.b (!o.isSome),H,d,rfl,q⟩
def Mv (neg:Bool):R2:=λx y H Q=>∃ i j,x = .str i/\y = .str j/\Q (.b (nb neg (!(Builtin.Str.occurrences j i 0 j.length 1).isEmpty))) H
def Eg (K:mH) (neg:Bool):R2:=λx y H Q=>G4 K neg x y H Q\/Mv neg x y H Q\/Lk neg x y H Q
theorem Fp (g:X.A.units+1<cLine):nC X (compareOp .In) (Eg X.K false):=Uu.or ((show nC X (compareOp .In) (Mv false) from JN).or (DG g))
theorem Bk (g:X.A.units+1<cLine):nC X (compareOp .NotIn) (Eg X.K true):=Zb.or ((show nC X (compareOp .NotIn) (Mv true) from RB).or (IQ g))
noncomputable def rF:D->Ab V
 | .e=>some .e
 | .b b=>some (.b b)
 | .int i=>some (.int i)
 | .str x=>some (.str x)
 | _=>none
def rR:Aa D->Ab (Aa V)
 | []=>some []
 | d::a=>match rF d,rR a with
  | some v,some b=>some (v::b)
  | _,_=>none
theorem Mu {l:Type}{f:l->D}{g:l->V}(h:∀ x,rF (f x)=some (g x)):∀ j:Aa l,rR (j.map f)=some (j.map g)
 | []=>rfl
 | x::j=>by
  show (match rF (f x),rR (j.map f) with | some v,some a=>some (v::a) | _,_=>none)=_;rw[h x,Mu h j];rfl
theorem Kd (h:rF d=some u) (r:nJ K A H d v):v=u/\uK u=true:=by
 cases d<;>cases h<;>cases r<;>exact⟨rfl,rfl⟩
theorem Uz (h:rR g=some l) (j:Reps K A H g o):o=l/\l.all uK=true:=by
 induction g generalizing l o with
 | nil=>cases j;cases h;exact⟨rfl,rfl⟩
 | cons d g m =>
  cases j with
  | cons r j =>
  have h:=(show (match rF d,rR g with | some v,some o=>some (v::o) | _,_=>none)=some l from h);cases a:rF d with
  | none=>rw[a] at h;cases h
  | some k =>
   cases b:rR g with
   | none=>rw[a,b] at h;cases h
   | some n =>
    rw[a,b] at h;cases h;obtain⟨c,e⟩:=Kd a r.peek;obtain⟨f,i⟩:=m b j;exact⟨by rw[c,f],by rw[lV,e,i];rfl⟩
def J3 (neg:Bool) (d:D) (g:Aa D) (j:Sl->Prop):Prop:=∃ v a,rF d=some v/\rR g=some a/\j (.v (.b (nb neg (tR v a))))
def No (neg:Bool):O2:=λd e c=>match e with
 | .l a=>J3 neg d a c
 | .t a=>J3 neg d a c
 | .con a=>J3 neg d a c
 | .str j=>∃ i,d = .str i/\c (.v (.b (nb neg (!(Builtin.Str.occurrences j i 0 j.length 1).isEmpty))))
 | e=>∃ o,yE e d=some o/\c (.v (.b (nb neg o.isSome)))
theorem wL (neg:Bool):oY K (Eg K neg) (No neg):=by
 intro B L H d e x y G Q hd E s h k;have seq:∀ (a:Ad) (F:Aa D) (t:Aa V),J3 neg d F G->y = .ref a->(mK K H a t\/nG K H a t)->Reps K (Al B (hI L)) H F t->Eg K neg x y H Q:=by
  rintro a F t ⟨v,m,f,z,M⟩ rfl O r;obtain⟨P,R⟩:=Kd f E;obtain⟨S,W⟩:=Uz z r;subst P S;exact .inl ⟨a,t,rfl,O,R,W,k _ _ H M (hd.pushF (.b _))⟩
 have u:(∃ o,yE e d=some o/\G (.v (.b (nb neg o.isSome))))->Eg K neg x y H Q:=λA=>by
  obtain⟨o,N,h⟩:=A;obtain⟨a,w,rfl,g,f,z⟩:=Lh N s E;have e:o.isSome=w.isSome:=by
   cases o with
   | none=>rw[z rfl];rfl
   | some c=>obtain⟨v,rfl,_⟩:=f c rfl;rfl
  exact .inr (.inr ⟨a,w,rfl,g,by rw[<- e];exact k _ _ H h (hd.pushF (.b _))⟩)
 cases e<;>first | exact u h | skip
 .obtain⟨i,rfl,h⟩:=h;cases E;cases s;exact .inr (.inl ⟨_,_,rfl,rfl,k _ _ H h (hd.pushF (.b _))⟩)
 .obtain⟨a,m,n,f,q⟩:=s.tup_inv;exact seq a _ m h n (.inr (nG.of f)) q
 .obtain⟨a,m,n,f,q⟩:=s.lst_inv;exact seq a _ m h n (.inl (mK.of f)) q
 .obtain⟨a,m,n,f,q⟩:=s.con_inv;exact seq a _ m h n (.inr f.sqT) q
end
section
variable {X:Cx}{K:mH}
def Li (neg:Bool):R2:=λx y H Q=>Kg x y=true/\Q (.b (nb neg (decide (x=y)))) H
end
def tS (g:Aa D) (lo j:Ab Int):Aa D:=(g.drop (HT.sIx g.length 0 lo)).take (HT.sIx g.length g.length j-HT.sIx g.length 0 lo)
def pt (o:Ab nF):Aa Ad->Aa Sl->(Ab Int->Aa Sl->Prop)->Prop:=λc b k=>match o with
 | none=>k none b
 | some t=>t c b λr a=>match r with
  | .v (.int i)=>k (some i) a
  | _=>False
def C0 (K:mH):Ab nF->TO
 | none=>Qk
 | some t=>Wn (dE K t)
abbrev O3:=D->Ab Int->Ab Int->(Sl->Prop)->Prop
def CY (f:O3) (i:Nat) (lo g:Ab nF):nF:=λc e h=>(at? e i).isSome=true/\pt lo c e λl b=>pt g c b λu a=>match at? a i with
 | some d=>f d l u λr=>h r a
 | none=>False
abbrev R3:=V->Ab Int->Ab Int->Hp->VK->Prop
def Qf (K:mH) (r:R3) (f:O3):Prop:=∀ (B:Bs) (L:oF) (H:Hp) (d:D) (lo b:Ab Int) (x:V) (c:Sl->Prop) (Q:VK),DS K B L H->nJ K (Al B (hI L)) H d x->f d lo b c ->
 (∀ s v a,c s->DS K B ((s,some v)::L) a->Q v a)->r x lo b H Q
section
variable {X:Cx}{K:mH}{lo:Ab Expr}
theorem R7 (I:l.length=p.length) (hd:DS K B (l.zip p++T) H) (h:pt o B.dk l k)
  (C:∀ i g j,g.length=p.length->DS K B (g.zip p++T) j->k i g->Q i j):C0 K o p H Q:=by
 cases o with
 | none=>exact C none l H I hd h
 | some t =>
  refine⟨B,l,T,_,I,hd,h,λr g v j b d1 a=>?_⟩;cases r with
  | n=>exact a.elim
  | o d=>exact a.elim
  | v d =>
   cases d with
   | int i=>exact⟨i,d1.valAt.int_inv,C (some i) g j b d1.drop a⟩
   | _=>exact a.elim
theorem Mq:PO X none (C0 X.K none):=E6
theorem L7 (h:PD X e t):PO X (some e) (C0 X.K (some t)):=Fk h
theorem Lt (I:wV X r) (p:Qf X.K r f) (o:PE X a (pT i)) (g:PO X lo (C0 X.K ol)) (j:PO X C (C0 X.K J)):PD X (.Subscript a (.Slice lo C none U) pos) (CY f i ol J) :=
 (Cy I o g j).mono λY H Q q=>q.elim λB W T V w hd ⟨n,G⟩ k=>by
  obtain⟨R,E⟩:=dH.mp n;obtain⟨x,y,_⟩:=hd.peek w E;refine⟨x,y,R7 w hd G λl O P L d2 N=>R7 L d2 N λu c D z t e=>?_⟩;cases h:at? c i with
  | none=>rw[h] at e;exact e.elim
  | some d =>
   rw[h] at e;obtain⟨S,b,M⟩:=t.peek z h;rw[y] at b;cases b;exact p B _ D d l u x _ Q t M e λs v A F m=>k s c v A z m.mid F
def X2 (K:mH):R3:=λx lo a H Q=>Wt K x lo a H Q\/Sh K x lo a H Q\/Xc x lo a H Q
theorem Oa:wV X (X2 X.K):=Ot.or (IX.or Ny)
def AB:O3
 | .l a,lo,b,d=>d (.o (.l (tS a lo b)))
 | .c a,lo,b,d=>d (.o (.l (tS a lo b)))
 | .t a,lo,b,d=>¬ (HT.sIx a.length 0 lo=0/\HT.sIx a.length a.length b=a.length)/\d (.v (.t (tS a lo b)))
 | .str z,lo,b,d=>z.length<=100000/\d (.v (.str (uU z lo b)))
 | _,_,_,_=>False
theorem Lo (r:Reps K A H j l) (lo g:Ab Int):Reps K A H (tS j lo g) (wJ l lo g):=by
 unfold tS wJ;rw[r.length];exact (r.drop _).take _
theorem Le:Qf K (X2 K) AB:=by
 intro B L H d lo m x n Q hd i b k;cases d<;>first | exact False.elim b | skip
 .cases i;exact .inr (.inr ⟨_,rfl,Bl b.1,k _ _ _ b.2 (hd.pushF (.str _))⟩)
 .obtain⟨a,h,rfl,e,c⟩:=i.tup_inv;exact .inr (.inl ⟨a,h,rfl,nG.of e,by rw[<- c.length];exact b.1,λp f=>k _ _ _ b.2 (hd.tupF f (Lo c lo m))⟩)
 .obtain⟨a,h,rfl,e,c⟩:=i.lst_inv;exact .inl ⟨a,h,rfl,mK.of e,λp f=>k _ _ _ b (hd.lstF f (Lo c lo m))⟩
 .obtain⟨a,h,rfl,e,c⟩:=i.scr_inv;exact .inl ⟨a,h,rfl,e.sqL,λp f=>k _ _ _ b (hd.lstF f (Lo c lo m))⟩
abbrev O1:=D->(Sl->Prop)->Prop
abbrev R1:=V->Hp->VK->Prop
def FY (K:mH) (r:R1) (f:O1):Prop:=∀ (B:Bs) (L:oF) (H:Hp) (d:D) (x:V) (b:Sl->Prop) (Q:VK),DS K B L H->nJ K (Al B (hI L)) H d x->f d b->(∀ s v a,b s->DS K B ((s,some v)::L) a->Q v a)->r x H Q
def d1 (f:O1) (g:nF):nF:=λb h e=>g b h λc a=>match sd c with
 | some d=>f d λr=>e r a
 | none=>False
theorem JB (j:FY X.K r f) (h:dE X.K (d1 f l) o H Q):dE X.K l o H λx g=>r x g Q:=by
 obtain⟨B,z,T,A,m,hd,q,k⟩:=h;refine⟨B,z,T,_,m,hd,q,λy e x g t d1 a=>?_⟩;cases b:sd y with
 | none=>rw[b] at a;exact a.elim
 | some d =>
  rw[b] at a;obtain⟨u,w⟩:=d1.one b;exact j B _ g d x _ Q u w.peek a λs v i n c=>k s e v i t c.mid n
def Ue:O1
 | .int i,a=>a (.v (.int (-i)))
 | _,_=>False
theorem Kf (g:PD X a j):PD X (.UnaryOp .USub a pos) (d1 Ue j):=(Y3 WS g).mono λ_ _ _ h=>JB (f:=Ue) (λB L H d x e Q hd c b k=>by
 cases d<;>first | exact False.elim b | skip
 cases c;exact⟨_,rfl,k _ _ H b (hd.pushF (.int _))⟩) h
noncomputable def G8:D->Ab Bool
 | .e=>some false
 | .b b=>some b
 | .int i=>some (i != 0)
 | .str x=>some ((x.length:Int) != 0)
 | .l a=>some (!a.isEmpty)
 | .t a=>some (!a.isEmpty)
 | .k a=>some (!a.isEmpty)
 | _=>none
noncomputable def Ih:D->Bool
 | .str x=>decide (x.length<=100000)
 | _=>true
theorem Qr (h:nJ K A H d x) (e:G8 d=some k) (g:Ih d=true):Nn K x H k:=by
 cases d<;>simp only[G8,reduceCtorEq,lS] at e<;>subst e
 .have:=h.non_inv;subst this;rfl
 .have:=h.bl_inv;subst this;rfl
 .have:=h.int_inv;subst this;rfl
 .have:=h.str_inv;subst this;exact⟨Bl (cD g),rfl⟩
 .obtain⟨a,b,rfl,h,r⟩:=h.tup_inv;exact .inr (.inl ⟨b,nG.of h,by cases r<;>rfl⟩)
 .obtain⟨a,b,rfl,h,r⟩:=h.lst_inv;exact .inl ⟨b,mK.of h,by cases r<;>rfl⟩
 .rename_i c
  obtain⟨a,b,rfl,h,e,r⟩:=h.dK_inv;refine .inr (.inr ⟨b,h,?_⟩);cases c<;>cases b<;>simp at e |-
def C3 (t:nF):rW:=λc f e=>t c f λr a=>match sd r with
 | some d=>Ih d=true/\∃ b,G8 d=some b/\e b a
 | none=>False
def Kj (i:Nat):rW:=λe a c=>match at? a i with
 | some d=>Ih d=true/\∃ b,G8 d=some b/\c b a
 | none=>False
theorem vL (g:PD X a l) (j:∀ whole,isTrue a X.env whole=(do let v <- whole;standAt a.pos;holding [v] (truthy v)):=by intro _;rfl):uO X a (C3 l) :=
 (T3 g j).mono λz H Q f=>f.elim λB x T y n hd s k=>⟨B,x,T,_,n,hd,s,λr h v i t d1 c=>by
  cases e:sd r with
  | none=>rw[e] at c;exact c.elim
  | some d =>
   rw[e] at c;obtain⟨q,b,m,c⟩:=c;obtain⟨u,w⟩:=d1.one e;exact⟨b,Qr w.peek m q,k b h i t u c⟩⟩
theorem CW (g:PE X a (pT i)) (j:∀ whole,isTrue a X.env whole=(do let v <- whole;standAt a.pos;holding [v] (truthy v)):=by intro _;rfl):uO X a (Kj i) :=
 (T3 g j).mono λw H Q f=>f.elim λB m T u h hd c k=>by
  unfold Kj at c;cases e:at? m i with
  | none=>rw[e] at c;exact c.elim
  | some d =>
   rw[e] at c;obtain⟨q,b,n,c⟩:=c;obtain⟨x,s,t⟩:=hd.peek h e;exact⟨x,s,b,Qr t n q,k b m H h hd c⟩
def AK (t u:rW):rW:=λb e d=>t b e λc a=>if c=true then d true a else u b a d
def K5 (t:rW):rW:=λb e d=>t b e λc a=>d (!c) a
variable {rest:Aa Expr}
theorem Fq (h:uO X a g):Hq X (.BoolOp .Or [a] pos) g:=UH h
theorem Eh (j:uO X a o) (l:Hq X (.BoolOp .Or (b::rest) pos) g):Hq X (.BoolOp .Or (a::b::rest) pos) (AK o g) :=
 (NM j l).mono λt H Q e=>e.elim λB s T q m hd n k=>⟨B,s,T,_,m,hd,n,λc d i h d1 f=>by
  cases c with
  | true=>exact (aR rfl).mpr (k true d i h d1 ((aR rfl).mp f))
  | false=>exact vD ⟨B,d,T,q,h,d1,(aM (by decide)).mp f,k⟩⟩
theorem G0 (h:Hq X a g):uO X a g:=PW.pt h
theorem zU (h:uO X a g):uO X (.UnaryOp .Not a pos) (K5 g):=(CO h).mono λt H Q b=>b.elim λB q T s i hd m k=>⟨B,q,T,_,i,hd,m,λc d e n d1 f=>k _ d e n d1 f⟩
def JW (t u:nF):nF:=λc e d=>t c e λr a=>match r with
 | .v (.b true)=>u c a d
 | .v (.b false)=>d (.v (.b false)) a
 | _=>False
def RE (t u:nF):nF:=λc e d=>t c e λr a=>match r with
 | .v (.b true)=>d (.v (.b true)) a
 | .v (.b false)=>u c a d
 | _=>False
theorem Nv (h:PD X a g):PD X (.BoolOp op [a] pos) g:=CM h
theorem Wz (g:PD X a l) (j:PD X (.BoolOp .And (b::rest) pos) p):PD X (.BoolOp .And (a::b::rest) pos) (JW l p) :=
 (MX g j).mono λw H Q h=>h.elim λB u T t q hd s k=>⟨B,u,T,_,q,hd,s,λr f v m i d1 e=>by
  cases r with
  | n=>exact e.elim
  | o d=>exact e.elim
  | v d =>
   cases d with
   | b c =>
    have:=d1.valAt.bl_inv;subst this;refine⟨c,rfl,?_⟩;cases c with
    | true=>exact (aR rfl).mpr ⟨B,f,T,t,i,d1.drop,e,k⟩
    | false=>exact vD (k _ f _ m i (d1.drop.push (.b _)) e)
   | _=>exact e.elim⟩
theorem NH (g:PD X a l) (j:PD X (.BoolOp .Or (b::rest) pos) p):PD X (.BoolOp .Or (a::b::rest) pos) (RE l p) :=
 (FM g j).mono λw H Q h=>h.elim λB u T t q hd s k=>⟨B,u,T,_,q,hd,s,λr f v m i d1 e=>by
  cases r with
  | n=>exact e.elim
  | o d=>exact e.elim
  | v d =>
   cases d with
   | b c =>
    have:=d1.valAt.bl_inv;subst this;refine⟨c,rfl,?_⟩;cases c with
    | true=>exact (aR rfl).mpr (k _ f _ m i (d1.drop.push (.b _)) e)
    | false=>exact vD ⟨B,f,T,t,i,d1.drop,e,k⟩
   | _=>exact e.elim⟩
def VG (t:rW) (u w:nF):nF:=λb e d=>t b e λc a=>if c=true then u b a d else w b a d
theorem W5 (l:uO X c o) (g:PD X a p) (j:PD X b r):PD X (.IfExp c a b pos) (VG o p r) :=
 (HH l g j).mono λt H Q e=>e.elim λB q T i m hd n k=>⟨B,q,T,_,m,hd,n,λc d s h d1 f=>by
  cases c with
  | true=>exact (aR rfl).mpr ⟨B,d,T,i,h,d1,(aR rfl).mp f,k⟩
  | false=>exact vD ⟨B,d,T,i,h,d1,(aM (by decide)).mp f,k⟩⟩
end
inductive Ar where
 | t (d:D) | al (i:Nat)
abbrev tY:=Aa Ad->Aa Sl->(Aa Ar->Aa Sl->Prop)->Prop
def uX:Aa Ar->Aa V->oF
 | .t d::as,v::a=>(.v d,some v)::uX as a
 | .al _::as,_::a=>uX as a
 | _,_=>[]
inductive ArOk (σ:St):List Ar->List V->Prop where
 | nil:ArOk σ [] []
 | t {d:D} {v:V} {as:List Ar} {vs:List V}:ArOk σ as vs->ArOk σ (.t d::as) (v::vs)
 | al {i:Nat} {v:V} {as:List Ar} {vs:List V}:σ[i]?=some (some v)->ArOk σ as vs->ArOk σ (.al i::as) (v::vs)
noncomputable def wI (g:Aa Sl):Aa Ar->Ab (Aa D)
 | []=>some []
 | .t d::as=>(wI g as).map (d::·)
 | .al i::as=>match at? g i,wI g as with
  | some d,some a=>some (d::a)
  | _,_=>none
noncomputable def wW:Aa Ar->Ab (Aa D)
 | []=>some []
 | .t d::as=>(wW as).map (d::·)
 | .al _::_=>none
def Fd:Aa Ar->Bool
 | []=>true
 | .t _::as=>Fd as
 | .al _::_=>false
def dA (K:mH) (g:tY):TA:=λb H Q=>∃ (B:Bs) (d:Aa Sl) (T:oF) (f:Aa Ar->Aa Sl->Prop),d.length=b.length/\DS K B (d.zip b++T) H/\g B.dk d f /\
 ∀ as a c e,a.length=b.length->ArOk b as c->DS K B (a.zip b++(uX as c++T)) e->f as a->Q c e
theorem dA.elim {K:mH}{P:Prop}(h:dA K C l H Q) (f:∀ (B:Bs) (j:Aa Sl) (T:oF) (o:Aa Ar->Aa Sl->Prop),j.length=l.length->DS K B (j.zip l++T) H->C B.dk j o ->(∀ as g p r,g.length=l.length->ArOk l as p->DS K B (g.zip l++(uX as p++T)) r->o as g->Q p r)->P):P:=by
 obtain⟨B,j,T,o,a,hd,b,k⟩:=h;exact f B j T o a hd b k
abbrev tG (X:Cx) (g:Aa Expr) (j:tY):Prop:=PA X g (dA X.K j)
def An:tY:=λ_ b a=>a [] b
def aC (g:nF) (j:tY):tY:=λc f e=>g c f λr a=>j c a λas b=>match sd r with
 | some d=>e (.t d::as) b
 | none=>False
def aS (i:Nat) (g:tY):tY:=λc b d=>(at? b i).isSome=true/\g c b λas a=>d (.al i::as) a
theorem PA.mono {X:Cx}(h:PA X j t) (k:∀ g H Q,l g H Q->t g H Q):PA X j l:=λp a s g H Q I q=>h p a s g H Q I (k g H Q q)
def Am (B:Bs) (a:Ad):Prop:=a∉B.dk/\(B.A0 a\/B.H0 a=none)
inductive Peeks (K:mH) (A:Addr->Prop) (H:Hp):List D->List V->Prop where
 | nil:Peeks K A H [] []
 | cons {d:D} {v:V} {ds:List D} {vs:List V}:nJ K A H d v->Peeks K A H ds vs->Peeks K A H (d::ds) (v::vs)
section
variable {X:Cx}{K:mH}
theorem gD:tG X [] An:=oG.mono λf H Q a=>a.elim λB d T e b hd c k=>k [] d [] H b .nil hd c
theorem aD (j:PD X e p) (l:tG X g o) (h:wQ e=true:=by rfl):tG X (e::g) (aC p o):=(nM j l h).mono λD H Q f=>f.elim λB A T F v hd w k =>
 ⟨B,A,T,_,v,hd,w,λr i x E y d1 u=>⟨B,i,(r,some x)::T,_,y,d1,u,λas a n m z ok d2 b=>by
  cases c:sd r with
  | none=>rw[c] at b;exact b.elim
  | some d =>
   rw[c] at b;refine k (.t d::as) a (x::n) m z (.t ok) ?_ b;have q:DS X.K B ((a.zip D++uX as n)++(r,some x)::T) m:=by simpa using d2
   have s:=(q.thaw c).front;exact DS.mid (by simpa using s)⟩⟩
theorem Av (j:PE X e (pT i)) (l:tG X g o) (h:wQ e=true:=by rfl):tG X (e::g) (aS i o):=(nM j l h).mono λz H Q a=>a.elim λB v T y c hd ⟨q,s⟩ k=>by
 obtain⟨w,m⟩:=dH.mp q;obtain⟨x,d,_⟩:=hd.peek c m;exact⟨x,d,B,v,T,_,c,hd,s,λas b u f t ok d2 n=>k (.al i::as) b (x::u) f t (.al d ok) d2 n⟩
theorem DS.rmArgs:∀ {as:Aa Ar}{vs:Aa V},DS K B (L++(uX as vs++T)) H->DS K B (L++T) H
 | [],_,h=>h
 | .t d::as,[],h=>h
 | .al _::as,[],h=>h
 | .t d::as,v::vs,h=>DS.rmArgs (as:=as) (vs:=vs) (DS.drop (L1:=L) (L2:=uX as vs++T) h)
 | .al _::as,v::vs,h=>DS.rmArgs (as:=as) (vs:=vs) h
theorem Go:∀ {as:Aa Ar}{vs:Aa V},hI (L++(uX as vs++T))=hI (L++T)
 | [],_=>rfl
 | .t d::as,[]=>rfl
 | .al _::as,[]=>rfl
 | .t d::as,v::vs=>(show hI (L++(Sl.v d,some v)::(uX as vs++T))=_ from Ld).trans (Go (as:=as) (vs:=vs))
 | .al _::as,v::vs=>Go (as:=as) (vs:=vs)
theorem DS.temps (h:DS K B (L++(uX as j++T)) H) (ok:ArOk σ as j):∀ g,wW as=some g->Reps K (Al B (hI (L++T))) H g j:=by
 have key:∀ p∈uX as j,tN K (Al B (hI (L++T))) H p.1 p.2:=λp b=>by
  have:=h.ok p (by simp[b]);rw[Go] at this;exact this
 clear h;induction ok with
 | nil=>intro g e;cases e;exact .nil
 | @t d v as j ok i =>
  intro g e;obtain⟨a,c,rfl⟩:=cK.mp e;obtain⟨u,f,r⟩:=key (.v d,some v) aF;cases f;exact .cons r (i (λp b=>key p (aP _ b)) a c)
 | al _ _ _=>intro g e;cases e
theorem DS.argsP (I:g.length=C.length) (h:DS K B (g.zip C++(uX as l++T)) H) (ok:ArOk C as l):∀ j,wI g as=some j ->
  Peeks K (Al B (hI (g.zip C++T))) H j l/\Reps K (Am B) H j l/\(Fd as=true->Reps K (Al B (hI (g.zip C++T))) H j l):=by
 have key:∀ p∈uX as l,tN K (Al B (hI (g.zip C++T))) H p.1 p.2:=λp m=>by
  have:=h.ok p (by simp[m]);rw[Go] at this;exact this
 have A:=h.rmArgs;have am:∀ a,Al B (hI (g.zip C++T)) a->Am B a:=λa z=>⟨z.1,z.2.2⟩
 clear h;induction ok with
 | nil=>intro j e;cases e;exact⟨.nil,.nil,λ_=>.nil⟩
 | @t d v as l ok D =>
  intro j e;obtain⟨f,b,rfl⟩:=cK.mp e;obtain⟨u,k,r⟩:=key (.v d,some v) aF;cases k;obtain⟨E,F,O⟩:=D (λp m=>key p (aP _ m)) f b;exact⟨.cons r.peek E,.cons (r.mono (.all am)) F,λn=>.cons r (O n)⟩
 | @al i v as l G ok D =>
  intro j e;have e:=(show (match at? g i,wI g as with | some d,some j=>some (d::j) | _,_=>none)=some j from e);cases b:at? g i with
  | none=>rw[b] at e;cases e
  | some d =>
   cases k:wI g as with
   | none=>rw[b,k] at e;cases e
   | some f =>
    rw[b,k] at e;cases e;obtain⟨E,F,O⟩:=D (λp m=>key p m) f k;obtain⟨V,q,pv⟩:=A.peek I b;rw[G] at q;cases q;have Q:Rep K (Am B) H d v:=by
     unfold at? at b;cases w:g[i]? with
     | none=>rw[w] at b;cases b
     | some s =>
      rw[w] at b;obtain⟨R,y,S,M,_,P,_⟩:=vJ I w;rw[G] at M;cases M;have L:(s,some v)∈g.zip C++T:=by rw[P];simp
      have:=A.ok _ L;cases s with
      | n=>cases b
      | v c=>cases b;obtain⟨u,x,r⟩:=this;cases x;exact r.mono (.all am)
      | o c =>
       cases b;obtain⟨a,x,r⟩:=this;cases x;have N:=A.new a (vE.mpr ⟨_,L,rfl⟩);exact r.rep am ⟨N.2,.inr N.1⟩
    exact⟨.cons pv E,.cons Q F,λn=>by simp[Fd] at n⟩
def Fo (g:tY):nF:=λc e d=>g c e λas a=>match wW as with
 | some b=>b.length<=1000/\d (.v (.t b)) a
 | none=>False
def Q6 (g:tY):nF:=λc e d=>g c e λas a=>match wW as with
 | some b=>b.length<=1000/\d (.o (.l b)) a
 | none=>False
theorem X7 (h:n<=1000):n<=sizeLine:=bN h (by decide)
theorem nV (h:tG X g j):PD X (.Tuple g l pos) (Fo j):=(Q1 h).mono λv H Q c=>c.elim λB q T u f hd m k=>⟨B,q,T,_,f,hd,m,λas d t s n ok d1 a=>by
 cases b:wW as with
 | none=>rw[b] at a;exact a.elim
 | some e =>
  rw[b] at a;have r:=d1.temps ok e b;exact⟨X7 (by rw[<- r.length];exact a.1),λp i=>k _ d _ _ n (d1.rmArgs.tup i r) a.2⟩⟩
theorem oW (h:tG X g j):PD X (.List g pos) (Q6 j):=(vK h).mono λv H Q c=>c.elim λB q T u f hd m k=>⟨B,q,T,_,f,hd,m,λas d t s n ok d1 a=>by
 cases b:wW as with
 | none=>rw[b] at a;exact a.elim
 | some e =>
  rw[b] at a;have r:=d1.temps ok e b;exact⟨X7 (by rw[<- r.length];exact a.1),λp i=>k _ d _ _ n (d1.rmArgs.lstF i r).mid a.2⟩⟩
def Zw:nF:=λ_ b a=>a (.o (.k [])) b
def LF:nF:=λ_ b a=>a (.o (.T [])) b
theorem Kx:PD X (.Dict [] [] pos) Zw:=WX.mono λh H Q a=>a.elim λB e T f b hd d k p c=>k _ e _ _ b (hd.dKF (ds:=[]) (kvs:=[]) c rfl .nil).mid d
theorem Ha:PD X (.Dict [] [] pos) LF:=CA.mono λh H Q a=>a.elim λB e T f b hd d k p c=>k _ e _ _ b (hd.dTF (ds:=[]) (kvs:=[]) c rfl .nil).mid d
abbrev OC:=Aa D->(Sl->Prop)->Prop
def qZ (K:mH) (r:Aa V->Hp->VK->Prop) (f:OC):Prop:=∀ (B:Bs) (L:oF) (H:Hp) (b:Aa D) (c:Aa V) (d:Sl->Prop) (Q:VK),DS K B L H->Peeks K (Al B (hI L)) H b c->f b d ->
 (∀ s v a,d s->DS K B ((s,some v)::L) a->Q v a)->r c H Q
def dC (f:OC) (g:tY):nF:=λb e d=>g b e λas a=>match wI a as with
 | some c=>f c λr=>d r a
 | none=>False
theorem Ks (l:qZ X.K r f) (h:dE X.K (dC f o) p H Q):dA X.K o p H λj g=>r j g Q:=by
 obtain⟨B,u,T,w,n,hd,t,k⟩:=h;refine⟨B,u,T,_,n,hd,t,λas a j g i ok d1 b=>?_⟩;cases c:wI a as with
 | none=>rw[c] at b;exact b.elim
 | some e =>
  rw[c] at b;exact l B _ g e j _ Q d1.rmArgs (d1.argsP i ok e c).1 b λs v m q d=>k s a v m i d.mid q
variable {id:String}
theorem oM (C:nW X (.builtin id) r) (I:qZ X.K r f) (T:X.mg x=none) (hv:bootBuiltins x=some (.builtin id)) (o:tG X (e::l) ta) (J:Gl X x:=by rfl) (U:x ≠ "__name__" := by decide) (g:(x == ("__debug__" : Af))=false:=by decide)
  (j:StB X e l pos:=by exact {}):PD X (.Call (.Name x p) (e::l) [] pos) (dC f ta) :=
 (zE C J T hv o U g j).mono λ_ _ _ h=>Ks I h
theorem pN (C:nW X (.type id) r) (I:qZ X.K r f) (T:X.mg x=none) (hv:bootBuiltins x=some (.type id)) (o:tG X (e::l) ta) (J:Gl X x:=by rfl) (U:x ≠ "__name__" := by decide) (g:(x == ("__debug__" : Af))=false:=by decide)
  (j:StB X e l pos:=by exact {}):PD X (.Call (.Name x p) (e::l) [] pos) (dC f ta) :=
 (Sf C J T hv o U g j).mono λ_ _ _ h=>Ks I h
end
def Hz:Sl->Bool
 | .v d=>imm d
 | .o (.l b)=>xJ b
 | .o (.k a)=>xJ (a.map (·.2))
 | .o (.T a)=>xJ (a.map (·.2))
 | _=>false
def RV (K:mH) (g:Aa Ad) (A:Ad->Prop) (H:Hp) (s:Sl) (v:V) (j:Hp):Prop:=match s with
 | .n=>True
 | .v d=>Rep K (λa=>a∉g/\(A a\/H a=none)) j d v
 | .o d=>∃ a,v = .ref a/\H a=none/\a∉g/\pM K (λb=>b∉g/\b≠a/\(A b\/H b=none)) j a d
def Bw (j:Aa Ad) (H g:Hp):Prop:=∀ b o,H b=some o->b∉j->g b=some o
abbrev RD:=Aa Ad->Aa D->(Sl->Prop)->Prop
def yT (K:mH) (R:RD):Sp:=λf H Q _=>∃ (b:Aa Ad) (A:Ad->Prop) (d:Aa D) (e:Sl->Prop),Dk b H/\(∀ a,A a->a∉b)/\Reps K A H d f/\R b d e /\
 ∀ s v c,e s->Bw b H c->Dk b c->RV K b A H s v c->Q v c
section
variable {K:mH}
theorem pM.immR (h:pM K A H a d) (e:Hz (.o d)=true):pM K g H a d:=by
 cases d with
 | l _=>obtain⟨b,h,r⟩:=h;exact⟨b,h,r.imm e⟩
 | k _=>obtain⟨b,h,k,r⟩:=h;exact⟨b,h,k,r.imm e⟩
 | T _=>obtain⟨b,h,k,r⟩:=h;exact⟨b,h,k,r.imm e⟩
 | _=>exact False.elim h
theorem Kp.frm (f:Bw g H l) (p:Dk g H) (h:∀ a,A a->a∉g/\j a):Kp A j H l:=by
 refine⟨λa o b e=>⟨(h a b).2,f a o e (h a b).1⟩,λa o t e=>f a o e λz=>?_⟩;obtain⟨c,q⟩:=p.some z;rw[e] at q;cases q;cases t
theorem DS.call (h:DS K B L H) (f:Bw B.dk H g) (j:Dk B.dk g):DS K B L g :=
 ⟨λb o e n=>f b o (h.fr b o e n) n,j,h.nd,h.new,λp c=>(h.ok p c).mono (.frm f h.dk λa z=>⟨z.1,z⟩) λb d o q=>f b o q (h.new b (vE.mpr ⟨p,c,d⟩)).2⟩
theorem DS.adopt (h:DS K B L H) (f:Bw B.dk H H') (j:Dk B.dk H') (g:H a=none) (r:pM K (Al B (a::hI L)) H' a d):DS K B ((.o d,some (.ref a))::L) H':=by
 obtain⟨f1,f2,k⟩:=h.free g;have s:Kp (Al B (hI L)) (Al B (a::hI L)) H H':=by
  refine⟨λb o c e=>⟨⟨c.1,λz=>?_,c.2.2⟩,f b o e c.1⟩,λb o t e=>f b o e λz=>?_⟩
  .rcases aO.mp z with q | q
   .subst q;rw[g] at e;cases e
   .exact c.2.1 q
  .obtain⟨u,q⟩:=h.dk.some z;rw[e] at q;cases q;cases t
 have i:hI ((Sl.o d,some (V.ref a))::L)=a::hI L:=rfl;refine⟨λb o e n=>f b o (h.fr b o e n) n,j,by rw[i];exact bP.mpr ⟨k,h.nd⟩,λb c=>?_,λp m=>?_⟩
 .rw[i] at c;rcases aO.mp c with q | q
  .subst q;exact⟨f1,f2⟩
  .exact h.new b q
 .rw[i];rcases aO.mp m with q | q
  .subst q;exact⟨a,rfl,r⟩
  .exact (h.ok p q).mono s λb c o w=>f b o w (h.new b (vE.mpr ⟨p,q,c⟩)).2
theorem DS.result (h:DS K B L H) (f:Bw B.dk H j) (l:Dk B.dk j) (r:RV K B.dk p H s v j) (g:(∀ a,p a->Al B (hI L) a)\/Hz s=true):DS K B ((s,some v)::L) j:=by
 have fresh:∀ b,b∉B.dk->H b=none->Al B (hI L) b:=λb n e=>⟨n,(h.free e).2.2,.inr (h.free e).1⟩
 cases s with
 | n=>exact (h.call f l).pushN (L1:=[]) _
 | v d =>
  refine (h.call f l).pushF ?_;rcases g with g | g
  .exact (show Rep K _ j d v from r).mono (.all λb z=>z.2.elim (g b) (fresh b z.1))
  .exact (show Rep K _ j d v from r).imm g
 | o d =>
  obtain⟨a,rfl,c,hd,r⟩:=r;refine h.adopt f l c ?_;rcases g with g | g
  .refine r.mono (.all λb z=>?_) λ_ q=>q
   have:=z.2.2.elim (g b) (fresh b z.1);exact⟨this.1,λq=>(aO.mp q).elim z.2.1 this.2.1,this.2.2⟩
  .exact r.immR g
end
def Cn (R:RD) (g:tY):nF:=λb e d=>g b e λas a=>match wI a as with
 | some c=>R b c λs=>(Fd as=true\/Hz s=true)/\d s a
 | none=>False
section
variable {X:Cx}{R:RD}
theorem EE (h:dE X.K (Cn R l) o H Q):dA X.K l o H λj g=>yT X.K R (j++[]) g Q E0:=by
 obtain⟨B,A,T,D,u,hd,w,k⟩:=h;refine⟨B,A,T,_,u,hd,w,λas b j g q ok d1 c=>?_⟩;cases m:wI b as with
 | none=>rw[m] at c;exact c.elim
 | some i =>
  rw[m] at c;obtain⟨_,x,y⟩:=d1.argsP q ok i m;have d2:=d1.rmArgs;rw[cZ];by_cases t:Fd as=true
  .exact⟨B.dk,_,i,_,d2.dk,λa z=>z.1,y t,c,λs v e d f n r=>k s b v e q (d2.result f n r (.inl λa z=>z)).mid d.2⟩
  .exact⟨B.dk,_,i,_,d2.dk,λa z=>z.1,x,c,λs v e d f n r=>k s b v e q (d2.result f n r (.inr (d.1.resolve_left t))).mid d.2⟩
theorem TC (F:FnOk X.prog X.w X.K X.mg X.base pG k f fd U (yT X.K R)) (T:Room k X.A) (C:Gl X x) (J:X.mg x=some (.ref f)) (I:PySem.W.keepIn X.K (.ref f)=true) (r:zW X.K fd U [])
  (o:tG X (e::l) ta) (g:(x == ("__debug__" : Af))=false:=by decide) (j:StB X e l pos:=by exact {}) :
  PD X (.Call (.Name x p) (e::l) [] pos) (Cn R ta):=(xF F T C J I r .nil vY o g j).mono λ_ _ _ h=>EE h
end
structure DEnds where
 nx:List Sl->Prop
 rt:Sl->Prop
 bk:List Sl->Prop:=λ_=>False
 ct:List Sl->Prop:=λ_=>False
abbrev qN:=Aa Ad->DEnds->Aa Sl->Prop
def Dd (K:mH) (B:Bs) (T:oF) (n:Nat) (g:DEnds) (j:Ends):Prop :=
 (∀ b a c,b.length=a.length->a.length=n->DS K B (b.zip a++T) c->(g.nx b->j.nx a c)/\(g.bk b->j.bk a c)/\(g.ct b->j.ct a c)) /\
 ∀ (r:Sl) (v:V) (b:Aa Sl) (a:St) (c:Hp),b.length=a.length->DS K B (b.zip a++(r,some v)::T) c->g.rt r->j.rt v c
def dS (K:mH) (g:qN):TS:=λd b H=>∃ (B:Bs) (a:Aa Sl) (T:oF) (c:DEnds),a.length=b.length/\DS K B (a.zip b++T) H/\g B.dk c a/\Dd K B T b.length c d
theorem dS.elim {K:mH}{P:Prop}(h:dS K p o j H) (f:∀ (B:Bs) (g:Aa Sl) (T:oF) (l:DEnds),g.length=j.length->DS K B (g.zip j++T) H->p B.dk l g->Dd K B T j.length l o->P):P:=by
 obtain⟨B,g,T,c,a,hd,b,k⟩:=h;exact f B g T c a hd b k
abbrev vC (X:Cx) (st:Stmt) (g:qN):Prop:=PS X st (dS X.K g)
abbrev wS (X:Cx) (st:Aa Stmt) (g:qN):Prop:=pX X st (dS X.K g)
theorem PS.mono {X:Cx}{st:Stmt}(h:PS X st t) (k:∀ D g H,j D g H->t D g H):PS X st j:=λa s g H D I q=>h a s g H D I (k D g H q)
theorem pX.mono {X:Cx}{st:Aa Stmt}(h:pX X st t) (k:∀ D g H,j D g H->t D g H):pX X st j:=λa s g H D I q=>h a s g H D I (k D g H q)
def Sy:qN:=λ_ a b=>a.nx b
def J9 (t u:qN):qN:=λb a c=>t b { a with nx:=u b a } c
def qM (g:nF):qN:=λb a c=>g b c λr _=>a.rt r
def OE (g:nF):qN:=λc b d=>g c d λ_ a=>b.nx a
def B8 (c:rW) (t u:qN):qN:=λd e f=>c d f λb a=>if b=true then t d e a else u d e a
def pE (i:Nat) (g:nF):qN:=λc b d=>g c d λr a=>b.nx (a.set i r)
section
variable {X:Cx}{K:mH}{st:Stmt}{rest:Aa Stmt}
theorem Dd.seq (h:Dd K B T n o p){P:Aa Sl->Prop}(k:∀ j g l,j.length=g.length->g.length=n->DS K B (j.zip g++T) l->P j->N g l):Dd K B T n { o with nx:=P } { p with nx:=N } :=
 ⟨λj g l a b d=>⟨k j g l a b d,(h.1 j g l a b d).2⟩,h.2⟩
theorem sI:wS X [] Sy:=E9.mono λi f H a=>a.elim λB e T h b hd c d=>(d.1 e f H b rfl hd).1 c
theorem hO (g:vC X st t) (j:wS X rest u):wS X (st::rest) (J9 t u):=(qL g j).mono λs w H a=>a.elim λB m T e f hd h c =>
 ⟨B,m,T,_,f,hd,h,c.seq λb n v i k d q=>⟨B,b,T,e,i,d,q,by rw[k];exact c⟩⟩
theorem mW (h:vC X st t):wS X [st] t:=uE h
theorem nH (h:PD X e g):vC X (.Return (some e) pos) (qM g):=(Bi h).mono λt q H a=>a.elim λB n T s f hd i m=>⟨B,n,T,_,f,hd,i,λr b v c k d1 d=>m.2 r v b q c k d1 d⟩
theorem rP (h:PD X e j) (g:swapsWith e none pos.line X.env=pure false:=by rfl):vC X (.Expr e pos) (OE j):=(S5 h g).mono λt q H a=>a.elim λB n T s f hd i m=>⟨B,n,T,_,f,hd,i,λr b v c k d1 d=>(m.1 b q c k rfl d1.drop).1 d⟩
theorem sK (l:uO X c o) (g:wS X a t) (j:wS X b u):vC X (.If c a b pos) (B8 o t u):=(Ew l g j).mono λs w H e=>e.elim λB q T f m hd n k=>⟨B,q,T,_,m,hd,n,λc d v i d1 h=>by
 cases c with
 | true=>exact (aR rfl).mpr ⟨B,d,T,f,i,d1,(aR rfl).mp h,k⟩
 | false=>exact vD ⟨B,d,T,f,i,d1,(aM (by decide)).mp h,k⟩⟩
theorem DS.assign {g:Aa Sl}{j:St}(l:g.length=j.length) (h:DS K B (g.zip j++(r,some v)::T) H) (i:Nat):DS K B ((g.set i r).zip (j.set i (some v))++T) H:=by
 by_cases m:i<g.length
 .obtain⟨b,y,c,_,_,n,a⟩:=vJ l (aH m);rw[a r (some v)];rw[n] at h;have d:DS K B (b++(c++(r,some v)::T)) H:=DS.drop (L1:=b) (x:=(g[i],y)) (by simpa using h);have e:DS K B ((b++c)++(r,some v)::T) H:=by simpa using d
  have f:=e.front;have k:DS K B ((r,some v)::(b++(c++T))) H:=by simpa using f
  simpa using k.mid
 .rw[gZ (by omega),gZ (by omega)];exact h.drop
theorem mY (i:Nat) (j:X.N.Nodup) (l:PD X e J) (p:X.N[i]?=some x:=by rfl) (I:xP X.env.scope x:=by first | exact Or.inl rfl | exact Or.inr rfl) (C:swapsWith e (some (.Name x g)) pos.line X.env=pure false:=by rfl)
  (o:X.fn x=true\/X.env.scope.names.lookup x=some .local:=by first | exact .inl rfl | exact .inr rfl | assumption):vC X (.Assign [.Name x g] e pos) (pE i J) :=
 (qT j p I l C o).mono λs t H a=>a.elim λB m T q f hd h k=>⟨B,m,T,_,f,hd,h,λr n v c b d1 d=>(k.1 _ _ c (by rw[bO,bO];exact b) (bO ..) (d1.assign b i)).1 d⟩
end
def Ao (N:Aa Af) (g:Aa D):Aa Sl:=g.map .v++List.replicate (N.length-g.length) .n
section
variable {P:Ah}{K:mH}
theorem P8:∀ {g:Aa D}{j:Aa V}(n:Nat),g.length=j.length->(g.map Sl.v++List.replicate n Sl.n).zip (j.map some++List.replicate n none)=(g.zip j).map (λp=>(Sl.v p.1,some p.2))++List.replicate n (Sl.n,none)
 | [],[],n,_=>by simp
 | [],_::_,_,e=>by simp at e
 | _::_,[],_,e=>by simp at e
 | d::g,v::j,n,e=>by
  simp only[aK,cQ,cW,fW,true_and];exact P8 n (by simpa using e)
theorem TM (l:Reps K A H g j):∀ p∈g.zip j,Rep K A H p.1 p.2:=by
 induction g generalizing j with
 | nil=>intro p a;cases a
 | cons d g b =>
  cases l with
  | cons h r =>
  intro p a;rw[cW] at a;rcases aO.mp a with rfl | q
  .exact h
  .exact b r p q
theorem Fun.okD {st:Stmt}{R:RD}(F:Fun K x J st f fd) (S:FnScope N ps (nA st)) (I:∀ C g T,R C g T->g.length=ps.length) (aa:ps.length<=N.length)
  (U:∀ (l:Ac) (A:Around) (j:Aa Env) (s:Ae) (H:Hp) (E:XK) (C:Aa Ad) (g:Aa D) (T:Sl->Prop),Room k (A.deeper (envOfC J (nA st) s.heap.objs.size f l))->R C g T ->∃ t,wS (yX pG P w K mg base N J (nA st) f l A j s H E).nox (sV st) t/\t C { nx:=λ_=>T (.v .e),rt:=T } (Ao N g)):FnOk P w K mg base pG (k+1) f fd ps (yT K R):=by
 refine F.ok S (λm H Q E M=>by obtain⟨C,A,g,T,_,_,r,u,_⟩:=M;rw[<- r.length];exact I _ _ _ u) λl A j s H m Q E hr M=>?_
 obtain⟨C,A1,g,T,L,hA,r,u,X⟩:=M;obtain⟨t,ht,hb⟩:=U l A j s H E C g T hr u;have G:g.length=m.length:=r.length;have dl:g.length=ps.length:=I _ _ _ u;refine⟨_,ht,⟨C,A1,H⟩,Ao N g,[],_,?_,?_,hb,?_,?_⟩
 .unfold Ao start;rw[List.length_append,List.length_append,List.length_map,List.length_map,List.length_replicate,List.length_replicate,G]
 .have W:(Ao N g).zip (start N m)=(g.zip m).map (λp=>(Sl.v p.1,some p.2))++List.replicate (N.length-g.length) (Sl.n,none):=by
   unfold Ao start;rw[<- G];exact P8 _ G
  have B:hI ((Ao N g).zip (start N m))=[]:=by
   rw[W];refine iB.mpr λa i=>?_
   obtain⟨q,c,e⟩:=vE.mp i;rcases aU.mp c with z | z
   .obtain⟨p,_,rfl⟩:=aI.mp z;cases e
   .rw[(lM.mp z).2] at e;cases e
  rw[cZ];refine⟨λb o e _=>e,L,by rw[B];exact fE,(λa i=>by rw[B] at i;exact absurd i bH),λq c=>?_⟩;rw[B];rw[W] at c;rcases aU.mp c with z | z
  .obtain⟨p,hp,rfl⟩:=aI.mp z;exact⟨p.2,rfl,(TM r p hp).mono (.all λa i=>⟨hA a i,bH,.inl i⟩)⟩
  .rw[(lM.mp z).2];trivial
 .intro O V y l1 l2 d1;refine⟨λh=>X _ _ y h d1.fr d1.dk .e,λh=>h.elim,λh=>h.elim⟩
 .intro Z v O V y l1 d1 h;refine X Z v y h d1.fr d1.dk ?_;cases Z with
  | n=>trivial
  | v d=>exact d1.valAt.mono (.all λa z=>⟨z.1,z.2.2⟩)
  | o d =>
   obtain⟨a,rfl,r'⟩:=d1.ownAt;have Y:=d1.new a (by rw[rK];exact aN _ aF);exact⟨a,rfl,Y.1,Y.2,r'.mono (.all λb z=>⟨z.1,λq=>z.2.1 (by simp[q]),z.2.2⟩) λ_ q=>q⟩
end
abbrev uD:=D->Aa Sl->(Aa Sl->Prop)->Prop
abbrev Az:=Aa D->Aa Sl->(Aa Sl->Prop)->Prop
noncomputable def pZ (g:Aa D) (j:Aa V):oF:=(g.zip j).map λp=>(Sl.v p.1,some p.2)
def dG (K:mH) (n:Nat) (g:uD):TG:=λv c H Q=>∃ (B:Bs) (e:Aa Sl) (T:oF) (d:D) (h:Aa Sl->Prop),e.length=c.length/\DS K B (e.zip c++(.v d,some v)::T) H/\g d e h /\
 ∀ (b:Aa Sl) (a:St) (f:Hp),b.length=a.length->a.length=c.length->(∀ j,n<=j->a[j]?=c[j]?)->DS K B (b.zip a++T) f->h b->Q a f
def N1 (K:mH) (n:Nat) (g:Az):Aj:=λh c H Q=>∃ (B:Bs) (e:Aa Sl) (T:oF) (d:Aa D) (i:Aa Sl->Prop),e.length=c.length/\d.length=h.length/\DS K B (e.zip c++(pZ d h++T)) H/\g d e i /\
 ∀ (b:Aa Sl) (a:St) (f:Hp),b.length=a.length->a.length=c.length->(∀ j,n<=j->a[j]?=c[j]?)->DS K B (b.zip a++T) f->i b->Q a f
theorem dG.elim {K:mH}{P:Prop}(h:dG K n I v r H Q) (f:∀ (B:Bs) (o:Aa Sl) (T:oF) (d:D) (p:Aa Sl->Prop),o.length=r.length->DS K B (o.zip r++(.v d,some v)::T) H->I d o p ->(∀ (l:Aa Sl) (g:St) (C:Hp),l.length=g.length->g.length=r.length->(∀ j,n<=j->g[j]?=r[j]?)->DS K B (l.zip g++T) C->p l->Q g C)->P):P:=by
 obtain⟨B,o,T,d,p,a,hd,b,k⟩:=h;exact f B o T d p a hd b k
theorem N1.elim {K:mH}{P:Prop}(h:N1 K n U J C H Q) (f:∀ (B:Bs) (p:Aa Sl) (T:oF) (o:Aa D) (r:Aa Sl->Prop),p.length=C.length->o.length=J.length->DS K B (p.zip C++(pZ o J++T)) H->U o p r ->(∀ (l:Aa Sl) (g:St) (I:Hp),l.length=g.length->g.length=C.length->(∀ j,n<=j->g[j]?=C[j]?)->DS K B (l.zip g++T) I->r l->Q g I)->P):P:=by
 obtain⟨B,p,T,o,r,a,c,hd,b,k⟩:=h;exact f B p T o r a c hd b k
abbrev xI (X:Cx) (n:Nat) (e:Expr) (g:uD):Prop:=PG X e (dG X.K n g)
abbrev Er (X:Cx) (n:Nat) (g:Aa Expr) (j:Az):Prop:=yK X g (N1 X.K n j)
theorem PG.mono {X:Cx}(h:PG X e t) (k:∀ v g H Q,j v g H Q->t v g H Q):PG X e j:=λa s g H v u Q I r q=>h a s g H v u Q I r (k v g H Q q)
theorem yK.mono {X:Cx}(h:yK X j t) (k:∀ v g H Q,l v g H Q->t v g H Q):yK X j l:=λa s g H v u Q I r q=>h a s g H v u Q I r (k v g H Q q)
def gN (i:Nat):uD:=λd b a=>a (b.set i (.v d))
def JC:Az:=λa c b=>a=[]/\b c
def GX (g:uD) (j:Az):Az:=λa e c=>match a with
 | d::a=>g d e λb=>j a b c
 | []=>False
def CK (n:Nat) (g:Az):uD:=λd c b=>match d with
 | .t a=>a.length=n/\g a c b
 | _=>False
section
variable {X:Cx}{K:mH}
theorem DS.pushs {A:Ad->Prop}:∀ {ds:Aa D}{vs:Aa V},DS K B (L++T) H->Reps K (Al B (hI (L++T))) H ds vs->DS K B (L++(pZ ds vs++T)) H
 | _,_,h,.nil=>h
 | _,_,h,.cons (ds:=ds) (vs:=vs) r i=>by
  have c:=DS.pushs (A:=A) h i;have b:hI (L++(pZ ds vs++T))=hI (L++T):=by
   have:∀ (ds:Aa D) (vs:Aa V),hI (pZ ds vs)=[]:=λds vs=>by
    refine iB.mpr λa d=>?_
    obtain⟨q,f,e⟩:=vE.mp d;obtain⟨p,_,rfl⟩:=aI.mp f;cases e
   rw[sE,sE,sE,this,fS]
  exact c.push (by rw[b];exact r)
theorem mO (i:Nat) (g:X.N.Nodup) (o:X.N[i]?=some x:=by rfl) (p:xP X.env.scope x:=by first | exact Or.inl rfl | exact Or.inr rfl) (r:i<m:=by decide) (l:X.fn x=true\/X.env.scope.names.lookup x=some .local:=by first | exact .inl rfl | exact .inr rfl | assumption):xI X m (.Name x pos) (gN i) :=
 (xO g o p l).mono λv n H Q a=>a.elim λB h T d f b hd c k=>k _ _ H (by rw[bO,bO];exact b) (bO ..) (λj e=>dU (by omega)) (hd.assign b i) c
theorem sC:Er X m [] JC:=EZ.mono λf i H Q a=>a.elim λB h T n q c e hd ⟨b,d⟩ k=>by
 subst b;cases f with
 | nil=>exact⟨rfl,k h i H c rfl (λ_ _=>rfl) hd d⟩
 | cons _ _=>simp at e
theorem oJ (p:xI X m e g) (r:Er X m l o) (C:(assignEach (e::l) X.env).map (·.2)=assign e X.env::(assignEach l X.env).map (·.2):=by rfl):Er X m (e::l) (GX g o) :=
 (IR p r C).mono λb M H Q c=>c.elim λB F T a E w t hd s k=>by
  cases a with
  | nil=>exact s.elim
  | cons d a =>
   cases b with
   | nil=>simp at t
   | cons v b =>
    refine⟨v,b,rfl,B,F,pZ a b++T,d,_,w,hd,s,λf G L x y f1 d1 q=>⟨B,f,T,a,E,x,by simpa using t,d1,q,λh i u z A f2 d2 D=>k h i u z (A.trans y) (λj n=>(f2 j n).trans (f1 j n)) d2 D⟩⟩
theorem sR (o:X.calm=true) (h:Er X m g l) (p:(assignEach g X.env).length=n:=by rfl) (j:(assignEach g X.env).findIdx? (·.1)=none:=by rfl):xI X m (.Tuple g k pos) (CK n l) :=
 (SG o h p j).mono λv x H Q b=>b.elim λB w T d u q hd c k=>by
  cases d with
  | t f =>
   obtain⟨a,s,rfl,i,e⟩:=hd.valAt.tup_inv;exact⟨a,s,rfl,nG.of i,by rw[<- e.length];exact c.1,B,w,T,f,u,q,e.length,hd.drop.pushs (A:=λ_=>True) e,c.2,k⟩
  | _=>exact c.elim
end
def WT (j:nF) (g:uD):qN:=λc b e=>j c e λr a=>match sd r with
 | some d=>g d a b.nx
 | none=>False
def vU:D->D->D->Ab D
 | .l b,.int i,d=>(tQ b.length i).map λj=>.l (b.set j d)
 | .k a,k,d=>if a.length<100000 then (tW k).map λk=>.k (nD a k d) else none
 | .T a,.t c,d=>if a.length<100000 then (uT c).map λk=>.T (nD a k d) else none
 | _,_,_=>none
def Ko (i:Nat) (g j:nF):qN:=λf h q=>j f q λn a=>(at? a i).isSome=true/\g f a λm b=>match sd n,sd m,b[i]? with
 | some d,some k,some (.o c)=>∃ e,vU c k d=some e/\h.nx (b.set i (.o e))
 | _,_,_=>False
section
variable {X:Cx}{K:mH}
theorem Xf (o:PD X e I) (p:xI X m l g) (C:swapsWithSole [l] e pos.line X.env=pure false:=by rfl) (hw:swappedStores [l] e X.env=pure none:=by rfl)
  (j:(assignEach [l] X.env).map (·.2)=[assign l X.env]:=by rfl):vC X (.Assign [l] e pos) (WT I g):=(E2 o p C hw j).mono λz D H b=>b.elim λB x T y k hd n s=>⟨B,x,T,_,k,hd,n,λr c v A q d1 j=>by
 cases a:sd r with
 | none=>rw[a] at j;exact j.elim
 | some d =>
  rw[a] at j;exact⟨B,c,T,d,_,q,d1.thaw a,j,λf h i t u _ d2 w=>(s.1 f h i t u d2).1 w⟩⟩
def Ug:Ob:=λo i v H Q=>Qa o i v H Q\/∃ a b,o = .ref a/\wZ H a i v b/\Q b
theorem OB (j:X.A.units+1<cLine):Kl X Ug:=by
 intro b s t H o i v n m u Q I d c e h;rcases h with h | ⟨a,f,rfl,g,q⟩
 .exact Gz b s t H o i v n m u Q I d c e h
 .cases d;exact Pl j I g c e λw k=>⟨f,k,q⟩
theorem DS.slotW {g:Aa Sl}{j:St}(C:g.length=j.length) (h:DS K B (g.zip j++T) H){i:Nat}{c:D}(e:g[i]?=some (.o c)):∃ a,j[i]?=some (some (.ref a))/\pM K (Al B (hI (g.zip j++T))) H a c /\
  ∀ (o:HO) (l:D),(∀ p,Kp (Al B (hI (g.zip j++T))) p H (upd H a o)->pM K p (upd H a o) a l)->DS K B ((g.set i (.o l)).zip j++T) (upd H a o):=by
 obtain⟨q,y,s,m,_,n,b⟩:=vJ C e;have d:DS K B (q++(.o c,y)::(s++T)) H:=by rw[n] at h;simpa using h
 obtain⟨a,rfl,_⟩:=d.at;have f:hI (g.zip j++T)=hI q++a::hI (s++T):=by rw[n,bJ,cQ,rK];rfl
 obtain⟨v,t,r⟩:=d.ownAt;cases t;refine⟨a,m,by rw[f];exact r,λo l k=>?_⟩;rw[f] at k;have u:=d.write (o:=o) (d':=l) k;have:=b (.o l) (some (.ref a));rw[A4 m] at this;rw[this]
 simpa using u
theorem MQ (h:vU c k d=some p) (r:pM K A H a c) (J:nJ K A H k y) (I:Rep K A H d v)
  (C:∀ o,(∀ g,Kp A g H (upd H a o)->pM K g (upd H a o) a p)->Q (upd H a o)):Ug (.ref a) y v H Q:=by
 cases c with
 | l M =>
  cases k with
  | int i =>
   obtain⟨m,s,n⟩:=r;obtain⟨j,u,rfl⟩:=cK.mp h;have:=J.int_inv;subst this;exact .inl ⟨a,m,i,j,rfl,rfl,s,by rw[<- n.length];exact u,C _ λg w=>⟨_,mZ,(n.set I j).mono w⟩⟩
  | _=>cases h
 | k e =>
  obtain⟨m,s,q,n⟩:=r;have h:=(show (if e.length<100000 then (tW k).map λj=>D.k (nD e j d) else none)=some p from h);by_cases f:e.length<100000
  .rw[aR f] at h;obtain⟨j,u,rfl⟩:=cK.mp h;rw[Db u J];obtain⟨z,B⟩:=C1 q n (k:=j) I;have x:m.length<sizeLine:=by
    have:=cC List.length q;simp only[aA] at this;exact bI (show m.length<100000 by omega) (by decide)
   exact .inr ⟨a,_,rfl,wZ.k s x,C _ λg w=>⟨_,mZ,z,B.mono w⟩⟩
  .rw[aM f] at h;cases h
 | T e =>
  cases k with
  | t F =>
   obtain⟨m,s,q,n⟩:=r;have h:=(show (if e.length<100000 then (uT F).map λj=>D.T (nD e j d) else none)=some p from h);by_cases f:e.length<100000
   .rw[aR f] at h;obtain⟨j,u,rfl⟩:=cK.mp h;obtain⟨b,L,rfl,E,G⟩:=J.tup_inv;rw[Tx u G] at E;obtain⟨z,B⟩:=C1 q n (k:=j) I;have x:m.length<sizeLine:=by
     have:=cC List.length q;simp only[aA] at this;exact bI (show m.length<100000 by omega) (by decide)
    exact .inr ⟨a,_,rfl,wZ.t s E x,C _ λg w=>⟨_,mZ,z,B.mono w⟩⟩
   .rw[aM f] at h;cases h
  | _=>cases h
 | _=>cases h
theorem wH (U:X.A.units+1<cLine) (hv:PD X e tv) (I:PE X o (pT n)) (r:PD X i ti)
  (j:∀ v,assign (.Subscript o i g) X.env v=(do
   let l <- holding [v] (eval o X.env);let C <- holding [v,l] (eval i X.env)
   standAt g
   holding [v,l,C] (setItem l C v)
   release [v,l,C] []):=by intro _;rfl)
  (J:swapsWithSole [.Subscript o i g] e pos.line X.env=pure false:=by rfl) (hw:swappedStores [.Subscript o i g] e X.env=pure none:=by rfl)
  (p:(assignEach [.Subscript o i g] X.env).map (·.2)=[assign (.Subscript o i g) X.env]:=by rfl):vC X (.Assign [.Subscript o i g] e pos) (Ko n ti tv) :=
 (E2 hv (Fv I r (OB U) j) J hw p).mono λDn σ H q=>q.elim λB ρ T De N hd P Q=>⟨B,ρ,T,_,N,hd,P,λF u v H1 D d1 t=>by
  obtain⟨r,p⟩:=t;obtain⟨d0,L⟩:=dH.mp r;obtain⟨x,z,_⟩:=d1.peek D L;refine⟨x,z,B,u,(F,some v)::T,_,D,d1,p,λY w y H2 E d2 b=>?_⟩;cases f:sd F with
  | none=>rw[f] at b;exact b.elim
  | some d =>
   cases h:sd Y with
   | none=>rw[f,h] at b;exact b.elim
   | some k =>
    cases m:w[n]? with
    | none=>rw[f,h,m] at b;exact b.elim
    | some s =>
     cases s with
     | n=>rw[f,h,m] at b;exact b.elim
     | v c=>rw[f,h,m] at b;exact b.elim
     | o c =>
      rw[f,h,m] at b;obtain⟨G,M,b⟩:=b;obtain⟨R,S,V⟩:=d2.two f h;obtain⟨a,j,W,Z⟩:=R.slotW E m;rw[z] at j;cases j;exact MQ M W V.peek S λo O=>(Q.1 _ _ _ (by rw[bO];exact E) rfl (Z o G O)).1 b⟩
def Oz (n:Nat) (f:Int->Int->Int) (g:nF):qN:=λd c b=>match at? b n with
 | some (.int i)=>g d b λr a=>match r with
  | .v (.int j)=>c.nx (a.set n (.v (.int (f i j))))
  | _=>False
 | _=>False
theorem Kh (j:X.N.Nodup) (p:X.N[n]?=some x) (I:xP X.env.scope x) (l:PD X e J) (C:K1 X op (Uv f)) (o:X.fn x=true\/X.env.scope.names.lookup x=some .local:=by first | exact .inl rfl | exact .inr rfl | assumption) :
  vC X (.AugAssign (.Name x g) op e pos) (Oz n f J):=(SU j p I l C o).mono λz A H h=>h.elim λB m T w i hd a t=>by
 unfold Oz at a;cases b:at? m n with
 | none=>rw[b] at a;exact False.elim a
 | some d =>
 rw[b] at a;cases d<;>first | exact False.elim a | skip
 .obtain⟨v,s,pv⟩:=hd.peek i b;have:=pv.int_inv;subst this;refine⟨_,s,B,m,T,_,i,hd,a,λr u y q k d1 c=>?_⟩;cases r<;>first | exact False.elim c | skip
  rename_i d
  cases d<;>first | exact False.elim c | skip
  have:=d1.valAt.int_inv;subst this;exact⟨_,_,rfl,rfl,(t.1 _ _ q (by rw[bO,bO];exact k) (bO ..) ((d1.drop.push (.int _)).assign k n)).1 c⟩
end
section
variable {X:Cx}
def AT (K:mH) (R:It->Hp->Prop) (x:V) (H:Hp):Prop:=(∃ a,x = .ref a/\(∃ b,mK K H a b)/\R (xX K a) H)\/(∃ a,x = .ref a/\(∃ b,nG K H a b)/\R (Cs K a) H)\/∃ z:Af,x = .str z/\z.cps.all (·<128)=true/\R (wO z) H
def Za (K:mH) (g:TE):TI:=λb H R=>g b H λx a=>AT K R x a
theorem S1 (g:PE X l j):PI X r l (Za X.K j):=by
 intro d s G H R I h;refine mM (g d s G H _ I h) λv c u=>?_
 obtain⟨x,k,f,w,D⟩:=u;have m:∀ b∈[c.heap.objs.size],tU X d k b:=λb A=>by
  have e:b=c.heap.objs.size:=by simpa using A
  subst e;exact f.fpOk (aW _) (f.hok.fresh (aW _))
 rcases D with⟨a,rfl,⟨F,n⟩,q⟩ | ⟨a,rfl,⟨F,n⟩,q⟩ | ⟨z,rfl,y,q⟩
 .cases w;obtain⟨i,E,p,B⟩:=f.list n;exact fB p.isList ⟨c.heap.objs.size,[c.heap.objs.size],_,_,k,rfl,f.kept (t':=c.toks) λb o e=>aG _ e,Sb a _,⟨_,bB _ rfl,rfl,rfl⟩,m,q⟩
 .cases w;obtain⟨i,E,p,B⟩:=f.tuple n;exact wpAny_pyIter_tuple (show c.heap.IsTuple a i.toArray from p) ⟨c.heap.objs.size,[c.heap.objs.size],_,_,k,rfl,f.kept (t':=c.toks) λb o e=>aG _ e,NI a _,⟨_,bB _ rfl,rfl,rfl⟩,m,q⟩
 .obtain⟨t,rfl⟩:=w;exact wpAny_pyIter_ascii y ⟨c.heap.objs.size,[c.heap.objs.size],_,wO z,k,rfl,f.kept (t':=c.toks) λb L q=>aG _ q,U9 z t _,⟨_,bB _ rfl,rfl,rfl⟩,m,q⟩
end
def zS (K:mH) (A:Ad->Prop) (H:Hp) (E:oF):Prop:=∀ p∈E,tN K A H p.1 p.2
structure YD (K:mH) (J:It) (ds:List D) (E:oF):Prop where
 vals:hI E=[]
 go:∀ i H A,i<ds.length->zS K A H E->J.go i H
 yld:∀ i H A x H',i<ds.length->zS K A H E->J.yld i H x H'->∃ d,ds[i]?=some d/\((H'=H/\Rep K A H d x)\/∃ p es vs,H p=none/\x = .ref p/\H'=upd H p (.t vs)/\d = .t es/\Reps K A H es vs)
 stop:∀ i H A,i=ds.length->zS K A H E->J.stop i H
abbrev vW:=Aa Ad->Aa Sl->(Aa D->Aa Sl->Prop)->Prop
def dI (K:mH) (g:vW):TI:=λb H R=>∃ (B:Bs) (c:Aa Sl) (T:oF) (f:Aa D->Aa Sl->Prop),c.length=b.length/\DS K B (c.zip b++T) H/\g B.dk c f /\
 ∀ (J:It) (e:Aa D) (a:Aa Sl) (E:oF) (d:Hp),a.length=b.length->DS K B (a.zip b++(E++T)) d->YD K J e E->f e a->R J d
theorem dI.elim {K:mH}{R:It->Hp->Prop}{P:Prop}(h:dI K C o H R) (f:∀ (B:Bs) (j:Aa Sl) (T:oF) (l:Aa D->Aa Sl->Prop),j.length=o.length->DS K B (j.zip o++T) H->C B.dk j l ->(∀ (J:It) (r:Aa D) (g:Aa Sl) (E:oF) (p:Hp),g.length=o.length->DS K B (g.zip o++(E++T)) p->YD K J r E->l r g->R J p)->P):P:=by
 obtain⟨B,j,T,l,a,hd,b,k⟩:=h;exact f B j T l a hd b k
abbrev wU (X:Cx) (g iter:Expr) (j:vW):Prop:=PI X g iter (dI X.K j)
theorem PI.mono {X:Cx}{iter:Expr}(h:PI X j iter w) (k:∀ g H R,l g H R->w g H R):PI X j iter l:=λa s g H R I q=>h a s g H R I (k g H R q)
noncomputable def Co (z:Af):Aa D:=z.cps.toList.map λc=>D.str ⟨#[c]⟩
def QD:D->Ab (Aa D)
 | .l a=>some a
 | .t a=>some a
 | .con a=>some a
 | .c a=>some a
 | .str z=>if z.cps.all (·<128) then some (Co z) else none
 | _=>none
def iV (g:nF):vW:=λb e d=>g b e λr a=>match (sd r).bind QD with
 | some c=>d c a
 | none=>False
noncomputable def rH (lo:Int) (n:Nat):Aa D:=(List.range n).map λ(i:Nat)=>D.int (lo+i)
def P9 (g:nF):vW:=λb d c=>g b d λr a=>match r with
 | .v (.int j)=>-(2 ^ 62)<=j/\j<2 ^ 62/\c (rH 0 j.toNat) a
 | _=>False
section
variable {X:Cx}{K:mH}
theorem UN {a:Ad}{g:Aa D}:YD K (xX K a) g [(.v (.l g),some (.ref a))] where
 vals:=rfl
 go:=λi H A h ok=>by
  obtain⟨v,e,r⟩:=ok _ aF;cases e;obtain⟨k,b,e,_,c,f⟩:=r.lst_inv;cases e;exact⟨b,b[i]'(by rw[<- f.length];exact h),mK.of c,aH _⟩
 yld:=λi H A x m h ok y=>by
  obtain⟨v,e,r⟩:=ok _ aF;cases e;obtain⟨k,b,e,_,c,f⟩:=r.lst_inv;cases e;obtain⟨d,hd,rd⟩:=f.getV (y.2 b (mK.of c));exact⟨d,hd,.inl ⟨y.1,rd⟩⟩
 stop:=λi H A h ok=>by
  obtain⟨v,e,r⟩:=ok _ aF;cases e;obtain⟨k,b,e,_,c,f⟩:=r.lst_inv;cases e;exact⟨b,mK.of c,by rw[<- f.length];omega⟩
theorem LK {a:Ad}{g:Aa D}:YD K (xX K a) g [(.v (.c g),some (.ref a))] where
 vals:=rfl
 go:=λi H A k ok=>by
  obtain⟨v,e,r⟩:=ok _ aF;cases e;obtain⟨m,b,e,f,h⟩:=r.scr_inv;cases e;exact⟨b,b[i]'(by rw[<- h.length];exact k),f.sqL,aH _⟩
 yld:=λi H A x n k ok y=>by
  obtain⟨v,e,r⟩:=ok _ aF;cases e;obtain⟨m,b,e,f,h⟩:=r.scr_inv;cases e;obtain⟨d,hd,rd⟩:=h.getV (y.2 b f.sqL);exact⟨d,hd,.inl ⟨y.1,rd⟩⟩
 stop:=λi H A k ok=>by
  obtain⟨v,e,r⟩:=ok _ aF;cases e;obtain⟨m,b,e,f,h⟩:=r.scr_inv;cases e;exact⟨b,f.sqL,by rw[<- h.length];omega⟩
theorem Pq {a:Ad}{d:D}{g:Aa D}(hd:d = .t g\/d = .con g):YD K (Cs K a) g [(.v d,some (.ref a))]:=by
 have key:∀ A H,zS K A H [(.v d,some (.ref a))]->∃ b,nG K H a b/\Reps K A H g b:=λA H ok=>by
  obtain⟨v,e,r⟩:=ok _ aF;cases e;rcases hd with rfl | rfl
  .obtain⟨k,b,e,c,f⟩:=r.tup_inv;cases e;exact⟨b,nG.of c,f⟩
  .obtain⟨k,b,e,c,f⟩:=r.con_inv;cases e;exact⟨b,c.sqT,f⟩
 refine⟨rfl,λi H A h ok=>?_,λi H A x m h ok y=>?_,λi H A h ok=>?_⟩
 .obtain⟨b,c,f⟩:=key A H ok;exact⟨b,b[i]'(by rw[<- f.length];exact h),c,aH _⟩
 .obtain⟨b,c,f⟩:=key A H ok;obtain⟨d,hd,rd⟩:=f.getV (y.2 b c);exact⟨d,hd,.inl ⟨y.1,rd⟩⟩
 .obtain⟨b,c,f⟩:=key A H ok;exact⟨b,c,by rw[<- f.length];omega⟩
theorem FT:YD K (wO z) (Co z) [] where
 vals:=rfl
 go:=λi H A a _=>by simpa [wO,Co,Str.length] using a
 yld:=λi H A x d a _ y=>by
  obtain⟨e,c,b,rfl⟩:=y;refine⟨.str ⟨#[c]⟩,?_,.inl ⟨e,.str _⟩⟩;unfold Co;rw[bC,dM,b];rfl
 stop:=λi H A a _=>by simp[wO,a,Co,Str.length]
theorem OS {lo:Int}:YD K (vQ lo n) (rH lo n) [] where
 vals:=rfl
 go:=λi H A a _=>by simpa [vQ,rH] using a
 yld:=λi H A x c a _ y=>by
  have b:i<n:=by simpa [rH] using a
  refine⟨.int (lo+i),by simp[rH,b],.inl ⟨y.1,?_⟩⟩;rw[y.2];exact .int _
 stop:=λi H A a _=>by simp[vQ,rH,a]
theorem nE (g:PD X e j):wU X o e (iV j):=(S1 g).mono λM H R w=>w.elim λB L T G E hd F k=>⟨B,L,T,_,E,hd,F,λr f v n q d1 b=>by
 cases u:sd r with
 | none=>rw[u] at b;exact b.elim
 | some d =>
  rw[u] at b;have d2:=d1.thaw u;have s:=d2.valAt;cases d with
  | l m=>obtain⟨a,i,rfl,_,h,y⟩:=s.lst_inv;exact .inl ⟨a,rfl,⟨i,mK.of h⟩,k _ m f [_] n q d2 UN b⟩
  | c m=>obtain⟨a,i,rfl,h,y⟩:=s.scr_inv;exact .inl ⟨a,rfl,⟨i,h.sqL⟩,k _ m f [_] n q d2 LK b⟩
  | t m=>obtain⟨a,i,rfl,h,y⟩:=s.tup_inv;exact .inr (.inl ⟨a,rfl,⟨i,nG.of h⟩,k _ m f [_] n q d2 (Pq (.inl rfl)) b⟩)
  | con m=>obtain⟨a,i,rfl,h,y⟩:=s.con_inv;exact .inr (.inl ⟨a,rfl,⟨i,h.sqT⟩,k _ m f [_] n q d2 (Pq (.inr rfl)) b⟩)
  | str z =>
   have:=s.str_inv;subst this;have b:=(show (match (if z.cps.all (·<128)=true then some (Co z) else none:Ab (Aa D)) with | some A=>G A f | none=>False) from b);by_cases x:z.cps.all (·<128)=true
   .rw[aR x] at b;exact .inr (.inr ⟨z,rfl,x,k _ _ f [] n q d2.drop FT b⟩)
   .rw[aM x] at b;exact b.elim
  | _=>exact b.elim⟩
theorem A8 (j:Gl X "range") (l:X.mg "range" = none) (g:PD X a I) (C:starEach [a] X.env=[(false,eval a X.env)]:=by rfl) (o:wQ a=true:=by rfl):wU X J (.Call (.Name "range" p) [a] [] pos) (P9 I) :=
 (Ee j l (nM g oG o) C).mono λs H R c=>c.elim λB n T q h hd i k=>⟨B,n,T,_,h,hd,i,λr e v f m d1 b=>by
  cases r<;>first | exact False.elim b | skip
  rename_i d
  cases d<;>first | exact False.elim b | skip
  have:=d1.valAt.int_inv;subst this;exact⟨_,rfl,b.1,b.2.1,k _ _ e [] f m d1.drop OS b.2.2⟩⟩
def T0 (l:vW) (g:uD) (j:qN):qN:=λf b k=>l f k λh c=>∃ Pv:Nat->Aa Sl->Prop,Pv 0 c /\
 (∀ i d a,h[i]?=some d->Pv i a->g d a λe=>j f { nx:=Pv (i+1),ct:=Pv (i+1),bk:=b.nx,rt:=b.rt } e)/\∀ a,Pv h.length a->b.nx a
theorem DS.rmE:∀ {E:oF},DS K B (L++(E++T)) H->DS K B (L++T) H
 | [],h=>h
 | x::E,h=>DS.rmE (E:=E) (DS.drop (L1:=L) (x:=x) (by simpa using h))
theorem qO {iter:Expr}{body:Aa Stmt}{o:vW}{g:uD}{j:qN}(hi:wU X l iter o) (hg:xI X 99 l g) (I:wS X body j) (hp:PassesOwn (model X.prog X.w) X.A X.env X.xe:=by exact iK) (U:X.calm=true:=by rfl)
  (hs:∀ x,foldedSetIterable iter X.env x=pure x:=by intro _;rfl):vC X (.For l iter body [] pos) (T0 o g j) :=
 (J4 hp U hi hg I hs).mono λDn W H O=>O.elim λB ρ T De hl hd ht Q=>⟨B,ρ,T,_,hl,hd,ht,λJ F S E H1 l1 d1 Y P=>by
  obtain⟨Pv,p0,step,fin⟩:=P;refine⟨λi m c k=>m=F.length-i/\i<=F.length/\∃ a,a.length=c.length/\c.length=W.length/\DS X.K B (a.zip c++(E++T)) k/\Pv i a,⟨_,rfl,dF _,S,l1,rfl,d1,p0⟩,?_⟩;rintro i m c k ⟨rfl,aa,a,V,m2,L,pv⟩;have n:zS X.K (Al B (hI (a.zip c++(E++T)))) k E:=λq hq=>L.ok q (by simp[hq])
  by_cases s:i<F.length
  .refine .inr ⟨Y.go i k _ s n,λf t=>∃ b,b.length=f.length/\f.length=W.length/\DS X.K B (b.zip f++(E++T)) t/\Pv (i+1) b,λf t ⟨b,q1,q2,R,q4⟩=>⟨_,(by omega:F.length-(i+1)<_),rfl,s,b,q1,q2,R,q4⟩,λx t y=>?_⟩;obtain⟨d,M,alt⟩:=Y.yld i k _ x t s n y;have d2:DS X.K B (a.zip c++(.v d,some x)::(E++T)) t:=by
    rcases alt with⟨rfl,rx⟩ | ⟨p,es,vs,N,rfl,rfl,rfl,rr⟩
    .exact L.push rx
    .exact L.tup N rr
   refine⟨B,a,E++T,d,_,V,d2,step i d a M pv,λb f H3 n1 n2 _ Z R=>⟨B,b,E++T,_,n1,Z,R,?_,?_⟩⟩
   .intro e h G u a2 D;refine⟨λz=>⟨e,u,by omega,D,z⟩,λz=>?_,λz=>⟨e,u,by omega,D,z⟩⟩;exact (Q.1 e h G u (by omega) D.rmE).1 z
   .intro r v e h G u D z;refine Q.2 r v e h G u ?_ z;have:DS X.K B ((e.zip h++[(r,some v)])++(E++T)) G:=by simpa using D
    simpa using this.rmE
  .have C:i=F.length:=by omega
   subst C;exact .inl ⟨Y.stop _ k _ rfl n,(Q.1 a c k V m2 L.rmE).1 (fin a pv)⟩⟩
def MD (c:rW) (g:qN):qN:=λi h d=>∃ (Pv:Aa Sl->Prop) (f:Aa Sl->Nat),Pv d/\∀ d,Pv d->c i d λb e =>
 if b=true then g i { nx:=λa=>Pv a/\f a<f d,ct:=λa=>Pv a/\f a<f d,bk:=h.nx,rt:=h.rt } e else h.nx e
theorem Qv {c:Expr}{body:Aa Stmt}{j:rW}{g:qN}(p:PassesOwn (model X.prog X.w) X.A X.env X.xe) (o:uO X c j) (l:wS X body g):vC X (.While c body [] pos) (MD j g) :=
 (QS p o l).mono λI G H t=>t.elim λB Z T C N hd ⟨Pv,x,Q,step⟩ u=>by
  refine⟨λm f y=>∃ a,m=x a/\a.length=f.length/\f.length=G.length/\DS X.K B (a.zip f++T) y/\Pv a,⟨_,Z,rfl,N,rfl,hd,Q⟩,?_⟩;rintro m f y ⟨a,rfl,O,P,M,pv⟩;refine⟨B,a,T,_,O,M,step a pv,λb q L F d1 E=>?_⟩;cases b with
  | true =>
   refine (aR rfl).mpr ⟨λh D=>∃ d,d.length=h.length/\h.length=G.length/\DS X.K B (d.zip h++T) D/\Pv d/\x d<x a,λh D ⟨d,R,S,V,W,Y⟩=>⟨_,Y,d,rfl,R,S,V,W⟩,B,q,T,_,F,d1,(aR rfl).mp E,?_,?_⟩
   .intro e i s k J n;exact⟨λz=>⟨e,k,by omega,n,z⟩,λz=>(u.1 e i s k (by omega) n).1 z,λz=>⟨e,k,by omega,n,z⟩⟩
   .exact λr v e i s k n z=>u.2 r v e i s k n z
  | false=>exact vD ((u.1 q f L F P d1).1 ((aM (by decide)).mp E))
end
def nQ (B:Bs) (D:Ad) (g:Aa V):Bs:=⟨B.dk,λa=>(B.A0 a\/B.H0 a=none)/\a≠D,λa=>if a=D then some (.l g) else B.H0 a⟩
section
variable {K:mH}{R:oF}{D:Ad}
theorem C5 {R:Aa Ad}:Al (nQ B D g) R a↔Al B R a/\a≠D:=by
 unfold Al nQ;constructor
 .rintro ⟨c,d,b | b⟩
  .exact⟨⟨c,d,b.1⟩,b.2⟩
  .dsimp only at b;by_cases z:a=D
   .rw[aR z] at b;cases b
   .rw[aM z] at b;exact⟨⟨c,d,.inr b⟩,z⟩
 .rintro ⟨⟨c,d,b⟩,e⟩;exact⟨c,d,.inl ⟨b,e⟩⟩
theorem DS.pin (h:DS K B L H) (g:H D=none):DS K (nQ B D []) L (upd H D (.l [])):=by
 obtain⟨f1,f2,d⟩:=h.free g;refine⟨λb o e n=>?_,h.dk.upd f2,h.nd,λa c=>?_,λp f=>(h.ok p f).mono (.laid g λa z n=>C5.mpr ⟨z,n⟩) λb i o q=>by rw[mQ (nN q g)];exact q⟩
 .by_cases z:b=D
  .subst z;simp only[nQ,gA] at e;cases e;exact mZ
  .simp only[nQ,aM z] at e;rw[mQ z];exact h.fr b o e n
 .have:=h.new a c;have z:a≠D:=λq=>d (q▸c)
  exact⟨by simp only[nQ,aM z];exact this.1,this.2⟩
theorem DS.pinAt (h:DS K (nQ B D j) L H) (g:D∉B.dk):H D=some (.l j):=h.fr D _ (by simp[nQ]) g
theorem DS.pinW (h:DS K (nQ B D j) L H) (g:D∉B.dk):DS K (nQ B D ys') L (upd H D (.l ys')):=by
 have d:=h.pinAt g;have k:Kp (Al (nQ B D j) (hI L)) (Al (nQ B D ys') (hI L)) H (upd H D (.l ys')) :=
  (Kp.write (A:=Al (nQ B D j) (hI L)) d rfl λz=>(C5.mp z).2 rfl).trans (.all λa z=>C5.mpr (C5.mp z))
 refine⟨λb o e n=>?_,h.dk.upd g,h.nd,λa f=>?_,λp c=>(h.ok p c).mono k λb i o q=>?_⟩
 .by_cases z:b=D
  .subst z;simp only[nQ,gA] at e;cases e;exact mZ
  .simp only[nQ,aM z] at e;rw[mQ z];exact h.fr b o (by simp only[nQ,aM z];exact e) n
 .have:=h.new a f;have z:a≠D:=λq=>by subst q;simp[nQ] at this
  simp only[nQ,aM z] at this |-;exact this
 .have:=(h.new b (vE.mpr ⟨p,c,i⟩)).1;have z:b≠D:=λw=>by subst w;simp[nQ] at this
  rw[mQ z];exact q
theorem DS.unpin (h:DS K (nQ B D g) L H) (r:Reps K (Al (nQ B D g) (hI L)) H I g) (j:B.H0 D=none) (C:D∉B.dk):DS K B ((.o (.l I),some (.ref D))::L) H:=by
 have k:=h.pinAt C;have i:D∉hI L:=λz=>by have:=(h.new D z).1;simp[nQ] at this
 have c:hI ((Sl.o (.l I),some (V.ref D))::L)=D::hI L:=rfl;have al:∀ a,Al (nQ B D g) (hI L) a->Al B (D::hI L) a:=λa z=>by
  obtain⟨d,s⟩:=C5.mp z;exact⟨d.1,λq=>(aO.mp q).elim s d.2.1,d.2.2⟩
 refine⟨λb o e n=>?_,h.dk,by rw[c];exact bP.mpr ⟨i,h.nd⟩,λa f=>?_,λp m=>?_⟩
 .have z:b≠D:=λq=>by subst q;rw[j] at e;cases e
  exact h.fr b o (by simp only[nQ,aM z];exact e) n
 .rw[c] at f;rcases aO.mp f with q | q
  .subst q;exact⟨j,C⟩
  .have:=h.new a q;have z:a≠D:=λw=>i (w▸q)
   simp only[nQ,aM z] at this;exact this
 .rw[c];rcases aO.mp m with q | q
  .subst q;exact⟨D,rfl,g,k,r.mono (.all al)⟩
  .exact (h.ok p q).mono (.all al) λ_ _ _ w=>w
theorem DS.lend1 {g:Aa Sl}{j:St}(l:g.length=j.length) (h:DS K B (g.zip j++R) H) (i:Nat):DS K B ((g.set i .n).zip j++((g[i]?).getD .n,(j[i]?).join)::R) H:=by
 by_cases d:i<g.length
 .obtain⟨b,y,c,f,_,t,a⟩:=vJ l (aH d);rw[t] at h;have k:DS K B (b++(g[i],y)::(c++R)) H:=by simpa using h
  have m:=k.front;have q:DS K B (((g[i],y)::b)++(.n,y)::(c++R)) H:=DS.pushN (L1:=(g[i],y)::b) (by simpa using m) y;have e:=a .n y;rw[A4 f] at e;rw[e,aH d,f];have s:DS K B ((g[i],y)::((b++(Sl.n,y)::c)++R)) H:=by simpa using q
  exact s.mid
 .rw[gZ (by omega),fN (by omega),fN (by omega)];exact h.pushN _
theorem DS.back1 {g:Aa Sl}{l:St}{s:Sl}{y:Ab V}(o:g.length=l.length) (h:DS K B (g.zip l++(s,y)::R) H){i:Nat}(j:(l[i]?).join=y):DS K B ((g.set i s).zip l++R) H:=by
 by_cases q:i<g.length
 .obtain⟨d,a,f,c,_,t,b⟩:=vJ o (aH q);rw[c] at j;have j:a=y:=j;subst j;have e:=b s a;rw[A4 c] at e;rw[e];rw[t] at h;have k:DS K B (d++(f++(s,a)::R)) H:=DS.drop (L1:=d) (x:=(g[i],a)) (by simpa using h);have m:DS K B ((d++f)++(s,a)::R) H:=by simpa using k
  have n:DS K B ((s,a)::(d++(f++R))) H:=by simpa using m.front
  simpa using n.mid
 .rw[gZ (by omega)];exact h.drop
def oP (g:Aa Nat) (j:Aa Sl):Aa Sl:=g.map λi=>(j[i]?).getD .n
def sD (g:Aa Nat) (j:St):St:=g.map λi=>(j[i]?).join
def pV (g:Aa Nat) (j:Aa Sl):Aa Sl:=g.foldl (λj i=>j.set i .n) j
def pU:Aa Nat->Aa Sl->Aa Sl->Aa Sl
 | i::a,s::c,b=>pU a c (b.set i s)
 | _,_,b=>b
theorem Nu:∀ (g:Aa Nat) (j:Aa Sl),(pV g j).length=j.length
 | [],_=>rfl
 | i::g,j=>by show (pV g (j.set i .n)).length=_;rw[Nu g,bO]
theorem S9:∀ (g:Aa Nat) (l:Aa Sl) (j:Aa Sl),(pU g l j).length=j.length
 | [],_,_=>rfl
 | _::_,[],_=>rfl
 | i::g,s::l,j=>(S9 g l (j.set i s)).trans (bO ..)
theorem DS.lend:∀ {caps:Aa Nat}{g:Aa Sl}{R:oF},caps.Nodup->g.length=l.length->DS K B (g.zip l++R) H->DS K B ((pV caps g).zip l++((oP caps g).zip (sD caps l)++R)) H
 | [],g,R,_,a,h=>h
 | i::caps,g,R,d,a,h=>by
  obtain⟨f,k⟩:=bP.mp d;have b:=DS.lend (caps:=caps) (R:=((g[i]?).getD .n,(l[i]?).join)::R) k (by rw[bO];exact a) (h.lend1 a i);have e:oP caps (g.set i .n)=oP caps g:=bV λj c=>by rw[dU (λz:i=j=>f (by rw[z];exact c))]
  rw[e] at b;show DS K B ((pV caps (g.set i .n)).zip l++((((g[i]?).getD .n,(l[i]?).join)::(oP caps g).zip (sD caps l))++R)) H;refine b.perm (kE _ ?_);rw[cQ];exact iA
theorem DS.back:∀ {caps:Aa Nat}{cs:Aa Sl}{g:Aa Sl}{R:oF},cs.length=caps.length->g.length=j.length->DS K B (g.zip j++(cs.zip (sD caps j)++R)) H->DS K B ((pU caps cs g).zip j++R) H
 | [],[],g,R,_,a,h=>h
 | [],_::_,_,_,e,_,_=>by simp at e
 | _::_,[],_,_,e,_,_=>by simp at e
 | i::caps,s::cs,g,R,e,a,h=>by
  have b:DS K B (g.zip j++(s,(j[i]?).join)::(cs.zip (sD caps j)++R)) H:=h;exact DS.back (caps:=caps) (cs:=cs) (by simpa using e) (by rw[bO];exact a) (b.back1 a rfl)
theorem OA (g:Aa Nat):∀ (o:Aa Sl) (l:Aa Sl),o.length=g.length->g.Nodup->pU g o (pV g l)=pU g o l:=by
 have ext:∀ (g:Aa Nat) (o:Aa Sl) (l a:Aa Sl),o.length=g.length->l.length=a.length->(∀ j,j∉g->l[j]?=a[j]?)->pU g o l=pU g o a:=by
  intro g;induction g with
  | nil=>intro o l a _ _ h;cases o<;>exact jX λj=>h j bH
  | cons i g c =>
   intro o l a e d h;cases o with
   | nil=>simp at e
   | cons s o =>
    show pU g o (l.set i s)=pU g o (a.set i s);refine c o _ _ (by simpa using e) (by simp[d]) λj b=>?_
    by_cases z:j=i
    .subst z;rw[List.getElem?_set,List.getElem?_set,d,aR rfl,aR rfl]
    .rw[dU (eI z),dU (eI z)];exact h j λq=>(aO.mp q).elim z b
 intro o l e _;refine ext g o _ _ e (Nu g l) λj b=>?_
 have:∀ (g:Aa Nat) (l:Aa Sl),j∉g->(pV g l)[j]?=l[j]?:=by
  intro g;induction g with
  | nil=>intro l _;rfl
  | cons i g c =>
   intro l b;show (pV g (l.set i .n))[j]?=_;rw[c _ (λz=>b (aP _ z)),dU (λz=>b (by simp[z]))]
 exact this g l b
theorem Tt:∀ {g:Aa L2.D}{j:Aa V},g.length=j.length->(∀ p∈pZ g j,tN K A H p.1 p.2)->Reps K A H g j
 | [],[],_,_=>.nil
 | [],_::_,e,_=>by simp at e
 | _::_,[],e,_=>by simp at e
 | c::g,y::j,e,key=>by
  obtain⟨u,b,r⟩:=key (.v c,some y) (by simp[pZ]);cases b;exact .cons r (Tt (by simpa using e) λp a=>key p (by simp only[pZ,cW,aK,aO] at a |-;exact .inr a))
theorem DS.forget {ρ:Aa Sl}(n:Nat) (g:ρ.length=σ.length) (j:n<=ρ.length) (h:DS K B (ρ.zip σ++R) H):DS K B ((List.replicate n Sl.n++ρ.drop n).zip σ++R) H:=by
 induction n generalizing ρ σ R with
 | zero=>simpa using h
 | succ n c =>
  cases ρ with
  | nil=>simp at j
  | cons r ρ =>
   cases σ with
   | nil=>simp at g
   | cons y σ =>
    have a:DS K B (ρ.zip σ++R) H:=DS.drop (L1:=[]) (x:=(r,y)) h;have b:=c (ρ:=ρ) (σ:=σ) (R:=R) (by simpa using g) (by simpa using j) a;rw[dN,cQ,List.drop_succ_cons,cW];exact DS.pushN (L1:=[]) b y
end
def G7:rW:=λ_ b a=>a true b
def tJ (n:Nat) (j:Aa Nat) (I:vW) (g:uD) (C:rW) (p:nF):nF:=λk u t=>I k u λs f=>∃ Pv:Nat->Aa D->Aa Sl->Prop,Pv 0 [] (oP j f) /\
 (∀ i d e a,s[i]?=some d->a.length=j.length->Pv i e a->g d (List.replicate n Sl.n++a) λm=>C k m λb h=>if b=true then p k h λr q=>match sd r with
  | some c=>e.length<100000/\Pv (i+1) (e++[c]) (q.drop n)
  | none=>False
  else Pv (i+1) e (h.drop n)) /\
 ∀ e a,a.length=j.length->Pv s.length e a->t (.o (.l e)) (pU j a f)
section
variable {X:Cx}
theorem B9:vG X [] (uC X.K G7):=λa s f H Q I b=>b.elim λB e T h c hd d k=>Cb a s f H Q I (k true e H c hd d)
theorem vP (h:uO X c t):vG X [c] (uC X.K t):=Vn h
theorem T9 {T:Aa Af}{C:Aa Nat}{g:uD}{tt:rW}{te:nF}{K:mH}(ac:C.Nodup){σ:St}{H1:Hp}{Q:VK}{B:Bs}{I:Aa Sl}{Tm:oF}{Φ:Sl->Aa Sl->Prop}{J:It}{ds:Aa L2.D}{D:Ad}(l1:I.length=σ.length) (d1:DS K B (I.zip σ++Tm) H1)
  (hJ:∀ i U La M H,(∀ q∈Tm,q∈M)->DS K (nQ B D U) (La++M) H->(i<ds.length->J.go i H)/\(i=ds.length->J.stop i H)/\∀ x H2,i<ds.length->J.yld i H x H2->∃ d,ds[i]?=some d/\DS K (nQ B D U) (La++(.v d,some x)::M) H2)
  (ag:∃ Pv:Nat->Aa L2.D->Aa Sl->Prop,Pv 0 [] (oP C I) /\ (∀ i d U cs,ds[i]?=some d->cs.length=C.length->Pv i U cs->g d (List.replicate T.length Sl.n++cs) λaf=>tt B.dk af λb ab=>if b=true then te B.dk ab λr aa=>match sd r with
    | some c=>U.length<100000/\Pv (i+1) (U++[c]) (aa.drop T.length)
    | none=>False
    else Pv (i+1) U (ab.drop T.length)) /\
   ∀ U cs,cs.length=C.length->Pv ds.length U cs->Φ (.o (.l U)) (pU C cs I))
  (k:∀ r ae v H',ae.length=σ.length->DS K B (ae.zip σ++(r,some v)::Tm) H'->Φ r ae->Q v H') (hD:H1 D=none):Cm T C J (dG K T.length g) (uC K tt) (dE K te) σ H1 Q D:=by
 obtain⟨Pv,p0,step,fin⟩:=ag;obtain⟨f1,f2,f3⟩:=d1.free hD;refine⟨λi m U s H'=>m=ds.length-i/\i<=ds.length/\s.length=T.length+C.length/\(∀ j,T.length<=j->s[j]?=(sT T C σ)[j]?)/\∃ (h:Aa L2.D) (cs:Aa Sl),cs.length=C.length/\h.length=U.length /\ DS K (nQ B D U) ((List.replicate T.length Sl.n++cs).zip s++((pV C I).zip σ++(pZ h U++Tm))) H'/\Pv i h cs,?_,?_⟩
 .refine⟨_,rfl,dF _,by simp[sT],λ_ _=>rfl,[],oP C I,by simp[oP],rfl,?_,p0⟩;have h2:=(d1.lend ac l1).pin hD;have e:(List.replicate T.length Sl.n++oP C I).zip (sT T C σ)=List.replicate T.length (Sl.n,none)++(oP C I).zip (sD C σ):=by
   have:∀ n,(List.replicate n Sl.n++oP C I).zip (List.replicate n none++sD C σ)=List.replicate n (Sl.n,none)++(oP C I).zip (sD C σ):=by
    intro n;induction n with
    | zero=>rfl
    | succ n ih=>simp only[dN,cQ,cW,ih]
   have W:sT T C σ=List.replicate T.length none++sD C σ:=by unfold sT sD;rw[List.map_const']
   rw[W];exact this _
  rw[e];have h3:DS K (nQ B D []) ((oP C I).zip (sD C σ)++((pV C I).zip σ++Tm)) (upd H1 D (.l [])):=h2.perm (by
   rw[<- bJ,<- bJ (as:=(oP C I).zip (sD C σ))];exact List.perm_append_comm.append_right _)
  have:∀ n,DS K (nQ B D []) (List.replicate n (Sl.n,none)++((oP C I).zip (sD C σ)++((pV C I).zip σ++Tm))) (upd H1 D (.l [])):=by
   intro n;induction n with
   | zero=>exact h3
   | succ n ih=>rw[dN];exact DS.pushN (L1:=[]) ih none
  have e3:pZ ([]:Aa L2.D) ([]:Aa V)=[]:=rfl;rw[e3]
  simpa using this T.length
 .rintro i m U s H' ⟨rfl,hi,ls,fs,h,cs,G,z,N,pv⟩;obtain⟨j1,j2,j3⟩:=hJ i U _ _ H' (λq hq=>by simp[hq]) N;by_cases w:i<ds.length
  .refine .inr ⟨j1 w,λf v R=>f.length=T.length+C.length/\(∀ j,T.length<=j->f[j]?=(sT T C σ)[j]?)/\U.length<100000/\∃ (c:L2.D) (aa:Aa Sl),aa.length=f.length/\DS K (nQ B D U) (aa.zip f++(.v c,some v)::((pV C I).zip σ++(pZ h U++Tm))) R/\Pv (i+1) (h++[c]) (aa.drop T.length),λf P=>f.length=T.length+C.length/\(∀ j,T.length<=j->f[j]?=(sT T C σ)[j]?)/\∃ aa:Aa Sl,aa.length=f.length/\DS K (nQ B D U) (aa.zip f++((pV C I).zip σ++(pZ h U++Tm))) P/\Pv (i+1) h (aa.drop T.length),?_,?_,λx H2 y=>?_⟩
   .rintro f v R ⟨q1,q2,q3,c,aa,A,t,q6⟩;refine⟨t.pinAt f2,bI q3 (by decide),ds.length-(i+1),by omega,rfl,w,q1,q2,h++[c],aa.drop T.length,by rw[fO];omega,by simp[z],?_,q6⟩;have w1:=(t.pinW (ys':=U++[v]) f2).forget T.length A (by omega);refine w1.perm (kE _ ?_);have ev:pZ (h++[c]) (U++[v])=pZ h U++[(.v c,some v)]:=by unfold pZ;rw[List.zip_append z,List.map_append];rfl
    rw[ev];have p1:((Sl.v c,some v)::((pV C I).zip σ++(pZ h U++Tm))).Perm ((pV C I).zip σ++(pZ h U++((Sl.v c,some v)::Tm))):=by
     rw[<- bJ,<- bJ (as:=(pV C I).zip σ)];exact iA.symm
    simpa using p1
   .rintro f P ⟨q1,q2,aa,A,t,q6⟩;exact⟨ds.length-(i+1),by omega,rfl,w,q1,q2,h,aa.drop T.length,by rw[fO];omega,z,t.forget T.length A (by omega),q6⟩
   .obtain⟨d,Z,d2⟩:=j3 x H2 w y;refine⟨nQ B D U,_,_,d,_,by simp[G,ls],d2,step i d h cs Z G pv,λaf f H3 n1 n2 fr d3 q3=>⟨nQ B D U,af,_,_,n1,d3,q3,λb ab P m1 d4 A=>?_⟩⟩;have F:∀ j,T.length<=j->f[j]?=(sT T C σ)[j]?:=λj O=>(fr j O).trans (fs j O)
    cases b with
    | false=>exact vD ⟨by omega,F,ab,m1,d4,(aM (by decide)).mp A⟩
    | true =>
     refine (aR rfl).mpr ⟨nQ B D U,ab,_,_,m1,d4,(aR rfl).mp A,λr aa v R m4 d5 t=>?_⟩;cases S:sd r with
     | none=>rw[S] at t;exact t.elim
     | some c =>
      rw[S] at t;exact⟨by omega,F,by rw[<- z];exact t.1,c,aa,m4,d5.thaw S,t.2⟩
  .have ei:i=ds.length:=by omega
   subst ei;refine .inl ⟨j2 rfl,?_⟩;have es:s=s.take T.length++sD C σ:=by
    apply jX;intro j;by_cases O:j<T.length
    .rw[gO (by rw[bS];omega),List.getElem?_take_of_lt O]
    .rw[eK (by rw[bS];omega),bS,fs j (by omega)];have W:sT T C σ=List.replicate T.length none++sD C σ:=by unfold sT sD;rw[List.map_const']
     rw[W,eK (by rw[dL];omega),dL]
     congr 1
     omega
   have ez:(List.replicate T.length Sl.n++cs).zip s=(List.replicate T.length Sl.n).zip (s.take T.length)++cs.zip (sD C σ):=by
    conv=>lhs;rw[es]
    exact mB (by rw[dL,bS];omega)
   have rr:Reps K (Al (nQ B D U) (hI ((pU C cs (pV C I)).zip σ++Tm))) H' h U/\DS K (nQ B D U) ((pU C cs (pV C I)).zip σ++Tm) H':=by
    have g1:DS K (nQ B D U) (cs.zip (sD C σ)++((pV C I).zip σ++(pZ h U++Tm))) H':=by
     rw[ez,bJ] at N;exact DS.rmE (L:=[]) (E:=(List.replicate T.length Sl.n).zip (s.take T.length)) N
    have g2:DS K (nQ B D U) ((pV C I).zip σ++(cs.zip (sD C σ)++(pZ h U++Tm))) H':=g1.perm (by
     rw[<- bJ,<- bJ (as:=(pV C I).zip σ)];exact List.perm_append_comm.append_right _)
    have g3:=g2.back G (by rw[Nu];exact l1);have Y:DS K (nQ B D U) ((pU C cs (pV C I)).zip σ++(pZ h U++Tm)) H':=g3;refine⟨?_,Y.rmE⟩;have er:hI ((pU C cs (pV C I)).zip σ++(pZ h U++Tm))=hI ((pU C cs (pV C I)).zip σ++Tm):=by
     have:hI (pZ h U)=[]:=by
      refine iB.mpr λa ha=>?_
      obtain⟨q,hq,e⟩:=vE.mp ha;obtain⟨p,_,rfl⟩:=aI.mp hq;cases e
     rw[sE,sE,sE,this,fS]
    have key:∀ p∈pZ h U,tN K (Al (nQ B D U) (hI ((pU C cs (pV C I)).zip σ++Tm))) H' p.1 p.2:=λp hp=>by
     have:=Y.ok p (by simp[hp]);rw[er] at this;exact this
    clear g1 g2 g3 Y er N ez es;revert key z;generalize Al (nQ B D U) (hI ((pU C cs (pV C I)).zip σ++Tm))=AA;intro z key;exact Tt z key
   have u:=DS.unpin rr.2 rr.1 f1 f2;rw[OA C cs I G ac] at u;exact k _ _ _ H' (by rw[S9];exact l1) u.mid (fin h cs G pv)
theorem Mh {K:mH}(o:j.Nodup) (h:dE K (tJ T.length j ι g U I) C H Q) :
  zD T j (dI K ι) (dG K T.length g) (uC K U) (dE K I) C H Q:=by
 obtain⟨B,R,Tm,Φ,A,hd,G,k⟩:=h;refine⟨B,R,Tm,_,A,hd,G,λJ W S E V L d1 Y z D u=>T9 o (Tm:=E++Tm) L d1 (λi P s M H w d=>?_) z (λr c v m l d h=>k r c v m l (by
  have:DS K B ((c.zip C++[(r,some v)])++(E++Tm)) m:=by simpa using d
  simpa using this.rmE) h) u⟩
 have a:zS K (Al (nQ B D P) (hI (s++M))) H E:=λq F=>d.ok q (by simp[w q (by simp[F])])
 refine⟨λb=>Y.go i H _ b a,λb=>Y.stop i H _ b a,λx n b y=>?_⟩;obtain⟨t,e,alt⟩:=Y.yld i H _ x n b a y;refine⟨t,e,?_⟩;rcases alt with⟨rfl,O⟩ | ⟨p,Z,vs,f,rfl,rfl,rfl,N⟩
 .exact d.push O
 .exact d.tup f N
theorem nY {iter:Expr}(T o:Aa Af) (r:Aa Nat) (hi:wU X tg iter ι)
  (hg:∀ p l C I J,xI (tZ X (T++o) j I C p l J) T.length tg g)
  (he:∀ p l C I J,PD (tZ X (T++o) j I C p l J) aa te)
  (ht:∀ p l C I J,vG (tZ X (T++o) j I C p l J) ab (uC X.K tt):=by exact λ_ _ _ _ _=>B9) (hc:X.calm=true:=by rfl) (hk:j.kind = .function:=by rfl) (ho:C2 X.N X.env.kindOf j T o r=true:=by rfl) (U:r.Nodup:=by decide) (hs:∀ x,foldedSetIterable iter X.env x=pure x:=by intro _;rfl):PD X (.ListComp aa [⟨tg,iter,ab,0⟩] j pos) (tJ T.length r ι g tt te) :=
 (yZ T o r hc hi hk ho hg ht he hs).mono λ_ _ _ h=>Mh U h
theorem zB (i:Nat){iter:Expr}(T o:Aa Af) (I:Aa Nat) (hN:X.N.Nodup) (hi:wU X tg iter ι) (hg:∀ p l C J fp,xI (tZ X (T++o) j J C p l fp) T.length tg g)
  (he:∀ p l C J fp,PD (tZ X (T++o) j J C p l fp) U te)
  (ht:∀ p l C J fp,vG (tZ X (T++o) j J C p l fp) ab (uC X.K tt):=by exact λ_ _ _ _ _=>B9) (hc:X.calm=true:=by rfl) (hk:j.kind = .function:=by rfl) (ho:C2 X.N X.env.kindOf j T o I=true:=by rfl) (af:X.N[i]?=some x:=by rfl) (hx:xP X.env.scope x:=by first | exact Or.inl rfl | exact Or.inr rfl) (aa:I.Nodup:=by decide)
  (ag:swapsWith (.ListComp U [⟨tg,iter,ab,0⟩] j pos) (some (.Name x ac)) ae.line X.env=pure true:=by rfl)
  (hs:∀ x,foldedSetIterable iter X.env x=pure x:=by intro _;rfl)
  (hf:X.fn x=true\/X.env.scope.names.lookup x=some .local:=by first | exact .inl rfl | exact .inr rfl | assumption) :
  vC X (.Assign [.Name x ac] (.ListComp U [⟨tg,iter,ab,0⟩] j pos) ae) (pE i (tJ T.length I ι g tt te)) :=
 (NP T o I hN af hx hc hi hk ho hg ht he ag hs hf).mono λn q H a=>a.elim λB h Tm m e hd ht f=>Mh aa ⟨B,h,Tm,_,e,hd,ht,λr k v c b d1 d=>(f.1 _ _ c (by rw[bO,bO];exact b) (bO ..) (d1.assign b i)).1 d⟩
end
section
variable {X:Cx}{K:mH}
theorem rE (h:Peeks K A H [d] g):∃ x,g=[x]/\nJ K A H d x:=by
 cases h with | cons h r=>cases r;exact⟨_,rfl,h⟩
theorem Ez (h:Peeks K A H [d,e] j):∃ x y,j=[x,y]/\nJ K A H d x/\nJ K A H e y:=by
 cases h with | cons h r=>cases r with | cons g r=>cases r;exact⟨_,_,rfl,h,g⟩
def UG:D->Ab Nat
 | .l a=>some a.length
 | .t a=>some a.length
 | .con a=>some a.length
 | .c a=>some a.length
 | .str z=>some z.length
 | .k b=>some b.length
 | _=>none
def CQ:OC:=λa b=>match a with
 | [d]=>Ih d=true/\∃ n,UG d=some n/\b (.v (.int n))
 | _=>False
def Rn (K:mH):Aa V->Hp->VK->Prop:=λc H Q=>(∃ p d,c=[.ref p]/\(mK K H p d\/nG K H p d)/\Q (.int d.length) H)\/(∃ z,c=[.str z]/\z.length<=sizeLine/\Q (.int z.length) H)\/∃ a b,c=[V.ref a]/\H a=some (.k b)/\Q (.int b.length) H
theorem sH:nW X (.builtin "len") (Rn X.K):=Ej.or (Vo.or OD)
theorem rX:qZ K (Rn K) CQ:=by
 intro B L H m t u Q hd q i k;cases m with
 | nil=>exact False.elim i
 | cons d m =>
 cases m with
 | cons _ _=>exact False.elim i
 | nil =>
 obtain⟨x,rfl,f⟩:=rE q;obtain⟨s,n,c,i⟩:=i;have fin:Q (.int n) H:=k _ _ H i (hd.pushF (.int _));cases d<;>first | (cases c;done) | skip
 .cases c;have:=f.str_inv;subst this;exact .inr (.inl ⟨_,rfl,Bl (cD s),fin⟩)
 .cases c;obtain⟨a,b,rfl,h,r⟩:=f.tup_inv;exact .inl ⟨a,b,rfl,.inr (nG.of h),by rw[<- r.length];exact fin⟩
 .cases c;obtain⟨a,b,rfl,h,r⟩:=f.lst_inv;exact .inl ⟨a,b,rfl,.inl (mK.of h),by rw[<- r.length];exact fin⟩
 .cases c;obtain⟨a,b,rfl,h,e,r⟩:=f.dK_inv;refine .inr (.inr ⟨a,b,rfl,h,?_⟩);have:=cC List.length e;rw[aA,aA] at this;rw[<- this];exact fin
 .cases c;obtain⟨a,b,rfl,h,r⟩:=f.scr_inv;exact .inl ⟨a,b,rfl,.inl h.sqL,by rw[<- r.length];exact fin⟩
 .cases c;obtain⟨a,b,rfl,h,r⟩:=f.con_inv;exact .inl ⟨a,b,rfl,.inr h.sqT,by rw[<- r.length];exact fin⟩
noncomputable def A3:Aa D->Ab (Aa Int)
 | []=>some []
 | .int i::a=>(A3 a).map (i::·)
 | _=>none
theorem Iq:∀ (g:Aa Int),A3 (g.map D.int)=some g
 | []=>rfl
 | n::g=>by
  show (A3 (g.map D.int)).map (n::·)=_;rw[Iq g];rfl
theorem N8 (h:A3 j=some l) (g:Reps K A H j o):o=l.map V.int:=by
 induction j generalizing l o with
 | nil=>cases g;cases h;rfl
 | cons d j b =>
  cases g with
  | cons r g =>
  cases d with
  | int i =>
   obtain⟨c,a,rfl⟩:=cK.mp h;rw[r.int_inv,b a g];rfl
  | _=>cases h
def Jv:OC:=λb d=>match b with
 | [.l c]=>∃ a,A3 c=some a/\d (.v (.int a.sum))
 | _=>False
theorem Iz:qZ K (λj H Q=>∃ (p:Ad) (g:Aa Int),j=[.ref p]/\mK K H p (g.map V.int)/\Q (.int g.sum) H) Jv:=by
 intro B L H c j n Q hd f b k;cases c with
 | nil=>exact False.elim b
 | cons d c =>
 cases d<;>first | exact False.elim b | skip
 cases c with
 | cons _ _=>exact False.elim b
 | nil =>
 obtain⟨x,rfl,i⟩:=rE f;obtain⟨g,e,b⟩:=b;obtain⟨a,m,rfl,h,r⟩:=i.lst_inv;rw[N8 e r] at h;exact⟨a,g,rfl,mK.of h,k _ _ H b (hd.pushF (.int _))⟩
def N5:OC:=λd c=>match d with
 | [.l e]=>∃ b,A3 e=some b/\b≠[]/\∀ m:Int,m∈b->(∀ a∈b,m<=a)->c (.v (.int m))
 | [.int i,.int j]=>∀ m:Int,(m=i\/m=j)->m<=i->m<=j->c (.v (.int m))
 | _=>False
def Y4:OC:=λd c=>match d with
 | [.l e]=>∃ b,A3 e=some b/\b≠[]/\∀ m:Int,m∈b->(∀ a∈b,a<=m)->c (.v (.int m))
 | [.int i,.int j]=>∀ m:Int,(m=i\/m=j)->i<=m->j<=m->c (.v (.int m))
 | _=>False
def L6 (K:mH):Aa V->Hp->VK->Prop:=λc H Q=>(∃ (p:Ad) (b:Aa Int),c=[.ref p]/\mK K H p (b.map V.int)/\b≠[]/\∀ m:Int,m∈b->(∀ a∈b,m<=a)->Q (.int m) H)\/∃ i j,c=[.int i,.int j]/\Q (.int (if j<i then j else i)) H
def Sv (K:mH):Aa V->Hp->VK->Prop:=λc H Q=>(∃ (p:Ad) (b:Aa Int),c=[.ref p]/\mK K H p (b.map V.int)/\b≠[]/\∀ m:Int,m∈b->(∀ a∈b,a<=m)->Q (.int m) H)\/∃ i j,c=[.int i,.int j]/\Q (.int (if j>i then j else i)) H
theorem LU (g:X.calm=true):nW X (.builtin "min") (L6 X.K):=(JF g).or (KZ g)
theorem WF (g:X.calm=true):nW X (.builtin "max") (Sv X.K):=(MR g).or (GD g)
theorem FV:qZ K (L6 K) N5:=by
 intro B L H c A D Q hd n b k;cases c with
 | nil=>exact False.elim b
 | cons d c =>
 cases d<;>first | exact False.elim b | skip
 .cases c with
  | nil=>exact False.elim b
  | cons e c =>
  cases e<;>first | exact False.elim b | skip
  cases c with
  | cons _ _=>exact False.elim b
  | nil =>
  obtain⟨x,y,rfl,f,py⟩:=Ez n;have:=f.int_inv;have:=py.int_inv;subst_vars
  rename_i i j
  refine .inr ⟨_,_,rfl,?_⟩;by_cases z:j<i
  .rw[aR z];exact k _ _ H (b _ (.inr rfl) (by omega) (by omega)) (hd.pushF (.int _))
  .rw[aM z];exact k _ _ H (b _ (.inl rfl) (by omega) (by omega)) (hd.pushF (.int _))
 .cases c with
  | cons _ _=>exact False.elim b
  | nil =>
  obtain⟨x,rfl,f⟩:=rE n;obtain⟨v,u,q,b⟩:=b;obtain⟨a,w,rfl,h,r⟩:=f.lst_inv;rw[N8 u r] at h;exact .inl ⟨a,v,rfl,mK.of h,q,λm s t=>k _ _ H (b m s t) (hd.pushF (.int _))⟩
theorem QZ:qZ K (Sv K) Y4:=by
 intro B L H c A D Q hd n b k;cases c with
 | nil=>exact False.elim b
 | cons d c =>
 cases d<;>first | exact False.elim b | skip
 .cases c with
  | nil=>exact False.elim b
  | cons e c =>
  cases e<;>first | exact False.elim b | skip
  cases c with
  | cons _ _=>exact False.elim b
  | nil =>
  obtain⟨x,y,rfl,f,py⟩:=Ez n;have:=f.int_inv;have:=py.int_inv;subst_vars
  rename_i i j
  refine .inr ⟨_,_,rfl,?_⟩;by_cases z:j>i
  .rw[aR z];exact k _ _ H (b _ (.inr rfl) (by omega) (by omega)) (hd.pushF (.int _))
  .rw[aM z];exact k _ _ H (b _ (.inl rfl) (by omega) (by omega)) (hd.pushF (.int _))
 .cases c with
  | cons _ _=>exact False.elim b
  | nil =>
  obtain⟨x,rfl,f⟩:=rE n;obtain⟨v,u,q,b⟩:=b;obtain⟨a,w,rfl,h,r⟩:=f.lst_inv;rw[N8 u r] at h;exact .inl ⟨a,v,rfl,mK.of h,q,λm s t=>k _ _ H (b m s t) (hd.pushF (.int _))⟩
def Tr:D->Ab (Aa D)
 | .l a=>some a
 | .t a=>some a
 | .con a=>some a
 | .c a=>some a
 | _=>none
theorem Z0 (h:Tr d=some j) (p:nJ K A H d x):∃ a g,x = .ref a/\(mK K H a g\/nG K H a g)/\Reps K A H j g:=by
 cases d<;>cases h
 .obtain⟨a,g,rfl,h,r⟩:=p.tup_inv;exact⟨a,g,rfl,.inr (nG.of h),r⟩
 .obtain⟨a,g,rfl,h,r⟩:=p.lst_inv;exact⟨a,g,rfl,.inl (mK.of h),r⟩
 .obtain⟨a,g,rfl,h,r⟩:=p.scr_inv;exact⟨a,g,rfl,.inl h.sqL,r⟩
 .obtain⟨a,g,rfl,h,r⟩:=p.con_inv;exact⟨a,g,rfl,.inr h.sqT,r⟩
def VM:OC:=λb c=>match b with
 | [d]=>∃ a,Tr d=some a/\c (.o (.l a))
 | _=>False
theorem Vb:qZ K (λg H Q=>∃ p j,g=[.ref p]/\(mK K H p j\/nG K H p j)/\∀ l,H l=none->Q (.ref l) (upd H l (.l j))) VM:=by
 intro B L H c g q Q hd f b k;cases c with
 | nil=>exact False.elim b
 | cons d c =>
 cases c with
 | cons _ _=>exact False.elim b
 | nil =>
 obtain⟨x,rfl,m⟩:=rE f;obtain⟨g,i,b⟩:=b;obtain⟨a,n,rfl,h,r⟩:=Z0 i m;exact⟨a,n,rfl,h,λl e=>k _ _ _ b (hd.lstF e r)⟩
def Zv:OC:=λc b=>match c with
 | [.l a]=>b (.v (.t a))
 | [.t a]=>b (.v (.t a))
 | _=>False
theorem yG:qZ K (λj H Q=>∃ p g,j=[.ref p]/\((mK K H p g/\∀ l,H l=none->Q (.ref l) (upd H l (.t g)))\/(nG K H p g/\Q (.ref p) H))) Zv:=by
 intro B L H e j q Q hd m b k;cases e with
 | nil=>exact False.elim b
 | cons d e =>
 cases d<;>first | exact False.elim b | skip<;>cases e<;>first | exact False.elim b | skip
 .obtain⟨x,rfl,c⟩:=rE m;have f:=c;obtain⟨a,i,rfl,h,r⟩:=c.tup_inv;exact⟨a,i,rfl,.inr ⟨nG.of h,k _ _ _ b (hd.pushF f)⟩⟩
 .obtain⟨x,rfl,c⟩:=rE m;obtain⟨a,i,rfl,h,r⟩:=c.lst_inv;exact⟨a,i,rfl,.inl ⟨mK.of h,λl n=>k _ _ _ b (hd.tupF n r)⟩⟩
def sY:Aa D->Ab (Aa (dT×D))
 | []=>some []
 | .t [k,d]::a=>match tW k,sY a with
  | some k,some r=>some ((k,d)::r)
  | _,_=>none
 | _=>none
theorem yD {l:Type}{f:l->D}{g:l->dT×D}(h:∀ x,∃ k,f x = .t [k,(g x).2]/\tW k=some (g x).1):∀ j:Aa l,sY (j.map f)=some (j.map g)
 | []=>rfl
 | x::j=>by
  obtain⟨k,a,b⟩:=h x;rw[aK,a];show (match tW k,sY (j.map f) with | some k,some r=>some ((k,(g x).2)::r) | _,_=>none)=_;rw[b,yD h j];rfl
def pW (g more:Aa (dT×D)):Aa (dT×D):=more.foldl (λa b=>nD a b.1 b.2) g
theorem JL (h:sY l=some j) (o:Reps K A H l C):∃ (p:Aa Ad) (g:Aa (dT×V)),C=p.map V.ref/\Dj H p g/\j.map (·.1)=g.map (·.1)/\Reps K A H (j.map (·.2)) (g.map (·.2)):=by
 induction l generalizing j C with
 | nil=>cases o;cases h;exact⟨[],[],rfl,.nil,rfl,.nil⟩
 | cons d l t =>
  cases o with
  | cons r o =>
  cases d<;>first | (cases h;done) | skip
  rename_i x
  rcases x with _ | ⟨k,_ | ⟨e,_ | ⟨_,_⟩⟩⟩<;>first | (cases h;done) | skip
  .have h:=(show (match tW k,sY l with | some k,some r=>some ((k,e)::r) | _,_=>none)=some j from h);cases c:tW k with
   | none=>rw[c] at h;cases h
   | some u =>
    cases f:sY l with
    | none=>rw[c,f] at h;cases h
    | some y =>
     rw[c,f] at h;cases h;obtain⟨a,z,rfl,s,b⟩:=r.tup_inv;obtain⟨p,g,i,m,n,q⟩:=t f o;cases b with
     | cons v b =>
      cases b with
      | cons w b =>
       cases b;have:=Db c v.peek;subst this;exact⟨a::p,(u,_)::g,by rw[i];rfl,.cons s m,by rw[aK,aK,n],.cons w q⟩
theorem He:∀ {more:Aa (dT×D)}{mv:Aa (dT×V)}{kvs:Aa (dT×D)}{vs:Aa (dT×V)},more.map (·.1)=mv.map (·.1)->Reps K A H (more.map (·.2)) (mv.map (·.2))->kvs.map (·.1)=vs.map (·.1)->Reps K A H (kvs.map (·.2)) (vs.map (·.2)) ->
  (pW kvs more).map (·.1)=(rY vs mv).map (·.1)/\Reps K A H ((pW kvs more).map (·.2)) ((rY vs mv).map (·.2))
 | [],[],_,_,_,_,e,r=>⟨e,r⟩
 | [],_::_,_,_,e,_,_,_=>by simp at e
 | _::_,[],_,_,e,_,_,_=>by simp at e
 | (k,d)::more,(j,v)::mv,kvs,vs,a,b,e,r=>by
  simp only[aK,fW] at a;obtain⟨rfl,a⟩:=a;cases b with
  | cons h b =>
   obtain⟨c,f⟩:=C1 e r (k:=k) h;exact He (more:=more) (mv:=mv) a b c f
def FC:OC:=λc b=>match c with
 | [.k a]=>b (.o (.k a))
 | [.l d]=>∃ a,sY d=some a/\a.length<=1000/\b (.o (.k (pW [] a)))
 | _=>False
def Xq (K:mH):Aa V->Hp->VK->Prop:=λe H Q=>(∃ (a:Ad) (b:Aa (dT×V)),e=[.ref a]/\H a=some (.k b)/\∀ p,H p=none->Q (.ref p) (upd H p (.k b))) \/
 ∃ (p:Ad) (c:Aa Ad) (b:Aa (dT×V)),e=[.ref p]/\mK K H p (c.map V.ref)/\Dj H c b/\b.length<=1000/\∀ d,H d=none->Q (.ref d) (upd H d (.k (rY [] b)))
theorem wF (g:X.calm=true):nW X (.type "dict") (Xq X.K):=BR.or (Z3 g)
theorem wP:qZ K (Xq K) FC:=by
 intro B L H i E F Q hd c b k;cases i with
 | nil=>exact False.elim b
 | cons d i =>
 cases d<;>first | exact False.elim b | skip<;>cases i<;>first | exact False.elim b | skip
 .obtain⟨x,rfl,n⟩:=rE c;obtain⟨w,v,D,b⟩:=b;obtain⟨a,s,rfl,h,r⟩:=n.lst_inv;obtain⟨A,f,rfl,t,q,u⟩:=JL v r;obtain⟨y,z⟩:=He (kvs:=[]) (vs:=[]) q u rfl .nil;have m:f.length<=1000:=by
   have:=cC List.length q;simp only[aA] at this;omega
  exact .inr ⟨a,A,f,rfl,mK.of h,t,m,λp c=>k _ _ _ b (hd.dKF c y z)⟩
 .obtain⟨x,rfl,n⟩:=rE c;obtain⟨a,s,rfl,h,e,r⟩:=n.dK_inv;exact .inl ⟨a,s,rfl,h,λp c=>k _ _ _ b (hd.dKF c e r)⟩
def Ke:OC:=λc a=>match c with
 | [.int i]=>a (.v (.int i))
 | [.b b]=>a (.v (.int (if b then 1 else 0)))
 | _=>False
theorem RW:qZ K (λg H Q=>(∃ i,g=[.int i]/\Q (.int i) H)\/∃ k,g=[.b k]/\Q (.int (if k then 1 else 0)) H) Ke:=by
 intro B L H c g h Q hd f a k;cases c with
 | nil=>exact False.elim a
 | cons d c =>
 cases d<;>first | exact False.elim a | skip<;>cases c<;>first | exact False.elim a | skip
 .obtain⟨x,rfl,e⟩:=rE f;have:=e.bl_inv;subst this;exact .inr ⟨_,rfl,k _ _ H a (hd.pushF (.int _))⟩
 .obtain⟨x,rfl,e⟩:=rE f;have:=e.int_inv;subst this;exact .inl ⟨_,rfl,k _ _ H a (hd.pushF (.int _))⟩
def UR:OC:=λa b=>match a with
 | [.int i]=>i.natAbs.log2<1920/\b (.v (.str (toString i)))
 | _=>False
theorem IY:qZ K (λg H Q=>∃ i,g=[.int i]/\i.natAbs.log2<1920/\Q (.str (toString i)) H) UR:=by
 intro B L H b g f Q hd c a k;cases b with
 | nil=>exact False.elim a
 | cons d b =>
 cases d<;>first | exact False.elim a | skip<;>cases b<;>first | exact False.elim a | skip
 obtain⟨x,rfl,e⟩:=rE c;have:=e.int_inv;subst this;exact⟨_,rfl,a.1,k _ _ H a.2 (hd.pushF (.str _))⟩
noncomputable def yQ:Aa D->Ab (Aa Bool)
 | []=>some []
 | .b b::a=>(yQ a).map (b::·)
 | _=>none
theorem zN:∀ (g:Aa Bool),yQ (g.map D.b)=some g
 | []=>rfl
 | n::g=>by rw[aK,yQ,zN g];rfl
theorem Va (h:yQ g=some j) (r:Reps K A H g l):l=j.map V.b:=by
 induction g generalizing j l with
 | nil=>cases r;simp only[yQ,lS] at h;subst h;rfl
 | cons d g c =>
  cases r with
  | cons r e =>
  cases d with
  | b i =>
   simp only[yQ,cK] at h;obtain⟨f,a,rfl⟩:=h;rw[r.bl_inv,c a e];rfl
  | _=>simp[yQ] at h
def OQ:OC:=λa d=>match a with
 | [.l c]=>∃ bs,yQ c=some bs/\d (.v (.b (bs.all id)))
 | _=>False
theorem Cw:qZ K (Rv K) OQ:=by
 intro B L H e s t Q hd i c k;cases e with
 | nil=>exact False.elim c
 | cons d e =>
  cases e with
  | cons _ _=>cases d<;>exact False.elim c
  | nil =>
   cases d<;>first | exact False.elim c | skip
   obtain⟨x,rfl,n⟩:=rE i;obtain⟨m,f,c⟩:=c;obtain⟨a,q,rfl,h,r⟩:=n.lst_inv;rw[Va f r] at h;exact⟨a,m,rfl,mK.of h,k _ _ H c (hd.pushF (.b _))⟩
end
def Of (T:String):D->Bool
 | .str _=>T == "str"
 | .l _=>T == "list"
 | .c _=>T == "list"
 | .k _=>T == "dict"
 | _=>false
section
variable {X:Cx}{K:mH}
theorem Wu (h:Of T d=true) (p:nJ K A H d x):Ed K T x H:=by
 cases d<;>first | (cases h;done) | skip
 all_goals (have h:=eq_of_beq h;subst h)
 .have:=p.str_inv;subst this;rfl
 .obtain⟨a,b,rfl,h,r⟩:=p.lst_inv;exact .inl ⟨rfl,b,mK.of h⟩
 .obtain⟨a,b,rfl,h,e,r⟩:=p.dK_inv;exact .inr (.inr (.inl ⟨rfl,.inl ⟨b,h⟩⟩))
 .obtain⟨a,b,rfl,h,r⟩:=p.scr_inv;exact .inl ⟨rfl,b,h.sqL⟩
abbrev OM:=D->Aa D->(Sl->Prop)->Prop
abbrev RM:=V->Aa V->Hp->VK->Prop
def S7 (K:mH) (r:RM) (f:OM):Prop:=∀ (B:Bs) (L:oF) (H:Hp) (d:D) (b:Aa D) (x:V) (c:Aa V) (e:Sl->Prop) (Q:VK),DS K B L H->nJ K (Al B (hI L)) H d x->Peeks K (Al B (hI L)) H b c->f d b e ->
 (∀ s v a,e s->DS K B ((s,some v)::L) a->Q v a)->r x c H Q
def FW (T:String) (f:OM) (i:Nat) (g:tY):nF:=λc b h=>(match at? b i with | some d=>Of T d=true | none=>False)/\g c b λas a=>match at? a i,wI a as with
 | some d,some e=>f d e λs=>h s a
 | _,_=>False
variable {id:String}
theorem OO (pa:PlainAttrs T) (slot:Slot T name id) (j:typeOf (.builtin id)=pure (.type "method_descriptor")) (J:xN X id r) (I:S7 X.K r f) (U:PE X o (pT i)) (p:tG X (e::l) ta)
  (C:MtB X o name apos e l g:=by exact {}) :
  PD X (.Call (.Attribute o name apos) (e::l) [] g) (FW T f i ta) :=
 (Bx pa slot j J U p C).mono λW H Q u=>u.elim λB F Tm V D hd ⟨m,N⟩ k=>by
  cases n:at? F i with
  | none=>rw[n] at m;exact m.elim
  | some R =>
   rw[n] at m;obtain⟨x,E,O⟩:=hd.peek D n;refine⟨x,E,Wu m O,B,F,Tm,_,D,hd,N,λas a P L w ok d2 b=>?_⟩;cases h:at? a i with
   | none=>rw[h] at b;exact b.elim
   | some d =>
    cases q:wI a as with
    | none=>rw[h,q] at b;exact b.elim
    | some A =>
     rw[h,q] at b;have z:=d2.rmArgs;obtain⟨S,c,y⟩:=z.peek w h;rw[E] at c;cases c;exact I B _ L d A x P _ Q z y (d2.argsP w ok A q).1 b λs v G M t=>k s a v G w t.mid M
abbrev OW:=D->Aa D->(D->D->Prop)->Prop
def zM (K:mH) (r:RM) (f:OW):Prop:=∀ (A:Ad->Prop) (H:Hp) (a:Ad) (c:D) (h:Aa D) (i:Aa V) (k:D->D->Prop) (Q:VK),¬ A a->pM K A H a c->Reps K A H h i->f c h k ->
 (∀ d v o e,k d e->Rep K A H d v->(∀ b,Kp A b H (upd H a o)->pM K b (upd H a o) a e)->Q v (upd H a o))->r (.ref a) i H Q
def dW (T:String) (f:OW) (i:Nat) (g:tY):nF:=λh b m=>(match at? b i with | some d=>Of T d=true | none=>False)/\g h b λas a=>match a[i]?,wW as with
 | some (.o c),some k=>f c k λd e=>m (.v d) (a.set i (.o e))
 | _,_=>False
theorem UK {f:OW}(C:zM X.K r f){g:St}{H:Hp}{Q:VK}(h:dE X.K (dW T f i ta) g H Q):pT i g H λx l=>Ed X.K T x l/\dA X.K ta g l λxs j=>r x xs j Q:=by
 obtain⟨B,Y,Tm,Φ,S,hd,⟨A,J⟩,k⟩:=h;cases F:at? Y i with
 | none=>rw[F] at A;exact A.elim
 | some d0 =>
  rw[F] at A;obtain⟨x,t,px⟩:=hd.peek S F;refine⟨x,t,Wu A px,B,Y,Tm,_,S,hd,J,λas e vs j D ok d2 b=>?_⟩;cases m:e[i]? with
  | none=>rw[m] at b;exact b.elim
  | some s =>
   cases s with
   | n=>rw[m] at b;exact b.elim
   | v c=>rw[m] at b;exact b.elim
   | o c =>
    cases G:wW as with
    | none=>rw[m,G] at b;exact b.elim
    | some P =>
     rw[m,G] at b;have O:=d2.temps ok P G;have Z:=d2.rmArgs;obtain⟨a,R,W,wr⟩:=Z.slotW D m;rw[t] at R;cases R;obtain⟨u,U,tu⟩:=W.some;have V:¬ Al B (hI (e.zip g++Tm)) a:=λz=>z.2.1 (by
      obtain⟨l1,y,N,w,_,L,_⟩:=vJ D m;rw[t] at w;cases w;rw[L,bJ,cQ,rK];exact aN _ aF)
     refine C _ j a c P vs _ Q V W O b λd v o E M rd I=>k _ _ v _ (by rw[bO];exact D) ?_ M
     refine (wr o E I).push ?_;have p:hI ((e.set i (.o E)).zip g++Tm)=hI (e.zip g++Tm):=by
      obtain⟨l1,y,N,w,_,L,q⟩:=vJ D m;rw[t] at w;cases w;have:=q (.o E) (some (.ref a));rw[A4 t] at this;rw[this,L,bJ,bJ,cQ,cQ,rK,rK];rfl
     rw[p];exact rd.mono (.write U tu V)
theorem sZ {f:OW}(pa:PlainAttrs T) (slot:Slot T name id) (j:typeOf (.builtin id)=pure (.type "method_descriptor")) (J:xN X id r) (I:zM X.K r f) (U:PE X o (pT i)) (p:tG X (e::l) ta)
  (C:MtB X o name apos e l g:=by exact {}) :
  PD X (.Call (.Attribute o name apos) (e::l) [] g) (dW T f i ta):=(Bx pa slot j J U p C).mono λ_ _ _ h=>UK I h
noncomputable def GA:OW:=λc b f=>match c,b with
 | .l a,[d]=>a.length<100000/\f .e (.l (a++[d]))
 | _,_=>False
theorem uY:zM K Xk GA:=by
 intro A H a c q s t Q _ i rd b k;cases c<;>first | exact False.elim b | skip
 cases rd with
 | nil=>exact False.elim b
 | cons f rd =>
 cases rd with
 | cons _ _=>exact False.elim b
 | nil =>
 .obtain⟨m,h,r⟩:=i
  .refine⟨a,m,_,rfl,rfl,h,bI (by rw[<- r.length];exact b.1) (by decide),k _ _ _ _ b.2 .e λn d=>⟨_,mZ,(r.append (.cons f .nil)).mono d⟩⟩
def GY:OW:=λc b d=>match c,b with
 | .l a,[.int i]=>∃ k y,-(2 ^ 63)<=i/\i<2 ^ 63/\seqIndex? i a.length=some k/\a[k]?=some y/\d y (.l (a.eraseIdx k))
 | _,_=>False
theorem KN:zM K Wo GY:=by
 intro A H a c z B D Q _ t rd b k;cases c<;>first | exact False.elim b | skip
 cases rd with
 | nil=>exact False.elim b
 | cons s rd =>
 rename_i d _ _ _
 cases d<;>first | exact False.elim b | skip
 cases rd with
 | cons _ _=>exact False.elim b
 | nil =>
 .obtain⟨w,h,r⟩:=t
  .have:=s.int_inv;subst this;obtain⟨j,y,e,f,i,m,b⟩:=b;obtain⟨v,n,u⟩:=r.get m;exact⟨a,w,_,j,v,rfl,rfl,h,e,f,by rw[<- r.length];exact i,n,k _ _ _ _ b u λx q=>⟨_,mZ,(r.erase j).mono q⟩⟩
def DU:D->Bool
 | .k _=>true
 | .T _=>true
 | _=>false
def IJ (i:Nat) (ty g:nF):nF:=λc e m=>(match at? e i with | some d=>DU d=true | none=>False)/\ty c e λf b=>g c b λh a=>match at? a i,sd f,sd h with
 | some d,some k,some x=>∃ o,yE d k=some o/\m (.v (o.getD x)) a
 | _,_,_=>False
theorem B6 (U:X.A.units+1<cLine) (l:PE X o (pT i)) (I:PD X k ty) (J:PD X x tx) (m:M2 X o "get" apos k x j:=by exact⟨rfl,rfl,rfl,rfl⟩):PD X (.Call (.Attribute o "get" apos) [k,x] [] j) (IJ i ty tx) :=
 (Qe U l I J m).mono λσ H Q E=>E.elim λB W Tm Φ N hd ⟨t,T⟩ k=>by
  cases u:at? W i with
  | none=>rw[u] at t;exact t.elim
  | some Z =>
   rw[u] at t;obtain⟨x,O,R⟩:=hd.peek N u;obtain⟨a,rfl,F⟩:∃ a,x = .ref a/\Jz H a:=by
    cases Z<;>first | (cases t;done) | skip
    .obtain⟨a,L,rfl,h,e,r⟩:=R.dK_inv;exact⟨a,rfl,.inl ⟨L,.inl h⟩⟩
    .obtain⟨a,L,rfl,h,e,r⟩:=R.dT_inv;exact⟨a,rfl,.inr ⟨L,h⟩⟩
   refine⟨.ref a,O,a,rfl,F,B,W,Tm,_,N,hd,T,λV M y H1 l1 d1 C=>⟨B,M,(V,some y)::Tm,_,l1,d1,C,λrx q z Y P d2 b=>?_⟩⟩;cases f:at? q i with
   | none=>rw[f] at b;exact b.elim
   | some d =>
    cases s:sd V with
    | none=>rw[f,s] at b;exact b.elim
    | some kk =>
     cases D:sd rx with
     | none=>rw[f,s,D] at b;exact b.elim
     | some xx =>
      rw[f,s,D] at b;obtain⟨oo,l,b⟩:=b;obtain⟨S,q2,q3⟩:=d2.two s D;obtain⟨x',n,G⟩:=S.peek P f;rw[O] at n;cases n;obtain⟨a',w,p,g,g1,g2⟩:=Lh l G q2.peek;cases p;refine⟨w,g,k _ q _ Y P (S.push ?_) b⟩;cases oo with
      | none=>rw[g2 rfl];exact q3
      | some c=>obtain⟨v,rfl,rv⟩:=g1 c rfl;exact rv
def Ja:Aa D->Ab (Aa Af)
 | []=>some []
 | .str b::a=>(Ja a).map (b::·)
 | _=>none
theorem N2:∀ (g:Aa Af),Ja (g.map D.str)=some g
 | []=>rfl
 | n::g=>by
  show (Ja (g.map D.str)).map (n::·)=_;rw[N2 g];rfl
theorem Qb (h:Ja j=some l) (g:Reps K A H j o):o=l.map V.str:=by
 induction j generalizing l o with
 | nil=>cases g;cases h;rfl
 | cons d j b =>
  cases g with
  | cons r g =>
  cases d with
  | str i =>
   obtain⟨c,a,rfl⟩:=cK.mp h;rw[r.str_inv,b a g];rfl
  | _=>cases h
noncomputable def IT:OM:=λd a b=>match d,a with
 | .str z,[.str y]=>y.length≠0/\z.length<=1000000/\b (.o (.l ((Txt.split z y).map D.str)))
 | _,_=>False
theorem M8:∀ (g:Aa Af),Reps K A H (g.map D.str) (g.map V.str)
 | []=>.nil
 | y::g=>.cons (.str y) (M8 g)
theorem WV:S7 K Tp IT:=by
 intro B L H d b x i m Q hd h f a k;cases d<;>first | exact False.elim a | skip
 cases b with
 | nil=>exact False.elim a
 | cons e b =>
  cases b with
  | cons _ _=>cases e<;>exact False.elim a
  | nil =>
   cases e<;>first | exact False.elim a | skip
   obtain⟨y,rfl,py⟩:=rE f;have:=h.str_inv;have:=py.str_inv;subst_vars;exact⟨_,_,rfl,rfl,a.1,a.2.1,λp c=>k _ _ _ a.2.2 (hd.lstF c (M8 _))⟩
end
section
variable {X:Cx}
theorem mP (o:X.A.units+1<cLine) (i:Nat) (j:PD X b p) (g:PE X a (pT i):=by exact pv _) (l:K0 b:=by exact λ_ _=>rfl):PD X (.Subscript a b pos) (uZ Cq i p) :=
 (tD (Uk o) g j l).mono λ_ _ _ h=>Gw U5 h
end
section
variable {X:Cx}{K:mH}
theorem IC (l:X.calm=true):nW X (.builtin "min") (λg H Q=>∃ i j k,g=[.int i,.int j,.int k]/\∀ m:Int,(m=i\/m=j\/m=k)->m<=i->m<=j->m<=k->Q (.int m) H):=by
 intro f s A H g F Q I r h;obtain⟨i,j,k,rfl,q⟩:=h;cases r with
 | cons y r =>
  obtain⟨v,u,rfl,⟨D,rfl⟩,⟨E,rfl⟩⟩:=Fj r;obtain⟨B,rfl⟩:=y;refine min_three_ints (I.ok.hd l) λw z x=>?_
  have fin:∀ (m:Int) (t:Tok),(m=i\/m=j\/m=k)->m<=i->m<=j->m<=k->EP X f A Q (.int m t) { s with heap:=w,toks:=z }:=λm t a b c d=>⟨.int m,H,I.kept x,⟨t,rfl⟩,q m a b c d⟩
  by_cases n:j<i
  .rw[aR n];by_cases e:k<j
   .rw[aR e];exact fin _ _ (.inr (.inr rfl)) (by omega) (by omega) (by omega)
   .rw[aM e];exact fin _ _ (.inr (.inl rfl)) (by omega) (by omega) (by omega)
  .rw[aM n];by_cases e:k<i
   .rw[aR e];exact fin _ _ (.inr (.inr rfl)) (by omega) (by omega) (by omega)
   .rw[aM e];exact fin _ _ (.inl rfl) (by omega) (by omega) (by omega)
def M3 (K:mH):Aa V->Hp->VK->Prop:=λa H Q=>L6 K a H Q\/∃ i j k,a=[.int i,.int j,.int k]/\∀ m:Int,(m=i\/m=j\/m=k)->m<=i->m<=j->m<=k->Q (.int m) H
theorem KR (g:X.calm=true):nW X (.builtin "min") (M3 X.K):=(LU g).or (IC g)
def AN:OC:=λa b=>match a with
 | [.int i,.int j,.int k]=>∀ m:Int,(m=i\/m=j\/m=k)->m<=i->m<=j->m<=k->b (.v (.int m))
 | a=>N5 a b
theorem CP:qZ K (M3 K) AN:=by
 intro B L H i n q Q hd h f k;have two:N5 i q->M3 K n H Q:=λf=>.inl (FV B L H _ n q Q hd h f k)
 rcases i with _ | ⟨d,_ | ⟨e,_ | ⟨g,_ | ⟨_,_⟩⟩⟩⟩
 .exact two f
 .cases d<;>exact two f
 .cases d<;>first | exact two f | (cases e<;>exact two f)
 .cases d<;>first | exact two f | skip
  cases e<;>first | exact two f | skip
  cases g<;>first | exact two f | skip
  cases h with
  | cons s h =>
   obtain⟨x,y,rfl,t,py⟩:=Ez h;have:=s.int_inv;have:=t.int_inv;have:=py.int_inv;subst_vars;exact .inr ⟨_,_,_,rfl,λm a b c d=>k _ _ H (f m a b c d) (hd.pushF (.int _))⟩
 .cases d<;>first | exact two f | (cases e<;>first | exact two f | (cases g<;>exact two f))
noncomputable def L4:D->Ab String
 | .e=>some "NoneType"
 | .b _=>some "bool"
 | .int _=>some "int"
 | .str _=>some "str"
 | .l _=>some "list"
 | .t _=>some "tuple"
 | .k _=>some "dict"
 | _=>none
theorem GH (h:L4 d=some n) (p:nJ K A H d x):TyOf K H x (.type n):=by
 cases d<;>simp only[L4,reduceCtorEq,lS] at h<;>subst h
 .have:=p.non_inv;subst this;exact .e
 .have:=p.bl_inv;subst this;exact .b _
 .have:=p.int_inv;subst this;exact .int _
 .have:=p.str_inv;subst this;exact .str _
 .obtain⟨a,c,rfl,h,r⟩:=p.tup_inv;exact .t h
 .obtain⟨a,c,rfl,h,r⟩:=p.lst_inv;exact .l h
 .obtain⟨a,c,rfl,h,e,r⟩:=p.dK_inv;exact .k h
def TJ (K:mH):OC:=λa e=>match a with
 | [d,.r (.ty c)]=>∃ n b,L4 d=some n/\PySem.W.kitOne K (.type n) (.type c)=some b/\e (.v (.b b))
 | _=>False
theorem Dq:qZ K (P0 K) (TJ K):=by
 intro B L H c q s Q hd i a k;cases c with
 | nil=>exact False.elim a
 | cons d c =>
  cases c with
  | nil=>exact False.elim a
  | cons e c =>
   cases e<;>first | exact False.elim a | skip
   rename_i v
   cases v<;>first | exact False.elim a | skip
   cases c with
   | cons _ _=>exact False.elim a
   | nil =>
    obtain⟨x,y,rfl,m,py⟩:=Ez i;obtain⟨n,b,f,h,a⟩:=a;have:=py.raw_inv;subst this;exact⟨x,_,_,_,b,rfl,rfl,GH f m,h,k _ _ H a (hd.pushF (.b _))⟩
theorem Ef (g:Gl X x) (j:X.mg x=none) (o:bootBuiltins x=some (.type n)) (l:x ≠ "__name__" := by decide) (hd:(x == ("__debug__" : Af))=false:=by decide):PD X (.Name x pos) (cd (.r (.ty n))) :=
 E7 (IA (v:=.ty n) g j o rfl l hd) λ_ _ _=>.r _
end
end L2
namespace PySem
open PyProof.Rows L2
abbrev yS (h:Ag) (z TI TO T:Ad) (f:Bool):Prop:=h.get? z=some { cls:=.type "zip",dict:=none,data:=.fields #[rawInt T,.bool f,.bool false,.ref TI,.ref TO],slots:=#[] }
section
theorem TV (j:s.heap.get? a=some o) (h:Q (some o) s):wpAny (model g w) A (loadIfAlive a) Q E s:=λ_ _ _=>by
 show Q (s.heap.get? a) s;rw[j];exact h
theorem MN {TI TO:Ad}(g:yS s.heap z TI TO T f) (p:s.heap.get? T=some r) (l:∀ j,yS j z TI TO T true->Heap.SameBut z s.heap j->Q false { s with heap:=j }) :
  wpAny (model o w) A (Builtin.SmallTypes.ownedTupleIsFree (.ref z)) Q E s:=by
 unfold Builtin.SmallTypes.ownedTupleIsFree;refine aB (dX g rfl (x:=rawInt T) rfl ?_);show wpAny _ _ (loadIfAlive ((T:Int).toNat) >>= _) _ _ _;rw[cH];refine aB (TV p ?_);simp only[Option.isNone_some,dZ,fY];refine aB (dX g rfl (x:=.bool f) rfl ?_);cases f with
 | true =>
  rw[aM (show ¬ ((Value.bool true != Value.bool true)=true) from aY)];exact aE (l _ g (Heap.SameBut.refl _ _))
 | false =>
  rw[aR (show (Value.bool false != Value.bool true)=true from rfl)];exact aB (iG g (by simp) λc b a=>aE (l _ b a))
def Xp (g:Ah) (w:World) (A:Around) (a b:Ac) (Q:Fin->Ae->Prop) (E:Ac->Ae->Prop) (s:Ae):Prop :=
 wpAny (model g w) A (Builtin.SmallTypes.nextOf a) (λx c=>wpAny (model g w) A (Builtin.SmallTypes.nextOf b) (λy d=>wpAny (model g w) A (newTuple [x,y]) (λt e=>Q (.done (.ret t)) e) E d) E c) E s
theorem Qm {TI TO:Ad}(p:yS s.heap z TI TO T f) (r:s.heap.get? T=some C) (o:IsPair s.heap TI a b)
  (go:∀ l,yS l z TI TO T true->Heap.SameBut z s.heap l->Xp j w A a b Q E { s with heap:=l }) :
  wpAny (model j w) A (Builtin.«zip.__next__» ⟨[.ref z],[]⟩) Q E s:=by
 have c:wpAny (model j w) A (Builtin.SmallTypes.ownedTupleIsFree (.ref z)) (λx d=>x=false/\Xp j w A a b Q E d) E s :=
  MN p r λl e k=>⟨rfl,go l e k⟩
 unfold Builtin.«zip.__next__»;refine aB (aE (aB (dX p rfl (x:=.bool false) rfl (aB (dX p rfl (x:=.ref TI) rfl (aB (fQ o rfl ?_)))))));refine aB (mM c ?_);rintro _ d ⟨rfl,g⟩;simp only[aM aY,<- Array.forIn_toList,kU,List.forIn_nil,bind_assoc];refine aB (bY (aB (mM g λx h g1=>aE (aB (aE ?_)))));refine aB (aB (bY (aB (mM g1 λy i g2=>aE (aB (aE (aE ?_)))))));exact aB (mM g2 λt m g3=>aE g3)
def Em (h:Ag) (z TI TO g j:Ad):Prop:=IsPair h TI (.ref g) (.ref j)/\(∃ a b,IsPair h TO a b)/\(IsZip h z TI TO .none\/∃ T f o,yS h z TI TO T f/\h.get? T=some o/\T≠z/\T≠TO/\T≠g/\T≠j)
end
theorem UT:typeLookup (.type "zip") "keys" = pure none:=am_miss_of_fast (by decide +kernel)
theorem CG:entryFor table "zip.__getattribute__" = some Builtin.«object.__getattribute__»:=entryFor_alias (id' := "object.__getattribute__") (by kernel_rfl) (by decide +kernel) (by decide +kernel) (by kernel_rfl)
theorem RC:typeLookup (.type "zip") "__getattr__" = pure none:=am_miss_of_fast (by decide +kernel)
theorem RL {sl:Array (Ab Ac)}
  (l:s.heap.get? a=some { cls:=.type "zip",dict:=none,data:=.fields fs,slots:=sl }) (q:Q .missing s):wpAny (model g w) A (Builtin.ObjectAttr.find (.ref a) (.type "zip") "keys") Q E s:=by
 have own:wpAny (model g w) A (Builtin.ObjectAttr.inOwnDict "keys" (.ref a)) (λr b=>r=none/\b=s) E s :=
  aB (aB (wpAny_loadPart l (aB (wpAny_loadPart l (aE (aE ⟨rfl,rfl⟩))))))
 have guard:wpAny (model g w) A (Builtin.ObjectAttr.copiedAttributeGuard "keys" (.ref a)) (λ_ b=>b=s) E s:=by
  have no:¬ (([Str.ofString "__module__",Str.ofString "__name__",Str.ofString "__qualname__",Str.ofString "__doc__",Str.ofString "__annotations__"]:Aa Af).contains (Str.ofString "keys")=true):=by decide +kernel
  simp only[Builtin.ObjectAttr.copiedAttributeGuard,aM no];exact aE rfl
 unfold Builtin.ObjectAttr.find;rw[UT];refine aB (aE (aB (aE (aB (aE (aB (mM own ?_)))))));rintro _ _ ⟨rfl,rfl⟩;refine aB (mM guard ?_);rintro _ _ rfl;exact aB (jL (aE q))
theorem TF (a:Ad) (fs:Array Ac) (sl:Array (Ab Ac)) (u:Tok):Meets (Builtin.«object.__getattribute__» ⟨[.ref a,.str "keys" u],[]⟩) (λA R s=>s.heap.get? a=some { cls:=.type "zip",dict:=none,data:=.fields fs,slots:=sl }/\raisesAttr (.ref a) "keys" A R s) :=
 Meets.of_wp λb w A R s h=>by
  obtain⟨l,calm,c⟩:=h;have f:s.TypeIs (.ref a) "zip" := ⟨_,l,rfl⟩;unfold Builtin.«object.__getattribute__»;refine aB (aE (aB (aE (aB (fC f (aB (RL l ?_)))))));have named:wpAny (model b w) A.in1 (typeNameOfCut 100 (.ref a)) (λn d=>n = "zip" /\ d=s) (λe d=>R (.error e) d) s :=
   aB (aB (fC f (aE (aE ⟨by decide +kernel,rfl⟩))))
  show wpAny _ _ (Builtin.ObjectAttr.noSuchAttribute (.ref a) "keys") _ _ _;unfold Builtin.ObjectAttr.noSuchAttribute;refine aB (mM named ?_);rintro _ _ ⟨rfl,rfl⟩;exact wpAny_raiseAttrError calm c (by decide +kernel)
section
theorem JQ {sl:Array (Ab Ac)}
  (l:s.heap.get? a=some { cls:=.type "zip",dict:=none,data:=.fields fs,slots:=sl }) (calm:A.handled=none) (j:∀ o p e,Heap.NewAttrErr s.heap o e (.ref a) "keys" -> E (.ref e) { s with heap:=o,toks:=p }) :
  wpAny (model g w) A (boundAndCalled (.builtin "zip.__getattribute__") (.ref a) (.str "keys" u)) Q E s:=by
 have ask:wpAny (model g w) A (call (.builtin "zip.__getattribute__") [.ref a,.str "keys" u]) Q E s :=
  iQ jP ⟨_,l,rfl⟩ CG (F.args_zip_getattribute_2 _ _) (TF a fs sl u) ⟨l,calm,j⟩
 unfold boundAndCalled;rw[jP.bind (.ref a)];exact aB (aE ask)
theorem UD (t:s.TypeIs (.ref e) "AttributeError") (j:E (.ref e) s) :
  wpAny (model g w) A (getattributeRaised o name (.type "zip") (.ref e) none false false) Q E s:=by
 have last:wpAny (model g w) A (hookOrError o name (.ref e) false false none) Q E s:=aB (wpAny_throw j);have a:hookBehind (.type "zip") none=pure none:=RC;unfold getattributeRaised;refine aB (dO t jK ?_);rw[aR rfl,a];exact aB (aE last)
theorem RU {sl:Array (Ab Ac)}
  (l:s.heap.get? a=some { cls:=.type "zip",dict:=none,data:=.fields fs,slots:=sl }) (calm:A.handled=none) (C:∀ j p e,Heap.NewExcOf s.heap j e "AttributeError" -> Q none { s with heap:=j,toks:=p }) :
  wpAny (model g w) A (getAttr? (.ref a) "keys") Q E s:=by
 have c:∀ j p e,Heap.NewAttrErr s.heap j e (.ref a) "keys" -> (∃ o,j.get? e=some o/\o.cls = .type "AttributeError")/\Q none { s with heap:=j,toks:=p }:=λj p e x=>by
  obtain⟨_,_,y⟩:=x.there;exact⟨⟨_,y,rfl⟩,C j p e x.of⟩
 let d:Ae:={ s with toks:=s.toks+1 };let b:Except Ac Ac->Ae->Prop:=λr i=>wpAny (model g w) A (match r with | .ok v=>pure (some v) | .error e=>do if <- isInstance e (.type "AttributeError") then pure none else throw e) Q E i
 have look:wpAny (model g w) A (getAttrBy (.ref a) (.str "keys" s.toks) false) (λv=>b (.ok v)) (λe=>b (.error e)) d:=by
  refine bY (aB (fC (T := "zip") ⟨_,l,rfl⟩ (aB (dY jP.lookup ?_))));have own:wpAny (model g w) A (getAttrByItsOwn (.ref a) (.str "keys" s.toks) (.type "zip") (.builtin "zip.__getattribute__") false false) (λv=>b (.ok v)) (λe=>b (.error e)) d:=by
   refine aB (aE (aB (fP (bY (JQ (s:=d) l calm λj p e x=>?_)))));obtain⟨⟨o,f,h⟩,q⟩:=c j p e x;exact UD ⟨o,f,h⟩ (aB (dO (T := "AttributeError") ⟨o,f,h⟩ jK (aE q)))
  exact own
 exact aB (wpAny_mkText (aB (fP look)))
end
section
variable {K:Type} [DecidableEq K] {R:Result->Ae->Prop}
theorem HU {TI TO:Ad}(t:s.TypeIs (.ref d) "dict") (l:IsZip s.heap z TI TO .none) (calm:A.handled=none)
  (r:∀ j o e,Heap.NewExcOf s.heap j e "AttributeError" -> Q (.again (.builtin "dict.update.loop" ⟨[.ref d,.ref z,.int 0 0,.none],[]⟩)) { s with heap:=j,toks:=o }) :
  wpAny (model g w) A (Builtin.«dict.__init__» ⟨[.ref d,.ref z],[]⟩) Q E s:=by
 have first:wpAny (model g w) A (Builtin.Dict.selfAndRest "__init__" ⟨[.ref d,.ref z],[]⟩) (λp c=>p=(d,[Value.ref z])/\c=s) E s:=aB (iM t (aE ⟨rfl,rfl⟩))
 have a:wpAny (model g w) A (Builtin.Dict.updateFrom "dict.__init__" d (.ref z) [] .none) Q E s:=by
  refine aB (fC (T := "zip") ⟨_,l,rfl⟩ ?_);rw[aR (by decide)];refine aB (RU l calm λj o e x=>?_);have b:IsZip j z TI TO .none:=x.keeps _ _ l;exact aB (jL (aB (wpAny_pyIter_zip b (aE (r j o e x)))))
 exact aB (cV first (λp c q=>by obtain⟨rfl,rfl⟩:=q;exact a) λ_ _ q=>q)
end
end PySem
namespace L2
open PySem PySem.Spec PyProof.Rows Lw
section
variable {X:Cx}
theorem P4:∀ (g:Aa dT){j:Aa V}{l:Aa Ac},mV j l->KV (g.zip j) (g.zip l)
 | [],_,_,_=>.nil
 | k::g,_,_,.nil=>.nil
 | k::g,_,_,.cons h r=>.cons ⟨rfl,h⟩ (P4 g r)
end
def yF:Aa D->Ab (Aa dT)
 | []=>some []
 | d::a=>match tW d,yF a with
  | some k,some b=>some (k::b)
  | _,_=>none
section
variable {X:Cx}{K:mH}
theorem HB (h:yF g=some j) (l:Reps K A H g o):o=j.map kV:=by
 induction g generalizing j o with
 | nil=>cases l;cases h;rfl
 | cons d g c =>
  cases l with
  | cons r l =>
  have h:=(show (match tW d,yF g with | some k,some j=>some (k::j) | _,_=>none)=some j from h);cases a:tW d with
  | none=>rw[a] at h;cases h
  | some k =>
   cases b:yF g with
   | none=>rw[a,b] at h;cases h
   | some e =>
    rw[a,b] at h;cases h;rw[c b l,Db a r.peek];rfl
theorem keysL_strs:∀ (g:Aa Af),yF (g.map D.str)=some (g.map Sum.inr)
 | []=>rfl
 | x::g=>by
  show (match some (Sum.inr x:dT),yF (g.map D.str) with | some k,some a=>some (k::a) | _,_=>none)=_;rw[keysL_strs g];rfl
theorem R5:∀ (g:Aa dT){j:Aa D}{l:Aa V}{A:Ad->Prop}{H:Hp},Reps K A H j l->(g.zip j).map (·.1)=(g.zip l).map (·.1)/\Reps K A H ((g.zip j).map (·.2)) ((g.zip l).map (·.2))
 | [],_,_,_,_,_=>⟨rfl,.nil⟩
 | k::g,_,_,_,_,.nil=>⟨rfl,.nil⟩
 | k::g,_,_,_,_,.cons h r=>by
  obtain⟨a,b⟩:=R5 g r;exact⟨by simp[a],.cons h b⟩
end
def Bz (lo c:Int) (n:Nat):It:=⟨λi _=>i<n,λi H x a=>a=H/\x = .int (lo+i*c),λi _=>n<=i⟩
theorem Xz {P:Ah}{K:mH}(g:Ad) (lo c:Int) (n:Nat):Turn P w K j (Bz lo c n) [g] g (λi h=>IsRangeIter h g (lo+(i:Nat)*c) ((n:Int)-(i:Nat)) c) where
 mem:=by simp
 obj:=λi h st b d=>by
  have e:b=g:=by simpa using d
  subst e;exact⟨_,st,λv z=>by
   have R:Data.fields _=Data.cell v:=z;cases R⟩
 keep:=λi h m st k=>k g (by simp) _ st
 item:=by
  intro X B hw A D i a s L H E I q st F;subst B hw A;obtain⟨f0,f1,f2,u,x,y⟩:=q g (by simp);have W:=Walks.range (prog:=X.prog) (w:=X.w) (I.ok.hd D) g lo c n;refine W.item i s _ _ F st λv m G O f Q=>?_
  obtain⟨t,rfl⟩:=O;have M:Inv X a L H { s with heap:=m,toks:=G }:=I.turned (λb o d e=>Q b o (by simpa using d) e) f0 f1 u x y;exact⟨_,rfl,At (s:={ s with heap:=m,toks:=G }) (n := "range_iterator") f rfl rfl (by decide) ⟨.int (lo+i*c),H,M,⟨t,rfl⟩,⟨rfl,rfl⟩,f,λb d=>(q b d).1⟩⟩
 done:=by
  intro X B hw A D i a s L H E I q st F;subst B hw A;obtain⟨f0,f1,f2,u,x,y⟩:=q g (by simp);exact wpAny_pyNext_range_end (I.ok.hd D) st (by have:n<=i:=F;omega) λm N=>⟨rfl,I.turned (t':=s.toks) (λb o d e=>N b o d e) f0 f1 u x y⟩
 self:=λ_ _ _ _ _ st h=>jS st h
section
variable {X:Cx}
def xL (lo g c:Int):Nat:=if lo<g then ((g-lo-1)/c+1).toNat else 0
def Y0 (g:TA):TI:=λd H R=>g d H λb a=>∃ i j c:Int,b=[.int i,.int j,.int c]/\(0<=i/\i<=100000/\0<=j/\j<=100000/\0<c/\c<=100000)/\R (Bz i c (xL i j c)) a
theorem DO (l:Gl X "range") (r:X.mg "range" = none) (j:PA X [a,b,c] J) (C:starEach [a,b,c] X.env=(false,eval a X.env)::starEach [b,c] X.env:=by rfl) (g:(backTo pos (starEach [b,c] X.env)).any (·.1)=false:=by rfl) :
  PI X T (.Call (.Name "range" p) [a,b,c] [] pos) (Y0 J):=by
 intro f s y H R I h;refine Call_ (vZ I l r boot_range (cR (mM (j pos f s y H _ I h) λV i w=>?_) C g));obtain⟨W,x,z,F,E⟩:=w;obtain⟨lo,d,c,rfl,⟨M,N,O,P,n,Q⟩,q⟩:=E;cases F with
 | cons G k =>
  cases k with
  | cons K k =>
   cases k with
   | cons L k =>
    cases k;obtain⟨t,rfl⟩:=G;obtain⟨u,rfl⟩:=K;obtain⟨v,rfl⟩:=L;refine call_range_3 (by omega) ?_ (.inl (PyProof.noPylong_small (by omega)));refine wpAny_pyIter_range (IsRange.new ..) ?_ ?_
    .have S:0<=Builtin.Range.rangeSize lo d c/\Builtin.Range.rangeSize lo d c<=100001:=by
      unfold Builtin.Range.rangeSize;rw[aR (show c>0 from n)];split
      .have Y:=mC (show 0<=d-lo-1 by omega) (show 0<=c by omega);have Z:=Int.ediv_le_self c (show 0<=d-lo-1 by omega);omega
      .omega
     unfold Builtin.Range.small;simp only[Builtin.Range.rangeFitsLong,cE,mD,dQ,iR,aR (show c>0 from n)];omega
    .have m:Inv X f y x { i with heap:=i.heap.push { cls:=.type "range",data:=.fields #[.int lo t,.int d u,.int c v] },toks:=i.toks }:=z.kept λb o e=>aG _ e
     refine⟨(i.heap.push { cls:=.type "range",data:=.fields #[.int lo t,.int d u,.int c v] }).objs.size,[(i.heap.push { cls:=.type "range",data:=.fields #[.int lo t,.int d u,.int c v] }).objs.size],_,_,x,rfl,
      m.kept (t':=i.toks) λb o e=>aG _ e,Xz _ lo c (xL lo d c),?_,λb D=>?_,q⟩
     .have A:lo+((0:Nat):Int)*c=lo:=by simp
      have B:((xL lo d c:Nat):Int)-((0:Nat):Int)=Builtin.Range.rangeSize lo d c:=by
       unfold xL Builtin.Range.rangeSize;rw[aR (show c>0 from n)];split
       .have:=mC (show 0<=d-lo-1 by omega) (show 0<=c by omega);omega
       .rfl
      show IsRangeIter _ _ (lo+((0:Nat):Int)*c) (((xL lo d c:Nat):Int)-((0:Nat):Int)) c;rw[A,B];exact bB _ rfl
     .have e:b=(i.heap.push { cls:=.type "range",data:=.fields #[.int lo t,.int d u,.int c v] }).objs.size:=by simpa using D
      subst e;exact m.fpOk (aW _) (m.hok.fresh (aW _))
end
section
variable {X:Cx}{K:mH}
noncomputable def tV (lo c:Int) (n:Nat):Aa D:=(List.range n).map λ(i:Nat)=>D.int (lo+i*c)
theorem Rh {lo c:Int}{n:Nat}:YD K (Bz lo c n) (tV lo c n) [] where
 vals:=rfl
 go:=λi H A a _=>by simpa [Bz,tV] using a
 yld:=λi H A x d a _ y=>by
  have b:i<n:=by simpa [tV] using a
  refine⟨.int (lo+i*c),by simp[tV,b],.inl ⟨y.1,?_⟩⟩;rw[y.2];exact .int _
 stop:=λi H A a _=>by simp[Bz,tV,a]
def Vf (g l o:nF):vW:=λa m k=>g a m λr d=>l a d λh e=>o a e λb f=>match r,h,b with
 | .v (.int i),.v (.int j),.v (.int c)=>(0<=i/\i<=100000/\0<=j/\j<=100000/\0<c/\c<=100000)/\k (tV i c (xL i j c)) f
 | _,_,_=>False
theorem Rt (J:Gl X "range") (U:X.mg "range" = none) (o:PD X a ta) (C:PD X b tb) (I:PD X c tc) (hs:starEach [a,b,c] X.env=(false,eval a X.env)::starEach [b,c] X.env:=by rfl) (l:(backTo pos (starEach [b,c] X.env)).any (·.1)=false:=by rfl)
  (hn:wQ a=true:=by rfl) (g:wQ b=true:=by rfl) (j:wQ c=true:=by rfl):wU X tg (.Call (.Name "range" p) [a,b,c] [] pos) (Vf ta tb tc) :=
 (DO J U (nM o (nM C (nM I oG j) g) hn) hs l).mono λσ H R e=>e.elim λB V T Z F hd G k=>⟨B,V,T,_,F,hd,G,λr h v W L d1 D=>⟨B,h,(r,some v)::T,_,L,d1,D,λq i u Y M d2 E=>⟨B,i,(q,some u)::(r,some v)::T,_,M,d2,E,λf m w s N n d=>by
  cases r<;>first | exact False.elim d | skip
  rename_i x
  cases x<;>first | exact False.elim d | skip
  cases q<;>first | exact False.elim d | skip
  rename_i x
  cases x<;>first | exact False.elim d | skip
  cases f<;>first | exact False.elim d | skip
  rename_i x
  cases x<;>first | exact False.elim d | skip
  have O:=n.valAt;have t:=n.drop;obtain⟨P,Q,S⟩:=t.two rfl rfl;have y:=O.int_inv;have z:=Q.int_inv;have A:=S.int_inv;subst y z A;exact⟨_,_,_,rfl,d.1,k _ _ m [] s N P Rh d.2⟩⟩⟩⟩
end
def Mr (K:mH) (a:Ad):It :=
 ⟨λi H=>∃ b x,mK K H a b/\b[i]?=some x,λi H v c=>∃ p x,H p=none/\v = .ref p/\c=upd H p (.t [.int i,x])/\∀ b,mK K H a b->b[i]?=some x,λi H=>∃ b,mK K H a b/\b.length<=i⟩
def PR (a e g:Ad) (i:Nat) (h:Ag):Prop:=(∃ old,IsEnum h e g i old)/\h.IsListIter g a i
theorem HC {P:Ah}{K:mH}(g:e≠it) :
  Turn P w K (.Tuple j x1 pos) (Mr K a) [e,it] e (PR a e it) where
 mem:=by simp
 obj:=λi h st c m=>by
  obtain⟨⟨old,d⟩,⟨o4,f,c4,p⟩⟩:=st;simp only[aO,bH,fL] at m;rcases m with e | e<;>subst e
  .exact⟨_,d,λv z=>nomatch z⟩
  .exact⟨_,f,λv z=>by rw[p] at z;cases z⟩
 keep:=λi h R st k=>by
  obtain⟨⟨old,d⟩,f⟩:=st;exact⟨⟨old,k e (by simp) _ d⟩,f.at λo q=>k it (by simp) o q⟩
 item:=by
  intro X B hw A m i n s σ H E I t st D;subst B hw A;obtain⟨⟨old,d⟩,f⟩:=st;obtain⟨xs,x,u,W⟩:=D;obtain⟨G,N,L,_⟩:=I.list u;obtain⟨Q,F,M⟩:=N.get W;refine wpAny_pyNext_enum_item d f L.isList (x:=Q) (by simpa using F) g λR T U Y n4 n5=>?_
  refine⟨_,rfl,wpAny_letOwnedTupleGo_enum T λS J y=>?_⟩;have C:∀ c o,c∉[e,it]->s.heap.get? c=some o->S.get? c=some o:=λc o b q=>by
   simp only[aO,bH,fL,mG] at b;exact y.extBut c o b.1 (n5 c o b.1 b.2 q)
  have Z:s.heap.objs.size≠e:=λq=>eM _ (by have:=bA d;rw[<- q] at this;exact this)
  have nt:yB S s.heap.objs.size [.int i s.toks,Q].toArray:=⟨⟨_,y.extBut _ _ Z Y,rfl,_,rfl⟩,_,y.extBut _ _ Z Y,rfl⟩;have l:=I.movedT (t':=s.toks+1) (ys:=[.int i,x]) t C nt (.cons ⟨_,rfl⟩ (.cons M .nil)) (by show 2<=sizeLine;decide);refine⟨.ref s.heap.objs.size,_,l,rfl,⟨_,x,I.fresh,rfl,rfl,λaa q'=>by rw[I.list_inj q' u];exact W⟩,⟨⟨Q,?_⟩,?_⟩,λc b=>?_⟩
  .have:((i+1:Nat):Int)=(i:Int)+1:=by omega
   rw[this];exact J
  .exact U.at λo q=>y.extBut _ o (eI g) q
  .rw[mQ]
   .exact (t c b).1
   .intro q;obtain⟨o,r⟩:∃ o,s.heap.get? c=some o:=by
     obtain⟨o4,O,_⟩:=f;simp only[aO,bH,fL] at b;rcases b with q | q<;>rw[q]
     .exact⟨_,d⟩
     .exact⟨_,O⟩
    have:=bA r;rw[q] at this;exact eM _ this
 done:=by
  intro X B hw A m i n s σ H E I t st D;subst B hw A;obtain⟨⟨old,d⟩,f⟩:=st;obtain⟨xs,u,V⟩:=D;obtain⟨G,N,L,_⟩:=I.list u;have lx:=N.length;refine wpAny_pyNext_enum_end (I.ok.hd m) d f L.isList (by simp;omega) λR k=>⟨rfl,I.moved (t':=s.toks) t λc o b q=>?_⟩
  simp only[aO,bH,fL,mG] at b;exact k c o b.2 q
 self:=λ_ _ _ _ _ st h=>by
  obtain⟨⟨old,d⟩,f⟩:=st;exact wpAny_pyIter_enum d h
section
variable {X:Cx}{K:mH}
def RZ (K:mH) (g:TA):TI:=λe H R=>g e H λc b=>∃ a,c=[.ref a]/\(∃ d,mK K b a d)/\R (Mr K a) b
theorem WW (l:Gl X "enumerate") (o:X.mg "enumerate" = none) (j:PA X [e] C) (r:starEach [e] X.env=[(false,eval e X.env)]:=by rfl) :
  PI X (.Tuple g T J) (.Call (.Name "enumerate" p) [e] [] pos) (RZ X.K C):=by
 intro b s t H R I h;refine Call_ (vZ I l o boot_enumerate (cR (mM (j pos b s t H _ I h) λM f i=>?_) r rfl));obtain⟨N,k,d,E,B⟩:=i;obtain⟨a,rfl,⟨O,D⟩,q⟩:=B;obtain⟨u,rfl,F⟩:=qC E;cases F;obtain⟨x,L,A,_⟩:=d.list D;refine call_enumerate_list A.isList λw n y G z=>?_
 have v:Inv X b t k { f with heap:=w }:=d.kept (t':=f.toks) z;refine wpAny_pyIter_enum n ⟨_,[_,_],_,_,k,rfl,v,HC (a:=a) (e:=f.heap.objs.size+1) (it:=f.heap.objs.size) (Nat.succ_ne_self _),⟨⟨_,n⟩,y⟩,λc m=>?_,q⟩;simp only[aO,bH,fL] at m;rcases m with e | e<;>(subst e;exact d.fpOk (by omega) (d.hok.fresh (by omega)))
def Ak (g:Aa D):Aa D:=(List.range g.length).zipWith (λi d=>D.t [.int (i:Nat),d]) g
theorem Vr {g:Aa D}{i:Nat}{d:D}(h:g[i]?=some d):(Ak g)[i]?=some (.t [.int i,d]):=by
 obtain⟨a,rfl⟩:=aX.mp h;unfold Ak;simp[a]
theorem F3:(Ak g).length=g.length:=by simp[Ak]
theorem LI:YD K (Mr K a) (Ak g) [(.v (.l g),some (.ref a))]:=by
 have key:∀ A H,zS K A H [(.v (.l g),some (.ref a))]->∃ b,mK K H a b/\Reps K A H g b:=λA H ok=>by
  obtain⟨v,e,r⟩:=ok _ aF;cases e;obtain⟨q,b,e,_,c,f⟩:=r.lst_inv;cases e;exact⟨b,mK.of c,f⟩
 refine⟨rfl,λi H A h ok=>?_,λi H A x n h ok y=>?_,λi H A h ok=>?_⟩
 .obtain⟨b,c,f⟩:=key A H ok;rw[F3] at h;exact⟨b,b[i]'(by rw[<- f.length];exact h),c,aH _⟩
 .obtain⟨b,c,f⟩:=key A H ok;obtain⟨p,z,k,rfl,rfl,m⟩:=y;obtain⟨d,hd,rd⟩:=f.getV (m b c);exact⟨_,Vr hd,.inr ⟨p,_,_,k,rfl,rfl,rfl,.cons (.int _) (.cons rd .nil)⟩⟩
 .obtain⟨b,c,f⟩:=key A H ok;rw[F3] at h;exact⟨b,c,by rw[<- f.length];omega⟩
def CH (g:nF):vW:=λb e d=>g b e λr a=>match sd r with
 | some (.l c)=>d (Ak c) a
 | _=>False
theorem SO (o:Gl X "enumerate") (C:X.mg "enumerate" = none) (j:PD X e U) (J:starEach [e] X.env=[(false,eval e X.env)]:=by rfl) (I:wQ e=true:=by rfl) :
  wU X (.Tuple g x1 ps) (.Call (.Name "enumerate" p) [e] [] pos) (CH U) :=
 (WW o C (nM j oG I) J).mono λA H R f=>f.elim λB w T z n hd q k=>⟨B,w,T,_,n,hd,q,λr h v i s d1 b=>by
  cases c:sd r with
  | none=>rw[c] at b;exact b.elim
  | some d =>
   rw[c] at b;have d2:=d1.thaw c;have t:=d2.valAt;cases d with
   | l y=>obtain⟨a,u,rfl,_,m,x⟩:=t.lst_inv;exact⟨a,rfl,⟨u,mK.of m⟩,k _ _ h [_] i s d2 LI b⟩
   | _=>exact b.elim⟩
end
end L2
namespace Lw
open PySem L2
abbrev mL:=Aa (Af×Int)
abbrev Aw:=Aa (Af×Af×Aa Af)
noncomputable def gV (t:mL):Aa (dT×D):=t.map λp=>(Sum.inr p.1,D.int p.2)
noncomputable def look (t:mL) (x:Af):Int:=match t.find? (λp=>decide (p.1=x)) with
 | some p=>p.2
 | none=>0
theorem rD:look (p::t) x=if p.1=x then p.2 else look t x:=by
 unfold look;rw[cS];by_cases h:p.1=x<;>simp[h]
theorem qF:∀ (t:mL) (x:Af),(x∈t.map (·.1)->mN (gV t) (Sum.inr x)=some (.int (look t x)))/\(x∉t.map (·.1)->mN (gV t) (Sum.inr x)=none/\look t x=0)
 | [],x=>⟨λh=>by simp at h,λ_=>⟨rfl,rfl⟩⟩
 | p::t,x=>by
  have a:=qF t x;have e:gV (p::t)=(Sum.inr p.1,D.int p.2)::gV t:=rfl;rw[e,xK,rD];by_cases h:p.1=x
  .subst h;exact⟨λ_=>by rw[aR rfl,aR rfl],λn=>absurd (by simp) n⟩
  .have b:(Sum.inr p.1:dT)≠Sum.inr x:=λq=>h (gC q)
   rw[aM b,aM h];refine⟨λm=>a.1 ?_,λm=>a.2 λq=>m (by simp only[aK,aO];exact .inr q)⟩;simp only[aK,aO] at m;exact m.resolve_left λq=>h q.symm
theorem Ck (t:mL) (x:Af):(mN (gV t) (Sum.inr x)).getD (.int 0) = .int (look t x):=by
 by_cases h:x∈t.map (·.1)
 .rw[(qF t x).1 h];rfl
 .rw[((qF t x).2 h).1,((qF t x).2 h).2];rfl
theorem Zp (h:x∉t.map (·.1)):nD (gV t) (Sum.inr x) (.int n)=gV (t++[(x,n)]):=by
 unfold nD;rw[Ft,((qF t x).2 h).1];simp[gV]
theorem Ll:∀ (u t:mL),((t++u).map (·.1)).Nodup->pW (gV t) (gV u)=gV (t++u)
 | [],t,_=>by simp[pW,gV]
 | p::u,t,h=>by
  have a:p.1∉t.map (·.1):=λq=>by
   rw[aQ] at h;exact (bD.mp h).2.2 p.1 q p.1 (by simp) rfl
  have e:pW (gV t) (gV (p::u))=pW (nD (gV t) (Sum.inr p.1) (.int p.2)) (gV u):=rfl;rw[e,Zp a,Ll u (t++[p]) (by simpa using h)];simp
theorem uV (h:(t.map (·.1)).Nodup):pW [] (gV t)=gV t:=by
 have:=Ll t [] (by simpa using h)
 simpa [gV] using this
end Lw
namespace L2
open PySem PySem.Spec PyProof.Rows Lw
section
variable {X:Cx}{K:mH}
theorem MP:nW X (.type "int") (λg H Q=>∃ (x:Af) (n:Int),g=[.str x]/\intText? x=some n/\x.length<=640/\Q (.int n) H):=by
 intro a s k H g i Q I r h;obtain⟨x,n,rfl,c,d,q⟩:=h;obtain⟨u,rfl,f⟩:=qC r;obtain⟨t,rfl⟩:=f;exact PySem.W.KIN.call_text c d ⟨.int n,H,I.kept (t':=s.toks+1) λb o e=>e,⟨_,rfl⟩,q⟩
def LX:OC:=λa b=>match a with
 | [.str x]=>∃ n,intText? x=some n/\x.length<=640/\b (.v (.int n))
 | a=>Ke a b
def Mo:Aa V->Hp->VK->Prop:=λa H Q=>((∃ i,a=[.int i]/\Q (.int i) H)\/∃ k,a=[.b k]/\Q (.int (if k then 1 else 0)) H)\/∃ (x:Af) (n:Int),a=[.str x]/\intText? x=some n/\x.length<=640/\Q (.int n) H
theorem Yn:nW X (.type "int") Mo:=KU.or MP
theorem Wp:qZ K Mo LX:=by
 intro B L H b e f Q hd c a k;have two:Ke b f->Mo e H Q:=λa=>.inl (RW B L H b e f Q hd c a k)
 cases b with
 | nil=>exact two a
 | cons d b =>
 cases d<;>first | exact two a | skip
 cases b with
 | cons _ _=>exact two a
 | nil =>
 obtain⟨x,rfl,m⟩:=rE c;have:=m.str_inv;subst this;obtain⟨n,h,i,a⟩:=a;exact .inr ⟨_,n,rfl,h,i,k _ _ H a (hd.pushF (.int _))⟩
end
section
theorem vA (J:Aa α) (U T:α->D) (p:α->Bool) (C:Aa Sl) (ac:∀ Ψ:Aa D->Aa Sl->Prop,Ψ (J.map U) C->ι dk ρ Ψ) (hl:J.length<=100000)
  (hs:∀ (i:Nat) x (I:Aa D) (Nx:Aa D->Aa Sl->Prop),J[i]?=some x->I.length<100000->(p x=true->Nx (I++[T x]) (oP j C))->(p x=false->Nx I (oP j C))->g (U x) (List.replicate n Sl.n++oP j C) λae=>tt dk ae λb aa=>if b=true then te dk aa λr af=>match sd r with
   | some c=>I.length<100000/\Nx (I++[c]) (af.drop n)
   | none=>False
   else Nx I (aa.drop n))
  (ab:Φ (.o (.l ((J.filter p).map T))) (pU j (oP j C) C)):tJ n j ι g tt te dk ρ Φ:=by
 refine ac _ ⟨λi I a=>I=((J.take i).filter p).map T/\a=oP j C,⟨by simp,rfl⟩,?_,?_⟩
 .rintro i d I a hd _ ⟨f,h⟩;rw[bC] at hd;cases e:J[i]? with
  | none=>rw[e] at hd;cases hd
  | some x =>
   rw[e] at hd;cases hd;obtain⟨s,_⟩:=aX.mp e;have k:(J.take (i+1)).filter p=(J.take i).filter p++(if p x=true then [x] else []):=by
    rw[bR,e,lN];by_cases q:p x=true<;>simp[q]
   have len:I.length<100000:=by
    rw[f,aA];have m:=cB p (J.take i);rw[bS] at m;omega
   rw[h];refine hs i x I (λI a=>I=((J.take (i+1)).filter p).map T/\a=oP j C) e len (λq=>⟨?_,rfl⟩) λq=>⟨?_,rfl⟩
   .rw[k,aR q,f,aQ];rfl
   .rw[k,aM (by rw[q];decide),cZ];exact f
 .rintro I a _ ⟨f,h⟩;rw[f,h,aA,dD];exact ab
theorem oN (J:Aa α) (C I:α->D) (p:Aa Sl) (ab:∀ Ψ:Aa D->Aa Sl->Prop,Ψ (J.map C) p->ι dk ρ Ψ) (hl:J.length<=100000)
  (hs:∀ (i:Nat) x (T:Aa D) (U:Aa D->Aa Sl->Prop),J[i]?=some x->T.length<100000->U (T++[I x]) (oP j p)->g (C x) (List.replicate n Sl.n++oP j p) λac=>te dk ac λr ae=>match sd r with
   | some c=>T.length<100000/\U (T++[c]) (ae.drop n)
   | none=>False)
  (aa:Φ (.o (.l (J.map I))) (pU j (oP j p) p)):tJ n j ι g G7 te dk ρ Φ:=by
 refine vA J C I (λ_=>true) p ab hl (λi x T U e a b _=>hs i x T U e a (b rfl)) ?_;have:J.filter (λ_=>true)=J:=List.filter_eq_self.mpr λ_ _=>rfl
 rw[this];exact aa
end
end L2
namespace Lw
open PySem L2
abbrev I3:=Aa (Af×Af)
noncomputable def nU (t:I3):Aa (dT×D):=t.map λp=>(Sum.inr p.1,D.str p.2)
noncomputable def mU (t:I3) (x:Af):Af:=match t.find? (λp=>decide (p.1=x)) with
 | some p=>p.2
 | none => ""
theorem J5:mU (p::t) x=if p.1=x then p.2 else mU t x:=by
 unfold mU;rw[cS];by_cases h:p.1=x<;>simp[h]
theorem Ey:∀ (t:I3) (x:Af),(x∈t.map (·.1)->mN (nU t) (Sum.inr x)=some (.str (mU t x)))/\(x∉t.map (·.1)->mN (nU t) (Sum.inr x)=none)
 | [],x=>⟨λh=>by simp at h,λ_=>rfl⟩
 | p::t,x=>by
  have a:=Ey t x;have e:nU (p::t)=(Sum.inr p.1,D.str p.2)::nU t:=rfl;rw[e,xK,J5];by_cases h:p.1=x
  .subst h;exact⟨λ_=>by rw[aR rfl,aR rfl],λn=>absurd (by simp) n⟩
  .have b:(Sum.inr p.1:dT)≠Sum.inr x:=λq=>h (gC q)
   rw[aM b,aM h];refine⟨λm=>a.1 ?_,λm=>a.2 λq=>m (by simp only[aK,aO];exact .inr q)⟩;simp only[aK,aO] at m;exact m.resolve_left λq=>h q.symm
theorem Ql (h:x∉t.map (·.1)):nD (nU t) (Sum.inr x) (.str n)=nU (t++[(x,n)]):=by
 unfold nD;rw[Ft,(Ey t x).2 h];simp[nU]
theorem S0:∀ (u t:I3),((t++u).map (·.1)).Nodup->pW (nU t) (nU u)=nU (t++u)
 | [],t,_=>by simp[pW,nU]
 | p::u,t,h=>by
  have a:p.1∉t.map (·.1):=λq=>by
   rw[aQ] at h;exact (bD.mp h).2.2 p.1 q p.1 (by simp) rfl
  have e:pW (nU t) (nU (p::u))=pW (nD (nU t) (Sum.inr p.1) (.str p.2)) (nU u):=rfl;rw[e,Ql a,S0 u (t++[p]) (by simpa using h)];simp
theorem JG (h:(t.map (·.1)).Nodup):pW [] (nU t)=nU t:=by
 have:=S0 t [] (by simpa using h)
 simpa [nU] using this
theorem Se:∀ (own g:Aa Af),(own.map λo=>(Sum.inr o:dT)).zip (g.map D.str)=nU (own.zip g)
 | [],_=>rfl
 | _::_,[]=>rfl
 | o::own,x::g=>by simp only[aK,cW,Se own g];rfl
theorem Ml:∀ (own g:Aa Af),own.length=g.length->(own.zip g).map (·.1)=own
 | [],_,_=>rfl
 | _::_,[],h=>by simp at h
 | o::own,x::g,h=>by simp only[cW,aK,Ml own g (by simpa using h)]
theorem Ic:∀ {own g:Aa Af}{o:Af},own.length=g.length->o∈own->mU (own.zip g) o∈g
 | [],_,_,_,h=>by cases h
 | _::_,[],_,h,_=>by simp at h
 | a::own,x::g,o,h,m=>by
  rw[cW,J5];split
  .exact aF
  .rename_i e
   exact aP _ (Ic (by simpa using h) ((aO.mp m).resolve_left λq=>e q.symm))
theorem X3:∀ {own j:Aa Af}{o g:Af},own.length=j.length->j.Nodup->o∈own->g∈own->mU (own.zip j) o=mU (own.zip j) g->o=g
 | [],_,_,_,_,_,h,_,_=>by cases h
 | _::_,[],_,_,h,_,_,_,_=>by simp at h
 | a::own,x::j,o,g,h,k,m,d,e=>by
  rw[cW,J5,J5] at e;obtain⟨f,i⟩:=bP.mp k;have c:own.length=j.length:=by simpa using h
  by_cases q:a=o
  .by_cases b:a=g
   .rw[<- q,<- b]
   .rw[aR q,aM b] at e;have:=Ic c ((aO.mp d).resolve_left λz=>b z.symm);dsimp only at e;rw[<- e] at this;exact absurd this f
  .by_cases b:a=g
   .rw[aM q,aR b] at e;have:=Ic c ((aO.mp m).resolve_left λz=>q z.symm);dsimp only at e;rw[e] at this;exact absurd this f
   .rw[aM q,aM b] at e;exact X3 c i ((aO.mp m).resolve_left λz=>q z.symm) ((aO.mp d).resolve_left λz=>b z.symm) e
theorem B4:∀ {l:Aa g},l.Nodup->(∀ x∈l,∀ y∈l,f x=f y->x=y)->(l.map f).Nodup
 | [],_,_=>.nil
 | a::l,k,h=>by
  obtain⟨d,i⟩:=bP.mp k;refine bP.mpr ⟨λm=>?_,B4 i λx c y b=>h x (aP _ c) y (aP _ b)⟩;obtain⟨y,b,e⟩:=aI.mp m;have:=h a aF y (aP _ b) e.symm;subst this;exact d b
noncomputable def nI:Aa Af->Aa (Af×Af)
 | a::b::r=>(a,b)::nI r
 | _=>[]
theorem pairs_at:∀ {ws:Aa Af}{i:Nat}{p:Af×Af},(nI ws)[i]?=some p->ws[2*i]?=some p.1/\ws[2*i+1]?=some p.2
 | [],i,p,h=>by simp[nI] at h
 | [a],i,p,h=>by simp[nI] at h
 | a::b::r,0,p,h=>by simp[nI] at h;subst h;exact⟨rfl,rfl⟩
 | a::b::r,i+1,p,h=>by
  have:=pairs_at (ws:=r) (i:=i) (p:=p) (by simpa [nI] using h);rw[show 2*(i+1)=(2*i)+1+1 by omega]
  simpa using this
theorem Hd:∀ (g:Aa Af),g.length%2=0->2*(nI g).length=g.length
 | [],_=>rfl
 | [a],h=>by simp at h
 | a::b::r,h=>by
  have:=Hd r (by simp only[bQ] at h;omega);simp only[nI,bQ];omega
theorem Yd (n:Nat):xL 0 ((2*n:Nat):Int) 2=n:=by
 unfold xL;split
 .omega
 .omega
def nO (i:Nat):Stmt:=PySem.Challenge.pw_laidcells_k18_whole_shown_at_wide_widths.main.body.getD i (.Pass ⟨0,0,0,0⟩)
abbrev Di:Stmt:=nO 4
abbrev E3:Stmt:=nO 6
abbrev Gb:Stmt:=nO 7
abbrev Gv:Stmt:=nO 8
abbrev yV:Stmt:=nO 9
abbrev Df:Stmt:=nO 10
abbrev zO:Stmt:=nO 12
abbrev yR:Stmt:=nO 13
abbrev Es:Stmt:=nO 14
abbrev E1:Stmt:=nO 15
abbrev Jl:Stmt:=nO 16
abbrev Dy:Stmt:=nO 17
abbrev Ij:Stmt:=nO 18
abbrev J1:Stmt:=nO 19
abbrev Fs:Stmt:=nO 21
abbrev Ff:Stmt:=nO 22
abbrev Jb:Stmt:=nO 23
abbrev Fa:Stmt:=nO 24
abbrev Iy:Stmt:=nO 25
abbrev Dg:Stmt:=nO 26
abbrev J0:Stmt:=nO 27
abbrev Gx:Stmt:=nO 28
abbrev Hk:Stmt:=nO 29
abbrev Jr:Stmt:=nO 30
abbrev F7:Stmt:=nO 31
abbrev Hb:Stmt:=nO 33
abbrev Jg:Stmt:=nO 35
abbrev Wk:Stmt:=nO 36
abbrev yJ:Stmt:=nO 36
abbrev Dl:Stmt:=nO 37
abbrev Io:Stmt:=nO 38
abbrev Jf:Stmt:=nO 39
abbrev Fn:Stmt:=nO 40
abbrev Ii:Stmt:=nO 41
abbrev Dm:Stmt:=nO 42
abbrev Jm:Stmt:=nO 43
abbrev F6:Stmt:=nO 44
abbrev Hr:Stmt:=nO 45
abbrev Gy:Stmt:=nO 46
abbrev Ix:Stmt:=nO 47
abbrev J2:Stmt:=nO 48
abbrev Fx:Stmt:=nO 49
abbrev Jj:Stmt:=nO 50
abbrev Hs:Stmt:=nO 51
abbrev Vz:Stmt:=nO 52
abbrev Fl:Stmt:=nO 52
structure Txt (mg:Str->Option Value):Prop where
 len:mg "len" = none
 range:mg "range" = none
 sum:mg "sum" = none
 min:mg "min" = none
 max:mg "max" = none
 tuple:mg "tuple" = none
 list:mg "list" = none
 set:mg "set" = none
 dict:mg "dict" = none
 int:mg "int" = none
 str:mg "str" = none
 zip:mg "zip" = none
 enumerate:mg "enumerate" = none
 all:mg "all" = none
 any:mg "any" = none
 isinstance:mg "isinstance" = none
 sorted:mg "sorted" = none
 abs:mg "abs" = none
 reversed:mg "reversed" = none
 bool:mg "bool" = none
structure Gd (K:mH) (mg:Str->Option Value) (x:Str) (st:Stmt) (ps:List Str) (f:Addr) (fd:FuncData):Prop where
 F:Fun K x x st f fd
 m:mg x=some (.ref f)
 k:PySem.W.keepIn K (.ref f)=true
 b:zW K fd ps []
def Kn (P:Ah) (w:World) (K:mH) (g:Af->Ab Ac) (base:Ag) (k:Nat) (x:Af) (st:Stmt) (j:Aa Af) (R:RD):Prop:=∃ f fd,Gd K g x st j f fd/\FnOk P w K g base pG k f fd j (yT K R)
theorem mT {X:Cx}{st:Stmt}{R:RD}(G:Kn X.prog X.w X.K X.mg X.base k x st T R) (I:Room m X.A) (o:tG X (e::l) J) (C:k<=m:=by decide) (r:Gl X x:=by rfl) (g:(x == ("__debug__" : Af))=false:=by decide)
  (j:StB X e l pos:=by exact {}):PD X (.Call (.Name x p) (e::l) [] pos) (Cn R J):=G.elim λ_ h=>h.elim λ_ h=>TC h.2 (I.mono C) r h.1.m h.1.k h.1.b o g j
def nZ (P:Ah) (w:World) (K:mH) (g:Af->Ab Ac) (base:Ag) (k:Nat) (x:Af) (st:Stmt) (j:Aa Af) (R:RD):Prop:=∀ f fd,Fun K x x st f fd->FnOk P w K g base pG k f fd j (yT K R)
theorem oK {P:Ah}{K:mH}{st:Stmt}{R:RD}(S:FnScope N I (nA st))
  (j:∀ (f:Ad) (g:Ac) (A:Around) (l:Aa Env) (s:Ae) (H:Hp) (E:XK) (r:Aa Ad) (o:Aa D) (p:Sl->Prop),Room k (A.deeper (PyProof.Rows.envOfC x (nA st) s.heap.objs.size f g))->(A.deeper (PyProof.Rows.envOfC x (nA st) s.heap.objs.size f g)).units+1<cLine->R r o p ->∃ t,wS (yX pG P w K J base N x (nA st) f g A l s H E).nox (sV st) t/\t r { nx:=λ_=>p (.v .e),rt:=p } (Ao N o)) (C:I.length<=N.length:=by decide) (hlen:∀ r o p,R r o p->o.length=I.length:=by rintro _ _ _ h;repeat' (rcases h with⟨i,h⟩;try (subst i;rfl))):nZ P w K J base (k+1) x st I R:=λ_ _ F=>F.okD S hlen C λ_ _ _ _ _ _ _ _ _ a=>j _ _ _ _ _ _ _ _ _ _ a (Lr a)
def F5:Sp:=λb H Q _=>∃ (d c:Ad) (m:Int),b=[.ref d,.int m]/\DeckAt H d c/\0<m/\m<4611686018427387904/\∀ (r:Int) (a:Hp),0<=r->r<m->DeckAt a d c->nS d c H a->Q (.int r) a
section
variable {P:Ah}{K:mH}
theorem K9:FnScope ["deck","many","at","cell"] ["deck","many"] (nA yJ):=⟨rfl,rfl,rfl,by decide +kernel,rfl,by decide +kernel,by decide +kernel⟩
theorem N0 (F:Fun K "_law_take" "_law_take" yJ f fd) (T:Txt g):FnOk P w K g base pG 1 f fd ["deck","many"] F5:=by
 refine F.ok K9 (λR H Q E h=>?_) (λG A x s H R Q E X h=>?_)
 .obtain⟨d,c,m,rfl,_⟩:=h;rfl
 .obtain⟨d,c,m,rfl,D,n,W,k⟩:=h;obtain⟨a,p,t,y,L,M⟩:=id D.ex;have q:=D.ne;refine⟨_,qL (qT (i:=2) K9.nd rfl (Or.inl rfl) (nP uM (tD vI (pv 0) oD (λ_ _=>rfl)) (zE Ej (by rfl) T.len cG (xY (tD vI (pv 0) oD (λ_ _=>rfl)) oG)))) (qL (E2 (nP xU (tD vI (pv 0) oD (λ_ _=>rfl)) oD) (Fv (pv 0) oD Gz)) (qL (qT (i:=3) K9.nd rfl (Or.inl rfl) (tD vI (tD vI (pv 0) oD (λ_ _=>rfl)) (pv 2) (λ_ _=>rfl))) (qL (E2 (nP Vy (pv 3) (pv 1)) (Fv (tD vI (pv 0) oD (λ_ _=>rfl)) (pv 2) Gz)) (uE (Bi (nP uM (pv 3) (pv 1))))))),?_⟩;refine⟨_,rfl,d,_,_,_,rfl,rfl,mK.of t,rfl,_,rfl,d,_,_,_,rfl,rfl,mK.of t,rfl,c,_,rfl,.inl (mK.of y),_,_,rfl,rfl,?_,?_⟩
  .rw[aA];omega
  .rw[aA];have B:=fG p (show (a.length:Int)≠0 by omega);have S:=eL p (show (0:Int)<a.length by omega);obtain⟨j,z⟩:=eF B;have v:j<a.length:=by omega
   have u:(a.map V.int)[j]?=some (V.int a[j]):=by simp[v]
   refine⟨_,rfl,d,_,_,_,rfl,rfl,mK.of t,rfl,_,_,rfl,rfl,_,rfl,d,_,_,1,rfl,rfl,t,rfl,?_⟩;have g1:upd H d (.l ([V.ref c,V.int p].set 1 (V.int (p+1)))) d=some (.l [.ref c,.int (p+1)]):=mZ;have g2:upd H d (.l ([V.ref c,V.int p].set 1 (V.int (p+1)))) c=some (.l (a.map V.int)):=by rw[mQ q.symm];exact y
   refine⟨_,rfl,d,_,_,_,rfl,rfl,mK.of g1,rfl,_,rfl,c,_,_,V.int a[j],rfl,rfl,mK.of g2,(by rw[z];exact pB u),?_⟩
   .refine⟨_,rfl,_,rfl,_,_,rfl,rfl,⟨n,by omega⟩,_,rfl,d,_,_,_,rfl,rfl,mK.of g1,rfl,_,rfl,c,_,_,j,rfl,rfl,g2,?_,?_⟩
    .rw[z,aA];unfold tQ;rw[aR (by omega),aR (by omega)];simp
    .refine⟨_,rfl,_,rfl,_,_,rfl,rfl,n,?_⟩;refine k _ _ (fG _ (by omega)) (eL _ n) ⟨a.set j (a[j]/m),p+1,?_,?_,by rw[bO];exact L,by rw[bO];exact M⟩ ?_
     .rw[mQ q];exact g1
     .rw[mZ,List.map_set]
     .intro b o e N O;rw[mQ O,mQ N];exact e
end
theorem pL.new (h:H p=none):pL H (upd H p o):=λb u e=>by rw[mQ (nN e h)];exact e
theorem KG (g:Aa Int) (lo j:Ab Int):∃ l:Aa Int,wJ (g.map V.int) lo j=l.map V.int/\l.length<=g.length:=by
 refine⟨(g.drop (HT.sIx g.length 0 lo)).take (HT.sIx g.length g.length j-HT.sIx g.length 0 lo),?_,?_⟩
 .unfold wJ;rw[List.length_map,List.map_take,List.map_drop]
 .rw[bS,fO];omega
def T5 (K:mH):Sp:=λf H Q _=>∃ (a:Ad) (e:Aa Int),f=[.ref a]/\mK K H a (e.map V.int)/\e.length<=63/\∀ (d c:Ad) (b:Hp),DeckAt b d c->H d=none->H c=none->pL H b->Q (.ref d) b
section
variable {P:Ah}{K:mH}
theorem C6:FnScope ["script","cells","k","mixed"] ["script"] (nA Jg):=⟨rfl,rfl,rfl,by decide +kernel,rfl,by decide +kernel,by decide +kernel⟩
theorem UL (F:Fun K "_law_deck" "_law_deck" Jg f fd) (T:Txt mg):FnOk P w K mg base pG 1 f fd ["script"] (T5 K):=by
 refine F.ok C6 (λvs H Q E h=>?_) (λab A j s H vs Q E hr h=>?_)
 .obtain⟨a,t,rfl,_⟩:=h;rfl
 .obtain⟨a,t,rfl,W,aa,k⟩:=h;refine⟨_,qL (qT (i:=1) C6.nd rfl (Or.inl rfl) (nP Dw (Cy Ot (pv 0) E6 (Fk oD)) (vK (xY (zE Ej (by rfl) T.len cG (xY (pv 0) oG)) oG)))) (qL (Ew (yW Ht (nP uM (zE (Fm rfl) (by rfl) T.sum gI (xY (Cy Ot (pv 0) E6 (Fk oD)) oG)) oD) oD (xG _)) (uE (J4 iK rfl (Ee rfl T.range (xY (zE Ej (by rfl) T.len cG (xY (pv 1) oG)) oG)) (xO (i:=2) C6.nd rfl (Or.inl rfl)) (qL (qT (i:=3) C6.nd rfl (Or.inl rfl) (nP uM (nP wM (nP xU (nP xU (nP uM (tD vI (pv 1) (pv 2) (λ_ _=>rfl)) oD) (nP wM oD (pv 2))) oD) oD) oD)) (qL (qT (i:=3) C6.nd rfl (Or.inl rfl) (nP uM (nP wM (nP uM (nP xU (nP wM (pv 3) (pv 3)) (nP wM oD (pv 2))) oD) oD) oD)) (uE (E2 (nP xU (nP wM (nP wM (pv 3) (pv 3)) oD) (nP uM (nP wM (pv 3) oD) oD)) (Fv (pv 1) (pv 2) Gz))))))) E9) (uE (Bi (vK (xY (pv 1) (xY oD oG)))))),?_⟩;obtain⟨q,em,ac⟩:=KG t none (some 63);refine⟨_,rfl,_,rfl,a,_,rfl,W,λG n1=>?_⟩;have r:pL H (upd H G (.l (wJ (t.map V.int) none (some 63)))):=pL.new n1;rw[em] at r |-;refine⟨_,rfl,a,_,rfl,.inl (r.seq W),(by show 1<=sizeLine;decide),λp n2=>?_⟩;have s2:=r.trans (pL.new (o:=.l [V.int ((t.map V.int).length:Nat)]) n2);have q1:upd (upd H G (.l (q.map V.int))) p (.l [V.int ((t.map V.int).length:Nat)]) G=some (.l (q.map V.int)):=by rw[mQ (nN mZ n2)];exact mZ
  refine⟨G,p,_,_,rfl,rfl,q1,mZ,?_,λc nc=>?_⟩
  .rw[aA];exact bN (show q.length+1<=64 by omega) (by decide)
  have L:=s2.trans (pL.new (o:=.l (q.map V.int++[V.int ((t.map V.int).length:Nat)])) nc);have ec:q.map V.int++[V.int ((t.map V.int).length:Nat)]=(q++[((t.map V.int).length:Int)]).map V.int:=by simp
  rw[ec] at L |-;generalize Y:q++[((t.map V.int).length:Int)]=u at L;have D:0<u.length/\u.length<=64:=by rw[<- Y,bF,fJ];omega
  have B:H c=none:=s2.free nc;generalize S:upd (upd (upd H G (.l (q.map V.int))) p (.l [V.int ((t.map V.int).length:Nat)])) c (.l (u.map V.int))=J at L;have U:J c=some (.l (u.map V.int)):=by rw[<- S];exact mZ
  have fin:∀ (m:Aa Int) (v x:Ab V) (O:Hp),pL H O->O c=some (.l (m.map V.int))->0<m.length->m.length<=64 ->
    (Wj (Sa (Fw (pT 1) (Fw (tC (.int 0)) Ls)))) { nx:=λ_ H'=>Q .e H',rt:=Q } [some (.ref a),some (.ref c),v,x] O:=by
   intro m v x O N y l1 l2;refine⟨_,rfl,(by show 2<=sizeLine;decide),λd g=>?_⟩;refine k d c _ ⟨m,0,mZ,by rw[mQ (nN y g)];exact y,l1,by omega⟩ (N.free g) B (N.trans (pL.new g))
  refine⟨_,rfl,_,rfl,a,_,rfl,L.seq W,λp4 n4=>?_⟩;rw[em];have N:=L.trans (pL.new (o:=.l (q.map V.int)) n4);have y:upd J p4 (.l (q.map V.int)) c=some (.l (u.map V.int)):=by rw[mQ (nN U n4)];exact U
  refine⟨p4,q,rfl,mK.of mZ,_,_,rfl,rfl,(by show (0:Int)<2;decide),rfl,_,rfl,?_⟩;refine Ev (λ_=>?_) (λ_=>?_)
  .refine⟨_,rfl,c,_,rfl,.inl (mK.of y),_,rfl,by omega,by rw[aA];omega,?_⟩;rw[aA,cH];refine V2 (lo:=0) (n:=u.length) (λi I z=>∃ (m:Aa Int) (v x:Ab V),I=[some (.ref a),some (.ref c),v,x]/\pL H z/\z c=some (.l (m.map V.int))/\m.length=u.length)
    ⟨u,none,none,rfl,N,y,rfl⟩ ?_ ?_
   .rintro i I z hi ⟨m,v,x,rfl,C,R,Z⟩;have X:(m.map V.int)[i]?=some (V.int (m[i]'(by omega))):=by simp[Z,hi]
    refine⟨_,rfl,_,rfl,c,_,_,V.int (m[i]'(by omega)),rfl,rfl,mK.of R,(by rw[Int.zero_add];exact pB X),_,_,rfl,rfl,(by show (0:Int)<2147483587;decide),_,rfl,_,_,rfl,rfl,.inl (by decide),_,_,rfl,rfl,_,_,rfl,rfl,_,_,rfl,rfl,.inr (by decide),_,_,rfl,rfl,(by show (0:Int)<2147483629;decide),?_⟩;refine⟨_,rfl,_,rfl,_,_,rfl,rfl,.inl ?_,_,rfl,_,_,rfl,rfl,.inl (by decide),_,_,rfl,rfl,_,_,rfl,rfl,(by show (0:Int)<2147483563;decide),_,_,rfl,rfl,.inr (by decide),_,_,rfl,rfl,(by show (0:Int)<2147483549;decide),?_⟩
    .have b0:=fG ((m[i]'(by omega)%2147483587+853*(0+(i:Int))+11)*69621) (show (2147483629:Int)≠0 by decide);have b1:=eL ((m[i]'(by omega)%2147483587+853*(0+(i:Int))+11)*69621) (show (0:Int)<2147483629 by decide);exact⟨by omega,by omega⟩
    generalize hM:((m[i]'(by omega)%2147483587+853*(0+(i:Int))+11)*69621%2147483629)=M;have b0:=fG ((M*M+31*(0+(i:Int)))%2147483563*16807) (show (2147483549:Int)≠0 by decide);have b1:=eL ((M*M+31*(0+(i:Int)))%2147483563*16807) (show (0:Int)<2147483549 by decide);refine⟨_,rfl,_,rfl,_,_,rfl,rfl,.inl ?_,_,_,rfl,rfl,.inr (by decide),_,rfl,_,_,rfl,rfl,.inl ?_,_,_,rfl,rfl,(by show (0:Int)<2147483579;decide),_,_,rfl,rfl,_,rfl,_,rfl,c,_,_,i,rfl,rfl,R,?_,?_⟩
    .exact⟨by omega,by omega⟩
    .exact⟨by omega,by omega⟩
    .rw[aA];unfold tQ;rw[aR (by omega),aR (by omega)]
     congr 1
     omega
    .refine⟨m.set i _,_,_,rfl,?_,by rw[mZ,List.map_set],by rw[bO];exact Z⟩;intro b o e;rw[mQ (nN e B)];exact C b o e
   .rintro I z ⟨m,v,x,rfl,C,R,Z⟩;exact fin m v x z C R (by omega) (by omega)
  .exact fin u none none _ N y D.1 D.2
end
structure LS (n m:Nat) (x:Str):Prop where
 az:∀ c∈x.cps.toList,97<=c/\c<=122
 lo:n<=x.length
 hi:x.length<=m
theorem VC (x y:Af):(x++y).cps.toList=x.cps.toList++y.cps.toList:=by
 show (x.cps++y.cps).toList=_;simp
theorem Uy (x y:Af):(x++y).length=x.length+y.length:=by
 show (x.cps++y.cps).size=_;simp[Str.length]
theorem LS.app (h:LS a b x) (g:LS c d y):LS (a+c) (b+d) (x++y) :=
 ⟨λz e=>by rw[VC] at e;exact (aU.mp e).elim (h.az z) (g.az z),by rw[Uy];have:=h.lo;have:=g.lo;omega,by rw[Uy];have:=h.hi;have:=g.hi;omega⟩
theorem LS.weak (h:LS a b x) (g:c<=a) (j:b<=d):LS c d x:=⟨h.az,bN g h.lo,bN h.hi j⟩
noncomputable def Jx (n m:Nat) (x:Af):Bool:=x.cps.toList.all (λc=>decide (97<=c)&&decide (c<=122))&&decide (n<=x.length)&&decide (x.length<=m)
theorem LS.of (h:Jx n m x=true):LS n m x:=by
 unfold Jx at h;simp only[cE,cF,dQ] at h;exact⟨h.1.1,h.1.2,h.2⟩
theorem LS.cutL (h:LS n n z) (g:k<=n):LS k k (uU z none (some (k:Int))):=by
 have e:z.length=n:=kW h.hi h.lo;have d:HT.sIx z.length z.length (some (k:Int))=k:=by rw[HT.sIx_nat];omega
 have a:(uU z none (some (k:Int))).cps.toList=z.cps.toList.take k:=by
  show ((z.cps.toList.drop (HT.sIx z.length 0 none)).take _).toArray.toList=_;rw[d,HT.sIx_none];simp
 have f:(uU z none (some (k:Int))).length=k:=by
  rw[<- zX,a,bS,zX];omega
 exact⟨λc b=>by rw[a] at b;exact h.az c (gW b),by omega,by omega⟩
theorem LS.cutR (h:LS n n z) (g:k<=n):LS (n-k) (n-k) (uU z (some (k:Int)) none):=by
 have e:z.length=n:=kW h.hi h.lo;have d:HT.sIx z.length 0 (some (k:Int))=k:=by rw[HT.sIx_nat];omega
 have a:(uU z (some (k:Int)) none).cps.toList=z.cps.toList.drop k:=by
  show ((z.cps.toList.drop (HT.sIx z.length 0 (some (k:Int)))).take _).toArray.toList=_;rw[d,HT.sIx_none];simp only[List.toList_toArray];rw[bL];rw[fO,zX];omega
 have f:(uU z (some (k:Int)) none).length=n-k:=by
  rw[<- zX,a,fO,zX];omega
 exact⟨λc b=>by rw[a] at b;exact h.az c (List.mem_of_mem_drop b),by omega,by omega⟩
theorem LS.sign (h:97<=c/\c<=122):LS 1 1 ⟨#[c]⟩:=⟨λd hd=>by simp at hd;subst hd;exact h,aW _,aW _⟩
theorem U6:∀ (g:Aa Af),(∀ y∈g,LS 1 1 y)->LS g.length g.length (Str.join "" g)
 | [],_=>⟨λc e=>(nomatch e),aW _,aW _⟩
 | [x],h=>h x aF
 | x::y::r,h=>by
  have b:=h x aF;have d:=U6 (y::r) λz f=>h z (aP _ f)
  have a:LS 0 0 (Str.ofString ""):=LS.of (by decide +kernel);have:=(b.app a).app d;show LS _ _ (x++(Str.ofString "")++Str.join "" (y::r));exact this.weak (by simp;omega) (by simp;omega)
theorem OV (g:0<=i) (l:i<xs.length):∃ v,oV xs i=some v/\v∈xs:=by
 obtain⟨j,rfl⟩:=eF g;have a:j<xs.length:=by omega
 exact⟨xs[j],pB (aH a),cM a⟩
theorem Rs {xs:Aa Af}{i:Int}(g:0<=i) (l:i<xs.length):∃ x,oV (xs.map V.str) i=some (V.str x)/\x∈xs:=by
 obtain⟨j,rfl⟩:=eF g;have a:j<xs.length:=by omega
 exact⟨xs[j],pB (by simp[a]),cM a⟩
def oZ:Af := "abcdefghijklmnopqrstuvwxyz"
theorem Nb:oZ.length=26:=by decide +kernel
theorem Lc (g:0<=i) (j:i<26):∃ c,oV oZ.cps.toList i=some c/\97<=c/\c<=122:=by
 obtain⟨c,e,m⟩:=OV (xs:=oZ.cps.toList) g (by rw[zX,Nb];exact j);have h:LS 26 26 oZ:=LS.of (by decide +kernel);exact⟨c,e,h.az c m⟩
noncomputable def sA:Aa Af:=["and","or","odd","most","not","one","nil","in","out"]
theorem BQ (h:x∈sA):LS 2 4 x:=by
 have:sA.all (Jx 2 4)=true:=by decide +kernel
 exact LS.of (cF.mp this x h)
structure GoodName (x:Str):Prop where
 ls:LS 1 8 x
 nk:x∉sA
def N4:Sp:=λa H Q _=>a=[]/\∀ l,H l=none->Q (.ref l) (upd H l (.l (sA.map V.str)))
def Uo:Sp:=λe H Q _=>∃ (d c:Ad) (m:Nat),e=[.ref d,.int m]/\DeckAt H d c/\m<=40/\∀ (l:Ad) (b:Aa Af) (a:Hp),H l=none->a l=some (.l (b.map V.str))->b.length=m->(∀ x∈b,LS 1 8 x) ->
 DeckAt a d c->nS d c H a->Q (.ref l) a
theorem nS.free (k:nS d c H g) (j:l≠d) (p:l≠c) (h:g l=none):H l=none:=by
 cases e:H l with
 | none=>rfl
 | some o=>rw[k l o e j p] at h;cases h
theorem LV {g:Aa Af}{n m:Nat}(h:∀ y∈g,y.length<=m) (j:g.length<=n):(g.map (·.length)).sum<=n*m:=by
 have:∀ g:Aa Af,(∀ y∈g,y.length<=m)->(g.map (·.length)).sum<=g.length*m:=by
  intro g;induction g with
  | nil=>intro _;simp
  | cons a r c =>
   intro h;have d:=h a aF;have e:=c λy b=>h y (aP _ b)
   simp only[aK,dR,bQ,Nat.add_mul,Nat.one_mul];omega
 exact bN (this g h) (Nat.mul_le_mul_right m j)
theorem Ms (h:n<=1000):n<=sizeLine:=bN h (by decide)
section
variable {P:Ah}{K:mH}
theorem TR:FnScope [] [] (nA Dl):=⟨rfl,rfl,rfl,by decide +kernel,rfl,by decide +kernel,by decide +kernel⟩
theorem Qg (F:Fun K "_law_kept" "_law_kept" Dl f fd):FnOk P w K g base pG 1 f fd [] N4:=by
 refine F.ok TR (λd H Q E h=>?_) (λb A a s H d Q E e h=>?_)
 .obtain⟨rfl,_⟩:=h;rfl
 .obtain⟨rfl,k⟩:=h;refine⟨_,@uE _ _ _ (@Bi _ _ _ _ (@vK _ _ _ _ (@C4 _ [("and",_,_),("or",_,_),("odd",_,_),("most",_,_),("not",_,_),("one",_,_),("nil",_,_),("in",_,_),("out",_,_)]))),?_⟩;have c:9<=sizeLine:=by decide
  refine⟨c,?_⟩;exact k
theorem wN:FnScope ["deck","many","letters","base","at","shift","way","names","k","sign","word","name"] ["deck","many"] (nA Io):=⟨rfl,rfl,rfl,by decide +kernel,rfl,by decide +kernel,by decide +kernel⟩
theorem HY:(["k","letters","deck"]:Aa Af).Nodup:=by decide +kernel
theorem R0 (j:0<=i) (l:i<2) (q:Af) (g:LS 0 1 q):∃ x,oV [V.str "",V.str q] i=some (V.str x)/\LS 0 1 x:=by
 have:i=0\/i=1:=by omega
 rcases this with rfl | rfl
 .exact⟨"",rfl,LS.of (by decide +kernel)⟩
 .exact⟨q,rfl,g⟩
theorem Z1 (F:Fun K "_law_made_names" "_law_made_names" Io f fd) (T:Txt mg) (g:Gd K mg "_law_take" yJ ["deck","many"] fT aw) (gK:Gd K mg "_law_kept" Dl [] fK av) :
  FnOk P w K mg base pG 2 f fd ["deck","many"] Uo:=by
 have GT:FnOk P w K mg base pG 1 fT aw ["deck","many"] F5:=N0 g.F T;have GK:FnOk P w K mg base pG 1 fK av [] N4:=Qg gK.F;refine F.ok wN (λvs H Q E h=>?_) (λa8 A a7 s H vs Q E hr h=>?_)
 .obtain⟨d,c,m,rfl,_⟩:=h;rfl
 .obtain⟨d,c,m,rfl,D,hm,k⟩:=h;refine⟨_,qL (qT (i:=2) wN.nd rfl (Or.inr rfl) yA) (qL (qT (i:=3) wN.nd rfl (Or.inl rfl) (Bx PySem.F.plainAttrs_str PySem.F.slot_str_join PySem.F.type_str_join RR yA (nM (yZ ["k"] ["letters","deck"] [2,0] rfl (Ee rfl T.range (nM (xF GT hr rfl g.m g.k g.b .nil vY (nM (pv 0) (nM oD oG))) oG)) rfl rfl (λZ S C cl fp=>xO (i:=0) HY rfl (Or.inl rfl)) (λZ S C cl fp=>Cb) (λZ S C cl fp=>tD J8 (pv 1) (xF GT hr rfl g.m g.k g.b .nil vY (nM (pv 2) (nM oD oG))) (λ_ _=>rfl))) oG))) (qL (qT (i:=4) wN.nd rfl (Or.inl rfl) (xF GT hr rfl g.m g.k g.b .nil vY (nM (pv 0) (nM (nP xU (zE Vo (by rfl) T.len cG (nM (pv 3) oG)) oD) oG)))) (qL (qT (i:=5) wN.nd rfl (Or.inl rfl) (xF GT hr rfl g.m g.k g.b .nil vY (nM (pv 0) (nM oD oG)))) (qL (qT (i:=6) wN.nd rfl (Or.inl rfl) (xF GT hr rfl g.m g.k g.b .nil vY (nM (pv 0) (nM oD oG)))) (qL (qT (i:=7) wN.nd rfl (Or.inl rfl) (vK oG)) (qL (J4 iK rfl (Ee rfl T.range (nM (pv 1) oG)) (xO (i:=8) wN.nd rfl (Or.inl rfl)) (qL (qT (i:=9) wN.nd rfl (Or.inl rfl) (tD J8 (pv 2) (nP uM (nP xU (pv 5) (pv 8)) oD) (λ_ _=>rfl))) (qL (qT (i:=10) wN.nd rfl (Or.inl rfl) (tD vI (Uw GK hr rfl gK.m gK.k gK.b .nil vY) (nP uM (nP xU (pv 5) (pv 8)) oD) (λ_ _=>rfl))) (qL (qT (i:=11) wN.nd rfl (Or.inl rfl) (nP xQ (nP xQ (nP xQ (nP xQ (Cy Ny (pv 3) E6 (Fk (pv 4))) (pv 9)) (tD vI (vK (nM yA (nM yA oG))) (nP uM (pv 8) oD) (λ_ _=>rfl))) (Cy Ny (pv 3) (Fk (pv 4)) E6)) (tD vI (vK (nM yA (nM yA oG))) (nP OF (pv 8) oD) (λ_ _=>rfl)))) (uE (S5 (Bx bT bZ cA tX (pv 7) (nM (tD vI (vK (nM (pv 11) (nM (nP xQ (pv 9) (pv 10)) (nM (nP xQ (pv 10) (pv 9)) (nM (nP xQ (nP xQ (pv 9) (pv 10)) (tD J8 (pv 2) (nP uM (pv 8) oD) (λ_ _=>rfl))) oG))))) (pv 6) (λ_ _=>rfl)) oG)))))))) (uE (Bi (pv 7))))))))),?_⟩;refine⟨rfl,_,rfl,d,c,6,rfl,D,by decide,by decide,λr1 H1 a0 a1 D1 k1=>⟨_,rfl,by omega,by omega,λD0 N=>?_⟩⟩;have u:=D1.ned N;have a2:H D0=none:=k1.free u.1 u.2 N;refine Mg Vt (λi ys H2=>∃ t:Aa Af,ys=t.map V.str/\t.length=i/\(∀ z∈t,LS 1 1 z)/\DeckAt H2 d c/\nS d c H H2/\H2 D0=some (.l ys))
   ⟨[],rfl,rfl,(λz Y=>nomatch Y),D1.new N,k1.trans (nS.new N),mZ⟩ (λ_ _ _ _ _=>True.intro) ?_ ?_
  .rintro i x ys H2 hx ⟨t,rfl,hl,a6,D2,k2,hD⟩;have hi:i<6:=by
    have:=(aX.mp hx).1;simp at this;omega
   refine⟨_,rfl,_,rfl,d,c,26,rfl,D2,by decide,by decide,λr H3 b0 b1 D3 k3=>?_⟩;obtain⟨W,a3,I⟩:=Lc b0 b1;have az:=k3 D0 _ hD u.1 u.2;refine⟨oZ,_,W,rfl,rfl,(by rw[Nb];decide),a3,⟨_,rfl⟩,az,(by rw[aA];exact bI (show t.length<1000 by omega) (by decide)),t++[⟨#[W]⟩],by simp,by simp[hl],λz Y=>?_,D3.upd_other u.1 u.2,?_,mZ⟩
   .rcases aU.mp Y with q | q
    .exact a6 z q
    .rw[aV.mp q];exact LS.sign I
   .exact λb o e h1 h2=>by rw[mQ (nN e a2)];exact k3 b o (k2 b o e h1 h2) h1 h2
  .rintro ys H2 ⟨t,rfl,hl,Y,D2,k2,hD⟩;rw[aA,cP] at hl;have hB:=U6 t Y;have ay:t.length<=5:=by omega
   refine⟨"",D0,t,rfl,rfl,.inl (mK.of hD),?_,?_⟩
   .have h1:=LV (m:=1) (λy hy=>(Y y hy).hi) ay;have h2:(Str.ofString "").length=0:=by decide +kernel
    rw[h2];omega
   have ej:Txt.join (Str.ofString "") t=Str.join (Str.ofString "") t:=StrLaws.glued_eq_join _ _;rw[ej];generalize Str.join (Str.ofString "") t=B at hB;have eB:B.length=t.length:=kW hB.hi hB.lo;refine⟨_,rfl,_,rfl,B,rfl,Ms (by omega),_,_,rfl,rfl,d,c,_,rfl,D2,by omega,by omega,λr2 H3 b0 b1 D3 k3=>?_⟩;refine⟨_,rfl,d,c,26,rfl,D3,by decide,by decide,λr3 H4 c0 c1 D4 k4=>?_⟩;refine⟨_,rfl,d,c,4,rfl,D4,by decide,by decide,λr4 H5 d0 d1 D5 k5=>?_⟩;refine⟨(by show 0<=sizeLine;decide),λl nl=>?_⟩;have kk:nS d c H H5:=((k2.trans k3).trans k4).trans k5;have O:=D5.ned nl;have ae:H l=none:=kk.free O.1 O.2 nl;obtain⟨L,rfl⟩:=eF b0;refine⟨_,rfl,_,rfl,by omega,by omega,?_⟩;rw[cH];refine V2 (lo:=0) (n:=m) (λi σ G=>∃ (v:Aa Af) (v8 v9 v10 v11:Ab V),σ=[some (.ref d),some (.int m),some (.str oZ),some (.str B),some (.int L),some (.int r3),some (.int r4),some (.ref l),v8,v9,v10,v11] /\ v.length=i/\(∀ x∈v,LS 1 8 x)/\G l=some (.l (v.map V.str))/\DeckAt G d c/\nS d c H G)
    ⟨[],none,none,none,none,rfl,rfl,(λz Y=>nomatch Y),mZ,D5.new nl,kk.trans (nS.new nl)⟩ ?_ ?_
   .rintro i σ G hi ⟨v,v8,v9,v10,v11,rfl,J,U,h6,D6,k6⟩;have M:∀ z:Int,0<=z%26/\z%26<26:=λz=>⟨fG z (by decide),eL z (by decide)⟩
    have e9:∀ z:Int,0<=z%9/\z%9<9:=λz=>⟨fG z (by decide),eL z (by decide)⟩
    have e2:∀ z:Int,0<=z%2/\z%2<2:=λz=>⟨fG z (by decide),eL z (by decide)⟩
    obtain⟨W,af,I⟩:=Lc (M (r3+(0+(i:Int)))).1 (M _).2;obtain⟨wd,ag,a4⟩:=Rs (xs:=sA) (e9 (r3+(0+(i:Int)))).1 (by exact (e9 _).2);obtain⟨x1,ah,ao⟩:=R0 (e2 (0+(i:Int))).1 (e2 _).2 "q" (LS.of (by decide +kernel));obtain⟨x2,ai,aq⟩:=R0 (i:=(0+(i:Int))/26) (by omega) (by omega) "w" (LS.of (by decide +kernel));obtain⟨c5,aj,an⟩:=Lc (M (0+(i:Int))).1 (M _).2;have j:=LS.sign I;have hW:=BQ a4;have X:L<=t.length:=by omega
    have hP:=hB.cutL X;have hR:=hB.cutR X;have n1:=hP.app j;have n2:=n1.app ao;have n3:=n2.app hR;have n4:=n3.app aq;have w1:=j.app hW;have w2:=hW.app j;have w3:=w1.app (LS.sign an);have sz:∀ {a b c' d':Nat} {x y:Af},LS a b x->LS c' d' y->b+d'<=100->x.length+y.length<=sizeLine:=λg1 g2 hb=>Ms (by have:=g1.hi;have:=g2.hi;omega)
    have au:oZ.length<=sizeLine:=by rw[Nb];decide
    have ac:B.length<=sizeLine:=Ms (by omega);refine⟨_,rfl,_,rfl,_,rfl,_,_,rfl,rfl,_,_,rfl,rfl,(by show (0:Int)<26;decide),oZ,_,W,rfl,rfl,au,af,?_⟩;refine⟨rfl,λp np=>?_⟩;have D7:DeckAt (upd G p (.l (sA.map V.str))) d c:=D6.new np;refine⟨_,rfl,_,rfl,_,_,rfl,rfl,_,_,rfl,rfl,(by show (0:Int)<9;decide),p,_,_,.str wd,rfl,rfl,mK.of mZ,ag,?_⟩;have k7:nS d c H (upd G p (.l (sA.map V.str))):=k6.trans (nS.new np);have h7:upd G p (.l (sA.map V.str)) l=some (.l (v.map V.str)):=by rw[mQ (nN h6 np)];exact h6
    generalize upd G p (.l (sA.map V.str))=H7 at D7 k7 h7 |-;refine⟨_,rfl,_,rfl,_,rfl,B,rfl,ac,_,rfl,_,_,rfl,rfl,sz hP j (by omega),(by show 2<=sizeLine;decide),λp2 aa=>?_⟩;have D8:=D7.new (o:=.l [V.str (Str.ofString ""),V.str (Str.ofString "q")]) aa;have k8:=k7.trans (nS.new (d:=d) (c:=c) (o:=.l [V.str (Str.ofString ""),V.str (Str.ofString "q")]) aa);have h8:upd H7 p2 (.l [V.str (Str.ofString ""),V.str (Str.ofString "q")]) l=some (.l (v.map V.str)):=by rw[mQ (nN h7 aa)];exact h7
    refine⟨_,rfl,_,_,rfl,rfl,(by show (0:Int)<2;decide),p2,_,_,.str x1,rfl,rfl,mK.of mZ,ah,_,_,rfl,rfl,sz n1 ao (by omega),_,rfl,_,rfl,_,rfl,B,rfl,ac,_,_,rfl,rfl,sz n2 hR (by omega),(by show 2<=sizeLine;decide),λp3 R=>?_⟩;generalize upd H7 p2 (.l [V.str (Str.ofString ""),V.str (Str.ofString "q")])=H8 at D8 k8 h8 R |-;have D9:=D8.new (o:=.l [V.str (Str.ofString ""),V.str (Str.ofString "w")]) R;have k9:=k8.trans (nS.new (d:=d) (c:=c) (o:=.l [V.str (Str.ofString ""),V.str (Str.ofString "w")]) R);have h9:upd H8 p3 (.l [V.str (Str.ofString ""),V.str (Str.ofString "w")]) l=some (.l (v.map V.str)):=by rw[mQ (nN h8 R)];exact h8
    refine⟨_,rfl,_,_,rfl,rfl,⟨by decide,by decide⟩,p3,_,_,.str x2,rfl,rfl,mK.of mZ,ai,_,_,rfl,rfl,sz n3 aq (by omega),?_⟩;generalize upd H8 p3 (.l [V.str (Str.ofString ""),V.str (Str.ofString "w")])=H9 at D9 k9 h9 |-;generalize a9:(uU B none (some (L:Int))++(⟨#[W]⟩:Af)++x1++uU B (some (L:Int)) none++x2)=nm at n4;refine⟨_,rfl,.inl ⟨rfl,_,mK.of h9⟩,_,rfl,_,rfl,_,rfl,_,_,rfl,rfl,sz j hW (by omega),_,rfl,_,rfl,_,_,rfl,rfl,sz hW j (by omega),_,rfl,_,rfl,_,_,rfl,rfl,sz j hW (by omega),_,rfl,_,rfl,_,_,rfl,rfl,(by show (0:Int)<26;decide),oZ,_,c5,rfl,rfl,au,aj,_,_,rfl,rfl,sz w1 (LS.sign an) (by omega),(by show 4<=sizeLine;decide),λp4 ab=>?_⟩;obtain⟨z,ak,ar⟩:=Rs (xs:=[nm,(⟨#[W]⟩:Af)++wd,wd++(⟨#[W]⟩:Af),(⟨#[W]⟩:Af)++wd++(⟨#[c5]⟩:Af)]) d0 (by exact d1);have a5:LS 1 8 z:=by
     simp only[aO,bH,fL] at ar;rcases ar with rfl | rfl | rfl | rfl
     .exact n4.weak (by omega) (by omega)
     .exact w1.weak (by omega) (by omega)
     .exact w2.weak (by omega) (by omega)
     .exact w3.weak (by omega) (by omega)
    have ax:∀ o4,upd H9 p4 o4 l=some (.l (v.map V.str)):=λo4=>by rw[mQ (nN h9 ab)];exact h9
    refine⟨_,rfl,p4,_,_,.str z,rfl,rfl,mK.of mZ,ak,l,v.map V.str,.str z,rfl,rfl,?_,?_,v++[z],_,_,_,_,rfl,by simp[J],?_,?_,?_,?_⟩
    .exact ax _
    .rw[aA];exact bI (show v.length<1000 by omega) (by decide)
    .intro y hy;rcases aU.mp hy with q | q
     .exact U y q
     .rw[aV.mp q];exact a5
    .rw[mZ];simp
    .exact (D9.new ab).upd_other O.1 O.2
    .exact λb o e g1 g2=>by rw[mQ (nN e ae)];exact (k9.trans (nS.new ab)) b o e g1 g2
   .rintro σ G ⟨v,v8,v9,v10,v11,rfl,J,U,h6,D6,k6⟩;exact⟨_,rfl,k l v G ae h6 J U D6 k6⟩
end
def vX:Aa Af:=["cell","along","lay","judge","late","gates","ways","show"]
noncomputable def zJ:Aa Af:=["andx","orb","oddly","mosts","nots","ones","nila","inn","outer","aa","ab","ba"]
def Iv:Aa Af:=["abcdefgh","abcdefgi","zzzzzzzz","names","judged","rowsofx"]
def tL (z:Af):Aa Af:=z.cps.toList.map λc=>(⟨#[c]⟩:Af)
def A2:Aa Af:=tL oZ++vX++zJ++Iv
theorem WY:A2.Nodup:=by decide +kernel
theorem BU:A2.length=52:=by decide +kernel
theorem AX:∀ x∈A2,GoodName x:=by
 have h:A2.all (λx=>Jx 1 8 x && !sA.contains x)=true:=by decide +kernel
 intro x b;have:=cF.mp h x b;rw[cE] at this;refine⟨LS.of this.1,λm=>?_⟩;have a:=this.2;rw[List.contains_iff_mem.mpr m] at a;cases a
def Yo:Sp:=λe H Q _=>∃ (d c:Ad) (m:Nat),e=[.ref d,.int m]/\DeckAt H d c/\m<=40/\∀ (l:Ad) (b:Aa Af) (a:Hp),H l=none->a l=some (.l (b.map V.str))->b.length=m->b.Nodup->(∀ x∈b,GoodName x) ->
 DeckAt a d c->nS d c H a->Q (.ref l) a
theorem Pu:∀ {g:Aa Af}{k:Nat}{y:Af},g[k]?=some y->(y::g.eraseIdx k).Perm g
 | [],k,y,h=>by simp at h
 | a::r,0,y,h=>by
  simp at h;subst h;exact List.Perm.refl _
 | a::r,k+1,y,h=>by
  have b:r[k]?=some y:=by simpa using h
  show (y::a::r.eraseIdx k).Perm (a::r);exact (List.Perm.swap a y _).trans ((Pu b).cons a)
theorem Rm (f:g->j):∀ (l:Aa g) (k:Nat),(l.map f).eraseIdx k=(l.eraseIdx k).map f
 | [],_=>rfl
 | _::_,0=>rfl
 | a::r,k+1=>by simp[Rm f r k]
theorem ME (x:Af) (g:Aa Af):tR (.str x) (g.map V.str)=decide (x∈g):=by
 unfold tR;induction g with
 | nil=>rfl
 | cons y r b =>
  rw[aK,eZ,b];have:qW (V.str y) (V.str x)=decide (y=x):=by
   simp only[qW];exact Bool.beq_eq_decide_eq y x
  rw[this];by_cases h:x=y
  .subst h;simp
  .have a:¬ y=x:=λe=>h e.symm
   simp[h,a]
theorem LR (g:Aa Af):(g.map V.str).all uK=true:=by
 rw[cF];intro v a;obtain⟨y,_,rfl⟩:=aI.mp a;rfl
section
variable {P:Ah}{K:mH}
theorem B7:FnScope ["deck","many","letters","names","spare"] ["deck","many"] (nA Jf):=⟨rfl,rfl,rfl,by decide +kernel,rfl,by decide +kernel,by decide +kernel⟩
theorem Vl (x:Af):([x]:Aa Af).Nodup:=by simp
theorem AZ:(["k","spare","deck"]:Aa Af).Nodup:=by decide +kernel
theorem VQ (F:Fun K "_law_names" "_law_names" Jf f fd) (T:Txt mg) (gT:Gd K mg "_law_take" yJ ["deck","many"] fT a6) (gK:Gd K mg "_law_kept" Dl [] fK a4)
  (gM:Gd K mg "_law_made_names" Io ["deck","many"] fM a5):FnOk P w K mg base pG 3 f fd ["deck","many"] Yo:=by
 have GT:FnOk P w K mg base pG 1 fT a6 ["deck","many"] F5:=N0 gT.F T;have GK:FnOk P w K mg base pG 1 fK a4 [] N4:=Qg gK.F;have GM:FnOk P w K mg base pG 2 fM a5 ["deck","many"] Uo:=Z1 gM.F T gT gK;refine F.ok B7 (λvs H Q E h=>?_) (λbf A bd s H vs Q E hr h=>?_)
 .obtain⟨d,c,m,rfl,_⟩:=h;rfl
 .obtain⟨d,c,m,rfl,D,hm,k⟩:=h;have aj:Room 1 _:=hr.mono (by decide);have hu:=hr.units;refine Pd _ (qT (i:=2) B7.nd rfl (Or.inl rfl) yA) ?_;refine Hc (λσ S=>∃ v3,σ=[some (.ref d),some (.int m),some (.str oZ),v3,none]/\DeckAt S d c/\nS d c H S) (λu L=>?_) ?_
  .-- if _law_take(deck,2) == 1
   refine⟨_,Ew (yW Ht (xF GT aj rfl gT.m gT.k gT.b .nil vY (nM (pv 0) (nM oD oG))) oD (xG _)) (qL (qT (i:=3) B7.nd rfl (Or.inl rfl) (xF GM hr rfl gM.m gM.k gM.b .nil vY (nM (pv 0) (nM (pv 1) oG)))) (uE (Ew (PW.pt (DK (yW Ht (zE IN (by rfl) T.len cG (nM (Sf (SE rfl) (by rfl) T.set PyProof.Rows.boot_set (nM (pv 3) oG)) oG)) (pv 1) (xG _)) (PJ (yW (Q5 hu) (yZ ["name"] [] [] rfl (BA (pv 3)) rfl rfl (λB v C cl fp=>xO (i:=0) (Vl _) rfl (Or.inl rfl)) (λB v C cl fp=>Vn (yW (r:=G4 K false) Uu (pv 0) (Uw GK aj rfl gK.m gK.k gK.b .nil vY) rfl)) (λB v C cl fp=>pv 0)) (vK oG) (xG _))))) (uE (Bi (pv 3))) E9))) E9,?_⟩;refine⟨_,rfl,d,c,2,rfl,D,by decide,by decide,λr1 H1 a0 a1 D1 k1=>⟨rfl,_,rfl,?_⟩⟩;refine Ev (λ_=>?_) (λ_=>L _ _ ⟨none,rfl,D1,k1⟩);refine⟨_,rfl,_,rfl,d,c,m,rfl,D1,hm,λl O H2 nl hl av ba D2 k2=>?_⟩;have kk:nS d c H H2:=k1.trans k2;have ax:=D1.ned nl;have a8:H l=none:=k1.free ax.1 ax.2 nl;refine⟨_,rfl,l,O,rfl,mK.of hl,by omega,λp np=>?_⟩;have k3:=kk.trans (nS.new (d:=d) (c:=c) (o:=Ce P w p (pD O).length) np);have D3:=D2.new (o:=Ce P w p (pD O).length) np;have ai:upd H2 p (Ce P w p (pD O).length) l=some (.l (O.map V.str)):=by rw[mQ (nN hl np)];exact hl
   refine⟨p,_,rfl,mZ,_,rfl,rfl,_,rfl,?_⟩;refine Ev (λa9=>?_) (λ_=>vD (L _ _ ⟨_,rfl,D3,k3⟩));have J:O.Nodup:=by
    have:=cD a9;injection this with this;exact KS (by omega)
   refine⟨_,rfl,l,rfl,⟨_,mK.of ai⟩,λR n=>?_⟩;have G:=D3.ned n;have ac:H R=none:=k3.free G.1 G.2 n;have lD:l≠R:=nN ai n;refine K3 CD (λi ys S=>∃ t:Aa Af,ys=t.map V.str/\t.length<=i/\((∃ x∈O.take i,x∈sA)->t≠[])/\((∀ x∈O.take i,x∉sA)->t=[])/\DeckAt S d c/\nS d c H S/\S R=some (.l ys)/\S l=some (.l (O.map V.str)))
    ⟨[],rfl,aW _,(λ⟨x,N,_⟩=>by simp at N),(λ_=>rfl),D3.new n,k3.trans (nS.new n),mZ,by rw[mQ lD];exact ai⟩ (λi ys S _ ⟨_,_,_,_,_,_,_,_,h⟩=>mK.of h) ?_ ?_
   .rintro i x ys S N ⟨t,rfl,aw,U,af,D4,k4,g,I⟩;obtain⟨y,hy,rfl⟩:∃ y,O[i]?=some y/\V.str y=x:=by
     rw[bC] at N;cases e:O[i]? with
     | none=>rw[e] at N;cases N
     | some y=>rw[e] at N;exact⟨y,rfl,bU N⟩
    have hi:i<O.length:=(aX.mp hy).1;have et:O.take (i+1)=O.take i++[y]:=by rw[bR,hy];rfl
    refine⟨_,rfl,rfl,λq nq=>?_⟩;have bh:=D4.ned nq;refine⟨q,_,rfl,.inl (mK.of mZ),rfl,LR _,_,rfl,?_⟩;have D5:=D4.new (o:=.l (sA.map V.str)) nq;have k5:=k4.trans (nS.new (d:=d) (c:=c) (o:=.l (sA.map V.str)) nq);have ab:upd S q (.l (sA.map V.str)) R=some (.l (t.map V.str)):=by rw[mQ (nN g nq)];exact g
    have ae:upd S q (.l (sA.map V.str)) l=some (.l (O.map V.str)):=by rw[mQ (nN I nq)];exact I
    rw[ME];refine Ev (λhk=>?_) (λhk=>?_)
    .have ah:y∈sA:=cD hk;refine⟨_,rfl,⟨_,rfl⟩,ab,?_,t++[y],by simp,by simp;omega,λ_=>by simp,λh=>absurd ah (h y (by rw[et];simp)),D5.upd_other G.1 G.2,?_,mZ,?_⟩
     .rw[aA];exact bI (show t.length<1000 by omega) (by decide)
     .exact λb o e g1 g2=>by rw[mQ (nN e ac)];exact k5 b o e g1 g2
     .rw[mQ lD];exact ae
    .have ah:y∉sA:=λz=>hk (bE z)
     refine⟨⟨_,rfl⟩,t,rfl,by omega,?_,?_,D5,k5,ab,ae⟩
     .rintro ⟨z,hz,ak⟩;rw[et] at hz;rcases aU.mp hz with q' | q'
      .exact U ⟨z,q',ak⟩
      .rw[aV.mp q'] at ak;exact absurd ak ah
     .exact λh=>af λz hz=>h z (by rw[et];exact aT _ hz)
   .rintro ys S ⟨t,rfl,aw,U,af,D4,k4,g,I⟩;rw[aA] at aw U af;rw[bL (aW _)] at U af;refine⟨(by show 0<=sizeLine;decide),λq nq=>?_⟩;have D5:=D4.new (o:=.l []) nq;have k5:=k4.trans (nS.new (d:=d) (c:=c) (o:=.l []) nq);have ab:upd S q (.l []) R=some (.l (t.map V.str)):=by rw[mQ (nN g nq)];exact g
    have ae:upd S q (.l []) l=some (.l (O.map V.str)):=by rw[mQ (nN I nq)];exact I
    refine⟨R,q,_,rfl,rfl,mK.of ab,mK.of mZ,_,rfl,?_⟩;refine Ev (λhe=>?_) (λ_=>L _ _ ⟨_,rfl,D5,k5⟩);have bc:t=[]:=by
     cases t with
     | nil=>rfl
     | cons a r=>simp at he
    refine⟨_,rfl,k l O _ a8 ae av J (λx N=>⟨ba x N,λhk=>U ⟨x,N,hk⟩ bc⟩) D5 k5⟩
  .rintro σ S ⟨v3,rfl,D4,k4⟩;refine Hc (λσ H7=>∃ p2,σ=[some (.ref d),some (.int m),some (.str oZ),v3,some (.ref p2)]/\H7 p2=some (.l ((tL oZ++vX).map V.str))/\DeckAt H7 d c/\nS d c H H7/\H p2=none) (λu L=>?_) ?_
   .refine⟨_,qT (i:=4) B7.nd rfl (Or.inr rfl) (nP Dw (yZ ["sign"] [] [] rfl (IB (pv 2)) rfl rfl (λB v C cl fp=>xO (i:=0) (Vl _) rfl (Or.inl rfl)) (λB v C cl fp=>Cb) (λB v C cl fp=>pv 0)) (@vK _ _ _ _ (@C4 _ [("cell",_,_),("along",_,_),("lay",_,_),("judge",_,_),("late",_,_),("gates",_,_),("ways",_,_),("show",_,_)]))),?_⟩;refine⟨_,rfl,oZ,rfl,by decide +kernel,λR n=>?_⟩;refine RH SD id n (λ_ _=>True.intro) (by rw[show (zY oZ).length=26 by decide +kernel];decide) (λi x H5 kk N _ h=>⟨_,rfl,h⟩) ?_;have e1:(zY oZ).map id=(tL oZ).map V.str:=by rw[jQ];unfold zY tL;rw[List.map_map];rfl
    rw[e1];refine⟨(by show 8<=sizeLine;decide),λp1 n1=>?_⟩;have h0:upd (upd S R (.l ((tL oZ).map V.str))) p1 (.l (vX.map V.str)) R=some (.l ((tL oZ).map V.str)):=by rw[mQ (nN mZ n1)];exact mZ
    refine⟨R,p1,_,_,rfl,rfl,h0,mZ,(by rw[aA,show (tL oZ).length=26 by decide +kernel];show 26+8<=sizeLine;decide),λp2 n2=>?_⟩;have D7:=((D4.new (o:=.l ((tL oZ).map V.str)) n).new (o:=.l (vX.map V.str)) n1);have k7:=(k4.trans (nS.new (d:=d) (c:=c) (o:=.l ((tL oZ).map V.str)) n)).trans (nS.new (d:=d) (c:=c) (o:=.l (vX.map V.str)) n1);have ay:=D7.ned n2;refine L _ _ ⟨p2,rfl,?_,D7.new n2,k7.trans (nS.new n2),k7.free ay.1 ay.2 n2⟩;rw[mZ,aQ];rfl
   rintro σ H7 ⟨p2,rfl,h7,D7,k7,z7⟩;refine Hc (λσ H8=>∃ p3,σ=[some (.ref d),some (.int m),some (.str oZ),v3,some (.ref p3)]/\H8 p3=some (.l ((tL oZ++vX++zJ).map V.str))/\DeckAt H8 d c/\nS d c H H8/\H p3=none) (λu L=>?_) ?_
   .refine⟨_,qT (i:=4) B7.nd rfl (Or.inr rfl) (nP Dw (pv 4) (@vK _ _ _ _ (@C4 _ [("andx",_,_),("orb",_,_),("oddly",_,_),("mosts",_,_),("nots",_,_),("ones",_,_),("nila",_,_),("inn",_,_),("outer",_,_),("aa",_,_),("ab",_,_),("ba",_,_)]))),?_⟩;refine⟨_,rfl,(by show 12<=sizeLine;decide),λp1 n1=>?_⟩;have h0:upd H7 p1 (.l (zJ.map V.str)) p2=some (.l ((tL oZ++vX).map V.str)):=by rw[mQ (nN h7 n1)];exact h7
    refine⟨p2,p1,_,_,rfl,rfl,h0,mZ,(by rw[aA,show (tL oZ++vX).length=34 by decide +kernel];show 34+12<=sizeLine;decide),λp3 n3=>?_⟩;have D8:=D7.new (o:=.l (zJ.map V.str)) n1;have k8:=k7.trans (nS.new (d:=d) (c:=c) (o:=.l (zJ.map V.str)) n1);have az:=D8.ned n3;refine L _ _ ⟨p3,rfl,?_,D8.new n3,k8.trans (nS.new n3),k8.free az.1 az.2 n3⟩;rw[mZ,aQ (l₁:=tL oZ++vX)];rfl
   rintro σ H8 ⟨p3,rfl,h8,D8,k8,z8⟩;refine Hc (λσ H9=>∃ Y,σ=[some (.ref d),some (.int m),some (.str oZ),v3,some (.ref Y)]/\H9 Y=some (.l (A2.map V.str))/\DeckAt H9 d c/\nS d c H H9/\H Y=none) (λu L=>?_) ?_
   .refine⟨_,qT (i:=4) B7.nd rfl (Or.inr rfl) (nP Dw (pv 4) (@vK _ _ _ _ (@C4 _ [("abcdefgh",_,_),("abcdefgi",_,_),("zzzzzzzz",_,_),("names",_,_),("judged",_,_),("rowsofx",_,_)]))),?_⟩;refine⟨_,rfl,(by show 6<=sizeLine;decide),λp1 n1=>?_⟩;have h0:upd H8 p1 (.l (Iv.map V.str)) p3=some (.l ((tL oZ++vX++zJ).map V.str)):=by rw[mQ (nN h8 n1)];exact h8
    refine⟨p3,p1,_,_,rfl,rfl,h0,mZ,(by rw[aA,show (tL oZ++vX++zJ).length=46 by decide +kernel];show 46+6<=sizeLine;decide),λY n4=>?_⟩;have D9:=D8.new (o:=.l (Iv.map V.str)) n1;have k9:=k8.trans (nS.new (d:=d) (c:=c) (o:=.l (Iv.map V.str)) n1);have X:=D9.ned n4;refine L _ _ ⟨Y,rfl,?_,D9.new n4,k9.trans (nS.new n4),k9.free X.1 X.2 n4⟩;unfold A2;rw[mZ,aQ (l₁:=tL oZ++vX++zJ)];rfl
   rintro σ H9 ⟨Y,rfl,h9,D9,k9,z9⟩;refine⟨_,uE (Bi (yZ ["k"] ["spare","deck"] [4,0] rfl (Ee rfl T.range (nM (pv 1) oG)) rfl rfl (λB v C cl fp=>xO (i:=0) AZ rfl (Or.inl rfl)) (λB v C cl fp=>Cb) (λB v C cl fp=>LB K bT PySem.F.slot_list_pop PySem.F.type_list_pop Ud (pv 1) (nM (xF GT aj rfl gT.m gT.k gT.b .nil vY (nM (pv 2) (nM (zE (Zo K) (by rfl) T.len cG (nM (pv 1) oG)) oG))) oG)))),?_⟩;refine⟨_,rfl,_,rfl,by omega,by omega,λR n=>?_⟩;have G:=D9.ned n;have ac:H R=none:=k9.free G.1 G.2 n;have X:Y≠d/\Y≠c:=D.ned z9;have ar:Y≠R:=nN h9 n;refine Mg Vt (λi ys W=>∃ t M:Aa Af,ys=t.map V.str/\t.length=i/\M.length+i=52/\(t++M).Nodup/\(∀ x∈t++M,GoodName x)/\W Y=some (.l (M.map V.str))/\DeckAt W d c/\nS d c H W/\W R=some (.l ys))
    ⟨[],A2,rfl,rfl,BU,WY,AX,by rw[mQ ar];exact h9,D9.new n,k9.trans (nS.new n),mZ⟩ (λ_ _ _ _ _=>True.intro) ?_ ?_
   .rintro i x ys W N ⟨t,M,rfl,an,bb,J,hg,aa,ag,ao,Z⟩;have hi:i<40:=by
     have:=(aX.mp N).1;simp at this;omega
    refine⟨_,rfl,.inl ⟨rfl,_,mK.of aa⟩,_,rfl,_,rfl,Y,_,rfl,.inl (mK.of aa),d,c,_,rfl,ag,by rw[aA];omega,by rw[aA];omega,λr be b0 b1 a3 aq=>?_⟩;rw[aA] at b1;obtain⟨j,rfl⟩:=eF b0;have hj:j<M.length:=by omega
    have a7:=aq Y _ aa X.1 X.2;have au:=aq R _ Z G.1 G.2;have hy:M[j]?=some M[j]:=aH hj;have pm:=Pu hy;have a2:((t++[M[j]])++M.eraseIdx j).Perm (t++M):=by
     rw[bJ];exact kE t pm
    have bg:(M.eraseIdx j).length+1=M.length:=by
     rw[List.length_eraseIdx,aR hj];omega
    refine⟨Y,_,_,j,.str M[j],rfl,rfl,a7,by omega,by omega,?_,by simp[hj],⟨_,rfl⟩,by rw[mQ ar.symm];exact au,?_,t++[M[j]],M.eraseIdx j,by simp,by simp[an],by omega,a2.symm.nodup J,λx N=>hg x (a2.mem_iff.mp N),?_,?_,?_,mZ⟩
    .rw[aA];exact PySem.StrLaws.seqIndex_nonneg (by omega) (by omega)
    .rw[aA];exact bI (show t.length<1000 by omega) (by decide)
    .rw[mQ ar,mZ,Rm]
    .exact (a3.upd_other X.1 X.2).upd_other G.1 G.2
    .exact λb o e g1 g2=>by rw[mQ (nN e ac),mQ (nN e z9)];exact aq b o (ao b o e g1 g2) g1 g2
   .rintro ys W ⟨t,M,rfl,an,bb,J,hg,aa,ag,ao,Z⟩;rw[aA,cP] at an;exact k R t W ac Z (by omega) (List.Nodup.sublist (List.sublist_append_left t M) J) (λx N=>hg x (aT _ N)) ag ao
end
noncomputable def Sn:Aa Af:=["and","or","odd"]
structure ArOk (w:Str) (n:Nat):Prop where
 ok:(w∈Sn/\(n=2\/n=3))\/(w = "most" /\ n=3)\/(w = "not" /\ n=1)\/(w = "one" /\ n=0)\/(w = "nil" /\ n=0)
structure Cel where
 ins:List Str
 gates:List (Str×Str×List Str)
 outs:List Str
def Cel.names (C:Cel):Aa Af:=C.ins++C.gates.map (·.1)
def MW (H:Hp) (a:Ad) (g:Af×Af×Aa Af):Prop:=∃ q,H a=some (.t [.str g.1,.str g.2.1,.ref q])/\H q=some (.t (g.2.2.map V.str))
abbrev XA (H:Hp):Aa Ad->Aa (Af×Af×Aa Af)->Prop:=Paired (MW H)
def oO:Aa Af->Aa (Af×Af×Aa Af)->Prop
 | _,[]=>True
 | kn,g::r=>ArOk g.2.1 g.2.2.length/\(∀ p∈g.2.2,p∈kn)/\oO (kn++[g.1]) r
theorem oO.snoc:∀ {j:Aa (Af×Af×Aa Af)}{kn:Aa Af}{g:Af×Af×Aa Af},oO kn j->ArOk g.2.1 g.2.2.length->(∀ p∈g.2.2,p∈kn++j.map (·.1))->oO kn (j++[g])
 | [],kn,g,_,b,c=>⟨b,by simpa using c,True.intro⟩
 | a::r,kn,g,h,b,c=>⟨h.1,h.2.1,oO.snoc h.2.2 b (by simpa using c)⟩
structure Good (C:Cel):Prop where
 nd:C.names.Nodup
 nm:∀ x∈C.names,GoodName x
 gt:oO C.ins C.gates
 os:∀ o∈C.outs,o∈C.names
 ond:C.outs.Nodup
 li:C.ins.length<=6
 lg:C.gates.length<=24
 lo:C.outs.length<=6
def A9:RD:=λa b e=>∃ (d c:Ad) (m:Int),a=[d,c]/\b=[.r (.ref d),.int m]/\0<m/\m<4611686018427387904/\∀ r:Nat,(r:Int)<m->e (.v (.int r))
def Pt:RD:=λb e f=>∃ (d c:Ad) (m:Nat),b=[d,c]/\e=[.r (.ref d),.int m]/\m<=40/\∀ a:Aa Af,a.length=m->a.Nodup->(∀ x∈a,GoodName x)->f (.o (.l (a.map D.str)))
theorem L8 (h:Dk [d,c] H):DeckAt H d c:=by
 rcases h with h | ⟨b,a,e,h⟩
 .cases h
 .cases e;exact h
theorem Wh (k:nS d c H g):Bw [d,c] H g:=λb o e n=>k b o e (λz=>n (by simp[z])) (λz=>n (by simp[z]))
theorem QY (D:DeckAt H d c) (h:H l=none):l∉[d,c]:=λz=>by
 have:=D.ned h;rcases aO.mp z with q | q
 .exact this.1 q
 .exact this.2 (by simpa using q)
section
variable {P:Ah}{K:mH}
theorem RY (F:FnOk P w K g base pG k f fd j F5):FnOk P w K g base pG k f fd j (yT K A9):=F.imp λN H Q E y=>by
 obtain⟨G,A,L,O,e,M,r,⟨d,c,m,s,t,u,v,h⟩,x⟩:=y;subst s t;cases r with
 | cons B r =>
  cases r with
  | cons D r =>
   cases r;have:=B.raw_inv;have:=D.int_inv;subst_vars;refine⟨d,c,m,rfl,L8 e,u,v,λr q a b i z=>?_⟩;obtain⟨n,rfl⟩:=eF a;exact x _ _ q (h n b) (Wh z) (.inr ⟨d,c,rfl,i⟩) (.int _)
theorem WD (F:FnOk P w K g base pG k f fd j Yo):FnOk P w K g base pG k f fd j (yT K Pt):=F.imp λR H Q E z=>by
 obtain⟨M,A,N,S,a,O,r,⟨d,c,m,t,u,x,h⟩,y⟩:=z;subst t u;cases r with
 | cons G r =>
  cases r with
  | cons L r =>
   cases r;have:=G.raw_inv;have:=L.int_inv;subst_vars;exact⟨d,c,m,rfl,L8 a,x,λl n s i b e D v q B=>y _ _ s (h n e D v) (Wh B) (.inr ⟨d,c,rfl,q⟩) ⟨l,rfl,i,QY (L8 a) i,_,b,M8 n⟩⟩
end
theorem PZ (f:j->D) (g:Aa j) (k:Nat):tS (g.map f) none (some (k:Int))=(g.take k).map f:=by
 unfold tS;rw[aA,HT.sIx_none,HT.sIx_nat,lK,Nat.sub_zero,List.map_take];by_cases h:k<=g.length
 .rw[mE h]
 .rw[Nat.min_eq_right (by omega),bL (by simp),bL (by simp;omega)]
theorem FR (f:j->D) (g:Aa j) (k:Nat):tS (g.map f) (some (k:Int)) none=(g.drop k).map f:=by
 unfold tS;rw[aA,HT.sIx_nat,HT.sIx_none,List.map_drop,bL (by simp)];by_cases h:k<=g.length
 .rw[mE h]
 .rw[Nat.min_eq_right (by omega),List.drop_eq_nil_of_le (by simp),List.drop_eq_nil_of_le (by simp;omega)]
noncomputable def vN (g:Af×Af×Aa Af):D:=.t [.str g.1,.str g.2.1,.t (g.2.2.map D.str)]
def wG (C:Cel):D:=.t [.t (C.ins.map D.str),.t (C.gates.map vN),.t (C.outs.map D.str)]
def tT (p:Af×Af):D:=.t [.str p.1,.str p.2]
def Jh (C:Cel) (al:Aa (Af×Af)):D:=.t [wG C,.t (al.map tT)]
structure GoodRow (C:Cel) (al:List (Str×Str)):Prop where
 good:Good C
 og:∀ o∈C.outs,o∈C.gates.map (·.1)
 n1:(al.map (·.1)).Nodup
 n2:(al.map (·.2)).Nodup
 mem:∀ p∈al,p.1∈C.outs/\p.2∈C.ins
 la:al.length<=4
theorem mJ (I:Aa Sl->Prop) (o:∀ N:Aa Sl->Prop,(∀ g,I g->N g)->t l { j with nx:=N } r) (p:∀ g,I g->u l j g):J9 t u l j r:=o _ p
theorem qH (p:Aa D) (l:Aa Sl) (r:∀ J:Aa D->Aa Sl->Prop,J p l->ι I ρ J) (Pv:Nat->Aa Sl->Prop) (T:Pv 0 l)
  (U:∀ (i:Nat) d j,p[i]?=some d->Pv i j->g d j λC=>tb I { nx:=Pv (i+1),ct:=Pv (i+1),bk:=o.nx,rt:=o.rt } C) (hd:∀ j,Pv p.length j->o.nx j):T0 ι g tb I o ρ:=r _ ⟨Pv,T,U,hd⟩
theorem tI {j:Type}{f:j->D}{g:Aa j}{i:Nat}{d:D}(h:(g.map f)[i]?=some d):∃ y,g[i]?=some y/\f y=d:=by
 rw[bC] at h;cases e:g[i]? with
 | none=>rw[e] at h;cases h
 | some y=>rw[e] at h;exact⟨y,rfl,bU h⟩
theorem Iu {lo:Int}(h:(rH lo n)[i]?=some d):i<n/\d = .int (lo+i):=by
 unfold rH at h;rw[bC] at h;cases e:(List.range n)[i]? with
 | none=>rw[e] at h;cases h
 | some y =>
  rw[e] at h;obtain⟨a,b⟩:=aX.mp e;rw[cP] at a;rw[iH] at b;subst b;exact⟨a,(bU h).symm⟩
theorem Xw:∀ {l:Aa g}{n:Nat}{y:g},l[n]?=some y->l.Perm (y::l.eraseIdx n)
 | a::l,0,y,h=>by simp at h;subst h;exact .refl _
 | a::l,n+1,y,h=>by
  have:=Xw (l:=l) (n:=n) (y:=y) (by simpa using h);rw[List.eraseIdx_cons_succ];exact (this.cons a).trans (.swap y a _)
theorem NF {n k:Nat}(h:k<n):seqIndex? (k:Int) n=some k:=by
 unfold seqIndex?;have:¬ ((k:Int)<0):=by omega
 simp[this,h]
end Lw
namespace L2
open PySem PySem.Spec PyProof.Rows Lw
section
variable {X:Cx}{K:mH}
def Lj (K:mH) (neg:Bool):R2:=λx y H Q=>Li neg x y H Q\/Oi K neg x y H Q
theorem xZ (g:X.A.units+64<cLine):nC X (compareOp .Eq) (Lj X.K false):=(show nC X (compareOp .Eq) (Li false) from Ht).or (Q5 g)
theorem wT (g:X.A.units+64<cLine):nC X (compareOp .NotEq) (Lj X.K true):=(show nC X (compareOp .NotEq) (Li true) from JR).or (BZ g)
def Qt (neg:Bool):O2:=λd e a=>match d,e with
 | .int i,.int j=>a (.v (.b (nb neg (decide (i=j)))))
 | .str i,.str j=>a (.v (.b (nb neg (decide (i=j)))))
 | .b i,.b j=>a (.v (.b (nb neg (decide (i=j)))))
 | .e,.int _=>a (.v (.b (nb neg false)))
 | .l c,.l []=>a (.v (.b (nb neg c.isEmpty)))
 | _,_=>False
theorem rN (neg:Bool):oY K (Lj K neg) (Qt neg):=by
 intro B L H d e x y A Q hd h m f k;cases d<;>first | exact False.elim f | skip<;>cases e<;>first | exact False.elim f | skip
 .cases h;cases m
  rename_i j
  have c:decide (V.e=V.int j)=false:=by simp
  exact .inl ⟨rfl,by rw[c];exact k _ _ H f (hd.pushF (.b _))⟩
 .cases h;cases m
  rename_i i j
  have c:decide (V.b i=V.b j)=decide (i=j):=by simp
  exact .inl ⟨rfl,by rw[c];exact k _ _ H f (hd.pushF (.b _))⟩
 .cases h;cases m
  rename_i i j
  have c:decide (V.int i=V.int j)=decide (i=j):=by simp
  exact .inl ⟨rfl,by rw[c];exact k _ _ H f (hd.pushF (.b _))⟩
 .cases h;cases m
  rename_i i j
  have c:decide (V.str i=V.str j)=decide (i=j):=by simp
  exact .inl ⟨rfl,by rw[c];exact k _ _ H f (hd.pushF (.b _))⟩
 .rename_i v w
  cases w with
  | cons _ _=>exact False.elim f
  | nil =>
  obtain⟨a,n,rfl,q,t⟩:=h.lst_inv;obtain⟨b,z,rfl,s,u⟩:=m.lst_inv;cases u;have c:v.isEmpty=n.isEmpty:=by cases t<;>rfl
  refine .inr ⟨a,b,n,rfl,rfl,mK.of q,mK.of s,?_⟩;rw[<- c];exact k _ _ H f (hd.pushF (.b _))
end
end L2
namespace Lw
open PySem L2
theorem L3:∀ {gs:Aw}{kn:Aa Af}{i:Nat}{g:Af×Af×Aa Af},oO kn gs->gs[i]?=some g->ArOk g.2.1 g.2.2.length/\∀ p∈g.2.2,p∈kn++(gs.take i).map (·.1)
 | a::r,kn,0,g,h,e=>by
  simp at e;subst e;exact⟨h.1,by simpa using h.2.1⟩
 | a::r,kn,i+1,g,h,e=>by
  obtain⟨b,c⟩:=L3 (gs:=r) (i:=i) h.2.2 (by simpa using e);exact⟨b,λp d=>by have:=c p d;simpa using this⟩
def M4:RD:=λf b h=>∃ (d c:Ad) (a:Aa D),f=[d,c]/\(b=[.r (.ref d),.l a]\/b=[.r (.ref d),.t a])/\a.length<=1000/\∀ e,e.Perm a->h (.v (.l e))
def yU (z:Af):Aa Af:=(Txt.split z " ").filter λx=>nb true (decide (x = ""))
def Vq:RD:=λc a b=>∃ z:Af,a=[.str z]/\z.length<=1000/\(Txt.split z " ").length<=1000/\b (.o (.l ((yU z).map D.str)))
structure Kit where
 ins:Str
 gates:List Str
 outs:Str
 pairs:Str
 nums:Str
noncomputable def tH (k:Kit):D:=.t [.str k.ins,.l (k.gates.map D.str),.str k.outs,.str k.pairs,.str k.nums]
noncomputable def pJ:Aa Kit:=[⟨"a b c",[("s " : Af) ++ "odd a b c",("t " : Af) ++ "most a b c"],"s t","t c","a 1 b 1 s -1 c 1"⟩,⟨"a b c",["n not a","s odd a b c","t most n b c"],"s t","t c","a 1 b -1 s -1 c -1"⟩,⟨"a c",["s odd a c","t and a c"],"s t","t c","a 1 s -1 c 1"⟩,⟨"a c",["s and c c","t and a a"],"s t","t c","a 2 s -1 c 1"⟩,⟨"a",["s not a"],"s","","a 1 s 1 - -1"⟩,⟨"a b c",[("s " : Af) ++ "odd a b c",("t " : Af) ++ "most a b c"],"s t","","a 1 b 1 c 1 s -1 t -2"⟩,⟨"a c d",["s odd a d c","t most a d c","e and a a"],"s t e","t c e d","a 3 s -1 c 1 d 1"⟩,⟨"a b x c d",["s odd a b c","t most a b c","z odd s x d","u most s x d"],"z t u","t c u d","a 1 b 1 x 1 z -1 c 1 d 1"⟩,⟨"a",["s nil","t or a s"],"s t","","s 5 a -2 t 2"⟩,⟨"a b",["s and a b","t or a b"],"s t","","a 1 b 1 s -1 t -1"⟩]
def uP:D:=.t [.str "odd a b c",.str "most a b c"]
def Pp:RD:=λa b e=>∃ d c:Ad,a=[d,c]/\b=[.r (.ref d)]/\∀ k∈pJ,e (.v (tH k))
theorem LH:(["word"]:Aa Af).Nodup:=by decide +kernel
section
variable {P:Ah}{K:mH}
theorem oB {P:Aa Af}(a:j.kind = .function:=by rfl) (b:j.isCoroutine=false:=by rfl) (c:j.isGenerator=false:=by rfl) (d:N.Nodup:=by decide +kernel) (e:N.take P.length=P:=by rfl) (f:∀ x∈P,j.names.lookup x=some .local\/j.names.lookup x=some .cell:=by decide +kernel) (g:∀ y∈j.names,y.2 ≠ .free:=by decide +kernel):L2.FnScope N P j:=⟨a,b,c,d,e,f,g⟩
theorem Nk:FnScope ["deck","some","left","found"] ["deck","some"] (nA Dm):=oB
theorem NS (T:Txt p) (g:Kn P w K p base 1 "_law_take" yJ ["deck","many"] A9) :
  nZ P w K p base 2 "_law_shuffled" Dm ["deck","some"] M4:=by
 refine oK (hlen:=λO B W ⟨_,_,_,_,e,_⟩=>by rcases e with e | e<;>(rw[e];rfl)) Nk λf M A z s H E O B W G Y Q=>?_
 obtain⟨d,c,i,rfl,e,X,u⟩:=Q;obtain⟨x,rfl,V⟩:∃ x,B=[.r (.ref d),x]/\(x = .l i\/x = .t i):=by
  rcases e with e | e
  .exact⟨_,e,.inl rfl⟩
  .exact⟨_,e,.inr rfl⟩
 refine⟨_,(hO (mY 2 Nk.nd (pN Yq Vb T.list jY (aD (dK 1) gD))) (hO (mY 3 Nk.nd (oW gD)) (hO (Qv iK (wR (wT G.units) (rN true) (pv 2) (oW gD)) (mW (rP (sZ bT bZ cA tX uY (pv 3) (aD (sZ bT PySem.F.slot_list_pop PySem.F.type_list_pop Ud KN (pv 2) (aD (mT g G (aD (dK 0) (aD (oM sH rX T.len cG (Av (pv 2) gD)) gD))) gD)) gD))))) (mW (nH (dK 3)))))),?_⟩;refine mJ (λb=>b=[.v (.r (.ref d)),.v x,.o (.l i),.n]) (λN m=>?_) ?_
 .rcases V with rfl | rfl
  .exact⟨_,rfl,m _ rfl⟩
  .exact⟨_,rfl,m _ rfl⟩
 rintro _ rfl;refine⟨by show 0<=1000;decide,?_⟩;dsimp only;refine mJ (λb=>∃ (q:Aa D),b=[.v (.r (.ref d)),.v x,.o (.l []),.o (.l q)]/\q.Perm i) (λN m=>?_) ?_
 .refine⟨λb=>∃ left found:Aa D,b=[.v (.r (.ref d)),.v x,.o (.l left),.o (.l found)]/\(found++left).Perm i,λ(b:Aa Sl)=>match b[2]? with | some (Sl.o (D.l l))=>l.length | _=>0,⟨i,[],rfl,.refl _⟩,?_⟩;rintro b ⟨left,found,rfl,k⟩;have h:=k.length_eq;rw[bF] at h;refine⟨rfl,by show 0<=1000;decide,?_⟩;cases left with
  | nil=>exact m _ ⟨found,rfl,by simpa using k⟩
  | cons x left =>
   rw[bQ] at h;refine⟨rfl,rfl,rfl,rfl,_,rfl,d,c,_,rfl,rfl,by show (0:Int)<((x::left).length:Nat);simp only[bQ];omega,by show ((x::left).length:Int)<4611686018427387904;simp only[bQ];omega,λj R=>⟨.inr rfl,?_⟩⟩;have a:j<(x::left).length:=by have:(j:Int)<((x::left).length:Nat):=R;omega
   obtain⟨y,L⟩:∃ y,(x::left)[j]?=some y:=⟨_,aH a⟩;have S:=List.length_eraseIdx_of_lt a;refine⟨j,y,by simp only[bQ] at a;omega,by simp only[bQ] at a;omega,NF a,L,by show found.length<100000;omega,⟨(x::left).eraseIdx j,found++[y],rfl,?_⟩,?_⟩
   .rw[bJ];exact ((Xw L).symm.append_left found).trans k
   .show ((x::left).eraseIdx j).length<(x::left).length;omega
 .rintro b ⟨q,rfl,k⟩;exact u q k
theorem SK:FnScope ["text"] ["text"] (nA Jm):=oB
theorem KO (T:Txt g):nZ P w K g base 1 "_law_words" Jm ["text"] Vq:=by
 refine oK SK λf c A b s H E B G O u M n=>?_
 obtain⟨z,rfl,L,t,a⟩:=n;refine⟨_,(mW (nH (nY ["word"] [] [] (nE (OO PySem.F.plainAttrs_str iF PySem.F.type_str_split NT WV (pv 0) (aD mS gD))) (λ_ _ _ _ _=>(mO 0 LH)) (λ_ _ _ _ _=>(dK 0)) (ht:=λ_ _ _ _ _=>(vP (wR (wT u.units) (rN true) (pv 0) mS)))))),?_⟩;refine vA (Txt.split z " ") D.str D.str (λx=>nb true (decide (x = ""))) [.v (.str z)] (λQ h=>⟨rfl,by decide,by omega,h⟩) ?_ (λi x N y e d k m=>⟨rfl,?_⟩) a
 .omega
 .show if (nb true (decide (x = "")))=true then _ else _
  cases q:decide (x = "") with
  | true=>exact m (by rw[q];rfl)
  | false=>exact⟨d,k (by rw[q];rfl)⟩
theorem E4:FnScope ["deck","adder","some","more"] ["deck"] (nA Ii):=oB
theorem SV (T:Txt j) (g:Kn P w K j base 1 "_law_take" yJ ["deck","many"] A9) :
  nZ P w K j base 2 "_law_kit" Ii ["deck"] Pp:=by
 refine oK E4 λf t A m s H E z B D x e u=>?_
 obtain⟨d,c,rfl,rfl,i⟩:=u;refine⟨_,(hO (mY 1 E4.nd (nV (aD mS (aD mS gD)))) (hO (mY 2 E4.nd (oW (aD (nV (aD mS (aD (oW (aD (oE qP qX mS (mP e 1 hL)) (aD (oE qP qX mS (mP e 1 hL)) gD))) (aD mS (aD mS (aD mS gD)))))) gD))) (hO (rP (sZ bT bZ cA tX uY (pv 2) (aD (nV (aD mS (aD (oW (aD mS (aD mS (aD mS gD)))) (aD mS (aD mS (aD mS gD)))))) gD))) (hO (rP (sZ bT bZ cA tX uY (pv 2) (aD (nV (aD mS (aD (oW (aD mS (aD mS gD))) (aD mS (aD mS (aD mS gD)))))) gD))) (hO (rP (sZ bT bZ cA tX uY (pv 2) (aD (nV (aD mS (aD (oW (aD mS (aD mS gD))) (aD mS (aD mS (aD mS gD)))))) gD))) (hO (rP (sZ bT bZ cA tX uY (pv 2) (aD (nV (aD mS (aD (oW (aD mS gD)) (aD mS (aD mS (aD mS gD)))))) gD))) (hO (rP (sZ bT bZ cA tX uY (pv 2) (aD (nV (aD mS (aD (oW (aD (oE qP qX mS (mP e 1 hL)) (aD (oE qP qX mS (mP e 1 hL)) gD))) (aD mS (aD mS (aD mS gD)))))) gD))) (hO (mY 3 E4.nd (oW (aD mS (aD mS (aD mS gD))))) (hO (rP (sZ bT bZ cA tX uY (pv 2) (aD (nV (aD mS (aD (dK 3) (aD mS (aD mS (aD mS gD)))))) gD))) (hO (mY 3 E4.nd (oW (aD mS (aD mS (aD mS (aD mS gD)))))) (hO (rP (sZ bT bZ cA tX uY (pv 2) (aD (nV (aD mS (aD (dK 3) (aD mS (aD mS (aD mS gD)))))) gD))) (hO (rP (sZ bT bZ cA tX uY (pv 2) (aD (nV (aD mS (aD (oW (aD mS (aD mS gD))) (aD mS (aD mS (aD mS gD)))))) gD))) (hO (rP (sZ bT bZ cA tX uY (pv 2) (aD (nV (aD mS (aD (oW (aD mS (aD mS gD))) (aD mS (aD mS (aD mS gD)))))) gD))) (mW (nH (mP e 2 (mT g x (aD (dK 0) (aD hL gD))))))))))))))))))),?_⟩;refine mJ (λb=>b=[.v (.r (.ref d)),.v uP,.n,.n]) (λN a=>⟨(by show 2<=1000;decide),a _ rfl⟩) ?_;rintro _ rfl;refine mJ (λb=>b=[.v (.r (.ref d)),.v uP,.o (.l ((pJ.take 1).map tH)),.n]) (λN a=>⟨rfl,_,rfl,(by decide +kernel),rfl,_,rfl,(by decide +kernel),(by show 2<=1000;decide),(by show 5<=1000;decide),(by show 1<=1000;decide),a _ rfl⟩) ?_;rintro _ rfl;refine mJ (λb=>b=[.v (.r (.ref d)),.v uP,.o (.l ((pJ.take 2).map tH)),.n]) (λN a=>⟨rfl,(by show 3<=1000;decide),(by show 5<=1000;decide),(by show 1<100000;decide),a _ rfl⟩) ?_;rintro _ rfl;refine mJ (λb=>b=[.v (.r (.ref d)),.v uP,.o (.l ((pJ.take 3).map tH)),.n]) (λN a=>⟨rfl,(by show 2<=1000;decide),(by show 5<=1000;decide),(by show 2<100000;decide),a _ rfl⟩) ?_;rintro _ rfl;refine mJ (λb=>b=[.v (.r (.ref d)),.v uP,.o (.l ((pJ.take 4).map tH)),.n]) (λN a=>⟨rfl,(by show 2<=1000;decide),(by show 5<=1000;decide),(by show 3<100000;decide),a _ rfl⟩) ?_;rintro _ rfl;refine mJ (λb=>b=[.v (.r (.ref d)),.v uP,.o (.l ((pJ.take 5).map tH)),.n]) (λN a=>⟨rfl,(by show 1<=1000;decide),(by show 5<=1000;decide),(by show 4<100000;decide),a _ rfl⟩) ?_;rintro _ rfl;refine mJ (λb=>b=[.v (.r (.ref d)),.v uP,.o (.l ((pJ.take 6).map tH)),.n]) (λN a=>⟨rfl,rfl,_,rfl,(by decide +kernel),rfl,_,rfl,(by decide +kernel),(by show 2<=1000;decide),(by show 5<=1000;decide),(by show 5<100000;decide),a _ rfl⟩) ?_;rintro _ rfl;refine mJ (λb=>b=[.v (.r (.ref d)),.v uP,.o (.l ((pJ.take 6).map tH)),.o (.l [.str "s odd a d c",.str "t most a d c",.str "e and a a"])]) (λN a=>⟨(by show 3<=1000;decide),a _ rfl⟩) ?_;rintro _ rfl;refine mJ (λb=>b=[.v (.r (.ref d)),.v uP,.o (.l ((pJ.take 7).map tH)),.v (.l [.str "s odd a d c",.str "t most a d c",.str "e and a a"])]) (λN a=>⟨rfl,(by show 5<=1000;decide),(by show 6<100000;decide),a _ rfl⟩) ?_;rintro _ rfl;refine mJ (λb=>b=[.v (.r (.ref d)),.v uP,.o (.l ((pJ.take 7).map tH)),.o (.l [.str "s odd a b c",.str "t most a b c",.str "z odd s x d",.str "u most s x d"])]) (λN a=>⟨(by show 4<=1000;decide),a _ rfl⟩) ?_;rintro _ rfl;refine mJ (λb=>b=[.v (.r (.ref d)),.v uP,.o (.l ((pJ.take 8).map tH)),.v (.l [.str "s odd a b c",.str "t most a b c",.str "z odd s x d",.str "u most s x d"])]) (λN a=>⟨rfl,(by show 5<=1000;decide),(by show 7<100000;decide),a _ rfl⟩) ?_;rintro _ rfl;refine mJ (λb=>b=[.v (.r (.ref d)),.v uP,.o (.l ((pJ.take 9).map tH)),.v (.l [.str "s odd a b c",.str "t most a b c",.str "z odd s x d",.str "u most s x d"])]) (λN a=>⟨rfl,(by show 2<=1000;decide),(by show 5<=1000;decide),(by show 8<100000;decide),a _ rfl⟩) ?_;rintro _ rfl;refine mJ (λb=>b=[.v (.r (.ref d)),.v uP,.o (.l ((pJ.take 10).map tH)),.v (.l [.str "s odd a b c",.str "t most a b c",.str "z odd s x d",.str "u most s x d"])]) (λN a=>⟨rfl,(by show 2<=1000;decide),(by show 5<=1000;decide),(by show 9<100000;decide),a _ rfl⟩) ?_;rintro _ rfl;refine⟨rfl,d,c,10,rfl,rfl,by decide,by decide,λr y=>⟨.inl rfl,?_⟩⟩;have h:r<10:=by omega
 obtain⟨k,q⟩:∃ k,pJ[r]?=some k:=⟨_,aH (by show r<10;exact h)⟩;refine⟨tH k,?_,i k (aL q)⟩;exact pB (by rw[bC,bL (by decide),q];rfl)
end
def nB (l:Aa Af):Af×Af×Aa Af:=(l.headD "",(l.drop 1).headD "",l.drop 2)
def K7 (w:Af) (n:Nat):Bool:=(decide (w∈Sn)&&(n == 2||n == 3))||((w == "most")&&(n == 3))||((w == "not")&&(n == 1))||((w == "one")&&(n == 0))||((w == "nil")&&(n == 0))
theorem RX (h:K7 w n=true):ArOk w n:=by
 unfold K7 at h;simp only[mD,cE,dQ,iR] at h;rcases h with (((h | h) | h) | h) | h
 .exact⟨.inl h⟩
 .exact⟨.inr (.inl h)⟩
 .exact⟨.inr (.inr (.inl h))⟩
 .exact⟨.inr (.inr (.inr (.inl h)))⟩
 .exact⟨.inr (.inr (.inr (.inr h)))⟩
def F4:Aa Af->Aw->Bool
 | _,[]=>true
 | kn,g::r=>K7 g.2.1 g.2.2.length&&(g.2.2.all (λp=>decide (p∈kn))&&F4 (kn++[g.1]) r)
theorem Pf:∀ {j:Aw}{kn:Aa Af},F4 kn j=true->oO kn j
 | [],_,_=>trivial
 | g::r,kn,h=>by
  unfold F4 at h;simp only[cE,cF,dQ] at h;exact⟨RX h.1,h.2.1,Pf h.2.2⟩
theorem oO.more:∀ {l:Aw}{kn j:Aa Af},(∀ x∈kn,x∈j)->oO kn l->oO j l
 | [],_,_,_,_=>trivial
 | g::r,kn,j,h,ok=>⟨ok.1,λp a=>h p (ok.2.1 p a),oO.more (λx b=>by
  rcases aU.mp b with q | q
  .exact aT _ (h x q)
  .exact aN _ q) ok.2.2⟩
noncomputable def ren (f:Af->Af) (g:Af×Af×Aa Af):Af×Af×Aa Af:=(f g.1,g.2.1,g.2.2.map f)
theorem oO.ren (f:Af->Af):∀ {j:Aw}{kn:Aa Af},oO kn j->oO (kn.map f) (j.map (Lw.ren f))
 | [],_,_=>trivial
 | g::r,kn,ok=>by
  refine⟨by show ArOk g.2.1 (g.2.2.map f).length;rw[aA];exact ok.1,λp a=>?_,?_⟩
  .obtain⟨q,b,rfl⟩:=aI.mp a;exact aI.mpr ⟨q,ok.2.1 q b,rfl⟩
  .have:=oO.ren f ok.2.2;rw[aQ] at this;exact this
theorem oO.app:∀ {l j:Aw}{kn:Aa Af},oO kn l->oO (kn++l.map (·.1)) j->oO kn (l++j)
 | [],j,kn,_,h=>by simpa using h
 | g::r,j,kn,ok,h=>⟨ok.1,ok.2.1,oO.app ok.2.2 (by simpa using h)⟩
def kI (k:Kit):Aa Af:=yU k.ins
def kO (k:Kit):Aa Af:=yU k.outs
def kP (k:Kit):Aa Af:=yU k.pairs
def kN (k:Kit):Aa Af:=yU k.nums
def kG (k:Kit):Aa (Aa Af):=k.gates.map yU
def kH (k:Kit):Aa Af:=(kG k).map λl=>(nB l).1
def Xn (k:Kit):Bool :=
 (k.ins::k.outs::k.pairs::k.nums::k.gates).all (λz=>decide (z.length<=1000)&&decide ((Txt.split z " ").length<=1000)) &&
 ((kG k).all (λl=>decide (2<=l.length)) && (decide ((kI k++kH k).Nodup) && ((kI k++kH k).all (λx=>decide (x.length=1)&&decide (x ≠ "-")) && (F4 (kI k) ((kG k).map nB) && ((kO k).all (λo=>decide (o∈kH k)) && (decide (kO k).Nodup && (decide ((kP k).length%2=0) && ((nI (kP k)).all (λp=>decide (p.1∈kO k)&&decide (p.2∈kI k)) && (decide ((nI (kP k)).map (·.1)).Nodup && (decide ((nI (kP k)).map (·.2)).Nodup && (decide ((kN k).length%2=0) && ((nI (kN k)).all (λp=>(decide (p.1∈kI k++kH k)||decide (p.1 = "-"))&&((intText? p.2).isSome&&decide (p.2.length<=640))) && (decide ((kI k).length<=5)&&(decide ((kG k).length<=4)&&(decide ((kO k).length<=3)&&(decide ((kP k).length<=8)&&decide ((kN k).length<=100)))))))))))))))))
structure KitOk (k:Kit):Prop where
 tx:∀ z∈k.ins::k.outs::k.pairs::k.nums::k.gates,z.length<=1000/\(Txt.split z " ").length<=1000
 g2:∀ l∈kG k,2<=l.length
 nd:(kI k++kH k).Nodup
 one:∀ x∈kI k++kH k,x.length=1/\x ≠ "-"
 gt:oO (kI k) ((kG k).map nB)
 oh:∀ o∈kO k,o∈kH k
 ond:(kO k).Nodup
 pe:(kP k).length%2=0
 pm:∀ p∈nI (kP k),p.1∈kO k/\p.2∈kI k
 p1:((nI (kP k)).map (·.1)).Nodup
 p2:((nI (kP k)).map (·.2)).Nodup
 ne:(kN k).length%2=0
 nm:∀ p∈nI (kN k),(p.1∈kI k++kH k\/p.1 = "-")/\(intText? p.2).isSome=true/\p.2.length<=640
 li:(kI k).length<=5
 lg:(kG k).length<=4
 lo:(kO k).length<=3
 lp:(kP k).length<=8
 ln:(kN k).length<=100
theorem DM:pJ.all Xn=true:=by decide +kernel
theorem Cd (h:k∈pJ):KitOk k:=by
 have:=cF.mp DM k h;unfold Xn at this;simp only[cE,cF,dQ,mD] at this;obtain⟨a,b,c,d,e,f,i,m,n,q,s,t,u,v,w,x,y,z⟩:=this;exact⟨a,b,c,d,Pf e,f,i,m,n,q,s,t,u,v,w,x,y,z⟩
noncomputable def oQ (i:Nat):Af:=("i" : Af)++((toString ((0:Int)+(i:Int)):String):Af)
def qD (g:Af) (i:Nat):Aa Af:=if i=0 then [oQ 0,g] else [oQ i,"not",oQ 0]
theorem Du:∀ i<19,(oQ i).length≠1/\oQ i ≠ "-" /\ ∀ j<19,oQ i=oQ j->i=j:=by decide +kernel
theorem Nl (g:Af) (i:Nat):(nB (qD g i)).1=oQ i:=by
 unfold qD;split
 .subst_vars;rfl
 .rfl
theorem JS (g:Af) (i:Nat):2<=(qD g i).length:=by unfold qD;split<;>simp
theorem T2 {g:Af}(h:g = "one" \/ g = "nil") (kn:Aa Af):∀ n,oO kn (((List.range n).map (qD g)).map nB)
 | 0=>trivial
 | n+1=>by
  rw[kX,aQ,aQ];refine oO.snoc (T2 h kn n) ?_ ?_
  .by_cases e:n=0
   .subst e;rcases h with rfl | rfl
    .exact⟨.inr (.inr (.inr (.inl ⟨rfl,rfl⟩)))⟩
    .exact⟨.inr (.inr (.inr (.inr ⟨rfl,rfl⟩)))⟩
   .unfold qD;rw[aM e];exact⟨.inr (.inr (.inl ⟨rfl,rfl⟩))⟩
  .intro p a;by_cases e:n=0
   .subst e;simp[nB,qD] at a
   .have b:p=oQ 0:=by
     unfold qD at a;rw[aM e] at a
     simpa [nB] using a
    subst b;refine aN _ ?_;rw[aJ,aJ];refine aI.mpr ⟨0,eJ.mpr (by omega),Nl g 0⟩
def qJ (l:Aa Af):D:=.l (l.map D.str)
theorem Bj (h:x∈t.map (·.1)):yE (.k (nU t)) (.str x)=some (some (.str (mU t x))):=by
 show some (mN (nU t) (Sum.inr x))=_;rw[(Ey t x).1 h]
theorem L0 {l:Aa Af}(h:2<=l.length):oV (l.map D.str) 0=some (.str (nB l).1)/\oV (l.map D.str) 1=some (.str (nB l).2.1):=by
 match l,h with
 | a::b::r,_ =>
  constructor
  .exact pB (j:=0) rfl
  .exact pB (j:=1) rfl
theorem P2:∀ {l:Aa Af}{g:Aa D},g.Perm (l.map D.str)->∃ j:Aa Af,j.Perm l/\g=j.map D.str:=by
 intro l g h;have key:∀ (g:Aa D),(∀ y∈g,∃ x:Af,y=D.str x)->∃ j:Aa Af,g=j.map D.str:=by
  intro g;induction g with
  | nil=>exact λ_=>⟨[],rfl⟩
  | cons y g c =>
   intro h;obtain⟨x,rfl⟩:=h y aF;obtain⟨j,rfl⟩:=c λz b=>h z (aP _ b)
   exact⟨x::j,rfl⟩
 obtain⟨j,rfl⟩:=key g λy a=>by
  obtain⟨x,_,rfl⟩:=aI.mp (h.mem_iff.mp a);exact⟨x,rfl⟩
 refine⟨j,?_,rfl⟩;have:=h.map (λd=>match d with | D.str x=>x | _=>("" : Af))
 simpa [cJ] using this
theorem Ya (h:ys.Perm (xs.map tT)):∃ g:Aa (Af×Af),g.Perm xs/\ys=g.map tT:=by
 have key:∀ (ys:Aa D),(∀ y∈ys,∃ x:Af×Af,y=tT x)->∃ g:Aa (Af×Af),ys=g.map tT:=by
  intro ys;induction ys with
  | nil=>exact λ_=>⟨[],rfl⟩
  | cons y ys c =>
   intro h;obtain⟨x,rfl⟩:=h y aF;obtain⟨g,rfl⟩:=c λz b=>h z (aP _ b)
   exact⟨x::g,rfl⟩
 obtain⟨g,rfl⟩:=key ys λy a=>by
  obtain⟨x,_,rfl⟩:=aI.mp (h.mem_iff.mp a);exact⟨x,rfl⟩
 refine⟨g,?_,rfl⟩;have:=h.map (λd=>match d with | D.t [D.str x,D.str y]=>(x,y) | _=>(("" : Af),("" : Af)))
 simpa [cJ,tT] using this
theorem FX (l:Aa g) (d:g) (h:g->j):(List.range l.length).map (λi=>h (l.getD i d))=l.map h:=by
 apply jX;intro i;rw[bC,bC];by_cases a:i<l.length
 .rw[List.getElem?_range a,aH a];simp[List.getD,aH a]
 .rw[fN (by simpa using a),fN (by omega)];rfl
theorem AR (f:Nat->D) (n:Nat):tS ((List.range n).map f) (some (-1)) none=if n=0 then [] else [f (n-1)]:=by
 unfold tS;rw[HT.sIx_none,aA,cP];have e:HT.sIx n 0 (some (-1))=n-1:=by
  show (if (-1:Int)<0 then ((-1:Int)+(n:Int)).toNat else min (-1:Int).toNat n)=n-1;rw[aR (by decide)];omega
 rw[e];split
 .subst_vars;rfl
 .obtain⟨m,rfl⟩:∃ m,n=m+1:=⟨n-1,by omega⟩;rw[kX,aQ,Nat.add_sub_cancel,List.drop_left' (by simp)];simp
theorem W8:∀ i<19,((0:Int)+(i:Nat)).natAbs.log2<1920/\("i" : Af).length+((toString ((0:Int)+(i:Nat)):String):Af).length<=100000:=by decide +kernel
theorem Hw {n:Nat}{j:Aa Nat}{g:uD}{te:nF}{dk:Aa Ad}{Φ:Sl->Aa Sl->Prop}{α:Type}(U:Aa α) (I T:α->D) (p:Aa Sl) (hl:U.length<=100000)
  (hs:∀ (i:Nat) x (C:Aa D) (Nx:Aa D->Aa Sl->Prop),U[i]?=some x->C.length<100000->Nx (C++[T x]) (oP j p)->g (I x) (List.replicate n Sl.n++oP j p) λaa=>te dk aa λr ab=>match sd r with
   | some c=>C.length<100000/\Nx (C++[c]) (ab.drop n)
   | none=>False)
  (ae:Φ (.o (.l (U.map T))) (pU j (oP j p) p)):∃ Pv:Nat->Aa D->Aa Sl->Prop,Pv 0 [] (oP j p) /\
   (∀ i d C J,(U.map I)[i]?=some d->J.length=j.length->Pv i C J->g d (List.replicate n Sl.n++J) λaa=>G7 dk aa λb ac=>if b=true then te dk ac λr ab=>match sd r with
    | some c=>C.length<100000/\Pv (i+1) (C++[c]) (ab.drop n)
    | none=>False
    else Pv (i+1) C (ac.drop n)) /\
   ∀ C J,J.length=j.length->Pv (U.map I).length C J->Φ (.o (.l C)) (pU j J p) :=
 oN (ι:=λ_ _ a=>a (U.map I) p) (dk:=dk) (ρ:=[]) U I T p (λa h=>h) hl hs ae
end Lw
namespace L2
open PySem PySem.Spec PyProof.Rows Lw
def S4:RM:=λx d H Q=>∃ (a b:Ad) (c more:Aa (dT×V)),x = .ref a/\d=[.ref b]/\a≠b/\H a=some (.k c)/\H b=some (.k more)/\c.length+more.length<=1000/\Q .e (upd H a (.k (rY c more)))
section
variable {X:Cx}{K:mH}
theorem W2:xN X "dict.update" S4:=by
 intro n s Z H x V v S Q I G E h;obtain⟨a,b,c,more,rfl,rfl,ne,m,B,O,q⟩:=h;cases G;obtain⟨u,rfl,D⟩:=qC E;cases D;obtain⟨W,L,i,t,k⟩:=Fc I.hok m;obtain⟨Y,M,f,y,z⟩:=Fc I.hok B;have P:c.length=i.length:=eU t;have R:more.length=f.length:=eU y;have d:i.length+f.length<=sizeLine:=bN (show _<=1000 by omega) (by decide);refine call_meetsIn F.slot_dict_update k.typeIs F.entry_dict_update (F.args_dict_update_2 _ _) (meets_dict_update (pK X.prog X.w) a b ne M) ⟨i,f,k,z,d,λA d1 _ sm=>?_⟩;have N:(rY c more).length<=sizeLine:=by
  have:=Gi more c;exact bN (show (rY c more).length<=1000 by omega) (by decide)
 have there:∃ o,A.get? a=some o:=let ⟨o,_,_,e,_⟩:=d1;⟨o,e⟩;exact⟨.e,_,Hn I (by rw[m];exact True.intro) sm there (Dh N L (y.merge t) d1),rfl,q⟩
def RF:OW:=λc d f=>match c,d with
 | .k a,[.k b]=>a.length+b.length<=1000/\f .e (.k (pW a b))
 | _,_=>False
theorem Q9:zM K S4 RF:=by
 intro A H a c G L M Q w E rd f k;cases c<;>first | exact False.elim f | skip
 cases rd with
 | nil=>exact False.elim f
 | cons B rd =>
 rename_i d _ _ _
 cases d<;>first | exact False.elim f | skip
 cases rd with
 | cons _ _=>exact False.elim f
 | nil =>
 .obtain⟨i,h,e,r⟩:=E
  .obtain⟨b,m,rfl,s,q,n,D⟩:=B.dK_inv;have u:=cC List.length e;have v:=cC List.length n;simp only[aA] at u v;refine⟨a,b,i,m,rfl,rfl,λz=>w (z▸s),h,q,by have:=f.1;omega,k _ _ _ _ f.2 .e λF t=>?_⟩;obtain⟨x,y⟩:=He n D e r;exact⟨_,mZ,x,y.mono t⟩
end
end L2
namespace PySem
open PyProof.Rows L2
section
variable {s:Ae}
theorem O5 (calm:A.handled=none) (l:∀ g e,(∀ b o,s.heap.get? b=some o->g.get? b=some o)->(∃ o,g.get? e=some o/\o.cls = .type "StopIteration")->E (.ref e) { s with heap:=g }) :
  wpAny (model j w) A (do raiseNew (<- newExc (.type "StopIteration") [])) Q E s:=by
 have c:firstArgMember (.type "StopIteration") []=pure Value.none:=by first | rfl | (simp only[firstArgMember];rfl)
 have made:wpAny (model j w) A (newExc (.type "StopIteration") []) (λv d=>∃ e g,v = .ref e/\d={ s with heap:=g }/\(∀ b o,s.heap.get? b=some o->g.get? b=some o)/\∃ o,g.get? e=some o/\o.cls = .type "StopIteration") E s:=by
  unfold newExc newTuple;refine aB (eT ?_ (by size_fits));refine aB (dY c ?_);exact eT ⟨_,_,rfl,rfl,λb o z=>aG _ (aG _ z),_,bB _ rfl,rfl⟩ (by size_fits)
 refine aB (cV made (λv d a=>?_) λ_ _ z=>z);obtain⟨e,g,h,f,k,t⟩:=a;subst h f;unfold raiseNew;refine aB (wpAny_handled ?_);rw[calm];exact aB (aE (wpAny_throw (l g e k t)))
theorem S8 (x:s.heap.IsTupleIter g t i):∃ o,s.heap.get? g=some o/\o.data = .fields #[.ref t,.int i 0]/\s.TypeIs (.ref g) "tuple_iterator" /\ o.cls = .type "tuple_iterator" := by
 obtain⟨o,a,b,c⟩:=x;exact⟨o,a,c,⟨o,a,b⟩,b⟩
theorem NC {h:Ag}{g t:Ad}{i:Nat}{o:Obj}(a:h.get? g=some o) (b:o.cls = .type "tuple_iterator") (c:o.data = .fields #[.ref t,.int i 0]):(h.update g (Obj.mapFields (·.setIfInBounds 1 (rawInt ((i:Int)+1))))).IsTupleIter g t (i+1):=by
 refine⟨_,fH _ a (Obj.isFreed_of_fields (jM c _)),?_,?_⟩
 .rw[Obj.cls_mapFields];exact b
 .rw[jM c];simp[rawInt]
end
structure RawD (h:Heap) (d:Addr) (o:Obj) (es:Array DictEntry) (ep:Nat):Prop where
 low:(d == sysModules)=false
 get:h.get? d=some o
 ex:o.ExactDict
 dat:o.data = .dict es ep
section
variable {s:Ae}
theorem RawD.ty (r:RawD s.heap d o j g):s.TypeIs (.ref d) "dict" := ⟨o,r.get,r.ex.1⟩
theorem N3 (r:RawD s.heap d o l j) (q:Q (.ref s.heap.objs.size) { s with heap:=s.heap.push { cls:=.type "dict_keyiterator",data:=.fields #[.ref d,.int 0 0,.int l.size 0,.int j 0] } }) :
  wpAny (model g w) A (pyIter (.ref d)) Q E s:=by
 have fresh:∀ h:Ag,h=s.heap.push { cls:=.type "dict_keyiterator",data:=.fields #[.ref d,rawInt 0,rawInt l.size,rawInt j] }->Shared.TypeIs { s with heap:=h } (.ref s.heap.objs.size) "dict_keyiterator" := λh e=>by
  subst e;exact⟨_,bB _ rfl,rfl⟩
 have body:wpAny (model g w) A.in1 (Builtin.«dict.__iter__» ⟨[.ref d],[]⟩) (λr c=>r = .done (.ret (.ref s.heap.objs.size))/\c={ s with heap:=s.heap.push { cls:=.type "dict_keyiterator",data:=.fields #[.ref d,rawInt 0,rawInt l.size,rawInt j] } }) E s:=by
  have self:wpAny (model g w) A.in1 (Builtin.Dict.dictSlotNone "__iter__" ⟨[.ref d],[]⟩) (λv c=>v = .ref d/\c=s) E s:=aB (iM r.ty (aE ⟨rfl,rfl⟩));refine aB (cV self (λv c a=>?_) λ_ _ z=>z);obtain⟨f,i⟩:=a;subst f i;have b:Builtin.Dict.showsAll d=pure ():=by unfold Builtin.Dict.showsAll;simp[r.low]
  refine aB (dY (show Builtin.Dict.addrOf (.ref d)=pure d from rfl) (aB (dY b ?_)));exact aB (fF r.get r.dat (aB (jI r.get r.dat (aB (eT (aE ⟨rfl,rfl⟩))))))
 refine wpAny_pyIter_slot r.ty F.slot_dict_iter (dB F.slot_dict_iter r.ty F.entry_dict_iter (cV body (λv c a=>?_) λ_ _ z=>z) (F.args_dict_iter_1 _));obtain⟨f,i⟩:=a;subst f i;refine⟨_,rfl,"dict_keyiterator",_,fresh _ rfl,eV.lookup,?_⟩;exact q
theorem Lb (r:RawD s.heap d o j p) (I:s.heap.IsKeyIter g d i j.size p) (J:i<j.size) (q:∀ C,C.IsKeyIter g d (i+1) j.size p->Heap.SameBut g s.heap C->Q (some j[i].key) { s with heap:=C }) :
  wpAny (model l w) A (pyNext (.ref g)) Q E s:=by
 obtain⟨u,f,n,h⟩:=id I;have ty:s.TypeIs (.ref g) "dict_keyiterator" := ⟨u,f,n⟩;have plain:Builtin.Dict_items.ownsTuple "dict_keyiterator" = false:=by decide
 have c:∀ {E:Ac->Ae->Prop} {b:Ae} {k:Nat->Ae->Prop},b.TypeIs (.ref g) "dict_keyiterator" -> k 0 b->wpAny (model l w) A.in1 (do return if Builtin.Dict_items.ownsTuple (<- typeNameOfWhole (.ref g)) then 2 else 0) k E b:=λt z =>
  aB (wpAny_typeNameOfWhole_keyiter t (by rw[plain];exact aE z))
 let e:=s.heap.update g (Obj.mapFields (·.setIfInBounds 1 (rawInt ((i:Int)+1))));have m:e.IsKeyIter g d (i+1) j.size p:=by
  refine⟨_,fH _ f (Obj.isFreed_of_fields (jM h _)),?_,?_⟩
  .rw[Obj.cls_mapFields];exact n
  .rw[jM h];simp[rawInt]
 have body:wpAny (model l w) A.in1 (Builtin.«dict_keyiterator.__next__» ⟨[.ref g],[]⟩) (λx b=>x = .done (.ret j[i].key)/\b={ s with heap:=e }) (λ_ _=>False) s:=by
  refine aB (aE ?_);refine aB (aB (c ty ?_));refine aB (wpAny_fieldsOf f h ?_);have a:¬ ((Value.ref d == Value.none)=true):=aY;show wpAny _ _ (if (Value.ref d == Value.none)=true then _ else _) _ _ s;rw[aM a];refine aB (aE (aB (fF r.get r.dat ?_)));rw[aM (by simp)];refine aB (aE (aB (jI r.get r.dat ?_)));rw[aM (by simp)];refine aE ?_;have row:(if (i:Int)<0 then none else j[(i:Int).toNat]?)=some j[i]:=by
   rw[aM (by omega),cH,cI J]
  dsimp only;rw[row];refine aB (c ty ?_);refine aB (wpAny_isOneOf_keyiter ty ?_);change wpAny _ _ (setField (.ref g) 1 (rawInt ((i:Int)+1)) >>= _) _ _ s;refine aB (lP f h (by simp) ?_);refine aB (bY (aB (wpAny_isOneOf_keyiter (s:={ s with heap:=e }) m.typeIs ?_)));exact aE (aE ⟨rfl,rfl⟩)
 unfold pyNext;refine aB (fP (cU (name:=Str.ofString "__next__") ty eV (dB eV ty F.entry_dict_keyiterator_next (cV body (λx b ⟨v,y⟩=>?_) λ_ _ z=>z.elim) (F.args_dict_keyiterator_next_1 _))));subst v y;exact⟨_,rfl,aE (q e m (cT ..))⟩
theorem Og (calm:A.handled=none) (r:RawD s.heap d o p C) (I:s.heap.IsKeyIter l d p.size p.size C) (q:∀ g,Heap.ExtBut l s.heap g->Q none { s with heap:=g }) :
  wpAny (model j w) A (pyNext (.ref l)) Q E s:=by
 obtain⟨u,h,M,m⟩:=id I;have ty:s.TypeIs (.ref l) "dict_keyiterator" := ⟨u,h,M⟩;have plain:Builtin.Dict_items.ownsTuple "dict_keyiterator" = false:=by decide
 have f:∀ {n:Ac->Ae->Prop} {c:Ae} {i:Nat->Ae->Prop},c.TypeIs (.ref l) "dict_keyiterator" -> i 0 c->wpAny (model j w) A.in1 (do return if Builtin.Dict_items.ownsTuple (<- typeNameOfWhole (.ref l)) then 2 else 0) i n c:=λt z =>
  aB (wpAny_typeNameOfWhole_keyiter t (by rw[plain];exact aE z))
 have body:wpAny (model j w) A.in1 (Builtin.«dict_keyiterator.__next__» ⟨[.ref l],[]⟩) (λ_ _=>False) (λv c=>∃ e g,v = .ref e/\c={ s with heap:=g }/\Heap.ExtBut l s.heap g/\∃ o,g.get? e=some o/\o.cls = .type "StopIteration") s:=by
  refine aB (aE ?_);refine aB (aB (f ty ?_));refine aB (wpAny_fieldsOf h m ?_);have a:¬ ((Value.ref d == Value.none)=true):=aY;show wpAny _ _ (if (Value.ref d == Value.none)=true then _ else _) _ _ s;rw[aM a];refine aB (aE (aB (fF r.get r.dat ?_)));rw[aM (by simp)];refine aB (aE (aB (jI r.get r.dat ?_)));rw[aM (by simp)];refine aE ?_;have row:(if ((p.size:Nat):Int)<0 then none else p[((p.size:Nat):Int).toNat]?)=none:=by
   rw[aM (by omega),cH,gB (aW _)]
  dsimp only;rw[row];refine aB (f ty (aB (lP h m (by simp) ?_)));exact O5 calm λg e k z=>⟨e,g,rfl,rfl,λx o L K=>k x o ((cT ..).extBut x o L K),z⟩
 unfold pyNext;refine aB (fP (cU (name:=Str.ofString "__next__") ty eV (dB eV ty F.entry_dict_keyiterator_next (cV body (λ_ _ z=>z.elim) λv c ⟨e,g,y,B,D,o,G,H⟩=>?_) (F.args_dict_keyiterator_next_1 _))));subst y B;exact aB (dO (T := "StopIteration") (b:=true) ⟨o,G,H⟩ isSubtype_stop (aE (q g D)))
end
end PySem
namespace L2
open PySem PySem.Spec PyProof.Rows Lw
structure Sw (H H':Hp) (a:Addr) (kvs:List (List dT×V)):Prop where
 out:∀ b,b≠a->H' b=H b
 l:Rd H a (.T kvs)
 r:Rd H' a (.T kvs)
section
theorem Sw.ne (s:Sw H I a j) (h:H b=some u) (p:∀ g,u ≠ .T g) (C:∀ o g,u ≠ .frz o (.T g)):b≠a:=λz=>by
 subst z;rcases s.l with q | ⟨o,q⟩<;>rw[q] at h<;>cases h
 .exact p _ rfl
 .exact C _ _ rfl
theorem Sw.get (s:Sw H j a p) (h:H b=some u) (C:∀ g,u ≠ .T g) (I:∀ o g,u ≠ .frz o (.T g)):j b=some u:=by rw[s.out b (s.ne h C I)];exact h
theorem Sw.rd (s:Sw H p a g) (h:Rd H b (.T j)):Rd p b (.T j):=by
 by_cases e:b=a
 .subst e;have:j=g:=by
   rcases h with h | ⟨o,h⟩<;>rcases s.l with q | ⟨c,q⟩<;>rw[q] at h<;>cases h<;>rfl
  rw[this];exact s.r
 .rcases h with h | ⟨o,h⟩
  .exact .inl (by rw[s.out b e];exact h)
  .exact .inr ⟨o,by rw[s.out b e];exact h⟩
theorem Sw.sqF {K:mH}(s:Sw H g a j) (h:yN K H b p):yN K g b p:=by
 rcases h with⟨o,h⟩ | h
 .exact .inl ⟨o,s.get h (λ_ z=>nomatch z) (λ_ _ z=>nomatch z)⟩
 .exact .inr h
variable {K:mH}
theorem Rep.sw (s:Sw H j a p) (o:∀ b,A b->g b) (h:Rep K A H d v):Rep K g j d v :=
 Rep.rec (motive_1:=λd v _=>Rep K g j d v) (motive_2:=λi m _=>Reps K g j i m) .e .b .int .str .r (λh _ r=>.t (s.get h (λ_ z=>nomatch z) (λ_ _ z=>nomatch z)) r) (λh _ r=>.con h r)
  (λf h _ r=>.l (o _ f) (s.get h (λ_ z=>nomatch z) (λ_ _ z=>nomatch z)) r) (λh _ r=>.c (s.sqF h) r) (λf h e _ r=>.k (o _ f) (s.get h (λ_ z=>nomatch z) (λ_ _ z=>nomatch z)) e r) (λf h e _ r=>.T (o _ f) (s.rd h) e r) .nil (λ_ _ h r=>.cons h r) h
theorem Reps.sw (s:Sw H p a I) (C:∀ b,A b->o b) (h:Reps K A H j l):Reps K o p j l:=by
 induction j generalizing l with
 | nil=>cases h;exact .nil
 | cons d j c=>cases h with | cons g r=>exact .cons (g.sw s C) (c r)
theorem pM.sw (s:Sw H o a p) (g:∀ b,A b->j b) (ne:b≠a) (h:pM K A H b d):pM K j o b d:=by
 cases d with
 | l _=>obtain⟨c,h,r⟩:=h;exact⟨c,by rw[s.out b ne];exact h,r.sw s g⟩
 | k _=>obtain⟨c,h,e,r⟩:=h;exact⟨c,by rw[s.out b ne];exact h,e,r.sw s g⟩
 | T _=>obtain⟨c,h,e,r⟩:=h;exact⟨c,by rw[s.out b ne];exact h,e,r.sw s g⟩
 | _=>exact False.elim h
theorem tN.sw (s:Sw H l a p) (g:∀ b,A b->j b) (ne:∀ b,A7 (x,y)=some b->b≠a) (h:tN K A H x y):tN K j l x y:=by
 cases x with
 | n=>trivial
 | v d=>obtain⟨v,e,r⟩:=h;exact⟨v,e,r.sw s g⟩
 | o d=>obtain⟨b,e,r⟩:=h;subst e;exact⟨b,rfl,r.sw s g (ne b rfl)⟩
noncomputable def rZ (B:Bs) (a:Ad) (o:Obj) (g:Aa (Aa dT×V)):Bs:=⟨B.dk,λb=>B.A0 b\/b=a,λb=>if b=a then some (.frz o (.T g)) else B.H0 b⟩
theorem DS.fz (h:DS K B L H) (s:Sw H j a g) (l:j a=some (.frz o (.T g))) (al:Al B (hI L) a):DS K (rZ B a o g) L j:=by
 refine⟨λb u e n=>?_,h.dk.keep λb c=>s.out b λz=>al.1 (z▸c),h.nd,λb c=>?_,λp d=>?_⟩
 .by_cases z:b=a
  .subst z;rw[show (rZ B b o g).H0 b=some (.frz o (.T g)) from aR rfl] at e;rw[l];exact e
  .rw[show (rZ B a o g).H0 b=B.H0 b from aM z] at e;rw[s.out b z];exact h.fr b u e n
 .have z:b≠a:=λz=>al.2.1 (z▸c)
  rw[show (rZ B a o g).H0 b=B.H0 b from aM z];exact h.new b c
 .refine (h.ok p d).sw s (λb ⟨f,i,k⟩=>⟨f,i,?_⟩) λb c z=>al.2.1 (vE.mpr ⟨p,d,z▸c⟩)
  by_cases z:b=a
  .exact .inl (.inr z)
  .refine k.elim (λq=>.inl (.inl q)) λq=>.inr ?_
   rw[show (rZ B a o g).H0 b=B.H0 b from aM z];exact q
theorem DS.known (h:DS K (rZ B a o g) L H) (j:a∉B.dk):H a=some (.frz o (.T g)):=h.fr a _ (aR rfl) j
theorem DS.th (h:DS K (rZ B a o g) L H) (s:Sw H j a g) (C:a∉B.dk) (l:∀ u,B.H0 a=some u->j a=some u) (r:B.A0 a\/B.H0 a=none):DS K B L j:=by
 have f:∀ b∈hI L,b≠a:=λb c z=>by
  have:=(h.new b c).1;rw[z,show (rZ B a o g).H0 a=some (.frz o (.T g)) from aR rfl] at this;cases this
 refine⟨λb u e n=>?_,h.dk.keep λb c=>s.out b λz=>C (z▸c),h.nd,λb c=>?_,λp d=>?_⟩
 .by_cases z:b=a
  .subst z;exact l u e
  .rw[s.out b z];exact h.fr b u (by rw[show (rZ B a o g).H0 b=B.H0 b from aM z];exact e) n
 .have:=h.new b c;rw[show (rZ B a o g).H0 b=B.H0 b from aM (f b c)] at this;exact this
 .refine (h.ok p d).sw s (λb ⟨i,k,m⟩=>⟨i,k,?_⟩) λb c z=>f b (vE.mpr ⟨p,d,c⟩) z
  by_cases z:b=a
  .rw[z];exact r
  .refine m.elim (λq=>.inl (q.resolve_right z)) λq=>.inr ?_
   rw[show (rZ B a o g).H0 b=B.H0 b from aM z] at q;exact q
end
section
variable {X:Cx}
theorem Inv.swapped (I:Inv X r J H s) (sw:Sw H g a j) (C:∀ o u,X.H₀ a≠some (.frz o u)) (ok:nT X.prog X.w g s.heap a (.T j)->∀ u,g a=some u->nT X.prog X.w g s.heap a u):Inv X r J g s:=by
 have d:∀ b,H b=none->g b=none:=λb e=>by
  rw[sw.out b λz=>by subst z;rcases sw.l with q | ⟨o,q⟩<;>rw[q] at e<;>cases e];exact e
 have tup_at:∀ b h,H b=some (.t h)->g b=some (.t h):=λb h e=>sw.get e (λ_ z=>nomatch z) (λ_ _ z=>nomatch z)
 have f:∀ b y,H b=some (.o y)->g b=some (.o y):=λb h e=>sw.get e (λ_ z=>nomatch z) (λ_ _ z=>nomatch z)
 refine⟨I.ok,I.os,I.bare,⟨I.base.keep,I.base.slot,λb u e n x=>d b (I.base.free b u e n x),I.base.there,λb h e=>tup_at b h (I.base.tups b h e),λb i u e=>?_,λb m e=>?_⟩,I.loc,I.cell,d _ I.free,λx c e=>d c (I.freeC x c e),λp k=>?_,λb u e=>?_,I.len⟩
 .have ne:b≠a:=λz=>C i u (z▸e)
  rw[sw.out b ne];exact I.base.frzs b i u e
 .obtain⟨more,q⟩:=I.base.tbls b m e;exact⟨more,sw.get q (λ_ z=>nomatch z) (λ_ _ z=>nomatch z)⟩
 .obtain⟨v,A,B⟩:=I.pin p k;exact⟨v,d _ A,B⟩
 .by_cases z:b=a
  .subst z;have base:nT X.prog X.w H s.heap b (.T j):=sw.l.ok I.hok;exact ok (base.stay (λ_ _ _ q=>q) (λc q=>f c _ q) tup_at) u e
  .rw[sw.out b z] at e;exact (I.hok b u e).stay (λ_ _ _ q=>q) (λc q=>f c _ q) tup_at
theorem Inv.frozen (I:Inv X g r H s) (l:H a=some (.T j)) (p:s.heap.get? a=some o):Inv X g r (upd H a (.frz o (.T j))) s:=by
 refine I.swapped ⟨λb n=>mQ n,.inl l,.inr ⟨o,mZ⟩⟩ (λc u e=>?_) λq u e=>?_
 .have:=I.base.frzs a c u e;rw[l] at this;cases this
 .rw[mZ] at e;cases e;exact⟨p,q⟩
theorem Inv.thawed (I:Inv X g r H s) (p:H a=some (.frz o (.T j))) (l:∀ o u,X.H₀ a≠some (.frz o u)):Inv X g r (upd H a (.T j)) s:=by
 refine I.swapped ⟨λb n=>mQ n,.inr ⟨o,p⟩,.inl mZ⟩ l λq u e=>?_
 rw[mZ] at e;cases e;exact q
end
def By (a:Ad) (o:Obj) (g:Aa (Aa dT×V)):It :=
 ⟨λi H=>H a=some (.frz o (.T g))/\i<g.length,λi H x b=>b=H/\∃ k v p,g[i]?=some (k,v)/\x = .ref p/\H p=some (.t (k.map kV)),λi H=>H a=some (.frz o (.T g))/\i=g.length⟩
theorem Ho {F:l->o->Prop}:∀ {g:Aa l}{j:Aa o}{i:Nat}{a:l},Paired F g j->g[i]?=some a->∃ b,j[i]?=some b/\F a b
 | _,_,_,_,.nil,h=>by simp at h
 | _,_,0,_,.cons x r,h=>by simp at h;subst h;exact⟨_,by simp,x⟩
 | _,_,i+1,a,.cons x r,h=>by
  obtain⟨b,c,d⟩:=Ho (i:=i) r (by simpa using h);exact⟨b,by simpa using c,d⟩
theorem Ly {P:Ah}(ok:oC P w H h) (I:H a=some (.frz o (.T g))) :
  ∃ j l,RawD h a o j l/\j.size=g.length/\∀ (i:Nat) (C:i<j.size),∃ k v p,g[i]?=some (k,v)/\j[i].key = .ref p/\H p=some (.t (k.map kV)):=by
 obtain⟨b,z,lo,m,r,D,j,l,c,n,s,d,_⟩:=(show nT P w H h a (.frz o (.T g)) from ok a _ I);rw[b] at c;cases c;have A:g.length=m.length:=eU r;have B:j.size=m.length:=by
  have:=cC List.length d
  simpa using this
 refine⟨j,l,⟨lo,b,n,s⟩,by omega,λi C=>?_⟩;have f:i<g.length:=by omega
 obtain⟨q,x,E,y,F⟩:=Ho r (aH f);refine⟨g[i].1,g[i].2,q.2.1,aH f,?_,y⟩;have e:j.toList[i]?=some (entryOfKey (tupleKind (pK P w)) q):=by rw[d,bC,x];rfl
 have u:j[i]=entryOfKey (tupleKind (pK P w)) q:=by
  have:j.toList[i]?=some j[i]:=by rw[dM,cI C]
  rw[this] at e;exact bU e
 rw[u];rfl
theorem QO {P:Ah}{K:mH}(a j:Ad) (o:Obj) (l:Aa (Aa dT×V)):Turn P w K tg (By a o l) [j] j (λi h=>∃ g,(∃ C,o.data = .dict C g)/\h.IsKeyIter j a i l.length g) where
 mem:=by simp
 obj:=λi h st b n=>by
  have e:b=j:=by simpa using n
  subst e;obtain⟨_,_,o,e,c,d⟩:=st;exact⟨o,e,λv z=>by rw[d] at z;cases z⟩
 keep:=λi h x ⟨g,q,o,e,r⟩ k=>⟨g,q,o,k j (by simp) o e,r⟩
 item:=by
  intro X L hw G Q i m s R H E I y st N;subst L hw G;obtain⟨g,⟨A,t⟩,st⟩:=st;obtain⟨M,O⟩:=N;obtain⟨C,f,raw,sz,rows⟩:=Ly I.hok M;have:f=g:=by have:=raw.dat;rw[t] at this;cases this;rfl
  subst this;rw[<- sz] at st O;obtain⟨k,v,p,Y,Z,J⟩:=rows i O;obtain⟨f0,f1,f2,B,D,F⟩:=y j (by simp);refine Lb raw st O λx u T=>?_
  have S:Inv X m R H { s with heap:=x }:=I.turned (t':=s.toks) (λb o n e=>(T.2 b n).trans e) f0 f1 B D F;rw[sz] at u;obtain⟨U,e,c,d⟩:=id u;exact⟨_,rfl,At (s:={ s with heap:=x }) e c d (by decide) ⟨.ref p,H,S,Z,⟨rfl,k,v,p,Y,rfl,J⟩,⟨f,⟨C,raw.dat⟩,u⟩,λb n=>(y b n).1⟩⟩
 done:=by
  intro X L hw G Q i m s R H E I y st N;subst L hw G;obtain⟨g,⟨A,t⟩,st⟩:=st;obtain⟨M,rfl⟩:=N;obtain⟨C,f,raw,sz,rows⟩:=Ly I.hok M;have:f=g:=by have:=raw.dat;rw[t] at this;cases this;rfl
  subst this;rw[<- sz] at st;obtain⟨f0,f1,f2,B,D,F⟩:=y j (by simp);exact Og (I.ok.hd Q) raw st λx W=>⟨rfl,I.turned (t':=s.toks) (λb o n e=>W b o n e) f0 f1 B D F⟩
 self:=λ_ _ _ _ _ ⟨_,_,st⟩ h=>kS st h
section
variable {X:Cx}
noncomputable def Ex:dT->D
 | .inl i=>.int i
 | .inr x=>.str x
theorem J7 {K:mH}:∀ k:Aa dT,Reps K A H (k.map Ex) (k.map kV)
 | []=>.nil
 | .inl i::k=>.cons (.int i) (J7 k)
 | .inr x::k=>.cons (.str x) (J7 k)
def tE (g:Aa (Aa dT×D)):Aa D:=g.map λp=>.t (p.1.map Ex)
end
end L2
namespace PySem
open PyProof.Rows L2
section
theorem BI (I:s.heap.IsTupleIter j t i) (T:s.heap.IsTuple t C) (J:C[i]?=some x) (q:∀ g,g.IsTupleIter j t (i+1)->Heap.SameBut j s.heap g->Q x { s with heap:=g }) :
  wpAny (model l w) A (Builtin.SmallTypes.nextOf (.ref j)) Q E s:=by
 obtain⟨o,a,c,ty,b⟩:=S8 I;obtain⟨p,m,v,n,u⟩:=id T;have body:wpAny (model l w) A.in1 (Builtin.«tuple_iterator.__next__» ⟨[.ref j],[]⟩) (λr d=>∃ g,r = .done (.ret x)/\d={ s with heap:=g }/\g.IsTupleIter j t (i+1)/\Heap.SameBut j s.heap g) E s:=by
  show wpAny _ _ (field (.ref j) 0 >>= _) _ _ s;refine aB (dX a c (x:=.ref t) rfl ?_);refine (show wpAny _ _ (field (.ref j) 1 >>= _) _ _ s from aB (dX a c (x:=.int i 0) rfl (aB (fQ m u ?_))));simp only[cH,J];exact aB (lP a c (by simp) (aE ⟨_,rfl,rfl,NC a b c,cT ..⟩))
 unfold Builtin.SmallTypes.nextOf;refine aB (cU (name:=Str.ofString "__next__") ty gG (dB gG ty F.entry_tuple_iterator_next (cV body (λr d ⟨g,e,f,h,k⟩=>?_) λ_ _ z=>z) (F.args_tuple_iterator_next_1 _)));subst e f;exact⟨x,rfl,aE (q g h k)⟩
theorem NR (calm:A.handled=none) (I:s.heap.IsTupleIter j t i) (T:s.heap.IsTuple t C) (r:C[i]?=none)
  (q:∀ g e,Heap.ExtBut j s.heap g->(∃ o,g.get? e=some o/\o.cls = .type "StopIteration")->E (.ref e) { s with heap:=g }):wpAny (model l w) A (Builtin.SmallTypes.nextOf (.ref j)) Q E s:=by
 obtain⟨o,a,c,ty,b⟩:=S8 I;obtain⟨p,f,m,n,h⟩:=id T;have body:wpAny (model l w) A.in1 (Builtin.«tuple_iterator.__next__» ⟨[.ref j],[]⟩) (λ_ _=>False) E s:=by
  show wpAny _ _ (field (.ref j) 0 >>= _) _ _ s;refine aB (dX a c (x:=.ref t) rfl ?_);refine (show wpAny _ _ (field (.ref j) 1 >>= _) _ _ s from aB (dX a c (x:=.int i 0) rfl (aB (fQ f h ?_))));simp only[cH,r];refine aB (jL (aB (lP a c (by simp) ?_)));exact O5 calm λg e k z=>q g e (λx o d r=>k x o ((cT ..).extBut x o d r)) z
 unfold Builtin.SmallTypes.nextOf;exact aB (cU (name:=Str.ofString "__next__") ty gG (dB gG ty F.entry_tuple_iterator_next (cV body (λ_ _ z=>z.elim) λ_ _ z=>z) (F.args_tuple_iterator_next_1 _)))
def Jp (z TI TO:Ad) (E:Ac->Ae->Prop):Ac->Ae->Prop:=λe a=>IsZip a.heap z TI TO .ellipsis/\∀ b,Heap.SameBut z a.heap b->E e { a with heap:=b }
theorem P5 {z TI TO:Ad}{a b p q:Ac}{Q:Ac->Ae->Prop}(J:IsZip s.heap z TI TO .none) (aa:IsPair s.heap TI a b)
  (go:∀ C,IsZip C z TI TO .ellipsis->Heap.SameBut z s.heap C->wpAny (model g w) A (Builtin.SmallTypes.nextOf a) (λx T=>IsPair T.heap TO p q/\∀ I,IsPair I TO x q->Heap.SameBut TO T.heap I ->wpAny (model g w) A (Builtin.SmallTypes.nextOf b) (λy U=>IsPair U.heap TO x q/\∀ j,IsPair j TO x y->Heap.SameBut TO U.heap j->IsZip j z TI TO .ellipsis /\ ∀ r,IsZip r z TI TO (rawInt j.objs.size)->IsPair r j.objs.size x y->r.objs.size=j.objs.size+1->(∀ c o,c≠z->j.get? c=some o->r.get? c=some o)->Q (.ref j.objs.size) { U with heap:=r }) (Jp z TI TO E) { T with heap:=I }) (Jp z TI TO E) { s with heap:=C }) :
  wpAny (model g w) A (Builtin.«zip.__next__» ⟨[.ref z],[]⟩) (λfin l=>∃ v,fin = .done (.ret v)/\Q v l) E s:=by
 have free:wpAny (model g w) A (Builtin.SmallTypes.ownedTupleIsFree (.ref z)) (λx l=>x=true/\l=s) E s:=aB (dX J rfl (x:=.none) rfl (aE ⟨rfl,rfl⟩));have back:∀ {i:Type} {m:Sem i} {R:i->Ae->Prop} {l:Ae},wpAny (model g w) A m R (Jp z TI TO E) l->wpAny (model g w) A (m.onRaise λ_=>setField (.ref z) 0 .none) R E l:=λ{i m R l} h =>
  wpAny_onRaise (cV h (λ_ _ z=>z) λe Y ⟨d,K⟩=>iG d (by simp) λr _ O=>K r O)
 unfold Builtin.«zip.__next__»;refine aB (aE (aB (dX J rfl (x:=.bool false) rfl (aB (dX J rfl (x:=.ref TI) rfl (aB (fQ aa rfl ?_)))))));refine aB (mM free ?_);rintro _ l ⟨rfl,rfl⟩;simp only[gA];refine aB (jL (aB (dX J rfl (x:=.ref TO) rfl (aB (iG J (by simp) λC P d=>?_)))));simp only[List.zipIdx_cons,List.zipIdx_nil,kU,List.forIn_nil,bind_assoc];refine aB (back (aB (mM (go C P d) λx T ⟨B,g2⟩=>aE ?_)));refine aB (aB (fQ B rfl (aB (wpAny_updateSeq_pair B λI N L=>aB (wpAny_letGo (aE ?_))))));refine aB (aB (back (aB (mM (g2 I N L) λy U ⟨D,H⟩=>aE ?_))));refine aB (aB (fQ D rfl (aB (wpAny_updateSeq_pair D λj F M=>aB (wpAny_letGo (aE (aE ?_)))))));obtain⟨G,fin⟩:=H j F M;have f:z<j.objs.size:=bA G;refine aB (fQ F rfl (aB (wpAny_newTuple ?_ (hsz:=(show 2<=sizeLine by decide)))));have S:IsZip (j.push (seqObj "tuple" #[x,y] 0)) z TI TO .ellipsis:=aG _ G;refine aB (show wpAny _ _ (setField (.ref z) 0 (rawInt j.objs.size) >>= λ_=>setField (.ref z) 1 (.bool false)) _ _ _ from aB (iG S (by simp) λX V t=>iG V (by simp) λk W u=>?_));have up:∀ c o,c≠z->(j.push (seqObj "tuple" #[x,y] 0)).get? c=some o->k.get? c=some o:=λc o n e=>u.extBut _ _ n (t.extBut _ _ n e)
 refine aE ⟨_,rfl,fin k W (up _ _ (iD f) (bB _ rfl)) (by rw[u.1,t.1,eA]) λc o n e=>up c o n (aG _ e)⟩
end
def Cu (a b:Ac):Obj:={ cls:=.type "tuple",data:=.seq #[a,b] }
def Ph (a b:Ad):Obj:={ cls:=.type "zip",data:=.fields #[.none,.bool false,.bool false,.ref a,.ref b] }
end PySem
namespace L2
open PySem PySem.Spec PyProof.Rows Lw
section
variable {X:Cx}{K:mH}
def vo (i:Nat):nF:=λ_ a b=>match a[i]? with
 | some (.o d)=>b (.o d) (a.set i .n)
 | _=>False
theorem B5 (i:Nat) (h:PE X (.Name x pos) (pT i)):PD X (.Name x pos) (vo i):=h.mono λG H Q q=>q.elim λB E T F m hd c k=>by
 unfold vo at c;cases f:E[i]? with
 | none=>rw[f] at c;exact False.elim c
 | some s =>
 rw[f] at c;cases s<;>first | exact False.elim c | skip
 .rename_i d
  obtain⟨a,y,b,t,_,z,e⟩:=vJ m f;have u:=e .n y;rw[A4 t] at u;obtain⟨v,w,_⟩:=hd.peek m (d:=d) (i:=i) (by unfold at?;rw[f];rfl);rw[t] at w;cases w;refine⟨v,t,k _ _ v H (by rw[bO];exact m) ?_ c⟩;rw[z,bJ,cQ] at hd;rw[u,bJ,cQ];have d1:DS X.K B ((.o d,some v)::(a++(b++T))) H:=hd.perm iA;have d2:DS X.K B (((.o d,some v)::a)++(Sl.n,some v)::(b++T)) H:=DS.pushN (L1:=(.o d,some v)::a) (L2:=b++T) d1 (some v);refine d2.perm ?_;have A:(((Sl.o d,some v)::a)++(Sl.n,some v)::(b++T)).Perm ((Sl.o d,some v)::(a++(Sl.n,some v)::b++T)):=by simp
  refine A.trans ?_;have D:((Sl.o d,some v)::(a++(Sl.n,some v)::b++T)).Perm ((a++(Sl.n,some v)::b)++(Sl.o d,some v)::T):=iA.symm;refine D.trans (by simp)
end
structure SwK (H H':Hp) (a:Addr) (kvs:List (dT×V)):Prop where
 out:∀ b,b≠a->H' b=H b
 l:Rd H a (.k kvs)
 r:Rd H' a (.k kvs)
section
theorem SwK.ne (s:SwK H I a j) (h:H b=some u) (p:∀ g,u ≠ .k g) (C:∀ o g,u ≠ .frz o (.k g)):b≠a:=λz=>by
 subst z;rcases s.l with q | ⟨o,q⟩<;>rw[q] at h<;>cases h
 .exact p _ rfl
 .exact C _ _ rfl
theorem SwK.get (s:SwK H j a p) (h:H b=some u) (C:∀ g,u ≠ .k g) (I:∀ o g,u ≠ .frz o (.k g)):j b=some u:=by rw[s.out b (s.ne h C I)];exact h
end
section
variable {X:Cx}
theorem Inv.swappedK (I:Inv X r J H s) (sw:SwK H g a j) (C:∀ o u,X.H₀ a≠some (.frz o u)) (ok:nT X.prog X.w g s.heap a (.k j)->∀ u,g a=some u->nT X.prog X.w g s.heap a u):Inv X r J g s:=by
 have d:∀ b,H b=none->g b=none:=λb e=>by
  rw[sw.out b λz=>by subst z;rcases sw.l with q | ⟨o,q⟩<;>rw[q] at e<;>cases e];exact e
 have tup_at:∀ b h,H b=some (.t h)->g b=some (.t h):=λb h e=>sw.get e (λ_ z=>nomatch z) (λ_ _ z=>nomatch z)
 have f:∀ b y,H b=some (.o y)->g b=some (.o y):=λb h e=>sw.get e (λ_ z=>nomatch z) (λ_ _ z=>nomatch z)
 refine⟨I.ok,I.os,I.bare,⟨I.base.keep,I.base.slot,λb u e n x=>d b (I.base.free b u e n x),I.base.there,λb h e=>tup_at b h (I.base.tups b h e),λb i u e=>?_,λb v e=>?_⟩,I.loc,I.cell,d _ I.free,λx c e=>d c (I.freeC x c e),λp m=>?_,λb u e=>?_,I.len⟩
 .have ne:b≠a:=λz=>C i u (z▸e)
  rw[sw.out b ne];exact I.base.frzs b i u e
 .obtain⟨more,q⟩:=I.base.tbls b v e;exact⟨more,sw.get q (λ_ z=>nomatch z) (λ_ _ z=>nomatch z)⟩
 .obtain⟨A,B,D⟩:=I.pin p m;exact⟨A,d _ B,D⟩
 .by_cases z:b=a
  .subst z;have base:nT X.prog X.w H s.heap b (.k j):=sw.l.ok I.hok;exact ok (base.stay (λ_ _ _ q=>q) (λc q=>f c _ q) tup_at) u e
  .rw[sw.out b z] at e;exact (I.hok b u e).stay (λ_ _ _ q=>q) (λc q=>f c _ q) tup_at
theorem Inv.frozenK (I:Inv X g r H s) (l:H a=some (.k j)) (p:s.heap.get? a=some o):Inv X g r (upd H a (.frz o (.k j))) s:=by
 refine I.swappedK ⟨λb n=>mQ n,.inl l,.inr ⟨o,mZ⟩⟩ (λc u e=>?_) λq u e=>?_
 .have:=I.base.frzs a c u e;rw[l] at this;cases this
 .rw[mZ] at e;cases e;exact⟨p,q⟩
theorem Inv.thawedK (I:Inv X g r H s) (p:H a=some (.frz o (.k j))) (l:∀ o u,X.H₀ a≠some (.frz o u)):Inv X g r (upd H a (.k j)) s:=by
 refine I.swappedK ⟨λb n=>mQ n,.inr ⟨o,p⟩,.inl mZ⟩ l λq u e=>?_
 rw[mZ] at e;cases e;exact q
end
def G9 (a:Ad) (o:Obj) (g:Aa (dT×V)):It :=
 ⟨λi H=>H a=some (.frz o (.k g))/\i<g.length,λi H x b=>b=H/\∃ k v,g[i]?=some (k,v)/\x=kV k,λi H=>H a=some (.frz o (.k g))/\i=g.length⟩
theorem GV (h:zR k v=true):mX (kV k) v:=by
 rcases wY h with⟨i,t,rfl,rfl⟩ | ⟨x,t,rfl,rfl⟩
 .exact⟨t,rfl⟩
 .exact⟨t,rfl⟩
theorem pairs_at {P:Ah}:∀ {g:Aa DictEntry}{j:Aa (dT×Ac)},Pairs (pK P w) g j->g.length=j.length/\∀ (i:Nat) e q,g[i]?=some e->j[i]?=some q->zR q.1 e.key=true/\e.val=q.2:=by
 intro g;induction g with
 | nil=>intro j h;cases h;exact⟨rfl,λi e q h=>by cases h⟩
 | cons a g m =>
  intro j h;cases h with
  | cons d f k =>
   obtain⟨n,s⟩:=m k;refine⟨cC (·+1) n,λi e q b c=>?_⟩;cases i with
   | zero=>cases b;cases c;exact⟨d,f⟩
   | succ i=>exact s i e q b c
theorem K8 {P:Ah}(ok:oC P w H h) (C:H a=some (.frz o (.k g))) :
  ∃ j l,RawD h a o j l/\j.size=g.length/\∀ (i:Nat) (p:i<j.size),∃ k v,g[i]?=some (k,v)/\mX (kV k) j[i].key:=by
 obtain⟨c,z,lo,y,r,D,j,l,d,f,m,A,n,_⟩:=(show nT P w H h a (.frz o (.k g)) from ok a _ C);rw[c] at d;cases d;have B:g.length=y.length:=eU r;obtain⟨u,b⟩:=pairs_at n;rw[eQ] at u;refine⟨j,l,⟨lo,c,f,m⟩,by omega,λi p=>?_⟩;have e:i<g.length:=by omega
 obtain⟨q,s,x,_⟩:=Ho r (aH e);obtain⟨t,_⟩:=b i j[i] q (by rw[dM,cI p]) s;exact⟨g[i].1,g[i].2,aH e,by rw[x];exact GV t⟩
theorem Zh {P:Ah}{K:mH}(a j:Ad) (o:Obj) (l:Aa (dT×V)):Turn P w K T (G9 a o l) [j] j (λi h=>∃ g,(∃ p,o.data = .dict p g)/\h.IsKeyIter j a i l.length g) where
 mem:=aF
 obj:=λi h st b n=>by
  obtain rfl:=aV.mp n;obtain⟨_,_,o,e,c,d⟩:=st;exact⟨o,e,λv z=>by rw[d] at z;cases z⟩
 keep:=λi h x ⟨g,q,o,e,r⟩ k=>⟨g,q,o,k j aF o e,r⟩
 item:=by
  intro X L hw G Q i m s R H E I y st N;subst L hw G;obtain⟨g,⟨A,t⟩,st⟩:=st;obtain⟨M,O⟩:=N;obtain⟨p,f,raw,sz,rows⟩:=K8 I.hok M;have:f=g:=by have:=raw.dat;rw[t] at this;cases this;rfl
  subst this;rw[<- sz] at st O;obtain⟨k,v,Y,Z⟩:=rows i O;obtain⟨f0,f1,f2,B,D,F⟩:=y j aF;refine Lb raw st O λx u C=>?_
  have S:Inv X m R H { s with heap:=x }:=I.turned (t':=s.toks) (λb o n e=>(C.2 b n).trans e) f0 f1 B D F;rw[sz] at u;obtain⟨J,e,c,d⟩:=id u;exact⟨_,rfl,At (s:={ s with heap:=x }) e c d (by decide) ⟨kV k,H,S,Z,⟨rfl,k,v,Y,rfl⟩,⟨f,⟨p,raw.dat⟩,u⟩,λb n=>(y b n).1⟩⟩
 done:=by
  intro X L hw G Q i m s R H E I y st N;subst L hw G;obtain⟨g,⟨A,t⟩,st⟩:=st;obtain⟨M,rfl⟩:=N;obtain⟨p,f,raw,sz,rows⟩:=K8 I.hok M;have:f=g:=by have:=raw.dat;rw[t] at this;cases this;rfl
  subst this;rw[<- sz] at st;obtain⟨f0,f1,f2,B,D,F⟩:=y j aF;exact Og (I.ok.hd Q) raw st λx W=>⟨rfl,I.turned (t':=s.toks) (λb o n e=>W b o n e) f0 f1 B D F⟩
 self:=λ_ _ _ _ _ ⟨_,_,st⟩ h=>kS st h
def K6 (g:TE):TI:=λd H R=>g d H λx c=>∃ a o b,x = .ref a/\c a=some (.frz o (.k b))/\R (G9 a o b) c
theorem Xh {X:Cx}(g:PE X l j):PI X p l (K6 j):=by
 intro c s A H R I h;refine mM (g c s A H _ I h) λv i k=>?_
 obtain⟨x,m,f,z,a,o,d,e,w,q⟩:=k;subst e;cases z;obtain⟨t,n,raw,sz,_⟩:=K8 f.hok w;have u:∀ b∈[i.heap.objs.size],tU X c m b:=λb y=>by
  obtain rfl:=aV.mp y;exact f.fpOk (aW _) (f.hok.fresh (aW _))
 refine N3 raw ⟨i.heap.objs.size,[i.heap.objs.size],_,G9 a o d,m,rfl,f.kept (t':=i.toks) λb B q=>aG _ q,Zh a _ o d,⟨n,⟨t,raw.dat⟩,?_⟩,u,q⟩;exact⟨_,bB _ rfl,rfl,by rw[sz];rfl⟩
theorem UV:Yields (G9 a o g) (g.map λp=>kV p.1) (λH=>H a=some (.frz o (.k g))) :=
 ⟨λi H b r=>⟨r,by rw[aA] at b;exact b⟩,λi H x d b r y=>by
  obtain⟨e,k,v,c,rfl⟩:=y;exact⟨e,by rw[bC,c];rfl⟩,λi H e r=>⟨r,by rw[aA] at e;exact e⟩⟩
end L2
namespace Lw
open PySem L2
def vT (t:mL):Aa (dT×V):=t.map λp=>(Sum.inr p.1,V.int p.2)
noncomputable def qQ (t:mL) (x:Af) (i:Int):mL:=if x∈t.map (·.1) then t.map (λp=>if p.1=x then (p.1,i) else p) else t++[(x,i)]
theorem Zl (t:mL) (x:Af) (i:Int):nR (vT t) (Sum.inr x) (.int i)=vT (qQ t x i):=by
 unfold nR qQ;have e:((vT t).any λa=>decide (a.1=(Sum.inr x:dT)))=decide (x∈t.map (·.1)):=by
  rw[gR];simp only[vT,lE,bW,cJ,dQ,aI,Sum.inr.injEq]
 rw[e];by_cases h:x∈t.map (·.1)
 .rw[aR (bE h),aR h];unfold vT;rw[aJ,aJ];refine bV λp _=>?_
  show (if (Sum.inr p.1:dT)=Sum.inr x then ((Sum.inr p.1:dT),V.int i) else (Sum.inr p.1,V.int p.2))=(Sum.inr (if p.1=x then (p.1,i) else p).1,V.int (if p.1=x then (p.1,i) else p).2);by_cases q:p.1=x
  .rw[aR (by rw[q]),aR q]
  .rw[aM (λz=>q (gC z)),aM q]
 .rw[aM (by simp[h]),aM h];unfold vT;rw[List.map_append];rfl
theorem Mb (t:mL) (x:Af) (i:Int):nD (gV t) (Sum.inr x) (.int i)=gV (qQ t x i):=by
 unfold nD qQ;have e:((gV t).any λa=>decide (a.1=(Sum.inr x:dT)))=decide (x∈t.map (·.1)):=by
  rw[gR];simp only[gV,lE,bW,cJ,dQ,aI,Sum.inr.injEq]
 rw[e];by_cases h:x∈t.map (·.1)
 .rw[aR (bE h),aR h];unfold gV;rw[aJ,aJ];refine bV λp _=>?_
  show (if (Sum.inr p.1:dT)=Sum.inr x then ((Sum.inr p.1:dT),D.int i) else (Sum.inr p.1,D.int p.2))=(Sum.inr (if p.1=x then (p.1,i) else p).1,D.int (if p.1=x then (p.1,i) else p).2);by_cases q:p.1=x
  .rw[aR (by rw[q]),aR q]
  .rw[aM (λz=>q (gC z)),aM q]
 .rw[aM (by simp[h]),aM h];unfold gV;rw[List.map_append];rfl
theorem Eu (t u:mL) (x:Af):look (t++u) x=if x∈t.map (·.1) then look t x else look u x:=by
 induction t with
 | nil=>rw[fS,aM (by simp)]
 | cons p t a =>
  rw[cQ,rD,rD];by_cases e:p.1=x
  .rw[aR e,aR e,aR (by rw[<- e];exact aF)]
  .rw[aM e,aM e,a,aK];by_cases q:x∈t.map (·.1)
   .rw[aR q,aR (aP _ q)]
   .rw[aM q,aM (λz=>(aO.mp z).elim (λz=>e z.symm) q)]
theorem Kz (t:mL) (x y:Af) (i:Int):look (qQ t x i) y=if y=x then i else look t y:=by
 unfold qQ;by_cases h:x∈t.map (·.1)
 .rw[aR h];induction t with
  | nil=>simp at h
  | cons p t c =>
   rw[aK,rD,rD];by_cases e:p.1=x
   .rw[aR e];by_cases q:p.1=y
    .rw[aR q,aR (by rw[<- q,e])]
    .rw[aM q];by_cases a:x∈t.map (·.1)
     .rw[c a,aM q]
     .have:t.map (λp=>if p.1=x then (p.1,i) else p)=t:=by
       conv=>rhs;rw[<- jQ t]
       exact bV λr d=>aM λz=>a (by rw[<- z];exact eR (f:=λp:Af×Int=>p.1) d)
      rw[this,aM (λz=>q (by rw[e,z])),aM q]
   .rw[aM e];have a:x∈t.map (·.1):=(aO.mp h).resolve_left λz=>e z.symm
    by_cases q:p.1=y
    .rw[aR q,aM (λz=>e (by rw[q,z])),aR q]
    .rw[aM q,c a,aM q]
 .rw[aM h,Eu];by_cases q:y=x
  .rw[aR q,aM (by rw[q];exact h),rD,aR q.symm]
  .rw[aM q];by_cases b:y∈t.map (·.1)
   .rw[aR b]
   .rw[aM b,rD,aM (λz=>q z.symm),(qF t y).2 b |>.2];rfl
theorem Kt {K:mH}:∀ (t:mL) (g:Aa (dT×V)),(gV t).map (·.1)=g.map (·.1)->Reps K A H ((gV t).map (·.2)) (g.map (·.2))->g=vT t:=λt=>by
 induction t with
 | nil =>
  intro g k r;cases g with
  | nil=>rfl
  | cons p q=>simp[gV] at k
 | cons p t d =>
  intro g k r;cases g with
  | nil=>simp[gV] at k
  | cons q g =>
   obtain⟨e,i⟩:=q;simp only[gV,aK,fW] at k r;cases r with
   | cons f h =>
    have a:=d g k.2 h;have b:=f.int_inv;have c:Sum.inr p.1=e:=k.1;subst a b c;rfl
theorem Ir {K:mH}(h:Rep K A H (.k (gV t)) v):∃ a,v = .ref a/\A a/\H a=some (.k (vT t)):=by
 obtain⟨a,b,rfl,c,e,k,r⟩:=h.dK_inv;exact⟨a,rfl,c,by rw[e,Kt t b k r]⟩
theorem DD (t:mL):(gV t).map (·.1)=(vT t).map (·.1):=by simp[gV,vT,cJ]
theorem Wr {K:mH}:∀ t:mL,Reps K A H ((gV t).map (·.2)) ((vT t).map (·.2))
 | []=>.nil
 | _::t=>.cons (.int _) (Wr t)
theorem GJ {K:mH}(h:H a=some (.k (vT t))):pM K A H a (.k (gV t)):=⟨vT t,h,DD t,Wr t⟩
theorem Zk (g:(t.map (·.1)).Nodup) (h:p∈t):qA (vT t) (Sum.inr p.1)=some (.int p.2):=by
 induction t with
 | nil=>cases h
 | cons q t a =>
  obtain⟨c,d⟩:=bP.mp g;show ((((Sum.inr q.1:dT),V.int q.2)::vT t).find? λb=>decide (b.1=Sum.inr p.1)).map (·.2)=_;rw[cS];rcases aO.mp h with z | z
  .subst z;rw[bE rfl];rfl
  .have:¬ (Sum.inr q.1:dT)=Sum.inr p.1:=λe=>c (by show q.1∈t.map (·.1);rw[gC e];exact eR (f:=λp:Af×Int=>p.1) z)
   rw[bG this];exact a d z
theorem N7:∀ {x:Af},x∈t.map (·.1)->(x,look t x)∈t:=by
 induction t with
 | nil=>intro x h;simp at h
 | cons p t a =>
  intro x h;rw[rD];by_cases e:p.1=x
  .rw[aR e,<- e];exact aF
  .rw[aM e];exact aP _ (a ((aO.mp h).resolve_left λz=>e z.symm))
theorem zH (g:(t.map (·.1)).Nodup) (h:p∈t):look t p.1=p.2:=by
 induction t with
 | nil=>cases h
 | cons q t a =>
  obtain⟨b,c⟩:=bP.mp g;rw[rD];rcases aO.mp h with z | z
  .subst z;rw[aR rfl]
  .rw[aM (λe=>b (by show q.1∈t.map (·.1);rw[e];exact eR (f:=λp:Af×Int=>p.1) z)),a c z]
theorem SM (g:(t.map (·.1)).Nodup) (h:x∈t.map (·.1)):qA (vT t) (Sum.inr x)=some (.int (look t x)):=Zk g (p:=(x,look t x)) (N7 h)
end Lw
namespace L2
open PySem PySem.Spec PyProof.Rows Lw
def Ze (n m:Nat) (g:nF):qN:=λd c b=>∃ (t:mL) (x:Af),b[n]?=some (.o (.k (gV t)))/\b[m]?=some (.v (.str x))/\x∈t.map (·.1)/\(t.map (·.1)).Nodup/\t.length<=1000/\g d b λr a=>match r with
 | .v (.int j)=>a[n]?=some (.o (.k (gV t)))/\c.nx (a.set n (.o (.k (gV (qQ t x (look t x+j))))))
 | _=>False
section
variable {X:Cx}
theorem JH (hu:X.A.units+1<cLine) (U:PE X o (pT n)) (J:PE X i (pT m)) (I:PD X e te) (C:∀ l g new,augStore i l g new=(do holding [new,l,g] (setItem l g new);release [new,l,g] [];pure .next):=by intros;rfl) :
  vC X (.AugAssign (.Subscript o i p) .Add e pos) (Ze n m te) :=
 (SQ hu U J I FE C).mono λDn σ H u=>u.elim λB ρ T De s hd w S=>by
  obtain⟨t,x,P,O,R,V,lt,w⟩:=w;obtain⟨b,G,Y,_⟩:=hd.slotW s P;obtain⟨v,Q,pv⟩:=hd.peek s (d:=.str x) (i:=m) (by unfold at?;rw[O];rfl);have:=pv.str_inv;subst this;obtain⟨D,K,M,W⟩:=Y;rw[Kt t D M W] at K;refine⟨_,G,_,Q,b,.int (look t x),rfl,?_,B,ρ,T,_,s,hd,w,λr aa y H' L d1 a=>?_⟩
  .have:=qY.k (k:=(Sum.inr x:dT)) K;rw[SM V R] at this;exact this
  cases r<;>first | exact False.elim a | skip
  rename_i d
  cases d<;>first | exact False.elim a | skip
  rename_i j
  have:=d1.valAt.int_inv;subst this;obtain⟨N,a⟩:=a;obtain⟨b',c,F,Z⟩:=d1.drop.slotW L N;rw[G] at c;cases c;obtain⟨h,f,q,E⟩:=F;rw[Kt t h q E] at f;have z:(vT t).length<sizeLine:=by unfold vT;rw[List.length_map];exact cO lt (by decide)
  refine⟨_,_,rfl,rfl,_,wZ.k (k:=Sum.inr x) f z,?_⟩;rw[Zl];exact (S.1 _ _ _ (by rw[bO];exact L) rfl (Z _ (.k (gV (qQ t x (look t x+j)))) λA' kp=>GJ mZ)).1 a
end
end L2
namespace PySem
open PyProof.Rows L2
def oI (b:Bool) (h:Ag) (g t:Ad) (i:Nat):Prop:=match b with
 | true=>h.IsTupleIter g t i
 | false=>h.IsListIter g t i
def oR (b:Bool) (h:Ag) (a:Ad) (g:Array Ac):Prop:=match b with
 | true=>h.IsTuple a g
 | false=>h.IsList a g
theorem qI (x:oI b h g t i) (k:∀ o,h.get? g=some o->j.get? g=some o):oI b j g t i:=by
 cases b
 .exact let ⟨o,e,r⟩:=(show h.IsListIter g t i from x);⟨o,k o e,r⟩
 .exact let ⟨o,e,r⟩:=(show h.IsTupleIter g t i from x);⟨o,k o e,r⟩
theorem rV (x:oR b h a g) (k:∀ o,h.get? a=some o->j.get? a=some o):oR b j a g:=by
 cases b
 .exact let ⟨o,e,r⟩:=(show h.IsList a g from x);⟨o,k o e,r⟩
 .exact let ⟨o,e,r⟩:=(show h.IsTuple a g from x);⟨o,k o e,r⟩
theorem Cj (x:oI b h g t i):∃ o,h.get? g=some o:=by
 cases b
 .exact let ⟨o,e,_⟩:=(show h.IsListIter g t i from x);⟨o,e⟩
 .exact let ⟨o,e,_⟩:=(show h.IsTupleIter g t i from x);⟨o,e⟩
theorem B2 (x:oR b h a g):∃ o,h.get? a=some o:=by
 cases b
 .exact let ⟨o,e,_⟩:=(show h.IsList a g from x);⟨o,e⟩
 .exact let ⟨o,e,_⟩:=(show h.IsTuple a g from x);⟨o,e⟩
section
theorem B3 (I:oI b s.heap j t i) (T:oR b s.heap t l) (o:l[i]?=some x) (q:∀ g,oI b g j t (i+1)->Heap.SameBut j s.heap g->Q x { s with heap:=g }) :
  wpAny (model p w) A (Builtin.SmallTypes.nextOf (.ref j)) Q E s:=by
 cases b
 .exact wpAny_nextOf_list_item I T o q
 .exact BI I T o q
theorem Gp (calm:A.handled=none) (I:oI b s.heap p t i) (T:oR b s.heap t j) (l:j[i]?=none)
  (q:∀ g e,Heap.ExtBut p s.heap g->(∃ o,g.get? e=some o/\o.cls = .type "StopIteration")->E (.ref e) { s with heap:=g }):wpAny (model r w) A (Builtin.SmallTypes.nextOf (.ref p)) Q E s:=by
 cases b
 .exact wpAny_nextOf_list_end calm I T l q
 .exact NR calm I T l q
theorem Qc {I J:Bool}{z TI TO j l r C:Ad}{k1 k2:Nat}{xs ys:Array Ac}{x y a b:Ac}{Q:Ab Ac->Ae->Prop}(D:ZipApart z TI TO j l r C) (hz:IsZip s.heap z TI TO .none) (T:IsPair s.heap TI (.ref j) (.ref l)) (U:IsPair s.heap TO a b)
  (h1:oI I s.heap j r k1) (h2:oI J s.heap l C k2) (aa:oR I s.heap r xs) (ab:oR J s.heap C ys) (hx:xs[k1]?=some x) (hy:ys[k2]?=some y)
  (ac:∀ g,IsZip g z TI TO (rawInt s.heap.objs.size)->IsPair g TO x y->oI I g j r (k1+1)->oI J g l C (k2+1)->IsPair g s.heap.objs.size x y->g.objs.size=s.heap.objs.size+1 ->(∀ c o,c≠z->c≠TO->c≠j->c≠l->s.heap.get? c=some o->g.get? c=some o)->Q (some (.ref s.heap.objs.size)) { s with heap:=g }):wpAny (model ae w) A (pyNext (.ref z)) Q E s:=by
 have ty:s.TypeIs (.ref z) "zip" := ⟨_,hz,rfl⟩;unfold pyNext;refine aB (fP (cU (name:=Str.ofString "__next__") ty fX (dB fX ty kL (P5 (p:=a) (q:=b) hz T λg1 Y f=>?_) (jZ _))));have d:∀ c o,c≠z->s.heap.get? c=some o->g1.get? c=some o:=λc o n e=>f.extBut _ _ n e
 refine B3 (qI h1 λo e=>d _ o D.i1z e) (rV aa λo e=>d _ o D.l1z e) hx λg2 S h=>?_
 have i:∀ c o,c≠j->g1.get? c=some o->g2.get? c=some o:=λc o n e=>h.extBut _ _ n e
 refine⟨i _ _ D.TOi1 (d _ _ D.TOz U),λg3 W H=>?_⟩;have k:∀ c o,c≠TO->g2.get? c=some o->g3.get? c=some o:=λc o n e=>H.extBut _ _ n e
 refine B3 (qI h2 λo e=>k _ o D.TOi2.symm (i _ o D.i12.symm (d _ o D.i2z e))) (rV ab λo e=>k _ o D.l2TO (i _ o D.l2i1 (d _ o D.l2z e))) hy λF V K=>?_
 have t:∀ c o,c≠l->g3.get? c=some o->F.get? c=some o:=λc o n e=>K.extBut _ _ n e
 refine⟨t _ _ D.TOi2 W,λG X L=>?_⟩;have u:∀ c o,c≠TO->F.get? c=some o->G.get? c=some o:=λc o n e=>L.extBut _ _ n e
 have sz:G.objs.size=s.heap.objs.size:=by rw[L.1,K.1,H.1,h.1,f.1]
 refine⟨u _ _ D.TOz.symm (t _ _ D.i2z.symm (k _ _ D.TOz.symm (i _ _ D.i1z.symm Y))),λg M N O m=>?_⟩;rw[sz] at M N O |-;refine aE (ac g M (m _ _ D.TOz X) (qI S λo e=>m _ o D.i1z (u _ o D.TOi1.symm (t _ o D.i12 (k _ o D.TOi1.symm e)))) (qI V λo e=>m _ o D.i2z (u _ o D.TOi2.symm e)) N O λc o v B P R e=>?_);exact m c o v (u c o B (t c o R (k c o B (i c o P (d c o v e)))))
theorem W1 {b1 l:Bool}{z TI TO j I l1 l2:Ad}{k1 k2:Nat}{xs ys:Array Ac}{a b:Ac}{Q:Ab Ac->Ae->Prop}(calm:A.handled=none) (D:ZipApart z TI TO j I l1 l2) (hz:IsZip s.heap z TI TO .none) (aa:IsPair s.heap TI (.ref j) (.ref I)) (ab:IsPair s.heap TO a b)
  (h1:oI b1 s.heap j l1 k1) (h2:oI l s.heap I l2 k2) (C:oR b1 s.heap l1 xs) (ac:oR l s.heap l2 ys) (r:xs[k1]?=none\/ys[k2]?=none)
  (ae:∀ U,(∀ c o,c≠z->c≠TO->c≠j->c≠I->s.heap.get? c=some o->U.get? c=some o)->Q none { s with heap:=U }):wpAny (model J w) A (pyNext (.ref z)) Q E s:=by
 have ty:s.TypeIs (.ref z) "zip" := ⟨_,hz,rfl⟩;have f:∀ (g:Ag) (e:Ad),(∀ c o,c≠z->c≠TO->c≠j->c≠I->s.heap.get? c=some o->g.get? c=some o)->(∃ o,g.get? e=some o/\o.cls = .type "StopIteration")->IsZip g z TI TO .ellipsis ->
   Jp z TI TO (λe V=>wpAny (model J w) A (do if <- isInstance e (.type "StopIteration") then pure none else throw e) Q E V) (.ref e) { s with heap:=g }:=λg e k ⟨o,H,L⟩ O=>by
  refine⟨O,λU M=>?_⟩;have ne:e≠z:=λq=>by
   rw[q,O] at H;cases H;injection L with y;exact absurd y (by decide)
  exact aB (dO (T := "StopIteration") (b:=true) ⟨o,M.extBut _ _ ne H,L⟩ isSubtype_stop (aE (ae U λc o h v i B q=>M.extBut _ _ h (k c o h v i B q))))
 unfold pyNext;refine aB (fP (cU (name:=Str.ofString "__next__") ty fX (dB fX ty kL (P5 (p:=a) (q:=b) hz aa λg1 N F=>?_) (jZ _))));have d:∀ c o,c≠z->s.heap.get? c=some o->g1.get? c=some o:=λc o n e=>F.extBut _ _ n e
 rcases Option.eq_none_or_eq_some xs[k1]? with m | ⟨x,m⟩
 .exact Gp calm (qI h1 λo e=>d _ o D.i1z e) (rV C λo e=>d _ o D.l1z e) m λg2 e l W=>f g2 e (λc o h _ i _ q=>l c o i (d c o h q)) W (l _ _ D.i1z.symm N)
 .refine B3 (qI h1 λo e=>d _ o D.i1z e) (rV C λo e=>d _ o D.l1z e) m λg2 Y G=>?_
  have t:∀ c o,c≠j->g1.get? c=some o->g2.get? c=some o:=λc o n e=>G.extBut _ _ n e
  refine⟨t _ _ D.TOi1 (d _ _ D.TOz ab),λg3 Z S=>?_⟩;have u:∀ c o,c≠TO->g2.get? c=some o->g3.get? c=some o:=λc o n e=>S.extBut _ _ n e
  have P:ys[k2]?=none:=r.elim (λn=>by rw[n] at m;cases m) id;exact Gp calm (qI h2 λo e=>u _ o D.TOi2.symm (t _ o D.i12.symm (d _ o D.i2z e))) (rV ac λo e=>u _ o D.l2TO (t _ o D.l2i1 (d _ o D.l2z e))) P λR e K X=>f R e (λc o h v i B q=>K c o B (u c o v (t c o i (d c o h q)))) X (K _ _ D.i2z.symm (u _ _ D.TOz.symm (t _ _ D.i1z.symm N)))
end
section
theorem NJ {I J:Bool}{z TI TO T j l r C:Ad}{U k2:Nat}{f:Bool}{oT:Obj}{xs ys:Array Ac}{x y:Ac}{Q:Ac->Ae->Prop}(D:ZipApart z TI TO j l r C)
  (hz:yS s.heap z TI TO T f) (hT:s.heap.get? T=some oT) (aa:IsPair s.heap TI (.ref j) (.ref l))
  (h1:oI I s.heap j r U) (h2:oI J s.heap l C k2) (ab:oR I s.heap r xs) (ac:oR J s.heap C ys) (hx:xs[U]?=some x) (hy:ys[k2]?=some y)
  (hQ:∀ g,yS g z TI TO T true->oI I g j r (U+1)->oI J g l C (k2+1)->IsPair g s.heap.objs.size x y->g.objs.size=s.heap.objs.size+1 ->(∀ c o,c≠z->c≠j->c≠l->s.heap.get? c=some o->g.get? c=some o)->Q (.ref s.heap.objs.size) { s with heap:=g }) :
  wpAny (model ae w) A (Builtin.«zip.__next__» ⟨[.ref z],[]⟩) (λfin s'=>∃ v,fin = .done (.ret v)/\Q v s') E s:=by
 refine Qm hz hT aa λd K m=>?_
 have up1:∀ c o,c≠z->s.heap.get? c=some o->d.get? c=some o:=λc o n e=>m.extBut _ _ n e
 have there:oI I d j r U/\oI J d l C k2/\oR I d r xs/\oR J d C ys:=⟨qI h1 λo e=>up1 _ o D.i1z e,qI h2 λo e=>up1 _ o D.i2z e,rV ab λo e=>up1 _ o D.l1z e,rV ac λo e=>up1 _ o D.l2z e⟩;refine B3 there.1 there.2.2.1 hx λk G q=>?_
 have a:∀ c o,c≠j->d.get? c=some o->k.get? c=some o:=λc o n e=>q.extBut _ _ n e
 refine B3 (qI there.2.1 λo e=>a _ o D.i12.symm e) (rV there.2.2.2 λo e=>a _ o D.l2i1 e) hy λh H t=>?_
 have b:∀ c o,c≠l->k.get? c=some o->h.get? c=some o:=λc o n e=>t.extBut _ _ n e
 have i:h.objs.size=s.heap.objs.size:=t.1.trans (q.1.trans m.1);have more:∀ {c:Ad} {o p:Obj},h.get? c=some o->(h.push p).get? c=some o:=λe=>aG _ e
 refine wpAny_newTuple ⟨_,rfl,?_⟩ (hsz:=(show 2<=sizeLine by decide));have last:=hQ (h.push (seqObj "tuple" #[x,y] 0)) (more (b _ _ D.i2z.symm (a _ _ D.i1z.symm K))) (qI G λo e=>more (b _ o D.i12 e)) (qI H λo e=>more e) (i▸bB _ rfl) ((eA ..).trans (by rw[i]))
  λc o u B F e=>more (b _ _ F (a _ _ B (up1 _ _ u e)))
 rw[<- i] at last;exact last
theorem GS {TI TO:Ad}(hh:A.handled=none) (D:ZipApart z TI TO j U l l2)
  (hz:yS s.heap z TI TO T f) (hT:s.heap.get? T=some oT) (C:IsPair s.heap TI (.ref j) (.ref U))
  (h1:oI p s.heap j l k1) (h2:oI b2 s.heap U l2 k2) (I:oR p s.heap l xs) (J:oR b2 s.heap l2 ys) (g:xs[k1]?=none\/ys[k2]?=none)
  (hE:∀ r e,(∀ c o,c≠z->c≠j->c≠U->s.heap.get? c=some o->r.get? c=some o)->(∃ o,r.get? e=some o/\o.cls = .type "StopIteration")->E (.ref e) { s with heap:=r }) :
  wpAny (model aa w) A (Builtin.«zip.__next__» ⟨[.ref z],[]⟩) Q E s:=by
 refine Qm hz hT C λi M F=>?_
 have up1:∀ c o,c≠z->s.heap.get? c=some o->i.get? c=some o:=λc o n e=>F.extBut _ _ n e
 have there:oI p i j l k1/\oR p i l xs:=⟨qI h1 λo e=>up1 _ o D.i1z e,rV I λo e=>up1 _ o D.l1z e⟩;rcases Option.eq_none_or_eq_some xs[k1]? with b | ⟨x,b⟩
 .exact Gp hh there.1 there.2 b λk e t H=>hE k e (λc o d h _ q=>t c o h (up1 c o d q)) H
 .refine B3 there.1 there.2 b λk L G=>?_
  have a:∀ c o,c≠z->c≠j->s.heap.get? c=some o->k.get? c=some o:=λc o n m e=>G.extBut _ _ m (up1 c o n e)
  have y:ys[k2]?=none:=g.elim (λn=>by rw[n] at b;cases b) id;exact Gp hh (qI h2 λo e=>a _ o D.i2z D.i12.symm e) (rV J λo e=>a _ o D.l2z D.l2i1 e) y λB e u K=>hE B e (λc o d h v q=>u c o v (a c o d h q)) K
theorem Zq {TI TO:Ad}(D:ZipApart z TI TO r C U l2)
  (j:Em s.heap z TI TO r C) (I:oI b1 s.heap r U k) (J:oI b2 s.heap C l2 k) (l:oR b1 s.heap U xs) (p:oR b2 s.heap l2 ys) (hx:xs[k]?=some x) (hy:ys[k]?=some y)
  (hQ:∀ g,Em g z TI TO r C->oI b1 g r U (k+1)->oI b2 g C l2 (k+1)->IsPair g s.heap.objs.size x y->g.objs.size=s.heap.objs.size+1 ->(∀ c o,c≠z->c≠TO->c≠r->c≠C->s.heap.get? c=some o->g.get? c=some o)->Q (some (.ref s.heap.objs.size)) { s with heap:=g }) :
  wpAny (model aa w) A (pyNext (.ref z)) Q E s:=by
 obtain⟨d,⟨a,b,i⟩,j⟩:=j;obtain⟨V,P⟩:=Cj I;obtain⟨W,R⟩:=Cj J;have q:∀ {c o},s.heap.get? c=some o->s.heap.objs.size≠c:=λe=>(bK (bA e)).symm
 rcases j with j | ⟨T,f,o,j,F,G,S,H,K⟩
 .refine Qc D j d i I J l p hx hy λg t L u v n B h=>?_
  exact hQ g ⟨h _ _ D.TIz D.TITO D.TIi1 D.TIi2 d,⟨_,_,L⟩,.inr ⟨_,false,_,t,n,q j,q i,q P,q R⟩⟩ u v n B h
 .have m:s.TypeIs (.ref z) "zip" := ⟨_,j,rfl⟩;unfold pyNext;refine aB (fP (cU (name:=Str.ofString "__next__") m fX (dB fX m kL (NJ D j F d I J l p hx hy λg t u v n B h=>aE ?_) (jZ _))));exact hQ g ⟨h _ _ D.TIz D.TIi1 D.TIi2 d,⟨_,_,h _ _ D.TOz D.TOi1 D.TOi2 i⟩,.inr ⟨T,true,_,t,h _ _ G H K F,G,S,H,K⟩⟩ u v n B λc o M _ N O e=>h c o M N O e
theorem WK {TI TO:Ad}(hh:A.handled=none) (D:ZipApart z TI TO C I l1 l2)
  (j:Em s.heap z TI TO C I) (J:oI b1 s.heap C l1 k) (U:oI b2 s.heap I l2 k) (l:oR b1 s.heap l1 xs) (p:oR b2 s.heap l2 ys) (g:xs[k]?=none\/ys[k]?=none)
  (hQ:∀ r,(∀ c o,c≠z->c≠TO->c≠C->c≠I->s.heap.get? c=some o->r.get? c=some o)->Q none { s with heap:=r }):wpAny (model aa w) A (pyNext (.ref z)) Q E s:=by
 obtain⟨d,⟨a,b,i⟩,j⟩:=j;rcases j with j | ⟨T,f,o,j,t,B,F,G,H⟩
 .exact W1 hh D j d i J U l p g hQ
 .have h:s.TypeIs (.ref z) "zip" := ⟨_,j,rfl⟩;unfold pyNext;refine aB (fP (cU (name:=Str.ofString "__next__") h fX (dB fX h kL (GS hh D j t d J U l p g λr e x v=>?_) (jZ _))));obtain⟨o,y,u⟩:=v;refine aB (dO (T := "StopIteration") (b:=true) ⟨o,y,u⟩ isSubtype_stop ?_);exact aE (hQ _ λc o m _ n q e=>x c o m n q e)
end
section
variable {K:Type} [DecidableEq K] {knd:KeyKind prog w K}{A:Around}{R:Result->Ae->Prop}
theorem MB {TI TO:Ad}(hh:A.handled=none) (D:ZipApart z TI TO l p I J) (hd:d∉[z,TI,TO,l,p,I,J]) (more:Aa (K×Ac)) (hn:more.length=min U.size ys.size) (j:more.length<=sizeLine)
  (hT:∀ (i:Nat) x y,U[i]?=some x->ys[i]?=some y->∃ k,knd.is k x=true/\more[i]?=some (k,y)) (h0:Ag) :
  ∀ (m i:Nat) (s:Ae),more.length-i=m->i<=more.length->Em s.heap z TI TO l p->oI r s.heap l I i->oI C s.heap p J i->oR r s.heap I U->oR C s.heap J ys->(∀ b o,b∉[z,TO,l,p,d]->h0.get? b=some o->s.heap.get? b=some o)->s.heap.DictOf knd d (merged [] (more.take i)) ->
   (∀ g tk,(∀ b o,b∉[z,TO,l,p,d]->h0.get? b=some o->g.get? b=some o)->g.DictOf knd d (merged [] more)->R (.ok (.ret .none)) { s with heap:=g,toks:=tk }) ->
   codeAny (model prog w) A (.builtin "dict.update.loop" ⟨[.ref d,.ref z,.int (i:Int) 0,.none],[]⟩) R s:=by
 simp only[aO,bH,fL,mG] at hd;obtain⟨d1,d2,S,V,W,d6,d7⟩:=hd;have na:∀ {b:Ad},b∉[z,TO,l,p,d]->b≠z/\b≠TO/\b≠l/\b≠p/\b≠d:=λj=>by
  simpa only [aO,bH,fL,mG] using j
 intro m;induction m with
 | zero =>
  intro i s hm hi hz Z h2 c h kp H hR;have ei:i=more.length:=by omega
  subst ei;rw[bL (aW _)] at H;refine fV Ip ?_;rw[eY zQ _];show wpAny _ A.in1 (pyNext (.ref z) >>= _) _ _ s;refine aB (WK (by simpa using hh) D hz Z h2 c h ?_ λg B=>?_)
  .rcases Nat.le_total U.size ys.size with q | q
   .exact .inl (gB (by omega))
   .exact .inr (gB (by omega))
  .show wpAny _ A.in1 (Builtin.Dict.addKeywords d [] >>= _) _ _ _;refine aB (aE ?_);obtain⟨o,F,E,u,rest⟩:=H;exact aE (hR g _ (λb o j e=>let ⟨r,C,P,Q,b5⟩:=na j;B b o r C P Q (kp b o j e)) ⟨o,F,E,B d _ d1 S V W u,rest⟩)
 | succ m ih =>
  intro i s hm hi hz Z h2 c h kp H hR;have ab:i<more.length:=by omega
  obtain⟨x,hx⟩:∃ x,U[i]?=some x:=⟨_,cI (by omega)⟩;obtain⟨y,hy⟩:∃ y,ys[i]?=some y:=⟨_,cI (by omega)⟩;obtain⟨ky,N,t⟩:=hT i x y hx hy;refine fV Ip ?_;rw[eY zQ _];show wpAny _ A.in1 (pyNext (.ref z) >>= _) _ _ s;refine aB (Zq D hz Z h2 c h hx hy λg z' ac ae pr sz B=>?_);have aa:g.DictOf knd d (merged [] (more.take i)):=by
   obtain⟨o,F,E,u,rest⟩:=H;exact⟨o,F,E,B d _ d1 S V W u,rest⟩
  have af:oR r g I U:=rV c λo e=>B I o D.l1z D.l1TO D.l1i1 D.l1i2 e
  have ag:oR C g J ys:=rV h λo e=>B J o D.l2z D.l2TO D.l2i1 D.l2i2 e
  have pd:s.heap.objs.size≠d:=by
   obtain⟨o,F,E,u,rest⟩:=H;exact (bK (bA u)).symm
  show wpAny _ A.in1 (holding [Value.ref s.heap.objs.size] _ >>= _) _ _ _;refine aB (bY ?_);refine aB (wpAny_tryCatch ?_);unfold Builtin.Dict.pairItems;refine aB (fC (T := "tuple") ⟨_,pr,rfl⟩ ?_);rw[aR (by decide)];refine aB (fQ pr rfl ?_);refine aE ?_;show wpAny _ A.in1 (holding [x,y] (dictSet d x y)) _ _ _;refine bY ?_;have v:(merged [] (more.take i)).length<=sizeLine:=by
   have X:=merged_length_le ([]:Aa (K×Ac)) (more.take i);rw[fU,bS] at X;omega
  refine wpAny_dictSet_pairs (hsz:=v) N aa λG n sb=>?_
  rw[<- merged_take_succ [] more i (ky,y) t] at n;refine aE ⟨jB zQ _,?_⟩;have X:(rawInt ((i:Int)+1))=Value.int ((i+1:Nat):Int) 0:=by rfl
  rw[X];have up:∀ b o,b≠d->g.get? b=some o->G.get? b=some o:=λb o j e=>by rw[sb.2 b j];exact e
  have zz:Em G z TI TO l p:=by
   obtain⟨p1,⟨a,b,p2⟩,p3⟩:=z';refine⟨up _ _ (eI d2) p1,⟨a,b,up _ _ (eI S) p2⟩,?_⟩;rcases p3 with p3 | ⟨T,f,o,q1,q2,q3,q4,q5,q6⟩
   .exact .inl (up _ _ (eI d1) p3)
   .by_cases M:T=d
    .subst M;obtain⟨o',F,E,u,rest⟩:=n;exact .inr ⟨T,f,_,up _ _ (eI d1) q1,u,q3,q4,q5,q6⟩
    .exact .inr ⟨T,f,o,up _ _ (eI d1) q1,up _ _ M q2,q3,q4,q5,q6⟩
  refine ih (i+1) _ (by omega) ab zz (qI ac λo e=>up _ o (eI V) e) (qI ae λo e=>up _ o (eI W) e) (rV af λo e=>up _ o (eI d6) e) (rV ag λo e=>up _ o (eI d7) e) (λb o j e=>?_) n λY tk O L=>hR Y tk O L
  obtain⟨r,C,P,Q,b5⟩:=na j;exact up b o b5 (B b o r C P Q (kp b o j e))
theorem AS {TI TO:Ad}(hh:A.handled=none) (D:ZipApart z TI TO U i2 l1 l2)
  (T:IsZip s.heap z TI TO .none) (l:IsPair s.heap TI (.ref U) (.ref i2)) (C:IsPair s.heap TO .none .none) (h1:oI b1 s.heap U l1 0) (h2:oI b2 s.heap i2 l2 0) (I:oR b1 s.heap l1 xs) (J:oR b2 s.heap l2 ys)
  (hn:more.length=min xs.size ys.size) (g:more.length<=sizeLine) (hT:∀ (i:Nat) x y,xs[i]?=some x->ys[i]?=some y->∃ k,knd.is k x=true/\more[i]?=some (k,y))
  (h:∀ (j:Ag) (tk:Nat),j.DictOf knd s.heap.objs.size (merged [] more)->(∀ b o,b∉[z,TO,U,i2]->s.heap.get? b=some o->j.get? b=some o)->Q (.ref s.heap.objs.size) { s with heap:=j,toks:=tk }) :
  wpAny (model prog w) A (call (.type "dict") [.ref z]) Q E s:=by
 let d:=s.heap.objs.size;have made:(zZ s).heap.DictOf knd d []:=Heap.DictOf.new s.heap;have old:∀ b o,s.heap.get? b=some o->(zZ s).heap.get? b=some o:=λb o e=>aG _ e
 refine callType_codes F.kt_called_dict (F.kt_typeCall_dict_1 _) F.entry_dict_init (kt_code_dict_new _ (Q₁:=λv n=>v = .ref d/\n=zZ s) ⟨rfl,rfl⟩) λv n q=>?_
 obtain⟨rfl,rfl⟩:=q;refine⟨made.typeIs,F.args_dict_init_2 _ _,HU made.typeIs (old _ _ T) (by simp[hh]) λc tk e x=>⟨jB zQ _,?_⟩⟩;have keeps:∀ b o,s.heap.get? b=some o->c.get? b=some o:=λb o e=>x.keeps _ _ (old b o e)
 obtain⟨N,G⟩:=Cj h1;obtain⟨O,H⟩:=Cj h2;obtain⟨P,L⟩:=B2 I;obtain⟨S,M⟩:=B2 J;have a:∀ {b o},s.heap.get? b=some o->d≠b:=λe=>(bK (bA e)).symm
 have f:c.DictOf knd d []:=by
  obtain⟨o,u,t,p,r⟩:=made;exact⟨o,u,t,x.keeps _ _ p,r⟩
 refine MB (knd:=knd) (by simp[hh]) D ?_ more hn g hT s.heap more.length 0 _ rfl (dF _) ⟨keeps _ _ l,⟨_,_,keeps _ _ C⟩,.inl (keeps _ _ T)⟩ (qI h1 λo e=>keeps _ o e) (qI h2 λo e=>keeps _ o e) (rV I λo e=>keeps _ o e) (rV J λo e=>keeps _ o e) (λb o _ e=>keeps b o e) (by simpa [merged] using f) λj m B fin=>?_
 .simp only[aO,bH,fL,mG];exact⟨a T,a l,a C,a G,a H,a L,a M⟩
 .refine⟨rfl,h j m fin λb o g e=>B b o (λq=>?_) e⟩;simp only[aO,bH,fL,mG] at g q;rcases q with q | q | q | q | q
  .exact g.1 q
  .exact g.2.1 q
  .exact g.2.2.1 q
  .exact g.2.2.2 q
  .exact a e q.symm
end
noncomputable def rA (b:Bool) (t:Ad):Obj:={ cls:=.type (match b with | true => "tuple_iterator" | false => "list_iterator"),data:=.fields #[.ref t,.int 0 0] }
theorem Tf (b:Bool) (e:h.get? g=some (rA b t)):oI b h g t 0:=by
 cases b
 .exact⟨_,e,rfl,rfl⟩
 .exact⟨_,e,rfl,rfl⟩
theorem Ps (T:oR b s.heap l j) (q:Q (.ref s.heap.objs.size) { s with heap:=s.heap.push (rA b l) }):wpAny (model g w) A (pyIter (.ref l)) Q E s:=by
 cases b
 .exact fB T q
 .exact wpAny_pyIter_tuple T q
def Uc (g j:Bool) (h:Ag) (s t:Ad):Ag:=((((h.push (rA g s)).push (rA j t)).push (Cu (.ref h.objs.size) (.ref (h.push (rA g s)).objs.size))).push (Cu .none .none)).push (Ph ((h.push (rA g s)).push (rA j t)).objs.size (((h.push (rA g s)).push (rA j t)).push (Cu (.ref h.objs.size) (.ref (h.push (rA g s)).objs.size))).objs.size)
theorem GZ (j p:Bool) (l m:Ad) (C I:Array Ac):Meets (Builtin.«zip.__new__» ⟨[.type "zip",.ref l,.ref m],[]⟩) (λ_ R s=>oR j s.heap l C/\oR p s.heap m I /\ ∀ r,r=Uc j p s.heap l m->∀ n,n=s.heap.objs.size+4->R (.ok (.ret (.ref n))) { s with heap:=r }) :=
 .of_wp λf w A R s h=>by
  obtain⟨c,g,d,i,os⟩:=s;obtain⟨k,q,h⟩:=h;have under:=sub_zip;have a:oR j (Shared.heap ⟨c,g,d,i,os⟩) l C:=k;have b:oR p (Shared.heap ⟨c.push (rA j l),g,d,i,os⟩) m I:=rV q λo e=>aG _ e
  wp_walk using Ps a,Ps b
  refine⟨_,rfl,h _ rfl _ ?_⟩;rw[eA,eA,eA,eA]
section
theorem Ru (J:oR r s.heap l U) (T:oR C s.heap m ys)
  (q:∀ j,IsZip j (s.heap.objs.size+4) (s.heap.objs.size+2) (s.heap.objs.size+3) .none->IsPair j (s.heap.objs.size+2) (.ref s.heap.objs.size) (.ref (s.heap.objs.size+1))->IsPair j (s.heap.objs.size+3) .none .none ->oI r j s.heap.objs.size l 0->oI C j (s.heap.objs.size+1) m 0->j.objs.size=s.heap.objs.size+5->(∀ c o,s.heap.get? c=some o->j.get? c=some o)->Q (.ref (s.heap.objs.size+4)) { s with heap:=j }) :
  wpAny (model I w) A (call (.type "zip") [.ref l,.ref m]) Q E s:=by
 refine callType_new F.called_zip (by decide) (F.typeCall_zip_2 _ _) (F.newCall_zip_2 _ _) (λobj=>F.args_object_init_3 obj _ _) F.entry_zip_new (GZ r C l m U ys) ⟨J,T,λj e n t=>?_⟩;subst e t;have d:(s.heap.push (rA r l)).objs.size=s.heap.objs.size+1:=eA ..;have h:((s.heap.push (rA r l)).push (rA C m)).objs.size=s.heap.objs.size+2:=by rw[eA,d]
 have i:∀ p,(((s.heap.push (rA r l)).push (rA C m)).push p).objs.size=s.heap.objs.size+3:=λp=>by rw[eA,h]
 have k:∀ p q,((((s.heap.push (rA r l)).push (rA C m)).push p).push q).objs.size=s.heap.objs.size+4:=λp q=>by rw[eA,i]
 have b:∀ (g:Ag) (o:Obj) (n:Nat),o.isFreed=false->g.objs.size=n->(g.push o).get? n=some o:=λg o n f e=>by rw[<- e];exact bB _ f
 have a:∀ {g:Ag} {o p:Obj} {c:Ad},g.get? c=some o->(g.push p).get? c=some o:=λe=>aG _ e
 unfold Uc;rw[d,h,i];have z:=b ((((s.heap.push (rA r l)).push (rA C m)).push (Cu (.ref s.heap.objs.size) (.ref (s.heap.objs.size+1)))).push (Cu .none .none)) (Ph (s.heap.objs.size+2) (s.heap.objs.size+3)) _ rfl (k _ _);exact⟨⟨_,z,rfl⟩,q _ z (a (a (b _ _ _ rfl h))) (a (b _ _ _ rfl (i _))) (Tf r (a (a (a (a (bB _ rfl)))))) (Tf C (a (a (a (b _ _ _ rfl d))))) (by rw[eA,k]) λc o e=>a (a (a (a (a e))))⟩
end
end PySem
namespace L2
open PySem PySem.Spec PyProof.Rows
def rT (b:Bool) (K:mH) (H:Hp) (a:Ad) (g:Aa V):Prop:=match b with
 | true=>nG K H a g
 | false=>mK K H a g
section
variable {X:Cx}
theorem Inv.seqB (I:Inv X j o H s) (h:rT b X.K H a l):∃ g:Aa Ac,mV l g/\oR b s.heap a g.toArray:=by
 cases b
 .obtain⟨g,r,p,_⟩:=I.list h;exact⟨g,r,p.isList⟩
 .obtain⟨g,r,p,_⟩:=I.tuple h;exact⟨g,r,p⟩
theorem Inv.seqB_inj (I:Inv X j p H s) (h:rT b X.K H a l) (g:rT b X.K H a o):l=o:=by
 cases b
 .exact I.list_inj h g
 .exact I.tuple_inj h g
theorem Ve (x:oI b h g t i):∃ o,h.get? g=some o/\∀ v,o.data ≠ .cell v:=by
 cases b
 .obtain⟨o,e,_,d⟩:=(show h.IsListIter g t i from x);exact⟨o,e,λv z=>by rw[d] at z;cases z⟩
 .obtain⟨o,e,_,d⟩:=(show h.IsTupleIter g t i from x);exact⟨o,e,λv z=>by rw[d] at z;cases z⟩
end
def Ka (g j:Bool) (K:mH) (a b:Ad):It :=
 ⟨λi H=>∃ c d x y,rT g K H a c/\rT j K H b d/\c[i]?=some x/\d[i]?=some y,λi H v e=>∃ p x y,H p=none/\v = .ref p/\e=upd H p (.t [x,y])/\(∀ c,rT g K H a c->c[i]?=some x)/\(∀ d,rT j K H b d->d[i]?=some y),λi H=>∃ c d,rT g K H a c/\rT j K H b d/\(c.length<=i\/d.length<=i)⟩
def OL (l o:Bool) (a b z TI TO g j:Ad) (i:Nat) (h:Ag):Prop:=IsZip h z TI TO .none/\IsPair h TI (.ref g) (.ref j)/\(∃ u v,IsPair h TO u v)/\oI l h g a i/\oI o h j b i
theorem AW {P:Ah}{K:mH}{TI TO:Ad}(D:ZipApart z TI TO i1 i2 a b) :
  Turn P w K (.Tuple ac x1 pos) (Ka b1 b2 K a b) [z,TI,TO,i1,i2] z (OL b1 b2 a b z TI TO i1 i2) where
 mem:=by simp
 obj:=λi h st c F=>by
  obtain⟨n,t,⟨u,v,A⟩,f,m⟩:=st;obtain⟨o4,f,d4⟩:=Ve f;obtain⟨o5,m,d5⟩:=Ve m;simp only[aO,bH,fL] at F;rcases F with e | e | e | e | e<;>subst e
  .exact⟨_,n,λv z=>nomatch z⟩
  .exact⟨_,t,λv z=>nomatch z⟩
  .exact⟨_,A,λv z=>nomatch z⟩
  .exact⟨_,f,d4⟩
  .exact⟨_,m,d5⟩
 keep:=λi h h' st k=>by
  obtain⟨n,t,⟨u,v,A⟩,f,m⟩:=st;exact⟨k z (by simp) _ n,k TI (by simp) _ t,⟨u,v,k TO (by simp) _ A⟩,qI f λo e=>k i1 (by simp) o e,qI m λo e=>k i2 (by simp) o e⟩
 item:=by
  intro X Y hw W F i L s σ H E I N st Z;subst Y hw W;obtain⟨n,t,⟨u,v,A⟩,f,m⟩:=st;obtain⟨xs,ys,x,y,O,Q,hx,hy⟩:=Z;obtain⟨l,U,r⟩:=I.seqB O;obtain⟨p,ry,py⟩:=I.seqB Q;obtain⟨ux,g,J⟩:=U.get hx;obtain⟨uy,j,T⟩:=ry.get hy;refine Qc D n t A f m r py (x:=ux) (y:=uy) (by simpa using g) (by simpa using j) λh' n1 n2 n3 n4 n5 n6 n7=>?_
  refine⟨_,rfl,wpAny_letOwnedTupleGo_zip n1 λh2 m1 B=>?_⟩;have kp:∀ c o,c∉[z,TI,TO,i1,i2]->s.heap.get? c=some o->h2.get? c=some o:=λc o d e=>by
   simp only[aO,bH,fL,mG] at d;obtain⟨M,e2,R,S,V⟩:=d;exact B.extBut c o M (n7 c o M R S V e)
  have zs:s.heap.objs.size≠z:=λe=>eM _ (by have:=bA n;rw[<- e] at this;exact this)
  have nt:yB h2 s.heap.objs.size [ux,uy].toArray:=⟨⟨_,B.extBut _ _ zs n5,rfl,_,rfl⟩,_,B.extBut _ _ zs n5,rfl⟩;have I2:=I.movedT (t':=s.toks) (ys:=[x,y]) N kp nt (.cons J (.cons T .nil)) (by show 2<=sizeLine;decide);refine⟨.ref s.heap.objs.size,_,I2,rfl,⟨_,x,y,I.fresh,rfl,rfl,λae C=>by rw[I.seqB_inj C O];exact hx,λaf C=>by rw[I.seqB_inj C Q];exact hy⟩,⟨m1,?_,⟨ux,uy,?_⟩,?_,?_⟩,λc d=>?_⟩
  .exact B.extBut _ _ D.TIz (n7 TI _ D.TIz D.TITO D.TIi1 D.TIi2 t)
  .exact B.extBut _ _ D.TOz n2
  .exact qI n3 λo e=>B.extBut _ o D.i1z e
  .exact qI n4 λo e=>B.extBut _ o D.i2z e
  .rw[mQ]
   .exact (N c d).1
   .intro e;obtain⟨o,ho⟩:∃ o,s.heap.get? c=some o:=by
     obtain⟨o4,aa⟩:=Cj f;obtain⟨o5,ab⟩:=Cj m;simp only[aO,bH,fL] at d;rcases d with q | q | q | q | q<;>rw[q]
     .exact⟨_,n⟩
     .exact⟨_,t⟩
     .exact⟨_,A⟩
     .exact⟨_,aa⟩
     .exact⟨_,ab⟩
    have:=bA ho;rw[e] at this;exact eM _ this
 done:=by
  intro X Y hw W F i L s σ H E I N st Z;subst Y hw W;obtain⟨n,t,⟨u,v,A⟩,f,m⟩:=st;obtain⟨xs,ys,O,Q,G⟩:=Z;obtain⟨l,U,r⟩:=I.seqB O;obtain⟨p,ry,py⟩:=I.seqB Q;have lx:=U.length;have ly:=ry.length;refine W1 (I.ok.hd F) D n t A f m r py ?_ λh' k=>⟨rfl,I.moved (t':=s.toks) N λc o d e=>?_⟩
  .rcases G with q | q
   .exact .inl (by simp;omega)
   .exact .inr (by simp;omega)
  .simp only[aO,bH,fL,mG] at d;obtain⟨M,e2,R,S,V⟩:=d;exact k c o M R S V e
 self:=λ_ _ _ _ _ st h=>wpAny_pyIter_zip st.1 h
section
variable {X:Cx}
def TK (K:mH) (g:TA):TI:=λk H R=>g k H λf c=>∃ a b d e,f=[.ref a,.ref b]/\(∃ h,rT d K c a h)/\(∃ i,rT e K c b i)/\R (Ka d e K a b) c
theorem LM (C:Gl X "zip") (J:X.mg "zip" = none) (r:PA X [j,g] U) (T:starEach [j,g] X.env=(false,eval j X.env)::starEach [g] X.env:=by rfl)
  (l:(backTo pos (starEach [g] X.env)).any (·.1)=false:=by rfl):PI X (.Tuple o x1 ps) (.Call (.Name "zip" p) [j,g] [] pos) (TK X.K U):=by
 intro f s A H R I h;refine Call_ (vZ I C J boot_zip (cR (mM (r pos f s A H _ I h) λus d n=>?_) T l));obtain⟨vs,t,i,V,P⟩:=n;obtain⟨a,b,Z,b2,rfl,⟨xs,Q⟩,⟨ys,S⟩,q⟩:=P;obtain⟨u,v,rfl,W,Y⟩:=Fj V;cases W;cases Y;obtain⟨E,rx,y⟩:=i.seqB Q;obtain⟨F,ry,py⟩:=i.seqB S;have k:a<d.heap.objs.size:=by obtain⟨_,e⟩:=B2 y;exact bA e
 have m:b<d.heap.objs.size:=by obtain⟨_,e⟩:=B2 py;exact bA e
 refine Ru y py λD x G L M N n6 O=>?_
 have B:Inv X f A t { d with heap:=D }:=i.kept (t':=d.toks) O;refine wpAny_pyIter_zip x ⟨_,[_,_,_,_,_],_,_,t,rfl,B,AW (a:=a) (b:=b) (i1:=d.heap.objs.size) (i2:=d.heap.objs.size+1) (z:=d.heap.objs.size+4) (TI:=d.heap.objs.size+2) (TO:=d.heap.objs.size+3) ?_,⟨x,G,⟨_,_,L⟩,M,N⟩,λc w=>?_,q⟩
 .constructor<;>first | exact bK k | exact bK m | exact bK (bI k (gE _ _)) | exact bK (bI m (gE _ _)) | exact iD k | exact iD m | exact iD (bI k (gE _ _)) | exact iD (bI m (gE _ _)) | exact (by show (_:Nat)≠_;omega)
 .simp only[aO,bH,fL] at w;rcases w with e | e | e | e | e<;>(subst e;exact i.fpOk (by omega) (i.hok.fresh (by omega)))
variable {K:mH}
def zC:D->Ab (Bool×Aa D)
 | .l a=>some (false,a)
 | .t a=>some (true,a)
 | _=>none
theorem J6 (e:zC d=some (b,j)) (r:Rep K A H d v):∃ a g,v = .ref a/\rT b K H a g/\Reps K A H j g:=by
 cases d<;>first | cases e | skip
 .obtain⟨a,g,rfl,h,r⟩:=r.tup_inv;exact⟨a,g,rfl,nG.of h,r⟩
 .obtain⟨a,g,rfl,_,h,r⟩:=r.lst_inv;exact⟨a,g,rfl,mK.of h,r⟩
def Bh (g j:Aa D):Aa D:=g.zipWith (λx y=>D.t [x,y]) j
theorem V4 (g j:Aa D):(Bh g j).length=min g.length j.length:=List.length_zipWith
theorem Zd {g j:Aa D}{i:Nat}{x y:D}(l:g[i]?=some x) (o:j[i]?=some y):(Bh g j)[i]?=some (.t [x,y]):=by
 unfold Bh;rw[List.getElem?_zipWith,l,o]
theorem UU {d1 d2:D}(r:zC d1=some (g,l)) (C:zC d2=some (j,o)):YD K (Ka g j K a b) (Bh l o) [(.v d1,some (.ref a)),(.v d2,some (.ref b))]:=by
 have key:∀ A H,zS K A H [(.v d1,some (.ref a)),(.v d2,some (.ref b))]->(∃ d,rT g K H a d/\Reps K A H l d)/\∃ c,rT j K H b c/\Reps K A H o c:=λA H ok=>by
  obtain⟨v,E,h⟩:=ok (.v d1,some (.ref a)) aF;obtain⟨u,F,k⟩:=ok (.v d2,some (.ref b)) (aP _ aF);cases E;cases F;obtain⟨N,d,G,e,s⟩:=J6 r h;obtain⟨O,c,L,f,t⟩:=J6 C k;cases G;cases L;exact⟨⟨d,e,s⟩,c,f,t⟩
 refine⟨rfl,λi H A m ok=>?_,λi H A x M m ok y=>?_,λi H A m ok=>?_⟩
 .obtain⟨⟨d,e,h⟩,c,f,k⟩:=key A H ok;rw[V4,h.length,k.length] at m;exact⟨d,c,d[i]'(by omega),c[i]'(by omega),e,f,aH _,aH _⟩
 .obtain⟨⟨d,e,h⟩,c,f,k⟩:=key A H ok;obtain⟨p,R,S,w,rfl,rfl,z,B⟩:=y;obtain⟨P,n,s⟩:=h.getV (z d e);obtain⟨Q,q,t⟩:=k.getV (B c f);exact⟨_,Zd n q,.inr ⟨p,_,_,w,rfl,rfl,rfl,.cons s (.cons t .nil)⟩⟩
 .obtain⟨⟨d,e,h⟩,c,f,k⟩:=key A H ok;rw[V4,h.length,k.length] at m;exact⟨d,c,e,f,by omega⟩
def HW (g:tY):vW:=λf i h=>g f i λas a=>match as with
 | [.t d1,.t d2]=>∃ d e b c,zC d1=some (d,b)/\zC d2=some (e,c)/\h (Bh b c) a
 | _=>False
theorem N6 (I:Gl X "zip") (J:X.mg "zip" = none) (C:tG X [j,g] ta) (U:starEach [j,g] X.env=(false,eval j X.env)::starEach [g] X.env:=by rfl)
  (l:(backTo pos (starEach [g] X.env)).any (·.1)=false:=by rfl):wU X (.Tuple o x1 ps) (.Call (.Name "zip" p) [j,g] [] pos) (HW ta) :=
 (LM I J C U l).mono λA H R d=>d.elim λB z T G q hd s k=>⟨B,z,T,_,q,hd,s,λas e D i u ok d1 c=>by
  cases ok with
  | nil=>exact False.elim c
  | al _ ok=>exact False.elim c
  | t ok =>
   cases ok with
   | nil=>exact False.elim c
   | al _ ok=>cases ok<;>exact False.elim c
   | t ok =>
    cases ok with
    | al _ ok=>exact False.elim c
    | t ok=>exact False.elim c
    | nil =>
     obtain⟨m,n,E,F,f,h,c⟩:=c;have r:=d1.temps (σ:=A) (.t (.t .nil)) _ rfl;cases r with
     | cons v r =>
      cases r with
      | cons w r =>
       obtain⟨a,x,rfl,g1,_⟩:=J6 f v;obtain⟨b,y,rfl,g2,_⟩:=J6 h w;exact⟨a,b,m,n,rfl,⟨x,g1⟩,⟨y,g2⟩,k _ _ e [_,_] i u d1 (UU f h) c⟩⟩
end
end L2
namespace L2
open PySem PySem.Spec PyProof.Rows Lw
section
variable {X:Cx}
def WC (K:mH) (g:TA):TE:=λi H Q=>g i H λh a=>∃ (e f:Bool) (l m:Ad) (b:Aa dT) (c:Aa V),h=[.ref l,.ref m]/\rT e K a l (b.map kV)/\rT f K a m c/\b.length<=1000/\∀ d,a d=none->Q (.ref d) (upd a d (.k (rY [] (b.zip c))))
theorem EQ (j:X.calm=true) (hg:Gl X "dict") (hm:X.mg "dict" = none) (r:Gl X "zip") (C:X.mg "zip" = none) (ha:PA X [a,b] ta)
  (hs:starEach [a,b] X.env=(false,eval a X.env)::starEach [b] X.env:=by rfl) (J:(backTo g (starEach [b] X.env)).any (·.1)=false:=by rfl) :
  PE X (.Call (.Name "dict" p) [.Call (.Name "zip" p') [a,b] [] g] [] pos) (WC X.K ta):=by
 intro z s σ H Q I h;refine eX (vZ I hg hm boot_dict ?_ (by decide) (by decide));refine cR ?_ rfl rfl;show wpAny _ _ (spliced ((false,eval (.Call (.Name "zip" p') [a,b] [] g) X.env)::backTo pos (starEach [] X.env))) _ _ s;refine iE ?_;refine eX (vZ I r C boot_zip ?_ (by decide) (by decide));refine cR (mM (ha g z s σ H _ I h) λus B M=>?_) hs J;obtain⟨xs,H1,t,S,q1⟩:=M;obtain⟨b1,b2,l,m,c,E,rfl,hl,hv,hn,q⟩:=q1;obtain⟨Z,T,rfl,W,Y⟩:∃ Z T,us=[Z,T]/\mX (.ref l) Z/\mX (.ref m) T:=by
  cases S with | cons S V=>cases V with | cons V r3=>cases r3;exact⟨_,_,rfl,S,V⟩
 cases W;cases Y;obtain⟨N,r',R⟩:=t.seqB hl;obtain⟨f,A,n⟩:=t.seqB hv;refine Ru R n λD z1 z2 z3 z4 z5 z6 U=>?_
 refine jT ?_;have L1:=r'.length;have L2:=A.length;rw[aA] at L1;have F:=P4 c A;have O:l<B.heap.objs.size:=by obtain⟨_,e⟩:=B2 R;exact bA e
 have P:m<B.heap.objs.size:=by obtain⟨_,e⟩:=B2 n;exact bA e
 refine AS (knd:=pK X.prog X.w) (more:=c.zip f) (s:={ B with heap:=D }) (t.ok.hd j) (zipApart_new O P) z1 z2 z3 z4 z5 (rV R λo e=>U _ o e) (rV n λo e=>U _ o e) ?_ ?_ ?_ λh2 tk hD hk=>?_
 .rw[iL,aZ,aZ];omega
 .rw[iL];exact eP (cO (show min c.length f.length<=1000 by omega) (by decide))
 .intro i x y v G;have v:N[i]?=some x:=by simpa using v
  have G:f[i]?=some y:=by simpa using G
  obtain⟨hi,_⟩:=aX.mp v;obtain⟨u,hu,ru⟩:=r'.get (i:=i) (x:=kV (c[i]'(by omega))) (by simp[show i<c.length by omega]);rw[hu] at v;cases v;refine⟨c[i]'(by omega),zK ru,?_⟩;rw[List.getElem?_zip_eq_some];exact⟨aH _,G⟩
 .have L:(rY [] (c.zip E)).length<=sizeLine:=by
   have h1:=Gi (c.zip E) [];rw[fU,iL] at h1;exact eP (cO (show (rY [] (c.zip E)).length<=1000 by omega) (by decide))
  have d:B.heap.objs.size<=D.objs.size:=by omega
  have kp:∀ b o,B.heap.get? b=some o->h2.get? b=some o:=λb o e=>hk b o (λq=>by
   have:=bA e;simp only[aO,bH,fL] at q;rcases q with q | q | q | q<;>rw[q] at this<;>first | exact absurd this (eM _) | exact absurd this (Nat.not_lt.mpr (gE _ _))) (U b o e)
  refine⟨.ref D.objs.size,_,t.laid (a:=D.objs.size) (o:=.k (rY [] (c.zip E))) (t':=tk) kp d ?_,rfl,q _ (t.hok.fresh d)⟩;exact Dh L (cY.mpr (eI (bK (bI t.big d)))) (F.merge .nil) hD
end
section
variable {X:Cx}{K:mH}
def Qp:OC:=λf h=>match f with
 | [d1,d2]=>∃ d e b c a,zC d1=some (d,b)/\zC d2=some (e,c)/\yF b=some a/\a.length<=1000/\h (.o (.k (pW [] (a.zip c))))
 | _=>False
theorem Qh (e:zC d=some (b,j)) (r:nJ K A H d v):∃ a g,v = .ref a/\rT b K H a g/\Reps K A H j g:=by
 cases d<;>first | cases e | skip
 .obtain⟨a,g,rfl,h,r⟩:=Rep.tup_inv r;exact⟨a,g,rfl,nG.of h,r⟩
 .obtain⟨a,g,rfl,h,r⟩:=r.lst_inv;exact⟨a,g,rfl,mK.of h,r⟩
theorem HD:qZ K (λC H Q=>∃ (o r:Bool) (l m:Ad) (g:Aa dT) (j:Aa V),C=[.ref l,.ref m]/\rT o K H l (g.map kV)/\rT r K H m j/\g.length<=1000/\∀ d,H d=none->Q (.ref d) (upd H d (.k (rY [] (g.zip j))))) Qp:=by
 intro B L H h C N Q hd f c k
 match h,c with
 | [d1,d2],c =>
  obtain⟨x,y,rfl,v,py⟩:=Ez f;obtain⟨o,r,C,M,g,i,n,t,u,c⟩:=c;obtain⟨a,G,rfl,q,A⟩:=Qh i v;obtain⟨b,j,rfl,s,D⟩:=Qh n py;have e:=HB t A;subst e;obtain⟨E,F⟩:=R5 g D;obtain⟨w,z⟩:=He (kvs:=[]) (vs:=[]) E F rfl .nil;exact⟨o,r,a,b,g,j,rfl,q,s,u,λp f=>k _ _ _ c (hd.dKF f w z)⟩
theorem Ai (g:X.calm=true) (I:Gl X "dict") (J:X.mg "dict" = none) (l:Gl X "zip") (o:X.mg "zip" = none) (C:tG X [a,b] U)
  (T:starEach [a,b] X.env=(false,eval a X.env)::starEach [b] X.env:=by rfl) (r:(backTo j (starEach [b] X.env)).any (·.1)=false:=by rfl) :
  PD X (.Call (.Name "dict" p) [.Call (.Name "zip" p') [a,b] [] j] [] pos) (dC Qp U):=(EQ g I J l o C T r).mono λ_ _ _ h=>Ks HD h
end
end L2
namespace Lw
open PySem L2
structure WtOk (b:Int) (t:mL):Prop where
 nd:(t.map (·.1)).Nodup
 l:t.length<=60
 bd:∀ p∈t,-b<=p.2/\p.2<=b
theorem Qo (t:mL) (x:Af) (i:Int):(qQ t x i).map (·.1)=if x∈t.map (·.1) then t.map (·.1) else t.map (·.1)++[x]:=by
 unfold qQ;by_cases h:x∈t.map (·.1)
 .rw[aR h,aR h,aJ];refine bV λp _=>?_
  show (if p.1=x then (p.1,i) else p).1=p.1;by_cases q:p.1=x
  .rw[aR q]
  .rw[aM q]
 .rw[aM h,aM h,aQ];rfl
theorem EY (h:p∈qQ t x i):p∈t\/p=(x,i):=by
 unfold qQ at h;by_cases a:x∈t.map (·.1)
 .rw[aR a] at h;obtain⟨q,b,e⟩:=aI.mp h;by_cases z:q.1=x
  .rw[aR z] at e;exact .inr (by rw[<- e,z])
  .rw[aM z] at e;exact .inl (e▸b)
 .rw[aM a] at h;rcases aU.mp h with h | h
  .exact .inl h
  .exact .inr (aV.mp h)
theorem EX (h:(t.map (·.1)).Nodup):((qQ t x i).map (·.1)).Nodup:=by
 rw[Qo];by_cases c:x∈t.map (·.1)
 .rw[aR c];exact h
 .rw[aM c];exact bD.mpr ⟨h,by simp,λa d b f e=>by rw[aV.mp f] at e;exact c (e▸d)⟩
theorem UI (t:mL) (x:Af) (i:Int):(qQ t x i).length<=t.length+1:=by
 have:=cC List.length (Qo t x i);rw[aA] at this;by_cases a:x∈t.map (·.1)
 .rw[aR a,aA] at this;omega
 .rw[aM a,bF,aA] at this;simp at this;omega
theorem IE:(pJ.all λk=>(nI (kN k)).all λp=>match intText? p.2 with | some v=>decide (-9<=v)&&decide (v<=9) | none=>true)=true:=by decide +kernel
theorem WM (g:k∈pJ) (j:p∈nI (kN k)) (l:intText? p.2=some v):-9<=v/\v<=9:=by
 have:=cF.mp (cF.mp IE k g) p j;rw[l] at this
 simpa using this
def rQ (k:Kit):mL:=(nI (kN k)).map λp=>(p.1,(intText? p.2).getD 0)
theorem SY:(pJ.all λk=>decide (((rQ k).map (·.1)).Nodup))=true:=by decide +kernel
theorem NQ (g:k∈pJ):((rQ k).map (·.1)).Nodup:=cD (cF.mp SY k g)
theorem TH (h:x∈t.map (·.1)):mU (t++u) x=mU t x:=by
 have:=(Ey (t++u) x).1 (by rw[aQ];exact aT _ h);have b:=(Ey t x).1 h;unfold mU;rw[List.find?_append];cases e:t.find? (λp=>decide (p.1=x)) with
 | some p=>rfl
 | none =>
  obtain⟨p,a,rfl⟩:=aI.mp h;exact absurd (bE rfl) (lQ.mp e p a)
def Iw (k:Kit) (C:Cel) (al:Aa (Af×Af)) (g:mL):Prop:=∃ (a:Aw) (b:Aa Af) (r:Af->Af),(kI k++(a++(kG k).map nB).map (·.1)).Nodup/\oO (kI k) (a++(kG k).map nB)/\(∀ e∈b,e∈a.map (·.1))/\(kO k++b).Nodup/\b.length<=1/\a.length<=18 /\
 (∀ x∈kI k++(a++(kG k).map nB).map (·.1),∀ y∈kI k++(a++(kG k).map nB).map (·.1),r x=r y->x=y)/\C.ins.Perm ((kI k).map r)/\C.gates=(a++(kG k).map nB).map (ren r)/\C.outs.Perm ((kO k++b).map r)/\al.Perm ((nI (kP k)).map λp=>(r p.1,r p.2)) /\
 (∀ x∈kI k++(a++(kG k).map nB).map (·.1),x ≠ "-" /\ x ≠ "") /\
 look g "" = look (rQ k) "-" /\ ∀ x∈kI k++(a++(kG k).map nB).map (·.1),look g (r x)=look (rQ k) x
theorem DR:∀ i<19,oQ i ≠ "" := by decide +kernel
def Ux:RD:=λb e f=>∃ (d c:Ad) (k:Kit),b=[d,c]/\e=[.r (.ref d),tH k]/\k∈pJ/\∀ C al a,GoodRow C al->WtOk 9 a->Iw k C al a->f (.o (.l [Jh C al,.k (gV a)]))
abbrev vF (d:Ad) (k:Kit) (C I J T U s7 s8 s9 g j l o p:Sl):Aa Sl:=[.v (.r (.ref d)),.v (tH k),C,I,J,T,U,s7,s8,s9,g,j,l,o,p]
theorem DN (h:x∉t.map (·.1)) (g:t.length<100000):vU (.k (nU t)) (.str x) (.str n)=some (.k (nU (t++[(x,n)]))):=by
 simp only[vU,aR (show (nU t).length<100000 by simpa [nU] using g)];show some (D.k (nD (nU t) (Sum.inr x) (.str n)))=_;rw[Ql h]
abbrev sl (g:Aa Af):D:=.l (g.map D.str)
def pF (n:Nat):Aa D:=(List.range n).map λi=>D.str (oQ i)
abbrev xC (d:Ad) (k:Kit) (a g j l:Sl):Aa Sl:=vF d k (.o (sl (kI k))) a (.o (sl (kP k))) (.o (sl (kN k))) g j l .n .n .n .n .n .n
abbrev Ba (d:Ad) (k:Kit) (n:Nat) (G:Aa (Aa Af)) (j:Sl) (g:Aa Af) (a b c e:Sl):Aa Sl:=vF d k a b (.o (sl (kP k))) (.o (sl (kN k))) (.v (.l (pF n))) (.v (.l (G.map qJ))) j (.v (sl (kI k++g))) c e .n .n .n
abbrev Bc (d:Ad) (k:Kit) (n:Nat) (G:Aa (Aa Af)) (r:Sl) (g:Aa Af) (t:Aa (Af×Af)) (j p:Aa Af) (a b c e f:Sl):Aa Sl:=vF d k (.o (sl (j.map (mU t)))) (.o (sl (p.map (mU t)))) (.v (sl (kP k))) a (.v (.l (pF n))) (.v (.l (G.map qJ))) r (.v (sl (kI k++g))) b (.o (.l (G.map λl=>vN (ren (mU t) (nB l))))) c e f
theorem NK:(["k"]:Aa Af).Nodup:=by decide +kernel
theorem IU:(["text"]:Aa Af).Nodup:=by decide +kernel
theorem NV:(["gate"]:Aa Af).Nodup:=by decide +kernel
theorem NE:(["gate","names"]:Aa Af).Nodup:=by decide +kernel
theorem Mj:(["one","names"]:Aa Af).Nodup:=by decide +kernel
theorem NY:(["k","names","pairs"]:Aa Af).Nodup:=by decide +kernel
section
variable {P:Ah}{K:mH}
theorem sB:FnScope ["deck","kit","ins","outs","pairs","numbers","idle","gates","name","own","names","rows","along","weights","k"] ["deck","kit"] (nA F6):=oB
theorem PF (T:Txt mg) (J:Kn P w K mg base 1 "_law_take" yJ ["deck","many"] A9) (aa:Kn P w K mg base 3 "_law_names" Jf ["deck","many"] Pt)
  (I:Kn P w K mg base 2 "_law_shuffled" Dm ["deck","some"] M4) (C:Kn P w K mg base 1 "_law_words" Jm ["text"] Vq) :
  nZ P w K mg base 4 "_law_made" F6 ["deck","kit"] Ux:=by
 refine oK sB λf bu A bo s H E dk ds Φ hr V hR=>?_
 obtain⟨d,c,k,rfl,rfl,hk,bm⟩:=hR;have O:=Cd hk;have tx:=O.tx;refine⟨_,(hO (mY 2 sB.nd (mT C hr (aD (mP V 1 hL) gD))) (hO (mY 3 sB.nd (mT C hr (aD (mP V 1 hL) gD))) (hO (mY 4 sB.nd (mT C hr (aD (mP V 1 hL) gD))) (hO (mY 5 sB.nd (mT C hr (aD (mP V 1 hL) gD))) (hO (zB 6 ["k"] [] [] sB.nd (A8 (by rfl) T.range (sG V (oW (aD hL (aD hL (aD hL (aD (mT J hr (aD (dK 0) (aD hL gD))) gD))))) (mT J hr (aD (dK 0) (aD hL gD))))) (λ_ _ _ _ _=>(mO 0 NK)) (λ_ _ _ _ _=>(oE qP qX mS (pN ED IY T.str PyProof.Rows.boot_str (aD (dK 0) gD))))) (hO (mY 7 sB.nd (oW gD)) (hO (qO (nE (dK 6)) (mO 8 sB.nd) (mW (rP (sZ bT bZ cA tX uY (pv 7) (aD (sG V (oW (aD (oW (aD (dK 8) (aD (sG V (oW (aD mS (aD mS gD))) (mT J hr (aD (dK 0) (aD hL gD)))) gD))) (aD (oE qP qX (oW (aD (dK 8) (aD mS gD))) (Lt Oa Le (pv 6) Mq (L7 hL))) gD))) (pN Yn Wp T.int kF (aD (B1 MH CC (oM sH rX T.len cG (Av (pv 7) gD)) hL) gD))) gD))))) (hO (mY 3 sB.nd (uJ qP qX 3 (oE xM xB (Lt Oa Le (pv 6) (L7 (Kf hL)) Mq) (mT J hr (aD (dK 0) (aD hL gD)))))) (hO (mY 7 sB.nd (uJ qP qX 7 (nY ["text"] [] [] (nE (mP V 1 hL)) (λ_ _ _ _ _=>(mO 0 IU)) (λ_ _ _ _ _=>(mT C hr (aD (dK 0) gD)))))) (hO (mY 9 sB.nd (uJ qP qX 2 (nY ["gate"] [] [] (nE (dK 7)) (λ_ _ _ _ _=>(mO 0 NV)) (λ_ _ _ _ _=>(mP V 0 hL))))) (hO (mY 10 sB.nd (Ai rfl (by rfl) T.dict (by rfl) T.zip (aD (dK 9) (aD (mT aa hr (aD (dK 0) (aD (oM sH rX T.len cG (aD (dK 9) gD)) gD))) gD)))) (hO (zB 11 ["gate"] ["names"] [10] sB.nd (nE (dK 7)) (λ_ _ _ _ _=>(mO 0 NE)) (λ_ _ _ _ _=>(nV (aD (mP V 1 (mP V 0 hL)) (aD (mP V 0 hL) (aD (pN yI yG T.tuple cN (aD (nY ["one"] ["names"] [1] (nE (Lt Oa Le (pv 0) (L7 hL) Mq)) (λ_ _ _ _ _=>(mO 0 Mj)) (λ_ _ _ _ _=>(mP V 1 (dK 0)))) gD)) gD)))))) (hO (zB 2 ["one"] ["names"] [10] sB.nd (nE (mT I hr (aD (dK 0) (aD (dK 2) gD)))) (λ_ _ _ _ _=>(mO 0 Mj)) (λ_ _ _ _ _=>(mP V 1 (dK 0)))) (hO (zB 3 ["one"] ["names"] [10] sB.nd (nE (mT I hr (aD (dK 0) (aD (dK 3) gD)))) (λ_ _ _ _ _=>(mO 0 Mj)) (λ_ _ _ _ _=>(mP V 1 (dK 0)))) (hO (zB 12 ["k"] ["names","pairs"] [10,4] sB.nd (Rt (by rfl) T.range hL (oM sH rX T.len cG (aD (dK 4) gD)) hL) (λ_ _ _ _ _=>(mO 0 NY)) (λ_ _ _ _ _=>(nV (aD (mP V 1 (mP V 2 (dK 0))) (aD (mP V 1 (mP V 2 (uJ qP qX 0 hL))) gD))))) (hO (wH (n:=10) V mS (pv 10) mS) (hO (mY 13 sB.nd Kx) (hO (qO (Rt (by rfl) T.range hL (oM sH rX T.len cG (aD (dK 5) gD)) hL) (mO 14 sB.nd) (mW (wH (n:=13) V (pN Yn Wp T.int kF (aD (mP V 5 (uJ qP qX 14 hL)) gD)) (pv 13) (mP V 10 (mP V 5 (dK 14)))))) (mW (nH (oW (aD (nV (aD (nV (aD (pN yI yG T.tuple cN (aD (dK 2) gD)) (aD (pN yI yG T.tuple cN (aD (dK 11) gD)) (aD (pN yI yG T.tuple cN (aD (dK 3) gD)) gD)))) (aD (pN yI yG T.tuple cN (aD (mT I hr (aD (dK 0) (aD (dK 12) gD))) gD)) gD))) (aD (dK 13) gD))))))))))))))))))))))),?_⟩;refine mJ (λB=>B=vF d k (.o (sl (kI k))) .n .n .n .n .n .n .n .n .n .n .n .n) (λN L=>⟨rfl,_,rfl,k.ins,rfl,(tx _ (by simp)).1,(tx _ (by simp)).2,.inl rfl,L _ rfl⟩) ?_;rintro _ rfl;refine mJ (λB=>B=vF d k (.o (sl (kI k))) (.o (sl (kO k))) .n .n .n .n .n .n .n .n .n .n .n) (λN L=>⟨rfl,_,rfl,k.outs,rfl,(tx _ (by simp)).1,(tx _ (by simp)).2,.inl rfl,L _ rfl⟩) ?_;rintro _ rfl;refine mJ (λB=>B=vF d k (.o (sl (kI k))) (.o (sl (kO k))) (.o (sl (kP k))) .n .n .n .n .n .n .n .n .n .n) (λN L=>⟨rfl,_,rfl,k.pairs,rfl,(tx _ (by simp)).1,(tx _ (by simp)).2,.inl rfl,L _ rfl⟩) ?_;rintro _ rfl;refine mJ (λB=>B=xC d k (.o (sl (kO k))) .n .n .n) (λN L=>⟨rfl,_,rfl,k.nums,rfl,(tx _ (by simp)).1,(tx _ (by simp)).2,.inl rfl,L _ rfl⟩) ?_;rintro _ rfl;refine mJ (λB=>∃ n,n<19/\B=xC d k (.o (sl (kO k))) (.o (.l (pF n))) .n .n) (λN L=>?_) ?_
 .unfold pE tJ P9;refine⟨d,c,19,rfl,rfl,by decide,by decide,λr1 W=>⟨.inl rfl,by show 4<=1000;decide,d,c,4,rfl,rfl,by decide,by decide,λr2 U=>⟨.inl rfl,?_⟩⟩⟩;obtain⟨m,hm,ao⟩:∃ m:Nat,m<19/\oV [D.int 0,.int 0,.int 1,.int (r1:Int)] (r2:Int)=some (.int (m:Int)):=by
   have:r2=0\/r2=1\/r2=2\/r2=3:=by omega
   rcases this with rfl | rfl | rfl | rfl
   .exact⟨0,by decide,pB rfl⟩
   .exact⟨0,by decide,pB rfl⟩
   .exact⟨1,by decide,pB rfl⟩
   .exact⟨r1,by omega,pB rfl⟩
  refine⟨_,ao,by omega,by omega,?_⟩;rw[cH];refine Hw (Φ:=λr af=>N (af.set 6 r)) (List.range m) (λ(i:Nat)=>D.int (0+(i:Int))) (λi=>.str (oQ i)) (xC d k (.o (sl (kO k))) .n .n .n) (by rw[cP];omega) (λj i ys Nx e W U=>?_) (L _ ⟨m,hm,rfl⟩);have hi:i<19:=by have:=eJ.mp (aL e);omega
  exact⟨(W8 i hi).1,(W8 i hi).2,W,U⟩
 rintro B ⟨n,hn,rfl⟩;refine mJ (λB=>B=xC d k (.o (sl (kO k))) (.o (.l (pF n))) (.o (.l [])) .n) (λN L=>⟨by show 0<=1000;decide,L _ rfl⟩) ?_;rintro _ rfl;refine mJ (λB=>∃ (R:Af) (S:Sl),(R = "one" \/ R = "nil")/\B=xC d k (.o (sl (kO k))) (.v (.l (pF n))) (.o (.l (((List.range n).map (qD R)).map qJ))) S) (λN L=>?_) ?_
 .refine qH (pF n) (xC d k (.o (sl (kO k))) (.v (.l (pF n))) (.o (.l [])) .n) (λΨ h=>h)
   (λj B=>∃ (R:Af) (S:Sl),(R = "one" \/ R = "nil")/\B=xC d k (.o (sl (kO k))) (.v (.l (pF n))) (.o (.l (((List.range j).map (qD R)).map qJ))) S) ⟨"one",.n,.inl rfl,rfl⟩ ?_ ?_
  .rintro j x B F ⟨R,S,hw,rfl⟩;obtain⟨j',aq,rfl⟩:=tI F;obtain⟨hj,e⟩:=aX.mp aq;rw[cP] at hj;rw[iH] at e;subst e;refine⟨rfl,by show 2<=1000;decide,d,c,2,rfl,rfl,by decide,by decide,λr hr=>⟨.inl rfl,?_⟩⟩;obtain⟨w1,bi,ao⟩:∃ w1:Af,(w1 = "one" \/ w1 = "nil")/\oV [D.str "one",.str "nil"] (r:Int)=some (.str w1):=by
    have:r=0\/r=1:=by omega
    rcases this with rfl | rfl
    .exact⟨_,.inl rfl,pB rfl⟩
    .exact⟨_,.inr rfl,pB rfl⟩
   have ec:tS (pF n) none (some 1)=[D.str (oQ 0)]:=by
    have:=PZ (λi=>D.str (oQ i)) (List.range n) 1;obtain⟨m,rfl⟩:∃ m,n=m+1:=⟨n-1,by omega⟩;have e2:(List.range (m+1)).take 1=[0]:=by rw[List.range_succ_eq_map];rfl
    rw[e2] at this;exact this
   refine⟨_,ao,by show 2<=1000;decide,by show 2<=1000;decide,rfl,?_⟩;show (2+(tS (pF n) none (some 1)).length<=100000)/\_;rw[ec];refine⟨by show 2+1<=100000;decide,by show 2<=1000;decide,rfl,rfl,_,rfl,?_⟩;have len:((((List.range j).map (qD R)).map qJ).length:Nat)=j:=by simp
   show ∃ c',oV [D.l [.str (oQ j),.str w1],.l [.str (oQ j),.str "not",.str (oQ 0)]] (if decide ((((((List.range j).map (qD R)).map qJ).length:Nat):Int)>0)=true then 1 else 0)=some c'/\(((List.range j).map (qD R)).map qJ).length<100000/\_;rw[len];by_cases h0:j=0
   .subst h0;refine⟨D.l [.str (oQ 0),.str w1],rfl,by decide,w1,.v (.str (oQ 0)),bi,rfl⟩
   .refine⟨D.l [.str (oQ j),.str "not",.str (oQ 0)],?_,by omega,R,.v (.str (oQ j)),hw,?_⟩
    .rw[aR (by simp;omega)];exact pB (j:=1) rfl
    .rw[kX,aQ,aQ];have:qJ (qD R j)=D.l [.str (oQ j),.str "not",.str (oQ 0)]:=by unfold qD;rw[if_neg h0];rfl
     show _=vF d k _ _ _ _ _ (.o (.l (((List.range j).map (qD R)).map qJ++[qJ (qD R j)]))) _ _ _ _ _ _ _;rw[this];rfl
  .rintro B ⟨R,S,hw,rfl⟩;rw[show (pF n).length=n by simp[pF]];exact L _ ⟨R,S,hw,rfl⟩
 rintro B ⟨R,S,hw,rfl⟩;refine mJ (λB=>∃ Z:Aa Af,(Z=[]\/(1<=n/\Z=[oQ (n-1)]))/\B=xC d k (.o (sl (kO k++Z))) (.v (.l (pF n))) (.o (.l (((List.range n).map (qD R)).map qJ))) S) (λN L=>?_) ?_
 .refine⟨rfl,rfl,d,c,2,rfl,rfl,by decide,by decide,λr hr=>⟨.inl rfl,?_⟩⟩;show (0:Int)<=(r:Int)/\(r:Int)<=1000/\(tS (pF n) (some (-1)) none).length<=100/\_;have ec:tS (pF n) (some (-1)) none=(if n=0 then [] else [oQ (n-1)]).map D.str:=by
   have:=AR (λi=>D.str (oQ i)) n;rw[show pF n=(List.range n).map λi=>D.str (oQ i) from rfl,this];split<;>rfl
  rw[ec];refine⟨by omega,by omega,by split<;>simp,?_⟩;show ((kO k).map D.str).length+_<=100000/\_;have be:=O.lo;have:r=0\/r=1:=by omega
  rcases this with rfl | rfl
  .refine⟨by show ((kO k).map D.str).length+0<=100000;rw[aA];omega,L _ ⟨[],.inl rfl,?_⟩⟩;rw[cZ];show vF d k _ (.o (.l ((kO k).map D.str++[]))) _ _ _ _ _ _ _ _ _ _ _=_;rw[cZ]
  .by_cases h0:n=0
   .rw[aR h0];refine⟨by show ((kO k).map D.str).length+0<=100000;rw[aA];omega,L _ ⟨[],.inl rfl,?_⟩⟩;rw[cZ];show vF d k _ (.o (.l ((kO k).map D.str++[]))) _ _ _ _ _ _ _ _ _ _ _=_;rw[cZ]
   .rw[aM h0];refine⟨by show ((kO k).map D.str).length+1<=100000;rw[aA];omega,L _ ⟨[oQ (n-1)],.inr ⟨by omega,rfl⟩,?_⟩⟩;show vF d k _ (.o (.l ((kO k).map D.str++[D.str (oQ (n-1))]))) _ _ _ _ _ _ _ _ _ _ _=_;rw[show sl (kO k++[oQ (n-1)])=D.l ((kO k).map D.str++[D.str (oQ (n-1))]) by simp[sl]]
 rintro B ⟨Z,hex,rfl⟩;have bv:(kG k).length=k.gates.length:=by unfold kG;simp
 have bx:=O.lg;have bz:=O.li;have be:=O.lo;obtain⟨G,hG⟩:∃ G,G=(List.range n).map (qD R)++kG k:=⟨_,rfl⟩;have G2:∀ l∈G,2<=l.length:=λl hl=>by
  rw[hG] at hl;rcases aU.mp hl with q | q
  .obtain⟨i,_,rfl⟩:=aI.mp q;exact JS R i
  .exact O.g2 l q
 have Gl:G.length<=22:=by rw[hG];simp;omega
 refine mJ (λB=>B=xC d k (.o (sl (kO k++Z))) (.v (.l (pF n))) (.o (.l (G.map qJ))) S) (λN L=>?_) ?_
 .unfold pE uZ;refine⟨rfl,?_⟩;refine oN k.gates D.str (λz=>qJ (yU z)) _ (λΨ h=>⟨rfl,_,rfl,h⟩) (by omega) (λj z ys Nx e W U=>⟨z,rfl,(tx z (by simp[aL e])).1,(tx z (by simp[aL e])).2,.inl rfl,W,U⟩) ?_;refine⟨by show (((List.range n).map (qD R)).map qJ).length+(k.gates.map _).length<=100000;simp;omega,L _ ?_⟩;have eG:G.map qJ=((List.range n).map (qD R)).map qJ++k.gates.map (λz=>qJ (yU z)):=by
   rw[hG,aQ]
   congr 1
   unfold kG;rw[aJ];rfl
  rw[eG];rfl
 rintro _ rfl;obtain⟨u,hH⟩:∃ u,u=G.map λl=>(nB l).1:=⟨_,rfl⟩
 have eH:u=(List.range n).map oQ++kH k:=by
  rw[hH,hG,aQ,aJ]
  congr 1
  exact bV λi _=>Nl R i
 have ai:(kI k++u).Nodup:=by
  have ay:∀ i∈List.range n,oQ i∉kI k++kH k:=λi hi q=>(Du i (by have:=eJ.mp hi;omega)).1 (O.one _ q).1
  have ar:=O.nd;obtain⟨n1,n2,n3⟩:=bD.mp ar;rw[eH];refine bD.mpr ⟨n1,bD.mpr ⟨B4 List.nodup_range λi hi j hj e=>(Du i (by have:=eJ.mp hi;omega)).2.2 j (by have:=eJ.mp hj;omega) e,n2,λa ha b hb e=>?_⟩,λa ha b hb e=>?_⟩
  .obtain⟨i,hi,rfl⟩:=aI.mp ha;exact ay i hi (by rw[e];exact aN _ hb)
  .rcases aU.mp hb with q | q
   .obtain⟨i,hi,rfl⟩:=aI.mp q;exact ay i hi (by rw[<- e];exact aT _ ha)
   .exact n3 a ha b q e
 have ab:("-" : Af)∉kI k++u:=λq=>by
  rw[eH] at q;rcases aU.mp q with q | q
  .exact (O.one _ (aT _ q)).2 rfl
  .rcases aU.mp q with q | q
   .obtain⟨i,hi,e⟩:=aI.mp q;exact (Du i (by have:=eJ.mp hi;omega)).2.1 e
   .exact (O.one _ (aN _ q)).2 rfl
 have Hl:u.length=G.length:=by rw[hH];simp
 refine mJ (λB=>B=vF d k (.o (sl (kI k))) (.o (sl (kO k++Z))) (.o (sl (kP k))) (.o (sl (kN k))) (.v (.l (pF n))) (.v (.l (G.map qJ))) S (.o (sl (kI k++u))) .n .n .n .n .n) (λN L=>?_) ?_
 .unfold pE uZ;refine⟨rfl,?_⟩;refine oN G qJ (λl=>.str (nB l).1) (xC d k (.o (sl (kO k++Z))) (.v (.l (pF n))) (.v (.l (G.map qJ))) S) (λΨ h=>h) (by omega) (λj l ys Nx e W U=>⟨rfl,_,(L0 (G2 l (aL e))).1,W,U⟩) ?_;refine⟨by show ((kI k).map D.str).length+(G.map _).length<=100000;simp;omega,L _ ?_⟩;show vF d k _ _ _ _ _ _ _ (.o (.l ((kI k).map D.str++G.map λl=>D.str (nB l).1))) _ _ _ _ _=_;rw[show sl (kI k++u)=D.l ((kI k).map D.str++G.map λl=>D.str (nB l).1) by unfold sl;rw[List.map_append,hH,List.map_map];rfl]
 rintro _ rfl;refine mJ (λB=>∃ xs:Aa Af,xs.length=(kI k++u).length/\xs.Nodup/\(∀ x∈xs,GoodName x)/\B=Ba d k n G S u (.o (sl (kI k))) (.o (sl (kO k++Z))) (.o (.k (nU ((kI k++u).zip xs)))) .n) (λN L=>?_) ?_
 .refine⟨rfl,_,rfl,d,c,((kI k++u).map D.str).length,rfl,rfl,by simp;omega,λxs lx nd gn=>⟨.inl rfl,false,false,_,_,_,rfl,rfl,keysL_strs (kI k++u),by simp;omega,?_⟩⟩;have a4:xs.length=(kI k++u).length:=by rw[lx,aA]
  rw[Se,JG (by rw[Ml _ _ a4.symm];exact ai)];exact L _ ⟨xs,a4,nd,gn,rfl⟩
 rintro B ⟨xs,lx,br,a9,rfl⟩;have tk:((kI k++u).zip xs).map (·.1)=kI k++u:=Ml _ _ lx.symm;have ah:∀ o∈kI k++u,mU ((kI k++u).zip xs) o∈xs:=λo ho=>Ic lx.symm ho
 have X:∀ o∈kI k++u,∀ o'∈kI k++u,mU ((kI k++u).zip xs) o=mU ((kI k++u).zip xs) o'->o=o':=λo ho o' bg e=>X3 lx.symm br ho bg e
 generalize ht:(kI k++u).zip xs=t at tk ah X |-;have a8:t.length<100000:=by
  have:=cC List.length tk;simp only[aA,bF] at this;omega
 have gk:oO (kI k) (G.map nB):=by
  rw[hG,aQ];exact oO.app (T2 hw _ n) (oO.more (λx F=>aT _ F) O.gt)
 have gH:∀ l∈G,(nB l).1∈u:=λl hl=>by rw[hH];exact aI.mpr ⟨l,hl,rfl⟩
 have gP:∀ l∈G,∀ p∈l.drop 2,p∈kI k++u:=λl hl p M=>by
  obtain⟨j,hj,rfl⟩:=eD hl;have W:=(L3 gk (i:=j) (g:=nB G[j]) (by rw[bC,aH hj];rfl)).2 p M;rcases aU.mp W with q | q
  .exact aT _ q
  .refine aN _ ?_;rw[hH];obtain⟨g,hg,rfl⟩:=aI.mp q;obtain⟨l',bd,rfl⟩:=aI.mp (gW hg);exact aI.mpr ⟨l',bd,rfl⟩
 have oH:∀ o∈kO k++Z,o∈u:=λo ho=>by
  rw[eH];rcases aU.mp ho with q | q
  .exact aN _ (O.oh o q)
  .rcases hex with rfl | ⟨W,rfl⟩
   .cases q
   .rw[aV.mp q];exact aT _ (aI.mpr ⟨n-1,eJ.mpr (by omega),rfl⟩)
 have a3:∀ o∈kI k,o∈t.map (·.1):=λo ho=>by rw[tk];exact aT _ ho
 have au:∀ o∈u,o∈t.map (·.1):=λo ho=>by rw[tk];exact aN _ ho
 refine mJ (λB=>B=Ba d k n G S u (.o (sl (kI k))) (.o (sl (kO k++Z))) (.o (.k (nU t))) (.o (.l (G.map λl=>vN (ren (mU t) (nB l)))))) (λN L=>?_) ?_
 .unfold pE;refine oN G qJ (λl=>vN (ren (mU t) (nB l))) (Ba d k n G S u (.o (sl (kI k))) (.o (sl (kO k++Z))) (.o (.k (nU t))) .n) (λΨ h=>h) (by omega) (λj l ys Nx e W U=>?_) (L _ rfl);have hl:=aL e;refine⟨rfl,rfl,_,(L0 (G2 l hl)).1,_,Bj (au _ (gH l hl)),rfl,_,(L0 (G2 l hl)).2,?_⟩;unfold dC aC;have ax:=(L3 gk (i:=j) (g:=nB l) (by rw[bC,e];rfl)).1.ok;have bt:(l.drop 2).length<=3:=by
   have e2:(nB l).2.2.length=(l.drop 2).length:=rfl;rw[e2] at ax;rcases ax with q | q | q | q | q<;>omega
  refine oN (l.drop 2) D.str (λp=>.str (mU t p)) [.v (qJ l),.o (.k (nU t))] (λΨ h=>⟨rfl,by rw[<- FR] at h;exact h⟩) (by omega) (λj p ys Nx e W U=>⟨rfl,_,Bj (by rw[tk];exact gP l hl p (aL e)),W,U⟩) ?_;refine⟨by show 3<=1000;decide,W,?_⟩;have eE:vN (ren (mU t) (nB l))=D.t [.str (mU t (nB l).1),.str (nB l).2.1,.t ((l.drop 2).map λp=>D.str (mU t p))]:=by
   unfold vN ren;rw[aJ];rfl
  rw[eE] at U;exact U
 rintro _ rfl;refine mJ (λB=>∃ Y:Aa Af,Y.Perm (kI k)/\B=Ba d k n G S u (.o (sl (Y.map (mU t)))) (.o (sl (kO k++Z))) (.o (.k (nU t))) (.o (.l (G.map λl=>vN (ren (mU t) (nB l)))))) (λN L=>?_) ?_
 .unfold pE tJ iV;refine⟨d,c,(kI k).map D.str,rfl,.inl rfl,by simp;omega,λys M=>⟨.inl rfl,?_⟩⟩;obtain⟨Y,pI,rfl⟩:=P2 M;refine Hw (Φ:=λr af=>N (af.set 2 r)) Y D.str (λo=>.str (mU t o)) (Ba d k n G S u (.v (sl (kI k))) (.o (sl (kO k++Z))) (.o (.k (nU t))) (.o (.l (G.map λl=>vN (ren (mU t) (nB l)))))) (by rw[pI.length_eq];omega) (λj o ys Nx e W U=>⟨rfl,_,Bj (a3 o (pI.mem_iff.mp (aL e))),W,U⟩) (L _ ⟨Y,pI,?_⟩);unfold sl;rw[aJ];rfl
 rintro B ⟨Y,pI,rfl⟩;refine mJ (λB=>∃ O':Aa Af,O'.Perm (kO k++Z)/\B=Ba d k n G S u (.o (sl (Y.map (mU t)))) (.o (sl (O'.map (mU t)))) (.o (.k (nU t))) (.o (.l (G.map λl=>vN (ren (mU t) (nB l)))))) (λN L=>?_) ?_
 .unfold pE tJ iV;have ba:Z.length<=1:=by rcases hex with rfl | ⟨_,rfl⟩<;>simp
  refine⟨d,c,(kO k++Z).map D.str,rfl,.inl rfl,by simp;omega,λys M=>⟨.inl rfl,?_⟩⟩;obtain⟨O',pO,rfl⟩:=P2 M;refine Hw (Φ:=λr af=>N (af.set 3 r)) O' D.str (λo=>.str (mU t o)) (Ba d k n G S u (.o (sl (Y.map (mU t)))) (.v (sl (kO k++Z))) (.o (.k (nU t))) (.o (.l (G.map λl=>vN (ren (mU t) (nB l)))))) (by rw[pO.length_eq,bF];omega) (λj o ys Nx e W U=>⟨rfl,_,Bj (au o (oH o (pO.mem_iff.mp (aL e)))),W,U⟩) (L _ ⟨O',pO,?_⟩);unfold sl;rw[aJ (g:=D.str) (f:=mU t) (l:=O')];rfl
 rintro B ⟨O',pO,rfl⟩;have b1:=O.lp;have az:=Hd (kP k) O.pe;obtain⟨Q,ac⟩:∃ Q,Q=nI (kP k):=⟨_,rfl⟩;rw[<- ac] at az;refine mJ (λB=>B=Bc d k n G S u t Y O' (.o (sl (kN k))) (.o (.k (nU t))) (.o (.l (Q.map λp=>tT (mU t p.1,mU t p.2)))) .n .n) (λN L=>?_) ?_
 .unfold pE tJ Vf;refine⟨rfl,_,rfl,⟨by omega,by omega,by show (0:Int)<=(((kP k).map D.str).length:Nat);omega,by show ((((kP k).map D.str).length:Nat):Int)<=100000;simp;omega,by omega,by omega⟩,?_⟩;have em:xL 0 ((((kP k).map D.str).length:Nat):Int) 2=Q.length:=by
   rw[aA,<- az];exact Yd _
  rw[em];refine Hw (Φ:=λr af=>N (af.set 12 r)) (List.range Q.length) (λ(i:Nat)=>D.int (0+(i:Int)*2)) (λi=>(λp:Af×Af=>tT (mU t p.1,mU t p.2)) (Q.getD i ("",""))) (Bc d k n G S u t Y O' (.o (sl (kN k))) (.o (.k (nU t))) .n .n .n) (by rw[cP];omega) (λj i ys Nx e W U=>?_) ?_
  .have hi:=eJ.mp (aL e);have M:Q[i]?=some Q[i]:=aH hi;have bc:Q.getD i ("","")=Q[i]:=by simp[List.getD,M]
   rw[bc] at U;obtain⟨q1,q2⟩:=pairs_at (by rw[<- ac];exact M);have hm:=O.pm Q[i] (by rw[<- ac];exact cM hi);refine⟨rfl,rfl,.str Q[i].1,?_,_,Bj (au _ (oH _ (aT _ hm.1))),rfl,rfl,rfl,.str Q[i].2,?_,_,Bj (a3 _ hm.2),by show 2<=1000;decide,W,U⟩
   .rw[show (0+(i:Int)*2)=((2*i:Nat):Int) by omega];exact pB (by rw[bC,q1];rfl)
   .rw[show (0+(i:Int)*2+1)=((2*i+1:Nat):Int) by omega];exact pB (by rw[bC,q2];rfl)
  .rw[FX Q ("","") (λp:Af×Af=>tT (mU t p.1,mU t p.2))];exact L _ rfl
 rintro _ rfl;refine mJ (λB=>B=Bc d k n G S u t Y O' (.o (sl (kN k))) (.o (.k (nU (t++[(("-" : Af),("" : Af))])))) (.o (.l (Q.map λp=>tT (mU t p.1,mU t p.2)))) .n .n) (λN L=>⟨rfl,_,DN (by rw[tk];exact ab) a8,L _ rfl⟩) ?_;rintro _ rfl;refine mJ (λB=>B=Bc d k n G S u t Y O' (.o (sl (kN k))) (.o (.k (nU (t++[(("-" : Af),("" : Af))])))) (.o (.l (Q.map λp=>tT (mU t p.1,mU t p.2)))) (.o (.k [])) .n) (λN L=>L _ rfl) ?_;rintro _ rfl;have b0:=O.ln;have bf:=Hd (kN k) O.ne;have a6:(t++[(("-" : Af),("" : Af))]).map (·.1)=(kI k++u)++[("-" : Af)]:=by rw[aQ,tk];rfl
 have ag:∀ x∈kI k++u,mU (t++[(("-" : Af),("" : Af))]) x=mU t x:=λx F=>TH (by rw[tk];exact F)
 have av:mU (t++[(("-" : Af),("" : Af))]) "-" = "" := by
  unfold mU;rw[List.find?_append,lQ.mpr λp M=>by
   have:p.1∈kI k++u:=by rw[<- tk];exact aI.mpr ⟨p,M,rfl⟩
   exact λz=>ab (by rw[<- cD z];exact this)]
  rfl
 have a2:∀ x y,(x∈kI k++u\/x = "-")->(y∈kI k++u\/y = "-")->mU (t++[(("-" : Af),("" : Af))]) x=mU (t++[(("-" : Af),("" : Af))]) y->x=y:=by
  have ne:∀ x∈kI k++u,mU t x ≠ "" := λx F e=>by have:=(a9 _ (ah x F)).ls.lo;rw[e] at this;exact absurd this (by decide)
  rintro x y (F | rfl) (hy | rfl) e
  .rw[ag x F,ag y hy] at e;exact X x F y hy e
  .rw[ag x F,av] at e;exact absurd e (ne x F)
  .rw[ag y hy,av] at e;exact absurd e.symm (ne y hy)
  .rfl
 refine mJ (λB=>∃ (wt:mL) (ae:Sl),(WtOk 9 wt/\∀ x,(x∈kI k++u\/x = "-")->look wt (mU (t++[(("-" : Af),("" : Af))]) x)=look (rQ k) x)/\B=Bc d k n G S u t Y O' (.v (sl (kN k))) (.o (.k (nU (t++[(("-" : Af),("" : Af))])))) (.o (.l (Q.map λp=>tT (mU t p.1,mU t p.2)))) (.o (.k (gV wt))) ae) (λN L=>?_) ?_
 .have em:xL 0 ((((kN k).map D.str).length:Nat):Int) 2=(nI (kN k)).length:=by
   rw[aA,<- bf];exact Yd _
  refine qH (tV 0 2 (nI (kN k)).length) (Bc d k n G S u t Y O' (.v (sl (kN k))) (.o (.k (nU (t++[(("-" : Af),("" : Af))])))) (.o (.l (Q.map λp=>tT (mU t p.1,mU t p.2)))) (.o (.k [])) .n) (λΨ h=>⟨rfl,_,rfl,⟨by omega,by omega,by show (0:Int)<=(((kN k).map D.str).length:Nat);omega,by show ((((kN k).map D.str).length:Nat):Int)<=100000;simp;omega,by omega,by omega⟩,by rw[em];exact h⟩)
   (λj B=>∃ (wt:mL) (ae:Sl),(wt.length<=j/\(wt.map (·.1)).Nodup/\(∀ p∈wt,-9<=p.2/\p.2<=9)/\∀ x,(x∈kI k++u\/x = "-")->look wt (mU (t++[(("-" : Af),("" : Af))]) x)=look ((rQ k).take j) x)/\B=Bc d k n G S u t Y O' (.v (sl (kN k))) (.o (.k (nU (t++[(("-" : Af),("" : Af))])))) (.o (.l (Q.map λp=>tT (mU t p.1,mU t p.2)))) (.o (.k (gV wt))) ae) ⟨[],.n,⟨by simp,by simp,by simp,λx _=>rfl⟩,rfl⟩ ?_ ?_
  .rintro j x B F ⟨wt,ae,⟨bw,ar,bb,an⟩,rfl⟩;obtain⟨j',aq,rfl⟩:=tI F;obtain⟨hj,e⟩:=aX.mp aq;rw[cP] at hj;rw[iH] at e;subst e;have M:(nI (kN k))[j]?=some (nI (kN k))[j]:=aH hj;obtain⟨q1,q2⟩:=pairs_at M;obtain⟨m1,m2,m3⟩:=O.nm _ (cM hj);obtain⟨v,hv⟩:=dH.mp m2;have a1:oV ((kN k).map D.str) (0+(j:Int)*2+1)=some (.str (nI (kN k))[j].2):=by
    rw[show (0+(j:Int)*2+1)=((2*j+1:Nat):Int) by omega];exact pB (by rw[bC,q2];rfl)
   have a0:oV ((kN k).map D.str) (0+(j:Int)*2)=some (.str (nI (kN k))[j].1):=by
    rw[show (0+(j:Int)*2)=((2*j:Nat):Int) by omega];exact pB (by rw[bC,q1];rfl)
   have ky:(nI (kN k))[j].1∈(t++[(("-" : Af),("" : Af))]).map (·.1):=by
    rw[a6];rcases m1 with q | q
    .refine aT _ ?_;rcases aU.mp q with z | z
     .exact aT _ z
     .exact aN _ (by rw[eH];exact aN _ z)
    .rw[q];exact aN _ (by simp)
   have jl:j<100:=by omega
   have bh:=WM hk (cM hj) hv;have e3:=Mb wt (mU (t++[(("-" : Af),("" : Af))]) (nI (kN k))[j].1) v;refine⟨rfl,rfl,_,a1,v,hv,m3,rfl,rfl,rfl,_,a0,_,Bj ky,.k (nD (gV wt) (Sum.inr (mU (t++[(("-" : Af),("" : Af))]) (nI (kN k))[j].1)) (.int v)),?_,qQ wt (mU (t++[(("-" : Af),("" : Af))]) (nI (kN k))[j].1) v,.v (.int (0+(j:Int)*2)),⟨?_,EX ar,λp M=>?_,λx F=>?_⟩,?_⟩
   .have:(gV wt).length<100000:=by unfold gV;rw[List.length_map];omega
    simp only[vU,aR this];rfl
   .exact bN (UI _ _ _) (by omega)
   .rcases EY M with q | q
    .exact bb p q
    .rw[q];exact bh
   .have hT:(rQ k)[j]?=some ((nI (kN k))[j].1,v):=by
     unfold rQ;rw[bC,M];show some (_,(intText? _).getD 0)=_;rw[hv];rfl
    have hq:(nI (kN k))[j].1∈kI k++u\/(nI (kN k))[j].1 = "-" := by
     rw[a6] at ky;rcases aU.mp ky with q | q
     .exact .inl q
     .exact .inr (aV.mp q)
    have a7:(rQ k).take (j+1)=(rQ k).take j++[((nI (kN k))[j].1,v)]:=by rw[bR,hT];rfl
    rw[Kz,a7,Eu,an x F];have nj:(nI (kN k))[j].1∉((rQ k).take j).map (·.1):=λz=>by
     have a5:=NQ hk;rw[<- gJ (j+1) (rQ k),a7,aQ,aQ] at a5;exact (bD.mp (bD.mp a5).1).2.2 _ z _ (by simp) rfl
    by_cases z:x=(nI (kN k))[j].1
    .subst z;rw[aR rfl,aM nj];show v=look [((nI (kN k))[j].1,v)] (nI (kN k))[j].1;rw[rD,aR rfl]
    .rw[aM λq=>z (a2 _ _ F hq q)];by_cases m:x∈((rQ k).take j).map (·.1)
     .rw[aR m]
     .rw[aM m,rD,aM (λq=>z q.symm),((qF _ x).2 m).2];rfl
   .rw[<- e3];rfl
  .rintro B ⟨wt,ae,⟨W,U,h3,h4⟩,rfl⟩;have e4:(tV 0 2 (nI (kN k)).length).length=(nI (kN k)).length:=by unfold tV;simp
   rw[e4,bL (by unfold rQ;rw[List.length_map];exact aW _)] at h4;exact L _ ⟨wt,ae,⟨⟨U,by omega,h3⟩,h4⟩,rfl⟩
 rintro B ⟨wt,ae,⟨bj,an⟩,rfl⟩;refine⟨by show 3<=1000;decide,d,c,_,rfl,.inl rfl,by show (Q.map _).length<=1000;simp;omega,λys M=>⟨.inl rfl,by show 2<=1000;decide,by show 2<=1000;decide,?_⟩⟩;obtain⟨al,pA,e⟩:=Ya (xs:=Q.map λp=>(mU t p.1,mU t p.2)) (ys:=ys) (by rw[aJ];exact M);subst e;have fin:=bm ⟨Y.map (mU t),G.map λl=>ren (mU t) (nB l),O'.map (mU t)⟩ al wt ?_ bj ?made
 .unfold Jh wG at fin;dsimp only at fin;rw[aJ (g:=vN)] at fin;exact fin
 have iO:∀ o∈O',o∈kI k++u:=λo ho=>aN _ (oH o (pO.mem_iff.mp ho))
 have iI:∀ o∈Y,o∈kI k++u:=λo ho=>aT _ (pI.mem_iff.mp ho)
 have ba:Z.length<=1:=by rcases hex with rfl | ⟨_,rfl⟩<;>simp
 have eN:(G.map λl=>ren (mU t) (nB l)).map (·.1)=u.map (mU t):=by
  rw[hH,aJ,aJ];rfl
 have pm:∀ p∈Q,p.1∈kO k/\p.2∈kI k:=λp M=>O.pm p (by rw[<- ac];exact M)
 have bp:(Q.map (·.1)).Nodup:=by rw[ac];exact O.p1
 have bq:(Q.map (·.2)).Nodup:=by rw[ac];exact O.p2
 have bn:(kO k++Z).Nodup:=by
  refine bD.mpr ⟨O.ond,?_,λa ha b hb e=>?_⟩
  .rcases hex with rfl | ⟨_,rfl⟩<;>simp
  .rcases hex with rfl | ⟨W,rfl⟩
   .cases hb
   .rw[aV.mp hb] at e;exact (Du (n-1) (by omega)).1 (by rw[<- e];exact (O.one a (aN _ (O.oh a ha))).1)
 refine⟨⟨?_,?_,?_,?_,?_,?_,?_,?_⟩,?_,?_,?_,?_,?_⟩
 .show (Y.map (mU t)++(G.map λl=>ren (mU t) (nB l)).map (·.1)).Nodup;rw[eN,<- aQ];have aj:(Y++u).Perm (kI k++u):=pI.append_right u;exact B4 (aj.nodup_iff.mpr ai) λx F y hy e=>X x (aj.mem_iff.mp F) y (aj.mem_iff.mp hy) e
 .intro x F;have F:x∈Y.map (mU t)++(G.map λl=>ren (mU t) (nB l)).map (·.1):=F;rw[eN,<- aQ] at F;obtain⟨o,ho,rfl⟩:=aI.mp F;refine a9 _ (ah o ?_);rcases aU.mp ho with q | q
  .exact iI o q
  .exact aN _ q
 .have g1:oO Y (G.map nB):=oO.more (λx F=>pI.mem_iff.mpr F) gk;have:=g1.ren (mU t);rw[aJ] at this;exact this
 .intro o ho;obtain⟨q,hq,rfl⟩:=aI.mp ho;refine aN _ ?_;rw[eN];exact aI.mpr ⟨q,oH q (pO.mem_iff.mp hq),rfl⟩
 .exact B4 (pO.nodup_iff.mpr bn) λx F y hy e=>X x (iO x F) y (iO y hy) e
 .show (Y.map (mU t)).length<=6;rw[aA,pI.length_eq];omega
 .show (G.map _).length<=24;rw[aA];omega
 .show (O'.map (mU t)).length<=6;rw[aA,pO.length_eq,bF];omega
 .intro o ho;obtain⟨q,hq,rfl⟩:=aI.mp ho;show _∈(G.map λl=>ren (mU t) (nB l)).map (·.1);rw[eN];exact aI.mpr ⟨q,oH q (pO.mem_iff.mp hq),rfl⟩
 .refine (pA.map (·.1)).nodup_iff.mpr ?_;rw[aJ];have:(Q.map (·.1)).map (mU t)=Q.map ((·.1)∘λp:Af×Af=>(mU t p.1,mU t p.2)):=by rw[aJ];rfl
  rw[<- this];refine B4 bp λx F y hy e=>X x ?_ y ?_ e
  .obtain⟨p,M,rfl⟩:=aI.mp F;exact aN _ (oH _ (aT _ (pm p M).1))
  .obtain⟨p,M,rfl⟩:=aI.mp hy;exact aN _ (oH _ (aT _ (pm p M).1))
 .refine (pA.map (·.2)).nodup_iff.mpr ?_;rw[aJ];have:(Q.map (·.2)).map (mU t)=Q.map ((·.2)∘λp:Af×Af=>(mU t p.1,mU t p.2)):=by rw[aJ];rfl
  rw[<- this];refine B4 bq λx F y hy e=>X x ?_ y ?_ e
  .obtain⟨p,M,rfl⟩:=aI.mp F;exact aT _ (pm p M).2
  .obtain⟨p,M,rfl⟩:=aI.mp hy;exact aT _ (pm p M).2
 .intro p M;obtain⟨q,hq,rfl⟩:=aI.mp (pA.mem_iff.mp M);exact⟨aI.mpr ⟨q.1,pO.mem_iff.mpr (aT _ (pm q hq).1),rfl⟩,aI.mpr ⟨q.2,pI.mem_iff.mpr (pm q hq).2,rfl⟩⟩
 .rw[pA.length_eq,aA];omega
 case made =>
  have ak:(((List.range n).map (qD R)).map nB++(kG k).map nB).map (·.1)=u:=by
   rw[hH,hG,<- aQ,aJ];rfl
  have aw:G.map nB=((List.range n).map (qD R)).map nB++(kG k).map nB:=by rw[hG,aQ]
  refine⟨((List.range n).map (qD R)).map nB,Z,mU t,?_,?_,?_,?_,?_,?_,?_,pI.map _,?_,pO.map _,?_,?_,?_,?_⟩
  .rw[ak];exact ai
  .rw[<- aw];exact gk
  .intro e he;rcases hex with rfl | ⟨W,rfl⟩
   .cases he
   .rw[aV.mp he,aJ,aJ];exact aI.mpr ⟨n-1,eJ.mpr (by omega),Nl R (n-1)⟩
  .refine bD.mpr ⟨O.ond,?_,λa ha b hb e=>?_⟩
   .rcases hex with rfl | ⟨_,rfl⟩<;>simp
   .rcases hex with rfl | ⟨W,rfl⟩
    .cases hb
    .rw[aV.mp hb] at e;exact (Du (n-1) (by omega)).1 (by rw[<- e];exact (O.one a (aN _ (O.oh a ha))).1)
  .rcases hex with rfl | ⟨_,rfl⟩<;>simp
  .simp;omega
  .rw[ak];exact X
  .show (G.map λl=>ren (mU t) (nB l))=_;rw[<- aw,aJ];rfl
  .rw[<- ac];exact pA
  .intro x F;rw[ak] at F;refine⟨λz=>ab (by rw[<- z];exact F),λz=>?_⟩;rw[eH] at F;have one:∀ y∈kI k++kH k,y ≠ "" := λy hy z=>by have:=(O.one y hy).1;rw[z] at this;exact absurd this (by decide)
   rcases aU.mp F with q | q
   .exact one x (aT _ q) z
   .rcases aU.mp q with q | q
    .obtain⟨i,hi,e⟩:=aI.mp q;exact DR i (by have:=eJ.mp hi;omega) (e.trans z)
    .exact one x (aN _ q) z
  .rw[<- an "-" (.inr rfl),av]
  .intro x F;rw[ak] at F;rw[<- an x (.inl F),ag x F]
end
noncomputable def sO (w:Af) (bs:Aa Int):Int :=
 if w = "and" then (if bs.sum=bs.length then 1 else 0)
 else if w = "or" then (if bs.sum>0 then 1 else 0)
 else if w = "odd" then bs.sum%2
 else if w = "most" then (if bs.sum>=2 then 1 else 0)
 else if w = "not" then (if bs.sum=0 then 1 else 0)
 else if w = "one" then 1 else 0
def nL (i:Int):Prop:=i=0\/i=1
theorem Vx (w:Af) (bs:Aa Int):nL (sO w bs):=by
 unfold sO nL;have:=fG bs.sum (show (2:Int)≠0 by decide);have:=eL bs.sum (show (0:Int)<2 by decide)
 repeat' split
 all_goals omega
theorem Lz:∀ {bs:Aa Int},(∀ b∈bs,nL b)->0<=bs.sum/\bs.sum<=bs.length
 | [],_=>by simp
 | b::r,h=>by
  have a:=h b aF;have d:=Lz λx c=>h x (aP _ c)
  simp only[dR,bQ];unfold nL at a;omega
theorem Pn:∀ {bs:Aa Int},(∀ b∈bs,b=1)->bs.sum=bs.length
 | [],_=>by simp
 | b::r,h=>by
  have c:=h b aF;have d:=Pn λx a=>h x (aP _ a)
  simp only[dR,bQ];omega
theorem Xd:∀ {bs:Aa Int},(∀ b∈bs,nL b)->(0:Int)∈bs->bs.sum<bs.length
 | [],_,h=>by simp at h
 | b::r,h,d=>by
  have c:=h b aF;have a:∀ x∈r,nL x:=λx f=>h x (aP _ f)
  have i:=Lz a;simp only[dR,bQ];unfold nL at c;rcases aO.mp d with e | e
  .omega
  .have:=Xd a e;omega
theorem X5:∀ {bs:Aa Int},(∀ b∈bs,nL b)->(1:Int)∈bs->0<bs.sum
 | [],_,h=>by simp at h
 | b::r,h,d=>by
  have c:=h b aF;have a:∀ x∈r,nL x:=λx f=>h x (aP _ f)
  have i:=Lz a;simp only[dR];unfold nL at c;rcases aO.mp d with e | e
  .omega
  .have:=X5 a e;omega
theorem Pj:∀ {bs:Aa Int},(∀ b∈bs,b=0)->bs.sum=0
 | [],_=>by simp
 | b::r,h=>by
  have c:=h b aF;have d:=Pj λx a=>h x (aP _ a)
  simp only[dR];omega
theorem QE {bs:Aa Int}{m:Int}(g:∀ b∈bs,nL b) (j:m∈bs) (l:∀ a∈bs,m<=a):m=if bs.sum=bs.length then 1 else 0:=by
 rcases g m j with e | e
 .subst e;have:=Xd g j;rw[aM (by omega)]
 .subst e;have:∀ b∈bs,b=1:=λb c=>by
   have:=l b c;rcases g b c with q | q<;>omega
  rw[aR (Pn this)]
theorem HR {bs:Aa Int}{m:Int}(g:∀ b∈bs,nL b) (j:m∈bs) (l:∀ a∈bs,a<=m):m=if bs.sum>0 then 1 else 0:=by
 rcases g m j with e | e
 .subst e;have:∀ b∈bs,b=0:=λb c=>by
   have:=l b c;rcases g b c with q | q<;>omega
  have:=Pj this;rw[aM (by omega)]
 .subst e;have:=X5 g j;rw[aR (by omega)]
def qS (j:Af->Int):Aa (Af×Af×Aa Af)->Af->Int
 | []=>j
 | g::r=>qS (λx=>if x=g.1 then sO g.2.1 (g.2.2.map j) else j x) r
def Ea (j:Af->Int) (g:Af×Af×Aa Af):Af->Int:=λx=>if x=g.1 then sO g.2.1 (g.2.2.map j) else j x
theorem Tn:∀ (l:Aa (Af×Af×Aa Af)) (j:Af->Int) (g:Af×Af×Aa Af),qS j (l++[g])=Ea (qS j l) g
 | [],j,g=>rfl
 | a::r,j,g=>Tn r _ g
def pC (C:Cel) (g:Af->Int):Af->Int:=qS g C.gates
theorem oO.at:∀ {kn:Aa Af}{i:Nat}{g:Af×Af×Aa Af},oO kn j->j[i]?=some g->ArOk g.2.1 g.2.2.length/\∀ p∈g.2.2,p∈kn++(j.take i).map (·.1):=by
 induction j with
 | nil=>intro kn i g _ h;simp at h
 | cons a r c =>
  intro kn i g h e;cases i with
  | zero=>simp at e;subst e;exact⟨h.1,by simpa using h.2.1⟩
  | succ i =>
   have:=c (kn:=kn++[a.1]) (i:=i) (g:=g) h.2.2 (by simpa using e);refine⟨this.1,λp b=>?_⟩;have q:=this.2 p b
   simpa using q
theorem Ta (h:ArOk w n) (g:w = "and" \/ w = "or"):2<=n:=by
 rcases h.ok with⟨_,q | q⟩ | ⟨q,_⟩ | ⟨q,_⟩ | ⟨q,_⟩ | ⟨q,_⟩
 .omega
 .omega
 all_goals (rcases g with e | e<;>(rw[e] at q;exact absurd q (by decide +kernel)))
theorem TX (h:ArOk "not" n):n=1:=by
 rcases h.ok with⟨q,_⟩ | ⟨q,_⟩ | ⟨_,q⟩ | ⟨q,_⟩ | ⟨q,_⟩
 .exact absurd q (by decide +kernel)
 .exact absurd q (by decide +kernel)
 .exact q
 .exact absurd q (by decide +kernel)
 .exact absurd q (by decide +kernel)
structure GC (C:Cel):Prop where
 nd:C.names.Nodup
 gt:oO C.ins C.gates
 os:∀ o∈C.outs,o∈C.names
 ond:C.outs.Nodup
 li:C.ins.length<=40
 lg:C.gates.length<=40
 lo:C.outs.length<=40
def xE (g:Aa (dT×D)) (l:Aa Af) (j:Af->Int):Prop:=∀ x∈l,mN g (Sum.inr x)=some (.int (j x))/\nL (j x)
theorem xE.step (h:xE g j o) (l:nL v) (p:n∉j):xE (nD g (Sum.inr n) (.int v)) (j++[n]) (λx=>if x=n then v else o x):=by
 intro x a;dsimp only;rw[Q4];by_cases e:x=n
 .subst e;rw[aR rfl,aR rfl];exact⟨rfl,l⟩
 .rw[aM (λz=>e (gC z).symm),aM e];rcases aU.mp a with q | q
  .exact h x q
  .exact absurd (aV.mp q) e
def Yp:RD:=λe c d=>∃ (a:Af) (bs:Aa Int),c=[.str a,.l (bs.map D.int)]/\(∀ b∈bs,nL b)/\ArOk a bs.length/\d (.v (.int (sO a bs)))
def MO (g:Aa (dT×D)) (j:Aa Af):Prop:=∀ x∈j,∃ d,mN g (Sum.inr x)=some d
def Nq:RD:=λf c d=>∃ (b:Aa Af) (a:Aa (dT×D)),(c=[.t (b.map D.str),.k a]\/c=[.l (b.map D.str),.k a])/\MO a b/\d (.v .e)
def L9:RD:=λe c d=>∃ (C:Cel) (a:Aa (dT×D)) (b:Af->Int),c=[wG C,.k a]/\GC C/\xE a C.ins b/\d (.v (.t (C.outs.map λo=>D.int (pC C b o))))
theorem Vg {g:Type} [DecidableEq g] {a b:g}{p q:Prop}(j:a=b->p) (l:¬ a=b->q):if (nb false (decide (a=b)))=true then p else q:=by
 by_cases e:a=b
 .rw[aR (by simp[nb,e])];exact j e
 .rw[aM (by simp[nb,e])];exact l e
theorem GI {c:Prop} [Decidable c] {p q:Prop}(g:c->p) (j:¬ c->q):if (decide c)=true then p else q:=by
 by_cases e:c
 .rw[aR (bE e)];exact g e
 .rw[aM (by simp[e])];exact j e
theorem Yc (h:g.length<100000):vU (.k g) (.str x) d=some (.k (nD g (Sum.inr x) d)):=by
 simp only[vU,aR h];rfl
theorem xT (t:mL):(gV t).length=t.length:=by simp[gV]
theorem UY (h:i<=60):(0:Int)<2 ^ i/\(2:Int) ^ i<2 ^ 64:=by
 have a:(2:Int) ^ i=((2 ^ i:Nat):Int):=by norm_cast
 have b:2 ^ i<2 ^ 64:=Nat.pow_lt_pow_right (by decide) (by omega);have c:0<2 ^ i:=Nat.two_pow_pos i;rw[a];omega
theorem SA:(["name","bits"]:Aa Af).Nodup:=by decide +kernel
theorem JI:(["known","told"]:Aa Af).Nodup:=by decide +kernel
theorem EU:(["name","told"]:Aa Af).Nodup:=by decide +kernel
section
variable {P:Ah}{K:mH}
theorem LP:FnScope ["word","bits"] ["word","bits"] (nA Gv):=oB
theorem NU (T:Txt j):nZ P w K j base 1 "gate_bit" Gv ["word","bits"] Yp:=by
 refine oK LP λf S A M s H E n p c h Z Y=>?_
 obtain⟨k,bs,rfl,B,ok,G⟩:=Y;have fin:∀ z:Int,z=sO k bs->c (.v (.int z)):=λz e=>by rw[e];exact G
 have a:=Iq bs;have st:∀ (e:Af) (t u:qN),(k=e->t n { nx:=λ_=>c (.v .e),rt:=c } [.v (.str k),.v (.l (bs.map D.int))])->(¬ k=e->u n { nx:=λ_=>c (.v .e),rt:=c } [.v (.str k),.v (.l (bs.map D.int))]) ->
   (∀ N O R,N.rt=O.rt->t n N R->t n O R)->J9 (B8 (xS (uZ (Qt false) 0 (cd (.str e)))) t Sy) u n { nx:=λ_=>c (.v .e),rt:=c } [.v (.str k),.v (.l (bs.map D.int))]:=λe t u V W X =>
  ⟨rfl,Vg (λz=>X { nx:=λ_=>c (.v .e),rt:=c } _ _ rfl (V z)) λz=>W z⟩
 refine⟨_,(hO (sK (wR (xZ h.units) (rN false) (pv 0) mS) (mW (nH (oM (KR rfl) CP T.min PyProof.Rows.boot_min (aD (dK 1) gD)))) sI) (hO (sK (wR (xZ h.units) (rN false) (pv 0) mS) (mW (nH (oM (WF rfl) QZ T.max PyProof.Rows.boot_max (aD (dK 1) gD)))) sI) (hO (sK (wR (xZ h.units) (rN false) (pv 0) mS) (mW (nH (oE uM P6 (oM (Fm rfl) Iz T.sum gI (aD (dK 1) gD)) hL))) sI) (hO (sK (wR (xZ h.units) (rN false) (pv 0) mS) (mW (nH (W5 (xD BF Yw (oM (Fm rfl) Iz T.sum gI (aD (dK 1) gD)) hL) hL hL))) sI) (hO (sK (wR (xZ h.units) (rN false) (pv 0) mS) (mW (nH (oE xR yP hL (mP Z 1 hL)))) sI) (mW (nH (W5 (wR (xZ h.units) (rN false) (pv 0) mS) hL hL)))))))),?_⟩;refine st _ _ _ (λe=>⟨bs,a,?_,λm F y=>fin m ?_⟩) (λd=>?_) (λ_ _ _ e=>by unfold qM;rw[e];exact id)
 .have:=Ta ok (.inl e);intro z;rw[z] at this;simp at this
 .rw[QE B F y];unfold sO;rw[if_pos e]
 refine st _ _ _ (λe=>⟨bs,a,?_,λm F y=>fin m ?_⟩) (λi=>?_) (λ_ _ _ e=>by unfold qM;rw[e];exact id)
 .have:=Ta ok (.inr e);intro z;rw[z] at this;simp at this
 .rw[HR B F y];unfold sO;rw[if_neg d,if_pos e]
 refine st _ _ _ (λe=>⟨bs,a,by show (0:Int)<2;decide,fin _ ?_⟩) (λx=>?_) (λ_ _ _ e=>by unfold qM;rw[e];exact id)
 .unfold sO;rw[if_neg d,if_neg i,if_pos e]
 refine st _ _ _ (λe=>⟨bs,a,GI (λz=>fin _ ?_) (λz=>fin _ ?_)⟩) (λL=>?_) (λ_ _ _ e=>by unfold qM;rw[e];exact id)
 .unfold sO;rw[if_neg d,if_neg i,if_neg x,if_pos e,if_pos z]
 .unfold sO;rw[if_neg d,if_neg i,if_neg x,if_pos e,if_neg z]
 refine st _ _ _ (λe=>?_) (λQ=>?_) (λ_ _ _ e=>by unfold qM;rw[e];exact id)
 .subst e;have g:=TX ok;obtain⟨b,rfl⟩:∃ b,bs=[b]:=by
   match bs,g with
   | [b],_=>exact⟨b,rfl⟩
  refine⟨rfl,.int b,rfl,fin _ ?_⟩;have:=B b (by simp);unfold sO;rw[aM d,aM i,aM x,aM L,aR rfl];rcases this with q | q<;>subst q<;>simp
 refine⟨rfl,Vg (λe=>fin _ ?_) λo=>fin _ ?_⟩
 .unfold sO;rw[if_neg d,if_neg i,if_neg x,if_neg L,if_neg Q,if_pos e]
 .unfold sO;rw[if_neg d,if_neg i,if_neg x,if_neg L,if_neg Q,if_neg o]
theorem Xl:FnScope ["names","given","name"] ["names","given"] (nA Di):=oB
theorem Qi (j:H b=some (.k g)) (l:qA g (Sum.inr x)=some v):qY H b (.str x) (some v):=by
 have:=qY.k (k:=(Sum.inr x:dT)) j
 rwa [l] at this
theorem Vs {g:Aa Af}{i:Nat}{x:V}(h:(g.map V.str)[i]?=some x):∃ y,g[i]?=some y/\V.str y=x:=by
 rw[bC] at h;cases e:g[i]? with
 | none=>rw[e] at h;cases h
 | some y=>rw[e] at h;exact⟨y,rfl,bU h⟩
theorem LW (F:Fun K "check_there" "check_there" Di f fd):FnOk P w K mg base pG 1 f fd ["names","given"] (yT K Nq):=by
 refine F.ok Xl (λg H Q E O=>by obtain⟨l,A,o,Φ,D,C,r,⟨m,S,e,_⟩,Y⟩:=O;rw[<- r.length];rcases e with e | e<;>rw[e]<;>rfl) (λj A W s H g Q E I O=>?_);obtain⟨l,A1,o,Φ,D,C,r,⟨m,S,e,J,R⟩,Y⟩:=O;have T:=Lr I;obtain⟨c,b,u,rfl,q,B,G⟩:∃ c b u,g=[.ref c,.ref b]/\(mK K H c (m.map V.str)\/nG K H c (m.map V.str))/\H b=some (.k u)/\∀ x∈m,∃ v,qA u (Sum.inr x)=some v:=by
  rcases e with e | e<;>subst e
  all_goals (
   cases r with
   | cons Z r =>
    cases r with
    | cons U r =>
     cases r;obtain⟨b,u,rfl,_,B,p,r3⟩:=U.dK_inv;have G:∀ x∈m,∃ v,qA u (Sum.inr x)=some v:=λx L=>by
      obtain⟨d,hd⟩:=J x L;obtain⟨v,z,_⟩:=(Jw p r3 (Sum.inr x)).1 d hd;exact⟨v,z⟩
     first
     | (obtain⟨c,us,rfl,z,X⟩:=Z.tup_inv;have:=Qb (N2 m) X;subst this;exact⟨c,b,u,rfl,.inr (nG.of z),B,G⟩)
     | (obtain⟨c,us,rfl,_,z,X⟩:=Z.lst_inv;have:=Qb (N2 m) X;subst this;exact⟨c,b,u,rfl,.inl (mK.of z),B,G⟩))
 have fin:Q .e H:=Y (.v .e) .e H R (λ_ _ e _=>e) D .e;refine⟨_,uE (J4 iK rfl (S1 (pv 0)) (xO (i:=2) Xl.nd rfl (Or.inl rfl)) (uE (Ew (GU (AQ T (pv 2) (pv 1))) (uE HS) E9))),?_⟩;refine⟨_,rfl,?_⟩;rcases q with q | q
 .refine .inl ⟨c,rfl,⟨_,q⟩,?_⟩;refine UE (K:=K) (a:=c) (xs:=m.map V.str) (λi n h=>h=H/\∃ M,n=[some (.ref c),some (.ref b),M]) ⟨rfl,none,rfl⟩ (λi n h _ ⟨e,_⟩=>by rw[e];exact q) ?_ ?_
  .rintro i x n h L ⟨rfl,M,rfl⟩;obtain⟨y,N,rfl⟩:=Vs L;obtain⟨v,t⟩:=G y (aL N);exact⟨_,rfl,_,rfl,b,_,rfl,Qi B t,_,rfl,vD ⟨rfl,_,rfl⟩⟩
  .rintro n h ⟨rfl,_⟩;exact fin
 .refine .inr (.inl ⟨c,rfl,⟨_,q⟩,?_⟩);refine VZ (K:=K) (a:=c) (xs:=m.map V.str) (λi n h=>h=H/\∃ M,n=[some (.ref c),some (.ref b),M]) ⟨rfl,none,rfl⟩ (λi n h _ ⟨e,_⟩=>by rw[e];exact q) ?_ ?_
  .rintro i x n h L ⟨rfl,M,rfl⟩;obtain⟨y,N,rfl⟩:=Vs L;obtain⟨v,t⟩:=G y (aL N);exact⟨_,rfl,_,rfl,b,_,rfl,Qi B t,_,rfl,vD ⟨rfl,_,rfl⟩⟩
  .rintro n h ⟨rfl,_⟩;exact fin
theorem Ek:FnScope ["cell","bits","told","name","word","names"] ["cell","bits"] (nA E3):=oB
theorem BO (T:Txt mg) (l:Kn P w K mg base 1 "check_there" Di ["names","given"] Nq) (I:Kn P w K mg base 1 "gate_bit" Gv ["word","bits"] Yp)
: nZ P w K mg base 2 "told_by" E3 ["cell","bits"] L9:=by
 refine oK Ek λf ae A ac s H E dk ds Φ hr G hR=>?_
 obtain⟨C,y,m,rfl,L,U,aa⟩:=hR;have li:=L.li;have lg:=L.lg;have O:C.ins.Nodup:=(bD.mp L.nd).1;refine⟨_,(hO (rP (mT l hr (aD (mP G 0 hL) (aD (dK 1) gD)))) (hO (mY 2 Ek.nd (pN (wF rfl) wP T.dict cL (aD (nY ["name"] ["bits"] [1] (nE (mP G 0 hL)) (λ_ _ _ _ _=>(mO 0 SA)) (λ_ _ _ _ _=>(nV (aD (dK 0) (aD (mP G 1 (dK 0)) gD))))) gD))) (hO (qO (nE (mP G 0 hL)) (sR (n:=3) rfl (oJ (mO 3 Ek.nd) (oJ (mO 4 Ek.nd) (oJ (mO 5 Ek.nd) sC)))) (mW (wH (n:=2) G (mT I hr (aD (dK 4) (aD (nY ["known"] ["told"] [2] (nE (dK 5)) (λ_ _ _ _ _=>(mO 0 JI)) (λ_ _ _ _ _=>(mP G 1 (dK 0)))) gD))) (pv 2) (dK 3)))) (mW (nH (pN yI yG T.tuple cN (aD (nY ["name"] ["told"] [2] (nE (mP G 0 hL)) (λ_ _ _ _ _=>(mO 0 EU)) (λ_ _ _ _ _=>(mP G 1 (dK 0)))) gD))))))),?_⟩;refine⟨rfl,_,rfl,C.ins,y,.inl rfl,λx M=>⟨_,(U x M).1⟩,.inl rfl,?_⟩;dsimp only;refine mJ (λc=>c=[.v (wG C),.v (.k y),.o (.k (gV (C.ins.map λn=>(n,m n)))),.n,.n,.n]) (λN hN=>?_) ?_
 .unfold pE dC aC;refine oN C.ins D.str (λn=>.t [.str n,.int (m n)]) _ (λΨ h=>⟨rfl,_,rfl,h⟩) (by omega) (λi n ys Nx e V W=>?_) ?_
  .refine⟨rfl,.int (m n),?_,by show 2<=1000;decide,V,W⟩;show some (mN y (Sum.inr n))=_;rw[(U n (aL e)).1]
  have e0:sY (C.ins.map λn=>D.t [.str n,.int (m n)])=some (gV (C.ins.map λn=>(n,m n))):=by
   rw[yD (g:=λn=>((Sum.inr n:dT),D.int (m n))) (λn=>⟨.str n,rfl,rfl⟩)];simp[gV]
  refine⟨_,e0,by simp[gV];omega,?_⟩;rw[uV (by simpa [cJ] using O)];exact hN _ rfl
 rintro _ rfl;have h0:xE (gV (C.ins.map λn=>(n,m n))) C.ins m:=λx M=>by
  refine⟨?_,(U x M).2⟩;have hm:x∈(C.ins.map λn=>(n,m n)).map (·.1):=by simpa [cJ] using M
  rw[(qF _ x).1 hm]
  congr 2
  clear hm;revert M;generalize C.ins=xs;induction xs with
  | nil=>intro h;simp at h
  | cons a r ih =>
   intro h;rw[aK,rD];by_cases q:a=x
   .rw[aR q,q]
   .rw[aM q];rcases aO.mp h with z | z
    .exact absurd z.symm q
    .exact ih z
 refine mJ (λc=>∃ (d:Aa (dT×D)) (Q R S:Sl),c=[.v (wG C),.v (.k y),.o (.k d),Q,R,S]/\xE d C.names (pC C m)) (λN hN=>?_) ?_
 .refine qH (C.gates.map vN) _ (λΨ h=>⟨rfl,_,rfl,h⟩)
   (λi c=>∃ (d:Aa (dT×D)) (Q R S:Sl),c=[.v (wG C),.v (.k y),.o (.k d),Q,R,S]/\xE d (C.ins++(C.gates.take i).map (·.1)) (qS m (C.gates.take i))/\d.length<=40+i) ⟨_,.n,.n,.n,rfl,by simpa [qS] using h0,by rw[xT,aA];omega⟩ ?_ ?_
  .rintro i x c M ⟨d,Q,R,S,rfl,F,hl⟩;obtain⟨g,B,rfl⟩:=tI M;obtain⟨X,J⟩:=L.gt.at B;have hi:i<C.gates.length:=(aX.mp B).1;have Z:g.1∉C.ins++(C.gates.take i).map (·.1):=λq=>by
    have nd:(C.ins++C.gates.map (·.1)).Nodup:=L.nd;have e:C.gates=C.gates.take i++g::C.gates.drop (i+1):=by
     obtain⟨hi,rfl⟩:=aX.mp B;rw[List.getElem_cons_drop,gJ]
    rw[e,aQ,<- bJ] at nd;exact (bD.mp nd).2.2 g.1 q g.1 (by simp) rfl
   have tk:C.gates.take (i+1)=C.gates.take i++[g]:=by rw[bR,B];rfl
   generalize ab:qS m (C.gates.take i)=u at F;have Y:∀ p∈g.2.2,nL (u p):=λp hp=>(F p (J p hp)).2
   refine⟨rfl,rfl,?_⟩;unfold Ko Cn aC vd;simp only[List.set_cons_succ,List.set_cons_zero,List.getElem?_cons_succ,List.getElem?_cons_zero];refine oN g.2.2 D.str (λo=>.int (u o)) _ (λΨ h=>h) (by rcases X.ok with⟨_,q | q⟩ | ⟨_,q⟩ | ⟨_,q⟩ | ⟨_,q⟩ | ⟨_,q⟩<;>omega) (λj o ys Nx e V W=>?_) ?_
   .refine⟨rfl,.int (u o),?_,V,W⟩;show some (mN d (Sum.inr o))=_;rw[(F o (J o (aL e))).1]
   refine⟨g.2.1,g.2.2.map u,by rw[aJ];rfl,(λb hb=>by obtain⟨p,hp,rfl⟩:=aI.mp hb;exact Y p hp),by rw[aA];exact X,.inl rfl,rfl,_,Yc (by omega),nD d (Sum.inr g.1) (.int (sO g.2.1 (g.2.2.map u))),_,_,_,rfl,?_,?_⟩
   .rw[tk,Tn,ab,aQ,<- bJ];exact F.step (Vx _ _) Z
   .have:=PV d (Sum.inr g.1:dT) (.int (sO g.2.1 (g.2.2.map u)));omega
  .rintro c ⟨d,Q,R,S,rfl,F,hl⟩;rw[aA,bL (aW _)] at F;exact hN _ ⟨d,Q,R,S,rfl,F⟩
 rintro _ ⟨d,Q,R,S,rfl,F⟩;unfold qM dC aC;have lo:=L.lo;refine oN C.outs D.str (λo=>.int (pC C m o)) _ (λΨ h=>⟨rfl,_,rfl,h⟩) (by omega) (λj o ys Nx e V W=>?_) aa;refine⟨rfl,.int (pC C m o),?_,V,W⟩;show some (mN d (Sum.inr o))=_;rw[(F o (L.os o (aL e))).1]
end
theorem Jt (g:Aa Af):rR (g.map D.str)=some (g.map V.str):=Mu (λ_=>rfl) g
theorem Dp:∀ g:Aa Af,tR (.str x) (g.map V.str)=decide (x∈g)
 | []=>by simp[tR]
 | y::g=>by
  have a:=Dp (x:=x) g;unfold tR at a |-;rw[aK,eZ,a];by_cases e:x=y
  .subst e;have:qW (V.str x) (V.str x)=true:=iU x;simp[this]
  .have:qW (V.str y) (V.str x)=false:=by
    show (y == x)=false;exact cY.mpr λz=>e z.symm
   have:qW (V.str x) (V.str y)=false:=by
    show (x == y)=false;exact cY.mpr e
   simp[*]
theorem Lq {v:Af->Int}{o:Af}:∀ {os:Aa Af},o∈os->look (os.map λx=>(x,v x)) o=v o
 | [],h=>by simp at h
 | a::r,h=>by
  rw[aK,rD];by_cases q:a=o
  .rw[aR q,q]
  .rw[aM q];rcases aO.mp h with z | z
   .exact absurd z.symm q
   .exact Lq z
theorem O7 {v:Af->Int}{o:Af}{os:Aa Af}(h:o∈os):mN (gV (os.map λx=>(x,v x))) (Sum.inr o)=some (.int (v o)):=by
 rw[(qF _ o).1 (by simpa [cJ] using h),Lq h]
theorem uG {p q:Prop}{c:Bool}(h:c=false) (g:q):if c=true then p else q:=by rw[aM (by rw[h];decide)];exact g
theorem Hu {p q:Prop}{c:Bool}(h:c=true) (g:p):if c=true then p else q:=by rw[aR h];exact g
theorem Sq:∀ (j:Aa (Af×Af×Aa Af)) (kn:Aa Af) (l:Af->Int),(∀ x∈kn,nL (l x))->∀ x∈kn++j.map (·.1),nL (qS l j x)
 | [],kn,l,h,x,a=>h x (by simpa using a)
 | g::j,kn,l,h,x,a=>by
  refine Sq j (kn++[g.1]) _ (λy b=>?_) x (by simpa using a);by_cases e:y=g.1
  .show nL (if y=g.1 then _ else _);rw[aR e];exact Vx _ _
  .show nL (if y=g.1 then _ else _);rw[aM e];rcases aU.mp b with z | z
   .exact h y z
   .exact absurd (aV.mp z) e
theorem IS (g:Aa Af) (v:Af->Int):(g.map (Sum.inr:Af->dT)).zip (g.map λo=>D.int (v o))=gV (g.map λo=>(o,v o)):=by
 induction g with
 | nil=>rfl
 | cons a r b=>rw[aK,aK,cW,b];rfl
theorem Gq (g:GC C) (h:∀ x∈C.ins,nL (j x)):∀ o∈C.outs,nL (pC C j o):=λo a=>Sq C.gates C.ins j h o (g.os o a)
theorem MT (g:Aa Af) (v:Af->Int):Hz (.v (.t (g.map λo=>D.int (v o))))=true:=by
 show xJ (g.map λo=>D.int (v o))=true;induction g with
 | nil=>rfl
 | cons p t a=>exact a
noncomputable def sN (f:Nat->Int):Nat->Int
 | 0=>0
 | n+1=>sN f n+f n
theorem Wx:∀ n,(∀ i,i<n->f i=g i)->sN f n=sN g n
 | 0,_=>rfl
 | n+1,h=>by
  show sN f n+f n=sN g n+g n;rw[Wx n λi a=>h i (by omega),h n (by omega)]
theorem Ua:∀ n,sN (λ_=>0) n=0
 | 0=>rfl
 | n+1=>by show sN (λ_=>0) n+0=0;rw[Ua n];rfl
theorem Ib:(["output","name"]:Aa Af).Nodup:=by decide +kernel
theorem Xu:(["name","carried"]:Aa Af).Nodup:=by decide +kernel
def nK (C:Cel) (g:Aa (Af×Af)):D:=.t [wG C,.t (g.map λp=>D.t [.str p.1,.str p.2])]
noncomputable def wIns (C:Cel) (g:Aa (Af×Af)):Aa Af:=C.ins.filter λx=>!decide (x∈g.map (·.2))
noncomputable def wOuts (C:Cel) (g:Aa (Af×Af)):Aa Af:=C.outs.filter λx=>!decide (x∈g.map (·.1))
def Ch:RD:=λd b c=>∃ C a,b=[nK C a]/\a.length<=100/\c (.o (.l (a.map λp=>D.str p.2)))
def Bt:RD:=λd b c=>∃ C a,b=[nK C a]/\a.length<=100/\C.ins.length<=100/\c (.o (.l ((wIns C a).map D.str)))
def M5:RD:=λd b c=>∃ C a,b=[nK C a]/\a.length<=100/\C.outs.length<=100/\c (.o (.l ((wOuts C a).map D.str)))
section
variable {P:Ah}{K:mH}
theorem NN:FnScope ["row"] ["row"] (nA zO):=oB
theorem Xv:FnScope ["row","carried"] ["row"] (nA yR):=oB
theorem Um:FnScope ["row","carried"] ["row"] (nA Es):=oB
theorem FI:nZ P w K g base 1 "carried_inputs" zO ["row"] Ch:=by
 refine oK NN λf d A b s H E x y G z u q=>?_
 obtain⟨C,c,rfl,B,a⟩:=q;refine⟨_,(mW (nH (nY ["output","name"] [] [] (nE (mP u 0 hL)) (λ_ _ _ _ _=>(sR (n:=2) rfl (oJ (mO 0 Ib) (oJ (mO 1 Ib) sC)))) (λ_ _ _ _ _=>(dK 1))))),?_⟩;unfold qM;exact oN c (λp=>D.t [.str p.1,.str p.2]) (λp=>D.str p.2) _ (λL h=>⟨rfl,_,rfl,h⟩) (by omega) (λi p F v e k m=>⟨rfl,rfl,k,m⟩) a
theorem AD (g:Kn P w K j base 1 "carried_inputs" zO ["row"] Ch):nZ P w K j base 2 "word_inputs" yR ["row"] Bt:=by
 refine oK Xv λf k A d s H E L M R z b y=>?_
 obtain⟨C,a,rfl,B,O,c⟩:=y;refine⟨_,(hO (mY 1 Xv.nd (mT g z (aD (dK 0) gD))) (mW (nH (nY ["name"] ["carried"] [1] (nE (sG b (mP b 0 hL) hL)) (λ_ _ _ _ _=>(mO 0 Xu)) (λ_ _ _ _ _=>(dK 0)) (ht:=λ_ _ _ _ _=>(vP (Bu (Bk b) (wL true) (dK 0) (pv 1)))))))),?_⟩;refine mJ (λF=>F=_) (λN v=>⟨C,a,rfl,B,.inl rfl,v _ rfl⟩) ?_;rintro _ rfl;unfold qM;refine vA C.ins D.str D.str (λx=>!decide (x∈a.map λp:Af×Af=>p.2)) _ (λS h=>⟨rfl,_,rfl,_,rfl,h⟩) (by omega) (λi x Q G e n t u=>?_) c;have m:(a.map λp=>D.str p.2)=(a.map (·.2)).map D.str:=by rw[aJ];rfl
 refine⟨.str x,(a.map (·.2)).map V.str,rfl,by rw[m];exact Jt _,?_⟩;rw[Dp];show if (!decide (x∈a.map (·.2)))=true then _ else _
 by_cases q:x∈a.map (·.2)
 .exact uG (by rw[bE q];rfl) (u (by rw[bE q];rfl))
 .exact Hu (by rw[bG q];rfl) ⟨n,t (by rw[bG q];rfl)⟩
theorem SI:nZ P w K g base 1 "word_outputs" Es ["row"] M5:=by
 refine oK Um λf y A m s H E Q R Y S b G=>?_
 obtain⟨C,a,rfl,X,W,k⟩:=G;refine⟨_,(hO (mY 1 Um.nd (nY ["output","name"] [] [] (nE (mP b 0 hL)) (λ_ _ _ _ _=>(sR (n:=2) rfl (oJ (mO 0 Ib) (oJ (mO 1 Ib) sC)))) (λ_ _ _ _ _=>(dK 0)))) (mW (nH (nY ["name"] ["carried"] [1] (nE (sG b (mP b 0 hL) hL)) (λ_ _ _ _ _=>(mO 0 Xu)) (λ_ _ _ _ _=>(dK 0)) (ht:=λ_ _ _ _ _=>(vP (Bu (Bk b) (wL true) (dK 0) (pv 1)))))))),?_⟩;refine mJ (λO=>O=[.v (nK C a),.o (.l (a.map λp=>D.str p.1))]) (λN F=>?_) ?_
 .unfold pE;exact oN a (λp=>D.t [.str p.1,.str p.2]) (λp=>D.str p.1) _ (λM h=>⟨rfl,_,rfl,h⟩) (by omega) (λi p L u e c d=>⟨rfl,rfl,c,d⟩) (F _ rfl)
 rintro _ rfl;unfold qM;refine vA C.outs D.str D.str (λx=>!decide (x∈a.map λp:Af×Af=>p.1)) _ (λM h=>⟨rfl,_,rfl,_,rfl,h⟩) (by omega) (λi x L u e c d B=>?_) k;have z:(a.map λp=>D.str p.1)=(a.map (·.1)).map D.str:=by rw[aJ];rfl
 refine⟨.str x,(a.map (·.1)).map V.str,rfl,by rw[z];exact Jt _,?_⟩;rw[Dp];show if (!decide (x∈a.map (·.1)))=true then _ else _
 by_cases q:x∈a.map (·.1)
 .exact uG (by rw[bE q];rfl) (B (by rw[bE q];rfl))
 .exact Hu (by rw[bG q];rfl) ⟨c,d (by rw[bG q];rfl)⟩
end
end Lw
namespace PySem
open PyProof.Rows L2
section
theorem BC (j:s.heap.IsList l items) (q:Q false s):wpAny (model g w) A (notIterableAtAll (.ref l)) Q E s:=by
 have has:wpAny (model g w) A (specialOf (.ref l) "__iter__") (λr a=>r.isSome=true/\a=s) E s :=
  aB (fC j.typeIs (dY F.slot_list_iter.lookup ⟨rfl,rfl⟩))
 unfold notIterableAtAll;refine aB (mM has ?_);rintro r _ ⟨e,rfl⟩;rw[aR e];exact aE q
theorem Wq (g:l≠j):∀ (n i:Nat) (s:Ae) (Q:Aa Ac->Ae->Prop),s.heap.IsListIter j l i->s.heap.IsList l items->i+n<=items.size ->
  (∀ p,p.IsListIter j l (i+n)->(∀ b,b≠j->p.get? b=s.heap.get? b)->Q ((items.toList.drop i).take n) { s with heap:=p })->wpAny (model r w) A (draw (.ref j) n) Q E s
 | 0,i,s,Q,hit,_,_,q=>aE (q s.heap hit λ_ _=>rfl)
 | n+1,i,s,Q,hit,d,le,q=>by
  have lt:i<items.size:=by omega
  have this:items[i]?=some items[i]:=cI lt;have parts:items.toList.drop i=items[i]::items.toList.drop (i+1):=by
   rw[List.drop_eq_getElem_cons (by simpa using lt)];simp
  unfold draw;refine aB (wpAny_pyNext_list_item hit d this λm a f=>?_);refine aB (bY (Wq g n (i+1) _ _ a (d.at λo e=>(f.2 l g).trans e) (by omega) λh c k=>aE ?_));have:=q h (by rw[show i+(n+1)=i+1+n by omega];exact c) λb nb=>(k b nb).trans (f.2 b nb)
  rw[parts] at this;exact this
theorem RI (calm:A.handled=none) (j:s.heap.IsList l items) (C:p.length=items.size) (plain:p.findIdx? (·.1)=none)
  (go:∀ r,(∀ b o,s.heap.get? b=some o->r.get? b=some o)->wpAny (model g w) A (assignInOrder (p.map (·.2)) items.toList) Q E { s with heap:=r }):wpAny (model g w) A (unpack (.ref l) p) Q E s:=by
 have lt:l<s.heap.objs.size:=by
  obtain⟨_,e,_⟩:=j;exact bA e
 let a:=s.heap.push { cls:=.type "list_iterator",data:=.fields #[.ref l,.int 0 0] };have same:∀ b o,s.heap.get? b=some o->a.get? b=some o:=λb o e=>aG _ e
 have less:∀ b o,s.heap.get? b=some o->b≠s.heap.objs.size:=λb o e=>bK (bA e)
 have c:a.IsListIter s.heap.objs.size l 0:=⟨_,bB _ rfl,rfl,rfl⟩;have h:a.IsList l items:=j.at λo e=>same _ o e
 unfold unpack;rw[plain,C];refine aB (bY ?_);unfold unpackItems;refine aB (BC j ?_);rw[aM aY];refine aB (bY (fB j ?_));refine aB (bY (Wq (bK lt) items.size 0 _ _ c h (by omega) λi d f=>?_));have all:(items.toList.drop 0).take items.size=items.toList:=by rw[lK];exact bL (by simp)
 have n:i.IsList l items:=h.at λo e=>(f l (bK lt)).trans e
 rw[all,aM (by simp)];refine aB (bY (wpAny_pyNext_list_end calm d n (gB (by omega)) λk m=>?_));simp only[Option.isSome_none,dZ,fY];exact aE (go k λb o e=>m b o (less b o e) ((f b (less b o e)).trans (same b o e)))
end
end PySem
namespace L2
open PySem PySem.Spec PyProof.Rows
section
variable {X:Cx}
def VP (K:mH) (n:Nat) (t:Aj):TG:=λv c H Q=>∃ a b,v = .ref a/\mK K H a b/\b.length=n/\t b c H Q
theorem HM (l:X.calm=true) (h:yK X g t)
  (o:(assignEach g X.env).length=n:=by rfl) (plain:(assignEach g X.env).findIdx? (·.1)=none:=by rfl) (j:∀ v,assign (.Tuple g k pos) X.env v=(do standAt pos;unpack v (assignEach g X.env)):=by intro _;rfl):PG X (.Tuple g k pos) (VP X.K n t):=by
 intro b s q H v u Q I r hw;obtain⟨a,m,rfl,e,d,hw⟩:=hw;cases r;obtain⟨f,c,i,x⟩:=I.list e;rw[j];refine aB (lU (RI (I.ok.hd l) i.isList (by rw[o,<- d,aZ];exact c.length) plain λw k=>?_));exact h b _ q H m _ Q (I.kept (t':=s.toks) k) (by simpa using c) hw
end
end L2
namespace L2
open PySem PySem.Spec PyProof.Rows Lw
section
def Nr (g:Ah) (w:World) (A:Around) (s:Ae) (x y:Ac):Prop:=∀ (E:Ac->Ae->Prop) (Q:Bool->Ae->Prop),Q true s->wpAny (model g w) A (eqBool x y) Q E s
end
section
variable {X:Cx}
def Je (H:Hp) (x y:V):Prop:=∃ (a b:Ad) (c:Aa (dT×V)),x = .ref a/\y = .ref b/\H a=some (.k c)/\H b=some (.k c)/\(c.map (·.1)).Nodup/\∀ p∈c,uK p.2=true/\qW p.2 p.2=true
theorem Je.now (I:Inv X g p H s) (h:Je H x y) (l:mX x u) (o:mX y v) (j:A.units<cLine):Nr X.prog X.w A s u v:=by
 obtain⟨a,b,c,rfl,rfl,n,t,F,B⟩:=h;cases l;cases o;by_cases e:a=b
 .subst e;exact λE Q q=>SeqAt.EqAt.same _ X.prog X.w E Q q
 intro E Q q;obtain⟨K,d1,i,d,k⟩:=Fc I.hok n;obtain⟨L,d2,G,f,m⟩:=Fc I.hok t;have D:i.length=G.length:=by rw[<- d.length,<- f.length]
 unfold eqBool;refine bY (wpAny_ite_split (λz=>absurd (Value.ref.inj (eq_of_beq z)) e) λ_=>aB ?_);refine PySem.W.keq_eq d1 d2 k m j (λ_=>VR f F c i d (λ_ h=>h) B) (fA ?_);rw[D];simpa using q
end
def ET (n:Nat) (g:Az):uD:=λd c b=>match d with
 | .l a=>a.length=n/\g a c b
 | _=>False
section
variable {X:Cx}
theorem IK (r:X.calm=true) (h:Er X m g o) (C:(assignEach g X.env).length=n:=by rfl) (j:(assignEach g X.env).findIdx? (·.1)=none:=by rfl) (p:∀ v,assign (.Tuple g k pos) X.env v=(do standAt pos;unpack v (assignEach g X.env)):=by intro _;rfl):xI X m (.Tuple g k pos) (ET n o) :=
 (HM r h C j p).mono λv w H Q b=>b.elim λB u T d t q hd c k=>by
  cases d with
  | l f =>
   obtain⟨a,s,rfl,_,i,e⟩:=hd.valAt.lst_inv;exact⟨a,s,rfl,mK.of i,by rw[<- e.length];exact c.1,B,u,T,f,t,q,e.length,hd.drop.pushs (A:=λ_=>True) e,c.2,k⟩
  | _=>exact c.elim
end
theorem Z5:∀ {g:Aa Af},g.Nodup->(g.map (Sum.inr:Af->dT)).Nodup:=λ{g} h=>by
 induction g with
 | nil=>exact fE
 | cons x g d =>
  obtain⟨a,b⟩:=bP.mp h;refine bP.mpr ⟨λz=>?_,d b⟩;obtain⟨y,c,e⟩:=aI.mp z;cases e;exact a c
section
variable {X:Cx}
theorem Ut (h:(t.map (·.1)).Nodup):((vT t).map (·.1)).Nodup:=by
 have e:(vT t).map (·.1)=(t.map (·.1)).map (Sum.inr:Af->dT):=by simp[vT,cJ]
 rw[e];exact Z5 h
theorem Ti (t:mL):∀ p∈vT t,uK p.2=true/\qW p.2 p.2=true:=λp a=>by
 obtain⟨r,_,rfl⟩:=aI.mp a;exact⟨rfl,iU (α:=Int) r.2⟩
end
end L2
namespace Lw
open PySem L2
def Ub:RD:=λd b c=>∃ C a,b=[nK C a]/\a.length<=100/\C.ins.length<=100/\C.outs.length<=100/\c (.o (.l [.l ((wIns C a).map D.str),.l ((wOuts C a).map D.str)]))
theorem Jy:(["out","into"]:Aa Af).Nodup:=by decide +kernel
theorem VW:(["name","ins"]:Aa Af).Nodup:=by decide +kernel
theorem LG:(["name","outs"]:Aa Af).Nodup:=by decide +kernel
section
variable {P:Ah}{K:mH}
theorem Me:FnScope ["row","ins","outs"] ["row"] (nA Fn):=oB
theorem VS:nZ P w K g base 1 "_law_words_of" Fn ["row"] Ub:=by
 refine oK Me λf M A B s H E Q R Y S b O=>?_
 obtain⟨C,a,rfl,X,W,lo,z⟩:=O;refine⟨_,(hO (mY 1 Me.nd (nY ["out","into"] [] [] (nE (mP b 0 hL)) (λ_ _ _ _ _=>(sR (n:=2) rfl (oJ (mO 0 Jy) (oJ (mO 1 Jy) sC)))) (λ_ _ _ _ _=>(dK 1)))) (hO (mY 2 Me.nd (nY ["out","into"] [] [] (nE (mP b 0 hL)) (λ_ _ _ _ _=>(sR (n:=2) rfl (oJ (mO 0 Jy) (oJ (mO 1 Jy) sC)))) (λ_ _ _ _ _=>(dK 0)))) (mW (nH (oW (aD (nY ["name"] ["ins"] [1] (nE (sG b (mP b 0 hL) hL)) (λ_ _ _ _ _=>(mO 0 VW)) (λ_ _ _ _ _=>(dK 0)) (ht:=λ_ _ _ _ _=>(vP (Bu (Bk b) (wL true) (dK 0) (pv 1))))) (aD (nY ["name"] ["outs"] [2] (nE (sG b (mP b 0 hL) hL)) (λ_ _ _ _ _=>(mO 0 LG)) (λ_ _ _ _ _=>(dK 0)) (ht:=λ_ _ _ _ _=>(vP (Bu (Bk b) (wL true) (dK 0) (pv 1))))) gD))))))),?_⟩;refine mJ (λL=>L=[.v (nK C a),.o (.l (a.map λp:Af×Af=>D.str p.2)),.n]) (λN y=>?_) ?_
 .unfold pE;exact oN a (λp=>D.t [.str p.1,.str p.2]) (λp=>D.str p.2) [.v (nK C a),.n,.n] (λG h=>⟨rfl,_,rfl,h⟩) (by omega) (λi p F k e c d=>⟨rfl,rfl,c,d⟩) (y _ rfl)
 rintro _ rfl;refine mJ (λL=>L=[.v (nK C a),.o (.l (a.map λp:Af×Af=>D.str p.2)),.o (.l (a.map λp:Af×Af=>D.str p.1))]) (λN y=>?_) ?_
 .unfold pE;exact oN a (λp=>D.t [.str p.1,.str p.2]) (λp=>D.str p.1) _ (λG h=>⟨rfl,_,rfl,h⟩) (by omega) (λi p F k e c d=>⟨rfl,rfl,c,d⟩) (y _ rfl)
 rintro _ rfl;unfold qM Q6 aC;refine vA C.ins D.str D.str (λx=>!decide (x∈a.map λp:Af×Af=>p.2)) _ (λG h=>⟨rfl,_,rfl,_,rfl,h⟩) (by omega) (λi x F k e c d u=>?_) ?_
 .have m:(a.map λp:Af×Af=>D.str p.2)=(a.map (·.2)).map D.str:=by rw[aJ];rfl
  refine⟨.str x,(a.map (·.2)).map V.str,rfl,by rw[m];exact Jt _,?_⟩;rw[Dp];show if (!decide (x∈a.map (·.2)))=true then _ else _
  by_cases q:x∈a.map (·.2)
  .exact uG (by rw[bE q];rfl) (u (by rw[bE q];rfl))
  .exact Hu (by rw[bG q];rfl) ⟨c,d (by rw[bG q];rfl)⟩
 refine vA C.outs D.str D.str (λx=>!decide (x∈a.map λp:Af×Af=>p.1)) _ (λG h=>⟨rfl,_,rfl,_,rfl,h⟩) (by omega) (λi x F k e c d u=>?_) ?_
 .have m:(a.map λp:Af×Af=>D.str p.1)=(a.map (·.1)).map D.str:=by rw[aJ];rfl
  refine⟨.str x,(a.map (·.1)).map V.str,rfl,by rw[m];exact Jt _,?_⟩;rw[Dp];show if (!decide (x∈a.map (·.1)))=true then _ else _
  by_cases q:x∈a.map (·.1)
  .exact uG (by rw[bE q];rfl) (u (by rw[bE q];rfl))
  .exact Hu (by rw[bG q];rfl) ⟨c,d (by rw[bG q];rfl)⟩
 exact⟨by show 2<=1000;decide,z⟩
end
end Lw
namespace L2
open PySem PySem.Spec PyProof.Rows
section
variable {X:Cx}
theorem HA {iter:Expr}(T o:Aa Af) (r:Aa Nat) (hc:X.calm=true) (hi:PI X tg iter wi)
  (hk:j.kind = .function) (ho:Ei (some nm) X.N X.env.kindOf j T o r=true)
  (hg:∀ p l C U J,PG (sU (some nm) X (T++o) j U C p l J) tg g)
  (ht:∀ p l C U J,vG (sU (some nm) X (T++o) j U C p l J) ab tt)
  (he:∀ p l C U J,PE (sU (some nm) X (T++o) j U C p l J) aa te)
  (hs:∀ x,foldedSetIterable iter X.env x=pure x:=by intro _;rfl) :
  PE X (.ListComp aa [⟨tg,iter,ab,0⟩] j pos) (zD T r wi g tt te):=by
 intro a s e H Q I h;rw[eval_ListComp];exact Ng (nw:=some nm) T o r hc hi hk (Od ho) hg ht he hs I h λC D d c I q J b=>Ry I q J b
end
section
variable {X:Cx}
theorem Z4 {iter:Expr}(T o:Aa Af) (r:Aa Nat) (hc:X.calm=true) (hi:wU X tg iter ι)
  (hk:j.kind = .function) (ho:Ei (some nm) X.N X.env.kindOf j T o r=true)
  (hg:∀ p l C I J,xI (sU (some nm) X (T++o) j I C p l J) T.length tg g)
  (ht:∀ p l C I J,vG (sU (some nm) X (T++o) j I C p l J) ab (uC X.K tt))
  (he:∀ p l C I J,PD (sU (some nm) X (T++o) j I C p l J) aa te)
  (U:r.Nodup:=by decide) (hs:∀ x,foldedSetIterable iter X.env x=pure x:=by intro _;rfl):PD X (.ListComp aa [⟨tg,iter,ab,0⟩] j pos) (tJ T.length r ι g tt te) :=
 (HA T o r hc hi hk ho hg ht he hs).mono λ_ _ _ h=>Mh U h
end
end L2
namespace Lw
open PySem L2
theorem Tz:(["bits"]:Aa Af).Nodup:=by decide +kernel
theorem ID:(["number","many"]:Aa Af).Nodup:=by decide +kernel
theorem KI:(["k","number","many"]:Aa Af).Nodup:=by decide +kernel
noncomputable def mI:Nat->Aa (Aa Int)
 | 0=>[[]]
 | n+1=>(mI n).map (0::·)++(mI n).map (1::·)
def mR (b:Aa Int):D:=.t (b.map D.int)
theorem uL:∀ n,(mI n).length=2 ^ n
 | 0=>rfl
 | n+1=>by unfold mI;rw[List.length_append,List.length_map,List.length_map,uL n,Nat.pow_succ];omega
theorem rJ:∀ {n:Nat}{b:Aa Int},b∈mI n->b.length=n/\∀ x∈b,x=0\/x=1
 | 0,b,h=>by rw[aV.mp h];exact⟨rfl,λ_ z=>nomatch z⟩
 | n+1,b,h=>by
  unfold mI at h;rcases aU.mp h with h | h
  all_goals
   obtain⟨c,e,rfl⟩:=aI.mp h;obtain⟨a,d⟩:=rJ e;refine⟨by rw[bQ,a],λx f=>?_⟩;rcases aO.mp f with q | q
   .first | exact .inl q | exact .inr q
   .exact d x q
theorem wC (h:n<=6):2 ^ n<=64:=gX (by decide) h
theorem AU (h:0<=z):Builtin.bitAnd z 1=z%2:=by
 obtain⟨n,rfl⟩:=eF h;have e:Builtin.bitAnd (n:Int) 1=((n &&& 1:Nat):Int):=by
  unfold Builtin.bitAnd;rw[bE h,bE (show (0:Int)<=1 by decide)];rfl
 rw[e,Nat.and_one_is_mod];rfl
noncomputable def Il (m n:Nat):Aa Int:=(List.range m).map λk=>((n/2 ^ (m-1-k)%2:Nat):Int)
theorem GW:∀ m≤6,(List.range (2 ^ m)).map (Il m)=mI m:=by decide +kernel
def zV:RD:=λc a b=>∃ n:Nat,a=[.int n]/\n<=6/\b (.o (.l ((mI n).map mR)))
section
variable {P:Ah}{K:mH}
theorem Ge:FnScope ["count","found","step"] ["count"] (nA yV):=oB
theorem QQ:FnScope ["many"] ["many"] (nA J2):=oB
theorem LL (T:Txt g):nZ P w K g base 1 "all_bits" yV ["count"] zV:=by
 refine oK Ge λf z A t s H E O Q Y W X F=>?_
 obtain⟨n,rfl,V,q⟩:=F;refine⟨_,(hO (mY 1 Ge.nd (oW (aD (nV gD) gD))) (hO (qO (A8 (by rfl) T.range (dK 0)) (mO 2 Ge.nd) (mW (mY 1 Ge.nd (oE qP qX (nY ["bits"] [] [] (nE (dK 1)) (λ_ _ _ _ _=>(mO 0 Tz)) (λ_ _ _ _ _=>(oE qP qX (nV (aD hL gD)) (dK 0)))) (nY ["bits"] [] [] (nE (dK 1)) (λ_ _ _ _ _=>(mO 0 Tz)) (λ_ _ _ _ _=>(oE qP qX (nV (aD hL gD)) (dK 0)))))))) (mW (nH (B5 1 (pv 1)))))),?_⟩;refine mJ (λc=>c=[.v (.int n),.o (.l ((mI 0).map mR)),.n]) (λN m=>?_) ?_
 .exact⟨by show 0<=1000;decide,by show 1<=1000;decide,m _ rfl⟩
 rintro _ rfl;refine mJ (λc=>∃ a,c=[.v (.int n),.o (.l ((mI n).map mR)),a]) (λN m=>?_) ?_
 .refine qH (rH 0 n) _ (λu h=>⟨by omega,by omega,h⟩) (λi c=>∃ a,c=[.v (.int n),.o (.l ((mI i).map mR)),a]) ⟨_,rfl⟩ ?_ ?_
  .rintro i x c L ⟨a,rfl⟩;obtain⟨R,rfl⟩:=Iu L;have B:=wC (show i<=6 by omega);have S:=uL i;unfold gN pE d2;refine oN (mI i) mR (λb=>mR (0::b)) _ (λu h=>h) (by omega) (λj b M y e d k=>?_) ?_
   .have G:=(rJ (aL e)).1;refine⟨by show 1<=1000;decide,?_,d,k⟩;show [D.int 0].length+(b.map D.int).length<=100000;rw[aA];show 1+b.length<=100000;omega
   refine oN (mI i) mR (λb=>mR (1::b)) _ (λu h=>h) (by omega) (λj b M y e d k=>?_) ?_
   .have G:=(rJ (aL e)).1;refine⟨by show 1<=1000;decide,?_,d,k⟩;show [D.int 1].length+(b.map D.int).length<=100000;rw[aA];show 1+b.length<=100000;omega
   refine⟨by rw[aA,aA];omega,.v (.int (0+(i:Int))),?_⟩
   .show _=[_,Sl.o (.l ((mI (i+1)).map mR)),_];rw[show mI (i+1)=(mI i).map (0::·)++(mI i).map (1::·) from rfl,aQ,aJ,aJ];rfl
  .rintro c ⟨a,rfl⟩;have e:(rH 0 n).length=n:=by simp[rH]
   rw[e];exact m _ ⟨a,rfl⟩
 rintro _ ⟨a,rfl⟩;exact q
theorem VL (T:Txt g):nZ P w K g base 1 "_law_rows" J2 ["many"] zV:=by
 refine oK QQ λf B A q s H E W X p Y Z R=>?_
 obtain⟨n,rfl,y,b⟩:=R;refine⟨_,(mW (nH (Z4 (nm := "number") ["number"] ["many"] [0] rfl (A8 (by rfl) T.range (oE Bv Bm hL (dK 0))) rfl rfl (λ_ _ _ _ _=>(mO 0 ID)) (λ_ _ _ _ _=>B9) (λ_ _ _ _ _=>(pN yI yG T.tuple cN (aD (nY ["k"] ["number","many"] [0,1] (A8 (by rfl) T.range (dK 1)) (λ_ _ _ _ _=>(mO 0 KI)) (λ_ _ _ _ _=>(oE SN QP (uJ FS DA 1 (oE xR yP (uJ xR yP 2 hL) (dK 0))) hL))) gD)))))),?_⟩;have d:=wC y;have i:((1:Int)*2 ^ ((n:Int)).toNat)=((2 ^ n:Nat):Int):=by rw[cH,Int.one_mul];norm_cast
 unfold qM;refine oN (List.range (2 ^ n)) (λk=>D.int (0+(k:Int))) (λk=>mR (Il n k)) [.v (.int n)] (λz h=>?_) (by rw[cP];omega) (λj k o V e N x=>?_) ?_
 .refine⟨⟨by omega,by omega,by decide⟩,?_⟩;show -(2 ^ 62)<=(1:Int)*2 ^ ((n:Int)).toNat/\(1:Int)*2 ^ ((n:Int)).toNat<2 ^ 62/\z (rH 0 ((1:Int)*2 ^ ((n:Int)).toNat).toNat) _;rw[i,cH];exact⟨Int.le_trans (show -(2 ^ 62)<=(0:Int) by decide) (Int.natCast_nonneg _),Int.ofNat_lt.mpr (cO d (by decide)),h⟩
 .unfold gN dC aC;refine oN (List.range n) (λk=>D.int (0+(k:Int))) (λm=>D.int ((k/2 ^ (n-1-m)%2:Nat):Int)) _ (λz h=>⟨by omega,by omega,by rw[cH];exact h⟩) (by rw[cP];omega) (λl a u c G O Q=>?_) ?_
  .have S:a<n:=by
    have:=eJ.mp (aL G);exact this
   have F:((n:Int)-1-(0+(a:Int)))=((n-1-a:Nat):Int):=by omega
   refine⟨rfl,rfl,by show (0:Int)<=(n:Int)-1-(0+(a:Int));omega,O,?_⟩;have L:Builtin.bitAnd ((0+(k:Int))/2 ^ ((n:Int)-1-(0+(a:Int))).toNat) 1=((k/2 ^ (n-1-a)%2:Nat):Int):=by
    rw[F,cH,Int.zero_add,AU (mC (by omega) (Int.pow_nonneg (by decide)))]
    norm_cast
   show c (u++[D.int (Builtin.bitAnd ((0+(k:Int))/2 ^ ((n:Int)-1-(0+(a:Int))).toNat) 1)]) _;rw[L];exact Q
  .have M:mR (Il n k)=D.t ((List.range n).map λm=>D.int ((k/2 ^ (n-1-m)%2:Nat):Int)):=by unfold mR Il;rw[List.map_map];rfl
   rw[M] at x;exact⟨N,x⟩
 .rw[<- GW n y,aJ] at b;exact b
end
theorem keysL_strs:∀ g:Aa Af,yF (g.map D.str)=some (g.map Sum.inr)
 | []=>rfl
 | x::r=>by rw[aK];unfold yF;rw[keysL_strs r];rfl
theorem P7 (f:Af->Int) (x:Af):∀ (j:Aa Af) (g:Aa (dT×D)),mN (pW g (j.map λo=>((Sum.inr o:dT),D.int (f o)))) (Sum.inr x)=if x∈j then some (.int (f x)) else mN g (Sum.inr x)
 | [],g=>by rw[aM bH];rfl
 | o::r,g=>by
  show mN (pW (nD g (Sum.inr o) (D.int (f o))) (r.map λo=>((Sum.inr o:dT),D.int (f o)))) (Sum.inr x)=_;rw[P7 f x r,Q4];by_cases h:x∈r
  .rw[aR h,aR (aP _ h)]
  .rw[aM h];by_cases e:o=x
   .rw[aR (by rw[e]),aR (by rw[e];exact aF),e]
   .rw[aM (λz=>e (gC z)),aM (λz=>(aO.mp z).elim (λq=>e q.symm) h)]
theorem X6 (f:l->o) (g:l->p):∀ j:Aa l,(j.map f).zip (j.map g)=j.map λx=>(f x,g x)
 | []=>rfl
 | x::r=>by rw[aK,aK,aK,cW,X6 f g r]
theorem T4:∀ (j:Aa (Af×Af×Aa Af)) (l:Af->Int) (x:Af),x∉j.map (·.1)->qS l j x=l x
 | [],_,_,_=>rfl
 | g::j,l,x,h=>by
  show qS (Ea l g) j x=l x;rw[T4 j _ x λz=>h (aP _ z)];exact aM λz=>h (by rw[z];exact aF)
theorem G1 (j:GC C) (g:Af->Int) (l:x∈C.ins):pC C g x=g x :=
 T4 C.gates g x λz=>(bD.mp j.nd).2.2 x l x z rfl
def Pz:RD:=λf d e=>∃ (C:Cel) (a:Aa (dT×D)) (c:Af->Int),d=[wG C,.k a]/\GC C/\xE a C.ins c/\a.length<=100/\∀ b,(∀ x∈C.ins++C.outs,mN b (Sum.inr x)=some (.int (pC C c x)))->e (.o (.k b))
section
variable {P:Ah}{K:mH}
theorem W7:FnScope ["cell","bits","known"] ["cell","bits"] (nA Gb):=oB
theorem CV (T:Txt j) (g:Kn P w K j base 2 "told_by" E3 ["cell","bits"] L9):nZ P w K j base 3 "side_bits" Gb ["cell","bits"] Pz:=by
 refine oK W7 λf y A n s H E R S W M O G=>?_
 obtain⟨C,b,a,rfl,c,t,V,i⟩:=G;refine⟨_,(hO (mY 2 W7.nd (pN (wF rfl) wP T.dict cL (aD (dK 1) gD))) (hO (rP (sZ hZ jE jF W2 Q9 (pv 2) (aD (Ai rfl (by rfl) T.dict (by rfl) T.zip (aD (mP O 0 hL) (aD (mT g M (aD (dK 0) (aD (dK 1) gD))) gD))) gD))) (mW (nH (B5 2 (pv 2)))))),?_⟩;refine mJ (λq=>q=[.v (wG C),.v (.k b),.o (.k b)]) (λN d=>?_) ?_
 .exact d _ rfl
 rintro _ rfl;refine mJ (λq=>∃ m,(∀ x∈C.ins++C.outs,mN m (Sum.inr x)=some (.int (pC C a x)))/\q=[.v (wG C),.v (.k b),.o (.k m)]) (λN d=>?_) ?_
 .have L:=c.lo;refine⟨rfl,rfl,_,rfl,C,b,a,rfl,c,t,.inl rfl,true,true,_,_,C.outs.map Sum.inr,rfl,rfl,keysL_strs C.outs,by rw[aA];omega,?_⟩;have F:(C.outs.map (Sum.inr:Af->dT)).zip (C.outs.map λo=>D.int (pC C a o))=gV (C.outs.map λo=>(o,pC C a o)):=by
   rw[X6];unfold gV;rw[List.map_map];rfl
  have B:pW [] (gV (C.outs.map λo=>(o,pC C a o)))=gV (C.outs.map λo=>(o,pC C a o)):=uV (by rw[aJ];simpa [cJ] using c.ond);have z:gV (C.outs.map λo=>(o,pC C a o))=C.outs.map λo=>((Sum.inr o:dT),D.int (pC C a o)):=by unfold gV;rw[List.map_map];rfl
  rw[F,B];refine⟨?_,d _ ⟨_,λx Q=>?_,rfl⟩⟩
  .unfold gV;rw[List.length_map,List.length_map];omega
  .rw[z,P7];by_cases h:x∈C.outs
   .rw[aR h]
   .rw[aM h];have u:x∈C.ins:=(aU.mp Q).resolve_right h;rw[G1 c a u];exact (t x u).1
 rintro _ ⟨m,e,rfl⟩;exact i _ e
end
theorem Lf {j:Type}(f:j->Int){g:Aa j}{i:Nat}{x:j}(h:g[i]?=some x):((g.take (i+1)).map f).sum=((g.take i).map f).sum+f x:=by
 rw[bR,h,aQ,mF];simp
theorem Yf (h:nL v):-(2 ^ 64)<v/\v<2 ^ 64:=by
 rcases h with rfl | rfl<;>exact⟨by decide,by decide⟩
theorem WU (h:nL v) (g:nL u):-(2 ^ 64)<v-2*u/\v-2*u<2 ^ 64:=by
 rcases h with rfl | rfl<;>rcases g with rfl | rfl<;>exact⟨by decide,by decide⟩
def pQ (C:Cel) (g:Aa (Af×Af)) (t:mL) (u:Af->Int):Int:=look t "" + ((wIns C g++wOuts C g).map λx=>look t x*u x).sum+(g.map λp=>look t p.2*(u p.2-2*u p.1)).sum
structure RwOk (C:Cel) (prs:List (Str×Str)):Prop where
 gc:GC C
 n1:(prs.map (·.1)).Nodup
 n2:(prs.map (·.2)).Nodup
 m:∀ p∈prs,p.1∈C.outs/\p.2∈C.ins
 li:C.ins.length<=6
 lp:prs.length<=6
def Pw:RD:=λe c d=>∃ (C:Cel) (a:Aa (Af×Af)) (t:mL) (b:Aa (dT×D)) (u:Af->Int),c=[nK C a,.k (gV t),.k b]/\RwOk C a/\(∀ x∈C.ins++C.outs,mN b (Sum.inr x)=some (.int (u x))/\nL (u x))/\d (.v (.int (pQ C a t u)))
section
variable {P:Ah}{K:mH}
theorem Ap:FnScope ["row","weights","known","part","name","output"] ["row","weights","known"] (nA J1):=oB
theorem FO (T:Txt l) (j:Kn P w K l base 2 "word_inputs" yR ["row"] Bt) (g:Kn P w K l base 1 "word_outputs" Es ["row"] M5):nZ P w K l base 3 "cell_part" J1 ["row","weights","known"] Pw:=by
 refine oK Ap λf V A R s H E dk ds Φ S q W=>?_
 obtain⟨C,a,t,e,u,rfl,F,L,O⟩:=W;refine⟨_,(hO (mY 3 Ap.nd (B6 q (pv 1) mS hL)) (hO (qO (nE (oE qP qX (mT j S (aD (dK 0) gD)) (mT g S (aD (dK 0) gD)))) (mO 4 Ap.nd) (mW (Kh (n:=3) Ap.nd rfl (Or.inl rfl) (oE xM xB (B6 q (pv 1) (dK 4) hL) (mP q 2 (dK 4))) Mp))) (hO (qO (nE (mP q 0 hL)) (sR (n:=2) rfl (oJ (mO 5 Ap.nd) (oJ (mO 4 Ap.nd) sC))) (mW (Kh (n:=3) Ap.nd rfl (Or.inl rfl) (oE xM xB (B6 q (pv 1) (dK 4) hL) (oE xR yP (mP q 2 (dK 4)) (oE xM xB hL (mP q 2 (dK 5))))) Mp))) (mW (nH (dK 3)))))),?_⟩;have Z:=F.lp;have X:=F.li;have Y:=F.gc.lo;refine mJ (λd=>d=[.v (nK C a),.v (.k (gV t)),.v (.k e),.v (.int (look t "")),.n,.n]) (λN B=>?_) ?_
 .refine⟨rfl,_,rfl,?_⟩;show N [_,_,_,Sl.v ((mN (gV t) (Sum.inr (Str.ofString ""))).getD (D.int 0)),_,_];rw[Ck];exact B _ rfl
 rintro _ rfl;have U:∀ y∈wIns C a++wOuts C a,y∈C.ins++C.outs:=λy z=>(aU.mp z).elim (λh=>aT _ ((bM.mp h).1)) λh=>aN _ ((bM.mp h).1)
 have l1:(wIns C a).length<=C.ins.length:=cB _ _;have l2:(wOuts C a).length<=C.outs.length:=cB _ _;refine mJ (λd=>∃ c b,d=[.v (nK C a),.v (.k (gV t)),.v (.k e),.v (.int (look t "" + ((wIns C a++wOuts C a).map λx=>look t x*u x).sum)),c,b]) (λN B=>?_) ?_
 .refine qH ((wIns C a++wOuts C a).map D.str) [.v (nK C a),.v (.k (gV t)),.v (.k e),.v (.int (look t "")),.n,.n] (λΨ h=>?_) (λi d=>∃ c b,d=[.v (nK C a),.v (.k (gV t)),.v (.k e),.v (.int (look t "" + (((wIns C a++wOuts C a).take i).map λx=>look t x*u x).sum)),c,b]) ⟨.n,.n,by simp⟩ ?_ ?_
  .rw[aQ] at h;exact⟨C,a,rfl,by omega,by omega,.inl rfl,C,a,rfl,by omega,by omega,.inl rfl,by rw[aA,aA];omega,h⟩
  .rintro i x d M ⟨c,b,rfl⟩;obtain⟨y,z,rfl⟩:=tI M;obtain⟨Q,G⟩:=L y (U y (aL z));refine⟨rfl,_,rfl,rfl,D.int (u y),?_,?_⟩
   .show some (mN e (Sum.inr y))=_;rw[Q]
   .show En ((mN (gV t) (Sum.inr y)).getD (D.int 0)) (D.int (u y)) _;rw[Ck];refine⟨.inr (Yf G),.v (.str y),b,?_⟩;rw[Lf (λx=>look t x*u x) z,<- Int.add_assoc];rfl
  .rintro d ⟨c,b,rfl⟩;rw[aA,dD];exact B _ ⟨c,b,rfl⟩
 rintro _ ⟨c,b,rfl⟩;refine mJ (λd=>∃ c b,d=[.v (nK C a),.v (.k (gV t)),.v (.k e),.v (.int (pQ C a t u)),c,b]) (λN B=>?_) ?_
 .refine qH (a.map λp=>D.t [.str p.1,.str p.2]) [.v (nK C a),.v (.k (gV t)),.v (.k e),.v (.int (look t "" + ((wIns C a++wOuts C a).map λx=>look t x*u x).sum)),c,b] (λΨ h=>?_) (λi d=>∃ c b,d=[.v (nK C a),.v (.k (gV t)),.v (.k e),.v (.int (look t "" + ((wIns C a++wOuts C a).map λx=>look t x*u x).sum+((a.take i).map λp=>look t p.2*(u p.2-2*u p.1)).sum)),c,b]) ⟨c,b,by simp⟩ ?_ ?_
  .exact⟨rfl,_,rfl,h⟩
  .rintro i x d M ⟨c,b,rfl⟩;obtain⟨y,z,rfl⟩:=tI M;obtain⟨I,J⟩:=F.m y (aL z);obtain⟨Q,G⟩:=L y.1 (aN _ I);obtain⟨o,r⟩:=L y.2 (aT _ J);have b1:=Yf G;refine⟨rfl,rfl,rfl,_,rfl,rfl,D.int (u y.2),?_,rfl,D.int (u y.1),?_,?_⟩
   .show some (mN e (Sum.inr y.2))=_;rw[o]
   .show some (mN e (Sum.inr y.1))=_;rw[Q]
   .refine⟨.inl ⟨by decide,by decide⟩,?_⟩;show En ((mN (gV t) (Sum.inr y.2)).getD (D.int 0)) (D.int (u y.2-2*u y.1)) _;rw[Ck];refine⟨.inr (WU r G),.v (.str y.2),.v (.str y.1),?_⟩;rw[Lf (λp:Af×Af=>look t p.2*(u p.2-2*u p.1)) z,<- Int.add_assoc];rfl
  .rintro d ⟨c,b,rfl⟩;rw[aA,dD];exact B _ ⟨c,b,rfl⟩
 rintro _ ⟨c,b,rfl⟩;exact O
end
theorem W3:(["output","name","known"]:Aa Af).Nodup:=by decide +kernel
def sX (C:Cel) (g:Aa (Af×Af)) (c l:Aa Int):mL:=(g.map (·.2)++wIns C g).zip (c++l)
def rL (C:Cel) (g:Aa (Af×Af)) (c l:Aa Int):Af->Int:=pC C (look (sX C g c l))
def zF (C:Cel) (g:Aa (Af×Af)) (t:mL) (c l:Aa Int):D:=.t [mR (g.map λp=>rL C g c l p.1),.int (pQ C g t (rL C g c l))]
def sP (C:Cel) (g:Aa (Af×Af)) (t:mL) (c:Aa Int):D:=.T ((mI (wIns C g).length).map λl=>(l.map (Sum.inl:Int->dT),zF C g t c l))
def pR (C:Cel) (g:Aa (Af×Af)) (t:mL):D:=.T ((mI g.length).map λc=>(c.map (Sum.inl:Int->dT),sP C g t c))
theorem Ia {j:Type} [DecidableEq j] {g:Aa (j×D)}{k:j}{d:D}(h:k∉g.map (·.1)):nD g k d=g++[(k,d)]:=by
 unfold nD;rw[aM];intro z;obtain⟨q,a,e⟩:=bW.mp z;exact h (aI.mpr ⟨q,a,cD e⟩)
theorem El:∀ b:Aa Int,uT (b.map D.int)=some (b.map Sum.inl)
 | []=>rfl
 | x::r=>by rw[aK];unfold uT;rw[El r];rfl
theorem L5:∀ n,(mI n).Nodup
 | 0=>by unfold mI;simp
 | n+1=>by
  unfold mI;have inj:∀ a:Int,((mI n).map (a::·)).Nodup:=λa=>List.Pairwise.map (a::·) (λx y h e=>h (dJ e).2) (L5 n)
  refine bD.mpr ⟨inj 0,inj 1,λx b y c e=>?_⟩;obtain⟨p,_,rfl⟩:=aI.mp b;obtain⟨q,_,rfl⟩:=aI.mp c;exact absurd (dJ e).1 (by decide)
theorem zT:∀ {a b:Aa Int},a.map (Sum.inl:Int->dT)=b.map Sum.inl->a=b
 | [],[],_=>rfl
 | [],_::_,e=>by cases e
 | _::_,[],e=>by cases e
 | x::a,y::b,e=>by
  rw[aK,aK] at e;obtain⟨c,d⟩:=dJ e;rw[Sum.inl.inj c,zT d]
theorem JP (h:(mI n)[i]?=some b) (f:Aa Int->D):nD (((mI n).take i).map λl=>(l.map (Sum.inl:Int->dT),f l)) (b.map Sum.inl) (f b)=((mI n).take (i+1)).map λl=>(l.map (Sum.inl:Int->dT),f l):=by
 rw[Ia]
 .rw[bR,h,aQ];rfl
 .intro z;rw[aJ] at z;obtain⟨c,m,e⟩:=aI.mp z;have e:c=b:=zT e;subst e;obtain⟨j,q,d⟩:=eD m;rw[bS] at q;have k:(mI n)[j]?=some c:=by rw[List.getElem_take] at d;exact aX.mpr ⟨by omega,d⟩
  have a:j<(mI n).length:=by omega
  have:=(lT a (L5 n)).mp (k.trans h.symm);omega
theorem Nt (h:RwOk C g) (o:c.length=g.length) (r:l.length=(wIns C g).length) (j:∀ x∈c,nL x) (bl:∀ x∈l,nL x) :
  (sX C g c l).map (·.1)=g.map (·.2)++wIns C g/\((sX C g c l).map (·.1)).Nodup/\xE (gV (sX C g c l)) C.ins (look (sX C g c l)):=by
 have n:(g.map (·.2)++wIns C g).Nodup:=by
  refine bD.mpr ⟨h.n2,(bD.mp h.gc.nd).1.filter _,λx f y t e=>?_⟩;subst e;have:=(bM.mp t).2;simp only[Bool.not_eq_true',decide_eq_false_iff_not] at this;exact this f
 have a:(g.map (·.2)++wIns C g).length=(c++l).length:=by rw[bF,bF,aA,o,r]
 have b:(sX C g c l).map (·.1)=g.map (·.2)++wIns C g:=lX (lY a);refine⟨b,by rw[b];exact n,λx f=>?_⟩;have i:x∈(sX C g c l).map (·.1):=by
  rw[b];by_cases d:x∈g.map (·.2)
  .exact aT _ d
  .exact aN _ (bM.mpr ⟨f,by simpa using d⟩)
 refine⟨(qF _ x).1 i,?_⟩;obtain⟨p,d,e⟩:=aI.mp i;have m:∀ q∈sX C g c l,nL q.2:=λq s=>by
  have:=(fR s).2;exact (aU.mp this).elim (j _) (bl _)
 unfold look;cases k:(sX C g c l).find? (λp=>decide (p.1=x)) with
 | none=>exact .inl rfl
 | some q=>exact m q (iY k)
theorem U2 (h:(mI n)[i]?=some b) (f:Aa Int->D) (g:(mI n).length<=64):vU (.T (((mI n).take i).map λl=>(l.map (Sum.inl:Int->dT),f l))) (mR b) (f b)=some (.T (((mI n).take (i+1)).map λl=>(l.map (Sum.inl:Int->dT),f l))):=by
 have a:(((mI n).take i).map λl=>(l.map (Sum.inl:Int->dT),f l)).length<100000:=by rw[aA,bS];omega
 show (if (((mI n).take i).map λl=>(l.map (Sum.inl:Int->dT),f l)).length<100000 then (uT (b.map D.int)).map (λk=>D.T (nD (((mI n).take i).map λl=>(l.map (Sum.inl:Int->dT),f l)) k (f b))) else none)=_;rw[aR a,El,gS,JP h]
def U3:RD:=λe b d=>∃ (C:Cel) (a:Aa (Af×Af)) (t:mL) (c:Aa Int),b=[nK C a,.k (gV t),mR c]/\RwOk C a/\c.length=a.length/\(∀ x∈c,nL x)/\d (.o (sP C a t c))
def Ol:RD:=λd b c=>∃ (C:Cel) (a:Aa (Af×Af)) (t:mL),b=[nK C a,.k (gV t)]/\RwOk C a/\c (.o (pR C a t))
section
variable {P:Ah}{K:mH}
theorem Do:FnScope ["row","weights","carried","found","bits","known","onward"] ["row","weights","carried"] (nA Ij):=oB
theorem Ni:FnScope ["row","weights","table","carried"] ["row","weights"] (nA Dy):=oB
theorem VI (T:Txt mg) (U:Kn P w K mg base 1 "all_bits" yV ["count"] zV) (g:Kn P w K mg base 2 "word_inputs" yR ["row"] Bt) (r:Kn P w K mg base 1 "carried_inputs" zO ["row"] Ch) (J:Kn P w K mg base 3 "side_bits" Gb ["cell","bits"] Pz) (I:Kn P w K mg base 3 "cell_part" J1 ["row","weights","known"] Pw)
: nZ P w K mg base 4 "steps_from" Ij ["row","weights","carried"] U3:=by
 refine oK Do λf aa A Z s H E dk ds Φ O S hR=>?_
 obtain⟨C,a,t,c,rfl,d,Q,W,Y⟩:=hR;refine⟨_,(hO (mY 3 Do.nd Ha) (hO (qO (nE (mT U O (aD (oM sH rX T.len cG (aD (mT g O (aD (dK 0) gD)) gD)) gD))) (mO 4 Do.nd) (hO (mY 5 Do.nd (mT J O (aD (mP S 0 hL) (aD (Ai rfl (by rfl) T.dict (by rfl) T.zip (aD (oE qP qX (mT r O (aD (dK 0) gD)) (mT g O (aD (dK 0) gD))) (aD (uJ qP qX 2 (dK 4)) gD))) gD)))) (hO (mY 6 Do.nd (pN yI yG T.tuple cN (aD (nY ["output","name"] ["known"] [5] (nE (mP S 0 hL)) (λ_ _ _ _ _=>(sR (n:=2) rfl (oJ (mO 0 W3) (oJ (mO 1 W3) sC)))) (λ_ _ _ _ _=>(mP S 2 (dK 0)))) gD))) (mW (wH (n:=3) S (nV (aD (dK 6) (aD (mT I O (aD (dK 0) (aD (dK 1) (aD (dK 5) gD)))) gD))) (pv 3) (dK 4)))))) (mW (nH (B5 3 (pv 3)))))),?_⟩;have af:=d.lp;have ae:=d.li;have l1:(wIns C a).length<=C.ins.length:=cB _ _;have ab:=wC (show (wIns C a).length<=6 by omega);have ac:=uL (wIns C a).length;refine mJ (λb=>b=_) (λN F=>F _ rfl) ?_;rintro _ rfl;refine mJ (λb=>∃ L M B,b=[.v (nK C a),.v (.k (gV t)),.v (mR c),.o (sP C a t c),L,M,B]) (λN F=>?_) ?_
 .refine qH ((mI (wIns C a).length).map mR) _ (λΨ h=>?_) (λi b=>∃ L M B,b=[.v (nK C a),.v (.k (gV t)),.v (mR c),.o (.T (((mI (wIns C a).length).take i).map λl=>(l.map (Sum.inl:Int->dT),zF C a t c l))),L,M,B]) ⟨.n,.n,.n,rfl⟩ ?_ ?_
  .exact⟨C,a,rfl,by omega,by omega,.inl rfl,rfl,_,rfl,(wIns C a).length,by rw[aA],by omega,.inl rfl,h⟩
  .rintro i x b u ⟨L,M,B,rfl⟩;obtain⟨l,hl,rfl⟩:=tI u;obtain⟨ll,lb⟩:=rJ (aL hl);obtain⟨ek,nd,R⟩:=Nt d Q ll W lb;refine mJ (λb=>∃ z,(∀ x∈C.ins++C.outs,mN z (Sum.inr x)=some (.int (rL C a c l x)))/\b=[.v (nK C a),.v (.k (gV t)),.v (mR c),.o (.T (((mI (wIns C a).length).take i).map λl=>(l.map (Sum.inl:Int->dT),zF C a t c l))),.v (mR l),.o (.k z),B]) (λN F=>?_) ?_
   .have ez:((a.map λp=>D.str p.2)++(wIns C a).map D.str)=(a.map (·.2)++wIns C a).map D.str:=by rw[aQ,aJ];rfl
    have ev:(c.map D.int++l.map D.int)=(c++l).map D.int:=(aQ ..).symm;refine⟨rfl,_,rfl,C,a,rfl,by omega,.inl rfl,C,a,rfl,by omega,by omega,.inl rfl,by rw[aA,aA];omega,rfl,by rw[aA,aA,Q,ll];omega,false,true,_,_,(a.map (·.2)++wIns C a).map Sum.inr,rfl,rfl,by rw[ez];exact keysL_strs _,by rw[aA,bF,aA];omega,?_⟩;have V:pW [] (((a.map (·.2)++wIns C a).map (Sum.inr:Af->dT)).zip (c.map D.int++l.map D.int))=gV (sX C a c l):=by
     rw[ev];have e3:((a.map (·.2)++wIns C a).map (Sum.inr:Af->dT)).zip ((c++l).map D.int)=gV (sX C a c l):=by
      unfold gV sX;rw[List.zip_map];rfl
     rw[e3];exact uV nd
    rw[V];have le:(gV (sX C a c l)).length<=100:=by
     have:=cC List.length ek;rw[aA,bF,aA] at this;unfold gV;rw[aA];omega
    exact⟨C,_,_,rfl,d.gc,R,le,λz q=>⟨.inl rfl,F _ ⟨z,q,rfl⟩⟩⟩
   rintro _ ⟨z,q,rfl⟩;refine mJ (λb=>b=[.v (nK C a),.v (.k (gV t)),.v (mR c),.o (.T (((mI (wIns C a).length).take i).map λl=>(l.map (Sum.inl:Int->dT),zF C a t c l))),.v (mR l),.o (.k z),.v (mR (a.map λp=>rL C a c l p.1))]) (λN F=>?_) ?_
   .have hb:∀ x∈C.ins++C.outs,nL (rL C a c l x):=λx u=>by
     by_cases G:x∈C.ins
     .unfold rL;rw[G1 d.gc _ G];exact (R x G).2
     .exact Gq d.gc (λy X=>(R y X).2) x ((aU.mp u).resolve_left G)
    unfold pE dC aC;refine oN a (λp=>D.t [.str p.1,.str p.2]) (λp=>D.int (rL C a c l p.1)) _ (λΨ h=>⟨rfl,_,rfl,h⟩) (by omega) (λj y ys Nx e h1 h2=>?_) ?_
    .refine⟨rfl,rfl,rfl,D.int (rL C a c l y.1),?_,h1,h2⟩;show some (mN z (Sum.inr y.1))=_;rw[q y.1 (aN _ (d.m y (aL e)).1)]
    .have e4:mR (a.map λp=>rL C a c l p.1)=D.t (a.map λp=>D.int (rL C a c l p.1)):=by unfold mR;rw[List.map_map];rfl
     have k:=F _ rfl;rw[e4] at k;exact k
   rintro _ rfl;have hb:∀ x∈C.ins++C.outs,nL (rL C a c l x):=λx u=>by
     by_cases G:x∈C.ins
     .unfold rL;rw[G1 d.gc _ G];exact (R x G).2
     .exact Gq d.gc (λy X=>(R y X).2) x ((aU.mp u).resolve_left G)
   refine⟨C,a,t,z,rL C a c l,rfl,d,λx u=>⟨q x u,hb x u⟩,.inl rfl,by show 2<=1000;decide,rfl,?_⟩;exact⟨_,U2 hl (zF C a t c) (by omega),_,_,_,rfl⟩
  .rintro b ⟨L,M,B,rfl⟩;rw[aA,dD];exact F _ ⟨L,M,B,rfl⟩
 rintro _ ⟨L,M,B,rfl⟩;exact Y
theorem ML (T:Txt l) (j:Kn P w K l base 1 "all_bits" yV ["count"] zV) (g:Kn P w K l base 4 "steps_from" Ij ["row","weights","carried"] U3)
: nZ P w K l base 5 "step_table" Dy ["row","weights"] Ol:=by
 refine oK Ni λf G A u s H E S V W B D O=>?_
 obtain⟨C,a,t,rfl,y,q⟩:=O;refine⟨_,(hO (mY 2 Ni.nd Ha) (hO (qO (nE (mT j B (aD (oM sH rX T.len cG (aD (mP D 0 hL) gD)) gD))) (mO 3 Ni.nd) (mW (wH (n:=2) D (mT g B (aD (dK 0) (aD (dK 1) (aD (dK 3) gD)))) (pv 2) (dK 3)))) (mW (nH (B5 2 (pv 2)))))),?_⟩;have m:=y.lp;have M:=wC m;have Q:=uL a.length;refine mJ (λd=>d=_) (λN e=>e _ rfl) ?_;rintro _ rfl;refine mJ (λd=>∃ b,d=[.v (nK C a),.v (.k (gV t)),.o (pR C a t),b]) (λN e=>?_) ?_
 .refine qH ((mI a.length).map mR) _ (λX h=>?_) (λi d=>∃ b,d=[.v (nK C a),.v (.k (gV t)),.o (.T (((mI a.length).take i).map λc=>(c.map (Sum.inl:Int->dT),sP C a t c))),b]) ⟨.n,rfl⟩ ?_ ?_
  .exact⟨rfl,_,rfl,rfl,_,rfl,a.length,by rw[aA],by omega,.inl rfl,h⟩
  .rintro i x d R ⟨b,rfl⟩;obtain⟨c,z,rfl⟩:=tI R;obtain⟨L,F⟩:=rJ (aL z);exact⟨C,a,t,c,rfl,y,L,F,.inl rfl,rfl,_,U2 z (sP C a t) (by omega),_,rfl⟩
  .rintro d ⟨b,rfl⟩;rw[aA,dD];exact e _ ⟨b,rfl⟩
 rintro _ ⟨b,rfl⟩;exact q
end
theorem Uq:(["bit","want"]:Aa Af).Nodup:=by decide +kernel
theorem QX:(["name","edges"]:Aa Af).Nodup:=by decide +kernel
theorem EM:(["bits","asked"]:Aa Af).Nodup:=by decide +kernel
theorem Kb:(["out","into","bit","edges"]:Aa Af).Nodup:=by decide +kernel
noncomputable def qE:Ab Int->D
 | none=>.e
 | some i=>.int i
noncomputable def tF (b:Int) (o:Ab Int):Bool:=match o with
 | none=>true
 | some i=>decide (i=b)
def uI (bs:Aa Int) (os:Aa (Ab Int)):Bool:=(bs.zip os).all λp=>tF p.1 p.2
def rG (g:Aa (Af×Af)) (j:Af->Ab Int):Aa (Ab Int):=g.map λp=>j p.2
def qV (g:Aa (Af×Af)) (j:Af->Ab Int):Aa (Aa Int):=(mI g.length).filter λb=>uI b (rG g j)
theorem Gs (f:o->D) (g:r->D):∀ (j:Aa o) (l:Aa r),Bh (j.map f) (l.map g)=(j.zip l).map λp=>D.t [f p.1,g p.2]
 | [],_=>rfl
 | _::_,[]=>rfl
 | x::j,y::l=>by
  show D.t [f x,g y]::Bh (j.map f) (l.map g)=_;rw[Gs f g j l];rfl
theorem WJ (b:Int) (o:Ab Int):∃ v,rF (qE o)=some v/\tR v [.e,.int b]=tF b o:=by
 cases o with
 | none=>exact⟨.e,rfl,rfl⟩
 | some i =>
  refine⟨.int i,rfl,?_⟩;show (false||((b == i)||false))=decide (i=b);rw[Bool.or_false,Bool.false_or];by_cases h:i=b
  .subst h;simp
  .rw[bG h];simp;exact λe=>h e.symm
theorem Xm:∀ bs:Aa Bool,(!tR (.b false) (bs.map V.b))=bs.all id
 | []=>rfl
 | b::r=>by
  have a:=Xm r;unfold tR at a |-;rw[aK,eZ,lV,<- a];cases b<;>rfl
theorem So:∀ bs:Aa Bool,rR (bs.map D.b)=some (bs.map V.b)
 | []=>rfl
 | b::r=>by rw[aK];unfold rR;rw[So r];rfl
theorem Ul (g:Af->Ab Int):∀ (j:Aa (Af×Af)) (b:Aa Int),(((j.zip b).map λp=>tF p.2 (g p.1.2)).all id)=uI b (rG j g)
 | [],b=>by cases b<;>rfl
 | _::_,[]=>rfl
 | p::r,x::b=>by
  have a:=Ul g r b;show (tF x (g p.2)&&(((r.zip b).map λp=>tF p.2 (g p.1.2)).all id))=(tF x (g p.2)&&uI b (rG r g));rw[a]
def Sc:RD:=λd a c=>∃ (bs:Aa Int) (os:Aa (Ab Int)),a=[mR bs,.l (os.map qE)]/\bs.length<=100/\os.length<=100/\c (.v (.b (uI bs os)))
def Ep:RD:=λf d e=>∃ (C:Cel) (a:Aa (Af×Af)) (b:Aa (dT×D)) (c:Af->Ab Int),d=[nK C a,.k b]/\a.length<=6/\(∀ p∈a,mN b (Sum.inr p.2)=some (qE (c p.2)))/\e (.o (.l ((qV a c).map mR)))
section
variable {P:Ah}{K:mH}
theorem UM:FnScope ["bits","asked"] ["bits","asked"] (nA Jl):=oB
theorem Uh:FnScope ["row","edges","asked"] ["row","edges"] (nA E1):=oB
theorem Gh:FnScope ["row","edges","found","bits","good"] ["row","edges"] (nA Fx):=oB
theorem Zc (T:Txt g):nZ P w K g base 1 "are_let" Jl ["bits","asked"] Sc:=by
 refine oK UM λf m A c s H E B F x u M q=>?_
 obtain⟨bs,os,rfl,G,L,a⟩:=q;refine⟨_,(mW (nH (oM (Dr rfl) Cw T.all gL (aD (nY ["bit","want"] [] [] (N6 (by rfl) T.zip (aD (dK 0) (aD (dK 1) gD))) (λ_ _ _ _ _=>(sR (n:=2) rfl (oJ (mO 0 Uq) (oJ (mO 1 Uq) sC)))) (λ_ _ _ _ _=>(NH (O6 OH (FP false) (pv 1) Hm) (Nv (O6 (xZ u.units) (rN false) (pv 1) (dK 0)))))) gD)))),?_⟩;have N:(bs.zip os).length<=100:=by rw[iL];omega
 unfold qM dC aC;refine oN (bs.zip os) (λp=>D.t [.int p.1,qE p.2]) (λp=>D.b (tF p.1 p.2)) [.v (mR bs),.v (.l (os.map qE))] (λQ h=>⟨true,false,_,_,rfl,rfl,?_⟩) (by omega) (λj y O z e d k=>?_) ?_
 .rw[Gs];exact h
 .obtain⟨b,o⟩:=y;cases o with
  | none=>exact⟨rfl,rfl,rfl,d,k⟩
  | some i=>exact⟨rfl,rfl,rfl,rfl,d,k⟩
 .refine⟨(bs.zip os).map λp=>tF p.1 p.2,?_,?_⟩
  .rw[<- zN,aJ];rfl
  .show x (.v (.b (((bs.zip os).map λp=>tF p.1 p.2).all id)));rw[jW];exact a
theorem PM (T:Txt J) (g:Kn P w K J base 1 "carried_inputs" zO ["row"] Ch) (r:Kn P w K J base 1 "all_bits" yV ["count"] zV) (I:Kn P w K J base 1 "are_let" Jl ["bits","asked"] Sc)
: nZ P w K J base 2 "let_edges" E1 ["row","edges"] Ep:=by
 refine oK Uh λf F A z s H E Y Z Φ u S O=>?_
 obtain⟨C,a,d,c,rfl,m,R,x⟩:=O;refine⟨_,(hO (mY 2 Uh.nd (nY ["name"] ["edges"] [1] (nE (mT g u (aD (dK 0) gD))) (λ_ _ _ _ _=>(mO 0 QX)) (λ_ _ _ _ _=>(mP S 1 (dK 0))))) (mW (nH (nY ["bits"] ["asked"] [2] (nE (mT r u (aD (oM sH rX T.len cG (aD (dK 2) gD)) gD))) (λ_ _ _ _ _=>(mO 0 EM)) (λ_ _ _ _ _=>(dK 0)) (ht:=λ_ _ _ _ _=>(vP (vL (mT I u (aD (dK 0) (aD (dK 1) gD)))))))))),?_⟩;have L:=wC m;have Q:=uL a.length;refine mJ (λX=>X=[.v (nK C a),.v (.k d),.o (.l ((rG a c).map qE))]) (λN M=>?_) ?_
 .unfold pE;have k:=M _ rfl;rw[show (rG a c).map qE=a.map (λp=>qE (c p.2)) by unfold rG;rw[List.map_map];rfl] at k;refine oN a (λp=>D.str p.2) (λp=>qE (c p.2)) [.v (nK C a),.v (.k d),.n] (λW h=>⟨C,a,rfl,by omega,.inl rfl,h⟩) (by omega) (λj y V B e q t=>?_) k;refine⟨rfl,qE (c y.2),?_,q,t⟩;show some (mN d (Sum.inr y.2))=_;rw[R y (aL e)]
 rintro _ rfl;unfold qM;refine vA (mI a.length) mR mR (λb=>uI b (rG a c)) [.v (nK C a),.v (.k d),.v (.l ((rG a c).map qE))] (λW h=>?_) (by omega) (λj b V B e q t G=>?_) ?_
 .exact⟨rfl,_,rfl,a.length,by unfold rG;rw[List.length_map,List.length_map],m,.inl rfl,h⟩
 .have U:=(rJ (aL e)).1;refine⟨b,rG a c,rfl,by omega,by unfold rG;rw[List.length_map];omega,.inl rfl,rfl,_,rfl,?_⟩;cases i:uI b (rG a c) with
  | true=>exact (aR rfl).mpr ⟨q,t i⟩
  | false=>exact (aM aY).mpr (G i)
 .exact x
theorem PL (T:Txt r) (g:Kn P w K r base 1 "_law_rows" J2 ["many"] zV):nZ P w K r base 2 "_law_let" Fx ["row","edges"] Ep:=by
 refine oK Gh λf Z A R s H E dk ds Φ hr M hR=>?_
 obtain⟨C,a,d,c,rfl,L,he,Q⟩:=hR;refine⟨_,(hO (mY 2 Gh.nd (oW gD)) (hO (qO (nE (mT g hr (aD (oM sH rX T.len cG (aD (mP M 0 hL) gD)) gD))) (mO 3 Gh.nd) (hO (zB 4 ["out","into","bit"] ["edges"] [1] Gh.nd (N6 (by rfl) T.zip (aD (mP M 0 hL) (aD (dK 3) gD))) (λ_ _ _ _ _=>(sR (n:=2) rfl (oJ (sR (n:=2) rfl (oJ (mO 0 Kb) (oJ (mO 1 Kb) sC))) (oJ (mO 2 Kb) sC)))) (λ_ _ _ _ _=>(B1 (Fp M) (wL false) (mP M 3 (dK 1)) (nV (aD Hm (aD (dK 2) gD)))))) (mW (sK (Bu (Bk M) (wL true) sL (pv 4)) (mW (rP (sZ bT bZ cA tX uY (pv 2) (aD (dK 3) gD)))) sI)))) (mW (nH (B5 2 (pv 2)))))),?_⟩;have U:=wC L;have aa:=uL a.length;refine mJ (λm=>m=_) (λN G=>⟨by show 0<=1000;decide,G _ rfl⟩) ?_;rintro _ rfl;refine mJ (λm=>∃ F u,m=[.v (nK C a),.v (.k d),.o (.l ((qV a c).map mR)),F,u]) (λN G=>?_) ?_
 .refine qH ((mI a.length).map mR) _ (λΨ h=>?_) (λi m=>∃ F u,m=[.v (nK C a),.v (.k d),.o (.l ((((mI a.length).take i).filter λb=>uI b (rG a c)).map mR)),F,u]) ⟨.n,.n,rfl⟩ ?_ ?_
  .exact⟨rfl,_,rfl,rfl,_,rfl,a.length,by rw[aA],L,.inl rfl,h⟩
  .rintro i x m hx ⟨F,u,rfl⟩;obtain⟨b,X,rfl⟩:=tI hx;obtain⟨bl,_⟩:=rJ (aL X);obtain⟨z,B⟩:∃ z,z=(((mI a.length).take i).filter λb=>uI b (rG a c)):=⟨_,rfl⟩;have lf:z.length<=64:=by rw[B];exact bN (cB _ _) (by rw[bS];omega)
   rw[<- B];refine mJ (λm=>m=[.v (nK C a),.v (.k d),.o (.l (z.map mR)),.v (mR b),.o (.l (((a.zip b).map λp=>tF p.2 (c p.1.2)).map D.b))]) (λN G=>?_) ?_
   .unfold pE;have k:=G _ rfl;rw[aJ] at k;refine oN (a.zip b) (λp=>D.t [.t [.str p.1.1,.str p.1.2],.int p.2]) (λp=>D.b (tF p.2 (c p.1.2))) [.v (nK C a),.v (.k d),.o (.l (z.map mR)),.v (mR b),u] (λΨ h=>?_) (by rw[iL];omega) (λj y ys Y e I J=>?_) k
    .refine⟨rfl,_,rfl,true,true,_,_,rfl,rfl,?_⟩;rw[Gs];exact h
    .obtain⟨p,S⟩:=y;have hp:=(fR (aL e)).1;obtain⟨v,v1,v2⟩:=WJ S (c p.2);refine⟨rfl,rfl,rfl,rfl,rfl,qE (c p.2),?_,by show 2<=1000;decide,v,_,v1,rfl,I,?_⟩
     .show some (mN d (Sum.inr p.2))=_;rw[he p hp]
     .show Y (ys++[D.b (tR v [.e,.int S])]) _;rw[v2];exact J
   rintro _ rfl;refine⟨_,_,rfl,So _,?_⟩;show if (!tR (.b false) (((a.zip b).map λp=>tF p.2 (c p.1.2)).map V.b))=true then _ else _
   rw[Xm,Ul];have W:∀ q:Bool,uI b (rG a c)=q->((mI a.length).take (i+1)).filter (λb=>uI b (rG a c))=z++(if q=true then [b] else []):=λq O=>by
    rw[bR,X,lN,<- B];show z++[b].filter _=_;cases q<;>simp[O]
   cases O:uI b (rG a c) with
   | true =>
    refine (aR rfl).mpr ⟨rfl,by rw[aA];omega,.v (mR b),.o (.l (((a.zip b).map λp=>tF p.2 (c p.1.2)).map D.b)),?_⟩;rw[W true O,aR rfl,aQ];rfl
   | false =>
    refine (aM aY).mpr ⟨.v (mR b),.o (.l (((a.zip b).map λp=>tF p.2 (c p.1.2)).map D.b)),?_⟩;rw[W false O,aM aY,cZ]
  .rintro m ⟨F,u,rfl⟩;rw[aA,dD];exact G _ ⟨F,u,rfl⟩
 rintro _ ⟨F,u,rfl⟩;exact Q
end
theorem Wb:∀ {ks:Aa Af}{vs:Aa Int},ks.Nodup->ks.length=vs.length->ks.map (look (ks.zip vs))=vs
 | [],[],_,_=>rfl
 | [],_::_,_,e=>by cases e
 | _::_,[],_,e=>by cases e
 | k::ks,v::vs,d,e=>by
  obtain⟨b,c⟩:=bP.mp d;rw[aK,cW,rD,aR rfl];have:ks.map (look ((k,v)::ks.zip vs))=ks.map (look (ks.zip vs)):=bV λx a=>by
   rw[rD,aM];intro z;have z:k=x:=z;exact b (z▸a)
  rw[this,Wb c (by simpa using e)]
end Lw
namespace L2
open PySem PySem.Spec PyProof.Rows Lw
structure YS (K:mH) (J:It) (ds:List D) (S:Hp->Prop):Prop where
 go:∀ i H,i<ds.length->S H->J.go i H
 yld:∀ i H x H',i<ds.length->S H->J.yld i H x H'->∃ d,ds[i]?=some d/\H'=H/\∀ A,Rep K A H d x
 stop:∀ i H,i=ds.length->S H->J.stop i H
def Xs (g:nF):vW:=λc e d=>g c e λr b=>match r with
 | .v (.T a)=>d (tE a) b
 | _=>False
def Qu (X:Cx) (g:TE):TI:=λe H R=>g e H λx c=>∃ a b,x = .ref a/\((c a=some (.T b)/\∀ o,(∀ d u,X.H₀ a≠some (.frz d u))->R (By a o b) (upd c a (.frz o (.T b))))\/∃ o,c a=some (.frz o (.T b))/\R (By a o b) c)
section
variable {X:Cx}
theorem VX (g:PE X l j):PI X p l (Qu X j):=by
 intro d s z H R I h;refine mM (g d s z H _ I h) λv f t=>?_
 obtain⟨x,A,m,K,a,c,e,alt⟩:=t;subst e;cases K;obtain⟨o,k,n,i,q⟩:∃ o k,Inv X d z k f/\k a=some (.frz o (.T c))/\R (By a o c) k:=by
  rcases alt with⟨i,q⟩ | ⟨o,i,q⟩
  .obtain⟨o,G⟩:∃ o,f.heap.get? a=some o:=by
    obtain⟨_,_,_,_,o,_,_,e,_⟩:=(show nT X.prog X.w A f.heap a (.T c) from m.hok a _ i);exact⟨o,e⟩
   exact⟨o,_,m.frozen i G,mZ,q o λy u e=>by
    have:=m.base.frzs a y u e;rw[i] at this;cases this⟩
  .exact⟨o,_,m,i,q⟩
 obtain⟨D,B,raw,sz,_⟩:=Ly n.hok i;have E:∀ b∈[f.heap.objs.size],tU X d k b:=λb F=>by
  have e:b=f.heap.objs.size:=by simpa using F
  subst e;exact n.fpOk (aW _) (n.hok.fresh (aW _))
 refine N3 raw ⟨f.heap.objs.size,[f.heap.objs.size],_,By a o c,k,rfl,n.kept (t':=f.toks) λb y q=>aG _ q,QO a _ o c,⟨B,⟨D,raw.dat⟩,?_⟩,E,q⟩;exact⟨_,bB _ rfl,rfl,by rw[sz];rfl⟩
def thawQ (X:Cx) (Q:Hp->Prop) (H:Hp):Prop:=Q H\/∃ a o b,H a=some (.frz o (.T b))/\(∀ c u,X.H₀ a≠some (.frz c u))/\Q (upd H a (.T b))
theorem Inv.thawQ (I:Inv X g l H s) (h:L2.thawQ X Q H):∃ j,Inv X g l j s/\Q j:=by
 rcases h with h | ⟨a,o,d,c,b,h⟩
 .exact⟨H,I,h⟩
 .exact⟨_,I.thawed c b,h⟩
theorem FF (h:PE X e t):PE X e (λg H Q=>t g H λv=>thawQ X (Q v)):=λa s g H Q I q=>by
 refine mM (h a s g H _ I q) λv u b=>?_
 obtain⟨x,n,d,m,i⟩:=b;obtain⟨c,f,k⟩:=d.thawQ i;exact⟨x,c,f,m,k⟩
theorem Sj {K:mH}(l:j.map (·.1)=g.map (·.1)):YS K (By a o g) (tE j) λH=>H a=some (.frz o (.T g)):=by
 have f:(tE j).length=g.length:=by
  have:=cC List.length l;unfold tE
  simpa using this
 refine⟨λi H d c=>⟨c,by rw[<- f];exact d⟩,?_,λi H d c=>⟨c,by rw[d,f]⟩⟩;rintro i H x n d c ⟨rfl,k,w,p,h,rfl,m⟩;refine⟨.t (k.map Ex),?_,rfl,λA=>.t m (J7 k)⟩;have b:(g.map (·.1))[i]?=some k:=by rw[bC,h];rfl
 rw[<- l,bC] at b;unfold tE;rw[bC];cases e:j[i]? with
 | none=>rw[e] at b;cases b
 | some p=>rw[e] at b;cases b;rfl
theorem Sz {T:Aa Af}{j:Aa Nat}{g:uD}{tt:rW}{te:nF}{K:mH}(aa:j.Nodup){σ:St}{H1:Hp}{Q:VK}{B:Bs}{C:Aa Sl}{Tm:oF}{Φ:Sl->Aa Sl->Prop}{J:It}{ds:Aa L2.D}{S:Hp->Prop}{D:Ad}(l1:C.length=σ.length) (d1:DS K B (C.zip σ++Tm) H1) (Y:YS K J ds S)
  (hS:∀ D,H1 D=none->∀ p L H,DS K (nQ B D p) L H->S H)
  (ac:∃ Pv:Nat->Aa L2.D->Aa Sl->Prop,Pv 0 [] (oP j C) /\ (∀ i d p I,ds[i]?=some d->I.length=j.length->Pv i p I->g d (List.replicate T.length Sl.n++I) λae=>tt B.dk ae λb ab=>if b=true then te B.dk ab λr af=>match sd r with
    | some c=>p.length<100000/\Pv (i+1) (p++[c]) (af.drop T.length)
    | none=>False
    else Pv (i+1) p (ab.drop T.length)) /\
   ∀ p I,I.length=j.length->Pv ds.length p I->Φ (.o (.l p)) (pU j I C))
  (k:∀ r U v H',U.length=σ.length->DS K B (U.zip σ++(r,some v)::Tm) H'->Φ r U->Q v H') (hD:H1 D=none):Cm T j J (dG K T.length g) (uC K tt) (dE K te) σ H1 Q D :=
 T9 aa l1 d1 (λi p q M H _ d=>⟨λa=>Y.go i H a (hS D hD _ _ _ d),λa=>Y.stop i H a (hS D hD _ _ _ d),λx f a y=>by obtain⟨h,e,rfl,m⟩:=Y.yld i H x f a (hS D hD _ _ _ d) y;exact⟨h,e,d.push (m _)⟩⟩) ac k hD
end
section
variable {X:Cx}
theorem DS.known2 {K:mH}(d:DS K B (L++(.v (.T p),some v)::T) H) :
  ∃ a g,v = .ref a/\p.map (·.1)=g.map (·.1)/\a∉B.dk /\
   ((H a=some (.T g)/\∀ o,DS K (rZ B a o g) (L++T) (upd H a (.frz o (.T g)))/\∀ l j,DS K (rZ B a o g) l j->DS K B l (upd j a (.T g))) \/ ∃ o,H a=some (.frz o (.T g))/\DS K (rZ B a o g) (L++T) H/\∀ l j,DS K (rZ B a o g) l j->DS K B l j):=by
 have hd:=d.drop;have rep:=d.valAt;obtain⟨a,g,rfl,al,rd,k,m⟩:=rep.dT_inv;have c:=al.1;refine⟨a,g,rfl,k,c,?_⟩;rcases rd with f | ⟨i,f⟩
 .refine .inl ⟨f,λo=>⟨hd.fz (o:=o) ⟨λb n=>mQ n,.inl f,.inr ⟨o,mZ⟩⟩ mZ al,λl j h=>h.th ⟨λb n=>mQ n,.inr ⟨o,h.known c⟩,.inl mZ⟩ c (λu e=>?_) al.2.2⟩⟩;have:=hd.fr a u e c;rw[f] at this;rw[mZ];exact this
 .refine .inr ⟨i,f,hd.fz ⟨λ_ _=>rfl,.inr ⟨i,f⟩,.inr ⟨i,f⟩⟩ f al,λl j h=>h.th ⟨λ_ _=>rfl,.inr ⟨i,h.known c⟩,.inr ⟨i,h.known c⟩⟩ c (λu e=>?_) al.2.2⟩;have:=hd.fr a u e c;rw[f] at this;rw[h.known c];exact this
theorem Yg {K:mH}{B:Bs}{a D:Ad}{o:Obj}{g:Aa (Aa dT×V)}{r:Aa V}{L:oF}{H j:Hp}(C:a∉B.dk) (p:j a=some (.frz o (.T g))) (I:j D=none) (d:DS K (nQ (rZ B a o g) D r) L H):H a=some (.frz o (.T g)):=by
 have ne:a≠D:=λz=>by rw[z,I] at p;cases p
 refine d.fr a _ ?_ C;show (if a=D then some (.l r) else if a=a then some (HO.frz o (.T g)) else B.H0 a)=_;rw[aM ne,aR rfl]
theorem GF (l:j.Nodup) (h:dE X.K (tJ T.length j (Xs C) g I p) J H Q) :
  zD T j (Qu X (dE X.K C)) (dG X.K T.length g) (uC X.K I) (dE X.K p) J H λv=>thawQ X (Q v):=by
 obtain⟨B,G,Tm,O,y,hd,A,k⟩:=h;refine⟨B,G,Tm,_,y,hd,A,λr M v N t d1 f=>?_⟩;cases r<;>first | exact False.elim f | skip
 rename_i d
 cases d<;>first | exact False.elim f | skip
 rename_i E
 obtain⟨a,b,rfl,s,n,alt⟩:=d1.known2;refine⟨a,b,rfl,?_⟩;rcases alt with⟨i,x⟩ | ⟨o,i,d2,back⟩
 .refine .inl ⟨i,λo w D c=>?_⟩;obtain⟨d2,back⟩:=x o;exact Sz (B:=rZ B a o b) l t d2 (Sj s) (λD c F L H d=>Yg n mZ c d) f (λr e v u q m z=>.inr ⟨a,o,b,m.known n,w,k r e v _ q (back _ _ m) z⟩) c
 .refine .inr ⟨o,i,λD c=>?_⟩;exact Sz (B:=rZ B a o b) l t d2 (Sj s) (λD c F L H d=>Yg n i c d) f (λr e v u q m z=>.inl (k r e v _ q (back _ _ m) z)) c
theorem Mw {iter:Expr}(T o:Aa Af) (r:Aa Nat) (hc:X.calm=true) (hi:PD X iter ti)
  (hk:j.kind = .function) (ho:C2 X.N X.env.kindOf j T o r=true)
  (hg:∀ p l C I J,xI (tZ X (T++o) j I C p l J) T.length tg g)
  (ht:∀ p l C I J,vG (tZ X (T++o) j I C p l J) ab (uC X.K tt))
  (he:∀ p l C I J,PD (tZ X (T++o) j I C p l J) aa te)
  (U:r.Nodup:=by decide) (hs:∀ x,foldedSetIterable iter X.env x=pure x:=by intro _;rfl):PD X (.ListComp aa [⟨tg,iter,ab,0⟩] j pos) (tJ T.length r (Xs ti) g tt te) :=
 (FF (yZ T o r hc (VX hi) hk ho hg ht he hs)).mono λ_ _ _ h=>GF U h
end
end L2
namespace L2
open PySem PySem.W PySem.Spec PyProof.Rows Lw
def qU {g:Type}(n:Nat) (R:g->Prop):KasT g->Prop
 | .ret a=>R a
 | .ask i j k=>i<n/\j<n/\∀ b,qU n R (k b)
theorem qU.bind {R:l->Prop}{S:o->Prop}(g:∀ a,R a->qU n S (f a)):∀ {t:KasT l},qU n R t->qU n S (t.bind f)
 | .ret a,h=>g a h
 | .ask i j k,⟨c,d,e⟩=>⟨c,d,λb=>qU.bind g (e b)⟩
theorem qU.wp {R:o->Prop}(l:∀ i j (C:Bool->Ae->Prop),i<n->j<n->(∀ b,C b s)->cmp i j C s) (g:∀ a,R a->G a s):∀ {t:KasT o},qU n R t->t.kasWp cmp G s
 | .ret a,h=>g a h
 | .ask i j k,⟨c,d,e⟩=>l i j _ c d λb=>qU.wp l g (e b)
def Rg (n:Nat) (p:Array Nat):Prop:=p.Perm (List.toArray (List.range n))
section
theorem Rg.lt (h:Rg n p) (g:0<n) (i:Nat):p.getD i 0<n:=by
 by_cases b:i<p.size
 .have e:p.getD i 0=p[i]:=by simp[Array.getD,b]
  rw[e];have:=(h.mem_iff (a:=p[i])).mp (Array.getElem_mem b)
  simpa using this
 .have e:p.getD i 0=0:=by simp[Array.getD,b]
  rw[e];exact g
theorem Rg.rev (h:Rg n p) (i j:Nat):Rg n (kas_rev p i j):=(mirror_perm _ _ _ _).trans h
theorem Rg.bub (h:Rg n p) (i j:Nat):Rg n (bubble p i j):=(bubble_perm _ _ _).trans h
theorem Kc (h:Rg n p) (g:0<n):∀ f m,qU n (λ_=>True) (kas_asc p f m)
 | 0,m=>trivial
 | f+1,m=>⟨h.lt g _,h.lt g _,λb=>by cases b<;>first | exact trivial | exact Kc h g f (m+1)⟩
theorem Ig (g:0<n):∀ f (p:Array Nat) m q,Rg n p->qU n (λr=>Rg n r.1) (kas_desc f p m q)
 | 0,p,m,q,h=>h
 | f+1,p,m,q,h=>⟨h.lt g _,h.lt g _,λb=>by
  cases b with
  | true =>
   show qU n _ (if q>0 then _ else _);by_cases a:q>0
   .rw[aR a];exact Ig g f _ _ _ (h.rev _ _)
   .rw[aM a];exact Ig g f _ _ _ h
  | false=>exact⟨h.lt g _,h.lt g _,λb=>by cases b<;>first | exact h | exact Ig g f _ _ _ h⟩⟩
theorem Tk (g:0<n) (h:Rg n p) (m r:Nat):qU n (λq=>Rg n q.2) (kas_tail3 m r p):=qU.bind (S:=λq:Nat×Array Nat=>Rg n q.2) (f:=λa=>.ret (a,kas_rev p 0 m)) (λ_ _=>h.rev 0 m) (Kc (h.rev 0 m) g _ _)
theorem Ow (g:0<n) (h:Rg n p) (m r:Nat):qU n (λq=>Rg n q.2) (kas_descPart m r p):=(Ig g _ _ _ _ h).bind λq a=>by
 by_cases b:q.2.2>0
 .rw[aR b];exact Tk g (Rg.rev a _ _) _ _
 .rw[aM b];exact Tk g a _ _
theorem AE (g:0<n) (h:Rg n p) (r:Nat):qU n (λq=>Rg n q.2) (kas_count r p):=(Kc h g _ _).bind λm _=>by
 by_cases a:(m == r)=true
 .rw[aR a];exact h
 .rw[aM a];by_cases c:m>1
  .rw[aR c];exact⟨h.lt g _,h.lt g _,λb=>by cases b<;>first | exact h | exact Ow g (h.rev _ _) _ _⟩
  .rw[aM c];exact Ow g h _ _
theorem Tl (g:0<n) (h:Rg n p) (k:Nat):∀ f l r,qU n (λ_=>True) (kas_place p k f l r)
 | 0,_,_=>trivial
 | f+1,l,r=>by
  show qU n _ (if l>=r then _ else _);by_cases a:l>=r
  .rw[aR a];exact trivial
  .rw[aM a];exact⟨h.lt g _,h.lt g _,λb=>by cases b<;>exact Tl g h k f _ _⟩
theorem Ye (g:0<n):∀ f (p:Array Nat) k,Rg n p->qU n (Rg n) (kas_bin f p k)
 | 0,_,_,h=>h
 | f+1,p,k,h=>(Tl g h k _ _ _).bind λ_ _=>Ye g f _ _ (h.bub _ _)
theorem EV (g:0<n):qU n (Rg n) (kas_sort n):=(AE g (Array.Perm.refl _) _).bind λr h=>by
 by_cases a:r.1<n
 .rw[aR a];exact Ye g _ _ _ h
 .rw[aM a];exact h
end
theorem VO (h:Rg g.length p):(p.toList.map λi=>g.getD i Value.none).Perm g:=by
 have b:p.toList.Perm (List.range g.length):=by have:=h;unfold Rg at this;simpa using this.toList
 refine (b.map _).trans ?_;have:(List.range g.length).map (λi=>g.getD i Value.none)=g:=by
  apply jX;intro i;rw[bC];by_cases a:i<g.length
  .rw[List.getElem?_range a];simp[a]
  .rw[fN (by simpa using Nat.le_of_not_lt a),fN (by omega)];rfl
 rw[this]
section
theorem CJ {P:PySem.Fin->Ae->Prop}(I:s.heap.get? a=some (seqObj "list" vs.toArray n)) (T:vs.length<64)
  (hk:2<=vs.length->∃ U,∀ r:Ae,(∀ b o,b≠a->s.heap.get? b=some o->r.heap.get? b=some o)->(∀ (Q:SortKind->Ae->Prop) E,Q U r->wpAny (model l w) A (keyKind' vs.toArray) Q E r) /\ ∀ i j (C:Bool->Ae->Prop),i<vs.length->j<vs.length->(∀ b,C b r)->kas_ask l w A U vs i j C r)
  (h:∀ (g:Aa Ac) (J:Ag) (c:Nat),g.Perm vs->J.get? a=some (seqObj "list" g.toArray c)->(∀ b o,b≠a->s.heap.get? b=some o->J.get? b=some o)->P (.done (.ret .none)) { s with heap:=J }) :
  wpAny (model l w) A (Builtin.«list.sort» ⟨[.ref a],[]⟩) P E s:=by
 have line:vs.length<=sizeLine:=by rw[kQ];omega
 have N:=bA I;let B:=s.heap.update a (Obj.mapSeq λ_=>(#[]:Array Ac));let f:=(B.push (seqObj "tuple" vs.toArray 0)).push (seqObj "list" #[] 0);obtain⟨q,D⟩:∃ q,B.get? a=some (seqObj "list" #[] q):=⟨_,get?_update_seq I λ_=>#[]⟩;have z:f.get? a=some (seqObj "list" #[] q):=aG _ (aG _ D);have old:∀ b o,b≠a->s.heap.get? b=some o->f.get? b=some o:=λb o t e=>aG _ (aG _ (((cT s.heap a _).2 b t).trans e))
 have last:∀ (st:SortSt) (g:Aa Ac),(arrOf st).map (·.2)=g.toArray->failedOf st=none->g.Perm vs ->
   wpAny (model l w) A (do
    let d:=(<- seqEpoch a) != q
    Builtin.List.listUpdate (.ref a) λ_=>(arrOf st).map (·.2)
    if let some e:=failedOf st then rule "list.sort.comparison-raised";throw e
    if d then rule "list.sort.modified";raiseError "ValueError" "list modified during sort"
    ret .none) P E { s with heap:=f }:=λst g K H u=>by
  have lo:g.length<=sizeLine:=by rw[u.length_eq];exact line
  rw[K,H];refine aB (seqEpoch_at z rfl (aB (listUpdate_at z rfl ?_ (dF _) (by show g.toArray.size<=_;rw[aZ];omega))));simp only[bne_self_eq_false,dZ,fY];exact aE (h g _ _ u (get?_update_seq z λ_=>g.toArray) λb o t e=>((cT f a _).2 b t).trans (old b o t e))
 rw[list_sort_plain];refine aB (listItems_at I rfl (aB (listUpdate_at I rfl ?_ (by rw[aZ];exact line) (dF _))));refine aB (seqEpoch_at D rfl (aB (wpAny_newTuple ?_ line)));refine aB (wpAny_newList (bY ?_) (dF _));show wpAny (model l w) A _ P E { s with heap:=f };dsimp only;by_cases k:vs.toArray.size<2
 .rw[aR k,aR k];refine aB (aE (aB (aE ?_)));refine last _ vs ?_ rfl (List.Perm.refl _);show (vs.toArray.zip vs.toArray).map (·.2)=vs.toArray;apply lW.mp;simp[List.map_snd_zip]
 .rw[aM k,aM k];have m:2<=vs.length:=by rw[aZ] at k;omega
  obtain⟨U,y⟩:=hk m;obtain⟨L,M⟩:=y { s with heap:=f } old;refine aB (L _ _ ?_);refine aB (cV (kat_run (ks:=vs) (vs:=vs) (G:=λp r=>Rg vs.length p/\r={ s with heap:=f }) (Q:=λst r=>r={ s with heap:=f }/\failedOf st=none/\∃ g,(arrOf st).map (·.2)=List.toArray g/\g.Perm vs)
   rfl m T (λp st r _ v x ⟨g1,g2⟩=>⟨g2,x,_,kat_snds rfl v,VO g1⟩) (qU.wp M (λp u=>⟨u,rfl⟩) (EV (by omega)))) ?_ λ_ _ e=>e)
  rintro ⟨⟨⟩,st⟩ r ⟨rfl,v,g,x,F⟩;exact last st g x v F
end
theorem LC (f:p->C) (h:o.Perm r):∀ g:Aa p,r=g.map f->∃ j:Aa p,j.Perm g/\o=j.map f:=by
 induction h with
 | nil=>intro g e;cases g with
  | nil=>exact⟨[],.refl _,rfl⟩
  | cons _ _=>cases e
 | cons x _ s=>intro g e;cases g with
  | nil=>cases e
  | cons z g =>
   obtain⟨b,a⟩:=dJ e;obtain⟨j,c,d⟩:=s g a;exact⟨z::j,c.cons z,by rw[aK,<- b,d]⟩
 | swap x y l=>intro g e;cases g with
  | nil=>cases e
  | cons z g=>cases g with
   | nil=>cases e
   | cons u g =>
    obtain⟨b,a⟩:=dJ e;obtain⟨a,m⟩:=dJ a;exact⟨u::z::g,.swap _ _ _,by rw[aK,aK,<- b,<- a,<- m]⟩
 | trans _ _ i k =>
  intro g e;obtain⟨j,c,d⟩:=k g e;obtain⟨t,n,q⟩:=i j d;exact⟨t,n.trans c,q⟩
section
theorem WE (C:A.handled=none) (I:Ad) (l:d≠I):Walks p w A I [I,d] [I] g.size (λi v=>∃ j:i<g.size,v=g[i].key) (λi h=>h.IsKeyIter I d i g.size r/\RawD h d o g r) where
 sub:=λb a=>by simp at a;simp[a]
 frame:=λ_ _ _ st m=>⟨st.1.at λo e=>m I (by simp) o e,⟨st.2.low,m d (by simp) _ st.2.get,st.2.ex,st.2.dat⟩⟩
 item:=λi s Q E j st c=>Lb st.2 st.1 j λf k n=>c _ f s.toks ⟨j,rfl⟩ ⟨k,⟨st.2.low,(n.2 d l).trans st.2.get,st.2.ex,st.2.dat⟩⟩ λb o a e=>(n.2 b (λz=>a (by simp[z]))).trans e
 done:=λs Q E st c=>Og C st.2 st.1 λf q=>c f s.toks λb o a e=>q b o (λz=>a (by simp[z])) e
 self:=λ_ _ _ _ st c=>kS st.1 c
theorem W4:KdlSrc j w "dict" d d g.size (λi v=>∃ p:i<g.size,v=g[i].key) (λh=>RawD h d o g l) where
 type:=λ_ a=>a.ty
 there:=λ_ a=>⟨bA a.get,bA a.get⟩
 keep:=λ_ _ a e=>⟨a.low,e d (.inl rfl) _ a.get,a.ex,a.dat⟩
 notList:=by decide
 notTuple:=by decide
 hint:=λ_ _ _ _ a b=>kdl_hint_dict a.ty b
 iter:=λ_ _ c a=>⟨_,_,(λ_ _ b=>N3 a b),WE c _ (bK (bA a.get)),⟨⟨_,bB _ rfl,rfl,rfl⟩,⟨a.low,aG _ a.get,a.ex,a.dat⟩⟩⟩
theorem Yi (g:∀ b,Q b s):∀ (l:Aa (Ac×Ac)) (i:Nat),(∀ p∈l,∃ x t y u,p=(Value.int x t,Value.int y u))->KatLex j w A true fin Q l i s
 | [],i,_=>kat_nil (g fin)
 | p::l,i,h=>by
  obtain⟨x,t,y,u,rfl⟩:=h p aF;refine kat_cons (wpAny_eqBool_int (kat_go (λ_=>kat_yes (Yi g l (i+1) λp a=>h p (aP _ a))) λ_=>kat_no ?_));cases i with
  | zero=>exact oneLt_int (g _)
  | succ i=>exact kat_one _ _ (wpAny_lt_int (g _))
end
theorem Xt {P:Ah}(ok:oC P w H h) (I:Rd H a (.T g)) :
  ∃ o j l,RawD h a o j l/\j.size=g.length/\∀ (i:Nat) (C:i<j.size),∃ k v p,g[i]?=some (k,v)/\j[i].key = .ref p/\H p=some (.t (k.map kV)):=by
 obtain⟨z,lo,e,r,x,j,l,f,m,n,b,_⟩:=(show nT P w H h a (.T g) from Md ok I);have A:g.length=e.length:=eU r;have B:j.size=e.length:=by
  have:=cC List.length b
  simpa using this
 refine⟨x,j,l,⟨lo,f,m,n⟩,by omega,λi C=>?_⟩;have d:i<g.length:=by omega
 obtain⟨q,u,D,y,E⟩:=Ho r (aH d);refine⟨g[i].1,g[i].2,q.2.1,aH d,?_,y⟩;have c:j.toList[i]?=some (entryOfKey (tupleKind (pK P w)) q):=by rw[b,bC,u];rfl
 have s:j[i]=entryOfKey (tupleKind (pK P w)) q:=by
  have:j.toList[i]?=some j[i]:=by rw[dM,cI C]
  rw[this] at c;exact bU c
 rw[s];rfl
def wE (H:Hp) (g:Aa (Ad×Aa Int)):Prop:=∀ z∈g,H z.1=some (.t (z.2.map V.int))
theorem Yx {P:Ah}{b:Aa Int}(ok:oC P w H h) (e:H p=some (.t (b.map V.int))):∃ (o:Obj) (g:Aa Ac) (n:Nat),h.get? p=some o/\o.cls = .type "tuple" /\ o.data = .seq g.toArray n/\g.length=b.length/\∀ v∈g,∃ x t,v=Value.int x t:=by
 obtain⟨_,g,r,⟨o,d,f,n,k⟩,_⟩:=(show nT P w H h p (.t (b.map V.int)) from ok p _ e);have a:=r.length;rw[aA] at a;refine⟨o,g,n,d,f,k,a.symm,λv q=>?_⟩;obtain⟨i,m,rfl⟩:=eD q;obtain⟨u,c,s⟩:=r.get (i:=i) (x:=V.int (b[i]'(by omega))) (by rw[bC,aH (by omega)];rfl);rw[aH m] at c;cases c;obtain⟨t,e⟩:=s;exact⟨_,t,e⟩
section
variable {X:Cx}
theorem UP {P:PySem.Fin->Ae->Prop}(ok:oC X.prog X.w H h') (hz:wE H r) (U:r.length<64) (aa:2<=r.length->∀ z∈r,z.2≠[])
  (hs:s.heap.get? a=some (seqObj "list" (r.map λz=>Value.ref z.1).toArray n)) (hb:∀ b o,h'.get? b=some o->b≠a/\s.heap.get? b=some o)
  (h:∀ (J:Aa (Ad×Aa Int)) (I:Ag) (c:Nat),J.Perm r->I.get? a=some (seqObj "list" (J.map λz=>Value.ref z.1).toArray c)->(∀ b o,h'.get? b=some o->I.get? b=some o)->P (.done (.ret .none)) { s with heap:=I }) :
  wpAny (model X.prog X.w) A (Builtin.«list.sort» ⟨[.ref a],[]⟩) P E s:=by
 refine CJ hs (by rw[aA];exact U) (λI=>?_) λab hh c R ha hk=>?_
 .rw[aA] at I;refine⟨tuples' true,λZ hold=>?_⟩;have f:∀ z∈r,∃ (o:Obj) (d:Aa Ac) (n:Nat),Z.heap.get? z.1=some o/\o.cls = .type "tuple" /\ o.data = .seq d.toArray n/\d.length=z.2.length/\∀ v∈d,∃ x t,v=Value.int x t:=λz S=>by
   obtain⟨o,d,n,k,G,m,K,q⟩:=Yx ok (hz z S);obtain⟨e6,e7⟩:=hb _ _ k;exact⟨o,d,n,hold _ _ e6 e7,G,m,K,q⟩
  refine⟨λQ E hQ=>?_,λi j C M N hC=>?_⟩
  .have F:∀ l:Aa (Ad×Aa Int),(∀ z∈l,z∈r)->∃ fs:Aa Ac,KatTups Z.heap (l.map λz=>Value.ref z.1) fs/\fs.length=l.length/\∀ v∈fs,∃ x t,v=Value.int x t:=λl=>by
    induction l with
    | nil=>exact λ_=>⟨[],.nil,rfl,λ_ h=>nomatch h⟩
    | cons z l ih =>
     intro O;obtain⟨fs,f1,f2,L⟩:=ih λz hz=>O z (aP _ hz)
     have D:=O z aF;obtain⟨o,d,n,k,G,m,K,q⟩:=f z D;have V:0<d.length:=by rw[K];exact hX.mpr (aa I z D)
     refine⟨d[0]::fs,.cons k G m (by simp[V]) f1,by simp[f2],λv B=>?_⟩;rcases aO.mp B with rfl | B
     .exact q _ (cM V)
     .exact L v B
   obtain⟨fs,f1,f2,L⟩:=F r λ_ h=>h
   refine kat_kind (T:=.type "int") f1 (by omega) (λv B=>?_) (by decide) hQ;obtain⟨x,t,rfl⟩:=L v B;exact .now
  .rw[aA] at M N;unfold kas_ask;have g:∀ i,i<r.length->∃ (O:i<r.length),(r.map λz=>Value.ref z.1).getD i Value.none=Value.ref r[i].1:=λi h=>⟨h,by simp[h]⟩
   obtain⟨_,gi⟩:=g i M;obtain⟨_,gj⟩:=g j N;rw[gi,gj];obtain⟨o1,W,n1,k,_,m,_,q⟩:=f r[i] (cM M);obtain⟨o2,Y,n2,d1,_,d3,_,d5⟩:=f r[j] (cM N);refine kat_lt k m d1 d3 (Yi hC _ 0 λp R=>?_);obtain⟨a1,a2⟩:=fR R;obtain⟨x,t,h1⟩:=q p.1 (by simpa using a1);obtain⟨y,u,I⟩:=d5 p.2 (by simpa using a2);exact⟨x,t,y,u,by rw[<- h1,<- I]⟩
 .obtain⟨J,y1,y2⟩:=LC (λz:Ad×Aa Int=>Value.ref z.1) R r rfl;subst y2;exact h J hh c y1 ha λb o e=>hk b o (hb b o e).1 (hb b o e).2
def Qd (K:mH):Aa V->Hp->VK->Prop:=λf H Q=>∃ (a:Ad) (bs:Aa (Aa Int)),f=[.ref a]/\bs.length<64/\(2<=bs.length->∀ b∈bs,b≠[]) /\
 ((∃ e,mK K H a (e.map λz:Ad×Aa Int=>V.ref z.1)/\wE H e/\e.map (·.2)=bs)\/∃ c,Rd H a (.T c)/\c.map (·.1)=bs.map (λb=>b.map Sum.inl)) /\
 ∀ (l:Ad) (d:Aa (Ad×Aa Int)),H l=none->wE H d->(d.map (·.2)).Perm bs->Q (.ref l) (upd H l (.l (d.map λz=>V.ref z.1)))
theorem Km:∀ {j:Aa (Ad×Aa Int)}{g:Aa Ac},mV (j.map λz=>V.ref z.1) g->g=j.map λz=>Value.ref z.1
 | [],_,.nil=>rfl
 | z::j,_,.cons h r=>by
  cases (show _=Value.ref z.1 from h);rw[Km r];rfl
theorem Pk:∀ g:Aa (Ad×Aa Int),mV (g.map λz=>V.ref z.1) (g.map λz=>Value.ref z.1)
 | []=>.nil
 | z::g=>.cons rfl (Pk g)
theorem WG (g:X.calm=true):nW X (.builtin "sorted") (Qd X.K):=by
 intro y s U H xs us Q I rv h;obtain⟨a,bs,rfl,x,Z,J,q⟩:=h;obtain⟨u,rfl,ru⟩:=qC rv;cases ru;refine Calls.call_function_entry kind_sorted plain_sorted entry_sorted (args_sorted1 _) ?_;unfold Builtin.«sorted»;refine aB (m:=checkCount "sorted" 1 1 _) (aE ?_);have rest:∀ (i:Ag) (G:Nat) (d:Aa (Ad×Aa Int)),wE H d->d.map (·.2)=bs->(∀ b o,s.heap.get? b=some o->i.get? b=some o) ->
   wpAny (model X.prog X.w) X.A.in1 (newList (d.map λz=>Value.ref z.1) >>= λB=>holding [B] (call (.builtin "list.sort") [B]) >>= λ_=>ret B) (λf s'=>∃ v,f = .done (.ret v)/\EP X y U Q v s') X.xe { s with heap:=i,toks:=G }:=λi G d R F keep=>by
  have P:d.length=bs.length:=by rw[<- F,aA]
  have W:Inv X y U H { s with heap:=i,toks:=G }:=I.kept keep;refine aB (wpAny_newList ?_ (by rw[aA,P];exact bN (eP x) (by decide)));have N:(i.push (seqObj "list" (d.map λz=>Value.ref z.1).toArray 0)).get? i.objs.size=some (seqObj "list" (d.map λz=>Value.ref z.1).toArray 0):=bB _ rfl;refine aB (bY (dB slot_list_sort ⟨_,N,rfl⟩ entry_list_sort (UP (X:=X) (h':=i) W.hok R (by omega) (λh2 z n=>Z (by omega) z.2 (by rw[<- F];exact eR n)) N (λb o e=>⟨bK (bA e),aG _ e⟩) λS h2 c j ha hk=>⟨_,rfl,?_⟩) (args_list_sort _)));have ly:S.length=d.length:=j.length_eq;refine aE ⟨_,rfl,.ref i.objs.size,_,W.laid (a:=i.objs.size) (o:=.l (S.map λz=>V.ref z.1)) (t':=G) hk (aW _) ⟨?_,_,c,Pk S,ha⟩,rfl,q _ S (W.hok.fresh (aW _)) (λz n=>R z (j.mem_iff.mp n)) (by rw[<- F];exact j.map _)⟩;rw[aA,ly,P];exact bN (eP x) (by decide)
 rcases J with⟨d,hq,R,F⟩ | ⟨O,rd,T⟩
 .obtain⟨aa,r,p,n⟩:=I.list hq;have:=Km r;subst this;have P:d.length=bs.length:=by rw[<- F,aA]
  refine aB (collect_list p.isList (rest _ s.toks d R F λb o e=>?_) ?_)
  .have Y:=bA e;rw[Heap.get?_update_ne _ _ _ _ (bK Y)];exact aG _ e
  .rw[aA,P];exact bN (eP x) (by decide)
 .obtain⟨ob,es,ep,raw,sz,rows⟩:=Xt I.hok rd;have lk:O.length=bs.length:=by have:=cC List.length T;simpa using this
  refine aB (kdu_collect W4 (I.ok.hd g) raw (by rw[sz,lk];exact bN (eP x) (by decide)) λi G t keep C=>?_);obtain⟨n1,n2⟩:=C;obtain⟨d,D,L,E⟩:∃ d:Aa (Ad×Aa Int),t.toList=d.map (λz=>Value.ref z.1)/\wE H d/\d.map (·.2)=bs:=by
   have go:∀ m,m<=bs.length->∃ d:Aa (Ad×Aa Int),t.toList.take m=d.map (λz=>Value.ref z.1)/\wE H d/\d.map (·.2)=bs.take m:=λm=>by
    induction m with
    | zero=>exact λ_=>⟨[],rfl,⟨λz h=>(bH h).elim,rfl⟩⟩
    | succ m ih =>
     intro hm;obtain⟨d,D,L,E⟩:=ih (by omega);have M:m<t.size:=by omega
     obtain⟨hi,hv⟩:=n2 m t[m] (cI M);obtain⟨k,v,p,k1,k2,k3⟩:=rows m hi;have kk:k=(bs[m]'(by omega)).map Sum.inl:=by
      have:(O.map (·.1))[m]?=some k:=by rw[bC,k1];rfl
      rw[T,bC,aH (by omega)] at this;exact (bU this).symm
     refine⟨d++[(p,bs[m]'(by omega))],?_,λz n=>?_,?_⟩
     .rw[bR,D,aQ,dM,cI M,hv,k2];rfl
     .rcases aU.mp n with n | n
      .exact L z n
      .have:=aV.mp n;subst this;show H p=_;rw[k3,kk,aJ];rfl
     .rw[bR,aQ,E,aH (by omega)];rfl
   obtain⟨d,D,L,E⟩:=go bs.length (aW _);rw[bL (by rw[eQ];omega)] at D;rw[bL (aW _)] at E;exact⟨d,D,L,E⟩
  rw[D];exact rest i G d L E keep
end
noncomputable def nX (b:Aa Int):D:=.t (b.map D.int)
section
variable {K:mH}
theorem Q0:∀ b:Aa Int,Reps K A H (b.map D.int) (b.map V.int)
 | []=>.nil
 | x::b=>.cons (.int x) (Q0 b)
theorem Rr:∀ {b:Aa Int}{g:Aa V},Reps K A H (b.map D.int) g->g=b.map V.int
 | [],_,.nil=>rfl
 | x::b,_,.cons h r=>by rw[h.int_inv,Rr r];rfl
theorem Lx (h:Rep K A H (nX b) v):∃ a,v = .ref a/\H a=some (.t (b.map V.int)):=by
 obtain⟨a,c,rfl,h,r⟩:=Rep.tup_inv h;rw[Rr r] at h;exact⟨a,rfl,h⟩
theorem Lm:∀ {bs:Aa (Aa Int)}{j:Aa V},Reps K A H (bs.map nX) j->∃ g:Aa (Ad×Aa Int),j=g.map (λz=>V.ref z.1)/\wE H g/\g.map (·.2)=bs
 | [],_,.nil=>⟨[],rfl,λ_ h=>(bH h).elim,rfl⟩
 | b::bs,_,.cons h r=>by
  obtain⟨a,rfl,e⟩:=Lx h;obtain⟨g,rfl,d,rfl⟩:=Lm r;refine⟨(a,b)::g,rfl,λz c=>?_,rfl⟩;rcases aO.mp c with rfl | c
  .exact e
  .exact d z c
theorem K4:∀ {g:Aa (Ad×Aa Int)},wE H g->Reps K A H ((g.map (·.2)).map nX) (g.map λz=>V.ref z.1)
 | [],_=>.nil
 | z::g,h=>.cons (.t (h z aF) (Q0 _)) (K4 λz a=>h z (aP _ a))
def AH:OC:=λe d=>match e with
 | [.l f]=>∃ bs:Aa (Aa Int),f=bs.map nX/\bs.length<64/\(2<=bs.length->∀ b∈bs,b≠[])/\∀ a:Aa (Aa Int),a.Perm bs->d (.o (.l (a.map nX)))
 | [.T c]=>∃ bs:Aa (Aa Int),c.map (·.1)=bs.map (λb=>b.map Sum.inl)/\bs.length<64/\(2<=bs.length->∀ b∈bs,b≠[])/\∀ a:Aa (Aa Int),a.Perm bs->d (.o (.l (a.map nX)))
 | _=>False
theorem BM:qZ K (Qd K) AH:=by
 intro B L H f D E Q hd c b k;cases f with
 | nil=>exact False.elim b
 | cons d f =>
 cases f with
 | cons _ _=>cases d<;>exact False.elim b
 | nil =>
 cases d<;>first | exact False.elim b | skip
 .obtain⟨x,rfl,t⟩:=rE c;obtain⟨bs,rfl,i,m,b⟩:=b;obtain⟨a,A,rfl,h,r⟩:=t.lst_inv;obtain⟨z,rfl,w,y⟩:=Lm r;exact⟨a,bs,rfl,i,m,.inl ⟨z,mK.of h,w,y⟩,λl v n q c=>k _ _ _ (b _ c) (hd.lstF n (K4 q))⟩
 .obtain⟨x,rfl,t⟩:=rE c;obtain⟨bs,u,i,m,b⟩:=b;obtain⟨a,s,rfl,h,e,r⟩:=t.dT_inv;exact⟨a,bs,rfl,i,m,.inr ⟨s,h,by rw[<- e];exact u⟩,λl v n q c=>k _ _ _ (b _ c) (hd.lstF n (K4 q))⟩
end
theorem Pe {P:Ah}{b:Aa Int}(ok:oC P w H h) (e:H p=some (.t (b.map V.int))) (g:Ah) (j:World):IsTupleKey (pK g j) h (b.map (Sum.inl:Int->dT)) p:=by
 have c:H p=some (.t ((b.map (Sum.inl:Int->dT)).map kV)):=by rw[e,aJ];rfl
 obtain⟨_,a,r,⟨o,d,f,n,i⟩,_⟩:=(show nT P w H h p (.t ((b.map (Sum.inl:Int->dT)).map kV)) from ok p _ c);exact⟨o,a.toArray,n,d,f,i,by simpa using Nj r⟩
theorem Xe:∀ {a b:Aa Int},a.map (Sum.inl:Int->dT)=b.map Sum.inl->a=b
 | [],[],_=>rfl
 | [],_::_,e=>by cases e
 | _::_,[],e=>by cases e
 | x::a,y::b,e=>by
  rw[aK,aK] at e;obtain⟨c,d⟩:=dJ e;rw[Sum.inl.inj c,Xe d]
section
variable {X:Cx}
def A5 (g:Aa (Ad×Aa Int)) (b:Aa Int):Ac->Bool
 | .ref q=>g.any λz=>decide (z.1=q)&&decide (z.2=b)
 | _=>false
theorem VN {A:Around}(p:A.in1.units<cLine) (ok:oC X.prog X.w H s.heap) (l:wE H j) (o:H a=some (.t (b.map V.int))) :
  ∀ y,y∈(j.map λz=>Value.ref z.1).toArray->SeqAt.EqAt A.in1 s y (.ref a) (A5 j b y):=λy n=>by
 obtain⟨z,c,rfl⟩:=aI.mp (show y∈j.map λz=>Value.ref z.1 by simpa using n);intro g w E Q m;refine wpAny_eqBool_tuple (knd:=pK g w) p (Pe ok (l z c) g w) (Pe ok o g w) ?_;have e:A5 j b (.ref z.1)=decide (z.2.map (Sum.inl:Int->dT)=b.map Sum.inl):=by
  unfold A5;by_cases h:z.2=b
  .rw[bE (by rw[h]:z.2.map (Sum.inl:Int->dT)=b.map Sum.inl)];exact bW.mpr ⟨z,c,by rw[h];simp⟩
  .rw[bG λq=>h (Xe q)];refine eS.mpr λG k q=>?_
   rw[cE] at q;have D:=cD q.1;have F:=cD q.2;have d:=l G k;rw[D,l z c] at d;have v:=HO.t.inj (bU d);have B:∀ {a b:Aa Int},a.map V.int=b.map V.int->a=b:=λ{a}=>by
    induction a with
    | nil=>intro b e;cases b with
     | nil=>rfl
     | cons _ _=>cases e
    | cons x a u=>intro b e;cases b with
     | nil=>cases e
     | cons y b =>
      rw[aK,aK] at e;obtain⟨f,i⟩:=dJ e;rw[V.int.inj f,u i]
   exact h ((B v).trans F)
 rw[<- e];exact m
theorem RP (j:wE H g):(g.map λz=>Value.ref z.1).toArray.any (A5 g b)=decide (b∈g.map (·.2)):=by
 rw[show (g.map λz=>Value.ref z.1).toArray.any (A5 g b)=(g.map λz=>Value.ref z.1).any (A5 g b) by simp];by_cases h:b∈g.map (·.2)
 .rw[bE h];obtain⟨z,j,rfl⟩:=aI.mp h;exact bW.mpr ⟨_,eR j,bW.mpr ⟨z,j,by simp⟩⟩
 .rw[bG h];refine eS.mpr λy c q=>?_
  obtain⟨z,_,rfl⟩:=aI.mp c;obtain⟨d,a,q⟩:=bW.mp q;rw[cE] at q;exact h (aI.mpr ⟨d,a,cD q.2⟩)
end
end L2
namespace PySem
open PyProof.Rows L2
section
variable {R:Result->Ae->Prop}{P:Nat->Ac->Prop}{St:Nat->Ae->Prop}
abbrev oA (g:Ah) (w:World):=tupleKind (pK g w)
noncomputable def Ax (more:Aa (Aa dT×Ad×Ac)):Aa (Aa dT×Ad×Ac):=more.foldl (λa q=>storedH a q.1 q.2.1 q.2.2) []
theorem Sr (g:Aa (Aa dT×Ad×Ac)) (k:Aa dT) (a:Ad) (v:Ac):(storedH g k a v).length<=g.length+1:=by
 unfold storedH;by_cases h:(atKey g k).isSome=true
 .rw[aR h,aA];omega
 .rw[aM h,bF];exact aW _
theorem Zu (more:Aa (Aa dT×Ad×Ac)):(Ax more).length<=more.length:=by
 have:∀ (more a:Aa (Aa dT×Ad×Ac)),(more.foldl (λa q=>storedH a q.1 q.2.1 q.2.2) a).length<=a.length+more.length:=λmore=>by
  induction more with
  | nil=>intro a;simp
  | cons q more b =>
   intro a;rw[jG];have:=b (storedH a q.1 q.2.1 q.2.2);have:=Sr a q.1 q.2.1 q.2.2;rw[bQ];omega
 have:=this more [];rw[fU,Nat.zero_add] at this;exact this
theorem BD {more:Aa (Aa dT×Ad×Ac)}{i:Nat}{q:Aa dT×Ad×Ac}(h:more[i]?=some q):Ax (more.take (i+1))=storedH (Ax (more.take i)) q.1 q.2.1 q.2.2:=by
 unfold Ax;rw[bR,h,jV];rfl
theorem OI {h j:Ag}(D:h.DictOfH (oA g w) d l) (hd:∀ o,h.get? d=some o->j.get? d=some o) (p:∀ x∈l,∀ o,h.get? x.2.1=some o->j.get? x.2.1=some o):j.DictOfH (oA g w) d l:=by
 obtain⟨o,f,e,i,k,n,q,s,t⟩:=D;refine⟨o,f,e,hd o i,k,n,q,λx b=>?_,t⟩;obtain⟨c,a,m,g1,g2⟩:=s x b;exact⟨c,a,m,p x b c g1,g2⟩
theorem GL {g:Aa (Aa dT×Ad×Ac)}{k:Aa dT}{a:Ad}{v:Ac}{x:Aa dT×Ad×Ac}(h:x∈storedH g k a v):(∃ y∈g,y.2.1=x.2.1)\/x.2.1=a:=by
 unfold storedH at h;by_cases e:(atKey g k).isSome=true
 .rw[aR e] at h;obtain⟨y,b,rfl⟩:=aI.mp h;refine .inl ⟨y,b,?_⟩;unfold putAt;by_cases z:y.1=k
  .rw[aR z]
  .rw[aM z]
 .rw[aM e] at h;rcases aU.mp h with h | h
  .exact .inl ⟨x,h,rfl⟩
  .rw[aV.mp h];exact .inr rfl
theorem RQ (h:x∈Ax more):∃ y∈more,y.2.1=x.2.1:=by
 have:∀ (more a:Aa (Aa dT×Ad×Ac)),x∈more.foldl (λa q=>storedH a q.1 q.2.1 q.2.2) a->(∃ y∈a,y.2.1=x.2.1)\/∃ y∈more,y.2.1=x.2.1:=λmore=>by
  induction more with
  | nil=>intro a h;exact .inl ⟨x,h,rfl⟩
  | cons q more f =>
   intro a h;rw[jG] at h;rcases f _ h with⟨y,b,e⟩ | ⟨y,b,e⟩
   .rcases GL b with⟨z,d,c⟩ | c
    .exact .inl ⟨z,d,c.trans e⟩
    .exact .inr ⟨q,aF,c.symm.trans e⟩
   .exact .inr ⟨y,aP _ b,e⟩
 rcases this more [] h with⟨y,b,_⟩ | h
 .exact (bH b).elim
 .exact h
theorem AG (T:A.handled=none) (hu:A.units+2<cLine) (U:s.heap.get? l=some o) (J:o.cls = .type "list") (hd:o.dict=none) (p:o.data = .seq items nl)
  (hn:more.length=items.size)
  (I:∀ (i:Nat) v,items[i]?=some v->∃ (t:Ad) (o:Obj) (m:Nat) (q:Aa dT×Ad×Ac),v = .ref t/\s.heap.get? t=some o/\o.cls = .type "tuple" /\ o.data = .seq #[.ref q.2.1,q.2.2] m/\more[i]?=some q)
  (C:∀ q∈more,(oA g w).is s.heap q.1 q.2.1) (hb:items.size<=sizeLine)
  (h:∀ (j:Ag) (r:Nat),j.DictOfH (oA g w) s.heap.objs.size (Ax more)->(∀ b o,s.heap.get? b=some o->j.get? b=some o)->Q (.ref s.heap.objs.size) { s with heap:=j,toks:=r }) :
  wpAny (model g w) A (call (.type "dict") [.ref l]) Q E s:=by
 refine R8 (λi j=>j.DictOfH (oA g w) s.heap.objs.size (Ax (more.take i))) T U J hd p (λc e=>⟨_,#[],0,e,⟨rfl,rfl,rfl⟩,rfl,rfl,λ_ h=>(bH h).elim,fE⟩) (λi c n k m=>?_) (λi v K=>?_) λj r m=>h j r (by rw[bL (by omega)] at m;exact m)
 .refine OI m (λo e=>k _ _ (aW _) e) λx L o e=>k _ _ ?_ e
  obtain⟨y,M,D⟩:=RQ L;obtain⟨u,_,_,g1,_⟩:=C y (gW M);rw[<- D];exact eP (bA g1)
 .obtain⟨t,S,m,q,rfl,c,n,F,a⟩:=I i v K;refine⟨t,S,m,_,_,rfl,c,n,F,λB W Q E G N H k=>?_⟩;obtain⟨u,f,O,g1,g2⟩:=C q (aL a);refine wpAny_dictSet_heap (hsz:=?_) (knd:=oA g w) (G hu) ⟨u,f,O,N _ _ g1,g2⟩ H λj d V=>k j _ (by rw[BD a];exact d) V
  have z:=Zu (more.take i);rw[bS] at z;omega
end
end PySem
namespace L2
open PySem PySem.W PySem.Spec PyProof.Rows Lw
def Fu (H:Hp):Aa Ad->Aa (Aa Int×Ad×V)->Prop:=Paired λt m=>H t=some (.t [.ref m.2.1,m.2.2])/\H m.2.1=some (.t (m.1.map V.int))
noncomputable def rM {j:Type}(put:Aa (Aa dT×j)->Aa dT->j->Aa (Aa dT×j)) (g:Aa (Aa dT×j)) (l:Aa (Aa Int×j)):Aa (Aa dT×j):=l.foldl (λg m=>put g (m.1.map Sum.inl) m.2) g
theorem QH {P:Ah}(l:oC P w H h) (r:Fu H J p):∃ more:Aa (Aa dT×Ad×Ac),more.length=p.length /\
  (∀ (i:Nat) t,J[i]?=some t->∃ (o:Obj) (m:Nat) (q:Aa dT×Ad×Ac),h.get? t=some o/\o.cls = .type "tuple" /\ o.data = .seq #[.ref q.2.1,q.2.2] m/\more[i]?=some q) /\
  (∀ q∈more,∃ I,q.1=I/\H q.2.1=some (.t (I.map kV)))/\∀ g C,KT H g C->KT H (rM nR g (p.map λm=>(m.1,m.2.2))) (more.foldl (λj q=>storedH j q.1 q.2.1 q.2.2) C):=by
 unfold Fu at r;induction r with
 | nil=>exact⟨[],rfl,λi t e=>by simp at e,λq a=>(bH a).elim,λ_ _ k=>k⟩
 | @cons t m J p u Q D =>
  obtain⟨more,F,A,y,x⟩:=D;obtain⟨f,s⟩:=u;obtain⟨z,E,b,⟨o,B,v,n,c⟩,_⟩:=l t _ f;cases b with
  | @cons _ M _ R G b =>
   cases b with
   | @cons _ N _ O K b =>
    cases b;cases (show M=Value.ref m.2.1 from G);have d:H m.2.1=some (.t ((m.1.map (Sum.inl:Int->dT)).map kV)):=by rw[s,aJ];rfl
    refine⟨(m.1.map Sum.inl,m.2.1,N)::more,by rw[bQ,bQ,F],λi L e=>?_,λq a=>?_,λg C k=>?_⟩
    .cases i with
     | zero =>
      simp at e;subst e;exact⟨o,n,_,B,v,c,rfl⟩
     | succ i=>simpa using A i L (by simpa using e)
    .rcases aO.mp a with rfl | a
     .exact⟨_,rfl,d⟩
     .exact y q a
    .exact x _ _ (k.put _ d K)
def Wg (K:mH):Aa V->Hp->VK->Prop:=λc H Q=>∃ (p:Ad) (b:Aa Ad) (a:Aa (Aa Int×Ad×V)),c=[.ref p]/\mK K H p (b.map V.ref)/\Fu H b a/\a.length<=1000/\∀ d,H d=none->Q (.ref d) (upd H d (.T (rM nR [] (a.map λm=>(m.1,m.2.2)))))
theorem X1:∀ (j:Aa (Aa Int×V)) (g:Aa (Aa dT×V)),(rM nR g j).length<=g.length+j.length
 | [],g=>by simp[rM]
 | m::j,g=>by
  have a:=X1 j (nR g (m.1.map Sum.inl) m.2);have b:=Eb g (m.1.map Sum.inl) m.2;show (rM nR (nR g (m.1.map Sum.inl) m.2) j).length<=_;rw[bQ];omega
section
variable {X:Cx}
theorem U4 (g:X.calm=true) (j:X.A.units+2<cLine):nW X (.type "dict") (Wg X.K):=by
 intro M s σ H xs us Q I r h;obtain⟨p,z,y,rfl,D,L,hz,q⟩:=h;obtain⟨u,rfl,F⟩:=qC r;cases F;obtain⟨f,N,⟨o,n,e,S,W,Y⟩,_⟩:=I.list D;have k:=N.length;rw[aA] at k;have aa:z.length=y.length:=eU L;obtain⟨more,ml,hm,hk,hf⟩:=QH I.hok L;have d:∀ (i:Nat) v,f[i]?=some v->∃ t,z[i]?=some t/\v = .ref t:=by
  intro i v w;have hi:i<f.length:=(aX.mp w).1;have:i<z.length:=by omega
  obtain⟨u,j,F⟩:=N.get (i:=i) (x:=V.ref z[i]) (by simp[this]);rw[j] at w;cases w;cases F;exact⟨z[i],by simp[this],rfl⟩
 refine AG (more:=more) (I.ok.hd g) j e S W Y (by rw[aZ];omega) ?_ (λq D=>?_) (by rw[aZ];exact eP (cO (show f.length<=1000 by omega) (by decide))) λh' tk hD c=>?_
 .intro i v w;obtain⟨t,ht,rfl⟩:=d i v (by simpa using w);obtain⟨o,m,q,B,C,J,U⟩:=hm i t ht;exact⟨t,o,m,q,rfl,B,C,J,U⟩
 .obtain⟨ks,k1,k2⟩:=hk q D;rw[k1];exact Au I.hok k2
 .have E:(rM nR [] (y.map λm=>(m.1,m.2.2))).length<=sizeLine:=by
   have B:=X1 (y.map λm=>(m.1,m.2.2)) [];rw[fU,aA] at B;exact eP (cO (show (rM nR [] (y.map λm=>(m.1,m.2.2))).length<=1000 by omega) (by decide))
  obtain⟨ob,l,Z,d1,d2,O,P,_,R⟩:=hD;have kt:=hf [] [] .nil;have fr:=I.fresh;refine⟨.ref s.heap.objs.size,_,I.laid (a:=s.heap.objs.size) (o:=.T (rM nR [] (y.map λm=>(m.1,m.2.2)))) (t':=tk) c (aW _) ?_,rfl,q _ I.fresh⟩;refine⟨E,cY.mpr (eI (bK I.big)),_,kt.keeps λb ys G=>?_,ob,l,Z,d1,d2,O,P,R⟩;rw[mQ (nN G I.fresh)];exact G
end
section
variable {K:mH}
theorem Vd:∀ {j:Aa (Aa Int×D)}{o:Aa V},Reps K A H (j.map λm=>D.t [nX m.1,m.2]) o->∃ (l:Aa Ad) (g:Aa (Aa Int×Ad×V)),o=l.map V.ref/\Fu H l g/\g.map (·.1)=j.map (·.1)/\Reps K A H (j.map (·.2)) (g.map (·.2.2))
 | [],_,.nil=>⟨[],[],rfl,.nil,rfl,.nil⟩
 | m::j,_,.cons h r=>by
  obtain⟨l,g,rfl,d,e,f⟩:=Vd r;obtain⟨a,s,rfl,i,c⟩:=h.tup_inv;cases c with
  | cons n c =>
   cases c with
   | cons q c =>
    cases c;obtain⟨b,rfl,k⟩:=Lx n;exact⟨a::l,(m.1,b,_)::g,rfl,.cons ⟨i,k⟩ d,by rw[aK,aK,e],.cons q f⟩
theorem Yu:∀ {ms:Aa (Aa Int×D)}{mv:Aa (Aa Int×V)}{kvs:Aa (Aa dT×D)}{vs:Aa (Aa dT×V)},ms.map (·.1)=mv.map (·.1)->Reps K A H (ms.map (·.2)) (mv.map (·.2))->kvs.map (·.1)=vs.map (·.1)->Reps K A H (kvs.map (·.2)) (vs.map (·.2)) ->
  (rM nD kvs ms).map (·.1)=(rM nR vs mv).map (·.1)/\Reps K A H ((rM nD kvs ms).map (·.2)) ((rM nR vs mv).map (·.2))
 | [],[],_,_,_,_,e,r=>⟨e,r⟩
 | [],_::_,_,_,e,_,_,_=>by simp at e
 | _::_,[],_,_,e,_,_,_=>by simp at e
 | (k,d)::ms,(j,v)::mv,kvs,vs,a,b,e,r=>by
  simp only[aK,fW] at a;obtain⟨rfl,a⟩:=a;cases b with
  | cons h b =>
   obtain⟨c,f⟩:=C1 e r (k:=k.map Sum.inl) h;exact Yu (ms:=ms) (mv:=mv) a b c f
def HE:OC:=λb d=>match b with
 | [.l c]=>∃ a:Aa (Aa Int×D),c=a.map (λm=>D.t [nX m.1,m.2])/\a.length<=1000/\d (.o (.T (rM nD [] a)))
 | _=>False
theorem Rj:qZ K (Wg K) HE:=by
 intro B L H c F G Q hd u b k;cases c with
 | nil=>exact False.elim b
 | cons d c =>
 cases c with
 | cons _ _=>cases d<;>exact False.elim b
 | nil =>
 cases d<;>first | exact False.elim b | skip
 obtain⟨x,rfl,v⟩:=rE u;obtain⟨n,rfl,D,b⟩:=b;obtain⟨a,E,rfl,h,r⟩:=v.lst_inv;obtain⟨A,f,rfl,s,i,t⟩:=Vd r;have q:n.map (·.1)=(f.map λm=>(m.1,m.2.2)).map (·.1):=by rw[aJ,<- i];rfl
 have z:Reps K (Al B (hI L)) H (n.map (·.2)) ((f.map λm=>(m.1,m.2.2)).map (·.2)):=by rw[aJ];exact t
 obtain⟨w,y⟩:=Yu (kvs:=[]) (vs:=[]) q z rfl .nil;refine⟨a,A,f,rfl,mK.of h,s,?_,λd e=>k _ _ _ b (hd.dTF e w y)⟩;have:=cC List.length i;rw[aA,aA] at this;omega
end
end L2
namespace Lw
open PySem L2
theorem Tq (g:Room k A):A.units+2<cLine:=cO (Nat.add_le_add_left (by decide:2<=64) _) g.units
def pY (C:Cel) (g:Aa (Af×Af)) (c l:Aa Int):Aa Int:=g.map λp=>rL C g c l p.1
def Br (C:Cel) (g:Aa (Af×Af)) (t:mL) (j:Aa (Aa Int)) (c:Aa Int):Prop:=∀ l∈mI (wIns C g).length,pQ C g t (rL C g c l)=0/\pY C g c l∈j
def Lv (C:Cel) (j:Aa (Af×Af)) (t:mL) (l:Af->Ab Int) (g:Aa (Aa Int)):Prop:=(∀ c∈g,c∈mI j.length)/\(∀ e∈qV j l,e∈g)/\∀ c∈g,Br C j t g c
def Nd (j:Aa (Aa dT×D)) (g:Aa (Aa Int)):Prop:=(∃ a:Aa (Aa Int),j.map (·.1)=a.map (λk=>k.map Sum.inl)/\(∀ k,k∈a↔k∈g)/\a.length<=1000)/\∀ k:Aa Int,(mN j (k.map Sum.inl)).isSome=decide (k∈g)
theorem My (f:Aa Int->D):∀ bs:Aa (Aa Int),tE (bs.map λl=>(l.map (Sum.inl:Int->dT),f l))=bs.map mR
 | []=>rfl
 | b::bs=>by
  show D.t ((b.map (Sum.inl:Int->dT)).map Ex)::tE (bs.map λl=>(l.map (Sum.inl:Int->dT),f l))=_;rw[My f bs,aJ];rfl
theorem Fe (f:Aa Int->D):∀ {bs:Aa (Aa Int)},b∈bs->mN (bs.map λl=>(l.map (Sum.inl:Int->dT),f l)) (b.map Sum.inl)=some (f b)
 | [],h=>(bH h).elim
 | c::bs,h=>by
  unfold mN;rw[aK,cS];by_cases e:c=b
  .subst e;simp
  .have:¬ c.map (Sum.inl:Int->dT)=b.map Sum.inl:=λz=>e (zT z)
   rw[bG this];exact Fe f ((aO.mp h).resolve_left λz=>e z.symm)
theorem Bp (f:Aa Int->D){b:Aa Int}{bs:Aa (Aa Int)}(h:b∈bs):yE (.T (bs.map λl=>(l.map (Sum.inl:Int->dT),f l))) (mR b)=some (some (f b)):=by
 show (uT (b.map D.int)).map _=_;rw[El,gS,Fe f h]
theorem I0 (b:Aa Int):yE (.T g) (mR b)=some (mN g (b.map Sum.inl)):=by
 show (uT (b.map D.int)).map _=_;rw[El,gS]
theorem Q8:∀ {g:Aa (Aa dT×D)}{j:Aa (Aa Int)},g.map (·.1)=j.map (λk=>k.map Sum.inl)->tE g=j.map mR
 | [],[],_=>rfl
 | [],_::_,e=>by cases e
 | _::_,[],e=>by cases e
 | p::g,k::j,e=>by
  rw[aK,aK] at e;obtain⟨a,b⟩:=dJ e;show D.t (p.1.map Ex)::tE g=_;rw[Q8 b,a,aJ];rfl
theorem OZ (j:g.length<=1000):Nd (rM nD [] (g.map λc=>(c,D.b true))) g:=by
 have key:∀ (q done:Aa (Aa Int)) (f:Aa (Aa dT×D)),(∃ a:Aa (Aa Int),f=a.map (λk=>(k.map (Sum.inl:Int->dT),D.b true))/\(∀ k,k∈a↔k∈done)/\a.length<=done.length) ->
   ∃ a:Aa (Aa Int),rM nD f (q.map λc=>(c,D.b true))=a.map (λk=>(k.map (Sum.inl:Int->dT),D.b true))/\(∀ k,k∈a↔k∈done++q)/\a.length<=(done++q).length:=λq=>by
  induction q with
  | nil=>rintro done f ⟨a,i,h,s⟩;exact⟨a,i,by simpa using h,by simpa using s⟩
  | cons c q w =>
   rintro done f ⟨a,i,h,s⟩;have step:∃ m:Aa (Aa Int),nD f (c.map Sum.inl) (D.b true)=m.map (λk=>(k.map (Sum.inl:Int->dT),D.b true))/\(∀ k,k∈m↔k∈done++[c])/\m.length<=(done++[c]).length:=by
    by_cases t:c∈a
    .refine⟨a,?_,λk=>?_,by rw[bF];omega⟩
     .unfold nD;rw[aR (bW.mpr ⟨(c.map Sum.inl,D.b true),by rw[i];exact aI.mpr ⟨c,t,rfl⟩,by simp⟩),i,aJ];refine bV λk _=>?_
      show (if k.map (Sum.inl:Int->dT)=c.map Sum.inl then (k.map (Sum.inl:Int->dT),D.b true) else (k.map (Sum.inl:Int->dT),D.b true))=_;split<;>rfl
     .rw[h,aU,aV];exact⟨.inl,λz=>z.elim id λz=>by rw[z];exact (h c).mp t⟩
    .refine⟨a++[c],?_,λk=>?_,by rw[bF,bF];simpa using s⟩
     .rw[Ia,i,aQ];rfl;intro z;rw[i,aJ] at z;obtain⟨k,n,e⟩:=aI.mp z;have e:k=c:=zT e;exact t (e▸n)
     .rw[aU,aU,h]
   obtain⟨u,g1,g2,g3⟩:=w (done++[c]) _ step;exact⟨u,g1,by simpa using g2,by simpa using g3⟩
 obtain⟨a,i,h,s⟩:=key g [] [] ⟨[],rfl,λ_=>Iff.rfl,aW _⟩;rw[fS] at h s;refine⟨⟨a,by rw[i,aJ];rfl,h,by omega⟩,λk=>?_⟩;rw[i];by_cases n:k∈a
 .rw[Fe (λ_=>D.b true) n,bE ((h k).mp n)];rfl
 .rw[bG λz=>n ((h k).mpr z)];cases e:mN (a.map λk=>(k.map (Sum.inl:Int->dT),D.b true)) (k.map Sum.inl) with
  | none=>rfl
  | some d =>
   unfold mN at e;obtain⟨p,v,_⟩:=cK.mp e;obtain⟨c,t,rfl⟩:=aI.mp (iY v);have:=List.find?_some v;exact (n (by rw[<- zT (cD this)];exact t)).elim
theorem EH (C:Cel) (g:Aa (Af×Af)) (t:mL) (b:Aa Int):(mN ((mI g.length).map λc=>(c.map (Sum.inl:Int->dT),sP C g t c)) (b.map Sum.inl)).isSome=decide (b∈mI g.length):=by
 by_cases h:b∈mI g.length
 .rw[Fe _ h,bE h];rfl
 .rw[bG h];cases e:mN ((mI g.length).map λc=>(c.map (Sum.inl:Int->dT),sP C g t c)) (b.map Sum.inl) with
  | none=>rfl
  | some d =>
   unfold mN at e;obtain⟨p,a,_⟩:=cK.mp e;obtain⟨c,f,rfl⟩:=aI.mp (iY a);have:=List.find?_some a;exact (h (by rw[<- zT (cD this)];exact f)).elim
theorem Mz:∀ {n:Nat}{b:Aa Int},b.length=n->(∀ x∈b,x=0\/x=1)->b∈mI n
 | 0,[],_,_=>aV.mpr rfl
 | 0,_::_,e,_=>by cases e
 | n+1,[],e,_=>by cases e
 | n+1,x::b,e,h=>by
  have a:=Mz (n:=n) (b:=b) (by simpa using e) λy c=>h y (aP _ c)
  unfold mI;rcases h x aF with rfl | rfl
  .exact aT _ (eR a)
  .exact aN _ (eR a)
theorem Ie (j:RwOk C g) (o:c∈mI g.length) (r:l∈mI (wIns C g).length):pY C g c l∈mI g.length:=by
 obtain⟨a,b⟩:=rJ o;obtain⟨i,k⟩:=rJ r;obtain⟨_,_,d⟩:=Nt j a i b k;refine Mz (by unfold pY;rw[List.length_map]) λx f=>?_
 obtain⟨p,e,rfl⟩:=aI.mp f;exact Gq j.gc (λy h=>(d y h).2) p.1 (j.m p e).1
theorem Zx (g:Aa j) (x:j):oV (g++[x]) (-1)=some x:=by
 unfold oV tQ;rw[aM (by decide),aR (by rw[bF,fJ];omega)];show (g++[x])[((-1:Int)+((g++[x]).length:Int)).toNat]?=some x;rw[show ((-1:Int)+((g++[x]).length:Int)).toNat=g.length by rw[bF,fJ];omega];simp
theorem Bf {n:Nat}{g:Aa (Aa Int)}(j:g.Nodup) (h:∀ c∈g,c∈mI n):g.length<=2 ^ n:=by rw[<- uL n];exact j.length_le_of_subset h
def zL (C:Cel) (g:Aa (Af×Af)) (t:mL) (c l:Aa Int):Int:=pQ C g t (rL C g c l)
end Lw
namespace L2
open PySem PySem.Spec PyProof.Rows Lw
section
variable {X:Cx}{K:mH}
def Yj:R2:=λx y H Q=>∃ b c,x = .b b/\y = .b c/\Q (.b (b == c)) H
theorem EB:nC X (compareOp .Is) Yj:=by
 intro a s f H x y v u Q I d e h;obtain⟨b,c,rfl,rfl,q⟩:=h;cases d;cases e;show wpAny _ _ (compareOp .Is (.bool b) (.bool c)) _ _ s;unfold compareOp;exact aE ⟨.b (b == c),H,I,by cases b<;>cases c<;>rfl,q⟩
def MC:O2:=λd e a=>∃ b c,d = .b b/\e = .b c/\a (.v (.b (b == c)))
theorem MI:oY K Yj MC:=by
 intro B L H d e x y m Q hd h i f k;obtain⟨b,c,rfl,rfl,a⟩:=f;have:=h.bl_inv;have:=i.bl_inv
 subst_vars
 exact⟨b,c,rfl,rfl,k _ _ H a (hd.pushF (.b _))⟩
end
def Oq (t:TE):TE:=λd H Q=>∃ a b,H a=some (.k b)/\∀ o,t d (upd H a (.frz o (.k b))) λv c=>c a=some (.frz o (.k b))/\Q v (upd c a (.k b))
section
variable {X:Cx}
theorem Xo (h:PE X e t):PE X e (Oq t):=λc s A H Q I b=>by
 obtain⟨a,f,d,k⟩:=b;obtain⟨o,q⟩:∃ o,s.heap.get? a=some o:=by
  obtain⟨_,_,E,_,o,_,_,e,_⟩:=(show nT X.prog X.w H s.heap a (.k f) from I.hok a _ d);exact⟨o,e⟩
 have n:∀ i u,X.H₀ a≠some (.frz i u):=λi u e=>by
  have:=I.base.frzs a i u e;rw[d] at this;cases this
 refine mM (h c s A _ _ (I.frozenK d q) (k o)) λv D b=>?_
 obtain⟨x,B,m,r,y,z⟩:=b;exact⟨x,_,m.thawedK y n,r,z⟩
end
def F0 (H:Hp) (d:D) (v:V):Prop:=rF d=some v\/∃ (a:Aa (dT×D)) (c:Aa (dT×V)) (b:Ad),d = .k a/\rR (a.map (·.2))=some (c.map (·.2))/\a.map (·.1)=c.map (·.1)/\v = .ref b/\Rd H b (.k c)
def F1 (H:Hp) (d:D) (v:V):Prop:=F0 H d v\/∃ (a:Aa D) (c:Aa V) (b:Ad),d = .t a/\v = .ref b/\H b=some (.t c)/\Paired (F0 H) a c
def Cc (d:D):Prop:=(∃ v,rF d=some v)\/∃ a b,d = .k a/\rR (a.map (·.2))=some b
def Ci (d:D):Prop:=Cc d\/∃ a,d = .t a/\∀ c∈a,Cc c
def Fz (H g:Hp):Prop:=(∀ b c,H b=some (.t c)->g b=some (.t c))/\∀ b a,H b=some (.k a)->Rd g b (.k a)
section
variable {K:mH}
theorem nJ.f0 (z:Fz H g) (o:Cc d) (h:nJ K A H d v):F0 g d v:=by
 rcases o with⟨u,b⟩ | ⟨c,k,rfl,b⟩
 .obtain⟨rfl,_⟩:=Kd b h;exact .inl b
 .obtain⟨a,f,rfl,i,e,r⟩:=h.dK_inv;obtain⟨q,_⟩:=Uz b r;exact .inr ⟨c,f,a,rfl,by rw[q];exact b,e,rfl,z.2 a f i⟩
theorem nJ.f1 (z:Fz H g) (o:Ci d) (h:nJ K A H d v):F1 g d v:=by
 rcases o with o | ⟨b,rfl,o⟩
 .exact .inl (h.f0 z o)
 .obtain⟨a,e,rfl,f,r⟩:=h.tup_inv;refine .inr ⟨b,e,a,rfl,rfl,z.1 a e f,?_⟩;have go:∀ (b:Aa D) (e:Aa V),(∀ c∈b,Cc c)->Reps K A H b e->Paired (F0 g) b e:=by
   intro b;induction b with
   | nil=>intro e _ r;cases r;exact .nil
   | cons c b k =>
    intro e o r;cases r with
    | cons m n=>exact .cons (m.peek.f0 z (o c aF)) (k _ (λx i=>o x (aP _ i)) n)
  exact go b e o r
theorem Mn:∀ (g:Aa (dT×D)) (j:Aa (dT×V)),rR (g.map (·.2))=some (j.map (·.2))->g.map (·.1)=j.map (·.1)->∀ (k:dT) (d:D) (u:V),mN g k=some d->rF d=some u->qA j k=some u
 | [],_,_,_,_,_,_,h,_=>by cases h
 | p::g,[],_,e,_,_,_,_,_=>by cases e
 | p::g,q::j,a,e,k,d,u,h,c=>by
  obtain⟨b,f⟩:=dJ e;have b:p.1=q.1:=b;have a:(match rF p.2,rR (g.map (·.2)) with | some v,some j=>some (v::j) | _,_=>none)=some (q.2::j.map (·.2)):=a;cases f1:rF p.2 with
  | none=>rw[f1] at a;cases a
  | some v1 =>
   cases f2:rR (g.map (·.2)) with
   | none=>rw[f1,f2] at a;cases a
   | some i =>
    rw[f1,f2] at a;obtain⟨g1,g2⟩:=dJ (bU a);unfold mN at h;unfold qA;rw[cS] at h |-;by_cases z:p.1=k
    .rw[bE z] at h;rw[bE (b▸z)];have h:p.2=d:=bU h;rw[h,c] at f1;show some q.2=some u;rw[<- g1];exact f1.symm
    .rw[bG z] at h;rw[bG (λy=>z (b.trans y))];exact Mn g j (by rw[f2,g2]) f k d u h c
theorem F0.get (h:F0 H (.k g) v) (l:mN g (Sum.inr x)=some d) (j:rF d=some u):∃ b,v = .ref b/\qY H b (.str x) (some u):=by
 rcases h with h | ⟨a,i,b,e,f,c,rfl,rd⟩
 .cases h
 .cases e;exact⟨b,rfl,.inl ⟨i,Sum.inr x,rd,rfl,(Mn _ _ f c _ _ _ l j).symm⟩⟩
theorem F1.get (h:F1 H (.k g) v) (l:mN g (Sum.inr x)=some d) (j:rF d=some u):∃ b,v = .ref b/\qY H b (.str x) (some u):=by
 rcases h with h | ⟨_,_,_,e,_⟩
 .exact h.get l j
 .cases e
theorem F1.flat (h:F1 H d v) (g:rF d=some u):v=u:=by
 rcases h with (h | ⟨_,_,_,e,_⟩) | ⟨_,_,_,e,_⟩
 .rw[g] at h;exact (bU h).symm
 .subst e;cases g
 .subst e;cases g
def zP (H:Hp) (d:D) (v:V):Prop:=rF d=some v\/∃ (a:Aa D) (b:Aa V) (p:Ad),d = .t a/\rR a=some b/\v = .ref p/\H p=some (.t b)
theorem P1:∀ {d:D}{v:V},rF d=some v->Rep K A H d v:=λ{d v} h=>by
 cases d<;>cases h
 .exact .e
 .exact .b _
 .exact .int _
 .exact .str _
theorem Su:∀ (g:Aa D) (j:Aa V),rR g=some j->Reps K A H g j
 | [],j,h=>by cases h;exact .nil
 | d::g,j,h=>by
  have h:(match rF d,rR g with | some v,some b=>some (v::b) | _,_=>none)=some j:=h;cases f1:rF d with
  | none=>rw[f1] at h;cases h
  | some v1 =>
   cases f2:rR g with
   | none=>rw[f1,f2] at h;cases h
   | some a=>rw[f1,f2] at h;cases h;exact .cons (P1 f1) (Su g a f2)
theorem zP.rep (h:zP H d v):Rep K A H d v:=by
 rcases h with h | ⟨a,e,p,rfl,b,rfl,c⟩
 .exact P1 h
 .exact .t c (Su a e b)
theorem zP.keep (h:zP H d v) (k:∀ p g,H p=some (.t g)->j p=some (.t g)):zP j d v:=by
 rcases h with h | ⟨b,a,p,e,f,c,i⟩
 .exact .inl h
 .exact .inr ⟨b,a,p,e,f,c,k p a i⟩
end
section
variable {X:Cx}
def Gj (i:Nat) (g:Aa Nat) (P:Aa D->Af->Ab D->Prop):nF:=λm f h=>∃ (a:Aa (dT×D)) (d:Aa Af) (e:Aa D) (b:Af->Ab D),at? f i=some (.k a)/\Cc (.k a)/\a.map (·.1)=d.map Sum.inr/\d.length<=1000/\g.map (at? f)=e.map some/\(∀ c∈e,Ci c)/\(∀ x∈d,P e x (b x))/\h (.o (.l (d.filterMap b))) f
def Ra (P:Aa D->Af->Ab D->Prop) (j:TT) (g:TE):Prop:=∀ (h:Aa D) (e:Aa V) (x:Af) (c:Ab D) (H:Hp) (N:VK) (F:Hp->Prop),P h x c->Paired (F1 H) h e->(∀ d v a,c=some d->pL H a->zP a d v->N v a)->(∀ a,c=none->pL H a->F a) ->
 j (some (.str x)::e.map some) H λb f=>if b=true then g (some (.str x)::e.map some) f N else F f
theorem PQ {σ:St}{H:Hp}{Q:VK}{B:Bs}{ρ:Aa Sl}{T:oF}{Φ:Sl->Aa Sl->Prop}{nm:Af}{g:Aa Nat}{tt:TT}{te:TE}{P:Aa D->Af->Ab D->Prop}{ti:TE}{a:Ad}{C:Aa (dT×V)}{ac:Aa (dT×D)}{xs:Aa Af}{U:Aa D}{I:Af->Ab D}(ht:Ra P tt te)
  (hl:ρ.length=σ.length) (hd:DS X.K B (ρ.zip σ++T) H) (ek:ac.map (·.1)=xs.map Sum.inr) (lx:xs.length<=1000) (ec:g.map (at? ρ)=U.map some) (oc:∀ c∈U,Ci c) (hP:∀ x∈xs,P U x (I x)) (af:Φ (.o (.l (xs.filterMap I))) ρ)
  (k:∀ r aa v J,aa.length=σ.length->DS X.K B (aa.zip σ++(r,some v)::T) J->Φ r aa->Q v J) (ha:H a=some (.k C)) (ab:ac.map (·.1)=C.map (·.1))
  (ae:∀ o (K':VK),K' (.ref a) (upd H a (.frz o (.k C)))->ti σ (upd H a (.frz o (.k C))) K'):Oq (zD [nm] g (K6 ti) (zI 0) tt te) σ H Q:=by
 have O:∃ i:Aa V,g.map (λj=>(σ[j]?).join)=i.map some/\Paired (λc v=>Ci c/\nJ X.K (Al B (hI (ρ.zip σ++T))) H c v) U i:=by
  have go:∀ (g:Aa Nat) (U:Aa D),g.map (at? ρ)=U.map some->(∀ c∈U,Ci c)->∃ i:Aa V,g.map (λj=>(σ[j]?).join)=i.map some/\Paired (λc v=>Ci c/\nJ X.K (Al B (hI (ρ.zip σ++T))) H c v) U i:=by
   intro g;induction g with
   | nil =>
    intro U ec _;cases U with
    | nil=>exact⟨[],rfl,.nil⟩
    | cons _ _=>cases ec
   | cons j g ih =>
    intro U ec oc;cases U with
    | nil=>cases ec
    | cons c U =>
     rw[aK,aK] at ec;obtain⟨e1,e2⟩:=dJ ec;obtain⟨v,hv,pv⟩:=hd.peek hl e1;obtain⟨i,g1,g2⟩:=ih U e2 λx n=>oc x (aP _ n)
     exact⟨v::i,by rw[aK,aK,g1,hv];rfl,.cons ⟨oc c aF,pv⟩ g2⟩
  exact go g U ec oc
 obtain⟨i,ev,pr⟩:=O;refine⟨a,C,ha,λo=>ae o _ ⟨a,o,C,rfl,mZ,λF Z=>?_⟩⟩;have Y:a≠F:=λz=>by rw[z,mZ] at Z;cases Z
 have G:H F=none:=by rw[mQ (eI Y)] at Z;exact Z
 have lk:C.length=xs.length:=by
  have:=cC List.length (ab.symm.trans ek)
  simpa using this
 have ah:∀ j x,(C.map λp=>kV p.1)[j]?=some x->∃ y:Af,xs[j]?=some y/\x=V.str y:=λj x n=>by
  have e1:C.map (·.1)=xs.map Sum.inr:=ab.symm.trans ek;have e2:(C.map λp=>kV p.1)=xs.map V.str:=by
   have:=cC (List.map kV) e1;rw[aJ,aJ] at this;exact this
  rw[e2,bC] at n;cases e3:xs[j]? with
  | none=>rw[e3] at n;cases n
  | some y=>rw[e3] at n;cases n;exact⟨y,e3,rfl⟩
 refine K3 UV (λj s J=>j<=xs.length/\J a=some (.frz o (.k C))/\J F=some (.l s)/\(∀ b u,H b=some u->b≠a->J b=some u)/\s.length<=j/\Paired (zP J) ((xs.take j).filterMap I) s) ?_ (λj s J _ p=>p.2.1) ?_ ?_
 .refine⟨dF _,by rw[mQ Y,mZ],mZ,λb u f S=>?_,aW _,by rw[lL];exact .nil⟩;rw[mQ (λz:b=F=>by rw[z,G] at f;cases f),mQ S];exact f
 .rintro j x s J n ⟨hj,M,kD,N,hy,m⟩;obtain⟨y,L,rfl⟩:=ah j x n;have R:j<xs.length:=(aX.mp L).1;have ym:=aL L;have fz:Fz H J:=by
   refine⟨λb E e=>N b _ e λz=>?_,λb E e=>?_⟩
   .rw[z,ha] at e;cases e
   .by_cases z:b=a
    .rw[z] at e |-;rw[ha] at e;cases e;exact .inr ⟨o,M⟩
    .exact .inl (N b _ e z)
  have cf:Paired (F1 J) U i:=Paired.mapP pr λc v q=>q.2.f1 fz q.1
  have tk:(xs.take (j+1)).filterMap I=(xs.take j).filterMap I++(match I y with | some d=>[d] | none=>[]):=by
   rw[bR,L,kC];show _++[y].filterMap I=_;cases e:I y<;>simp[e]
  rw[ev];refine ht U i y (I y) J _ _ (hP y ym) cf (λd v H5 eo sm ai=>?_) λH5 eo sm=>?_
  .have W:=sm _ _ kD;have ag:=sm _ _ M;have kt:∀ p E,H5 p=some (.t E)->upd H5 F (.l (s++[v])) p=some (.t E):=λp E e=>by
    rw[mQ (λz:p=F=>by rw[z,W] at e;cases e)];exact e
   refine⟨⟨_,rfl⟩,W,cO (show s.length<=1000 by omega) (by decide),R,by rw[mQ Y];exact ag,mZ,λb u f S=>?_,by rw[bF,fJ];omega,?_⟩
   .rw[mQ (λz:b=F=>by rw[z,G] at f;cases f)];exact sm _ _ (N b u f S)
   .rw[tk,eo];exact Paired.snoc (Paired.mapP m λc w q=>(q.keep λp E e=>sm _ _ e).keep kt) (ai.keep kt)
  .refine⟨⟨_,rfl⟩,R,sm _ _ M,sm _ _ kD,λb u f S=>sm _ _ (N b u f S),by omega,?_⟩;rw[tk,eo,cZ];exact Paired.mapP m λc w q=>q.keep λp E e=>sm _ _ e
 .rintro s J ⟨_,M,kD,N,hy,m⟩;rw[aA,lk,dD] at m;refine⟨M,?_⟩;have same:pL H (upd J a (.k C)):=λb u f=>by
   by_cases z:b=a
   .subst z;rw[mZ,<- ha];exact f
   .rw[mQ z];exact N b u f z
  have rp:∀ (A:Ad->Prop) (ds:Aa D) (i:Aa V),Paired (zP J) ds i->Reps X.K A (upd J a (.k C)) ds i:=λA ds i pr=>by
   induction pr with
   | nil=>exact .nil
   | cons h _ ih=>exact .cons (h.keep λp E e=>by rw[mQ (λz:p=a=>by rw[z,M] at e;cases e)];exact e).rep ih
  have d2:=hd.adopt (a:=F) (d:=.l (xs.filterMap I)) (H':=upd J a (.k C)) (λb u f _=>same b u f) (hd.dk.keep λb f=>by
   obtain⟨E,q⟩:=hd.dk.some f;rw[same b _ q,q]) G ⟨s,by rw[mQ (eI Y)];exact kD,rp _ _ _ m⟩
  exact k _ ρ _ _ hl d2.mid af
theorem Rx {P:Aa D->Af->Ab D->Prop}(h:PE X e (Oq (zD [r] g (K6 (pT i)) (zI 0) p l))) (j:Ra P p l):PD X e (Gj i g P):=h.mono λO H Q c=>c.elim λB N T M m hd ⟨v,L,F,z,n,G,s,x,q,y,t,f⟩ k=>by
 obtain⟨v0,d,A⟩:=hd.peek m n;obtain⟨a,w,rfl,u,b,K⟩:=A.dK_inv;exact PQ j m hd s x q y t f k u b λo E h=>⟨_,d,h⟩
end
section
theorem Qq:∀ (g:Aa (dT×D)) (j:Aa (dT×V)),g.map (·.1)=j.map (·.1)->∀ k:dT,mN g k=none->qA j k=none
 | [],[],_,_,_=>rfl
 | [],_::_,e,_,_=>by cases e
 | _::_,[],e,_,_=>by cases e
 | p::g,q::j,e,k,h=>by
  obtain⟨a,b⟩:=dJ e;by_cases z:p.1=k
  .exfalso;unfold mN at h;rw[List.find?_cons_of_pos (by simpa using z)] at h;cases h
  .have c:mN g k=none:=by
    unfold mN at h |-;rw[List.find?_cons_of_neg (by simpa using z)] at h;exact h
   rw[Bq (λw=>z (Eq.trans (show p.1=q.1 from a) w))];exact Qq g j b k c
theorem F1.get0 (h:F1 H (.k g) v) (j:mN g (Sum.inr x)=some (.int m)\/(mN g (Sum.inr x)=none/\m=0)):∃ b o,v = .ref b/\Jz H b/\qY H b (.str x) o/\o.getD (.int 0) = .int m:=by
 rcases h with (h | ⟨d,a,b,e,f,c,rfl,rd⟩) | ⟨_,_,_,e,_⟩
 .cases h
 .cases e;refine⟨b,qA a (Sum.inr x),rfl,.inl ⟨a,rd⟩,.inl ⟨a,Sum.inr x,rd,rfl,rfl⟩,?_⟩;rcases j with q | ⟨q,rfl⟩
  .rw[Mn _ _ f c _ _ _ q rfl];rfl
  .rw[Qq _ _ c _ q];rfl
 .cases e
end
end L2
namespace PySem
open PyProof.Rows L2
section
theorem JU:isSubtype (.type "range_iterator") (.type "reversed")=pure false:=by rw[isSubtype_type];kernel_rfl
abbrev C8 (n:Int):Obj:={ cls:=.type "range_iterator",data:=.fields #[rawInt (0+(n-1)*1),rawInt n,rawInt (-1)] }
theorem KA (g:IsRange s.heap r 0 n 1 t u v) (l:0<=n) (o:n<=100000)
  (h:Q (.ref s.heap.objs.size) { s with heap:=s.heap.push (C8 n) }):wpAny (model j w) A (call (.builtin "range.__reversed__") [.ref r]) Q E s:=by
 have b:s.TypeIs (.ref r) "range" := ⟨_,g,rfl⟩;refine dB kJ b F.entry_range_reversed ?_ (F.args_range_reversed_1 _);unfold Builtin.«range.__reversed__»;have e:Builtin.Range.rangeSize 0 n 1=n:=by
  unfold Builtin.Range.rangeSize;rw[aR (by decide)];split<;>omega
 refine aB (dY (a:=Value.ref r) rfl ?_);unfold Builtin.Range.rangeFields;refine aB (aB (dX g rfl (x:=.int 0 t) rfl (aB (dY (a:=some 0) rfl (aB (dX g rfl (x:=.int n u) rfl (aB (dY (a:=some n) rfl (aB (dX g rfl (x:=.int 1 v) rfl (aB (dY (a:=some 1) rfl (aE ?_)))))))))))));have sm:(Builtin.Range.rangeFitsLong 0&&Builtin.Range.rangeFitsLong n&&Builtin.Range.rangeFitsLong 1&&Builtin.Range.rangeFitsLong (-1)&&Builtin.Range.rangeFitsLong (0-1)&&Builtin.Range.rangeFitsLong n)=true:=by
  simp only[Builtin.Range.rangeFitsLong,cE,dQ];omega
 dsimp only;rw[e,sm];exact aB (eT (aE ⟨_,rfl,h⟩))
theorem QK (j:IsRange s.heap r 0 n 1 t u v) (o:0<=n) (p:n<=100000)
  (h:g (.ref s.heap.objs.size) { s with heap:=s.heap.push (C8 n) }) :
  codeAny (model l w) A (.call (.builtin "reversed.__new__") ⟨[.type "reversed",.ref r],[]⟩) (wants g E) s:=by
 have b:s.TypeIs (.ref r) "range" := ⟨_,j,rfl⟩;refine codeAny_of_tree ?_;show wpAny _ A.in1 (do checkBuiltinCall "reversed.__new__" ⟨[.type "reversed",.ref r],[]⟩;again (.builtin "reversed.__new__" ⟨[.type "reversed",.ref r],[]⟩)) _ _ s;refine aB (dY (F.newCall_reversed_1 _) (aE ⟨jB F.plain_reversed_new _,fV F.entry_reversed_new ?_⟩));rw[eY F.plain_reversed_new _];unfold Builtin.«reversed.__new__»;refine aB (dY (newClass_reversed _) ?_)
 try dsimp only
 refine aB (dY (a:=()) (by first | rfl | kernel_rfl) ?_);refine aB (dY (a:=()) (by first | rfl | kernel_rfl) ?_)
 try dsimp only
 refine aB (jH b kJ.lookup ?_)
 try dsimp only
 refine aB (dY (kJ.bind _) ?_)
 try dsimp only
 first
 | rw[aM (show ¬ ((Value.builtin "range.__reversed__" == Value.none)=true) from aY)]
 | (show wpAny _ _ (if (Value.builtin "range.__reversed__" == Value.none)=true then _ else _) _ _ _;rw[aM (show ¬ ((Value.builtin "range.__reversed__" == Value.none)=true) from aY)])
 refine aB (jL ?_);refine aB (m:=runValue (.call (.builtin "range.__reversed__") ⟨[.ref r],[]⟩)) (show wpAny _ _ (call (.builtin "range.__reversed__") [.ref r]) _ _ _ from KA j o p ?_)
 first
 | exact aE h
 | exact aB (aE (aE h))
theorem DC (o:IsRange s.heap r 0 n 1 t u v) (j:0<=n) (l:n<=100000)
  (h:Q (.ref s.heap.objs.size) { s with heap:=s.heap.push (C8 n) }):wpAny (model g w) A (call (.type "reversed") [.ref r]) Q E s:=by
 refine callType_other (U := "range_iterator") (Q₁:=λobj a=>obj = .ref s.heap.objs.size/\a={ s with heap:=s.heap.push (C8 n) }) (by decide +kernel) F.create_reversed ⟨_,_,F.mro_reversed⟩ F.made_reversed JU (F.typeCall_reversed_1 _) (QK o j l ⟨rfl,rfl⟩) ?_;rintro obj a ⟨rfl,rfl⟩;exact⟨⟨_,bB _ rfl,rfl⟩,h⟩
end
end PySem
namespace L2
open PySem PySem.Spec PyProof.Rows Lw
section
variable {X:Cx}
def GO (g:TA):TI:=λc H R=>g c H λb a=>∃ j:Int,b=[.int j]/\0<=j/\j<=100000/\R (Bz (j-1) (-1) j.toNat) a
theorem Z2 (T:Gl X "reversed") (U:X.mg "reversed" = none) (l:Gl X "range") (C:X.mg "range" = none) (J:PA X [a] ta) (hs:starEach [a] X.env=[(false,eval a X.env)]:=by rfl) :
  PI X tg (.Call (.Name "reversed" p) [.Call (.Name "range" p') [a] [] g] [] pos) (GO ta):=by
 intro c s m H R I h;refine eX (vZ I T U boot_reversed ?_ (by decide) (by decide));refine cR ?_ rfl rfl;show wpAny _ _ (spliced ((false,eval (.Call (.Name "range" p') [a] [] g) X.env)::backTo pos (starEach [] X.env))) _ _ s;refine iE ?_;refine eX (vZ I l C boot_range ?_ (by decide) (by decide));refine cR (mM (J g c s m H _ I h) λF d k=>?_) hs rfl;obtain⟨G,f,n,D,B⟩:=k;obtain⟨j,rfl,z,A,q⟩:=B;cases D with
 | cons r E =>
  cases E;obtain⟨t,rfl⟩:=r;refine call_range_1 ?_;refine jT ?_;refine DC (IsRange.new ..) z A ?_;have i:Inv X c m f { d with heap:=d.heap.push { cls:=.type "range",data:=.fields #[.int 0 d.toks,.int j t,.int 1 (d.toks+1)] },toks:=d.toks+1+1 }:=n.kept λb o e=>aG _ e
  have u:Inv X c m f { d with heap:=(d.heap.push { cls:=.type "range",data:=.fields #[.int 0 d.toks,.int j t,.int 1 (d.toks+1)] }).push (C8 j),toks:=d.toks+1+1 }:=i.kept λb o e=>aG _ e
  have v:0+(j-1)*1=j-1:=by omega
  refine jS (bB _ rfl) ?_;refine⟨_,[_],_,_,f,rfl,u,Xz _ (j-1) (-1) j.toNat,?_,λb y=>?_,q⟩
  .show IsRangeIter _ _ (j-1+((0:Nat):Int)*(-1)) ((j.toNat:Int)-((0:Nat):Int)) (-1);have w:j-1+((0:Nat):Int)*(-1)=j-1:=by omega
   have x:((j.toNat:Nat):Int)-((0:Nat):Int)=j:=by omega
   rw[w,x,<- v];exact bB _ rfl
  .have e:=aV.mp y;subst e;exact i.fpOk (aW _) (i.hok.fresh (aW _))
end
section
variable {X:Cx}{K:mH}
def UA (g:nF):vW:=λb d c=>g b d λr a=>match r with
 | .v (.int j)=>(0<=j/\j<=100000)/\c (tV (j-1) (-1) j.toNat) a
 | _=>False
theorem OR (C:Gl X "reversed") (I:X.mg "reversed" = none) (g:Gl X "range") (j:X.mg "range" = none) (o:PD X a ta) (U:starEach [a] X.env=[(false,eval a X.env)]:=by rfl) (J:wQ a=true:=by rfl) :
  wU X tg (.Call (.Name "reversed" p) [.Call (.Name "range" p') [a] [] l] [] pos) (UA ta) :=
 (Z2 C I g j (nM o oG J) U).mono λs H R c=>c.elim λB n T q h hd i k=>⟨B,n,T,_,h,hd,i,λr d v e m d1 b=>by
  cases r<;>first | exact False.elim b | skip
  rename_i x
  cases x<;>first | exact False.elim b | skip
  have f:=d1.valAt.int_inv;subst f;exact⟨_,rfl,b.1.1,b.1.2,k _ _ d [] e m d1.drop Rh b.2⟩⟩
end
section
variable {X:Cx}{K:mH}
theorem Y9 (bs:Aa Bool):((List.range bs.length).any λi=>(bs[i]?).getD true)=bs.any id:=by
 have e:(List.range bs.length).map (λi=>(bs[i]?).getD true)=bs:=by
  apply List.ext_getElem (by simp);intro i p q;simp[q]
 calc ((List.range bs.length).any λi=>(bs[i]?).getD true)=((List.range bs.length).map λi=>(bs[i]?).getD true).any id:=by rw[lE];rfl
  _=bs.any id:=by rw[e]
def Q7 (K:mH):Aa V->Hp->VK->Prop:=λa H Q=>∃ (p:Ad) (bs:Aa Bool),a=[.ref p]/\mK K H p (bs.map V.b)/\Q (.b (bs.any id)) H
theorem Yv (g:X.calm=true):nW X (.builtin "any") (Q7 X.K):=by
 intro m s P H O N Q I r h;obtain⟨p,bs,rfl,z,q⟩:=h;obtain⟨u,rfl,D⟩:=qC r;cases D;obtain⟨c,n,B,_⟩:=I.list z;have d:=B.isList;have a:=n.length;rw[aA] at a;have f:p<s.heap.objs.size:=by obtain⟨_,e,_⟩:=id d;exact bA e
 refine call_any_walk (fB d ?_);refine⟨s.heap.objs.size,[s.heap.objs.size,p],[s.heap.objs.size],c.toArray.size,_,_,λi=>(bs[i]?).getD true,rfl,Walks.list (A:=X.A.in1) (I.ok.hd g) _ p (bK f) c.toArray,⟨⟨_,bB _ rfl,rfl,rfl⟩,d.push _⟩,λi v L F E t k=>?_,λG M w=>?_⟩
 .obtain⟨b,e,rfl⟩:=Pc n (by simpa using t);simp only[e,Option.getD_some] at k;exact fA k
 .have e:((List.range c.toArray.size).any λi=>(bs[i]?).getD true)=bs.any id:=by
   rw[aZ,<- a];exact Y9 bs
  rw[e];exact⟨.b _,H,I.kept λb x e=>w b x (λy=>by rw[aV.mp y] at e;exact eM _ (bA e)) (aG _ e),rfl,q⟩
def JJ:OC:=λa d=>match a with
 | [.l c]=>∃ bs,yQ c=some bs/\d (.v (.b (bs.any id)))
 | _=>False
theorem O8:qZ K (Q7 K) JJ:=by
 intro B L H e s t Q hd i c k;cases e with
 | nil=>exact False.elim c
 | cons d e =>
  cases e with
  | cons _ _=>cases d<;>exact False.elim c
  | nil =>
   cases d<;>first | exact False.elim c | skip
   obtain⟨x,rfl,n⟩:=rE i;obtain⟨m,f,c⟩:=c;obtain⟨a,q,rfl,h,r⟩:=n.lst_inv;rw[Va f r] at h;exact⟨a,m,rfl,mK.of h,k _ _ H c (hd.pushF (.b _))⟩
def Vp:Aa V->Hp->VK->Prop:=λd H Q=>∃ (a:Ad) (b:Aa (Aa dT×V)),d=[.ref a]/\Rd H a (.T b)/\b.length<=1000/\∀ (l:Ad) (c:Aa Ad),H l=none->c.length=b.length->(∀ (i:Nat) p k v,c[i]?=some p->b[i]?=some (k,v)->H p=some (.t (k.map kV)))->Q (.ref l) (upd H l (.l (c.map V.ref)))
theorem HJ (g:X.calm=true):nW X (.type "list") Vp:=by
 intro O s σ H xs us Q I r h;obtain⟨a,f,rfl,P,L,q⟩:=h;obtain⟨u,rfl,ru⟩:=qC r;cases ru;obtain⟨ob,es,ep,raw,sz,rows⟩:=Xt I.hok P;refine PySem.W.kdl_call W4 (I.ok.hd g) raw (by rw[sz];exact bN L (by decide)) λh' tk d c J z E=>?_
 obtain⟨n1,T⟩:=E;obtain⟨b,M,G,N⟩:∃ b:Aa Ad,d.toList=b.map Value.ref/\b.length=f.length/\∀ (i:Nat) p k v,b[i]?=some p->f[i]?=some (k,v)->H p=some (.t (k.map kV)):=by
  have go:∀ m,m<=f.length->∃ b:Aa Ad,d.toList.take m=b.map Value.ref/\b.length=m/\∀ (i:Nat) p k v,b[i]?=some p->f[i]?=some (k,v)->H p=some (.t (k.map kV)):=λm=>by
   induction m with
   | zero=>exact λ_=>⟨[],rfl,rfl,λi p k v e=>by simp at e⟩
   | succ m F =>
    intro hm;obtain⟨b,x,y,A⟩:=F (by omega);have w:m<d.size:=by omega
    obtain⟨R,S⟩:=T m d[m] (cI w);obtain⟨k,v,p,Z,j,C⟩:=rows m R;refine⟨b++[p],?_,by rw[bF,y];rfl,λi U Y v' n B=>?_⟩
    .rw[bR,x,aQ,dM,cI w,S,j];rfl
    .by_cases D:i<b.length
     .rw[gO D] at n;exact A i U Y v' n B
     .have:i<(b++[p]).length:=(aX.mp n).1;rw[bF,fJ] at this;have e:i=m:=by omega
      subst e;rw[eK (by omega),y,Nat.sub_self] at n;rw[Z] at B;cases n;cases B;exact C
  obtain⟨b,x,y,A⟩:=go f.length (aW _);rw[bL (by rw[eQ];omega)] at x;exact⟨b,x,y,A⟩
 have rel:mV (b.map V.ref) d.toList:=by
  rw[M];clear M G N;induction b with
  | nil=>exact .nil
  | cons p b F=>exact .cons rfl F
 exact⟨.ref s.heap.objs.size,_,I.laid (a:=s.heap.objs.size) (o:=.l (b.map V.ref)) (t':=tk) J (aW _) ⟨by rw[aA,G];exact bN L (by decide),d.toList,c,rel,by rw[Array.toArray_toList];exact z⟩,rfl,q _ b (I.hok.fresh (aW _)) G N⟩
def QN:OC:=λb c=>match b with
 | [.T a]=>a.length<=1000/\c (.o (.l (tE a)))
 | _=>False
theorem UX:qZ K Vp QN:=by
 intro B L H w R S Q hd E n k;cases w with
 | nil=>exact False.elim n
 | cons d w =>
 cases d<;>first | exact False.elim n | skip<;>cases w<;>first | exact False.elim n | skip
 rename_i b
 obtain⟨x,rfl,P⟩:=rE E;obtain⟨a,v,rfl,h,e,r⟩:=P.dT_inv;have G:b.length=v.length:=by have:=cC List.length e;simpa using this
 refine⟨a,v,rfl,h,by rw[<- G];exact n.1,λl c A N O=>k _ _ _ n.2 (hd.lstF A ?_)⟩;have go:∀ (b:Aa (Aa dT×D)) (s:Aa (Aa dT)) (c:Aa Ad),b.map (·.1)=s->c.length=s.length->(∀ (i:Nat) p k,c[i]?=some p->s[i]?=some k->H p=some (.t (k.map kV)))->Reps K (Al B (hI L)) H (tE b) (c.map V.ref):=λb=>by
  induction b with
  | nil=>intro s c y u _;subst y;cases c with
   | nil=>exact .nil
   | cons _ _=>cases u
  | cons q b F =>
   intro s c y u m;subst y;cases c with
   | nil=>cases u
   | cons p c =>
    exact .cons (.t (m 0 p q.1 rfl rfl) (J7 q.1)) (F _ c rfl (Nat.succ.inj u) λi M k z f=>m (i+1) M k z f)
 exact go b (v.map (·.1)) c e (by rw[N,aA]) λi p k z f=>by
  rw[bC] at f;cases m:v[i]? with
  | none=>rw[m] at f;cases f
  | some q =>
   rw[m] at f;cases f;exact O i p q.1 q.2 z m
end
end L2
namespace PySem
open PyProof.Rows L2
section
theorem JM (hu:(oA g w).room A) (r:(oA g w).is s.heap k a) (T:s.heap.DictOfH (oA g w) d I)
  (J:∀ C,C.DictOfH (oA g w) d (storedH I k a v)->Heap.SameBut d s.heap C->Q () { s with heap:=C }) (U:I.length<=sizeLine) :
  wpAny (model g w) A (dictSetHashed d (.ref a) ((oA g w).hash k) v) Q E s:=by
 obtain⟨o,B,u,f,z,hd,n,h,i⟩:=T;unfold dictSetHashed
 try with_reducible refine bY ?_
 refine aB (wpAny_dictFind_heap hu r f hd n h i ?_ ?_)
 .intro c;have m:k∉I.map (·.1):=not_mem_keys_of_get c;refine aB (jL (wpAny_updateDictKeys (hz:=by have e:=size_of_entries n;omega) f hd (J _ ⟨_,_,u+1,fH _ f (lA (iT hd _)),z.mapDictKeys _,iT hd _,?_,?_,?_⟩ (cT ..))))
  .rw[storedH_new (kA c)];simp[n,entryOfKey]
  .rw[storedH_new (kA c)];intro x b;rcases aU.mp b with b | b
   .exact (oA g w).keeps (h x b) f hd (cT ..)
   .simp only[aV] at b;subst b;exact (oA g w).keeps r f hd (cT ..)
  .rw[storedH_new (kA c)];rw[aQ,bD];refine⟨i,by simp,?_⟩;intro x b y t;simp only[aK,lC,aV] at t;subst t;exact λe=>m (e▸b)
 .intro j p q;refine aB (jL (aB (wpAny_updateDict f hd (wpAny_point (J _ ⟨_,_,u,fH _ f (lA (Obj.data_mapDict hd _)),z.mapDict _,Obj.data_mapDict hd _,?_,?_,?_⟩ (cT ..))))))
  .rw[storedH_old (atKey_of_get i q)];have:=modify_map_putAt (entryOfKey (oA g w)) (λe:DictEntry=>{ e with val:=v }) k v (λ_ _=>rfl) i q;rw[<- n] at this;obtain⟨l⟩:=B
   simpa using this
  .rw[storedH_old (atKey_of_get i q)];intro x b;obtain⟨y,t,rfl⟩:=aI.mp b;unfold putAt;split<;>exact (oA g w).keeps (h y t) f hd (cT ..)
  .rw[storedH_old (atKey_of_get i q)];rw[keys_map_putAt];exact i
def sM (g more:Aa (Aa dT×Ad×Ac)):Aa (Aa dT×Ad×Ac):=more.foldl (λa q=>storedH a q.1 q.2.1 q.2.2) g
theorem HN {g more:Aa (Aa dT×Ad×Ac)}{i:Nat}{q:Aa dT×Ad×Ac}(h:more[i]?=some q):sM g (more.take (i+1))=storedH (sM g (more.take i)) q.1 q.2.1 q.2.2:=by
 unfold sM;rw[bR,h,jV];rfl
theorem U0:∀ (more g:Aa (Aa dT×Ad×Ac)),(sM g more).length<=g.length+more.length
 | [],g=>by simp[sM]
 | q::more,g=>by
  have a:=U0 more (storedH g q.1 q.2.1 q.2.2);have b:=Sr g q.1 q.2.1 q.2.2;show (sM (storedH g q.1 q.2.1 q.2.2) more).length<=_;rw[bQ];omega
theorem Ro:∀ (more g:Aa (Aa dT×Ad×Ac)),((g++more).map (·.1)).Nodup->sM g more=g++more
 | [],g,_=>by simp[sM]
 | q::more,g,h=>by
  have b:atKey g q.1=none:=kA λj p a=>by
   rw[aQ,aK,bD] at h;exact h.2.2 q.1 (aI.mpr ⟨_,aL a,rfl⟩) q.1 aF rfl
  show sM (storedH g q.1 q.2.1 q.2.2) more=_;rw[storedH_new b,Ro more _ (by simpa using h)];simp
theorem BJ (j:(oA g w).is s.heap k a) (h:Q false s):wpAny (model g w) A (Builtin.Dict.quietEq (.ref a)) Q E s:=by
 obtain⟨o,d,n,b,c,_⟩:=j;exact aB (jH ⟨o,b,c⟩ F.slot_tuple_eq.lookup (aE h))
theorem Th:∀ (l:Aa DictEntry) (e:DictEntry),(l.map (·.hash)).Nodup->(l.filter λx=>x.hash == e.hash).length<=1
 | [],_,_=>by simp
 | x::l,e,a=>by
  rw[aK,bP] at a;rw[List.filter_cons];by_cases b:x.hash=e.hash
  .have:l.filter (λy=>y.hash == e.hash)=[]:=iJ.mpr λy c z=>a.1 (aI.mpr ⟨y,c,by rw[b];exact eq_of_beq z⟩)
   rw[this];split<;>simp
  .rw[aM (by simpa using b)];exact Th l e a.2
theorem PP {id:String}{d:Ad}{o:Obj}{j I}{r:Aa (Aa dT×Ad×Ac)}{Q:Array DictEntry->Ae->Prop}(T:s.heap.get? d=some o) (hd:o.data = .dict j I) (p:j.toList=r.map (entryOfKey (oA g w))) (C:∀ x∈r,(oA g w).is s.heap x.1 x.2.1)
  (J:(r.map λx=>(oA g w).hash x.1).Nodup) (h:Q j s):wpAny (model g w) A (Builtin.Dict.entriesForEmpty id d) Q E s:=by
 unfold Builtin.Dict.entriesForEmpty;refine aB (fF T hd ?_);have a:(j.toList.map (·.hash)).Nodup:=by rw[p,aJ];exact J
 have one:∀ e∈j,¬ (j.filter (·.hash == e.hash)).size>1:=λe c=>by
  obtain⟨l⟩:=j;have c:e∈l:=by simpa using c
  have a:(l.map (·.hash)).Nodup:=a;have:=Th l e a
  simpa using this
 refine aB ?_;rw[<- Array.forIn_toList];refine wpAny_forIn_list _ (λrest _ f=>f=s/\∀ e∈rest,e∈j) _ ?_ ?_ _ _ ⟨rfl,λe p=>kR.mp p⟩
 .rintro e rest b f ⟨rfl,i⟩;have c:=i e aF;have:e∈r.map (entryOfKey (oA g w)):=p▸kR.mpr c;obtain⟨x,k,rfl⟩:=aI.mp this;refine aB (BJ (C x k) ?_);simp only[Bool.not_false,gA];rw[aM (one _ c)];exact aE ⟨rfl,λe p=>i e (aP _ p)⟩
 .rintro b f ⟨rfl,_⟩;exact aE h
theorem AJ (hu:(oA g w).room A) (r:d≠o) (ab:(o == sysModules)=false)
  (hd:s.heap.DictOfH (oA g w) d j) (ho:s.heap.DictOfH (oA g w) o more) (hH:(more.map λx=>(oA g w).hash x.1).Nodup)
  (C:∀ p,p.DictOfH (oA g w) d (sM j more)->Heap.SameBut d s.heap p->Q () { s with heap:=p }) (ac:j.length+more.length<=sizeLine) :
  wpAny (model g w) A (Builtin.Dict.mergeDict nm d o) Q E s:=by
 obtain⟨od,X,W,m,Z,f,I,ah,ai⟩:=id hd;obtain⟨oo,a,af,n,ag,c,v,G,S⟩:=id ho;unfold Builtin.Dict.mergeDict;rw[aM (by simpa using r)];unfold Builtin.Dict.showsAll;rw[aM (by rw[ab];exact aY)];refine aB (aE ?_);refine aB (fF n c ?_);have k:more.length=a.size:=(size_of_entries v).symm;have D:wpAny (model g w) A (do
   let F <- dictEpoch o;let l <- dictEntries o
   forIn [:l.size] PUnit.unit λi (_:PUnit)=>(do
     let l' <- dictEntries o
     match l'[i]? with
      | some e=>do
       holding [e.key,e.val] (dictSetHashed d e.key e.hash e.val)
       let V <- dictEpoch o
       if (V != F)=true then do
         (unsupported (toString nm++toString ":source-changed-during-callback"):Sem PUnit)
         pure (ForInStep.yield PUnit.unit)
        else pure (ForInStep.yield PUnit.unit)
      | _=>do
       (unsupported "internal:dict-merge" : Sem PUnit)
       pure (ForInStep.yield PUnit.unit):Sem (ForInStep PUnit))
   pure ()) Q E s:=by
  refine aB (jI n c ?_);refine aB (fF n c ?_);refine aB ?_;rw[Std.Legacy.Range.forIn_eq_forIn_range'];simp only[Std.Legacy.Range.size,Nat.sub_zero,Nat.add_sub_cancel,Nat.div_one];refine wpAny_forIn_list _
   (λrest _ s'=>∃ p i,s'={ s with heap:=p }/\rest=List.range' i (a.size-i)/\i<=a.size/\p.DictOfH (oA g w) d (sM j (more.take i))/\p.get? o=some oo/\Heap.SameBut d s.heap p)
   _ ?_ ?_ _ _ ⟨s.heap,0,rfl,by simp,dF _,by simpa [sM] using hd,n,Heap.SameBut.refl _ _⟩
  .rintro x rest b s' ⟨p,i,rfl,K,hi,u,q,y⟩;have R:i<a.size:=by
    rcases lF i a.size with h | h
    .exact h
    .rw[Nat.sub_eq_zero_of_le h] at K;simp at K
   obtain⟨rfl,L⟩:x=i/\rest=List.range' (i+1) (a.size-(i+1)):=by
    have e:a.size-i=(a.size-(i+1))+1:=by omega
    rw[e,List.range'_succ] at K;injection K with h1 h2;exact⟨h1,h2⟩
   refine aB (fF q c ?_);obtain⟨B,H⟩:∃ B,more[x]?=some B:=⟨more[x]'(by rw[k];exact R),aH _⟩;rw[entry_at v x,H];show wpAny _ _ (holding [Value.ref B.2.1,B.2.2] (dictSetHashed d (.ref B.2.1) ((oA g w).hash B.1) B.2.2) >>= _) _ _ _;have U:(sM j (more.take x)).length<=sizeLine:=by
    have e1:=U0 (more.take x) j;have e2:(more.take x).length<=more.length:=by rw[bS];omega
    omega
   refine aB (bY (JM hu ((oA g w).keeps (G B (aL H)) m f y) u (λM N z=>?_) U));have t:M.get? o=some oo:=(z.2 o (eI r)).trans q;refine aB (jI t c ?_);rw[aM (by simp)];exact aE ⟨M,x+1,rfl,L,R,by rw[HN H];exact N,t,y.trans z⟩
  .rintro b s' ⟨p,i,rfl,K,hi,u,q,y⟩;have J:i=a.size:=by
    rcases lF i a.size with h | h
    .have e:a.size-i=(a.size-(i+1))+1:=by omega
     rw[e,List.range'_succ] at K;exact nomatch K
    .exact kW hi h
   refine aE (C p ?_ y);rw[J,<- k,dD] at u;exact u
 dsimp only;split
 .refine aB (fF m f ?_);split
  .rename_i O
   have P:j=[]:=by
    have Y:X=#[]:=Array.isEmpty_iff.mp O;have:=size_of_entries I;rw[Y] at this;exact jR.mp (by simpa using this.symm)
   subst P;refine aB (PP n c v G hH ?_);rw[Ro more [] (by simpa using S)] at C;split
   .have ae:a.size<=sizeLine+1:=by
     simp only[fU,Nat.zero_add] at ac;omega
    refine aB (wpAny_updateDictKeysTo m f (aE (C _ ⟨_,_,W+1,fH _ m (lA (iT f _)),Z.mapDictKeys _,iT f _,v,λx hx=>(oA g w).keeps (G x hx) m f (cT ..),S⟩ (cT ..))) ae)
   .rename_i aa
    have Y:a=#[]:=Array.isEmpty_iff.mp (by simpa using aa);have T:more=[]:=jR.mp (by rw[k,Y];rfl);subst T;exact aE (C _ hd (Heap.SameBut.refl _ _))
  .exact D
 .exact D
theorem NB (d o:Ad) (p:d≠o) (r:(o == sysModules)=false) :
  MeetsIn g w (Builtin.«dict.update» ⟨[.ref d,.ref o],[]⟩) (λA R s=>(oA g w).room A.in1/\∃ j more,s.heap.DictOfH (oA g w) d j/\s.heap.DictOfH (oA g w) o more/\(more.map λx=>(oA g w).hash x.1).Nodup/\j.length+more.length<=sizeLine /\ ∀ l,l.DictOfH (oA g w) d (sM j more)->Heap.SameBut d s.heap l->R (.ok (.ret .none)) { s with heap:=l }) :=
 .of_wp λA R s f=>by
  obtain⟨k,j,more,hd,a,i,e,h⟩:=f;unfold Builtin.«dict.update»;refine aB ?_;unfold Builtin.Dict.selfAndRest;refine aB (iM hd.typeIs ?_);show wpAny _ _ (pure (d,[Value.ref o])) _ _ s;refine aE ?_;show wpAny _ _ (Builtin.Dict.updateFrom "dict.update" d (.ref o) [] .none) _ _ s;unfold Builtin.Dict.updateFrom;refine aB (fC a.typeIs ?_);rw[aM (by decide)];refine aB ?_;unfold Builtin.Dict.merge;refine aB ?_
  .unfold Builtin.Dict.readDirectly;refine aB (dO a.typeIs isSubtype_dict_dict ?_);simp only[Bool.not_true,dZ,fY];refine aB (jH a.typeIs F.slot_dict_iter.lookup (aE ?_));simp only[iU,gA];refine aB (aE ?_);refine AJ k p r hd a i (λl b c=>?_) e;show wpAny _ _ (Builtin.Dict.addKeywords d [] >>= _) _ _ _;exact aB (aE (aE ⟨.none,rfl,h l b c⟩))
end
end PySem
namespace L2
open PySem PySem.Spec PyProof.Rows Lw
def Dx (g:Aa Int):Int:=reduceHash (Builtin.Tuple.tupleHashOf (g.map hashInt))
theorem QV {P:Ah}(g:Aa Int):(oA P w).hash (g.map Sum.inl)=Dx g:=by
 show reduceHash (Builtin.Tuple.tupleHashOf ((g.map (Sum.inl:Int->dT)).map (T8 w)))=_;rw[aJ];rfl
def sJ {j:Type}(put:Aa (Aa dT×j)->Aa dT->j->Aa (Aa dT×j)) (g l:Aa (Aa dT×j)):Aa (Aa dT×j):=l.foldl (λg m=>put g m.1 m.2) g
theorem Tu:∀ (j g:Aa (Aa dT×V)),(sJ nR g j).length<=g.length+j.length
 | [],g=>by simp[sJ]
 | m::j,g=>by
  have a:=Tu j (nR g m.1 m.2);have b:=Eb g m.1 m.2;show (sJ nR (nR g m.1 m.2) j).length<=_;rw[bQ];omega
theorem KT.merge:∀ {more:Aa (Aa dT×V)}{l:Aa (Aa dT×Ad×Ac)}{g:Aa (Aa dT×V)}{j:Aa (Aa dT×Ad×Ac)},KT H more l->KT H g j->KT H (sJ nR g more) (sM j l):=by
 intro more l g j h;induction h generalizing g j with
 | nil=>exact λr=>r
 | @cons p q e f h t d =>
  intro r;obtain⟨a,b,c⟩:=h;show KT H (sJ nR (nR g p.1 p.2) e) (sM (storedH j q.1 q.2.1 q.2.2) f);rw[<- a];exact d (r.put p.1 b c)
theorem KT.keys (h:KT H more g):g.map (·.1)=more.map (·.1):=by
 induction h with
 | nil=>rfl
 | @cons p q b c h t a=>rw[aK,aK,a,h.1]
def We:RM:=λx f H Q=>∃ (a b:Ad) (c more:Aa (Aa dT×V)) (d:Aa (Aa Int)),x = .ref a/\f=[.ref b]/\a≠b/\H a=some (.T c)/\Rd H b (.T more)/\more.map (·.1)=d.map (λk=>k.map Sum.inl)/\(d.map Dx).Nodup/\c.length+more.length<=1000/\Q .e (upd H a (.T (sJ nR c more)))
section
variable {X:Cx}{K:mH}
theorem QG (g:X.A.units+1<cLine):xN X "dict.update" We:=by
 intro E s σ H x xs v us Q I r p h;obtain⟨a,b,d,more,Z,rfl,rfl,ne,y,W,Y,V,hz,q⟩:=h;cases r;obtain⟨u,rfl,l⟩:=qC p;cases l;obtain⟨za,C,i,G,D⟩:=R6 I.hok y;obtain⟨zb,J,f,B,O⟩:=zA I.hok W;have la:d.length=i.length:=eU G;have lb:more.length=f.length:=eU B;have n:i.length+f.length<=sizeLine:=bN (show _<=1000 by omega) (by decide);have t:(f.map λx=>(oA X.prog X.w).hash x.1).Nodup:=by
  have:(f.map λx=>(oA X.prog X.w).hash x.1)=Z.map Dx:=by
   have e:(f.map λx=>(oA X.prog X.w).hash x.1)=(f.map (·.1)).map (oA X.prog X.w).hash:=by rw[aJ];rfl
   rw[e,B.keys,Y,aJ];exact bV λk _=>QV k
  rw[this];exact V
 refine call_meetsIn F.slot_dict_update D.typeIs F.entry_dict_update (F.args_dict_update_2 _ _) (NB a b ne J) ⟨gF g,i,f,D,O,t,n,λS d1 sm=>?_⟩;have U:(sJ nR d more).length<=sizeLine:=by
  have:=Tu more d;exact bN (show (sJ nR d more).length<=1000 by omega) (by decide)
 have there:∃ o,S.get? a=some o:=let ⟨o,_,_,e,_⟩:=d1;⟨o,e⟩;refine⟨.e,_,Hn (ob:=.T (sJ nR d more)) I (by rw[y];exact True.intro) sm there ⟨U,C,sM i f,(B.merge G).keeps λc ys m=>?_,?_⟩,rfl,q⟩
 .rw[mQ]
  .exact m
  .intro z;subst z;rw[y] at m;cases m
 .obtain⟨j,R,P,d1,d2,L,M,_,N⟩:=d1;exact⟨j,R,P,d1,d2,L,M,N⟩
def DW:OW:=λc f h=>match c,f with
 | .T d,[.T a]=>∃ b:Aa (Aa Int),a.map (·.1)=b.map (λk=>k.map Sum.inl)/\(b.map Dx).Nodup/\d.length+a.length<=1000/\h .e (.T (sJ nD d a))
 | _,_=>False
theorem Tj:∀ {more:Aa (Aa dT×D)}{mv:Aa (Aa dT×V)}{g:Aa (Aa dT×D)}{l:Aa (Aa dT×V)},more.map (·.1)=mv.map (·.1)->Reps K A H (more.map (·.2)) (mv.map (·.2))->g.map (·.1)=l.map (·.1)->Reps K A H (g.map (·.2)) (l.map (·.2)) ->
  (sJ nD g more).map (·.1)=(sJ nR l mv).map (·.1)/\Reps K A H ((sJ nD g more).map (·.2)) ((sJ nR l mv).map (·.2))
 | [],[],_,_,_,_,e,r=>⟨e,r⟩
 | [],_::_,_,_,e,_,_,_=>by simp at e
 | _::_,[],_,_,e,_,_,_=>by simp at e
 | (k,d)::more,(j,v)::mv,g,l,a,b,e,r=>by
  simp only[aK,fW] at a;obtain⟨rfl,a⟩:=a;cases b with
  | cons h b =>
   obtain⟨c,f⟩:=C1 e r (k:=k) h;exact Tj (more:=more) (mv:=mv) a b c f
theorem MJ:zM K We DW:=by
 intro A H a c M O P Q y G rd f k;cases c<;>first | exact False.elim f | skip
 cases rd with
 | nil=>exact False.elim f
 | cons E rd =>
 rename_i d _ _ _
 cases d<;>first | exact False.elim f | skip
 cases rd with
 | cons _ _=>exact False.elim f
 | nil =>
 .obtain⟨m,h,e,r⟩:=G
  .obtain⟨b,n,rfl,t,s,i,F⟩:=E.dT_inv;obtain⟨v,f1,f2,N,q⟩:=f;have w:=cC List.length e;have x:=cC List.length i;simp only[aA] at w x;refine⟨a,b,m,n,v,rfl,rfl,λz=>y (z▸t),h,s,by rw[<- i];exact f1,f2,by omega,k _ _ _ _ q .e λL u=>?_⟩;obtain⟨B,D⟩:=Tj i F e r;exact⟨_,mZ,B,D.mono u⟩
end
section
variable {X:Cx}{K:mH}{id:String}
def Uj (f:OW) (i:Nat) (g:tY):nF:=λh b m=>(match b[i]? with | some (.o (.T _))=>True | _=>False)/\g h b λas a=>match a[i]?,wW as with
 | some (.o c),some k=>f c k λd e=>m (.v d) (a.set i (.o e))
 | _,_=>False
theorem Zg {f:OW}(U:zM X.K r f){g:St}{H:Hp}{Q:VK}(h:dE X.K (Uj f i ta) g H Q):pT i g H λx l=>Ed X.K "dict" x l/\dA X.K ta g l λxs j=>r x xs j Q:=by
 obtain⟨B,C,Tm,Φ,Y,hd,⟨t,ht⟩,k⟩:=h;cases G:C[i]? with
 | none=>rw[G] at t;exact t.elim
 | some s0 =>
  rw[G] at t;cases s0<;>first | exact t.elim | skip
  rename_i I
  cases I<;>first | exact t.elim | skip
  obtain⟨x',q,⟨D,px,_⟩,_⟩:=hd.slotW Y G;obtain⟨x,S⟩:∃ x,x=V.ref x':=⟨_,rfl⟩;rw[<- S] at q;refine⟨x,q,by rw[S];exact .inr (.inr (.inl ⟨rfl,.inr ⟨D,px⟩⟩)),B,C,Tm,_,Y,hd,ht,λas e vs j E ok d2 b=>?_⟩;cases m:e[i]? with
  | none=>rw[m] at b;exact b.elim
  | some s =>
   cases s with
   | n=>rw[m] at b;exact b.elim
   | v c=>rw[m] at b;exact b.elim
   | o c =>
    cases L:wW as with
    | none=>rw[m,L] at b;exact b.elim
    | some R =>
     rw[m,L] at b;have P:=d2.temps ok R L;have J:=d2.rmArgs;obtain⟨a,W,p,wr⟩:=J.slotW E m;rw[q] at W;cases W;obtain⟨u,hu,tu⟩:=p.some;have Z:¬ Al B (hI (e.zip g++Tm)) a:=λz=>z.2.1 (by
      obtain⟨l1,y,O,A,_,M,_⟩:=vJ E m;rw[q] at A;cases A;rw[M,bJ,cQ,rK];exact aN _ aF)
     refine U _ j a c R vs _ Q Z p P b λd v o F N rd hr=>k _ _ v _ (by rw[bO];exact E) ?_ N
     refine (wr o F hr).push ?_;have T:hI ((e.set i (.o F)).zip g++Tm)=hI (e.zip g++Tm):=by
      obtain⟨l1,y,O,A,_,M,w⟩:=vJ E m;rw[q] at A;cases A;have:=w (.o F) (some (.ref a));rw[A4 q] at this;rw[this,M,bJ,bJ,cQ,cQ,rK,rK];rfl
     rw[T];exact rd.mono (.write hu tu Z)
theorem AM {f:OW}(U:PlainAttrs "dict") (slot:Slot "dict" name id) (j:typeOf (.builtin id)=pure (.type "method_descriptor")) (J:xN X id r) (I:zM X.K r f) (T:PE X o (pT i)) (p:tG X (e::l) ta)
  (C:MtB X o name apos e l g:=by exact {}) :
  PD X (.Call (.Attribute o name apos) (e::l) [] g) (Uj f i ta):=(Bx U slot j J T p C).mono λ_ _ _ h=>Zg I h
end
end L2
namespace Lw
open PySem L2
def Mc:RD:=λc a b=>∃ n:Nat,a=[.int n]/\n<=1000/\b (.v (.l ((List.range n).map λi=>D.int (2 ^ i))))
section
variable {P:Ah}{K:mH}
theorem Fi:FnScope ["count","found","worth","place"] ["count"] (nA Df):=oB
theorem DY (T:Txt g):nZ P w K g base 1 "place_worths" Df ["count"] Mc:=by
 refine oK Fi λf k A e s H E t u G B F m=>?_
 obtain⟨n,rfl,z,d⟩:=m;refine⟨_,(hO (mY 1 Fi.nd (oW gD)) (hO (mY 2 Fi.nd hL) (hO (qO (A8 (by rfl) T.range (dK 0)) (mO 3 Fi.nd) (hO (rP (sZ bT bZ cA tX uY (pv 1) (aD (dK 2) gD))) (mW (mY 2 Fi.nd (uJ xM xB 2 hL))))) (mW (nH (dK 1)))))),?_⟩;refine⟨by show 0<=1000;decide,?_⟩;dsimp only;refine mJ (λb=>b=[.v (.int n),.o (.l []),.v (.int 1),.n]) (λN c=>c _ rfl) ?_;rintro _ rfl;refine mJ (λb=>∃ a:Sl,b=[.v (.int n),.o (.l ((List.range n).map λi=>D.int (2 ^ i))),.v (.int (2 ^ n)),a]) (λN c=>?_) ?_
 .refine qH (rH 0 n) [.v (.int n),.o (.l []),.v (.int 1),.n] (λL h=>⟨by omega,by omega,h⟩) (λi b=>∃ a:Sl,b=[.v (.int n),.o (.l ((List.range i).map λi=>D.int (2 ^ i))),.v (.int (2 ^ i)),a]) ⟨.n,rfl⟩ ?_ ?_
  .rintro i x b q ⟨a,rfl⟩;obtain⟨y,rfl⟩:=Iu q;refine⟨rfl,by show ((List.range i).map λi=>D.int (2 ^ i)).length<100000;rw[aA,cP];omega,rfl,.inr ⟨by decide,by decide⟩,.v (.int (0+(i:Int))),?_⟩;rw[kX,aQ];rfl
  .rintro b ⟨a,rfl⟩;have:(rH 0 n).length=n:=by simp[rH]
   rw[this];exact c _ ⟨a,rfl⟩
 rintro _ ⟨a,rfl⟩;exact d
end
theorem DQ:(["bits","steps"]:Aa Af).Nodup:=by decide +kernel
theorem QL:(["carried","table","choices"]:Aa Af).Nodup:=by decide +kernel
theorem EK:(["bits","at","bit"]:Aa Af).Nodup:=by decide +kernel
theorem GR:∀ n,n<=6->((mI n).map Dx).Nodup
 | 0,_=>by decide +kernel
 | 1,_=>by decide +kernel
 | 2,_=>by decide +kernel
 | 3,_=>by decide +kernel
 | 4,_=>by decide +kernel
 | 5,_=>by decide +kernel
 | 6,_=>by decide +kernel
 | n+7,h=>absurd h (by omega)
abbrev lB (g:Aa (Aa Int)):D:=.l (g.map mR)
def yC (C:Cel) (g:Aa (Af×Af)) (t:mL) (j:Aa (Aa Int)) (c:Aa Int):Bool:=j.any λl=>!decide (zL C g t c l=0)
def tA (C:Cel) (g:Aa (Af×Af)) (j o:Aa (Aa Int)):Aa (Aa Int):=j.flatMap λc=>o.map λl=>pY C g c l
theorem vV:x∈tA C g j o↔∃ c∈j,∃ l∈o,pY C g c l=x:=by
 unfold tA;rw[List.mem_flatMap];exact exists_congr λc=>and_congr_right λ_=>aI
def wK (C:Cel) (l:Aa (Af×Af)) (j:Aa (Aa Int)) (g:Aa (Aa (Aa Int))):Aa (Aa Int):=g.foldl (λj a=>tA C l j a) j
def pP (C:Cel) (j:Aa (Af×Af)) (t:mL) (c:Aa Int) (g:Aa (Aa (Aa Int))):Bool:=(wK C j [c] g.dropLast).any (yC C j t (g.getLastD []))
abbrev rO (C:Cel) (g:Aa (Af×Af)) (j:Aa (Aa Int)):Prop:=j.length<=64/\∀ l∈j,l∈mI (wIns C g).length
abbrev Be (g:Aa (Af×Af)) (j:Aa (Aa Int)):Prop:=j.length<=64/\∀ c∈j,c∈mI g.length
def Sg:RD:=λh e f=>∃ (C:Cel) (a:Aa (Af×Af)) (t:mL) (c:Aa Int) (d:Aa (Aa Int)),e=[sP C a t c,lB d]/\rO C a d/\f (.v (.b (yC C a t d c)))
def Oo:RD:=λh e f=>∃ (C:Cel) (a:Aa (Af×Af)) (t:mL) (c d:Aa (Aa Int)),e=[pR C a t,lB c,lB d]/\Be a c/\rO C a d/\f (.v (.b (c.any (yC C a t d))))
def Hx:RD:=λh e f=>∃ (C:Cel) (a:Aa (Af×Af)) (t:mL) (c d:Aa (Aa Int)),e=[pR C a t,lB c,lB d]/\RwOk C a/\Be a c/\rO C a d/\∀ b:Aa (Aa Int),b.Nodup->(∀ x,x∈b↔x∈tA C a c d)->Be a b->f (.o (lB b))
def Oe:RD:=λi d h=>∃ (C:Cel) (c:Aa (Af×Af)) (t:mL) (e:Aa Int) (a:Aa (Aa (Aa Int))),d=[pR C c t,mR e,.l (a.map lB)]/\RwOk C c/\e∈mI c.length/\a≠[]/\a.length<=64/\(∀ f∈a,rO C c f)/\h (.v (.b (pP C c t e a)))
def sF (i:Nat) (b:Int) (g:Aa (Aa Int)):Aa (Aa Int):=g.filter λl=>decide (l.getD i 0=b)
def M7:RD:=λe c d=>∃ (a:Aa (Aa Int)) (i:Nat) (b:Int),c=[lB a,.int i,.int b]/\a.length<=64/\(∀ l∈a,i<l.length)/\d (.o (lB (sF i b a)))
def vR (i:Nat) (g:Aa (Aa (Aa Int))):Int:=(((List.range g.length).zip g).map λp=>2 ^ p.1*(p.2.headD []).getD i 0).sum
def Yh:RD:=λe b d=>∃ (a:Aa (Aa (Aa Int))) (i:Nat),b=[.l (a.map lB),.int i]/\a.length<=64/\(∀ c∈a,∃ l r,c=l::r/\i<l.length/\nL (l.getD i 0))/\d (.v (.int (vR i a)))
section
variable {P:Ah}{K:mH}
theorem CZ:FnScope ["steps","choices"] ["steps","choices"] (nA Jb):=oB
theorem WB:FnScope ["table","states","choices"] ["table","states","choices"] (nA Ff):=oB
theorem Hh:FnScope ["table","states","choices","found","carried","bits"] ["table","states","choices"] (nA Fa):=oB
theorem Ju:FnScope ["table","edges","choices","states","place"] ["table","edges","choices"] (nA Dg):=oB
theorem FD:FnScope ["choices","at","bit"] ["choices","at","bit"] (nA Gx):=oB
theorem JK (T:Txt g):nZ P w K g base 1 "has_break" Jb ["steps","choices"] Sg:=by
 refine oK CZ λf n A k s H E G L N B m y=>?_
 obtain⟨C,a,t,c,i,rfl,⟨x,z⟩,d⟩:=y;refine⟨_,(mW (nH (oM (Yv rfl) O8 T.any PyProof.Rows.boot_any (aD (nY ["bits"] ["steps"] [0] (nE (dK 1)) (λ_ _ _ _ _=>(mO 0 DQ)) (λ_ _ _ _ _=>(B1 (wT B.units) (rN true) (sG m (mP m 1 (dK 0)) hL) hL))) gD)))),?_⟩;unfold qM dC aC;refine oN i mR (λl=>D.b (!decide (zL C a t c l=0))) [.v (sP C a t c),.v (lB i)] (λO h=>h) (by omega) (λj l M F e q u=>?_) ?_
 .exact⟨rfl,_,Bp (zF C a t c) (z l (aL e)),_,rfl,q,u⟩
 .refine⟨i.map λl=>!decide (zL C a t c l=0),?_,?_⟩
  .rw[<- zN,aJ];rfl
  .rw[lE];exact d
theorem SR (T:Txt l) (g:Kn P w K l base 1 "has_break" Jb ["steps","choices"] Sg):nZ P w K l base 2 "is_broken_by" Ff ["table","states","choices"] Oo:=by
 refine oK WB λf n A m s H E M N Q F G y=>?_
 obtain⟨C,a,t,i,d,rfl,⟨x,z⟩,B,k⟩:=y;refine⟨_,(mW (nH (oM (Yv rfl) O8 T.any PyProof.Rows.boot_any (aD (nY ["carried"] ["table","choices"] [0,2] (nE (dK 1)) (λ_ _ _ _ _=>(mO 0 QL)) (λ_ _ _ _ _=>(mT g F (aD (mP G 1 (dK 0)) (aD (dK 2) gD))))) gD)))),?_⟩;unfold qM dC aC;refine oN i mR (λc=>D.b (yC C a t d c)) [.v (pR C a t),.v (lB i),.v (lB d)] (λR h=>h) (by omega) (λj c O L e q u=>?_) ?_
 .exact⟨rfl,_,Bp (sP C a t) (z c (aL e)),C,a,t,c,d,rfl,B,.inl rfl,q,u⟩
 .refine⟨i.map (yC C a t d),?_,?_⟩
  .rw[<- zN,aJ];rfl
  .rw[lE];exact k
theorem Zs (T:Txt g):nZ P w K g base 1 "with_bit" Gx ["choices","at","bit"] M7:=by
 refine oK FD λf m A c s H E M N Q F G z=>?_
 obtain⟨k,i,b,rfl,y,B,a⟩:=z;refine⟨_,(mW (nH (nY (ht:=λ_ _ _ _ _=>(vP (xD (xZ F.units) (rN false) (mP G 0 (dK 1)) (dK 2)))) ["bits"] ["at","bit"] [1,2] (nE (dK 0)) (λ_ _ _ _ _=>(mO 0 EK)) (λ_ _ _ _ _=>(dK 0))))),?_⟩;unfold qM;refine vA k mR mR (λl=>decide (l.getD i 0=b)) [.v (lB k),.v (.int i),.v (.int b)] (λR h=>h) (by omega) (λj l O L e t u x=>?_) a;have d:=B l (aL e);have n:(l.map D.int)[i]?=some (D.int (l.getD i 0)):=by
  rw[bC,aH d,cX,aH d];rfl
 refine⟨rfl,D.int (l.getD i 0),?_,?_⟩
 .exact pB n
 .show if decide (l.getD i 0=b)=true then _ else _
  by_cases q:l.getD i 0=b
  .rw[bE q];exact (aR rfl).mpr ⟨t,u (bE q)⟩
  .rw[bG q];exact (aM aY).mpr (x (bG q))
theorem N9 (g:Aa (Aa Int)) (x:Aa Int):nD (g.map λk=>(k.map (Sum.inl:Int->dT),D.b true)) (x.map Sum.inl) (.b true)=(if x∈g then g else g++[x]).map λk=>(k.map (Sum.inl:Int->dT),D.b true):=by
 by_cases h:x∈g
 .rw[aR h];unfold nD;rw[aR (bW.mpr ⟨_,aI.mpr ⟨x,h,rfl⟩,by simp⟩),aJ];refine bV λk _=>?_
  show (if k.map Sum.inl=x.map Sum.inl then (k.map Sum.inl,D.b true) else (k.map Sum.inl,D.b true))=_;split<;>rfl
 .rw[aM h,Ia]
  .rw[aQ];rfl
  .intro z;rw[aJ] at z;obtain⟨k,a,e⟩:=aI.mp z;rw[<- zT e] at h;exact h a
abbrev G6 (C:Cel) (g:Aa (Af×Af)) (t:mL) (j l p:Aa (Aa Int)) (r I:Sl):Aa Sl:=[.v (pR C g t),.v (lB j),.v (lB l),.o (.T (p.map λk=>(k.map (Sum.inl:Int->dT),D.b true))),r,I]
theorem FK (T:Txt mg):nZ P w K mg base 1 "carried_on" Fa ["table","states","choices"] Hx:=by
 refine oK Hh λf ab A U s H E dk ds Φ hr g hR=>?_
 obtain⟨C,d,t,O,M,rfl,Y,⟨aa,I⟩,⟨ae,Z⟩,J⟩:=hR;refine⟨_,(hO (mY 3 Hh.nd Ha) (hO (qO (nE (dK 1)) (mO 4 Hh.nd) (mW (qO (nE (dK 2)) (mO 5 Hh.nd) (mW (wH (n:=3) g sL (pv 3) (sG g (sG g (mP g 0 (dK 4)) (dK 5)) hL)))))) (mW (nH (pN (HJ rfl) UX T.list jY (Av (pv 3) gD)))))),?_⟩;have af:=wC Y.lp;have ac:=uL d.length;have S:∀ m:Aa (Aa Int),m.Nodup->(∀ x∈m,x∈mI d.length)->m.length<=64:=λm h1 h2=>by
  have:=Bf h1 h2;omega
 refine mJ (λF=>F=G6 C d t O M [] .n .n) (λN r=>r _ rfl) ?_;rintro _ rfl;refine mJ (λF=>∃ m R z,m.Nodup/\(∀ x,x∈m↔x∈tA C d O M)/\F=G6 C d t O M m R z) (λN r=>?_) ?_
 .refine qH (O.map mR) _ (λΨ h=>h) (λi F=>∃ m R z,m.Nodup/\(∀ x,x∈m↔x∈tA C d (O.take i) M)/\F=G6 C d t O M m R z) ⟨[],.n,.n,fE,λx=>by simp[tA],rfl⟩ ?_ ?_
  .rintro i x F L ⟨m,R,z,B,y,rfl⟩;obtain⟨c,V,rfl⟩:=tI L;have cm:=I c (aL V);refine qH (M.map mR) _ (λΨ h=>h) (λj F=>∃ m z,m.Nodup/\(∀ x,x∈m↔x∈tA C d (O.take i) M\/∃ l∈M.take j,pY C d c l=x)/\F=G6 C d t O M m (.v (mR c)) z) ⟨m,z,B,λx=>by rw[y];simp,rfl⟩ ?_ ?_
   .rintro j x F L ⟨m,z,B,y,rfl⟩;obtain⟨l,W,rfl⟩:=tI L;have lm:=Z l (aL W);have all:∀ x∈m,x∈mI d.length:=λx L=>by
     rcases (y x).mp L with h | ⟨G,u,rfl⟩
     .obtain⟨p,Q,G,u,rfl⟩:=vV.mp h;exact Ie Y (I p (gW Q)) (Z G u)
     .exact Ie Y cm (Z G (gW u))
    have X:=S m B all;refine⟨rfl,rfl,_,Bp (sP C d t) cm,_,Bp (zF C d t c) lm,_,rfl,.T ((if pY C d c l∈m then m else m++[pY C d c l]).map λk=>(k.map (Sum.inl:Int->dT),D.b true)),?_,?_⟩
    .show (if _<100000 then (uT ((pY C d c l).map D.int)).map _ else none)=_;rw[aR (by rw[aA];omega),El,gS,N9]
    .refine⟨_,.v (mR l),?_,λx=>?_,rfl⟩
     .by_cases h:pY C d c l∈m
      .rw[aR h];exact B
      .rw[aM h];exact bD.mpr ⟨B,by simp,λa ha b hb e=>h (by rw[aV.mp hb] at e;exact e▸ha)⟩
     .have L:x∈(if pY C d c l∈m then m else m++[pY C d c l])↔x∈m\/pY C d c l=x:=by
       by_cases h:pY C d c l∈m
       .rw[aR h];exact⟨.inl,λq=>q.elim id λq=>q▸h⟩
       .rw[aM h,aU,aV];exact or_congr_right eq_comm
      rw[L,y,bR,W,or_assoc];refine or_congr_right ⟨λq=>?_,λ⟨G,u,q⟩=>?_⟩
      .rcases q with⟨G,u,q⟩ | q
       .exact⟨G,aU.mpr (.inl u),q⟩
       .exact⟨l,by simp,q⟩
      .rcases aU.mp u with h | h
       .exact .inl ⟨G,h,q⟩
       .have:G=l:=by simpa using h
        exact .inr (this▸q)
   .rintro F ⟨m,z,B,y,rfl⟩;rw[aA,dD] at y;refine⟨m,_,z,B,λx=>?_,rfl⟩;rw[y,bR,V];unfold tA;simp
  .rintro F ⟨m,R,z,B,y,rfl⟩;rw[aA,dD] at y;exact r _ ⟨m,R,z,B,y,rfl⟩
 rintro _ ⟨m,R,z,B,y,rfl⟩;have all:∀ x∈m,x∈mI d.length:=λx L=>by
  obtain⟨p,Q,G,u,rfl⟩:=vV.mp ((y x).mp L);exact Ie Y (I p Q) (Z G u)
 have X:=S m B all;refine⟨rfl,?_⟩;show _/\Φ (.o (.l (tE _)));rw[My];exact⟨by rw[aA];omega,J m B y ⟨X,all⟩⟩
theorem Q2 (l:Aa (Aa Int)) (g:Aa (Aa (Aa Int))) (o:Aa (Aa Int)):wK C j l (g++[o])=tA C j (wK C j l g) o:=by
 unfold wK;rw[jV];rfl
theorem QR (h:∀ x,x∈as↔x∈bs) (x:Aa Int):x∈tA C g as j↔x∈tA C g bs j:=by
 rw[vV,vV];exact exists_congr λc=>and_congr_left λ_=>h c
theorem IW {as bs:Aa (Aa Int)}(h:∀ x,x∈as↔x∈bs) (f:Aa Int->Bool):as.any f=bs.any f:=by
 rw[gR,bW,bW];exact exists_congr λc=>and_congr_left λ_=>h c
abbrev Kr (C:Cel) (j:Aa (Af×Af)) (t:mL) (e:Aa Int) (g:Aa (Aa (Aa Int))) (p:Aa (Aa Int)) (r:Sl):Aa Sl:=[.v (pR C j t),.v (mR e),.v (.l (g.map lB)),.o (lB p),r]
theorem OT (T:Txt o) (j:Kn P w K o base 1 "carried_on" Fa ["table","states","choices"] Hx) (g:Kn P w K o base 2 "is_broken_by" Ff ["table","states","choices"] Oo):nZ P w K o base 3 "can_break" Dg ["table","edges","choices"] Oe:=by
 refine oK Ju λf R A F s H E dk ds Φ O Q W=>?_
 obtain⟨C,b,t,e,a,rfl,V,Y,k,S,L,m⟩:=W;refine⟨_,(hO (mY 3 Ju.nd (oW (aD (dK 1) gD))) (hO (qO (A8 (by rfl) T.range (oE xR yP (oM sH rX T.len cG (aD (dK 2) gD)) hL)) (mO 4 Ju.nd) (mW (mY 3 Ju.nd (mT j O (aD (dK 0) (aD (dK 3) (aD (mP Q 2 (dK 4)) gD))))))) (mW (nH (mT g O (aD (dK 0) (aD (dK 3) (aD (mP Q 2 (Kf hL)) gD)))))))),?_⟩;refine mJ (λu=>u=Kr C b t e a [e] .n) (λN D=>?_) ?_
 .exact⟨by show 1<=1000;decide,D _ rfl⟩
 rintro _ rfl;have M:=hX.mpr k;refine mJ (λu=>∃ d q,(∀ x,x∈d↔x∈wK C b [e] a.dropLast)/\Be b d/\u=Kr C b t e a d q) (λN D=>?_) ?_
 .refine qH (rH 0 (a.length-1)) _ (λU h=>?_) (λi u=>∃ d q,(∀ x,x∈d↔x∈wK C b [e] (a.take i))/\Be b d/\u=Kr C b t e a d q) ⟨[e],.n,λx=>by simp[wK],⟨by show 1<=64;decide,λc X=>by rw[aV.mp X];exact Y⟩,rfl⟩ ?_ ?_
  .refine⟨rfl,_,rfl,?_⟩;have B:(((a.map lB).length:Nat):Int)=(a.length:Int):=by rw[aA]
   show -2 ^ 62<=(((a.map lB).length:Nat):Int)-1/\(((a.map lB).length:Nat):Int)-1<2 ^ 62/\U (rH 0 ((((a.map lB).length:Nat):Int)-1).toNat) _;rw[B,show ((a.length:Int)-1).toNat=a.length-1 by omega];exact⟨by omega,by omega,h⟩
  .rintro i x u r ⟨d,q,v,z,rfl⟩;obtain⟨hi,rfl⟩:=Iu r;have y:i<a.length:=by omega
   have ci:a[i]?=some a[i]:=aH y;refine⟨rfl,lB a[i],?_,C,b,t,d,a[i],rfl,V,z,L _ (cM y),λJ nd Z p=>⟨.inl rfl,J,_,λx=>?_,p,rfl⟩⟩
   .have B:(0:Int)+(i:Int)=((i:Nat):Int):=by omega
    show oV (a.map lB) (0+(i:Int))=_;rw[B];exact pB (by rw[bC,ci];rfl)
   .rw[Z,QR v,bR,ci];show _↔x∈wK C b [e] (a.take i++[a[i]]);rw[Q2]
  .rintro u ⟨d,q,v,z,rfl⟩;have I:(rH 0 (a.length-1)).length=a.length-1:=by unfold rH;simp
   rw[I,<- List.dropLast_eq_take] at v;exact D _ ⟨d,q,v,z,rfl⟩
 rintro _ ⟨d,q,v,z,rfl⟩;obtain⟨G,l,rfl⟩:∃ G l,a=G++[l]:=⟨a.dropLast,a.getLast k,(kY k).symm⟩;refine⟨rfl,lB l,?_,C,b,t,d,l,rfl,z,L l (by simp),.inl rfl,?_⟩
 .show oV ((G++[l]).map lB) (-1)=_;rw[aQ];exact Zx _ _
 .rw[IW v];unfold pP at m;rw[List.getLastD_concat] at m;exact m
theorem Ws:(["worth","left","at"]:Aa Af).Nodup:=by decide +kernel
theorem MA:FnScope ["choices","at"] ["choices","at"] (nA Hk):=oB
theorem VA (T:Txt o) (g:Kn P w K o base 1 "place_worths" Df ["count"] Mc):nZ P w K o base 2 "word_told" Hk ["choices","at"] Yh:=by
 refine oK MA λf x A c s H E R S W O u L=>?_
 obtain⟨a,i,rfl,G,M,b⟩:=L;refine⟨_,(mW (nH (oM (Fm rfl) Iz T.sum gI (aD (nY ["worth","left"] ["at"] [1] (N6 (by rfl) T.zip (aD (mT g O (aD (oM sH rX T.len cG (aD (dK 0) gD)) gD)) (aD (dK 0) gD))) (λ_ _ _ _ _=>(sR (n:=2) rfl (oJ (mO 0 Ws) (oJ (mO 1 Ws) sC)))) (λ_ _ _ _ _=>(uJ xM xB 0 (sG u (mP u 1 hL) (dK 2))))) gD)))),?_⟩;unfold qM dC aC;refine oN ((List.range a.length).zip a) (λp=>D.t [.int (2 ^ p.1),lB p.2]) (λp=>D.int (2 ^ p.1*(p.2.headD []).getD i 0)) [.v (.l (a.map lB)),.v (.int i)] (λX h=>?_) (by rw[iL,cP];omega) (λj p V Q e F m=>?_) ?_
 .refine⟨rfl,_,rfl,a.length,by rw[aA],by omega,.inl rfl,_,_,_,_,rfl,rfl,?_⟩;rw[Gs];exact h
 .have N:=fR (aL e);obtain⟨l,r,d,k,y⟩:=M p.2 N.2;have z:(p.2.headD []).getD i 0=l.getD i 0:=by rw[d];rfl
  have B:(l.map D.int)[i]?=some (D.int (l.getD i 0)):=by
   rw[bC,aH k,cX,aH k];rfl
  refine⟨rfl,rfl,rfl,rfl,mR l,?_,D.int (l.getD i 0),pB B,?_⟩
  .show oV (p.2.map mR) 0=_;rw[d];exact pB (j:=0) rfl
  .rw[z] at m;exact⟨.inr (by rcases y with q | q<;>rw[q]<;>exact⟨by omega,by omega⟩),F,m⟩
 .refine⟨((List.range a.length).zip a).map λp:Nat×Aa (Aa Int)=>2 ^ p.1*(p.2.headD []).getD i 0,?_,b⟩;rw[<- Iq,aJ];rfl
end
def vS (C:Cel) (l:Aa (Af×Af)) (t:mL) (e:Aa Int) (i:Nat) (g:Aa (Aa (Aa Int))) (st:Aa (Aa (Aa Int))) (j:Nat):Aa (Aa (Aa Int)) :=
 if pP C l t e (st.set j (sF i 0 (g.getD j [])))=true then st.set j (sF i 0 (g.getD j [])) else st.set j (sF i 1 (g.getD j []))
def tK (C:Cel) (j:Aa (Af×Af)) (t:mL) (e:Aa Int) (i:Nat) (g:Aa (Aa (Aa Int))):Nat->Aa (Aa (Aa Int))
 | 0=>g
 | n+1=>vS C j t e i g (tK C j t e i g n) (g.length-1-n)
def Dz (C:Cel) (j:Aa (Af×Af)) (t:mL) (e:Aa Int) (g:Aa (Aa (Aa Int))) (i:Nat):Aa (Aa (Aa Int)):=tK C j t e i g g.length
theorem BK {st:Aa (Aa (Aa Int))}:(vS C l t e i g st j).length=st.length:=by
 unfold vS;split<;>rw[bO]
theorem Na:∀ n,(tK C j t e i g n).length=g.length
 | 0=>rfl
 | n+1=>by unfold tK;rw[BK,Na n]
theorem QM (h:l∈sF i b g):l∈g:=(bM.mp h).1
theorem Kk (h:rO C g j):rO C g (sF i b j):=⟨bN (cB ..) h.1,λl a=>h.2 l (QM a)⟩
theorem Kw {st:Aa (Aa (Aa Int))}(h:∀ x∈st,rO C g x) (l:rO C g o):∀ x∈st.set j o,rO C g x:=λx a=>by
 rcases List.mem_or_eq_of_mem_set a with q | q
 .exact h x q
 .rw[q];exact l
theorem Wf {C:Cel}{o:Aa (Af×Af)}{g:Aa (Aa (Aa Int))}(h:∀ x∈g,rO C o x) (j:Nat):rO C o (g.getD j []):=by
 rw[cX];cases e:g[j]? with
 | none=>exact⟨by show 0<=64;decide,λl a=>(bH a).elim⟩
 | some x=>exact h x (aL e)
theorem Hv (h:∀ x∈j,rO C g x):∀ n,∀ x∈tK C g t e i j n,rO C g x
 | 0=>h
 | n+1=>by
  unfold tK vS;split
  .exact Kw (Hv h n) (Kk (Wf h _))
  .exact Kw (Hv h n) (Kk (Wf h _))
def Rk:RD:=λh c f=>∃ (C:Cel) (a:Aa (Af×Af)) (t:mL) (e:Aa Int) (b:Aa (Aa (Aa Int))) (i:Nat),c=[pR C a t,mR e,.l (b.map lB),.int i]/\RwOk C a/\e∈mI a.length/\b≠[]/\b.length<=64/\(∀ d∈b,rO C a d)/\i<(wIns C a).length/\f (.v (.l ((Dz C a t e b i).map lB)))
abbrev Ct (C:Cel) (j:Aa (Af×Af)) (t:mL) (e:Aa Int) (g:Aa (Aa (Aa Int))) (i:Nat) (st:Aa (Aa (Aa Int))) (p:Sl):Aa Sl:=[.v (pR C j t),.v (mR e),.v (.l (g.map lB)),.v (.int i),.o (.l (st.map lB)),p]
section
variable {P:Ah}{K:mH}
theorem Lp:FnScope ["table","edges","choices","at","settled","place"] ["table","edges","choices","at"] (nA J0):=oB
theorem TU {st:Aa (Aa (Aa Int))}(h:j<st.length) (g:Aa (Aa Int)):vU (.l (st.map lB)) (.int (j:Int)) (lB g)=some (.l ((st.set j g).map lB)):=by
 show (tQ (st.map lB).length (j:Int)).map _=_;have e:tQ (st.map lB).length (j:Int)=some j:=by
  unfold tQ;rw[aR (by omega),aA,cH,aR (by omega)]
 rw[e,gS,List.map_set]
theorem AC (T:Txt p) (g:Kn P w K p base 1 "with_bit" Gx ["choices","at","bit"] M7) (o:Kn P w K p base 3 "can_break" Dg ["table","edges","choices"] Oe):nZ P w K p base 4 "with_least_word" J0 ["table","edges","choices","at"] Rk:=by
 refine oK Lp λf aa A Z s H E dk ds Φ X L hR=>?_
 obtain⟨C,c,t,e,a,i,rfl,hC,he,W,R,G,hi,Y⟩:=hR;refine⟨_,(hO (mY 4 Lp.nd (pN Yq Vb T.list jY (aD (dK 2) gD))) (hO (qO (OR (by rfl) T.reversed (by rfl) T.range (oM sH rX T.len cG (aD (dK 2) gD))) (mO 5 Lp.nd) (hO (wH (n:=4) L (mT g X (aD (mP L 2 (dK 5)) (aD (dK 3) (aD hL gD)))) (pv 4) (dK 5)) (mW (sK (zU (vL (mT o X (aD (dK 0) (aD (dK 1) (Av (pv 4) gD)))))) (mW (wH (n:=4) L (mT g X (aD (mP L 2 (dK 5)) (aD (dK 3) (aD hL gD)))) (pv 4) (dK 5))) sI)))) (mW (nH (dK 4))))),?_⟩;have lb:∀ (j:Nat) (F:j<a.length) (l),l∈a[j]->i<l.length:=λj F l hm=>by
  have:=(G _ (cM F)).2 l hm;rw[(rJ this).1];exact hi
 refine mJ (λu=>u=Ct C c t e a i a .n) (λN S=>?_) ?_
 .exact⟨_,rfl,S _ rfl⟩
 rintro _ rfl;refine mJ (λu=>∃ y,u=Ct C c t e a i (Dz C c t e a i) y) (λN S=>?_) ?_
 .refine qH (tV ((a.length:Int)-1) (-1) a.length) _ (λΨ h=>?_) (λn u=>∃ y,u=Ct C c t e a i (tK C c t e i a n) y) ⟨.n,rfl⟩ ?_ ?_
  .have e0:(((a.map lB).length:Nat):Int)=(a.length:Int):=by rw[aA]
   show _/\_;refine⟨rfl,_,rfl,?_⟩;show (0<=(((a.map lB).length:Nat):Int)/\(((a.map lB).length:Nat):Int)<=100000)/\Ψ (tV ((((a.map lB).length:Nat):Int)-1) (-1) (((a.map lB).length:Nat):Int).toNat) _;rw[e0,cH];exact⟨⟨by omega,by omega⟩,h⟩
  .rintro n x u B ⟨y,rfl⟩;obtain⟨hn,rfl⟩:n<a.length/\x = .int ((a.length-1-n:Nat):Int):=by
    unfold tV at B;rw[bC] at B;cases q:(List.range a.length)[n]? with
    | none=>rw[q] at B;cases B
    | some m =>
     rw[q] at B;obtain⟨J,U⟩:=aX.mp q;rw[iH] at U;rw[cP] at J;subst U;refine⟨J,?_⟩;rw[<- bU B];show D.int _=D.int _
     congr 1
     omega
   obtain⟨j,F⟩:∃ j,j=a.length-1-n:=⟨_,rfl⟩;rw[<- F];have d:j<a.length:=by omega
   have I:a[j]?=some a[j]:=aH d;have cg:a.getD j []=a[j]:=by rw[cX,I];rfl
   have aj:oV (a.map lB) (j:Int)=some (lB a[j]):=pB (by rw[bC,I];rfl);obtain⟨st,k⟩:∃ st,st=tK C c t e i a n:=⟨_,rfl⟩;have M:st.length=a.length:=by rw[k];exact Na n
   have next:tK C c t e i a (n+1)=vS C c t e i a st j:=by rw[k,F];rfl
   rw[next,<- k];have put:∀ (b:Int) (O:Aa (Aa (Aa Int))),O.length=a.length->∀ Q:DEnds,Q.nx (Ct C c t e a i (O.set j (sF i b a[j])) (.v (.int j)))->Ko 4 (vd 5) (Cn M7 (aC (uZ Cq 2 (vd 5)) (aC (vd 3) (aC (cd (.int b)) An)))) dk Q (Ct C c t e a i O (.v (.int j))):=λb O hs Q hQ=>by
    refine⟨rfl,_,aj,a[j],i,b,rfl,(G _ (cM d)).1,lb j d,.inl rfl,rfl,?_⟩;exact⟨_,TU (by omega) _,hQ⟩
   refine mJ (λu=>u=Ct C c t e a i (st.set j (sF i 0 a[j])) (.v (.int j))) (λN' V=>?_) ?_
   .exact put 0 st M _ (V _ rfl)
   rintro _ rfl;have r:∀ x∈st,rO C c x:=by rw[k];exact Hv G n
   refine⟨rfl,C,c,t,e,st.set j (sF i 0 a[j]),rfl,hC,he,?_,by rw[bO,M];exact R,Kw r (Kk (G _ (cM d))),.inr rfl,rfl,_,rfl,?_⟩
   .intro z;have:=cC List.length z;rw[bO,M] at this;exact W (jR.mp this)
   .unfold vS;rw[cg];cases q:pP C c t e (st.set j (sF i 0 a[j])) with
    | true=>exact uG rfl ⟨.v (.int j),by rw[aR rfl]⟩
    | false =>
     refine (aR rfl).mpr ?_;refine put 1 _ (by rw[bO,M]) _ ⟨.v (.int j),?_⟩;rw[List.set_set,aM aY]
  .rintro u ⟨y,rfl⟩;have hz:(tV ((a.length:Int)-1) (-1) a.length).length=a.length:=by unfold tV;simp
   rw[hz];exact S _ ⟨y,rfl⟩
 rintro _ ⟨y,rfl⟩;exact Y
end
def sW:Aa (Aa Int)->Aa (Aa (Aa Int))->Prop
 | [],[]=>True
 | l::c,b::a=>l∈b/\sW c a
 | _,_=>False
theorem Hi:∀ {j:Aa (Aa (Aa Int))}{p:Aa (Aa Int)},x∈wK C o p j↔∃ c∈p,∃ g,sW g j/\g.foldl (pY C o) c=x
 | [],p=>⟨λh=>⟨x,h,[],trivial,rfl⟩,λf=>by
   obtain⟨c,b,g,a,e⟩:=f;cases g with
   | nil=>exact e▸b
   | cons _ _=>exact a.elim⟩
 | k::j,p=>by
  show x∈wK C o (tA C o p k) j↔_;rw[Hi];constructor
  .rintro ⟨m,d,g,a,e⟩;obtain⟨c,b,l,i,rfl⟩:=vV.mp d;exact⟨c,b,l::g,⟨i,a⟩,e⟩
  .rintro ⟨c,b,g,a,e⟩;cases g with
   | nil=>exact a.elim
   | cons l g=>exact⟨pY C o c l,vV.mpr ⟨c,b,l,a.1,rfl⟩,g,a.2,e⟩
theorem sW.snoc:∀ {o:Aa (Aa Int)}{g:Aa (Aa (Aa Int))}{l:Aa Int}{j:Aa (Aa Int)},sW (o++[l]) (g++[j])↔sW o g/\l∈j
 | [],[],l,j=>⟨λh=>⟨trivial,h.1⟩,λh=>⟨h.2,trivial⟩⟩
 | [],x::g,l,j=>⟨λh=>by
   have h:=h.2;cases g with
   | nil=>exact h.elim
   | cons _ _=>exact h.elim,λh=>h.1.elim⟩
 | w::o,[],l,j=>⟨λh=>by
   have h:=h.2;cases o with
   | nil=>exact h.elim
   | cons _ _=>exact h.elim,λh=>h.1.elim⟩
 | w::o,x::g,l,j=>by
  show w∈x/\sW (o++[l]) (g++[j])↔(w∈x/\sW o g)/\l∈j;rw[sW.snoc,and_assoc]
theorem sW.at:∀ {p:Aa (Aa Int)}{g:Aa (Aa (Aa Int))},sW p g->∀ {j:Nat}{o},g[j]?=some o->∃ l,p[j]?=some l/\l∈o
 | [],[],_,j,o,e=>by simp at e
 | [],_::_,h,_,_,_=>h.elim
 | _::_,[],h,_,_,_=>h.elim
 | w::p,x::g,h,0,o,e=>by cases e;exact⟨w,rfl,h.1⟩
 | w::p,x::g,h,j+1,o,e=>by
  obtain⟨l,a,b⟩:=h.2.at (j:=j) (by simpa using e);exact⟨l,by simpa using a,b⟩
theorem sW.set:∀ {o:Aa (Aa Int)}{g:Aa (Aa (Aa Int))}{j:Nat}{p:Aa (Aa Int)},sW o g->(∀ l,o[j]?=some l->l∈p)->sW o (g.set j p)
 | [],[],_,_,_,_=>trivial
 | [],_::_,_,_,h,_=>h.elim
 | _::_,[],_,_,h,_=>h.elim
 | w::o,x::g,0,p,h,a=>⟨a w rfl,h.2⟩
 | w::o,x::g,j+1,p,h,a=>⟨h.1,h.2.set λl e=>a l (by simpa using e)⟩
def CU (C:Cel) (g:Aa (Af×Af)) (t:mL) (e:Aa Int) (j:Aa (Aa Int)):Prop:=∃ a l,j=a++[l]/\zL C g t (a.foldl (pY C g) e) l≠0
theorem Jq:pP C o t e g=true↔∃ j,sW j g/\CU C o t e j:=by
 unfold pP;rw[bW];by_cases d:g=[]
 .subst d;constructor
  .rintro ⟨x,_,h⟩;cases h
  .rintro ⟨j,a,b,l,rfl,_⟩;cases b with
   | nil=>exact a.elim
   | cons _ _=>exact a.elim
 .obtain⟨i,u,rfl⟩:∃ i l,g=i++[l]:=⟨g.dropLast,g.getLast d,(kY d).symm⟩;rw[List.dropLast_concat,List.getLastD_concat];constructor
  .rintro ⟨x,s,h⟩;obtain⟨c,f,b,a,rfl⟩:=Hi.mp s;rw[aV] at f;subst f;obtain⟨l,n,q⟩:=bW.mp h;refine⟨b++[l],sW.snoc.mpr ⟨a,n⟩,b,l,rfl,λz=>?_⟩;rw[bE z] at q;cases q
  .rintro ⟨j,a,b,l,rfl,h⟩;obtain⟨k,m⟩:=sW.snoc.mp a;refine⟨_,Hi.mpr ⟨e,aV.mpr rfl,b,k,rfl⟩,bW.mpr ⟨l,m,?_⟩⟩;rw[bG h];rfl
theorem VT (h:pP C p t e g=true):∀ o∈g,o≠[]:=λo c z=>by
 obtain⟨f,d,_⟩:=Jq.mp h;obtain⟨j,b,e⟩:=eD c;obtain⟨l,_,a⟩:=d.at (j:=j) (aX.mpr ⟨b,e⟩);rw[z] at a;exact bH a
theorem Up (r:∀ I∈g,rO C o I) (p:i<(wIns C o).length) (h:pP C o t e g=true):∀ n,n<=g.length->pP C o t e (tK C o t e i g n)=true/\∀ j,j<g.length-n->(tK C o t e i g n)[j]?=g[j]?
 | 0,_=>⟨h,λ_ _=>rfl⟩
 | n+1,K=>by
  obtain⟨y,d⟩:=Up r p h n (by omega);obtain⟨j,B⟩:∃ j,j=g.length-1-n:=⟨_,rfl⟩;have a:j<g.length:=by omega
  have f:g[j]?=some g[j]:=aH a;have v:g.getD j []=g[j]:=by rw[cX,f];rfl
  have G:(tK C o t e i g n)[j]?=some g[j]:=(d j (by omega)).trans f;obtain⟨H,u,A⟩:=Jq.mp y;obtain⟨l,w,s⟩:=u.at G;have c:l.getD i 0=0\/l.getD i 0=1:=by
   obtain⟨E,F⟩:=rJ ((r _ (cM a)).2 l s);have:i<l.length:=by rw[E];exact p
   rw[cX,aH this];exact F _ (cM this)
  have go:∀ b,l.getD i 0=b->pP C o t e ((tK C o t e i g n).set j (sF i b g[j]))=true:=λb q=>Jq.mpr ⟨H,u.set λL m=>by
   rw[w] at m;cases m;exact bM.mpr ⟨s,bE q⟩,A⟩
  have x:tK C o t e i g (n+1)=vS C o t e i g (tK C o t e i g n) j:=by rw[B];rfl
  rw[x];unfold vS;rw[v];by_cases q:pP C o t e ((tK C o t e i g n).set j (sF i 0 g[j]))=true
  .rw[aR q];exact⟨q,λk D=>by rw[dU (by omega)];exact d k (by omega)⟩
  .rw[aM q];refine⟨go 1 (c.resolve_left λz=>q (go 0 z)),λk D=>by rw[dU (by omega)];exact d k (by omega)⟩
theorem LQ (o:∀ p∈j,rO C g p) (l:i<(wIns C g).length) (h:pP C g t e j=true):pP C g t e (Dz C g t e j i)=true:=(Up o l h _ (aW _)).1
def sS (f:Nat->Int):Nat->Aa Af->mL
 | _,[]=>[]
 | k,x::r=>(x,f k)::sS f (k+1) r
theorem Oc (f:Nat->Int):∀ (g:Aa Af) (k:Nat),(sS f k g).map (·.1)=g
 | [],_=>rfl
 | x::r,k=>by unfold sS;rw[List.map_cons,Oc f r]
theorem Qz (f:Nat->Int):∀ (g:Aa Af) (k:Nat) (x:Af),sS f k (g++[x])=sS f k g++[(x,f (k+g.length))]
 | [],k,x=>rfl
 | y::r,k,x=>by
  show (y,f k)::sS f (k+1) (r++[x])=(y,f k)::(sS f (k+1) r++[_]);rw[Qz f r,bQ,Nat.add_assoc,Nat.add_comm 1]
theorem LZ (h:x∉t.map (·.1)) (g:t.length<100000):vU (.k (gV t)) (.str x) (.int n)=some (.k (gV (t++[(x,n)]))):=by
 have a:(gV t).length<100000:=by unfold gV;rw[List.length_map];exact g
 simp only[vU,aR a];show some (D.k (nD (gV t) (Sum.inr x) (.int n)))=_;rw[Ia (by
  unfold gV;rw[aJ];intro z;obtain⟨p,b,e⟩:=aI.mp z;exact h (aI.mpr ⟨p,b,gC e⟩))]
 unfold gV;rw[aQ];rfl
def pS (C:Cel) (g:Aa (Af×Af)) (t:mL) (e:Aa Int) (W:Nat):Nat->Aa (Aa (Aa Int))
 | 0=>List.replicate W (mI (wIns C g).length)
 | i+1=>Dz C g t e (pS C g t e W i) i
def Gg (C:Cel) (g:Aa (Af×Af)) (t:mL) (e:Aa Int) (W:Nat):mL:=sS (λi=>vR i (pS C g t e W (i+1))) 0 (wIns C g)
def Mt (C:Cel) (g:Aa (Af×Af)) (t:mL) (e:Aa Int) (W:Nat):D:=.t [.str "broken",.int W,.k (gV (Gg C g t e W)),.k (gV ((g.map (·.2)).zip e))]
theorem PH:(Dz C j t e g i).length=g.length:=Na _
theorem Rz (j:RwOk C g){W:Nat}(h:pP C g t e (List.replicate W (mI (wIns C g).length))=true):∀ i,i<=(wIns C g).length->(pS C g t e W i).length=W/\(∀ l∈pS C g t e W i,rO C g l)/\pP C g t e (pS C g t e W i)=true
 | 0,_=>⟨dL,λl k=>by
   rw[(lM.mp k).2];have n:(wIns C g).length<=C.ins.length:=cB _ _;have:=j.li;have d:=wC (show (wIns C g).length<=6 by omega);have f:=uL (wIns C g).length;exact⟨by omega,λ_ h=>h⟩,h⟩
 | i+1,m=>by
  obtain⟨b,a,c⟩:=Rz j h i (by omega);exact⟨by unfold pS;rw[PH,b],Hv a _,LQ a (by omega) c⟩
def U8:RD:=λd b c=>∃ (C:Cel) (a:Aa (Af×Af)) (t:mL) (st:Aa (Aa Int)) (W:Nat),b=[nK C a,pR C a t,lB st,.int W]/\RwOk C a/\Be a st/\1<=W/\W<=64/\∃ e r,st.filter (λs=>pP C a t s (List.replicate W (mI (wIns C a).length)))=e::r/\c (.v (Mt C a t e W))
abbrev yL (C:Cel) (g:Aa (Af×Af)) (t:mL) (st:Aa (Aa Int)) (W:Nat) (j l o p r I:Sl):Aa Sl:=[.v (nK C g),.v (pR C g t),.v (lB st),.v (.int W),j,l,o,p,r,I]
section
variable {P:Ah}{K:mH}
theorem UQ:(["bits","table","choices"]:Aa Af).Nodup:=by decide +kernel
theorem zG:FnScope ["row","table","starts","width","inputs","choices","edges","words","at","name"] ["row","table","starts","width"] (nA Iy):=oB
theorem Zr (T:Txt mg) (J:Kn P w K mg base 2 "word_inputs" yR ["row"] Bt) (ab:Kn P w K mg base 1 "all_bits" yV ["count"] zV) (U:Kn P w K mg base 3 "can_break" Dg ["table","edges","choices"] Oe) (g:Kn P w K mg base 4 "with_least_word" J0 ["table","edges","choices","at"] Rk) (aa:Kn P w K mg base 2 "word_told" Hk ["choices","at"] Yh) (I:Kn P w K mg base 1 "carried_inputs" zO ["row"] Ch):nZ P w K mg base 5 "broken" Iy ["row","table","starts","width"] U8:=by
 refine oK zG λf af A ae s H E dk ds Φ M hu m=>?_
 obtain⟨C,b,t,st,W,rfl,B,⟨ag,hs⟩,w1,y,e,r,hf,ac⟩:=m;refine⟨_,(hO (mY 4 zG.nd (mT J M (aD (dK 0) gD))) (hO (mY 5 zG.nd (oE xM xB (oW (aD (mT ab M (aD (oM sH rX T.len cG (aD (dK 4) gD)) gD)) gD)) (dK 3))) (hO (mY 6 zG.nd (sG hu (nY (ht:=λ_ _ _ _ _=>(vP (vL (mT U M (aD (dK 1) (aD (dK 0) (Av (pv 2) gD))))))) ["bits"] ["table","choices"] [1,5] (nE (dK 2)) (λ_ _ _ _ _=>(mO 0 UQ)) (λ_ _ _ _ _=>(dK 0))) hL)) (hO (mY 7 zG.nd Kx) (hO (qO (SO (by rfl) T.enumerate (dK 4)) (sR (n:=2) rfl (oJ (mO 8 zG.nd) (oJ (mO 9 zG.nd) sC))) (hO (mY 5 zG.nd (mT g M (aD (dK 1) (aD (dK 6) (aD (dK 5) (aD (dK 8) gD)))))) (mW (wH (n:=7) hu (mT aa M (aD (dK 5) (aD (dK 8) gD))) (pv 7) (dK 9))))) (mW (nH (nV (aD mS (aD (dK 3) (aD (dK 7) (aD (Ai rfl (by rfl) T.dict (by rfl) T.zip (aD (mT I M (aD (dK 0) gD)) (aD (dK 6) gD))) gD)))))))))))),?_⟩;have l1:(wIns C b).length<=C.ins.length:=cB _ _;have li:=B.li;have lp:=B.lp;have em:e∈st/\pP C b t e (List.replicate W (mI (wIns C b).length))=true:=by
  have:e∈st.filter (λs=>pP C b t s (List.replicate W (mI (wIns C b).length))):=by rw[hf];exact aF
  exact bM.mp this
 have ee:=hs e em.1;have ch:=Rz B em.2;obtain⟨R,m⟩:∃ R,R=List.replicate W (mI (wIns C b).length):=⟨_,rfl⟩;have r0:=ch 0 (by omega);refine mJ (λc=>c=yL C b t st W (.o (.l ((wIns C b).map D.str))) .n .n .n .n .n) (λN d=>?_) ?_
 .exact⟨C,b,rfl,by omega,by omega,.inl rfl,d _ rfl⟩
 rintro _ rfl;refine mJ (λc=>c=yL C b t st W (.v (.l ((wIns C b).map D.str))) (.o (.l (R.map lB))) .n .n .n .n) (λN d=>?_) ?_
 .refine⟨rfl,_,rfl,(wIns C b).length,by rw[aA],by omega,.inl rfl,by show 1<=1000;decide,?_⟩;refine⟨by omega,by omega,by show 1<=100;decide,?_⟩;have e0:(List.replicate ((W:Int)).toNat [lB (mI (wIns C b).length)]).flatten=R.map lB:=by
   rw[cH,m,List.map_replicate,List.flatten_replicate_singleton]
  show N (yL C b t st W (.v (.l ((wIns C b).map D.str))) (.o (.l (List.replicate ((W:Int)).toNat [lB (mI (wIns C b).length)]).flatten)) .n .n .n .n);rw[e0];exact d _ rfl
 rintro _ rfl;refine mJ (λc=>c=yL C b t st W (.v (.l ((wIns C b).map D.str))) (.o (.l (R.map lB))) (.v (mR e)) .n .n .n) (λN d=>?_) ?_
 .unfold pE d2;refine vA st mR mR (λs=>pP C b t s R) (yL C b t st W (.v (.l ((wIns C b).map D.str))) (.o (.l (R.map lB))) .n .n .n .n) (λΨ h=>h) (by omega) (λj x ys Nx X h1 h2 h3=>?_) ?_
  .have xm:=hs x (aL X);refine⟨rfl,C,b,t,x,R,rfl,B,xm,?_,by rw[m,dL];exact y,by rw[m];exact r0.2.1,.inr rfl,?_⟩
   .rw[m];intro z;have:=cC List.length z;rw[dL] at this;simp at this;omega
   .cases q:pP C b t x R with
    | true=>exact⟨rfl,true,rfl,(aR rfl).mpr ⟨h1,h2 q⟩⟩
    | false=>exact⟨rfl,false,rfl,(aM aY).mpr (h3 q)⟩
  .rw[m,hf];refine⟨mR e,pB (j:=0) rfl,?_⟩;rw[<- m];exact d _ rfl
 rintro _ rfl;refine mJ (λc=>c=yL C b t st W (.v (.l ((wIns C b).map D.str))) (.o (.l (R.map lB))) (.v (mR e)) (.o (.k (gV []))) .n .n) (λN d=>d _ rfl) ?_;rintro _ rfl;refine mJ (λc=>∃ u G L,c=yL C b t st W (.v (.l ((wIns C b).map D.str))) u (.v (mR e)) (.o (.k (gV (Gg C b t e W)))) G L) (λN d=>?_) ?_
 .refine qH (Ak ((wIns C b).map D.str)) _ (λΨ h=>h) (λj c=>∃ u G L,(u = .o (.l ((pS C b t e W j).map lB))\/u = .v (.l ((pS C b t e W j).map lB)))/\c=yL C b t st W (.v (.l ((wIns C b).map D.str))) u (.v (mR e)) (.o (.k (gV (sS (λi=>vR i (pS C b t e W (i+1))) 0 ((wIns C b).take j))))) G L) ⟨_,.n,.n,.inl rfl,by rw[m];rfl⟩ ?_ ?_
  .rintro j x c X ⟨u,G,L,h5,rfl⟩;have Z:j<(wIns C b).length:=by
    have:=(aX.mp X).1
    rwa [F3,aA] at this
   have hy:(wIns C b)[j]?=some (wIns C b)[j]:=aH Z;have hd:((wIns C b).map D.str)[j]?=some (.str (wIns C b)[j]):=by rw[bC,hy];rfl
   rw[Vr hd] at X;cases X;obtain⟨Y,c2,c3⟩:=ch j (by omega);obtain⟨d1,d2,d3⟩:=ch (j+1) (by omega);refine⟨rfl,rfl,?_⟩;refine mJ (λc=>c=yL C b t st W (.v (.l ((wIns C b).map D.str))) (.v (.l ((pS C b t e W (j+1)).map lB))) (.v (mR e)) (.o (.k (gV (sS (λi=>vR i (pS C b t e W (i+1))) 0 ((wIns C b).take j))))) (.v (.int j)) (.v (.str (wIns C b)[j]))) (λN' O=>?_) ?_
   .have ne:pS C b t e W j≠[]:=λz=>by
     rw[z] at Y;simp at Y;omega
    rcases h5 with rfl | rfl
    .exact⟨C,b,t,e,pS C b t e W j,j,rfl,B,ee,ne,by rw[Y];exact y,c2,Z,.inl rfl,O _ rfl⟩
    .exact⟨C,b,t,e,pS C b t e W j,j,rfl,B,ee,ne,by rw[Y];exact y,c2,Z,.inl rfl,O _ rfl⟩
   rintro _ rfl;have ev:sS (λi=>vR i (pS C b t e W (i+1))) 0 ((wIns C b).take (j+1))=sS (λi=>vR i (pS C b t e W (i+1))) 0 ((wIns C b).take j)++[((wIns C b)[j],vR j (pS C b t e W (j+1)))]:=by
    rw[bR,hy];show sS _ 0 (_++[_])=_;rw[Qz,bS,mE (by omega),Nat.zero_add]
   have V:(wIns C b)[j]∉(sS (λi=>vR i (pS C b t e W (i+1))) 0 ((wIns C b).take j)).map (·.1):=by
    rw[Oc];intro z;obtain⟨a,ha,e'⟩:=eD z;rw[bS] at ha;rw[List.getElem_take] at e';have Q:a<(wIns C b).length:=by omega
    have e5:(wIns C b)[a]?=(wIns C b)[j]?:=by rw[aH Q,hy,e']
    have:=(lT Q ((bD.mp B.gc.nd).1.filter _)).mp e5;omega
   have S:(sS (λi=>vR i (pS C b t e W (i+1))) 0 ((wIns C b).take j)).length<100000:=by
    have:=cC List.length (Oc (λi=>vR i (pS C b t e W (i+1))) ((wIns C b).take j) 0);rw[aA,bS] at this;omega
   refine⟨pS C b t e W (j+1),j,rfl,by rw[d1];exact y,λls hl=>?_,.inl rfl,rfl,_,LZ V S,?_⟩
   .cases ls with
    | nil=>exact absurd rfl (VT d3 [] hl)
    | cons l r =>
     obtain⟨q1,q2⟩:=rJ ((d2 _ hl).2 l aF);have F:j<l.length:=by rw[q1];exact Z
     refine⟨l,r,rfl,F,?_⟩;rw[cX,aH F];exact q2 _ (cM F)
   .rw[ev];exact⟨_,.v (.int j),.v (.str (wIns C b)[j]),.inr rfl,rfl⟩
  .rintro c ⟨u,G,L,_,rfl⟩;rw[F3,aA,dD];exact d _ ⟨u,G,L,rfl⟩
 rintro _ ⟨u,G,L,rfl⟩;have le:=(rJ ee).1;refine⟨C,b,rfl,by omega,.inl rfl,false,true,_,_,(b.map (·.2)).map Sum.inr,rfl,rfl,?_,by rw[aA,aA];omega,?_⟩
 .have:(b.map λp=>D.str p.2)=(b.map (·.2)).map D.str:=by rw[aJ];rfl
  rw[this];exact keysL_strs _
 .have e3:((b.map (·.2)).map (Sum.inr:Af->dT)).zip (e.map D.int)=gV ((b.map (·.2)).zip e):=by
   unfold gV;rw[List.zip_map];rfl
  have kz:((b.map (·.2)).zip e).map (·.1)=b.map (·.2):=by rw[lX];rw[aA,le];exact aW _
  rw[e3,uV (by rw[kz];exact B.n2)];exact⟨by show 4<=1000;decide,ac⟩
end
def qR (C:Cel) (g:Aa (Af×Af)) (st:Aa (Aa Int)) (n:Nat):Aa (Aa Int):=wK C g st (List.replicate n (mI (wIns C g).length))
def uQ (C:Cel) (g:Aa (Af×Af)) (t:mL) (c:Aa Int):Bool:=yC C g t (mI (wIns C g).length) c
theorem Im {st:Aa (Aa Int)}:qR C g st (n+1)=tA C g (qR C g st n) (mI (wIns C g).length):=by
 unfold qR;rw[List.replicate_succ',Q2]
theorem Jn {st:Aa (Aa Int)}(h:c∈qR C g st n) (j:l∈mI (wIns C g).length):pY C g c l∈qR C g st (n+1):=by
 rw[Im];exact vV.mpr ⟨c,h,l,j,rfl⟩
theorem Cf (j:RwOk C g){st:Aa (Aa Int)}(o:∀ c∈st,c∈mI g.length):∀ {n:Nat}{c:Aa Int},c∈qR C g st n->c∈mI g.length
 | 0,c,h=>o c h
 | n+1,c,h=>by
  rw[Im] at h;obtain⟨d,a,l,b,rfl⟩:=vV.mp h;exact Ie j (Cf j o a) b
theorem SJ {st:Aa (Aa Int)}(h:(qR C g st n).any (uQ C g t)=true):∃ s∈st,pP C g t s (List.replicate (n+1) (mI (wIns C g).length))=true:=by
 obtain⟨x,i,b⟩:=bW.mp h;obtain⟨c,d,a,f,rfl⟩:=Hi.mp i;refine⟨c,d,Jq.mpr ?_⟩;obtain⟨l,e,q⟩:=bW.mp b;refine⟨a++[l],?_,a,l,rfl,λz=>?_⟩
 .rw[List.replicate_succ'];exact sW.snoc.mpr ⟨f,e⟩
 .rw[bE z] at q;cases q
structure Jd (C:Cel) (prs:List (Str×Str)) (t:mL) (st:List (List Int)) (w:Nat) (ks fr:List (List Int)):Prop where
 nk:ks.Nodup
 nf:fr.Nodup
 kn:∀ x,x∈ks↔∃ n,n<w/\x∈qR C prs st n
 mf:∀ x∈fr,x∈qR C prs st w/\x∉ks
 al:∀ x∈qR C prs st w,x∈ks\/x∈fr
 nb:∀ n,n<w->(qR C prs st n).any (uQ C prs t)=false
 wl:w<=ks.length
theorem Jd.all {st:Aa (Aa Int)}(h:Jd C g t st w j []):∀ n,∀ x∈qR C g st n,x∈j
 | 0,x,a=>by
  rcases jJ w with e | e
  .subst e;exact (h.al x a).resolve_right bH
  .exact (h.kn x).mpr ⟨0,e,a⟩
 | n+1,x,a=>by
  rw[Im] at a;obtain⟨c,d,l,f,rfl⟩:=vV.mp a;obtain⟨m,i,b⟩:=(h.kn c).mp (h.all n c d);have:=Jn b f;rcases lF (m+1) w with q | q
  .exact (h.kn _).mpr ⟨m+1,q,this⟩
  .have e:m+1=w:=by omega
   rw[e] at this;exact (h.al _ this).resolve_right bH
theorem Jd.none {st:Aa (Aa Int)}(h:Jd C g t st w j []) (n:Nat):(qR C g st n).any (uQ C g t)=false:=by
 rw[eS];intro x c;obtain⟨m,b,a⟩:=(h.kn x).mp (h.all n x c);exact (eS.mp (h.nb m b)) x a
theorem Jd.step {C:Cel}{g:Aa (Af×Af)}{t:mL}{st:Aa (Aa Int)}{w:Nat}{o j p:Aa (Aa Int)}(h:Jd C g t st w o j) (I:j.any (uQ C g t)=false) (J:j≠[]) (T:p.Nodup) (r:∀ x,x∈p↔x∈tA C g j (mI (wIns C g).length)):Jd C g t st (w+1) (o++j) (p.filter λx=>!decide (x∈o++j)):=by
 have mk:∀ x,x∈o++j↔∃ n,n<w+1/\x∈qR C g st n:=λx=>by
  rw[aU];constructor
  .rintro (q | q)
   .obtain⟨n,f,d⟩:=(h.kn x).mp q;exact⟨n,by omega,d⟩
   .exact⟨w,by omega,(h.mf x q).1⟩
  .rintro ⟨n,f,d⟩;rcases lF n w with q | q
   .exact .inl ((h.kn x).mpr ⟨n,q,d⟩)
   .have e:n=w:=by omega
    subst e;exact h.al x d
 refine⟨bD.mpr ⟨h.nk,h.nf,λa v b s e=>(h.mf b s).2 (e▸v)⟩,T.filter _,mk,λx i=>?_,λx i=>?_,λn y=>?_,?_⟩
 .obtain⟨f,d⟩:=bM.mp i;obtain⟨c,u,l,k,rfl⟩:=vV.mp ((r x).mp f);refine⟨Jn (h.mf c u).1 k,λz=>?_⟩;rw[bE z] at d;cases d
 .by_cases q:x∈o++j
  .exact .inl q
  .refine .inr (bM.mpr ⟨?_,by rw[bG q];rfl⟩);rw[Im] at i;obtain⟨c,u,l,k,rfl⟩:=vV.mp i;rcases h.al c u with z | z
   .obtain⟨m,f,d⟩:=(h.kn c).mp z;exact absurd ((mk _).mpr ⟨m+1,by omega,Jn d k⟩) q
   .exact (r _).mpr (vV.mpr ⟨c,z,l,k,rfl⟩)
 .rcases lF n w with q | q
  .exact h.nb n q
  .have e:n=w:=by omega
   subst e;rw[eS];intro x i;rcases h.al x i with z | z
   .obtain⟨m,f,d⟩:=(h.kn x).mp z;exact (eS.mp (h.nb m f)) x d
   .exact (eS.mp I) x z
 .have:=h.wl;have:=hX.mpr J;rw[bF];omega
theorem Jd.start {st:Aa (Aa Int)}(h:st.Nodup):Jd C g t st 0 [] st:=⟨fE,h,λx=>⟨λz=>(bH z).elim,λ⟨n,q,_⟩=>absurd q (by omega)⟩,λx a=>⟨a,bH⟩,λx a=>.inr a,λn q=>absurd q (by omega),aW _⟩
def Wc:RD:=λi h f=>∃ (C:Cel) (a:Aa (Af×Af)) (t:mL) (d:Aa (dT×D)) (c:Af->Ab Int),h=[nK C a,.t [.k d,.k (gV t)]]/\RwOk C a/\a.length<=4/\(∀ p∈a,mN d (Sum.inr p.2)=some (qE (c p.2))) /\
 (∀ b:Aa (Aa Int),b.Nodup->(∀ x,x∈b↔∃ n,x∈qR C a (qV a c) n)->(∀ n,(qR C a (qV a c) n).any (uQ C a t)=false)->f (.v (.t [.str "shown",.t (b.map nX)]))) /\
 ∀ (W:Nat) (e:Aa Int) (r:Aa (Aa Int)),W<64->(qR C a (qV a c) W).any (uQ C a t)=true->(∀ n,n<W->(qR C a (qV a c) n).any (uQ C a t)=false)->(qV a c).filter (λs=>pP C a t s (List.replicate (W+1) (mI (wIns C a).length)))=e::r->f (.v (Mt C a t e (W+1)))
def oU (g:Aa (Aa Int)):Aa (Aa dT×D):=g.map λk=>(k.map (Sum.inl:Int->dT),D.b true)
theorem Tw:∀ (bs as:Aa (Aa Int)),(as++bs).Nodup->sJ nD (oU as) (oU bs)=oU (as++bs)
 | [],as,_=>by rw[cZ];rfl
 | b::bs,as,h=>by
  have a:b∉as:=λq=>(bD.mp h).2.2 b q b (by simp) rfl
  show sJ nD (nD (oU as) (b.map Sum.inl) (.b true)) (oU bs)=_;have:=N9 as b;rw[aM a] at this;show sJ nD (nD (as.map _) _ _) (oU bs)=_;rw[this];have:=Tw bs (as++[b]) (by rw[bJ];exact h);rw[bJ] at this;exact this
theorem Px:∀ (bs as:Aa (Aa Int)),(as++bs).Nodup->rM nD (oU as) (bs.map λc=>(c,D.b true))=oU (as++bs)
 | [],as,_=>by rw[cZ];rfl
 | b::bs,as,h=>by
  have a:b∉as:=λq=>(bD.mp h).2.2 b q b (by simp) rfl
  show rM nD (nD (as.map _) (b.map Sum.inl) (.b true)) (bs.map λc=>(c,D.b true))=_;have:=N9 as b;rw[aM a] at this;rw[this];have:=Px bs (as++[b]) (by rw[bJ];exact h);rw[bJ] at this;exact this
theorem TB (g:Aa (Aa Int)) (x:Aa Int):(mN (oU g) (x.map Sum.inl)).isSome=decide (x∈g):=by
 by_cases h:x∈g
 .rw[bE h];unfold oU;rw[Fe (λ_=>D.b true) h];rfl
 .rw[bG h];unfold mN oU;rw[lQ.mpr λp c z=>?_]
  .rfl
  .obtain⟨k,a,rfl⟩:=aI.mp c;exact h (zT (cD z)▸a)
theorem Ui (g:Aa (Af×Af)) (j:Af->Ab Int):(qV g j).Nodup:=(L5 _).filter _
abbrev wB (C:Cel) (j:Aa (Af×Af)) (t:mL) (g:Aa (dT×D)) (l o p r I J:Sl):Aa Sl:=[.v (nK C j),.v (.t [.k g,.k (gV t)]),l,o,p,r,I,J]
abbrev Bo (C:Cel) (g:Aa (Af×Af)) (t:mL) (j:Aa (dT×D)) (st:Aa (Aa Int)) (l o p:Sl):Aa Sl:=wB C g t j (.v (pR C g t)) (.v (lB st)) (.v (lB (mI (wIns C g).length))) l o p
def QB (g:Aa Sl):Nat:=match (g[5]?:Ab Sl) with
 | some (.o (.T a))=>100-a.length
 | _=>0
theorem Yl {f:Aa Int->Int}{l:Aa (Aa Int)}(h:(l.map f).Nodup):∀ {m:Aa (Aa Int)},m.Nodup->(∀ x∈m,x∈l)->(m.map f).Nodup
 | [],_,_=>fE
 | x::m,u,c=>by
  obtain⟨q,s⟩:=bP.mp u;refine bP.mpr ⟨λz=>?_,Yl h s λy a=>c y (aP _ a)⟩;obtain⟨y,a,e⟩:=aI.mp z;obtain⟨i,n,d⟩:=eD (c x aF);obtain⟨j,t,k⟩:=eD (c y (aP _ a));have:i=j:=by
   have b:i<(l.map f).length:=by rw[aA];exact n
   refine (lT b h).mp ?_;rw[bC,bC,aH n,aH t,d,k,gS,gS,e]
  subst this;exact q (by rw[<- d,k];exact a)
theorem LO {n:Nat}{j:Aa Nat}{g:uD}{tt:rW}{te:nF}{dk:Aa Ad}{Φ:Sl->Aa Sl->Prop}{α:Type}(xs:Aa α) (J aa:α->D) (p:α->Bool) (C:Aa Sl) (hl:xs.length<=100000)
  (hs:∀ (i:Nat) x (I:Aa D) (Nx:Aa D->Aa Sl->Prop),xs[i]?=some x->I.length<100000->(p x=true->Nx (I++[aa x]) (oP j C))->(p x=false->Nx I (oP j C))->g (J x) (List.replicate n Sl.n++oP j C) λab=>tt dk ab λb T=>if b=true then te dk T λr ac=>match sd r with
   | some c=>I.length<100000/\Nx (I++[c]) (ac.drop n)
   | none=>False
   else Nx I (T.drop n))
  (ae:Φ (.o (.l ((xs.filter p).map aa))) (pU j (oP j C) C)):∃ Pv:Nat->Aa D->Aa Sl->Prop,Pv 0 [] (oP j C) /\
   (∀ i d I U,(xs.map J)[i]?=some d->U.length=j.length->Pv i I U->g d (List.replicate n Sl.n++U) λab=>tt dk ab λb T=>if b=true then te dk T λr ac=>match sd r with
    | some c=>I.length<100000/\Pv (i+1) (I++[c]) (ac.drop n)
    | none=>False
    else Pv (i+1) I (T.drop n)) /\
   ∀ I U,U.length=j.length->Pv (xs.map J).length I U->Φ (.o (.l I)) (pU j U C) :=
 vA (ι:=λ_ _ a=>a (xs.map J) C) (dk:=dk) (ρ:=[]) xs J aa p C (λa h=>h) hl hs ae
section
variable {P:Ah}{K:mH}
theorem VE:(["carried"]:Aa Af).Nodup:=by decide +kernel
theorem WN:(["carried","known"]:Aa Af).Nodup:=by decide +kernel
theorem xW:FnScope ["row","claim","table","starts","choices","known","fresh","width"] ["row","claim"] (nA Fs):=oB
theorem IL (T:Txt mg) (I:Kn P w K mg base 5 "step_table" Dy ["row","weights"] Ol) (U:Kn P w K mg base 2 "let_edges" E1 ["row","edges"] Ep) (l:Kn P w K mg base 2 "word_inputs" yR ["row"] Bt) (aa:Kn P w K mg base 1 "all_bits" yV ["count"] zV) (g:Kn P w K mg base 2 "is_broken_by" Ff ["table","states","choices"] Oo) (ab:Kn P w K mg base 5 "broken" Iy ["row","table","starts","width"] U8) (p:Kn P w K mg base 1 "carried_on" Fa ["table","states","choices"] Hx):nZ P w K mg base 6 "judged" Fs ["row","claim"] Wc:=by
 refine oK xW λf au A an s H E dk ds Φ V hu hR=>?_
 obtain⟨C,d,t,k,ef,rfl,W,aj,he,ae,ac⟩:=hR;refine⟨_,(hO (mY 2 xW.nd (mT I V (aD (dK 0) (aD (mP hu 1 hL) gD)))) (hO (mY 3 xW.nd (mT U V (aD (dK 0) (aD (mP hu 1 hL) gD)))) (hO (mY 4 xW.nd (mT aa V (aD (oM sH rX T.len cG (aD (mT l V (aD (dK 0) gD)) gD)) gD))) (hO (mY 5 xW.nd Ha) (hO (mY 6 xW.nd (dK 3)) (hO (mY 7 xW.nd hL) (hO (Qv iK (CW (pv 6)) (hO (Kh (n:=7) xW.nd rfl (Or.inl rfl) hL Mp) (hO (sK (vL (mT g V (aD (dK 2) (aD (dK 6) (aD (dK 4) gD))))) (mW (nH (mT ab V (aD (dK 0) (aD (dK 2) (aD (dK 3) (aD (dK 7) gD))))))) sI) (hO (rP (AM hZ jE jF (QG hu) MJ (pv 5) (aD (pN (U4 rfl (Tq V)) Rj T.dict cL (aD (nY ["carried"] [] [] (nE (dK 6)) (λ_ _ _ _ _=>(mO 0 VE)) (λ_ _ _ _ _=>(nV (aD (dK 0) (aD sL gD))))) gD)) gD))) (mW (zB (ht:=λ_ _ _ _ _=>(vP (Bu (Bk hu) (wL true) (dK 0) (pv 1)))) 6 ["carried"] ["known"] [5] xW.nd (nE (mT p V (aD (dK 2) (aD (dK 6) (aD (dK 4) gD))))) (λ_ _ _ _ _=>(mO 0 WN)) (λ_ _ _ _ _=>(dK 0)))))))) (mW (nH (nV (aD mS (aD (pN yI yG T.tuple cN (aD (oM (WG rfl) BM T.sorted PyProof.Rows.boot_sorted (Av (pv 5) gD)) gD)) gD)))))))))))),?_⟩;have l1:(wIns C d).length<=C.ins.length:=cB _ _;have li:=W.li;have av:=wC (show (wIns C d).length<=6 by omega);have aw:=uL (wIns C d).length;have ax:=uL d.length;have ag:2 ^ d.length<=16:=bN (gX (by decide) aj) (by decide);obtain⟨st,R⟩:∃ st,st=qV d ef:=⟨_,rfl⟩;have O:∀ c∈st,c∈mI d.length:=λc hc=>by rw[R] at hc;exact (bM.mp hc).1
 have snd:st.Nodup:=by rw[R];exact Ui d ef
 rw[<- R] at ae ac;have lO:rO C d (mI (wIns C d).length):=⟨by omega,λ_ h=>h⟩;refine mJ (λu=>u=wB C d t k (.o (pR C d t)) .n .n .n .n .n) (λN y=>?_) ?_
 .exact⟨rfl,_,rfl,C,d,t,rfl,W,.inl rfl,y _ rfl⟩
 rintro _ rfl;refine mJ (λu=>u=wB C d t k (.o (pR C d t)) (.o (lB st)) .n .n .n .n) (λN y=>?_) ?_
 .exact⟨rfl,_,rfl,C,d,k,ef,rfl,by omega,he,.inl rfl,by rw[<- R];exact y _ rfl⟩
 rintro _ rfl;refine mJ (λu=>u=wB C d t k (.o (pR C d t)) (.o (lB st)) (.o (lB (mI (wIns C d).length))) .n .n .n) (λN y=>?_) ?_
 .exact⟨C,d,rfl,by omega,by omega,.inl rfl,rfl,_,rfl,(wIns C d).length,by rw[aA],by omega,.inl rfl,y _ rfl⟩
 rintro _ rfl;refine mJ (λu=>u=_) (λN y=>y _ rfl) ?_;rintro _ rfl;refine mJ (λu=>u=_) (λN y=>y _ rfl) ?_;rintro _ rfl;refine mJ (λu=>u=wB C d t k (.o (pR C d t)) (.v (lB st)) (.o (lB (mI (wIns C d).length))) (.o (.T (oU []))) (.v (lB st)) (.v (.int 0))) (λN y=>y _ rfl) ?_;rintro _ rfl;refine mJ (λu=>∃ G L M m w,Jd C d t st w m []/\u=wB C d t k G (.v (lB st)) L (.o (.T (oU m))) M (.v (.int w))) (λN y=>?_) ?_
 .refine⟨λu=>∃ (G L M:Sl) (m i:Aa (Aa Int)) (w:Nat),Jd C d t st w m i/\(G = .o (pR C d t)\/G = .v (pR C d t))/\(L = .o (lB (mI (wIns C d).length))\/L = .v (lB (mI (wIns C d).length)))/\(M = .o (lB i)\/M = .v (lB i))/\u=wB C d t k G (.v (lB st)) L (.o (.T (oU m))) M (.v (.int w)),QB,⟨_,_,_,[],st,0,Jd.start snd,.inl rfl,.inl rfl,.inr rfl,rfl⟩,?_⟩;rintro _ ⟨G,L,M,m,i,w,J,Y,h4,h6,rfl⟩;have B:∀ x∈m,x∈mI d.length:=λx S=>by
   obtain⟨n,_,h⟩:=(J.kn x).mp S;exact Cf W O h
  have frm:∀ x∈i,x∈mI d.length:=λx S=>Cf W O (J.mf x S).1
  have af:(m++i).Nodup:=bD.mpr ⟨J.nk,J.nf,λa ha b ah e=>(J.mf b ah).2 (e▸ha)⟩;have ai:(m++i).length<=16:=bN (Bf af λx S=>(aU.mp S).elim (B x) (frm x)) ag;rw[bF] at ai;have Z:Be d i:=⟨by omega,frm⟩;have wl:=J.wl;have C3:at? (wB C d t k G (.v (lB st)) L (.o (.T (oU m))) M (.v (.int w))) 6=some (lB i):=by rcases h6 with rfl | rfl<;>rfl
  unfold Kj;rw[C3];refine⟨rfl,!(i.map mR).isEmpty,rfl,?_⟩;by_cases Q:i=[]
  .subst Q;exact (aM aY).mpr (y _ ⟨G,L,M,m,w,J,rfl⟩)
  have ar:=hX.mpr Q;have ie:(!(i.map mR).isEmpty)=true:=by
   cases i with
   | nil=>exact absurd rfl Q
   | cons _ _=>rfl
  refine (aR ie).mpr ?_;refine mJ (λu=>u=wB C d t k G (.v (lB st)) L (.o (.T (oU m))) M (.v (.int ((w+1:Nat):Int)))) (λN' F=>?_) ?_
  .show N' (wB C d t k G (.v (lB st)) L (.o (.T (oU m))) M (.v (.int ((w:Int)+1))));exact F _ (by push_cast;rfl)
  rintro _ rfl;refine mJ (λu=>i.any (uQ C d t)=false/\u=Bo C d t k st (.o (.T (oU m))) (.v (lB i)) (.v (.int ((w+1:Nat):Int)))) (λN' F=>?_) ?_
  .rcases Y with rfl | rfl<;>rcases h4 with rfl | rfl<;>rcases h6 with rfl | rfl<;>refine⟨C,d,t,i,mI (wIns C d).length,rfl,Z,lO,.inl rfl,rfl,_,rfl,?_⟩
   all_goals
    by_cases q:i.any (uQ C d t)=true
    .have hw:(qR C d st w).any (uQ C d t)=true:=by
      obtain⟨x,S,hb⟩:=bW.mp q;exact bW.mpr ⟨x,(J.mf x S).1,hb⟩
     refine (aR q).mpr ?_;obtain⟨s0,ao,hc⟩:=SJ hw;cases hq:st.filter (λs=>pP C d t s (List.replicate (w+1) (mI (wIns C d).length))) with
     | nil =>
      have:s0∈st.filter (λs=>pP C d t s (List.replicate (w+1) (mI (wIns C d).length))):=bM.mpr ⟨ao,hc⟩;rw[hq] at this;exact (bH this).elim
     | cons e r=>exact⟨C,d,t,st,w+1,rfl,W,⟨by have:=Bf snd O;omega,O⟩,by omega,by omega,e,r,hq,.inl rfl,ac w e r (by omega) hw J.nb hq⟩
    .exact (aM q).mpr (F _ ⟨by simpa using q,rfl⟩)
  rintro _ ⟨ak,rfl⟩;refine mJ (λu=>u=Bo C d t k st (.o (.T (oU (m++i)))) (.v (lB i)) (.v (.int ((w+1:Nat):Int)))) (λN' F=>?_) ?_
  .refine⟨trivial,?_⟩;unfold dC aC;refine oN i mR (λc=>D.t [nX c,.b true]) (Bo C d t k st (.o (.T (oU m))) (.v (lB i)) (.v (.int ((w+1:Nat):Int)))) (λΨ h=>h) (by omega) (λj c ys Nx e h1 Y=>⟨by show 2<=1000;decide,h1,Y⟩) ?_;refine⟨i.map λc=>(c,D.b true),by rw[aJ];rfl,by rw[aA];omega,?_⟩;have e1:rM nD [] (i.map λc=>(c,D.b true))=oU i:=Px i [] (by rw[fS];exact J.nf);rw[e1];refine⟨i,by unfold oU;rw[List.map_map];rfl,?_,by unfold oU;rw[List.length_map,List.length_map];omega,?_⟩
   .exact Yl (GR d.length (by omega)) J.nf frm
   .show N' (wB C d t k _ _ _ (.o (.T (sJ nD (oU m) (oU i)))) _ _);rw[Tw i m af];exact F _ rfl
  rintro _ rfl;have key:∀ De:DEnds,(∀ X:Aa (Aa Int),X.Nodup->(∀ x,x∈X↔x∈tA C d i (mI (wIns C d).length))->De.nx (Bo C d t k st (.o (.T (oU (m++i)))) (.o (lB (X.filter λx=>!decide (x∈m++i)))) (.v (.int ((w+1:Nat):Int))))) ->
    pE 6 (tJ 1 [5] (iV (Cn Hx (aC (vd 2) (aC (vd 6) (aC (vd 4) An))))) (gN 0) (xS (Fh (No true) (vd 0) 1)) (vd 0)) dk De (Bo C d t k st (.o (.T (oU (m++i)))) (.v (lB i)) (.v (.int ((w+1:Nat):Int)))):=λDe hD=>by
   unfold pE tJ iV;refine⟨C,d,t,i,mI (wIns C d).length,rfl,W,Z,lO,λX nn hn no=>⟨.inl rfl,?_⟩⟩;refine LO (Φ:=λr aq=>De.nx (aq.set 6 r)) X mR mR (λx=>!decide (x∈m++i)) (Bo C d t k st (.o (.T (oU (m++i)))) (.v (lB i)) (.v (.int ((w+1:Nat):Int)))) (by have:=no.1;omega) (λj x ys Nx e h1 Y h3=>?_) (hD X nn hn);refine⟨_,I0 x,?_⟩;show if (!(mN (oU (m++i)) (x.map Sum.inl)).isSome)=true then _ else _
   rw[TB];by_cases q:x∈m++i
   .rw[bE q];exact (aM aY).mpr (h3 (by rw[bE q];rfl))
   .rw[bG q];exact (aR rfl).mpr ⟨h1,Y (by rw[bG q];rfl)⟩
  refine key _ λX nn hn=>?_
  .refine⟨⟨_,_,_,m++i,_,w+1,J.step ak Q nn hn,.inr rfl,.inr rfl,.inl rfl,rfl⟩,?_⟩;show 100-(oU (m++i)).length<100-(oU m).length;unfold oU;rw[aA,aA,bF];omega
 rintro _ ⟨G,L,M,m,w,J,rfl⟩;have B:∀ x∈m,x∈mI d.length:=λx S=>by
  obtain⟨n,_,h⟩:=(J.kn x).mp S;exact Cf W O h
 have kl:m.length<=16:=bN (Bf J.nk B) ag;refine⟨rfl,m,?_,by omega,λY b hb z=>?_,λys hp=>?_⟩
 .unfold oU;rw[List.map_map];rfl
 .subst z;have:=B [] hb;have l0:=(rJ this).1;have:d.length=0:=l0.symm;rw[this] at B;have:=Bf J.nk B;simp at this;omega
 .refine⟨by show 2<=1000;decide,?_⟩;refine ae ys (hp.nodup_iff.mpr J.nk) (λx=>?_) J.none;rw[hp.mem_iff];exact⟨λh=>let ⟨n,_,q⟩:=(J.kn x).mp h;⟨n,q⟩,λ⟨n,q⟩=>J.all n x q⟩
end
noncomputable def pH (g:Af->Int) (u:Nat->Af->Int):Nat->Af×Af->Int
 | 0,p=>g p.2
 | j+1,p=>u j p.1
def qG (C:Cel) (g:Aa (Af×Af)) (u:Nat->Af->Int) (W:Nat):mL:=(wOuts C g).map λo=>(o,sN (λj=>2 ^ j*u j o) W)
def oX (g:Aa (Af×Af)) (l:Af->Int) (u:Nat->Af->Int) (j:Nat):mL:=g.map λp=>(p.2,pH l u j p)
structure RowOk (C:Cel) (prs:List (Str×Str)):Prop where
 gc:GC C
 n1:(prs.map (·.1)).Nodup
 n2:(prs.map (·.2)).Nodup
 o:∀ p∈prs,p.1∈C.outs
 lp:prs.length<=100
structure RunOk (C:Cel) (prs:List (Str×Str)) (W:Nat) (wf ef:Str->Int) (u:Nat->Str->Int) (ρ:Nat->Str->Int):Prop where
 e:∀ p∈prs,nL (ef p.2)
 uu:∀ j,j<W->u j=pC C (ρ j)
 w:∀ j,j<W->∀ x∈wIns C prs,ρ j x=wf x/2 ^ j%2
 c:∀ j,j<W->∀ p∈prs,ρ j p.2=pH ef u j p
theorem RunOk.bits {W:Nat}(R:RowOk C g) (h:RunOk C g W wf r u l):∀ j,j<W->(∀ x∈C.ins,nL (l j x))/\∀ o∈C.outs,nL (u j o)
 | j,a=>by
  have key:∀ x∈C.ins,nL (l j x):=λx f=>by
   by_cases q:x∈g.map (·.2)
   .obtain⟨p,b,rfl⟩:=aI.mp q;rw[h.c j a p b];cases j with
    | zero=>exact h.e p b
    | succ j=>exact (h.bits R j (by omega)).2 p.1 (R.o p b)
   .rw[h.w j a x (bM.mpr ⟨f,by rw[bG q];rfl⟩)];have:=fG (wf x/2 ^ j) (show (2:Int)≠0 by decide);have:=eL (wf x/2 ^ j) (show (0:Int)<2 by decide);unfold nL;omega
  refine⟨key,λo d=>?_⟩;rw[h.uu j a];exact Gq R.gc key o d
theorem Ca (g:GC C):(wIns C j).Nodup:=(bD.mp g.nd).1.filter _
theorem Fy (g:GC C):(wOuts C prs).Nodup:=g.ond.filter _
theorem Cp {g:Aa Af}{v:Af->Int}:(g.map λx=>(x,v x)).map (·.1)=g:=by simp[cJ]
theorem DB (h:g[i]?=some (.o d)) (k:j (.v d) (g.set i (.v d))):vd i l g j:=by
 unfold vd;rw[h];exact k
noncomputable def vH (os:Aa Af) (a b:Af->Int) (n:Nat):mL:=(os.take n).map (λo=>(o,b o))++(os.drop n).map λo=>(o,a o)
theorem Gk (os:Aa Af) (a b:Af->Int) (n:Nat):(vH os a b n).map (·.1)=os:=by
 unfold vH;rw[aQ,Cp,Cp,gJ]
theorem HX {os:Aa Af}(g:os.Nodup) (h:os[n]?=some o):look (vH os a b n) o=a o/\qQ (vH os a b n) o (b o)=vH os a b (n+1):=by
 obtain⟨t,q⟩:=aX.mp h;have e:os.drop n=o::os.drop (n+1):=by rw[List.drop_eq_getElem_cons t,q]
 have k:os.take (n+1)=os.take n++[o]:=by rw[bR,h];rfl
 have i:os=os.take n++o::os.drop (n+1):=by rw[<- e,gJ]
 have c:=g;rw[i] at c;have f:o∉os.take n:=λz=>(bD.mp c).2.2 o z o aF rfl
 have m:o∉os.drop (n+1):=(bP.mp (bD.mp c).2.1).1;constructor
 .unfold vH;rw[Eu,Cp,aM f,e,aK,rD,aR rfl]
 .unfold qQ;rw[aR (by rw[Gk];exact aL h)];unfold vH;rw[k,e,aQ,aQ,aK,aK,bJ];have same:∀ (d:Aa Af) (v:Af->Int),o∉d->(d.map λx=>(x,v x)).map (λp=>if p.1=o then (p.1,b o) else p)=d.map λx=>(x,v x):=λd v u=>by
   rw[aJ];refine bV λx s=>?_
   have ne:¬ x=o:=λz=>u (by rw[<- z];exact s)
   show (if x=o then (x,b o) else (x,v x))=_;rw[aM ne]
  rw[same _ _ f,same _ _ m];show _++(if o=o then _ else _)::_=_;rw[aR rfl];rfl
def Fg (C:Cel) (g:Aa (Af×Af)) (wf:Af->Int) (j:Nat):Aa Int:=(wIns C g).map λx=>wf x/2 ^ j%2
def Gc (C:Cel) (g:Aa (Af×Af)) (wf l:Af->Int):Nat->Aa Int
 | 0=>g.map λp=>l p.2
 | j+1=>pY C g (Gc C g wf l j) (Fg C g wf j)
def uB (C:Cel) (g:Aa (Af×Af)) (wf l:Af->Int) (j:Nat):Af->Int:=rL C g (Gc C g wf l j) (Fg C g wf j)
def rB (C:Cel) (g:Aa (Af×Af)) (wf l:Af->Int) (j:Nat):Af->Int:=look (sX C g (Gc C g wf l j) (Fg C g wf j))
theorem X0 (C:Cel) (g:Aa (Af×Af)) (wf l:Af->Int):∀ j,Gc C g wf l j=g.map λp=>pH l (uB C g wf l) j p
 | 0=>rfl
 | j+1=>rfl
theorem Xi (C:Cel) (j:Aa (Af×Af)) (f:Af×Af->Int) (g:Af->Int):sX C j (j.map f) ((wIns C j).map g)=(j.map λp=>(p.2,f p))++(wIns C j).map λx=>(x,g x):=by
 unfold sX;rw[mB (by simp),List.zip_map',<- jQ (wIns C j),aJ,List.zip_map'];simp
theorem Tc (r:(g.map (·.2)).Nodup) (o:p∈g):rB C g wf l j p.2=pH l (uB C g wf l) j p:=by
 unfold rB;have a:(g.map λp=>(p.2,pH l (uB C g wf l) j p)).map (·.1)=g.map (·.2):=by simp[cJ]
 rw[X0,show Fg C g wf j=(wIns C g).map λx=>wf x/2 ^ j%2 from rfl,Xi,Eu,a,aR (aI.mpr ⟨p,o,rfl⟩)];exact zH (p:=(p.2,pH l (uB C g wf l) j p)) (by rw[a];exact r) (aI.mpr ⟨p,o,rfl⟩)
theorem Vc (o:x∈wIns C g):rB C g wf l j x=wf x/2 ^ j%2:=by
 unfold rB;have a:(g.map λp=>(p.2,pH l (uB C g wf l) j p)).map (·.1)=g.map (·.2):=by simp[cJ]
 have b:x∉g.map (·.2):=λz=>by
  have:=(bM.mp o).2;rw[bE z] at this;cases this
 rw[X0,show Fg C g wf j=(wIns C g).map λx=>wf x/2 ^ j%2 from rfl,Xi,Eu,a,aM b];exact Lq o
theorem Ma (h:RwOk C g) (o:∀ p∈g,nL (l p.2)) (W:Nat):RunOk C g W wf l (uB C g wf l) (rB C g wf l):=⟨o,λj _=>rfl,λj _ x b=>Vc b,λj _ p a=>Tc h.n2 a⟩
theorem Ik {j:Type}{f g h:j->Int}{k:Int}:∀ {xs:Aa j},(∀ x∈xs,f x=g x+k*h x)->(xs.map f).sum=(xs.map g).sum+k*(xs.map h).sum
 | [],_=>by simp
 | x::r,e=>by
  rw[aK,aK,aK,dR,dR,dR,Ik λy a=>e y (aP _ a),e x aF,iC];omega
theorem Eo {g:Type}{f:g->Int}:∀ {xs:Aa g},(∀ x∈xs,f x=0)->(xs.map f).sum=0
 | [],_=>rfl
 | x::r,h=>by rw[aK,dR,h x aF,Eo λy a=>h y (aP _ a)];rfl
theorem W6 (a:Int) (g:0<=a):∀ W,sN (λj=>2 ^ j*(a/2 ^ j%2)) W=a%2 ^ W
 | 0=>by show (0:Int)=a%2 ^ 0;rw[Int.pow_zero,Int.emod_one]
 | W+1=>by
  show sN (λj=>2 ^ j*(a/2 ^ j%2)) W+2 ^ W*(a/2 ^ W%2)=_;rw[W6 a g W,Int.pow_succ];have e:(0:Int)<2 ^ W:=Int.pow_pos (by decide);have f:=kK a (2 ^ W);have b:=kK (a/2 ^ W) 2;have c:a/(2 ^ W*2)=a/2 ^ W/2:=(Int.ediv_ediv_of_nonneg (Int.le_of_lt e)).symm;have d:=kK a (2 ^ W*2);rw[c] at d;have h:(2:Int) ^ W*(a/2 ^ W)=2 ^ W*(a/2 ^ W%2)+2 ^ W*2*(a/2 ^ W/2):=by
   rw[kM,<- iC,b]
  omega
def Bg (C:Cel) (g:Aa (Af×Af)) (t:mL) (wf l:Af->Int) (u:Nat->Af->Int) (W:Nat):Int:=look t "" * (2 ^ W-1)+((wIns C g).map λx=>look t x*sN (λj=>2 ^ j*(wf x/2 ^ j%2)) W).sum+((wOuts C g).map λo=>look t o*sN (λj=>2 ^ j*u j o) W).sum+(g.map λp=>look t p.2*(l p.2-pH l u W p*2 ^ W)).sum
theorem PB (h:RwOk C l) (t:mL) (wf r:Af->Int) (W:Nat):Bg C l t wf r (uB C l wf r) (W+1)=Bg C l t wf r (uB C l wf r) W+2 ^ W*pQ C l t (uB C l wf r W):=by
 have n:∀ x∈C.ins,uB C l wf r W x=rB C l wf r W x:=λx e=>G1 h.gc _ e
 have i:(2:Int) ^ (W+1)=2 ^ W*2:=Int.pow_succ _ _;unfold Bg pQ;rw[aQ,mF,Ik (k:=2 ^ W) (g:=λx=>look t x*sN (λj=>2 ^ j*(wf x/2 ^ j%2)) W) (h:=λx=>look t x*uB C l wf r W x) (xs:=wIns C l) (λx e=>?_),Ik (k:=2 ^ W) (g:=λo=>look t o*sN (λj=>2 ^ j*uB C l wf r j o) W) (h:=λx=>look t x*uB C l wf r W x) (xs:=wOuts C l) (λx e=>?_),Ik (k:=2 ^ W) (g:=λp=>look t p.2*(r p.2-pH r (uB C l wf r) W p*2 ^ W)) (h:=λp=>look t p.2*(uB C l wf r W p.2-2*uB C l wf r W p.1)) (xs:=l) (λp f=>?_),i]
 .simp only[iC,Int.mul_sub,Int.mul_one];rw[show look t "" * (2 ^ W*2)=look t "" * 2 ^ W+2 ^ W*look t "" by rw[lZ (2 ^ W) (look t ""),<- kM];omega];omega
 .rw[n _ (h.m p f).2,Tc h.n2 f,i];show look t p.2*(r p.2-uB C l wf r W p.1*(2 ^ W*2))=_;generalize uB C l wf r W p.1=a;generalize pH r (uB C l wf r) W p=b;generalize r p.2=c;generalize look t p.2=d;generalize (2:Int) ^ W=k;have:k*(d*(b-2*a))=d*(b*k-a*(k*2)):=by
   rw[gY,Int.mul_sub,lZ k b,gY k 2 a,lZ k a,gY a k 2,lZ 2 (a*k),kM a k 2,gY k a 2]
  rw[this,<- iC]
  congr 1
  omega
 .show look t x*(sN (λj=>2 ^ j*uB C l wf r j x) W+2 ^ W*uB C l wf r W x)=_;rw[iC,gY]
 .show look t x*(sN (λj=>2 ^ j*(wf x/2 ^ j%2)) W+2 ^ W*(wf x/2 ^ W%2))=_;rw[iC,gY,n x (bM.mp e).1,Vc e]
theorem Pm (h:RwOk C g) (t:mL) (wf l:Af->Int):∀ W,Bg C g t wf l (uB C g wf l) W=sN (λj=>2 ^ j*pQ C g t (uB C g wf l j)) W
 | 0=>by
  unfold Bg;have a:((wIns C g).map λx=>look t x*sN (λj=>2 ^ j*(wf x/2 ^ j%2)) 0).sum=0:=Eo λx _=>iW _
  have b:((wOuts C g).map λo=>look t o*sN (λj=>2 ^ j*uB C g wf l j o) 0).sum=0:=Eo λx _=>iW _
  have c:(g.map λp=>look t p.2*(l p.2-pH l (uB C g wf l) 0 p*2 ^ 0)).sum=0:=Eo λp _=>by
   show _*(l p.2-l p.2*2 ^ 0)=0;rw[Int.pow_zero,Int.mul_one,Int.sub_self,iW]
  rw[a,b,c];show look t "" * (2 ^ 0-1)+0+0+0=0;rw[Int.pow_zero];simp
 | W+1=>by rw[PB h,Pm h t wf l W];rfl
def Qn (r:Af->Af) (g:Aa Af):Prop:=∀ x∈g,∀ y∈g,r x=r y->x=y
theorem Ou:∀ (l:Aa (Af×Af×Aa Af)) (kn:Aa Af) (o j:Af->Int),oO kn l->Qn r (kn++l.map (·.1))->(∀ x∈kn,j (r x)=o x)->∀ x∈kn++l.map (·.1),qS j (l.map (ren r)) (r x)=qS o l x
 | [],kn,o,j,_,_,h,x,a=>by simpa [qS] using h x (by simpa using a)
 | g::l,kn,o,j,ok,inj,h,x,a=>by
  have c:kn++(g::l).map (·.1)=(kn++[g.1])++l.map (·.1):=by simp
  rw[c] at inj a;have i:=Ou l (kn++[g.1]) (Ea o g) (Ea j (ren r g)) ok.2.2 inj (λy b=>?_) x a
  .exact i
  .unfold Ea;have d:((ren r g).2.2.map j)=g.2.2.map o:=by
    show (g.2.2.map r).map j=_;rw[aJ];exact bV λz f=>h z (ok.2.1 z f)
   by_cases z:y=g.1
   .subst z;rw[aR (show r g.1=(ren r g).1 from rfl),aR rfl,d];rfl
   .have e:¬ r y=(ren r g).1:=λq=>z (inj y (aT _ b) g.1 (by simp) q)
    rw[aM e,aM z];rcases aU.mp b with q | q
    .exact h y q
    .exact absurd (aV.mp q) z
structure Rnd (C C':Cel) (prs prs':List (Str×Str)) (r:Str->Str):Prop where
 inj:Qn r C.names
 ins:C'.ins.Perm (C.ins.map r)
 gates:C'.gates=C.gates.map (ren r)
 outs:C'.outs.Perm (C.outs.map r)
 prs:prs'.Perm (prs.map λp=>(r p.1,r p.2))
section
variable {C C':Cel}{prs prs':Aa (Af×Af)}{r:Af->Af}
theorem Rnd.eval (h:Rnd C C' prs prs' r) (R:RwOk C prs) (e:∀ x∈C.ins,ρ' (r x)=ρ x):∀ x∈C.names,pC C' ρ' (r x)=pC C ρ x:=λx a=>by
 unfold pC;rw[h.gates];exact Ou C.gates C.ins ρ ρ' R.gc.gt h.inj e x a
theorem Rnd.inN (R:RwOk C prs) (g:x∈C.ins):x∈C.names:=aT _ g
theorem Rnd.snd (h:Rnd C C' prs prs' r) (R:RwOk C prs) (g:x∈C.ins):r x∈prs'.map (·.2)↔x∈prs.map (·.2):=by
 constructor
 .intro z;obtain⟨p,b,e⟩:=aI.mp z;obtain⟨q,a,rfl⟩:=aI.mp (h.prs.mem_iff.mp b);have:=h.inj q.2 (Rnd.inN R (R.m q a).2) x (Rnd.inN R g) e;exact aI.mpr ⟨q,a,this⟩
 .intro z;obtain⟨q,a,rfl⟩:=aI.mp z;exact aI.mpr ⟨(r q.1,r q.2),h.prs.mem_iff.mpr (aI.mpr ⟨q,a,rfl⟩),rfl⟩
theorem Rnd.fst (h:Rnd C C' prs prs' r) (R:RwOk C prs) (g:x∈C.outs):r x∈prs'.map (·.1)↔x∈prs.map (·.1):=by
 constructor
 .intro z;obtain⟨p,b,e⟩:=aI.mp z;obtain⟨q,a,rfl⟩:=aI.mp (h.prs.mem_iff.mp b);have:=h.inj q.1 (R.gc.os _ (R.m q a).1) x (R.gc.os _ g) e;exact aI.mpr ⟨q,a,this⟩
 .intro z;obtain⟨q,a,rfl⟩:=aI.mp z;exact aI.mpr ⟨(r q.1,r q.2),h.prs.mem_iff.mpr (aI.mpr ⟨q,a,rfl⟩),rfl⟩
theorem Rnd.wIns (h:Rnd C C' prs prs' r) (R:RwOk C prs):(wIns C' prs').Perm ((wIns C prs).map r):=by
 unfold Lw.wIns;refine (h.ins.filter _).trans (List.Perm.of_eq ?_);rw[List.filter_map];refine cC (List.map r) (List.filter_congr λx a=>?_);simp only[Function.comp,h.snd R a]
theorem Rnd.wOuts (h:Rnd C C' prs prs' r) (R:RwOk C prs):(wOuts C' prs').Perm ((wOuts C prs).map r):=by
 unfold Lw.wOuts;refine (h.outs.filter _).trans (List.Perm.of_eq ?_);rw[List.filter_map];refine cC (List.map r) (List.filter_congr λx a=>?_);simp only[Function.comp,h.fst R a]
end
def Bb (x:Af):Af:=if x = "-" then "" else x
def Aq (k:Kit):mL:=(rQ k).map λp=>(Bb p.1,p.2)
def xH (k:Kit):Cel:=⟨kI k,(kG k).map nB,kO k⟩
theorem VB:(pJ.all λk=>(mI (kI k).length).all λb=>decide (pQ (xH k) (nI (kP k)) (Aq k) (pC (xH k) (look ((kI k).zip b)))=0))=true:=by decide +kernel
theorem WH (j:Aa (Af×Af×Aa Af)):j.map (ren id)=j:=by
 rw[show (ren id)=id from funext λg=>by unfold ren;rw[List.map_id];rfl,jQ]
theorem W0 {kn:Aa Af}(ok:oO kn j) (h:∀ x∈kn,g x=l x):∀ x∈kn++j.map (·.1),qS g j x=qS l j x:=λx a=>by
 have:=Ou (r:=id) j kn l g ok (λx _ y _ e=>e) h x a;rw[WH] at this;exact this
theorem V7 (g:∀ x∈C.ins,o x=u x) (j:∀ x∈C.outs,o x=u x) (l:∀ p∈prs,p.1∈C.outs/\p.2∈C.ins):pQ C prs t o=pQ C prs t u:=by
 unfold pQ
 congr 1
 .congr 1
  refine cC List.sum (bV λx a=>?_);rcases aU.mp a with q | q
  .rw[g x (bM.mp q).1]
  .rw[j x (bM.mp q).1]
 .refine cC List.sum (bV λp h=>?_);rw[g _ (l p h).2,j _ (l p h).1]
theorem O9 {l m:Aa Int}(h:l.Perm m):l.sum=m.sum:=by
 induction h with
 | nil=>rfl
 | cons x _ c=>rw[dR,dR,c]
 | swap x y l=>simp only[dR];omega
 | trans _ _ a b=>exact a.trans b
theorem EG (h:Rnd C I j g r) (R:RwOk C j) (U:look o "" = look t "") (T:∀ x∈C.names,look o (r x)=look t x) (J:∀ x∈C.names,l (r x)=u x):pQ I g o l=pQ C j t u:=by
 unfold pQ;rw[U];have c:((wIns I g++wOuts I g).map λx=>look o x*l x).Perm (((wIns C j++wOuts C j).map r).map λx=>look o x*l x):=by
  rw[aQ (f:=r)];exact ((h.wIns R).append (h.wOuts R)).map _
 have d:=h.prs.map λp=>look o p.2*(l p.2-2*l p.1)
 rw[O9 c,O9 d,aJ,aJ]
 congr 1
 .congr 1
  refine cC List.sum (bV λx q=>?_);have:x∈C.names:=by
   rcases aU.mp q with q | q
   .exact aT _ (bM.mp q).1
   .exact R.gc.os _ (bM.mp q).1
  show look o (r x)*l (r x)=_;rw[T x this,J x this]
 .refine cC List.sum (bV λp q=>?_);have a:=R.gc.os _ (R.m p q).1;have b:p.2∈C.names:=aT _ (R.m p q).2;show look o (r p.2)*(l (r p.2)-2*l (r p.1))=_;rw[T _ b,J _ b,J _ a]
theorem S3 (g:k∈pJ):oO (kI k) ((kG k).map nB):=(Cd g).gt
theorem NO (g:k∈pJ) (j:∀ x∈kI k,nL (ρ x)):pQ (xH k) (nI (kP k)) (Aq k) (pC (xH k) ρ)=0:=by
 have b:=Cd g;have f:=cF.mp (cF.mp VB k g) ((kI k).map ρ) (Mz (by simp) λx a=>by
  obtain⟨y,m,rfl⟩:=aI.mp a;exact j y m)
 have h:=cD f;have n:(kI k).Nodup:=(bD.mp b.nd).1;have e:∀ x∈kI k,ρ x=look ((kI k).zip ((kI k).map ρ)) x:=λx a=>by
  have z:=Wb (ks:=kI k) (vs:=(kI k).map ρ) n (by simp);exact (List.map_inj_left.mp z x a).symm
 have c:∀ x∈kI k++((kG k).map nB).map (·.1),pC (xH k) ρ x=pC (xH k) (look ((kI k).zip ((kI k).map ρ))) x:=W0 (S3 g) e;have d:((kG k).map nB).map (·.1)=kH k:=by rw[aJ];rfl
 rw[d] at c;rw[<- h];refine V7 (λx a=>c x (aT _ a)) (λx a=>c x (aN _ (b.oh x a))) λp i=>b.pm p i
theorem Qy:∀ (g j:Aa (Af×Af×Aa Af)) (l:Af->Int),qS l (g++j)=qS (qS l g) j
 | [],_,_=>rfl
 | _::g,j,_=>Qy g j _
theorem U7:∀ (l:Aa (Af×Af×Aa Af)) (j:Af->Int),x∉l.map (·.1)->qS j l x=j x
 | [],_,_=>rfl
 | g::l,j,h=>by
  show qS (λy=>if y=g.1 then sO g.2.1 (g.2.2.map j) else j y) l x=j x;rw[U7 l _ λz=>h (aP _ z)];exact aM λz=>h (by rw[z];exact aF)
def tP (C:Cel) (g:Aa (Af×Af)) (t:mL):Prop:=∀ a:Af->Int,(∀ x∈C.ins,nL (a x))->pQ C g t (pC C a)=0
theorem GB (j:k∈pJ){pF:Aa (Af×Af×Aa Af)}(R:RwOk ⟨kI k,pF++(kG k).map nB,kO k++g⟩ (nI (kP k)))
  (h:Rnd ⟨kI k,pF++(kG k).map nB,kO k++g⟩ I (nI (kP k)) al r) (J:∀ e∈g,look (Aq k) e=0) (T:look l "" = look (Aq k) "") (U:∀ x∈kI k++(pF++(kG k).map nB).map (·.1),look l (r x)=look (Aq k) x):tP I al l:=λb q=>by
 have c:=Cd j;have n:=h.eval R (ρ:=λx=>b (r x)) (ρ':=b) λ_ _=>rfl
 rw[EG h R T U n];have A:(kI k++(pF++(kG k).map nB).map (·.1)).Nodup:=R.gc.nd;have B:∀ x∈kI k,x∉pF.map (·.1):=λx a z=>(bD.mp A).2.2 x a x (by rw[aQ];exact aT _ z) rfl
 have f:((kG k).map nB).map (·.1)=kH k:=by rw[aJ];rfl
 have d:∀ x∈kI k++kH k,pC ⟨kI k,pF++(kG k).map nB,kO k++g⟩ (λx=>b (r x)) x=pC (xH k) (λx=>b (r x)) x:=λx a=>by
  show qS _ (pF++(kG k).map nB) x=_;rw[Qy];exact W0 (S3 j) (λy v=>U7 pF _ (B y v)) x (by rw[f];exact a)
 have bits:∀ x∈kI k,nL (b (r x)):=λx a=>q _ (h.ins.mem_iff.mpr (aI.mpr ⟨x,a,rfl⟩))
 have w:=NO j (ρ:=λx=>b (r x)) bits;rw[<- w,<- V7 (C:=xH k) (prs:=nI (kP k)) (t:=Aq k) (λx a=>d x (aT _ a)) (λx a=>d x (aN _ (c.oh x a))) λp u=>c.pm p u];unfold pQ;have i:wIns ⟨kI k,pF++(kG k).map nB,kO k++g⟩ (nI (kP k))=wIns (xH k) (nI (kP k)):=rfl;have m:wOuts ⟨kI k,pF++(kG k).map nB,kO k++g⟩ (nI (kP k))=wOuts (xH k) (nI (kP k))++g.filter (λo=>!decide (o∈(nI (kP k)).map (·.1))):=by
  unfold wOuts;exact lN ..
 rw[i,m,<- bJ,aQ,mF,Eo (xs:=g.filter _) λe s=>by rw[J e (bM.mp s).1,Int.zero_mul],iX]
theorem V1 {x:Af}(g:x ≠ "-") (j:x ≠ ""):∀ t:mL,look (t.map λp=>(Bb p.1,p.2)) x=look t x
 | []=>rfl
 | p::t=>by
  rw[aK,rD,rD,V1 g j t];show (if Bb p.1=x then p.2 else _)=_;unfold Bb;by_cases z:p.1 = "-"
  .rw[aR z,aM (λq=>j q.symm),aM (λq=>g (by rw[<- q];exact z))]
  .rw[aM z]
theorem Xx:∀ t:mL,(∀ p∈t,p.1 ≠ "")->look (t.map λp=>(Bb p.1,p.2)) "" = look t "-"
 | [],_=>rfl
 | p::t,h=>by
  rw[aK,rD,rD,Xx t λq a=>h q (aP _ a)];show (if Bb p.1 = "" then p.2 else _)=_;unfold Bb;by_cases z:p.1 = "-"
  .rw[aR z,aR rfl,aR z]
  .rw[aM z,aM (h p aF),aM z]
theorem V3 (g:k∈pJ):∀ p∈rQ k,p.1∈kI k++kH k\/p.1 = "-" := λp a=>by
 obtain⟨q,b,rfl⟩:=aI.mp a;exact ((Cd g).nm q b).1
theorem Iw.hold (g:k∈pJ) (h:Iw k C al j):tP C al j:=by
 obtain⟨d,u,r,m,gt,f,n,V,E,inj,L,w,M,K,i,N,O⟩:=h;have a:=Cd g;have s:((kG k).map nB).map (·.1)=kH k:=by rw[aJ];rfl
 have F:=Hd (kP k) a.pe;have S:=a.lp;have Q:=a.li;have P:=a.lg;have lo:=a.lo;have R:RwOk ⟨kI k,d++(kG k).map nB,kO k++u⟩ (nI (kP k)):=by
  refine⟨⟨m,gt,λo A=>?_,n,?_,?_,?_⟩,a.p1,a.p2,λp c=>⟨aT _ (a.pm p c).1,(a.pm p c).2⟩,?_,by omega⟩
  .refine aN _ ?_;show o∈(d++(kG k).map nB).map (·.1);rw[aQ,s];rcases aU.mp A with q | q
   .exact aN _ (a.oh o q)
   .exact aT _ (f o q)
  .show (kI k).length<=40;omega
  .show (d++(kG k).map nB).length<=40;rw[bF,aA];omega
  .show (kO k++u).length<=40;rw[bF];omega
  .show (kI k).length<=6;omega
 have one:∀ y∈kI k++kH k,y ≠ "" := λy B z=>by have:=(a.one y B).1;rw[z] at this;exact absurd this (by decide)
 have D:∀ p∈rQ k,p.1 ≠ "" := λp c z=>by
  rcases V3 g p c with q | q
  .exact one _ q z
  .rw[z] at q;exact absurd q (by decide)
 have v:∀ x∈kI k++(d++(kG k).map nB).map (·.1),look (Aq k) x=look (rQ k) x:=λx b=>V1 (i x b).1 (i x b).2 _
 refine GB g R ⟨inj,L,w,M,K⟩ (λe b=>?_) (N.trans (Xx _ D).symm) λx b=>(O x b).trans (v x b).symm
 have t:e∈kI k++(d++(kG k).map nB).map (·.1):=aN _ (by rw[aQ];exact aT _ (f e b));rw[v e t];refine ((qF (rQ k) e).2 λz=>?_).2;obtain⟨p,c,rfl⟩:=aI.mp z;rw[aQ,s] at m;obtain⟨W,G,H⟩:=bD.mp m;rcases V3 g p c with q | q
 .rcases aU.mp q with q | q
  .exact H _ q _ (aT _ (f _ b)) rfl
  .exact (bD.mp G).2.2 _ (f _ b) _ q rfl
 .exact (i _ t).1 q
theorem RwOk.row (h:RwOk C g):RowOk C g:=⟨h.gc,h.n1,h.n2,λp a=>(h.m p a).1,by have:=h.lp;omega⟩
theorem LA (R:RwOk C g) (h:tP C g t) (o:∀ p∈g,nL (l p.2)) (W:Nat):Bg C g t wf l (uB C g wf l) W=0:=by
 rw[Pm R];have e:∀ j,pQ C g t (uB C g wf l j)=0:=λj=>by
  have r:=Ma R (wf:=wf) o (j+1);rw[r.uu j (by omega)];exact h _ (r.bits R.row j (by omega)).1
 rw[Wx W λj _=>by rw[e j,iW]];exact Ua W
theorem Yz:(["name","edges"]:Aa Af).Nodup:=by decide +kernel
theorem Zt:(["name"]:Aa Af).Nodup:=by decide +kernel
theorem FQ:(["name","words","worth"]:Aa Af).Nodup:=by decide +kernel
theorem Rw:(["output","name","after"]:Aa Af).Nodup:=by decide +kernel
theorem Sk:(["output","name","carried"]:Aa Af).Nodup:=by decide +kernel
def Xb:RD:=λi e f=>∃ (C:Cel) (a:Aa (Af×Af)) (W:Nat) (c b:Aa (dT×D)) (wf d:Af->Int) (u h:Nat->Af->Int),e=[nK C a,.int W,.k c,.k b]/\RowOk C a/\RunOk C a W wf d u h/\W<=60/\(∀ x∈wIns C a,mN c (Sum.inr x)=some (.int (wf x)))/\(∀ p∈a,mN b (Sum.inr p.2)=some (.int (d p.2))) /\
 f (.v (.t [.k (gV (qG C a u W)),.k (gV (a.map λp=>(p.1,pH d u W p)))]))
section
variable {P:Ah}{K:mH}
theorem wA:FnScope ["row","width","words","edges","cell","inputs","carried","outputs","told","worth","bits","after","name"] ["row","width","words","edges"] (nA Hb):=oB
abbrev rS (C:Cel) (j:Aa (Af×Af)) (W:Nat) (l g:Aa (dT×D)) (r cr J T U p o I:Sl):Aa Sl:=[.v (nK C j),.v (.int W),.v (.k l),.v (.k g),.v (wG C),r,cr,J,T,U,p,o,I]
theorem NX (T:Txt mg) (I:Kn P w K mg base 1 "check_there" Di ["names","given"] Nq) (r:Kn P w K mg base 1 "carried_inputs" zO ["row"] Ch) (aa:Kn P w K mg base 2 "word_inputs" yR ["row"] Bt) (U:Kn P w K mg base 1 "word_outputs" Es ["row"] M5) (J:Kn P w K mg base 1 "place_worths" Df ["count"] Mc) (ab:Kn P w K mg base 2 "told_by" E3 ["cell","bits"] L9) :
  nZ P w K mg base 3 "laid" Hb ["row","width","words","edges"] Xb:=by
 refine oK wA λf ak A aj s H E dk ds Φ hr Z hR=>?_
 obtain⟨C,d,W,F,B,wf,G,u,ah,rfl,R,ac,hW,hw,he,ai⟩:=hR;have lp:=R.lp;have li:=R.gc.li;have lo:=R.gc.lo;have an:(wIns C d).length<=40:=bN (cB ..) li;have ao:(wOuts C d).length<=40:=bN (cB ..) lo;refine⟨_,(hO (mY 4 wA.nd (mP Z 0 hL)) (hO (mY 5 wA.nd (mT aa hr (aD (dK 0) gD))) (hO (rP (mT I hr (aD (dK 5) (aD (dK 2) gD)))) (hO (rP (mT I hr (aD (mT r hr (aD (dK 0) gD)) (aD (dK 3) gD)))) (hO (mY 6 wA.nd (pN (wF rfl) wP T.dict cL (aD (nY ["name"] ["edges"] [3] (nE (mT r hr (aD (dK 0) gD))) (λ_ _ _ _ _=>(mO 0 Yz)) (λ_ _ _ _ _=>(nV (aD (dK 0) (aD (mP Z 1 (dK 0)) gD))))) gD))) (hO (mY 7 wA.nd (mT U hr (aD (dK 0) gD))) (hO (mY 8 wA.nd (pN (wF rfl) wP T.dict cL (aD (nY ["name"] [] [] (nE (dK 7)) (λ_ _ _ _ _=>(mO 0 Zt)) (λ_ _ _ _ _=>(nV (aD (dK 0) (aD hL gD))))) gD))) (hO (qO (nE (mT J hr (aD (dK 1) gD))) (mO 9 wA.nd) (hO (mY 10 wA.nd (pN (wF rfl) wP T.dict cL (aD (nY ["name"] ["words","worth"] [2,9] (nE (dK 5)) (λ_ _ _ _ _=>(mO 0 FQ)) (λ_ _ _ _ _=>(nV (aD (dK 0) (aD (oE uM P6 (oE Vy FN (mP Z 1 (dK 0)) (dK 2)) hL) gD))))) gD))) (hO (rP (sZ hZ jE jF W2 Q9 (pv 10) (aD (dK 6) gD))) (hO (mY 11 wA.nd (Ai rfl (by rfl) T.dict (by rfl) T.zip (aD (mP Z 4 hL) (aD (mT ab hr (aD (dK 4) (Av (pv 10) gD))) gD)))) (hO (qO (nE (dK 7)) (mO 12 wA.nd) (mW (JH (n:=8) (m:=12) Z (pv 8) (pv 12) (uJ xM xB 9 (mP Z 11 (dK 12)))))) (mW (mY 6 wA.nd (pN (wF rfl) wP T.dict cL (aD (nY ["output","name"] ["after"] [11] (nE (mP Z 0 hL)) (λ_ _ _ _ _=>(sR (n:=2) rfl (oJ (mO 0 Rw) (oJ (mO 1 Rw) sC)))) (λ_ _ _ _ _=>(nV (aD (dK 1) (aD (mP Z 2 (dK 0)) gD))))) gD))))))))) (mW (nH (nV (aD (dK 8) (aD (pN (wF rfl) wP T.dict cL (aD (nY ["output","name"] ["carried"] [6] (nE (mP Z 0 hL)) (λ_ _ _ _ _=>(sR (n:=2) rfl (oJ (mO 0 Sk) (oJ (mO 1 Sk) sC)))) (λ_ _ _ _ _=>(nV (aD (dK 0) (aD (mP Z 2 (dK 1)) gD))))) gD)) gD))))))))))))),?_⟩;refine mJ (λL=>L=rS C d W F B .n .n .n .n .n .n .n .n) (λN Q=>⟨rfl,_,rfl,Q _ rfl⟩) ?_;rintro _ rfl;refine mJ (λL=>L=rS C d W F B (.o (.l ((wIns C d).map D.str))) .n .n .n .n .n .n .n) (λN Q=>⟨C,d,rfl,lp,by omega,.inl rfl,Q _ rfl⟩) ?_;rintro _ rfl;refine mJ (λL=>L=rS C d W F B (.v (.l ((wIns C d).map D.str))) .n .n .n .n .n .n .n) (λN Q=>?_) ?_
 .exact⟨wIns C d,F,.inr rfl,λx hx=>⟨_,hw x hx⟩,.inl rfl,Q _ rfl⟩
 rintro _ rfl;refine mJ (λL=>L=rS C d W F B (.v (.l ((wIns C d).map D.str))) .n .n .n .n .n .n .n) (λN Q=>?_) ?_
 .refine⟨C,d,rfl,lp,.inl rfl,d.map (·.2),B,.inr (by rw[aJ];rfl),λx hx=>?_,.inl rfl,Q _ rfl⟩;obtain⟨p,hp,rfl⟩:=aI.mp hx;exact⟨_,he p hp⟩
 rintro _ rfl;refine mJ (λL=>L=rS C d W F B (.v (.l ((wIns C d).map D.str))) (.o (.k (gV (oX d G u 0)))) .n .n .n .n .n .n) (λN Q=>?_) ?_
 .unfold pE dC aC;refine oN d (λp=>D.str p.2) (λp=>.t [.str p.2,.int (G p.2)]) (rS C d W F B (.v (.l ((wIns C d).map D.str))) .n .n .n .n .n .n .n) (λΨ h=>⟨C,d,rfl,lp,.inl rfl,h⟩) (by omega) (λi p ys Nx e V X=>⟨rfl,_,?_,by show 2<=1000;decide,V,X⟩) ?_
  .show some (mN B (Sum.inr p.2))=_;rw[he p (aL e)]
  have e0:sY (d.map λp=>D.t [.str p.2,.int (G p.2)])=some (gV (oX d G u 0)):=by
   rw[yD (g:=λp:Af×Af=>((Sum.inr p.2:dT),D.int (G p.2))) (λp=>⟨.str p.2,rfl,rfl⟩)];simp[gV,oX,pH]
  refine⟨_,e0,by rw[xT];unfold oX;rw[List.length_map];omega,?_⟩;rw[uV (by simpa [oX,cJ] using R.n2)];exact Q _ rfl
 rintro _ rfl;refine mJ (λL=>L=rS C d W F B (.v (.l ((wIns C d).map D.str))) (.o (.k (gV (oX d G u 0)))) (.o (.l ((wOuts C d).map D.str))) .n .n .n .n .n) (λN Q=>⟨C,d,rfl,lp,by omega,.inl rfl,Q _ rfl⟩) ?_;rintro _ rfl;refine mJ (λL=>L=rS C d W F B (.v (.l ((wIns C d).map D.str))) (.o (.k (gV (oX d G u 0)))) (.v (.l ((wOuts C d).map D.str))) (.o (.k (gV (qG C d u 0)))) .n .n .n .n) (λN Q=>?_) ?_
 .unfold pE dC aC;refine oN (wOuts C d) D.str (λo=>.t [.str o,.int 0]) (rS C d W F B (.v (.l ((wIns C d).map D.str))) (.o (.k (gV (oX d G u 0)))) (.v (.l ((wOuts C d).map D.str))) .n .n .n .n .n) (λΨ h=>h) (by omega) (λi p ys Nx e V X=>⟨by show 2<=1000;decide,V,X⟩) ?_;have e0:sY ((wOuts C d).map λo=>D.t [.str o,.int 0])=some (gV (qG C d u 0)):=by
   rw[yD (g:=λo:Af=>((Sum.inr o:dT),D.int 0)) (λp=>⟨.str p,rfl,rfl⟩)];simp[gV,qG,sN]
  refine⟨_,e0,by rw[xT];unfold qG;rw[List.length_map];omega,?_⟩;rw[uV (by unfold qG;rw[Cp];exact Fy R.gc)];exact Q _ rfl
 rintro _ rfl;refine mJ (λL=>∃ wo O Y M:Sl,L=rS C d W F B (.v (.l ((wIns C d).map D.str))) (.o (.k (gV (oX d G u W)))) (.v (.l ((wOuts C d).map D.str))) (.o (.k (gV (qG C d u W)))) wo O Y M) (λN Q=>?_) ?_
 .refine qH ((List.range W).map λi=>D.int (2 ^ i)) _ (λΨ h=>⟨W,rfl,by omega,.inl rfl,h⟩) (λj L=>∃ wo O Y M:Sl,L=rS C d W F B (.v (.l ((wIns C d).map D.str))) (.o (.k (gV (oX d G u j)))) (.v (.l ((wOuts C d).map D.str))) (.o (.k (gV (qG C d u j)))) wo O Y M) ⟨.n,.n,.n,.n,rfl⟩ ?_ ?_
  .rintro j x L hd ⟨wo,O,Y,M,rfl⟩;obtain⟨y,hy,rfl⟩:=tI hd;obtain⟨hj,rfl⟩:j<W/\j=y:=by
    obtain⟨V,X⟩:=aX.mp hy;rw[cP] at V;rw[iH] at X;exact⟨V,X⟩
   have p2:=UY (i:=j) (by omega);refine mJ (λL=>L=rS C d W F B (.v (.l ((wIns C d).map D.str))) (.o (.k (gV (oX d G u j)))) (.v (.l ((wOuts C d).map D.str))) (.o (.k (gV (qG C d u j)))) (.v (.int (2 ^ j))) (.o (.k (gV ((wIns C d).map λx=>(x,wf x/2 ^ j%2))))) Y M) (λN' S=>?_) ?_
   .unfold pE dC aC;refine oN (wIns C d) D.str (λx=>.t [.str x,.int (wf x/2 ^ j%2)]) (rS C d W F B (.v (.l ((wIns C d).map D.str))) (.o (.k (gV (oX d G u j)))) (.v (.l ((wOuts C d).map D.str))) (.o (.k (gV (qG C d u j)))) (.v (.int (2 ^ j))) O Y M) (λΨ h=>h) (by omega) (λi p ys Nx e V X=>⟨rfl,.int (wf p),?_,p2,by show (0:Int)<2;decide,by show 2<=1000;decide,V,X⟩) ?_
    .show some (mN F (Sum.inr p))=_;rw[hw p (aL e)]
    have e0:sY ((wIns C d).map λx=>D.t [.str x,.int (wf x/2 ^ j%2)])=some (gV ((wIns C d).map λx=>(x,wf x/2 ^ j%2))):=by
     rw[yD (g:=λx:Af=>((Sum.inr x:dT),D.int (wf x/2 ^ j%2))) (λp=>⟨.str p,rfl,rfl⟩)];simp[gV]
    refine⟨_,e0,by rw[xT,aA];omega,?_⟩;rw[uV (by rw[Cp];exact Ca R.gc)];exact S _ rfl
   rintro _ rfl;have ck:∀ j,(oX d G u j).map (·.1)=d.map (·.2):=λj=>by simp[oX,cJ]
   have ae:(((wIns C d).map λx=>(x,wf x/2 ^ j%2))++oX d G u j).map (·.1) |>.Nodup:=by
    rw[aQ,Cp,ck];refine bD.mpr ⟨Ca R.gc,R.n2,λa ha b hb z=>?_⟩;have:=(bM.mp ha).2;rw[bE (z▸hb)] at this;cases this
   refine mJ (λL=>L=rS C d W F B (.v (.l ((wIns C d).map D.str))) (.v (.k (gV (oX d G u j)))) (.v (.l ((wOuts C d).map D.str))) (.o (.k (gV (qG C d u j)))) (.v (.int (2 ^ j))) (.o (.k (gV (((wIns C d).map λx=>(x,wf x/2 ^ j%2))++oX d G u j)))) Y M) (λN' S=>?_) ?_
   .refine⟨rfl,?_,?_⟩
    .rw[xT,xT,aA];unfold oX;rw[List.length_map];omega
    .rw[Ll _ _ ae];exact S _ rfl
   rintro _ rfl;have has:xE (gV (((wIns C d).map λx=>(x,wf x/2 ^ j%2))++oX d G u j)) C.ins (ah j):=λx hx=>by
    refine⟨?_,(ac.bits R j hj).1 x hx⟩;by_cases q:x∈d.map (·.2)
    .obtain⟨p,hp,rfl⟩:=aI.mp q;have hm:(p.2,pH G u j p)∈((wIns C d).map λx=>(x,wf x/2 ^ j%2))++oX d G u j:=aN _ (aI.mpr ⟨p,hp,rfl⟩);rw[(qF _ p.2).1 (aI.mpr ⟨_,hm,rfl⟩),zH ae hm,ac.c j hj p hp]
    .have ag:x∈wIns C d:=bM.mpr ⟨hx,by rw[bG q];rfl⟩;have hm:(x,wf x/2 ^ j%2)∈((wIns C d).map λx=>(x,wf x/2 ^ j%2))++oX d G u j:=aT _ (aI.mpr ⟨x,ag,rfl⟩);rw[(qF _ x).1 (aI.mpr ⟨_,hm,rfl⟩),zH ae hm,ac.w j hj x ag]
   refine mJ (λL=>∃ O:Sl,L=rS C d W F B (.v (.l ((wIns C d).map D.str))) (.v (.k (gV (oX d G u j)))) (.v (.l ((wOuts C d).map D.str))) (.o (.k (gV (qG C d u j)))) (.v (.int (2 ^ j))) O (.o (.k (gV (C.outs.map λo=>(o,u j o))))) M) (λN' S=>?_) ?_
   .refine⟨rfl,_,rfl,rfl,C,_,ah j,rfl,R.gc,has,.inr (MT _ _),true,true,_,_,_,rfl,rfl,keysL_strs _,by rw[aA];omega,?_⟩;rw[IS,uV (by simpa [cJ] using R.gc.ond),<- ac.uu j hj];exact S _ ⟨_,rfl⟩
   rintro _ ⟨O,rfl⟩;refine mJ (λL=>∃ M:Sl,L=rS C d W F B (.v (.l ((wIns C d).map D.str))) (.v (.k (gV (oX d G u j)))) (.v (.l ((wOuts C d).map D.str))) (.o (.k (gV (qG C d u (j+1))))) (.v (.int (2 ^ j))) O (.o (.k (gV (C.outs.map λo=>(o,u j o))))) M) (λN' S=>?_) ?_
   .have u0:vH (wOuts C d) (λo=>sN (λj=>2 ^ j*u j o) j) (λo=>sN (λj=>2 ^ j*u j o) (j+1)) 0=qG C d u j:=by unfold vH qG;rw[List.take_zero,List.drop_zero];rfl
    have uN:vH (wOuts C d) (λo=>sN (λj=>2 ^ j*u j o) j) (λo=>sN (λj=>2 ^ j*u j o) (j+1)) (wOuts C d).length=qG C d u (j+1):=by unfold vH qG;rw[List.take_of_length_le (Nat.le_refl _),List.drop_of_length_le (Nat.le_refl _),List.map_nil,List.append_nil]
    refine qH ((wOuts C d).map D.str) _ (λΨ h=>h) (λm L=>∃ M:Sl,L=rS C d W F B (.v (.l ((wIns C d).map D.str))) (.v (.k (gV (oX d G u j)))) (.v (.l ((wOuts C d).map D.str))) (.o (.k (gV (vH (wOuts C d) (λo=>sN (λj=>2 ^ j*u j o) j) (λo=>sN (λj=>2 ^ j*u j o) (j+1)) m)))) (.v (.int (2 ^ j))) O (.o (.k (gV (C.outs.map λo=>(o,u j o))))) M) ⟨M,by rw[u0]⟩ ?_ ?_
    .rintro m x L hx ⟨M,rfl⟩;obtain⟨o,ho,rfl⟩:=tI hx;obtain⟨q1,q2⟩:=HX (Fy (prs:=d) R.gc) (a:=λo=>sN (λj=>2 ^ j*u j o) j) (b:=λo=>sN (λj=>2 ^ j*u j o) (j+1)) ho;have om:=aL ho;refine⟨_,o,rfl,rfl,by rw[Gk];exact om,by rw[Gk];exact Fy R.gc,?_,rfl,rfl,.int (u j o),?_,.inl ⟨by omega,by omega⟩,rfl,.v (.str o),?_⟩
     .have:=cC List.length (Gk (wOuts C d) (λo=>sN (λj=>2 ^ j*u j o) j) (λo=>sN (λj=>2 ^ j*u j o) (j+1)) m);rw[aA] at this;omega
     .show some (mN (gV (C.outs.map λo=>(o,u j o))) (Sum.inr o))=_;rw[O7 ((bM.mp om).1)]
     .rw[q1];show rS _ _ _ _ _ _ _ _ (.o (.k (gV (qQ _ o (sN (λj=>2 ^ j*u j o) (j+1)))))) _ _ _ _=_;rw[q2]
    .rintro L ⟨M,rfl⟩;rw[aA,uN];exact S _ ⟨M,rfl⟩
   rintro _ ⟨M,rfl⟩;unfold pE dC aC;refine oN d (λp=>D.t [.str p.1,.str p.2]) (λp=>.t [.str p.2,.int (u j p.1)]) (rS C d W F B (.v (.l ((wIns C d).map D.str))) (.v (.k (gV (oX d G u j)))) (.v (.l ((wOuts C d).map D.str))) (.o (.k (gV (qG C d u (j+1))))) (.v (.int (2 ^ j))) O (.o (.k (gV (C.outs.map λo=>(o,u j o))))) M) (λΨ h=>⟨rfl,_,rfl,h⟩) (by omega) (λi p ys Nx e V X=>⟨rfl,rfl,rfl,.int (u j p.1),?_,by show 2<=1000;decide,V,X⟩) ?_
   .show some (mN (gV (C.outs.map λo=>(o,u j o))) (Sum.inr p.1))=_;rw[O7 (R.o p (aL e))]
   have e0:sY (d.map λp=>D.t [.str p.2,.int (u j p.1)])=some (gV (oX d G u (j+1))):=by
    rw[yD (g:=λp:Af×Af=>((Sum.inr p.2:dT),D.int (u j p.1))) (λp=>⟨.str p.2,rfl,rfl⟩)];simp[gV,oX,pH]
   refine⟨_,e0,by rw[xT];unfold oX;rw[List.length_map];omega,?_⟩;rw[uV (by rw[ck];exact R.n2)];exact⟨_,_,_,_,rfl⟩
  .rintro L ⟨wo,O,Y,M,rfl⟩;rw[aA,cP];exact Q _ ⟨wo,O,Y,M,rfl⟩
 rintro _ ⟨wo,O,Y,M,rfl⟩;unfold qM Fo aC dC;refine DB rfl ?_;refine oN d (λp=>D.t [.str p.1,.str p.2]) (λp=>.t [.str p.1,.int (pH G u W p)]) (rS C d W F B (.v (.l ((wIns C d).map D.str))) (.o (.k (gV (oX d G u W)))) (.v (.l ((wOuts C d).map D.str))) (.v (.k (gV (qG C d u W)))) wo O Y M) (λΨ h=>⟨rfl,_,rfl,h⟩) (by omega) (λi p ys Nx e V X=>⟨rfl,rfl,rfl,.int (pH G u W p),?_,by show 2<=1000;decide,V,X⟩) ?_
 .have pm:=aL e;show some (mN (gV (oX d G u W)) (Sum.inr p.2))=_;have hm:(p.2,pH G u W p)∈oX d G u W:=aI.mpr ⟨p,pm,rfl⟩;rw[(qF _ p.2).1 (aI.mpr ⟨_,hm,rfl⟩),zH (by simpa [oX,cJ] using R.n2) hm]
 have e0:sY (d.map λp=>D.t [.str p.1,.int (pH G u W p)])=some (gV (d.map λp=>(p.1,pH G u W p))):=by
  rw[yD (g:=λp:Af×Af=>((Sum.inr p.1:dT),D.int (pH G u W p))) (λp=>⟨.str p.1,rfl,rfl⟩)];simp[gV]
 refine⟨_,e0,by rw[xT,aA];omega,?_⟩;rw[uV (by simpa [cJ] using R.n1)];exact⟨by show 2<=1000;decide,ai⟩
end
theorem Ys:(["out","into","deck"]:Aa Af).Nodup:=by decide +kernel
theorem CI:(["name","count","weights"]:Aa Af).Nodup:=by decide +kernel
def vB (n:Int) (t:mL):mL:=t.map λp=>(p.1,n*p.2)
theorem Yb (n:Int) (t:mL):(vB n t).map (·.1)=t.map (·.1):=by unfold vB;rw[List.map_map];rfl
theorem V5:∀ t:mL,sY (t.map λp=>D.t [.str p.1,.int p.2])=some (gV t):=λt=>yD (g:=λp:Af×Int=>((Sum.inr p.1:dT),D.int p.2)) (λp=>⟨.str p.1,rfl,rfl⟩) t
def qK (g:Aa (Af×Ab Int)):Aa (dT×D):=g.map λp=>((Sum.inr p.1:dT),qE p.2)
theorem Yy:∀ j:Aa (Af×Ab Int),sY (j.map λp=>D.t [.str p.1,qE p.2])=some (qK j):=λj=>yD (g:=λp:Af×Ab Int=>((Sum.inr p.1:dT),qE p.2)) (λp=>⟨.str p.1,rfl,rfl⟩) j
theorem AO (g:Aa (Af×Ab Int)):(qK g).map (·.1)=(g.map (·.1)).map Sum.inr:=by unfold qK;rw[List.map_map,List.map_map];rfl
noncomputable def uF (g:Aa (Af×Ab Int)) (x:Af):Ab Int:=match g.find? λp=>decide (p.1=x) with
 | some p=>p.2
 | none=>none
theorem Tv:∀ {es:Aa (Af×Ab Int)}{x:Af},x∈es.map (·.1)->mN (qK es) (Sum.inr x)=some (qE (uF es x))
 | [],_,h=>absurd h (by simp)
 | q::es,x,h=>by
  unfold mN uF qK;rw[aK,cS,cS];by_cases e:q.1=x
  .subst e;rw[bE rfl,bE rfl];rfl
  .have ne:¬ ((Sum.inr q.1:dT)=Sum.inr x):=λz=>e (gC z)
   rw[bG e,bG ne];have:=Tv (es:=es) (x:=x) (by
    rw[aK] at h;exact (aO.mp h).resolve_left λz=>e z.symm)
   unfold mN uF qK at this;exact this
theorem O4:∀ {g:Aa Af},g.Nodup->(g.map (Sum.inr:Af->dT)).Nodup
 | [],_=>fE
 | x::r,h=>by
  obtain⟨b,c⟩:=bP.mp h;refine bP.mpr ⟨λm=>?_,O4 c⟩;obtain⟨y,a,e⟩:=aI.mp m;rw[gC e] at a;exact b a
theorem RN {j:Type} [DecidableEq j] {g:Aa (j×D)}{k:j}{d:D}(h:k∉g.map (·.1)):nD g k d=g++[(k,d)]:=by
 unfold nD;rw[aM];intro z;rw[bW] at z;obtain⟨p,a,e⟩:=z;exact h (aI.mpr ⟨p,a,cD e⟩)
theorem V0:∀ (b a:Aa (dT×D)),((a++b).map (·.1)).Nodup->pW a b=a++b
 | [],a,_=>by simp[pW]
 | p::b,a,h=>by
  have c:p.1∉a.map (·.1):=λq=>by
   rw[aQ] at h;exact (bD.mp h).2.2 p.1 q p.1 (by simp) rfl
  have e:pW a (p::b)=pW (nD a p.1 p.2) b:=rfl;rw[e,RN c,V0 b (a++[p]) (by simpa using h)];simp
def MS (n:Int):Aa D->Af->Ab D->Prop:=λb x c=>∃ (a:Aa (dT×D)) (v:Int),b=[.int n,.k a]/\mN a (Sum.inr x)=some (.int v)/\c=some (.t [.str x,.int (n*v)])
theorem Ox (l:Aa j) (h:∀ x∈l,f x=some (g x)):l.filterMap f=l.map g:=by
 induction l with
 | nil=>rfl
 | cons a l c=>rw[hV,h a (by simp),c λx b=>h x (by simp[b])];rfl
theorem E5 (t:mL):Cc (.k (gV t)):=.inr ⟨_,t.map λp=>V.int p.2,rfl,by
 unfold gV;rw[aJ];exact Mu (f:=λp:Af×Int=>D.int p.2) (λ_=>rfl) t⟩
def Pa:RD:=λc a b=>∃ (t:mL) (n:Int),a=[.k (gV t),.int n]/\-(2 ^ 64)<n/\n<2 ^ 64/\(t.map (·.1)).Nodup/\t.length<=1000/\b (.o (.k (gV (vB n t))))
def Gn (g:Aa (Af×Ab Int)):Prop:=∀ p∈g,p.2=none\/p.2=some 0\/p.2=some 1
def Ww:RD:=λb e f=>∃ (d c:Ad) (C:Cel) (al:Aa (Af×Af)),b=[d,c]/\e=[.r (.ref d),Jh C al]/\(al.map (·.2)).Nodup/\al.length<=4/\∀ a:Aa (Af×Ab Int),(a.map (·.1)).Perm (al.map (·.2))->Gn a->f (.o (.k (qK a)))
section
variable {P:Ah}{K:mH}
theorem FU:FnScope ["weights","count"] ["weights","count"] (nA Hr):=oB
theorem EW:FnScope ["deck","row"] ["deck","row"] (nA Gy):=oB
theorem LD (T:Txt g):nZ P w K g base 1 "_law_times" Hr ["weights","count"] Pa:=by
 refine oK FU λf M A z s H E j l J r S Q=>?_
 obtain⟨t,n,rfl,Y,Z,G,L,y⟩:=Q;refine⟨_,(mW (nH (pN (wF rfl) wP T.dict cL (aD (Rx (P:=MS n) (i:=0) (Xo (yZ ["name"] ["count","weights"] [1,0] rfl (Xh (pv 0)) rfl rfl (λe d C B D=>xO (i:=0) CI rfl (Or.inl rfl)) (λe d C B D=>Cb) (λe d C B D=>Q1 (nM (pv 0) (nM (nP wM (pv 1) (Rc S (pv 2) (pv 0) (λ_ _=>rfl))) oG))))) ?u) gD)))),?_⟩
 case u =>
  rintro _ I x _ H N F ⟨X,v,rfl,V,rfl⟩ h O o;cases h with
  | cons a h =>
   cases h with
   | cons b h =>
    cases h;cases a.flat rfl;obtain⟨c,rfl,R⟩:=b.get V rfl;unfold Cg;refine (aR rfl).mpr ?_;exact⟨_,rfl,_,rfl,_,rfl,_,rfl,c,_,rfl,R,n,v,rfl,rfl,.inl ⟨Y,Z⟩,by show 2<=sizeLine;decide,λp q=>O _ _ _ rfl (pL.new q) (.inr ⟨_,_,p,rfl,rfl,rfl,mZ⟩)⟩
 refine⟨gV t,t.map (·.1),[.int n,.k (gV t)],λx=>some (.t [.str x,.int (n*look t x)]),rfl,E5 t,by unfold gV;rw[List.map_map,List.map_map];rfl,by rw[aA];exact L,rfl,λc m=>?_,λx W=>⟨_,_,rfl,(qF t x).1 W,rfl⟩,gV (vB n t),?_,?_,?_⟩
 .rcases aO.mp m with rfl | m
  .exact .inl (.inl ⟨_,rfl⟩)
  .rw[aV.mp m];exact .inl (E5 t)
 .rw[lH,<- V5];unfold vB;rw[List.map_map];refine cC sY (Ox t λp q=>?_);simp only[Function.comp,zH G q]
 .unfold gV vB;rw[List.length_map,List.length_map];exact L
 .rw[uV (by rw[Yb];exact G)];exact y
theorem BE (T:Txt l) (j:Kn P w K l base 1 "_law_take" Wk ["deck","many"] A9) (g:Kn P w K l base 2 "_law_shuffled" Dm ["deck","some"] M4):nZ P w K l base 3 "_law_edges" Gy ["deck","row"] Ww:=by
 refine oK EW λf S A N s H E I J Φ G Q V=>?_
 obtain⟨d,c,C,al,rfl,rfl,Z,U,M⟩:=V;refine⟨_,(mW (nH (pN (wF rfl) wP T.dict cL (aD (nY ["out","into"] ["deck"] [0] (nE (mT g G (aD (dK 0) (aD (mP Q 1 hL) gD)))) (λ_ _ _ _ _=>(sR (n:=2) rfl (oJ (mO 0 Ys) (oJ (mO 1 Ys) sC)))) (λ_ _ _ _ _=>(nV (aD (dK 1) (aD (sG Q (oW (aD Hm (aD hL (aD hL (aD Hm gD))))) (mT j G (aD (dK 2) (aD hL gD)))) gD))))) gD)))),?_⟩;unfold qM dC aC tJ iV;refine⟨rfl,_,rfl,d,c,al.map tT,rfl,.inr rfl,by rw[aA];omega,λy X=>⟨.inl rfl,?_⟩⟩;obtain⟨m,O,rfl⟩:=Ya (xs:=al) X;refine⟨λi y z=>∃ a:Aa (Af×Ab Int),y=a.map (λp=>D.t [.str p.1,qE p.2])/\a.map (·.1)=(m.take i).map (·.2)/\Gn a/\z=[.v (.r (.ref d))],⟨[],rfl,rfl,λ_ h=>absurd h (by simp),rfl⟩,?_,?_⟩
 .rintro i x y z Y _ ⟨a,rfl,k,B,rfl⟩;obtain⟨p,F,rfl⟩:=tI Y;have lz:a.length<=100:=by
   have:=cC List.length k;rw[aA,aA,bS,O.length_eq] at this;omega
  have go:∀ o:Ab Int,(o=none\/o=some 0\/o=some 1)->∃ b:Aa (Af×Ab Int),a.map (λp=>D.t [.str p.1,qE p.2])++[D.t [.str p.2,qE o]]=b.map (λp=>D.t [.str p.1,qE p.2])/\b.map (·.1)=(m.take (i+1)).map (·.2)/\Gn b/\[Sl.v (.r (.ref d))]=[Sl.v (.r (.ref d))]:=λo W=>by
   refine⟨a++[(p.2,o)],by rw[aQ];rfl,?_,?_,rfl⟩
   .rw[aQ,k,bR,F,aQ];rfl
   .intro q u;rcases aU.mp u with u | u
    .exact B q u
    .rw[aV.mp u];exact W
  refine⟨rfl,rfl,by show 4<=1000;decide,d,c,4,rfl,rfl,by decide,by decide,λr G=>⟨.inl rfl,?_⟩⟩;have L:r=0\/r=1\/r=2\/r=3:=by omega
  rcases L with rfl | rfl | rfl | rfl
  .exact⟨_,rfl,by show 2<=1000;decide,by rw[aA];omega,go none (.inl rfl)⟩
  .exact⟨_,rfl,by show 2<=1000;decide,by rw[aA];omega,go (some 0) (.inr (.inl rfl))⟩
  .exact⟨_,rfl,by show 2<=1000;decide,by rw[aA];omega,go (some 1) (.inr (.inr rfl))⟩
  .exact⟨_,rfl,by show 2<=1000;decide,by rw[aA];omega,go none (.inl rfl)⟩
 .rintro y z _ ⟨a,rfl,k,B,rfl⟩;rw[aA,dD] at k;have R:(a.map (·.1)).Perm (al.map (·.2)):=by rw[k];exact O.map _
  refine⟨qK a,Yy a,?_,?_⟩
  .have:=cC List.length k;rw[aA,aA,O.length_eq] at this;unfold qK;rw[aA];omega
  .have e:pW [] (qK a)=qK a:=V0 (qK a) [] (by
    rw[fS,AO];exact O4 (R.nodup_iff.mpr Z))
   rw[e];exact M a R B
end
theorem JZ:(["name","some","weights"]:Aa Af).Nodup:=by decide +kernel
theorem KH (t:mL):(gV t).map (·.1)=(t.map (·.1)).map Sum.inr:=by unfold gV;rw[List.map_map,List.map_map];rfl
def G5:Aa D->Af->Ab D->Prop:=λc x d=>∃ (b a:Aa (dT×D)) (v m:Int),c=[.k b,.k a]/\mN b (Sum.inr x)=some (.int v)/\(mN a (Sum.inr x)=some (.int m)\/(mN a (Sum.inr x)=none/\m=0))/\-(2 ^ 62)<=m/\m<=2 ^ 62/\d=some (.int (m*v))
def Xa:RD:=λf d e=>∃ (C:Cel) (a:Aa (Af×Af)) (t c b:mL) (W:Nat),d=[nK C a,.k (gV t),.int W,.k (gV c),.k (gV b)]/\RwOk C a/\tP C a t/\(∀ x,-(2 ^ 62)<=look t x/\look t x<=2 ^ 62)/\1<=W/\W<=40/\c.map (·.1)=wIns C a/\(∀ p∈c,0<=p.2/\p.2<2 ^ W)/\b.map (·.1)=a.map (·.2)/\(∀ p∈b,nL p.2)/\e (.v (.int 0))
abbrev tO (C:Cel) (g:Aa (Af×Af)) (t T J:mL) (W:Nat) (l o p r I j:Sl):Aa Sl:=[.v (nK C g),.v (.k (gV t)),.v (.int W),.v (.k (gV T)),.v (.k (gV J)),l,o,p,r,I,j]
section
variable {P:Ah}{K:mH}
theorem xV:FnScope ["row","weights","width","words","edges","told","ends","total","some","out","into"] ["row","weights","width","words","edges"] (nA Hs):=oB
theorem IF (T:Txt mg) (r:Kn P w K mg base 3 "laid" Hb ["row","width","words","edges"] Xb):nZ P w K mg base 4 "_law_total" Hs ["row","weights","width","words","edges"] Xa:=by
 refine oK xV λf au A ar s H E dk ds Φ hr U hR=>?_
 obtain⟨C,d,t,z,e,W,rfl,R,hH,af,w1,ay,kw,hz,ke,hb,ah⟩:=hR;refine⟨_,(hO (Xf (m:=99) (mT r hr (aD (dK 0) (aD (dK 2) (aD (dK 3) (aD (dK 4) gD))))) (sR (n:=2) rfl (oJ (mO 5 xV.nd) (oJ (mO 6 xV.nd) sC)))) (hO (mY 7 xV.nd (oE xM xB (B6 U (pv 1) mS hL) (oE xR yP (oE Bv Bm hL (dK 2)) hL))) (hO (qO (nE (nV (aD (dK 3) (aD (dK 5) gD)))) (mO 8 xV.nd) (mW (mY 7 xV.nd (uJ qP qX 7 (oM (Fm rfl) Iz T.sum gI (aD (Rx (P:=G5) (i:=8) (Xo (yZ ["name"] ["some","weights"] [8,1] rfl (Xh (pv 8)) rfl rfl (λZ Y C cl fp=>xO (i:=0) JZ rfl (Or.inl rfl)) (λZ Y C cl fp=>Cb) (λZ Y C cl fp=>nP wM (Qe U (pv 2) (pv 0) oD ⟨rfl,rfl,rfl,rfl⟩) (Rc U (pv 1) (pv 0) (λ_ _=>rfl))))) ?h1) gD)))))) (hO (qO (nE (mP U 0 hL)) (sR (n:=2) rfl (oJ (mO 9 xV.nd) (oJ (mO 10 xV.nd) sC))) (mW (mY 7 xV.nd (uJ qP qX 7 (oE xM xB (B6 U (pv 1) (dK 10) hL) (oE xR yP (mP U 4 (dK 10)) (oE Bv Bm (mP U 6 (dK 9)) (dK 2)))))))) (mW (nH (dK 7))))))),?_⟩
 case h1 =>
  rintro _ vs x _ H N F ⟨sv,wv,v,m,rfl,hv,hm,m1,m2,rfl⟩ pr X hF;cases pr with
  | cons a pr =>
   cases pr with
   | cons b pr =>
    cases pr;obtain⟨b1,rfl,g1⟩:=a.get hv rfl;obtain⟨b2,o,rfl,ai,g2,eo⟩:=b.get0 hm;unfold Cg;refine (aR rfl).mpr ?_;exact⟨_,rfl,b2,rfl,ai,_,rfl,o,g2,_,rfl,_,rfl,b1,_,rfl,g1,m,v,eo,rfl,.inl ⟨by omega,by omega⟩,X _ _ _ rfl (λ_ _ h=>h) (.inl rfl)⟩
 have li:=R.li;have lp:=R.lp;have av:(wIns C d).length<=C.ins.length:=cB ..;have lo:=R.gc.lo;have ag:(z.map (·.1)).Nodup:=by rw[kw];exact Ca R.gc
 have aw:(e.map (·.1)).Nodup:=by rw[ke];exact R.n2
 have vw:∀ x∈wIns C d,x∈z.map (·.1):=λx V=>by rw[kw];exact V
 have ve:∀ p∈d,p.2∈e.map (·.1):=λp S=>by rw[ke];exact aI.mpr ⟨p,S,rfl⟩
 have be:∀ p∈d,nL (look e p.2):=λp S=>hb _ (N7 (ve p S))
 obtain⟨u,aa⟩:∃ u,u=uB C d (look z) (look e):=⟨_,rfl⟩;obtain⟨B,J⟩:∃ B,B=qG C d u W:=⟨_,rfl⟩;obtain⟨Q,I⟩:∃ Q,Q=d.map λp=>(p.1,pH (look e) u W p):=⟨_,rfl⟩
 have ae:B.map (·.1)=wOuts C d:=by rw[J];unfold qG;rw[List.map_map];exact jQ _
 have aj:Q.map (·.1)=d.map (·.1):=by rw[I,aJ];rfl
 have aq:(B.map (·.1)).Nodup:=by rw[ae];exact Fy R.gc
 have ao:(Q.map (·.1)).Nodup:=by rw[aj];exact R.n1
 have ax:(2:Int) ^ W<=2 ^ 60:=by exact_mod_cast gX (show 0<2 by decide) (show W<=60 by omega)
 have p0:(0:Int)<2 ^ W:=Int.pow_pos (by decide);refine mJ (λO=>O=tO C d t z e W (.v (.k (gV B))) (.v (.k (gV Q))) .n .n .n .n) (λN X=>?_) ?_
 .refine⟨C,d,W,gV z,gV e,look z,look e,u,rB C d (look z) (look e),rfl,R.row,by rw[aa];exact Ma R be W,by omega,λx V=>(qF z x).1 (vw x V),λp S=>(qF e p.2).1 (ve p S),.inl rfl,?_⟩;rw[<- J,<- I];exact⟨rfl,rfl,X _ rfl⟩
 rintro _ rfl;refine mJ (λO=>O=tO C d t z e W (.v (.k (gV B))) (.v (.k (gV Q))) (.v (.int (look t "" * (2 ^ W-1)))) .n .n .n) (λN X=>?_) ?_
 .refine⟨rfl,_,rfl,⟨by omega,by omega,by decide⟩,?_⟩;show En ((mN (gV t) (Sum.inr (Str.ofString ""))).getD (D.int 0)) (D.int (1*2 ^ ((W:Int)).toNat-1)) _;rw[Ck,cH,Int.one_mul];exact⟨.inr ⟨by omega,by omega⟩,X _ rfl⟩
 rintro _ rfl;have alt:∀ x,mN (gV t) (Sum.inr x)=some (.int (look t x))\/(mN (gV t) (Sum.inr x)=none/\look t x=0):=λx=>by
  by_cases m:x∈t.map (·.1)
  .exact .inl ((qF t x).1 m)
  .exact .inr ((qF t x).2 m)
 have lw:z.length<=1000:=by have:=cC List.length kw;rw[aA] at this;omega
 have ak:B.length<=1000:=by
  have:=cC List.length ae;have h2:(wOuts C d).length<=C.outs.length:=cB ..;rw[aA] at this;omega
 have one:∀ (s:mL) (i:Int) (G:Sl),(s.map (·.1)).Nodup->s.length<=1000->∀ De:DEnds,De.nx (tO C d t z e W (.v (.k (gV B))) (.v (.k (gV Q))) (.v (.int (i+(s.map λp=>look t p.1*p.2).sum))) (.v (.k (gV s))) .n .n) ->
   pE 7 (uZ Dv 7 (dC Jv (aC (Gj 8 [8,1] G5) An))) dk De (tO C d t z e W (.v (.k (gV B))) (.v (.k (gV Q))) (.v (.int i)) (.v (.k (gV s))) .n .n):=λs i G an ls De hQ=>by
  refine⟨rfl,gV s,s.map (·.1),[.k (gV s),.k (gV t)],λx=>some (.int (look t x*look s x)),rfl,E5 s,KH s,by rw[aA];exact ls,rfl,λc hc=>?_,λx V=>⟨_,_,_,_,rfl,(qF s x).1 V,alt x,(af x).1,(af x).2,rfl⟩,s.map λp=>look t p.1*p.2,?_,?_⟩
  .rcases aO.mp hc with rfl | hc
   .exact .inl (E5 s)
   .rw[aV.mp hc];exact .inl (E5 t)
  .rw[lH,Ox (g:=λp:Af×Int=>D.int (look t p.1*p.2)) s λp S=>by simp only[Function.comp,zH an S]];rw[<- Iq,aJ];rfl
  .exact hQ
 refine mJ (λO=>∃ G,O=tO C d t z e W (.v (.k (gV B))) (.v (.k (gV Q))) (.v (.int (look t "" * (2 ^ W-1)+(z.map λp=>look t p.1*p.2).sum+(B.map λp=>look t p.1*p.2).sum))) G .n .n) (λN X=>?_) ?_
 .refine qH [.k (gV z),.k (gV B)] _ (λΨ h=>⟨by show 2<=1000;decide,h⟩) (λi O=>∃ G,O=tO C d t z e W (.v (.k (gV B))) (.v (.k (gV Q))) (.v (.int (look t "" * (2 ^ W-1)+(if 0<i then (z.map λp=>look t p.1*p.2).sum else 0)+(if 1<i then (B.map λp=>look t p.1*p.2).sum else 0)))) G .n .n) ⟨.n,?_⟩ ?_ ?_
  .show _=tO C d t z e W _ _ (.v (.int (look t "" * (2 ^ W-1)+0+0))) _ _ _;rw[iX,iX]
  .rintro i x O V ⟨G,rfl⟩;cases i with
   | zero =>
    cases V;show pE 7 (uZ Dv 7 (dC Jv (aC (Gj 8 [8,1] G5) An))) dk _ (tO C d t z e W _ _ (.v (.int _)) (.v (.k (gV z))) .n .n);refine one z _ G ag lw _ ?_;refine⟨.v (.k (gV z)),?_⟩
    .show tO C d t z e W _ _ (.v (.int (look t "" * (2 ^ W-1)+0+0+(z.map λp=>look t p.1*p.2).sum))) _ _ _=tO C d t z e W _ _ (.v (.int (look t "" * (2 ^ W-1)+(z.map λp=>look t p.1*p.2).sum+0))) _ _ _;rw[iX,iX,iX]
   | succ i =>
    cases i with
    | zero =>
     cases V;show pE 7 (uZ Dv 7 (dC Jv (aC (Gj 8 [8,1] G5) An))) dk _ (tO C d t z e W _ _ (.v (.int _)) (.v (.k (gV B))) .n .n);refine one B _ G aq ak _ ?_;refine⟨.v (.k (gV B)),?_⟩
     .show tO C d t z e W _ _ (.v (.int (look t "" * (2 ^ W-1)+(z.map λp=>look t p.1*p.2).sum+0+(B.map λp=>look t p.1*p.2).sum))) _ _ _=tO C d t z e W _ _ (.v (.int (look t "" * (2 ^ W-1)+(z.map λp=>look t p.1*p.2).sum+(B.map λp=>look t p.1*p.2).sum))) _ _ _;rw[iX]
    | succ i=>cases V
  .rintro O ⟨G,rfl⟩;exact X _ ⟨G,rfl⟩
 rintro _ ⟨G,rfl⟩;have ab:∀ p∈d,nL (pH (look e) u W p):=λp S=>by
  obtain⟨W',rfl⟩:∃ W',W=W'+1:=⟨W-1,by omega⟩;rw[aa];exact ((Ma R be (W'+1)).bits R.row W' (by omega)).2 p.1 (R.row.o p S)
 have ac:look t "" * (2 ^ W-1)+(z.map λp=>look t p.1*p.2).sum+(B.map λp=>look t p.1*p.2).sum+(d.map λp=>look t p.2*(look e p.2-pH (look e) u W p*2 ^ W)).sum=0:=by
  have h0:=LA R hH (wf:=look z) be W;rw[<- aa] at h0;unfold Bg at h0;rw[<- h0,<- kw,aJ,J];unfold qG;rw[aJ,bV (l:=z) (f:=λp:Af×Int=>look t p.1*p.2) (λp S=>?_)]
  .rfl
  .obtain⟨z0,z1⟩:=hz p S;show look t p.1*p.2=look t p.1*sN (λj=>2 ^ j*(look z p.1/2 ^ j%2)) W;rw[zH ag S,W6 p.2 z0 W,Int.emod_eq_of_lt z0 z1]
 refine mJ (λO=>∃ G L M,O=tO C d t z e W (.v (.k (gV B))) (.v (.k (gV Q))) (.v (.int 0)) G L M) (λN X=>?_) ?_
 .refine qH (d.map λp:Af×Af=>D.t [.str p.1,.str p.2]) _ (λΨ h=>⟨rfl,_,rfl,h⟩) (λi O=>∃ G L M,O=tO C d t z e W (.v (.k (gV B))) (.v (.k (gV Q))) (.v (.int (look t "" * (2 ^ W-1)+(z.map λp=>look t p.1*p.2).sum+(B.map λp=>look t p.1*p.2).sum+((d.take i).map λp=>look t p.2*(look e p.2-pH (look e) u W p*2 ^ W)).sum))) G L M) ⟨G,.n,.n,by simp⟩ ?_ ?_
  .rintro i x O V ⟨G,L,M,rfl⟩;obtain⟨y,hy,rfl⟩:=tI V;have ym:=aL hy;have hm:(y.1,pH (look e) u W y)∈Q:=by rw[I];exact aI.mpr ⟨y,ym,rfl⟩
   refine⟨rfl,rfl,rfl,rfl,_,rfl,rfl,D.int (look e y.2),?_,rfl,D.int (pH (look e) u W y),?_,⟨by omega,by omega,by rcases ab y ym with q | q<;>rw[q]<;>decide⟩,?_⟩
   .show some (mN (gV e) (Sum.inr y.2))=_;rw[(qF e y.2).1 (ve y ym)]
   .show some (mN (gV Q) (Sum.inr y.1))=_;rw[(qF _ y.1).1 (aI.mpr ⟨_,hm,rfl⟩),zH ao hm]
   .show En ((mN (gV t) (Sum.inr y.2)).getD (D.int 0)) (D.int (look e y.2-pH (look e) u W y*2 ^ ((W:Int)).toNat)) _;rw[Ck,cH];refine⟨.inr (by rcases be y ym with q | q<;>rcases ab y ym with q' | q'<;>rw[q,q']<;>exact⟨by omega,by omega⟩),G,.v (.str y.1),.v (.str y.2),?_⟩;rw[Lf (λp:Af×Af=>look t p.2*(look e p.2-pH (look e) u W p*2 ^ W)) hy,<- Int.add_assoc];rfl
  .rintro O ⟨G,L,M,rfl⟩;rw[aA,dD,ac];exact X _ ⟨G,L,M,rfl⟩
 rintro _ ⟨G,L,M,rfl⟩;exact ah
end
end Lw
namespace L2
open PySem PySem.Spec PyProof.Rows Lw
section
variable {X:Cx}{K:mH}
def Qw (K:mH):R2:=λx y H Q=>∃ (p a:Ad) (c:Aa (Ad×Aa Int)) (b:Aa Int),x = .ref a/\H a=some (.t (b.map V.int))/\y = .ref p/\nG K H p (c.map λz=>V.ref z.1)/\wE H c/\Q (.b (!decide (b∈c.map (·.2)))) H
theorem US (g:X.A.units+1<cLine):nC X (compareOp .NotIn) (Qw X.K):=by
 intro d s w H x y v u Q I m n h;obtain⟨p,a,t,b,rfl,e,rfl,f,c,q⟩:=h;cases n;cases m;obtain⟨i,r,k,_⟩:=I.tuple f;have:=Km r;subst this;refine SeqAt.notIn_tupleAt (A5 t b) k (VN (X:=X) g I.hok c e) ⟨.b _,H,I,rfl,?_⟩;rw[RP c];exact q
def Y1:O2:=λd e a=>∃ (b:Aa Int) (bs:Aa (Aa Int)),d=nX b/\e = .t (bs.map nX)/\a (.v (.b (!decide (b∈bs))))
theorem QC:oY K (Qw K) Y1:=by
 rintro B L H _ _ x y q Q hd e f ⟨b,bs,rfl,rfl,d⟩ k;obtain⟨p,n,rfl,h,r⟩:=f.tup_inv;obtain⟨m,rfl,i,rfl⟩:=Lm r;obtain⟨a,rfl,c⟩:=Lx (show Rep K (Al B (hI L)) H (nX b) x from e);exact⟨p,a,m,b,rfl,c,rfl,nG.of h,i,k _ _ H d (hd.pushF (.b _))⟩
def Yr:R2:=λx y H Q=>∃ b c,x = .b b/\y = .b c/\Q (.b (!(b == c))) H
theorem DI:nC X (compareOp .IsNot) Yr:=by
 intro a s f H x y v u Q I d e h;obtain⟨b,c,rfl,rfl,q⟩:=h;cases d;cases e;show wpAny _ _ (compareOp .IsNot (.bool b) (.bool c)) _ _ s;unfold compareOp;exact aE ⟨.b (!(b == c)),H,I,by cases b<;>cases c<;>rfl,q⟩
def Zn:O2:=λd e a=>∃ b c,d = .b b/\e = .b c/\a (.v (.b (!(b == c))))
theorem HZ:oY K Yr Zn:=by
 intro B L H d e x y m Q hd h i f k;obtain⟨b,c,rfl,rfl,a⟩:=f;have:=h.bl_inv;have:=i.bl_inv
 subst_vars
 exact⟨b,c,rfl,rfl,k _ _ H a (hd.pushF (.b _))⟩
end
section
theorem Zm {l m:Ad}{j o:Aa Ac}{s:Ae}(J:IsTup s.heap l j.toArray) (T:IsTup s.heap m o.toArray) (U:j.length=o.length) (hu:A.units<cLine)
  (C:∀ p∈j.zip o,Nr g w A.in1 s p.1 p.2){Q:Ac->Ae->Prop}(I:Q (.bool true) s):wpAny (model g w) A (compareOp .Eq (.ref l) (.ref m)) Q E s:=by
 obtain⟨q,g1,h,k,d1⟩:=id J;obtain⟨t,g2,i,n,d2⟩:=id T;have d:s.TypeIs (.ref l) "tuple" := ⟨_,g1,h⟩;have f:s.TypeIs (.ref m) "tuple" := ⟨_,g2,i⟩;refine wpAny_richCompare_same_room (op:=.Eq) d f F.slot_tuple_eq ?_ hu;refine dB F.slot_tuple_eq d F.entry_tuple_eq ?_ (F.args_tuple_eq_2 _ _);show wpAny _ _ (isInstance (.ref m) (.type "tuple") >>= _) _ _ s;refine aB (dO f isSubtype_tuple_tuple ?_);simp only[Bool.not_true,dZ,fY];refine aB (wpAny_tupleItemsOf g1 d1 ?_);refine aB (wpAny_tupleItemsOf g2 d2 ?_);refine aB ?_;refine wpAny_forIn_list _ (λrest r c=>r.1=none/\c=s/\∀ p∈rest,Nr g w A.in1 s p.1 p.2) _ ?_ ?_ _ _ ⟨rfl,rfl,λp a=>?_⟩
 .rintro ⟨u,v⟩ rest r c ⟨b,rfl,C⟩;refine aB (C (u,v) aF _ _ ?_);exact aE ⟨rfl,rfl,λp a=>C p (aP _ a)⟩
 .rintro ⟨x,y⟩ c ⟨b,rfl,_⟩;simp only at b;subst b;refine aE ⟨_,rfl,(λe=>nomatch e),?_⟩;have e:(j.toArray.size == o.toArray.size)=true:=by rw[aZ,aZ,U];simp
  show Q (.bool (j.toArray.size == o.toArray.size)) _;rw[e];exact I
 .exact C p (by simpa using a)
end
section
variable {X:Cx}{K:mH}
def R9:R2:=λx y H Q=>∃ (l m:Ad) (a:Af) (n:Int) (p q c d:V),x = .ref l/\y = .ref m/\H l=some (.t [.str a,.int n,p,q])/\H m=some (.t [.str a,.int n,c,d])/\Je H p c/\Je H q d/\Q (.b true) H
theorem JX (r:X.A.units+64<cLine):nC X (compareOp .Eq) R9:=by
 intro t s T H x y v u Q I Z g h;obtain⟨l,m,a,n,p,q,C,J,rfl,rfl,P,R,j,o,k⟩:=h;cases Z;cases g;obtain⟨S,c,W,_⟩:=I.tuple (nG.of (K:=X.K) P);obtain⟨i,d,Y,_⟩:=I.tuple (nG.of (K:=X.K) R);refine Zm W Y (by rw[<- c.length,<- d.length];rfl) (by omega) ?_ ⟨.b true,H,I,rfl,k⟩;cases c with
 | cons B c=>cases c with
  | cons D c=>cases c with
   | cons F c=>cases c with
    | cons G c =>
     cases c;cases d with
     | cons L d=>cases d with
      | cons M d=>cases d with
       | cons N d=>cases d with
        | cons O d =>
         cases d;intro z f;simp only[cW,List.zip_nil_right,aO,bH,fL] at f;rcases f with rfl | rfl | rfl | rfl
         .have:=Gu (A:=X.A.in1) (s:=s) B L rfl rfl;have e:qW (V.str a) (V.str a)=true:=by simp[qW]
          rw[e] at this;exact λE Q q=>this X.prog X.w E Q q
         .have:=Gu (A:=X.A.in1) (s:=s) D M rfl rfl;have e:qW (V.int n) (V.int n)=true:=by simp[qW]
          rw[e] at this;exact λE Q q=>this X.prog X.w E Q q
         .exact j.now I F N (by rw[Around.in1_units];omega)
         .exact o.now I G O (by rw[Around.in1_units];omega)
def Zi:O2:=λd e h=>∃ (a:Af) (n:Int) (c f:mL),d = .t [.str a,.int n,.k (gV c),.k (gV f)]/\e = .t [.str a,.int n,.k (gV c),.k (gV f)]/\(c.map (·.1)).Nodup/\(f.map (·.1)).Nodup/\h (.v (.b true))
theorem IZ:oY K R9 Zi:=by
 intro B L H d e x y o Q hd V W A k;obtain⟨a,n,Y,Z,rfl,rfl,M,N,h⟩:=A;obtain⟨l,j,rfl,D,c⟩:=V.tup_inv;obtain⟨m,g,rfl,E,f⟩:=W.tup_inv;cases c with
 | cons i c=>cases c with
  | cons q c=>cases c with
   | cons s c=>cases c with
    | cons t c =>
     cases c;cases f with
     | cons u f=>cases f with
      | cons v f=>cases f with
       | cons w f=>cases f with
        | cons z f =>
         cases f;have:=i.str_inv;have:=u.str_inv;have:=q.int_inv;have:=v.int_inv
         subst_vars
         obtain⟨O,rfl,_,g1⟩:=Ir s;obtain⟨P,rfl,_,g2⟩:=Ir t;obtain⟨R,rfl,_,F⟩:=Ir w;obtain⟨S,rfl,_,G⟩:=Ir z;exact⟨l,m,a,n,_,_,_,_,rfl,rfl,D,E,⟨O,R,_,rfl,rfl,g1,F,Ut M,Ti Y⟩,⟨P,S,_,rfl,rfl,g2,G,Ut N,Ti Z⟩,k _ _ H h (hd.pushF (.b _))⟩
end
end L2
namespace Lw
open PySem L2
theorem Pg:(["bit"]:Aa Af).Nodup:=by decide +kernel
theorem CN (K:mH):PySem.W.kitOne K (.type "int") (.type "bool")=some false:=by
 unfold PySem.W.kitOne;rw[aM (by decide)];unfold PySem.W.kitCls;dsimp only;rw[aR (by decide +kernel)];unfold PySem.W.subIn;dsimp only;rfl
theorem Hg (K:mH) (v:Ac):PySem.W.kitOne K v v=some true:=by unfold PySem.W.kitOne;rw[if_pos (by simp)]
def Xj:RD:=λf d e=>∃ (a:Aa (Aa Int)) (n:Nat),d=[.t (a.map nX),.int n]/\(∀ c∈a,c.length=n/\∀ x∈c,nL x)/\n<=6/\e (.v (.b true))
section
variable {P:Ah}{K:mH}
theorem V8:FnScope ["paper","many","state"] ["paper","many"] (nA Jj):=oB
theorem HL (T:Txt p):nZ P w K p base 1 "_law_is_paper" Jj ["paper","many"] Xj:=by
 refine oK V8 λf S A G s H E I J Φ B l Y=>?_
 obtain⟨a,n,rfl,g,U,F⟩:=Y;refine⟨_,(hO (sK (zU (vL (oM (E8 K) (Dq (K:=K)) T.isinstance eW (aD (dK 0) (aD (Ef (by rfl) T.tuple cN) gD))))) (mW (nH sL)) sI) (hO (qO (nE (dK 0)) (mO 2 V8.nd) (hO (sK (G0 (Eh (zU (vL (oM (E8 K) (Dq (K:=K)) T.isinstance eW (aD (dK 2) (aD (Ef (by rfl) T.tuple cN) gD))))) (Fq (xD (wT B.units) (rN true) (oM sH rX T.len cG (aD (dK 2) gD)) (dK 1))))) (mW (nH sL)) sI) (hO (sK (xD (wT B.units) (rN true) (nY (ht:=λ_ _ _ _ _=>(vP (G0 (Eh (vL (oM (E8 K) (Dq (K:=K)) T.isinstance eW (aD (dK 0) (aD (Ef (by rfl) T.bool PyProof.Rows.boot_bool) gD)))) (Fq (zU (vL (oM (E8 K) (Dq (K:=K)) T.isinstance eW (aD (dK 0) (aD (Ef (by rfl) T.int kF) gD)))))))))) ["bit"] [] [] (nE (dK 2)) (λ_ _ _ _ _=>(mO 0 Pg)) (λ_ _ _ _ _=>(dK 0))) (oW gD)) (mW (nH sL)) sI) (mW (sK (xD (wT B.units) (rN true) (nY (ht:=λ_ _ _ _ _=>(vP (wR (Bk l) (wL true) (pv 0) (nV (aD hL (aD hL gD)))))) ["bit"] [] [] (nE (dK 2)) (λ_ _ _ _ _=>(mO 0 Pg)) (λ_ _ _ _ _=>(dK 0))) (oW gD)) (mW (nH sL)) sI))))) (mW (nH sL)))),?_⟩;refine mJ (λb=>b=[.v (.t (a.map nX)),.v (.int n),.n]) (λN u=>?_) ?_
 .exact⟨"tuple",true,rfl,Hg K _,rfl,_,rfl,uG rfl (u _ rfl)⟩
 rintro _ rfl;refine mJ (λb=>True) (λN u=>?_) (λ_ _=>F);refine qH (a.map nX) _ (λM h=>h) (λi b=>∃ L,b=[.v (.t (a.map nX)),.v (.int n),L]) ⟨.n,rfl⟩ ?_ (λ_ _=>u _ trivial);rintro i x b o ⟨L,rfl⟩;obtain⟨c,Z,rfl⟩:=tI o;obtain⟨V,R⟩:=g c (aL Z);have le:(((c.map D.int).length:Nat):Int)=(n:Int):=by rw[aA,V]
 refine mJ (λb=>b=[.v (.t (a.map nX)),.v (.int n),.v (nX c)]) (λO d=>?_) ?_
 .refine⟨"tuple",true,rfl,Hg K _,rfl,_,rfl,uG rfl ⟨rfl,_,rfl,?_⟩⟩;show if (!decide ((((c.map D.int).length:Nat):Int)=(n:Int)))=true then _ else _
  rw[bE le];exact uG rfl (d _ rfl)
 rintro _ rfl;refine mJ (λb=>b=[.v (.t (a.map nX)),.v (.int n),.v (nX c)]) (λO d=>?_) ?_
 .unfold B8 xS d2;refine vA c D.int D.int (λ_=>false) [.v (.t (a.map nX)),.v (.int n),.v (nX c)] (λM h=>h) (by omega) (λj y C Q e W X k=>?_) ?_
  .exact⟨"int",false,rfl,CN K,rfl,_,rfl,uG rfl ⟨"int",true,rfl,Hg K _,rfl,_,rfl,uG rfl (k rfl)⟩⟩
  .have m:c.filter (λ_=>false)=[]:=iJ.mpr λ_ _ z=>by cases z
   rw[m];refine⟨by show 0<=1000;decide,?_⟩;exact d _ rfl
 rintro _ rfl;unfold B8 xS d2;refine vA c D.int D.int (λ_=>false) [.v (.t (a.map nX)),.v (.int n),.v (nX c)] (λM h=>h) (by omega) (λj y C Q e W X k=>?_) ?_
 .have r:=R y (aL e);refine⟨rfl,by show 2<=1000;decide,_,_,rfl,rfl,?_⟩;rcases r with q | q
  .subst q;exact uG (c:=nb true (tR (.int 0) [.int 0,.int 1])) rfl (k rfl)
  .subst q;exact uG (c:=nb true (tR (.int 1) [.int 0,.int 1])) rfl (k rfl)
 .have m:c.filter (λ_=>false)=[]:=iJ.mpr λ_ _ z=>by cases z
  rw[m];refine⟨by show 0<=1000;decide,?_⟩;exact⟨_,rfl⟩
end
theorem CS:∀ (g:Aa (Af×Af)) (j:Af->Ab Int),(∀ p∈g,j p.2=none\/j p.2=some 0\/j p.2=some 1)->qV g j≠[]
 | g,j,h=>by
  have go:∀ g:Aa (Af×Af),(∀ p∈g,j p.2=none\/j p.2=some 0\/j p.2=some 1)->∃ b,b∈mI g.length/\uI b (rG g j)=true:=by
   intro g;induction g with
   | nil=>exact λ_=>⟨[],by simp[mI],rfl⟩
   | cons p r k =>
    intro h;obtain⟨b,a,c⟩:=k λq f=>h q (aP _ f)
    have s:∀ i:Int,(i=0\/i=1)->tF i (j p.2)=true->∃ b,b∈mI (p::r).length/\uI b (rG (p::r) j)=true:=λi d e=>by
     refine⟨i::b,?_,?_⟩
     .show i::b∈(mI r.length).map (λx=>(0:Int)::x)++(mI r.length).map (λx=>(1:Int)::x);rcases d with rfl | rfl
      .exact aT _ (aI.mpr ⟨b,a,rfl⟩)
      .exact aN _ (aI.mpr ⟨b,a,rfl⟩)
     .show (tF i (j p.2)&&uI b (rG r j))=true;rw[e,c];rfl
    rcases h p aF with e | e | e
    .exact s 0 (.inl rfl) (by rw[e];rfl)
    .exact s 0 (.inl rfl) (by rw[e];rfl)
    .exact s 1 (.inr rfl) (by rw[e];rfl)
  obtain⟨b,a,c⟩:=go g h;intro z;have:b∈qV g j:=bM.mpr ⟨a,c⟩;rw[z] at this;exact absurd this (by simp)
theorem Vk:∀ {es:Aa (Af×Ab Int)}{x:Af},x∈es.map (·.1)->∃ p∈es,uF es x=p.2
 | [],_,h=>absurd h (by simp)
 | q::es,x,h=>by
  unfold uF;rw[cS];by_cases e:q.1=x
  .rw[bE e];exact⟨q,aF,rfl⟩
  .rw[bG e];obtain⟨p,b,a⟩:=Vk (es:=es) (x:=x) (by
    rw[aK] at h;exact (aO.mp h).resolve_left λz=>e z.symm)
   exact⟨p,aP _ b,a⟩
theorem GoodRow.rw (h:GoodRow C al):RwOk C al:=⟨⟨h.good.nd,h.good.gt,h.good.os,h.good.ond,by have:=h.good.li;omega,by have:=h.good.lg;omega,by have:=h.good.lo;omega⟩,h.n1,h.n2,h.mem,h.good.li,by have:=h.la;omega⟩
theorem Cv (n:Int) (x:Af):∀ t:mL,look (vB n t) x=n*look t x
 | []=>(iW n).symm
 | p::t=>by
  have e:=Cv n x t;unfold look vB at *;rw[aK,cS,cS];by_cases h:p.1=x
  .rw[bE h]
  .rw[bG h];exact e
theorem Ov (n:Int) (f g:l->Int):∀ {j:Aa l},(∀ x∈j,f x=n*g x)->(j.map f).sum=n*(j.map g).sum
 | [],_=>(iW n).symm
 | x::r,h=>by rw[aK,aK,dR,dR,h x aF,Ov n f g λy a=>h y (aP _ a),iC]
theorem UB (n:Int) (h:tP C g t):tP C g (vB n t):=λa b=>by
 have e:=h a b;have:pQ C g (vB n t) (pC C a)=n*pQ C g t (pC C a):=by
  unfold pQ;rw[Ov n _ (λx=>look t x*pC C a x) (λx _=>by rw[Cv,kM]),Ov n _ (λp:Af×Af=>look t p.2*(pC C a p.2-2*pC C a p.1)) (λp _=>by rw[Cv,kM]),Cv,iC,iC]
 rw[this,e,iW]
def qB (t:mL):mL:=qQ t "" (look t "" + 1)
theorem GP (r:RwOk C j) (I:("" : Af)∉C.names) (t:mL) (u:Af->Int):pQ C j (qB t) u=pQ C j t u+1:=by
 have ne:∀ x∈C.names,look (qB t) x=look t x:=λx a=>by
  unfold qB;rw[Kz];exact aM λz:x = "" => I (z▸a)
 have i:∀ x∈C.ins,x∈C.names:=λx a=>aT _ a
 have o:∀ x∈C.outs,x∈C.names:=λx a=>r.gc.os x a
 unfold pQ;rw[show look (qB t) "" = look t "" + 1 by unfold qB;rw[Kz,if_pos rfl],
  bV (l:=wIns C j++wOuts C j) (g:=λx=>look t x*u x) λx a=>by
   rcases aU.mp a with h | h
   .rw[ne x (i x (bM.mp h).1)]
   .rw[ne x (o x (bM.mp h).1)],
  bV (l:=j) (g:=λp:Af×Af=>look t p.2*(u p.2-2*u p.1)) λp b=>by rw[ne p.2 (i _ (r.m p b).2)]]
 omega
theorem Mm (j:RwOk C g) (h:tP C g t) (o:c∈mI g.length) (p:l∈mI (wIns C g).length):zL C g t c l=0:=by
 obtain⟨a,b⟩:=rJ o;obtain⟨f,i⟩:=rJ p;obtain⟨_,_,d⟩:=Nt j a f b i;exact h _ λx e=>(d x e).2
theorem Ts (j:RwOk C g) (r:("" : Af)∉C.names) (h:tP C g t) (o:c∈mI g.length) (p:l∈mI (wIns C g).length):zL C g (qB t) c l=1:=by
 have e:=Mm j h o p;unfold zL at *;rw[GP j r,e];rfl
theorem LJ (j:RwOk C g) (h:tP C g t) (o:c∈mI g.length):uQ C g t c=false:=by
 unfold uQ yC;rw[eS];intro l a z;rw[bE (Mm j h o a)] at z;cases z
theorem wX:∀ n,List.replicate n (0:Int)∈mI n
 | 0=>by simp[mI]
 | n+1=>by
  show List.replicate (n+1) (0:Int)∈(mI n).map (λx=>(0:Int)::x)++(mI n).map (λx=>(1:Int)::x);exact aT _ (aI.mpr ⟨_,wX n,rfl⟩)
theorem Py (n i:Nat):(List.replicate n (0:Int)).getD i 0=0:=by
 rw[cX,List.getElem?_replicate];split<;>rfl
theorem Rq (j:RwOk C g) (r:("" : Af)∉C.names) (h:tP C g t) (o:c∈mI g.length) (p:l∈J) (I:l∈mI (wIns C g).length):yC C g (qB t) J c=true:=by
 unfold yC;refine bW.mpr ⟨l,p,?_⟩;rw[Ts j r h o I];rfl
theorem K2 (j:RwOk C g) (r:("" : Af)∉C.names) (h:tP C g t) (o:c∈mI g.length) (p:l∈J) (I:l∈mI (wIns C g).length):pP C g (qB t) c [J]=true:=by
 unfold pP;exact bW.mpr ⟨c,aV.mpr rfl,Rq j r h o p I⟩
theorem Us (j:RwOk C g) (o:("" : Af)∉C.names) (h:tP C g t) (l:c∈mI g.length):∀ i,∃ L,pS C g (qB t) c 1 i=[L]/\List.replicate (wIns C g).length (0:Int)∈L
 | 0=>⟨_,rfl,wX _⟩
 | i+1=>by
  obtain⟨L,e,b⟩:=Us j o h l i;have a:List.replicate (wIns C g).length (0:Int)∈sF i 0 L:=bM.mpr ⟨b,bE (Py _ _)⟩;refine⟨sF i 0 L,?_,a⟩;unfold pS;rw[e];show vS C g (qB t) c i [L] [L] 0=_;unfold vS;exact aR (K2 j o h l a (wX _))
theorem WZ (j:RwOk C g) (p:("" : Af)∉C.names) (h:tP C g t) (o:c∈mI g.length) (i:Nat):vR i (pS C g (qB t) c 1 (i+1))=0:=by
 obtain⟨L,e,f⟩:=Us j p h o i;have a:List.replicate (wIns C g).length (0:Int)∈sF i 0 L:=bM.mpr ⟨f,bE (Py _ _)⟩;have d:pS C g (qB t) c 1 (i+1)=[sF i 0 L]:=by
  unfold pS;rw[e];show vS C g (qB t) c i [L] [L] 0=_;unfold vS;exact aR (K2 j p h o a (wX _))
 rw[d];cases q:sF i 0 L with
 | nil=>rw[q] at a;exact (bH a).elim
 | cons l r =>
  have:l∈sF i 0 L:=by rw[q];exact aF
  have b:=cD (bM.mp this).2;show (2 ^ 0*l.getD i 0)+0=0;rw[b];rfl
theorem QW (j:RwOk C g) (o:("" : Af)∉C.names) (h:tP C g t) (l:c∈mI g.length):Gg C g (qB t) c 1=(wIns C g).map λx=>(x,(0:Int)):=by
 unfold Gg;have:∀ (a:Aa Af) (k:Nat),sS (λi=>vR i (pS C g (qB t) c 1 (i+1))) k a=a.map λx=>(x,(0:Int)):=λa=>by
  induction a with
  | nil=>intro k;rfl
  | cons x r b =>
   intro k;unfold sS;rw[b,WZ j o h l,aK]
 exact this _ _
theorem Y7:(["bits","steps","held"]:Aa Af).Nodup:=by decide +kernel
theorem HG:(["carried"]:Aa Af).Nodup:=by decide +kernel
theorem OK:(["carried","table"]:Aa Af).Nodup:=by decide +kernel
theorem WQ:(["edges","held"]:Aa Af).Nodup:=by decide +kernel
theorem HV:(["carried","table","held"]:Aa Af).Nodup:=by decide +kernel
def Ym:RD:=λi f h=>∃ (C:Cel) (d:Aa (Af×Af)) (t:mL) (c:Aa Int) (e:Aa (Aa dT×D)) (a:Aa (Aa Int)),f=[sP C d t c,.T e]/\RwOk C d/\Nd e a/\∀ b:Bool,(b=true↔Br C d t a c)->h (.v (.b b))
def Oy:RD:=λi f h=>∃ (C:Cel) (c:Aa (Af×Af)) (t:mL) (d:Aa (dT×D)) (e:Af->Ab Int) (a:Aa (Aa Int)),f=[nK C c,.t [.k d,.k (gV t)],.t (a.map nX)]/\RwOk C c/\(∀ p∈c,mN d (Sum.inr p.2)=some (qE (e p.2)))/\a.length<=1000/\∀ b:Bool,(b=true↔Lv C c t e a)->h (.v (.b b))
section
variable {P:Ah}{K:mH}
theorem JV:FnScope ["steps","held"] ["steps","held"] (nA F7):=oB
theorem Ku:FnScope ["row","claim","paper","table","held"] ["row","claim","paper"] (nA Jr):=oB
theorem TQ (T:Txt g):nZ P w K g base 1 "stays_held" F7 ["steps","held"] Ym:=by
 refine oK JV λf M A F s H E N Z p X n R=>?_
 obtain⟨C,a,t,c,i,d,rfl,Q,V,B⟩:=R;refine⟨_,(mW (nH (oM (Dr rfl) Cw T.all gL (aD (Mw ["bits"] ["steps","held"] [0,1] rfl (dK 0) rfl rfl (λ_ _ _ _ _=>(mO 0 Y7)) (λ_ _ _ _ _=>B9) (λ_ _ _ _ _=>(Wz (B1 (xZ X.units) (rN false) (sG n (mP n 1 (dK 0)) hL) hL) (Nv (Mf (Fp n) (wL false) (sG n (mP n 1 (dK 0)) hL) (pv 2)))))) gD)))),?_⟩;have W:=Q.li;have o:(wIns C a).length<=C.ins.length:=cB _ _;have O:=wC (show (wIns C a).length<=6 by omega);have S:=uL (wIns C a).length;unfold qM dC aC;refine oN (mI (wIns C a).length) mR (λl=>D.b (decide (pQ C a t (rL C a c l)=0)&&decide (pY C a c l∈d))) [.v (sP C a t c),.v (.T i)] (λY h=>?_) (by omega) (λj l m u e G y=>?_) ?_
 .show Y (tE _) _;rw[My];exact h
 .have L:=Bp (zF C a t c) (aL e);refine⟨rfl,_,L,_,rfl,?_⟩;have go:∀ q:Bool,u (m++[D.b (q&&decide (pY C a c l∈d))]) (oP [0,1] [.v (sP C a t c),.v (.T i)])->(match (Sl.v (D.b q)) with
    | Sl.v (D.b true) =>
     Fh (No false) (d2 Cq (uZ Cq 1 (vd 0)) (cd (D.int 0))) 2 N [.v (mR l),.v (sP C a t c),.v (.T i)] λr k =>
      match sd r with
      | some c=>m.length<100000/\u (m++[c]) (List.drop 1 k)
      | none=>False
    | Sl.v (D.b false) =>
     (λr k =>match sd r with
       | some c=>m.length<100000/\u (m++[c]) (List.drop 1 k)
       | none=>False)
      (Sl.v (D.b false)) [.v (mR l),.v (sP C a t c),.v (.T i)]
    | x=>False):=λq y=>by
   cases q with
   | false=>exact⟨G,y⟩
   | true =>
    refine⟨rfl,_,L,_,rfl,_,I0 (pY C a c l),G,?_⟩;show u (m++[D.b (mN i ((pY C a c l).map Sum.inl)).isSome]) _;rw[V.2];exact y
  exact go _ y
 .refine⟨(mI (wIns C a).length).map λl=>(decide (pQ C a t (rL C a c l)=0)&&decide (pY C a c l∈d)),?_,B _ ?_⟩
  .rw[<- zN,aJ];rfl
  .rw[jW,cF];refine⟨λh l z=>?_,λh l z=>?_⟩
   .have:=h l z;simp only[Function.comp,id,cE,dQ] at this;exact this
   .simp only[Function.comp,id,cE,dQ];exact h l z
theorem ER (T:Txt r) (l:Kn P w K r base 5 "step_table" Dy ["row","weights"] Ol)
  (p:Kn P w K r base 2 "let_edges" E1 ["row","edges"] Ep) (g:Kn P w K r base 1 "stays_held" F7 ["steps","held"] Ym):nZ P w K r base 6 "row_shown" Jr ["row","claim","paper"] Oy:=by
 refine oK Ku λf aa A J s H E dk ds Φ Z V hR=>?_
 obtain⟨C,d,t,m,x,a,rfl,I,he,R,W⟩:=hR;refine⟨_,(hO (mY 3 Ku.nd (mT l Z (aD (dK 0) (aD (mP V 1 hL) gD)))) (hO (mY 4 Ku.nd (pN (U4 rfl (Tq Z)) Rj T.dict cL (aD (nY ["carried"] [] [] (nE (dK 2)) (λ_ _ _ _ _=>(mO 0 HG)) (λ_ _ _ _ _=>(nV (aD (dK 0) (aD sL gD))))) gD))) (hO (sK (zU (vL (oM (Dr rfl) Cw T.all gL (aD (Mw ["carried"] ["table"] [3] rfl (dK 4) rfl rfl (λ_ _ _ _ _=>(mO 0 OK)) (λ_ _ _ _ _=>B9) (λ_ _ _ _ _=>(Mf (Fp V) (wL false) (dK 0) (pv 1)))) gD)))) (mW (nH sL)) sI) (hO (sK (zU (vL (oM (Dr rfl) Cw T.all gL (aD (nY ["edges"] ["held"] [4] (nE (mT p Z (aD (dK 0) (aD (mP V 1 hL) gD)))) (λ_ _ _ _ _=>(mO 0 WQ)) (λ_ _ _ _ _=>(Mf (Fp V) (wL false) (dK 0) (pv 1)))) gD)))) (mW (nH sL)) sI) (mW (nH (oM (Dr rfl) Cw T.all gL (aD (Mw ["carried"] ["table","held"] [3,4] rfl (dK 4) rfl rfl (λ_ _ _ _ _=>(mO 0 HV)) (λ_ _ _ _ _=>B9) (λ_ _ _ _ _=>(mT g Z (aD (mP V 1 (dK 0)) (aD (dK 2) gD))))) gD)))))))),?_⟩;have S:=I.lp;have ab:=wC S;have ac:=uL d.length;obtain⟨i,B⟩:∃ i,i=(rM nD [] (a.map λc=>(c,D.b true))):=⟨_,rfl⟩;have U:Nd i a:=by rw[B];exact OZ R
 obtain⟨⟨F,ek,mk,lk⟩,hv⟩:=id U;have kk:tE i=F.map mR:=Q8 ek;refine mJ (λO=>O=[.v (nK C d),.v (.t [.k m,.k (gV t)]),.v (.t (a.map nX)),.o (pR C d t),.n]) (λN M=>?_) ?_
 .exact⟨rfl,_,rfl,C,d,t,rfl,I,.inl rfl,M _ rfl⟩
 rintro _ rfl;refine mJ (λO=>O=[.v (nK C d),.v (.t [.k m,.k (gV t)]),.v (.t (a.map nX)),.o (pR C d t),.o (.T i)]) (λN M=>?_) ?_
 .unfold pE dC aC;refine oN a nX (λc=>D.t [nX c,.b true]) [.v (nK C d),.v (.t [.k m,.k (gV t)]),.v (.t (a.map nX)),.o (pR C d t),.n] (λY h=>h) (by omega) (λj y X Q e G L=>⟨by show 2<=1000;decide,G,L⟩) ?_;refine⟨a.map λc=>(c,D.b true),by rw[aJ];rfl,by rw[aA];exact R,?_⟩;rw[<- B];exact M _ rfl
 rintro _ rfl;have no:¬ Lv C d t x a->Φ (.v (.b false)):=λh=>W false ⟨λz=>Bool.noConfusion z,λz=>(h z).elim⟩
 refine mJ (λO=>(∀ c∈a,c∈mI d.length)/\O=[.v (nK C d),.v (.t [.k m,.k (gV t)]),.v (.t (a.map nX)),.o (pR C d t),.v (.T i)]) (λN M=>?_) ?_
 .unfold B8 K5 C3 dC aC;refine oN F mR (λc=>D.b (decide (c∈mI d.length))) [.v (nK C d),.v (.t [.k m,.k (gV t)]),.v (.t (a.map nX)),.o (pR C d t),.v (.T i)] (λY h=>?_) (by omega) (λj y X Q e G L=>?_) ?_
  .show Y (tE i) _;rw[kk];exact h
  .refine⟨_,I0 y,G,?_⟩;show Q (X++[D.b (mN _ (y.map Sum.inl)).isSome]) _;rw[EH];exact L
  .refine⟨F.map λc=>decide (c∈mI d.length),by rw[<- zN,aJ];rfl,rfl,_,rfl,?_⟩;rw[jW];by_cases q:∀ c∈a,c∈mI d.length
   .have e:F.all (id∘λc=>decide (c∈mI d.length))=true:=cF.mpr λc u=>bE (q c ((mk c).mp u))
    rw[e];exact vD (M _ ⟨q,rfl⟩)
   .have e:F.all (id∘λc=>decide (c∈mI d.length))=false:=by
     cases e:F.all (id∘λc=>decide (c∈mI d.length)) with
     | false=>rfl
     | true=>exact (q λc u=>cD (cF.mp e c ((mk c).mpr u))).elim
    rw[e];exact (aR rfl).mpr (no λz=>q z.1)
 rintro _ ⟨p1,rfl⟩;refine mJ (λO=>(∀ e∈qV d x,e∈a)/\O=[.v (nK C d),.v (.t [.k m,.k (gV t)]),.v (.t (a.map nX)),.o (pR C d t),.v (.T i)]) (λN M=>?_) ?_
 .unfold B8 K5 C3 dC aC;refine oN (qV d x) mR (λe=>D.b (decide (e∈a))) [.v (nK C d),.v (.t [.k m,.k (gV t)]),.v (.t (a.map nX)),.o (pR C d t),.v (.T i)] (λY h=>?_) ?_ (λj y X Q e G L=>?_) ?_
  .exact⟨rfl,_,rfl,C,d,m,x,rfl,S,he,.inl rfl,h⟩
  .exact bN (cB _ _) (by omega)
  .refine⟨_,I0 y,G,?_⟩;show Q (X++[D.b (mN _ (y.map Sum.inl)).isSome]) _;rw[hv];exact L
  .refine⟨(qV d x).map λc=>decide (c∈a),by rw[<- zN,aJ];rfl,rfl,_,rfl,?_⟩;rw[jW];by_cases q:∀ c∈qV d x,c∈a
   .have e:(qV d x).all (id∘λc=>decide (c∈a))=true:=cF.mpr λc u=>bE (q c u)
    rw[e];exact vD (M _ ⟨q,rfl⟩)
   .have e:(qV d x).all (id∘λc=>decide (c∈a))=false:=by
     cases e:(qV d x).all (id∘λc=>decide (c∈a)) with
     | false=>rfl
     | true=>exact (q λc u=>cD (cF.mp e c u)).elim
    rw[e];exact (aR rfl).mpr (no λz=>q z.2.1)
 rintro _ ⟨p2,rfl⟩;unfold qM dC aC
 haveI:∀ c,Decidable (Br C d t a c):=λc=>Classical.propDecidable _
 refine oN F mR (λc=>D.b (decide (Br C d t a c))) [.v (nK C d),.v (.t [.k m,.k (gV t)]),.v (.t (a.map nX)),.o (pR C d t),.v (.T i)] (λY h=>?_) (by omega) (λj y X Q e G L=>?_) ?_
 .show Y (tE i) _;rw[kk];exact h
 .have hy:y∈mI d.length:=p1 y ((mk y).mp (aL e));refine⟨rfl,_,Bp (sP C d t) hy,C,d,t,y,i,a,rfl,I,U,λb q=>⟨.inl rfl,G,?_⟩⟩;have eb:b=decide (Br C d t a y):=by
   cases b with
   | true=>exact (bE (q.mp rfl)).symm
   | false=>exact (bG λz=>aY (q.mpr z)).symm
  rw[eb];exact L
 .refine⟨F.map λc=>decide (Br C d t a c),by rw[<- zN,aJ];rfl,W _ ?_⟩;rw[jW,cF];exact⟨λh=>⟨p1,p2,λc u=>cD (h c ((mk c).mpr u))⟩,λh c u=>bE (h.2.2 c ((mk c).mp u))⟩
end
def Wi:RD:=λb e f=>∃ (d c:Ad) (a:Aa Af) (W:Nat),b=[d,c]/\e=[.r (.ref d),.l (a.map D.str),.int W]/\a.Nodup/\a.length<=100/\W<=40/\∀ t:mL,t.map (·.1)=a->(∀ p∈t,0<=p.2/\p.2<2 ^ W)->f (.o (.k (gV t)))
theorem yO (W:Nat):(1:Int)*2 ^ ((W:Int)).toNat=2 ^ W:=by rw[cH,Int.one_mul]
theorem KP (W:Nat) (h:W<=40):(0:Int)<2 ^ W/\(2:Int) ^ W<4611686018427387904:=by
 refine⟨Int.pow_pos (by decide),?_⟩;have:(2:Int) ^ W<=2 ^ 40:=by
  have:=gX (show 0<2 by decide) h
  exact_mod_cast this
 exact Int.lt_of_le_of_lt this (by decide)
theorem TW (h:x∉t.map (·.1)):qQ t x i=t++[(x,i)]:=by unfold qQ;rw[if_neg h]
section
variable {P:Ah}{K:mH}
theorem Hj:FnScope ["deck","names","width","found","name","full"] ["deck","names","width"] (nA Ix):=oB
theorem EN (g:Kn P w K mg base 1 "_law_take" yJ ["deck","many"] A9) :
  nZ P w K mg base 2 "_law_drawn_words" Ix ["deck","names","width"] Wi:=by
 refine oK Hj λf U A V s H E dk ds Φ Q I hR=>?_
 obtain⟨d,c,a,W,rfl,rfl,nd,hl,hW,S⟩:=hR;obtain⟨Y,J⟩:=KP W hW;refine⟨_,(hO (mY 3 Hj.nd Kx) (hO (qO (nE (dK 1)) (mO 4 Hj.nd) (hO (mY 5 Hj.nd (oE xR yP (oE Bv Bm hL (dK 2)) hL)) (mW (wH (n:=3) I (sG I (oW (aD (mT g Q (aD (dK 0) (aD (oE Bv Bm hL (dK 2)) gD))) (aD (dK 5) (aD hL (aD (uJ xR yP 5 (mT g Q (aD (dK 0) (aD (oE Bv Bm hL (dK 2)) gD)))) gD))))) (mT g Q (aD (dK 0) (aD hL gD)))) (pv 3) (dK 4))))) (mW (nH (B5 3 (pv 3)))))),?_⟩;refine mJ (λB=>B=[.v (.r (.ref d)),.v (.l (a.map D.str)),.v (.int W),.o (.k []),.n,.n]) (λN M=>M _ rfl) ?_;rintro _ rfl;refine mJ (λB=>∃ (t:mL) (m u:Sl),B=[.v (.r (.ref d)),.v (.l (a.map D.str)),.v (.int W),.o (.k (gV t)),m,u]/\t.map (·.1)=a/\∀ p∈t,0<=p.2/\p.2<2 ^ W) (λN M=>?_) ?_
 .refine qH (a.map D.str) _ (λΨ h=>h) (λi B=>∃ (t:mL) (m u:Sl),B=[.v (.r (.ref d)),.v (.l (a.map D.str)),.v (.int W),.o (.k (gV t)),m,u]/\t.map (·.1)=a.take i/\∀ p∈t,0<=p.2/\p.2<2 ^ W) ⟨[],.n,.n,rfl,by simp,by simp⟩ ?_ ?_
  .rintro i x B hx ⟨t,m,u,rfl,F,b⟩;obtain⟨y,R,rfl⟩:=tI hx;have hi:i<a.length:=(aX.mp R).1;have tl:t.length<=100:=by have:=cC List.length F;rw[aA,bS] at this;omega
   have tk:a.take (i+1)=a.take i++[y]:=by rw[bR,R];rfl
   have hn:y∉t.map (·.1):=λq=>by
    rw[F] at q;have e:a=a.take i++y::a.drop (i+1):=by
     obtain⟨hi,rfl⟩:=aX.mp R;rw[List.getElem_cons_drop,gJ]
    have G:=nd;rw[e] at G;exact (bD.mp G).2.2 y q y (by simp) rfl
   have fin:∀ z:Int,0<=z->z<2 ^ W->∃ (X:mL) (m u:Sl),([.v (.r (.ref d)),.v (.l (a.map D.str)),.v (.int W),.o (.k (nD (gV t) (Sum.inr y) (.int z))),.v (.str y),.v (.int (1*2 ^ ((W:Int)).toNat-1))]:Aa Sl)=[.v (.r (.ref d)),.v (.l (a.map D.str)),.v (.int W),.o (.k (gV X)),m,u]/\X.map (·.1)=a.take (i+1)/\∀ p∈X,0<=p.2/\p.2<2 ^ W:=λz Z j=>by
    refine⟨t++[(y,z)],_,_,by rw[Mb,TW hn],?_,λp hp=>?_⟩
    .rw[aQ,F,tk];rfl
    .rcases aU.mp hp with q | q
     .exact b p q
     .rw[aV.mp q];exact⟨Z,j⟩
   refine mJ (λB=>B=[.v (.r (.ref d)),.v (.l (a.map D.str)),.v (.int W),.o (.k (gV t)),.v (.str y),.v (.int (1*2 ^ ((W:Int)).toNat-1))]) (λN' O=>⟨⟨by omega,by omega,by decide⟩,O _ rfl⟩) ?_;rintro _ rfl;refine⟨⟨by omega,by omega,by decide⟩,d,c,_,rfl,rfl,by rw[yO];exact Y,by rw[yO];exact J,λr1 C=>⟨.inl rfl,rfl,⟨by omega,by omega,by decide⟩,d,c,_,rfl,rfl,by rw[yO];exact Y,by rw[yO];exact J,λr2 T=>⟨.inl rfl,by show 4<=1000;decide,d,c,4,rfl,rfl,by decide,by decide,λL h3=>⟨.inl rfl,?_⟩⟩⟩⟩;rw[yO] at C T;obtain⟨z,Z,j,hz⟩:∃ z:Int,0<=z/\z<2 ^ W/\oV [D.int r1,D.int (1*2 ^ ((W:Int)).toNat-1),D.int 0,D.int (1*2 ^ ((W:Int)).toNat-1-r2)] (L:Int)=some (.int z):=by
    have:L=0\/L=1\/L=2\/L=3:=by omega
    rcases this with rfl | rfl | rfl | rfl
    .exact⟨_,by omega,C,pB rfl⟩
    .exact⟨_,by rw[yO];omega,by rw[yO];omega,pB rfl⟩
    .exact⟨_,by omega,Y,pB rfl⟩
    .exact⟨_,by rw[yO];omega,by rw[yO];omega,pB rfl⟩
   exact⟨_,hz,rfl,_,Yc (by rw[xT];omega),fin z Z j⟩
  .rintro B ⟨t,m,u,rfl,F,b⟩;rw[aA,bL (aW _)] at F;exact M _ ⟨t,m,u,rfl,F,b⟩
 rintro _ ⟨t,m,u,rfl,F,b⟩;exact S t F b
end
theorem Zj:(["one","found"]:Aa Af).Nodup:=by decide +kernel
theorem AI:(["pair"]:Aa Af).Nodup:=by decide +kernel
theorem RO:(["name"]:Aa Af).Nodup:=by decide +kernel
def F8 (K:mH):Sp:=λe H Q _=>∃ (a:Ad) (c:Aa Int),e=[.ref a]/\mK K H a (c.map V.int)/\c.length<=63/\∀ d,Q (.b true) d
abbrev A6 (d:Ad) (C:Cel) (al:Aa (Af×Af)) (I J T U s7 s8 s9 g j l o p:Sl):Aa Sl:=[.n,.v (.r (.ref d)),.v (Jh C al),I,J,T,U,s7,s8,s9,g,j,l,o,p]
abbrev sQ (d:Ad) (C:Cel) (al:Aa (Af×Af)) (t:mL) (I:Aa (Af×Ab Int)) (g st:Aa (Aa Int)) (J T U j l o p r:Sl):Aa Sl:=A6 d C al (.v (.k (gV t))) (.v (.k (qK I))) (.v (.t [.str "shown",.t (g.map nX)])) (.v (lB st)) J T U j l o p r
section
variable {P:Ah}{K:mH}
theorem tM:FnScope ["script","deck","row","weights","edges","found","starts","into","ins","turn","width","words","bits","off","due"] ["script"] (nA Vz):=oB
theorem SF (F:Fun K "law" "law" Vz f fd) (T:Txt mg) (g:Gd K mg "_law_deck" Jg ["script"] fD bg)
  (ai:Kn P w K mg base 4 "_law_made" F6 ["deck","kit"] Ux) (aj:Kn P w K mg base 2 "_law_kit" Ii ["deck"] Pp) (I:Kn P w K mg base 1 "_law_take" Wk ["deck","many"] A9) (af:Kn P w K mg base 1 "_law_times" Hr ["weights","count"] Pa) (ae:Kn P w K mg base 3 "_law_edges" Gy ["deck","row"] Ww) (ac:Kn P w K mg base 6 "judged" Fs ["row","claim"] Wc) (ak:Kn P w K mg base 2 "_law_let" Fx ["row","edges"] Ep) (aa:Kn P w K mg base 1 "_law_is_paper" Jj ["paper","many"] Xj) (U:Kn P w K mg base 6 "row_shown" Jr ["row","claim","paper"] Oy) (ab:Kn P w K mg base 1 "_law_words_of" Fn ["row"] Ub) (J:Kn P w K mg base 2 "_law_drawn_words" Ix ["deck","names","width"] Wi) (ag:Kn P w K mg base 4 "_law_total" Hs ["row","weights","width","words","edges"] Xa)
  (ah:FnOk P w K mg base pG 1 fD bg ["script"] (T5 K)) :
  FnOk P w K mg base pG 7 f fd ["script"] (F8 K):=by
 refine F.ok tM (λvs H Q E h=>?_) (λbx A bo s H vs Q E L h=>?_)
 .obtain⟨a,ns,rfl,_⟩:=h;rfl
 .obtain⟨a,ns,rfl,hS,a6,hQ⟩:=h;have Z:=Lr L;have bj:Room 1 _:=L.mono (by decide);refine Pd _ (qT (i:=1) tM.nd rfl (Or.inl rfl) (xF ah bj rfl g.m g.k g.b .nil vY (nM (pv 0) oG))) ?_;refine⟨_,rfl,a,ns,rfl,hS,a6,λd c H1 D1 _ _ _=>?_⟩;refine⟨_,(hO (Xf (m:=99) (mT ai L (aD (dK 1) (aD (mT aj L (aD (dK 1) gD)) gD))) (IK (n:=2) rfl (oJ (mO 2 tM.nd) (oJ (mO 3 tM.nd) sC)))) (hO (mY 3 tM.nd (mT af L (aD (dK 3) (aD (sG Z (oW (aD hL (aD (Kf hL) (aD hL (aD hL (aD (oE RG FJ hL hL) gD)))))) (mT I L (aD (dK 1) (aD hL gD)))) gD)))) (hO (mY 4 tM.nd (mT ae L (aD (dK 1) (aD (dK 2) gD)))) (hO (mY 5 tM.nd (mT ac L (aD (dK 2) (aD (nV (aD (dK 4) (aD (dK 3) gD))) gD)))) (hO (sK (G0 (Eh (zU (vL (oM (E8 _) Dq T.isinstance eW (aD (dK 5) (aD (Ef (by rfl) T.tuple cN) gD))))) (Eh (xD (wT L.units) (rN true) (oM sH rX T.len cG (aD (dK 5) gD)) hL) (Fq (xD (wT L.units) (rN true) (mP Z 5 hL) mS))))) (mW (nH sL)) sI) (hO (mY 6 tM.nd (mT ak L (aD (dK 2) (aD (dK 4) gD)))) (hO (sK (G0 (Eh (zU (vL (mT aa L (aD (mP Z 5 hL) (aD (oM sH rX T.len cG (aD (mP Z 2 hL) gD)) gD))))) (Fq (xD (wT L.units) (rN true) (nY ["one"] ["found"] [5] (nE (dK 6)) (λ_ _ _ _ _=>(mO 0 Zj)) (λ_ _ _ _ _=>(dK 0)) (ht:=λ_ _ _ _ _=>(vP (wR (US Z) QC (pv 0) (mP Z 1 hL))))) (oW gD))))) (mW (nH sL)) sI) (hO (sK (xD DI HZ (mT U L (aD (dK 2) (aD (nV (aD (dK 4) (aD (dK 3) gD))) (aD (mP Z 5 hL) gD)))) sL) (mW (nH sL)) sI) (hO (zB 7 ["pair"] [] [] tM.nd (nE (mP Z 2 hL)) (λ_ _ _ _ _=>(mO 0 AI)) (λ_ _ _ _ _=>(mP Z 0 hL))) (hO (mY 8 tM.nd (sG Z (mT ab L (aD (dK 2) gD)) hL)) (hO (qO (A8 (by rfl) T.range hL) (mO 9 tM.nd) (hO (mY 10 tM.nd (oE qP qX hL (mT I L (aD (dK 1) (aD hL gD))))) (hO (mY 11 tM.nd (mT J L (aD (dK 1) (aD (dK 8) (aD (dK 10) gD))))) (hO (mY 12 tM.nd (mP Z 6 (mT I L (aD (dK 1) (aD (oM sH rX T.len cG (aD (dK 6) gD)) gD))))) (mW (sK (xD (wT L.units) (rN true) (mT ag L (aD (dK 2) (aD (dK 3) (aD (dK 10) (aD (dK 11) (aD (Ai rfl (by rfl) T.dict (by rfl) T.zip (aD (dK 7) (aD (dK 12) gD))) gD)))))) hL) (mW (nH sL)) sI)))))) (hO (mY 13 tM.nd (pN (wF rfl) wP T.dict cL (aD (dK 3) gD))) (hO (wH (n:=13) Z (oE qP qX (B6 Z (pv 13) mS hL) hL) (pv 13) mS) (hO (mY 14 tM.nd (nV (aD mS (aD hL (aD (pN (wF rfl) wP T.dict cL (aD (nY ["name"] [] [] (nE (dK 8)) (λ_ _ _ _ _=>(mO 0 RO)) (λ_ _ _ _ _=>(nV (aD (dK 0) (aD hL gD))))) gD)) (aD (Ai rfl (by rfl) T.dict (by rfl) T.zip (aD (dK 7) (aD (mP Z 6 hL) gD))) gD)))))) (mW (nH (Wz (B1 (JX L.units) IZ (mT ac L (aD (dK 2) (aD (nV (aD (dK 4) (aD (dK 13) gD))) gD))) (dK 14)) (Nv (B1 EB MI (mT U L (aD (dK 2) (aD (nV (aD (dK 4) (aD (dK 13) gD))) (aD (mP Z 5 hL) gD)))) sL))))))))))))))))))),⟨[d,c],λ_=>False,H1⟩,[.n,.v (.r (.ref d)),.n,.n,.n,.n,.n,.n,.n,.n,.n,.n,.n,.n,.n],[],{ nx:=λ_=>False,rt:=λr=>r = .v (.b true) },rfl,?_,?_,?_,?_⟩
  .refine⟨λb o e _=>e,.inr ⟨d,c,rfl,D1⟩,fE,λb hb=>absurd hb bH,λp hp=>?_⟩;have hp:p∈[((Sl.n:Sl),some (V.ref a)),(.v (.r (.ref d)),some (V.ref d)),(.n,none),(.n,none),(.n,none),(.n,none),(.n,none),(.n,none),(.n,none),(.n,none),(.n,none),(.n,none),(.n,none),(.n,none),(.n,none)]:=hp;simp only[aO,bH,fL,or_self] at hp;rcases hp with rfl | rfl | rfl<;>first | trivial | exact⟨_,rfl,.r _⟩
  .refine mJ (λB=>∃ (k:Kit) (C:Cel) (al:Aa (Af×Af)) (t0:mL),k∈pJ/\GoodRow C al/\WtOk 9 t0/\Iw k C al t0/\B=A6 d C al (.v (.k (gV t0))) .n .n .n .n .n .n .n .n .n .n .n) (λN G=>?_) ?_
   .exact⟨d,c,rfl,rfl,λk hk=>⟨.inl rfl,d,c,k,rfl,rfl,hk,λC al t h1 h2 h3=>⟨.inl rfl,rfl,rfl,G _ ⟨k,C,al,t,hk,h1,h2,h3,rfl⟩⟩⟩⟩
   rintro _ ⟨k,C,al,t0,hk,hG,hw,hm,rfl⟩;have X:=hG.rw;have la:=hG.la;refine mJ (λB=>∃ n:Int,-(10 ^ 7)<=n/\n<=10 ^ 7/\B=A6 d C al (.o (.k (gV (vB n t0)))) .n .n .n .n .n .n .n .n .n .n .n) (λN G=>?_) ?_
   .refine⟨⟨by decide,by decide,by decide⟩,by show 5<=1000;decide,d,c,5,rfl,rfl,by decide,by decide,λr L=>⟨.inl rfl,?_⟩⟩;have tl:=hw.l;have bi:r=0\/r=1\/r=2\/r=3\/r=4:=by omega
    rcases bi with rfl | rfl | rfl | rfl | rfl<;>exact⟨_,rfl,t0,_,rfl,by decide,by decide,hw.nd,by omega,.inl rfl,G _ ⟨_,by decide,by decide,rfl⟩⟩
   rintro _ ⟨n,n1,n2,rfl⟩;obtain⟨t,ht⟩:∃ t,t=vB n t0:=⟨_,rfl⟩;rw[<- ht];have hH:tP C al t:=by rw[ht];exact UB n (hm.hold hk)
   have b2:(t.map (·.1)).Nodup:=by rw[ht,Yb];exact hw.nd
   have bw:t.length<=60:=by rw[ht];unfold vB;rw[List.length_map];exact hw.l
   have bn:∀ x,-(2 ^ 62)<=look t x/\look t x<=2 ^ 62:=λx=>by
    rw[ht,Cv];have:-9<=look t0 x/\look t0 x<=9:=by
     by_cases m:x∈t0.map (·.1)
     .exact hw.bd _ (N7 m)
     .rw[((qF t0 x).2 m).2];decide
    generalize look t0 x=v at this;have hv:v = -9\/v = -8\/v = -7\/v = -6\/v = -5\/v = -4\/v = -3\/v = -2\/v = -1\/v=0\/v=1\/v=2\/v=3\/v=4\/v=5\/v=6\/v=7\/v=8\/v=9:=by omega
    rcases hv with rfl | rfl | rfl | rfl | rfl | rfl | rfl | rfl | rfl | rfl | rfl | rfl | rfl | rfl | rfl | rfl | rfl | rfl | rfl<;>omega
   refine mJ (λB=>∃ y:Aa (Af×Ab Int),(y.map (·.1)).Perm (al.map (·.2))/\Gn y/\B=A6 d C al (.o (.k (gV t))) (.o (.k (qK y))) .n .n .n .n .n .n .n .n .n .n) (λN G=>?_) ?_
   .exact⟨d,c,C,al,rfl,rfl,hG.n2,la,λy h1 h2=>⟨.inl rfl,G _ ⟨y,h1,h2,rfl⟩⟩⟩
   rintro _ ⟨y,hp,h3,rfl⟩;have a5:∀ p∈al,p.2∈y.map (·.1):=λp hq=>hp.mem_iff.mpr (eR hq)
   have aq:∀ p∈al,mN (qK y) (Sum.inr p.2)=some (qE (uF y p.2)):=λp hq=>Tv (a5 p hq)
   have a1:qV al (uF y)≠[]:=CS al (uF y) λp hq=>by
    obtain⟨q,bh,e⟩:=Vk (a5 p hq);rw[e];exact h3 q bh
   obtain⟨st,S⟩:∃ st,st=qV al (uF y):=⟨_,rfl⟩;have an:∀ c∈st,c∈mI al.length:=λc hc=>by rw[S] at hc;exact (bM.mp hc).1
   have a8:2 ^ al.length<=16:=bN (gX (by decide) la) (by decide);have b0:=uL al.length;refine mJ (λB=>∃ u:Aa (Aa Int),u.Nodup/\(∀ x,x∈u↔∃ n,x∈qR C al st n)/\B=A6 d C al (.v (.k (gV t))) (.v (.k (qK y))) (.v (.t [.str "shown",.t (u.map nX)])) .n .n .n .n .n .n .n .n .n) (λN G=>?_) ?_
   .refine⟨by show 2<=1000;decide,C,al,t,qK y,uF y,rfl,X,la,aq,λu h1 h2 _=>⟨.inl rfl,G _ ⟨u,h1,by rw[S];exact h2,rfl⟩⟩,λW e r _ hb _ _=>?_⟩;obtain⟨x,hx,q⟩:=bW.mp hb;rw[<- S] at hx;rw[LJ X hH (Cf X an hx)] at q;cases q
   rintro _ ⟨u,bp,pm,rfl⟩;have ax:∀ x∈u,x∈mI al.length:=λx hx=>by
    obtain⟨m,q⟩:=(pm x).mp hx;exact Cf X an q
   have a3:∀ x∈st,x∈u:=λx hx=>(pm x).mpr ⟨0,hx⟩
   have bt:u.length<=16:=bN (Bf bp ax) a8;have snd:st.Nodup:=by rw[S];exact Ui al _
   have bu:st.length<=16:=bN (Bf snd an) a8;rw[<- S] at a1;have bv:=hX.mpr a1;refine mJ (λB=>B=A6 d C al (.v (.k (gV t))) (.v (.k (qK y))) (.v (.t [.str "shown",.t (u.map nX)])) .n .n .n .n .n .n .n .n .n) (λN G=>?_) ?_
   .refine⟨"tuple",true,rfl,Hg K _,rfl,_,rfl,uG rfl ?_⟩;refine⟨rfl,_,rfl,?_⟩;exact⟨rfl,_,rfl,G _ rfl⟩
   rintro _ rfl;refine mJ (λB=>B=A6 d C al (.v (.k (gV t))) (.v (.k (qK y))) (.v (.t [.str "shown",.t (u.map nX)])) (.o (lB st)) .n .n .n .n .n .n .n .n) (λN G=>?_) ?_
   .exact⟨C,al,_,_,rfl,by omega,aq,.inl rfl,by rw[<- S];exact G _ rfl⟩
   rintro _ rfl;refine mJ (λB=>B=sQ d C al t y u st .n .n .n .n .n .n .n .n) (λN G=>?_) ?_
   .refine⟨rfl,_,rfl,rfl,_,rfl,rfl,_,rfl,?_⟩;refine⟨u,al.length,by rw[aA],λx hx=>rJ (ax x hx),by omega,.inl rfl,rfl,_,rfl,uG rfl ?_⟩;unfold xS d2;refine vA st mR mR (λ_=>false) (sQ d C al t y u st .n .n .n .n .n .n .n .n) (λΨ h=>h) (by omega) (λj x ys Nx e h1 h2 h3=>?_) ?_
    .refine⟨rfl,rfl,_,rfl,x,u,rfl,rfl,?_⟩;rw[bE (a3 x (aL e))];exact (aM aY).mpr (h3 rfl)
    .have e0:st.filter (λ_=>false)=[]:=iJ.mpr λ_ _ z=>by cases z
     rw[e0];exact⟨by show 0<=1000;decide,G _ rfl⟩
   rintro _ rfl;have aw:Lv C al t (uF y) u:=by
    refine⟨ax,λe he=>a3 e (by rw[S];exact he),λx hx l hl=>⟨Mm X hH (ax x hx) hl,?_⟩⟩;obtain⟨m,q⟩:=(pm x).mp hx;exact (pm _).mpr ⟨m+1,Jn q hl⟩
   refine mJ (λB=>B=sQ d C al t y u st .n .n .n .n .n .n .n .n) (λN G=>?_) ?_
   .refine⟨by show 2<=1000;decide,rfl,_,rfl,C,al,t,qK y,uF y,u,rfl,X,aq,by omega,λb hb=>⟨.inl rfl,b,true,rfl,rfl,?_⟩⟩;have e:b=true:=hb.mpr aw;subst e;exact G _ rfl
   rintro _ rfl;refine mJ (λB=>B=sQ d C al t y u st (.o (.l (al.map λp=>D.str p.2))) .n .n .n .n .n .n .n) (λN G=>?_) ?_
   .unfold pE;refine oN al (λp:Af×Af=>D.t [.str p.1,.str p.2]) (λp=>D.str p.2) (sQ d C al t y u st .n .n .n .n .n .n .n .n) (λΨ h=>⟨rfl,_,rfl,h⟩) (by omega) (λj x ys Nx e h1 h2=>⟨rfl,_,rfl,h1,h2⟩) ?_;exact G _ rfl
   rintro _ rfl;have li:=X.li;have lo:=X.gc.lo;have b1:(wIns C al).length<=C.ins.length:=cB ..;refine mJ (λB=>B=sQ d C al t y u st (.o (.l (al.map λp=>D.str p.2))) (.v (.l ((wIns C al).map D.str))) .n .n .n .n .n .n) (λN G=>?_) ?_
   .exact⟨C,al,rfl,by omega,by omega,by omega,.inl rfl,_,rfl,G _ rfl⟩
   rintro _ rfl;have ez:(al.map λp=>D.str p.2)=(al.map (·.2)).map D.str:=by rw[aJ];rfl
   have az:∀ b:Aa Int,b.length=al.length->pW [] (((al.map (·.2)).map (Sum.inr:Af->dT)).zip (b.map D.int))=gV ((al.map (·.2)).zip b)/\((al.map (·.2)).zip b).map (·.1)=al.map (·.2):=λb hb=>by
    have kz:((al.map (·.2)).zip b).map (·.1)=al.map (·.2):=by rw[lX];rw[aA,hb];exact aW _
    refine⟨?_,kz⟩;rw[List.zip_map];exact uV (by rw[kz];exact X.n2)
   refine mJ (λB=>∃ Y s9 R O M,(Y = .o (.l (al.map λp=>D.str p.2))\/Y = .v (.l (al.map λp=>D.str p.2)))/\B=sQ d C al t y u st Y (.v (.l ((wIns C al).map D.str))) s9 R O M .n .n) (λN G=>?_) ?_
   .refine qH (rH 0 3) _ (λΨ h=>⟨by decide,by decide,h⟩) (λi B=>∃ Y s9 R O M,(Y = .o (.l (al.map λp=>D.str p.2))\/Y = .v (.l (al.map λp=>D.str p.2)))/\B=sQ d C al t y u st Y (.v (.l ((wIns C al).map D.str))) s9 R O M .n .n) ⟨_,.n,.n,.n,.n,.inl rfl,rfl⟩ ?_ (λ_ h=>G _ h);rintro i x B hx ⟨Y,s9,R,O,M,h7,rfl⟩;obtain⟨hi,rfl⟩:=Iu hx;refine mJ (λB=>∃ W:Nat,1<=W/\W<=40/\B=sQ d C al t y u st Y (.v (.l ((wIns C al).map D.str))) (.v (.int (0+i))) (.v (.int W)) O M .n .n) (λN' ao=>?_) ?_
    .exact⟨d,c,40,rfl,rfl,by decide,by decide,λr k=>⟨.inl rfl,ao _ ⟨1+r,by omega,by omega,by push_cast;rfl⟩⟩⟩
    rintro _ ⟨W,w1,a9,rfl⟩;refine mJ (λB=>∃ tw:mL,tw.map (·.1)=wIns C al/\(∀ p∈tw,0<=p.2/\p.2<2 ^ W)/\B=sQ d C al t y u st Y (.v (.l ((wIns C al).map D.str))) (.v (.int (0+i))) (.v (.int W)) (.o (.k (gV tw))) M .n .n) (λN' ao=>?_) ?_
    .exact⟨d,c,wIns C al,W,rfl,rfl,Ca X.gc,by omega,a9,λtw hk hz=>⟨.inl rfl,ao _ ⟨tw,hk,hz,rfl⟩⟩⟩
    rintro _ ⟨tw,kw,hz,rfl⟩;refine mJ (λB=>∃ b∈st,B=sQ d C al t y u st Y (.v (.l ((wIns C al).map D.str))) (.v (.int (0+i))) (.v (.int W)) (.o (.k (gV tw))) (.v (mR b)) .n .n) (λN' ao=>?_) ?_
    .have e0:(((st.map mR).length:Nat):Int)=(st.length:Int):=by rw[aA]
     refine⟨rfl,rfl,_,rfl,d,c,_,rfl,rfl,?_,?_,λr L=>⟨.inl rfl,?_⟩⟩
     .show 0<(((st.map mR).length:Nat):Int);omega
     .show (((st.map mR).length:Nat):Int)<_;omega
     .have L:(r:Int)<(((st.map mR).length:Nat):Int):=L;have a7:r<st.length:=by omega
      exact⟨mR st[r],pB (by rw[bC,aH a7];rfl),ao _ ⟨st[r],cM a7,rfl⟩⟩
    rintro _ ⟨b,hb,rfl⟩;obtain⟨bl,bb⟩:=rJ (an b hb);obtain⟨z1,z2⟩:=az b bl;have te:∀ p∈(al.map (·.2)).zip b,nL p.2:=λp hp=>bb _ (fR hp).2
    rcases h7 with rfl | rfl<;>refine⟨false,true,_,_,(al.map (·.2)).map Sum.inr,rfl,rfl,by rw[ez];exact keysL_strs _,by rw[aA,aA];omega,?_⟩
    all_goals
     rw[z1];refine⟨C,al,t,tw,_,W,rfl,X,hH,bn,w1,a9,kw,hz,z2,te,.inl rfl,?_⟩;exact⟨_,_,_,_,_,.inr rfl,rfl⟩
   rintro _ ⟨Y,s9,R,O,M,h7,rfl⟩;refine mJ (λB=>B=sQ d C al t y u st Y (.v (.l ((wIns C al).map D.str))) s9 R O M (.o (.k (gV t))) .n) (λN G=>G _ rfl) ?_;rintro _ rfl;have bm:(gV t).length<100000:=by unfold gV;rw[List.length_map];omega
   refine mJ (λB=>B=sQ d C al t y u st Y (.v (.l ((wIns C al).map D.str))) s9 R O M (.o (.k (gV (qB t)))) .n) (λN G=>?_) ?_
   .refine⟨rfl,_,rfl,?_⟩;show Dv ((mN (gV t) (Sum.inr (Str.ofString ""))).getD (D.int 0)) (D.int 1) _;rw[Ck];refine⟨rfl,.k (nD (gV t) (Sum.inr (Str.ofString "")) (.int (look t "" + 1))),?_,?_⟩
    .simp only[vU,aR bm];rfl
    .rw[Mb];exact G _ rfl
   rintro _ rfl;have au:("" : Af)∉C.names:=λz=>absurd (hG.good.nm _ z).ls.lo (by decide)
   obtain⟨e0,r0,av⟩:∃ e r,st=e::r:=by
    cases st with
    | nil=>exact absurd rfl a1
    | cons e r=>exact⟨e,r,rfl⟩
   have a0:e0∈st:=by rw[av];exact aF
   have ar:=an e0 a0;obtain⟨be,bz⟩:=rJ ar;obtain⟨z1,z2⟩:=az e0 be;obtain⟨tz,a2⟩:∃ tz,tz=(wIns C al).map λx=>(x,(0:Int)):=⟨_,rfl⟩
   have a4:tz.map (·.1)=wIns C al:=by rw[a2,aJ];exact jQ _
   refine mJ (λB=>∃ Y,B=sQ d C al t y u st Y (.v (.l ((wIns C al).map D.str))) s9 R O M (.o (.k (gV (qB t)))) (.v (.t [.str "broken",.int 1,.k (gV tz),.k (gV ((al.map (·.2)).zip e0))]))) (λN G=>?_) ?_
   .have bf:(wIns C al).map (λx=>D.t [.str x,.int 0])=tz.map λp=>D.t [.str p.1,.int p.2]:=by rw[a2,aJ];rfl
    have lz:(gV tz).length<=1000:=by
     unfold gV;rw[aA];have:=cC List.length a4;rw[aA] at this;omega
    have key:∀ Ψ:Sl->Aa Sl->Prop,Ψ (.o (.l ((wIns C al).map λx=>D.t [.str x,.int 0]))) (sQ d C al t y u st Y (.v (.l ((wIns C al).map D.str))) s9 R O M (.o (.k (gV (qB t)))) .n)->tJ 1 [] (iV (vd 8)) (gN 0) G7 (Fo (aC (vd 0) (aC (cd (D.int 0)) An))) [d,c] (sQ d C al t y u st Y (.v (.l ((wIns C al).map D.str))) s9 R O M (.o (.k (gV (qB t)))) .n) Ψ:=λΨ h =>
     oN (wIns C al) D.str (λx=>D.t [.str x,.int 0]) (sQ d C al t y u st Y (.v (.l ((wIns C al).map D.str))) s9 R O M (.o (.k (gV (qB t)))) .n) (λΨ h=>h) (by omega) (λj x ys Nx e h1 h2=>⟨by show 2<=1000;decide,h1,h2⟩) h
    unfold pE Fo aC cd dC;refine key _ ?_;refine⟨gV tz,by rw[bf];exact V5 tz,lz,?_⟩;rw[uV (t:=tz) (by rw[a4];exact Ca X.gc)];rcases h7 with rfl | rfl<;>refine⟨rfl,mR e0,?_,false,true,_,_,(al.map (·.2)).map Sum.inr,rfl,rfl,by rw[ez];exact keysL_strs _,by rw[aA,aA];omega,?_⟩
    .rw[av];exact pB (j:=0) rfl
    .rw[z1];exact⟨by show 4<=1000;decide,G _ ⟨_,rfl⟩⟩
    .rw[av];exact pB (j:=0) rfl
    .rw[z1];exact⟨by show 4<=1000;decide,G _ ⟨_,rfl⟩⟩
   rintro _ ⟨Y,rfl⟩;have bc:∀ s∈st,pP C al (qB t) s (List.replicate (0+1) (mI (wIns C al).length))=true:=λs hs=>K2 X au hH (an s hs) (wX _) (wX _)
   have ay:(qR C al st 0).any (uQ C al (qB t))=true:=bW.mpr ⟨e0,a0,Rq X au hH ar (wX _) (wX _)⟩;refine⟨by show 2<=1000;decide,C,al,qB t,qK y,uF y,rfl,X,la,aq,λba _ _ hb=>?_,λW e r _ _ hW hf=>?_⟩
   .have:=hb 0;rw[<- S,ay] at this;cases this
   .have w0:W=0:=by
     rcases jJ W with q | q
     .exact q
     .have:=hW 0 q;rw[<- S,ay] at this;cases this
    subst w0;rw[<- S,List.filter_eq_self.mpr bc,av] at hf;obtain⟨rfl,_⟩:=dJ hf;refine⟨.inl rfl,"broken",1,tz,(al.map (·.2)).zip e0,?_,rfl,by rw[a4];exact Ca X.gc,by rw[z2];exact X.n2,?_⟩
    .unfold Mt;rw[QW X au hH ar,<- a2];rfl
    .refine⟨by show 2<=1000;decide,rfl,_,rfl,C,al,qB t,qK y,uF y,u,rfl,X,aq,by omega,λb hb=>⟨.inl rfl,?_⟩⟩;have e:b=false:=by
      cases b with
      | false=>rfl
      | true =>
       have sh:=(hb.mp rfl).2.2 e0 (a3 e0 a0) _ (wX _);have:=Ts X au hH ar (wX (wIns C al).length);unfold zL at this;rw[this] at sh;exact absurd sh.1 (by decide)
     subst e;exact⟨false,false,rfl,rfl,rfl⟩
  .intro bq br H' _ _ _;exact⟨False.elim,False.elim,False.elim⟩
  .rintro r v bq br H' _ d1 rfl;obtain rfl:=d1.valAt.bl_inv;exact hQ H'
end
def DF (K:mH) (x:Af) (st:Stmt):Prop:=∃ (f:Ad) (e a:Ab Ad) (sl:Array (Ab Ac)) (d kV c pm cd b:Ac),PySem.W.nsIn K mainGlobals x=some (some (.ref f))/\K.lookup f=some ⟨d,e,.func (PySem.W.fnOf x x (uH st) (sV st) (nA st) .none kV c pm a cd b),sl⟩/\PySem.W.codeIn K cd x=true/\PySem.W.keepIn K (.ref f)=true
def NZ (K:mH) (x:Af):Prop:=PySem.W.nsIn K mainGlobals x=some none
theorem df_mk {K:mH}{st:Stmt}{sl:Array (Ab Ac)}{kV cd:Ac}(a:PySem.W.nsIn K mainGlobals x=some (some (.ref f))) (l:K.lookup f=some ⟨p,r,.func (PySem.W.fnOf x x (uH st) (sV st) (nA st) .none kV o pm g cd j),sl⟩) (c:PySem.W.codeIn K cd x=true) (k:PySem.W.keepIn K (.ref f)=true):DF K x st:=⟨f,r,g,sl,p,kV,o,pm,cd,j,a,l,c,k⟩
theorem Bn {K:mH}{st:Stmt}(o:Aa Af) (X:K.In h) (G:h.Ns mainGlobals J) (d:DF K x st)
  (I:∀ (kV j pm:Ac) (r:Ab Ad) (g C:Ac) (p:Aa Ac),p.length=o.length->bindArgs (PySem.W.fnOf x x (uH st) (sV st) (nA st) .none kV j pm r g C) ⟨p,[]⟩=pure (o.zip p)):∃ f fd,Gd K J x st o f fd:=by
 obtain⟨f,i,r,sl,e,kV,b,pm,cd,C,a,l,c,k⟩:=d;have F:=Sd (st:=st) l c k;exact⟨f,_,F,PySem.W.mg_of X G a,k,F.binds I⟩
theorem KL {K:mH}{st:Stmt}(X:K.In h) (G:h.Ns mainGlobals j) (d:DF K x st) (g:∀ a b c d e f,bindArgs (PySem.W.fnOf x x (uH st) (sV st) (nA st) .none a b c d e f) ⟨[],[]⟩=pure []:=by intros;rfl):∃ f fd,Gd K j x st [] f fd :=
 Bn [] X G d λa b c d e f k i=>by rcases k with _ | _<;>first | exact g a b c d e f | cases i
theorem xA {K:mH}{st:Stmt}(j:Af) (X:K.In h) (G:h.Ns mainGlobals o) (d:DF K x st) (l:∀ a b c d e f g,bindArgs (PySem.W.fnOf x x (uH st) (sV st) (nA st) .none a b c d e f) ⟨[g],[]⟩=pure [(j,g)]:=by intros;rfl):∃ f fd,Gd K o x st [j] f fd :=
 Bn [j] X G d λa b c d e f k i=>by rcases k with _ | ⟨g,_ | _⟩<;>first | exact l a b c d e f g | cases i
theorem rC {K:mH}{st:Stmt}(l o:Af) (X:K.In h) (G:h.Ns mainGlobals r) (d:DF K x st) (p:∀ a b c d e f g j,bindArgs (PySem.W.fnOf x x (uH st) (sV st) (nA st) .none a b c d e f) ⟨[g,j],[]⟩=pure [(l,g),(o,j)]:=by intros;rfl):∃ f fd,Gd K r x st [l,o] f fd :=
 Bn [l,o] X G d λa b c d e f k i=>by rcases k with _ | ⟨g,_ | ⟨j,_ | _⟩⟩<;>first | exact p a b c d e f g j | cases i
theorem yY {K:mH}{st:Stmt}(o p r:Af) (X:K.In h) (G:h.Ns mainGlobals I) (d:DF K x st) (C:∀ a b c d e f g j l,bindArgs (PySem.W.fnOf x x (uH st) (sV st) (nA st) .none a b c d e f) ⟨[g,j,l],[]⟩=pure [(o,g),(p,j),(r,l)]:=by intros;rfl):∃ f fd,Gd K I x st [o,p,r] f fd :=
 Bn [o,p,r] X G d λa b c d e f k i=>by rcases k with _ | ⟨g,_ | ⟨j,_ | ⟨l,_ | _⟩⟩⟩<;>first | exact C a b c d e f g j l | cases i
theorem Lg {K:mH}{st:Stmt}(p r C I:Af) (X:K.In h) (G:h.Ns mainGlobals T) (d:DF K x st) (J:∀ a b c d e f g j l o,bindArgs (PySem.W.fnOf x x (uH st) (sV st) (nA st) .none a b c d e f) ⟨[g,j,l,o],[]⟩=pure [(p,g),(r,j),(C,l),(I,o)]:=by intros;rfl):∃ f fd,Gd K T x st [p,r,C,I] f fd :=
 Bn [p,r,C,I] X G d λa b c d e f k i=>by rcases k with _ | ⟨g,_ | ⟨j,_ | ⟨l,_ | ⟨o,_ | _⟩⟩⟩⟩<;>first | exact J a b c d e f g j l o | cases i
theorem KY {K:mH}{st:Stmt}(r C I J T:Af) (X:K.In h) (G:h.Ns mainGlobals mg) (d:DF K x st) (U:∀ a b c d e f g j l o p,bindArgs (PySem.W.fnOf x x (uH st) (sV st) (nA st) .none a b c d e f) ⟨[g,j,l,o,p],[]⟩=pure [(r,g),(C,j),(I,l),(J,o),(T,p)]:=by intros;rfl):∃ f fd,Gd K mg x st [r,C,I,J,T] f fd :=
 Bn [r,C,I,J,T] X G d λa b c d e f k i=>by rcases k with _ | ⟨g,_ | ⟨j,_ | ⟨l,_ | ⟨o,_ | ⟨p,_ | _⟩⟩⟩⟩⟩<;>first | exact U a b c d e f g j l o p | cases i
theorem all_mk {l:PySem.W.OpenLaw}{K:mH}(X:K.In h) (G:h.Ns mainGlobals mg) (c5:mg "law" = some (.ref fa))
  (d1:DF K "check_there" Di)
  (d2:DF K "told_by" E3)
  (d3:DF K "side_bits" Gb)
  (d4:DF K "gate_bit" Gv)
  (d5:DF K "all_bits" yV)
  (d6:DF K "place_worths" Df)
  (d7:DF K "carried_inputs" zO)
  (d8:DF K "word_inputs" yR)
  (d9:DF K "word_outputs" Es)
  (b0:DF K "let_edges" E1)
  (b1:DF K "are_let" Jl)
  (b2:DF K "step_table" Dy)
  (b3:DF K "steps_from" Ij)
  (b4:DF K "cell_part" J1)
  (b5:DF K "judged" Fs)
  (b6:DF K "is_broken_by" Ff)
  (b7:DF K "has_break" Jb)
  (b8:DF K "carried_on" Fa)
  (b9:DF K "broken" Iy)
  (ca:DF K "can_break" Dg)
  (cb:DF K "with_least_word" J0)
  (cc:DF K "with_bit" Gx)
  (cf:DF K "word_told" Hk)
  (cg:DF K "row_shown" Jr)
  (ch:DF K "stays_held" F7)
  (cj:DF K "laid" Hb)
  (ck:DF K "_law_deck" Jg)
  (cl:DF K "_law_take" yJ)
  (cm:DF K "_law_kept" Dl)
  (cn:DF K "_law_made_names" Io)
  (cp:DF K "_law_names" Jf)
  (cq:DF K "_law_words_of" Fn)
  (cs:DF K "_law_kit" Ii)
  (cu:DF K "_law_shuffled" Dm)
  (cv:DF K "_law_words" Jm)
  (cw:DF K "_law_made" F6)
  (cx:DF K "_law_times" Hr)
  (cy:DF K "_law_edges" Gy)
  (cz:DF K "_law_drawn_words" Ix)
  (c0:DF K "_law_rows" J2)
  (c1:DF K "_law_let" Fx)
  (c2:DF K "_law_is_paper" Jj)
  (c3:DF K "_law_total" Hs)
  (c4:DF K "law" Fl)
  (z1:NZ K "len")
  (z2:NZ K "range")
  (z3:NZ K "sum")
  (z4:NZ K "min")
  (z5:NZ K "max")
  (z6:NZ K "tuple")
  (z7:NZ K "list")
  (z8:NZ K "set")
  (z9:NZ K "dict")
  (c6:NZ K "int")
  (c7:NZ K "str")
  (c8:NZ K "zip")
  (c9:NZ K "enumerate")
  (da:NZ K "all")
  (db:NZ K "any")
  (dd:NZ K "isinstance")
  (de:NZ K "sorted")
  (df:NZ K "abs")
  (dg:NZ K "reversed")
  (dh:NZ K "bool")
  : ∃ fd:FuncData,(∀ (s:Ae) (v:Ac),BindsTo s fd ⟨[v],[]⟩ [("script",v)])/\∀ base:Ag,K.In base->base.Ns mainGlobals mg->FnOk l.prog w K mg base pG 7 fa fd ["script"] (F8 K):=by
 obtain⟨f1,e1,I⟩:=rC "names" "given" X G d1;obtain⟨f2,e2,bo⟩:=rC "cell" "bits" X G d2;obtain⟨f3,e3,ax⟩:=rC "cell" "bits" X G d3;obtain⟨f4,e4,ba⟩:=rC "word" "bits" X G d4;obtain⟨f5,e5,a9⟩:=xA "count" X G d5;obtain⟨f6,e6,j⟩:=xA "count" X G d6;obtain⟨f7,e7,L⟩:=xA "row" X G d7;obtain⟨f8,e8,J⟩:=xA "row" X G d8;obtain⟨f9,e9,p⟩:=xA "row" X G d9;obtain⟨es,di,av⟩:=rC "row" "edges" X G b0;obtain⟨et,dj,bj⟩:=rC "bits" "asked" X G b1;obtain⟨eu,dk,ac⟩:=rC "row" "weights" X G b2;obtain⟨ev,dm,ae⟩:=yY "row" "weights" "carried" X G b3;obtain⟨ew,dn,ai⟩:=yY "row" "weights" "known" X G b4;obtain⟨ex,dp,bu⟩:=rC "row" "claim" X G b5;obtain⟨ey,dq,S⟩:=yY "table" "states" "choices" X G b6;obtain⟨ez,dr,aj⟩:=rC "steps" "choices" X G b7;obtain⟨e0,ds,aa⟩:=yY "table" "states" "choices" X G b8;obtain⟨fb,dt,bt⟩:=Lg "row" "table" "starts" "width" X G b9;obtain⟨fc,du,ah⟩:=yY "table" "edges" "choices" X G ca;obtain⟨fe,dv,D⟩:=Lg "table" "edges" "choices" "at" X G cb;obtain⟨ff,dw,be⟩:=yY "choices" "at" "bit" X G cc;obtain⟨fg,dx,ay⟩:=rC "choices" "at" X G cf;obtain⟨fh,dy,aw⟩:=yY "row" "claim" "paper" X G cg;obtain⟨fi,dz,ab⟩:=rC "steps" "held" X G ch;obtain⟨fj,d0,bx⟩:=Lg "row" "width" "words" "edges" X G cj;obtain⟨fk,ea,P⟩:=xA "script" X G ck;obtain⟨fl,eb,Q⟩:=rC "deck" "many" X G cl;obtain⟨fm,ec,bb⟩:=KL X G cm;obtain⟨fo,ed,M⟩:=rC "deck" "many" X G cn;obtain⟨fp,ee,ao⟩:=rC "deck" "many" X G cp;obtain⟨fq,ef,Z⟩:=xA "row" X G cq;obtain⟨fr,eg,bm⟩:=xA "deck" X G cs;obtain⟨ft,eh,Y⟩:=rC "deck" "some" X G cu;obtain⟨fu,ei,au⟩:=xA "text" X G cv;obtain⟨fv,ej,bc⟩:=rC "deck" "kit" X G cw;obtain⟨fw,ek,aq⟩:=rC "weights" "count" X G cx;obtain⟨fx,el,ak⟩:=rC "deck" "row" X G cy;obtain⟨fy,em,B⟩:=yY "deck" "names" "width" X G cz;obtain⟨ga,en,bd⟩:=xA "many" X G c0;obtain⟨gb,eo,bn⟩:=rC "row" "edges" X G c1;obtain⟨gc,ep,V⟩:=rC "paper" "many" X G c2;obtain⟨gd,er,ar⟩:=KY "row" "weights" "width" "words" "edges" X G c3;obtain⟨f,od,an,sl,oc,kV,dc,pm,cd,ct,a,lk,c,k⟩:=c4;cases c5.symm.trans (PySem.W.mg_of X G a);have FL:=Sd (st:=Fl) lk c k;refine⟨PySem.W.fnOf "law" "law" (uH Fl) (sV Fl) (nA Fl) .none kV dc pm an cd ct,λs v=>.of_eq rfl,λbase _ _=>?_⟩;have T:Txt mg:=⟨bX X G z1,bX X G z2,bX X G z3,bX X G z4,bX X G z5,bX X G z6,bX X G z7,bX X G z8,bX X G z9,bX X G c6,bX X G c7,bX X G c8,bX X G c9,bX X G da,bX X G db,bX X G dd,bX X G de,bX X G df,bX X G dg,bX X G dh⟩;have m:∀ {k x st ps R f fd},Gd K mg x st ps f fd->nZ l.prog w K mg base k x st ps R->Kn l.prog w K mg base k x st ps R:=λg o=>⟨_,_,g,o _ _ g.F⟩
 have e:=m Q λ_ _ F=>RY (N0 F T)
 have a2:=m ao λ_ _ F=>WD (VQ F T Q bb M)
 have q:=m Y (NS T e);have a5:=m au (KO T);have bq:=m bm (SV T e);have bg:=m bc (PF T e a2 q a5);have y:=m I λ_ _=>LW
 have bf:=m ba (NU T);have U:=m bo (BO T y bf);have t:=m j (DY T);have b:=m L FI;have d:=m J (AD b);have u:=m p SI;have C:=m Z VS;have i:=m a9 (LL T);have bh:=m bd (VL T);have a7:=m ax (CV T U);have az:=m ai (FO T d u);have ag:=m ae (VI T i d b a7 az);have A:=m ac (ML T i ag);have bp:=m bj (Zc T);have O:=m av (PM T b i bp);have br:=m bn (PL T bh);have a0:=m aj (JK T);have n:=m S (SR T a0);have z:=m aa (FK T);have N:=m ah (OT T z n);have bi:=m be (Zs T);have H:=m D (AC T bi N);have a8:=m ay (VA T t);have bv:=m bt (Zr T d i N H a8 b);have bw:=m bu (IL T A O d i n bv z);have af:=m ab (TQ T);have a6:=m aw (ER T A O af);have bz:=m bx (NX T y b d u t U);have a3:=m aq (LD T);have a1:=m ak (BE T e q);have E:=m B (EN e);have r:=m V (HL T);have a4:=m ar (IF T bz);exact SF FL T P bg bq e a3 a1 bw br r a6 C E a4 (UL P.F T)
theorem walk {l:PySem.W.OpenLaw}{q:Ah}{g:Aa Af}{C:(Af->Ab Ac)->Ag->Prop}{p:World->Ag->Prop}{d:DefRec}{K:Params->mH}(J:l.most=some 63) (o:d.params.defaults=[])
  (I:∀ (w:World) (h:Ag),p w h->(K w.params).In h)
  (F:∀ (w:World) (j:Af->Ab Ac) (r:Ad) (h:Ag),(K w.params).In h->h.Ns mainGlobals j->j d.name=some (.ref r) ->∃ fd:FuncData,(∀ (s:Ae) (u:Ac),BindsTo s fd ⟨[u],[]⟩ [("script",u)])/\∀ base:Ag,(K w.params).In base->base.Ns mainGlobals j->FnOk l.prog w (K w.params) j base pG 7 r fd ["script"] (F8 (K w.params))) :
  PySem.W.WalkO q g C p l.row.toRowW d [] (λf T=>PySem.call f T) :=
 L2.walk_of (n:=63) (k:=7) (x := "script") (CX:=λ_=>pG) (sp:=λw=>F8 (K w.params)) J (by decide) o ⟨rfl,by decide,by decide⟩ I F (λ_ _ a e c _ b=>⟨a,e,rfl,b,c,λ_=>rfl⟩) λ_ _ _ _ _ z=>z
end Lw
namespace PySem.W.Fast
theorem tw8570287562578130240:True:=⟨⟩
theorem tw16607277351742573672:True:=⟨⟩
theorem tw7153269954709391422:True:=⟨⟩
theorem tw13990622304978068480:True:=⟨⟩
theorem tw4425421008636508138:True:=⟨⟩
theorem tw7023132449662272567:True:=⟨⟩
theorem tw15341301748652111865:True:=⟨⟩
theorem tw10374829965713716321:True:=⟨⟩
theorem tw16334407727473539356:True:=⟨⟩
theorem tw4824613481597963972:True:=⟨⟩
theorem tw1251827330768546193:True:=⟨⟩
theorem tw13217157036971161817:True:=⟨⟩
theorem tw5048380558714772083:True:=⟨⟩
theorem tw4502690244061469882:True:=⟨⟩
theorem tw16972679344974815089:True:=⟨⟩
theorem tw5865252875135353618:True:=⟨⟩
theorem tw758734715622060974:True:=⟨⟩
theorem tw13099253906308488805:True:=⟨⟩
theorem tw11137038091133778387:True:=⟨⟩
theorem tw18060214247549973675:True:=⟨⟩
theorem tw4166876679768099803:True:=⟨⟩
theorem tw6024788179714315745:True:=⟨⟩
theorem tw3718611522586591513:True:=⟨⟩
theorem tw6517394645387338003:True:=⟨⟩
theorem tw10901520804033778589:True:=⟨⟩
theorem tw11629486925708330535:True:=⟨⟩
theorem tw15820841245514079680:True:=⟨⟩
theorem tw6917794890218315752:True:=⟨⟩
theorem tw16471592453449290579:True:=⟨⟩
theorem tw3918859656507861792:True:=⟨⟩
theorem tw224602970588967678:True:=⟨⟩
theorem tw5641879295815801872:True:=⟨⟩
theorem tw9536698280215114805:True:=⟨⟩
theorem tw15083092445028829830:True:=⟨⟩
theorem tw3410068864749612223:True:=⟨⟩
theorem tw8904301253247154227:True:=⟨⟩
theorem tw3018761290322034224:True:=⟨⟩
theorem tw585079629917408721:True:=⟨⟩
theorem tw13431354243892490545:True:=⟨⟩
theorem tw538849745294253881:True:=⟨⟩
theorem tw11277790567233385441:True:=⟨⟩
theorem tw955153853289271822:True:=⟨⟩
theorem tw17991128558772168961:True:=⟨⟩
theorem tw4873128532221626816:True:=⟨⟩
theorem tw4054866991655219316:True:=⟨⟩
theorem tw17346020328091522789:True:=⟨⟩
theorem tw6912137869238842807:True:=⟨⟩
theorem tw2660020275296674234:True:=⟨⟩
theorem tw16771850293870982793:True:=⟨⟩
theorem tw18377345223680168992:True:=⟨⟩
theorem tw14444323541999743205:True:=⟨⟩
theorem tw16434925075273049649:True:=⟨⟩
theorem tw1192555076069928684:True:=⟨⟩
theorem tw17608655033842218740:True:=⟨⟩
theorem tw1445362113257995955:True:=⟨⟩
theorem tw11715373350243868335:True:=⟨⟩
theorem tw17741747916956530106:True:=⟨⟩
theorem tw6212569596547740649:True:=⟨⟩
theorem tw2878761751335174592:True:=⟨⟩
theorem tw3300517790022687343:True:=⟨⟩
theorem tw15027377479761285813:True:=⟨⟩
theorem tw475579175940984756:True:=⟨⟩
theorem tw3317587787165117762:True:=⟨⟩
theorem tw9984104189871730174:True:=⟨⟩
theorem tw7175931979063838850:True:=⟨⟩
theorem tw17004718865580998361:True:=⟨⟩
theorem tw16703752311374546711:True:=⟨⟩
theorem tw3626758248018750772:True:=⟨⟩
theorem tw10954391651312904759:True:=⟨⟩
theorem tw3185450200775481178:True:=⟨⟩
theorem tw14767885390748325642:True:=⟨⟩
theorem tw4159874781384247441:True:=⟨⟩
theorem tw894654556571309503:True:=⟨⟩
theorem tw10208149104273739361:True:=⟨⟩
theorem tw15740279564128020541:True:=⟨⟩
theorem tw5436582948092351991:True:=⟨⟩
theorem tw11611654430242445399:True:=⟨⟩
theorem tw5973601808773672661:True:=⟨⟩
theorem tw6229842392198269437:True:=⟨⟩
theorem tw8021889416142173537:True:=⟨⟩
theorem tw17563901406961370405:True:=⟨⟩
theorem tw7567958731828586603:True:=⟨⟩
theorem tw9894580762200059234:True:=⟨⟩
theorem tw8212617422658034406:True:=⟨⟩
theorem tw10804977031775153134:True:=⟨⟩
theorem tw8896672940442195791:True:=⟨⟩
theorem tw7409721104588230797:True:=⟨⟩
theorem tw11297222135790190918:True:=⟨⟩
theorem tw762125586228993174:True:=⟨⟩
theorem tw3611871173292449257:True:=⟨⟩
theorem tw2421503608953411842:True:=⟨⟩
theorem tw1931628678972144494:True:=⟨⟩
theorem tw11769237405905195910:True:=⟨⟩
theorem tw2025230402179219387:True:=⟨⟩
theorem tw7676024893680436683:True:=⟨⟩
theorem tw13645456837996731624:True:=⟨⟩
theorem tw15924033141918229045:True:=⟨⟩
theorem tw6833275581928358150:True:=⟨⟩
theorem tw17899538526791108954:True:=⟨⟩
theorem tw9470493972679607764:True:=⟨⟩
theorem tw4435890524238192255:True:=⟨⟩
theorem tw10096216634832808677:True:=⟨⟩
theorem tw15604709924943370960:True:=⟨⟩
theorem tw10836558355453193816:True:=⟨⟩
theorem tw5022868748104618459:True:=⟨⟩
theorem tw12831818325389413910:True:=⟨⟩
theorem tw8174229604424568258:True:=⟨⟩
theorem tw14104205795988622629:True:=⟨⟩
theorem tw6564616800007706465:True:=⟨⟩
end PySem.W.Fast
open PySem PySem.W PyProof.Rows
set_option maxRecDepth 100000 in
set_option maxHeartbeats 0 in
theorem PySem.Challenge.cw_laidcells_k18_whole_shown_at_wide_widths_holds : PySem.Challenge.rw_laidcells_k18_whole_shown_at_wide_widths.Holds := by
 w_on;o_law;k_head;(case hw=>w_witness2)
 k_fill
 refine Lw.walk (l:=PySem.Challenge.rw_laidcells_k18_whole_shown_at_wide_widths) rfl rfl (fun w h Y=>PySem.W.kIn_of Y) ?F
 case F =>
  intro w mg fa h KX G hmg;refine' Lw.all_mk KX G hmg ?_ ?_ ?_ ?_ ?_ ?_ ?_ ?_ ?_ ?_ ?_ ?_ ?_ ?_ ?_ ?_ ?_ ?_ ?_ ?_ ?_ ?_ ?_ ?_ ?_ ?_ ?_ ?_ ?_ ?_ ?_ ?_ ?_ ?_ ?_ ?_ ?_ ?_ ?_ ?_ ?_ ?_ ?_ ?_ ?_ ?_ ?_ ?_ ?_ ?_ ?_ ?_ ?_ ?_ ?_ ?_ ?_ ?_ ?_ ?_ ?_ ?_ ?_ ?_
  all_goals try refine' Lw.df_mk ?_ ?_ ?_ ?_
  all_goals try unfold Lw.NZ
  all_goals try first | k_is | (dsimp only;k_is)
