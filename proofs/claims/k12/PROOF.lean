import PyProof.Rows.All
import Wide.All
import OpenK.AllK
import Wide.FinOn
import Lean
import PyProof.EqAt
import PyProof.EqKinds
import PyProof.TupleCall
import PyProof.StationsW
import PyProof.Commute
import PyProof.ExcClass3
import PyProof.ExcInit
import OpenK.KCls
import OpenK.KMake
import PyProof.ExcArgsOwn
import PyProof.InstStoreFacts
import PyProof.MaxThree
import KE.KMinKey
import KE.KIntText
import PyProof.DictUpdate
import PyProof.Draws
import PyProof.EnumMake
import PyProof.DictIter
import KE.KDictSum
import KE.KRevSl
import PyProof.Rows.SortStr
import PyProof.Rows.SortWalk
import PyProof.DictValues
import PyProof.DictWalks
import PyProof.MeetsDictList
import KE.KSortTup
import PySem.Challenge.RW_laidcells_k12_claims_hold
set_option Elab.async false
set_option linter.all false
set_option compiler.extract_closed false
set_option maxRecDepth 100000
set_option maxHeartbeats 20000000
noncomputable section
abbrev Aa:=@List
abbrev Ab:=@Option
abbrev Ac:=@PySem.Value
abbrev Ad:=@PySem.Addr
abbrev Ae:=@PySem.Shared
abbrev Af:=@PySem.Str
abbrev Ag:=@PySem.Heap
abbrev Ah:=@PySem.Program
abbrev mI:=PySem.W.Frag
abbrev aA:=@List.length_map
abbrev aB:=@PySem.wpAny_bind
abbrev aE:=@List.getElem?_eq_getElem
abbrev aF:=@List.mem_of_getElem?
abbrev aG:=@PySem.Heap.get?_push_of_some
abbrev aH:=@List.mem_cons_self
abbrev aI:=@PySem.wpAny_pure
abbrev aJ:=@if_neg
abbrev aK:=@List.mem_cons
abbrev aL:=@List.getElem?_eq_some_iff
abbrev aM:=@List.map_append
abbrev aN:=@List.mem_map
abbrev aO:=@if_pos
abbrev aP:=@List.map_cons
abbrev aQ:=@List.mem_cons_of_mem
abbrev aR:=@List.map_map
abbrev aT:=@List.mem_append_right
abbrev aU:=@Nat.le_refl
abbrev aV:=@List.mem_append
abbrev aW:=@List.getElem?_map
abbrev aX:=@List.mem_singleton
abbrev aY:=@List.size_toArray
abbrev aZ:=@PySem.Heap.lt_size
abbrev bA:=@PySem.Heap.get?_push_size
abbrev bB:=@List.mem_append_left
abbrev bC:=@Bool.false_ne_true
abbrev bD:=@List.not_mem_nil
abbrev bE:=@List.nodup_append
abbrev bF:=@PySem.F.plainAttrs_list
abbrev bG:=@decide_eq_false
abbrev bH:=@List.length_append
abbrev bI:=@Nat.lt_of_lt_of_le
abbrev bJ:=@decide_eq_true
abbrev bK:=@Option.some.inj
abbrev bL:=@List.take_of_length_le
abbrev bM:=@List.take_add_one
abbrev bN:=@PySem.boot_len
abbrev bO:=@Nat.ne_of_lt
abbrev bP:=@List.append_assoc
abbrev bQ:=@PySem.F.slot_list_append
abbrev bR:=@PySem.F.type_list_append
abbrev bS:=@List.length_cons
abbrev bT:=@Int.toNat_natCast
abbrev bU:=@List.length_take
abbrev bV:=@List.length_filter_le
abbrev bW:=@List.length_set
abbrev bX:=@Nat.le_trans
abbrev bY:=@List.nodup_cons
abbrev bZ:=@PyProof.Rows.boot_dict
abbrev cA:=@PySem.W.mg_none_of
abbrev cB:=@PyProof.Rows.boot_tuple
abbrev cC:=@List.take_length
abbrev cD:=@PySem.wpAny_holding
abbrev cE:=@List.mem_filter
abbrev cF:=@List.length_range
abbrev cG:=@congrArg
abbrev cH:=@List.all_eq_true
abbrev cI:=@Array.getElem?_eq_getElem
abbrev cJ:=@Bool.and_eq_true
abbrev cK:=@Nat.lt_of_le_of_lt
abbrev cL:=@Option.map_eq_some_iff
abbrev cM:=@PySem.wpAny_callSpecial?_slot
abbrev cN:=@List.getElem_mem
abbrev cO:=@PySem.wpAny_mono
abbrev cP:=@Int.emod_lt_of_pos
abbrev cQ:=@beq_eq_false_iff_ne
abbrev cR:=@Nat.zero_le
abbrev cS:=@Option.isSome_iff_exists
abbrev cT:=@List.cons_append
abbrev cU:=@of_decide_eq_true
abbrev cV:=@List.zip_cons_cons
abbrev cW:=@Int.eq_ofNat_of_zero_le
abbrev cX:=@List.map_congr_left
abbrev cY:=@PyProof.Rows.callWith_type1
abbrev cZ:=@Array.getElem?_toList
abbrev dB:=@List.replicate_succ
abbrev dD:=@List.append_nil
abbrev dF:=@List.find?_cons
abbrev dJ:=@Int.emod_nonneg
abbrev dL:=@PySem.wpAny_call_entry
abbrev dN:=@List.lookup_cons
abbrev dO:=@List.cons.inj
abbrev dP:=@Function.comp_def
abbrev dQ:=@List.mem_range
abbrev dR:=@PySem.Heap.size_push
abbrev dU:=@PySem.wpAny_isInstance
abbrev dX:=@PySem.mem_of_lookup
abbrev dY:=@List.mem_map_of_mem
abbrev dZ:=@List.nodup_nil
abbrev eC:=@Bool.false_eq_true
abbrev eD:=@PySem.W.kia_one
abbrev eF:=@PySem.PassesOwn.never
abbrev eI:=@Nat.le_of_lt
abbrev eJ:=@Ne.symm
abbrev eK:=@List.length_drop
abbrev eL:=@Array.length_toList
abbrev eM:=@List.getElem_of_mem
abbrev eO:=@PySem.wpAny_field
abbrev eP:=@List.length_replicate
abbrev eQ:=@List.length_singleton
abbrev eR:=@List.take_append_drop
abbrev eS:=@PyProof.Rows.boot_int
abbrev eT:=@Nat.lt_irrefl
abbrev eU:=@List.any_cons
abbrev eV:=@List.of_mem_zip
abbrev eW:=@PySem.F.slot_dict_keyiterator_next
abbrev eX:=@List.length_zip
abbrev eY:=@List.getElem?_set_ne
abbrev eZ:=@or_false
abbrev fA:=@PySem.Paired.length
abbrev fB:=@List.getElem?_append_right
abbrev fC:=@PySem.wpAny_newObj_type
abbrev fE:=@decide_eq_true_eq
abbrev fF:=@List.getElem?_eq_none
abbrev fG:=@List.perm_middle
abbrev fH:=@PySem.wpAny_typeOf
abbrev fJ:=@PySem.wpAny_attempt
abbrev fL:=@List.sum_cons
abbrev fN:=@Int.add_assoc
abbrev fO:=@PySem.Around.under_plainId
abbrev fP:=@PySem.wpAny_seqItems
abbrev fQ:=@PySem.wpAny_pyIter_list
abbrev fR:=@Bool.eq_iff_iff
abbrev fS:=@List.length_nil
abbrev fU:=@PySem.F.slot_zip_next
abbrev fV:=@PyProof.Rows.F.plain_set_update_loop
abbrev fW:=@PySem.Heap.SameBut.update
abbrev fX:=@Array.getElem?_eq_none
abbrev fY:=@Sum.inr.inj
abbrev fZ:=@Nat.le_add_right
abbrev gA:=@List.any_eq_true
abbrev gB:=@PySem.wpAny_Call_Name_kw
abbrev gC:=@if_false
abbrev gE:=@PySem.F.slot_tuple_iterator_next
abbrev gF:=@List.Perm.append_left
abbrev gG:=@PySem.F.slot_list_pop
abbrev gI:=@PySem.F.type_list_pop
abbrev gJ:=@PySem.wpAny_passesOwn
abbrev gL:=@List.nil_append
abbrev gO:=@PySem.codeAny_builtin
abbrev gQ:=@PySem.wpAny_truthy_bool
abbrev gR:=@if_true
abbrev gS:=@List.flatten_cons
abbrev gU:=@Nat.pow_le_pow_right
abbrev gW:=@Int.mul_left_comm
abbrev gX:=@List.set_eq_of_length_le
abbrev gY:=@PyProof.Rows.slot_tuple_getitem
abbrev gZ:=@List.filterMap_cons
abbrev hU:=@beq_self_eq_true
abbrev hV:=@List.eq_nil_iff_forall_not_mem
abbrev hX:=@PySem.wpAny_of_eq
abbrev hZ:=@Nat.ne_of_gt
abbrev iA:=@PySem.call_meets
abbrev iB:=@PySem.tupleKind_room_in1
abbrev iC:=@PySem.F.slot_str_split
abbrev iD:=@PySem.wpAny_setField_rec
abbrev iE:=@PyProof.Rows.boot_list
abbrev iF:=@List.cons.injEq
abbrev iG:=@Option.map_some
abbrev iH:=@PyProof.Rows.boot_sum
abbrev iJ:=@PyProof.Rows.boot_min
abbrev iK:=@Int.fdiv_eq_ediv_of_nonneg
abbrev iL:=@Nat.le_succ
abbrev iM:=@beq_iff_eq
abbrev iN:=@Bool.and_eq_true_iff
abbrev iP:=@Int.one_mul
abbrev iQ:=@Int.pow_pos
abbrev iR:=@Int.mul_add
abbrev iS:=@Option.getD_some
abbrev iT:=@Int.zero_add
abbrev iU:=@List.map_fst_zip
abbrev iW:=@List.getElem?_append_left
abbrev iX:=@List.drop_eq_getElem_cons
abbrev iY:=@PyProof.Rows.F.entry_set_update_loop
abbrev iZ:=@PySem.F.args_tuple_add_2
abbrev jA:=@PySem.F.slot_list_getattribute
abbrev jB:=@PySem.F.args_str_split_2
abbrev jC:=@List.foldl_cons
abbrev jD:=@PySem.Calls.spliced_cons
abbrev jE:=@PySem.sub_AttributeError
abbrev jF:=@List.getElem_range
abbrev jG:=@PySem.Obj.data_mapFields
abbrev jH:=@PySem.F.entry_tuple_add
abbrev jI:=@PySem.F.plainAttrs_dict
abbrev jJ:=@PySem.F.slot_list_index
abbrev jK:=@PySem.F.entry_str_split
abbrev jL:=@PySem.F.slot_zip_getattribute
abbrev jM:=@List.eraseIdx_cons_succ
abbrev jN:=@PySem.F.slot_tuple_add
abbrev jO:=@List.reverse_cons
abbrev jP:=@List.drop_zero
abbrev jQ:=@List.ext_getElem?
abbrev jR:=@PySem.F.args_zip_next_1
abbrev jS:=@List.getElem_cons_drop
abbrev jT:=@Int.mul_comm
abbrev jU:=@Int.pow_zero
abbrev jV:=@PySem.Heap.get?_update_self
abbrev jW:=@PySem.F.slot_dict_get
abbrev jX:=@PySem.wpAny_notOrdered_dict
abbrev jY:=@List.filterMap_append
abbrev jZ:=@Int.emod_add_mul_ediv
abbrev kA:=@List.ext_getElem
abbrev kB:=@PySem.F.entry_zip_next
abbrev kC:=@PySem.plainId_quiet
abbrev kE:=@Int.mul_assoc
abbrev kF:=@PySem.sizeLine_eq
abbrev kJ:=@List.mem_of_mem_take
abbrev kK:=@PySem.wpAny_pyIter_keyiter
abbrev kL:=@PySem.wpAny_execs_nil
abbrev kM:=@List.forIn_cons
abbrev kQ:=@List.zip_append
abbrev kR:=@List.range_succ
abbrev kS:=@PyProof.Rows.boot_isinstance
abbrev kT:=@ne_true_of_eq_false
abbrev kU:=@List.getElem?_range
abbrev kW:=@List.length_reverse
abbrev kX:=@List.map_eq_nil_iff
abbrev kY:=@Int.pow_succ
abbrev kZ:=@List.mem_filterMap
abbrev lA:=@PySem.typeIs_str
abbrev lB:=@Option.isSome_some
abbrev lC:=@List.take_zero
abbrev lE:=@PySem.wpAny_setField
abbrev lF:=@List.set_cons_succ
abbrev lG:=@Int.mul_one
abbrev lH:=@List.take_sublist
abbrev lI:=@Option.isSome_map
abbrev lJ:=@Option.some.injEq
abbrev lK:=@List.getElem_take
abbrev lL:=@List.getElem?_inj
abbrev lM:=@PySem.wpAny_standAt
abbrev lO:=@List.all_cons
abbrev lP:=@Array.toList_inj
abbrev lQ:=@List.getElem_map
abbrev lR:=@Nat.add_comm
abbrev lT:=@List.map_nil
abbrev lU:=@Nat.le_of_eq
abbrev lV:=@PySem.wpAny_rule
abbrev lW:=@List.zip_map
abbrev lX:=@Nat.zero_add
abbrev lY:=@Int.le_of_lt
abbrev lZ:=@Int.ediv_nonneg
abbrev mB:=@Bool.or_eq_true
abbrev mC:=@Nat.le_antisymm
abbrev mD:=@Nat.not_lt_zero
abbrev mE:=@Nat.min_eq_left
abbrev mF:=@List.sum_append
abbrev mG:=@Sum.inl.inj
abbrev mH:=@not_or
namespace L2
open PySem PySem.Spec PyProof.Rows
abbrev gD:=Sum Int Af
noncomputable def zH:gD->Ac->Bool
 | .inl k,v=>Value.isInt k v
 | .inr x,v=>Value.isStrOf x v
def FS (w:World):gD->Int
 | .inl k=>hashInt k
 | .inr x=>hashStr w x
theorem xC:∀ {k:gD}{v:Ac},zH k v=true->(∃ i t,k=Sum.inl i/\v=Value.int i t)\/(∃ x t,k=Sum.inr x/\v=Value.str x t)
 | .inl i,v,h=>by
  obtain⟨t,e⟩:=Value.isInt_shape (k:=i) (v:=v) h;exact .inl ⟨i,t,rfl,e⟩
 | .inr x,v,h=>by
  obtain⟨t,e⟩:=Value.isStrOf_shape (x:=x) (v:=v) h;exact .inr ⟨x,t,rfl,e⟩
theorem RA (i:Int) (t:Tok):zH (.inl i) (.int i t)=true:=by simp[zH,Value.isInt]
theorem RE (x:Af) (t:Tok):zH (.inr x) (.str x t)=true:=by simp[zH,Value.isStrOf]
theorem OI (a b:Int):decide ((Sum.inl a:gD)=Sum.inl b)=(a == b):=by
 by_cases e:a=b
 .subst e;simp
 .have h:¬ (Sum.inl a:gD)=Sum.inl b:=λq=>e (mG q)
  rw[bG h];exact (cQ.mpr e).symm
theorem Za (a b:Af):decide ((Sum.inr a:gD)=Sum.inr b)=decide (a=b):=by
 by_cases e:a=b
 .subst e;simp
 .have h:¬ (Sum.inr a:gD)=Sum.inr b:=λq=>e (fY q)
  rw[bG h,bG e]
theorem DD (a:Int) (b:Af):decide ((Sum.inl a:gD)=Sum.inr b)=false:=bG (λq=>nomatch q)
theorem Yu (a:Af) (b:Int):decide ((Sum.inr a:gD)=Sum.inl b)=false:=bG (λq=>nomatch q)
def pZ (g:Ah) (w:World):PySem.KeyKind g w gD where
 is:=zH
 hash:=FS w
 inj:=λv a b m f=>by
  rcases xC m with⟨i,t,rfl,rfl⟩ | ⟨x,t,rfl,rfl⟩
  .rcases xC f with⟨j,u,rfl,e⟩ | ⟨y,u,rfl,e⟩
   .injection e with c _;rw[c]
   .exact nomatch e
  .rcases xC f with⟨j,u,rfl,e⟩ | ⟨y,u,rfl,e⟩
   .exact nomatch e
   .injection e with c _;rw[c]
 byValue:=λk v h=>by
  rcases xC h with⟨i,t,rfl,rfl⟩ | ⟨x,t,rfl,rfl⟩<;>rfl
 pyHash:=λd h=>by
  rcases xC d with⟨i,t,rfl,rfl⟩ | ⟨x,t,rfl,rfl⟩
  .exact wpAny_pyHash_int h
  .exact wpAny_pyHash_str h
 eqBool:=λn d h=>by
  rcases xC n with⟨i,t,rfl,rfl⟩ | ⟨x,t,rfl,rfl⟩
  .rcases xC d with⟨j,u,rfl,rfl⟩ | ⟨y,u,rfl,rfl⟩
   .rw[OI] at h;exact wpAny_eqBool_int h
   .rw[DD] at h;exact SeqAt.EqAt.int_str i t y u _ _ _ _ h
  .rcases xC d with⟨j,u,rfl,rfl⟩ | ⟨y,u,rfl,rfl⟩
   .rw[Yu] at h;exact SeqAt.EqAt.str_int x t j u _ _ _ _ h
   .rw[Za] at h;exact wpAny_eqBool_str h
 «strs»:=λk x t v h=>by
  rcases xC h with⟨i,u,rfl,e⟩ | ⟨y,u,rfl,e⟩
  .exact nomatch e
  .injection e with c _;subst c;cases v<;>rfl
theorem KR (g:Ah) (w:World) (i:Int) (t:Tok):(pZ g w).is (.inl i) (.int i t)=true:=RA i t
theorem CO (g:Ah) (w:World) (x:Af) (t:Tok):(pZ g w).is (.inr x) (.str x t)=true:=RE x t
inductive V where
 | e | b (b:Bool) | int (i:Int) | str (x:Str) | byt (b:Array UInt8) | flt (b:UInt64) | ref (a:Addr) | ty (n:String)
 deriving DecidableEq
def nC:V->Ac->Prop
 | .e,u=>u=Value.none
 | .b b,u=>u=Value.bool b
 | .int i,u=>∃ t,u=Value.int i t
 | .str x,u=>∃ t,u=Value.str x t
 | .byt b,u=>∃ t,u=Value.bytes b t
 | .flt b,u=>∃ t,u=Value.float b t
 | .ref a,u=>u=Value.ref a
 | .ty n,u=>u=Value.type n
abbrev mY:Aa V->Aa Ac->Prop:=Paired nC
theorem mY.length (r:mY j g):j.length=g.length:=fA r
theorem mY.get:∀ {j:Aa V}{g:Aa Ac}{i:Nat}{x:V},mY j g->j[i]?=some x->∃ u,g[i]?=some u/\nC x u
 | _,_,_,_,.nil,e=>by simp at e
 | _,_,0,_,.cons r _,e=>by simp at e;subst e;exact⟨_,rfl,r⟩
 | _,_,i+1,x,.cons _ t,e=>by
  obtain⟨u,a,b⟩:=mY.get (i:=i) (x:=x) t (by simpa using e);exact⟨u,by simpa using a,b⟩
theorem mY.set (r:nC x u):∀ {j:Aa V}{g:Aa Ac}(i:Nat),mY j g->mY (j.set i x) (g.set i u)
 | _,_,_,.nil=>.nil
 | _,_,0,.cons _ t=>.cons r t
 | _,_,i+1,.cons q t=>.cons q (mY.set r i t)
theorem mY.append:∀ {l o:Aa V}{g j:Aa Ac},mY l g->mY o j->mY (l++o) (g++j)
 | _,_,_,_,.nil,s=>s
 | _,_,_,_,.cons r t,s=>.cons r (mY.append t s)
theorem mY.take:∀ {j:Aa V}{g:Aa Ac}(n:Nat),mY j g->mY (j.take n) (g.take n)
 | _,_,0,_=>.nil
 | _,_,_+1,.nil=>.nil
 | _,_,n+1,.cons r t=>.cons r (mY.take n t)
theorem mY.drop:∀ {j:Aa V}{g:Aa Ac}(n:Nat),mY j g->mY (j.drop n) (g.drop n)
 | _,_,0,r=>r
 | _,_,_+1,.nil=>.nil
 | _,_,n+1,.cons _ t=>mY.drop n t
def vN:Ab V->Ab Ac->Prop
 | some v,some u=>nC v u
 | none,none=>True
 | _,_=>False
def KV {g:Type}:Aa (g×V)->Aa (g×Ac)->Prop:=Paired λ(p:g×V) (q:g×Ac)=>p.1=q.1/\nC p.2 q.2
def kV:gD->V
 | .inl i=>.int i
 | .inr x=>.str x
inductive HO where
 | l (xs:List V)
 | t (xs:List V)
 | k (kvs:List (gD×V)) | T (kvs:List (List gD×V))
 | set (S:Int->Bool) (n:Nat)
 | ins (C dx:Addr) (fs:List (Str×V))
 | o (x:Addr)
 | xd (fs:List (Str×V))
 | met (f x:Addr)
 | rng (lo hi:Int)
 | frz (o:Obj) (u:HO)
 | tbl (ps:Array Value)
 | ext (φ:Heap->Prop)
abbrev Hp:=Ad->Ab HO
def upd (H:Hp) (a:Ad) (o:HO):Hp:=λb=>if b=a then some o else H b
theorem mX:upd H a o a=some o:=by unfold upd;rw[if_pos rfl]
theorem mT (h:b≠a):upd H a o b=H b:=by unfold upd;rw[if_neg h]
theorem ED:upd (upd H a o) a u=upd H a u:=by
 funext b;unfold upd;split<;>rfl
theorem NF {H:Hp}{a b:Ad}{o u:HO}(h:H a=some o) (g:H b=some u) (d:o≠u):a≠b:=by
 intro e;subst e;rw[h] at g;exact d (bK g)
theorem nQ {H:Hp}{a b:Ad}{o:HO}(h:H a=some o) (g:H b=none):a≠b:=by
 intro e;subst e;rw[h] at g;cases g
section
variable (P:Ah) (w:World)
def yI (h:Ag) (a:Ad) (items:Array Ac):Prop:=IsTup h a items/\∃ o,h.get? a=some o/\o.dict=none
theorem yI.new (h:Ag) (items:Array Ac):yI (h.push { cls:=.type "tuple",data:=.seq items }) h.objs.size items:=⟨IsTup.new _ _,_,bA _ rfl,rfl⟩
def oG (H:Hp) (h:Ag) (a:Ad):HO->Prop
 | .l d=>d.length<=sizeLine/\∃ (b:Aa Ac) (n:Nat),mY d b/\h.get? a=some { cls:=.type "list",data:=.seq b.toArray n }
 | .t d=>d.length<=sizeLine/\∃ b:Aa Ac,mY d b/\yI h a b.toArray
 | .k c=>c.length<=sizeLine/\(a == sysModules)=false/\∃ A,KV c A/\h.DictOf (pZ P w) a A
 | .T c=>c.length<=sizeLine/\(a == sysModules)=false/\∃ d:Aa (Aa gD×Ad×Ac),
   Paired (λ(p:Aa gD×V) (q:Aa gD×Ad×Ac)=>p.1=q.1/\H q.2.1=some (.t (p.1.map kV))/\nC p.2 q.2.2) c d /\
   ∃ o s B,h.get? a=some o/\o.ExactDict/\o.data = .dict s B/\s.toList=d.map (entryOfKey (tupleKind (pZ P w)))/\(d.map (·.1)).Nodup
 | .set S n=>h.SetOf (intKind P w) a S n
 | .ins C i fs=>H i=some (.o a)/\fs.length<=1000/\i≠a/\h.get? a=some (PySem.W.instObj C i) /\
   ∃ e,h.Ns1 i e/\(∀ f,vN (fs.lookup f) (e f))/\PySem.Within e (fs.map (·.1))
 | .o _=>∃ o,h.get? a=some o
 | .xd fs=>∃ e,h.Ns1 a e/\∀ f,vN (fs.lookup f) (e f)
 | .rng lo D=>∃ t u v,h.get? a=some { cls:=.type "range",data:=.fields #[.int lo t,.int D u,.int 1 v] }
 | .frz o u=>h.get? a=some o/\oG H h a u
 | .tbl E=>h.get? a=some { cls:=.none,data:=.fields E }
 | .met f x=>h.get? a=some (PySem.W.methodObj (.ref f) (.ref x))
 | .ext m=>m h/\(∃ o,h.get? a=some o)/\∀ y z:Ag,m y->(∀ o,y.get? a=some o->z.get? a=some o)->m z
def oO (H:Hp) (h:Ag):Prop:=∀ a o,H a=some o->oG P w H h a o
end
section
variable {P:Ah}
theorem oG.lt (x:oG P w H h a o):a<h.objs.size:=by
 cases o with
 | l c=>obtain⟨_,_,_,_,e⟩:=x;exact aZ e
 | t c=>obtain⟨_,_,_,p,_⟩:=x;exact p.lt
 | k b=>obtain⟨_,_,_,_,o,_,_,e,_⟩:=x;exact aZ e
 | T b=>obtain⟨_,_,_,_,o,_,_,e,_⟩:=x;exact aZ e
 | set S n=>obtain⟨o,_,_,_,e,_⟩:=x;exact aZ e
 | ins C d fs=>obtain⟨_,_,_,e,_⟩:=x;exact aZ e
 | o y=>obtain⟨_,e⟩:=x;exact aZ e
 | xd fs=>obtain⟨_,⟨_,_,_,e,_⟩,_⟩:=x;exact aZ e
 | rng lo i=>obtain⟨_,_,_,e⟩:=x;exact aZ e
 | frz m u=>obtain⟨e,_⟩:=x;exact aZ e
 | tbl q=>exact aZ (show h.get? a=some _ from x)
 | met f y=>exact aZ (show h.get? a=some _ from x)
 | ext s=>obtain⟨_,⟨_,e⟩,_⟩:=x;exact aZ e
theorem Paired.mapP {F:l->o->Prop}:∀ {g:Aa l}{j:Aa o},Paired F g j->(∀ a b,F a b->G a b)->Paired G g j
 | _,_,.nil,_=>.nil
 | _,_,.cons r t,f=>.cons (f _ _ r) (Paired.mapP t f)
theorem oG.stay (x:oG P w H h a o) (k:∀ b u,(b=a\/H b=some (.o a))->h.get? b=some u->j.get? b=some u)
  (J:∀ b,H b=some (.o a)->I b=some (.o a)) (U:∀ b g,H b=some (.t g)->I b=some (.t g)):oG P w I j a o:=by
 induction o with
 | l g=>obtain⟨z,A,n,r,e⟩:=x;exact⟨z,A,n,r,k _ _ (.inl rfl) e⟩
 | t g=>obtain⟨z,A,r,⟨i,e,c⟩,M,B,K⟩:=x;exact⟨z,A,r,⟨i,k _ _ (.inl rfl) e,c⟩,M,k _ _ (.inl rfl) B,K⟩
 | k D=>obtain⟨z,y,N,r,i,s,m,e,c⟩:=x;exact⟨z,y,N,r,i,s,m,k _ _ (.inl rfl) e,c⟩
 | T D =>
  obtain⟨z,y,g,r,i,s,m,e,c⟩:=x;exact⟨z,y,g,Paired.mapP r λp q z=>⟨z.1,U _ _ z.2.1,z.2.2⟩,i,s,m,k _ _ (.inl rfl) e,c⟩
 | set S n=>obtain⟨i,s,m,t,e,c⟩:=x;exact⟨i,s,m,t,k _ _ (.inl rfl) e,c⟩
 | ins C O fs =>
  obtain⟨d,z,ne,e,E,⟨F,s,m,B,c⟩,r⟩:=x;exact⟨J _ d,z,ne,k _ _ (.inl rfl) e,E,⟨F,s,m,k _ _ (.inr d) B,c⟩,r⟩
 | o y=>obtain⟨i,e⟩:=x;exact⟨i,k _ _ (.inl rfl) e⟩
 | xd fs=>obtain⟨E,⟨F,s,m,e,c⟩,r⟩:=x;exact⟨E,⟨F,s,m,k _ _ (.inl rfl) e,c⟩,r⟩
 | rng lo Q=>obtain⟨t,u,v,e⟩:=x;exact⟨t,u,v,k _ _ (.inl rfl) e⟩
 | frz i u L=>obtain⟨e,q⟩:=x;exact⟨k _ _ (.inl rfl) e,L q⟩
 | tbl G =>
  have e:h.get? a=some { cls:=.none,data:=.fields G }:=x;show j.get? a=some { cls:=.none,data:=.fields G };exact k a _ (.inl rfl) e
 | met f y =>
  have e:h.get? a=some (PySem.W.methodObj (.ref f) (.ref y)):=x;show j.get? a=some (PySem.W.methodObj (.ref f) (.ref y));exact k a _ (.inl rfl) e
 | ext R=>obtain⟨p,⟨o,e⟩,st⟩:=x;exact⟨st _ _ p λo q=>k _ _ (.inl rfl) q,⟨o,k _ _ (.inl rfl) e⟩,st⟩
theorem oO.lt (x:oO P w H h) (e:H a=some o):a<h.objs.size:=(x a o e).lt
theorem oO.fresh (x:oO P w H h) (e:h.objs.size<=a):H a=none:=by
 cases q:H a with
 | none=>rfl
 | some u=>exact absurd (bI (x.lt q) e) (eT _)
theorem oO.kept (x:oO P w H h) (k:∀ b u,h.get? b=some u->g.get? b=some u):oO P w H g:=λa o e =>
 (x a o e).stay (λb u _ q=>k b u q) (λ_ q=>q) λ_ _ q=>q
theorem oO.laid (x:oO P w H h) (k:∀ b u,h.get? b=some u->g.get? b=some u) (j:h.objs.size<=a) (new:oG P w (upd H a o) g a o):oO P w (upd H a o) g:=λb u e=>by
 have f:=x.fresh j;by_cases d:b=a
 .subst d;rw[mX] at e;cases e;exact new
 .rw[mT d] at e;exact (x b u e).stay (λc v _ q=>k c v q) (λc q=>by rw[mT (nQ q f)];exact q) λc i q=>by rw[mT (nQ q f)];exact q
end
def Rd (H:Hp) (a:Ad) (u:HO):Prop:=H a=some u\/∃ o,H a=some (.frz o u)
theorem Rd.ok {P:Ah}(r:Rd H a u) (x:oO P w H h):oG P w H h a u:=by
 rcases r with r | ⟨o,r⟩
 .exact x a u r
 .obtain⟨_,q⟩:=x a _ r;exact q
def Dw:Ab HO->Prop
 | some (.l _)=>True
 | some (.k _)=>True
 | some (.T _)=>True
 | some (.set _ _)=>True
 | some (.ins _ _ _)=>True
 | some (.ext _)=>True
 | _=>False
section
variable {P:Ah}
theorem oO.write (ok:oO P w H h) (g:Dw (H x)) (p:e=x\/H e=some (.o x)) (k:∀ b u,b≠e->h.get? b=some u->j.get? b=some u) (l:∃ u,j.get? e=some u)
  (new:oG P w (upd H x C) j x C):oO P w (upd H x C) j:=λb u q=>by
 have d:∀ c y,H c=some (.o y)->c≠x:=λc y r z=>by subst z;rw[r] at g;exact g
 have f:∀ c n,H c=some (.t n)->c≠x:=λc n r z=>by subst z;rw[r] at g;exact g
 by_cases i:b=x
 .subst i;rw[mX] at q;cases q;exact new
 .rw[mT i] at q;by_cases a:b=e
  .have s:H b=some (.o x):=by
    rcases p with z | z
    .exact absurd (a.trans z) i
    .rw[a];exact z
   rw[q] at s;cases s;obtain⟨v,A⟩:=l;exact⟨v,by rw[a];exact A⟩
  .refine (ok b u q).stay (λc v m r=>k c v ?_ r) (λc r=>by rw[mT (d c b r)];exact r) λc n r=>by rw[mT (f c n r)];exact r
   rcases m with rfl | m
   .exact a
   .rintro rfl;rcases p with z | z
    .exact d c b m z
    .rw[m] at z;cases z;exact i rfl
end
structure Un (fs ex:List Addr) (H H':Hp) (h h':Heap):Prop where
 keep:∀ b o,h.get? b=some o->H b=none->b∉fs->b∉ex->h'.get? b=some o
 slot:∀ b o,h.get? b=some o->H b=none->b∈fs->b∉ex->∃ sl,h'.get? b=some { o with slots:=sl }
 free:∀ b o,h.get? b=some o->H b=none->b∉ex->H' b=none
 there:∀ b o,h.get? b=some o->b∉ex->∃ o',h'.get? b=some o'
 tups:∀ b xs,H b=some (.t xs)->H' b=some (.t xs)
 frzs:∀ b o u,H b=some (.frz o u)->H' b=some (.frz o u)
 tbls:∀ b ps,H b=some (.tbl ps)->∃ more,H' b=some (.tbl (ps++more))
section
theorem Un.any (u:Un fs ex H o h l) (q:h.get? b=some g) (n:H b=none) (j:b∉ex):∃ sl,l.get? b=some { g with slots:=sl }:=by
 by_cases a:b∈fs
 .exact u.slot b g q n a j
 .exact⟨g.slots,u.keep b g q n a j⟩
theorem Un.kept (k:∀ b u,h.get? b=some u->g.get? b=some u):Un fs ex H H h g :=
 ⟨λb a q _ _ _=>k b a q,λb a q _ _ _=>⟨a.slots,k b a q⟩,λ_ _ _ n _=>n,λb a q _=>⟨a,k b a q⟩,λ_ _ q=>q,λ_ _ _ q=>q,λ_ c q=>⟨#[],by rw[q];simp⟩⟩
theorem Un.refl:Un fs ex H H h h:=Un.kept λ_ _ q=>q
theorem Un.laid (k:∀ b u,h.get? b=some u->j.get? b=some u) (l:h.objs.size<=a) (g:H a=none):Un fs ex H (upd H a o) h j where
 keep:=λb u q _ _ _=>k b u q
 slot:=λb u q _ _ _=>⟨u.slots,k b u q⟩
 free:=λb u q n _=>by rw[mT (bO (bI (aZ q) l))];exact n
 there:=λb u q _=>⟨u,k b u q⟩
 tups:=λb c q=>by rw[mT (nQ q g)];exact q
 frzs:=λb u c q=>by rw[mT (nQ q g)];exact q
 tbls:=λb d q=>⟨#[],by rw[mT (nQ q g),q];simp⟩
theorem Un.write (g:Dw (H x)) (p:e=x\/H e=some (.o x)) (k:∀ b u,b≠e->h.get? b=some u->l.get? b=some u) (j:∃ u,l.get? e=some u):Un fs ex H (upd H x o) h l:=by
 have f:∀ b,H b=none->b≠x:=λb n z=>by subst z;rw[n] at g;exact g
 have d:∀ b,H b=none->b≠e:=λb n z=>by
  subst z;rcases p with r | r
  .exact f b n r
  .rw[n] at r;cases r
 have c:∀ b u,H b=some u->¬ Dw (some u)->b≠x:=λb u q i z=>by subst z;rw[q] at g;exact i g
 refine⟨λb u q n _ _=>k b u (d b n) q,λb u q n _ _=>⟨u.slots,k b u (d b n) q⟩,λb u q n _=>by rw[mT (f b n)];exact n,λb u q _=>?_,
  λb m q=>by rw[mT (c b _ q λz=>z)];exact q,λb u m q=>by rw[mT (c b _ q λz=>z)];exact q,λb s q=>⟨#[],by rw[mT (c b _ q λz=>z),q];simp⟩⟩
 by_cases a:b=e
 .subst a;exact j
 .exact⟨u,k b u a q⟩
end
noncomputable def Ii (h:Ag) (H:Hp):Aa Ad:=(List.range h.objs.size).filter λa=>(H a).isSome
def xY (h:Ag) (H:Hp):Ag:=PySem.W.hideAll h (Ii h H)
theorem EX (h:Ag) (H:Hp):(xY h H).objs.size=h.objs.size:=PySem.W.hideAll_size _ _
theorem CF (e:h.get? b=some o) (n:H b=none):(xY h H).get? b=some o :=
 PySem.W.hideAll_get _ e λa=>by
  have q:(H b).isSome=true:=(cE.mp a).2;rw[n] at q;simp at q
theorem NN (e:(xY h H).get? b=some o):h.get? b=some o/\H b=none:=by
 have a:h.get? b=some o:=PySem.W.of_hideAll (Ii h H) e;refine⟨a,?_⟩;cases q:H b with
 | none=>rfl
 | some x =>
  have c:b∈Ii h H:=cE.mpr ⟨dQ.mpr (aZ a),by simp[q]⟩;have z:(xY h H).get? b=none:=PySem.W.hideAll_none (Ii h H) c;rw[z] at e;cases e
structure Mod (K:mI) (mg:Str->Option Value) (base:Heap):Prop where
 kin:K.In base
 glob:base.Ns mainGlobals mg
 blt:∃ mb,base.Ns builtinsNs mb/\∀ x:Str,x ≠ "__name__" -> mb x=bootBuiltins x
 nolimit:base.NoLimit
/-- the context: a def's body (or a comprehension's block) running. base: fixed through the whole law;s₀,H₀: the entry;outer: the frames whose slots others may change (a def's callers);stack: all frames that run;
 ex: iterators that were made ahead of the entry and are walked here (a comprehension's);fn: the names whose cells were made at the entry (a def: all;a comprehension's block: its own);calm: not within an except suite;pn: pins that every state bears;xe: what is wanted of an exception that leaves the code -/
structure Cx where
 prog:Program
 w:World
 K:mI
 mg:Str->Option Value
 base:Heap
 A:Around
 N:List Str
 s₀:Shared
 H₀:Hp
 env:Env
 outer:List Env
 stack:List Env
 ex:List Addr
 fn:Str->Bool
 calm:Bool
 pn:List (Addr×Obj)
 xe:Value->Shared->Prop
noncomputable def wF (l:Aa Env):Aa Ad:=l.filterMap (·.frame)
abbrev Cx.fs (X:Cx):Aa Ad:=wF X.outer
def Iz (g:Scope) (x:Af):Prop:=g.names.lookup x=some .local\/g.names.lookup x=some .cell\/g.names.lookup x=some .free
def xD (g:Scope) (x:Af):Prop:=g.names.lookup x=some .local\/g.names.lookup x=some .cell
def OV (g:Env) (h:Ag) (m:Af->Ab Ac) (x:Af) (u:Ac):Prop :=
 (g.kindOf x=some .local/\m x=some u)\/((g.kindOf x=some .cell\/g.kindOf x=some .free)/\∃ c,g.cells.lookup x=some c/\h.IsCell c (some u))
structure Cx.Ok (X:Cx):Prop where
 mod:Mod X.K X.mg X.base
 kind:X.env.scope.kind = .function
 glob:X.env.globals=mainGlobals
 blt:X.env.builtins=builtinsNs
 above:X.s₀.heap.objs.size<=X.env.locals
 inj:∀ x y c,X.env.cells.lookup x=some c->X.env.cells.lookup y=some c->x=y
 has:∀ x,(X.env.kindOf x=some .cell\/X.env.kindOf x=some .free)->∃ c,X.env.cells.lookup x=some c
 cab:∀ x c,X.fn x=true->X.env.cells.lookup x=some c->X.s₀.heap.objs.size<=c
 hd:X.calm=true->X.A.handled=none
 frames:X.A.frames=some X.stack
 stk:X.stack=X.outer\/(X.stack=X.env::X.outer/\X.env.frame=some X.env.locals)
 exf:∀ b∈X.ex,b≠X.env.locals/\∀ x c,X.env.cells.lookup x=some c->c≠b
 bs:∀ b o,X.base.get? b=some o->X.s₀.heap.get? b=some o/\X.H₀ b=none
 bsz:X.base.objs.size<=X.s₀.heap.objs.size
 noex:∀ b o,X.base.get? b=some o->b∉X.ex
 exfs:∀ b∈X.ex,b∉X.fs
 funs:X.s₀.heap.FunFrames X.base X.outer
 frf:∀ b∈X.fs,X.H₀ b=none
structure Inv (X:Cx) (pins:List (Addr×Obj)) (σ:List (Option V)) (H:Hp) (s:Shared):Prop where
 ok:X.Ok
 os:s.os=X.s₀.os
 bare:AllBare s.gens
 base:Un X.fs X.ex X.H₀ H X.s₀.heap s.heap
 loc:∃ m,s.heap.Ns X.env.locals m/\∀ (i:Nat) (x:Str) (v:V),X.N[i]?=some x->σ[i]?=some (some v)->Iz X.env.scope x->∃ u,nC v u/\OV X.env s.heap m x u
 cell:∀ x c,X.env.cells.lookup x=some c->∃ v,s.heap.IsCell c v
 free:H X.env.locals=none
 freeC:∀ x c,X.env.cells.lookup x=some c->H c=none
 pin:∀ p∈X.pn++pins,s.heap.get? p.1=some p.2/\H p.1=none/\p.1≠X.env.locals/\p.1∉X.fs/\∀ v,p.2.data ≠ .cell v
 hok:oO X.prog X.w H s.heap
 len:σ.length=X.N.length
section
variable {X:Cx}
theorem Cx.Ok.nofr (ok:X.Ok) (e:X.base.get? b=some o):b∉X.fs:=λa=>by
 have:=(ok.funs.mem a).1;rw[e] at this;cases this
theorem Inv.bs (I:Inv X g j H s):∀ b o,X.base.get? b=some o->s.heap.get? b=some o/\H b=none:=λb o e =>
 ⟨I.base.keep b o (I.ok.bs b o e).1 (I.ok.bs b o e).2 (I.ok.nofr e) (I.ok.noex b o e),I.base.free b o (I.ok.bs b o e).1 (I.ok.bs b o e).2 (I.ok.noex b o e)⟩
theorem Inv.bk (I:Inv X g j H s):∀ b o,X.base.get? b=some o->s.heap.get? b=some o:=λb o e=>(I.bs b o e).1
theorem Inv.mod (I:Inv X g j H s):Mod X.K X.mg X.base:=I.ok.mod
theorem Inv.kIn (I:Inv X g j H s):X.K.In s.heap:=I.ok.mod.kin.keeps I.bk
theorem Inv.lt (I:Inv X g j H s):X.env.locals<s.heap.objs.size:=let ⟨_,a,_⟩:=I.loc;a.lt
theorem Inv.sz (I:Inv X g j H s):X.s₀.heap.objs.size<=s.heap.objs.size:=bX I.ok.above (eI I.lt)
theorem Inv.nofs (I:Inv X g j H s) (h:s.heap.objs.size<=a):a∉X.fs:=λb=>by
 obtain⟨_,o,c,_⟩:=I.ok.funs.mem b;exact absurd (bI (aZ c) (bX I.sz h)) (eT _)
theorem Inv.cne (I:Inv X g j H s):∀ x c,X.env.cells.lookup x=some c->c≠X.env.locals:=λx c e z=>by
 obtain⟨v,o,d,hd⟩:=I.cell x c e;obtain⟨m,⟨i,h,f,b,a,_⟩,_⟩:=I.loc;rw[z,b] at d;cases d;rw[a] at hd;cases hd
theorem Inv.funs (I:Inv X g j H s):s.heap.FunFrames X.base X.outer:=by
 have all:∀ (l:Aa Env),(∀ b∈wF l,b∈X.fs)->X.s₀.heap.FunFrames X.base l->s.heap.FunFrames X.base l:=by
  intro l;induction l with
  | nil=>intro _ _;trivial
  | cons h r t =>
   intro f k;obtain⟨i,⟨L,o,d,m,n,hd⟩,q⟩:=k;have a:L∈X.fs:=f L (by unfold wF;rw[List.filterMap_cons,d];exact aH);obtain⟨sl,e⟩:=I.base.slot L o n (I.ok.frf L a) a λz=>I.ok.exfs L z a
   exact⟨i,⟨L,_,d,m,e,hd⟩,t (λb c=>f b (by unfold wF;rw[List.filterMap_cons,d];exact aQ _ c)) q⟩
 exact all X.outer (λ_ c=>c) I.ok.funs
theorem Inv.stack (I:Inv X g j H s):s.heap.FunFrames X.base X.stack:=by
 rcases I.ok.stk with e | ⟨e,a⟩
 .rw[e];exact I.funs
 .rw[e];obtain⟨m,b,_⟩:=I.loc;refine .cons (by rw[I.ok.kind];decide) a b ?_ I.funs;exact Heap.get?_none_of_le (bX I.ok.bsz I.ok.above)
theorem Inv.stkSub (I:Inv X g j H s):∀ b∈wF X.stack,b∈X.env.locals::X.fs:=λb a=>by
 rcases I.ok.stk with e | ⟨e,c⟩
 .rw[e] at a;exact aQ _ a
 .rw[e] at a;unfold wF at a;rw[gZ,c] at a;exact a
theorem Inv.stkFree (I:Inv X g j H s):∀ b∈wF X.stack,H b=none:=λb a=>by
 rcases aK.mp (I.stkSub b a) with e | a
 .rw[e];exact I.free
 .obtain⟨_,o,c,_⟩:=I.ok.funs.mem a;exact I.base.free b o c (I.ok.frf b a) λz=>I.ok.exfs b z a
theorem Inv.step {g':Array GenState}{t':Nat}{d':Drawn}{ch:Aa Ad}(I:Inv X j σ H s)
  (g:∀ b∈ch,(b∈X.ex\/X.s₀.heap.objs.size<=b)/\b≠X.env.locals/\(∀ x c,X.env.cells.lookup x=some c->c≠b)/\∀ p∈X.pn++j,p.1≠b)
  (keep:∀ b o,b≠X.env.locals->b∉X.fs->b∉ch->s.heap.get? b=some o->H b=none->J.get? b=some o)
  (slot:∀ b o,b≠X.env.locals->b∈X.fs->b∉ch->s.heap.get? b=some o->H b=none->∃ sl,J.get? b=some { o with slots:=sl }) (free:∀ b o,b∉ch->s.heap.get? b=some o->H b=none->T b=none)
  (there:∀ b o,b∉ch->s.heap.get? b=some o->∃ o',J.get? b=some o')
  (ab:∀ b C,H b=some (.t C)->T b=some (.t C)) (U:∀ b o u,H b=some (.frz o u)->T b=some (.frz o u)) (aa:∀ b ps,H b=some (.tbl ps)->∃ more,T b=some (.tbl (ps++more)))
  (ns:∀ m,s.heap.Ns X.env.locals m->J.Ns X.env.locals m) (ac:oO X.prog X.w T J) (hg:AllBare g') :
  Inv X j σ T { s with heap:=J,gens:=g',drawn:=d',toks:=t' }:=by
 have F:∀ b o,X.s₀.heap.get? b=some o->b≠X.env.locals:=λb o e=>bO (bI (aZ e) I.ok.above)
 have A:∀ b o,X.s₀.heap.get? b=some o->b∉X.ex->b∉ch:=λb o e a B=>by
  rcases (g b B).1 with z | z
  .exact a z
  .exact absurd (bI (aZ e) z) (eT _)
 have f:∀ x c,X.env.cells.lookup x=some c->∀ v,s.heap.IsCell c v->J.IsCell c v:=λx c e v G=>by
  obtain⟨o,D,hd⟩:=G;have h:c∉ch:=λz=>(g c z).2.2.1 x c e rfl
  by_cases L:c∈X.fs
  .obtain⟨sl,q⟩:=slot c o (I.cne x c e) L h D (I.freeC x c e);exact⟨_,q,hd⟩
  .exact⟨o,keep c o (I.cne x c e) L h D (I.freeC x c e),hd⟩
 refine⟨I.ok,I.os,hg,⟨λb o e n B a=>?_,λb o e n B a=>?_,λb o e n a=>?_,λb o e a=>?_,λb C e=>ab b C (I.base.tups b C e),λb o C e=>U b o C (I.base.frzs b o C e),λb ps e=>?_⟩,?_,λx c e=>?_,?_,λx c e=>?_,λp M=>?_,ac,I.len⟩
 .exact keep b o (F b o e) B (A b o e a) (I.base.keep b o e n B a) (I.base.free b o e n a)
 .obtain⟨sl,y⟩:=I.base.slot b o e n B a;obtain⟨K,E⟩:=slot b _ (F b o e) B (A b o e a) y (I.base.free b o e n a);exact⟨K,E⟩
 .obtain⟨o',y⟩:=I.base.there b o e a;exact free b o' (A b o e a) y (I.base.free b o e n a)
 .obtain⟨o',y⟩:=I.base.there b o e a;exact there b o' (A b o e a) y
 .obtain⟨R,y⟩:=I.base.tbls b ps e;obtain⟨S,E⟩:=aa b _ y;exact⟨R++S,by rw[E,Array.append_assoc]⟩
 .obtain⟨m,Q,P⟩:=I.loc;refine⟨m,ns m Q,λi x v y E O=>?_⟩;obtain⟨u,r,l⟩:=P i x v y E O;refine⟨u,r,?_⟩;rcases l with l | ⟨k,c,e,z⟩
  .exact .inl l
  .exact .inr ⟨k,c,e,f x c e _ z⟩
 .obtain⟨v,z⟩:=I.cell x c e;exact⟨v,f x c e v z⟩
 .obtain⟨m,⟨o,_,_,D,_⟩,_⟩:=I.loc;exact free _ o (λz=>(g _ z).2.1 rfl) D I.free
 .obtain⟨v,o,D,hd⟩:=I.cell x c e;exact free c o (λz=>(g c z).2.2.1 x c e rfl) D (I.freeC x c e)
 .obtain⟨e,n,ne,N,d⟩:=I.pin p M;have h:p.1∉ch:=λz=>(g p.1 z).2.2.2 p M rfl
  exact⟨keep p.1 p.2 ne N h e n,free p.1 p.2 h e n,ne,N,d⟩
theorem Inv.un (I:Inv X g p H s) (u:Un X.fs [] H l s.heap h') (j:oO X.prog X.w l h'):Inv X g p l { s with heap:=h',toks:=t' }:=by
 obtain⟨m,⟨o,v,t,h,r⟩,_⟩:=id I.loc;obtain⟨sl,i⟩:=u.any h I.free (by simp);exact I.step (g':=s.gens) (d':=s.drawn) (ch:=[]) (λ_ z=>nomatch z) (λb o _ f _ e n=>u.keep b o e n f (by simp)) (λb o _ f _ e n=>u.slot b o e n f (by simp)) (λb o _ e n=>u.free b o e n (by simp)) (λb o _ e=>u.there b o e (by simp)) u.tups u.frzs u.tbls (λx k=>by
  obtain⟨y,d,c,a,q⟩:=k;rw[h] at a;cases a;exact⟨_,d,c,i,q⟩) j I.bare
theorem Inv.call (I:Inv X g T H s) (u:Un (wF X.stack) ch H C s.heap h') (l:oO X.prog X.w C h') (J:AllBare g')
  (j:∀ b∈ch,(b∈X.ex\/X.s₀.heap.objs.size<=b)/\b≠X.env.locals/\(∀ x c,X.env.cells.lookup x=some c->c≠b)/\∀ p∈X.pn++g,p.1≠b) :
  Inv X g T C { s with heap:=h',gens:=g',drawn:=d',toks:=t' }:=by
 obtain⟨m,⟨o,A,y,k,r⟩,_⟩:=id I.loc;obtain⟨sl,i⟩:=u.any k I.free λz=>(j _ z).2.1 rfl
 exact I.step (ch:=ch) j (λb o i q a e n=>u.keep b o e n (λz=>(aK.mp (I.stkSub b z)).elim i q) a) (λb o _ _ a e n=>u.any e n a) (λb o a e n=>u.free b o e n a) (λb o a e=>u.there b o e a) u.tups u.frzs u.tbls (λB t=>by
  obtain⟨D,h,f,d,v⟩:=t;rw[k] at d;cases d;exact⟨_,h,f,i,v⟩) l J
theorem Inv.turned (I:Inv X j σ H s) (k:∀ b o,b≠g->s.heap.get? b=some o->C.get? b=some o) (hn:H g=none) (l:g≠X.env.locals)
  (J:g∈X.ex\/X.s₀.heap.objs.size<=g) (T:∀ x c,X.env.cells.lookup x=some c->c≠g) (U:∀ p∈X.pn++j,p.1≠g):Inv X j σ H { s with heap:=C,toks:=t' }:=by
 have d:∀ b u,H b=some u->b≠g:=λb u e z=>by rw[z,hn] at e;cases e
 refine I.step (g':=s.gens) (d':=s.drawn) (ch:=[g]) (λb i=>?_) (λb o _ _ a e _=>k b o (λz=>a (by simp[z])) e) (λb o _ _ a e _=>⟨o.slots,k b o (λz=>a (by simp[z])) e⟩) (λ_ _ _ _ n=>n)
  (λb o a e=>⟨o,k b o (λz=>a (by simp[z])) e⟩) (λ_ _ e=>e) (λ_ _ _ e=>e) (λb y e=>⟨#[],by rw[e];simp⟩) (λm t=>?_) (λb u e=>?_) I.bare
 .have e:b=g:=by simpa using i
  subst e;exact⟨J,l,T,U⟩
 .obtain⟨o,h,f,w,r⟩:=t;exact⟨o,h,f,k _ o (eJ l) w,r⟩
 .refine (I.hok b u e).stay (λc v a q=>k c v ?_ q) (λ_ q=>q) λ_ _ q=>q
  rcases a with z | z
  .rw[z];exact d b u e
  .exact d c _ z
theorem Inv.tok (I:Inv X g j H s) (t:Nat):Inv X g j H { s with toks:=t }:=I.un (h':=s.heap) (t':=t) Un.refl I.hok
theorem Inv.kept (I:Inv X g l H s) (k:∀ b u,s.heap.get? b=some u->j.get? b=some u):Inv X g l H { s with heap:=j,toks:=t' }:=I.un (Un.kept k) (I.hok.kept k)
theorem Inv.laid (I:Inv X g p H s) (k:∀ b u,s.heap.get? b=some u->l.get? b=some u) (j:s.heap.objs.size<=a) (new:oG X.prog X.w (upd H a o) l a o) :
  Inv X g p (upd H a o) { s with heap:=l,toks:=t' }:=I.un (Un.laid k j (I.hok.fresh j)) (I.hok.laid k j new)
theorem Inv.write (I:Inv X j C H s) (r:Dw (H x)) (p:e=x\/H e=some (.o x)) (k:∀ b u,b≠e->s.heap.get? b=some u->l.get? b=some u) (g:∃ u,l.get? e=some u)
  (new:oG X.prog X.w (upd H x o) l x o):Inv X j C (upd H x o) { s with heap:=l,toks:=J }:=I.un (Un.write r p k g) (I.hok.write r p k g new)
theorem Inv.pins_of (I:Inv X j l H s) (h:∀ p∈g,s.heap.get? p.1=some p.2/\H p.1=none/\p.1≠X.env.locals/\p.1∉X.fs/\∀ v,p.2.data ≠ .cell v):Inv X g l H s :=
 ⟨I.ok,I.os,I.bare,I.base,I.loc,I.cell,I.free,I.freeC,λp a=>(aV.mp a).elim (λz=>I.pin p (bB _ z)) (h p),I.hok,I.len⟩
theorem S5 {N:Aa Af}(g:N.Nodup){i j:Nat}{x:Af}(a:N[i]?=some x) (b:N[j]?=some x):i=j:=by
 obtain⟨e,c⟩:=aL.mp a;obtain⟨f,d⟩:=aL.mp b;exact (List.getElem_inj g).mp (c.trans d.symm)
theorem Wq (I:Inv X J σ H s) (hN:X.N.Nodup) (l:X.N[i]?=some x) (g:xD X.env.scope x) (r:nC v u)
  (h:∀ s',Inv X J (σ.set i (some v)) H s'->(∃ a,Heap.SameBut a s.heap s'.heap/\(a=X.env.locals\/X.env.cells.lookup x=some a))->Q () s') (hf:X.fn x=true\/X.env.scope.names.lookup x=some .local:=by first | exact .inl rfl | exact .inr rfl | assumption):wpAny M A (storeName X.env x u) Q E s:=by
 obtain⟨m,hn,hl⟩:=id I.loc;have Y:(X.env.scope.kind == .class||(X.env.scope.kind == .module&&X.env.locals != X.env.globals))=false:=by rw[I.ok.kind];rfl
 have K:i<σ.length:=by rw[I.len];exact (aL.mp l).1
 have cne:=I.cne;have B:∀ {a:Ad} {S:Ag},(∃ o,s.heap.get? a=some o/\H a=none)->Heap.SameBut a s.heap S->oO X.prog X.w H S:=λ{a S} ha f b ob e=>by
  obtain⟨_,_,F⟩:=ha;refine (I.hok b ob e).stay (λc U D q=>(f.2 c ?_).trans q) (λ_ q=>q) λ_ _ q=>q
  rintro rfl;rcases D with rfl | D
  .rw[F] at e;cases e
  .rw[F] at D;cases D
 rcases g with L | L
 .refine wpAny_storeName_local L hn (λS aa f=>?_) Y;obtain⟨oL,_,_,ab,_⟩:=id hn;refine h _ ⟨I.ok,I.os,I.bare,⟨λb o e n O g=>?_,λb o e n O g=>?_,I.base.free,λb o e g=>?_,I.base.tups,I.base.frzs,I.base.tbls⟩,⟨_,aa,λj y v' t G e3=>?_⟩,λy c e=>?_,I.free,I.freeC,λp hp=>?_,B ⟨oL,ab,I.free⟩ f,by simpa using I.len⟩ ⟨_,f,.inl rfl⟩
  .exact (f.2 b (bO (bI (aZ e) I.ok.above))).trans (I.base.keep b o e n O g)
  .obtain⟨sl,t⟩:=I.base.slot b o e n O g;exact⟨sl,(f.2 b (bO (bI (aZ e) I.ok.above))).trans t⟩
  .obtain⟨o',t⟩:=I.base.there b o e g;exact⟨o',(f.2 b (bO (bI (aZ e) I.ok.above))).trans t⟩
  .by_cases R:j=i
   .subst R;rw[l] at t;cases t;rw[List.getElem?_set_self K] at G;cases G;exact⟨u,r,.inl ⟨L,by simp⟩⟩
   .rw[eY (eJ R)] at G;obtain⟨u',r',q⟩:=hl j y v' t G e3;refine⟨u',r',?_⟩;rcases q with⟨k,e⟩ | ⟨k,c,e,z⟩
    .refine .inl ⟨k,?_⟩;have:y≠x:=λe=>R (S5 hN t (e▸l))
     simp[this,e]
    .exact .inr ⟨k,c,e,z.sameBut f (cne y c e)⟩
  .obtain⟨U,z⟩:=I.cell y c e;exact⟨U,z.sameBut f (cne y c e)⟩
  .obtain⟨e,n,ne,nf,d⟩:=I.pin p hp;exact⟨(f.2 p.1 ne).trans e,n,ne,nf,d⟩
 .have P:X.fn x=true:=by
   rcases hf with z | z
   .exact z
   .rw[z] at L;cases L
  obtain⟨c,D⟩:=I.ok.has x (.inl L);obtain⟨U,z⟩:=I.cell x c D;refine wpAny_storeName_cell I.ok.kind L D z (λS V f=>?_);obtain⟨oc,Z,C⟩:=id z;refine h { s with heap:=S } ⟨I.ok,I.os,I.bare,⟨λb o e n O g=>?_,λb o e n O g=>?_,I.base.free,λb o e g=>?_,I.base.tups,I.base.frzs,I.base.tbls⟩,⟨m,hn.sameBut f (eJ (cne x c D)),λj y v' t G e3=>?_⟩,λy T e=>?_,I.free,I.freeC,λp hp=>?_,B ⟨oc,Z,I.freeC x c D⟩ f,by simpa using I.len⟩ ⟨c,f,.inr D⟩
  .exact (f.2 b (bO (bI (aZ e) (I.ok.cab x c P D)))).trans (I.base.keep b o e n O g)
  .obtain⟨sl,t⟩:=I.base.slot b o e n O g;exact⟨sl,(f.2 b (bO (bI (aZ e) (I.ok.cab x c P D)))).trans t⟩
  .obtain⟨o',t⟩:=I.base.there b o e g;exact⟨o',(f.2 b (bO (bI (aZ e) (I.ok.cab x c P D)))).trans t⟩
  .by_cases R:j=i
   .subst R;rw[l] at t;cases t;rw[List.getElem?_set_self K] at G;cases G;exact⟨u,r,.inr ⟨.inl L,c,D,V⟩⟩
   .rw[eY (eJ R)] at G;obtain⟨u',r',q⟩:=hl j y v' t G e3;refine⟨u',r',?_⟩;rcases q with q | ⟨k,T,e,z'⟩
    .exact .inl q
    .refine .inr ⟨k,T,e,z'.sameBut f ?_⟩;rintro rfl;exact R (S5 hN t (I.ok.inj _ _ _ e D▸l))
  .by_cases W:T=c
   .subst W;exact⟨_,V⟩
   .obtain⟨w2,z2⟩:=I.cell y T e;exact⟨w2,z2.sameBut f W⟩
  .obtain⟨e,n,ne,nf,d⟩:=I.pin p hp;refine⟨(f.2 p.1 ?_).trans e,n,ne,nf,d⟩;intro q;rw[q,Z] at e;have q':oc=p.2:=bK e;exact d U (by rw[<- q'];exact C)
theorem M5 (I:Inv X g J H s) (l:X.N.Nodup) (p:X.N[i]?=some x) (C:xD X.env.scope x) (r:nC v u)
  (h:∀ j,Inv X g (J.set i (some v)) H j->Q () j) (o:X.fn x=true\/X.env.scope.names.lookup x=some .local:=by first | exact .inl rfl | exact .inr rfl | assumption):wpAny M A (storeName X.env x u) Q E s :=
 Wq I l p C r (λj a _=>h j a) o
theorem Inv.call' (I:Inv X g J H s) (C:s'.os=s.os) (u:Un (wF X.stack) ch H o s.heap s'.heap) (l:oO X.prog X.w o s'.heap) (r:AllBare s'.gens)
  (j:∀ b∈ch,(b∈X.ex\/X.s₀.heap.objs.size<=b)/\b≠X.env.locals/\(∀ x c,X.env.cells.lookup x=some c->c≠b)/\∀ p∈X.pn++g,p.1≠b):Inv X g J o s':=by
 obtain⟨i,d,a,h,f⟩:=s';have e:f=s.os:=C;subst e;exact I.call (g':=d) (t':=h) (d':=a) u l r j
end
abbrev XK:=Ac->Ab Ad->Hp->Prop
abbrev St:=Aa (Ab V)
abbrev VK:=V->Hp->Prop
abbrev TE:=St->Hp->VK->Prop
abbrev TT:=St->Hp->(Bool->Hp->Prop)->Prop
abbrev TA:=St->Hp->(Aa V->Hp->Prop)->Prop
structure Ends where
 nx:St->Hp->Prop
 rt:VK
 bk:St->Hp->Prop:=λ_ _=>False
 ct:St->Hp->Prop:=λ_ _=>False
abbrev TS:=Ends->St->Hp->Prop
def EP (X:Cx) (g:Aa (Ad×Obj)) (l:St) (Q:VK) (u:Ac) (j:Ae):Prop:=∃ v a,Inv X g l a j/\nC v u/\Q v a
def TP (X:Cx) (g:Aa (Ad×Obj)) (l:St) (Q:Bool->Hp->Prop) (b:Bool) (j:Ae):Prop:=∃ a,Inv X g l a j/\Q b a
def AP (X:Cx) (g:Aa (Ad×Obj)) (o:St) (Q:Aa V->Hp->Prop) (l:Aa Ac) (j:Ae):Prop:=∃ b a,Inv X g o a j/\mY b l/\Q b a
def SP (X:Cx) (g:Aa (Ad×Obj)) (D:Ends) (f:Flow) (j:Ae):Prop :=
 match f with
 | .next=>∃ a b,Inv X g a b j/\D.nx a b
 | .brk=>∃ a b,Inv X g a b j/\D.bk a b
 | .cont=>∃ a b,Inv X g a b j/\D.ct a b
 | .ret u=>∃ v a b,Inv X g a b j/\nC v u/\D.rt v b
def PE (X:Cx) (e:Expr) (t:TE):Prop :=
 ∀ (a:Aa (Ad×Obj)) (s:Ae) (b:St) (H:Hp) (Q:VK),Inv X a b H s->t b H Q->wpAny (model X.prog X.w) X.A (eval e X.env) (EP X a b Q) X.xe s
def PT (X:Cx) (e:Expr) (t:TT):Prop :=
 ∀ (a:Aa (Ad×Obj)) (s:Ae) (b:St) (H:Hp) (Q:Bool->Hp->Prop),Inv X a b H s->t b H Q->wpAny (model X.prog X.w) X.A (isTrue e X.env (eval e X.env)) (TP X a b Q) X.xe s
def PW (X:Cx) (e:Expr) (t:TT):Prop :=
 ∀ (whole:Sem Ac) (a:Aa (Ad×Obj)) (s:Ae) (b:St) (H:Hp) (Q:Bool->Hp->Prop),Inv X a b H s->t b H Q->wpAny (model X.prog X.w) X.A (isTrue e X.env whole) (TP X a b Q) X.xe s
theorem PW.pt {X:Cx}(h:PW X e t):PT X e t:=h _
def PA (X:Cx) (g:Aa Expr) (t:TA):Prop :=
 ∀ (pos:Pos) (a:Aa (Ad×Obj)) (s:Ae) (b:St) (H:Hp) (Q:Aa V->Hp->Prop),Inv X a b H s->t b H Q->wpAny (model X.prog X.w) X.A (spliced (backTo pos (starEach g X.env))) (AP X a b Q) X.xe s
def PS (X:Cx) (st:Stmt) (t:TS):Prop :=
 ∀ (a:Aa (Ad×Obj)) (s:Ae) (b:St) (H:Hp) (D:Ends),Inv X a b H s->t D b H->wpAny (model X.prog X.w) X.A (exec st X.env) (SP X a D) X.xe s
def qG (X:Cx) (st:Aa Stmt) (t:TS):Prop :=
 ∀ (a:Aa (Ad×Obj)) (s:Ae) (b:St) (H:Hp) (D:Ends),Inv X a b H s->t D b H->wpAny (model X.prog X.w) X.A (execs st X.env) (SP X a D) X.xe s
theorem mV (h:wpAny M A t Q E s) (j:∀ a s,Q a s->g a s):wpAny M A t g E s:=cO h j λ_ _ x=>x
section
variable {X:Cx}
def pX (i:Nat):TE:=λa H Q=>∃ v,a[i]?=some (some v)/\Q v H
def tC (v:V):TE:=λ_ H Q=>Q v H
theorem AX (j:X.N[i]?=some x) (o:Iz X.env.scope x) (hd:(x == ("__debug__" : Af))=false:=by decide) (g:(x == ("__classdict__" : Af))=false:=by decide):PE X (.Name x pos) (pX i):=by
 intro d s t H Q I h;obtain⟨v,e,h⟩:=h;obtain⟨m,q,k⟩:=I.loc;obtain⟨u,r,l⟩:=k i x v j e o;have fin:EP X d t Q u s:=⟨v,H,I,r,h⟩;rcases l with⟨b,n⟩ | ⟨b,c,f,a⟩
 .exact wpAny_Name (wpAny_loadName_local I.ok.kind b q n fin) hd
 .rcases b with b | b
  .exact wpAny_Name (wpAny_loadName_cell I.ok.kind b f a fin) hd
  .exact wpAny_Name (wpAny_loadName_free I.ok.kind b f a fin g) hd
theorem nU {i j pos}:PE X (.Constant (.int i) j pos) (tC (.int i)):=λ_ _ _ H _ I h=>wpAny_Constant_int ⟨.int i,H,I.tok _,⟨_,rfl⟩,h⟩
theorem ND {b j pos}:PE X (.Constant (.bool b) j pos) (tC (.b b)):=λ_ _ _ H _ I h=>Constant_bool ⟨.b b,H,I,rfl,h⟩
theorem Ra {j pos}:PE X (.Constant .none j pos) (tC .e):=λ_ _ _ H _ I h=>Constant_none ⟨.e,H,I,rfl,h⟩
theorem wQ {x j pos}:PE X (.Constant (.str x) j pos) (tC (.str x)):=λ_ _ _ H _ I h=>Calls.Constant_str ⟨.str x,H,I.tok _,⟨_,rfl⟩,h⟩
def Gl (X:Cx) (x:Af):Prop:=X.env.kindOf x=some .globalImplicit
theorem Pl (I:Inv X g o H s) (j:Gl X x) (l:X.mg x=some u) (h:Q u s)
  (hd:(x == ("__debug__" : Af))=false:=by decide):wpAny (model X.prog X.w) X.A (eval (.Name x pos) X.env) Q E s :=
 Calls.Name_function_global I.ok.kind j (Calls.loadGlobal_global (by rw[I.ok.glob];exact I.mod.glob.keeps I.bk) l h) hd
theorem yJ (I:Inv X g r H s) (j:Gl X x) (l:X.mg x=none) (p:bootBuiltins x=some u) (h:Q u s)
  (o:x ≠ "__name__" := by decide) (hd:(x == ("__debug__" : Af))=false:=by decide):wpAny (model X.prog X.w) X.A (eval (.Name x pos) X.env) Q E s:=by
 obtain⟨c,a,b⟩:=I.mod.blt;exact Calls.Name_function_global I.ok.kind j (Calls.loadGlobal_builtin (by rw[I.ok.glob];exact I.mod.glob.keeps I.bk) l (by rw[I.ok.blt];exact a.keeps I.bk) ((b x o).trans p) h) hd
theorem Zv (g:Gl X x) (j:X.mg x=none) (o:bootBuiltins x=some u) (r:nC v u) (l:x ≠ "__name__" := by decide) (hd:(x == ("__debug__" : Af))=false:=by decide):PE X (.Name x pos) (tC v) :=
 λ_ _ _ H _ I h=>yJ I g j o ⟨v,H,I,r,h⟩ l hd
def PC (X:Cx) (op:CmpOp) (a b:Expr) (t:TE):Prop :=
 ∀ (c:Aa (Ad×Obj)) (s:Ae) (f:St) (H:Hp) (Q:VK),Inv X c f H s->t f H Q ->
  wpAny (model X.prog X.w) X.A (eval a X.env) (λv d=>wpAny (model X.prog X.w) X.A (eval b X.env) (λu e=>wpAny (model X.prog X.w) X.A (compareOp op v u) (EP X c f Q) X.xe e) X.xe d) X.xe s
def tB (t:TE):TT:=λd H Q=>t d H λx a=>∃ c,x = .b c/\Q c a
theorem QS (h:PC X op a b t) (g:behindInMarks op b=false:=by first | exact nobehind _ (by decide) (by decide) | rfl):PT X (.Compare a [op] [b] pos) (tB t):=by
 intro e s y H Q I hw;refine wpAny_isTrue_Compare1 (mV (h e s y H _ I hw) λv z g=>mV g λu A m=>mV m λc B f=>?_) g;obtain⟨x,i,k,w,n⟩:=f;obtain⟨d,rfl,q⟩:=n;cases w;exact gQ ⟨i,k,q⟩
variable {rest:Aa Expr}
def DE (t u:TT):TT:=λb H Q=>t b H λc a=>if c=true then u b a Q else Q false a
def LX (t u:TT):TT:=λb H Q=>t b H λc a=>if c=true then Q true a else u b a Q
def SF (t:TT):TT:=λb H Q=>t b H λc a=>Q (!c) a
theorem Xg (g:PT X a j):PW X (.BoolOp .And [a] pos) j:=by
 intro i b s d H Q I h;refine isTrue_and (mV (g b s d H Q I h) λc f e=>?_);cases c with
 | true=>exact isTrue_and_nil e
 | false=>exact e
theorem GQ (g:PT X a j):PW X (.BoolOp .Or [a] pos) j:=by
 intro i b s d H Q I h;refine isTrue_or (mV (g b s d H Q I h) λc f e=>?_);cases c with
 | false=>exact isTrue_or_nil e
 | true=>exact e
theorem X4 (j:PT X a o) (l:PW X (.BoolOp .And (b::rest) pos) g):PW X (.BoolOp .And (a::b::rest) pos) (DE o g):=by
 intro q d s m H Q I h;refine isTrue_and (mV (j d s m H _ I h) λc n e=>?_);obtain⟨f,i,k⟩:=e;cases c with
 | true=>exact l q d n m f Q i k
 | false=>exact⟨f,i,k⟩
theorem FV (j:PT X a o) (l:PW X (.BoolOp .Or (b::rest) pos) g):PW X (.BoolOp .Or (a::b::rest) pos) (LX o g):=by
 intro q d s m H Q I h;refine isTrue_or (mV (j d s m H _ I h) λc n e=>?_);obtain⟨f,i,k⟩:=e;cases c with
 | true=>exact⟨f,i,k⟩
 | false=>exact l q d n m f Q i k
theorem NH (g:PT X a j):PT X (.UnaryOp .Not a pos) (SF j):=by
 intro b s e H Q I h;exact isTrue_not (g b s e H (λc d=>Q (!c) d) I h)
def SM (g j:TE):TE:=λd H Q=>g d H λx a=>∃ c,x = .b c/\if c=true then Q (.b true) a else j d a Q
theorem QE {op}(h:PE X a t):PE X (.BoolOp op [a] pos) t:=λb s c H Q I hw=>BoolOp_one (h b s c H Q I hw)
theorem QM (g:PE X a l) (j:PE X (.BoolOp .Or (b::rest) pos) o):PE X (.BoolOp .Or (a::b::rest) pos) (SM l o):=by
 intro d s m H Q I h;refine BoolOp_or (mV (g d s m H _ I h) λv q f=>?_);obtain⟨x,i,k,n,e⟩:=f;obtain⟨c,rfl,e⟩:=e;cases n;refine gQ ?_;cases c with
 | false=>exact j d q m i Q k e
 | true=>exact⟨.b true,i,k,rfl,e⟩
def SK (t:TT) (g j:TE):TE:=λa H Q=>t a H λc b=>if c=true then g a b Q else j a b Q
theorem OP (l:PT X c o) (g:PE X a p) (j:PE X b r):PE X (.IfExp c a b pos) (SK o p r):=by
 intro e s i H Q I h;refine wpAny_IfExp (mV (l e s i H _ I h) λd q f=>?_);obtain⟨k,m,n⟩:=f;cases d with
 | true=>exact g e q i k Q m n
 | false=>exact j e q i k Q m n
end
def mL (K:mI) (H:Hp) (a:Ad) (g:Aa V):Prop :=
 Rd H a (.l g) \/
  ∃ (o:Obj) (b:Array Ac) (n:Nat),K.lookup a=some o/\o.cls = .type "list" /\ o.dict=none/\o.data = .seq b n/\b.size<=sizeLine/\mY g b.toList
def nP (K:mI) (H:Hp) (a:Ad) (g:Aa V):Prop :=
 Rd H a (.t g) \/
  ∃ (o:Obj) (b:Array Ac) (n:Nat),K.lookup a=some o/\o.cls = .type "tuple" /\ o.data = .seq b n/\b.size<=sizeLine/\mY g b.toList
noncomputable def OY:Ac->Ab V
 | .none=>some .e
 | .bool b=>some (.b b)
 | .int i _=>some (.int i)
 | .str x _=>some (.str x)
 | .bytes b _=>some (.byt b)
 | .float b _=>some (.flt b)
 | .ref a=>some (.ref a)
 | .type n=>some (.ty n)
 | _=>none
theorem nC.abs (r:nC x u):OY u=some x:=by
 cases x with
 | e=>cases r;rfl
 | b _=>cases r;rfl
 | int _=>obtain⟨t,rfl⟩:=r;rfl
 | str _=>obtain⟨t,rfl⟩:=r;rfl
 | byt _=>obtain⟨t,rfl⟩:=r;rfl
 | flt _=>obtain⟨t,rfl⟩:=r;rfl
 | ref _=>cases r;rfl
 | ty _=>cases r;rfl
theorem nC.inj (r:nC x u) (q:nC y u):x=y:=bK (r.abs.symm.trans q.abs)
theorem mY.inj:∀ {j l:Aa V}{g:Aa Ac},mY j g->mY l g->j=l
 | _,_,_,.nil,.nil=>rfl
 | _,_,_,.cons r t,.cons a b=>by rw[r.inj a,mY.inj t b]
section
variable {X:Cx}
theorem mL.of {K:mI}(h:H a=some (.l g)):mL K H a g:=.inl (.inl h)
theorem nP.of {K:mI}(h:H a=some (.t g)):nP K H a g:=.inl (.inl h)
theorem Inv.list (I:Inv X j p H s) (h:mL X.K H a l):∃ g:Aa Ac,mY l g/\PlainL s.heap a g.toArray/\l.length<=sizeLine:=by
 rcases h with h | ⟨o,g,n,c,b,hd,d,f,r⟩
 .obtain⟨z,g,n,r,e⟩:=h.ok I.hok;exact⟨g,r,⟨_,n,e,rfl,rfl,rfl⟩,z⟩
 .refine⟨g.toList,r,⟨o,n,I.kIn a o c,b,hd,by simpa using d⟩,?_⟩;have e:=r.length;simp only[eL] at e;omega
theorem Inv.tuple (I:Inv X j C H s) (h:nP X.K H a l):∃ g:Aa Ac,mY l g/\IsTup s.heap a g.toArray/\l.length<=sizeLine:=by
 rcases h with h | ⟨o,g,n,c,b,d,f,r⟩
 .obtain⟨z,g,r,p,_⟩:=h.ok I.hok;exact⟨g,r,p,z⟩
 .refine⟨g.toList,r,⟨o,I.kIn a o c,b,n,by simpa using d⟩,?_⟩;have e:=r.length;simp only[eL] at e;omega
theorem Inv.list_inj (I:Inv X g C H s) (h:mL X.K H a l) (j:mL X.K H a p):l=p:=by
 obtain⟨c,r,⟨o,n,e,_,_,d⟩,_⟩:=I.list h;obtain⟨b,k,⟨q,m,i,_,_,f⟩,_⟩:=I.list j;rw[e] at i;cases i;rw[d] at f;injection f with d1 _;have:c=b:=by simpa using cG Array.toList d1
 subst this;exact r.inj k
theorem Inv.tuple_inj (I:Inv X g C H s) (h:nP X.K H a l) (j:nP X.K H a p):l=p:=by
 obtain⟨c,r,⟨o,e,_,n,d⟩,_⟩:=I.tuple h;obtain⟨b,k,⟨q,i,_,m,f⟩,_⟩:=I.tuple j;rw[e] at i;cases i;rw[d] at f;injection f with d1 _;have:c=b:=by simpa using cG Array.toList d1
 subst this;exact r.inj k
end
noncomputable abbrev Cx.wish (X:Cx) (E:Ac->Ae->Prop):Cx:={ X with xe:=E }
abbrev Cx.nox (X:Cx):Cx:=X.wish λ_ _=>False
theorem Cx.Ok.wish {X:Cx}(ok:X.Ok) (E:Ac->Ae->Prop):(X.wish E).Ok :=
 ⟨ok.mod,ok.kind,ok.glob,ok.blt,ok.above,ok.inj,ok.has,ok.cab,ok.hd,ok.frames,ok.stk,ok.exf,ok.bs,ok.bsz,ok.noex,ok.exfs,ok.funs,ok.frf⟩
theorem Cx.Ok.unwish {X:Cx}(ok:(X.wish E).Ok):X.Ok :=
 ⟨ok.mod,ok.kind,ok.glob,ok.blt,ok.above,ok.inj,ok.has,ok.cab,ok.hd,ok.frames,ok.stk,ok.exf,ok.bs,ok.bsz,ok.noex,ok.exfs,ok.funs,ok.frf⟩
section
variable {X:Cx}
theorem Inv.wish (I:Inv X g j H s) (E:Ac->Ae->Prop):Inv (X.wish E) g j H s:=⟨I.ok.wish E,I.os,I.bare,I.base,I.loc,I.cell,I.free,I.freeC,I.pin,I.hok,I.len⟩
theorem Inv.unwish (I:Inv (X.wish E) g j H s):Inv X g j H s:=⟨I.ok.unwish,I.os,I.bare,I.base,I.loc,I.cell,I.free,I.freeC,I.pin,I.hok,I.len⟩
theorem SP.unwish {D:Ends}(h:SP (X.wish E) g D f j):SP X g D f j:=by
 cases f with
 | next=>obtain⟨a,b,I,q⟩:=h;exact⟨a,b,I.unwish,q⟩
 | brk=>obtain⟨a,b,I,q⟩:=h;exact⟨a,b,I.unwish,q⟩
 | cont=>obtain⟨a,b,I,q⟩:=h;exact⟨a,b,I.unwish,q⟩
 | ret u=>obtain⟨v,a,b,I,r,q⟩:=h;exact⟨v,a,b,I.unwish,r,q⟩
theorem qG.nox {st:Aa Stmt}(h:qG X.nox st t):qG X st t:=λa s b H D I hw =>
 cO (h a s b H D (I.wish _) hw) (λ_ _ q=>q.unwish) λ_ _ z=>False.elim z
end
section
variable {X:Cx}{st:Stmt}{rest:Aa Stmt}
def SJ:TS:=λD a H=>D.nx a H
def M0 (t u:TS):TS:=λD a H=>t { D with nx:=u D } a H
theorem C8:qG X [] SJ:=λ_ _ a H _ I h=>kL ⟨a,H,I,h⟩
theorem qE (g:PS X st t) (j:qG X rest u):qG X (st::rest) (M0 t u):=by
 intro a s i H D I h;refine wpAny_execs_cons (mV (g a s i H { D with nx:=u D } I h) λf e q=>?_);cases f with
 | next =>
  obtain⟨b,c,d,q⟩:=q;exact j a e b c D d q
 | ret v=>exact q
 | brk=>exact q
 | cont=>exact q
theorem sD (g:PS X st t):qG X [st] t:=by
 intro a s b H D I h;refine wpAny_execs_cons (mV (g a s b H D I h) λf c q=>?_);cases f with
 | next=>exact kL q
 | ret v=>exact q
 | brk=>exact q
 | cont=>exact q
theorem Inv.quiet (I:Inv X g j H s):interactive X.env=false:=by simp[interactive,I.ok.kind]
def Uv (g:TE):TS:=λD a H=>g a H λ_ b=>D.nx a b
theorem Kl (g:PE X e l) (j:swapsWith e none pos.line X.env=pure false:=by rfl):PS X (.Expr e pos) (Uv l):=by
 intro a s b H D I h;exact wpAny_Expr_any (mV (g a s b H _ I h) λv k ⟨x,c,d,i,f⟩=>⟨b,c,d,f⟩) I.quiet j
def Vw (g:TE):TS:=λD a H=>g a H D.rt
theorem yG (g:PE X e j):PS X (.Return (some e) pos) (Vw j):=by
 intro a s b H D I h;exact wpAny_Return_some (mV (g a s b H _ I h) λv k ⟨x,c,d,i,f⟩=>⟨x,b,c,d,i,f⟩)
def HD (c:TT) (t u:TS):TS:=λD a H=>c a H λb d=>if b=true then t D a d else u D a d
theorem A4 (l:PT X c o) (g:qG X a t) (j:qG X b u):PS X (.If c a b pos) (HD o t u):=by
 intro e s i H D I h;refine wpAny_If (mV (l e s i H _ I h) λd q f=>?_);obtain⟨k,m,n⟩:=f;cases d with
 | true=>exact g e q i k D m n
 | false=>exact j e q i k D m n
def DI:TS:=λ_ _ _=>False
theorem FD:PS X st DI:=λ_ _ _ _ _ _ h=>h.elim
end
abbrev TG:=V->St->Hp->(St->Hp->Prop)->Prop
abbrev A9:=Aa V->St->Hp->(St->Hp->Prop)->Prop
def PG (X:Cx) (target:Expr) (t:TG):Prop :=
 ∀ (a:Aa (Ad×Obj)) (s:Ae) (d:St) (H:Hp) (v:V) (u:Ac) (Q:St->Hp->Prop),Inv X a d H s->nC v u->t v d H Q ->
  wpAny (model X.prog X.w) X.A (assign target X.env u) (λ_ e=>∃ b c,Inv X a b c e/\Q b c) X.xe s
def yM (X:Cx) (g:Aa Expr) (t:A9):Prop :=
 ∀ (a:Aa (Ad×Obj)) (s:Ae) (f:St) (H:Hp) (e:Aa V) (d:Aa Ac) (Q:St->Hp->Prop),Inv X a f H s->mY e d->t e f H Q ->
  wpAny (model X.prog X.w) X.A (assignInOrder ((assignEach g X.env).map (·.2)) d) (λ_ h=>∃ b c,Inv X a b c h/\Q b c) X.xe s
abbrev Mn:=V->V->V->Hp->(Hp->Prop)->Prop
def L7 (X:Cx) (t:Mn):Prop :=
 ∀ (a:Aa (Ad×Obj)) (s:Ae) (e:St) (H:Hp) (o i v:V) (d c u:Ac) (Q:Hp->Prop),Inv X a e H s->nC o d->nC i c->nC v u->t o i v H Q ->
  wpAny (model X.prog X.w) X.A (setItem d c u) (λ_ f=>∃ b,Inv X a e b f/\Q b) X.xe s
abbrev M7:=V->V->Hp->VK->Prop
def Op (X:Cx) (op:Operator) (t:M7):Prop :=
 ∀ (a:Aa (Ad×Obj)) (s:Ae) (b:St) (H:Hp) (x y:V) (v u:Ac) (Q:VK),Inv X a b H s->nC x v->nC y u->t x y H Q ->
  wpAny (model X.prog X.w) X.A (inplaceOp op v u) (EP X a b Q) X.xe s
section
variable {X:Cx}
def An (i:Nat):TG:=λv a H Q=>Q (a.set i (some v)) H
theorem wS (g:X.N.Nodup) (l:X.N[i]?=some x) (o:xD X.env.scope x) (j:X.fn x=true\/X.env.scope.names.lookup x=some .local:=by first | exact .inl rfl | exact .inr rfl | assumption):PG X (.Name x pos) (An i):=by
 intro a s d H v u Q I r h;exact wpAny_assign_Name (M5 I g l o r (λc b=>⟨_,H,b,h⟩) j)
def QK:A9:=λa b H Q=>a=[]/\Q b H
def DA (t:TG) (u:A9):A9:=λc d H Q=>∃ v r,c=v::r/\t v d H λa b=>u r a b Q
theorem IX:yM X [] QK:=by
 intro a s b H d c Q I r h;obtain⟨e,h⟩:=h;subst e;cases r;exact assignInOrder_nil ⟨b,H,I,h⟩
theorem OE (j:PG X e t) (l:yM X g u)
  (o:(assignEach (e::g) X.env).map (·.2)=assign e X.env::(assignEach g X.env).map (·.2):=by rfl):yM X (e::g) (DA t u):=by
 intro a s q H y w Q I r h;obtain⟨v,x,i,h⟩:=h;subst i;cases r with
 | cons r m =>
  rw[o];refine assignInOrder_cons (mV (j a s q H _ _ _ I r h) λ_ n b=>?_);obtain⟨c,d,f,k⟩:=b;exact l a n c d _ _ Q f m k
def MV (K:mI) (n:Nat) (t:A9):TG:=λv c H Q=>∃ a b,v = .ref a/\nP K H a b/\b.length=n/\t b c H Q
theorem PN (l:X.calm=true) (h:yM X g t)
  (p:(assignEach g X.env).length=n:=by rfl) (j:(assignEach g X.env).findIdx? (·.1)=none:=by rfl):PG X (.Tuple g k pos) (MV X.K n t):=by
 intro c s f H v u Q I r hw;obtain⟨a,B,m,x,w,hw⟩:=hw;subst m;cases r;obtain⟨A,d,y,D⟩:=I.tuple x;refine assign_Tuple_tuple (I.ok.hd l) y (by simp[p,<- w,d.length]) j λq z=>?_
 have i:Inv X c f H { s with heap:=q }:=I.kept (t':=s.toks) λb o e=>z b o (bO (aZ e)) e
 exact h c _ f H B _ Q i (by simpa using d) hw
def Ze (j g:TE) (t:Mn):TG:=λv a H Q=>j a H λo b=>g a b λi c=>t o i v c λd=>Q a d
theorem Cq (C:PE X o U) (p:PE X i T) (J:L7 X t)
  (l:∀ v,assign (.Subscript o i pos) X.env v=(do
   let g <- holding [v] (eval o X.env);let j <- holding [v,g] (eval i X.env)
   standAt pos
   holding [v,g,j] (setItem g j v)
   release [v,g,j] []):=by intro _;rfl):PG X (.Subscript o i pos) (Ze U T t):=by
 intro b s c H v u Q I r h;rw[l];refine aB (cD (mV (C b s c H _ I h) λg D a=>?_));obtain⟨x,d,k,A,q⟩:=a;refine aB (cD (mV (p b D c d _ k q) λj E a=>?_));obtain⟨y,e,m,B,w⟩:=a;refine aB (lM (aB (cD (mV (J b E c e x y v g j u _ m A B r w) λ_ F a=>?_))));obtain⟨f,n,z⟩:=a;exact wpAny_release ⟨c,f,n,z⟩
def K4 (j:TE) (g:TG):TS:=λD a H=>j a H λx b=>g x a b D.nx
theorem Br (o:PE X e C) (p:PG X j g) (r:swapsWithSole [j] e pos.line X.env=pure false:=by rfl) (hw:swappedStores [j] e X.env=pure none:=by rfl)
  (l:(assignEach [j] X.env).map (·.2)=[assign j X.env]:=by rfl):PS X (.Assign [j] e pos) (K4 C g):=by
 intro a s c H D I h;refine wpAny_Assign_stores (mV (o a s c H _ I h) λv m b=>?_) r hw;obtain⟨x,d,f,k,i⟩:=b;rw[l];exact mV (p a m c d x v _ f k i) λ_ n q=>q
theorem qD {i:Nat}{x:Af}{e:Expr}{j:TE}{g:Pos}(l:X.N.Nodup) (r:X.N[i]?=some x) (J:xD X.env.scope x) (o:PE X e j) (C:swapsWith e (some (.Name x g)) pos.line X.env=pure false:=by rfl) (p:X.fn x=true\/X.env.scope.names.lookup x=some .local:=by first | exact .inl rfl | exact .inr rfl | assumption) :
  PS X (.Assign [.Name x g] e pos) (K4 j (An i)):=by
 intro a s n H D I h;refine wpAny_Assign_Name (mV (o a s n H _ I h) λv q b=>?_) C;obtain⟨y,c,d,m,k⟩:=b;exact M5 d l r J m (λt f=>⟨_,c,f,k⟩) p
def IE (i:Nat) (g:TE) (j:M7):TS:=λD a H=>∃ x,a[i]?=some (some x)/\g a H λy b=>j x y b λz c=>D.nx (a.set i (some z)) c
theorem DX (p:X.N.Nodup) (j:X.N[i]?=some x) (g:xD X.env.scope x) (C:PE X e U) (T:Op X op ti) (J:X.fn x=true\/X.env.scope.names.lookup x=some .local:=by first | exact .inl rfl | exact .inr rfl | assumption) :
  PS X (.AugAssign (.Name x o) op e pos) (IE i U ti):=by
 intro a s B H D I h;obtain⟨v,M,h⟩:=h;obtain⟨m,R,P⟩:=I.loc;have t:Iz X.env.scope x:=by rcases g with k | k;exact .inl k;exact .inr (.inl k)
 obtain⟨u,r,l⟩:=P i x v j M t;refine wpAny_AugAssign_Name ?_;have go:wpAny (model X.prog X.w) X.A (eval e X.env) (λw n=>wpAny (model X.prog X.w) X.A (inplaceOp op u w) (λr q=>wpAny (model X.prog X.w) X.A (storeName X.env x r) (λ_=>SP X a D .next) X.xe q) X.xe n) X.xe s:=by
  refine mV (C a s B H _ I h) λw Z f=>?_
  obtain⟨y,E,G,W,S⟩:=f;refine mV (T a Z B E v y u w _ G r W S) λz s2 f=>?_
  obtain⟨zv,F,K,Y,V⟩:=f;exact M5 K p j g Y (λs3 L=>⟨_,F,L,V⟩) J
 rcases l with⟨b,Q⟩ | ⟨b,c,O,d⟩
 .exact wpAny_loadName_local I.ok.kind b R Q go
 .rcases b with b | b
  .exact wpAny_loadName_cell I.ok.kind b O d go
  .rcases g with k | k
   .have:X.env.scope.names.lookup x=some .free:=b;rw[k] at this;cases this
   .have:X.env.scope.names.lookup x=some .free:=b;rw[k] at this;cases this
def Po (f:Int->Int->Int):M7:=λx y H Q=>∃ i j,x = .int i/\y = .int j/\Q (.int (f i j)) H
theorem T9:Op X .Add (Po λi j=>i+j):=by
 intro a s k H x y v u Q I d e h;obtain⟨i,j,b,c,q⟩:=h;subst b;subst c;obtain⟨t,rfl⟩:=d;obtain⟨f,rfl⟩:=e;exact iadd_int ⟨.int _,H,I.tok _,⟨_,rfl⟩,q⟩
end
section
variable {X:Cx}
def NR (c:TT) (g:TS):TS:=λD a H=>∃ W:Nat->St->Hp->Prop,(∃ m,W m a H)/\∀ m a H,W m a H ->
 c a H λb f=>if b=true then ∃ N:St->Hp->Prop,(∀ d e,N d e->∃ h,h<m/\W h d e)/\g { D with nx:=N,ct:=N,bk:=D.nx } a f else D.nx a f
theorem Zd (g:PassesOwn (model X.prog X.w) X.A X.env X.xe) (l:PT X c p) (j:qG X body o):PS X (.While c body [] pos) (NR p o):=by
 intro a s Z H D I h;obtain⟨W,⟨P,V⟩,k⟩:=h;refine wpAny_While (codeAny_whileLoop (λn Q=>∃ m F,Inv X a m F Q/\W n m F) ?_ P ⟨Z,H,I,V⟩);rintro n R ⟨e,G,O,Y⟩;refine gJ g (mV (l a R e G _ O (k n e G Y)) λb S y=>?_);obtain⟨K,L,q⟩:=y;cases b with
 | true =>
  obtain⟨N,M,q⟩:=q;rw[aO rfl];refine gJ g (mV (j a S e K _ L q) λf r t=>?_);cases f with
  | next =>
   obtain⟨d,i,u,B⟩:=t;obtain⟨z,x,E⟩:=M d i B;exact⟨z,x,d,i,u,E⟩
  | cont =>
   obtain⟨d,i,u,B⟩:=t;obtain⟨z,x,E⟩:=M d i B;exact⟨z,x,d,i,u,E⟩
  | brk=>exact t
  | ret v=>exact t
 | false =>
  rw[aJ bC];exact kL ⟨e,K,L,q⟩
end
structure It where
 go:Nat->Hp->Prop
 yld:Nat->Hp->V->Hp->Prop
 stop:Nat->Hp->Prop
def uQ (X:Cx) (g:Aa (Ad×Obj)) (H:Hp) (b:Ad):Prop :=
 H b=none/\b≠X.env.locals/\b∉X.fs/\(b∈X.ex\/X.s₀.heap.objs.size<=b)/\(∀ x c,X.env.cells.lookup x=some c->c≠b)/\∀ p∈X.pn++g,p.1≠b
theorem Inv.fpOk {X:Cx}(I:Inv X j r H s) (g:s.heap.objs.size<=b) (o:l b=none):uQ X j l b:=by
 refine⟨o,hZ (bI I.lt g),I.nofs g,.inr (bX I.sz g),λx c e z=>?_,λp a z=>?_⟩
 .obtain⟨v,q⟩:=I.cell x c e;exact absurd (bI q.lt (by rw[z];exact g)) (eT _)
 .exact absurd (bI (aZ (I.pin p a).1) (by rw[z];exact g)) (eT _)
structure Turn (P:Program) (w:World) (K:mI) (tg:Expr) (J:It) (fp:List Addr) (it:Addr) (tn:Nat->Heap->Prop):Prop where
 mem:it∈fp
 obj:∀ i h,tn i h->∀ b∈fp,∃ o,h.get? b=some o/\∀ v,o.data ≠ .cell v
 keep:∀ i h h',tn i h->(∀ b∈fp,∀ o,h.get? b=some o->h'.get? b=some o)->tn i h'
 item:∀ (X:Cx),X.prog=P->X.w=w->X.K=K->X.calm=true->∀ (i:Nat) (pins:List (Addr×Obj)) (s:Shared) (σ:St) (H:Hp) (E:Value->Shared->Prop),Inv X pins σ H s->(∀ b∈fp,uQ X pins H b)->tn i s.heap->J.go i H ->
  wpAny (model P w) X.A (pyNext (.ref it)) (λr s1=>∃ u,r=some u /\ wpAny (model P w) X.A (letOwnedTupleGo tg (.ref it) u) (λ_ s2=>∃ x H',Inv X pins σ H' s2/\nC x u/\J.yld i H x H'/\tn (i+1) s2.heap/\∀ b∈fp,H' b=none) E s1) E s
 done:∀ (X:Cx),X.prog=P->X.w=w->X.K=K->X.calm=true->∀ (i:Nat) (pins:List (Addr×Obj)) (s:Shared) (σ:St) (H:Hp) (E:Value->Shared->Prop),Inv X pins σ H s->(∀ b∈fp,uQ X pins H b)->tn i s.heap->J.stop i H ->
  wpAny (model P w) X.A (pyNext (.ref it)) (λr s1=>r=none/\Inv X pins σ H s1) E s
 self:∀ (A:Around) (i:Nat) (s:Shared) (Q:Value->Shared->Prop) (E:Value->Shared->Prop),tn i s.heap->Q (.ref it) s->wpAny (model P w) A (pyIter (.ref it)) Q E s
abbrev TI:=St->Hp->(It->Hp->Prop)->Prop
def Vf (X:Cx) (g:Aa (Ad×Obj)) (p:St) (o:Expr) (R:It->Hp->Prop) (j:Ac) (l:Ae):Prop :=
 ∃ (d:Ad) (c:Aa Ad) (e:Nat->Ag->Prop) (J:It) (a:Hp),j = .ref d/\Inv X g p a l/\Turn X.prog X.w X.K o J c d e/\e 0 l.heap/\(∀ b∈c,uQ X g a b)/\R J a
def PI (X:Cx) (g iter:Expr) (j:TI):Prop :=
 ∀ (a:Aa (Ad×Obj)) (s:Ae) (b:St) (H:Hp) (R:It->Hp->Prop),Inv X a b H s->j b H R ->
  wpAny (model X.prog X.w) X.A (eval iter X.env) (λv c=>wpAny (model X.prog X.w) X.A (pyIter v) (Vf X a b g R) X.xe c) X.xe s
theorem By (p:s.heap.get? r=some o) (j:o.cls = .type n) (hd:o.data = .fields I)
  (l:["enumerate","zip","dict_itemiterator","dict_reverseitemiterator","odict_iterator","itertools.zip_longest","itertools.pairwise"].contains n=false) (g:Q () s):wpAny M A (letOwnedTupleGo C (.ref r) u) Q E s:=by
 unfold letOwnedTupleGo;cases C<;>first
  | exact aI g
  | (cases u<;>first
    | exact aI g
    | (refine aB (wpAny_load p ?_);rw[j,hd];show wpAny M A (if (["enumerate","zip","dict_itemiterator","dict_reverseitemiterator","odict_iterator","itertools.zip_longest","itertools.pairwise"].contains n&&I[0]? == some (rawInt _))=true then _ else _) Q E s;rw[aJ (by intro h;rw[l,Bool.false_and] at h;cases h)];exact aI g))
def yV (K:mI) (a:Ad):It :=
 ⟨λi H=>∃ b x,mL K H a b/\b[i]?=some x,λi H x c=>c=H/\∀ b,mL K H a b->b[i]?=some x,λi H=>∃ b,mL K H a b/\b.length<=i⟩
def C2 (K:mI) (a:Ad):It :=
 ⟨λi H=>∃ b x,nP K H a b/\b[i]?=some x,λi H x c=>c=H/\∀ b,nP K H a b->b[i]?=some x,λi H=>∃ b,nP K H a b/\b.length<=i⟩
def wA (lo:Int) (n:Nat):It:=⟨λi _=>i<n,λi H x a=>a=H/\x = .int (lo+i),λi _=>n<=i⟩
theorem Xh {P:Ah}{K:mI}(a g:Ad):Turn P w K J (yV K a) [g] g (λi h=>h.IsListIter g a i) where
 mem:=by simp
 obj:=λi h st b m=>by
  have e:b=g:=by simpa using m
  subst e;obtain⟨o,e,c,d⟩:=st;exact⟨o,e,λv z=>by rw[d] at z;cases z⟩
 keep:=λi h q st k=>st.at λo e=>k g (by simp) o e
 item:=by
  intro X G hw F Q i f s R H E I t st L;subst G hw F;obtain⟨r,x,y,M⟩:=L;obtain⟨N,O,p,Z⟩:=I.list y;obtain⟨u,W,j⟩:=O.get M;obtain⟨f0,f1,f2,A,B,D⟩:=t g (by simp);refine wpAny_pyNext_list_item st p.isList (x:=u) (by simpa using W) λq n l=>?_
  have S:Inv X f R H { s with heap:=q }:=I.turned (t':=s.toks) (λb o m e=>(l.2 b m).trans e) f0 f1 A B D;obtain⟨o,e,c,d⟩:=id n;exact⟨u,rfl,By (s:={ s with heap:=q }) e c d (by decide) ⟨x,H,S,j,⟨rfl,λT Y=>by rw[I.list_inj Y y];exact M⟩,n,λb m=>(t b m).1⟩⟩
 done:=by
  intro X G hw F Q i f s R H E I t st L;subst G hw F;obtain⟨r,y,M⟩:=L;obtain⟨N,O,p,Z⟩:=I.list y;obtain⟨f0,f1,f2,A,B,D⟩:=t g (by simp);have C:=O.length;exact wpAny_pyNext_list_end (I.ok.hd Q) st p.isList (by simp;omega) λq V=>⟨rfl,I.turned (t':=s.toks) (λb o m e=>V b o m e) f0 f1 A B D⟩
 self:=λ_ _ _ _ _ st h=>wpAny_pyIter_listiter st h
theorem IA {P:Ah}{K:mI}(a g:Ad):Turn P w K J (C2 K a) [g] g (λi h=>h.IsTupleIter g a i) where
 mem:=by simp
 obj:=λi h st b m=>by
  have e:b=g:=by simpa using m
  subst e;obtain⟨o,e,c,d⟩:=st;exact⟨o,e,λv z=>by rw[d] at z;cases z⟩
 keep:=λi h t st k=>st.at λo e=>k g (by simp) o e
 item:=by
  intro X L hw G Q i f s R H E I y st M;subst L hw G;obtain⟨r,x,A,N⟩:=M;obtain⟨n,O,p,Z⟩:=I.tuple A;obtain⟨u,W,j⟩:=O.get N;obtain⟨f0,f1,f2,B,D,F⟩:=y g (by simp);refine wpAny_pyNext_tuple_item st (show s.heap.IsTuple a n.toArray from p) (x:=u) (by simpa using W) λt q l=>?_
  have S:Inv X f R H { s with heap:=t }:=I.turned (t':=s.toks) (λb o m e=>(l.2 b m).trans e) f0 f1 B D F;obtain⟨o,e,c,d⟩:=id q;exact⟨u,rfl,By (s:={ s with heap:=t }) e c d (by decide) ⟨x,H,S,j,⟨rfl,λT Y=>by rw[I.tuple_inj Y A];exact N⟩,q,λb m=>(y b m).1⟩⟩
 done:=by
  intro X L hw G Q i f s R H E I y st M;subst L hw G;obtain⟨r,A,N⟩:=M;obtain⟨n,O,p,Z⟩:=I.tuple A;obtain⟨f0,f1,f2,B,D,F⟩:=y g (by simp);have C:=O.length;exact wpAny_pyNext_tuple_end (I.ok.hd Q) st (show s.heap.IsTuple a n.toArray from p) (by simp;omega) λt V=>⟨rfl,I.turned (t':=s.toks) (λb o m e=>V b o m e) f0 f1 B D F⟩
 self:=λ_ _ _ _ _ st h=>wpAny_pyIter_tupleiter st h
theorem Z5 {P:Ah}{K:mI}(g:Ad) (lo:Int) (n:Nat):Turn P w K j (wA lo n) [g] g (λi h=>IsRangeIter h g (lo+(i:Nat)*1) ((n:Int)-(i:Nat)) 1) where
 mem:=by simp
 obj:=λi h st b c=>by
  have e:b=g:=by simpa using c
  subst e;exact⟨_,st,λv z=>by
   have Q:Data.fields _=Data.cell v:=z;cases Q⟩
 keep:=λi h f st k=>k g (by simp) _ st
 item:=by
  intro X A hw y B i a s G H E I m st D;subst A hw y;obtain⟨f0,f1,f2,q,u,x⟩:=m g (by simp);have W:=Walks.range (prog:=X.prog) (w:=X.w) (I.ok.hd B) g lo 1 n;refine W.item i s _ _ D st λv f F N d O=>?_
  obtain⟨t,rfl⟩:=N;have L:Inv X a G H { s with heap:=f,toks:=F }:=I.turned (λb o c e=>O b o (by simpa using c) e) f0 f1 q u x;refine⟨_,rfl,By (s:={ s with heap:=f,toks:=F }) (n := "range_iterator") d rfl rfl (by decide) ⟨.int (lo+i),H,L,⟨t,?_⟩,⟨rfl,rfl⟩,d,λb c=>(m b c).1⟩⟩;rw[lG]
 done:=by
  intro X A hw y B i a s G H E I m st D;subst A hw y;obtain⟨f0,f1,f2,q,u,x⟩:=m g (by simp);exact wpAny_pyNext_range_end (I.ok.hd B) st (by have:n<=i:=D;omega) λf M=>⟨rfl,I.turned (t':=s.toks) (λb o c e=>M b o c e) f0 f1 q u x⟩
 self:=λ_ _ _ _ _ st h=>wpAny_pyIter_rangeiter st h
section
variable {X:Cx}
def FT (K:mI) (g:TE):TI:=λd H R=>g d H λx b=>∃ a,x = .ref a/\(∃ c,mL K b a c)/\R (yV K a) b
theorem Z9 (g:PE X l j):PI X r l (FT X.K j):=by
 intro c s y H R I h;refine mV (g c s y H _ I h) λv f i=>?_
 obtain⟨x,k,d,w,u⟩:=i;obtain⟨a,e,⟨B,n⟩,q⟩:=u;subst e;cases w;obtain⟨t,A,p,z⟩:=d.list n;refine fQ p.isList ?_;refine⟨f.heap.objs.size,[f.heap.objs.size],_,_,k,rfl,d.kept (t':=f.toks) λb o e=>aG _ e,Xh a _,⟨_,bA _ rfl,rfl,rfl⟩,λb m=>?_,q⟩;have e:b=f.heap.objs.size:=by simpa using m
 subst e;exact d.fpOk (aU _) (d.hok.fresh (aU _))
theorem Y6 {R:It->Hp->Prop}{lo:Int}(I:Inv X j p H s) (r:-(2 ^ 62)<=lo) (C:lo<2 ^ 62) (J:-(2 ^ 62)<=g) (T:g<2 ^ 62)
  (q:R (wA lo (g-lo).toNat) H):wpAny (model X.prog X.w) X.A (pyIter (.ref s.heap.objs.size)) (Vf X j p U R) E { s with heap:=s.heap.push { cls:=.type "range",data:=.fields #[.int lo t,.int g u,.int 1 v] },toks:=l }:=by
 refine wpAny_pyIter_range (IsRange.new ..) (small_one r C J T) ?_;have a:Inv X j p H { s with heap:=s.heap.push { cls:=.type "range",data:=.fields #[.int lo t,.int g u,.int 1 v] },toks:=l }:=I.kept λb o e=>aG _ e
 refine⟨(s.heap.push { cls:=.type "range",data:=.fields #[.int lo t,.int g u,.int 1 v] }).objs.size,[(s.heap.push { cls:=.type "range",data:=.fields #[.int lo t,.int g u,.int 1 v] }).objs.size],_,_,H,rfl,
  a.kept (t':=l) λb o e=>aG _ e,Z5 _ lo (g-lo).toNat,?_,λb f=>?_,q⟩
 .have c:lo+((0:Nat):Int)*1=lo:=by simp
  have d:(((g-lo).toNat:Nat):Int)-((0:Nat):Int)=Builtin.Range.rangeSize lo g 1:=by rw[rangeSize_one];split<;>omega
  show IsRangeIter _ _ (lo+((0:Nat):Int)*1) ((((g-lo).toNat:Nat):Int)-((0:Nat):Int)) 1;rw[c,d];exact bA _ rfl
 .have e:b=(s.heap.push { cls:=.type "range",data:=.fields #[.int lo t,.int g u,.int 1 v] }).objs.size:=by simpa using f
  subst e;exact a.fpOk (aU _) (a.hok.fresh (aU _))
def TD (g:TA):TI:=λc H R=>g c H λb a=>∃ j:Int,b=[.int j]/\-(2 ^ 62)<=j/\j<2 ^ 62/\R (wA 0 j.toNat) a
theorem Di (l:Gl X "range") (o:X.mg "range" = none) (g:PA X [a] J) (C:starEach [a] X.env=[(false,eval a X.env)]:=by rfl):PI X T (.Call (.Name "range" p) [a] [] pos) (TD J):=by
 intro b s n H R I h;refine Call_ (yJ I l o boot_range (cY (mV (g pos b s n H _ I h) λw v c=>?_) C rfl));obtain⟨x,u,f,k,d⟩:=c;obtain⟨j,e,d,i,q⟩:=d;subst e;cases k with
 | cons r m =>
  cases m;obtain⟨t,rfl⟩:=r;exact call_range_1 (Y6 f (by omega) (by omega) d i (by simpa using q))
def IG (l:TI) (g:TG) (j:TS):TS:=λD a H=>l a H λJ f=>∃ W:Nat->Nat->St->Hp->Prop,(∃ m,W 0 m a f)/\∀ i m a H,W i m a H ->
 (J.stop i H/\D.nx a H)\/(J.go i H/\∃ N:St->Hp->Prop,(∀ c b,N c b->∃ e,e<m/\W (i+1) e c b)/\∀ x b,J.yld i H x b->g x a b λd h=>j { D with nx:=N,ct:=N,bk:=D.nx } d h)
def Ei (g:Aa Ad) (h:Ag):Aa (Ad×Obj):=g.filterMap λb=>(h.get? b).map λo=>(b,o)
theorem J8 (j:b∈g) (e:h.get? b=some o):(b,o)∈Ei g h:=kZ.mpr ⟨b,j,by rw[e];rfl⟩
theorem CQ (j:p∈Ei g h):p.1∈g/\h.get? p.1=some p.2:=by
 obtain⟨b,c,e⟩:=kZ.mp j;cases q:h.get? b with
 | none=>rw[q] at e;cases e
 | some o =>
  rw[q] at e;have a:(b,o)=p:=bK e;subst a;exact⟨c,q⟩
theorem Inv.pinned (I:Inv X g C H s) (l:∀ b∈j,uQ X g H b) (r:∀ b∈j,∃ o,s.heap.get? b=some o/\∀ v,o.data ≠ .cell v):Inv X (g++Ei j s.heap) C H s :=
 I.pins_of λp f=>(aV.mp f).elim (λz=>I.pin p (aT _ z)) λz=>by
  obtain⟨c,e⟩:=CQ z;obtain⟨f0,f1,f2,_⟩:=l p.1 c;obtain⟨o,a,d⟩:=r p.1 c;rw[e] at a;cases a;exact⟨e,f0,f1,f2,d⟩
theorem Inv.unpinned (I:Inv X (g++l) j H s):Inv X g j H s:=I.pins_of λp a=>I.pin p (aT _ (bB _ a))
theorem Bc {iter:Expr}(l:PassesOwn (model X.prog X.w) X.A X.env X.xe) (hc:X.calm=true) (hi:PI X tg iter wi) (hg:PG X tg g) (j:qG X body tb)
  (hs:∀ x,foldedSetIterable iter X.env x=pure x:=by intro _;rfl):PS X (.For tg iter body [] pos) (IG wi g tb):=by
 intro a s σ H D I h;refine wpAny_For (mV (hi a s σ H _ I h) λv s1 h1=>mV h1 λaa s2 h2=>?_) hs;obtain⟨it,K,tn,J,H2,e,I2,T,Z,f2,W,⟨m0,w0⟩,P⟩:=h2;subst e;have y:∀ {E:Hp},(∀ b∈K,E b=none)->∀ b∈K,uQ X a E b:=λhn b j=>⟨hn b j,(f2 b j).2⟩
 refine codeAny_forLoop_any (λn s'=>∃ i z E,Inv X a z E s'/\tn i s'.heap/\(∀ b∈K,E b=none)/\W i n z E) ?_ m0 ⟨0,σ,H2,I2,Z,λb j=>(f2 b j).1,w0⟩;rintro n s3 ⟨i,B,Q,U,O,L,w3⟩;rcases P i n B Q w3 with⟨stop,qn⟩ | ⟨go,N,hN,step⟩
 .refine gJ l (mV (T.done X rfl rfl rfl hc i a s3 B Q X.xe U (y L) O stop) λr s4 k=>?_);obtain⟨V,I4⟩:=k;subst V;exact kL ⟨B,Q,I4,qn⟩
 .refine gJ l (mV (T.item X rfl rfl rfl hc i a s3 B Q X.xe U (y L) O go) λr s4 k=>?_);obtain⟨u,V,h4⟩:=k;subst V;refine gJ l (mV h4 λ_ s5 k=>?_);obtain⟨x,C,I5,r5,y5,G,S⟩:=k;have R:=I5.pinned (y S) (T.obj _ _ G);refine gJ l (mV (hg _ s5 B C x u _ R r5 (step x C y5)) λ_ s6 k=>?_);obtain⟨p,H6,I6,q6⟩:=k;refine gJ l (mV (j _ s6 p H6 _ I6 q6) λf Y F=>?_);have again:∀ {c:St} {q:Hp},Inv X (a++Ei K s5.heap) c q Y->N c q->∃ m,m<n/\∃ i z E,Inv X a z E Y/\tn i Y.heap/\(∀ b∈K,E b=none)/\W i m z E:=λ{c q} t M=>by
   obtain⟨m',hm,w7⟩:=hN c q M;refine⟨m',hm,i+1,c,q,t.unpinned,T.keep _ _ _ G λb j o e=>(t.pin (b,o) (aT _ (aT _ (J8 j e)))).1,λb j=>?_,w7⟩;obtain⟨o,e,d⟩:=T.obj _ _ G b j;exact (t.pin (b,o) (aT _ (aT _ (J8 j e)))).2.1
  cases f with
  | next=>obtain⟨c,q,t,M⟩:=F;exact again t M
  | cont=>obtain⟨c,q,t,M⟩:=F;exact again t M
  | brk=>obtain⟨c,q,t,F⟩:=F;exact⟨c,q,t.unpinned,F⟩
  | ret v=>obtain⟨x7,c,q,t,r7,F⟩:=F;exact⟨x7,c,q,t.unpinned,r7,F⟩
end
theorem KD {K:mI}{a:Ad}{xs:Aa V}{g:TG}{J:TS}{D:Ends}{j:St}{H:Hp}(Pv:Nat->St->Hp->Prop) (T:Pv 0 j H) (U:∀ i j H,i<=xs.length->Pv i j H->mL K H a xs)
  (hs:∀ i x j H,xs[i]?=some x->Pv i j H->g x j H λr C=>J { D with nx:=Pv (i+1),ct:=Pv (i+1),bk:=D.nx } r C) (hd:∀ j H,Pv xs.length j H->D.nx j H) :
  ∃ W:Nat->Nat->St->Hp->Prop,(∃ m,W 0 m j H)/\∀ i m j H,W i m j H ->
   ((yV K a).stop i H/\D.nx j H)\/((yV K a).go i H/\∃ N:St->Hp->Prop,(∀ o l,N o l->∃ I,I<m/\W (i+1) I o l)/\∀ x l,(yV K a).yld i H x l->g x j l λr C=>J { D with nx:=N,ct:=N,bk:=D.nx } r C):=by
 refine⟨λi m j H=>m=xs.length-i/\i<=xs.length/\Pv i j H,⟨xs.length,by simp,cR _,T⟩,?_⟩;rintro i m j H ⟨rfl,c,p⟩;have q:=U i j H c p;by_cases b:i<xs.length
 .refine .inr ⟨⟨xs,xs[i],q,by simp[b]⟩,Pv (i+1),λo l d=>⟨xs.length-(i+1),by omega,rfl,b,d⟩,λx l y=>?_⟩;obtain⟨e,y⟩:=y;subst e;exact hs i x j _ (y xs q) p
 .have e:i=xs.length:=by omega
  subst e;exact .inl ⟨⟨xs,q,aU _⟩,hd j H p⟩
theorem NA {K:mI}{a:Ad}{xs:Aa V}{g:TG}{J:TS}{D:Ends}{j:St}{H:Hp}(Pv:Nat->St->Hp->Prop) (T:Pv 0 j H) (U:∀ i j H,i<=xs.length->Pv i j H->nP K H a xs)
  (hs:∀ i x j H,xs[i]?=some x->Pv i j H->g x j H λr C=>J { D with nx:=Pv (i+1),ct:=Pv (i+1),bk:=D.nx } r C) (hd:∀ j H,Pv xs.length j H->D.nx j H) :
  ∃ W:Nat->Nat->St->Hp->Prop,(∃ m,W 0 m j H)/\∀ i m j H,W i m j H ->
   ((C2 K a).stop i H/\D.nx j H)\/((C2 K a).go i H/\∃ N:St->Hp->Prop,(∀ o l,N o l->∃ I,I<m/\W (i+1) I o l)/\∀ x l,(C2 K a).yld i H x l->g x j l λr C=>J { D with nx:=N,ct:=N,bk:=D.nx } r C):=by
 refine⟨λi m j H=>m=xs.length-i/\i<=xs.length/\Pv i j H,⟨xs.length,by simp,cR _,T⟩,?_⟩;rintro i m j H ⟨rfl,c,p⟩;have q:=U i j H c p;by_cases b:i<xs.length
 .refine .inr ⟨⟨xs,xs[i],q,by simp[b]⟩,Pv (i+1),λo l d=>⟨xs.length-(i+1),by omega,rfl,b,d⟩,λx l y=>?_⟩;obtain⟨e,y⟩:=y;subst e;exact hs i x j _ (y xs q) p
 .have e:i=xs.length:=by omega
  subst e;exact .inl ⟨⟨xs,q,aU _⟩,hd j H p⟩
theorem Kj {lo:Int}{n:Nat}{g:TG}{J:TS}{D:Ends}{j:St}{H:Hp}(Pv:Nat->St->Hp->Prop) (T:Pv 0 j H)
  (U:∀ i j H,i<n->Pv i j H->g (.int (lo+i)) j H λr C=>J { D with nx:=Pv (i+1),ct:=Pv (i+1),bk:=D.nx } r C) (hd:∀ j H,Pv n j H->D.nx j H) :
  ∃ W:Nat->Nat->St->Hp->Prop,(∃ m,W 0 m j H)/\∀ i m j H,W i m j H ->
   ((wA lo n).stop i H/\D.nx j H)\/((wA lo n).go i H/\∃ N:St->Hp->Prop,(∀ o l,N o l->∃ I,I<m/\W (i+1) I o l)/\∀ x l,(wA lo n).yld i H x l->g x j l λr C=>J { D with nx:=N,ct:=N,bk:=D.nx } r C):=by
 refine⟨λi m j H=>m=n-i/\i<=n/\Pv i j H,⟨n,by simp,cR _,T⟩,?_⟩;rintro i m j H ⟨rfl,c,p⟩;by_cases a:i<n
 .refine .inr ⟨a,Pv (i+1),λo l b=>⟨n-(i+1),by omega,rfl,a,b⟩,λx l y=>?_⟩;obtain⟨e,y⟩:=y;subst e y;exact U i j _ a p
 .have e:i=n:=by omega
  subst e;exact .inl ⟨aU _,hd j H p⟩
abbrev R2:=V->V->Hp->VK->Prop
def nJ (X:Cx) (f:Ac->Ac->Sem Ac) (r:R2):Prop :=
 ∀ (a:Aa (Ad×Obj)) (s:Ae) (b:St) (H:Hp) (x y:V) (v u:Ac) (Q:VK),Inv X a b H s->nC x v->nC y u->r x y H Q ->
  wpAny (model X.prog X.w) X.A (f v u) (EP X a b Q) X.xe s
def Mg (X:Cx) (f:Ac->Sem Ac) (r:V->Hp->VK->Prop):Prop :=
 ∀ (a:Aa (Ad×Obj)) (s:Ae) (b:St) (H:Hp) (x:V) (v:Ac) (Q:VK),Inv X a b H s->nC x v->r x H Q ->
  wpAny (model X.prog X.w) X.A (f v) (EP X a b Q) X.xe s
def oI (X:Cx) (f:Ac) (r:Aa V->Hp->VK->Prop):Prop :=
 ∀ (a:Aa (Ad×Obj)) (s:Ae) (d:St) (H:Hp) (c:Aa V) (b:Aa Ac) (Q:VK),Inv X a d H s->mY c b->r c H Q ->
  wpAny (model X.prog X.w) X.A (call f b) (EP X a d Q) X.xe s
def SO (X:Cx) (r:V->Hp->(Bool->Hp->Prop)->Prop):Prop :=
 ∀ (a:Aa (Ad×Obj)) (s:Ae) (b:St) (H:Hp) (x:V) (v:Ac) (Q:Bool->Hp->Prop),Inv X a b H s->nC x v->r x H Q ->
  wpAny (model X.prog X.w) X.A (truthy v) (TP X a b Q) X.xe s
def Bg (r:R2) (g j:TE):TE:=λa H Q=>g a H λx b=>j a b λy c=>r x y c Q
def KU (r:V->Hp->VK->Prop) (g:TE):TE:=λb H Q=>g b H λx a=>r x a Q
def rI (C:Int->Int->Prop) (g:Int->Int->V):R2:=λx y H Q=>∃ i j,x = .int i/\y = .int j/\C i j/\Q (g i j) H
def tV (g:Int->Int->V):R2:=λx y H Q=>∃ i j,x = .int i/\y = .int j/\Q (g i j) H
def rU (g:Int->V):V->Hp->VK->Prop:=λx H Q=>∃ i,x = .int i/\Q (g i) H
section
variable {X:Cx}
theorem Nu (J:PE X a ta) (T:PE X b tb){g:Aa (Ad×Obj)}{s:Ae}{l:St}{H:Hp}{R:V->V->Hp->Prop}(I:Inv X g l H s)
  (h:ta l H λx C=>tb l C λy j=>R x y j){Q:Ac->Ae->Prop}{f:Ac->Ac->Sem Ac}
  (U:∀ v u r x y j,Inv X g l j r->nC x v->nC y u->R x y j->wpAny (model X.prog X.w) X.A (f v u) Q X.xe r) :
  wpAny (model X.prog X.w) X.A (eval a X.env) (λv o=>wpAny (model X.prog X.w) X.A (eval b X.env) (λu p=>wpAny (model X.prog X.w) X.A (f v u) Q X.xe p) X.xe o) X.xe s:=by
 refine mV (J g s l H _ I h) λv q c=>?_
 obtain⟨x,C,d,m,i⟩:=c;refine mV (T g q l C _ d i) λu r c=>?_
 obtain⟨y,j,e,n,k⟩:=c;exact U v u r x y j e m n k
theorem nT (l:nJ X (binaryOp op) r) (g:PE X a o) (j:PE X b p):PE X (.BinOp a op b pos) (Bg r o p):=by
 intro c s m H Q I h;exact wpAny_BinOp (Nu g j I h λv u k x y d e f i q=>l c k m d x y v u Q e f i q)
theorem EE (j:Mg X (unaryOp op) r) (g:PE X a l):PE X (.UnaryOp op a pos) (KU r l):=by
 intro b s c H Q I h;exact UnaryOp_ (mV (g b s c H _ I h) λv k ⟨x,d,e,i,f⟩=>j b k c d x v Q e i f)
theorem Bz {f:Ac->Ac->Sem Ac}{C:Int->Int->Prop}{g:Int->Int->Int}
  (rule:∀ (i j:Int) (t u:Tok) (s:Ae) (Q:Ac->Ae->Prop) (E:Ac->Ae->Prop),C i j->Q (.int (g i j) s.toks) { s with toks:=s.toks+1 }->wpAny (model X.prog X.w) X.A (f (.int i t) (.int j u)) Q E s) :
  nJ X f (rI C λi j=>.int (g i j)):=by
 intro a s k H x y v u Q I c d h;obtain⟨i,j,rfl,rfl,b,q⟩:=h;obtain⟨t,rfl⟩:=c;obtain⟨e,rfl⟩:=d;exact rule i j t e s _ _ b ⟨.int (g i j),H,I.tok _,⟨_,rfl⟩,q⟩
theorem Le {f:Ac->Ac->Sem Ac}{g:Int->Int->Int}
  (rule:∀ (i j:Int) (t u:Tok) (s:Ae) (Q:Ac->Ae->Prop) (E:Ac->Ae->Prop),Q (.int (g i j) s.toks) { s with toks:=s.toks+1 }->wpAny (model X.prog X.w) X.A (f (.int i t) (.int j u)) Q E s) :
  nJ X f (tV λi j=>.int (g i j)):=by
 intro a s e H x y v u Q I b c h;obtain⟨i,j,rfl,rfl,q⟩:=h;obtain⟨t,rfl⟩:=b;obtain⟨d,rfl⟩:=c;exact rule i j t d s _ _ ⟨.int (g i j),H,I.tok _,⟨_,rfl⟩,q⟩
theorem L5 {f:Ac->Ac->Sem Ac}{g:Int->Int->Bool}
  (rule:∀ (i j:Int) (t u:Tok) (s:Ae) (Q:Ac->Ae->Prop) (E:Ac->Ae->Prop),Q (.bool (g i j)) s->wpAny (model X.prog X.w) X.A (f (.int i t) (.int j u)) Q E s) :
  nJ X f (tV λi j=>.b (g i j)):=by
 intro a s k H x y v u Q I c d h;obtain⟨i,j,rfl,rfl,q⟩:=h;obtain⟨t,rfl⟩:=c;obtain⟨e,rfl⟩:=d;exact rule i j t e s _ _ ⟨.b (g i j),H,I,rfl,q⟩
def Zc (i j:Int):Prop:=0<j/\j<1073741824
def Jh (i j:Int):Prop:=0<=j/\j<=1000000/\i.natAbs<2 ^ 64
def F9 (i j:Int):Prop:=(-(2 ^ 64)<i/\i<2 ^ 64)\/(-(2 ^ 64)<j/\j<2 ^ 64)
theorem F9.ok (h:F9 i j):IntMulOk i j:=by
 rcases h with⟨a,b⟩ | ⟨a,b⟩
 .exact .of_left (intBits_le_64 a b)
 .exact .of_right (intBits_le_64 a b)
theorem AW (k:Nat):(0:Int)<=2 ^ k:=by
 rw[two_pow_cast];exact Int.natCast_nonneg _
theorem yX:nJ X (binaryOp .Add) (tV λi j=>.int (i+j)):=Le λ_ _ _ _ _ _ _ q=>add_int q
theorem vR:nJ X (binaryOp .Sub) (tV λi j=>.int (i-j)):=Le λ_ _ _ _ _ _ _ q=>sub_int q
theorem wZ:nJ X (binaryOp .Mult) (rI F9 λi j=>.int (i*j)):=Bz λ_ _ _ _ _ _ _ a q=>mul_int q a.ok
theorem DM:nJ X (binaryOp .FloorDiv) (rI Zc λi j=>.int (i/j)):=Bz λi j _ _ _ _ _ a q=>by
 have b:(0:Int)<j:=a.1;have c:j<1073741824:=a.2;exact floordiv_int (by omega) (by rw[iK i (by omega)];exact q) (.inl (PyProof.noPylong_small (by omega)))
theorem tD:nJ X (binaryOp .Mod) (rI (λ_ j=>0<j) λi j=>.int (i%j)):=Bz λi j _ _ _ _ _ a q=>by
 have b:(0:Int)<j:=a;exact mod_int' (by omega) (by rw[Int.fmod_eq_emod_of_nonneg i (by omega)];exact q)
theorem Hv:nJ X (binaryOp .Pow) (rI Jh λi j=>.int (i ^ j.toNat)):=Bz λ_ _ _ _ _ _ _ a q=>pow_int_small a.1 a.2.1 a.2.2 q
theorem yA:nJ X (binaryOp .LShift) (rI Jh λi j=>.int (i*2 ^ j.toNat)):=Bz λ_ _ _ _ _ _ _ a q=>lshift_int_small a.1 a.2.1 a.2.2 q
theorem Up:nJ X (binaryOp .RShift) (rI (λ_ j=>0<=j) λi j=>.int (i/2 ^ j.toNat)):=Bz λi j _ _ _ _ _ a q =>
 rshift_int a (by rw[iK i (AW _)];exact q)
theorem QP:nJ X (binaryOp .BitAnd) (tV λi j=>.int (Builtin.bitAnd i j)):=Le λ_ _ _ _ _ _ _ q=>and_int q
theorem DO {f:Ac->Sem Ac}{g:Int->Int}
  (rule:∀ (i:Int) (t:Tok) (s:Ae) (Q:Ac->Ae->Prop) (E:Ac->Ae->Prop),Q (.int (g i) s.toks) { s with toks:=s.toks+1 }->wpAny (model X.prog X.w) X.A (f (.int i t)) Q E s) :
  Mg X f (rU λi=>.int (g i)):=by
 intro a s c H x v Q I b h;obtain⟨i,rfl,q⟩:=h;obtain⟨t,rfl⟩:=b;exact rule i t s _ _ ⟨.int (g i),H,I.tok _,⟨_,rfl⟩,q⟩
theorem HJ:Mg X (unaryOp .USub) (rU λi=>.int (-i)):=DO λ_ _ _ _ _ q=>neg_int q
end
noncomputable def Nt:V->V->Bool
 | .e,.e=>true | .e,.int _=>true | .int _,.e=>true | .e,.b _=>true | .b _,.e=>true | .e,.str _=>true | .str _,.e=>true
 | .int _,.int _=>true | .b _,.b _=>true | .str _,.str _=>true | .byt _,.byt _=>true
 | .int _,.str _=>true | .str _,.int _=>true | .b _,.str _=>true | .str _,.b _=>true
 | _,_=>false
def EV:R2:=λx y H Q=>Nt x y=true/\Q (.b (decide (x=y))) H
def JB:R2:=λx y H Q=>Nt x y=true/\Q (.b (!decide (x=y))) H
theorem Sm:decide (V.int i=V.int j)=(i == j):=by
 rw[fR];simp
theorem Rk:decide (V.b i=V.b j)=(i == j):=by
 rw[fR];simp
theorem Rf:decide (V.str i=V.str j)=(i == j):=by
 rw[fR];simp
theorem Xe:decide (V.byt i=V.byt j)=(i.toList == j.toList):=by
 rw[fR];cases i;cases j;simp
section
variable {X:Cx}
theorem oY (I:Inv X g l H s) (q:Q (.b k) H) (e:k=j):EP X g l Q (.bool j) s:=by
 subst e;exact⟨.b k,H,I,rfl,q⟩
theorem J6:nJ X (compareOp .Eq) EV:=by
 intro k s m H x y v u Q I f a h;obtain⟨d,q⟩:=h;cases x with
 | e =>
  cases f;cases y with
  | e=>cases a;exact PySem.EqNone.eq_none_none (oY I q (by simp))
  | b j=>cases a;exact PySem.EqNone.eq_none_bool (oY I q (by simp))
  | int j=>obtain⟨c,rfl⟩:=a;exact PySem.EqNone.eq_none_int (oY I q (by simp))
  | str j=>obtain⟨c,rfl⟩:=a;exact PySem.EqNone.eq_none_str (oY I q (by simp))
  | _=>exact absurd (show false=true from d) bC
 | b i =>
  cases f;cases y with
  | e=>cases a;exact PySem.EqNone.eq_bool_none (oY I q (by simp))
  | b j=>cases a;exact eq_bool (oY I q Rk)
  | str j=>obtain⟨c,rfl⟩:=a;exact PySem.EqMixed.eq_bool_str (oY I q (by simp))
  | _=>exact absurd (show false=true from d) bC
 | int i =>
  obtain⟨t,rfl⟩:=f;cases y with
  | e=>cases a;exact PySem.EqNone.eq_int_none (oY I q (by simp))
  | int j=>obtain⟨c,rfl⟩:=a;exact eq_int (oY I q Sm)
  | str j=>obtain⟨c,rfl⟩:=a;exact PySem.EqMixed.eq_int_str (oY I q (by simp))
  | _=>exact absurd (show false=true from d) bC
 | str i =>
  obtain⟨t,rfl⟩:=f;cases y with
  | e=>cases a;exact PySem.EqNone.eq_str_none (oY I q (by simp))
  | b j=>cases a;exact PySem.EqMixed.eq_str_bool (oY I q (by simp))
  | int j=>obtain⟨c,rfl⟩:=a;exact PySem.EqMixed.eq_str_int (oY I q (by simp))
  | str j=>obtain⟨c,rfl⟩:=a;exact eq_str (oY I q Rf)
  | _=>exact absurd (show false=true from d) bC
 | byt i =>
  obtain⟨t,rfl⟩:=f;cases y with
  | byt j=>obtain⟨c,rfl⟩:=a;exact PySem.W.eq_bytes (oY I q Xe)
  | _=>exact absurd (show false=true from d) bC
 | _=>cases y<;>exact absurd (show false=true from d) bC
theorem JU:nJ X (compareOp .NotEq) JB:=by
 intro k s m H x y v u Q I f a h;obtain⟨d,q⟩:=h;cases x with
 | e =>
  cases f;cases y with
  | e=>cases a;exact PySem.EqNone.ne_none_none (oY I q (by simp))
  | b j=>cases a;exact PySem.EqNone.ne_none_bool (oY I q (by simp))
  | int j=>obtain⟨c,rfl⟩:=a;exact PySem.EqNone.ne_none_int (oY I q (by simp))
  | str j=>obtain⟨c,rfl⟩:=a;exact PySem.EqNone.ne_none_str (oY I q (by simp))
  | _=>exact absurd (show false=true from d) bC
 | b i =>
  cases f;cases y with
  | e=>cases a;exact PySem.EqNone.ne_bool_none (oY I q (by simp))
  | b j=>cases a;exact ne_bool (oY I q (cG not Rk))
  | str j=>obtain⟨c,rfl⟩:=a;exact PySem.EqMixed.ne_bool_str (oY I q (by simp))
  | _=>exact absurd (show false=true from d) bC
 | int i =>
  obtain⟨t,rfl⟩:=f;cases y with
  | e=>cases a;exact PySem.EqNone.ne_int_none (oY I q (by simp))
  | int j=>obtain⟨c,rfl⟩:=a;exact ne_int (oY I q (cG not Sm))
  | str j=>obtain⟨c,rfl⟩:=a;exact PySem.EqMixed.ne_int_str (oY I q (by simp))
  | _=>exact absurd (show false=true from d) bC
 | str i =>
  obtain⟨t,rfl⟩:=f;cases y with
  | e=>cases a;exact PySem.EqNone.ne_str_none (oY I q (by simp))
  | b j=>cases a;exact PySem.EqMixed.ne_str_bool (oY I q (by simp))
  | int j=>obtain⟨c,rfl⟩:=a;exact PySem.EqMixed.ne_str_int (oY I q (by simp))
  | str j=>obtain⟨c,rfl⟩:=a;exact ne_str (oY I q (cG not Rf))
  | _=>exact absurd (show false=true from d) bC
 | byt i =>
  obtain⟨t,rfl⟩:=f;cases y with
  | byt j=>obtain⟨c,rfl⟩:=a;exact PySem.W.ne_bytes (oY I q (cG not Xe))
  | _=>exact absurd (show false=true from d) bC
 | _=>cases y<;>exact absurd (show false=true from d) bC
theorem BN:nJ X (compareOp .Lt) (tV λi j=>.b (decide (i<j))):=L5 λ_ _ _ _ _ _ _ q=>lt_int q
theorem B3:nJ X (compareOp .Gt) (tV λi j=>.b (decide (j<i))):=L5 λ_ _ _ _ _ _ _ q=>gt_int q
theorem U2:nJ X (compareOp .GtE) (tV λi j=>.b (decide (j<=i))):=L5 λ_ _ _ _ _ _ _ q=>ge_int q
theorem HE:nJ X (compareOp .In) (λx y H Q=>∃ i j,x = .str i/\y = .str j/\Q (.b (!(Builtin.Str.occurrences j i 0 j.length 1).isEmpty)) H):=by
 intro a s f H x y v u Q I c d h;obtain⟨i,j,rfl,rfl,q⟩:=h;obtain⟨t,rfl⟩:=c;obtain⟨e,rfl⟩:=d;exact in_str (oY I q rfl)
theorem GA:nJ X (compareOp .Is) (λx y H Q=>y = .e/\Q (.b (decide (x = .e))) H):=by
 intro a s f H x y v u Q I c d h;obtain⟨rfl,q⟩:=h;cases d;refine is_none_gen (oY I q ?_);cases x<;>first
  | (cases c;rfl)
  | (obtain⟨t,rfl⟩:=c;rfl)
theorem GF:nJ X (compareOp .IsNot) (λx y H Q=>y = .e/\Q (.b (!decide (x = .e))) H):=by
 intro a s f H x y v u Q I c d h;obtain⟨rfl,q⟩:=h;cases d;refine isnot_none_gen (oY I q ?_);cases x<;>first
  | (cases c;rfl)
  | (obtain⟨t,rfl⟩:=c;rfl)
theorem MJ:nJ X (compareOp .NotIn) (λx y H Q=>∃ i j,x = .str i/\y = .str j/\Q (.b (!(!(Builtin.Str.occurrences j i 0 j.length 1).isEmpty))) H):=by
 intro a s f H x y v u Q I c d h;obtain⟨i,j,rfl,rfl,q⟩:=h;obtain⟨t,rfl⟩:=c;obtain⟨e,rfl⟩:=d;exact notIn_str (oY I q rfl)
theorem nJ.or (h:nJ X f r) (g:nJ X f j):nJ X f (λx y H Q=>r x y H Q\/j x y H Q):=by
 intro a s d H x y v u Q I b c q;rcases q with q | q
 .exact h a s d H x y v u Q I b c q
 .exact g a s d H x y v u Q I b c q
theorem xJ (b:Expr) (h:op ≠ .In:=by decide) (g:op ≠ .NotIn:=by decide):behindInMarks op b=false:=by
 have a:(op == CmpOp.In)=false:=by cases op<;>first | rfl | exact absurd rfl h
 have c:(op == CmpOp.NotIn)=false:=by cases op<;>first | rfl | exact absurd rfl g
 cases b<;>simp[behindInMarks,a,c]
theorem P0 (o:nJ X (compareOp op) r) (g:PE X a p) (j:PE X b C) (l:behindInMarks op b=false):PE X (.Compare a [op] [b] pos) (Bg r p C):=by
 intro c s m H Q I h;exact wpAny_Compare1 (Nu g j I h λv u k x y d e f i q=>o c k m d x y v u Q e f i q) l
def T5 (t:TE):TT:=λc H Q=>t c H λx a=>∃ k,x = .b k/\Q k a
theorem wY (o:nJ X (compareOp op) r) (g:PE X a p) (j:PE X b C) (l:behindInMarks op b=false):PT X (.Compare a [op] [b] pos) (T5 (Bg r p C)):=by
 intro d s f H Q I h;refine wpAny_isTrue_Compare1 (mV (g d s f H _ I h) λv K ⟨x,i,q,E,A⟩=>mV (j d K f i _ q A) λu L ⟨y,m,t,F,B⟩ =>mV (o d L f m x y v u _ t E F B) λc M ⟨z,n,w,G,k,e,D⟩=>?_) l;subst e;cases G;exact gQ ⟨n,w,D⟩
def Oc (K:mI) (x:V) (H:Hp) (k:Bool):Prop :=
 match x with
 | .e=>k=false
 | .b b=>k=b
 | .int i=>k=(i != 0)
 | .str y=>y.length<=sizeLine/\k=((y.length:Int) != 0)
 | .byt y=>y.size<=sizeLine/\k=((y.size:Int) != 0)
 | .ref p=>(∃ c,mL K H p c/\k = !c.isEmpty)\/(∃ c,nP K H p c/\k = !c.isEmpty)\/∃ a,H p=some (.k a)/\k = !a.isEmpty
 | _=>False
theorem DQ (r:KV g j):(!j.isEmpty) = !g.isEmpty:=by
 cases r<;>rfl
theorem V4 (r:mY j g):(!g.toArray.isEmpty) = !j.isEmpty:=by
 cases r<;>simp
theorem Bi:(sizeLine:Nat)<2 ^ 63:=by rw[kF];decide
theorem DJ:SO X (λx H Q=>∃ k,Oc X.K x H k/\Q k H):=by
 intro E s N H x v Q I n h;obtain⟨k,e,q⟩:=h;have L:=Bi;have M:sizeLine=16777216:=kF;cases x with
 | e =>
  cases n;have a:k=false:=e;subst a;exact truthy_none ⟨H,I,q⟩
 | b b =>
  cases n;have a:k=b:=e;subst a;exact gQ ⟨H,I,q⟩
 | int i =>
  obtain⟨t,rfl⟩:=n;have a:k=(i != 0):=e;subst a;exact PySem.P.truthy_int ⟨H,I,q⟩
 | str y =>
  obtain⟨t,rfl⟩:=n;obtain⟨G,a⟩:y.length<=sizeLine/\k=((y.length:Int) != 0):=e;subst a;exact PySem.P.truthy_str (by omega) ⟨H,I.tok _,q⟩
 | byt y =>
  obtain⟨t,rfl⟩:=n;obtain⟨G,a⟩:y.size<=sizeLine/\k=((y.size:Int) != 0):=e;subst a;exact PySem.W.truthy_bytes (by omega) ⟨H,I.tok _,q⟩
 | ref p =>
  cases n;have a:(∃ f,mL X.K H p f/\k = !f.isEmpty)\/(∃ f,nP X.K H p f/\k = !f.isEmpty)\/∃ c,H p=some (.k c)/\k = !c.isEmpty:=e;rcases a with⟨f,u,a⟩ | ⟨f,u,a⟩ | ⟨c,u,a⟩
  .subst a;obtain⟨A,r,B,D⟩:=I.list u;have d:=r.length;exact wpAny_truthy_list B.isList (by simp only[aY];omega) ⟨H,I.tok _,by rw[V4 r];exact q⟩
  .subst a;obtain⟨A,r,B,D⟩:=I.tuple u;have d:=r.length;exact truthy_tuple B (by simp only[aY];omega) ⟨H,I.tok _,by rw[V4 r];exact q⟩
  .subst a;obtain⟨D,F,z,r,m⟩:c.length<=sizeLine/\(p == sysModules)=false/\∃ z,KV c z/\s.heap.DictOf (pZ X.prog X.w) p z:=I.hok p _ u;have d:c.length=z.length:=fA r;exact wpAny_truthy_dict F m (by omega) ⟨H,I.tok _,by rw[DQ r];exact q⟩
 | _=>exact (show False from e).elim
theorem MT (l:PE X a p) (o:∀ whole,isTrue a X.env whole=(do let v <- whole;standAt a.pos;holding [v] (truthy v))) :
  PT X a (λg H Q=>p g H λx j=>∃ k,Oc X.K x j k/\Q k j):=by
 intro b s g H Q I h;exact isTrue_plain (mV (l b s g H _ I h) λv i ⟨x,c,d,f,e⟩=>DJ b i g c x v Q d f e) (o _)
theorem yK:nJ X (binaryOp .Add) (λx y H Q=>∃ i j,x = .str i/\y = .str j/\i.length+j.length<=sizeLine/\Q (.str (i++j)) H):=by
 intro a s k H x y v u Q I c d h;obtain⟨i,j,rfl,rfl,b,q⟩:=h;obtain⟨t,rfl⟩:=c;obtain⟨e,rfl⟩:=d;exact add_str (λe f=>⟨.str (i++j),H,I.tok _,⟨_,rfl⟩,q⟩) b
theorem rF (r:mY [x] g):∃ u,g=[u]/\nC x u:=by
 cases r with
 | cons a b=>cases b;exact⟨_,rfl,a⟩
theorem Ba (r:mY [x,y] j):∃ u g,j=[u,g]/\nC x u/\nC y g:=by
 cases r with
 | cons a b =>
  cases b with
  | cons c d=>cases d;exact⟨_,_,rfl,a,c⟩
theorem DC (l:X.calm=true):oI X (.builtin "max") (λg H Q=>∃ i j,g=[.int i,.int j]/\Q (.int (if j>i then j else i)) H):=by
 intro b s n H g f Q I r h;obtain⟨i,j,rfl,q⟩:=h;obtain⟨u,m,rfl,⟨t,rfl⟩,⟨d,rfl⟩⟩:=Ba r;refine max_two_ints (I.ok.hd l) λc e k=>⟨_,H,I.kept k,?_,q⟩
 by_cases a:j>i
 .rw[aO a,aO a];exact⟨_,rfl⟩
 .rw[aJ a,aJ a];exact⟨_,rfl⟩
theorem V3 (l:X.calm=true):oI X (.builtin "min") (λg H Q=>∃ i j,g=[.int i,.int j]/\Q (.int (if j<i then j else i)) H):=by
 intro b s n H g f Q I r h;obtain⟨i,j,rfl,q⟩:=h;obtain⟨u,m,rfl,⟨t,rfl⟩,⟨d,rfl⟩⟩:=Ba r;refine min_two_ints (I.ok.hd l) λc e k=>⟨_,H,I.kept k,?_,q⟩
 by_cases a:j<i
 .rw[aO a,aO a];exact⟨_,rfl⟩
 .rw[aJ a,aJ a];exact⟨_,rfl⟩
theorem JL:oI X (.type "int") (λg H Q=>(∃ i,g=[.int i]/\Q (.int i) H)\/∃ k,g=[.b k]/\Q (.int (if k then 1 else 0)) H):=by
 intro a s e H g d Q I r h;rcases h with⟨i,rfl,q⟩ | ⟨k,rfl,q⟩
 .obtain⟨u,rfl,t,rfl⟩:=rF r;exact call_int_int ⟨.int i,H,I,⟨_,rfl⟩,q⟩
 .obtain⟨u,rfl,c⟩:=rF r;cases c;exact call_int_bool ⟨.int (if k then 1 else 0),H,I.tok _,⟨_,rfl⟩,q⟩
theorem Yj:oI X (.type "str") (λg H Q=>∃ i,g=[.int i]/\i.natAbs.log2<1920/\Q (.str (toString i)) H):=by
 intro a s d H g c Q I r h;obtain⟨i,rfl,b,q⟩:=h;obtain⟨u,rfl,t,rfl⟩:=rF r;exact PySem.P.str_of_int b ⟨.str _,H,I.tok _,⟨_,rfl⟩,q⟩
end
structure ObjM (h:Heap) (x dx C:Addr) (mA:Str->Option Value):Prop where
 obj:h.get? x=some (PySem.W.instObj C dx)
 ns:h.Ns1 dx mA
 ne:dx≠x
theorem BY {h:Ag}{g:Ad}{j:Af->Ab Ac}(n:h.Ns1 g j):∃ l,h.get? g=some l/\∀ name,PySem.W.lookIn name l=some (j name):=by
 obtain⟨o,c,s,k,hd,f,_,i⟩:=n;refine⟨o,k,λname=>?_⟩;have e:=i name;unfold nsFind findBy at e;rw[<- Array.find?_toList] at e;unfold PySem.W.lookIn;rw[hd];dsimp only;split
 .rename_i y q
  rw[q] at e;exact cG some e
 .rename_i q
  rw[q] at e;have a:c.toList.any (·.refKey)=false:=by
   rw[List.any_eq_false];intro y m;obtain⟨z,t,b⟩:=f y (Array.mem_toList_iff.mp m);simp[DictEntry.refKey,b]
  have d:¬ c.toList.any (·.refKey)=true:=by rw[a];exact bC
  rw[aJ d];exact cG some e
theorem ObjM.look (I:ObjM h x j C l):∃ g,PySem.W.InstAt h x (PySem.W.instObj C j) C (some g)/\∀ name,PySem.W.lookIn name g=some (l name) :=
 let ⟨g,b,a⟩:=BY I.ns
 ⟨g,⟨I.obj,rfl,rfl,b⟩,a⟩
theorem vN.some_of (r:vN (some v) o):∃ u,o=some u/\nC v u:=by
 cases o with
 | none=>exact (show False from r).elim
 | some u=>exact⟨u,rfl,r⟩
section
variable {P:Ah}
theorem OZ (l:oO P w H h) (e:H a=some (.ins C j fs)):∃ g,ObjM h a j C g/\(∀ f,vN (fs.lookup f) (g f))/\PySem.Within g (fs.map (·.1))/\fs.length<=1000/\H j=some (.o a):=by
 obtain⟨d,z,ne,b,g,n,r,q⟩:=(show oG P w H h a (.ins C j fs) from l a _ e);exact⟨g,⟨b,n,ne⟩,r,q,z,d⟩
end
structure Cls (K:mI) (C:Addr):Prop where
 pg:PySem.W.plainGet K C Str.empty=true
 hd:PySem.W.hasDictIn K C=true
 po:PySem.W.plainOver K C=true
 sa:PySem.W.findIn K (.ref C) "__setattr__" = some (some (.builtin "object.__setattr__"))
theorem Cls.get {K:mI}(c:Cls K C) (f:Af):PySem.W.plainGet K C f=true:=c.pg
section
variable {X:Cx}
inductive TyOf (K:mI) (H:Hp):V->Value->Prop where
 | e:TyOf K H .e (.type "NoneType")
 | b (x:Bool):TyOf K H (.b x) (.type "bool")
 | int (i:Int):TyOf K H (.int i) (.type "int")
 | str (x:Str):TyOf K H (.str x) (.type "str")
 | flt (x:UInt64):TyOf K H (.flt x) (.type "float")
 | l {a:Addr} {xs:List V} (e:H a=some (.l xs)):TyOf K H (.ref a) (.type "list")
 | frz {a:Addr} {o:Obj} {xs:List V} (e:H a=some (.frz o (.l xs))):TyOf K H (.ref a) (.type "list")
 | t {a:Addr} {xs:List V} (e:H a=some (.t xs)):TyOf K H (.ref a) (.type "tuple")
 | k {a:Addr} {kvs:List (gD×V)} (e:H a=some (.k kvs)):TyOf K H (.ref a) (.type "dict")
 | T {a:Addr} {kvs:List (List gD×V)} (e:H a=some (.T kvs)):TyOf K H (.ref a) (.type "dict")
 | ins {a C dx:Addr} {fs:List (Str×V)} (e:H a=some (.ins C dx fs)) (cl:Cls K C) (ha:PySem.W.findIn K (.ref C) "__class__" = some (some (.builtin "object.__class__")))
   (hn:PySem.W.specialIn K (.builtin "object.__class__") "__get__" = some (some (.builtin "getset_descriptor.__get__"))) (htk:PySem.W.takesIn K (.builtin "object.__class__")=some true)
   (hm:PySem.W.mroIn K C (.type "object")=some true):TyOf K H (.ref a) (.ref C)
theorem JO (I:Inv X j U H s) (g:nC x u) (ty:TyOf X.K H x t) (e:PySem.W.kitOne X.K t c=some b) (h:∀ r,Q (.bool b) { s with toks:=r }) :
  wpAny (model X.prog X.w) A (call (.builtin "isinstance") [u,c]) Q E s:=by
 cases ty with
 | e=>cases (show u=Value.none from g);exact eD PySem.W.kitx_none I.kIn True.intro e (λz=>nomatch z) h
 | b y=>cases (show u=Value.bool y from g);exact eD PySem.W.kitx_bool I.kIn True.intro e (λz=>nomatch z) h
 | int i=>obtain⟨t,q⟩:=(show ∃ t,u=Value.int i t from g);cases q;exact eD PySem.W.kitx_int I.kIn True.intro e (λz=>nomatch z) h
 | str y=>obtain⟨t,q⟩:=(show ∃ t,u=Value.str y t from g);cases q;exact eD PySem.W.kitx_str I.kIn True.intro e (λz=>nomatch z) h
 | flt y=>obtain⟨t,q⟩:=(show ∃ t,u=Value.float y t from g);cases q;exact eD PySem.W.kitx_float I.kIn True.intro e (λz=>nomatch z) h
 | @l a v d =>
  cases (show u=Value.ref a from g);obtain⟨_,_,n,_,f⟩:=(show oG X.prog X.w H s.heap a (.l v) from I.hok a _ d);exact eD PySem.W.kitx_list I.kIn ⟨_,f,rfl⟩ e (λz=>nomatch z) h
 | @frz a R v d =>
  cases (show u=Value.ref a from g);obtain⟨_,_,_,n,_,f⟩:=(show oG X.prog X.w H s.heap a (.frz R (.l v)) from I.hok a _ d);exact eD PySem.W.kitx_list I.kIn ⟨_,f,rfl⟩ e (λz=>nomatch z) h
 | @t a v d =>
  cases (show u=Value.ref a from g);obtain⟨_,_,_,p,_⟩:=(show oG X.prog X.w H s.heap a (.t v) from I.hok a _ d);obtain⟨o,f,B,_⟩:=p;exact eD PySem.W.kitx_tuple I.kIn ⟨o,f,B⟩ e (λz=>nomatch z) h
 | @k a m d =>
  cases (show u=Value.ref a from g);obtain⟨_,_,Z,_,p⟩:=(show oG X.prog X.w H s.heap a (.k m) from I.hok a _ d);obtain⟨o,L,G,f,B,_⟩:=p;exact eD PySem.W.kitx_dict I.kIn ⟨o,f,B.1⟩ e (λz=>nomatch z) h
 | @T a m d =>
  cases (show u=Value.ref a from g);obtain⟨_,_,v,_,o,L,G,f,B,_⟩:=(show oG X.prog X.w H s.heap a (.T m) from I.hok a _ d);exact eD PySem.W.kitx_dict I.kIn ⟨o,f,B.1⟩ e (λz=>nomatch z) h
 | @ins a C S fs d F M P D N =>
  cases (show u=Value.ref a from g);obtain⟨V,O,_⟩:=OZ I.hok d;obtain⟨Y,J,_⟩:=O.look;exact eD (PySem.W.kitx_own (F.get _) F.hd M P D N) I.kIn J e (λz=>nomatch z) h
end
structure Room (k:Nat) (A:Around):Prop where
 hd:A.handled=none
 dp:A.depth+3*k+5<recursionLimit
 un:A.units+16*k+200<cLine
theorem Room.mono (r:Room k A) (h:j<=k):Room j A:=⟨r.hd,by have:=r.dp;omega,by have:=r.un;omega⟩
theorem Room.deeper (r:Room (k+1) A) (g:Env):Room k (A.deeper g) :=
 ⟨r.hd,by have:=r.dp;show A.depth+1+3*k+5<_;omega,by have:=r.un;show A.units+3+16*k+200<_;omega⟩
theorem Room.depth (r:Room k A):A.depth<recursionLimit:=by have:=r.dp;omega
theorem Room.units (r:Room k A):A.units+64<cLine:=by have:=r.un;omega
def Dy:TA:=λ_ H Q=>Q [] H
def A2 (g:TE) (j:TA):TA:=λa H Q=>g a H λx b=>j a b λd c=>Q (x::d) c
section
variable {X:Cx}
theorem nK:PA X [] Dy:=λ_ _ _ _ H Q I h=>Calls.spliced_nil ⟨[],H,I,.nil,h⟩
theorem xV (j:PE X e p) (l:PA X g t) (o:starEach (e::g) X.env=(false,eval e X.env)::starEach g X.env:=by rfl):PA X (e::g) (A2 p t):=by
 intro pos a s c H Q I h;rw[o];show wpAny _ _ (spliced ((false,eval e X.env)::backTo pos (starEach g X.env))) _ _ s;refine jD (mV (j a s c H _ I h) λu w b=>?_);obtain⟨x,d,i,q,m⟩:=b;exact mV (l pos a w c d _ i m) λA z ⟨y,f,k,v,n⟩=>⟨x::y,f,k,.cons q v,n⟩
def Ya (t:TA):TE:=λc H Q=>t c H λb a=>b.length<=sizeLine/\∀ p,a p=none->Q (.ref p) (upd a p (.t b))
def Ur (t:TA):TE:=λc H Q=>t c H λb a=>b.length<=sizeLine/\∀ p,a p=none->Q (.ref p) (upd a p (.l b))
theorem Ca {j}(h:PA X g t):PE X (.Tuple g j pos) (Ya t):=by
 intro a s v H Q I k;refine wpAny_Tuple_spliced (mV (h pos a s v H _ I k) λm c ⟨n,d,f,r,z,q⟩=>⟨by rw[<- r.length];exact z,?_⟩);have i:d c.heap.objs.size=none:=f.hok.fresh (aU _);refine⟨.ref c.heap.objs.size,upd d c.heap.objs.size (.t n),f.laid (t':=c.toks) (λb u e=>aG _ e) (aU _) ?_,rfl,q _ i⟩;exact⟨z,m,r,⟨_,bA _ rfl,rfl,_,rfl⟩,_,bA _ rfl,rfl⟩
theorem rE (h:PA X g t):PE X (.List g pos) (Ur t):=by
 intro a s v H Q I k;refine wpAny_List_spliced (mV (h pos a s v H _ I k) λm c ⟨n,d,f,r,z,q⟩=>⟨by rw[<- r.length];exact z,?_⟩);have i:d c.heap.objs.size=none:=f.hok.fresh (aU _);refine⟨.ref c.heap.objs.size,upd d c.heap.objs.size (.l n),f.laid (t':=c.toks) (λb u e=>aG _ e) (aU _) ?_,rfl,q _ i⟩;exact⟨z,m,0,r,bA _ rfl⟩
end
abbrev Sp:=Aa V->Hp->VK->XK->Prop
abbrev Cp:=Aa Env->Hp->Ae->XK->Ac->Ae->Prop
structure Env0 (P:Program) (w:World) (K:mI) (mg:Str->Option Value) (base:Heap) (A:Around) (outer:List Env) (s:Shared) (H:Hp):Prop where
 frames:A.frames=some outer
 mod:Mod K mg base
 bs:∀ b o,base.get? b=some o->s.heap.get? b=some o/\H b=none
 bsz:base.objs.size<=s.heap.objs.size
 funs:s.heap.FunFrames base outer
 frf:∀ b∈wF outer,H b=none
 hok:oO P w H s.heap
 bare:AllBare s.gens
def CE (g:Aa Env) (P:Ah) (w:World) (H:Hp) (s:Ae) (Q:VK) (u:Ac) (j:Ae):Prop :=
 ∃ v a,j.os=s.os/\AllBare j.gens/\Un (wF g) [] H a s.heap j.heap/\oO P w a j.heap/\nC v u/\Q v a
def CR (l:Cp) (g:Aa Env) (P:Ah) (w:World) (H:Hp) (s:Ae) (Q:VK) (E:XK) (r:Result) (j:Ae):Prop :=
 match r with
 | .ok (.ret u)=>CE g P w H s Q u j
 | .ok _=>False
 | .error e=>l g H s E e j
structure FnOk (P:Program) (w:World) (K:mI) (mg:Str->Option Value) (base:Heap) (CX:Cp) (k:Nat) (f:Addr) (fd:FuncData) (ps:List Str) (sp:Sp):Prop where
 len:∀ vs H Q E,sp vs H Q E->vs.length=ps.length
 run:∀ (A:Around) (outer:List Env) (s:Shared) (H:Hp) (args:Args) (us:List Value) (vs:List V) (Q:VK) (E:XK),Room k A->Env0 P w K mg base A outer s H->BindsTo s fd args (ps.zip us)->mY vs us->sp vs H Q E ->
  codeAny (model P w) A (.call (.ref f) args) (CR CX outer P w H s Q E) s
theorem FnOk.imp {P:Ah}{K:mI}(F:FnOk P w K o base l k f fd p r)
  (h:∀ g H Q E,j g H Q E->r g H Q E):FnOk P w K o base l k f fd p j :=
 ⟨λg H Q E q=>F.len g H Q E (h _ _ _ _ q),λA a s H args m g Q E d c b i e=>F.run A a s H args m g Q E d c b i (h _ _ _ _ e)⟩
section
variable {X:Cx}
theorem Inv.env0 (I:Inv X g j H s):Env0 X.prog X.w X.K X.mg X.base X.A X.stack s H :=
 ⟨I.ok.frames,I.ok.mod,I.bs,bX I.ok.bsz I.sz,I.stack,I.stkFree,I.hok,I.bare⟩
theorem Inv.after (I:Inv X j o H s) (h:CE X.stack X.prog X.w H s Q u l):EP X j o Q u l:=by
 obtain⟨v,e,os,bare,un,a,r,q⟩:=h;obtain⟨f,g,d,t,c⟩:=l;obtain rfl:c=s.os:=os;exact⟨v,e,I.call (h':=f) (g':=g) (d':=d) (t':=t) (ch:=[]) un a bare (λb z=>absurd z (by simp)),r,q⟩
end
def Xn (j:Sp) (g:Aa V) (E:XK) (t:TA):TE:=λc H Q=>t c H λb a=>j (b++g) a Q E
def zD (K:mI) (fd:FuncData) (j:Aa Af) (g:Aa Ac):Prop :=
 ∀ (s:Ae) (a:Aa Ac),K.In s.heap->(a++g).length=j.length->BindsTo s fd ⟨a,[]⟩ (j.zip (a++g))
theorem zD.all {K:mI}(h:∀ g:Aa Ac,g.length=j.length->bindArgs fd ⟨g,[]⟩=pure (j.zip g)):zD K fd j []:=λs g _ a=>by
 rw[dD] at a |-;exact .of_eq (h g a)
def Iq (g:Cp) (X:Cx) (E:XK):Prop:=∀ (a:Aa (Ad×Obj)) (c:St) (H:Hp) (s:Ae) (e:Ac) (b:Ae),Inv X a c H s->g X.stack H s E e b->X.xe e b
section
variable {X:Cx}
theorem Ui (F:FnOk X.prog X.w X.K X.mg X.base J k f fd p sp) (U:Room k X.A) (T:zD X.K fd p l) (hd:mY j l) (hx:Iq J X E)
  (I:Inv X g C H s) (r:mY o us) (h:sp (o++j) H Q E):wpAny (model X.prog X.w) X.A (call (.ref f) us) (EP X g C Q) X.xe s:=by
 have b:mY (o++j) (us++l):=r.append hd;have d:(us++l).length=p.length:=by rw[<- b.length];exact F.len _ _ _ _ h
 refine wpAny_call (codeAny_mono (F.run X.A X.stack s H ⟨us,[]⟩ (us++l) (o++j) Q E U I.env0 (T s us I.kIn d) b h) λr i a=>?_);cases r with
 | error e=>exact hx g C H s e i I a
 | ok c =>
  cases c with
  | ret u=>exact I.after a
  | next=>exact False.elim a
  | brk=>exact False.elim a
  | cont=>exact False.elim a
structure StB (X:Cx) (e:Expr) (es:List Expr) (pos:Pos):Prop where
 a:starEach (e::es) X.env=(false,eval e X.env)::starEach es X.env:=by rfl
 b:(backTo pos (starEach es X.env)).any (·.1)=false:=by rfl
theorem uP (F:FnOk X.prog X.w X.K X.mg X.base C k f fd ps sp) (hr:Room k X.A) (hg:Gl X x) (hm:X.mg x=some (.ref f)) (hk:PySem.W.keepIn X.K (.ref f)=true) (U:zD X.K fd ps J) (hd:mY j J) (hx:Iq C X E)
  (T:PA X (e::o) t) (l:(x == ("__debug__" : Af))=false:=by decide) (g:StB X e o pos:=by exact {}) :
  PE X (.Call (.Name x p) (e::o) [] pos) (Xn sp j E t):=by
 intro c s i H Q I h;refine gB (Pl I hg hm ?_ l);refine PySem.W.callWith_K (h₀:=X.base) I.ok.mod.kin hk (mV (T pos c s i H _ I h) λu n ⟨v,m,d,r,q⟩=>⟨d.kIn,?_⟩) g.a g.b;exact Ui F hr U hd hx d r q
theorem Vn (F:FnOk X.prog X.w X.K X.mg X.base l k f fd ps sp) (U:Room k X.A) (C:Gl X x) (T:X.mg x=some (.ref f)) (J:PySem.W.keepIn X.K (.ref f)=true) (r:zD X.K fd ps o) (hd:mY g o) (hx:Iq l X E)
  (j:(x == ("__debug__" : Af))=false:=by decide):PE X (.Call (.Name x p) [] [] pos) (Xn sp g E Dy):=by
 intro a s b H Q I h;refine gB (Pl I C T ?_ j);exact PySem.W.callWith_K0 I.kIn J (Ui (us:=[]) F U r hd hx I .nil h)
end
structure FnScope (N P:List Str) (sc:Scope):Prop where
 kind:sc.kind = .function
 co:sc.isCoroutine=false
 gen:sc.isGenerator=false
 nd:N.Nodup
 pre:N.take P.length=P
 par:∀ x∈P,sc.names.lookup x=some .local\/sc.names.lookup x=some .cell
 nofree:∀ y∈sc.names,y.2 ≠ .free
theorem Px {kindOf:Af->Ab NameKind}:∀ {binds:Aa (Af×Ac)}{m:Af->Ab Ac},(∀ v,(x,v)∉binds)->bindL kindOf binds m x=m x
 | [],_,_=>rfl
 | (n,v)::r,m,h=>by
  unfold bindL;rw[Px λw hw=>h w (aQ _ hw)];split
  .have:x≠n:=by rintro rfl;exact h v aH
   simp[this]
  .rfl
theorem Xp {kindOf:Af->Ab NameKind}:∀ {binds:Aa (Af×Ac)}{m:Af->Ab Ac},(∀ v,(x,v)∉binds)->bindC kindOf binds m x=m x
 | [],_,_=>rfl
 | (n,v)::r,m,h=>by
  unfold bindC;rw[Xp λw hw=>h w (aQ _ hw)];split
  .rfl
  .have:x≠n:=by rintro rfl;exact h v aH
   simp[this]
theorem Yd {kindOf:Af->Ab NameKind}:∀ {P:Aa Af}{g:Aa Ac}{i:Nat}{m:Af->Ab Ac},P.Nodup->P[i]?=some x->g[i]?=some v->kindOf x=some .local ->
  bindL kindOf (P.zip g) m x=some v
 | [],_,_,_,_,h,_,_=>by simp at h
 | _::_,[],_,_,_,_,h,_=>by simp at h
 | p::P,w::g,0,m,d,a,b,c=>by
  simp at a b;subst a;subst b;show bindL kindOf ((p,w)::P.zip g) m p=_;unfold bindL;rw[Px λv e=>(bY.mp d).1 (eV e).1,aO c];simp
 | p::P,w::g,i+1,m,d,a,b,c=>by
  show bindL kindOf ((p,w)::P.zip g) m x=_;unfold bindL;exact Yd (i:=i) (bY.mp d).2 (by simpa using a) (by simpa using b) c
theorem V7 {kindOf:Af->Ab NameKind}:∀ {P:Aa Af}{g:Aa Ac}{i:Nat}{m:Af->Ab Ac},P.Nodup->P[i]?=some x->g[i]?=some v->kindOf x≠some .local ->
  bindC kindOf (P.zip g) m x=some v
 | [],_,_,_,_,h,_,_=>by simp at h
 | _::_,[],_,_,_,_,h,_=>by simp at h
 | p::P,w::g,0,m,d,a,b,c=>by
  simp at a b;subst a;subst b;show bindC kindOf ((p,w)::P.zip g) m p=_;unfold bindC;rw[Xp λv e=>(bY.mp d).1 (eV e).1,aJ c];simp
 | p::P,w::g,i+1,m,d,a,b,c=>by
  show bindC kindOf ((p,w)::P.zip g) m x=_;unfold bindC;exact V7 (i:=i) (bY.mp d).2 (by simpa using a) (by simpa using b) c
def vZ (N:Aa Af) (g:Aa V):St:=g.map some++List.replicate (N.length-g.length) none
noncomputable def zF (o:Cp) (P:Ah) (w:World) (K:mI) (p:Af->Ab Ac) (base:Ag) (N:Aa Af) (l:Af) (g:Scope) (f:Ad) (cd:Ac) (A:Around) (j:Aa Env) (s:Ae) (H:Hp) (E:XK):Cx where
 prog:=P
 w:=w
 K:=K
 mg:=p
 base:=base
 A:=A.deeper (envOfC l g s.heap.objs.size f cd)
 N:=N
 s₀:=s
 H₀:=H
 env:=envOfC l g s.heap.objs.size f cd
 outer:=j
 stack:=envOfC l g s.heap.objs.size f cd::j
 ex:=[]
 calm:=true
 fn:=λ_=>true
 pn:=[]
 xe:=λe c=>wpAny (model P w) (A.deeper (envOfC l g s.heap.objs.size f cd)) (leaving (envOfC l g s.heap.objs.size f cd) e) (λ_ a=>o j H s E e a) (λb a=>o j H s E b a) c
theorem Pc {g:Scope}{n:Nat}{x:Af}(h:g.names.lookup x=some .cell):∃ c,(cellsFrom n g.names []).lookup x=some c:=by
 have q:=PySem.W.cellsFrom_some g.names n [] (.inl h);exact cS.mp q
theorem HY {P:Ah}{K:mI}{cd:Ac}
  (S:FnScope N C g) (hd:A.handled=none) (o:Env0 P w K J base A j s H) (hl:I.length=C.length) (r:mY I T)
  (x:InCallC s s.heap.objs.size (bindL (envOfC l g s.heap.objs.size f cd).kindOf (C.zip T) λ_=>none) (cellsFrom (s.heap.objs.size+1) g.names []) (bindC (envOfC l g s.heap.objs.size f cd).kindOf (C.zip T) λ_=>none) s1) :
  Inv (zF U P w K J base N l g f cd A j s H E) [] (vZ N I) H s1:=by
 have Q:C.length<=N.length:=by have:=cG List.length S.pre;rw[bU] at this;omega
 obtain⟨F,W,rfl,L⟩:=x.done;have t:∀ b:Ad,b∉(zF U P w K J base N l g f cd A j s H E).ex:=λb z=>absurd (show b∈([]:Aa Ad) from z) (by simp)
 refine⟨⟨o.mod,S.kind,rfl,rfl,aU _,λy z c F d=>?_,λy m=>?_,λy c _ h=>?_,λ_=>hd,Around.frames_deeper o.frames,.inr ⟨rfl,rfl⟩,λb z=>absurd z (t b),o.bs,o.bsz,λb _ _=>t b,λb z=>absurd z (t b),o.funs,o.frf⟩,
  rfl,o.bare,Un.kept L,⟨_,x.toInCall.ns,λi y v F d V=>?_⟩,λy c h=>⟨_,x.cell y c h⟩,o.hok.fresh (aU _),λy c h=>?_,λp B=>absurd (show p∈([]:Aa (Ad×Obj)) from B) (by simp),o.hok.kept L,?_⟩
 .exact name_of_addr x.apart (dX F) (dX d)
 .have m:g.names.lookup y=some .cell\/g.names.lookup y=some .free:=m;rcases m with m | m
  .exact Pc m
  .exact absurd rfl (S.nofree _ (dX m))
 .exact eI (x.above y c (dX h))
 .have G:i<I.length:=by
   unfold vZ at d;by_cases G:i<I.length
   .exact G
   .rw[fB (by simpa using G)] at d;rw[List.getElem?_replicate] at d;split at d<;>cases d
  have O:I[i]?=some v:=by
   unfold vZ at d;rw[iW (by simpa using G),aW] at d;cases e:I[i]? with
   | none=>rw[e] at d;cases d
   | some a=>rw[e] at d;cases d;rfl
  obtain⟨u,M,R⟩:=r.get O;have B:C[i]?=some y:=by
   rw[<- S.pre,List.getElem?_take_of_lt (by omega)];exact F
  have D:C.Nodup:=by rw[<- S.pre];exact S.nd.sublist (lH _ _)
  refine⟨u,R,?_⟩;rcases S.par y (aF B) with k | k
  .exact .inl ⟨k,Yd D B M k⟩
  .obtain⟨c,e⟩:=Pc (n:=s.heap.objs.size+1) k;refine .inr ⟨.inl k,c,e,?_⟩;have q:=x.cell y c e;rw[V7 D B M (by show g.names.lookup y≠_;rw[k];decide)] at q;exact q
 .exact o.hok.fresh (eI (x.above y c (dX h)))
 .unfold vZ;show _=N.length;rw[bH,aA,eP];omega
theorem BV {P:Ah}{K:mI}{kV:Ac}
(lk:K.lookup f=some ⟨oc,od,.func (PySem.W.fnOf name l C body g dV kV ab pm an p ct),ae⟩) (ac:PySem.W.codeIn K p l=true) (S:FnScope N ps g)
  (len:∀ T H Q E,sp T H Q E->T.length=ps.length)
  (aa:∀ (A:Around) (j:Aa Env) (s:Ae) (H:Hp) (T:Aa V) (Q:VK) (E:XK),Room k (A.deeper (envOfC l g s.heap.objs.size f p))->sp T H Q E ->∃ t,qG (zF CX P w K mg base N l g f p A j s H E) body t/\t { nx:=λ_ U=>Q .e U,rt:=Q } (vZ N T) H) :
  FnOk P w K mg base CX (k+1) f (PySem.W.fnOf name l C body g dV kV ab pm an p ct) ps sp:=by
 refine⟨len,λA j s H args us T Q E m h O r i=>?_⟩;have X:=len _ _ _ _ i;have F:K.In s.heap:=h.mod.kin.keeps λb o e=>(h.bs b o e).1
 have z:s.heap.NoLimit:=h.mod.nolimit.keeps λb o e=>(h.bs b o e).1
 have c:∀ y∈ps.zip us,g.names.lookup y.1=some .local\/(g.names.lookup y.1=some .cell/\((cellsFrom (s.heap.objs.size+1) g.names []).lookup y.1).isSome=true):=λ⟨n,v⟩ hy=>by
  rcases S.par n (eV hy).1 with q | q
  .exact .inl q
  .exact .inr ⟨q,PySem.W.cellsFrom_some _ _ _ (.inl q)⟩
 refine codeAny_call_function m.depth (F _ _ lk) rfl S.co S.gen rfl (PySem.W.codeRec_of F ac) (O _ _ _ _ ?_);refine wpAny_newFunctionEnv_cells S.kind c λL R G x=>?_
 subst R;refine⟨z.keeps x.toInCall.keep,codeAny_func ?_⟩;obtain⟨t,Z,Y⟩:=aa A j s H T Q E (m.deeper _) i;have I:Inv (zF CX P w K mg base N l g f p A j s H E) [] (vZ N T) H G:=HY S m.hd h X r x;refine cO (Z [] G (vZ N T) H _ I Y) (λM D d=>?_) λe D d=>d
 have fin:∀ {a:St} {U:Hp} {v:V} {u:Ac},Inv (zF CX P w K mg base N l g f p A j s H E) [] a U D->nC v u->Q v U->CE j P w H s Q u D :=
  λ{a U v u} J B q=>⟨v,U,J.os,J.bare,J.base,J.hok,B,q⟩
 cases M with
 | ret u =>
  obtain⟨v,a,U,J,B,q⟩:=d;exact fin J B q
 | next =>
  obtain⟨a,U,J,q⟩:=d;exact fin (v:=V.e) (u:=Value.none) J rfl q
 | brk =>
  obtain⟨_,_,_,q⟩:=d;exact False.elim q
 | cont =>
  obtain⟨_,_,_,q⟩:=d;exact False.elim q
section
variable {X:Cx}{id:String}
def Su (r:Aa V->Hp->VK->Prop) (t:TA):TE:=λc H Q=>t c H λb a=>r b a Q
theorem wE (C:oI X (.builtin id) r) (J:Gl X x) (T:X.mg x=none) (hv:bootBuiltins x=some (.builtin id)) (o:PA X (e::l) t) (U:x ≠ "__name__" := by decide) (j:(x == ("__debug__" : Af))=false:=by decide)
  (g:StB X e l pos:=by exact {}):PE X (.Call (.Name x p) (e::l) [] pos) (Su r t):=by
 intro c s d H Q I h;refine gB (yJ I J T hv ?_ U j);exact PyProof.Rows.callWith_builtin1 (mV (o pos c s d H _ I h) λq n ⟨u,f,i,m,k⟩=>C c n d f u q Q i m k) g.a g.b
theorem Oa (C:oI X (.type T) r) (J:Gl X x) (U:X.mg x=none) (hv:bootBuiltins x=some (.type T)) (o:PA X (e::l) t) (hn:x ≠ "__name__" := by decide) (j:(x == ("__debug__" : Af))=false:=by decide)
  (g:StB X e l pos:=by exact {}):PE X (.Call (.Name x p) (e::l) [] pos) (Su r t):=by
 intro c s d H Q I h;refine gB (yJ I J U hv ?_ hn j);exact cY (mV (o pos c s d H _ I h) λq n ⟨u,f,i,m,k⟩=>C c n d f u q Q i m k) g.a g.b
end
end L2
namespace HT
open PySem PyProof.Rows
section
theorem cat_tup (J:IsTup s.heap t j.toArray) (I:IsTup s.heap b g.toArray) (o:j≠[])
  (r:g=[]->Q (.ref t) s) (C:g≠[]->Q (.ref s.heap.objs.size) { s with heap:=s.heap.push { cls:=.type "tuple",data:=.seq (j++g).toArray } })
  (l:j.length+g.length<=sizeLine):wpAny (model p w) A (binaryOp .Add (.ref t) (.ref b)) Q E s:=by
 obtain⟨⟨cls,m,data,sl⟩,i,q,n,hd⟩:=id J;obtain⟨⟨k,c,data2,h⟩,a,d,u,f⟩:=id I;simp only at q hd d f;subst q hd d f;have e:j.toArray++g.toArray=(j++g).toArray:=by simp
 by_cases hw:g=[]
 .exact concat_meets ⟨_,i,rfl⟩ ⟨_,a,rfl⟩ noFill_tuple_add seq_tuple_add jN jH (iZ _ _)
   (tuple_addW1 t b j.toArray g.toArray n u m c sl h (by simpa using o) (by simp[hw])) ⟨i,a,r hw⟩
 .refine concat_meets ⟨_,i,rfl⟩ ⟨_,a,rfl⟩ noFill_tuple_add seq_tuple_add jN jH (iZ _ _)
   (tuple_addW2 t b j.toArray g.toArray n u m c sl h (by simpa using o) (by simpa using hw) (by rw[aY,aY];exact l)) ⟨i,a,?_⟩
  rw[e];exact C hw
noncomputable def sIx (n d:Nat):Ab Int->Nat
 | none=>d
 | some v=>if v<0 then (v+(n:Int)).toNat else min v.toNat n
theorem sIx_none (n d:Nat):sIx n d none=d:=rfl
theorem sIx_nat (n d k:Nat):sIx n d (some (k:Int))=min k n:=by
 show (if (k:Int)<0 then ((k:Int)+(n:Int)).toNat else min (k:Int).toNat n)=min k n;rw[aJ (by omega),bT]
theorem sIx_le (n d:Nat) (hd:d<=n) (o:Ab Int):sIx n d o<=n:=by
 cases o with
 | none=>exact hd
 | some v =>
  show (if v<0 then (v+(n:Int)).toNat else min v.toNat n)<=n;by_cases a:v<0
  .rw[aO a];omega
  .rw[aJ a];exact Nat.min_le_right _ _
theorem Vd (v:Int) (n d:Nat):(if v<0 then max (v+(n:Int)) 0 else min v (n:Int))=((sIx n d (some v):Nat):Int):=by
 show (if v<0 then max (v+(n:Int)) 0 else min v (n:Int))=(((if v<0 then (v+(n:Int)).toNat else min v.toNat n):Nat):Int);by_cases a:v<0
 .simp only[aO a];omega
 .simp only[aJ a];omega
theorem AO (lo g:Ab Int) (n:Nat):Builtin.Slice.sliceAdjust lo g 1 (n:Int)=(((sIx n 0 lo:Nat):Int),((sIx n n g:Nat):Int)):=by
 have a:¬ ((1:Int)<0):=by omega
 unfold Builtin.Slice.sliceAdjust;simp only[a,gC];refine Prod.ext ?_ ?_
 .cases lo with
  | none=>rfl
  | some v=>exact Vd v n 0
 .cases g with
  | none=>rfl
  | some v=>exact Vd v n n
theorem MZ (i j:Nat):Builtin.Slice.slicePlaces (i:Int) (j:Int) 1=j-i:=by
 unfold Builtin.Slice.slicePlaces;have a:(1:Int)>0:=by omega
 simp only[a,gR,Int.ediv_one];split<;>omega
theorem Rp (p:IsPart v o) (h:Q o s):wpAny (model g w) A (Builtin.Slice.slicePartIndex v) Q E s:=by
 cases p with
 | none=>exact slicePart_none h
 | int i t=>exact slicePart_int h
theorem NM {sl:Ad}{j l:Ac}{lo g:Ab Int}{n:Nat}{Q:Int×Int×Nat->Ae->Prop}(p:s.heap.IsSliceOf sl j l .none) (r:IsPart j lo) (C:IsPart l g)
  (h:Q (((sIx n 0 lo:Nat):Int),1,sIx n n g-sIx n 0 lo) s):wpAny (model o w) A (Builtin.Slice.sliceApplied (.ref sl) (pure (n:Int))) Q E s:=by
 obtain⟨os,b,c,a⟩:=id p;unfold Builtin.Slice.sliceApplied Builtin.Slice.sliceFields;refine aB (aB (eO b a (x:=j) rfl (aB (eO b a (x:=l) rfl (aB (eO b a (x:=.none) rfl (aI ?_)))))));refine aB (slicePart_none ?_);show wpAny _ _ (if ((1:Int) == 0)=true then _ else _) _ _ s;rw[aJ (by decide)];refine aB (Rp r (aB (Rp C (aB (aI ?_)))));show wpAny _ _ (match Builtin.Slice.sliceAdjust lo g 1 (n:Int) with | (lo,g)=>pure (lo,(1:Int),Builtin.Slice.slicePlaces lo g 1)) _ _ s;rw[AO lo g n];show wpAny _ _ (pure (((sIx n 0 lo:Nat):Int),(1:Int),Builtin.Slice.slicePlaces ((sIx n 0 lo:Nat):Int) ((sIx n n g:Nat):Int) 1)) _ _ s;rw[MZ];exact aI h
theorem Zm (g:Array Ac) (i k:Nat):((List.range k).filterMap λ(m:Nat)=>g[((i:Int)+(m:Int)*1).toNat]?).toArray=((g.toList.drop i).take k).toArray:=by
 have e:(λ(m:Nat)=>g[((i:Int)+(m:Int)*1).toNat]?)=λm=>g[i+m]?:=by
  funext m
  have:((i:Int)+(m:Int)*1).toNat=i+m:=by omega
  rw[this]
 rw[e];have:=pick_run g i k;rw[List.filterMap_map] at this;have a:((λx=>g[x]?)∘λx=>i+x)=λm=>g[i+m]?:=rfl
 rw[a] at this;rw[this]
theorem getItem_tuple_cut {sl:Ad}{lo:Ab Int}(j:IsTup s.heap t items) (l:s.heap.IsSliceOf sl I J .none) (r:IsPart I lo) (C:IsPart J g)
  (hw:¬ (sIx items.size 0 lo=0/\sIx items.size items.size g=items.size))
  (h:Q (.ref s.heap.objs.size) { s with heap:=s.heap.push { cls:=.type "tuple",data:=.seq ((items.toList.drop (sIx items.size 0 lo)).take (sIx items.size items.size g-sIx items.size 0 lo)).toArray } })
  (p:items.size<=sizeLine):wpAny (model o w) A (getItem (.ref t) (.ref sl)) Q E s:=by
 have a:sizeOk (.seq ((items.toList.drop (sIx items.size 0 lo)).take (sIx items.size items.size g-sIx items.size 0 lo)).toArray):=by
  show ((items.toList.drop (sIx items.size 0 lo)).take (sIx items.size items.size g-sIx items.size 0 lo)).toArray.size<=sizeLine;rw[aY,bU,eK,eL];omega
 have i:sIx items.size items.size g<=items.size:=sIx_le _ _ (aU _) g;obtain⟨os,e,c,f⟩:=id l;have b:s.TypeIs (.ref sl) "slice" := ⟨os,e,c⟩;unfold getItem
 try with_reducible refine cD ?_
 first | refine aB (aI ?_) | skip
 refine aB (wpAny_sequenceKey j.typeIs (by decide) ?_);refine aB (cM (name:=Str.ofString "__getitem__") j.typeIs gY (dL gY j.typeIs entry_tuple_getitem ?_ (args_tuple_getitem _ _)));show wpAny _ _ (Builtin.Tuple.tupleItemsOf (.ref t) >>= _) _ _ s;refine aB (tupleItemsOf_ j ?_);refine aB (fH b ?_);rw[aO (by decide)];refine aB (NM l r C ?_);have d:¬ ((((sIx items.size 0 lo:Nat):Int) == 0&&(1:Int) == 1&&(sIx items.size items.size g-sIx items.size 0 lo) == items.size)=true):=by
  intro q;rw[cJ,cJ] at q;have k:((sIx items.size 0 lo:Nat):Int)=0:=eq_of_beq q.1.1;have n:sIx items.size items.size g-sIx items.size 0 lo=items.size:=eq_of_beq q.2;exact hw ⟨by omega,by omega⟩
 show wpAny _ _ (if (((sIx items.size 0 lo:Nat):Int) == 0&&(1:Int) == 1&&(sIx items.size items.size g-sIx items.size 0 lo) == items.size)=true then _ else _) _ _ s;rw[aJ d,Zm]
 first
  | exact aB (m:=Builtin.Tuple.tupleExact _) (fC (aI ⟨_,rfl,aI h⟩) a)
  | exact aB (m:=Builtin.Tuple.tupleExact _) (fC (aB (aI (aI ⟨_,rfl,aI h⟩))) a)
  | exact aB (aB (m:=Builtin.Tuple.tupleExact _) (fC (aI (aI ⟨_,rfl,aI h⟩)) a))
  | exact aB (aB (m:=Builtin.Tuple.tupleExact _) (fC (aI ⟨_,rfl,aI h⟩) a))
end
end HT
namespace L2
open PySem PySem.Spec PyProof.Rows
abbrev TO:=St->Hp->(Ab Int->Hp->Prop)->Prop
def PO (X:Cx) (e:Ab Expr) (t:TO):Prop :=
 ∀ (a:Aa (Ad×Obj)) (s:Ae) (b:St) (H:Hp) (Q:Ab Int->Hp->Prop),Inv X a b H s->t b H Q ->
  wpAny (model X.prog X.w) X.A (evalPart e X.env) (λu d=>∃ o c,Inv X a b c d/\IsPart u o/\Q o c) X.xe s
def Um:TO:=λ_ H Q=>Q none H
def Tj (t:TE):TO:=λb H Q=>t b H λx a=>∃ i,x = .int i/\Q (some i) a
section
variable {X:Cx}{lo:Ab Expr}
theorem Dt:PO X none Um:=by
 intro a s b H Q I h;rw[evalPart_none];exact aI ⟨none,H,I,.none,h⟩
theorem E3 (h:PE X e g):PO X (some e) (Tj g):=by
 intro a s m H Q I hw;rw[evalPart_some];refine mV (h a s m H _ I hw) λu n b=>?_
 obtain⟨x,c,d,k,f⟩:=b;obtain⟨i,rfl,q⟩:=f;obtain⟨t,rfl⟩:=k;exact⟨some i,c,d,.int i t,q⟩
def xI (X:Cx) (r:V->Ab Int->Ab Int->Hp->VK->Prop):Prop :=
 ∀ (a:Aa (Ad×Obj)) (s:Ae) (e:St) (H:Hp) (x:V) (v c d:Ac) (lo b:Ab Int) (sl:Ad) (Q:VK),Inv X a e H s->nC x v->s.heap.IsSliceOf sl c d .none->IsPart c lo->IsPart d b->r x lo b H Q ->
  ∃ T id,typeLookup (.type T) "__getitem__" = pure (some (.builtin id))/\s.TypeIs v T/\wpAny (model X.prog X.w) X.A (getItem v (.ref sl)) (EP X a e Q) X.xe s
theorem xI.or (h:xI X r) (j:xI X l):xI X (λx lo g H Q=>r x lo g H Q\/l x lo g H Q):=by
 intro a s k H x v f i lo g sl Q I e b c d q;rcases q with q | q
 .exact h a s k H x v f i lo g sl Q I e b c d q
 .exact j a s k H x v f i lo g sl Q I e b c d q
def EW (r:V->Ab Int->Ab Int->Hp->VK->Prop) (g:TE) (j th:TO):TE:=λa H Q=>g a H λx b=>j a b λl c=>th a c λu d=>r x l u d Q
theorem Fa (p:xI X r) (j:PE X e U) (o:PO X lo tl) (C:PO X g th):PE X (.Subscript e (.Slice lo g none J) pos) (EW r U tl th):=by
 intro a s f H Q I h;refine Subscript_ (mV (j a s f H _ I h) λv R d=>?_);obtain⟨x,n,y,P,M⟩:=d;refine wpAny_Slice (mV (o a R f n _ y M) λi S ⟨l,t,z,K,N⟩=>mV (C a S f t _ z N) λk c d=>?_);obtain⟨u,m,B,L,O⟩:=d;rw[evalPart_none];refine aI ?_;have D:Inv X a f m { c with heap:=c.heap.push { cls:=.type "slice",data:=.fields #[i,k,.none] } }:=B.kept (t':=c.toks) λb V q=>aG _ q
 obtain⟨T,id,E,G,F⟩:=p a { c with heap:=c.heap.push { cls:=.type "slice",data:=.fields #[i,k,.none] } } f m x v i k l u c.heap.objs.size Q D P (Heap.IsSliceOf.new ..) K L O;show wpAny (model X.prog X.w) X.A (subscriptTail e (.Slice lo g none J) v (.ref c.heap.objs.size)) (EP X a f Q) X.xe { c with heap:=c.heap.push { cls:=.type "slice",data:=.fields #[i,k,.none] } };exact tail_any (ops:=[.ref c.heap.objs.size,v]) G E F (by with_unfolding_all rfl)
def wW (g:Aa V) (lo j:Ab Int):Aa V:=(g.drop (HT.sIx g.length 0 lo)).take (HT.sIx g.length g.length j-HT.sIx g.length 0 lo)
theorem Ug (g:Aa V) (lo j:Ab Int):(wW g lo j).length<=g.length:=by
 unfold wW;rw[bU,eK];omega
def Vl (K:mI):V->Ab Int->Ab Int->Hp->VK->Prop:=λx lo c H Q=>∃ a b,x = .ref a/\nP K H a b /\
 ¬ (HT.sIx b.length 0 lo=0/\HT.sIx b.length b.length c=b.length)/\∀ p,H p=none->Q (.ref p) (upd H p (.t (wW b lo c)))
theorem RG:xI X (Vl X.K):=by
 intro m s E H x v B D lo e sl Q I z n w y h;obtain⟨a,d,rfl,u,hw,q⟩:=h;cases z;obtain⟨f,r,i,k⟩:=I.tuple u;have c:f.toArray.size=d.length:=by rw[aY];exact r.length.symm
 refine⟨"tuple",_,gY.lookup,i.typeIs,?_⟩;refine HT.getItem_tuple_cut i n w y (by rw[c];exact hw) ?_ (by rw[c];exact k);rw[c];refine⟨.ref s.heap.objs.size,_,I.laid (t':=s.toks) (o:=.t (wW d lo e)) (λb A q=>aG _ q) (aU _) ?_,rfl,q _ (I.hok.fresh (aU _))⟩;exact⟨bX (Ug d lo e) k,_,(r.drop (HT.sIx d.length 0 lo)).take (HT.sIx d.length d.length e-HT.sIx d.length 0 lo),yI.new _ _⟩
def T7 (K:mI):R2:=λx y H Q=>∃ a b d c,x = .ref a/\y = .ref b/\nP K H a d/\nP K H b c/\d≠[]/\d.length+c.length<=sizeLine /\
 (c=[]->Q (.ref a) H)/\(c≠[]->∀ p,H p=none->Q (.ref p) (upd H p (.t (d++c))))
theorem mY.nil_iff (r:mY j g):g=[]↔j=[]:=by
 cases r with
 | nil=>simp
 | cons _ _=>simp
theorem ET:nJ X (binaryOp .Add) (T7 X.K):=by
 intro i s P H x y v u Q I G L h;obtain⟨a,b,M,N,rfl,rfl,k,m,n,e,E,F⟩:=h;cases G;cases L;obtain⟨A,d,B,_⟩:=I.tuple k;obtain⟨f,c,D,_⟩:=I.tuple m;refine HT.cat_tup B D (λz=>n (d.nil_iff.mp z)) (λz=>⟨.ref a,H,I,rfl,E (c.nil_iff.mp z)⟩) (λz=>?_) (by rw[<- d.length,<- c.length];exact e);refine⟨.ref s.heap.objs.size,_,I.laid (t':=s.toks) (o:=.t (M++N)) (λb O q=>aG _ q) (aU _) ?_,rfl,F (λw=>z (c.nil_iff.mpr w)) _ (I.hok.fresh (aU _))⟩;exact⟨by rw[bH];exact e,_,d.append c,yI.new _ _⟩
end
noncomputable def uE (n:Nat) (i:Int):Ab Nat:=if 0<=i then (if i<n then some i.toNat else none) else if -(n:Int)<=i then some (i+n).toNat else none
def oQ {l:Type}(g:Aa l) (i:Int):Ab l:=(uE g.length i).bind λj=>g[j]?
theorem Wg (h:uE n i=some j):seqIndex? i n=some j/\j<n/\-(n:Int)<=i/\i<n:=by
 unfold uE at h;by_cases b:0<=i
 .rw[aO b] at h;by_cases a:i<n
  .rw[aO a] at h;have e:i.toNat=j:=bK h;exact⟨by rw[seqIndex_of b a,e],by omega,by omega,a⟩
  .rw[aJ a] at h;cases h
 .rw[aJ b] at h;by_cases a:-(n:Int)<=i
  .rw[aO a] at h;have e:(i+n).toNat=j:=bK h;exact⟨by rw[seqIndex_neg (by omega) a,e],by omega,a,by omega⟩
  .rw[aJ a] at h;cases h
theorem No (h:oQ g i=some v):∃ j,seqIndex? i g.length=some j/\g[j]?=some v/\j<g.length/\-(g.length:Int)<=i/\i<g.length:=by
 unfold oQ at h;cases e:uE g.length i with
 | none=>rw[e] at h;cases h
 | some j =>
  rw[e] at h;obtain⟨a,b,c,d⟩:=Wg e;exact⟨j,a,h,b,c,d⟩
theorem qT {l:Type}{g:Aa l}{j:Nat}{v:l}(h:g[j]?=some v):oQ g (j:Int)=some v:=by
 have a:j<g.length:=(aL.mp h).1;have e:uE g.length (j:Int)=some j:=by
  unfold uE;rw[aO (by omega),aO (by omega)];simp
 unfold oQ;rw[e];exact h
def Np (b:Expr):Prop:=∀ o i,subscripted b false o i=operate [o,i] (getItem o i)
def wV (X:Cx) (r:R2):Prop :=
 ∀ (value slice:Expr) (a:Aa (Ad×Obj)) (s:Ae) (b:St) (H:Hp) (x y:V) (v u:Ac) (Q:VK),Inv X a b H s->nC x v->nC y u->r x y H Q ->
  subscripted slice false v u=operate [v,u] (getItem v u)->wpAny (model X.prog X.w) X.A (subscriptTail value slice v u) (EP X a b Q) X.xe s
def xT (X:Cx) (id:String) (r:V->Aa V->Hp->VK->Prop):Prop :=
 ∀ (a:Aa (Ad×Obj)) (s:Ae) (d:St) (H:Hp) (x:V) (c:Aa V) (v:Ac) (b:Aa Ac) (Q:VK),Inv X a d H s->nC x v->mY c b->r x c H Q ->
  wpAny (model X.prog X.w) X.A (call (.builtin id) (v::b)) (EP X a d Q) X.xe s
section
variable {X:Cx}
theorem wV.or (h:wV X r) (g:wV X j):wV X (λx y H Q=>r x y H Q\/j x y H Q):=by
 intro value slice a s e H x y v u Q I c d q b;rcases q with q | q
 .exact h value slice a s e H x y v u Q I c d q b
 .exact g value slice a s e H x y v u Q I c d q b
theorem qQ {r:R2}(l:wV X r) (g:PE X a p) (j:PE X b C) (o:Np b):PE X (.Subscript a b pos) (Bg r p C):=by
 intro c s m H Q I h;exact Subscript_ (Nu g j I h λv u k x y d e f i q=>l a b c k m d x y v u Q e f i q (o _ _))
def Hh (K:mI):R2:=λx y H Q=>∃ p a i v,x = .ref p/\y = .int i/\mL K H p a/\oQ a i=some v/\Q v H
def N7 (K:mI):R2:=λx y H Q=>∃ p a i v,x = .ref p/\y = .int i/\nP K H p a/\oQ a i=some v/\Q v H
def V9:R2:=λx y H Q=>∃ z i c,x = .str z/\y = .int i/\z.length<=sizeLine/\oQ z.cps.toList i=some c/\Q (.str ⟨#[c]⟩) H
theorem sS:wV X (Hh X.K):=by
 intro value slice a s A H x y v u Q I M N h n;obtain⟨p,V,i,z,rfl,rfl,L,F,q⟩:=h;cases M;obtain⟨t,rfl⟩:=N;obtain⟨d,r,e,S⟩:=I.list L;obtain⟨j,b,B,P,D,E⟩:=No F;obtain⟨w,k,f⟩:=r.get B;have G:=r.length;have R:=Bi;have fin:EP X a A Q w s:=⟨z,H,I,f,q⟩;by_cases m:0<=i
 .have c:i.toNat=j:=by
   rw[seqIndex_of m E] at b;exact bK b
  exact item_listR e.isList m (by omega) (by rw[c];simpa using k) fin n
 .have c:(i+(d.toArray.size:Int)).toNat=j:=by
   rw[seqIndex_neg (by omega) D] at b;rw[aY,<- G];exact bK b
  exact subscriptTail_builtinR (x:=w) e.isList.typeIs slot_list_getitem.lookup
   (wpAny_getItem_list_neg (Q:=λr O=>r=w/\EP X a A Q r O) e.isList (by omega) (by rw[aY]<;>omega) (by omega) (by rw[c];simpa using k) ⟨rfl,fin⟩) n
theorem Tk:wV X (N7 X.K):=by
 intro value slice a s d H x y v u Q I E F h B;obtain⟨p,R,i,z,rfl,rfl,A,m,q⟩:=h;cases E;obtain⟨t,rfl⟩:=F;obtain⟨D,r,c,P⟩:=I.tuple A;obtain⟨j,f,k,L,M,N⟩:=No m;obtain⟨w,e,b⟩:=r.get k;have n:=r.length;have O:=Bi;have fin:EP X a d Q w s:=⟨z,H,I,b,q⟩;exact subscriptTail_builtinR (x:=w) c.typeIs slot_tuple_getitem.lookup
  (getItem_tuple (j:=j) (Q:=λr G=>r=w/\EP X a d Q r G) c (by omega) (by omega) (by rw[aY,<- n];exact f) (by simpa using e) ⟨rfl,fin⟩) B
theorem I0:wV X V9:=by
 intro value slice b s L H x y v u Q I B D h A;obtain⟨z,i,c,rfl,rfl,G,n,q⟩:=h;obtain⟨t,rfl⟩:=B;obtain⟨K,rfl⟩:=D;obtain⟨j,a,f,E,k,m⟩:=No n;have w:z.cps.toList.length=z.length:=by simp[Str.length]
 rw[w] at a k m;have F:=Bi;exact tail_any (lA s z t) slot_str_getitem.lookup (getItem_str (c:=c) (by
  have d:decide (i < -(2 ^ 63:Int))=false:=bG (by omega);have e:decide (i>=2 ^ 63)=false:=bG (by omega);rw[d,e,Bool.or_false]) (by rw[a];simpa using f) ⟨.str ⟨#[c]⟩,H,I.tok _,⟨_,rfl⟩,q⟩) A
def Ws (K:mI):R2:=λx y H Q=>Hh K x y H Q\/N7 K x y H Q\/V9 x y H Q
theorem Zt:wV X (Ws X.K):=sS.or (Tk.or I0)
theorem HK (g:Aa Ac) (n j:Nat) (u:Ac):Obj.mapSeq (·.setIfInBounds j u) { cls:=.type "list",data:=.seq g.toArray n }={ cls:=.type "list",data:=.seq (g.set j u).toArray n }:=by
 simp[Obj.mapSeq]
theorem Inv.lst {j:Aa (Ad×Obj)}{C:St}{H:Hp}{s:Ae}{p:Ad}{o:Aa V}(I:Inv X j C H s) (h:H p=some (.l o)) :
  ∃ (g:Aa Ac) (n:Nat),mY o g/\s.heap.get? p=some { cls:=.type "list",data:=.seq g.toArray n }/\o.length<=sizeLine:=by
 obtain⟨z,g,n,r,e⟩:=I.hok p _ h;exact⟨g,n,r,e,z⟩
theorem Inv.lstUpd {j:Aa Ac}(I:Inv X o σ H s) (h:H p=some (.l xs))
  (U:s.heap.get? p=some { cls:=.type "list",data:=.seq j.toArray n }) (C:f { cls:=.type "list",data:=.seq j.toArray n }={ cls:=.type "list",data:=.seq g.toArray J }) (r:mY T g) (hz:T.length<=sizeLine) (t:Nat) :
  Inv X o σ (upd H p (.l T)) { s with heap:=s.heap.update p f,toks:=t }:=by
 have e:(s.heap.update p f).get? p=some { cls:=.type "list",data:=.seq g.toArray J }:=by
  rw[jV f U (by rw[C]<;>rfl),C]
 refine I.write (x:=p) (e:=p) (by rw[h];trivial) (.inl rfl) (λb u a q=>(Heap.get?_update_other _ _ (eJ a)).trans q) ⟨_,e⟩ ?_;exact⟨hz,g,J,r,e⟩
def Ub:V->V->V->Hp->(Hp->Prop)->Prop:=λo i v H Q=>∃ p a k j,o = .ref p/\i = .int k/\H p=some (.l a)/\uE a.length k=some j/\Q (upd H p (.l (a.set j v)))
theorem Fw:L7 X Ub:=by
 intro b s K H o i v O N u Q I E D F h;obtain⟨p,G,k,j,rfl,rfl,z,A,q⟩:=h;cases E;obtain⟨t,rfl⟩:=D;obtain⟨a,n,r,f,B⟩:=I.lst z;obtain⟨c,L,x,y⟩:=Wg A;have e:=r.length;have M:=Bi;have m:Inv X b K (upd H p (.l (G.set j v))) { s with heap:=s.heap.update p (Obj.mapSeq (·.setIfInBounds j u)) } :=
  I.lstUpd z f (HK a n j u) (r.set F j) (by rw[bW];exact B) s.toks
 by_cases w:0<=k
 .have d:k.toNat=j:=by
   rw[seqIndex_of w y] at c;exact bK c
  exact PySem.W.ki_setAt f w (by omega) (by rw[aY,<- e];exact y) (by rw[d];exact⟨_,m,q⟩)
 .have d:(k+(a.toArray.size:Int)).toNat=j:=by
   rw[seqIndex_neg (by omega) x] at c;rw[aY,<- e];exact bK c
  exact PySem.W.ki_setBack f (by omega) (by rw[aY,<- e];exact x) (by omega) (by rw[d];exact⟨_,m,q⟩)
theorem DG (lo g:Ab Int) (n:Nat):(sliceBounds lo g none n).1=((HT.sIx n 0 lo:Nat):Int)/\(sliceBounds lo g none n).2.1=((HT.sIx n n g:Nat):Int)/\(sliceBounds lo g none n).2.2=1:=by
 refine⟨?_,?_,rfl⟩
 .cases lo with
  | none=>simp[sliceBounds,HT.sIx]
  | some i =>
   simp only[sliceBounds,HT.sIx,Option.getD_none,show (1:Int)>0 by decide,gR];by_cases h:i<0
   .simp only[h,gR]<;>omega
   .simp only[h,gC]<;>omega
 .cases g with
  | none=>simp[sliceBounds,HT.sIx]
  | some i =>
   simp only[sliceBounds,HT.sIx,Option.getD_none,show (1:Int)>0 by decide,gR];by_cases h:i<0
   .simp only[h,gR]<;>omega
   .simp only[h,gC]<;>omega
theorem BR (g:Aa Ac) (lo j:Ab Int):slicePick g.toArray lo j none=((g.drop (HT.sIx g.length 0 lo)).take (HT.sIx g.length g.length j-HT.sIx g.length 0 lo)).toArray:=by
 obtain⟨a,b,c⟩:=DG lo j g.toArray.size;unfold slicePick;rw[a,b,c];simp only[sliceRange_one,pick_run,aY]<;>rfl
def Sq (K:mI):V->Ab Int->Ab Int->Hp->VK->Prop:=λx lo c H Q=>∃ a b,x = .ref a/\mL K H a b/\∀ p,H p=none->Q (.ref p) (upd H p (.l (wW b lo c)))
theorem Nk:xI X (Sq X.K):=by
 intro i s D H x v A B lo e sl Q I y k u w h;obtain⟨a,c,rfl,m,q⟩:=h;cases y;obtain⟨t,r,f,n⟩:=I.list m;have d:=r.length;refine⟨"list",_,slot_list_getitem.lookup,f.isList.typeIs,?_⟩;refine wpAny_getItem_list_slice f.isList k u w .none (by simp) ?_ (by rw[aY]<;>omega);rw[BR,<- d];refine⟨.ref s.heap.objs.size,_,I.laid (t':=s.toks) (o:=.l (wW c lo e)) (λb z q=>aG _ q) (aU _) ?_,rfl,q _ (I.hok.fresh (aU _))⟩;exact⟨bX (Ug c lo e) n,_,0,(r.drop (HT.sIx c.length 0 lo)).take (HT.sIx c.length c.length e-HT.sIx c.length 0 lo),bA _ rfl⟩
def tT:V->Bool
 | .e=>true
 | .b _=>true
 | .int _=>true
 | .str _=>true
 | _=>false
noncomputable def qI:V->V->Bool
 | .e,.e=>true
 | .b a,.b b=>a == b
 | .b a,.int b=>(if a then 1 else 0) == b
 | .int a,.b b=>a == (if b then 1 else 0)
 | .int a,.int b=>a == b
 | .str a,.str b=>a == b
 | _,_=>false
theorem Xv (l:nC y u) (g:nC x v) (o:tT y=true) (j:tT x=true):SeqAt.EqAt A s u v (qI y x):=by
 cases y with
 | e =>
  cases l;cases x with
  | e=>cases g;exact SeqAt.EqAt.same _
  | b b=>cases g;exact SeqAt.EqAt.none_bool b
  | int b=>obtain⟨t,rfl⟩:=g;exact SeqAt.EqAt.none_int b t
  | str b=>obtain⟨t,rfl⟩:=g;exact SeqAt.EqAt.none_str b t
  | _=>exact absurd (show false=true from j) bC
 | b a =>
  cases l;cases x with
  | e=>cases g;exact SeqAt.EqAt.bool_none a
  | b b=>cases g;exact SeqAt.EqAt.bool_bool a b
  | int b=>obtain⟨t,rfl⟩:=g;exact SeqAt.EqAt.bool_int a b t
  | str b=>obtain⟨t,rfl⟩:=g;exact SeqAt.EqAt.bool_str a b t
  | _=>exact absurd (show false=true from j) bC
 | int a =>
  obtain⟨c,rfl⟩:=l;cases x with
  | e=>cases g;exact SeqAt.EqAt.int_none a c
  | b b=>cases g;exact SeqAt.EqAt.int_bool a c b
  | int b=>obtain⟨t,rfl⟩:=g;exact SeqAt.EqAt.int_int a c b t
  | str b=>obtain⟨t,rfl⟩:=g;exact SeqAt.EqAt.int_str a c b t
  | _=>exact absurd (show false=true from j) bC
 | str a =>
  obtain⟨c,rfl⟩:=l;cases x with
  | e=>cases g;exact SeqAt.EqAt.str_none a c
  | b b=>cases g;exact SeqAt.EqAt.str_bool a c b
  | int b=>obtain⟨t,rfl⟩:=g;exact SeqAt.EqAt.str_int a c b t
  | str b=>obtain⟨t,rfl⟩:=g;exact SeqAt.EqAt.str_str a c b t
  | _=>exact absurd (show false=true from j) bC
 | _=>exact absurd (show false=true from o) bC
def sI (x:V) (u:Ac):Bool:=match u with
 | .none=>qI .e x
 | .bool b=>qI (.b b) x
 | .int i _=>qI (.int i) x
 | .str z _=>qI (.str z) x
 | _=>false
theorem Lx (r:nC y u) (f:tT y=true):sI x u=qI y x:=by
 cases y with
 | e=>cases r;rfl
 | b b=>cases r;rfl
 | int i=>obtain⟨t,rfl⟩:=r;rfl
 | str z=>obtain⟨t,rfl⟩:=r;rfl
 | _=>exact absurd (show false=true from f) bC
theorem Ex:∀ {g:Aa V}{j:Aa Ac},mY g j->g.all tT=true->j.any (sI x)=g.any λy=>qI y x
 | _,_,.nil,_=>rfl
 | y::g,u::j,.cons r t,f=>by
  rw[lO,cJ] at f;rw[eU,eU,Lx r f.1,Ex t f.2]
theorem Cv (o:nC x v) (l:tT x=true):∀ {j:Aa V}{g:Aa Ac},mY j g->j.all tT=true->∀ u∈g,SeqAt.EqAt A s u v (sI x u)
 | _,_,.nil,_=>λu a=>by cases a
 | y::j,u::g,.cons r t,f=>λb a=>by
  rw[lO,cJ] at f;rcases aK.mp a with rfl | a
  .rw[Lx r f.1];exact Xv r o f.1 l
  .exact Cv o l t f.2 b a
def uY (x:V) (g:Aa V):Bool:=g.any λy=>qI y x
def Ft (K:mI) (neg:Bool):R2:=λx y H Q=>∃ p a,y = .ref p/\(mL K H p a\/nP K H p a)/\tT x=true/\a.all tT=true/\Q (.b (if neg then !uY x a else uY x a)) H
theorem Mh:nJ X (compareOp .In) (Ft X.K false):=by
 intro f s t H x y v u Q I i m h;obtain⟨p,n,rfl,c,e,fs,q⟩:=h;cases m;rcases c with c | c
 .obtain⟨a,r,d,k⟩:=I.list c;refine SeqAt.in_listAt (sI x) d.isList (λw hw=>Cv i e r fs w (by simpa using hw)) ⟨.b _,H,I,rfl,?_⟩;rw[show a.toArray.any (sI x)=a.any (sI x) by simp,Ex r fs];exact q
 .obtain⟨a,r,d,k⟩:=I.tuple c;refine SeqAt.in_tupleAt (sI x) d (λw hw=>Cv i e r fs w (by simpa using hw)) ⟨.b _,H,I,rfl,?_⟩;rw[show a.toArray.any (sI x)=a.any (sI x) by simp,Ex r fs];exact q
theorem P8:nJ X (compareOp .NotIn) (Ft X.K true):=by
 intro f s t H x y v u Q I i m h;obtain⟨p,n,rfl,c,e,fs,q⟩:=h;cases m;rcases c with c | c
 .obtain⟨a,r,d,k⟩:=I.list c;refine SeqAt.notIn_listAt (sI x) d.isList (λw hw=>Cv i e r fs w (by simpa using hw)) ⟨.b _,H,I,rfl,?_⟩;rw[show a.toArray.any (sI x)=a.any (sI x) by simp,Ex r fs];exact q
 .obtain⟨a,r,d,k⟩:=I.tuple c;refine SeqAt.notIn_tupleAt (sI x) d (λw hw=>Cv i e r fs w (by simpa using hw)) ⟨.b _,H,I,rfl,?_⟩;rw[show a.toArray.any (sI x)=a.any (sI x) by simp,Ex r fs];exact q
theorem zC:oI X (.builtin "len") (λj H Q=>∃ p g,j=[.ref p]/\(mL X.K H p g\/nP X.K H p g)/\Q (.int g.length) H):=by
 intro f s t H j n Q I r h;obtain⟨p,g,rfl,b,q⟩:=h;obtain⟨u,rfl,k⟩:=rF r;cases k;have m:=Bi;rcases b with b | b
 .obtain⟨c,e,d,i⟩:=I.list b;have a:=e.length;exact Calls.call_len_list d.isList (by simp only[aY]<;>omega) ⟨.int g.length,H,I.tok _,⟨s.toks+1,by rw[aY,a]⟩,q⟩
 .obtain⟨c,e,d,i⟩:=I.tuple b;have a:=e.length;exact len_tuple d (by simp only[aY]<;>omega) ⟨.int g.length,H,I.tok _,⟨s.toks+1,by rw[aY,a]⟩,q⟩
theorem Tu:oI X (.builtin "len") (λg H Q=>∃ z,g=[.str z]/\z.length<=sizeLine/\Q (.int z.length) H):=by
 intro a s e H g d Q I r h;obtain⟨z,rfl,c,q⟩:=h;obtain⟨u,rfl,t,rfl⟩:=rF r;have b:=Bi;exact len_str (by omega) ⟨.int z.length,H,I.tok _,⟨_,rfl⟩,q⟩
theorem oI.or (h:oI X f r) (j:oI X f l):oI X f (λg H Q=>r g H Q\/l g H Q):=by
 intro a s d H g c Q I b q;rcases q with q | q
 .exact h a s d H g c Q I b q
 .exact j a s d H g c Q I b q
theorem Ly:oI X (.type "list") (λj H Q=>∃ p g,j=[.ref p]/\(mL X.K H p g\/nP X.K H p g)/\∀ l,H l=none->Q (.ref l) (upd H l (.l g))):=by
 intro v s D H j E Q I r h;obtain⟨p,g,rfl,k,q⟩:=h;obtain⟨u,rfl,B⟩:=rF r;cases B;have fin:∀ (a:Aa Ac),mY g a->g.length<=sizeLine->∀ (c:Ag) (d:Nat),(∀ b A,s.heap.get? b=some A->c.get? b=some A) ->
   c.get? s.heap.objs.size=some { cls:=.type "list",dict:=none,data:=.seq a.toArray d,slots:=#[] }->EP X v D Q (.ref s.heap.objs.size) { s with heap:=c }:=λa f m c d t e =>
  ⟨.ref s.heap.objs.size,_,I.laid (t':=s.toks) t (aU _) (show oG X.prog X.w _ c _ (.l g) from ⟨m,a,d,f,e⟩),rfl,q _ (I.hok.fresh (aU _))⟩
 rcases k with k | k
 .obtain⟨a,f,z,m⟩:=I.list k;have i:=f.length;obtain⟨o,y,x,n,hd⟩:=z.isList;exact call_list_seq p (.inl rfl) y x hd (λc d t e=>fin a f m c d t e) (by simp only[aY]<;>omega)
 .obtain⟨a,f,z,m⟩:=I.tuple k;have i:=f.length;obtain⟨o,y,x,n,hd⟩:=z;exact call_list_seq p (.inr rfl) y x hd (λc d t e=>fin a f m c d t e) (by simp only[aY]<;>omega)
theorem uR:oI X (.type "tuple") (λj H Q=>∃ p g,j=[.ref p]/\((mL X.K H p g/\∀ l,H l=none->Q (.ref l) (upd H l (.t g)))\/(nP X.K H p g/\Q (.ref p) H))):=by
 intro a s x H j B Q I r h;obtain⟨p,g,rfl,h⟩:=h;obtain⟨u,rfl,A⟩:=rF r;cases A;rcases h with⟨f,q⟩ | ⟨f,q⟩
 .obtain⟨c,k,i,v⟩:=I.list f;have n:=k.length;refine call_tuple_list i.isList (λd z=>?_) (by simp only[aY]<;>omega);have m:Inv X a x H { s with heap:=d }:=I.kept (t':=s.toks) z;have y:Inv X a x (upd H d.objs.size (.t g)) { s with heap:=d.push { cls:=.type "tuple",data:=.seq c.toArray } } :=
   m.laid (t':=s.toks) (λb o e=>aG _ e) (aU _) (show oG X.prog X.w _ _ _ (.t g) from ⟨v,c,k,yI.new _ _⟩)
  exact⟨.ref d.objs.size,_,y,rfl,q _ (m.hok.fresh (aU _))⟩
 .obtain⟨c,k,i,v⟩:=I.tuple f;exact call_tuple_same i ⟨.ref p,H,I,rfl,q⟩
def Gq (K:mI) (T:String) (x:V) (H:Hp):Prop:=match x with
 | .str _=>T = "str"
 | .int _=>T = "int"
 | .ref p=>(T = "list" /\ ∃ b,mL K H p b)\/(T = "tuple" /\ ∃ o,K.lookup p=some o/\o.cls = .type "tuple" /\ o.dict=none) \/
   (T = "dict" /\ ((∃ a,H p=some (.k a))\/∃ a,H p=some (.T a)))\/(T = "set" /\ ∃ S n,H p=some (.set S n))
 | _=>False
theorem BZ (I:Inv X j l H s) (r:nC x v) (ty:Gq X.K T x H) :
  s.TypeIs v T/\∀ a,v = .ref a->∃ g,s.heap.get? a=some g/\g.dict=none:=by
 cases x with
 | str z =>
  obtain⟨t,rfl⟩:=r;cases (show T = "str" from ty);exact⟨lA s z t,λ_ e=>nomatch e⟩
 | int i =>
  obtain⟨t,rfl⟩:=r;cases (show T = "int" from ty);exact⟨typeIs_int s i t,λ_ e=>nomatch e⟩
 | ref p =>
  cases r;rcases ty with⟨rfl,u,m⟩ | ⟨rfl,o,b,k,hd⟩ | ⟨rfl,b⟩ | ⟨rfl,S,n,b⟩
  .obtain⟨q,_,h,_⟩:=I.list m;refine⟨h.isList.typeIs,λa e=>?_⟩;cases e;obtain⟨o,n,e,c,hd,_⟩:=h;exact⟨o,e,hd⟩
  .refine⟨⟨o,I.kIn p o b,k⟩,λa e=>?_⟩;cases e;exact⟨o,I.kIn _ o b,hd⟩
  .have z:∃ o,s.heap.get? p=some o/\o.ExactDict:=by
    rcases b with⟨f,b⟩ | ⟨f,b⟩
    .obtain⟨_,_,_,_,o,_,_,e,ex,_⟩:=I.hok p _ b;exact⟨o,e,ex⟩
    .obtain⟨_,_,_,_,o,_,_,e,ex,_⟩:=I.hok p _ b;exact⟨o,e,ex⟩
   obtain⟨o,e,ex⟩:=z;refine⟨⟨o,e,ex.1⟩,λa d=>?_⟩;cases d;exact⟨o,e,ex.2.1⟩
  .obtain⟨o,_,_,_,e,ex,_⟩:=I.hok p _ b;refine⟨⟨o,e,ex.1⟩,λa d=>?_⟩;cases d;exact⟨o,e,ex.2.1⟩
 | _=>exact False.elim ty
def K7 (K:mI) (T:String) (r:V->Aa V->Hp->VK->Prop) (g:TE) (t:TA):TE:=λb H Q=>g b H λx a=>Gq K T x a/\t b a λd c=>r x d c Q
variable {id:String}
structure MtB (X:Cx) (o:Expr) (name:Str) (apos:Pos) (e:Expr) (es:List Expr) (cpos:Pos):Prop extends StB X e es cpos where
 c:attributeBase o name X.env (eval o X.env)=eval o X.env:=by rfl
 d:((backTo cpos (starEach (e::es) X.env)).all (λx=>!x.1)&&(backToKw cpos (keywordEach [] X.env)).all (λx=>x.1.isSome)&&decide ((e::es).length+([]:List Keyword).length+(if ([]:List Keyword).isEmpty then 0 else 1)<30))=true:=by rfl
 f:(apos.endLine == cpos.line)=true:=by rfl
theorem zE (pa:PlainAttrs T) (slot:Slot T name id) (p:typeOf (.builtin id)=pure (.type "method_descriptor")) (J:xT X id r) (U:PE X o to) (C:PA X (e::l) t)
  (j:MtB X o name apos e l g:=by exact {}) :
  PE X (.Call (.Attribute o name apos) (e::l) [] g) (K7 X.K T r to t):=by
 intro i s m H Q I h;refine wpAny_Call_method_late j.c j.d j.f rfl (mV (U i s m H _ I h) λv G k=>?_);obtain⟨x,w,n,u,ty,D⟩:=k;obtain⟨A,B⟩:=BZ n u ty;refine⟨T,id,pa,slot,p,A,B,?_⟩;have q:=C g i G m w _ n D;rw[j.a] at q |-;refine Calls.callWith_builtin (by show (false||(backTo g (starEach l X.env)).any (·.1))=false;rw[j.b]<;>rfl) (Calls.evalArgs_plain ?_);exact mV q λM L ⟨N,y,z,F,E⟩=>J i L m y x N v M Q z u F E
/- xs.append(e),list.index on a module's tuple .. are xT facts of 06m -/
end
def Qv (X:Cx) (id:String) (r:V->Aa V->Hp->VK->Prop):Prop :=
 ∀ (a:Aa (Ad×Obj)) (s:Ae) (d:St) (H:Hp) (x:V) (c:Aa V) (v:Ac) (b:Aa Ac) (Q:VK),Inv X a d H s->nC x v->mY c b->r x c H Q ->
  wpAny (model X.prog X.w) X.A (call (.builtin id) (v::b)) (EP X a d Q) X.xe s
theorem mY.one:∀ {x:V}{g:Aa Ac},mY [x] g->∃ u,g=[u]/\nC x u
 | _,_,.cons r .nil=>⟨_,rfl,r⟩
theorem mY.eraseIdx:∀ {j:Aa V}{g:Aa Ac}(i:Nat),mY j g->mY (j.eraseIdx i) (g.eraseIdx i)
 | _,_,_,.nil=>.nil
 | _,_,0,.cons _ t=>t
 | _,_,i+1,.cons r t=>.cons r (mY.eraseIdx i t)
theorem mY.reverse (h:mY j g):mY j.reverse g.reverse:=by
 induction h with
 | nil=>exact .nil
 | cons r t a=>rw[jO,jO];exact mY.append a (.cons r .nil)
theorem mY.rep (h:mY j g):∀ k:Nat,mY (List.replicate k j).flatten (List.replicate k g).flatten
 | 0=>.nil
 | k+1=>by
  rw[dB,dB,gS,gS];exact mY.append h (mY.rep h k)
theorem Qm:∀ (l:Aa g) (i:Nat),(l.eraseIdx i).length<=l.length
 | [],_=>aU _
 | _::_,0=>iL _
 | _::r,i+1=>Nat.succ_le_succ (Qm r i)
theorem Uw (j:Aa Ac):∀ (k:Nat) (g:Aa Ac),
  List.foldl (λl o=>l++o) g.toArray (List.replicate k j.toArray)=(g++(List.replicate k j).flatten).toArray
 | 0,g=>by simp
 | k+1,g=>by
  have e:g.toArray++j.toArray=(g++j).toArray:=by simp
  have a:(g++j)++(List.replicate k j).flatten=g++(List.replicate (k+1) j).flatten:=by
   rw[dB,gS,bP]
  rw[<- a,<- Uw j k (g++j),<- e,dB,jC]
section
variable {X:Cx}
theorem Inv.lset {g:Aa Ac}(I:Inv X j T H s) (p:H l=some (.l xs))
  (e:s.heap.get? l=some { cls:=.type "list",data:=.seq g.toArray n }) (r:f g.toArray=its'.toArray) (C:mY o its') (J:o.length<=sizeLine) :
  Inv X j T (upd H l (.l o)) { s with heap:=s.heap.update l (Obj.mapSeq f),toks:=U }:=by
 have q:=PySem.IsL.update e f;rw[r] at q;refine I.write (x:=l) (e:=l) (by rw[p];exact trivial) (.inl rfl) (λc u a b=>(Heap.get?_update_other s.heap (Obj.mapSeq f) (eJ a)).trans b) ⟨_,q⟩ ?_;exact⟨J,its',_,C,q⟩
theorem Inv.lnew (I:Inv X g p H s) (j:mY ys its) (o:ys.length<=sizeLine) :
  Inv X g p (upd H s.heap.objs.size (.l ys)) { s with heap:=s.heap.push { cls:=.type "list",data:=.seq its.toArray },toks:=t' } :=
 I.laid (λ_ _ q=>aG _ q) (aU _) ⟨o,its,0,j,bA _ rfl⟩
theorem Inv.fresh (I:Inv X g j H s):H s.heap.objs.size=none:=I.hok.fresh (aU _)
theorem Inv.lstM (I:Inv X o C H s) (p:H l=some (.l j)):j.length<=sizeLine/\∃ (g:Aa Ac) (n:Nat),mY j g/\j.length=g.length/\s.heap.get? l=some { cls:=.type "list",data:=.seq g.toArray n }:=by
 obtain⟨z,g,n,r,e⟩:=I.hok l _ p;exact⟨z,g,n,r,r.length,e⟩
theorem Zb (h:n<=sizeLine):Builtin.List.listTooLong n=false:=by
 unfold Builtin.List.listTooLong;exact bG (by omega)
end
section
variable {X:Cx}
def Nc:V->Aa V->Hp->VK->Prop:=λx b H Q=>∃ l a y,x = .ref l/\b=[y]/\H l=some (.l a)/\a.length<sizeLine/\Q .e (upd H l (.l (a++[y])))
theorem sK:Qv X "list.append" Nc:=by
 intro c s B H x w v t Q I i f h;obtain⟨l,A,y,rfl,rfl,b,m,q⟩:=h;cases i;obtain⟨u,rfl,d⟩:=f.one;obtain⟨z,a,n,r,k,e⟩:=I.lstM b;refine iA F.slot_list_append ⟨_,e,rfl⟩ F.entry_list_append (F.args_list_append_2 _ _) (PySem.list_append l a.toArray n u (by rw[aY];omega)) ⟨e,?_⟩;refine⟨.e,_,I.lset (its':=a++[u]) b e (by simp) (r.append (.cons d .nil)) ?_,rfl,q⟩;rw[bH,eQ];omega
def TK:V->Aa V->Hp->VK->Prop:=λx d H Q=>∃ l b a c,x = .ref l/\d=[.ref b]/\H l=some (.l a)/\H b=some (.l c)/\a.length+c.length<=sizeLine/\Q .e (upd H l (.l (a++c)))
def Pz:V->Aa V->Hp->VK->Prop:=λx b H Q=>∃ l a i k y,x = .ref l/\b=[.int i]/\H l=some (.l a)/\-(2 ^ 63)<=i/\i<2 ^ 63/\seqIndex? i a.length=some k/\a[k]?=some y/\Q y (upd H l (.l (a.eraseIdx k)))
theorem Fo:Qv X "list.pop" Pz:=by
 intro d s O H x N v M Q I K G h;obtain⟨l,L,i,k,y,rfl,rfl,c,f,m,A,D,q⟩:=h;cases K;obtain⟨u,rfl,E⟩:=G.one;obtain⟨t,rfl⟩:=E;obtain⟨z,a,n,r,B,e⟩:=I.lstM c;obtain⟨w,hw,b⟩:=r.get D;refine iA F.slot_list_pop ⟨_,e,rfl⟩ F.entry_list_pop (F.args_list_pop_2 _ _)
  (MeetsSeq.list_pop_at l a.toArray n i t k w (fitsIndex_both f m) (by rw[aY,<- B];exact A) (by rw[<- cZ];exact hw) (by rw[aY];omega)) ⟨e,?_⟩
 refine⟨y,_,I.lset (its':=a.eraseIdx k) c e ?_ (r.eraseIdx k) ?_,b,q⟩
 .show a.toArray.eraseIdxIfInBounds k=(a.eraseIdx k).toArray;rw[List.eraseIdxIfInBounds_toArray]
 .have:=Qm L k;omega
def Pj:R2:=λx y H Q=>∃ l b a c,x = .ref l/\y = .ref b/\H l=some (.l a)/\H b=some (.l c)/\a.length+c.length<=sizeLine/\∀ p,H p=none->Q (.ref p) (upd H p (.l (a++c)))
theorem E1:nJ X (binaryOp .Add) Pj:=by
 intro d s M H x y v u Q I A B h;obtain⟨l,b,G,L,rfl,rfl,m,k,E,q⟩:=h;cases A;cases B;obtain⟨z,c,n,r,D,e⟩:=I.lstM m;obtain⟨K,a,F,w,t,f⟩:=I.lstM k;refine PySem.P.add_list e f ?_ (by rw[aY,aY];omega);have i:c.toArray++a.toArray=(c++a).toArray:=by simp
 rw[i];exact⟨.ref _,_,I.lnew (t':=s.toks) (r.append w) (by rw[bH];omega),rfl,q _ I.fresh⟩
def Q9:R2:=λx y H Q=>∃ l k a,x = .ref l/\y = .int k/\H l=some (.l a)/\-(2 ^ 63)<=k/\k<2 ^ 63/\a.length*k.toNat<=sizeLine /\
 ∀ p,H p=none->Q (.ref p) (upd H p (.l (List.replicate k.toNat a).flatten))
theorem CW (g:Aa j) (k:Nat):(List.replicate k g).flatten.length=k*g.length:=by
 induction k with
 | zero=>simp
 | succ k a=>rw[dB,gS,bH,a,Nat.succ_mul,lR]
theorem Yp:nJ X (binaryOp .Mult) Q9:=by
 intro E s V H x y v u Q I N O h;obtain⟨l,k,S,rfl,rfl,L,G,K,D,q⟩:=h;cases N;obtain⟨t,rfl⟩:=O;obtain⟨z,b,n,r,M,e⟩:=I.lstM L;have i:b.toArray.size*k.toNat<=sizeLine:=by rw[aY,<- M];exact D
 have d:¬ b.toArray.size*k.toNat>(2 ^ 63-1)/8:=by
  have:(sizeLine:Nat)<=(2 ^ 63-1)/8:=by decide
  omega
 have f:¬ (!Builtin.List.listFitsIndex k)=true:=by
  rw[fitsIndex_both G K];exact bC
 have c:¬ Builtin.List.listTooLong (b.toArray.size*k.toNat)=true:=by
  rw[Zb i];exact bC
 have w:List.foldl (λA B=>A++B) #[] (List.replicate (if b.toArray.isEmpty=true then 0 else k.toNat) b.toArray)=(List.replicate k.toNat b).flatten.toArray:=by
  have f0:∀ m:Nat,List.foldl (λA B=>A++B) #[] (List.replicate m b.toArray)=(List.replicate m b).flatten.toArray:=λm=>by
   have:=Uw b m [];rw[gL] at this;exact this
  rw[f0];cases b with
  | nil=>simp
  | cons a R=>rw[aJ (by simp)]
 refine wpAny_binaryOp_repeat_ref (T := "list") (U := "int") (by decide) ⟨_,e,rfl⟩ (λP=>typeIs_int P k t) noFill_list_mul F.fills_int_mul F.slot_int_rmul repeat_list F.slot_int_index.lookup
  (iA F.slot_int_rmul (typeIs_int s k t) F.entry_int_rmul (F.args_int_rmul_2 _ _) (int___rmul___int_list k t l b.toArray n) ⟨e,rfl,⟨_,e,rfl⟩,iA F.slot_list_mul ⟨_,e,rfl⟩ F.entry_list_mul (F.args_list_mul_2 _ _) (AutoListH.list___mul___list_int_3 l b.toArray n k t f d c) ⟨e,?_⟩⟩)
 rw[w];exact⟨.ref _,_,I.lnew (t':=s.toks) (r.rep k.toNat) (by rw[CW,Nat.mul_comm];exact D),rfl,q _ I.fresh⟩
end
section
variable [DecidableEq κ]
noncomputable def rW (g:Aa (κ×V)) (k:κ):Ab V:=(g.find? λa=>decide (a.1=k)).map (·.2)
noncomputable def pP (g:Aa (κ×V)) (k:κ) (v:V):Aa (κ×V) :=
 if (g.any λa=>decide (a.1=k))=true then g.map (λa=>if a.1=k then (a.1,v) else a) else g++[(k,v)]
theorem Eb {p:κ×V}{r:Aa (κ×V)}{k:κ}(e:p.1=k):rW (p::r) k=some p.2:=by simp[rW,dF,e]
theorem Fc {p:κ×V}{r:Aa (κ×V)}{k:κ}(e:¬ p.1=k):rW (p::r) k=rW r k:=by simp[rW,dF,e]
theorem Xt (k:κ):∀ g:Aa (κ×V),(g.any λj=>decide (j.1=k))=(rW g k).isSome
 | []=>rfl
 | p::r=>by
  rw[eU];by_cases e:p.1=k
  .simp only[Eb e,bJ e,Bool.true_or,lB]
  .rw[Fc e,bG e,Bool.false_or];exact Xt k r
theorem Ig (g:Aa (κ×V)) (k:κ) (v:V):(pP g k v).length<=g.length+1:=by
 unfold pP;split
 .rw[aA];omega
 .rw[bH,bS,fS];omega
theorem vN.isSome_eq (r:vN o u):o.isSome=u.isSome:=by
 cases o with
 | none=>cases u with
  | none=>rfl
  | some _=>exact (show False from r).elim
 | some _=>cases u with
  | none=>exact (show False from r).elim
  | some _=>rfl
theorem vN.getD (r:vN o u) (rd:nC d g):nC (o.getD d) (u.getD g):=by
 cases o with
 | none=>cases u with
  | none=>exact rd
  | some _=>exact (show False from r).elim
 | some _=>cases u with
  | none=>exact (show False from r).elim
  | some _=>exact r
theorem KV.val (r:KV g j) (k:κ):vN (rW g k) (valueAt j k):=by
 unfold KV at r;induction r with
 | nil=>exact True.intro
 | @cons p q m c h t i =>
  obtain⟨d,f⟩:=h;by_cases e:p.1=k
  .have a:q.1=k:=d.symm.trans e;have b:valueAt (q::c) k=some q.2:=by simp[valueAt,dF,a]
   rw[Eb e,b];exact f
  .have a:¬ q.1=k:=λz=>e (d.trans z)
   have b:valueAt (q::c) k=valueAt c k:=by simp[valueAt,dF,a]
   rw[Fc e,b];exact i
theorem KV.any (r:KV j l) (k:κ):(j.any λg=>decide (g.1=k))=l.any λg=>decide (g.1=k):=by
 unfold KV at r;induction r with
 | nil=>rfl
 | cons h t a=>rw[eU,eU,a,h.1]
theorem KV.repl (r:KV j o) (k:κ) (l:nC y u) :
  KV (j.map λg=>if g.1=k then (g.1,y) else g) (o.map λg=>if g.1=k then (g.1,u) else g):=by
 unfold KV at r |-;induction r with
 | nil=>exact .nil
 | @cons p q d f h t c =>
  rw[aP,aP];refine .cons ?_ c;obtain⟨a,b⟩:=h;by_cases e:p.1=k
  .rw[aO e,aO (a.symm.trans e)];exact⟨a,l⟩
  .rw[aJ e,aJ (λz=>e (a.trans z))];exact⟨a,b⟩
theorem KV.put (r:KV g l) (k:κ) (j:nC y u):KV (pP g k y) (stored l k u):=by
 unfold pP stored;rw[r.any k];by_cases e:(l.any λa=>decide (a.1=k))=true
 .rw[aO e,aO e];exact r.repl k j
 .rw[aJ e,aJ e];exact Paired.snoc r ⟨rfl,j⟩
theorem KV.length (r:KV g j):g.length=j.length:=fA r
end
theorem yY {P:Ah}(r:nC (kV k) u):(pZ P w).is k u=true:=by
 cases k with
 | inl i=>obtain⟨t,e⟩:=(show ∃ t,u=Value.int i t from r);subst e;exact KR P w i t
 | inr x=>obtain⟨t,e⟩:=(show ∃ t,u=Value.str x t from r);subst e;exact CO P w x t
theorem Rb {P:Ah}:∀ {g:Aa gD}{j:Aa Ac},mY (g.map kV) j->ItemsAre (pZ P w) g j
 | [],_,r=>by rw[lT] at r;cases r;exact .nil
 | k::g,_,r=>by
  rw[aP] at r;cases r with
  | cons h t=>exact .cons (yY h) (Rb t)
abbrev KT (H:Hp):Aa (Aa gD×V)->Aa (Aa gD×Ad×Ac)->Prop:=Paired λp q=>p.1=q.1/\H q.2.1=some (.t (p.1.map kV))/\nC p.2 q.2.2
theorem KT.val (r:KT H g j) (k:Aa gD):vN (rW g k) ((atKey j k).map (·.2)):=by
 induction r with
 | nil=>exact True.intro
 | @cons p q m c h t i =>
  obtain⟨d,_,f⟩:=h;by_cases e:p.1=k
  .have a:q.1=k:=d.symm.trans e;have b:atKey (q::c) k=some q.2:=by simp[atKey,dF,a]
   rw[Eb e,b];exact f
  .have a:¬ q.1=k:=λz=>e (d.trans z)
   have b:atKey (q::c) k=atKey c k:=by simp[atKey,dF,a]
   rw[Fc e,b];exact i
theorem KT.repl (r:KT H j o) (k:Aa gD) (l:nC y u) :
  KT H (j.map λg=>if g.1=k then (g.1,y) else g) (o.map (putAt k u)):=by
 induction r with
 | nil=>exact .nil
 | @cons p q f i h t d =>
  rw[aP,aP];refine .cons ?_ d;obtain⟨a,b,c⟩:=h;unfold putAt;by_cases e:p.1=k
  .rw[aO e,aO (a.symm.trans e)];exact⟨a,b,l⟩
  .rw[aJ e,aJ (λz=>e (a.trans z))];exact⟨a,b,c⟩
theorem KT.put (r:KT H g j) (k:Aa gD) (o:H b=some (.t (k.map kV))) (l:nC y u) :
  KT H (pP g k y) (storedH j k b u):=by
 have e:(g.any λa=>decide (a.1=k))=(atKey j k).isSome:=by
  rw[Xt,(r.val k).isSome_eq,lI]
 unfold pP storedH;rw[e];by_cases q:(atKey j k).isSome=true
 .rw[aO q,aO q];exact r.repl k l
 .rw[aJ q,aJ q];exact Paired.snoc r ⟨rfl,o,l⟩
theorem KT.keeps (r:KT H g p) (o:∀ b j,H b=some (.t j)->l b=some (.t j)):KT l g p :=
 Paired.mapP r λ_ _ z=>⟨z.1,o _ _ z.2.1,z.2.2⟩
section
variable {P:Ah}
theorem N0 (ok:oO P w H h) (e:Rd H a u):oG P w H h a u:=e.ok ok
theorem yD (ok:oO P w H h) (e:Rd H a (.k g)):g.length<=sizeLine/\(a == sysModules)=false/\∃ j,KV g j/\h.DictOf (pZ P w) a j :=
 show oG P w H h a (.k g) from N0 ok e
theorem C4 (ok:oO P w H h) (e:H a=some (.k g)):g.length<=sizeLine/\(a == sysModules)=false/\∃ j,KV g j/\h.DictOf (pZ P w) a j:=yD ok (.inl e)
theorem Az (ok:oO P w H h) (e:H a=some (.t (g.map kV))):(tupleKind (pZ P w)).is h g a:=by
 obtain⟨_,b,r,⟨o,c,d,n,f⟩,_⟩:=(show oG P w H h a (.t (g.map kV)) from ok a _ e);exact⟨o,b.toArray,n,c,d,f,by simpa using Rb r⟩
theorem A7 (ok:oO P w H h) (e:Rd H a (.T g)):g.length<=sizeLine/\(a == sysModules)=false /\
  ∃ j,KT H g j/\h.DictOfH (tupleKind (pZ P w)) a j:=by
 obtain⟨z,y,j,r,o,f,d,i,k,n,s,u⟩:=(show oG P w H h a (.T g) from N0 ok e);refine⟨z,y,j,r,o,f,d,i,k,n,s,λx b=>?_,u⟩;have all:∀ {l:Aa (Aa gD×V)} {m:Aa (Aa gD×Ad×Ac)},KT H l m->∀ x∈m,(tupleKind (pZ P w)).is h x.1 x.2.1:=by
  intro l m q;induction q with
  | nil=>intro x b;exact nomatch b
  | @cons p q A B c t v =>
   intro x b;rcases aK.mp b with e | b
   .subst e;exact Az ok (by rw[<- c.1];exact c.2.1)
   .exact v x b
 exact all r x b
theorem Z4 (ok:oO P w H h) (e:H a=some (.T g)):g.length<=sizeLine/\(a == sysModules)=false /\
  ∃ j,KT H g j/\h.DictOfH (tupleKind (pZ P w)) a j:=A7 ok (.inl e)
end
def tA (H:Hp) (a:Ad) (y:V) (r:Ab V):Prop :=
 (∃ c k,Rd H a (.k c)/\y=kV k/\r=rW c k)\/∃ c k b,Rd H a (.T c)/\y = .ref b/\H b=some (.t (k.map kV))/\r=rW c k
def zI (H:Hp) (a:Ad) (y v:V) (g:Hp):Prop :=
 (∃ c k,H a=some (.k c)/\y=kV k/\c.length<sizeLine/\g=upd H a (.k (pP c k v))) \/
 ∃ c k b,H a=some (.T c)/\y = .ref b/\H b=some (.t (k.map kV))/\c.length<sizeLine/\g=upd H a (.T (pP c k v))
theorem tA.k {k:gD}(e:H a=some (.k g)):tA H a (kV k) (rW g k):=.inl ⟨g,k,.inl e,rfl,rfl⟩
theorem zI.k {k:gD}(e:H a=some (.k g)) (j:g.length<sizeLine):zI H a (kV k) v (upd H a (.k (pP g k v))):=.inl ⟨g,k,e,rfl,j,rfl⟩
theorem zI.t {H:Hp}{a b:Ad}{g:Aa (Aa gD×V)}{k:Aa gD}{v:V}(e:H a=some (.T g)) (j:H b=some (.t (k.map kV))) (l:g.length<sizeLine) :
  zI H a (.ref b) v (upd H a (.T (pP g k v))):=.inr ⟨g,k,b,e,rfl,j,l,rfl⟩
section
variable {X:Cx}
theorem Inv.big (I:Inv X g j H s):sysModules<s.heap.objs.size:=by
 have h:mainGlobals<s.heap.objs.size:=(I.mod.glob.keeps I.bk).lt;exact Nat.lt_trans (by decide) h
theorem Tl (T:A.units+1<cLine) (I:Inv X r U H s) (g:tA H a y (some v)) (C:nC y u) (h:∀ j J,Inv X r U H J->nC v j->Q j J) :
  wpAny (model X.prog X.w) A (getItem (.ref a) u) Q E s:=by
 rcases g with⟨m,k,e,f,l⟩ | ⟨m,k,b,e,f,n,l⟩
 .subst f;obtain⟨z,hd,t,rel,d⟩:=yD I.hok e;obtain⟨j,hw,c⟩:=vN.some_of (v:=v) (o:=valueAt t k) (by rw[l];exact rel.val k);exact wpAny_getItem_of (yY C) d.mapOf hw (h j _ (I.tok _) c)
 .subst f;cases (show u=Value.ref b from C);obtain⟨z,hd,x,rel,d⟩:=A7 I.hok e;obtain⟨j,hw,c⟩:=vN.some_of (v:=v) (o:=(atKey x k).map (·.2)) (by rw[l];exact rel.val k);obtain⟨p,q,i⟩:=cL.mp hw;refine wpAny_getItem_heap (iB T) (Az I.hok n) d q ?_;rw[i];exact h j _ (I.tok _) c
theorem FM (C:A.units+1<cLine) (I:Inv X j J H s) (g:tA H a y o) (p:nC y u) (h:∀ r,Inv X j J H r->Q (.bool o.isSome) r) :
  wpAny (model X.prog X.w) A (compareOp .In u (.ref a)) Q E s:=by
 rcases g with⟨f,k,e,d,l⟩ | ⟨f,k,b,e,d,i,l⟩
 .subst d;obtain⟨z,hd,m,rel,c⟩:=yD I.hok e;refine wpAny_in_of (yY p) hd c.mapOf ?_;rw[<- (rel.val k).isSome_eq,<- l];exact h _ (I.tok _)
 .subst d;cases (show u=Value.ref b from p);obtain⟨z,hd,n,rel,c⟩:=A7 I.hok e;refine wpAny_in_heap (iB C) (Az I.hok i) hd c ?_;have q:=(rel.val k).isSome_eq;rw[lI] at q;rw[<- q,<- l];exact h _ (I.tok _)
theorem Se (C:A.units+1<cLine) (I:Inv X j J H s) (g:tA H a y o) (p:nC y u) (h:∀ r,Inv X j J H r->Q (.bool (!o.isSome)) r) :
  wpAny (model X.prog X.w) A (compareOp .NotIn u (.ref a)) Q E s:=by
 rcases g with⟨f,k,e,d,l⟩ | ⟨f,k,b,e,d,i,l⟩
 .subst d;obtain⟨z,hd,m,rel,c⟩:=yD I.hok e;refine wpAny_notIn_of (yY p) hd c.mapOf ?_;rw[<- (rel.val k).isSome_eq,<- l];exact h _ (I.tok _)
 .subst d;cases (show u=Value.ref b from p);obtain⟨z,hd,n,rel,c⟩:=A7 I.hok e;refine wpAny_notIn_heap (iB C) (Az I.hok i) hd c ?_;have q:=(rel.val k).isSome_eq;rw[lI] at q;rw[<- q,<- l];exact h _ (I.tok _)
theorem Kk (I:Inv X g C H s) (r:Dw (H a)) (p:Heap.SameBut a s.heap j) (o:∃ q,j.get? a=some q) (new:oG X.prog X.w (upd H a l) j a l) :
  Inv X g C (upd H a l) { s with heap:=j,toks:=J } :=
 I.write (x:=a) (e:=a) r (.inl rfl) (λb q c z=>(p.2 b c).trans z) o new
theorem E7 {P:Ah}(z:g.length<=sizeLine) (hd:(a == sysModules)=false) (rel:KV g j) (l:o.DictOf (pZ P w) a j) :
  oG P w p o a (.k g):=⟨z,hd,j,rel,l⟩
theorem CJ (T:A.units+1<cLine) (I:Inv X j U H s) (g:zI H a y v J) (p:nC y u) (o:nC v r) (h:∀ C,Inv X j U J C->Q () C) :
  wpAny (model X.prog X.w) A (setItem (.ref a) u r) Q E s:=by
 rcases g with⟨d,k,e,t,l,n⟩ | ⟨d,k,b,e,t,F,l,n⟩
 .subst t n;obtain⟨z,hd,V,rel,m⟩:=C4 I.hok e;have D:V.length<=sizeLine:=by rw[<- rel.length];exact z
  have x:(pP d k v).length<=sizeLine:=by have:=Ig d k v;omega
  refine wpAny_setItem_pairs (hsz:=D) (yY p) m λK f B=>h _ ?_
  have S:∃ q,K.get? a=some q:=let ⟨q,_,_,i,_⟩:=f;⟨q,i⟩;exact Kk I (by rw[e];exact True.intro) B S (E7 x hd (rel.put k o) f)
 .subst t n;cases (show u=Value.ref b from p);obtain⟨z,hd,W,rel,m⟩:=Z4 I.hok e;have D:W.length<=sizeLine:=by rw[<- fA rel];exact z
  have x:(pP d k v).length<=sizeLine:=by have:=Ig d k v;omega
  refine wpAny_setItem_heap (hsz:=D) (iB T) (Az I.hok F) m λK f B=>h _ ?_
  obtain⟨q,M,L,i,N,O,P,_,R⟩:=f;refine Kk I (by rw[e];exact True.intro) B ⟨q,i⟩ ⟨x,hd,_,(rel.put k F o).keeps λc Y G=>?_,q,M,L,i,N,O,P,R⟩;rw[mT (NF G e (λz=>nomatch z))];exact G
end
section
variable {X:Cx}
theorem BI (I:Inv X g o H s) (e:Rd H a (.k j)) (h:∀ t l,Inv X g o H l->Q (.int j.length t) l):wpAny (model X.prog X.w) A (call (.builtin "len") [.ref a]) Q E s:=by
 obtain⟨z,hd,c,rel,b⟩:=yD I.hok e;refine call_len_dict hd b (by rw[<- rel.length];rw[kF] at z;omega) ?_;rw[<- rel.length];exact h _ _ (I.tok _)
end
def Ri (i:Expr):Prop:=∀ b a,subscripted i false b a=operate [b,a] (getItem b a)
theorem Z3 {id:String}
  (C:typeLookup (.type T) "__getitem__" = pure (some (.builtin id))) (I:Ri slice)
  (h:wpAny (model g w) A (eval value p) (λo l=>wpAny (model g w) A (eval slice p) (λi j=>j.TypeIs o T/\wpAny (model g w) A (getItem o i) Q E j) E l) E s) :
  wpAny (model g w) A (eval (.Subscript value slice pos) p) Q E s:=by
 refine Subscript_ (cO h (λo l c=>cO c (λi j a=>?_) λ_ _ x=>x) λ_ _ x=>x);obtain⟨e,a⟩:=a;unfold subscriptTail;refine aB ?_;rw[getitemInPython_of_ne e.not_modules];refine aB (wpAny_specialOf e C ?_);have fin:wpAny (model g w) A (subscripted slice false o i) (λr b=>wpAny (model g w) A (letTemporaryGo value o r >>= λ_=>pure r) Q E b) E j:=by
  rw[I o i];exact wpAny_operating (cO a (λr b d=>aB (wpAny_letTemporaryGo (aI d))) λ_ _ x=>x)
 first
  | exact aI (aB fin)
  | exact aB (aI (aB fin))
  | exact aB fin
theorem Mi {X:Cx}(I:Inv X j l H s) (g:tA H a y o):s.TypeIs (.ref a) "dict" := by
 rcases g with⟨d,k,e,_,_⟩ | ⟨d,k,b,e,_,_,_⟩
 .obtain⟨_,_,f,_,c⟩:=yD I.hok e;exact c.typeIs
 .obtain⟨_,_,h,_,c⟩:=A7 I.hok e;exact c.typeIs
def L8 (g ty:TE):TE:=λc H Q=>g c H λx d=>ty c d λy b=>∃ a v,x = .ref a/\tA b a y (some v)/\Q v b
def MH (ty g:TE):TE:=λd H Q=>ty d H λy e=>g d e λx c=>∃ a o,x = .ref a/\tA c a y o/\Q (.b (!o.isSome)) c
section
variable {X:Cx}
theorem Ms (r:X.A.units+1<cLine) (l:PE X o C) (j:PE X i ty) (p:Ri i):PE X (.Subscript o i pos) (L8 C ty):=by
 intro b s f H Q I h;refine Z3 PySem.F.slot_dict_getitem.lookup p (mV (l b s f H _ I h) λu D ⟨x,k,n,z,t⟩=>mV (j b D f k _ n t) λE G c=>?_);obtain⟨y,m,e,B,a,v,ex,g,w⟩:=c;subst ex;obtain rfl:u=Value.ref a:=z;exact⟨Mi e g,Tl r e g B λL K q d=>⟨v,m,q,d,w⟩⟩
theorem JK (p:X.A.units+1<cLine) (j:PE X i ty) (l:PE X o r):PC X .NotIn i o (MH ty r):=by
 intro c s e H Q I h;refine mV (j c s e H _ I h) λE D ⟨y,f,m,B,v⟩=>mV (l c D e f _ m v) λu F d=>?_
 obtain⟨x,k,n,z,a,t,ex,g,w⟩:=d;subst ex;obtain rfl:u=Value.ref a:=z;exact Se p n g B λG q=>⟨.b (!t.isSome),k,q,rfl,w⟩
end
theorem QA {P:Ah}(h:Ag) (g:sysModules<h.objs.size):oG P w H (h.push { cls:=.type "dict",data:=.dict #[] }) h.objs.size (.k []) :=
 ⟨cR _,cQ.mpr (eJ (bO g)),[],.nil,Heap.DictOf.new h⟩
theorem II {P:Ah}(h:Ag) (g:sysModules<h.objs.size):oG P w H (h.push { cls:=.type "dict",data:=.dict #[] }) h.objs.size (.T []) :=
 ⟨cR _,cQ.mpr (eJ (bO g)),[],.nil,_,#[],0,bA _ rfl,⟨rfl,rfl,rfl⟩,rfl,rfl,dZ⟩
def Zo:TE:=λ_ H Q=>∀ p,H p=none->Q (.ref p) (upd H p (.k []))
def GP:TE:=λ_ H Q=>∀ p,H p=none->Q (.ref p) (upd H p (.T []))
section
variable {X:Cx}
theorem Yo:PE X (.Dict [] [] pos) Zo:=λb s c H Q I h =>
 wpAny_Dict_empty ⟨.ref s.heap.objs.size,_,I.laid (a:=s.heap.objs.size) (o:=.k []) (t':=s.toks) (λ_ _ q=>aG _ q) (aU _) (QA s.heap I.big),rfl,h _ (I.hok.fresh (aU _))⟩
theorem EN:PE X (.Dict [] [] pos) GP:=λb s c H Q I h =>
 wpAny_Dict_empty ⟨.ref s.heap.objs.size,_,I.laid (a:=s.heap.objs.size) (o:=.T []) (t':=s.toks) (λ_ _ q=>aG _ q) (aU _) (II s.heap I.big),rfl,h _ (I.hok.fresh (aU _))⟩
end
def sZ (g more:Aa (gD×V)):Aa (gD×V):=more.foldl (λa b=>pP a b.1 b.2) g
theorem KV.merge:∀ {more:Aa (gD×V)}{l:Aa (gD×Ac)}{g:Aa (gD×V)}{j:Aa (gD×Ac)},KV more l->KV g j->KV (sZ g more) (merged j l):=by
 intro more l g j r;unfold KV at r;induction r generalizing g j with
 | nil=>intro q;exact q
 | @cons p q c d h t a =>
  intro b;have e:KV (pP g p.1 p.2) (stored j q.1 q.2):=by
   have:=b.put p.1 h.2;rw[<- h.1];exact this
  exact a e
theorem Jj:∀ (more g:Aa (gD×V)),(sZ g more).length<=g.length+more.length
 | [],g=>by show g.length<=g.length+0;omega
 | p::r,g=>by
  have a:=Jj r (pP g p.1 p.2);have b:=Ig g p.1 p.2;show (sZ (pP g p.1 p.2) r).length<=_;rw[bS];omega
structure M2 (X:Cx) (o:Expr) (m:Str) (apos:Pos) (e f:Expr) (cpos:Pos):Prop where
 base:attributeBase o m X.env (eval o X.env)=eval o X.env
 few:((backTo cpos (starEach [e,f] X.env)).all (λx=>!x.1)&&(backToKw cpos (keywordEach [] X.env)).all (λx=>x.1.isSome) && decide (([e,f]:List Expr).length+([]:List Keyword).length+(if ([]:List Keyword).isEmpty then 0 else 1)<30))=true
 line:(apos.endLine == cpos.line)=true
 trees:backTo cpos (starEach [e,f] X.env)=[(false,eval e X.env),(false,eval f X.env)]
def Kz (H:Hp) (a:Ad):Prop:=(∃ b,Rd H a (.k b))\/∃ b,Rd H a (.T b)
theorem RP {X:Cx}(I:Inv X j l H s) (d:Kz H a) :
  s.TypeIs (.ref a) "dict" /\ (∀ b,Value.ref a = .ref b->∃ g,s.heap.get? b=some g/\g.dict=none)/\(a == sysModules)=false:=by
 rcases d with⟨i,e⟩ | ⟨i,e⟩
 .obtain⟨_,hd,k,_,c⟩:=yD I.hok e;refine⟨c.typeIs,λb q=>?_,hd⟩;cases q;obtain⟨g,_,_,f,h,_⟩:=c;exact⟨g,f,h.2.1⟩
 .obtain⟨_,hd,m,_,c⟩:=A7 I.hok e;refine⟨c.typeIs,λb q=>?_,hd⟩;cases q;obtain⟨g,_,_,f,h,_⟩:=c;exact⟨g,f,h.2.1⟩
section
variable {X:Cx}
theorem EY (T:A.units+1<cLine) (I:Inv X j U H s) (g:tA H a y o) (p:nC y u) (rd:nC d r) (h:∀ J C,Inv X j U H C->nC (o.getD d) J->Q J C) :
  wpAny (model X.prog X.w) A (call (.builtin "dict.get") [.ref a,u,r]) Q E s:=by
 rcases g with⟨i,k,e,f,l⟩ | ⟨i,k,b,e,f,m,l⟩
 .subst f;obtain⟨z,hd,q,rel,c⟩:=yD I.hok e;refine call_meetsIn jW c.typeIs PySem.F.entry_dict_get (PySem.F.args_dict_get_3 _ _ _) (meets_dict_get_default (pZ X.prog X.w) a (yY p) hd r) ⟨_,c.mapOf,h _ _ (I.tok _) ?_⟩;rw[l];exact (rel.val k).getD rd
 .subst f;cases (show u=Value.ref b from p);obtain⟨z,hd,n,rel,c⟩:=A7 I.hok e;refine call_meetsIn jW c.typeIs PySem.F.entry_dict_get (PySem.F.args_dict_get_3 _ _ _) (meetsH_dict_get_default (tupleKind (pZ X.prog X.w)) a b hd r) ⟨iB T,k,n,Az I.hok m,c,h _ _ (I.tok _) ?_⟩;rw[l];exact (rel.val k).getD rd
end
def IQ (g ty j:TE):TE:=λb H Q=>g b H λx c=>∃ a,x = .ref a/\Kz c a/\ty b c λy e=>j b e λz d=>∃ o,tA d a y o/\Q (o.getD z) d
section
variable {X:Cx}
theorem RQ (C:X.A.units+1<cLine) (r:PE X o J) (l:PE X e ty) (p:PE X f T) (m:M2 X o "get" apos e f j):PE X (.Call (.Attribute o "get" apos) [e,f] [] j) (IQ J ty T):=by
 intro b s k H Q I h;refine wpAny_Call_method m.base m.few m.line jI jW PySem.F.type_dict_get (mV (r b s k H _ I h) λu O c=>?_);obtain⟨x,q,n,L,a,ex,d,E⟩:=c;subst ex;obtain rfl:u=Value.ref a:=L;obtain⟨R,S,_⟩:=RP n d;refine⟨R,S,?_⟩;rw[m.trees];refine Calls.callWith_builtin rfl (Calls.evalArgs_plain (jD (mV (l b O k q _ n E) λW P ⟨y,t,w,M,G⟩ =>jD (mV (p b P k t _ w G) λV Z ⟨z,v,B,N,Y,g,K⟩=>Calls.spliced_nil ?_))));exact EY C B g M N λw' U D i=>⟨_,v,D,i,K⟩
end
section
variable {X:Cx}
theorem GZ (I:Inv X j r H s) (e:Rd H a (.k g)) (h:∀ p l,H p=none->Inv X j r (upd H p (.k g)) l->Q (.ref p) l):wpAny (model X.prog X.w) A (call (.type "dict") [.ref a]) Q E s:=by
 obtain⟨z,hd,n,rel,f⟩:=yD I.hok e;refine kt_call_dict hd f (by rw[<- rel.length];exact z) λm c i=>?_
 refine h _ _ (I.hok.fresh (aU _)) (I.laid (a:=s.heap.objs.size) (o:=.k g) (t':=s.toks) (λb q d=>?_) (aU _) (E7 z (cQ.mpr (eJ (bO I.big))) rel c));exact (i.2 b (bO (aZ d))).trans (aG _ d)
end
end L2
namespace Att
open PySem PySem.W PySem.Calls PyProof.Rows
theorem Yz {P:Params}:∀ (g:Aa Int) (j:Aa Ac),WellAll P h j (g.map WData.int)->IntsAre j g:=by
 intro g;induction g with
 | nil =>
  intro j w;rw[lT] at w;cases w;exact .nil
 | cons n g c =>
  intro j w;rw[aP] at w;cases w with
  | cons a b =>
   cases a;exact .cons _ _ (c _ b)
theorem MQ {l:OpenLaw}(I:l.most=some n){P:Params}
  (j:l.row.toRowW.claim.pre args=true) (p:WellAll P h o args) :
  ∃ a C g,o=[Value.ref a]/\args=[WData.list (g.map WData.int)]/\h.get? a=some { cls:=.type "list",data:=.seq C.toArray }/\IntsAre C g/\g.length<=n:=by
 have i:WShape.hasAll [] args [.list .int]=true:=(pre_splitW j).1;have k:l.pre.holds [] { args:=args }=true:=(pre_splitW j).2;obtain⟨d,r,rfl,m,s⟩:=hasAllW_cons i;obtain rfl:=hasAllW_nil s;obtain⟨y,rfl,t⟩:=hasW_list m;obtain⟨g,rfl⟩:=items_int t;have c:g.length<=n:=by
  unfold OpenLaw.pre at k;have e:(WTm.not (.lt (.lit (.int (n:Int))) (.len (.arg 0)))).holds [] { args:=[.list (g.map .int)] }=true:=by
   have e:=(holds_andW k).1;rw[I] at e;exact e
  have f:=condW_of e (w_not (w_lt w_lit (w_len_list (w_arg rfl))));rw[aA] at f;refine Nat.le_of_not_lt λq=>?_
  have v:(n:Int)<((g.length:Nat):Int):=by omega
  first
   | (rw[bJ v] at f;exact absurd f (by decide))
   | (simp at f;omega)
 cases p with
 | cons w x =>
  cases x;cases w with
  | list u b=>exact⟨_,_,g,rfl,rfl,u,Yz g _ b,c⟩
theorem NC (l:OpenLaw) (args:Aa WData):l.row.toRowW.claim.post args (.bool true) args=true :=
 postW_of (r:=l.row.toRowW) (X:=(true == true))
  (show WShape.has [] (.bool true) .bool=true by first | rfl | decide | simp[WShape.has,WShape.arms,WShape.armsAll])
  (show (WTm.eq .res (.lit (.bool true))).value [] { args:=args,res:=some (.bool true),after:=args }=some (.bool (true == true)) from w_eq_bool (w_res rfl) w_lit) rfl
theorem attach_call {l:OpenLaw}
  (hn:l.most=some n) (aa:d.params.defaults=[])
  (call:∀ (w:World) (j g:Ae) (T mb:Af->Ab Ac) (J:Ad) (o:Obj) (pm cd p:Ac) (a:Ad) (I:Aa Ac) (U:Aa Int),Ground q C [] XP w j T mb g.heap->YP w g.heap ->g.heap.get? J=some o->o.data = .func (docDef d.name d.params d.body d.scope pm cd p)->g.heap.CodeRec cd d.name->T d.name=some (.ref J) ->g.heap.get? a=some { cls:=.type "list",data:=.seq I.toArray }->IntsAre I U->U.length<=n->g.gens=#[] ->
   codeAny (model l.prog w) callerA (.call (.ref J) ⟨[.ref a],[]⟩) (λr s'=>r = .ok (.ret (.bool true))/\OldK g.heap s'.heap/\s'.os=g.os/\AllBare s'.gens) g) :
  WalkO q C XP YP l.row.toRowW d [] (λf I=>PySem.call f I):=by
 intro w j g T mb G Y J o pm cd p v kV E hd i s k A args u as h t H m B;obtain rfl:v = .none:=Dflts.none s aa;obtain rfl:kV = .none:=Dflts.noKw s;obtain⟨a,I,U,rfl,rfl,e,b,c⟩:=MQ hn h m;refine enter_call (codeAny_mono (call w j g T mb J o pm cd p a I U G Y E (fd_plain hd) i k e b c A) λr s' F=>?_);obtain⟨rfl,x,y,z⟩:=F;exact⟨.inl ⟨.bool true,.bool true,[],rfl,λ_=>rfl,.bool true,NC l _,λ_=>⟨List.Pairwise.nil,λ_ D=>(nomatch D)⟩⟩,x,y,z⟩
end Att
namespace L2
open PySem PySem.Spec PyProof.Rows
theorem Rz:∀ {j:Aa Ac}{g:Aa Int},IntsAre j g->mY (g.map V.int) j
 | _,_,.nil=>.nil
 | _,_,.cons n t h=>.cons ⟨t,rfl⟩ (Rz h)
def Nl (H:Hp):Prop:=∀ b,H b=none\/∃ o a,H b=some (.frz o (.l a))
theorem GG {P:Ah}{K:mI}
  (KX:K.In g.heap) (T:g.heap.Ns mainGlobals mg) (j:g.heap.Ns builtinsNs mb) (ab:∀ x:Af,x ≠ "__name__" -> mb x=bootBuiltins x) (J:g.heap.NoLimit) (hg:g.gens=#[])
  (U:g.heap.get? a=some { cls:=.type "list",data:=.seq I.toArray }) (hi:IntsAre I ns) (hl:ns.length<=sizeLine) (hr:Room k callerA)
  (F:∀ base:Ag,K.In base->base.Ns mainGlobals mg->FnOk P w K mg base CX k fa fd [x] sp) (C:∀ (s:Ae) (u:Ac),BindsTo s fd ⟨[u],[]⟩ [(x,u)])
  (ac:∀ H:Hp,Nl H->mL K H a (ns.map V.int)->sp [.ref a] H (λv _=>v = .b true) λ_ _ _=>False)
  (aa:∀ H e p,CX [] H g (λ_ _ _=>False) e p->False) :
  codeAny (model P w) callerA (.call (.ref fa) ⟨[.ref a],[]⟩) (λr p=>r = .ok (.ret (.bool true))/\OldK g.heap p.heap/\p.os=g.os/\AllBare p.gens) g:=by
 have R:=Rz hi;have D:=hi.length;have core:∀ H:Hp,Nl H->mL K H a (ns.map V.int)->oO P w H g.heap->(∀ b,H b≠none->b=a)->(H a≠none->K.lookup a=none) ->
   codeAny (model P w) callerA (.call (.ref fa) ⟨[.ref a],[]⟩) (λr p=>r = .ok (.ret (.bool true))/\OldK g.heap p.heap/\p.os=g.os/\AllBare p.gens) g:=by
  intro H Q hS A O hK;have c:∀ {b:Ad} {o:Obj},g.heap.get? b=some o->H b=none->(xY g.heap H).get? b=some o:=λe n=>CF e n
  have M:∀ {b:Ad} {o:Obj} {t:Array DictEntry} {i:Nat},g.heap.get? b=some o->o.data = .dict t i->H b=none:=λ{b o t i} e d=>by
   cases q:H b with
   | none=>rfl
   | some u =>
    have G:b=a:=O b (by rw[q];simp);subst G;rw[U] at e;cases e;have S:Data.seq I.toArray _=Data.dict t i:=d;cases S
  have f:∀ {b:Ad} {m:Af->Ab Ac},g.heap.Ns b m->(xY g.heap H).Ns b m:=λ{b m} ⟨o,t,i,e,d,r⟩=>⟨o,t,i,c e (M e d),d,r⟩
  have y:K.In (xY g.heap H):=λb o e=>c (KX b o e) (by
   cases q:H b with
   | none=>rfl
   | some u =>
    have G:b=a:=O b (by rw[q];simp);subst G;rw[hK (by rw[q];simp)] at e;cases e)
  have hM:Mod K mg (xY g.heap H):=⟨y,f T,⟨mb,f j,ab⟩,let ⟨mc,Z,h2⟩:=J;⟨mc,f Z,h2⟩⟩;have W:Env0 P w K mg (xY g.heap H) callerA [] g H:=⟨rfl,hM,λb o e=>NN e,lU (EX _ _),trivial,λb j=>absurd (show b∈([]:Aa Ad) from j) (by simp),A,.of_eq hg⟩;refine codeAny_mono ((F _ y (f T)).run callerA [] g H ⟨[.ref a],[]⟩ [.ref a] [.ref a] _ _ hr W (C g (.ref a)) (.cons rfl .nil) (ac H Q hS)) λr p h=>?_
  cases r with
  | error e=>exact (aa H e p h).elim
  | ok Y =>
   cases Y with
   | next=>exact False.elim h
   | brk=>exact False.elim h
   | cont=>exact False.elim h
   | ret u =>
    obtain⟨v,H',os,bare,un,B,r',q⟩:=h;have q':v = .b true:=q;subst q';obtain rfl:u=Value.bool true:=r';refine⟨rfl,OldK.of_keep λb o e=>?_,os,bare⟩;cases q:H b with
    | none=>exact un.keep b o e q (by intro z;exact absurd (show b∈([]:Aa Ad) from z) (by simp)) (by simp)
    | some u =>
     rcases Q b with z | ⟨ob,xs,z⟩
     .rw[q] at z;cases z
     .have z2:=un.frzs b ob _ z;obtain⟨N,_⟩:=A b _ z;obtain⟨X,_⟩:=B b _ z2;rw[e] at N;cases N;exact X
 cases L:K.lookup a with
 | some o =>
  have e:=KX a o L;rw[U] at e;cases e;refine core (λ_=>none) (λ_=>.inl rfl) (.inr ⟨_,I.toArray,_,L,rfl,rfl,rfl,by rw[aY,D];exact hl,by simpa using R⟩) (λb u z=>by have E:(none:Ab HO)=some u:=z;cases E) (λb z=>absurd rfl z) λz=>absurd rfl z
 | none =>
  refine core (λb=>if b=a then some (.frz { cls:=.type "list",data:=.seq I.toArray } (.l (ns.map V.int))) else none) (λb=>?_) (.inl (.inr ⟨{ cls:=.type "list",data:=.seq I.toArray },aO rfl⟩)) (λb u z=>?_) (λb z=>?_) λ_=>L
  .by_cases j:b=a
   .exact .inr ⟨_,_,aO j⟩
   .exact .inl (aJ j)
  .by_cases j:b=a
   .have E:=(aO j).symm.trans z;cases E;subst j;exact⟨U,by rw[aA];exact hl,I,_,R,U⟩
   .have E:=(aJ j).symm.trans z;cases E
  .by_cases j:b=a
   .exact j
   .exact absurd (aJ j) z
theorem walk_of {l:PySem.W.OpenLaw}{n k:Nat}{q:Ah}{j:Aa Af}{XP:(Af->Ab Ac)->Ag->Prop}{YP:World->Ag->Prop}{d:DefRec}{K:Params->mI}{CX:World->Cp}{sp:World->Sp}{x:Af}
  (hn:l.most=some n) (U:n<=sizeLine) (J:d.params.defaults=[]) (hr:Room k callerA)
  (hY:∀ (w:World) (h:Ag),YP w h->(K w.params).In h)
  (F:∀ (w:World) (p:Af->Ab Ac) (r:Ad) (h:Ag),(K w.params).In h->h.Ns mainGlobals p->p d.name=some (.ref r) ->∃ fd:FuncData,(∀ (s:Ae) (u:Ac),BindsTo s fd ⟨[u],[]⟩ [(x,u)]) /\ ∀ base:Ag,(K w.params).In base->base.Ns mainGlobals p->FnOk l.prog w (K w.params) p base (CX w) k r fd [x] (sp w))
  (aa:∀ (w:World) (H:Hp) (a:Ad) (C:Aa Int),C.length<=n->Nl H->mL (K w.params) H a (C.map V.int)->sp w [.ref a] H (λv _=>v = .b true) λ_ _ _=>False)
  (I:∀ (w:World) (H:Hp) (s:Ae) (e:Ac) (s':Ae),CX w [] H s (λ_ _ _=>False) e s'->False) :
  PySem.W.WalkO q j XP YP l.row.toRowW d [] (λf vs=>PySem.call f vs):=by
 refine Att.attach_call hn J λw A t p Q r o pm cd B a vs C G Y P hd N y m i c O=>?_
 have z:=hY w _ Y;obtain⟨fd,M,D⟩:=F w p r _ z G.T.g y;exact GG z G.T.g G.T.b G.T.builtins G.T.nolimit O m i (bX c U) hr D M (λH E L=>aa w H a C c E L) λH e s'=>I w H t e s'
def vD (s:Stmt):Arguments:=match s with
 | .FunctionDef _ a _ _ _ _ _ _ _ _=>a
 | _=>{ posonlyargs:=[],args:=[],vararg:=none,kwonlyargs:=[],kw_defaults:=[],kwarg:=none,defaults:=[] }
def tL (s:Stmt):Aa Stmt:=match s with
 | .FunctionDef _ _ b _ _ _ _ _ _ _=>b
 | _=>[]
def nF (s:Stmt):Scope:=match s with
 | .FunctionDef _ _ _ _ _ _ a _ _ _=>a
 | _=>{ kind:=.function,names:=[],isGenerator:=false,isCoroutine:=false }
abbrev pE:Cp:=λ_ _ _ _ _ _=>False
abbrev E0:XK:=λ_ _ _=>False
theorem tJ {X:Cx}:Iq pE X E0:=λ_ _ _ _ _ _ _ h=>h.elim
structure Fun (K:mI) (x qual:Str) (st:Stmt) (f:Addr) (fd:FuncData):Prop where
 ex:∃ (oc:Value) (od:Option Addr) (kV doc pm:Value) (an:Option Addr) (cdv ct:Value) (osl:Array (Option Value)),
  fd=PySem.W.fnOf x qual (vD st) (tL st) (nF st) .none kV doc pm an cdv ct/\K.lookup f=some ⟨oc,od,.func fd,osl⟩/\PySem.W.codeIn K cdv qual=true
 kp:PySem.W.keepIn K (.ref f)=true
section
variable {P:Ah}{K:mI}
theorem Fun.ok {st:Stmt}(F:Fun K x l st f fd) (S:FnScope N r (nF st)) (len:∀ p H Q E,C p H Q E->p.length=r.length)
  (o:∀ (j:Ac) (A:Around) (g:Aa Env) (s:Ae) (H:Hp) (p:Aa V) (Q:VK) (E:XK),Room k (A.deeper (envOfC l (nF st) s.heap.objs.size f j))->C p H Q E ->∃ t,qG (zF pE P w K J base N l (nF st) f j A g s H E).nox (tL st) t/\t { nx:=λ_ I=>Q .e I,rt:=Q } (vZ N p) H):FnOk P w K J base pE (k+1) f fd r C:=by
 obtain⟨v,y,kV,c,pm,n,j,u,m,rfl,i,a⟩:=F.ex;refine BV i a S len λA g s H p Q E d b=>?_
 obtain⟨t,h,q⟩:=o j A g s H p Q E d b;exact⟨t,h.nox,q⟩
theorem Fun.binds {st:Stmt}(F:Fun K x l st f fd)
  (h:∀ (kV j pm:Ac) (o:Ab Ad) (g p:Ac) (r:Aa Ac),r.length=C.length->bindArgs (PySem.W.fnOf x l (vD st) (tL st) (nF st) .none kV j pm o g p) ⟨r,[]⟩=pure (C.zip r)):zD K fd C []:=by
 obtain⟨d,e,kV,j,pm,o,g,p,b,rfl,c,a⟩:=F.ex;exact .all (h kV j pm o g p)
theorem Tg {st:Stmt}{kV:Ac}(l:K.lookup f=some ⟨I,J,.func (PySem.W.fnOf x g (vD st) (tL st) (nF st) .none kV o pm r j C),p⟩)
  (c:PySem.W.codeIn K j g=true) (k:PySem.W.keepIn K (.ref f)=true):Fun K x g st f (PySem.W.fnOf x g (vD st) (tL st) (nF st) .none kV o pm r j C):=⟨⟨I,J,kV,o,pm,r,j,C,p,rfl,l,c⟩,k⟩
end
theorem Mz (g:Room k A):A.units+1<cLine:=cK (Nat.add_le_add_left (by decide:1<=64) _) g.units
section
variable {X:Cx}
theorem pv (i:Nat) (j:X.N[i]?=some x:=by rfl) (l:Iz X.env.scope x:=by first | exact Or.inl rfl | exact Or.inr (Or.inl rfl) | exact Or.inr (Or.inr rfl)) (hd:(x == ("__debug__" : Af))=false:=by decide)
  (g:(x == ("__classdict__" : Af))=false:=by decide):PE X (.Name x pos) (pX i):=AX j l hd g
theorem KW:oI X (.builtin "len") (λj H Q=>∃ a g,j=[V.ref a]/\H a=some (.k g)/\Q (.int g.length) H):=by
 intro b s m H j i Q I r h;obtain⟨a,g,rfl,d,q⟩:=h;obtain⟨u,rfl,e⟩:=rF r;cases e;exact BI I (.inl d) λt f c=>⟨.int g.length,H,c,⟨t,rfl⟩,q⟩
end
theorem rY {A B:Prop}(h:B):if false=true then A else B:=by
 rw[aJ bC];exact h
theorem Ay {c A B:Prop} [Decidable c] (g:c->A) (j:¬ c->B):if c then A else B:=by
 by_cases h:c
 .rw[aO h];exact g h
 .rw[aJ h];exact j h
def pV (H g:Hp):Prop:=∀ b o,H b=some o->g b=some o
theorem pV.trans (a:pV H g) (b:pV g j):pV H j:=λc o h=>b c o (a c o h)
theorem pV.free (e:pV H g) (h:g l=Option.none):H l=Option.none:=by
 cases q:H l with
 | none=>rfl
 | some o =>
  rw[e l o q] at h;cases h
theorem pV.seq {K:mI}(e:pV H g) (h:mL K H a j):mL K g a j:=by
 rcases h with (h | ⟨o,h⟩) | h
 .exact .inl (.inl (e _ _ h))
 .exact .inl (.inr ⟨o,e _ _ h⟩)
 .exact .inr h
section
variable [DecidableEq κ]
theorem Uh:∀ {l:Aa κ}{k:κ},l.Nodup->¬ k∈l->(l++[k]).Nodup
 | [],k,_,_=>by simp
 | a::r,k,h,b=>by
  obtain⟨c,d⟩:=bY.mp h;show (a::(r++[k])).Nodup;refine bY.mpr ⟨λm=>?_,Uh d λm=>b (aK.mpr (Or.inr m))⟩;rcases aV.mp m with q | q
  .exact c q
  .exact b (aK.mpr (Or.inl (aX.mp q).symm))
end
section
variable {X:Cx}
theorem Ge {K:mI}:∀ {j:Aa Int}{g:Aa Ac},mY (j.map V.int) g->∃ xs:Array (Int×Tok),g.toArray=intItems xs/\j=xs.toList.map (·.1)
 | [],_,.nil=>⟨#[],by simp[intItems],rfl⟩
 | n::j,_,.cons r c=>by
  obtain⟨t,rfl⟩:=r;obtain⟨xs,a,b⟩:=Ge (K:=K) c;refine⟨(⟨(n,t)::xs.toList⟩:Array (Int×Tok)),?_,by rw[b];rfl⟩;have:(intItems xs).toList=_:=(cG Array.toList a).symm;unfold intItems at this |-;refine lP.mp ?_;simp only[Array.toList_map] at this |-;rw[aP,this]
theorem Jq (p:l=o.toList.map (·.1)) (g:j<o.size):∃ h:j<l.length,numAt o j=l[j]:=by
 subst p;refine⟨by simpa using g,?_⟩;simp[numAt,g]
theorem Ia (l:X.calm=true):oI X (.builtin "sum") (λj H Q=>∃ (p:Ad) (g:Aa Int),j=[.ref p]/\mL X.K H p (g.map V.int)/\Q (.int g.sum) H):=by
 intro a s z H j y Q I r h;obtain⟨p,g,rfl,d,q⟩:=h;obtain⟨u,rfl,m⟩:=rF r;cases m;obtain⟨f,k,i,w⟩:=I.list d;obtain⟨t,e,b⟩:=Ge (K:=X.K) k;refine sum_intListG (xs:=t) (I.ok.hd l) (e▸i.isList) λv x n c=>⟨.int g.sum,H,I.kept c,⟨n,?_⟩,q⟩
 rw[preSum_eq,bL (by simp),b]
theorem KA (l:X.calm=true):oI X (.builtin "min") (λxs H Q=>∃ (p:Ad) (g:Aa Int),xs=[.ref p]/\mL X.K H p (g.map V.int)/\g≠[]/\∀ m:Int,m∈g->(∀ a∈g,m<=a)->Q (.int m) H):=by
 intro n s Y H xs W Q I r h;obtain⟨p,g,rfl,B,f,q⟩:=h;obtain⟨u,rfl,N⟩:=rF r;cases N;obtain⟨E,M,L,P⟩:=I.list B;obtain⟨b,e,d⟩:=Ge (K:=X.K) M;have i:0<b.size:=by
  rcases Nat.eq_zero_or_pos b.size with z | z
  .exfalso;apply f;rw[d];simp[Array.size_eq_zero_iff.mp z]
  .exact z
 refine min_intList (xs:=b) (I.ok.hd l) (e▸L.isList) i λv O S D A=>?_
 obtain⟨t,rfl⟩:=intItems_at (xs:=b) D;have c:=argBest_lt (numAt b) (b.size-1);obtain⟨G,w⟩:=Jq d (cK c.1 (show b.size-1<b.size by omega));refine⟨.int _,H,I.kept A,⟨t,rfl⟩,q _ (w▸cN G) λa y=>?_⟩;obtain⟨j,k,rfl⟩:=eM y;have F:j<b.size:=by rw[d] at k;simpa using k
 obtain⟨R,x⟩:=Jq d F;exact x▸c.2 j (by omega)
theorem AH (l:X.calm=true):oI X (.builtin "max") (λxs H Q=>∃ (p:Ad) (g:Aa Int),xs=[.ref p]/\mL X.K H p (g.map V.int)/\g≠[]/\∀ m:Int,m∈g->(∀ a∈g,a<=m)->Q (.int m) H):=by
 intro n s Y H xs W Q I r h;obtain⟨p,g,rfl,B,f,q⟩:=h;obtain⟨u,rfl,N⟩:=rF r;cases N;obtain⟨E,M,L,P⟩:=I.list B;obtain⟨b,e,d⟩:=Ge (K:=X.K) M;have i:0<b.size:=by
  rcases Nat.eq_zero_or_pos b.size with z | z
  .exfalso;apply f;rw[d];simp[Array.size_eq_zero_iff.mp z]
  .exact z
 refine max_intList (xs:=b) (I.ok.hd l) (e▸L.isList) i λv O S D A=>?_
 obtain⟨t,rfl⟩:=intItems_at (xs:=b) D;have c:=argBest_gt (numAt b) (b.size-1);obtain⟨G,w⟩:=Jq d (cK c.1 (show b.size-1<b.size by omega));refine⟨.int _,H,I.kept A,⟨t,rfl⟩,q _ (w▸cN G) λa y=>?_⟩;obtain⟨j,k,rfl⟩:=eM y;have F:j<b.size:=by rw[d] at k;simpa using k
 obtain⟨R,x⟩:=Jq d F;exact x▸c.2 j (by omega)
def Tw (K:mI):V->Aa V->Hp->VK->Prop:=λx b H Q=>∃ (l:Ad) (a:Aa V) (y:V) (j:Nat),x = .ref l/\b=[y]/\mL K H l a/\a.all tT=true/\tT y=true/\j<a.length /\
 (∀ z,a[j]?=some z->qI z y=true)/\(∀ (m:Nat) z,m<j->a[m]?=some z->qI z y=false)/\Q (.int j) H
theorem W6:xT X "list.index" (Tw X.K):=by
 intro P s σ H x vs v U Q I C p h;obtain⟨l,D,y,j,rfl,rfl,Z,E,S,J,V,W,q⟩:=h;cases C;obtain⟨u,rfl,o⟩:=p.one;obtain⟨a,r,g,T⟩:=I.list Z;have M:=r.length;obtain⟨⟨cls,R,data,sl⟩,N,G,n,hd⟩:=g.isList;simp only at G hd;subst G hd;have O:∀ (i:Nat) (L:i<a.toArray.size),∃ z,D[i]?=some z/\sI y a.toArray[i]=qI z y:=λi L=>by
  have f:i<a.length:=by simpa using L
  have w:D[i]?=some (D[i]'(by omega)):=aE (by omega);obtain⟨B,hw,A⟩:=r.get w;have e:a.toArray[i]=B:=by
   rw[aE f] at hw
   simpa using bK hw
  refine⟨_,w,?_⟩;rw[e];exact Lx A (cH.mp E _ (aF w))
 have c:j<a.toArray.size:=by rw[aY];omega
 have k:sizeLine<2 ^ 63-1:=by decide
 refine iA jJ ⟨_,N,rfl⟩ PySem.F.entry_list_index (PySem.F.args_list_index_2 _ _)
  (SeqAt.list_indexAt l a.toArray n R sl u (sI y) j c (by omega) ?_ ?_) ⟨N,λB hw=>Cv o S r E B (by simpa using hw),⟨.int j,H,I.tok _,⟨_,rfl⟩,q⟩⟩
 .obtain⟨z,b,d⟩:=O j c;show sI y a.toArray[j]=true;rw[d];exact V z b
 .intro m Y t;obtain⟨z,b,d⟩:=O m Y;show sI y a.toArray[m]=false;rw[d];exact W m z t b
theorem Ke:∀ {j:Aa Af}{g:Aa Ac},mY (j.map V.str) g->StrsAre g j:=by
 intro j;induction j with
 | nil=>intro g r;cases r;exact .nil
 | cons y r c =>
  intro g h;cases h with
  | cons a b =>
   obtain⟨t,rfl⟩:=a;exact .cons _ _ (c b)
def QL (K:mI):V->Aa V->Hp->VK->Prop:=λx b H Q=>∃ (z:Af) (l:Ad) (a:Aa Af),x = .str z/\b=[.ref l]/\(mL K H l (a.map V.str)\/nP K H l (a.map V.str)) /\
 (a.map (·.length)).sum+a.length*z.length<=16777216/\Q (.str (Txt.join z a)) H
theorem ML:xT X "str.join" (QL X.K):=by
 intro e s B H x y v w Q I m i h;obtain⟨z,l,A,rfl,rfl,a,d,q⟩:=h;obtain⟨t,rfl⟩:=m;obtain⟨u,rfl,f⟩:=i.one;cases f;rcases a with a | a
 .obtain⟨b,r,c,_⟩:=I.list a;exact join_list c.isList (by simpa using Ke r) d λn k=>⟨.str _,H,I.tok _,⟨_,rfl⟩,q⟩
 .obtain⟨b,r,c,_⟩:=I.tuple a;exact join_tuple c (by simpa using Ke r) d λn k=>⟨.str _,H,I.tok _,⟨_,rfl⟩,q⟩
end
section
variable {X:Cx}
def Ki (K:mI) (neg:Bool):R2:=λx y H Q=>∃ (a b:Ad) (c:Aa V),x = .ref a/\y = .ref b/\mL K H a c/\mL K H b []/\Q (.b (if neg then !c.isEmpty else c.isEmpty)) H
theorem Oi (g:X.A.units+64<cLine):nJ X (compareOp .Eq) (Ki X.K false):=by
 intro c s M H x y v u Q I F G h;obtain⟨a,b,L,rfl,rfl,f,z,q⟩:=h;cases F;cases G;obtain⟨B,D,m,_⟩:=I.list f;obtain⟨k,E,n,_⟩:=I.list z;cases E;have t:∀ d,d=L.isEmpty->EP X c M Q (.bool d) s:=λd e=>⟨.b d,H,I,rfl,by subst e;exact q⟩
 cases D with
 | nil=>exact SeqAt.RcAt.lists (e:=λ_=>true) m.isList n.isList rfl (by omega) (λi f _=>by simp at f) X.prog X.w _ _ (t _ (by simp))
 | cons r N=>exact SeqAt.RcAt.lists_lengths m.isList n.isList (by simp) (by omega) X.prog X.w _ _ (t _ rfl)
end
section
variable {X:Cx}
def vH (z:Af) (lo g:Ab Int):Af:=⟨((z.cps.toList.drop (HT.sIx z.length 0 lo)).take (HT.sIx z.length z.length g-HT.sIx z.length 0 lo)).toArray⟩
theorem FO (lo g:Ab Int) (n:Nat):Builtin.Str.strSliceIndices lo g 1 n=(List.range (HT.sIx n n g-HT.sIx n 0 lo)).map (HT.sIx n 0 lo+·):=by
 unfold Builtin.Str.strSliceIndices;rw[<- sliceRange_one];have c:∀ (v:Ab Int) (d:Nat),d<=n->(match v with | none=>((d:Nat):Int) | some i=>if (1:Int)>0 then max 0 (min (if i<0 then i+(n:Int) else i) (n:Int)) else max (-1) (min (if i<0 then i+(n:Int) else i) ((n:Int)-1)))=((HT.sIx n d v:Nat):Int):=by
  intro v d hd;cases v with
  | none=>rfl
  | some i =>
   simp only[HT.sIx,show (1:Int)>0 by decide,gR];by_cases h:i<0
   .simp only[h,gR]<;>omega
   .simp only[h,gC]<;>omega
 have a:=c lo 0 (cR _);have b:=c g n (aU _);simp only[show (1:Int)>0 by decide,gR] at a b |-;rw[<- a,<- b];cases lo<;>cases g<;>rfl
def Us:V->Ab Int->Ab Int->Hp->VK->Prop:=λx lo a H Q=>∃ z:Af,x = .str z/\z.length<=sizeLine/\Q (.str (vH z lo a)) H
theorem R5 (p:IsPart v o):∃ l:Ab (Int×Tok),v=partValue l/\o=l.map (·.1):=by
 cases p with
 | none=>exact⟨none,rfl,rfl⟩
 | int i t=>exact⟨some (i,t),rfl,rfl⟩
theorem Ao (z:Af):z.cps.toList.length=z.length:=by
 rw[eL];rfl
theorem IN {a b:Af}(h:a.cps.toList=b.cps.toList):a=b:=by
 obtain⟨a⟩:=a;obtain⟨b⟩:=b
 congr
 exact lP.mp h
theorem L6:xI X Us:=by
 intro c s K H x v E G lo B sl Q I A n w y h;obtain⟨z,rfl,D,q⟩:=h;obtain⟨t,rfl⟩:=A;obtain⟨l,rfl,rfl⟩:=R5 w;obtain⟨u,rfl,rfl⟩:=R5 y;refine⟨"str",_,PySem.F.slot_str_getitem.lookup,lA _ z t,?_⟩;refine wpAny_getItem_str_slice (l:=l) (u:=u) (st:=none) n rfl ?_;have e:slicePicked z l u none=(List.range (HT.sIx z.length z.length (u.map (·.1))-HT.sIx z.length 0 (l.map (·.1)))).map (HT.sIx z.length 0 (l.map (·.1))+·):=FO _ _ _;have d:(⟨((slicePicked z l u none).filterMap (z.cps[·]?)).toArray⟩:Af)=vH z (l.map (·.1)) (u.map (·.1)):=by
  rw[e,pick_run];rfl
 have m:=HT.sIx_le z.length z.length (aU _) (u.map (·.1));have b:=HT.sIx_le z.length 0 (cR _) (l.map (·.1));unfold sliceMade;split
 .rename_i k
  have a:(slicePicked z l u none).length=z.length:=by
   have:=(cJ _ _).mp k;exact eq_of_beq this.2
  have f:vH z (l.map (·.1)) (u.map (·.1))=z:=by
   rw[e,aA,cF] at a;apply IN;show ((z.cps.toList.drop _).take _)=z.cps.toList;have i:HT.sIx z.length 0 (l.map (·.1))=0:=by omega
   rw[i] at a |-;rw[jP,bL];rw[Ao];omega
  rw[f] at q;exact⟨.str z,H,I,⟨t,rfl⟩,q⟩
 .rw[d];refine⟨?_,.str _,H,I.tok _,⟨_,rfl⟩,q⟩;have:(vH z (l.map (·.1)) (u.map (·.1))).length<=z.length:=by
   show ((z.cps.toList.drop _).take _).toArray.size<=_;rw[aY,bU,eK,Ao];omega
  omega
theorem LB:oI X (.type "dict") (λj H Q=>∃ (a:Ad) (g:Aa (gD×V)),j=[.ref a]/\H a=some (.k g)/\∀ p,H p=none->Q (.ref p) (upd H p (.k g))):=by
 intro b s n H j m Q I r h;obtain⟨a,g,rfl,d,q⟩:=h;obtain⟨u,rfl,f⟩:=rF r;cases f;exact GZ I (.inl d) λp i e c=>⟨.ref p,_,c,rfl,q p e⟩
theorem QY (I:KV g C) (j:(g.map (·.1)).Nodup) :
  ∀ (r:Aa (gD×V)) (o:Aa (gD×Ac)),KV r o->(∀ p∈r,p∈g)->(∀ p∈r,tT p.2=true/\qI p.2 p.2=true)->PySem.W.KeqHits A s C o true:=by
 intro r;induction r with
 | nil=>intro o h _ _;cases h;exact .nil
 | cons p r x =>
  intro o h c i;cases h with
  | cons t u =>
   rename_i q d
   obtain⟨k,v⟩:=p;obtain⟨D,K⟩:=q;obtain⟨e,G⟩:=t;have e:k=D:=e;subst e;have w:rW g k=some v:=by
    have b:=c (k,v) aH;have:∀ (l:Aa (gD×V)),(l.map (·.1)).Nodup->(k,v)∈l->rW l k=some v:=by
     intro l;induction l with
     | nil=>intro _ h;cases h
     | cons a l B =>
      intro j c;have j:(a.1::l.map (·.1)).Nodup:=j;obtain⟨E,F⟩:=bY.mp j;rcases aK.mp c with z | z
      .subst z;exact Eb rfl
      .rw[Fc (λe=>E (by rw[e];exact aN.mpr ⟨_,z,rfl⟩))];exact B F z
    exact this g j b
   have m:=I.val k;rw[w] at m;obtain⟨y,n,H⟩:=m.some_of;obtain⟨f1,f2⟩:=i (k,v) aH;have f:SeqAt.EqAt A s K y (qI v v):=Xv G H f1 f1;rw[f2] at f;have:=PySem.W.KeqHits.hit n f (x d u (λp b=>c p (aQ _ b)) λp b=>i p (aQ _ b))
   simpa using this
theorem SV:oI X (.builtin "isinstance") (λj H Q=>∃ (x c:V) (t g:Ac) (b:Bool),j=[x,c]/\nC c g/\TyOf X.K H x t/\PySem.W.kitOne X.K t g=some b/\Q (.b b) H):=by
 intro k s A H j y Q I r h;obtain⟨x,c,t,g,b,rfl,d,ty,e,q⟩:=h;obtain⟨u,v,rfl,m,f⟩:=Ba r;have:v=g:=by
  cases c with
  | ref a=>cases d;cases f;rfl
  | ty n=>cases d;cases f;rfl
  | e=>cases d;cases f;rfl
  | b b=>cases d;cases f;rfl
  | int i=>obtain⟨z,rfl⟩:=d;exact absurd e (by unfold PySem.W.kitOne PySem.W.kitCls;cases ty<;>simp)
  | str i=>obtain⟨z,rfl⟩:=d;exact absurd e (by unfold PySem.W.kitOne PySem.W.kitCls;cases ty<;>simp)
  | byt i=>obtain⟨z,rfl⟩:=d;exact absurd e (by unfold PySem.W.kitOne PySem.W.kitCls;cases ty<;>simp)
  | flt i=>obtain⟨z,rfl⟩:=d;exact absurd e (by unfold PySem.W.kitOne PySem.W.kitCls;cases ty<;>simp)
 subst this;exact JO I m ty e λw=>⟨.b b,H,I.tok _,rfl,q⟩
end
def wJ (z:Af):It:=⟨λi _=>i<z.length,λi H x a=>a=H/\∃ c,z.cps[i]?=some c/\x = .str ⟨#[c]⟩,λi _=>z.length<=i⟩
theorem Vc {P:Ah}{K:mI}(z:Af) (t:Tok) (it:Ad):Turn P w K tg (wJ z) [it] it (λi h=>h.IsStrIter it "str_ascii_iterator" z t i) where
 mem:=by simp
 obj:=λi h st b hb=>by
  have e:b=it:=by simpa using hb
  subst e;obtain⟨o,e,c,d⟩:=st;exact⟨o,e,λv z=>by rw[d] at z;cases z⟩
 keep:=λi h h' st k=>by
  obtain⟨o,e,r⟩:=st;exact⟨o,k it (by simp) o e,r⟩
 item:=by
  intro X hP hw hK hc i pins s σ H E I hf st hg;subst hP hw hK;have hg:i<z.length:=hg;obtain⟨f0,f1,f2,f3,f4,f5⟩:=hf it (by simp);have hz:z.cps[i]?=some (z.cps[i]'hg):=cI hg;refine wpAny_pyNext_ascii_item st hz λh' st' sb=>?_
  have I1:Inv X pins σ H { s with heap:=h',toks:=s.toks+1 }:=I.turned (t':=s.toks+1) (λb o hb e=>(sb.2 b hb).trans e) f0 f1 f3 f4 f5;obtain⟨o,e,c,d⟩:=id st';exact⟨_,rfl,By (s:={ s with heap:=h',toks:=s.toks+1 }) e c d (by decide) ⟨.str ⟨#[z.cps[i]'hg]⟩,H,I1,⟨_,rfl⟩,⟨rfl,_,hz,rfl⟩,st',λb hb=>(hf b hb).1⟩⟩
 done:=by
  intro X hP hw hK hc i pins s σ H E I hf st hg;subst hP hw hK;have hg:z.length<=i:=hg;obtain⟨f0,f1,f2,f3,f4,f5⟩:=hf it (by simp);exact wpAny_pyNext_ascii_end (I.ok.hd hc) st (fX (by exact hg)) λh' eb=>⟨rfl,I.turned (t':=s.toks) (λb o hb e=>eb b o hb e) f0 f1 f3 f4 f5⟩
 self:=λ_ _ _ _ _ st h=>wpAny_pyIter_striter_ascii st h
section
variable {X:Cx}
def RX (g:TE):TI:=λb H R=>g b H λx a=>∃ z:Af,x = .str z/\z.cps.all (·<128)=true/\R (wJ z) a
theorem BB (g:PE X l j):PI X o l (RX j):=by
 intro a s k H R I h;refine mV (g a s k H _ I h) λv c f=>?_
 obtain⟨x,i,d,y,z,n,u,q⟩:=f;subst n;obtain⟨t,rfl⟩:=y;refine wpAny_pyIter_ascii u ?_;have m:Inv X a k i { c with heap:=c.heap.push { cls:=.type "str_ascii_iterator",data:=.fields #[.str z t,.int 0 0] } }:=d.kept (t':=c.toks) λb A q=>aG _ q
 refine⟨c.heap.objs.size,[c.heap.objs.size],_,wJ z,i,rfl,m,Vc z t _,⟨_,bA _ rfl,rfl,rfl⟩,λb w=>?_,q⟩;have e:b=c.heap.objs.size:=by simpa using w
 subst e;exact d.fpOk (aU _) (d.hok.fresh (aU _))
end
def vI (g:Aa Af) (x:Af):Aa Af:=if x∈g then g else g++[x]
def pM (l:Aa Af):Aa Af:=l.foldl vI []
theorem N6 (l:Aa Af) (x:Af):pM (l++[x])=vI (pM l) x:=by unfold pM;rw[List.foldl_append];rfl
theorem OO (g:Aa Af) (x y:Af):y∈vI g x↔y∈g\/y=x:=by
 unfold vI;split
 .rename_i h
  constructor
  .exact .inl
  .rintro (q | q)
   .exact q
   .rw[q];exact h
 .simp[aV]
theorem Hg (g:Aa Af) (x:Af):(vI g x).length=if x∈g then g.length else g.length+1:=by
 unfold vI;split<;>simp
theorem RJ (l:Aa Af):∀ k,(pM (l.take k)).length<=k:=by
 intro k;induction k with
 | zero=>simp[pM]
 | succ k a =>
  rw[bM];cases e:l[k]? with
  | none=>simp;omega
  | some x =>
   simp only[Option.toList_some];rw[N6,Hg];split<;>omega
theorem LN (r:Aa Af):∀ g,g.length<=(r.foldl vI g).length/\(r.foldl vI g).length<=g.length+r.length:=by
 induction r with
 | nil=>intro g;simp
 | cons x r a =>
  intro g;have h:=a (vI g x);rw[Hg] at h;simp only[jC,bS];split at h<;>omega
theorem NV:∀ (r g:Aa Af),g.Nodup->(r.foldl vI g).length=g.length+r.length->(g++r).Nodup:=by
 intro r;induction r with
 | nil=>intro g h _;simpa using h
 | cons x r d =>
  intro g h e;simp only[jC,bS] at e;have b:=LN r (vI g x);rw[Hg] at b;by_cases a:x∈g
  .rw[aO a] at b;omega
  .have c:vI g x=g++[x]:=by unfold vI;rw[if_neg a]
   rw[c] at e;have:=d (g++[x]) (Uh h a) (by rw[e];simp;omega)
   simpa using this
theorem OD (h:(pM l).length=l.length):l.Nodup:=by
 have:=NV l [] dZ (by simpa [pM] using h)
 simpa using this
theorem S0 {P:Ah}{w:World}{h:Ag}{a:Ad}{S g:Af->Bool}{n j:Nat}(z:h.SetOf (PySem.strKind P w) a S n) (e:∀ k,S k=g k) (l:n=j):h.SetOf (PySem.strKind P w) a g j:=by
 have:S=g:=funext e;subst this l;exact z
section
variable {R:Result->Ae->Prop}{P:Nat->Ac->Prop}{St:Nat->Ae->Prop}
theorem JG (W:WalksS g w A.in1 J I C G n P St) (a:Ad) (p:a∉I) (j:Aa Af) (aa:j.length=n) (hp:∀ i v,P i v->∃ x t,j[i]?=some x/\v = .str x t) (r:n+1<scanBound) :
  ∀ (k i:Nat) (s:Ae),n-i=k->i<=n->St i s->s.heap.SetOf (PySem.strKind g w) a (λx=>decide (x∈pM (j.take i))) (pM (j.take i)).length ->
   (∀ l,Moved (a::C) G s l->l.heap.SetOf (PySem.strKind g w) a (λx=>decide (x∈pM j)) (pM j).length->R (.ok (.ret .none)) l) ->
   codeAny (model g w) A (.builtin "set.update.loop" ⟨[.ref a,.ref J],[]⟩) R s:=by
 have h:a∉C:=λz=>p (W.sub _ z)
 have c:∀ b∈C,b∈a::C:=λb z=>aQ _ z
 intro k;induction k with
 | zero =>
  intro i s hk U st E L;have Z:i=n:=by omega
  subst Z;rw[bL (by omega)] at E;refine gO iY ?_;rw[fO fV _];show wpAny _ A.in1 (pyNext (.ref J) >>= _) _ _ s;refine aB (W.done s _ _ st λl u=>?_);show wpAny _ A.in1 (ret Value.none) _ _ l;obtain⟨o,H,F,t,Q,rest⟩:=E;exact aI (L l (u.mono c) ⟨o,H,F,t,u.heap a _ h Q,rest⟩)
 | succ k ih =>
  intro i s hk U st E L;have q:i<n:=by omega
  refine gO iY ?_;rw[fO fV _];show wpAny _ A.in1 (pyNext (.ref J) >>= _) _ _ s;refine aB (W.item i s _ _ q st λv l hv V u=>?_);obtain⟨x,t,hx,rfl⟩:=hp i v hv;have M:l.heap.SetOf (PySem.strKind g w) a (λx=>decide (x∈pM (j.take i))) (pM (j.take i)).length:=by
   obtain⟨o,H,F,tb,Q,rest⟩:=E;exact⟨o,H,F,tb,u.heap a _ h Q,rest⟩
  show wpAny _ A.in1 (holding [Value.str x t] (setAdd a (.str x t)) >>= _) _ _ l;refine aB (cD ?_);unfold setAdd;refine cD ?_;have m:(PySem.strKind g w).is x (.str x t)=true:=by simp[PySem.strKind,Value.isStrOf]
  refine aB ((PySem.strKind g w).pyHash (k:=x) m ?_);have d:(pM (j.take i)).length+1<scanBound:=by have:=RJ j i;omega
  refine wpAny_setAddHashed_of (knd:=strKind g w) (s:={ l with toks:=l.toks+1 }) m rfl M d λT Y N=>?_
  have X:j.take (i+1)=j.take i++[x]:=by rw[bM,hx];rfl
  have O:T.SetOf (PySem.strKind g w) a (λx=>decide (x∈pM (j.take (i+1)))) (pM (j.take (i+1))).length:=by
   refine S0 N (λy=>?_) ?_
   .rw[X,N6];have:=OO (pM (j.take i)) x y;by_cases D:y∈pM (j.take i)<;>by_cases K:y=x<;>simp only[D,K,true_or,or_true,eZ,false_or] at this<;>simp[this,D,K]
    all_goals (subst K;simp[this])
   .rw[X,N6,Hg];by_cases D:x∈pM (j.take i)<;>simp[D]
  refine aI ⟨kC fV _,ih (i+1) _ (by omega) q (W.frame _ l _ _ V (iL _) λb r o e=>?_) O λS B f=>?_⟩
  .rw[Y.2 b (λz:b=a=>p (by rw[<- z];exact r))];exact e
  .refine L S (Moved.trans W.gtrans ((u.mono c).then_heap (iL _) λb o r e=>?_) B) f;rw[Y.2 b (λz:b=a=>r (by rw[z];exact aH))];exact e
end
end L2
namespace PySem
open PyProof.Rows L2
section
theorem GJ
  (fill:∀ g,wpAny (model j w) A.in1.in1 (Builtin.«set.__init__» ⟨[.ref s.heap.objs.size,x],[]⟩) (λf l=>f = .done (.ret .none)/\Q (.ref s.heap.objs.size) l) E { s with heap:=s.heap.push { cls:=.type "set",dict:=none,data:=.set #[] 0 (.fresh 0 0 g) } }) :
  wpAny (model j w) A (call (.type "set") [x]) Q E s:=by
 obtain⟨c,r,d⟩:=F.called_set.mro;refine wpAny_call (codeAny_of_tree (aI ⟨Code.quiet_builtin _ (by decide +kernel),gO F.entry_type_call ?_⟩));have b:=F.called_set;have body:wpAny (model j w) A.in1 (Builtin.«type.__call__» ⟨[.type "set",x],[]⟩) (λf l=>match f with | .done f=>wants Q E (.ok f) l | .again h=>h.quiet=true/\codeAny (model j w) A h (wants Q E) l) (λe l=>wants Q E (.error e) l) s:=by
  unfold Builtin.«type.__call__»;dsimp only;rw[b.notType];simp only[eC,gC,b.canCreate];refine aB (hX (F.typeCall_set_1 x) (aB (hX d ?_)));rw[aJ (show ¬ (c::r).isEmpty=true from bC)];refine aB (hX b.made (aB (aI (aB (cD (wpAny_call (code_set_new_1 x λg=>?_)))))));have a:Shared.TypeIs { s with heap:=s.heap.push { cls:=.type "set",dict:=none,data:=.set #[] 0 (.fresh 0 0 g) } } (.ref s.heap.objs.size) "set" := ⟨_,bA _ rfl,rfl⟩;refine aB (dU a b.sub ?_);rw[aJ (show ¬ (!true)=true from bC)];refine aB (cD (cM a b.init (wpAny_call (codeAny_call_builtin b.init.plain F.entry_set_init (check_set_init_1 a ?_)))));refine cO (fill g) (λf l q=>?_) λ_ _ q=>q
  obtain⟨rfl,q⟩:=q;exact aI q
 exact body
theorem BD {S:Ad}(p:s.heap.IsList l C)
  (o:codeAny (model g w) A (.builtin "set.update.loop" ⟨[.ref S,.ref s.heap.objs.size],[]⟩) (λr j=>match r with | .ok (.ret _)=>Q () j | .ok _=>False | .error e=>E e j) { s with heap:=s.heap.push { cls:=.type "list_iterator",data:=.fields #[.ref l,.int 0 0] } }) :
  wpAny (model g w) A (Builtin.Frozenset.updateFrom "set.__init__" S (.ref l)) Q E s:=by
 have a:wpAny (model g w) A (Builtin.Frozenset.isAnySet (.ref l)) (λb j=>b=false/\j=s) E s :=
  aB (dU p.typeIs F.sub_list_set (dU p.typeIs F.sub_list_frozenset ⟨rfl,rfl⟩))
 refine aB (cO a (λb j q=>?_) λ_ _ q=>q);obtain⟨rfl,rfl⟩:=q;refine aB (fH p.typeIs (aB (fQ p (aB (wpAny_runValue ?_)))));exact codeAny_mono o λr j q=>by
  match r,q with
  | .ok (.ret v),q=>exact aI q
  | .error e,q=>exact q
abbrev Fs (g:Bool):Obj:={ cls:=.type "set",dict:=none,data:=.set #[] 0 (.fresh 0 0 g) }
theorem FW {S:Ad}(o:s.heap.get? S=some (Fs g))
  (fill:wpAny (model j w) A (Builtin.Frozenset.updateFrom "set.__init__" S x) (λ_ l=>Q (.done (.ret .none)) l) E s) :
  wpAny (model j w) A (Builtin.«set.__init__» ⟨[.ref S,x],[]⟩) Q E s:=by
 unfold Builtin.«set.__init__»;generalize Builtin.Frozenset.updateFrom=up at fill |-
 wp_walk
 exact cO fill (λ_ _ q=>aI q) λ_ _ q=>q
theorem Yk (z:StrsAre g j):j.length=g.length:=by
 induction z with
 | nil=>rfl
 | cons _ _ _ a=>rw[bS,bS,a]
theorem SD (z:StrsAre g j):∀ {i:Nat}{v:Ac},g[i]?=some v->∃ x t,j[i]?=some x/\v = .str x t:=by
 induction z with
 | nil=>intro i v e;cases e
 | cons x t _ a =>
  intro i v e
  match i,e with
  | 0,e=>exact⟨x,t,rfl,(bK e).symm⟩
  | i+1,e=>exact a (i:=i) e
theorem Sh {s g:Ae}(a:g.gens=s.gens) (b:g.drawn=s.drawn) (c:g.os=s.os):g={ s with heap:=g.heap,toks:=g.toks }:=by
 cases s;cases g;cases a;cases b;cases c;rfl
theorem MF (T:A.handled=none) (C:s.heap.IsList l items) (I:StrsAre items.toList p) (J:items.size+1<scanBound)
  (h:∀ (r:Ag) (U:Nat),r.SetOf (PySem.strKind j w) s.heap.objs.size (λx=>decide (x∈pM p)) (pM p).length->(∀ b o,b<s.heap.objs.size->s.heap.get? b=some o->r.get? b=some o) ->Q (.ref s.heap.objs.size) { s with heap:=r,toks:=U }):wpAny (model j w) A (call (.type "set") [.ref l]) Q E s:=by
 refine GJ λg=>FW (bA _ rfl) (BD (C.push _) ?_)
 have two:(s.heap.push (Fs g)).objs.size=s.heap.objs.size+1:=dR ..;have lt:l<s.heap.objs.size:=by
  obtain⟨o,e,_⟩:=C;exact aZ e
 have d:l≠(s.heap.push (Fs g)).objs.size:=by
  rw[two];exact bO (Nat.lt_succ_of_lt lt)
 have f:s.heap.objs.size∉[(s.heap.push (Fs g)).objs.size,l]:=λz=>by
  rw[two] at z;rcases aK.mp z with q | q
  .exact bO (Nat.lt_succ_self _) q
  .exact hZ lt (aX.mp q)
 have len:p.length=items.size:=by rw[Yk I,eL]
 have item:∀ (i:Nat) (v:Ac),items[i]?=some v->∃ x t,p[i]?=some x/\v = .str x t:=λi v e=>SD I (by rw[cZ];exact e)
 have empty:((s.heap.push (Fs g)).push { cls:=.type "list_iterator",data:=.fields #[.ref l,.int 0 0] }).SetOf (PySem.strKind j w) s.heap.objs.size (λx=>decide (x∈pM (p.take 0))) (pM (p.take 0)).length :=
  S0 ((setObjOf_fresh (knd:=PySem.strKind j w) g).setOf (aG _ (bA _ rfl)) (by unfold scanBound;omega)) (λ_=>by simp[pM]) (by simp[pM])
 refine JG ((Walks.list (by simp[T]) _ l d items).toS) s.heap.objs.size f p len item J items.size 0 _ (by omega) (cR _) ⟨⟨_,bA _ rfl,rfl,rfl⟩,(C.push _).push _⟩ empty λa c fin=>?_
 have res:=h a.heap a.toks fin λb o k e=>c.heap b o (λz=>?_) (aG _ (aG _ e))
 .rw[show a={ s with heap:=a.heap,toks:=a.toks } from Sh c.gens c.drawn c.os];exact⟨rfl,res⟩
 .rcases aK.mp z with q | q
  .exact bO k q
  .have q:=aX.mp q;rw[two] at q;exact bO (Nat.lt_succ_of_lt k) q
end
end PySem
namespace L2
open PySem PySem.Spec PyProof.Rows
section
variable {X:Cx}
def Cb (P:Ah) (w:World) (a:Ad) (n:Nat):HO:=.ext λh=>∃ S,h.SetOf (PySem.strKind P w) a S n
theorem MC (l:X.calm=true):oI X (.type "set") (λj H Q=>∃ (p:Ad) (g:Aa Af),j=[.ref p]/\mL X.K H p (g.map V.str)/\g.length<=4000/\∀ a,H a=none->Q (.ref a) (upd H a (Cb X.prog X.w a (pM g).length))):=by
 intro f s N H j M Q I r h;obtain⟨p,g,rfl,y,L,q⟩:=h;obtain⟨u,rfl,D⟩:=rF r;cases D;obtain⟨A,i,B,_⟩:=I.list y;have c:=i.length;rw[aA] at c;refine MF (I.ok.hd l) B.isList (by simpa using Ke i) (by rw[aY];unfold scanBound;omega) λv E d x=>?_
 have hex:∃ o,v.get? s.heap.objs.size=some o:=by obtain⟨o,_,_,_,e,_⟩:=d;exact⟨o,e⟩
 refine⟨.ref s.heap.objs.size,_,I.laid (a:=s.heap.objs.size) (o:=Cb X.prog X.w s.heap.objs.size (pM g).length) (t':=E) (λb o e=>x b o (aZ e) e) (aU _) ?_,rfl,q _ I.fresh⟩;refine⟨⟨_,d⟩,hex,λF G ⟨S,z⟩ k=>⟨S,?_⟩⟩;obtain⟨o,n,m,t,e,rest⟩:=z;exact⟨o,n,m,t,k o e,rest⟩
theorem FE:oI X (.builtin "len") (λg H Q=>∃ (a:Ad) (n:Nat),g=[.ref a]/\H a=some (Cb X.prog X.w a n)/\Q (.int n) H):=by
 intro b s x H g v Q I r h;obtain⟨a,n,rfl,d,q⟩:=h;obtain⟨u,rfl,i⟩:=rF r;cases i;obtain⟨⟨S,o,c,k,t,e,ex,hd,_,_,m,f,rfl⟩,_⟩:=I.hok a _ d;refine call_len_set e ex hd f ?_ ⟨.int c.size,H,I.tok _,⟨_,rfl⟩,q⟩;have:scanBound=4096:=rfl;omega
end
end L2
namespace PySem
open PyProof.Rows L2
theorem Iw:entryFor table "dict.update.loop" = some Builtin.«dict.update.loop»:=entryFor_of_tree (by kernel_rfl)
theorem zX:plainId "dict.update.loop" = true:=by decide +kernel
theorem FZ:typeLookup (.type "list") "keys" = pure none:=am_miss_of_fast (by decide +kernel)
section
theorem RB {sl:Array (Ab Ac)}
  (l:s.heap.get? a=some { cls:=.type "list",dict:=none,data:=.seq j n,slots:=sl }) (calm:A.handled=none) (o:∀ p r e,Heap.NewAttrErr s.heap p e (.ref a) "keys" -> E (.ref e) { s with heap:=p,toks:=r }) :
  wpAny (model g w) A (boundAndCalled (.builtin "list.__getattribute__") (.ref a) (.str "keys" u)) Q E s:=by
 have ask:wpAny (model g w) A (call (.builtin "list.__getattribute__") [.ref a,.str "keys" u]) Q E s :=
  iA jA ⟨_,l,rfl⟩ am_entry_list_getattribute (F.args_list_getattribute_2 _ _) (meets_getattribute_miss_list a j n sl "keys" u FZ (by decide +kernel)) ⟨l,calm,o⟩
 unfold boundAndCalled;rw[jA.bind (.ref a)];exact aB (aI ask)
theorem NP (t:s.TypeIs (.ref e) "AttributeError") (j:E (.ref e) s) :
  wpAny (model g w) A (getattributeRaised o name (.type "list") (.ref e) none false false) Q E s:=by
 have last:wpAny (model g w) A (hookOrError o name (.ref e) false false none) Q E s:=aB (wpAny_throw j);have a:hookBehind (.type "list") none=pure none:=am_list_getattr_none;unfold getattributeRaised;refine aB (dU t jE ?_);rw[aO rfl,a];exact aB (aI last)
theorem LP {sl:Array (Ab Ac)}
  (l:s.heap.get? a=some { cls:=.type "list",dict:=none,data:=.seq I n,slots:=sl }) (calm:A.handled=none) (C:∀ j p e,Heap.NewExcOf s.heap j e "AttributeError" -> Q none { s with heap:=j,toks:=p }) :
  wpAny (model g w) A (getAttr? (.ref a) "keys") Q E s:=by
 have c:∀ j p e,Heap.NewAttrErr s.heap j e (.ref a) "keys" -> (∃ o,j.get? e=some o/\o.cls = .type "AttributeError")/\Q none { s with heap:=j,toks:=p }:=λj p e x=>by
  obtain⟨_,_,y⟩:=x.there;exact⟨⟨_,y,rfl⟩,C j p e x.of⟩
 let d:Ae:={ s with toks:=s.toks+1 };let b:Except Ac Ac->Ae->Prop:=λr i=>wpAny (model g w) A (match r with | .ok v=>pure (some v) | .error e=>do if <- isInstance e (.type "AttributeError") then pure none else throw e) Q E i
 have look:wpAny (model g w) A (getAttrBy (.ref a) (.str "keys" s.toks) false) (λv=>b (.ok v)) (λe=>b (.error e)) d:=by
  refine cD (aB (fH (T := "list") ⟨_,l,rfl⟩ (aB (hX jA.lookup ?_))));have own:wpAny (model g w) A (getAttrByItsOwn (.ref a) (.str "keys" s.toks) (.type "list") (.builtin "list.__getattribute__") false false) (λv=>b (.ok v)) (λe=>b (.error e)) d:=by
   refine aB (aI (aB (fJ (cD (RB (s:=d) l calm λj p e x=>?_)))));obtain⟨⟨o,f,h⟩,q⟩:=c j p e x;exact NP ⟨o,f,h⟩ (aB (dU (T := "AttributeError") ⟨o,f,h⟩ jE (aI q)))
  exact own
 exact aB (wpAny_mkText (aB (fJ look)))
end
section
variable {R:Result->Ae->Prop}{P:Nat->Ac->Prop}{St:Nat->Ae->Prop}
theorem CV (W:WalksS j w A.in1 J fp l G n P St) (d:Ad) (I:d∉fp) (C:Ag) (M:Nat->Ag->Prop) (U:∀ i h p,(∀ b o,b∉l->h.get? b=some o->p.get? b=some o)->M i h->M i p)
  (hT:∀ i v,i<n->P i v->∃ (t:Ad) (o:Obj) (m:Nat) (r x:Ac),v = .ref t/\t∉d::l/\C.get? t=some o/\o.cls = .type "tuple" /\ o.data = .seq #[r,x] m /\ ∀ (s:Ae) (Q:Unit->Ae->Prop) (E:Ac->Ae->Prop),(∀ b o,b∉d::l->C.get? b=some o->s.heap.get? b=some o)->M i s.heap ->(∀ p c,M (i+1) p->Heap.SameBut d s.heap p->Q () { s with heap:=p,toks:=s.toks+c })->wpAny (model j w) A.in1 (dictSet d r x) Q E s) :
  ∀ (k i:Nat) (s:Ae),n-i=k->i<=n->St i s->(∀ b o,b∉d::l->C.get? b=some o->s.heap.get? b=some o)->M i s.heap ->
   (∀ g,Moved (d::l) G s g->M n g.heap->R (.ok (.ret .none)) g) ->
   codeAny (model j w) A (.builtin "dict.update.loop" ⟨[.ref d,.ref J,.int (i:Int) 0,.none],[]⟩) R s:=by
 have q:∀ b∈l,b∈d::l:=λb z=>aQ _ z
 intro k;induction k with
 | zero =>
  intro i s hk hi st f L K;have ei:i=n:=by omega
  subst ei;refine gO Iw ?_;rw[fO zX _];show wpAny _ A.in1 (pyNext (.ref J) >>= _) _ _ s;refine aB (W.done s _ _ st λg D=>?_);show wpAny _ A.in1 (Builtin.Dict.addKeywords d [] >>= _) _ _ g;exact aB (aI (aI (K g (D.mono q) (U _ _ _ D.heap L))))
 | succ k ih =>
  intro i s hk hi st f L K;have B:i<n:=by omega
  refine gO Iw ?_;rw[fO zX _];show wpAny _ A.in1 (pyNext (.ref J) >>= _) _ _ s;refine aB (W.item i s _ _ B st λv g hv Z D=>?_);obtain⟨t,o,m,r,x,rfl,ht,V,O,S,put⟩:=hT i v B hv;have a:∀ b o,b∉d::l->C.get? b=some o->g.heap.get? b=some o:=λb o u e=>D.heap b o (λz=>u (q _ z)) (f b o u e)
  have y:=a t o ht V;show wpAny _ A.in1 (holding [Value.ref t] _ >>= _) _ _ g;refine aB (cD ?_);refine aB (wpAny_tryCatch ?_);unfold Builtin.Dict.pairItems;refine aB (fH (T := "tuple") ⟨o,y,O⟩ ?_);rw[aO (by decide)];refine aB (fP y S ?_);refine aI ?_;show wpAny _ A.in1 (holding [r,x] (dictSet d r x)) _ _ g;refine cD (put g _ _ a (U _ _ _ D.heap L) λp c N Y=>?_);refine aI ⟨kC zX _,?_⟩;have e1:(rawInt ((i:Int)+1))=Value.int ((i+1:Nat):Int) 0:=by rfl
  rw[e1];refine ih (i+1) _ (by omega) B (W.frame _ g _ _ Z (fZ _ _) λb u o e=>?_) (λb o u e=>?_) N λX H F=>?_
  .rw[Y.2 b (λz:b=d=>I (by rw[<- z];exact u))];exact e
  .rw[Y.2 b (λz:b=d=>u (by rw[z];exact aH))];exact a b o u e
  .refine K X (Moved.trans W.gtrans ((D.mono q).then_heap (fZ _ _) λb o u e=>?_) H) F;rw[Y.2 b (λz:b=d=>u (by rw[z];exact aH))];exact e
end
section
variable {K:Type} [DecidableEq K] {knd:KeyKind prog w K}{A:Around}
abbrev Mw (l:Ad):Obj:={ cls:=.type "list_iterator",data:=.fields #[.ref l,.int 0 0] }
abbrev KO (g:Array Ac) (n:Nat) (sl:Array (Ab Ac)):Obj:={ cls:=.type "list",dict:=none,data:=.seq g n,slots:=sl }
theorem Zi {sl:Array (Ab Ac)}(t:s.TypeIs (.ref d) "dict") (j:s.heap.get? l=some (KO r n sl)) (calm:A.handled=none)
  (C:∀ g o e,Heap.NewExcOf s.heap g e "AttributeError" -> Q (.again (.builtin "dict.update.loop" ⟨[.ref d,.ref g.objs.size,.int 0 0,.none],[]⟩)) { s with heap:=g.push (Mw l),toks:=o }) :
  wpAny (model prog w) A (Builtin.«dict.__init__» ⟨[.ref d,.ref l],[]⟩) Q E s:=by
 have first:wpAny (model prog w) A (Builtin.Dict.selfAndRest "__init__" ⟨[.ref d,.ref l],[]⟩) (λp b=>p=(d,[Value.ref l])/\b=s) E s:=aB (jX t (aI ⟨rfl,rfl⟩))
 have a:wpAny (model prog w) A (Builtin.Dict.updateFrom "dict.__init__" d (.ref l) [] .none) Q E s:=by
  refine aB (fH (T := "list") ⟨_,j,rfl⟩ ?_);rw[aO (by decide)];refine aB (LP j calm λg o e x=>?_);exact aB (lV (aB (fQ ⟨_,x.keeps _ _ j,rfl,n,rfl⟩ (aI (C g o e x)))))
 exact aB (cO first (λp b q=>by obtain⟨rfl,rfl⟩:=q;exact a) λ_ _ q=>q)
def Bu (s:Ae):Ae:={ s with heap:=s.heap.push { cls:=.type "dict",data:=.dict #[] } }
theorem Xc (M:Nat->Ag->Prop) (I:A.handled=none) (C:s.heap.get? l=some o) (hc:o.cls = .type "list") (hd:o.dict=none) (r:o.data = .seq items nl)
  (m0:∀ h:Ag,h.get? s.heap.objs.size=some { cls:=.type "dict",data:=.dict #[] }->M 0 h) (T:∀ i h g,(∀ b o,b<=s.heap.objs.size->h.get? b=some o->g.get? b=some o)->M i h->M i g)
  (U:∀ (i:Nat) v,items[i]?=some v->∃ (t:Ad) (o:Obj) (m:Nat) (p x:Ac),v = .ref t/\s.heap.get? t=some o/\o.cls = .type "tuple" /\ o.data = .seq #[p,x] m /\ ∀ (B:Around) (j:Ae) (Q:Unit->Ae->Prop) (E:Ac->Ae->Prop),(A.units+2<cLine->B.units<cLine)->(∀ b o,s.heap.get? b=some o->j.heap.get? b=some o)->M i j.heap ->(∀ g c,M (i+1) g->Heap.SameBut s.heap.objs.size j.heap g->Q () { j with heap:=g,toks:=j.toks+c })->wpAny (model prog w) B (dictSet s.heap.objs.size p x) Q E j)
  (h:∀ (g:Ag) (J:Nat),M items.size g->(∀ b o,s.heap.get? b=some o->g.get? b=some o)->Q (.ref s.heap.objs.size) { s with heap:=g,toks:=J }) :
  wpAny (model prog w) A (call (.type "dict") [.ref l]) Q E s:=by
 obtain⟨oc,od,Z,aa⟩:=o;cases hc;cases hd;cases r;let D:=s.heap.objs.size;have O:(Bu s).heap.get? D=some { cls:=.type "dict",data:=.dict #[] }:=bA _ rfl;have ty:(Bu s).TypeIs (.ref D) "dict" := ⟨_,O,rfl⟩;have old:∀ b o,s.heap.get? b=some o->(Bu s).heap.get? b=some o:=λb o e=>aG _ e
 refine callType_codes F.kt_called_dict (F.kt_typeCall_dict_1 _) F.entry_dict_init (kt_code_dict_new _ (Q₁:=λv N=>v = .ref D/\N=Bu s) ⟨rfl,rfl⟩) λv N q=>?_
 obtain⟨rfl,rfl⟩:=q;refine⟨ty,F.args_dict_init_2 _ _,Zi ty (old _ _ C) (by simp[I]) λu J e x=>⟨kC zX _,?_⟩⟩;have d:D<u.objs.size:=aZ (x.keeps _ _ O);have H:l<D:=aZ C;have keeps:∀ b o,s.heap.get? b=some o->(u.push (Mw l)).get? b=some o:=λb o e=>aG _ (x.keeps _ _ (old b o e))
 have a:∀ {b:Ad},b<D->b∉[D,u.objs.size]:=λ{b} G z=>by
  rcases aK.mp z with q | q
  .exact bO G q
  .exact bO (Nat.lt_trans G d) (aX.mp q)
 have n:D∉[u.objs.size,l]:=λz=>by
  rcases aK.mp z with q | q
  .exact bO d q
  .exact hZ H (aX.mp q)
 have f:(u.push (Mw l)).IsList l items:=⟨_,keeps _ _ C,rfl,nl,rfl⟩;refine CV ((Walks.list (by simp[I]) u.objs.size l (bO (Nat.lt_trans H d)) items).toS) D n s.heap M (λi h g k m=>T i h g (λb o V e=>k b o (λz=>bO (cK V d) (aX.mp z)) e) m) (λi v _ X=>?_) items.size 0 _ (by omega) (cR _) ⟨⟨_,bA _ rfl,rfl,rfl⟩,f⟩ (λb o _ e=>keeps b o e) (m0 _ (aG _ (x.keeps _ _ O))) λj L fin=>?_
 .obtain⟨t,ot,m,p,y,rfl,P,r1,r2,put⟩:=U i v X;exact⟨t,ot,m,p,y,rfl,a (aZ P),P,r1,r2,λN S R Y=>put _ N S R (λW=>by simpa using W) λb o e=>Y b o (a (aZ e)) e⟩
 .have res:=h j.heap j.toks fin λb o e=>L.heap b o (a (aZ e)) (keeps b o e)
  rw[show j={ s with heap:=j.heap,toks:=j.toks } from Sh L.gens L.drawn L.os];exact⟨rfl,res⟩
theorem RT (J:A.handled=none) (T:s.heap.get? l=some o) (I:o.cls = .type "list") (hd:o.dict=none) (p:o.data = .seq items nl)
  (hn:more.length=items.size)
  (C:∀ (i:Nat) v,items[i]?=some v->∃ (t:Ad) (o:Obj) (m:Nat) (k:K) (j x:Ac),v = .ref t/\s.heap.get? t=some o/\o.cls = .type "tuple" /\ o.data = .seq #[j,x] m/\knd.is k j=true/\more[i]?=some (k,x)) (U:items.size<=sizeLine)
  (h:∀ (g:Ag) (r:Nat),g.DictOf knd s.heap.objs.size (merged [] more)->(∀ b o,s.heap.get? b=some o->g.get? b=some o)->Q (.ref s.heap.objs.size) { s with heap:=g,toks:=r }) :
  wpAny (model prog w) A (call (.type "dict") [.ref l]) Q E s:=by
 refine Xc (λi g=>g.DictOf knd s.heap.objs.size (merged [] (more.take i))) J T I hd p (λn e=>?_) (λi n y k m=>?_) (λi v H=>?_) λg r m=>h g r (by rw[bL (by omega)] at m;exact m)
 .obtain⟨z,f,d,u,rest⟩:=Heap.DictOf.new (knd:=knd) s.heap;cases u.symm.trans (bA _ rfl);exact⟨_,f,d,e,rest⟩
 .obtain⟨z,f,d,u,rest⟩:=m;exact⟨z,f,d,k _ _ (aU _) u,rest⟩
 .obtain⟨t,M,m,L,j,x,rfl,n,y,F,c,a⟩:=C i v H;refine⟨t,M,m,j,x,rfl,n,y,F,λB O Q E _ _ G k=>wpAny_dictSet_pairs (hsz:=?_) c G λg q N=>k g 1 (by rw[merged_take_succ [] more i (L,x) a];exact q) N⟩;have D:=merged_length_le ([]:Aa (K×Ac)) (more.take i);rw[fS,bU] at D;omega
end
end PySem
namespace L2
open PySem PySem.Spec PyProof.Rows
section
variable {X:Cx}
def Fj (H:Hp) (j:Aa Ad) (g:Aa (gD×V)):Prop:=Paired (λt (a:gD×V)=>H t=some (.t [kV a.1,a.2])) j g
theorem SG {P:Ah}(p:oO P w H h):∀ {l:Aa Ad}{g:Aa (gD×V)},Fj H l g->∃ more:Aa (gD×Ac),KV g more /\
  ∀ (i:Nat) t,l[i]?=some t->∃ (o:Obj) (m:Nat) (k:gD) (j x:Ac),h.get? t=some o/\o.cls = .type "tuple" /\ o.data = .seq #[j,x] m/\(pZ P w).is k j=true/\more[i]?=some (k,x):=by
 intro l g r;unfold Fj at r;induction r with
 | nil=>exact⟨[],.nil,λi t e=>by simp at e⟩
 | @cons t j l g d G u =>
  obtain⟨more,B,q⟩:=u;obtain⟨z,v,a,⟨o,s,f,n,b⟩,_⟩:=p t _ d;cases a with
  | @cons _ E _ K y a =>
   cases a with
   | @cons _ c _ F A a =>
    cases a;refine⟨(j.1,c)::more,.cons ⟨rfl,A⟩ B,λi D e=>?_⟩;cases i with
    | zero =>
     simp at e;subst e;exact⟨o,n,j.1,E,c,s,f,b,yY y,rfl⟩
    | succ i=>simpa using q i D (by simpa using e)
theorem RW (l:X.calm=true):oI X (.type "dict") (λC H Q=>∃ (p:Ad) (j:Aa Ad) (g:Aa (gD×V)),C=[.ref p]/\mL X.K H p (j.map V.ref)/\Fj H j g/\g.length<=1000/\∀ d,H d=none->Q (.ref d) (upd H d (.k (sZ [] g)))):=by
 intro E s σ H C us Q I r h;obtain⟨p,j,g,rfl,U,D,hz,q⟩:=h;obtain⟨u,rfl,B⟩:=rF r;cases B;obtain⟨c,F,⟨o,n,e,L,M,N⟩,_⟩:=I.list U;have f:=F.length;rw[aA] at f;have Z:j.length=g.length:=D.length;obtain⟨more,G,J⟩:=SG I.hok D;have T:=G.length;have b:∀ (i:Nat) v,c[i]?=some v->∃ t,j[i]?=some t/\v = .ref t:=by
  intro i v y;have hi:i<c.length:=(aL.mp y).1;have:i<j.length:=by omega
  obtain⟨u,hu,B⟩:=F.get (i:=i) (x:=V.ref j[i]) (by simp[this]);rw[hu] at y;cases y;cases B;exact⟨j[i],by simp[this],rfl⟩
 refine RT (knd:=pZ X.prog X.w) (more:=more) (I.ok.hd l) e L M N (by rw[aY];omega) ?_ (by rw[aY];exact eI (cK (show c.length<=1000 by omega) (by decide))) λh' tk W Y=>?_
 .intro i v y;obtain⟨t,ht,rfl⟩:=b i v (by simpa using y);obtain⟨o,m,k,kv,x,z,O,P,R,S⟩:=J i t ht;exact⟨t,o,m,k,kv,x,rfl,z,O,P,R,S⟩
 .have A:(sZ [] g).length<=sizeLine:=by
   have z:=Jj g [];rw[fS] at z;exact eI (cK (show (sZ [] g).length<=1000 by omega) (by decide))
  refine⟨.ref s.heap.objs.size,_,I.laid (a:=s.heap.objs.size) (o:=.k (sZ [] g)) (t':=tk) Y (aU _) ?_,rfl,q _ I.fresh⟩;exact E7 A (cQ.mpr (eJ (bO I.big))) (G.merge .nil) W
end
noncomputable def Dx (o:Ab Af) (N:Aa Af) (kind:Af->Ab NameKind) (g:Scope) (T j:Aa Af) (l:Aa Nat):Bool :=
 decide (g.names.filter (λp=>p.2 == .cell)=o.toList.map λn=>(n,NameKind.cell))&&o.all (λa=>g.names.lookup a == some .cell)&&g.names.all (λp=>p.2 != .free||kind p.1 == some .cell) &&
 g.names.all (λp=>p.2 != .local||g.names.lookup p.1 == some .local) &&
 (j.zip l).all (λp=>decide (N[p.2]?=some p.1)&&g.names.lookup p.1 == some .free)&&j.length == l.length
abbrev Fq:=Dx none
noncomputable def tG (T:Aa Af) (g:Aa Nat) (j:St):St:=T.map (λ_=>none)++g.map (λi=>(j[i]?).join)
noncomputable def uF (X:Cx) (p:Aa Af) (g:Scope) (o:Aa (Af×Ad)) (C:Ad) (l:Ae) (j:Hp) (r:Aa Ad):Cx :=
 { prog:=X.prog,w:=X.w,K:=X.K,mg:=X.mg,base:=X.base,A:=X.A,N:=p,s₀:=l,H₀:=j,env:=compEnvC g o C X.env,outer:=X.stack,stack:=X.stack,ex:=r, fn:=λx=>(o.lookup x).isNone,calm:=X.calm,pn:=[],xe:=λ_ _=>False }
def vV (X:Cx) (g:Aa Expr) (t:TT):Prop :=
 ∀ (a:Aa (Ad×Obj)) (s:Ae) (b:St) (H:Hp) (Q:Bool->Hp->Prop),Inv X a b H s->t b H Q ->
  wpAny (model X.prog X.w) X.A (forIn g true λc r=>if r=true then do let ok <- isTrue c X.env (eval c X.env);pure (ForInStep.yield ok) else pure (ForInStep.yield r)) (TP X a b Q) X.xe s
def Fn:TT:=λ_ H Q=>Q true H
theorem E9 {X:Cx}:vV X [] Fn:=λa s b H Q I h=>wpAny_tests_nil ⟨H,I,h⟩
theorem M8 {X:Cx}(h:PT X c t):vV X [c] t:=λa s b H Q I hw=>wpAny_tests_one (h a s b H Q I hw)
def B9 (T:Aa Af) (j:Aa Nat) (J:It) (g:TG) (r:TT) (p:TE) (C:St) (o:Hp) (Q:VK) (D:Ad):Prop :=
 ∃ W:Nat->Nat->Aa V->St->Hp->Prop,(∃ m,W 0 m [] (tG T j C) (upd o D (.l [])))/\∀ i m c h d,W i m c h d ->
  (J.stop i d/\Q (.ref D) d)\/(J.go i d/\∃ (N:St->V->Hp->Prop) (F:St->Hp->Prop),(∀ a v k,N a v k->k D=some (.l c)/\c.length<sizeLine/\∃ f,f<m/\W (i+1) f (c++[v]) a (upd k D (.l (c++[v]))))/\(∀ a e,F a e->∃ f,f<m/\W (i+1) f c a e) /\ ∀ x n,J.yld i d x n->g x h n λa q=>r a q λb e=>if b=true then p a e (N a) else F a e)
def Bj (T:Aa Af) (j:Aa Nat) (p:TI) (g:TG) (o:TT) (l:TE):TE:=λb H Q=>p b H λJ a=>∀ D,a D=none->B9 T j J g o l b a Q D
theorem Lz:∀ (names:Aa (Af×NameKind)) (g:Aa (Af×Ad)),(∀ p∈names,p.2 = .free->∃ c,env.cells.lookup p.1=some c) ->
  (∀ x c,g.lookup x=some c->env.cells.lookup x=some c) ->
  ∃ j,(forIn names g λx r=>if (x.2 == NameKind.free)=true then (cellOf env x.1 >>= λa=>pure (ForInStep.yield ((x.1,a)::r))) else pure (ForInStep.yield r):Sem (Aa (Af×Ad)))=pure j /\
   (∀ x c,j.lookup x=some c->env.cells.lookup x=some c)/\(∀ x,(x,NameKind.free)∈names->(j.lookup x).isSome=true)/\(∀ x,(g.lookup x).isSome=true->(j.lookup x).isSome=true)
 | [],g,_,i=>⟨g,rfl,i,λx h=>by simp at h,λ_ h=>h⟩
 | (n,k)::r,g,v,i=>by
  by_cases w:k = .free
  .subst w;obtain⟨c,z⟩:=v (n,.free) aH rfl;have u:∀ x d,((n,c)::g).lookup x=some d->env.cells.lookup x=some d:=by
    intro x d h;rw[dN] at h;cases e:x == n with
    | true=>rw[e] at h;have:=iM.mp e;subst this;cases h;exact z
    | false=>rw[e] at h;exact i x d h
   obtain⟨j,m,s,t,f⟩:=Lz r ((n,c)::g) (λp y=>v p (aQ _ y)) u;have A:(((n,c)::g).lookup n).isSome=true:=by rw[dN];simp
   refine⟨j,?_,s,λx b=>?_,λx b=>f x ?_⟩
   .rw[kM];simp only[hU,gR];have:cellOf env n=pure c:=by unfold cellOf;rw[z]
    rw[this];exact m
   .rcases aK.mp b with q | q
    .cases q;exact f _ A
    .exact t x q
   .rw[dN];cases e:x == n with
    | true=>rfl
    | false=>exact b
  .obtain⟨j,m,s,t,f⟩:=Lz r g (λp y=>v p (aQ _ y)) i;refine⟨j,?_,s,λx b=>?_,f⟩
   .rw[kM];have:(k == NameKind.free)=false:=by simpa using w
    simp only[this,eC,gC];exact m
   .rcases aK.mp b with q | q
    .cases q;exact absurd rfl w
    .exact t x q
theorem FP (o:∀ p∈g.names,p.2 = .free->∃ c,j.cells.lookup p.1=some c) :
  ∃ l,closureFor g j=pure l/\(∀ x c,l.lookup x=some c->j.cells.lookup x=some c)/\(∀ x,(x,NameKind.free)∈g.names->(l.lookup x).isSome=true):=by
 obtain⟨l,e,d,f,_⟩:=Lz (env:=j) g.names [] o (λx c h=>by simp at h);refine⟨l,?_,d,f⟩;simp only[closureFor];have b:(forIn g.names [] λx r=>if (x.2 == NameKind.free)=true then (cellOf j x.1 >>= λa=>pure (ForInStep.yield ((x.1,a)::r))) else pure (ForInStep.yield r):Sem (Aa (Af×Ad)))=pure l:=e
 first
  | exact b
  | (simp only[bind_pure];exact b)
theorem HM (h:g.names.lookup x=some k):∃ j,(relabel g env).names.lookup x=some j/\(j=k\/(k = .free/\j = .cell)):=by
 have:∀ names:Aa (Af×NameKind),names.lookup x=some k->∃ j,(names.map λ(p:Af×NameKind)=>match p with | (n,k)=>if (k == NameKind.free&&env.scope.kind == .function&&env.kindOf n == some .cell) then (n,NameKind.cell) else (n,k)).lookup x=some j/\(j=k\/(k = .free/\j = .cell)):=by
  intro names;induction names with
  | nil=>intro h;simp at h
  | cons p r b =>
   obtain⟨n,c⟩:=p;intro h;rw[aP];by_cases a:(c == NameKind.free&&env.scope.kind == .function&&env.kindOf n == some .cell)=true
   .simp only[a,gR];rw[dN] at h |-;cases e:x == n with
    | true =>
     rw[e] at h;cases h;have:k=NameKind.free:=by
      have:=(cJ _ _).mp ((cJ _ _).mp a).1;exact iM.mp this.1
     exact⟨_,rfl,.inr ⟨this,rfl⟩⟩
    | false=>rw[e] at h;exact b h
   .simp only[a,gC];rw[aJ (by simp)];rw[dN] at h |-;cases e:x == n with
    | true=>rw[e] at h;cases h;exact⟨_,rfl,.inl rfl⟩
    | false=>rw[e] at h;exact b h
 exact this g.names h
theorem AY {R:Result->Ae->Prop}{iter:Expr}(I:Nat->Ae->Prop)
  (ae:∀ n s,I n s->wpAny (model g w) A (pyNext it) (λr l=>match r with
   | none=>R (.ok .next) l
   | some v=>wpAny (model g w) A (letOwnedTupleGo target it v) (λ_ o=>wpAny (model g w) A (assign target j v) (λ_ C =>
     wpAny (model g w) A (forIn ac true λc r=>if r=true then do let ok <- isTrue c j (eval c j);pure (ForInStep.yield ok) else pure (ForInStep.yield r)) (λok p =>if ok=true then wpAny (model g w) A (eval ab j) (λx J =>wpAny (model g w) A (call (.builtin "list.append") [aa,x]) (λ_ T=>∃ m,m<n/\I m T) (λ_ _=>False) J) (λ_ _=>False) p else ∃ m,m<n/\I m p) (λ_ _=>False) C) (λ_ _=>False) o) (λ_ _=>False) l) (λ_ _=>False) s)
  (n:Nat) (h:I n s) :
  codeAny (model g w) A (.compLoop (.ListComp ab [⟨target,iter,ac,0⟩] U pos) 0 it aa j) R s:=by
 refine codeAny_loop rfl I (λn s q=>?_) n h;show wpAny _ A ((compTurn (.ListComp ab [⟨target,iter,ac,0⟩] U pos) 0 it aa j).onRaise (λx=>do noteFrame x j;theTreesLotGoes x)) _ _ s;refine wpAny_noted ?_;rw[compTurn_list];refine aB (lM (aB (cO (ae n s q) (λr l b=>?_) λ_ _ a=>a.elim)));cases r with
 | none=>exact aI b
 | some v =>
  refine aB (cO b (λ_ o e=>?_) λ_ _ a=>a.elim);refine aB (cO e (λ_ C f=>aB (cO f (λok p d=>?_) λ_ _ a=>a.elim)) λ_ _ a=>a.elim);cases ok with
  | false=>exact aI ⟨rfl,d⟩
  | true =>
   exact aB (aB (cO d (λx J i=>aB (cO i (λ_ T k=>aI (aI ⟨rfl,k⟩)) λ_ _ a=>a.elim)) λ_ _ a=>a.elim))
structure LcO (nw:Option Str) (N:List Str) (kind:Str->Option NameKind) (scope:Scope) (capN:List Str) (caps:List Nat):Prop where
 one:scope.names.filter (λp=>p.2 == .cell)=nw.toList.map λn=>(n,NameKind.cell)
 cel:∀ nm,nw=some nm->scope.names.lookup nm=some .cell
 free:∀ p∈scope.names,p.2 = .free->kind p.1=some .cell
 loc:∀ p∈scope.names,p.2 = .local->scope.names.lookup p.1=some .local
 cap:∀ (j:Nat) (x:Str),capN[j]?=some x->∃ i:Nat,caps[j]?=some i/\N[i]?=some x/\scope.names.lookup x=some .free
 len:capN.length=caps.length
theorem Kt (h:Dx r N kind o T l g=true):LcO r N kind o l g:=by
 unfold Dx at h;simp only[cJ] at h;obtain⟨⟨⟨⟨⟨d,c⟩,f⟩,k⟩,m⟩,n⟩:=h;have q:l.length=g.length:=iM.mp n;refine⟨cU d,λu e=>?_,λp a e=>?_,λp a e=>?_,λj x e=>?_,q⟩
 .rw[e] at c;exact iM.mp c
 .have:=cH.mp f p a;rw[e] at this
  simpa using this
 .have:=cH.mp k p a;rw[e] at this
  simpa using this
 .have t:j<l.length:=(aL.mp e).1;have b:g[j]?=some (g[j]'(by omega)):=aE (by omega);have s:(x,g[j]'(by omega))∈l.zip g:=aF (i:=j) (by rw[List.getElem?_zip_eq_some];exact⟨e,b⟩);have:=cH.mp m _ s;simp only[cJ,fE,iM] at this;exact⟨_,b,this.1,this.2⟩
theorem LcO.only (h:LcO o N kind g j l) (x:Af) (e:g.names.lookup x=some .cell):o=some x:=by
 have a:(x,NameKind.cell)∈g.names.filter (λp=>p.2 == .cell):=cE.mpr ⟨dX e,rfl⟩;rw[h.one] at a;cases o with
 | none=>cases a
 | some n=>rw[(Prod.mk.inj (aX.mp a)).1]
theorem Rs:∀ {g:Scope},(relabel g j).names.lookup x=some k->(k = .cell\/k = .free)->g.names.lookup x=some .cell\/g.names.lookup x=some .free:=by
 intro g;unfold relabel;have all:∀ names:Aa (Af×NameKind),(names.map λ(n,k)=>if (k == NameKind.free&&j.scope.kind == .function&&j.kindOf n == some .cell) then (n,NameKind.cell) else (n,k)).lookup x=some k->(k = .cell\/k = .free)->names.lookup x=some .cell\/names.lookup x=some .free:=by
  intro names;induction names with
  | nil=>intro h _;simp at h
  | cons p r d =>
   intro h b;obtain⟨n,e⟩:=p;rw[aP] at h;rw[dN];cases c:x == n with
   | true =>
    by_cases a:(e == NameKind.free&&j.scope.kind == .function&&j.kindOf n == some .cell)=true
    .simp only[cJ,iM] at a;exact .inr (by rw[a.1.1])
    .simp only[a,eC,gC,dN,c] at h;cases h;rcases b with q | q
     .exact .inl (by rw[q])
     .exact .inr (by rw[q])
   | false =>
    by_cases a:(e == NameKind.free&&j.scope.kind == .function&&j.kindOf n == some .cell)=true
    .simp only[a,gR,dN,c] at h;exact d h b
    .simp only[a,eC,gC,dN,c] at h;exact d h b
 exact all g.names
theorem Lr:∀ (names:Aa (Af×NameKind)) (n:Nat) (g:Aa (Af×Ad)) (h:Ag),names.filter (λp=>p.2 == .cell)=[]->cellsFrom n names g=g/\pushCells h names=h
 | [],_,_,_,_=>⟨rfl,rfl⟩
 | (y,k)::r,n,g,h,e=>by
  unfold cellsFrom pushCells;by_cases a:(k == NameKind.cell)=true
  .rw[List.filter_cons_of_pos (by exact a)] at e;cases e
  .rw[List.filter_cons_of_neg (by exact a)] at e;rw[aJ a,aJ a];exact Lr r n g h e
theorem Uu:∀ (names:Aa (Af×NameKind)) (n:Nat) (g:Aa (Af×Ad)) (h:Ag),names.filter (λp=>p.2 == .cell)=[(j,.cell)]->cellsFrom n names g=(j,n)::g/\pushCells h names=h.push { cls:=.type "cell",data:=.cell none }
 | [],_,_,_,e=>by cases e
 | (y,k)::r,n,g,h,e=>by
  unfold cellsFrom pushCells;by_cases a:(k == NameKind.cell)=true
  .rw[List.filter_cons_of_pos (by exact a)] at e;have b:=(dO e).1;have c:=(dO e).2;rw[aO a,aO a];have:=Lr r (n+1) ((y,n)::g) (h.push { cls:=.type "cell",data:=.cell none }) c;rw[this.1,this.2,(Prod.mk.inj b).1];exact⟨rfl,rfl⟩
  .rw[List.filter_cons_of_neg (by exact a)] at e;rw[aJ a,aJ a];exact Uu r n g h e
def Bk (g:Ab Af) (C:Ad):Aa (Af×Ad):=match g with
 | none=>[]
 | some a=>[(a,C+1)]
theorem QW {globals:Ad}(one:g.names.filter (λp=>p.2 == .cell)=T.toList.map λn=>(n,NameKind.cell))
  (h:∀ j,j.Ns s.heap.objs.size (λ_=>none)->(∀ J,T=some J->j.IsCell (s.heap.objs.size+1) none)->(∀ b o,s.heap.get? b=some o->j.get? b=some o) ->Q { scope:=g,locals:=s.heap.objs.size,globals:=globals,cells:=Bk T s.heap.objs.size++r,qual:=C,func:=none,code:=l.code,frame:=l.frame,builtins:=l.builtins } { s with heap:=j }) :
  wpAny M A (newFunctionEnv g globals r [] C none .none (some l)) Q E s:=by
 simp only[newFunctionEnv,lB,gR];refine aB (wpAny_alloc ?_);refine aB (wpAny_layCells _ (λname kind I=>by cases i:kind == NameKind.cell<;>simp[i]) _ _ _ _ ?_);have z:(s.heap.push { cls:=.type "dict",data:=.dict #[] }).objs.size=s.heap.objs.size+1:=dR ..;have a:=Heap.Ns.new s.heap (.type "dict");show wpAny M A _ Q E _;cases T with
 | none =>
  obtain⟨c,f⟩:=Lr g.names (s.heap.push { cls:=.type "dict",data:=.dict #[] }).objs.size r (s.heap.push { cls:=.type "dict",data:=.dict #[] }) one;rw[c,f];exact aB (aI (aI (h _ a (λ_ e=>nomatch e) λb o e=>aG _ e)))
 | some J =>
  obtain⟨c,f⟩:=Uu g.names (s.heap.push { cls:=.type "dict",data:=.dict #[] }).objs.size r (s.heap.push { cls:=.type "dict",data:=.dict #[] }) one;have d:cellsFrom ({ s with heap:=s.heap.push { cls:=.type "dict",data:=.dict #[] } }:Ae).heap.objs.size g.names r=(J,s.heap.objs.size+1)::r:=by rw[<- z];exact c
  rw[d,f];refine aB (aI (aI (h _ (a.keeps λb o e=>aG _ e) (λ_ _=>?_) λb o e=>aG _ (aG _ e))));exact⟨_,by rw[<- z];exact bA _ rfl,rfl⟩
noncomputable def TF (j:Ab Af) (g:Aa (Af×Ad)):Af->Bool:=match j with
 | none=>λx=>(g.lookup x).isNone
 | some a=>λx=>x == a||(g.lookup x).isNone
def tM (p:Ab Af) (X:Cx) (r:Aa Af) (g:Scope) (o:Aa (Af×Ad)) (C:Ad) (l:Ae) (j:Hp) (I:Aa Ad):Cx :=
 { prog:=X.prog,w:=X.w,K:=X.K,mg:=X.mg,base:=X.base,A:=X.A,N:=r,s₀:=l,H₀:=j,env:=compEnvC g (Bk p C++o) C X.env,outer:=X.stack,stack:=X.stack,ex:=I, fn:=TF p o,calm:=X.calm,pn:=[],xe:=λ_ _=>False }
section
variable {X:Cx}
theorem Inv.moved {t':Nat}{fp:Aa Ad}(I:Inv X g p H s) (j:∀ b∈fp,uQ X g H b) (k:∀ b o,b∉fp->s.heap.get? b=some o->l.get? b=some o):Inv X g p H { s with heap:=l,toks:=t' }:=by
 have d:∀ b u,H b=some u->b∉fp:=λb u e z=>by rw[(j b z).1] at e;cases e
 refine I.step (g':=s.gens) (d':=s.drawn) (ch:=fp) (λb f=>⟨(j b f).2.2.2.1,(j b f).2.1,(j b f).2.2.2.2.1,(j b f).2.2.2.2.2⟩) (λb o _ _ a e _=>k b o a e) (λb o _ _ a e _=>⟨o.slots,k b o a e⟩) (λ_ _ _ _ n=>n)
  (λb o a e=>⟨o,k b o a e⟩) (λ_ _ e=>e) (λ_ _ _ e=>e) (λb x e=>⟨#[],by rw[e];simp⟩) (λm t=>?_) (λb u e=>?_) I.bare
 .obtain⟨o,i,h,w,r⟩:=t;exact⟨o,i,h,k _ o (λz=>(j _ z).2.1 rfl) w,r⟩
 .refine (I.hok b u e).stay (λc v a q=>k c v ?_ q) (λ_ q=>q) λ_ _ q=>q
  rcases a with z | z
  .rw[z];exact d b u e
  .exact d c _ z
end
section
variable {X:Cx}
theorem Nn {iter:Expr}(T U:Aa Af) (aa:Aa Nat) (hc:X.calm=true) (hi:PI X tg iter wi)
  (hk:j.kind = .function) (O:LcO nw X.N X.env.kindOf j U aa)
  (hg:∀ ae ab C cl fp,PG (tM nw X (T++U) j cl C ae ab fp) tg g)
  (ht:∀ ae ab C cl fp,vV (tM nw X (T++U) j cl C ae ab fp) af tt)
  (he:∀ ae ab C cl fp,PE (tM nw X (T++U) j cl C ae ab fp) a4 te)
  (hs:∀ x,foldedSetIterable iter X.env x=pure x)
(I:Inv X ac σ H s) (h:Bj T aa wi g tt te σ H Q)
  (fin:∀ (C D:Ad) (s6:Ae) (H5:Hp),Inv X ac σ H5 s6->Q (.ref D) H5->uQ X ac H5 C->(∃ m,s6.heap.Ns C m)->compPost (model X.prog X.w) X.A X.xe a2 Qs (.ref D) C (.ok .next) s6) :
  wpAny (model X.prog X.w) X.A (comprehension (.ListComp a4 [⟨tg,iter,af,0⟩] j pos) j X.env (firstIterPos [⟨tg,iter,af,0⟩] pos) (newList []) (firstAsync [⟨tg,iter,af,0⟩]) (firstIter [⟨tg,iter,af,0⟩] X.env) a2) Qs X.xe s:=by
 have ax:∀ p∈j.names,p.2 = .free->∃ c,X.env.cells.lookup p.1=some c:=λp hp e=>I.ok.has p.1 (.inl (O.free p hp e))
 obtain⟨cl,aw,P,a3⟩:=FP ax;refine wpAny_comprehension_free (use:=a2) rfl hs aw hk O.loc (mV (hi ac s σ H _ I h) λv s1 h1=>mV h1 λb4 s2 h2=>?_);obtain⟨it,fp,tn,J,H2,rfl,I2,B,bb,f2,hD⟩:=h2;refine fC ?_;have f:Inv X ac σ (upd H2 s2.heap.objs.size (.l [])) { s2 with heap:=s2.heap.push { cls:=.type "list",data:=.seq ([]:Aa Ac).toArray } }:=I2.lnew (t':=s2.toks) (its:=[]) (ys:=[]) .nil (cR _);have fD:H2 s2.heap.objs.size=none:=I2.fresh;obtain⟨W,⟨m0,w0⟩,ao⟩:=hD s2.heap.objs.size fD;generalize bo:s2.heap.objs.size=D at f fD w0 ao |-;have bz:tn 0 (s2.heap.push { cls:=.type "list",data:=.seq ([]:Aa Ac).toArray }):=B.keep _ _ _ bb λb _ o e=>aG _ e
 have a9:∀ b∈fp,b<D:=λb a=>by
  obtain⟨o,e,_⟩:=B.obj _ _ bb b a;rw[<- bo];exact aZ e
 generalize bt:({ s2 with heap:=s2.heap.push { cls:=.type "list",data:=.seq ([]:Aa Ac).toArray } }:Ae)=K at f |-;have ag:tn 0 K.heap:=by rw[<- bt];exact bz
 generalize bp:upd H2 D (.l [])=M at f w0;have f3:∀ b∈fp,uQ X ac M b:=λb a=>by
  obtain⟨z0,z⟩:=f2 b a;exact⟨by rw[<- bp,mT (bO (a9 b a))];exact z0,z⟩
 refine QW O.one (λZ V S old=>?_);have av:M K.heap.objs.size=none:=f.fresh;have ak:M (K.heap.objs.size+1)=none:=f.hok.fresh (iL _);generalize hC:K.heap.objs.size=C at V S av ak |-;have ba:∀ b o,K.heap.get? b=some o->b≠C:=λb o e=>by rw[<- hC];exact bO (aZ e)
 have a5:∀ b∈fp,b≠C:=λb a=>by
  obtain⟨o,e,_⟩:=B.obj _ _ ag b a;exact ba b o e
 have a6:∀ b∈fp,b∉wF X.stack:=λb a z=>by
  rcases aK.mp (f.stkSub b z) with q | q
  .exact (f3 b a).2.1 q
  .exact (f3 b a).2.2.1 q
 have bm:∀ b∈fp,b<C:=λb a=>by
  obtain⟨o,e,_⟩:=B.obj _ _ ag b a;rw[<- hC];exact aZ e
 have look:∀ x c,(Bk nw C++cl).lookup x=some c->(nw=some x/\c=C+1)\/(nw≠some x/\cl.lookup x=some c):=λx c e=>by
  cases nw with
  | none=>exact .inr ⟨(λz=>nomatch z),e⟩
  | some nm =>
   have e:((nm,C+1)::cl).lookup x=some c:=e;rw[dN] at e;cases a:x == nm with
   | true=>rw[a] at e;cases e;exact .inl ⟨by rw[iM.mp a],rfl⟩
   | false=>rw[a] at e;exact .inr ⟨(λz=>by cases z;simp at a),e⟩
 have lift:∀ x c,nw≠some x->cl.lookup x=some c->(Bk nw C++cl).lookup x=some c:=λx c n e=>by
  cases nw with
  | none=>exact e
  | some nm =>
   show ((nm,C+1)::cl).lookup x=some c;rw[dN,show (x == nm)=false from cQ.mpr λz=>n (by rw[z])];exact e
 have ai:∀ x c,cl.lookup x=some c->c<C:=λx c e=>by
  obtain⟨v,o,ho,_⟩:=f.cell x c (P x c e);rw[<- hC];exact aZ ho
 have aj:∀ b∈fp,∀ x c,(Bk nw C++cl).lookup x=some c->c≠b:=λb a x c e=>by
  rcases look x c e with⟨_,q⟩ | ⟨_,q⟩
  .exact λz=>absurd (bm b a) (by rw[<- z,q];exact Nat.not_lt.mpr (iL C))
  .exact (f3 b a).2.2.2.2.1 x c (P x c q)
 have a8:(tM nw X (T++U) j cl C K M fp).Ok:=by
  refine⟨f.ok.mod,hk,f.ok.glob,f.ok.blt,lU hC,λx y c R E=>?_,λx hx=>?_,λx c R E=>?_,f.ok.hd,f.ok.frames,.inl rfl,λb a=>⟨a5 b a,λx c e=>aj b a x c e⟩,λb o e=>f.bs b o e,?_,λb o e z=>?_,λb a=>a6 b a,f.stack,f.stkFree⟩
  .rcases look x c R with⟨q1,r1⟩ | ⟨q1,r1⟩
   .rcases look y c E with⟨q2,r2⟩ | ⟨q2,r2⟩
    .exact bK (q1.symm.trans q2)
    .exact absurd (ai y c r2) (by rw[r1];exact Nat.not_lt.mpr (iL C))
   .rcases look y c E with⟨q2,r2⟩ | ⟨q2,r2⟩
    .exact absurd (ai x c r1) (by rw[r2];exact Nat.not_lt.mpr (iL C))
    .exact f.ok.inj x y c (P x c r1) (P y c r2)
  .have bu:(relabel j X.env).names.lookup x=some .cell\/(relabel j X.env).names.lookup x=some .free:=hx;have hf:j.names.lookup x=some .cell\/j.names.lookup x=some .free:=by
    rcases bu with q | q
    .exact Rs q (.inl rfl)
    .exact Rs q (.inr rfl)
   show ∃ c,(Bk nw C++cl).lookup x=some c;by_cases a:nw=some x
   .subst a;exact⟨C+1,by show ((x,C+1)::cl).lookup x=_;rw[dN,hU]⟩
   .rcases hf with q | q
    .exact absurd (O.only x q) a
    .obtain⟨c,e⟩:=cS.mp (a3 x (dX q));exact⟨c,lift x c a e⟩
  .rcases look x c E with⟨q,r⟩ | ⟨q,r⟩
   .show K.heap.objs.size<=c;rw[r,hC];exact iL C
   .cases nw with
    | none =>
     have R:(cl.lookup x).isNone=true:=R;rw[r] at R;cases R
    | some nm =>
     have R:(x == nm||(cl.lookup x).isNone)=true:=R;rw[r,show (x == nm)=false from cQ.mpr λz=>q (by rw[z])] at R;cases R
  .exact bX f.ok.bsz f.sz
  .obtain⟨z0,z1,z2,z3,_⟩:=f3 b z;rcases z3 with q | q
   .exact f.ok.noex b o e q
   .exact absurd (bI (aZ e) (bX f.ok.bsz q)) (eT _)
 have I4:Inv (tM nw X (T++U) j cl C K M fp) [] (tG T aa σ) M { K with heap:=Z }:=by
  refine⟨a8,rfl,f.bare,Un.kept old,⟨_,V,λi x v R E e3=>?_⟩,λx c e=>?_,av,λx c e=>?_,λp hp=>absurd (show p∈([]:Aa (Ad×Obj)) from hp) (by simp),f.hok.kept old,?_⟩
  .have R:(T++U)[i]?=some x:=R;unfold tG at E;by_cases hi:i<T.length
   .rw[iW (by simpa using hi),aW] at E;cases q:T[i]? with
    | none=>rw[q] at E;cases E
    | some z=>rw[q] at E;cases E
   .rw[fB (by omega)] at R;rw[fB (by simpa using hi),aW,aA] at E;obtain⟨k,k1,k2,k3⟩:=O.cap _ x R;rw[k1] at E;have E:(σ[k]?).join=some v:=bK E;have bj:σ[k]?=some (some v):=by
     cases q:σ[k]? with
     | none=>rw[q] at E;cases E
     | some z=>rw[q] at E;exact cG some E
    have Y:X.env.kindOf x=some .cell:=O.free (x,.free) (dX k3) rfl;obtain⟨m,hn,hl⟩:=f.loc;obtain⟨u,r,l⟩:=hl k x v k2 bj (.inr (.inl Y));refine⟨u,r,.inr ⟨?_,?_⟩⟩
    .obtain⟨k',e5,e6⟩:=HM (env:=X.env) k3;rcases e6 with z | ⟨_,z⟩
     .subst z;exact .inr e5
     .subst z;exact .inl e5
    .rcases l with⟨l1,_⟩ | ⟨_,c,e7,o,ay,az⟩
     .rw[Y] at l1;cases l1
     .obtain⟨c',e8⟩:=cS.mp (a3 x (dX k3));have:=P x c' e8;rw[e7] at this;cases this;exact⟨c,lift x c (λz=>by rw[O.cel x z] at k3;cases k3) e8,o,old c o ay,az⟩
  .rcases look x c e with⟨n,q⟩ | ⟨_,q⟩
   .exact⟨none,q▸S x n⟩
   .obtain⟨v,o,ay,az⟩:=f.cell x c (P x c q);exact⟨v,o,old c o ay,az⟩
  .rcases look x c e with⟨_,q⟩ | ⟨_,q⟩
   .exact q▸ak
   .exact f.freeC x c (P x c q)
  .show (tG T aa σ).length=(T++U).length;unfold tG;rw[bH,bH,aA,aA,O.len]
 have au:∀ {H':Hp},(∀ b∈fp,H' b=none)->∀ b∈fp,uQ (tM nw X (T++U) j cl C K M fp) [] H' b:=λhn b a =>
  ⟨hn b a,a5 b a,a6 b a,.inl a,λx c e=>aj b a x c e,λp hp=>absurd (show p∈([]:Aa (Ad×Obj)) from hp) (by simp)⟩
 have bc:tn 0 Z:=B.keep _ _ _ ag λb _ o e=>old b o e
 have b0:W 0 m0 [] (tG T aa σ) M:=w0;have an:codeAny (model X.prog X.w) X.A (.compLoop (.ListComp a4 [⟨tg,iter,af,0⟩] j pos) 0 (.ref it) (.ref D) (compEnvC j (Bk nw C++cl) C X.env))
   (compPost (model X.prog X.w) X.A X.xe a2 Qs (.ref D) C) { K with heap:=Z }:=by
  refine AY (λn s'=>∃ i ys be H',Inv (tM nw X (T++U) j cl C K M fp) [] be H' s'/\tn i s'.heap/\(∀ b∈fp,H' b=none)/\W i n ys be H') ?_ m0 ⟨0,[],tG T aa σ,M,I4,bc,λb a=>(f3 b a).1,b0⟩;rintro n s5 ⟨i,ys,ah,H5,I5,bd,a7,w5⟩;rcases ao i n ys ah H5 w5 with⟨stop,qn⟩ | ⟨go,N,F,hN,hF,step⟩
  .refine mV (B.done (tM nw X (T++U) j cl C K M fp) rfl rfl rfl hc i [] s5 ah H5 _ I5 (au a7) bd stop) λr s6 t=>?_
   obtain⟨hr,I6⟩:=t;subst hr;obtain⟨m6,br,_⟩:=I6.loc;have bq:H5 C=none:=I6.free;have ub:=I6.base;have a0:=f.fpOk (lU hC) av;refine fin C D s6 H5 (Inv.call' (s':=s6) (ch:=fp) f I6.os ?_ I6.hok I6.bare (λb a=>⟨(f3 b a).2.2.2.1,(f3 b a).2.1,(f3 b a).2.2.2.2.1,(f3 b a).2.2.2.2.2⟩)) qn ⟨bq,a0.2⟩ ⟨m6,br⟩;exact⟨λb o q n a hx=>ub.keep b o q n a hx,λb o q n a hx=>ub.slot b o q n a hx,ub.free,λb o q hx=>ub.there b o q hx,ub.tups,ub.frzs,ub.tbls⟩
  .refine mV (B.item (tM nw X (T++U) j cl C K M fp) rfl rfl rfl hc i [] s5 ah H5 _ I5 (au a7) bd go) λr s6 t=>?_
   obtain⟨u,hr,h6⟩:=t;subst hr;refine mV h6 λ_ s7 t=>?_
   obtain⟨x,H7,I7,r7,y7,a1,bn⟩:=t;have bh:=I7.pinned (au bn) (B.obj _ _ a1);have G:∀ {L:St} {H8:Hp} {s8:Ae},Inv (tM nw X (T++U) j cl C K M fp) ([]++Ei fp s7.heap) L H8 s8->tn (i+1) s8.heap/\(∀ b∈fp,H8 b=none):=λ{L H8 s8} I8=>by
    refine⟨B.keep _ _ _ a1 λb a o e=>(I8.pin (b,o) (aT _ (aT _ (J8 a e)))).1,λb a=>?_⟩;obtain⟨o,e,d⟩:=B.obj _ _ a1 b a;exact (I8.pin (b,o) (aT _ (aT _ (J8 a e)))).2.1
   refine mV (hg K M C cl fp _ s7 ah H7 x u _ bh r7 (step x H7 y7)) λ_ s8 t=>?_
   obtain⟨L,H8,I8,q8⟩:=t;refine mV (ht K M C cl fp _ s8 L H8 _ I8 q8) λok s9 t=>?_
   obtain⟨H9,I9,q9⟩:=t;cases ok with
   | false =>
    rw[aJ (by simp)] at q9;rw[aJ (by simp)];obtain⟨m',hm,w9⟩:=hF _ _ q9;exact⟨m',hm,i+1,ys,L,H9,I9.unpinned,(G I9).1,(G I9).2,w9⟩
   | true =>
    rw[aO rfl] at q9;rw[aO rfl];refine mV (he K M C cl fp _ s9 L H9 _ I9 q9) λvv bx t=>?_
    obtain⟨v,bf,bg,bw,bv⟩:=t;obtain⟨bi,b3,m',hm,b1⟩:=hN _ _ _ bv;refine mV (sK (X:=tM nw X (T++U) j cl C K M fp) _ bx L bf (.ref D) [v] (.ref D) [vv] (λ_ aq=>W (i+1) m' (ys++[v]) L aq) bg rfl (.cons bw .nil) ⟨D,ys,v,rfl,rfl,bi,b3,b1⟩) λ_ b5 t=>?_
    obtain⟨_,aq,ar,_,b2⟩:=t;exact⟨m',hm,i+1,ys++[v],L,aq,ar.unpinned,(G ar).1,(G ar).2,b2⟩
 exact codeAny_compStart_list an (B.self _ 0 _ _ _ bc an)
theorem Rr {D:Ad}(I:Inv X g J j p) (q:Q (.ref D) j) (r:uQ X g j C) (l:∃ m,p.heap.Ns C m):compPost (model X.prog X.w) X.A X.xe none (EP X g J Q) (.ref D) C (.ok .next) p:=by
 obtain⟨m,l⟩:=l;refine⟨m,l,λd c=>⟨.ref D,j,I.moved (t':=p.toks) (fp:=[C]) (λb a=>?_) (λb o a e=>?_),rfl,q⟩⟩
 .rw[aX.mp a];exact r
 .exact c.extBut b o (λz=>a (aX.mpr z)) e
theorem zY {iter:Expr}(T o:Aa Af) (r:Aa Nat) (hc:X.calm=true) (hi:PI X tg iter wi)
  (hk:j.kind = .function) (ho:Fq X.N X.env.kindOf j T o r=true)
  (hg:∀ p l C U J,PG (uF X (T++o) j U C p l J) tg g)
  (ht:∀ p l C U J,vV (uF X (T++o) j U C p l J) ab tt)
  (he:∀ p l C U J,PE (uF X (T++o) j U C p l J) aa te)
  (hs:∀ x,foldedSetIterable iter X.env x=pure x:=by intro _;rfl) :
  PE X (.ListComp aa [⟨tg,iter,ab,0⟩] j pos) (Bj T r wi g tt te):=by
 intro a s e H Q I h;rw[eval_ListComp];exact Nn (nw:=none) T o r hc hi hk (Kt ho) hg ht he hs I h λC D d c I q J b=>Rr I q J b
end
structure Yields (J:It) (xs:List V) (R:Hp->Prop):Prop where
 go:∀ i H,i<xs.length->R H->J.go i H
 yld:∀ i H x H',i<xs.length->R H->J.yld i H x H'->H'=H/\xs[i]?=some x
 stop:∀ i H,i=xs.length->R H->J.stop i H
theorem JQ {K:mI}:Yields (yV K a) g (λH=>mL K H a g) :=
 ⟨λi H b r=>⟨g,g[i],r,aE b⟩,λi H x c b r y=>⟨y.1,y.2 g r⟩,λi H e r=>⟨g,r,by omega⟩⟩
theorem Rh {lo:Int}:Yields (wA lo n) ((List.range n).map λ(i:Nat)=>V.int (lo+(i:Int))) (λ_=>True) :=
 ⟨λi H a _=>by simpa [wA] using a,λi H x b a _ y=>⟨y.1,by rw[y.2];simp at a;simp[a]⟩,λi H e _=>by simp[wA,e]⟩
def B4 (z:Af):Aa V:=z.cps.toList.map λc=>V.str ⟨#[c]⟩
theorem RF:Yields (wJ z) (B4 z) (λ_=>True) :=
 ⟨λi H a _=>by simpa [wJ,B4,Str.length] using a,
  λi H x d a _ y=>by
   obtain⟨e,c,b,rfl⟩:=y;refine⟨e,?_⟩;unfold B4;rw[aW,cZ,b];rfl,
  λi H e _=>by simp[wJ,e,B4,Str.length]⟩
def Lh (o:St) (D:Ad) (Pv:Nat->Aa V->Hp->Prop) (i:Nat) (g:Aa V) (j:St):VK:=λv a=>(∃ t,j=t::o)/\a D=some (.l g)/\g.length<sizeLine/\Pv (i+1) (g++[v]) (upd a D (.l (g++[v])))
def S8 (l:St) (Pv:Nat->Aa V->Hp->Prop) (i:Nat) (o:Aa V) (g:St) (j:Hp):Prop:=(∃ t,g=t::l)/\Pv (i+1) o j
theorem Mm {R:Hp->Prop}{D:Ad}(Y:Yields J o R) (Pv:Nat->Aa V->Hp->Prop)
  (U:Pv 0 [] (upd T D (.l []))) (I:∀ i j H,i<=o.length->Pv i j H->R H)
  (hs:∀ i x j H,o[i]?=some x->Pv i j H->tt (some x::g.map (λi=>(r[i]?).join)) H λb C =>if b=true then te (some x::g.map (λi=>(r[i]?).join)) C (Lh (g.map (λi=>(r[i]?).join)) D Pv i j (some x::g.map (λi=>(r[i]?).join))) else S8 (g.map (λi=>(r[i]?).join)) Pv i j (some x::g.map (λi=>(r[i]?).join)) C)
  (hd:∀ j H,Pv o.length j H->Q (.ref D) H):B9 [nm] g J (An 0) tt te r T Q D:=by
 refine⟨λi m j d H=>m=o.length-i/\i<=o.length/\(∃ t,d=t::g.map (λi=>(r[i]?).join))/\Pv i j H,⟨o.length,by simp,cR _,⟨none,rfl⟩,U⟩,?_⟩;rintro i m j d c ⟨rfl,h,⟨t,rfl⟩,p⟩;by_cases a:i<o.length
 .refine .inr ⟨Y.go i c a (I i j c h p),Lh (g.map (λi=>(r[i]?).join)) D Pv i j,S8 (g.map (λi=>(r[i]?).join)) Pv i j,?_,?_,λx q y=>?_⟩
  .rintro n v z ⟨k,s,u,f⟩;exact⟨s,u,o.length-(i+1),by omega,rfl,a,k,f⟩
  .rintro n C ⟨k,f⟩;exact⟨o.length-(i+1),by omega,rfl,a,k,f⟩
  .obtain⟨rfl,w⟩:=Y.yld i c x q a (I i j c h p) y;exact hs i x j q w p
 .have e:i=o.length:=by omega
  subst e;exact .inl ⟨Y.stop _ _ rfl (I _ j c h p),hd j c p⟩
def yO:Expr->Bool
 | .Starred _ _=>false
 | _=>true
theorem PH (h:yO e=true):starEach (e::j) g=(false,eval e g)::starEach j g:=by
 cases e<;>first | rfl | (cases h;done)
section
variable {X:Cx}
theorem nA (j:PE X e o) (l:PA X g t) (h:yO e=true:=by rfl):PA X (e::g) (A2 o t):=xV j l (PH h)
def RC (g:Aa Af):TA:=λ_ H Q=>Q (g.map V.str) H
theorem zJ:∀ (l:Aa (Af×Nat×Pos)),PA X (l.map λp=>.Constant (.str p.1) p.2.1 p.2.2) (RC (l.map (·.1)))
 | []=>nK
 | a::r=>λpos b s c H Q I h=>nA (wQ (x:=a.1) (j:=a.2.1) (pos:=a.2.2)) (zJ r) (by rfl) pos b s c H Q I h
end
theorem Lg {R:Hp->Prop}{D:Ad}(Y:Yields J o R) (Pv:Nat->Aa V->Hp->Prop)
  (I:Pv 0 [] (upd C D (.l []))) (T:∀ i j H,i<=o.length->Pv i j H->R H)
  (U:∀ i x j H,o[i]?=some x->Pv i j H->te (some x::g.map (λi=>(r[i]?).join)) H (Lh (g.map (λi=>(r[i]?).join)) D Pv i j (some x::g.map (λi=>(r[i]?).join))))
  (hd:∀ j H,Pv o.length j H->Q (.ref D) H):B9 [nm] g J (An 0) Fn te r C Q D:=by
 refine Mm Y Pv I T (λi x j H a p=>?_) hd;unfold Fn;dsimp only;rw[aO rfl];exact U i x j H a p
theorem NB {R:Hp->Prop}{D:Ad}(Y:Yields J g R) (f:V->V) (T:j D=none) (C:∀ H,pV j H->R H) (hl:g.length<=1000)
  (I:∀ (i:Nat) x H (k:VK),g[i]?=some x->pV j H->k (f x) H->U (some x::r.map (λi=>(σ[i]?).join)) H k)
  (hd:Q (.ref D) (upd j D (.l (g.map f)))):B9 [nm] r J (An 0) Fn U σ j Q D:=by
 have sm:∀ o,pV j (upd j D o):=λo b u e=>by rw[mT (nQ e T)];exact e
 refine Lg Y (λi a H=>i<=g.length/\a=(g.take i).map f/\H=upd j D (.l a)) ⟨cR _,by simp,rfl⟩ (λi a H _ p=>C H (by rw[p.2.2];exact sm _)) ?_ ?_
 .rintro i x a H d ⟨m,rfl,rfl⟩;have c:=(aL.mp d).1;have h:g.take (i+1)=g.take i++[x]:=by rw[bM,d];rfl
  refine I i x _ _ d (sm _) ⟨⟨_,rfl⟩,mX,?_,c,?_,?_⟩
  .rw[aA,bU];exact cK (show min i g.length<=1000 by omega) (by decide)
  .rw[h,aM];rfl
  .rw[ED]
 .rintro a H ⟨_,rfl,rfl⟩;rw[bL (aU _)];exact hd
theorem zR {X:Cx}{st:Stmt}{rest:Aa Stmt}{D:Ends}(I:St->Hp->Prop) (g:∀ u:TS,(∀ j l,I j l->u D j l)->∃ t,PS X st t/\t { D with nx:=u D } o H)
  (h:∀ j l,I j l->∃ u,qG X rest u/\u D j l):∃ t,qG X (st::rest) t/\t D o H:=by
 let u:TS:=λb j l=>∃ c,qG X rest c/\c b j l
 have k:qG X rest u:=λa s j l b d ⟨c,i,e⟩=>i a s j l b d e
 obtain⟨t,pt,f⟩:=g u h;exact⟨M0 t u,qE pt k,f⟩
theorem Pr {X:Cx}{st:Stmt}{rest:Aa Stmt}{D:Ends}(t:TS) (p:PS X st t) (h:t { D with nx:=λg j=>∃ u,qG X rest u/\u D g j } l H):∃ t,qG X (st::rest) t/\t D l H:=by
 let u:TS:=λb g j=>∃ c,qG X rest c/\c b g j
 have i:qG X rest u:=λa s g j b d ⟨c,f,e⟩=>f a s g j b d e
 exact⟨M0 t u,qE p i,h⟩
section
variable {X:Cx}{id:String}
def PP (K:mI):Aa V->Hp->VK->Prop:=λb H Q=>∃ p a,b=[.ref p]/\(mL K H p a\/nP K H p a)/\Q (.int a.length) H
theorem LK (K:mI) (g:X.K=K:=by rfl):oI X (.builtin "len") (PP K):=by subst g;exact zC
theorem PR (K:mI) (pa:PlainAttrs T) (slot:Slot T name id) (j:typeOf (.builtin id)=pure (.type "method_descriptor")) (J:xT X id r) (U:PE X o to) (C:PA X (e::l) t) (p:X.K=K:=by rfl)
  (I:MtB X o name apos e l g:=by exact {}) :
  PE X (.Call (.Attribute o name apos) (e::l) [] g) (K7 K T r to t):=by
 subst p;exact zE pa slot j J U C I
end
section
variable {X:Cx}
def Zg (g:Aa Int):TA:=λ_ H Q=>Q (g.map V.int) H
theorem Go:∀ (l:Aa (Int×Nat×Pos)),PA X (l.map λp=>.Constant (.int p.1) p.2.1 p.2.2) (Zg (l.map (·.1)))
 | []=>nK
 | a::r=>λpos b s c H Q I h=>nA (nU (i:=a.1) (j:=a.2.1) (pos:=a.2.2)) (Go r) (by rfl) pos b s c H Q I h
end
section
variable {X:Cx}
theorem CA (g:X.A.units+64<cLine):nJ X (compareOp .NotEq) (Ki X.K true):=by
 intro c s M H x y v u Q I F G h;obtain⟨a,b,L,rfl,rfl,f,z,q⟩:=h;cases F;cases G;obtain⟨B,D,m,_⟩:=I.list f;obtain⟨k,E,n,_⟩:=I.list z;cases E;have t:∀ d,d = !L.isEmpty->EP X c M Q (.bool d) s:=λd e=>⟨.b d,H,I,rfl,by subst e;exact q⟩
 cases D with
 | nil=>exact SeqAt.RcNeAt.lists (e:=λ_=>true) m.isList n.isList rfl (by omega) (λi f _=>by simp at f) X.prog X.w _ _ (t _ (by simp))
 | cons r N=>exact SeqAt.RcNeAt.lists_lengths m.isList n.isList (by simp) (by omega) X.prog X.w _ _ (t _ rfl)
def Rv (K:mI):Aa V->Hp->VK->Prop:=λd H Q=>∃ (x c:V) (t a:Ac) (b:Bool),d=[x,c]/\nC c a/\TyOf K H x t/\PySem.W.kitOne K t a=some b/\Q (.b b) H
theorem Vv (K:mI) (g:X.K=K:=by rfl):oI X (.builtin "isinstance") (Rv K):=by subst g;exact SV
end
section
variable {X:Cx}
theorem HS {bs:Aa Bool}{g:Aa Ac}(r:mY (bs.map V.b) g){i:Nat}{v:Ac}(h:g[i]?=some v):∃ b,bs[i]?=some b/\v = .bool b:=by
 have d:=r.length;rw[aA] at d;have f:i<g.length:=(aL.mp h).1;have a:bs[i]?=some (bs[i]'(by omega)):=aE (by omega);obtain⟨u,c,e⟩:=r.get (i:=i) (x:=V.b (bs[i]'(by omega))) (by rw[aW,a];rfl);rw[h] at c;cases c;exact⟨_,a,e⟩
theorem DH (bs:Aa Bool):((List.range bs.length).all λi=>(bs[i]?).getD true)=bs.all id:=by
 have e:(List.range bs.length).map (λi=>(bs[i]?).getD true)=bs:=by
  apply kA (by simp);intro i p q;simp[q]
 calc ((List.range bs.length).all λi=>(bs[i]?).getD true)=((List.range bs.length).map λi=>(bs[i]?).getD true).all id:=by rw[List.all_map];rfl
  _=bs.all id:=by rw[e]
def Sj (K:mI):Aa V->Hp->VK->Prop:=λa H Q=>∃ (p:Ad) (bs:Aa Bool),a=[.ref p]/\mL K H p (bs.map V.b)/\Q (.b (bs.all id)) H
theorem U4 (g:X.calm=true):oI X (.builtin "all") (Sj X.K):=by
 intro m s P H O N Q I r h;obtain⟨p,bs,rfl,z,q⟩:=h;obtain⟨u,rfl,D⟩:=rF r;cases D;obtain⟨c,n,B,_⟩:=I.list z;have d:=B.isList;have a:=n.length;rw[aA] at a;have f:p<s.heap.objs.size:=by obtain⟨_,e,_⟩:=id d;exact aZ e
 refine call_all_walk (fQ d ?_);refine⟨s.heap.objs.size,[s.heap.objs.size,p],[s.heap.objs.size],c.toArray.size,_,_,λi=>(bs[i]?).getD true,rfl,Walks.list (A:=X.A.in1) (I.ok.hd g) _ p (bO f) c.toArray,⟨⟨_,bA _ rfl,rfl,rfl⟩,d.push _⟩,λi v L F E t k=>?_,λG M w=>?_⟩
 .obtain⟨b,e,rfl⟩:=HS n (by simpa using t);simp only[e,iS] at k;exact gQ k
 .have e:((List.range c.toArray.size).all λi=>(bs[i]?).getD true)=bs.all id:=by
   rw[aY,<- a];exact DH bs
  rw[e];exact⟨.b _,H,I.kept λb x e=>w b x (λy=>by rw[aX.mp y] at e;exact eT _ (aZ e)) (aG _ e),rfl,q⟩
def Tr:V->Aa V->Hp->VK->Prop:=λx a H Q=>∃ (z y:Af),x = .str z/\a=[.str y]/\y.length≠0/\z.length<=1000000/\∀ p,H p=none->Q (.ref p) (upd H p (.l ((Txt.split z y).map V.str)))
theorem P2:∀ (l:Aa (Af×Tok)),mY ((l.map (·.1)).map V.str) (strValues l)
 | []=>.nil
 | a::r=>.cons ⟨a.2,rfl⟩ (P2 r)
theorem JZ:xT X "str.split" Tr:=by
 intro b s A H x F v E Q I w n h;obtain⟨z,y,rfl,rfl,m,D,q⟩:=h;obtain⟨t,rfl⟩:=w;obtain⟨u,rfl,c,rfl⟩:=n.one;have a:(y.length == 0)=false:=by simpa using m
 have fin:∀ (l:Aa (Af×Tok)) (d:Nat),l.map (·.1)=Txt.split z y->l.length<=sizeLine->EP X b A Q (.ref s.heap.objs.size) { s with heap:=s.heap.push { cls:=.type "list",data:=.seq (strValues l).toArray },toks:=d }:=by
  intro l d e k;refine⟨.ref _,_,I.lnew (its:=strValues l) (ys:=(Txt.split z y).map V.str) (t':=d) (by rw[<- e];exact P2 l) ?_,rfl,q _ I.fresh⟩;rw[aA,<- e,aA];exact k
 have f:(Builtin.Str.partsBetween z (Builtin.Str.occurrences z y 0 z.length (z.length+1)) y.length).length<=sizeLine:=by
  have B:=StrLaws.occ_length_le z y 0 z.length (z.length+1);rw[length_partsBetween,kF];omega
 cases g1:(decide (z.length<y.length)||decide (Builtin.Str.strKind z<Builtin.Str.strKind y)) with
 | false =>
  cases g2:(Builtin.Str.occurrences z y 0 z.length (z.length+1)).isEmpty with
  | false =>
   refine iA iC (lA _ _ _) jK (jB _ _) (meets_str_split_sep z y t c g1 a g2 (by rw[kF];omega) f) ?_;show wants _ _ _ { s with toks:=_,heap:=s.heap.push { cls:=.type "list",data:=.seq (strsFrom s.toks (Builtin.Str.partsBetween z (Builtin.Str.occurrences z y 0 z.length (z.length+1)) y.length)).toArray } };rw[strsFrom_eq];have i:(numbered s.toks (Builtin.Str.partsBetween z (Builtin.Str.occurrences z y 0 z.length (z.length+1)) y.length)).map (·.1)=Txt.split z y:=(numbered_texts _ _).trans ((aJ (kT g1)).trans (aJ (kT g2))).symm;refine fin _ _ i ?_;have:=cG List.length (numbered_texts s.toks (Builtin.Str.partsBetween z (Builtin.Str.occurrences z y 0 z.length (z.length+1)) y.length));rw[aA] at this;rw[this];exact f
  | true =>
   exact iA iC (lA _ _ _) jK (jB _ _) (meets_str_split_not_found z y t c g1 a g2)
    (fin [(z,t)] s.toks ((aJ (kT g1)).trans (aO g2)).symm (by show 1<=sizeLine;decide))
 | true =>
  exact iA iC (lA _ _ _) jK (jB _ _) (meets_str_split_cannot_occur z y t c g1)
   (fin [(z,t)] s.toks (aO g1).symm (by show 1<=sizeLine;decide))
end
section
variable {X:Cx}
theorem Inv.movedT {t':Nat}{p:Aa Ad}{ys:Aa V}{j:Aa Ac}(I:Inv X g U H s) (l:∀ b∈p,uQ X g H b) (k:∀ b o,b∉p->s.heap.get? b=some o->C.get? b=some o)
  (new:yI C s.heap.objs.size j.toArray) (T:mY ys j) (J:ys.length<=sizeLine):Inv X g U (upd H s.heap.objs.size (.t ys)) { s with heap:=C,toks:=t' }:=by
 have f:=I.fresh;have h:∀ b u,H b=some u->b∉p:=λb u e z=>by rw[(l b z).1] at e;cases e
 have lt:∀ b o,s.heap.get? b=some o->b≠s.heap.objs.size:=λb o e=>bO (aZ e)
 refine I.step (g':=s.gens) (d':=s.drawn) (ch:=p) (λb a=>⟨(l b a).2.2.2.1,(l b a).2.1,(l b a).2.2.2.2.1,(l b a).2.2.2.2.2⟩) (λb o _ _ d e _=>k b o d e) (λb o _ _ d e _=>⟨o.slots,k b o d e⟩) (λb o _ e n=>by rw[mT (lt b o e)];exact n)
  (λb o d e=>⟨o,k b o d e⟩) (λb A e=>by rw[mT (nQ e f)];exact e) (λb o u e=>by rw[mT (nQ e f)];exact e) (λb B e=>⟨#[],by rw[mT (nQ e f),e];simp⟩) (λm x=>?_) (λb u e=>?_) I.bare
 .obtain⟨o,w,i,y,r⟩:=x;exact⟨o,w,i,k _ o (λz=>(l _ z).2.1 rfl) y,r⟩
 .by_cases a:b=s.heap.objs.size
  .subst a;rw[mX] at e;cases e;exact⟨J,j,T,new⟩
  .rw[mT a] at e;refine (I.hok b u e).stay (λc v d q=>k c v ?_ q) (λc q=>by rw[mT (nQ q f)];exact q) λc A q=>by rw[mT (nQ q f)];exact q
   rcases d with z | z
   .rw[z];exact h b u e
   .exact h c _ z
end
section
variable {X:Cx}
theorem HU {iter:Expr}(T p:Aa Af) (J:Aa Nat) (hN:X.N.Nodup) (af:X.N[i]?=some x) (hx:xD X.env.scope x)
  (hc:X.calm=true) (hi:PI X tg iter wi) (hk:j.kind = .function) (ho:Fq X.N X.env.kindOf j T p J=true)
  (hg:∀ r l C cl U,PG (uF X (T++p) j cl C r l U) tg g)
  (ht:∀ r l C cl U,vV (uF X (T++p) j cl C r l U) ac tt)
  (he:∀ r l C cl U,PE (uF X (T++p) j cl C r l U) ab te)
  (ag:swapsWith (.ListComp ab [⟨tg,iter,ac,0⟩] j pos) (some (.Name x aa)) ae.line X.env=pure true:=by rfl)
  (hs:∀ x,foldedSetIterable iter X.env x=pure x:=by intro _;rfl)
  (hf:X.fn x=true\/X.env.scope.names.lookup x=some .local:=by first | exact .inl rfl | exact .inr rfl | assumption) :
  PS X (.Assign [.Name x aa] (.ListComp ab [⟨tg,iter,ac,0⟩] j pos) ae) (K4 (Bj T J wi g tt te) (An i)):=by
 intro u s M H D I h;rw[exec_Assign_Name_used _ _ _ _ ag];refine aB (lM (aB ?_));show wpAny _ _ (comprehension _ _ _ _ _ _ _ _ >>= λ_=>pure ()) _ _ _;refine aB (Nn (nw:=none) T p J hc hi hk (Kt ho) hg ht he hs I h λC t L w A q U k=>?_);obtain⟨m,E⟩:=k;show wpAny _ _ (assign (.Name x aa) X.env (.ref t)) _ _ _;refine wpAny_assign_Name (Wq A hN af hx (v:=.ref t) rfl (λF y f=>?_) hf);obtain⟨a,G,B⟩:=f;have c:C≠a:=by
  rcases B with z | z
  .rw[z];exact U.2.1
  .exact (U.2.2.2.2.1 x a z).symm
 refine⟨m,E.sameBut G c,λK n=>aI (aI ⟨_,w,y.moved (t':=F.toks) (fp:=[C]) (λb d=>?_) (λb o d e=>?_),q⟩)⟩
 .rw[aX.mp d];exact U
 .exact n.extBut b o (λz=>d (aX.mpr z)) e
end
inductive D where
 | e | b (b:Bool) | int (i:Int) | str (x:Str) | r (v:V)
 | t (xs:List D) | l (xs:List D)
 | k (kvs:List (gD×D)) | T (kvs:List (List gD×D))
 | c (xs:List D)
 | con (xs:List D)
def Ef (K:mI) (a:Ad) (g:Aa V):Prop:=∃ (o:Obj) (b:Array Ac) (n:Nat),K.lookup a=some o/\o.cls = .type "tuple" /\ o.data = .seq b n/\b.size<=sizeLine/\mY g b.toList
theorem Ef.sqT {K:mI}(h:Ef K a g):nP K H a g:=.inr h
def yC (K:mI) (H:Hp) (a:Ad) (g:Aa V):Prop:=(∃ o,H a=some (.frz o (.l g))) \/
 ∃ (o:Obj) (b:Array Ac) (n:Nat),K.lookup a=some o/\o.cls = .type "list" /\ o.dict=none/\o.data = .seq b n/\b.size<=sizeLine/\mY g b.toList
theorem yC.sqL {K:mI}(h:yC K H a g):mL K H a g:=h.elim (λh=>.inl (.inr h)) .inr
mutual
inductive Rep (K:mI) (A:Addr->Prop) (H:Hp):D->V->Prop where
 | e:Rep K A H .e .e
 | b (b:Bool):Rep K A H (.b b) (.b b)
 | int (i:Int):Rep K A H (.int i) (.int i)
 | str (x:Str):Rep K A H (.str x) (.str x)
 | r (v:V):Rep K A H (.r v) v
 | t {a:Addr} {vs:List V} {ds:List D}:H a=some (.t vs)->Reps K A H ds vs->Rep K A H (.t ds) (.ref a)
 | con {a:Addr} {vs:List V} {ds:List D}:Ef K a vs->Reps K A H ds vs->Rep K A H (.con ds) (.ref a)
 | l {a:Addr} {vs:List V} {ds:List D}:A a->H a=some (.l vs)->Reps K A H ds vs->Rep K A H (.l ds) (.ref a)
 | c {a:Addr} {vs:List V} {ds:List D}:yC K H a vs->Reps K A H ds vs->Rep K A H (.c ds) (.ref a)
 | k {a:Addr} {kvs:List (gD×V)} {ds:List (gD×D)}:A a->H a=some (.k kvs)->ds.map (·.1)=kvs.map (·.1)->Reps K A H (ds.map (·.2)) (kvs.map (·.2))->Rep K A H (.k ds) (.ref a)
 | T {a:Addr} {kvs:List (List gD×V)} {ds:List (List gD×D)}:A a->Rd H a (.T kvs)->ds.map (·.1)=kvs.map (·.1)->Reps K A H (ds.map (·.2)) (kvs.map (·.2))->Rep K A H (.T ds) (.ref a)
inductive Reps (K:mI) (A:Addr->Prop) (H:Hp):List D->List V->Prop where
 | nil:Reps K A H [] []
 | cons {d:D} {v:V} {ds:List D} {vs:List V}:Rep K A H d v->Reps K A H ds vs->Reps K A H (d::ds) (v::vs)
end
def F3:HO->Bool
 | .t _=>true
 | .frz _ _=>true
 | _=>false
def Kp (A j:Ad->Prop) (H g:Hp):Prop:=(∀ a o,A a->H a=some o->j a/\g a=some o)/\∀ a o,F3 o=true->H a=some o->g a=some o
section
variable {K:mI}
theorem Kp.sqF (k:Kp A l H g) (h:yC K H a j):yC K g a j:=by
 rcases h with⟨o,h⟩ | h
 .exact .inl ⟨o,k.2 _ _ rfl h⟩
 .exact .inr h
theorem Kp.rd (k:Kp A j H l) (g:A a) (h:Rd H a u):j a/\Rd l a u:=by
 rcases h with h | ⟨o,h⟩
 .exact⟨(k.1 _ _ g h).1,.inl (k.1 _ _ g h).2⟩
 .exact⟨(k.1 _ _ g h).1,.inr ⟨o,(k.1 _ _ g h).2⟩⟩
theorem Rep.mono (k:Kp A g H j) (h:Rep K A H d v):Rep K g j d v :=
 Rep.rec (motive_1:=λd v _=>Rep K g j d v) (motive_2:=λf i _=>Reps K g j f i) .e .b .int .str .r (λh _ r=>.t (k.2 _ _ rfl h) r) (λh _ r=>.con h r)
  (λa h _ r=>.l (k.1 _ _ a h).1 (k.1 _ _ a h).2 r) (λh _ r=>.c (k.sqF h) r) (λa h e _ r=>.k (k.1 _ _ a h).1 (k.1 _ _ a h).2 e r) (λa h e _ r=>.T (k.rd a h).1 (k.rd a h).2 e r) .nil (λ_ _ h r=>.cons h r) h
theorem Reps.mono (k:Kp A o H p) (h:Reps K A H j l):Reps K o p j l:=by
 induction j generalizing l with
 | nil=>cases h;exact .nil
 | cons d j a=>cases h with | cons g r=>exact .cons (g.mono k) (a r)
theorem Kp.all (h:∀ a,A a->g a):Kp A g H H:=⟨λa o b e=>⟨h a b,e⟩,λ_ _ _ e=>e⟩
theorem Kp.trans (a:Kp A l H r) (b:Kp l g r j):Kp A g H j:=⟨λx o c e=>let ⟨p,q⟩:=a.1 x o c e;b.1 x o p q,λx o t e=>b.2 x o t (a.2 x o t e)⟩
theorem Kp.laid (g:H p=none) (h:∀ a,A a->a≠p->j a):Kp A j H (upd H p o) :=
 ⟨λa u b e=>⟨h a b (nQ e g),by rw[mT (nQ e g)];exact e⟩,λa u _ e=>by rw[mT (nQ e g)];exact e⟩
theorem Kp.same (s:pV H j) (h:∀ a,A a->g a):Kp A g H j:=⟨λa o b e=>⟨h a b,s a o e⟩,λa o _ e=>s a o e⟩
theorem Kp.write (l:H p=some u) (g:F3 u=false) (j:¬ A p):Kp A A H (upd H p o):=by
 refine⟨λa w b e=>⟨b,?_⟩,λa w t e=>?_⟩
 .rw[mT (λz:a=p=>j (by rw[<- z];exact b))];exact e
 .rw[mT (λz=>?_)]
  .exact e
  .subst z;rw[l] at e;cases e;rw[t] at g;cases g
theorem Reps.length (h:Reps K A H j l):j.length=l.length:=by
 induction j generalizing l with
 | nil=>cases h;rfl
 | cons d j a=>cases h with | cons g r=>exact cG (·+1) (a r)
theorem Reps.get {j:Aa D}{l:Aa V}{i:Nat}{d:D}(h:Reps K A H j l) (e:j[i]?=some d):∃ v,l[i]?=some v/\Rep K A H d v:=by
 induction j generalizing l i with
 | nil=>cases e
 | cons c j a =>
  cases h with
  | cons g r =>
   cases i with
   | zero=>cases e;exact⟨_,rfl,g⟩
   | succ i=>exact a r (i:=i) e
theorem Reps.getV {j:Aa D}{l:Aa V}{i:Nat}{v:V}(h:Reps K A H j l) (e:l[i]?=some v):∃ d,j[i]?=some d/\Rep K A H d v:=by
 induction j generalizing l i with
 | nil=>cases h;cases e
 | cons c j a =>
  cases h with
  | cons g r =>
   cases i with
   | zero=>cases e;exact⟨_,rfl,g⟩
   | succ i=>exact a r (i:=i) e
theorem Reps.append (h:Reps K A H j l) (s:Reps K A H o p):Reps K A H (j++o) (l++p):=by
 induction j generalizing l with
 | nil=>cases h;exact s
 | cons d j a=>cases h with | cons g r=>exact .cons g (a r)
theorem Reps.take:∀ {g:Aa D}{j:Aa V}(n:Nat),Reps K A H g j->Reps K A H (g.take n) (j.take n)
 | _,_,0,_=>by rw[lC,lC];exact .nil
 | _,_,n+1,.nil=>.nil
 | _,_,n+1,.cons h r=>.cons h (Reps.take n r)
theorem Reps.drop:∀ {g:Aa D}{j:Aa V}(n:Nat),Reps K A H g j->Reps K A H (g.drop n) (j.drop n)
 | _,_,0,h=>h
 | _,_,n+1,.nil=>.nil
 | _,_,n+1,.cons h r=>Reps.drop n r
theorem Reps.set (h:Rep K A H d v):∀ {j:Aa D}{l:Aa V}(i:Nat),Reps K A H j l->Reps K A H (j.set i d) (l.set i v)
 | _,_,_,.nil=>.nil
 | _,_,0,.cons _ r=>.cons h r
 | _,_,i+1,.cons g r=>.cons g (Reps.set h i r)
theorem Reps.erase:∀ {j:Aa D}{l:Aa V}(i:Nat),Reps K A H j l->Reps K A H (j.eraseIdx i) (l.eraseIdx i)
 | _,_,_,.nil=>.nil
 | _,_,0,.cons _ r=>r
 | _,_,i+1,.cons g r=>.cons g (Reps.erase i r)
theorem Reps.reverse (h:Reps K A H j l):Reps K A H j.reverse l.reverse:=by
 induction j generalizing l with
 | nil=>cases h;exact .nil
 | cons d j a =>
  cases h with
  | cons g r=>rw[jO,jO];exact (a r).append (.cons g .nil)
theorem Reps.nil_iff (h:Reps K A H g j):j=[]↔g=[]:=by
 cases h<;>simp
theorem Rep.int_inv (h:Rep K A H (.int i) v):v = .int i:=by cases h;rfl
theorem Rep.str_inv (h:Rep K A H (.str i) v):v = .str i:=by cases h;rfl
theorem Rep.bl_inv (h:Rep K A H (.b i) v):v = .b i:=by cases h;rfl
theorem Rep.non_inv (h:Rep K A H .e v):v = .e:=by cases h;rfl
theorem Rep.raw_inv (h:Rep K A H (.r u) v):v=u:=by cases h;rfl
theorem Rep.tup_inv (h:Rep K A H (.t j) v):∃ a g,v = .ref a/\H a=some (.t g)/\Reps K A H j g:=by
 cases h with | t h r=>exact⟨_,_,rfl,h,r⟩
theorem Rep.lst_inv (h:Rep K A H (.l j) v):∃ a g,v = .ref a/\A a/\H a=some (.l g)/\Reps K A H j g:=by
 cases h with | l d h r=>exact⟨_,_,rfl,d,h,r⟩
theorem Rep.con_inv (h:Rep K A H (.con j) v):∃ a g,v = .ref a/\Ef K a g/\Reps K A H j g:=by
 cases h with | con h r=>exact⟨_,_,rfl,h,r⟩
theorem Rep.scr_inv (h:Rep K A H (.c j) v):∃ a g,v = .ref a/\yC K H a g/\Reps K A H j g:=by
 cases h with | c h r=>exact⟨_,_,rfl,h,r⟩
theorem Rep.dK_inv (h:Rep K A H (.k j) v):∃ a g,v = .ref a/\A a/\H a=some (.k g)/\j.map (·.1)=g.map (·.1)/\Reps K A H (j.map (·.2)) (g.map (·.2)):=by
 cases h with | k d h e r=>exact⟨_,_,rfl,d,h,e,r⟩
theorem Rep.dT_inv (h:Rep K A H (.T j) v):∃ a g,v = .ref a/\A a/\Rd H a (.T g)/\j.map (·.1)=g.map (·.1)/\Reps K A H (j.map (·.2)) (g.map (·.2)):=by
 cases h with | T d h e r=>exact⟨_,_,rfl,d,h,e,r⟩
end
mutual
def imm:D->Bool
 | .t a=>xU a
 | .c a=>xU a
 | .con a=>xU a
 | .l _=>false
 | .k _=>false
 | .T _=>false
 | _=>true
def xU:Aa D->Bool
 | []=>true
 | d::a=>imm d&&xU a
end
section
variable {K:mI}
theorem Rep.imm (h:Rep K A H d v):imm d=true->Rep K g H d v :=
 Rep.rec (motive_1:=λd v _=>L2.imm d=true->Rep K g H d v) (motive_2:=λa f _=>xU a=true->Reps K g H a f) (λ_=>.e) (λb _=>.b b) (λi _=>.int i) (λx _=>.str x) (λv _=>.r v) (λh _ r e=>.t h (r e)) (λh _ r e=>.con h (r e))
  (λ_ _ _ _ e=>Bool.noConfusion (show false=true from e)) (λh _ r e=>.c h (r e)) (λ_ _ _ _ _ e=>Bool.noConfusion (show false=true from e)) (λ_ _ _ _ _ e=>Bool.noConfusion (show false=true from e)) (λ_=>.nil) (λ_ _ h r e=>.cons (h (iN.mp e).1) (r (iN.mp e).2)) h
theorem Reps.imm (h:Reps K A H j l) (e:xU j=true):Reps K o H j l:=by
 induction j generalizing l with
 | nil=>cases h;exact .nil
 | cons d j a=>cases h with | cons g r=>exact .cons (g.imm (iN.mp e).1) (a r (iN.mp e).2)
end
end L2
namespace Lw
open PySem L2
structure DeckAt (H:Hp) (d c:Addr):Prop where
 ex:∃ (ns:List Int) (p:Int),H d=some (.l [.ref c,.int p])/\H c=some (.l (ns.map V.int))/\0<ns.length/\ns.length<=100
def nI (d c:Ad) (H g:Hp):Prop:=∀ b o,H b=some o->b≠d->b≠c->g b=some o
theorem nI.trans (a:nI d c H g) (b:nI d c g j):nI d c H j:=λx o e f h=>b x o (a x o e f h) f h
theorem nI.new (h:H p=none):nI d c H (upd H p o):=λb u e _ _=>by rw[mT (nQ e h)];exact e
theorem DeckAt.ne (D:DeckAt H d c):d≠c:=by
 obtain⟨i,p,f,b,h,_⟩:=D.ex;intro e;subst e;rw[f] at b;injection b with b;injection b with b;cases i with
 | nil=>simp at h
 | cons a r=>simp at b
theorem DeckAt.upd_other (D:DeckAt H d c) (hd:p≠d) (g:p≠c):DeckAt (upd H p o) d c:=by
 obtain⟨h,q,a,b,e,f⟩:=D.ex;exact⟨h,q,by rw[mT hd.symm];exact a,by rw[mT g.symm];exact b,e,f⟩
theorem DeckAt.ned (D:DeckAt H d c) (h:H p=none):p≠d/\p≠c:=by
 obtain⟨e,q,a,b,_⟩:=D.ex;exact⟨(nQ a h).symm,(nQ b h).symm⟩
theorem DeckAt.new (D:DeckAt H d c) (h:H p=none):DeckAt (upd H p o) d c:=D.upd_other (D.ned h).1 (D.ned h).2
end Lw
namespace L2
open PySem PySem.Spec PyProof.Rows Lw
inductive Sl where
 | n | v (d:D) | o (d:D)
abbrev oF:=Aa (Sl×Ab V)
def Dk (g:Aa Ad) (H:Hp):Prop:=g=[]\/∃ d c,g=[d,c]/\DeckAt H d c
theorem Dk.some (h:Dk j H) (g:a∈j):∃ o,H a=some (.l o):=by
 rcases h with rfl | ⟨d,c,rfl,h⟩
 .cases g
 .obtain⟨f,p,b,e,_⟩:=h.ex;rcases aK.mp g with rfl | g
  .exact⟨_,b⟩
  .rcases aK.mp g with rfl | g
   .exact⟨_,e⟩
   .cases g
theorem Dk.keep (h:Dk g H) (k:∀ a∈g,j a=H a):Dk g j:=by
 rcases h with rfl | ⟨d,c,rfl,h⟩
 .exact .inl rfl
 .refine .inr ⟨d,c,rfl,?_⟩;obtain⟨i,p,b,e,f⟩:=h.ex;exact⟨i,p,by rw[k d (by simp)];exact b,by rw[k c (by simp)];exact e,f⟩
theorem Dk.upd (h:Dk g H) (j:p∉g):Dk g (upd H p o):=h.keep λa b=>mT λz=>j (z▸b)
noncomputable def yU:Sl×Ab V->Ab Ad
 | (.o _,some (.ref a))=>some a
 | _=>none
def mJ (L:oF):Aa Ad:=L.filterMap yU
structure Bs where
 dk:List Addr
 A0:Addr->Prop
 H0:Hp
def Al (B:Bs) (R:Aa Ad) (a:Ad):Prop:=a∉B.dk/\a∉R/\(B.A0 a\/B.H0 a=none)
def pU (K:mI) (A:Ad->Prop) (H:Hp) (a:Ad):D->Prop
 | .l c=>∃ d,H a=some (.l d)/\Reps K A H c d
 | .k c=>∃ b,H a=some (.k b)/\c.map (·.1)=b.map (·.1)/\Reps K A H (c.map (·.2)) (b.map (·.2))
 | .T c=>∃ b,H a=some (.T b)/\c.map (·.1)=b.map (·.1)/\Reps K A H (c.map (·.2)) (b.map (·.2))
 | _=>False
def uD (K:mI) (A:Ad->Prop) (H:Hp):Sl->Ab V->Prop
 | .n,_=>True
 | .v d,x=>∃ v,x=some v/\Rep K A H d v
 | .o d,x=>∃ a,x=some (.ref a)/\pU K A H a d
structure DS (K:mI) (B:Bs) (L:oF) (H:Hp):Prop where
 fr:∀ b o,B.H0 b=some o->b∉B.dk->H b=some o
 dk:Dk B.dk H
 nd:(mJ L).Nodup
 new:∀ a∈mJ L,B.H0 a=none/\a∉B.dk
 ok:∀ p∈L,uD K (Al B (mJ L)) H p.1 p.2
section
variable {K:mI}{L2:oF}
theorem pU.mono (k:Kp A p H j) (g:∀ o,H a=some o->j a=some o) (h:pU K A H a d):pU K p j a d:=by
 cases d with
 | l _=>obtain⟨b,h,r⟩:=h;exact⟨b,g _ h,r.mono k⟩
 | k _=>obtain⟨b,h,e,r⟩:=h;exact⟨b,g _ h,e,r.mono k⟩
 | T _=>obtain⟨b,h,e,r⟩:=h;exact⟨b,g _ h,e,r.mono k⟩
 | _=>exact False.elim h
theorem pU.some:∀ {d:D},pU K A H a d->∃ o,H a=some o/\F3 o=false
 | .l _,⟨b,h,r⟩=>⟨_,h,rfl⟩
 | .k _,⟨b,h,e,r⟩=>⟨_,h,rfl⟩
 | .T _,⟨b,h,e,r⟩=>⟨_,h,rfl⟩
theorem pU.rep (g:∀ b,A b->o b) (j:o a):∀ {d:D},pU K A H a d->Rep K o H d (.ref a)
 | .l _,⟨c,h,r⟩=>.l j h (r.mono (.all g))
 | .k _,⟨c,h,e,r⟩=>.k j h e (r.mono (.all g))
 | .T _,⟨c,h,e,r⟩=>.T j (.inl h) e (r.mono (.all g))
theorem uD.mono (k:Kp A j H g) (h:uD K A H s y) (l:∀ a,yU (s,y)=some a->∀ o,H a=some o->g a=some o):uD K j g s y:=by
 cases s with
 | n=>trivial
 | v d=>obtain⟨v,e,r⟩:=h;exact⟨v,e,r.mono k⟩
 | o d=>obtain⟨a,rfl,r⟩:=h;exact⟨a,rfl,r.mono k (l a rfl)⟩
theorem sV:mJ (g++L2)=mJ g++mJ L2:=jY
theorem wC:a∈mJ L↔∃ p∈L,yU p=some a:=kZ
theorem sO:mJ (L1++x::L2)=mJ L1++((yU x).toList++mJ L2):=by
 unfold mJ;rw[List.filterMap_append,List.filterMap_cons];cases yU x<;>rfl
theorem DS.live (h:DS K B L H) (g:a∈mJ L):∃ o,H a=some o/\F3 o=false:=by
 obtain⟨p,c,e⟩:=wC.mp g;have:=h.ok p c;obtain⟨s,y⟩:=p;cases s with
 | n=>cases e
 | v d=>cases e
 | o d =>
  obtain⟨b,rfl,r⟩:=this;cases e;exact r.some
theorem DS.drop (h:DS K B (L1++x::L2) H):DS K B (L1++L2) H:=by
 have e:=sO (L1:=L1) (x:=x) (L2:=L2);have d:∀ a,a∈mJ (L1++L2)->a∈mJ (L1++x::L2):=λa c=>by
  rw[sV] at c;rw[e];simp only[aV] at c |-;rcases c with q | q
  .exact .inl q
  .exact .inr (.inr q)
 refine⟨h.fr,h.dk,?_,λa c=>h.new a (d a c),λp f=>?_⟩
 .have n:=h.nd;rw[e] at n;rw[sV];obtain⟨k,m,s⟩:=bE.mp n;exact bE.mpr ⟨k,(bE.mp m).2.1,λa c b i=>s a c b (aT _ i)⟩
 .refine (h.ok p (by simp only[aV,aK] at f |-;rcases f with q | q;exact .inl q;exact .inr (.inr q))).mono (.all λa z=>⟨z.1,λq=>z.2.1 (d a q),z.2.2⟩) (λ_ _ _ q=>q)
theorem DS.at (h:DS K B (g++x::L2) H):uD K (Al B (mJ (g++x::L2))) H x.1 x.2:=h.ok x (aT _ aH)
theorem DS.valAt (h:DS K B (g++(.v d,some v)::L2) H):Rep K (Al B (mJ (g++L2))) H d v:=by
 obtain⟨u,e,r⟩:=h.at;cases e;have:mJ (g++(Sl.v d,some v)::L2)=mJ (g++L2):=by rw[sO,sV];rfl
 rw[this] at r;exact r
theorem DS.push (h:DS K B (L1++L2) H) (r:Rep K (Al B (mJ (L1++L2))) H d v):DS K B (L1++(.v d,some v)::L2) H:=by
 have e:mJ (L1++(Sl.v d,some v)::L2)=mJ (L1++L2):=by rw[sO,sV];rfl
 refine⟨h.fr,h.dk,by rw[e];exact h.nd,by rw[e];exact h.new,λp a=>?_⟩;rw[e];simp only[aV,aK] at a;rcases a with q | q | q
 .exact h.ok p (bB _ q)
 .subst q;exact⟨v,rfl,r⟩
 .exact h.ok p (aT _ q)
theorem DS.pushN (h:DS K B (L1++L2) H) (y:Ab V):DS K B (L1++(.n,y)::L2) H:=by
 have e:mJ (L1++(Sl.n,y)::L2)=mJ (L1++L2):=by rw[sO,sV];rfl
 refine⟨h.fr,h.dk,by rw[e];exact h.nd,by rw[e];exact h.new,λp a=>?_⟩;rw[e];simp only[aV,aK] at a;rcases a with q | q | q
 .exact h.ok p (bB _ q)
 .subst q;trivial
 .exact h.ok p (aT _ q)
theorem DS.grow (h:DS K B L H) (s:pV H g) (j:Dk B.dk g):DS K B L g :=
 ⟨λb o e n=>s b o (h.fr b o e n),j,h.nd,h.new,λp a=>(h.ok p a).mono (.same s λ_ z=>z) (λ_ _ o q=>s _ o q)⟩
theorem DS.free (h:DS K B L H) (g:H a=none):B.H0 a=none/\a∉B.dk/\a∉mJ L:=by
 have n:a∉B.dk:=λz=>by obtain⟨b,e⟩:=h.dk.some z;rw[e] at g;cases g
 refine⟨?_,n,λz=>by obtain⟨o,e,_⟩:=h.live z;rw[e] at g;cases g⟩;cases e:B.H0 a with
 | none=>rfl
 | some o=>rw[h.fr a o e n] at g;cases g
theorem DS.laid (h:DS K B L H) (g:H a=none):DS K B L (upd H a o) :=
 h.grow (λb u e=>by rw[mT (nQ e g)];exact e) (h.dk.upd (h.free g).2.1)
theorem DS.tup (h:DS K B (L1++L2) H){g:Aa D}{l:Aa V}(j:H a=none) (r:Reps K (Al B (mJ (L1++L2))) H g l):DS K B (L1++(.v (.t g),some (.ref a))::L2) (upd H a (.t l)) :=
 (h.laid j).push (.t mX (r.mono (.laid j λ_ z _=>z)))
theorem DS.make (h:DS K B (L1++L2) H) (g:H a=none) (r:∀ j,Kp (Al B (mJ (L1++L2))) j H (upd H a o)->pU K j (upd H a o) a d):DS K B (L1++(.o d,some (.ref a))::L2) (upd H a o):=by
 obtain⟨f1,f2,k⟩:=h.free g;have e:mJ (L1++(Sl.o d,some (.ref a))::L2)=mJ L1++a::mJ L2:=sO;have m:∀ b,b∈mJ L1++a::mJ L2↔b=a\/b∈mJ (L1++L2):=λb=>by
  rw[sV];simp only[aV,aK];constructor
  .rintro (q | q | q)
   .exact .inr (.inl q)
   .exact .inl q
   .exact .inr (.inr q)
  .rintro (q | q | q)
   .exact .inr (.inl q)
   .exact .inl q
   .exact .inr (.inr q)
 have s:Kp (Al B (mJ (L1++L2))) (Al B (mJ L1++a::mJ L2)) H (upd H a o):=.laid g λb z n=>⟨z.1,λq=>(m b).mp q |>.elim n z.2.1,z.2.2⟩
 refine⟨λb u q n=>by rw[mT (nQ (h.fr b u q n) g)];exact h.fr b u q n,h.dk.upd f2,?_,λb i=>?_,λp f=>?_⟩
 .rw[e];have n:=h.nd;rw[sV] at n k;obtain⟨v,x,y⟩:=bE.mp n;refine bE.mpr ⟨v,bY.mpr ⟨λz=>k (aT _ z),x⟩,λb i c t=>?_⟩;rcases aK.mp t with q | q
  .intro z;subst z;subst q;exact k (bB _ i)
  .exact y b i c q
 .rw[e] at i;rcases (m b).mp i with q | q
  .subst q;exact⟨f1,f2⟩
  .exact h.new b q
 .rw[e];simp only[aV,aK] at f;have old:∀ p∈L1++L2,uD K (Al B (mJ L1++a::mJ L2)) (upd H a o) p.1 p.2:=λp f=>(h.ok p f).mono s λb i w q=>by rw[mT (nQ q g)];exact q
  rcases f with q | q | q
  .exact old p (bB _ q)
  .subst q;exact⟨a,rfl,r _ s⟩
  .exact old p (aT _ q)
theorem DS.freeze (h:DS K B (g++(.o d,some v)::L2) H):DS K B (g++(.v d,some v)::L2) H:=by
 obtain⟨a,e,r⟩:=h.at;cases e;have c:mJ (g++(Sl.o d,some (V.ref a))::L2)=mJ g++a::mJ L2:=sO;have hd:=h.drop;have f:=h.new a (by rw[c];simp);refine hd.push (r.rep (λb z=>⟨z.1,λq=>z.2.1 ?_,z.2.2⟩) ⟨f.2,λq=>?_,.inr f.1⟩)
 .rw[c];rw[sV] at q;simp only[aV,aK] at q |-;rcases q with q | q
  .exact .inl q
  .exact .inr (.inr q)
 .have n:=h.nd;rw[c] at n;rw[sV] at q;obtain⟨m,i,k⟩:=bE.mp n;rcases aV.mp q with q | q
  .exact k a q a aH rfl
  .exact (bY.mp i).1 q
theorem DS.write (h:DS K B (g++(.o d,some (.ref a))::L2) H) (r:∀ j,Kp (Al B (mJ g++a::mJ L2)) j H (upd H a o)->pU K j (upd H a o) a d'):DS K B (g++(.o d',some (.ref a))::L2) (upd H a o):=by
 have e:∀ d,mJ (g++(Sl.o d,some (V.ref a))::L2)=mJ g++a::mJ L2:=λd=>sO
 have s:=h.new a (by rw[e];simp);obtain⟨u,t,A⟩:=h.live (a:=a) (by rw[e];simp);have k:Kp (Al B (mJ g++a::mJ L2)) (Al B (mJ g++a::mJ L2)) H (upd H a o):=.write t A λz=>z.2.1 (by simp)
 have n:=h.nd;rw[e] at n;have y:∀ b,b∈mJ g\/b∈mJ L2->b≠a:=λb c z=>by
  subst z;obtain⟨D,v,x⟩:=bE.mp n;rcases c with c | c
  .exact x b c b aH rfl
  .exact (bY.mp v).1 c
 refine⟨λb w q m=>?_,h.dk.upd s.2,by rw[e];exact n,λb c=>h.new b (by rw[e] at c |-;exact c),λp f=>?_⟩
 .have:b≠a:=λz=>by subst z;rw[s.1] at q;cases q
  rw[mT this];exact h.fr b w q m
 .rw[e];have old:∀ p,p∈g\/p∈L2->uD K (Al B (mJ g++a::mJ L2)) (upd H a o) p.1 p.2:=λp i=>by
   have:=h.ok p (by simp only[aV,aK];rcases i with q | q;exact .inl q;exact .inr (.inr q));rw[e] at this;refine this.mono k λb c w q=>?_
   rw[mT (y b ?_)]
   .exact q
   .rcases i with z | z
    .exact .inl (wC.mpr ⟨p,z,c⟩)
    .exact .inr (wC.mpr ⟨p,z,c⟩)
  simp only[aV,aK] at f;rcases f with q | q | q
  .exact old p (.inl q)
  .subst q;exact⟨a,rfl,r _ k⟩
  .exact old p (.inr q)
theorem DS.ownAt (h:DS K B (g++(.o d,some v)::L2) H):∃ a,v = .ref a/\pU K (Al B (mJ g++a::mJ L2)) H a d:=by
 obtain⟨a,e,r⟩:=h.at;cases e;rw[show mJ (g++(Sl.o d,some (V.ref a))::L2)=mJ g++a::mJ L2 from sO] at r;exact⟨a,rfl,r⟩
theorem DS.perm (h:DS K B L H) (p:L.Perm M):DS K B M H:=by
 have e:(mJ L).Perm (mJ M):=p.filterMap yU;refine⟨h.fr,h.dk,e.nodup_iff.mp h.nd,λa b=>h.new a (e.mem_iff.mpr b),λq c=>(h.ok q (p.mem_iff.mpr c)).mono (.all λa z=>⟨z.1,λw=>z.2.1 (e.mem_iff.mpr w),z.2.2⟩) λ_ _ _ w=>w⟩
end
section
theorem wK {g:Aa Sl}{σ:St}(C:g.length=σ.length){i:Nat}{s:Sl}(h:g[i]?=some s):∃ j y l,σ[i]?=some y/\j.length=i/\g.zip σ=j++(s,y)::l/\∀ o p,(g.set i o).zip (σ.set i p)=j++(o,p)::l:=by
 induction g generalizing σ i with
 | nil=>simp at h
 | cons r g e =>
  cases σ with
  | nil=>simp at C
  | cons z σ =>
   cases i with
   | zero=>simp at h;subst h;exact⟨[],z,g.zip σ,rfl,rfl,rfl,λ_ _=>rfl⟩
   | succ i =>
    obtain⟨j,y,l,a,b,c,d⟩:=e (σ:=σ) (by simpa using C) (i:=i) (by simpa using h);exact⟨(r,z)::j,y,l,by simpa using a,by simp[b],by simp[c],λo p=>by simp[d]⟩
theorem Bh {g:St}{i:Nat}{y:Ab V}(h:g[i]?=some y):g.set i y=g:=by
 obtain⟨a,rfl⟩:=aL.mp h;exact List.set_getElem_self a
end
abbrev nL:=Aa Ad->Aa Sl->(Sl->Aa Sl->Prop)->Prop
abbrev sL:=Aa Ad->Aa Sl->(Bool->Aa Sl->Prop)->Prop
def dE (K:mI) (g:nL):TE:=λb H Q=>∃ (B:Bs) (c:Aa Sl) (T:oF) (e:Sl->Aa Sl->Prop),c.length=b.length/\DS K B (c.zip b++T) H/\g B.dk c e /\
 ∀ r a v d,a.length=b.length->DS K B (a.zip b++(r,some v)::T) d->e r a->Q v d
def uO (K:mI) (g:sL):TT:=λc H Q=>∃ (B:Bs) (d:Aa Sl) (T:oF) (f:Bool->Aa Sl->Prop),d.length=c.length/\DS K B (d.zip c++T) H/\g B.dk d f /\
 ∀ b a e,a.length=c.length->DS K B (a.zip c++T) e->f b a->Q b e
theorem dE.elim {K:mI}{P:Prop}(h:dE K C o H Q) (f:∀ (B:Bs) (j:Aa Sl) (T:oF) (l:Sl->Aa Sl->Prop),j.length=o.length->DS K B (j.zip o++T) H->C B.dk j l ->(∀ r g v p,g.length=o.length->DS K B (g.zip o++(r,some v)::T) p->l r g->Q v p)->P):P:=by
 obtain⟨B,j,T,l,a,hd,b,k⟩:=h;exact f B j T l a hd b k
theorem uO.elim {K:mI}{P:Prop}(h:uO K r o H Q) (f:∀ (B:Bs) (j:Aa Sl) (T:oF) (l:Bool->Aa Sl->Prop),j.length=o.length->DS K B (j.zip o++T) H->r B.dk j l ->(∀ b g p,g.length=o.length->DS K B (g.zip o++T) p->l b g->Q b p)->P):P:=by
 obtain⟨B,j,T,l,a,hd,c,k⟩:=h;exact f B j T l a hd c k
abbrev PD (X:Cx) (e:Expr) (g:nL):Prop:=PE X e (dE X.K g)
abbrev uL (X:Cx) (e:Expr) (g:sL):Prop:=PT X e (uO X.K g)
abbrev A5 (X:Cx) (e:Expr) (g:sL):Prop:=PW X e (uO X.K g)
theorem PE.mono {X:Cx}(h:PE X e t) (k:∀ g H Q,j g H Q->t g H Q):PE X e j:=λa s g H Q I q=>h a s g H Q I (k g H Q q)
theorem PT.mono {X:Cx}(h:PT X e t) (k:∀ g H Q,j g H Q->t g H Q):PT X e j:=λa s g H Q I q=>h a s g H Q I (k g H Q q)
theorem PW.mono {X:Cx}(h:PW X e t) (k:∀ g H Q,j g H Q->t g H Q):PW X e j:=λb a s g H Q I q=>h b a s g H Q I (k g H Q q)
def sd:Sl->Ab D
 | .v d=>some d
 | .o d=>some d
 | .n=>none
section
variable {K:mI}{L2:oF}
theorem Jx:mJ (L1++(Sl.v d,y)::L2)=mJ (L1++L2):=by rw[sO,sV];rfl
theorem DS.thaw (h:DS K B (g++(r,some v)::L2) H) (e:sd r=some d):DS K B (g++(.v d,some v)::L2) H:=by
 cases r with
 | n=>cases e
 | v c=>cases e;exact h
 | o c=>cases e;exact h.freeze
theorem DS.one (h:DS K B (L++(r,some v)::T) H) (e:sd r=some d):DS K B (L++T) H/\Rep K (Al B (mJ (L++T))) H d v:=by
 have a:=h.thaw e;exact⟨a.drop,a.valAt⟩
theorem DS.two (h:DS K B (L++(l,some u)::(r,some v)::T) H) (g:sd r=some d) (j:sd l=some e):DS K B (L++T) H/\Rep K (Al B (mJ (L++T))) H d v/\Rep K (Al B (mJ (L++T))) H e u:=by
 have m:=h.thaw j;have n:DS K B ((L++[(Sl.v e,some u)])++(r,some v)::T) H:=by simpa using m
 have a:=n.thaw g;have b:DS K B (L++(Sl.v e,some u)::(.v d,some v)::T) H:=by simpa using a
 have c:=b.valAt;have f:=a.valAt;have i:mJ (L++(Sl.v d,some v)::T)=mJ (L++T):=by rw[sO,sV];rfl
 have k:mJ ((L++[(Sl.v e,some u)])++T)=mJ (L++T):=by
  rw[bP];show mJ (L++(Sl.v e,some u)::T)=_;rw[sO,sV];rfl
 rw[i] at c;rw[k] at f;exact⟨b.drop.drop,f,c⟩
theorem DS.mid (h:DS K B (x::(L++T)) H):DS K B (L++x::T) H:=h.perm fG.symm
theorem DS.front (h:DS K B (L++x::T) H):DS K B (x::(L++T)) H:=h.perm fG
theorem DS.pushF (h:DS K B L H) (r:Rep K (Al B (mJ L)) H d v):DS K B ((.v d,some v)::L) H:=DS.push (L1:=[]) h r
theorem DS.tupF (h:DS K B L H) (j:H a=none) (r:Reps K (Al B (mJ L)) H g l):DS K B ((.v (.t g),some (.ref a))::L) (upd H a (.t l)):=DS.tup (L1:=[]) h j r
theorem DS.lstF (h:DS K B L H) (p:H a=none) (r:Reps K (Al B (mJ L)) H j g):DS K B ((.o (.l j),some (.ref a))::L) (upd H a (.l g)) :=
 DS.make (L1:=[]) h p λb k=>⟨g,mX,r.mono k⟩
theorem DS.dKF (h:DS K B L H) (g:H a=none) (e:ds.map (·.1)=kvs.map (·.1)) (r:Reps K (Al B (mJ L)) H (ds.map (·.2)) (kvs.map (·.2))):DS K B ((.o (.k ds),some (.ref a))::L) (upd H a (.k kvs)) :=
 DS.make (L1:=[]) h g λb k=>⟨kvs,mX,e,r.mono k⟩
theorem DS.dTF (h:DS K B L H) (g:H a=none) (e:ds.map (·.1)=kvs.map (·.1)) (r:Reps K (Al B (mJ L)) H (ds.map (·.2)) (kvs.map (·.2))):DS K B ((.o (.T ds),some (.ref a))::L) (upd H a (.T kvs)) :=
 DS.make (L1:=[]) h g λb k=>⟨kvs,mX,e,r.mono k⟩
end
def nR (K:mI) (A:Ad->Prop) (H:Hp):D->V->Prop
 | .l f,v=>∃ a h,v = .ref a/\H a=some (.l h)/\Reps K A H f h
 | .k f,v=>∃ a d,v = .ref a/\H a=some (.k d)/\f.map (·.1)=d.map (·.1)/\Reps K A H (f.map (·.2)) (d.map (·.2))
 | .T f,v=>∃ a d,v = .ref a/\Rd H a (.T d)/\f.map (·.1)=d.map (·.1)/\Reps K A H (f.map (·.2)) (d.map (·.2))
 | .e,v=>Rep K A H .e v
 | .b b,v=>Rep K A H (.b b) v
 | .int b,v=>Rep K A H (.int b) v
 | .str b,v=>Rep K A H (.str b) v
 | .r b,v=>Rep K A H (.r b) v
 | .t b,v=>Rep K A H (.t b) v
 | .con b,v=>Rep K A H (.con b) v
 | .c b,v=>Rep K A H (.c b) v
section
variable {K:mI}
theorem Rep.peek (h:Rep K A H d v):nR K A H d v:=by
 cases h with
 | l _ h r=>exact⟨_,_,rfl,h,r⟩
 | k _ h e r=>exact⟨_,_,rfl,h,e,r⟩
 | T _ h e r=>exact⟨_,_,rfl,h,e,r⟩
 | e=>exact .e
 | b=>exact .b _
 | int=>exact .int _
 | str=>exact .str _
 | r=>exact .r _
 | t h r=>exact .t h r
 | con h r=>exact .con h r
 | c h r=>exact .c h r
theorem pU.peek:∀ {d:D},pU K A H a d->nR K A H d (.ref a)
 | .l _,⟨b,h,r⟩=>⟨_,b,rfl,h,r⟩
 | .k _,⟨b,h,e,r⟩=>⟨_,b,rfl,h,e,r⟩
 | .T _,⟨b,h,e,r⟩=>⟨_,b,rfl,.inl h,e,r⟩
theorem nR.lst_inv (h:nR K A H (.l j) v):∃ a g,v = .ref a/\H a=some (.l g)/\Reps K A H j g:=h
theorem nR.dK_inv (h:nR K A H (.k j) v):∃ a g,v = .ref a/\H a=some (.k g)/\j.map (·.1)=g.map (·.1)/\Reps K A H (j.map (·.2)) (g.map (·.2)):=h
theorem nR.dT_inv (h:nR K A H (.T j) v):∃ a g,v = .ref a/\Rd H a (.T g)/\j.map (·.1)=g.map (·.1)/\Reps K A H (j.map (·.2)) (g.map (·.2)):=h
theorem nR.tup_inv (h:nR K A H (.t j) v):∃ a g,v = .ref a/\H a=some (.t g)/\Reps K A H j g:=Rep.tup_inv h
theorem nR.con_inv (h:nR K A H (.con j) v):∃ a g,v = .ref a/\Ef K a g/\Reps K A H j g:=Rep.con_inv h
theorem nR.scr_inv (h:nR K A H (.c j) v):∃ a g,v = .ref a/\yC K H a g/\Reps K A H j g:=Rep.scr_inv h
theorem nR.int_inv (h:nR K A H (.int i) v):v = .int i:=Rep.int_inv h
theorem nR.str_inv (h:nR K A H (.str i) v):v = .str i:=Rep.str_inv h
theorem nR.bl_inv (h:nR K A H (.b i) v):v = .b i:=Rep.bl_inv h
theorem nR.non_inv (h:nR K A H .e v):v = .e:=Rep.non_inv h
theorem nR.raw_inv (h:nR K A H (.r u) v):v=u:=Rep.raw_inv h
def at? (g:Aa Sl) (i:Nat):Ab D:=(g[i]?).bind sd
theorem DS.peek (l:g.length=j.length) (h:DS K B (g.zip j++T) H) (e:at? g i=some d):∃ v,j[i]?=some (some v)/\nR K (Al B (mJ (g.zip j++T))) H d v:=by
 unfold at? at e;cases f:g[i]? with
 | none=>rw[f] at e;cases e
 | some s =>
  rw[f] at e;obtain⟨q,y,t,k,_,m,_⟩:=wK l f;have b:=h;rw[m] at b;have:=b.ok (s,y) (by simp);rw[<- m] at this;cases s with
  | n=>cases e
  | v c=>cases e;obtain⟨v,rfl,r⟩:=this;exact⟨v,k,r.peek⟩
  | o c=>cases e;obtain⟨a,rfl,r⟩:=this;exact⟨_,k,r.peek⟩
end
noncomputable def vd (i:Nat):nL:=λ_ a b=>match a[i]? with
 | some (.v d)=>b (.v d) a
 | some (.o d)=>b (.v d) (a.set i (.v d))
 | _=>False
def cd (d:D):nL:=λ_ b a=>a (.v d) b
section
variable {X:Cx}
theorem dT (i:Nat) (h:PE X (.Name x pos) (pX i):=by exact pv _):PD X (.Name x pos) (vd i):=h.mono λL H Q z=>z.elim λB D T M w hd c k=>by
 unfold vd at c;cases e:D[i]? with
 | none=>rw[e] at c;exact c.elim
 | some s =>
  rw[e] at c;obtain⟨f,y,m,A,_,G,q⟩:=wK w e;have b:DS X.K B (f++(s,y)::(m++T)) H:=by rw[G] at hd;simpa using hd
  cases s with
  | n=>exact c.elim
  | v d =>
   obtain⟨v,rfl,_⟩:=b.at;refine⟨v,A,k _ _ v H w ?_ c⟩;refine hd.push ?_;have:=b.valAt;rw[G];have t:mJ ((f++(Sl.v d,some v)::m)++T)=mJ (f++(m++T)):=by
    rw[bP,cT,Jx]
   rw[t];exact this
  | o d =>
   obtain⟨a,rfl,_⟩:=b.at;have E:=b.freeze;have F:(D.set i (.v d)).zip L=f++(.v d,some (.ref a))::m:=by
    have:=q (.v d) (some (.ref a));rw[Bh A] at this;exact this
   have u:DS X.K B ((D.set i (.v d)).zip L++T) H:=by rw[F];simpa using E
   refine⟨.ref a,A,k _ _ _ H (by rw[bW];exact w) ?_ c⟩;refine u.push ?_;have:=E.valAt;rw[F];have t:mJ ((f++(Sl.v d,some (V.ref a))::m)++T)=mJ (f++(m++T)):=by
    rw[bP,cT,Jx]
   rw[t];exact this
theorem Ec (h:PE X e (tC v)) (r:∀ K A H,Rep K A H d v):PD X e (cd d):=h.mono λm H Q a=>a.elim λB f T i b hd c k=>k _ f v H b (hd.push (r _ _ _)) c
theorem hL:PD X (.Constant (.int i) j pos) (cd (.int i)):=Ec nU λ_ _ _=>.int i
theorem mW:PD X (.Constant (.str x) j pos) (cd (.str x)):=Ec wQ λ_ _ _=>.str x
theorem wR:PD X (.Constant (.bool x) j pos) (cd (.b x)):=Ec ND λ_ _ _=>.b x
theorem yL:PD X (.Constant .none j pos) (cd .e):=Ec Ra λ_ _ _=>.e
abbrev O2:=D->D->(Sl->Prop)->Prop
def pT (K:mI) (r:R2) (f:O2):Prop:=∀ (B:Bs) (L:oF) (H:Hp) (d e:D) (x y:V) (b:Sl->Prop) (Q:VK),DS K B L H->nR K (Al B (mJ L)) H d x->nR K (Al B (mJ L)) H e y->f d e b ->
 (∀ s v a,b s->DS K B ((s,some v)::L) a->Q v a)->r x y H Q
def d2 (f:O2) (g j:nL):nL:=λc m k=>g c m λh a=>j c a λi b=>match sd h,sd i with
 | some d,some e=>f d e λr=>k r b
 | _,_=>False
theorem G3 (o:pT X.K r f) (h:dE X.K (d2 f p C) l H Q):dE X.K p l H λx j=>dE X.K C l j λy g=>r x y g Q:=by
 obtain⟨B,N,T,O,w,hd,A,k⟩:=h;refine⟨B,N,T,_,w,hd,A,λq m x j D d1 u=>⟨B,m,(q,some x)::T,_,D,d1,u,λM n y g E d2 a=>?_⟩⟩;cases b:sd q with
 | none=>rw[b] at a;exact a.elim
 | some d =>
  cases c:sd M with
  | none=>rw[b,c] at a;exact a.elim
  | some e =>
   rw[b,c] at a;obtain⟨F,G,L⟩:=d2.two b c;exact o B _ g d e x y _ Q F G.peek L.peek a λs v t z i=>k s n v t E i.mid z
def yQ (f:O2) (i:Nat) (g:nL):nL:=λc b k=>(at? b i).isSome=true/\g c b λh a=>match at? a i,sd h with
 | some d,some e=>f d e λr=>k r a
 | _,_=>False
def Qa (f:O2) (g:nL) (i:Nat):nL:=λb k h=>g b k λc a=>match sd c,at? a i with
 | some d,some e=>f d e λr=>h r a
 | _,_=>False
theorem Fu (o:pT X.K r f) (h:dE X.K (yQ f i p) j H Q):pX i j H λx l=>dE X.K p j l λy g=>r x y g Q:=by
 obtain⟨B,O,T,S,t,hd,⟨E,G⟩,k⟩:=h;obtain⟨P,D⟩:=cS.mp E;obtain⟨x,u,_⟩:=hd.peek t D;refine⟨x,u,B,O,T,_,t,hd,G,λN c y g w d2 a=>?_⟩;cases m:at? c i with
 | none=>rw[m] at a;exact a.elim
 | some d =>
  cases n:sd N with
  | none=>rw[m,n] at a;exact a.elim
  | some e =>
   rw[m,n] at a;obtain⟨z,M⟩:=d2.one n;obtain⟨R,b,L⟩:=z.peek w m;rw[u] at b;cases b;exact o B _ g d e x y _ Q z L M.peek a λs v A F q=>k s c v A w q.mid F
theorem BG (o:pT X.K r f) (h:dE X.K (Qa f p i) j H Q):dE X.K p j H λx g=>pX i j g λy l=>r x y l Q:=by
 obtain⟨B,G,T,L,w,hd,A,k⟩:=h;refine⟨B,G,T,_,w,hd,A,λF b x g q d1 a=>?_⟩;cases c:sd F with
 | none=>rw[c] at a;exact a.elim
 | some d =>
  cases m:at? b i with
  | none=>rw[c,m] at a;exact a.elim
  | some e =>
   rw[c,m] at a;obtain⟨t,E⟩:=d1.one c;obtain⟨y,D,py⟩:=t.peek q m;exact⟨y,D,o B _ g d e x y _ Q t E.peek py a λs v u z n=>k s b v u q n.mid z⟩
theorem qA (o:nJ X (binaryOp op) r) (l:pT X.K r f) (i:Nat) (j:PD X b p) (g:PE X a (pX i):=by exact pv _):PD X (.BinOp a op b pos) (yQ f i p):=(nT o g j).mono λ_ _ _ h=>Fu l h
theorem Cs (p:nJ X (compareOp op) r) (l:pT X.K r f) (g:PE X a (pX i)) (j:PD X b C) (o:behindInMarks op b=false:=by first | exact xJ _ | (with_unfolding_all rfl)):PD X (.Compare a [op] [b] pos) (yQ f i C) :=
 (P0 p g j o).mono λ_ _ _ h=>Fu l h
theorem nG (o:nJ X (binaryOp op) r) (l:pT X.K r f) (g:PD X a p) (j:PD X b C):PD X (.BinOp a op b pos) (d2 f p C):=(nT o g j).mono λ_ _ _ h=>G3 l h
theorem Do (p:nJ X (compareOp op) r) (l:pT X.K r f) (g:PD X a C) (j:PD X b I) (o:behindInMarks op b=false:=by first | exact xJ _ | (with_unfolding_all rfl)):PD X (.Compare a [op] [b] pos) (d2 f C I) :=
 (P0 p g j o).mono λ_ _ _ h=>G3 l h
def C5 (t:nL):sL:=λc e d=>t c e λr a=>match r with
 | .v (.b b)=>d b a
 | _=>False
theorem Nh (h:uO X.K (C5 t) j H Q):dE X.K t j H λx g=>∃ k,x = .b k/\Q k g:=by
 obtain⟨B,m,T,q,e,hd,f,k⟩:=h;refine⟨B,m,T,_,e,hd,f,λr c v g i d1 a=>?_⟩;cases r with
 | n=>exact a.elim
 | o d=>exact a.elim
 | v d =>
  cases d with
  | b b=>exact⟨b,d1.valAt.bl_inv,k b c g i d1.drop a⟩
  | _=>exact a.elim
theorem pY (p:nJ X (compareOp op) r) (l:pT X.K r f) (g:PE X a (pX i)) (j:PD X b C) (o:behindInMarks op b=false:=by first | exact xJ _ | (with_unfolding_all rfl)):uL X (.Compare a [op] [b] pos) (C5 (yQ f i C)) :=
 (wY p g j o).mono λc H Q h=>Fu l (Nh h)
theorem Dp (p:nJ X (compareOp op) r) (l:pT X.K r f) (g:PD X a C) (j:PE X b (pX i)) (o:behindInMarks op b=false:=by first | exact xJ _ | (with_unfolding_all rfl)):uL X (.Compare a [op] [b] pos) (C5 (Qa f C i)) :=
 (wY p g j o).mono λc H Q h=>BG l (Nh h)
theorem Bf (p:nJ X (compareOp op) r) (l:pT X.K r f) (g:PD X a C) (j:PD X b I) (o:behindInMarks op b=false:=by first | exact xJ _ | (with_unfolding_all rfl)):uL X (.Compare a [op] [b] pos) (C5 (d2 f C I)) :=
 (wY p g j o).mono λc H Q h=>by
  have:=Nh h;exact G3 l this
end
section
variable [DecidableEq κ]
noncomputable def mR (g:Aa (κ×D)) (k:κ):Ab D:=(g.find? λa=>decide (a.1=k)).map (·.2)
noncomputable def nM (g:Aa (κ×D)) (k:κ) (d:D):Aa (κ×D):=if g.any (λa=>decide (a.1=k)) then g.map (λa=>if a.1=k then (a.1,d) else a) else g++[(k,d)]
theorem O7:mR ([]:Aa (κ×D)) k=none:=rfl
theorem xE {k j:κ}{d:D}{r:Aa (κ×D)}:mR ((j,d)::r) k=if j=k then some d else mR r k:=by
 unfold mR;rw[List.find?_cons];by_cases h:j=k<;>simp[h]
theorem Gc (k:κ):∀ g:Aa (κ×D),(g.any λl=>decide (l.1=k))=(mR g k).isSome
 | []=>rfl
 | (j,d)::r=>by
  rw[xE,eU,Gc k r];by_cases h:j=k<;>simp[h]
theorem F6 (g:Aa (κ×D)) (k j:κ) (d:D):mR (nM g k d) j=if k=j then some d else mR g j:=by
 unfold nM;rw[Gc];have a:∀ r:Aa (κ×D),mR (r.map λf=>if f.1=k then (f.1,d) else f) j=if k=j then (mR r j).map (λ_=>d) else mR r j:=by
  intro r;induction r with
  | nil=>simp[O7]
  | cons p r b =>
   obtain⟨i,e⟩:=p;rw[aP];by_cases h:i=k
   .subst h;simp only[gR,xE,b];by_cases z:i=j<;>simp[z]
   .simp only[h,gC,xE,b];by_cases z:i=j
    .subst z;simp[eJ h]
    .simp[z]
 have c:∀ r:Aa (κ×D),mR r k=none->mR (r++[(k,d)]) j=if k=j then some d else mR r j:=by
  intro r;induction r with
  | nil=>intro _;rw[gL,xE,O7]
  | cons p r b =>
   obtain⟨i,e⟩:=p;rw[xE];by_cases h:i=k
   .simp[h]
   .rw[aJ h];intro m;rw[cT,xE,b m,xE];by_cases z:i=j
    .subst z;simp[eJ h]
    .simp[z]
 cases e:mR g k with
 | none=>simp only[Option.isSome_none,eC,gC];exact c g e
 | some w =>
  simp only[lB,gR,a];by_cases z:k=j
  .subst z;simp[e]
  .simp[z]
theorem Fv (g:Aa (κ×D)) (k:κ) (d:D):(nM g k d).length<=g.length+1:=by
 unfold nM;split<;>simp
end
section
variable [DecidableEq κ] {K:mI}
theorem Gi:∀ {l:Aa (κ×D)}{g:Aa (κ×V)},l.map (·.1)=g.map (·.1)->Reps K A H (l.map (·.2)) (g.map (·.2))->∀ k,(∀ d,mR l k=some d->∃ v,rW g k=some v/\Rep K A H d v)/\(mR l k=none->rW g k=none)
 | [],[],_,_,k=>⟨λd h=>by simp[O7] at h,λ_=>rfl⟩
 | [],_::_,e,_,_=>by simp at e
 | _::_,[],e,_,_=>by simp at e
 | (i,d)::l,(j,v)::g,e,r,k=>by
  simp only[aP,iF] at e;obtain⟨a,b⟩:=e;subst a;cases r with
  | cons h r =>
   have c:=Gi b r k;rw[xE];by_cases z:i=k
   .rw[aO z,Eb z];exact⟨λf q=>by cases q;exact⟨v,rfl,h⟩,λq=>by cases q⟩
   .rw[aJ z,Fc z];exact c
theorem Gy {o:Aa (κ×D)}{l:Aa (κ×V)}(e:o.map (·.1)=l.map (·.1)) (r:Reps K A H (o.map (·.2)) (l.map (·.2))){k:κ}{d:D}{v:V}(h:Rep K A H d v) :
  (nM o k d).map (·.1)=(pP l k v).map (·.1)/\Reps K A H ((nM o k d).map (·.2)) ((pP l k v).map (·.2)):=by
 have m:∀ (o:Aa (κ×D)) (l:Aa (κ×V)),o.map (·.1)=l.map (·.1)->(o.any λa=>decide (a.1=k))=l.any λa=>decide (a.1=k):=by
  intro o;induction o with
  | nil=>intro l e;cases l with
   | nil=>rfl
   | cons _ _=>simp at e
  | cons p o b=>intro l e;cases l with
   | nil=>simp at e
   | cons q l =>
    simp only[aP,iF] at e;rw[eU,eU,b l e.2,e.1]
 have n:∀ (o:Aa (κ×D)) (l:Aa (κ×V)),o.map (·.1)=l.map (·.1)->Reps K A H (o.map (·.2)) (l.map (·.2)) ->
   (o.map λa=>if a.1=k then (a.1,d) else a).map (·.1)=(l.map λa=>if a.1=k then (a.1,v) else a).map (·.1) /\
   Reps K A H ((o.map λa=>if a.1=k then (a.1,d) else a).map (·.2)) ((l.map λa=>if a.1=k then (a.1,v) else a).map (·.2)):=by
  intro o;induction o with
  | nil=>intro l e r;cases l with
   | nil=>exact⟨rfl,.nil⟩
   | cons _ _=>simp at e
  | cons p o b=>intro l e r;cases l with
   | nil=>simp at e
   | cons q l =>
    simp only[aP,iF] at e;cases r with
    | cons g r =>
     obtain⟨c,f⟩:=b l e.2 r;obtain⟨i,s⟩:=p;obtain⟨j,v0⟩:=q;obtain⟨rfl,t⟩:=e;by_cases z:i=k
     .simp only[aP,z,gR];exact⟨by rw[c],.cons h f⟩
     .simp only[aP,z,gC];exact⟨by rw[c],.cons g f⟩
 unfold nM pP;rw[m o l e];by_cases z:(l.any λa=>decide (a.1=k))=true
 .rw[aO z,aO z];exact n o l e r
 .rw[aJ z,aJ z];simp only[aM,aP,lT];exact⟨by rw[e],r.append (.cons h .nil)⟩
end
section
variable {X:Cx}{K:mI}
def Rj (K:mI):R2:=λx y H Q=>∃ a b c,x = .ref a/\y = .ref b/\nP K H a []/\nP K H b c/\Q (.ref b) H
theorem SY:nJ X (binaryOp .Add) (Rj X.K):=by
 intro w s Y H x y v u Q I N O h;obtain⟨a,b,W,rfl,rfl,B,D,q⟩:=h;cases N;cases O;obtain⟨E,M,G,_⟩:=I.tuple B;obtain⟨t,V,L,_⟩:=I.tuple D;cases M;obtain⟨⟨P,A,S,sl⟩,m,k,n,hd⟩:=id G;obtain⟨⟨R,f,z,i⟩,e,c,F,d⟩:=id L;simp only at k hd c d;subst k hd c d;exact concat_meets ⟨_,m,rfl⟩ ⟨_,e,rfl⟩ noFill_tuple_add seq_tuple_add jN jH (iZ _ _)
  (tuple_addW0 a b _ _ n F A f sl i (by simp)) ⟨m,e,⟨.ref b,H,I,rfl,q⟩⟩
def Rq (K:mI):R2:=λx y H Q=>(tV λi j=>.int (i+j)) x y H Q\/(∃ i j,x = .str i/\y = .str j/\i.length+j.length<=sizeLine/\Q (.str (i++j)) H)\/Pj x y H Q\/T7 K x y H Q\/Rj K x y H Q
theorem oC:nJ X (binaryOp .Add) (Rq X.K):=yX.or (yK.or (E1.or (ET.or SY)))
theorem B7 (h:n<=100000):n<=sizeLine:=bX h (by decide)
def HQ:O2
 | .int i,.int j,a=>a (.v (.int (i+j)))
 | .str i,.str j,a=>i.length+j.length<=100000/\a (.v (.str (i++j)))
 | .l b,.l c,a=>b.length+c.length<=100000/\a (.o (.l (b++c)))
 | .t b,.t c,a=>b.length+c.length<=100000/\a (.v (.t (b++c)))
 | _,_,_=>False
theorem oD:pT K (Rq K) HQ:=by
 intro B L H d e x y A Q hd n s c k;cases d<;>first | exact False.elim c | skip<;>cases e<;>first | exact False.elim c | skip
 .cases n;cases s;exact .inl ⟨_,_,rfl,rfl,k _ _ H c (hd.pushF (.int _))⟩
 .cases n;cases s;exact .inr (.inl ⟨_,_,rfl,rfl,B7 c.1,k _ _ H c.2 (hd.pushF (.str _))⟩)
 .obtain⟨a,m,rfl,t,f⟩:=n.tup_inv;obtain⟨b,i,rfl,u,h⟩:=s.tup_inv;have v:m.length+i.length<=100000:=by rw[<- f.length,<- h.length];exact c.1
  by_cases z:m=[]
  .subst z;have:=f.nil_iff.mp rfl;subst this;exact .inr (.inr (.inr (.inr ⟨a,b,i,rfl,rfl,nP.of t,nP.of u,k _ _ H c.2 (hd.pushF s)⟩)))
  .refine .inr (.inr (.inr (.inl ⟨a,b,m,i,rfl,rfl,nP.of t,nP.of u,z,B7 v,λq=>?_,λ_ p w=>k _ _ _ c.2 (hd.tupF w (f.append h))⟩)));subst q;have:=h.nil_iff.mp rfl;subst this;exact k _ _ H c.2 (by rw[dD];exact hd.pushF n)
 .obtain⟨a,m,rfl,t,f⟩:=n.lst_inv;obtain⟨b,i,rfl,u,h⟩:=s.lst_inv;have v:m.length+i.length<=100000:=by rw[<- f.length,<- h.length];exact c.1
  exact .inr (.inr (.inl ⟨a,b,m,i,rfl,rfl,t,u,B7 v,λp w=>k _ _ _ c.2 (hd.lstF w (f.append h))⟩))
def fI (C:Int->Int->Prop) (g:Int->Int->D):O2
 | .int i,.int j,a=>C i j/\a (.v (g i j))
 | _,_,_=>False
theorem Du (p:∀ i j,C i j->l i j) (r:∀ A H i j,Rep K A H (g i j) (o i j)):pT K (rI l o) (fI C g):=by
 intro B L H d e x y f Q hd b c a k;cases d<;>first | exact False.elim a | skip<;>cases e<;>first | exact False.elim a | skip
 cases b;cases c;exact⟨_,_,rfl,rfl,p _ _ a.1,k _ _ H a.2 (hd.pushF (r _ _ _ _))⟩
def Cg (g:Int->Int->D):O2
 | .int i,.int j,a=>a (.v (g i j))
 | _,_,_=>False
theorem Ee (o:∀ A H i j,Rep K A H (g i j) (l i j)):pT K (tV l) (Cg g):=by
 intro B L H d e x y f Q hd b c a k;cases d<;>first | exact False.elim a | skip<;>cases e<;>first | exact False.elim a | skip
 cases b;cases c;exact⟨_,_,rfl,rfl,k _ _ H a (hd.pushF (o _ _ _ _))⟩
abbrev QF:O2:=Cg λi j=>.int (i-j)
theorem wO:pT K (tV λi j=>.int (i-j)) QF:=Ee λ_ _ _ _=>.int _
def Vm:R2:=λx y H Q=>(rI F9 λi j=>.int (i*j)) x y H Q\/Q9 x y H Q
theorem sF:nJ X (binaryOp .Mult) Vm:=wZ.or Yp
def wP:O2
 | .int i,.int j,a=>((-(2 ^ 64)<i/\i<2 ^ 64)\/(-(2 ^ 64)<j/\j<2 ^ 64))/\a (.v (.int (i*j)))
 | .l b,.int k,a=>0<=k/\k<=1000/\b.length<=100/\a (.o (.l (List.replicate k.toNat b).flatten))
 | _,_,_=>False
theorem Tc (r:Reps K A H g j):∀ k:Nat,Reps K A H (List.replicate k g).flatten (List.replicate k j).flatten
 | 0=>.nil
 | k+1=>by rw[dB,dB,gS,gS];exact r.append (Tc r k)
theorem sA:pT K Vm wP:=by
 intro B L H d e x y w Q hd h i b k;cases d<;>first | exact False.elim b | skip<;>cases e<;>first | exact False.elim b | skip
 .cases h;cases i;exact .inl ⟨_,_,rfl,rfl,b.1,k _ _ H b.2 (hd.pushF (.int _))⟩
 .cases i
  rename_i n
  obtain⟨a,m,rfl,q,f⟩:=h.lst_inv;obtain⟨u,v,s,b⟩:=b;have c:m.length<=100:=by rw[<- f.length];exact s
  refine .inr ⟨a,n,m,rfl,rfl,q,by omega,by omega,bX (Nat.mul_le_mul c (show n.toNat<=1000 by omega)) (by decide),λp t=>?_⟩;exact k _ _ _ b (hd.lstF t (Tc f _))
theorem QI {j:Int}(g:0<j) (h:j<2 ^ 64):j.natAbs.log2<9000:=by
 have:j.natAbs<2 ^ 64:=by omega
 exact bI ((Nat.log2_lt (by omega)).mpr this) (by decide)
theorem Qb:nJ X (binaryOp .FloorDiv) (rI (λ_ j=>0<j/\j<2 ^ 64) λi j=>.int (i/j)):=Bz λi j _ _ _ _ _ a q=>by
 refine floordiv_int (by omega) ?_ (.inl (PyProof.noPylong_of_log2 (QI a.1 a.2)));rw[iK _ (by omega)];exact q
abbrev CM:O2:=fI (λ_ j=>0<j/\j<2 ^ 64) λi j=>.int (i/j)
theorem BW:pT K (rI (λ_ j=>0<j/\j<2 ^ 64) λi j=>.int (i/j)) CM:=Du (λ_ _ h=>h) λ_ _ _ _=>.int _
abbrev KY:O2:=fI (λ_ j=>0<j) λi j=>.int (i%j)
theorem Hz:pT K (rI (λ_ j=>0<j) λi j=>.int (i%j)) KY:=Du (λ_ _ h=>h) λ_ _ _ _=>.int _
abbrev Sf:O2:=fI (λi j=>0<=j/\j<=1000000/\i.natAbs<2 ^ 64) λi j=>.int (i*2 ^ j.toNat)
theorem yF:pT K (rI Jh λi j=>.int (i*2 ^ j.toNat)) Sf:=Du (λ_ _ h=>h) λ_ _ _ _=>.int _
abbrev HA:O2:=fI (λi j=>0<=j/\j<=1000000/\i.natAbs<2 ^ 64) λi j=>.int (i ^ j.toNat)
theorem J4:pT K (rI Jh λi j=>.int (i ^ j.toNat)) HA:=Du (λ_ _ h=>h) λ_ _ _ _=>.int _
abbrev IC:O2:=fI (λ_ j=>0<=j) λi j=>.int (i/2 ^ j.toNat)
theorem Pa:pT K (rI (λ_ j=>0<=j) λi j=>.int (i/2 ^ j.toNat)) IC:=Du (λ_ _ h=>h) λ_ _ _ _=>.int _
abbrev MO:O2:=Cg λi j=>.int (Builtin.bitAnd i j)
theorem FQ:pT K (tV λi j=>.int (Builtin.bitAnd i j)) MO:=Ee λ_ _ _ _=>.int _
abbrev LI:O2:=Cg λi j=>.b (decide (i<j))
theorem Y5:pT K (tV λi j=>.b (decide (i<j))) LI:=Ee λ_ _ _ _=>.b _
abbrev HH:O2:=Cg λi j=>.b (decide (j<i))
theorem B6:pT K (tV λi j=>.b (decide (j<i))) HH:=Ee λ_ _ _ _=>.b _
abbrev RU:O2:=Cg λi j=>.b (decide (j<=i))
theorem Rt:pT K (tV λi j=>.b (decide (j<=i))) RU:=Ee λ_ _ _ _=>.b _
def EM (neg:Bool):O2
 | .e,.e,a=>a (.v (.b (!neg)))
 | .r v,.e,a=>v ≠ .e/\a (.v (.b neg))
 | _,.e,a=>a (.v (.b neg))
 | _,_,_=>False
theorem KL (r:nR K A H d x):(d = .e/\x = .e)\/(∃ v,d = .r v/\x=v)\/(x ≠ .e/\d ≠ .e/\∀ v,d ≠ .r v):=by
 cases d with
 | e=>exact .inl ⟨rfl,r.non_inv⟩
 | r v=>exact .inr (.inl ⟨_,rfl,r.raw_inv⟩)
 | l _=>obtain⟨a,f,rfl,_⟩:=r.lst_inv;exact .inr (.inr ⟨by simp,by simp,by simp⟩)
 | k _=>obtain⟨a,f,rfl,_⟩:=r.dK_inv;exact .inr (.inr ⟨by simp,by simp,by simp⟩)
 | T _=>obtain⟨a,f,rfl,_⟩:=r.dT_inv;exact .inr (.inr ⟨by simp,by simp,by simp⟩)
 | t _=>obtain⟨a,f,rfl,_⟩:=r.tup_inv;exact .inr (.inr ⟨by simp,by simp,by simp⟩)
 | con _=>obtain⟨a,f,rfl,_⟩:=r.con_inv;exact .inr (.inr ⟨by simp,by simp,by simp⟩)
 | c _=>obtain⟨a,f,rfl,_⟩:=r.scr_inv;exact .inr (.inr ⟨by simp,by simp,by simp⟩)
 | b _=>have:=r.bl_inv;subst this;exact .inr (.inr ⟨by simp,by simp,by simp⟩)
 | int _=>have:=r.int_inv;subst this;exact .inr (.inr ⟨by simp,by simp,by simp⟩)
 | str _=>have:=r.str_inv;subst this;exact .inr (.inr ⟨by simp,by simp,by simp⟩)
theorem Ng (neg:Bool):pT K (λx y H Q=>y = .e/\Q (.b (if neg then !decide (x = .e) else decide (x = .e))) H) (EM neg):=by
 intro B L H d e x y w Q hd t u a k;have n:e = .e:=by
  cases e<;>first | rfl | (exfalso;cases d<;>exact a)
 subst n;have s:=u.non_inv;subst s;refine⟨rfl,?_⟩;rcases KL t with⟨rfl,rfl⟩ | ⟨v,rfl,rfl⟩ | ⟨h,i,m⟩
 .have c:(if neg then !decide ((V.e) = .e) else decide (V.e = .e)) = !neg:=by cases neg<;>rfl
  rw[c];exact k _ _ H a (hd.pushF (.b _))
 .obtain⟨q,a⟩:=a;have c:(if neg then !decide (x=V.e) else decide (x = .e))=neg:=by cases neg<;>simp[q]
  rw[c];exact k _ _ H a (hd.pushF (.b _))
 .have c:(if neg then !decide (x=V.e) else decide (x = .e))=neg:=by cases neg<;>simp[h]
  rw[c];have f:w (.v (.b neg)):=by
   cases d with
   | e=>exact absurd rfl i
   | r v=>exact absurd rfl (m v)
   | _=>exact a
  exact k _ _ H f (hd.pushF (.b _))
theorem O8:nJ X (compareOp .Is) (λx y H Q=>y = .e/\Q (.b (if false then !decide (x = .e) else decide (x = .e))) H):=GA
theorem KG:nJ X (compareOp .IsNot) (λx y H Q=>y = .e/\Q (.b (if true then !decide (x = .e) else decide (x = .e))) H):=GF
end
noncomputable def tW:D->Ab gD
 | .int i=>some (.inl i)
 | .str x=>some (.inr x)
 | _=>none
def tO:Aa D->Ab (Aa gD)
 | []=>some []
 | d::a=>match tW d,tO a with
  | some k,some b=>some (k::b)
  | _,_=>none
noncomputable def nb (neg b:Bool):Bool:=if neg then !b else b
section
variable {X:Cx}{K:mI}
theorem En (h:tW d=some k) (r:nR K A H d v):v=kV k:=by
 cases d<;>cases h
 .exact r.int_inv
 .exact r.str_inv
theorem W3 (h:tO g=some j) (l:Reps K A H g o):o=j.map kV:=by
 induction g generalizing j o with
 | nil=>cases l;cases h;rfl
 | cons d g c =>
  cases l with
  | cons r l =>
  have h:=(show (match tW d,tO g with | some k,some j=>some (k::j) | _,_=>none)=some j from h);cases a:tW d with
  | none=>rw[a] at h;cases h
  | some k =>
   cases b:tO g with
   | none=>rw[a,b] at h;cases h
   | some e =>
    rw[a,b] at h;cases h;rw[En a r.peek,c b l];rfl
def xK:D->D->Ab (Ab D)
 | .k a,d=>(tW d).map (mR a)
 | .T a,.t b=>(tO b).map (mR a)
 | _,_=>none
theorem My (h:xK d e=some o) (g:nR K A H d x) (j:nR K A H e y):∃ a w,x = .ref a/\tA H a y w/\(∀ c,o=some c->∃ v,w=some v/\Rep K A H c v)/\(o=none->w=none):=by
 cases d with
 | k q =>
  obtain⟨a,D,rfl,i,f,z⟩:=g.dK_inv;obtain⟨k,n,rfl⟩:=cL.mp h;rw[En n j];obtain⟨s,u⟩:=Gi f z k;exact⟨a,_,rfl,tA.k i,λc m=>s c m,u⟩
 | T q =>
  obtain⟨a,D,rfl,i,f,z⟩:=g.dT_inv;cases e with
  | t G =>
   obtain⟨b,F,rfl,B,E⟩:=j.tup_inv;obtain⟨k,n,rfl⟩:=cL.mp h;rw[W3 n E] at B;obtain⟨s,u⟩:=Gi f z k;exact⟨a,_,rfl,.inr ⟨D,k,b,i,rfl,B,rfl⟩,λc m=>s c m,u⟩
  | _=>cases h
 | _=>cases h
def P1:R2:=λx y H Q=>∃ a v,x = .ref a/\tA H a y (some v)/\Q v H
theorem RZ (j:X.A.units+1<cLine):wV X P1:=by
 intro value slice b s m H x y v u Q I i k h f;obtain⟨a,w,rfl,g,q⟩:=h;cases i;unfold subscriptTail;refine aB ?_;rw[getitemInPython_of_ne (Mi I g).not_modules];refine aB (wpAny_specialOf (Mi I g) PySem.F.slot_dict_getitem.lookup ?_);have fin:wpAny (model X.prog X.w) X.A (subscripted slice false (.ref a) u) (λr c=>wpAny (model X.prog X.w) X.A (letTemporaryGo value (.ref a) r >>= λ_=>pure r) (EP X b m Q) X.xe c) X.xe s:=by
  rw[f];exact wpAny_operating (Tl j I g k λt n e d=>aB (wpAny_letTemporaryGo (aI ⟨w,H,e,d,q⟩)))
 first
  | exact aI (aB fin)
  | exact aB (aI (aB fin))
  | exact aB fin
def Mu (K:mI):R2:=λx y H Q=>Ws K x y H Q\/P1 x y H Q
theorem Rw (g:X.A.units+1<cLine):wV X (Mu X.K):=Zt.or (RZ g)
def Oy:O2:=λd e b=>match d,e with
 | .l a,.int i=>∃ c,oQ a i=some c/\b (.v c)
 | .t a,.int i=>∃ c,oQ a i=some c/\b (.v c)
 | .con a,.int i=>∃ c,oQ a i=some c/\b (.v c)
 | .c a,.int i=>∃ c,oQ a i=some c/\b (.v c)
 | .str z,.int i=>z.length<=100000/\∃ c,oQ z.cps.toList i=some c/\b (.v (.str ⟨#[c]⟩))
 | d,e=>∃ c,xK d e=some (some c)/\b (.v c)
theorem Ht (r:Reps K A H g l) (h:oQ g i=some c):∃ v,oQ l i=some v/\Rep K A H c v:=by
 unfold oQ at h |-;rw[<- r.length];cases e:uE g.length i with
 | none=>rw[e] at h;cases h
 | some j =>
  rw[e] at h;obtain⟨v,a,b⟩:=r.get (i:=j) h;exact⟨v,a,b⟩
theorem Ua:pT K (Mu K) Oy:=by
 intro B L H d e x y D Q hd t u b k;have f:(∃ c,xK d e=some (some c)/\D (.v c))->Mu K x y H Q:=λz=>by
  obtain⟨c,h,b⟩:=z;obtain⟨a,w,rfl,g,i,_⟩:=My h t u;obtain⟨v,rfl,m⟩:=i c rfl;exact .inr ⟨a,v,rfl,g,k _ _ H b (hd.pushF m)⟩
 cases d<;>first | exact f b | skip
 .cases e<;>first | exact f b | skip
  cases u;cases t;obtain⟨A,c,h,b⟩:=b;exact .inl (.inr (.inr ⟨_,_,c,rfl,rfl,B7 A,h,k _ _ H b (hd.pushF (.str _))⟩))
 .obtain⟨a,s,rfl,i,q⟩:=t.tup_inv;cases e<;>first | exact f b | skip
  cases u;obtain⟨c,h,b⟩:=b;obtain⟨v,n,m⟩:=Ht q h;exact .inl (.inr (.inl ⟨a,s,_,v,rfl,rfl,nP.of i,n,k _ _ H b (hd.pushF m)⟩))
 .obtain⟨a,s,rfl,i,q⟩:=t.lst_inv;cases e<;>first | exact f b | skip
  cases u;obtain⟨c,h,b⟩:=b;obtain⟨v,n,m⟩:=Ht q h;exact .inl (.inl ⟨a,s,_,v,rfl,rfl,mL.of i,n,k _ _ H b (hd.pushF m)⟩)
 .obtain⟨a,s,rfl,i,q⟩:=t.scr_inv;cases e<;>first | exact f b | skip
  cases u;obtain⟨c,h,b⟩:=b;obtain⟨v,n,m⟩:=Ht q h;exact .inl (.inl ⟨a,s,_,v,rfl,rfl,i.sqL,n,k _ _ H b (hd.pushF m)⟩)
 .obtain⟨a,s,rfl,i,q⟩:=t.con_inv;cases e<;>first | exact f b | skip
  cases u;obtain⟨c,h,b⟩:=b;obtain⟨v,n,m⟩:=Ht q h;exact .inl (.inr (.inl ⟨a,s,_,v,rfl,rfl,i.sqT,n,k _ _ H b (hd.pushF m)⟩))
theorem qP (o:X.A.units+1<cLine) (g:PD X a p) (j:PD X b r) (l:Np b:=by exact λ_ _=>rfl):PD X (.Subscript a b pos) (d2 Oy p r) :=
 (qQ (Rw o) g j l).mono λ_ _ _ h=>G3 Ua h
def Me (neg:Bool):R2:=λy x H Q=>∃ a o,x = .ref a/\tA H a y o/\Q (.b (nb neg o.isSome)) H
theorem OX (j:X.A.units+1<cLine):nJ X (compareOp .In) (Me false):=by
 intro c s k H x y v u Q I e f h;obtain⟨a,o,rfl,g,q⟩:=h;cases f;exact FM j I g e λi d=>⟨.b o.isSome,H,d,rfl,q⟩
theorem RY (j:X.A.units+1<cLine):nJ X (compareOp .NotIn) (Me true):=by
 intro c s k H x y v u Q I e f h;obtain⟨a,o,rfl,g,q⟩:=h;cases f;exact Se j I g e λi d=>⟨.b (!o.isSome),H,d,rfl,q⟩
def Ky (neg:Bool):R2:=λx y H Q=>∃ i j,x = .str i/\y = .str j/\Q (.b (nb neg (!(Builtin.Str.occurrences j i 0 j.length 1).isEmpty))) H
def Eg (K:mI) (neg:Bool):R2:=λx y H Q=>Ft K neg x y H Q\/Ky neg x y H Q\/Me neg x y H Q
theorem Y0 (g:X.A.units+1<cLine):nJ X (compareOp .In) (Eg X.K false):=Mh.or ((show nJ X (compareOp .In) (Ky false) from HE).or (OX g))
theorem Fm (g:X.A.units+1<cLine):nJ X (compareOp .NotIn) (Eg X.K true):=P8.or ((show nJ X (compareOp .NotIn) (Ky true) from MJ).or (RY g))
noncomputable def rP:D->Ab V
 | .e=>some .e
 | .b b=>some (.b b)
 | .int i=>some (.int i)
 | .str x=>some (.str x)
 | _=>none
def rK:Aa D->Ab (Aa V)
 | []=>some []
 | d::a=>match rP d,rK a with
  | some v,some b=>some (v::b)
  | _,_=>none
theorem Dg {l:Type}{f:l->D}{g:l->V}(h:∀ x,rP (f x)=some (g x)):∀ j:Aa l,rK (j.map f)=some (j.map g)
 | []=>rfl
 | x::j=>by
  show (match rP (f x),rK (j.map f) with | some v,some a=>some (v::a) | _,_=>none)=_;rw[h x,Dg h j];rfl
theorem Ic (h:rP d=some u) (r:nR K A H d v):v=u/\tT u=true:=by
 cases d<;>cases h<;>cases r<;>exact⟨rfl,rfl⟩
theorem Jv (h:rK g=some l) (j:Reps K A H g o):o=l/\l.all tT=true:=by
 induction g generalizing l o with
 | nil=>cases j;cases h;exact⟨rfl,rfl⟩
 | cons d g m =>
  cases j with
  | cons r j =>
  have h:=(show (match rP d,rK g with | some v,some o=>some (v::o) | _,_=>none)=some l from h);cases a:rP d with
  | none=>rw[a] at h;cases h
  | some k =>
   cases b:rK g with
   | none=>rw[a,b] at h;cases h
   | some n =>
    rw[a,b] at h;cases h;obtain⟨c,e⟩:=Ic a r.peek;obtain⟨f,i⟩:=m b j;exact⟨by rw[c,f],by rw[lO,e,i];rfl⟩
def J5 (neg:Bool) (d:D) (g:Aa D) (j:Sl->Prop):Prop:=∃ v a,rP d=some v/\rK g=some a/\j (.v (.b (nb neg (uY v a))))
def NE (neg:Bool):O2:=λd e c=>match e with
 | .l a=>J5 neg d a c
 | .t a=>J5 neg d a c
 | .con a=>J5 neg d a c
 | .str j=>∃ i,d = .str i/\c (.v (.b (nb neg (!(Builtin.Str.occurrences j i 0 j.length 1).isEmpty))))
 | e=>∃ o,xK e d=some o/\c (.v (.b (nb neg o.isSome)))
theorem Dc (neg:Bool):pT K (Eg K neg) (NE neg):=by
 intro B L H d e x y G Q hd E s h k;have seq:∀ (a:Ad) (F:Aa D) (t:Aa V),J5 neg d F G->y = .ref a->(mL K H a t\/nP K H a t)->Reps K (Al B (mJ L)) H F t->Eg K neg x y H Q:=by
  rintro a F t ⟨v,m,f,z,M⟩ rfl O r;obtain⟨P,R⟩:=Ic f E;obtain⟨S,W⟩:=Jv z r;subst P S;exact .inl ⟨a,t,rfl,O,R,W,k _ _ H M (hd.pushF (.b _))⟩
 have u:(∃ o,xK e d=some o/\G (.v (.b (nb neg o.isSome))))->Eg K neg x y H Q:=λA=>by
  obtain⟨o,N,h⟩:=A;obtain⟨a,w,rfl,g,f,z⟩:=My N s E;have e:o.isSome=w.isSome:=by
   cases o with
   | none=>rw[z rfl];rfl
   | some c=>obtain⟨v,rfl,_⟩:=f c rfl;rfl
  exact .inr (.inr ⟨a,w,rfl,g,by rw[<- e];exact k _ _ H h (hd.pushF (.b _))⟩)
 cases e<;>first | exact u h | skip
 .obtain⟨i,rfl,h⟩:=h;cases E;cases s;exact .inr (.inl ⟨_,_,rfl,rfl,k _ _ H h (hd.pushF (.b _))⟩)
 .obtain⟨a,m,n,f,q⟩:=s.tup_inv;exact seq a _ m h n (.inr (nP.of f)) q
 .obtain⟨a,m,n,f,q⟩:=s.lst_inv;exact seq a _ m h n (.inl (mL.of f)) q
 .obtain⟨a,m,n,f,q⟩:=s.con_inv;exact seq a _ m h n (.inr f.sqT) q
end
section
variable {X:Cx}{K:mI}
def Nq (neg:Bool):R2:=λx y H Q=>Nt x y=true/\Q (.b (nb neg (decide (x=y)))) H
end
def tK (g:Aa D) (lo j:Ab Int):Aa D:=(g.drop (HT.sIx g.length 0 lo)).take (HT.sIx g.length g.length j-HT.sIx g.length 0 lo)
def pt (o:Ab nL):Aa Ad->Aa Sl->(Ab Int->Aa Sl->Prop)->Prop:=λc b k=>match o with
 | none=>k none b
 | some t=>t c b λr a=>match r with
  | .v (.int i)=>k (some i) a
  | _=>False
def Er (K:mI):Ab nL->TO
 | none=>Um
 | some t=>Tj (dE K t)
abbrev O3:=D->Ab Int->Ab Int->(Sl->Prop)->Prop
def BE (f:O3) (i:Nat) (lo g:Ab nL):nL:=λc e h=>(at? e i).isSome=true/\pt lo c e λl b=>pt g c b λu a=>match at? a i with
 | some d=>f d l u λr=>h r a
 | none=>False
abbrev R3:=V->Ab Int->Ab Int->Hp->VK->Prop
def Pe (K:mI) (r:R3) (f:O3):Prop:=∀ (B:Bs) (L:oF) (H:Hp) (d:D) (lo b:Ab Int) (x:V) (c:Sl->Prop) (Q:VK),DS K B L H->nR K (Al B (mJ L)) H d x->f d lo b c ->
 (∀ s v a,c s->DS K B ((s,some v)::L) a->Q v a)->r x lo b H Q
section
variable {X:Cx}{K:mI}{lo:Ab Expr}
theorem Xi (I:l.length=p.length) (hd:DS K B (l.zip p++T) H) (h:pt o B.dk l k)
  (C:∀ i g j,g.length=p.length->DS K B (g.zip p++T) j->k i g->Q i j):Er K o p H Q:=by
 cases o with
 | none=>exact C none l H I hd h
 | some t =>
  refine⟨B,l,T,_,I,hd,h,λr g v j b d1 a=>?_⟩;cases r with
  | n=>exact a.elim
  | o d=>exact a.elim
  | v d =>
   cases d with
   | int i=>exact⟨i,d1.valAt.int_inv,C (some i) g j b d1.drop a⟩
   | _=>exact a.elim
theorem zG:PO X none (Er X.K none):=Dt
theorem zQ (h:PD X e t):PO X (some e) (Er X.K (some t)):=E3 h
theorem yZ (I:xI X r) (p:Pe X.K r f) (o:PE X a (pX i)) (g:PO X lo (Er X.K ol)) (j:PO X C (Er X.K J)):PD X (.Subscript a (.Slice lo C none U) pos) (BE f i ol J) :=
 (Fa I o g j).mono λY H Q q=>q.elim λB W T V w hd ⟨n,G⟩ k=>by
  obtain⟨R,E⟩:=cS.mp n;obtain⟨x,y,_⟩:=hd.peek w E;refine⟨x,y,Xi w hd G λl O P L d2 N=>Xi L d2 N λu c D z t e=>?_⟩;cases h:at? c i with
  | none=>rw[h] at e;exact e.elim
  | some d =>
   rw[h] at e;obtain⟨S,b,M⟩:=t.peek z h;rw[y] at b;cases b;exact p B _ D d l u x _ Q t M e λs v A F m=>k s c v A z m.mid F
def Xa (K:mI):R3:=λx lo a H Q=>Sq K x lo a H Q\/Vl K x lo a H Q\/Us x lo a H Q
theorem Ak:xI X (Xa X.K):=Nk.or (RG.or L6)
def FC:O3
 | .l a,lo,b,d=>d (.o (.l (tK a lo b)))
 | .c a,lo,b,d=>d (.o (.l (tK a lo b)))
 | .t a,lo,b,d=>¬ (HT.sIx a.length 0 lo=0/\HT.sIx a.length a.length b=a.length)/\d (.v (.t (tK a lo b)))
 | .str z,lo,b,d=>z.length<=100000/\d (.v (.str (vH z lo b)))
 | _,_,_,_=>False
theorem Mr (r:Reps K A H j l) (lo g:Ab Int):Reps K A H (tK j lo g) (wW l lo g):=by
 unfold tK wW;rw[r.length];exact (r.drop _).take _
theorem zZ:Pe K (Xa K) FC:=by
 intro B L H d lo m x n Q hd i b k;cases d<;>first | exact False.elim b | skip
 .cases i;exact .inr (.inr ⟨_,rfl,B7 b.1,k _ _ _ b.2 (hd.pushF (.str _))⟩)
 .obtain⟨a,h,rfl,e,c⟩:=i.tup_inv;exact .inr (.inl ⟨a,h,rfl,nP.of e,by rw[<- c.length];exact b.1,λp f=>k _ _ _ b.2 (hd.tupF f (Mr c lo m))⟩)
 .obtain⟨a,h,rfl,e,c⟩:=i.lst_inv;exact .inl ⟨a,h,rfl,mL.of e,λp f=>k _ _ _ b (hd.lstF f (Mr c lo m))⟩
 .obtain⟨a,h,rfl,e,c⟩:=i.scr_inv;exact .inl ⟨a,h,rfl,e.sqL,λp f=>k _ _ _ b (hd.lstF f (Mr c lo m))⟩
abbrev O1:=D->(Sl->Prop)->Prop
abbrev R1:=V->Hp->VK->Prop
def MM (K:mI) (r:R1) (f:O1):Prop:=∀ (B:Bs) (L:oF) (H:Hp) (d:D) (x:V) (b:Sl->Prop) (Q:VK),DS K B L H->nR K (Al B (mJ L)) H d x->f d b->(∀ s v a,b s->DS K B ((s,some v)::L) a->Q v a)->r x H Q
def d1 (f:O1) (g:nL):nL:=λb h e=>g b h λc a=>match sd c with
 | some d=>f d λr=>e r a
 | none=>False
theorem NT (j:MM X.K r f) (h:dE X.K (d1 f l) o H Q):dE X.K l o H λx g=>r x g Q:=by
 obtain⟨B,z,T,A,m,hd,q,k⟩:=h;refine⟨B,z,T,_,m,hd,q,λy e x g t d1 a=>?_⟩;cases b:sd y with
 | none=>rw[b] at a;exact a.elim
 | some d =>
  rw[b] at a;obtain⟨u,w⟩:=d1.one b;exact j B _ g d x _ Q u w.peek a λs v i n c=>k s e v i t c.mid n
def S2:O1
 | .int i,a=>a (.v (.int (-i)))
 | _,_=>False
theorem Bt (g:PD X a j):PD X (.UnaryOp .USub a pos) (d1 S2 j):=(EE HJ g).mono λ_ _ _ h=>NT (f:=S2) (λB L H d x e Q hd c b k=>by
 cases d<;>first | exact False.elim b | skip
 cases c;exact⟨_,rfl,k _ _ H b (hd.pushF (.int _))⟩) h
noncomputable def M3:D->Ab Bool
 | .e=>some false
 | .b b=>some b
 | .int i=>some (i != 0)
 | .str x=>some ((x.length:Int) != 0)
 | .l a=>some (!a.isEmpty)
 | .t a=>some (!a.isEmpty)
 | .k a=>some (!a.isEmpty)
 | _=>none
noncomputable def Ni:D->Bool
 | .str x=>decide (x.length<=100000)
 | _=>true
theorem MX (h:nR K A H d x) (e:M3 d=some k) (g:Ni d=true):Oc K x H k:=by
 cases d<;>simp only[M3,reduceCtorEq,lJ] at e<;>subst e
 .have:=h.non_inv;subst this;rfl
 .have:=h.bl_inv;subst this;rfl
 .have:=h.int_inv;subst this;rfl
 .have:=h.str_inv;subst this;exact⟨B7 (cU g),rfl⟩
 .obtain⟨a,b,rfl,h,r⟩:=h.tup_inv;exact .inr (.inl ⟨b,nP.of h,by cases r<;>rfl⟩)
 .obtain⟨a,b,rfl,h,r⟩:=h.lst_inv;exact .inl ⟨b,mL.of h,by cases r<;>rfl⟩
 .rename_i c
  obtain⟨a,b,rfl,h,e,r⟩:=h.dK_inv;refine .inr (.inr ⟨b,h,?_⟩);cases c<;>cases b<;>simp at e |-
def SU (t:nL):sL:=λc f e=>t c f λr a=>match sd r with
 | some d=>Ni d=true/\∃ b,M3 d=some b/\e b a
 | none=>False
theorem F2 (g:PD X a l) (j:∀ whole,isTrue a X.env whole=(do let v <- whole;standAt a.pos;holding [v] (truthy v)):=by intro _;rfl):uL X a (SU l) :=
 (MT g j).mono λz H Q f=>f.elim λB x T y n hd s k=>⟨B,x,T,_,n,hd,s,λr h v i t d1 c=>by
  cases e:sd r with
  | none=>rw[e] at c;exact c.elim
  | some d =>
   rw[e] at c;obtain⟨q,b,m,c⟩:=c;obtain⟨u,w⟩:=d1.one e;exact⟨b,MX w.peek m q,k b h i t u c⟩⟩
def PQ (t u:sL):sL:=λb e d=>t b e λc a=>if c=true then u b a d else d false a
def NW (t u:sL):sL:=λb e d=>t b e λc a=>if c=true then d true a else u b a d
def LM (t:sL):sL:=λb e d=>t b e λc a=>d (!c) a
variable {rest:Aa Expr}
theorem Hn (h:uL X a g):A5 X (.BoolOp .And [a] pos) g:=Xg h
theorem Ss (h:uL X a g):A5 X (.BoolOp .Or [a] pos) g:=GQ h
theorem Ho (j:uL X a o) (l:A5 X (.BoolOp .And (b::rest) pos) g):A5 X (.BoolOp .And (a::b::rest) pos) (PQ o g) :=
 (X4 j l).mono λt H Q e=>e.elim λB s T q m hd n k=>⟨B,s,T,_,m,hd,n,λc d i h d1 f=>by
  cases c with
  | true=>exact (aO rfl).mpr ⟨B,d,T,q,h,d1,(aO rfl).mp f,k⟩
  | false=>exact rY (k false d i h d1 ((aJ (by decide)).mp f))⟩
theorem J2 (j:uL X a o) (l:A5 X (.BoolOp .Or (b::rest) pos) g):A5 X (.BoolOp .Or (a::b::rest) pos) (NW o g) :=
 (FV j l).mono λt H Q e=>e.elim λB s T q m hd n k=>⟨B,s,T,_,m,hd,n,λc d i h d1 f=>by
  cases c with
  | true=>exact (aO rfl).mpr (k true d i h d1 ((aO rfl).mp f))
  | false=>exact rY ⟨B,d,T,q,h,d1,(aJ (by decide)).mp f,k⟩⟩
theorem Cc (h:A5 X a g):uL X a g:=PW.pt h
theorem Mc (h:uL X a g):uL X (.UnaryOp .Not a pos) (LM g):=(NH h).mono λt H Q b=>b.elim λB q T s i hd m k=>⟨B,q,T,_,i,hd,m,λc d e n d1 f=>k _ d e n d1 f⟩
def TJ (t u:nL):nL:=λc e d=>t c e λr a=>match r with
 | .v (.b true)=>u c a d
 | .v (.b false)=>d (.v (.b false)) a
 | _=>False
def MD (t u:nL):nL:=λc e d=>t c e λr a=>match r with
 | .v (.b true)=>d (.v (.b true)) a
 | .v (.b false)=>u c a d
 | _=>False
theorem AF (h:PD X a g):PD X (.BoolOp op [a] pos) g:=QE h
theorem TC (g:PD X a l) (j:PD X (.BoolOp .Or (b::rest) pos) p):PD X (.BoolOp .Or (a::b::rest) pos) (MD l p) :=
 (QM g j).mono λw H Q h=>h.elim λB u T t q hd s k=>⟨B,u,T,_,q,hd,s,λr f v m i d1 e=>by
  cases r with
  | n=>exact e.elim
  | o d=>exact e.elim
  | v d =>
   cases d with
   | b c =>
    have:=d1.valAt.bl_inv;subst this;refine⟨c,rfl,?_⟩;cases c with
    | true=>exact (aO rfl).mpr (k _ f _ m i (d1.drop.push (.b _)) e)
    | false=>exact rY ⟨B,f,T,t,i,d1.drop,e,k⟩
   | _=>exact e.elim⟩
def QZ (t:sL) (u w:nL):nL:=λb e d=>t b e λc a=>if c=true then u b a d else w b a d
theorem Qc (l:uL X c o) (g:PD X a p) (j:PD X b r):PD X (.IfExp c a b pos) (QZ o p r) :=
 (OP l g j).mono λt H Q e=>e.elim λB q T i m hd n k=>⟨B,q,T,_,m,hd,n,λc d s h d1 f=>by
  cases c with
  | true=>exact (aO rfl).mpr ⟨B,d,T,i,h,d1,(aO rfl).mp f,k⟩
  | false=>exact rY ⟨B,d,T,i,h,d1,(aJ (by decide)).mp f,k⟩⟩
end
inductive Ar where
 | t (d:D) | al (i:Nat)
abbrev uK:=Aa Ad->Aa Sl->(Aa Ar->Aa Sl->Prop)->Prop
def tZ:Aa Ar->Aa V->oF
 | .t d::as,v::a=>(.v d,some v)::tZ as a
 | .al _::as,_::a=>tZ as a
 | _,_=>[]
inductive ArOk (σ:St):List Ar->List V->Prop where
 | nil:ArOk σ [] []
 | t {d:D} {v:V} {as:List Ar} {vs:List V}:ArOk σ as vs->ArOk σ (.t d::as) (v::vs)
 | al {i:Nat} {v:V} {as:List Ar} {vs:List V}:σ[i]?=some (some v)->ArOk σ as vs->ArOk σ (.al i::as) (v::vs)
noncomputable def vK (g:Aa Sl):Aa Ar->Ab (Aa D)
 | []=>some []
 | .t d::as=>(vK g as).map (d::·)
 | .al i::as=>match at? g i,vK g as with
  | some d,some a=>some (d::a)
  | _,_=>none
noncomputable def Ap:Aa Ar->Ab (Aa D)
 | []=>some []
 | .t d::as=>(Ap as).map (d::·)
 | .al _::_=>none
def Fp:Aa Ar->Bool
 | []=>true
 | .t _::as=>Fp as
 | .al _::_=>false
def dA (K:mI) (g:uK):TA:=λb H Q=>∃ (B:Bs) (d:Aa Sl) (T:oF) (f:Aa Ar->Aa Sl->Prop),d.length=b.length/\DS K B (d.zip b++T) H/\g B.dk d f /\
 ∀ as a c e,a.length=b.length->ArOk b as c->DS K B (a.zip b++(tZ as c++T)) e->f as a->Q c e
theorem dA.elim {K:mI}{P:Prop}(h:dA K C l H Q) (f:∀ (B:Bs) (j:Aa Sl) (T:oF) (o:Aa Ar->Aa Sl->Prop),j.length=l.length->DS K B (j.zip l++T) H->C B.dk j o ->(∀ as g p r,g.length=l.length->ArOk l as p->DS K B (g.zip l++(tZ as p++T)) r->o as g->Q p r)->P):P:=by
 obtain⟨B,j,T,o,a,hd,b,k⟩:=h;exact f B j T o a hd b k
abbrev tP (X:Cx) (g:Aa Expr) (j:uK):Prop:=PA X g (dA X.K j)
def DB:uK:=λ_ b a=>a [] b
def aC (g:nL) (j:uK):uK:=λc f e=>g c f λr a=>j c a λas b=>match sd r with
 | some d=>e (.t d::as) b
 | none=>False
def aS (i:Nat) (g:uK):uK:=λc b d=>(at? b i).isSome=true/\g c b λas a=>d (.al i::as) a
theorem PA.mono {X:Cx}(h:PA X j t) (k:∀ g H Q,l g H Q->t g H Q):PA X j l:=λp a s g H Q I q=>h p a s g H Q I (k g H Q q)
def Am (B:Bs) (a:Ad):Prop:=a∉B.dk/\(B.A0 a\/B.H0 a=none)
inductive Peeks (K:mI) (A:Addr->Prop) (H:Hp):List D->List V->Prop where
 | nil:Peeks K A H [] []
 | cons {d:D} {v:V} {ds:List D} {vs:List V}:nR K A H d v->Peeks K A H ds vs->Peeks K A H (d::ds) (v::vs)
section
variable {X:Cx}{K:mI}
theorem eA:tP X [] DB:=nK.mono λf H Q a=>a.elim λB d T e b hd c k=>k [] d [] H b .nil hd c
theorem dK (j:PD X e p) (l:tP X g o) (h:yO e=true:=by rfl):tP X (e::g) (aC p o):=(nA j l h).mono λD H Q f=>f.elim λB A T F v hd w k =>
 ⟨B,A,T,_,v,hd,w,λr i x E y d1 u=>⟨B,i,(r,some x)::T,_,y,d1,u,λas a n m z ok d2 b=>by
  cases c:sd r with
  | none=>rw[c] at b;exact b.elim
  | some d =>
   rw[c] at b;refine k (.t d::as) a (x::n) m z (.t ok) ?_ b;have q:DS X.K B ((a.zip D++tZ as n)++(r,some x)::T) m:=by simpa using d2
   have s:=(q.thaw c).front;exact DS.mid (by simpa using s)⟩⟩
theorem sQ (j:PE X e (pX i)) (l:tP X g o) (h:yO e=true:=by rfl):tP X (e::g) (aS i o):=(nA j l h).mono λz H Q a=>a.elim λB v T y c hd ⟨q,s⟩ k=>by
 obtain⟨w,m⟩:=cS.mp q;obtain⟨x,d,_⟩:=hd.peek c m;exact⟨x,d,B,v,T,_,c,hd,s,λas b u f t ok d2 n=>k (.al i::as) b (x::u) f t (.al d ok) d2 n⟩
theorem DS.rmArgs:∀ {as:Aa Ar}{vs:Aa V},DS K B (L++(tZ as vs++T)) H->DS K B (L++T) H
 | [],_,h=>h
 | .t d::as,[],h=>h
 | .al _::as,[],h=>h
 | .t d::as,v::vs,h=>DS.rmArgs (as:=as) (vs:=vs) (DS.drop (L1:=L) (L2:=tZ as vs++T) h)
 | .al _::as,v::vs,h=>DS.rmArgs (as:=as) (vs:=vs) h
theorem Jk:∀ {as:Aa Ar}{vs:Aa V},mJ (L++(tZ as vs++T))=mJ (L++T)
 | [],_=>rfl
 | .t d::as,[]=>rfl
 | .al _::as,[]=>rfl
 | .t d::as,v::vs=>(show mJ (L++(Sl.v d,some v)::(tZ as vs++T))=_ from Jx).trans (Jk (as:=as) (vs:=vs))
 | .al _::as,v::vs=>Jk (as:=as) (vs:=vs)
theorem DS.temps (h:DS K B (L++(tZ as j++T)) H) (ok:ArOk σ as j):∀ g,Ap as=some g->Reps K (Al B (mJ (L++T))) H g j:=by
 have key:∀ p∈tZ as j,uD K (Al B (mJ (L++T))) H p.1 p.2:=λp b=>by
  have:=h.ok p (by simp[b]);rw[Jk] at this;exact this
 clear h;induction ok with
 | nil=>intro g e;cases e;exact .nil
 | @t d v as j ok i =>
  intro g e;obtain⟨a,c,rfl⟩:=cL.mp e;obtain⟨u,f,r⟩:=key (.v d,some v) aH;cases f;exact .cons r (i (λp b=>key p (aQ _ b)) a c)
 | al _ _ _=>intro g e;cases e
theorem DS.argsP (I:g.length=C.length) (h:DS K B (g.zip C++(tZ as l++T)) H) (ok:ArOk C as l):∀ j,vK g as=some j ->
  Peeks K (Al B (mJ (g.zip C++T))) H j l/\Reps K (Am B) H j l/\(Fp as=true->Reps K (Al B (mJ (g.zip C++T))) H j l):=by
 have key:∀ p∈tZ as l,uD K (Al B (mJ (g.zip C++T))) H p.1 p.2:=λp m=>by
  have:=h.ok p (by simp[m]);rw[Jk] at this;exact this
 have A:=h.rmArgs;have am:∀ a,Al B (mJ (g.zip C++T)) a->Am B a:=λa z=>⟨z.1,z.2.2⟩
 clear h;induction ok with
 | nil=>intro j e;cases e;exact⟨.nil,.nil,λ_=>.nil⟩
 | @t d v as l ok D =>
  intro j e;obtain⟨f,b,rfl⟩:=cL.mp e;obtain⟨u,k,r⟩:=key (.v d,some v) aH;cases k;obtain⟨E,F,O⟩:=D (λp m=>key p (aQ _ m)) f b;exact⟨.cons r.peek E,.cons (r.mono (.all am)) F,λn=>.cons r (O n)⟩
 | @al i v as l G ok D =>
  intro j e;have e:=(show (match at? g i,vK g as with | some d,some j=>some (d::j) | _,_=>none)=some j from e);cases b:at? g i with
  | none=>rw[b] at e;cases e
  | some d =>
   cases k:vK g as with
   | none=>rw[b,k] at e;cases e
   | some f =>
    rw[b,k] at e;cases e;obtain⟨E,F,O⟩:=D (λp m=>key p m) f k;obtain⟨V,q,pv⟩:=A.peek I b;rw[G] at q;cases q;have Q:Rep K (Am B) H d v:=by
     unfold at? at b;cases w:g[i]? with
     | none=>rw[w] at b;cases b
     | some s =>
      rw[w] at b;obtain⟨R,y,S,M,_,P,_⟩:=wK I w;rw[G] at M;cases M;have L:(s,some v)∈g.zip C++T:=by rw[P];simp
      have:=A.ok _ L;cases s with
      | n=>cases b
      | v c=>cases b;obtain⟨u,x,r⟩:=this;cases x;exact r.mono (.all am)
      | o c =>
       cases b;obtain⟨a,x,r⟩:=this;cases x;have N:=A.new a (wC.mpr ⟨_,L,rfl⟩);exact r.rep am ⟨N.2,.inr N.1⟩
    exact⟨.cons pv E,.cons Q F,λn=>by simp[Fp] at n⟩
def HL (g:uK):nL:=λc e d=>g c e λas a=>match Ap as with
 | some b=>b.length<=1000/\d (.v (.t b)) a
 | none=>False
def Sv (g:uK):nL:=λc e d=>g c e λas a=>match Ap as with
 | some b=>b.length<=1000/\d (.o (.l b)) a
 | none=>False
theorem Ry (h:n<=1000):n<=sizeLine:=bX h (by decide)
theorem oN (h:tP X g j):PD X (.Tuple g l pos) (HL j):=(Ca h).mono λv H Q c=>c.elim λB q T u f hd m k=>⟨B,q,T,_,f,hd,m,λas d t s n ok d1 a=>by
 cases b:Ap as with
 | none=>rw[b] at a;exact a.elim
 | some e =>
  rw[b] at a;have r:=d1.temps ok e b;exact⟨Ry (by rw[<- r.length];exact a.1),λp i=>k _ d _ _ n (d1.rmArgs.tup i r) a.2⟩⟩
theorem nX (h:tP X g j):PD X (.List g pos) (Sv j):=(rE h).mono λv H Q c=>c.elim λB q T u f hd m k=>⟨B,q,T,_,f,hd,m,λas d t s n ok d1 a=>by
 cases b:Ap as with
 | none=>rw[b] at a;exact a.elim
 | some e =>
  rw[b] at a;have r:=d1.temps ok e b;exact⟨Ry (by rw[<- r.length];exact a.1),λp i=>k _ d _ _ n (d1.rmArgs.lstF i r).mid a.2⟩⟩
def PX:nL:=λ_ b a=>a (.o (.k [])) b
def Wr:nL:=λ_ b a=>a (.o (.T [])) b
theorem Fh:PD X (.Dict [] [] pos) PX:=Yo.mono λh H Q a=>a.elim λB e T f b hd d k p c=>k _ e _ _ b (hd.dKF (ds:=[]) (kvs:=[]) c rfl .nil).mid d
theorem B5:PD X (.Dict [] [] pos) Wr:=EN.mono λh H Q a=>a.elim λB e T f b hd d k p c=>k _ e _ _ b (hd.dTF (ds:=[]) (kvs:=[]) c rfl .nil).mid d
abbrev OC:=Aa D->(Sl->Prop)->Prop
def rZ (K:mI) (r:Aa V->Hp->VK->Prop) (f:OC):Prop:=∀ (B:Bs) (L:oF) (H:Hp) (b:Aa D) (c:Aa V) (d:Sl->Prop) (Q:VK),DS K B L H->Peeks K (Al B (mJ L)) H b c->f b d ->
 (∀ s v a,d s->DS K B ((s,some v)::L) a->Q v a)->r c H Q
def dC (f:OC) (g:uK):nL:=λb e d=>g b e λas a=>match vK a as with
 | some c=>f c λr=>d r a
 | none=>False
theorem O0 (l:rZ X.K r f) (h:dE X.K (dC f o) p H Q):dA X.K o p H λj g=>r j g Q:=by
 obtain⟨B,u,T,w,n,hd,t,k⟩:=h;refine⟨B,u,T,_,n,hd,t,λas a j g i ok d1 b=>?_⟩;cases c:vK a as with
 | none=>rw[c] at b;exact b.elim
 | some e =>
  rw[c] at b;exact l B _ g e j _ Q d1.rmArgs (d1.argsP i ok e c).1 b λs v m q d=>k s a v m i d.mid q
variable {id:String}
theorem oJ (C:oI X (.builtin id) r) (I:rZ X.K r f) (T:X.mg x=none) (hv:bootBuiltins x=some (.builtin id)) (o:tP X (e::l) ta) (J:Gl X x:=by rfl) (U:x ≠ "__name__" := by decide) (g:(x == ("__debug__" : Af))=false:=by decide)
  (j:StB X e l pos:=by exact {}):PD X (.Call (.Name x p) (e::l) [] pos) (dC f ta) :=
 (wE C J T hv o U g j).mono λ_ _ _ h=>O0 I h
theorem nZ (C:oI X (.type id) r) (I:rZ X.K r f) (T:X.mg x=none) (hv:bootBuiltins x=some (.type id)) (o:tP X (e::l) ta) (J:Gl X x:=by rfl) (U:x ≠ "__name__" := by decide) (g:(x == ("__debug__" : Af))=false:=by decide)
  (j:StB X e l pos:=by exact {}):PD X (.Call (.Name x p) (e::l) [] pos) (dC f ta) :=
 (Oa C J T hv o U g j).mono λ_ _ _ h=>O0 I h
end
def Lf:Sl->Bool
 | .v d=>imm d
 | .o (.l b)=>xU b
 | .o (.k a)=>xU (a.map (·.2))
 | .o (.T a)=>xU (a.map (·.2))
 | _=>false
def RV (K:mI) (g:Aa Ad) (A:Ad->Prop) (H:Hp) (s:Sl) (v:V) (j:Hp):Prop:=match s with
 | .n=>True
 | .v d=>Rep K (λa=>a∉g/\(A a\/H a=none)) j d v
 | .o d=>∃ a,v = .ref a/\H a=none/\a∉g/\pU K (λb=>b∉g/\b≠a/\(A b\/H b=none)) j a d
def Ch (j:Aa Ad) (H g:Hp):Prop:=∀ b o,H b=some o->b∉j->g b=some o
abbrev RD:=Aa Ad->Aa D->(Sl->Prop)->Prop
def yE (K:mI) (R:RD):Sp:=λf H Q _=>∃ (b:Aa Ad) (A:Ad->Prop) (d:Aa D) (e:Sl->Prop),Dk b H/\(∀ a,A a->a∉b)/\Reps K A H d f/\R b d e /\
 ∀ s v c,e s->Ch b H c->Dk b c->RV K b A H s v c->Q v c
section
variable {K:mI}
theorem pU.immR (h:pU K A H a d) (e:Lf (.o d)=true):pU K g H a d:=by
 cases d with
 | l _=>obtain⟨b,h,r⟩:=h;exact⟨b,h,r.imm e⟩
 | k _=>obtain⟨b,h,k,r⟩:=h;exact⟨b,h,k,r.imm e⟩
 | T _=>obtain⟨b,h,k,r⟩:=h;exact⟨b,h,k,r.imm e⟩
 | _=>exact False.elim h
theorem Kp.frm (f:Ch g H l) (p:Dk g H) (h:∀ a,A a->a∉g/\j a):Kp A j H l:=by
 refine⟨λa o b e=>⟨(h a b).2,f a o e (h a b).1⟩,λa o t e=>f a o e λz=>?_⟩;obtain⟨c,q⟩:=p.some z;rw[e] at q;cases q;cases t
theorem DS.call (h:DS K B L H) (f:Ch B.dk H g) (j:Dk B.dk g):DS K B L g :=
 ⟨λb o e n=>f b o (h.fr b o e n) n,j,h.nd,h.new,λp c=>(h.ok p c).mono (.frm f h.dk λa z=>⟨z.1,z⟩) λb d o q=>f b o q (h.new b (wC.mpr ⟨p,c,d⟩)).2⟩
theorem DS.adopt (h:DS K B L H) (f:Ch B.dk H H') (j:Dk B.dk H') (g:H a=none) (r:pU K (Al B (a::mJ L)) H' a d):DS K B ((.o d,some (.ref a))::L) H':=by
 obtain⟨f1,f2,k⟩:=h.free g;have s:Kp (Al B (mJ L)) (Al B (a::mJ L)) H H':=by
  refine⟨λb o c e=>⟨⟨c.1,λz=>?_,c.2.2⟩,f b o e c.1⟩,λb o t e=>f b o e λz=>?_⟩
  .rcases aK.mp z with q | q
   .subst q;rw[g] at e;cases e
   .exact c.2.1 q
  .obtain⟨u,q⟩:=h.dk.some z;rw[e] at q;cases q;cases t
 have i:mJ ((Sl.o d,some (V.ref a))::L)=a::mJ L:=rfl;refine⟨λb o e n=>f b o (h.fr b o e n) n,j,by rw[i];exact bY.mpr ⟨k,h.nd⟩,λb c=>?_,λp m=>?_⟩
 .rw[i] at c;rcases aK.mp c with q | q
  .subst q;exact⟨f1,f2⟩
  .exact h.new b q
 .rw[i];rcases aK.mp m with q | q
  .subst q;exact⟨a,rfl,r⟩
  .exact (h.ok p q).mono s λb c o w=>f b o w (h.new b (wC.mpr ⟨p,q,c⟩)).2
theorem DS.result (h:DS K B L H) (f:Ch B.dk H j) (l:Dk B.dk j) (r:RV K B.dk p H s v j) (g:(∀ a,p a->Al B (mJ L) a)\/Lf s=true):DS K B ((s,some v)::L) j:=by
 have fresh:∀ b,b∉B.dk->H b=none->Al B (mJ L) b:=λb n e=>⟨n,(h.free e).2.2,.inr (h.free e).1⟩
 cases s with
 | n=>exact (h.call f l).pushN (L1:=[]) _
 | v d =>
  refine (h.call f l).pushF ?_;rcases g with g | g
  .exact (show Rep K _ j d v from r).mono (.all λb z=>z.2.elim (g b) (fresh b z.1))
  .exact (show Rep K _ j d v from r).imm g
 | o d =>
  obtain⟨a,rfl,c,hd,r⟩:=r;refine h.adopt f l c ?_;rcases g with g | g
  .refine r.mono (.all λb z=>?_) λ_ q=>q
   have:=z.2.2.elim (g b) (fresh b z.1);exact⟨this.1,λq=>(aK.mp q).elim z.2.1 this.2.1,this.2.2⟩
  .exact r.immR g
end
def E4 (R:RD) (g:uK):nL:=λb e d=>g b e λas a=>match vK a as with
 | some c=>R b c λs=>(Fp as=true\/Lf s=true)/\d s a
 | none=>False
section
variable {X:Cx}{R:RD}
theorem IY (h:dE X.K (E4 R l) o H Q):dA X.K l o H λj g=>yE X.K R (j++[]) g Q E0:=by
 obtain⟨B,A,T,D,u,hd,w,k⟩:=h;refine⟨B,A,T,_,u,hd,w,λas b j g q ok d1 c=>?_⟩;cases m:vK b as with
 | none=>rw[m] at c;exact c.elim
 | some i =>
  rw[m] at c;obtain⟨_,x,y⟩:=d1.argsP q ok i m;have d2:=d1.rmArgs;rw[dD];by_cases t:Fp as=true
  .exact⟨B.dk,_,i,_,d2.dk,λa z=>z.1,y t,c,λs v e d f n r=>k s b v e q (d2.result f n r (.inl λa z=>z)).mid d.2⟩
  .exact⟨B.dk,_,i,_,d2.dk,λa z=>z.1,x,c,λs v e d f n r=>k s b v e q (d2.result f n r (.inr (d.1.resolve_left t))).mid d.2⟩
theorem BS (F:FnOk X.prog X.w X.K X.mg X.base pE k f fd U (yE X.K R)) (T:Room k X.A) (C:Gl X x) (J:X.mg x=some (.ref f)) (I:PySem.W.keepIn X.K (.ref f)=true) (r:zD X.K fd U [])
  (o:tP X (e::l) ta) (g:(x == ("__debug__" : Af))=false:=by decide) (j:StB X e l pos:=by exact {}) :
  PD X (.Call (.Name x p) (e::l) [] pos) (E4 R ta):=(uP F T C J I r .nil tJ o g j).mono λ_ _ _ h=>IY h
end
structure DEnds where
 nx:List Sl->Prop
 rt:Sl->Prop
 bk:List Sl->Prop:=λ_=>False
 ct:List Sl->Prop:=λ_=>False
abbrev qS:=Aa Ad->DEnds->Aa Sl->Prop
def E2 (K:mI) (B:Bs) (T:oF) (n:Nat) (g:DEnds) (j:Ends):Prop :=
 (∀ b a c,b.length=a.length->a.length=n->DS K B (b.zip a++T) c->(g.nx b->j.nx a c)/\(g.bk b->j.bk a c)/\(g.ct b->j.ct a c)) /\
 ∀ (r:Sl) (v:V) (b:Aa Sl) (a:St) (c:Hp),b.length=a.length->DS K B (b.zip a++(r,some v)::T) c->g.rt r->j.rt v c
def dS (K:mI) (g:qS):TS:=λd b H=>∃ (B:Bs) (a:Aa Sl) (T:oF) (c:DEnds),a.length=b.length/\DS K B (a.zip b++T) H/\g B.dk c a/\E2 K B T b.length c d
theorem dS.elim {K:mI}{P:Prop}(h:dS K p o j H) (f:∀ (B:Bs) (g:Aa Sl) (T:oF) (l:DEnds),g.length=j.length->DS K B (g.zip j++T) H->p B.dk l g->E2 K B T j.length l o->P):P:=by
 obtain⟨B,g,T,c,a,hd,b,k⟩:=h;exact f B g T c a hd b k
abbrev vB (X:Cx) (st:Stmt) (g:qS):Prop:=PS X st (dS X.K g)
abbrev vX (X:Cx) (st:Aa Stmt) (g:qS):Prop:=qG X st (dS X.K g)
theorem PS.mono {X:Cx}{st:Stmt}(h:PS X st t) (k:∀ D g H,j D g H->t D g H):PS X st j:=λa s g H D I q=>h a s g H D I (k D g H q)
theorem qG.mono {X:Cx}{st:Aa Stmt}(h:qG X st t) (k:∀ D g H,j D g H->t D g H):qG X st j:=λa s g H D I q=>h a s g H D I (k D g H q)
def O5:qS:=λ_ a b=>a.nx b
def Gm (t u:qS):qS:=λb a c=>t b { a with nx:=u b a } c
def qX (g:nL):qS:=λb a c=>g b c λr _=>a.rt r
def MR (g:nL):qS:=λc b d=>g c d λ_ a=>b.nx a
def Og (c:sL) (t u:qS):qS:=λd e f=>c d f λb a=>if b=true then t d e a else u d e a
def qN (i:Nat) (g:nL):qS:=λc b d=>g c d λr a=>b.nx (a.set i r)
section
variable {X:Cx}{K:mI}{st:Stmt}{rest:Aa Stmt}
theorem E2.seq (h:E2 K B T n o p){P:Aa Sl->Prop}(k:∀ j g l,j.length=g.length->g.length=n->DS K B (j.zip g++T) l->P j->N g l):E2 K B T n { o with nx:=P } { p with nx:=N } :=
 ⟨λj g l a b d=>⟨k j g l a b d,(h.1 j g l a b d).2⟩,h.2⟩
theorem qY:vX X [] O5:=C8.mono λi f H a=>a.elim λB e T h b hd c d=>(d.1 e f H b rfl hd).1 c
theorem hO (g:vB X st t) (j:vX X rest u):vX X (st::rest) (Gm t u):=(qE g j).mono λs w H a=>a.elim λB m T e f hd h c =>
 ⟨B,m,T,_,f,hd,h,c.seq λb n v i k d q=>⟨B,b,T,e,i,d,q,by rw[k];exact c⟩⟩
theorem mQ (h:vB X st t):vX X [st] t:=sD h
theorem nO (h:PD X e g):vB X (.Return (some e) pos) (qX g):=(yG h).mono λt q H a=>a.elim λB n T s f hd i m=>⟨B,n,T,_,f,hd,i,λr b v c k d1 d=>m.2 r v b q c k d1 d⟩
theorem sM (h:PD X e j) (g:swapsWith e none pos.line X.env=pure false:=by rfl):vB X (.Expr e pos) (MR j):=(Kl h g).mono λt q H a=>a.elim λB n T s f hd i m=>⟨B,n,T,_,f,hd,i,λr b v c k d1 d=>(m.1 b q c k rfl d1.drop).1 d⟩
theorem qU (l:uL X c o) (g:vX X a t) (j:vX X b u):vB X (.If c a b pos) (Og o t u):=(A4 l g j).mono λs w H e=>e.elim λB q T f m hd n k=>⟨B,q,T,_,m,hd,n,λc d v i d1 h=>by
 cases c with
 | true=>exact (aO rfl).mpr ⟨B,d,T,f,i,d1,(aO rfl).mp h,k⟩
 | false=>exact rY ⟨B,d,T,f,i,d1,(aJ (by decide)).mp h,k⟩⟩
theorem DS.assign {g:Aa Sl}{j:St}(l:g.length=j.length) (h:DS K B (g.zip j++(r,some v)::T) H) (i:Nat):DS K B ((g.set i r).zip (j.set i (some v))++T) H:=by
 by_cases m:i<g.length
 .obtain⟨b,y,c,_,_,n,a⟩:=wK l (aE m);rw[a r (some v)];rw[n] at h;have d:DS K B (b++(c++(r,some v)::T)) H:=DS.drop (L1:=b) (x:=(g[i],y)) (by simpa using h);have e:DS K B ((b++c)++(r,some v)::T) H:=by simpa using d
  have f:=e.front;have k:DS K B ((r,some v)::(b++(c++T))) H:=by simpa using f
  simpa using k.mid
 .rw[gX (by omega),gX (by omega)];exact h.drop
theorem mS (i:Nat) (j:X.N.Nodup) (l:PD X e J) (p:X.N[i]?=some x:=by rfl) (I:xD X.env.scope x:=by first | exact Or.inl rfl | exact Or.inr rfl) (C:swapsWith e (some (.Name x g)) pos.line X.env=pure false:=by rfl)
  (o:X.fn x=true\/X.env.scope.names.lookup x=some .local:=by first | exact .inl rfl | exact .inr rfl | assumption):vB X (.Assign [.Name x g] e pos) (qN i J) :=
 (qD j p I l C o).mono λs t H a=>a.elim λB m T q f hd h k=>⟨B,m,T,_,f,hd,h,λr n v c b d1 d=>(k.1 _ _ c (by rw[bW,bW];exact b) (bW ..) (d1.assign b i)).1 d⟩
end
def B0 (N:Aa Af) (g:Aa D):Aa Sl:=g.map .v++List.replicate (N.length-g.length) .n
section
variable {P:Ah}{K:mI}
theorem Pb:∀ {g:Aa D}{j:Aa V}(n:Nat),g.length=j.length->(g.map Sl.v++List.replicate n Sl.n).zip (j.map some++List.replicate n none)=(g.zip j).map (λp=>(Sl.v p.1,some p.2))++List.replicate n (Sl.n,none)
 | [],[],n,_=>by simp
 | [],_::_,_,e=>by simp at e
 | _::_,[],_,e=>by simp at e
 | d::g,v::j,n,e=>by
  simp only[aP,cT,cV,iF,true_and];exact Pb n (by simpa using e)
theorem OA (l:Reps K A H g j):∀ p∈g.zip j,Rep K A H p.1 p.2:=by
 induction g generalizing j with
 | nil=>intro p a;cases a
 | cons d g b =>
  cases l with
  | cons h r =>
  intro p a;rw[cV] at a;rcases aK.mp a with rfl | q
  .exact h
  .exact b r p q
theorem Fun.okD {st:Stmt}{R:RD}(F:Fun K x J st f fd) (S:FnScope N ps (nF st)) (I:∀ C g T,R C g T->g.length=ps.length) (aa:ps.length<=N.length)
  (U:∀ (l:Ac) (A:Around) (j:Aa Env) (s:Ae) (H:Hp) (E:XK) (C:Aa Ad) (g:Aa D) (T:Sl->Prop),Room k (A.deeper (envOfC J (nF st) s.heap.objs.size f l))->R C g T ->∃ t,vX (zF pE P w K mg base N J (nF st) f l A j s H E).nox (tL st) t/\t C { nx:=λ_=>T (.v .e),rt:=T } (B0 N g)):FnOk P w K mg base pE (k+1) f fd ps (yE K R):=by
 refine F.ok S (λm H Q E M=>by obtain⟨C,A,g,T,_,_,r,u,_⟩:=M;rw[<- r.length];exact I _ _ _ u) λl A j s H m Q E hr M=>?_
 obtain⟨C,A1,g,T,L,hA,r,u,X⟩:=M;obtain⟨t,ht,hb⟩:=U l A j s H E C g T hr u;have G:g.length=m.length:=r.length;have dl:g.length=ps.length:=I _ _ _ u;refine⟨_,ht,⟨C,A1,H⟩,B0 N g,[],_,?_,?_,hb,?_,?_⟩
 .unfold B0 vZ;rw[List.length_append,List.length_append,List.length_map,List.length_map,List.length_replicate,List.length_replicate,G]
 .have W:(B0 N g).zip (vZ N m)=(g.zip m).map (λp=>(Sl.v p.1,some p.2))++List.replicate (N.length-g.length) (Sl.n,none):=by
   unfold B0 vZ;rw[<- G];exact Pb _ G
  have B:mJ ((B0 N g).zip (vZ N m))=[]:=by
   rw[W];refine hV.mpr λa i=>?_
   obtain⟨q,c,e⟩:=wC.mp i;rcases aV.mp c with z | z
   .obtain⟨p,_,rfl⟩:=aN.mp z;cases e
   .rw[(List.mem_replicate.mp z).2] at e;cases e
  rw[dD];refine⟨λb o e _=>e,L,by rw[B];exact dZ,(λa i=>by rw[B] at i;exact absurd i bD),λq c=>?_⟩;rw[B];rw[W] at c;rcases aV.mp c with z | z
  .obtain⟨p,hp,rfl⟩:=aN.mp z;exact⟨p.2,rfl,(OA r p hp).mono (.all λa i=>⟨hA a i,bD,.inl i⟩)⟩
  .rw[(List.mem_replicate.mp z).2];trivial
 .intro O V y l1 l2 d1;refine⟨λh=>X _ _ y h d1.fr d1.dk .e,λh=>h.elim,λh=>h.elim⟩
 .intro Z v O V y l1 d1 h;refine X Z v y h d1.fr d1.dk ?_;cases Z with
  | n=>trivial
  | v d=>exact d1.valAt.mono (.all λa z=>⟨z.1,z.2.2⟩)
  | o d =>
   obtain⟨a,rfl,r'⟩:=d1.ownAt;have Y:=d1.new a (by rw[sO];exact aT _ aH);exact⟨a,rfl,Y.1,Y.2,r'.mono (.all λb z=>⟨z.1,λq=>z.2.1 (by simp[q]),z.2.2⟩) λ_ q=>q⟩
end
abbrev uV:=D->Aa Sl->(Aa Sl->Prop)->Prop
abbrev B1:=Aa D->Aa Sl->(Aa Sl->Prop)->Prop
noncomputable def qW (g:Aa D) (j:Aa V):oF:=(g.zip j).map λp=>(Sl.v p.1,some p.2)
def dG (K:mI) (n:Nat) (g:uV):TG:=λv c H Q=>∃ (B:Bs) (e:Aa Sl) (T:oF) (d:D) (h:Aa Sl->Prop),e.length=c.length/\DS K B (e.zip c++(.v d,some v)::T) H/\g d e h /\
 ∀ (b:Aa Sl) (a:St) (f:Hp),b.length=a.length->a.length=c.length->(∀ j,n<=j->a[j]?=c[j]?)->DS K B (b.zip a++T) f->h b->Q a f
def Lc (K:mI) (n:Nat) (g:B1):A9:=λh c H Q=>∃ (B:Bs) (e:Aa Sl) (T:oF) (d:Aa D) (i:Aa Sl->Prop),e.length=c.length/\d.length=h.length/\DS K B (e.zip c++(qW d h++T)) H/\g d e i /\
 ∀ (b:Aa Sl) (a:St) (f:Hp),b.length=a.length->a.length=c.length->(∀ j,n<=j->a[j]?=c[j]?)->DS K B (b.zip a++T) f->i b->Q a f
theorem dG.elim {K:mI}{P:Prop}(h:dG K n I v r H Q) (f:∀ (B:Bs) (o:Aa Sl) (T:oF) (d:D) (p:Aa Sl->Prop),o.length=r.length->DS K B (o.zip r++(.v d,some v)::T) H->I d o p ->(∀ (l:Aa Sl) (g:St) (C:Hp),l.length=g.length->g.length=r.length->(∀ j,n<=j->g[j]?=r[j]?)->DS K B (l.zip g++T) C->p l->Q g C)->P):P:=by
 obtain⟨B,o,T,d,p,a,hd,b,k⟩:=h;exact f B o T d p a hd b k
theorem Lc.elim {K:mI}{P:Prop}(h:Lc K n U J C H Q) (f:∀ (B:Bs) (p:Aa Sl) (T:oF) (o:Aa D) (r:Aa Sl->Prop),p.length=C.length->o.length=J.length->DS K B (p.zip C++(qW o J++T)) H->U o p r ->(∀ (l:Aa Sl) (g:St) (I:Hp),l.length=g.length->g.length=C.length->(∀ j,n<=j->g[j]?=C[j]?)->DS K B (l.zip g++T) I->r l->Q g I)->P):P:=by
 obtain⟨B,p,T,o,r,a,c,hd,b,k⟩:=h;exact f B p T o r a c hd b k
abbrev vW (X:Cx) (n:Nat) (e:Expr) (g:uV):Prop:=PG X e (dG X.K n g)
abbrev E6 (X:Cx) (n:Nat) (g:Aa Expr) (j:B1):Prop:=yM X g (Lc X.K n j)
theorem PG.mono {X:Cx}(h:PG X e t) (k:∀ v g H Q,j v g H Q->t v g H Q):PG X e j:=λa s g H v u Q I r q=>h a s g H v u Q I r (k v g H Q q)
theorem yM.mono {X:Cx}(h:yM X j t) (k:∀ v g H Q,l v g H Q->t v g H Q):yM X j l:=λa s g H v u Q I r q=>h a s g H v u Q I r (k v g H Q q)
def gN (i:Nat):uV:=λd b a=>a (b.set i (.v d))
def IS:B1:=λa c b=>a=[]/\b c
def EU (g:uV) (j:B1):B1:=λa e c=>match a with
 | d::a=>g d e λb=>j a b c
 | []=>False
def Y1 (n:Nat) (g:B1):uV:=λd c b=>match d with
 | .t a=>a.length=n/\g a c b
 | _=>False
section
variable {X:Cx}{K:mI}
theorem DS.pushs {A:Ad->Prop}:∀ {g:Aa D}{j:Aa V},DS K B (L++T) H->Reps K (Al B (mJ (L++T))) H g j->DS K B (L++(qW g j++T)) H
 | _,_,h,.nil=>h
 | _,_,h,.cons (ds:=g) (vs:=j) r i=>by
  have c:=DS.pushs (A:=A) h i;have b:mJ (L++(qW g j++T))=mJ (L++T):=by
   have:∀ (g:Aa D) (j:Aa V),mJ (qW g j)=[]:=λg j=>by
    refine hV.mpr λa d=>?_
    obtain⟨q,f,e⟩:=wC.mp d;obtain⟨p,_,rfl⟩:=aN.mp f;cases e
   rw[sV,sV,sV,this,gL]
  exact c.push (by rw[b];exact r)
theorem mM (i:Nat) (g:X.N.Nodup) (o:X.N[i]?=some x:=by rfl) (p:xD X.env.scope x:=by first | exact Or.inl rfl | exact Or.inr rfl) (r:i<m:=by decide) (l:X.fn x=true\/X.env.scope.names.lookup x=some .local:=by first | exact .inl rfl | exact .inr rfl | assumption):vW X m (.Name x pos) (gN i) :=
 (wS g o p l).mono λv n H Q a=>a.elim λB h T d f b hd c k=>k _ _ H (by rw[bW,bW];exact b) (bW ..) (λj e=>eY (by omega)) (hd.assign b i) c
theorem pD:E6 X m [] IS:=IX.mono λf i H Q a=>a.elim λB h T n q c e hd ⟨b,d⟩ k=>by
 subst b;cases f with
 | nil=>exact⟨rfl,k h i H c rfl (λ_ _=>rfl) hd d⟩
 | cons _ _=>simp at e
theorem nE (p:vW X m e g) (r:E6 X m l o) (C:(assignEach (e::l) X.env).map (·.2)=assign e X.env::(assignEach l X.env).map (·.2):=by rfl):E6 X m (e::l) (EU g o) :=
 (OE p r C).mono λb M H Q c=>c.elim λB F T a E w t hd s k=>by
  cases a with
  | nil=>exact s.elim
  | cons d a =>
   cases b with
   | nil=>simp at t
   | cons v b =>
    refine⟨v,b,rfl,B,F,qW a b++T,d,_,w,hd,s,λf G L x y f1 d1 q=>⟨B,f,T,a,E,x,by simpa using t,d1,q,λh i u z A f2 d2 D=>k h i u z (A.trans y) (λj n=>(f2 j n).trans (f1 j n)) d2 D⟩⟩
theorem qR (o:X.calm=true) (h:E6 X m g l) (p:(assignEach g X.env).length=n:=by rfl) (j:(assignEach g X.env).findIdx? (·.1)=none:=by rfl):vW X m (.Tuple g k pos) (Y1 n l) :=
 (PN o h p j).mono λv x H Q b=>b.elim λB w T d u q hd c k=>by
  cases d with
  | t f =>
   obtain⟨a,s,rfl,i,e⟩:=hd.valAt.tup_inv;exact⟨a,s,rfl,nP.of i,by rw[<- e.length];exact c.1,B,w,T,f,u,q,e.length,hd.drop.pushs (A:=λ_=>True) e,c.2,k⟩
  | _=>exact c.elim
end
def Zq (j:nL) (g:uV):qS:=λc b e=>j c e λr a=>match sd r with
 | some d=>g d a b.nx
 | none=>False
def sC:D->D->D->Ab D
 | .l b,.int i,d=>(uE b.length i).map λj=>.l (b.set j d)
 | .k a,k,d=>if a.length<100000 then (tW k).map λk=>.k (nM a k d) else none
 | .T a,.t c,d=>if a.length<100000 then (tO c).map λk=>.T (nM a k d) else none
 | _,_,_=>none
def Nm (i:Nat) (g j:nL):qS:=λf h q=>j f q λn a=>(at? a i).isSome=true/\g f a λm b=>match sd n,sd m,b[i]? with
 | some d,some k,some (.o c)=>∃ e,sC c k d=some e/\h.nx (b.set i (.o e))
 | _,_,_=>False
section
variable {X:Cx}{K:mI}
theorem wN (o:PD X e I) (p:vW X m l g) (C:swapsWithSole [l] e pos.line X.env=pure false:=by rfl) (hw:swappedStores [l] e X.env=pure none:=by rfl)
  (j:(assignEach [l] X.env).map (·.2)=[assign l X.env]:=by rfl):vB X (.Assign [l] e pos) (Zq I g):=(Br o p C hw j).mono λz D H b=>b.elim λB x T y k hd n s=>⟨B,x,T,_,k,hd,n,λr c v A q d1 j=>by
 cases a:sd r with
 | none=>rw[a] at j;exact j.elim
 | some d =>
  rw[a] at j;exact⟨B,c,T,d,_,q,d1.thaw a,j,λf h i t u _ d2 w=>(s.1 f h i t u d2).1 w⟩⟩
def Qx:Mn:=λo i v H Q=>Ub o i v H Q\/∃ a b,o = .ref a/\zI H a i v b/\Q b
theorem Mj (j:X.A.units+1<cLine):L7 X Qx:=by
 intro b s t H o i v n m u Q I d c e h;rcases h with h | ⟨a,f,rfl,g,q⟩
 .exact Fw b s t H o i v n m u Q I d c e h
 .cases d;exact CJ j I g c e λw k=>⟨f,k,q⟩
theorem DS.slotW {g:Aa Sl}{j:St}(C:g.length=j.length) (h:DS K B (g.zip j++T) H){i:Nat}{c:D}(e:g[i]?=some (.o c)):∃ a,j[i]?=some (some (.ref a))/\pU K (Al B (mJ (g.zip j++T))) H a c /\
  ∀ (o:HO) (l:D),(∀ p,Kp (Al B (mJ (g.zip j++T))) p H (upd H a o)->pU K p (upd H a o) a l)->DS K B ((g.set i (.o l)).zip j++T) (upd H a o):=by
 obtain⟨q,y,s,m,_,n,b⟩:=wK C e;have d:DS K B (q++(.o c,y)::(s++T)) H:=by rw[n] at h;simpa using h
 obtain⟨a,rfl,_⟩:=d.at;have f:mJ (g.zip j++T)=mJ q++a::mJ (s++T):=by rw[n,bP,cT,sO];rfl
 obtain⟨v,t,r⟩:=d.ownAt;cases t;refine⟨a,m,by rw[f];exact r,λo l k=>?_⟩;rw[f] at k;have u:=d.write (o:=o) (d':=l) k;have:=b (.o l) (some (.ref a));rw[Bh m] at this;rw[this]
 simpa using u
theorem K6 (h:sC c k d=some p) (r:pU K A H a c) (J:nR K A H k y) (I:Rep K A H d v)
  (C:∀ o,(∀ g,Kp A g H (upd H a o)->pU K g (upd H a o) a p)->Q (upd H a o)):Qx (.ref a) y v H Q:=by
 cases c with
 | l M =>
  cases k with
  | int i =>
   obtain⟨m,s,n⟩:=r;obtain⟨j,u,rfl⟩:=cL.mp h;have:=J.int_inv;subst this;exact .inl ⟨a,m,i,j,rfl,rfl,s,by rw[<- n.length];exact u,C _ λg w=>⟨_,mX,(n.set I j).mono w⟩⟩
  | _=>cases h
 | k e =>
  obtain⟨m,s,q,n⟩:=r;have h:=(show (if e.length<100000 then (tW k).map λj=>D.k (nM e j d) else none)=some p from h);by_cases f:e.length<100000
  .rw[aO f] at h;obtain⟨j,u,rfl⟩:=cL.mp h;rw[En u J];obtain⟨z,B⟩:=Gy q n (k:=j) I;have x:m.length<sizeLine:=by
    have:=cG List.length q;simp only[aA] at this;exact bI (show m.length<100000 by omega) (by decide)
   exact .inr ⟨a,_,rfl,zI.k s x,C _ λg w=>⟨_,mX,z,B.mono w⟩⟩
  .rw[aJ f] at h;cases h
 | T e =>
  cases k with
  | t F =>
   obtain⟨m,s,q,n⟩:=r;have h:=(show (if e.length<100000 then (tO F).map λj=>D.T (nM e j d) else none)=some p from h);by_cases f:e.length<100000
   .rw[aO f] at h;obtain⟨j,u,rfl⟩:=cL.mp h;obtain⟨b,L,rfl,E,G⟩:=J.tup_inv;rw[W3 u G] at E;obtain⟨z,B⟩:=Gy q n (k:=j) I;have x:m.length<sizeLine:=by
     have:=cG List.length q;simp only[aA] at this;exact bI (show m.length<100000 by omega) (by decide)
    exact .inr ⟨a,_,rfl,zI.t s E x,C _ λg w=>⟨_,mX,z,B.mono w⟩⟩
   .rw[aJ f] at h;cases h
  | _=>cases h
 | _=>cases h
theorem uI (U:X.A.units+1<cLine) (hv:PD X e tv) (I:PE X o (pX n)) (r:PD X i ti)
  (j:∀ v,assign (.Subscript o i g) X.env v=(do
   let l <- holding [v] (eval o X.env);let C <- holding [v,l] (eval i X.env)
   standAt g
   holding [v,l,C] (setItem l C v)
   release [v,l,C] []):=by intro _;rfl)
  (J:swapsWithSole [.Subscript o i g] e pos.line X.env=pure false:=by rfl) (hw:swappedStores [.Subscript o i g] e X.env=pure none:=by rfl)
  (p:(assignEach [.Subscript o i g] X.env).map (·.2)=[assign (.Subscript o i g) X.env]:=by rfl):vB X (.Assign [.Subscript o i g] e pos) (Nm n ti tv) :=
 (Br hv (Cq I r (Mj U) j) J hw p).mono λDn σ H q=>q.elim λB ρ T De N hd P Q=>⟨B,ρ,T,_,N,hd,P,λF u v H1 D d1 t=>by
  obtain⟨r,p⟩:=t;obtain⟨d0,L⟩:=cS.mp r;obtain⟨x,z,_⟩:=d1.peek D L;refine⟨x,z,B,u,(F,some v)::T,_,D,d1,p,λY w y H2 E d2 b=>?_⟩;cases f:sd F with
  | none=>rw[f] at b;exact b.elim
  | some d =>
   cases h:sd Y with
   | none=>rw[f,h] at b;exact b.elim
   | some k =>
    cases m:w[n]? with
    | none=>rw[f,h,m] at b;exact b.elim
    | some s =>
     cases s with
     | n=>rw[f,h,m] at b;exact b.elim
     | v c=>rw[f,h,m] at b;exact b.elim
     | o c =>
      rw[f,h,m] at b;obtain⟨G,M,b⟩:=b;obtain⟨R,S,V⟩:=d2.two f h;obtain⟨a,j,W,Z⟩:=R.slotW E m;rw[z] at j;cases j;exact K6 M W V.peek S λo O=>(Q.1 _ _ _ (by rw[bW];exact E) rfl (Z o G O)).1 b⟩
def Te (n:Nat) (f:Int->Int->Int) (g:nL):qS:=λd c b=>match at? b n with
 | some (.int i)=>g d b λr a=>match r with
  | .v (.int j)=>c.nx (a.set n (.v (.int (f i j))))
  | _=>False
 | _=>False
theorem Vq (j:X.N.Nodup) (p:X.N[n]?=some x) (I:xD X.env.scope x) (l:PD X e J) (C:Op X op (Po f)) (o:X.fn x=true\/X.env.scope.names.lookup x=some .local:=by first | exact .inl rfl | exact .inr rfl | assumption) :
  vB X (.AugAssign (.Name x g) op e pos) (Te n f J):=(DX j p I l C o).mono λz A H h=>h.elim λB m T w i hd a t=>by
 unfold Te at a;cases b:at? m n with
 | none=>rw[b] at a;exact False.elim a
 | some d =>
 rw[b] at a;cases d<;>first | exact False.elim a | skip
 .obtain⟨v,s,pv⟩:=hd.peek i b;have:=pv.int_inv;subst this;refine⟨_,s,B,m,T,_,i,hd,a,λr u y q k d1 c=>?_⟩;cases r<;>first | exact False.elim c | skip
  rename_i d
  cases d<;>first | exact False.elim c | skip
  have:=d1.valAt.int_inv;subst this;exact⟨_,_,rfl,rfl,(t.1 _ _ q (by rw[bW,bW];exact k) (bW ..) ((d1.drop.push (.int _)).assign k n)).1 c⟩
end
section
variable {X:Cx}
def HF (K:mI) (R:It->Hp->Prop) (x:V) (H:Hp):Prop:=(∃ a,x = .ref a/\(∃ b,mL K H a b)/\R (yV K a) H)\/(∃ a,x = .ref a/\(∃ b,nP K H a b)/\R (C2 K a) H)\/∃ z:Af,x = .str z/\z.cps.all (·<128)=true/\R (wJ z) H
def HW (K:mI) (g:TE):TI:=λb H R=>g b H λx a=>HF K R x a
theorem Qg (g:PE X l j):PI X r l (HW X.K j):=by
 intro d s G H R I h;refine mV (g d s G H _ I h) λv c u=>?_
 obtain⟨x,k,f,w,D⟩:=u;have m:∀ b∈[c.heap.objs.size],uQ X d k b:=λb A=>by
  have e:b=c.heap.objs.size:=by simpa using A
  subst e;exact f.fpOk (aU _) (f.hok.fresh (aU _))
 rcases D with⟨a,rfl,⟨F,n⟩,q⟩ | ⟨a,rfl,⟨F,n⟩,q⟩ | ⟨z,rfl,y,q⟩
 .cases w;obtain⟨i,E,p,B⟩:=f.list n;exact fQ p.isList ⟨c.heap.objs.size,[c.heap.objs.size],_,_,k,rfl,f.kept (t':=c.toks) λb o e=>aG _ e,Xh a _,⟨_,bA _ rfl,rfl,rfl⟩,m,q⟩
 .cases w;obtain⟨i,E,p,B⟩:=f.tuple n;exact wpAny_pyIter_tuple (show c.heap.IsTuple a i.toArray from p) ⟨c.heap.objs.size,[c.heap.objs.size],_,_,k,rfl,f.kept (t':=c.toks) λb o e=>aG _ e,IA a _,⟨_,bA _ rfl,rfl,rfl⟩,m,q⟩
 .obtain⟨t,rfl⟩:=w;exact wpAny_pyIter_ascii y ⟨c.heap.objs.size,[c.heap.objs.size],_,wJ z,k,rfl,f.kept (t':=c.toks) λb L q=>aG _ q,Vc z t _,⟨_,bA _ rfl,rfl,rfl⟩,m,q⟩
end
def xW (K:mI) (A:Ad->Prop) (H:Hp) (E:oF):Prop:=∀ p∈E,uD K A H p.1 p.2
structure YD (K:mI) (J:It) (ds:List D) (E:oF):Prop where
 vals:mJ E=[]
 go:∀ i H A,i<ds.length->xW K A H E->J.go i H
 yld:∀ i H A x H',i<ds.length->xW K A H E->J.yld i H x H'->∃ d,ds[i]?=some d/\((H'=H/\Rep K A H d x)\/∃ p es vs,H p=none/\x = .ref p/\H'=upd H p (.t vs)/\d = .t es/\Reps K A H es vs)
 stop:∀ i H A,i=ds.length->xW K A H E->J.stop i H
abbrev wG:=Aa Ad->Aa Sl->(Aa D->Aa Sl->Prop)->Prop
def dI (K:mI) (g:wG):TI:=λb H R=>∃ (B:Bs) (c:Aa Sl) (T:oF) (f:Aa D->Aa Sl->Prop),c.length=b.length/\DS K B (c.zip b++T) H/\g B.dk c f /\
 ∀ (J:It) (e:Aa D) (a:Aa Sl) (E:oF) (d:Hp),a.length=b.length->DS K B (a.zip b++(E++T)) d->YD K J e E->f e a->R J d
theorem dI.elim {K:mI}{R:It->Hp->Prop}{P:Prop}(h:dI K C o H R) (f:∀ (B:Bs) (j:Aa Sl) (T:oF) (l:Aa D->Aa Sl->Prop),j.length=o.length->DS K B (j.zip o++T) H->C B.dk j l ->(∀ (J:It) (r:Aa D) (g:Aa Sl) (E:oF) (p:Hp),g.length=o.length->DS K B (g.zip o++(E++T)) p->YD K J r E->l r g->R J p)->P):P:=by
 obtain⟨B,j,T,l,a,hd,b,k⟩:=h;exact f B j T l a hd b k
abbrev xF (X:Cx) (g iter:Expr) (j:wG):Prop:=PI X g iter (dI X.K j)
theorem PI.mono {X:Cx}{iter:Expr}(h:PI X j iter w) (k:∀ g H R,l g H R->w g H R):PI X j iter l:=λa s g H R I q=>h a s g H R I (k g H R q)
noncomputable def C9 (z:Af):Aa D:=z.cps.toList.map λc=>D.str ⟨#[c]⟩
def QR:D->Ab (Aa D)
 | .l a=>some a
 | .t a=>some a
 | .con a=>some a
 | .c a=>some a
 | .str z=>if z.cps.all (·<128) then some (C9 z) else none
 | _=>none
def iV (g:nL):wG:=λb e d=>g b e λr a=>match (sd r).bind QR with
 | some c=>d c a
 | none=>False
noncomputable def pK (lo:Int) (n:Nat):Aa D:=(List.range n).map λ(i:Nat)=>D.int (lo+i)
def Xo (g:nL):wG:=λb d c=>g b d λr a=>match r with
 | .v (.int j)=>-(2 ^ 62)<=j/\j<2 ^ 62/\c (pK 0 j.toNat) a
 | _=>False
section
variable {X:Cx}{K:mI}
theorem Zs {a:Ad}{g:Aa D}:YD K (yV K a) g [(.v (.l g),some (.ref a))] where
 vals:=rfl
 go:=λi H A h ok=>by
  obtain⟨v,e,r⟩:=ok _ aH;cases e;obtain⟨k,b,e,_,c,f⟩:=r.lst_inv;cases e;exact⟨b,b[i]'(by rw[<- f.length];exact h),mL.of c,aE _⟩
 yld:=λi H A x m h ok y=>by
  obtain⟨v,e,r⟩:=ok _ aH;cases e;obtain⟨k,b,e,_,c,f⟩:=r.lst_inv;cases e;obtain⟨d,hd,rd⟩:=f.getV (y.2 b (mL.of c));exact⟨d,hd,.inl ⟨y.1,rd⟩⟩
 stop:=λi H A h ok=>by
  obtain⟨v,e,r⟩:=ok _ aH;cases e;obtain⟨k,b,e,_,c,f⟩:=r.lst_inv;cases e;exact⟨b,mL.of c,by rw[<- f.length];omega⟩
theorem EI {a:Ad}{g:Aa D}:YD K (yV K a) g [(.v (.c g),some (.ref a))] where
 vals:=rfl
 go:=λi H A k ok=>by
  obtain⟨v,e,r⟩:=ok _ aH;cases e;obtain⟨m,b,e,f,h⟩:=r.scr_inv;cases e;exact⟨b,b[i]'(by rw[<- h.length];exact k),f.sqL,aE _⟩
 yld:=λi H A x n k ok y=>by
  obtain⟨v,e,r⟩:=ok _ aH;cases e;obtain⟨m,b,e,f,h⟩:=r.scr_inv;cases e;obtain⟨d,hd,rd⟩:=h.getV (y.2 b f.sqL);exact⟨d,hd,.inl ⟨y.1,rd⟩⟩
 stop:=λi H A k ok=>by
  obtain⟨v,e,r⟩:=ok _ aH;cases e;obtain⟨m,b,e,f,h⟩:=r.scr_inv;cases e;exact⟨b,f.sqL,by rw[<- h.length];omega⟩
theorem Pn {a:Ad}{d:D}{g:Aa D}(hd:d = .t g\/d = .con g):YD K (C2 K a) g [(.v d,some (.ref a))]:=by
 have key:∀ A H,xW K A H [(.v d,some (.ref a))]->∃ b,nP K H a b/\Reps K A H g b:=λA H ok=>by
  obtain⟨v,e,r⟩:=ok _ aH;cases e;rcases hd with rfl | rfl
  .obtain⟨k,b,e,c,f⟩:=r.tup_inv;cases e;exact⟨b,nP.of c,f⟩
  .obtain⟨k,b,e,c,f⟩:=r.con_inv;cases e;exact⟨b,c.sqT,f⟩
 refine⟨rfl,λi H A h ok=>?_,λi H A x m h ok y=>?_,λi H A h ok=>?_⟩
 .obtain⟨b,c,f⟩:=key A H ok;exact⟨b,b[i]'(by rw[<- f.length];exact h),c,aE _⟩
 .obtain⟨b,c,f⟩:=key A H ok;obtain⟨d,hd,rd⟩:=f.getV (y.2 b c);exact⟨d,hd,.inl ⟨y.1,rd⟩⟩
 .obtain⟨b,c,f⟩:=key A H ok;exact⟨b,c,by rw[<- f.length];omega⟩
theorem HB:YD K (wJ z) (C9 z) [] where
 vals:=rfl
 go:=λi H A a _=>by simpa [wJ,C9,Str.length] using a
 yld:=λi H A x d a _ y=>by
  obtain⟨e,c,b,rfl⟩:=y;refine⟨.str ⟨#[c]⟩,?_,.inl ⟨e,.str _⟩⟩;unfold C9;rw[aW,cZ,b];rfl
 stop:=λi H A a _=>by simp[wJ,a,C9,Str.length]
theorem PF {lo:Int}:YD K (wA lo n) (pK lo n) [] where
 vals:=rfl
 go:=λi H A a _=>by simpa [wA,pK] using a
 yld:=λi H A x c a _ y=>by
  have b:i<n:=by simpa [pK] using a
  refine⟨.int (lo+i),by simp[pK,b],.inl ⟨y.1,?_⟩⟩;rw[y.2];exact .int _
 stop:=λi H A a _=>by simp[wA,pK,a]
theorem nN (g:PD X e j):xF X o e (iV j):=(Qg g).mono λM H R w=>w.elim λB L T G E hd F k=>⟨B,L,T,_,E,hd,F,λr f v n q d1 b=>by
 cases u:sd r with
 | none=>rw[u] at b;exact b.elim
 | some d =>
  rw[u] at b;have d2:=d1.thaw u;have s:=d2.valAt;cases d with
  | l m=>obtain⟨a,i,rfl,_,h,y⟩:=s.lst_inv;exact .inl ⟨a,rfl,⟨i,mL.of h⟩,k _ m f [_] n q d2 Zs b⟩
  | c m=>obtain⟨a,i,rfl,h,y⟩:=s.scr_inv;exact .inl ⟨a,rfl,⟨i,h.sqL⟩,k _ m f [_] n q d2 EI b⟩
  | t m=>obtain⟨a,i,rfl,h,y⟩:=s.tup_inv;exact .inr (.inl ⟨a,rfl,⟨i,nP.of h⟩,k _ m f [_] n q d2 (Pn (.inl rfl)) b⟩)
  | con m=>obtain⟨a,i,rfl,h,y⟩:=s.con_inv;exact .inr (.inl ⟨a,rfl,⟨i,h.sqT⟩,k _ m f [_] n q d2 (Pn (.inr rfl)) b⟩)
  | str z =>
   have:=s.str_inv;subst this;have b:=(show (match (if z.cps.all (·<128)=true then some (C9 z) else none:Ab (Aa D)) with | some A=>G A f | none=>False) from b);by_cases x:z.cps.all (·<128)=true
   .rw[aO x] at b;exact .inr (.inr ⟨z,rfl,x,k _ _ f [] n q d2.drop HB b⟩)
   .rw[aJ x] at b;exact b.elim
  | _=>exact b.elim⟩
theorem vY (j:Gl X "range") (l:X.mg "range" = none) (g:PD X a I) (C:starEach [a] X.env=[(false,eval a X.env)]:=by rfl) (o:yO a=true:=by rfl):xF X J (.Call (.Name "range" p) [a] [] pos) (Xo I) :=
 (Di j l (nA g nK o) C).mono λs H R c=>c.elim λB n T q h hd i k=>⟨B,n,T,_,h,hd,i,λr e v f m d1 b=>by
  cases r<;>first | exact False.elim b | skip
  rename_i d
  cases d<;>first | exact False.elim b | skip
  have:=d1.valAt.int_inv;subst this;exact⟨_,rfl,b.1,b.2.1,k _ _ e [] f m d1.drop PF b.2.2⟩⟩
def Kf (l:wG) (g:uV) (j:qS):qS:=λf b k=>l f k λh c=>∃ Pv:Nat->Aa Sl->Prop,Pv 0 c /\
 (∀ i d a,h[i]?=some d->Pv i a->g d a λe=>j f { nx:=Pv (i+1),ct:=Pv (i+1),bk:=b.nx,rt:=b.rt } e)/\∀ a,Pv h.length a->b.nx a
theorem DS.rmE:∀ {E:oF},DS K B (L++(E++T)) H->DS K B (L++T) H
 | [],h=>h
 | x::E,h=>DS.rmE (E:=E) (DS.drop (L1:=L) (x:=x) (by simpa using h))
theorem oW {iter:Expr}{body:Aa Stmt}{o:wG}{g:uV}{j:qS}(hi:xF X l iter o) (hg:vW X 99 l g) (I:vX X body j) (hp:PassesOwn (model X.prog X.w) X.A X.env X.xe:=by exact eF) (U:X.calm=true:=by rfl)
  (hs:∀ x,foldedSetIterable iter X.env x=pure x:=by intro _;rfl):vB X (.For l iter body [] pos) (Kf o g j) :=
 (Bc hp U hi hg I hs).mono λDn W H O=>O.elim λB ρ T De hl hd ht Q=>⟨B,ρ,T,_,hl,hd,ht,λJ F S E H1 l1 d1 Y P=>by
  obtain⟨Pv,p0,step,fin⟩:=P;refine⟨λi m c k=>m=F.length-i/\i<=F.length/\∃ a,a.length=c.length/\c.length=W.length/\DS X.K B (a.zip c++(E++T)) k/\Pv i a,⟨_,rfl,cR _,S,l1,rfl,d1,p0⟩,?_⟩;rintro i m c k ⟨rfl,aa,a,V,m2,L,pv⟩;have n:xW X.K (Al B (mJ (a.zip c++(E++T)))) k E:=λq hq=>L.ok q (by simp[hq])
  by_cases s:i<F.length
  .refine .inr ⟨Y.go i k _ s n,λf t=>∃ b,b.length=f.length/\f.length=W.length/\DS X.K B (b.zip f++(E++T)) t/\Pv (i+1) b,λf t ⟨b,q1,q2,R,q4⟩=>⟨_,(by omega:F.length-(i+1)<_),rfl,s,b,q1,q2,R,q4⟩,λx t y=>?_⟩;obtain⟨d,M,alt⟩:=Y.yld i k _ x t s n y;have d2:DS X.K B (a.zip c++(.v d,some x)::(E++T)) t:=by
    rcases alt with⟨rfl,rx⟩ | ⟨p,es,vs,N,rfl,rfl,rfl,rr⟩
    .exact L.push rx
    .exact L.tup N rr
   refine⟨B,a,E++T,d,_,V,d2,step i d a M pv,λb f H3 n1 n2 _ Z R=>⟨B,b,E++T,_,n1,Z,R,?_,?_⟩⟩
   .intro e h G u a2 D;refine⟨λz=>⟨e,u,by omega,D,z⟩,λz=>?_,λz=>⟨e,u,by omega,D,z⟩⟩;exact (Q.1 e h G u (by omega) D.rmE).1 z
   .intro r v e h G u D z;refine Q.2 r v e h G u ?_ z;have:DS X.K B ((e.zip h++[(r,some v)])++(E++T)) G:=by simpa using D
    simpa using this.rmE
  .have C:i=F.length:=by omega
   subst C;exact .inl ⟨Y.stop _ k _ rfl n,(Q.1 a c k V m2 L.rmE).1 (fin a pv)⟩⟩
def Zz (c:sL) (g:qS):qS:=λi h d=>∃ (Pv:Aa Sl->Prop) (f:Aa Sl->Nat),Pv d/\∀ d,Pv d->c i d λb e =>
 if b=true then g i { nx:=λa=>Pv a/\f a<f d,ct:=λa=>Pv a/\f a<f d,bk:=h.nx,rt:=h.rt } e else h.nx e
theorem Qj {c:Expr}{body:Aa Stmt}{j:sL}{g:qS}(p:PassesOwn (model X.prog X.w) X.A X.env X.xe) (o:uL X c j) (l:vX X body g):vB X (.While c body [] pos) (Zz j g) :=
 (Zd p o l).mono λI G H t=>t.elim λB Z T C N hd ⟨Pv,x,Q,step⟩ u=>by
  refine⟨λm f y=>∃ a,m=x a/\a.length=f.length/\f.length=G.length/\DS X.K B (a.zip f++T) y/\Pv a,⟨_,Z,rfl,N,rfl,hd,Q⟩,?_⟩;rintro m f y ⟨a,rfl,O,P,M,pv⟩;refine⟨B,a,T,_,O,M,step a pv,λb q L F d1 E=>?_⟩;cases b with
  | true =>
   refine (aO rfl).mpr ⟨λh D=>∃ d,d.length=h.length/\h.length=G.length/\DS X.K B (d.zip h++T) D/\Pv d/\x d<x a,λh D ⟨d,R,S,V,W,Y⟩=>⟨_,Y,d,rfl,R,S,V,W⟩,B,q,T,_,F,d1,(aO rfl).mp E,?_,?_⟩
   .intro e i s k J n;exact⟨λz=>⟨e,k,by omega,n,z⟩,λz=>(u.1 e i s k (by omega) n).1 z,λz=>⟨e,k,by omega,n,z⟩⟩
   .exact λr v e i s k n z=>u.2 r v e i s k n z
  | false=>exact rY ((u.1 q f L F P d1).1 ((aJ (by decide)).mp E))
end
def nW (B:Bs) (D:Ad) (g:Aa V):Bs:=⟨B.dk,λa=>(B.A0 a\/B.H0 a=none)/\a≠D,λa=>if a=D then some (.l g) else B.H0 a⟩
section
variable {K:mI}{R:oF}{D:Ad}
theorem Eu {R:Aa Ad}:Al (nW B D g) R a↔Al B R a/\a≠D:=by
 unfold Al nW;constructor
 .rintro ⟨c,d,b | b⟩
  .exact⟨⟨c,d,b.1⟩,b.2⟩
  .dsimp only at b;by_cases z:a=D
   .rw[aO z] at b;cases b
   .rw[aJ z] at b;exact⟨⟨c,d,.inr b⟩,z⟩
 .rintro ⟨⟨c,d,b⟩,e⟩;exact⟨c,d,.inl ⟨b,e⟩⟩
theorem DS.pin (h:DS K B L H) (g:H D=none):DS K (nW B D []) L (upd H D (.l [])):=by
 obtain⟨f1,f2,d⟩:=h.free g;refine⟨λb o e n=>?_,h.dk.upd f2,h.nd,λa c=>?_,λp f=>(h.ok p f).mono (.laid g λa z n=>Eu.mpr ⟨z,n⟩) λb i o q=>by rw[mT (nQ q g)];exact q⟩
 .by_cases z:b=D
  .subst z;simp only[nW,gR] at e;cases e;exact mX
  .simp only[nW,aJ z] at e;rw[mT z];exact h.fr b o e n
 .have:=h.new a c;have z:a≠D:=λq=>d (q▸c)
  exact⟨by simp only[nW,aJ z];exact this.1,this.2⟩
theorem DS.pinAt (h:DS K (nW B D j) L H) (g:D∉B.dk):H D=some (.l j):=h.fr D _ (by simp[nW]) g
theorem DS.pinW (h:DS K (nW B D j) L H) (g:D∉B.dk):DS K (nW B D ys') L (upd H D (.l ys')):=by
 have d:=h.pinAt g;have k:Kp (Al (nW B D j) (mJ L)) (Al (nW B D ys') (mJ L)) H (upd H D (.l ys')) :=
  (Kp.write (A:=Al (nW B D j) (mJ L)) d rfl λz=>(Eu.mp z).2 rfl).trans (.all λa z=>Eu.mpr (Eu.mp z))
 refine⟨λb o e n=>?_,h.dk.upd g,h.nd,λa f=>?_,λp c=>(h.ok p c).mono k λb i o q=>?_⟩
 .by_cases z:b=D
  .subst z;simp only[nW,gR] at e;cases e;exact mX
  .simp only[nW,aJ z] at e;rw[mT z];exact h.fr b o (by simp only[nW,aJ z];exact e) n
 .have:=h.new a f;have z:a≠D:=λq=>by subst q;simp[nW] at this
  simp only[nW,aJ z] at this |-;exact this
 .have:=(h.new b (wC.mpr ⟨p,c,i⟩)).1;have z:b≠D:=λw=>by subst w;simp[nW] at this
  rw[mT z];exact q
theorem DS.unpin (h:DS K (nW B D g) L H) (r:Reps K (Al (nW B D g) (mJ L)) H I g) (j:B.H0 D=none) (C:D∉B.dk):DS K B ((.o (.l I),some (.ref D))::L) H:=by
 have k:=h.pinAt C;have i:D∉mJ L:=λz=>by have:=(h.new D z).1;simp[nW] at this
 have c:mJ ((Sl.o (.l I),some (V.ref D))::L)=D::mJ L:=rfl;have al:∀ a,Al (nW B D g) (mJ L) a->Al B (D::mJ L) a:=λa z=>by
  obtain⟨d,s⟩:=Eu.mp z;exact⟨d.1,λq=>(aK.mp q).elim s d.2.1,d.2.2⟩
 refine⟨λb o e n=>?_,h.dk,by rw[c];exact bY.mpr ⟨i,h.nd⟩,λa f=>?_,λp m=>?_⟩
 .have z:b≠D:=λq=>by subst q;rw[j] at e;cases e
  exact h.fr b o (by simp only[nW,aJ z];exact e) n
 .rw[c] at f;rcases aK.mp f with q | q
  .subst q;exact⟨j,C⟩
  .have:=h.new a q;have z:a≠D:=λw=>i (w▸q)
   simp only[nW,aJ z] at this;exact this
 .rw[c];rcases aK.mp m with q | q
  .subst q;exact⟨D,rfl,g,k,r.mono (.all al)⟩
  .exact (h.ok p q).mono (.all al) λ_ _ _ w=>w
theorem DS.lend1 {g:Aa Sl}{j:St}(l:g.length=j.length) (h:DS K B (g.zip j++R) H) (i:Nat):DS K B ((g.set i .n).zip j++((g[i]?).getD .n,(j[i]?).join)::R) H:=by
 by_cases d:i<g.length
 .obtain⟨b,y,c,f,_,t,a⟩:=wK l (aE d);rw[t] at h;have k:DS K B (b++(g[i],y)::(c++R)) H:=by simpa using h
  have m:=k.front;have q:DS K B (((g[i],y)::b)++(.n,y)::(c++R)) H:=DS.pushN (L1:=(g[i],y)::b) (by simpa using m) y;have e:=a .n y;rw[Bh f] at e;rw[e,aE d,f];have s:DS K B ((g[i],y)::((b++(Sl.n,y)::c)++R)) H:=by simpa using q
  exact s.mid
 .rw[gX (by omega),fF (by omega),fF (by omega)];exact h.pushN _
theorem DS.back1 {g:Aa Sl}{l:St}{s:Sl}{y:Ab V}(o:g.length=l.length) (h:DS K B (g.zip l++(s,y)::R) H){i:Nat}(j:(l[i]?).join=y):DS K B ((g.set i s).zip l++R) H:=by
 by_cases q:i<g.length
 .obtain⟨d,a,f,c,_,t,b⟩:=wK o (aE q);rw[c] at j;have j:a=y:=j;subst j;have e:=b s a;rw[Bh c] at e;rw[e];rw[t] at h;have k:DS K B (d++(f++(s,a)::R)) H:=DS.drop (L1:=d) (x:=(g[i],a)) (by simpa using h);have m:DS K B ((d++f)++(s,a)::R) H:=by simpa using k
  have n:DS K B ((s,a)::(d++(f++R))) H:=by simpa using m.front
  simpa using n.mid
 .rw[gX (by omega)];exact h.drop
def pW (g:Aa Nat) (j:Aa Sl):Aa Sl:=g.map λi=>(j[i]?).getD .n
def sY (g:Aa Nat) (j:St):St:=g.map λi=>(j[i]?).join
def qO (g:Aa Nat) (j:Aa Sl):Aa Sl:=g.foldl (λj i=>j.set i .n) j
def rA:Aa Nat->Aa Sl->Aa Sl->Aa Sl
 | i::a,s::c,b=>rA a c (b.set i s)
 | _,_,b=>b
theorem Nf:∀ (g:Aa Nat) (j:Aa Sl),(qO g j).length=j.length
 | [],_=>rfl
 | i::g,j=>by show (qO g (j.set i .n)).length=_;rw[Nf g,bW]
theorem Vb:∀ (g:Aa Nat) (l:Aa Sl) (j:Aa Sl),(rA g l j).length=j.length
 | [],_,_=>rfl
 | _::_,[],_=>rfl
 | i::g,s::l,j=>(Vb g l (j.set i s)).trans (bW ..)
theorem DS.lend:∀ {caps:Aa Nat}{g:Aa Sl}{R:oF},caps.Nodup->g.length=l.length->DS K B (g.zip l++R) H->DS K B ((qO caps g).zip l++((pW caps g).zip (sY caps l)++R)) H
 | [],g,R,_,a,h=>h
 | i::caps,g,R,d,a,h=>by
  obtain⟨f,k⟩:=bY.mp d;have b:=DS.lend (caps:=caps) (R:=((g[i]?).getD .n,(l[i]?).join)::R) k (by rw[bW];exact a) (h.lend1 a i);have e:pW caps (g.set i .n)=pW caps g:=cX λj c=>by rw[eY (λz:i=j=>f (by rw[z];exact c))]
  rw[e] at b;show DS K B ((qO caps (g.set i .n)).zip l++((((g[i]?).getD .n,(l[i]?).join)::(pW caps g).zip (sY caps l))++R)) H;refine b.perm (gF _ ?_);rw[cT];exact fG
theorem DS.back:∀ {caps:Aa Nat}{cs:Aa Sl}{g:Aa Sl}{R:oF},cs.length=caps.length->g.length=j.length->DS K B (g.zip j++(cs.zip (sY caps j)++R)) H->DS K B ((rA caps cs g).zip j++R) H
 | [],[],g,R,_,a,h=>h
 | [],_::_,_,_,e,_,_=>by simp at e
 | _::_,[],_,_,e,_,_=>by simp at e
 | i::caps,s::cs,g,R,e,a,h=>by
  have b:DS K B (g.zip j++(s,(j[i]?).join)::(cs.zip (sY caps j)++R)) H:=h;exact DS.back (caps:=caps) (cs:=cs) (by simpa using e) (by rw[bW];exact a) (b.back1 a rfl)
theorem DL (g:Aa Nat):∀ (o:Aa Sl) (l:Aa Sl),o.length=g.length->g.Nodup->rA g o (qO g l)=rA g o l:=by
 have ext:∀ (g:Aa Nat) (o:Aa Sl) (l a:Aa Sl),o.length=g.length->l.length=a.length->(∀ j,j∉g->l[j]?=a[j]?)->rA g o l=rA g o a:=by
  intro g;induction g with
  | nil=>intro o l a _ _ h;cases o<;>exact jQ λj=>h j bD
  | cons i g c =>
   intro o l a e d h;cases o with
   | nil=>simp at e
   | cons s o =>
    show rA g o (l.set i s)=rA g o (a.set i s);refine c o _ _ (by simpa using e) (by simp[d]) λj b=>?_
    by_cases z:j=i
    .subst z;rw[List.getElem?_set,List.getElem?_set,d,aO rfl,aO rfl]
    .rw[eY (eJ z),eY (eJ z)];exact h j λq=>(aK.mp q).elim z b
 intro o l e _;refine ext g o _ _ e (Nf g l) λj b=>?_
 have:∀ (g:Aa Nat) (l:Aa Sl),j∉g->(qO g l)[j]?=l[j]?:=by
  intro g;induction g with
  | nil=>intro l _;rfl
  | cons i g c =>
   intro l b;show (qO g (l.set i .n))[j]?=_;rw[c _ (λz=>b (aQ _ z)),eY (λz=>b (by simp[z]))]
 exact this g l b
theorem Sn:∀ {g:Aa L2.D}{j:Aa V},g.length=j.length->(∀ p∈qW g j,uD K A H p.1 p.2)->Reps K A H g j
 | [],[],_,_=>.nil
 | [],_::_,e,_=>by simp at e
 | _::_,[],e,_=>by simp at e
 | c::g,y::j,e,key=>by
  obtain⟨u,b,r⟩:=key (.v c,some y) (by simp[qW]);cases b;exact .cons r (Sn (by simpa using e) λp a=>key p (by simp only[qW,cV,aP,aK] at a |-;exact .inr a))
theorem DS.forget {ρ:Aa Sl}(n:Nat) (g:ρ.length=σ.length) (j:n<=ρ.length) (h:DS K B (ρ.zip σ++R) H):DS K B ((List.replicate n Sl.n++ρ.drop n).zip σ++R) H:=by
 induction n generalizing ρ σ R with
 | zero=>simpa using h
 | succ n c =>
  cases ρ with
  | nil=>simp at j
  | cons r ρ =>
   cases σ with
   | nil=>simp at g
   | cons y σ =>
    have a:DS K B (ρ.zip σ++R) H:=DS.drop (L1:=[]) (x:=(r,y)) h;have b:=c (ρ:=ρ) (σ:=σ) (R:=R) (by simpa using g) (by simpa using j) a;rw[dB,cT,List.drop_succ_cons,cV];exact DS.pushN (L1:=[]) b y
end
def Mp:sL:=λ_ b a=>a true b
def vA (n:Nat) (j:Aa Nat) (I:wG) (g:uV) (C:sL) (p:nL):nL:=λk u t=>I k u λs f=>∃ Pv:Nat->Aa D->Aa Sl->Prop,Pv 0 [] (pW j f) /\
 (∀ i d e a,s[i]?=some d->a.length=j.length->Pv i e a->g d (List.replicate n Sl.n++a) λm=>C k m λb h=>if b=true then p k h λr q=>match sd r with
  | some c=>e.length<100000/\Pv (i+1) (e++[c]) (q.drop n)
  | none=>False
  else Pv (i+1) e (h.drop n)) /\
 ∀ e a,a.length=j.length->Pv s.length e a->t (.o (.l e)) (rA j a f)
section
variable {X:Cx}
theorem Dj:vV X [] (uO X.K Mp):=λa s f H Q I b=>b.elim λB e T h c hd d k=>E9 a s f H Q I (k true e H c hd d)
theorem Au (h:uL X c t):vV X [c] (uO X.K t):=M8 h
theorem Xk {T:Aa Af}{C:Aa Nat}{g:uV}{tt:sL}{te:nL}{K:mI}(ac:C.Nodup){σ:St}{H1:Hp}{Q:VK}{B:Bs}{I:Aa Sl}{Tm:oF}{Φ:Sl->Aa Sl->Prop}{J:It}{ds:Aa L2.D}{D:Ad}(l1:I.length=σ.length) (d1:DS K B (I.zip σ++Tm) H1)
  (hJ:∀ i U La M H,(∀ q∈Tm,q∈M)->DS K (nW B D U) (La++M) H->(i<ds.length->J.go i H)/\(i=ds.length->J.stop i H)/\∀ x H2,i<ds.length->J.yld i H x H2->∃ d,ds[i]?=some d/\DS K (nW B D U) (La++(.v d,some x)::M) H2)
  (ag:∃ Pv:Nat->Aa L2.D->Aa Sl->Prop,Pv 0 [] (pW C I) /\ (∀ i d U cs,ds[i]?=some d->cs.length=C.length->Pv i U cs->g d (List.replicate T.length Sl.n++cs) λaf=>tt B.dk af λb ab=>if b=true then te B.dk ab λr aa=>match sd r with
    | some c=>U.length<100000/\Pv (i+1) (U++[c]) (aa.drop T.length)
    | none=>False
    else Pv (i+1) U (ab.drop T.length)) /\
   ∀ U cs,cs.length=C.length->Pv ds.length U cs->Φ (.o (.l U)) (rA C cs I))
  (k:∀ r ae v H',ae.length=σ.length->DS K B (ae.zip σ++(r,some v)::Tm) H'->Φ r ae->Q v H') (hD:H1 D=none):B9 T C J (dG K T.length g) (uO K tt) (dE K te) σ H1 Q D:=by
 obtain⟨Pv,p0,step,fin⟩:=ag;obtain⟨f1,f2,f3⟩:=d1.free hD;refine⟨λi m U s H'=>m=ds.length-i/\i<=ds.length/\s.length=T.length+C.length/\(∀ j,T.length<=j->s[j]?=(tG T C σ)[j]?)/\∃ (h:Aa L2.D) (cs:Aa Sl),cs.length=C.length/\h.length=U.length /\ DS K (nW B D U) ((List.replicate T.length Sl.n++cs).zip s++((qO C I).zip σ++(qW h U++Tm))) H'/\Pv i h cs,?_,?_⟩
 .refine⟨_,rfl,cR _,by simp[tG],λ_ _=>rfl,[],pW C I,by simp[pW],rfl,?_,p0⟩;have h2:=(d1.lend ac l1).pin hD;have e:(List.replicate T.length Sl.n++pW C I).zip (tG T C σ)=List.replicate T.length (Sl.n,none)++(pW C I).zip (sY C σ):=by
   have:∀ n,(List.replicate n Sl.n++pW C I).zip (List.replicate n none++sY C σ)=List.replicate n (Sl.n,none)++(pW C I).zip (sY C σ):=by
    intro n;induction n with
    | zero=>rfl
    | succ n ih=>simp only[dB,cT,cV,ih]
   have W:tG T C σ=List.replicate T.length none++sY C σ:=by unfold tG sY;rw[List.map_const']
   rw[W];exact this _
  rw[e];have h3:DS K (nW B D []) ((pW C I).zip (sY C σ)++((qO C I).zip σ++Tm)) (upd H1 D (.l [])):=h2.perm (by
   rw[<- bP,<- bP (as:=(pW C I).zip (sY C σ))];exact List.perm_append_comm.append_right _)
  have:∀ n,DS K (nW B D []) (List.replicate n (Sl.n,none)++((pW C I).zip (sY C σ)++((qO C I).zip σ++Tm))) (upd H1 D (.l [])):=by
   intro n;induction n with
   | zero=>exact h3
   | succ n ih=>rw[dB];exact DS.pushN (L1:=[]) ih none
  have e3:qW ([]:Aa L2.D) ([]:Aa V)=[]:=rfl;rw[e3]
  simpa using this T.length
 .rintro i m U s H' ⟨rfl,hi,ls,fs,h,cs,G,z,N,pv⟩;obtain⟨j1,j2,j3⟩:=hJ i U _ _ H' (λq hq=>by simp[hq]) N;by_cases w:i<ds.length
  .refine .inr ⟨j1 w,λf v R=>f.length=T.length+C.length/\(∀ j,T.length<=j->f[j]?=(tG T C σ)[j]?)/\U.length<100000/\∃ (c:L2.D) (aa:Aa Sl),aa.length=f.length/\DS K (nW B D U) (aa.zip f++(.v c,some v)::((qO C I).zip σ++(qW h U++Tm))) R/\Pv (i+1) (h++[c]) (aa.drop T.length),λf P=>f.length=T.length+C.length/\(∀ j,T.length<=j->f[j]?=(tG T C σ)[j]?)/\∃ aa:Aa Sl,aa.length=f.length/\DS K (nW B D U) (aa.zip f++((qO C I).zip σ++(qW h U++Tm))) P/\Pv (i+1) h (aa.drop T.length),?_,?_,λx H2 y=>?_⟩
   .rintro f v R ⟨q1,q2,q3,c,aa,A,t,q6⟩;refine⟨t.pinAt f2,bI q3 (by decide),ds.length-(i+1),by omega,rfl,w,q1,q2,h++[c],aa.drop T.length,by rw[eK];omega,by simp[z],?_,q6⟩;have w1:=(t.pinW (ys':=U++[v]) f2).forget T.length A (by omega);refine w1.perm (gF _ ?_);have ev:qW (h++[c]) (U++[v])=qW h U++[(.v c,some v)]:=by unfold qW;rw[List.zip_append z,List.map_append];rfl
    rw[ev];have p1:((Sl.v c,some v)::((qO C I).zip σ++(qW h U++Tm))).Perm ((qO C I).zip σ++(qW h U++((Sl.v c,some v)::Tm))):=by
     rw[<- bP,<- bP (as:=(qO C I).zip σ)];exact fG.symm
    simpa using p1
   .rintro f P ⟨q1,q2,aa,A,t,q6⟩;exact⟨ds.length-(i+1),by omega,rfl,w,q1,q2,h,aa.drop T.length,by rw[eK];omega,z,t.forget T.length A (by omega),q6⟩
   .obtain⟨d,Z,d2⟩:=j3 x H2 w y;refine⟨nW B D U,_,_,d,_,by simp[G,ls],d2,step i d h cs Z G pv,λaf f H3 n1 n2 fr d3 q3=>⟨nW B D U,af,_,_,n1,d3,q3,λb ab P m1 d4 A=>?_⟩⟩;have F:∀ j,T.length<=j->f[j]?=(tG T C σ)[j]?:=λj O=>(fr j O).trans (fs j O)
    cases b with
    | false=>exact rY ⟨by omega,F,ab,m1,d4,(aJ (by decide)).mp A⟩
    | true =>
     refine (aO rfl).mpr ⟨nW B D U,ab,_,_,m1,d4,(aO rfl).mp A,λr aa v R m4 d5 t=>?_⟩;cases S:sd r with
     | none=>rw[S] at t;exact t.elim
     | some c =>
      rw[S] at t;exact⟨by omega,F,by rw[<- z];exact t.1,c,aa,m4,d5.thaw S,t.2⟩
  .have ei:i=ds.length:=by omega
   subst ei;refine .inl ⟨j2 rfl,?_⟩;have es:s=s.take T.length++sY C σ:=by
    apply jQ;intro j;by_cases O:j<T.length
    .rw[iW (by rw[bU];omega),List.getElem?_take_of_lt O]
    .rw[fB (by rw[bU];omega),bU,fs j (by omega)];have W:tG T C σ=List.replicate T.length none++sY C σ:=by unfold tG sY;rw[List.map_const']
     rw[W,fB (by rw[eP];omega),eP]
     congr 1
     omega
   have ez:(List.replicate T.length Sl.n++cs).zip s=(List.replicate T.length Sl.n).zip (s.take T.length)++cs.zip (sY C σ):=by
    conv=>lhs;rw[es]
    exact kQ (by rw[eP,bU];omega)
   have rr:Reps K (Al (nW B D U) (mJ ((rA C cs (qO C I)).zip σ++Tm))) H' h U/\DS K (nW B D U) ((rA C cs (qO C I)).zip σ++Tm) H':=by
    have g1:DS K (nW B D U) (cs.zip (sY C σ)++((qO C I).zip σ++(qW h U++Tm))) H':=by
     rw[ez,bP] at N;exact DS.rmE (L:=[]) (E:=(List.replicate T.length Sl.n).zip (s.take T.length)) N
    have g2:DS K (nW B D U) ((qO C I).zip σ++(cs.zip (sY C σ)++(qW h U++Tm))) H':=g1.perm (by
     rw[<- bP,<- bP (as:=(qO C I).zip σ)];exact List.perm_append_comm.append_right _)
    have g3:=g2.back G (by rw[Nf];exact l1);have Y:DS K (nW B D U) ((rA C cs (qO C I)).zip σ++(qW h U++Tm)) H':=g3;refine⟨?_,Y.rmE⟩;have er:mJ ((rA C cs (qO C I)).zip σ++(qW h U++Tm))=mJ ((rA C cs (qO C I)).zip σ++Tm):=by
     have:mJ (qW h U)=[]:=by
      refine hV.mpr λa ha=>?_
      obtain⟨q,hq,e⟩:=wC.mp ha;obtain⟨p,_,rfl⟩:=aN.mp hq;cases e
     rw[sV,sV,sV,this,gL]
    have key:∀ p∈qW h U,uD K (Al (nW B D U) (mJ ((rA C cs (qO C I)).zip σ++Tm))) H' p.1 p.2:=λp hp=>by
     have:=Y.ok p (by simp[hp]);rw[er] at this;exact this
    clear g1 g2 g3 Y er N ez es;revert key z;generalize Al (nW B D U) (mJ ((rA C cs (qO C I)).zip σ++Tm))=AA;intro z key;exact Sn z key
   have u:=DS.unpin rr.2 rr.1 f1 f2;rw[DL C cs I G ac] at u;exact k _ _ _ H' (by rw[Vb];exact l1) u.mid (fin h cs G pv)
theorem Ob {K:mI}(o:j.Nodup) (h:dE K (vA T.length j ι g U I) C H Q) :
  Bj T j (dI K ι) (dG K T.length g) (uO K U) (dE K I) C H Q:=by
 obtain⟨B,R,Tm,Φ,A,hd,G,k⟩:=h;refine⟨B,R,Tm,_,A,hd,G,λJ W S E V L d1 Y z D u=>Xk o (Tm:=E++Tm) L d1 (λi P s M H w d=>?_) z (λr c v m l d h=>k r c v m l (by
  have:DS K B ((c.zip C++[(r,some v)])++(E++Tm)) m:=by simpa using d
  simpa using this.rmE) h) u⟩
 have a:xW K (Al (nW B D P) (mJ (s++M))) H E:=λq F=>d.ok q (by simp[w q (by simp[F])])
 refine⟨λb=>Y.go i H _ b a,λb=>Y.stop i H _ b a,λx n b y=>?_⟩;obtain⟨t,e,alt⟩:=Y.yld i H _ x n b a y;refine⟨t,e,?_⟩;rcases alt with⟨rfl,O⟩ | ⟨p,Z,vs,f,rfl,rfl,rfl,N⟩
 .exact d.push O
 .exact d.tup f N
theorem oZ {iter:Expr}(T o:Aa Af) (r:Aa Nat) (hi:xF X tg iter ι)
  (hg:∀ p l C I J,vW (uF X (T++o) j I C p l J) T.length tg g)
  (he:∀ p l C I J,PD (uF X (T++o) j I C p l J) aa te)
  (ht:∀ p l C I J,vV (uF X (T++o) j I C p l J) ab (uO X.K tt):=by exact λ_ _ _ _ _=>Dj) (hc:X.calm=true:=by rfl) (hk:j.kind = .function:=by rfl) (ho:Fq X.N X.env.kindOf j T o r=true:=by rfl) (U:r.Nodup:=by decide) (hs:∀ x,foldedSetIterable iter X.env x=pure x:=by intro _;rfl):PD X (.ListComp aa [⟨tg,iter,ab,0⟩] j pos) (vA T.length r ι g tt te) :=
 (zY T o r hc hi hk ho hg ht he hs).mono λ_ _ _ h=>Ob U h
theorem Ax (i:Nat){iter:Expr}(T o:Aa Af) (I:Aa Nat) (hN:X.N.Nodup) (hi:xF X tg iter ι) (hg:∀ p l C J fp,vW (uF X (T++o) j J C p l fp) T.length tg g)
  (he:∀ p l C J fp,PD (uF X (T++o) j J C p l fp) U te)
  (ht:∀ p l C J fp,vV (uF X (T++o) j J C p l fp) ab (uO X.K tt):=by exact λ_ _ _ _ _=>Dj) (hc:X.calm=true:=by rfl) (hk:j.kind = .function:=by rfl) (ho:Fq X.N X.env.kindOf j T o I=true:=by rfl) (af:X.N[i]?=some x:=by rfl) (hx:xD X.env.scope x:=by first | exact Or.inl rfl | exact Or.inr rfl) (aa:I.Nodup:=by decide)
  (ag:swapsWith (.ListComp U [⟨tg,iter,ab,0⟩] j pos) (some (.Name x ac)) ae.line X.env=pure true:=by rfl)
  (hs:∀ x,foldedSetIterable iter X.env x=pure x:=by intro _;rfl)
  (hf:X.fn x=true\/X.env.scope.names.lookup x=some .local:=by first | exact .inl rfl | exact .inr rfl | assumption) :
  vB X (.Assign [.Name x ac] (.ListComp U [⟨tg,iter,ab,0⟩] j pos) ae) (qN i (vA T.length I ι g tt te)) :=
 (HU T o I hN af hx hc hi hk ho hg ht he ag hs hf).mono λn q H a=>a.elim λB h Tm m e hd ht f=>Ob aa ⟨B,h,Tm,_,e,hd,ht,λr k v c b d1 d=>(f.1 _ _ c (by rw[bW,bW];exact b) (bW ..) (d1.assign b i)).1 d⟩
end
section
variable {X:Cx}{K:mI}
theorem sE (h:Peeks K A H [d] g):∃ x,g=[x]/\nR K A H d x:=by
 cases h with | cons h r=>cases r;exact⟨_,rfl,h⟩
theorem Fe (h:Peeks K A H [d,e] j):∃ x y,j=[x,y]/\nR K A H d x/\nR K A H e y:=by
 cases h with | cons h r=>cases r with | cons g r=>cases r;exact⟨_,_,rfl,h,g⟩
def FF:D->Ab Nat
 | .l a=>some a.length
 | .t a=>some a.length
 | .con a=>some a.length
 | .c a=>some a.length
 | .str z=>some z.length
 | .k b=>some b.length
 | _=>none
def GL:OC:=λa b=>match a with
 | [d]=>Ni d=true/\∃ n,FF d=some n/\b (.v (.int n))
 | _=>False
def Qe (K:mI):Aa V->Hp->VK->Prop:=λc H Q=>(∃ p d,c=[.ref p]/\(mL K H p d\/nP K H p d)/\Q (.int d.length) H)\/(∃ z,c=[.str z]/\z.length<=sizeLine/\Q (.int z.length) H)\/∃ a b,c=[V.ref a]/\H a=some (.k b)/\Q (.int b.length) H
theorem qB:oI X (.builtin "len") (Qe X.K):=zC.or (Tu.or KW)
theorem qC:rZ K (Qe K) GL:=by
 intro B L H m t u Q hd q i k;cases m with
 | nil=>exact False.elim i
 | cons d m =>
 cases m with
 | cons _ _=>exact False.elim i
 | nil =>
 obtain⟨x,rfl,f⟩:=sE q;obtain⟨s,n,c,i⟩:=i;have fin:Q (.int n) H:=k _ _ H i (hd.pushF (.int _));cases d<;>first | (cases c;done) | skip
 .cases c;have:=f.str_inv;subst this;exact .inr (.inl ⟨_,rfl,B7 (cU s),fin⟩)
 .cases c;obtain⟨a,b,rfl,h,r⟩:=f.tup_inv;exact .inl ⟨a,b,rfl,.inr (nP.of h),by rw[<- r.length];exact fin⟩
 .cases c;obtain⟨a,b,rfl,h,r⟩:=f.lst_inv;exact .inl ⟨a,b,rfl,.inl (mL.of h),by rw[<- r.length];exact fin⟩
 .cases c;obtain⟨a,b,rfl,h,e,r⟩:=f.dK_inv;refine .inr (.inr ⟨a,b,rfl,h,?_⟩);have:=cG List.length e;rw[aA,aA] at this;rw[<- this];exact fin
 .cases c;obtain⟨a,b,rfl,h,r⟩:=f.scr_inv;exact .inl ⟨a,b,rfl,.inl h.sqL,by rw[<- r.length];exact fin⟩
 .cases c;obtain⟨a,b,rfl,h,r⟩:=f.con_inv;exact .inl ⟨a,b,rfl,.inr h.sqT,by rw[<- r.length];exact fin⟩
noncomputable def Bp:Aa D->Ab (Aa Int)
 | []=>some []
 | .int i::a=>(Bp a).map (i::·)
 | _=>none
theorem Ox:∀ (g:Aa Int),Bp (g.map D.int)=some g
 | []=>rfl
 | n::g=>by
  show (Bp (g.map D.int)).map (n::·)=_;rw[Ox g];rfl
theorem Od (h:Bp j=some l) (g:Reps K A H j o):o=l.map V.int:=by
 induction j generalizing l o with
 | nil=>cases g;cases h;rfl
 | cons d j b =>
  cases g with
  | cons r g =>
  cases d with
  | int i =>
   obtain⟨c,a,rfl⟩:=cL.mp h;rw[r.int_inv,b a g];rfl
  | _=>cases h
def SX:OC:=λb d=>match b with
 | [.l c]=>∃ a,Bp c=some a/\d (.v (.int a.sum))
 | _=>False
theorem M6:rZ K (λj H Q=>∃ (p:Ad) (g:Aa Int),j=[.ref p]/\mL K H p (g.map V.int)/\Q (.int g.sum) H) SX:=by
 intro B L H c j n Q hd f b k;cases c with
 | nil=>exact False.elim b
 | cons d c =>
 cases d<;>first | exact False.elim b | skip
 cases c with
 | cons _ _=>exact False.elim b
 | nil =>
 obtain⟨x,rfl,i⟩:=sE f;obtain⟨g,e,b⟩:=b;obtain⟨a,m,rfl,h,r⟩:=i.lst_inv;rw[Od e r] at h;exact⟨a,g,rfl,mL.of h,k _ _ H b (hd.pushF (.int _))⟩
def Lm:OC:=λd c=>match d with
 | [.l e]=>∃ b,Bp e=some b/\b≠[]/\∀ m:Int,m∈b->(∀ a∈b,m<=a)->c (.v (.int m))
 | [.int i,.int j]=>∀ m:Int,(m=i\/m=j)->m<=i->m<=j->c (.v (.int m))
 | _=>False
def HN:OC:=λd c=>match d with
 | [.l e]=>∃ b,Bp e=some b/\b≠[]/\∀ m:Int,m∈b->(∀ a∈b,a<=m)->c (.v (.int m))
 | [.int i,.int j]=>∀ m:Int,(m=i\/m=j)->i<=m->j<=m->c (.v (.int m))
 | _=>False
def Oj (K:mI):Aa V->Hp->VK->Prop:=λc H Q=>(∃ (p:Ad) (b:Aa Int),c=[.ref p]/\mL K H p (b.map V.int)/\b≠[]/\∀ m:Int,m∈b->(∀ a∈b,m<=a)->Q (.int m) H)\/∃ i j,c=[.int i,.int j]/\Q (.int (if j<i then j else i)) H
def Ps (K:mI):Aa V->Hp->VK->Prop:=λc H Q=>(∃ (p:Ad) (b:Aa Int),c=[.ref p]/\mL K H p (b.map V.int)/\b≠[]/\∀ m:Int,m∈b->(∀ a∈b,a<=m)->Q (.int m) H)\/∃ i j,c=[.int i,.int j]/\Q (.int (if j>i then j else i)) H
theorem PL (g:X.calm=true):oI X (.builtin "min") (Oj X.K):=(KA g).or (V3 g)
theorem Zn (g:X.calm=true):oI X (.builtin "max") (Ps X.K):=(AH g).or (DC g)
theorem AZ:rZ K (Oj K) Lm:=by
 intro B L H c A D Q hd n b k;cases c with
 | nil=>exact False.elim b
 | cons d c =>
 cases d<;>first | exact False.elim b | skip
 .cases c with
  | nil=>exact False.elim b
  | cons e c =>
  cases e<;>first | exact False.elim b | skip
  cases c with
  | cons _ _=>exact False.elim b
  | nil =>
  obtain⟨x,y,rfl,f,py⟩:=Fe n;have:=f.int_inv;have:=py.int_inv;subst_vars
  rename_i i j
  refine .inr ⟨_,_,rfl,?_⟩;by_cases z:j<i
  .rw[aO z];exact k _ _ H (b _ (.inr rfl) (by omega) (by omega)) (hd.pushF (.int _))
  .rw[aJ z];exact k _ _ H (b _ (.inl rfl) (by omega) (by omega)) (hd.pushF (.int _))
 .cases c with
  | cons _ _=>exact False.elim b
  | nil =>
  obtain⟨x,rfl,f⟩:=sE n;obtain⟨v,u,q,b⟩:=b;obtain⟨a,w,rfl,h,r⟩:=f.lst_inv;rw[Od u r] at h;exact .inl ⟨a,v,rfl,mL.of h,q,λm s t=>k _ _ H (b m s t) (hd.pushF (.int _))⟩
theorem DP:rZ K (Ps K) HN:=by
 intro B L H c A D Q hd n b k;cases c with
 | nil=>exact False.elim b
 | cons d c =>
 cases d<;>first | exact False.elim b | skip
 .cases c with
  | nil=>exact False.elim b
  | cons e c =>
  cases e<;>first | exact False.elim b | skip
  cases c with
  | cons _ _=>exact False.elim b
  | nil =>
  obtain⟨x,y,rfl,f,py⟩:=Fe n;have:=f.int_inv;have:=py.int_inv;subst_vars
  rename_i i j
  refine .inr ⟨_,_,rfl,?_⟩;by_cases z:j>i
  .rw[aO z];exact k _ _ H (b _ (.inr rfl) (by omega) (by omega)) (hd.pushF (.int _))
  .rw[aJ z];exact k _ _ H (b _ (.inl rfl) (by omega) (by omega)) (hd.pushF (.int _))
 .cases c with
  | cons _ _=>exact False.elim b
  | nil =>
  obtain⟨x,rfl,f⟩:=sE n;obtain⟨v,u,q,b⟩:=b;obtain⟨a,w,rfl,h,r⟩:=f.lst_inv;rw[Od u r] at h;exact .inl ⟨a,v,rfl,mL.of h,q,λm s t=>k _ _ H (b m s t) (hd.pushF (.int _))⟩
def Pd:D->Ab (Aa D)
 | .l a=>some a
 | .t a=>some a
 | .con a=>some a
 | .c a=>some a
 | _=>none
theorem OT (h:Pd d=some j) (p:nR K A H d x):∃ a g,x = .ref a/\(mL K H a g\/nP K H a g)/\Reps K A H j g:=by
 cases d<;>cases h
 .obtain⟨a,g,rfl,h,r⟩:=p.tup_inv;exact⟨a,g,rfl,.inr (nP.of h),r⟩
 .obtain⟨a,g,rfl,h,r⟩:=p.lst_inv;exact⟨a,g,rfl,.inl (mL.of h),r⟩
 .obtain⟨a,g,rfl,h,r⟩:=p.scr_inv;exact⟨a,g,rfl,.inl h.sqL,r⟩
 .obtain⟨a,g,rfl,h,r⟩:=p.con_inv;exact⟨a,g,rfl,.inr h.sqT,r⟩
def HZ:OC:=λb c=>match b with
 | [d]=>∃ a,Pd d=some a/\c (.o (.l a))
 | _=>False
theorem Lo:rZ K (λg H Q=>∃ p j,g=[.ref p]/\(mL K H p j\/nP K H p j)/\∀ l,H l=none->Q (.ref l) (upd H l (.l j))) HZ:=by
 intro B L H c g q Q hd f b k;cases c with
 | nil=>exact False.elim b
 | cons d c =>
 cases c with
 | cons _ _=>exact False.elim b
 | nil =>
 obtain⟨x,rfl,m⟩:=sE f;obtain⟨g,i,b⟩:=b;obtain⟨a,n,rfl,h,r⟩:=OT i m;exact⟨a,n,rfl,h,λl e=>k _ _ _ b (hd.lstF e r)⟩
def NS:OC:=λc b=>match c with
 | [.l a]=>b (.v (.t a))
 | [.t a]=>b (.v (.t a))
 | _=>False
theorem uZ:rZ K (λj H Q=>∃ p g,j=[.ref p]/\((mL K H p g/\∀ l,H l=none->Q (.ref l) (upd H l (.t g)))\/(nP K H p g/\Q (.ref p) H))) NS:=by
 intro B L H e j q Q hd m b k;cases e with
 | nil=>exact False.elim b
 | cons d e =>
 cases d<;>first | exact False.elim b | skip<;>cases e<;>first | exact False.elim b | skip
 .obtain⟨x,rfl,c⟩:=sE m;have f:=c;obtain⟨a,i,rfl,h,r⟩:=c.tup_inv;exact⟨a,i,rfl,.inr ⟨nP.of h,k _ _ _ b (hd.pushF f)⟩⟩
 .obtain⟨x,rfl,c⟩:=sE m;obtain⟨a,i,rfl,h,r⟩:=c.lst_inv;exact⟨a,i,rfl,.inl ⟨mL.of h,λl n=>k _ _ _ b (hd.tupF n r)⟩⟩
def vP:Aa D->Ab (Aa (gD×D))
 | []=>some []
 | .t [k,d]::a=>match tW k,vP a with
  | some k,some r=>some ((k,d)::r)
  | _,_=>none
 | _=>none
theorem Cm {l:Type}{f:l->D}{g:l->gD×D}(h:∀ x,∃ k,f x = .t [k,(g x).2]/\tW k=some (g x).1):∀ j:Aa l,vP (j.map f)=some (j.map g)
 | []=>rfl
 | x::j=>by
  obtain⟨k,a,b⟩:=h x;rw[aP,a];show (match tW k,vP (j.map f) with | some k,some r=>some ((k,(g x).2)::r) | _,_=>none)=_;rw[b,Cm h j];rfl
def qF (g more:Aa (gD×D)):Aa (gD×D):=more.foldl (λa b=>nM a b.1 b.2) g
theorem FH (h:vP l=some j) (o:Reps K A H l C):∃ (p:Aa Ad) (g:Aa (gD×V)),C=p.map V.ref/\Fj H p g/\j.map (·.1)=g.map (·.1)/\Reps K A H (j.map (·.2)) (g.map (·.2)):=by
 induction l generalizing j C with
 | nil=>cases o;cases h;exact⟨[],[],rfl,.nil,rfl,.nil⟩
 | cons d l t =>
  cases o with
  | cons r o =>
  cases d<;>first | (cases h;done) | skip
  rename_i x
  rcases x with _ | ⟨k,_ | ⟨e,_ | ⟨_,_⟩⟩⟩<;>first | (cases h;done) | skip
  .have h:=(show (match tW k,vP l with | some k,some r=>some ((k,e)::r) | _,_=>none)=some j from h);cases c:tW k with
   | none=>rw[c] at h;cases h
   | some u =>
    cases f:vP l with
    | none=>rw[c,f] at h;cases h
    | some y =>
     rw[c,f] at h;cases h;obtain⟨a,z,rfl,s,b⟩:=r.tup_inv;obtain⟨p,g,i,m,n,q⟩:=t f o;cases b with
     | cons v b =>
      cases b with
      | cons w b =>
       cases b;have:=En c v.peek;subst this;exact⟨a::p,(u,_)::g,by rw[i];rfl,.cons s m,by rw[aP,aP,n],.cons w q⟩
theorem J7:∀ {more:Aa (gD×D)}{mv:Aa (gD×V)}{kvs:Aa (gD×D)}{vs:Aa (gD×V)},more.map (·.1)=mv.map (·.1)->Reps K A H (more.map (·.2)) (mv.map (·.2))->kvs.map (·.1)=vs.map (·.1)->Reps K A H (kvs.map (·.2)) (vs.map (·.2)) ->
  (qF kvs more).map (·.1)=(sZ vs mv).map (·.1)/\Reps K A H ((qF kvs more).map (·.2)) ((sZ vs mv).map (·.2))
 | [],[],_,_,_,_,e,r=>⟨e,r⟩
 | [],_::_,_,_,e,_,_,_=>by simp at e
 | _::_,[],_,_,e,_,_,_=>by simp at e
 | (k,d)::more,(j,v)::mv,kvs,vs,a,b,e,r=>by
  simp only[aP,iF] at a;obtain⟨rfl,a⟩:=a;cases b with
  | cons h b =>
   obtain⟨c,f⟩:=Gy e r (k:=k) h;exact J7 (more:=more) (mv:=mv) a b c f
def AG:OC:=λc b=>match c with
 | [.k a]=>b (.o (.k a))
 | [.l d]=>∃ a,vP d=some a/\a.length<=1000/\b (.o (.k (qF [] a)))
 | _=>False
def Uy (K:mI):Aa V->Hp->VK->Prop:=λe H Q=>(∃ (a:Ad) (b:Aa (gD×V)),e=[.ref a]/\H a=some (.k b)/\∀ p,H p=none->Q (.ref p) (upd H p (.k b))) \/
 ∃ (p:Ad) (c:Aa Ad) (b:Aa (gD×V)),e=[.ref p]/\mL K H p (c.map V.ref)/\Fj H c b/\b.length<=1000/\∀ d,H d=none->Q (.ref d) (upd H d (.k (sZ [] b)))
theorem uU (g:X.calm=true):oI X (.type "dict") (Uy X.K):=LB.or (RW g)
theorem uS:rZ K (Uy K) AG:=by
 intro B L H i E F Q hd c b k;cases i with
 | nil=>exact False.elim b
 | cons d i =>
 cases d<;>first | exact False.elim b | skip<;>cases i<;>first | exact False.elim b | skip
 .obtain⟨x,rfl,n⟩:=sE c;obtain⟨w,v,D,b⟩:=b;obtain⟨a,s,rfl,h,r⟩:=n.lst_inv;obtain⟨A,f,rfl,t,q,u⟩:=FH v r;obtain⟨y,z⟩:=J7 (kvs:=[]) (vs:=[]) q u rfl .nil;have m:f.length<=1000:=by
   have:=cG List.length q;simp only[aA] at this;omega
  exact .inr ⟨a,A,f,rfl,mL.of h,t,m,λp c=>k _ _ _ b (hd.dKF c y z)⟩
 .obtain⟨x,rfl,n⟩:=sE c;obtain⟨a,s,rfl,h,e,r⟩:=n.dK_inv;exact .inl ⟨a,s,rfl,h,λp c=>k _ _ _ b (hd.dKF c e r)⟩
def Nw:OC:=λc a=>match c with
 | [.int i]=>a (.v (.int i))
 | [.b b]=>a (.v (.int (if b then 1 else 0)))
 | _=>False
theorem HP:rZ K (λg H Q=>(∃ i,g=[.int i]/\Q (.int i) H)\/∃ k,g=[.b k]/\Q (.int (if k then 1 else 0)) H) Nw:=by
 intro B L H c g h Q hd f a k;cases c with
 | nil=>exact False.elim a
 | cons d c =>
 cases d<;>first | exact False.elim a | skip<;>cases c<;>first | exact False.elim a | skip
 .obtain⟨x,rfl,e⟩:=sE f;have:=e.bl_inv;subst this;exact .inr ⟨_,rfl,k _ _ H a (hd.pushF (.int _))⟩
 .obtain⟨x,rfl,e⟩:=sE f;have:=e.int_inv;subst this;exact .inl ⟨_,rfl,k _ _ H a (hd.pushF (.int _))⟩
def Z8:OC:=λa b=>match a with
 | [.int i]=>i.natAbs.log2<1920/\b (.v (.str (toString i)))
 | _=>False
theorem CD:rZ K (λg H Q=>∃ i,g=[.int i]/\i.natAbs.log2<1920/\Q (.str (toString i)) H) Z8:=by
 intro B L H b g f Q hd c a k;cases b with
 | nil=>exact False.elim a
 | cons d b =>
 cases d<;>first | exact False.elim a | skip<;>cases b<;>first | exact False.elim a | skip
 obtain⟨x,rfl,e⟩:=sE c;have:=e.int_inv;subst this;exact⟨_,rfl,a.1,k _ _ H a.2 (hd.pushF (.str _))⟩
noncomputable def At:Aa D->Ab (Aa Bool)
 | []=>some []
 | .b b::a=>(At a).map (b::·)
 | _=>none
theorem Mf:∀ (g:Aa Bool),At (g.map D.b)=some g
 | []=>rfl
 | n::g=>by rw[aP,At,Mf g];rfl
theorem AI (h:At g=some j) (r:Reps K A H g l):l=j.map V.b:=by
 induction g generalizing j l with
 | nil=>cases r;simp only[At,lJ] at h;subst h;rfl
 | cons d g c =>
  cases r with
  | cons r e =>
  cases d with
  | b i =>
   simp only[At,cL] at h;obtain⟨f,a,rfl⟩:=h;rw[r.bl_inv,c a e];rfl
  | _=>simp[At] at h
def KZ:OC:=λa d=>match a with
 | [.l c]=>∃ bs,At c=some bs/\d (.v (.b (bs.all id)))
 | _=>False
theorem W2:rZ K (Sj K) KZ:=by
 intro B L H e s t Q hd i c k;cases e with
 | nil=>exact False.elim c
 | cons d e =>
  cases e with
  | cons _ _=>cases d<;>exact False.elim c
  | nil =>
   cases d<;>first | exact False.elim c | skip
   obtain⟨x,rfl,n⟩:=sE i;obtain⟨m,f,c⟩:=c;obtain⟨a,q,rfl,h,r⟩:=n.lst_inv;rw[AI f r] at h;exact⟨a,m,rfl,mL.of h,k _ _ H c (hd.pushF (.b _))⟩
end
def He (T:String):D->Bool
 | .str _=>T == "str"
 | .l _=>T == "list"
 | .c _=>T == "list"
 | .k _=>T == "dict"
 | _=>false
section
variable {X:Cx}{K:mI}
theorem Na (h:He T d=true) (p:nR K A H d x):Gq K T x H:=by
 cases d<;>first | (cases h;done) | skip
 all_goals (have h:=eq_of_beq h;subst h)
 .have:=p.str_inv;subst this;rfl
 .obtain⟨a,b,rfl,h,r⟩:=p.lst_inv;exact .inl ⟨rfl,b,mL.of h⟩
 .obtain⟨a,b,rfl,h,e,r⟩:=p.dK_inv;exact .inr (.inr (.inl ⟨rfl,.inl ⟨b,h⟩⟩))
 .obtain⟨a,b,rfl,h,r⟩:=p.scr_inv;exact .inl ⟨rfl,b,h.sqL⟩
abbrev OM:=D->Aa D->(Sl->Prop)->Prop
abbrev RM:=V->Aa V->Hp->VK->Prop
def Ik (K:mI) (r:RM) (f:OM):Prop:=∀ (B:Bs) (L:oF) (H:Hp) (d:D) (b:Aa D) (x:V) (c:Aa V) (e:Sl->Prop) (Q:VK),DS K B L H->nR K (Al B (mJ L)) H d x->Peeks K (Al B (mJ L)) H b c->f d b e ->
 (∀ s v a,e s->DS K B ((s,some v)::L) a->Q v a)->r x c H Q
def dM (T:String) (f:OM) (j:nL) (g:uK):nL:=λc i h=>j c i λr b=>match sd r with
 | some d=>He T d=true/\g c b λas a=>match vK a as with
  | some e=>f d e λs=>h s a
  | none=>False
 | none=>False
def SA (T:String) (f:OM) (i:Nat) (g:uK):nL:=λc b h=>(match at? b i with | some d=>He T d=true | none=>False)/\g c b λas a=>match at? a i,vK a as with
 | some d,some e=>f d e λs=>h s a
 | _,_=>False
variable {id:String}
theorem DU (pa:PlainAttrs T) (slot:Slot T name id) (j:typeOf (.builtin id)=pure (.type "method_descriptor")) (J:xT X id r) (I:Ik X.K r f) (U:PD X o to) (p:tP X (e::l) ta)
  (C:MtB X o name apos e l g:=by exact {}) :
  PD X (.Call (.Attribute o name apos) (e::l) [] g) (dM T f to ta) :=
 (zE pa slot j J U p C).mono λA H Q q=>q.elim λB R Tm V F hd L k=>⟨B,R,Tm,_,F,hd,L,λt w x S M d1 c=>by
  cases b:sd t with
  | none=>rw[b] at c;exact c.elim
  | some d =>
   rw[b] at c;refine⟨Na c.1 (d1.one b).2.peek,B,w,(t,some x)::Tm,_,M,d1,c.2,λas a u i z ok d2 h=>?_⟩;cases m:vK a as with
   | none=>rw[m] at h;exact h.elim
   | some y =>
    rw[m] at h;have E:=d2.rmArgs;obtain⟨N,O⟩:=E.one b;have P:=((show DS X.K B (a.zip A++(tZ as u++Tm)) i from by
     have:DS X.K B ((a.zip A++tZ as u)++(t,some x)::Tm) i:=by simpa using d2
     simpa using (this.one b).1).argsP z ok y m).1
    exact I B _ i d y x u _ Q N O.peek P h λs v D G n=>k s a v D z n.mid G⟩
theorem ID (pa:PlainAttrs T) (slot:Slot T name id) (j:typeOf (.builtin id)=pure (.type "method_descriptor")) (J:xT X id r) (I:Ik X.K r f) (U:PE X o (pX i)) (p:tP X (e::l) ta)
  (C:MtB X o name apos e l g:=by exact {}) :
  PD X (.Call (.Attribute o name apos) (e::l) [] g) (SA T f i ta) :=
 (zE pa slot j J U p C).mono λW H Q u=>u.elim λB F Tm V D hd ⟨m,N⟩ k=>by
  cases n:at? F i with
  | none=>rw[n] at m;exact m.elim
  | some R =>
   rw[n] at m;obtain⟨x,E,O⟩:=hd.peek D n;refine⟨x,E,Na m O,B,F,Tm,_,D,hd,N,λas a P L w ok d2 b=>?_⟩;cases h:at? a i with
   | none=>rw[h] at b;exact b.elim
   | some d =>
    cases q:vK a as with
    | none=>rw[h,q] at b;exact b.elim
    | some A =>
     rw[h,q] at b;have z:=d2.rmArgs;obtain⟨S,c,y⟩:=z.peek w h;rw[E] at c;cases c;exact I B _ L d A x P _ Q z y (d2.argsP w ok A q).1 b λs v G M t=>k s a v G w t.mid M
abbrev OW:=D->Aa D->(D->D->Prop)->Prop
def Dm (K:mI) (r:RM) (f:OW):Prop:=∀ (A:Ad->Prop) (H:Hp) (a:Ad) (c:D) (h:Aa D) (i:Aa V) (k:D->D->Prop) (Q:VK),¬ A a->pU K A H a c->Reps K A H h i->f c h k ->
 (∀ d v o e,k d e->Rep K A H d v->(∀ b,Kp A b H (upd H a o)->pU K b (upd H a o) a e)->Q v (upd H a o))->r (.ref a) i H Q
def dW (T:String) (f:OW) (i:Nat) (g:uK):nL:=λh b m=>(match at? b i with | some d=>He T d=true | none=>False)/\g h b λas a=>match a[i]?,Ap as with
 | some (.o c),some k=>f c k λd e=>m (.v d) (a.set i (.o e))
 | _,_=>False
theorem SI {f:OW}(C:Dm X.K r f){g:St}{H:Hp}{Q:VK}(h:dE X.K (dW T f i ta) g H Q):pX i g H λx l=>Gq X.K T x l/\dA X.K ta g l λxs j=>r x xs j Q:=by
 obtain⟨B,Y,Tm,Φ,S,hd,⟨A,J⟩,k⟩:=h;cases F:at? Y i with
 | none=>rw[F] at A;exact A.elim
 | some d0 =>
  rw[F] at A;obtain⟨x,t,px⟩:=hd.peek S F;refine⟨x,t,Na A px,B,Y,Tm,_,S,hd,J,λas e vs j D ok d2 b=>?_⟩;cases m:e[i]? with
  | none=>rw[m] at b;exact b.elim
  | some s =>
   cases s with
   | n=>rw[m] at b;exact b.elim
   | v c=>rw[m] at b;exact b.elim
   | o c =>
    cases G:Ap as with
    | none=>rw[m,G] at b;exact b.elim
    | some P =>
     rw[m,G] at b;have O:=d2.temps ok P G;have Z:=d2.rmArgs;obtain⟨a,R,W,wr⟩:=Z.slotW D m;rw[t] at R;cases R;obtain⟨u,U,tu⟩:=W.some;have V:¬ Al B (mJ (e.zip g++Tm)) a:=λz=>z.2.1 (by
      obtain⟨l1,y,N,w,_,L,_⟩:=wK D m;rw[t] at w;cases w;rw[L,bP,cT,sO];exact aT _ aH)
     refine C _ j a c P vs _ Q V W O b λd v o E M rd I=>k _ _ v _ (by rw[bW];exact D) ?_ M
     refine (wr o E I).push ?_;have p:mJ ((e.set i (.o E)).zip g++Tm)=mJ (e.zip g++Tm):=by
      obtain⟨l1,y,N,w,_,L,q⟩:=wK D m;rw[t] at w;cases w;have:=q (.o E) (some (.ref a));rw[Bh t] at this;rw[this,L,bP,bP,cT,cT,sO,sO];rfl
     rw[p];exact rd.mono (.write U tu V)
theorem rC {f:OW}(pa:PlainAttrs T) (slot:Slot T name id) (j:typeOf (.builtin id)=pure (.type "method_descriptor")) (J:xT X id r) (I:Dm X.K r f) (U:PE X o (pX i)) (p:tP X (e::l) ta)
  (C:MtB X o name apos e l g:=by exact {}) :
  PD X (.Call (.Attribute o name apos) (e::l) [] g) (dW T f i ta):=(zE pa slot j J U p C).mono λ_ _ _ h=>SI I h
noncomputable def MA:OW:=λc b f=>match c,b with
 | .l a,[d]=>a.length<100000/\f .e (.l (a++[d]))
 | _,_=>False
theorem tR:Dm K Nc MA:=by
 intro A H a c q s t Q _ i rd b k;cases c<;>first | exact False.elim b | skip
 cases rd with
 | nil=>exact False.elim b
 | cons f rd =>
 cases rd with
 | cons _ _=>exact False.elim b
 | nil =>
 .obtain⟨m,h,r⟩:=i
  .refine⟨a,m,_,rfl,rfl,h,bI (by rw[<- r.length];exact b.1) (by decide),k _ _ _ _ b.2 .e λn d=>⟨_,mX,(r.append (.cons f .nil)).mono d⟩⟩
def ER:OW:=λc b d=>match c,b with
 | .l a,[.int i]=>∃ k y,-(2 ^ 63)<=i/\i<2 ^ 63/\seqIndex? i a.length=some k/\a[k]?=some y/\d y (.l (a.eraseIdx k))
 | _,_=>False
theorem Gh:Dm K Pz ER:=by
 intro A H a c z B D Q _ t rd b k;cases c<;>first | exact False.elim b | skip
 cases rd with
 | nil=>exact False.elim b
 | cons s rd =>
 rename_i d _ _ _
 cases d<;>first | exact False.elim b | skip
 cases rd with
 | cons _ _=>exact False.elim b
 | nil =>
 .obtain⟨w,h,r⟩:=t
  .have:=s.int_inv;subst this;obtain⟨j,y,e,f,i,m,b⟩:=b;obtain⟨v,n,u⟩:=r.get m;exact⟨a,w,_,j,v,rfl,rfl,h,e,f,by rw[<- r.length];exact i,n,k _ _ _ _ b u λx q=>⟨_,mX,(r.erase j).mono q⟩⟩
def RK:D->Bool
 | .k _=>true
 | .T _=>true
 | _=>false
def FU (i:Nat) (ty g:nL):nL:=λc e m=>(match at? e i with | some d=>RK d=true | none=>False)/\ty c e λf b=>g c b λh a=>match at? a i,sd f,sd h with
 | some d,some k,some x=>∃ o,xK d k=some o/\m (.v (o.getD x)) a
 | _,_,_=>False
theorem uX (U:X.A.units+1<cLine) (l:PE X o (pX i)) (I:PD X k ty) (J:PD X x tx) (m:M2 X o "get" apos k x j:=by exact⟨rfl,rfl,rfl,rfl⟩):PD X (.Call (.Attribute o "get" apos) [k,x] [] j) (FU i ty tx) :=
 (RQ U l I J m).mono λσ H Q E=>E.elim λB W Tm Φ N hd ⟨t,T⟩ k=>by
  cases u:at? W i with
  | none=>rw[u] at t;exact t.elim
  | some Z =>
   rw[u] at t;obtain⟨x,O,R⟩:=hd.peek N u;obtain⟨a,rfl,F⟩:∃ a,x = .ref a/\Kz H a:=by
    cases Z<;>first | (cases t;done) | skip
    .obtain⟨a,L,rfl,h,e,r⟩:=R.dK_inv;exact⟨a,rfl,.inl ⟨L,.inl h⟩⟩
    .obtain⟨a,L,rfl,h,e,r⟩:=R.dT_inv;exact⟨a,rfl,.inr ⟨L,h⟩⟩
   refine⟨.ref a,O,a,rfl,F,B,W,Tm,_,N,hd,T,λV M y H1 l1 d1 C=>⟨B,M,(V,some y)::Tm,_,l1,d1,C,λrx q z Y P d2 b=>?_⟩⟩;cases f:at? q i with
   | none=>rw[f] at b;exact b.elim
   | some d =>
    cases s:sd V with
    | none=>rw[f,s] at b;exact b.elim
    | some kk =>
     cases D:sd rx with
     | none=>rw[f,s,D] at b;exact b.elim
     | some xx =>
      rw[f,s,D] at b;obtain⟨oo,l,b⟩:=b;obtain⟨S,q2,q3⟩:=d2.two s D;obtain⟨x',n,G⟩:=S.peek P f;rw[O] at n;cases n;obtain⟨a',w,p,g,g1,g2⟩:=My l G q2.peek;cases p;refine⟨w,g,k _ q _ Y P (S.push ?_) b⟩;cases oo with
      | none=>rw[g2 rfl];exact q3
      | some c=>obtain⟨v,rfl,rv⟩:=g1 c rfl;exact rv
def Gf:Aa D->Ab (Aa Af)
 | []=>some []
 | .str b::a=>(Gf a).map (b::·)
 | _=>none
theorem Jw:∀ (g:Aa Af),Gf (g.map D.str)=some g
 | []=>rfl
 | n::g=>by
  show (Gf (g.map D.str)).map (n::·)=_;rw[Jw g];rfl
theorem Oo (h:Gf j=some l) (g:Reps K A H j o):o=l.map V.str:=by
 induction j generalizing l o with
 | nil=>cases g;cases h;rfl
 | cons d j b =>
  cases g with
  | cons r g =>
  cases d with
  | str i =>
   obtain⟨c,a,rfl⟩:=cL.mp h;rw[r.str_inv,b a g];rfl
  | _=>cases h
noncomputable def DV:OM:=λd a b=>match d,a with
 | .str z,[.str y]=>y.length≠0/\z.length<=1000000/\b (.o (.l ((Txt.split z y).map D.str)))
 | _,_=>False
theorem Hd:∀ (g:Aa Af),Reps K A H (g.map D.str) (g.map V.str)
 | []=>.nil
 | y::g=>.cons (.str y) (Hd g)
theorem JR:Ik K Tr DV:=by
 intro B L H d b x i m Q hd h f a k;cases d<;>first | exact False.elim a | skip
 cases b with
 | nil=>exact False.elim a
 | cons e b =>
  cases b with
  | cons _ _=>cases e<;>exact False.elim a
  | nil =>
   cases e<;>first | exact False.elim a | skip
   obtain⟨y,rfl,py⟩:=sE f;have:=h.str_inv;have:=py.str_inv;subst_vars;exact⟨_,_,rfl,rfl,a.1,a.2.1,λp c=>k _ _ _ a.2.2 (hd.lstF c (Hd _))⟩
def Ym:OM:=λd b f=>match d,b with
 | .l c,[e]=>∃ a v j,rK c=some a/\rP e=some v/\j<a.length/\(∀ z,a[j]?=some z->qI z v=true)/\(∀ (m:Nat) z,m<j->a[m]?=some z->qI z v=false)/\f (.v (.int j))
 | _,_=>False
theorem JH:Ik K (Tw K) Ym:=by
 intro B L H d c x F G Q hd A z b k;cases d<;>first | exact False.elim b | skip
 cases c with
 | nil=>exact False.elim b
 | cons e c =>
  cases c with
  | cons _ _=>exact False.elim b
  | nil =>
   obtain⟨y,rfl,py⟩:=sE z;obtain⟨E,v,j,q,s,t,u,w,b⟩:=b;obtain⟨a,D,rfl,h,r⟩:=A.lst_inv;obtain⟨f,i⟩:=Jv q r;obtain⟨m,n⟩:=Ic s py;subst f m;exact⟨a,D,y,j,rfl,rfl,mL.of h,i,n,t,u,w,k _ _ H b (hd.pushF (.int _))⟩
end
section
variable {X:Cx}
theorem mP (o:X.A.units+1<cLine) (i:Nat) (j:PD X b p) (g:PE X a (pX i):=by exact pv _) (l:Np b:=by exact λ_ _=>rfl):PD X (.Subscript a b pos) (yQ Oy i p) :=
 (qQ (Rw o) g j l).mono λ_ _ _ h=>Fu Ua h
end
section
variable {X:Cx}{K:mI}
theorem AL (l:X.calm=true):oI X (.builtin "min") (λg H Q=>∃ i j k,g=[.int i,.int j,.int k]/\∀ m:Int,(m=i\/m=j\/m=k)->m<=i->m<=j->m<=k->Q (.int m) H):=by
 intro f s A H g F Q I r h;obtain⟨i,j,k,rfl,q⟩:=h;cases r with
 | cons y r =>
  obtain⟨v,u,rfl,⟨D,rfl⟩,⟨E,rfl⟩⟩:=Ba r;obtain⟨B,rfl⟩:=y;refine min_three_ints (I.ok.hd l) λw z x=>?_
  have fin:∀ (m:Int) (t:Tok),(m=i\/m=j\/m=k)->m<=i->m<=j->m<=k->EP X f A Q (.int m t) { s with heap:=w,toks:=z }:=λm t a b c d=>⟨.int m,H,I.kept x,⟨t,rfl⟩,q m a b c d⟩
  by_cases n:j<i
  .rw[aO n];by_cases e:k<j
   .rw[aO e];exact fin _ _ (.inr (.inr rfl)) (by omega) (by omega) (by omega)
   .rw[aJ e];exact fin _ _ (.inr (.inl rfl)) (by omega) (by omega) (by omega)
  .rw[aJ n];by_cases e:k<i
   .rw[aO e];exact fin _ _ (.inr (.inr rfl)) (by omega) (by omega) (by omega)
   .rw[aJ e];exact fin _ _ (.inl rfl) (by omega) (by omega) (by omega)
def L4 (K:mI):Aa V->Hp->VK->Prop:=λa H Q=>Oj K a H Q\/∃ i j k,a=[.int i,.int j,.int k]/\∀ m:Int,(m=i\/m=j\/m=k)->m<=i->m<=j->m<=k->Q (.int m) H
theorem Mb (g:X.calm=true):oI X (.builtin "min") (L4 X.K):=(PL g).or (AL g)
def MG:OC:=λa b=>match a with
 | [.int i,.int j,.int k]=>∀ m:Int,(m=i\/m=j\/m=k)->m<=i->m<=j->m<=k->b (.v (.int m))
 | a=>Lm a b
theorem Nj:rZ K (L4 K) MG:=by
 intro B L H i n q Q hd h f k;have two:Lm i q->L4 K n H Q:=λf=>.inl (AZ B L H _ n q Q hd h f k)
 rcases i with _ | ⟨d,_ | ⟨e,_ | ⟨g,_ | ⟨_,_⟩⟩⟩⟩
 .exact two f
 .cases d<;>exact two f
 .cases d<;>first | exact two f | (cases e<;>exact two f)
 .cases d<;>first | exact two f | skip
  cases e<;>first | exact two f | skip
  cases g<;>first | exact two f | skip
  cases h with
  | cons s h =>
   obtain⟨x,y,rfl,t,py⟩:=Fe h;have:=s.int_inv;have:=t.int_inv;have:=py.int_inv;subst_vars;exact .inr ⟨_,_,_,rfl,λm a b c d=>k _ _ H (f m a b c d) (hd.pushF (.int _))⟩
 .cases d<;>first | exact two f | (cases e<;>first | exact two f | (cases g<;>exact two f))
noncomputable def Lk:D->Ab String
 | .e=>some "NoneType"
 | .b _=>some "bool"
 | .int _=>some "int"
 | .str _=>some "str"
 | .l _=>some "list"
 | .t _=>some "tuple"
 | .k _=>some "dict"
 | _=>none
theorem IT (h:Lk d=some n) (p:nR K A H d x):TyOf K H x (.type n):=by
 cases d<;>simp only[Lk,reduceCtorEq,lJ] at h<;>subst h
 .have:=p.non_inv;subst this;exact .e
 .have:=p.bl_inv;subst this;exact .b _
 .have:=p.int_inv;subst this;exact .int _
 .have:=p.str_inv;subst this;exact .str _
 .obtain⟨a,c,rfl,h,r⟩:=p.tup_inv;exact .t h
 .obtain⟨a,c,rfl,h,r⟩:=p.lst_inv;exact .l h
 .obtain⟨a,c,rfl,h,e,r⟩:=p.dK_inv;exact .k h
def JJ (K:mI):OC:=λa e=>match a with
 | [d,.r (.ty c)]=>∃ n b,Lk d=some n/\PySem.W.kitOne K (.type n) (.type c)=some b/\e (.v (.b b))
 | _=>False
theorem We:rZ K (Rv K) (JJ K):=by
 intro B L H c q s Q hd i a k;cases c with
 | nil=>exact False.elim a
 | cons d c =>
  cases c with
  | nil=>exact False.elim a
  | cons e c =>
   cases e<;>first | exact False.elim a | skip
   rename_i v
   cases v<;>first | exact False.elim a | skip
   cases c with
   | cons _ _=>exact False.elim a
   | nil =>
    obtain⟨x,y,rfl,m,py⟩:=Fe i;obtain⟨n,b,f,h,a⟩:=a;have:=py.raw_inv;subst this;exact⟨x,_,_,_,b,rfl,rfl,IT f m,h,k _ _ H a (hd.pushF (.b _))⟩
theorem S3 (g:Gl X x) (j:X.mg x=none) (o:bootBuiltins x=some (.type n)) (l:x ≠ "__name__" := by decide) (hd:(x == ("__debug__" : Af))=false:=by decide):PD X (.Name x pos) (cd (.r (.ty n))) :=
 Ec (Zv (v:=.ty n) g j o rfl l hd) λ_ _ _=>.r _
end
end L2
namespace PySem
open PyProof.Rows L2
abbrev zU (h:Ag) (z TI TO T:Ad) (f:Bool):Prop:=h.get? z=some { cls:=.type "zip",dict:=none,data:=.fields #[rawInt T,.bool f,.bool false,.ref TI,.ref TO],slots:=#[] }
section
theorem CZ (j:s.heap.get? a=some o) (h:Q (some o) s):wpAny (model g w) A (loadIfAlive a) Q E s:=λ_ _ _=>by
 show Q (s.heap.get? a) s;rw[j];exact h
theorem Y4 {TI TO:Ad}(g:zU s.heap z TI TO T f) (p:s.heap.get? T=some r) (l:∀ j,zU j z TI TO T true->Heap.SameBut z s.heap j->Q false { s with heap:=j }) :
  wpAny (model o w) A (Builtin.SmallTypes.ownedTupleIsFree (.ref z)) Q E s:=by
 unfold Builtin.SmallTypes.ownedTupleIsFree;refine aB (eO g rfl (x:=rawInt T) rfl ?_);show wpAny _ _ (loadIfAlive ((T:Int).toNat) >>= _) _ _ _;rw[bT];refine aB (CZ p ?_);simp only[Option.isNone_some,eC,gC];refine aB (eO g rfl (x:=.bool f) rfl ?_);cases f with
 | true =>
  rw[aJ (show ¬ ((Value.bool true != Value.bool true)=true) from bC)];exact aI (l _ g (Heap.SameBut.refl _ _))
 | false =>
  rw[aO (show (Value.bool false != Value.bool true)=true from rfl)];exact aB (iD g (by simp) λc b a=>aI (l _ b a))
def Qd (g:Ah) (w:World) (A:Around) (a b:Ac) (Q:Fin->Ae->Prop) (E:Ac->Ae->Prop) (s:Ae):Prop :=
 wpAny (model g w) A (Builtin.SmallTypes.nextOf a) (λx c=>wpAny (model g w) A (Builtin.SmallTypes.nextOf b) (λy d=>wpAny (model g w) A (newTuple [x,y]) (λt e=>Q (.done (.ret t)) e) E d) E c) E s
theorem Vh {TI TO:Ad}(p:zU s.heap z TI TO T f) (r:s.heap.get? T=some C) (o:IsPair s.heap TI a b)
  (go:∀ l,zU l z TI TO T true->Heap.SameBut z s.heap l->Qd j w A a b Q E { s with heap:=l }) :
  wpAny (model j w) A (Builtin.«zip.__next__» ⟨[.ref z],[]⟩) Q E s:=by
 have c:wpAny (model j w) A (Builtin.SmallTypes.ownedTupleIsFree (.ref z)) (λx d=>x=false/\Qd j w A a b Q E d) E s :=
  Y4 p r λl e k=>⟨rfl,go l e k⟩
 unfold Builtin.«zip.__next__»;refine aB (aI (aB (eO p rfl (x:=.bool false) rfl (aB (eO p rfl (x:=.ref TI) rfl (aB (fP o rfl ?_)))))));refine aB (mV c ?_);rintro _ d ⟨rfl,g⟩;simp only[aJ bC,<- Array.forIn_toList,kM,List.forIn_nil,bind_assoc];refine aB (cD (aB (mV g λx h g1=>aI (aB (aI ?_)))));refine aB (aB (cD (aB (mV g1 λy i g2=>aI (aB (aI (aI ?_)))))));exact aB (mV g2 λt m g3=>aI g3)
def Eo (h:Ag) (z TI TO g j:Ad):Prop:=IsPair h TI (.ref g) (.ref j)/\(∃ a b,IsPair h TO a b)/\(IsZip h z TI TO .none\/∃ T f o,zU h z TI TO T f/\h.get? T=some o/\T≠z/\T≠TO/\T≠g/\T≠j)
end
theorem RR:typeLookup (.type "zip") "keys" = pure none:=am_miss_of_fast (by decide +kernel)
theorem LJ:entryFor table "zip.__getattribute__" = some Builtin.«object.__getattribute__»:=entryFor_alias (id' := "object.__getattribute__") (by kernel_rfl) (by decide +kernel) (by decide +kernel) (by kernel_rfl)
theorem QH:typeLookup (.type "zip") "__getattr__" = pure none:=am_miss_of_fast (by decide +kernel)
theorem JT {sl:Array (Ab Ac)}
  (l:s.heap.get? a=some { cls:=.type "zip",dict:=none,data:=.fields fs,slots:=sl }) (q:Q .missing s):wpAny (model g w) A (Builtin.ObjectAttr.find (.ref a) (.type "zip") "keys") Q E s:=by
 have own:wpAny (model g w) A (Builtin.ObjectAttr.inOwnDict "keys" (.ref a)) (λr b=>r=none/\b=s) E s :=
  aB (aB (wpAny_loadPart l (aB (wpAny_loadPart l (aI (aI ⟨rfl,rfl⟩))))))
 have guard:wpAny (model g w) A (Builtin.ObjectAttr.copiedAttributeGuard "keys" (.ref a)) (λ_ b=>b=s) E s:=by
  have no:¬ (([Str.ofString "__module__",Str.ofString "__name__",Str.ofString "__qualname__",Str.ofString "__doc__",Str.ofString "__annotations__"]:Aa Af).contains (Str.ofString "keys")=true):=by decide +kernel
  simp only[Builtin.ObjectAttr.copiedAttributeGuard,aJ no];exact aI rfl
 unfold Builtin.ObjectAttr.find;rw[RR];refine aB (aI (aB (aI (aB (aI (aB (mV own ?_)))))));rintro _ _ ⟨rfl,rfl⟩;refine aB (mV guard ?_);rintro _ _ rfl;exact aB (lV (aI q))
theorem AU (a:Ad) (fs:Array Ac) (sl:Array (Ab Ac)) (u:Tok):Meets (Builtin.«object.__getattribute__» ⟨[.ref a,.str "keys" u],[]⟩) (λA R s=>s.heap.get? a=some { cls:=.type "zip",dict:=none,data:=.fields fs,slots:=sl }/\raisesAttr (.ref a) "keys" A R s) :=
 Meets.of_wp λb w A R s h=>by
  obtain⟨l,calm,c⟩:=h;have f:s.TypeIs (.ref a) "zip" := ⟨_,l,rfl⟩;unfold Builtin.«object.__getattribute__»;refine aB (aI (aB (aI (aB (fH f (aB (JT l ?_)))))));have named:wpAny (model b w) A.in1 (typeNameOfCut 100 (.ref a)) (λn d=>n = "zip" /\ d=s) (λe d=>R (.error e) d) s :=
   aB (aB (fH f (aI (aI ⟨by decide +kernel,rfl⟩))))
  show wpAny _ _ (Builtin.ObjectAttr.noSuchAttribute (.ref a) "keys") _ _ _;unfold Builtin.ObjectAttr.noSuchAttribute;refine aB (mV named ?_);rintro _ _ ⟨rfl,rfl⟩;exact wpAny_raiseAttrError calm c (by decide +kernel)
section
theorem GX {sl:Array (Ab Ac)}
  (l:s.heap.get? a=some { cls:=.type "zip",dict:=none,data:=.fields fs,slots:=sl }) (calm:A.handled=none) (j:∀ o p e,Heap.NewAttrErr s.heap o e (.ref a) "keys" -> E (.ref e) { s with heap:=o,toks:=p }) :
  wpAny (model g w) A (boundAndCalled (.builtin "zip.__getattribute__") (.ref a) (.str "keys" u)) Q E s:=by
 have ask:wpAny (model g w) A (call (.builtin "zip.__getattribute__") [.ref a,.str "keys" u]) Q E s :=
  iA jL ⟨_,l,rfl⟩ LJ (F.args_zip_getattribute_2 _ _) (AU a fs sl u) ⟨l,calm,j⟩
 unfold boundAndCalled;rw[jL.bind (.ref a)];exact aB (aI ask)
theorem EA (t:s.TypeIs (.ref e) "AttributeError") (j:E (.ref e) s) :
  wpAny (model g w) A (getattributeRaised o name (.type "zip") (.ref e) none false false) Q E s:=by
 have last:wpAny (model g w) A (hookOrError o name (.ref e) false false none) Q E s:=aB (wpAny_throw j);have a:hookBehind (.type "zip") none=pure none:=QH;unfold getattributeRaised;refine aB (dU t jE ?_);rw[aO rfl,a];exact aB (aI last)
theorem GO {sl:Array (Ab Ac)}
  (l:s.heap.get? a=some { cls:=.type "zip",dict:=none,data:=.fields fs,slots:=sl }) (calm:A.handled=none) (C:∀ j p e,Heap.NewExcOf s.heap j e "AttributeError" -> Q none { s with heap:=j,toks:=p }) :
  wpAny (model g w) A (getAttr? (.ref a) "keys") Q E s:=by
 have c:∀ j p e,Heap.NewAttrErr s.heap j e (.ref a) "keys" -> (∃ o,j.get? e=some o/\o.cls = .type "AttributeError")/\Q none { s with heap:=j,toks:=p }:=λj p e x=>by
  obtain⟨_,_,y⟩:=x.there;exact⟨⟨_,y,rfl⟩,C j p e x.of⟩
 let d:Ae:={ s with toks:=s.toks+1 };let b:Except Ac Ac->Ae->Prop:=λr i=>wpAny (model g w) A (match r with | .ok v=>pure (some v) | .error e=>do if <- isInstance e (.type "AttributeError") then pure none else throw e) Q E i
 have look:wpAny (model g w) A (getAttrBy (.ref a) (.str "keys" s.toks) false) (λv=>b (.ok v)) (λe=>b (.error e)) d:=by
  refine cD (aB (fH (T := "zip") ⟨_,l,rfl⟩ (aB (hX jL.lookup ?_))));have own:wpAny (model g w) A (getAttrByItsOwn (.ref a) (.str "keys" s.toks) (.type "zip") (.builtin "zip.__getattribute__") false false) (λv=>b (.ok v)) (λe=>b (.error e)) d:=by
   refine aB (aI (aB (fJ (cD (GX (s:=d) l calm λj p e x=>?_)))));obtain⟨⟨o,f,h⟩,q⟩:=c j p e x;exact EA ⟨o,f,h⟩ (aB (dU (T := "AttributeError") ⟨o,f,h⟩ jE (aI q)))
  exact own
 exact aB (wpAny_mkText (aB (fJ look)))
end
section
variable {K:Type} [DecidableEq K] {R:Result->Ae->Prop}
theorem IW {TI TO:Ad}(t:s.TypeIs (.ref d) "dict") (l:IsZip s.heap z TI TO .none) (calm:A.handled=none)
  (r:∀ j o e,Heap.NewExcOf s.heap j e "AttributeError" -> Q (.again (.builtin "dict.update.loop" ⟨[.ref d,.ref z,.int 0 0,.none],[]⟩)) { s with heap:=j,toks:=o }) :
  wpAny (model g w) A (Builtin.«dict.__init__» ⟨[.ref d,.ref z],[]⟩) Q E s:=by
 have first:wpAny (model g w) A (Builtin.Dict.selfAndRest "__init__" ⟨[.ref d,.ref z],[]⟩) (λp c=>p=(d,[Value.ref z])/\c=s) E s:=aB (jX t (aI ⟨rfl,rfl⟩))
 have a:wpAny (model g w) A (Builtin.Dict.updateFrom "dict.__init__" d (.ref z) [] .none) Q E s:=by
  refine aB (fH (T := "zip") ⟨_,l,rfl⟩ ?_);rw[aO (by decide)];refine aB (GO l calm λj o e x=>?_);have b:IsZip j z TI TO .none:=x.keeps _ _ l;exact aB (lV (aB (wpAny_pyIter_zip b (aI (r j o e x)))))
 exact aB (cO first (λp c q=>by obtain⟨rfl,rfl⟩:=q;exact a) λ_ _ q=>q)
end
end PySem
namespace L2
open PySem PySem.Spec PyProof.Rows Lw
section
variable {X:Cx}
theorem R4:∀ (g:Aa gD){j:Aa V}{l:Aa Ac},mY j l->KV (g.zip j) (g.zip l)
 | [],_,_,_=>.nil
 | k::g,_,_,.nil=>.nil
 | k::g,_,_,.cons h r=>.cons ⟨rfl,h⟩ (R4 g r)
end
def yN:Aa D->Ab (Aa gD)
 | []=>some []
 | d::a=>match tW d,yN a with
  | some k,some b=>some (k::b)
  | _,_=>none
section
variable {X:Cx}{K:mI}
theorem FX (h:yN g=some j) (l:Reps K A H g o):o=j.map kV:=by
 induction g generalizing j o with
 | nil=>cases l;cases h;rfl
 | cons d g c =>
  cases l with
  | cons r l =>
  have h:=(show (match tW d,yN g with | some k,some j=>some (k::j) | _,_=>none)=some j from h);cases a:tW d with
  | none=>rw[a] at h;cases h
  | some k =>
   cases b:yN g with
   | none=>rw[a,b] at h;cases h
   | some e =>
    rw[a,b] at h;cases h;rw[c b l,En a r.peek];rfl
theorem keysL_strs:∀ (g:Aa Af),yN (g.map D.str)=some (g.map Sum.inr)
 | []=>rfl
 | x::g=>by
  show (match some (Sum.inr x:gD),yN (g.map D.str) with | some k,some a=>some (k::a) | _,_=>none)=_;rw[keysL_strs g];rfl
theorem Qf:∀ (g:Aa gD){j:Aa D}{l:Aa V}{A:Ad->Prop}{H:Hp},Reps K A H j l->(g.zip j).map (·.1)=(g.zip l).map (·.1)/\Reps K A H ((g.zip j).map (·.2)) ((g.zip l).map (·.2))
 | [],_,_,_,_,_=>⟨rfl,.nil⟩
 | k::g,_,_,_,_,.nil=>⟨rfl,.nil⟩
 | k::g,_,_,_,_,.cons h r=>by
  obtain⟨a,b⟩:=Qf g r;exact⟨by simp[a],.cons h b⟩
end
def Ez (lo c:Int) (n:Nat):It:=⟨λi _=>i<n,λi H x a=>a=H/\x = .int (lo+i*c),λi _=>n<=i⟩
theorem Y7 {P:Ah}{K:mI}(g:Ad) (lo c:Int) (n:Nat):Turn P w K j (Ez lo c n) [g] g (λi h=>IsRangeIter h g (lo+(i:Nat)*c) ((n:Int)-(i:Nat)) c) where
 mem:=by simp
 obj:=λi h st b d=>by
  have e:b=g:=by simpa using d
  subst e;exact⟨_,st,λv z=>by
   have R:Data.fields _=Data.cell v:=z;cases R⟩
 keep:=λi h m st k=>k g (by simp) _ st
 item:=by
  intro X B hw A D i a s L H E I q st F;subst B hw A;obtain⟨f0,f1,f2,u,x,y⟩:=q g (by simp);have W:=Walks.range (prog:=X.prog) (w:=X.w) (I.ok.hd D) g lo c n;refine W.item i s _ _ F st λv m G O f Q=>?_
  obtain⟨t,rfl⟩:=O;have M:Inv X a L H { s with heap:=m,toks:=G }:=I.turned (λb o d e=>Q b o (by simpa using d) e) f0 f1 u x y;exact⟨_,rfl,By (s:={ s with heap:=m,toks:=G }) (n := "range_iterator") f rfl rfl (by decide) ⟨.int (lo+i*c),H,M,⟨t,rfl⟩,⟨rfl,rfl⟩,f,λb d=>(q b d).1⟩⟩
 done:=by
  intro X B hw A D i a s L H E I q st F;subst B hw A;obtain⟨f0,f1,f2,u,x,y⟩:=q g (by simp);exact wpAny_pyNext_range_end (I.ok.hd D) st (by have:n<=i:=F;omega) λm N=>⟨rfl,I.turned (t':=s.toks) (λb o d e=>N b o d e) f0 f1 u x y⟩
 self:=λ_ _ _ _ _ st h=>wpAny_pyIter_rangeiter st h
section
variable {X:Cx}
def xN (lo g c:Int):Nat:=if lo<g then ((g-lo-1)/c+1).toNat else 0
def EL (g:TA):TI:=λd H R=>g d H λb a=>∃ i j c:Int,b=[.int i,.int j,.int c]/\(0<=i/\i<=100000/\0<=j/\j<=100000/\0<c/\c<=100000)/\R (Ez i c (xN i j c)) a
theorem AQ (l:Gl X "range") (r:X.mg "range" = none) (j:PA X [a,b,c] J) (C:starEach [a,b,c] X.env=(false,eval a X.env)::starEach [b,c] X.env:=by rfl) (g:(backTo pos (starEach [b,c] X.env)).any (·.1)=false:=by rfl) :
  PI X T (.Call (.Name "range" p) [a,b,c] [] pos) (EL J):=by
 intro f s y H R I h;refine Call_ (yJ I l r boot_range (cY (mV (j pos f s y H _ I h) λV i w=>?_) C g));obtain⟨W,x,z,F,E⟩:=w;obtain⟨lo,d,c,rfl,⟨M,N,O,P,n,Q⟩,q⟩:=E;cases F with
 | cons G k =>
  cases k with
  | cons K k =>
   cases k with
   | cons L k =>
    cases k;obtain⟨t,rfl⟩:=G;obtain⟨u,rfl⟩:=K;obtain⟨v,rfl⟩:=L;refine call_range_3 (by omega) ?_ (.inl (PyProof.noPylong_small (by omega)));refine wpAny_pyIter_range (IsRange.new ..) ?_ ?_
    .have S:0<=Builtin.Range.rangeSize lo d c/\Builtin.Range.rangeSize lo d c<=100001:=by
      unfold Builtin.Range.rangeSize;rw[aO (show c>0 from n)];split
      .have Y:=lZ (show 0<=d-lo-1 by omega) (show 0<=c by omega);have Z:=Int.ediv_le_self c (show 0<=d-lo-1 by omega);omega
      .omega
     unfold Builtin.Range.small;simp only[Builtin.Range.rangeFitsLong,cJ,mB,fE,iM,aO (show c>0 from n)];omega
    .have m:Inv X f y x { i with heap:=i.heap.push { cls:=.type "range",data:=.fields #[.int lo t,.int d u,.int c v] },toks:=i.toks }:=z.kept λb o e=>aG _ e
     refine⟨(i.heap.push { cls:=.type "range",data:=.fields #[.int lo t,.int d u,.int c v] }).objs.size,[(i.heap.push { cls:=.type "range",data:=.fields #[.int lo t,.int d u,.int c v] }).objs.size],_,_,x,rfl,
      m.kept (t':=i.toks) λb o e=>aG _ e,Y7 _ lo c (xN lo d c),?_,λb D=>?_,q⟩
     .have A:lo+((0:Nat):Int)*c=lo:=by simp
      have B:((xN lo d c:Nat):Int)-((0:Nat):Int)=Builtin.Range.rangeSize lo d c:=by
       unfold xN Builtin.Range.rangeSize;rw[aO (show c>0 from n)];split
       .have:=lZ (show 0<=d-lo-1 by omega) (show 0<=c by omega);omega
       .rfl
      show IsRangeIter _ _ (lo+((0:Nat):Int)*c) (((xN lo d c:Nat):Int)-((0:Nat):Int)) c;rw[A,B];exact bA _ rfl
     .have e:b=(i.heap.push { cls:=.type "range",data:=.fields #[.int lo t,.int d u,.int c v] }).objs.size:=by simpa using D
      subst e;exact m.fpOk (aU _) (m.hok.fresh (aU _))
end
section
variable {X:Cx}{K:mI}
noncomputable def xZ (lo c:Int) (n:Nat):Aa D:=(List.range n).map λ(i:Nat)=>D.int (lo+i*c)
theorem Y2 {lo c:Int}{n:Nat}:YD K (Ez lo c n) (xZ lo c n) [] where
 vals:=rfl
 go:=λi H A a _=>by simpa [Ez,xZ] using a
 yld:=λi H A x d a _ y=>by
  have b:i<n:=by simpa [xZ] using a
  refine⟨.int (lo+i*c),by simp[xZ,b],.inl ⟨y.1,?_⟩⟩;rw[y.2];exact .int _
 stop:=λi H A a _=>by simp[Ez,xZ,a]
def R9 (g l o:nL):wG:=λa m k=>g a m λr d=>l a d λh e=>o a e λb f=>match r,h,b with
 | .v (.int i),.v (.int j),.v (.int c)=>(0<=i/\i<=100000/\0<=j/\j<=100000/\0<c/\c<=100000)/\k (xZ i c (xN i j c)) f
 | _,_,_=>False
theorem Tx (J:Gl X "range") (U:X.mg "range" = none) (o:PD X a ta) (C:PD X b tb) (I:PD X c tc) (hs:starEach [a,b,c] X.env=(false,eval a X.env)::starEach [b,c] X.env:=by rfl) (l:(backTo pos (starEach [b,c] X.env)).any (·.1)=false:=by rfl)
  (hn:yO a=true:=by rfl) (g:yO b=true:=by rfl) (j:yO c=true:=by rfl):xF X tg (.Call (.Name "range" p) [a,b,c] [] pos) (R9 ta tb tc) :=
 (AQ J U (nA o (nA C (nA I nK j) g) hn) hs l).mono λσ H R e=>e.elim λB V T Z F hd G k=>⟨B,V,T,_,F,hd,G,λr h v W L d1 D=>⟨B,h,(r,some v)::T,_,L,d1,D,λq i u Y M d2 E=>⟨B,i,(q,some u)::(r,some v)::T,_,M,d2,E,λf m w s N n d=>by
  cases r<;>first | exact False.elim d | skip
  rename_i x
  cases x<;>first | exact False.elim d | skip
  cases q<;>first | exact False.elim d | skip
  rename_i x
  cases x<;>first | exact False.elim d | skip
  cases f<;>first | exact False.elim d | skip
  rename_i x
  cases x<;>first | exact False.elim d | skip
  have O:=n.valAt;have t:=n.drop;obtain⟨P,Q,S⟩:=t.two rfl rfl;have y:=O.int_inv;have z:=Q.int_inv;have A:=S.int_inv;subst y z A;exact⟨_,_,_,rfl,d.1,k _ _ m [] s N P Y2 d.2⟩⟩⟩⟩
end
def Lq (K:mI) (a:Ad):It :=
 ⟨λi H=>∃ b x,mL K H a b/\b[i]?=some x,λi H v c=>∃ p x,H p=none/\v = .ref p/\c=upd H p (.t [.int i,x])/\∀ b,mL K H a b->b[i]?=some x,λi H=>∃ b,mL K H a b/\b.length<=i⟩
def QN (a e g:Ad) (i:Nat) (h:Ag):Prop:=(∃ old,IsEnum h e g i old)/\h.IsListIter g a i
theorem TB {P:Ah}{K:mI}(g:e≠it) :
  Turn P w K (.Tuple j x1 pos) (Lq K a) [e,it] e (QN a e it) where
 mem:=by simp
 obj:=λi h st c m=>by
  obtain⟨⟨old,d⟩,⟨o4,f,c4,p⟩⟩:=st;simp only[aK,bD,eZ] at m;rcases m with e | e<;>subst e
  .exact⟨_,d,λv z=>nomatch z⟩
  .exact⟨_,f,λv z=>by rw[p] at z;cases z⟩
 keep:=λi h R st k=>by
  obtain⟨⟨old,d⟩,f⟩:=st;exact⟨⟨old,k e (by simp) _ d⟩,f.at λo q=>k it (by simp) o q⟩
 item:=by
  intro X B hw A m i n s σ H E I t st D;subst B hw A;obtain⟨⟨old,d⟩,f⟩:=st;obtain⟨xs,x,u,W⟩:=D;obtain⟨G,N,L,_⟩:=I.list u;obtain⟨Q,F,M⟩:=N.get W;refine wpAny_pyNext_enum_item d f L.isList (x:=Q) (by simpa using F) g λR T U Y n4 n5=>?_
  refine⟨_,rfl,wpAny_letOwnedTupleGo_enum T λS J y=>?_⟩;have C:∀ c o,c∉[e,it]->s.heap.get? c=some o->S.get? c=some o:=λc o b q=>by
   simp only[aK,bD,eZ,mH] at b;exact y.extBut c o b.1 (n5 c o b.1 b.2 q)
  have Z:s.heap.objs.size≠e:=λq=>eT _ (by have:=aZ d;rw[<- q] at this;exact this)
  have nt:yI S s.heap.objs.size [.int i s.toks,Q].toArray:=⟨⟨_,y.extBut _ _ Z Y,rfl,_,rfl⟩,_,y.extBut _ _ Z Y,rfl⟩;have l:=I.movedT (t':=s.toks+1) (ys:=[.int i,x]) t C nt (.cons ⟨_,rfl⟩ (.cons M .nil)) (by show 2<=sizeLine;decide);refine⟨.ref s.heap.objs.size,_,l,rfl,⟨_,x,I.fresh,rfl,rfl,λaa q'=>by rw[I.list_inj q' u];exact W⟩,⟨⟨Q,?_⟩,?_⟩,λc b=>?_⟩
  .have:((i+1:Nat):Int)=(i:Int)+1:=by omega
   rw[this];exact J
  .exact U.at λo q=>y.extBut _ o (eJ g) q
  .rw[mT]
   .exact (t c b).1
   .intro q;obtain⟨o,r⟩:∃ o,s.heap.get? c=some o:=by
     obtain⟨o4,O,_⟩:=f;simp only[aK,bD,eZ] at b;rcases b with q | q<;>rw[q]
     .exact⟨_,d⟩
     .exact⟨_,O⟩
    have:=aZ r;rw[q] at this;exact eT _ this
 done:=by
  intro X B hw A m i n s σ H E I t st D;subst B hw A;obtain⟨⟨old,d⟩,f⟩:=st;obtain⟨xs,u,V⟩:=D;obtain⟨G,N,L,_⟩:=I.list u;have lx:=N.length;refine wpAny_pyNext_enum_end (I.ok.hd m) d f L.isList (by simp;omega) λR k=>⟨rfl,I.moved (t':=s.toks) t λc o b q=>?_⟩
  simp only[aK,bD,eZ,mH] at b;exact k c o b.2 q
 self:=λ_ _ _ _ _ st h=>by
  obtain⟨⟨old,d⟩,f⟩:=st;exact wpAny_pyIter_enum d h
section
variable {X:Cx}{K:mI}
def JD (K:mI) (g:TA):TI:=λe H R=>g e H λc b=>∃ a,c=[.ref a]/\(∃ d,mL K b a d)/\R (Lq K a) b
theorem HI (l:Gl X "enumerate") (o:X.mg "enumerate" = none) (j:PA X [e] C) (r:starEach [e] X.env=[(false,eval e X.env)]:=by rfl) :
  PI X (.Tuple g T J) (.Call (.Name "enumerate" p) [e] [] pos) (JD X.K C):=by
 intro b s t H R I h;refine Call_ (yJ I l o boot_enumerate (cY (mV (j pos b s t H _ I h) λM f i=>?_) r rfl));obtain⟨N,k,d,E,B⟩:=i;obtain⟨a,rfl,⟨O,D⟩,q⟩:=B;obtain⟨u,rfl,F⟩:=rF E;cases F;obtain⟨x,L,A,_⟩:=d.list D;refine call_enumerate_list A.isList λw n y G z=>?_
 have v:Inv X b t k { f with heap:=w }:=d.kept (t':=f.toks) z;refine wpAny_pyIter_enum n ⟨_,[_,_],_,_,k,rfl,v,TB (a:=a) (e:=f.heap.objs.size+1) (it:=f.heap.objs.size) (Nat.succ_ne_self _),⟨⟨_,n⟩,y⟩,λc m=>?_,q⟩;simp only[aK,bD,eZ] at m;rcases m with e | e<;>(subst e;exact d.fpOk (by omega) (d.hok.fresh (by omega)))
def Be (g:Aa D):Aa D:=(List.range g.length).zipWith (λi d=>D.t [.int (i:Nat),d]) g
theorem R6 {g:Aa D}{i:Nat}{d:D}(h:g[i]?=some d):(Be g)[i]?=some (.t [.int i,d]):=by
 obtain⟨a,rfl⟩:=aL.mp h;unfold Be;simp[a]
theorem Kd:(Be g).length=g.length:=by simp[Be]
theorem GW:YD K (Lq K a) (Be g) [(.v (.l g),some (.ref a))]:=by
 have key:∀ A H,xW K A H [(.v (.l g),some (.ref a))]->∃ b,mL K H a b/\Reps K A H g b:=λA H ok=>by
  obtain⟨v,e,r⟩:=ok _ aH;cases e;obtain⟨q,b,e,_,c,f⟩:=r.lst_inv;cases e;exact⟨b,mL.of c,f⟩
 refine⟨rfl,λi H A h ok=>?_,λi H A x n h ok y=>?_,λi H A h ok=>?_⟩
 .obtain⟨b,c,f⟩:=key A H ok;rw[Kd] at h;exact⟨b,b[i]'(by rw[<- f.length];exact h),c,aE _⟩
 .obtain⟨b,c,f⟩:=key A H ok;obtain⟨p,z,k,rfl,rfl,m⟩:=y;obtain⟨d,hd,rd⟩:=f.getV (m b c);exact⟨_,R6 hd,.inr ⟨p,_,_,k,rfl,rfl,rfl,.cons (.int _) (.cons rd .nil)⟩⟩
 .obtain⟨b,c,f⟩:=key A H ok;rw[Kd] at h;exact⟨b,c,by rw[<- f.length];omega⟩
def JV (g:nL):wG:=λb e d=>g b e λr a=>match sd r with
 | some (.l c)=>d (Be c) a
 | _=>False
theorem BM (o:Gl X "enumerate") (C:X.mg "enumerate" = none) (j:PD X e U) (J:starEach [e] X.env=[(false,eval e X.env)]:=by rfl) (I:yO e=true:=by rfl) :
  xF X (.Tuple g x1 ps) (.Call (.Name "enumerate" p) [e] [] pos) (JV U) :=
 (HI o C (nA j nK I) J).mono λA H R f=>f.elim λB w T z n hd q k=>⟨B,w,T,_,n,hd,q,λr h v i s d1 b=>by
  cases c:sd r with
  | none=>rw[c] at b;exact b.elim
  | some d =>
   rw[c] at b;have d2:=d1.thaw c;have t:=d2.valAt;cases d with
   | l y=>obtain⟨a,u,rfl,_,m,x⟩:=t.lst_inv;exact⟨a,rfl,⟨u,mL.of m⟩,k _ _ h [_] i s d2 GW b⟩
   | _=>exact b.elim⟩
end
end L2
namespace Lw
open PySem L2
abbrev nB:=Aa (Af×Int)
abbrev zV:=Aa (Af×Af×Aa Af)
noncomputable def gV (t:nB):Aa (gD×D):=t.map λp=>(Sum.inr p.1,D.int p.2)
noncomputable def look (t:nB) (x:Af):Int:=match t.find? (λp=>decide (p.1=x)) with
 | some p=>p.2
 | none=>0
theorem wM:look (p::t) x=if p.1=x then p.2 else look t x:=by
 unfold look;rw[dF];by_cases h:p.1=x<;>simp[h]
theorem tX:∀ (t:nB) (x:Af),(x∈t.map (·.1)->mR (gV t) (Sum.inr x)=some (.int (look t x)))/\(x∉t.map (·.1)->mR (gV t) (Sum.inr x)=none/\look t x=0)
 | [],x=>⟨λh=>by simp at h,λ_=>⟨rfl,rfl⟩⟩
 | p::t,x=>by
  have a:=tX t x;have e:gV (p::t)=(Sum.inr p.1,D.int p.2)::gV t:=rfl;rw[e,xE,wM];by_cases h:p.1=x
  .subst h;exact⟨λ_=>by rw[aO rfl,aO rfl],λn=>absurd (by simp) n⟩
  .have b:(Sum.inr p.1:gD)≠Sum.inr x:=λq=>h (fY q)
   rw[aJ b,aJ h];refine⟨λm=>a.1 ?_,λm=>a.2 λq=>m (by simp only[aP,aK];exact .inr q)⟩;simp only[aP,aK] at m;exact m.resolve_left λq=>h q.symm
theorem vS (t:nB) (x:Af):(mR (gV t) (Sum.inr x)).getD (.int 0) = .int (look t x):=by
 by_cases h:x∈t.map (·.1)
 .rw[(tX t x).1 h];rfl
 .rw[((tX t x).2 h).1,((tX t x).2 h).2];rfl
theorem Z2 (h:x∉t.map (·.1)):nM (gV t) (Sum.inr x) (.int n)=gV (t++[(x,n)]):=by
 unfold nM;rw[Gc,((tX t x).2 h).1];simp[gV]
theorem Ou:∀ (u t:nB),((t++u).map (·.1)).Nodup->qF (gV t) (gV u)=gV (t++u)
 | [],t,_=>by simp[qF,gV]
 | p::u,t,h=>by
  have a:p.1∉t.map (·.1):=λq=>by
   rw[aM] at h;exact (bE.mp h).2.2 p.1 q p.1 (by simp) rfl
  have e:qF (gV t) (gV (p::u))=qF (nM (gV t) (Sum.inr p.1) (.int p.2)) (gV u):=rfl;rw[e,Z2 a,Ou u (t++[p]) (by simpa using h)];simp
theorem xL (h:(t.map (·.1)).Nodup):qF [] (gV t)=gV t:=by
 have:=Ou t [] (by simpa using h)
 simpa [gV] using this
end Lw
namespace L2
open PySem PySem.Spec PyProof.Rows Lw
section
variable {X:Cx}{K:mI}
theorem RL:oI X (.type "int") (λg H Q=>∃ (x:Af) (n:Int),g=[.str x]/\intText? x=some n/\x.length<=640/\Q (.int n) H):=by
 intro a s k H g i Q I r h;obtain⟨x,n,rfl,c,d,q⟩:=h;obtain⟨u,rfl,f⟩:=rF r;obtain⟨t,rfl⟩:=f;exact PySem.W.KIN.call_text c d ⟨.int n,H,I.kept (t':=s.toks+1) λb o e=>e,⟨_,rfl⟩,q⟩
def JW:OC:=λa b=>match a with
 | [.str x]=>∃ n,intText? x=some n/\x.length<=640/\b (.v (.int n))
 | a=>Nw a b
def Nr:Aa V->Hp->VK->Prop:=λa H Q=>((∃ i,a=[.int i]/\Q (.int i) H)\/∃ k,a=[.b k]/\Q (.int (if k then 1 else 0)) H)\/∃ (x:Af) (n:Int),a=[.str x]/\intText? x=some n/\x.length<=640/\Q (.int n) H
theorem A6:oI X (.type "int") Nr:=JL.or RL
theorem Bd:rZ K Nr JW:=by
 intro B L H b e f Q hd c a k;have two:Nw b f->Nr e H Q:=λa=>.inl (HP B L H b e f Q hd c a k)
 cases b with
 | nil=>exact two a
 | cons d b =>
 cases d<;>first | exact two a | skip
 cases b with
 | cons _ _=>exact two a
 | nil =>
 obtain⟨x,rfl,m⟩:=sE c;have:=m.str_inv;subst this;obtain⟨n,h,i,a⟩:=a;exact .inr ⟨_,n,rfl,h,i,k _ _ H a (hd.pushF (.int _))⟩
end
section
theorem yP (J:Aa α) (U T:α->D) (p:α->Bool) (C:Aa Sl) (ac:∀ Ψ:Aa D->Aa Sl->Prop,Ψ (J.map U) C->ι dk ρ Ψ) (hl:J.length<=100000)
  (hs:∀ (i:Nat) x (I:Aa D) (Nx:Aa D->Aa Sl->Prop),J[i]?=some x->I.length<100000->(p x=true->Nx (I++[T x]) (pW j C))->(p x=false->Nx I (pW j C))->g (U x) (List.replicate n Sl.n++pW j C) λae=>tt dk ae λb aa=>if b=true then te dk aa λr af=>match sd r with
   | some c=>I.length<100000/\Nx (I++[c]) (af.drop n)
   | none=>False
   else Nx I (aa.drop n))
  (ab:Φ (.o (.l ((J.filter p).map T))) (rA j (pW j C) C)):vA n j ι g tt te dk ρ Φ:=by
 refine ac _ ⟨λi I a=>I=((J.take i).filter p).map T/\a=pW j C,⟨by simp,rfl⟩,?_,?_⟩
 .rintro i d I a hd _ ⟨f,h⟩;rw[aW] at hd;cases e:J[i]? with
  | none=>rw[e] at hd;cases hd
  | some x =>
   rw[e] at hd;cases hd;obtain⟨s,_⟩:=aL.mp e;have k:(J.take (i+1)).filter p=(J.take i).filter p++(if p x=true then [x] else []):=by
    rw[bM,e,List.filter_append];by_cases q:p x=true<;>simp[q]
   have len:I.length<100000:=by
    rw[f,aA];have m:=bV p (J.take i);rw[bU] at m;omega
   rw[h];refine hs i x I (λI a=>I=((J.take (i+1)).filter p).map T/\a=pW j C) e len (λq=>⟨?_,rfl⟩) λq=>⟨?_,rfl⟩
   .rw[k,aO q,f,aM];rfl
   .rw[k,aJ (by rw[q];decide),dD];exact f
 .rintro I a _ ⟨f,h⟩;rw[f,h,aA,cC];exact ab
theorem pL (J:Aa α) (C I:α->D) (p:Aa Sl) (ab:∀ Ψ:Aa D->Aa Sl->Prop,Ψ (J.map C) p->ι dk ρ Ψ) (hl:J.length<=100000)
  (hs:∀ (i:Nat) x (T:Aa D) (U:Aa D->Aa Sl->Prop),J[i]?=some x->T.length<100000->U (T++[I x]) (pW j p)->g (C x) (List.replicate n Sl.n++pW j p) λac=>te dk ac λr ae=>match sd r with
   | some c=>T.length<100000/\U (T++[c]) (ae.drop n)
   | none=>False)
  (aa:Φ (.o (.l (J.map I))) (rA j (pW j p) p)):vA n j ι g Mp te dk ρ Φ:=by
 refine yP J C I (λ_=>true) p ab hl (λi x T U e a b _=>hs i x T U e a (b rfl)) ?_;have:J.filter (λ_=>true)=J:=List.filter_eq_self.mpr λ_ _=>rfl
 rw[this];exact aa
end
end L2
namespace Lw
open PySem L2
abbrev Jd:=Aa (Af×Af)
noncomputable def oE (t:Jd):Aa (gD×D):=t.map λp=>(Sum.inr p.1,D.str p.2)
noncomputable def nD (t:Jd) (x:Af):Af:=match t.find? (λp=>decide (p.1=x)) with
 | some p=>p.2
 | none => ""
theorem Gp:nD (p::t) x=if p.1=x then p.2 else nD t x:=by
 unfold nD;rw[dF];by_cases h:p.1=x<;>simp[h]
theorem K1:∀ (t:Jd) (x:Af),(x∈t.map (·.1)->mR (oE t) (Sum.inr x)=some (.str (nD t x)))/\(x∉t.map (·.1)->mR (oE t) (Sum.inr x)=none)
 | [],x=>⟨λh=>by simp at h,λ_=>rfl⟩
 | p::t,x=>by
  have a:=K1 t x;have e:oE (p::t)=(Sum.inr p.1,D.str p.2)::oE t:=rfl;rw[e,xE,Gp];by_cases h:p.1=x
  .subst h;exact⟨λ_=>by rw[aO rfl,aO rfl],λn=>absurd (by simp) n⟩
  .have b:(Sum.inr p.1:gD)≠Sum.inr x:=λq=>h (fY q)
   rw[aJ b,aJ h];refine⟨λm=>a.1 ?_,λm=>a.2 λq=>m (by simp only[aP,aK];exact .inr q)⟩;simp only[aP,aK] at m;exact m.resolve_left λq=>h q.symm
theorem W8 (h:x∉t.map (·.1)):nM (oE t) (Sum.inr x) (.str n)=oE (t++[(x,n)]):=by
 unfold nM;rw[Gc,(K1 t x).2 h];simp[oE]
theorem Vj:∀ (u t:Jd),((t++u).map (·.1)).Nodup->qF (oE t) (oE u)=oE (t++u)
 | [],t,_=>by simp[qF,oE]
 | p::u,t,h=>by
  have a:p.1∉t.map (·.1):=λq=>by
   rw[aM] at h;exact (bE.mp h).2.2 p.1 q p.1 (by simp) rfl
  have e:qF (oE t) (oE (p::u))=qF (nM (oE t) (Sum.inr p.1) (.str p.2)) (oE u):=rfl;rw[e,W8 a,Vj u (t++[p]) (by simpa using h)];simp
theorem QD (h:(t.map (·.1)).Nodup):qF [] (oE t)=oE t:=by
 have:=Vj t [] (by simpa using h)
 simpa [oE] using this
theorem Q3:∀ (own g:Aa Af),(own.map λo=>(Sum.inr o:gD)).zip (g.map D.str)=oE (own.zip g)
 | [],_=>rfl
 | _::_,[]=>rfl
 | o::own,x::g=>by simp only[aP,cV,Q3 own g];rfl
theorem Lp:∀ (own g:Aa Af),own.length=g.length->(own.zip g).map (·.1)=own
 | [],_,_=>rfl
 | _::_,[],h=>by simp at h
 | o::own,x::g,h=>by simp only[cV,aP,Lp own g (by simpa using h)]
theorem Gb:∀ {own g:Aa Af}{o:Af},own.length=g.length->o∈own->nD (own.zip g) o∈g
 | [],_,_,_,h=>by cases h
 | _::_,[],_,h,_=>by simp at h
 | a::own,x::g,o,h,m=>by
  rw[cV,Gp];split
  .exact aH
  .rename_i e
   exact aQ _ (Gb (by simpa using h) ((aK.mp m).resolve_left λq=>e q.symm))
theorem V5:∀ {own j:Aa Af}{o g:Af},own.length=j.length->j.Nodup->o∈own->g∈own->nD (own.zip j) o=nD (own.zip j) g->o=g
 | [],_,_,_,_,_,h,_,_=>by cases h
 | _::_,[],_,_,h,_,_,_,_=>by simp at h
 | a::own,x::j,o,g,h,k,m,d,e=>by
  rw[cV,Gp,Gp] at e;obtain⟨f,i⟩:=bY.mp k;have c:own.length=j.length:=by simpa using h
  by_cases q:a=o
  .by_cases b:a=g
   .rw[<- q,<- b]
   .rw[aO q,aJ b] at e;have:=Gb c ((aK.mp d).resolve_left λz=>b z.symm);dsimp only at e;rw[<- e] at this;exact absurd this f
  .by_cases b:a=g
   .rw[aJ q,aO b] at e;have:=Gb c ((aK.mp m).resolve_left λz=>q z.symm);dsimp only at e;rw[e] at this;exact absurd this f
   .rw[aJ q,aJ b] at e;exact V5 c i ((aK.mp m).resolve_left λz=>q z.symm) ((aK.mp d).resolve_left λz=>b z.symm) e
theorem Cd:∀ {l:Aa g},l.Nodup->(∀ x∈l,∀ y∈l,f x=f y->x=y)->(l.map f).Nodup
 | [],_,_=>.nil
 | a::l,k,h=>by
  obtain⟨d,i⟩:=bY.mp k;refine bY.mpr ⟨λm=>?_,Cd i λx c y b=>h x (aQ _ c) y (aQ _ b)⟩;obtain⟨y,b,e⟩:=aN.mp m;have:=h a aH y (aQ _ b) e.symm;subst this;exact d b
noncomputable def pF:Aa Af->Aa (Af×Af)
 | a::b::r=>(a,b)::pF r
 | _=>[]
theorem pairs_at:∀ {ws:Aa Af}{i:Nat}{p:Af×Af},(pF ws)[i]?=some p->ws[2*i]?=some p.1/\ws[2*i+1]?=some p.2
 | [],i,p,h=>by simp[pF] at h
 | [a],i,p,h=>by simp[pF] at h
 | a::b::r,0,p,h=>by simp[pF] at h;subst h;exact⟨rfl,rfl⟩
 | a::b::r,i+1,p,h=>by
  have:=pairs_at (ws:=r) (i:=i) (p:=p) (by simpa [pF] using h);rw[show 2*(i+1)=(2*i)+1+1 by omega]
  simpa using this
theorem Kg:∀ (g:Aa Af),g.length%2=0->2*(pF g).length=g.length
 | [],_=>rfl
 | [a],h=>by simp at h
 | a::b::r,h=>by
  have:=Kg r (by simp only[bS] at h;omega);simp only[pF,bS];omega
theorem Ul (n:Nat):xN 0 ((2*n:Nat):Int) 2=n:=by
 unfold xN;split
 .omega
 .omega
def nV (i:Nat):Stmt:=PySem.Challenge.pw_laidcells_k12_claims_hold.main.body.getD i (.Pass ⟨0,0,0,0⟩)
abbrev Jl:Stmt:=nV 4
abbrev Hi:Stmt:=nV 6
abbrev Gv:Stmt:=nV 7
abbrev Ka:Stmt:=nV 8
abbrev Dd:Stmt:=nV 9
abbrev Cj:Stmt:=nV 11
abbrev Es:Stmt:=nV 12
abbrev Jg:Stmt:=nV 13
abbrev Gz:Stmt:=nV 14
abbrev Hw:Stmt:=nV 15
abbrev Ga:Stmt:=nV 16
abbrev Ju:Stmt:=nV 17
abbrev Gg:Stmt:=nV 18
abbrev Ff:Stmt:=nV 20
abbrev F5:Stmt:=nV 21
abbrev Gk:Stmt:=nV 22
abbrev Hb:Stmt:=nV 24
abbrev Ep:Stmt:=nV 25
abbrev xM:Stmt:=nV 25
abbrev Ew:Stmt:=nV 26
abbrev Hf:Stmt:=nV 27
abbrev Fl:Stmt:=nV 28
abbrev G8:Stmt:=nV 29
abbrev Gj:Stmt:=nV 30
abbrev Gx:Stmt:=nV 31
abbrev Eh:Stmt:=nV 32
abbrev xG:Stmt:=nV 33
abbrev Kc:Stmt:=nV 34
abbrev Jb:Stmt:=nV 35
abbrev Jr:Stmt:=nV 36
abbrev Ed:Stmt:=nV 37
abbrev Kb:Stmt:=nV 38
abbrev Hq:Stmt:=nV 39
abbrev Hx:Stmt:=nV 40
abbrev Iy:Stmt:=nV 41
abbrev Je:Stmt:=nV 42
abbrev J1:Stmt:=nV 43
abbrev Ip:Stmt:=nV 44
abbrev Ct:Stmt:=nV 45
abbrev Jy:Stmt:=nV 46
abbrev Ih:Stmt:=nV 47
abbrev Ib:Stmt:=nV 48
abbrev Ir:Stmt:=nV 49
abbrev Im:Stmt:=nV 50
abbrev Sd:Stmt:=nV 51
abbrev Ek:Stmt:=nV 51
structure Txt (mg:Str->Option Value):Prop where
 len:mg "len" = none
 range:mg "range" = none
 sum:mg "sum" = none
 min:mg "min" = none
 max:mg "max" = none
 tuple:mg "tuple" = none
 list:mg "list" = none
 set:mg "set" = none
 dict:mg "dict" = none
 int:mg "int" = none
 str:mg "str" = none
 zip:mg "zip" = none
 enumerate:mg "enumerate" = none
 all:mg "all" = none
 any:mg "any" = none
 isinstance:mg "isinstance" = none
 sorted:mg "sorted" = none
 abs:mg "abs" = none
 reversed:mg "reversed" = none
 bool:mg "bool" = none
structure Gd (K:mI) (mg:Str->Option Value) (x:Str) (st:Stmt) (ps:List Str) (f:Addr) (fd:FuncData):Prop where
 F:Fun K x x st f fd
 m:mg x=some (.ref f)
 k:PySem.W.keepIn K (.ref f)=true
 b:zD K fd ps []
def Kn (P:Ah) (w:World) (K:mI) (g:Af->Ab Ac) (base:Ag) (k:Nat) (x:Af) (st:Stmt) (j:Aa Af) (R:RD):Prop:=∃ f fd,Gd K g x st j f fd/\FnOk P w K g base pE k f fd j (yE K R)
theorem mU {X:Cx}{st:Stmt}{R:RD}(G:Kn X.prog X.w X.K X.mg X.base k x st T R) (I:Room m X.A) (o:tP X (e::l) J) (C:k<=m:=by decide) (r:Gl X x:=by rfl) (g:(x == ("__debug__" : Af))=false:=by decide)
  (j:StB X e l pos:=by exact {}):PD X (.Call (.Name x p) (e::l) [] pos) (E4 R J):=G.elim λ_ h=>h.elim λ_ h=>BS h.2 (I.mono C) r h.1.m h.1.k h.1.b o g j
def oK (P:Ah) (w:World) (K:mI) (g:Af->Ab Ac) (base:Ag) (k:Nat) (x:Af) (st:Stmt) (j:Aa Af) (R:RD):Prop:=∀ f fd,Fun K x x st f fd->FnOk P w K g base pE k f fd j (yE K R)
theorem oS {P:Ah}{K:mI}{st:Stmt}{R:RD}(S:FnScope N I (nF st))
  (j:∀ (f:Ad) (g:Ac) (A:Around) (l:Aa Env) (s:Ae) (H:Hp) (E:XK) (r:Aa Ad) (o:Aa D) (p:Sl->Prop),Room k (A.deeper (PyProof.Rows.envOfC x (nF st) s.heap.objs.size f g))->(A.deeper (PyProof.Rows.envOfC x (nF st) s.heap.objs.size f g)).units+1<cLine->R r o p ->∃ t,vX (zF pE P w K J base N x (nF st) f g A l s H E).nox (tL st) t/\t r { nx:=λ_=>p (.v .e),rt:=p } (B0 N o)) (C:I.length<=N.length:=by decide) (hlen:∀ r o p,R r o p->o.length=I.length:=by rintro _ _ _ h;repeat' (rcases h with⟨i,h⟩;try (subst i;rfl))):oK P w K J base (k+1) x st I R:=λ_ _ F=>F.okD S hlen C λ_ _ _ _ _ _ _ _ _ a=>j _ _ _ _ _ _ _ _ _ _ a (Mz a)
def Fd:Sp:=λb H Q _=>∃ (d c:Ad) (m:Int),b=[.ref d,.int m]/\DeckAt H d c/\0<m/\m<4611686018427387904/\∀ (r:Int) (a:Hp),0<=r->r<m->DeckAt a d c->nI d c H a->Q (.int r) a
section
variable {P:Ah}{K:mI}
theorem Ol:FnScope ["deck","many","at","cell"] ["deck","many"] (nF xM):=⟨rfl,rfl,rfl,by decide +kernel,rfl,by decide +kernel,by decide +kernel⟩
theorem J0 (F:Fun K "_law_take" "_law_take" xM f fd) (T:Txt g):FnOk P w K g base pE 1 f fd ["deck","many"] Fd:=by
 refine F.ok Ol (λR H Q E h=>?_) (λG A x s H R Q E X h=>?_)
 .obtain⟨d,c,m,rfl,_⟩:=h;rfl
 .obtain⟨d,c,m,rfl,D,n,W,k⟩:=h;obtain⟨a,p,t,y,L,M⟩:=id D.ex;have q:=D.ne;refine⟨_,qE (qD (i:=2) Ol.nd rfl (Or.inl rfl) (nT tD (qQ sS (pv 0) nU (λ_ _=>rfl)) (wE zC (by rfl) T.len bN (xV (qQ sS (pv 0) nU (λ_ _=>rfl)) nK)))) (qE (Br (nT yX (qQ sS (pv 0) nU (λ_ _=>rfl)) nU) (Cq (pv 0) nU Fw)) (qE (qD (i:=3) Ol.nd rfl (Or.inl rfl) (qQ sS (qQ sS (pv 0) nU (λ_ _=>rfl)) (pv 2) (λ_ _=>rfl))) (qE (Br (nT Qb (pv 3) (pv 1)) (Cq (qQ sS (pv 0) nU (λ_ _=>rfl)) (pv 2) Fw)) (sD (yG (nT tD (pv 3) (pv 1))))))),?_⟩;refine⟨_,rfl,d,_,_,_,rfl,rfl,mL.of t,rfl,_,rfl,d,_,_,_,rfl,rfl,mL.of t,rfl,c,_,rfl,.inl (mL.of y),_,_,rfl,rfl,?_,?_⟩
  .rw[aA];omega
  .rw[aA];have B:=dJ p (show (a.length:Int)≠0 by omega);have S:=cP p (show (0:Int)<a.length by omega);obtain⟨j,z⟩:=cW B;have v:j<a.length:=by omega
   have u:(a.map V.int)[j]?=some (V.int a[j]):=by simp[v]
   refine⟨_,rfl,d,_,_,_,rfl,rfl,mL.of t,rfl,_,_,rfl,rfl,_,rfl,d,_,_,1,rfl,rfl,t,rfl,?_⟩;have g1:upd H d (.l ([V.ref c,V.int p].set 1 (V.int (p+1)))) d=some (.l [.ref c,.int (p+1)]):=mX;have g2:upd H d (.l ([V.ref c,V.int p].set 1 (V.int (p+1)))) c=some (.l (a.map V.int)):=by rw[mT q.symm];exact y
   refine⟨_,rfl,d,_,_,_,rfl,rfl,mL.of g1,rfl,_,rfl,c,_,_,V.int a[j],rfl,rfl,mL.of g2,(by rw[z];exact qT u),?_⟩
   .refine⟨_,rfl,_,rfl,_,_,rfl,rfl,⟨n,by omega⟩,_,rfl,d,_,_,_,rfl,rfl,mL.of g1,rfl,_,rfl,c,_,_,j,rfl,rfl,g2,?_,?_⟩
    .rw[z,aA];unfold uE;rw[aO (by omega),aO (by omega)];simp
    .refine⟨_,rfl,_,rfl,_,_,rfl,rfl,n,?_⟩;refine k _ _ (dJ _ (by omega)) (cP _ n) ⟨a.set j (a[j]/m),p+1,?_,?_,by rw[bW];exact L,by rw[bW];exact M⟩ ?_
     .rw[mT q];exact g1
     .rw[mX,List.map_set]
     .intro b o e N O;rw[mT O,mT N];exact e
end
theorem pV.new (h:H p=none):pV H (upd H p o):=λb u e=>by rw[mT (nQ e h)];exact e
theorem FJ (g:Aa Int) (lo j:Ab Int):∃ l:Aa Int,wW (g.map V.int) lo j=l.map V.int/\l.length<=g.length:=by
 refine⟨(g.drop (HT.sIx g.length 0 lo)).take (HT.sIx g.length g.length j-HT.sIx g.length 0 lo),?_,?_⟩
 .unfold wW;rw[List.length_map,List.map_take,List.map_drop]
 .rw[bU,eK];omega
def T0 (K:mI):Sp:=λf H Q _=>∃ (a:Ad) (e:Aa Int),f=[.ref a]/\mL K H a (e.map V.int)/\e.length<=63/\∀ (d c:Ad) (b:Hp),DeckAt b d c->H d=none->H c=none->pV H b->Q (.ref d) b
section
variable {P:Ah}{K:mI}
theorem Dz:FnScope ["script","cells","k","mixed"] ["script"] (nF Hb):=⟨rfl,rfl,rfl,by decide +kernel,rfl,by decide +kernel,by decide +kernel⟩
theorem LC (F:Fun K "_law_deck" "_law_deck" Hb f fd) (T:Txt mg):FnOk P w K mg base pE 1 f fd ["script"] (T0 K):=by
 refine F.ok Dz (λvs H Q E h=>?_) (λab A j s H vs Q E hr h=>?_)
 .obtain⟨a,t,rfl,_⟩:=h;rfl
 .obtain⟨a,t,rfl,W,aa,k⟩:=h;refine⟨_,qE (qD (i:=1) Dz.nd rfl (Or.inl rfl) (nT E1 (Fa Nk (pv 0) Dt (E3 nU)) (rE (xV (wE zC (by rfl) T.len bN (xV (pv 0) nK)) nK)))) (qE (A4 (wY J6 (nT tD (wE (Ia rfl) (by rfl) T.sum iH (xV (Fa Nk (pv 0) Dt (E3 nU)) nK)) nU) nU (xJ _)) (sD (Bc eF rfl (Di rfl T.range (xV (wE zC (by rfl) T.len bN (xV (pv 1) nK)) nK)) (wS (i:=2) Dz.nd rfl (Or.inl rfl)) (qE (qD (i:=3) Dz.nd rfl (Or.inl rfl) (nT tD (nT wZ (nT yX (nT yX (nT tD (qQ sS (pv 1) (pv 2) (λ_ _=>rfl)) nU) (nT wZ nU (pv 2))) nU) nU) nU)) (qE (qD (i:=3) Dz.nd rfl (Or.inl rfl) (nT tD (nT wZ (nT tD (nT yX (nT wZ (pv 3) (pv 3)) (nT wZ nU (pv 2))) nU) nU) nU)) (sD (Br (nT yX (nT wZ (nT wZ (pv 3) (pv 3)) nU) (nT tD (nT wZ (pv 3) nU) nU)) (Cq (pv 1) (pv 2) Fw))))))) C8) (sD (yG (rE (xV (pv 1) (xV nU nK)))))),?_⟩;obtain⟨q,em,ac⟩:=FJ t none (some 63);refine⟨_,rfl,_,rfl,a,_,rfl,W,λG n1=>?_⟩;have r:pV H (upd H G (.l (wW (t.map V.int) none (some 63)))):=pV.new n1;rw[em] at r |-;refine⟨_,rfl,a,_,rfl,.inl (r.seq W),(by show 1<=sizeLine;decide),λp n2=>?_⟩;have s2:=r.trans (pV.new (o:=.l [V.int ((t.map V.int).length:Nat)]) n2);have q1:upd (upd H G (.l (q.map V.int))) p (.l [V.int ((t.map V.int).length:Nat)]) G=some (.l (q.map V.int)):=by rw[mT (nQ mX n2)];exact mX
  refine⟨G,p,_,_,rfl,rfl,q1,mX,?_,λc nc=>?_⟩
  .rw[aA];exact bX (show q.length+1<=64 by omega) (by decide)
  have L:=s2.trans (pV.new (o:=.l (q.map V.int++[V.int ((t.map V.int).length:Nat)])) nc);have ec:q.map V.int++[V.int ((t.map V.int).length:Nat)]=(q++[((t.map V.int).length:Int)]).map V.int:=by simp
  rw[ec] at L |-;generalize Y:q++[((t.map V.int).length:Int)]=u at L;have D:0<u.length/\u.length<=64:=by rw[<- Y,bH,eQ];omega
  have B:H c=none:=s2.free nc;generalize S:upd (upd (upd H G (.l (q.map V.int))) p (.l [V.int ((t.map V.int).length:Nat)])) c (.l (u.map V.int))=J at L;have U:J c=some (.l (u.map V.int)):=by rw[<- S];exact mX
  have fin:∀ (m:Aa Int) (v x:Ab V) (O:Hp),pV H O->O c=some (.l (m.map V.int))->0<m.length->m.length<=64 ->
    (Vw (Ur (A2 (pX 1) (A2 (tC (.int 0)) Dy)))) { nx:=λ_ H'=>Q .e H',rt:=Q } [some (.ref a),some (.ref c),v,x] O:=by
   intro m v x O N y l1 l2;refine⟨_,rfl,(by show 2<=sizeLine;decide),λd g=>?_⟩;refine k d c _ ⟨m,0,mX,by rw[mT (nQ y g)];exact y,l1,by omega⟩ (N.free g) B (N.trans (pV.new g))
  refine⟨_,rfl,_,rfl,a,_,rfl,L.seq W,λp4 n4=>?_⟩;rw[em];have N:=L.trans (pV.new (o:=.l (q.map V.int)) n4);have y:upd J p4 (.l (q.map V.int)) c=some (.l (u.map V.int)):=by rw[mT (nQ U n4)];exact U
  refine⟨p4,q,rfl,mL.of mX,_,_,rfl,rfl,(by show (0:Int)<2;decide),rfl,_,rfl,?_⟩;refine Ay (λ_=>?_) (λ_=>?_)
  .refine⟨_,rfl,c,_,rfl,.inl (mL.of y),_,rfl,by omega,by rw[aA];omega,?_⟩;rw[aA,bT];refine Kj (lo:=0) (n:=u.length) (λi I z=>∃ (m:Aa Int) (v x:Ab V),I=[some (.ref a),some (.ref c),v,x]/\pV H z/\z c=some (.l (m.map V.int))/\m.length=u.length)
    ⟨u,none,none,rfl,N,y,rfl⟩ ?_ ?_
   .rintro i I z hi ⟨m,v,x,rfl,C,R,Z⟩;have X:(m.map V.int)[i]?=some (V.int (m[i]'(by omega))):=by simp[Z,hi]
    refine⟨_,rfl,_,rfl,c,_,_,V.int (m[i]'(by omega)),rfl,rfl,mL.of R,(by rw[iT];exact qT X),_,_,rfl,rfl,(by show (0:Int)<2147483587;decide),_,rfl,_,_,rfl,rfl,.inl (by decide),_,_,rfl,rfl,_,_,rfl,rfl,_,_,rfl,rfl,.inr (by decide),_,_,rfl,rfl,(by show (0:Int)<2147483629;decide),?_⟩;refine⟨_,rfl,_,rfl,_,_,rfl,rfl,.inl ?_,_,rfl,_,_,rfl,rfl,.inl (by decide),_,_,rfl,rfl,_,_,rfl,rfl,(by show (0:Int)<2147483563;decide),_,_,rfl,rfl,.inr (by decide),_,_,rfl,rfl,(by show (0:Int)<2147483549;decide),?_⟩
    .have b0:=dJ ((m[i]'(by omega)%2147483587+853*(0+(i:Int))+11)*69621) (show (2147483629:Int)≠0 by decide);have b1:=cP ((m[i]'(by omega)%2147483587+853*(0+(i:Int))+11)*69621) (show (0:Int)<2147483629 by decide);exact⟨by omega,by omega⟩
    generalize hM:((m[i]'(by omega)%2147483587+853*(0+(i:Int))+11)*69621%2147483629)=M;have b0:=dJ ((M*M+31*(0+(i:Int)))%2147483563*16807) (show (2147483549:Int)≠0 by decide);have b1:=cP ((M*M+31*(0+(i:Int)))%2147483563*16807) (show (0:Int)<2147483549 by decide);refine⟨_,rfl,_,rfl,_,_,rfl,rfl,.inl ?_,_,_,rfl,rfl,.inr (by decide),_,rfl,_,_,rfl,rfl,.inl ?_,_,_,rfl,rfl,(by show (0:Int)<2147483579;decide),_,_,rfl,rfl,_,rfl,_,rfl,c,_,_,i,rfl,rfl,R,?_,?_⟩
    .exact⟨by omega,by omega⟩
    .exact⟨by omega,by omega⟩
    .rw[aA];unfold uE;rw[aO (by omega),aO (by omega)]
     congr 1
     omega
    .refine⟨m.set i _,_,_,rfl,?_,by rw[mX,List.map_set],by rw[bW];exact Z⟩;intro b o e;rw[mT (nQ e B)];exact C b o e
   .rintro I z ⟨m,v,x,rfl,C,R,Z⟩;exact fin m v x z C R (by omega) (by omega)
  .exact fin u none none _ N y D.1 D.2
end
structure LS (n m:Nat) (x:Str):Prop where
 az:∀ c∈x.cps.toList,97<=c/\c<=122
 lo:n<=x.length
 hi:x.length<=m
theorem EG (x y:Af):(x++y).cps.toList=x.cps.toList++y.cps.toList:=by
 show (x.cps++y.cps).toList=_;simp
theorem Ts (x y:Af):(x++y).length=x.length+y.length:=by
 show (x.cps++y.cps).size=_;simp[Str.length]
theorem LS.app (h:LS a b x) (g:LS c d y):LS (a+c) (b+d) (x++y) :=
 ⟨λz e=>by rw[EG] at e;exact (aV.mp e).elim (h.az z) (g.az z),by rw[Ts];have:=h.lo;have:=g.lo;omega,by rw[Ts];have:=h.hi;have:=g.hi;omega⟩
theorem LS.weak (h:LS a b x) (g:c<=a) (j:b<=d):LS c d x:=⟨h.az,bX g h.lo,bX h.hi j⟩
noncomputable def Ji (n m:Nat) (x:Af):Bool:=x.cps.toList.all (λc=>decide (97<=c)&&decide (c<=122))&&decide (n<=x.length)&&decide (x.length<=m)
theorem LS.of (h:Ji n m x=true):LS n m x:=by
 unfold Ji at h;simp only[cJ,cH,fE] at h;exact⟨h.1.1,h.1.2,h.2⟩
theorem LS.cutL (h:LS n n z) (g:k<=n):LS k k (vH z none (some (k:Int))):=by
 have e:z.length=n:=mC h.hi h.lo;have d:HT.sIx z.length z.length (some (k:Int))=k:=by rw[HT.sIx_nat];omega
 have a:(vH z none (some (k:Int))).cps.toList=z.cps.toList.take k:=by
  show ((z.cps.toList.drop (HT.sIx z.length 0 none)).take _).toArray.toList=_;rw[d,HT.sIx_none];simp
 have f:(vH z none (some (k:Int))).length=k:=by
  rw[<- Ao,a,bU,Ao];omega
 exact⟨λc b=>by rw[a] at b;exact h.az c (kJ b),by omega,by omega⟩
theorem LS.cutR (h:LS n n z) (g:k<=n):LS (n-k) (n-k) (vH z (some (k:Int)) none):=by
 have e:z.length=n:=mC h.hi h.lo;have d:HT.sIx z.length 0 (some (k:Int))=k:=by rw[HT.sIx_nat];omega
 have a:(vH z (some (k:Int)) none).cps.toList=z.cps.toList.drop k:=by
  show ((z.cps.toList.drop (HT.sIx z.length 0 (some (k:Int)))).take _).toArray.toList=_;rw[d,HT.sIx_none];simp only[List.toList_toArray];rw[bL];rw[eK,Ao];omega
 have f:(vH z (some (k:Int)) none).length=n-k:=by
  rw[<- Ao,a,eK,Ao];omega
 exact⟨λc b=>by rw[a] at b;exact h.az c (List.mem_of_mem_drop b),by omega,by omega⟩
theorem LS.sign (h:97<=c/\c<=122):LS 1 1 ⟨#[c]⟩:=⟨λd hd=>by simp at hd;subst hd;exact h,aU _,aU _⟩
theorem Rm:∀ (g:Aa Af),(∀ y∈g,LS 1 1 y)->LS g.length g.length (Str.join "" g)
 | [],_=>⟨λc e=>(nomatch e),aU _,aU _⟩
 | [x],h=>h x aH
 | x::y::r,h=>by
  have b:=h x aH;have d:=Rm (y::r) λz f=>h z (aQ _ f)
  have a:LS 0 0 (Str.ofString ""):=LS.of (by decide +kernel);have:=(b.app a).app d;show LS _ _ (x++(Str.ofString "")++Str.join "" (y::r));exact this.weak (by simp;omega) (by simp;omega)
theorem Z1 (g:0<=i) (l:i<xs.length):∃ v,oQ xs i=some v/\v∈xs:=by
 obtain⟨j,rfl⟩:=cW g;have a:j<xs.length:=by omega
 exact⟨xs[j],qT (aE a),cN a⟩
theorem I3 {xs:Aa Af}{i:Int}(g:0<=i) (l:i<xs.length):∃ x,oQ (xs.map V.str) i=some (V.str x)/\x∈xs:=by
 obtain⟨j,rfl⟩:=cW g;have a:j<xs.length:=by omega
 exact⟨xs[j],qT (by simp[a]),cN a⟩
def pG:Af := "abcdefghijklmnopqrstuvwxyz"
theorem Nz:pG.length=26:=by decide +kernel
theorem Ls (g:0<=i) (j:i<26):∃ c,oQ pG.cps.toList i=some c/\97<=c/\c<=122:=by
 obtain⟨c,e,m⟩:=Z1 (xs:=pG.cps.toList) g (by rw[Ao,Nz];exact j);have h:LS 26 26 pG:=LS.of (by decide +kernel);exact⟨c,e,h.az c m⟩
noncomputable def tE:Aa Af:=["and","or","odd","most","not","one","nil","in","out"]
theorem JI (h:x∈tE):LS 2 4 x:=by
 have:tE.all (Ji 2 4)=true:=by decide +kernel
 exact LS.of (cH.mp this x h)
structure GoodName (x:Str):Prop where
 ls:LS 1 8 x
 nk:x∉tE
def Mv:Sp:=λa H Q _=>a=[]/\∀ l,H l=none->Q (.ref l) (upd H l (.l (tE.map V.str)))
def Ta:Sp:=λe H Q _=>∃ (d c:Ad) (m:Nat),e=[.ref d,.int m]/\DeckAt H d c/\m<=40/\∀ (l:Ad) (b:Aa Af) (a:Hp),H l=none->a l=some (.l (b.map V.str))->b.length=m->(∀ x∈b,LS 1 8 x) ->
 DeckAt a d c->nI d c H a->Q (.ref l) a
theorem nI.free (k:nI d c H g) (j:l≠d) (p:l≠c) (h:g l=none):H l=none:=by
 cases e:H l with
 | none=>rfl
 | some o=>rw[k l o e j p] at h;cases h
theorem ES {g:Aa Af}{n m:Nat}(h:∀ y∈g,y.length<=m) (j:g.length<=n):(g.map (·.length)).sum<=n*m:=by
 have:∀ g:Aa Af,(∀ y∈g,y.length<=m)->(g.map (·.length)).sum<=g.length*m:=by
  intro g;induction g with
  | nil=>intro _;simp
  | cons a r c =>
   intro h;have d:=h a aH;have e:=c λy b=>h y (aQ _ b)
   simp only[aP,fL,bS,Nat.add_mul,Nat.one_mul];omega
 exact bX (this g h) (Nat.mul_le_mul_right m j)
theorem Nb (h:n<=1000):n<=sizeLine:=bX h (by decide)
section
variable {P:Ah}{K:mI}
theorem OR:FnScope [] [] (nF Ew):=⟨rfl,rfl,rfl,by decide +kernel,rfl,by decide +kernel,by decide +kernel⟩
theorem X1 (F:Fun K "_law_kept" "_law_kept" Ew f fd):FnOk P w K g base pE 1 f fd [] Mv:=by
 refine F.ok OR (λd H Q E h=>?_) (λb A a s H d Q E e h=>?_)
 .obtain⟨rfl,_⟩:=h;rfl
 .obtain⟨rfl,k⟩:=h;refine⟨_,@sD _ _ _ (@yG _ _ _ _ (@rE _ _ _ _ (@zJ _ [("and",_,_),("or",_,_),("odd",_,_),("most",_,_),("not",_,_),("one",_,_),("nil",_,_),("in",_,_),("out",_,_)]))),?_⟩;have c:9<=sizeLine:=by decide
  refine⟨c,?_⟩;exact k
theorem wX:FnScope ["deck","many","letters","base","at","shift","way","names","k","sign","word","name"] ["deck","many"] (nF Hf):=⟨rfl,rfl,rfl,by decide +kernel,rfl,by decide +kernel,by decide +kernel⟩
theorem CC:(["k","letters","deck"]:Aa Af).Nodup:=by decide +kernel
theorem Uk (j:0<=i) (l:i<2) (q:Af) (g:LS 0 1 q):∃ x,oQ [V.str "",V.str q] i=some (V.str x)/\LS 0 1 x:=by
 have:i=0\/i=1:=by omega
 rcases this with rfl | rfl
 .exact⟨"",rfl,LS.of (by decide +kernel)⟩
 .exact⟨q,rfl,g⟩
theorem KC (F:Fun K "_law_made_names" "_law_made_names" Hf f fd) (T:Txt mg) (g:Gd K mg "_law_take" xM ["deck","many"] fT aw) (gK:Gd K mg "_law_kept" Ew [] fK av) :
  FnOk P w K mg base pE 2 f fd ["deck","many"] Ta:=by
 have GT:FnOk P w K mg base pE 1 fT aw ["deck","many"] Fd:=J0 g.F T;have GK:FnOk P w K mg base pE 1 fK av [] Mv:=X1 gK.F;refine F.ok wX (λvs H Q E h=>?_) (λa8 A a7 s H vs Q E hr h=>?_)
 .obtain⟨d,c,m,rfl,_⟩:=h;rfl
 .obtain⟨d,c,m,rfl,D,hm,k⟩:=h;refine⟨_,qE (qD (i:=2) wX.nd rfl (Or.inr rfl) wQ) (qE (qD (i:=3) wX.nd rfl (Or.inl rfl) (zE PySem.F.plainAttrs_str PySem.F.slot_str_join PySem.F.type_str_join ML wQ (nA (zY ["k"] ["letters","deck"] [2,0] rfl (Di rfl T.range (nA (uP GT hr rfl g.m g.k g.b .nil tJ (nA (pv 0) (nA nU nK))) nK)) rfl rfl (λZ S C cl fp=>wS (i:=0) CC rfl (Or.inl rfl)) (λZ S C cl fp=>E9) (λZ S C cl fp=>qQ I0 (pv 1) (uP GT hr rfl g.m g.k g.b .nil tJ (nA (pv 2) (nA nU nK))) (λ_ _=>rfl))) nK))) (qE (qD (i:=4) wX.nd rfl (Or.inl rfl) (uP GT hr rfl g.m g.k g.b .nil tJ (nA (pv 0) (nA (nT yX (wE Tu (by rfl) T.len bN (nA (pv 3) nK)) nU) nK)))) (qE (qD (i:=5) wX.nd rfl (Or.inl rfl) (uP GT hr rfl g.m g.k g.b .nil tJ (nA (pv 0) (nA nU nK)))) (qE (qD (i:=6) wX.nd rfl (Or.inl rfl) (uP GT hr rfl g.m g.k g.b .nil tJ (nA (pv 0) (nA nU nK)))) (qE (qD (i:=7) wX.nd rfl (Or.inl rfl) (rE nK)) (qE (Bc eF rfl (Di rfl T.range (nA (pv 1) nK)) (wS (i:=8) wX.nd rfl (Or.inl rfl)) (qE (qD (i:=9) wX.nd rfl (Or.inl rfl) (qQ I0 (pv 2) (nT tD (nT yX (pv 5) (pv 8)) nU) (λ_ _=>rfl))) (qE (qD (i:=10) wX.nd rfl (Or.inl rfl) (qQ sS (Vn GK hr rfl gK.m gK.k gK.b .nil tJ) (nT tD (nT yX (pv 5) (pv 8)) nU) (λ_ _=>rfl))) (qE (qD (i:=11) wX.nd rfl (Or.inl rfl) (nT yK (nT yK (nT yK (nT yK (Fa L6 (pv 3) Dt (E3 (pv 4))) (pv 9)) (qQ sS (rE (nA wQ (nA wQ nK))) (nT tD (pv 8) nU) (λ_ _=>rfl))) (Fa L6 (pv 3) (E3 (pv 4)) Dt)) (qQ sS (rE (nA wQ (nA wQ nK))) (nT DM (pv 8) nU) (λ_ _=>rfl)))) (sD (Kl (zE bF bQ bR sK (pv 7) (nA (qQ sS (rE (nA (pv 11) (nA (nT yK (pv 9) (pv 10)) (nA (nT yK (pv 10) (pv 9)) (nA (nT yK (nT yK (pv 9) (pv 10)) (qQ I0 (pv 2) (nT tD (pv 8) nU) (λ_ _=>rfl))) nK))))) (pv 6) (λ_ _=>rfl)) nK)))))))) (sD (yG (pv 7))))))))),?_⟩;refine⟨rfl,_,rfl,d,c,6,rfl,D,by decide,by decide,λr1 H1 a0 a1 D1 k1=>⟨_,rfl,by omega,by omega,λD0 N=>?_⟩⟩;have u:=D1.ned N;have a2:H D0=none:=k1.free u.1 u.2 N;refine Lg Rh (λi ys H2=>∃ t:Aa Af,ys=t.map V.str/\t.length=i/\(∀ z∈t,LS 1 1 z)/\DeckAt H2 d c/\nI d c H H2/\H2 D0=some (.l ys))
   ⟨[],rfl,rfl,(λz Y=>nomatch Y),D1.new N,k1.trans (nI.new N),mX⟩ (λ_ _ _ _ _=>True.intro) ?_ ?_
  .rintro i x ys H2 hx ⟨t,rfl,hl,a6,D2,k2,hD⟩;have hi:i<6:=by
    have:=(aL.mp hx).1;simp at this;omega
   refine⟨_,rfl,_,rfl,d,c,26,rfl,D2,by decide,by decide,λr H3 b0 b1 D3 k3=>?_⟩;obtain⟨W,a3,I⟩:=Ls b0 b1;have az:=k3 D0 _ hD u.1 u.2;refine⟨pG,_,W,rfl,rfl,(by rw[Nz];decide),a3,⟨_,rfl⟩,az,(by rw[aA];exact bI (show t.length<1000 by omega) (by decide)),t++[⟨#[W]⟩],by simp,by simp[hl],λz Y=>?_,D3.upd_other u.1 u.2,?_,mX⟩
   .rcases aV.mp Y with q | q
    .exact a6 z q
    .rw[aX.mp q];exact LS.sign I
   .exact λb o e h1 h2=>by rw[mT (nQ e a2)];exact k3 b o (k2 b o e h1 h2) h1 h2
  .rintro ys H2 ⟨t,rfl,hl,Y,D2,k2,hD⟩;rw[aA,cF] at hl;have hB:=Rm t Y;have ay:t.length<=5:=by omega
   refine⟨"",D0,t,rfl,rfl,.inl (mL.of hD),?_,?_⟩
   .have h1:=ES (m:=1) (λy hy=>(Y y hy).hi) ay;have h2:(Str.ofString "").length=0:=by decide +kernel
    rw[h2];omega
   have ej:Txt.join (Str.ofString "") t=Str.join (Str.ofString "") t:=StrLaws.glued_eq_join _ _;rw[ej];generalize Str.join (Str.ofString "") t=B at hB;have eB:B.length=t.length:=mC hB.hi hB.lo;refine⟨_,rfl,_,rfl,B,rfl,Nb (by omega),_,_,rfl,rfl,d,c,_,rfl,D2,by omega,by omega,λr2 H3 b0 b1 D3 k3=>?_⟩;refine⟨_,rfl,d,c,26,rfl,D3,by decide,by decide,λr3 H4 c0 c1 D4 k4=>?_⟩;refine⟨_,rfl,d,c,4,rfl,D4,by decide,by decide,λr4 H5 d0 d1 D5 k5=>?_⟩;refine⟨(by show 0<=sizeLine;decide),λl nl=>?_⟩;have kk:nI d c H H5:=((k2.trans k3).trans k4).trans k5;have O:=D5.ned nl;have ae:H l=none:=kk.free O.1 O.2 nl;obtain⟨L,rfl⟩:=cW b0;refine⟨_,rfl,_,rfl,by omega,by omega,?_⟩;rw[bT];refine Kj (lo:=0) (n:=m) (λi σ G=>∃ (v:Aa Af) (v8 v9 v10 v11:Ab V),σ=[some (.ref d),some (.int m),some (.str pG),some (.str B),some (.int L),some (.int r3),some (.int r4),some (.ref l),v8,v9,v10,v11] /\ v.length=i/\(∀ x∈v,LS 1 8 x)/\G l=some (.l (v.map V.str))/\DeckAt G d c/\nI d c H G)
    ⟨[],none,none,none,none,rfl,rfl,(λz Y=>nomatch Y),mX,D5.new nl,kk.trans (nI.new nl)⟩ ?_ ?_
   .rintro i σ G hi ⟨v,v8,v9,v10,v11,rfl,J,U,h6,D6,k6⟩;have M:∀ z:Int,0<=z%26/\z%26<26:=λz=>⟨dJ z (by decide),cP z (by decide)⟩
    have e9:∀ z:Int,0<=z%9/\z%9<9:=λz=>⟨dJ z (by decide),cP z (by decide)⟩
    have e2:∀ z:Int,0<=z%2/\z%2<2:=λz=>⟨dJ z (by decide),cP z (by decide)⟩
    obtain⟨W,af,I⟩:=Ls (M (r3+(0+(i:Int)))).1 (M _).2;obtain⟨wd,ag,a4⟩:=I3 (xs:=tE) (e9 (r3+(0+(i:Int)))).1 (by exact (e9 _).2);obtain⟨x1,ah,ao⟩:=Uk (e2 (0+(i:Int))).1 (e2 _).2 "q" (LS.of (by decide +kernel));obtain⟨x2,ai,aq⟩:=Uk (i:=(0+(i:Int))/26) (by omega) (by omega) "w" (LS.of (by decide +kernel));obtain⟨c5,aj,an⟩:=Ls (M (0+(i:Int))).1 (M _).2;have j:=LS.sign I;have hW:=JI a4;have X:L<=t.length:=by omega
    have hP:=hB.cutL X;have hR:=hB.cutR X;have n1:=hP.app j;have n2:=n1.app ao;have n3:=n2.app hR;have n4:=n3.app aq;have w1:=j.app hW;have w2:=hW.app j;have w3:=w1.app (LS.sign an);have sz:∀ {a b c' d':Nat} {x y:Af},LS a b x->LS c' d' y->b+d'<=100->x.length+y.length<=sizeLine:=λg1 g2 hb=>Nb (by have:=g1.hi;have:=g2.hi;omega)
    have au:pG.length<=sizeLine:=by rw[Nz];decide
    have ac:B.length<=sizeLine:=Nb (by omega);refine⟨_,rfl,_,rfl,_,rfl,_,_,rfl,rfl,_,_,rfl,rfl,(by show (0:Int)<26;decide),pG,_,W,rfl,rfl,au,af,?_⟩;refine⟨rfl,λp np=>?_⟩;have D7:DeckAt (upd G p (.l (tE.map V.str))) d c:=D6.new np;refine⟨_,rfl,_,rfl,_,_,rfl,rfl,_,_,rfl,rfl,(by show (0:Int)<9;decide),p,_,_,.str wd,rfl,rfl,mL.of mX,ag,?_⟩;have k7:nI d c H (upd G p (.l (tE.map V.str))):=k6.trans (nI.new np);have h7:upd G p (.l (tE.map V.str)) l=some (.l (v.map V.str)):=by rw[mT (nQ h6 np)];exact h6
    generalize upd G p (.l (tE.map V.str))=H7 at D7 k7 h7 |-;refine⟨_,rfl,_,rfl,_,rfl,B,rfl,ac,_,rfl,_,_,rfl,rfl,sz hP j (by omega),(by show 2<=sizeLine;decide),λp2 aa=>?_⟩;have D8:=D7.new (o:=.l [V.str (Str.ofString ""),V.str (Str.ofString "q")]) aa;have k8:=k7.trans (nI.new (d:=d) (c:=c) (o:=.l [V.str (Str.ofString ""),V.str (Str.ofString "q")]) aa);have h8:upd H7 p2 (.l [V.str (Str.ofString ""),V.str (Str.ofString "q")]) l=some (.l (v.map V.str)):=by rw[mT (nQ h7 aa)];exact h7
    refine⟨_,rfl,_,_,rfl,rfl,(by show (0:Int)<2;decide),p2,_,_,.str x1,rfl,rfl,mL.of mX,ah,_,_,rfl,rfl,sz n1 ao (by omega),_,rfl,_,rfl,_,rfl,B,rfl,ac,_,_,rfl,rfl,sz n2 hR (by omega),(by show 2<=sizeLine;decide),λp3 R=>?_⟩;generalize upd H7 p2 (.l [V.str (Str.ofString ""),V.str (Str.ofString "q")])=H8 at D8 k8 h8 R |-;have D9:=D8.new (o:=.l [V.str (Str.ofString ""),V.str (Str.ofString "w")]) R;have k9:=k8.trans (nI.new (d:=d) (c:=c) (o:=.l [V.str (Str.ofString ""),V.str (Str.ofString "w")]) R);have h9:upd H8 p3 (.l [V.str (Str.ofString ""),V.str (Str.ofString "w")]) l=some (.l (v.map V.str)):=by rw[mT (nQ h8 R)];exact h8
    refine⟨_,rfl,_,_,rfl,rfl,⟨by decide,by decide⟩,p3,_,_,.str x2,rfl,rfl,mL.of mX,ai,_,_,rfl,rfl,sz n3 aq (by omega),?_⟩;generalize upd H8 p3 (.l [V.str (Str.ofString ""),V.str (Str.ofString "w")])=H9 at D9 k9 h9 |-;generalize a9:(vH B none (some (L:Int))++(⟨#[W]⟩:Af)++x1++vH B (some (L:Int)) none++x2)=nm at n4;refine⟨_,rfl,.inl ⟨rfl,_,mL.of h9⟩,_,rfl,_,rfl,_,rfl,_,_,rfl,rfl,sz j hW (by omega),_,rfl,_,rfl,_,_,rfl,rfl,sz hW j (by omega),_,rfl,_,rfl,_,_,rfl,rfl,sz j hW (by omega),_,rfl,_,rfl,_,_,rfl,rfl,(by show (0:Int)<26;decide),pG,_,c5,rfl,rfl,au,aj,_,_,rfl,rfl,sz w1 (LS.sign an) (by omega),(by show 4<=sizeLine;decide),λp4 ab=>?_⟩;obtain⟨z,ak,ar⟩:=I3 (xs:=[nm,(⟨#[W]⟩:Af)++wd,wd++(⟨#[W]⟩:Af),(⟨#[W]⟩:Af)++wd++(⟨#[c5]⟩:Af)]) d0 (by exact d1);have a5:LS 1 8 z:=by
     simp only[aK,bD,eZ] at ar;rcases ar with rfl | rfl | rfl | rfl
     .exact n4.weak (by omega) (by omega)
     .exact w1.weak (by omega) (by omega)
     .exact w2.weak (by omega) (by omega)
     .exact w3.weak (by omega) (by omega)
    have ax:∀ o4,upd H9 p4 o4 l=some (.l (v.map V.str)):=λo4=>by rw[mT (nQ h9 ab)];exact h9
    refine⟨_,rfl,p4,_,_,.str z,rfl,rfl,mL.of mX,ak,l,v.map V.str,.str z,rfl,rfl,?_,?_,v++[z],_,_,_,_,rfl,by simp[J],?_,?_,?_,?_⟩
    .exact ax _
    .rw[aA];exact bI (show v.length<1000 by omega) (by decide)
    .intro y hy;rcases aV.mp hy with q | q
     .exact U y q
     .rw[aX.mp q];exact a5
    .rw[mX];simp
    .exact (D9.new ab).upd_other O.1 O.2
    .exact λb o e g1 g2=>by rw[mT (nQ e ae)];exact (k9.trans (nI.new ab)) b o e g1 g2
   .rintro σ G ⟨v,v8,v9,v10,v11,rfl,J,U,h6,D6,k6⟩;exact⟨_,rfl,k l v G ae h6 J U D6 k6⟩
end
def wD:Aa Af:=["cell","along","lay","judge","late","gates","ways","show"]
noncomputable def zO:Aa Af:=["andx","orb","oddly","mosts","nots","ones","nila","inn","outer","aa","ab","ba"]
def Hy:Aa Af:=["abcdefgh","abcdefgi","zzzzzzzz","names","judged","rowsofx"]
def tU (z:Af):Aa Af:=z.cps.toList.map λc=>(⟨#[c]⟩:Af)
def Bl:Aa Af:=tU pG++wD++zO++Hy
theorem AS:Bl.Nodup:=by decide +kernel
theorem IH:Bl.length=52:=by decide +kernel
theorem GN:∀ x∈Bl,GoodName x:=by
 have h:Bl.all (λx=>Ji 1 8 x && !tE.contains x)=true:=by decide +kernel
 intro x b;have:=cH.mp h x b;rw[cJ] at this;refine⟨LS.of this.1,λm=>?_⟩;have a:=this.2;rw[List.contains_iff_mem.mpr m] at a;cases a
def Xf:Sp:=λe H Q _=>∃ (d c:Ad) (m:Nat),e=[.ref d,.int m]/\DeckAt H d c/\m<=40/\∀ (l:Ad) (b:Aa Af) (a:Hp),H l=none->a l=some (.l (b.map V.str))->b.length=m->b.Nodup->(∀ x∈b,GoodName x) ->
 DeckAt a d c->nI d c H a->Q (.ref l) a
theorem X9:∀ {g:Aa Af}{k:Nat}{y:Af},g[k]?=some y->(y::g.eraseIdx k).Perm g
 | [],k,y,h=>by simp at h
 | a::r,0,y,h=>by
  simp at h;subst h;exact List.Perm.refl _
 | a::r,k+1,y,h=>by
  have b:r[k]?=some y:=by simpa using h
  show (y::a::r.eraseIdx k).Perm (a::r);exact (List.Perm.swap a y _).trans ((X9 b).cons a)
theorem Qk (f:g->j):∀ (l:Aa g) (k:Nat),(l.map f).eraseIdx k=(l.eraseIdx k).map f
 | [],_=>rfl
 | _::_,0=>rfl
 | a::r,k+1=>by simp[Qk f r k]
theorem Qw (x:Af) (g:Aa Af):uY (.str x) (g.map V.str)=decide (x∈g):=by
 unfold uY;induction g with
 | nil=>rfl
 | cons y r b =>
  rw[aP,eU,b];have:qI (V.str y) (V.str x)=decide (y=x):=by
   simp only[qI];exact Bool.beq_eq_decide_eq y x
  rw[this];by_cases h:x=y
  .subst h;simp
  .have a:¬ y=x:=λe=>h e.symm
   simp[h,a]
theorem Of (g:Aa Af):(g.map V.str).all tT=true:=by
 rw[cH];intro v a;obtain⟨y,_,rfl⟩:=aN.mp a;rfl
section
variable {P:Ah}{K:mI}
theorem Dh:FnScope ["deck","many","letters","names","spare"] ["deck","many"] (nF Fl):=⟨rfl,rfl,rfl,by decide +kernel,rfl,by decide +kernel,by decide +kernel⟩
theorem Cf (x:Af):([x]:Aa Af).Nodup:=by simp
theorem Yr:(["k","spare","deck"]:Aa Af).Nodup:=by decide +kernel
theorem GV (F:Fun K "_law_names" "_law_names" Fl f fd) (T:Txt mg) (gT:Gd K mg "_law_take" xM ["deck","many"] fT a6) (gK:Gd K mg "_law_kept" Ew [] fK a4)
  (gM:Gd K mg "_law_made_names" Hf ["deck","many"] fM a5):FnOk P w K mg base pE 3 f fd ["deck","many"] Xf:=by
 have GT:FnOk P w K mg base pE 1 fT a6 ["deck","many"] Fd:=J0 gT.F T;have GK:FnOk P w K mg base pE 1 fK a4 [] Mv:=X1 gK.F;have GM:FnOk P w K mg base pE 2 fM a5 ["deck","many"] Ta:=KC gM.F T gT gK;refine F.ok Dh (λvs H Q E h=>?_) (λbf A bd s H vs Q E hr h=>?_)
 .obtain⟨d,c,m,rfl,_⟩:=h;rfl
 .obtain⟨d,c,m,rfl,D,hm,k⟩:=h;have aj:Room 1 _:=hr.mono (by decide);have hu:=hr.units;refine Pr _ (qD (i:=2) Dh.nd rfl (Or.inl rfl) wQ) ?_;refine zR (λσ S=>∃ v3,σ=[some (.ref d),some (.int m),some (.str pG),v3,none]/\DeckAt S d c/\nI d c H S) (λu L=>?_) ?_
  .-- if _law_take(deck,2) == 1
   refine⟨_,A4 (wY J6 (uP GT aj rfl gT.m gT.k gT.b .nil tJ (nA (pv 0) (nA nU nK))) nU (xJ _)) (qE (qD (i:=3) Dh.nd rfl (Or.inl rfl) (uP GM hr rfl gM.m gM.k gM.b .nil tJ (nA (pv 0) (nA (pv 1) nK)))) (sD (A4 (PW.pt (X4 (wY J6 (wE FE (by rfl) T.len bN (nA (Oa (MC rfl) (by rfl) T.set PyProof.Rows.boot_set (nA (pv 3) nK)) nK)) (pv 1) (xJ _)) (Xg (wY (Oi hu) (zY ["name"] [] [] rfl (Z9 (pv 3)) rfl rfl (λB v C cl fp=>wS (i:=0) (Cf _) rfl (Or.inl rfl)) (λB v C cl fp=>M8 (wY (r:=Ft K false) Mh (pv 0) (Vn GK aj rfl gK.m gK.k gK.b .nil tJ) rfl)) (λB v C cl fp=>pv 0)) (rE nK) (xJ _))))) (sD (yG (pv 3))) C8))) C8,?_⟩;refine⟨_,rfl,d,c,2,rfl,D,by decide,by decide,λr1 H1 a0 a1 D1 k1=>⟨rfl,_,rfl,?_⟩⟩;refine Ay (λ_=>?_) (λ_=>L _ _ ⟨none,rfl,D1,k1⟩);refine⟨_,rfl,_,rfl,d,c,m,rfl,D1,hm,λl O H2 nl hl av ba D2 k2=>?_⟩;have kk:nI d c H H2:=k1.trans k2;have ax:=D1.ned nl;have a8:H l=none:=k1.free ax.1 ax.2 nl;refine⟨_,rfl,l,O,rfl,mL.of hl,by omega,λp np=>?_⟩;have k3:=kk.trans (nI.new (d:=d) (c:=c) (o:=Cb P w p (pM O).length) np);have D3:=D2.new (o:=Cb P w p (pM O).length) np;have ai:upd H2 p (Cb P w p (pM O).length) l=some (.l (O.map V.str)):=by rw[mT (nQ hl np)];exact hl
   refine⟨p,_,rfl,mX,_,rfl,rfl,_,rfl,?_⟩;refine Ay (λa9=>?_) (λ_=>rY (L _ _ ⟨_,rfl,D3,k3⟩));have J:O.Nodup:=by
    have:=cU a9;injection this with this;exact OD (by omega)
   refine⟨_,rfl,l,rfl,⟨_,mL.of ai⟩,λR n=>?_⟩;have G:=D3.ned n;have ac:H R=none:=k3.free G.1 G.2 n;have lD:l≠R:=nQ ai n;refine Mm JQ (λi ys S=>∃ t:Aa Af,ys=t.map V.str/\t.length<=i/\((∃ x∈O.take i,x∈tE)->t≠[])/\((∀ x∈O.take i,x∉tE)->t=[])/\DeckAt S d c/\nI d c H S/\S R=some (.l ys)/\S l=some (.l (O.map V.str)))
    ⟨[],rfl,aU _,(λ⟨x,N,_⟩=>by simp at N),(λ_=>rfl),D3.new n,k3.trans (nI.new n),mX,by rw[mT lD];exact ai⟩ (λi ys S _ ⟨_,_,_,_,_,_,_,_,h⟩=>mL.of h) ?_ ?_
   .rintro i x ys S N ⟨t,rfl,aw,U,af,D4,k4,g,I⟩;obtain⟨y,hy,rfl⟩:∃ y,O[i]?=some y/\V.str y=x:=by
     rw[aW] at N;cases e:O[i]? with
     | none=>rw[e] at N;cases N
     | some y=>rw[e] at N;exact⟨y,rfl,bK N⟩
    have hi:i<O.length:=(aL.mp hy).1;have et:O.take (i+1)=O.take i++[y]:=by rw[bM,hy];rfl
    refine⟨_,rfl,rfl,λq nq=>?_⟩;have bh:=D4.ned nq;refine⟨q,_,rfl,.inl (mL.of mX),rfl,Of _,_,rfl,?_⟩;have D5:=D4.new (o:=.l (tE.map V.str)) nq;have k5:=k4.trans (nI.new (d:=d) (c:=c) (o:=.l (tE.map V.str)) nq);have ab:upd S q (.l (tE.map V.str)) R=some (.l (t.map V.str)):=by rw[mT (nQ g nq)];exact g
    have ae:upd S q (.l (tE.map V.str)) l=some (.l (O.map V.str)):=by rw[mT (nQ I nq)];exact I
    rw[Qw];refine Ay (λhk=>?_) (λhk=>?_)
    .have ah:y∈tE:=cU hk;refine⟨_,rfl,⟨_,rfl⟩,ab,?_,t++[y],by simp,by simp;omega,λ_=>by simp,λh=>absurd ah (h y (by rw[et];simp)),D5.upd_other G.1 G.2,?_,mX,?_⟩
     .rw[aA];exact bI (show t.length<1000 by omega) (by decide)
     .exact λb o e g1 g2=>by rw[mT (nQ e ac)];exact k5 b o e g1 g2
     .rw[mT lD];exact ae
    .have ah:y∉tE:=λz=>hk (bJ z)
     refine⟨⟨_,rfl⟩,t,rfl,by omega,?_,?_,D5,k5,ab,ae⟩
     .rintro ⟨z,hz,ak⟩;rw[et] at hz;rcases aV.mp hz with q' | q'
      .exact U ⟨z,q',ak⟩
      .rw[aX.mp q'] at ak;exact absurd ak ah
     .exact λh=>af λz hz=>h z (by rw[et];exact bB _ hz)
   .rintro ys S ⟨t,rfl,aw,U,af,D4,k4,g,I⟩;rw[aA] at aw U af;rw[bL (aU _)] at U af;refine⟨(by show 0<=sizeLine;decide),λq nq=>?_⟩;have D5:=D4.new (o:=.l []) nq;have k5:=k4.trans (nI.new (d:=d) (c:=c) (o:=.l []) nq);have ab:upd S q (.l []) R=some (.l (t.map V.str)):=by rw[mT (nQ g nq)];exact g
    have ae:upd S q (.l []) l=some (.l (O.map V.str)):=by rw[mT (nQ I nq)];exact I
    refine⟨R,q,_,rfl,rfl,mL.of ab,mL.of mX,_,rfl,?_⟩;refine Ay (λhe=>?_) (λ_=>L _ _ ⟨_,rfl,D5,k5⟩);have bc:t=[]:=by
     cases t with
     | nil=>rfl
     | cons a r=>simp at he
    refine⟨_,rfl,k l O _ a8 ae av J (λx N=>⟨ba x N,λhk=>U ⟨x,N,hk⟩ bc⟩) D5 k5⟩
  .rintro σ S ⟨v3,rfl,D4,k4⟩;refine zR (λσ H7=>∃ p2,σ=[some (.ref d),some (.int m),some (.str pG),v3,some (.ref p2)]/\H7 p2=some (.l ((tU pG++wD).map V.str))/\DeckAt H7 d c/\nI d c H H7/\H p2=none) (λu L=>?_) ?_
   .refine⟨_,qD (i:=4) Dh.nd rfl (Or.inr rfl) (nT E1 (zY ["sign"] [] [] rfl (BB (pv 2)) rfl rfl (λB v C cl fp=>wS (i:=0) (Cf _) rfl (Or.inl rfl)) (λB v C cl fp=>E9) (λB v C cl fp=>pv 0)) (@rE _ _ _ _ (@zJ _ [("cell",_,_),("along",_,_),("lay",_,_),("judge",_,_),("late",_,_),("gates",_,_),("ways",_,_),("show",_,_)]))),?_⟩;refine⟨_,rfl,pG,rfl,by decide +kernel,λR n=>?_⟩;refine NB RF id n (λ_ _=>True.intro) (by rw[show (B4 pG).length=26 by decide +kernel];decide) (λi x H5 kk N _ h=>⟨_,rfl,h⟩) ?_;have e1:(B4 pG).map id=(tU pG).map V.str:=by rw[List.map_id];unfold B4 tU;rw[List.map_map];rfl
    rw[e1];refine⟨(by show 8<=sizeLine;decide),λp1 n1=>?_⟩;have h0:upd (upd S R (.l ((tU pG).map V.str))) p1 (.l (wD.map V.str)) R=some (.l ((tU pG).map V.str)):=by rw[mT (nQ mX n1)];exact mX
    refine⟨R,p1,_,_,rfl,rfl,h0,mX,(by rw[aA,show (tU pG).length=26 by decide +kernel];show 26+8<=sizeLine;decide),λp2 n2=>?_⟩;have D7:=((D4.new (o:=.l ((tU pG).map V.str)) n).new (o:=.l (wD.map V.str)) n1);have k7:=(k4.trans (nI.new (d:=d) (c:=c) (o:=.l ((tU pG).map V.str)) n)).trans (nI.new (d:=d) (c:=c) (o:=.l (wD.map V.str)) n1);have ay:=D7.ned n2;refine L _ _ ⟨p2,rfl,?_,D7.new n2,k7.trans (nI.new n2),k7.free ay.1 ay.2 n2⟩;rw[mX,aM];rfl
   rintro σ H7 ⟨p2,rfl,h7,D7,k7,z7⟩;refine zR (λσ H8=>∃ p3,σ=[some (.ref d),some (.int m),some (.str pG),v3,some (.ref p3)]/\H8 p3=some (.l ((tU pG++wD++zO).map V.str))/\DeckAt H8 d c/\nI d c H H8/\H p3=none) (λu L=>?_) ?_
   .refine⟨_,qD (i:=4) Dh.nd rfl (Or.inr rfl) (nT E1 (pv 4) (@rE _ _ _ _ (@zJ _ [("andx",_,_),("orb",_,_),("oddly",_,_),("mosts",_,_),("nots",_,_),("ones",_,_),("nila",_,_),("inn",_,_),("outer",_,_),("aa",_,_),("ab",_,_),("ba",_,_)]))),?_⟩;refine⟨_,rfl,(by show 12<=sizeLine;decide),λp1 n1=>?_⟩;have h0:upd H7 p1 (.l (zO.map V.str)) p2=some (.l ((tU pG++wD).map V.str)):=by rw[mT (nQ h7 n1)];exact h7
    refine⟨p2,p1,_,_,rfl,rfl,h0,mX,(by rw[aA,show (tU pG++wD).length=34 by decide +kernel];show 34+12<=sizeLine;decide),λp3 n3=>?_⟩;have D8:=D7.new (o:=.l (zO.map V.str)) n1;have k8:=k7.trans (nI.new (d:=d) (c:=c) (o:=.l (zO.map V.str)) n1);have az:=D8.ned n3;refine L _ _ ⟨p3,rfl,?_,D8.new n3,k8.trans (nI.new n3),k8.free az.1 az.2 n3⟩;rw[mX,aM (l₁:=tU pG++wD)];rfl
   rintro σ H8 ⟨p3,rfl,h8,D8,k8,z8⟩;refine zR (λσ H9=>∃ Y,σ=[some (.ref d),some (.int m),some (.str pG),v3,some (.ref Y)]/\H9 Y=some (.l (Bl.map V.str))/\DeckAt H9 d c/\nI d c H H9/\H Y=none) (λu L=>?_) ?_
   .refine⟨_,qD (i:=4) Dh.nd rfl (Or.inr rfl) (nT E1 (pv 4) (@rE _ _ _ _ (@zJ _ [("abcdefgh",_,_),("abcdefgi",_,_),("zzzzzzzz",_,_),("names",_,_),("judged",_,_),("rowsofx",_,_)]))),?_⟩;refine⟨_,rfl,(by show 6<=sizeLine;decide),λp1 n1=>?_⟩;have h0:upd H8 p1 (.l (Hy.map V.str)) p3=some (.l ((tU pG++wD++zO).map V.str)):=by rw[mT (nQ h8 n1)];exact h8
    refine⟨p3,p1,_,_,rfl,rfl,h0,mX,(by rw[aA,show (tU pG++wD++zO).length=46 by decide +kernel];show 46+6<=sizeLine;decide),λY n4=>?_⟩;have D9:=D8.new (o:=.l (Hy.map V.str)) n1;have k9:=k8.trans (nI.new (d:=d) (c:=c) (o:=.l (Hy.map V.str)) n1);have X:=D9.ned n4;refine L _ _ ⟨Y,rfl,?_,D9.new n4,k9.trans (nI.new n4),k9.free X.1 X.2 n4⟩;unfold Bl;rw[mX,aM (l₁:=tU pG++wD++zO)];rfl
   rintro σ H9 ⟨Y,rfl,h9,D9,k9,z9⟩;refine⟨_,sD (yG (zY ["k"] ["spare","deck"] [4,0] rfl (Di rfl T.range (nA (pv 1) nK)) rfl rfl (λB v C cl fp=>wS (i:=0) Yr rfl (Or.inl rfl)) (λB v C cl fp=>E9) (λB v C cl fp=>PR K bF gG gI Fo (pv 1) (nA (uP GT aj rfl gT.m gT.k gT.b .nil tJ (nA (pv 2) (nA (wE (LK K) (by rfl) T.len bN (nA (pv 1) nK)) nK))) nK)))),?_⟩;refine⟨_,rfl,_,rfl,by omega,by omega,λR n=>?_⟩;have G:=D9.ned n;have ac:H R=none:=k9.free G.1 G.2 n;have X:Y≠d/\Y≠c:=D.ned z9;have ar:Y≠R:=nQ h9 n;refine Lg Rh (λi ys W=>∃ t M:Aa Af,ys=t.map V.str/\t.length=i/\M.length+i=52/\(t++M).Nodup/\(∀ x∈t++M,GoodName x)/\W Y=some (.l (M.map V.str))/\DeckAt W d c/\nI d c H W/\W R=some (.l ys))
    ⟨[],Bl,rfl,rfl,IH,AS,GN,by rw[mT ar];exact h9,D9.new n,k9.trans (nI.new n),mX⟩ (λ_ _ _ _ _=>True.intro) ?_ ?_
   .rintro i x ys W N ⟨t,M,rfl,an,bb,J,hg,aa,ag,ao,Z⟩;have hi:i<40:=by
     have:=(aL.mp N).1;simp at this;omega
    refine⟨_,rfl,.inl ⟨rfl,_,mL.of aa⟩,_,rfl,_,rfl,Y,_,rfl,.inl (mL.of aa),d,c,_,rfl,ag,by rw[aA];omega,by rw[aA];omega,λr be b0 b1 a3 aq=>?_⟩;rw[aA] at b1;obtain⟨j,rfl⟩:=cW b0;have hj:j<M.length:=by omega
    have a7:=aq Y _ aa X.1 X.2;have au:=aq R _ Z G.1 G.2;have hy:M[j]?=some M[j]:=aE hj;have pm:=X9 hy;have a2:((t++[M[j]])++M.eraseIdx j).Perm (t++M):=by
     rw[bP];exact gF t pm
    have bg:(M.eraseIdx j).length+1=M.length:=by
     rw[List.length_eraseIdx,aO hj];omega
    refine⟨Y,_,_,j,.str M[j],rfl,rfl,a7,by omega,by omega,?_,by simp[hj],⟨_,rfl⟩,by rw[mT ar.symm];exact au,?_,t++[M[j]],M.eraseIdx j,by simp,by simp[an],by omega,a2.symm.nodup J,λx N=>hg x (a2.mem_iff.mp N),?_,?_,?_,mX⟩
    .rw[aA];exact PySem.StrLaws.seqIndex_nonneg (by omega) (by omega)
    .rw[aA];exact bI (show t.length<1000 by omega) (by decide)
    .rw[mT ar,mX,Qk]
    .exact (a3.upd_other X.1 X.2).upd_other G.1 G.2
    .exact λb o e g1 g2=>by rw[mT (nQ e ac),mT (nQ e z9)];exact aq b o (ao b o e g1 g2) g1 g2
   .rintro ys W ⟨t,M,rfl,an,bb,J,hg,aa,ag,ao,Z⟩;rw[aA,cF] at an;exact k R t W ac Z (by omega) (List.Nodup.sublist (List.sublist_append_left t M) J) (λx N=>hg x (bB _ N)) ag ao
end
noncomputable def vM:Aa Af:=["and","or","odd"]
structure ArOk (w:Str) (n:Nat):Prop where
 ok:(w∈vM/\(n=2\/n=3))\/(w = "most" /\ n=3)\/(w = "not" /\ n=1)\/(w = "one" /\ n=0)\/(w = "nil" /\ n=0)
def Il:Aa Af:=["and","or","odd","most","not","one","nil","and","odd","most"]
def wL:Aa Af:=["most","not","one","nil"]
def zM:Aa Int:=[3,1,0,0]
theorem LA (h:w∈Il) (g:w∉vM):w = "most" \/ w = "not" \/ w = "one" \/ w = "nil" := by
 unfold Il at h;unfold vM at g;simp only[aK,bD,eZ,mH] at h g;obtain⟨g1,g2,g3⟩:=g;rcases h with q | q | q | q | q | q | q | q | q | q
 .exact absurd q g1
 .exact absurd q g2
 .exact absurd q g3
 .exact .inl q
 .exact .inr (.inl q)
 .exact .inr (.inr (.inl q))
 .exact .inr (.inr (.inr q))
 .exact absurd q g1
 .exact absurd q g3
 .exact .inl q
theorem JA {w:Af}(h:w = "most" \/ w = "not" \/ w = "one" \/ w = "nil"):∃ (j:Nat) (n:Nat),j<4/\(∀ z,(wL.map V.str)[j]?=some z->qI z (.str w)=true)/\(∀ (m:Nat) z,m<j->(wL.map V.str)[m]?=some z->qI z (.str w)=false) /\
  oQ (zM.map V.int) (j:Int)=some (.int n)/\ArOk w n:=by
 have go:∀ (j:Nat) (n:Nat),j<4->wL[j]?=some w->oQ (zM.map V.int) (j:Int)=some (.int n)->(∀ m,m<j->∀ y,wL[m]?=some y->¬ y=w)->ArOk w n->∃ (j:Nat) (n:Nat),j<4/\(∀ z,(wL.map V.str)[j]?=some z->qI z (.str w)=true)/\(∀ (m:Nat) z,m<j->(wL.map V.str)[m]?=some z->qI z (.str w)=false) /\
   oQ (zM.map V.int) (j:Int)=some (.int n)/\ArOk w n:=by
  intro j n k hw i q s;refine⟨j,n,k,λz c=>?_,λm z d c=>?_,i,s⟩
  .rw[aW,hw] at c;cases c;show (w == w)=true;exact hU w
  .rw[aW] at c;cases e:wL[m]? with
   | none=>rw[e] at c;cases c
   | some y =>
    rw[e] at c;cases c;show (y == w)=false;exact cQ.mpr (q m d y e)
 have t:∀ {a b:Nat},a<b->b<=4->a=0\/a=1\/a=2\/a=3:=λu v=>by omega
 rcases h with rfl | rfl | rfl | rfl
 .exact go 0 3 (by decide) rfl rfl (λm d=>absurd d (mD _)) ⟨.inr (.inl ⟨rfl,rfl⟩)⟩
 .refine go 1 1 (by decide) rfl rfl (λm d y f=>?_) ⟨.inr (.inr (.inl ⟨rfl,rfl⟩))⟩;obtain rfl:m=0:=by omega
  cases f;decide +kernel
 .refine go 2 0 (by decide) rfl rfl (λm d y f=>?_) ⟨.inr (.inr (.inr (.inl ⟨rfl,rfl⟩)))⟩;rcases (show m=0\/m=1 by omega) with rfl | rfl<;>(cases f;decide +kernel)
 .refine go 3 0 (by decide) rfl rfl (λm d y f=>?_) ⟨.inr (.inr (.inr (.inr ⟨rfl,rfl⟩)))⟩;rcases (show m=0\/m=1\/m=2 by omega) with rfl | rfl | rfl<;>(cases f;decide +kernel)
def Vi:Sp:=λi H Q _=>∃ (d c b:Ad) (e:Aa Af),i=[.ref d,.ref b]/\DeckAt H d c/\H b=some (.l (e.map V.str))/\b≠d/\b≠c/\e.length<=100 /\
 ∀ (t q:Ad) (h:Af) (f:Aa Af) (a:Hp),H t=none->H q=none->a t=some (.t [.str h,.ref q])->a q=some (.t (f.map V.str))->ArOk h f.length->(∀ p∈f,p∈e)->DeckAt a d c->nI d c H a->Q (.ref t) a
section
variable {P:Ah}{K:mI}
theorem Ai:FnScope ["deck","known","word","many","parts","k","at"] ["deck","known"] (nF G8):=⟨rfl,rfl,rfl,by decide +kernel,rfl,by decide +kernel,by decide +kernel⟩
theorem SE (F:Fun K "_law_gate" "_law_gate" G8 f fd) (T:Txt mg) (g:Gd K mg "_law_take" xM ["deck","many"] fT aw):FnOk P w K mg base pE 2 f fd ["deck","known"] Vi:=by
 have GT:FnOk P w K mg base pE 1 fT aw ["deck","many"] Fd:=J0 g.F T;refine F.ok Ai (λvs H Q E h=>?_) (λa3 A ay s H vs Q E hr h=>?_)
 .obtain⟨d,c,B,G,rfl,_⟩:=h;rfl
 .obtain⟨d,c,B,G,rfl,D,ah,ac,ab,a5,k⟩:=h;have hu:=hr.units;refine zR (λO H1=>∃ N,O=[some (.ref d),some (.ref B),some (.str N),none,none,none,none]/\N∈Il/\DeckAt H1 d c/\nI d c H H1) (λu v=>?_) ?_
  .refine⟨_,@qD _ _ 2 _ _ _ _ Ai.nd rfl (Or.inl rfl) (@qQ _ _ _ _ _ _ _ sS (@rE _ _ _ _ (@zJ _ [("and",_,_),("or",_,_),("odd",_,_),("most",_,_),("not",_,_),("one",_,_),("nil",_,_),("and",_,_),("odd",_,_),("most",_,_)])) (uP GT hr rfl g.m g.k g.b .nil tJ (nA (pv 0) (nA nU nK))) (λ_ _=>rfl)) (by rfl) (.inl rfl),?_⟩;refine⟨(by show 10<=sizeLine;decide),λp np=>⟨_,rfl,d,c,10,rfl,D.new np,by decide,by decide,λr H1 a0 a1 D1 k1=>?_⟩⟩;have L:=D.ned np;have h1:=k1 p _ mX L.1 L.2;obtain⟨N,R,hw⟩:=I3 (xs:=Il) a0 (by exact a1);exact⟨p,_,_,.str N,rfl,rfl,mL.of h1,R,v _ _ ⟨N,rfl,hw,D1,(nI.new np).trans k1⟩⟩
  rintro O H1 ⟨N,rfl,hw,D1,k1⟩;refine zR (λO H2=>∃ n:Int,O=[some (.ref d),some (.ref B),some (.str N),some (.int n),none,none,none]/\DeckAt H2 d c/\nI d c H H2) (λu v=>?_) ?_
  .refine⟨_,@qD _ _ 3 _ _ _ _ Ai.nd rfl (Or.inl rfl) (@qQ _ _ _ _ _ _ _ sS (@rE _ _ _ _ (@Go _ [(2,_,_),(2,_,_),(2,_,_),(3,_,_),(1,_,_),(0,_,_),(0,_,_),(3,_,_),(3,_,_),(3,_,_)])) (uP GT hr rfl g.m g.k g.b .nil tJ (nA (pv 0) (nA nU nK))) (λ_ _=>rfl)) (by rfl) (.inl rfl),?_⟩;refine⟨(by show 10<=sizeLine;decide),λp np=>⟨_,rfl,d,c,10,rfl,D1.new np,by decide,by decide,λr H2 a0 a1 D2 k2=>?_⟩⟩;have L:=D1.ned np;have h2:=k2 p _ mX L.1 L.2;obtain⟨j,rfl⟩:=cW a0;have hj:j<([2,2,2,3,1,0,0,3,3,3]:Aa Int).length:=by show j<10;omega
   have R:oQ (([2,2,2,3,1,0,0,3,3,3]:Aa Int).map V.int) ((j:Nat):Int)=some (V.int ([2,2,2,3,1,0,0,3,3,3]:Aa Int)[j]):=qT (by rw[aW,aE hj];rfl);exact⟨p,_,_,_,rfl,rfl,mL.of h2,R,v _ _ ⟨_,rfl,D2,k1.trans ((nI.new np).trans k2)⟩⟩
  rintro O H2 ⟨n0,rfl,D2,k2⟩;refine zR (λO H3=>∃ n:Nat,O=[some (.ref d),some (.ref B),some (.str N),some (.int n),none,none,none]/\ArOk N n/\n<=3/\DeckAt H3 d c/\nI d c H H3) (λu v=>?_) ?_
  .refine⟨_,A4 (wY Mh (pv 2) (@rE _ _ _ _ (@zJ _ [("and",_,_),("or",_,_),("odd",_,_)])) rfl) (sD (@qD _ _ 3 _ _ _ _ Ai.nd rfl (Or.inl rfl) (@qQ _ _ _ _ _ _ _ sS (@rE _ _ _ _ (@Go _ [(2,_,_),(3,_,_)])) (nT tD (pv 3) nU) (λ_ _=>rfl)) (by rfl) (.inl rfl))) (sD (@qD _ _ 3 _ _ _ _ Ai.nd rfl (Or.inl rfl) (@qQ _ _ _ _ _ _ _ sS (@rE _ _ _ _ (@Go _ [(3,_,_),(1,_,_),(0,_,_),(0,_,_)])) (zE bF jJ PySem.F.type_list_index W6 (@rE _ _ _ _ (@zJ _ [("most",_,_),("not",_,_),("one",_,_),("nil",_,_)])) (nA (pv 2) nK)) (λ_ _=>rfl)) (by rfl) (.inl rfl))),?_⟩;refine⟨_,rfl,(by show 3<=sizeLine;decide),λp np=>⟨p,vM.map V.str,rfl,.inl (mL.of mX),rfl,Of _,_,rfl,?_⟩⟩;have D3:=D2.new (o:=.l (vM.map V.str)) np;have k3:=k2.trans (nI.new (d:=d) (c:=c) (o:=.l (vM.map V.str)) np);rw[Qw];refine Ay (λhk=>?_) (λhk=>?_)
   .have aa:N∈vM:=cU hk;refine⟨(by show 2<=sizeLine;decide),λY M=>⟨_,rfl,_,_,rfl,rfl,(by show (0:Int)<2;decide),?_⟩⟩;have b0:=dJ n0 (show (2:Int)≠0 by decide);have b1:=cP n0 (show (0:Int)<2 by decide);have J:=D3.new (o:=.l [V.int 2,V.int 3]) M;have k4:=k3.trans (nI.new (d:=d) (c:=c) (o:=.l [V.int 2,V.int 3]) M);rcases (show n0%2=0\/n0%2=1 by omega) with e | e
    .exact⟨Y,_,_,.int 2,rfl,rfl,mL.of mX,by rw[e];rfl,v _ _ ⟨2,rfl,⟨.inl ⟨aa,.inl rfl⟩⟩,by decide,J,k4⟩⟩
    .exact⟨Y,_,_,.int 3,rfl,rfl,mL.of mX,by rw[e];rfl,v _ _ ⟨3,rfl,⟨.inl ⟨aa,.inr rfl⟩⟩,by decide,J,k4⟩⟩
   .have aa:N∉vM:=λz=>hk (bJ z)
    obtain⟨j,n,hj,i1,i2,R,ho⟩:=JA (LA hw aa);refine⟨(by show 4<=sizeLine;decide),λY M=>⟨(by show 4<=sizeLine;decide),λp3 ao=>⟨.inl ⟨rfl,_,mL.of mX⟩,_,rfl,?_⟩⟩⟩;have J:=(D3.new (o:=.l (zM.map V.int)) M).new (o:=.l (wL.map V.str)) ao;have k4:=(k3.trans (nI.new (d:=d) (c:=c) (o:=.l (zM.map V.int)) M)).trans (nI.new (d:=d) (c:=c) (o:=.l (wL.map V.str)) ao);refine⟨p3,wL.map V.str,.str N,j,rfl,rfl,mL.of mX,Of _,rfl,hj,i1,i2,?_⟩;have h2:upd (upd (upd H2 p (.l (vM.map V.str))) Y (.l (zM.map V.int))) p3 (.l (wL.map V.str)) Y=some (.l (zM.map V.int)):=by rw[mT (nQ mX ao)];exact mX
    refine⟨Y,zM.map V.int,_,.int n,rfl,rfl,mL.of h2,R,v _ _ ⟨n,rfl,ho,?_,J,k4⟩⟩;rcases ho.ok with⟨_,q | q⟩ | ⟨_,q⟩ | ⟨_,q⟩ | ⟨_,q⟩ | ⟨_,q⟩<;>omega
  rintro O H3 ⟨n,rfl,ho,hn,D3,k3⟩;have af:=k3 B _ ah ac ab;refine zR (λO H4=>∃ a:Nat,O=[some (.ref d),some (.ref B),some (.str N),some (.int n),none,none,none]/\0<G.length/\DeckAt H4 d c/\nI d c H H4) (λu v=>?_) ?_
  .refine⟨_,A4 (wY (Oi hu) (pv 1) (rE nK) (xJ _)) (sD (yG (Ca (nA (qQ sS (rE (nA wQ (nA wQ nK))) (nT tD (pv 3) nU) (λ_ _=>rfl)) (nA (Ca nK) nK))))) C8,?_⟩;refine⟨_,rfl,(by show 0<=sizeLine;decide),λp np=>?_⟩;have J:=D3.new (o:=.l []) np;have k4:=k3.trans (nI.new (d:=d) (c:=c) (o:=.l []) np);have ar:upd H3 p (.l []) B=some (.l (G.map V.str)):=by rw[mT (nQ af np)];exact af
   refine⟨B,p,_,rfl,rfl,mL.of ar,mL.of mX,_,rfl,?_⟩;refine Ay (λhe=>?_) (λhe=>v _ _ ⟨0,rfl,?_,J,k4⟩)
   .refine⟨(by show 2<=sizeLine;decide),λY M=>⟨_,rfl,_,_,rfl,rfl,(by show (0:Int)<2;decide),?_⟩⟩;have b0:=dJ (n:Int) (show (2:Int)≠0 by decide);have b1:=cP (n:Int) (show (0:Int)<2 by decide);have D5:=J.new (o:=.l [V.str (Str.ofString "one"),V.str (Str.ofString "nil")]) M;have k5:=k4.trans (nI.new (d:=d) (c:=c) (o:=.l [V.str (Str.ofString "one"),V.str (Str.ofString "nil")]) M);have fin:∀ w2:Af,ArOk w2 0->∀ q,upd (upd H3 p (.l [])) Y (.l [V.str (Str.ofString "one"),V.str (Str.ofString "nil")]) q=none ->
      ∀ t,upd (upd (upd H3 p (.l [])) Y (.l [V.str (Str.ofString "one"),V.str (Str.ofString "nil")])) q (.t []) t=none ->
      Q (.ref t) (upd (upd (upd (upd H3 p (.l [])) Y (.l [V.str (Str.ofString "one"),V.str (Str.ofString "nil")])) q (.t [])) t (.t [.str w2,.ref q])):=by
     intro w2 ax q X t S;have D6:=D5.new (o:=.t []) X;have k6:=k5.trans (nI.new (d:=d) (c:=c) (o:=.t []) X);have C:=D5.ned X;have I:=D6.ned S;exact k t q w2 [] _ (k6.free I.1 I.2 S) (k5.free C.1 C.2 X) mX (by rw[mT (nQ mX S)];exact mX) ax (λp hp=>nomatch hp) (D6.new S) (k6.trans (nI.new S))
    rcases (show (n:Int)%2=0\/(n:Int)%2=1 by omega) with e | e
    .refine⟨Y,_,_,.str "one",rfl,rfl,mL.of mX,by rw[e];rfl,(by show 0<=sizeLine;decide),λq X=>⟨(by show 2<=sizeLine;decide),λt S=>?_⟩⟩;exact fin "one" ⟨.inr (.inr (.inr (.inl ⟨rfl,rfl⟩)))⟩ q X t S
    .refine⟨Y,_,_,.str "nil",rfl,rfl,mL.of mX,by rw[e];rfl,(by show 0<=sizeLine;decide),λq X=>⟨(by show 2<=sizeLine;decide),λt S=>?_⟩⟩;exact fin "nil" ⟨.inr (.inr (.inr (.inr ⟨rfl,rfl⟩)))⟩ q X t S
   .cases G with
    | nil=>simp at he
    | cons a r=>simp
  rintro O H4 ⟨_,rfl,a4,J,k4⟩;refine⟨_,qE (qD (i:=4) Ai.nd rfl (Or.inl rfl) (rE nK)) (qE (Bc eF rfl (Di rfl T.range (nA (pv 3) nK)) (wS (i:=5) Ai.nd rfl (Or.inl rfl)) (qE (qD (i:=6) Ai.nd rfl (Or.inl rfl) (qQ sS (rE (nA (uP GT hr rfl g.m g.k g.b .nil tJ (nA (pv 0) (nA (wE zC (by rfl) T.len bN (nA (pv 1) nK)) nK))) (nA (nT vR (nT vR (wE zC (by rfl) T.len bN (nA (pv 1) nK)) nU) (uP GT hr rfl g.m g.k g.b .nil tJ (nA (pv 0) (nA (wE (V3 rfl) (by rfl) T.min iJ (nA nU (nA (wE zC (by rfl) T.len bN (nA (pv 1) nK)) nK))) nK)))) nK))) (uP GT hr rfl g.m g.k g.b .nil tJ (nA (pv 0) (nA nU nK))) (λ_ _=>rfl))) (sD (Kl (zE bF bQ bR sK (pv 4) (nA (qQ sS (pv 1) (pv 6) (λ_ _=>rfl)) nK)))))) (sD (yG (Ca (nA (pv 2) (nA (Oa uR (by rfl) T.tuple cB (nA (pv 4) nK)) nK)))))),?_⟩;refine⟨(by show 0<=sizeLine;decide),λl nl=>?_⟩;have an:=J.ned nl;have aq:H l=none:=k4.free an.1 an.2 nl;have lk:l≠B:=(nQ ah aq).symm;refine⟨_,rfl,_,rfl,by omega,by omega,?_⟩;rw[bT];refine Kj (lo:=0) (n:=n) (λi O U=>∃ (W:Aa Af) (v5 v6:Ab V),O=[some (.ref d),some (.ref B),some (.str N),some (.int n),some (.ref l),v5,v6]/\W.length=i/\(∀ p∈W,p∈G)/\U l=some (.l (W.map V.str))/\DeckAt U d c/\nI d c H U)
   ⟨[],none,none,rfl,rfl,(λp hp=>nomatch hp),mX,J.new nl,k4.trans (nI.new nl)⟩ ?_ ?_
  .rintro i O U hi ⟨W,v5,v6,rfl,ai,ak,h5,D5,k5⟩;have Z:=k5 B _ ah ac ab;have aj:(if ((G.map V.str).length:Int)<4 then ((G.map V.str).length:Int) else 4)=(if (G.length:Int)<4 then (G.length:Int) else 4):=by rw[aA]
   refine⟨_,rfl,_,rfl,B,_,rfl,.inl (mL.of Z),d,c,_,rfl,D5,by rw[aA];omega,by rw[aA];omega,λr1 H6 a0 a1 D6 k6=>?_⟩;have ag:=k6 B _ Z ac ab;refine⟨_,rfl,B,_,rfl,.inl (mL.of ag),_,_,rfl,rfl,_,rfl,_,rfl,B,_,rfl,.inl (mL.of ag),_,_,rfl,d,c,_,rfl,D6,?_,?_,λr2 H7 b0 b1 D7 k7=>?_⟩
   .rw[aj];split<;>omega
   .rw[aj];split<;>omega
   have a2:r2<G.length:=by
    rw[aj] at b1;split at b1<;>omega
   refine⟨_,_,rfl,rfl,(by show 2<=sizeLine;decide),λp np=>?_⟩;have D8:=D7.new (o:=.l [V.int r1,V.int (((G.map V.str).length:Int)-1-r2)]) np;refine⟨_,rfl,d,c,2,rfl,D8,by decide,by decide,λr3 H9 c0 c1 D9 k9=>?_⟩;have L:=D7.ned np;have h9:=k9 p _ mX L.1 L.2;have k8:nI d c U H9:=((k6.trans k7).trans (nI.new np)).trans k9;have au:=k8 B _ Z ac ab;have ae:l≠d/\l≠c:=an;have av:=k8 l _ h5 ae.1 ae.2;rw[aA] at a1;have fin:∀ a:Int,0<=a->a<G.length->∃ x,oQ (G.map V.str) a=some (V.str x)/\x∈G:=λa g0 g1=>I3 g0 g1
   have go:∀ a:Int,0<=a->a<G.length->oQ [V.int r1,V.int (((G.map V.str).length:Int)-1-r2)] r3=some (V.int a)->Hh K (.ref p) (.int r3) H9 λx H1=>An 6 x [some (.ref d),some (.ref B),some (.str N),some (.int n),some (.ref l),some (.int (0+i)),v6] H1 λaz H' =>
     (Uv (K7 K "list" Nc (pX 4) (A2 (Bg (Hh K) (pX 1) (pX 6)) Dy))) { nx:=λO U=>∃ (W:Aa Af) (v5 v6:Ab V),O=[some (.ref d),some (.ref B),some (.str N),some (.int n),some (.ref l),v5,v6]/\W.length=i+1/\(∀ p∈W,p∈G)/\U l=some (.l (W.map V.str))/\DeckAt U d c/\nI d c H U,rt:=Q } az H':=by
    intro a g0 g1 R;obtain⟨x,hx,hm⟩:=fin a g0 g1;refine⟨p,_,_,.int a,rfl,rfl,mL.of h9,R,_,rfl,.inl ⟨rfl,_,mL.of av⟩,_,rfl,_,rfl,B,_,_,.str x,rfl,rfl,mL.of au,hx,l,_,.str x,rfl,rfl,av,?_,W++[x],_,_,rfl,by simp[ai],?_,?_,D9.upd_other ae.1 ae.2,?_⟩
    .rw[aA];exact bI (show W.length<1000 by omega) (by decide)
    .intro y hy;rcases aV.mp hy with q | q
     .exact ak y q
     .rw[aX.mp q];exact hm
    .rw[mX];simp
    .exact λb o e g1 g2=>by rw[mT (nQ e aq)];exact (k5.trans k8) b o e g1 g2
   rcases (show r3=0\/r3=1 by omega) with e | e
   .exact go r1 a0 a1 (by rw[e];rfl)
   .exact go (((G.map V.str).length:Int)-1-r2) (by rw[aA];omega) (by rw[aA];omega) (by rw[e];rfl)
  .rintro O U ⟨W,v5,v6,rfl,ai,ak,h5,D5,k5⟩;refine⟨_,rfl,_,rfl,l,_,rfl,.inl ⟨mL.of h5,λq X=>⟨(by show 2<=sizeLine;decide),λt S=>?_⟩⟩⟩;have C:=D5.ned X;have D6:=D5.new (o:=.t (W.map V.str)) X;have k6:=k5.trans (nI.new (d:=d) (c:=c) (o:=.t (W.map V.str)) X);have I:=D6.ned S;exact k t q N W _ (k6.free I.1 I.2 S) (k5.free C.1 C.2 X) mX (by rw[mT (nQ mX S)];exact mX) (by rw[ai];exact ho) ak (D6.new S) (k6.trans (nI.new S))
end
structure Cel where
 ins:List Str
 gates:List (Str×Str×List Str)
 outs:List Str
def Cel.names (C:Cel):Aa Af:=C.ins++C.gates.map (·.1)
def JE (H:Hp) (a:Ad) (g:Af×Af×Aa Af):Prop:=∃ q,H a=some (.t [.str g.1,.str g.2.1,.ref q])/\H q=some (.t (g.2.2.map V.str))
abbrev TH (H:Hp):Aa Ad->Aa (Af×Af×Aa Af)->Prop:=Paired (JE H)
def oR:Aa Af->Aa (Af×Af×Aa Af)->Prop
 | _,[]=>True
 | a,g::r=>ArOk g.2.1 g.2.2.length/\(∀ p∈g.2.2,p∈a)/\oR (a++[g.1]) r
theorem oR.snoc:∀ {l:Aa (Af×Af×Aa Af)}{j:Aa Af}{g:Af×Af×Aa Af},oR j l->ArOk g.2.1 g.2.2.length->(∀ p∈g.2.2,p∈j++l.map (·.1))->oR j (l++[g])
 | [],j,g,_,b,c=>⟨b,by simpa using c,True.intro⟩
 | a::r,j,g,h,b,c=>⟨h.1,h.2.1,oR.snoc h.2.2 b (by simpa using c)⟩
structure Good (C:Cel):Prop where
 nd:C.names.Nodup
 nm:∀ x∈C.names,GoodName x
 gt:oR C.ins C.gates
 os:∀ o∈C.outs,o∈C.names
 ond:C.outs.Nodup
 li:C.ins.length<=6
 lg:C.gates.length<=24
 lo:C.outs.length<=6
def xR:RD:=λa b e=>∃ (d c:Ad) (m:Int),a=[d,c]/\b=[.r (.ref d),.int m]/\0<m/\m<4611686018427387904/\∀ r:Nat,(r:Int)<m->e (.v (.int r))
def Km:RD:=λb e f=>∃ (d c:Ad) (m:Nat),b=[d,c]/\e=[.r (.ref d),.int m]/\m<=40/\∀ a:Aa Af,a.length=m->a.Nodup->(∀ x∈a,GoodName x)->f (.o (.l (a.map D.str)))
def Wf:RD:=λf h i=>∃ (d c:Ad) (a:Aa Af),f=[d,c]/\h=[.r (.ref d),.l (a.map D.str)]/\a.length<=100/\∀ (e:Af) (b:Aa Af),ArOk e b.length->(∀ p∈b,p∈a)->i (.v (.t [.str e,.t (b.map D.str)]))
theorem F4 (h:Dk [d,c] H):DeckAt H d c:=by
 rcases h with h | ⟨b,a,e,h⟩
 .cases h
 .cases e;exact h
theorem Ml (k:nI d c H g):Ch [d,c] H g:=λb o e n=>k b o e (λz=>n (by simp[z])) (λz=>n (by simp[z]))
theorem OS (D:DeckAt H d c) (h:H l=none):l∉[d,c]:=λz=>by
 have:=D.ned h;rcases aK.mp z with q | q
 .exact this.1 q
 .exact this.2 (by simpa using q)
section
variable {P:Ah}{K:mI}
theorem JY (F:FnOk P w K g base pE k f fd j Fd):FnOk P w K g base pE k f fd j (yE K xR):=F.imp λN H Q E y=>by
 obtain⟨G,A,L,O,e,M,r,⟨d,c,m,s,t,u,v,h⟩,x⟩:=y;subst s t;cases r with
 | cons B r =>
  cases r with
  | cons D r =>
   cases r;have:=B.raw_inv;have:=D.int_inv;subst_vars;refine⟨d,c,m,rfl,F4 e,u,v,λr q a b i z=>?_⟩;obtain⟨n,rfl⟩:=cW a;exact x _ _ q (h n b) (Ml z) (.inr ⟨d,c,rfl,i⟩) (.int _)
theorem QQ (F:FnOk P w K g base pE k f fd j Xf):FnOk P w K g base pE k f fd j (yE K Km):=F.imp λR H Q E z=>by
 obtain⟨M,A,N,S,a,O,r,⟨d,c,m,t,u,x,h⟩,y⟩:=z;subst t u;cases r with
 | cons G r =>
  cases r with
  | cons L r =>
   cases r;have:=G.raw_inv;have:=L.int_inv;subst_vars;exact⟨d,c,m,rfl,F4 a,x,λl n s i b e D v q B=>y _ _ s (h n e D v) (Ml B) (.inr ⟨d,c,rfl,q⟩) ⟨l,rfl,i,OS (F4 a) i,_,b,Hd n⟩⟩
theorem FN (F:FnOk P w K j base pE k f fd g Vi):FnOk P w K j base pE k f fd g (yE K Wf):=F.imp λp H Q E R=>by
 obtain⟨Y,A,Z,C,a,D,r,⟨d,c,h,u,v,x,b⟩,N⟩:=R;subst u v;cases r with
 | cons V r =>
  cases r with
  | cons W r =>
   cases r;have:=V.raw_inv;subst this;obtain⟨e,o,rfl,G,L,X⟩:=W.lst_inv;have:=Oo (Jw h) X;subst this;have i:=D e G;refine⟨d,c,e,h,rfl,F4 a,L,λz=>i (by simp[z]),λz=>i (by simp[z]),x,λt q m g s l O y B ok M n S=>N _ _ s (b m g ok M) (Ml S) (.inr ⟨d,c,rfl,n⟩) ?_⟩;exact .t y (.cons (.str m) (.cons (.t B (Hd g)) .nil))
end
theorem G9 (f:j->D) (g:Aa j) (k:Nat):tK (g.map f) none (some (k:Int))=(g.take k).map f:=by
 unfold tK;rw[aA,HT.sIx_none,HT.sIx_nat,jP,Nat.sub_zero,List.map_take];by_cases h:k<=g.length
 .rw[mE h]
 .rw[Nat.min_eq_right (by omega),bL (by simp),bL (by simp;omega)]
theorem M4 (f:j->D) (g:Aa j) (k:Nat):tK (g.map f) (some (k:Int)) none=(g.drop k).map f:=by
 unfold tK;rw[aA,HT.sIx_nat,HT.sIx_none,List.map_drop,bL (by simp)];by_cases h:k<=g.length
 .rw[mE h]
 .rw[Nat.min_eq_right (by omega),List.drop_eq_nil_of_le (by simp),List.drop_eq_nil_of_le (by simp;omega)]
noncomputable def oA (g:Af×Af×Aa Af):D:=.t [.str g.1,.str g.2.1,.t (g.2.2.map D.str)]
def sG (C:Cel):D:=.t [.t (C.ins.map D.str),.t (C.gates.map oA),.t (C.outs.map D.str)]
def rQ (p:Af×Af):D:=.t [.str p.1,.str p.2]
def rV (C:Cel) (al:Aa (Af×Af)):D:=.t [sG C,.t (al.map rQ)]
structure GoodRow (C:Cel) (al:List (Str×Str)):Prop where
 good:Good C
 og:∀ o∈C.outs,o∈C.gates.map (·.1)
 n1:(al.map (·.1)).Nodup
 n2:(al.map (·.2)).Nodup
 mem:∀ p∈al,p.1∈C.outs/\p.2∈C.ins
 la:al.length<=4
def X8:RD:=λe f h=>∃ (d c:Ad) (a b m:Nat),e=[d,c]/\f=[.r (.ref d),.int a,.int b,.int m]/\a<=6/\b<=24/\m<=4/\∀ C al,GoodRow C al->h (.v (rV C al))
theorem mK (I:Aa Sl->Prop) (o:∀ N:Aa Sl->Prop,(∀ g,I g->N g)->t l { j with nx:=N } r) (p:∀ g,I g->u l j g):Gm t u l j r:=o _ p
theorem oV (p:Aa D) (l:Aa Sl) (r:∀ J:Aa D->Aa Sl->Prop,J p l->ι I ρ J) (Pv:Nat->Aa Sl->Prop) (T:Pv 0 l)
  (U:∀ (i:Nat) d j,p[i]?=some d->Pv i j->g d j λC=>tb I { nx:=Pv (i+1),ct:=Pv (i+1),bk:=o.nx,rt:=o.rt } C) (hd:∀ j,Pv p.length j->o.nx j):Kf ι g tb I o ρ:=r _ ⟨Pv,T,U,hd⟩
theorem pR {j:Type}{f:j->D}{g:Aa j}{i:Nat}{d:D}(h:(g.map f)[i]?=some d):∃ y,g[i]?=some y/\f y=d:=by
 rw[aW] at h;cases e:g[i]? with
 | none=>rw[e] at h;cases h
 | some y=>rw[e] at h;exact⟨y,rfl,bK h⟩
theorem Bw {lo:Int}(h:(pK lo n)[i]?=some d):i<n/\d = .int (lo+i):=by
 unfold pK at h;rw[aW] at h;cases e:(List.range n)[i]? with
 | none=>rw[e] at h;cases h
 | some y =>
  rw[e] at h;obtain⟨a,b⟩:=aL.mp e;rw[cF] at a;rw[jF] at b;subst b;exact⟨a,(bK h).symm⟩
theorem Md:∀ {l:Aa g}{n:Nat}{y:g},l[n]?=some y->l.Perm (y::l.eraseIdx n)
 | a::l,0,y,h=>by simp at h;subst h;exact .refl _
 | a::l,n+1,y,h=>by
  have:=Md (l:=l) (n:=n) (y:=y) (by simpa using h);rw[jM];exact (this.cons a).trans (.swap y a _)
theorem Mt (j:left[n]?=some y) (l:(g++left).Nodup):((g++[y])++left.eraseIdx n).Nodup/\(∀ z,z∈(g++[y])++left.eraseIdx n->z∈g++left)/\(left.eraseIdx n).length+1=left.length:=by
 obtain⟨a,c⟩:=aL.mp j;have p:(g++left).Perm ((g++[y])++left.eraseIdx n):=by
  have q:left.Perm (y::left.eraseIdx n):=Md j;rw[bP];exact q.append_left g
 refine⟨p.nodup_iff.mp l,λz b=>p.mem_iff.mpr b,?_⟩;rw[List.length_eraseIdx_of_lt a];omega
theorem N2 (f:g->j):∀ (l:Aa g) (n:Nat),(l.map f).eraseIdx n=(l.eraseIdx n).map f
 | [],_=>by simp
 | a::l,0=>rfl
 | a::l,n+1=>by rw[aP,jM,jM,aP,N2 f l n]
theorem Jz {n k:Nat}(h:k<n):seqIndex? (k:Int) n=some k:=by
 unfold seqIndex?;have:¬ ((k:Int)<0):=by omega
 simp[this,h]
section
variable {P:Ah}{K:mI}
theorem oM {P:Aa Af}(a:j.kind = .function:=by rfl) (b:j.isCoroutine=false:=by rfl) (c:j.isGenerator=false:=by rfl) (d:N.Nodup:=by decide +kernel) (e:N.take P.length=P:=by rfl) (f:∀ x∈P,j.names.lookup x=some .local\/j.names.lookup x=some .cell:=by decide +kernel) (g:∀ y∈j.names,y.2 ≠ .free:=by decide +kernel):L2.FnScope N P j:=⟨a,b,c,d,e,f,g⟩
theorem uG:FnScope ["deck","inputs","gates","most","many","count","names","known","rows","name","left","outputs","k","outs","ins","along"] ["deck","inputs","gates","most"] (nF Gj):=oM
theorem PJ (T:Txt mg) (g:Kn P w K mg base 1 "_law_take" xM ["deck","many"] xR) (C:Kn P w K mg base 3 "_law_names" Fl ["deck","many"] Km) (I:Kn P w K mg base 2 "_law_gate" G8 ["deck","known"] Wf) :
  oK P w K mg base 4 "_law_row" Gj ["deck","inputs","gates","most"] X8:=by
 refine oS uG λf ar A ao s H E dk ds Φ Y hu hR=>?_
 obtain⟨d,c,a,b,m,rfl,rfl,ha,hb,hm,an⟩:=hR;refine⟨_,(hO (mS 4 uG.nd (mU g Y (dK (dT 0) (dK (qA oC oD 1 hL) eA)))) (hO (mS 5 uG.nd (mU g Y (dK (dT 0) (dK (qA oC oD 2 hL) eA)))) (hO (mS 6 uG.nd (mU C Y (dK (dT 0) (dK (qA oC oD 4 (dT 5)) eA)))) (hO (mS 7 uG.nd (yZ Ak zZ (pv 6) zG (zQ (dT 4)))) (hO (mS 8 uG.nd (nX eA)) (hO (oW (nN (yZ Ak zZ (pv 6) (zQ (dT 4)) zG)) (mM 9 uG.nd) (hO (sM (rC bF bQ bR sK tR (pv 8) (dK (nG oC oD (oN (dK (dT 9) eA)) (mU I Y (dK (dT 0) (dK (dT 7) eA)))) eA))) (mQ (mS 7 uG.nd (qA oC oD 7 (nX (dK (dT 9) eA))))))) (hO (mS 10 uG.nd (yZ Ak zZ (pv 6) (zQ (dT 4)) zG)) (hO (mS 11 uG.nd (nX eA)) (hO (oW (vY (by rfl) T.range (oJ (Mb rfl) Nj T.min iJ (dK (mU g Y (dK (dT 0) (dK hL eA))) (dK (oJ qB qC T.len bN (sQ (pv 10) eA)) eA)))) (mM 12 uG.nd) (mQ (sM (rC bF bQ bR sK tR (pv 11) (dK (rC bF gG gI Fo Gh (pv 10) (dK (mU g Y (dK (dT 0) (dK (oJ qB qC T.len bN (sQ (pv 10) eA)) eA))) eA)) eA))))) (hO (mS 13 uG.nd (nZ Ly Lo T.list iE (sQ (pv 11) eA))) (hO (mS 14 uG.nd (yZ Ak zZ (pv 6) zG (zQ (dT 4)))) (hO (mS 15 uG.nd (nX eA)) (hO (oW (vY (by rfl) T.range (oJ (Mb rfl) Nj T.min iJ (dK (mU g Y (dK (dT 0) (dK (qA oC oD 3 hL) eA))) (dK (oJ qB qC T.len bN (sQ (pv 13) eA)) (dK (oJ qB qC T.len bN (sQ (pv 14) eA)) eA))))) (mM 12 uG.nd) (mQ (sM (rC bF bQ bR sK tR (pv 15) (dK (oN (dK (rC bF gG gI Fo Gh (pv 13) (dK (mU g Y (dK (dT 0) (dK (oJ qB qC T.len bN (sQ (pv 13) eA)) eA))) eA)) (dK (rC bF gG gI Fo Gh (pv 14) (dK (mU g Y (dK (dT 0) (dK (oJ qB qC T.len bN (sQ (pv 14) eA)) eA))) eA)) eA))) eA))))) (mQ (nO (oN (dK (oN (dK (nZ uR uZ T.tuple cB (dK (yZ Ak zZ (pv 6) zG (zQ (dT 4))) eA)) (dK (nZ uR uZ T.tuple cB (sQ (pv 8) eA)) (dK (nZ uR uZ T.tuple cB (sQ (pv 11) eA)) eA)))) (dK (nZ uR uZ T.tuple cB (sQ (pv 15) eA)) eA)))))))))))))))))),?_⟩;refine⟨rfl,d,c,_,rfl,rfl,by omega,by omega,λk h1=>⟨.inl rfl,?_⟩⟩;refine⟨rfl,d,c,_,rfl,rfl,by omega,by omega,λZ h2=>⟨.inl rfl,?_⟩⟩;refine⟨rfl,d,c,k+Z,rfl,rfl,by omega,λu lx nd gn=>⟨.inl rfl,?_⟩⟩;refine⟨rfl,by decide,?_⟩;dsimp only;refine mK (λB=>∃ (e:Aa (Af×Af×Aa Af)) (s7 V:Sl),B=[.v (.r (.ref d)),.v (.int a),.v (.int b),.v (.int m),.v (.int k),.v (.int Z),.o (.l (u.map D.str)),s7,.o (.l (e.map oA)),V,.n,.n,.n,.n,.n,.n] /\ e.map (·.1)=u.drop k/\oR (u.take k) e) (λN hN=>?_) ?_
 .refine oV ((u.drop k).map D.str) [.v (.r (.ref d)),.v (.int a),.v (.int b),.v (.int m),.v (.int k),.v (.int Z),.o (.l (u.map D.str)),.o (.l ((u.take k).map D.str)),.o (.l []),.n,.n,.n,.n,.n,.n,.n] (λΨ h=>?_)
   (λi B=>∃ (e:Aa (Af×Af×Aa Af)) (V:Sl),B=[.v (.r (.ref d)),.v (.int a),.v (.int b),.v (.int m),.v (.int k),.v (.int Z),.o (.l (u.map D.str)),.o (.l ((u.take k++e.map (·.1)).map D.str)),.o (.l (e.map oA)),V,.n,.n,.n,.n,.n,.n] /\ e.map (·.1)=(u.drop k).take i/\oR (u.take k) e) ⟨[],.n,by simp,by simp,trivial⟩ ?_ ?_
  .rw[<- G9,<- M4] at h;exact⟨rfl,h⟩
  .rintro i x B W ⟨e,V,rfl,O,ok⟩;obtain⟨y,hy,rfl⟩:=pR W;have ah:e.length<=40:=by have:=cG List.length O;simp only[aA,bU,eK] at this;omega
   refine⟨rfl,(by show 1<=1000;decide),d,c,u.take k++e.map (·.1),rfl,rfl,by simp;omega,λwd ps ak hp=>⟨.inl rfl,(by show 1+2<=100000;decide),(by show (e.map oA).length<100000;simp;omega),rfl,(by show 1<=1000;decide),(by show ((u.take k++e.map (·.1)).map D.str).length+1<=100000;simp;omega),e++[(y,wd,ps)],.v (.str y),?_,?_,ok.snoc ak hp⟩⟩
   .simp[oA]
   .rw[aM,O,bM,hy];rfl
  .rintro B ⟨e,V,rfl,O,ok⟩;rw[aA,bL (aU _)] at O;exact hN _ ⟨e,_,V,rfl,O,ok⟩
 rintro B ⟨e,s7,V,rfl,O,ok⟩;have ah:e.length=Z:=by have:=cG List.length O;simp only[aA,eK] at this;omega
 have ag:(e.map (·.1)).Nodup:=by rw[O];exact nd.sublist (List.drop_sublist _ _)
 refine⟨rfl,by decide,?_⟩;dsimp only;refine mK (λB=>∃ (os:Aa Af) (U t:Sl),B=[.v (.r (.ref d)),.v (.int a),.v (.int b),.v (.int m),.v (.int k),.v (.int Z),.o (.l (u.map D.str)),s7,.o (.l (e.map oA)),V,U,.o (.l (os.map D.str)),t,.n,.n,.n] /\ os.Nodup/\(∀ o∈os,o∈e.map (·.1))/\os.length<=6) (λN hN=>?_) ?_
 .refine⟨d,c,7,rfl,rfl,by decide,by decide,λk7 aj=>⟨.inl rfl,rfl,rfl,_,rfl,λq hq q1 q2=>?_⟩⟩;have J:q<=((tK (u.map D.str) (some (k:Int)) none).length:Nat):=q2;rw[M4,<- O] at J |-;simp only[aA] at J;obtain⟨q,rfl⟩:∃ n:Nat,q=n:=⟨q.toNat,by rcases hq with z | z<;>omega⟩;obtain⟨G0,X⟩:∃ G0:Aa Af,G0=e.map (·.1):=⟨_,rfl⟩;refine⟨by omega,by omega,λi B=>∃ (os left:Aa Af) (t:Sl),B=[.v (.r (.ref d)),.v (.int a),.v (.int b),.v (.int m),.v (.int k),.v (.int Z),.o (.l (u.map D.str)),s7,.o (.l (e.map oA)),V,.o (.l (left.map D.str)),.o (.l (os.map D.str)),t,.n,.n,.n] /\
   (os++left).Nodup/\(∀ o∈os++left,o∈G0)/\os.length=i/\left.length+i=e.length,⟨[],G0,.n,by rw[X];rfl,by rw[X];exact ag,λo F=>F,rfl,by rw[X];simp⟩,?_,?_⟩
  .rintro i x B W ⟨os,left,t,rfl,M,L,ol,ll⟩;obtain⟨hi,rfl⟩:=Bw W;rw[bT] at hi;refine⟨rfl,rfl,rfl,rfl,_,rfl,d,c,_,rfl,rfl,(by show (0:Int)<((left.map D.str).length:Nat);simp;omega),(by show ((left.map D.str).length:Int)<4611686018427387904;simp;omega),λj hj=>⟨.inr rfl,?_⟩⟩;have Q:j<left.length:=by have:(j:Int)<((left.map D.str).length:Nat):=hj;simp at this;omega
   obtain⟨y,hy⟩:∃ y,left[j]?=some y:=⟨_,aE Q⟩;obtain⟨p1,p2,p3⟩:=Mt hy M;refine⟨j,.str y,by omega,by omega,(by show seqIndex? _ (left.map D.str).length=_;rw[aA];exact Jz Q),(by show (left.map D.str)[j]?=_;rw[aW,hy];rfl),(by show (os.map D.str).length<100000;simp;omega),os++[y],left.eraseIdx j,.v (.int (0+(i:Int))),?_,p1,λo F=>L o (p2 o F),by simp[ol],by omega⟩;simp[N2]
  .rintro B ⟨os,left,t,rfl,M,L,ol,ll⟩;exact hN _ ⟨os,_,t,rfl,(bE.mp M).1,λo F=>by have:=L o (bB _ F);rw[X] at this;exact this,by rw[ol];simp[pK];omega⟩
 rintro B ⟨os,U,t,rfl,M,L,ol⟩;refine⟨rfl,_,rfl,rfl,by decide,?_⟩;dsimp only;have aq:(u.take k).Nodup:=nd.sublist (lH _ _);have tl:(u.take k).length=k:=by simp;omega
 refine mK (λB=>∃ (al:Aa (Af×Af)) (t ae af:Sl),B=[.v (.r (.ref d)),.v (.int a),.v (.int b),.v (.int m),.v (.int k),.v (.int Z),.o (.l (u.map D.str)),s7,.o (.l (e.map oA)),V,U,.o (.l (os.map D.str)),t,ae,af,.o (.l (al.map rQ))] /\ (al.map λp=>p.1).Nodup/\(al.map λp=>p.2).Nodup/\(∀ p∈al,p.1∈os/\p.2∈u.take k)/\al.length<=4) (λN hN=>?_) ?_
 .refine⟨rfl,d,c,_,rfl,rfl,by omega,by omega,λk7 aj=>⟨.inl rfl,rfl,rfl,_,rfl,rfl,rfl,_,rfl,λq hq q1 q2 q3=>?_⟩⟩;have ac:q<=((tK (u.map D.str) none (some (k:Int))).length:Nat):=q3;have J:q<=((os.map D.str).length:Nat):=q2;rw[G9] at ac |-;rw[aA] at ac J;obtain⟨q,rfl⟩:∃ n:Nat,q=n:=⟨q.toNat,by rcases hq with z | z | z<;>omega⟩;refine⟨by omega,by omega,λi B=>∃ (al:Aa (Af×Af)) (ol G:Aa Af) (t:Sl),B=[.v (.r (.ref d)),.v (.int a),.v (.int b),.v (.int m),.v (.int k),.v (.int Z),.o (.l (u.map D.str)),s7,.o (.l (e.map oA)),V,U,.o (.l (os.map D.str)),t,.o (.l (ol.map D.str)),.o (.l (G.map D.str)),.o (.l (al.map rQ))] /\
   ((al.map λp=>p.1)++ol).Nodup/\((al.map λp=>p.2)++G).Nodup/\(∀ o∈(al.map λp=>p.1)++ol,o∈os)/\(∀ o∈(al.map λp=>p.2)++G,o∈u.take k)/\al.length=i/\ol.length+i=os.length/\G.length+i=(u.take k).length,
   ⟨[],os,u.take k,_,rfl,M,aq,λo F=>F,λo F=>F,rfl,by simp,by simp⟩,?_,?_⟩
  .rintro i x B W ⟨al,ol,G,t,rfl,R,S,m1,m2,la,lo,li⟩;obtain⟨hi,rfl⟩:=Bw W;rw[bT] at hi;refine⟨rfl,rfl,rfl,rfl,_,rfl,d,c,_,rfl,rfl,(by show (0:Int)<((ol.map D.str).length:Nat);simp;omega),(by show ((ol.map D.str).length:Int)<4611686018427387904;simp;omega),λj hj=>⟨.inr rfl,?_⟩⟩;have Q:j<ol.length:=by have:(j:Int)<((ol.map D.str).length:Nat):=hj;simp at this;omega
   obtain⟨y,hy⟩:∃ y,ol[j]?=some y:=⟨_,aE Q⟩;obtain⟨p1,p2,p3⟩:=Mt hy R;refine⟨j,.str y,by omega,by omega,(by show seqIndex? _ (ol.map D.str).length=_;rw[aA];exact Jz Q),(by show (ol.map D.str)[j]?=_;rw[aW,hy];rfl),?_⟩;refine⟨rfl,rfl,rfl,_,rfl,d,c,_,rfl,rfl,(by show (0:Int)<((G.map D.str).length:Nat);simp;omega),(by show ((G.map D.str).length:Int)<4611686018427387904;simp;omega),λj2 ai=>⟨.inr rfl,?_⟩⟩;have aa:j2<G.length:=by have:(j2:Int)<((G.map D.str).length:Nat):=ai;simp at this;omega
   obtain⟨y2,ab⟩:∃ y,G[j2]?=some y:=⟨_,aE aa⟩;obtain⟨p4,p5,p6⟩:=Mt ab S;refine⟨j2,.str y2,by omega,by omega,(by show seqIndex? _ (G.map D.str).length=_;rw[aA];exact Jz aa),(by show (G.map D.str)[j2]?=_;rw[aW,ab];rfl),(by show 2<=1000;decide),(by show (al.map rQ).length<100000;simp;omega),al++[(y,y2)],ol.eraseIdx j,G.eraseIdx j2,.v (.int (0+(i:Int))),?_,by simpa using p1,by simpa using p4,λo F=>m1 o (p2 o (by simpa using F)),λo F=>m2 o (p5 o (by simpa using F)),by simp[la],by omega,by omega⟩;simp[rQ,N2]
  .rintro B ⟨al,ol,G,t,rfl,R,S,m1,m2,la,lo,li⟩;refine hN _ ⟨al,_,_,_,rfl,(bE.mp R).1,(bE.mp S).1,λp hp=>⟨m1 _ (bB _ (aN.mpr ⟨p,hp,rfl⟩)),m2 _ (bB _ (aN.mpr ⟨p,hp,rfl⟩))⟩,?_⟩;rw[la];simp[pK];omega
 rintro B ⟨al,t,ae,af,rfl,R,S,am,la⟩;have fin:=an ⟨u.take k,e,os⟩ al ⟨⟨?_,?_,ok,λo F=>?_,M,?_,?_,ol⟩,L,R,S,am,la⟩
 .unfold rV sG at fin;dsimp only at fin;rw[<- G9] at fin;exact⟨rfl,rfl,rfl,(by show 3<=1000;decide),rfl,(by show 2<=1000;decide),fin⟩
 .show (u.take k++e.map (·.1)).Nodup;rw[O,eR];exact nd
 .intro x W;have W:x∈u.take k++e.map (·.1):=W;rw[O,eR] at W;exact gn x W
 .exact aT _ (L o F)
 .show (u.take k).length<=6;omega
 .show e.length<=24;omega
end
end Lw
namespace L2
open PySem PySem.Spec PyProof.Rows Lw
section
variable {X:Cx}{K:mI}
def Lj (K:mI) (neg:Bool):R2:=λx y H Q=>Nq neg x y H Q\/Ki K neg x y H Q
theorem rD (g:X.A.units+64<cLine):nJ X (compareOp .Eq) (Lj X.K false):=(show nJ X (compareOp .Eq) (Nq false) from J6).or (Oi g)
theorem As (g:X.A.units+64<cLine):nJ X (compareOp .NotEq) (Lj X.K true):=(show nJ X (compareOp .NotEq) (Nq true) from JU).or (CA g)
def O4 (neg:Bool):O2:=λd e a=>match d,e with
 | .int i,.int j=>a (.v (.b (nb neg (decide (i=j)))))
 | .str i,.str j=>a (.v (.b (nb neg (decide (i=j)))))
 | .b i,.b j=>a (.v (.b (nb neg (decide (i=j)))))
 | .e,.int _=>a (.v (.b (nb neg false)))
 | .l c,.l []=>a (.v (.b (nb neg c.isEmpty)))
 | _,_=>False
theorem pN (neg:Bool):pT K (Lj K neg) (O4 neg):=by
 intro B L H d e x y A Q hd h m f k;cases d<;>first | exact False.elim f | skip<;>cases e<;>first | exact False.elim f | skip
 .cases h;cases m
  rename_i j
  have c:decide (V.e=V.int j)=false:=by simp
  exact .inl ⟨rfl,by rw[c];exact k _ _ H f (hd.pushF (.b _))⟩
 .cases h;cases m
  rename_i i j
  have c:decide (V.b i=V.b j)=decide (i=j):=by simp
  exact .inl ⟨rfl,by rw[c];exact k _ _ H f (hd.pushF (.b _))⟩
 .cases h;cases m
  rename_i i j
  have c:decide (V.int i=V.int j)=decide (i=j):=by simp
  exact .inl ⟨rfl,by rw[c];exact k _ _ H f (hd.pushF (.b _))⟩
 .cases h;cases m
  rename_i i j
  have c:decide (V.str i=V.str j)=decide (i=j):=by simp
  exact .inl ⟨rfl,by rw[c];exact k _ _ H f (hd.pushF (.b _))⟩
 .rename_i v w
  cases w with
  | cons _ _=>exact False.elim f
  | nil =>
  obtain⟨a,n,rfl,q,t⟩:=h.lst_inv;obtain⟨b,z,rfl,s,u⟩:=m.lst_inv;cases u;have c:v.isEmpty=n.isEmpty:=by cases t<;>rfl
  refine .inr ⟨a,b,n,rfl,rfl,mL.of q,mL.of s,?_⟩;rw[<- c];exact k _ _ H f (hd.pushF (.b _))
end
end L2
namespace Lw
open PySem L2
theorem Js:∀ {gs:zV}{j:Aa Af}{i:Nat}{g:Af×Af×Aa Af},oR j gs->gs[i]?=some g->ArOk g.2.1 g.2.2.length/\∀ p∈g.2.2,p∈j++(gs.take i).map (·.1)
 | a::r,j,0,g,h,e=>by
  simp at e;subst e;exact⟨h.1,by simpa using h.2.1⟩
 | a::r,j,i+1,g,h,e=>by
  obtain⟨b,c⟩:=Js (gs:=r) (i:=i) h.2.2 (by simpa using e);exact⟨b,λp d=>by have:=c p d;simpa using this⟩
def N9:RD:=λf b h=>∃ (d c:Ad) (a:Aa D),f=[d,c]/\(b=[.r (.ref d),.l a]\/b=[.r (.ref d),.t a])/\a.length<=1000/\∀ e,e.Perm a->h (.v (.l e))
def Aq (z:Af):Aa Af:=(Txt.split z " ").filter λx=>nb true (decide (x = ""))
def Vy:RD:=λc a b=>∃ z:Af,a=[.str z]/\z.length<=1000/\(Txt.split z " ").length<=1000/\b (.o (.l ((Aq z).map D.str)))
structure Kit where
 ins:Str
 gates:List Str
 outs:Str
 pairs:Str
 nums:Str
noncomputable def tS (k:Kit):D:=.t [.str k.ins,.l (k.gates.map D.str),.str k.outs,.str k.pairs,.str k.nums]
noncomputable def sP:Aa Kit:=[⟨"a b c",[("s " : Af) ++ "odd a b c",("t " : Af) ++ "most a b c"],"s t","t c","a 1 b 1 s -1 c 1"⟩,⟨"a b c",["n not a","s odd a b c","t most n b c"],"s t","t c","a 1 b -1 s -1 c -1"⟩,⟨"a c",["s odd a c","t and a c"],"s t","t c","a 1 s -1 c 1"⟩,⟨"a c",["s and c c","t and a a"],"s t","t c","a 2 s -1 c 1"⟩,⟨"a",["s not a"],"s","","a 1 s 1 - -1"⟩,⟨"a b c",[("s " : Af) ++ "odd a b c",("t " : Af) ++ "most a b c"],"s t","","a 1 b 1 c 1 s -1 t -2"⟩,⟨"a c d",["s odd a d c","t most a d c","e and a a"],"s t e","t c e d","a 3 s -1 c 1 d 1"⟩,⟨"a b x c d",["s odd a b c","t most a b c","z odd s x d","u most s x d"],"z t u","t c u d","a 1 b 1 x 1 z -1 c 1 d 1"⟩,⟨"a",["s nil","t or a s"],"s t","","s 5 a -2 t 2"⟩,⟨"a b",["s and a b","t or a b"],"s t","","a 1 b 1 s -1 t -1"⟩]
def vG:D:=.t [.str "odd a b c",.str "most a b c"]
def V6:RD:=λa b e=>∃ d c:Ad,a=[d,c]/\b=[.r (.ref d)]/\∀ k∈sP,e (.v (tS k))
theorem AB:(["word"]:Aa Af).Nodup:=by decide +kernel
section
variable {P:Ah}{K:mI}
theorem N5:FnScope ["deck","some","left","found"] ["deck","some"] (nF Ed):=oM
theorem GS (T:Txt p) (g:Kn P w K p base 1 "_law_take" xM ["deck","many"] xR) :
  oK P w K p base 2 "_law_shuffled" Ed ["deck","some"] N9:=by
 refine oS (hlen:=λM B V ⟨_,_,_,_,e,_⟩=>by rcases e with e | e<;>(rw[e];rfl)) N5 λf L A z s H E M B V F X O=>?_
 obtain⟨d,c,i,rfl,e,W,u⟩:=O;obtain⟨x,rfl,S⟩:∃ x,B=[.r (.ref d),x]/\(x = .l i\/x = .t i):=by
  rcases e with e | e
  .exact⟨_,e,.inl rfl⟩
  .exact⟨_,e,.inr rfl⟩
 refine⟨_,(hO (mS 2 N5.nd (nZ Ly Lo T.list iE (dK (dT 1) eA))) (hO (mS 3 N5.nd (nX eA)) (hO (Qj eF (pY (As F.units) (pN true) (pv 2) (nX eA)) (mQ (sM (rC bF bQ bR sK tR (pv 3) (dK (rC bF gG gI Fo Gh (pv 2) (dK (mU g F (dK (dT 0) (dK (oJ qB qC T.len bN (sQ (pv 2) eA)) eA))) eA)) eA))))) (mQ (nO (dT 3)))))),?_⟩;refine mK (λb=>b=[.v (.r (.ref d)),.v x,.o (.l i),.n]) (λN m=>?_) ?_
 .rcases S with rfl | rfl
  .exact⟨_,rfl,m _ rfl⟩
  .exact⟨_,rfl,m _ rfl⟩
 rintro _ rfl;refine⟨by show 0<=1000;decide,?_⟩;dsimp only;refine mK (λb=>∃ (q:Aa D),b=[.v (.r (.ref d)),.v x,.o (.l []),.o (.l q)]/\q.Perm i) (λN m=>?_) ?_
 .refine⟨λb=>∃ left found:Aa D,b=[.v (.r (.ref d)),.v x,.o (.l left),.o (.l found)]/\(found++left).Perm i,λ(b:Aa Sl)=>match b[2]? with | some (Sl.o (D.l l))=>l.length | _=>0,⟨i,[],rfl,.refl _⟩,?_⟩;rintro b ⟨left,found,rfl,k⟩;have h:=k.length_eq;rw[bH] at h;refine⟨rfl,by show 0<=1000;decide,?_⟩;cases left with
  | nil=>exact m _ ⟨found,rfl,by simpa using k⟩
  | cons x left =>
   rw[bS] at h;refine⟨rfl,rfl,rfl,rfl,_,rfl,d,c,_,rfl,rfl,by show (0:Int)<((x::left).length:Nat);simp only[bS];omega,by show ((x::left).length:Int)<4611686018427387904;simp only[bS];omega,λj Q=>⟨.inr rfl,?_⟩⟩;have a:j<(x::left).length:=by have:(j:Int)<((x::left).length:Nat):=Q;omega
   obtain⟨y,G⟩:∃ y,(x::left)[j]?=some y:=⟨_,aE a⟩;have R:=List.length_eraseIdx_of_lt a;refine⟨j,y,by simp only[bS] at a;omega,by simp only[bS] at a;omega,Jz a,G,by show found.length<100000;omega,⟨(x::left).eraseIdx j,found++[y],rfl,?_⟩,?_⟩
   .rw[bP];exact ((Md G).symm.append_left found).trans k
   .show ((x::left).eraseIdx j).length<(x::left).length;omega
 .rintro b ⟨q,rfl,k⟩;exact u q k
theorem PM:FnScope ["text"] ["text"] (nF Kb):=oM
theorem Y3 (T:Txt g):oK P w K g base 1 "_law_words" Kb ["text"] Vy:=by
 refine oS PM λf c A b s H E B G O u M n=>?_
 obtain⟨z,rfl,L,t,a⟩:=n;refine⟨_,(mQ (nO (oZ ["word"] [] [] (nN (ID PySem.F.plainAttrs_str iC PySem.F.type_str_split JZ JR (pv 0) (dK mW eA))) (λ_ _ _ _ _=>(mM 0 AB)) (λ_ _ _ _ _=>(dT 0)) (ht:=λ_ _ _ _ _=>(Au (pY (As u.units) (pN true) (pv 0) mW)))))),?_⟩;refine yP (Txt.split z " ") D.str D.str (λx=>nb true (decide (x = ""))) [.v (.str z)] (λQ h=>⟨rfl,by decide,by omega,h⟩) ?_ (λi x N y e d k m=>⟨rfl,?_⟩) a
 .omega
 .show if (nb true (decide (x = "")))=true then _ else _
  cases q:decide (x = "") with
  | true=>exact m (by rw[q];rfl)
  | false=>exact⟨d,k (by rw[q];rfl)⟩
theorem Em:FnScope ["deck","adder","some","more"] ["deck"] (nF Jr):=oM
theorem EO (T:Txt j) (g:Kn P w K j base 1 "_law_take" xM ["deck","many"] xR) :
  oK P w K j base 2 "_law_kit" Jr ["deck"] V6:=by
 refine oS Em λf t A m s H E z B D x e u=>?_
 obtain⟨d,c,rfl,rfl,i⟩:=u;refine⟨_,(hO (mS 1 Em.nd (oN (dK mW (dK mW eA)))) (hO (mS 2 Em.nd (nX (dK (oN (dK mW (dK (nX (dK (nG oC oD mW (mP e 1 hL)) (dK (nG oC oD mW (mP e 1 hL)) eA))) (dK mW (dK mW (dK mW eA)))))) eA))) (hO (sM (rC bF bQ bR sK tR (pv 2) (dK (oN (dK mW (dK (nX (dK mW (dK mW (dK mW eA)))) (dK mW (dK mW (dK mW eA)))))) eA))) (hO (sM (rC bF bQ bR sK tR (pv 2) (dK (oN (dK mW (dK (nX (dK mW (dK mW eA))) (dK mW (dK mW (dK mW eA)))))) eA))) (hO (sM (rC bF bQ bR sK tR (pv 2) (dK (oN (dK mW (dK (nX (dK mW (dK mW eA))) (dK mW (dK mW (dK mW eA)))))) eA))) (hO (sM (rC bF bQ bR sK tR (pv 2) (dK (oN (dK mW (dK (nX (dK mW eA)) (dK mW (dK mW (dK mW eA)))))) eA))) (hO (sM (rC bF bQ bR sK tR (pv 2) (dK (oN (dK mW (dK (nX (dK (nG oC oD mW (mP e 1 hL)) (dK (nG oC oD mW (mP e 1 hL)) eA))) (dK mW (dK mW (dK mW eA)))))) eA))) (hO (mS 3 Em.nd (nX (dK mW (dK mW (dK mW eA))))) (hO (sM (rC bF bQ bR sK tR (pv 2) (dK (oN (dK mW (dK (dT 3) (dK mW (dK mW (dK mW eA)))))) eA))) (hO (mS 3 Em.nd (nX (dK mW (dK mW (dK mW (dK mW eA)))))) (hO (sM (rC bF bQ bR sK tR (pv 2) (dK (oN (dK mW (dK (dT 3) (dK mW (dK mW (dK mW eA)))))) eA))) (hO (sM (rC bF bQ bR sK tR (pv 2) (dK (oN (dK mW (dK (nX (dK mW (dK mW eA))) (dK mW (dK mW (dK mW eA)))))) eA))) (hO (sM (rC bF bQ bR sK tR (pv 2) (dK (oN (dK mW (dK (nX (dK mW (dK mW eA))) (dK mW (dK mW (dK mW eA)))))) eA))) (mQ (nO (mP e 2 (mU g x (dK (dT 0) (dK hL eA))))))))))))))))))),?_⟩;refine mK (λb=>b=[.v (.r (.ref d)),.v vG,.n,.n]) (λN a=>⟨(by show 2<=1000;decide),a _ rfl⟩) ?_;rintro _ rfl;refine mK (λb=>b=[.v (.r (.ref d)),.v vG,.o (.l ((sP.take 1).map tS)),.n]) (λN a=>⟨rfl,_,rfl,(by decide +kernel),rfl,_,rfl,(by decide +kernel),(by show 2<=1000;decide),(by show 5<=1000;decide),(by show 1<=1000;decide),a _ rfl⟩) ?_;rintro _ rfl;refine mK (λb=>b=[.v (.r (.ref d)),.v vG,.o (.l ((sP.take 2).map tS)),.n]) (λN a=>⟨rfl,(by show 3<=1000;decide),(by show 5<=1000;decide),(by show 1<100000;decide),a _ rfl⟩) ?_;rintro _ rfl;refine mK (λb=>b=[.v (.r (.ref d)),.v vG,.o (.l ((sP.take 3).map tS)),.n]) (λN a=>⟨rfl,(by show 2<=1000;decide),(by show 5<=1000;decide),(by show 2<100000;decide),a _ rfl⟩) ?_;rintro _ rfl;refine mK (λb=>b=[.v (.r (.ref d)),.v vG,.o (.l ((sP.take 4).map tS)),.n]) (λN a=>⟨rfl,(by show 2<=1000;decide),(by show 5<=1000;decide),(by show 3<100000;decide),a _ rfl⟩) ?_;rintro _ rfl;refine mK (λb=>b=[.v (.r (.ref d)),.v vG,.o (.l ((sP.take 5).map tS)),.n]) (λN a=>⟨rfl,(by show 1<=1000;decide),(by show 5<=1000;decide),(by show 4<100000;decide),a _ rfl⟩) ?_;rintro _ rfl;refine mK (λb=>b=[.v (.r (.ref d)),.v vG,.o (.l ((sP.take 6).map tS)),.n]) (λN a=>⟨rfl,rfl,_,rfl,(by decide +kernel),rfl,_,rfl,(by decide +kernel),(by show 2<=1000;decide),(by show 5<=1000;decide),(by show 5<100000;decide),a _ rfl⟩) ?_;rintro _ rfl;refine mK (λb=>b=[.v (.r (.ref d)),.v vG,.o (.l ((sP.take 6).map tS)),.o (.l [.str "s odd a d c",.str "t most a d c",.str "e and a a"])]) (λN a=>⟨(by show 3<=1000;decide),a _ rfl⟩) ?_;rintro _ rfl;refine mK (λb=>b=[.v (.r (.ref d)),.v vG,.o (.l ((sP.take 7).map tS)),.v (.l [.str "s odd a d c",.str "t most a d c",.str "e and a a"])]) (λN a=>⟨rfl,(by show 5<=1000;decide),(by show 6<100000;decide),a _ rfl⟩) ?_;rintro _ rfl;refine mK (λb=>b=[.v (.r (.ref d)),.v vG,.o (.l ((sP.take 7).map tS)),.o (.l [.str "s odd a b c",.str "t most a b c",.str "z odd s x d",.str "u most s x d"])]) (λN a=>⟨(by show 4<=1000;decide),a _ rfl⟩) ?_;rintro _ rfl;refine mK (λb=>b=[.v (.r (.ref d)),.v vG,.o (.l ((sP.take 8).map tS)),.v (.l [.str "s odd a b c",.str "t most a b c",.str "z odd s x d",.str "u most s x d"])]) (λN a=>⟨rfl,(by show 5<=1000;decide),(by show 7<100000;decide),a _ rfl⟩) ?_;rintro _ rfl;refine mK (λb=>b=[.v (.r (.ref d)),.v vG,.o (.l ((sP.take 9).map tS)),.v (.l [.str "s odd a b c",.str "t most a b c",.str "z odd s x d",.str "u most s x d"])]) (λN a=>⟨rfl,(by show 2<=1000;decide),(by show 5<=1000;decide),(by show 8<100000;decide),a _ rfl⟩) ?_;rintro _ rfl;refine mK (λb=>b=[.v (.r (.ref d)),.v vG,.o (.l ((sP.take 10).map tS)),.v (.l [.str "s odd a b c",.str "t most a b c",.str "z odd s x d",.str "u most s x d"])]) (λN a=>⟨rfl,(by show 2<=1000;decide),(by show 5<=1000;decide),(by show 9<100000;decide),a _ rfl⟩) ?_;rintro _ rfl;refine⟨rfl,d,c,10,rfl,rfl,by decide,by decide,λr y=>⟨.inl rfl,?_⟩⟩;have h:r<10:=by omega
 obtain⟨k,q⟩:∃ k,sP[r]?=some k:=⟨_,aE (by show r<10;exact h)⟩;refine⟨tS k,?_,i k (aF q)⟩;exact qT (by rw[aW,bL (by decide),q];rfl)
end
def oU (l:Aa Af):Af×Af×Aa Af:=(l.headD "",(l.drop 1).headD "",l.drop 2)
def Kh (w:Af) (n:Nat):Bool:=(decide (w∈vM)&&(n == 2||n == 3))||((w == "most")&&(n == 3))||((w == "not")&&(n == 1))||((w == "one")&&(n == 0))||((w == "nil")&&(n == 0))
theorem GR (h:Kh w n=true):ArOk w n:=by
 unfold Kh at h;simp only[mB,cJ,fE,iM] at h;rcases h with (((h | h) | h) | h) | h
 .exact⟨.inl h⟩
 .exact⟨.inr (.inl h)⟩
 .exact⟨.inr (.inr (.inl h))⟩
 .exact⟨.inr (.inr (.inr (.inl h)))⟩
 .exact⟨.inr (.inr (.inr (.inr h)))⟩
def Fy:Aa Af->zV->Bool
 | _,[]=>true
 | a,g::r=>Kh g.2.1 g.2.2.length&&(g.2.2.all (λp=>decide (p∈a))&&Fy (a++[g.1]) r)
theorem Wz:∀ {l:zV}{j:Aa Af},Fy j l=true->oR j l
 | [],_,_=>trivial
 | g::r,j,h=>by
  unfold Fy at h;simp only[cJ,cH,fE] at h;exact⟨GR h.1,h.2.1,Wz h.2.2⟩
theorem oR.more:∀ {o:zV}{l j:Aa Af},(∀ x∈l,x∈j)->oR l o->oR j o
 | [],_,_,_,_=>trivial
 | g::r,l,j,h,ok=>⟨ok.1,λp a=>h p (ok.2.1 p a),oR.more (λx b=>by
  rcases aV.mp b with q | q
  .exact bB _ (h x q)
  .exact aT _ q) ok.2.2⟩
noncomputable def ren (f:Af->Af) (g:Af×Af×Aa Af):Af×Af×Aa Af:=(f g.1,g.2.1,g.2.2.map f)
theorem oR.ren (f:Af->Af):∀ {l:zV}{j:Aa Af},oR j l->oR (j.map f) (l.map (Lw.ren f))
 | [],_,_=>trivial
 | g::r,j,ok=>by
  refine⟨by show ArOk g.2.1 (g.2.2.map f).length;rw[aA];exact ok.1,λp a=>?_,?_⟩
  .obtain⟨q,b,rfl⟩:=aN.mp a;exact aN.mpr ⟨q,ok.2.1 q b,rfl⟩
  .have:=oR.ren f ok.2.2;rw[aM] at this;exact this
theorem oR.app:∀ {o l:zV}{j:Aa Af},oR j o->oR (j++o.map (·.1)) l->oR j (o++l)
 | [],l,j,_,h=>by simpa using h
 | g::r,l,j,ok,h=>⟨ok.1,ok.2.1,oR.app ok.2.2 (by simpa using h)⟩
def kI (k:Kit):Aa Af:=Aq k.ins
def kO (k:Kit):Aa Af:=Aq k.outs
def kP (k:Kit):Aa Af:=Aq k.pairs
def kN (k:Kit):Aa Af:=Aq k.nums
def kG (k:Kit):Aa (Aa Af):=k.gates.map Aq
def kH (k:Kit):Aa Af:=(kG k).map λl=>(oU l).1
def V2 (k:Kit):Bool :=
 (k.ins::k.outs::k.pairs::k.nums::k.gates).all (λz=>decide (z.length<=1000)&&decide ((Txt.split z " ").length<=1000)) &&
 ((kG k).all (λl=>decide (2<=l.length)) && (decide ((kI k++kH k).Nodup) && ((kI k++kH k).all (λx=>decide (x.length=1)&&decide (x ≠ "-")) && (Fy (kI k) ((kG k).map oU) && ((kO k).all (λo=>decide (o∈kH k)) && (decide (kO k).Nodup && (decide ((kP k).length%2=0) && ((pF (kP k)).all (λp=>decide (p.1∈kO k)&&decide (p.2∈kI k)) && (decide ((pF (kP k)).map (·.1)).Nodup && (decide ((pF (kP k)).map (·.2)).Nodup && (decide ((kN k).length%2=0) && ((pF (kN k)).all (λp=>(decide (p.1∈kI k++kH k)||decide (p.1 = "-"))&&((intText? p.2).isSome&&decide (p.2.length<=640))) && (decide ((kI k).length<=5)&&(decide ((kG k).length<=4)&&(decide ((kO k).length<=3)&&(decide ((kP k).length<=8)&&decide ((kN k).length<=100)))))))))))))))))
structure KitOk (k:Kit):Prop where
 tx:∀ z∈k.ins::k.outs::k.pairs::k.nums::k.gates,z.length<=1000/\(Txt.split z " ").length<=1000
 g2:∀ l∈kG k,2<=l.length
 nd:(kI k++kH k).Nodup
 one:∀ x∈kI k++kH k,x.length=1/\x ≠ "-"
 gt:oR (kI k) ((kG k).map oU)
 oh:∀ o∈kO k,o∈kH k
 ond:(kO k).Nodup
 pe:(kP k).length%2=0
 pm:∀ p∈pF (kP k),p.1∈kO k/\p.2∈kI k
 p1:((pF (kP k)).map (·.1)).Nodup
 p2:((pF (kP k)).map (·.2)).Nodup
 ne:(kN k).length%2=0
 nm:∀ p∈pF (kN k),(p.1∈kI k++kH k\/p.1 = "-")/\(intText? p.2).isSome=true/\p.2.length<=640
 li:(kI k).length<=5
 lg:(kG k).length<=4
 lo:(kO k).length<=3
 lp:(kP k).length<=8
 ln:(kN k).length<=100
theorem PY:sP.all V2=true:=by decide +kernel
theorem Zx (h:k∈sP):KitOk k:=by
 have:=cH.mp PY k h;unfold V2 at this;simp only[cJ,cH,fE,mB] at this;obtain⟨a,b,c,d,e,f,i,m,n,q,s,t,u,v,w,x,y,z⟩:=this;exact⟨a,b,c,d,Wz e,f,i,m,n,q,s,t,u,v,w,x,y,z⟩
noncomputable def pC (i:Nat):Af:=("i" : Af)++((toString ((0:Int)+(i:Int)):String):Af)
def rS (g:Af) (i:Nat):Aa Af:=if i=0 then [pC 0,g] else [pC i,"not",pC 0]
theorem Ie:∀ i<19,(pC i).length≠1/\pC i ≠ "-" /\ ∀ j<19,pC i=pC j->i=j:=by decide +kernel
theorem S9 (g:Af) (i:Nat):(oU (rS g i)).1=pC i:=by
 unfold rS;split
 .subst_vars;rfl
 .rfl
theorem CG (g:Af) (i:Nat):2<=(rS g i).length:=by unfold rS;split<;>simp
theorem W7 {g:Af}(h:g = "one" \/ g = "nil") (j:Aa Af):∀ n,oR j (((List.range n).map (rS g)).map oU)
 | 0=>trivial
 | n+1=>by
  rw[kR,aM,aM];refine oR.snoc (W7 h j n) ?_ ?_
  .by_cases e:n=0
   .subst e;rcases h with rfl | rfl
    .exact⟨.inr (.inr (.inr (.inl ⟨rfl,rfl⟩)))⟩
    .exact⟨.inr (.inr (.inr (.inr ⟨rfl,rfl⟩)))⟩
   .unfold rS;rw[aJ e];exact⟨.inr (.inr (.inl ⟨rfl,rfl⟩))⟩
  .intro p a;by_cases e:n=0
   .subst e;simp[oU,rS] at a
   .have b:p=pC 0:=by
     unfold rS at a;rw[aJ e] at a
     simpa [oU] using a
    subst b;refine aT _ ?_;rw[aR,aR];refine aN.mpr ⟨0,dQ.mpr (by omega),S9 g 0⟩
def rG (l:Aa Af):D:=.l (l.map D.str)
theorem A3 (h:x∈t.map (·.1)):xK (.k (oE t)) (.str x)=some (some (.str (nD t x))):=by
 show some (mR (oE t) (Sum.inr x))=_;rw[(K1 t x).1 h]
theorem L9 {l:Aa Af}(h:2<=l.length):oQ (l.map D.str) 0=some (.str (oU l).1)/\oQ (l.map D.str) 1=some (.str (oU l).2.1):=by
 match l,h with
 | a::b::r,_ =>
  constructor
  .exact qT (j:=0) rfl
  .exact qT (j:=1) rfl
theorem Si:∀ {l:Aa Af}{g:Aa D},g.Perm (l.map D.str)->∃ j:Aa Af,j.Perm l/\g=j.map D.str:=by
 intro l g h;have key:∀ (g:Aa D),(∀ y∈g,∃ x:Af,y=D.str x)->∃ j:Aa Af,g=j.map D.str:=by
  intro g;induction g with
  | nil=>exact λ_=>⟨[],rfl⟩
  | cons y g c =>
   intro h;obtain⟨x,rfl⟩:=h y aH;obtain⟨j,rfl⟩:=c λz b=>h z (aQ _ b)
   exact⟨x::j,rfl⟩
 obtain⟨j,rfl⟩:=key g λy a=>by
  obtain⟨x,_,rfl⟩:=aN.mp (h.mem_iff.mp a);exact⟨x,rfl⟩
 refine⟨j,?_,rfl⟩;have:=h.map (λd=>match d with | D.str x=>x | _=>("" : Af))
 simpa [dP] using this
theorem Qp (h:ys.Perm (xs.map rQ)):∃ g:Aa (Af×Af),g.Perm xs/\ys=g.map rQ:=by
 have key:∀ (ys:Aa D),(∀ y∈ys,∃ x:Af×Af,y=rQ x)->∃ g:Aa (Af×Af),ys=g.map rQ:=by
  intro ys;induction ys with
  | nil=>exact λ_=>⟨[],rfl⟩
  | cons y ys c =>
   intro h;obtain⟨x,rfl⟩:=h y aH;obtain⟨g,rfl⟩:=c λz b=>h z (aQ _ b)
   exact⟨x::g,rfl⟩
 obtain⟨g,rfl⟩:=key ys λy a=>by
  obtain⟨x,_,rfl⟩:=aN.mp (h.mem_iff.mp a);exact⟨x,rfl⟩
 refine⟨g,?_,rfl⟩;have:=h.map (λd=>match d with | D.t [D.str x,D.str y]=>(x,y) | _=>(("" : Af),("" : Af)))
 simpa [dP,rQ] using this
theorem NX (l:Aa g) (d:g) (h:g->j):(List.range l.length).map (λi=>h (l.getD i d))=l.map h:=by
 apply jQ;intro i;rw[aW,aW];by_cases a:i<l.length
 .rw[kU a,aE a];simp[List.getD,aE a]
 .rw[fF (by simpa using a),fF (by omega)];rfl
theorem GB (f:Nat->D) (n:Nat):tK ((List.range n).map f) (some (-1)) none=if n=0 then [] else [f (n-1)]:=by
 unfold tK;rw[HT.sIx_none,aA,cF];have e:HT.sIx n 0 (some (-1))=n-1:=by
  show (if (-1:Int)<0 then ((-1:Int)+(n:Int)).toNat else min (-1:Int).toNat n)=n-1;rw[aO (by decide)];omega
 rw[e];split
 .subst_vars;rfl
 .obtain⟨m,rfl⟩:∃ m,n=m+1:=⟨n-1,by omega⟩;rw[kR,aM,Nat.add_sub_cancel,List.drop_left' (by simp)];simp
theorem U9:∀ i<19,((0:Int)+(i:Nat)).natAbs.log2<1920/\("i" : Af).length+((toString ((0:Int)+(i:Nat)):String):Af).length<=100000:=by decide +kernel
theorem Hj {n:Nat}{j:Aa Nat}{g:uV}{te:nL}{dk:Aa Ad}{Φ:Sl->Aa Sl->Prop}{α:Type}(U:Aa α) (I T:α->D) (p:Aa Sl) (hl:U.length<=100000)
  (hs:∀ (i:Nat) x (C:Aa D) (Nx:Aa D->Aa Sl->Prop),U[i]?=some x->C.length<100000->Nx (C++[T x]) (pW j p)->g (I x) (List.replicate n Sl.n++pW j p) λaa=>te dk aa λr ab=>match sd r with
   | some c=>C.length<100000/\Nx (C++[c]) (ab.drop n)
   | none=>False)
  (ae:Φ (.o (.l (U.map T))) (rA j (pW j p) p)):∃ Pv:Nat->Aa D->Aa Sl->Prop,Pv 0 [] (pW j p) /\
   (∀ i d C J,(U.map I)[i]?=some d->J.length=j.length->Pv i C J->g d (List.replicate n Sl.n++J) λaa=>Mp dk aa λb ac=>if b=true then te dk ac λr ab=>match sd r with
    | some c=>C.length<100000/\Pv (i+1) (C++[c]) (ab.drop n)
    | none=>False
    else Pv (i+1) C (ac.drop n)) /\
   ∀ C J,J.length=j.length->Pv (U.map I).length C J->Φ (.o (.l C)) (rA j J p) :=
 pL (ι:=λ_ _ a=>a (U.map I) p) (dk:=dk) (ρ:=[]) U I T p (λa h=>h) hl hs ae
end Lw
namespace L2
open PySem PySem.Spec PyProof.Rows Lw
def Rc:RM:=λx d H Q=>∃ (a b:Ad) (c more:Aa (gD×V)),x = .ref a/\d=[.ref b]/\a≠b/\H a=some (.k c)/\H b=some (.k more)/\c.length+more.length<=1000/\Q .e (upd H a (.k (sZ c more)))
section
variable {X:Cx}{K:mI}
theorem Yc:xT X "dict.update" Rc:=by
 intro n s Z H x V v S Q I G E h;obtain⟨a,b,c,more,rfl,rfl,ne,m,B,O,q⟩:=h;cases G;obtain⟨u,rfl,D⟩:=rF E;cases D;obtain⟨W,L,i,t,k⟩:=C4 I.hok m;obtain⟨Y,M,f,y,z⟩:=C4 I.hok B;have P:c.length=i.length:=fA t;have R:more.length=f.length:=fA y;have d:i.length+f.length<=sizeLine:=bX (show _<=1000 by omega) (by decide);refine call_meetsIn F.slot_dict_update k.typeIs F.entry_dict_update (F.args_dict_update_2 _ _) (meets_dict_update (pZ X.prog X.w) a b ne M) ⟨i,f,k,z,d,λA d1 _ sm=>?_⟩;have N:(sZ c more).length<=sizeLine:=by
  have:=Jj more c;exact bX (show (sZ c more).length<=1000 by omega) (by decide)
 have there:∃ o,A.get? a=some o:=let ⟨o,_,_,e,_⟩:=d1;⟨o,e⟩;exact⟨.e,_,Kk I (by rw[m];exact True.intro) sm there (E7 N L (y.merge t) d1),rfl,q⟩
def LR:OW:=λc d f=>match c,d with
 | .k a,[.k b]=>a.length+b.length<=1000/\f .e (.k (qF a b))
 | _,_=>False
theorem P6:Dm K Rc LR:=by
 intro A H a c G L M Q w E rd f k;cases c<;>first | exact False.elim f | skip
 cases rd with
 | nil=>exact False.elim f
 | cons B rd =>
 rename_i d _ _ _
 cases d<;>first | exact False.elim f | skip
 cases rd with
 | cons _ _=>exact False.elim f
 | nil =>
 .obtain⟨i,h,e,r⟩:=E
  .obtain⟨b,m,rfl,s,q,n,D⟩:=B.dK_inv;have u:=cG List.length e;have v:=cG List.length n;simp only[aA] at u v;refine⟨a,b,i,m,rfl,rfl,λz=>w (z▸s),h,q,by have:=f.1;omega,k _ _ _ _ f.2 .e λF t=>?_⟩;obtain⟨x,y⟩:=J7 n D e r;exact⟨_,mX,x,y.mono t⟩
end
end L2
namespace PySem
open PyProof.Rows L2
section
variable {s:Ae}
theorem Yf (calm:A.handled=none) (l:∀ g e,(∀ b o,s.heap.get? b=some o->g.get? b=some o)->(∃ o,g.get? e=some o/\o.cls = .type "StopIteration")->E (.ref e) { s with heap:=g }) :
  wpAny (model j w) A (do raiseNew (<- newExc (.type "StopIteration") [])) Q E s:=by
 have c:firstArgMember (.type "StopIteration") []=pure Value.none:=by first | rfl | (simp only[firstArgMember];rfl)
 have made:wpAny (model j w) A (newExc (.type "StopIteration") []) (λv d=>∃ e g,v = .ref e/\d={ s with heap:=g }/\(∀ b o,s.heap.get? b=some o->g.get? b=some o)/\∃ o,g.get? e=some o/\o.cls = .type "StopIteration") E s:=by
  unfold newExc newTuple;refine aB (fC ?_ (by size_fits));refine aB (hX c ?_);exact fC ⟨_,_,rfl,rfl,λb o z=>aG _ (aG _ z),_,bA _ rfl,rfl⟩ (by size_fits)
 refine aB (cO made (λv d a=>?_) λ_ _ z=>z);obtain⟨e,g,h,f,k,t⟩:=a;subst h f;unfold raiseNew;refine aB (wpAny_handled ?_);rw[calm];exact aB (aI (wpAny_throw (l g e k t)))
theorem Vz (x:s.heap.IsTupleIter g t i):∃ o,s.heap.get? g=some o/\o.data = .fields #[.ref t,.int i 0]/\s.TypeIs (.ref g) "tuple_iterator" /\ o.cls = .type "tuple_iterator" := by
 obtain⟨o,a,b,c⟩:=x;exact⟨o,a,c,⟨o,a,b⟩,b⟩
theorem SR {h:Ag}{g t:Ad}{i:Nat}{o:Obj}(a:h.get? g=some o) (b:o.cls = .type "tuple_iterator") (c:o.data = .fields #[.ref t,.int i 0]):(h.update g (Obj.mapFields (·.setIfInBounds 1 (rawInt ((i:Int)+1))))).IsTupleIter g t (i+1):=by
 refine⟨_,jV _ a (Obj.isFreed_of_fields (jG c _)),?_,?_⟩
 .rw[Obj.cls_mapFields];exact b
 .rw[jG c];simp[rawInt]
end
structure RawD (h:Heap) (d:Addr) (o:Obj) (es:Array DictEntry) (ep:Nat):Prop where
 low:(d == sysModules)=false
 get:h.get? d=some o
 ex:o.ExactDict
 dat:o.data = .dict es ep
section
variable {s:Ae}
theorem RawD.ty (r:RawD s.heap d o j g):s.TypeIs (.ref d) "dict" := ⟨o,r.get,r.ex.1⟩
theorem Ks (r:RawD s.heap d o l j) (q:Q (.ref s.heap.objs.size) { s with heap:=s.heap.push { cls:=.type "dict_keyiterator",data:=.fields #[.ref d,.int 0 0,.int l.size 0,.int j 0] } }) :
  wpAny (model g w) A (pyIter (.ref d)) Q E s:=by
 have fresh:∀ h:Ag,h=s.heap.push { cls:=.type "dict_keyiterator",data:=.fields #[.ref d,rawInt 0,rawInt l.size,rawInt j] }->Shared.TypeIs { s with heap:=h } (.ref s.heap.objs.size) "dict_keyiterator" := λh e=>by
  subst e;exact⟨_,bA _ rfl,rfl⟩
 have body:wpAny (model g w) A.in1 (Builtin.«dict.__iter__» ⟨[.ref d],[]⟩) (λr c=>r = .done (.ret (.ref s.heap.objs.size))/\c={ s with heap:=s.heap.push { cls:=.type "dict_keyiterator",data:=.fields #[.ref d,rawInt 0,rawInt l.size,rawInt j] } }) E s:=by
  have self:wpAny (model g w) A.in1 (Builtin.Dict.dictSlotNone "__iter__" ⟨[.ref d],[]⟩) (λv c=>v = .ref d/\c=s) E s:=aB (jX r.ty (aI ⟨rfl,rfl⟩));refine aB (cO self (λv c a=>?_) λ_ _ z=>z);obtain⟨f,i⟩:=a;subst f i;have b:Builtin.Dict.showsAll d=pure ():=by unfold Builtin.Dict.showsAll;simp[r.low]
  refine aB (hX (show Builtin.Dict.addrOf (.ref d)=pure d from rfl) (aB (hX b ?_)));exact aB (wpAny_dictEntries r.get r.dat (aB (wpAny_dictEpoch r.get r.dat (aB (fC (aI ⟨rfl,rfl⟩))))))
 refine wpAny_pyIter_slot r.ty F.slot_dict_iter (dL F.slot_dict_iter r.ty F.entry_dict_iter (cO body (λv c a=>?_) λ_ _ z=>z) (F.args_dict_iter_1 _));obtain⟨f,i⟩:=a;subst f i;refine⟨_,rfl,"dict_keyiterator",_,fresh _ rfl,eW.lookup,?_⟩;exact q
theorem Nv (r:RawD s.heap d o j p) (I:s.heap.IsKeyIter g d i j.size p) (J:i<j.size) (q:∀ C,C.IsKeyIter g d (i+1) j.size p->Heap.SameBut g s.heap C->Q (some j[i].key) { s with heap:=C }) :
  wpAny (model l w) A (pyNext (.ref g)) Q E s:=by
 obtain⟨u,f,n,h⟩:=id I;have ty:s.TypeIs (.ref g) "dict_keyiterator" := ⟨u,f,n⟩;have plain:Builtin.Dict_items.ownsTuple "dict_keyiterator" = false:=by decide
 have c:∀ {E:Ac->Ae->Prop} {b:Ae} {k:Nat->Ae->Prop},b.TypeIs (.ref g) "dict_keyiterator" -> k 0 b->wpAny (model l w) A.in1 (do return if Builtin.Dict_items.ownsTuple (<- typeNameOfWhole (.ref g)) then 2 else 0) k E b:=λt z =>
  aB (wpAny_typeNameOfWhole_keyiter t (by rw[plain];exact aI z))
 let e:=s.heap.update g (Obj.mapFields (·.setIfInBounds 1 (rawInt ((i:Int)+1))));have m:e.IsKeyIter g d (i+1) j.size p:=by
  refine⟨_,jV _ f (Obj.isFreed_of_fields (jG h _)),?_,?_⟩
  .rw[Obj.cls_mapFields];exact n
  .rw[jG h];simp[rawInt]
 have body:wpAny (model l w) A.in1 (Builtin.«dict_keyiterator.__next__» ⟨[.ref g],[]⟩) (λx b=>x = .done (.ret j[i].key)/\b={ s with heap:=e }) (λ_ _=>False) s:=by
  refine aB (aI ?_);refine aB (aB (c ty ?_));refine aB (wpAny_fieldsOf f h ?_);have a:¬ ((Value.ref d == Value.none)=true):=bC;show wpAny _ _ (if (Value.ref d == Value.none)=true then _ else _) _ _ s;rw[aJ a];refine aB (aI (aB (wpAny_dictEntries r.get r.dat ?_)));rw[aJ (by simp)];refine aB (aI (aB (wpAny_dictEpoch r.get r.dat ?_)));rw[aJ (by simp)];refine aI ?_;have row:(if (i:Int)<0 then none else j[(i:Int).toNat]?)=some j[i]:=by
   rw[aJ (by omega),bT,cI J]
  dsimp only;rw[row];refine aB (c ty ?_);refine aB (wpAny_isOneOf_keyiter ty ?_);change wpAny _ _ (setField (.ref g) 1 (rawInt ((i:Int)+1)) >>= _) _ _ s;refine aB (lE f h (by simp) ?_);refine aB (cD (aB (wpAny_isOneOf_keyiter (s:={ s with heap:=e }) m.typeIs ?_)));exact aI (aI ⟨rfl,rfl⟩)
 unfold pyNext;refine aB (fJ (cM (name:=Str.ofString "__next__") ty eW (dL eW ty F.entry_dict_keyiterator_next (cO body (λx b ⟨v,y⟩=>?_) λ_ _ z=>z.elim) (F.args_dict_keyiterator_next_1 _))));subst v y;exact⟨_,rfl,aI (q e m (fW ..))⟩
theorem Ot (calm:A.handled=none) (r:RawD s.heap d o p C) (I:s.heap.IsKeyIter l d p.size p.size C) (q:∀ g,Heap.ExtBut l s.heap g->Q none { s with heap:=g }) :
  wpAny (model j w) A (pyNext (.ref l)) Q E s:=by
 obtain⟨u,h,M,m⟩:=id I;have ty:s.TypeIs (.ref l) "dict_keyiterator" := ⟨u,h,M⟩;have plain:Builtin.Dict_items.ownsTuple "dict_keyiterator" = false:=by decide
 have f:∀ {n:Ac->Ae->Prop} {c:Ae} {i:Nat->Ae->Prop},c.TypeIs (.ref l) "dict_keyiterator" -> i 0 c->wpAny (model j w) A.in1 (do return if Builtin.Dict_items.ownsTuple (<- typeNameOfWhole (.ref l)) then 2 else 0) i n c:=λt z =>
  aB (wpAny_typeNameOfWhole_keyiter t (by rw[plain];exact aI z))
 have body:wpAny (model j w) A.in1 (Builtin.«dict_keyiterator.__next__» ⟨[.ref l],[]⟩) (λ_ _=>False) (λv c=>∃ e g,v = .ref e/\c={ s with heap:=g }/\Heap.ExtBut l s.heap g/\∃ o,g.get? e=some o/\o.cls = .type "StopIteration") s:=by
  refine aB (aI ?_);refine aB (aB (f ty ?_));refine aB (wpAny_fieldsOf h m ?_);have a:¬ ((Value.ref d == Value.none)=true):=bC;show wpAny _ _ (if (Value.ref d == Value.none)=true then _ else _) _ _ s;rw[aJ a];refine aB (aI (aB (wpAny_dictEntries r.get r.dat ?_)));rw[aJ (by simp)];refine aB (aI (aB (wpAny_dictEpoch r.get r.dat ?_)));rw[aJ (by simp)];refine aI ?_;have row:(if ((p.size:Nat):Int)<0 then none else p[((p.size:Nat):Int).toNat]?)=none:=by
   rw[aJ (by omega),bT,fX (aU _)]
  dsimp only;rw[row];refine aB (f ty (aB (lE h m (by simp) ?_)));exact Yf calm λg e k z=>⟨e,g,rfl,rfl,λx o L K=>k x o ((fW ..).extBut x o L K),z⟩
 unfold pyNext;refine aB (fJ (cM (name:=Str.ofString "__next__") ty eW (dL eW ty F.entry_dict_keyiterator_next (cO body (λ_ _ z=>z.elim) λv c ⟨e,g,y,B,D,o,G,H⟩=>?_) (F.args_dict_keyiterator_next_1 _))));subst y B;exact aB (dU (T := "StopIteration") (b:=true) ⟨o,G,H⟩ isSubtype_stop (aI (q g D)))
end
end PySem
namespace L2
open PySem PySem.Spec PyProof.Rows Lw
structure Sw (H H':Hp) (a:Addr) (kvs:List (List gD×V)):Prop where
 out:∀ b,b≠a->H' b=H b
 l:Rd H a (.T kvs)
 r:Rd H' a (.T kvs)
section
theorem Sw.ne (s:Sw H I a j) (h:H b=some u) (p:∀ g,u ≠ .T g) (C:∀ o g,u ≠ .frz o (.T g)):b≠a:=λz=>by
 subst z;rcases s.l with q | ⟨o,q⟩<;>rw[q] at h<;>cases h
 .exact p _ rfl
 .exact C _ _ rfl
theorem Sw.get (s:Sw H j a p) (h:H b=some u) (C:∀ g,u ≠ .T g) (I:∀ o g,u ≠ .frz o (.T g)):j b=some u:=by rw[s.out b (s.ne h C I)];exact h
theorem Sw.rd (s:Sw H p a g) (h:Rd H b (.T j)):Rd p b (.T j):=by
 by_cases e:b=a
 .subst e;have:j=g:=by
   rcases h with h | ⟨o,h⟩<;>rcases s.l with q | ⟨c,q⟩<;>rw[q] at h<;>cases h<;>rfl
  rw[this];exact s.r
 .rcases h with h | ⟨o,h⟩
  .exact .inl (by rw[s.out b e];exact h)
  .exact .inr ⟨o,by rw[s.out b e];exact h⟩
theorem Sw.sqF {K:mI}(s:Sw H g a j) (h:yC K H b p):yC K g b p:=by
 rcases h with⟨o,h⟩ | h
 .exact .inl ⟨o,s.get h (λ_ z=>nomatch z) (λ_ _ z=>nomatch z)⟩
 .exact .inr h
variable {K:mI}
theorem Rep.sw (s:Sw H j a p) (o:∀ b,A b->g b) (h:Rep K A H d v):Rep K g j d v :=
 Rep.rec (motive_1:=λd v _=>Rep K g j d v) (motive_2:=λi m _=>Reps K g j i m) .e .b .int .str .r (λh _ r=>.t (s.get h (λ_ z=>nomatch z) (λ_ _ z=>nomatch z)) r) (λh _ r=>.con h r)
  (λf h _ r=>.l (o _ f) (s.get h (λ_ z=>nomatch z) (λ_ _ z=>nomatch z)) r) (λh _ r=>.c (s.sqF h) r) (λf h e _ r=>.k (o _ f) (s.get h (λ_ z=>nomatch z) (λ_ _ z=>nomatch z)) e r) (λf h e _ r=>.T (o _ f) (s.rd h) e r) .nil (λ_ _ h r=>.cons h r) h
theorem Reps.sw (s:Sw H p a I) (C:∀ b,A b->o b) (h:Reps K A H j l):Reps K o p j l:=by
 induction j generalizing l with
 | nil=>cases h;exact .nil
 | cons d j c=>cases h with | cons g r=>exact .cons (g.sw s C) (c r)
theorem pU.sw (s:Sw H o a p) (g:∀ b,A b->j b) (ne:b≠a) (h:pU K A H b d):pU K j o b d:=by
 cases d with
 | l _=>obtain⟨c,h,r⟩:=h;exact⟨c,by rw[s.out b ne];exact h,r.sw s g⟩
 | k _=>obtain⟨c,h,e,r⟩:=h;exact⟨c,by rw[s.out b ne];exact h,e,r.sw s g⟩
 | T _=>obtain⟨c,h,e,r⟩:=h;exact⟨c,by rw[s.out b ne];exact h,e,r.sw s g⟩
 | _=>exact False.elim h
theorem uD.sw (s:Sw H l a p) (g:∀ b,A b->j b) (ne:∀ b,yU (x,y)=some b->b≠a) (h:uD K A H x y):uD K j l x y:=by
 cases x with
 | n=>trivial
 | v d=>obtain⟨v,e,r⟩:=h;exact⟨v,e,r.sw s g⟩
 | o d=>obtain⟨b,e,r⟩:=h;subst e;exact⟨b,rfl,r.sw s g (ne b rfl)⟩
noncomputable def qJ (B:Bs) (a:Ad) (o:Obj) (g:Aa (Aa gD×V)):Bs:=⟨B.dk,λb=>B.A0 b\/b=a,λb=>if b=a then some (.frz o (.T g)) else B.H0 b⟩
theorem DS.fz (h:DS K B L H) (s:Sw H j a g) (l:j a=some (.frz o (.T g))) (al:Al B (mJ L) a):DS K (qJ B a o g) L j:=by
 refine⟨λb u e n=>?_,h.dk.keep λb c=>s.out b λz=>al.1 (z▸c),h.nd,λb c=>?_,λp d=>?_⟩
 .by_cases z:b=a
  .subst z;rw[show (qJ B b o g).H0 b=some (.frz o (.T g)) from aO rfl] at e;rw[l];exact e
  .rw[show (qJ B a o g).H0 b=B.H0 b from aJ z] at e;rw[s.out b z];exact h.fr b u e n
 .have z:b≠a:=λz=>al.2.1 (z▸c)
  rw[show (qJ B a o g).H0 b=B.H0 b from aJ z];exact h.new b c
 .refine (h.ok p d).sw s (λb ⟨f,i,k⟩=>⟨f,i,?_⟩) λb c z=>al.2.1 (wC.mpr ⟨p,d,z▸c⟩)
  by_cases z:b=a
  .exact .inl (.inr z)
  .refine k.elim (λq=>.inl (.inl q)) λq=>.inr ?_
   rw[show (qJ B a o g).H0 b=B.H0 b from aJ z];exact q
theorem DS.known (h:DS K (qJ B a o g) L H) (j:a∉B.dk):H a=some (.frz o (.T g)):=h.fr a _ (aO rfl) j
theorem DS.th (h:DS K (qJ B a o g) L H) (s:Sw H j a g) (C:a∉B.dk) (l:∀ u,B.H0 a=some u->j a=some u) (r:B.A0 a\/B.H0 a=none):DS K B L j:=by
 have f:∀ b∈mJ L,b≠a:=λb c z=>by
  have:=(h.new b c).1;rw[z,show (qJ B a o g).H0 a=some (.frz o (.T g)) from aO rfl] at this;cases this
 refine⟨λb u e n=>?_,h.dk.keep λb c=>s.out b λz=>C (z▸c),h.nd,λb c=>?_,λp d=>?_⟩
 .by_cases z:b=a
  .subst z;exact l u e
  .rw[s.out b z];exact h.fr b u (by rw[show (qJ B a o g).H0 b=B.H0 b from aJ z];exact e) n
 .have:=h.new b c;rw[show (qJ B a o g).H0 b=B.H0 b from aJ (f b c)] at this;exact this
 .refine (h.ok p d).sw s (λb ⟨i,k,m⟩=>⟨i,k,?_⟩) λb c z=>f b (wC.mpr ⟨p,d,c⟩) z
  by_cases z:b=a
  .rw[z];exact r
  .refine m.elim (λq=>.inl (q.resolve_right z)) λq=>.inr ?_
   rw[show (qJ B a o g).H0 b=B.H0 b from aJ z] at q;exact q
end
section
variable {X:Cx}
theorem Inv.swapped (I:Inv X r J H s) (sw:Sw H g a j) (C:∀ o u,X.H₀ a≠some (.frz o u)) (ok:oG X.prog X.w g s.heap a (.T j)->∀ u,g a=some u->oG X.prog X.w g s.heap a u):Inv X r J g s:=by
 have d:∀ b,H b=none->g b=none:=λb e=>by
  rw[sw.out b λz=>by subst z;rcases sw.l with q | ⟨o,q⟩<;>rw[q] at e<;>cases e];exact e
 have tup_at:∀ b h,H b=some (.t h)->g b=some (.t h):=λb h e=>sw.get e (λ_ z=>nomatch z) (λ_ _ z=>nomatch z)
 have f:∀ b y,H b=some (.o y)->g b=some (.o y):=λb h e=>sw.get e (λ_ z=>nomatch z) (λ_ _ z=>nomatch z)
 refine⟨I.ok,I.os,I.bare,⟨I.base.keep,I.base.slot,λb u e n x=>d b (I.base.free b u e n x),I.base.there,λb h e=>tup_at b h (I.base.tups b h e),λb i u e=>?_,λb m e=>?_⟩,I.loc,I.cell,d _ I.free,λx c e=>d c (I.freeC x c e),λp k=>?_,λb u e=>?_,I.len⟩
 .have ne:b≠a:=λz=>C i u (z▸e)
  rw[sw.out b ne];exact I.base.frzs b i u e
 .obtain⟨more,q⟩:=I.base.tbls b m e;exact⟨more,sw.get q (λ_ z=>nomatch z) (λ_ _ z=>nomatch z)⟩
 .obtain⟨v,A,B⟩:=I.pin p k;exact⟨v,d _ A,B⟩
 .by_cases z:b=a
  .subst z;have base:oG X.prog X.w H s.heap b (.T j):=sw.l.ok I.hok;exact ok (base.stay (λ_ _ _ q=>q) (λc q=>f c _ q) tup_at) u e
  .rw[sw.out b z] at e;exact (I.hok b u e).stay (λ_ _ _ q=>q) (λc q=>f c _ q) tup_at
theorem Inv.frozen (I:Inv X g r H s) (l:H a=some (.T j)) (p:s.heap.get? a=some o):Inv X g r (upd H a (.frz o (.T j))) s:=by
 refine I.swapped ⟨λb n=>mT n,.inl l,.inr ⟨o,mX⟩⟩ (λc u e=>?_) λq u e=>?_
 .have:=I.base.frzs a c u e;rw[l] at this;cases this
 .rw[mX] at e;cases e;exact⟨p,q⟩
theorem Inv.thawed (I:Inv X g r H s) (p:H a=some (.frz o (.T j))) (l:∀ o u,X.H₀ a≠some (.frz o u)):Inv X g r (upd H a (.T j)) s:=by
 refine I.swapped ⟨λb n=>mT n,.inr ⟨o,p⟩,.inl mX⟩ l λq u e=>?_
 rw[mX] at e;cases e;exact q
end
def yH (a:Ad) (o:Obj) (g:Aa (Aa gD×V)):It :=
 ⟨λi H=>H a=some (.frz o (.T g))/\i<g.length,λi H x b=>b=H/\∃ k v p,g[i]?=some (k,v)/\x = .ref p/\H p=some (.t (k.map kV)),λi H=>H a=some (.frz o (.T g))/\i=g.length⟩
theorem Fx {F:l->o->Prop}:∀ {g:Aa l}{j:Aa o}{i:Nat}{a:l},Paired F g j->g[i]?=some a->∃ b,j[i]?=some b/\F a b
 | _,_,_,_,.nil,h=>by simp at h
 | _,_,0,_,.cons x r,h=>by simp at h;subst h;exact⟨_,by simp,x⟩
 | _,_,i+1,a,.cons x r,h=>by
  obtain⟨b,c,d⟩:=Fx (i:=i) r (by simpa using h);exact⟨b,by simpa using c,d⟩
theorem Mo {P:Ah}(ok:oO P w H h) (I:H a=some (.frz o (.T g))) :
  ∃ j l,RawD h a o j l/\j.size=g.length/\∀ (i:Nat) (C:i<j.size),∃ k v p,g[i]?=some (k,v)/\j[i].key = .ref p/\H p=some (.t (k.map kV)):=by
 obtain⟨b,z,lo,m,r,D,j,l,c,n,s,d,_⟩:=(show oG P w H h a (.frz o (.T g)) from ok a _ I);rw[b] at c;cases c;have A:g.length=m.length:=fA r;have B:j.size=m.length:=by
  have:=cG List.length d
  simpa using this
 refine⟨j,l,⟨lo,b,n,s⟩,by omega,λi C=>?_⟩;have f:i<g.length:=by omega
 obtain⟨q,x,E,y,F⟩:=Fx r (aE f);refine⟨g[i].1,g[i].2,q.2.1,aE f,?_,y⟩;have e:j.toList[i]?=some (entryOfKey (tupleKind (pZ P w)) q):=by rw[d,aW,x];rfl
 have u:j[i]=entryOfKey (tupleKind (pZ P w)) q:=by
  have:j.toList[i]?=some j[i]:=by rw[cZ,cI C]
  rw[this] at e;exact bK e
 rw[u];rfl
theorem IZ {P:Ah}{K:mI}(a j:Ad) (o:Obj) (l:Aa (Aa gD×V)):Turn P w K tg (yH a o l) [j] j (λi h=>∃ g,(∃ C,o.data = .dict C g)/\h.IsKeyIter j a i l.length g) where
 mem:=by simp
 obj:=λi h st b n=>by
  have e:b=j:=by simpa using n
  subst e;obtain⟨_,_,o,e,c,d⟩:=st;exact⟨o,e,λv z=>by rw[d] at z;cases z⟩
 keep:=λi h x ⟨g,q,o,e,r⟩ k=>⟨g,q,o,k j (by simp) o e,r⟩
 item:=by
  intro X L hw G Q i m s R H E I y st N;subst L hw G;obtain⟨g,⟨A,t⟩,st⟩:=st;obtain⟨M,O⟩:=N;obtain⟨C,f,raw,sz,rows⟩:=Mo I.hok M;have:f=g:=by have:=raw.dat;rw[t] at this;cases this;rfl
  subst this;rw[<- sz] at st O;obtain⟨k,v,p,Y,Z,J⟩:=rows i O;obtain⟨f0,f1,f2,B,D,F⟩:=y j (by simp);refine Nv raw st O λx u T=>?_
  have S:Inv X m R H { s with heap:=x }:=I.turned (t':=s.toks) (λb o n e=>(T.2 b n).trans e) f0 f1 B D F;rw[sz] at u;obtain⟨U,e,c,d⟩:=id u;exact⟨_,rfl,By (s:={ s with heap:=x }) e c d (by decide) ⟨.ref p,H,S,Z,⟨rfl,k,v,p,Y,rfl,J⟩,⟨f,⟨C,raw.dat⟩,u⟩,λb n=>(y b n).1⟩⟩
 done:=by
  intro X L hw G Q i m s R H E I y st N;subst L hw G;obtain⟨g,⟨A,t⟩,st⟩:=st;obtain⟨M,rfl⟩:=N;obtain⟨C,f,raw,sz,rows⟩:=Mo I.hok M;have:f=g:=by have:=raw.dat;rw[t] at this;cases this;rfl
  subst this;rw[<- sz] at st;obtain⟨f0,f1,f2,B,D,F⟩:=y j (by simp);exact Ot (I.ok.hd Q) raw st λx W=>⟨rfl,I.turned (t':=s.toks) (λb o n e=>W b o n e) f0 f1 B D F⟩
 self:=λ_ _ _ _ _ ⟨_,_,st⟩ h=>kK st h
section
variable {X:Cx}
noncomputable def A8:gD->D
 | .inl i=>.int i
 | .inr x=>.str x
theorem Hm {K:mI}:∀ k:Aa gD,Reps K A H (k.map A8) (k.map kV)
 | []=>.nil
 | .inl i::k=>.cons (.int i) (Hm k)
 | .inr x::k=>.cons (.str x) (Hm k)
def tF (g:Aa (Aa gD×D)):Aa D:=g.map λp=>.t (p.1.map A8)
end
end L2
namespace PySem
open PyProof.Rows L2
section
theorem IF (I:s.heap.IsTupleIter j t i) (T:s.heap.IsTuple t C) (J:C[i]?=some x) (q:∀ g,g.IsTupleIter j t (i+1)->Heap.SameBut j s.heap g->Q x { s with heap:=g }) :
  wpAny (model l w) A (Builtin.SmallTypes.nextOf (.ref j)) Q E s:=by
 obtain⟨o,a,c,ty,b⟩:=Vz I;obtain⟨p,m,v,n,u⟩:=id T;have body:wpAny (model l w) A.in1 (Builtin.«tuple_iterator.__next__» ⟨[.ref j],[]⟩) (λr d=>∃ g,r = .done (.ret x)/\d={ s with heap:=g }/\g.IsTupleIter j t (i+1)/\Heap.SameBut j s.heap g) E s:=by
  show wpAny _ _ (field (.ref j) 0 >>= _) _ _ s;refine aB (eO a c (x:=.ref t) rfl ?_);refine (show wpAny _ _ (field (.ref j) 1 >>= _) _ _ s from aB (eO a c (x:=.int i 0) rfl (aB (fP m u ?_))));simp only[bT,J];exact aB (lE a c (by simp) (aI ⟨_,rfl,rfl,SR a b c,fW ..⟩))
 unfold Builtin.SmallTypes.nextOf;refine aB (cM (name:=Str.ofString "__next__") ty gE (dL gE ty F.entry_tuple_iterator_next (cO body (λr d ⟨g,e,f,h,k⟩=>?_) λ_ _ z=>z) (F.args_tuple_iterator_next_1 _)));subst e f;exact⟨x,rfl,aI (q g h k)⟩
theorem Z0 (calm:A.handled=none) (I:s.heap.IsTupleIter j t i) (T:s.heap.IsTuple t C) (r:C[i]?=none)
  (q:∀ g e,Heap.ExtBut j s.heap g->(∃ o,g.get? e=some o/\o.cls = .type "StopIteration")->E (.ref e) { s with heap:=g }):wpAny (model l w) A (Builtin.SmallTypes.nextOf (.ref j)) Q E s:=by
 obtain⟨o,a,c,ty,b⟩:=Vz I;obtain⟨p,f,m,n,h⟩:=id T;have body:wpAny (model l w) A.in1 (Builtin.«tuple_iterator.__next__» ⟨[.ref j],[]⟩) (λ_ _=>False) E s:=by
  show wpAny _ _ (field (.ref j) 0 >>= _) _ _ s;refine aB (eO a c (x:=.ref t) rfl ?_);refine (show wpAny _ _ (field (.ref j) 1 >>= _) _ _ s from aB (eO a c (x:=.int i 0) rfl (aB (fP f h ?_))));simp only[bT,r];refine aB (lV (aB (lE a c (by simp) ?_)));exact Yf calm λg e k z=>q g e (λx o d r=>k x o ((fW ..).extBut x o d r)) z
 unfold Builtin.SmallTypes.nextOf;exact aB (cM (name:=Str.ofString "__next__") ty gE (dL gE ty F.entry_tuple_iterator_next (cO body (λ_ _ z=>z.elim) λ_ _ z=>z) (F.args_tuple_iterator_next_1 _)))
def Ix (z TI TO:Ad) (E:Ac->Ae->Prop):Ac->Ae->Prop:=λe a=>IsZip a.heap z TI TO .ellipsis/\∀ b,Heap.SameBut z a.heap b->E e { a with heap:=b }
theorem Sr {z TI TO:Ad}{a b p q:Ac}{Q:Ac->Ae->Prop}(J:IsZip s.heap z TI TO .none) (aa:IsPair s.heap TI a b)
  (go:∀ C,IsZip C z TI TO .ellipsis->Heap.SameBut z s.heap C->wpAny (model g w) A (Builtin.SmallTypes.nextOf a) (λx T=>IsPair T.heap TO p q/\∀ I,IsPair I TO x q->Heap.SameBut TO T.heap I ->wpAny (model g w) A (Builtin.SmallTypes.nextOf b) (λy U=>IsPair U.heap TO x q/\∀ j,IsPair j TO x y->Heap.SameBut TO U.heap j->IsZip j z TI TO .ellipsis /\ ∀ r,IsZip r z TI TO (rawInt j.objs.size)->IsPair r j.objs.size x y->r.objs.size=j.objs.size+1->(∀ c o,c≠z->j.get? c=some o->r.get? c=some o)->Q (.ref j.objs.size) { U with heap:=r }) (Ix z TI TO E) { T with heap:=I }) (Ix z TI TO E) { s with heap:=C }) :
  wpAny (model g w) A (Builtin.«zip.__next__» ⟨[.ref z],[]⟩) (λfin l=>∃ v,fin = .done (.ret v)/\Q v l) E s:=by
 have free:wpAny (model g w) A (Builtin.SmallTypes.ownedTupleIsFree (.ref z)) (λx l=>x=true/\l=s) E s:=aB (eO J rfl (x:=.none) rfl (aI ⟨rfl,rfl⟩));have back:∀ {i:Type} {m:Sem i} {R:i->Ae->Prop} {l:Ae},wpAny (model g w) A m R (Ix z TI TO E) l->wpAny (model g w) A (m.onRaise λ_=>setField (.ref z) 0 .none) R E l:=λ{i m R l} h =>
  wpAny_onRaise (cO h (λ_ _ z=>z) λe Y ⟨d,K⟩=>iD d (by simp) λr _ O=>K r O)
 unfold Builtin.«zip.__next__»;refine aB (aI (aB (eO J rfl (x:=.bool false) rfl (aB (eO J rfl (x:=.ref TI) rfl (aB (fP aa rfl ?_)))))));refine aB (mV free ?_);rintro _ l ⟨rfl,rfl⟩;simp only[gR];refine aB (lV (aB (eO J rfl (x:=.ref TO) rfl (aB (iD J (by simp) λC P d=>?_)))));simp only[List.zipIdx_cons,List.zipIdx_nil,kM,List.forIn_nil,bind_assoc];refine aB (back (aB (mV (go C P d) λx T ⟨B,g2⟩=>aI ?_)));refine aB (aB (fP B rfl (aB (wpAny_updateSeq_pair B λI N L=>aB (wpAny_letGo (aI ?_))))));refine aB (aB (back (aB (mV (g2 I N L) λy U ⟨D,H⟩=>aI ?_))));refine aB (aB (fP D rfl (aB (wpAny_updateSeq_pair D λj F M=>aB (wpAny_letGo (aI (aI ?_)))))));obtain⟨G,fin⟩:=H j F M;have f:z<j.objs.size:=aZ G;refine aB (fP F rfl (aB (wpAny_newTuple ?_ (hsz:=(show 2<=sizeLine by decide)))));have S:IsZip (j.push (seqObj "tuple" #[x,y] 0)) z TI TO .ellipsis:=aG _ G;refine aB (show wpAny _ _ (setField (.ref z) 0 (rawInt j.objs.size) >>= λ_=>setField (.ref z) 1 (.bool false)) _ _ _ from aB (iD S (by simp) λX V t=>iD V (by simp) λk W u=>?_));have up:∀ c o,c≠z->(j.push (seqObj "tuple" #[x,y] 0)).get? c=some o->k.get? c=some o:=λc o n e=>u.extBut _ _ n (t.extBut _ _ n e)
 refine aI ⟨_,rfl,fin k W (up _ _ (hZ f) (bA _ rfl)) (by rw[u.1,t.1,dR]) λc o n e=>up c o n (aG _ e)⟩
end
def Et (a b:Ac):Obj:={ cls:=.type "tuple",data:=.seq #[a,b] }
def U8 (a b:Ad):Obj:={ cls:=.type "zip",data:=.fields #[.none,.bool false,.bool false,.ref a,.ref b] }
end PySem
namespace L2
open PySem PySem.Spec PyProof.Rows Lw
section
variable {X:Cx}{K:mI}
def vo (i:Nat):nL:=λ_ a b=>match a[i]? with
 | some (.o d)=>b (.o d) (a.set i .n)
 | _=>False
theorem B8 (i:Nat) (h:PE X (.Name x pos) (pX i)):PD X (.Name x pos) (vo i):=h.mono λG H Q q=>q.elim λB E T F m hd c k=>by
 unfold vo at c;cases f:E[i]? with
 | none=>rw[f] at c;exact False.elim c
 | some s =>
 rw[f] at c;cases s<;>first | exact False.elim c | skip
 .rename_i d
  obtain⟨a,y,b,t,_,z,e⟩:=wK m f;have u:=e .n y;rw[Bh t] at u;obtain⟨v,w,_⟩:=hd.peek m (d:=d) (i:=i) (by unfold at?;rw[f];rfl);rw[t] at w;cases w;refine⟨v,t,k _ _ v H (by rw[bW];exact m) ?_ c⟩;rw[z,bP,cT] at hd;rw[u,bP,cT];have d1:DS X.K B ((.o d,some v)::(a++(b++T))) H:=hd.perm fG;have d2:DS X.K B (((.o d,some v)::a)++(Sl.n,some v)::(b++T)) H:=DS.pushN (L1:=(.o d,some v)::a) (L2:=b++T) d1 (some v);refine d2.perm ?_;have A:(((Sl.o d,some v)::a)++(Sl.n,some v)::(b++T)).Perm ((Sl.o d,some v)::(a++(Sl.n,some v)::b++T)):=by simp
  refine A.trans ?_;have D:((Sl.o d,some v)::(a++(Sl.n,some v)::b++T)).Perm ((a++(Sl.n,some v)::b)++(Sl.o d,some v)::T):=fG.symm;refine D.trans (by simp)
end
structure SwK (H H':Hp) (a:Addr) (kvs:List (gD×V)):Prop where
 out:∀ b,b≠a->H' b=H b
 l:Rd H a (.k kvs)
 r:Rd H' a (.k kvs)
section
theorem SwK.ne (s:SwK H I a j) (h:H b=some u) (p:∀ g,u ≠ .k g) (C:∀ o g,u ≠ .frz o (.k g)):b≠a:=λz=>by
 subst z;rcases s.l with q | ⟨o,q⟩<;>rw[q] at h<;>cases h
 .exact p _ rfl
 .exact C _ _ rfl
theorem SwK.get (s:SwK H j a p) (h:H b=some u) (C:∀ g,u ≠ .k g) (I:∀ o g,u ≠ .frz o (.k g)):j b=some u:=by rw[s.out b (s.ne h C I)];exact h
end
section
variable {X:Cx}
theorem Inv.swappedK (I:Inv X r J H s) (sw:SwK H g a j) (C:∀ o u,X.H₀ a≠some (.frz o u)) (ok:oG X.prog X.w g s.heap a (.k j)->∀ u,g a=some u->oG X.prog X.w g s.heap a u):Inv X r J g s:=by
 have d:∀ b,H b=none->g b=none:=λb e=>by
  rw[sw.out b λz=>by subst z;rcases sw.l with q | ⟨o,q⟩<;>rw[q] at e<;>cases e];exact e
 have tup_at:∀ b h,H b=some (.t h)->g b=some (.t h):=λb h e=>sw.get e (λ_ z=>nomatch z) (λ_ _ z=>nomatch z)
 have f:∀ b y,H b=some (.o y)->g b=some (.o y):=λb h e=>sw.get e (λ_ z=>nomatch z) (λ_ _ z=>nomatch z)
 refine⟨I.ok,I.os,I.bare,⟨I.base.keep,I.base.slot,λb u e n x=>d b (I.base.free b u e n x),I.base.there,λb h e=>tup_at b h (I.base.tups b h e),λb i u e=>?_,λb v e=>?_⟩,I.loc,I.cell,d _ I.free,λx c e=>d c (I.freeC x c e),λp m=>?_,λb u e=>?_,I.len⟩
 .have ne:b≠a:=λz=>C i u (z▸e)
  rw[sw.out b ne];exact I.base.frzs b i u e
 .obtain⟨more,q⟩:=I.base.tbls b v e;exact⟨more,sw.get q (λ_ z=>nomatch z) (λ_ _ z=>nomatch z)⟩
 .obtain⟨A,B,D⟩:=I.pin p m;exact⟨A,d _ B,D⟩
 .by_cases z:b=a
  .subst z;have base:oG X.prog X.w H s.heap b (.k j):=sw.l.ok I.hok;exact ok (base.stay (λ_ _ _ q=>q) (λc q=>f c _ q) tup_at) u e
  .rw[sw.out b z] at e;exact (I.hok b u e).stay (λ_ _ _ q=>q) (λc q=>f c _ q) tup_at
theorem Inv.frozenK (I:Inv X g r H s) (l:H a=some (.k j)) (p:s.heap.get? a=some o):Inv X g r (upd H a (.frz o (.k j))) s:=by
 refine I.swappedK ⟨λb n=>mT n,.inl l,.inr ⟨o,mX⟩⟩ (λc u e=>?_) λq u e=>?_
 .have:=I.base.frzs a c u e;rw[l] at this;cases this
 .rw[mX] at e;cases e;exact⟨p,q⟩
theorem Inv.thawedK (I:Inv X g r H s) (p:H a=some (.frz o (.k j))) (l:∀ o u,X.H₀ a≠some (.frz o u)):Inv X g r (upd H a (.k j)) s:=by
 refine I.swappedK ⟨λb n=>mT n,.inr ⟨o,p⟩,.inl mX⟩ l λq u e=>?_
 rw[mX] at e;cases e;exact q
end
def Ja (a:Ad) (o:Obj) (g:Aa (gD×V)):It :=
 ⟨λi H=>H a=some (.frz o (.k g))/\i<g.length,λi H x b=>b=H/\∃ k v,g[i]?=some (k,v)/\x=kV k,λi H=>H a=some (.frz o (.k g))/\i=g.length⟩
theorem Ro (h:zH k v=true):nC (kV k) v:=by
 rcases xC h with⟨i,t,rfl,rfl⟩ | ⟨x,t,rfl,rfl⟩
 .exact⟨t,rfl⟩
 .exact⟨t,rfl⟩
theorem pairs_at {P:Ah}:∀ {g:Aa DictEntry}{j:Aa (gD×Ac)},Pairs (pZ P w) g j->g.length=j.length/\∀ (i:Nat) e q,g[i]?=some e->j[i]?=some q->zH q.1 e.key=true/\e.val=q.2:=by
 intro g;induction g with
 | nil=>intro j h;cases h;exact⟨rfl,λi e q h=>by cases h⟩
 | cons a g m =>
  intro j h;cases h with
  | cons d f k =>
   obtain⟨n,s⟩:=m k;refine⟨cG (·+1) n,λi e q b c=>?_⟩;cases i with
   | zero=>cases b;cases c;exact⟨d,f⟩
   | succ i=>exact s i e q b c
theorem Oh {P:Ah}(ok:oO P w H h) (C:H a=some (.frz o (.k g))) :
  ∃ j l,RawD h a o j l/\j.size=g.length/\∀ (i:Nat) (p:i<j.size),∃ k v,g[i]?=some (k,v)/\nC (kV k) j[i].key:=by
 obtain⟨c,z,lo,y,r,D,j,l,d,f,m,A,n,_⟩:=(show oG P w H h a (.frz o (.k g)) from ok a _ C);rw[c] at d;cases d;have B:g.length=y.length:=fA r;obtain⟨u,b⟩:=pairs_at n;rw[eL] at u;refine⟨j,l,⟨lo,c,f,m⟩,by omega,λi p=>?_⟩;have e:i<g.length:=by omega
 obtain⟨q,s,x,_⟩:=Fx r (aE e);obtain⟨t,_⟩:=b i j[i] q (by rw[cZ,cI p]) s;exact⟨g[i].1,g[i].2,aE e,by rw[x];exact Ro t⟩
theorem CP {P:Ah}{K:mI}(a j:Ad) (o:Obj) (l:Aa (gD×V)):Turn P w K T (Ja a o l) [j] j (λi h=>∃ g,(∃ p,o.data = .dict p g)/\h.IsKeyIter j a i l.length g) where
 mem:=aH
 obj:=λi h st b n=>by
  obtain rfl:=aX.mp n;obtain⟨_,_,o,e,c,d⟩:=st;exact⟨o,e,λv z=>by rw[d] at z;cases z⟩
 keep:=λi h x ⟨g,q,o,e,r⟩ k=>⟨g,q,o,k j aH o e,r⟩
 item:=by
  intro X L hw G Q i m s R H E I y st N;subst L hw G;obtain⟨g,⟨A,t⟩,st⟩:=st;obtain⟨M,O⟩:=N;obtain⟨p,f,raw,sz,rows⟩:=Oh I.hok M;have:f=g:=by have:=raw.dat;rw[t] at this;cases this;rfl
  subst this;rw[<- sz] at st O;obtain⟨k,v,Y,Z⟩:=rows i O;obtain⟨f0,f1,f2,B,D,F⟩:=y j aH;refine Nv raw st O λx u C=>?_
  have S:Inv X m R H { s with heap:=x }:=I.turned (t':=s.toks) (λb o n e=>(C.2 b n).trans e) f0 f1 B D F;rw[sz] at u;obtain⟨J,e,c,d⟩:=id u;exact⟨_,rfl,By (s:={ s with heap:=x }) e c d (by decide) ⟨kV k,H,S,Z,⟨rfl,k,v,Y,rfl⟩,⟨f,⟨p,raw.dat⟩,u⟩,λb n=>(y b n).1⟩⟩
 done:=by
  intro X L hw G Q i m s R H E I y st N;subst L hw G;obtain⟨g,⟨A,t⟩,st⟩:=st;obtain⟨M,rfl⟩:=N;obtain⟨p,f,raw,sz,rows⟩:=Oh I.hok M;have:f=g:=by have:=raw.dat;rw[t] at this;cases this;rfl
  subst this;rw[<- sz] at st;obtain⟨f0,f1,f2,B,D,F⟩:=y j aH;exact Ot (I.ok.hd Q) raw st λx W=>⟨rfl,I.turned (t':=s.toks) (λb o n e=>W b o n e) f0 f1 B D F⟩
 self:=λ_ _ _ _ _ ⟨_,_,st⟩ h=>kK st h
def S4 (g:TE):TI:=λd H R=>g d H λx c=>∃ a o b,x = .ref a/\c a=some (.frz o (.k b))/\R (Ja a o b) c
theorem Wt {X:Cx}(g:PE X l j):PI X p l (S4 j):=by
 intro c s A H R I h;refine mV (g c s A H _ I h) λv i k=>?_
 obtain⟨x,m,f,z,a,o,d,e,w,q⟩:=k;subst e;cases z;obtain⟨t,n,raw,sz,_⟩:=Oh f.hok w;have u:∀ b∈[i.heap.objs.size],uQ X c m b:=λb y=>by
  obtain rfl:=aX.mp y;exact f.fpOk (aU _) (f.hok.fresh (aU _))
 refine Ks raw ⟨i.heap.objs.size,[i.heap.objs.size],_,Ja a o d,m,rfl,f.kept (t':=i.toks) λb B q=>aG _ q,CP a _ o d,⟨n,⟨t,raw.dat⟩,?_⟩,u,q⟩;exact⟨_,bA _ rfl,rfl,by rw[sz];rfl⟩
theorem MU:Yields (Ja a o g) (g.map λp=>kV p.1) (λH=>H a=some (.frz o (.k g))) :=
 ⟨λi H b r=>⟨r,by rw[aA] at b;exact b⟩,λi H x d b r y=>by
  obtain⟨e,k,v,c,rfl⟩:=y;exact⟨e,by rw[aW,c];rfl⟩,λi H e r=>⟨r,by rw[aA] at e;exact e⟩⟩
end L2
namespace Lw
open PySem L2
noncomputable def vJ (t:nB) (x:Af) (i:Int):nB:=if x∈t.map (·.1) then t.map (λp=>if p.1=x then (p.1,i) else p) else t++[(x,i)]
theorem Jp (t:nB) (x:Af) (i:Int):nM (gV t) (Sum.inr x) (.int i)=gV (vJ t x i):=by
 unfold nM vJ;have e:((gV t).any λa=>decide (a.1=(Sum.inr x:gD)))=decide (x∈t.map (·.1)):=by
  rw[fR];simp only[gV,List.any_map,gA,dP,fE,aN,Sum.inr.injEq]
 rw[e];by_cases h:x∈t.map (·.1)
 .rw[aO (bJ h),aO h];unfold gV;rw[aR,aR];refine cX λp _=>?_
  show (if (Sum.inr p.1:gD)=Sum.inr x then ((Sum.inr p.1:gD),D.int i) else (Sum.inr p.1,D.int p.2))=(Sum.inr (if p.1=x then (p.1,i) else p).1,D.int (if p.1=x then (p.1,i) else p).2);by_cases q:p.1=x
  .rw[aO (by rw[q]),aO q]
  .rw[aJ (λz=>q (fY z)),aJ q]
 .rw[aJ (by simp[h]),aJ h];unfold gV;rw[List.map_append];rfl
theorem Ll (t u:nB) (x:Af):look (t++u) x=if x∈t.map (·.1) then look t x else look u x:=by
 induction t with
 | nil=>rw[gL,aJ (by simp)]
 | cons p t a =>
  rw[cT,wM,wM];by_cases e:p.1=x
  .rw[aO e,aO e,aO (by rw[<- e];exact aH)]
  .rw[aJ e,aJ e,a,aP];by_cases q:x∈t.map (·.1)
   .rw[aO q,aO (aQ _ q)]
   .rw[aJ q,aJ (λz=>(aK.mp z).elim (λz=>e z.symm) q)]
theorem Cz (g:(t.map (·.1)).Nodup) (h:p∈t):look t p.1=p.2:=by
 induction t with
 | nil=>cases h
 | cons q t a =>
  obtain⟨b,c⟩:=bY.mp g;rw[wM];rcases aK.mp h with z | z
  .subst z;rw[aO rfl]
  .rw[aJ (λe=>b (by show q.1∈t.map (·.1);rw[e];exact dY (f:=λp:Af×Int=>p.1) z)),a c z]
end Lw
namespace PySem
open PyProof.Rows L2
def oP (b:Bool) (h:Ag) (g t:Ad) (i:Nat):Prop:=match b with
 | true=>h.IsTupleIter g t i
 | false=>h.IsListIter g t i
def oX (b:Bool) (h:Ag) (a:Ad) (g:Array Ac):Prop:=match b with
 | true=>h.IsTuple a g
 | false=>h.IsList a g
theorem rH (x:oP b h g t i) (k:∀ o,h.get? g=some o->j.get? g=some o):oP b j g t i:=by
 cases b
 .exact let ⟨o,e,r⟩:=(show h.IsListIter g t i from x);⟨o,k o e,r⟩
 .exact let ⟨o,e,r⟩:=(show h.IsTupleIter g t i from x);⟨o,k o e,r⟩
theorem sT (x:oX b h a g) (k:∀ o,h.get? a=some o->j.get? a=some o):oX b j a g:=by
 cases b
 .exact let ⟨o,e,r⟩:=(show h.IsList a g from x);⟨o,k o e,r⟩
 .exact let ⟨o,e,r⟩:=(show h.IsTuple a g from x);⟨o,k o e,r⟩
theorem Ce (x:oP b h g t i):∃ o,h.get? g=some o:=by
 cases b
 .exact let ⟨o,e,_⟩:=(show h.IsListIter g t i from x);⟨o,e⟩
 .exact let ⟨o,e,_⟩:=(show h.IsTupleIter g t i from x);⟨o,e⟩
theorem Cn (x:oX b h a g):∃ o,h.get? a=some o:=by
 cases b
 .exact let ⟨o,e,_⟩:=(show h.IsList a g from x);⟨o,e⟩
 .exact let ⟨o,e,_⟩:=(show h.IsTuple a g from x);⟨o,e⟩
section
theorem C3 (I:oP b s.heap j t i) (T:oX b s.heap t l) (o:l[i]?=some x) (q:∀ g,oP b g j t (i+1)->Heap.SameBut j s.heap g->Q x { s with heap:=g }) :
  wpAny (model p w) A (Builtin.SmallTypes.nextOf (.ref j)) Q E s:=by
 cases b
 .exact wpAny_nextOf_list_item I T o q
 .exact IF I T o q
theorem Jm (calm:A.handled=none) (I:oP b s.heap p t i) (T:oX b s.heap t j) (l:j[i]?=none)
  (q:∀ g e,Heap.ExtBut p s.heap g->(∃ o,g.get? e=some o/\o.cls = .type "StopIteration")->E (.ref e) { s with heap:=g }):wpAny (model r w) A (Builtin.SmallTypes.nextOf (.ref p)) Q E s:=by
 cases b
 .exact wpAny_nextOf_list_end calm I T l q
 .exact Z0 calm I T l q
theorem Vr {I J:Bool}{z TI TO j l r C:Ad}{k1 k2:Nat}{xs ys:Array Ac}{x y a b:Ac}{Q:Ab Ac->Ae->Prop}(D:ZipApart z TI TO j l r C) (hz:IsZip s.heap z TI TO .none) (T:IsPair s.heap TI (.ref j) (.ref l)) (U:IsPair s.heap TO a b)
  (h1:oP I s.heap j r k1) (h2:oP J s.heap l C k2) (aa:oX I s.heap r xs) (ab:oX J s.heap C ys) (hx:xs[k1]?=some x) (hy:ys[k2]?=some y)
  (ac:∀ g,IsZip g z TI TO (rawInt s.heap.objs.size)->IsPair g TO x y->oP I g j r (k1+1)->oP J g l C (k2+1)->IsPair g s.heap.objs.size x y->g.objs.size=s.heap.objs.size+1 ->(∀ c o,c≠z->c≠TO->c≠j->c≠l->s.heap.get? c=some o->g.get? c=some o)->Q (some (.ref s.heap.objs.size)) { s with heap:=g }):wpAny (model ae w) A (pyNext (.ref z)) Q E s:=by
 have ty:s.TypeIs (.ref z) "zip" := ⟨_,hz,rfl⟩;unfold pyNext;refine aB (fJ (cM (name:=Str.ofString "__next__") ty fU (dL fU ty kB (Sr (p:=a) (q:=b) hz T λg1 Y f=>?_) (jR _))));have d:∀ c o,c≠z->s.heap.get? c=some o->g1.get? c=some o:=λc o n e=>f.extBut _ _ n e
 refine C3 (rH h1 λo e=>d _ o D.i1z e) (sT aa λo e=>d _ o D.l1z e) hx λg2 S h=>?_
 have i:∀ c o,c≠j->g1.get? c=some o->g2.get? c=some o:=λc o n e=>h.extBut _ _ n e
 refine⟨i _ _ D.TOi1 (d _ _ D.TOz U),λg3 W H=>?_⟩;have k:∀ c o,c≠TO->g2.get? c=some o->g3.get? c=some o:=λc o n e=>H.extBut _ _ n e
 refine C3 (rH h2 λo e=>k _ o D.TOi2.symm (i _ o D.i12.symm (d _ o D.i2z e))) (sT ab λo e=>k _ o D.l2TO (i _ o D.l2i1 (d _ o D.l2z e))) hy λF V K=>?_
 have t:∀ c o,c≠l->g3.get? c=some o->F.get? c=some o:=λc o n e=>K.extBut _ _ n e
 refine⟨t _ _ D.TOi2 W,λG X L=>?_⟩;have u:∀ c o,c≠TO->F.get? c=some o->G.get? c=some o:=λc o n e=>L.extBut _ _ n e
 have sz:G.objs.size=s.heap.objs.size:=by rw[L.1,K.1,H.1,h.1,f.1]
 refine⟨u _ _ D.TOz.symm (t _ _ D.i2z.symm (k _ _ D.TOz.symm (i _ _ D.i1z.symm Y))),λg M N O m=>?_⟩;rw[sz] at M N O |-;refine aI (ac g M (m _ _ D.TOz X) (rH S λo e=>m _ o D.i1z (u _ o D.TOi1.symm (t _ o D.i12 (k _ o D.TOi1.symm e)))) (rH V λo e=>m _ o D.i2z (u _ o D.TOi2.symm e)) N O λc o v B P R e=>?_);exact m c o v (u c o B (t c o R (k c o B (i c o P (d c o v e)))))
theorem X5 {b1 l:Bool}{z TI TO j I l1 l2:Ad}{k1 k2:Nat}{xs ys:Array Ac}{a b:Ac}{Q:Ab Ac->Ae->Prop}(calm:A.handled=none) (D:ZipApart z TI TO j I l1 l2) (hz:IsZip s.heap z TI TO .none) (aa:IsPair s.heap TI (.ref j) (.ref I)) (ab:IsPair s.heap TO a b)
  (h1:oP b1 s.heap j l1 k1) (h2:oP l s.heap I l2 k2) (C:oX b1 s.heap l1 xs) (ac:oX l s.heap l2 ys) (r:xs[k1]?=none\/ys[k2]?=none)
  (ae:∀ U,(∀ c o,c≠z->c≠TO->c≠j->c≠I->s.heap.get? c=some o->U.get? c=some o)->Q none { s with heap:=U }):wpAny (model J w) A (pyNext (.ref z)) Q E s:=by
 have ty:s.TypeIs (.ref z) "zip" := ⟨_,hz,rfl⟩;have f:∀ (g:Ag) (e:Ad),(∀ c o,c≠z->c≠TO->c≠j->c≠I->s.heap.get? c=some o->g.get? c=some o)->(∃ o,g.get? e=some o/\o.cls = .type "StopIteration")->IsZip g z TI TO .ellipsis ->
   Ix z TI TO (λe V=>wpAny (model J w) A (do if <- isInstance e (.type "StopIteration") then pure none else throw e) Q E V) (.ref e) { s with heap:=g }:=λg e k ⟨o,H,L⟩ O=>by
  refine⟨O,λU M=>?_⟩;have ne:e≠z:=λq=>by
   rw[q,O] at H;cases H;injection L with y;exact absurd y (by decide)
  exact aB (dU (T := "StopIteration") (b:=true) ⟨o,M.extBut _ _ ne H,L⟩ isSubtype_stop (aI (ae U λc o h v i B q=>M.extBut _ _ h (k c o h v i B q))))
 unfold pyNext;refine aB (fJ (cM (name:=Str.ofString "__next__") ty fU (dL fU ty kB (Sr (p:=a) (q:=b) hz aa λg1 N F=>?_) (jR _))));have d:∀ c o,c≠z->s.heap.get? c=some o->g1.get? c=some o:=λc o n e=>F.extBut _ _ n e
 rcases Option.eq_none_or_eq_some xs[k1]? with m | ⟨x,m⟩
 .exact Jm calm (rH h1 λo e=>d _ o D.i1z e) (sT C λo e=>d _ o D.l1z e) m λg2 e l W=>f g2 e (λc o h _ i _ q=>l c o i (d c o h q)) W (l _ _ D.i1z.symm N)
 .refine C3 (rH h1 λo e=>d _ o D.i1z e) (sT C λo e=>d _ o D.l1z e) m λg2 Y G=>?_
  have t:∀ c o,c≠j->g1.get? c=some o->g2.get? c=some o:=λc o n e=>G.extBut _ _ n e
  refine⟨t _ _ D.TOi1 (d _ _ D.TOz ab),λg3 Z S=>?_⟩;have u:∀ c o,c≠TO->g2.get? c=some o->g3.get? c=some o:=λc o n e=>S.extBut _ _ n e
  have P:ys[k2]?=none:=r.elim (λn=>by rw[n] at m;cases m) id;exact Jm calm (rH h2 λo e=>u _ o D.TOi2.symm (t _ o D.i12.symm (d _ o D.i2z e))) (sT ac λo e=>u _ o D.l2TO (t _ o D.l2i1 (d _ o D.l2z e))) P λR e K X=>f R e (λc o h v i B q=>K c o B (u c o v (t c o i (d c o h q)))) X (K _ _ D.i2z.symm (u _ _ D.TOz.symm (t _ _ D.i1z.symm N)))
end
section
theorem HR {I J:Bool}{z TI TO T j l r C:Ad}{U k2:Nat}{f:Bool}{oT:Obj}{xs ys:Array Ac}{x y:Ac}{Q:Ac->Ae->Prop}(D:ZipApart z TI TO j l r C)
  (hz:zU s.heap z TI TO T f) (hT:s.heap.get? T=some oT) (aa:IsPair s.heap TI (.ref j) (.ref l))
  (h1:oP I s.heap j r U) (h2:oP J s.heap l C k2) (ab:oX I s.heap r xs) (ac:oX J s.heap C ys) (hx:xs[U]?=some x) (hy:ys[k2]?=some y)
  (hQ:∀ g,zU g z TI TO T true->oP I g j r (U+1)->oP J g l C (k2+1)->IsPair g s.heap.objs.size x y->g.objs.size=s.heap.objs.size+1 ->(∀ c o,c≠z->c≠j->c≠l->s.heap.get? c=some o->g.get? c=some o)->Q (.ref s.heap.objs.size) { s with heap:=g }) :
  wpAny (model ae w) A (Builtin.«zip.__next__» ⟨[.ref z],[]⟩) (λfin s'=>∃ v,fin = .done (.ret v)/\Q v s') E s:=by
 refine Vh hz hT aa λd K m=>?_
 have up1:∀ c o,c≠z->s.heap.get? c=some o->d.get? c=some o:=λc o n e=>m.extBut _ _ n e
 have there:oP I d j r U/\oP J d l C k2/\oX I d r xs/\oX J d C ys:=⟨rH h1 λo e=>up1 _ o D.i1z e,rH h2 λo e=>up1 _ o D.i2z e,sT ab λo e=>up1 _ o D.l1z e,sT ac λo e=>up1 _ o D.l2z e⟩;refine C3 there.1 there.2.2.1 hx λk G q=>?_
 have a:∀ c o,c≠j->d.get? c=some o->k.get? c=some o:=λc o n e=>q.extBut _ _ n e
 refine C3 (rH there.2.1 λo e=>a _ o D.i12.symm e) (sT there.2.2.2 λo e=>a _ o D.l2i1 e) hy λh H t=>?_
 have b:∀ c o,c≠l->k.get? c=some o->h.get? c=some o:=λc o n e=>t.extBut _ _ n e
 have i:h.objs.size=s.heap.objs.size:=t.1.trans (q.1.trans m.1);have more:∀ {c:Ad} {o p:Obj},h.get? c=some o->(h.push p).get? c=some o:=λe=>aG _ e
 refine wpAny_newTuple ⟨_,rfl,?_⟩ (hsz:=(show 2<=sizeLine by decide));have last:=hQ (h.push (seqObj "tuple" #[x,y] 0)) (more (b _ _ D.i2z.symm (a _ _ D.i1z.symm K))) (rH G λo e=>more (b _ o D.i12 e)) (rH H λo e=>more e) (i▸bA _ rfl) ((dR ..).trans (by rw[i]))
  λc o u B F e=>more (b _ _ F (a _ _ B (up1 _ _ u e)))
 rw[<- i] at last;exact last
theorem QT {TI TO:Ad}(hh:A.handled=none) (D:ZipApart z TI TO j U l l2)
  (hz:zU s.heap z TI TO T f) (hT:s.heap.get? T=some oT) (C:IsPair s.heap TI (.ref j) (.ref U))
  (h1:oP p s.heap j l k1) (h2:oP b2 s.heap U l2 k2) (I:oX p s.heap l xs) (J:oX b2 s.heap l2 ys) (g:xs[k1]?=none\/ys[k2]?=none)
  (hE:∀ r e,(∀ c o,c≠z->c≠j->c≠U->s.heap.get? c=some o->r.get? c=some o)->(∃ o,r.get? e=some o/\o.cls = .type "StopIteration")->E (.ref e) { s with heap:=r }) :
  wpAny (model aa w) A (Builtin.«zip.__next__» ⟨[.ref z],[]⟩) Q E s:=by
 refine Vh hz hT C λi M F=>?_
 have up1:∀ c o,c≠z->s.heap.get? c=some o->i.get? c=some o:=λc o n e=>F.extBut _ _ n e
 have there:oP p i j l k1/\oX p i l xs:=⟨rH h1 λo e=>up1 _ o D.i1z e,sT I λo e=>up1 _ o D.l1z e⟩;rcases Option.eq_none_or_eq_some xs[k1]? with b | ⟨x,b⟩
 .exact Jm hh there.1 there.2 b λk e t H=>hE k e (λc o d h _ q=>t c o h (up1 c o d q)) H
 .refine C3 there.1 there.2 b λk L G=>?_
  have a:∀ c o,c≠z->c≠j->s.heap.get? c=some o->k.get? c=some o:=λc o n m e=>G.extBut _ _ m (up1 c o n e)
  have y:ys[k2]?=none:=g.elim (λn=>by rw[n] at b;cases b) id;exact Jm hh (rH h2 λo e=>a _ o D.i2z D.i12.symm e) (sT J λo e=>a _ o D.l2z D.l2i1 e) y λB e u K=>hE B e (λc o d h v q=>u c o v (a c o d h q)) K
theorem QO {TI TO:Ad}(D:ZipApart z TI TO r C U l2)
  (j:Eo s.heap z TI TO r C) (I:oP b1 s.heap r U k) (J:oP b2 s.heap C l2 k) (l:oX b1 s.heap U xs) (p:oX b2 s.heap l2 ys) (hx:xs[k]?=some x) (hy:ys[k]?=some y)
  (hQ:∀ g,Eo g z TI TO r C->oP b1 g r U (k+1)->oP b2 g C l2 (k+1)->IsPair g s.heap.objs.size x y->g.objs.size=s.heap.objs.size+1 ->(∀ c o,c≠z->c≠TO->c≠r->c≠C->s.heap.get? c=some o->g.get? c=some o)->Q (some (.ref s.heap.objs.size)) { s with heap:=g }) :
  wpAny (model aa w) A (pyNext (.ref z)) Q E s:=by
 obtain⟨d,⟨a,b,i⟩,j⟩:=j;obtain⟨V,P⟩:=Ce I;obtain⟨W,R⟩:=Ce J;have q:∀ {c o},s.heap.get? c=some o->s.heap.objs.size≠c:=λe=>(bO (aZ e)).symm
 rcases j with j | ⟨T,f,o,j,F,G,S,H,K⟩
 .refine Vr D j d i I J l p hx hy λg t L u v n B h=>?_
  exact hQ g ⟨h _ _ D.TIz D.TITO D.TIi1 D.TIi2 d,⟨_,_,L⟩,.inr ⟨_,false,_,t,n,q j,q i,q P,q R⟩⟩ u v n B h
 .have m:s.TypeIs (.ref z) "zip" := ⟨_,j,rfl⟩;unfold pyNext;refine aB (fJ (cM (name:=Str.ofString "__next__") m fU (dL fU m kB (HR D j F d I J l p hx hy λg t u v n B h=>aI ?_) (jR _))));exact hQ g ⟨h _ _ D.TIz D.TIi1 D.TIi2 d,⟨_,_,h _ _ D.TOz D.TOi1 D.TOi2 i⟩,.inr ⟨T,true,_,t,h _ _ G H K F,G,S,H,K⟩⟩ u v n B λc o M _ N O e=>h c o M N O e
theorem AT {TI TO:Ad}(hh:A.handled=none) (D:ZipApart z TI TO C I l1 l2)
  (j:Eo s.heap z TI TO C I) (J:oP b1 s.heap C l1 k) (U:oP b2 s.heap I l2 k) (l:oX b1 s.heap l1 xs) (p:oX b2 s.heap l2 ys) (g:xs[k]?=none\/ys[k]?=none)
  (hQ:∀ r,(∀ c o,c≠z->c≠TO->c≠C->c≠I->s.heap.get? c=some o->r.get? c=some o)->Q none { s with heap:=r }):wpAny (model aa w) A (pyNext (.ref z)) Q E s:=by
 obtain⟨d,⟨a,b,i⟩,j⟩:=j;rcases j with j | ⟨T,f,o,j,t,B,F,G,H⟩
 .exact X5 hh D j d i J U l p g hQ
 .have h:s.TypeIs (.ref z) "zip" := ⟨_,j,rfl⟩;unfold pyNext;refine aB (fJ (cM (name:=Str.ofString "__next__") h fU (dL fU h kB (QT hh D j t d J U l p g λr e x v=>?_) (jR _))));obtain⟨o,y,u⟩:=v;refine aB (dU (T := "StopIteration") (b:=true) ⟨o,y,u⟩ isSubtype_stop ?_);exact aI (hQ _ λc o m _ n q e=>x c o m n q e)
end
section
variable {K:Type} [DecidableEq K] {knd:KeyKind prog w K}{A:Around}{R:Result->Ae->Prop}
theorem LQ {TI TO:Ad}(hh:A.handled=none) (D:ZipApart z TI TO l p I J) (hd:d∉[z,TI,TO,l,p,I,J]) (more:Aa (K×Ac)) (hn:more.length=min U.size ys.size) (j:more.length<=sizeLine)
  (hT:∀ (i:Nat) x y,U[i]?=some x->ys[i]?=some y->∃ k,knd.is k x=true/\more[i]?=some (k,y)) (h0:Ag) :
  ∀ (m i:Nat) (s:Ae),more.length-i=m->i<=more.length->Eo s.heap z TI TO l p->oP r s.heap l I i->oP C s.heap p J i->oX r s.heap I U->oX C s.heap J ys->(∀ b o,b∉[z,TO,l,p,d]->h0.get? b=some o->s.heap.get? b=some o)->s.heap.DictOf knd d (merged [] (more.take i)) ->
   (∀ g tk,(∀ b o,b∉[z,TO,l,p,d]->h0.get? b=some o->g.get? b=some o)->g.DictOf knd d (merged [] more)->R (.ok (.ret .none)) { s with heap:=g,toks:=tk }) ->
   codeAny (model prog w) A (.builtin "dict.update.loop" ⟨[.ref d,.ref z,.int (i:Int) 0,.none],[]⟩) R s:=by
 simp only[aK,bD,eZ,mH] at hd;obtain⟨d1,d2,S,V,W,d6,d7⟩:=hd;have na:∀ {b:Ad},b∉[z,TO,l,p,d]->b≠z/\b≠TO/\b≠l/\b≠p/\b≠d:=λj=>by
  simpa only [aK,bD,eZ,mH] using j
 intro m;induction m with
 | zero =>
  intro i s hm hi hz Z h2 c h kp H hR;have ei:i=more.length:=by omega
  subst ei;rw[bL (aU _)] at H;refine gO Iw ?_;rw[fO zX _];show wpAny _ A.in1 (pyNext (.ref z) >>= _) _ _ s;refine aB (AT (by simpa using hh) D hz Z h2 c h ?_ λg B=>?_)
  .rcases Nat.le_total U.size ys.size with q | q
   .exact .inl (fX (by omega))
   .exact .inr (fX (by omega))
  .show wpAny _ A.in1 (Builtin.Dict.addKeywords d [] >>= _) _ _ _;refine aB (aI ?_);obtain⟨o,F,E,u,rest⟩:=H;exact aI (hR g _ (λb o j e=>let ⟨r,C,P,Q,b5⟩:=na j;B b o r C P Q (kp b o j e)) ⟨o,F,E,B d _ d1 S V W u,rest⟩)
 | succ m ih =>
  intro i s hm hi hz Z h2 c h kp H hR;have ab:i<more.length:=by omega
  obtain⟨x,hx⟩:∃ x,U[i]?=some x:=⟨_,cI (by omega)⟩;obtain⟨y,hy⟩:∃ y,ys[i]?=some y:=⟨_,cI (by omega)⟩;obtain⟨ky,N,t⟩:=hT i x y hx hy;refine gO Iw ?_;rw[fO zX _];show wpAny _ A.in1 (pyNext (.ref z) >>= _) _ _ s;refine aB (QO D hz Z h2 c h hx hy λg z' ac ae pr sz B=>?_);have aa:g.DictOf knd d (merged [] (more.take i)):=by
   obtain⟨o,F,E,u,rest⟩:=H;exact⟨o,F,E,B d _ d1 S V W u,rest⟩
  have af:oX r g I U:=sT c λo e=>B I o D.l1z D.l1TO D.l1i1 D.l1i2 e
  have ag:oX C g J ys:=sT h λo e=>B J o D.l2z D.l2TO D.l2i1 D.l2i2 e
  have pd:s.heap.objs.size≠d:=by
   obtain⟨o,F,E,u,rest⟩:=H;exact (bO (aZ u)).symm
  show wpAny _ A.in1 (holding [Value.ref s.heap.objs.size] _ >>= _) _ _ _;refine aB (cD ?_);refine aB (wpAny_tryCatch ?_);unfold Builtin.Dict.pairItems;refine aB (fH (T := "tuple") ⟨_,pr,rfl⟩ ?_);rw[aO (by decide)];refine aB (fP pr rfl ?_);refine aI ?_;show wpAny _ A.in1 (holding [x,y] (dictSet d x y)) _ _ _;refine cD ?_;have v:(merged [] (more.take i)).length<=sizeLine:=by
   have X:=merged_length_le ([]:Aa (K×Ac)) (more.take i);rw[fS,bU] at X;omega
  refine wpAny_dictSet_pairs (hsz:=v) N aa λG n sb=>?_
  rw[<- merged_take_succ [] more i (ky,y) t] at n;refine aI ⟨kC zX _,?_⟩;have X:(rawInt ((i:Int)+1))=Value.int ((i+1:Nat):Int) 0:=by rfl
  rw[X];have up:∀ b o,b≠d->g.get? b=some o->G.get? b=some o:=λb o j e=>by rw[sb.2 b j];exact e
  have zz:Eo G z TI TO l p:=by
   obtain⟨p1,⟨a,b,p2⟩,p3⟩:=z';refine⟨up _ _ (eJ d2) p1,⟨a,b,up _ _ (eJ S) p2⟩,?_⟩;rcases p3 with p3 | ⟨T,f,o,q1,q2,q3,q4,q5,q6⟩
   .exact .inl (up _ _ (eJ d1) p3)
   .by_cases M:T=d
    .subst M;obtain⟨o',F,E,u,rest⟩:=n;exact .inr ⟨T,f,_,up _ _ (eJ d1) q1,u,q3,q4,q5,q6⟩
    .exact .inr ⟨T,f,o,up _ _ (eJ d1) q1,up _ _ M q2,q3,q4,q5,q6⟩
  refine ih (i+1) _ (by omega) ab zz (rH ac λo e=>up _ o (eJ V) e) (rH ae λo e=>up _ o (eJ W) e) (sT af λo e=>up _ o (eJ d6) e) (sT ag λo e=>up _ o (eJ d7) e) (λb o j e=>?_) n λY tk O L=>hR Y tk O L
  obtain⟨r,C,P,Q,b5⟩:=na j;exact up b o b5 (B b o r C P Q (kp b o j e))
theorem QJ {TI TO:Ad}(hh:A.handled=none) (D:ZipApart z TI TO U i2 l1 l2)
  (T:IsZip s.heap z TI TO .none) (l:IsPair s.heap TI (.ref U) (.ref i2)) (C:IsPair s.heap TO .none .none) (h1:oP b1 s.heap U l1 0) (h2:oP b2 s.heap i2 l2 0) (I:oX b1 s.heap l1 xs) (J:oX b2 s.heap l2 ys)
  (hn:more.length=min xs.size ys.size) (g:more.length<=sizeLine) (hT:∀ (i:Nat) x y,xs[i]?=some x->ys[i]?=some y->∃ k,knd.is k x=true/\more[i]?=some (k,y))
  (h:∀ (j:Ag) (tk:Nat),j.DictOf knd s.heap.objs.size (merged [] more)->(∀ b o,b∉[z,TO,U,i2]->s.heap.get? b=some o->j.get? b=some o)->Q (.ref s.heap.objs.size) { s with heap:=j,toks:=tk }) :
  wpAny (model prog w) A (call (.type "dict") [.ref z]) Q E s:=by
 let d:=s.heap.objs.size;have made:(Bu s).heap.DictOf knd d []:=Heap.DictOf.new s.heap;have old:∀ b o,s.heap.get? b=some o->(Bu s).heap.get? b=some o:=λb o e=>aG _ e
 refine callType_codes F.kt_called_dict (F.kt_typeCall_dict_1 _) F.entry_dict_init (kt_code_dict_new _ (Q₁:=λv n=>v = .ref d/\n=Bu s) ⟨rfl,rfl⟩) λv n q=>?_
 obtain⟨rfl,rfl⟩:=q;refine⟨made.typeIs,F.args_dict_init_2 _ _,IW made.typeIs (old _ _ T) (by simp[hh]) λc tk e x=>⟨kC zX _,?_⟩⟩;have keeps:∀ b o,s.heap.get? b=some o->c.get? b=some o:=λb o e=>x.keeps _ _ (old b o e)
 obtain⟨N,G⟩:=Ce h1;obtain⟨O,H⟩:=Ce h2;obtain⟨P,L⟩:=Cn I;obtain⟨S,M⟩:=Cn J;have a:∀ {b o},s.heap.get? b=some o->d≠b:=λe=>(bO (aZ e)).symm
 have f:c.DictOf knd d []:=by
  obtain⟨o,u,t,p,r⟩:=made;exact⟨o,u,t,x.keeps _ _ p,r⟩
 refine LQ (knd:=knd) (by simp[hh]) D ?_ more hn g hT s.heap more.length 0 _ rfl (cR _) ⟨keeps _ _ l,⟨_,_,keeps _ _ C⟩,.inl (keeps _ _ T)⟩ (rH h1 λo e=>keeps _ o e) (rH h2 λo e=>keeps _ o e) (sT I λo e=>keeps _ o e) (sT J λo e=>keeps _ o e) (λb o _ e=>keeps b o e) (by simpa [merged] using f) λj m B fin=>?_
 .simp only[aK,bD,eZ,mH];exact⟨a T,a l,a C,a G,a H,a L,a M⟩
 .refine⟨rfl,h j m fin λb o g e=>B b o (λq=>?_) e⟩;simp only[aK,bD,eZ,mH] at g q;rcases q with q | q | q | q | q
  .exact g.1 q
  .exact g.2.1 q
  .exact g.2.2.1 q
  .exact g.2.2.2 q
  .exact a e q.symm
end
noncomputable def sB (b:Bool) (t:Ad):Obj:={ cls:=.type (match b with | true => "tuple_iterator" | false => "list_iterator"),data:=.fields #[.ref t,.int 0 0] }
theorem Pp (b:Bool) (e:h.get? g=some (sB b t)):oP b h g t 0:=by
 cases b
 .exact⟨_,e,rfl,rfl⟩
 .exact⟨_,e,rfl,rfl⟩
theorem Qi (T:oX b s.heap l j) (q:Q (.ref s.heap.objs.size) { s with heap:=s.heap.push (sB b l) }):wpAny (model g w) A (pyIter (.ref l)) Q E s:=by
 cases b
 .exact fQ T q
 .exact wpAny_pyIter_tuple T q
def Tf (g j:Bool) (h:Ag) (s t:Ad):Ag:=((((h.push (sB g s)).push (sB j t)).push (Et (.ref h.objs.size) (.ref (h.push (sB g s)).objs.size))).push (Et .none .none)).push (U8 ((h.push (sB g s)).push (sB j t)).objs.size (((h.push (sB g s)).push (sB j t)).push (Et (.ref h.objs.size) (.ref (h.push (sB g s)).objs.size))).objs.size)
theorem AC (j p:Bool) (l m:Ad) (C I:Array Ac):Meets (Builtin.«zip.__new__» ⟨[.type "zip",.ref l,.ref m],[]⟩) (λ_ R s=>oX j s.heap l C/\oX p s.heap m I /\ ∀ r,r=Tf j p s.heap l m->∀ n,n=s.heap.objs.size+4->R (.ok (.ret (.ref n))) { s with heap:=r }) :=
 .of_wp λf w A R s h=>by
  obtain⟨c,g,d,i,os⟩:=s;obtain⟨k,q,h⟩:=h;have under:=sub_zip;have a:oX j (Shared.heap ⟨c,g,d,i,os⟩) l C:=k;have b:oX p (Shared.heap ⟨c.push (sB j l),g,d,i,os⟩) m I:=sT q λo e=>aG _ e
  wp_walk using Qi a,Qi b
  refine⟨_,rfl,h _ rfl _ ?_⟩;rw[dR,dR,dR,dR]
section
theorem Xj (J:oX r s.heap l U) (T:oX C s.heap m ys)
  (q:∀ j,IsZip j (s.heap.objs.size+4) (s.heap.objs.size+2) (s.heap.objs.size+3) .none->IsPair j (s.heap.objs.size+2) (.ref s.heap.objs.size) (.ref (s.heap.objs.size+1))->IsPair j (s.heap.objs.size+3) .none .none ->oP r j s.heap.objs.size l 0->oP C j (s.heap.objs.size+1) m 0->j.objs.size=s.heap.objs.size+5->(∀ c o,s.heap.get? c=some o->j.get? c=some o)->Q (.ref (s.heap.objs.size+4)) { s with heap:=j }) :
  wpAny (model I w) A (call (.type "zip") [.ref l,.ref m]) Q E s:=by
 refine callType_new F.called_zip (by decide) (F.typeCall_zip_2 _ _) (F.newCall_zip_2 _ _) (λobj=>F.args_object_init_3 obj _ _) F.entry_zip_new (AC r C l m U ys) ⟨J,T,λj e n t=>?_⟩;subst e t;have d:(s.heap.push (sB r l)).objs.size=s.heap.objs.size+1:=dR ..;have h:((s.heap.push (sB r l)).push (sB C m)).objs.size=s.heap.objs.size+2:=by rw[dR,d]
 have i:∀ p,(((s.heap.push (sB r l)).push (sB C m)).push p).objs.size=s.heap.objs.size+3:=λp=>by rw[dR,h]
 have k:∀ p q,((((s.heap.push (sB r l)).push (sB C m)).push p).push q).objs.size=s.heap.objs.size+4:=λp q=>by rw[dR,i]
 have b:∀ (g:Ag) (o:Obj) (n:Nat),o.isFreed=false->g.objs.size=n->(g.push o).get? n=some o:=λg o n f e=>by rw[<- e];exact bA _ f
 have a:∀ {g:Ag} {o p:Obj} {c:Ad},g.get? c=some o->(g.push p).get? c=some o:=λe=>aG _ e
 unfold Tf;rw[d,h,i];have z:=b ((((s.heap.push (sB r l)).push (sB C m)).push (Et (.ref s.heap.objs.size) (.ref (s.heap.objs.size+1)))).push (Et .none .none)) (U8 (s.heap.objs.size+2) (s.heap.objs.size+3)) _ rfl (k _ _);exact⟨⟨_,z,rfl⟩,q _ z (a (a (b _ _ _ rfl h))) (a (b _ _ _ rfl (i _))) (Pp r (a (a (a (a (bA _ rfl)))))) (Pp C (a (a (a (b _ _ _ rfl d))))) (by rw[dR,k]) λc o e=>a (a (a (a (a e))))⟩
end
end PySem
namespace L2
open PySem PySem.Spec PyProof.Rows
def sJ (b:Bool) (K:mI) (H:Hp) (a:Ad) (g:Aa V):Prop:=match b with
 | true=>nP K H a g
 | false=>mL K H a g
section
variable {X:Cx}
theorem Inv.seqB (I:Inv X j o H s) (h:sJ b X.K H a l):∃ g:Aa Ac,mY l g/\oX b s.heap a g.toArray:=by
 cases b
 .obtain⟨g,r,p,_⟩:=I.list h;exact⟨g,r,p.isList⟩
 .obtain⟨g,r,p,_⟩:=I.tuple h;exact⟨g,r,p⟩
theorem Inv.seqB_inj (I:Inv X j p H s) (h:sJ b X.K H a l) (g:sJ b X.K H a o):l=o:=by
 cases b
 .exact I.list_inj h g
 .exact I.tuple_inj h g
theorem Qz (x:oP b h g t i):∃ o,h.get? g=some o/\∀ v,o.data ≠ .cell v:=by
 cases b
 .obtain⟨o,e,_,d⟩:=(show h.IsListIter g t i from x);exact⟨o,e,λv z=>by rw[d] at z;cases z⟩
 .obtain⟨o,e,_,d⟩:=(show h.IsTupleIter g t i from x);exact⟨o,e,λv z=>by rw[d] at z;cases z⟩
end
def Ow (g j:Bool) (K:mI) (a b:Ad):It :=
 ⟨λi H=>∃ c d x y,sJ g K H a c/\sJ j K H b d/\c[i]?=some x/\d[i]?=some y,λi H v e=>∃ p x y,H p=none/\v = .ref p/\e=upd H p (.t [x,y])/\(∀ c,sJ g K H a c->c[i]?=some x)/\(∀ d,sJ j K H b d->d[i]?=some y),λi H=>∃ c d,sJ g K H a c/\sJ j K H b d/\(c.length<=i\/d.length<=i)⟩
def OL (l o:Bool) (a b z TI TO g j:Ad) (i:Nat) (h:Ag):Prop:=IsZip h z TI TO .none/\IsPair h TI (.ref g) (.ref j)/\(∃ u v,IsPair h TO u v)/\oP l h g a i/\oP o h j b i
theorem JN {P:Ah}{K:mI}{TI TO:Ad}(D:ZipApart z TI TO i1 i2 a b) :
  Turn P w K (.Tuple ac x1 pos) (Ow b1 b2 K a b) [z,TI,TO,i1,i2] z (OL b1 b2 a b z TI TO i1 i2) where
 mem:=by simp
 obj:=λi h st c F=>by
  obtain⟨n,t,⟨u,v,A⟩,f,m⟩:=st;obtain⟨o4,f,d4⟩:=Qz f;obtain⟨o5,m,d5⟩:=Qz m;simp only[aK,bD,eZ] at F;rcases F with e | e | e | e | e<;>subst e
  .exact⟨_,n,λv z=>nomatch z⟩
  .exact⟨_,t,λv z=>nomatch z⟩
  .exact⟨_,A,λv z=>nomatch z⟩
  .exact⟨_,f,d4⟩
  .exact⟨_,m,d5⟩
 keep:=λi h h' st k=>by
  obtain⟨n,t,⟨u,v,A⟩,f,m⟩:=st;exact⟨k z (by simp) _ n,k TI (by simp) _ t,⟨u,v,k TO (by simp) _ A⟩,rH f λo e=>k i1 (by simp) o e,rH m λo e=>k i2 (by simp) o e⟩
 item:=by
  intro X Y hw W F i L s σ H E I N st Z;subst Y hw W;obtain⟨n,t,⟨u,v,A⟩,f,m⟩:=st;obtain⟨xs,ys,x,y,O,Q,hx,hy⟩:=Z;obtain⟨l,U,r⟩:=I.seqB O;obtain⟨p,ry,py⟩:=I.seqB Q;obtain⟨ux,g,J⟩:=U.get hx;obtain⟨uy,j,T⟩:=ry.get hy;refine Vr D n t A f m r py (x:=ux) (y:=uy) (by simpa using g) (by simpa using j) λh' n1 n2 n3 n4 n5 n6 n7=>?_
  refine⟨_,rfl,wpAny_letOwnedTupleGo_zip n1 λh2 m1 B=>?_⟩;have kp:∀ c o,c∉[z,TI,TO,i1,i2]->s.heap.get? c=some o->h2.get? c=some o:=λc o d e=>by
   simp only[aK,bD,eZ,mH] at d;obtain⟨M,e2,R,S,V⟩:=d;exact B.extBut c o M (n7 c o M R S V e)
  have zs:s.heap.objs.size≠z:=λe=>eT _ (by have:=aZ n;rw[<- e] at this;exact this)
  have nt:yI h2 s.heap.objs.size [ux,uy].toArray:=⟨⟨_,B.extBut _ _ zs n5,rfl,_,rfl⟩,_,B.extBut _ _ zs n5,rfl⟩;have I2:=I.movedT (t':=s.toks) (ys:=[x,y]) N kp nt (.cons J (.cons T .nil)) (by show 2<=sizeLine;decide);refine⟨.ref s.heap.objs.size,_,I2,rfl,⟨_,x,y,I.fresh,rfl,rfl,λae C=>by rw[I.seqB_inj C O];exact hx,λaf C=>by rw[I.seqB_inj C Q];exact hy⟩,⟨m1,?_,⟨ux,uy,?_⟩,?_,?_⟩,λc d=>?_⟩
  .exact B.extBut _ _ D.TIz (n7 TI _ D.TIz D.TITO D.TIi1 D.TIi2 t)
  .exact B.extBut _ _ D.TOz n2
  .exact rH n3 λo e=>B.extBut _ o D.i1z e
  .exact rH n4 λo e=>B.extBut _ o D.i2z e
  .rw[mT]
   .exact (N c d).1
   .intro e;obtain⟨o,ho⟩:∃ o,s.heap.get? c=some o:=by
     obtain⟨o4,aa⟩:=Ce f;obtain⟨o5,ab⟩:=Ce m;simp only[aK,bD,eZ] at d;rcases d with q | q | q | q | q<;>rw[q]
     .exact⟨_,n⟩
     .exact⟨_,t⟩
     .exact⟨_,A⟩
     .exact⟨_,aa⟩
     .exact⟨_,ab⟩
    have:=aZ ho;rw[e] at this;exact eT _ this
 done:=by
  intro X Y hw W F i L s σ H E I N st Z;subst Y hw W;obtain⟨n,t,⟨u,v,A⟩,f,m⟩:=st;obtain⟨xs,ys,O,Q,G⟩:=Z;obtain⟨l,U,r⟩:=I.seqB O;obtain⟨p,ry,py⟩:=I.seqB Q;have lx:=U.length;have ly:=ry.length;refine X5 (I.ok.hd F) D n t A f m r py ?_ λh' k=>⟨rfl,I.moved (t':=s.toks) N λc o d e=>?_⟩
  .rcases G with q | q
   .exact .inl (by simp;omega)
   .exact .inr (by simp;omega)
  .simp only[aK,bD,eZ,mH] at d;obtain⟨M,e2,R,S,V⟩:=d;exact k c o M R S V e
 self:=λ_ _ _ _ _ st h=>wpAny_pyIter_zip st.1 h
section
variable {X:Cx}
def CU (K:mI) (g:TA):TI:=λk H R=>g k H λf c=>∃ a b d e,f=[.ref a,.ref b]/\(∃ h,sJ d K c a h)/\(∃ i,sJ e K c b i)/\R (Ow d e K a b) c
theorem QX (C:Gl X "zip") (J:X.mg "zip" = none) (r:PA X [j,g] U) (T:starEach [j,g] X.env=(false,eval j X.env)::starEach [g] X.env:=by rfl)
  (l:(backTo pos (starEach [g] X.env)).any (·.1)=false:=by rfl):PI X (.Tuple o x1 ps) (.Call (.Name "zip" p) [j,g] [] pos) (CU X.K U):=by
 intro f s A H R I h;refine Call_ (yJ I C J boot_zip (cY (mV (r pos f s A H _ I h) λus d n=>?_) T l));obtain⟨vs,t,i,V,P⟩:=n;obtain⟨a,b,Z,b2,rfl,⟨xs,Q⟩,⟨ys,S⟩,q⟩:=P;obtain⟨u,v,rfl,W,Y⟩:=Ba V;cases W;cases Y;obtain⟨E,rx,y⟩:=i.seqB Q;obtain⟨F,ry,py⟩:=i.seqB S;have k:a<d.heap.objs.size:=by obtain⟨_,e⟩:=Cn y;exact aZ e
 have m:b<d.heap.objs.size:=by obtain⟨_,e⟩:=Cn py;exact aZ e
 refine Xj y py λD x G L M N n6 O=>?_
 have B:Inv X f A t { d with heap:=D }:=i.kept (t':=d.toks) O;refine wpAny_pyIter_zip x ⟨_,[_,_,_,_,_],_,_,t,rfl,B,JN (a:=a) (b:=b) (i1:=d.heap.objs.size) (i2:=d.heap.objs.size+1) (z:=d.heap.objs.size+4) (TI:=d.heap.objs.size+2) (TO:=d.heap.objs.size+3) ?_,⟨x,G,⟨_,_,L⟩,M,N⟩,λc w=>?_,q⟩
 .constructor<;>first | exact bO k | exact bO m | exact bO (bI k (fZ _ _)) | exact bO (bI m (fZ _ _)) | exact hZ k | exact hZ m | exact hZ (bI k (fZ _ _)) | exact hZ (bI m (fZ _ _)) | exact (by show (_:Nat)≠_;omega)
 .simp only[aK,bD,eZ] at w;rcases w with e | e | e | e | e<;>(subst e;exact i.fpOk (by omega) (i.hok.fresh (by omega)))
variable {K:mI}
def Aw:D->Ab (Bool×Aa D)
 | .l a=>some (false,a)
 | .t a=>some (true,a)
 | _=>none
theorem Jc (e:Aw d=some (b,j)) (r:Rep K A H d v):∃ a g,v = .ref a/\sJ b K H a g/\Reps K A H j g:=by
 cases d<;>first | cases e | skip
 .obtain⟨a,g,rfl,h,r⟩:=r.tup_inv;exact⟨a,g,rfl,nP.of h,r⟩
 .obtain⟨a,g,rfl,_,h,r⟩:=r.lst_inv;exact⟨a,g,rfl,mL.of h,r⟩
def Bm (g j:Aa D):Aa D:=g.zipWith (λx y=>D.t [x,y]) j
theorem Wo (g j:Aa D):(Bm g j).length=min g.length j.length:=List.length_zipWith
theorem QC {g j:Aa D}{i:Nat}{x y:D}(l:g[i]?=some x) (o:j[i]?=some y):(Bm g j)[i]?=some (.t [x,y]):=by
 unfold Bm;rw[List.getElem?_zipWith,l,o]
theorem KS {d1 d2:D}(r:Aw d1=some (g,l)) (C:Aw d2=some (j,o)):YD K (Ow g j K a b) (Bm l o) [(.v d1,some (.ref a)),(.v d2,some (.ref b))]:=by
 have key:∀ A H,xW K A H [(.v d1,some (.ref a)),(.v d2,some (.ref b))]->(∃ d,sJ g K H a d/\Reps K A H l d)/\∃ c,sJ j K H b c/\Reps K A H o c:=λA H ok=>by
  obtain⟨v,E,h⟩:=ok (.v d1,some (.ref a)) aH;obtain⟨u,F,k⟩:=ok (.v d2,some (.ref b)) (aQ _ aH);cases E;cases F;obtain⟨N,d,G,e,s⟩:=Jc r h;obtain⟨O,c,L,f,t⟩:=Jc C k;cases G;cases L;exact⟨⟨d,e,s⟩,c,f,t⟩
 refine⟨rfl,λi H A m ok=>?_,λi H A x M m ok y=>?_,λi H A m ok=>?_⟩
 .obtain⟨⟨d,e,h⟩,c,f,k⟩:=key A H ok;rw[Wo,h.length,k.length] at m;exact⟨d,c,d[i]'(by omega),c[i]'(by omega),e,f,aE _,aE _⟩
 .obtain⟨⟨d,e,h⟩,c,f,k⟩:=key A H ok;obtain⟨p,R,S,w,rfl,rfl,z,B⟩:=y;obtain⟨P,n,s⟩:=h.getV (z d e);obtain⟨Q,q,t⟩:=k.getV (B c f);exact⟨_,QC n q,.inr ⟨p,_,_,w,rfl,rfl,rfl,.cons s (.cons t .nil)⟩⟩
 .obtain⟨⟨d,e,h⟩,c,f,k⟩:=key A H ok;rw[Wo,h.length,k.length] at m;exact⟨d,c,e,f,by omega⟩
def OF (g:uK):wG:=λf i h=>g f i λas a=>match as with
 | [.t d1,.t d2]=>∃ d e b c,Aw d1=some (d,b)/\Aw d2=some (e,c)/\h (Bm b c) a
 | _=>False
theorem Jn (I:Gl X "zip") (J:X.mg "zip" = none) (C:tP X [j,g] ta) (U:starEach [j,g] X.env=(false,eval j X.env)::starEach [g] X.env:=by rfl)
  (l:(backTo pos (starEach [g] X.env)).any (·.1)=false:=by rfl):xF X (.Tuple o x1 ps) (.Call (.Name "zip" p) [j,g] [] pos) (OF ta) :=
 (QX I J C U l).mono λA H R d=>d.elim λB z T G q hd s k=>⟨B,z,T,_,q,hd,s,λas e D i u ok d1 c=>by
  cases ok with
  | nil=>exact False.elim c
  | al _ ok=>exact False.elim c
  | t ok =>
   cases ok with
   | nil=>exact False.elim c
   | al _ ok=>cases ok<;>exact False.elim c
   | t ok =>
    cases ok with
    | al _ ok=>exact False.elim c
    | t ok=>exact False.elim c
    | nil =>
     obtain⟨m,n,E,F,f,h,c⟩:=c;have r:=d1.temps (σ:=A) (.t (.t .nil)) _ rfl;cases r with
     | cons v r =>
      cases r with
      | cons w r =>
       obtain⟨a,x,rfl,g1,_⟩:=Jc f v;obtain⟨b,y,rfl,g2,_⟩:=Jc h w;exact⟨a,b,m,n,rfl,⟨x,g1⟩,⟨y,g2⟩,k _ _ e [_,_] i u d1 (KS f h) c⟩⟩
end
end L2
namespace L2
open PySem PySem.Spec PyProof.Rows Lw
section
variable {X:Cx}
def SQ (K:mI) (g:TA):TE:=λi H Q=>g i H λh a=>∃ (e f:Bool) (l m:Ad) (b:Aa gD) (c:Aa V),h=[.ref l,.ref m]/\sJ e K a l (b.map kV)/\sJ f K a m c/\b.length<=1000/\∀ d,a d=none->Q (.ref d) (upd a d (.k (sZ [] (b.zip c))))
theorem Z6 (j:X.calm=true) (hg:Gl X "dict") (hm:X.mg "dict" = none) (r:Gl X "zip") (C:X.mg "zip" = none) (ha:PA X [a,b] ta)
  (hs:starEach [a,b] X.env=(false,eval a X.env)::starEach [b] X.env:=by rfl) (J:(backTo g (starEach [b] X.env)).any (·.1)=false:=by rfl) :
  PE X (.Call (.Name "dict" p) [.Call (.Name "zip" p') [a,b] [] g] [] pos) (SQ X.K ta):=by
 intro z s σ H Q I h;refine gB (yJ I hg hm boot_dict ?_ (by decide) (by decide));refine cY ?_ rfl rfl;show wpAny _ _ (spliced ((false,eval (.Call (.Name "zip" p') [a,b] [] g) X.env)::backTo pos (starEach [] X.env))) _ _ s;refine jD ?_;refine gB (yJ I r C boot_zip ?_ (by decide) (by decide));refine cY (mV (ha g z s σ H _ I h) λus B M=>?_) hs J;obtain⟨xs,H1,t,S,q1⟩:=M;obtain⟨b1,b2,l,m,c,E,rfl,hl,hv,hn,q⟩:=q1;obtain⟨Z,T,rfl,W,Y⟩:∃ Z T,us=[Z,T]/\nC (.ref l) Z/\nC (.ref m) T:=by
  cases S with | cons S V=>cases V with | cons V r3=>cases r3;exact⟨_,_,rfl,S,V⟩
 cases W;cases Y;obtain⟨N,r',R⟩:=t.seqB hl;obtain⟨f,A,n⟩:=t.seqB hv;refine Xj R n λD z1 z2 z3 z4 z5 z6 U=>?_
 refine Calls.spliced_nil ?_;have L1:=r'.length;have L2:=A.length;rw[aA] at L1;have F:=R4 c A;have O:l<B.heap.objs.size:=by obtain⟨_,e⟩:=Cn R;exact aZ e
 have P:m<B.heap.objs.size:=by obtain⟨_,e⟩:=Cn n;exact aZ e
 refine QJ (knd:=pZ X.prog X.w) (more:=c.zip f) (s:={ B with heap:=D }) (t.ok.hd j) (zipApart_new O P) z1 z2 z3 z4 z5 (sT R λo e=>U _ o e) (sT n λo e=>U _ o e) ?_ ?_ ?_ λh2 tk hD hk=>?_
 .rw[eX,aY,aY];omega
 .rw[eX];exact eI (cK (show min c.length f.length<=1000 by omega) (by decide))
 .intro i x y v G;have v:N[i]?=some x:=by simpa using v
  have G:f[i]?=some y:=by simpa using G
  obtain⟨hi,_⟩:=aL.mp v;obtain⟨u,hu,ru⟩:=r'.get (i:=i) (x:=kV (c[i]'(by omega))) (by simp[show i<c.length by omega]);rw[hu] at v;cases v;refine⟨c[i]'(by omega),yY ru,?_⟩;rw[List.getElem?_zip_eq_some];exact⟨aE _,G⟩
 .have L:(sZ [] (c.zip E)).length<=sizeLine:=by
   have h1:=Jj (c.zip E) [];rw[fS,eX] at h1;exact eI (cK (show (sZ [] (c.zip E)).length<=1000 by omega) (by decide))
  have d:B.heap.objs.size<=D.objs.size:=by omega
  have kp:∀ b o,B.heap.get? b=some o->h2.get? b=some o:=λb o e=>hk b o (λq=>by
   have:=aZ e;simp only[aK,bD,eZ] at q;rcases q with q | q | q | q<;>rw[q] at this<;>first | exact absurd this (eT _) | exact absurd this (Nat.not_lt.mpr (fZ _ _))) (U b o e)
  refine⟨.ref D.objs.size,_,t.laid (a:=D.objs.size) (o:=.k (sZ [] (c.zip E))) (t':=tk) kp d ?_,rfl,q _ (t.hok.fresh d)⟩;exact E7 L (cQ.mpr (eJ (bO (bI t.big d)))) (F.merge .nil) hD
end
section
variable {X:Cx}{K:mI}
def Wi:OC:=λf h=>match f with
 | [d1,d2]=>∃ d e b c a,Aw d1=some (d,b)/\Aw d2=some (e,c)/\yN b=some a/\a.length<=1000/\h (.o (.k (qF [] (a.zip c))))
 | _=>False
theorem Wm (e:Aw d=some (b,j)) (r:nR K A H d v):∃ a g,v = .ref a/\sJ b K H a g/\Reps K A H j g:=by
 cases d<;>first | cases e | skip
 .obtain⟨a,g,rfl,h,r⟩:=Rep.tup_inv r;exact⟨a,g,rfl,nP.of h,r⟩
 .obtain⟨a,g,rfl,h,r⟩:=r.lst_inv;exact⟨a,g,rfl,mL.of h,r⟩
theorem IL:rZ K (λC H Q=>∃ (o r:Bool) (l m:Ad) (g:Aa gD) (j:Aa V),C=[.ref l,.ref m]/\sJ o K H l (g.map kV)/\sJ r K H m j/\g.length<=1000/\∀ d,H d=none->Q (.ref d) (upd H d (.k (sZ [] (g.zip j))))) Wi:=by
 intro B L H h C N Q hd f c k
 match h,c with
 | [d1,d2],c =>
  obtain⟨x,y,rfl,v,py⟩:=Fe f;obtain⟨o,r,C,M,g,i,n,t,u,c⟩:=c;obtain⟨a,G,rfl,q,A⟩:=Wm i v;obtain⟨b,j,rfl,s,D⟩:=Wm n py;have e:=FX t A;subst e;obtain⟨E,F⟩:=Qf g D;obtain⟨w,z⟩:=J7 (kvs:=[]) (vs:=[]) E F rfl .nil;exact⟨o,r,a,b,g,j,rfl,q,s,u,λp f=>k _ _ _ c (hd.dKF f w z)⟩
theorem Ck (g:X.calm=true) (I:Gl X "dict") (J:X.mg "dict" = none) (l:Gl X "zip") (o:X.mg "zip" = none) (C:tP X [a,b] U)
  (T:starEach [a,b] X.env=(false,eval a X.env)::starEach [b] X.env:=by rfl) (r:(backTo j (starEach [b] X.env)).any (·.1)=false:=by rfl) :
  PD X (.Call (.Name "dict" p) [.Call (.Name "zip" p') [a,b] [] j] [] pos) (dC Wi U):=(Z6 g I J l o C T r).mono λ_ _ _ h=>O0 IL h
end
end L2
namespace Lw
open PySem L2
structure WtOk (b:Int) (t:nB):Prop where
 nd:(t.map (·.1)).Nodup
 l:t.length<=60
 bd:∀ p∈t,-b<=p.2/\p.2<=b
theorem Pw (t:nB) (x:Af) (i:Int):(vJ t x i).map (·.1)=if x∈t.map (·.1) then t.map (·.1) else t.map (·.1)++[x]:=by
 unfold vJ;by_cases h:x∈t.map (·.1)
 .rw[aO h,aO h,aR];refine cX λp _=>?_
  show (if p.1=x then (p.1,i) else p).1=p.1;by_cases q:p.1=x
  .rw[aO q]
  .rw[aJ q]
 .rw[aJ h,aJ h,aM];rfl
theorem LD (h:p∈vJ t x i):p∈t\/p=(x,i):=by
 unfold vJ at h;by_cases a:x∈t.map (·.1)
 .rw[aO a] at h;obtain⟨q,b,e⟩:=aN.mp h;by_cases z:q.1=x
  .rw[aO z] at e;exact .inr (by rw[<- e,z])
  .rw[aJ z] at e;exact .inl (e▸b)
 .rw[aJ a] at h;rcases aV.mp h with h | h
  .exact .inl h
  .exact .inr (aX.mp h)
theorem K2 (h:(t.map (·.1)).Nodup):((vJ t x i).map (·.1)).Nodup:=by
 rw[Pw];by_cases c:x∈t.map (·.1)
 .rw[aO c];exact h
 .rw[aJ c];exact bE.mpr ⟨h,by simp,λa d b f e=>by rw[aX.mp f] at e;exact c (e▸d)⟩
theorem N8 (t:nB) (x:Af) (i:Int):(vJ t x i).length<=t.length+1:=by
 have:=cG List.length (Pw t x i);rw[aA] at this;by_cases a:x∈t.map (·.1)
 .rw[aO a,aA] at this;omega
 .rw[aJ a,bH,aA] at this;simp at this;omega
theorem MS:(sP.all λk=>(pF (kN k)).all λp=>match intText? p.2 with | some v=>decide (-9<=v)&&decide (v<=9) | none=>true)=true:=by decide +kernel
theorem NQ (g:k∈sP) (j:p∈pF (kN k)) (l:intText? p.2=some v):-9<=v/\v<=9:=by
 have:=cH.mp (cH.mp MS k g) p j;rw[l] at this
 simpa using this
def Sb:RD:=λb e f=>∃ (d c:Ad) (k:Kit),b=[d,c]/\e=[.r (.ref d),tS k]/\k∈sP/\∀ C al a,GoodRow C al->WtOk 9 a->f (.o (.l [rV C al,.k (gV a)]))
abbrev wH (d:Ad) (k:Kit) (C I J T U s7 s8 s9 g j l o p:Sl):Aa Sl:=[.v (.r (.ref d)),.v (tS k),C,I,J,T,U,s7,s8,s9,g,j,l,o,p]
theorem SH (h:x∉t.map (·.1)) (g:t.length<100000):sC (.k (oE t)) (.str x) (.str n)=some (.k (oE (t++[(x,n)]))):=by
 simp only[sC,aO (show (oE t).length<100000 by simpa [oE] using g)];show some (D.k (nM (oE t) (Sum.inr x) (.str n)))=_;rw[W8 h]
abbrev sl (g:Aa Af):D:=.l (g.map D.str)
def sH (n:Nat):Aa D:=(List.range n).map λi=>D.str (pC i)
abbrev xB (d:Ad) (k:Kit) (a g j l:Sl):Aa Sl:=wH d k (.o (sl (kI k))) a (.o (sl (kP k))) (.o (sl (kN k))) g j l .n .n .n .n .n .n
abbrev Bx (d:Ad) (k:Kit) (n:Nat) (G:Aa (Aa Af)) (j:Sl) (g:Aa Af) (a b c e:Sl):Aa Sl:=wH d k a b (.o (sl (kP k))) (.o (sl (kN k))) (.v (.l (sH n))) (.v (.l (G.map rG))) j (.v (sl (kI k++g))) c e .n .n .n
abbrev Bo (d:Ad) (k:Kit) (n:Nat) (G:Aa (Aa Af)) (r:Sl) (g:Aa Af) (t:Aa (Af×Af)) (j p:Aa Af) (a b c e f:Sl):Aa Sl:=wH d k (.o (sl (j.map (nD t)))) (.o (sl (p.map (nD t)))) (.v (sl (kP k))) a (.v (.l (sH n))) (.v (.l (G.map rG))) r (.v (sl (kI k++g))) b (.o (.l (G.map λl=>oA (ren (nD t) (oU l))))) c e f
theorem RS:(["k"]:Aa Af).Nodup:=by decide +kernel
theorem GD:(["text"]:Aa Af).Nodup:=by decide +kernel
theorem MY:(["gate"]:Aa Af).Nodup:=by decide +kernel
theorem BK:(["gate","names"]:Aa Af).Nodup:=by decide +kernel
theorem L3:(["one","names"]:Aa Af).Nodup:=by decide +kernel
theorem CB:(["k","names","pairs"]:Aa Af).Nodup:=by decide +kernel
section
variable {P:Ah}{K:mI}
theorem sX:FnScope ["deck","kit","ins","outs","pairs","numbers","idle","gates","name","own","names","rows","along","weights","k"] ["deck","kit"] (nF Hq):=oM
theorem Yh (T:Txt mg) (J:Kn P w K mg base 1 "_law_take" xM ["deck","many"] xR) (U:Kn P w K mg base 3 "_law_names" Fl ["deck","many"] Km)
  (I:Kn P w K mg base 2 "_law_shuffled" Ed ["deck","some"] N9) (C:Kn P w K mg base 1 "_law_words" Kb ["text"] Vy) :
  oK P w K mg base 4 "_law_made" Hq ["deck","kit"] Sb:=by
 refine oS sX λf bj A bc s H E dk ds Φ hr R hR=>?_
 obtain⟨d,c,k,rfl,rfl,hk,ba⟩:=hR;have Q:=Zx hk;have tx:=Q.tx;refine⟨_,(hO (mS 2 sX.nd (mU C hr (dK (mP R 1 hL) eA))) (hO (mS 3 sX.nd (mU C hr (dK (mP R 1 hL) eA))) (hO (mS 4 sX.nd (mU C hr (dK (mP R 1 hL) eA))) (hO (mS 5 sX.nd (mU C hr (dK (mP R 1 hL) eA))) (hO (Ax 6 ["k"] [] [] sX.nd (vY (by rfl) T.range (qP R (nX (dK hL (dK hL (dK hL (dK (mU J hr (dK (dT 0) (dK hL eA))) eA))))) (mU J hr (dK (dT 0) (dK hL eA))))) (λ_ _ _ _ _=>(mM 0 RS)) (λ_ _ _ _ _=>(nG oC oD mW (nZ Yj CD T.str PyProof.Rows.boot_str (dK (dT 0) eA))))) (hO (mS 7 sX.nd (nX eA)) (hO (oW (nN (dT 6)) (mM 8 sX.nd) (mQ (sM (rC bF bQ bR sK tR (pv 7) (dK (qP R (nX (dK (nX (dK (dT 8) (dK (qP R (nX (dK mW (dK mW eA))) (mU J hr (dK (dT 0) (dK hL eA)))) eA))) (dK (nG oC oD (nX (dK (dT 8) (dK mW eA))) (yZ Ak zZ (pv 6) zG (zQ hL))) eA))) (nZ A6 Bd T.int eS (dK (Do B3 B6 (oJ qB qC T.len bN (sQ (pv 7) eA)) hL) eA))) eA))))) (hO (mS 3 sX.nd (qA oC oD 3 (nG sF sA (yZ Ak zZ (pv 6) (zQ (Bt hL)) zG) (mU J hr (dK (dT 0) (dK hL eA)))))) (hO (mS 7 sX.nd (qA oC oD 7 (oZ ["text"] [] [] (nN (mP R 1 hL)) (λ_ _ _ _ _=>(mM 0 GD)) (λ_ _ _ _ _=>(mU C hr (dK (dT 0) eA)))))) (hO (mS 9 sX.nd (qA oC oD 2 (oZ ["gate"] [] [] (nN (dT 7)) (λ_ _ _ _ _=>(mM 0 MY)) (λ_ _ _ _ _=>(mP R 0 hL))))) (hO (mS 10 sX.nd (Ck rfl (by rfl) T.dict (by rfl) T.zip (dK (dT 9) (dK (mU U hr (dK (dT 0) (dK (oJ qB qC T.len bN (dK (dT 9) eA)) eA))) eA)))) (hO (Ax 11 ["gate"] ["names"] [10] sX.nd (nN (dT 7)) (λ_ _ _ _ _=>(mM 0 BK)) (λ_ _ _ _ _=>(oN (dK (mP R 1 (mP R 0 hL)) (dK (mP R 0 hL) (dK (nZ uR uZ T.tuple cB (dK (oZ ["one"] ["names"] [1] (nN (yZ Ak zZ (pv 0) (zQ hL) zG)) (λ_ _ _ _ _=>(mM 0 L3)) (λ_ _ _ _ _=>(mP R 1 (dT 0)))) eA)) eA)))))) (hO (Ax 2 ["one"] ["names"] [10] sX.nd (nN (mU I hr (dK (dT 0) (dK (dT 2) eA)))) (λ_ _ _ _ _=>(mM 0 L3)) (λ_ _ _ _ _=>(mP R 1 (dT 0)))) (hO (Ax 3 ["one"] ["names"] [10] sX.nd (nN (mU I hr (dK (dT 0) (dK (dT 3) eA)))) (λ_ _ _ _ _=>(mM 0 L3)) (λ_ _ _ _ _=>(mP R 1 (dT 0)))) (hO (Ax 12 ["k"] ["names","pairs"] [10,4] sX.nd (Tx (by rfl) T.range hL (oJ qB qC T.len bN (dK (dT 4) eA)) hL) (λ_ _ _ _ _=>(mM 0 CB)) (λ_ _ _ _ _=>(oN (dK (mP R 1 (mP R 2 (dT 0))) (dK (mP R 1 (mP R 2 (qA oC oD 0 hL))) eA))))) (hO (uI (n:=10) R mW (pv 10) mW) (hO (mS 13 sX.nd Fh) (hO (oW (Tx (by rfl) T.range hL (oJ qB qC T.len bN (dK (dT 5) eA)) hL) (mM 14 sX.nd) (mQ (uI (n:=13) R (nZ A6 Bd T.int eS (dK (mP R 5 (qA oC oD 14 hL)) eA)) (pv 13) (mP R 10 (mP R 5 (dT 14)))))) (mQ (nO (nX (dK (oN (dK (oN (dK (nZ uR uZ T.tuple cB (dK (dT 2) eA)) (dK (nZ uR uZ T.tuple cB (dK (dT 11) eA)) (dK (nZ uR uZ T.tuple cB (dK (dT 3) eA)) eA)))) (dK (nZ uR uZ T.tuple cB (dK (mU I hr (dK (dT 0) (dK (dT 12) eA))) eA)) eA))) (dK (dT 13) eA))))))))))))))))))))))),?_⟩;refine mK (λu=>u=wH d k (.o (sl (kI k))) .n .n .n .n .n .n .n .n .n .n .n .n) (λN F=>⟨rfl,_,rfl,k.ins,rfl,(tx _ (by simp)).1,(tx _ (by simp)).2,.inl rfl,F _ rfl⟩) ?_;rintro _ rfl;refine mK (λu=>u=wH d k (.o (sl (kI k))) (.o (sl (kO k))) .n .n .n .n .n .n .n .n .n .n .n) (λN F=>⟨rfl,_,rfl,k.outs,rfl,(tx _ (by simp)).1,(tx _ (by simp)).2,.inl rfl,F _ rfl⟩) ?_;rintro _ rfl;refine mK (λu=>u=wH d k (.o (sl (kI k))) (.o (sl (kO k))) (.o (sl (kP k))) .n .n .n .n .n .n .n .n .n .n) (λN F=>⟨rfl,_,rfl,k.pairs,rfl,(tx _ (by simp)).1,(tx _ (by simp)).2,.inl rfl,F _ rfl⟩) ?_;rintro _ rfl;refine mK (λu=>u=xB d k (.o (sl (kO k))) .n .n .n) (λN F=>⟨rfl,_,rfl,k.nums,rfl,(tx _ (by simp)).1,(tx _ (by simp)).2,.inl rfl,F _ rfl⟩) ?_;rintro _ rfl;refine mK (λu=>∃ n,n<19/\u=xB d k (.o (sl (kO k))) (.o (.l (sH n))) .n .n) (λN F=>?_) ?_
 .unfold qN vA Xo;refine⟨d,c,19,rfl,rfl,by decide,by decide,λr1 W=>⟨.inl rfl,by show 4<=1000;decide,d,c,4,rfl,rfl,by decide,by decide,λr2 X=>⟨.inl rfl,?_⟩⟩⟩;obtain⟨m,hm,aj⟩:∃ m:Nat,m<19/\oQ [D.int 0,.int 0,.int 1,.int (r1:Int)] (r2:Int)=some (.int (m:Int)):=by
   have:r2=0\/r2=1\/r2=2\/r2=3:=by omega
   rcases this with rfl | rfl | rfl | rfl
   .exact⟨0,by decide,qT rfl⟩
   .exact⟨0,by decide,qT rfl⟩
   .exact⟨1,by decide,qT rfl⟩
   .exact⟨r1,by omega,qT rfl⟩
  refine⟨_,aj,by omega,by omega,?_⟩;rw[bT];refine Hj (Φ:=λr ac=>N (ac.set 6 r)) (List.range m) (λ(i:Nat)=>D.int (0+(i:Int))) (λi=>.str (pC i)) (xB d k (.o (sl (kO k))) .n .n .n) (by rw[cF];omega) (λj i ys Nx e W X=>?_) (F _ ⟨m,hm,rfl⟩);have hi:i<19:=by have:=dQ.mp (aF e);omega
  exact⟨(U9 i hi).1,(U9 i hi).2,W,X⟩
 rintro u ⟨n,hn,rfl⟩;refine mK (λu=>u=xB d k (.o (sl (kO k))) (.o (.l (sH n))) (.o (.l [])) .n) (λN F=>⟨by show 0<=1000;decide,F _ rfl⟩) ?_;rintro _ rfl;refine mK (λu=>∃ (S:Af) (O:Sl),(S = "one" \/ S = "nil")/\u=xB d k (.o (sl (kO k))) (.v (.l (sH n))) (.o (.l (((List.range n).map (rS S)).map rG))) O) (λN F=>?_) ?_
 .refine oV (sH n) (xB d k (.o (sl (kO k))) (.v (.l (sH n))) (.o (.l [])) .n) (λΨ h=>h)
   (λj u=>∃ (S:Af) (O:Sl),(S = "one" \/ S = "nil")/\u=xB d k (.o (sl (kO k))) (.v (.l (sH n))) (.o (.l (((List.range j).map (rS S)).map rG))) O) ⟨"one",.n,.inl rfl,rfl⟩ ?_ ?_
  .rintro j x u Y ⟨S,O,hw,rfl⟩;obtain⟨j',ak,rfl⟩:=pR Y;obtain⟨hj,e⟩:=aL.mp ak;rw[cF] at hj;rw[jF] at e;subst e;refine⟨rfl,by show 2<=1000;decide,d,c,2,rfl,rfl,by decide,by decide,λr hr=>⟨.inl rfl,?_⟩⟩;obtain⟨w1,a8,aj⟩:∃ w1:Af,(w1 = "one" \/ w1 = "nil")/\oQ [D.str "one",.str "nil"] (r:Int)=some (.str w1):=by
    have:r=0\/r=1:=by omega
    rcases this with rfl | rfl
    .exact⟨_,.inl rfl,qT rfl⟩
    .exact⟨_,.inr rfl,qT rfl⟩
   have ec:tK (sH n) none (some 1)=[D.str (pC 0)]:=by
    have:=G9 (λi=>D.str (pC i)) (List.range n) 1;obtain⟨m,rfl⟩:∃ m,n=m+1:=⟨n-1,by omega⟩;have e2:(List.range (m+1)).take 1=[0]:=by rw[List.range_succ_eq_map];rfl
    rw[e2] at this;exact this
   refine⟨_,aj,by show 2<=1000;decide,by show 2<=1000;decide,rfl,?_⟩;show (2+(tK (sH n) none (some 1)).length<=100000)/\_;rw[ec];refine⟨by show 2+1<=100000;decide,by show 2<=1000;decide,rfl,rfl,_,rfl,?_⟩;have len:((((List.range j).map (rS S)).map rG).length:Nat)=j:=by simp
   show ∃ c',oQ [D.l [.str (pC j),.str w1],.l [.str (pC j),.str "not",.str (pC 0)]] (if decide ((((((List.range j).map (rS S)).map rG).length:Nat):Int)>0)=true then 1 else 0)=some c'/\(((List.range j).map (rS S)).map rG).length<100000/\_;rw[len];by_cases h0:j=0
   .subst h0;refine⟨D.l [.str (pC 0),.str w1],rfl,by decide,w1,.v (.str (pC 0)),a8,rfl⟩
   .refine⟨D.l [.str (pC j),.str "not",.str (pC 0)],?_,by omega,S,.v (.str (pC j)),hw,?_⟩
    .rw[aO (by simp;omega)];exact qT (j:=1) rfl
    .rw[kR,aM,aM];have:rG (rS S j)=D.l [.str (pC j),.str "not",.str (pC 0)]:=by unfold rS;rw[if_neg h0];rfl
     show _=wH d k _ _ _ _ _ (.o (.l (((List.range j).map (rS S)).map rG++[rG (rS S j)]))) _ _ _ _ _ _ _;rw[this];rfl
  .rintro u ⟨S,O,hw,rfl⟩;rw[show (sH n).length=n by simp[sH]];exact F _ ⟨S,O,hw,rfl⟩
 rintro u ⟨S,O,hw,rfl⟩;refine mK (λu=>∃ ex:Aa Af,(ex=[]\/(1<=n/\ex=[pC (n-1)]))/\u=xB d k (.o (sl (kO k++ex))) (.v (.l (sH n))) (.o (.l (((List.range n).map (rS S)).map rG))) O) (λN F=>?_) ?_
 .refine⟨rfl,rfl,d,c,2,rfl,rfl,by decide,by decide,λr hr=>⟨.inl rfl,?_⟩⟩;show (0:Int)<=(r:Int)/\(r:Int)<=1000/\(tK (sH n) (some (-1)) none).length<=100/\_;have ec:tK (sH n) (some (-1)) none=(if n=0 then [] else [pC (n-1)]).map D.str:=by
   have:=GB (λi=>D.str (pC i)) n;rw[show sH n=(List.range n).map λi=>D.str (pC i) from rfl,this];split<;>rfl
  rw[ec];refine⟨by omega,by omega,by split<;>simp,?_⟩;show ((kO k).map D.str).length+_<=100000/\_;have a4:=Q.lo;have:r=0\/r=1:=by omega
  rcases this with rfl | rfl
  .refine⟨by show ((kO k).map D.str).length+0<=100000;rw[aA];omega,F _ ⟨[],.inl rfl,?_⟩⟩;rw[dD];show wH d k _ (.o (.l ((kO k).map D.str++[]))) _ _ _ _ _ _ _ _ _ _ _=_;rw[dD]
  .by_cases h0:n=0
   .rw[aO h0];refine⟨by show ((kO k).map D.str).length+0<=100000;rw[aA];omega,F _ ⟨[],.inl rfl,?_⟩⟩;rw[dD];show wH d k _ (.o (.l ((kO k).map D.str++[]))) _ _ _ _ _ _ _ _ _ _ _=_;rw[dD]
   .rw[aJ h0];refine⟨by show ((kO k).map D.str).length+1<=100000;rw[aA];omega,F _ ⟨[pC (n-1)],.inr ⟨by omega,rfl⟩,?_⟩⟩;show wH d k _ (.o (.l ((kO k).map D.str++[D.str (pC (n-1))]))) _ _ _ _ _ _ _ _ _ _ _=_;rw[show sl (kO k++[pC (n-1)])=D.l ((kO k).map D.str++[D.str (pC (n-1))]) by simp[sl]]
 rintro u ⟨ex,hex,rfl⟩;have bm:(kG k).length=k.gates.length:=by unfold kG;simp
 have bo:=Q.lg;have bp:=Q.li;have a4:=Q.lo;obtain⟨G,hG⟩:∃ G,G=(List.range n).map (rS S)++kG k:=⟨_,rfl⟩;have G2:∀ l∈G,2<=l.length:=λl hl=>by
  rw[hG] at hl;rcases aV.mp hl with q | q
  .obtain⟨i,_,rfl⟩:=aN.mp q;exact CG S i
  .exact Q.g2 l q
 have Gl:G.length<=22:=by rw[hG];simp;omega
 refine mK (λu=>u=xB d k (.o (sl (kO k++ex))) (.v (.l (sH n))) (.o (.l (G.map rG))) O) (λN F=>?_) ?_
 .unfold qN yQ;refine⟨rfl,?_⟩;refine pL k.gates D.str (λz=>rG (Aq z)) _ (λΨ h=>⟨rfl,_,rfl,h⟩) (by omega) (λj z ys Nx e W X=>⟨z,rfl,(tx z (by simp[aF e])).1,(tx z (by simp[aF e])).2,.inl rfl,W,X⟩) ?_;refine⟨by show (((List.range n).map (rS S)).map rG).length+(k.gates.map _).length<=100000;simp;omega,F _ ?_⟩;have eG:G.map rG=((List.range n).map (rS S)).map rG++k.gates.map (λz=>rG (Aq z)):=by
   rw[hG,aM]
   congr 1
   unfold kG;rw[aR];rfl
  rw[eG];rfl
 rintro _ rfl;obtain⟨B,hH⟩:∃ B,B=G.map λl=>(oU l).1:=⟨_,rfl⟩
 have eH:B=(List.range n).map pC++kH k:=by
  rw[hH,hG,aM,aR]
  congr 1
  exact cX λi _=>S9 S i
 have ai:(kI k++B).Nodup:=by
  have ar:∀ i∈List.range n,pC i∉kI k++kH k:=λi hi q=>(Ie i (by have:=dQ.mp hi;omega)).1 (Q.one _ q).1
  have an:=Q.nd;obtain⟨n1,n2,n3⟩:=bE.mp an;rw[eH];refine bE.mpr ⟨n1,bE.mpr ⟨Cd List.nodup_range λi hi j hj e=>(Ie i (by have:=dQ.mp hi;omega)).2.2 j (by have:=dQ.mp hj;omega) e,n2,λa ha b hb e=>?_⟩,λa ha b hb e=>?_⟩
  .obtain⟨i,hi,rfl⟩:=aN.mp ha;exact ar i hi (by rw[e];exact aT _ hb)
  .rcases aV.mp hb with q | q
   .obtain⟨i,hi,rfl⟩:=aN.mp q;exact ar i hi (by rw[<- e];exact bB _ ha)
   .exact n3 a ha b q e
 have ag:("-" : Af)∉kI k++B:=λq=>by
  rw[eH] at q;rcases aV.mp q with q | q
  .exact (Q.one _ (bB _ q)).2 rfl
  .rcases aV.mp q with q | q
   .obtain⟨i,hi,e⟩:=aN.mp q;exact (Ie i (by have:=dQ.mp hi;omega)).2.1 e
   .exact (Q.one _ (aT _ q)).2 rfl
 have Hl:B.length=G.length:=by rw[hH];simp
 refine mK (λu=>u=wH d k (.o (sl (kI k))) (.o (sl (kO k++ex))) (.o (sl (kP k))) (.o (sl (kN k))) (.v (.l (sH n))) (.v (.l (G.map rG))) O (.o (sl (kI k++B))) .n .n .n .n .n) (λN F=>?_) ?_
 .unfold qN yQ;refine⟨rfl,?_⟩;refine pL G rG (λl=>.str (oU l).1) (xB d k (.o (sl (kO k++ex))) (.v (.l (sH n))) (.v (.l (G.map rG))) O) (λΨ h=>h) (by omega) (λj l ys Nx e W X=>⟨rfl,_,(L9 (G2 l (aF e))).1,W,X⟩) ?_;refine⟨by show ((kI k).map D.str).length+(G.map _).length<=100000;simp;omega,F _ ?_⟩;show wH d k _ _ _ _ _ _ _ (.o (.l ((kI k).map D.str++G.map λl=>D.str (oU l).1))) _ _ _ _ _=_;rw[show sl (kI k++B)=D.l ((kI k).map D.str++G.map λl=>D.str (oU l).1) by unfold sl;rw[List.map_append,hH,List.map_map];rfl]
 rintro _ rfl;refine mK (λu=>∃ xs:Aa Af,xs.length=(kI k++B).length/\xs.Nodup/\(∀ x∈xs,GoodName x)/\u=Bx d k n G O B (.o (sl (kI k))) (.o (sl (kO k++ex))) (.o (.k (oE ((kI k++B).zip xs)))) .n) (λN F=>?_) ?_
 .refine⟨rfl,_,rfl,d,c,((kI k++B).map D.str).length,rfl,rfl,by simp;omega,λxs lx nd gn=>⟨.inl rfl,false,false,_,_,_,rfl,rfl,keysL_strs (kI k++B),by simp;omega,?_⟩⟩;have aw:xs.length=(kI k++B).length:=by rw[lx,aA]
  rw[Q3,QD (by rw[Lp _ _ aw.symm];exact ai)];exact F _ ⟨xs,aw,nd,gn,rfl⟩
 rintro u ⟨xs,lx,bh,bg,rfl⟩;have tk:((kI k++B).zip xs).map (·.1)=kI k++B:=Lp _ _ lx.symm;have ah:∀ o∈kI k++B,nD ((kI k++B).zip xs) o∈xs:=λo Z=>Gb lx.symm Z
 have aa:∀ o∈kI k++B,∀ o'∈kI k++B,nD ((kI k++B).zip xs) o=nD ((kI k++B).zip xs) o'->o=o':=λo Z o' a6 e=>V5 lx.symm bh Z a6 e
 generalize ht:(kI k++B).zip xs=t at tk ah aa |-;have ax:t.length<100000:=by
  have:=cG List.length tk;simp only[aA,bH] at this;omega
 have gk:oR (kI k) (G.map oU):=by
  rw[hG,aM];exact oR.app (W7 hw _ n) (oR.more (λx Y=>bB _ Y) Q.gt)
 have gH:∀ l∈G,(oU l).1∈B:=λl hl=>by rw[hH];exact aN.mpr ⟨l,hl,rfl⟩
 have gP:∀ l∈G,∀ p∈l.drop 2,p∈kI k++B:=λl hl p M=>by
  obtain⟨j,hj,rfl⟩:=eM hl;have W:=(Js gk (i:=j) (g:=oU G[j]) (by rw[aW,aE hj];rfl)).2 p M;rcases aV.mp W with q | q
  .exact bB _ q
  .refine aT _ ?_;rw[hH];obtain⟨g,hg,rfl⟩:=aN.mp q;obtain⟨l',a3,rfl⟩:=aN.mp (kJ hg);exact aN.mpr ⟨l',a3,rfl⟩
 have oH:∀ o∈kO k++ex,o∈B:=λo Z=>by
  rw[eH];rcases aV.mp Z with q | q
  .exact aT _ (Q.oh o q)
  .rcases hex with rfl | ⟨W,rfl⟩
   .cases q
   .rw[aX.mp q];exact bB _ (aN.mpr ⟨n-1,dQ.mpr (by omega),rfl⟩)
 have av:∀ o∈kI k,o∈t.map (·.1):=λo Z=>by rw[tk];exact bB _ Z
 have ao:∀ o∈B,o∈t.map (·.1):=λo Z=>by rw[tk];exact aT _ Z
 refine mK (λu=>u=Bx d k n G O B (.o (sl (kI k))) (.o (sl (kO k++ex))) (.o (.k (oE t))) (.o (.l (G.map λl=>oA (ren (nD t) (oU l)))))) (λN F=>?_) ?_
 .unfold qN;refine pL G rG (λl=>oA (ren (nD t) (oU l))) (Bx d k n G O B (.o (sl (kI k))) (.o (sl (kO k++ex))) (.o (.k (oE t))) .n) (λΨ h=>h) (by omega) (λj l ys Nx e W X=>?_) (F _ rfl);have hl:=aF e;refine⟨rfl,rfl,_,(L9 (G2 l hl)).1,_,A3 (ao _ (gH l hl)),rfl,_,(L9 (G2 l hl)).2,?_⟩;unfold dC aC;have aq:=(Js gk (i:=j) (g:=oU l) (by rw[aW,e];rfl)).1.ok;have bi:(l.drop 2).length<=3:=by
   have e2:(oU l).2.2.length=(l.drop 2).length:=rfl;rw[e2] at aq;rcases aq with q | q | q | q | q<;>omega
  refine pL (l.drop 2) D.str (λp=>.str (nD t p)) [.v (rG l),.o (.k (oE t))] (λΨ h=>⟨rfl,by rw[<- M4] at h;exact h⟩) (by omega) (λj p ys Nx e W X=>⟨rfl,_,A3 (by rw[tk];exact gP l hl p (aF e)),W,X⟩) ?_;refine⟨by show 3<=1000;decide,W,?_⟩;have eE:oA (ren (nD t) (oU l))=D.t [.str (nD t (oU l).1),.str (oU l).2.1,.t ((l.drop 2).map λp=>D.str (nD t p))]:=by
   unfold oA ren;rw[aR];rfl
  rw[eE] at X;exact X
 rintro _ rfl;refine mK (λu=>∃ V:Aa Af,V.Perm (kI k)/\u=Bx d k n G O B (.o (sl (V.map (nD t)))) (.o (sl (kO k++ex))) (.o (.k (oE t))) (.o (.l (G.map λl=>oA (ren (nD t) (oU l)))))) (λN F=>?_) ?_
 .unfold qN vA iV;refine⟨d,c,(kI k).map D.str,rfl,.inl rfl,by simp;omega,λys M=>⟨.inl rfl,?_⟩⟩;obtain⟨V,pI,rfl⟩:=Si M;refine Hj (Φ:=λr ac=>N (ac.set 2 r)) V D.str (λo=>.str (nD t o)) (Bx d k n G O B (.v (sl (kI k))) (.o (sl (kO k++ex))) (.o (.k (oE t))) (.o (.l (G.map λl=>oA (ren (nD t) (oU l)))))) (by rw[pI.length_eq];omega) (λj o ys Nx e W X=>⟨rfl,_,A3 (av o (pI.mem_iff.mp (aF e))),W,X⟩) (F _ ⟨V,pI,?_⟩);unfold sl;rw[aR];rfl
 rintro u ⟨V,pI,rfl⟩;refine mK (λu=>∃ O':Aa Af,O'.Perm (kO k++ex)/\u=Bx d k n G O B (.o (sl (V.map (nD t)))) (.o (sl (O'.map (nD t)))) (.o (.k (oE t))) (.o (.l (G.map λl=>oA (ren (nD t) (oU l)))))) (λN F=>?_) ?_
 .unfold qN vA iV;have ay:ex.length<=1:=by rcases hex with rfl | ⟨_,rfl⟩<;>simp
  refine⟨d,c,(kO k++ex).map D.str,rfl,.inl rfl,by simp;omega,λys M=>⟨.inl rfl,?_⟩⟩;obtain⟨O',pO,rfl⟩:=Si M;refine Hj (Φ:=λr ac=>N (ac.set 3 r)) O' D.str (λo=>.str (nD t o)) (Bx d k n G O B (.o (sl (V.map (nD t)))) (.v (sl (kO k++ex))) (.o (.k (oE t))) (.o (.l (G.map λl=>oA (ren (nD t) (oU l)))))) (by rw[pO.length_eq,bH];omega) (λj o ys Nx e W X=>⟨rfl,_,A3 (ao o (oH o (pO.mem_iff.mp (aF e)))),W,X⟩) (F _ ⟨O',pO,?_⟩);unfold sl;rw[aR (g:=D.str) (f:=nD t) (l:=O')];rfl
 rintro u ⟨O',pO,rfl⟩;have br:=Q.lp;have au:=Kg (kP k) Q.pe;obtain⟨L,ae⟩:∃ L,L=pF (kP k):=⟨_,rfl⟩;rw[<- ae] at au;refine mK (λu=>u=Bo d k n G O B t V O' (.o (sl (kN k))) (.o (.k (oE t))) (.o (.l (L.map λp=>rQ (nD t p.1,nD t p.2)))) .n .n) (λN F=>?_) ?_
 .unfold qN vA R9;refine⟨rfl,_,rfl,⟨by omega,by omega,by show (0:Int)<=(((kP k).map D.str).length:Nat);omega,by show ((((kP k).map D.str).length:Nat):Int)<=100000;simp;omega,by omega,by omega⟩,?_⟩;have em:xN 0 ((((kP k).map D.str).length:Nat):Int) 2=L.length:=by
   rw[aA,<- au];exact Ul _
  rw[em];refine Hj (Φ:=λr ac=>N (ac.set 12 r)) (List.range L.length) (λ(i:Nat)=>D.int (0+(i:Int)*2)) (λi=>(λp:Af×Af=>rQ (nD t p.1,nD t p.2)) (L.getD i ("",""))) (Bo d k n G O B t V O' (.o (sl (kN k))) (.o (.k (oE t))) .n .n .n) (by rw[cF];omega) (λj i ys Nx e W X=>?_) ?_
  .have hi:=dQ.mp (aF e);have M:L[i]?=some L[i]:=aE hi;have a2:L.getD i ("","")=L[i]:=by simp[List.getD,M]
   rw[a2] at X;obtain⟨q1,q2⟩:=pairs_at (by rw[<- ae];exact M);have hm:=Q.pm L[i] (by rw[<- ae];exact cN hi);refine⟨rfl,rfl,.str L[i].1,?_,_,A3 (ao _ (oH _ (bB _ hm.1))),rfl,rfl,rfl,.str L[i].2,?_,_,A3 (av _ hm.2),by show 2<=1000;decide,W,X⟩
   .rw[show (0+(i:Int)*2)=((2*i:Nat):Int) by omega];exact qT (by rw[aW,q1];rfl)
   .rw[show (0+(i:Int)*2+1)=((2*i+1:Nat):Int) by omega];exact qT (by rw[aW,q2];rfl)
  .rw[NX L ("","") (λp:Af×Af=>rQ (nD t p.1,nD t p.2))];exact F _ rfl
 rintro _ rfl;refine mK (λu=>u=Bo d k n G O B t V O' (.o (sl (kN k))) (.o (.k (oE (t++[(("-" : Af),("" : Af))])))) (.o (.l (L.map λp=>rQ (nD t p.1,nD t p.2)))) .n .n) (λN F=>⟨rfl,_,SH (by rw[tk];exact ag) ax,F _ rfl⟩) ?_;rintro _ rfl;refine mK (λu=>u=Bo d k n G O B t V O' (.o (sl (kN k))) (.o (.k (oE (t++[(("-" : Af),("" : Af))])))) (.o (.l (L.map λp=>rQ (nD t p.1,nD t p.2)))) (.o (.k [])) .n) (λN F=>F _ rfl) ?_;rintro _ rfl;have bq:=Q.ln;have a5:=Kg (kN k) Q.ne;have bf:(t++[(("-" : Af),("" : Af))]).map (·.1)=(kI k++B)++[("-" : Af)]:=by rw[aM,tk];rfl
 refine mK (λu=>∃ (wt:nB) (ab:Sl),WtOk 9 wt/\u=Bo d k n G O B t V O' (.v (sl (kN k))) (.o (.k (oE (t++[(("-" : Af),("" : Af))])))) (.o (.l (L.map λp=>rQ (nD t p.1,nD t p.2)))) (.o (.k (gV wt))) ab) (λN F=>?_) ?_
 .have em:xN 0 ((((kN k).map D.str).length:Nat):Int) 2=(pF (kN k)).length:=by
   rw[aA,<- a5];exact Ul _
  refine oV (xZ 0 2 (pF (kN k)).length) (Bo d k n G O B t V O' (.v (sl (kN k))) (.o (.k (oE (t++[(("-" : Af),("" : Af))])))) (.o (.l (L.map λp=>rQ (nD t p.1,nD t p.2)))) (.o (.k [])) .n) (λΨ h=>⟨rfl,_,rfl,⟨by omega,by omega,by show (0:Int)<=(((kN k).map D.str).length:Nat);omega,by show ((((kN k).map D.str).length:Nat):Int)<=100000;simp;omega,by omega,by omega⟩,by rw[em];exact h⟩)
   (λj u=>∃ (wt:nB) (ab:Sl),(wt.length<=j/\(wt.map (·.1)).Nodup/\∀ p∈wt,-9<=p.2/\p.2<=9)/\u=Bo d k n G O B t V O' (.v (sl (kN k))) (.o (.k (oE (t++[(("-" : Af),("" : Af))])))) (.o (.l (L.map λp=>rQ (nD t p.1,nD t p.2)))) (.o (.k (gV wt))) ab) ⟨[],.n,⟨by simp,by simp,by simp⟩,rfl⟩ ?_ ?_
  .rintro j x u Y ⟨wt,ab,⟨bn,an,az⟩,rfl⟩;obtain⟨j',ak,rfl⟩:=pR Y;obtain⟨hj,e⟩:=aL.mp ak;rw[cF] at hj;rw[jF] at e;subst e;have M:(pF (kN k))[j]?=some (pF (kN k))[j]:=aE hj;obtain⟨q1,q2⟩:=pairs_at M;obtain⟨m1,m2,m3⟩:=Q.nm _ (cN hj);obtain⟨v,hv⟩:=cS.mp m2;have a1:oQ ((kN k).map D.str) (0+(j:Int)*2+1)=some (.str (pF (kN k))[j].2):=by
    rw[show (0+(j:Int)*2+1)=((2*j+1:Nat):Int) by omega];exact qT (by rw[aW,q2];rfl)
   have a0:oQ ((kN k).map D.str) (0+(j:Int)*2)=some (.str (pF (kN k))[j].1):=by
    rw[show (0+(j:Int)*2)=((2*j:Nat):Int) by omega];exact qT (by rw[aW,q1];rfl)
   have ky:(pF (kN k))[j].1∈(t++[(("-" : Af),("" : Af))]).map (·.1):=by
    rw[bf];rcases m1 with q | q
    .refine bB _ ?_;rcases aV.mp q with z | z
     .exact bB _ z
     .exact aT _ (by rw[eH];exact aT _ z)
    .rw[q];exact aT _ (by simp)
   have jl:j<100:=by omega
   have a7:=NQ hk (cN hj) hv;have e3:=Jp wt (nD (t++[(("-" : Af),("" : Af))]) (pF (kN k))[j].1) v;refine⟨rfl,rfl,_,a1,v,hv,m3,rfl,rfl,rfl,_,a0,_,A3 ky,.k (nM (gV wt) (Sum.inr (nD (t++[(("-" : Af),("" : Af))]) (pF (kN k))[j].1)) (.int v)),?_,vJ wt (nD (t++[(("-" : Af),("" : Af))]) (pF (kN k))[j].1) v,.v (.int (0+(j:Int)*2)),⟨?_,K2 an,λp M=>?_⟩,?_⟩
   .have:(gV wt).length<100000:=by unfold gV;rw[List.length_map];omega
    simp only[sC,aO this];rfl
   .exact bX (N8 _ _ _) (by omega)
   .rcases LD M with q | q
    .exact az p q
    .rw[q];exact a7
   .rw[<- e3];rfl
  .rintro u ⟨wt,ab,⟨W,X,h3⟩,rfl⟩;have e4:(xZ 0 2 (pF (kN k)).length).length=(pF (kN k)).length:=by unfold xZ;simp
   exact F _ ⟨wt,ab,⟨X,by omega,h3⟩,rfl⟩
 rintro u ⟨wt,ab,a9,rfl⟩;refine⟨by show 3<=1000;decide,d,c,_,rfl,.inl rfl,by show (L.map _).length<=1000;simp;omega,λys M=>⟨.inl rfl,by show 2<=1000;decide,by show 2<=1000;decide,?_⟩⟩;obtain⟨al,pA,e⟩:=Qp (xs:=L.map λp=>(nD t p.1,nD t p.2)) (ys:=ys) (by rw[aR];exact M);subst e;have fin:=ba ⟨V.map (nD t),G.map λl=>ren (nD t) (oU l),O'.map (nD t)⟩ al wt ?_ a9
 .unfold rV sG at fin;dsimp only at fin;rw[aR (g:=oA)] at fin;exact fin
 have iO:∀ o∈O',o∈kI k++B:=λo Z=>aT _ (oH o (pO.mem_iff.mp Z))
 have iI:∀ o∈V,o∈kI k++B:=λo Z=>bB _ (pI.mem_iff.mp Z)
 have ay:ex.length<=1:=by rcases hex with rfl | ⟨_,rfl⟩<;>simp
 have eN:(G.map λl=>ren (nD t) (oU l)).map (·.1)=B.map (nD t):=by
  rw[hH,aR,aR];rfl
 have pm:∀ p∈L,p.1∈kO k/\p.2∈kI k:=λp M=>Q.pm p (by rw[<- ae];exact M)
 have bd:(L.map (·.1)).Nodup:=by rw[ae];exact Q.p1
 have be:(L.map (·.2)).Nodup:=by rw[ae];exact Q.p2
 have bb:(kO k++ex).Nodup:=by
  refine bE.mpr ⟨Q.ond,?_,λa ha b hb e=>?_⟩
  .rcases hex with rfl | ⟨_,rfl⟩<;>simp
  .rcases hex with rfl | ⟨W,rfl⟩
   .cases hb
   .rw[aX.mp hb] at e;exact (Ie (n-1) (by omega)).1 (by rw[<- e];exact (Q.one a (aT _ (Q.oh a ha))).1)
 refine⟨⟨?_,?_,?_,?_,?_,?_,?_,?_⟩,?_,?_,?_,?_,?_⟩
 .show (V.map (nD t)++(G.map λl=>ren (nD t) (oU l)).map (·.1)).Nodup;rw[eN,<- aM];have af:(V++B).Perm (kI k++B):=pI.append_right B;exact Cd (af.nodup_iff.mpr ai) λx Y y hy e=>aa x (af.mem_iff.mp Y) y (af.mem_iff.mp hy) e
 .intro x Y;have Y:x∈V.map (nD t)++(G.map λl=>ren (nD t) (oU l)).map (·.1):=Y;rw[eN,<- aM] at Y;obtain⟨o,Z,rfl⟩:=aN.mp Y;refine bg _ (ah o ?_);rcases aV.mp Z with q | q
  .exact iI o q
  .exact aT _ q
 .have g1:oR V (G.map oU):=oR.more (λx Y=>pI.mem_iff.mpr Y) gk;have:=g1.ren (nD t);rw[aR] at this;exact this
 .intro o Z;obtain⟨q,hq,rfl⟩:=aN.mp Z;refine aT _ ?_;rw[eN];exact aN.mpr ⟨q,oH q (pO.mem_iff.mp hq),rfl⟩
 .exact Cd (pO.nodup_iff.mpr bb) λx Y y hy e=>aa x (iO x Y) y (iO y hy) e
 .show (V.map (nD t)).length<=6;rw[aA,pI.length_eq];omega
 .show (G.map _).length<=24;rw[aA];omega
 .show (O'.map (nD t)).length<=6;rw[aA,pO.length_eq,bH];omega
 .intro o Z;obtain⟨q,hq,rfl⟩:=aN.mp Z;show _∈(G.map λl=>ren (nD t) (oU l)).map (·.1);rw[eN];exact aN.mpr ⟨q,oH q (pO.mem_iff.mp hq),rfl⟩
 .refine (pA.map (·.1)).nodup_iff.mpr ?_;rw[aR];have:(L.map (·.1)).map (nD t)=L.map ((·.1)∘λp:Af×Af=>(nD t p.1,nD t p.2)):=by rw[aR];rfl
  rw[<- this];refine Cd bd λx Y y hy e=>aa x ?_ y ?_ e
  .obtain⟨p,M,rfl⟩:=aN.mp Y;exact aT _ (oH _ (bB _ (pm p M).1))
  .obtain⟨p,M,rfl⟩:=aN.mp hy;exact aT _ (oH _ (bB _ (pm p M).1))
 .refine (pA.map (·.2)).nodup_iff.mpr ?_;rw[aR];have:(L.map (·.2)).map (nD t)=L.map ((·.2)∘λp:Af×Af=>(nD t p.1,nD t p.2)):=by rw[aR];rfl
  rw[<- this];refine Cd be λx Y y hy e=>aa x ?_ y ?_ e
  .obtain⟨p,M,rfl⟩:=aN.mp Y;exact bB _ (pm p M).2
  .obtain⟨p,M,rfl⟩:=aN.mp hy;exact bB _ (pm p M).2
 .intro p M;obtain⟨q,hq,rfl⟩:=aN.mp (pA.mem_iff.mp M);exact⟨aN.mpr ⟨q.1,pO.mem_iff.mpr (bB _ (pm q hq).1),rfl⟩,aN.mpr ⟨q.2,pI.mem_iff.mpr (pm q hq).2,rfl⟩⟩
 .rw[pA.length_eq,aA];omega
end
noncomputable def qH (w:Af) (bs:Aa Int):Int :=
 if w = "and" then (if bs.sum=bs.length then 1 else 0)
 else if w = "or" then (if bs.sum>0 then 1 else 0)
 else if w = "odd" then bs.sum%2
 else if w = "most" then (if bs.sum>=2 then 1 else 0)
 else if w = "not" then (if bs.sum=0 then 1 else 0)
 else if w = "one" then 1 else 0
def nS (i:Int):Prop:=i=0\/i=1
theorem Ma (w:Af) (bs:Aa Int):nS (qH w bs):=by
 unfold qH nS;have:=dJ bs.sum (show (2:Int)≠0 by decide);have:=cP bs.sum (show (0:Int)<2 by decide)
 repeat' split
 all_goals omega
theorem Kw:∀ {bs:Aa Int},(∀ b∈bs,nS b)->0<=bs.sum/\bs.sum<=bs.length
 | [],_=>by simp
 | b::r,h=>by
  have a:=h b aH;have d:=Kw λx c=>h x (aQ _ c)
  simp only[fL,bS];unfold nS at a;omega
theorem Tt:∀ {bs:Aa Int},(∀ b∈bs,b=1)->bs.sum=bs.length
 | [],_=>by simp
 | b::r,h=>by
  have c:=h b aH;have d:=Tt λx a=>h x (aQ _ a)
  simp only[fL,bS];omega
theorem Pq:∀ {bs:Aa Int},(∀ b∈bs,nS b)->(0:Int)∈bs->bs.sum<bs.length
 | [],_,h=>by simp at h
 | b::r,h,d=>by
  have c:=h b aH;have a:∀ x∈r,nS x:=λx f=>h x (aQ _ f)
  have i:=Kw a;simp only[fL,bS];unfold nS at c;rcases aK.mp d with e | e
  .omega
  .have:=Pq a e;omega
theorem Xb:∀ {bs:Aa Int},(∀ b∈bs,nS b)->(1:Int)∈bs->0<bs.sum
 | [],_,h=>by simp at h
 | b::r,h,d=>by
  have c:=h b aH;have a:∀ x∈r,nS x:=λx f=>h x (aQ _ f)
  have i:=Kw a;simp only[fL];unfold nS at c;rcases aK.mp d with e | e
  .omega
  .have:=Xb a e;omega
theorem Vt:∀ {bs:Aa Int},(∀ b∈bs,b=0)->bs.sum=0
 | [],_=>by simp
 | b::r,h=>by
  have c:=h b aH;have d:=Vt λx a=>h x (aQ _ a)
  simp only[fL];omega
theorem LF {bs:Aa Int}{m:Int}(g:∀ b∈bs,nS b) (j:m∈bs) (l:∀ a∈bs,m<=a):m=if bs.sum=bs.length then 1 else 0:=by
 rcases g m j with e | e
 .subst e;have:=Pq g j;rw[aJ (by omega)]
 .subst e;have:∀ b∈bs,b=1:=λb c=>by
   have:=l b c;rcases g b c with q | q<;>omega
  rw[aO (Tt this)]
theorem MP {bs:Aa Int}{m:Int}(g:∀ b∈bs,nS b) (j:m∈bs) (l:∀ a∈bs,a<=m):m=if bs.sum>0 then 1 else 0:=by
 rcases g m j with e | e
 .subst e;have:∀ b∈bs,b=0:=λb c=>by
   have:=l b c;rcases g b c with q | q<;>omega
  have:=Vt this;rw[aJ (by omega)]
 .subst e;have:=Xb g j;rw[aO (by omega)]
def vU (j:Af->Int):Aa (Af×Af×Aa Af)->Af->Int
 | []=>j
 | g::r=>vU (λx=>if x=g.1 then qH g.2.1 (g.2.2.map j) else j x) r
def Sx (j:Af->Int) (g:Af×Af×Aa Af):Af->Int:=λx=>if x=g.1 then qH g.2.1 (g.2.2.map j) else j x
theorem Ku:∀ (l:Aa (Af×Af×Aa Af)) (j:Af->Int) (g:Af×Af×Aa Af),vU j (l++[g])=Sx (vU j l) g
 | [],j,g=>rfl
 | a::r,j,g=>Ku r _ g
def sW (C:Cel) (g:Af->Int):Af->Int:=vU g C.gates
theorem oR.at:∀ {kn:Aa Af}{i:Nat}{g:Af×Af×Aa Af},oR kn j->j[i]?=some g->ArOk g.2.1 g.2.2.length/\∀ p∈g.2.2,p∈kn++(j.take i).map (·.1):=by
 induction j with
 | nil=>intro kn i g _ h;simp at h
 | cons a r c =>
  intro kn i g h e;cases i with
  | zero=>simp at e;subst e;exact⟨h.1,by simpa using h.2.1⟩
  | succ i =>
   have:=c (kn:=kn++[a.1]) (i:=i) (g:=g) h.2.2 (by simpa using e);refine⟨this.1,λp b=>?_⟩;have q:=this.2 p b
   simpa using q
theorem NL (h:ArOk w n) (g:¬ w = "and") (j:¬ w = "or") (l:¬ w = "odd") (o:¬ w = "most") (p:¬ w = "not"):w = "one" \/ w = "nil" := by
 rcases h.ok with⟨q,_⟩ | ⟨q,_⟩ | ⟨q,_⟩ | ⟨q,_⟩ | ⟨q,_⟩
 .unfold vM at q;simp only[aK,bD,eZ] at q;rcases q with e | e | e
  .exact absurd e g
  .exact absurd e j
  .exact absurd e l
 .exact absurd q o
 .exact absurd q p
 .exact .inl q
 .exact .inr q
theorem U1 (h:ArOk w n) (g:w = "and" \/ w = "or"):2<=n:=by
 rcases h.ok with⟨_,q | q⟩ | ⟨q,_⟩ | ⟨q,_⟩ | ⟨q,_⟩ | ⟨q,_⟩
 .omega
 .omega
 all_goals (rcases g with e | e<;>(rw[e] at q;exact absurd q (by decide +kernel)))
theorem EF (h:ArOk "not" n):n=1:=by
 rcases h.ok with⟨q,_⟩ | ⟨q,_⟩ | ⟨_,q⟩ | ⟨q,_⟩ | ⟨q,_⟩
 .exact absurd q (by decide +kernel)
 .exact absurd q (by decide +kernel)
 .exact q
 .exact absurd q (by decide +kernel)
 .exact absurd q (by decide +kernel)
structure GC (C:Cel):Prop where
 nd:C.names.Nodup
 gt:oR C.ins C.gates
 os:∀ o∈C.outs,o∈C.names
 ond:C.outs.Nodup
 li:C.ins.length<=40
 lg:C.gates.length<=40
 lo:C.outs.length<=40
def sU (g:Aa (gD×D)) (l:Aa Af) (j:Af->Int):Prop:=∀ x∈l,mR g (Sum.inr x)=some (.int (j x))/\nS (j x)
theorem sU.step (h:sU g j o) (l:nS v) (p:n∉j):sU (nM g (Sum.inr n) (.int v)) (j++[n]) (λx=>if x=n then v else o x):=by
 intro x a;dsimp only;rw[F6];by_cases e:x=n
 .subst e;rw[aO rfl,aO rfl];exact⟨rfl,l⟩
 .rw[aJ (λz=>e (fY z).symm),aJ e];rcases aV.mp a with q | q
  .exact h x q
  .exact absurd (aX.mp q) e
def Jt:RD:=λe c d=>∃ (a:Af) (bs:Aa Int),c=[.str a,.l (bs.map D.int)]/\(∀ b∈bs,nS b)/\ArOk a bs.length/\d (.v (.int (qH a bs)))
def OB (g:Aa (gD×D)) (j:Aa Af):Prop:=∀ x∈j,∃ d,mR g (Sum.inr x)=some d
def Wh:RD:=λf c d=>∃ (b:Aa Af) (a:Aa (gD×D)),(c=[.t (b.map D.str),.k a]\/c=[.l (b.map D.str),.k a])/\OB a b/\d (.v .e)
def Wl:RD:=λe c d=>∃ (C:Cel) (a:Aa (gD×D)) (b:Af->Int),c=[sG C,.k a]/\GC C/\sU a C.ins b/\d (.v (.t (C.outs.map λo=>D.int (sW C b o))))
theorem N4 {g:Type} [DecidableEq g] {a b:g}{p q:Prop}(j:a=b->p) (l:¬ a=b->q):if (nb false (decide (a=b)))=true then p else q:=by
 by_cases e:a=b
 .rw[aO (by simp[nb,e])];exact j e
 .rw[aJ (by simp[nb,e])];exact l e
theorem RN {c:Prop} [Decidable c] {p q:Prop}(g:c->p) (j:¬ c->q):if (decide c)=true then p else q:=by
 by_cases e:c
 .rw[aO (bJ e)];exact g e
 .rw[aJ (by simp[e])];exact j e
theorem Fi (h:g.length<100000):sC (.k g) (.str x) d=some (.k (nM g (Sum.inr x) d)):=by
 simp only[sC,aO h];rfl
theorem Ds (t:nB):(gV t).length=t.length:=by simp[gV]
theorem CH (h:i<=60):(0:Int)<2 ^ i/\(2:Int) ^ i<2 ^ 64:=by
 have a:(2:Int) ^ i=((2 ^ i:Nat):Int):=by norm_cast
 have b:2 ^ i<2 ^ 64:=Nat.pow_lt_pow_right (by decide) (by omega);have c:0<2 ^ i:=Nat.two_pow_pos i;rw[a];omega
theorem LZ:(["name","bits"]:Aa Af).Nodup:=by decide +kernel
theorem BQ:(["known","told"]:Aa Af).Nodup:=by decide +kernel
theorem Yn:(["name","told"]:Aa Af).Nodup:=by decide +kernel
section
variable {P:Ah}{K:mI}
theorem JM:FnScope ["word","bits"] ["word","bits"] (nF Ka):=oM
theorem MN (T:Txt j):oK P w K j base 1 "gate_bit" Ka ["word","bits"] Jt:=by
 refine oS JM λf S A M s H E n p c h Z Y=>?_
 obtain⟨k,bs,rfl,B,ok,G⟩:=Y;have fin:∀ z:Int,z=qH k bs->c (.v (.int z)):=λz e=>by rw[e];exact G
 have a:=Ox bs;have st:∀ (e:Af) (t u:qS),(k=e->t n { nx:=λ_=>c (.v .e),rt:=c } [.v (.str k),.v (.l (bs.map D.int))])->(¬ k=e->u n { nx:=λ_=>c (.v .e),rt:=c } [.v (.str k),.v (.l (bs.map D.int))]) ->
   (∀ N O R,N.rt=O.rt->t n N R->t n O R)->Gm (Og (C5 (yQ (O4 false) 0 (cd (.str e)))) t O5) u n { nx:=λ_=>c (.v .e),rt:=c } [.v (.str k),.v (.l (bs.map D.int))]:=λe t u V W X =>
  ⟨rfl,N4 (λz=>X { nx:=λ_=>c (.v .e),rt:=c } _ _ rfl (V z)) λz=>W z⟩
 refine⟨_,(hO (qU (pY (rD h.units) (pN false) (pv 0) mW) (mQ (nO (oJ (Mb rfl) Nj T.min iJ (dK (dT 1) eA)))) qY) (hO (qU (pY (rD h.units) (pN false) (pv 0) mW) (mQ (nO (oJ (Zn rfl) DP T.max PyProof.Rows.boot_max (dK (dT 1) eA)))) qY) (hO (qU (pY (rD h.units) (pN false) (pv 0) mW) (mQ (nO (nG tD Hz (oJ (Ia rfl) M6 T.sum iH (dK (dT 1) eA)) hL))) qY) (hO (qU (pY (rD h.units) (pN false) (pv 0) mW) (mQ (nO (Qc (Bf U2 Rt (oJ (Ia rfl) M6 T.sum iH (dK (dT 1) eA)) hL) hL hL))) qY) (hO (qU (pY (rD h.units) (pN false) (pv 0) mW) (mQ (nO (nG vR wO hL (mP Z 1 hL)))) qY) (mQ (nO (Qc (pY (rD h.units) (pN false) (pv 0) mW) hL hL)))))))),?_⟩;refine st _ _ _ (λe=>⟨bs,a,?_,λm F y=>fin m ?_⟩) (λd=>?_) (λ_ _ _ e=>by unfold qX;rw[e];exact id)
 .have:=U1 ok (.inl e);intro z;rw[z] at this;simp at this
 .rw[LF B F y];unfold qH;rw[if_pos e]
 refine st _ _ _ (λe=>⟨bs,a,?_,λm F y=>fin m ?_⟩) (λi=>?_) (λ_ _ _ e=>by unfold qX;rw[e];exact id)
 .have:=U1 ok (.inr e);intro z;rw[z] at this;simp at this
 .rw[MP B F y];unfold qH;rw[if_neg d,if_pos e]
 refine st _ _ _ (λe=>⟨bs,a,by show (0:Int)<2;decide,fin _ ?_⟩) (λx=>?_) (λ_ _ _ e=>by unfold qX;rw[e];exact id)
 .unfold qH;rw[if_neg d,if_neg i,if_pos e]
 refine st _ _ _ (λe=>⟨bs,a,RN (λz=>fin _ ?_) (λz=>fin _ ?_)⟩) (λL=>?_) (λ_ _ _ e=>by unfold qX;rw[e];exact id)
 .unfold qH;rw[if_neg d,if_neg i,if_neg x,if_pos e,if_pos z]
 .unfold qH;rw[if_neg d,if_neg i,if_neg x,if_pos e,if_neg z]
 refine st _ _ _ (λe=>?_) (λQ=>?_) (λ_ _ _ e=>by unfold qX;rw[e];exact id)
 .subst e;have g:=EF ok;obtain⟨b,rfl⟩:∃ b,bs=[b]:=by
   match bs,g with
   | [b],_=>exact⟨b,rfl⟩
  refine⟨rfl,.int b,rfl,fin _ ?_⟩;have:=B b (by simp);unfold qH;rw[aJ d,aJ i,aJ x,aJ L,aO rfl];rcases this with q | q<;>subst q<;>simp
 refine⟨rfl,N4 (λe=>fin _ ?_) λo=>fin _ ?_⟩
 .unfold qH;rw[if_neg d,if_neg i,if_neg x,if_neg L,if_neg Q,if_pos e]
 .unfold qH;rw[if_neg d,if_neg i,if_neg x,if_neg L,if_neg Q,if_neg o]
theorem Wp:FnScope ["names","given","name"] ["names","given"] (nF Jl):=oM
theorem Xz (j:H b=some (.k g)) (l:rW g (Sum.inr x)=some v):tA H b (.str x) (some v):=by
 have:=tA.k (k:=(Sum.inr x:gD)) j
 rwa [l] at this
theorem Rx {g:Aa Af}{i:Nat}{x:V}(h:(g.map V.str)[i]?=some x):∃ y,g[i]?=some y/\V.str y=x:=by
 rw[aW] at h;cases e:g[i]? with
 | none=>rw[e] at h;cases h
 | some y=>rw[e] at h;exact⟨y,rfl,bK h⟩
theorem RO (F:Fun K "check_there" "check_there" Jl f fd):FnOk P w K mg base pE 1 f fd ["names","given"] (yE K Wh):=by
 refine F.ok Wp (λg H Q E O=>by obtain⟨l,A,o,Φ,D,C,r,⟨m,S,e,_⟩,Y⟩:=O;rw[<- r.length];rcases e with e | e<;>rw[e]<;>rfl) (λj A W s H g Q E I O=>?_);obtain⟨l,A1,o,Φ,D,C,r,⟨m,S,e,J,R⟩,Y⟩:=O;have T:=Mz I;obtain⟨c,b,u,rfl,q,B,G⟩:∃ c b u,g=[.ref c,.ref b]/\(mL K H c (m.map V.str)\/nP K H c (m.map V.str))/\H b=some (.k u)/\∀ x∈m,∃ v,rW u (Sum.inr x)=some v:=by
  rcases e with e | e<;>subst e
  all_goals (
   cases r with
   | cons Z r =>
    cases r with
    | cons U r =>
     cases r;obtain⟨b,u,rfl,_,B,p,r3⟩:=U.dK_inv;have G:∀ x∈m,∃ v,rW u (Sum.inr x)=some v:=λx L=>by
      obtain⟨d,hd⟩:=J x L;obtain⟨v,z,_⟩:=(Gi p r3 (Sum.inr x)).1 d hd;exact⟨v,z⟩
     first
     | (obtain⟨c,us,rfl,z,X⟩:=Z.tup_inv;have:=Oo (Jw m) X;subst this;exact⟨c,b,u,rfl,.inr (nP.of z),B,G⟩)
     | (obtain⟨c,us,rfl,_,z,X⟩:=Z.lst_inv;have:=Oo (Jw m) X;subst this;exact⟨c,b,u,rfl,.inl (mL.of z),B,G⟩))
 have fin:Q .e H:=Y (.v .e) .e H R (λ_ _ e _=>e) D .e;refine⟨_,sD (Bc eF rfl (Qg (pv 0)) (wS (i:=2) Wp.nd rfl (Or.inl rfl)) (sD (A4 (QS (JK T (pv 2) (pv 1))) (sD FD) C8))),?_⟩;refine⟨_,rfl,?_⟩;rcases q with q | q
 .refine .inl ⟨c,rfl,⟨_,q⟩,?_⟩;refine KD (K:=K) (a:=c) (xs:=m.map V.str) (λi n h=>h=H/\∃ M,n=[some (.ref c),some (.ref b),M]) ⟨rfl,none,rfl⟩ (λi n h _ ⟨e,_⟩=>by rw[e];exact q) ?_ ?_
  .rintro i x n h L ⟨rfl,M,rfl⟩;obtain⟨y,N,rfl⟩:=Rx L;obtain⟨v,t⟩:=G y (aF N);exact⟨_,rfl,_,rfl,b,_,rfl,Xz B t,_,rfl,rY ⟨rfl,_,rfl⟩⟩
  .rintro n h ⟨rfl,_⟩;exact fin
 .refine .inr (.inl ⟨c,rfl,⟨_,q⟩,?_⟩);refine NA (K:=K) (a:=c) (xs:=m.map V.str) (λi n h=>h=H/\∃ M,n=[some (.ref c),some (.ref b),M]) ⟨rfl,none,rfl⟩ (λi n h _ ⟨e,_⟩=>by rw[e];exact q) ?_ ?_
  .rintro i x n h L ⟨rfl,M,rfl⟩;obtain⟨y,N,rfl⟩:=Rx L;obtain⟨v,t⟩:=G y (aF N);exact⟨_,rfl,_,rfl,b,_,rfl,Xz B t,_,rfl,rY ⟨rfl,_,rfl⟩⟩
  .rintro n h ⟨rfl,_⟩;exact fin
theorem Ea:FnScope ["cell","bits","told","name","word","names"] ["cell","bits"] (nF Hi):=oM
theorem BP (T:Txt mg) (l:Kn P w K mg base 1 "check_there" Jl ["names","given"] Wh) (I:Kn P w K mg base 1 "gate_bit" Ka ["word","bits"] Jt)
: oK P w K mg base 2 "told_by" Hi ["cell","bits"] Wl:=by
 refine oS Ea λf ae A ac s H E dk ds Φ hr G hR=>?_
 obtain⟨C,y,m,rfl,L,U,aa⟩:=hR;have li:=L.li;have lg:=L.lg;have O:C.ins.Nodup:=(bE.mp L.nd).1;refine⟨_,(hO (sM (mU l hr (dK (mP G 0 hL) (dK (dT 1) eA)))) (hO (mS 2 Ea.nd (nZ (uU rfl) uS T.dict bZ (dK (oZ ["name"] ["bits"] [1] (nN (mP G 0 hL)) (λ_ _ _ _ _=>(mM 0 LZ)) (λ_ _ _ _ _=>(oN (dK (dT 0) (dK (mP G 1 (dT 0)) eA))))) eA))) (hO (oW (nN (mP G 0 hL)) (qR (n:=3) rfl (nE (mM 3 Ea.nd) (nE (mM 4 Ea.nd) (nE (mM 5 Ea.nd) pD)))) (mQ (uI (n:=2) G (mU I hr (dK (dT 4) (dK (oZ ["known"] ["told"] [2] (nN (dT 5)) (λ_ _ _ _ _=>(mM 0 BQ)) (λ_ _ _ _ _=>(mP G 1 (dT 0)))) eA))) (pv 2) (dT 3)))) (mQ (nO (nZ uR uZ T.tuple cB (dK (oZ ["name"] ["told"] [2] (nN (mP G 0 hL)) (λ_ _ _ _ _=>(mM 0 Yn)) (λ_ _ _ _ _=>(mP G 1 (dT 0)))) eA))))))),?_⟩;refine⟨rfl,_,rfl,C.ins,y,.inl rfl,λx M=>⟨_,(U x M).1⟩,.inl rfl,?_⟩;dsimp only;refine mK (λc=>c=[.v (sG C),.v (.k y),.o (.k (gV (C.ins.map λn=>(n,m n)))),.n,.n,.n]) (λN hN=>?_) ?_
 .unfold qN dC aC;refine pL C.ins D.str (λn=>.t [.str n,.int (m n)]) _ (λΨ h=>⟨rfl,_,rfl,h⟩) (by omega) (λi n ys Nx e V W=>?_) ?_
  .refine⟨rfl,.int (m n),?_,by show 2<=1000;decide,V,W⟩;show some (mR y (Sum.inr n))=_;rw[(U n (aF e)).1]
  have e0:vP (C.ins.map λn=>D.t [.str n,.int (m n)])=some (gV (C.ins.map λn=>(n,m n))):=by
   rw[Cm (g:=λn=>((Sum.inr n:gD),D.int (m n))) (λn=>⟨.str n,rfl,rfl⟩)];simp[gV]
  refine⟨_,e0,by simp[gV];omega,?_⟩;rw[xL (by simpa [dP] using O)];exact hN _ rfl
 rintro _ rfl;have h0:sU (gV (C.ins.map λn=>(n,m n))) C.ins m:=λx M=>by
  refine⟨?_,(U x M).2⟩;have hm:x∈(C.ins.map λn=>(n,m n)).map (·.1):=by simpa [dP] using M
  rw[(tX _ x).1 hm]
  congr 2
  clear hm;revert M;generalize C.ins=xs;induction xs with
  | nil=>intro h;simp at h
  | cons a r ih =>
   intro h;rw[aP,wM];by_cases q:a=x
   .rw[aO q,q]
   .rw[aJ q];rcases aK.mp h with z | z
    .exact absurd z.symm q
    .exact ih z
 refine mK (λc=>∃ (d:Aa (gD×D)) (Q R S:Sl),c=[.v (sG C),.v (.k y),.o (.k d),Q,R,S]/\sU d C.names (sW C m)) (λN hN=>?_) ?_
 .refine oV (C.gates.map oA) _ (λΨ h=>⟨rfl,_,rfl,h⟩)
   (λi c=>∃ (d:Aa (gD×D)) (Q R S:Sl),c=[.v (sG C),.v (.k y),.o (.k d),Q,R,S]/\sU d (C.ins++(C.gates.take i).map (·.1)) (vU m (C.gates.take i))/\d.length<=40+i) ⟨_,.n,.n,.n,rfl,by simpa [vU] using h0,by rw[Ds,aA];omega⟩ ?_ ?_
  .rintro i x c M ⟨d,Q,R,S,rfl,F,hl⟩;obtain⟨g,B,rfl⟩:=pR M;obtain⟨X,J⟩:=L.gt.at B;have hi:i<C.gates.length:=(aL.mp B).1;have Z:g.1∉C.ins++(C.gates.take i).map (·.1):=λq=>by
    have nd:(C.ins++C.gates.map (·.1)).Nodup:=L.nd;have e:C.gates=C.gates.take i++g::C.gates.drop (i+1):=by
     obtain⟨hi,rfl⟩:=aL.mp B;rw[jS,eR]
    rw[e,aM,<- bP] at nd;exact (bE.mp nd).2.2 g.1 q g.1 (by simp) rfl
   have tk:C.gates.take (i+1)=C.gates.take i++[g]:=by rw[bM,B];rfl
   generalize ab:vU m (C.gates.take i)=u at F;have Y:∀ p∈g.2.2,nS (u p):=λp hp=>(F p (J p hp)).2
   refine⟨rfl,rfl,?_⟩;unfold Nm E4 aC vd;simp only[lF,List.set_cons_zero,List.getElem?_cons_succ,List.getElem?_cons_zero];refine pL g.2.2 D.str (λo=>.int (u o)) _ (λΨ h=>h) (by rcases X.ok with⟨_,q | q⟩ | ⟨_,q⟩ | ⟨_,q⟩ | ⟨_,q⟩ | ⟨_,q⟩<;>omega) (λj o ys Nx e V W=>?_) ?_
   .refine⟨rfl,.int (u o),?_,V,W⟩;show some (mR d (Sum.inr o))=_;rw[(F o (J o (aF e))).1]
   refine⟨g.2.1,g.2.2.map u,by rw[aR];rfl,(λb hb=>by obtain⟨p,hp,rfl⟩:=aN.mp hb;exact Y p hp),by rw[aA];exact X,.inl rfl,rfl,_,Fi (by omega),nM d (Sum.inr g.1) (.int (qH g.2.1 (g.2.2.map u))),_,_,_,rfl,?_,?_⟩
   .rw[tk,Ku,ab,aM,<- bP];exact F.step (Ma _ _) Z
   .have:=Fv d (Sum.inr g.1:gD) (.int (qH g.2.1 (g.2.2.map u)));omega
  .rintro c ⟨d,Q,R,S,rfl,F,hl⟩;rw[aA,bL (aU _)] at F;exact hN _ ⟨d,Q,R,S,rfl,F⟩
 rintro _ ⟨d,Q,R,S,rfl,F⟩;unfold qX dC aC;have lo:=L.lo;refine pL C.outs D.str (λo=>.int (sW C m o)) _ (λΨ h=>⟨rfl,_,rfl,h⟩) (by omega) (λj o ys Nx e V W=>?_) aa;refine⟨rfl,.int (sW C m o),?_,V,W⟩;show some (mR d (Sum.inr o))=_;rw[(F o (L.os o (aF e))).1]
end
theorem F7 (g:Aa Af):rK (g.map D.str)=some (g.map V.str):=Dg (λ_=>rfl) g
theorem Fb:∀ g:Aa Af,uY (.str x) (g.map V.str)=decide (x∈g)
 | []=>by simp[uY]
 | y::g=>by
  have a:=Fb (x:=x) g;unfold uY at a |-;rw[aP,eU,a];by_cases e:x=y
  .subst e;have:qI (V.str x) (V.str x)=true:=hU x;simp[this]
  .have:qI (V.str y) (V.str x)=false:=by
    show (y == x)=false;exact cQ.mpr λz=>e z.symm
   have:qI (V.str x) (V.str y)=false:=by
    show (x == y)=false;exact cQ.mpr e
   simp[*]
theorem K9 {v:Af->Int}{o:Af}:∀ {os:Aa Af},o∈os->look (os.map λx=>(x,v x)) o=v o
 | [],h=>by simp at h
 | a::r,h=>by
  rw[aP,wM];by_cases q:a=o
  .rw[aO q,q]
  .rw[aJ q];rcases aK.mp h with z | z
   .exact absurd z.symm q
   .exact K9 z
theorem wT {p q:Prop}{c:Bool}(h:c=false) (g:q):if c=true then p else q:=by rw[aJ (by rw[h];decide)];exact g
theorem Io {p q:Prop}{c:Bool}(h:c=true) (g:p):if c=true then p else q:=by rw[aO h];exact g
theorem Xl:∀ (l:Aa (Af×Af×Aa Af)) (j:Aa Af) (o:Af->Int),(∀ x∈j,nS (o x))->∀ x∈j++l.map (·.1),nS (vU o l x)
 | [],j,o,h,x,a=>h x (by simpa using a)
 | g::l,j,o,h,x,a=>by
  refine Xl l (j++[g.1]) _ (λy b=>?_) x (by simpa using a);by_cases e:y=g.1
  .show nS (if y=g.1 then _ else _);rw[aO e];exact Ma _ _
  .show nS (if y=g.1 then _ else _);rw[aJ e];rcases aV.mp b with z | z
   .exact h y z
   .exact absurd (aX.mp z) e
theorem Ij (g:GC C) (h:∀ x∈C.ins,nS (j x)):∀ o∈C.outs,nS (sW C j o):=λo a=>Xl C.gates C.ins j h o (g.os o a)
noncomputable def sN (f:Nat->Int):Nat->Int
 | 0=>0
 | n+1=>sN f n+f n
theorem Vu:∀ n,(∀ i,i<n->f i=g i)->sN f n=sN g n
 | 0,_=>rfl
 | n+1,h=>by
  show sN f n+f n=sN g n+g n;rw[Vu n λi a=>h i (by omega),h n (by omega)]
theorem Jf:(["output","name"]:Aa Af).Nodup:=by decide +kernel
theorem Qt:(["name","carried"]:Aa Af).Nodup:=by decide +kernel
def nH (C:Cel) (g:Aa (Af×Af)):D:=.t [sG C,.t (g.map λp=>D.t [.str p.1,.str p.2])]
noncomputable def hI (C:Cel) (g:Aa (Af×Af)):Aa Af:=C.ins.filter λx=>!decide (x∈g.map (·.2))
noncomputable def mZ (C:Cel) (g:Aa (Af×Af)):Aa Af:=C.outs.filter λx=>!decide (x∈g.map (·.1))
def Gr:RD:=λd b c=>∃ C a,b=[nH C a]/\a.length<=100/\c (.o (.l (a.map λp=>D.str p.2)))
def Ld:RD:=λd b c=>∃ C a,b=[nH C a]/\a.length<=100/\C.ins.length<=100/\c (.o (.l ((hI C a).map D.str)))
def Uz:RD:=λd b c=>∃ C a,b=[nH C a]/\a.length<=100/\C.outs.length<=100/\c (.o (.l ((mZ C a).map D.str)))
section
variable {P:Ah}{K:mI}
theorem IP:FnScope ["row"] ["row"] (nF Cj):=oM
theorem Vg:FnScope ["row","carried"] ["row"] (nF Es):=oM
theorem X2:FnScope ["row","carried"] ["row"] (nF Jg):=oM
theorem KI:oK P w K g base 1 "carried_inputs" Cj ["row"] Gr:=by
 refine oS IP λf d A b s H E x y G z u q=>?_
 obtain⟨C,c,rfl,B,a⟩:=q;refine⟨_,(mQ (nO (oZ ["output","name"] [] [] (nN (mP u 0 hL)) (λ_ _ _ _ _=>(qR (n:=2) rfl (nE (mM 0 Jf) (nE (mM 1 Jf) pD)))) (λ_ _ _ _ _=>(dT 1))))),?_⟩;unfold qX;exact pL c (λp=>D.t [.str p.1,.str p.2]) (λp=>D.str p.2) _ (λL h=>⟨rfl,_,rfl,h⟩) (by omega) (λi p F v e k m=>⟨rfl,rfl,k,m⟩) a
theorem Yx (g:Kn P w K j base 1 "carried_inputs" Cj ["row"] Gr):oK P w K j base 2 "word_inputs" Es ["row"] Ld:=by
 refine oS Vg λf k A d s H E L M R z b y=>?_
 obtain⟨C,a,rfl,B,O,c⟩:=y;refine⟨_,(hO (mS 1 Vg.nd (mU g z (dK (dT 0) eA))) (mQ (nO (oZ ["name"] ["carried"] [1] (nN (qP b (mP b 0 hL) hL)) (λ_ _ _ _ _=>(mM 0 Qt)) (λ_ _ _ _ _=>(dT 0)) (ht:=λ_ _ _ _ _=>(Au (Dp (Fm b) (Dc true) (dT 0) (pv 1)))))))),?_⟩;refine mK (λF=>F=_) (λN v=>⟨C,a,rfl,B,.inl rfl,v _ rfl⟩) ?_;rintro _ rfl;unfold qX;refine yP C.ins D.str D.str (λx=>!decide (x∈a.map λp:Af×Af=>p.2)) _ (λS h=>⟨rfl,_,rfl,_,rfl,h⟩) (by omega) (λi x Q G e n t u=>?_) c;have m:(a.map λp=>D.str p.2)=(a.map (·.2)).map D.str:=by rw[aR];rfl
 refine⟨.str x,(a.map (·.2)).map V.str,rfl,by rw[m];exact F7 _,?_⟩;rw[Fb];show if (!decide (x∈a.map (·.2)))=true then _ else _
 by_cases q:x∈a.map (·.2)
 .exact wT (by rw[bJ q];rfl) (u (by rw[bJ q];rfl))
 .exact Io (by rw[bG q];rfl) ⟨n,t (by rw[bG q];rfl)⟩
theorem DY:oK P w K g base 1 "word_outputs" Jg ["row"] Uz:=by
 refine oS X2 λf y A m s H E Q R Y S b G=>?_
 obtain⟨C,a,rfl,X,W,k⟩:=G;refine⟨_,(hO (mS 1 X2.nd (oZ ["output","name"] [] [] (nN (mP b 0 hL)) (λ_ _ _ _ _=>(qR (n:=2) rfl (nE (mM 0 Jf) (nE (mM 1 Jf) pD)))) (λ_ _ _ _ _=>(dT 0)))) (mQ (nO (oZ ["name"] ["carried"] [1] (nN (qP b (mP b 0 hL) hL)) (λ_ _ _ _ _=>(mM 0 Qt)) (λ_ _ _ _ _=>(dT 0)) (ht:=λ_ _ _ _ _=>(Au (Dp (Fm b) (Dc true) (dT 0) (pv 1)))))))),?_⟩;refine mK (λO=>O=[.v (nH C a),.o (.l (a.map λp=>D.str p.1))]) (λN F=>?_) ?_
 .unfold qN;exact pL a (λp=>D.t [.str p.1,.str p.2]) (λp=>D.str p.1) _ (λM h=>⟨rfl,_,rfl,h⟩) (by omega) (λi p L u e c d=>⟨rfl,rfl,c,d⟩) (F _ rfl)
 rintro _ rfl;unfold qX;refine yP C.outs D.str D.str (λx=>!decide (x∈a.map λp:Af×Af=>p.1)) _ (λM h=>⟨rfl,_,rfl,_,rfl,h⟩) (by omega) (λi x L u e c d B=>?_) k;have z:(a.map λp=>D.str p.1)=(a.map (·.1)).map D.str:=by rw[aR];rfl
 refine⟨.str x,(a.map (·.1)).map V.str,rfl,by rw[z];exact F7 _,?_⟩;rw[Fb];show if (!decide (x∈a.map (·.1)))=true then _ else _
 by_cases q:x∈a.map (·.1)
 .exact wT (by rw[bJ q];rfl) (B (by rw[bJ q];rfl))
 .exact Io (by rw[bG q];rfl) ⟨c,d (by rw[bG q];rfl)⟩
end
end Lw
namespace L2
open PySem PySem.Spec PyProof.Rows Lw
section
variable {X:Cx}
variable {st:Expr}
def Ys (K:mI) (g j:TE):TE:=λd H Q=>g d H λx e=>j d e λy b=>∃ (a:Ad) (c:Aa V),x = .ref a/\y = .int (-1)/\mL K b a c/\∀ p,b p=none->Q (.ref p) (upd b p (.l c.reverse))
theorem DK (j:PE X e C) (g:PE X st J):PE X (.Subscript e (.Slice none none (some st) p) pos) (Ys X.K C J):=by
 intro c s i H Q I h;refine Subscript_ (mV (j c s i H _ I h) λv S f=>?_);obtain⟨x,B,E,P,N⟩:=f;refine wpAny_Slice ?_;rw[evalPart_none];refine aI (aI ?_);rw[evalPart_some];refine mV (g c S i B _ E N) λV d f=>?_
 obtain⟨y,D,F,R,O⟩:=f;obtain⟨a,z,rfl,rfl,G,q⟩:=O;cases P;obtain⟨t,rfl⟩:=R;have k:Inv X c i D { d with heap:=d.heap.push { cls:=.type "slice",data:=.fields #[.none,.none,.int (-1) t] } }:=F.kept (t':=d.toks) λb M q=>aG _ q
 obtain⟨m,r,u,L⟩:=k.list G;have n:m.length=z.length:=r.length.symm;show wpAny (model X.prog X.w) X.A (subscriptTail e (.Slice none none (some st) p) (.ref a) (.ref d.heap.objs.size)) (EP X c i Q) X.xe { d with heap:=d.heap.push { cls:=.type "slice",data:=.fields #[.none,.none,.int (-1) t] } };refine tail_any (ops:=[.ref a,.ref d.heap.objs.size]) u.isList.typeIs slot_list_getitem.lookup ?_ (by with_unfolding_all rfl);refine wpAny_getItem_list_slice u.isList (Heap.IsSliceOf.new ..) .none .none (.int (-1) t) (by decide) ?_ (by rw[aY];omega);rw[PySem.W.krv_pick];refine⟨.ref _,_,k.laid (t':=d.toks) (o:=.l z.reverse) (λb M q=>aG _ q) (aU _) ?_,rfl,q _ (k.hok.fresh (aU _))⟩;exact⟨by rw[kW];exact L,_,0,mY.reverse r,bA _ rfl⟩
end
section
variable {X:Cx}{K:mI}{st:Expr}
def OU (g j:nL):nL:=λc i h=>g c i λd a=>match sd d with
 | some (.l f)=>j c a λe b=>e = .v (.int (-1))/\h (.o (.l f.reverse)) b
 | _=>False
theorem QG (g:PD X e l) (j:PD X st o):PD X (.Subscript e (.Slice none none (some st) C) pos) (OU l o) :=
 (DK g j).mono λR H Q f=>f.elim λB G T P s hd u k=>⟨B,G,T,_,s,hd,u,λq m x L v d1 b=>by
  cases c:sd q with
  | none=>rw[c] at b;exact b.elim
  | some d =>
   rw[c] at b;cases d<;>first | exact False.elim b | skip
   rename_i O
   refine⟨B,m,(q,some x)::T,_,v,d1,b,λN n y M w d2 i=>?_⟩;obtain⟨z,A⟩:=i;subst z;obtain rfl:=d2.valAt.int_inv;obtain⟨E,F⟩:=d2.drop.one c;obtain⟨a,D,rfl,h,r⟩:=F.peek.lst_inv;exact⟨a,D,rfl,rfl,mL.of h,λp t=>k _ n _ _ w (E.lstF t r.reverse).mid A⟩⟩
end
end L2
namespace PySem
open PyProof.Rows L2
section
theorem EH (j:s.heap.IsList l items) (q:Q false s):wpAny (model g w) A (notIterableAtAll (.ref l)) Q E s:=by
 have has:wpAny (model g w) A (specialOf (.ref l) "__iter__") (λr a=>r.isSome=true/\a=s) E s :=
  aB (fH j.typeIs (hX F.slot_list_iter.lookup ⟨rfl,rfl⟩))
 unfold notIterableAtAll;refine aB (mV has ?_);rintro r _ ⟨e,rfl⟩;rw[aO e];exact aI q
theorem Ue (g:l≠j):∀ (n i:Nat) (s:Ae) (Q:Aa Ac->Ae->Prop),s.heap.IsListIter j l i->s.heap.IsList l items->i+n<=items.size ->
  (∀ p,p.IsListIter j l (i+n)->(∀ b,b≠j->p.get? b=s.heap.get? b)->Q ((items.toList.drop i).take n) { s with heap:=p })->wpAny (model r w) A (draw (.ref j) n) Q E s
 | 0,i,s,Q,hit,_,_,q=>aI (q s.heap hit λ_ _=>rfl)
 | n+1,i,s,Q,hit,d,le,q=>by
  have lt:i<items.size:=by omega
  have this:items[i]?=some items[i]:=cI lt;have parts:items.toList.drop i=items[i]::items.toList.drop (i+1):=by
   rw[iX (by simpa using lt)];simp
  unfold draw;refine aB (wpAny_pyNext_list_item hit d this λm a f=>?_);refine aB (cD (Ue g n (i+1) _ _ a (d.at λo e=>(f.2 l g).trans e) (by omega) λh c k=>aI ?_));have:=q h (by rw[show i+(n+1)=i+1+n by omega];exact c) λb nb=>(k b nb).trans (f.2 b nb)
  rw[parts] at this;exact this
theorem DZ (calm:A.handled=none) (j:s.heap.IsList l items) (C:p.length=items.size) (plain:p.findIdx? (·.1)=none)
  (go:∀ r,(∀ b o,s.heap.get? b=some o->r.get? b=some o)->wpAny (model g w) A (assignInOrder (p.map (·.2)) items.toList) Q E { s with heap:=r }):wpAny (model g w) A (unpack (.ref l) p) Q E s:=by
 have lt:l<s.heap.objs.size:=by
  obtain⟨_,e,_⟩:=j;exact aZ e
 let a:=s.heap.push { cls:=.type "list_iterator",data:=.fields #[.ref l,.int 0 0] };have same:∀ b o,s.heap.get? b=some o->a.get? b=some o:=λb o e=>aG _ e
 have less:∀ b o,s.heap.get? b=some o->b≠s.heap.objs.size:=λb o e=>bO (aZ e)
 have c:a.IsListIter s.heap.objs.size l 0:=⟨_,bA _ rfl,rfl,rfl⟩;have h:a.IsList l items:=j.at λo e=>same _ o e
 unfold unpack;rw[plain,C];refine aB (cD ?_);unfold unpackItems;refine aB (EH j ?_);rw[aJ bC];refine aB (cD (fQ j ?_));refine aB (cD (Ue (bO lt) items.size 0 _ _ c h (by omega) λi d f=>?_));have all:(items.toList.drop 0).take items.size=items.toList:=by rw[jP];exact bL (by simp)
 have n:i.IsList l items:=h.at λo e=>(f l (bO lt)).trans e
 rw[all,aJ (by simp)];refine aB (cD (wpAny_pyNext_list_end calm d n (fX (by omega)) λk m=>?_));simp only[Option.isSome_none,eC,gC];exact aI (go k λb o e=>m b o (less b o e) ((f b (less b o e)).trans (same b o e)))
end
end PySem
namespace L2
open PySem PySem.Spec PyProof.Rows
section
variable {X:Cx}
def NK (K:mI) (n:Nat) (t:A9):TG:=λv c H Q=>∃ a b,v = .ref a/\mL K H a b/\b.length=n/\t b c H Q
theorem AN (l:X.calm=true) (h:yM X g t)
  (o:(assignEach g X.env).length=n:=by rfl) (plain:(assignEach g X.env).findIdx? (·.1)=none:=by rfl) (j:∀ v,assign (.Tuple g k pos) X.env v=(do standAt pos;unpack v (assignEach g X.env)):=by intro _;rfl):PG X (.Tuple g k pos) (NK X.K n t):=by
 intro b s q H v u Q I r hw;obtain⟨a,m,rfl,e,d,hw⟩:=hw;cases r;obtain⟨f,c,i,x⟩:=I.list e;rw[j];refine aB (lM (DZ (I.ok.hd l) i.isList (by rw[o,<- d,aY];exact c.length) plain λw k=>?_));exact h b _ q H m _ Q (I.kept (t':=s.toks) k) (by simpa using c) hw
end
end L2
namespace L2
open PySem PySem.Spec PyProof.Rows Lw
section
def Hr (g:Ah) (w:World) (A:Around) (s:Ae) (x y:Ac):Prop:=∀ (E:Ac->Ae->Prop) (Q:Bool->Ae->Prop),Q true s->wpAny (model g w) A (eqBool x y) Q E s
end
section
variable {X:Cx}
def Fk (H:Hp) (x y:V):Prop:=∃ (a b:Ad) (c:Aa (gD×V)),x = .ref a/\y = .ref b/\H a=some (.k c)/\H b=some (.k c)/\(c.map (·.1)).Nodup/\∀ p∈c,tT p.2=true/\qI p.2 p.2=true
theorem Fk.now (I:Inv X g p H s) (h:Fk H x y) (l:nC x u) (o:nC y v) (j:A.units<cLine):Hr X.prog X.w A s u v:=by
 obtain⟨a,b,c,rfl,rfl,n,t,F,B⟩:=h;cases l;cases o;by_cases e:a=b
 .subst e;exact λE Q q=>SeqAt.EqAt.same _ X.prog X.w E Q q
 intro E Q q;obtain⟨K,d1,i,d,k⟩:=C4 I.hok n;obtain⟨L,d2,G,f,m⟩:=C4 I.hok t;have D:i.length=G.length:=by rw[<- d.length,<- f.length]
 unfold eqBool;refine cD (wpAny_ite_split (λz=>absurd (Value.ref.inj (eq_of_beq z)) e) λ_=>aB ?_);refine PySem.W.keq_eq d1 d2 k m j (λ_=>QY f F c i d (λ_ h=>h) B) (gQ ?_);rw[D];simpa using q
end
def EB (n:Nat) (g:B1):uV:=λd c b=>match d with
 | .l a=>a.length=n/\g a c b
 | _=>False
section
variable {X:Cx}
theorem yR (r:X.calm=true) (h:E6 X m g o) (C:(assignEach g X.env).length=n:=by rfl) (j:(assignEach g X.env).findIdx? (·.1)=none:=by rfl) (p:∀ v,assign (.Tuple g k pos) X.env v=(do standAt pos;unpack v (assignEach g X.env)):=by intro _;rfl):vW X m (.Tuple g k pos) (EB n o) :=
 (AN r h C j p).mono λv w H Q b=>b.elim λB u T d t q hd c k=>by
  cases d with
  | l f =>
   obtain⟨a,s,rfl,_,i,e⟩:=hd.valAt.lst_inv;exact⟨a,s,rfl,mL.of i,by rw[<- e.length];exact c.1,B,u,T,f,t,q,e.length,hd.drop.pushs (A:=λ_=>True) e,c.2,k⟩
  | _=>exact c.elim
end
end L2
namespace Lw
open PySem L2
def Lu:RD:=λf d e=>∃ (C:Cel) (a:Aa (gD×D)) (c:Af->Int),d=[sG C,.k a]/\GC C/\sU a C.ins c/\∀ b,sU b C.names (sW C c)->e (.o (.k b))
def Av:RD:=λd b c=>∃ C a,b=[nH C a]/\a.length<=100/\C.ins.length<=100/\C.outs.length<=100/\c (.o (.l [.l ((hI C a).map D.str),.l ((mZ C a).map D.str)]))
theorem J9 [Decidable p]:(if decide p=true then (1:Int) else 0)=if p then 1 else 0:=by
 by_cases h:p
 .rw[aO (bJ h),aO h]
 .rw[aJ (by simp[h]),aJ h]
theorem AD:(["one","known"]:Aa Af).Nodup:=by decide +kernel
theorem Gn:(["out","into"]:Aa Af).Nodup:=by decide +kernel
theorem NU:(["name","ins"]:Aa Af).Nodup:=by decide +kernel
theorem Z7:(["name","outs"]:Aa Af).Nodup:=by decide +kernel
section
variable {P:Ah}{K:mI}
theorem Vk:FnScope ["word","bits","total"] ["word","bits"] (nF Gx):=oM
theorem AV (T:Txt g):oK P w K g base 1 "_law_gate_bit" Gx ["word","bits"] Jt:=by
 refine oS Vk λf R A L s H E k Z a b o Y=>?_
 obtain⟨i,bs,rfl,j,ok,B⟩:=Y;have fin:∀ z:Int,z=qH i bs->a (.v (.int z)):=λz e=>by rw[e];exact B
 have n:=Ox bs;have st:∀ (e:Af) (t u:qS),(i=e->t k { nx:=λ_=>a (.v .e),rt:=a } [.v (.str i),.v (.l (bs.map D.int)),.v (.int bs.sum)])->(¬ i=e->u k { nx:=λ_=>a (.v .e),rt:=a } [.v (.str i),.v (.l (bs.map D.int)),.v (.int bs.sum)]) ->
   (∀ M O y,M.rt=O.rt->t k M y->t k O y)->Gm (Og (C5 (yQ (O4 false) 0 (cd (.str e)))) t O5) u k { nx:=λ_=>a (.v .e),rt:=a } [.v (.str i),.v (.l (bs.map D.int)),.v (.int bs.sum)]:=λe t u S V W =>
  ⟨rfl,N4 (λz=>W { nx:=λ_=>a (.v .e),rt:=a } _ _ rfl (S z)) λz=>V z⟩
 refine⟨_,(hO (mS 2 Vk.nd (oJ (Ia rfl) M6 T.sum iH (dK (dT 1) eA))) (hO (qU (pY (rD b.units) (pN false) (pv 0) mW) (mQ (nO (nZ A6 Bd T.int eS (dK (Cs (rD b.units) (pN false) (pv 2) (oJ qB qC T.len bN (dK (dT 1) eA))) eA)))) qY) (hO (qU (pY (rD b.units) (pN false) (pv 0) mW) (mQ (nO (nZ A6 Bd T.int eS (dK (Cs B3 B6 (pv 2) hL) eA)))) qY) (hO (qU (pY (rD b.units) (pN false) (pv 0) mW) (mQ (nO (qA tD Hz 2 hL))) qY) (hO (qU (pY (rD b.units) (pN false) (pv 0) mW) (mQ (nO (nZ A6 Bd T.int eS (dK (Cs U2 Rt (pv 2) hL) eA)))) qY) (hO (qU (pY (rD b.units) (pN false) (pv 0) mW) (mQ (nO (nZ A6 Bd T.int eS (dK (Cs (rD b.units) (pN false) (pv 2) hL) eA)))) qY) (mQ (nO (DU bF jJ PySem.F.type_list_index W6 JH (nX (dK mW (dK mW eA))) (dK (dT 0) eA)))))))))),?_⟩;refine mK (λy=>y=_) (λN X=>⟨bs,n,X _ rfl⟩) ?_;rintro _ rfl;refine st _ _ _ (λe=>⟨rfl,rfl,_,rfl,fin _ ?_⟩) (λc=>?_) (λ_ _ _ e=>by unfold qX;rw[e];exact id)
 .unfold qH;rw[aO e];show (if decide (bs.sum=(((bs.map D.int).length:Nat):Int))=true then (1:Int) else 0)=_;rw[aA];exact J9
 refine st _ _ _ (λe=>⟨rfl,fin _ ?_⟩) (λh=>?_) (λ_ _ _ e=>by unfold qX;rw[e];exact id)
 .unfold qH;rw[aJ c,aO e];exact J9
 refine st _ _ _ (λe=>⟨rfl,by show (0:Int)<2;decide,fin _ ?_⟩) (λq=>?_) (λ_ _ _ e=>by unfold qX;rw[e];exact id)
 .unfold qH;rw[if_neg c,if_neg h,if_pos e]
 refine st _ _ _ (λe=>⟨rfl,fin _ ?_⟩) (λx=>?_) (λ_ _ _ e=>by unfold qX;rw[e];exact id)
 .unfold qH;rw[aJ c,aJ h,aJ q,aO e];exact J9
 refine st _ _ _ (λe=>⟨rfl,fin _ ?_⟩) (λG=>?_) (λ_ _ _ e=>by unfold qX;rw[e];exact id)
 .unfold qH;rw[aJ c,aJ h,aJ q,aJ x,aO e];exact J9
 refine⟨by show 2<=1000;decide,?_⟩;rcases NL ok c h q x G with rfl | rfl
 .refine⟨rfl,[.str "nil",.str "one"],.str "one",1,rfl,rfl,by show 1<2;decide,λz d=>?_,λm z Q d=>?_,fin _ ?_⟩
  .cases d;decide +kernel
  .obtain rfl:m=0:=by omega
   cases d;decide +kernel
  .unfold qH;rw[if_neg c,if_neg h,if_neg q,if_neg x,if_neg G,if_pos rfl];rfl
 .refine⟨rfl,[.str "nil",.str "one"],.str "nil",0,rfl,rfl,by show 0<2;decide,λz d=>?_,λm z Q d=>absurd Q (mD _),fin _ ?_⟩
  .cases d;decide +kernel
  .unfold qH;rw[if_neg c,if_neg h,if_neg q,if_neg x,if_neg G,if_neg (by decide +kernel)];rfl
theorem Df:FnScope ["cell","bits","known","name","word","names"] ["cell","bits"] (nF Eh):=oM
theorem Kq:FnScope ["row","ins","outs"] ["row"] (nF xG):=oM
theorem EQ (T:Txt mg) (l:Kn P w K mg base 1 "_law_gate_bit" Gx ["word","bits"] Jt)
: oK P w K mg base 2 "_law_all_bits" Eh ["cell","bits"] Lu:=by
 refine oS Df λf ac A ab s H E dk ds Φ hr O hR=>?_
 obtain⟨C,t,F,rfl,V,h0,U⟩:=hR;have li:=V.li;have lg:=V.lg;refine⟨_,(hO (mS 2 Df.nd Fh) (hO (oW (nN (mP O 0 hL)) (mM 3 Df.nd) (mQ (uI (n:=2) O (mP O 1 (dT 3)) (pv 2) (dT 3)))) (hO (oW (nN (mP O 0 hL)) (qR (n:=3) rfl (nE (mM 3 Df.nd) (nE (mM 4 Df.nd) (nE (mM 5 Df.nd) pD)))) (mQ (uI (n:=2) O (mU l hr (dK (dT 4) (dK (oZ ["one"] ["known"] [2] (nN (dT 5)) (λ_ _ _ _ _=>(mM 0 AD)) (λ_ _ _ _ _=>(mP O 1 (dT 0)))) eA))) (pv 2) (dT 3)))) (mQ (nO (B8 2 (pv 2))))))),?_⟩;refine mK (λc=>c=[.v (sG C),.v (.k t),.o (.k []),.n,.n,.n]) (λN Q=>Q _ rfl) ?_;rintro _ rfl;refine mK (λc=>∃ (a:Aa (gD×D)) (d:Sl),c=[.v (sG C),.v (.k t),.o (.k a),d,.n,.n]/\sU a C.ins F/\a.length<=40) (λN Q=>?_) ?_
 .refine oV (C.ins.map D.str) _ (λΨ h=>⟨rfl,_,rfl,h⟩)
   (λi c=>∃ (a:Aa (gD×D)) (d:Sl),c=[.v (sG C),.v (.k t),.o (.k a),d,.n,.n]/\sU a (C.ins.take i) F/\a.length<=i) ⟨_,.n,rfl,λx G=>by simp at G,by simp⟩ ?_ ?_
  .rintro i x c G ⟨a,d,rfl,m,Y⟩;obtain⟨y,Z,rfl⟩:=pR G;have I:i<C.ins.length:=(aL.mp Z).1;have hm:=aF Z;have tk:C.ins.take (i+1)=C.ins.take i++[y]:=by rw[bM,Z];rfl
   have X:C.ins.Nodup:=(bE.mp V.nd).1;have z:y∉C.ins.take i:=λq=>by
    have e:C.ins=C.ins.take i++y::C.ins.drop (i+1):=by
     obtain⟨I,rfl⟩:=aL.mp Z;rw[jS,eR]
    rw[e] at X;exact (bE.mp X).2.2 y q y (by simp) rfl
   refine⟨rfl,.int (F y),?_,rfl,_,Fi (by omega),nM a (Sum.inr y) (.int (F y)),_,rfl,?_,?_⟩
   .show some (mR t (Sum.inr y))=_;rw[(h0 y hm).1]
   .rw[tk];have:=m.step (h0 y hm).2 z;refine λx G=>?_
    have q:=this x G;dsimp only at q;by_cases e:x=y
    .subst e;rw[aO rfl] at q;exact q
    .rw[aJ e] at q;exact q
   .have:=Fv a (Sum.inr y:gD) (.int (F y));omega
  .rintro c ⟨a,d,rfl,m,Y⟩;rw[aA,bL (aU _)] at m;rw[aA] at Y;exact Q _ ⟨a,d,rfl,m,by omega⟩
 rintro _ ⟨af,d,rfl,r,ae⟩;refine mK (λc=>∃ (a:Aa (gD×D)) (d L M:Sl),c=[.v (sG C),.v (.k t),.o (.k a),d,L,M]/\sU a C.names (sW C F)) (λN Q=>?_) ?_
 .refine oV (C.gates.map oA) _ (λΨ h=>⟨rfl,_,rfl,h⟩)
   (λi c=>∃ (a:Aa (gD×D)) (d L M:Sl),c=[.v (sG C),.v (.k t),.o (.k a),d,L,M]/\sU a (C.ins++(C.gates.take i).map (·.1)) (vU F (C.gates.take i))/\a.length<=100+i) ⟨_,d,.n,.n,rfl,by simpa [vU] using r,by omega⟩ ?_ ?_
  .rintro i x c G ⟨a,d,L,M,rfl,m,Y⟩;obtain⟨g,B,rfl⟩:=pR G;obtain⟨R,W⟩:=V.gt.at B;have I:i<C.gates.length:=(aL.mp B).1;have z:g.1∉C.ins++(C.gates.take i).map (·.1):=λq=>by
    have X:(C.ins++C.gates.map (·.1)).Nodup:=V.nd;have e:C.gates=C.gates.take i++g::C.gates.drop (i+1):=by
     obtain⟨I,rfl⟩:=aL.mp B;rw[jS,eR]
    rw[e,aM,<- bP] at X;exact (bE.mp X).2.2 g.1 q g.1 (by simp) rfl
   have tk:C.gates.take (i+1)=C.gates.take i++[g]:=by rw[bM,B];rfl
   generalize aa:vU F (C.gates.take i)=u at m;have S:∀ p∈g.2.2,nS (u p):=λp J=>(m p (W p J)).2
   refine⟨rfl,rfl,?_⟩;unfold Nm E4 aC vd;simp only[lF,List.set_cons_zero,List.getElem?_cons_succ,List.getElem?_cons_zero];refine pL g.2.2 D.str (λo=>.int (u o)) _ (λΨ h=>h) (by rcases R.ok with⟨_,q | q⟩ | ⟨_,q⟩ | ⟨_,q⟩ | ⟨_,q⟩ | ⟨_,q⟩<;>rw[q]<;>decide) (λj o ys Nx e r h2=>?_) ?_
   .refine⟨rfl,.int (u o),?_,r,h2⟩;show some (mR a (Sum.inr o))=_;rw[(m o (W o (aF e))).1]
   refine⟨g.2.1,g.2.2.map u,by rw[aR];rfl,(λb hb=>by obtain⟨p,J,rfl⟩:=aN.mp hb;exact S p J),by rw[aA];exact R,.inl rfl,rfl,_,Fi (by omega),nM a (Sum.inr g.1) (.int (qH g.2.1 (g.2.2.map u))),_,_,_,rfl,?_,?_⟩
   .rw[tk,Ku,aa,aM,<- bP];exact m.step (Ma _ _) z
   .have:=Fv a (Sum.inr g.1:gD) (.int (qH g.2.1 (g.2.2.map u)));omega
  .rintro c ⟨a,d,L,M,rfl,m,Y⟩;rw[aA,bL (aU _)] at m;exact Q _ ⟨a,d,L,M,rfl,m⟩
 rintro _ ⟨a,d,L,M,rfl,m⟩;exact U a m
theorem Yt:oK P w K g base 1 "_law_words_of" xG ["row"] Av:=by
 refine oS Kq λf M A B s H E Q R Y S b O=>?_
 obtain⟨C,a,rfl,X,W,lo,z⟩:=O;refine⟨_,(hO (mS 1 Kq.nd (oZ ["out","into"] [] [] (nN (mP b 0 hL)) (λ_ _ _ _ _=>(qR (n:=2) rfl (nE (mM 0 Gn) (nE (mM 1 Gn) pD)))) (λ_ _ _ _ _=>(dT 1)))) (hO (mS 2 Kq.nd (oZ ["out","into"] [] [] (nN (mP b 0 hL)) (λ_ _ _ _ _=>(qR (n:=2) rfl (nE (mM 0 Gn) (nE (mM 1 Gn) pD)))) (λ_ _ _ _ _=>(dT 0)))) (mQ (nO (nX (dK (oZ ["name"] ["ins"] [1] (nN (qP b (mP b 0 hL) hL)) (λ_ _ _ _ _=>(mM 0 NU)) (λ_ _ _ _ _=>(dT 0)) (ht:=λ_ _ _ _ _=>(Au (Dp (Fm b) (Dc true) (dT 0) (pv 1))))) (dK (oZ ["name"] ["outs"] [2] (nN (qP b (mP b 0 hL) hL)) (λ_ _ _ _ _=>(mM 0 Z7)) (λ_ _ _ _ _=>(dT 0)) (ht:=λ_ _ _ _ _=>(Au (Dp (Fm b) (Dc true) (dT 0) (pv 1))))) eA))))))),?_⟩;refine mK (λL=>L=[.v (nH C a),.o (.l (a.map λp:Af×Af=>D.str p.2)),.n]) (λN y=>?_) ?_
 .unfold qN;exact pL a (λp=>D.t [.str p.1,.str p.2]) (λp=>D.str p.2) [.v (nH C a),.n,.n] (λG h=>⟨rfl,_,rfl,h⟩) (by omega) (λi p F k e c d=>⟨rfl,rfl,c,d⟩) (y _ rfl)
 rintro _ rfl;refine mK (λL=>L=[.v (nH C a),.o (.l (a.map λp:Af×Af=>D.str p.2)),.o (.l (a.map λp:Af×Af=>D.str p.1))]) (λN y=>?_) ?_
 .unfold qN;exact pL a (λp=>D.t [.str p.1,.str p.2]) (λp=>D.str p.1) _ (λG h=>⟨rfl,_,rfl,h⟩) (by omega) (λi p F k e c d=>⟨rfl,rfl,c,d⟩) (y _ rfl)
 rintro _ rfl;unfold qX Sv aC;refine yP C.ins D.str D.str (λx=>!decide (x∈a.map λp:Af×Af=>p.2)) _ (λG h=>⟨rfl,_,rfl,_,rfl,h⟩) (by omega) (λi x F k e c d u=>?_) ?_
 .have m:(a.map λp:Af×Af=>D.str p.2)=(a.map (·.2)).map D.str:=by rw[aR];rfl
  refine⟨.str x,(a.map (·.2)).map V.str,rfl,by rw[m];exact F7 _,?_⟩;rw[Fb];show if (!decide (x∈a.map (·.2)))=true then _ else _
  by_cases q:x∈a.map (·.2)
  .exact wT (by rw[bJ q];rfl) (u (by rw[bJ q];rfl))
  .exact Io (by rw[bG q];rfl) ⟨c,d (by rw[bG q];rfl)⟩
 refine yP C.outs D.str D.str (λx=>!decide (x∈a.map λp:Af×Af=>p.1)) _ (λG h=>⟨rfl,_,rfl,_,rfl,h⟩) (by omega) (λi x F k e c d u=>?_) ?_
 .have m:(a.map λp:Af×Af=>D.str p.1)=(a.map (·.1)).map D.str:=by rw[aR];rfl
  refine⟨.str x,(a.map (·.1)).map V.str,rfl,by rw[m];exact F7 _,?_⟩;rw[Fb];show if (!decide (x∈a.map (·.1)))=true then _ else _
  by_cases q:x∈a.map (·.1)
  .exact wT (by rw[bJ q];rfl) (u (by rw[bJ q];rfl))
  .exact Io (by rw[bG q];rfl) ⟨c,d (by rw[bG q];rfl)⟩
 exact⟨by show 2<=1000;decide,z⟩
end
end Lw
namespace L2
open PySem PySem.Spec PyProof.Rows
section
variable {X:Cx}
theorem Yy {iter:Expr}(T o:Aa Af) (r:Aa Nat) (hc:X.calm=true) (hi:PI X tg iter wi)
  (hk:j.kind = .function) (ho:Dx (some nm) X.N X.env.kindOf j T o r=true)
  (hg:∀ p l C U J,PG (tM (some nm) X (T++o) j U C p l J) tg g)
  (ht:∀ p l C U J,vV (tM (some nm) X (T++o) j U C p l J) ab tt)
  (he:∀ p l C U J,PE (tM (some nm) X (T++o) j U C p l J) aa te)
  (hs:∀ x,foldedSetIterable iter X.env x=pure x:=by intro _;rfl) :
  PE X (.ListComp aa [⟨tg,iter,ab,0⟩] j pos) (Bj T r wi g tt te):=by
 intro a s e H Q I h;rw[eval_ListComp];exact Nn (nw:=some nm) T o r hc hi hk (Kt ho) hg ht he hs I h λC D d c I q J b=>Rr I q J b
end
section
variable {X:Cx}
theorem GH {iter:Expr}(T o:Aa Af) (r:Aa Nat) (hc:X.calm=true) (hi:xF X tg iter ι)
  (hk:j.kind = .function) (ho:Dx (some nm) X.N X.env.kindOf j T o r=true)
  (hg:∀ p l C I J,vW (tM (some nm) X (T++o) j I C p l J) T.length tg g)
  (ht:∀ p l C I J,vV (tM (some nm) X (T++o) j I C p l J) ab (uO X.K tt))
  (he:∀ p l C I J,PD (tM (some nm) X (T++o) j I C p l J) aa te)
  (U:r.Nodup:=by decide) (hs:∀ x,foldedSetIterable iter X.env x=pure x:=by intro _;rfl):PD X (.ListComp aa [⟨tg,iter,ab,0⟩] j pos) (vA T.length r ι g tt te) :=
 (Yy T o r hc hi hk ho hg ht he hs).mono λ_ _ _ h=>Ob U h
end
end L2
namespace Lw
open PySem L2
theorem Th:(["bits"]:Aa Af).Nodup:=by decide +kernel
theorem BO:(["number","many"]:Aa Af).Nodup:=by decide +kernel
theorem HV:(["k","number","many"]:Aa Af).Nodup:=by decide +kernel
noncomputable def mO:Nat->Aa (Aa Int)
 | 0=>[[]]
 | n+1=>(mO n).map (0::·)++(mO n).map (1::·)
def mN (b:Aa Int):D:=.t (b.map D.int)
theorem vF:∀ n,(mO n).length=2 ^ n
 | 0=>rfl
 | n+1=>by unfold mO;rw[List.length_append,List.length_map,List.length_map,vF n,Nat.pow_succ];omega
theorem uA:∀ {n:Nat}{b:Aa Int},b∈mO n->b.length=n/\∀ x∈b,x=0\/x=1
 | 0,b,h=>by rw[aX.mp h];exact⟨rfl,λ_ z=>nomatch z⟩
 | n+1,b,h=>by
  unfold mO at h;rcases aV.mp h with h | h
  all_goals
   obtain⟨c,e,rfl⟩:=aN.mp h;obtain⟨a,d⟩:=uA e;refine⟨by rw[bS,a],λx f=>?_⟩;rcases aK.mp f with q | q
   .first | exact .inl q | exact .inr q
   .exact d x q
theorem wB (h:n<=6):2 ^ n<=64:=gU (by decide) h
theorem Zk (h:0<=z):Builtin.bitAnd z 1=z%2:=by
 obtain⟨n,rfl⟩:=cW h;have e:Builtin.bitAnd (n:Int) 1=((n &&& 1:Nat):Int):=by
  unfold Builtin.bitAnd;rw[bJ h,bJ (show (0:Int)<=1 by decide)];rfl
 rw[e,Nat.and_one_is_mod];rfl
noncomputable def Hs (m n:Nat):Aa Int:=(List.range m).map λk=>((n/2 ^ (m-1-k)%2:Nat):Int)
theorem KP:∀ m≤6,(List.range (2 ^ m)).map (Hs m)=mO m:=by decide +kernel
def Aj:RD:=λc a b=>∃ n:Nat,a=[.int n]/\n<=6/\b (.o (.l ((mO n).map mN)))
section
variable {P:Ah}{K:mI}
theorem G1:FnScope ["count","found","step"] ["count"] (nF Dd):=oM
theorem MI:FnScope ["many"] ["many"] (nF Ct):=oM
theorem DT (T:Txt g):oK P w K g base 1 "all_bits" Dd ["count"] Aj:=by
 refine oS G1 λf z A t s H E O Q Y W X F=>?_
 obtain⟨n,rfl,V,q⟩:=F;refine⟨_,(hO (mS 1 G1.nd (nX (dK (oN eA) eA))) (hO (oW (vY (by rfl) T.range (dT 0)) (mM 2 G1.nd) (mQ (mS 1 G1.nd (nG oC oD (oZ ["bits"] [] [] (nN (dT 1)) (λ_ _ _ _ _=>(mM 0 Th)) (λ_ _ _ _ _=>(nG oC oD (oN (dK hL eA)) (dT 0)))) (oZ ["bits"] [] [] (nN (dT 1)) (λ_ _ _ _ _=>(mM 0 Th)) (λ_ _ _ _ _=>(nG oC oD (oN (dK hL eA)) (dT 0)))))))) (mQ (nO (B8 1 (pv 1)))))),?_⟩;refine mK (λc=>c=[.v (.int n),.o (.l ((mO 0).map mN)),.n]) (λN m=>?_) ?_
 .exact⟨by show 0<=1000;decide,by show 1<=1000;decide,m _ rfl⟩
 rintro _ rfl;refine mK (λc=>∃ a,c=[.v (.int n),.o (.l ((mO n).map mN)),a]) (λN m=>?_) ?_
 .refine oV (pK 0 n) _ (λu h=>⟨by omega,by omega,h⟩) (λi c=>∃ a,c=[.v (.int n),.o (.l ((mO i).map mN)),a]) ⟨_,rfl⟩ ?_ ?_
  .rintro i x c L ⟨a,rfl⟩;obtain⟨R,rfl⟩:=Bw L;have B:=wB (show i<=6 by omega);have S:=vF i;unfold gN qN d2;refine pL (mO i) mN (λb=>mN (0::b)) _ (λu h=>h) (by omega) (λj b M y e d k=>?_) ?_
   .have G:=(uA (aF e)).1;refine⟨by show 1<=1000;decide,?_,d,k⟩;show [D.int 0].length+(b.map D.int).length<=100000;rw[aA];show 1+b.length<=100000;omega
   refine pL (mO i) mN (λb=>mN (1::b)) _ (λu h=>h) (by omega) (λj b M y e d k=>?_) ?_
   .have G:=(uA (aF e)).1;refine⟨by show 1<=1000;decide,?_,d,k⟩;show [D.int 1].length+(b.map D.int).length<=100000;rw[aA];show 1+b.length<=100000;omega
   refine⟨by rw[aA,aA];omega,.v (.int (0+(i:Int))),?_⟩
   .show _=[_,Sl.o (.l ((mO (i+1)).map mN)),_];rw[show mO (i+1)=(mO i).map (0::·)++(mO i).map (1::·) from rfl,aM,aR,aR];rfl
  .rintro c ⟨a,rfl⟩;have e:(pK 0 n).length=n:=by simp[pK]
   rw[e];exact m _ ⟨a,rfl⟩
 rintro _ ⟨a,rfl⟩;exact q
theorem Zf (T:Txt g):oK P w K g base 1 "_law_rows" Ct ["many"] Aj:=by
 refine oS MI λf B A q s H E W X p Y Z R=>?_
 obtain⟨n,rfl,y,b⟩:=R;refine⟨_,(mQ (nO (GH (nm := "number") ["number"] ["many"] [0] rfl (vY (by rfl) T.range (nG yA yF hL (dT 0))) rfl rfl (λ_ _ _ _ _=>(mM 0 BO)) (λ_ _ _ _ _=>Dj) (λ_ _ _ _ _=>(nZ uR uZ T.tuple cB (dK (oZ ["k"] ["number","many"] [0,1] (vY (by rfl) T.range (dT 1)) (λ_ _ _ _ _=>(mM 0 HV)) (λ_ _ _ _ _=>(nG QP FQ (qA Up Pa 1 (nG vR wO (qA vR wO 2 hL) (dT 0))) hL))) eA)))))),?_⟩;have d:=wB y;have i:((1:Int)*2 ^ ((n:Int)).toNat)=((2 ^ n:Nat):Int):=by rw[bT,iP];norm_cast
 unfold qX;refine pL (List.range (2 ^ n)) (λk=>D.int (0+(k:Int))) (λk=>mN (Hs n k)) [.v (.int n)] (λz h=>?_) (by rw[cF];omega) (λj k o V e N x=>?_) ?_
 .refine⟨⟨by omega,by omega,by decide⟩,?_⟩;show -(2 ^ 62)<=(1:Int)*2 ^ ((n:Int)).toNat/\(1:Int)*2 ^ ((n:Int)).toNat<2 ^ 62/\z (pK 0 ((1:Int)*2 ^ ((n:Int)).toNat).toNat) _;rw[i,bT];exact⟨Int.le_trans (show -(2 ^ 62)<=(0:Int) by decide) (Int.natCast_nonneg _),Int.ofNat_lt.mpr (cK d (by decide)),h⟩
 .unfold gN dC aC;refine pL (List.range n) (λk=>D.int (0+(k:Int))) (λm=>D.int ((k/2 ^ (n-1-m)%2:Nat):Int)) _ (λz h=>⟨by omega,by omega,by rw[bT];exact h⟩) (by rw[cF];omega) (λl a u c G O Q=>?_) ?_
  .have S:a<n:=by
    have:=dQ.mp (aF G);exact this
   have F:((n:Int)-1-(0+(a:Int)))=((n-1-a:Nat):Int):=by omega
   refine⟨rfl,rfl,by show (0:Int)<=(n:Int)-1-(0+(a:Int));omega,O,?_⟩;have L:Builtin.bitAnd ((0+(k:Int))/2 ^ ((n:Int)-1-(0+(a:Int))).toNat) 1=((k/2 ^ (n-1-a)%2:Nat):Int):=by
    rw[F,bT,iT,Zk (lZ (by omega) (Int.pow_nonneg (by decide)))]
    norm_cast
   show c (u++[D.int (Builtin.bitAnd ((0+(k:Int))/2 ^ ((n:Int)-1-(0+(a:Int))).toNat) 1)]) _;rw[L];exact Q
  .have M:mN (Hs n k)=D.t ((List.range n).map λm=>D.int ((k/2 ^ (n-1-m)%2:Nat):Int)):=by unfold mN Hs;rw[List.map_map];rfl
   rw[M] at x;exact⟨N,x⟩
 .rw[<- KP n y,aR] at b;exact b
end
theorem keysL_strs:∀ g:Aa Af,yN (g.map D.str)=some (g.map Sum.inr)
 | []=>rfl
 | x::r=>by rw[aP];unfold yN;rw[keysL_strs r];rfl
theorem Sa (f:Af->Int) (x:Af):∀ (j:Aa Af) (g:Aa (gD×D)),mR (qF g (j.map λo=>((Sum.inr o:gD),D.int (f o)))) (Sum.inr x)=if x∈j then some (.int (f x)) else mR g (Sum.inr x)
 | [],g=>by rw[aJ bD];rfl
 | o::r,g=>by
  show mR (qF (nM g (Sum.inr o) (D.int (f o))) (r.map λo=>((Sum.inr o:gD),D.int (f o)))) (Sum.inr x)=_;rw[Sa f x r,F6];by_cases h:x∈r
  .rw[aO h,aO (aQ _ h)]
  .rw[aJ h];by_cases e:o=x
   .rw[aO (by rw[e]),aO (by rw[e];exact aH),e]
   .rw[aJ (λz=>e (fY z)),aJ (λz=>(aK.mp z).elim (λq=>e q.symm) h)]
theorem Pu (f:l->o) (g:l->p):∀ j:Aa l,(j.map f).zip (j.map g)=j.map λx=>(f x,g x)
 | []=>rfl
 | x::r=>by rw[aP,aP,aP,cV,Pu f g r]
theorem Vp:∀ (j:Aa (Af×Af×Aa Af)) (l:Af->Int) (x:Af),x∉j.map (·.1)->vU l j x=l x
 | [],_,_,_=>rfl
 | g::j,l,x,h=>by
  show vU (Sx l g) j x=l x;rw[Vp j _ x λz=>h (aQ _ z)];exact aJ λz=>h (by rw[z];exact aH)
theorem E5 (j:GC C) (g:Af->Int) (l:x∈C.ins):sW C g x=g x :=
 Vp C.gates g x λz=>(bE.mp j.nd).2.2 x l x z rfl
def Wu:RD:=λf d e=>∃ (C:Cel) (a:Aa (gD×D)) (c:Af->Int),d=[sG C,.k a]/\GC C/\sU a C.ins c/\a.length<=100/\∀ b,(∀ x∈C.ins++C.outs,mR b (Sum.inr x)=some (.int (sW C c x)))->e (.o (.k b))
section
variable {P:Ah}{K:mI}
theorem Uq:FnScope ["cell","bits","known"] ["cell","bits"] (nF Gv):=oM
theorem CL (T:Txt j) (g:Kn P w K j base 2 "told_by" Hi ["cell","bits"] Wl):oK P w K j base 3 "side_bits" Gv ["cell","bits"] Wu:=by
 refine oS Uq λf y A n s H E S V X O Q L=>?_
 obtain⟨C,b,a,rfl,c,t,W,i⟩:=L;refine⟨_,(hO (mS 2 Uq.nd (nZ (uU rfl) uS T.dict bZ (dK (dT 1) eA))) (hO (sM (rC jI PySem.F.slot_dict_update PySem.F.type_dict_update Yc P6 (pv 2) (dK (Ck rfl (by rfl) T.dict (by rfl) T.zip (dK (mP Q 0 hL) (dK (mU g O (dK (dT 0) (dK (dT 1) eA))) eA))) eA))) (mQ (nO (B8 2 (pv 2)))))),?_⟩;refine mK (λq=>q=[.v (sG C),.v (.k b),.o (.k b)]) (λN d=>?_) ?_
 .exact d _ rfl
 rintro _ rfl;refine mK (λq=>∃ m,(∀ x∈C.ins++C.outs,mR m (Sum.inr x)=some (.int (sW C a x)))/\q=[.v (sG C),.v (.k b),.o (.k m)]) (λN d=>?_) ?_
 .have M:=c.lo;refine⟨rfl,rfl,_,rfl,C,b,a,rfl,c,t,.inl rfl,true,true,_,_,C.outs.map Sum.inr,rfl,rfl,keysL_strs C.outs,by rw[aA];omega,?_⟩;have G:(C.outs.map (Sum.inr:Af->gD)).zip (C.outs.map λo=>D.int (sW C a o))=gV (C.outs.map λo=>(o,sW C a o)):=by
   rw[Pu];unfold gV;rw[List.map_map];rfl
  have B:qF [] (gV (C.outs.map λo=>(o,sW C a o)))=gV (C.outs.map λo=>(o,sW C a o)):=xL (by rw[aR];simpa [dP] using c.ond);have z:gV (C.outs.map λo=>(o,sW C a o))=C.outs.map λo=>((Sum.inr o:gD),D.int (sW C a o)):=by unfold gV;rw[List.map_map];rfl
  rw[G,B];refine⟨?_,d _ ⟨_,λx R=>?_,rfl⟩⟩
  .unfold gV;rw[List.length_map,List.length_map];omega
  .rw[z,Sa];by_cases h:x∈C.outs
   .rw[aO h]
   .rw[aJ h];have u:x∈C.ins:=(aV.mp R).resolve_right h;rw[E5 c a u];exact (t x u).1
 rintro _ ⟨m,e,rfl⟩;exact i _ e
end
theorem zP {j:Type}(f:j->Int){g:Aa j}{i:Nat}{x:j}(h:g[i]?=some x):((g.take (i+1)).map f).sum=((g.take i).map f).sum+f x:=by
 rw[bM,h,aM,mF];simp
theorem C6 (h:nS v):-(2 ^ 64)<v/\v<2 ^ 64:=by
 rcases h with rfl | rfl<;>exact⟨by decide,by decide⟩
theorem Y9 (h:nS v) (g:nS u):-(2 ^ 64)<v-2*u/\v-2*u<2 ^ 64:=by
 rcases h with rfl | rfl<;>rcases g with rfl | rfl<;>exact⟨by decide,by decide⟩
def uJ (C:Cel) (g:Aa (Af×Af)) (t:nB) (u:Af->Int):Int:=look t "" + ((hI C g++mZ C g).map λx=>look t x*u x).sum+(g.map λp=>look t p.2*(u p.2-2*u p.1)).sum
structure RwOk (C:Cel) (prs:List (Str×Str)):Prop where
 gc:GC C
 n1:(prs.map (·.1)).Nodup
 n2:(prs.map (·.2)).Nodup
 m:∀ p∈prs,p.1∈C.outs/\p.2∈C.ins
 li:C.ins.length<=6
 lp:prs.length<=6
def To:RD:=λe c d=>∃ (C:Cel) (a:Aa (Af×Af)) (t:nB) (b:Aa (gD×D)) (u:Af->Int),c=[nH C a,.k (gV t),.k b]/\RwOk C a/\(∀ x∈C.ins++C.outs,mR b (Sum.inr x)=some (.int (u x))/\nS (u x))/\d (.v (.int (uJ C a t u)))
section
variable {P:Ah}{K:mI}
theorem B2:FnScope ["row","weights","known","part","name","output"] ["row","weights","known"] (nF Gg):=oM
theorem SN (T:Txt l) (j:Kn P w K l base 2 "word_inputs" Es ["row"] Ld) (g:Kn P w K l base 1 "word_outputs" Jg ["row"] Uz):oK P w K l base 3 "cell_part" Gg ["row","weights","known"] To:=by
 refine oS B2 λf V A R s H E dk ds Φ S q W=>?_
 obtain⟨C,a,t,e,u,rfl,F,L,O⟩:=W;refine⟨_,(hO (mS 3 B2.nd (uX q (pv 1) mW hL)) (hO (oW (nN (nG oC oD (mU j S (dK (dT 0) eA)) (mU g S (dK (dT 0) eA)))) (mM 4 B2.nd) (mQ (Vq (n:=3) B2.nd rfl (Or.inl rfl) (nG sF sA (uX q (pv 1) (dT 4) hL) (mP q 2 (dT 4))) T9))) (hO (oW (nN (mP q 0 hL)) (qR (n:=2) rfl (nE (mM 5 B2.nd) (nE (mM 4 B2.nd) pD))) (mQ (Vq (n:=3) B2.nd rfl (Or.inl rfl) (nG sF sA (uX q (pv 1) (dT 4) hL) (nG vR wO (mP q 2 (dT 4)) (nG sF sA hL (mP q 2 (dT 5))))) T9))) (mQ (nO (dT 3)))))),?_⟩;have Z:=F.lp;have X:=F.li;have Y:=F.gc.lo;refine mK (λd=>d=[.v (nH C a),.v (.k (gV t)),.v (.k e),.v (.int (look t "")),.n,.n]) (λN B=>?_) ?_
 .refine⟨rfl,_,rfl,?_⟩;show N [_,_,_,Sl.v ((mR (gV t) (Sum.inr (Str.ofString ""))).getD (D.int 0)),_,_];rw[vS];exact B _ rfl
 rintro _ rfl;have U:∀ y∈hI C a++mZ C a,y∈C.ins++C.outs:=λy z=>(aV.mp z).elim (λh=>bB _ ((cE.mp h).1)) λh=>aT _ ((cE.mp h).1)
 have l1:(hI C a).length<=C.ins.length:=bV _ _;have l2:(mZ C a).length<=C.outs.length:=bV _ _;refine mK (λd=>∃ c b,d=[.v (nH C a),.v (.k (gV t)),.v (.k e),.v (.int (look t "" + ((hI C a++mZ C a).map λx=>look t x*u x).sum)),c,b]) (λN B=>?_) ?_
 .refine oV ((hI C a++mZ C a).map D.str) [.v (nH C a),.v (.k (gV t)),.v (.k e),.v (.int (look t "")),.n,.n] (λΨ h=>?_) (λi d=>∃ c b,d=[.v (nH C a),.v (.k (gV t)),.v (.k e),.v (.int (look t "" + (((hI C a++mZ C a).take i).map λx=>look t x*u x).sum)),c,b]) ⟨.n,.n,by simp⟩ ?_ ?_
  .rw[aM] at h;exact⟨C,a,rfl,by omega,by omega,.inl rfl,C,a,rfl,by omega,by omega,.inl rfl,by rw[aA,aA];omega,h⟩
  .rintro i x d M ⟨c,b,rfl⟩;obtain⟨y,z,rfl⟩:=pR M;obtain⟨Q,G⟩:=L y (U y (aF z));refine⟨rfl,_,rfl,rfl,D.int (u y),?_,?_⟩
   .show some (mR e (Sum.inr y))=_;rw[Q]
   .show wP ((mR (gV t) (Sum.inr y)).getD (D.int 0)) (D.int (u y)) _;rw[vS];refine⟨.inr (C6 G),.v (.str y),b,?_⟩;rw[zP (λx=>look t x*u x) z,<- fN];rfl
  .rintro d ⟨c,b,rfl⟩;rw[aA,cC];exact B _ ⟨c,b,rfl⟩
 rintro _ ⟨c,b,rfl⟩;refine mK (λd=>∃ c b,d=[.v (nH C a),.v (.k (gV t)),.v (.k e),.v (.int (uJ C a t u)),c,b]) (λN B=>?_) ?_
 .refine oV (a.map λp=>D.t [.str p.1,.str p.2]) [.v (nH C a),.v (.k (gV t)),.v (.k e),.v (.int (look t "" + ((hI C a++mZ C a).map λx=>look t x*u x).sum)),c,b] (λΨ h=>?_) (λi d=>∃ c b,d=[.v (nH C a),.v (.k (gV t)),.v (.k e),.v (.int (look t "" + ((hI C a++mZ C a).map λx=>look t x*u x).sum+((a.take i).map λp=>look t p.2*(u p.2-2*u p.1)).sum)),c,b]) ⟨c,b,by simp⟩ ?_ ?_
  .exact⟨rfl,_,rfl,h⟩
  .rintro i x d M ⟨c,b,rfl⟩;obtain⟨y,z,rfl⟩:=pR M;obtain⟨I,J⟩:=F.m y (aF z);obtain⟨Q,G⟩:=L y.1 (aT _ I);obtain⟨o,r⟩:=L y.2 (bB _ J);have b1:=C6 G;refine⟨rfl,rfl,rfl,_,rfl,rfl,D.int (u y.2),?_,rfl,D.int (u y.1),?_,?_⟩
   .show some (mR e (Sum.inr y.2))=_;rw[o]
   .show some (mR e (Sum.inr y.1))=_;rw[Q]
   .refine⟨.inl ⟨by decide,by decide⟩,?_⟩;show wP ((mR (gV t) (Sum.inr y.2)).getD (D.int 0)) (D.int (u y.2-2*u y.1)) _;rw[vS];refine⟨.inr (Y9 r G),.v (.str y.2),.v (.str y.1),?_⟩;rw[zP (λp:Af×Af=>look t p.2*(u p.2-2*u p.1)) z,<- fN];rfl
  .rintro d ⟨c,b,rfl⟩;rw[aA,cC];exact B _ ⟨c,b,rfl⟩
 rintro _ ⟨c,b,rfl⟩;exact O
end
theorem Ye:(["output","name","known"]:Aa Af).Nodup:=by decide +kernel
def rJ (C:Cel) (g:Aa (Af×Af)) (c l:Aa Int):nB:=(g.map (·.2)++hI C g).zip (c++l)
def pQ (C:Cel) (g:Aa (Af×Af)) (c l:Aa Int):Af->Int:=sW C (look (rJ C g c l))
def xS (C:Cel) (g:Aa (Af×Af)) (t:nB) (c l:Aa Int):D:=.t [mN (g.map λp=>pQ C g c l p.1),.int (uJ C g t (pQ C g c l))]
def rO (C:Cel) (g:Aa (Af×Af)) (t:nB) (c:Aa Int):D:=.T ((mO (hI C g).length).map λl=>(l.map (Sum.inl:Int->gD),xS C g t c l))
def sR (C:Cel) (g:Aa (Af×Af)) (t:nB):D:=.T ((mO g.length).map λc=>(c.map (Sum.inl:Int->gD),rO C g t c))
theorem L0 {j:Type} [DecidableEq j] {g:Aa (j×D)}{k:j}{d:D}(h:k∉g.map (·.1)):nM g k d=g++[(k,d)]:=by
 unfold nM;rw[aJ];intro z;obtain⟨q,a,e⟩:=gA.mp z;exact h (aN.mpr ⟨q,a,cU e⟩)
theorem zA:∀ b:Aa Int,tO (b.map D.int)=some (b.map Sum.inl)
 | []=>rfl
 | x::r=>by rw[aP];unfold tO;rw[zA r];rfl
theorem Dv:∀ n,(mO n).Nodup
 | 0=>by unfold mO;simp
 | n+1=>by
  unfold mO;have inj:∀ a:Int,((mO n).map (a::·)).Nodup:=λa=>List.Pairwise.map (a::·) (λx y h e=>h (dO e).2) (Dv n)
  refine bE.mpr ⟨inj 0,inj 1,λx b y c e=>?_⟩;obtain⟨p,_,rfl⟩:=aN.mp b;obtain⟨q,_,rfl⟩:=aN.mp c;exact absurd (dO e).1 (by decide)
theorem Co:∀ {a b:Aa Int},a.map (Sum.inl:Int->gD)=b.map Sum.inl->a=b
 | [],[],_=>rfl
 | [],_::_,e=>by cases e
 | _::_,[],e=>by cases e
 | x::a,y::b,e=>by
  rw[aP,aP] at e;obtain⟨c,d⟩:=dO e;rw[mG c,Co d]
theorem LG (h:(mO n)[i]?=some b) (f:Aa Int->D):nM (((mO n).take i).map λl=>(l.map (Sum.inl:Int->gD),f l)) (b.map Sum.inl) (f b)=((mO n).take (i+1)).map λl=>(l.map (Sum.inl:Int->gD),f l):=by
 rw[L0]
 .rw[bM,h,aM];rfl
 .intro z;rw[aR] at z;obtain⟨c,m,e⟩:=aN.mp z;have e:c=b:=Co e;subst e;obtain⟨j,q,d⟩:=eM m;rw[bU] at q;have k:(mO n)[j]?=some c:=by rw[lK] at d;exact aL.mpr ⟨by omega,d⟩
  have a:j<(mO n).length:=by omega
  have:=(lL a (Dv n)).mp (k.trans h.symm);omega
theorem Gu (h:RwOk C g) (o:c.length=g.length) (r:l.length=(hI C g).length) (j:∀ x∈c,nS x) (bl:∀ x∈l,nS x) :
  (rJ C g c l).map (·.1)=g.map (·.2)++hI C g/\((rJ C g c l).map (·.1)).Nodup/\sU (gV (rJ C g c l)) C.ins (look (rJ C g c l)):=by
 have n:(g.map (·.2)++hI C g).Nodup:=by
  refine bE.mpr ⟨h.n2,(bE.mp h.gc.nd).1.filter _,λx f y t e=>?_⟩;subst e;have:=(cE.mp t).2;simp only[Bool.not_eq_true',decide_eq_false_iff_not] at this;exact this f
 have a:(g.map (·.2)++hI C g).length=(c++l).length:=by rw[bH,bH,aA,o,r]
 have b:(rJ C g c l).map (·.1)=g.map (·.2)++hI C g:=iU (lU a);refine⟨b,by rw[b];exact n,λx f=>?_⟩;have i:x∈(rJ C g c l).map (·.1):=by
  rw[b];by_cases d:x∈g.map (·.2)
  .exact bB _ d
  .exact aT _ (cE.mpr ⟨f,by simpa using d⟩)
 refine⟨(tX _ x).1 i,?_⟩;obtain⟨p,d,e⟩:=aN.mp i;have m:∀ q∈rJ C g c l,nS q.2:=λq s=>by
  have:=(eV s).2;exact (aV.mp this).elim (j _) (bl _)
 unfold look;cases k:(rJ C g c l).find? (λp=>decide (p.1=x)) with
 | none=>exact .inl rfl
 | some q=>exact m q (List.mem_of_find?_eq_some k)
theorem N1 (h:(mO n)[i]?=some b) (f:Aa Int->D) (g:(mO n).length<=64):sC (.T (((mO n).take i).map λl=>(l.map (Sum.inl:Int->gD),f l))) (mN b) (f b)=some (.T (((mO n).take (i+1)).map λl=>(l.map (Sum.inl:Int->gD),f l))):=by
 have a:(((mO n).take i).map λl=>(l.map (Sum.inl:Int->gD),f l)).length<100000:=by rw[aA,bU];omega
 show (if (((mO n).take i).map λl=>(l.map (Sum.inl:Int->gD),f l)).length<100000 then (tO (b.map D.int)).map (λk=>D.T (nM (((mO n).take i).map λl=>(l.map (Sum.inl:Int->gD),f l)) k (f b))) else none)=_;rw[aO a,zA,iG,LG h]
def Uc:RD:=λe b d=>∃ (C:Cel) (a:Aa (Af×Af)) (t:nB) (c:Aa Int),b=[nH C a,.k (gV t),mN c]/\RwOk C a/\c.length=a.length/\(∀ x∈c,nS x)/\d (.o (rO C a t c))
def G4:RD:=λd b c=>∃ (C:Cel) (a:Aa (Af×Af)) (t:nB),b=[nH C a,.k (gV t)]/\RwOk C a/\c (.o (sR C a t))
section
variable {P:Ah}{K:mI}
theorem Dr:FnScope ["row","weights","carried","found","bits","known","onward"] ["row","weights","carried"] (nF Ju):=oM
theorem Kv:FnScope ["row","weights","table","carried"] ["row","weights"] (nF Ga):=oM
theorem ON (T:Txt mg) (U:Kn P w K mg base 1 "all_bits" Dd ["count"] Aj) (g:Kn P w K mg base 2 "word_inputs" Es ["row"] Ld) (r:Kn P w K mg base 1 "carried_inputs" Cj ["row"] Gr) (J:Kn P w K mg base 3 "side_bits" Gv ["cell","bits"] Wu) (I:Kn P w K mg base 3 "cell_part" Gg ["row","weights","known"] To)
: oK P w K mg base 4 "steps_from" Ju ["row","weights","carried"] Uc:=by
 refine oS Dr λf aa A Z s H E dk ds Φ O S hR=>?_
 obtain⟨C,a,t,c,rfl,d,Q,W,Y⟩:=hR;refine⟨_,(hO (mS 3 Dr.nd B5) (hO (oW (nN (mU U O (dK (oJ qB qC T.len bN (dK (mU g O (dK (dT 0) eA)) eA)) eA))) (mM 4 Dr.nd) (hO (mS 5 Dr.nd (mU J O (dK (mP S 0 hL) (dK (Ck rfl (by rfl) T.dict (by rfl) T.zip (dK (nG oC oD (mU r O (dK (dT 0) eA)) (mU g O (dK (dT 0) eA))) (dK (qA oC oD 2 (dT 4)) eA))) eA)))) (hO (mS 6 Dr.nd (nZ uR uZ T.tuple cB (dK (oZ ["output","name"] ["known"] [5] (nN (mP S 0 hL)) (λ_ _ _ _ _=>(qR (n:=2) rfl (nE (mM 0 Ye) (nE (mM 1 Ye) pD)))) (λ_ _ _ _ _=>(mP S 2 (dT 0)))) eA))) (mQ (uI (n:=3) S (oN (dK (dT 6) (dK (mU I O (dK (dT 0) (dK (dT 1) (dK (dT 5) eA)))) eA))) (pv 3) (dT 4)))))) (mQ (nO (B8 3 (pv 3)))))),?_⟩;have af:=d.lp;have ae:=d.li;have l1:(hI C a).length<=C.ins.length:=bV _ _;have ab:=wB (show (hI C a).length<=6 by omega);have ac:=vF (hI C a).length;refine mK (λb=>b=_) (λN F=>F _ rfl) ?_;rintro _ rfl;refine mK (λb=>∃ L M B,b=[.v (nH C a),.v (.k (gV t)),.v (mN c),.o (rO C a t c),L,M,B]) (λN F=>?_) ?_
 .refine oV ((mO (hI C a).length).map mN) _ (λΨ h=>?_) (λi b=>∃ L M B,b=[.v (nH C a),.v (.k (gV t)),.v (mN c),.o (.T (((mO (hI C a).length).take i).map λl=>(l.map (Sum.inl:Int->gD),xS C a t c l))),L,M,B]) ⟨.n,.n,.n,rfl⟩ ?_ ?_
  .exact⟨C,a,rfl,by omega,by omega,.inl rfl,rfl,_,rfl,(hI C a).length,by rw[aA],by omega,.inl rfl,h⟩
  .rintro i x b u ⟨L,M,B,rfl⟩;obtain⟨l,hl,rfl⟩:=pR u;obtain⟨ll,lb⟩:=uA (aF hl);obtain⟨ek,nd,R⟩:=Gu d Q ll W lb;refine mK (λb=>∃ z,(∀ x∈C.ins++C.outs,mR z (Sum.inr x)=some (.int (pQ C a c l x)))/\b=[.v (nH C a),.v (.k (gV t)),.v (mN c),.o (.T (((mO (hI C a).length).take i).map λl=>(l.map (Sum.inl:Int->gD),xS C a t c l))),.v (mN l),.o (.k z),B]) (λN F=>?_) ?_
   .have ez:((a.map λp=>D.str p.2)++(hI C a).map D.str)=(a.map (·.2)++hI C a).map D.str:=by rw[aM,aR];rfl
    have ev:(c.map D.int++l.map D.int)=(c++l).map D.int:=(aM ..).symm;refine⟨rfl,_,rfl,C,a,rfl,by omega,.inl rfl,C,a,rfl,by omega,by omega,.inl rfl,by rw[aA,aA];omega,rfl,by rw[aA,aA,Q,ll];omega,false,true,_,_,(a.map (·.2)++hI C a).map Sum.inr,rfl,rfl,by rw[ez];exact keysL_strs _,by rw[aA,bH,aA];omega,?_⟩;have V:qF [] (((a.map (·.2)++hI C a).map (Sum.inr:Af->gD)).zip (c.map D.int++l.map D.int))=gV (rJ C a c l):=by
     rw[ev];have e3:((a.map (·.2)++hI C a).map (Sum.inr:Af->gD)).zip ((c++l).map D.int)=gV (rJ C a c l):=by
      unfold gV rJ;rw[lW];rfl
     rw[e3];exact xL nd
    rw[V];have le:(gV (rJ C a c l)).length<=100:=by
     have:=cG List.length ek;rw[aA,bH,aA] at this;unfold gV;rw[aA];omega
    exact⟨C,_,_,rfl,d.gc,R,le,λz q=>⟨.inl rfl,F _ ⟨z,q,rfl⟩⟩⟩
   rintro _ ⟨z,q,rfl⟩;refine mK (λb=>b=[.v (nH C a),.v (.k (gV t)),.v (mN c),.o (.T (((mO (hI C a).length).take i).map λl=>(l.map (Sum.inl:Int->gD),xS C a t c l))),.v (mN l),.o (.k z),.v (mN (a.map λp=>pQ C a c l p.1))]) (λN F=>?_) ?_
   .have hb:∀ x∈C.ins++C.outs,nS (pQ C a c l x):=λx u=>by
     by_cases G:x∈C.ins
     .unfold pQ;rw[E5 d.gc _ G];exact (R x G).2
     .exact Ij d.gc (λy X=>(R y X).2) x ((aV.mp u).resolve_left G)
    unfold qN dC aC;refine pL a (λp=>D.t [.str p.1,.str p.2]) (λp=>D.int (pQ C a c l p.1)) _ (λΨ h=>⟨rfl,_,rfl,h⟩) (by omega) (λj y ys Nx e h1 h2=>?_) ?_
    .refine⟨rfl,rfl,rfl,D.int (pQ C a c l y.1),?_,h1,h2⟩;show some (mR z (Sum.inr y.1))=_;rw[q y.1 (aT _ (d.m y (aF e)).1)]
    .have e4:mN (a.map λp=>pQ C a c l p.1)=D.t (a.map λp=>D.int (pQ C a c l p.1)):=by unfold mN;rw[List.map_map];rfl
     have k:=F _ rfl;rw[e4] at k;exact k
   rintro _ rfl;have hb:∀ x∈C.ins++C.outs,nS (pQ C a c l x):=λx u=>by
     by_cases G:x∈C.ins
     .unfold pQ;rw[E5 d.gc _ G];exact (R x G).2
     .exact Ij d.gc (λy X=>(R y X).2) x ((aV.mp u).resolve_left G)
   refine⟨C,a,t,z,pQ C a c l,rfl,d,λx u=>⟨q x u,hb x u⟩,.inl rfl,by show 2<=1000;decide,rfl,?_⟩;exact⟨_,N1 hl (xS C a t c) (by omega),_,_,_,rfl⟩
  .rintro b ⟨L,M,B,rfl⟩;rw[aA,cC];exact F _ ⟨L,M,B,rfl⟩
 rintro _ ⟨L,M,B,rfl⟩;exact Y
theorem PZ (T:Txt l) (j:Kn P w K l base 1 "all_bits" Dd ["count"] Aj) (g:Kn P w K l base 4 "steps_from" Ju ["row","weights","carried"] Uc)
: oK P w K l base 5 "step_table" Ga ["row","weights"] G4:=by
 refine oS Kv λf G A u s H E S V W B D O=>?_
 obtain⟨C,a,t,rfl,y,q⟩:=O;refine⟨_,(hO (mS 2 Kv.nd B5) (hO (oW (nN (mU j B (dK (oJ qB qC T.len bN (dK (mP D 0 hL) eA)) eA))) (mM 3 Kv.nd) (mQ (uI (n:=2) D (mU g B (dK (dT 0) (dK (dT 1) (dK (dT 3) eA)))) (pv 2) (dT 3)))) (mQ (nO (B8 2 (pv 2)))))),?_⟩;have m:=y.lp;have M:=wB m;have Q:=vF a.length;refine mK (λd=>d=_) (λN e=>e _ rfl) ?_;rintro _ rfl;refine mK (λd=>∃ b,d=[.v (nH C a),.v (.k (gV t)),.o (sR C a t),b]) (λN e=>?_) ?_
 .refine oV ((mO a.length).map mN) _ (λX h=>?_) (λi d=>∃ b,d=[.v (nH C a),.v (.k (gV t)),.o (.T (((mO a.length).take i).map λc=>(c.map (Sum.inl:Int->gD),rO C a t c))),b]) ⟨.n,rfl⟩ ?_ ?_
  .exact⟨rfl,_,rfl,rfl,_,rfl,a.length,by rw[aA],by omega,.inl rfl,h⟩
  .rintro i x d R ⟨b,rfl⟩;obtain⟨c,z,rfl⟩:=pR R;obtain⟨L,F⟩:=uA (aF z);exact⟨C,a,t,c,rfl,y,L,F,.inl rfl,rfl,_,N1 z (rO C a t) (by omega),_,rfl⟩
  .rintro d ⟨b,rfl⟩;rw[aA,cC];exact e _ ⟨b,rfl⟩
 rintro _ ⟨b,rfl⟩;exact q
end
theorem R0:(["bit","want"]:Aa Af).Nodup:=by decide +kernel
theorem Zy:(["name","edges"]:Aa Af).Nodup:=by decide +kernel
theorem PB:(["bits","asked"]:Aa Af).Nodup:=by decide +kernel
theorem Oq:(["out","into","bit","edges"]:Aa Af).Nodup:=by decide +kernel
noncomputable def nY:Ab Int->D
 | none=>.e
 | some i=>.int i
noncomputable def rR (b:Int) (o:Ab Int):Bool:=match o with
 | none=>true
 | some i=>decide (i=b)
def uM (bs:Aa Int) (os:Aa (Ab Int)):Bool:=(bs.zip os).all λp=>rR p.1 p.2
def rL (g:Aa (Af×Af)) (j:Af->Ab Int):Aa (Ab Int):=g.map λp=>j p.2
def uT (g:Aa (Af×Af)) (j:Af->Ab Int):Aa (Aa Int):=(mO g.length).filter λb=>uM b (rL g j)
theorem Ej (f:o->D) (g:r->D):∀ (j:Aa o) (l:Aa r),Bm (j.map f) (l.map g)=(j.zip l).map λp=>D.t [f p.1,g p.2]
 | [],_=>rfl
 | _::_,[]=>rfl
 | x::j,y::l=>by
  show D.t [f x,g y]::Bm (j.map f) (l.map g)=_;rw[Ej f g j l];rfl
theorem X0 (b:Int) (o:Ab Int):∃ v,rP (nY o)=some v/\uY v [.e,.int b]=rR b o:=by
 cases o with
 | none=>exact⟨.e,rfl,rfl⟩
 | some i =>
  refine⟨.int i,rfl,?_⟩;show (false||((b == i)||false))=decide (i=b);rw[Bool.or_false,Bool.false_or];by_cases h:i=b
  .subst h;simp
  .rw[bG h];simp;exact λe=>h e.symm
theorem Xd:∀ bs:Aa Bool,(!uY (.b false) (bs.map V.b))=bs.all id
 | []=>rfl
 | b::r=>by
  have a:=Xd r;unfold uY at a |-;rw[aP,eU,lO,<- a];cases b<;>rfl
theorem Qq:∀ bs:Aa Bool,rK (bs.map D.b)=some (bs.map V.b)
 | []=>rfl
 | b::r=>by rw[aP];unfold rK;rw[Qq r];rfl
theorem Mq (g:Af->Ab Int):∀ (j:Aa (Af×Af)) (b:Aa Int),(((j.zip b).map λp=>rR p.2 (g p.1.2)).all id)=uM b (rL j g)
 | [],b=>by cases b<;>rfl
 | _::_,[]=>rfl
 | p::r,x::b=>by
  have a:=Mq g r b;show (rR x (g p.2)&&(((r.zip b).map λp=>rR p.2 (g p.1.2)).all id))=(rR x (g p.2)&&uM b (rL r g));rw[a]
def V0:RD:=λd a c=>∃ (bs:Aa Int) (os:Aa (Ab Int)),a=[mN bs,.l (os.map nY)]/\bs.length<=100/\os.length<=100/\c (.v (.b (uM bs os)))
def Iv:RD:=λf d e=>∃ (C:Cel) (a:Aa (Af×Af)) (b:Aa (gD×D)) (c:Af->Ab Int),d=[nH C a,.k b]/\a.length<=6/\(∀ p∈a,mR b (Sum.inr p.2)=some (nY (c p.2)))/\e (.o (.l ((uT a c).map mN)))
section
variable {P:Ah}{K:mI}
theorem AK:FnScope ["bits","asked"] ["bits","asked"] (nF Hw):=oM
theorem Ux:FnScope ["row","edges","asked"] ["row","edges"] (nF Gz):=oM
theorem G5:FnScope ["row","edges","found","bits","good"] ["row","edges"] (nF Ib):=oM
theorem RH (T:Txt g):oK P w K g base 1 "are_let" Hw ["bits","asked"] V0:=by
 refine oS AK λf m A c s H E B F x u M q=>?_
 obtain⟨bs,os,rfl,G,L,a⟩:=q;refine⟨_,(mQ (nO (oJ (U4 rfl) W2 T.all PyProof.Rows.boot_all (dK (oZ ["bit","want"] [] [] (Jn (by rfl) T.zip (dK (dT 0) (dK (dT 1) eA))) (λ_ _ _ _ _=>(qR (n:=2) rfl (nE (mM 0 R0) (nE (mM 1 R0) pD)))) (λ_ _ _ _ _=>(TC (Cs O8 (Ng false) (pv 1) yL) (AF (Cs (rD u.units) (pN false) (pv 1) (dT 0)))))) eA)))),?_⟩;have N:(bs.zip os).length<=100:=by rw[eX];omega
 unfold qX dC aC;refine pL (bs.zip os) (λp=>D.t [.int p.1,nY p.2]) (λp=>D.b (rR p.1 p.2)) [.v (mN bs),.v (.l (os.map nY))] (λQ h=>⟨true,false,_,_,rfl,rfl,?_⟩) (by omega) (λj y O z e d k=>?_) ?_
 .rw[Ej];exact h
 .obtain⟨b,o⟩:=y;cases o with
  | none=>exact⟨rfl,rfl,rfl,d,k⟩
  | some i=>exact⟨rfl,rfl,rfl,rfl,d,k⟩
 .refine⟨(bs.zip os).map λp=>rR p.1 p.2,?_,?_⟩
  .rw[<- Mf,aR];rfl
  .show x (.v (.b (((bs.zip os).map λp=>rR p.1 p.2).all id)));rw[List.all_map];exact a
theorem SW (T:Txt J) (g:Kn P w K J base 1 "carried_inputs" Cj ["row"] Gr) (r:Kn P w K J base 1 "all_bits" Dd ["count"] Aj) (I:Kn P w K J base 1 "are_let" Hw ["bits","asked"] V0)
: oK P w K J base 2 "let_edges" Gz ["row","edges"] Iv:=by
 refine oS Ux λf F A z s H E Y Z Φ u S O=>?_
 obtain⟨C,a,d,c,rfl,m,R,x⟩:=O;refine⟨_,(hO (mS 2 Ux.nd (oZ ["name"] ["edges"] [1] (nN (mU g u (dK (dT 0) eA))) (λ_ _ _ _ _=>(mM 0 Zy)) (λ_ _ _ _ _=>(mP S 1 (dT 0))))) (mQ (nO (oZ ["bits"] ["asked"] [2] (nN (mU r u (dK (oJ qB qC T.len bN (dK (dT 2) eA)) eA))) (λ_ _ _ _ _=>(mM 0 PB)) (λ_ _ _ _ _=>(dT 0)) (ht:=λ_ _ _ _ _=>(Au (F2 (mU I u (dK (dT 0) (dK (dT 1) eA)))))))))),?_⟩;have L:=wB m;have Q:=vF a.length;refine mK (λX=>X=[.v (nH C a),.v (.k d),.o (.l ((rL a c).map nY))]) (λN M=>?_) ?_
 .unfold qN;have k:=M _ rfl;rw[show (rL a c).map nY=a.map (λp=>nY (c p.2)) by unfold rL;rw[List.map_map];rfl] at k;refine pL a (λp=>D.str p.2) (λp=>nY (c p.2)) [.v (nH C a),.v (.k d),.n] (λW h=>⟨C,a,rfl,by omega,.inl rfl,h⟩) (by omega) (λj y V B e q t=>?_) k;refine⟨rfl,nY (c y.2),?_,q,t⟩;show some (mR d (Sum.inr y.2))=_;rw[R y (aF e)]
 rintro _ rfl;unfold qX;refine yP (mO a.length) mN mN (λb=>uM b (rL a c)) [.v (nH C a),.v (.k d),.v (.l ((rL a c).map nY))] (λW h=>?_) (by omega) (λj b V B e q t G=>?_) ?_
 .exact⟨rfl,_,rfl,a.length,by unfold rL;rw[List.length_map,List.length_map],m,.inl rfl,h⟩
 .have U:=(uA (aF e)).1;refine⟨b,rL a c,rfl,by omega,by unfold rL;rw[List.length_map];omega,.inl rfl,rfl,_,rfl,?_⟩;cases i:uM b (rL a c) with
  | true=>exact (aO rfl).mpr ⟨q,t i⟩
  | false=>exact (aJ bC).mpr (G i)
 .exact x
theorem JC (T:Txt r) (g:Kn P w K r base 1 "_law_rows" Ct ["many"] Aj):oK P w K r base 2 "_law_let" Ib ["row","edges"] Iv:=by
 refine oS G5 λf Z A R s H E dk ds Φ hr M hR=>?_
 obtain⟨C,a,d,c,rfl,L,he,Q⟩:=hR;refine⟨_,(hO (mS 2 G5.nd (nX eA)) (hO (oW (nN (mU g hr (dK (oJ qB qC T.len bN (dK (mP M 0 hL) eA)) eA))) (mM 3 G5.nd) (hO (Ax 4 ["out","into","bit"] ["edges"] [1] G5.nd (Jn (by rfl) T.zip (dK (mP M 0 hL) (dK (dT 3) eA))) (λ_ _ _ _ _=>(qR (n:=2) rfl (nE (qR (n:=2) rfl (nE (mM 0 Oq) (nE (mM 1 Oq) pD))) (nE (mM 2 Oq) pD)))) (λ_ _ _ _ _=>(Do (Y0 M) (Dc false) (mP M 3 (dT 1)) (oN (dK yL (dK (dT 2) eA)))))) (mQ (qU (Dp (Fm M) (Dc true) wR (pv 4)) (mQ (sM (rC bF bQ bR sK tR (pv 2) (dK (dT 3) eA)))) qY)))) (mQ (nO (B8 2 (pv 2)))))),?_⟩;have U:=wB L;have aa:=vF a.length;refine mK (λm=>m=_) (λN G=>⟨by show 0<=1000;decide,G _ rfl⟩) ?_;rintro _ rfl;refine mK (λm=>∃ F u,m=[.v (nH C a),.v (.k d),.o (.l ((uT a c).map mN)),F,u]) (λN G=>?_) ?_
 .refine oV ((mO a.length).map mN) _ (λΨ h=>?_) (λi m=>∃ F u,m=[.v (nH C a),.v (.k d),.o (.l ((((mO a.length).take i).filter λb=>uM b (rL a c)).map mN)),F,u]) ⟨.n,.n,rfl⟩ ?_ ?_
  .exact⟨rfl,_,rfl,rfl,_,rfl,a.length,by rw[aA],L,.inl rfl,h⟩
  .rintro i x m hx ⟨F,u,rfl⟩;obtain⟨b,X,rfl⟩:=pR hx;obtain⟨bl,_⟩:=uA (aF X);obtain⟨z,B⟩:∃ z,z=(((mO a.length).take i).filter λb=>uM b (rL a c)):=⟨_,rfl⟩;have lf:z.length<=64:=by rw[B];exact bX (bV _ _) (by rw[bU];omega)
   rw[<- B];refine mK (λm=>m=[.v (nH C a),.v (.k d),.o (.l (z.map mN)),.v (mN b),.o (.l (((a.zip b).map λp=>rR p.2 (c p.1.2)).map D.b))]) (λN G=>?_) ?_
   .unfold qN;have k:=G _ rfl;rw[aR] at k;refine pL (a.zip b) (λp=>D.t [.t [.str p.1.1,.str p.1.2],.int p.2]) (λp=>D.b (rR p.2 (c p.1.2))) [.v (nH C a),.v (.k d),.o (.l (z.map mN)),.v (mN b),u] (λΨ h=>?_) (by rw[eX];omega) (λj y ys Y e I J=>?_) k
    .refine⟨rfl,_,rfl,true,true,_,_,rfl,rfl,?_⟩;rw[Ej];exact h
    .obtain⟨p,S⟩:=y;have hp:=(eV (aF e)).1;obtain⟨v,v1,v2⟩:=X0 S (c p.2);refine⟨rfl,rfl,rfl,rfl,rfl,nY (c p.2),?_,by show 2<=1000;decide,v,_,v1,rfl,I,?_⟩
     .show some (mR d (Sum.inr p.2))=_;rw[he p hp]
     .show Y (ys++[D.b (uY v [.e,.int S])]) _;rw[v2];exact J
   rintro _ rfl;refine⟨_,_,rfl,Qq _,?_⟩;show if (!uY (.b false) (((a.zip b).map λp=>rR p.2 (c p.1.2)).map V.b))=true then _ else _
   rw[Xd,Mq];have W:∀ q:Bool,uM b (rL a c)=q->((mO a.length).take (i+1)).filter (λb=>uM b (rL a c))=z++(if q=true then [b] else []):=λq O=>by
    rw[bM,X,List.filter_append,<- B];show z++[b].filter _=_;cases q<;>simp[O]
   cases O:uM b (rL a c) with
   | true =>
    refine (aO rfl).mpr ⟨rfl,by rw[aA];omega,.v (mN b),.o (.l (((a.zip b).map λp=>rR p.2 (c p.1.2)).map D.b)),?_⟩;rw[W true O,aO rfl,aM];rfl
   | false =>
    refine (aJ bC).mpr ⟨.v (mN b),.o (.l (((a.zip b).map λp=>rR p.2 (c p.1.2)).map D.b)),?_⟩;rw[W false O,aJ bC,dD]
  .rintro m ⟨F,u,rfl⟩;rw[aA,cC];exact G _ ⟨F,u,rfl⟩
 rintro _ ⟨F,u,rfl⟩;exact Q
end
def Hk (C:Cel) (g:Aa (Af×Af)) (t:nB) (u:Af->Int) (c l:Aa Int):Int :=
 look t "" + (((hI C g).zip l).map λp=>look t p.1*p.2).sum+((mZ C g).map λx=>look t x*u x).sum+((g.zip c).map λp=>look t p.1.2*p.2-look t p.1.2*2*u p.1.1).sum
theorem Q4:∀ {g:Aa Af}{j:Aa Int},g.Nodup->g.length=j.length->g.map (look (g.zip j))=j
 | [],[],_,_=>rfl
 | [],_::_,_,e=>by cases e
 | _::_,[],_,e=>by cases e
 | k::g,v::j,d,e=>by
  obtain⟨b,c⟩:=bY.mp d;rw[aP,cV,wM,aO rfl];have:g.map (look ((k,v)::g.zip j))=g.map (look (g.zip j)):=cX λx a=>by
   rw[wM,aJ];intro z;have z:k=x:=z;exact b (z▸a)
  rw[this,Q4 c (by simpa using e)]
theorem K5 (g:l->o):∀ j:Aa l,j.zip (j.map g)=j.map λx=>(x,g x)
 | []=>rfl
 | x::j=>by rw[aP,cV,K5 g j];rfl
theorem BL (h:RwOk C g) (t:nB) (j:c.length=g.length) (o:l.length=(hI C g).length) (r:∀ x∈c,nS x) (bl:∀ x∈l,nS x) :
  Hk C g t (pQ C g c l) c l=uJ C g t (pQ C g c l):=by
 obtain⟨q,f,y⟩:=Gu h j o r bl;have a:(g.map (·.2)++hI C g).length=(c++l).length:=by rw[bH,bH,aA,j,o]
 have e:(g.map (·.2)++hI C g).map (pQ C g c l)=c++l:=by
  have i:(g.map (·.2)++hI C g).map (pQ C g c l)=(g.map (·.2)++hI C g).map (look (rJ C g c l)):=by
   refine cX λx w=>?_
   have s:x∈C.ins:=(aV.mp w).elim (λk=>by obtain⟨p,v,rfl⟩:=aN.mp k;exact (h.m p v).2) λk=>(cE.mp k).1
   unfold pQ;rw[E5 h.gc _ s]
  rw[i];exact Q4 (by rw[q] at f;exact f) a
 rw[aM,aR] at e;obtain⟨b,d⟩:=List.append_inj e (by rw[aA,j]);generalize pQ C g c l=u at b d;subst b d;unfold Hk uJ;rw[K5,K5,aR,aR,aM,mF,<- fN];have n:((λp:(Af×Af)×Int=>look t p.1.2*p.2-look t p.1.2*2*u p.1.1)∘λp:Af×Af=>(p,(u∘λx=>x.2) p))=λp=>look t p.2*(u p.2-2*u p.1):=by
  funext p
  show look t p.2*u p.2-look t p.2*2*u p.1=_;rw[Int.mul_sub,kE]
 rw[n];rfl
def Qr:RD:=λf d e=>∃ (C:Cel) (a:Aa (Af×Af)) (t:nB) (b:Aa (gD×D)) (u:Af->Int) (c l:Aa Int),d=[nH C a,.k (gV t),.k b,mN c,mN l]/\RwOk C a/\sU b C.names u/\c.length<=6/\l.length<=6/\(∀ x∈c,nS x)/\(∀ x∈l,nS x)/\e (.v (.int (Hk C a t u c l)))
section
variable {P:Ah}{K:mI}
theorem vC:FnScope ["row","weights","known","carried","letter","total","ins","outs","name","bit","out","into"] ["row","weights","known","carried","letter"] (nF Jy):=oM
theorem Zj (T:Txt j) (g:Kn P w K j base 1 "_law_words_of" xG ["row"] Av):oK P w K j base 2 "_law_own_sum" Jy ["row","weights","known","carried","letter"] Qr:=by
 refine oS vC λf r A Y s H E dk ds Φ hr M I=>?_
 obtain⟨C,a,t,F,u,c,l,rfl,Q,Z,J,aa,R,S,V⟩:=I;refine⟨_,(hO (mS 5 vC.nd (uX M (pv 1) mW hL)) (hO (wN (m:=99) (mU g hr (dK (dT 0) eA)) (yR (n:=2) rfl (nE (mM 6 vC.nd) (nE (mM 7 vC.nd) pD)))) (hO (oW (Jn (by rfl) T.zip (dK (dT 6) (dK (dT 4) eA))) (qR (n:=2) rfl (nE (mM 8 vC.nd) (nE (mM 9 vC.nd) pD))) (mQ (mS 5 vC.nd (qA oC oD 5 (nG sF sA (uX M (pv 1) (dT 8) hL) (dT 9)))))) (hO (oW (nN (dT 7)) (mM 8 vC.nd) (mQ (mS 5 vC.nd (qA oC oD 5 (nG sF sA (uX M (pv 1) (dT 8) hL) (mP M 2 (dT 8))))))) (hO (oW (Jn (by rfl) T.zip (dK (mP M 0 hL) (dK (dT 3) eA))) (qR (n:=2) rfl (nE (qR (n:=2) rfl (nE (mM 10 vC.nd) (nE (mM 11 vC.nd) pD))) (nE (mM 9 vC.nd) pD))) (hO (mS 5 vC.nd (qA oC oD 5 (nG sF sA (uX M (pv 1) (dT 11) hL) (dT 9)))) (mQ (mS 5 vC.nd (qA vR wO 5 (nG sF sA (nG sF sA (uX M (pv 1) (dT 11) hL) hL) (mP M 2 (dT 10)))))))) (mQ (nO (dT 5)))))))),?_⟩;have ac:=Q.lp;have U:=Q.li;have ab:=Q.gc.lo;have l1:(hI C a).length<=C.ins.length:=bV _ _;have l2:(mZ C a).length<=C.outs.length:=bV _ _;have wn:∀ x∈mZ C a,x∈C.names:=λx O=>Q.gc.os x (cE.mp O).1
 refine mK (λB=>B=[.v (nH C a),.v (.k (gV t)),.v (.k F),.v (mN c),.v (mN l),.v (.int (look t "")),.n,.n,.n,.n,.n,.n]) (λN G=>?_) ?_
 .refine⟨rfl,_,rfl,?_⟩;show N [_,_,_,_,_,Sl.v ((mR (gV t) (Sum.inr (Str.ofString ""))).getD (D.int 0)),_,_,_,_,_,_];rw[vS];exact G _ rfl
 rintro _ rfl;refine mK (λB=>B=[.v (nH C a),.v (.k (gV t)),.v (.k F),.v (mN c),.v (mN l),.v (.int (look t "")),.v (.l ((hI C a).map D.str)),.v (.l ((mZ C a).map D.str)),.n,.n,.n,.n]) (λN G=>?_) ?_
 .exact⟨C,a,rfl,by omega,by omega,by omega,.inl rfl,rfl,rfl,G _ rfl⟩
 rintro _ rfl;refine mK (λB=>∃ q z d e,B=[.v (nH C a),.v (.k (gV t)),.v (.k F),.v (mN c),.v (mN l),.v (.int (look t "" + (((hI C a).zip l).map λp=>look t p.1*p.2).sum)),.v (.l ((hI C a).map D.str)),.v (.l ((mZ C a).map D.str)),q,z,d,e]) (λN G=>?_) ?_
 .refine oV (((hI C a).zip l).map λp=>D.t [.str p.1,.int p.2]) [.v (nH C a),.v (.k (gV t)),.v (.k F),.v (mN c),.v (mN l),.v (.int (look t "")),.v (.l ((hI C a).map D.str)),.v (.l ((mZ C a).map D.str)),.n,.n,.n,.n] (λo h=>?_) (λi B=>∃ q z d e,B=[.v (nH C a),.v (.k (gV t)),.v (.k F),.v (mN c),.v (mN l),.v (.int (look t "" + ((((hI C a).zip l).take i).map λp=>look t p.1*p.2).sum)),.v (.l ((hI C a).map D.str)),.v (.l ((mZ C a).map D.str)),q,z,d,e]) ⟨.n,.n,.n,.n,by simp⟩ ?_ ?_
  .refine⟨false,true,_,_,rfl,rfl,?_⟩;rw[Ej];exact h
  .rintro i x B O ⟨q,z,d,e,rfl⟩;obtain⟨y,L,rfl⟩:=pR O;refine⟨rfl,rfl,rfl,rfl,_,rfl,?_⟩;show wP ((mR (gV t) (Sum.inr y.1)).getD (D.int 0)) (D.int y.2) _;rw[vS];refine⟨.inr (C6 (S _ (eV (aF L)).2)),.v (.str y.1),.v (.int y.2),d,e,?_⟩;rw[zP (λp:Af×Int=>look t p.1*p.2) L,<- fN];rfl
  .rintro B ⟨q,z,d,e,rfl⟩;rw[aA,cC];exact G _ ⟨q,z,d,e,rfl⟩
 rintro _ ⟨q,z,d,e,rfl⟩;refine mK (λB=>∃ q z d e,B=[.v (nH C a),.v (.k (gV t)),.v (.k F),.v (mN c),.v (mN l),.v (.int (look t "" + (((hI C a).zip l).map λp=>look t p.1*p.2).sum+((mZ C a).map λx=>look t x*u x).sum)),.v (.l ((hI C a).map D.str)),.v (.l ((mZ C a).map D.str)),q,z,d,e]) (λN G=>?_) ?_
 .refine oV ((mZ C a).map D.str) _ (λo h=>h) (λi B=>∃ q z d e,B=[.v (nH C a),.v (.k (gV t)),.v (.k F),.v (mN c),.v (mN l),.v (.int (look t "" + (((hI C a).zip l).map λp=>look t p.1*p.2).sum+(((mZ C a).take i).map λx=>look t x*u x).sum)),.v (.l ((hI C a).map D.str)),.v (.l ((mZ C a).map D.str)),q,z,d,e]) ⟨q,z,d,e,by simp⟩ ?_ ?_
  .rintro i x B O ⟨q,z,d,e,rfl⟩;obtain⟨y,L,rfl⟩:=pR O;obtain⟨W,X⟩:=Z y (wn y (aF L));refine⟨rfl,rfl,_,rfl,rfl,D.int (u y),?_,?_⟩
   .show some (mR F (Sum.inr y))=_;rw[W]
   .show wP ((mR (gV t) (Sum.inr y)).getD (D.int 0)) (D.int (u y)) _;rw[vS];refine⟨.inr (C6 X),.v (.str y),z,d,e,?_⟩;rw[zP (λx:Af=>look t x*u x) L,<- fN];rfl
  .rintro B ⟨q,z,d,e,rfl⟩;rw[aA,cC];exact G _ ⟨q,z,d,e,rfl⟩
 rintro _ ⟨q,z,d,e,rfl⟩;refine mK (λB=>∃ q z d e,B=[.v (nH C a),.v (.k (gV t)),.v (.k F),.v (mN c),.v (mN l),.v (.int (Hk C a t u c l)),.v (.l ((hI C a).map D.str)),.v (.l ((mZ C a).map D.str)),q,z,d,e]) (λN G=>?_) ?_
 .refine oV ((a.zip c).map λp=>D.t [.t [.str p.1.1,.str p.1.2],.int p.2]) [.v (nH C a),.v (.k (gV t)),.v (.k F),.v (mN c),.v (mN l),.v (.int (look t "" + (((hI C a).zip l).map λp=>look t p.1*p.2).sum+((mZ C a).map λx=>look t x*u x).sum)),.v (.l ((hI C a).map D.str)),.v (.l ((mZ C a).map D.str)),q,z,d,e] (λo h=>?_) (λi B=>∃ q z d e,B=[.v (nH C a),.v (.k (gV t)),.v (.k F),.v (mN c),.v (mN l),.v (.int (look t "" + (((hI C a).zip l).map λp=>look t p.1*p.2).sum+((mZ C a).map λx=>look t x*u x).sum+(((a.zip c).take i).map λp=>look t p.1.2*p.2-look t p.1.2*2*u p.1.1).sum)),.v (.l ((hI C a).map D.str)),.v (.l ((mZ C a).map D.str)),q,z,d,e]) ⟨q,z,d,e,by simp⟩ ?_ ?_
  .refine⟨rfl,_,rfl,true,true,_,_,rfl,rfl,?_⟩;rw[Ej];exact h
  .rintro i x B O ⟨q,z,d,e,rfl⟩;obtain⟨⟨p,b⟩,L,rfl⟩:=pR O;obtain⟨m1,m2⟩:=Q.m p (eV (aF L)).1;obtain⟨W,X⟩:=Z p.1 (Q.gc.os _ m1);refine⟨rfl,rfl,rfl,rfl,rfl,rfl,_,rfl,?_⟩;show wP ((mR (gV t) (Sum.inr p.2)).getD (D.int 0)) (D.int b) _;rw[vS];refine⟨.inr (C6 (R _ (eV (aF L)).2)),rfl,rfl,_,rfl,?_⟩;show wP ((mR (gV t) (Sum.inr p.2)).getD (D.int 0)) (D.int 2) _;rw[vS];refine⟨.inr ⟨by decide,by decide⟩,rfl,D.int (u p.1),?_,.inr (C6 X),q,.v (.int b),.v (.str p.1),.v (.str p.2),?_⟩
   .show some (mR F (Sum.inr p.1))=_;rw[W]
   rw[zP (λp:(Af×Af)×Int=>look t p.1.2*p.2-look t p.1.2*2*u p.1.1) L,<- fN,Int.sub_eq_add_neg,<- fN];rfl
  .rintro B ⟨q,z,d,e,rfl⟩;rw[aA,cC];exact G _ ⟨q,z,d,e,rfl⟩
 rintro _ ⟨q,z,d,e,rfl⟩;exact V
end
end Lw
namespace L2
open PySem PySem.Spec PyProof.Rows Lw
abbrev xP:=Aa Ad->Ad->D->(D->Aa Sl->Prop)->Aa Sl->Prop
def dH (K:mI) (j:xP):TS:=λk e H=>∃ (B:Bs) (d:Aa Sl) (a:Ad) (g:D) (T:oF) (i:D->Aa Sl->Prop),d.length=e.length/\DS K B (d.zip e++(.o g,some (.ref a))::T) H/\j B.dk a g i d /\
 ∀ h c b f,c.length=b.length->b.length=e.length->DS K B (c.zip b++(.o h,some (.ref a))::T) f->i h c->k.nx b f
theorem dH.elim {K:mI}{P:Prop}(h:dH K τ U C H) (f:∀ (B:Bs) (p:Aa Sl) (a:Ad) (g:D) (T:oF) (r:D->Aa Sl->Prop),p.length=C.length->DS K B (p.zip C++(.o g,some (.ref a))::T) H->τ B.dk a g r p ->(∀ J l j I,l.length=j.length->j.length=C.length->DS K B (l.zip j++(.o J,some (.ref a))::T) I->r J l->U.nx j I)->P):P:=by
 obtain⟨B,p,a,g,T,r,b,hd,c,k⟩:=h;exact f B p a g T r b hd c k
abbrev Ey (X:Cx) (st:Stmt) (g:xP):Prop:=PS X st (dH X.K g)
abbrev El (X:Cx) (st:Aa Stmt) (g:xP):Prop:=qG X st (dH X.K g)
def Tz (t:qS):xP:=λb a g c d=>t b { nx:=c g,rt:=λ_=>False } d
def U7 (t u:xP):xP:=λc a g e f=>t c a g (λd b=>u c a d e b) f
def U0 (l:wG) (g:uV) (j:xP):xP:=λh a m n q=>l h q λk e=>∃ Pv:Nat->D->Aa Sl->Prop,Pv 0 m e /\
 (∀ i d b c,k[i]?=some d->Pv i b c->g d c λf=>j h a b (Pv (i+1)) f)/\∀ b c,Pv k.length b c->n b c
def KN (l j o:nL):xP:=λb a g i s=>o b s λq c=>l b c λn e=>n = .v (.r (.ref a))/\j b e λm f=>match sd q,sd m with
 | some d,some k=>∃ h,sC g k d=some h/\i h f
 | _,_=>False
def MB (n:Nat) (g:nL) (j:xP):qS:=λf k i=>(at? i n).isSome=true/\g f i λq e=>∃ b h c,sd q=some (.t h)/\tO h=some c/\e[n]?=some (.o (.T b))/\b.length<100000/\(∀ p∈b,p.1≠c) /\
 ∀ a,j f a (.T []) (λm d=>d[n]?=some (.o (.T (b++[(c,.r (.ref a))])))/\k.nx (d.set n (.o (.T (b++[(c,m)]))))) (e.set n (.o (.T (b++[(c,.r (.ref a))]))))
section
variable {X:Cx}{K:mI}
theorem DS.redo (h:DS K B (g++(.o c,y)::j) H) (l:∀ A a,y=some (.ref a)->Al B (mJ (g++(Sl.o c,y)::j))=A->pU K A H a c->pU K A H a c'):DS K B (g++(.o c',y)::j) H:=by
 have b:mJ (g++(Sl.o c',y)::j)=mJ (g++(Sl.o c,y)::j):=by
  rw[sO,sO];have:yU (Sl.o c',y)=yU (Sl.o c,y):=by
   cases y with
   | none=>rfl
   | some v=>cases v<;>rfl
  rw[this]
 refine⟨h.fr,h.dk,by rw[b];exact h.nd,by rw[b];exact h.new,λp d=>?_⟩;rw[b];simp only[aV,aK] at d;rcases d with q | q | q
 .exact h.ok p (bB _ q)
 .subst q;obtain⟨a,e,r⟩:=h.at;exact⟨a,e,l _ a e rfl r⟩
 .exact h.ok p (aT _ (aQ _ q))
theorem Reps.last {A:Ad->Prop}{d l:D}{v:V}{g:Aa D}{j:Aa V}(h:Reps K A H (g++[d]) j) (f:∀ u,Rep K A H d u->Rep K A H l u):Reps K A H (g++[l]) j:=by
 induction g generalizing j with
 | nil=>cases h with | cons h r=>cases r;exact .cons (f _ h) .nil
 | cons _ g a=>cases h with | cons h r=>exact .cons h (a r)
theorem DS.putBack {p:Aa Sl}{C:St}{n:Nat}{j:Aa (Aa gD×D)}{l:Aa gD}{a:Ad}{g:D}(I:p.length=C.length) (h:DS K B (p.zip C++(.o g,some (.ref a))::T) H) (e:p[n]?=some (.o (.T (j++[(l,.r (.ref a))])))) :
  DS K B ((p.set n (.o (.T (j++[(l,g)])))).zip C++T) H:=by
 have f:=h.thaw (d:=g) rfl;obtain⟨i,y,k,L,_,t,c⟩:=wK I e;have s:=c (.o (.T (j++[(l,g)]))) y;rw[Bh L] at s;have m:=f.valAt;have z:DS K B (i++(.o (.T (j++[(l,.r (.ref a))])),y)::(k++(.v g,some (.ref a))::T)) H:=by rw[t] at f;simpa using f
 have x:mJ (i++(Sl.o (.T (j++[(l,.r (.ref a))])),y)::(k++(Sl.v g,some (V.ref a))::T))=mJ (p.zip C++T):=by
  rw[<- Jx (L1:=p.zip C) (d:=g) (y:=some (V.ref a)),t];simp
 have E:=z.redo (c':=.T (j++[(l,g)])) λA b _ q r=>by
  rw[x] at q;have m:Rep K A H g (.ref a):=by rw[<- q];exact m
  obtain⟨O,M,N,w⟩:=r;refine⟨O,M,?_,?_⟩
  .rw[<- N,aM,aM];rfl
  .rw[aM] at w |-;exact w.last (v:=.e) λu G=>by
    have:=G.raw_inv;rw[this];exact m
 have F:DS K B ((i++(.o (.T (j++[(l,g)])),y)::k)++(.v g,some (.ref a))::T) H:=by simpa using E
 rw[s];exact F.drop
theorem J3 {st:Stmt}(h:vB X st t):Ey X st (Tz t):=h.mono λu w H b=>b.elim λB s a g T v i hd k q=>⟨B,s,(.o g,some (.ref a))::T,_,i,hd,k,λc e f m n d=>⟨q g c e f m n d,λz=>z.elim,λz=>z.elim⟩,λ_ _ _ _ _ _ _ z=>z.elim⟩
theorem O9 {st:Stmt}(h:Ey X st t):El X [st] t:=sD h
theorem G7 {st:Stmt}{rest:Aa Stmt}(j:Ey X st t) (l:El X rest u):El X (st::rest) (U7 t u):=(qE j l).mono λE G H b=>b.elim λB A a g T x k hd m s =>
 ⟨B,A,a,g,T,_,k,hd,m,λi c D F n q d z=>⟨B,c,a,i,T,x,n,d,z,λg2 e f h v w d2 y=>s g2 e f h v (w.trans q) d2 y⟩⟩
theorem BH {iter:Expr}(hp:PassesOwn (model X.prog X.w) X.A X.env X.xe) (hc:X.calm=true) (hi:xF X j iter ι) (hg:vW X m j g) (hb:El X body tb)
  (hs:∀ x,foldedSetIterable iter X.env x=pure x:=by intro _;rfl):Ey X (.For j iter body [] pos) (U0 ι g tb) :=
 (Bc hp hc hi hg hb hs).mono λDn Z H O=>O.elim λB ρ a V T nx hl hd ht lk=>⟨B,ρ,(.o V,some (.ref a))::T,_,hl,hd,ht,λJ F R E H1 l1 d1 Y P=>by
  obtain⟨Pv,p0,step,fin⟩:=P;have sw:∀ {L:oF} {c:D} {k:Hp},DS X.K B (L++(E++(.o c,some (.ref a))::T)) k->DS X.K B (L++(.o c,some (.ref a))::(E++T)) k:=λh=>h.perm (gF _ fG)
  have sb:∀ {L:oF} {c:D} {k:Hp},DS X.K B (L++(.o c,some (.ref a))::(E++T)) k->DS X.K B (L++(E++(.o c,some (.ref a))::T)) k:=λh=>h.perm (gF _ fG.symm)
  refine⟨λi m f k=>m=F.length-i/\i<=F.length/\∃ b c,b.length=f.length/\f.length=Z.length/\DS X.K B (b.zip f++(E++(.o c,some (.ref a))::T)) k/\Pv i c b,⟨_,rfl,cR _,R,V,l1,rfl,d1,p0⟩,?_⟩;rintro i m f k ⟨rfl,aa,b,c,W,m2,G,pv⟩;have s:xW X.K (Al B (mJ (b.zip f++(E++(.o c,some (.ref a))::T)))) k E:=λq hq=>G.ok q (by simp[hq])
  by_cases t:i<F.length
  .refine .inr ⟨Y.go i k _ t s,λn u=>∃ e g2,e.length=n.length/\n.length=Z.length/\DS X.K B (e.zip n++(E++(.o g2,some (.ref a))::T)) u/\Pv (i+1) g2 e,λn u ⟨e,g2,q1,q2,Q,q4⟩=>⟨_,(by omega:F.length-(i+1)<_),rfl,t,e,g2,q1,q2,Q,q4⟩,λx u y=>?_⟩;obtain⟨d,M,alt⟩:=Y.yld i k _ x u t s y;have d2:DS X.K B (b.zip f++(.v d,some x)::(E++(.o c,some (.ref a))::T)) u:=by
    rcases alt with⟨rfl,rx⟩ | ⟨p,es,vs,N,rfl,rfl,rfl,rr⟩
    .exact G.push rx
    .exact G.tup N rr
   refine⟨B,b,E++(.o c,some (.ref a))::T,d,_,W,d2,step i d c b M pv,λe n H3 n1 n2 _ C Q=>⟨B,e,a,c,E++T,_,n1,sw C,Q,?_⟩⟩;intro U S ab H4 l a2 r z;exact⟨S,U,l,by omega,sb r,z⟩
  .have I:i=F.length:=by omega
   subst I;exact .inl ⟨Y.stop _ k _ rfl s,lk c b f k W m2 G.rmE (fin c b pv)⟩⟩
theorem BC (U:X.A.units+1<cLine) (hv:PD X e tv) (I:PD X o to) (C:PD X i ti)
  (r:∀ v,assign (.Subscript o i g) X.env v=(do
   let j <- holding [v] (eval o X.env);let p <- holding [v,j] (eval i X.env)
   standAt g
   holding [v,j,p] (setItem j p v)
   release [v,j,p] []):=by intro _;rfl)
  (J:swapsWithSole [.Subscript o i g] e pos.line X.env=pure false:=by rfl) (hw:swappedStores [.Subscript o i g] e X.env=pure none:=by rfl)
  (l:(assignEach [.Subscript o i g] X.env).map (·.2)=[assign (.Subscript o i g) X.env]:=by rfl):Ey X (.Assign [.Subscript o i g] e pos) (KN to ti tv) :=
 (Br hv (Cq I C (Mj U) r) J hw l).mono λDn z H q=>q.elim λB ρ a h T nx Q hd S lk=>⟨B,ρ,(.o h,some (.ref a))::T,_,Q,hd,S,λt u v H1 W d1 l =>⟨B,u,(t,some v)::(.o h,some (.ref a))::T,_,W,d1,l,λro w x H2 Y d2 s=>by
   obtain⟨n,O⟩:=s;subst n;have ex:=d2.valAt.raw_inv;subst ex;refine⟨B,w,(t,some v)::(.o h,some (.ref a))::T,_,Y,d2.drop,O,λrk c y H3 Z G b=>?_⟩;cases f:sd t with
   | none=>rw[f] at b;exact b.elim
   | some d =>
    cases m:sd rk with
    | none=>rw[f,m] at b;exact b.elim
    | some k =>
     rw[f,m] at b;obtain⟨N,P,b⟩:=b;obtain⟨D,E,F⟩:=G.two f m;obtain⟨a',L,ra⟩:=D.ownAt;cases L;have M:mJ (c.zip z++(Sl.o h,some (V.ref a))::T)=mJ (c.zip z)++a::mJ T:=sO;rw[M] at E F;exact K6 P ra F.peek E λo R=>lk N c z _ Z rfl (D.write R) b⟩⟩
theorem BX {rest:Aa Stmt}(hu:X.A.units+1<cLine) (hv:PD X e Wr) (ho:PE X o (pX n)) (hi:PD X i ti) (l:El X rest τ)
  (J:∀ v,assign (.Subscript o i g) X.env v=(do
   let p <- holding [v] (eval o X.env);let C <- holding [v,p] (eval i X.env)
   standAt g
   holding [v,p,C] (setItem p C v)
   release [v,p,C] []):=by intro _;rfl)
  (hs:swapsWithSole [.Subscript o i g] e pos.line X.env=pure false:=by rfl) (hw:swappedStores [.Subscript o i g] e X.env=pure none:=by rfl)
  (I:(assignEach [.Subscript o i g] X.env).map (·.2)=[assign (.Subscript o i g) X.env]:=by rfl):vX X (.Assign [.Subscript o i g] e pos::rest) (MB n ti τ) :=
 (qE (Br hv (Cq ho hi (Mj hu) J) hs hw I) l).mono λDn σ H u=>u.elim λB Q T De hl hd ⟨hn,ht⟩ lk=>⟨B,Q,T,λr k=>r = .o (.T [])/\k=Q,hl,hd,⟨rfl,rfl⟩,λrv w v H1 N d1 f=>by
  obtain⟨S,m⟩:=f;subst S m;obtain⟨d0,Y⟩:=cS.mp hn;obtain⟨x,G,_⟩:=d1.peek N Y;obtain⟨a,rfl,_⟩:=d1.ownAt;refine⟨x,G,B,w,(.o (.T []),some (.ref a))::T,_,N,d1,ht,λrk aa y H2 O d2 f=>?_⟩;obtain⟨c,M,L,m,V,W,s,h,Z⟩:=f;obtain⟨q1,q2⟩:=d2.one m;obtain⟨b,F,rb,wr⟩:=q1.slotW O W;rw[G] at F;cases F;have U:sC (.T c) (.t M) (.r (.ref a))=some (.T (c++[(L,.r (.ref a))])):=by
   show (if c.length<100000 then (tO M).map λj=>D.T (nM c j (.r (.ref a))) else none)=_;rw[aO s,V];show some (D.T (nM c L (.r (.ref a))))=_;unfold nM;rw[aJ];intro z;obtain⟨q,hq,e⟩:=gA.mp z;exact h q hq (cU e)
  exact K6 U rb q2.peek (.r _) λo hr=>⟨B,_,a,.T [],T,_,by rw[bW];exact O,wr o _ hr,Z a,λg' k E R P m2 d ⟨z1,z2⟩=>(lk.1 _ E R (by rw[bW];exact P) m2 (DS.putBack P d z1)).1 z2⟩⟩
end
end L2
namespace Lw
open PySem L2
theorem Ph:(["out","into","known"]:Aa Af).Nodup:=by decide +kernel
theorem Xy:(["out","into"]:Aa Af).Nodup:=by decide +kernel
theorem IR (p:Aa D) (o:Aa Sl) (r:∀ J:Aa D->Aa Sl->Prop,J p o->ι I ρ J) (Pv:Nat->D->Aa Sl->Prop) (U:Pv 0 T o)
  (hs:∀ i d j l,p[i]?=some d->Pv i j l->g d l λC=>tb I a j (Pv (i+1)) C) (hf:∀ j l,Pv p.length j l->nx j l):U0 ι g tb I a T nx ρ:=r _ ⟨Pv,U,hs,hf⟩
theorem Gw (Q:Aa Sl->Prop) (o:∀ N:Aa Sl->Prop,(∀ j,Q j->N j)->t l { nx:=N,rt:=λ_=>False } C) (p:∀ j,Q j->u l a g r j):U7 (Tz t) u l a g r C:=o _ p
theorem LY {j:Type} [DecidableEq j] {g:Aa (j×D)}{k:j}{d:D}(h:∀ p∈g,p.1≠k):mR (g++[(k,d)]) k=some d:=by
 unfold mR;rw[List.find?_append,List.find?_eq_none.mpr λp a=>by rw[fE];exact h p a];simp
theorem S1 (h:(mO n)[i]?=some b) (g:b∈(mO n).take i):False:=by
 obtain⟨j,e,c⟩:=eM g;rw[bU] at e;have d:(mO n)[j]?=some b:=by rw[lK] at c;exact aL.mpr ⟨by omega,c⟩
 have a:j<(mO n).length:=by omega
 have:=(lL a (Dv n)).mp (d.trans h.symm);omega
section
variable {P:Ah}{K:mI}
theorem zW:FnScope ["row","weights","found","ins","carried","letter","bits","known","behind"] ["row","weights"] (nF Ih):=oM
theorem LL (T:Txt mg) (U:Kn P w K mg base 1 "_law_words_of" xG ["row"] Av)
  (I:Kn P w K mg base 1 "_law_rows" Ct ["many"] Aj) (J:Kn P w K mg base 2 "_law_all_bits" Eh ["cell","bits"] Lu)
  (aa:Kn P w K mg base 2 "_law_own_sum" Jy ["row","weights","known","carried","letter"] Qr):oK P w K mg base 3 "_law_steps" Ih ["row","weights"] G4:=by
 refine oS zW λf ah A ae s H E dk ds Φ Z Q hR=>?_
 obtain⟨C,b,t,rfl,M,ac⟩:=hR;refine⟨_,(hO (mS 2 zW.nd B5) (hO (mS 3 zW.nd (qP Q (mU U Z (dK (dT 0) eA)) hL)) (hO (oW (nN (mU I Z (dK (oJ qB qC T.len bN (dK (mP Q 0 hL) eA)) eA))) (mM 4 zW.nd) (BX (n:=2) Q B5 (pv 2) (dT 4) (O9 (BH (m:=99) eF rfl (nN (mU I Z (dK (oJ qB qC T.len bN (dK (dT 3) eA)) eA))) (mM 5 zW.nd) (G7 (J3 (mS 6 zW.nd (Ck rfl (by rfl) T.dict (by rfl) T.zip (dK (oZ ["out","into"] [] [] (nN (mP Q 0 hL)) (λ_ _ _ _ _=>(qR (n:=2) rfl (nE (mM 0 Xy) (nE (mM 1 Xy) pD)))) (λ_ _ _ _ _=>(dT 1))) (dK (dT 4) eA))))) (G7 (J3 (sM (rC jI PySem.F.slot_dict_update PySem.F.type_dict_update Yc P6 (pv 6) (dK (Ck rfl (by rfl) T.dict (by rfl) T.zip (dK (dT 3) (dK (dT 5) eA))) eA)))) (G7 (J3 (mS 7 zW.nd (mU J Z (dK (mP Q 0 hL) (dK (dT 6) eA))))) (G7 (J3 (mS 8 zW.nd (nZ uR uZ T.tuple cB (dK (oZ ["out","into"] ["known"] [7] (nN (mP Q 0 hL)) (λ_ _ _ _ _=>(qR (n:=2) rfl (nE (mM 0 Ph) (nE (mM 1 Ph) pD)))) (λ_ _ _ _ _=>(mP Q 2 (dT 0)))) eA)))) (O9 (BC Q (oN (dK (dT 8) (dK (mU aa Z (dK (dT 0) (dK (dT 1) (dK (dT 7) (dK (dT 4) (dK (dT 5) eA)))))) eA))) (mP Q 2 (dT 4)) (dT 5))))))))))) (mQ (nO (B8 2 (pv 2))))))),?_⟩;have Y:=M.lp;have ak:=M.li;have an:=M.gc.lo;have l1:(hI C b).length<=C.ins.length:=bV _ _;have ai:=wB (show (hI C b).length<=6 by omega);have af:=wB Y;have aj:=vF (hI C b).length;have ag:=vF b.length;refine mK (λd=>d=[.v (nH C b),.v (.k (gV t)),.o (.T []),.n,.n,.n,.n,.n,.n]) (λN G=>G _ rfl) ?_;rintro _ rfl;refine mK (λd=>d=[.v (nH C b),.v (.k (gV t)),.o (.T []),.v (.l ((hI C b).map D.str)),.n,.n,.n,.n,.n]) (λN G=>?_) ?_
 .exact⟨C,b,rfl,by omega,by omega,by omega,.inl rfl,_,rfl,G _ rfl⟩
 rintro _ rfl;refine mK (λd=>∃ V z B u q,d=[.v (nH C b),.v (.k (gV t)),.o (sR C b t),.v (.l ((hI C b).map D.str)),V,z,B,u,q]) (λN G=>?_) ?_
 .refine oV ((mO b.length).map mN) _ (λΨ h=>?_) (λi d=>∃ V z B u q,d=[.v (nH C b),.v (.k (gV t)),.o (.T (((((mO b.length).take i)).map λc=>(c.map (Sum.inl:Int->gD),rO C b t c)))),.v (.l ((hI C b).map D.str)),V,z,B,u,q]) ⟨.n,.n,.n,.n,.n,rfl⟩ ?_ ?_
  .exact⟨rfl,_,rfl,rfl,_,rfl,b.length,by rw[aA],Y,.inl rfl,h⟩
  .rintro i x d hx ⟨V,z,B,u,q,rfl⟩;obtain⟨c,hc,rfl⟩:=pR hx;obtain⟨cl,cb⟩:=uA (aF hc);refine⟨rfl,((((mO b.length).take i)).map λc=>(c.map (Sum.inl:Int->gD),rO C b t c)),c.map D.int,c.map Sum.inl,rfl,zA c,rfl,by rw[aA,bU];omega,λp hp e=>?_,λa=>?_⟩
   .obtain⟨c',S,rfl⟩:=aN.mp hp;have e:c'=c:=Co e;subst e;exact S1 hc S
   refine IR ((mO (hI C b).length).map mN) [.v (nH C b),.v (.k (gV t)),.o (.T (((((mO b.length).take i)).map λc=>(c.map (Sum.inl:Int->gD),rO C b t c))++[(c.map (Sum.inl:Int->gD),.r (.ref a))])),.v (.l ((hI C b).map D.str)),.v (mN c),z,B,u,q] (λΨ h=>?_) (λj g d=>g = .T (((mO (hI C b).length).take j).map λl=>(l.map (Sum.inl:Int->gD),xS C b t c l))/\∃ z B u q,d=[.v (nH C b),.v (.k (gV t)),.o (.T (((((mO b.length).take i)).map λc=>(c.map (Sum.inl:Int->gD),rO C b t c))++[(c.map (Sum.inl:Int->gD),.r (.ref a))])),.v (.l ((hI C b).map D.str)),.v (mN c),z,B,u,q]) ⟨rfl,z,B,u,q,rfl⟩ ?_ ?_
   .exact⟨rfl,_,rfl,(hI C b).length,by rw[aA],by omega,.inl rfl,h⟩
   .rintro j x g d hx ⟨rfl,z,B,u,q,rfl⟩;obtain⟨l,hl,rfl⟩:=pR hx;obtain⟨ll,lb⟩:=uA (aF hl);obtain⟨ek,nd,hh⟩:=Gu M cl ll cb lb;obtain⟨W,X⟩:∃ W,W=D.T (((((mO b.length).take i)).map λc=>(c.map (Sum.inl:Int->gD),rO C b t c))++[(c.map (Sum.inl:Int->gD),.r (.ref a))]):=⟨_,rfl⟩;rw[<- X];have L:rJ C b c l=(b.map (·.2)).zip c++(hI C b).zip l:=by unfold rJ;exact List.zip_append (by rw[List.length_map,cl])
    have Cf:(((b.map (·.2)).zip c).map (·.1)).Nodup:=by
     have:=nd;rw[L,aM] at this;exact (bE.mp this).1
    have ab:(((hI C b).zip l).map (·.1)).Nodup:=by
     have:=nd;rw[L,aM] at this;exact (bE.mp this).2.1
    refine Gw (λd=>d=[.v (nH C b),.v (.k (gV t)),.o W,.v (.l ((hI C b).map D.str)),.v (mN c),.v (mN l),.o (.k (gV ((b.map (·.2)).zip c))),u,q]) (λN G=>?_) ?_
    .unfold qN dC aC;refine pL b (λp=>D.t [.str p.1,.str p.2]) (λp=>D.str p.2) _ (λΨ h=>⟨rfl,_,rfl,h⟩) (by omega) (λj y ys Nx e h1 h2=>⟨rfl,rfl,h1,h2⟩) ?_;have e0:(b.map λp=>D.str p.2)=(b.map (·.2)).map D.str:=by rw[aR];rfl
     refine⟨false,true,_,_,(b.map (·.2)).map Sum.inr,rfl,rfl,by rw[e0];exact keysL_strs _,by rw[aA,aA];omega,?_⟩;have e3:((b.map (·.2)).map (Sum.inr:Af->gD)).zip (c.map D.int)=gV ((b.map (·.2)).zip c):=by unfold gV;rw[List.zip_map];rfl
     have k:=G _ rfl;rw[<- xL Cf,<- e3] at k;exact k
    rintro _ rfl;refine Gw (λd=>d=[.v (nH C b),.v (.k (gV t)),.o W,.v (.l ((hI C b).map D.str)),.v (mN c),.v (mN l),.o (.k (gV (rJ C b c l))),u,q]) (λN G=>?_) ?_
    .refine⟨rfl,false,true,_,_,(hI C b).map Sum.inr,rfl,rfl,keysL_strs _,by rw[aA];omega,?_⟩;have e3:((hI C b).map (Sum.inr:Af->gD)).zip (l.map D.int)=gV ((hI C b).zip l):=by unfold gV;rw[List.zip_map];rfl
     have le:(gV ((b.map (·.2)).zip c)).length+(gV ((hI C b).zip l)).length<=1000:=by
      unfold gV;rw[aA,aA,eX,eX];omega
     have k:=G _ rfl;rw[L,<- Ou _ _ (by rw[<- L];exact nd),<- xL ab,<- e3] at k;rw[<- xL ab,<- e3] at le;exact⟨le,k⟩
    rintro _ rfl;refine Gw (λd=>∃ R,sU R C.names (pQ C b c l)/\d=[.v (nH C b),.v (.k (gV t)),.o W,.v (.l ((hI C b).map D.str)),.v (mN c),.v (mN l),.v (.k (gV (rJ C b c l))),.o (.k R),q]) (λN G=>?_) ?_
    .exact⟨rfl,_,rfl,C,_,_,rfl,M.gc,hh,λR O=>⟨.inl rfl,G _ ⟨R,O,rfl⟩⟩⟩
    rintro _ ⟨R,O,rfl⟩;refine Gw (λd=>d=[.v (nH C b),.v (.k (gV t)),.o W,.v (.l ((hI C b).map D.str)),.v (mN c),.v (mN l),.v (.k (gV (rJ C b c l))),.o (.k R),.v (mN (b.map λp=>pQ C b c l p.1))]) (λN G=>?_) ?_
    .unfold qN dC aC;refine pL b (λp=>D.t [.str p.1,.str p.2]) (λp=>D.int (pQ C b c l p.1)) _ (λΨ h=>⟨rfl,_,rfl,h⟩) (by omega) (λj y ys Nx e h1 h2=>?_) ?_
     .refine⟨rfl,rfl,rfl,D.int (pQ C b c l y.1),?_,h1,h2⟩;show some (mR R (Sum.inr y.1))=_;rw[(O y.1 (M.gc.os _ (M.m y (aF e)).1)).1]
     .have e4:mN (b.map λp=>pQ C b c l p.1)=D.t (b.map λp=>D.int (pQ C b c l p.1)):=by unfold mN;rw[List.map_map];rfl
      have k:=G _ rfl;rw[e4] at k;exact k
    rintro _ rfl;refine⟨C,b,t,R,pQ C b c l,c,l,rfl,M,O,by omega,by omega,cb,lb,.inl rfl,by show 2<=1000;decide,?_⟩;rw[BL M t cl ll cb lb];subst X;refine⟨rfl,D.r (.ref a),?_,rfl,_,N1 hl (xS C b t c) (by omega),rfl,_,_,_,_,rfl⟩;show (tO (c.map D.int)).map _=_;rw[zA,iG,LY λp hp e=>?_];obtain⟨c',S,rfl⟩:=aN.mp hp;have e:c'=c:=Co e;subst e;exact S1 hc S
   .rintro g d ⟨rfl,z,B,u,q,rfl⟩;rw[aA,cC];refine⟨rfl,.v (mN c),z,B,u,q,?_⟩;rw[bM,hc,aM];rfl
  .rintro d ⟨V,z,B,u,q,rfl⟩;rw[aA,cC];exact G _ ⟨V,z,B,u,q,rfl⟩
 rintro _ ⟨V,z,B,u,q,rfl⟩;exact ac
end
end Lw
namespace L2
open PySem PySem.Spec PyProof.Rows Lw
structure YS (K:mI) (J:It) (ds:List D) (S:Hp->Prop):Prop where
 go:∀ i H,i<ds.length->S H->J.go i H
 yld:∀ i H x H',i<ds.length->S H->J.yld i H x H'->∃ d,ds[i]?=some d/\H'=H/\∀ A,Rep K A H d x
 stop:∀ i H,i=ds.length->S H->J.stop i H
def Li (g:nL):wG:=λc e d=>g c e λr b=>match r with
 | .v (.T a)=>d (tF a) b
 | _=>False
def T4 (X:Cx) (g:TE):TI:=λe H R=>g e H λx c=>∃ a b,x = .ref a/\((c a=some (.T b)/\∀ o,(∀ d u,X.H₀ a≠some (.frz d u))->R (yH a o b) (upd c a (.frz o (.T b))))\/∃ o,c a=some (.frz o (.T b))/\R (yH a o b) c)
section
variable {X:Cx}
theorem Vo (g:PE X l j):PI X p l (T4 X j):=by
 intro d s z H R I h;refine mV (g d s z H _ I h) λv f t=>?_
 obtain⟨x,A,m,K,a,c,e,alt⟩:=t;subst e;cases K;obtain⟨o,k,n,i,q⟩:∃ o k,Inv X d z k f/\k a=some (.frz o (.T c))/\R (yH a o c) k:=by
  rcases alt with⟨i,q⟩ | ⟨o,i,q⟩
  .obtain⟨o,G⟩:∃ o,f.heap.get? a=some o:=by
    obtain⟨_,_,_,_,o,_,_,e,_⟩:=(show oG X.prog X.w A f.heap a (.T c) from m.hok a _ i);exact⟨o,e⟩
   exact⟨o,_,m.frozen i G,mX,q o λy u e=>by
    have:=m.base.frzs a y u e;rw[i] at this;cases this⟩
  .exact⟨o,_,m,i,q⟩
 obtain⟨D,B,raw,sz,_⟩:=Mo n.hok i;have E:∀ b∈[f.heap.objs.size],uQ X d k b:=λb F=>by
  have e:b=f.heap.objs.size:=by simpa using F
  subst e;exact n.fpOk (aU _) (n.hok.fresh (aU _))
 refine Ks raw ⟨f.heap.objs.size,[f.heap.objs.size],_,yH a o c,k,rfl,n.kept (t':=f.toks) λb y q=>aG _ q,IZ a _ o c,⟨B,⟨D,raw.dat⟩,?_⟩,E,q⟩;exact⟨_,bA _ rfl,rfl,by rw[sz];rfl⟩
def thawQ (X:Cx) (Q:Hp->Prop) (H:Hp):Prop:=Q H\/∃ a o b,H a=some (.frz o (.T b))/\(∀ c u,X.H₀ a≠some (.frz c u))/\Q (upd H a (.T b))
theorem Inv.thawQ (I:Inv X g l H s) (h:L2.thawQ X Q H):∃ j,Inv X g l j s/\Q j:=by
 rcases h with h | ⟨a,o,d,c,b,h⟩
 .exact⟨H,I,h⟩
 .exact⟨_,I.thawed c b,h⟩
theorem FY (h:PE X e t):PE X e (λg H Q=>t g H λv=>thawQ X (Q v)):=λa s g H Q I q=>by
 refine mV (h a s g H _ I q) λv u b=>?_
 obtain⟨x,n,d,m,i⟩:=b;obtain⟨c,f,k⟩:=d.thawQ i;exact⟨x,c,f,m,k⟩
def Ends.thawQ (X:Cx) (D:Ends):Ends where
 nx:=λa=>L2.thawQ X (D.nx a)
 rt:=λv=>L2.thawQ X (D.rt v)
 bk:=λa=>L2.thawQ X (D.bk a)
 ct:=λa=>L2.thawQ X (D.ct a)
theorem IM {st:Stmt}(h:PS X st t):PS X st (λD g H=>t (D.thawQ X) g H):=λi s g H D I q=>by
 refine mV (h i s g H _ I q) λf n q=>?_
 cases f with
 | next=>obtain⟨a,k,b,d⟩:=q;obtain⟨m,c,e⟩:=b.thawQ d;exact⟨a,_,c,e⟩
 | brk=>obtain⟨a,k,b,d⟩:=q;obtain⟨m,c,e⟩:=b.thawQ d;exact⟨a,_,c,e⟩
 | cont=>obtain⟨a,k,b,d⟩:=q;obtain⟨m,c,e⟩:=b.thawQ d;exact⟨a,_,c,e⟩
 | ret u=>obtain⟨v,a,k,b,r,d⟩:=q;obtain⟨m,c,e⟩:=b.thawQ d;exact⟨v,a,_,c,r,e⟩
theorem K0 {K:mI}(l:j.map (·.1)=g.map (·.1)):YS K (yH a o g) (tF j) λH=>H a=some (.frz o (.T g)):=by
 have f:(tF j).length=g.length:=by
  have:=cG List.length l;unfold tF
  simpa using this
 refine⟨λi H d c=>⟨c,by rw[<- f];exact d⟩,?_,λi H d c=>⟨c,by rw[d,f]⟩⟩;rintro i H x n d c ⟨rfl,k,w,p,h,rfl,m⟩;refine⟨.t (k.map A8),?_,rfl,λA=>.t m (Hm k)⟩;have b:(g.map (·.1))[i]?=some k:=by rw[aW,h];rfl
 rw[<- l,aW] at b;unfold tF;rw[aW];cases e:j[i]? with
 | none=>rw[e] at b;cases b
 | some p=>rw[e] at b;cases b;rfl
theorem Rl {T:Aa Af}{j:Aa Nat}{g:uV}{tt:sL}{te:nL}{K:mI}(aa:j.Nodup){σ:St}{H1:Hp}{Q:VK}{B:Bs}{C:Aa Sl}{Tm:oF}{Φ:Sl->Aa Sl->Prop}{J:It}{ds:Aa L2.D}{S:Hp->Prop}{D:Ad}(l1:C.length=σ.length) (d1:DS K B (C.zip σ++Tm) H1) (Y:YS K J ds S)
  (hS:∀ D,H1 D=none->∀ p L H,DS K (nW B D p) L H->S H)
  (ac:∃ Pv:Nat->Aa L2.D->Aa Sl->Prop,Pv 0 [] (pW j C) /\ (∀ i d p I,ds[i]?=some d->I.length=j.length->Pv i p I->g d (List.replicate T.length Sl.n++I) λae=>tt B.dk ae λb ab=>if b=true then te B.dk ab λr af=>match sd r with
    | some c=>p.length<100000/\Pv (i+1) (p++[c]) (af.drop T.length)
    | none=>False
    else Pv (i+1) p (ab.drop T.length)) /\
   ∀ p I,I.length=j.length->Pv ds.length p I->Φ (.o (.l p)) (rA j I C))
  (k:∀ r U v H',U.length=σ.length->DS K B (U.zip σ++(r,some v)::Tm) H'->Φ r U->Q v H') (hD:H1 D=none):B9 T j J (dG K T.length g) (uO K tt) (dE K te) σ H1 Q D :=
 Xk aa l1 d1 (λi p q M H _ d=>⟨λa=>Y.go i H a (hS D hD _ _ _ d),λa=>Y.stop i H a (hS D hD _ _ _ d),λx f a y=>by obtain⟨h,e,rfl,m⟩:=Y.yld i H x f a (hS D hD _ _ _ d) y;exact⟨h,e,d.push (m _)⟩⟩) ac k hD
end
section
variable {X:Cx}
theorem DS.known2 {K:mI}(d:DS K B (L++(.v (.T p),some v)::T) H) :
  ∃ a g,v = .ref a/\p.map (·.1)=g.map (·.1)/\a∉B.dk /\
   ((H a=some (.T g)/\∀ o,DS K (qJ B a o g) (L++T) (upd H a (.frz o (.T g)))/\∀ l j,DS K (qJ B a o g) l j->DS K B l (upd j a (.T g))) \/ ∃ o,H a=some (.frz o (.T g))/\DS K (qJ B a o g) (L++T) H/\∀ l j,DS K (qJ B a o g) l j->DS K B l j):=by
 have hd:=d.drop;have rep:=d.valAt;obtain⟨a,g,rfl,al,rd,k,m⟩:=rep.dT_inv;have c:=al.1;refine⟨a,g,rfl,k,c,?_⟩;rcases rd with f | ⟨i,f⟩
 .refine .inl ⟨f,λo=>⟨hd.fz (o:=o) ⟨λb n=>mT n,.inl f,.inr ⟨o,mX⟩⟩ mX al,λl j h=>h.th ⟨λb n=>mT n,.inr ⟨o,h.known c⟩,.inl mX⟩ c (λu e=>?_) al.2.2⟩⟩;have:=hd.fr a u e c;rw[f] at this;rw[mX];exact this
 .refine .inr ⟨i,f,hd.fz ⟨λ_ _=>rfl,.inr ⟨i,f⟩,.inr ⟨i,f⟩⟩ f al,λl j h=>h.th ⟨λ_ _=>rfl,.inr ⟨i,h.known c⟩,.inr ⟨i,h.known c⟩⟩ c (λu e=>?_) al.2.2⟩;have:=hd.fr a u e c;rw[f] at this;rw[h.known c];exact this
theorem Yg {K:mI}{B:Bs}{a D:Ad}{o:Obj}{g:Aa (Aa gD×V)}{r:Aa V}{L:oF}{H j:Hp}(C:a∉B.dk) (p:j a=some (.frz o (.T g))) (I:j D=none) (d:DS K (nW (qJ B a o g) D r) L H):H a=some (.frz o (.T g)):=by
 have ne:a≠D:=λz=>by rw[z,I] at p;cases p
 refine d.fr a _ ?_ C;show (if a=D then some (.l r) else if a=a then some (HO.frz o (.T g)) else B.H0 a)=_;rw[aJ ne,aO rfl]
theorem JS (l:j.Nodup) (h:dE X.K (vA T.length j (Li C) g I p) J H Q) :
  Bj T j (T4 X (dE X.K C)) (dG X.K T.length g) (uO X.K I) (dE X.K p) J H λv=>thawQ X (Q v):=by
 obtain⟨B,G,Tm,O,y,hd,A,k⟩:=h;refine⟨B,G,Tm,_,y,hd,A,λr M v N t d1 f=>?_⟩;cases r<;>first | exact False.elim f | skip
 rename_i d
 cases d<;>first | exact False.elim f | skip
 rename_i E
 obtain⟨a,b,rfl,s,n,alt⟩:=d1.known2;refine⟨a,b,rfl,?_⟩;rcases alt with⟨i,x⟩ | ⟨o,i,d2,back⟩
 .refine .inl ⟨i,λo w D c=>?_⟩;obtain⟨d2,back⟩:=x o;exact Rl (B:=qJ B a o b) l t d2 (K0 s) (λD c F L H d=>Yg n mX c d) f (λr e v u q m z=>.inr ⟨a,o,b,m.known n,w,k r e v _ q (back _ _ m) z⟩) c
 .refine .inr ⟨o,i,λD c=>?_⟩;exact Rl (B:=qJ B a o b) l t d2 (K0 s) (λD c F L H d=>Yg n i c d) f (λr e v u q m z=>.inl (k r e v _ q (back _ _ m) z)) c
theorem P5 {iter:Expr}(T o:Aa Af) (r:Aa Nat) (hc:X.calm=true) (hi:PD X iter ti)
  (hk:j.kind = .function) (ho:Fq X.N X.env.kindOf j T o r=true)
  (hg:∀ p l C I J,vW (uF X (T++o) j I C p l J) T.length tg g)
  (ht:∀ p l C I J,vV (uF X (T++o) j I C p l J) ab (uO X.K tt))
  (he:∀ p l C I J,PD (uF X (T++o) j I C p l J) aa te)
  (U:r.Nodup:=by decide) (hs:∀ x,foldedSetIterable iter X.env x=pure x:=by intro _;rfl):PD X (.ListComp aa [⟨tg,iter,ab,0⟩] j pos) (vA T.length r (Li ti) g tt te) :=
 (FY (zY T o r hc (Vo hi) hk ho hg ht he hs)).mono λ_ _ _ h=>JS U h
theorem Kr {iter:Expr}(hp:PassesOwn (model X.prog X.w) X.A X.env X.xe) (hc:X.calm=true) (hi:PD X iter ti) (hg:vW X m tg g) (hb:vX X body tb)
  (hs:∀ x,foldedSetIterable iter X.env x=pure x:=by intro _;rfl):vB X (.For tg iter body [] pos) (Kf (Li ti) g tb) :=
 (IM (Bc hp hc (Vo hi) hg hb hs)).mono λDn R H aa=>aa.elim λB ρ T De hl hd ht Z=>by
  refine⟨B,ρ,T,_,hl,hd,ht,λr Q v H1 l1 d1 C=>?_⟩;cases r<;>first | exact False.elim C | skip
  rename_i d
  cases d<;>first | exact False.elim C | skip
  rename_i u
  obtain⟨Pv,p0,step,fin⟩:=C;obtain⟨a,e,rfl,ek,p,alt⟩:=d1.known2;have Y:∀ o,_:=λo=>K0 (K:=X.K) (a:=a) (o:=o) ek
  have F:∀ (o:Obj) (q:Ends) (E:Hp),DS X.K (qJ B a o e) (Q.zip R++T) E->(∀ (c:Aa Sl) (b:St) (f:Hp),c.length=b.length->b.length=R.length->DS X.K (qJ B a o e) (c.zip b++T) f->De.nx c->q.nx b f) ->
    (∀ (r:Sl) (v:V) (c:Aa Sl) (b:St) (f:Hp),c.length=b.length->DS X.K (qJ B a o e) (c.zip b++(r,some v)::T) f->De.rt r->q.rt v f) ->
    ∃ W:Nat->Nat->St->Hp->Prop,(∃ m,W 0 m R E)/\∀ i n b f,W i n b f->((yH a o e).stop i f/\q.nx b f)\/((yH a o e).go i f/\∃ N:St->Hp->Prop,(∀ G t,N G t->∃ m',m'<n/\W (i+1) m' G t)/\∀ x t,(yH a o e).yld i f x t->dG X.K m g x b t λk H3=>dS X.K tb { nx:=N,ct:=N,bk:=q.nx,rt:=q.rt } k H3):=λo q E d0 P ab=>by
   refine⟨λi m b f=>m=(tF u).length-i/\i<=(tF u).length/\∃ c,c.length=b.length/\b.length=R.length/\DS X.K (qJ B a o e) (c.zip b++T) f/\Pv i c,⟨_,rfl,cR _,Q,l1,rfl,d0,p0⟩,?_⟩;rintro i m b f ⟨rfl,ac,c,m1,m2,l,pv⟩;have U:=l.known p;by_cases L:i<(tF u).length
   .refine .inr ⟨(Y o).go i f L U,λk E=>∃ h,h.length=k.length/\k.length=R.length/\DS X.K (qJ B a o e) (h.zip k++T) E/\Pv (i+1) h,λk E ⟨h,q1,q2,q3,q4⟩=>⟨_,(by omega:(tF u).length-(i+1)<_),rfl,L,h,q1,q2,q3,q4⟩,λx E y=>?_⟩;obtain⟨d,J,rfl,rx⟩:=(Y o).yld i f x E L U y;refine⟨qJ B a o e,c,T,d,_,m1,l.push (rx _),step i d c J pv,λh k H3 n1 n2 _ d3 q3=>⟨qJ B a o e,h,T,_,n1,d3,q3,?_,?_⟩⟩
    .intro D M j s S O;exact⟨λz=>⟨D,s,by omega,O,z⟩,λz=>P D M j s (by omega) O z,λz=>⟨D,s,by omega,O,z⟩⟩
    .exact λr v D M j s O z=>ab r v D M j s O z
   .have ei:i=(tF u).length:=by omega
    subst ei;exact .inl ⟨(Y o).stop _ f rfl U,P c b f m1 m2 l (fin c pv)⟩
  refine⟨a,e,rfl,?_⟩;rcases alt with⟨I,hh⟩ | ⟨o,I,d2,back⟩
  .refine .inl ⟨I,λo h0=>?_⟩;obtain⟨d2,back⟩:=hh o;exact F o _ _ d2 (λc b f s S d z=>.inr ⟨a,o,e,d.known p,h0,(Z.1 c b _ s S (back _ _ d)).1 z⟩) λr v c b f s d z=>.inr ⟨a,o,e,d.known p,h0,Z.2 r v c b _ s (back _ _ d) z⟩
  .exact .inr ⟨o,I,F o _ _ d2 (λc b f s S d z=>.inl ((Z.1 c b _ s S (back _ _ d)).1 z)) λr v c b f s d z=>.inl (Z.2 r v c b _ s (back _ _ d) z)⟩
end
end L2
namespace L2
open PySem PySem.W PySem.Spec PyProof.Rows Lw
def rT {g:Type}(n:Nat) (R:g->Prop):KasT g->Prop
 | .ret a=>R a
 | .ask i j k=>i<n/\j<n/\∀ b,rT n R (k b)
theorem rT.bind {R:l->Prop}{S:o->Prop}(g:∀ a,R a->rT n S (f a)):∀ {t:KasT l},rT n R t->rT n S (t.bind f)
 | .ret a,h=>g a h
 | .ask i j k,⟨c,d,e⟩=>⟨c,d,λb=>rT.bind g (e b)⟩
theorem rT.wp {R:o->Prop}(l:∀ i j (C:Bool->Ae->Prop),i<n->j<n->(∀ b,C b s)->cmp i j C s) (g:∀ a,R a->G a s):∀ {t:KasT o},rT n R t->t.kasWp cmp G s
 | .ret a,h=>g a h
 | .ask i j k,⟨c,d,e⟩=>l i j _ c d λb=>rT.wp l g (e b)
def Rg (n:Nat) (p:Array Nat):Prop:=p.Perm (List.toArray (List.range n))
section
theorem Rg.lt (h:Rg n p) (g:0<n) (i:Nat):p.getD i 0<n:=by
 by_cases b:i<p.size
 .have e:p.getD i 0=p[i]:=by simp[Array.getD,b]
  rw[e];have:=(h.mem_iff (a:=p[i])).mp (Array.getElem_mem b)
  simpa using this
 .have e:p.getD i 0=0:=by simp[Array.getD,b]
  rw[e];exact g
theorem Rg.rev (h:Rg n p) (i j:Nat):Rg n (kas_rev p i j):=(mirror_perm _ _ _ _).trans h
theorem Rg.bub (h:Rg n p) (i j:Nat):Rg n (bubble p i j):=(bubble_perm _ _ _).trans h
theorem Kx (h:Rg n p) (g:0<n):∀ f m,rT n (λ_=>True) (kas_asc p f m)
 | 0,m=>trivial
 | f+1,m=>⟨h.lt g _,h.lt g _,λb=>by cases b<;>first | exact trivial | exact Kx h g f (m+1)⟩
theorem Hc (g:0<n):∀ f (p:Array Nat) m q,Rg n p->rT n (λr=>Rg n r.1) (kas_desc f p m q)
 | 0,p,m,q,h=>h
 | f+1,p,m,q,h=>⟨h.lt g _,h.lt g _,λb=>by
  cases b with
  | true =>
   show rT n _ (if q>0 then _ else _);by_cases a:q>0
   .rw[aO a];exact Hc g f _ _ _ (h.rev _ _)
   .rw[aJ a];exact Hc g f _ _ _ h
  | false=>exact⟨h.lt g _,h.lt g _,λb=>by cases b<;>first | exact h | exact Hc g f _ _ _ h⟩⟩
theorem T2 (g:0<n) (h:Rg n p) (m r:Nat):rT n (λq=>Rg n q.2) (kas_tail3 m r p):=rT.bind (S:=λq:Nat×Array Nat=>Rg n q.2) (f:=λa=>.ret (a,kas_rev p 0 m)) (λ_ _=>h.rev 0 m) (Kx (h.rev 0 m) g _ _)
theorem Q8 (g:0<n) (h:Rg n p) (m r:Nat):rT n (λq=>Rg n q.2) (kas_descPart m r p):=(Hc g _ _ _ _ h).bind λq a=>by
 by_cases b:q.2.2>0
 .rw[aO b];exact T2 g (Rg.rev a _ _) _ _
 .rw[aJ b];exact T2 g a _ _
theorem IV (g:0<n) (h:Rg n p) (r:Nat):rT n (λq=>Rg n q.2) (kas_count r p):=(Kx h g _ _).bind λm _=>by
 by_cases a:(m == r)=true
 .rw[aO a];exact h
 .rw[aJ a];by_cases c:m>1
  .rw[aO c];exact⟨h.lt g _,h.lt g _,λb=>by cases b<;>first | exact h | exact Q8 g (h.rev _ _) _ _⟩
  .rw[aJ c];exact Q8 g h _ _
theorem So (g:0<n) (h:Rg n p) (k:Nat):∀ f l r,rT n (λ_=>True) (kas_place p k f l r)
 | 0,_,_=>trivial
 | f+1,l,r=>by
  show rT n _ (if l>=r then _ else _);by_cases a:l>=r
  .rw[aO a];exact trivial
  .rw[aJ a];exact⟨h.lt g _,h.lt g _,λb=>by cases b<;>exact So g h k f _ _⟩
theorem Ud (g:0<n):∀ f (p:Array Nat) k,Rg n p->rT n (Rg n) (kas_bin f p k)
 | 0,_,_,h=>h
 | f+1,p,k,h=>(So g h k _ _ _).bind λ_ _=>Ud g f _ _ (h.bub _ _)
theorem DR (g:0<n):rT n (Rg n) (kas_sort n):=(IV g (Array.Perm.refl _) _).bind λr h=>by
 by_cases a:r.1<n
 .rw[aO a];exact Ud g _ _ _ h
 .rw[aJ a];exact h
end
theorem FK (h:Rg g.length p):(p.toList.map λi=>g.getD i Value.none).Perm g:=by
 have b:p.toList.Perm (List.range g.length):=by have:=h;unfold Rg at this;simpa using this.toList
 refine (b.map _).trans ?_;have:(List.range g.length).map (λi=>g.getD i Value.none)=g:=by
  apply jQ;intro i;rw[aW];by_cases a:i<g.length
  .rw[kU a];simp[a]
  .rw[fF (by simpa using Nat.le_of_not_lt a),fF (by omega)];rfl
 rw[this]
section
theorem KQ {P:PySem.Fin->Ae->Prop}(I:s.heap.get? a=some (seqObj "list" vs.toArray n)) (T:vs.length<64)
  (hk:2<=vs.length->∃ U,∀ r:Ae,(∀ b o,b≠a->s.heap.get? b=some o->r.heap.get? b=some o)->(∀ (Q:SortKind->Ae->Prop) E,Q U r->wpAny (model l w) A (keyKind' vs.toArray) Q E r) /\ ∀ i j (C:Bool->Ae->Prop),i<vs.length->j<vs.length->(∀ b,C b r)->kas_ask l w A U vs i j C r)
  (h:∀ (g:Aa Ac) (J:Ag) (c:Nat),g.Perm vs->J.get? a=some (seqObj "list" g.toArray c)->(∀ b o,b≠a->s.heap.get? b=some o->J.get? b=some o)->P (.done (.ret .none)) { s with heap:=J }) :
  wpAny (model l w) A (Builtin.«list.sort» ⟨[.ref a],[]⟩) P E s:=by
 have line:vs.length<=sizeLine:=by rw[kF];omega
 have N:=aZ I;let B:=s.heap.update a (Obj.mapSeq λ_=>(#[]:Array Ac));let f:=(B.push (seqObj "tuple" vs.toArray 0)).push (seqObj "list" #[] 0);obtain⟨q,D⟩:∃ q,B.get? a=some (seqObj "list" #[] q):=⟨_,get?_update_seq I λ_=>#[]⟩;have z:f.get? a=some (seqObj "list" #[] q):=aG _ (aG _ D);have old:∀ b o,b≠a->s.heap.get? b=some o->f.get? b=some o:=λb o t e=>aG _ (aG _ (((fW s.heap a _).2 b t).trans e))
 have last:∀ (st:SortSt) (g:Aa Ac),(arrOf st).map (·.2)=g.toArray->failedOf st=none->g.Perm vs ->
   wpAny (model l w) A (do
    let d:=(<- seqEpoch a) != q
    Builtin.List.listUpdate (.ref a) λ_=>(arrOf st).map (·.2)
    if let some e:=failedOf st then rule "list.sort.comparison-raised";throw e
    if d then rule "list.sort.modified";raiseError "ValueError" "list modified during sort"
    ret .none) P E { s with heap:=f }:=λst g K H u=>by
  have lo:g.length<=sizeLine:=by rw[u.length_eq];exact line
  rw[K,H];refine aB (seqEpoch_at z rfl (aB (listUpdate_at z rfl ?_ (cR _) (by show g.toArray.size<=_;rw[aY];omega))));simp only[bne_self_eq_false,eC,gC];exact aI (h g _ _ u (get?_update_seq z λ_=>g.toArray) λb o t e=>((fW f a _).2 b t).trans (old b o t e))
 rw[list_sort_plain];refine aB (listItems_at I rfl (aB (listUpdate_at I rfl ?_ (by rw[aY];exact line) (cR _))));refine aB (seqEpoch_at D rfl (aB (wpAny_newTuple ?_ line)));refine aB (wpAny_newList (cD ?_) (cR _));show wpAny (model l w) A _ P E { s with heap:=f };dsimp only;by_cases k:vs.toArray.size<2
 .rw[aO k,aO k];refine aB (aI (aB (aI ?_)));refine last _ vs ?_ rfl (List.Perm.refl _);show (vs.toArray.zip vs.toArray).map (·.2)=vs.toArray;apply lP.mp;simp[List.map_snd_zip]
 .rw[aJ k,aJ k];have m:2<=vs.length:=by rw[aY] at k;omega
  obtain⟨U,y⟩:=hk m;obtain⟨L,M⟩:=y { s with heap:=f } old;refine aB (L _ _ ?_);refine aB (cO (kat_run (ks:=vs) (vs:=vs) (G:=λp r=>Rg vs.length p/\r={ s with heap:=f }) (Q:=λst r=>r={ s with heap:=f }/\failedOf st=none/\∃ g,(arrOf st).map (·.2)=List.toArray g/\g.Perm vs)
   rfl m T (λp st r _ v x ⟨g1,g2⟩=>⟨g2,x,_,kat_snds rfl v,FK g1⟩) (rT.wp M (λp u=>⟨u,rfl⟩) (DR (by omega)))) ?_ λ_ _ e=>e)
  rintro ⟨⟨⟩,st⟩ r ⟨rfl,v,g,x,F⟩;exact last st g x v F
end
theorem DN (f:p->C) (h:o.Perm r):∀ g:Aa p,r=g.map f->∃ j:Aa p,j.Perm g/\o=j.map f:=by
 induction h with
 | nil=>intro g e;cases g with
  | nil=>exact⟨[],.refl _,rfl⟩
  | cons _ _=>cases e
 | cons x _ s=>intro g e;cases g with
  | nil=>cases e
  | cons z g =>
   obtain⟨b,a⟩:=dO e;obtain⟨j,c,d⟩:=s g a;exact⟨z::j,c.cons z,by rw[aP,<- b,d]⟩
 | swap x y l=>intro g e;cases g with
  | nil=>cases e
  | cons z g=>cases g with
   | nil=>cases e
   | cons u g =>
    obtain⟨b,a⟩:=dO e;obtain⟨a,m⟩:=dO a;exact⟨u::z::g,.swap _ _ _,by rw[aP,aP,<- b,<- a,<- m]⟩
 | trans _ _ i k =>
  intro g e;obtain⟨j,c,d⟩:=k g e;obtain⟨t,n,q⟩:=i j d;exact⟨t,n.trans c,q⟩
section
theorem GI (C:A.handled=none) (I:Ad) (l:d≠I):Walks p w A I [I,d] [I] g.size (λi v=>∃ j:i<g.size,v=g[i].key) (λi h=>h.IsKeyIter I d i g.size r/\RawD h d o g r) where
 sub:=λb a=>by simp at a;simp[a]
 frame:=λ_ _ _ st m=>⟨st.1.at λo e=>m I (by simp) o e,⟨st.2.low,m d (by simp) _ st.2.get,st.2.ex,st.2.dat⟩⟩
 item:=λi s Q E j st c=>Nv st.2 st.1 j λf k n=>c _ f s.toks ⟨j,rfl⟩ ⟨k,⟨st.2.low,(n.2 d l).trans st.2.get,st.2.ex,st.2.dat⟩⟩ λb o a e=>(n.2 b (λz=>a (by simp[z]))).trans e
 done:=λs Q E st c=>Ot C st.2 st.1 λf q=>c f s.toks λb o a e=>q b o (λz=>a (by simp[z])) e
 self:=λ_ _ _ _ st c=>kK st.1 c
theorem Yq:KdlSrc j w "dict" d d g.size (λi v=>∃ p:i<g.size,v=g[i].key) (λh=>RawD h d o g l) where
 type:=λ_ a=>a.ty
 there:=λ_ a=>⟨aZ a.get,aZ a.get⟩
 keep:=λ_ _ a e=>⟨a.low,e d (.inl rfl) _ a.get,a.ex,a.dat⟩
 notList:=by decide
 notTuple:=by decide
 hint:=λ_ _ _ _ a b=>kdl_hint_dict a.ty b
 iter:=λ_ _ c a=>⟨_,_,(λ_ _ b=>Ks a b),GI c _ (bO (aZ a.get)),⟨⟨_,bA _ rfl,rfl,rfl⟩,⟨a.low,aG _ a.get,a.ex,a.dat⟩⟩⟩
theorem P7 (g:∀ b,Q b s):∀ (l:Aa (Ac×Ac)) (i:Nat),(∀ p∈l,∃ x t y u,p=(Value.int x t,Value.int y u))->KatLex j w A true fin Q l i s
 | [],i,_=>kat_nil (g fin)
 | p::l,i,h=>by
  obtain⟨x,t,y,u,rfl⟩:=h p aH;refine kat_cons (wpAny_eqBool_int (kat_go (λ_=>kat_yes (P7 g l (i+1) λp a=>h p (aQ _ a))) λ_=>kat_no ?_));cases i with
  | zero=>exact oneLt_int (g _)
  | succ i=>exact kat_one _ _ (wpAny_lt_int (g _))
end
theorem AM {P:Ah}(ok:oO P w H h) (I:Rd H a (.T g)) :
  ∃ o j l,RawD h a o j l/\j.size=g.length/\∀ (i:Nat) (C:i<j.size),∃ k v p,g[i]?=some (k,v)/\j[i].key = .ref p/\H p=some (.t (k.map kV)):=by
 obtain⟨z,lo,e,r,x,j,l,f,m,n,b,_⟩:=(show oG P w H h a (.T g) from N0 ok I);have A:g.length=e.length:=fA r;have B:j.size=e.length:=by
  have:=cG List.length b
  simpa using this
 refine⟨x,j,l,⟨lo,f,m,n⟩,by omega,λi C=>?_⟩;have d:i<g.length:=by omega
 obtain⟨q,u,D,y,E⟩:=Fx r (aE d);refine⟨g[i].1,g[i].2,q.2.1,aE d,?_,y⟩;have c:j.toList[i]?=some (entryOfKey (tupleKind (pZ P w)) q):=by rw[b,aW,u];rfl
 have s:j[i]=entryOfKey (tupleKind (pZ P w)) q:=by
  have:j.toList[i]?=some j[i]:=by rw[cZ,cI C]
  rw[this] at c;exact bK c
 rw[s];rfl
def zT (H:Hp) (g:Aa (Ad×Aa Int)):Prop:=∀ z∈g,H z.1=some (.t (z.2.map V.int))
theorem EC {P:Ah}{b:Aa Int}(ok:oO P w H h) (e:H p=some (.t (b.map V.int))):∃ (o:Obj) (g:Aa Ac) (n:Nat),h.get? p=some o/\o.cls = .type "tuple" /\ o.data = .seq g.toArray n/\g.length=b.length/\∀ v∈g,∃ x t,v=Value.int x t:=by
 obtain⟨_,g,r,⟨o,d,f,n,k⟩,_⟩:=(show oG P w H h p (.t (b.map V.int)) from ok p _ e);have a:=r.length;rw[aA] at a;refine⟨o,g,n,d,f,k,a.symm,λv q=>?_⟩;obtain⟨i,m,rfl⟩:=eM q;obtain⟨u,c,s⟩:=r.get (i:=i) (x:=V.int (b[i]'(by omega))) (by rw[aW,aE (by omega)];rfl);rw[aE m] at c;cases c;obtain⟨t,e⟩:=s;exact⟨_,t,e⟩
section
variable {X:Cx}
theorem FG {P:PySem.Fin->Ae->Prop}(ok:oO X.prog X.w H h') (hz:zT H r) (U:r.length<64) (aa:2<=r.length->∀ z∈r,z.2≠[])
  (hs:s.heap.get? a=some (seqObj "list" (r.map λz=>Value.ref z.1).toArray n)) (hb:∀ b o,h'.get? b=some o->b≠a/\s.heap.get? b=some o)
  (h:∀ (J:Aa (Ad×Aa Int)) (I:Ag) (c:Nat),J.Perm r->I.get? a=some (seqObj "list" (J.map λz=>Value.ref z.1).toArray c)->(∀ b o,h'.get? b=some o->I.get? b=some o)->P (.done (.ret .none)) { s with heap:=I }) :
  wpAny (model X.prog X.w) A (Builtin.«list.sort» ⟨[.ref a],[]⟩) P E s:=by
 refine KQ hs (by rw[aA];exact U) (λI=>?_) λab hh c S ha hk=>?_
 .rw[aA] at I;refine⟨tuples' true,λs' B=>?_⟩;have f:∀ z∈r,∃ (o:Obj) (d:Aa Ac) (n:Nat),s'.heap.get? z.1=some o/\o.cls = .type "tuple" /\ o.data = .seq d.toArray n/\d.length=z.2.length/\∀ v∈d,∃ x t,v=Value.int x t:=λz V=>by
   obtain⟨o,d,n,k,K,m,L,q⟩:=EC ok (hz z V);obtain⟨e6,e7⟩:=hb _ _ k;exact⟨o,d,n,B _ _ e6 e7,K,m,L,q⟩
  refine⟨λQ E hQ=>?_,λi j C N O hC=>?_⟩
  .have G:∀ l:Aa (Ad×Aa Int),(∀ z∈l,z∈r)->∃ fs:Aa Ac,KatTups s'.heap (l.map λz=>Value.ref z.1) fs/\fs.length=l.length/\∀ v∈fs,∃ x t,v=Value.int x t:=λl=>by
    induction l with
    | nil=>exact λ_=>⟨[],.nil,rfl,λ_ h=>nomatch h⟩
    | cons z l ih =>
     intro R;obtain⟨fs,f1,f2,M⟩:=ih λz hz=>R z (aQ _ hz)
     have F:=R z aH;obtain⟨o,d,n,k,K,m,L,q⟩:=f z F;have W:0<d.length:=by rw[L];exact List.length_pos_iff.mpr (aa I z F)
     refine⟨d[0]::fs,.cons k K m (by simp[W]) f1,by simp[f2],λv D=>?_⟩;rcases aK.mp D with rfl | D
     .exact q _ (cN W)
     .exact M v D
   obtain⟨fs,f1,f2,M⟩:=G r λ_ h=>h
   refine kat_kind (T:=.type "int") f1 (by omega) (λv D=>?_) (by decide) hQ;obtain⟨x,t,rfl⟩:=M v D;exact .now
  .rw[aA] at N O;unfold kas_ask;have g:∀ i,i<r.length->∃ (R:i<r.length),(r.map λz=>Value.ref z.1).getD i Value.none=Value.ref r[i].1:=λi h=>⟨h,by simp[h]⟩
   obtain⟨_,gi⟩:=g i N;obtain⟨_,gj⟩:=g j O;rw[gi,gj];obtain⟨o1,Y,n1,k,_,m,_,q⟩:=f r[i] (cN N);obtain⟨o2,Z,n2,d1,_,d3,_,d5⟩:=f r[j] (cN O);refine kat_lt k m d1 d3 (P7 hC _ 0 λp S=>?_);obtain⟨a1,a2⟩:=eV S;obtain⟨x,t,h1⟩:=q p.1 (by simpa using a1);obtain⟨y,u,I⟩:=d5 p.2 (by simpa using a2);exact⟨x,t,y,u,by rw[<- h1,<- I]⟩
 .obtain⟨J,y1,y2⟩:=DN (λz:Ad×Aa Int=>Value.ref z.1) S r rfl;subst y2;exact h J hh c y1 ha λb o e=>hk b o (hb b o e).1 (hb b o e).2
def Vs (K:mI):Aa V->Hp->VK->Prop:=λf H Q=>∃ (a:Ad) (bs:Aa (Aa Int)),f=[.ref a]/\bs.length<64/\(2<=bs.length->∀ b∈bs,b≠[]) /\
 ((∃ e,mL K H a (e.map λz:Ad×Aa Int=>V.ref z.1)/\zT H e/\e.map (·.2)=bs)\/∃ c,Rd H a (.T c)/\c.map (·.1)=bs.map (λb=>b.map Sum.inl)) /\
 ∀ (l:Ad) (d:Aa (Ad×Aa Int)),H l=none->zT H d->(d.map (·.2)).Perm bs->Q (.ref l) (upd H l (.l (d.map λz=>V.ref z.1)))
theorem W4:∀ {j:Aa (Ad×Aa Int)}{g:Aa Ac},mY (j.map λz=>V.ref z.1) g->g=j.map λz=>Value.ref z.1
 | [],_,.nil=>rfl
 | z::j,_,.cons h r=>by
  cases (show _=Value.ref z.1 from h);rw[W4 r];rfl
theorem Uo:∀ g:Aa (Ad×Aa Int),mY (g.map λz=>V.ref z.1) (g.map λz=>Value.ref z.1)
 | []=>.nil
 | z::g=>.cons rfl (Uo g)
theorem JF (g:X.calm=true):oI X (.builtin "sorted") (Vs X.K):=by
 intro y s U H xs us Q I rv h;obtain⟨a,bs,rfl,x,Z,J,q⟩:=h;obtain⟨u,rfl,ru⟩:=rF rv;cases ru;refine Calls.call_function_entry kind_sorted plain_sorted entry_sorted (args_sorted1 _) ?_;unfold Builtin.«sorted»;refine aB (m:=checkCount "sorted" 1 1 _) (aI ?_);have rest:∀ (i:Ag) (G:Nat) (d:Aa (Ad×Aa Int)),zT H d->d.map (·.2)=bs->(∀ b o,s.heap.get? b=some o->i.get? b=some o) ->
   wpAny (model X.prog X.w) X.A.in1 (newList (d.map λz=>Value.ref z.1) >>= λB=>holding [B] (call (.builtin "list.sort") [B]) >>= λ_=>ret B) (λf s'=>∃ v,f = .done (.ret v)/\EP X y U Q v s') X.xe { s with heap:=i,toks:=G }:=λi G d R F keep=>by
  have P:d.length=bs.length:=by rw[<- F,aA]
  have W:Inv X y U H { s with heap:=i,toks:=G }:=I.kept keep;refine aB (wpAny_newList ?_ (by rw[aA,P];exact bX (eI x) (by decide)));have N:(i.push (seqObj "list" (d.map λz=>Value.ref z.1).toArray 0)).get? i.objs.size=some (seqObj "list" (d.map λz=>Value.ref z.1).toArray 0):=bA _ rfl;refine aB (cD (dL slot_list_sort ⟨_,N,rfl⟩ entry_list_sort (FG (X:=X) (h':=i) W.hok R (by omega) (λh2 z n=>Z (by omega) z.2 (by rw[<- F];exact dY n)) N (λb o e=>⟨bO (aZ e),aG _ e⟩) λS h2 c j ha hk=>⟨_,rfl,?_⟩) (args_list_sort _)));have ly:S.length=d.length:=j.length_eq;refine aI ⟨_,rfl,.ref i.objs.size,_,W.laid (a:=i.objs.size) (o:=.l (S.map λz=>V.ref z.1)) (t':=G) hk (aU _) ⟨?_,_,c,Uo S,ha⟩,rfl,q _ S (W.hok.fresh (aU _)) (λz n=>R z (j.mem_iff.mp n)) (by rw[<- F];exact j.map _)⟩;rw[aA,ly,P];exact bX (eI x) (by decide)
 rcases J with⟨d,hq,R,F⟩ | ⟨O,rd,T⟩
 .obtain⟨aa,r,p,n⟩:=I.list hq;have:=W4 r;subst this;have P:d.length=bs.length:=by rw[<- F,aA]
  refine aB (collect_list p.isList (rest _ s.toks d R F λb o e=>?_) ?_)
  .have Y:=aZ e;rw[Heap.get?_update_ne _ _ _ _ (bO Y)];exact aG _ e
  .rw[aA,P];exact bX (eI x) (by decide)
 .obtain⟨ob,es,ep,raw,sz,rows⟩:=AM I.hok rd;have lk:O.length=bs.length:=by have:=cG List.length T;simpa using this
  refine aB (kdu_collect Yq (I.ok.hd g) raw (by rw[sz,lk];exact bX (eI x) (by decide)) λi G t keep C=>?_);obtain⟨n1,n2⟩:=C;obtain⟨d,D,L,E⟩:∃ d:Aa (Ad×Aa Int),t.toList=d.map (λz=>Value.ref z.1)/\zT H d/\d.map (·.2)=bs:=by
   have go:∀ m,m<=bs.length->∃ d:Aa (Ad×Aa Int),t.toList.take m=d.map (λz=>Value.ref z.1)/\zT H d/\d.map (·.2)=bs.take m:=λm=>by
    induction m with
    | zero=>exact λ_=>⟨[],rfl,⟨λz h=>(bD h).elim,rfl⟩⟩
    | succ m ih =>
     intro hm;obtain⟨d,D,L,E⟩:=ih (by omega);have M:m<t.size:=by omega
     obtain⟨hi,hv⟩:=n2 m t[m] (cI M);obtain⟨k,v,p,k1,k2,k3⟩:=rows m hi;have kk:k=(bs[m]'(by omega)).map Sum.inl:=by
      have:(O.map (·.1))[m]?=some k:=by rw[aW,k1];rfl
      rw[T,aW,aE (by omega)] at this;exact (bK this).symm
     refine⟨d++[(p,bs[m]'(by omega))],?_,λz n=>?_,?_⟩
     .rw[bM,D,aM,cZ,cI M,hv,k2];rfl
     .rcases aV.mp n with n | n
      .exact L z n
      .have:=aX.mp n;subst this;show H p=_;rw[k3,kk,aR];rfl
     .rw[bM,aM,E,aE (by omega)];rfl
   obtain⟨d,D,L,E⟩:=go bs.length (aU _);rw[bL (by rw[eL];omega)] at D;rw[bL (aU _)] at E;exact⟨d,D,L,E⟩
  rw[D];exact rest i G d L E keep
end
noncomputable def qM (b:Aa Int):D:=.t (b.map D.int)
section
variable {K:mI}
theorem Vx:∀ b:Aa Int,Reps K A H (b.map D.int) (b.map V.int)
 | []=>.nil
 | x::b=>.cons (.int x) (Vx b)
theorem Xu:∀ {b:Aa Int}{g:Aa V},Reps K A H (b.map D.int) g->g=b.map V.int
 | [],_,.nil=>rfl
 | x::b,_,.cons h r=>by rw[h.int_inv,Xu r];rfl
theorem U6 (h:Rep K A H (qM b) v):∃ a,v = .ref a/\H a=some (.t (b.map V.int)):=by
 obtain⟨a,c,rfl,h,r⟩:=Rep.tup_inv h;rw[Xu r] at h;exact⟨a,rfl,h⟩
theorem Wc:∀ {bs:Aa (Aa Int)}{j:Aa V},Reps K A H (bs.map qM) j->∃ g:Aa (Ad×Aa Int),j=g.map (λz=>V.ref z.1)/\zT H g/\g.map (·.2)=bs
 | [],_,.nil=>⟨[],rfl,λ_ h=>(bD h).elim,rfl⟩
 | b::bs,_,.cons h r=>by
  obtain⟨a,rfl,e⟩:=U6 h;obtain⟨g,rfl,d,rfl⟩:=Wc r;refine⟨(a,b)::g,rfl,λz c=>?_,rfl⟩;rcases aK.mp c with rfl | c
  .exact e
  .exact d z c
theorem Om:∀ {g:Aa (Ad×Aa Int)},zT H g->Reps K A H ((g.map (·.2)).map qM) (g.map λz=>V.ref z.1)
 | [],_=>.nil
 | z::g,h=>.cons (.t (h z aH) (Vx _)) (Om λz a=>h z (aQ _ a))
def LO:OC:=λe d=>match e with
 | [.l f]=>∃ bs:Aa (Aa Int),f=bs.map qM/\bs.length<64/\(2<=bs.length->∀ b∈bs,b≠[])/\∀ a:Aa (Aa Int),a.Perm bs->d (.o (.l (a.map qM)))
 | [.T c]=>∃ bs:Aa (Aa Int),c.map (·.1)=bs.map (λb=>b.map Sum.inl)/\bs.length<64/\(2<=bs.length->∀ b∈bs,b≠[])/\∀ a:Aa (Aa Int),a.Perm bs->d (.o (.l (a.map qM)))
 | _=>False
theorem CK:rZ K (Vs K) LO:=by
 intro B L H f D E Q hd c b k;cases f with
 | nil=>exact False.elim b
 | cons d f =>
 cases f with
 | cons _ _=>cases d<;>exact False.elim b
 | nil =>
 cases d<;>first | exact False.elim b | skip
 .obtain⟨x,rfl,t⟩:=sE c;obtain⟨bs,rfl,i,m,b⟩:=b;obtain⟨a,A,rfl,h,r⟩:=t.lst_inv;obtain⟨z,rfl,w,y⟩:=Wc r;exact⟨a,bs,rfl,i,m,.inl ⟨z,mL.of h,w,y⟩,λl v n q c=>k _ _ _ (b _ c) (hd.lstF n (Om q))⟩
 .obtain⟨x,rfl,t⟩:=sE c;obtain⟨bs,u,i,m,b⟩:=b;obtain⟨a,s,rfl,h,e,r⟩:=t.dT_inv;exact⟨a,bs,rfl,i,m,.inr ⟨s,h,by rw[<- e];exact u⟩,λl v n q c=>k _ _ _ (b _ c) (hd.lstF n (Om q))⟩
end
end L2
namespace PySem
open PyProof.Rows L2
section
variable {R:Result->Ae->Prop}{P:Nat->Ac->Prop}{St:Nat->Ae->Prop}
abbrev Cw (g:Ah) (w:World):=tupleKind (pZ g w)
noncomputable def Bn (more:Aa (Aa gD×Ad×Ac)):Aa (Aa gD×Ad×Ac):=more.foldl (λa q=>storedH a q.1 q.2.1 q.2.2) []
theorem CN (g:Aa (Aa gD×Ad×Ac)) (k:Aa gD) (a:Ad) (v:Ac):(storedH g k a v).length<=g.length+1:=by
 unfold storedH;by_cases h:(atKey g k).isSome=true
 .rw[aO h,aA];omega
 .rw[aJ h,bH];exact aU _
theorem AJ (more:Aa (Aa gD×Ad×Ac)):(Bn more).length<=more.length:=by
 have:∀ (more a:Aa (Aa gD×Ad×Ac)),(more.foldl (λa q=>storedH a q.1 q.2.1 q.2.2) a).length<=a.length+more.length:=λmore=>by
  induction more with
  | nil=>intro a;simp
  | cons q more b =>
   intro a;rw[jC];have:=b (storedH a q.1 q.2.1 q.2.2);have:=CN a q.1 q.2.1 q.2.2;rw[bS];omega
 have:=this more [];rw[fS,lX] at this;exact this
theorem PV {more:Aa (Aa gD×Ad×Ac)}{i:Nat}{q:Aa gD×Ad×Ac}(h:more[i]?=some q):Bn (more.take (i+1))=storedH (Bn (more.take i)) q.1 q.2.1 q.2.2:=by
 unfold Bn;rw[bM,h,List.foldl_append];rfl
theorem HC {h j:Ag}(D:h.DictOfH (Cw g w) d l) (hd:∀ o,h.get? d=some o->j.get? d=some o) (p:∀ x∈l,∀ o,h.get? x.2.1=some o->j.get? x.2.1=some o):j.DictOfH (Cw g w) d l:=by
 obtain⟨o,f,e,i,k,n,q,s,t⟩:=D;refine⟨o,f,e,hd o i,k,n,q,λx b=>?_,t⟩;obtain⟨c,a,m,g1,g2⟩:=s x b;exact⟨c,a,m,p x b c g1,g2⟩
theorem Zr {g:Aa (Aa gD×Ad×Ac)}{k:Aa gD}{a:Ad}{v:Ac}{x:Aa gD×Ad×Ac}(h:x∈storedH g k a v):(∃ y∈g,y.2.1=x.2.1)\/x.2.1=a:=by
 unfold storedH at h;by_cases e:(atKey g k).isSome=true
 .rw[aO e] at h;obtain⟨y,b,rfl⟩:=aN.mp h;refine .inl ⟨y,b,?_⟩;unfold putAt;by_cases z:y.1=k
  .rw[aO z]
  .rw[aJ z]
 .rw[aJ e] at h;rcases aV.mp h with h | h
  .exact .inl ⟨x,h,rfl⟩
  .rw[aX.mp h];exact .inr rfl
theorem BJ (h:x∈Bn more):∃ y∈more,y.2.1=x.2.1:=by
 have:∀ (more a:Aa (Aa gD×Ad×Ac)),x∈more.foldl (λa q=>storedH a q.1 q.2.1 q.2.2) a->(∃ y∈a,y.2.1=x.2.1)\/∃ y∈more,y.2.1=x.2.1:=λmore=>by
  induction more with
  | nil=>intro a h;exact .inl ⟨x,h,rfl⟩
  | cons q more f =>
   intro a h;rw[jC] at h;rcases f _ h with⟨y,b,e⟩ | ⟨y,b,e⟩
   .rcases Zr b with⟨z,d,c⟩ | c
    .exact .inl ⟨z,d,c.trans e⟩
    .exact .inr ⟨q,aH,c.symm.trans e⟩
   .exact .inr ⟨y,aQ _ b,e⟩
 rcases this more [] h with⟨y,b,_⟩ | h
 .exact (bD b).elim
 .exact h
theorem Zh (T:A.handled=none) (hu:A.units+2<cLine) (U:s.heap.get? l=some o) (J:o.cls = .type "list") (hd:o.dict=none) (p:o.data = .seq items nl)
  (hn:more.length=items.size)
  (I:∀ (i:Nat) v,items[i]?=some v->∃ (t:Ad) (o:Obj) (m:Nat) (q:Aa gD×Ad×Ac),v = .ref t/\s.heap.get? t=some o/\o.cls = .type "tuple" /\ o.data = .seq #[.ref q.2.1,q.2.2] m/\more[i]?=some q)
  (C:∀ q∈more,(Cw g w).is s.heap q.1 q.2.1) (hb:items.size<=sizeLine)
  (h:∀ (j:Ag) (r:Nat),j.DictOfH (Cw g w) s.heap.objs.size (Bn more)->(∀ b o,s.heap.get? b=some o->j.get? b=some o)->Q (.ref s.heap.objs.size) { s with heap:=j,toks:=r }) :
  wpAny (model g w) A (call (.type "dict") [.ref l]) Q E s:=by
 refine Xc (λi j=>j.DictOfH (Cw g w) s.heap.objs.size (Bn (more.take i))) T U J hd p (λc e=>⟨_,#[],0,e,⟨rfl,rfl,rfl⟩,rfl,rfl,λ_ h=>(bD h).elim,dZ⟩) (λi c n k m=>?_) (λi v K=>?_) λj r m=>h j r (by rw[bL (by omega)] at m;exact m)
 .refine HC m (λo e=>k _ _ (aU _) e) λx L o e=>k _ _ ?_ e
  obtain⟨y,M,D⟩:=BJ L;obtain⟨u,_,_,g1,_⟩:=C y (kJ M);rw[<- D];exact eI (aZ g1)
 .obtain⟨t,S,m,q,rfl,c,n,F,a⟩:=I i v K;refine⟨t,S,m,_,_,rfl,c,n,F,λB W Q E G N H k=>?_⟩;obtain⟨u,f,O,g1,g2⟩:=C q (aF a);refine wpAny_dictSet_heap (hsz:=?_) (knd:=Cw g w) (G hu) ⟨u,f,O,N _ _ g1,g2⟩ H λj d V=>k j _ (by rw[PV a];exact d) V
  have z:=AJ (more.take i);rw[bU] at z;omega
end
end PySem
namespace L2
open PySem PySem.W PySem.Spec PyProof.Rows Lw
def Iu (H:Hp):Aa Ad->Aa (Aa Int×Ad×V)->Prop:=Paired λt m=>H t=some (.t [.ref m.2.1,m.2.2])/\H m.2.1=some (.t (m.1.map V.int))
noncomputable def tI {j:Type}(put:Aa (Aa gD×j)->Aa gD->j->Aa (Aa gD×j)) (g:Aa (Aa gD×j)) (l:Aa (Aa Int×j)):Aa (Aa gD×j):=l.foldl (λg m=>put g (m.1.map Sum.inl) m.2) g
theorem LW {P:Ah}(l:oO P w H h) (r:Iu H J p):∃ more:Aa (Aa gD×Ad×Ac),more.length=p.length /\
  (∀ (i:Nat) t,J[i]?=some t->∃ (o:Obj) (m:Nat) (q:Aa gD×Ad×Ac),h.get? t=some o/\o.cls = .type "tuple" /\ o.data = .seq #[.ref q.2.1,q.2.2] m/\more[i]?=some q) /\
  (∀ q∈more,∃ I,q.1=I/\H q.2.1=some (.t (I.map kV)))/\∀ g C,KT H g C->KT H (tI pP g (p.map λm=>(m.1,m.2.2))) (more.foldl (λj q=>storedH j q.1 q.2.1 q.2.2) C):=by
 unfold Iu at r;induction r with
 | nil=>exact⟨[],rfl,λi t e=>by simp at e,λq a=>(bD a).elim,λ_ _ k=>k⟩
 | @cons t m J p u Q D =>
  obtain⟨more,F,A,y,x⟩:=D;obtain⟨f,s⟩:=u;obtain⟨z,E,b,⟨o,B,v,n,c⟩,_⟩:=l t _ f;cases b with
  | @cons _ M _ R G b =>
   cases b with
   | @cons _ N _ O K b =>
    cases b;cases (show M=Value.ref m.2.1 from G);have d:H m.2.1=some (.t ((m.1.map (Sum.inl:Int->gD)).map kV)):=by rw[s,aR];rfl
    refine⟨(m.1.map Sum.inl,m.2.1,N)::more,by rw[bS,bS,F],λi L e=>?_,λq a=>?_,λg C k=>?_⟩
    .cases i with
     | zero =>
      simp at e;subst e;exact⟨o,n,_,B,v,c,rfl⟩
     | succ i=>simpa using A i L (by simpa using e)
    .rcases aK.mp a with rfl | a
     .exact⟨_,rfl,d⟩
     .exact y q a
    .exact x _ _ (k.put _ d K)
def U3 (K:mI):Aa V->Hp->VK->Prop:=λc H Q=>∃ (p:Ad) (b:Aa Ad) (a:Aa (Aa Int×Ad×V)),c=[.ref p]/\mL K H p (b.map V.ref)/\Iu H b a/\a.length<=1000/\∀ d,H d=none->Q (.ref d) (upd H d (.T (tI pP [] (a.map λm=>(m.1,m.2.2)))))
theorem Xx:∀ (j:Aa (Aa Int×V)) (g:Aa (Aa gD×V)),(tI pP g j).length<=g.length+j.length
 | [],g=>by simp[tI]
 | m::j,g=>by
  have a:=Xx j (pP g (m.1.map Sum.inl) m.2);have b:=Ig g (m.1.map Sum.inl) m.2;show (tI pP (pP g (m.1.map Sum.inl) m.2) j).length<=_;rw[bS];omega
section
variable {X:Cx}
theorem Ut (g:X.calm=true) (j:X.A.units+2<cLine):oI X (.type "dict") (U3 X.K):=by
 intro M s σ H xs us Q I r h;obtain⟨p,z,y,rfl,D,L,hz,q⟩:=h;obtain⟨u,rfl,F⟩:=rF r;cases F;obtain⟨f,N,⟨o,n,e,S,W,Y⟩,_⟩:=I.list D;have k:=N.length;rw[aA] at k;have aa:z.length=y.length:=fA L;obtain⟨more,ml,hm,hk,hf⟩:=LW I.hok L;have d:∀ (i:Nat) v,f[i]?=some v->∃ t,z[i]?=some t/\v = .ref t:=by
  intro i v w;have hi:i<f.length:=(aL.mp w).1;have:i<z.length:=by omega
  obtain⟨u,j,F⟩:=N.get (i:=i) (x:=V.ref z[i]) (by simp[this]);rw[j] at w;cases w;cases F;exact⟨z[i],by simp[this],rfl⟩
 refine Zh (more:=more) (I.ok.hd g) j e S W Y (by rw[aY];omega) ?_ (λq D=>?_) (by rw[aY];exact eI (cK (show f.length<=1000 by omega) (by decide))) λh' tk hD c=>?_
 .intro i v w;obtain⟨t,ht,rfl⟩:=d i v (by simpa using w);obtain⟨o,m,q,B,C,J,U⟩:=hm i t ht;exact⟨t,o,m,q,rfl,B,C,J,U⟩
 .obtain⟨ks,k1,k2⟩:=hk q D;rw[k1];exact Az I.hok k2
 .have E:(tI pP [] (y.map λm=>(m.1,m.2.2))).length<=sizeLine:=by
   have B:=Xx (y.map λm=>(m.1,m.2.2)) [];rw[fS,aA] at B;exact eI (cK (show (tI pP [] (y.map λm=>(m.1,m.2.2))).length<=1000 by omega) (by decide))
  obtain⟨ob,l,Z,d1,d2,O,P,_,R⟩:=hD;have kt:=hf [] [] .nil;have fr:=I.fresh;refine⟨.ref s.heap.objs.size,_,I.laid (a:=s.heap.objs.size) (o:=.T (tI pP [] (y.map λm=>(m.1,m.2.2)))) (t':=tk) c (aU _) ?_,rfl,q _ I.fresh⟩;refine⟨E,cQ.mpr (eJ (bO I.big)),_,kt.keeps λb ys G=>?_,ob,l,Z,d1,d2,O,P,R⟩;rw[mT (nQ G I.fresh)];exact G
end
section
variable {K:mI}
theorem T8:∀ {j:Aa (Aa Int×D)}{o:Aa V},Reps K A H (j.map λm=>D.t [qM m.1,m.2]) o->∃ (l:Aa Ad) (g:Aa (Aa Int×Ad×V)),o=l.map V.ref/\Iu H l g/\g.map (·.1)=j.map (·.1)/\Reps K A H (j.map (·.2)) (g.map (·.2.2))
 | [],_,.nil=>⟨[],[],rfl,.nil,rfl,.nil⟩
 | m::j,_,.cons h r=>by
  obtain⟨l,g,rfl,d,e,f⟩:=T8 r;obtain⟨a,s,rfl,i,c⟩:=h.tup_inv;cases c with
  | cons n c =>
   cases c with
   | cons q c =>
    cases c;obtain⟨b,rfl,k⟩:=U6 n;exact⟨a::l,(m.1,b,_)::g,rfl,.cons ⟨i,k⟩ d,by rw[aP,aP,e],.cons q f⟩
theorem Q0:∀ {ms:Aa (Aa Int×D)}{mv:Aa (Aa Int×V)}{kvs:Aa (Aa gD×D)}{vs:Aa (Aa gD×V)},ms.map (·.1)=mv.map (·.1)->Reps K A H (ms.map (·.2)) (mv.map (·.2))->kvs.map (·.1)=vs.map (·.1)->Reps K A H (kvs.map (·.2)) (vs.map (·.2)) ->
  (tI nM kvs ms).map (·.1)=(tI pP vs mv).map (·.1)/\Reps K A H ((tI nM kvs ms).map (·.2)) ((tI pP vs mv).map (·.2))
 | [],[],_,_,_,_,e,r=>⟨e,r⟩
 | [],_::_,_,_,e,_,_,_=>by simp at e
 | _::_,[],_,_,e,_,_,_=>by simp at e
 | (k,d)::ms,(j,v)::mv,kvs,vs,a,b,e,r=>by
  simp only[aP,iF] at a;obtain⟨rfl,a⟩:=a;cases b with
  | cons h b =>
   obtain⟨c,f⟩:=Gy e r (k:=k.map Sum.inl) h;exact Q0 (ms:=ms) (mv:=mv) a b c f
def MK:OC:=λb d=>match b with
 | [.l c]=>∃ a:Aa (Aa Int×D),c=a.map (λm=>D.t [qM m.1,m.2])/\a.length<=1000/\d (.o (.T (tI nM [] a)))
 | _=>False
theorem W0:rZ K (U3 K) MK:=by
 intro B L H c F G Q hd u b k;cases c with
 | nil=>exact False.elim b
 | cons d c =>
 cases c with
 | cons _ _=>cases d<;>exact False.elim b
 | nil =>
 cases d<;>first | exact False.elim b | skip
 obtain⟨x,rfl,v⟩:=sE u;obtain⟨n,rfl,D,b⟩:=b;obtain⟨a,E,rfl,h,r⟩:=v.lst_inv;obtain⟨A,f,rfl,s,i,t⟩:=T8 r;have q:n.map (·.1)=(f.map λm=>(m.1,m.2.2)).map (·.1):=by rw[aR,<- i];rfl
 have z:Reps K (Al B (mJ L)) H (n.map (·.2)) ((f.map λm=>(m.1,m.2.2)).map (·.2)):=by rw[aR];exact t
 obtain⟨w,y⟩:=Q0 (kvs:=[]) (vs:=[]) q z rfl .nil;refine⟨a,A,f,rfl,mL.of h,s,?_,λd e=>k _ _ _ b (hd.dTF e w y)⟩;have:=cG List.length i;rw[aA,aA] at this;omega
end
end L2
namespace L2
open PySem PySem.Spec PyProof.Rows Lw
def U5 (t:TE):TE:=λd H Q=>∃ a b,H a=some (.k b)/\∀ o,t d (upd H a (.frz o (.k b))) λv c=>c a=some (.frz o (.k b))/\Q v (upd c a (.k b))
section
variable {X:Cx}
theorem T3 (h:PE X e t):PE X e (U5 t):=λc s A H Q I b=>by
 obtain⟨a,f,d,k⟩:=b;obtain⟨o,q⟩:∃ o,s.heap.get? a=some o:=by
  obtain⟨_,_,E,_,o,_,_,e,_⟩:=(show oG X.prog X.w H s.heap a (.k f) from I.hok a _ d);exact⟨o,e⟩
 have n:∀ i u,X.H₀ a≠some (.frz i u):=λi u e=>by
  have:=I.base.frzs a i u e;rw[d] at this;cases this
 refine mV (h c s A _ _ (I.frozenK d q) (k o)) λv D b=>?_
 obtain⟨x,B,m,r,y,z⟩:=b;exact⟨x,_,m.thawedK y n,r,z⟩
end
def F0 (H:Hp) (d:D) (v:V):Prop:=rP d=some v\/∃ (a:Aa (gD×D)) (c:Aa (gD×V)) (b:Ad),d = .k a/\rK (a.map (·.2))=some (c.map (·.2))/\a.map (·.1)=c.map (·.1)/\v = .ref b/\Rd H b (.k c)
def F1 (H:Hp) (d:D) (v:V):Prop:=F0 H d v\/∃ (a:Aa D) (c:Aa V) (b:Ad),d = .t a/\v = .ref b/\H b=some (.t c)/\Paired (F0 H) a c
def zN (d:D):Prop:=(∃ v,rP d=some v)\/∃ a b,d = .k a/\rK (a.map (·.2))=some b
def Fg (d:D):Prop:=zN d\/∃ a,d = .t a/\∀ c∈a,zN c
def Fz (H g:Hp):Prop:=(∀ b c,H b=some (.t c)->g b=some (.t c))/\∀ b a,H b=some (.k a)->Rd g b (.k a)
section
variable {K:mI}
theorem nR.f0 (z:Fz H g) (o:zN d) (h:nR K A H d v):F0 g d v:=by
 rcases o with⟨u,b⟩ | ⟨c,k,rfl,b⟩
 .obtain⟨rfl,_⟩:=Ic b h;exact .inl b
 .obtain⟨a,f,rfl,i,e,r⟩:=h.dK_inv;obtain⟨q,_⟩:=Jv b r;exact .inr ⟨c,f,a,rfl,by rw[q];exact b,e,rfl,z.2 a f i⟩
theorem nR.f1 (z:Fz H g) (o:Fg d) (h:nR K A H d v):F1 g d v:=by
 rcases o with o | ⟨b,rfl,o⟩
 .exact .inl (h.f0 z o)
 .obtain⟨a,e,rfl,f,r⟩:=h.tup_inv;refine .inr ⟨b,e,a,rfl,rfl,z.1 a e f,?_⟩;have go:∀ (b:Aa D) (e:Aa V),(∀ c∈b,zN c)->Reps K A H b e->Paired (F0 g) b e:=by
   intro b;induction b with
   | nil=>intro e _ r;cases r;exact .nil
   | cons c b k =>
    intro e o r;cases r with
    | cons m n=>exact .cons (m.peek.f0 z (o c aH)) (k _ (λx i=>o x (aQ _ i)) n)
  exact go b e o r
theorem Q1:∀ (g:Aa (gD×D)) (j:Aa (gD×V)),rK (g.map (·.2))=some (j.map (·.2))->g.map (·.1)=j.map (·.1)->∀ (k:gD) (d:D) (u:V),mR g k=some d->rP d=some u->rW j k=some u
 | [],_,_,_,_,_,_,h,_=>by cases h
 | p::g,[],_,e,_,_,_,_,_=>by cases e
 | p::g,q::j,a,e,k,d,u,h,c=>by
  obtain⟨b,f⟩:=dO e;have b:p.1=q.1:=b;have a:(match rP p.2,rK (g.map (·.2)) with | some v,some j=>some (v::j) | _,_=>none)=some (q.2::j.map (·.2)):=a;cases f1:rP p.2 with
  | none=>rw[f1] at a;cases a
  | some v1 =>
   cases f2:rK (g.map (·.2)) with
   | none=>rw[f1,f2] at a;cases a
   | some i =>
    rw[f1,f2] at a;obtain⟨g1,g2⟩:=dO (bK a);unfold mR at h;unfold rW;rw[dF] at h |-;by_cases z:p.1=k
    .rw[bJ z] at h;rw[bJ (b▸z)];have h:p.2=d:=bK h;rw[h,c] at f1;show some q.2=some u;rw[<- g1];exact f1.symm
    .rw[bG z] at h;rw[bG (λy=>z (b.trans y))];exact Q1 g j (by rw[f2,g2]) f k d u h c
theorem F0.get (h:F0 H (.k g) v) (l:mR g (Sum.inr x)=some d) (j:rP d=some u):∃ b,v = .ref b/\tA H b (.str x) (some u):=by
 rcases h with h | ⟨a,i,b,e,f,c,rfl,rd⟩
 .cases h
 .cases e;exact⟨b,rfl,.inl ⟨i,Sum.inr x,rd,rfl,(Q1 _ _ f c _ _ _ l j).symm⟩⟩
theorem F1.get (h:F1 H (.k g) v) (l:mR g (Sum.inr x)=some d) (j:rP d=some u):∃ b,v = .ref b/\tA H b (.str x) (some u):=by
 rcases h with h | ⟨_,_,_,e,_⟩
 .exact h.get l j
 .cases e
theorem F1.flat (h:F1 H d v) (g:rP d=some u):v=u:=by
 rcases h with (h | ⟨_,_,_,e,_⟩) | ⟨_,_,_,e,_⟩
 .rw[g] at h;exact (bK h).symm
 .subst e;cases g
 .subst e;cases g
def zS (H:Hp) (d:D) (v:V):Prop:=rP d=some v\/∃ (a:Aa D) (b:Aa V) (p:Ad),d = .t a/\rK a=some b/\v = .ref p/\H p=some (.t b)
theorem Wd:∀ {d:D}{v:V},rP d=some v->Rep K A H d v:=λ{d v} h=>by
 cases d<;>cases h
 .exact .e
 .exact .b _
 .exact .int _
 .exact .str _
theorem Wn:∀ (g:Aa D) (j:Aa V),rK g=some j->Reps K A H g j
 | [],j,h=>by cases h;exact .nil
 | d::g,j,h=>by
  have h:(match rP d,rK g with | some v,some b=>some (v::b) | _,_=>none)=some j:=h;cases f1:rP d with
  | none=>rw[f1] at h;cases h
  | some v1 =>
   cases f2:rK g with
   | none=>rw[f1,f2] at h;cases h
   | some a=>rw[f1,f2] at h;cases h;exact .cons (Wd f1) (Wn g a f2)
theorem zS.rep (h:zS H d v):Rep K A H d v:=by
 rcases h with h | ⟨a,e,p,rfl,b,rfl,c⟩
 .exact Wd h
 .exact .t c (Wn a e b)
theorem zS.keep (h:zS H d v) (k:∀ p g,H p=some (.t g)->j p=some (.t g)):zS j d v:=by
 rcases h with h | ⟨b,a,p,e,f,c,i⟩
 .exact .inl h
 .exact .inr ⟨b,a,p,e,f,c,k p a i⟩
end
section
variable {X:Cx}
def Yv (i:Nat) (g:Aa Nat) (P:Aa D->Af->Ab D->Prop):nL:=λm f h=>∃ (a:Aa (gD×D)) (d:Aa Af) (e:Aa D) (b:Af->Ab D),at? f i=some (.k a)/\zN (.k a)/\a.map (·.1)=d.map Sum.inr/\d.length<=1000/\g.map (at? f)=e.map some/\(∀ c∈e,Fg c)/\(∀ x∈d,P e x (b x))/\h (.o (.l (d.filterMap b))) f
def W9 (P:Aa D->Af->Ab D->Prop) (j:TT) (g:TE):Prop:=∀ (h:Aa D) (e:Aa V) (x:Af) (c:Ab D) (H:Hp) (N:VK) (F:Hp->Prop),P h x c->Paired (F1 H) h e->(∀ d v a,c=some d->pV H a->zS a d v->N v a)->(∀ a,c=none->pV H a->F a) ->
 j (some (.str x)::e.map some) H λb f=>if b=true then g (some (.str x)::e.map some) f N else F f
theorem R7 {P:Aa D->Af->Ab D->Prop}(h:PE X e (U5 (Bj [nm] g (S4 (pX i)) (An 0) tt te))) (ht:W9 P tt te):PD X e (Yv i g P):=h.mono λσ H Q ab=>ab.elim λB ρ T Φ hl hd ⟨ai,L,E,m,e0,o0,ek,lx,S,oc,hP,ae⟩ k=>by
 obtain⟨v0,ac,p0⟩:=hd.peek hl e0;obtain⟨a,f,rfl,ha,C,rk⟩:=p0.dK_inv;have I:∃ F:Aa V,g.map (λj=>(σ[j]?).join)=F.map some/\Paired (λc v=>Fg c/\nR X.K (Al B (mJ (ρ.zip σ++T))) H c v) E F:=by
  have go:∀ (g:Aa Nat) (E:Aa D),g.map (at? ρ)=E.map some->(∀ c∈E,Fg c)->∃ F:Aa V,g.map (λj=>(σ[j]?).join)=F.map some/\Paired (λc v=>Fg c/\nR X.K (Al B (mJ (ρ.zip σ++T))) H c v) E F:=by
   intro g;induction g with
   | nil =>
    intro E S _;cases E with
    | nil=>exact⟨[],rfl,.nil⟩
    | cons _ _=>cases S
   | cons j g ih =>
    intro E S oc;cases E with
    | nil=>cases S
    | cons c E =>
     rw[aP,aP] at S;obtain⟨e1,e2⟩:=dO S;obtain⟨v,hv,pv⟩:=hd.peek hl e1;obtain⟨F,g1,g2⟩:=ih E e2 λx M=>oc x (aQ _ M)
     exact⟨v::F,by rw[aP,aP,g1,hv];rfl,.cons ⟨oc c aH,pv⟩ g2⟩
  exact go g E S oc
 obtain⟨F,ev,pr⟩:=I;refine⟨a,f,ha,λo=>⟨_,ac,a,o,f,rfl,mX,λR hD=>?_⟩⟩;have aD:a≠R:=λz=>by rw[z,mX] at hD;cases hD
 have W:H R=none:=by rw[mT (eJ aD)] at hD;exact hD
 have lk:f.length=L.length:=by
  have:=cG List.length (C.symm.trans ek)
  simpa using this
 have ag:∀ j x,(f.map λp=>kV p.1)[j]?=some x->∃ y:Af,L[j]?=some y/\x=V.str y:=λj x M=>by
  have e1:f.map (·.1)=L.map Sum.inr:=C.symm.trans ek;have e2:(f.map λp=>kV p.1)=L.map V.str:=by
   have:=cG (List.map kV) e1;rw[aR,aR] at this;exact this
  rw[e2,aW] at M;cases e3:L[j]? with
  | none=>rw[e3] at M;cases M
  | some y=>rw[e3] at M;cases M;exact⟨y,e3,rfl⟩
 refine Mm MU (λj N s=>j<=L.length/\s a=some (.frz o (.k f))/\s R=some (.l N)/\(∀ b u,H b=some u->b≠a->s b=some u)/\N.length<=j/\Paired (zS s) ((L.take j).filterMap m) N) ?_ (λj N s _ p=>p.2.1) ?_ ?_
 .refine⟨cR _,by rw[mT aD,mX],mX,λb u n U=>?_,aU _,by rw[lC];exact .nil⟩;rw[mT (λz:b=R=>by rw[z,W] at n;cases n),mT U];exact n
 .rintro j x N s M ⟨hj,Z,kD,r,hy,G⟩;obtain⟨y,Y,rfl⟩:=ag j x M;have J:j<L.length:=(aL.mp Y).1;have ym:=aF Y;have fz:Fz H s:=by
   refine⟨λb O e=>r b _ e λz=>?_,λb O e=>?_⟩
   .rw[z,ha] at e;cases e
   .by_cases z:b=a
    .rw[z] at e |-;rw[ha] at e;cases e;exact .inr ⟨o,Z⟩
    .exact .inl (r b _ e z)
  have cf:Paired (F1 s) E F:=Paired.mapP pr λc v q=>q.2.f1 fz q.1
  have tk:(L.take (j+1)).filterMap m=(L.take j).filterMap m++(match m y with | some d=>[d] | none=>[]):=by
   rw[bM,Y,jY];show _++[y].filterMap m=_;cases e:m y<;>simp[e]
  rw[ev];refine ht E F y (m y) s _ _ (hP y ym) cf (λd v H5 eo sm ah=>?_) λH5 eo sm=>?_
  .have aa:=sm _ _ kD;have af:=sm _ _ Z;have kt:∀ p O,H5 p=some (.t O)->upd H5 R (.l (N++[v])) p=some (.t O):=λp O e=>by
    rw[mT (λz:p=R=>by rw[z,aa] at e;cases e)];exact e
   refine⟨⟨_,rfl⟩,aa,cK (show N.length<=1000 by omega) (by decide),J,by rw[mT aD];exact af,mX,λb u n U=>?_,by rw[bH,eQ];omega,?_⟩
   .rw[mT (λz:b=R=>by rw[z,W] at n;cases n)];exact sm _ _ (r b u n U)
   .rw[tk,eo];exact Paired.snoc (Paired.mapP G λc w q=>(q.keep λp O e=>sm _ _ e).keep kt) (ah.keep kt)
  .refine⟨⟨_,rfl⟩,J,sm _ _ Z,sm _ _ kD,λb u n U=>sm _ _ (r b u n U),by omega,?_⟩;rw[tk,eo,dD];exact Paired.mapP G λc w q=>q.keep λp O e=>sm _ _ e
 .rintro N s ⟨_,Z,kD,r,hy,G⟩;rw[aA,lk,cC] at G;refine⟨Z,?_⟩;have same:pV H (upd s a (.k f)):=λb u n=>by
   by_cases z:b=a
   .subst z;rw[mX,<- ha];exact n
   .rw[mT z];exact r b u n z
  have rp:∀ (A:Ad->Prop) (ds:Aa D) (F:Aa V),Paired (zS s) ds F->Reps X.K A (upd s a (.k f)) ds F:=λA ds F pr=>by
   induction pr with
   | nil=>exact .nil
   | cons h _ ih=>exact .cons (h.keep λp O e=>by rw[mT (λz:p=a=>by rw[z,Z] at e;cases e)];exact e).rep ih
  have d2:=hd.adopt (a:=R) (d:=.l (L.filterMap m)) (H':=upd s a (.k f)) (λb u n _=>same b u n) (hd.dk.keep λb n=>by
   obtain⟨O,q⟩:=hd.dk.some n;rw[same b _ q,q]) W ⟨N,by rw[mT (eJ aD)];exact kD,rp _ _ _ G⟩
  exact k _ ρ _ _ hl d2.mid ae
end
section
theorem NG (hl:IsTup s.heap l #[j,o]) (hm:IsTup s.heap m #[C,I]) (hu:A.units<cLine)
  (J:Hr g w A.in1 s j C) (T:Hr g w A.in1 s o I) (U:Q (.bool false) s):wpAny (model g w) A (compareOp .NotEq (.ref l) (.ref m)) Q E s:=by
 obtain⟨t,g1,i,n,d1⟩:=id hl;obtain⟨x,g2,k,q,d2⟩:=id hm;have f:s.TypeIs (.ref l) "tuple" := ⟨_,g1,i⟩;have h:s.TypeIs (.ref m) "tuple" := ⟨_,g2,k⟩;refine wpAny_richCompare_same_room (op:=.NotEq) f h F.slot_tuple_ne ?_ hu;refine dL F.slot_tuple_ne f F.entry_tuple_ne ?_ (F.args_tuple_ne_2 _ _);show wpAny _ _ (isInstance (.ref m) (.type "tuple") >>= _) _ _ s;refine aB (dU h isSubtype_tuple_tuple ?_);simp only[Bool.not_true,eC,gC];refine aB (wpAny_tupleItemsOf g1 d1 ?_);refine aB (wpAny_tupleItemsOf g2 d2 ?_);refine aB ?_;refine wpAny_forIn_list _ (λrest r c=>r.1=none/\c=s/\∀ p∈rest,Hr g w A.in1 s p.1 p.2) _ ?_ ?_ _ _ ⟨rfl,rfl,λp a=>?_⟩
 .rintro ⟨u,v⟩ rest r c ⟨b,rfl,d⟩;refine aB (d (u,v) aH _ _ ?_);exact aI ⟨rfl,rfl,λp a=>d p (aQ _ a)⟩
 .rintro ⟨y,z⟩ c ⟨b,rfl,_⟩;simp only at b;subst b;exact aI ⟨_,rfl,(λe=>nomatch e),U⟩
 .have a:p∈[(j,C),(o,I)]:=a;simp only[aK,bD,eZ] at a;rcases a with rfl | rfl
  .exact J
  .exact T
end
section
variable {X:Cx}
def Wk:R2:=λx y H Q=>∃ (l m:Ad) (p q a c:V),x = .ref l/\y = .ref m/\H l=some (.t [p,q])/\H m=some (.t [a,c])/\Fk H p a/\Fk H q c/\Q (.b false) H
theorem Q6 (g:X.A.units+64<cLine):nJ X (compareOp .NotEq) Wk:=by
 intro i s Z H x y v u Q I L M h;obtain⟨l,m,p,q,W,Y,rfl,rfl,w,z,N,O,k⟩:=h;cases L;cases M;obtain⟨B,F,D,_⟩:=I.tuple (nP.of (K:=X.K) w);obtain⟨f,G,E,_⟩:=I.tuple (nP.of (K:=X.K) z);obtain⟨P,R,n,a,c⟩:=Ba F;obtain⟨S,V,t,d,e⟩:=Ba G;subst n t;exact NG D E (by omega) (N.now I a d (by rw[Around.in1_units];omega)) (O.now I c e (by rw[Around.in1_units];omega)) ⟨.b false,H,I,rfl,k⟩
def Cy (g:Aa (gD×D)):Prop:=(g.map (·.1)).Nodup/\∃ a:Aa V,rK (g.map (·.2))=some a/\∀ v∈a,qI v v=true
theorem Sy {K:mI}(f:Cy g) (h:Rep K A H (.k g) v):∃ a j,v = .ref a/\H a=some (.k j)/\j.map (·.1)=g.map (·.1)/\rK (g.map (·.2))=some (j.map (·.2))/\(j.map (·.2)).all tT=true:=by
 obtain⟨a,j,rfl,_,h,e,r⟩:=h.dK_inv;obtain⟨_,i,b,_⟩:=f;obtain⟨c,d⟩:=Jv b r;exact⟨a,j,rfl,h,e.symm,by rw[b,c],by rw[c];exact d⟩
theorem X3:∀ {g j:Aa (l×o)},g.map (·.1)=j.map (·.1)->g.map (·.2)=j.map (·.2)->g=j
 | [],[],_,_=>rfl
 | [],_::_,e,_=>by cases e
 | _::_,[],e,_=>by cases e
 | (a,b)::g,(c,d)::j,i,k=>by
  rw[aP,aP] at i k;obtain⟨f,m⟩:=dO i;obtain⟨h,n⟩:=dO k;have f:a=c:=f;have h:b=d:=h;rw[f,h,X3 m n]
theorem V8 {K:mI}(f:Cy g) (j:Rep K A H (.k g) x) (l:Rep K A H (.k g) y):Fk H x y:=by
 obtain⟨a,s,rfl,n,d,h,q⟩:=Sy f j;obtain⟨b,m,rfl,g1,g2,g3,u⟩:=Sy f l;have e:m=s:=X3 (g2.trans d.symm) (by rw[h] at g3;exact (bK g3).symm);subst e;refine⟨a,b,m,rfl,rfl,n,g1,by rw[d];exact f.1,λp i=>?_⟩;obtain⟨v,c,t⟩:=f.2;rw[h] at c;have c:=bK c;exact⟨cH.mp q p.2 (dY i),t p.2 (by rw[<- c];exact dY i)⟩
def IU:O2:=λd e f=>∃ a c:Aa (gD×D),d = .t [.k a,.k c]/\e = .t [.k a,.k c]/\Cy a/\Cy c/\f (.v (.b false))
theorem Va {K:mI}:pT K Wk IU:=by
 intro B L H d e x y M Q hd z A s k;obtain⟨D,E,rfl,rfl,v,w,f⟩:=s;obtain⟨l,G,rfl,t,a⟩:=z.tup_inv;obtain⟨m,F,rfl,u,c⟩:=A.tup_inv;cases a with
 | cons h a =>
 cases a with
 | cons i a =>
 cases a;cases c with
 | cons n c =>
 cases c with
 | cons q c =>
 cases c;exact⟨l,m,_,_,_,_,rfl,rfl,t,u,V8 v h n,V8 w i q,k _ _ H f (hd.pushF (.b _))⟩
end
end L2
namespace Lw
open PySem L2
theorem Xq:(["out","into","deck"]:Aa Af).Nodup:=by decide +kernel
theorem Yi:(["name","count","weights"]:Aa Af).Nodup:=by decide +kernel
def xX (n:Int) (t:nB):nB:=t.map λp=>(p.1,n*p.2)
theorem Sc (n:Int) (t:nB):(xX n t).map (·.1)=t.map (·.1):=by unfold xX;rw[List.map_map];rfl
theorem Pg:∀ t:nB,vP (t.map λp=>D.t [.str p.1,.int p.2])=some (gV t):=λt=>Cm (g:=λp:Af×Int=>((Sum.inr p.1:gD),D.int p.2)) (λp=>⟨.str p.1,rfl,rfl⟩) t
def pB (g:Aa (Af×Ab Int)):Aa (gD×D):=g.map λp=>((Sum.inr p.1:gD),nY p.2)
theorem BU:∀ j:Aa (Af×Ab Int),vP (j.map λp=>D.t [.str p.1,nY p.2])=some (pB j):=λj=>Cm (g:=λp:Af×Ab Int=>((Sum.inr p.1:gD),nY p.2)) (λp=>⟨.str p.1,rfl,rfl⟩) j
theorem V1 (g:Aa (Af×Ab Int)):(pB g).map (·.1)=(g.map (·.1)).map Sum.inr:=by unfold pB;rw[List.map_map,List.map_map];rfl
noncomputable def tY (g:Aa (Af×Ab Int)) (x:Af):Ab Int:=match g.find? λp=>decide (p.1=x) with
 | some p=>p.2
 | none=>none
theorem Ko:∀ {es:Aa (Af×Ab Int)}{x:Af},x∈es.map (·.1)->mR (pB es) (Sum.inr x)=some (nY (tY es x))
 | [],_,h=>absurd h (by simp)
 | q::es,x,h=>by
  unfold mR tY pB;rw[aP,dF,dF];by_cases e:q.1=x
  .subst e;rw[bJ rfl,bJ rfl];rfl
  .have ne:¬ ((Sum.inr q.1:gD)=Sum.inr x):=λz=>e (fY z)
   rw[bG e,bG ne];have:=Ko (es:=es) (x:=x) (by
    rw[aP] at h;exact (aK.mp h).resolve_left λz=>e z.symm)
   unfold mR tY pB at this;exact this
theorem F8:∀ {g:Aa Af},g.Nodup->(g.map (Sum.inr:Af->gD)).Nodup
 | [],_=>dZ
 | x::r,h=>by
  obtain⟨b,c⟩:=bY.mp h;refine bY.mpr ⟨λm=>?_,F8 c⟩;obtain⟨y,a,e⟩:=aN.mp m;rw[fY e] at a;exact b a
theorem Q5 (h:(t.map (·.1)).Nodup):Cy (gV t):=by
 refine⟨?_,t.map λp=>V.int p.2,?_,?_⟩
 .have:(gV t).map (·.1)=(t.map (·.1)).map Sum.inr:=by unfold gV;rw[List.map_map,List.map_map];rfl
  rw[this];exact F8 h
 .unfold gV;rw[aR];exact Dg (f:=λp:Af×Int=>D.int p.2) (λ_=>rfl) t
 .intro v a;obtain⟨p,_,rfl⟩:=aN.mp a;exact hU (α:=Int) p.2
def vO:Ab Int->V
 | none=>.e
 | some i=>.int i
theorem Sg (h:(g.map (·.1)).Nodup):Cy (pB g):=by
 refine⟨?_,g.map λp=>vO p.2,?_,?_⟩
 .rw[V1];exact F8 h
 .unfold pB;rw[aR];exact Dg (f:=λp:Af×Ab Int=>nY p.2) (λp=>by cases p.2<;>rfl) g
 .intro v a;obtain⟨p,_,rfl⟩:=aN.mp a;cases p.2 with
  | none=>rfl
  | some i=>exact hU (α:=Int) i
theorem LU {j:Type} [DecidableEq j] {g:Aa (j×D)}{k:j}{d:D}(h:k∉g.map (·.1)):nM g k d=g++[(k,d)]:=by
 unfold nM;rw[aJ];intro z;rw[gA] at z;obtain⟨p,a,e⟩:=z;exact h (aN.mpr ⟨p,a,cU e⟩)
theorem Ve:∀ (b a:Aa (gD×D)),((a++b).map (·.1)).Nodup->qF a b=a++b
 | [],a,_=>by simp[qF]
 | p::b,a,h=>by
  have c:p.1∉a.map (·.1):=λq=>by
   rw[aM] at h;exact (bE.mp h).2.2 p.1 q p.1 (by simp) rfl
  have e:qF a (p::b)=qF (nM a p.1 p.2) b:=rfl;rw[e,LU c,Ve b (a++[p]) (by simpa using h)];simp
def BA (n:Int):Aa D->Af->Ab D->Prop:=λb x c=>∃ (a:Aa (gD×D)) (v:Int),b=[.int n,.k a]/\mR a (Sum.inr x)=some (.int v)/\c=some (.t [.str x,.int (n*v)])
theorem LV (l:Aa j) (h:∀ x∈l,f x=some (g x)):l.filterMap f=l.map g:=by
 induction l with
 | nil=>rfl
 | cons a l c=>rw[gZ,h a (by simp),c λx b=>h x (by simp[b])];rfl
theorem Ev (t:nB):zN (.k (gV t)):=.inr ⟨_,t.map λp=>V.int p.2,rfl,by
 unfold gV;rw[aR];exact Dg (f:=λp:Af×Int=>D.int p.2) (λ_=>rfl) t⟩
def Ru:RD:=λc a b=>∃ (t:nB) (n:Int),a=[.k (gV t),.int n]/\-(2 ^ 64)<n/\n<2 ^ 64/\(t.map (·.1)).Nodup/\t.length<=1000/\b (.o (.k (gV (xX n t))))
def Ha (g:Aa (Af×Ab Int)):Prop:=∀ p∈g,p.2=none\/p.2=some 0\/p.2=some 1
def Wj:RD:=λb e f=>∃ (d c:Ad) (C:Cel) (al:Aa (Af×Af)),b=[d,c]/\e=[.r (.ref d),rV C al]/\(al.map (·.2)).Nodup/\al.length<=4/\∀ a:Aa (Af×Ab Int),(a.map (·.1)).Perm (al.map (·.2))->Ha a->f (.o (.k (pB a)))
section
variable {P:Ah}{K:mI}
theorem GU:FnScope ["weights","count"] ["weights","count"] (nF Hx):=oM
theorem RI:FnScope ["deck","row"] ["deck","row"] (nF Iy):=oM
theorem AR (T:Txt g):oK P w K g base 1 "_law_times" Hx ["weights","count"] Ru:=by
 refine oS GU λf M A z s H E j l J r S Q=>?_
 obtain⟨t,n,rfl,Y,Z,G,L,y⟩:=Q;refine⟨_,(mQ (nO (nZ (uU rfl) uS T.dict bZ (dK (R7 (P:=BA n) (i:=0) (T3 (zY ["name"] ["count","weights"] [1,0] rfl (Wt (pv 0)) rfl rfl (λe d C B D=>wS (i:=0) Yi rfl (Or.inl rfl)) (λe d C B D=>E9) (λe d C B D=>Ca (nA (pv 0) (nA (nT wZ (pv 1) (Ms S (pv 2) (pv 0) (λ_ _=>rfl))) nK))))) ?u) eA)))),?_⟩
 case u =>
  rintro _ I x _ H N F ⟨X,v,rfl,V,rfl⟩ h O o;cases h with
  | cons a h =>
   cases h with
   | cons b h =>
    cases h;cases a.flat rfl;obtain⟨c,rfl,R⟩:=b.get V rfl;unfold Fn;refine (aO rfl).mpr ?_;exact⟨_,rfl,_,rfl,_,rfl,_,rfl,c,_,rfl,R,n,v,rfl,rfl,.inl ⟨Y,Z⟩,by show 2<=sizeLine;decide,λp q=>O _ _ _ rfl (pV.new q) (.inr ⟨_,_,p,rfl,rfl,rfl,mX⟩)⟩
 refine⟨gV t,t.map (·.1),[.int n,.k (gV t)],λx=>some (.t [.str x,.int (n*look t x)]),rfl,Ev t,by unfold gV;rw[List.map_map,List.map_map];rfl,by rw[aA];exact L,rfl,λc m=>?_,λx W=>⟨_,_,rfl,(tX t x).1 W,rfl⟩,gV (xX n t),?_,?_,?_⟩
 .rcases aK.mp m with rfl | m
  .exact .inl (.inl ⟨_,rfl⟩)
  .rw[aX.mp m];exact .inl (Ev t)
 .rw[List.filterMap_map,<- Pg];unfold xX;rw[List.map_map];refine cG vP (LV t λp q=>?_);simp only[Function.comp,Cz G q]
 .unfold gV xX;rw[List.length_map,List.length_map];exact L
 .rw[xL (by rw[Sc];exact G)];exact y
theorem Yw (T:Txt l) (j:Kn P w K l base 1 "_law_take" Ep ["deck","many"] xR) (g:Kn P w K l base 2 "_law_shuffled" Ed ["deck","some"] N9):oK P w K l base 3 "_law_edges" Iy ["deck","row"] Wj:=by
 refine oS RI λf S A N s H E I J Φ G Q V=>?_
 obtain⟨d,c,C,al,rfl,rfl,Z,U,M⟩:=V;refine⟨_,(mQ (nO (nZ (uU rfl) uS T.dict bZ (dK (oZ ["out","into"] ["deck"] [0] (nN (mU g G (dK (dT 0) (dK (mP Q 1 hL) eA)))) (λ_ _ _ _ _=>(qR (n:=2) rfl (nE (mM 0 Xq) (nE (mM 1 Xq) pD)))) (λ_ _ _ _ _=>(oN (dK (dT 1) (dK (qP Q (nX (dK yL (dK hL (dK hL (dK yL eA))))) (mU j G (dK (dT 2) (dK hL eA)))) eA))))) eA)))),?_⟩;unfold qX dC aC vA iV;refine⟨rfl,_,rfl,d,c,al.map rQ,rfl,.inr rfl,by rw[aA];omega,λy X=>⟨.inl rfl,?_⟩⟩;obtain⟨m,O,rfl⟩:=Qp (xs:=al) X;refine⟨λi y z=>∃ a:Aa (Af×Ab Int),y=a.map (λp=>D.t [.str p.1,nY p.2])/\a.map (·.1)=(m.take i).map (·.2)/\Ha a/\z=[.v (.r (.ref d))],⟨[],rfl,rfl,λ_ h=>absurd h (by simp),rfl⟩,?_,?_⟩
 .rintro i x y z Y _ ⟨a,rfl,k,B,rfl⟩;obtain⟨p,F,rfl⟩:=pR Y;have lz:a.length<=100:=by
   have:=cG List.length k;rw[aA,aA,bU,O.length_eq] at this;omega
  have go:∀ o:Ab Int,(o=none\/o=some 0\/o=some 1)->∃ b:Aa (Af×Ab Int),a.map (λp=>D.t [.str p.1,nY p.2])++[D.t [.str p.2,nY o]]=b.map (λp=>D.t [.str p.1,nY p.2])/\b.map (·.1)=(m.take (i+1)).map (·.2)/\Ha b/\[Sl.v (.r (.ref d))]=[Sl.v (.r (.ref d))]:=λo W=>by
   refine⟨a++[(p.2,o)],by rw[aM];rfl,?_,?_,rfl⟩
   .rw[aM,k,bM,F,aM];rfl
   .intro q u;rcases aV.mp u with u | u
    .exact B q u
    .rw[aX.mp u];exact W
  refine⟨rfl,rfl,by show 4<=1000;decide,d,c,4,rfl,rfl,by decide,by decide,λr G=>⟨.inl rfl,?_⟩⟩;have L:r=0\/r=1\/r=2\/r=3:=by omega
  rcases L with rfl | rfl | rfl | rfl
  .exact⟨_,rfl,by show 2<=1000;decide,by rw[aA];omega,go none (.inl rfl)⟩
  .exact⟨_,rfl,by show 2<=1000;decide,by rw[aA];omega,go (some 0) (.inr (.inl rfl))⟩
  .exact⟨_,rfl,by show 2<=1000;decide,by rw[aA];omega,go (some 1) (.inr (.inr rfl))⟩
  .exact⟨_,rfl,by show 2<=1000;decide,by rw[aA];omega,go none (.inl rfl)⟩
 .rintro y z _ ⟨a,rfl,k,B,rfl⟩;rw[aA,cC] at k;have R:(a.map (·.1)).Perm (al.map (·.2)):=by rw[k];exact O.map _
  refine⟨pB a,BU a,?_,?_⟩
  .have:=cG List.length k;rw[aA,aA,O.length_eq] at this;unfold pB;rw[aA];omega
  .have e:qF [] (pB a)=pB a:=Ve (pB a) [] (by
    rw[gL,V1];exact F8 (R.nodup_iff.mpr Z))
   rw[e];exact M a R B
end
theorem Wx:(["out","into"]:Aa Af).Nodup:=by decide +kernel
theorem Zu:(["k","gates"]:Aa Af).Nodup:=by decide +kernel
theorem JX:(["name","some","deck"]:Aa Af).Nodup:=by decide +kernel
theorem Uj:∀ {l:zV}{j:Aa Af}{k:Nat}{g:Af×Af×Aa Af},oR j l->l[k]?=some g->ArOk o g.2.2.length->oR j (l.set k (g.1,o,g.2.2))
 | [],_,_,_,_,e,_=>by simp at e
 | a::r,j,0,g,h,e,q=>by
  have e:a=g:=by simpa using e
  subst e;exact⟨q,h.2.1,h.2.2⟩
 | a::r,j,k+1,g,h,e,q=>⟨h.1,h.2.1,Uj h.2.2 (by simpa using e) q⟩
theorem O6:∀ {gs:zV}{k:Nat}{g:Af×Af×Aa Af},gs[k]?=some g->(gs.set k (g.1,wd,g.2.2)).map (·.1)=gs.map (·.1)
 | [],_,_,e=>by simp at e
 | a::r,0,g,e=>by
  have e:a=g:=by simpa using e
  subst e;rfl
 | a::r,k+1,g,e=>by
  have b:=O6 (wd:=wd) (gs:=r) (k:=k) (g:=g) (by simpa using e);rw[lF,aP,aP,b]
theorem HG (h:GoodRow C al) (l:C.gates[k]?=some g) (p:1<g.2.2.length) (hw:j∈vM):GoodRow ⟨C.ins,C.gates.set k (g.1,j,g.2.2),C.outs⟩ al:=by
 have c:=(Js h.good.gt l).1;have b:ArOk j g.2.2.length:=⟨.inl ⟨hw,by rcases c.ok with⟨_,z⟩ | ⟨_,z⟩ | ⟨_,z⟩ | ⟨_,z⟩ | ⟨_,z⟩<;>omega⟩⟩;have a:(Cel.mk C.ins (C.gates.set k (g.1,j,g.2.2)) C.outs).names=C.names:=by
  show C.ins++(C.gates.set k (g.1,j,g.2.2)).map (·.1)=_;rw[O6 l];rfl
 refine⟨⟨by rw[a];exact h.good.nd,by rw[a];exact h.good.nm,Uj h.good.gt l b,by rw[a];exact h.good.os,h.good.ond,h.good.li,by show (C.gates.set _ _).length<=24;rw[bW];exact h.good.lg,h.good.lo⟩,λo d=>?_,h.n1,h.n2,h.mem,h.la⟩;show o∈(C.gates.set k (g.1,j,g.2.2)).map (·.1);rw[O6 l];exact h.og o d
theorem Ql:∀ (t u:nB),(u.map (·.1)).Nodup->∃ g:nB,qF (gV u) (gV t)=gV g/\(g.map (·.1)).Nodup/\g.length<=u.length+t.length
 | [],u,h=>⟨u,rfl,h,by simp⟩
 | p::t,u,h=>by
  obtain⟨g,e,n,l⟩:=Ql t (vJ u p.1 p.2) (K2 h);refine⟨g,?_,n,?_⟩
  .rw[<- e,<- Jp];rfl
  .have:=N8 u p.1 p.2;rw[bS];omega
def Xw:RD:=λe f h=>∃ (d c:Ad) (C:Cel) (al:Aa (Af×Af)) (t:nB),e=[d,c]/\f=[.r (.ref d),rV C al,.k (gV t)]/\GoodRow C al/\(t.map (·.1)).Nodup/\t.length<=60/\∀ (b:Cel) (a:nB),GoodRow b al->(a.map (·.1)).Nodup->a.length<=100->h (.o (.l [rV b al,.k (gV a)]))
abbrev tH (d:Ad) (C:Cel) (al:Aa (Af×Af)) (p I J T U s9 g j l o:Sl):Aa Sl:=[.v (.r (.ref d)),.v (rV C al),p,.v (sG C),.v (.t (al.map rQ)),I,J,T,U,s9,g,j,l,o]
section
variable {P:Ah}{K:mI}
theorem uW:FnScope ["deck","row","weights","cell","along","ins","outs","way","names","name","gates","wide","at","some"] ["deck","row","weights"] (nF Je):=oM
theorem EK (T:Txt mg) (I:Kn P w K mg base 1 "_law_take" Ep ["deck","many"] xR) (J:Kn P w K mg base 1 "_law_words_of" xG ["row"] Av):oK P w K mg base 2 "_law_spoilt" Je ["deck","row","weights"] Xw:=by
 refine oS uW λf aw A av s H E dk ds Φ B M hR=>?_
 obtain⟨d,c,C,al,t,rfl,rfl,hC,ae,a1,au⟩:=hR;refine⟨_,(hO (wN (m:=99) (dT 1) (qR (n:=2) rfl (nE (mM 3 uW.nd) (nE (mM 4 uW.nd) pD)))) (hO (wN (m:=99) (mU J B (dK (dT 1) eA)) (yR (n:=2) rfl (nE (mM 5 uW.nd) (nE (mM 6 uW.nd) pD)))) (hO (mS 2 uW.nd (nZ (uU rfl) uS T.dict bZ (sQ (pv 2) eA))) (hO (mS 7 uW.nd (mU I B (dK (dT 0) (dK hL eA)))) (hO (mS 8 uW.nd (nG oC oD (nG oC oD (qA oC oD 5 (dT 6)) (oZ ["out","into"] [] [] (nN (dT 4)) (λ_ _ _ _ _=>(qR (n:=2) rfl (nE (mM 0 Wx) (nE (mM 1 Wx) pD)))) (λ_ _ _ _ _=>(dT 1)))) (nX (dK mW eA)))) (hO (qU (pY (rD B.units) (pN false) (pv 7) hL) (hO (mS 9 uW.nd (mP M 8 (mU I B (dK (dT 0) (dK (oJ qB qC T.len bN (dK (dT 8) eA)) eA))))) (mQ (uI (n:=2) M (nG oC oD (uX M (pv 2) (dT 9) hL) (qP M (nX (dK hL (dK (Bt hL) (dK hL (dK (nG sF sA hL (nG Hv J4 hL hL)) (dK (nG yA yF hL (mU I B (dK (dT 0) (dK hL eA)))) eA)))))) (mU I B (dK (dT 0) (dK hL eA))))) (pv 2) (dT 9)))) qY) (hO (mS 10 uW.nd (nZ Ly Lo T.list iE (dK (mP M 3 hL) eA))) (hO (Ax 11 ["k"] ["gates"] [10] uW.nd (vY (by rfl) T.range (oJ qB qC T.len bN (sQ (pv 10) eA))) (λ_ _ _ _ _=>(mM 0 Zu)) (λ_ _ _ _ _=>(dT 0)) (ht:=λ_ _ _ _ _=>(Au (Bf B3 B6 (oJ qB qC T.len bN (dK (qP M (mP M 1 (dT 0)) hL) eA)) hL)))) (hO (qU (Cc (Ho (pY (rD B.units) (pN false) (pv 7) hL) (Hn (pY (As B.units) (pN true) (pv 11) (nX eA))))) (hO (mS 12 uW.nd (mP M 11 (mU I B (dK (dT 0) (dK (oJ qB qC T.len bN (dK (dT 11) eA)) eA))))) (mQ (uI (n:=10) M (oN (dK (qP M (mP M 10 (dT 12)) hL) (dK (qP M (nX (dK mW (dK mW (dK mW eA)))) (mU I B (dK (dT 0) (dK hL eA)))) (dK (qP M (mP M 10 (dT 12)) hL) eA)))) (pv 10) (dT 12)))) qY) (hO (qU (pY (rD B.units) (pN false) (pv 7) hL) (hO (mS 13 uW.nd (nX (dK hL (dK hL (dK (Bt hL) (dK hL (dK (Bt hL) (dK hL (dK (nG oC oD (nG vR wO (mU I B (dK (dT 0) (dK (nG vR wO (nG sF sA hL (nG Hv J4 hL hL)) hL) eA))) (nG Hv J4 hL hL)) hL) eA))))))))) (mQ (mS 2 uW.nd (nZ (uU rfl) uS T.dict bZ (dK (oZ ["name"] ["some","deck"] [13,0] (nN (dT 8)) (λ_ _ _ _ _=>(mM 0 JX)) (λ_ _ _ _ _=>(oN (dK (dT 0) (dK (mP M 1 (mU I B (dK (dT 2) (dK hL eA)))) eA))))) eA))))) qY) (mQ (nO (nX (dK (oN (dK (oN (dK (mP M 3 hL) (dK (nZ uR uZ T.tuple cB (sQ (pv 10) eA)) (dK (mP M 3 hL) eA)))) (dK (dT 4) eA))) (dK (dT 2) eA))))))))))))))),?_⟩;have ax:=hC.la;have ay:=hC.good.li;have ao:=hC.good.lg;have az:=hC.good.lo;obtain⟨a,aa⟩:∃ a,a=hI C al++mZ C al++al.map (·.2)++[("" : Af)]:=⟨_,rfl⟩;have l1:(hI C al).length<=C.ins.length:=bV _ _;have l2:(mZ C al).length<=C.outs.length:=bV _ _;have a3:1<=a.length/\a.length<=20:=by
  rw[aa];simp only[bH,aA,eQ];omega
 refine mK (λb=>b=tH d C al (.v (.k (gV t))) .n .n .n .n .n .n .n .n .n) (λN u=>⟨rfl,rfl,u _ rfl⟩) ?_;rintro _ rfl;refine mK (λb=>b=tH d C al (.v (.k (gV t))) (.v (.l ((hI C al).map D.str))) (.v (.l ((mZ C al).map D.str))) .n .n .n .n .n .n .n) (λN u=>?_) ?_
 .exact⟨C,al,rfl,by omega,by omega,by omega,.inl rfl,rfl,rfl,u _ rfl⟩
 rintro _ rfl;refine mK (λb=>b=tH d C al (.o (.k (gV t))) (.v (.l ((hI C al).map D.str))) (.v (.l ((mZ C al).map D.str))) .n .n .n .n .n .n .n) (λN u=>⟨rfl,u _ rfl⟩) ?_;rintro _ rfl;refine mK (λb=>∃ F:Nat,F<3/\b=tH d C al (.o (.k (gV t))) (.v (.l ((hI C al).map D.str))) (.v (.l ((mZ C al).map D.str))) (.v (.int F)) .n .n .n .n .n .n) (λN u=>⟨d,c,3,rfl,rfl,by decide,by decide,λr B=>⟨.inl rfl,u _ ⟨r,by omega,rfl⟩⟩⟩) ?_;rintro _ ⟨F,a2,rfl⟩;refine mK (λb=>b=tH d C al (.o (.k (gV t))) (.v (.l ((hI C al).map D.str))) (.v (.l ((mZ C al).map D.str))) (.v (.int F)) (.o (.l (a.map D.str))) .n .n .n .n .n) (λN u=>?_) ?_
 .have k:=u _ rfl;rw[aa,aM,aM,aM,aR] at k;refine⟨rfl,by rw[aA,aA];omega,?_⟩;refine pL al rQ (λp=>D.str p.2) _ (λΨ h=>h) (by omega) (λj y ys Nx e h1 h2=>⟨rfl,rfl,h1,h2⟩) ?_;refine⟨?_,by show 1<=1000;decide,?_,k⟩
  .show ((hI C al).map D.str++(mZ C al).map D.str).length+(al.map _).length<=100000;simp only[bH,aA];omega
  .show (((hI C al).map D.str++(mZ C al).map D.str)++al.map _).length+1<=100000;simp only[bH,aA];omega
 rintro _ rfl;refine mK (λb=>∃ (G:nB) (L X:Sl),(L = .o (.l (a.map D.str))\/L = .v (.l (a.map D.str)))/\(G.map (·.1)).Nodup/\G.length<=61/\b=tH d C al (.o (.k (gV G))) (.v (.l ((hI C al).map D.str))) (.v (.l ((mZ C al).map D.str))) (.v (.int F)) L X .n .n .n .n) (λN u=>?_) ?_
 .refine⟨rfl,?_⟩;show if (decide ((F:Int)=0))=true then _ else _
  by_cases W:(F:Int)=0
  .rw[bJ W];refine (aO rfl).mpr ?_;refine mK (λb=>∃ x:Af,b=tH d C al (.o (.k (gV t))) (.v (.l ((hI C al).map D.str))) (.v (.l ((mZ C al).map D.str))) (.v (.int F)) (.v (.l (a.map D.str))) (.v (.str x)) .n .n .n .n) (λN' V=>?_) ?_
   .refine⟨rfl,rfl,_,rfl,d,c,_,rfl,rfl,by rw[aA];omega,by rw[aA];omega,λr B=>⟨.inl rfl,?_⟩⟩;rw[aA] at B;obtain⟨o,ho⟩:∃ o,a[r]?=some o:=⟨a[r]'(by omega),aE (by omega)⟩;exact⟨.str o,qT (by rw[aW,ho];rfl),V _ ⟨o,rfl⟩⟩
   rintro _ ⟨x,rfl⟩;have fin:∀ z:Int,N (tH d C al (.o (.k (nM (gV t) (Sum.inr x) (.int (look t x+z))))) (.v (.l ((hI C al).map D.str))) (.v (.l ((mZ C al).map D.str))) (.v (.int F)) (.v (.l (a.map D.str))) (.v (.str x)) .n .n .n .n):=λz=>by
    rw[Jp];exact u _ ⟨vJ t x (look t x+z),_,_,.inr rfl,K2 ae,bX (N8 _ _ _) (by omega),rfl⟩
   have hs:∀ v:Int,sC (.k (gV t)) (.str x) (.int v)=some (.k (nM (gV t) (Sum.inr x) (.int v))):=λv=>by
    have:(gV t).length<100000:=by unfold gV;rw[List.length_map];omega
    simp only[sC,aO this];rfl
   refine⟨rfl,_,rfl,?_⟩;rw[vS];refine⟨⟨by decide,by decide,by decide⟩,.inl ⟨by decide,by decide⟩,d,c,29,rfl,rfl,by decide,by decide,λr1 h1=>⟨.inl rfl,⟨by omega,by omega,by decide⟩,by show 5<=1000;decide,d,c,5,rfl,rfl,by decide,by decide,λr B=>⟨.inl rfl,?_⟩⟩⟩;have ab:r=0\/r=1\/r=2\/r=3\/r=4:=by omega
   rcases ab with rfl | rfl | rfl | rfl | rfl
   .exact⟨_,rfl,rfl,_,hs _,fin _⟩
   .exact⟨_,rfl,rfl,_,hs _,fin _⟩
   .exact⟨_,rfl,rfl,_,hs _,fin _⟩
   .exact⟨_,rfl,rfl,_,hs _,fin _⟩
   .exact⟨_,rfl,rfl,_,hs _,fin _⟩
  .rw[bG W];exact rY (u _ ⟨t,_,.n,.inl rfl,ae,by omega,rfl⟩)
 rintro _ ⟨G,L,X,h8,ac,ah,rfl⟩;refine mK (λb=>b=_) (λN u=>⟨rfl,_,rfl,_,rfl,u _ rfl⟩) ?_;rintro _ rfl;refine mK (λb=>∃ S:Aa Nat,(∀ k∈S,∃ g,C.gates[k]?=some g/\1<g.2.2.length)/\S.length<=24/\b=tH d C al (.o (.k (gV G))) (.v (.l ((hI C al).map D.str))) (.v (.l ((mZ C al).map D.str))) (.v (.int F)) L X (.o (.l (C.gates.map oA))) (.o (.l (S.map λk:Nat=>D.int (0+(k:Int))))) .n .n) (λN u=>?_) ?_
 .unfold qN;refine yP (List.range C.gates.length) (λk=>D.int (0+(k:Int))) (λk=>D.int (0+(k:Int))) (λk=>decide (1<((C.gates[k]?.map λg=>g.2.2.length).getD 0))) (tH d C al (.o (.k (gV G))) (.v (.l ((hI C al).map D.str))) (.v (.l ((mZ C al).map D.str))) (.v (.int F)) L X (.o (.l (C.gates.map oA))) .n .n .n) (λΨ h=>?_) (by rw[cF];omega) (λj k ys Nx e h1 h2 h3=>?_) (u _ ⟨_,λk hk=>?_,?_,rfl⟩)
  .refine⟨rfl,rfl,_,rfl,?_⟩;show -(2 ^ 62)<=(((C.gates.map oA).length:Nat):Int)/\(((C.gates.map oA).length:Nat):Int)<2 ^ 62/\Ψ (pK 0 (((C.gates.map oA).length:Nat):Int).toNat) _;rw[aA,bT];exact⟨by omega,by omega,h⟩
  .have hk:k<C.gates.length:=dQ.mp (aF e);have Z:C.gates[k]?=some C.gates[k]:=aE hk;refine⟨rfl,oA C.gates[k],?_,_,rfl,rfl,_,rfl,?_⟩
   .rw[iT];exact qT (by rw[aW,Z];rfl)
   .show if (decide ((1:Int)<((C.gates[k].2.2.map D.str).length:Nat)))=true then _ else _
    rw[Z] at h2 h3;by_cases W:1<C.gates[k].2.2.length
    .rw[bJ (by rw[aA];omega)];exact (aO rfl).mpr ⟨h1,h2 (bJ W)⟩
    .rw[bG (by rw[aA];omega)];exact rY (h3 (bG W))
  .obtain⟨k1,k2⟩:=cE.mp hk;have hk:k<C.gates.length:=dQ.mp k1;have Z:C.gates[k]?=some C.gates[k]:=aE hk;refine⟨_,Z,?_⟩;rw[Z] at k2;exact cU k2
  .exact bX (bV _ _) (by rw[cF];exact ao)
 rintro _ ⟨S,ar,a5,rfl⟩;refine mK (λb=>∃ (Y:Cel) (O R:Sl),GoodRow Y al/\Y.ins=C.ins/\Y.outs=C.outs/\b=tH d C al (.o (.k (gV G))) (.v (.l ((hI C al).map D.str))) (.v (.l ((mZ C al).map D.str))) (.v (.int F)) L X (.o (.l (Y.gates.map oA))) O R .n) (λN u=>?_) ?_
 .refine⟨rfl,?_⟩;show if (decide ((F:Int)=1))=true then _ else _
  by_cases W:(F:Int)=1
  .rw[bJ W];refine (aO rfl).mpr ⟨rfl,by show 0<=1000;decide,?_⟩;by_cases hz:S=[]
   .subst hz;exact u _ ⟨C,_,_,hC,rfl,rfl,rfl⟩
   .have a4:0<S.length:=List.length_pos_iff.mpr hz;have ez:(S.map λk:Nat=>D.int (0+(k:Int))).isEmpty=false:=by rw[List.isEmpty_map];exact List.isEmpty_eq_false_iff.mpr hz
    show if nb true (S.map λk:Nat=>D.int (0+(k:Int))).isEmpty=true then _ else _
    rw[ez];refine (aO rfl).mpr ?_;refine mK (λb=>∃ k:Nat,k∈S/\b=tH d C al (.o (.k (gV G))) (.v (.l ((hI C al).map D.str))) (.v (.l ((mZ C al).map D.str))) (.v (.int F)) L X (.o (.l (C.gates.map oA))) (.v (.l (S.map λk:Nat=>D.int (0+(k:Int))))) (.v (.int (0+(k:Int)))) .n) (λN' V=>?_) ?_
    .refine⟨rfl,rfl,_,rfl,d,c,_,rfl,rfl,by rw[aA];omega,by rw[aA];omega,λr B=>⟨.inl rfl,?_⟩⟩;rw[aA] at B;obtain⟨o,ho⟩:∃ o,S[r]?=some o:=⟨S[r]'(by omega),aE (by omega)⟩;exact⟨_,qT (by rw[aW,ho];rfl),V _ ⟨o,aF ho,rfl⟩⟩
    rintro _ ⟨k,hk,rfl⟩;obtain⟨g,Z,hw⟩:=ar k hk;have ag:oQ (C.gates.map oA) (0+(k:Int))=some (oA g):=by rw[iT];exact qT (by rw[aW,Z];rfl)
    have an:=(aL.mp Z).1;have fin:∀ wd∈vM,N (tH d C al (.o (.k (gV G))) (.v (.l ((hI C al).map D.str))) (.v (.l ((mZ C al).map D.str))) (.v (.int F)) L X (.o (.l ((C.gates.map oA).set k (.t [.str g.1,.str wd,.t (g.2.2.map D.str)])))) (.v (.l (S.map λk:Nat=>D.int (0+(k:Int))))) (.v (.int (0+(k:Int)))) .n):=λwd aq=>by
     have ai:(C.gates.map oA).set k (.t [.str g.1,.str wd,.t (g.2.2.map D.str)])=(C.gates.set k (g.1,wd,g.2.2)).map oA:=by rw[List.map_set];rfl
     rw[ai];exact u _ ⟨⟨C.ins,C.gates.set k (g.1,wd,g.2.2),C.outs⟩,_,_,HG hC Z hw aq,rfl,rfl,rfl⟩
    refine⟨rfl,_,ag,_,rfl,by show 3<=1000;decide,d,c,3,rfl,rfl,by decide,by decide,λr B=>⟨.inl rfl,?_⟩⟩;have ab:r=0\/r=1\/r=2:=by omega
    have st:∀ x:D,sC (.l (C.gates.map oA)) (.int (0+(k:Int))) x=some (.l ((C.gates.map oA).set k x)):=λx=>by
     rw[iT];show (uE (C.gates.map oA).length (k:Int)).map _=_;have e0:uE (C.gates.map oA).length (k:Int)=some k:=by
      unfold uE;rw[aA];simp[an]
     rw[e0];rfl
    rcases ab with rfl | rfl | rfl
    .exact⟨_,rfl,rfl,_,ag,_,rfl,by show 3<=1000;decide,rfl,_,st _,fin "and" (by decide)⟩
    .exact⟨_,rfl,rfl,_,ag,_,rfl,by show 3<=1000;decide,rfl,_,st _,fin "or" (by decide)⟩
    .exact⟨_,rfl,rfl,_,ag,_,rfl,by show 3<=1000;decide,rfl,_,st _,fin "odd" (by decide)⟩
  .rw[bG W];exact rY (u _ ⟨C,_,_,hC,rfl,rfl,rfl⟩)
 rintro _ ⟨Y,O,R,ak,ei,eo,rfl⟩;refine mK (λb=>∃ (G:nB) (s2 L af:Sl),(s2 = .o (.k (gV G))\/s2 = .v (.k (gV G)))/\(G.map (·.1)).Nodup/\G.length<=100/\b=tH d C al s2 (.v (.l ((hI C al).map D.str))) (.v (.l ((mZ C al).map D.str))) (.v (.int F)) L X (.o (.l (Y.gates.map oA))) O R af) (λN u=>?_) ?_
 .refine⟨rfl,?_⟩;show if (decide ((F:Int)=2))=true then _ else _
  by_cases W:(F:Int)=2
  .rw[bJ W];refine (aO rfl).mpr ?_;refine mK (λb=>∃ ss:Aa Int,ss.length=7/\b=tH d C al (.o (.k (gV G))) (.v (.l ((hI C al).map D.str))) (.v (.l ((mZ C al).map D.str))) (.v (.int F)) L X (.o (.l (Y.gates.map oA))) O R (.o (.l (ss.map D.int)))) (λN' V=>?_) ?_
   .exact⟨⟨by decide,by decide,by decide⟩,.inl ⟨by decide,by decide⟩,d,c,_,rfl,rfl,by decide,by decide,λr B=>⟨.inl rfl,⟨by decide,by decide,by decide⟩,by show 7<=1000;decide,V _ ⟨[0,1,-1,2,-2,7,(r:Int)-10 ^ (9:Int).toNat+1],rfl,rfl⟩⟩⟩
   rintro _ ⟨ss,a0,rfl⟩;unfold qN dC aC vA iV;have aj:∀ Q:Sl->Aa Sl->Prop,(∀ L,Q (.v (.l (a.map D.str))) (tH d C al (.o (.k (gV G))) (.v (.l ((hI C al).map D.str))) (.v (.l ((mZ C al).map D.str))) (.v (.int F)) L X (.o (.l (Y.gates.map oA))) O R (.o (.l (ss.map D.int)))))->vd 8 [d,c] (tH d C al (.o (.k (gV G))) (.v (.l ((hI C al).map D.str))) (.v (.l ((mZ C al).map D.str))) (.v (.int F)) L X (.o (.l (Y.gates.map oA))) O R (.o (.l (ss.map D.int)))) Q:=λQ q=>by
    rcases h8 with rfl | rfl
    .exact q _
    .exact q _
   refine aj _ λL=>?_
   refine⟨λi ys cs=>∃ U:nB,ys=U.map (λp=>D.t [.str p.1,.int p.2])/\U.length=i/\cs=[.o (.l (ss.map D.int)),.v (.r (.ref d))],⟨[],rfl,rfl,rfl⟩,?_,?_⟩
   .rintro i x ys cs hx _ ⟨U,rfl,hz,rfl⟩;obtain⟨y,hy,rfl⟩:=pR hx;have hi:=(aL.mp hy).1;refine⟨rfl,d,c,7,rfl,rfl,by decide,by decide,λr B=>⟨.inl rfl,?_⟩⟩;obtain⟨v,hv⟩:∃ v,ss[r]?=some v:=⟨ss[r]'(by omega),aE (by omega)⟩;refine⟨.int v,qT (by rw[aW,hv];rfl),by show 2<=1000;decide,by rw[aA];omega,U++[(y,v)],by rw[aM];rfl,by rw[bH,hz];rfl,rfl⟩
   .rintro ys cs _ ⟨U,rfl,hz,rfl⟩;rw[aA] at hz;obtain⟨t2,e2,n2,l2⟩:=Ql U [] dZ;refine⟨gV U,Pg U,by unfold gV;rw[List.length_map];omega,?_⟩;have e2:qF [] (gV U)=gV t2:=e2;rw[e2];rw[fS] at l2;exact u _ ⟨t2,_,L,_,.inl rfl,n2,by omega,rfl⟩
  .rw[bG W];exact rY (u _ ⟨G,_,L,.n,.inl rfl,ac,by omega,rfl⟩)
 rintro _ ⟨G,s2,L,af,h2,ac,ah,rfl⟩;have k:=au Y G ak ac ah;unfold rV sG at k;rw[ei,eo] at k;rcases h2 with rfl | rfl
 .exact⟨rfl,_,rfl,rfl,rfl,_,rfl,by show 3<=1000;decide,by show 2<=1000;decide,by show 2<=1000;decide,k⟩
 .exact⟨rfl,_,rfl,rfl,rfl,_,rfl,by show 3<=1000;decide,by show 2<=1000;decide,by show 2<=1000;decide,k⟩
end
def Pm:RD:=λb e f=>∃ (d c:Ad),b=[d,c]/\e=[.r (.ref d)]/\∀ (C:Cel) (al:Aa (Af×Af)) (t:nB) (a:Aa (Af×Ab Int)),GoodRow C al->(t.map (·.1)).Nodup->t.length<=100->(a.map (·.1)).Perm (al.map (·.2))->Ha a->f (.o (.l [rV C al,.t [.k (pB a),.k (gV t)]]))
section
variable {P:Ah}{K:mI}
theorem xO:FnScope ["deck","way","row","weights"] ["deck"] (nF J1):=oM
theorem GY (T:Txt mg) (j:Kn P w K mg base 1 "_law_take" Ep ["deck","many"] xR)
  (ab:Kn P w K mg base 4 "_law_row" Gj ["deck","inputs","gates","most"] X8) (p:Kn P w K mg base 2 "_law_spoilt" Je ["deck","row","weights"] Xw)
  (U:Kn P w K mg base 4 "_law_made" Hq ["deck","kit"] Sb) (aa:Kn P w K mg base 2 "_law_kit" Jr ["deck"] V6)
  (J:Kn P w K mg base 1 "_law_times" Hx ["weights","count"] Ru) (I:Kn P w K mg base 3 "_law_edges" Iy ["deck","row"] Wj):oK P w K mg base 5 "_law_claimed" J1 ["deck"] Pm:=by
 refine oS xO λf ae A ac s H E dk ds Φ h Z hR=>?_
 obtain⟨d,c,rfl,rfl,X⟩:=hR;refine⟨_,(hO (mS 1 xO.nd (mU j h (dK (dT 0) (dK hL eA)))) (hO (qU (pY (rD h.units) (pN false) (pv 1) hL) (hO (mS 2 xO.nd (mU ab h (dK (dT 0) (dK (qP Z (nX (dK hL (dK hL eA))) (nZ A6 Bd T.int eS (dK (Do (rD h.units) (pN false) (mU j h (dK (dT 0) (dK hL eA))) hL) eA))) (dK (qP Z (nX (dK hL (dK hL eA))) (mU j h (dK (dT 0) (dK hL eA)))) (dK hL eA)))))) (mQ (wN (m:=99) (mU p h (dK (dT 0) (dK (dT 2) (dK Fh eA)))) (yR (n:=2) rfl (nE (mM 2 xO.nd) (nE (mM 3 xO.nd) pD)))))) (hO (wN (m:=99) (mU U h (dK (dT 0) (dK (mU aa h (dK (dT 0) eA)) eA))) (yR (n:=2) rfl (nE (mM 2 xO.nd) (nE (mM 3 xO.nd) pD)))) (mQ (mS 3 xO.nd (mU J h (dK (dT 3) (dK (qP Z (nX (dK hL (dK (Bt hL) (dK hL (dK (nG Hv J4 hL hL) (dK (nG yA yF hL (mU j h (dK (dT 0) (dK hL eA)))) eA)))))) (mU j h (dK (dT 0) (dK hL eA)))) eA))))))) (hO (qU (Cc (Ho (pY B3 B6 (pv 1) hL) (Hn (pY BN Y5 (pv 1) hL)))) (mQ (wN (m:=99) (mU p h (dK (dT 0) (dK (dT 2) (dK (dT 3) eA)))) (yR (n:=2) rfl (nE (mM 2 xO.nd) (nE (mM 3 xO.nd) pD))))) qY) (mQ (nO (nX (dK (dT 2) (dK (oN (dK (mU I h (dK (dT 0) (dK (dT 2) eA))) (dK (dT 3) eA))) eA)))))))),?_⟩;refine mK (λG=>∃ q:Nat,q<4/\G=[.v (.r (.ref d)),.v (.int q),.n,.n]) (λN B=>⟨d,c,4,rfl,rfl,by decide,by decide,λr h=>⟨.inl rfl,B _ ⟨r,by omega,rfl⟩⟩⟩) ?_;rintro _ ⟨q,af,rfl⟩;refine mK (λG=>∃ (C:Cel) (al:Aa (Af×Af)) (t:nB) (y:Sl),GoodRow C al/\(t.map (·.1)).Nodup/\(t.length<=100/\(q≠3->t.length<=60))/\(y = .v (.k (gV t))\/y = .o (.k (gV t)))/\G=[.v (.r (.ref d)),.v (.int q),.v (rV C al),y]) (λN B=>?_) ?_
 .refine⟨rfl,?_⟩;show if (decide ((q:Int)=3))=true then _ else _
  by_cases V:(q:Int)=3
  .rw[bJ V];refine (aO rfl).mpr ?_;refine mK (λG=>∃ (C:Cel) (al:Aa (Af×Af)),GoodRow C al/\G=[.v (.r (.ref d)),.v (.int q),.v (rV C al),.n]) (λN' F=>?_) ?_
   .refine⟨by show 2<=1000;decide,d,c,4,rfl,rfl,by decide,by decide,λr0 h0=>⟨.inl rfl,?_⟩⟩;have go:∀ b:Bool,∃ (x:D) (a:Nat),oQ [D.int 6,D.int 4] (if b then 1 else 0)=some x/\x = .int a/\a<=6:=λb=>by
     cases b
     .exact⟨_,6,rfl,rfl,by decide⟩
     .exact⟨_,4,rfl,rfl,by decide⟩
    obtain⟨x,a,e1,rfl,ha⟩:=go (nb false (decide ((r0:Int)=1)));refine⟨_,e1,by show 2<=1000;decide,d,c,2,rfl,rfl,by decide,by decide,λL h1=>⟨.inl rfl,?_⟩⟩;have M:L=0\/L=1:=by omega
    rcases M with rfl | rfl
    .exact⟨_,rfl,d,c,a,10,4,rfl,rfl,ha,by decide,by decide,λC al g=>⟨.inl rfl,F _ ⟨C,al,g,rfl⟩⟩⟩
    .exact⟨_,rfl,d,c,a,24,4,rfl,rfl,ha,by decide,by decide,λC al g=>⟨.inl rfl,F _ ⟨C,al,g,rfl⟩⟩⟩
   rintro _ ⟨C,al,u,rfl⟩;exact⟨d,c,C,al,[],rfl,rfl,u,dZ,by simp,λR Y g1 g2 g3=>⟨.inl rfl,rfl,rfl,B _ ⟨R,al,Y,_,g1,g2,⟨g3,λz=>absurd (by omega) z⟩,.inl rfl,rfl⟩⟩⟩
  .rw[bG V];refine rY ?_;refine mK (λG=>∃ (C:Cel) (al:Aa (Af×Af)) (t:nB),GoodRow C al/\(t.map (·.1)).Nodup/\t.length<=60/\G=[.v (.r (.ref d)),.v (.int q),.v (rV C al),.v (.k (gV t))]) (λN' F=>?_) ?_
   .exact⟨d,c,rfl,rfl,λkt hk=>⟨.inl rfl,d,c,kt,rfl,rfl,hk,λC al wt g hw=>⟨.inl rfl,rfl,rfl,F _ ⟨C,al,wt,g,hw.nd,hw.l,rfl⟩⟩⟩⟩
   rintro _ ⟨C,al,t,u,Q,tl,rfl⟩;have fin:∀ n:Int,N [.v (.r (.ref d)),.v (.int q),.v (rV C al),.o (.k (gV (xX n t)))]:=λn=>by
    have lt:(xX n t).length<=60:=by unfold xX;rw[List.length_map];exact tl
    exact B _ ⟨C,al,_,_,u,by rw[Sc];exact Q,⟨by omega,λ_=>lt⟩,.inr rfl,rfl⟩
   refine⟨⟨by decide,by decide,by decide⟩,d,c,27,rfl,rfl,by decide,by decide,λL h1=>⟨.inl rfl,⟨by omega,by omega,by decide⟩,by show 5<=1000;decide,d,c,5,rfl,rfl,by decide,by decide,λr h=>⟨.inl rfl,?_⟩⟩⟩;have big:(2:Int) ^ L<2 ^ 64/\(0:Int)<2 ^ L:=by
    refine⟨?_,iQ (by decide)⟩;have:=Nat.pow_lt_pow_right (a:=2) (by decide) (show L<64 by omega)
    exact_mod_cast this
   have M:r=0\/r=1\/r=2\/r=3\/r=4:=by omega
   rcases M with rfl | rfl | rfl | rfl | rfl
   .exact⟨_,rfl,t,_,rfl,by decide,by decide,Q,by omega,.inl rfl,fin _⟩
   .exact⟨_,rfl,t,_,rfl,by decide,by decide,Q,by omega,.inl rfl,fin _⟩
   .exact⟨_,rfl,t,_,rfl,by decide,by decide,Q,by omega,.inl rfl,fin _⟩
   .exact⟨_,rfl,t,_,rfl,by decide,by decide,Q,by omega,.inl rfl,fin _⟩
   .refine⟨_,rfl,t,_,rfl,?_,?_,Q,by omega,.inl rfl,fin _⟩
    .show -(2 ^ 64)<(1:Int)*2 ^ ((L:Int)).toNat;rw[iP,bT];omega
    .show (1:Int)*2 ^ ((L:Int)).toNat<2 ^ 64;rw[iP,bT];exact big.1
 rintro _ ⟨C,al,t,y,u,e,i,O,rfl⟩;refine mK (λG=>∃ (C:Cel) (al:Aa (Af×Af)) (t:nB) (y:Sl),GoodRow C al/\(t.map (·.1)).Nodup/\t.length<=100/\(y = .v (.k (gV t))\/y = .o (.k (gV t)))/\G=[.v (.r (.ref d)),.v (.int q),.v (rV C al),y]) (λN B=>?_) ?_
 .refine⟨rfl,?_⟩;show if (decide ((0:Int)<(q:Int)))=true then _ else _
  by_cases V:(0:Int)<(q:Int)
  .rw[bJ V];refine (aO rfl).mpr ⟨rfl,?_⟩;show if (decide ((q:Int)<3))=true then _ else _
   by_cases W:(q:Int)<3
   .rw[bJ W];refine (aO rfl).mpr ?_;have S:=i.2 (by omega);rcases O with rfl | rfl
    .exact⟨d,c,C,al,t,rfl,rfl,u,e,S,λR Y g1 g2 g3=>⟨.inl rfl,rfl,rfl,B _ ⟨R,al,Y,_,g1,g2,g3,.inl rfl,rfl⟩⟩⟩
    .exact⟨d,c,C,al,t,rfl,rfl,u,e,S,λR Y g1 g2 g3=>⟨.inl rfl,rfl,rfl,B _ ⟨R,al,Y,_,g1,g2,g3,.inl rfl,rfl⟩⟩⟩
   .rw[bG W];exact rY (B _ ⟨C,al,t,y,u,e,i.1,O,rfl⟩)
  .rw[bG V];exact rY (B _ ⟨C,al,t,y,u,e,i.1,O,rfl⟩)
 clear O i e u;rintro _ ⟨C,al,t,y,u,e,i,O,rfl⟩;refine⟨d,c,C,al,rfl,rfl,u.n2,u.la,λes p1 p2=>⟨.inl rfl,?_⟩⟩;rcases O with rfl | rfl
 .exact⟨by show 2<=1000;decide,by show 2<=1000;decide,X C al t es u e i p1 p2⟩
 .exact⟨by show 2<=1000;decide,by show 2<=1000;decide,X C al t es u e i p1 p2⟩
end
theorem Qo (g:Room k A):A.units+2<cLine:=cK (Nat.add_le_add_left (by decide:2<=64) _) g.units
def qK (C:Cel) (g:Aa (Af×Af)) (c l:Aa Int):Aa Int:=g.map λp=>pQ C g c l p.1
theorem Ci (f:Aa Int->D):∀ bs:Aa (Aa Int),tF (bs.map λl=>(l.map (Sum.inl:Int->gD),f l))=bs.map mN
 | []=>rfl
 | b::bs=>by
  show D.t ((b.map (Sum.inl:Int->gD)).map A8)::tF (bs.map λl=>(l.map (Sum.inl:Int->gD),f l))=_;rw[Ci f bs,aR];rfl
theorem Ov (f:Aa Int->D):∀ {bs:Aa (Aa Int)},b∈bs->mR (bs.map λl=>(l.map (Sum.inl:Int->gD),f l)) (b.map Sum.inl)=some (f b)
 | [],h=>(bD h).elim
 | c::bs,h=>by
  unfold mR;rw[aP,dF];by_cases e:c=b
  .subst e;simp
  .have:¬ c.map (Sum.inl:Int->gD)=b.map Sum.inl:=λz=>e (Co z)
   rw[bG this];exact Ov f ((aK.mp h).resolve_left λz=>e z.symm)
theorem zL (f:Aa Int->D){b:Aa Int}{bs:Aa (Aa Int)}(h:b∈bs):xK (.T (bs.map λl=>(l.map (Sum.inl:Int->gD),f l))) (mN b)=some (some (f b)):=by
 show (tO (b.map D.int)).map _=_;rw[zA,iG,Ov f h]
theorem Nd (b:Aa Int):xK (.T g) (mN b)=some (mR g (b.map Sum.inl)):=by
 show (tO (b.map D.int)).map _=_;rw[zA,iG]
noncomputable def uH (g:Aa (Aa Int)):Aa (Aa gD×D):=g.map λk=>(k.map (Sum.inl:Int->gD),D.b true)
theorem QV (g:Aa (Aa Int)) (c:Aa Int):nM (uH g) (c.map Sum.inl) (D.b true)=uH (if c∈g then g else g++[c]):=by
 by_cases a:c∈g
 .rw[aO a];unfold nM uH;rw[aO (gA.mpr ⟨(c.map Sum.inl,D.b true),aN.mpr ⟨c,a,rfl⟩,by simp⟩),aR];refine cX λk _=>?_
  show (if k.map (Sum.inl:Int->gD)=c.map Sum.inl then (k.map (Sum.inl:Int->gD),D.b true) else (k.map (Sum.inl:Int->gD),D.b true))=_;split<;>rfl
 .rw[aJ a,L0]
  .unfold uH;rw[List.map_append];rfl
  .intro z;unfold uH at z;rw[aR] at z;obtain⟨k,d,e⟩:=aN.mp z;have e:k=c:=Co e;exact a (e▸d)
theorem CY (h:ks.length<100000) (c:Aa Int):sC (.T (uH ks)) (mN c) (.b true)=some (.T (uH (if c∈ks then ks else ks++[c]))):=by
 show (if (uH ks).length<100000 then (tO (c.map D.int)).map (λk=>D.T (nM (uH ks) k (.b true))) else none)=_;rw[aO (by unfold uH;rw[List.length_map];exact h),zA,iG,QV]
theorem M9:∀ {n:Nat}{b:Aa Int},b.length=n->(∀ x∈b,x=0\/x=1)->b∈mO n
 | 0,[],_,_=>aX.mpr rfl
 | 0,_::_,e,_=>by cases e
 | n+1,[],e,_=>by cases e
 | n+1,x::b,e,h=>by
  have a:=M9 (n:=n) (b:=b) (by simpa using e) λy c=>h y (aQ _ c)
  unfold mO;rcases h x aH with rfl | rfl
  .exact bB _ (dY a)
  .exact aT _ (dY a)
theorem Td (j:RwOk C g) (o:c∈mO g.length) (r:l∈mO (hI C g).length):qK C g c l∈mO g.length:=by
 obtain⟨a,b⟩:=uA o;obtain⟨i,k⟩:=uA r;obtain⟨_,_,d⟩:=Gu j a i b k;refine M9 (by unfold qK;rw[List.length_map]) λx f=>?_
 obtain⟨p,e,rfl⟩:=aN.mp f;exact Ij j.gc (λy h=>(d y h).2) p.1 (j.m p e).1
theorem IJ (g:Aa j) (x:j):oQ (g++[x]) (-1)=some x:=by
 unfold oQ uE;rw[aJ (by decide),aO (by rw[bH,eQ];omega)];show (g++[x])[((-1:Int)+((g++[x]).length:Int)).toNat]?=some x;rw[show ((-1:Int)+((g++[x]).length:Int)).toNat=g.length by rw[bH,eQ];omega];simp
theorem Qu {n:Nat}{g:Aa (Aa Int)}(j:g.Nodup) (h:∀ c∈g,c∈mO n):g.length<=2 ^ n:=by rw[<- vF n];exact j.length_le_of_subset h
theorem OK {n:Nat}{g:Aa (Aa Int)}(j:g.Nodup) (h:∀ c∈g,c∈mO n) (l:2<=g.length):∀ b∈g,b≠[]:=by
 rintro b a rfl;have:=(uA (h [] a)).1;have:=Qu j h;subst n;simp at this;omega
abbrev vE (C:Cel) (g:Aa (Af×Af)) (c l:Aa Int):Aa Int:=qK C g c l
def qL (C:Cel) (g:Aa (Af×Af)) (t:nB) (c l:Aa Int):Int:=uJ C g t (pQ C g c l)
def xQ (C:Cel) (g:Aa (Af×Af)) (t:nB):Aa Int->Aa (Aa Int)->Int
 | _,[]=>0
 | c,l::a=>qL C g t c l+2*xQ C g t (vE C g c l) a
def rN:Ab Int->Aa (Ab Int)->Ab Int
 | f,[]=>f
 | _,none::_=>none
 | none,some w::r=>rN (some w) r
 | some v,some w::r=>if v=w then rN (some w) r else none
theorem X6:∀ (j:Aa (Ab Int)) (v g:Int),rN (some v) j=some g↔g=v/\∀ x∈j,x=some v
 | [],v,g=>by
  show some v=some g↔_;constructor
  .intro h;exact⟨(bK h).symm,λx a=>absurd a (by simp)⟩
  .rintro ⟨rfl,_⟩;rfl
 | none::r,v,g=>by
  show none=some g↔_;constructor
  .intro h;cases h
  .rintro ⟨_,h⟩;have:=h none aH;cases this
 | some w::r,v,g=>by
  show (if v=w then rN (some w) r else none)=some g↔_;by_cases e:v=w
  .subst e;rw[aO rfl,X6 r v g];constructor
   .rintro ⟨b,c⟩;exact⟨b,λx a=>(aK.mp a).elim id (c x)⟩
   .rintro ⟨b,c⟩;exact⟨b,λx a=>c x (aQ _ a)⟩
  .rw[aJ e];constructor
   .intro h;cases h
   .rintro ⟨_,h⟩;have:=bK (h (some w) aH);exact absurd this.symm e
theorem K3 (j:g≠[]) (v:Int):rN none g=some v↔∀ x∈g,x=some v:=by
 cases g with
 | nil=>exact absurd rfl j
 | cons a r =>
  cases a with
  | none =>
   show none=some v↔_;constructor
   .intro h;cases h
   .intro h;have:=h none aH;cases this
  | some w =>
   show rN (some w) r=some v↔_;rw[X6];constructor
   .rintro ⟨rfl,h⟩ x b;exact (aK.mp b).elim id (h x)
   .intro h;have e:=bK (h (some w) aH);exact⟨e.symm,λx b=>by rw[h x (aQ _ b),e]⟩
def sm (C:Cel) (g:Aa (Af×Af)) (t:nB):Nat->Aa Int->Ab Int
 | 0,_=>some 0
 | n+1,c=>rN none ((mO (hI C g).length).map λl=>(sm C g t n (vE C g c l)).map λb=>qL C g t c l+2*b)
theorem E8 (n:Nat):mO n≠[]:=λz=>by
 have:=vF n;rw[z] at this;have p:0<2 ^ n:=Nat.pow_pos (by decide);simp at this;omega
def xA (C:Cel) (g:Aa (Af×Af)) (n:Nat) (j:Aa (Aa Int)):Prop:=j.length=n/\∀ l∈j,l∈mO (hI C g).length
theorem xA.cons {C:Cel}{g:Aa (Af×Af)}{n:Nat}{l:Aa Int}{j:Aa (Aa Int)}(h:xA C g (n+1) (l::j)):l∈mO (hI C g).length/\xA C g n j:=⟨h.2 l aH,by have:=h.1;rw[bS] at this;omega,λx a=>h.2 x (aQ _ a)⟩
theorem xA.ex (C:Cel) (g:Aa (Af×Af)) (n:Nat):∃ j,xA C g n j:=by
 obtain⟨a,b⟩:∃ a,a∈mO (hI C g).length:=List.exists_mem_of_ne_nil _ (E8 _);exact⟨List.replicate n a,eP,λl c=>by rw[List.eq_of_mem_replicate c];exact b⟩
theorem N3 (C:Cel) (g:Aa (Af×Af)) (t:nB):∀ (n:Nat) (c:Aa Int) (v:Int),sm C g t n c=some v↔∀ j,xA C g n j->xQ C g t c j=v
 | 0,c,v=>by
  show some 0=some v↔_;constructor
  .intro h j hw;have:j=[]:=List.length_eq_zero_iff.mp hw.1;subst this;exact bK h
  .intro h;have:=h [] ⟨rfl,λ_ z=>absurd z (by simp)⟩;exact cG some this
 | n+1,c,v=>by
  show rN none _=some v↔_;rw[K3 (by rw[Ne,kX];exact E8 _)];constructor
  .intro h j hw;cases j with
   | nil=>have:=hw.1;simp at this
   | cons l j =>
    obtain⟨d,f⟩:=hw.cons;have e:=h _ (aN.mpr ⟨l,d,rfl⟩);cases a:sm C g t n (vE C g c l) with
    | none=>rw[a] at e;cases e
    | some b =>
     rw[a] at e;have e:qL C g t c l+2*b=v:=bK e;show qL C g t c l+2*xQ C g t (vE C g c l) j=v;rw[(N3 C g t n _ b).mp a j f,e]
  .intro h x k;obtain⟨l,d,rfl⟩:=aN.mp k;obtain⟨m,i⟩:=xA.ex C g n;have cons:∀ j,xA C g n j->xA C g (n+1) (l::j):=λj hw=>⟨by rw[bS,hw.1],λx k=>(aK.mp k).elim (λz=>z▸d) (hw.2 x)⟩
   have v0:qL C g t c l+2*xQ C g t (vE C g c l) m=v:=h _ (cons m i);have a:sm C g t n (vE C g c l)=some (xQ C g t (vE C g c l) m):=(N3 C g t n _ _).mpr λj hw=>by
    have v1:qL C g t c l+2*xQ C g t (vE C g c l) j=v:=h _ (cons j hw);omega
   rw[a];exact cG some v0
theorem Wy (h:sm C g t (n+1) c=some v) (j:l∈mO (hI C g).length):∃ b,sm C g t n (qK C g c l)=some b/\qL C g t c l+2*b=v:=by
 have e:=(K3 (by rw[Ne,kX];exact E8 _) v).mp h _ (aN.mpr ⟨l,j,rfl⟩);cases a:sm C g t n (qK C g c l) with
 | none=>rw[a] at e;cases e
 | some b=>rw[a] at e;exact⟨b,rfl,bK e⟩
theorem HX (h:∀ l∈mO (hI C g).length,∃ b,sm C g t n (qK C g c l)=some b/\qL C g t c l+2*b=v):sm C g t (n+1) c=some v:=by
 refine (K3 (by rw[Ne,kX];exact E8 _) v).mpr λx f=>?_
 obtain⟨l,e,rfl⟩:=aN.mp f;obtain⟨b,a,d⟩:=h l e;show (sm C g t n (qK C g c l)).map _=_;rw[a];exact cG some d
def C7 (C:Cel) (g:Aa (Af×Af)) (L j:Aa (Aa Int)):Prop:=∀ c,c∈j↔∃ a∈L,∃ l∈mO (hI C g).length,c=qK C g a l
theorem P4 {C:Cel}{g:Aa (Af×Af)}{t:nB}{W:Nat}{j:Nat->Aa (Aa Int)}(p:∀ k,k+1<W->C7 C g (j k) (j (k+1))) (o:∀ e∈j 0,∃ v,sm C g t W e=some v):∀ k,k<W->∀ c∈j k,∃ v,sm C g t (W-k) c=some v
 | 0,_,c,a=>by rw[Nat.sub_zero];exact o c a
 | k+1,m,c,a=>by
  obtain⟨h,d,l,n,rfl⟩:=(p k m c).mp a;obtain⟨v,f⟩:=P4 p o k (by omega) h d;rw[show W-k=(W-(k+1))+1 by omega] at f;obtain⟨b,i,_⟩:=Wy f n;exact⟨b,i⟩
theorem Zw:(["carried","table","sums"]:Aa Af).Nodup:=by decide +kernel
theorem FA:(["carried"]:Aa Af).Nodup:=by decide +kernel
theorem CS:(["edges","sums"]:Aa Af).Nodup:=by decide +kernel
def tQ (C:Cel) (g:Aa (Af×Af)) (t:nB) (n:Nat):D:=.T ((mO g.length).map λc=>(c.map (Sum.inl:Int->gD),nY (sm C g t n c)))
theorem Xr (f:Aa Int->D):∀ (bs as:Aa (Aa Int)),(as++bs).Nodup->tI nM (as.map λc=>(c.map (Sum.inl:Int->gD),f c)) (bs.map λc=>(c,f c))=(as++bs).map λc=>(c.map (Sum.inl:Int->gD),f c)
 | [],as,_=>by rw[dD];rfl
 | b::bs,as,h=>by
  have n:b∉as:=λq=>(bE.mp h).2.2 b q b (by simp) rfl
  have e:tI nM (as.map λc=>(c.map (Sum.inl:Int->gD),f c)) ((b::bs).map λc=>(c,f c))=tI nM (nM (as.map λc=>(c.map (Sum.inl:Int->gD),f c)) (b.map Sum.inl) (f b)) (bs.map λc=>(c,f c)):=rfl;have d:nM (as.map λc=>(c.map (Sum.inl:Int->gD),f c)) (b.map Sum.inl) (f b)=(as++[b]).map λc=>(c.map (Sum.inl:Int->gD),f c):=by
   unfold nM;rw[aJ,aM]
   .rfl
   .intro z;rw[gA] at z;obtain⟨p,s,e⟩:=z;obtain⟨c,m,rfl⟩:=aN.mp s;have e:c.map (Sum.inl:Int->gD)=b.map Sum.inl:=cU e;have:c=b:=by
     have inj:∀ x y:Aa Int,x.map (Sum.inl:Int->gD)=y.map Sum.inl->x=y:=by
      intro x;induction x with
      | nil=>intro y h;cases y with
       | nil=>rfl
       | cons _ _=>cases h
      | cons a x t=>intro y h;cases y with
       | nil=>cases h
       | cons b y =>
        obtain⟨i,k⟩:=dO h;rw[mG i,t y k]
     exact inj _ _ e
    exact n (this▸m)
  rw[e,d,Xr f bs (as++[b]) (by rw[bP];exact h),bP];rfl
theorem Pk (f:Aa Int->D) (n:Nat):tI nM [] ((mO n).map λc=>(c,f c))=(mO n).map λc=>(c.map (Sum.inl:Int->gD),f c):=Xr f (mO n) [] (by rw[gL];exact Dv n)
def Q7:RD:=λe b d=>∃ (C:Cel) (a:Aa (Af×Af)) (t:nB) (c:Aa Int) (n:Nat),b=[rO C a t c,tQ C a t n]/\RwOk C a/\c∈mO a.length/\d (.v (nY (sm C a t (n+1) c)))
def Tv:RD:=λd b c=>∃ (C:Cel) (a:Aa (Af×Af)) (t:nB) (n:Nat),b=[sR C a t,tQ C a t n]/\RwOk C a/\c (.o (tQ C a t (n+1)))
def Oe:RD:=λi f h=>∃ (C:Cel) (a:Aa (Af×Af)) (t:nB) (c:Aa (gD×D)) (d:Af->Ab Int) (W:Nat),f=[nH C a,.t [.k c,.k (gV t)],.int W]/\RwOk C a/\(∀ p∈a,mR c (Sum.inr p.2)=some (nY (d p.2)))/\W<=60/\∀ b:Bool,(b=true↔∀ e∈uT a d,sm C a t W e=some 0)->h (.v (.b b))
section
variable {P:Ah}{K:mI}
theorem Cu:FnScope ["steps","sums","found","bits","behind","whole"] ["steps","sums"] (nF Gk):=oM
theorem CI:FnScope ["table","sums"] ["table","sums"] (nF F5):=oM
theorem Dl:FnScope ["row","claim","width","table","sums","place"] ["row","claim","width"] (nF Ff):=oM
theorem Yl (T:Txt mg):oK P w K mg base 1 "only_sum" Gk ["steps","sums"] Q7:=by
 refine oS Cu λf p A Y s H E dk ds Φ U G I=>?_
 obtain⟨C,a,t,c,n,rfl,r,J,k⟩:=I;refine⟨_,(hO (mS 2 Cu.nd yL) (hO (Kr (m:=99) eF rfl (dT 0) (mM 3 Cu.nd) (hO (mS 4 Cu.nd (mP G 1 (qP G (mP G 0 (dT 3)) hL))) (hO (qU (pY O8 (Ng false) (pv 4) yL) (mQ (nO yL)) qY) (hO (mS 5 Cu.nd (nG oC oD (qP G (mP G 0 (dT 3)) hL) (nG sF sA hL (dT 4)))) (hO (qU (Cc (Ho (pY KG (Ng true) (pv 2) yL) (Hn (pY (As U.units) (pN true) (pv 2) (dT 5))))) (mQ (nO yL)) qY) (mQ (mS 2 Cu.nd (dT 5)))))))) (mQ (nO (dT 2))))),?_⟩;obtain⟨L,Q⟩:∃ L,L=(mO (hI C a).length).map λl=>(sm C a t n (vE C a c l)).map λb=>qL C a t c l+2*b:=⟨_,rfl⟩
 have W:sm C a t (n+1) c=rN none L:=by rw[Q];rfl
 rw[W] at k;refine mK (λq=>q=_) (λN R=>R _ rfl) ?_;rintro _ rfl;refine mK (λq=>∃ B D y,q=[.v (rO C a t c),.v (tQ C a t n),.v (nY (rN none L)),B,D,y]) (λN R=>?_) ?_
 .refine oV ((mO (hI C a).length).map mN) _ (λΨ h=>?_) (λi q=>∃ (e:Ab Int) (B D y:Sl),rN e (L.drop i)=rN none L/\q=[.v (rO C a t c),.v (tQ C a t n),.v (nY e),B,D,y]) ⟨none,.n,.n,.n,by rw[jP],rfl⟩ ?_ ?_
  .show Ψ (tF _) _;rw[Ci];exact h
  .rintro i x q hx ⟨e,B,D,y,d,rfl⟩;obtain⟨l,g,rfl⟩:=pR hx;have o:=aF g;have j:=zL (xS C a t c) o;have X:=zL (λc=>nY (sm C a t n c)) (Td r J o);have F:L[i]?=some ((sm C a t n (vE C a c l)).map λb=>qL C a t c l+2*b):=by rw[Q,aW,g];rfl
   have S:L.drop i=((sm C a t n (vE C a c l)).map λb=>qL C a t c l+2*b)::L.drop (i+1):=by
    rw[iX (aL.mp F).1];rw[(aL.mp F).2]
   rw[S] at d;refine mK (λq=>q=[.v (rO C a t c),.v (tQ C a t n),.v (nY e),.v (mN l),.v (nY (sm C a t n (vE C a c l))),y]) (λZ u=>?_) ?_
   .exact⟨rfl,rfl,_,j,_,rfl,_,X,u _ rfl⟩
   rintro _ rfl;refine mK (λq=>∃ b:Int,sm C a t n (vE C a c l)=some b/\q=[.v (rO C a t c),.v (tQ C a t n),.v (nY e),.v (mN l),.v (.int b),y]) (λZ u=>?_) ?_
   .refine⟨rfl,?_⟩;cases M:sm C a t n (vE C a c l) with
    | none =>
     rw[M] at d;have z:rN none L=none:=by
      rw[<- d];cases e<;>rfl
     rw[z] at k;exact k
    | some b=>exact u _ ⟨b,M,rfl⟩
   rintro _ ⟨b,M,rfl⟩
   .rw[M] at d;refine mK (λq=>q=[.v (rO C a t c),.v (tQ C a t n),.v (nY e),.v (mN l),.v (.int b),.v (.int (qL C a t c l+2*b))]) (λZ u=>?_) ?_
    .exact⟨rfl,_,j,_,rfl,.inl ⟨by decide,by decide⟩,u _ rfl⟩
    rintro _ rfl;have d:rN e (some (qL C a t c l+2*b)::L.drop (i+1))=rN none L:=d;have last:rN (some (qL C a t c l+2*b)) (L.drop (i+1))=rN none L->∃ (e:Ab Int) (B D y:Sl),rN e (L.drop (i+1))=rN none L/\([.v (rO C a t c),.v (tQ C a t n),.v (.int (qL C a t c l+2*b)),.v (mN l),.v (.int b),.v (.int (qL C a t c l+2*b))]:Aa Sl)=[.v (rO C a t c),.v (tQ C a t n),.v (nY e),B,D,y]:=λh=>⟨_,_,_,_,h,rfl⟩
    cases e with
    | none=>exact⟨rfl,last d⟩
    | some v =>
     have d:(if v=qL C a t c l+2*b then rN (some (qL C a t c l+2*b)) (L.drop (i+1)) else none)=rN none L:=d;refine⟨rfl,rfl,?_⟩;show if (!decide (v=qL C a t c l+2*b))=true then _ else _
     by_cases O:v=qL C a t c l+2*b
     .rw[aO O] at d;rw[bJ O];exact rY (last d)
     .rw[aJ O] at d;rw[<- d] at k;rw[bG O];exact (aO rfl).mpr k
  .rintro q ⟨e,B,D,y,d,rfl⟩;have V:L.length=(mO (hI C a).length).length:=by rw[Q,aA]
   rw[aA,<- V,List.drop_length] at d;refine R _ ⟨B,D,y,?_⟩;rw[<- d];rfl
 rintro _ ⟨B,D,y,rfl⟩;exact k
theorem NI (T:Txt l) (g:Kn P w K l base 1 "only_sum" Gk ["steps","sums"] Q7):oK P w K l base 2 "sums_with_one_more" F5 ["table","sums"] Tv:=by
 refine oS CI λf q A d s H E M N Q m F z=>?_
 obtain⟨C,a,t,n,rfl,k,b⟩:=z;refine⟨_,(mQ (nO (nZ (Ut rfl (Qo m)) W0 T.dict bZ (dK (P5 ["carried"] ["table","sums"] [0,1] rfl (dT 0) rfl rfl (λ_ _ _ _ _=>(mM 0 Zw)) (λ_ _ _ _ _=>Dj) (λ_ _ _ _ _=>(oN (dK (dT 0) (dK (mU g m (dK (mP F 1 (dT 0)) (dK (dT 2) eA))) eA))))) eA)))),?_⟩;have y:=wB k.lp;have B:=vF a.length;unfold qX dC aC;refine pL (mO a.length) mN (λc=>D.t [qM c,nY (sm C a t (n+1) c)]) [.v (sR C a t),.v (tQ C a t n)] (λG h=>?_) (by omega) (λj c O L e u x=>?_) ?_
 .show G (tF _) _;rw[Ci];exact h
 .have i:=aF e;exact⟨rfl,_,zL (rO C a t) i,C,a,t,c,n,rfl,k,i,.inl rfl,by show 2<=1000;decide,u,x⟩
 .refine⟨(mO a.length).map λc=>(c,nY (sm C a t (n+1) c)),by rw[aR];rfl,by rw[aA];omega,?_⟩;rw[Pk (λc=>nY (sm C a t (n+1) c))];exact b
theorem Zl (T:Txt r) (l:Kn P w K r base 5 "step_table" Ga ["row","weights"] G4)
  (p:Kn P w K r base 2 "let_edges" Gz ["row","edges"] Iv) (g:Kn P w K r base 2 "sums_with_one_more" F5 ["table","sums"] Tv):oK P w K r base 6 "claim_holds" Ff ["row","claim","width"] Oe:=by
 refine oS Dl λf I A X s H E dk ds Φ G S hR=>?_
 obtain⟨C,a,t,d,M,W,rfl,Q,he,hW,V⟩:=hR;refine⟨_,(hO (mS 3 Dl.nd (mU l G (dK (dT 0) (dK (mP S 1 hL) eA)))) (hO (mS 4 Dl.nd (nZ (Ut rfl (Qo G)) W0 T.dict bZ (dK (P5 ["carried"] [] [] rfl (dT 3) rfl rfl (λ_ _ _ _ _=>(mM 0 FA)) (λ_ _ _ _ _=>Dj) (λ_ _ _ _ _=>(oN (dK (dT 0) (dK hL eA))))) eA))) (hO (oW (vY (by rfl) T.range (dT 2)) (mM 5 Dl.nd) (mQ (mS 4 Dl.nd (mU g G (dK (dT 3) (dK (dT 4) eA)))))) (mQ (nO (oJ (U4 rfl) W2 T.all PyProof.Rows.boot_all (dK (oZ ["edges"] ["sums"] [4] (nN (mU p G (dK (dT 0) (dK (mP S 1 hL) eA)))) (λ_ _ _ _ _=>(mM 0 CS)) (λ_ _ _ _ _=>(Do (rD G.units) (pN false) (mP S 1 (dT 0)) hL))) eA))))))),?_⟩;have aa:=wB Q.lp;have ab:=vF a.length;refine mK (λm=>m=[.v (nH C a),.v (.t [.k d,.k (gV t)]),.v (.int W),.o (sR C a t),.n,.n]) (λN B=>?_) ?_
 .exact⟨rfl,_,rfl,C,a,t,rfl,Q,.inl rfl,B _ rfl⟩
 rintro _ rfl;refine mK (λm=>m=[.v (nH C a),.v (.t [.k d,.k (gV t)]),.v (.int W),.v (sR C a t),.o (tQ C a t 0),.n]) (λN B=>?_) ?_
 .unfold qN dC aC;refine pL (mO a.length) mN (λc=>D.t [qM c,.int 0]) [.v (nH C a),.v (.t [.k d,.k (gV t)]),.v (.int W),.v (sR C a t),.n,.n] (λY h=>?_) (by omega) (λj c ys Z e O z=>⟨by show 2<=1000;decide,O,z⟩) ?_
  .show Y (tF _) _;rw[Ci];exact h
  .refine⟨(mO a.length).map λc=>(c,nY (sm C a t 0 c)),by rw[aR];rfl,by rw[aA];omega,?_⟩;rw[Pk (λc=>nY (sm C a t 0 c))];exact B _ rfl
 rintro _ rfl;refine mK (λm=>∃ q,m=[.v (nH C a),.v (.t [.k d,.k (gV t)]),.v (.int W),.v (sR C a t),.o (tQ C a t W),q]) (λN B=>?_) ?_
 .refine oV (pK 0 W) [.v (nH C a),.v (.t [.k d,.k (gV t)]),.v (.int W),.v (sR C a t),.o (tQ C a t 0),.n] (λY h=>⟨by omega,by omega,by rw[bT];exact h⟩) (λi m=>∃ q,m=[.v (nH C a),.v (.t [.k d,.k (gV t)]),.v (.int W),.v (sR C a t),.o (tQ C a t i),q]) ⟨.n,rfl⟩ ?_ ?_
  .rintro i x m hx ⟨q,rfl⟩;exact⟨C,a,t,i,rfl,Q,.inl rfl,_,rfl⟩
  .rintro m ⟨q,rfl⟩;have hz:(pK 0 W).length=W:=by unfold pK;simp
   rw[hz];exact B _ ⟨q,rfl⟩
 rintro _ ⟨q,rfl⟩;obtain⟨u,F,y⟩:∃ u:Aa Int->Bool,(∀ e,sm C a t W e=none->u e=false)/\∀ e v,sm C a t W e=some v->u e=decide (v=0):=⟨λe=>match sm C a t W e with | none=>false | some v=>decide (v=0),λe h=>by dsimp only;rw[h],λe v h=>by dsimp only;rw[h]⟩;have ll:(uT a M).length<=64:=bX (bV _ _) (by omega);unfold qX dC aC;refine pL (uT a M) mN (λe=>D.b (u e)) [.v (nH C a),.v (.t [.k d,.k (gV t)]),.v (.int W),.v (sR C a t),.o (tQ C a t W),q] (λY h=>?_) (by omega) (λj e ys Z J O z=>?_) ?_
 .exact⟨rfl,_,rfl,C,a,d,M,rfl,Q.lp,he,.inl rfl,h⟩
 .have U:=(cE.mp (aF J)).1;refine⟨rfl,_,zL (λc=>nY (sm C a t W c)) U,?_⟩;cases L:sm C a t W e with
  | none=>rw[F e L] at z;exact⟨O,z⟩
  | some v=>rw[y e v L] at z;exact⟨O,z⟩
 .refine⟨(uT a M).map u,by rw[<- Mf,aR];rfl,?_⟩;refine V _ ?_;rw[List.all_map];constructor
  .intro h e R;have:=cH.mp h e R;have this:u e=true:=this;cases L:sm C a t W e with
   | none=>rw[F e L] at this;cases this
   | some v=>rw[y e v L] at this;rw[cU this]
  .intro h;refine cH.mpr λe R=>?_
   show u e=true;rw[y e 0 (h e R)];rfl
end
end Lw
namespace L2
open PySem PySem.Spec PyProof.Rows Lw
section
variable {X:Cx}
def Xm:Aa V->Hp->VK->Prop:=λc H Q=>∃ (a:Ad) (b:Aa (gD×V)),c=[.ref a]/\H a=some (.k b)/\∀ l,H l=none->Q (.ref l) (upd H l (.l (b.map λp=>kV p.1)))
theorem NO (g:X.calm=true):oI X (.type "list") Xm:=by
 intro E s σ H xs d Q I r h;obtain⟨a,b,rfl,P,q⟩:=h;obtain⟨u,rfl,J⟩:=rF r;cases J;obtain⟨z,lo,f,m,D⟩:=C4 I.hok P;obtain⟨C,O,N,d1,d2,F,G⟩:=id D;have Y:b.length=f.length:=fA m;refine PySem.W.kdl_call (PySem.W.kdl_dict (knd:=pZ X.prog X.w) (kvs:=f) (ep:=N) lo) (I.ok.hd g) ⟨C,O,d1,d2,F,G⟩ (by rw[<- Y];exact z) λU T n c S y A=>?_
 obtain⟨Z,j⟩:=A;have rel:mY (b.map λp=>kV p.1) n.toList:=by
  have go:∀ (b:Aa (gD×V)) (f:Aa (gD×Ac)) (d:Aa Ac),KV b f->d.length=f.length->(∀ (i:Nat) v,d[i]?=some v->∃ k x,f[i]?=some (k,x)/\(pZ X.prog X.w).is k v=true)->mY (b.map λp=>kV p.1) d:=by
   intro b;induction b with
   | nil =>
    intro f d m t _;cases m;cases d with
    | nil=>exact .nil
    | cons _ _=>cases t
   | cons p b R =>
    intro f d m t B;cases m with
    | cons h m =>
     cases d with
     | nil=>cases t
     | cons u d =>
      obtain⟨k,x,K,L⟩:=B 0 u rfl;cases K;have M:p.1=k:=h.1;rw[aP,M];exact .cons (Ro L) (R _ d m (Nat.succ.inj t) λi v e=>B (i+1) v e)
  exact go b f n.toList m (by rw[eL];exact Z) λi v e=>j i v (by rw[<- cZ];exact e)
 exact⟨.ref s.heap.objs.size,_,I.laid (a:=s.heap.objs.size) (o:=.l (b.map λp=>kV p.1)) (t':=T) S (aU _) ⟨by rw[aA];exact z,n.toList,c,rel,by rw[Array.toArray_toList];exact y⟩,rfl,q _ (I.hok.fresh (aU _))⟩
def BF:OC:=λb c=>match b with
 | [.k a]=>c (.o (.l (a.map λp=>A8 p.1)))
 | _=>False
theorem KJ {K:mI}:rZ K Xm BF:=by
 intro B L H f u v Q hd s c k;cases f with
 | nil=>exact False.elim c
 | cons d f =>
 cases d<;>first | exact False.elim c | skip<;>cases f<;>first | exact False.elim c | skip
 rename_i b
 obtain⟨x,rfl,t⟩:=sE s;obtain⟨a,i,rfl,h,e,r⟩:=t.dK_inv;refine⟨a,i,rfl,h,λl q=>k _ _ _ c (hd.lstF q ?_)⟩;have m:(b.map λp=>A8 p.1)=(b.map (·.1)).map A8:=by rw[aR];rfl
 have n:(i.map λp=>kV p.1)=(b.map (·.1)).map kV:=by rw[e,aR];rfl
 rw[m,n];exact Hm _
end
end L2
namespace Lw
open PySem L2
theorem MW:(["state","later"]:Aa Af).Nodup:=by decide +kernel
def Wb:RD:=λh d f=>∃ (C:Cel) (a:Aa (Af×Af)) (t:nB) (st:Aa (Aa Int)) (W:Nat),d=[sR C a t,.l (st.map mN),.int W]/\RwOk C a/\a.length<=4/\st.Nodup/\(∀ c∈st,c∈mO a.length)/\1<=W/\W<=60/\∀ b:Bool,(b=true↔∀ e∈st,sm C a t W e=some 0)->f (.v (.b b))
def pH (g:Nat->Aa (Aa Int)) (n:Nat):Aa D:=(List.range n).map λk=>D.l ((g k).map qM)
theorem W5 (g:Nat->Aa (Aa Int)) (n:Nat):pH g (n+1)=pH g n++[D.l ((g n).map qM)]:=by unfold pH;rw[List.range_succ,List.map_append];rfl
theorem QU (h:∀ k<n,Lv k=Lv' k):pH Lv n=pH Lv' n:=by
 unfold pH;exact cX λk a=>by rw[h k (dQ.mp a)]
def rX (g:Aa Int):Aa (gD×D):=g.map λk=>((Sum.inl k:gD),D.b true)
theorem OH (h:ks.length<100000) (x:Int):sC (.k (rX ks)) (.int x) (.b true)=some (.k (rX (if x∈ks then ks else ks++[x]))):=by
 have d:(rX ks).length<100000:=by unfold rX;rw[List.length_map];exact h
 simp only[sC,aO d];show some (D.k (nM (rX ks) (Sum.inl x) (.b true)))=_
 congr 2
 unfold nM;have e:((rX ks).any λp=>decide (p.1=Sum.inl x))=decide (x∈ks):=by
  unfold rX;rw[List.any_map];induction ks with
  | nil=>rfl
  | cons k ks c =>
   have c:=c (by rw[bS] at h;omega) (by unfold rX;rw[List.length_map];rw[bS] at h;omega);rw[eU,c];by_cases q:k=x
   .subst q;simp
   .have f:¬ x=k:=λz=>q z.symm
    simp[q,f]
 by_cases a:x∈ks
 .rw[aO a,aO (by rw[e];exact bJ a)];unfold rX;rw[aR];refine cX λk _=>?_
  show (if _ then _ else _)=_;by_cases q:(Sum.inl k:gD)=Sum.inl x
  .simp[q]
  .simp[q]
 .rw[aJ a,aJ (by rw[e,bG a];exact bC)];unfold rX;rw[aM];rfl
theorem ME {ks:Aa (Aa Int)}(f:Aa Int->D) (h:ks.length<100000){c:Aa Int}(g:c∉ks) (d:D):sC (.T (ks.map λc=>(c.map (Sum.inl:Int->gD),f c))) (mN c) d=some (.T ((ks.map λc=>(c.map (Sum.inl:Int->gD),f c))++[(c.map Sum.inl,d)])):=by
 have q:(ks.map λc=>(c.map (Sum.inl:Int->gD),f c)).length<100000:=by rw[aA];exact h
 simp only[sC,mN,aO q];rw[zA,iG]
 congr 2
 unfold nM;rw[aJ];intro z;rw[gA] at z;obtain⟨p,s,e⟩:=z;obtain⟨k,i,rfl⟩:=aN.mp s;have e:k.map (Sum.inl:Int->gD)=c.map Sum.inl:=cU e;have inj:∀ x y:Aa Int,x.map (Sum.inl:Int->gD)=y.map Sum.inl->x=y:=by
  intro x;induction x with
  | nil=>intro y h;cases y with
   | nil=>rfl
   | cons _ _=>cases h
  | cons a x t=>intro y h;cases y with
   | nil=>cases h
   | cons b y =>
    obtain⟨m,n⟩:=dO h;rw[mG m,t y n]
 exact g (inj _ _ e▸i)
abbrev tN (C:Cel) (g:Aa (Af×Af)) (t:nB) (st:Aa (Aa Int)) (W:Nat) (I J T U s7 s8 s9 j o p r:Sl):Aa Sl:=[.v (sR C g t),.v (.l (st.map mN)),.v (.int W),I,J,T,U,s7,s8,s9,j,o,p,r]
section
variable {P:Ah}{K:mI}
theorem uC:FnScope ["steps","starts","width","levels","place","behind","state","letter","later","states","here","sums","after","own"] ["steps","starts","width"] (nF Ir):=oM
theorem EZ (T:Txt mg):oK P w K mg base 1 "_law_holds_wide" Ir ["steps","starts","width"] Wb:=by
 refine oS uC λf a6 A a5 s H E dk ds Φ hr hu hR=>?_
 obtain⟨C,d,t,st,W,rfl,hC,a2,aq,ah,a7,hW,aw⟩:=hR;refine⟨_,(hO (mS 3 uC.nd (nX (dK (dT 1) eA))) (hO (oW (vY (by rfl) T.range (qA vR wO 2 hL)) (mM 4 uC.nd) (hO (mS 5 uC.nd B5) (hO (oW (nN (mP hu 3 (Bt hL))) (mM 6 uC.nd) (mQ (Kr (m:=99) eF rfl (mP hu 0 (dT 6)) (mM 7 uC.nd) (mQ (uI (n:=5) hu wR (pv 5) (qP hu (qP hu (mP hu 0 (dT 6)) (dT 7)) hL)))))) (mQ (sM (rC bF bQ bR sK tR (pv 3) (dK (oJ (JF rfl) CK T.sorted PyProof.Rows.boot_sorted (sQ (pv 5) eA)) eA))))))) (hO (mS 8 uC.nd B5) (hO (oW (nN (QG (dT 3) (Bt hL))) (mM 9 uC.nd) (hO (mS 10 uC.nd B5) (hO (oW (nN (dT 9)) (mM 6 uC.nd) (hO (mS 11 uC.nd Fh) (hO (Kr (m:=99) eF rfl (mP hu 0 (dT 6)) (mM 7 uC.nd) (hO (wN (m:=99) (qP hu (mP hu 0 (dT 6)) (dT 7)) (qR (n:=2) rfl (nE (mM 12 uC.nd) (nE (mM 13 uC.nd) pD)))) (mQ (uI (n:=11) hu wR (pv 11) (qA oC oD 13 (nG sF sA hL (uX hu (pv 8) (dT 12) hL))))))) (hO (qU (Bf B3 B6 (oJ qB qC T.len bN (sQ (pv 11) eA)) hL) (mQ (nO wR)) qY) (mQ (uI (n:=10) hu (qP hu (nZ (NO rfl) KJ T.list iE (sQ (pv 11) eA)) hL) (pv 10) (dT 6))))))) (mQ (mS 8 uC.nd (dT 10)))))) (mQ (nO (Do (rD hr.units) (pN false) (oZ ["state"] ["later"] [8] (nN (dT 1)) (λ_ _ _ _ _=>(mM 0 MW)) (λ_ _ _ _ _=>(dT 0)) (ht:=λ_ _ _ _ _=>(Au (Bf (As hr.units) (pN true) (mP hu 1 (dT 0)) hL)))) (nX eA)))))))),?_⟩;have ay:=gU (show 0<2 by decide) a2;have nn:∀ {L:Aa (Aa Int)},L.Nodup->(∀ c∈L,c∈mO d.length)->L.length<=16:=λnd h=>bX (Qu nd h) ay
 have w6:=wB (bX (bV _ _) hC.li:(hI C d).length<=6);have a8:=vF (hI C d).length;refine mK (λG=>G=_) (λN V=>⟨by show 1<=1000;decide,V _ rfl⟩) ?_;rintro _ rfl;refine mK (λG=>∃ (u:Nat->Aa (Aa Int)) (s4 s5 M F:Sl),u 0=st/\(∀ k,k+1<W->C7 C d (u k) (u (k+1)))/\(∀ k,k<W->(u k).Nodup/\∀ c∈u k,c∈mO d.length)/\G=tN C d t st W (.o (.l (pH u W))) s4 s5 M F .n .n .n .n .n .n) (λN V=>?_) ?_
 .refine oV (pK 0 (W-1)) _ (λΨ h=>?_) (λi G=>∃ (u:Nat->Aa (Aa Int)) (s4 s5 M F:Sl),u 0=st/\(∀ k,k<i->C7 C d (u k) (u (k+1)))/\(∀ k,k<=i->(u k).Nodup/\∀ c∈u k,c∈mO d.length)/\G=tN C d t st W (.o (.l (pH u (i+1)))) s4 s5 M F .n .n .n .n .n .n) ⟨λ_=>st,.n,.n,.n,.n,rfl,λk hk=>absurd hk (mD k),λk _=>⟨aq,ah⟩,rfl⟩ ?_ ?_
  .refine⟨rfl,?_⟩;show -(2 ^ 62)<=(W:Int)-1/\(W:Int)-1<2 ^ 62/\Ψ (pK 0 ((W:Int)-1).toNat) _;rw[show ((W:Int)-1).toNat=W-1 by omega];exact⟨by omega,by omega,h⟩
  .rintro i x G U ⟨u,s4,s5,M,F,l0,lS,lN,rfl⟩;obtain⟨hi,rfl⟩:=Bw U;obtain⟨n1,n2⟩:=lN i (aU _);have ai:oQ (pH u (i+1)) (-1)=some (D.l ((u i).map qM)):=by rw[W5];exact IJ _ _
   refine mK (λG=>G=_) (λN V=>V _ rfl) ?_;rintro _ rfl;refine mK (λG=>∃ (J:Aa (Aa Int)) (M F:Sl),J.Nodup/\(∀ c∈J,c∈mO d.length)/\C7 C d (u i) J/\G=tN C d t st W (.o (.l (pH u (i+1)))) (.v (.int (0+(i:Int)))) (.o (.T (uH J))) M F .n .n .n .n .n .n) (λN V=>?_) ?_
   .refine oV ((u i).map qM) _ (λΨ h=>⟨rfl,_,ai,h⟩) (λm G=>∃ (J:Aa (Aa Int)) (M F:Sl),J.Nodup/\(∀ c∈J,c∈mO d.length)/\C7 C d ((u i).take m) J/\G=tN C d t st W (.o (.l (pH u (i+1)))) (.v (.int (0+(i:Int)))) (.o (.T (uH J))) M F .n .n .n .n .n .n) ⟨[],M,F,dZ,λ_ h=>(bD h).elim,λc=>⟨λh=>(bD h).elim,λ⟨c',h,_⟩=>(bD h).elim⟩,rfl⟩ ?_ ?_
    .rintro m x G U ⟨J,M,F,b1,b2,b3,rfl⟩;obtain⟨c,p,rfl⟩:=pR U;have af:c∈mO d.length:=n2 c (aF p);have ht:=zL (rO C d t) af;refine oV ((mO (hI C d).length).map mN) _ (λΨ h=>?_) (λj G=>∃ (Q:Aa (Aa Int)) (F:Sl),Q.Nodup/\(∀ c∈Q,c∈mO d.length)/\(∀ x,x∈Q↔x∈J\/∃ l∈(mO (hI C d).length).take j,x=qK C d c l)/\G=tN C d t st W (.o (.l (pH u (i+1)))) (.v (.int (0+(i:Int)))) (.o (.T (uH Q))) (.v (mN c)) F .n .n .n .n .n .n) ⟨J,F,b1,b2,λx=>⟨.inl,λh=>h.elim id λ⟨l,h,_⟩=>(bD h).elim⟩,rfl⟩ ?_ ?_
     .refine⟨rfl,_,ht,?_⟩;show Ψ (tF _) _;rw[Ci];exact h
     .rintro j x G U ⟨Q,F,d1,d2,d3,rfl⟩;obtain⟨l,hl,rfl⟩:=pR U;have ae:=aF hl;have hv:=zL (xS C d t c) ae;have hn:=Td hC af ae;have lb:=nn d1 d2;have hs:=CY (ks:=Q) (by omega) (qK C d c l);refine⟨rfl,rfl,_,ht,_,hv,_,rfl,_,hs,if qK C d c l∈Q then Q else Q++[qK C d c l],_,?_,?_,?_,rfl⟩
      .by_cases X:qK C d c l∈Q
       .rw[aO X];exact d1
       .rw[aJ X];exact bE.mpr ⟨d1,bY.mpr ⟨bD,dZ⟩,λa ha b hb e=>X (by rw[<- aX.mp hb,<- e];exact ha)⟩
      .by_cases X:qK C d c l∈Q
       .rw[aO X];exact d2
       .rw[aJ X];exact λa ha=>(aV.mp ha).elim (d2 a) λz=>by rw[aX.mp z];exact hn
      .intro x;have tk:∀ Y,Y∈(mO (hI C d).length).take (j+1)↔Y∈(mO (hI C d).length).take j\/Y=l:=λY=>by
        rw[bM,hl,aV];simp
       have iff:(x∈Q\/x=qK C d c l)↔x∈J\/∃ l∈(mO (hI C d).length).take (j+1),x=qK C d c l:=by
        rw[d3 x];constructor
        .rintro ((h | ⟨Y,Z,g⟩) | h)
         .exact .inl h
         .exact .inr ⟨Y,(tk Y).mpr (.inl Z),g⟩
         .exact .inr ⟨l,(tk l).mpr (.inr rfl),h⟩
        .rintro (h | ⟨Y,Z,g⟩)
         .exact .inl (.inl h)
         .rcases (tk Y).mp Z with h3 | rfl
          .exact .inl (.inr ⟨Y,h3,g⟩)
          .exact .inr g
       rw[<- iff];by_cases X:qK C d c l∈Q
       .rw[aO X];exact⟨.inl,λh=>h.elim id λz=>z▸X⟩
       .rw[aJ X,aV,aX]
     .rintro G ⟨Q,F,d1,d2,d3,rfl⟩;rw[aA,cC] at d3;refine⟨Q,_,_,d1,d2,λx=>?_,rfl⟩;rw[d3 x,b3 x,bM,p];constructor
      .rintro (⟨c',Z,g⟩ | ⟨l,Z,g⟩)
       .exact⟨c',bB _ Z,g⟩
       .exact⟨c,aT _ (by simp),l,Z,g⟩
      .rintro ⟨c',Z,l,g,h3⟩;rcases aV.mp Z with Z | Z
       .exact .inl ⟨c',Z,l,g,h3⟩
       .have:c'=c:=by simpa using Z
        subst this;exact .inr ⟨l,g,h3⟩
    .rintro G ⟨J,M,F,b1,b2,b3,rfl⟩;rw[aA,cC] at b3;exact V _ ⟨J,M,F,b1,b2,b3,rfl⟩
   rintro _ ⟨J,M,F,b1,b2,b3,rfl⟩;have lb:=nn b1 b2;have a4:(pH u (i+1)).length<100000:=by unfold pH;rw[List.length_map,List.length_range];omega
   refine⟨rfl,rfl,J,by unfold uH;rw[List.map_map];rfl,by omega,OK b1 b2,λys hp=>⟨a4,?_⟩⟩;refine⟨λk=>if k=i+1 then ys else u k,.v (.int (0+(i:Int))),.o (.T (uH J)),M,F,by show (if 0=i+1 then ys else u 0)=st;rw[aJ (by omega)];exact l0,λk hk=>?_,λk hk=>?_,?_⟩
   .show C7 C d (if k=i+1 then ys else u k) (if k+1=i+1 then ys else u (k+1));by_cases e:k=i
    .subst e;rw[aJ (by omega),aO rfl];exact λc=>(hp.mem_iff).trans (b3 c)
    .rw[aJ (by omega),aJ (by omega)];exact lS k (by omega)
   .show (if k=i+1 then ys else u k).Nodup/\∀ c∈(if k=i+1 then ys else u k),c∈mO d.length;by_cases e:k=i+1
    .rw[aO e];exact⟨hp.nodup_iff.mpr b1,λc p=>b2 c (hp.mem_iff.mp p)⟩
    .rw[aJ e];exact lN k (by omega)
   .have e1:pH (λk=>if k=i+1 then ys else u k) (i+1+1)=pH u (i+1)++[D.l (ys.map qM)]:=by
     rw[W5,QU (Lv:=λk=>if k=i+1 then ys else u k) (Lv':=u) (n:=i+1) λk hk=>aJ (by omega),aO rfl]
    rw[e1];rfl
  .rintro G ⟨u,s4,s5,M,F,l0,lS,lN,rfl⟩;have hz:(pK 0 (W-1)).length=W-1:=by unfold pK;simp
   rw[hz] at lS lN |-;rw[show W-1+1=W by omega];exact V _ ⟨u,s4,s5,M,F,l0,λk hk=>lS k (by omega),λk hk=>lN k (by omega),rfl⟩
 rintro _ ⟨u,s4,s5,M,F,l0,lS,lN,rfl⟩;have ak:∀ (k:Nat) (c:Aa Int),k<W->c∈u k->(∀ v,sm C d t (W-k) c≠some v)->Φ (.v (.b false)):=λk c hk p a3=>by
  refine aw false ⟨(λz=>by cases z),λS=>?_⟩;obtain⟨v,hv⟩:=P4 lS (λe he=>⟨0,S e (l0▸he)⟩) k hk c p;exact absurd hv (a3 v)
 refine mK (λG=>G=_) (λN V=>V _ rfl) ?_;rintro _ rfl;refine mK (λG=>∃ (R:Aa (Aa gD×D)) (M F I s9 ac O y B:Sl),(I = .o (.T R)\/I = .v (.T R))/\(∀ c∈st,∃ v,sm C d t W c=some v/\mR R (c.map Sum.inl)=some (.int v))/\G=tN C d t st W (.v (.l (pH u W))) s4 s5 M F I s9 ac O y B) (λN V=>?_) ?_
 .refine oV ((pH u W).reverse) _ (λΨ h=>?_) (λj G=>j<=W/\∃ (R:Aa (Aa gD×D)) (M F I s9 ac O y B:Sl),(I = .o (.T R)\/I = .v (.T R))/\(∀ c,(j=0\/c∈u (W-j))->∃ v,sm C d t j c=some v/\(mR R (c.map Sum.inl)).getD (.int 0) = .int v/\(0<j->mR R (c.map Sum.inl)=some (.int v)))/\G=tN C d t st W (.v (.l (pH u W))) s4 s5 M F I s9 ac O y B) ⟨cR _,[],M,F,_,.n,.n,.n,.n,.n,.inl rfl,λc _=>⟨0,rfl,rfl,λz=>absurd z (by omega)⟩,rfl⟩ ?_ ?_
  .exact⟨rfl,h⟩
  .rintro j x G U ⟨hj,R,M,F,I,s9,ac,O,y,B,h8,aa,rfl⟩;have ao:j<W:=by
    have:=(aL.mp U).1;unfold pH at this;rw[kW,aA,cF] at this;exact this
   obtain⟨k,hk⟩:∃ k,k=W-1-j:=⟨_,rfl⟩;have U:D.l ((u k).map qM)=x:=by
    unfold pH at U;rw[List.getElem?_reverse (by rw[aA,cF];exact ao),aA,cF,aW,kU (by omega)] at U;rw[hk];exact bK U
   subst U;obtain⟨n1,n2⟩:=lN k (by omega);have az:W-k=j+1:=by omega
   have ar:∀ c∈u k,∀ l∈mO (hI C d).length,∃ v,sm C d t j (qK C d c l)=some v/\(mR R ((qK C d c l).map Sum.inl)).getD (.int 0) = .int v:=λc p l hl=>by
    by_cases j0:j=0
    .obtain⟨v,e1,e2,_⟩:=aa (qK C d c l) (.inl j0);exact⟨v,e1,e2⟩
    .have hs:=lS k (by omega);obtain⟨v,e1,e2,_⟩:=aa (qK C d c l) (.inr (by rw[show W-j=k+1 by omega];exact (hs _).mpr ⟨c,p,l,hl,rfl⟩));exact⟨v,e1,e2⟩
   have lk:=nn n1 n2;refine mK (λG=>G=_) (λN V=>V _ rfl) ?_;rintro _ rfl;obtain⟨vf,av⟩:∃ vf:Aa Int->D,vf=λc=>.int ((sm C d t (j+1) c).getD 0):=⟨_,rfl⟩
   refine mK (λG=>∃ (M F O y B:Sl),(∀ c∈u k,∃ v,sm C d t (j+1) c=some v)/\G=tN C d t st W (.v (.l (pH u W))) s4 s5 M F I (.v (.l ((u k).map qM))) (.o (.T ((u k).map λc=>(c.map (Sum.inl:Int->gD),vf c)))) O y B) (λN V=>?_) ?_
   .refine oV ((u k).map qM) _ (λΨ h=>h) (λm G=>∃ (M F O y B:Sl),(∀ c∈(u k).take m,∃ v,sm C d t (j+1) c=some v)/\G=tN C d t st W (.v (.l (pH u W))) s4 s5 M F I (.v (.l ((u k).map qM))) (.o (.T (((u k).take m).map λc=>(c.map (Sum.inl:Int->gD),vf c)))) O y B) ⟨M,F,O,y,B,λ_ h=>(bD h).elim,rfl⟩ ?_ ?_
    .rintro m x G U ⟨M,F,O,y,B,S,rfl⟩;obtain⟨c,p,rfl⟩:=pR U;have ab:=aF p;have af:=n2 c ab;have ht:=zL (rO C d t) af;obtain⟨wl,aj⟩:∃ wl:Aa Int->Int,wl=λl=>qL C d t c l+2*(sm C d t j (qK C d c l)).getD 0:=⟨_,rfl⟩
     refine mK (λG=>G=_) (λN V=>V _ rfl) ?_;rintro _ rfl;refine mK (λG=>∃ (L:Aa Int) (F y B:Sl),L.Nodup/\(∀ x,x∈L↔∃ l∈mO (hI C d).length,x=wl l)/\L.length<=64/\G=tN C d t st W (.v (.l (pH u W))) s4 s5 (.v (mN c)) F I (.v (.l ((u k).map qM))) (.o (.T (((u k).take m).map λc=>(c.map (Sum.inl:Int->gD),vf c)))) (.o (.k (rX L))) y B) (λN V=>?_) ?_
     .refine oV ((mO (hI C d).length).map mN) _ (λΨ h=>?_) (λi G=>∃ (L:Aa Int) (F y B:Sl),L.Nodup/\(∀ x,x∈L↔∃ l∈(mO (hI C d).length).take i,x=wl l)/\L.length<=i/\G=tN C d t st W (.v (.l (pH u W))) s4 s5 (.v (mN c)) F I (.v (.l ((u k).map qM))) (.o (.T (((u k).take m).map λc=>(c.map (Sum.inl:Int->gD),vf c)))) (.o (.k (rX L))) y B) ⟨[],F,y,B,dZ,λx=>⟨λh=>(bD h).elim,λ⟨l,h,_⟩=>(bD h).elim⟩,aU _,rfl⟩ ?_ ?_
      .refine⟨rfl,_,ht,?_⟩;show Ψ (tF _) _;rw[Ci];exact h
      .rintro i x G U ⟨L,F,y,B,k1,k2,k3,rfl⟩;obtain⟨l,hl,rfl⟩:=pR U;have hi:=(aL.mp hl).1;have ae:=aF hl;have hv:=zL (xS C d t c) ae;obtain⟨v,e1,e2⟩:=ar c ab l ae;have ew:wl l=qL C d t c l+2*v:=by rw[aj];dsimp only;rw[e1];rfl
       refine mK (λG=>G=tN C d t st W (.v (.l (pH u W))) s4 s5 (.v (mN c)) (.v (mN l)) I (.v (.l ((u k).map qM))) (.o (.T (((u k).take m).map λc=>(c.map (Sum.inl:Int->gD),vf c)))) (.o (.k (rX L))) (.v (mN (qK C d c l))) (.v (.int (qL C d t c l)))) (λN V=>?_) ?_
       .exact⟨rfl,_,ht,_,hv,rfl,rfl,V _ rfl⟩
       rintro _ rfl;have fin:∃ (ag:Aa Int) (F y B:Sl),ag.Nodup/\(∀ x,x∈ag↔∃ l∈(mO (hI C d).length).take (i+1),x=wl l)/\ag.length<=i+1/\tN C d t st W (.v (.l (pH u W))) s4 s5 (.v (mN c)) (.v (mN l)) I (.v (.l ((u k).map qM))) (.o (.T (((u k).take m).map λc=>(c.map (Sum.inl:Int->gD),vf c)))) (.o (.k (rX (if wl l∈L then L else L++[wl l])))) (.v (mN (qK C d c l))) (.v (.int (qL C d t c l)))=tN C d t st W (.v (.l (pH u W))) s4 s5 (.v (mN c)) F I (.v (.l ((u k).map qM))) (.o (.T (((u k).take m).map λc=>(c.map (Sum.inl:Int->gD),vf c)))) (.o (.k (rX ag))) y B:=by
        refine⟨if wl l∈L then L else L++[wl l],_,_,_,?_,?_,?_,rfl⟩
        .by_cases X:wl l∈L
         .rw[aO X];exact k1
         .rw[aJ X];exact bE.mpr ⟨k1,bY.mpr ⟨bD,dZ⟩,λa ha b hb e=>X (by rw[<- aX.mp hb,<- e];exact ha)⟩
        .intro x;have tk:∀ Y,Y∈(mO (hI C d).length).take (i+1)↔Y∈(mO (hI C d).length).take i\/Y=l:=λY=>by
          rw[bM,hl,aV];simp
         have iff:(x∈L\/x=wl l)↔∃ l∈(mO (hI C d).length).take (i+1),x=wl l:=by
          rw[k2 x];constructor
          .rintro (⟨Y,Z,g⟩ | h)
           .exact⟨Y,(tk Y).mpr (.inl Z),g⟩
           .exact⟨l,(tk l).mpr (.inr rfl),h⟩
          .rintro ⟨Y,Z,g⟩;rcases (tk Y).mp Z with h3 | rfl
           .exact .inl ⟨Y,h3,g⟩
           .exact .inr g
         rw[<- iff];by_cases X:wl l∈L
         .rw[aO X];exact⟨.inl,λh=>h.elim id λz=>z▸X⟩
         .rw[aJ X,aV,aX]
        .by_cases X:wl l∈L
         .rw[aO X];omega
         .rw[aJ X,bH,eQ];omega
       have hs:=OH (ks:=L) (by omega) (wl l);rw[ew] at hs fin;rcases h8 with rfl | rfl
       .refine⟨rfl,rfl,rfl,_,Nd _,?_⟩;rw[e2];exact⟨.inl ⟨by decide,by decide⟩,_,hs,fin⟩
       .refine⟨rfl,rfl,rfl,_,Nd _,?_⟩;rw[e2];exact⟨.inl ⟨by decide,by decide⟩,_,hs,fin⟩
      .rintro G ⟨L,F,y,B,k1,k2,k3,rfl⟩;rw[aA] at k3;rw[aA,cC] at k2;exact V _ ⟨L,F,y,B,k1,k2,by omega,rfl⟩
     rintro _ ⟨L,F,y,B,k1,k2,k3,rfl⟩;refine mK (λG=>∃ v:Int,sm C d t (j+1) c=some v/\G=tN C d t st W (.v (.l (pH u W))) s4 s5 (.v (mN c)) F I (.v (.l ((u k).map qM))) (.o (.T (((u k).take m).map λc=>(c.map (Sum.inl:Int->gD),vf c)))) (.o (.k (rX [v]))) y B) (λN V=>?_) ?_
     .refine⟨rfl,rfl,_,rfl,?_⟩;show if (decide ((1:Int)<((rX L).length:Nat)))=true then _ else _
      have ll:(rX L).length=L.length:=by unfold rX;rw[List.length_map]
      rw[ll];by_cases hq:1<L.length
      .rw[bJ (by omega)];refine (aO rfl).mpr (ak k c (by omega) ab λv hv=>?_);rw[az] at hv;have all:∀ x∈L,x=v:=λx U=>by
        obtain⟨l,hl,rfl⟩:=(k2 x).mp U;obtain⟨b,b1,b2⟩:=Wy hv hl;rw[aj];dsimp only;rw[b1];exact b2
       cases L with
       | nil=>simp at hq
       | cons a r=>cases r with
        | nil=>simp at hq
        | cons b r =>
         have:=all a aH;have:=all b (aQ _ aH);exact (bY.mp k1).1 (by rw[show a=b by omega];exact aH)
      .rw[bG (by omega)];obtain⟨l1,a1⟩:∃ a,a∈mO (hI C d).length:=List.exists_mem_of_ne_nil _ (E8 _);have m1:=(k2 (wl l1)).mpr ⟨l1,a1,rfl⟩;obtain⟨v,rfl⟩:∃ v,L=[v]:=by
        cases L with
        | nil=>exact (bD m1).elim
        | cons a r=>cases r with
         | nil=>exact⟨a,rfl⟩
         | cons _ _=>simp at hq
       refine rY (V _ ⟨v,HX λl hl=>?_,rfl⟩);obtain⟨b,b1,_⟩:=ar c ab l hl;refine⟨b,b1,?_⟩;have:=(k2 (wl l)).mpr ⟨l,hl,rfl⟩;have:=aX.mp this;rw[aj] at this;dsimp only at this;rw[b1] at this;exact this
     rintro _ ⟨v,hv,rfl⟩;have a0:c∉(u k).take m:=by
      have ax:((u k).take (m+1)).Nodup:=n1.sublist (lH _ _);rw[bM,p] at ax;intro z;exact (bE.mp ax).2.2 c z c (by simp) rfl
     have hs:=ME vf (ks:=(u k).take m) (by rw[bU];omega) a0 (.int v);have ev:vf c = .int v:=by rw[av];dsimp only;rw[hv];rfl
     refine⟨rfl,_,rfl,rfl,_,hs,.v (mN c),F,.o (.k (rX [v])),y,B,λc' an=>?_,?_⟩
     .rw[bM,p] at an;rcases aV.mp an with q | q
      .exact S c' q
      .have:c'=c:=by simpa using q
       subst this;exact⟨v,hv⟩
     .rw[bM,p,aM];show tN C d t st W _ _ _ _ _ _ _ (.o (.T (_++[(c.map Sum.inl,.int v)]))) _ _ _=tN C d t st W _ _ _ _ _ _ _ (.o (.T (_++[(c.map Sum.inl,vf c)]))) _ _ _;rw[ev]
    .rintro G ⟨M,F,O,y,B,S,rfl⟩;rw[aA,cC] at S |-;exact V _ ⟨M,F,O,y,B,S,rfl⟩
   rintro _ ⟨M,F,O,y,B,S,rfl⟩;refine⟨ao,(u k).map λc=>(c.map (Sum.inl:Int->gD),vf c),M,F,_,_,_,O,y,B,.inr rfl,λc p=>?_,rfl⟩;have ab:c∈u k:=by
    rcases p with z | z
    .omega
    .rw[show W-(j+1)=k by omega] at z;exact z
   obtain⟨v,hv⟩:=S c ab;have e1:=Ov vf ab;have e2:vf c = .int v:=by rw[av];dsimp only;rw[hv];rfl
   rw[e2] at e1;exact⟨v,hv,by rw[e1];rfl,λ_=>e1⟩
  .rintro G ⟨_,R,M,F,I,s9,ac,O,y,B,h8,aa,rfl⟩;have hz:(pH u W).reverse.length=W:=by unfold pH;rw[List.length_reverse,List.length_map,List.length_range]
   rw[hz] at aa;refine V _ ⟨R,M,F,I,s9,ac,O,y,B,h8,λc p=>?_,rfl⟩;obtain⟨v,e1,_,e3⟩:=aa c (.inr (by rw[Nat.sub_self,l0];exact p));exact⟨v,e1,e3 (by omega)⟩
 rintro _ ⟨R,M,F,I,s9,ac,O,y,B,h8,au,rfl⟩;have lst:=nn aq ah;have done:∀ b:Bool,b=(((st.filter λc=>!decide (sm C d t W c=some 0)).map mN).isEmpty)->Φ (.v (.b b)):=λb hb=>by
  refine aw b ?_;rw[hb,List.isEmpty_map,List.isEmpty_iff,List.filter_eq_nil_iff];constructor
  .intro h e he;have:=h e he
   simpa using this
  .intro h e he;simp[h e he]
 have hv:∀ c∈st,∃ v,sm C d t W c=some v/\xK (.T R) (mN c)=some (some (.int v)):=λc p=>by
  obtain⟨v,e1,e2⟩:=au c p;exact⟨v,e1,by rw[Nd,e2]⟩
 unfold qX;rcases h8 with rfl | rfl
 all_goals
  refine yP st mN mN (λc=>!decide (sm C d t W c=some 0)) _ (λΨ h=>h) (by omega) (λi c ys Nx e Z g h3=>?_) ?_
  .obtain⟨v,e1,e2⟩:=hv c (aF e);refine⟨rfl,_,e2,?_⟩;show if (!decide (v=0))=true then _ else _
   rw[e1] at g h3;by_cases hq:v=0
   .subst hq;exact rY (h3 (by simp))
   .rw[bG hq];exact (aO rfl).mpr ⟨Z,g (by simp[hq])⟩
  .exact⟨by show 0<=1000;decide,done _ rfl⟩
end
noncomputable def qZ (g:Af->Int) (u:Nat->Af->Int):Nat->Af×Af->Int
 | 0,p=>g p.2
 | j+1,p=>u j p.1
def pS (C:Cel) (g:Aa (Af×Af)) (u:Nat->Af->Int) (W:Nat):nB:=(mZ C g).map λo=>(o,sN (λj=>2 ^ j*u j o) W)
def qV (g:Aa (Af×Af)) (l:Af->Int) (u:Nat->Af->Int) (j:Nat):nB:=g.map λp=>(p.2,qZ l u j p)
structure RowOk (C:Cel) (prs:List (Str×Str)):Prop where
 gc:GC C
 n1:(prs.map (·.1)).Nodup
 n2:(prs.map (·.2)).Nodup
 o:∀ p∈prs,p.1∈C.outs
 lp:prs.length<=100
structure RunOk (C:Cel) (prs:List (Str×Str)) (W:Nat) (wf ef:Str->Int) (u:Nat->Str->Int) (ρ:Nat->Str->Int):Prop where
 e:∀ p∈prs,nS (ef p.2)
 uu:∀ j,j<W->u j=sW C (ρ j)
 w:∀ j,j<W->∀ x∈hI C prs,ρ j x=wf x/2 ^ j%2
 c:∀ j,j<W->∀ p∈prs,ρ j p.2=qZ ef u j p
theorem RunOk.bits {W:Nat}(R:RowOk C g) (h:RunOk C g W wf r u l):∀ j,j<W->(∀ x∈C.ins,nS (l j x))/\∀ o∈C.outs,nS (u j o)
 | j,a=>by
  have key:∀ x∈C.ins,nS (l j x):=λx f=>by
   by_cases q:x∈g.map (·.2)
   .obtain⟨p,b,rfl⟩:=aN.mp q;rw[h.c j a p b];cases j with
    | zero=>exact h.e p b
    | succ j=>exact (h.bits R j (by omega)).2 p.1 (R.o p b)
   .rw[h.w j a x (cE.mpr ⟨f,by rw[bG q];rfl⟩)];have:=dJ (wf x/2 ^ j) (show (2:Int)≠0 by decide);have:=cP (wf x/2 ^ j) (show (0:Int)<2 by decide);unfold nS;omega
  refine⟨key,λo d=>?_⟩;rw[h.uu j a];exact Ij R.gc key o d
theorem Ln (g:GC C):(hI C prs).Nodup:=(bE.mp g.nd).1.filter _
theorem Uf (g:GC C):(mZ C prs).Nodup:=g.ond.filter _
theorem Dq {g:Aa Af}{v:Af->Int}:(g.map λx=>(x,v x)).map (·.1)=g:=by simp[dP]
noncomputable def vQ (os:Aa Af) (a b:Af->Int) (n:Nat):nB:=(os.take n).map (λo=>(o,b o))++(os.drop n).map λo=>(o,a o)
theorem Oz (os:Aa Af) (a b:Af->Int) (n:Nat):(vQ os a b n).map (·.1)=os:=by
 unfold vQ;rw[aM,Dq,Dq,eR]
theorem QB {os:Aa Af}(g:os.Nodup) (h:os[n]?=some o):look (vQ os a b n) o=a o/\vJ (vQ os a b n) o (b o)=vQ os a b (n+1):=by
 obtain⟨t,q⟩:=aL.mp h;have e:os.drop n=o::os.drop (n+1):=by rw[iX t,q]
 have k:os.take (n+1)=os.take n++[o]:=by rw[bM,h];rfl
 have i:os=os.take n++o::os.drop (n+1):=by rw[<- e,eR]
 have c:=g;rw[i] at c;have f:o∉os.take n:=λz=>(bE.mp c).2.2 o z o aH rfl
 have m:o∉os.drop (n+1):=(bY.mp (bE.mp c).2.1).1;constructor
 .unfold vQ;rw[Ll,Dq,aJ f,e,aP,wM,aO rfl]
 .unfold vJ;rw[aO (by rw[Oz];exact aF h)];unfold vQ;rw[k,e,aM,aM,aP,aP,bP];have same:∀ (d:Aa Af) (v:Af->Int),o∉d->(d.map λx=>(x,v x)).map (λp=>if p.1=o then (p.1,b o) else p)=d.map λx=>(x,v x):=λd v u=>by
   rw[aR];refine cX λx s=>?_
   have ne:¬ x=o:=λz=>u (by rw[<- z];exact s)
   show (if x=o then (x,b o) else (x,v x))=_;rw[aJ ne]
  rw[same _ _ f,same _ _ m];show _++(if o=o then _ else _)::_=_;rw[aO rfl];rfl
theorem OQ:(["name"]:Aa Af).Nodup:=by decide +kernel
theorem Sk:(["out","into","known"]:Aa Af).Nodup:=by decide +kernel
def Py:RD:=λi e f=>∃ (C:Cel) (a:Aa (Af×Af)) (W:Nat) (c b:Aa (gD×D)) (wf d:Af->Int) (u h:Nat->Af->Int),e=[nH C a,.int W,.k c,.k b]/\RowOk C a/\RunOk C a W wf d u h/\1<=W/\W<=60/\b.length<=40/\(∀ x∈hI C a,mR c (Sum.inr x)=some (.int (wf x)))/\(∀ p∈a,mR b (Sum.inr p.2)=some (.int (d p.2))) /\
 f (.o (.l [.k (gV (pS C a u W)),.k (gV (qV a d u W))]))
theorem Q2 (i:Int) (j:Nat):i*2 ^ ((0:Int)+(j:Int)).toNat=2 ^ j*i:=by
 rw[show ((0:Int)+(j:Int)).toNat=j by omega,jT]
theorem R8 (j:Nat):(1:Int)*2 ^ ((0:Int)+(j:Int)).toNat=2 ^ j:=by rw[Q2,lG]
abbrev yS (C:Cel) (j:Aa (Af×Af)) (W:Nat) (l g:Aa (gD×D)) (cr p J U T o I r:Sl):Aa Sl:=[.v (nH C j),.v (.int W),.v (.k l),.v (.k g),cr,p,J,U,T,o,I,r]
section
variable {P:Ah}{K:mI}
theorem wI:FnScope ["row","width","words","edges","carried","ins","outs","told","place","bits","name","known"] ["row","width","words","edges"] (nF Kc):=oM
theorem EJ (T:Txt mg) (I:Kn P w K mg base 1 "_law_words_of" xG ["row"] Av) (r:Kn P w K mg base 2 "_law_all_bits" Eh ["cell","bits"] Lu) :
  oK P w K mg base 3 "_law_laid" Kc ["row","width","words","edges"] Py:=by
 refine oS wI λf ai A ah s H E dk ds Φ hr hu hR=>?_
 obtain⟨C,d,W,O,F,wf,X,u,ac,rfl,R,S,aj,hW,ak,hw,he,ag⟩:=hR;have lp:=R.lp;have li:=R.gc.li;have lo:=R.gc.lo;have an:(hI C d).length<=40:=bX (bV ..) li;have ao:(mZ C d).length<=40:=bX (bV ..) lo;refine⟨_,(hO (mS 4 wI.nd (nZ (uU rfl) uS T.dict bZ (dK (dT 3) eA))) (hO (wN (m:=99) (mU I hr (dK (dT 0) eA)) (yR (n:=2) rfl (nE (mM 5 wI.nd) (nE (mM 6 wI.nd) pD)))) (hO (mS 7 wI.nd (nZ (uU rfl) uS T.dict bZ (dK (oZ ["name"] [] [] (nN (dT 6)) (λ_ _ _ _ _=>(mM 0 OQ)) (λ_ _ _ _ _=>(oN (dK (dT 0) (dK hL eA))))) eA))) (hO (oW (vY (by rfl) T.range (dT 1)) (mM 8 wI.nd) (hO (mS 9 wI.nd (nZ (uU rfl) uS T.dict bZ (dK (dT 4) eA))) (hO (oW (nN (dT 5)) (mM 10 wI.nd) (mQ (uI (n:=9) hu (nG tD Hz (nG Qb BW (mP hu 2 (dT 10)) (nG yA yF hL (dT 8))) hL) (pv 9) (dT 10)))) (hO (mS 11 wI.nd (mU r hr (dK (mP hu 0 hL) (dK (dT 9) eA)))) (hO (oW (nN (dT 6)) (mM 10 wI.nd) (mQ (uI (n:=7) hu (nG oC oD (mP hu 7 (dT 10)) (nG yA yF (mP hu 11 (dT 10)) (dT 8))) (pv 7) (dT 10)))) (mQ (mS 4 wI.nd (nZ (uU rfl) uS T.dict bZ (dK (oZ ["out","into"] ["known"] [11] (nN (mP hu 0 hL)) (λ_ _ _ _ _=>(qR (n:=2) rfl (nE (mM 0 Sk) (nE (mM 1 Sk) pD)))) (λ_ _ _ _ _=>(oN (dK (dT 1) (dK (mP hu 2 (dT 0)) eA))))) eA))))))))) (mQ (nO (nX (dK (dT 7) (dK (dT 4) eA))))))))),?_⟩;refine mK (λG=>G=yS C d W O F (.o (.k F)) .n .n .n .n .n .n .n) (λN hN=>hN _ rfl) ?_;rintro _ rfl;refine mK (λG=>G=yS C d W O F (.o (.k F)) (.v (.l ((hI C d).map D.str))) (.v (.l ((mZ C d).map D.str))) .n .n .n .n .n) (λN hN=>⟨C,d,rfl,lp,by omega,by omega,.inl rfl,rfl,rfl,hN _ rfl⟩) ?_;rintro _ rfl;refine mK (λG=>G=yS C d W O F (.o (.k F)) (.v (.l ((hI C d).map D.str))) (.v (.l ((mZ C d).map D.str))) (.o (.k (gV (pS C d u 0)))) .n .n .n .n) (λN hN=>?_) ?_
 .unfold qN dC aC;refine pL (mZ C d) D.str (λo=>.t [.str o,.int 0]) _ (λΨ h=>h) (by omega) (λi p ys Nx e h1 h2=>⟨by show 2<=1000;decide,h1,h2⟩) ?_;have e0:vP ((mZ C d).map λo=>D.t [.str o,.int 0])=some (gV (pS C d u 0)):=by
   rw[Cm (g:=λo:Af=>((Sum.inr o:gD),D.int 0)) (λp=>⟨.str p,rfl,rfl⟩)];simp[gV,pS,sN]
  refine⟨_,e0,by rw[Ds];unfold pS;rw[List.length_map];omega,?_⟩;rw[xL (by unfold pS;rw[Dq];exact Uf R.gc)];exact hN _ rfl
 rintro _ rfl;refine mK (λG=>∃ pl bi L J:Sl,G=yS C d W O F (.o (.k (gV (qV d X u W)))) (.v (.l ((hI C d).map D.str))) (.v (.l ((mZ C d).map D.str))) (.o (.k (gV (pS C d u W)))) pl bi L J) (λN hN=>?_) ?_
 .refine oV (pK 0 W) _ (λΨ h=>⟨by omega,by omega,h⟩) (λj G=>∃ (M:Aa (gD×D)) (pl bi L J:Sl),G=yS C d W O F (.o (.k M)) (.v (.l ((hI C d).map D.str))) (.v (.l ((mZ C d).map D.str))) (.o (.k (gV (pS C d u j)))) pl bi L J /\ (∀ p∈d,mR M (Sum.inr p.2)=some (.int (qZ X u j p)))/\M.length<=100/\(0<j->M=gV (qV d X u j))) ⟨F,.n,.n,.n,.n,rfl,he,by omega,λz=>absurd z (by omega)⟩ ?_ ?_
  .rintro j x G hd ⟨M,pl,bi,L,J,rfl,hc,ae,_⟩;obtain⟨hj,rfl⟩:=Bw hd;have p2:=CH (i:=j) (by omega);refine mK (λG=>G=_) (λN' Q=>Q _ rfl) ?_;rintro _ rfl;refine mK (λG=>∃ (B:Aa (gD×D)) (L:Sl),G=yS C d W O F (.v (.k M)) (.v (.l ((hI C d).map D.str))) (.v (.l ((mZ C d).map D.str))) (.o (.k (gV (pS C d u j)))) (.v (.int (0+(j:Int)))) (.o (.k B)) L J/\sU B C.ins (ac j)) (λN' Q=>?_) ?_
   .refine oV ((hI C d).map D.str) _ (λΨ h=>h) (λm G=>∃ (B:Aa (gD×D)) (L:Sl),G=yS C d W O F (.v (.k M)) (.v (.l ((hI C d).map D.str))) (.v (.l ((mZ C d).map D.str))) (.o (.k (gV (pS C d u j)))) (.v (.int (0+(j:Int)))) (.o (.k B)) L J /\ (∀ x∈(hI C d).take m,mR B (Sum.inr x)=some (.int (wf x/2 ^ j%2)))/\(∀ p∈d,mR B (Sum.inr p.2)=some (.int (qZ X u j p)))/\B.length<=100+m) ⟨M,L,rfl,(λx V=>by simp at V),hc,by omega⟩ ?_ ?_
    .rintro m x G V ⟨B,L,rfl,h1,h2,h3⟩;obtain⟨y,hy,rfl⟩:=pR V;have ym:=aF hy;have hm:m<(hI C d).length:=(aL.mp hy).1;have tk:(hI C d).take (m+1)=(hI C d).take m++[y]:=by rw[bM,hy];rfl
     have yn:∀ p∈d,y≠p.2:=λp Z z=>by
      have:=(cE.mp ym).2;rw[bJ (show y∈d.map (·.2) from z▸dY Z)] at this;cases this
     have val:wf y/(1*2 ^ ((0:Int)+(j:Int)).toNat)%2=wf y/2 ^ j%2:=by rw[R8]
     refine⟨rfl,.int (wf y),?_,⟨by omega,by omega,by decide⟩,by rw[R8];exact p2,by show (0:Int)<2;decide,rfl,_,Fi (by omega),nM B (Sum.inr y) (.int (wf y/(1*2 ^ ((0:Int)+(j:Int)).toNat)%2)),_,rfl,?_,?_,?_⟩
     .show some (mR O (Sum.inr y))=_;rw[hw y ym]
     .intro x V;rw[F6,val];by_cases e:x=y
      .subst e;rw[aO rfl]
      .rw[aJ (λz=>e (fY z).symm)];rw[tk] at V;rcases aV.mp V with q | q
       .exact h1 x q
       .exact absurd (aX.mp q) e
     .intro p Z;rw[F6,aJ (λz=>yn p Z (fY z))];exact h2 p Z
     .have:=Fv B (Sum.inr y:gD) (.int (wf y/(1*2 ^ ((0:Int)+(j:Int)).toNat)%2));omega
    .rintro G ⟨B,L,rfl,h1,h2,h3⟩;rw[aA,bL (aU _)] at h1;refine Q _ ⟨B,L,rfl,λx V=>⟨?_,(S.bits R j hj).1 x V⟩⟩;by_cases q:x∈d.map (·.2)
     .obtain⟨p,Z,rfl⟩:=aN.mp q;rw[h2 p Z,S.c j hj p Z]
     .have ab:x∈hI C d:=cE.mpr ⟨V,by rw[bG q];rfl⟩;rw[h1 x ab,S.w j hj x ab]
   rintro _ ⟨B,L,rfl,has⟩;refine mK (λG=>∃ U:Aa (gD×D),G=yS C d W O F (.v (.k M)) (.v (.l ((hI C d).map D.str))) (.v (.l ((mZ C d).map D.str))) (.o (.k (gV (pS C d u j)))) (.v (.int (0+(j:Int)))) (.v (.k B)) L (.o (.k U))/\∀ o∈C.outs,mR U (Sum.inr o)=some (.int (u j o))) (λN' Q=>?_) ?_
   .refine⟨rfl,_,rfl,C,B,ac j,rfl,R.gc,has,λU Y=>⟨.inl rfl,Q _ ⟨U,rfl,λo ho=>?_⟩⟩⟩;rw[S.uu j hj];exact (Y o (R.gc.os o ho)).1
   rintro _ ⟨U,rfl,Y⟩;refine mK (λG=>∃ L:Sl,G=yS C d W O F (.v (.k M)) (.v (.l ((hI C d).map D.str))) (.v (.l ((mZ C d).map D.str))) (.o (.k (gV (pS C d u (j+1))))) (.v (.int (0+(j:Int)))) (.v (.k B)) L (.o (.k U))) (λN' Q=>?_) ?_
   .have u0:vQ (mZ C d) (λo=>sN (λj=>2 ^ j*u j o) j) (λo=>sN (λj=>2 ^ j*u j o) (j+1)) 0=pS C d u j:=by unfold vQ pS;rw[List.take_zero,List.drop_zero];rfl
    have uN:vQ (mZ C d) (λo=>sN (λj=>2 ^ j*u j o) j) (λo=>sN (λj=>2 ^ j*u j o) (j+1)) (mZ C d).length=pS C d u (j+1):=by unfold vQ pS;rw[List.take_of_length_le (Nat.le_refl _),List.drop_of_length_le (Nat.le_refl _),List.map_nil,List.append_nil]
    refine oV ((mZ C d).map D.str) _ (λΨ h=>h) (λm G=>∃ L:Sl,G=yS C d W O F (.v (.k M)) (.v (.l ((hI C d).map D.str))) (.v (.l ((mZ C d).map D.str))) (.o (.k (gV (vQ (mZ C d) (λo=>sN (λj=>2 ^ j*u j o) j) (λo=>sN (λj=>2 ^ j*u j o) (j+1)) m)))) (.v (.int (0+(j:Int)))) (.v (.k B)) L (.o (.k U))) ⟨L,by rw[u0]⟩ ?_ ?_
    .rintro m x G V ⟨L,rfl⟩;obtain⟨o,ho,rfl⟩:=pR V;obtain⟨q1,q2⟩:=QB (Uf (prs:=d) R.gc) (a:=λo=>sN (λj=>2 ^ j*u j o) j) (b:=λo=>sN (λj=>2 ^ j*u j o) (j+1)) ho;have om:=aF ho;have oc:=(cE.mp om).1;have ub:=(S.bits R j hj).2 o oc;have kl:=cG List.length (Oz (mZ C d) (λo=>sN (λj=>2 ^ j*u j o) j) (λo=>sN (λj=>2 ^ j*u j o) (j+1)) m);rw[aA] at kl;have af:o∈(vQ (mZ C d) (λo=>sN (λj=>2 ^ j*u j o) j) (λo=>sN (λj=>2 ^ j*u j o) (j+1)) m).map (·.1):=by rw[Oz];exact om
     refine⟨rfl,.int (sN (λj=>2 ^ j*u j o) j),?_,rfl,.int (u j o),?_,⟨by omega,by omega,by rcases ub with q | q<;>rw[q]<;>decide⟩,rfl,_,Fi (by rw[Ds];omega),.v (.str o),?_⟩
     .show some (mR _ (Sum.inr o))=_;rw[(tX _ o).1 af,q1]
     .show some (mR U (Sum.inr o))=_;rw[Y o oc]
     .rw[Jp];have:sN (λj=>2 ^ j*u j o) j+u j o*2 ^ ((0:Int)+(j:Int)).toNat=sN (λj=>2 ^ j*u j o) (j+1):=by rw[Q2];rfl
      rw[this,q2];rfl
    .rintro G ⟨L,rfl⟩;rw[aA,uN];exact Q _ ⟨L,rfl⟩
   rintro _ ⟨L,rfl⟩;unfold qN dC aC;refine pL d (λp=>D.t [.str p.1,.str p.2]) (λp=>.t [.str p.2,.int (u j p.1)]) _ (λΨ h=>⟨rfl,_,rfl,h⟩) (by omega) (λi p ys Nx e h1 h2=>⟨rfl,rfl,rfl,.int (u j p.1),?_,by show 2<=1000;decide,h1,h2⟩) ?_
   .show some (mR U (Sum.inr p.1))=_;rw[Y _ (R.o p (aF e))]
   have e0:vP (d.map λp=>D.t [.str p.2,.int (u j p.1)])=some (gV (qV d X u (j+1))):=by
    rw[Cm (g:=λp:Af×Af=>((Sum.inr p.2:gD),D.int (u j p.1))) (λp=>⟨.str p.2,rfl,rfl⟩)];simp[gV,qV,qZ]
   have ck:∀ j,(qV d X u j).map (·.1)=d.map (·.2):=λj=>by simp[qV,dP]
   refine⟨_,e0,by rw[Ds];unfold qV;rw[List.length_map];omega,?_⟩;rw[xL (by rw[ck];exact R.n2)];refine⟨gV (qV d X u (j+1)),_,_,_,_,rfl,λp Z=>?_,by rw[Ds];unfold qV;rw[List.length_map];omega,λ_=>rfl⟩;have hm:(p.2,qZ X u (j+1) p)∈qV d X u (j+1):=aN.mpr ⟨p,Z,rfl⟩;rw[(tX _ p.2).1 (aN.mpr ⟨_,hm,rfl⟩),Cz (by rw[ck];exact R.n2) hm]
  .rintro G ⟨M,pl,bi,L,J,rfl,hc,ae,aa⟩;have hz:(pK 0 W).length=W:=by unfold pK;simp
   rw[hz] at aa |-;rw[aa (by omega)];exact hN _ ⟨pl,bi,L,J,rfl⟩
 rintro _ ⟨pl,bi,L,J,rfl⟩;exact⟨by show 2<=1000;decide,ag⟩
end
def yW (C:Cel) (g:Aa (Af×Af)) (t:nB) (wf l:Af->Int) (u:Nat->Af->Int) (W:Nat):Int:=look t "" * (2 ^ W-1)+((hI C g).map λx=>look t x*wf x).sum+((mZ C g).map λo=>look t o*sN (λj=>2 ^ j*u j o) W).sum+(g.map λp=>look t p.2*(l p.2-qZ l u W p*2 ^ W)).sum
theorem X7 {f:Nat->Int}:∀ W,(∀ j,j<W->nS (f j))->0<=sN (λj=>2 ^ j*f j) W/\sN (λj=>2 ^ j*f j) W<2 ^ W
 | 0,_=>⟨Int.le_refl _,by show (0:Int)<2 ^ 0;decide⟩
 | W+1,h=>by
  obtain⟨a,b⟩:=X7 W λj c=>h j (by omega)
  have e:sN (λj=>2 ^ j*f j) (W+1)=sN (λj=>2 ^ j*f j) W+2 ^ W*f W:=rfl;have p:(2:Int) ^ (W+1)=2*2 ^ W:=by rw[kY];omega
  rw[e,p];rcases h W (by omega) with q | q
  .rw[q];omega
  .rw[q];omega
def Tn:RD:=λi e f=>∃ (C:Cel) (a:Aa (Af×Af)) (t:nB) (W:Nat) (c b:Aa (gD×D)) (wf d:Af->Int) (u h:Nat->Af->Int),e=[nH C a,.k (gV t),.int W,.k c,.k b]/\RwOk C a/\RunOk C a W wf d u h/\1<=W/\W<=60/\b.length<=40/\(∀ x∈hI C a,mR c (Sum.inr x)=some (.int (wf x))/\0<=wf x/\wf x<2 ^ 61)/\(∀ p∈a,mR b (Sum.inr p.2)=some (.int (d p.2)))/\f (.v (.int (yW C a t wf d u W)))
theorem RwOk.row (h:RwOk C g):RowOk C g:=⟨h.gc,h.n1,h.n2,λp a=>(h.m p a).1,by have:=h.lp;omega⟩
abbrev yB (C:Cel) (j:Aa (Af×Af)) (t:nB) (W:Nat) (r g:Aa (gD×D)) (I J T U s9 l o p:Sl):Aa Sl:=[.v (nH C j),.v (.k (gV t)),.v (.int W),.v (.k r),.v (.k g),I,J,T,U,s9,l,o,p]
section
variable {P:Ah}{K:mI}
theorem vL:FnScope ["row","weights","width","words","edges","told","carried","ins","outs","total","name","out","into"] ["row","weights","width","words","edges"] (nF Jb):=oM
theorem DW (T:Txt mg) (r:Kn P w K mg base 3 "_law_laid" Kc ["row","width","words","edges"] Py) (g:Kn P w K mg base 1 "_law_words_of" xG ["row"] Av):oK P w K mg base 4 "_law_sum" Jb ["row","weights","width","words","edges"] Tn:=by
 refine oS vL λf ac A aa s H E dk ds Φ hr O hR=>?_
 obtain⟨C,a,t,W,z,d,wf,c,u,ab,rfl,X,L,Z,hW,U,hw,he,J⟩:=hR;refine⟨_,(hO (wN (m:=99) (mU r hr (dK (dT 0) (dK (dT 2) (dK (dT 3) (dK (dT 4) eA))))) (yR (n:=2) rfl (nE (mM 5 vL.nd) (nE (mM 6 vL.nd) pD)))) (hO (wN (m:=99) (mU g hr (dK (dT 0) eA)) (yR (n:=2) rfl (nE (mM 7 vL.nd) (nE (mM 8 vL.nd) pD)))) (hO (mS 9 vL.nd (nG sF sA (uX O (pv 1) mW hL) (nG vR wO (nG yA yF hL (dT 2)) hL))) (hO (oW (nN (dT 7)) (mM 10 vL.nd) (mQ (mS 9 vL.nd (qA oC oD 9 (nG sF sA (uX O (pv 1) (dT 10) hL) (mP O 3 (dT 10))))))) (hO (oW (nN (dT 8)) (mM 10 vL.nd) (mQ (mS 9 vL.nd (qA oC oD 9 (nG sF sA (uX O (pv 1) (dT 10) hL) (mP O 5 (dT 10))))))) (hO (oW (nN (mP O 0 hL)) (qR (n:=2) rfl (nE (mM 11 vL.nd) (nE (mM 12 vL.nd) pD))) (mQ (mS 9 vL.nd (qA oC oD 9 (nG sF sA (uX O (pv 1) (dT 12) hL) (nG vR wO (mP O 4 (dT 12)) (nG yA yF (mP O 6 (dT 12)) (dT 2)))))))) (mQ (nO (dT 9))))))))),?_⟩;have R:=X.row;have ag:=X.lp;have ae:=X.li;have af:=X.gc.lo;have l1:(hI C a).length<=C.ins.length:=bV _ _;have l2:(mZ C a).length<=C.outs.length:=bV _ _;have ah:(2:Int) ^ W<=2 ^ 60:=by exact_mod_cast gU (show 0<2 by decide) hW
 have p0:(0:Int)<2 ^ W:=iQ (by decide);refine mK (λB=>B=yB C a t W z d (.v (.k (gV (pS C a u W)))) (.v (.k (gV (qV a c u W)))) .n .n .n .n .n .n) (λN M=>?_) ?_
 .exact⟨C,a,W,z,d,wf,c,u,ab,rfl,R,L,Z,hW,U,λx V=>(hw x V).1,he,.inl rfl,rfl,rfl,M _ rfl⟩
 rintro _ rfl;refine mK (λB=>B=yB C a t W z d (.v (.k (gV (pS C a u W)))) (.v (.k (gV (qV a c u W)))) (.v (.l ((hI C a).map D.str))) (.v (.l ((mZ C a).map D.str))) .n .n .n .n) (λN M=>?_) ?_
 .exact⟨C,a,rfl,by omega,by omega,by omega,.inl rfl,rfl,rfl,M _ rfl⟩
 rintro _ rfl;refine mK (λB=>B=yB C a t W z d (.v (.k (gV (pS C a u W)))) (.v (.k (gV (qV a c u W)))) (.v (.l ((hI C a).map D.str))) (.v (.l ((mZ C a).map D.str))) (.v (.int (look t "" * (2 ^ W-1)))) .n .n .n) (λN M=>?_) ?_
 .refine⟨rfl,_,rfl,⟨by omega,by omega,by decide⟩,?_⟩;show wP ((mR (gV t) (Sum.inr (Str.ofString ""))).getD (D.int 0)) (D.int (1*2 ^ ((W:Int)).toNat-1)) _;rw[vS,bT,iP];exact⟨.inr ⟨by omega,by omega⟩,M _ rfl⟩
 rintro _ rfl;refine mK (λB=>∃ b,B=yB C a t W z d (.v (.k (gV (pS C a u W)))) (.v (.k (gV (qV a c u W)))) (.v (.l ((hI C a).map D.str))) (.v (.l ((mZ C a).map D.str))) (.v (.int (look t "" * (2 ^ W-1)+((hI C a).map λx=>look t x*wf x).sum))) b .n .n) (λN M=>?_) ?_
 .refine oV ((hI C a).map D.str) _ (λΨ h=>h) (λi B=>∃ b,B=yB C a t W z d (.v (.k (gV (pS C a u W)))) (.v (.k (gV (qV a c u W)))) (.v (.l ((hI C a).map D.str))) (.v (.l ((mZ C a).map D.str))) (.v (.int (look t "" * (2 ^ W-1)+(((hI C a).take i).map λx=>look t x*wf x).sum))) b .n .n) ⟨.n,by simp⟩ ?_ ?_
  .rintro i x B V ⟨b,rfl⟩;obtain⟨y,S,rfl⟩:=pR V;obtain⟨k1,k2,k3⟩:=hw y (aF S);refine⟨rfl,rfl,_,rfl,rfl,D.int (wf y),?_,?_⟩
   .show some (mR z (Sum.inr y))=_;rw[k1]
   .show wP ((mR (gV t) (Sum.inr y)).getD (D.int 0)) (D.int (wf y)) _;rw[vS];refine⟨.inr ⟨by omega,by omega⟩,.v (.str y),?_⟩;rw[zP (λx=>look t x*wf x) S,<- fN];rfl
  .rintro B ⟨b,rfl⟩;rw[aA,cC];exact M _ ⟨b,rfl⟩
 rintro _ ⟨b,rfl⟩;have ob:∀ o∈mZ C a,nS (qZ c u 0 (o,o))\/True:=λ_ _=>.inr trivial
 have on:∀ o∈mZ C a,look (pS C a u W) o=sN (λj=>2 ^ j*u j o) W:=λo I=>by
  unfold pS;exact K9 I
 have oB:∀ o∈mZ C a,-(2 ^ 64)<sN (λj=>2 ^ j*u j o) W/\sN (λj=>2 ^ j*u j o) W<2 ^ 64:=λo I=>by
  have:=X7 (f:=λj=>u j o) W λj hj=>(L.bits R j hj).2 o (cE.mp I).1
  omega
 refine mK (λB=>∃ b,B=yB C a t W z d (.v (.k (gV (pS C a u W)))) (.v (.k (gV (qV a c u W)))) (.v (.l ((hI C a).map D.str))) (.v (.l ((mZ C a).map D.str))) (.v (.int (look t "" * (2 ^ W-1)+((hI C a).map λx=>look t x*wf x).sum+((mZ C a).map λo=>look t o*sN (λj=>2 ^ j*u j o) W).sum))) b .n .n) (λN M=>?_) ?_
 .refine oV ((mZ C a).map D.str) _ (λΨ h=>h) (λi B=>∃ b,B=yB C a t W z d (.v (.k (gV (pS C a u W)))) (.v (.k (gV (qV a c u W)))) (.v (.l ((hI C a).map D.str))) (.v (.l ((mZ C a).map D.str))) (.v (.int (look t "" * (2 ^ W-1)+((hI C a).map λx=>look t x*wf x).sum+(((mZ C a).take i).map λo=>look t o*sN (λj=>2 ^ j*u j o) W).sum))) b .n .n) ⟨b,by simp⟩ ?_ ?_
  .rintro i x B V ⟨b,rfl⟩;obtain⟨y,S,rfl⟩:=pR V;have Q:=aF S;refine⟨rfl,rfl,_,rfl,rfl,D.int (sN (λj=>2 ^ j*u j y) W),?_,?_⟩
   .show some (mR (gV (pS C a u W)) (Sum.inr y))=_;rw[(tX _ y).1 (by unfold pS;rw[Dq];exact Q),on y Q]
   .show wP ((mR (gV t) (Sum.inr y)).getD (D.int 0)) (D.int (sN (λj=>2 ^ j*u j y) W)) _;rw[vS];refine⟨.inr (oB y Q),.v (.str y),?_⟩;rw[zP (λo=>look t o*sN (λj=>2 ^ j*u j o) W) S,<- fN];rfl
  .rintro B ⟨b,rfl⟩;rw[aA,cC];exact M _ ⟨b,rfl⟩
 rintro _ ⟨b,rfl⟩;have cb:∀ p∈a,nS (qZ c u W p):=λp hp=>by
  obtain⟨Y,rfl⟩:∃ Y,W=Y+1:=⟨W-1,by omega⟩;exact (L.bits R Y (by omega)).2 p.1 (R.o p hp)
 have ck:(qV a c u W).map (·.1)=a.map (·.2):=by simp[qV,dP]
 refine mK (λB=>∃ b F G,B=yB C a t W z d (.v (.k (gV (pS C a u W)))) (.v (.k (gV (qV a c u W)))) (.v (.l ((hI C a).map D.str))) (.v (.l ((mZ C a).map D.str))) (.v (.int (yW C a t wf c u W))) b F G) (λN M=>?_) ?_
 .refine oV (a.map λp:Af×Af=>D.t [.str p.1,.str p.2]) _ (λΨ h=>⟨rfl,_,rfl,h⟩) (λi B=>∃ b F G,B=yB C a t W z d (.v (.k (gV (pS C a u W)))) (.v (.k (gV (qV a c u W)))) (.v (.l ((hI C a).map D.str))) (.v (.l ((mZ C a).map D.str))) (.v (.int (look t "" * (2 ^ W-1)+((hI C a).map λx=>look t x*wf x).sum+((mZ C a).map λo=>look t o*sN (λj=>2 ^ j*u j o) W).sum+((a.take i).map λp=>look t p.2*(c p.2-qZ c u W p*2 ^ W)).sum))) b F G) ⟨b,.n,.n,by simp⟩ ?_ ?_
  .rintro i x B V ⟨b,F,G,rfl⟩;obtain⟨y,S,rfl⟩:=pR V;have Q:=aF S;have hm:(y.2,qZ c u W y)∈qV a c u W:=aN.mpr ⟨y,Q,rfl⟩;refine⟨rfl,rfl,rfl,rfl,_,rfl,rfl,D.int (c y.2),?_,rfl,D.int (qZ c u W y),?_,⟨by omega,by omega,by rcases cb y Q with q | q<;>rw[q]<;>decide⟩,?_⟩
   .show some (mR d (Sum.inr y.2))=_;rw[he y Q]
   .show some (mR (gV (qV a c u W)) (Sum.inr y.2))=_;rw[(tX _ y.2).1 (aN.mpr ⟨_,hm,rfl⟩),Cz (by rw[ck];exact R.n2) hm]
   .show wP ((mR (gV t) (Sum.inr y.2)).getD (D.int 0)) (D.int (c y.2-qZ c u W y*2 ^ ((W:Int)).toNat)) _;rw[vS,bT];have eb:=L.e y Q;refine⟨.inr (by rcases eb with q | q<;>rcases cb y Q with q' | q'<;>rw[q,q']<;>exact⟨by omega,by omega⟩),b,.v (.str y.1),.v (.str y.2),?_⟩;rw[zP (λp:Af×Af=>look t p.2*(c p.2-qZ c u W p*2 ^ W)) S,<- fN];rfl
  .rintro B ⟨b,F,G,rfl⟩;rw[aA,cC];exact M _ ⟨b,F,G,rfl⟩
 rintro _ ⟨b,F,G,rfl⟩;exact J
end
def wU (C:Cel) (g:Aa (Af×Af)) (wf:Af->Int) (j:Nat):Aa Int:=(hI C g).map λx=>wf x/2 ^ j%2
def Bb (C:Cel) (g:Aa (Af×Af)) (wf l:Af->Int):Nat->Aa Int
 | 0=>g.map λp=>l p.2
 | j+1=>qK C g (Bb C g wf l j) (wU C g wf j)
def uB (C:Cel) (g:Aa (Af×Af)) (wf l:Af->Int) (j:Nat):Af->Int:=pQ C g (Bb C g wf l j) (wU C g wf j)
def rB (C:Cel) (g:Aa (Af×Af)) (wf l:Af->Int) (j:Nat):Af->Int:=look (rJ C g (Bb C g wf l j) (wU C g wf j))
theorem S7 (C:Cel) (g:Aa (Af×Af)) (wf l:Af->Int):∀ j,Bb C g wf l j=g.map λp=>qZ l (uB C g wf l) j p
 | 0=>rfl
 | j+1=>rfl
theorem T6 (C:Cel) (j:Aa (Af×Af)) (f:Af×Af->Int) (g:Af->Int):rJ C j (j.map f) ((hI C j).map g)=(j.map λp=>(p.2,f p))++(hI C j).map λx=>(x,g x):=by
 unfold rJ;rw[kQ (by simp),List.zip_map',<- List.map_id (hI C j),aR,List.zip_map'];simp
theorem Wv (r:(g.map (·.2)).Nodup) (o:p∈g):rB C g wf l j p.2=qZ l (uB C g wf l) j p:=by
 unfold rB;have a:(g.map λp=>(p.2,qZ l (uB C g wf l) j p)).map (·.1)=g.map (·.2):=by simp[dP]
 rw[S7,show wU C g wf j=(hI C g).map λx=>wf x/2 ^ j%2 from rfl,T6,Ll,a,aO (aN.mpr ⟨p,o,rfl⟩)];exact Cz (p:=(p.2,qZ l (uB C g wf l) j p)) (by rw[a];exact r) (aN.mpr ⟨p,o,rfl⟩)
theorem S6 (o:x∈hI C g):rB C g wf l j x=wf x/2 ^ j%2:=by
 unfold rB;have a:(g.map λp=>(p.2,qZ l (uB C g wf l) j p)).map (·.1)=g.map (·.2):=by simp[dP]
 have b:x∉g.map (·.2):=λz=>by
  have:=(cE.mp o).2;rw[bJ z] at this;cases this
 rw[S7,show wU C g wf j=(hI C g).map λx=>wf x/2 ^ j%2 from rfl,T6,Ll,a,aJ b];exact K9 o
theorem KH (h:RwOk C g) (o:∀ p∈g,nS (l p.2)) (W:Nat):RunOk C g W wf l (uB C g wf l) (rB C g wf l):=⟨o,λj _=>rfl,λj _ x b=>S6 b,λj _ p a=>Wv h.n2 a⟩
theorem Jo {j:Type}{f g h:j->Int}{k:Int}:∀ {xs:Aa j},(∀ x∈xs,f x=g x+k*h x)->(xs.map f).sum=(xs.map g).sum+k*(xs.map h).sum
 | [],_=>by simp
 | x::r,e=>by
  rw[aP,aP,aP,fL,fL,fL,Jo λy a=>e y (aQ _ a),e x aH,iR];omega
theorem Gs {j:Type}{f:j->Int}:∀ {g:Aa j},(∀ x∈g,f x=0)->(g.map f).sum=0
 | [],_=>rfl
 | x::r,h=>by rw[aP,fL,h x aH,Gs λy a=>h y (aQ _ a)];rfl
theorem Qn (a:Int) (g:0<=a):∀ W,sN (λj=>2 ^ j*(a/2 ^ j%2)) W=a%2 ^ W
 | 0=>by show (0:Int)=a%2 ^ 0;rw[jU,Int.emod_one]
 | W+1=>by
  show sN (λj=>2 ^ j*(a/2 ^ j%2)) W+2 ^ W*(a/2 ^ W%2)=_;rw[Qn a g W,kY];have e:(0:Int)<2 ^ W:=iQ (by decide);have f:=jZ a (2 ^ W);have b:=jZ (a/2 ^ W) 2;have c:a/(2 ^ W*2)=a/2 ^ W/2:=(Int.ediv_ediv_of_nonneg (lY e)).symm;have d:=jZ a (2 ^ W*2);rw[c] at d;have h:(2:Int) ^ W*(a/2 ^ W)=2 ^ W*(a/2 ^ W%2)+2 ^ W*2*(a/2 ^ W/2):=by
   rw[kE,<- iR,b]
  omega
def C0 (C:Cel) (g:Aa (Af×Af)) (t:nB) (wf l:Af->Int) (u:Nat->Af->Int) (W:Nat):Int:=look t "" * (2 ^ W-1)+((hI C g).map λx=>look t x*sN (λj=>2 ^ j*(wf x/2 ^ j%2)) W).sum+((mZ C g).map λo=>look t o*sN (λj=>2 ^ j*u j o) W).sum+(g.map λp=>look t p.2*(l p.2-qZ l u W p*2 ^ W)).sum
theorem SS (h:RwOk C l) (t:nB) (wf r:Af->Int) (W:Nat):C0 C l t wf r (uB C l wf r) (W+1)=C0 C l t wf r (uB C l wf r) W+2 ^ W*uJ C l t (uB C l wf r W):=by
 have n:∀ x∈C.ins,uB C l wf r W x=rB C l wf r W x:=λx e=>E5 h.gc _ e
 have i:(2:Int) ^ (W+1)=2 ^ W*2:=kY _ _;unfold C0 uJ;rw[aM,mF,Jo (k:=2 ^ W) (g:=λx=>look t x*sN (λj=>2 ^ j*(wf x/2 ^ j%2)) W) (h:=λx=>look t x*uB C l wf r W x) (xs:=hI C l) (λx e=>?_),Jo (k:=2 ^ W) (g:=λo=>look t o*sN (λj=>2 ^ j*uB C l wf r j o) W) (h:=λx=>look t x*uB C l wf r W x) (xs:=mZ C l) (λx e=>?_),Jo (k:=2 ^ W) (g:=λp=>look t p.2*(r p.2-qZ r (uB C l wf r) W p*2 ^ W)) (h:=λp=>look t p.2*(uB C l wf r W p.2-2*uB C l wf r W p.1)) (xs:=l) (λp f=>?_),i]
 .simp only[iR,Int.mul_sub,lG];rw[show look t "" * (2 ^ W*2)=look t "" * 2 ^ W+2 ^ W*look t "" by rw[jT (2 ^ W) (look t ""),<- kE];omega];omega
 .rw[n _ (h.m p f).2,Wv h.n2 f,i];show look t p.2*(r p.2-uB C l wf r W p.1*(2 ^ W*2))=_;generalize uB C l wf r W p.1=a;generalize qZ r (uB C l wf r) W p=b;generalize r p.2=c;generalize look t p.2=d;generalize (2:Int) ^ W=k;have:k*(d*(b-2*a))=d*(b*k-a*(k*2)):=by
   rw[gW,Int.mul_sub,jT k b,gW k 2 a,jT k a,gW a k 2,jT 2 (a*k),kE a k 2,gW k a 2]
  rw[this,<- iR]
  congr 1
  omega
 .show look t x*(sN (λj=>2 ^ j*uB C l wf r j x) W+2 ^ W*uB C l wf r W x)=_;rw[iR,gW]
 .show look t x*(sN (λj=>2 ^ j*(wf x/2 ^ j%2)) W+2 ^ W*(wf x/2 ^ W%2))=_;rw[iR,gW,n x (cE.mp e).1,S6 e]
theorem Tq (h:RwOk C g) (t:nB) (wf l:Af->Int):∀ W,C0 C g t wf l (uB C g wf l) W=sN (λj=>2 ^ j*uJ C g t (uB C g wf l j)) W
 | 0=>by
  unfold C0;have a:((hI C g).map λx=>look t x*sN (λj=>2 ^ j*(wf x/2 ^ j%2)) 0).sum=0:=Gs λx _=>Int.mul_zero _
  have b:((mZ C g).map λo=>look t o*sN (λj=>2 ^ j*uB C g wf l j o) 0).sum=0:=Gs λx _=>Int.mul_zero _
  have c:(g.map λp=>look t p.2*(l p.2-qZ l (uB C g wf l) 0 p*2 ^ 0)).sum=0:=Gs λp _=>by
   show _*(l p.2-l p.2*2 ^ 0)=0;rw[jU,lG,Int.sub_self,Int.mul_zero]
  rw[a,b,c];show look t "" * (2 ^ 0-1)+0+0+0=0;rw[jU];simp
 | W+1=>by rw[SS h,Tq h t wf l W];rfl
theorem Ww (f:Nat->Int):∀ n,sN f (n+1)=f 0+sN (λi=>f (i+1)) n
 | 0=>by show 0+f 0=f 0+0;omega
 | n+1=>by
  show sN f (n+1)+f (n+1)=f 0+(sN (λi=>f (i+1)) n+f (n+1));rw[Ww f n];omega
theorem W1 (f:Nat->Int):∀ n,sN (λi=>2 ^ (i+1)*f i) n=2*sN (λi=>2 ^ i*f i) n
 | 0=>rfl
 | n+1=>by
  show sN (λi=>2 ^ (i+1)*f i) n+2 ^ (n+1)*f n=2*(sN (λi=>2 ^ i*f i) n+2 ^ n*f n);rw[W1 f n,iR,kY,jT (2 ^ n) 2,kE]
theorem Qh (C:Cel) (g:Aa (Af×Af)) (t:nB) (wf j:Af->Int):∀ n s,xQ C g t (Bb C g wf j s) ((List.range' s n).map (wU C g wf))=sN (λi=>2 ^ i*uJ C g t (uB C g wf j (s+i))) n
 | 0,s=>rfl
 | n+1,s=>by
  rw[List.range'_succ,aP,Ww];show qL C g t _ _+2*xQ C g t (Bb C g wf j (s+1)) _=_;rw[Qh C g t wf j n (s+1),<- W1 λi=>uJ C g t (uB C g wf j (s+1+i))]
  congr 1
  .show uJ C g t (uB C g wf j s)=2 ^ 0*uJ C g t (uB C g wf j (s+0));rw[jU,iP];rfl
  .refine Vu n λi _=>?_
   rw[show s+1+i=s+(i+1) by omega]
theorem Tp (h:RwOk C g) (t:nB) (l:Af->Int){W:Nat}(hw:∀ x∈hI C g,0<=wf x/\wf x<2 ^ W):yW C g t wf l (uB C g wf l) W=xQ C g t (g.map λp=>l p.2) ((List.range W).map (wU C g wf)):=by
 have b:=Qh C g t wf l W 0;rw[<- List.range_eq_range'] at b;show _=xQ C g t (Bb C g wf l 0) _;rw[b];have c:=Tq h t wf l W;rw[show (λi=>(2:Int) ^ i*uJ C g t (uB C g wf l (0+i)))=λj=>2 ^ j*uJ C g t (uB C g wf l j) from funext λi=>by rw[lX],<- c];unfold yW C0;rw[show ((hI C g).map λx=>look t x*wf x)=(hI C g).map λx=>look t x*sN (λj=>2 ^ j*(wf x/2 ^ j%2)) W from cX λx a=>by rw[Qn _ (hw x a).1,Int.emod_eq_of_lt (hw x a).1 (hw x a).2]]
theorem Y8 (W:Nat):xA C g W ((List.range W).map (wU C g wf)):=⟨by simp,λl a=>by
 obtain⟨j,_,rfl⟩:=aN.mp a;refine M9 (by unfold wU;simp) λx b=>?_
 obtain⟨y,_,rfl⟩:=aN.mp b;have:=dJ (wf y/2 ^ j) (show (2:Int)≠0 by decide);have:=cP (wf y/2 ^ j) (show (0:Int)<2 by decide);omega⟩
theorem P9 {a b:Int}{k:Nat}(g:0<=b/\b<2 ^ k) (m:Nat):(b+2 ^ k*a)/2 ^ (k+m)=a/2 ^ m:=by
 have c:(0:Int)<2 ^ k:=iQ (by decide);rw[Int.pow_add,<- Int.ediv_ediv_of_nonneg (lY c),Int.add_mul_ediv_left _ _ (Int.ne_of_gt c),Int.ediv_eq_zero_of_lt g.1 g.2,iT]
theorem Qy:∀ (W:Nat) (f:Nat->Int),(∀ j,j<W->nS (f j))->∃ a:Int,0<=a/\a<2 ^ W/\∀ j,j<W->a/2 ^ j%2=f j
 | 0,f,_=>⟨0,Int.le_refl _,by decide,λj b=>absurd b (by omega)⟩
 | W+1,f,h=>by
  obtain⟨a,e,i,d⟩:=Qy W (λj=>f (j+1)) λj b=>h (j+1) (by omega)
  have c:0<=f 0/\f 0<2 ^ 1:=by rcases h 0 (by omega) with q | q<;>rw[q]<;>decide
  refine⟨f 0+2 ^ 1*a,by omega,by rw[kY];omega,λj b=>?_⟩;cases j with
  | zero=>rw[jU,Int.ediv_one];omega
  | succ j =>
   rw[show j+1=1+j by omega,P9 c,d j (by omega),lR]
theorem Xs (W:Nat):∀ (k:Nat) (g:Nat->Int),(∀ i,i<k->0<=g i/\g i<2 ^ W)->∃ n:Int,0<=n/\n<2 ^ (k*W)/\∀ i,i<k->n/2 ^ (i*W)%2 ^ W=g i
 | 0,g,_=>⟨0,Int.le_refl _,by rw[Nat.zero_mul];decide,λj m=>absurd m (by omega)⟩
 | k+1,g,h=>by
  obtain⟨a,d,q,e⟩:=Xs W k (λi=>g (i+1)) λi f=>h (i+1) (by omega)
  have b:=h 0 (by omega);have c:(0:Int)<2 ^ W:=iQ (by decide);refine⟨g 0+2 ^ W*a,Int.add_nonneg b.1 (Int.mul_nonneg (lY c) d),?_,λi f=>?_⟩
  .rw[Nat.add_mul,Nat.one_mul,lR,Int.pow_add];have:(2:Int) ^ W*(a+1)<=2 ^ W*2 ^ (k*W):=Int.mul_le_mul_of_nonneg_left (by omega) (lY c);rw[iR,lG] at this;omega
  .cases i with
   | zero=>rw[Nat.zero_mul,jU,Int.ediv_one,Int.add_mul_emod_self_left,Int.emod_eq_of_lt b.1 b.2]
   | succ i=>rw[Nat.add_mul,Nat.one_mul,lR,P9 b,e i (by omega)]
def pJ (W:Nat) (n:Int):Nat->Aa Af->nB
 | _,[]=>[]
 | k,x::r=>(x,n/2 ^ (k*W)%2 ^ W)::pJ W n (k+1) r
theorem Hu (W:Nat) (n:Int):∀ (g:Aa Af) (k:Nat),(pJ W n k g).map (·.1)=g
 | [],_=>rfl
 | x::r,k=>by show x::_=_;rw[Hu W n r (k+1)]
theorem Lb (W:Nat) (n:Int):∀ {g:Aa Af}(k i:Nat){x:Af},g.Nodup->g[i]?=some x->look (pJ W n k g) x=n/2 ^ ((k+i)*W)%2 ^ W
 | [],_,_,_,_,h=>by simp at h
 | y::r,k,0,x,_,h=>by
  have e:y=x:=bK h;show look ((y,_)::_) x=_;rw[wM,aO e];rfl
 | y::r,k,i+1,x,c,h=>by
  have a:=bY.mp c;have b:r[i]?=some x:=h;show look ((y,_)::_) x=_;rw[wM,aJ (λz=>a.1 (by rw[show y=x from z];exact aF b)),Lb W n (k+1) i a.2 b,show k+1+i=k+(i+1) by omega]
theorem Wa (W:Nat) (n:Int):∀ (g:Aa Af) (k:Nat) (x:Af),pJ W n k (g++[x])=pJ W n k g++[(x,n/2 ^ ((k+g.length)*W)%2 ^ W)]
 | [],k,x=>rfl
 | y::r,k,x=>by
  show (y,_)::pJ W n (k+1) (r++[x])=(y,_)::(pJ W n (k+1) r++_);rw[Wa W n r (k+1) x,show k+1+r.length=k+(y::r).length by rw[bS];omega]
theorem Ny (W:Nat) (n:Int) (j:g.Nodup):∀ x∈g,0<=look (pJ W n 0 g) x/\look (pJ W n 0 g) x<2 ^ W:=λx c=>by
 obtain⟨i,b⟩:=List.getElem?_of_mem c;rw[Lb W n 0 i j b];have a:(0:Int)<2 ^ W:=iQ (by decide);exact⟨dJ _ (Int.ne_of_gt a),cP _ a⟩
theorem Rn (h:RwOk C l) (t:nB) (o:Af->Int) (W:Nat):(∀ n:Int,0<=n->n<2 ^ ((hI C l).length*W)->yW C l t (look (pJ W n 0 (hI C l))) o (uB C l (look (pJ W n 0 (hI C l))) o) W=0)↔sm C l t W (l.map λp=>o p.2)=some 0:=by
 have u:=Ln (prs:=l) h.gc;rw[N3];constructor
 .intro E c hw;have B:∀ i,i<(hI C l).length->∀ j,j<W->nS (((c[j]?.getD [])[i]?).getD 0):=λi b j s=>by
   have f:j<c.length:=by rw[hw.1];exact s
   obtain⟨k,A⟩:=uA (hw.2 c[j] (cN f));have d:i<(c[j]).length:=by rw[k];exact b
   rw[aE f,iS,aE d,iS];exact A _ (cN d)
  have ex:∀ i,∃ a:Int,i<(hI C l).length->0<=a/\a<2 ^ W/\∀ j,j<W->a/2 ^ j%2=((c[j]?.getD [])[i]?).getD 0:=λi=>by
   by_cases b:i<(hI C l).length
   .obtain⟨a,v⟩:=Qy W _ (B i b);exact⟨a,λ_=>v⟩
   .exact⟨0,λz=>absurd z b⟩
  obtain⟨g,q⟩:=Classical.axiomOfChoice ex;obtain⟨n,x,y,G⟩:=Xs W (hI C l).length g λi b=>⟨(q i b).1,(q i b).2.1⟩
  have e:=E n x y;rw[Tp h t o (Ny W n u)] at e;have D:(List.range W).map (wU C l (look (pJ W n 0 (hI C l))))=c:=by
   refine kA (by simp[hw.1]) λj v m=>?_
   have s:j<W:=by rw[<- hw.1];exact m
   rw[lQ,jF];obtain⟨k,A⟩:=uA (hw.2 c[j] (cN m));unfold wU;refine kA (by rw[aA,k]) λi H w=>?_
   have b:i<(hI C l).length:=by rw[<- k];exact w
   rw[lQ,Lb W n 0 i u (aE b),lX,G i b,(q i b).2.2 j s,aE m,iS,aE w,iS]
  rw[D] at e;exact e
 .intro F n x y;rw[Tp h t o (Ny W n u)];exact F _ (Y8 W)
theorem Sz:(["out","into"]:Aa Af).Nodup:=by decide +kernel
theorem Zp:(["into","claim","edges"]:Aa Af).Nodup:=by decide +kernel
def PU:Aa D->Af->Ab D->Prop:=λe x f=>∃ (a c d:Aa (gD×D)) (o:Ab Int) (b:Int),e=[.t [.k a,.k c],.k d]/\mR a (Sum.inr x)=some (nY o)/\mR d (Sum.inr x)=some (.int b)/\f=if rR b o=true then none else some (.str x)
theorem AE (K:mI):W9 PU (T5 (Bg (Ft K true) (L8 (Bg (N7 K) (pX 1) (tC (.int 0))) (pX 0)) (Ya (A2 (tC .e) (A2 (L8 (pX 2) (pX 0)) Dy))))) (pX 0):=by
 rintro L X x P H N F ⟨s,G,O,o,b,rfl,u,w,rfl⟩ a A y;cases a with
 | cons f a =>
 cases a with
 | cons D a =>
 cases a
 rename_i v1 W
 obtain⟨q,rfl,g2⟩:=D.get w rfl;rcases f with (f | ⟨_,_,_,e,_⟩) | ⟨M,V,n,e,rfl,B,d⟩
 .cases f
 .cases e
 cases e;cases d with
 | cons E d =>
 cases d with
 | cons Q d =>
 cases d
 rename_i R S
 obtain⟨v,f1,f2⟩:=X0 b o;obtain⟨i,rfl,g1⟩:=E.get u f1;refine⟨_,rfl,n,_,0,.ref i,rfl,rfl,.inl (.inl B),rfl,_,rfl,i,v,rfl,g1,_,rfl,_,rfl,q,.int b,rfl,g2,by show 2<=sizeLine;decide,λp a=>⟨p,[.e,.int b],rfl,.inr (.inl (.inl mX)),?_,rfl,_,rfl,?_⟩⟩
 .cases o<;>cases f1<;>rfl
 have m:pV H (upd H p (.t [.e,.int b])):=λc o h=>by
  rw[mT (λz=>by rw[z,a] at h;cases h)];exact h
 show if (!uY v [.e,.int b])=true then _ else _
 rw[f2];cases k:rR b o with
 | true=>exact (aJ (by decide)).mpr (y _ (by rw[k];rfl) m)
 | false=>exact (aO rfl).mpr ⟨_,rfl,A _ _ _ (by rw[k];rfl) m (.inl rfl)⟩
theorem OG (o:(g.map (·.2)).Nodup) (j:Af->Ab Int) (l:c.length=g.length):((g.map (·.2)).filterMap λx=>if rR (look ((g.map (·.2)).zip c) x) (j x)=true then none else some (D.str x)).isEmpty=uM c (rL g j):=by
 rw[<- Mq,fR,List.isEmpty_iff,List.filterMap_eq_nil_iff,cH];have f:((g.map (·.2)).zip c).map (·.1)=g.map (·.2):=iU (by rw[aA,l];exact aU _);have e:∀ p b,(p,b)∈g.zip c->look ((g.map (·.2)).zip c) p.2=b:=λp b h=>Cz (p:=(p.2,b)) (by rw[f];exact o) (by rw[List.zip_map_left];exact aN.mpr ⟨(p,b),h,rfl⟩)
 constructor
 .intro h z n;obtain⟨⟨p,b⟩,a,rfl⟩:=aN.mp n;have:=h p.2 (aN.mpr ⟨p,(eV a).1,rfl⟩);rw[e p b a] at this;show rR b (j p.2)=true;cases k:rR b (j p.2) with
  | true=>rfl
  | false=>rw[k] at this;cases this
 .intro h x m;obtain⟨p,a,rfl⟩:=aN.mp m;obtain⟨i,q,rfl⟩:=eM a;have d:(g[i],c[i])∈g.zip c:=by
   have:i<(g.zip c).length:=by rw[eX];omega
   have:=cN this
   rwa [List.getElem_zip] at this
  have:=h _ (aN.mpr ⟨_,d,rfl⟩);rw[e _ _ d,aO (show rR c[i] (j g[i].2)=true from this)]
theorem FI {g:Aa (Af×Af)}(l:(g.map (·.2)).Nodup){c:Aa Int}(j:c.length=g.length):(g.map λp=>look ((g.map (·.2)).zip c) p.2)=c:=by
 have a:((g.map (·.2)).zip c).map (·.1)=g.map (·.2):=iU (by rw[aA,j];exact aU _);refine kA (by rw[aA,j]) λi d b=>?_
 have e:i<g.length:=by rw[<- j];exact b
 rw[lQ];refine Cz (p:=(g[i].2,c[i])) (by rw[a];exact l) ?_;rw[List.zip_map_left];have:i<(g.zip c).length:=by rw[eX];omega
 have:=cN this;rw[List.getElem_zip] at this;exact aN.mpr ⟨_,this,rfl⟩
theorem IB (h:x∉t.map (·.1)) (g:t.length<100000):sC (.k (gV t)) (.str x) (.int n)=some (.k (gV (t++[(x,n)]))):=by
 have a:(gV t).length<100000:=by unfold gV;rw[List.length_map];exact g
 simp only[sC,aO a];show some (D.k (nM (gV t) (Sum.inr x) (.int n)))=_;rw[L0 (by
  unfold gV;rw[aR];intro z;obtain⟨p,b,e⟩:=aN.mp z;exact h (aN.mpr ⟨p,b,fY e⟩))]
 unfold gV;rw[aM];rfl
def Ti:RD:=λi f h=>∃ (C:Cel) (a:Aa (Af×Af)) (t:nB) (c:Aa (gD×D)) (d:Af->Ab Int) (W:Nat),f=[nH C a,.t [.k c,.k (gV t)],.int W]/\RwOk C a/\(∀ p∈a,mR c (Sum.inr p.2)=some (nY (d p.2)))/\zN (.k c)/\1<=W/\W<=60/\(hI C a).length*W<=12/\∀ b:Bool,(b=true↔∀ e∈uT a d,sm C a t W e=some 0)->h (.v (.b b))
abbrev zB (C:Cel) (g:Aa (Af×Af)) (t:nB) (j:Aa (gD×D)) (W:Nat) (o p r I J T:Sl):Aa Sl:=[.v (nH C g),.v (.t [.k j,.k (gV t)]),.v (.int W),.v (.l ((hI C g).map D.str)),o,p,r,I,J,T]
section
variable {P:Ah}{K:mI}
theorem zK:FnScope ["row","claim","width","ins","bits","edges","number","words","k","name"] ["row","claim","width"] (nF Ip):=oM
theorem LH (T:Txt mg) (l:Kn P w K mg base 1 "_law_rows" Ct ["many"] Aj) (r:Kn P w K mg base 4 "_law_sum" Jb ["row","weights","width","words","edges"] Tn) (g:Kn P w K mg base 1 "_law_words_of" xG ["row"] Av):oK P w K mg base 5 "_law_holds" Ip ["row","claim","width"] Ti:=by
 refine oS zK λf aw A ar s H E dk ds Φ hr hu hR=>?_
 obtain⟨C,q,t,B,ef,W,rfl,V,he,aq,ak,hW,ao,aj⟩:=hR;refine⟨_,(hO (mS 3 zK.nd (qP hu (mU g hr (dK (dT 0) eA)) hL)) (hO (oW (nN (mU l hr (dK (oJ qB qC T.len bN (dK (mP hu 0 hL) eA)) eA))) (mM 4 zK.nd) (hO (mS 5 zK.nd (Ck rfl (by rfl) T.dict (by rfl) T.zip (dK (oZ ["out","into"] [] [] (nN (mP hu 0 hL)) (λ_ _ _ _ _=>(qR (n:=2) rfl (nE (mM 0 Sz) (nE (mM 1 Sz) pD)))) (λ_ _ _ _ _=>(dT 1))) (dK (dT 4) eA)))) (mQ (qU (Bf (rD hr.units) (pN false) (R7 (i:=5) (T3 (zY ["into"] ["claim","edges"] [1,5] rfl (Wt (pv 5)) rfl rfl (λZ Y C I fp=>wS (i:=0) Zp rfl (Or.inl rfl)) (λZ Y C I fp=>M8 (wY P8 (Ms hu (qQ Tk (pv 1) nU (λ_ _=>rfl)) (pv 0) (λ_ _=>rfl)) (Ca (nA Ra (nA (Ms hu (pv 2) (pv 0) (λ_ _=>rfl)) nK))) rfl)) (λZ Y C I fp=>pv 0))) (AE K)) (nX eA)) (mQ (oW (vY (by rfl) T.range (nG yA yF hL (nG sF sA (oJ qB qC T.len bN (dK (dT 3) eA)) (dT 2)))) (mM 6 zK.nd) (hO (mS 7 zK.nd Fh) (hO (oW (BM (by rfl) T.enumerate (dT 3)) (qR (n:=2) rfl (nE (mM 8 zK.nd) (nE (mM 9 zK.nd) pD))) (mQ (uI (n:=7) hu (nG tD Hz (qA Up Pa 6 (qA sF sA 8 (dT 2))) (nG yA yF hL (dT 2))) (pv 7) (dT 9)))) (mQ (qU (Bf (As hr.units) (pN true) (mU r hr (dK (dT 0) (dK (mP hu 1 hL) (dK (dT 2) (sQ (pv 7) (dK (dT 5) eA)))))) hL) (mQ (nO wR)) qY)))))) qY)))) (mQ (nO wR)))),?_⟩;have ag:=V.lp;have ax:=V.li;have ay:=V.gc.lo;have l1:(hI C q).length<=C.ins.length:=bV _ _;have au:=wB ag;have av:=vF q.length;refine mK (λL=>L=zB C q t B W .n .n .n .n .n .n) (λN X=>?_) ?_
 .exact⟨C,q,rfl,by omega,by omega,by omega,.inl rfl,_,rfl,X _ rfl⟩
 rintro _ rfl;refine mK (λL=>(∃ s4 O R S F G,L=zB C q t B W s4 O R S F G)/\∀ e∈mO q.length,uM e (rL q ef)=true->sm C q t W e=some 0) (λN X=>?_) ?_
 .refine oV ((mO q.length).map mN) _ (λΨ h=>?_) (λi L=>(∃ s4 O R S F G,L=zB C q t B W s4 O R S F G)/\∀ e∈(mO q.length).take i,uM e (rL q ef)=true->sm C q t W e=some 0) ⟨⟨.n,.n,.n,.n,.n,.n,rfl⟩,λe he=>absurd he (by simp)⟩ ?_ ?_
  .exact⟨rfl,_,rfl,rfl,_,rfl,q.length,by rw[aA],ag,.inl rfl,h⟩
  .rintro i x L Q ⟨⟨s4,O,R,S,F,G,rfl⟩,J⟩;obtain⟨c,hc,rfl⟩:=pR Q;obtain⟨I,cb⟩:=uA (aF hc);have Cf:(((q.map (·.2)).zip c).map (·.1)).Nodup:=by rw[iU (by rw[aA,I];exact aU _)];exact V.n2
   have ek:((q.map (·.2)).zip c).map (·.1)=q.map (·.2):=iU (by rw[aA,I];exact aU _);refine mK (λL=>L=zB C q t B W (.v (mN c)) (.o (.k (gV ((q.map (·.2)).zip c)))) R S F G) (λN X=>?_) ?_
   .unfold qN dC aC;refine pL q (λp=>D.t [.str p.1,.str p.2]) (λp=>D.str p.2) _ (λΨ h=>⟨rfl,_,rfl,h⟩) (by omega) (λj y ys Nx e h1 h2=>⟨rfl,rfl,h1,h2⟩) ?_;have e0:(q.map λp=>D.str p.2)=(q.map (·.2)).map D.str:=by rw[aR];rfl
    have e3:((q.map (·.2)).map (Sum.inr:Af->gD)).zip (c.map D.int)=gV ((q.map (·.2)).zip c):=by unfold gV;rw[List.zip_map];rfl
    have k:=X _ rfl;rw[<- xL Cf,<- e3] at k;refine⟨false,true,_,_,(q.map (·.2)).map Sum.inr,rfl,rfl,by rw[e0];exact keysL_strs _,by rw[aA,aA];omega,?_⟩;exact k
   rintro _ rfl;refine⟨gV ((q.map (·.2)).zip c),q.map (·.2),[.t [.k B,.k (gV t)],.k (gV ((q.map (·.2)).zip c))],λx=>if rR (look ((q.map (·.2)).zip c) x) (ef x)=true then none else some (D.str x),rfl,?_,?_,by rw[aA];omega,rfl,?_,?_,?_⟩
   .exact Ev _
   .have:=cG (List.map (Sum.inr:Af->gD)) ek;rw[aR] at this;unfold gV;rw[aR];exact this
   .intro d hd;rcases aK.mp hd with rfl | hd
    .exact .inr ⟨_,rfl,λd hd=>by
      rcases aK.mp hd with rfl | hd
      .exact aq
      .rw[aX.mp hd];exact Ev _⟩
    .rw[aX.mp hd];exact .inl (Ev _)
   .intro x Q;obtain⟨p,hp,rfl⟩:=aN.mp Q;exact⟨B,gV t,_,ef p.2,_,rfl,he p hp,(tX _ _).1 (by rw[ek];exact Q),rfl⟩
   refine⟨by show 0<=1000;decide,?_⟩;show if (List.isEmpty _)=true then _ else _
   rw[OG V.n2 ef I];cases ah:uM c (rL q ef) with
   | false =>
    refine (aJ bC).mpr ⟨⟨_,_,_,_,_,_,rfl⟩,λe M hl=>?_⟩;rw[bM,hc] at M;rcases aV.mp M with M | M
    .exact J e M hl
    .rw[aX.mp M,ah] at hl;cases hl
   | true =>
    refine (aO rfl).mpr ?_;obtain⟨u,U⟩:∃ u,u=(q.map (·.2)).zip c:=⟨_,rfl⟩;rw[<- U] at ek |-;have aa:(q.map λp=>look u p.2)=c:=by rw[U];exact FI V.n2 I
    have an:∀ p∈q,nS (look u p.2):=λp hp=>cb _ (by rw[<- aa];exact aN.mpr ⟨p,hp,rfl⟩)
    refine oV (pK 0 (2 ^ ((hI C q).length*W))) (zB C q t B W (.v (mN c)) (.o (.k (gV u))) R S F G) (λΨ h=>?_) (λm L=>(∃ O R S F G,L=zB C q t B W (.v (mN c)) O R S F G/\(O = .o (.k (gV u))\/O = .v (.k (gV u))))/\∀ n:Nat,n<m->yW C q t (look (pJ W n 0 (hI C q))) (look u) (uB C q (look (pJ W n 0 (hI C q))) (look u)) W=0) ⟨⟨_,_,_,_,_,rfl,.inl rfl⟩,λn hn=>absurd hn (by omega)⟩ ?_ ?_
    .have az:(2:Int) ^ ((hI C q).length*W)<=2 ^ 12:=by exact_mod_cast gU (show 0<2 by decide) ao
     have p0:(0:Int)<2 ^ ((hI C q).length*W):=iQ (by decide);have em:((((hI C q).map D.str).length:Nat):Int)*(W:Int)=(((hI C q).length*W:Nat):Int):=by rw[aA];push_cast;rfl
     have et:((2:Int) ^ ((hI C q).length*W)).toNat=2 ^ ((hI C q).length*W):=by
      rw[show (2:Int) ^ ((hI C q).length*W)=((2 ^ ((hI C q).length*W):Nat):Int) by push_cast;rfl];exact bT _
     refine⟨rfl,_,rfl,.inr ⟨by omega,by omega⟩,?_⟩;show Sf (.int 1) (.int (((((hI C q).map D.str).length:Nat):Int)*(W:Int))) _;rw[em];refine⟨⟨by omega,by omega,by decide⟩,?_⟩;show -(2 ^ 62)<=(1:Int)*2 ^ ((((hI C q).length*W:Nat):Int)).toNat/\(1:Int)*2 ^ ((((hI C q).length*W:Nat):Int)).toNat<2 ^ 62/\Ψ (pK 0 ((1:Int)*2 ^ ((((hI C q).length*W:Nat):Int)).toNat).toNat) _;rw[bT,iP];refine⟨by omega,by omega,?_⟩;rw[et];exact h
    .rintro m x L Q ⟨⟨O,R,S,F,G,rfl,h5⟩,hS⟩;obtain⟨M,rfl⟩:=Bw Q;rw[iT];refine mK (λL=>L=_) (λN X=>X _ rfl) ?_;rintro _ rfl;refine mK (λL=>∃ F G,L=zB C q t B W (.v (mN c)) O (.v (.int m)) (.o (.k (gV (pJ W m 0 (hI C q))))) F G) (λN X=>?_) ?_
     .refine oV (Be ((hI C q).map D.str)) _ (λΨ h=>h) (λj L=>∃ F G,L=zB C q t B W (.v (mN c)) O (.v (.int m)) (.o (.k (gV (pJ W m 0 ((hI C q).take j))))) F G) ⟨_,_,rfl⟩ ?_ ?_
      .rintro j x L Q ⟨F,G,rfl⟩;have hj:j<(hI C q).length:=by
        have:=(aL.mp Q).1
        rwa [Kd,aA] at this
       have hy:(hI C q)[j]?=some (hI C q)[j]:=aE hj;have hd:((hI C q).map D.str)[j]?=some (.str (hI C q)[j]):=by rw[aW,hy];rfl
       rw[R6 hd] at Q;cases Q;have ev:pJ W m 0 ((hI C q).take (j+1))=pJ W m 0 ((hI C q).take j)++[((hI C q)[j],(m:Int)/2 ^ ((j:Int)*(W:Int)).toNat%(1*2 ^ ((W:Int)).toNat))]:=by
        rw[bM,hy];show pJ W m 0 (_++[_])=_;rw[Wa,bU,mE (by omega),lX,bT,iP,show ((j:Int)*(W:Int))=((j*W:Nat):Int) by push_cast;rfl,bT]
       have ai:(hI C q)[j]∉(pJ W m 0 ((hI C q).take j)).map (·.1):=by
        rw[Hu];intro z;obtain⟨a,ha,e⟩:=eM z;rw[bU] at ha;rw[lK] at e;have ac:a<(hI C q).length:=by omega
        have e5:(hI C q)[a]?=(hI C q)[j]?:=by rw[aE ac,hy,e]
        have:=(lL ac (Ln (prs:=q) V.gc)).mp e5;omega
       have af:(pJ W m 0 ((hI C q).take j)).length<100000:=by
        have:=cG List.length (Hu W m ((hI C q).take j) 0);rw[aA,bU] at this;omega
       refine⟨rfl,rfl,rfl,rfl,.inr ⟨by omega,by omega⟩,Int.mul_nonneg (by omega) (by omega),⟨by omega,by omega,by decide⟩,?_,rfl,_,IB ai af,.v (.int j),.v (.str (hI C q)[j]),?_⟩
       .show (0:Int)<1*2 ^ _;rw[iP];exact iQ (by decide)
       .rw[ev];rfl
      .rintro L ⟨F,G,rfl⟩;rw[Kd,aA,cC];exact X _ ⟨F,G,rfl⟩
     rintro _ ⟨F,G,rfl⟩;have nd:=Ln (prs:=q) V.gc;have wb:=Ny W m nd;have a0:(2:Int) ^ W<=2 ^ 60:=by exact_mod_cast gU (show 0<2 by decide) hW
     have fin:¬ yW C q t (look (pJ W m 0 (hI C q))) (look u) (uB C q (look (pJ W m 0 (hI C q))) (look u)) W=0->Φ (.v (.b false)):=λhb=>by
      refine aj false ⟨λz=>(by cases z),λae=>?_⟩;have hz:=(Rn V t (look u) W).mpr (by
       rw[aa];exact ae c (cE.mpr ⟨aF hc,ah⟩)) m (by omega) (by exact_mod_cast M)
      exact absurd hz hb
     have ab:(gV u).length<=40:=by unfold gV;rw[List.length_map,U,List.length_zip,List.length_map];omega
     rcases h5 with rfl | rfl
     all_goals
      refine⟨rfl,_,rfl,rfl,C,q,t,W,gV (pJ W m 0 (hI C q)),gV u,look (pJ W m 0 (hI C q)),look u,uB C q (look (pJ W m 0 (hI C q))) (look u),rB C q (look (pJ W m 0 (hI C q))) (look u),rfl,V,KH V an W,ak,hW,?_,?_,?_,?_⟩
      .exact ab
      .exact λx Q=>⟨(tX _ x).1 (by rw[Hu];exact Q),(wb x Q).1,by have:=(wb x Q).2;omega⟩
      .exact λp hp=>(tX _ _).1 (by rw[ek];exact aN.mpr ⟨p,hp,rfl⟩)
      refine⟨.inr rfl,?_⟩;show if (!decide (yW C q t (look (pJ W m 0 (hI C q))) (look u) (uB C q (look (pJ W m 0 (hI C q))) (look u)) W=0))=true then _ else _
      by_cases hz:yW C q t (look (pJ W m 0 (hI C q))) (look u) (uB C q (look (pJ W m 0 (hI C q))) (look u)) W=0
      .rw[bJ hz];exact (aJ (by decide)).mpr ⟨⟨_,_,_,_,_,rfl,.inr rfl⟩,λn hn=>(Nat.lt_succ_iff_lt_or_eq.mp hn).elim (hS n) λz=>by rw[z];exact hz⟩
      .rw[bG hz];exact (aO rfl).mpr (fin hz)
    .rintro L ⟨⟨O,R,S,F,G,rfl,h5⟩,hS⟩;have il:(pK 0 (2 ^ ((hI C q).length*W))).length=2 ^ ((hI C q).length*W):=by simp[pK]
     rw[il] at hS;refine⟨⟨_,_,_,_,_,_,rfl⟩,λe M hl=>?_⟩;rw[bM,hc] at M;rcases aV.mp M with M | M
     .exact J e M hl
     .rw[aX.mp M,<- aa];refine (Rn V t (look u) W).mp λn n0 n1=>?_
      obtain⟨n,rfl⟩:=cW n0;exact hS n (by exact_mod_cast n1)
  .rintro L ⟨⟨s4,O,R,S,F,G,rfl⟩,J⟩;rw[aA,cC] at J;exact X _ ⟨⟨s4,O,R,S,F,G,rfl⟩,J⟩
 rintro _ ⟨⟨s4,O,R,S,F,G,rfl⟩,J⟩;refine aj true ⟨λ_ e he=>?_,λ_=>rfl⟩;obtain⟨q1,q2⟩:=cE.mp he;exact J e q1 q2
end
theorem GoodRow.rw (h:GoodRow C al):RwOk C al:=⟨⟨h.good.nd,h.good.gt,h.good.os,h.good.ond,by have:=h.good.li;omega,by have:=h.good.lg;omega,by have:=h.good.lo;omega⟩,h.n1,h.n2,h.mem,h.good.li,by have:=h.la;omega⟩
theorem T1 (K:mI) (v:Ac):PySem.W.kitOne K v v=some true:=by unfold PySem.W.kitOne;rw[if_pos (by simp)]
def Pf:RD:=λe f h=>∃ (d c:Ad) (C:Cel) (al:Aa (Af×Af)) (t:nB) (a:Aa (Af×Ab Int)),e=[d,c]/\f=[.r (.ref d),rV C al,.t [.k (pB a),.k (gV t)]]/\GoodRow C al/\(t.map (·.1)).Nodup/\(a.map (·.1)).Perm (al.map (·.2))/\h (.v (.b true))
abbrev K8 (d:Ad) (C:Cel) (al:Aa (Af×Af)) (t:nB) (g:Aa (Af×Ab Int)) (j l o p:Sl):Aa Sl:=[.v (.r (.ref d)),.v (rV C al),.v (.t [.k (pB g),.k (gV t)]),j,l,.v (.t [.k (pB g),.k (gV t)]),o,p]
section
variable {P:Ah}{K:mI}
theorem Db:FnScope ["deck","row","claim","steps","starts","kept","width","found"] ["deck","row","claim"] (nF Im):=oM
theorem NJ (T:Txt mg)
  (J:Kn P w K mg base 3 "_law_steps" Ih ["row","weights"] G4) (U:Kn P w K mg base 2 "_law_let" Ib ["row","edges"] Iv) (g:Kn P w K mg base 1 "_law_take" Ep ["deck","many"] xR) (I:Kn P w K mg base 6 "claim_holds" Ff ["row","claim","width"] Oe) (j:Kn P w K mg base 1 "_law_holds_wide" Ir ["steps","starts","width"] Wb) :
  oK P w K mg base 7 "_law_wide_right" Im ["deck","row","claim"] Pf:=by
 refine oS Db λf aa A Z s H E dk ds Φ u G hR=>?_
 obtain⟨d,c,C,al,t,a,rfl,rfl,M,S,hp,Y⟩:=hR;refine⟨_,(hO (mS 3 Db.nd (mU J u (dK (dT 1) (dK (mP G 2 hL) eA)))) (hO (mS 4 Db.nd (mU U u (dK (dT 1) (dK (mP G 2 hL) eA)))) (hO (mS 5 Db.nd (oN (dK (nZ (uU rfl) uS T.dict bZ (dK (mP G 2 hL) eA)) (dK (nZ (uU rfl) uS T.dict bZ (dK (mP G 2 hL) eA)) eA)))) (hO (oW (nN (nX (dK (nG oC oD hL (mU g u (dK (dT 0) (dK hL eA)))) (dK (nG oC oD hL (mU g u (dK (dT 0) (dK hL eA)))) (dK (nG oC oD hL (mU g u (dK (dT 0) (dK hL eA)))) eA))))) (mM 6 Db.nd) (hO (mS 7 Db.nd (mU I u (dK (dT 1) (dK (dT 2) (dK (dT 6) eA))))) (mQ (qU (Cc (J2 (Mc (F2 (oJ (Vv _) We T.isinstance kS (dK (dT 7) (dK (S3 (by rfl) T.bool PyProof.Rows.boot_bool) eA))))) (J2 (pY (As u.units) (pN true) (pv 7) (mU j u (dK (dT 3) (dK (dT 4) (dK (dT 6) eA))))) (Ss (pY (Q6 u.units) Va (pv 2) (dT 5)))))) (mQ (nO wR)) qY)))) (mQ (nO wR)))))),?_⟩;have q:=M.rw;have R:∀ p∈al,p.2∈a.map (·.1):=λp V=>hp.mem_iff.mpr (dY V)
 have B:∀ p∈al,mR (pB a) (Sum.inr p.2)=some (nY (tY a p.2)):=λp V=>Ko (R p V)
 refine mK (λh=>h=[.v (.r (.ref d)),.v (rV C al),.v (.t [.k (pB a),.k (gV t)]),.o (sR C al t),.n,.n,.n,.n]) (λN m=>?_) ?_
 .exact⟨rfl,_,rfl,C,al,t,rfl,q,.inl rfl,m _ rfl⟩
 rintro _ rfl;refine mK (λh=>h=[.v (.r (.ref d)),.v (rV C al),.v (.t [.k (pB a),.k (gV t)]),.o (sR C al t),.o (.l ((uT al (tY a)).map mN)),.n,.n,.n]) (λN m=>?_) ?_
 .exact⟨rfl,_,rfl,C,al,_,_,rfl,q.lp,B,.inl rfl,m _ rfl⟩
 rintro _ rfl;refine mK (λh=>h=K8 d C al t a (.o (sR C al t)) (.o (.l ((uT al (tY a)).map mN))) .n .n) (λN m=>?_) ?_
 .exact⟨rfl,_,rfl,rfl,_,rfl,by show 2<=1000;decide,m _ rfl⟩
 rintro _ rfl;refine mK (λh=>True) (λN m=>?_) (λ_ _=>Y);refine⟨d,c,40,rfl,rfl,by decide,by decide,λr1 k1=>⟨.inl rfl,d,c,6,rfl,rfl,by decide,by decide,λr2 k2=>⟨.inl rfl,d,c,12,rfl,rfl,by decide,by decide,λr3 k3=>⟨.inl rfl,by show 3<=1000;decide,?_⟩⟩⟩⟩;refine⟨λi h=>∃ D F s6 s7,h=K8 d C al t a D F s6 s7/\((D = .o (sR C al t)/\F = .o (.l ((uT al (tY a)).map mN)))\/(D = .v (sR C al t)/\F = .v (.l ((uT al (tY a)).map mN)))),⟨_,_,_,_,rfl,.inl ⟨rfl,rfl⟩⟩,?_,λ_ _=>m _ trivial⟩;rintro i x h y ⟨D,F,s6,s7,rfl,L⟩;have X:∃ W:Nat,1<=W/\W<=60/\x = .int W:=by
  match i,y with
  | 0,y=>cases y;exact⟨1+r1,by omega,by omega,by push_cast;rfl⟩
  | 1,y=>cases y;exact⟨1+r2,by omega,by omega,by push_cast;rfl⟩
  | 2,y=>cases y;exact⟨5+r3,by omega,by omega,by push_cast;rfl⟩
  | _+3,y=>cases y
 obtain⟨W,O,hW,rfl⟩:=X;refine mK (λh=>∃ b:Bool,(b=true↔∀ e∈uT al (tY a),sm C al t W e=some 0)/\h=K8 d C al t a D F (.v (.int W)) (.v (.b b))) (λN m=>?_) ?_
 .exact⟨C,al,t,pB a,tY a,W,rfl,q,B,hW,λb z=>⟨.inl rfl,m _ ⟨b,z,rfl⟩⟩⟩
 rintro _ ⟨b,z,rfl⟩;rcases L with⟨rfl,rfl⟩ | ⟨rfl,rfl⟩
 all_goals
  refine⟨"bool",true,rfl,T1 K _,rfl,_,rfl,wT rfl ⟨rfl,C,al,t,uT al (tY a),W,rfl,q,M.la,(Dv _).sublist List.filter_sublist,λb z=>(cE.mp z).1,O,hW,λb2 Q=>⟨.inl rfl,?_⟩⟩⟩;have e:b=b2:=fR.mpr (z.trans Q.symm);subst e;refine wT (by cases b<;>rfl) ⟨rfl,pB a,gV t,rfl,rfl,Sg (hp.nodup_iff.mpr M.n2),Q5 S,?_⟩;exact wT rfl ⟨_,_,_,_,rfl,.inr ⟨rfl,rfl⟩⟩
end
def G6 (K:mI):Sp:=λe H Q _=>∃ (a:Ad) (c:Aa Int),e=[.ref a]/\mL K H a (c.map V.int)/\c.length<=63/\∀ d,Q (.b true) d
theorem NY (g:Aa (Af×Ab Int)):zN (.k (pB g)):=.inr ⟨_,g.map λp=>vO p.2,rfl,by
 unfold pB;rw[aR];exact Dg (f:=λp:Af×Ab Int=>nY p.2) (λp=>by cases p.2<;>rfl) g⟩
abbrev Bv (d:Ad) (C:Cel) (al:Aa (Af×Af)) (t:nB) (g:Aa (Af×Ab Int)) (j l o p:Sl):Aa Sl:=[.n,.v (.r (.ref d)),j,.v (rV C al),.v (.t [.k (pB g),.k (gV t)]),l,o,p]
theorem IK {A:Prop} [Decidable A] {p q:Prop}(g:A->p) (j:¬ A->q):if decide A=true then p else q:=by
 by_cases h:A
 .rw[bJ h];exact (aO rfl).mpr (g h)
 .rw[bG h];exact (aJ bC).mpr (j h)
def JP (g:Aa Sl):Nat:=match (g[5]?:Ab Sl) with
 | some (.v (.int W))=>W.toNat
 | _=>0
section
variable {P:Ah}{K:mI}
theorem yT:FnScope ["script","deck","turn","row","claim","width","kept","found"] ["script"] (nF Sd):=oM
theorem FR (F:Fun K "law" "law" Sd f fd) (T:Txt mg) (g:Gd K mg "_law_deck" Hb ["script"] fD ac)
  (J:Kn P w K mg base 5 "_law_claimed" J1 ["deck"] Pm) (ab:Kn P w K mg base 1 "_law_take" Ep ["deck","many"] xR) (l:Kn P w K mg base 1 "_law_words_of" xG ["row"] Av) (I:Kn P w K mg base 6 "claim_holds" Ff ["row","claim","width"] Oe) (U:Kn P w K mg base 5 "_law_holds" Ip ["row","claim","width"] Ti) (j:Kn P w K mg base 7 "_law_wide_right" Im ["deck","row","claim"] Pf)
  (aa:FnOk P w K mg base pE 1 fD ac ["script"] (T0 K)) :
  FnOk P w K mg base pE 8 f fd ["script"] (G6 K):=by
 refine F.ok yT (λvs H Q E h=>?_) (λan A ai s H vs Q E L h=>?_)
 .obtain⟨a,ns,rfl,_⟩:=h;rfl
 .obtain⟨a,ns,rfl,hS,X,hQ⟩:=h;have hu:=Mz L;have ah:Room 1 _:=L.mono (by decide);refine Pr _ (qD (i:=1) yT.nd rfl (Or.inl rfl) (uP aa ah rfl g.m g.k g.b .nil tJ (nA (pv 0) nK))) ?_;refine⟨_,rfl,a,ns,rfl,hS,X,λd c H1 D1 _ _ _=>?_⟩;refine⟨_,(hO (oW (vY (by rfl) T.range hL) (mM 2 yT.nd) (hO (wN (m:=99) (mU J L (dK (dT 1) eA)) (yR (n:=2) rfl (nE (mM 3 yT.nd) (nE (mM 4 yT.nd) pD)))) (hO (mS 5 yT.nd (nG oC oD hL (mU ab L (dK (dT 1) (dK hL eA))))) (hO (Qj eF (Cc (Ho (pY B3 B6 (pv 5) hL) (Hn (Bf B3 B6 (nG oC oD (nG sF sA (oJ qB qC T.len bN (dK (qP hu (mU l L (dK (dT 3) eA)) hL) eA)) (dT 5)) (oJ qB qC T.len bN (dK (mP hu 3 hL) eA))) hL)))) (mQ (mS 5 yT.nd (qA vR wO 5 hL)))) (hO (mS 6 yT.nd (oN (dK (nZ (uU rfl) uS T.dict bZ (dK (mP hu 4 hL) eA)) (dK (nZ (uU rfl) uS T.dict bZ (dK (mP hu 4 hL) eA)) eA)))) (hO (mS 7 yT.nd (mU I L (dK (dT 3) (dK (dT 4) (dK (dT 5) eA))))) (hO (qU (Cc (J2 (Mc (F2 (oJ (Vv _) We T.isinstance kS (dK (dT 7) (dK (S3 (by rfl) T.bool PyProof.Rows.boot_bool) eA))))) (J2 (pY (As L.units) (pN true) (pv 7) (mU U L (dK (dT 3) (dK (dT 4) (dK (dT 5) eA))))) (Ss (pY (Q6 L.units) Va (pv 4) (dT 6)))))) (mQ (nO wR)) qY) (mQ (qU (Mc (F2 (mU j L (dK (dT 1) (dK (dT 3) (dK (dT 4) eA)))))) (mQ (nO wR)) qY))))))))) (mQ (nO wR))),⟨[d,c],λ_=>False,H1⟩,[.n,.v (.r (.ref d)),.n,.n,.n,.n,.n,.n],[],{ nx:=λ_=>False,rt:=λr=>r = .v (.b true) },rfl,?_,?_,?_,?_⟩
  .refine⟨λb o e _=>e,.inr ⟨d,c,rfl,D1⟩,dZ,λb S=>absurd S bD,λp M=>?_⟩;have M:p∈[((Sl.n:Sl),some (V.ref a)),(.v (.r (.ref d)),some (V.ref d)),(.n,none),(.n,none),(.n,none),(.n,none),(.n,none),(.n,none)]:=M;simp only[aK,bD,eZ] at M;rcases M with rfl | rfl | rfl | rfl | rfl | rfl | rfl | rfl<;>first | trivial | exact⟨_,rfl,.r _⟩
  .refine mK (λu=>True) (λN y=>?_) (λ_ _=>rfl);refine oV (pK 0 2) _ (λΨ h=>⟨by decide,by decide,h⟩) (λi u=>∃ s2 s3 s4 s5 R O,u=[.n,.v (.r (.ref d)),s2,s3,s4,s5,R,O]) ⟨_,_,_,_,_,_,rfl⟩ ?_ (λ_ _=>y _ trivial);rintro i x u hx ⟨s2,s3,s4,s5,R,O,rfl⟩;obtain⟨hi,rfl⟩:=Bw hx;refine mK (λu=>∃ (C:Cel) (al:Aa (Af×Af)) (t:nB) (q:Aa (Af×Ab Int)),GoodRow C al/\(t.map (·.1)).Nodup/\(q.map (·.1)).Perm (al.map (·.2))/\u=Bv d C al t q (.v (.int (0+i))) s5 R O) (λN y=>?_) ?_
   .exact⟨d,c,rfl,rfl,λC al t q g1 g2 _ g3 g4=>⟨.inl rfl,rfl,rfl,y _ ⟨C,al,t,q,g1,g2,g3,rfl⟩⟩⟩
   rintro _ ⟨C,al,t,q,hC,Y,M,rfl⟩;have B:=hC.rw;have ag:∀ p∈al,p.2∈q.map (·.1):=λp hq=>M.mem_iff.mpr (dY hq)
   have Z:∀ p∈al,mR (pB q) (Sum.inr p.2)=some (nY (tY q p.2)):=λp hq=>Ko (ag p hq)
   have ao:=B.li;have aq:=B.gc.lo;have ar:=B.lp;have l1:(hI C al).length<=C.ins.length:=bV _ _;refine mK (λu=>∃ W:Nat,1<=W/\W<=4/\u=Bv d C al t q (.v (.int (0+i))) (.v (.int W)) R O) (λN y=>?_) ?_
   .exact⟨d,c,4,rfl,rfl,by decide,by decide,λr L=>⟨.inl rfl,y _ ⟨1+r,by omega,by omega,by push_cast;rfl⟩⟩⟩
   rintro _ ⟨W,z,G,rfl⟩;refine mK (λu=>∃ W:Nat,1<=W/\W<=4/\(hI C al).length*W<=12/\u=Bv d C al t q (.v (.int (0+i))) (.v (.int W)) R O) (λN y=>?_) ?_
   .refine⟨λu=>∃ W:Nat,1<=W/\W<=4/\u=Bv d C al t q (.v (.int (0+i))) (.v (.int W)) R O,JP,⟨W,z,G,rfl⟩,?_⟩;rintro _ ⟨W,z,G,rfl⟩;refine⟨rfl,?_⟩;show if decide ((W:Int)>1)=true then _ else _
    by_cases h1:(W:Int)>1
    .rw[bJ h1];refine (aO rfl).mpr ?_;have em:((((hI C al).map D.str).length:Nat):Int)*(W:Int)=(((hI C al).length*W:Nat):Int):=by rw[aA];push_cast;rfl
     refine⟨C,al,rfl,by omega,by omega,by omega,.inl rfl,_,rfl,rfl,_,rfl,.inr ⟨by omega,by omega⟩,rfl,_,rfl,rfl,_,rfl,?_⟩;refine IK (A:=(((((hI C al).map D.str).length:Nat):Int)*(W:Int)+(((al.map λp:Af×Af=>D.t [.str p.1,.str p.2]).length:Nat):Int)>7)) (λhA=>?_) (λhA=>?_)
     .refine⟨rfl,⟨W-1,by omega,by omega,?_⟩,?_⟩
      .rw[show ((W-1:Nat):Int)=(W:Int)-1 by omega];rfl
      .show ((W:Int)-1).toNat<((W:Int)).toNat;omega
     .refine y _ ⟨W,z,G,?_,rfl⟩;rw[em] at hA;omega
    .rw[bG h1];refine (aJ bC).mpr (y _ ⟨W,z,G,?_,rfl⟩);have:W=1:=by omega
     subst this;omega
   rintro _ ⟨W,z,G,af,rfl⟩;refine mK (λu=>u=Bv d C al t q (.v (.int (0+i))) (.v (.int W)) (.v (.t [.k (pB q),.k (gV t)])) O) (λN y=>?_) ?_
   .exact⟨rfl,_,rfl,rfl,_,rfl,by show 2<=1000;decide,y _ rfl⟩
   rintro _ rfl;refine mK (λu=>∃ b:Bool,(b=true↔∀ e∈uT al (tY q),sm C al t W e=some 0)/\u=Bv d C al t q (.v (.int (0+i))) (.v (.int W)) (.v (.t [.k (pB q),.k (gV t)])) (.v (.b b))) (λN y=>?_) ?_
   .exact⟨C,al,t,pB q,tY q,W,rfl,B,Z,by omega,λb S=>⟨.inl rfl,y _ ⟨b,S,rfl⟩⟩⟩
   rintro _ ⟨b,S,rfl⟩;refine mK (λu=>u=Bv d C al t q (.v (.int (0+i))) (.v (.int W)) (.v (.t [.k (pB q),.k (gV t)])) (.v (.b b))) (λN y=>?_) ?_
   .refine⟨"bool",true,rfl,T1 K _,rfl,_,rfl,wT rfl ⟨rfl,C,al,t,pB q,tY q,W,rfl,B,Z,NY q,z,by omega,af,λb2 ae=>⟨.inl rfl,?_⟩⟩⟩;have e:b=b2:=fR.mpr (S.trans ae.symm);subst e;refine wT (by cases b<;>rfl) ⟨rfl,pB q,gV t,rfl,rfl,Sg (M.nodup_iff.mpr hC.n2),Q5 Y,?_⟩;exact wT rfl (y _ rfl)
   rintro _ rfl;refine⟨d,c,C,al,t,q,rfl,rfl,hC,Y,M,.inl rfl,?_⟩;refine⟨rfl,true,rfl,?_⟩;exact wT rfl ⟨_,_,_,_,_,_,rfl⟩
  .intro aj ak H' _ _ _;exact⟨False.elim,False.elim,False.elim⟩
  .rintro r v aj ak H' _ d1 rfl;obtain rfl:=d1.valAt.bl_inv;exact hQ H'
end
def DF (K:mI) (x:Af) (st:Stmt):Prop:=∃ (f:Ad) (e a:Ab Ad) (sl:Array (Ab Ac)) (d kV c pm cd b:Ac),PySem.W.nsIn K mainGlobals x=some (some (.ref f))/\K.lookup f=some ⟨d,e,.func (PySem.W.fnOf x x (vD st) (tL st) (nF st) .none kV c pm a cd b),sl⟩/\PySem.W.codeIn K cd x=true/\PySem.W.keepIn K (.ref f)=true
def NZ (K:mI) (x:Af):Prop:=PySem.W.nsIn K mainGlobals x=some none
theorem df_mk {K:mI}{st:Stmt}{sl:Array (Ab Ac)}{kV cd:Ac}(a:PySem.W.nsIn K mainGlobals x=some (some (.ref f))) (l:K.lookup f=some ⟨p,r,.func (PySem.W.fnOf x x (vD st) (tL st) (nF st) .none kV o pm g cd j),sl⟩) (c:PySem.W.codeIn K cd x=true) (k:PySem.W.keepIn K (.ref f)=true):DF K x st:=⟨f,r,g,sl,p,kV,o,pm,cd,j,a,l,c,k⟩
theorem C1 {K:mI}{st:Stmt}(o:Aa Af) (X:K.In h) (G:h.Ns mainGlobals J) (d:DF K x st)
  (I:∀ (kV j pm:Ac) (r:Ab Ad) (g C:Ac) (p:Aa Ac),p.length=o.length->bindArgs (PySem.W.fnOf x x (vD st) (tL st) (nF st) .none kV j pm r g C) ⟨p,[]⟩=pure (o.zip p)):∃ f fd,Gd K J x st o f fd:=by
 obtain⟨f,i,r,sl,e,kV,b,pm,cd,C,a,l,c,k⟩:=d;have F:=Tg (st:=st) l c k;exact⟨f,_,F,PySem.W.mg_of X G a,k,F.binds I⟩
theorem OJ {K:mI}{st:Stmt}(X:K.In h) (G:h.Ns mainGlobals j) (d:DF K x st) (g:∀ a b c d e f,bindArgs (PySem.W.fnOf x x (vD st) (tL st) (nF st) .none a b c d e f) ⟨[],[]⟩=pure []:=by intros;rfl):∃ f fd,Gd K j x st [] f fd :=
 C1 [] X G d λa b c d e f k i=>by rcases k with _ | _<;>first | exact g a b c d e f | cases i
theorem xH {K:mI}{st:Stmt}(j:Af) (X:K.In h) (G:h.Ns mainGlobals o) (d:DF K x st) (l:∀ a b c d e f g,bindArgs (PySem.W.fnOf x x (vD st) (tL st) (nF st) .none a b c d e f) ⟨[g],[]⟩=pure [(j,g)]:=by intros;rfl):∃ f fd,Gd K o x st [j] f fd :=
 C1 [j] X G d λa b c d e f k i=>by rcases k with _ | ⟨g,_ | _⟩<;>first | exact l a b c d e f g | cases i
theorem rM {K:mI}{st:Stmt}(l o:Af) (X:K.In h) (G:h.Ns mainGlobals r) (d:DF K x st) (p:∀ a b c d e f g j,bindArgs (PySem.W.fnOf x x (vD st) (tL st) (nF st) .none a b c d e f) ⟨[g,j],[]⟩=pure [(l,g),(o,j)]:=by intros;rfl):∃ f fd,Gd K r x st [l,o] f fd :=
 C1 [l,o] X G d λa b c d e f k i=>by rcases k with _ | ⟨g,_ | ⟨j,_ | _⟩⟩<;>first | exact p a b c d e f g j | cases i
theorem Bq {K:mI}{st:Stmt}(o p r:Af) (X:K.In h) (G:h.Ns mainGlobals I) (d:DF K x st) (C:∀ a b c d e f g j l,bindArgs (PySem.W.fnOf x x (vD st) (tL st) (nF st) .none a b c d e f) ⟨[g,j,l],[]⟩=pure [(o,g),(p,j),(r,l)]:=by intros;rfl):∃ f fd,Gd K I x st [o,p,r] f fd :=
 C1 [o,p,r] X G d λa b c d e f k i=>by rcases k with _ | ⟨g,_ | ⟨j,_ | ⟨l,_ | _⟩⟩⟩<;>first | exact C a b c d e f g j l | cases i
theorem Yb {K:mI}{st:Stmt}(p r C I:Af) (X:K.In h) (G:h.Ns mainGlobals T) (d:DF K x st) (J:∀ a b c d e f g j l o,bindArgs (PySem.W.fnOf x x (vD st) (tL st) (nF st) .none a b c d e f) ⟨[g,j,l,o],[]⟩=pure [(p,g),(r,j),(C,l),(I,o)]:=by intros;rfl):∃ f fd,Gd K T x st [p,r,C,I] f fd :=
 C1 [p,r,C,I] X G d λa b c d e f k i=>by rcases k with _ | ⟨g,_ | ⟨j,_ | ⟨l,_ | ⟨o,_ | _⟩⟩⟩⟩<;>first | exact J a b c d e f g j l o | cases i
theorem Pt {K:mI}{st:Stmt}(r C I J T:Af) (X:K.In h) (G:h.Ns mainGlobals mg) (d:DF K x st) (U:∀ a b c d e f g j l o p,bindArgs (PySem.W.fnOf x x (vD st) (tL st) (nF st) .none a b c d e f) ⟨[g,j,l,o,p],[]⟩=pure [(r,g),(C,j),(I,l),(J,o),(T,p)]:=by intros;rfl):∃ f fd,Gd K mg x st [r,C,I,J,T] f fd :=
 C1 [r,C,I,J,T] X G d λa b c d e f k i=>by rcases k with _ | ⟨g,_ | ⟨j,_ | ⟨l,_ | ⟨o,_ | ⟨p,_ | _⟩⟩⟩⟩⟩<;>first | exact U a b c d e f g j l o p | cases i
theorem all_mk {l:PySem.W.OpenLaw}{K:mI}(X:K.In h) (G:h.Ns mainGlobals mg) (c5:mg "law" = some (.ref fa))
  (d1:DF K "check_there" Jl)
  (d2:DF K "told_by" Hi)
  (d3:DF K "side_bits" Gv)
  (d4:DF K "gate_bit" Ka)
  (d5:DF K "all_bits" Dd)
  (d6:DF K "carried_inputs" Cj)
  (d7:DF K "word_inputs" Es)
  (d8:DF K "word_outputs" Jg)
  (d9:DF K "let_edges" Gz)
  (b0:DF K "are_let" Hw)
  (b1:DF K "step_table" Ga)
  (b2:DF K "steps_from" Ju)
  (b3:DF K "cell_part" Gg)
  (b4:DF K "claim_holds" Ff)
  (b5:DF K "sums_with_one_more" F5)
  (b6:DF K "only_sum" Gk)
  (b7:DF K "_law_deck" Hb)
  (b8:DF K "_law_take" xM)
  (b9:DF K "_law_kept" Ew)
  (ca:DF K "_law_made_names" Hf)
  (cb:DF K "_law_names" Fl)
  (cc:DF K "_law_gate" G8)
  (cf:DF K "_law_row" Gj)
  (cg:DF K "_law_gate_bit" Gx)
  (ch:DF K "_law_all_bits" Eh)
  (cj:DF K "_law_words_of" xG)
  (ck:DF K "_law_laid" Kc)
  (cl:DF K "_law_sum" Jb)
  (cm:DF K "_law_kit" Jr)
  (cn:DF K "_law_shuffled" Ed)
  (cp:DF K "_law_words" Kb)
  (cq:DF K "_law_made" Hq)
  (cs:DF K "_law_times" Hx)
  (cu:DF K "_law_edges" Iy)
  (cv:DF K "_law_spoilt" Je)
  (cw:DF K "_law_claimed" J1)
  (cx:DF K "_law_holds" Ip)
  (cy:DF K "_law_rows" Ct)
  (cz:DF K "_law_own_sum" Jy)
  (c0:DF K "_law_steps" Ih)
  (c1:DF K "_law_let" Ib)
  (c2:DF K "_law_holds_wide" Ir)
  (c3:DF K "_law_wide_right" Im)
  (c4:DF K "law" Ek)
  (z1:NZ K "len")
  (z2:NZ K "range")
  (z3:NZ K "sum")
  (z4:NZ K "min")
  (z5:NZ K "max")
  (z6:NZ K "tuple")
  (z7:NZ K "list")
  (z8:NZ K "set")
  (z9:NZ K "dict")
  (c6:NZ K "int")
  (c7:NZ K "str")
  (c8:NZ K "zip")
  (c9:NZ K "enumerate")
  (da:NZ K "all")
  (db:NZ K "any")
  (dd:NZ K "isinstance")
  (de:NZ K "sorted")
  (df:NZ K "abs")
  (dg:NZ K "reversed")
  (dh:NZ K "bool")
  : ∃ fd:FuncData,(∀ (s:Ae) (v:Ac),BindsTo s fd ⟨[v],[]⟩ [("script",v)])/\∀ base:Ag,K.In base->base.Ns mainGlobals mg->FnOk l.prog w K mg base pE 8 fa fd ["script"] (G6 K):=by
 obtain⟨f1,e1,r⟩:=rM "names" "given" X G d1;obtain⟨f2,e2,br⟩:=rM "cell" "bits" X G d2;obtain⟨f3,e3,ay⟩:=rM "cell" "bits" X G d3;obtain⟨f4,e4,a8⟩:=rM "word" "bits" X G d4;obtain⟨f5,e5,a7⟩:=xH "count" X G d5;obtain⟨f6,e6,D⟩:=xH "row" X G d6;obtain⟨f7,e7,U⟩:=xH "row" X G d7;obtain⟨f8,e8,Z⟩:=xH "row" X G d8;obtain⟨f9,e9,ax⟩:=rM "row" "edges" X G d9;obtain⟨es,di,bm⟩:=rM "bits" "asked" X G b0;obtain⟨et,dj,af⟩:=rM "row" "weights" X G b1;obtain⟨eu,dk,ag⟩:=Bq "row" "weights" "carried" X G b2;obtain⟨ev,dm,ak⟩:=Bq "row" "weights" "known" X G b3;obtain⟨ew,dn,C⟩:=Bq "row" "claim" "width" X G b4;obtain⟨ey,dp,q⟩:=rM "table" "sums" X G b5;obtain⟨ez,dq,be⟩:=rM "steps" "sums" X G b6;obtain⟨e0,dr,P⟩:=xH "script" X G b7;obtain⟨fb,ds,u⟩:=rM "deck" "many" X G b8;obtain⟨fc,dt,ba⟩:=OJ X G b9;obtain⟨fe,du,H⟩:=rM "deck" "many" X G ca;obtain⟨ff,dv,ar⟩:=rM "deck" "many" X G cb;obtain⟨fg,dw,a9⟩:=rM "deck" "known" X G cc;obtain⟨fh,dx,bp⟩:=Yb "deck" "inputs" "gates" "most" X G cf;obtain⟨fi,dy,S⟩:=rM "word" "bits" X G cg;obtain⟨fj,dz,Q⟩:=rM "cell" "bits" X G ch;obtain⟨fk,d0,Y⟩:=xH "row" X G cj;obtain⟨fl,ea,bb⟩:=Yb "row" "width" "words" "edges" X G ck;obtain⟨fm,eb,bq⟩:=Pt "row" "weights" "width" "words" "edges" X G cl;obtain⟨fo,ec,bn⟩:=xH "deck" X G cm;obtain⟨fp,ed,V⟩:=rM "deck" "some" X G cn;obtain⟨fq,ee,aw⟩:=xH "text" X G cp;obtain⟨fr,ef,bc⟩:=rM "deck" "kit" X G cq;obtain⟨ft,eg,av⟩:=rM "weights" "count" X G cs;obtain⟨fu,eh,ao⟩:=rM "deck" "row" X G cu;obtain⟨fv,ei,ae⟩:=Bq "deck" "row" "weights" X G cv;obtain⟨fw,ej,I⟩:=xH "deck" X G cw;obtain⟨fx,ek,aq⟩:=Bq "row" "claim" "width" X G cx;obtain⟨fy,el,bd⟩:=xH "many" X G cy;obtain⟨ga,em,J⟩:=Pt "row" "weights" "known" "carried" "letter" X G cz;obtain⟨gb,en,au⟩:=rM "row" "weights" X G c0;obtain⟨gc,eo,bo⟩:=rM "row" "edges" X G c1;obtain⟨gd,ep,E⟩:=Bq "steps" "starts" "width" X G c2;obtain⟨gf,er,L⟩:=Bq "deck" "row" "claim" X G c3;obtain⟨f,od,an,sl,oc,kV,dc,pm,cd,ct,a,lk,c,k⟩:=c4;cases c5.symm.trans (PySem.W.mg_of X G a);have FL:=Tg (st:=Ek) lk c k;refine⟨PySem.W.fnOf "law" "law" (vD Ek) (tL Ek) (nF Ek) .none kV dc pm an cd ct,λs v=>.of_eq rfl,λbase _ _=>?_⟩;have T:Txt mg:=⟨cA X G z1,cA X G z2,cA X G z3,cA X G z4,cA X G z5,cA X G z6,cA X G z7,cA X G z8,cA X G z9,cA X G c6,cA X G c7,cA X G c8,cA X G c9,cA X G da,cA X G db,cA X G dd,cA X G de,cA X G df,cA X G dg,cA X G dh⟩;have i:∀ {k x st ps R f fd},Gd K mg x st ps f fd->oK l.prog w K mg base k x st ps R->Kn l.prog w K mg base k x st ps R:=λg o=>⟨_,_,g,o _ _ g.F⟩
 have d:=i u λ_ _ F=>JY (J0 F T)
 have N:=i ar λ_ _ F=>QQ (GV F T u ba H)
 have bg:=i a9 λ_ _ F=>FN (SE F T u)
 have bw:=i bp (PJ T d N bg);have n:=i V (GS T d);have a4:=i aw (Y3 T);have bu:=i bn (EO T d);have bi:=i bc (Yh T d N n a4);have aa:=i r λ_ _=>RO
 have bf:=i a8 (MN T);have bz:=i br (BP T aa bf);have e:=i D KI;have B:=i U (Yx e);have p:=i Z DY;have j:=i S (AV T);have m:=i Q (EQ T j);have b:=i Y Yt;have y:=i a7 (DT T);have A:=i bd (Zf T);have a6:=i ay (CL T bz);have az:=i ak (SN T B p);have aj:=i ag (ON T y B e a6 az);have ai:=i af (PZ T y aj);have bt:=i bm (RH T);have a5:=i ax (SW T e y bt);have bv:=i bo (JC T A);have ac:=i J (Zj T b);have a2:=i au (LL T b A m ac);have bj:=i be (Yl T);have t:=i q (NI T bj);have z:=i C (Zl T ai a5 t);have M:=i E (EZ T);have bh:=i bb (EJ T b m);have bx:=i bq (DW T bh b);have a1:=i aq (LH T A bx b);have O:=i L (NJ T a2 bv d z M);have a3:=i av (AR T);have a0:=i ao (Yw T d n);have ah:=i ae (EK T d b);have ab:=i I (GY T d bw ah bi bu a3 a0);exact FR FL T P ab d b z a1 O (LC P.F T)
theorem walk {l:PySem.W.OpenLaw}{q:Ah}{g:Aa Af}{C:(Af->Ab Ac)->Ag->Prop}{p:World->Ag->Prop}{d:DefRec}{K:Params->mI}(J:l.most=some 63) (o:d.params.defaults=[])
  (I:∀ (w:World) (h:Ag),p w h->(K w.params).In h)
  (F:∀ (w:World) (j:Af->Ab Ac) (r:Ad) (h:Ag),(K w.params).In h->h.Ns mainGlobals j->j d.name=some (.ref r) ->∃ fd:FuncData,(∀ (s:Ae) (u:Ac),BindsTo s fd ⟨[u],[]⟩ [("script",u)])/\∀ base:Ag,(K w.params).In base->base.Ns mainGlobals j->FnOk l.prog w (K w.params) j base pE 8 r fd ["script"] (G6 (K w.params))) :
  PySem.W.WalkO q g C p l.row.toRowW d [] (λf T=>PySem.call f T) :=
 L2.walk_of (n:=63) (k:=8) (x := "script") (CX:=λ_=>pE) (sp:=λw=>G6 (K w.params)) J (by decide) o ⟨rfl,by decide,by decide⟩ I F (λ_ _ a e c _ b=>⟨a,e,rfl,b,c,λ_=>rfl⟩) λ_ _ _ _ _ z=>z
end Lw
namespace PySem.W.Fast
theorem tw4370835845066854525:True:=⟨⟩
theorem tw4132416213443722200:True:=⟨⟩
theorem tw557564073547733371:True:=⟨⟩
theorem tw2206293402323492810:True:=⟨⟩
theorem tw16223053988370324192:True:=⟨⟩
theorem tw10583403976034161620:True:=⟨⟩
theorem tw9086161470175599618:True:=⟨⟩
theorem tw2336656214330816479:True:=⟨⟩
theorem tw14336165517016683418:True:=⟨⟩
theorem tw11060240024995040026:True:=⟨⟩
theorem tw4146808508481305240:True:=⟨⟩
theorem tw1575128512681755907:True:=⟨⟩
theorem tw14339429429243914317:True:=⟨⟩
theorem tw2606186928242989078:True:=⟨⟩
theorem tw11309970648318115515:True:=⟨⟩
theorem tw17798632929550760715:True:=⟨⟩
theorem tw16097178882741040071:True:=⟨⟩
theorem tw9609569220988745006:True:=⟨⟩
theorem tw7398544628297588836:True:=⟨⟩
theorem tw9856943202673613384:True:=⟨⟩
theorem tw18393583730585158560:True:=⟨⟩
theorem tw12223171766103115949:True:=⟨⟩
theorem tw4848398947889273084:True:=⟨⟩
theorem tw11328166657073819825:True:=⟨⟩
theorem tw1589832869087601916:True:=⟨⟩
theorem tw5872294774641078811:True:=⟨⟩
theorem tw13610044452521870083:True:=⟨⟩
theorem tw14723880483569844988:True:=⟨⟩
theorem tw8145206606314565723:True:=⟨⟩
theorem tw14112614899967140352:True:=⟨⟩
theorem tw1529444180679682098:True:=⟨⟩
theorem tw12570572794838071217:True:=⟨⟩
theorem tw7404791337939048357:True:=⟨⟩
theorem tw18235067042549316929:True:=⟨⟩
theorem tw16306403698726717414:True:=⟨⟩
theorem tw16128629368680037864:True:=⟨⟩
theorem tw12276367289791724790:True:=⟨⟩
theorem tw12899186823936431550:True:=⟨⟩
theorem tw4484238943974209801:True:=⟨⟩
theorem tw9243861121034751329:True:=⟨⟩
theorem tw7285757474700662651:True:=⟨⟩
theorem tw2517116808947507048:True:=⟨⟩
theorem tw17995383957628117120:True:=⟨⟩
theorem tw13444664194376524680:True:=⟨⟩
theorem tw6609025255804294654:True:=⟨⟩
theorem tw18366506642239290609:True:=⟨⟩
theorem tw1920703162528488858:True:=⟨⟩
theorem tw9526525097861111099:True:=⟨⟩
theorem tw7249562637039010203:True:=⟨⟩
theorem tw18171812949910996988:True:=⟨⟩
theorem tw13300482694461995320:True:=⟨⟩
theorem tw9944923072414532478:True:=⟨⟩
theorem tw831434670887697602:True:=⟨⟩
theorem tw4826123398160704919:True:=⟨⟩
theorem tw2989154858468616272:True:=⟨⟩
theorem tw17434519944431095693:True:=⟨⟩
theorem tw570304226500276130:True:=⟨⟩
theorem tw9391776876444469686:True:=⟨⟩
theorem tw13369859942407058480:True:=⟨⟩
theorem tw9849553634755551835:True:=⟨⟩
theorem tw11718464648835949574:True:=⟨⟩
theorem tw12162093630836809064:True:=⟨⟩
theorem tw4174216358009571611:True:=⟨⟩
theorem tw10978168387649213415:True:=⟨⟩
theorem tw13509270281724183274:True:=⟨⟩
theorem tw3435410849688558191:True:=⟨⟩
theorem tw4742760187947831029:True:=⟨⟩
theorem tw18433007651490888699:True:=⟨⟩
theorem tw15113405742837452730:True:=⟨⟩
theorem tw8587898916323271460:True:=⟨⟩
theorem tw762126509591988377:True:=⟨⟩
theorem tw12244797550765048136:True:=⟨⟩
theorem tw6862021946761279932:True:=⟨⟩
theorem tw9272023881584001526:True:=⟨⟩
theorem tw13569555002579162525:True:=⟨⟩
theorem tw9673859967537607773:True:=⟨⟩
theorem tw12699744191221082510:True:=⟨⟩
theorem tw8260328813765580508:True:=⟨⟩
theorem tw10650511798533665602:True:=⟨⟩
theorem tw16062441390009111481:True:=⟨⟩
theorem tw6988116058456695701:True:=⟨⟩
theorem tw1347620306619155539:True:=⟨⟩
theorem tw16708337000336728648:True:=⟨⟩
theorem tw9084597790377053167:True:=⟨⟩
theorem tw10897183338316304162:True:=⟨⟩
theorem tw8815713170458348642:True:=⟨⟩
theorem tw6256593745405730387:True:=⟨⟩
theorem tw2601693080657066221:True:=⟨⟩
theorem tw13932962026820950914:True:=⟨⟩
theorem tw10657873444501344154:True:=⟨⟩
theorem tw13817036434304648298:True:=⟨⟩
theorem tw16351869594608822511:True:=⟨⟩
theorem tw4156795269270770460:True:=⟨⟩
theorem tw16208074624589334304:True:=⟨⟩
theorem tw9459732021620690297:True:=⟨⟩
theorem tw8819044845578273631:True:=⟨⟩
theorem tw16929354112887945674:True:=⟨⟩
theorem tw5869499271470802890:True:=⟨⟩
theorem tw10178193914117334121:True:=⟨⟩
theorem tw17393532084328146761:True:=⟨⟩
theorem tw11041548336976718241:True:=⟨⟩
theorem tw15845901868889825761:True:=⟨⟩
theorem tw6728176909280895094:True:=⟨⟩
theorem tw15719114149657791614:True:=⟨⟩
theorem tw12380321713107904540:True:=⟨⟩
theorem tw12876546118027554042:True:=⟨⟩
theorem tw2051157670507992317:True:=⟨⟩
theorem tw7587449498667667142:True:=⟨⟩
theorem tw9746759453462875289:True:=⟨⟩
theorem tw16585919268594374363:True:=⟨⟩
theorem tw8704911370745800734:True:=⟨⟩
theorem tw14148186950283108178:True:=⟨⟩
theorem tw10903388444688040840:True:=⟨⟩
theorem tw10389079244320543401:True:=⟨⟩
theorem tw8463834505252364387:True:=⟨⟩
theorem tw118931461729759360:True:=⟨⟩
theorem tw847962572081965117:True:=⟨⟩
theorem tw16339078915583260540:True:=⟨⟩
theorem tw5490145263686582865:True:=⟨⟩
theorem tw12835407049956065286:True:=⟨⟩
theorem tw13252367302339033039:True:=⟨⟩
theorem tw4110375655567429688:True:=⟨⟩
theorem tw2945345790777155627:True:=⟨⟩
theorem tw10940928406816007206:True:=⟨⟩
theorem tw17506603889995039435:True:=⟨⟩
theorem tw820926651514826390:True:=⟨⟩
theorem tw7185791137203414646:True:=⟨⟩
theorem tw14956581333113304124:True:=⟨⟩
theorem tw6102070856492328678:True:=⟨⟩
theorem tw875265470535558641:True:=⟨⟩
theorem tw15254614622503624473:True:=⟨⟩
theorem tw18294829530674640801:True:=⟨⟩
theorem tw18193828612201721113:True:=⟨⟩
theorem tw6655734101214220282:True:=⟨⟩
theorem tw17213509344276717929:True:=⟨⟩
theorem tw6656630663144532883:True:=⟨⟩
theorem tw16443812538058805421:True:=⟨⟩
theorem tw11133846258873574000:True:=⟨⟩
theorem tw16759565863169007099:True:=⟨⟩
theorem tw14746641862861891609:True:=⟨⟩
theorem tw139198425094563598:True:=⟨⟩
theorem tw13620116170209627136:True:=⟨⟩
theorem tw4606669987980719821:True:=⟨⟩
theorem tw5008197851240578405:True:=⟨⟩
theorem tw6912084534402051864:True:=⟨⟩
theorem tw17388376081374511133:True:=⟨⟩
theorem tw8951854540863156270:True:=⟨⟩
theorem tw16945977936794679097:True:=⟨⟩
theorem tw15122805024383419977:True:=⟨⟩
theorem tw14615143689887732075:True:=⟨⟩
theorem tw8196897903057558727:True:=⟨⟩
theorem tw8361301216506390301:True:=⟨⟩
theorem tw14319831951875084405:True:=⟨⟩
theorem tw14557187167848972176:True:=⟨⟩
theorem tw12877660437336321032:True:=⟨⟩
theorem tw9230808593840767438:True:=⟨⟩
theorem tw17808636649897493145:True:=⟨⟩
theorem tw4141776234618294459:True:=⟨⟩
theorem tw6708872596296565014:True:=⟨⟩
theorem tw1948498385544367670:True:=⟨⟩
theorem tw8754667326780953205:True:=⟨⟩
theorem tw16487502982550695960:True:=⟨⟩
theorem tw13925412214402648767:True:=⟨⟩
theorem tw11534606937433707660:True:=⟨⟩
theorem tw374630930595683753:True:=⟨⟩
theorem tw7627462074527831657:True:=⟨⟩
theorem tw11981352415824430994:True:=⟨⟩
theorem tw18069184601637175343:True:=⟨⟩
theorem tw9381205259753755683:True:=⟨⟩
theorem tw9024743287601801267:True:=⟨⟩
theorem tw18141413802569328404:True:=⟨⟩
theorem tw5645222527642638145:True:=⟨⟩
theorem tw16896282349286414549:True:=⟨⟩
theorem tw2728147126620539041:True:=⟨⟩
theorem tw8229520875993695194:True:=⟨⟩
theorem tw2905281858476127258:True:=⟨⟩
theorem tw14419090119011436815:True:=⟨⟩
theorem tw235670835388710874:True:=⟨⟩
theorem tw9834896499131544394:True:=⟨⟩
theorem tw528280993391737787:True:=⟨⟩
theorem tw10779253706541054184:True:=⟨⟩
theorem tw4857292241960984092:True:=⟨⟩
theorem tw3610091649820330637:True:=⟨⟩
theorem tw6433343808568942053:True:=⟨⟩
theorem tw5246262573243655848:True:=⟨⟩
theorem tw4723302633202959549:True:=⟨⟩
theorem tw6179866852878279871:True:=⟨⟩
theorem tw15815895426765164752:True:=⟨⟩
theorem tw17705480402783877785:True:=⟨⟩
theorem tw15081115117057441676:True:=⟨⟩
theorem tw9269280018607354258:True:=⟨⟩
theorem tw3511849001251509885:True:=⟨⟩
theorem tw139759173726781319:True:=⟨⟩
theorem tw3747081292550539684:True:=⟨⟩
theorem tw17458506631723885811:True:=⟨⟩
theorem tw17007901795741881299:True:=⟨⟩
theorem tw11019436280968751800:True:=⟨⟩
theorem tw3859190230782242871:True:=⟨⟩
theorem tw16941409219290238092:True:=⟨⟩
theorem tw7601690173080432757:True:=⟨⟩
theorem tw7831318656767109553:True:=⟨⟩
theorem tw9185269956705100895:True:=⟨⟩
theorem tw6960703133381155861:True:=⟨⟩
theorem tw9917923059810011822:True:=⟨⟩
theorem tw9683444611840628985:True:=⟨⟩
theorem tw94826651355496050:True:=⟨⟩
theorem tw914054355542063064:True:=⟨⟩
theorem tw8970156660661695787:True:=⟨⟩
theorem tw8950644526100594846:True:=⟨⟩
theorem tw8521961738754221151:True:=⟨⟩
theorem tw8255317016160549873:True:=⟨⟩
theorem tw8007853149928084448:True:=⟨⟩
theorem tw7371424749268528893:True:=⟨⟩
theorem tw711788482764008183:True:=⟨⟩
theorem tw6912141224960974412:True:=⟨⟩
theorem tw6578547229151387436:True:=⟨⟩
theorem tw6429478320168569928:True:=⟨⟩
theorem tw6341359822923576858:True:=⟨⟩
theorem tw6097128785232315976:True:=⟨⟩
theorem tw6036160100691198218:True:=⟨⟩
theorem tw6034465074539490864:True:=⟨⟩
theorem tw5989635007160976252:True:=⟨⟩
theorem tw5961279340319645151:True:=⟨⟩
theorem tw5874153649519274038:True:=⟨⟩
theorem tw5734946682623636464:True:=⟨⟩
theorem tw5504281315999798231:True:=⟨⟩
theorem tw5391497890625900520:True:=⟨⟩
theorem tw5320236942390588485:True:=⟨⟩
theorem tw508717658352101179:True:=⟨⟩
theorem tw5023681136609075452:True:=⟨⟩
theorem tw4319622278550634221:True:=⟨⟩
theorem tw4029836896969106647:True:=⟨⟩
theorem tw3831032833270194112:True:=⟨⟩
theorem tw382186262024355375:True:=⟨⟩
theorem tw3631775836707050419:True:=⟨⟩
theorem tw3584278940333550652:True:=⟨⟩
theorem tw3352671582842410128:True:=⟨⟩
theorem tw3150130173396797258:True:=⟨⟩
theorem tw3073052868044625457:True:=⟨⟩
theorem tw2979127736531141173:True:=⟨⟩
theorem tw2899571617658157615:True:=⟨⟩
theorem tw2401877231352289550:True:=⟨⟩
theorem tw2336116602044254598:True:=⟨⟩
theorem tw205988321229669860:True:=⟨⟩
theorem tw18392529799500499453:True:=⟨⟩
theorem tw18206236949637037361:True:=⟨⟩
theorem tw17714277312257470183:True:=⟨⟩
theorem tw17696995259496593302:True:=⟨⟩
theorem tw17692668519417452168:True:=⟨⟩
theorem tw17653724727911437178:True:=⟨⟩
theorem tw17435011283811729937:True:=⟨⟩
theorem tw16906342246490091171:True:=⟨⟩
theorem tw16885819140681435126:True:=⟨⟩
theorem tw16600171883128636811:True:=⟨⟩
theorem tw16589781893221093907:True:=⟨⟩
theorem tw16259589145029156649:True:=⟨⟩
theorem tw16108495435689691496:True:=⟨⟩
theorem tw15921114515659052659:True:=⟨⟩
theorem tw15410297407401539921:True:=⟨⟩
theorem tw1424534480287704482:True:=⟨⟩
theorem tw14130125768961257847:True:=⟨⟩
theorem tw12875839224301561142:True:=⟨⟩
theorem tw12841355035198045825:True:=⟨⟩
theorem tw12711801604797820424:True:=⟨⟩
theorem tw12394789110228543374:True:=⟨⟩
theorem tw12391995659661735357:True:=⟨⟩
theorem tw11729833591604732528:True:=⟨⟩
theorem tw11345517136546752782:True:=⟨⟩
theorem tw11082858738726748519:True:=⟨⟩
theorem tw10992010578931726529:True:=⟨⟩
theorem tw10972109125692104826:True:=⟨⟩
theorem tw1038158521706063163:True:=⟨⟩
theorem tw1028488816483264774:True:=⟨⟩
end PySem.W.Fast
open PySem PySem.W PyProof.Rows
set_option maxRecDepth 100000 in
set_option maxHeartbeats 0 in
theorem PySem.Challenge.cw_laidcells_k12_claims_hold_holds : PySem.Challenge.rw_laidcells_k12_claims_hold.Holds := by
 w_on;o_law;k_head;(case hw=>w_witness2)
 k_fill
 refine Lw.walk (l:=PySem.Challenge.rw_laidcells_k12_claims_hold) rfl rfl (fun w h Y=>PySem.W.kIn_of Y) ?F
 case F =>
  intro w mg fa h KX G hmg;refine' Lw.all_mk KX G hmg ?_ ?_ ?_ ?_ ?_ ?_ ?_ ?_ ?_ ?_ ?_ ?_ ?_ ?_ ?_ ?_ ?_ ?_ ?_ ?_ ?_ ?_ ?_ ?_ ?_ ?_ ?_ ?_ ?_ ?_ ?_ ?_ ?_ ?_ ?_ ?_ ?_ ?_ ?_ ?_ ?_ ?_ ?_ ?_ ?_ ?_ ?_ ?_ ?_ ?_ ?_ ?_ ?_ ?_ ?_ ?_ ?_ ?_ ?_ ?_ ?_ ?_ ?_ ?_
  all_goals try refine' Lw.df_mk ?_ ?_ ?_ ?_
  all_goals try unfold Lw.NZ
  all_goals try first | k_is | (dsimp only;k_is)
