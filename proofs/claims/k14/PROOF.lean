import PyProof.Rows.All
import Wide.All
import OpenK.AllK
import Wide.FinOn
import Lean
import PyProof.EqAt
import PyProof.EqKinds
import PyProof.TupleCall
import PyProof.StationsW
import PyProof.Commute
import PyProof.ExcClass3
import PyProof.ExcInit
import OpenK.KCls
import OpenK.KMake
import PyProof.ExcArgsOwn
import PyProof.InstStoreFacts
import PyProof.MaxThree
import KE.KMinKey
import KE.KIntText
import PyProof.DictUpdate
import PyProof.Draws
import PyProof.EnumMake
import PyProof.DictIter
import KE.KDictSum
import KE.KRevSl
import PyProof.Rows.SortStr
import PyProof.Rows.SortWalk
import PyProof.DictValues
import PyProof.DictWalks
import PyProof.MeetsDictList
import KE.KSortTup
import PySem.Challenge.RW_laidcells_k14_row_papers_looked_at
set_option Elab.async false
set_option linter.all false
set_option maxRecDepth 100000
set_option maxHeartbeats 20000000
noncomputable section
abbrev mC:=PySem.W.Frag
abbrev aA:=@List.length_map
abbrev aB:=@PySem.wpAny_bind
abbrev aE:=@PySem.Heap.get?_push_of_some
abbrev aF:=@PySem.wpAny_pure
abbrev aG:=@List.getElem?_eq_getElem
abbrev aH:=@List.length_append
abbrev aI:=@List.mem_of_getElem?
abbrev aJ:=@List.map_append
abbrev aK:=@List.mem_cons_self
abbrev aL:=@List.mem_cons
abbrev aM:=@if_neg
abbrev aN:=@List.mem_append_right
abbrev aO:=@List.map_cons
abbrev aP:=@if_pos
abbrev aQ:=@List.map_map
abbrev aR:=@List.mem_append
abbrev aT:=@List.mem_cons_of_mem
abbrev aU:=@List.getElem?_eq_some_iff
abbrev aV:=@List.mem_map
abbrev aW:=@List.size_toArray
abbrev aX:=@List.getElem?_map
abbrev aY:=@PySem.Heap.lt_size
abbrev aZ:=@Nat.le_refl
abbrev bA:=@List.mem_singleton
abbrev bB:=@PySem.Heap.get?_push_size
abbrev bC:=@List.mem_append_left
abbrev bD:=@decide_eq_false
abbrev bE:=@decide_eq_true
abbrev bF:=@Bool.false_ne_true
abbrev bG:=@PySem.F.plainAttrs_list
abbrev bH:=@List.not_mem_nil
abbrev bI:=@Nat.lt_of_lt_of_le
abbrev bJ:=@List.append_assoc
abbrev bK:=@List.nodup_append
abbrev bL:=@Nat.ne_of_lt
abbrev bM:=@PySem.PassesOwn.never
abbrev bN:=@PySem.F.slot_list_append
abbrev bO:=@PySem.F.type_list_append
abbrev bP:=@PySem.boot_len
abbrev bQ:=@List.length_take
abbrev bR:=@List.take_of_length_le
abbrev bS:=@List.take_add_one
abbrev bT:=@List.length_set
abbrev bU:=@PyProof.Rows.boot_tuple
abbrev bV:=@PySem.wpAny_holding
abbrev bW:=@List.length_singleton
abbrev bX:=@List.length_cons
abbrev bY:=@Nat.le_trans
abbrev bZ:=@PySem.W.mg_none_of
abbrev cA:=@Option.some.inj
abbrev cB:=@of_decide_eq_true
abbrev cC:=@Int.toNat_natCast
abbrev cD:=@List.length_filter_le
abbrev cE:=@Bool.and_eq_true
abbrev cF:=@Option.map_eq_some_iff
abbrev cG:=@List.all_eq_true
abbrev cH:=@List.nodup_cons
abbrev cI:=@List.take_length
abbrev cJ:=@PySem.wpAny_callSpecial?_slot
abbrev cK:=@Array.getElem?_eq_getElem
abbrev cL:=@PySem.wpAny_mono
abbrev cM:=@Nat.lt_of_le_of_lt
abbrev cN:=@List.zip_cons_cons
abbrev cO:=@Nat.zero_le
abbrev cP:=@beq_eq_false_iff_ne
abbrev cQ:=@List.replicate_succ
abbrev cR:=@Option.isSome_iff_exists
abbrev cS:=@List.cons_append
abbrev cT:=@List.mem_filter
abbrev cU:=@List.length_range
abbrev cV:=@congrArg
abbrev cW:=@List.length_drop
abbrev cX:=@PySem.wpAny_call_entry
abbrev cY:=@List.find?_cons
abbrev cZ:=@PyProof.Rows.boot_dict
abbrev dB:=@PyProof.Rows.slot_tuple_getitem
abbrev dD:=@List.length_replicate
abbrev dF:=@List.getElem?_append_right
abbrev dJ:=@List.lookup_cons
abbrev dL:=@Int.eq_ofNat_of_zero_le
abbrev dN:=@Int.emod_lt_of_pos
abbrev dO:=@List.append_nil
abbrev dP:=@PySem.Heap.size_push
abbrev dQ:=@List.getElem_mem
abbrev dR:=@PySem.wpAny_isInstance
abbrev dU:=@PySem.mem_of_lookup
abbrev dX:=@Array.getElem?_toList
abbrev dY:=@PyProof.Rows.callWith_type1
abbrev dZ:=@decide_eq_true_eq
abbrev eC:=@Ne.symm
abbrev eD:=@List.mem_range
abbrev eF:=@PySem.Around.under_plainId
abbrev eI:=@Bool.false_eq_true
abbrev eJ:=@PySem.W.kia_one
abbrev eK:=@List.cons.inj
abbrev eL:=@Nat.le_of_lt
abbrev eM:=@PySem.wpAny_typeOf
abbrev eO:=@List.any_eq_true
abbrev eP:=@List.map_congr_left
abbrev eQ:=@PySem.wpAny_field
abbrev eR:=@PyProof.Rows.boot_int
abbrev eS:=@List.nodup_nil
abbrev eT:=@Int.emod_nonneg
abbrev eU:=@PySem.F.slot_dict_keyiterator_next
abbrev eV:=@List.getElem?_set_ne
abbrev eW:=@List.perm_middle
abbrev eX:=@PySem.Paired.length
abbrev eY:=@List.any_cons
abbrev eZ:=@PySem.wpAny_newObj_type
abbrev fF:=@List.flatten_cons
abbrev fH:=@PySem.wpAny_seqItems
abbrev fJ:=@Array.length_toList
abbrev fQ:=@List.mem_map_of_mem
abbrev fU:=@List.of_mem_zip
abbrev fV:=@PySem.codeAny_builtin
abbrev fY:=@or_false
abbrev fZ:=@List.getElem?_eq_none
abbrev gA:=@List.Perm.append_left
abbrev gB:=@List.take_append_drop
abbrev gC:=@List.eq_nil_iff_forall_not_mem
abbrev gD:=@Nat.lt_irrefl
abbrev gE:=@PySem.wpAny_attempt
abbrev gF:=@PySem.wpAny_truthy_bool
abbrev gG:=@PySem.wpAny_pyIter_list
abbrev gI:=@List.nil_append
abbrev gJ:=@List.length_nil
abbrev gL:=@PySem.F.slot_zip_next
abbrev gO:=@List.getElem_of_mem
abbrev gQ:=@PyProof.Rows.F.plain_set_update_loop
abbrev gR:=@PySem.Heap.SameBut.update
abbrev gS:=@Array.getElem?_eq_none
abbrev gU:=@Nat.le_add_right
abbrev gW:=@PySem.wpAny_Call_Name_kw
abbrev gX:=@if_false
abbrev gY:=@PySem.F.slot_tuple_iterator_next
abbrev gZ:=@PySem.F.slot_list_pop
abbrev hJ:=@PySem.F.type_list_pop
abbrev hU:=@PyProof.Rows.boot_all
abbrev hV:=@List.getElem?_append_left
abbrev hX:=@List.mem_of_find?_eq_some
abbrev hZ:=@PySem.wpAny_passesOwn
abbrev iA:=@List.cons.injEq
abbrev iB:=@List.length_zip
abbrev iC:=@Nat.ne_of_gt
abbrev iD:=@if_true
abbrev iE:=@Nat.le_succ
abbrev iF:=@Function.comp_def
abbrev iG:=@List.set_eq_of_length_le
abbrev iH:=@List.length_reverse
abbrev iJ:=@List.flatten_append
abbrev iK:=@beq_self_eq_true
abbrev iL:=@Sum.inr.inj
abbrev iM:=@PySem.wpAny_of_eq
abbrev iN:=@PySem.call_meets
abbrev iP:=@PySem.tupleKind_room_in1
abbrev iQ:=@PySem.F.slot_str_split
abbrev iR:=@PySem.wpAny_setField_rec
abbrev iS:=@Bool.eq_iff_iff
abbrev iT:=@PySem.plainId_quiet
abbrev iU:=@Int.add_assoc
abbrev iW:=@List.perm_append_comm
abbrev iX:=@PyProof.Rows.boot_sum
abbrev iY:=@PyProof.Rows.boot_min
abbrev iZ:=@List.ext_getElem?
abbrev jA:=@Int.fdiv_eq_ediv_of_nonneg
abbrev jB:=@beq_iff_eq
abbrev jC:=@Bool.and_eq_true_iff
abbrev jD:=@List.filterMap_cons
abbrev jE:=@PyProof.Rows.F.entry_set_update_loop
abbrev jF:=@List.getElem?_take_of_lt
abbrev jG:=@PySem.F.args_tuple_add_2
abbrev jH:=@PySem.F.slot_list_getattribute
abbrev jI:=@PySem.F.args_str_split_2
abbrev jJ:=@List.sum_cons
abbrev jK:=@PyProof.Rows.boot_sorted
abbrev jL:=@List.foldl_cons
abbrev jM:=@List.zip_append
abbrev jN:=@Option.map_some
abbrev jO:=@PySem.Calls.spliced_cons
abbrev jP:=@PySem.sub_AttributeError
abbrev jQ:=@PySem.Obj.data_mapFields
abbrev jR:=@PySem.F.entry_tuple_add
abbrev jS:=@PySem.F.plainAttrs_dict
abbrev jT:=@PySem.F.slot_list_index
abbrev jU:=@PySem.F.entry_str_split
abbrev jV:=@PySem.F.slot_zip_getattribute
abbrev jW:=@List.eraseIdx_cons_succ
abbrev jX:=@PySem.F.slot_tuple_add
abbrev jY:=@List.reverse_cons
abbrev jZ:=@List.map_nil
abbrev kA:=@List.all_map
abbrev kB:=@PyProof.Rows.boot_list
abbrev kC:=@PySem.F.args_zip_next_1
abbrev kE:=@List.getElem_cons_drop
abbrev kF:=@PySem.Heap.get?_update_self
abbrev kJ:=@PySem.F.slot_dict_get
abbrev kK:=@PySem.wpAny_notOrdered_dict
abbrev kL:=@PySem.F.entry_zip_next
abbrev kM:=@PySem.sizeLine_eq
abbrev kQ:=@PySem.F.kt_typeCall_dict_1
abbrev kR:=@List.mem_of_mem_take
abbrev kS:=@PySem.wpAny_pyIter_keyiter
abbrev kT:=@Nat.pow_le_pow_right
abbrev kU:=@PySem.wpAny_execs_nil
abbrev kW:=@List.forIn_cons
abbrev kX:=@List.map_const'
abbrev kY:=@ne_true_of_eq_false
abbrev kZ:=@Nat.lt_trans
abbrev lB:=@Int.zero_add
abbrev lC:=@List.mem_filterMap
abbrev lF:=@PySem.typeIs_str
abbrev lG:=@Option.isSome_some
abbrev lH:=@List.drop_zero
abbrev lI:=@PySem.wpAny_rule
abbrev lJ:=@PySem.F.args_dict_init_2
abbrev lK:=@List.getElem_range
abbrev lL:=@PySem.wpAny_setField
abbrev lM:=@List.set_cons_succ
abbrev lN:=@List.any_eq_false
abbrev lO:=@List.take_sublist
abbrev lP:=@Option.isSome_map
abbrev lQ:=@Option.some.injEq
abbrev lS:=@PySem.wpAny_standAt
abbrev lT:=@List.all_cons
abbrev lU:=@Array.toList_inj
abbrev lV:=@Nat.le_of_eq
abbrev lW:=@Int.ediv_nonneg
abbrev lX:=@Bool.or_eq_true
abbrev lY:=@Nat.le_antisymm
abbrev lZ:=@List.range_succ
abbrev mB:=@List.find?_some
namespace L2
open PySem PySem.Spec PyProof.Rows
abbrev hI:=Sum Int Str
def yL:hI->Value->Bool
 | .inl k,v=>Value.isInt k v
 | .inr x,v=>Value.isStrOf x v
def Z9 (w:World):hI->Int
 | .inl k=>hashInt k
 | .inr x=>hashStr w x
theorem wY:∀ {k:hI}{v:Value},yL k v=true->(∃ i t,k=Sum.inl i/\v=Value.int i t)\/(∃ x t,k=Sum.inr x/\v=Value.str x t)
 | .inl i,v,h=>by
  obtain⟨t,e⟩:=Value.isInt_shape (k:=i) (v:=v) h;exact .inl ⟨i,t,rfl,e⟩
 | .inr x,v,h=>by
  obtain⟨t,e⟩:=Value.isStrOf_shape (x:=x) (v:=v) h;exact .inr ⟨x,t,rfl,e⟩
theorem MG (i:Int) (t:Tok):yL (.inl i) (.int i t)=true:=by simp[yL,Value.isInt]
theorem Xg (x:Str) (t:Tok):yL (.inr x) (.str x t)=true:=by simp[yL,Value.isStrOf]
theorem FC (a b:Int):decide ((Sum.inl a:hI)=Sum.inl b)=(a == b):=by
 by_cases e:a=b
 ·subst e;simp
 ·have h:¬ (Sum.inl a:hI)=Sum.inl b:=λq=>e (Sum.inl.inj q)
  rw[bD h];exact (cP.mpr e).symm
theorem X3 (a b:Str):decide ((Sum.inr a:hI)=Sum.inr b)=decide (a=b):=by
 by_cases e:a=b
 ·subst e;simp
 ·have h:¬ (Sum.inr a:hI)=Sum.inr b:=λq=>e (iL q)
  rw[bD h,bD e]
theorem NC (a:Int) (b:Str):decide ((Sum.inl a:hI)=Sum.inr b)=false:=bD (λq=>nomatch q)
theorem DJ (a:Str) (b:Int):decide ((Sum.inr a:hI)=Sum.inl b)=false:=bD (λq=>nomatch q)
def qC (prog:Program) (w:World):PySem.KeyKind prog w hI where
 is:=yL
 hash:=Z9 w
 inj:=λv a b ha hb=>by
  rcases wY ha with⟨i,t,rfl,rfl⟩ | ⟨x,t,rfl,rfl⟩
  ·rcases wY hb with⟨j,u,rfl,e⟩ | ⟨y,u,rfl,e⟩
   ·injection e with e1 _;rw[e1]
   ·exact nomatch e
  ·rcases wY hb with⟨j,u,rfl,e⟩ | ⟨y,u,rfl,e⟩
   ·exact nomatch e
   ·injection e with e1 _;rw[e1]
 byValue:=λk v h=>by
  rcases wY h with⟨i,t,rfl,rfl⟩ | ⟨x,t,rfl,rfl⟩<;>rfl
 pyHash:=λhv h=>by
  rcases wY hv with⟨i,t,rfl,rfl⟩ | ⟨x,t,rfl,rfl⟩
  ·exact wpAny_pyHash_int h
  ·exact wpAny_pyHash_str h
 eqBool:=λhu hv h=>by
  rcases wY hu with⟨i,t,rfl,rfl⟩ | ⟨x,t,rfl,rfl⟩
  ·rcases wY hv with⟨j,u,rfl,rfl⟩ | ⟨y,u,rfl,rfl⟩
   ·rw[FC] at h;exact wpAny_eqBool_int h
   ·rw[NC] at h;exact SeqAt.EqAt.int_str i t y u _ _ _ _ h
  ·rcases wY hv with⟨j,u,rfl,rfl⟩ | ⟨y,u,rfl,rfl⟩
   ·rw[DJ] at h;exact SeqAt.EqAt.str_int x t j u _ _ _ _ h
   ·rw[X3] at h;exact wpAny_eqBool_str h
 «strs»:=λk x t v h=>by
  rcases wY h with⟨i,u,rfl,e⟩ | ⟨y,u,rfl,e⟩
  ·exact nomatch e
  ·injection e with e1 _;subst e1;cases v<;>rfl
theorem Zk (prog:Program) (w:World) (i:Int) (t:Tok):(qC prog w).is (.inl i) (.int i t)=true:=MG i t
theorem ME (prog:Program) (w:World) (x:Str) (t:Tok):(qC prog w).is (.inr x) (.str x t)=true:=Xg x t
inductive V where
 | non | bl (b:Bool) | int (i:Int) | str (x:Str) | byt (b:Array UInt8) | flt (b:UInt64) | ref (a:Addr) | ty (n:String)
 deriving DecidableEq
def nB:V->Value->Prop
 | .non,u=>u=Value.none
 | .bl b,u=>u=Value.bool b
 | .int i,u=>∃ t,u=Value.int i t
 | .str x,u=>∃ t,u=Value.str x t
 | .byt b,u=>∃ t,u=Value.bytes b t
 | .flt b,u=>∃ t,u=Value.float b t
 | .ref a,u=>u=Value.ref a
 | .ty n,u=>u=Value.type n
abbrev mX:List V->List Value->Prop:=Paired nB
theorem mX.length (r:mX xs us):xs.length=us.length:=eX r
theorem mX.get:∀ {xs:List V}{us:List Value}{i:Nat}{x:V},mX xs us->xs[i]?=some x->∃ u,us[i]?=some u/\nB x u
 | _,_,_,_,.nil,e=>by simp at e
 | _,_,0,_,.cons r _,e=>by simp at e;subst e;exact⟨_,rfl,r⟩
 | _,_,i+1,x,.cons _ t,e=>by
  obtain⟨u,b,a⟩:=mX.get (i:=i) (x:=x) t (by simpa using e);exact⟨u,by simpa using b,a⟩
theorem mX.set (r:nB x u):∀ {xs:List V}{us:List Value}(i:Nat),mX xs us->mX (xs.set i x) (us.set i u)
 | _,_,_,.nil=>.nil
 | _,_,0,.cons _ t=>.cons r t
 | _,_,i+1,.cons q t=>.cons q (mX.set r i t)
theorem mX.append:∀ {xs ys:List V}{us ws:List Value},mX xs us->mX ys ws->mX (xs++ys) (us++ws)
 | _,_,_,_,.nil,s=>s
 | _,_,_,_,.cons r t,s=>.cons r (mX.append t s)
theorem mX.take:∀ {xs:List V}{us:List Value}(n:Nat),mX xs us->mX (xs.take n) (us.take n)
 | _,_,0,_=>.nil
 | _,_,_+1,.nil=>.nil
 | _,_,n+1,.cons r t=>.cons r (mX.take n t)
theorem mX.drop:∀ {xs:List V}{us:List Value}(n:Nat),mX xs us->mX (xs.drop n) (us.drop n)
 | _,_,0,r=>r
 | _,_,_+1,.nil=>.nil
 | _,_,n+1,.cons _ t=>mX.drop n t
def uV:Option V->Option Value->Prop
 | some v,some u=>nB v u
 | none,none=>True
 | _,_=>False
def KV {κ:Type}:List (κ×V)->List (κ×Value)->Prop:=Paired λ(p:κ×V) (q:κ×Value)=>p.1=q.1/\nB p.2 q.2
def kV:hI->V
 | .inl i=>.int i
 | .inr x=>.str x
inductive HO where
 | lst (xs:List V)
 | tup (xs:List V)
 | dK (kvs:List (hI×V)) | dT (kvs:List (List hI×V))
 | set (S:Int->Bool) (n:Nat)
 | ins (C dx:Addr) (fs:List (Str×V))
 | own (x:Addr)
 | xd (fs:List (Str×V))
 | met (f x:Addr)
 | rng (lo hi:Int)
 | frz (o:Obj) (u:HO)
 | tbl (ps:Array Value)
 | ext (φ:Heap->Prop)
abbrev Hp:=Addr->Option HO
def upd (H:Hp) (a:Addr) (o:HO):Hp:=λb=>if b=a then some o else H b
theorem mT:upd H a o a=some o:=by unfold upd;rw[if_pos rfl]
theorem mO (h:b≠a):upd H a o b=H b:=by unfold upd;rw[if_neg h]
theorem MP:upd (upd H a o) a u=upd H a u:=by
 funext b;unfold upd;split<;>rfl
theorem Z7 {H:Hp}{a b:Addr}{o u:HO}(h:H a=some o) (h':H b=some u) (d:o≠u):a≠b:=by
 intro e;subst e;rw[h] at h';exact d (cA h')
theorem nO {H:Hp}{a b:Addr}{o:HO}(h:H a=some o) (h':H b=none):a≠b:=by
 intro e;subst e;rw[h] at h';cases h'
section
variable (P:Program) (w:World)
def yE (h:Heap) (a:Addr) (items:Array Value):Prop:=IsTup h a items/\∃ o,h.get? a=some o/\o.dict=none
theorem yE.new (h:Heap) (items:Array Value):yE (h.push { cls:=.type "tuple",data:=.seq items }) h.objs.size items:=⟨IsTup.new _ _,_,bB _ rfl,rfl⟩
def oI (H:Hp) (h:Heap) (a:Addr):HO->Prop
 | .lst xs=>xs.length<=sizeLine/\∃ (its:List Value) (n:Nat),mX xs its/\h.get? a=some { cls:=.type "list",data:=.seq its.toArray n }
 | .tup xs=>xs.length<=sizeLine/\∃ its:List Value,mX xs its/\yE h a its.toArray
 | .dK kvs=>kvs.length<=sizeLine/\(a == sysModules)=false/\∃ vs,KV kvs vs/\h.DictOf (qC P w) a vs
 | .dT kvs=>kvs.length<=sizeLine/\(a == sysModules)=false/\∃ xs:List (List hI×Addr×Value),
   Paired (λ(p:List hI×V) (q:List hI×Addr×Value)=>p.1=q.1/\H q.2.1=some (.tup (p.1.map kV))/\nB p.2 q.2.2) kvs xs /\
   ∃ o es ep,h.get? a=some o/\o.ExactDict/\o.data = .dict es ep/\es.toList=xs.map (entryOfKey (tupleKind (qC P w)))/\(xs.map (·.1)).Nodup
 | .set S n=>h.SetOf (intKind P w) a S n
 | .ins C dx fs=>H dx=some (.own a)/\fs.length<=1000/\dx≠a/\h.get? a=some (PySem.W.instObj C dx) /\
   ∃ mA,h.Ns1 dx mA/\(∀ f,uV (fs.lookup f) (mA f))/\PySem.Within mA (fs.map (·.1))
 | .own _=>∃ o,h.get? a=some o
 | .xd fs=>∃ mA,h.Ns1 a mA/\∀ f,uV (fs.lookup f) (mA f)
 | .rng lo hi=>∃ t u v,h.get? a=some { cls:=.type "range",data:=.fields #[.int lo t,.int hi u,.int 1 v] }
 | .frz o u=>h.get? a=some o/\oI H h a u
 | .tbl ps=>h.get? a=some { cls:=.none,data:=.fields ps }
 | .met f x=>h.get? a=some (PySem.W.methodObj (.ref f) (.ref x))
 | .ext φ=>φ h/\(∃ o,h.get? a=some o)/\∀ h1 h2:Heap,φ h1->(∀ o,h1.get? a=some o->h2.get? a=some o)->φ h2
def oN (H:Hp) (h:Heap):Prop:=∀ a o,H a=some o->oI P w H h a o
end
section
variable {P:Program}
theorem oI.lt (x:oI P w H h a o):a<h.objs.size:=by
 cases o with
 | lst c=>obtain⟨_,_,_,_,e⟩:=x;exact aY e
 | tup c=>obtain⟨_,_,_,p,_⟩:=x;exact p.lt
 | dK b=>obtain⟨_,_,_,_,o,_,_,e,_⟩:=x;exact aY e
 | dT b=>obtain⟨_,_,_,_,o,_,_,e,_⟩:=x;exact aY e
 | set S n=>obtain⟨o,_,_,_,e,_⟩:=x;exact aY e
 | ins C k fs=>obtain⟨_,_,_,e,_⟩:=x;exact aY e
 | own y=>obtain⟨_,e⟩:=x;exact aY e
 | xd fs=>obtain⟨_,⟨_,_,_,e,_⟩,_⟩:=x;exact aY e
 | rng lo j=>obtain⟨_,_,_,e⟩:=x;exact aY e
 | frz i u=>obtain⟨e,_⟩:=x;exact aY e
 | tbl g=>exact aY (show h.get? a=some _ from x)
 | met f y=>exact aY (show h.get? a=some _ from x)
 | ext d=>obtain⟨_,⟨_,e⟩,_⟩:=x;exact aY e
theorem Paired.mapP {F:α->β->Prop}:∀ {l₁:List α}{l₂:List β},Paired F l₁ l₂->(∀ a b,F a b->G a b)->Paired G l₁ l₂
 | _,_,.nil,_=>.nil
 | _,_,.cons r t,f=>.cons (f _ _ r) (Paired.mapP t f)
theorem oI.stay (x:oI P w H h a o) (k:∀ b u,(b=a\/H b=some (.own a))->h.get? b=some u->h'.get? b=some u)
  (ho:∀ b,H b=some (.own a)->H' b=some (.own a)) (ht:∀ b xs,H b=some (.tup xs)->H' b=some (.tup xs)):oI P w H' h' a o:=by
 induction o with
 | lst xs=>obtain⟨z,l,n,r,e⟩:=x;exact⟨z,l,n,r,k _ _ (.inl rfl) e⟩
 | tup xs=>obtain⟨z,l,r,⟨g,e,c⟩,M,F,O⟩:=x;exact⟨z,l,r,⟨g,k _ _ (.inl rfl) e,c⟩,M,k _ _ (.inl rfl) F,O⟩
 | dK E=>obtain⟨z,y,L,r,g,i,j,e,c⟩:=x;exact⟨z,y,L,r,g,i,j,k _ _ (.inl rfl) e,c⟩
 | dT E =>
  obtain⟨z,y,xs,r,g,i,j,e,c⟩:=x;exact⟨z,y,xs,Paired.mapP r λp q z=>⟨z.1,ht _ _ z.2.1,z.2.2⟩,g,i,j,k _ _ (.inl rfl) e,c⟩
 | set S n=>obtain⟨g,i,j,t,e,c⟩:=x;exact⟨g,i,j,t,k _ _ (.inl rfl) e,c⟩
 | ins C U fs =>
  obtain⟨d,z,ne,e,B,⟨m,i,j,F,c⟩,r⟩:=x;exact⟨ho _ d,z,ne,k _ _ (.inl rfl) e,B,⟨m,i,j,k _ _ (.inr d) F,c⟩,r⟩
 | own y=>obtain⟨g,e⟩:=x;exact⟨g,k _ _ (.inl rfl) e⟩
 | xd fs=>obtain⟨B,⟨m,i,j,e,c⟩,r⟩:=x;exact⟨B,⟨m,i,j,k _ _ (.inl rfl) e,c⟩,r⟩
 | rng lo T=>obtain⟨t,u,v,e⟩:=x;exact⟨t,u,v,k _ _ (.inl rfl) e⟩
 | frz g u N=>obtain⟨e,q⟩:=x;exact⟨k _ _ (.inl rfl) e,N q⟩
 | tbl I =>
  have e:h.get? a=some { cls:=.none,data:=.fields I }:=x;show h'.get? a=some { cls:=.none,data:=.fields I };exact k a _ (.inl rfl) e
 | met f y =>
  have e:h.get? a=some (PySem.W.methodObj (.ref f) (.ref y)):=x;show h'.get? a=some (PySem.W.methodObj (.ref f) (.ref y));exact k a _ (.inl rfl) e
 | ext Q=>obtain⟨p,⟨o,e⟩,st⟩:=x;exact⟨st _ _ p λo q=>k _ _ (.inl rfl) q,⟨o,k _ _ (.inl rfl) e⟩,st⟩
theorem oN.lt (x:oN P w H h) (e:H a=some o):a<h.objs.size:=(x a o e).lt
theorem oN.fresh (x:oN P w H h) (e:h.objs.size<=a):H a=none:=by
 cases q:H a with
 | none=>rfl
 | some u=>exact absurd (bI (x.lt q) e) (gD _)
theorem oN.kept (x:oN P w H h) (k:∀ b u,h.get? b=some u->h'.get? b=some u):oN P w H h':=λa o e =>
 (x a o e).stay (λb u _ q=>k b u q) (λ_ q=>q) λ_ _ q=>q
theorem oN.laid (x:oN P w H h) (k:∀ b u,h.get? b=some u->h'.get? b=some u) (hp:h.objs.size<=a) (new:oI P w (upd H a o) h' a o):oN P w (upd H a o) h':=λb u e=>by
 have d:=x.fresh hp;by_cases f:b=a
 ·subst f;rw[mT] at e;cases e;exact new
 ·rw[mO f] at e;exact (x b u e).stay (λc v _ q=>k c v q) (λc q=>by rw[mO (nO q d)];exact q) λc g q=>by rw[mO (nO q d)];exact q
end
def Rd (H:Hp) (a:Addr) (u:HO):Prop:=H a=some u\/∃ o,H a=some (.frz o u)
theorem Rd.ok {P:Program}(r:Rd H a u) (x:oN P w H h):oI P w H h a u:=by
 rcases r with r | ⟨o,r⟩
 ·exact x a u r
 ·obtain⟨_,q⟩:=x a _ r;exact q
def Cc:Option HO->Prop
 | some (.lst _)=>True
 | some (.dK _)=>True
 | some (.dT _)=>True
 | some (.set _ _)=>True
 | some (.ins _ _ _)=>True
 | some (.ext _)=>True
 | _=>False
section
variable {P:Program}
theorem oN.write (ok:oN P w H h) (mu:Cc (H x)) (he:e=x\/H e=some (.own x)) (k:∀ b u,b≠e->h.get? b=some u->h'.get? b=some u) (heo:∃ u,h'.get? e=some u)
  (new:oI P w (upd H x o') h' x o'):oN P w (upd H x o') h':=λb u q=>by
 have d:∀ c y,H c=some (.own y)->c≠x:=λc y r z=>by subst z;rw[r] at mu;exact mu
 have f:∀ c g,H c=some (.tup g)->c≠x:=λc g r z=>by subst z;rw[r] at mu;exact mu
 by_cases j:b=x
 ·subst j;rw[mT] at q;cases q;exact new
 ·rw[mO j] at q;by_cases a:b=e
  ·have l:H b=some (.own x):=by
    rcases he with z | z
    ·exact absurd (a.trans z) j
    ·rw[a];exact z
   rw[q] at l;cases l;obtain⟨v,m⟩:=heo;exact⟨v,by rw[a];exact m⟩
  ·refine (ok b u q).stay (λc v i r=>k c v ?_ r) (λc r=>by rw[mO (d c b r)];exact r) λc g r=>by rw[mO (f c g r)];exact r
   rcases i with rfl | i
   ·exact a
   ·rintro rfl;rcases he with z | z
    ·exact d c b i z
    ·rw[i] at z;cases z;exact j rfl
end
structure Un (fs ex:List Addr) (H H':Hp) (h h':Heap):Prop where
 keep:∀ b o,h.get? b=some o->H b=none->b∉fs->b∉ex->h'.get? b=some o
 slot:∀ b o,h.get? b=some o->H b=none->b∈fs->b∉ex->∃ sl,h'.get? b=some { o with slots:=sl }
 free:∀ b o,h.get? b=some o->H b=none->b∉ex->H' b=none
 there:∀ b o,h.get? b=some o->b∉ex->∃ o',h'.get? b=some o'
 tups:∀ b xs,H b=some (.tup xs)->H' b=some (.tup xs)
 frzs:∀ b o u,H b=some (.frz o u)->H' b=some (.frz o u)
 tbls:∀ b ps,H b=some (.tbl ps)->∃ more,H' b=some (.tbl (ps++more))
section
theorem Un.any (u:Un fs ex H H1 h h1) (q:h.get? b=some ob) (n:H b=none) (hx:b∉ex):∃ sl,h1.get? b=some { ob with slots:=sl }:=by
 by_cases a:b∈fs
 ·exact u.slot b ob q n a hx
 ·exact⟨ob.slots,u.keep b ob q n a hx⟩
theorem Un.kept (k:∀ b u,h.get? b=some u->h'.get? b=some u):Un fs ex H H h h' :=
 ⟨λb a q _ _ _=>k b a q,λb a q _ _ _=>⟨a.slots,k b a q⟩,λ_ _ _ n _=>n,λb a q _=>⟨a,k b a q⟩,λ_ _ q=>q,λ_ _ _ q=>q,λ_ c q=>⟨#[],by rw[q];simp⟩⟩
theorem Un.refl:Un fs ex H H h h:=Un.kept λ_ _ q=>q
theorem Un.laid (k:∀ b u,h.get? b=some u->h'.get? b=some u) (hp:h.objs.size<=a) (hn:H a=none):Un fs ex H (upd H a o) h h' where
 keep:=λb u q _ _ _=>k b u q
 slot:=λb u q _ _ _=>⟨u.slots,k b u q⟩
 free:=λb u q n _=>by rw[mO (bL (bI (aY q) hp))];exact n
 there:=λb u q _=>⟨u,k b u q⟩
 tups:=λb c q=>by rw[mO (nO q hn)];exact q
 frzs:=λb u c q=>by rw[mO (nO q hn)];exact q
 tbls:=λb d q=>⟨#[],by rw[mO (nO q hn),q];simp⟩
theorem Un.write (mu:Cc (H x)) (he:e=x\/H e=some (.own x)) (k:∀ b u,b≠e->h.get? b=some u->h'.get? b=some u) (heo:∃ u,h'.get? e=some u):Un fs ex H (upd H x o) h h':=by
 have d:∀ b,H b=none->b≠x:=λb n z=>by subst z;rw[n] at mu;exact mu
 have f:∀ b,H b=none->b≠e:=λb n z=>by
  subst z;rcases he with r | r
  ·exact d b n r
  ·rw[n] at r;cases r
 have c:∀ b u,H b=some u->¬ Cc (some u)->b≠x:=λb u q i z=>by subst z;rw[q] at mu;exact i mu
 refine⟨λb u q n _ _=>k b u (f b n) q,λb u q n _ _=>⟨u.slots,k b u (f b n) q⟩,λb u q n _=>by rw[mO (d b n)];exact n,λb u q _=>?_,
  λb g q=>by rw[mO (c b _ q λz=>z)];exact q,λb u g q=>by rw[mO (c b _ q λz=>z)];exact q,λb j q=>⟨#[],by rw[mO (c b _ q λz=>z),q];simp⟩⟩
 by_cases a:b=e
 ·subst a;exact heo
 ·exact⟨u,k b u a q⟩
end
def Gk (h:Heap) (H:Hp):List Addr:=(List.range h.objs.size).filter λa=>(H a).isSome
def xX (h:Heap) (H:Hp):Heap:=PySem.W.hideAll h (Gk h H)
theorem PB (h:Heap) (H:Hp):(xX h H).objs.size=h.objs.size:=PySem.W.hideAll_size _ _
theorem MF (e:h.get? b=some o) (n:H b=none):(xX h H).get? b=some o :=
 PySem.W.hideAll_get _ e λa=>by
  have q:(H b).isSome=true:=(cT.mp a).2;rw[n] at q;simp at q
theorem DA (e:(xX h H).get? b=some o):h.get? b=some o/\H b=none:=by
 have a:h.get? b=some o:=PySem.W.of_hideAll (Gk h H) e;refine⟨a,?_⟩;cases q:H b with
 | none=>rfl
 | some x =>
  have c:b∈Gk h H:=cT.mpr ⟨eD.mpr (aY a),by simp[q]⟩;have z:(xX h H).get? b=none:=PySem.W.hideAll_none (Gk h H) c;rw[z] at e;cases e
structure Mod (K:mC) (mg:Str->Option Value) (base:Heap):Prop where
 kin:K.In base
 glob:base.Ns mainGlobals mg
 blt:∃ mb,base.Ns builtinsNs mb/\∀ x:Str,x ≠ "__name__" -> mb x=bootBuiltins x
 nolimit:base.NoLimit
/-- the context: a def's body (or a comprehension's block) running. base: fixed through the whole law;s₀,H₀: the entry;outer: the frames whose slots others may change (a def's callers);stack: all frames that run;
 ex: iterators that were made ahead of the entry and are walked here (a comprehension's);fn: the names whose cells were made at the entry (a def: all;a comprehension's block: its own);calm: not within an except suite;pn: pins that every state bears;xe: what is wanted of an exception that leaves the code -/
structure Cx where
 prog:Program
 w:World
 K:mC
 mg:Str->Option Value
 base:Heap
 A:Around
 N:List Str
 s₀:Shared
 H₀:Hp
 env:Env
 outer:List Env
 stack:List Env
 ex:List Addr
 fn:Str->Bool
 calm:Bool
 pn:List (Addr×Obj)
 xe:Value->Shared->Prop
def vL (l:List Env):List Addr:=l.filterMap (·.frame)
abbrev Cx.fs (X:Cx):List Addr:=vL X.outer
def Fw (sc:Scope) (x:Str):Prop:=sc.names.lookup x=some .local\/sc.names.lookup x=some .cell\/sc.names.lookup x=some .free
def wR (sc:Scope) (x:Str):Prop:=sc.names.lookup x=some .local\/sc.names.lookup x=some .cell
def LR (env:Env) (h:Heap) (m:Str->Option Value) (x:Str) (u:Value):Prop :=
 (env.kindOf x=some .local/\m x=some u)\/((env.kindOf x=some .cell\/env.kindOf x=some .free)/\∃ c,env.cells.lookup x=some c/\h.IsCell c (some u))
structure Cx.Ok (X:Cx):Prop where
 mod:Mod X.K X.mg X.base
 kind:X.env.scope.kind = .function
 glob:X.env.globals=mainGlobals
 blt:X.env.builtins=builtinsNs
 above:X.s₀.heap.objs.size<=X.env.locals
 inj:∀ x y c,X.env.cells.lookup x=some c->X.env.cells.lookup y=some c->x=y
 has:∀ x,(X.env.kindOf x=some .cell\/X.env.kindOf x=some .free)->∃ c,X.env.cells.lookup x=some c
 cab:∀ x c,X.fn x=true->X.env.cells.lookup x=some c->X.s₀.heap.objs.size<=c
 hd:X.calm=true->X.A.handled=none
 frames:X.A.frames=some X.stack
 stk:X.stack=X.outer\/(X.stack=X.env::X.outer/\X.env.frame=some X.env.locals)
 exf:∀ b∈X.ex,b≠X.env.locals/\∀ x c,X.env.cells.lookup x=some c->c≠b
 bs:∀ b o,X.base.get? b=some o->X.s₀.heap.get? b=some o/\X.H₀ b=none
 bsz:X.base.objs.size<=X.s₀.heap.objs.size
 noex:∀ b o,X.base.get? b=some o->b∉X.ex
 exfs:∀ b∈X.ex,b∉X.fs
 funs:X.s₀.heap.FunFrames X.base X.outer
 frf:∀ b∈X.fs,X.H₀ b=none
structure Inv (X:Cx) (pins:List (Addr×Obj)) (σ:List (Option V)) (H:Hp) (s:Shared):Prop where
 ok:X.Ok
 os:s.os=X.s₀.os
 bare:AllBare s.gens
 base:Un X.fs X.ex X.H₀ H X.s₀.heap s.heap
 loc:∃ m,s.heap.Ns X.env.locals m/\∀ (i:Nat) (x:Str) (v:V),X.N[i]?=some x->σ[i]?=some (some v)->Fw X.env.scope x->∃ u,nB v u/\LR X.env s.heap m x u
 cell:∀ x c,X.env.cells.lookup x=some c->∃ v,s.heap.IsCell c v
 free:H X.env.locals=none
 freeC:∀ x c,X.env.cells.lookup x=some c->H c=none
 pin:∀ p∈X.pn++pins,s.heap.get? p.1=some p.2/\H p.1=none/\p.1≠X.env.locals/\p.1∉X.fs/\∀ v,p.2.data ≠ .cell v
 hok:oN X.prog X.w H s.heap
 len:σ.length=X.N.length
section
variable {X:Cx}
theorem Cx.Ok.nofr (ok:X.Ok) (e:X.base.get? b=some o):b∉X.fs:=λa=>by
 have:=(ok.funs.mem a).1;rw[e] at this;cases this
theorem Inv.bs (I:Inv X pins σ H s):∀ b o,X.base.get? b=some o->s.heap.get? b=some o/\H b=none:=λb o e =>
 ⟨I.base.keep b o (I.ok.bs b o e).1 (I.ok.bs b o e).2 (I.ok.nofr e) (I.ok.noex b o e),I.base.free b o (I.ok.bs b o e).1 (I.ok.bs b o e).2 (I.ok.noex b o e)⟩
theorem Inv.bk (I:Inv X pins σ H s):∀ b o,X.base.get? b=some o->s.heap.get? b=some o:=λb o e=>(I.bs b o e).1
theorem Inv.mod (I:Inv X pins σ H s):Mod X.K X.mg X.base:=I.ok.mod
theorem Inv.kIn (I:Inv X pins σ H s):X.K.In s.heap:=I.ok.mod.kin.keeps I.bk
theorem Inv.lt (I:Inv X pins σ H s):X.env.locals<s.heap.objs.size:=let ⟨_,a,_⟩:=I.loc;a.lt
theorem Inv.sz (I:Inv X pins σ H s):X.s₀.heap.objs.size<=s.heap.objs.size:=bY I.ok.above (eL I.lt)
theorem Inv.nofs (I:Inv X pins σ H s) (h:s.heap.objs.size<=a):a∉X.fs:=λc=>by
 obtain⟨_,o,b,_⟩:=I.ok.funs.mem c;exact absurd (bI (aY b) (bY I.sz h)) (gD _)
theorem Inv.cne (I:Inv X pins σ H s):∀ x c,X.env.cells.lookup x=some c->c≠X.env.locals:=λx c e z=>by
 obtain⟨v,o,d,hd⟩:=I.cell x c e;obtain⟨m,⟨f,g,h,a,b,_⟩,_⟩:=I.loc;rw[z,a] at d;cases d;rw[b] at hd;cases hd
theorem Inv.funs (I:Inv X pins σ H s):s.heap.FunFrames X.base X.outer:=by
 have all:∀ (l:List Env),(∀ b∈vL l,b∈X.fs)->X.s₀.heap.FunFrames X.base l->s.heap.FunFrames X.base l:=by
  intro l;induction l with
  | nil=>intro _ _;trivial
  | cons p r g =>
   intro f k;obtain⟨m,⟨L,o,a,j,i,hd⟩,h⟩:=k;have d:L∈X.fs:=f L (by unfold vL;rw[List.filterMap_cons,a];exact aK);obtain⟨sl,e⟩:=I.base.slot L o i (I.ok.frf L d) d λz=>I.ok.exfs L z d
   exact⟨m,⟨L,_,a,j,e,hd⟩,g (λb c=>f b (by unfold vL;rw[List.filterMap_cons,a];exact aT _ c)) h⟩
 exact all X.outer (λ_ c=>c) I.ok.funs
theorem Inv.stack (I:Inv X pins σ H s):s.heap.FunFrames X.base X.stack:=by
 rcases I.ok.stk with e | ⟨e,b⟩
 ·rw[e];exact I.funs
 ·rw[e];obtain⟨m,a,_⟩:=I.loc;refine .cons (by rw[I.ok.kind];decide) b a ?_ I.funs;exact Heap.get?_none_of_le (bY I.ok.bsz I.ok.above)
theorem Inv.stkSub (I:Inv X pins σ H s):∀ b∈vL X.stack,b∈X.env.locals::X.fs:=λb a=>by
 rcases I.ok.stk with e | ⟨e,c⟩
 ·rw[e] at a;exact aT _ a
 ·rw[e] at a;unfold vL at a;rw[jD,c] at a;exact a
theorem Inv.stkFree (I:Inv X pins σ H s):∀ b∈vL X.stack,H b=none:=λb a=>by
 rcases aL.mp (I.stkSub b a) with e | a
 ·rw[e];exact I.free
 ·obtain⟨_,o,c,_⟩:=I.ok.funs.mem a;exact I.base.free b o c (I.ok.frf b a) λz=>I.ok.exfs b z a
theorem Inv.step {g':Array GenState}{t':Nat}{d':Drawn}{ch:List Addr}(I:Inv X pins σ H s)
  (hch:∀ b∈ch,(b∈X.ex\/X.s₀.heap.objs.size<=b)/\b≠X.env.locals/\(∀ x c,X.env.cells.lookup x=some c->c≠b)/\∀ p∈X.pn++pins,p.1≠b)
  (keep:∀ b o,b≠X.env.locals->b∉X.fs->b∉ch->s.heap.get? b=some o->H b=none->h'.get? b=some o)
  (slot:∀ b o,b≠X.env.locals->b∈X.fs->b∉ch->s.heap.get? b=some o->H b=none->∃ sl,h'.get? b=some { o with slots:=sl }) (free:∀ b o,b∉ch->s.heap.get? b=some o->H b=none->H' b=none)
  (there:∀ b o,b∉ch->s.heap.get? b=some o->∃ o',h'.get? b=some o')
  (tups:∀ b xs,H b=some (.tup xs)->H' b=some (.tup xs)) (frzs:∀ b o u,H b=some (.frz o u)->H' b=some (.frz o u)) (tbls:∀ b ps,H b=some (.tbl ps)->∃ more,H' b=some (.tbl (ps++more)))
  (ns:∀ m,s.heap.Ns X.env.locals m->h'.Ns X.env.locals m) (hok:oN X.prog X.w H' h') (hg:AllBare g') :
  Inv X pins σ H' { s with heap:=h',gens:=g',drawn:=d',toks:=t' }:=by
 have B:∀ b o,X.s₀.heap.get? b=some o->b≠X.env.locals:=λb o e=>bL (bI (aY e) I.ok.above)
 have h:∀ b o,X.s₀.heap.get? b=some o->b∉X.ex->b∉ch:=λb o e a t=>by
  rcases (hch b t).1 with z | z
  ·exact a z
  ·exact absurd (bI (aY e) z) (gD _)
 have g:∀ x c,X.env.cells.lookup x=some c->∀ v,s.heap.IsCell c v->h'.IsCell c v:=λx c e v ⟨o,y,hd⟩=>by
  have f:c∉ch:=λz=>(hch c z).2.2.1 x c e rfl
  by_cases M:c∈X.fs
  ·obtain⟨sl,q⟩:=slot c o (I.cne x c e) M f y (I.freeC x c e);exact⟨_,q,hd⟩
  ·exact⟨o,keep c o (I.cne x c e) M f y (I.freeC x c e),hd⟩
 refine⟨I.ok,I.os,hg,⟨λb o e n t a=>?_,λb o e n t a=>?_,λb o e n a=>?_,λb o e a=>?_,λb xs e=>tups b xs (I.base.tups b xs e),λb o xs e=>frzs b o xs (I.base.frzs b o xs e),λb ps e=>?_⟩,?_,λx c e=>?_,?_,λx c e=>?_,λp L=>?_,hok,I.len⟩
 ·exact keep b o (B b o e) t (h b o e a) (I.base.keep b o e n t a) (I.base.free b o e n a)
 ·obtain⟨sl,j⟩:=I.base.slot b o e n t a;obtain⟨E,C⟩:=slot b _ (B b o e) t (h b o e a) j (I.base.free b o e n a);exact⟨E,C⟩
 ·obtain⟨o',j⟩:=I.base.there b o e a;exact free b o' (h b o e a) j (I.base.free b o e n a)
 ·obtain⟨o',j⟩:=I.base.there b o e a;exact there b o' (h b o e a) j
 ·obtain⟨O,j⟩:=I.base.tbls b ps e;obtain⟨N,C⟩:=tbls b _ j;exact⟨O++N,by rw[C,Array.append_assoc]⟩
 ·obtain⟨m,Q,S⟩:=I.loc;refine⟨m,ns m Q,λi x v j C T=>?_⟩;obtain⟨u,r,l⟩:=S i x v j C T;refine⟨u,r,?_⟩;rcases l with l | ⟨k,c,e,z⟩
  ·exact .inl l
  ·exact .inr ⟨k,c,e,g x c e _ z⟩
 ·obtain⟨v,z⟩:=I.cell x c e;exact⟨v,g x c e v z⟩
 ·obtain⟨m,⟨o,_,_,y,_⟩,_⟩:=I.loc;exact free _ o (λz=>(hch _ z).2.1 rfl) y I.free
 ·obtain⟨v,o,y,hd⟩:=I.cell x c e;exact free c o (λz=>(hch c z).2.2.1 x c e rfl) y (I.freeC x c e)
 ·obtain⟨e,n,ne,F,d⟩:=I.pin p L;have f:p.1∉ch:=λz=>(hch p.1 z).2.2.2 p L rfl
  exact⟨keep p.1 p.2 ne F f e n,free p.1 p.2 f e n,ne,F,d⟩
theorem Inv.un (I:Inv X pins σ H s) (u:Un X.fs [] H H' s.heap h') (hok:oN X.prog X.w H' h'):Inv X pins σ H' { s with heap:=h',toks:=t' }:=by
 obtain⟨m,⟨o,p,q,g,r⟩,_⟩:=id I.loc;obtain⟨sl,j⟩:=u.any g I.free (by simp);exact I.step (g':=s.gens) (d':=s.drawn) (ch:=[]) (λ_ z=>nomatch z) (λb o _ c _ e n=>u.keep b o e n c (by simp)) (λb o _ c _ e n=>u.slot b o e n c (by simp)) (λb o _ e n=>u.free b o e n (by simp)) (λb o _ e=>u.there b o e (by simp)) u.tups u.frzs u.tbls (λl i=>by
  obtain⟨k,d,f,a,h⟩:=i;rw[g] at a;cases a;exact⟨_,d,f,j,h⟩) hok I.bare
theorem Inv.call (I:Inv X pins σ H s) (u:Un (vL X.stack) ch H H' s.heap h') (hok:oN X.prog X.w H' h') (hg:AllBare g')
  (hch:∀ b∈ch,(b∈X.ex\/X.s₀.heap.objs.size<=b)/\b≠X.env.locals/\(∀ x c,X.env.cells.lookup x=some c->c≠b)/\∀ p∈X.pn++pins,p.1≠b) :
  Inv X pins σ H' { s with heap:=h',gens:=g',drawn:=d',toks:=t' }:=by
 obtain⟨m,⟨o,v,y,i,r⟩,_⟩:=id I.loc;obtain⟨sl,f⟩:=u.any i I.free λz=>(hch _ z).2.1 rfl
 exact I.step (ch:=ch) hch (λb o f l a e n=>u.keep b o e n (λz=>(aL.mp (I.stkSub b z)).elim f l) a) (λb o _ _ a e n=>u.any e n a) (λb o a e n=>u.free b o e n a) (λb o a e=>u.there b o e a) u.tups u.frzs u.tbls (λt k=>by
  obtain⟨q,g,h,d,j⟩:=k;rw[i] at d;cases d;exact⟨_,g,h,f,j⟩) hok hg
theorem Inv.turned (I:Inv X pins σ H s) (k:∀ b o,b≠it->s.heap.get? b=some o->h'.get? b=some o) (hn:H it=none) (hL:it≠X.env.locals)
  (h1:it∈X.ex\/X.s₀.heap.objs.size<=it) (h2:∀ x c,X.env.cells.lookup x=some c->c≠it) (h3:∀ p∈X.pn++pins,p.1≠it):Inv X pins σ H { s with heap:=h',toks:=t' }:=by
 have d:∀ b u,H b=some u->b≠it:=λb u e z=>by rw[z,hn] at e;cases e
 refine I.step (g':=s.gens) (d':=s.drawn) (ch:=[it]) (λb h=>?_) (λb o _ _ a e _=>k b o (λz=>a (by simp[z])) e) (λb o _ _ a e _=>⟨o.slots,k b o (λz=>a (by simp[z])) e⟩) (λ_ _ _ _ n=>n)
  (λb o a e=>⟨o,k b o (λz=>a (by simp[z])) e⟩) (λ_ _ e=>e) (λ_ _ _ e=>e) (λb l e=>⟨#[],by rw[e];simp⟩) (λm g=>?_) (λb u e=>?_) I.bare
 ·have e:b=it:=by simpa using h
  subst e;exact⟨h1,hL,h2,h3⟩
 ·obtain⟨o,i,j,f,r⟩:=g;exact⟨o,i,j,k _ o (eC hL) f,r⟩
 ·refine (I.hok b u e).stay (λc v a q=>k c v ?_ q) (λ_ q=>q) λ_ _ q=>q
  rcases a with z | z
  ·rw[z];exact d b u e
  ·exact d c _ z
theorem Inv.tok (I:Inv X pins σ H s) (t:Nat):Inv X pins σ H { s with toks:=t }:=I.un (h':=s.heap) (t':=t) Un.refl I.hok
theorem Inv.kept (I:Inv X pins σ H s) (k:∀ b u,s.heap.get? b=some u->h'.get? b=some u):Inv X pins σ H { s with heap:=h',toks:=t' }:=I.un (Un.kept k) (I.hok.kept k)
theorem Inv.laid (I:Inv X pins σ H s) (k:∀ b u,s.heap.get? b=some u->h'.get? b=some u) (hp:s.heap.objs.size<=a) (new:oI X.prog X.w (upd H a o) h' a o) :
  Inv X pins σ (upd H a o) { s with heap:=h',toks:=t' }:=I.un (Un.laid k hp (I.hok.fresh hp)) (I.hok.laid k hp new)
theorem Inv.write (I:Inv X pins σ H s) (mu:Cc (H x)) (he:e=x\/H e=some (.own x)) (k:∀ b u,b≠e->s.heap.get? b=some u->h'.get? b=some u) (heo:∃ u,h'.get? e=some u)
  (new:oI X.prog X.w (upd H x o) h' x o):Inv X pins σ (upd H x o) { s with heap:=h',toks:=t' }:=I.un (Un.write mu he k heo) (I.hok.write mu he k heo new)
theorem Inv.pins_of (I:Inv X pins σ H s) (h:∀ p∈pins',s.heap.get? p.1=some p.2/\H p.1=none/\p.1≠X.env.locals/\p.1∉X.fs/\∀ v,p.2.data ≠ .cell v):Inv X pins' σ H s :=
 ⟨I.ok,I.os,I.bare,I.base,I.loc,I.cell,I.free,I.freeC,λp a=>(aR.mp a).elim (λz=>I.pin p (bC _ z)) (h p),I.hok,I.len⟩
theorem Ra {N:List Str}(hN:N.Nodup){i j:Nat}{x:Str}(a:N[i]?=some x) (b:N[j]?=some x):i=j:=by
 obtain⟨f,d⟩:=aU.mp a;obtain⟨e,c⟩:=aU.mp b;exact (List.getElem_inj hN).mp (d.trans c.symm)
theorem Uh (I:Inv X pins σ H s) (hN:X.N.Nodup) (hi:X.N[i]?=some x) (hx:wR X.env.scope x) (r:nB v u)
  (h:∀ s',Inv X pins (σ.set i (some v)) H s'->(∃ a,Heap.SameBut a s.heap s'.heap/\(a=X.env.locals\/X.env.cells.lookup x=some a))->Q () s') (hf:X.fn x=true\/X.env.scope.names.lookup x=some .local:=by first | exact .inl rfl | exact .inr rfl | assumption):wpAny M A (storeName X.env x u) Q E s:=by
 obtain⟨m,hn,hl⟩:=id I.loc;have Y:(X.env.scope.kind == .class||(X.env.scope.kind == .module&&X.env.locals != X.env.globals))=false:=by rw[I.ok.kind];rfl
 have L:i<σ.length:=by rw[I.len];exact (aU.mp hi).1
 have cne:=I.cne;have g:∀ {a:Addr} {U:Heap},(∃ o,s.heap.get? a=some o/\H a=none)->Heap.SameBut a s.heap U->oN X.prog X.w H U:=λ{a U} ha f b ob e=>by
  obtain⟨_,_,B⟩:=ha;refine (I.hok b ob e).stay (λc w' t q=>(f.2 c ?_).trans q) (λ_ q=>q) λ_ _ q=>q
  rintro rfl;rcases t with rfl | t
  ·rw[B] at e;cases e
  ·rw[B] at t;cases t
 rcases hx with F | F
 ·refine wpAny_storeName_local F hn (λU ac f=>?_) Y;obtain⟨oL,_,_,ab,_⟩:=id hn;refine h _ ⟨I.ok,I.os,I.bare,⟨λb o e n T hx=>?_,λb o e n T hx=>?_,I.base.free,λb o e hx=>?_,I.base.tups,I.base.frzs,I.base.tbls⟩,⟨_,ac,λj y v' l C e3=>?_⟩,λy c e=>?_,I.free,I.freeC,λp hp=>?_,g ⟨oL,ab,I.free⟩ f,by simpa using I.len⟩ ⟨_,f,.inl rfl⟩
  ·exact (f.2 b (bL (bI (aY e) I.ok.above))).trans (I.base.keep b o e n T hx)
  ·obtain⟨sl,l⟩:=I.base.slot b o e n T hx;exact⟨sl,(f.2 b (bL (bI (aY e) I.ok.above))).trans l⟩
  ·obtain⟨o',l⟩:=I.base.there b o e hx;exact⟨o',(f.2 b (bL (bI (aY e) I.ok.above))).trans l⟩
  ·by_cases O:j=i
   ·subst O;rw[hi] at l;cases l;rw[List.getElem?_set_self L] at C;cases C;exact⟨u,r,.inl ⟨F,by simp⟩⟩
   ·rw[eV (eC O)] at C;obtain⟨u',r',q⟩:=hl j y v' l C e3;refine⟨u',r',?_⟩;rcases q with⟨k,e⟩ | ⟨k,c,e,z⟩
    ·refine .inl ⟨k,?_⟩;have:y≠x:=λe=>O (Ra hN l (e▸hi))
     simp[this,e]
    ·exact .inr ⟨k,c,e,z.sameBut f (cne y c e)⟩
  ·obtain⟨w',z⟩:=I.cell y c e;exact⟨w',z.sameBut f (cne y c e)⟩
  ·obtain⟨e,n,ne,nf,d⟩:=I.pin p hp;exact⟨(f.2 p.1 ne).trans e,n,ne,nf,d⟩
 ·have S:X.fn x=true:=by
   rcases hf with z | z
   ·exact z
   ·rw[z] at F;cases F
  obtain⟨c,t⟩:=I.ok.has x (.inl F);obtain⟨w',z⟩:=I.cell x c t;refine wpAny_storeName_cell I.ok.kind F t z (λU aa f=>?_);obtain⟨oc,W,V⟩:=id z;refine h { s with heap:=U } ⟨I.ok,I.os,I.bare,⟨λb o e n T hx=>?_,λb o e n T hx=>?_,I.base.free,λb o e hx=>?_,I.base.tups,I.base.frzs,I.base.tbls⟩,⟨m,hn.sameBut f (eC (cne x c t)),λj y v' l C e3=>?_⟩,λy c' e=>?_,I.free,I.freeC,λp hp=>?_,g ⟨oc,W,I.freeC x c t⟩ f,by simpa using I.len⟩ ⟨c,f,.inr t⟩
  ·exact (f.2 b (bL (bI (aY e) (I.ok.cab x c S t)))).trans (I.base.keep b o e n T hx)
  ·obtain⟨sl,l⟩:=I.base.slot b o e n T hx;exact⟨sl,(f.2 b (bL (bI (aY e) (I.ok.cab x c S t)))).trans l⟩
  ·obtain⟨o',l⟩:=I.base.there b o e hx;exact⟨o',(f.2 b (bL (bI (aY e) (I.ok.cab x c S t)))).trans l⟩
  ·by_cases O:j=i
   ·subst O;rw[hi] at l;cases l;rw[List.getElem?_set_self L] at C;cases C;exact⟨u,r,.inr ⟨.inl F,c,t,aa⟩⟩
   ·rw[eV (eC O)] at C;obtain⟨u',r',q⟩:=hl j y v' l C e3;refine⟨u',r',?_⟩;rcases q with q | ⟨k,c',e,z'⟩
    ·exact .inl q
    ·refine .inr ⟨k,c',e,z'.sameBut f ?_⟩;rintro rfl;exact O (Ra hN l (I.ok.inj _ _ _ e t▸hi))
  ·by_cases Z:c'=c
   ·subst Z;exact⟨_,aa⟩
   ·obtain⟨w2,z2⟩:=I.cell y c' e;exact⟨w2,z2.sameBut f Z⟩
  ·obtain⟨e,n,ne,nf,d⟩:=I.pin p hp;refine⟨(f.2 p.1 ?_).trans e,n,ne,nf,d⟩;intro q;rw[q,W] at e;have q':oc=p.2:=cA e;exact d w' (by rw[← q'];exact V)
theorem Nk (I:Inv X pins σ H s) (hN:X.N.Nodup) (hi:X.N[i]?=some x) (hx:wR X.env.scope x) (r:nB v u)
  (h:∀ s',Inv X pins (σ.set i (some v)) H s'->Q () s') (hf:X.fn x=true\/X.env.scope.names.lookup x=some .local:=by first | exact .inl rfl | exact .inr rfl | assumption):wpAny M A (storeName X.env x u) Q E s :=
 Uh I hN hi hx r (λs' a _=>h s' a) hf
theorem Inv.call' (I:Inv X pins σ H s) (ho:s'.os=s.os) (u:Un (vL X.stack) ch H H' s.heap s'.heap) (hok:oN X.prog X.w H' s'.heap) (hg:AllBare s'.gens)
  (hch:∀ b∈ch,(b∈X.ex\/X.s₀.heap.objs.size<=b)/\b≠X.env.locals/\(∀ x c,X.env.cells.lookup x=some c->c≠b)/\∀ p∈X.pn++pins,p.1≠b):Inv X pins σ H' s':=by
 obtain⟨h,f,g,a,d⟩:=s';have e:d=s.os:=ho;subst e;exact I.call (g':=f) (t':=a) (d':=g) u hok hg hch
end
abbrev XK:=Value->Option Addr->Hp->Prop
abbrev St:=List (Option V)
abbrev VK:=V->Hp->Prop
abbrev TE:=St->Hp->VK->Prop
abbrev TT:=St->Hp->(Bool->Hp->Prop)->Prop
abbrev TA:=St->Hp->(List V->Hp->Prop)->Prop
structure Ends where
 nx:St->Hp->Prop
 rt:VK
 bk:St->Hp->Prop:=λ_ _=>False
 ct:St->Hp->Prop:=λ_ _=>False
abbrev TS:=Ends->St->Hp->Prop
def EP (X:Cx) (pins:List (Addr×Obj)) (σ:St) (Q:VK) (u:Value) (s':Shared):Prop:=∃ v H',Inv X pins σ H' s'/\nB v u/\Q v H'
def TP (X:Cx) (pins:List (Addr×Obj)) (σ:St) (Q:Bool->Hp->Prop) (b:Bool) (s':Shared):Prop:=∃ H',Inv X pins σ H' s'/\Q b H'
def AP (X:Cx) (pins:List (Addr×Obj)) (σ:St) (Q:List V->Hp->Prop) (us:List Value) (s':Shared):Prop:=∃ vs H',Inv X pins σ H' s'/\mX vs us/\Q vs H'
def SP (X:Cx) (pins:List (Addr×Obj)) (D:Ends) (f:Flow) (s':Shared):Prop :=
 match f with
 | .next=>∃ σ' H',Inv X pins σ' H' s'/\D.nx σ' H'
 | .brk=>∃ σ' H',Inv X pins σ' H' s'/\D.bk σ' H'
 | .cont=>∃ σ' H',Inv X pins σ' H' s'/\D.ct σ' H'
 | .ret u=>∃ v σ' H',Inv X pins σ' H' s'/\nB v u/\D.rt v H'
def PE (X:Cx) (e:Expr) (t:TE):Prop :=
 ∀ (pins:List (Addr×Obj)) (s:Shared) (σ:St) (H:Hp) (Q:VK),Inv X pins σ H s->t σ H Q->wpAny (model X.prog X.w) X.A (eval e X.env) (EP X pins σ Q) X.xe s
def PT (X:Cx) (e:Expr) (t:TT):Prop :=
 ∀ (pins:List (Addr×Obj)) (s:Shared) (σ:St) (H:Hp) (Q:Bool->Hp->Prop),Inv X pins σ H s->t σ H Q->wpAny (model X.prog X.w) X.A (isTrue e X.env (eval e X.env)) (TP X pins σ Q) X.xe s
def PW (X:Cx) (e:Expr) (t:TT):Prop :=
 ∀ (whole:Sem Value) (pins:List (Addr×Obj)) (s:Shared) (σ:St) (H:Hp) (Q:Bool->Hp->Prop),Inv X pins σ H s->t σ H Q->wpAny (model X.prog X.w) X.A (isTrue e X.env whole) (TP X pins σ Q) X.xe s
theorem PW.pt {X:Cx}(h:PW X e t):PT X e t:=h _
def PA (X:Cx) (es:List Expr) (t:TA):Prop :=
 ∀ (pos:Pos) (pins:List (Addr×Obj)) (s:Shared) (σ:St) (H:Hp) (Q:List V->Hp->Prop),Inv X pins σ H s->t σ H Q->wpAny (model X.prog X.w) X.A (spliced (backTo pos (starEach es X.env))) (AP X pins σ Q) X.xe s
def PS (X:Cx) (st:Stmt) (t:TS):Prop :=
 ∀ (pins:List (Addr×Obj)) (s:Shared) (σ:St) (H:Hp) (D:Ends),Inv X pins σ H s->t D σ H->wpAny (model X.prog X.w) X.A (exec st X.env) (SP X pins D) X.xe s
def qL (X:Cx) (st:List Stmt) (t:TS):Prop :=
 ∀ (pins:List (Addr×Obj)) (s:Shared) (σ:St) (H:Hp) (D:Ends),Inv X pins σ H s->t D σ H->wpAny (model X.prog X.w) X.A (execs st X.env) (SP X pins D) X.xe s
theorem mR (h:wpAny M A t Q E s) (hQ:∀ a s,Q a s->Q' a s):wpAny M A t Q' E s:=cL h hQ λ_ _ x=>x
section
variable {X:Cx}
def qM (i:Nat):TE:=λσ H Q=>∃ v,σ[i]?=some (some v)/\Q v H
def tC (v:V):TE:=λ_ H Q=>Q v H
theorem JF (hN:X.N[i]?=some x) (hv:Fw X.env.scope x) (hd:(x == ("__debug__" : Str))=false:=by decide) (hcd:(x == ("__classdict__" : Str))=false:=by decide):PE X (.Name x pos) (qM i):=by
 intro d s g H Q I h;obtain⟨v,e,h⟩:=h;obtain⟨m,j,o⟩:=I.loc;obtain⟨u,r,l⟩:=o i x v hN e hv;have fin:EP X d g Q u s:=⟨v,H,I,r,h⟩;rcases l with⟨b,k⟩ | ⟨b,c,f,a⟩
 ·exact wpAny_Name (wpAny_loadName_local I.ok.kind b j k fin) hd
 ·rcases b with b | b
  ·exact wpAny_Name (wpAny_loadName_cell I.ok.kind b f a fin) hd
  ·exact wpAny_Name (wpAny_loadName_free I.ok.kind b f a fin hcd) hd
theorem oA {i j pos}:PE X (.Constant (.int i) j pos) (tC (.int i)):=λ_ _ _ H _ I h=>wpAny_Constant_int ⟨.int i,H,I.tok _,⟨_,rfl⟩,h⟩
theorem JA {b j pos}:PE X (.Constant (.bool b) j pos) (tC (.bl b)):=λ_ _ _ H _ I h=>Constant_bool ⟨.bl b,H,I,rfl,h⟩
theorem CS {j pos}:PE X (.Constant .none j pos) (tC .non):=λ_ _ _ H _ I h=>Constant_none ⟨.non,H,I,rfl,h⟩
theorem vS {x j pos}:PE X (.Constant (.str x) j pos) (tC (.str x)):=λ_ _ _ H _ I h=>Calls.Constant_str ⟨.str x,H,I.tok _,⟨_,rfl⟩,h⟩
def Gl (X:Cx) (x:Str):Prop:=X.env.kindOf x=some .globalImplicit
theorem Sc (I:Inv X pins σ H s) (hg:Gl X x) (hm:X.mg x=some u) (h:Q u s)
  (hd:(x == ("__debug__" : Str))=false:=by decide):wpAny (model X.prog X.w) X.A (eval (.Name x pos) X.env) Q E s :=
 Calls.Name_function_global I.ok.kind hg (Calls.loadGlobal_global (by rw[I.ok.glob];exact I.mod.glob.keeps I.bk) hm h) hd
theorem yP (I:Inv X pins σ H s) (hg:Gl X x) (hm:X.mg x=none) (hv:bootBuiltins x=some u) (h:Q u s)
  (hn:x ≠ "__name__" := by decide) (hd:(x == ("__debug__" : Str))=false:=by decide):wpAny (model X.prog X.w) X.A (eval (.Name x pos) X.env) Q E s:=by
 obtain⟨c,b,a⟩:=I.mod.blt;exact Calls.Name_function_global I.ok.kind hg (Calls.loadGlobal_builtin (by rw[I.ok.glob];exact I.mod.glob.keeps I.bk) hm (by rw[I.ok.blt];exact b.keeps I.bk) ((a x hn).trans hv) h) hd
theorem AQ (hg:Gl X x) (hm:X.mg x=none) (hv:bootBuiltins x=some u) (r:nB v u) (hn:x ≠ "__name__" := by decide) (hd:(x == ("__debug__" : Str))=false:=by decide):PE X (.Name x pos) (tC v) :=
 λ_ _ _ H _ I h=>yP I hg hm hv ⟨v,H,I,r,h⟩ hn hd
def PC (X:Cx) (op:CmpOp) (a b:Expr) (t:TE):Prop :=
 ∀ (pins:List (Addr×Obj)) (s:Shared) (σ:St) (H:Hp) (Q:VK),Inv X pins σ H s->t σ H Q ->
  wpAny (model X.prog X.w) X.A (eval a X.env) (λv s₁=>wpAny (model X.prog X.w) X.A (eval b X.env) (λu s₂=>wpAny (model X.prog X.w) X.A (compareOp op v u) (EP X pins σ Q) X.xe s₂) X.xe s₁) X.xe s
def tB (t:TE):TT:=λσ H Q=>t σ H λx H1=>∃ c,x = .bl c/\Q c H1
theorem FO (h:PC X op a b t) (h1:behindInMarks op b=false:=by first | exact nobehind _ (by decide) (by decide) | rfl):PT X (.Compare a [op] [b] pos) (tB t):=by
 intro e s f H Q I hw;refine wpAny_isTrue_Compare1 (mR (h e s f H _ I hw) λv p h1=>mR h1 λu o j=>mR j λc m ⟨x,l,k,g,i⟩=>?_) h1;obtain⟨d,rfl,q⟩:=i;cases g;exact gF ⟨l,k,q⟩
variable {rest:List Expr}
def BQ (t u:TT):TT:=λσ H Q=>t σ H λc H1=>if c=true then u σ H1 Q else Q false H1
def II (t u:TT):TT:=λσ H Q=>t σ H λc H1=>if c=true then Q true H1 else u σ H1 Q
def LW (t:TT):TT:=λσ H Q=>t σ H λc H1=>Q (!c) H1
theorem Qp (ha:PT X a tA):PW X (.BoolOp .And [a] pos) tA:=by
 intro f b s d H Q I h;refine isTrue_and (mR (ha b s d H Q I h) λc g e=>?_);cases c with
 | true=>exact isTrue_and_nil e
 | false=>exact e
theorem MI (ha:PT X a tA):PW X (.BoolOp .Or [a] pos) tA:=by
 intro f b s d H Q I h;refine isTrue_or (mR (ha b s d H Q I h) λc g e=>?_);cases c with
 | false=>exact isTrue_or_nil e
 | true=>exact e
theorem Pf (ha:PT X a tA) (hb:PW X (.BoolOp .And (b::rest) pos) tB'):PW X (.BoolOp .And (a::b::rest) pos) (BQ tA tB'):=by
 intro j d s e H Q I h;refine isTrue_and (mR (ha d s e H _ I h) λc k ⟨i,g,f⟩=>?_);cases c with
 | true=>exact hb j d k e i Q g f
 | false=>exact⟨i,g,f⟩
theorem JZ (ha:PT X a tA) (hb:PW X (.BoolOp .Or (b::rest) pos) tB'):PW X (.BoolOp .Or (a::b::rest) pos) (II tA tB'):=by
 intro j d s e H Q I h;refine isTrue_or (mR (ha d s e H _ I h) λc k ⟨i,g,f⟩=>?_);cases c with
 | true=>exact⟨i,g,f⟩
 | false=>exact hb j d k e i Q g f
theorem MT (ha:PT X a tA):PT X (.UnaryOp .Not a pos) (LW tA):=by
 intro b s d H Q I h;exact isTrue_not (ha b s d H (λc e=>Q (!c) e) I h)
def Xm (ta tb:TE):TE:=λσ H Q=>ta σ H λx H1=>∃ c,x = .bl c/\if c=true then tb σ H1 Q else Q (.bl false) H1
def ML (ta tb:TE):TE:=λσ H Q=>ta σ H λx H1=>∃ c,x = .bl c/\if c=true then Q (.bl true) H1 else tb σ H1 Q
theorem Zw {op}(h:PE X a t):PE X (.BoolOp op [a] pos) t:=λb s c H Q I hw=>BoolOp_one (h b s c H Q I hw)
theorem QW (ha:PE X a ta) (hb:PE X (.BoolOp .And (b::rest) pos) tb):PE X (.BoolOp .And (a::b::rest) pos) (Xm ta tb):=by
 intro d s f H Q I h;refine BoolOp_and (mR (ha d s f H _ I h) λv j ⟨x,i,g,k,e⟩=>?_);obtain⟨c,rfl,e⟩:=e;cases k;refine gF ?_;cases c with
 | true=>exact hb d j f i Q g e
 | false=>exact⟨.bl false,i,g,rfl,e⟩
theorem BB (ha:PE X a ta) (hb:PE X (.BoolOp .Or (b::rest) pos) tb):PE X (.BoolOp .Or (a::b::rest) pos) (ML ta tb):=by
 intro d s f H Q I h;refine BoolOp_or (mR (ha d s f H _ I h) λv j ⟨x,i,g,k,e⟩=>?_);obtain⟨c,rfl,e⟩:=e;cases k;refine gF ?_;cases c with
 | false=>exact hb d j f i Q g e
 | true=>exact⟨.bl true,i,g,rfl,e⟩
def JL (t:TT) (ta tb:TE):TE:=λσ H Q=>t σ H λc H1=>if c=true then ta σ H1 Q else tb σ H1 Q
theorem HN (hc:PT X c tA) (ha:PE X a ta) (hb:PE X b tb):PE X (.IfExp c a b pos) (JL tA ta tb):=by
 intro e s f H Q I h;refine wpAny_IfExp (mR (hc e s f H _ I h) λd g ⟨k,j,i⟩=>?_);cases d with
 | true=>exact ha e g f k Q j i
 | false=>exact hb e g f k Q j i
end
def mG (K:mC) (H:Hp) (a:Addr) (xs:List V):Prop :=
 Rd H a (.lst xs) \/
  ∃ (o:Obj) (its:Array Value) (n:Nat),K.lookup a=some o/\o.cls = .type "list" /\ o.dict=none/\o.data = .seq its n/\its.size<=sizeLine/\mX xs its.toList
def nL (K:mC) (H:Hp) (a:Addr) (xs:List V):Prop :=
 Rd H a (.tup xs) \/
  ∃ (o:Obj) (its:Array Value) (n:Nat),K.lookup a=some o/\o.cls = .type "tuple" /\ o.data = .seq its n/\its.size<=sizeLine/\mX xs its.toList
def HB:Value->Option V
 | .none=>some .non
 | .bool b=>some (.bl b)
 | .int i _=>some (.int i)
 | .str x _=>some (.str x)
 | .bytes b _=>some (.byt b)
 | .float b _=>some (.flt b)
 | .ref a=>some (.ref a)
 | .type n=>some (.ty n)
 | _=>none
theorem nB.abs (r:nB x u):HB u=some x:=by
 cases x with
 | non=>cases r;rfl
 | bl _=>cases r;rfl
 | int _=>obtain⟨t,rfl⟩:=r;rfl
 | str _=>obtain⟨t,rfl⟩:=r;rfl
 | byt _=>obtain⟨t,rfl⟩:=r;rfl
 | flt _=>obtain⟨t,rfl⟩:=r;rfl
 | ref _=>cases r;rfl
 | ty _=>cases r;rfl
theorem nB.inj (r:nB x u) (q:nB y u):x=y:=cA (r.abs.symm.trans q.abs)
theorem mX.inj:∀ {xs ys:List V}{us:List Value},mX xs us->mX ys us->xs=ys
 | _,_,_,.nil,.nil=>rfl
 | _,_,_,.cons r t,.cons b a=>by rw[r.inj b,mX.inj t a]
section
variable {X:Cx}
theorem mG.of {K:mC}(h:H a=some (.lst xs)):mG K H a xs:=.inl (.inl h)
theorem nL.of {K:mC}(h:H a=some (.tup xs)):nL K H a xs:=.inl (.inl h)
theorem Inv.list (I:Inv X pins σ H s) (h:mG X.K H a xs):∃ its:List Value,mX xs its/\PlainL s.heap a its.toArray/\xs.length<=sizeLine:=by
 rcases h with h | ⟨o,its,n,c,d,hd,b,f,r⟩
 ·obtain⟨z,its,n,r,e⟩:=h.ok I.hok;exact⟨its,r,⟨_,n,e,rfl,rfl,rfl⟩,z⟩
 ·refine⟨its.toList,r,⟨o,n,I.kIn a o c,d,hd,by simpa using b⟩,?_⟩;have e:=r.length;simp only[fJ] at e;omega
theorem Inv.tuple (I:Inv X pins σ H s) (h:nL X.K H a xs):∃ its:List Value,mX xs its/\IsTup s.heap a its.toArray/\xs.length<=sizeLine:=by
 rcases h with h | ⟨o,its,n,c,d,b,f,r⟩
 ·obtain⟨z,its,r,p,_⟩:=h.ok I.hok;exact⟨its,r,p,z⟩
 ·refine⟨its.toList,r,⟨o,I.kIn a o c,d,n,by simpa using b⟩,?_⟩;have e:=r.length;simp only[fJ] at e;omega
theorem Inv.list_inj (I:Inv X pins σ H s) (h:mG X.K H a xs) (h':mG X.K H a ys):xs=ys:=by
 obtain⟨c,r,⟨o,n,e,_,_,d⟩,_⟩:=I.list h;obtain⟨b,i,⟨j,k,f,_,_,g⟩,_⟩:=I.list h';rw[e] at f;cases f;rw[d] at g;injection g with d1 _;have:c=b:=by simpa using cV Array.toList d1
 subst this;exact r.inj i
theorem Inv.tuple_inj (I:Inv X pins σ H s) (h:nL X.K H a xs) (h':nL X.K H a ys):xs=ys:=by
 obtain⟨c,r,⟨o,e,_,n,d⟩,_⟩:=I.tuple h;obtain⟨b,i,⟨j,f,_,k,g⟩,_⟩:=I.tuple h';rw[e] at f;cases f;rw[d] at g;injection g with d1 _;have:c=b:=by simpa using cV Array.toList d1
 subst this;exact r.inj i
end
abbrev Cx.wish (X:Cx) (E:Value->Shared->Prop):Cx:={ X with xe:=E }
abbrev Cx.nox (X:Cx):Cx:=X.wish λ_ _=>False
theorem Cx.Ok.wish {X:Cx}(ok:X.Ok) (E:Value->Shared->Prop):(X.wish E).Ok :=
 ⟨ok.mod,ok.kind,ok.glob,ok.blt,ok.above,ok.inj,ok.has,ok.cab,ok.hd,ok.frames,ok.stk,ok.exf,ok.bs,ok.bsz,ok.noex,ok.exfs,ok.funs,ok.frf⟩
theorem Cx.Ok.unwish {X:Cx}(ok:(X.wish E).Ok):X.Ok :=
 ⟨ok.mod,ok.kind,ok.glob,ok.blt,ok.above,ok.inj,ok.has,ok.cab,ok.hd,ok.frames,ok.stk,ok.exf,ok.bs,ok.bsz,ok.noex,ok.exfs,ok.funs,ok.frf⟩
section
variable {X:Cx}
theorem Inv.wish (I:Inv X pins σ H s) (E:Value->Shared->Prop):Inv (X.wish E) pins σ H s:=⟨I.ok.wish E,I.os,I.bare,I.base,I.loc,I.cell,I.free,I.freeC,I.pin,I.hok,I.len⟩
theorem Inv.unwish (I:Inv (X.wish E) pins σ H s):Inv X pins σ H s:=⟨I.ok.unwish,I.os,I.bare,I.base,I.loc,I.cell,I.free,I.freeC,I.pin,I.hok,I.len⟩
theorem SP.unwish {D:Ends}(h:SP (X.wish E) pins D f s'):SP X pins D f s':=by
 cases f with
 | next=>obtain⟨a,b,I,q⟩:=h;exact⟨a,b,I.unwish,q⟩
 | brk=>obtain⟨a,b,I,q⟩:=h;exact⟨a,b,I.unwish,q⟩
 | cont=>obtain⟨a,b,I,q⟩:=h;exact⟨a,b,I.unwish,q⟩
 | ret u=>obtain⟨v,a,b,I,r,q⟩:=h;exact⟨v,a,b,I.unwish,r,q⟩
theorem qL.nox {st:List Stmt}(h:qL X.nox st t):qL X st t:=λa s b H D I hw =>
 cL (h a s b H D (I.wish _) hw) (λ_ _ q=>q.unwish) λ_ _ z=>False.elim z
end
section
variable {X:Cx}{st:Stmt}{rest:List Stmt}
def AV:TS:=λD σ H=>D.nx σ H
def J2 (t u:TS):TS:=λD σ H=>t { D with nx:=u D } σ H
theorem Bo:qL X [] AV:=λ_ _ a H _ I h=>kU ⟨a,H,I,h⟩
theorem qF (h1:PS X st t) (h2:qL X rest u):qL X (st::rest) (J2 t u):=by
 intro a s c H D I h;refine wpAny_execs_cons (mR (h1 a s c H { D with nx:=u D } I h) λf d q=>?_);cases f with
 | next =>
  obtain⟨b,g,e,q⟩:=q;exact h2 a d b g D e q
 | ret v=>exact q
 | brk=>exact q
 | cont=>exact q
theorem rY (h1:PS X st t):qL X [st] t:=by
 intro a s b H D I h;refine wpAny_execs_cons (mR (h1 a s b H D I h) λf c q=>?_);cases f with
 | next=>exact kU q
 | ret v=>exact q
 | brk=>exact q
 | cont=>exact q
theorem Inv.quiet (I:Inv X pins σ H s):interactive X.env=false:=by simp[interactive,I.ok.kind]
def Q0 (te:TE):TS:=λD σ H=>te σ H λ_ H1=>D.nx σ H1
theorem N9 (he:PE X e te) (hs:swapsWith e none pos.line X.env=pure false:=by rfl):PS X (.Expr e pos) (Q0 te):=by
 intro a s b H D I h;exact wpAny_Expr_any (mR (he a s b H _ I h) λv g ⟨x,f,d,i,c⟩=>⟨b,f,d,c⟩) I.quiet hs
def Up (te:TE):TS:=λD σ H=>te σ H D.rt
theorem xM (he:PE X e te):PS X (.Return (some e) pos) (Up te):=by
 intro a s b H D I h;exact wpAny_Return_some (mR (he a s b H _ I h) λv i ⟨x,g,f,c,d⟩=>⟨x,b,g,f,c,d⟩)
def DB (c:TT) (t u:TS):TS:=λD σ H=>c σ H λb H1=>if b=true then t D σ H1 else u D σ H1
theorem zS (hc:PT X c tc) (ha:qL X a t) (hb:qL X b u):PS X (.If c a b pos) (DB tc t u):=by
 intro e s f H D I h;refine wpAny_If (mR (hc e s f H _ I h) λd g ⟨k,j,i⟩=>?_);cases d with
 | true=>exact ha e g f k D j i
 | false=>exact hb e g f k D j i
def Xh:TS:=λ_ _ _=>False
theorem X6:PS X st Xh:=λ_ _ _ _ _ _ h=>h.elim
end
abbrev TG:=V->St->Hp->(St->Hp->Prop)->Prop
abbrev Ax:=List V->St->Hp->(St->Hp->Prop)->Prop
def PG (X:Cx) (target:Expr) (t:TG):Prop :=
 ∀ (pins:List (Addr×Obj)) (s:Shared) (σ:St) (H:Hp) (v:V) (u:Value) (Q:St->Hp->Prop),Inv X pins σ H s->nB v u->t v σ H Q ->
  wpAny (model X.prog X.w) X.A (assign target X.env u) (λ_ s'=>∃ σ' H',Inv X pins σ' H' s'/\Q σ' H') X.xe s
def xN (X:Cx) (ts:List Expr) (t:Ax):Prop :=
 ∀ (pins:List (Addr×Obj)) (s:Shared) (σ:St) (H:Hp) (vs:List V) (us:List Value) (Q:St->Hp->Prop),Inv X pins σ H s->mX vs us->t vs σ H Q ->
  wpAny (model X.prog X.w) X.A (assignInOrder ((assignEach ts X.env).map (·.2)) us) (λ_ s'=>∃ σ' H',Inv X pins σ' H' s'/\Q σ' H') X.xe s
abbrev Jf:=V->V->V->Hp->(Hp->Prop)->Prop
def Jd (X:Cx) (t:Jf):Prop :=
 ∀ (pins:List (Addr×Obj)) (s:Shared) (σ:St) (H:Hp) (o i v:V) (ov iv u:Value) (Q:Hp->Prop),Inv X pins σ H s->nB o ov->nB i iv->nB v u->t o i v H Q ->
  wpAny (model X.prog X.w) X.A (setItem ov iv u) (λ_ s'=>∃ H',Inv X pins σ H' s'/\Q H') X.xe s
abbrev Lm:=V->V->Hp->VK->Prop
def Me (X:Cx) (op:Operator) (t:Lm):Prop :=
 ∀ (pins:List (Addr×Obj)) (s:Shared) (σ:St) (H:Hp) (x y:V) (v u:Value) (Q:VK),Inv X pins σ H s->nB x v->nB y u->t x y H Q ->
  wpAny (model X.prog X.w) X.A (inplaceOp op v u) (EP X pins σ Q) X.xe s
section
variable {X:Cx}
def yW (i:Nat):TG:=λv σ H Q=>Q (σ.set i (some v)) H
theorem wT (hN:X.N.Nodup) (hi:X.N[i]?=some x) (hx:wR X.env.scope x) (hf:X.fn x=true\/X.env.scope.names.lookup x=some .local:=by first | exact .inl rfl | exact .inr rfl | assumption):PG X (.Name x pos) (yW i):=by
 intro a s c H v u Q I r h;exact wpAny_assign_Name (Nk I hN hi hx r (λd b=>⟨_,H,b,h⟩) hf)
def KW:Ax:=λvs σ H Q=>vs=[]/\Q σ H
def CI (t:TG) (u:Ax):Ax:=λvs σ H Q=>∃ v r,vs=v::r/\t v σ H λσ' H'=>u r σ' H' Q
theorem LP:xN X [] KW:=by
 intro a s b H c d Q I r h;obtain⟨e,h⟩:=h;subst e;cases r;exact assignInOrder_nil ⟨b,H,I,h⟩
theorem RZ (h1:PG X e t) (h2:xN X es u)
  (hs:(assignEach (e::es) X.env).map (·.2)=assign e X.env::(assignEach es X.env).map (·.2):=by rfl):xN X (e::es) (CI t u):=by
 intro a s c H l o Q I r h;obtain⟨v,m,i,h⟩:=h;subst i;cases r with
 | cons r f =>
  rw[hs];refine assignInOrder_cons (mR (h1 a s c H _ _ _ I r h) λ_ d ⟨b,k,j,g⟩=>?_);exact h2 a d b k _ _ Q j f g
def PN (K:mC) (n:Nat) (t:Ax):TG:=λv σ H Q=>∃ a xs,v = .ref a/\nL K H a xs/\xs.length=n/\t xs σ H Q
theorem IC (hc:X.calm=true) (h:xN X es t)
  (hn:(assignEach es X.env).length=n:=by rfl) (hst:(assignEach es X.env).findIdx? (·.1)=none:=by rfl):PG X (.Tuple es k pos) (PN X.K n t):=by
 intro c s d H v u Q I r hw;obtain⟨a,g,x,m,p,hw⟩:=hw;subst x;cases r;obtain⟨i,f,l,z⟩:=I.tuple m;refine assign_Tuple_tuple (I.ok.hd hc) l (by simp[hn,← p,f.length]) hst λq j=>?_
 have y:Inv X c d H { s with heap:=q }:=I.kept (t':=s.toks) λb o e=>j b o (bL (aY e)) e
 exact h c _ d H g _ Q y (by simpa using f) hw
def ED (to ti:TE) (t:Jf):TG:=λv σ H Q=>to σ H λo H1=>ti σ H1 λi H2=>t o i v H2 λH3=>Q σ H3
theorem Bt (ho:PE X o to) (hi:PE X i ti) (hs:Jd X t)
  (ha:∀ v,assign (.Subscript o i pos) X.env v=(do
   let ov ← holding [v] (eval o X.env);let iv ← holding [v,ov] (eval i X.env)
   standAt pos
   holding [v,ov,iv] (setItem ov iv v)
   release [v,ov,iv] []):=by intro _;rfl):PG X (.Subscript o i pos) (ED to ti t):=by
 intro a s b H v u Q I r h;rw[ha];refine aB (bV (mR (ho a s b H _ I h) λov d ⟨x,B,p,f,k⟩=>?_));refine aB (bV (mR (hi a d b B _ p k) λiv c ⟨y,z,m,e,j⟩=>?_));refine aB (lS (aB (bV (mR (hs a c b z x y v ov iv u _ m f e r j) λ_ C ⟨q,l,g⟩=>?_))));exact wpAny_release ⟨b,q,l,g⟩
def Ma (te:TE) (g:TG):TS:=λD σ H=>te σ H λx H1=>g x σ H1 D.nx
theorem zR (he:PE X e te) (hg:PG X tg g) (hs:swapsWithSole [tg] e pos.line X.env=pure false:=by rfl) (hw:swappedStores [tg] e X.env=pure none:=by rfl)
  (h1:(assignEach [tg] X.env).map (·.2)=[assign tg X.env]:=by rfl):PS X (.Assign [tg] e pos) (Ma te g):=by
 intro a s b H D I h;refine wpAny_Assign_stores (mR (he a s b H _ I h) λv c ⟨x,j,i,d,f⟩=>?_) hs hw;rw[h1];exact mR (hg a c b j x v _ i d f) λ_ k q=>q
theorem qE {i:Nat}{x:Str}{e:Expr}{te:TE}{pos':Pos}(hN:X.N.Nodup) (hi:X.N[i]?=some x) (hx:wR X.env.scope x) (he:PE X e te) (hs:swapsWith e (some (.Name x pos')) pos.line X.env=pure false:=by rfl) (hf:X.fn x=true\/X.env.scope.names.lookup x=some .local:=by first | exact .inl rfl | exact .inr rfl | assumption) :
  PS X (.Assign [.Name x pos'] e pos) (Ma te (yW i)):=by
 intro a s b H D I h;refine wpAny_Assign_Name (mR (he a s b H _ I h) λv l ⟨y,j,g,c,d⟩=>?_) hs;exact Nk g hN hi hx c (λk f=>⟨_,j,f,d⟩) hf
def KN (i:Nat) (te:TE) (ti:Lm):TS:=λD σ H=>∃ x,σ[i]?=some (some x)/\te σ H λy H1=>ti x y H1 λz H2=>D.nx (σ.set i (some z)) H2
theorem RJ (hN:X.N.Nodup) (hi:X.N[i]?=some x) (hx:wR X.env.scope x) (he:PE X e te) (ho:Me X op ti) (hf:X.fn x=true\/X.env.scope.names.lookup x=some .local:=by first | exact .inl rfl | exact .inr rfl | assumption) :
  PS X (.AugAssign (.Name x pos') op e pos) (KN i te ti):=by
 intro a s o H D I h;obtain⟨v,O,h⟩:=h;obtain⟨m,E,L⟩:=I.loc;have j:Fw X.env.scope x:=by rcases hx with k | k;exact .inl k;exact .inr (.inl k)
 obtain⟨u,r,l⟩:=L i x v hi O j;refine wpAny_AugAssign_Name ?_;have go:wpAny (model X.prog X.w) X.A (eval e X.env) (λw g=>wpAny (model X.prog X.w) X.A (inplaceOp op u w) (λr f=>wpAny (model X.prog X.w) X.A (storeName X.env x r) (λ_=>SP X a D .next) X.xe f) X.xe g) X.xe s:=by
  refine mR (he a s o H _ I h) λw p ⟨y,V,T,t,C⟩=>?_
  refine mR (ho a p o V v y u w _ T r t C) λz Z ⟨W,U,S,q,B⟩=>?_
  exact Nk S hN hi hx q (λY Q=>⟨_,U,Q,B⟩) hf
 rcases l with⟨b,F⟩ | ⟨b,c,M,d⟩
 ·exact wpAny_loadName_local I.ok.kind b E F go
 ·rcases b with b | b
  ·exact wpAny_loadName_cell I.ok.kind b M d go
  ·rcases hx with k | k
   ·have:X.env.scope.names.lookup x=some .free:=b;rw[k] at this;cases this
   ·have:X.env.scope.names.lookup x=some .free:=b;rw[k] at this;cases this
def Ss (f:Int->Int->Int):Lm:=λx y H Q=>∃ i j,x = .int i/\y = .int j/\Q (.int (f i j)) H
theorem U6:Me X .Add (Ss λi j=>i+j):=by
 intro a s f H x y v u Q I c b h;obtain⟨i,j,e,d,q⟩:=h;subst e;subst d;obtain⟨t,rfl⟩:=c;obtain⟨g,rfl⟩:=b;exact iadd_int ⟨.int _,H,I.tok _,⟨_,rfl⟩,q⟩
end
section
variable {X:Cx}
def GZ (c:TT) (tb:TS):TS:=λD σ H=>∃ W:Nat->St->Hp->Prop,(∃ m,W m σ H)/\∀ m σ H,W m σ H ->
 c σ H λb H1=>if b=true then ∃ N:St->Hp->Prop,(∀ σ' H',N σ' H'->∃ m',m'<m/\W m' σ' H')/\tb { D with nx:=N,ct:=N,bk:=D.nx } σ H1 else D.nx σ H1
theorem IA (hp:PassesOwn (model X.prog X.w) X.A X.env X.xe) (hc:PT X c tc) (hb:qL X body tb):PS X (.While c body [] pos) (GZ tc tb):=by
 intro d s B H D I h;obtain⟨W,⟨O,E⟩,i⟩:=h;refine wpAny_While (codeAny_whileLoop (λn M=>∃ g z,Inv X d g z M/\W n g z) ?_ O ⟨B,H,I,E⟩);rintro n L ⟨e,y,Q,C⟩;refine hZ hp (mR (hc d L e y _ Q (i n e y C)) λb F ⟨x,u,l⟩=>?_);cases b with
 | true =>
  obtain⟨N,t,l⟩:=l;rw[aP rfl];refine hZ hp (mR (hb d F e x _ u l) λf S k=>?_);cases f with
  | next =>
   obtain⟨a,j,r,o⟩:=k;obtain⟨p,q,m⟩:=t a j o;exact⟨p,q,a,j,r,m⟩
  | cont =>
   obtain⟨a,j,r,o⟩:=k;obtain⟨p,q,m⟩:=t a j o;exact⟨p,q,a,j,r,m⟩
  | brk=>exact k
  | ret v=>exact k
 | false =>
  rw[aM bF];exact kU ⟨e,x,u,l⟩
end
structure It where
 go:Nat->Hp->Prop
 yld:Nat->Hp->V->Hp->Prop
 stop:Nat->Hp->Prop
def uA (X:Cx) (pins:List (Addr×Obj)) (H:Hp) (b:Addr):Prop :=
 H b=none/\b≠X.env.locals/\b∉X.fs/\(b∈X.ex\/X.s₀.heap.objs.size<=b)/\(∀ x c,X.env.cells.lookup x=some c->c≠b)/\∀ p∈X.pn++pins,p.1≠b
theorem Inv.fpOk {X:Cx}(I:Inv X pins σ H s) (hb:s.heap.objs.size<=b) (hn:H' b=none):uA X pins H' b:=by
 refine⟨hn,iC (bI I.lt hb),I.nofs hb,.inr (bY I.sz hb),λx c e z=>?_,λp a z=>?_⟩
 ·obtain⟨v,q⟩:=I.cell x c e;exact absurd (bI q.lt (by rw[z];exact hb)) (gD _)
 ·exact absurd (bI (aY (I.pin p a).1) (by rw[z];exact hb)) (gD _)
structure Turn (P:Program) (w:World) (K:mC) (tg:Expr) (J:It) (fp:List Addr) (it:Addr) (tn:Nat->Heap->Prop):Prop where
 mem:it∈fp
 obj:∀ i h,tn i h->∀ b∈fp,∃ o,h.get? b=some o/\∀ v,o.data ≠ .cell v
 keep:∀ i h h',tn i h->(∀ b∈fp,∀ o,h.get? b=some o->h'.get? b=some o)->tn i h'
 item:∀ (X:Cx),X.prog=P->X.w=w->X.K=K->X.calm=true->∀ (i:Nat) (pins:List (Addr×Obj)) (s:Shared) (σ:St) (H:Hp) (E:Value->Shared->Prop),Inv X pins σ H s->(∀ b∈fp,uA X pins H b)->tn i s.heap->J.go i H ->
  wpAny (model P w) X.A (pyNext (.ref it)) (λr s1=>∃ u,r=some u /\ wpAny (model P w) X.A (letOwnedTupleGo tg (.ref it) u) (λ_ s2=>∃ x H',Inv X pins σ H' s2/\nB x u/\J.yld i H x H'/\tn (i+1) s2.heap/\∀ b∈fp,H' b=none) E s1) E s
 done:∀ (X:Cx),X.prog=P->X.w=w->X.K=K->X.calm=true->∀ (i:Nat) (pins:List (Addr×Obj)) (s:Shared) (σ:St) (H:Hp) (E:Value->Shared->Prop),Inv X pins σ H s->(∀ b∈fp,uA X pins H b)->tn i s.heap->J.stop i H ->
  wpAny (model P w) X.A (pyNext (.ref it)) (λr s1=>r=none/\Inv X pins σ H s1) E s
 self:∀ (A:Around) (i:Nat) (s:Shared) (Q:Value->Shared->Prop) (E:Value->Shared->Prop),tn i s.heap->Q (.ref it) s->wpAny (model P w) A (pyIter (.ref it)) Q E s
abbrev TI:=St->Hp->(It->Hp->Prop)->Prop
def T0 (X:Cx) (pins:List (Addr×Obj)) (σ:St) (tg:Expr) (R:It->Hp->Prop) (itv:Value) (s2:Shared):Prop :=
 ∃ (it:Addr) (fp:List Addr) (tn:Nat->Heap->Prop) (J:It) (H':Hp),itv = .ref it/\Inv X pins σ H' s2/\Turn X.prog X.w X.K tg J fp it tn/\tn 0 s2.heap/\(∀ b∈fp,uA X pins H' b)/\R J H'
def PI (X:Cx) (tg iter:Expr) (wi:TI):Prop :=
 ∀ (pins:List (Addr×Obj)) (s:Shared) (σ:St) (H:Hp) (R:It->Hp->Prop),Inv X pins σ H s->wi σ H R ->
  wpAny (model X.prog X.w) X.A (eval iter X.env) (λv s1=>wpAny (model X.prog X.w) X.A (pyIter v) (T0 X pins σ tg R) X.xe s1) X.xe s
theorem zU (ho:s.heap.get? it=some o) (hc:o.cls = .type n) (hd:o.data = .fields vs)
  (hn:["enumerate","zip","dict_itemiterator","dict_reverseitemiterator","odict_iterator","itertools.zip_longest","itertools.pairwise"].contains n=false) (hQ:Q () s):wpAny M A (letOwnedTupleGo tg (.ref it) u) Q E s:=by
 unfold letOwnedTupleGo;cases tg<;>first
  | exact aF hQ
  | (cases u<;>first
    | exact aF hQ
    | (refine aB (wpAny_load ho ?_);rw[hc,hd];show wpAny M A (if (["enumerate","zip","dict_itemiterator","dict_reverseitemiterator","odict_iterator","itertools.zip_longest","itertools.pairwise"].contains n&&vs[0]? == some (rawInt _))=true then _ else _) Q E s;rw[aM (by intro h;rw[hn,Bool.false_and] at h;cases h)];exact aF hQ))
def xI (K:mC) (a:Addr):It :=
 ⟨λi H=>∃ xs x,mG K H a xs/\xs[i]?=some x,λi H x H'=>H'=H/\∀ xs,mG K H a xs->xs[i]?=some x,λi H=>∃ xs,mG K H a xs/\xs.length<=i⟩
def Bi (K:mC) (a:Addr):It :=
 ⟨λi H=>∃ xs x,nL K H a xs/\xs[i]?=some x,λi H x H'=>H'=H/\∀ xs,nL K H a xs->xs[i]?=some x,λi H=>∃ xs,nL K H a xs/\xs.length<=i⟩
def vE (lo:Int) (n:Nat):It:=⟨λi _=>i<n,λi H x H'=>H'=H/\x = .int (lo+i),λi _=>n<=i⟩
theorem Tf {P:Program}{K:mC}(a it:Addr):Turn P w K tg (xI K a) [it] it (λi h=>h.IsListIter it a i) where
 mem:=by simp
 obj:=λi h st b g=>by
  have e:b=it:=by simpa using g
  subst e;obtain⟨o,e,c,d⟩:=st;exact⟨o,e,λv z=>by rw[d] at z;cases z⟩
 keep:=λi h q st k=>st.at λo e=>k it (by simp) o e
 item:=by
  intro X C hw F S i f s Q H E I m st B;subst C hw F;obtain⟨T,x,l,y⟩:=B;obtain⟨t,r,p,W⟩:=I.list l;obtain⟨u,Z,V⟩:=r.get y;obtain⟨O,f1,f2,N,M,L⟩:=m it (by simp);refine wpAny_pyNext_list_item st p.isList (x:=u) (by simpa using Z) λq j U=>?_
  have I1:Inv X f Q H { s with heap:=q }:=I.turned (t':=s.toks) (λb o g e=>(U.2 b g).trans e) O f1 N M L;obtain⟨o,e,c,d⟩:=id j;exact⟨u,rfl,zU (s:={ s with heap:=q }) e c d (by decide) ⟨x,H,I1,V,⟨rfl,λys Y=>by rw[I.list_inj Y l];exact y⟩,j,λb g=>(m b g).1⟩⟩
 done:=by
  intro X C hw F S i f s Q H E I m st B;subst C hw F;obtain⟨T,l,y⟩:=B;obtain⟨t,r,p,W⟩:=I.list l;obtain⟨O,f1,f2,N,M,L⟩:=m it (by simp);have hl:=r.length;exact wpAny_pyNext_list_end (I.ok.hd S) st p.isList (by simp;omega) λq eb=>⟨rfl,I.turned (t':=s.toks) (λb o g e=>eb b o g e) O f1 N M L⟩
 self:=λ_ _ _ _ _ st h=>wpAny_pyIter_listiter st h
theorem JO {P:Program}{K:mC}(a it:Addr):Turn P w K tg (Bi K a) [it] it (λi h=>h.IsTupleIter it a i) where
 mem:=by simp
 obj:=λi h st b j=>by
  have e:b=it:=by simpa using j
  subst e;obtain⟨o,e,c,d⟩:=st;exact⟨o,e,λv z=>by rw[d] at z;cases z⟩
 keep:=λi h r st k=>st.at λo e=>k it (by simp) o e
 item:=by
  intro X C hw F S i f s Q H E I q st B;subst C hw F;obtain⟨T,x,m,y⟩:=B;obtain⟨g,t,p,W⟩:=I.tuple m;obtain⟨u,Z,V⟩:=t.get y;obtain⟨O,f1,f2,N,M,L⟩:=q it (by simp);refine wpAny_pyNext_tuple_item st (show s.heap.IsTuple a g.toArray from p) (x:=u) (by simpa using Z) λr l U=>?_
  have I1:Inv X f Q H { s with heap:=r }:=I.turned (t':=s.toks) (λb o j e=>(U.2 b j).trans e) O f1 N M L;obtain⟨o,e,c,d⟩:=id l;exact⟨u,rfl,zU (s:={ s with heap:=r }) e c d (by decide) ⟨x,H,I1,V,⟨rfl,λys Y=>by rw[I.tuple_inj Y m];exact y⟩,l,λb j=>(q b j).1⟩⟩
 done:=by
  intro X C hw F S i f s Q H E I q st B;subst C hw F;obtain⟨T,m,y⟩:=B;obtain⟨g,t,p,W⟩:=I.tuple m;obtain⟨O,f1,f2,N,M,L⟩:=q it (by simp);have hl:=t.length;exact wpAny_pyNext_tuple_end (I.ok.hd S) st (show s.heap.IsTuple a g.toArray from p) (by simp;omega) λr eb=>⟨rfl,I.turned (t':=s.toks) (λb o j e=>eb b o j e) O f1 N M L⟩
 self:=λ_ _ _ _ _ st h=>wpAny_pyIter_tupleiter st h
theorem PH {P:Program}{K:mC}(it:Addr) (lo:Int) (n:Nat):Turn P w K tg (vE lo n) [it] it (λi h=>IsRangeIter h it (lo+(i:Nat)*1) ((n:Int)-(i:Nat)) 1) where
 mem:=by simp
 obj:=λi h st b c=>by
  have e:b=it:=by simpa using c
  subst e;exact⟨_,st,λv z=>by
   have C:Data.fields _=Data.cell v:=z;cases C⟩
 keep:=λi h g st k=>k it (by simp) _ st
 item:=by
  intro X m hw p l i a s y H E I f st j;subst m hw p;obtain⟨x,f1,f2,u,r,q⟩:=f it (by simp);have W:=Walks.range (prog:=X.prog) (w:=X.w) (I.ok.hd l) it lo 1 n;refine W.item i s _ _ j st λv g B L d F=>?_
  obtain⟨t,rfl⟩:=L;have N:Inv X a y H { s with heap:=g,toks:=B }:=I.turned (λb o c e=>F b o (by simpa using c) e) x f1 u r q;refine⟨_,rfl,zU (s:={ s with heap:=g,toks:=B }) (n := "range_iterator") d rfl rfl (by decide) ⟨.int (lo+i),H,N,⟨t,?_⟩,⟨rfl,rfl⟩,d,λb c=>(f b c).1⟩⟩;rw[Int.mul_one]
 done:=by
  intro X m hw p l i a s y H E I f st j;subst m hw p;obtain⟨x,f1,f2,u,r,q⟩:=f it (by simp);exact wpAny_pyNext_range_end (I.ok.hd l) st (by have:n<=i:=j;omega) λg M=>⟨rfl,I.turned (t':=s.toks) (λb o c e=>M b o c e) x f1 u r q⟩
 self:=λ_ _ _ _ _ st h=>wpAny_pyIter_rangeiter st h
section
variable {X:Cx}
def QV (K:mC) (tl:TE):TI:=λσ H R=>tl σ H λx H1=>∃ a,x = .ref a/\(∃ xs,mG K H1 a xs)/\R (xI K a) H1
theorem KZ (hl:PE X l tl):PI X tg l (QV X.K tl):=by
 intro c s g H R I h;refine mR (hl c s g H _ I h) λv d ⟨x,t,f,i,j⟩=>?_
 obtain⟨a,e,⟨u,m⟩,q⟩:=j;subst e;cases i;obtain⟨k,y,p,z⟩:=f.list m;refine gG p.isList ?_;refine⟨d.heap.objs.size,[d.heap.objs.size],_,_,t,rfl,f.kept (t':=d.toks) λb o e=>aE _ e,Tf a _,⟨_,bB _ rfl,rfl,rfl⟩,λb r=>?_,q⟩;have e:b=d.heap.objs.size:=by simpa using r
 subst e;exact f.fpOk (aZ _) (f.hok.fresh (aZ _))
theorem QU {R:It->Hp->Prop}{lo:Int}(I:Inv X pins σ H s) (h1:-(2 ^ 62)<=lo) (h2:lo<2 ^ 62) (h3:-(2 ^ 62)<=hi) (h4:hi<2 ^ 62)
  (q:R (vE lo (hi-lo).toNat) H):wpAny (model X.prog X.w) X.A (pyIter (.ref s.heap.objs.size)) (T0 X pins σ tg R) E { s with heap:=s.heap.push { cls:=.type "range",data:=.fields #[.int lo t,.int hi u,.int 1 v] },toks:=tk }:=by
 refine wpAny_pyIter_range (IsRange.new ..) (small_one h1 h2 h3 h4) ?_;have a:Inv X pins σ H { s with heap:=s.heap.push { cls:=.type "range",data:=.fields #[.int lo t,.int hi u,.int 1 v] },toks:=tk }:=I.kept λb o e=>aE _ e
 refine⟨(s.heap.push { cls:=.type "range",data:=.fields #[.int lo t,.int hi u,.int 1 v] }).objs.size,[(s.heap.push { cls:=.type "range",data:=.fields #[.int lo t,.int hi u,.int 1 v] }).objs.size],_,_,H,rfl,
  a.kept (t':=tk) λb o e=>aE _ e,PH _ lo (hi-lo).toNat,?_,λb c=>?_,q⟩
 ·have f:lo+((0:Nat):Int)*1=lo:=by simp
  have d:(((hi-lo).toNat:Nat):Int)-((0:Nat):Int)=Builtin.Range.rangeSize lo hi 1:=by rw[rangeSize_one];split<;>omega
  show IsRangeIter _ _ (lo+((0:Nat):Int)*1) ((((hi-lo).toNat:Nat):Int)-((0:Nat):Int)) 1;rw[f,d];exact bB _ rfl
 ·have e:b=(s.heap.push { cls:=.type "range",data:=.fields #[.int lo t,.int hi u,.int 1 v] }).objs.size:=by simpa using c
  subst e;exact a.fpOk (aZ _) (a.hok.fresh (aZ _))
def IB (ta:TA):TI:=λσ H R=>ta σ H λvs H1=>∃ j:Int,vs=[.int j]/\-(2 ^ 62)<=j/\j<2 ^ 62/\R (vE 0 j.toNat) H1
theorem Bv (hg:Gl X "range") (hm:X.mg "range" = none) (ha:PA X [a] ta) (hs:starEach [a] X.env=[(false,eval a X.env)]:=by rfl):PI X tg (.Call (.Name "range" p) [a] [] pos) (IB ta):=by
 intro b s d H R I h;refine Call_ (yP I hg hm boot_range (dY (mR (ha pos b s d H _ I h) λm o ⟨l,u,k,g,c⟩=>?_) hs rfl));obtain⟨j,e,c,i,q⟩:=c;subst e;cases g with
 | cons r f =>
  cases f;obtain⟨t,rfl⟩:=r;exact call_range_1 (QU k (by omega) (by omega) c i (by simpa using q))
def ID (wi:TI) (g:TG) (tb:TS):TS:=λD σ H=>wi σ H λJ H1=>∃ W:Nat->Nat->St->Hp->Prop,(∃ m,W 0 m σ H1)/\∀ i m σ H,W i m σ H ->
 (J.stop i H/\D.nx σ H)\/(J.go i H/\∃ N:St->Hp->Prop,(∀ σ' H',N σ' H'->∃ m',m'<m/\W (i+1) m' σ' H')/\∀ x H',J.yld i H x H'->g x σ H' λσ2 H2=>tb { D with nx:=N,ct:=N,bk:=D.nx } σ2 H2)
def Ek (fp:List Addr) (h:Heap):List (Addr×Obj):=fp.filterMap λb=>(h.get? b).map λo=>(b,o)
theorem Fs (hb:b∈fp) (e:h.get? b=some o):(b,o)∈Ek fp h:=lC.mpr ⟨b,hb,by rw[e];rfl⟩
theorem RN (hp:p∈Ek fp h):p.1∈fp/\h.get? p.1=some p.2:=by
 obtain⟨b,a,e⟩:=lC.mp hp;cases q:h.get? b with
 | none=>rw[q] at e;cases e
 | some o =>
  rw[q] at e;have c:(b,o)=p:=cA e;subst c;exact⟨a,q⟩
theorem Inv.pinned (I:Inv X pins σ H s) (hf:∀ b∈fp,uA X pins H b) (ho:∀ b∈fp,∃ o,s.heap.get? b=some o/\∀ v,o.data ≠ .cell v):Inv X (pins++Ek fp s.heap) σ H s :=
 I.pins_of λp f=>(aR.mp f).elim (λz=>I.pin p (aN _ z)) λz=>by
  obtain⟨a,e⟩:=RN z;obtain⟨g,f1,f2,_⟩:=hf p.1 a;obtain⟨o,c,d⟩:=ho p.1 a;rw[e] at c;cases c;exact⟨e,g,f1,f2,d⟩
theorem Inv.unpinned (I:Inv X (pins++pl) σ H s):Inv X pins σ H s:=I.pins_of λp a=>I.pin p (aN _ (bC _ a))
theorem Af {iter:Expr}(hp:PassesOwn (model X.prog X.w) X.A X.env X.xe) (hc:X.calm=true) (hi:PI X tg iter wi) (hg:PG X tg g) (hb:qL X body tb)
  (hs:∀ x,foldedSetIterable iter X.env x=pure x:=by intro _;rfl):PS X (.For tg iter body [] pos) (ID wi g tb):=by
 intro c s Y H D I h;refine wpAny_For (mR (hi c s Y H _ I h) λv s1 h1=>mR h1 λaa s2 h2=>?_) hs;obtain⟨it,fp,Z,J,H2,e,I2,T,O,f2,W,⟨m0,w0⟩,B⟩:=h2;subst e;have l:∀ {t:Hp},(∀ b∈fp,t b=none)->∀ b∈fp,uA X c t b:=λhn b hb=>⟨hn b hb,(f2 b hb).2⟩
 refine codeAny_forLoop_any (λn s'=>∃ i k t,Inv X c k t s'/\Z i s'.heap/\(∀ b∈fp,t b=none)/\W i n k t) ?_ m0 ⟨0,Y,H2,I2,O,λb hb=>(f2 b hb).1,w0⟩;rintro n s3 ⟨i,j,L,I3,C,F,w3⟩;rcases B i n j L w3 with⟨stop,qn⟩ | ⟨go,N,hN,step⟩
 ·refine hZ hp (mR (T.done X rfl rfl rfl hc i c s3 j L X.xe I3 (l F) C stop) λr s4 ⟨S,I4⟩=>?_);subst S;exact kU ⟨j,L,I4,qn⟩
 ·refine hZ hp (mR (T.item X rfl rfl rfl hc i c s3 j L X.xe I3 (l F) C go) λr s4 ⟨u,S,h4⟩=>?_);subst S;refine hZ hp (mR h4 λ_ s5 ⟨x,H5,I5,r5,y5,z,U⟩=>?_);have V:=I5.pinned (l U) (T.obj _ _ z);refine hZ hp (mR (hg _ s5 j H5 x u _ V r5 (step x H5 y5)) λ_ s6 ⟨M,H6,I6,q6⟩=>?_);refine hZ hp (mR (hb _ s6 M H6 _ I6 q6) λf Q y=>?_);have again:∀ {a:St} {q:Hp},Inv X (c++Ek fp s5.heap) a q Q->N a q->∃ m,m<n/\∃ i k t,Inv X c k t Q/\Z i Q.heap/\(∀ b∈fp,t b=none)/\W i m k t:=λ{a q} p E=>by
   obtain⟨m',hm,w7⟩:=hN a q E;refine⟨m',hm,i+1,a,q,p.unpinned,T.keep _ _ _ z λb hb o e=>(p.pin (b,o) (aN _ (aN _ (Fs hb e)))).1,λb hb=>?_,w7⟩;obtain⟨o,e,d⟩:=T.obj _ _ z b hb;exact (p.pin (b,o) (aN _ (aN _ (Fs hb e)))).2.1
  cases f with
  | next=>obtain⟨a,q,p,E⟩:=y;exact again p E
  | cont=>obtain⟨a,q,p,E⟩:=y;exact again p E
  | brk=>obtain⟨a,q,p,y⟩:=y;exact⟨a,q,p.unpinned,y⟩
  | ret v=>obtain⟨x7,a,q,p,r7,y⟩:=y;exact⟨x7,a,q,p.unpinned,r7,y⟩
end
theorem DR {K:mC}{a:Addr}{xs:List V}{g:TG}{tb:TS}{D:Ends}{σ:St}{H:Hp}(Pv:Nat->St->Hp->Prop) (h0:Pv 0 σ H) (hl:∀ i σ H,i<=xs.length->Pv i σ H->mG K H a xs)
  (hs:∀ i x σ H,xs[i]?=some x->Pv i σ H->g x σ H λσ2 H2=>tb { D with nx:=Pv (i+1),ct:=Pv (i+1),bk:=D.nx } σ2 H2) (hd:∀ σ H,Pv xs.length σ H->D.nx σ H) :
  ∃ W:Nat->Nat->St->Hp->Prop,(∃ m,W 0 m σ H)/\∀ i m σ H,W i m σ H ->
   ((xI K a).stop i H/\D.nx σ H)\/((xI K a).go i H/\∃ N:St->Hp->Prop,(∀ σ' H',N σ' H'->∃ m',m'<m/\W (i+1) m' σ' H')/\∀ x H',(xI K a).yld i H x H'->g x σ H' λσ2 H2=>tb { D with nx:=N,ct:=N,bk:=D.nx } σ2 H2):=by
 refine⟨λi m σ H=>m=xs.length-i/\i<=xs.length/\Pv i σ H,⟨xs.length,by simp,cO _,h0⟩,?_⟩;rintro i m σ H ⟨rfl,d,p⟩;have q:=hl i σ H d p;by_cases b:i<xs.length
 ·refine .inr ⟨⟨xs,xs[i],q,by simp[b]⟩,Pv (i+1),λσ' H' c=>⟨xs.length-(i+1),by omega,rfl,b,c⟩,λx H' y=>?_⟩;obtain⟨e,y⟩:=y;subst e;exact hs i x σ _ (y xs q) p
 ·have e:i=xs.length:=by omega
  subst e;exact .inl ⟨⟨xs,q,aZ _⟩,hd σ H p⟩
theorem EF {K:mC}{a:Addr}{xs:List V}{g:TG}{tb:TS}{D:Ends}{σ:St}{H:Hp}(Pv:Nat->St->Hp->Prop) (h0:Pv 0 σ H) (hl:∀ i σ H,i<=xs.length->Pv i σ H->nL K H a xs)
  (hs:∀ i x σ H,xs[i]?=some x->Pv i σ H->g x σ H λσ2 H2=>tb { D with nx:=Pv (i+1),ct:=Pv (i+1),bk:=D.nx } σ2 H2) (hd:∀ σ H,Pv xs.length σ H->D.nx σ H) :
  ∃ W:Nat->Nat->St->Hp->Prop,(∃ m,W 0 m σ H)/\∀ i m σ H,W i m σ H ->
   ((Bi K a).stop i H/\D.nx σ H)\/((Bi K a).go i H/\∃ N:St->Hp->Prop,(∀ σ' H',N σ' H'->∃ m',m'<m/\W (i+1) m' σ' H')/\∀ x H',(Bi K a).yld i H x H'->g x σ H' λσ2 H2=>tb { D with nx:=N,ct:=N,bk:=D.nx } σ2 H2):=by
 refine⟨λi m σ H=>m=xs.length-i/\i<=xs.length/\Pv i σ H,⟨xs.length,by simp,cO _,h0⟩,?_⟩;rintro i m σ H ⟨rfl,d,p⟩;have q:=hl i σ H d p;by_cases b:i<xs.length
 ·refine .inr ⟨⟨xs,xs[i],q,by simp[b]⟩,Pv (i+1),λσ' H' c=>⟨xs.length-(i+1),by omega,rfl,b,c⟩,λx H' y=>?_⟩;obtain⟨e,y⟩:=y;subst e;exact hs i x σ _ (y xs q) p
 ·have e:i=xs.length:=by omega
  subst e;exact .inl ⟨⟨xs,q,aZ _⟩,hd σ H p⟩
theorem Jg {lo:Int}{n:Nat}{g:TG}{tb:TS}{D:Ends}{σ:St}{H:Hp}(Pv:Nat->St->Hp->Prop) (h0:Pv 0 σ H)
  (hs:∀ i σ H,i<n->Pv i σ H->g (.int (lo+i)) σ H λσ2 H2=>tb { D with nx:=Pv (i+1),ct:=Pv (i+1),bk:=D.nx } σ2 H2) (hd:∀ σ H,Pv n σ H->D.nx σ H) :
  ∃ W:Nat->Nat->St->Hp->Prop,(∃ m,W 0 m σ H)/\∀ i m σ H,W i m σ H ->
   ((vE lo n).stop i H/\D.nx σ H)\/((vE lo n).go i H/\∃ N:St->Hp->Prop,(∀ σ' H',N σ' H'->∃ m',m'<m/\W (i+1) m' σ' H')/\∀ x H',(vE lo n).yld i H x H'->g x σ H' λσ2 H2=>tb { D with nx:=N,ct:=N,bk:=D.nx } σ2 H2):=by
 refine⟨λi m σ H=>m=n-i/\i<=n/\Pv i σ H,⟨n,by simp,cO _,h0⟩,?_⟩;rintro i m σ H ⟨rfl,c,p⟩;by_cases a:i<n
 ·refine .inr ⟨a,Pv (i+1),λσ' H' b=>⟨n-(i+1),by omega,rfl,a,b⟩,λx H' y=>?_⟩;obtain⟨e,y⟩:=y;subst e y;exact hs i σ _ a p
 ·have e:i=n:=by omega
  subst e;exact .inl ⟨aZ _,hd σ H p⟩
abbrev R2:=V->V->Hp->VK->Prop
def nH (X:Cx) (f:Value->Value->Sem Value) (r:R2):Prop :=
 ∀ (pins:List (Addr×Obj)) (s:Shared) (σ:St) (H:Hp) (x y:V) (v u:Value) (Q:VK),Inv X pins σ H s->nB x v->nB y u->r x y H Q ->
  wpAny (model X.prog X.w) X.A (f v u) (EP X pins σ Q) X.xe s
def Jk (X:Cx) (f:Value->Sem Value) (r:V->Hp->VK->Prop):Prop :=
 ∀ (pins:List (Addr×Obj)) (s:Shared) (σ:St) (H:Hp) (x:V) (v:Value) (Q:VK),Inv X pins σ H s->nB x v->r x H Q ->
  wpAny (model X.prog X.w) X.A (f v) (EP X pins σ Q) X.xe s
def oP (X:Cx) (f:Value) (r:List V->Hp->VK->Prop):Prop :=
 ∀ (pins:List (Addr×Obj)) (s:Shared) (σ:St) (H:Hp) (xs:List V) (us:List Value) (Q:VK),Inv X pins σ H s->mX xs us->r xs H Q ->
  wpAny (model X.prog X.w) X.A (call f us) (EP X pins σ Q) X.xe s
def JS (X:Cx) (r:V->Hp->(Bool->Hp->Prop)->Prop):Prop :=
 ∀ (pins:List (Addr×Obj)) (s:Shared) (σ:St) (H:Hp) (x:V) (v:Value) (Q:Bool->Hp->Prop),Inv X pins σ H s->nB x v->r x H Q ->
  wpAny (model X.prog X.w) X.A (truthy v) (TP X pins σ Q) X.xe s
def Ca (r:R2) (ta tb:TE):TE:=λσ H Q=>ta σ H λx H1=>tb σ H1 λy H2=>r x y H2 Q
def Y2 (r:V->Hp->VK->Prop) (ta:TE):TE:=λσ H Q=>ta σ H λx H1=>r x H1 Q
def rI (C:Int->Int->Prop) (g:Int->Int->V):R2:=λx y H Q=>∃ i j,x = .int i/\y = .int j/\C i j/\Q (g i j) H
def tY (g:Int->Int->V):R2:=λx y H Q=>∃ i j,x = .int i/\y = .int j/\Q (g i j) H
def rU (g:Int->V):V->Hp->VK->Prop:=λx H Q=>∃ i,x = .int i/\Q (g i) H
section
variable {X:Cx}
theorem Oi (ha:PE X a ta) (hb:PE X b tb){pins:List (Addr×Obj)}{s:Shared}{σ:St}{H:Hp}{R:V->V->Hp->Prop}(I:Inv X pins σ H s)
  (h:ta σ H λx H1=>tb σ H1 λy H2=>R x y H2){Q:Value->Shared->Prop}{f:Value->Value->Sem Value}
  (hf:∀ v u s2 x y H2,Inv X pins σ H2 s2->nB x v->nB y u->R x y H2->wpAny (model X.prog X.w) X.A (f v u) Q X.xe s2) :
  wpAny (model X.prog X.w) X.A (eval a X.env) (λv s₁=>wpAny (model X.prog X.w) X.A (eval b X.env) (λu s₂=>wpAny (model X.prog X.w) X.A (f v u) Q X.xe s₂) X.xe s₁) X.xe s:=by
 refine mR (ha pins s σ H _ I h) λv c ⟨x,H1,k,e,i⟩=>?_
 refine mR (hb pins c σ H1 _ k i) λu s2 ⟨y,H2,j,d,g⟩=>?_
 exact hf v u s2 x y H2 j e d g
theorem nW (ho:nH X (binaryOp op) r) (ha:PE X a ta) (hb:PE X b tb):PE X (.BinOp a op b pos) (Ca r ta tb):=by
 intro c s d H Q I h;exact wpAny_BinOp (Oi ha hb I h λv u e x y j i g f q=>ho c e d j x y v u Q i g f q)
theorem HA (ho:Jk X (unaryOp op) r) (ha:PE X a ta):PE X (.UnaryOp op a pos) (Y2 r ta):=by
 intro b s c H Q I h;exact UnaryOp_ (mR (ha b s c H _ I h) λv d ⟨x,i,g,e,f⟩=>ho b d c i x v Q g e f)
theorem zL {f:Value->Value->Sem Value}{C:Int->Int->Prop}{g:Int->Int->Int}
  (rule:∀ (i j:Int) (t u:Tok) (s:Shared) (Q:Value->Shared->Prop) (E:Value->Shared->Prop),C i j->Q (.int (g i j) s.toks) { s with toks:=s.toks+1 }->wpAny (model X.prog X.w) X.A (f (.int i t) (.int j u)) Q E s) :
  nH X f (rI C λi j=>.int (g i j)):=by
 intro a s k H x y v u Q I d c h;obtain⟨i,j,rfl,rfl,e,q⟩:=h;obtain⟨t,rfl⟩:=d;obtain⟨b,rfl⟩:=c;exact rule i j t b s _ _ e ⟨.int (g i j),H,I.tok _,⟨_,rfl⟩,q⟩
theorem M3 {f:Value->Value->Sem Value}{g:Int->Int->Int}
  (rule:∀ (i j:Int) (t u:Tok) (s:Shared) (Q:Value->Shared->Prop) (E:Value->Shared->Prop),Q (.int (g i j) s.toks) { s with toks:=s.toks+1 }->wpAny (model X.prog X.w) X.A (f (.int i t) (.int j u)) Q E s) :
  nH X f (tY λi j=>.int (g i j)):=by
 intro a s e H x y v u Q I d c h;obtain⟨i,j,rfl,rfl,q⟩:=h;obtain⟨t,rfl⟩:=d;obtain⟨b,rfl⟩:=c;exact rule i j t b s _ _ ⟨.int (g i j),H,I.tok _,⟨_,rfl⟩,q⟩
theorem Lb {f:Value->Value->Sem Value}{g:Int->Int->Bool}
  (rule:∀ (i j:Int) (t u:Tok) (s:Shared) (Q:Value->Shared->Prop) (E:Value->Shared->Prop),Q (.bool (g i j)) s->wpAny (model X.prog X.w) X.A (f (.int i t) (.int j u)) Q E s) :
  nH X f (tY λi j=>.bl (g i j)):=by
 intro a s e H x y v u Q I d c h;obtain⟨i,j,rfl,rfl,q⟩:=h;obtain⟨t,rfl⟩:=d;obtain⟨b,rfl⟩:=c;exact rule i j t b s _ _ ⟨.bl (g i j),H,I,rfl,q⟩
def OQ (i j:Int):Prop:=0<j/\j<1073741824
def Fp (i j:Int):Prop:=0<=j/\j<=1000000/\i.natAbs<2 ^ 64
def Ht (i j:Int):Prop:=(-(2 ^ 64)<i/\i<2 ^ 64)\/(-(2 ^ 64)<j/\j<2 ^ 64)
theorem Ht.ok (h:Ht i j):IntMulOk i j:=by
 rcases h with⟨b,a⟩ | ⟨b,a⟩
 ·exact .of_left (intBits_le_64 b a)
 ·exact .of_right (intBits_le_64 b a)
theorem Zj (k:Nat):(0:Int)<=2 ^ k:=by
 rw[two_pow_cast];exact Int.natCast_nonneg _
theorem xH:nH X (binaryOp .Add) (tY λi j=>.int (i+j)):=M3 λ_ _ _ _ _ _ _ q=>add_int q
theorem xR:nH X (binaryOp .Sub) (tY λi j=>.int (i-j)):=M3 λ_ _ _ _ _ _ _ q=>sub_int q
theorem wS:nH X (binaryOp .Mult) (rI Ht λi j=>.int (i*j)):=zL λ_ _ _ _ _ _ _ a q=>mul_int q a.ok
theorem FV:nH X (binaryOp .FloorDiv) (rI OQ λi j=>.int (i/j)):=zL λi j _ _ _ _ _ a q=>by
 have c:(0:Int)<j:=a.1;have b:j<1073741824:=a.2;exact floordiv_int (by omega) (by rw[jA i (by omega)];exact q) (.inl (PyProof.noPylong_small (by omega)))
theorem tI:nH X (binaryOp .Mod) (rI (λ_ j=>0<j) λi j=>.int (i%j)):=zL λi j _ _ _ _ _ a q=>by
 have b:(0:Int)<j:=a;exact mod_int' (by omega) (by rw[Int.fmod_eq_emod_of_nonneg i (by omega)];exact q)
theorem Fv:nH X (binaryOp .Pow) (rI Fp λi j=>.int (i ^ j.toNat)):=zL λ_ _ _ _ _ _ _ a q=>pow_int_small a.1 a.2.1 a.2.2 q
theorem Kb:nH X (binaryOp .LShift) (rI Fp λi j=>.int (i*2 ^ j.toNat)):=zL λ_ _ _ _ _ _ _ a q=>lshift_int_small a.1 a.2.1 a.2.2 q
theorem JC:nH X (binaryOp .RShift) (rI (λ_ j=>0<=j) λi j=>.int (i/2 ^ j.toNat)):=zL λi j _ _ _ _ _ a q =>
 rshift_int a (by rw[jA i (Zj _)];exact q)
theorem OE:nH X (binaryOp .BitAnd) (tY λi j=>.int (Builtin.bitAnd i j)):=M3 λ_ _ _ _ _ _ _ q=>and_int q
theorem OF {f:Value->Sem Value}{g:Int->Int}
  (rule:∀ (i:Int) (t:Tok) (s:Shared) (Q:Value->Shared->Prop) (E:Value->Shared->Prop),Q (.int (g i) s.toks) { s with toks:=s.toks+1 }->wpAny (model X.prog X.w) X.A (f (.int i t)) Q E s) :
  Jk X f (rU λi=>.int (g i)):=by
 intro a s c H x v Q I b h;obtain⟨i,rfl,q⟩:=h;obtain⟨t,rfl⟩:=b;exact rule i t s _ _ ⟨.int (g i),H,I.tok _,⟨_,rfl⟩,q⟩
theorem DD:Jk X (unaryOp .USub) (rU λi=>.int (-i)):=OF λ_ _ _ _ _ q=>neg_int q
end
def Lg:V->V->Bool
 | .non,.non=>true | .non,.int _=>true | .int _,.non=>true | .non,.bl _=>true | .bl _,.non=>true | .non,.str _=>true | .str _,.non=>true
 | .int _,.int _=>true | .bl _,.bl _=>true | .str _,.str _=>true | .byt _,.byt _=>true
 | .int _,.str _=>true | .str _,.int _=>true | .bl _,.str _=>true | .str _,.bl _=>true
 | _,_=>false
def EN:R2:=λx y H Q=>Lg x y=true/\Q (.bl (decide (x=y))) H
def MJ:R2:=λx y H Q=>Lg x y=true/\Q (.bl (!decide (x=y))) H
theorem U5:decide (V.int i=V.int j)=(i == j):=by
 rw[iS];simp
theorem Wc:decide (V.bl i=V.bl j)=(i == j):=by
 rw[iS];simp
theorem Tr:decide (V.str i=V.str j)=(i == j):=by
 rw[iS];simp
theorem Wp:decide (V.byt i=V.byt j)=(i.toList == j.toList):=by
 rw[iS];cases i;cases j;simp
section
variable {X:Cx}
theorem pK (I:Inv X pins σ H s) (q:Q (.bl k) H) (e:k=k'):EP X pins σ Q (.bool k') s:=by
 subst e;exact⟨.bl k,H,I,rfl,q⟩
theorem E7:nH X (compareOp .Eq) EN:=by
 intro e s f H x y v u Q I d a h;obtain⟨c,q⟩:=h;cases x with
 | non =>
  cases d;cases y with
  | non=>cases a;exact PySem.EqNone.eq_none_none (pK I q (by simp))
  | bl j=>cases a;exact PySem.EqNone.eq_none_bool (pK I q (by simp))
  | int j=>obtain⟨b,rfl⟩:=a;exact PySem.EqNone.eq_none_int (pK I q (by simp))
  | str j=>obtain⟨b,rfl⟩:=a;exact PySem.EqNone.eq_none_str (pK I q (by simp))
  | _=>exact absurd (show false=true from c) bF
 | bl i =>
  cases d;cases y with
  | non=>cases a;exact PySem.EqNone.eq_bool_none (pK I q (by simp))
  | bl j=>cases a;exact eq_bool (pK I q Wc)
  | str j=>obtain⟨b,rfl⟩:=a;exact PySem.EqMixed.eq_bool_str (pK I q (by simp))
  | _=>exact absurd (show false=true from c) bF
 | int i =>
  obtain⟨t,rfl⟩:=d;cases y with
  | non=>cases a;exact PySem.EqNone.eq_int_none (pK I q (by simp))
  | int j=>obtain⟨b,rfl⟩:=a;exact eq_int (pK I q U5)
  | str j=>obtain⟨b,rfl⟩:=a;exact PySem.EqMixed.eq_int_str (pK I q (by simp))
  | _=>exact absurd (show false=true from c) bF
 | str i =>
  obtain⟨t,rfl⟩:=d;cases y with
  | non=>cases a;exact PySem.EqNone.eq_str_none (pK I q (by simp))
  | bl j=>cases a;exact PySem.EqMixed.eq_str_bool (pK I q (by simp))
  | int j=>obtain⟨b,rfl⟩:=a;exact PySem.EqMixed.eq_str_int (pK I q (by simp))
  | str j=>obtain⟨b,rfl⟩:=a;exact eq_str (pK I q Tr)
  | _=>exact absurd (show false=true from c) bF
 | byt i =>
  obtain⟨t,rfl⟩:=d;cases y with
  | byt j=>obtain⟨b,rfl⟩:=a;exact PySem.W.eq_bytes (pK I q Wp)
  | _=>exact absurd (show false=true from c) bF
 | _=>cases y<;>exact absurd (show false=true from c) bF
theorem RC:nH X (compareOp .NotEq) MJ:=by
 intro e s f H x y v u Q I d a h;obtain⟨c,q⟩:=h;cases x with
 | non =>
  cases d;cases y with
  | non=>cases a;exact PySem.EqNone.ne_none_none (pK I q (by simp))
  | bl j=>cases a;exact PySem.EqNone.ne_none_bool (pK I q (by simp))
  | int j=>obtain⟨b,rfl⟩:=a;exact PySem.EqNone.ne_none_int (pK I q (by simp))
  | str j=>obtain⟨b,rfl⟩:=a;exact PySem.EqNone.ne_none_str (pK I q (by simp))
  | _=>exact absurd (show false=true from c) bF
 | bl i =>
  cases d;cases y with
  | non=>cases a;exact PySem.EqNone.ne_bool_none (pK I q (by simp))
  | bl j=>cases a;exact ne_bool (pK I q (cV not Wc))
  | str j=>obtain⟨b,rfl⟩:=a;exact PySem.EqMixed.ne_bool_str (pK I q (by simp))
  | _=>exact absurd (show false=true from c) bF
 | int i =>
  obtain⟨t,rfl⟩:=d;cases y with
  | non=>cases a;exact PySem.EqNone.ne_int_none (pK I q (by simp))
  | int j=>obtain⟨b,rfl⟩:=a;exact ne_int (pK I q (cV not U5))
  | str j=>obtain⟨b,rfl⟩:=a;exact PySem.EqMixed.ne_int_str (pK I q (by simp))
  | _=>exact absurd (show false=true from c) bF
 | str i =>
  obtain⟨t,rfl⟩:=d;cases y with
  | non=>cases a;exact PySem.EqNone.ne_str_none (pK I q (by simp))
  | bl j=>cases a;exact PySem.EqMixed.ne_str_bool (pK I q (by simp))
  | int j=>obtain⟨b,rfl⟩:=a;exact PySem.EqMixed.ne_str_int (pK I q (by simp))
  | str j=>obtain⟨b,rfl⟩:=a;exact ne_str (pK I q (cV not Tr))
  | _=>exact absurd (show false=true from c) bF
 | byt i =>
  obtain⟨t,rfl⟩:=d;cases y with
  | byt j=>obtain⟨b,rfl⟩:=a;exact PySem.W.ne_bytes (pK I q (cV not Wp))
  | _=>exact absurd (show false=true from c) bF
 | _=>cases y<;>exact absurd (show false=true from c) bF
theorem CK:nH X (compareOp .Lt) (tY λi j=>.bl (decide (i<j))):=Lb λ_ _ _ _ _ _ _ q=>lt_int q
theorem Dj:nH X (compareOp .Gt) (tY λi j=>.bl (decide (j<i))):=Lb λ_ _ _ _ _ _ _ q=>gt_int q
theorem Pq:nH X (compareOp .GtE) (tY λi j=>.bl (decide (j<=i))):=Lb λ_ _ _ _ _ _ _ q=>ge_int q
theorem MZ:nH X (compareOp .In) (λx y H Q=>∃ i j,x = .str i/\y = .str j/\Q (.bl (!(Builtin.Str.occurrences j i 0 j.length 1).isEmpty)) H):=by
 intro a s d H x y v u Q I c b h;obtain⟨i,j,rfl,rfl,q⟩:=h;obtain⟨t,rfl⟩:=c;obtain⟨e,rfl⟩:=b;exact in_str (pK I q rfl)
theorem FD:nH X (compareOp .Is) (λx y H Q=>y = .non/\Q (.bl (decide (x = .non))) H):=by
 intro b s d H x y v u Q I a c h;obtain⟨rfl,q⟩:=h;cases c;refine is_none_gen (pK I q ?_);cases x<;>first
  | (cases a;rfl)
  | (obtain⟨t,rfl⟩:=a;rfl)
theorem PZ:nH X (compareOp .NotIn) (λx y H Q=>∃ i j,x = .str i/\y = .str j/\Q (.bl (!(!(Builtin.Str.occurrences j i 0 j.length 1).isEmpty))) H):=by
 intro a s d H x y v u Q I c b h;obtain⟨i,j,rfl,rfl,q⟩:=h;obtain⟨t,rfl⟩:=c;obtain⟨e,rfl⟩:=b;exact notIn_str (pK I q rfl)
theorem nH.or (h:nH X f r) (h':nH X f r'):nH X f (λx y H Q=>r x y H Q\/r' x y H Q):=by
 intro a s b H x y v u Q I d c q;rcases q with q | q
 ·exact h a s b H x y v u Q I d c q
 ·exact h' a s b H x y v u Q I d c q
theorem vZ (b:Expr) (h:op ≠ .In:=by decide) (h2:op ≠ .NotIn:=by decide):behindInMarks op b=false:=by
 have c:(op == CmpOp.In)=false:=by cases op<;>first | rfl | exact absurd rfl h
 have a:(op == CmpOp.NotIn)=false:=by cases op<;>first | rfl | exact absurd rfl h2
 cases b<;>simp[behindInMarks,c,a]
theorem M5 (ho:nH X (compareOp op) r) (ha:PE X a ta) (hb:PE X b tb) (hm:behindInMarks op b=false):PE X (.Compare a [op] [b] pos) (Ca r ta tb):=by
 intro c s d H Q I h;exact wpAny_Compare1 (Oi ha hb I h λv u e x y j i g f q=>ho c e d j x y v u Q i g f q) hm
def FX (t:TE):TT:=λσ H Q=>t σ H λx H'=>∃ k,x = .bl k/\Q k H'
theorem xA (ho:nH X (compareOp op) r) (ha:PE X a ta) (hb:PE X b tb) (hm:behindInMarks op b=false):PT X (.Compare a [op] [b] pos) (FX (Ca r ta tb)):=by
 intro d s f H Q I h;refine wpAny_isTrue_Compare1 (mR (ha d s f H _ I h) λv i ⟨x,L,C,m,q⟩=>mR (hb d i f L _ C q) λu g ⟨y,F,B,l,p⟩ =>mR (ho d g f F x y v u _ B m l p) λc M ⟨z,E,t,j,k,e,o⟩=>?_) hm;subst e;cases j;exact gF ⟨E,t,o⟩
def Kw (K:mC) (x:V) (H:Hp) (k:Bool):Prop :=
 match x with
 | .non=>k=false
 | .bl b=>k=b
 | .int i=>k=(i != 0)
 | .str y=>y.length<=sizeLine/\k=((y.length:Int) != 0)
 | .byt y=>y.size<=sizeLine/\k=((y.size:Int) != 0)
 | .ref p=>(∃ xs,mG K H p xs/\k = !xs.isEmpty)\/(∃ xs,nL K H p xs/\k = !xs.isEmpty)\/∃ kvs,H p=some (.dK kvs)/\k = !kvs.isEmpty
 | _=>False
theorem CJ (r:KV kvs vs):(!vs.isEmpty) = !kvs.isEmpty:=by
 cases r<;>rfl
theorem Pd (r:mX xs its):(!its.toArray.isEmpty) = !xs.isEmpty:=by
 cases r<;>simp
theorem Ad:(sizeLine:Nat)<2 ^ 63:=by rw[kM];decide
theorem Zr:JS X (λx H Q=>∃ k,Kw X.K x H k/\Q k H):=by
 intro z s F H x v Q I g h;obtain⟨k,e,q⟩:=h;have M:=Ad;have L:sizeLine=16777216:=kM;cases x with
 | non =>
  cases g;have a:k=false:=e;subst a;exact truthy_none ⟨H,I,q⟩
 | bl b =>
  cases g;have a:k=b:=e;subst a;exact gF ⟨H,I,q⟩
 | int i =>
  obtain⟨t,rfl⟩:=g;have a:k=(i != 0):=e;subst a;exact PySem.P.truthy_int ⟨H,I,q⟩
 | str y =>
  obtain⟨t,rfl⟩:=g;obtain⟨C,a⟩:y.length<=sizeLine/\k=((y.length:Int) != 0):=e;subst a;exact PySem.P.truthy_str (by omega) ⟨H,I.tok _,q⟩
 | byt y =>
  obtain⟨t,rfl⟩:=g;obtain⟨C,a⟩:y.size<=sizeLine/\k=((y.size:Int) != 0):=e;subst a;exact PySem.W.truthy_bytes (by omega) ⟨H,I.tok _,q⟩
 | ref p =>
  cases g;have a:(∃ f,mG X.K H p f/\k = !f.isEmpty)\/(∃ f,nL X.K H p f/\k = !f.isEmpty)\/∃ c,H p=some (.dK c)/\k = !c.isEmpty:=e;rcases a with⟨f,j,a⟩ | ⟨f,j,a⟩ | ⟨c,j,a⟩
  ·subst a;obtain⟨u,r,o,B⟩:=I.list j;have d:=r.length;exact wpAny_truthy_list o.isList (by simp only[aW];omega) ⟨H,I.tok _,by rw[Pd r];exact q⟩
  ·subst a;obtain⟨u,r,o,B⟩:=I.tuple j;have d:=r.length;exact truthy_tuple o (by simp only[aW];omega) ⟨H,I.tok _,by rw[Pd r];exact q⟩
  ·subst a;obtain⟨B,E,l,r,m⟩:c.length<=sizeLine/\(p == sysModules)=false/\∃ l,KV c l/\s.heap.DictOf (qC X.prog X.w) p l:=I.hok p _ j;have d:c.length=l.length:=eX r;exact wpAny_truthy_dict E m (by omega) ⟨H,I.tok _,by rw[CJ r];exact q⟩
 | _=>exact (show False from e).elim
theorem LV (ha:PE X a ta) (he:∀ whole,isTrue a X.env whole=(do let v ← whole;standAt a.pos;holding [v] (truthy v))) :
  PT X a (λσ H Q=>ta σ H λx H'=>∃ k,Kw X.K x H' k/\Q k H'):=by
 intro b s σ H Q I h;exact isTrue_plain (mR (ha b s σ H _ I h) λv c ⟨x,g,f,d,e⟩=>Zr b c σ g x v Q f d e) (he _)
theorem xO:nH X (binaryOp .Add) (λx y H Q=>∃ i j,x = .str i/\y = .str j/\i.length+j.length<=sizeLine/\Q (.str (i++j)) H):=by
 intro a s f H x y v u Q I d c h;obtain⟨i,j,rfl,rfl,e,q⟩:=h;obtain⟨t,rfl⟩:=d;obtain⟨b,rfl⟩:=c;exact add_str (λb g=>⟨.str (i++j),H,I.tok _,⟨_,rfl⟩,q⟩) e
theorem rR (r:mX [x] us):∃ u,us=[u]/\nB x u:=by
 cases r with
 | cons b a=>cases a;exact⟨_,rfl,b⟩
theorem At (r:mX [x,y] us):∃ u w',us=[u,w']/\nB x u/\nB y w':=by
 cases r with
 | cons d c =>
  cases c with
  | cons b a=>cases a;exact⟨_,_,rfl,d,b⟩
theorem CH (hc:X.calm=true):oP X (.builtin "max") (λxs H Q=>∃ i j,xs=[.int i,.int j]/\Q (.int (if j>i then j else i)) H):=by
 intro b s c H xs e Q I r h;obtain⟨i,j,rfl,q⟩:=h;obtain⟨u,d,rfl,⟨t,rfl⟩,⟨g,rfl⟩⟩:=At r;refine max_two_ints (I.ok.hd hc) λl f k=>⟨_,H,I.kept k,?_,q⟩
 by_cases a:j>i
 ·rw[aP a,aP a];exact⟨_,rfl⟩
 ·rw[aM a,aM a];exact⟨_,rfl⟩
theorem Qe (hc:X.calm=true):oP X (.builtin "min") (λxs H Q=>∃ i j,xs=[.int i,.int j]/\Q (.int (if j<i then j else i)) H):=by
 intro b s c H xs e Q I r h;obtain⟨i,j,rfl,q⟩:=h;obtain⟨u,d,rfl,⟨t,rfl⟩,⟨g,rfl⟩⟩:=At r;refine min_two_ints (I.ok.hd hc) λl f k=>⟨_,H,I.kept k,?_,q⟩
 by_cases a:j<i
 ·rw[aP a,aP a];exact⟨_,rfl⟩
 ·rw[aM a,aM a];exact⟨_,rfl⟩
theorem CP:oP X (.type "int") (λxs H Q=>(∃ i,xs=[.int i]/\Q (.int i) H)\/∃ k,xs=[.bl k]/\Q (.int (if k then 1 else 0)) H):=by
 intro a s c H xs d Q I r h;rcases h with⟨i,rfl,q⟩ | ⟨k,rfl,q⟩
 ·obtain⟨u,rfl,t,rfl⟩:=rR r;exact call_int_int ⟨.int i,H,I,⟨_,rfl⟩,q⟩
 ·obtain⟨u,rfl,b⟩:=rR r;cases b;exact call_int_bool ⟨.int (if k then 1 else 0),H,I.tok _,⟨_,rfl⟩,q⟩
theorem AF:oP X (.type "str") (λxs H Q=>∃ i,xs=[.int i]/\i.natAbs.log2<1920/\Q (.str (toString i)) H):=by
 intro a s c H xs d Q I r h;obtain⟨i,rfl,b,q⟩:=h;obtain⟨u,rfl,t,rfl⟩:=rR r;exact PySem.P.str_of_int b ⟨.str _,H,I.tok _,⟨_,rfl⟩,q⟩
end
structure ObjM (h:Heap) (x dx C:Addr) (mA:Str->Option Value):Prop where
 obj:h.get? x=some (PySem.W.instObj C dx)
 ns:h.Ns1 dx mA
 ne:dx≠x
theorem BC {h:Heap}{dx:Addr}{mA:Str->Option Value}(n:h.Ns1 dx mA):∃ od,h.get? dx=some od/\∀ name,PySem.W.lookIn name od=some (mA name):=by
 obtain⟨o,c,k,f,hd,i,_,g⟩:=n;refine⟨o,f,λname=>?_⟩;have e:=g name;unfold nsFind findBy at e;rw[← Array.find?_toList] at e;unfold PySem.W.lookIn;rw[hd];dsimp only;split
 ·rename_i y q
  rw[q] at e;exact cV some e
 ·rename_i q
  rw[q] at e;have a:c.toList.any (·.refKey)=false:=by
   rw[lN];intro y d;obtain⟨z,t,b⟩:=i y (Array.mem_toList_iff.mp d);simp[DictEntry.refKey,b]
  have j:¬ c.toList.any (·.refKey)=true:=by rw[a];exact bF
  rw[aM j];exact cV some e
theorem ObjM.look (I:ObjM h x dx C mA):∃ od,PySem.W.InstAt h x (PySem.W.instObj C dx) C (some od)/\∀ name,PySem.W.lookIn name od=some (mA name) :=
 let ⟨od,a,b⟩:=BC I.ns
 ⟨od,⟨I.obj,rfl,rfl,a⟩,b⟩
theorem uV.some_of (r:uV (some v) o):∃ u,o=some u/\nB v u:=by
 cases o with
 | none=>exact (show False from r).elim
 | some u=>exact⟨u,rfl,r⟩
section
variable {P:Program}
theorem MS (hok:oN P w H h) (e:H a=some (.ins C dx fs)):∃ mA,ObjM h a dx C mA/\(∀ f,uV (fs.lookup f) (mA f))/\PySem.Within mA (fs.map (·.1))/\fs.length<=1000/\H dx=some (.own a):=by
 obtain⟨d,z,ne,b,mA,n,r,q⟩:=(show oI P w H h a (.ins C dx fs) from hok a _ e);exact⟨mA,⟨b,n,ne⟩,r,q,z,d⟩
end
structure Cls (K:mC) (C:Addr):Prop where
 pg:PySem.W.plainGet K C Str.empty=true
 hd:PySem.W.hasDictIn K C=true
 po:PySem.W.plainOver K C=true
 sa:PySem.W.findIn K (.ref C) "__setattr__" = some (some (.builtin "object.__setattr__"))
theorem Cls.get {K:mC}(c:Cls K C) (f:Str):PySem.W.plainGet K C f=true:=c.pg
section
variable {X:Cx}
inductive TyOf (K:mC) (H:Hp):V->Value->Prop where
 | non:TyOf K H .non (.type "NoneType")
 | bl (x:Bool):TyOf K H (.bl x) (.type "bool")
 | int (i:Int):TyOf K H (.int i) (.type "int")
 | str (x:Str):TyOf K H (.str x) (.type "str")
 | flt (x:UInt64):TyOf K H (.flt x) (.type "float")
 | lst {a:Addr} {xs:List V} (e:H a=some (.lst xs)):TyOf K H (.ref a) (.type "list")
 | frz {a:Addr} {o:Obj} {xs:List V} (e:H a=some (.frz o (.lst xs))):TyOf K H (.ref a) (.type "list")
 | tup {a:Addr} {xs:List V} (e:H a=some (.tup xs)):TyOf K H (.ref a) (.type "tuple")
 | dK {a:Addr} {kvs:List (hI×V)} (e:H a=some (.dK kvs)):TyOf K H (.ref a) (.type "dict")
 | dT {a:Addr} {kvs:List (List hI×V)} (e:H a=some (.dT kvs)):TyOf K H (.ref a) (.type "dict")
 | ins {a C dx:Addr} {fs:List (Str×V)} (e:H a=some (.ins C dx fs)) (cl:Cls K C) (ha:PySem.W.findIn K (.ref C) "__class__" = some (some (.builtin "object.__class__")))
   (hn:PySem.W.specialIn K (.builtin "object.__class__") "__get__" = some (some (.builtin "getset_descriptor.__get__"))) (htk:PySem.W.takesIn K (.builtin "object.__class__")=some true)
   (hm:PySem.W.mroIn K C (.type "object")=some true):TyOf K H (.ref a) (.ref C)
theorem GV (I:Inv X pins σ H s) (rx:nB x u) (ty:TyOf X.K H x t) (e:PySem.W.kitOne X.K t c=some b) (h:∀ tk,Q (.bool b) { s with toks:=tk }) :
  wpAny (model X.prog X.w) A (call (.builtin "isinstance") [u,c]) Q E s:=by
 cases ty with
 | non=>cases (show u=Value.none from rx);exact eJ PySem.W.kitx_none I.kIn True.intro e (λz=>nomatch z) h
 | bl y=>cases (show u=Value.bool y from rx);exact eJ PySem.W.kitx_bool I.kIn True.intro e (λz=>nomatch z) h
 | int i=>obtain⟨t,q⟩:=(show ∃ t,u=Value.int i t from rx);cases q;exact eJ PySem.W.kitx_int I.kIn True.intro e (λz=>nomatch z) h
 | str y=>obtain⟨t,q⟩:=(show ∃ t,u=Value.str y t from rx);cases q;exact eJ PySem.W.kitx_str I.kIn True.intro e (λz=>nomatch z) h
 | flt y=>obtain⟨t,q⟩:=(show ∃ t,u=Value.float y t from rx);cases q;exact eJ PySem.W.kitx_float I.kIn True.intro e (λz=>nomatch z) h
 | @lst a j d =>
  cases (show u=Value.ref a from rx);obtain⟨_,_,n,_,f⟩:=(show oI X.prog X.w H s.heap a (.lst j) from I.hok a _ d);exact eJ PySem.W.kitx_list I.kIn ⟨_,f,rfl⟩ e (λz=>nomatch z) h
 | @frz a r j d =>
  cases (show u=Value.ref a from rx);obtain⟨_,_,_,n,_,f⟩:=(show oI X.prog X.w H s.heap a (.frz r (.lst j)) from I.hok a _ d);exact eJ PySem.W.kitx_list I.kIn ⟨_,f,rfl⟩ e (λz=>nomatch z) h
 | @tup a j d =>
  cases (show u=Value.ref a from rx);obtain⟨_,_,_,p,_⟩:=(show oI X.prog X.w H s.heap a (.tup j) from I.hok a _ d);obtain⟨o,f,k,_⟩:=p;exact eJ PySem.W.kitx_tuple I.kIn ⟨o,f,k⟩ e (λz=>nomatch z) h
 | @dK a g d =>
  cases (show u=Value.ref a from rx);obtain⟨_,_,N,_,p⟩:=(show oI X.prog X.w H s.heap a (.dK g) from I.hok a _ d);obtain⟨o,L,M,f,k,_⟩:=p;exact eJ PySem.W.kitx_dict I.kIn ⟨o,f,k.1⟩ e (λz=>nomatch z) h
 | @dT a g d =>
  cases (show u=Value.ref a from rx);obtain⟨_,_,j,_,o,L,M,f,k,_⟩:=(show oI X.prog X.w H s.heap a (.dT g) from I.hok a _ d);exact eJ PySem.W.kitx_dict I.kIn ⟨o,f,k.1⟩ e (λz=>nomatch z) h
 | @ins a C U fs d m F v l B =>
  cases (show u=Value.ref a from rx);obtain⟨T,O,_⟩:=MS I.hok d;obtain⟨S,J,_⟩:=O.look;exact eJ (PySem.W.kitx_own (m.get _) m.hd F v l B) I.kIn J e (λz=>nomatch z) h
end
structure Room (k:Nat) (A:Around):Prop where
 hd:A.handled=none
 dp:A.depth+3*k+5<recursionLimit
 un:A.units+16*k+200<cLine
theorem Room.mono (r:Room k A) (h:j<=k):Room j A:=⟨r.hd,by have:=r.dp;omega,by have:=r.un;omega⟩
theorem Room.deeper (r:Room (k+1) A) (env:Env):Room k (A.deeper env) :=
 ⟨r.hd,by have:=r.dp;show A.depth+1+3*k+5<_;omega,by have:=r.un;show A.units+3+16*k+200<_;omega⟩
theorem Room.depth (r:Room k A):A.depth<recursionLimit:=by have:=r.dp;omega
theorem Room.units (r:Room k A):A.units+64<cLine:=by have:=r.un;omega
def Hj:TA:=λ_ H Q=>Q [] H
def C3 (ta:TE) (tr:TA):TA:=λσ H Q=>ta σ H λx H1=>tr σ H1 λxs H2=>Q (x::xs) H2
section
variable {X:Cx}
theorem nJ:PA X [] Hj:=λ_ _ _ _ H Q I h=>Calls.spliced_nil ⟨[],H,I,.nil,h⟩
theorem yB (ha:PE X e te) (hr:PA X es t) (hs:starEach (e::es) X.env=(false,eval e X.env)::starEach es X.env:=by rfl):PA X (e::es) (C3 te t):=by
 intro pos a s b H Q I h;rw[hs];show wpAny _ _ (spliced ((false,eval e X.env)::backTo pos (starEach es X.env))) _ _ s;refine jO (mR (ha a s b H _ I h) λu d ⟨x,o,l,g,j⟩=>?_);exact mR (hr pos a d b o _ l j) λp q ⟨c,m,k,f,i⟩=>⟨x::c,m,k,.cons g f,i⟩
def JM (t:TA):TE:=λσ H Q=>t σ H λxs H1=>xs.length<=sizeLine/\∀ p,H1 p=none->Q (.ref p) (upd H1 p (.tup xs))
def Pk (t:TA):TE:=λσ H Q=>t σ H λxs H1=>xs.length<=sizeLine/\∀ p,H1 p=none->Q (.ref p) (upd H1 p (.lst xs))
theorem C2 {x1}(h:PA X es t):PE X (.Tuple es x1 pos) (JM t):=by
 intro a s g H Q I k;refine wpAny_Tuple_spliced (mR (h pos a s g H _ I k) λj c ⟨i,f,d,r,z,q⟩=>⟨by rw[← r.length];exact z,?_⟩);have l:f c.heap.objs.size=none:=d.hok.fresh (aZ _);refine⟨.ref c.heap.objs.size,upd f c.heap.objs.size (.tup i),d.laid (t':=c.toks) (λb u e=>aE _ e) (aZ _) ?_,rfl,q _ l⟩;exact⟨z,j,r,⟨_,bB _ rfl,rfl,_,rfl⟩,_,bB _ rfl,rfl⟩
theorem rD (h:PA X es t):PE X (.List es pos) (Pk t):=by
 intro a s g H Q I k;refine wpAny_List_spliced (mR (h pos a s g H _ I k) λj c ⟨i,f,d,r,z,q⟩=>⟨by rw[← r.length];exact z,?_⟩);have l:f c.heap.objs.size=none:=d.hok.fresh (aZ _);refine⟨.ref c.heap.objs.size,upd f c.heap.objs.size (.lst i),d.laid (t':=c.toks) (λb u e=>aE _ e) (aZ _) ?_,rfl,q _ l⟩;exact⟨z,j,0,r,bB _ rfl⟩
end
abbrev Sp:=List V->Hp->VK->XK->Prop
abbrev Ba:=List Env->Hp->Shared->XK->Value->Shared->Prop
structure Env0 (P:Program) (w:World) (K:mC) (mg:Str->Option Value) (base:Heap) (A:Around) (outer:List Env) (s:Shared) (H:Hp):Prop where
 frames:A.frames=some outer
 mod:Mod K mg base
 bs:∀ b o,base.get? b=some o->s.heap.get? b=some o/\H b=none
 bsz:base.objs.size<=s.heap.objs.size
 funs:s.heap.FunFrames base outer
 frf:∀ b∈vL outer,H b=none
 hok:oN P w H s.heap
 bare:AllBare s.gens
def CE (outer:List Env) (P:Program) (w:World) (H:Hp) (s:Shared) (Q:VK) (u:Value) (s':Shared):Prop :=
 ∃ v H',s'.os=s.os/\AllBare s'.gens/\Un (vL outer) [] H H' s.heap s'.heap/\oN P w H' s'.heap/\nB v u/\Q v H'
def CR (CX:Ba) (outer:List Env) (P:Program) (w:World) (H:Hp) (s:Shared) (Q:VK) (E:XK) (r:Result) (s':Shared):Prop :=
 match r with
 | .ok (.ret u)=>CE outer P w H s Q u s'
 | .ok _=>False
 | .error e=>CX outer H s E e s'
structure FnOk (P:Program) (w:World) (K:mC) (mg:Str->Option Value) (base:Heap) (CX:Ba) (k:Nat) (f:Addr) (fd:FuncData) (ps:List Str) (sp:Sp):Prop where
 len:∀ vs H Q E,sp vs H Q E->vs.length=ps.length
 run:∀ (A:Around) (outer:List Env) (s:Shared) (H:Hp) (args:Args) (us:List Value) (vs:List V) (Q:VK) (E:XK),Room k A->Env0 P w K mg base A outer s H->BindsTo s fd args (ps.zip us)->mX vs us->sp vs H Q E ->
  codeAny (model P w) A (.call (.ref f) args) (CR CX outer P w H s Q E) s
theorem FnOk.imp {P:Program}{K:mC}(F:FnOk P w K mg base CX k f fd ps sp)
  (h:∀ vs H Q E,sp' vs H Q E->sp vs H Q E):FnOk P w K mg base CX k f fd ps sp' :=
 ⟨λvs H Q E q=>F.len vs H Q E (h _ _ _ _ q),λA a s H args b vs Q E e g i c d=>F.run A a s H args b vs Q E e g i c (h _ _ _ _ d)⟩
section
variable {X:Cx}
theorem Inv.env0 (I:Inv X pins σ H s):Env0 X.prog X.w X.K X.mg X.base X.A X.stack s H :=
 ⟨I.ok.frames,I.ok.mod,I.bs,bY I.ok.bsz I.sz,I.stack,I.stkFree,I.hok,I.bare⟩
theorem Inv.after (I:Inv X pins σ H s) (h:CE X.stack X.prog X.w H s Q u s'):EP X pins σ Q u s':=by
 obtain⟨v,f,os,bare,un,c,r,q⟩:=h;obtain⟨e,g,d,t,a⟩:=s';obtain rfl:a=s.os:=os;exact⟨v,f,I.call (h':=e) (g':=g) (d':=d) (t':=t) (ch:=[]) un c bare (λb z=>absurd z (by simp)),r,q⟩
end
def Tn (sp:Sp) (dvs:List V) (E:XK) (t:TA):TE:=λσ H Q=>t σ H λvs H1=>sp (vs++dvs) H1 Q E
def zF (K:mC) (fd:FuncData) (ps:List Str) (ds:List Value):Prop :=
 ∀ (s:Shared) (us:List Value),K.In s.heap->(us++ds).length=ps.length->BindsTo s fd ⟨us,[]⟩ (ps.zip (us++ds))
theorem zF.all {K:mC}(h:∀ us:List Value,us.length=ps.length->bindArgs fd ⟨us,[]⟩=pure (ps.zip us)):zF K fd ps []:=λs us _ a=>by
 rw[dO] at a ⊢;exact .of_eq (h us a)
def G1 (CX:Ba) (X:Cx) (E:XK):Prop:=∀ (pins:List (Addr×Obj)) (σ:St) (H:Hp) (s:Shared) (e:Value) (s':Shared),Inv X pins σ H s->CX X.stack H s E e s'->X.xe e s'
section
variable {X:Cx}
theorem Qn (F:FnOk X.prog X.w X.K X.mg X.base CX k f fd ps sp) (hr:Room k X.A) (hb:zF X.K fd ps ds) (hd:mX dvs ds) (hx:G1 CX X E)
  (I:Inv X pins σ H s) (r:mX vs us) (h:sp (vs++dvs) H Q E):wpAny (model X.prog X.w) X.A (call (.ref f) us) (EP X pins σ Q) X.xe s:=by
 have b:mX (vs++dvs) (us++ds):=r.append hd;have d:(us++ds).length=ps.length:=by rw[← b.length];exact F.len _ _ _ _ h
 refine wpAny_call (codeAny_mono (F.run X.A X.stack s H ⟨us,[]⟩ (us++ds) (vs++dvs) Q E hr I.env0 (hb s us I.kIn d) b h) λr c a=>?_);cases r with
 | error e=>exact hx pins σ H s e c I a
 | ok g =>
  cases g with
  | ret u=>exact I.after a
  | next=>exact False.elim a
  | brk=>exact False.elim a
  | cont=>exact False.elim a
theorem tR (F:FnOk X.prog X.w X.K X.mg X.base CX k f fd ps sp) (hr:Room k X.A) (hg:Gl X x) (hm:X.mg x=some (.ref f)) (hk:PySem.W.keepIn X.K (.ref f)=true) (hb:zF X.K fd ps ds) (hd:mX dvs ds) (hx:G1 CX X E)
  (ha:PA X (e::es) t) (hdb:(x == ("__debug__" : Str))=false:=by decide) (he:starEach (e::es) X.env=(false,eval e X.env)::starEach es X.env:=by rfl) (hpl:(backTo pos (starEach es X.env)).any (·.1)=false:=by rfl) :
  PE X (.Call (.Name x p) (e::es) [] pos) (Tn sp dvs E t):=by
 intro a s c H Q I h;refine gW (Sc I hg hm ?_ hdb);refine PySem.W.callWith_K (h₀:=X.base) I.ok.mod.kin hk (mR (ha pos a s c H _ I h) λg i ⟨d,j,b,r,q⟩=>⟨b.kIn,?_⟩) he hpl;exact Qn F hr hb hd hx b r q
theorem Qo (F:FnOk X.prog X.w X.K X.mg X.base CX k f fd ps sp) (hr:Room k X.A) (hg:Gl X x) (hm:X.mg x=some (.ref f)) (hk:PySem.W.keepIn X.K (.ref f)=true) (hb:zF X.K fd ps ds) (hd:mX dvs ds) (hx:G1 CX X E)
  (hdb:(x == ("__debug__" : Str))=false:=by decide):PE X (.Call (.Name x p) [] [] pos) (Tn sp dvs E Hj):=by
 intro a s b H Q I h;refine gW (Sc I hg hm ?_ hdb);exact PySem.W.callWith_K0 I.kIn hk (Qn (us:=[]) F hr hb hd hx I .nil h)
end
structure FnScope (N P:List Str) (sc:Scope):Prop where
 kind:sc.kind = .function
 co:sc.isCoroutine=false
 gen:sc.isGenerator=false
 nd:N.Nodup
 pre:N.take P.length=P
 par:∀ x∈P,sc.names.lookup x=some .local\/sc.names.lookup x=some .cell
 nofree:∀ y∈sc.names,y.2 ≠ .free
theorem Sz {kindOf:Str->Option NameKind}:∀ {binds:List (Str×Value)}{m:Str->Option Value},(∀ v,(x,v)∉binds)->bindL kindOf binds m x=m x
 | [],_,_=>rfl
 | (n,v)::r,m,h=>by
  unfold bindL;rw[Sz λw hw=>h w (aT _ hw)];split
  ·have:x≠n:=by rintro rfl;exact h v aK
   simp[this]
  ·rfl
theorem Vi {kindOf:Str->Option NameKind}:∀ {binds:List (Str×Value)}{m:Str->Option Value},(∀ v,(x,v)∉binds)->bindC kindOf binds m x=m x
 | [],_,_=>rfl
 | (n,v)::r,m,h=>by
  unfold bindC;rw[Vi λw hw=>h w (aT _ hw)];split
  ·rfl
  ·have:x≠n:=by rintro rfl;exact h v aK
   simp[this]
theorem Pn {kindOf:Str->Option NameKind}:∀ {P:List Str}{vs:List Value}{i:Nat}{m:Str->Option Value},P.Nodup->P[i]?=some x->vs[i]?=some v->kindOf x=some .local ->
  bindL kindOf (P.zip vs) m x=some v
 | [],_,_,_,_,h,_,_=>by simp at h
 | _::_,[],_,_,_,_,h,_=>by simp at h
 | p::P,w::vs,0,m,c,b,a,d=>by
  simp at b a;subst b;subst a;show bindL kindOf ((p,w)::P.zip vs) m p=_;unfold bindL;rw[Sz λv e=>(cH.mp c).1 (fU e).1,aP d];simp
 | p::P,w::vs,i+1,m,c,b,a,d=>by
  show bindL kindOf ((p,w)::P.zip vs) m x=_;unfold bindL;exact Pn (i:=i) (cH.mp c).2 (by simpa using b) (by simpa using a) d
theorem R0 {kindOf:Str->Option NameKind}:∀ {P:List Str}{vs:List Value}{i:Nat}{m:Str->Option Value},P.Nodup->P[i]?=some x->vs[i]?=some v->kindOf x≠some .local ->
  bindC kindOf (P.zip vs) m x=some v
 | [],_,_,_,_,h,_,_=>by simp at h
 | _::_,[],_,_,_,_,h,_=>by simp at h
 | p::P,w::vs,0,m,c,b,a,d=>by
  simp at b a;subst b;subst a;show bindC kindOf ((p,w)::P.zip vs) m p=_;unfold bindC;rw[Vi λv e=>(cH.mp c).1 (fU e).1,aM d];simp
 | p::P,w::vs,i+1,m,c,b,a,d=>by
  show bindC kindOf ((p,w)::P.zip vs) m x=_;unfold bindC;exact R0 (i:=i) (cH.mp c).2 (by simpa using b) (by simpa using a) d
def vH (N:List Str) (vs:List V):St:=vs.map some++List.replicate (N.length-vs.length) none
def Ao (CX:Ba) (P:Program) (w:World) (K:mC) (mg:Str->Option Value) (base:Heap) (N:List Str) (qual:Str) (scope:Scope) (f:Addr) (cd:Value) (A:Around) (outer:List Env) (s:Shared) (H:Hp) (E:XK):Cx where
 prog:=P
 w:=w
 K:=K
 mg:=mg
 base:=base
 A:=A.deeper (envOfC qual scope s.heap.objs.size f cd)
 N:=N
 s₀:=s
 H₀:=H
 env:=envOfC qual scope s.heap.objs.size f cd
 outer:=outer
 stack:=envOfC qual scope s.heap.objs.size f cd::outer
 ex:=[]
 calm:=true
 fn:=λ_=>true
 pn:=[]
 xe:=λe s'=>wpAny (model P w) (A.deeper (envOfC qual scope s.heap.objs.size f cd)) (leaving (envOfC qual scope s.heap.objs.size f cd) e) (λ_ s''=>CX outer H s E e s'') (λe' s''=>CX outer H s E e' s'') s'
theorem Te {sc:Scope}{n:Nat}{x:Str}(h:sc.names.lookup x=some .cell):∃ c,(cellsFrom n sc.names []).lookup x=some c:=by
 have q:=PySem.W.cellsFrom_some sc.names n [] (.inl h);exact cR.mp q
theorem MK {P:Program}{K:mC}{cd:Value}
  (S:FnScope N ps scope) (hd:A.handled=none) (e0:Env0 P w K mg base A outer s H) (hl:vs.length=ps.length) (r:mX vs us)
  (x:InCallC s s.heap.objs.size (bindL (envOfC qual scope s.heap.objs.size f cd).kindOf (ps.zip us) λ_=>none) (cellsFrom (s.heap.objs.size+1) scope.names []) (bindC (envOfC qual scope s.heap.objs.size f cd).kindOf (ps.zip us) λ_=>none) s1) :
  Inv (Ao CX P w K mg base N qual scope f cd A outer s H E) [] (vH N vs) H s1:=by
 have I:ps.length<=N.length:=by have:=cV List.length S.pre;rw[bQ] at this;omega
 obtain⟨t,M,rfl,C⟩:=x.done;have g:∀ b:Addr,b∉(Ao CX P w K mg base N qual scope f cd A outer s H E).ex:=λb z=>absurd (show b∈([]:List Addr) from z) (by simp)
 refine⟨⟨e0.mod,S.kind,rfl,rfl,aZ _,λy z c t d=>?_,λy j=>?_,λy c _ h=>?_,λ_=>hd,Around.frames_deeper e0.frames,.inr ⟨rfl,rfl⟩,λb z=>absurd z (g b),e0.bs,e0.bsz,λb _ _=>g b,λb z=>absurd z (g b),e0.funs,e0.frf⟩,
  rfl,e0.bare,Un.kept C,⟨_,x.toInCall.ns,λi y v t d O=>?_⟩,λy c h=>⟨_,x.cell y c h⟩,e0.hok.fresh (aZ _),λy c h=>?_,λp m=>absurd (show p∈([]:List (Addr×Obj)) from m) (by simp),e0.hok.kept C,?_⟩
 ·exact name_of_addr x.apart (dU t) (dU d)
 ·have j:scope.names.lookup y=some .cell\/scope.names.lookup y=some .free:=j;rcases j with j | j
  ·exact Te j
  ·exact absurd rfl (S.nofree _ (dU j))
 ·exact eL (x.above y c (dU h))
 ·have o:i<vs.length:=by
   unfold vH at d;by_cases o:i<vs.length
   ·exact o
   ·rw[dF (by simpa using o)] at d;rw[List.getElem?_replicate] at d;split at d<;>cases d
  have L:vs[i]?=some v:=by
   unfold vH at d;rw[hV (by simpa using o),aX] at d;cases e:vs[i]? with
   | none=>rw[e] at d;cases d
   | some a=>rw[e] at d;cases d;rfl
  obtain⟨u,B,F⟩:=r.get L;have m:ps[i]?=some y:=by
   rw[← S.pre,jF (by omega)];exact t
  have l:ps.Nodup:=by rw[← S.pre];exact S.nd.sublist (lO _ _)
  refine⟨u,F,?_⟩;rcases S.par y (aI m) with k | k
  ·exact .inl ⟨k,Pn l m B k⟩
  ·obtain⟨c,e⟩:=Te (n:=s.heap.objs.size+1) k;refine .inr ⟨.inl k,c,e,?_⟩;have q:=x.cell y c e;rw[R0 l m B (by show scope.names.lookup y≠_;rw[k];decide)] at q;exact q
 ·exact e0.hok.fresh (eL (x.above y c (dU h)))
 ·unfold vH;show _=N.length;rw[aH,aA,dD];omega
theorem BZ {P:Program}{K:mC}{kV:Value}
(lk:K.lookup f=some ⟨oc,od,.func (PySem.W.fnOf name qual params body scope dV kV doc pm an cdv ct),osl⟩) (hcd:PySem.W.codeIn K cdv qual=true) (S:FnScope N ps scope)
  (len:∀ vs H Q E,sp vs H Q E->vs.length=ps.length)
  (hbody:∀ (A:Around) (outer:List Env) (s:Shared) (H:Hp) (vs:List V) (Q:VK) (E:XK),Room k (A.deeper (envOfC qual scope s.heap.objs.size f cdv))->sp vs H Q E ->∃ t,qL (Ao CX P w K mg base N qual scope f cdv A outer s H E) body t/\t { nx:=λ_ H'=>Q .non H',rt:=Q } (vH N vs) H) :
  FnOk P w K mg base CX (k+1) f (PySem.W.fnOf name qual params body scope dV kV doc pm an cdv ct) ps sp:=by
 refine⟨len,λA outer s H args B vs Q E m h T r g=>?_⟩;have M:=len _ _ _ _ g;have z:K.In s.heap:=h.mod.kin.keeps λb o e=>(h.bs b o e).1
 have l:s.heap.NoLimit:=h.mod.nolimit.keeps λb o e=>(h.bs b o e).1
 have c:∀ y∈ps.zip B,scope.names.lookup y.1=some .local\/(scope.names.lookup y.1=some .cell/\((cellsFrom (s.heap.objs.size+1) scope.names []).lookup y.1).isSome=true):=λ⟨n,v⟩ C=>by
  rcases S.par n (fU C).1 with q | q
  ·exact .inl q
  ·exact .inr ⟨q,PySem.W.cellsFrom_some _ _ _ (.inl q)⟩
 refine codeAny_call_function m.depth (z _ _ lk) rfl S.co S.gen rfl (PySem.W.codeRec_of z hcd) (T _ _ _ _ ?_);refine wpAny_newFunctionEnv_cells S.kind c λY O p x=>?_
 subst O;refine⟨l.keeps x.toInCall.keep,codeAny_func ?_⟩;obtain⟨t,F,L⟩:=hbody A outer s H vs Q E (m.deeper _) g;have I:Inv (Ao CX P w K mg base N qual scope f cdv A outer s H E) [] (vH N vs) H p:=MK S m.hd h M r x;refine cL (F [] p (vH N vs) H _ I L) (λU i d=>?_) λe i d=>d
 have fin:∀ {a:St} {H':Hp} {v:V} {u:Value},Inv (Ao CX P w K mg base N qual scope f cdv A outer s H E) [] a H' i->nB v u->Q v H'->CE outer P w H s Q u i :=
  λ{a H' v u} J j q=>⟨v,H',J.os,J.bare,J.base,J.hok,j,q⟩
 cases U with
 | ret u =>
  obtain⟨v,a,H',J,j,q⟩:=d;exact fin J j q
 | next =>
  obtain⟨a,H',J,q⟩:=d;exact fin (v:=V.non) (u:=Value.none) J rfl q
 | brk =>
  obtain⟨_,_,_,q⟩:=d;exact False.elim q
 | cont =>
  obtain⟨_,_,_,q⟩:=d;exact False.elim q
section
variable {X:Cx}{id:String}
def V9 (r:List V->Hp->VK->Prop) (t:TA):TE:=λσ H Q=>t σ H λvs H1=>r vs H1 Q
theorem vJ (hc:oP X (.builtin id) r) (hg:Gl X x) (hm:X.mg x=none) (hv:bootBuiltins x=some (.builtin id)) (ha:PA X (e::es) t) (hn:x ≠ "__name__" := by decide) (hdb:(x == ("__debug__" : Str))=false:=by decide)
  (he:starEach (e::es) X.env=(false,eval e X.env)::starEach es X.env:=by rfl) (hpl:(backTo pos (starEach es X.env)).any (·.1)=false:=by rfl):PE X (.Call (.Name x p) (e::es) [] pos) (V9 r t):=by
 intro a s b H Q I h;refine gW (yP I hg hm hv ?_ hn hdb);exact PyProof.Rows.callWith_builtin1 (mR (ha pos a s b H _ I h) λd f ⟨c,k,j,g,i⟩=>hc a f b k c d Q j g i) he hpl
theorem Kn (hc:oP X (.type T) r) (hg:Gl X x) (hm:X.mg x=none) (hv:bootBuiltins x=some (.type T)) (ha:PA X (e::es) t) (hn:x ≠ "__name__" := by decide) (hdb:(x == ("__debug__" : Str))=false:=by decide)
  (he:starEach (e::es) X.env=(false,eval e X.env)::starEach es X.env:=by rfl) (hpl:(backTo pos (starEach es X.env)).any (·.1)=false:=by rfl):PE X (.Call (.Name x p) (e::es) [] pos) (V9 r t):=by
 intro a s b H Q I h;refine gW (yP I hg hm hv ?_ hn hdb);exact dY (mR (ha pos a s b H _ I h) λd f ⟨c,k,j,g,i⟩=>hc a f b k c d Q j g i) he hpl
end
end L2
namespace HT
open PySem PyProof.Rows
section
theorem cat_tup (ht:IsTup s.heap t vs.toArray) (hb:IsTup s.heap b ws.toArray) (hv:vs≠[])
  (h1:ws=[]->Q (.ref t) s) (h2:ws≠[]->Q (.ref s.heap.objs.size) { s with heap:=s.heap.push { cls:=.type "tuple",data:=.seq (vs++ws).toArray } })
  (hsz:vs.length+ws.length<=sizeLine):wpAny (model prog w) A (binaryOp .Add (.ref t) (.ref b)) Q E s:=by
 obtain⟨⟨cls,k,data,sl⟩,h,j,n,hd⟩:=id ht;obtain⟨⟨l,g,data2,c⟩,a,f,i,d⟩:=id hb;simp only at j hd f d;subst j hd f d;have e:vs.toArray++ws.toArray=(vs++ws).toArray:=by simp
 by_cases hw:ws=[]
 ·exact concat_meets ⟨_,h,rfl⟩ ⟨_,a,rfl⟩ noFill_tuple_add seq_tuple_add jX jR (jG _ _)
   (tuple_addW1 t b vs.toArray ws.toArray n i k g sl c (by simpa using hv) (by simp[hw])) ⟨h,a,h1 hw⟩
 ·refine concat_meets ⟨_,h,rfl⟩ ⟨_,a,rfl⟩ noFill_tuple_add seq_tuple_add jX jR (jG _ _)
   (tuple_addW2 t b vs.toArray ws.toArray n i k g sl c (by simpa using hv) (by simpa using hw) (by rw[aW,aW];exact hsz)) ⟨h,a,?_⟩
  rw[e];exact h2 hw
def sIx (n d:Nat):Option Int->Nat
 | none=>d
 | some v=>if v<0 then (v+(n:Int)).toNat else min v.toNat n
theorem sIx_none (n d:Nat):sIx n d none=d:=rfl
theorem sIx_nat (n d k:Nat):sIx n d (some (k:Int))=min k n:=by
 show (if (k:Int)<0 then ((k:Int)+(n:Int)).toNat else min (k:Int).toNat n)=min k n;rw[aM (by omega),cC]
theorem sIx_le (n d:Nat) (hd:d<=n) (o:Option Int):sIx n d o<=n:=by
 cases o with
 | none=>exact hd
 | some v =>
  show (if v<0 then (v+(n:Int)).toNat else min v.toNat n)<=n;by_cases a:v<0
  ·rw[aP a];omega
  ·rw[aM a];exact Nat.min_le_right _ _
theorem Si (v:Int) (n d:Nat):(if v<0 then max (v+(n:Int)) 0 else min v (n:Int))=((sIx n d (some v):Nat):Int):=by
 show (if v<0 then max (v+(n:Int)) 0 else min v (n:Int))=(((if v<0 then (v+(n:Int)).toNat else min v.toNat n):Nat):Int);by_cases a:v<0
 ·simp only[aP a];omega
 ·simp only[aM a];omega
theorem EU (lo hi:Option Int) (n:Nat):Builtin.Slice.sliceAdjust lo hi 1 (n:Int)=(((sIx n 0 lo:Nat):Int),((sIx n n hi:Nat):Int)):=by
 have a:¬ ((1:Int)<0):=by omega
 unfold Builtin.Slice.sliceAdjust;simp only[a,gX];refine Prod.ext ?_ ?_
 ·cases lo with
  | none=>rfl
  | some v=>exact Si v n 0
 ·cases hi with
  | none=>rfl
  | some v=>exact Si v n n
theorem OB (i j:Nat):Builtin.Slice.slicePlaces (i:Int) (j:Int) 1=j-i:=by
 unfold Builtin.Slice.slicePlaces;have a:(1:Int)>0:=by omega
 simp only[a,iD,Int.ediv_one];split<;>omega
theorem Wg (p:IsPart v o) (h:Q o s):wpAny (model prog w) A (Builtin.Slice.slicePartIndex v) Q E s:=by
 cases p with
 | none=>exact slicePart_none h
 | int i t=>exact slicePart_int h
theorem sliceApplied_gen {sl:Addr}{vl vu:Value}{lo hi:Option Int}{n:Nat}{Q:Int×Int×Nat->Shared->Prop}(hs:s.heap.IsSliceOf sl vl vu .none) (pl:IsPart vl lo) (pu:IsPart vu hi)
  (h:Q (((sIx n 0 lo:Nat):Int),1,sIx n n hi-sIx n 0 lo) s):wpAny (model prog w) A (Builtin.Slice.sliceApplied (.ref sl) (pure (n:Int))) Q E s:=by
 obtain⟨os,a,c,b⟩:=id hs;unfold Builtin.Slice.sliceApplied Builtin.Slice.sliceFields;refine aB (aB (eQ a b (x:=vl) rfl (aB (eQ a b (x:=vu) rfl (aB (eQ a b (x:=.none) rfl (aF ?_)))))));refine aB (slicePart_none ?_);show wpAny _ _ (if ((1:Int) == 0)=true then _ else _) _ _ s;rw[aM (by decide)];refine aB (Wg pl (aB (Wg pu (aB (aF ?_)))));show wpAny _ _ (match Builtin.Slice.sliceAdjust lo hi 1 (n:Int) with | (lo,hi)=>pure (lo,(1:Int),Builtin.Slice.slicePlaces lo hi 1)) _ _ s;rw[EU lo hi n];show wpAny _ _ (pure (((sIx n 0 lo:Nat):Int),(1:Int),Builtin.Slice.slicePlaces ((sIx n 0 lo:Nat):Int) ((sIx n n hi:Nat):Int) 1)) _ _ s;rw[OB];exact aF h
theorem RB (xs:Array Value) (i k:Nat):((List.range k).filterMap λ(m:Nat)=>xs[((i:Int)+(m:Int)*1).toNat]?).toArray=((xs.toList.drop i).take k).toArray:=by
 have e:(λ(m:Nat)=>xs[((i:Int)+(m:Int)*1).toNat]?)=λm=>xs[i+m]?:=by
  funext m
  have:((i:Int)+(m:Int)*1).toNat=i+m:=by omega
  rw[this]
 rw[e];have:=pick_run xs i k;rw[List.filterMap_map] at this;have a:((λx=>xs[x]?)∘λx=>i+x)=λm=>xs[i+m]?:=rfl
 rw[a] at this;rw[this]
theorem getItem_tuple_cut {sl:Addr}{lo:Option Int}(ht:IsTup s.heap t items) (hs:s.heap.IsSliceOf sl vl vu .none) (pl:IsPart vl lo) (pu:IsPart vu hi)
  (hw:¬ (sIx items.size 0 lo=0/\sIx items.size items.size hi=items.size))
  (h:Q (.ref s.heap.objs.size) { s with heap:=s.heap.push { cls:=.type "tuple",data:=.seq ((items.toList.drop (sIx items.size 0 lo)).take (sIx items.size items.size hi-sIx items.size 0 lo)).toArray } })
  (hsz:items.size<=sizeLine):wpAny (model prog w) A (getItem (.ref t) (.ref sl)) Q E s:=by
 have a:sizeOk (.seq ((items.toList.drop (sIx items.size 0 lo)).take (sIx items.size items.size hi-sIx items.size 0 lo)).toArray):=by
  show ((items.toList.drop (sIx items.size 0 lo)).take (sIx items.size items.size hi-sIx items.size 0 lo)).toArray.size<=sizeLine;rw[aW,bQ,cW,fJ];omega
 have j:sIx items.size items.size hi<=items.size:=sIx_le _ _ (aZ _) hi;obtain⟨os,b,d,f⟩:=id hs;have e:s.TypeIs (.ref sl) "slice" := ⟨os,b,d⟩;unfold getItem
 try with_reducible refine bV ?_
 first | refine aB (aF ?_) | skip
 refine aB (wpAny_sequenceKey ht.typeIs (by decide) ?_);refine aB (cJ (name:=Str.ofString "__getitem__") ht.typeIs dB (cX dB ht.typeIs entry_tuple_getitem ?_ (args_tuple_getitem _ _)));show wpAny _ _ (Builtin.Tuple.tupleItemsOf (.ref t) >>= _) _ _ s;refine aB (tupleItemsOf_ ht ?_);refine aB (eM e ?_);rw[aP (by decide)];refine aB (sliceApplied_gen hs pl pu ?_);have c:¬ ((((sIx items.size 0 lo:Nat):Int) == 0&&(1:Int) == 1&&(sIx items.size items.size hi-sIx items.size 0 lo) == items.size)=true):=by
  intro q;rw[cE,cE] at q;have i:((sIx items.size 0 lo:Nat):Int)=0:=eq_of_beq q.1.1;have g:sIx items.size items.size hi-sIx items.size 0 lo=items.size:=eq_of_beq q.2;exact hw ⟨by omega,by omega⟩
 show wpAny _ _ (if (((sIx items.size 0 lo:Nat):Int) == 0&&(1:Int) == 1&&(sIx items.size items.size hi-sIx items.size 0 lo) == items.size)=true then _ else _) _ _ s;rw[aM c,RB]
 first
  | exact aB (m:=Builtin.Tuple.tupleExact _) (eZ (aF ⟨_,rfl,aF h⟩) a)
  | exact aB (m:=Builtin.Tuple.tupleExact _) (eZ (aB (aF (aF ⟨_,rfl,aF h⟩))) a)
  | exact aB (aB (m:=Builtin.Tuple.tupleExact _) (eZ (aF (aF ⟨_,rfl,aF h⟩)) a))
  | exact aB (aB (m:=Builtin.Tuple.tupleExact _) (eZ (aF ⟨_,rfl,aF h⟩) a))
end
end HT
namespace L2
open PySem PySem.Spec PyProof.Rows
abbrev TO:=St->Hp->(Option Int->Hp->Prop)->Prop
def PO (X:Cx) (e:Option Expr) (t:TO):Prop :=
 ∀ (pins:List (Addr×Obj)) (s:Shared) (σ:St) (H:Hp) (Q:Option Int->Hp->Prop),Inv X pins σ H s->t σ H Q ->
  wpAny (model X.prog X.w) X.A (evalPart e X.env) (λu s'=>∃ o H',Inv X pins σ H' s'/\IsPart u o/\Q o H') X.xe s
def Wu:TO:=λ_ H Q=>Q none H
def Pt (t:TE):TO:=λσ H Q=>t σ H λx H1=>∃ i,x = .int i/\Q (some i) H1
section
variable {X:Cx}{lo:Option Expr}
theorem C5:PO X none Wu:=by
 intro a s b H Q I h;rw[evalPart_none];exact aF ⟨none,H,I,.none,h⟩
theorem Dl (h:PE X e te):PO X (some e) (Pt te):=by
 intro a s b H Q I hw;rw[evalPart_some];refine mR (h a s b H _ I hw) λu j ⟨x,g,f,c,d⟩=>?_
 obtain⟨i,rfl,q⟩:=d;obtain⟨t,rfl⟩:=c;exact⟨some i,g,f,.int i t,q⟩
def vK (X:Cx) (r:V->Option Int->Option Int->Hp->VK->Prop):Prop :=
 ∀ (pins:List (Addr×Obj)) (s:Shared) (σ:St) (H:Hp) (x:V) (v vl vu:Value) (lo hi:Option Int) (sl:Addr) (Q:VK),Inv X pins σ H s->nB x v->s.heap.IsSliceOf sl vl vu .none->IsPart vl lo->IsPart vu hi->r x lo hi H Q ->
  ∃ T id,typeLookup (.type T) "__getitem__" = pure (some (.builtin id))/\s.TypeIs v T/\wpAny (model X.prog X.w) X.A (getItem v (.ref sl)) (EP X pins σ Q) X.xe s
theorem vK.or (h:vK X r) (h':vK X r'):vK X (λx lo hi H Q=>r x lo hi H Q\/r' x lo hi H Q):=by
 intro a s b H x v d c lo hi sl Q I e i g f q;rcases q with q | q
 ·exact h a s b H x v d c lo hi sl Q I e i g f q
 ·exact h' a s b H x v d c lo hi sl Q I e i g f q
def Y9 (r:V->Option Int->Option Int->Hp->VK->Prop) (te:TE) (tl th:TO):TE:=λσ H Q=>te σ H λx H1=>tl σ H1 λl H2=>th σ H2 λu H3=>r x l u H3 Q
theorem Cd (hr:vK X r) (he:PE X e te) (hl:PO X lo tl) (hu:PO X hi th):PE X (.Subscript e (.Slice lo hi none p2) pos) (Y9 r te tl th):=by
 intro a s d H Q I h;refine Subscript_ (mR (he a s d H _ I h) λv k ⟨x,S,N,m,t⟩=>?_);refine wpAny_Slice (mR (hl a k d S _ N t) λg j ⟨l,O,M,z,p⟩=>mR (hu a j d O _ M p) λf c ⟨u,i,L,y,o⟩=>?_);rw[evalPart_none];refine aF ?_;have F:Inv X a d i { c with heap:=c.heap.push { cls:=.type "slice",data:=.fields #[g,f,.none] } }:=L.kept (t':=c.toks) λb U q=>aE _ q
 obtain⟨T,id,E,B,C⟩:=hr a { c with heap:=c.heap.push { cls:=.type "slice",data:=.fields #[g,f,.none] } } d i x v g f l u c.heap.objs.size Q F m (Heap.IsSliceOf.new ..) z y o;show wpAny (model X.prog X.w) X.A (subscriptTail e (.Slice lo hi none p2) v (.ref c.heap.objs.size)) (EP X a d Q) X.xe { c with heap:=c.heap.push { cls:=.type "slice",data:=.fields #[g,f,.none] } };exact tail_any (ops:=[.ref c.heap.objs.size,v]) B E C (by with_unfolding_all rfl)
def vV (xs:List V) (lo hi:Option Int):List V:=(xs.drop (HT.sIx xs.length 0 lo)).take (HT.sIx xs.length xs.length hi-HT.sIx xs.length 0 lo)
theorem Ww (xs:List V) (lo hi:Option Int):(vV xs lo hi).length<=xs.length:=by
 unfold vV;rw[bQ,cW];omega
def Ku (K:mC):V->Option Int->Option Int->Hp->VK->Prop:=λx lo hi H Q=>∃ a xs,x = .ref a/\nL K H a xs /\
 ¬ (HT.sIx xs.length 0 lo=0/\HT.sIx xs.length xs.length hi=xs.length)/\∀ p,H p=none->Q (.ref p) (upd H p (.tup (vV xs lo hi)))
theorem Rc:vK X (Ku X.K):=by
 intro g s u H x v z y lo f sl Q I k t m l h;obtain⟨a,d,rfl,p,hw,q⟩:=h;cases k;obtain⟨e,r,j,i⟩:=I.tuple p;have c:e.toArray.size=d.length:=by rw[aW];exact r.length.symm
 refine⟨"tuple",_,dB.lookup,j.typeIs,?_⟩;refine HT.getItem_tuple_cut j t m l (by rw[c];exact hw) ?_ (by rw[c];exact i);rw[c];refine⟨.ref s.heap.objs.size,_,I.laid (t':=s.toks) (o:=.tup (vV d lo f)) (λb B q=>aE _ q) (aZ _) ?_,rfl,q _ (I.hok.fresh (aZ _))⟩;exact⟨bY (Ww d lo f) i,_,(r.drop (HT.sIx d.length 0 lo)).take (HT.sIx d.length d.length f-HT.sIx d.length 0 lo),yE.new _ _⟩
def Uv (K:mC):R2:=λx y H Q=>∃ a b xs ys,x = .ref a/\y = .ref b/\nL K H a xs/\nL K H b ys/\xs≠[]/\xs.length+ys.length<=sizeLine /\
 (ys=[]->Q (.ref a) H)/\(ys≠[]->∀ p,H p=none->Q (.ref p) (upd H p (.tup (xs++ys))))
theorem mX.nil_iff (r:mX xs us):us=[]↔xs=[]:=by
 cases r with
 | nil=>simp
 | cons _ _=>simp
theorem QM:nH X (binaryOp .Add) (Uv X.K):=by
 intro e s L H x y v u Q I l k h;obtain⟨a,b,j,i,rfl,rfl,F,E,C,g,p,m⟩:=h;cases l;cases k;obtain⟨B,d,t,_⟩:=I.tuple F;obtain⟨f,c,r,_⟩:=I.tuple E;refine HT.cat_tup t r (λz=>C (d.nil_iff.mp z)) (λz=>⟨.ref a,H,I,rfl,p (c.nil_iff.mp z)⟩) (λz=>?_) (by rw[← d.length,← c.length];exact g);refine⟨.ref s.heap.objs.size,_,I.laid (t':=s.toks) (o:=.tup (j++i)) (λb M q=>aE _ q) (aZ _) ?_,rfl,m (λw=>z (c.nil_iff.mpr w)) _ (I.hok.fresh (aZ _))⟩;exact⟨by rw[aH];exact g,_,d.append c,yE.new _ _⟩
end
def tQ (n:Nat) (i:Int):Option Nat:=if 0<=i then (if i<n then some i.toNat else none) else if -(n:Int)<=i then some (i+n).toNat else none
def oZ {α:Type}(xs:List α) (i:Int):Option α:=(tQ xs.length i).bind λj=>xs[j]?
theorem Uz (h:tQ n i=some j):seqIndex? i n=some j/\j<n/\-(n:Int)<=i/\i<n:=by
 unfold tQ at h;by_cases b:0<=i
 ·rw[aP b] at h;by_cases a:i<n
  ·rw[aP a] at h;have e:i.toNat=j:=cA h;exact⟨by rw[seqIndex_of b a,e],by omega,by omega,a⟩
  ·rw[aM a] at h;cases h
 ·rw[aM b] at h;by_cases a:-(n:Int)<=i
  ·rw[aP a] at h;have e:(i+n).toNat=j:=cA h;exact⟨by rw[seqIndex_neg (by omega) a,e],by omega,a,by omega⟩
  ·rw[aM a] at h;cases h
theorem Kc (h:oZ xs i=some v):∃ j,seqIndex? i xs.length=some j/\xs[j]?=some v/\j<xs.length/\-(xs.length:Int)<=i/\i<xs.length:=by
 unfold oZ at h;cases e:tQ xs.length i with
 | none=>rw[e] at h;cases h
 | some j =>
  rw[e] at h;obtain⟨d,c,b,a⟩:=Uz e;exact⟨j,d,h,c,b,a⟩
theorem qG {α:Type}{xs:List α}{j:Nat}{v:α}(h:xs[j]?=some v):oZ xs (j:Int)=some v:=by
 have a:j<xs.length:=(aU.mp h).1;have e:tQ xs.length (j:Int)=some j:=by
  unfold tQ;rw[aP (by omega),aP (by omega)];simp
 unfold oZ;rw[e];exact h
def Ot (b:Expr):Prop:=∀ o i,subscripted b false o i=operate [o,i] (getItem o i)
def wL (X:Cx) (r:R2):Prop :=
 ∀ (value slice:Expr) (pins:List (Addr×Obj)) (s:Shared) (σ:St) (H:Hp) (x y:V) (v u:Value) (Q:VK),Inv X pins σ H s->nB x v->nB y u->r x y H Q ->
  subscripted slice false v u=operate [v,u] (getItem v u)->wpAny (model X.prog X.w) X.A (subscriptTail value slice v u) (EP X pins σ Q) X.xe s
def wO (X:Cx) (id:String) (r:V->List V->Hp->VK->Prop):Prop :=
 ∀ (pins:List (Addr×Obj)) (s:Shared) (σ:St) (H:Hp) (x:V) (xs:List V) (v:Value) (us:List Value) (Q:VK),Inv X pins σ H s->nB x v->mX xs us->r x xs H Q ->
  wpAny (model X.prog X.w) X.A (call (.builtin id) (v::us)) (EP X pins σ Q) X.xe s
section
variable {X:Cx}
theorem wL.or (h:wL X r) (h':wL X r'):wL X (λx y H Q=>r x y H Q\/r' x y H Q):=by
 intro value slice a s b H x y v u Q I d c q e;rcases q with q | q
 ·exact h value slice a s b H x y v u Q I d c q e
 ·exact h' value slice a s b H x y v u Q I d c q e
theorem qY {r:R2}(hr:wL X r) (ha:PE X a ta) (hb:PE X b tb) (hs:Ot b):PE X (.Subscript a b pos) (Ca r ta tb):=by
 intro c s d H Q I h;exact Subscript_ (Oi ha hb I h λv u e x y j i g f q=>hr a b c e d j x y v u Q i g f q (hs _ _))
def Gi (K:mC):R2:=λx y H Q=>∃ p xs i v,x = .ref p/\y = .int i/\mG K H p xs/\oZ xs i=some v/\Q v H
def Vm (K:mC):R2:=λx y H Q=>∃ p xs i v,x = .ref p/\y = .int i/\nL K H p xs/\oZ xs i=some v/\Q v H
def Qa:R2:=λx y H Q=>∃ z i c,x = .str z/\y = .int i/\z.length<=sizeLine/\oZ z.cps.toList i=some c/\Q (.str ⟨#[c]⟩) H
theorem sH:wL X (Gi X.K):=by
 intro value slice a s g H x y v u Q I C B h k;obtain⟨p,S,i,z,rfl,rfl,E,L,q⟩:=h;cases C;obtain⟨t,rfl⟩:=B;obtain⟨e,r,d,T⟩:=I.list E;obtain⟨j,b,O,V,N,M⟩:=Kc L;obtain⟨w,m,c⟩:=r.get O;have F:=r.length;have U:=Ad;have fin:EP X a g Q w s:=⟨z,H,I,c,q⟩;by_cases l:0<=i
 ·have f:i.toNat=j:=by
   rw[seqIndex_of l M] at b;exact cA b
  exact item_listR d.isList l (by omega) (by rw[f];simpa using m) fin k
 ·have f:(i+(e.toArray.size:Int)).toNat=j:=by
   rw[seqIndex_neg (by omega) N] at b;rw[aW,← F];exact cA b
  exact subscriptTail_builtinR (x:=w) d.isList.typeIs slot_list_getitem.lookup
   (wpAny_getItem_list_neg (Q:=λr o=>r=w/\EP X a g Q r o) d.isList (by omega) (by rw[aW]<;>omega) (by omega) (by rw[f];simpa using m) ⟨rfl,fin⟩) k
theorem OU:wL X (Vm X.K):=by
 intro value slice a s c H x y v u Q I g f h l;obtain⟨p,L,i,z,rfl,rfl,m,B,q⟩:=h;cases g;obtain⟨t,rfl⟩:=f;obtain⟨k,r,d,M⟩:=I.tuple m;obtain⟨j,E,C,T,S,O⟩:=Kc B;obtain⟨w,F,b⟩:=r.get C;have o:=r.length;have N:=Ad;have fin:EP X a c Q w s:=⟨z,H,I,b,q⟩;exact subscriptTail_builtinR (x:=w) d.typeIs slot_tuple_getitem.lookup
  (getItem_tuple (j:=j) (Q:=λr e=>r=w/\EP X a c Q r e) d (by omega) (by omega) (by rw[aW,← o];exact E) (by simpa using F) ⟨rfl,fin⟩) l
theorem Fg:wL X Qa:=by
 intro value slice a s B H x y v u Q I e d h f;obtain⟨z,i,c,rfl,rfl,E,k,q⟩:=h;obtain⟨t,rfl⟩:=e;obtain⟨C,rfl⟩:=d;obtain⟨j,b,o,L,m,l⟩:=Kc k;have g:z.cps.toList.length=z.length:=by simp[Str.length]
 rw[g] at b m l;have F:=Ad;exact tail_any (lF s z t) slot_str_getitem.lookup (getItem_str (c:=c) (by
  have r:decide (i < -(2 ^ 63:Int))=false:=bD (by omega);have p:decide (i>=2 ^ 63)=false:=bD (by omega);rw[r,p,Bool.or_false]) (by rw[b];simpa using o) ⟨.str ⟨#[c]⟩,H,I.tok _,⟨_,rfl⟩,q⟩) f
def Rh (K:mC):R2:=λx y H Q=>Gi K x y H Q\/Vm K x y H Q\/Qa x y H Q
theorem Zz:wL X (Rh X.K):=sH.or (OU.or Fg)
theorem Zd (its:List Value) (n j:Nat) (u:Value):Obj.mapSeq (·.setIfInBounds j u) { cls:=.type "list",data:=.seq its.toArray n }={ cls:=.type "list",data:=.seq (its.set j u).toArray n }:=by
 simp[Obj.mapSeq]
theorem Inv.lst {pins:List (Addr×Obj)}{σ:St}{H:Hp}{s:Shared}{p:Addr}{xs:List V}(I:Inv X pins σ H s) (h:H p=some (.lst xs)) :
  ∃ (its:List Value) (n:Nat),mX xs its/\s.heap.get? p=some { cls:=.type "list",data:=.seq its.toArray n }/\xs.length<=sizeLine:=by
 obtain⟨z,its,n,r,e⟩:=I.hok p _ h;exact⟨its,n,r,e,z⟩
theorem Inv.lstUpd {its:List Value}(I:Inv X pins σ H s) (h:H p=some (.lst xs))
  (ho:s.heap.get? p=some { cls:=.type "list",data:=.seq its.toArray n }) (hf:f { cls:=.type "list",data:=.seq its.toArray n }={ cls:=.type "list",data:=.seq its'.toArray n' }) (r:mX ys its') (hz:ys.length<=sizeLine) (t:Nat) :
  Inv X pins σ (upd H p (.lst ys)) { s with heap:=s.heap.update p f,toks:=t }:=by
 have e:(s.heap.update p f).get? p=some { cls:=.type "list",data:=.seq its'.toArray n' }:=by
  rw[kF f ho (by rw[hf]<;>rfl),hf]
 refine I.write (x:=p) (e:=p) (by rw[h];trivial) (.inl rfl) (λb u a q=>(Heap.get?_update_other _ _ (eC a)).trans q) ⟨_,e⟩ ?_;exact⟨hz,its',n',r,e⟩
def Ut:V->V->V->Hp->(Hp->Prop)->Prop:=λo i v H Q=>∃ p xs k j,o = .ref p/\i = .int k/\H p=some (.lst xs)/\tQ xs.length k=some j/\Q (upd H p (.lst (xs.set j v)))
theorem Ip:Jd X Ut:=by
 intro a s z H o i v N O u Q I E F C h;obtain⟨p,B,k,j,rfl,rfl,g,M,q⟩:=h;cases E;obtain⟨t,rfl⟩:=F;obtain⟨b,n,r,d,L⟩:=I.lst g;obtain⟨c,T,m,l⟩:=Uz M;have e:=r.length;have S:=Ad;have y:Inv X a z (upd H p (.lst (B.set j v))) { s with heap:=s.heap.update p (Obj.mapSeq (·.setIfInBounds j u)) } :=
  I.lstUpd g d (Zd b n j u) (r.set C j) (by rw[bT];exact L) s.toks
 by_cases x:0<=k
 ·have f:k.toNat=j:=by
   rw[seqIndex_of x l] at c;exact cA c
  exact PySem.W.ki_setAt d x (by omega) (by rw[aW,← e];exact l) (by rw[f];exact⟨_,y,q⟩)
 ·have f:(k+(b.toArray.size:Int)).toNat=j:=by
   rw[seqIndex_neg (by omega) m] at c;rw[aW,← e];exact cA c
  exact PySem.W.ki_setBack d (by omega) (by rw[aW,← e];exact m) (by omega) (by rw[f];exact⟨_,y,q⟩)
theorem NV (lo hi:Option Int) (n:Nat):(sliceBounds lo hi none n).1=((HT.sIx n 0 lo:Nat):Int)/\(sliceBounds lo hi none n).2.1=((HT.sIx n n hi:Nat):Int)/\(sliceBounds lo hi none n).2.2=1:=by
 refine⟨?_,?_,rfl⟩
 ·cases lo with
  | none=>simp[sliceBounds,HT.sIx]
  | some i =>
   simp only[sliceBounds,HT.sIx,Option.getD_none,show (1:Int)>0 by decide,iD];by_cases h:i<0
   ·simp only[h,iD]<;>omega
   ·simp only[h,gX]<;>omega
 ·cases hi with
  | none=>simp[sliceBounds,HT.sIx]
  | some i =>
   simp only[sliceBounds,HT.sIx,Option.getD_none,show (1:Int)>0 by decide,iD];by_cases h:i<0
   ·simp only[h,iD]<;>omega
   ·simp only[h,gX]<;>omega
theorem Z5 (its:List Value) (lo hi:Option Int):slicePick its.toArray lo hi none=((its.drop (HT.sIx its.length 0 lo)).take (HT.sIx its.length its.length hi-HT.sIx its.length 0 lo)).toArray:=by
 obtain⟨c,b,a⟩:=NV lo hi its.toArray.size;unfold slicePick;rw[c,b,a];simp only[sliceRange_one,pick_run,aW]<;>rfl
def U3 (K:mC):V->Option Int->Option Int->Hp->VK->Prop:=λx lo hi H Q=>∃ a xs,x = .ref a/\mG K H a xs/\∀ p,H p=none->Q (.ref p) (upd H p (.lst (vV xs lo hi)))
theorem Ky:vK X (U3 X.K):=by
 intro f s u H x v z y lo e sl Q I i t k j h;obtain⟨a,c,rfl,p,q⟩:=h;cases i;obtain⟨l,r,g,m⟩:=I.list p;have d:=r.length;refine⟨"list",_,slot_list_getitem.lookup,g.isList.typeIs,?_⟩;refine wpAny_getItem_list_slice g.isList t k j .none (by simp) ?_ (by rw[aW]<;>omega);rw[Z5,← d];refine⟨.ref s.heap.objs.size,_,I.laid (t':=s.toks) (o:=.lst (vV c lo e)) (λb B q=>aE _ q) (aZ _) ?_,rfl,q _ (I.hok.fresh (aZ _))⟩;exact⟨bY (Ww c lo e) m,_,0,(r.drop (HT.sIx c.length 0 lo)).take (HT.sIx c.length c.length e-HT.sIx c.length 0 lo),bB _ rfl⟩
def sX:V->Bool
 | .non=>true
 | .bl _=>true
 | .int _=>true
 | .str _=>true
 | _=>false
def qI:V->V->Bool
 | .non,.non=>true
 | .bl a,.bl b=>a == b
 | .bl a,.int b=>(if a then 1 else 0) == b
 | .int a,.bl b=>a == (if b then 1 else 0)
 | .int a,.int b=>a == b
 | .str a,.str b=>a == b
 | _,_=>false
theorem Sx (ry:nB y u) (rx:nB x v) (fy:sX y=true) (fx:sX x=true):SeqAt.EqAt A s u v (qI y x):=by
 cases y with
 | non =>
  cases ry;cases x with
  | non=>cases rx;exact SeqAt.EqAt.same _
  | bl b=>cases rx;exact SeqAt.EqAt.none_bool b
  | int b=>obtain⟨t,rfl⟩:=rx;exact SeqAt.EqAt.none_int b t
  | str b=>obtain⟨t,rfl⟩:=rx;exact SeqAt.EqAt.none_str b t
  | _=>exact absurd (show false=true from fx) bF
 | bl a =>
  cases ry;cases x with
  | non=>cases rx;exact SeqAt.EqAt.bool_none a
  | bl b=>cases rx;exact SeqAt.EqAt.bool_bool a b
  | int b=>obtain⟨t,rfl⟩:=rx;exact SeqAt.EqAt.bool_int a b t
  | str b=>obtain⟨t,rfl⟩:=rx;exact SeqAt.EqAt.bool_str a b t
  | _=>exact absurd (show false=true from fx) bF
 | int a =>
  obtain⟨c,rfl⟩:=ry;cases x with
  | non=>cases rx;exact SeqAt.EqAt.int_none a c
  | bl b=>cases rx;exact SeqAt.EqAt.int_bool a c b
  | int b=>obtain⟨t,rfl⟩:=rx;exact SeqAt.EqAt.int_int a c b t
  | str b=>obtain⟨t,rfl⟩:=rx;exact SeqAt.EqAt.int_str a c b t
  | _=>exact absurd (show false=true from fx) bF
 | str a =>
  obtain⟨c,rfl⟩:=ry;cases x with
  | non=>cases rx;exact SeqAt.EqAt.str_none a c
  | bl b=>cases rx;exact SeqAt.EqAt.str_bool a c b
  | int b=>obtain⟨t,rfl⟩:=rx;exact SeqAt.EqAt.str_int a c b t
  | str b=>obtain⟨t,rfl⟩:=rx;exact SeqAt.EqAt.str_str a c b t
  | _=>exact absurd (show false=true from fx) bF
 | _=>exact absurd (show false=true from fy) bF
def sE (x:V) (u:Value):Bool:=match u with
 | .none=>qI .non x
 | .bool b=>qI (.bl b) x
 | .int i _=>qI (.int i) x
 | .str z _=>qI (.str z) x
 | _=>false
theorem Kd (r:nB y u) (f:sX y=true):sE x u=qI y x:=by
 cases y with
 | non=>cases r;rfl
 | bl b=>cases r;rfl
 | int i=>obtain⟨t,rfl⟩:=r;rfl
 | str z=>obtain⟨t,rfl⟩:=r;rfl
 | _=>exact absurd (show false=true from f) bF
theorem Di:∀ {xs:List V}{us:List Value},mX xs us->xs.all sX=true->us.any (sE x)=xs.any λy=>qI y x
 | _,_,.nil,_=>rfl
 | y::xs,u::us,.cons r t,f=>by
  rw[lT,cE] at f;rw[eY,eY,Kd r f.1,Di t f.2]
theorem Bh (rx:nB x v) (fx:sX x=true):∀ {xs:List V}{us:List Value},mX xs us->xs.all sX=true->∀ u∈us,SeqAt.EqAt A s u v (sE x u)
 | _,_,.nil,_=>λu a=>by cases a
 | y::xs,u::us,.cons r t,f=>λb a=>by
  rw[lT,cE] at f;rcases aL.mp a with rfl | a
  ·rw[Kd r f.1];exact Sx r rx f.1 fx
  ·exact Bh rx fx t f.2 b a
def uW (x:V) (xs:List V):Bool:=xs.any λy=>qI y x
def Ez (K:mC) (neg:Bool):R2:=λx y H Q=>∃ p xs,y = .ref p/\(mG K H p xs\/nL K H p xs)/\sX x=true/\xs.all sX=true/\Q (.bl (if neg then !uW x xs else uW x xs)) H
theorem Lj:nH X (compareOp .In) (Ez X.K false):=by
 intro e s j H x y v u Q I d g h;obtain⟨p,k,rfl,b,f,fs,q⟩:=h;cases g;rcases b with b | b
 ·obtain⟨a,r,c,i⟩:=I.list b;refine SeqAt.in_listAt (sE x) c.isList (λw hw=>Bh d f r fs w (by simpa using hw)) ⟨.bl _,H,I,rfl,?_⟩;rw[show a.toArray.any (sE x)=a.any (sE x) by simp,Di r fs];exact q
 ·obtain⟨a,r,c,i⟩:=I.tuple b;refine SeqAt.in_tupleAt (sE x) c (λw hw=>Bh d f r fs w (by simpa using hw)) ⟨.bl _,H,I,rfl,?_⟩;rw[show a.toArray.any (sE x)=a.any (sE x) by simp,Di r fs];exact q
theorem W7:nH X (compareOp .NotIn) (Ez X.K true):=by
 intro e s j H x y v u Q I d g h;obtain⟨p,k,rfl,b,f,fs,q⟩:=h;cases g;rcases b with b | b
 ·obtain⟨a,r,c,i⟩:=I.list b;refine SeqAt.notIn_listAt (sE x) c.isList (λw hw=>Bh d f r fs w (by simpa using hw)) ⟨.bl _,H,I,rfl,?_⟩;rw[show a.toArray.any (sE x)=a.any (sE x) by simp,Di r fs];exact q
 ·obtain⟨a,r,c,i⟩:=I.tuple b;refine SeqAt.notIn_tupleAt (sE x) c (λw hw=>Bh d f r fs w (by simpa using hw)) ⟨.bl _,H,I,rfl,?_⟩;rw[show a.toArray.any (sE x)=a.any (sE x) by simp,Di r fs];exact q
theorem zA:oP X (.builtin "len") (λxs H Q=>∃ p ys,xs=[.ref p]/\(mG X.K H p ys\/nL X.K H p ys)/\Q (.int ys.length) H):=by
 intro f s j H xs k Q I r h;obtain⟨p,ys,rfl,b,q⟩:=h;obtain⟨u,rfl,g⟩:=rR r;cases g;have l:=Ad;rcases b with b | b
 ·obtain⟨e,c,d,i⟩:=I.list b;have a:=c.length;exact Calls.call_len_list d.isList (by simp only[aW]<;>omega) ⟨.int ys.length,H,I.tok _,⟨s.toks+1,by rw[aW,a]⟩,q⟩
 ·obtain⟨e,c,d,i⟩:=I.tuple b;have a:=c.length;exact len_tuple d (by simp only[aW]<;>omega) ⟨.int ys.length,H,I.tok _,⟨s.toks+1,by rw[aW,a]⟩,q⟩
theorem Qj:oP X (.builtin "len") (λxs H Q=>∃ z,xs=[.str z]/\z.length<=sizeLine/\Q (.int z.length) H):=by
 intro a s b H xs c Q I r h;obtain⟨z,rfl,d,q⟩:=h;obtain⟨u,rfl,t,rfl⟩:=rR r;have e:=Ad;exact len_str (by omega) ⟨.int z.length,H,I.tok _,⟨_,rfl⟩,q⟩
theorem oP.or (h:oP X f r) (h':oP X f r'):oP X f (λxs H Q=>r xs H Q\/r' xs H Q):=by
 intro a s b H xs c Q I d q;rcases q with q | q
 ·exact h a s b H xs c Q I d q
 ·exact h' a s b H xs c Q I d q
theorem J4:oP X (.type "list") (λxs H Q=>∃ p ys,xs=[.ref p]/\(mG X.K H p ys\/nL X.K H p ys)/\∀ l,H l=none->Q (.ref l) (upd H l (.lst ys))):=by
 intro g s z H xs C Q I r h;obtain⟨p,ys,rfl,k,q⟩:=h;obtain⟨u,rfl,B⟩:=rR r;cases B;have fin:∀ (a:List Value),mX ys a->ys.length<=sizeLine->∀ (c:Heap) (f:Nat),(∀ b y,s.heap.get? b=some y->c.get? b=some y) ->
   c.get? s.heap.objs.size=some { cls:=.type "list",dict:=none,data:=.seq a.toArray f,slots:=#[] }->EP X g z Q (.ref s.heap.objs.size) { s with heap:=c }:=λa d j c f i e =>
  ⟨.ref s.heap.objs.size,_,I.laid (t':=s.toks) i (aZ _) (show oI X.prog X.w _ c _ (.lst ys) from ⟨j,a,f,d,e⟩),rfl,q _ (I.hok.fresh (aZ _))⟩
 rcases k with k | k
 ·obtain⟨a,d,t,j⟩:=I.list k;have m:=d.length;obtain⟨o,v,x,n,hd⟩:=t.isList;exact call_list_seq p (.inl rfl) v x hd (λc f i e=>fin a d j c f i e) (by simp only[aW]<;>omega)
 ·obtain⟨a,d,t,j⟩:=I.tuple k;have m:=d.length;obtain⟨o,v,x,n,hd⟩:=t;exact call_list_seq p (.inr rfl) v x hd (λc f i e=>fin a d j c f i e) (by simp only[aW]<;>omega)
theorem tN:oP X (.type "tuple") (λxs H Q=>∃ p ys,xs=[.ref p]/\((mG X.K H p ys/\∀ l,H l=none->Q (.ref l) (upd H l (.tup ys)))\/(nL X.K H p ys/\Q (.ref p) H))):=by
 intro a s j H xs z Q I r h;obtain⟨p,ys,rfl,h⟩:=h;obtain⟨u,rfl,v⟩:=rR r;cases v;rcases h with⟨i,q⟩ | ⟨i,q⟩
 ·obtain⟨c,f,g,k⟩:=I.list i;have m:=f.length;refine call_tuple_list g.isList (λd x=>?_) (by simp only[aW]<;>omega);have t:Inv X a j H { s with heap:=d }:=I.kept (t':=s.toks) x;have y:Inv X a j (upd H d.objs.size (.tup ys)) { s with heap:=d.push { cls:=.type "tuple",data:=.seq c.toArray } } :=
   t.laid (t':=s.toks) (λb o e=>aE _ e) (aZ _) (show oI X.prog X.w _ _ _ (.tup ys) from ⟨k,c,f,yE.new _ _⟩)
  exact⟨.ref d.objs.size,_,y,rfl,q _ (t.hok.fresh (aZ _))⟩
 ·obtain⟨c,f,g,k⟩:=I.tuple i;exact call_tuple_same g ⟨.ref p,H,I,rfl,q⟩
def Hf (K:mC) (T:String) (x:V) (H:Hp):Prop:=match x with
 | .str _=>T = "str"
 | .int _=>T = "int"
 | .ref p=>(T = "list" /\ ∃ xs,mG K H p xs)\/(T = "tuple" /\ ∃ o,K.lookup p=some o/\o.cls = .type "tuple" /\ o.dict=none) \/
   (T = "dict" /\ ((∃ kvs,H p=some (.dK kvs))\/∃ kvs,H p=some (.dT kvs)))\/(T = "set" /\ ∃ S n,H p=some (.set S n))
 | _=>False
theorem KS (I:Inv X pins σ H s) (r:nB x v) (ty:Hf X.K T x H) :
  s.TypeIs v T/\∀ a,v = .ref a->∃ ob,s.heap.get? a=some ob/\ob.dict=none:=by
 cases x with
 | str z =>
  obtain⟨t,rfl⟩:=r;cases (show T = "str" from ty);exact⟨lF s z t,λ_ e=>nomatch e⟩
 | int i =>
  obtain⟨t,rfl⟩:=r;cases (show T = "int" from ty);exact⟨typeIs_int s i t,λ_ e=>nomatch e⟩
 | ref p =>
  cases r;rcases ty with⟨rfl,m,k⟩ | ⟨rfl,o,b,l,hd⟩ | ⟨rfl,b⟩ | ⟨rfl,S,n,b⟩
  ·obtain⟨j,_,h,_⟩:=I.list k;refine⟨h.isList.typeIs,λa e=>?_⟩;cases e;obtain⟨o,n,e,c,hd,_⟩:=h;exact⟨o,e,hd⟩
  ·refine⟨⟨o,I.kIn p o b,l⟩,λa e=>?_⟩;cases e;exact⟨o,I.kIn _ o b,hd⟩
  ·have z:∃ o,s.heap.get? p=some o/\o.ExactDict:=by
    rcases b with⟨f,b⟩ | ⟨f,b⟩
    ·obtain⟨_,_,_,_,o,_,_,e,d,_⟩:=I.hok p _ b;exact⟨o,e,d⟩
    ·obtain⟨_,_,_,_,o,_,_,e,d,_⟩:=I.hok p _ b;exact⟨o,e,d⟩
   obtain⟨o,e,d⟩:=z;refine⟨⟨o,e,d.1⟩,λa g=>?_⟩;cases g;exact⟨o,e,d.2.1⟩
  ·obtain⟨o,_,_,_,e,d,_⟩:=I.hok p _ b;refine⟨⟨o,e,d.1⟩,λa g=>?_⟩;cases g;exact⟨o,e,d.2.1⟩
 | _=>exact False.elim ty
def Nu (K:mC) (T:String) (r:V->List V->Hp->VK->Prop) (to:TE) (t:TA):TE:=λσ H Q=>to σ H λx H1=>Hf K T x H1/\t σ H1 λxs H2=>r x xs H2 Q
variable {id:String}
theorem zE (pa:PlainAttrs T) (slot:Slot T name id) (hty:typeOf (.builtin id)=pure (.type "method_descriptor")) (hm:wO X id r) (ho:PE X o to) (ha:PA X (e::es) t)
  (hbase:attributeBase o name X.env (eval o X.env)=eval o X.env:=by rfl)
  (hfew:((backTo cpos (starEach (e::es) X.env)).all (λx=>!x.1)&&(backToKw cpos (keywordEach [] X.env)).all (λx=>x.1.isSome) && decide ((e::es).length+([]:List Keyword).length+(if ([]:List Keyword).isEmpty then 0 else 1)<30))=true:=by rfl)
  (hline:(apos.endLine == cpos.line)=true:=by rfl) (hs:starEach (e::es) X.env=(false,eval e X.env)::starEach es X.env:=by rfl) (hplain:(backTo cpos (starEach es X.env)).any (·.1)=false:=by rfl) :
  PE X (.Call (.Attribute o name apos) (e::es) [] cpos) (Nu X.K T r to t):=by
 intro a s b H Q I h;refine wpAny_Call_method_late hbase hfew hline rfl (mR (ho a s b H _ I h) λv k ⟨x,B,f,c,ty,p⟩=>?_);obtain⟨u,q⟩:=KS f c ty;refine⟨T,id,pa,slot,hty,u,q,?_⟩;have d:=ha cpos a k b B _ f p;rw[hs] at d ⊢;refine Calls.callWith_builtin (by show (false||(backTo cpos (starEach es X.env)).any (·.1))=false;rw[hplain]<;>rfl) (Calls.evalArgs_plain ?_);exact mR d λi j ⟨g,z,y,l,m⟩=>hm a j b z x g v i Q y c l m
/- xs.append(e),list.index on a module's tuple .. are wO facts of 06m -/
end
def Us (X:Cx) (id:String) (r:V->List V->Hp->VK->Prop):Prop :=
 ∀ (pins:List (Addr×Obj)) (s:Shared) (σ:St) (H:Hp) (x:V) (xs:List V) (v:Value) (us:List Value) (Q:VK),Inv X pins σ H s->nB x v->mX xs us->r x xs H Q ->
  wpAny (model X.prog X.w) X.A (call (.builtin id) (v::us)) (EP X pins σ Q) X.xe s
theorem mX.one:∀ {x:V}{us:List Value},mX [x] us->∃ u,us=[u]/\nB x u
 | _,_,.cons r .nil=>⟨_,rfl,r⟩
theorem mX.eraseIdx:∀ {xs:List V}{us:List Value}(i:Nat),mX xs us->mX (xs.eraseIdx i) (us.eraseIdx i)
 | _,_,_,.nil=>.nil
 | _,_,0,.cons _ t=>t
 | _,_,i+1,.cons r t=>.cons r (mX.eraseIdx i t)
theorem mX.reverse (h:mX xs us):mX xs.reverse us.reverse:=by
 induction h with
 | nil=>exact .nil
 | cons r t a=>rw[jY,jY];exact mX.append a (.cons r .nil)
theorem mX.rep (h:mX xs us):∀ k:Nat,mX (List.replicate k xs).flatten (List.replicate k us).flatten
 | 0=>.nil
 | k+1=>by
  rw[cQ,cQ,fF,fF];exact mX.append h (mX.rep h k)
theorem Ud:∀ (l:List α) (i:Nat),(l.eraseIdx i).length<=l.length
 | [],_=>aZ _
 | _::_,0=>iE _
 | _::r,i+1=>Nat.succ_le_succ (Ud r i)
theorem Qy (its:List Value):∀ (k:Nat) (acc:List Value),
  List.foldl (λx1 x2=>x1++x2) acc.toArray (List.replicate k its.toArray)=(acc++(List.replicate k its).flatten).toArray
 | 0,acc=>by simp
 | k+1,acc=>by
  have e:acc.toArray++its.toArray=(acc++its).toArray:=by simp
  have a:(acc++its)++(List.replicate k its).flatten=acc++(List.replicate (k+1) its).flatten:=by
   rw[cQ,fF,bJ]
  rw[← a,← Qy its k (acc++its),← e,cQ,jL]
section
variable {X:Cx}
theorem Inv.lset {its:List Value}(I:Inv X pins σ H s) (hH:H l=some (.lst xs))
  (e:s.heap.get? l=some { cls:=.type "list",data:=.seq its.toArray n }) (hf:f its.toArray=its'.toArray) (hv:mX ys its') (hz:ys.length<=sizeLine) :
  Inv X pins σ (upd H l (.lst ys)) { s with heap:=s.heap.update l (Obj.mapSeq f),toks:=t' }:=by
 have q:=PySem.IsL.update e f;rw[hf] at q;refine I.write (x:=l) (e:=l) (by rw[hH];exact trivial) (.inl rfl) (λc u b a=>(Heap.get?_update_other s.heap (Obj.mapSeq f) (eC b)).trans a) ⟨_,q⟩ ?_;exact⟨hz,its',_,hv,q⟩
theorem Inv.lnew (I:Inv X pins σ H s) (hv:mX ys its) (hz:ys.length<=sizeLine) :
  Inv X pins σ (upd H s.heap.objs.size (.lst ys)) { s with heap:=s.heap.push { cls:=.type "list",data:=.seq its.toArray },toks:=t' } :=
 I.laid (λ_ _ q=>aE _ q) (aZ _) ⟨hz,its,0,hv,bB _ rfl⟩
theorem Inv.fresh (I:Inv X pins σ H s):H s.heap.objs.size=none:=I.hok.fresh (aZ _)
theorem Inv.lstM (I:Inv X pins σ H s) (hH:H l=some (.lst xs)):xs.length<=sizeLine/\∃ (its:List Value) (n:Nat),mX xs its/\xs.length=its.length/\s.heap.get? l=some { cls:=.type "list",data:=.seq its.toArray n }:=by
 obtain⟨z,its,n,r,e⟩:=I.hok l _ hH;exact⟨z,its,n,r,r.length,e⟩
theorem CV (h:n<=sizeLine):Builtin.List.listTooLong n=false:=by
 unfold Builtin.List.listTooLong;exact bD (by omega)
end
section
variable {X:Cx}
def J0:V->List V->Hp->VK->Prop:=λx vs H Q=>∃ l xs y,x = .ref l/\vs=[y]/\H l=some (.lst xs)/\xs.length<sizeLine/\Q .non (upd H l (.lst (xs++[y])))
theorem rQ:Us X "list.append" J0:=by
 intro b s i H x k v m Q I d f h;obtain⟨l,j,y,rfl,rfl,c,o,q⟩:=h;cases d;obtain⟨u,rfl,g⟩:=f.one;obtain⟨z,a,n,r,p,e⟩:=I.lstM c;refine iN F.slot_list_append ⟨_,e,rfl⟩ F.entry_list_append (F.args_list_append_2 _ _) (PySem.list_append l a.toArray n u (by rw[aW];omega)) ⟨e,?_⟩;refine⟨.non,_,I.lset (its':=a++[u]) c e (by simp) (r.append (.cons g .nil)) ?_,rfl,q⟩;rw[aH,bW];omega
def SA:V->List V->Hp->VK->Prop:=λx vs H Q=>∃ l b xs zs,x = .ref l/\vs=[.ref b]/\H l=some (.lst xs)/\H b=some (.lst zs)/\xs.length+zs.length<=sizeLine/\Q .non (upd H l (.lst (xs++zs)))
def O7:V->List V->Hp->VK->Prop:=λx vs H Q=>∃ l xs i k y,x = .ref l/\vs=[.int i]/\H l=some (.lst xs)/\-(2 ^ 63)<=i/\i<2 ^ 63/\seqIndex? i xs.length=some k/\xs[k]?=some y/\Q y (upd H l (.lst (xs.eraseIdx k)))
theorem Dt:Us X "list.pop" O7:=by
 intro c s L H x M v N Q I g j h;obtain⟨l,f,i,k,y,rfl,rfl,d,E,C,B,o,q⟩:=h;cases g;obtain⟨u,rfl,m⟩:=j.one;obtain⟨t,rfl⟩:=m;obtain⟨z,a,n,r,p,e⟩:=I.lstM d;obtain⟨w,hw,b⟩:=r.get o;refine iN F.slot_list_pop ⟨_,e,rfl⟩ F.entry_list_pop (F.args_list_pop_2 _ _)
  (MeetsSeq.list_pop_at l a.toArray n i t k w (fitsIndex_both E C) (by rw[aW,← p];exact B) (by rw[← dX];exact hw) (by rw[aW];omega)) ⟨e,?_⟩
 refine⟨y,_,I.lset (its':=a.eraseIdx k) d e ?_ (r.eraseIdx k) ?_,b,q⟩
 ·show a.toArray.eraseIdxIfInBounds k=(a.eraseIdx k).toArray;rw[List.eraseIdxIfInBounds_toArray]
 ·have:=Ud f k;omega
def Ps:R2:=λx y H Q=>∃ l b xs zs,x = .ref l/\y = .ref b/\H l=some (.lst xs)/\H b=some (.lst zs)/\xs.length+zs.length<=sizeLine/\∀ p,H p=none->Q (.ref p) (upd H p (.lst (xs++zs)))
theorem Ct:nH X (binaryOp .Add) Ps:=by
 intro d s t H x y v u Q I g f h;obtain⟨l,b,E,B,rfl,rfl,k,m,L,q⟩:=h;cases g;cases f;obtain⟨z,c,n,r,M,e⟩:=I.lstM k;obtain⟨C,a,F,i,j,p⟩:=I.lstM m;refine PySem.P.add_list e p ?_ (by rw[aW,aW];omega);have o:c.toArray++a.toArray=(c++a).toArray:=by simp
 rw[o];exact⟨.ref _,_,I.lnew (t':=s.toks) (r.append i) (by rw[aH];omega),rfl,q _ I.fresh⟩
def Qi:R2:=λx y H Q=>∃ l k xs,x = .ref l/\y = .int k/\H l=some (.lst xs)/\-(2 ^ 63)<=k/\k<2 ^ 63/\xs.length*k.toNat<=sizeLine /\
 ∀ p,H p=none->Q (.ref p) (upd H p (.lst (List.replicate k.toNat xs).flatten))
theorem OD (xs:List α) (k:Nat):(List.replicate k xs).flatten.length=k*xs.length:=by
 induction k with
 | zero=>simp
 | succ k a=>rw[cQ,fF,aH,a,Nat.succ_mul,Nat.add_comm]
theorem QE:nH X (binaryOp .Mult) Qi:=by
 intro p s W H x y v u Q I L E h;obtain⟨l,k,Y,rfl,rfl,N,S,O,B,q⟩:=h;cases L;obtain⟨t,rfl⟩:=E;obtain⟨z,b,n,r,M,e⟩:=I.lstM N;have f:b.toArray.size*k.toNat<=sizeLine:=by rw[aW,← M];exact B
 have i:¬ b.toArray.size*k.toNat>(2 ^ 63-1)/8:=by
  have:(sizeLine:Nat)<=(2 ^ 63-1)/8:=by decide
  omega
 have g:¬ (!Builtin.List.listFitsIndex k)=true:=by
  rw[fitsIndex_both S O];exact bF
 have c:¬ Builtin.List.listTooLong (b.toArray.size*k.toNat)=true:=by
  rw[CV f];exact bF
 have d:List.foldl (λo j=>o++j) #[] (List.replicate (if b.toArray.isEmpty=true then 0 else k.toNat) b.toArray)=(List.replicate k.toNat b).flatten.toArray:=by
  have V:∀ m:Nat,List.foldl (λo j=>o++j) #[] (List.replicate m b.toArray)=(List.replicate m b).flatten.toArray:=λm=>by
   have:=Qy b m [];rw[gI] at this;exact this
  rw[V];cases b with
  | nil=>simp
  | cons a Z=>rw[aM (by simp)]
 refine wpAny_binaryOp_repeat_ref (T := "list") (U := "int") (by decide) ⟨_,e,rfl⟩ (λC=>typeIs_int C k t) noFill_list_mul F.fills_int_mul F.slot_int_rmul repeat_list F.slot_int_index.lookup
  (iN F.slot_int_rmul (typeIs_int s k t) F.entry_int_rmul (F.args_int_rmul_2 _ _) (int___rmul___int_list k t l b.toArray n) ⟨e,rfl,⟨_,e,rfl⟩,iN F.slot_list_mul ⟨_,e,rfl⟩ F.entry_list_mul (F.args_list_mul_2 _ _) (AutoListH.list___mul___list_int_3 l b.toArray n k t g i c) ⟨e,?_⟩⟩)
 rw[d];exact⟨.ref _,_,I.lnew (t':=s.toks) (r.rep k.toNat) (by rw[OD,Nat.mul_comm];exact B),rfl,q _ I.fresh⟩
end
section
variable [DecidableEq κ]
def rX (kvs:List (κ×V)) (k:κ):Option V:=(kvs.find? λkv=>decide (kv.1=k)).map (·.2)
def pW (kvs:List (κ×V)) (k:κ) (v:V):List (κ×V) :=
 if (kvs.any λkv=>decide (kv.1=k))=true then kvs.map (λkv=>if kv.1=k then (kv.1,v) else kv) else kvs++[(k,v)]
theorem Do {p:κ×V}{r:List (κ×V)}{k:κ}(e:p.1=k):rX (p::r) k=some p.2:=by simp[rX,cY,e]
theorem B2 {p:κ×V}{r:List (κ×V)}{k:κ}(e:¬ p.1=k):rX (p::r) k=rX r k:=by simp[rX,cY,e]
theorem Sn (k:κ):∀ kvs:List (κ×V),(kvs.any λkv=>decide (kv.1=k))=(rX kvs k).isSome
 | []=>rfl
 | p::r=>by
  rw[eY];by_cases e:p.1=k
  ·simp only[Do e,bE e,Bool.true_or,lG]
  ·rw[B2 e,bD e,Bool.false_or];exact Sn k r
theorem Fn (kvs:List (κ×V)) (k:κ) (v:V):(pW kvs k v).length<=kvs.length+1:=by
 unfold pW;split
 ·rw[aA];omega
 ·rw[aH,bX,gJ];omega
theorem uV.isSome_eq (r:uV o u):o.isSome=u.isSome:=by
 cases o with
 | none=>cases u with
  | none=>rfl
  | some _=>exact (show False from r).elim
 | some _=>cases u with
  | none=>exact (show False from r).elim
  | some _=>rfl
theorem uV.getD (r:uV o u) (rd:nB d d'):nB (o.getD d) (u.getD d'):=by
 cases o with
 | none=>cases u with
  | none=>exact rd
  | some _=>exact (show False from r).elim
 | some _=>cases u with
  | none=>exact (show False from r).elim
  | some _=>exact r
theorem KV.val (r:KV kvs vs) (k:κ):uV (rX kvs k) (valueAt vs k):=by
 unfold KV at r;induction r with
 | nil=>exact True.intro
 | @cons p q i a h t f =>
  obtain⟨d,g⟩:=h;by_cases e:p.1=k
  ·have c:q.1=k:=d.symm.trans e;have b:valueAt (q::a) k=some q.2:=by simp[valueAt,cY,c]
   rw[Do e,b];exact g
  ·have c:¬ q.1=k:=λz=>e (d.trans z)
   have b:valueAt (q::a) k=valueAt a k:=by simp[valueAt,cY,c]
   rw[B2 e,b];exact f
theorem KV.any (r:KV kvs vs) (k:κ):(kvs.any λkv=>decide (kv.1=k))=vs.any λkv=>decide (kv.1=k):=by
 unfold KV at r;induction r with
 | nil=>rfl
 | cons h t a=>rw[eY,eY,a,h.1]
theorem KV.repl (r:KV kvs vs) (k:κ) (ry:nB y u) :
  KV (kvs.map λkv=>if kv.1=k then (kv.1,y) else kv) (vs.map λkv=>if kv.1=k then (kv.1,u) else kv):=by
 unfold KV at r ⊢;induction r with
 | nil=>exact .nil
 | @cons p q f d h t b =>
  rw[aO,aO];refine .cons ?_ b;obtain⟨a,c⟩:=h;by_cases e:p.1=k
  ·rw[aP e,aP (a.symm.trans e)];exact⟨a,ry⟩
  ·rw[aM e,aM (λz=>e (a.trans z))];exact⟨a,c⟩
theorem KV.put (r:KV kvs vs) (k:κ) (ry:nB y u):KV (pW kvs k y) (stored vs k u):=by
 unfold pW stored;rw[r.any k];by_cases e:(vs.any λa=>decide (a.1=k))=true
 ·rw[aP e,aP e];exact r.repl k ry
 ·rw[aM e,aM e];exact Paired.snoc r ⟨rfl,ry⟩
theorem KV.length (r:KV kvs vs):kvs.length=vs.length:=eX r
end
theorem yK {P:Program}(r:nB (kV k) u):(qC P w).is k u=true:=by
 cases k with
 | inl i=>obtain⟨t,e⟩:=(show ∃ t,u=Value.int i t from r);subst e;exact Zk P w i t
 | inr x=>obtain⟨t,e⟩:=(show ∃ t,u=Value.str x t from r);subst e;exact ME P w x t
theorem Jw {P:Program}:∀ {ks:List hI}{us:List Value},mX (ks.map kV) us->ItemsAre (qC P w) ks us
 | [],_,r=>by rw[jZ] at r;cases r;exact .nil
 | k::ks,_,r=>by
  rw[aO] at r;cases r with
  | cons h t=>exact .cons (yK h) (Jw t)
abbrev KT (H:Hp):List (List hI×V)->List (List hI×Addr×Value)->Prop:=Paired λp q=>p.1=q.1/\H q.2.1=some (.tup (p.1.map kV))/\nB p.2 q.2.2
theorem KT.val (r:KT H kvs xs) (k:List hI):uV (rX kvs k) ((atKey xs k).map (·.2)):=by
 induction r with
 | nil=>exact True.intro
 | @cons p q i a h t f =>
  obtain⟨d,_,g⟩:=h;by_cases e:p.1=k
  ·have c:q.1=k:=d.symm.trans e;have b:atKey (q::a) k=some q.2:=by simp[atKey,cY,c]
   rw[Do e,b];exact g
  ·have c:¬ q.1=k:=λz=>e (d.trans z)
   have b:atKey (q::a) k=atKey a k:=by simp[atKey,cY,c]
   rw[B2 e,b];exact f
theorem KT.repl (r:KT H kvs xs) (k:List hI) (ry:nB y u) :
  KT H (kvs.map λkv=>if kv.1=k then (kv.1,y) else kv) (xs.map (putAt k u)):=by
 induction r with
 | nil=>exact .nil
 | @cons p q g f h t c =>
  rw[aO,aO];refine .cons ?_ c;obtain⟨a,b,d⟩:=h;unfold putAt;by_cases e:p.1=k
  ·rw[aP e,aP (a.symm.trans e)];exact⟨a,b,ry⟩
  ·rw[aM e,aM (λz=>e (a.trans z))];exact⟨a,b,d⟩
theorem KT.put (r:KT H kvs xs) (k:List hI) (hb:H b=some (.tup (k.map kV))) (ry:nB y u) :
  KT H (pW kvs k y) (storedH xs k b u):=by
 have e:(kvs.any λa=>decide (a.1=k))=(atKey xs k).isSome:=by
  rw[Sn,(r.val k).isSome_eq,lP]
 unfold pW storedH;rw[e];by_cases q:(atKey xs k).isSome=true
 ·rw[aP q,aP q];exact r.repl k ry
 ·rw[aM q,aM q];exact Paired.snoc r ⟨rfl,hb,ry⟩
theorem KT.keeps (r:KT H kvs xs) (ht:∀ b ys,H b=some (.tup ys)->H' b=some (.tup ys)):KT H' kvs xs :=
 Paired.mapP r λ_ _ z=>⟨z.1,ht _ _ z.2.1,z.2.2⟩
section
variable {P:Program}
theorem Jo (ok:oN P w H h) (e:Rd H a u):oI P w H h a u:=e.ok ok
theorem xS (ok:oN P w H h) (e:Rd H a (.dK kvs)):kvs.length<=sizeLine/\(a == sysModules)=false/\∃ vs,KV kvs vs/\h.DictOf (qC P w) a vs :=
 show oI P w H h a (.dK kvs) from Jo ok e
theorem Cy (ok:oN P w H h) (e:H a=some (.dK kvs)):kvs.length<=sizeLine/\(a == sysModules)=false/\∃ vs,KV kvs vs/\h.DictOf (qC P w) a vs:=xS ok (.inl e)
theorem zV (ok:oN P w H h) (e:H a=some (.tup (ks.map kV))):(tupleKind (qC P w)).is h ks a:=by
 obtain⟨_,b,r,⟨o,f,d,n,c⟩,_⟩:=(show oI P w H h a (.tup (ks.map kV)) from ok a _ e);exact⟨o,b.toArray,n,f,d,c,by simpa using Jw r⟩
theorem zI (ok:oN P w H h) (e:Rd H a (.dT kvs)):kvs.length<=sizeLine/\(a == sysModules)=false /\
  ∃ xs,KT H kvs xs/\h.DictOfH (tupleKind (qC P w)) a xs:=by
 obtain⟨z,y,xs,r,o,u,v,k,j,i,g,f⟩:=(show oI P w H h a (.dT kvs) from Jo ok e);refine⟨z,y,xs,r,o,u,v,k,j,i,g,λx b=>?_,f⟩;have all:∀ {l:List (List hI×V)} {m:List (List hI×Addr×Value)},KT H l m->∀ x∈m,(tupleKind (qC P w)).is h x.1 x.2.1:=by
  intro l m q;induction q with
  | nil=>intro x b;exact nomatch b
  | @cons p q C B c t d =>
   intro x b;rcases aL.mp b with e | b
   ·subst e;exact zV ok (by rw[← c.1];exact c.2.1)
   ·exact d x b
 exact all r x b
theorem FK (ok:oN P w H h) (e:H a=some (.dT kvs)):kvs.length<=sizeLine/\(a == sysModules)=false /\
  ∃ xs,KT H kvs xs/\h.DictOfH (tupleKind (qC P w)) a xs:=zI ok (.inl e)
end
def sS (H:Hp) (a:Addr) (y:V) (r:Option V):Prop :=
 (∃ kvs k,Rd H a (.dK kvs)/\y=kV k/\r=rX kvs k)\/∃ kvs k b,Rd H a (.dT kvs)/\y = .ref b/\H b=some (.tup (k.map kV))/\r=rX kvs k
def yR (H:Hp) (a:Addr) (y v:V) (H':Hp):Prop :=
 (∃ kvs k,H a=some (.dK kvs)/\y=kV k/\kvs.length<sizeLine/\H'=upd H a (.dK (pW kvs k v))) \/
 ∃ kvs k b,H a=some (.dT kvs)/\y = .ref b/\H b=some (.tup (k.map kV))/\kvs.length<sizeLine/\H'=upd H a (.dT (pW kvs k v))
theorem sS.k {k:hI}(e:H a=some (.dK kvs)):sS H a (kV k) (rX kvs k):=.inl ⟨kvs,k,.inl e,rfl,rfl⟩
theorem yR.k {k:hI}(e:H a=some (.dK kvs)) (hl:kvs.length<sizeLine):yR H a (kV k) v (upd H a (.dK (pW kvs k v))):=.inl ⟨kvs,k,e,rfl,hl,rfl⟩
theorem yR.t {H:Hp}{a b:Addr}{kvs:List (List hI×V)}{k:List hI}{v:V}(e:H a=some (.dT kvs)) (eb:H b=some (.tup (k.map kV))) (hl:kvs.length<sizeLine) :
  yR H a (.ref b) v (upd H a (.dT (pW kvs k v))):=.inr ⟨kvs,k,b,e,rfl,eb,hl,rfl⟩
section
variable {X:Cx}
theorem Inv.big (I:Inv X pins σ H s):sysModules<s.heap.objs.size:=by
 have h:mainGlobals<s.heap.objs.size:=(I.mod.glob.keeps I.bk).lt;exact kZ (by decide) h
theorem Wz (hu:A.units+1<cLine) (I:Inv X pins σ H s) (g:sS H a y (some v)) (ry:nB y u) (h:∀ w' s',Inv X pins σ H s'->nB v w'->Q w' s') :
  wpAny (model X.prog X.w) A (getItem (.ref a) u) Q E s:=by
 rcases g with⟨d,k,e,i,l⟩ | ⟨d,k,b,e,i,t,l⟩
 ·subst i;obtain⟨z,hd,q,rel,j⟩:=xS I.hok e;obtain⟨w',hw,c⟩:=uV.some_of (v:=v) (o:=valueAt q k) (by rw[l];exact rel.val k);exact wpAny_getItem_of (yK ry) j.mapOf hw (h w' _ (I.tok _) c)
 ·subst i;cases (show u=Value.ref b from ry);obtain⟨z,hd,m,rel,j⟩:=zI I.hok e;obtain⟨w',hw,c⟩:=uV.some_of (v:=v) (o:=(atKey m k).map (·.2)) (by rw[l];exact rel.val k);obtain⟨p,r,f⟩:=cF.mp hw;refine wpAny_getItem_heap (iP hu) (zV I.hok t) j r ?_;rw[f];exact h w' _ (I.tok _) c
theorem NF (hu:A.units+1<cLine) (I:Inv X pins σ H s) (g:sS H a y o) (ry:nB y u) (h:∀ s',Inv X pins σ H s'->Q (.bool o.isSome) s') :
  wpAny (model X.prog X.w) A (compareOp .In u (.ref a)) Q E s:=by
 rcases g with⟨c,k,e,d,l⟩ | ⟨c,k,b,e,d,i,l⟩
 ·subst d;obtain⟨z,hd,m,rel,f⟩:=xS I.hok e;refine wpAny_in_of (yK ry) hd f.mapOf ?_;rw[← (rel.val k).isSome_eq,← l];exact h _ (I.tok _)
 ·subst d;cases (show u=Value.ref b from ry);obtain⟨z,hd,j,rel,f⟩:=zI I.hok e;refine wpAny_in_heap (iP hu) (zV I.hok i) hd f ?_;have q:=(rel.val k).isSome_eq;rw[lP] at q;rw[← q,← l];exact h _ (I.tok _)
theorem Sd (hu:A.units+1<cLine) (I:Inv X pins σ H s) (g:sS H a y o) (ry:nB y u) (h:∀ s',Inv X pins σ H s'->Q (.bool (!o.isSome)) s') :
  wpAny (model X.prog X.w) A (compareOp .NotIn u (.ref a)) Q E s:=by
 rcases g with⟨c,k,e,d,l⟩ | ⟨c,k,b,e,d,i,l⟩
 ·subst d;obtain⟨z,hd,m,rel,f⟩:=xS I.hok e;refine wpAny_notIn_of (yK ry) hd f.mapOf ?_;rw[← (rel.val k).isSome_eq,← l];exact h _ (I.tok _)
 ·subst d;cases (show u=Value.ref b from ry);obtain⟨z,hd,j,rel,f⟩:=zI I.hok e;refine wpAny_notIn_heap (iP hu) (zV I.hok i) hd f ?_;have q:=(rel.val k).isSome_eq;rw[lP] at q;rw[← q,← l];exact h _ (I.tok _)
theorem Nc (I:Inv X pins σ H s) (mu:Cc (H a)) (hs:Heap.SameBut a s.heap h') (he:∃ q,h'.get? a=some q) (new:oI X.prog X.w (upd H a ob) h' a ob) :
  Inv X pins σ (upd H a ob) { s with heap:=h',toks:=t' } :=
 I.write (x:=a) (e:=a) mu (.inl rfl) (λb q c z=>(hs.2 b c).trans z) he new
theorem Ed {P:Program}(z:kvs.length<=sizeLine) (hd:(a == sysModules)=false) (rel:KV kvs vs) (dd:h'.DictOf (qC P w) a vs) :
  oI P w H' h' a (.dK kvs):=⟨z,hd,vs,rel,dd⟩
theorem Xu (hu:A.units+1<cLine) (I:Inv X pins σ H s) (g:yR H a y v H') (ry:nB y u) (rv:nB v r) (h:∀ s',Inv X pins σ H' s'->Q () s') :
  wpAny (model X.prog X.w) A (setItem (.ref a) u r) Q E s:=by
 rcases g with⟨d,k,e,p,l,t⟩ | ⟨d,k,b,e,p,F,l,t⟩
 ·subst p t;obtain⟨z,hd,M,rel,x⟩:=Cy I.hok e;have j:M.length<=sizeLine:=by rw[← rel.length];exact z
  have o:(pW d k v).length<=sizeLine:=by have:=Fn d k v;omega
  refine wpAny_setItem_pairs (hsz:=j) (yK ry) x λB f m=>h _ ?_
  have N:∃ q,B.get? a=some q:=let ⟨q,_,_,i,_⟩:=f;⟨q,i⟩;exact Nc I (by rw[e];exact True.intro) m N (Ed o hd (rel.put k rv) f)
 ·subst p t;cases (show u=Value.ref b from ry);obtain⟨z,hd,L,rel,x⟩:=FK I.hok e;have j:L.length<=sizeLine:=by rw[← eX rel];exact z
  have o:(pW d k v).length<=sizeLine:=by have:=Fn d k v;omega
  refine wpAny_setItem_heap (hsz:=j) (iP hu) (zV I.hok F) x λB f m=>h _ ?_
  obtain⟨q,V,W,i,U,T,S,_,O⟩:=f;refine Nc I (by rw[e];exact True.intro) m ⟨q,i⟩ ⟨o,hd,_,(rel.put k F rv).keeps λc Y C=>?_,q,V,W,i,U,T,S,O⟩;rw[mO (Z7 C e (λz=>nomatch z))];exact C
end
section
variable {X:Cx}
theorem Y6 (I:Inv X pins σ H s) (e:Rd H a (.dK kvs)) (h:∀ t s',Inv X pins σ H s'->Q (.int kvs.length t) s'):wpAny (model X.prog X.w) A (call (.builtin "len") [.ref a]) Q E s:=by
 obtain⟨z,hd,c,rel,b⟩:=xS I.hok e;refine call_len_dict hd b (by rw[← rel.length];rw[kM] at z;omega) ?_;rw[← rel.length];exact h _ _ (I.tok _)
end
def Pp (i:Expr):Prop:=∀ ov iv,subscripted i false ov iv=operate [ov,iv] (getItem ov iv)
theorem FM {id:String}
  (hl:typeLookup (.type T) "__getitem__" = pure (some (.builtin id))) (hs:Pp slice)
  (h:wpAny (model prog w) A (eval value env) (λo s₁=>wpAny (model prog w) A (eval slice env) (λi s₂=>s₂.TypeIs o T/\wpAny (model prog w) A (getItem o i) Q E s₂) E s₁) E s) :
  wpAny (model prog w) A (eval (.Subscript value slice pos) env) Q E s:=by
 refine Subscript_ (cL h (λo s₁ d=>cL d (λi s₂ a=>?_) λ_ _ x=>x) λ_ _ x=>x);obtain⟨e,a⟩:=a;unfold subscriptTail;refine aB ?_;rw[getitemInPython_of_ne e.not_modules];refine aB (wpAny_specialOf e hl ?_);have fin:wpAny (model prog w) A (subscripted slice false o i) (λr b=>wpAny (model prog w) A (letTemporaryGo value o r >>= λ_=>pure r) Q E b) E s₂:=by
  rw[hs o i];exact wpAny_operating (cL a (λr b c=>aB (wpAny_letTemporaryGo (aF c))) λ_ _ x=>x)
 first
  | exact aF (aB fin)
  | exact aB (aF (aB fin))
  | exact aB fin
theorem Li {X:Cx}(I:Inv X pins σ H s) (g:sS H a y o):s.TypeIs (.ref a) "dict" := by
 rcases g with⟨c,k,e,_,_⟩ | ⟨c,k,b,e,_,_,_⟩
 ·obtain⟨_,_,h,_,d⟩:=xS I.hok e;exact d.typeIs
 ·obtain⟨_,_,f,_,d⟩:=zI I.hok e;exact d.typeIs
def FJ (td ty:TE):TE:=λσ H Q=>td σ H λx H1=>ty σ H1 λy H2=>∃ a v,x = .ref a/\sS H2 a y (some v)/\Q v H2
def QJ (ty td:TE):TE:=λσ H Q=>ty σ H λy H1=>td σ H1 λx H2=>∃ a o,x = .ref a/\sS H2 a y o/\Q (.bl (!o.isSome)) H2
section
variable {X:Cx}
theorem HG (hu:X.A.units+1<cLine) (ho:PE X o td) (hi:PE X i ty) (hs:Pp i):PE X (.Subscript o i pos) (FJ td ty):=by
 intro b s d H Q I h;refine FM PySem.F.slot_dict_getitem.lookup hs (mR (ho b s d H _ I h) λu f ⟨x,z,r,k,m⟩=>mR (hi b f d z _ r m) λL E ⟨y,t,e,j,a,v,p,g,l⟩=>?_);subst p;obtain rfl:u=Value.ref a:=k;exact⟨Li e g,Wz hu e g j λB C q c=>⟨v,t,q,c,l⟩⟩
theorem Zl (hu:X.A.units+1<cLine) (hi:PE X i ty) (ho:PE X o td):PC X .NotIn i o (QJ ty td):=by
 intro b s c H Q I h;refine mR (hi b s c H _ I h) λC d ⟨y,v,r,e,k⟩=>mR (ho b d c v _ r k) λu B ⟨x,t,q,f,a,l,m,g,j⟩=>?_
 subst m;obtain rfl:u=Value.ref a:=f;exact Sd hu q g e λz p=>⟨.bl (!l.isSome),t,p,rfl,j⟩
end
theorem EY {P:Program}(h:Heap) (hb:sysModules<h.objs.size):oI P w H (h.push { cls:=.type "dict",data:=.dict #[] }) h.objs.size (.dK []) :=
 ⟨cO _,cP.mpr (eC (bL hb)),[],.nil,Heap.DictOf.new h⟩
theorem DE {P:Program}(h:Heap) (hb:sysModules<h.objs.size):oI P w H (h.push { cls:=.type "dict",data:=.dict #[] }) h.objs.size (.dT []) :=
 ⟨cO _,cP.mpr (eC (bL hb)),[],.nil,_,#[],0,bB _ rfl,⟨rfl,rfl,rfl⟩,rfl,rfl,eS⟩
def JJ:TE:=λ_ H Q=>∀ p,H p=none->Q (.ref p) (upd H p (.dK []))
def BV:TE:=λ_ H Q=>∀ p,H p=none->Q (.ref p) (upd H p (.dT []))
section
variable {X:Cx}
theorem HC:PE X (.Dict [] [] pos) JJ:=λb s c H Q I h =>
 wpAny_Dict_empty ⟨.ref s.heap.objs.size,_,I.laid (a:=s.heap.objs.size) (o:=.dK []) (t':=s.toks) (λ_ _ q=>aE _ q) (aZ _) (EY s.heap I.big),rfl,h _ (I.hok.fresh (aZ _))⟩
theorem GX:PE X (.Dict [] [] pos) BV:=λb s c H Q I h =>
 wpAny_Dict_empty ⟨.ref s.heap.objs.size,_,I.laid (a:=s.heap.objs.size) (o:=.dT []) (t':=s.toks) (λ_ _ q=>aE _ q) (aZ _) (DE s.heap I.big),rfl,h _ (I.hok.fresh (aZ _))⟩
end
def sL (kvs more:List (hI×V)):List (hI×V):=more.foldl (λacc kv=>pW acc kv.1 kv.2) kvs
theorem KV.merge:∀ {more:List (hI×V)}{rs:List (hI×Value)}{kvs:List (hI×V)}{vs:List (hI×Value)},KV more rs->KV kvs vs->KV (sL kvs more) (merged vs rs):=by
 intro more rs kvs vs r;unfold KV at r;induction r generalizing kvs vs with
 | nil=>intro q;exact q
 | @cons p q d c h t b =>
  intro a;have e:KV (pW kvs p.1 p.2) (stored vs q.1 q.2):=by
   have:=a.put p.1 h.2;rw[← h.1];exact this
  exact b e
theorem Gm:∀ (more kvs:List (hI×V)),(sL kvs more).length<=kvs.length+more.length
 | [],kvs=>by show kvs.length<=kvs.length+0;omega
 | p::r,kvs=>by
  have b:=Gm r (pW kvs p.1 p.2);have a:=Fn kvs p.1 p.2;show (sL (pW kvs p.1 p.2) r).length<=_;rw[bX];omega
structure M2 (X:Cx) (o:Expr) (m:Str) (apos:Pos) (e f:Expr) (cpos:Pos):Prop where
 base:attributeBase o m X.env (eval o X.env)=eval o X.env
 few:((backTo cpos (starEach [e,f] X.env)).all (λx=>!x.1)&&(backToKw cpos (keywordEach [] X.env)).all (λx=>x.1.isSome) && decide (([e,f]:List Expr).length+([]:List Keyword).length+(if ([]:List Keyword).isEmpty then 0 else 1)<30))=true
 line:(apos.endLine == cpos.line)=true
 trees:backTo cpos (starEach [e,f] X.env)=[(false,eval e X.env),(false,eval f X.env)]
def Mt (H:Hp) (a:Addr):Prop:=(∃ kvs,Rd H a (.dK kvs))\/∃ kvs,Rd H a (.dT kvs)
theorem Zy {X:Cx}(I:Inv X pins σ H s) (d:Mt H a) :
  s.TypeIs (.ref a) "dict" /\ (∀ b,Value.ref a = .ref b->∃ ob,s.heap.get? b=some ob/\ob.dict=none)/\(a == sysModules)=false:=by
 rcases d with⟨f,e⟩ | ⟨f,e⟩
 ·obtain⟨_,hd,j,_,c⟩:=xS I.hok e;refine⟨c.typeIs,λb q=>?_,hd⟩;cases q;obtain⟨ob,_,_,h,g,_⟩:=c;exact⟨ob,h,g.2.1⟩
 ·obtain⟨_,hd,i,_,c⟩:=zI I.hok e;refine⟨c.typeIs,λb q=>?_,hd⟩;cases q;obtain⟨ob,_,_,h,g,_⟩:=c;exact⟨ob,h,g.2.1⟩
section
variable {X:Cx}
theorem FS (hu:A.units+1<cLine) (I:Inv X pins σ H s) (g:sS H a y o) (ry:nB y u) (rd:nB d r) (h:∀ w' s',Inv X pins σ H s'->nB (o.getD d) w'->Q w' s') :
  wpAny (model X.prog X.w) A (call (.builtin "dict.get") [.ref a,u,r]) Q E s:=by
 rcases g with⟨f,k,e,i,l⟩ | ⟨f,k,b,e,i,m,l⟩
 ·subst i;obtain⟨z,hd,p,rel,c⟩:=xS I.hok e;refine call_meetsIn kJ c.typeIs PySem.F.entry_dict_get (PySem.F.args_dict_get_3 _ _ _) (meets_dict_get_default (qC X.prog X.w) a (yK ry) hd r) ⟨_,c.mapOf,h _ _ (I.tok _) ?_⟩;rw[l];exact (rel.val k).getD rd
 ·subst i;cases (show u=Value.ref b from ry);obtain⟨z,hd,j,rel,c⟩:=zI I.hok e;refine call_meetsIn kJ c.typeIs PySem.F.entry_dict_get (PySem.F.args_dict_get_3 _ _ _) (meetsH_dict_get_default (tupleKind (qC X.prog X.w)) a b hd r) ⟨iP hu,k,j,zV I.hok m,c,h _ _ (I.tok _) ?_⟩;rw[l];exact (rel.val k).getD rd
end
def HH (td ty tx:TE):TE:=λσ H Q=>td σ H λx H1=>∃ a,x = .ref a/\Mt H1 a/\ty σ H1 λy H2=>tx σ H2 λz H3=>∃ o,sS H3 a y o/\Q (o.getD z) H3
section
variable {X:Cx}
theorem HS (hu:X.A.units+1<cLine) (ho:PE X o td) (he:PE X e ty) (hf:PE X f tx) (m:M2 X o "get" apos e f cpos):PE X (.Call (.Attribute o "get" apos) [e,f] [] cpos) (HH td ty tx):=by
 intro b s c H Q I h;refine wpAny_Call_method m.base m.few m.line jS kJ PySem.F.type_dict_get (mR (ho b s c H _ I h) λu q ⟨x,U,j,v,a,L,d,E⟩=>?_);subst L;obtain rfl:u=Value.ref a:=v;obtain⟨l,k,_⟩:=Zy j d;refine⟨l,k,?_⟩;rw[m.trees];refine Calls.callWith_builtin rfl (Calls.evalArgs_plain (jO (mR (he b q c U _ j E) λiv p ⟨y,T,O,t,C⟩ =>jO (mR (hf b p c T _ O C) λfv Y ⟨z,S,N,r,Z,g,B⟩=>Calls.spliced_nil ?_))));exact FS hu N g t r λV W M i=>⟨_,S,M,i,B⟩
end
section
variable {X:Cx}
theorem FE (I:Inv X pins σ H s) (e:Rd H a (.dK kvs)) (h:∀ p s',H p=none->Inv X pins σ (upd H p (.dK kvs)) s'->Q (.ref p) s'):wpAny (model X.prog X.w) A (call (.type "dict") [.ref a]) Q E s:=by
 obtain⟨z,hd,i,rel,g⟩:=xS I.hok e;refine kt_call_dict hd g (by rw[← rel.length];exact z) λj c f=>?_
 refine h _ _ (I.hok.fresh (aZ _)) (I.laid (a:=s.heap.objs.size) (o:=.dK kvs) (t':=s.toks) (λb q d=>?_) (aZ _) (Ed z (cP.mpr (eC (bL I.big))) rel c));exact (f.2 b (bL (aY d))).trans (aE _ d)
end
end L2
namespace Att
open PySem PySem.W PySem.Calls PyProof.Rows
theorem QC {P:Params}:∀ (ns:List Int) (vs:List Value),WellAll P h vs (ns.map WData.int)->IntsAre vs ns:=by
 intro ns;induction ns with
 | nil =>
  intro vs w;rw[jZ] at w;cases w;exact .nil
 | cons n ns c =>
  intro vs w;rw[aO] at w;cases w with
  | cons a b =>
   cases a;exact .cons _ _ (c _ b)
theorem Yi {l:OpenLaw}(hn:l.most=some n){P:Params}
  (hpre:l.row.toRowW.claim.pre args=true) (hwl:WellAll P h vals args) :
  ∃ a vs ns,vals=[Value.ref a]/\args=[WData.list (ns.map WData.int)]/\h.get? a=some { cls:=.type "list",data:=.seq vs.toArray }/\IntsAre vs ns/\ns.length<=n:=by
 have g:WShape.hasAll [] args [.list .int]=true:=(pre_splitW hpre).1;have i:l.pre.holds [] { args:=args }=true:=(pre_splitW hpre).2;obtain⟨d,r,rfl,u,t⟩:=hasAllW_cons g;obtain rfl:=hasAllW_nil t;obtain⟨v,rfl,p⟩:=hasW_list u;obtain⟨ns,rfl⟩:=items_int p;have b:ns.length<=n:=by
  unfold OpenLaw.pre at i;have f:(WTm.not (.lt (.lit (.int (n:Int))) (.len (.arg 0)))).holds [] { args:=[.list (ns.map .int)] }=true:=by
   have f:=(holds_andW i).1;rw[hn] at f;exact f
  have e:=condW_of f (w_not (w_lt w_lit (w_len_list (w_arg rfl))));rw[aA] at e;refine Nat.le_of_not_lt λq=>?_
  have m:(n:Int)<((ns.length:Nat):Int):=by omega
  first
   | (rw[bE m] at e;exact absurd e (by decide))
   | (simp at e;omega)
 cases hwl with
 | cons k j =>
  cases j;cases k with
  | list o c=>exact⟨_,_,ns,rfl,rfl,o,QC ns _ c,b⟩
theorem GP (l:OpenLaw) (args:List WData):l.row.toRowW.claim.post args (.bool true) args=true :=
 postW_of (r:=l.row.toRowW) (X:=(true == true))
  (show WShape.has [] (.bool true) .bool=true by first | rfl | decide | simp[WShape.has,WShape.arms,WShape.armsAll])
  (show (WTm.eq .res (.lit (.bool true))).value [] { args:=args,res:=some (.bool true),after:=args }=some (.bool (true == true)) from w_eq_bool (w_res rfl) w_lit) rfl
theorem attach_call {l:OpenLaw}
  (hn:l.most=some n) (hdf:d.params.defaults=[])
  (call:∀ (w:World) (s₀ s₁:Shared) (mg mb:Str->Option Value) (fa:Addr) (o:Obj) (pm cd doc:Value) (a:Addr) (vs:List Value) (ns:List Int),Ground q loose [] XP w s₀ mg mb s₁.heap->YP w s₁.heap ->s₁.heap.get? fa=some o->o.data = .func (docDef d.name d.params d.body d.scope pm cd doc)->s₁.heap.CodeRec cd d.name->mg d.name=some (.ref fa) ->s₁.heap.get? a=some { cls:=.type "list",data:=.seq vs.toArray }->IntsAre vs ns->ns.length<=n->s₁.gens=#[] ->
   codeAny (model l.prog w) callerA (.call (.ref fa) ⟨[.ref a],[]⟩) (λr s'=>r = .ok (.ret (.bool true))/\OldK s₁.heap s'.heap/\s'.os=s₁.os/\AllBare s'.gens) s₁) :
  WalkO q loose XP YP l.row.toRowW d [] (λf vs=>PySem.call f vs):=by
 intro w s₀ s₁ mg mb G Y fa o pm cd doc F kV v hd j p i z args k as c m t h y;obtain rfl:F = .none:=Dflts.none p hdf;obtain rfl:kV = .none:=Dflts.noKw p;obtain⟨a,vs,ns,rfl,rfl,e,b,g⟩:=Yi hn c h;refine enter_call (codeAny_mono (call w s₀ s₁ mg mb fa o pm cd doc a vs ns G Y v (fd_plain hd) j i e b g z) λr s' u=>?_);obtain⟨rfl,E,C,B⟩:=u;exact⟨.inl ⟨.bool true,.bool true,[],rfl,λ_=>rfl,.bool true,GP l _,λ_=>⟨List.Pairwise.nil,λ_ x=>(nomatch x)⟩⟩,E,C,B⟩
end Att
namespace L2
open PySem PySem.Spec PyProof.Rows
theorem Qc:∀ {vs:List Value}{ns:List Int},IntsAre vs ns->mX (ns.map V.int) vs
 | _,_,.nil=>.nil
 | _,_,.cons n t h=>.cons ⟨t,rfl⟩ (Qc h)
def Jl (H:Hp):Prop:=∀ b,H b=none\/∃ o xs,H b=some (.frz o (.lst xs))
theorem NS {P:Program}{K:mC}
  (KX:K.In s₁.heap) (hns:s₁.heap.Ns mainGlobals mg) (hb:s₁.heap.Ns builtinsNs mb) (hbb:∀ x:Str,x ≠ "__name__" -> mb x=bootBuiltins x) (hlim:s₁.heap.NoLimit) (hg:s₁.gens=#[])
  (ha:s₁.heap.get? a=some { cls:=.type "list",data:=.seq vs.toArray }) (hi:IntsAre vs ns) (hl:ns.length<=sizeLine) (hr:Room k callerA)
  (F:∀ base:Heap,K.In base->base.Ns mainGlobals mg->FnOk P w K mg base CX k fa fd [x] sp) (hbind:∀ (s:Shared) (u:Value),BindsTo s fd ⟨[u],[]⟩ [(x,u)])
  (hsp:∀ H:Hp,Jl H->mG K H a (ns.map V.int)->sp [.ref a] H (λv _=>v = .bl true) λ_ _ _=>False)
  (hCX:∀ H e s',CX [] H s₁ (λ_ _ _=>False) e s'->False) :
  codeAny (model P w) callerA (.call (.ref fa) ⟨[.ref a],[]⟩) (λr s'=>r = .ok (.ret (.bool true))/\OldK s₁.heap s'.heap/\s'.os=s₁.os/\AllBare s'.gens) s₁:=by
 have I:=Qc hi;have i:=hi.length;have core:∀ H:Hp,Jl H->mG K H a (ns.map V.int)->oN P w H s₁.heap->(∀ b,H b≠none->b=a)->(H a≠none->K.lookup a=none) ->
   codeAny (model P w) callerA (.call (.ref fa) ⟨[.ref a],[]⟩) (λr s'=>r = .ok (.ret (.bool true))/\OldK s₁.heap s'.heap/\s'.os=s₁.os/\AllBare s'.gens) s₁:=by
  intro H L W l M Z;have c:∀ {b:Addr} {o:Obj},s₁.heap.get? b=some o->H b=none->(xX s₁.heap H).get? b=some o:=λe n=>MF e n
  have B:∀ {b:Addr} {o:Obj} {t:Array DictEntry} {y:Nat},s₁.heap.get? b=some o->o.data = .dict t y->H b=none:=λ{b o t y} e d=>by
   cases q:H b with
   | none=>rfl
   | some u =>
    have E:b=a:=M b (by rw[q];simp);subst E;rw[ha] at e;cases e;have d':Data.seq vs.toArray _=Data.dict t y:=d;cases d'
  have f:∀ {b:Addr} {m:Str->Option Value},s₁.heap.Ns b m->(xX s₁.heap H).Ns b m:=λ{b m} ⟨o,t,y,e,d,r⟩=>⟨o,t,y,c e (B e d),d,r⟩
  have p:K.In (xX s₁.heap H):=λb o e=>c (KX b o e) (by
   cases q:H b with
   | none=>rfl
   | some u =>
    have E:b=a:=M b (by rw[q];simp);subst E;rw[Z (by rw[q];simp)] at e;cases e)
  have Y:Mod K mg (xX s₁.heap H):=⟨p,f hns,⟨mb,f hb,hbb⟩,let ⟨U,h1,h2⟩:=hlim;⟨U,f h1,h2⟩⟩;have e0:Env0 P w K mg (xX s₁.heap H) callerA [] s₁ H:=⟨rfl,Y,λb o e=>DA e,lV (PB _ _),trivial,λb hb=>absurd (show b∈([]:List Addr) from hb) (by simp),l,.of_eq hg⟩;refine codeAny_mono ((F _ p (f hns)).run callerA [] s₁ H ⟨[.ref a],[]⟩ [.ref a] [.ref a] _ _ hr e0 (hbind s₁ (.ref a)) (.cons rfl .nil) (hsp H L W)) λr s' h=>?_
  cases r with
  | error e=>exact (hCX H e s' h).elim
  | ok fl =>
   cases fl with
   | next=>exact False.elim h
   | brk=>exact False.elim h
   | cont=>exact False.elim h
   | ret u =>
    obtain⟨v,H',os,bare,un,j,Q,q⟩:=h;have S:v = .bl true:=q;subst S;obtain rfl:u=Value.bool true:=Q;refine⟨rfl,OldK.of_keep λb o e=>?_,os,bare⟩;cases q:H b with
    | none=>exact un.keep b o e q (by intro z;exact absurd (show b∈([]:List Addr) from z) (by simp)) (by simp)
    | some u =>
     rcases L b with z | ⟨T,xs,z⟩
     ·rw[q] at z;cases z
     ·have O:=un.frzs b T _ z;obtain⟨N,_⟩:=l b _ z;obtain⟨e2,_⟩:=j b _ O;rw[e] at N;cases N;exact e2
 cases C:K.lookup a with
 | some o =>
  have e:=KX a o C;rw[ha] at e;cases e;refine core (λ_=>none) (λ_=>.inl rfl) (.inr ⟨_,vs.toArray,_,C,rfl,rfl,rfl,by rw[aW,i];exact hl,by simpa using I⟩) (λb u z=>by have g:(none:Option HO)=some u:=z;cases g) (λb z=>absurd rfl z) λz=>absurd rfl z
 | none =>
  refine core (λb=>if b=a then some (.frz { cls:=.type "list",data:=.seq vs.toArray } (.lst (ns.map V.int))) else none) (λb=>?_) (.inl (.inr ⟨{ cls:=.type "list",data:=.seq vs.toArray },aP rfl⟩)) (λb u z=>?_) (λb z=>?_) λ_=>C
  ·by_cases hb:b=a
   ·exact .inr ⟨_,_,aP hb⟩
   ·exact .inl (aM hb)
  ·by_cases hb:b=a
   ·have g:=(aP hb).symm.trans z;cases g;subst hb;exact⟨ha,by rw[aA];exact hl,vs,_,I,ha⟩
   ·have g:=(aM hb).symm.trans z;cases g
  ·by_cases hb:b=a
   ·exact hb
   ·exact absurd (aM hb) z
theorem walk_of {l:PySem.W.OpenLaw}{n k:Nat}{q:Program}{loose:List Str}{XP:(Str->Option Value)->Heap->Prop}{YP:World->Heap->Prop}{d:DefRec}{K:Params->mC}{CX:World->Ba}{sp:World->Sp}{x:Str}
  (hn:l.most=some n) (hn2:n<=sizeLine) (hdf:d.params.defaults=[]) (hr:Room k callerA)
  (hY:∀ (w:World) (h:Heap),YP w h->(K w.params).In h)
  (F:∀ (w:World) (mg:Str->Option Value) (fa:Addr) (h:Heap),(K w.params).In h->h.Ns mainGlobals mg->mg d.name=some (.ref fa) ->∃ fd:FuncData,(∀ (s:Shared) (u:Value),BindsTo s fd ⟨[u],[]⟩ [(x,u)]) /\ ∀ base:Heap,(K w.params).In base->base.Ns mainGlobals mg->FnOk l.prog w (K w.params) mg base (CX w) k fa fd [x] (sp w))
  (hsp:∀ (w:World) (H:Hp) (a:Addr) (ns:List Int),ns.length<=n->Jl H->mG (K w.params) H a (ns.map V.int)->sp w [.ref a] H (λv _=>v = .bl true) λ_ _ _=>False)
  (hCX:∀ (w:World) (H:Hp) (s:Shared) (e:Value) (s':Shared),CX w [] H s (λ_ _ _=>False) e s'->False) :
  PySem.W.WalkO q loose XP YP l.row.toRowW d [] (λf vs=>PySem.call f vs):=by
 refine Att.attach_call hn hdf λw r j mg M fa o pm cd L a vs ns G Y N hd z p m i c y=>?_
 have t:=hY w _ Y;obtain⟨fd,B,I⟩:=F w mg fa _ t G.T.g p;exact NS t G.T.g G.T.b G.T.builtins G.T.nolimit y m i (bY c hn2) hr I B (λH E C=>hsp w H a ns c E C) λH e s'=>hCX w H j e s'
def uE (s:Stmt):Arguments:=match s with
 | .FunctionDef _ a _ _ _ _ _ _ _ _=>a
 | _=>{ posonlyargs:=[],args:=[],vararg:=none,kwonlyargs:=[],kw_defaults:=[],kwarg:=none,defaults:=[] }
def tK (s:Stmt):List Stmt:=match s with
 | .FunctionDef _ _ b _ _ _ _ _ _ _=>b
 | _=>[]
def nF (s:Stmt):Scope:=match s with
 | .FunctionDef _ _ _ _ _ _ sc _ _ _=>sc
 | _=>{ kind:=.function,names:=[],isGenerator:=false,isCoroutine:=false }
abbrev mJ:Ba:=λ_ _ _ _ _ _=>False
abbrev E0:XK:=λ_ _ _=>False
theorem sW {X:Cx}:G1 mJ X E0:=λ_ _ _ _ _ _ _ h=>h.elim
structure Fun (K:mC) (x qual:Str) (st:Stmt) (f:Addr) (fd:FuncData):Prop where
 ex:∃ (oc:Value) (od:Option Addr) (kV doc pm:Value) (an:Option Addr) (cdv ct:Value) (osl:Array (Option Value)),
  fd=PySem.W.fnOf x qual (uE st) (tK st) (nF st) .none kV doc pm an cdv ct/\K.lookup f=some ⟨oc,od,.func fd,osl⟩/\PySem.W.codeIn K cdv qual=true
 kp:PySem.W.keepIn K (.ref f)=true
section
variable {P:Program}{K:mC}
theorem Fun.ok {st:Stmt}(F:Fun K x qual st f fd) (S:FnScope N ps (nF st)) (len:∀ vs H Q E,sp vs H Q E->vs.length=ps.length)
  (hbody:∀ (cdv:Value) (A:Around) (outer:List Env) (s:Shared) (H:Hp) (vs:List V) (Q:VK) (E:XK),Room k (A.deeper (envOfC qual (nF st) s.heap.objs.size f cdv))->sp vs H Q E ->∃ t,qL (Ao mJ P w K mg base N qual (nF st) f cdv A outer s H E).nox (tK st) t/\t { nx:=λ_ H'=>Q .non H',rt:=Q } (vH N vs) H):FnOk P w K mg base mJ (k+1) f fd ps sp:=by
 obtain⟨j,i,kV,g,pm,m,cdv,l,c,rfl,d,b⟩:=F.ex;refine BZ d b S len λA outer s H vs Q E e a=>?_
 obtain⟨t,h,q⟩:=hbody cdv A outer s H vs Q E e a;exact⟨t,h.nox,q⟩
theorem Fun.binds {st:Stmt}(F:Fun K x qual st f fd)
  (h:∀ (kV doc pm:Value) (an:Option Addr) (cdv ct:Value) (us:List Value),us.length=ps.length->bindArgs (PySem.W.fnOf x qual (uE st) (tK st) (nF st) .none kV doc pm an cdv ct) ⟨us,[]⟩=pure (ps.zip us)):zF K fd ps []:=by
 obtain⟨d,c,kV,doc,pm,an,cdv,ct,a,rfl,e,b⟩:=F.ex;exact .all (h kV doc pm an cdv ct)
theorem Qx {st:Stmt}{kV:Value}(l:K.lookup f=some ⟨oc,od,.func (PySem.W.fnOf x qual (uE st) (tK st) (nF st) .none kV doc pm an cdv ct),osl⟩)
  (c:PySem.W.codeIn K cdv qual=true) (k:PySem.W.keepIn K (.ref f)=true):Fun K x qual st f (PySem.W.fnOf x qual (uE st) (tK st) (nF st) .none kV doc pm an cdv ct):=⟨⟨oc,od,kV,doc,pm,an,cdv,ct,osl,rfl,l,c⟩,k⟩
end
theorem oX (hr:Room k A):A.units+1<cLine:=cM (Nat.add_le_add_left (by decide:1<=64) _) hr.units
section
variable {X:Cx}
theorem pv (i:Nat) (hN:X.N[i]?=some x:=by rfl) (hv:Fw X.env.scope x:=by first | exact Or.inl rfl | exact Or.inr (Or.inl rfl) | exact Or.inr (Or.inr rfl)) (hd:(x == ("__debug__" : Str))=false:=by decide)
  (hcd:(x == ("__classdict__" : Str))=false:=by decide):PE X (.Name x pos) (qM i):=JF hN hv hd hcd
theorem Yf:oP X (.builtin "len") (λxs H Q=>∃ a kvs,xs=[V.ref a]/\H a=some (.dK kvs)/\Q (.int kvs.length) H):=by
 intro b s f H xs g Q I r h;obtain⟨a,kvs,rfl,d,q⟩:=h;obtain⟨u,rfl,c⟩:=rR r;cases c;exact Y6 I (.inl d) λt i e=>⟨.int kvs.length,H,e,⟨t,rfl⟩,q⟩
end
theorem pT {A B:Prop}(h:B):if false=true then A else B:=by
 rw[aM bF];exact h
theorem Ai {c A B:Prop} [Decidable c] (h1:c->A) (h2:¬ c->B):if c then A else B:=by
 by_cases h:c
 ·rw[aP h];exact h1 h
 ·rw[aM h];exact h2 h
def qP (H H':Hp):Prop:=∀ b o,H b=some o->H' b=some o
theorem qP.trans (a:qP H H1) (b:qP H1 H2):qP H H2:=λc o h=>b c o (a c o h)
theorem qP.free (e:qP H H') (h:H' l=Option.none):H l=Option.none:=by
 cases q:H l with
 | none=>rfl
 | some o =>
  rw[e l o q] at h;cases h
theorem qP.seq {K:mC}(e:qP H H') (h:mG K H a xs):mG K H' a xs:=by
 rcases h with (h | ⟨o,h⟩) | h
 ·exact .inl (.inl (e _ _ h))
 ·exact .inl (.inr ⟨o,e _ _ h⟩)
 ·exact .inr h
section
variable [DecidableEq κ]
theorem S6:∀ {l:List κ}{k:κ},l.Nodup->¬ k∈l->(l++[k]).Nodup
 | [],k,_,_=>by simp
 | a::r,k,h,b=>by
  obtain⟨d,c⟩:=cH.mp h;show (a::(r++[k])).Nodup;refine cH.mpr ⟨λm=>?_,S6 c λm=>b (aL.mpr (Or.inr m))⟩;rcases aR.mp m with q | q
  ·exact d q
  ·exact b (aL.mpr (Or.inl (bA.mp q).symm))
end
section
variable {X:Cx}
theorem Hs {K:mC}:∀ {ns:List Int}{its:List Value},mX (ns.map V.int) its->∃ xs:Array (Int×Tok),its.toArray=intItems xs/\ns=xs.toList.map (·.1)
 | [],_,.nil=>⟨#[],by simp[intItems],rfl⟩
 | n::ns,_,.cons r a=>by
  obtain⟨t,rfl⟩:=r;obtain⟨xs,c,b⟩:=Hs (K:=K) a;refine⟨(⟨(n,t)::xs.toList⟩:Array (Int×Tok)),?_,by rw[b];rfl⟩;have:(intItems xs).toList=_:=(cV Array.toList c).symm;unfold intItems at this ⊢;refine lU.mp ?_;simp only[Array.toList_map] at this ⊢;rw[aO,this]
theorem Gq (en:ns=ys.toList.map (·.1)) (hj:j<ys.size):∃ h:j<ns.length,numAt ys j=ns[j]:=by
 subst en;refine⟨by simpa using hj,?_⟩;simp[numAt,hj]
theorem Fz (hc:X.calm=true):oP X (.builtin "sum") (λxs H Q=>∃ (p:Addr) (ns:List Int),xs=[.ref p]/\mG X.K H p (ns.map V.int)/\Q (.int ns.sum) H):=by
 intro a s m H xs o Q I r h;obtain⟨p,ns,rfl,j,q⟩:=h;obtain⟨u,rfl,d⟩:=rR r;cases d;obtain⟨i,f,g,v⟩:=I.list j;obtain⟨b,e,l⟩:=Hs (K:=X.K) f;refine sum_intListG (xs:=b) (I.ok.hd hc) (e▸g.isList) λx t c k=>⟨.int ns.sum,H,I.kept k,⟨c,?_⟩,q⟩
 rw[preSum_eq,bR (by simp),l]
theorem KO (hc:X.calm=true):oP X (.builtin "min") (λxs H Q=>∃ (p:Addr) (ns:List Int),xs=[.ref p]/\mG X.K H p (ns.map V.int)/\ns≠[]/\∀ m:Int,m∈ns->(∀ a∈ns,m<=a)->Q (.int m) H):=by
 intro i s S H xs T Q I r h;obtain⟨p,ns,rfl,F,g,q⟩:=h;obtain⟨u,rfl,l⟩:=rR r;cases l;obtain⟨C,o,x,Y⟩:=I.list F;obtain⟨b,e,d⟩:=Hs (K:=X.K) o;have f:0<b.size:=by
  rcases Nat.eq_zero_or_pos b.size with z | z
  ·exfalso;apply g;rw[d];simp[Array.size_eq_zero_iff.mp z]
  ·exact z
 refine min_intList (xs:=b) (I.ok.hd hc) (e▸x.isList) f λv Z U E L=>?_
 obtain⟨t,rfl⟩:=intItems_at (xs:=b) E;have c:=argBest_lt (numAt b) (b.size-1);obtain⟨y,O⟩:=Gq d (cM c.1 (show b.size-1<b.size by omega));refine⟨.int _,H,I.kept L,⟨t,rfl⟩,q _ (O▸dQ y) λa M=>?_⟩;obtain⟨j,k,rfl⟩:=gO M;have B:j<b.size:=by rw[d] at k;simpa using k
 obtain⟨W,N⟩:=Gq d B;exact N▸c.2 j (by omega)
theorem LI (hc:X.calm=true):oP X (.builtin "max") (λxs H Q=>∃ (p:Addr) (ns:List Int),xs=[.ref p]/\mG X.K H p (ns.map V.int)/\ns≠[]/\∀ m:Int,m∈ns->(∀ a∈ns,a<=m)->Q (.int m) H):=by
 intro i s S H xs T Q I r h;obtain⟨p,ns,rfl,F,g,q⟩:=h;obtain⟨u,rfl,l⟩:=rR r;cases l;obtain⟨C,o,x,Y⟩:=I.list F;obtain⟨b,e,d⟩:=Hs (K:=X.K) o;have f:0<b.size:=by
  rcases Nat.eq_zero_or_pos b.size with z | z
  ·exfalso;apply g;rw[d];simp[Array.size_eq_zero_iff.mp z]
  ·exact z
 refine max_intList (xs:=b) (I.ok.hd hc) (e▸x.isList) f λv Z U E L=>?_
 obtain⟨t,rfl⟩:=intItems_at (xs:=b) E;have c:=argBest_gt (numAt b) (b.size-1);obtain⟨y,O⟩:=Gq d (cM c.1 (show b.size-1<b.size by omega));refine⟨.int _,H,I.kept L,⟨t,rfl⟩,q _ (O▸dQ y) λa M=>?_⟩;obtain⟨j,k,rfl⟩:=gO M;have B:j<b.size:=by rw[d] at k;simpa using k
 obtain⟨W,N⟩:=Gq d B;exact N▸c.2 j (by omega)
def Uw (K:mC):V->List V->Hp->VK->Prop:=λx vs H Q=>∃ (l:Addr) (xs:List V) (y:V) (j:Nat),x = .ref l/\vs=[y]/\mG K H l xs/\xs.all sX=true/\sX y=true/\j<xs.length /\
 (∀ z,xs[j]?=some z->qI z y=true)/\(∀ (m:Nat) z,m<j->xs[m]?=some z->qI z y=false)/\Q (.int j) H
theorem P1:wO X "list.index" (Uw X.K):=by
 intro C s σ H x vs v us Q I T U h;obtain⟨l,d,y,j,rfl,rfl,Y,S,fy,hj,h1,h2,q⟩:=h;cases T;obtain⟨u,rfl,V⟩:=U.one;obtain⟨a,r,W,hz⟩:=I.list Y;have M:=r.length;obtain⟨⟨cls,dd,data,sl⟩,L,O,n,hd⟩:=W.isList;simp only at O hd;subst O hd;have E:∀ (i:Nat) (N:i<a.toArray.size),∃ z,d[i]?=some z/\sE y a.toArray[i]=qI z y:=λi N=>by
  have t:i<a.length:=by simpa using N
  have k:d[i]?=some (d[i]'(by omega)):=aG (by omega);obtain⟨f,hw,g⟩:=r.get k;have e:a.toArray[i]=f:=by
   rw[aG t] at hw
   simpa using cA hw
  refine⟨_,k,?_⟩;rw[e];exact Kd g (cG.mp S _ (aI k))
 have c:j<a.toArray.size:=by rw[aW];omega
 have p:sizeLine<2 ^ 63-1:=by decide
 refine iN jT ⟨_,L,rfl⟩ PySem.F.entry_list_index (PySem.F.args_list_index_2 _ _)
  (SeqAt.list_indexAt l a.toArray n dd sl u (sE y) j c (by omega) ?_ ?_) ⟨L,λf hw=>Bh V fy r S f (by simpa using hw),⟨.int j,H,I.tok _,⟨_,rfl⟩,q⟩⟩
 ·obtain⟨z,b,B⟩:=E j c;show sE y a.toArray[j]=true;rw[B];exact h1 z b
 ·intro m Z o;obtain⟨z,b,B⟩:=E m Z;show sE y a.toArray[m]=false;rw[B];exact h2 m z o b
theorem L9:∀ {ys:List Str}{its:List Value},mX (ys.map V.str) its->StrsAre its ys:=by
 intro ys;induction ys with
 | nil=>intro its r;cases r;exact .nil
 | cons y r c =>
  intro its h;cases h with
  | cons a b =>
   obtain⟨t,rfl⟩:=a;exact .cons _ _ (c b)
def OP (K:mC):V->List V->Hp->VK->Prop:=λx vs H Q=>∃ (z:Str) (l:Addr) (ys:List Str),x = .str z/\vs=[.ref l]/\(mG K H l (ys.map V.str)\/nL K H l (ys.map V.str)) /\
 (ys.map (·.length)).sum+ys.length*z.length<=16777216/\Q (.str (Txt.join z ys)) H
theorem RS:wO X "str.join" (OP X.K):=by
 intro d s m H x p v y Q I g i h;obtain⟨z,l,o,rfl,rfl,a,e,q⟩:=h;obtain⟨t,rfl⟩:=g;obtain⟨u,rfl,j⟩:=i.one;cases j;rcases a with a | a
 ·obtain⟨c,r,b,_⟩:=I.list a;exact join_list b.isList (by simpa using L9 r) e λf k=>⟨.str _,H,I.tok _,⟨_,rfl⟩,q⟩
 ·obtain⟨c,r,b,_⟩:=I.tuple a;exact join_tuple b (by simpa using L9 r) e λf k=>⟨.str _,H,I.tok _,⟨_,rfl⟩,q⟩
end
section
variable {X:Cx}
def Ll (K:mC) (neg:Bool):R2:=λx y H Q=>∃ (a b:Addr) (xs:List V),x = .ref a/\y = .ref b/\mG K H a xs/\mG K H b []/\Q (.bl (if neg then !xs.isEmpty else xs.isEmpty)) H
theorem M7 (hu:X.A.units+64<cLine):nH X (compareOp .Eq) (Ll X.K false):=by
 intro c s m H x y v u Q I t p h;obtain⟨a,b,o,rfl,rfl,f,E,q⟩:=h;cases t;cases p;obtain⟨C,B,k,_⟩:=I.list f;obtain⟨l,z,j,_⟩:=I.list E;cases z;have g:∀ d,d=o.isEmpty->EP X c m Q (.bool d) s:=λd e=>⟨.bl d,H,I,rfl,by subst e;exact q⟩
 cases B with
 | nil=>exact SeqAt.RcAt.lists (e:=λ_=>true) k.isList j.isList rfl (by omega) (λi f _=>by simp at f) X.prog X.w _ _ (g _ (by simp))
 | cons r F=>exact SeqAt.RcAt.lists_lengths k.isList j.isList (by simp) (by omega) X.prog X.w _ _ (g _ rfl)
end
section
variable {X:Cx}
def uS (z:Str) (lo hi:Option Int):Str:=⟨((z.cps.toList.drop (HT.sIx z.length 0 lo)).take (HT.sIx z.length z.length hi-HT.sIx z.length 0 lo)).toArray⟩
theorem IY (lo hi:Option Int) (n:Nat):Builtin.Str.strSliceIndices lo hi 1 n=(List.range (HT.sIx n n hi-HT.sIx n 0 lo)).map (HT.sIx n 0 lo+·):=by
 unfold Builtin.Str.strSliceIndices;rw[← sliceRange_one];have a:∀ (v:Option Int) (d:Nat),d<=n->(match v with | none=>((d:Nat):Int) | some i=>if (1:Int)>0 then max 0 (min (if i<0 then i+(n:Int) else i) (n:Int)) else max (-1) (min (if i<0 then i+(n:Int) else i) ((n:Int)-1)))=((HT.sIx n d v:Nat):Int):=by
  intro v d hd;cases v with
  | none=>rfl
  | some i =>
   simp only[HT.sIx,show (1:Int)>0 by decide,iD];by_cases h:i<0
   ·simp only[h,iD]<;>omega
   ·simp only[h,gX]<;>omega
 have c:=a lo 0 (cO _);have b:=a hi n (aZ _);simp only[show (1:Int)>0 by decide,iD] at c b ⊢;rw[← c,← b];cases lo<;>cases hi<;>rfl
def Px:V->Option Int->Option Int->Hp->VK->Prop:=λx lo hi H Q=>∃ z:Str,x = .str z/\z.length<=sizeLine/\Q (.str (uS z lo hi)) H
theorem Pg (p:IsPart v o):∃ l:Option (Int×Tok),v=partValue l/\o=l.map (·.1):=by
 cases p with
 | none=>exact⟨none,rfl,rfl⟩
 | int i t=>exact⟨some (i,t),rfl,rfl⟩
theorem yT (z:Str):z.cps.toList.length=z.length:=by
 rw[fJ];rfl
theorem PQ {a b:Str}(h:a.cps.toList=b.cps.toList):a=b:=by
 obtain⟨a⟩:=a;obtain⟨b⟩:=b
 congr
 exact lU.mp h
theorem Ml:vK X Px:=by
 intro b s r H x v B y lo E sl Q I d i g f h;obtain⟨z,rfl,C,q⟩:=h;obtain⟨t,rfl⟩:=d;obtain⟨l,rfl,rfl⟩:=Pg g;obtain⟨u,rfl,rfl⟩:=Pg f;refine⟨"str",_,PySem.F.slot_str_getitem.lookup,lF _ z t,?_⟩;refine wpAny_getItem_str_slice (l:=l) (u:=u) (st:=none) i rfl ?_;have e:slicePicked z l u none=(List.range (HT.sIx z.length z.length (u.map (·.1))-HT.sIx z.length 0 (l.map (·.1)))).map (HT.sIx z.length 0 (l.map (·.1))+·):=IY _ _ _;have p:(⟨((slicePicked z l u none).filterMap (z.cps[·]?)).toArray⟩:Str)=uS z (l.map (·.1)) (u.map (·.1)):=by
  rw[e,pick_run];rfl
 have j:=HT.sIx_le z.length z.length (aZ _) (u.map (·.1));have c:=HT.sIx_le z.length 0 (cO _) (l.map (·.1));unfold sliceMade;split
 ·rename_i k
  have a:(slicePicked z l u none).length=z.length:=by
   have:=(cE _ _).mp k;exact eq_of_beq this.2
  have o:uS z (l.map (·.1)) (u.map (·.1))=z:=by
   rw[e,aA,cU] at a;apply PQ;show ((z.cps.toList.drop _).take _)=z.cps.toList;have m:HT.sIx z.length 0 (l.map (·.1))=0:=by omega
   rw[m] at a ⊢;rw[lH,bR];rw[yT];omega
  rw[o] at q;exact⟨.str z,H,I,⟨t,rfl⟩,q⟩
 ·rw[p];refine⟨?_,.str _,H,I.tok _,⟨_,rfl⟩,q⟩;have:(uS z (l.map (·.1)) (u.map (·.1))).length<=z.length:=by
   show ((z.cps.toList.drop _).take _).toArray.size<=_;rw[aW,bQ,cW,yT];omega
  omega
theorem MB:oP X (.type "dict") (λxs H Q=>∃ (a:Addr) (kvs:List (hI×V)),xs=[.ref a]/\H a=some (.dK kvs)/\∀ p,H p=none->Q (.ref p) (upd H p (.dK kvs))):=by
 intro b s g H xs i Q I r h;obtain⟨a,kvs,rfl,e,q⟩:=h;obtain⟨u,rfl,c⟩:=rR r;cases c;exact FE I (.inl e) λp j d f=>⟨.ref p,_,f,rfl,q p d⟩
theorem RW (rb:KV kvs kb) (hn:(kvs.map (·.1)).Nodup) :
  ∀ (r:List (hI×V)) (ka:List (hI×Value)),KV r ka->(∀ p∈r,p∈kvs)->(∀ p∈r,sX p.2=true/\qI p.2 p.2=true)->PySem.W.KeqHits A s kb ka true:=by
 intro r;induction r with
 | nil=>intro ka h _ _;cases h;exact .nil
 | cons p r C =>
  intro ka h c g;cases h with
  | cons H F =>
   rename_i q d
   obtain⟨k,v⟩:=p;obtain⟨x,j⟩:=q;obtain⟨e,o⟩:=H;have e:k=x:=e;subst e;have E:rX kvs k=some v:=by
    have b:=c (k,v) aK;have:∀ (l:List (hI×V)),(l.map (·.1)).Nodup->(k,v)∈l->rX l k=some v:=by
     intro l;induction l with
     | nil=>intro _ h;cases h
     | cons a l B =>
      intro hn c;have hn:(a.1::l.map (·.1)).Nodup:=hn;obtain⟨u,t⟩:=cH.mp hn;rcases aL.mp c with z | z
      ·subst z;exact Do rfl
      ·rw[B2 (λe=>u (by rw[e];exact aV.mpr ⟨_,z,rfl⟩))];exact B t z
    exact this kvs hn b
   have f:=rb.val k;rw[E] at f;obtain⟨y,I,m⟩:=f.some_of;obtain⟨f1,f2⟩:=g (k,v) aK;have i:SeqAt.EqAt A s j y (qI v v):=Sx o m f1 f1;rw[f2] at i;have:=PySem.W.KeqHits.hit I i (C d F (λp b=>c p (aT _ b)) λp b=>g p (aT _ b))
   simpa using this
theorem LQ:oP X (.builtin "isinstance") (λxs H Q=>∃ (x c:V) (t cv:Value) (b:Bool),xs=[x,c]/\nB c cv/\TyOf X.K H x t/\PySem.W.kitOne X.K t cv=some b/\Q (.bl b) H):=by
 intro g s l H xs m Q I r h;obtain⟨x,c,t,cv,b,rfl,d,ty,e,q⟩:=h;obtain⟨u,j,rfl,k,f⟩:=At r;have:j=cv:=by
  cases c with
  | ref a=>cases d;cases f;rfl
  | ty n=>cases d;cases f;rfl
  | non=>cases d;cases f;rfl
  | bl b=>cases d;cases f;rfl
  | int i=>obtain⟨z,rfl⟩:=d;exact absurd e (by unfold PySem.W.kitOne PySem.W.kitCls;cases ty<;>simp)
  | str i=>obtain⟨z,rfl⟩:=d;exact absurd e (by unfold PySem.W.kitOne PySem.W.kitCls;cases ty<;>simp)
  | byt i=>obtain⟨z,rfl⟩:=d;exact absurd e (by unfold PySem.W.kitOne PySem.W.kitCls;cases ty<;>simp)
  | flt i=>obtain⟨z,rfl⟩:=d;exact absurd e (by unfold PySem.W.kitOne PySem.W.kitCls;cases ty<;>simp)
 subst this;exact GV I k ty e λo=>⟨.bl b,H,I.tok _,rfl,q⟩
end
def vR (z:Str):It:=⟨λi _=>i<z.length,λi H x H'=>H'=H/\∃ c,z.cps[i]?=some c/\x = .str ⟨#[c]⟩,λi _=>z.length<=i⟩
theorem Qu {P:Program}{K:mC}(z:Str) (t:Tok) (it:Addr):Turn P w K tg (vR z) [it] it (λi h=>h.IsStrIter it "str_ascii_iterator" z t i) where
 mem:=by simp
 obj:=λi h st b hb=>by
  have e:b=it:=by simpa using hb
  subst e;obtain⟨o,e,c,d⟩:=st;exact⟨o,e,λv z=>by rw[d] at z;cases z⟩
 keep:=λi h h' st k=>by
  obtain⟨o,e,r⟩:=st;exact⟨o,k it (by simp) o e,r⟩
 item:=by
  intro X hP hw hK hc i pins s σ H E I hf st hg;subst hP hw hK;have hg:i<z.length:=hg;obtain⟨f0,f1,f2,f3,f4,f5⟩:=hf it (by simp);have hz:z.cps[i]?=some (z.cps[i]'hg):=cK hg;refine wpAny_pyNext_ascii_item st hz λh' st' sb=>?_
  have I1:Inv X pins σ H { s with heap:=h',toks:=s.toks+1 }:=I.turned (t':=s.toks+1) (λb o hb e=>(sb.2 b hb).trans e) f0 f1 f3 f4 f5;obtain⟨o,e,c,d⟩:=id st';exact⟨_,rfl,zU (s:={ s with heap:=h',toks:=s.toks+1 }) e c d (by decide) ⟨.str ⟨#[z.cps[i]'hg]⟩,H,I1,⟨_,rfl⟩,⟨rfl,_,hz,rfl⟩,st',λb hb=>(hf b hb).1⟩⟩
 done:=by
  intro X hP hw hK hc i pins s σ H E I hf st hg;subst hP hw hK;have hg:z.length<=i:=hg;obtain⟨f0,f1,f2,f3,f4,f5⟩:=hf it (by simp);exact wpAny_pyNext_ascii_end (I.ok.hd hc) st (gS (by exact hg)) λh' eb=>⟨rfl,I.turned (t':=s.toks) (λb o hb e=>eb b o hb e) f0 f1 f3 f4 f5⟩
 self:=λ_ _ _ _ _ st h=>wpAny_pyIter_striter_ascii st h
section
variable {X:Cx}
def OY (tl:TE):TI:=λσ H R=>tl σ H λx H1=>∃ z:Str,x = .str z/\z.cps.all (·<128)=true/\R (vR z) H1
theorem HJ (hl:PE X l tl):PI X tg l (OY tl):=by
 intro a s f H R I h;refine mR (hl a s f H _ I h) λv c ⟨x,g,d,i,z,m,k,q⟩=>?_
 subst m;obtain⟨t,rfl⟩:=i;refine wpAny_pyIter_ascii k ?_;have o:Inv X a f g { c with heap:=c.heap.push { cls:=.type "str_ascii_iterator",data:=.fields #[.str z t,.int 0 0] } }:=d.kept (t':=c.toks) λb p q=>aE _ q
 refine⟨c.heap.objs.size,[c.heap.objs.size],_,vR z,g,rfl,o,Qu z t _,⟨_,bB _ rfl,rfl,rfl⟩,λb j=>?_,q⟩;have e:b=c.heap.objs.size:=by simpa using j
 subst e;exact d.fpOk (aZ _) (d.hok.fresh (aZ _))
end
def vB (acc:List Str) (x:Str):List Str:=if x∈acc then acc else acc++[x]
def pV (l:List Str):List Str:=l.foldl vB []
theorem Je (l:List Str) (x:Str):pV (l++[x])=vB (pV l) x:=by unfold pV;rw[List.foldl_append];rfl
theorem HD (acc:List Str) (x y:Str):y∈vB acc x↔y∈acc\/y=x:=by
 unfold vB;split
 ·rename_i h
  constructor
  ·exact .inl
  ·rintro (q | q)
   ·exact q
   ·rw[q];exact h
 ·simp[aR]
theorem Fk (acc:List Str) (x:Str):(vB acc x).length=if x∈acc then acc.length else acc.length+1:=by
 unfold vB;split<;>simp
theorem Xi (l:List Str):∀ k,(pV (l.take k)).length<=k:=by
 intro k;induction k with
 | zero=>simp[pV]
 | succ k a =>
  rw[bS];cases e:l[k]? with
  | none=>simp;omega
  | some x =>
   simp only[Option.toList_some];rw[Je,Fk];split<;>omega
theorem Yt (r:List Str):∀ acc,acc.length<=(r.foldl vB acc).length/\(r.foldl vB acc).length<=acc.length+r.length:=by
 induction r with
 | nil=>intro acc;simp
 | cons x r a =>
  intro acc;have h:=a (vB acc x);rw[Fk] at h;simp only[jL,bX];split at h<;>omega
theorem Xv:∀ (r acc:List Str),acc.Nodup->(r.foldl vB acc).length=acc.length+r.length->(acc++r).Nodup:=by
 intro r;induction r with
 | nil=>intro acc h _;simpa using h
 | cons x r c =>
  intro acc h e;simp only[jL,bX] at e;have b:=Yt r (vB acc x);rw[Fk] at b;by_cases a:x∈acc
  ·rw[aP a] at b;omega
  ·have d:vB acc x=acc++[x]:=by unfold vB;rw[if_neg a]
   rw[d] at e;have:=c (acc++[x]) (S6 h a) (by rw[e];simp;omega)
   simpa using this
theorem Z2 (h:(pV l).length=l.length):l.Nodup:=by
 have:=Xv l [] eS (by simpa [pV] using h)
 simpa using this
theorem Ti {P:Program}{w:World}{h:Heap}{a:Addr}{S S':Str->Bool}{n n':Nat}(z:h.SetOf (PySem.strKind P w) a S n) (e:∀ k,S k=S' k) (en:n=n'):h.SetOf (PySem.strKind P w) a S' n':=by
 have:S=S':=funext e;subst this en;exact z
section
variable {R:Result->Shared->Prop}{P:Nat->Value->Prop}{St:Nat->Shared->Prop}
theorem NA (W:WalksS prog w A.in1 J fp wr G n P St) (a:Addr) (haf:a∉fp) (ys:List Str) (hys:ys.length=n) (hp:∀ i v,P i v->∃ x t,ys[i]?=some x/\v = .str x t) (hb:n+1<scanBound) :
  ∀ (k i:Nat) (s:Shared),n-i=k->i<=n->St i s->s.heap.SetOf (PySem.strKind prog w) a (λx=>decide (x∈pV (ys.take i))) (pV (ys.take i)).length ->
   (∀ s',Moved (a::wr) G s s'->s'.heap.SetOf (PySem.strKind prog w) a (λx=>decide (x∈pV ys)) (pV ys).length->R (.ok (.ret .none)) s') ->
   codeAny (model prog w) A (.builtin "set.update.loop" ⟨[.ref a,.ref J],[]⟩) R s:=by
 have l:a∉wr:=λz=>haf (W.sub _ z)
 have c:∀ b∈wr,b∈a::wr:=λb z=>aT _ z
 intro k;induction k with
 | zero =>
  intro i s V Y st p H;have ei:i=n:=by omega
  subst ei;rw[bR (by omega)] at p;refine fV jE ?_;rw[eF gQ _];show wpAny _ A.in1 (pyNext (.ref J) >>= _) _ _ s;refine aB (W.done s _ _ st λs' g=>?_);show wpAny _ A.in1 (ret Value.none) _ _ s';obtain⟨o,L,M,t,B,rest⟩:=p;exact aF (H s' (g.mono c) ⟨o,L,M,t,g.heap a _ l B,rest⟩)
 | succ k S =>
  intro i s V Y st p H;have h:i<n:=by omega
  refine fV jE ?_;rw[eF gQ _];show wpAny _ A.in1 (pyNext (.ref J) >>= _) _ _ s;refine aB (W.item i s _ _ h st λv s' U r g=>?_);obtain⟨x,t,T,rfl⟩:=hp i v U;have F:s'.heap.SetOf (PySem.strKind prog w) a (λx=>decide (x∈pV (ys.take i))) (pV (ys.take i)).length:=by
   obtain⟨o,L,M,Q,B,rest⟩:=p;exact⟨o,L,M,Q,g.heap a _ l B,rest⟩
  show wpAny _ A.in1 (holding [Value.str x t] (setAdd a (.str x t)) >>= _) _ _ s';refine aB (bV ?_);unfold setAdd;refine bV ?_;have j:(PySem.strKind prog w).is x (.str x t)=true:=by simp[PySem.strKind,Value.isStrOf]
  refine aB ((PySem.strKind prog w).pyHash (k:=x) j ?_);have d:(pV (ys.take i)).length+1<scanBound:=by have:=Xi ys i;omega
  refine wpAny_setAddHashed_of (knd:=strKind prog w) (s:={ s' with toks:=s'.toks+1 }) j rfl F d λZ N E=>?_
  have O:ys.take (i+1)=ys.take i++[x]:=by rw[bS,T];rfl
  have C:Z.SetOf (PySem.strKind prog w) a (λx=>decide (x∈pV (ys.take (i+1)))) (pV (ys.take (i+1))).length:=by
   refine Ti E (λy=>?_) ?_
   ·rw[O,Je];have:=HD (pV (ys.take i)) x y;by_cases q:y∈pV (ys.take i)<;>by_cases I:y=x<;>simp only[q,I,true_or,or_true,fY,false_or] at this<;>simp[this,q,I]
    all_goals (subst I;simp[this])
   ·rw[O,Je,Fk];by_cases q:x∈pV (ys.take i)<;>simp[q]
  refine aF ⟨iT gQ _,S (i+1) _ (by omega) h (W.frame _ s' _ _ r (iE _) λb hb o e=>?_) C λu f m=>?_⟩
  ·rw[N.2 b (λz:b=a=>haf (by rw[← z];exact hb))];exact e
  ·refine H u (Moved.trans W.gtrans ((g.mono c).then_heap (iE _) λb o hb e=>?_) f) m;rw[N.2 b (λz:b=a=>hb (by rw[z];exact aK))];exact e
end
end L2
namespace PySem
open PyProof.Rows L2
section
theorem BY
  (fill:∀ g,wpAny (model prog w) A.in1.in1 (Builtin.«set.__init__» ⟨[.ref s.heap.objs.size,x],[]⟩) (λf s1=>f = .done (.ret .none)/\Q (.ref s.heap.objs.size) s1) E { s with heap:=s.heap.push { cls:=.type "set",dict:=none,data:=.set #[] 0 (.fresh 0 0 g) } }) :
  wpAny (model prog w) A (call (.type "set") [x]) Q E s:=by
 obtain⟨c,r,d⟩:=F.called_set.mro;refine wpAny_call (codeAny_of_tree (aF ⟨Code.quiet_builtin _ (by decide +kernel),fV F.entry_type_call ?_⟩));have b:=F.called_set;have body:wpAny (model prog w) A.in1 (Builtin.«type.__call__» ⟨[.type "set",x],[]⟩) (λf s1=>match f with | .done f=>wants Q E (.ok f) s1 | .again h=>h.quiet=true/\codeAny (model prog w) A h (wants Q E) s1) (λe s1=>wants Q E (.error e) s1) s:=by
  unfold Builtin.«type.__call__»;dsimp only;rw[b.notType];simp only[eI,gX,b.canCreate];refine aB (iM (F.typeCall_set_1 x) (aB (iM d ?_)));rw[aM (show ¬ (c::r).isEmpty=true from bF)];refine aB (iM b.made (aB (aF (aB (bV (wpAny_call (code_set_new_1 x λg=>?_)))))));have a:Shared.TypeIs { s with heap:=s.heap.push { cls:=.type "set",dict:=none,data:=.set #[] 0 (.fresh 0 0 g) } } (.ref s.heap.objs.size) "set" := ⟨_,bB _ rfl,rfl⟩;refine aB (dR a b.sub ?_);rw[aM (show ¬ (!true)=true from bF)];refine aB (bV (cJ a b.init (wpAny_call (codeAny_call_builtin b.init.plain F.entry_set_init (check_set_init_1 a ?_)))));refine cL (fill g) (λf s1 q=>?_) λ_ _ q=>q
  obtain⟨rfl,q⟩:=q;exact aF q
 exact body
theorem W6 {S:Addr}(hl:s.heap.IsList l its)
  (loop:codeAny (model prog w) A (.builtin "set.update.loop" ⟨[.ref S,.ref s.heap.objs.size],[]⟩) (λr s1=>match r with | .ok (.ret _)=>Q () s1 | .ok _=>False | .error e=>E e s1) { s with heap:=s.heap.push { cls:=.type "list_iterator",data:=.fields #[.ref l,.int 0 0] } }) :
  wpAny (model prog w) A (Builtin.Frozenset.updateFrom "set.__init__" S (.ref l)) Q E s:=by
 have a:wpAny (model prog w) A (Builtin.Frozenset.isAnySet (.ref l)) (λb s1=>b=false/\s1=s) E s :=
  aB (dR hl.typeIs F.sub_list_set (dR hl.typeIs F.sub_list_frozenset ⟨rfl,rfl⟩))
 refine aB (cL a (λb s1 q=>?_) λ_ _ q=>q);obtain⟨rfl,rfl⟩:=q;refine aB (eM hl.typeIs (aB (gG hl (aB (wpAny_runValue ?_)))));exact codeAny_mono loop λr s1 q=>by
  match r,q with
  | .ok (.ret v),q=>exact aF q
  | .error e,q=>exact q
abbrev Ef (g:Bool):Obj:={ cls:=.type "set",dict:=none,data:=.set #[] 0 (.fresh 0 0 g) }
theorem HQ {S:Addr}(hS:s.heap.get? S=some (Ef g))
  (fill:wpAny (model prog w) A (Builtin.Frozenset.updateFrom "set.__init__" S x) (λ_ s1=>Q (.done (.ret .none)) s1) E s) :
  wpAny (model prog w) A (Builtin.«set.__init__» ⟨[.ref S,x],[]⟩) Q E s:=by
 unfold Builtin.«set.__init__»;generalize Builtin.Frozenset.updateFrom=up at fill ⊢
 wp_walk
 exact cL fill (λ_ _ q=>aF q) λ_ _ q=>q
theorem EC (z:StrsAre us zs):zs.length=us.length:=by
 induction z with
 | nil=>rfl
 | cons _ _ _ a=>rw[bX,bX,a]
theorem CB (z:StrsAre us zs):∀ {i:Nat}{v:Value},us[i]?=some v->∃ x t,zs[i]?=some x/\v = .str x t:=by
 induction z with
 | nil=>intro i v e;cases e
 | cons x t _ a =>
  intro i v e
  match i,e with
  | 0,e=>exact⟨x,t,rfl,(cA e).symm⟩
  | i+1,e=>exact a (i:=i) e
theorem Mi {s s':Shared}(a:s'.gens=s.gens) (b:s'.drawn=s.drawn) (c:s'.os=s.os):s'={ s with heap:=s'.heap,toks:=s'.toks }:=by
 cases s;cases s';cases a;cases b;cases c;rfl
theorem Yl (hh:A.handled=none) (hl:s.heap.IsList l items) (hi:StrsAre items.toList ys) (hb:items.size+1<scanBound)
  (h:∀ (h':Heap) (tk:Nat),h'.SetOf (PySem.strKind prog w) s.heap.objs.size (λx=>decide (x∈pV ys)) (pV ys).length->(∀ b o,b<s.heap.objs.size->s.heap.get? b=some o->h'.get? b=some o) ->Q (.ref s.heap.objs.size) { s with heap:=h',toks:=tk }):wpAny (model prog w) A (call (.type "set") [.ref l]) Q E s:=by
 refine BY λg=>HQ (bB _ rfl) (W6 (hl.push _) ?_)
 have two:(s.heap.push (Ef g)).objs.size=s.heap.objs.size+1:=dP ..;have lt:l<s.heap.objs.size:=by
  obtain⟨o,e,_⟩:=hl;exact aY e
 have f:l≠(s.heap.push (Ef g)).objs.size:=by
  rw[two];exact bL (Nat.lt_succ_of_lt lt)
 have d:s.heap.objs.size∉[(s.heap.push (Ef g)).objs.size,l]:=λz=>by
  rw[two] at z;rcases aL.mp z with q | q
  ·exact bL (Nat.lt_succ_self _) q
  ·exact iC lt (bA.mp q)
 have len:ys.length=items.size:=by rw[EC hi,fJ]
 have item:∀ (i:Nat) (v:Value),items[i]?=some v->∃ x t,ys[i]?=some x/\v = .str x t:=λi v e=>CB hi (by rw[dX];exact e)
 have empty:((s.heap.push (Ef g)).push { cls:=.type "list_iterator",data:=.fields #[.ref l,.int 0 0] }).SetOf (PySem.strKind prog w) s.heap.objs.size (λx=>decide (x∈pV (ys.take 0))) (pV (ys.take 0)).length :=
  Ti ((setObjOf_fresh (knd:=PySem.strKind prog w) g).setOf (aE _ (bB _ rfl)) (by unfold scanBound;omega)) (λ_=>by simp[pV]) (by simp[pV])
 refine NA ((Walks.list (by simp[hh]) _ l f items).toS) s.heap.objs.size d ys len item hb items.size 0 _ (by omega) (cO _) ⟨⟨_,bB _ rfl,rfl,rfl⟩,(hl.push _).push _⟩ empty λa c fin=>?_
 have res:=h a.heap a.toks fin λb o j e=>c.heap b o (λz=>?_) (aE _ (aE _ e))
 ·rw[show a={ s with heap:=a.heap,toks:=a.toks } from Mi c.gens c.drawn c.os];exact⟨rfl,res⟩
 ·rcases aL.mp z with q | q
  ·exact bL j q
  ·have q:=bA.mp q;rw[two] at q;exact bL (Nat.lt_succ_of_lt j) q
end
end PySem
namespace L2
open PySem PySem.Spec PyProof.Rows
section
variable {X:Cx}
def Bf (P:Program) (w:World) (a:Addr) (n:Nat):HO:=.ext λh=>∃ S,h.SetOf (PySem.strKind P w) a S n
theorem OR (hc:X.calm=true):oP X (.type "set") (λxs H Q=>∃ (p:Addr) (ys:List Str),xs=[.ref p]/\mG X.K H p (ys.map V.str)/\ys.length<=4000/\∀ a,H a=none->Q (.ref a) (upd H a (Bf X.prog X.w a (pV ys).length))):=by
 intro f s E H xs F Q I r h;obtain⟨p,ys,rfl,v,L,q⟩:=h;obtain⟨u,rfl,j⟩:=rR r;cases j;obtain⟨m,d,l,_⟩:=I.list v;have c:=d.length;rw[aA] at c;refine Yl (I.ok.hd hc) l.isList (by simpa using L9 d) (by rw[aW];unfold scanBound;omega) λy i g x=>?_
 have hex:∃ o,y.get? s.heap.objs.size=some o:=by obtain⟨o,_,_,_,e,_⟩:=g;exact⟨o,e⟩
 refine⟨.ref s.heap.objs.size,_,I.laid (a:=s.heap.objs.size) (o:=Bf X.prog X.w s.heap.objs.size (pV ys).length) (t':=i) (λb o e=>x b o (aY e) e) (aZ _) ?_,rfl,q _ I.fresh⟩;refine⟨⟨_,g⟩,hex,λN M ⟨S,z⟩ k=>⟨S,?_⟩⟩;obtain⟨o,B,C,t,e,rest⟩:=z;exact⟨o,B,C,t,k o e,rest⟩
theorem QK:oP X (.builtin "len") (λxs H Q=>∃ (a:Addr) (n:Nat),xs=[.ref a]/\H a=some (Bf X.prog X.w a n)/\Q (.int n) H):=by
 intro b s j H xs k Q I r h;obtain⟨a,n,rfl,f,q⟩:=h;obtain⟨u,rfl,c⟩:=rR r;cases c;obtain⟨⟨S,o,i,m,t,e,g,hd,_,_,l,d,rfl⟩,_⟩:=I.hok a _ f;refine call_len_set e g hd d ?_ ⟨.int i.size,H,I.tok _,⟨_,rfl⟩,q⟩;have:scanBound=4096:=rfl;omega
end
end L2
namespace PySem
open PyProof.Rows L2
theorem Bl:entryFor table "dict.update.loop" = some Builtin.«dict.update.loop»:=entryFor_of_tree (by kernel_rfl)
theorem vD:plainId "dict.update.loop" = true:=by decide +kernel
theorem EL:typeLookup (.type "list") "keys" = pure none:=am_miss_of_fast (by decide +kernel)
section
theorem EB {sl:Array (Option Value)}
  (l:s.heap.get? a=some { cls:=.type "list",dict:=none,data:=.seq its n,slots:=sl }) (calm:A.handled=none) (out:∀ h' tk e,Heap.NewAttrErr s.heap h' e (.ref a) "keys" -> E (.ref e) { s with heap:=h',toks:=tk }) :
  wpAny (model prog w) A (boundAndCalled (.builtin "list.__getattribute__") (.ref a) (.str "keys" u)) Q E s:=by
 have ask:wpAny (model prog w) A (call (.builtin "list.__getattribute__") [.ref a,.str "keys" u]) Q E s :=
  iN jH ⟨_,l,rfl⟩ am_entry_list_getattribute (F.args_list_getattribute_2 _ _) (meets_getattribute_miss_list a its n sl "keys" u EL (by decide +kernel)) ⟨l,calm,out⟩
 unfold boundAndCalled;rw[jH.bind (.ref a)];exact aB (aF ask)
theorem X5 (t:s.TypeIs (.ref e) "AttributeError") (out:E (.ref e) s) :
  wpAny (model prog w) A (getattributeRaised o name (.type "list") (.ref e) none false false) Q E s:=by
 have last:wpAny (model prog w) A (hookOrError o name (.ref e) false false none) Q E s:=aB (wpAny_throw out);have a:hookBehind (.type "list") none=pure none:=am_list_getattr_none;unfold getattributeRaised;refine aB (dR t jP ?_);rw[aP rfl,a];exact aB (aF last)
theorem W4 {sl:Array (Option Value)}
  (l:s.heap.get? a=some { cls:=.type "list",dict:=none,data:=.seq its n,slots:=sl }) (calm:A.handled=none) (out:∀ h' tk e,Heap.NewExcOf s.heap h' e "AttributeError" -> Q none { s with heap:=h',toks:=tk }) :
  wpAny (model prog w) A (getAttr? (.ref a) "keys") Q E s:=by
 have c:∀ h' tk e,Heap.NewAttrErr s.heap h' e (.ref a) "keys" -> (∃ o,h'.get? e=some o/\o.cls = .type "AttributeError")/\Q none { s with heap:=h',toks:=tk }:=λh' tk e x=>by
  obtain⟨_,_,y⟩:=x.there;exact⟨⟨_,y,rfl⟩,out h' tk e x.of⟩
 let d:Shared:={ s with toks:=s.toks+1 };let b:Except Value Value->Shared->Prop:=λr h=>wpAny (model prog w) A (match r with | .ok v=>pure (some v) | .error e=>do if ← isInstance e (.type "AttributeError") then pure none else throw e) Q E h
 have look:wpAny (model prog w) A (getAttrBy (.ref a) (.str "keys" s.toks) false) (λv=>b (.ok v)) (λe=>b (.error e)) d:=by
  refine bV (aB (eM (T := "list") ⟨_,l,rfl⟩ (aB (iM jH.lookup ?_))));have own:wpAny (model prog w) A (getAttrByItsOwn (.ref a) (.str "keys" s.toks) (.type "list") (.builtin "list.__getattribute__") false false) (λv=>b (.ok v)) (λe=>b (.error e)) d:=by
   refine aB (aF (aB (gE (bV (EB (s:=d) l calm λh' tk e x=>?_)))));obtain⟨⟨o,g,f⟩,q⟩:=c h' tk e x;exact X5 ⟨o,g,f⟩ (aB (dR (T := "AttributeError") ⟨o,g,f⟩ jP (aF q)))
  exact own
 exact aB (wpAny_mkText (aB (gE look)))
end
section
variable {prog:Program}{w:World}{K:Type} [DecidableEq K] {knd:KeyKind prog w K}{A:Around}{R:Result->Shared->Prop}{J:Addr}{fp wr:List Addr}{G:Array GenState->Array GenState->Prop}{n:Nat}{P:Nat->Value->Prop}{St:Nat->Shared->Prop}
theorem HK (W:WalksS prog w A.in1 J fp wr G n P St) (d:Addr) (hdf:d∉fp) (h0:Heap) (more:List (K×Value)) (hn:more.length=n)
  (hT:∀ i v,P i v->∃ (t:Addr) (o:Obj) (m:Nat) (k:K) (kv x:Value),v = .ref t/\t∉d::wr/\h0.get? t=some o/\o.cls = .type "tuple" /\ o.data = .seq #[kv,x] m/\knd.is k kv=true/\more[i]?=some (k,x)) (hb:n<=sizeLine) :
  ∀ (k i:Nat) (s:Shared),n-i=k->i<=n->St i s->(∀ b o,b∉d::wr->h0.get? b=some o->s.heap.get? b=some o)->s.heap.DictOf knd d (merged [] (more.take i)) ->
   (∀ s',Moved (d::wr) G s s'->s'.heap.DictOf knd d (merged [] more)->R (.ok (.ret .none)) s') ->
   codeAny (model prog w) A (.builtin "dict.update.loop" ⟨[.ref d,.ref J,.int (i:Int) 0,.none],[]⟩) R s:=by
 have r:d∉wr:=λz=>hdf (W.sub _ z)
 have c:∀ b∈wr,b∈d::wr:=λb z=>aT _ z
 intro k;induction k with
 | zero =>
  intro i s hk hi st a B O;have ei:i=n:=by omega
  subst ei;rw[bR (by omega)] at B;refine fV Bl ?_;rw[eF vD _];show wpAny _ A.in1 (pyNext (.ref J) >>= _) _ _ s;refine aB (W.done s _ _ st λs' g=>?_);show wpAny _ A.in1 (Builtin.Dict.addKeywords d [] >>= _) _ _ s';refine aB (aF ?_);obtain⟨o,Q,S,M,rest⟩:=B;exact aF (O s' (g.mono c) ⟨o,Q,S,g.heap d _ r M,rest⟩)
 | succ k Z =>
  intro i s hk hi st a B O;have p:i<n:=by omega
  refine fV Bl ?_;rw[eF vD _];show wpAny _ A.in1 (pyNext (.ref J) >>= _) _ _ s;refine aB (W.item i s _ _ p st λv s' hv C g=>?_);obtain⟨t,o,m,Y,kv,x,rfl,V,H,L,I,q,j⟩:=hT i v hv;have N:s'.heap.DictOf knd d (merged [] (more.take i)):=by
   obtain⟨o,Q,S,M,rest⟩:=B;exact⟨o,Q,S,g.heap d _ r M,rest⟩
  have f:s'.heap.get? t=some o:=g.heap t o (λz=>V (c _ z)) (a t o V H);show wpAny _ A.in1 (holding [Value.ref t] _ >>= _) _ _ s';refine aB (bV ?_);refine aB (wpAny_tryCatch ?_);unfold Builtin.Dict.pairItems;refine aB (eM (T := "tuple") ⟨o,f,L⟩ ?_);rw[aP (by decide)];refine aB (fH f I ?_);refine aF ?_;show wpAny _ A.in1 (holding [kv,x] (dictSet d kv x)) _ _ s';refine bV ?_;have h:(merged [] (more.take i)).length<=sizeLine:=by
   have U:=merged_length_le ([]:List (K×Value)) (more.take i);rw[gJ,bQ] at U;omega
  refine wpAny_dictSet_pairs (hsz:=h) q N λh' u E=>?_
  rw[← merged_take_succ [] more i (Y,x) j] at u;refine aF ⟨iT vD _,?_⟩;have U:(rawInt ((i:Int)+1))=Value.int ((i+1:Nat):Int) 0:=by rfl
  rw[U];refine Z (i+1) _ (by omega) p (W.frame _ s' _ _ C (iE _) λb hb o e=>?_) (λb o hb e=>?_) u λF l y=>?_
  ·rw[E.2 b (λz:b=d=>hdf (by rw[← z];exact hb))];exact e
  ·rw[E.2 b (λz:b=d=>hb (by rw[z];exact aK))];exact g.heap b o (λz=>hb (c _ z)) (a b o hb e)
  ·refine O F (Moved.trans W.gtrans ((g.mono c).then_heap (iE _) λb o hb e=>?_) l) y;rw[E.2 b (λz:b=d=>hb (by rw[z];exact aK))];exact e
end
section
variable {K:Type} [DecidableEq K] {knd:KeyKind prog w K}{A:Around}
abbrev Cv (l:Addr):Obj:={ cls:=.type "list_iterator",data:=.fields #[.ref l,.int 0 0] }
abbrev Zb (its:Array Value) (n:Nat) (sl:Array (Option Value)):Obj:={ cls:=.type "list",dict:=none,data:=.seq its n,slots:=sl }
theorem V8 {sl:Array (Option Value)}(t:s.TypeIs (.ref d) "dict") (hl:s.heap.get? l=some (Zb its n sl)) (calm:A.handled=none)
  (on:∀ h2 tk e,Heap.NewExcOf s.heap h2 e "AttributeError" -> Q (.again (.builtin "dict.update.loop" ⟨[.ref d,.ref h2.objs.size,.int 0 0,.none],[]⟩)) { s with heap:=h2.push (Cv l),toks:=tk }) :
  wpAny (model prog w) A (Builtin.«dict.__init__» ⟨[.ref d,.ref l],[]⟩) Q E s:=by
 have first:wpAny (model prog w) A (Builtin.Dict.selfAndRest "__init__" ⟨[.ref d,.ref l],[]⟩) (λp b=>p=(d,[Value.ref l])/\b=s) E s:=aB (kK t (aF ⟨rfl,rfl⟩))
 have a:wpAny (model prog w) A (Builtin.Dict.updateFrom "dict.__init__" d (.ref l) [] .none) Q E s:=by
  refine aB (eM (T := "list") ⟨_,hl,rfl⟩ ?_);rw[aP (by decide)];refine aB (W4 hl calm λh2 tk e x=>?_);exact aB (lI (aB (gG ⟨_,x.keeps _ _ hl,rfl,n,rfl⟩ (aF (on h2 tk e x)))))
 exact aB (cL first (λp b q=>by obtain⟨rfl,rfl⟩:=q;exact a) λ_ _ q=>q)
def wM (s:Shared):Shared:={ s with heap:=s.heap.push { cls:=.type "dict",data:=.dict #[] } }
theorem FQ (hh:A.handled=none) (hl:s.heap.get? l=some o) (hc:o.cls = .type "list") (hd:o.dict=none) (hda:o.data = .seq items nl)
  (hn:more.length=items.size)
  (hT:∀ (i:Nat) v,items[i]?=some v->∃ (t:Addr) (o:Obj) (m:Nat) (k:K) (kv x:Value),v = .ref t/\s.heap.get? t=some o/\o.cls = .type "tuple" /\ o.data = .seq #[kv,x] m/\knd.is k kv=true/\more[i]?=some (k,x)) (hb:items.size<=sizeLine)
  (h:∀ (h':Heap) (tk:Nat),h'.DictOf knd s.heap.objs.size (merged [] more)->(∀ b o,s.heap.get? b=some o->h'.get? b=some o)->Q (.ref s.heap.objs.size) { s with heap:=h',toks:=tk }) :
  wpAny (model prog w) A (call (.type "dict") [.ref l]) Q E s:=by
 obtain⟨W,V,T,S⟩:=o;cases hc;cases hd;cases hda;let D:=s.heap.objs.size;have made:(wM s).heap.DictOf knd D []:=Heap.DictOf.new s.heap;have old:∀ b o,s.heap.get? b=some o->(wM s).heap.get? b=some o:=λb o e=>aE _ e
 refine callType_codes F.kt_called_dict (kQ _) F.entry_dict_init (kt_code_dict_new _ (Q₁:=λv I=>v = .ref D/\I=wM s) ⟨rfl,rfl⟩) λv I q=>?_
 obtain⟨rfl,rfl⟩:=q;refine⟨made.typeIs,lJ _ _,V8 made.typeIs (old _ _ hl) (by simp[hh]) λg tk e x=>⟨iT vD _,?_⟩⟩;have C:g.DictOf knd D []:=by
  obtain⟨o,M,N,p,r⟩:=made;exact⟨o,M,N,x.keeps _ _ p,r⟩
 have d:D<g.objs.size:=by
  obtain⟨o,M,N,p,r⟩:=C;exact aY p
 have u:l<D:=aY hl;have keeps:∀ b o,s.heap.get? b=some o->(g.push (Cv l)).get? b=some o:=λb o e=>aE _ (x.keeps _ _ (old b o e))
 have a:∀ {b:Addr},b<D->b∉[D,g.objs.size]:=λ{b} B z=>by
  rcases aL.mp z with q | q
  ·exact bL B q
  ·exact bL (kZ B d) (bA.mp q)
 have c:D∉[g.objs.size,l]:=λz=>by
  rcases aL.mp z with q | q
  ·exact bL d q
  ·exact iC u (bA.mp q)
 have f:(g.push (Cv l)).IsList l items:=⟨_,keeps _ _ hl,rfl,nl,rfl⟩;refine HK (knd:=knd) ((Walks.list (by simp[hh]) g.objs.size l (bL (kZ u d)) items).toS) D c s.heap more hn (λi v U=>?_) hb items.size 0 _ (by omega) (cO _) ⟨⟨_,bB _ rfl,rfl,rfl⟩,f⟩ (λb o _ e=>keeps b o e) ?_ λj H fin=>?_
 ·obtain⟨t,O,m,k,kv,y,rfl,L,r⟩:=hT i v U;exact⟨t,O,m,k,kv,y,rfl,a (aY L),L,r⟩
 ·simpa [merged] using C.push _
 ·have res:=h j.heap j.toks fin λb o e=>H.heap b o (a (aY e)) (keeps b o e)
  rw[show j={ s with heap:=j.heap,toks:=j.toks } from Mi H.gens H.drawn H.os];exact⟨rfl,res⟩
end
end PySem
namespace L2
open PySem PySem.Spec PyProof.Rows
section
variable {X:Cx}
def Dx (H:Hp) (ts:List Addr) (kvs:List (hI×V)):Prop:=Paired (λt (kv:hI×V)=>H t=some (.tup [kV kv.1,kv.2])) ts kvs
theorem PV {P:Program}(hok:oN P w H h):∀ {ts:List Addr}{kvs:List (hI×V)},Dx H ts kvs->∃ more:List (hI×Value),KV kvs more /\
  ∀ (i:Nat) t,ts[i]?=some t->∃ (o:Obj) (m:Nat) (k:hI) (kv x:Value),h.get? t=some o/\o.cls = .type "tuple" /\ o.data = .seq #[kv,x] m/\(qC P w).is k kv=true/\more[i]?=some (k,x):=by
 intro ts kvs r;unfold Dx at r;induction r with
 | nil=>exact⟨[],.nil,λi t e=>by simp at e⟩
 | @cons t kv ts kvs C F u =>
  obtain⟨more,j,y⟩:=u;obtain⟨z,q,a,⟨o,v,B,n,b⟩,_⟩:=hok t _ C;cases a with
  | @cons _ f _ E p a =>
   cases a with
   | @cons _ c _ d l a =>
    cases a;refine⟨(kv.1,c)::more,.cons ⟨rfl,l⟩ j,λi g e=>?_⟩;cases i with
    | zero =>
     simp at e;subst e;exact⟨o,n,kv.1,f,c,v,B,b,yK p,rfl⟩
    | succ i=>simpa using y i g (by simpa using e)
theorem IF (hcalm:X.calm=true):oP X (.type "dict") (λxs H Q=>∃ (p:Addr) (ts:List Addr) (kvs:List (hI×V)),xs=[.ref p]/\mG X.K H p (ts.map V.ref)/\Dx H ts kvs/\kvs.length<=1000/\∀ d,H d=none->Q (.ref d) (upd H d (.dK (sL [] kvs)))):=by
 intro C s σ H xs us Q I r h;obtain⟨p,ts,kvs,rfl,O,E,hz,q⟩:=h;obtain⟨u,rfl,j⟩:=rR r;cases j;obtain⟨b,B,⟨o,n,e,e1,e2,e3⟩,_⟩:=I.list O;have g:=B.length;rw[aA] at g;have U:ts.length=kvs.length:=E.length;obtain⟨more,z,T⟩:=PV I.hok E;have S:=z.length;have c:∀ (i:Nat) v,b[i]?=some v->∃ t,ts[i]?=some t/\v = .ref t:=by
  intro i v f;have hi:i<b.length:=(aU.mp f).1;have:i<ts.length:=by omega
  obtain⟨u,M,j⟩:=B.get (i:=i) (x:=V.ref ts[i]) (by simp[this]);rw[M] at f;cases f;cases j;exact⟨ts[i],by simp[this],rfl⟩
 refine FQ (knd:=qC X.prog X.w) (more:=more) (I.ok.hd hcalm) e e1 e2 e3 (by rw[aW];omega) ?_ (by rw[aW];exact eL (cM (show b.length<=1000 by omega) (by decide))) λh' F Y W=>?_
 ·intro i v f;obtain⟨t,N,rfl⟩:=c i v (by simpa using f);obtain⟨o,m,k,L,x,y,h2,h3,h4,Z⟩:=T i t N;exact⟨t,o,m,k,L,x,rfl,y,h2,h3,h4,Z⟩
 ·have l:(sL [] kvs).length<=sizeLine:=by
   have y:=Gm kvs [];rw[gJ] at y;exact eL (cM (show (sL [] kvs).length<=1000 by omega) (by decide))
  refine⟨.ref s.heap.objs.size,_,I.laid (a:=s.heap.objs.size) (o:=.dK (sL [] kvs)) (t':=F) W (aZ _) ?_,rfl,q _ I.fresh⟩;exact Ed l (cP.mpr (eC (bL I.big))) (z.merge .nil) Y
end
def Cf (nw:Option Str) (N:List Str) (kind:Str->Option NameKind) (scope:Scope) (T capN:List Str) (caps:List Nat):Bool :=
 decide (scope.names.filter (λp=>p.2 == .cell)=nw.toList.map λn=>(n,NameKind.cell))&&nw.all (λnm=>scope.names.lookup nm == some .cell)&&scope.names.all (λp=>p.2 != .free||kind p.1 == some .cell) &&
 scope.names.all (λp=>p.2 != .local||scope.names.lookup p.1 == some .local) &&
 (capN.zip caps).all (λp=>decide (N[p.2]?=some p.1)&&scope.names.lookup p.1 == some .free)&&capN.length == caps.length
abbrev Dg:=Cf none
def qB (T:List Str) (caps:List Nat) (σ:St):St:=T.map (λ_=>none)++caps.map (λi=>(σ[i]?).join)
def uC (X:Cx) (N':List Str) (scope:Scope) (cl:List (Str×Addr)) (C:Addr) (s₀:Shared) (H₀:Hp) (fp:List Addr):Cx :=
 { prog:=X.prog,w:=X.w,K:=X.K,mg:=X.mg,base:=X.base,A:=X.A,N:=N',s₀:=s₀,H₀:=H₀,env:=compEnvC scope cl C X.env,outer:=X.stack,stack:=X.stack,ex:=fp, fn:=λx=>(cl.lookup x).isNone,calm:=X.calm,pn:=[],xe:=λ_ _=>False }
def vF (X:Cx) (ifs:List Expr) (t:TT):Prop :=
 ∀ (pins:List (Addr×Obj)) (s:Shared) (σ:St) (H:Hp) (Q:Bool->Hp->Prop),Inv X pins σ H s->t σ H Q ->
  wpAny (model X.prog X.w) X.A (forIn ifs true λc r=>if r=true then do let ok ← isTrue c X.env (eval c X.env);pure (ForInStep.yield ok) else pure (ForInStep.yield r)) (TP X pins σ Q) X.xe s
def Dq:TT:=λ_ H Q=>Q true H
theorem Cq {X:Cx}:vF X [] Dq:=λa s b H Q I h=>wpAny_tests_nil ⟨H,I,h⟩
theorem V1 {X:Cx}(h:PT X c t):vF X [c] t:=λa s b H Q I hw=>wpAny_tests_one (h a s b H Q I hw)
def B1 (T:List Str) (caps:List Nat) (J:It) (g:TG) (tt:TT) (te:TE) (σ:St) (H1:Hp) (Q:VK) (D:Addr):Prop :=
 ∃ W:Nat->Nat->List V->St->Hp->Prop,(∃ m,W 0 m [] (qB T caps σ) (upd H1 D (.lst [])))/\∀ i m ys σ' H',W i m ys σ' H' ->
  (J.stop i H'/\Q (.ref D) H')\/(J.go i H'/\∃ (N:St->V->Hp->Prop) (F:St->Hp->Prop),(∀ σ2 v H5,N σ2 v H5->H5 D=some (.lst ys)/\ys.length<sizeLine/\∃ m',m'<m/\W (i+1) m' (ys++[v]) σ2 (upd H5 D (.lst (ys++[v]))))/\(∀ σ2 H4,F σ2 H4->∃ m',m'<m/\W (i+1) m' ys σ2 H4) /\ ∀ x H2,J.yld i H' x H2->g x σ' H2 λσ2 H3=>tt σ2 H3 λb H4=>if b=true then te σ2 H4 (N σ2) else F σ2 H4)
def zM (T:List Str) (caps:List Nat) (wi:TI) (g:TG) (tt:TT) (te:TE):TE:=λσ H Q=>wi σ H λJ H1=>∀ D,H1 D=none->B1 T caps J g tt te σ H1 Q D
theorem Nq:∀ (names:List (Str×NameKind)) (acc:List (Str×Addr)),(∀ p∈names,p.2 = .free->∃ c,env.cells.lookup p.1=some c) ->
  (∀ x c,acc.lookup x=some c->env.cells.lookup x=some c) ->
  ∃ cl,(forIn names acc λx r=>if (x.2 == NameKind.free)=true then (cellOf env x.1 >>= λa=>pure (ForInStep.yield ((x.1,a)::r))) else pure (ForInStep.yield r):Sem (List (Str×Addr)))=pure cl /\
   (∀ x c,cl.lookup x=some c->env.cells.lookup x=some c)/\(∀ x,(x,NameKind.free)∈names->(cl.lookup x).isSome=true)/\(∀ x,(acc.lookup x).isSome=true->(cl.lookup x).isSome=true)
 | [],acc,_,d=>⟨acc,rfl,d,λx h=>by simp at h,λ_ h=>h⟩
 | (n,k)::r,acc,l,d=>by
  by_cases j:k = .free
  ·subst j;obtain⟨c,v⟩:=l (n,.free) aK rfl;have m:∀ x g,((n,c)::acc).lookup x=some g->env.cells.lookup x=some g:=by
    intro x g h;rw[dJ] at h;cases e:x == n with
    | true=>rw[e] at h;have:=jB.mp e;subst this;cases h;exact v
    | false=>rw[e] at h;exact d x g h
   obtain⟨cl,u,t,o,f⟩:=Nq r ((n,c)::acc) (λp i=>l p (aT _ i)) m;have y:(((n,c)::acc).lookup n).isSome=true:=by rw[dJ];simp
   refine⟨cl,?_,t,λx b=>?_,λx b=>f x ?_⟩
   ·rw[kW];simp only[iK,iD];have:cellOf env n=pure c:=by unfold cellOf;rw[v]
    rw[this];exact u
   ·rcases aL.mp b with q | q
    ·cases q;exact f _ y
    ·exact o x q
   ·rw[dJ];cases e:x == n with
    | true=>rfl
    | false=>exact b
  ·obtain⟨cl,u,t,o,f⟩:=Nq r acc (λp i=>l p (aT _ i)) d;refine⟨cl,?_,t,λx b=>?_,f⟩
   ·rw[kW];have:(k == NameKind.free)=false:=by simpa using j
    simp only[this,eI,gX];exact u
   ·rcases aL.mp b with q | q
    ·cases q;exact absurd rfl j
    ·exact o x q
theorem Xr (hf:∀ p∈scope.names,p.2 = .free->∃ c,env.cells.lookup p.1=some c) :
  ∃ cl,closureFor scope env=pure cl/\(∀ x c,cl.lookup x=some c->env.cells.lookup x=some c)/\(∀ x,(x,NameKind.free)∈scope.names->(cl.lookup x).isSome=true):=by
 obtain⟨cl,e,f,d,_⟩:=Nq (env:=env) scope.names [] hf (λx c h=>by simp at h);refine⟨cl,?_,f,d⟩;simp only[closureFor];have b:(forIn scope.names [] λx r=>if (x.2 == NameKind.free)=true then (cellOf env x.1 >>= λa=>pure (ForInStep.yield ((x.1,a)::r))) else pure (ForInStep.yield r):Sem (List (Str×Addr)))=pure cl:=e
 first
  | exact b
  | (simp only[bind_pure];exact b)
theorem QB (h:scope.names.lookup x=some k):∃ k',(relabel scope env).names.lookup x=some k'/\(k'=k\/(k = .free/\k' = .cell)):=by
 have:∀ names:List (Str×NameKind),names.lookup x=some k->∃ k',(names.map λ(p:Str×NameKind)=>match p with | (n,k)=>if (k == NameKind.free&&env.scope.kind == .function&&env.kindOf n == some .cell) then (n,NameKind.cell) else (n,k)).lookup x=some k'/\(k'=k\/(k = .free/\k' = .cell)):=by
  intro names;induction names with
  | nil=>intro h;simp at h
  | cons p r b =>
   obtain⟨n,c⟩:=p;intro h;rw[aO];by_cases a:(c == NameKind.free&&env.scope.kind == .function&&env.kindOf n == some .cell)=true
   ·simp only[a,iD];rw[dJ] at h ⊢;cases e:x == n with
    | true =>
     rw[e] at h;cases h;have:k=NameKind.free:=by
      have:=(cE _ _).mp ((cE _ _).mp a).1;exact jB.mp this.1
     exact⟨_,rfl,.inr ⟨this,rfl⟩⟩
    | false=>rw[e] at h;exact b h
   ·simp only[a,gX];rw[aM (by simp)];rw[dJ] at h ⊢;cases e:x == n with
    | true=>rw[e] at h;cases h;exact⟨_,rfl,.inl rfl⟩
    | false=>rw[e] at h;exact b h
 exact this scope.names h
theorem W9 {R:Result->Shared->Prop}{iter:Expr}(I:Nat->Shared->Prop)
  (turn:∀ n s,I n s->wpAny (model prog w) A (pyNext it) (λr s₁=>match r with
   | none=>R (.ok .next) s₁
   | some v=>wpAny (model prog w) A (letOwnedTupleGo target it v) (λ_ s₁'=>wpAny (model prog w) A (assign target env v) (λ_ s₂ =>
     wpAny (model prog w) A (forIn ifs true λc r=>if r=true then do let ok ← isTrue c env (eval c env);pure (ForInStep.yield ok) else pure (ForInStep.yield r)) (λok s₃ =>if ok=true then wpAny (model prog w) A (eval elt env) (λx s₄ =>wpAny (model prog w) A (call (.builtin "list.append") [acc,x]) (λ_ s₅=>∃ m,m<n/\I m s₅) (λ_ _=>False) s₄) (λ_ _=>False) s₃ else ∃ m,m<n/\I m s₃) (λ_ _=>False) s₂) (λ_ _=>False) s₁') (λ_ _=>False) s₁) (λ_ _=>False) s)
  (n:Nat) (h:I n s) :
  codeAny (model prog w) A (.compLoop (.ListComp elt [⟨target,iter,ifs,0⟩] scope pos) 0 it acc env) R s:=by
 refine codeAny_loop rfl I (λn s j=>?_) n h;show wpAny _ A ((compTurn (.ListComp elt [⟨target,iter,ifs,0⟩] scope pos) 0 it acc env).onRaise (λx=>do noteFrame x env;theTreesLotGoes x)) _ _ s;refine wpAny_noted ?_;rw[compTurn_list];refine aB (lS (aB (cL (turn n s j) (λr s₁ d=>?_) λ_ _ a=>a.elim)));cases r with
 | none=>exact aF d
 | some v =>
  refine aB (cL d (λ_ s₁' e=>?_) λ_ _ a=>a.elim);refine aB (cL e (λ_ s₂ i=>aB (cL i (λok s₃ b=>?_) λ_ _ a=>a.elim)) λ_ _ a=>a.elim);cases ok with
  | false=>exact aF ⟨rfl,b⟩
  | true =>
   exact aB (aB (cL b (λx s₄ g=>aB (cL g (λ_ s₅ f=>aF (aF ⟨rfl,f⟩)) λ_ _ a=>a.elim)) λ_ _ a=>a.elim))
structure LcO (nw:Option Str) (N:List Str) (kind:Str->Option NameKind) (scope:Scope) (capN:List Str) (caps:List Nat):Prop where
 one:scope.names.filter (λp=>p.2 == .cell)=nw.toList.map λn=>(n,NameKind.cell)
 cel:∀ nm,nw=some nm->scope.names.lookup nm=some .cell
 free:∀ p∈scope.names,p.2 = .free->kind p.1=some .cell
 loc:∀ p∈scope.names,p.2 = .local->scope.names.lookup p.1=some .local
 cap:∀ (j:Nat) (x:Str),capN[j]?=some x->∃ i:Nat,caps[j]?=some i/\N[i]?=some x/\scope.names.lookup x=some .free
 len:capN.length=caps.length
theorem Lq (h:Cf nw N kind scope T capN caps=true):LcO nw N kind scope capN caps:=by
 unfold Cf at h;simp only[cE] at h;obtain⟨⟨⟨⟨⟨o,b⟩,m⟩,l⟩,k⟩,g⟩:=h;have f:capN.length=caps.length:=jB.mp g;refine⟨cB o,λq e=>?_,λp a e=>?_,λp a e=>?_,λj x e=>?_,f⟩
 ·rw[e] at b;exact jB.mp b
 ·have:=cG.mp m p a;rw[e] at this
  simpa using this
 ·have:=cG.mp l p a;rw[e] at this
  simpa using this
 ·have r:j<capN.length:=(aU.mp e).1;have c:caps[j]?=some (caps[j]'(by omega)):=aG (by omega);have d:(x,caps[j]'(by omega))∈capN.zip caps:=aI (i:=j) (by rw[List.getElem?_zip_eq_some];exact⟨e,c⟩);have:=cG.mp k _ d;simp only[cE,dZ,jB] at this;exact⟨_,c,this.1,this.2⟩
theorem LcO.only (h:LcO nw N kind scope capN caps) (x:Str) (e:scope.names.lookup x=some .cell):nw=some x:=by
 have a:(x,NameKind.cell)∈scope.names.filter (λp=>p.2 == .cell):=cT.mpr ⟨dU e,rfl⟩;rw[h.one] at a;cases nw with
 | none=>cases a
 | some n=>rw[(Prod.mk.inj (bA.mp a)).1]
theorem Se:∀ {scope:Scope},(relabel scope env).names.lookup x=some k->(k = .cell\/k = .free)->scope.names.lookup x=some .cell\/scope.names.lookup x=some .free:=by
 intro scope;unfold relabel;have all:∀ names:List (Str×NameKind),(names.map λ(n,k)=>if (k == NameKind.free&&env.scope.kind == .function&&env.kindOf n == some .cell) then (n,NameKind.cell) else (n,k)).lookup x=some k->(k = .cell\/k = .free)->names.lookup x=some .cell\/names.lookup x=some .free:=by
  intro names;induction names with
  | nil=>intro h _;simp at h
  | cons p r e =>
   intro h c;obtain⟨n,d⟩:=p;rw[aO] at h;rw[dJ];cases b:x == n with
   | true =>
    by_cases a:(d == NameKind.free&&env.scope.kind == .function&&env.kindOf n == some .cell)=true
    ·simp only[cE,jB] at a;exact .inr (by rw[a.1.1])
    ·simp only[a,eI,gX,dJ,b] at h;cases h;rcases c with q | q
     ·exact .inl (by rw[q])
     ·exact .inr (by rw[q])
   | false =>
    by_cases a:(d == NameKind.free&&env.scope.kind == .function&&env.kindOf n == some .cell)=true
    ·simp only[a,iD,dJ,b] at h;exact e h c
    ·simp only[a,eI,gX,dJ,b] at h;exact e h c
 exact all scope.names
theorem K5:∀ (names:List (Str×NameKind)) (n:Nat) (acc:List (Str×Addr)) (h:Heap),names.filter (λp=>p.2 == .cell)=[]->cellsFrom n names acc=acc/\pushCells h names=h
 | [],_,_,_,_=>⟨rfl,rfl⟩
 | (y,k)::r,n,acc,h,e=>by
  unfold cellsFrom pushCells;by_cases a:(k == NameKind.cell)=true
  ·rw[List.filter_cons_of_pos (by exact a)] at e;cases e
  ·rw[List.filter_cons_of_neg (by exact a)] at e;rw[aM a,aM a];exact K5 r n acc h e
theorem Vt:∀ (names:List (Str×NameKind)) (n:Nat) (acc:List (Str×Addr)) (h:Heap),names.filter (λp=>p.2 == .cell)=[(nm,.cell)]->cellsFrom n names acc=(nm,n)::acc/\pushCells h names=h.push { cls:=.type "cell",data:=.cell none }
 | [],_,_,_,e=>by cases e
 | (y,k)::r,n,acc,h,e=>by
  unfold cellsFrom pushCells;by_cases a:(k == NameKind.cell)=true
  ·rw[List.filter_cons_of_pos (by exact a)] at e;have c:=(eK e).1;have b:=(eK e).2;rw[aP a,aP a];have:=K5 r (n+1) ((y,n)::acc) (h.push { cls:=.type "cell",data:=.cell none }) b;rw[this.1,this.2,(Prod.mk.inj c).1];exact⟨rfl,rfl⟩
  ·rw[List.filter_cons_of_neg (by exact a)] at e;rw[aM a,aM a];exact Vt r n acc h e
def Ac (nw:Option Str) (C:Addr):List (Str×Addr):=match nw with
 | none=>[]
 | some nm=>[(nm,C+1)]
theorem GF {globals:Addr}(one:scope.names.filter (λp=>p.2 == .cell)=nw.toList.map λn=>(n,NameKind.cell))
  (h:∀ h₁,h₁.Ns s.heap.objs.size (λ_=>none)->(∀ nm,nw=some nm->h₁.IsCell (s.heap.objs.size+1) none)->(∀ b o,s.heap.get? b=some o->h₁.get? b=some o) ->Q { scope:=scope,locals:=s.heap.objs.size,globals:=globals,cells:=Ac nw s.heap.objs.size++cl,qual:=qual,func:=none,code:=env.code,frame:=env.frame,builtins:=env.builtins } { s with heap:=h₁ }) :
  wpAny M A (newFunctionEnv scope globals cl [] qual none .none (some env)) Q E s:=by
 simp only[newFunctionEnv,lG,iD];refine aB (wpAny_alloc ?_);refine aB (wpAny_layCells _ (λname kind cells=>by cases c:kind == NameKind.cell<;>simp[c]) _ _ _ _ ?_);have z:(s.heap.push { cls:=.type "dict",data:=.dict #[] }).objs.size=s.heap.objs.size+1:=dP ..;have a:=Heap.Ns.new s.heap (.type "dict");show wpAny M A _ Q E _;cases nw with
 | none =>
  obtain⟨g,d⟩:=K5 scope.names (s.heap.push { cls:=.type "dict",data:=.dict #[] }).objs.size cl (s.heap.push { cls:=.type "dict",data:=.dict #[] }) one;rw[g,d];exact aB (aF (aF (h _ a (λ_ e=>nomatch e) λb o e=>aE _ e)))
 | some nm =>
  obtain⟨g,d⟩:=Vt scope.names (s.heap.push { cls:=.type "dict",data:=.dict #[] }).objs.size cl (s.heap.push { cls:=.type "dict",data:=.dict #[] }) one;have f:cellsFrom ({ s with heap:=s.heap.push { cls:=.type "dict",data:=.dict #[] } }:Shared).heap.objs.size scope.names cl=(nm,s.heap.objs.size+1)::cl:=by rw[← z];exact g
  rw[f,d];refine aB (aF (aF (h _ (a.keeps λb o e=>aE _ e) (λ_ _=>?_) λb o e=>aE _ (aE _ e))));exact⟨_,by rw[← z];exact bB _ rfl,rfl⟩
def NZ (nw:Option Str) (cl:List (Str×Addr)):Str->Bool:=match nw with
 | none=>λx=>(cl.lookup x).isNone
 | some nm=>λx=>x == nm||(cl.lookup x).isNone
def sV (nw:Option Str) (X:Cx) (N':List Str) (scope:Scope) (cl:List (Str×Addr)) (C:Addr) (s₀:Shared) (H₀:Hp) (fp:List Addr):Cx :=
 { prog:=X.prog,w:=X.w,K:=X.K,mg:=X.mg,base:=X.base,A:=X.A,N:=N',s₀:=s₀,H₀:=H₀,env:=compEnvC scope (Ac nw C++cl) C X.env,outer:=X.stack,stack:=X.stack,ex:=fp, fn:=NZ nw cl,calm:=X.calm,pn:=[],xe:=λ_ _=>False }
section
variable {X:Cx}
theorem Inv.moved {t':Nat}{fp:List Addr}(I:Inv X pins σ H s) (hf:∀ b∈fp,uA X pins H b) (k:∀ b o,b∉fp->s.heap.get? b=some o->h'.get? b=some o):Inv X pins σ H { s with heap:=h',toks:=t' }:=by
 have d:∀ b u,H b=some u->b∉fp:=λb u e z=>by rw[(hf b z).1] at e;cases e
 refine I.step (g':=s.gens) (d':=s.drawn) (ch:=fp) (λb f=>⟨(hf b f).2.2.2.1,(hf b f).2.1,(hf b f).2.2.2.2.1,(hf b f).2.2.2.2.2⟩) (λb o _ _ a e _=>k b o a e) (λb o _ _ a e _=>⟨o.slots,k b o a e⟩) (λ_ _ _ _ n=>n)
  (λb o a e=>⟨o,k b o a e⟩) (λ_ _ e=>e) (λ_ _ _ e=>e) (λb l e=>⟨#[],by rw[e];simp⟩) (λm h=>?_) (λb u e=>?_) I.bare
 ·obtain⟨o,i,j,g,r⟩:=h;exact⟨o,i,j,k _ o (λz=>(hf _ z).2.1 rfl) g,r⟩
 ·refine (I.hok b u e).stay (λc v a q=>k c v ?_ q) (λ_ q=>q) λ_ _ q=>q
  rcases a with z | z
  ·rw[z];exact d b u e
  ·exact d c _ z
end
section
variable {X:Cx}
theorem N4 {iter:Expr}(T capN:List Str) (caps:List Nat) (hc:X.calm=true) (hi:PI X tg iter wi)
  (hk:scope.kind = .function) (O:LcO nw X.N X.env.kindOf scope capN caps)
  (hg:∀ s₀ H₀ C cl fp,PG (sV nw X (T++capN) scope cl C s₀ H₀ fp) tg g)
  (ht:∀ s₀ H₀ C cl fp,vF (sV nw X (T++capN) scope cl C s₀ H₀ fp) ifs tt)
  (he:∀ s₀ H₀ C cl fp,PE (sV nw X (T++capN) scope cl C s₀ H₀ fp) elt te)
  (hs:∀ x,foldedSetIterable iter X.env x=pure x)
(I:Inv X pins σ H s) (h:zM T caps wi g tt te σ H Q)
  (fin:∀ (C D:Addr) (s6:Shared) (H5:Hp),Inv X pins σ H5 s6->Q (.ref D) H5->uA X pins H5 C->(∃ m,s6.heap.Ns C m)->compPost (model X.prog X.w) X.A X.xe use Qs (.ref D) C (.ok .next) s6) :
  wpAny (model X.prog X.w) X.A (comprehension (.ListComp elt [⟨tg,iter,ifs,0⟩] scope pos) scope X.env (firstIterPos [⟨tg,iter,ifs,0⟩] pos) (newList []) (firstAsync [⟨tg,iter,ifs,0⟩]) (firstIter [⟨tg,iter,ifs,0⟩] X.env) use) Qs X.xe s:=by
 have aq:∀ p∈scope.names,p.2 = .free->∃ c,X.env.cells.lookup p.1=some c:=λp hp e=>I.ok.has p.1 (.inl (O.free p hp e))
 obtain⟨cl,ar,U,a8⟩:=Xr aq;refine wpAny_comprehension_free (use:=use) rfl hs ar hk O.loc (mR (hi pins s σ H _ I h) λv s1 h1=>mR h1 λbx s2 h2=>?_);obtain⟨it,fp,tn,J,H2,rfl,I2,j,a1,f2,hD⟩:=h2;refine eZ ?_;have f:Inv X pins σ (upd H2 s2.heap.objs.size (.lst [])) { s2 with heap:=s2.heap.push { cls:=.type "list",data:=.seq ([]:List Value).toArray } }:=I2.lnew (t':=s2.toks) (its:=[]) (ys:=[]) .nil (cO _);have fD:H2 s2.heap.objs.size=none:=I2.fresh;obtain⟨W,⟨m0,w0⟩,ae⟩:=hD s2.heap.objs.size fD;generalize bn:s2.heap.objs.size=D at f fD w0 ae ⊢;have bd:tn 0 (s2.heap.push { cls:=.type "list",data:=.seq ([]:List Value).toArray }):=j.keep _ _ _ a1 λb _ o e=>aE _ e
 have a3:∀ b∈fp,b<D:=λb a=>by
  obtain⟨o,e,_⟩:=j.obj _ _ a1 b a;rw[← bn];exact aY e
 generalize bi:({ s2 with heap:=s2.heap.push { cls:=.type "list",data:=.seq ([]:List Value).toArray } }:Shared)=B at f ⊢;have Z:tn 0 B.heap:=by rw[← bi];exact bd
 generalize bm:upd H2 D (.lst [])=M at f w0;have f3:∀ b∈fp,uA X pins M b:=λb a=>by
  obtain⟨z0,z⟩:=f2 b a;exact⟨by rw[← bm,mO (bL (a3 b a))];exact z0,z⟩
 refine GF O.one (λaa V Y old=>?_);have au:M B.heap.objs.size=none:=f.fresh;have ag:M (B.heap.objs.size+1)=none:=f.hok.fresh (iE _);generalize hC:B.heap.objs.size=C at V Y au ag ⊢;have a2:∀ b o,B.heap.get? b=some o->b≠C:=λb o e=>by rw[← hC];exact bL (aY e)
 have a7:∀ b∈fp,b≠C:=λb a=>by
  obtain⟨o,e,_⟩:=j.obj _ _ Z b a;exact a2 b o e
 have a6:∀ b∈fp,b∉vL X.stack:=λb a z=>by
  rcases aL.mp (f.stkSub b z) with q | q
  ·exact (f3 b a).2.1 q
  ·exact (f3 b a).2.2.1 q
 have bp:∀ b∈fp,b<C:=λb a=>by
  obtain⟨o,e,_⟩:=j.obj _ _ Z b a;rw[← hC];exact aY e
 have look:∀ x c,(Ac nw C++cl).lookup x=some c->(nw=some x/\c=C+1)\/(nw≠some x/\cl.lookup x=some c):=λx c e=>by
  cases nw with
  | none=>exact .inr ⟨(λz=>nomatch z),e⟩
  | some nm =>
   have e:((nm,C+1)::cl).lookup x=some c:=e;rw[dJ] at e;cases a:x == nm with
   | true=>rw[a] at e;cases e;exact .inl ⟨by rw[jB.mp a],rfl⟩
   | false=>rw[a] at e;exact .inr ⟨(λz=>by cases z;simp at a),e⟩
 have lift:∀ x c,nw≠some x->cl.lookup x=some c->(Ac nw C++cl).lookup x=some c:=λx c n e=>by
  cases nw with
  | none=>exact e
  | some nm =>
   show ((nm,C+1)::cl).lookup x=some c;rw[dJ,show (x == nm)=false from cP.mpr λz=>n (by rw[z])];exact e
 have ai:∀ x c,cl.lookup x=some c->c<C:=λx c e=>by
  obtain⟨v,o,ho,_⟩:=f.cell x c (U x c e);rw[← hC];exact aY ho
 have ah:∀ b∈fp,∀ x c,(Ac nw C++cl).lookup x=some c->c≠b:=λb a x c e=>by
  rcases look x c e with⟨_,q⟩ | ⟨_,q⟩
  ·exact λz=>absurd (bp b a) (by rw[← z,q];exact Nat.not_lt.mpr (iE C))
  ·exact (f3 b a).2.2.2.2.1 x c (U x c q)
 have a4:(sV nw X (T++capN) scope cl C B M fp).Ok:=by
  refine⟨f.ok.mod,hk,f.ok.glob,f.ok.blt,lV hC,λx y c S L=>?_,λx hx=>?_,λx c S L=>?_,f.ok.hd,f.ok.frames,.inl rfl,λb a=>⟨a7 b a,λx c e=>ah b a x c e⟩,λb o e=>f.bs b o e,?_,λb o e z=>?_,λb a=>a6 b a,f.stack,f.stkFree⟩
  ·rcases look x c S with⟨q1,r1⟩ | ⟨q1,r1⟩
   ·rcases look y c L with⟨q2,r2⟩ | ⟨q2,r2⟩
    ·exact cA (q1.symm.trans q2)
    ·exact absurd (ai y c r2) (by rw[r1];exact Nat.not_lt.mpr (iE C))
   ·rcases look y c L with⟨q2,r2⟩ | ⟨q2,r2⟩
    ·exact absurd (ai x c r1) (by rw[r2];exact Nat.not_lt.mpr (iE C))
    ·exact f.ok.inj x y c (U x c r1) (U y c r2)
  ·have bh:(relabel scope X.env).names.lookup x=some .cell\/(relabel scope X.env).names.lookup x=some .free:=hx;have hf:scope.names.lookup x=some .cell\/scope.names.lookup x=some .free:=by
    rcases bh with q | q
    ·exact Se q (.inl rfl)
    ·exact Se q (.inr rfl)
   show ∃ c,(Ac nw C++cl).lookup x=some c;by_cases a:nw=some x
   ·subst a;exact⟨C+1,by show ((x,C+1)::cl).lookup x=_;rw[dJ,iK]⟩
   ·rcases hf with q | q
    ·exact absurd (O.only x q) a
    ·obtain⟨c,e⟩:=cR.mp (a8 x (dU q));exact⟨c,lift x c a e⟩
  ·rcases look x c L with⟨q,r⟩ | ⟨q,r⟩
   ·show B.heap.objs.size<=c;rw[r,hC];exact iE C
   ·cases nw with
    | none =>
     have S:(cl.lookup x).isNone=true:=S;rw[r] at S;cases S
    | some nm =>
     have S:(x == nm||(cl.lookup x).isNone)=true:=S;rw[r,show (x == nm)=false from cP.mpr λz=>q (by rw[z])] at S;cases S
  ·exact bY f.ok.bsz f.sz
  ·obtain⟨z0,z1,z2,z3,_⟩:=f3 b z;rcases z3 with q | q
   ·exact f.ok.noex b o e q
   ·exact absurd (bI (aY e) (bY f.ok.bsz q)) (gD _)
 have I4:Inv (sV nw X (T++capN) scope cl C B M fp) [] (qB T caps σ) M { B with heap:=aa }:=by
  refine⟨a4,rfl,f.bare,Un.kept old,⟨_,V,λi x v S L e3=>?_⟩,λx c e=>?_,au,λx c e=>?_,λp hp=>absurd (show p∈([]:List (Addr×Obj)) from hp) (by simp),f.hok.kept old,?_⟩
  ·have S:(T++capN)[i]?=some x:=S;unfold qB at L;by_cases hi:i<T.length
   ·rw[hV (by simpa using hi),aX] at L;cases q:T[i]? with
    | none=>rw[q] at L;cases L
    | some z=>rw[q] at L;cases L
   ·rw[dF (by omega)] at S;rw[dF (by simpa using hi),aX,aA] at L;obtain⟨k,k1,k2,k3⟩:=O.cap _ x S;rw[k1] at L;have L:(σ[k]?).join=some v:=cA L;have bq:σ[k]?=some (some v):=by
     cases q:σ[k]? with
     | none=>rw[q] at L;cases L
     | some z=>rw[q] at L;exact cV some L
    have ab:X.env.kindOf x=some .cell:=O.free (x,.free) (dU k3) rfl;obtain⟨m,hn,hl⟩:=f.loc;obtain⟨u,r,l⟩:=hl k x v k2 bq (.inr (.inl ab));refine⟨u,r,.inr ⟨?_,?_⟩⟩
    ·obtain⟨k',e5,e6⟩:=QB (env:=X.env) k3;rcases e6 with z | ⟨_,z⟩
     ·subst z;exact .inr e5
     ·subst z;exact .inl e5
    ·rcases l with⟨l1,_⟩ | ⟨_,c,e7,o,ao,an⟩
     ·rw[ab] at l1;cases l1
     ·obtain⟨c',e8⟩:=cR.mp (a8 x (dU k3));have:=U x c' e8;rw[e7] at this;cases this;exact⟨c,lift x c (λz=>by rw[O.cel x z] at k3;cases k3) e8,o,old c o ao,an⟩
  ·rcases look x c e with⟨n,q⟩ | ⟨_,q⟩
   ·exact⟨none,q▸Y x n⟩
   ·obtain⟨v,o,ao,an⟩:=f.cell x c (U x c q);exact⟨v,o,old c o ao,an⟩
  ·rcases look x c e with⟨_,q⟩ | ⟨_,q⟩
   ·exact q▸ag
   ·exact f.freeC x c (U x c q)
  ·show (qB T caps σ).length=(T++capN).length;unfold qB;rw[aH,aH,aA,aA,O.len]
 have av:∀ {H':Hp},(∀ b∈fp,H' b=none)->∀ b∈fp,uA (sV nw X (T++capN) scope cl C B M fp) [] H' b:=λhn b a =>
  ⟨hn b a,a7 b a,a6 b a,.inl a,λx c e=>ah b a x c e,λp hp=>absurd (show p∈([]:List (Addr×Obj)) from hp) (by simp)⟩
 have a0:tn 0 aa:=j.keep _ _ _ Z λb _ o e=>old b o e
 have bc:W 0 m0 [] (qB T caps σ) M:=w0;have af:codeAny (model X.prog X.w) X.A (.compLoop (.ListComp elt [⟨tg,iter,ifs,0⟩] scope pos) 0 (.ref it) (.ref D) (compEnvC scope (Ac nw C++cl) C X.env))
   (compPost (model X.prog X.w) X.A X.xe use Qs (.ref D) C) { B with heap:=aa }:=by
  refine W9 (λn s'=>∃ i ys ay H',Inv (sV nw X (T++capN) scope cl C B M fp) [] ay H' s'/\tn i s'.heap/\(∀ b∈fp,H' b=none)/\W i n ys ay H') ?_ m0 ⟨0,[],qB T caps σ,M,I4,a0,λb a=>(f3 b a).1,bc⟩;rintro n s5 ⟨i,ys,ac,H5,I5,az,a5,w5⟩;rcases ae i n ys ac H5 w5 with⟨stop,qn⟩ | ⟨go,N,F,hN,hF,step⟩
  ·refine mR (j.done (sV nw X (T++capN) scope cl C B M fp) rfl rfl rfl hc i [] s5 ac H5 _ I5 (av a5) az stop) λr s6 ⟨hr,I6⟩=>?_
   subst hr;obtain⟨m6,bj,_⟩:=I6.loc;have bk:H5 C=none:=I6.free;have ub:=I6.base;have ak:=f.fpOk (lV hC) au;refine fin C D s6 H5 (Inv.call' (s':=s6) (ch:=fp) f I6.os ?_ I6.hok I6.bare (λb a=>⟨(f3 b a).2.2.2.1,(f3 b a).2.1,(f3 b a).2.2.2.2.1,(f3 b a).2.2.2.2.2⟩)) qn ⟨bk,ak.2⟩ ⟨m6,bj⟩;exact⟨λb o q n a hx=>ub.keep b o q n a hx,λb o q n a hx=>ub.slot b o q n a hx,ub.free,λb o q hx=>ub.there b o q hx,ub.tups,ub.frzs,ub.tbls⟩
  ·refine mR (j.item (sV nw X (T++capN) scope cl C B M fp) rfl rfl rfl hc i [] s5 ac H5 _ I5 (av a5) az go) λr s6 ⟨u,hr,h6⟩=>?_
   subst hr;refine mR h6 λ_ s7 ⟨x,H7,I7,r7,y7,aj,bo⟩=>?_
   have bt:=I7.pinned (av bo) (j.obj _ _ aj);have E:∀ {t:St} {H8:Hp} {s8:Shared},Inv (sV nw X (T++capN) scope cl C B M fp) ([]++Ek fp s7.heap) t H8 s8->tn (i+1) s8.heap/\(∀ b∈fp,H8 b=none):=λ{t H8 s8} I8=>by
    refine⟨j.keep _ _ _ aj λb a o e=>(I8.pin (b,o) (aN _ (aN _ (Fs a e)))).1,λb a=>?_⟩;obtain⟨o,e,d⟩:=j.obj _ _ aj b a;exact (I8.pin (b,o) (aN _ (aN _ (Fs a e)))).2.1
   refine mR (hg B M C cl fp _ s7 ac H7 x u _ bt r7 (step x H7 y7)) λ_ s8 ⟨t,H8,I8,q8⟩=>?_
   refine mR (ht B M C cl fp _ s8 t H8 _ I8 q8) λok s9 ⟨H9,I9,q9⟩=>?_
   cases ok with
   | false =>
    rw[aM (by simp)] at q9;rw[aM (by simp)];obtain⟨m',hm,w9⟩:=hF _ _ q9;exact⟨m',hm,i+1,ys,t,H9,I9.unpinned,(E I9).1,(E I9).2,w9⟩
   | true =>
    rw[aP rfl] at q9;rw[aP rfl];refine mR (he B M C cl fp _ s9 t H9 _ I9 q9) λvv be ⟨v,bv,bu,bf,bg⟩=>?_
    obtain⟨br,a9,m',hm,bb⟩:=hN _ _ _ bg;refine mR (rQ (X:=sV nw X (T++capN) scope cl C B M fp) _ be t bv (.ref D) [v] (.ref D) [vv] (λ_ ax=>W (i+1) m' (ys++[v]) t ax) bu rfl (.cons bf .nil) ⟨D,ys,v,rfl,rfl,br,a9,bb⟩) λ_ bw ⟨_,ax,aw,_,ba⟩=>?_
    exact⟨m',hm,i+1,ys++[v],t,ax,aw.unpinned,(E aw).1,(E aw).2,ba⟩
 exact codeAny_compStart_list af (j.self _ 0 _ _ _ a0 af)
theorem Wn {D:Addr}(I:Inv X pins σ H5 s6) (q:Q (.ref D) H5) (fp:uA X pins H5 C) (hn:∃ m,s6.heap.Ns C m):compPost (model X.prog X.w) X.A X.xe none (EP X pins σ Q) (.ref D) C (.ok .next) s6:=by
 obtain⟨m,hn⟩:=hn;refine⟨m,hn,λd c=>⟨.ref D,H5,I.moved (t':=s6.toks) (fp:=[C]) (λb a=>?_) (λb o a e=>?_),rfl,q⟩⟩
 ·rw[bA.mp a];exact fp
 ·exact c.extBut b o (λz=>a (bA.mpr z)) e
theorem An {iter:Expr}(T capN:List Str) (caps:List Nat) (hc:X.calm=true) (hi:PI X tg iter wi)
  (hk:scope.kind = .function) (ho:Dg X.N X.env.kindOf scope T capN caps=true)
  (hg:∀ s₀ H₀ C cl fp,PG (uC X (T++capN) scope cl C s₀ H₀ fp) tg g)
  (ht:∀ s₀ H₀ C cl fp,vF (uC X (T++capN) scope cl C s₀ H₀ fp) ifs tt)
  (he:∀ s₀ H₀ C cl fp,PE (uC X (T++capN) scope cl C s₀ H₀ fp) elt te)
  (hs:∀ x,foldedSetIterable iter X.env x=pure x:=by intro _;rfl) :
  PE X (.ListComp elt [⟨tg,iter,ifs,0⟩] scope pos) (zM T caps wi g tt te):=by
 intro a s c H Q I h;rw[eval_ListComp];exact N4 (nw:=none) T capN caps hc hi hk (Lq ho) hg ht he hs I h λC D d e I q fp b=>Wn I q fp b
end
structure Yields (J:It) (xs:List V) (R:Hp->Prop):Prop where
 go:∀ i H,i<xs.length->R H->J.go i H
 yld:∀ i H x H',i<xs.length->R H->J.yld i H x H'->H'=H/\xs[i]?=some x
 stop:∀ i H,i=xs.length->R H->J.stop i H
theorem LN {K:mC}:Yields (xI K a) xs (λH=>mG K H a xs) :=
 ⟨λi H b r=>⟨xs,xs[i],r,aG b⟩,λi H x c b r y=>⟨y.1,y.2 xs r⟩,λi H e r=>⟨xs,r,by omega⟩⟩
theorem Ox {lo:Int}:Yields (vE lo n) ((List.range n).map λ(i:Nat)=>V.int (lo+(i:Int))) (λ_=>True) :=
 ⟨λi H a _=>by simpa [vE] using a,λi H x b a _ y=>⟨y.1,by rw[y.2];simp at a;simp[a]⟩,λi H e _=>by simp[vE,e]⟩
def Aa (z:Str):List V:=z.cps.toList.map λc=>V.str ⟨#[c]⟩
theorem NM:Yields (vR z) (Aa z) (λ_=>True) :=
 ⟨λi H a _=>by simpa [vR,Aa,Str.length] using a,
  λi H x d a _ y=>by
   obtain⟨e,c,b,rfl⟩:=y;refine⟨e,?_⟩;unfold Aa;rw[aX,dX,b];rfl,
  λi H e _=>by simp[vR,e,Aa,Str.length]⟩
def Kl (cs:St) (D:Addr) (Pv:Nat->List V->Hp->Prop) (i:Nat) (ys:List V) (σ2:St):VK:=λv H5=>(∃ t,σ2=t::cs)/\H5 D=some (.lst ys)/\ys.length<sizeLine/\Pv (i+1) (ys++[v]) (upd H5 D (.lst (ys++[v])))
def Wi (cs:St) (Pv:Nat->List V->Hp->Prop) (i:Nat) (ys:List V) (σ2:St) (H4:Hp):Prop:=(∃ t,σ2=t::cs)/\Pv (i+1) ys H4
theorem Va {R:Hp->Prop}{D:Addr}(Y:Yields J xs R) (Pv:Nat->List V->Hp->Prop)
  (h0:Pv 0 [] (upd H1 D (.lst []))) (hR:∀ i ys H,i<=xs.length->Pv i ys H->R H)
  (hs:∀ i x ys H,xs[i]?=some x->Pv i ys H->tt (some x::caps.map (λi=>(σ[i]?).join)) H λb H4 =>if b=true then te (some x::caps.map (λi=>(σ[i]?).join)) H4 (Kl (caps.map (λi=>(σ[i]?).join)) D Pv i ys (some x::caps.map (λi=>(σ[i]?).join))) else Wi (caps.map (λi=>(σ[i]?).join)) Pv i ys (some x::caps.map (λi=>(σ[i]?).join)) H4)
  (hd:∀ ys H,Pv xs.length ys H->Q (.ref D) H):B1 [nm] caps J (yW 0) tt te σ H1 Q D:=by
 refine⟨λi m ys d H=>m=xs.length-i/\i<=xs.length/\(∃ t,d=t::caps.map (λi=>(σ[i]?).join))/\Pv i ys H,⟨xs.length,by simp,cO _,⟨none,rfl⟩,h0⟩,?_⟩;rintro i m ys d c ⟨rfl,h,⟨t,rfl⟩,p⟩;by_cases a:i<xs.length
 ·refine .inr ⟨Y.go i c a (hR i ys c h p),Kl (caps.map (λi=>(σ[i]?).join)) D Pv i ys,Wi (caps.map (λi=>(σ[i]?).join)) Pv i ys,?_,?_,λx k y=>?_⟩
  ·rintro f v r ⟨g,q,o,j⟩;exact⟨q,o,xs.length-(i+1),by omega,rfl,a,g,j⟩
  ·rintro f H4 ⟨g,j⟩;exact⟨xs.length-(i+1),by omega,rfl,a,g,j⟩
  ·obtain⟨rfl,l⟩:=Y.yld i c x k a (hR i ys c h p) y;exact hs i x ys k l p
 ·have e:i=xs.length:=by omega
  subst e;exact .inl ⟨Y.stop _ _ rfl (hR _ ys c h p),hd ys c p⟩
def yS:Expr->Bool
 | .Starred _ _=>false
 | _=>true
theorem QL (h:yS e=true):starEach (e::es) env=(false,eval e env)::starEach es env:=by
 cases e<;>first | rfl | (cases h;done)
section
variable {X:Cx}
theorem nC (ha:PE X e te) (hr:PA X es t) (h:yS e=true:=by rfl):PA X (e::es) (C3 te t):=yB ha hr (QL h)
def X8 (xs:List Str):TA:=λ_ H Q=>Q (xs.map V.str) H
theorem zD:∀ (l:List (Str×Nat×Pos)),PA X (l.map λp=>.Constant (.str p.1) p.2.1 p.2.2) (X8 (l.map (·.1)))
 | []=>nJ
 | a::r=>λpos b s c H Q I h=>nC (vS (x:=a.1) (j:=a.2.1) (pos:=a.2.2)) (zD r) (by rfl) pos b s c H Q I h
end
theorem Oc {R:Hp->Prop}{D:Addr}(Y:Yields J xs R) (Pv:Nat->List V->Hp->Prop)
  (h0:Pv 0 [] (upd H1 D (.lst []))) (hR:∀ i ys H,i<=xs.length->Pv i ys H->R H)
  (hs:∀ i x ys H,xs[i]?=some x->Pv i ys H->te (some x::caps.map (λi=>(σ[i]?).join)) H (Kl (caps.map (λi=>(σ[i]?).join)) D Pv i ys (some x::caps.map (λi=>(σ[i]?).join))))
  (hd:∀ ys H,Pv xs.length ys H->Q (.ref D) H):B1 [nm] caps J (yW 0) Dq te σ H1 Q D:=by
 refine Va Y Pv h0 hR (λi x ys H a p=>?_) hd;unfold Dq;dsimp only;rw[aP rfl];exact hs i x ys H a p
theorem GY {R:Hp->Prop}{D:Addr}(Y:Yields J xs R) (f:V->V) (nD:H1 D=none) (hR:∀ H,qP H1 H->R H) (hl:xs.length<=1000)
  (hs:∀ (i:Nat) x H (k:VK),xs[i]?=some x->qP H1 H->k (f x) H->te (some x::caps.map (λi=>(σ[i]?).join)) H k)
  (hd:Q (.ref D) (upd H1 D (.lst (xs.map f)))):B1 [nm] caps J (yW 0) Dq te σ H1 Q D:=by
 have g:∀ o,qP H1 (upd H1 D o):=λo b u e=>by rw[mO (nO e nD)];exact e
 refine Oc Y (λi a H=>i<=xs.length/\a=(xs.take i).map f/\H=upd H1 D (.lst a)) ⟨cO _,by simp,rfl⟩ (λi a H _ p=>hR H (by rw[p.2.2];exact g _)) ?_ ?_
 ·rintro i x a H c ⟨j,rfl,rfl⟩;have d:=(aU.mp c).1;have h:xs.take (i+1)=xs.take i++[x]:=by rw[bS,c];rfl
  refine hs i x _ _ c (g _) ⟨⟨_,rfl⟩,mT,?_,d,?_,?_⟩
  ·rw[aA,bQ];exact cM (show min i xs.length<=1000 by omega) (by decide)
  ·rw[h,aJ];rfl
  ·rw[MP]
 ·rintro a H ⟨_,rfl,rfl⟩;rw[bR (aZ _)];exact hd
theorem yH {X:Cx}{st:Stmt}{rest:List Stmt}{D:Ends}(I:St->Hp->Prop) (g:∀ u:TS,(∀ σ' H',I σ' H'->u D σ' H')->∃ t,PS X st t/\t { D with nx:=u D } σ H)
  (h:∀ σ' H',I σ' H'->∃ u,qL X rest u/\u D σ' H'):∃ t,qL X (st::rest) t/\t D σ H:=by
 let u:TS:=λc σ' H'=>∃ b,qL X rest b/\b c σ' H'
 have d:qL X rest u:=λa s σ' H' c j ⟨b,e,i⟩=>e a s σ' H' c j i
 obtain⟨t,pt,f⟩:=g u h;exact⟨J2 t u,qF pt d,f⟩
theorem T6 {X:Cx}{st:Stmt}{rest:List Stmt}{D:Ends}(t:TS) (p:PS X st t) (h:t { D with nx:=λσ' H'=>∃ u,qL X rest u/\u D σ' H' } σ H):∃ t,qL X (st::rest) t/\t D σ H:=by
 let u:TS:=λc σ' H'=>∃ b,qL X rest b/\b c σ' H'
 have d:qL X rest u:=λa s σ' H' c g ⟨b,e,f⟩=>e a s σ' H' c g f
 exact⟨J2 t u,qF p d,h⟩
section
variable {X:Cx}{id:String}
def OX (K:mC):List V->Hp->VK->Prop:=λxs H Q=>∃ p ys,xs=[.ref p]/\(mG K H p ys\/nL K H p ys)/\Q (.int ys.length) H
theorem FF (K:mC) (hK:X.K=K:=by rfl):oP X (.builtin "len") (OX K):=by subst hK;exact zA
theorem CM (K:mC) (pa:PlainAttrs T) (slot:Slot T name id) (hty:typeOf (.builtin id)=pure (.type "method_descriptor")) (hm:wO X id r) (ho:PE X o to) (ha:PA X (e::es) t) (hK:X.K=K:=by rfl)
  (hbase:attributeBase o name X.env (eval o X.env)=eval o X.env:=by rfl)
  (hfew:((backTo cpos (starEach (e::es) X.env)).all (λx=>!x.1)&&(backToKw cpos (keywordEach [] X.env)).all (λx=>x.1.isSome) && decide ((e::es).length+([]:List Keyword).length+(if ([]:List Keyword).isEmpty then 0 else 1)<30))=true:=by rfl)
  (hline:(apos.endLine == cpos.line)=true:=by rfl) (hs:starEach (e::es) X.env=(false,eval e X.env)::starEach es X.env:=by rfl) (hplain:(backTo cpos (starEach es X.env)).any (·.1)=false:=by rfl) :
  PE X (.Call (.Attribute o name apos) (e::es) [] cpos) (Nu K T r to t):=by
 subst hK;exact zE pa slot hty hm ho ha hbase hfew hline hs hplain
end
section
variable {X:Cx}
def DH (xs:List Int):TA:=λ_ H Q=>Q (xs.map V.int) H
theorem Iq:∀ (l:List (Int×Nat×Pos)),PA X (l.map λp=>.Constant (.int p.1) p.2.1 p.2.2) (DH (l.map (·.1)))
 | []=>nJ
 | a::r=>λpos b s c H Q I h=>nC (oA (i:=a.1) (j:=a.2.1) (pos:=a.2.2)) (Iq r) (by rfl) pos b s c H Q I h
end
section
variable {X:Cx}
theorem AI (hu:X.A.units+64<cLine):nH X (compareOp .NotEq) (Ll X.K true):=by
 intro c s m H x y v u Q I t p h;obtain⟨a,b,o,rfl,rfl,f,E,q⟩:=h;cases t;cases p;obtain⟨C,B,k,_⟩:=I.list f;obtain⟨l,z,j,_⟩:=I.list E;cases z;have g:∀ d,d = !o.isEmpty->EP X c m Q (.bool d) s:=λd e=>⟨.bl d,H,I,rfl,by subst e;exact q⟩
 cases B with
 | nil=>exact SeqAt.RcNeAt.lists (e:=λ_=>true) k.isList j.isList rfl (by omega) (λi f _=>by simp at f) X.prog X.w _ _ (g _ (by simp))
 | cons r F=>exact SeqAt.RcNeAt.lists_lengths k.isList j.isList (by simp) (by omega) X.prog X.w _ _ (g _ rfl)
def U1 (K:mC):List V->Hp->VK->Prop:=λxs H Q=>∃ (x c:V) (t cv:Value) (b:Bool),xs=[x,c]/\nB c cv/\TyOf K H x t/\PySem.W.kitOne K t cv=some b/\Q (.bl b) H
theorem Zt (K:mC) (hK:X.K=K:=by rfl):oP X (.builtin "isinstance") (U1 K):=by subst hK;exact LQ
end
section
variable {X:Cx}
theorem BP {bs:List Bool}{us:List Value}(r:mX (bs.map V.bl) us){i:Nat}{v:Value}(h:us[i]?=some v):∃ b,bs[i]?=some b/\v = .bool b:=by
 have e:=r.length;rw[aA] at e;have f:i<us.length:=(aU.mp h).1;have c:bs[i]?=some (bs[i]'(by omega)):=aG (by omega);obtain⟨u,a,d⟩:=r.get (i:=i) (x:=V.bl (bs[i]'(by omega))) (by rw[aX,c];rfl);rw[h] at a;cases a;exact⟨_,c,d⟩
theorem RI (bs:List Bool):((List.range bs.length).all λi=>(bs[i]?).getD true)=bs.all id:=by
 have e:(List.range bs.length).map (λi=>(bs[i]?).getD true)=bs:=by
  apply List.ext_getElem (by simp);intro i p q;simp[q]
 calc ((List.range bs.length).all λi=>(bs[i]?).getD true)=((List.range bs.length).map λi=>(bs[i]?).getD true).all id:=by rw[kA];rfl
  _=bs.all id:=by rw[e]
def Vf (K:mC):List V->Hp->VK->Prop:=λxs H Q=>∃ (p:Addr) (bs:List Bool),xs=[.ref p]/\mG K H p (bs.map V.bl)/\Q (.bl (bs.all id)) H
theorem C8 (hc:X.calm=true):oP X (.builtin "all") (Vf X.K):=by
 intro j s B H C E Q I r h;obtain⟨p,bs,rfl,o,q⟩:=h;obtain⟨u,rfl,l⟩:=rR r;cases l;obtain⟨c,g,m,_⟩:=I.list o;have f:=m.isList;have a:=g.length;rw[aA] at a;have d:p<s.heap.objs.size:=by obtain⟨_,e,_⟩:=id f;exact aY e
 refine call_all_walk (gG f ?_);refine⟨s.heap.objs.size,[s.heap.objs.size,p],[s.heap.objs.size],c.toArray.size,_,_,λi=>(bs[i]?).getD true,rfl,Walks.list (A:=X.A.in1) (I.ok.hd hc) _ p (bL d) c.toArray,⟨⟨_,bB _ rfl,rfl,rfl⟩,f.push _⟩,λi v L N O z k=>?_,λM F y=>?_⟩
 ·obtain⟨b,e,rfl⟩:=BP g (by simpa using z);simp only[e,Option.getD_some] at k;exact gF k
 ·have e:((List.range c.toArray.size).all λi=>(bs[i]?).getD true)=bs.all id:=by
   rw[aW,← a];exact RI bs
  rw[e];exact⟨.bl _,H,I.kept λb x e=>y b x (λt=>by rw[bA.mp t] at e;exact gD _ (aY e)) (aE _ e),rfl,q⟩
def W0:V->List V->Hp->VK->Prop:=λx vs H Q=>∃ (z y:Str),x = .str z/\vs=[.str y]/\y.length≠0/\z.length<=1000000/\∀ p,H p=none->Q (.ref p) (upd H p (.lst ((Txt.split z y).map V.str)))
theorem Q3:∀ (l:List (Str×Tok)),mX ((l.map (·.1)).map V.str) (strValues l)
 | []=>.nil
 | a::r=>.cons ⟨a.2,rfl⟩ (Q3 r)
theorem Z6:wO X "str.split" W0:=by
 intro a s g H x p v r Q I i j h;obtain⟨z,y,rfl,rfl,k,B,q⟩:=h;obtain⟨t,rfl⟩:=i;obtain⟨u,rfl,d,rfl⟩:=j.one;have b:(y.length == 0)=false:=by simpa using k
 have fin:∀ (l:List (Str×Tok)) (c:Nat),l.map (·.1)=Txt.split z y->l.length<=sizeLine->EP X a g Q (.ref s.heap.objs.size) { s with heap:=s.heap.push { cls:=.type "list",data:=.seq (strValues l).toArray },toks:=c }:=by
  intro l c e m;refine⟨.ref _,_,I.lnew (its:=strValues l) (ys:=(Txt.split z y).map V.str) (t':=c) (by rw[← e];exact Q3 l) ?_,rfl,q _ I.fresh⟩;rw[aA,← e,aA];exact m
 have f:(Builtin.Str.partsBetween z (Builtin.Str.occurrences z y 0 z.length (z.length+1)) y.length).length<=sizeLine:=by
  have C:=StrLaws.occ_length_le z y 0 z.length (z.length+1);rw[length_partsBetween,kM];omega
 cases g1:(decide (z.length<y.length)||decide (Builtin.Str.strKind z<Builtin.Str.strKind y)) with
 | false =>
  cases g2:(Builtin.Str.occurrences z y 0 z.length (z.length+1)).isEmpty with
  | false =>
   refine iN iQ (lF _ _ _) jU (jI _ _) (meets_str_split_sep z y t d g1 b g2 (by rw[kM];omega) f) ?_;show wants _ _ _ { s with toks:=_,heap:=s.heap.push { cls:=.type "list",data:=.seq (strsFrom s.toks (Builtin.Str.partsBetween z (Builtin.Str.occurrences z y 0 z.length (z.length+1)) y.length)).toArray } };rw[strsFrom_eq];have o:(numbered s.toks (Builtin.Str.partsBetween z (Builtin.Str.occurrences z y 0 z.length (z.length+1)) y.length)).map (·.1)=Txt.split z y:=(numbered_texts _ _).trans ((aM (kY g1)).trans (aM (kY g2))).symm;refine fin _ _ o ?_;have:=cV List.length (numbered_texts s.toks (Builtin.Str.partsBetween z (Builtin.Str.occurrences z y 0 z.length (z.length+1)) y.length));rw[aA] at this;rw[this];exact f
  | true =>
   exact iN iQ (lF _ _ _) jU (jI _ _) (meets_str_split_not_found z y t d g1 b g2)
    (fin [(z,t)] s.toks ((aM (kY g1)).trans (aP g2)).symm (by show 1<=sizeLine;decide))
 | true =>
  exact iN iQ (lF _ _ _) jU (jI _ _) (meets_str_split_cannot_occur z y t d g1)
   (fin [(z,t)] s.toks (aP g1).symm (by show 1<=sizeLine;decide))
end
section
variable {X:Cx}
theorem Inv.movedT {t':Nat}{fp:List Addr}{ys:List V}{its:List Value}(I:Inv X pins σ H s) (hf:∀ b∈fp,uA X pins H b) (k:∀ b o,b∉fp->s.heap.get? b=some o->h'.get? b=some o)
  (new:yE h' s.heap.objs.size its.toArray) (rv:mX ys its) (hz:ys.length<=sizeLine):Inv X pins σ (upd H s.heap.objs.size (.tup ys)) { s with heap:=h',toks:=t' }:=by
 have g:=I.fresh;have f:∀ b u,H b=some u->b∉fp:=λb u e z=>by rw[(hf b z).1] at e;cases e
 have lt:∀ b o,s.heap.get? b=some o->b≠s.heap.objs.size:=λb o e=>bL (aY e)
 refine I.step (g':=s.gens) (d':=s.drawn) (ch:=fp) (λb d=>⟨(hf b d).2.2.2.1,(hf b d).2.1,(hf b d).2.2.2.2.1,(hf b d).2.2.2.2.2⟩) (λb o _ _ a e _=>k b o a e) (λb o _ _ a e _=>⟨o.slots,k b o a e⟩) (λb o _ e n=>by rw[mO (lt b o e)];exact n)
  (λb o a e=>⟨o,k b o a e⟩) (λb h e=>by rw[mO (nO e g)];exact e) (λb o u e=>by rw[mO (nO e g)];exact e) (λb t e=>⟨#[],by rw[mO (nO e g),e];simp⟩) (λm j=>?_) (λb u e=>?_) I.bare
 ·obtain⟨o,l,p,i,r⟩:=j;exact⟨o,l,p,k _ o (λz=>(hf _ z).2.1 rfl) i,r⟩
 ·by_cases d:b=s.heap.objs.size
  ·subst d;rw[mT] at e;cases e;exact⟨hz,its,rv,new⟩
  ·rw[mO d] at e;refine (I.hok b u e).stay (λc v a q=>k c v ?_ q) (λc q=>by rw[mO (nO q g)];exact q) λc h q=>by rw[mO (nO q g)];exact q
   rcases a with z | z
   ·rw[z];exact f b u e
   ·exact f c _ z
end
section
variable {X:Cx}
theorem EV {iter:Expr}(T capN:List Str) (caps:List Nat) (hN:X.N.Nodup) (hi':X.N[i]?=some x) (hx:wR X.env.scope x)
  (hc:X.calm=true) (hi:PI X tg iter wi) (hk:scope.kind = .function) (ho:Dg X.N X.env.kindOf scope T capN caps=true)
  (hg:∀ s₀ H₀ C cl fp,PG (uC X (T++capN) scope cl C s₀ H₀ fp) tg g)
  (ht:∀ s₀ H₀ C cl fp,vF (uC X (T++capN) scope cl C s₀ H₀ fp) ifs tt)
  (he:∀ s₀ H₀ C cl fp,PE (uC X (T++capN) scope cl C s₀ H₀ fp) elt te)
  (hsw:swapsWith (.ListComp elt [⟨tg,iter,ifs,0⟩] scope pos) (some (.Name x pos')) spos.line X.env=pure true:=by rfl)
  (hs:∀ x,foldedSetIterable iter X.env x=pure x:=by intro _;rfl)
  (hf:X.fn x=true\/X.env.scope.names.lookup x=some .local:=by first | exact .inl rfl | exact .inr rfl | assumption) :
  PS X (.Assign [.Name x pos'] (.ListComp elt [⟨tg,iter,ifs,0⟩] scope pos) spos) (Ma (zM T caps wi g tt te) (yW i)):=by
 intro k s F H D I h;rw[exec_Assign_Name_used _ _ _ _ hsw];refine aB (lS (aB ?_));show wpAny _ _ (comprehension _ _ _ _ _ _ _ _ >>= λ_=>pure ()) _ _ _;refine aB (N4 (nw:=none) T capN caps hc hi hk (Lq ho) hg ht he hs I h λC l L E y q fp ⟨m,t⟩=>?_);show wpAny _ _ (assign (.Name x pos') X.env (.ref l)) _ _ _;refine wpAny_assign_Name (Uh y hN hi' hx (v:=.ref l) rfl (λr B d=>?_) hf);obtain⟨a,p,u⟩:=d;have j:C≠a:=by
  rcases u with z | z
  ·rw[z];exact fp.2.1
  ·exact (fp.2.2.2.2.1 x a z).symm
 refine⟨m,t.sameBut p j,λM c=>aF (aF ⟨_,E,B.moved (t':=r.toks) (fp:=[C]) (λb f=>?_) (λb o f e=>?_),q⟩)⟩
 ·rw[bA.mp f];exact fp
 ·exact c.extBut b o (λz=>f (bA.mpr z)) e
end
inductive D where
 | non | bl (b:Bool) | int (i:Int) | str (x:Str) | raw (v:V)
 | tup (xs:List D) | lst (xs:List D)
 | dK (kvs:List (hI×D)) | dT (kvs:List (List hI×D))
 | scr (xs:List D)
 | con (xs:List D)
def C9 (K:mC) (a:Addr) (xs:List V):Prop:=∃ (o:Obj) (its:Array Value) (n:Nat),K.lookup a=some o/\o.cls = .type "tuple" /\ o.data = .seq its n/\its.size<=sizeLine/\mX xs its.toList
theorem C9.sqT {K:mC}(h:C9 K a xs):nL K H a xs:=.inr h
def xW (K:mC) (H:Hp) (a:Addr) (xs:List V):Prop:=(∃ o,H a=some (.frz o (.lst xs))) \/
 ∃ (o:Obj) (its:Array Value) (n:Nat),K.lookup a=some o/\o.cls = .type "list" /\ o.dict=none/\o.data = .seq its n/\its.size<=sizeLine/\mX xs its.toList
theorem xW.sqL {K:mC}(h:xW K H a xs):mG K H a xs:=h.elim (λh=>.inl (.inr h)) .inr
mutual
inductive Rep (K:mC) (A:Addr->Prop) (H:Hp):D->V->Prop where
 | non:Rep K A H .non .non
 | bl (b:Bool):Rep K A H (.bl b) (.bl b)
 | int (i:Int):Rep K A H (.int i) (.int i)
 | str (x:Str):Rep K A H (.str x) (.str x)
 | raw (v:V):Rep K A H (.raw v) v
 | tup {a:Addr} {vs:List V} {ds:List D}:H a=some (.tup vs)->Reps K A H ds vs->Rep K A H (.tup ds) (.ref a)
 | con {a:Addr} {vs:List V} {ds:List D}:C9 K a vs->Reps K A H ds vs->Rep K A H (.con ds) (.ref a)
 | lst {a:Addr} {vs:List V} {ds:List D}:A a->H a=some (.lst vs)->Reps K A H ds vs->Rep K A H (.lst ds) (.ref a)
 | scr {a:Addr} {vs:List V} {ds:List D}:xW K H a vs->Reps K A H ds vs->Rep K A H (.scr ds) (.ref a)
 | dK {a:Addr} {kvs:List (hI×V)} {ds:List (hI×D)}:A a->H a=some (.dK kvs)->ds.map (·.1)=kvs.map (·.1)->Reps K A H (ds.map (·.2)) (kvs.map (·.2))->Rep K A H (.dK ds) (.ref a)
 | dT {a:Addr} {kvs:List (List hI×V)} {ds:List (List hI×D)}:A a->Rd H a (.dT kvs)->ds.map (·.1)=kvs.map (·.1)->Reps K A H (ds.map (·.2)) (kvs.map (·.2))->Rep K A H (.dT ds) (.ref a)
inductive Reps (K:mC) (A:Addr->Prop) (H:Hp):List D->List V->Prop where
 | nil:Reps K A H [] []
 | cons {d:D} {v:V} {ds:List D} {vs:List V}:Rep K A H d v->Reps K A H ds vs->Reps K A H (d::ds) (v::vs)
end
def Eo:HO->Bool
 | .tup _=>true
 | .frz _ _=>true
 | _=>false
def Kp (A A':Addr->Prop) (H H':Hp):Prop:=(∀ a o,A a->H a=some o->A' a/\H' a=some o)/\∀ a o,Eo o=true->H a=some o->H' a=some o
section
variable {K:mC}
theorem Kp.sqF (k:Kp A A' H H') (h:xW K H a vs):xW K H' a vs:=by
 rcases h with⟨o,h⟩ | h
 ·exact .inl ⟨o,k.2 _ _ rfl h⟩
 ·exact .inr h
theorem Kp.rd (k:Kp A A' H H') (ha:A a) (h:Rd H a u):A' a/\Rd H' a u:=by
 rcases h with h | ⟨o,h⟩
 ·exact⟨(k.1 _ _ ha h).1,.inl (k.1 _ _ ha h).2⟩
 ·exact⟨(k.1 _ _ ha h).1,.inr ⟨o,(k.1 _ _ ha h).2⟩⟩
theorem Rep.mono (k:Kp A A' H H') (h:Rep K A H d v):Rep K A' H' d v :=
 Rep.rec (motive_1:=λd v _=>Rep K A' H' d v) (motive_2:=λc b _=>Reps K A' H' c b) .non .bl .int .str .raw (λh _ r=>.tup (k.2 _ _ rfl h) r) (λh _ r=>.con h r)
  (λa h _ r=>.lst (k.1 _ _ a h).1 (k.1 _ _ a h).2 r) (λh _ r=>.scr (k.sqF h) r) (λa h e _ r=>.dK (k.1 _ _ a h).1 (k.1 _ _ a h).2 e r) (λa h e _ r=>.dT (k.rd a h).1 (k.rd a h).2 e r) .nil (λ_ _ h r=>.cons h r) h
theorem Reps.mono (k:Kp A A' H H') (h:Reps K A H ds vs):Reps K A' H' ds vs:=by
 induction ds generalizing vs with
 | nil=>cases h;exact .nil
 | cons d ds a=>cases h with | cons g r=>exact .cons (g.mono k) (a r)
theorem Kp.all (h:∀ a,A a->A' a):Kp A A' H H:=⟨λa o b e=>⟨h a b,e⟩,λ_ _ _ e=>e⟩
theorem Kp.trans (a:Kp A A' H H') (b:Kp A' A'' H' H''):Kp A A'' H H'':=⟨λx o c e=>let ⟨p,q⟩:=a.1 x o c e;b.1 x o p q,λx o t e=>b.2 x o t (a.2 x o t e)⟩
theorem Kp.laid (hp:H p=none) (h:∀ a,A a->a≠p->A' a):Kp A A' H (upd H p o) :=
 ⟨λa u b e=>⟨h a b (nO e hp),by rw[mO (nO e hp)];exact e⟩,λa u _ e=>by rw[mO (nO e hp)];exact e⟩
theorem Kp.same (s:qP H H') (h:∀ a,A a->A' a):Kp A A' H H':=⟨λa o b e=>⟨h a b,s a o e⟩,λa o _ e=>s a o e⟩
theorem Kp.write (hp:H p=some u) (hu:Eo u=false) (hn:¬ A p):Kp A A H (upd H p o):=by
 refine⟨λa w b e=>⟨b,?_⟩,λa w t e=>?_⟩
 ·rw[mO (λz:a=p=>hn (by rw[← z];exact b))];exact e
 ·rw[mO (λz=>?_)]
  ·exact e
  ·subst z;rw[hp] at e;cases e;rw[t] at hu;cases hu
theorem Reps.length (h:Reps K A H ds vs):ds.length=vs.length:=by
 induction ds generalizing vs with
 | nil=>cases h;rfl
 | cons d ds a=>cases h with | cons g r=>exact cV (·+1) (a r)
theorem Reps.get {ds:List D}{vs:List V}{i:Nat}{d:D}(h:Reps K A H ds vs) (e:ds[i]?=some d):∃ v,vs[i]?=some v/\Rep K A H d v:=by
 induction ds generalizing vs i with
 | nil=>cases e
 | cons c ds a =>
  cases h with
  | cons g r =>
   cases i with
   | zero=>cases e;exact⟨_,rfl,g⟩
   | succ i=>exact a r (i:=i) e
theorem Reps.getV {ds:List D}{vs:List V}{i:Nat}{v:V}(h:Reps K A H ds vs) (e:vs[i]?=some v):∃ d,ds[i]?=some d/\Rep K A H d v:=by
 induction ds generalizing vs i with
 | nil=>cases h;cases e
 | cons c ds a =>
  cases h with
  | cons g r =>
   cases i with
   | zero=>cases e;exact⟨_,rfl,g⟩
   | succ i=>exact a r (i:=i) e
theorem Reps.append (h:Reps K A H ds vs) (s:Reps K A H es us):Reps K A H (ds++es) (vs++us):=by
 induction ds generalizing vs with
 | nil=>cases h;exact s
 | cons d ds a=>cases h with | cons g r=>exact .cons g (a r)
theorem Reps.take:∀ {ds:List D}{vs:List V}(n:Nat),Reps K A H ds vs->Reps K A H (ds.take n) (vs.take n)
 | _,_,0,_=>by rw[List.take_zero,List.take_zero];exact .nil
 | _,_,n+1,.nil=>.nil
 | _,_,n+1,.cons h r=>.cons h (Reps.take n r)
theorem Reps.drop:∀ {ds:List D}{vs:List V}(n:Nat),Reps K A H ds vs->Reps K A H (ds.drop n) (vs.drop n)
 | _,_,0,h=>h
 | _,_,n+1,.nil=>.nil
 | _,_,n+1,.cons h r=>Reps.drop n r
theorem Reps.set (h:Rep K A H d v):∀ {ds:List D}{vs:List V}(i:Nat),Reps K A H ds vs->Reps K A H (ds.set i d) (vs.set i v)
 | _,_,_,.nil=>.nil
 | _,_,0,.cons _ r=>.cons h r
 | _,_,i+1,.cons g r=>.cons g (Reps.set h i r)
theorem Reps.erase:∀ {ds:List D}{vs:List V}(i:Nat),Reps K A H ds vs->Reps K A H (ds.eraseIdx i) (vs.eraseIdx i)
 | _,_,_,.nil=>.nil
 | _,_,0,.cons _ r=>r
 | _,_,i+1,.cons g r=>.cons g (Reps.erase i r)
theorem Reps.reverse (h:Reps K A H ds vs):Reps K A H ds.reverse vs.reverse:=by
 induction ds generalizing vs with
 | nil=>cases h;exact .nil
 | cons d ds a =>
  cases h with
  | cons g r=>rw[jY,jY];exact (a r).append (.cons g .nil)
theorem Reps.nil_iff (h:Reps K A H ds vs):vs=[]↔ds=[]:=by
 cases h<;>simp
theorem Rep.int_inv (h:Rep K A H (.int i) v):v = .int i:=by cases h;rfl
theorem Rep.str_inv (h:Rep K A H (.str i) v):v = .str i:=by cases h;rfl
theorem Rep.bl_inv (h:Rep K A H (.bl i) v):v = .bl i:=by cases h;rfl
theorem Rep.non_inv (h:Rep K A H .non v):v = .non:=by cases h;rfl
theorem Rep.raw_inv (h:Rep K A H (.raw u) v):v=u:=by cases h;rfl
theorem Rep.tup_inv (h:Rep K A H (.tup ds) v):∃ a vs,v = .ref a/\H a=some (.tup vs)/\Reps K A H ds vs:=by
 cases h with | tup h r=>exact⟨_,_,rfl,h,r⟩
theorem Rep.lst_inv (h:Rep K A H (.lst ds) v):∃ a vs,v = .ref a/\A a/\H a=some (.lst vs)/\Reps K A H ds vs:=by
 cases h with | lst b h r=>exact⟨_,_,rfl,b,h,r⟩
theorem Rep.con_inv (h:Rep K A H (.con ds) v):∃ a vs,v = .ref a/\C9 K a vs/\Reps K A H ds vs:=by
 cases h with | con h r=>exact⟨_,_,rfl,h,r⟩
theorem Rep.scr_inv (h:Rep K A H (.scr ds) v):∃ a vs,v = .ref a/\xW K H a vs/\Reps K A H ds vs:=by
 cases h with | scr h r=>exact⟨_,_,rfl,h,r⟩
theorem Rep.dK_inv (h:Rep K A H (.dK ds) v):∃ a kvs,v = .ref a/\A a/\H a=some (.dK kvs)/\ds.map (·.1)=kvs.map (·.1)/\Reps K A H (ds.map (·.2)) (kvs.map (·.2)):=by
 cases h with | dK b h e r=>exact⟨_,_,rfl,b,h,e,r⟩
theorem Rep.dT_inv (h:Rep K A H (.dT ds) v):∃ a kvs,v = .ref a/\A a/\Rd H a (.dT kvs)/\ds.map (·.1)=kvs.map (·.1)/\Reps K A H (ds.map (·.2)) (kvs.map (·.2)):=by
 cases h with | dT b h e r=>exact⟨_,_,rfl,b,h,e,r⟩
end
mutual
def imm:D->Bool
 | .tup xs=>xF xs
 | .scr xs=>xF xs
 | .con xs=>xF xs
 | .lst _=>false
 | .dK _=>false
 | .dT _=>false
 | _=>true
def xF:List D->Bool
 | []=>true
 | d::ds=>imm d&&xF ds
end
section
variable {K:mC}
theorem Rep.imm (h:Rep K A H d v):imm d=true->Rep K A' H d v :=
 Rep.rec (motive_1:=λd v _=>L2.imm d=true->Rep K A' H d v) (motive_2:=λa c _=>xF a=true->Reps K A' H a c) (λ_=>.non) (λb _=>.bl b) (λi _=>.int i) (λx _=>.str x) (λv _=>.raw v) (λh _ r e=>.tup h (r e)) (λh _ r e=>.con h (r e))
  (λ_ _ _ _ e=>Bool.noConfusion (show false=true from e)) (λh _ r e=>.scr h (r e)) (λ_ _ _ _ _ e=>Bool.noConfusion (show false=true from e)) (λ_ _ _ _ _ e=>Bool.noConfusion (show false=true from e)) (λ_=>.nil) (λ_ _ h r e=>.cons (h (jC.mp e).1) (r (jC.mp e).2)) h
theorem Reps.imm (h:Reps K A H ds vs) (e:xF ds=true):Reps K A' H ds vs:=by
 induction ds generalizing vs with
 | nil=>cases h;exact .nil
 | cons d ds a=>cases h with | cons g r=>exact .cons (g.imm (jC.mp e).1) (a r (jC.mp e).2)
end
end L2
namespace Lw
open PySem L2
structure DeckAt (H:Hp) (d c:Addr):Prop where
 ex:∃ (ns:List Int) (p:Int),H d=some (.lst [.ref c,.int p])/\H c=some (.lst (ns.map V.int))/\0<ns.length/\ns.length<=100
def nE (d c:Addr) (H H':Hp):Prop:=∀ b o,H b=some o->b≠d->b≠c->H' b=some o
theorem nE.trans (a:nE d c H H1) (b:nE d c H1 H2):nE d c H H2:=λx o e g f=>b x o (a x o e g f) g f
theorem nE.new (h:H p=none):nE d c H (upd H p o):=λb u e _ _=>by rw[mO (nO e h)];exact e
theorem DeckAt.ne (D:DeckAt H d c):d≠c:=by
 obtain⟨f,p,h,b,g,_⟩:=D.ex;intro e;subst e;rw[h] at b;injection b with b;injection b with b;cases f with
 | nil=>simp at g
 | cons a r=>simp at b
theorem DeckAt.upd_other (D:DeckAt H d c) (hd:p≠d) (hc:p≠c):DeckAt (upd H p o) d c:=by
 obtain⟨a,q,g,f,e,b⟩:=D.ex;exact⟨a,q,by rw[mO hd.symm];exact g,by rw[mO hc.symm];exact f,e,b⟩
theorem DeckAt.ned (D:DeckAt H d c) (h:H p=none):p≠d/\p≠c:=by
 obtain⟨e,q,b,a,_⟩:=D.ex;exact⟨(nO b h).symm,(nO a h).symm⟩
theorem DeckAt.new (D:DeckAt H d c) (h:H p=none):DeckAt (upd H p o) d c:=D.upd_other (D.ned h).1 (D.ned h).2
end Lw
namespace L2
open PySem PySem.Spec PyProof.Rows Lw
inductive Sl where
 | no | val (d:D) | own (d:D)
abbrev oK:=List (Sl×Option V)
def Dk (dk:List Addr) (H:Hp):Prop:=dk=[]\/∃ d c,dk=[d,c]/\DeckAt H d c
theorem Dk.some (h:Dk dk H) (ha:a∈dk):∃ xs,H a=some (.lst xs):=by
 rcases h with rfl | ⟨d,c,rfl,h⟩
 ·cases ha
 ·obtain⟨f,p,e,b,_⟩:=h.ex;rcases aL.mp ha with rfl | ha
  ·exact⟨_,e⟩
  ·rcases aL.mp ha with rfl | ha
   ·exact⟨_,b⟩
   ·cases ha
theorem Dk.keep (h:Dk dk H) (k:∀ a∈dk,H' a=H a):Dk dk H':=by
 rcases h with rfl | ⟨d,c,rfl,h⟩
 ·exact .inl rfl
 ·refine .inr ⟨d,c,rfl,?_⟩;obtain⟨b,p,g,f,e⟩:=h.ex;exact⟨b,p,by rw[k d (by simp)];exact g,by rw[k c (by simp)];exact f,e⟩
theorem Dk.upd (h:Dk dk H) (hp:p∉dk):Dk dk (upd H p o):=h.keep λa b=>mO λz=>hp (z▸b)
def xK:Sl×Option V->Option Addr
 | (.own _,some (.ref a))=>some a
 | _=>none
def mD (L:oK):List Addr:=L.filterMap xK
structure Bs where
 dk:List Addr
 A0:Addr->Prop
 H0:Hp
def Al (B:Bs) (R:List Addr) (a:Addr):Prop:=a∉B.dk/\a∉R/\(B.A0 a\/B.H0 a=none)
def qA (K:mC) (A:Addr->Prop) (H:Hp) (a:Addr):D->Prop
 | .lst ds=>∃ vs,H a=some (.lst vs)/\Reps K A H ds vs
 | .dK ds=>∃ kvs,H a=some (.dK kvs)/\ds.map (·.1)=kvs.map (·.1)/\Reps K A H (ds.map (·.2)) (kvs.map (·.2))
 | .dT ds=>∃ kvs,H a=some (.dT kvs)/\ds.map (·.1)=kvs.map (·.1)/\Reps K A H (ds.map (·.2)) (kvs.map (·.2))
 | _=>False
def tD (K:mC) (A:Addr->Prop) (H:Hp):Sl->Option V->Prop
 | .no,_=>True
 | .val d,x=>∃ v,x=some v/\Rep K A H d v
 | .own d,x=>∃ a,x=some (.ref a)/\qA K A H a d
structure DS (K:mC) (B:Bs) (L:oK) (H:Hp):Prop where
 fr:∀ b o,B.H0 b=some o->b∉B.dk->H b=some o
 dk:Dk B.dk H
 nd:(mD L).Nodup
 new:∀ a∈mD L,B.H0 a=none/\a∉B.dk
 ok:∀ p∈L,tD K (Al B (mD L)) H p.1 p.2
section
variable {K:mC}{L2:oK}
theorem qA.mono (k:Kp A A' H H') (ha:∀ o,H a=some o->H' a=some o):∀ {d:D},qA K A H a d->qA K A' H' a d
 | .lst _,⟨b,h,r⟩=>⟨b,ha _ h,r.mono k⟩
 | .dK _,⟨b,h,e,r⟩=>⟨b,ha _ h,e,r.mono k⟩
 | .dT _,⟨b,h,e,r⟩=>⟨b,ha _ h,e,r.mono k⟩
theorem qA.some:∀ {d:D},qA K A H a d->∃ o,H a=some o/\Eo o=false
 | .lst _,⟨b,h,r⟩=>⟨_,h,rfl⟩
 | .dK _,⟨b,h,e,r⟩=>⟨_,h,rfl⟩
 | .dT _,⟨b,h,e,r⟩=>⟨_,h,rfl⟩
theorem qA.rep (hA:∀ b,A b->A' b) (ha:A' a):∀ {d:D},qA K A H a d->Rep K A' H d (.ref a)
 | .lst _,⟨c,h,r⟩=>.lst ha h (r.mono (.all hA))
 | .dK _,⟨c,h,e,r⟩=>.dK ha h e (r.mono (.all hA))
 | .dT _,⟨c,h,e,r⟩=>.dT ha (.inl h) e (r.mono (.all hA))
theorem tD.mono (k:Kp A A' H H') (h:tD K A H s y) (hr:∀ a,xK (s,y)=some a->∀ o,H a=some o->H' a=some o):tD K A' H' s y:=by
 cases s with
 | no=>trivial
 | val d=>obtain⟨v,e,r⟩:=h;exact⟨v,e,r.mono k⟩
 | own d=>obtain⟨a,rfl,r⟩:=h;exact⟨a,rfl,r.mono k (hr a rfl)⟩
theorem rP:mD (L1++L2)=mD L1++mD L2:=List.filterMap_append
theorem uR:a∈mD L↔∃ p∈L,xK p=some a:=lC
theorem sK:mD (L1++x::L2)=mD L1++((xK x).toList++mD L2):=by
 unfold mD;rw[List.filterMap_append,List.filterMap_cons];cases xK x<;>rfl
theorem DS.live (h:DS K B L H) (ha:a∈mD L):∃ o,H a=some o/\Eo o=false:=by
 obtain⟨p,c,e⟩:=uR.mp ha;have:=h.ok p c;obtain⟨s,y⟩:=p;cases s with
 | no=>cases e
 | val d=>cases e
 | own d =>
  obtain⟨b,rfl,r⟩:=this;cases e;exact r.some
theorem DS.drop (h:DS K B (L1++x::L2) H):DS K B (L1++L2) H:=by
 have e:=sK (L1:=L1) (x:=x) (L2:=L2);have f:∀ a,a∈mD (L1++L2)->a∈mD (L1++x::L2):=λa c=>by
  rw[rP] at c;rw[e];simp only[aR] at c ⊢;rcases c with q | q
  ·exact .inl q
  ·exact .inr (.inr q)
 refine⟨h.fr,h.dk,?_,λa c=>h.new a (f a c),λp d=>?_⟩
 ·have n:=h.nd;rw[e] at n;rw[rP];obtain⟨j,i,g⟩:=bK.mp n;exact bK.mpr ⟨j,(bK.mp i).2.1,λa c b k=>g a c b (aN _ k)⟩
 ·refine (h.ok p (by simp only[aR,aL] at d ⊢;rcases d with q | q;exact .inl q;exact .inr (.inr q))).mono (.all λa z=>⟨z.1,λq=>z.2.1 (f a q),z.2.2⟩) (λ_ _ _ q=>q)
theorem DS.at (h:DS K B (L1++x::L2) H):tD K (Al B (mD (L1++x::L2))) H x.1 x.2:=h.ok x (aN _ aK)
theorem DS.valAt (h:DS K B (L1++(.val d,some v)::L2) H):Rep K (Al B (mD (L1++L2))) H d v:=by
 obtain⟨u,e,r⟩:=h.at;cases e;have:mD (L1++(Sl.val d,some v)::L2)=mD (L1++L2):=by rw[sK,rP];rfl
 rw[this] at r;exact r
theorem DS.push (h:DS K B (L1++L2) H) (r:Rep K (Al B (mD (L1++L2))) H d v):DS K B (L1++(.val d,some v)::L2) H:=by
 have e:mD (L1++(Sl.val d,some v)::L2)=mD (L1++L2):=by rw[sK,rP];rfl
 refine⟨h.fr,h.dk,by rw[e];exact h.nd,by rw[e];exact h.new,λp a=>?_⟩;rw[e];simp only[aR,aL] at a;rcases a with q | q | q
 ·exact h.ok p (bC _ q)
 ·subst q;exact⟨v,rfl,r⟩
 ·exact h.ok p (aN _ q)
theorem DS.pushN (h:DS K B (L1++L2) H) (y:Option V):DS K B (L1++(.no,y)::L2) H:=by
 have e:mD (L1++(Sl.no,y)::L2)=mD (L1++L2):=by rw[sK,rP];rfl
 refine⟨h.fr,h.dk,by rw[e];exact h.nd,by rw[e];exact h.new,λp a=>?_⟩;rw[e];simp only[aR,aL] at a;rcases a with q | q | q
 ·exact h.ok p (bC _ q)
 ·subst q;trivial
 ·exact h.ok p (aN _ q)
theorem DS.grow (h:DS K B L H) (s:qP H H') (dk:Dk B.dk H'):DS K B L H' :=
 ⟨λb o e n=>s b o (h.fr b o e n),dk,h.nd,h.new,λp a=>(h.ok p a).mono (.same s λ_ z=>z) (λ_ _ o q=>s _ o q)⟩
theorem DS.free (h:DS K B L H) (hp:H a=none):B.H0 a=none/\a∉B.dk/\a∉mD L:=by
 have n:a∉B.dk:=λz=>by obtain⟨b,e⟩:=h.dk.some z;rw[e] at hp;cases hp
 refine⟨?_,n,λz=>by obtain⟨o,e,_⟩:=h.live z;rw[e] at hp;cases hp⟩;cases e:B.H0 a with
 | none=>rfl
 | some o=>rw[h.fr a o e n] at hp;cases hp
theorem DS.laid (h:DS K B L H) (hp:H a=none):DS K B L (upd H a o) :=
 h.grow (λb u e=>by rw[mO (nO e hp)];exact e) (h.dk.upd (h.free hp).2.1)
theorem DS.tup (h:DS K B (L1++L2) H){ds:List D}{vs:List V}(hp:H a=none) (r:Reps K (Al B (mD (L1++L2))) H ds vs):DS K B (L1++(.val (.tup ds),some (.ref a))::L2) (upd H a (.tup vs)) :=
 (h.laid hp).push (.tup mT (r.mono (.laid hp λ_ z _=>z)))
theorem DS.make (h:DS K B (L1++L2) H) (hp:H a=none) (r:∀ A',Kp (Al B (mD (L1++L2))) A' H (upd H a o)->qA K A' (upd H a o) a d):DS K B (L1++(.own d,some (.ref a))::L2) (upd H a o):=by
 obtain⟨f1,f2,i⟩:=h.free hp;have e:mD (L1++(Sl.own d,some (.ref a))::L2)=mD L1++a::mD L2:=sK;have k:∀ b,b∈mD L1++a::mD L2↔b=a\/b∈mD (L1++L2):=λb=>by
  rw[rP];simp only[aR,aL];constructor
  ·rintro (q | q | q)
   ·exact .inr (.inl q)
   ·exact .inl q
   ·exact .inr (.inr q)
  ·rintro (q | q | q)
   ·exact .inr (.inl q)
   ·exact .inl q
   ·exact .inr (.inr q)
 have j:Kp (Al B (mD (L1++L2))) (Al B (mD L1++a::mD L2)) H (upd H a o):=.laid hp λb z n=>⟨z.1,λq=>(k b).mp q |>.elim n z.2.1,z.2.2⟩
 refine⟨λb u q n=>by rw[mO (nO (h.fr b u q n) hp)];exact h.fr b u q n,h.dk.upd f2,?_,λb g=>?_,λp f=>?_⟩
 ·rw[e];have n:=h.nd;rw[rP] at n i;obtain⟨t,m,l⟩:=bK.mp n;refine bK.mpr ⟨t,cH.mpr ⟨λz=>i (aN _ z),m⟩,λb g c v=>?_⟩;rcases aL.mp v with q | q
  ·intro z;subst z;subst q;exact i (bC _ g)
  ·exact l b g c q
 ·rw[e] at g;rcases (k b).mp g with q | q
  ·subst q;exact⟨f1,f2⟩
  ·exact h.new b q
 ·rw[e];simp only[aR,aL] at f;have old:∀ p∈L1++L2,tD K (Al B (mD L1++a::mD L2)) (upd H a o) p.1 p.2:=λp f=>(h.ok p f).mono j λb g w q=>by rw[mO (nO q hp)];exact q
  rcases f with q | q | q
  ·exact old p (bC _ q)
  ·subst q;exact⟨a,rfl,r _ j⟩
  ·exact old p (aN _ q)
theorem DS.freeze (h:DS K B (L1++(.own d,some v)::L2) H):DS K B (L1++(.val d,some v)::L2) H:=by
 obtain⟨a,e,r⟩:=h.at;cases e;have c:mD (L1++(Sl.own d,some (V.ref a))::L2)=mD L1++a::mD L2:=sK;have hd:=h.drop;have f:=h.new a (by rw[c];simp);refine hd.push (r.rep (λb z=>⟨z.1,λq=>z.2.1 ?_,z.2.2⟩) ⟨f.2,λq=>?_,.inr f.1⟩)
 ·rw[c];rw[rP] at q;simp only[aR,aL] at q ⊢;rcases q with q | q
  ·exact .inl q
  ·exact .inr (.inr q)
 ·have n:=h.nd;rw[c] at n;rw[rP] at q;obtain⟨j,i,g⟩:=bK.mp n;rcases aR.mp q with q | q
  ·exact g a q a aK rfl
  ·exact (cH.mp i).1 q
theorem DS.write (h:DS K B (L1++(.own d,some (.ref a))::L2) H) (r:∀ A',Kp (Al B (mD L1++a::mD L2)) A' H (upd H a o)->qA K A' (upd H a o) a d'):DS K B (L1++(.own d',some (.ref a))::L2) (upd H a o):=by
 have e:∀ d,mD (L1++(Sl.own d,some (V.ref a))::L2)=mD L1++a::mD L2:=λd=>sK
 have g:=h.new a (by rw[e];simp);obtain⟨u,x,k⟩:=h.live (a:=a) (by rw[e];simp);have i:Kp (Al B (mD L1++a::mD L2)) (Al B (mD L1++a::mD L2)) H (upd H a o):=.write x k λz=>z.2.1 (by simp)
 have n:=h.nd;rw[e] at n;have l:∀ b,b∈mD L1\/b∈mD L2->b≠a:=λb c z=>by
  subst z;obtain⟨y,v,t⟩:=bK.mp n;rcases c with c | c
  ·exact t b c b aK rfl
  ·exact (cH.mp v).1 c
 refine⟨λb w q m=>?_,h.dk.upd g.2,by rw[e];exact n,λb c=>h.new b (by rw[e] at c ⊢;exact c),λp f=>?_⟩
 ·have:b≠a:=λz=>by subst z;rw[g.1] at q;cases q
  rw[mO this];exact h.fr b w q m
 ·rw[e];have old:∀ p,p∈L1\/p∈L2->tD K (Al B (mD L1++a::mD L2)) (upd H a o) p.1 p.2:=λp j=>by
   have:=h.ok p (by simp only[aR,aL];rcases j with q | q;exact .inl q;exact .inr (.inr q));rw[e] at this;refine this.mono i λb c w q=>?_
   rw[mO (l b ?_)]
   ·exact q
   ·rcases j with z | z
    ·exact .inl (uR.mpr ⟨p,z,c⟩)
    ·exact .inr (uR.mpr ⟨p,z,c⟩)
  simp only[aR,aL] at f;rcases f with q | q | q
  ·exact old p (.inl q)
  ·subst q;exact⟨a,rfl,r _ i⟩
  ·exact old p (.inr q)
theorem DS.ownAt (h:DS K B (L1++(.own d,some v)::L2) H):∃ a,v = .ref a/\qA K (Al B (mD L1++a::mD L2)) H a d:=by
 obtain⟨a,e,r⟩:=h.at;cases e;rw[show mD (L1++(Sl.own d,some (V.ref a))::L2)=mD L1++a::mD L2 from sK] at r;exact⟨a,rfl,r⟩
theorem DS.perm (h:DS K B L H) (p:L.Perm M):DS K B M H:=by
 have e:(mD L).Perm (mD M):=p.filterMap xK;refine⟨h.fr,h.dk,e.nodup_iff.mp h.nd,λa c=>h.new a (e.mem_iff.mpr c),λq b=>(h.ok q (p.mem_iff.mpr b)).mono (.all λa z=>⟨z.1,λw=>z.2.1 (e.mem_iff.mpr w),z.2.2⟩) λ_ _ _ w=>w⟩
end
section
theorem vU {ρ:List Sl}{σ:St}(hl:ρ.length=σ.length){i:Nat}{s:Sl}(h:ρ[i]?=some s):∃ l1 y l2,σ[i]?=some y/\l1.length=i/\ρ.zip σ=l1++(s,y)::l2/\∀ s' y',(ρ.set i s').zip (σ.set i y')=l1++(s',y')::l2:=by
 induction ρ generalizing σ i with
 | nil=>simp at h
 | cons r ρ a =>
  cases σ with
  | nil=>simp at hl
  | cons z σ =>
   cases i with
   | zero=>simp at h;subst h;exact⟨[],z,ρ.zip σ,rfl,rfl,rfl,λ_ _=>rfl⟩
   | succ i =>
    obtain⟨l1,y,l2,e,d,c,b⟩:=a (σ:=σ) (by simpa using hl) (i:=i) (by simpa using h);exact⟨(r,z)::l1,y,l2,by simpa using e,by simp[d],by simp[c],λs' y'=>by simp[b]⟩
theorem zY {σ:St}{i:Nat}{y:Option V}(h:σ[i]?=some y):σ.set i y=σ:=by
 obtain⟨a,rfl⟩:=aU.mp h;exact List.set_getElem_self a
end
abbrev nI:=List Addr->List Sl->(Sl->List Sl->Prop)->Prop
abbrev sO:=List Addr->List Sl->(Bool->List Sl->Prop)->Prop
def dE (K:mC) (τ:nI):TE:=λσ H Q=>∃ (B:Bs) (ρ:List Sl) (T:oK) (Φ:Sl->List Sl->Prop),ρ.length=σ.length/\DS K B (ρ.zip σ++T) H/\τ B.dk ρ Φ /\
 ∀ r ρ' v H',ρ'.length=σ.length->DS K B (ρ'.zip σ++(r,some v)::T) H'->Φ r ρ'->Q v H'
def uM (K:mC) (τ:sO):TT:=λσ H Q=>∃ (B:Bs) (ρ:List Sl) (T:oK) (Φ:Bool->List Sl->Prop),ρ.length=σ.length/\DS K B (ρ.zip σ++T) H/\τ B.dk ρ Φ /\
 ∀ b ρ' H',ρ'.length=σ.length->DS K B (ρ'.zip σ++T) H'->Φ b ρ'->Q b H'
theorem dE.elim {K:mC}{P:Prop}(h:dE K τ σ H Q) (f:∀ (B:Bs) (ρ:List Sl) (T:oK) (Φ:Sl->List Sl->Prop),ρ.length=σ.length->DS K B (ρ.zip σ++T) H->τ B.dk ρ Φ ->(∀ r ρ' v H',ρ'.length=σ.length->DS K B (ρ'.zip σ++(r,some v)::T) H'->Φ r ρ'->Q v H')->P):P:=by
 obtain⟨B,ρ,T,Φ,b,hd,a,k⟩:=h;exact f B ρ T Φ b hd a k
theorem uM.elim {K:mC}{P:Prop}(h:uM K τ σ H Q) (f:∀ (B:Bs) (ρ:List Sl) (T:oK) (Φ:Bool->List Sl->Prop),ρ.length=σ.length->DS K B (ρ.zip σ++T) H->τ B.dk ρ Φ ->(∀ b ρ' H',ρ'.length=σ.length->DS K B (ρ'.zip σ++T) H'->Φ b ρ'->Q b H')->P):P:=by
 obtain⟨B,ρ,T,Φ,c,hd,a,k⟩:=h;exact f B ρ T Φ c hd a k
abbrev PD (X:Cx) (e:Expr) (τ:nI):Prop:=PE X e (dE X.K τ)
abbrev tV (X:Cx) (e:Expr) (τ:sO):Prop:=PT X e (uM X.K τ)
abbrev zZ (X:Cx) (e:Expr) (τ:sO):Prop:=PW X e (uM X.K τ)
theorem PE.mono {X:Cx}(h:PE X e t) (k:∀ σ H Q,t' σ H Q->t σ H Q):PE X e t':=λa s σ H Q I q=>h a s σ H Q I (k σ H Q q)
theorem PT.mono {X:Cx}(h:PT X e t) (k:∀ σ H Q,t' σ H Q->t σ H Q):PT X e t':=λa s σ H Q I q=>h a s σ H Q I (k σ H Q q)
theorem PW.mono {X:Cx}(h:PW X e t) (k:∀ σ H Q,t' σ H Q->t σ H Q):PW X e t':=λb a s σ H Q I q=>h b a s σ H Q I (k σ H Q q)
def sd:Sl->Option D
 | .val d=>some d
 | .own d=>some d
 | .no=>none
section
variable {K:mC}{L2:oK}
theorem Hg:mD (L1++(Sl.val d,y)::L2)=mD (L1++L2):=by rw[sK,rP];rfl
theorem DS.thaw (h:DS K B (L1++(r,some v)::L2) H) (e:sd r=some d):DS K B (L1++(.val d,some v)::L2) H:=by
 cases r with
 | no=>cases e
 | val c=>cases e;exact h
 | own c=>cases e;exact h.freeze
theorem DS.one (h:DS K B (L++(r,some v)::T) H) (e:sd r=some d):DS K B (L++T) H/\Rep K (Al B (mD (L++T))) H d v:=by
 have a:=h.thaw e;exact⟨a.drop,a.valAt⟩
theorem DS.two (h:DS K B (L++(r',some u)::(r,some v)::T) H) (e1:sd r=some d) (e2:sd r'=some e):DS K B (L++T) H/\Rep K (Al B (mD (L++T))) H d v/\Rep K (Al B (mD (L++T))) H e u:=by
 have i:=h.thaw e2;have g:DS K B ((L++[(Sl.val e,some u)])++(r,some v)::T) H:=by simpa using i
 have f:=g.thaw e1;have c:DS K B (L++(Sl.val e,some u)::(.val d,some v)::T) H:=by simpa using f
 have b:=c.valAt;have a:=f.valAt;have k:mD (L++(Sl.val d,some v)::T)=mD (L++T):=by rw[sK,rP];rfl
 have j:mD ((L++[(Sl.val e,some u)])++T)=mD (L++T):=by
  rw[bJ];show mD (L++(Sl.val e,some u)::T)=_;rw[sK,rP];rfl
 rw[k] at b;rw[j] at a;exact⟨c.drop.drop,a,b⟩
theorem DS.mid (h:DS K B (x::(L++T)) H):DS K B (L++x::T) H:=h.perm eW.symm
theorem DS.front (h:DS K B (L++x::T) H):DS K B (x::(L++T)) H:=h.perm eW
theorem DS.pushF (h:DS K B L H) (r:Rep K (Al B (mD L)) H d v):DS K B ((.val d,some v)::L) H:=DS.push (L1:=[]) h r
theorem DS.tupF (h:DS K B L H) (hp:H a=none) (r:Reps K (Al B (mD L)) H ds vs):DS K B ((.val (.tup ds),some (.ref a))::L) (upd H a (.tup vs)):=DS.tup (L1:=[]) h hp r
theorem DS.lstF (h:DS K B L H) (hp:H a=none) (r:Reps K (Al B (mD L)) H ds vs):DS K B ((.own (.lst ds),some (.ref a))::L) (upd H a (.lst vs)) :=
 DS.make (L1:=[]) h hp λb k=>⟨vs,mT,r.mono k⟩
theorem DS.dKF (h:DS K B L H) (hp:H a=none) (e:ds.map (·.1)=kvs.map (·.1)) (r:Reps K (Al B (mD L)) H (ds.map (·.2)) (kvs.map (·.2))):DS K B ((.own (.dK ds),some (.ref a))::L) (upd H a (.dK kvs)) :=
 DS.make (L1:=[]) h hp λb k=>⟨kvs,mT,e,r.mono k⟩
theorem DS.dTF (h:DS K B L H) (hp:H a=none) (e:ds.map (·.1)=kvs.map (·.1)) (r:Reps K (Al B (mD L)) H (ds.map (·.2)) (kvs.map (·.2))):DS K B ((.own (.dT ds),some (.ref a))::L) (upd H a (.dT kvs)) :=
 DS.make (L1:=[]) h hp λb k=>⟨kvs,mT,e,r.mono k⟩
end
def oB (K:mC) (A:Addr->Prop) (H:Hp):D->V->Prop
 | .lst ds,v=>∃ a vs,v = .ref a/\H a=some (.lst vs)/\Reps K A H ds vs
 | .dK ds,v=>∃ a kvs,v = .ref a/\H a=some (.dK kvs)/\ds.map (·.1)=kvs.map (·.1)/\Reps K A H (ds.map (·.2)) (kvs.map (·.2))
 | .dT ds,v=>∃ a kvs,v = .ref a/\Rd H a (.dT kvs)/\ds.map (·.1)=kvs.map (·.1)/\Reps K A H (ds.map (·.2)) (kvs.map (·.2))
 | .non,v=>Rep K A H .non v
 | .bl b,v=>Rep K A H (.bl b) v
 | .int b,v=>Rep K A H (.int b) v
 | .str b,v=>Rep K A H (.str b) v
 | .raw b,v=>Rep K A H (.raw b) v
 | .tup b,v=>Rep K A H (.tup b) v
 | .con b,v=>Rep K A H (.con b) v
 | .scr b,v=>Rep K A H (.scr b) v
section
variable {K:mC}
theorem Rep.peek (h:Rep K A H d v):oB K A H d v:=by
 cases h with
 | lst _ h r=>exact⟨_,_,rfl,h,r⟩
 | dK _ h e r=>exact⟨_,_,rfl,h,e,r⟩
 | dT _ h e r=>exact⟨_,_,rfl,h,e,r⟩
 | non=>exact .non
 | bl=>exact .bl _
 | int=>exact .int _
 | str=>exact .str _
 | raw=>exact .raw _
 | tup h r=>exact .tup h r
 | con h r=>exact .con h r
 | scr h r=>exact .scr h r
theorem qA.peek:∀ {d:D},qA K A H a d->oB K A H d (.ref a)
 | .lst _,⟨b,h,r⟩=>⟨_,b,rfl,h,r⟩
 | .dK _,⟨b,h,e,r⟩=>⟨_,b,rfl,h,e,r⟩
 | .dT _,⟨b,h,e,r⟩=>⟨_,b,rfl,.inl h,e,r⟩
theorem oB.lst_inv (h:oB K A H (.lst ds) v):∃ a vs,v = .ref a/\H a=some (.lst vs)/\Reps K A H ds vs:=h
theorem oB.dK_inv (h:oB K A H (.dK ds) v):∃ a kvs,v = .ref a/\H a=some (.dK kvs)/\ds.map (·.1)=kvs.map (·.1)/\Reps K A H (ds.map (·.2)) (kvs.map (·.2)):=h
theorem oB.dT_inv (h:oB K A H (.dT ds) v):∃ a kvs,v = .ref a/\Rd H a (.dT kvs)/\ds.map (·.1)=kvs.map (·.1)/\Reps K A H (ds.map (·.2)) (kvs.map (·.2)):=h
theorem oB.tup_inv (h:oB K A H (.tup ds) v):∃ a vs,v = .ref a/\H a=some (.tup vs)/\Reps K A H ds vs:=Rep.tup_inv h
theorem oB.con_inv (h:oB K A H (.con ds) v):∃ a vs,v = .ref a/\C9 K a vs/\Reps K A H ds vs:=Rep.con_inv h
theorem oB.scr_inv (h:oB K A H (.scr ds) v):∃ a vs,v = .ref a/\xW K H a vs/\Reps K A H ds vs:=Rep.scr_inv h
theorem oB.int_inv (h:oB K A H (.int i) v):v = .int i:=Rep.int_inv h
theorem oB.str_inv (h:oB K A H (.str i) v):v = .str i:=Rep.str_inv h
theorem oB.bl_inv (h:oB K A H (.bl i) v):v = .bl i:=Rep.bl_inv h
theorem oB.non_inv (h:oB K A H .non v):v = .non:=Rep.non_inv h
theorem oB.raw_inv (h:oB K A H (.raw u) v):v=u:=Rep.raw_inv h
def at? (ρ:List Sl) (i:Nat):Option D:=(ρ[i]?).bind sd
theorem DS.peek (hl:ρ.length=σ.length) (h:DS K B (ρ.zip σ++T) H) (e:at? ρ i=some d):∃ v,σ[i]?=some (some v)/\oB K (Al B (mD (ρ.zip σ++T))) H d v:=by
 unfold at? at e;cases f:ρ[i]? with
 | none=>rw[f] at e;cases e
 | some s =>
  rw[f] at e;obtain⟨l,y,k,j,_,g,_⟩:=vU hl f;have b:=h;rw[g] at b;have:=b.ok (s,y) (by simp);rw[← g] at this;cases s with
  | no=>cases e
  | val c=>cases e;obtain⟨v,rfl,r⟩:=this;exact⟨v,j,r.peek⟩
  | own c=>cases e;obtain⟨a,rfl,r⟩:=this;exact⟨_,j,r.peek⟩
end
def vd (i:Nat):nI:=λ_ ρ Φ=>match ρ[i]? with
 | some (.val d)=>Φ (.val d) ρ
 | some (.own d)=>Φ (.val d) (ρ.set i (.val d))
 | _=>False
def cd (d:D):nI:=λ_ ρ Φ=>Φ (.val d) ρ
section
variable {X:Cx}
theorem eA (i:Nat) (h:PE X (.Name x pos) (qM i)):PD X (.Name x pos) (vd i):=h.mono λt H Q o=>o.elim λB l T E p hd c k=>by
 unfold vd at c;cases e:l[i]? with
 | none=>rw[e] at c;exact c.elim
 | some s =>
  rw[e] at c;obtain⟨g,y,f,m,_,u,j⟩:=vU p e;have b:DS X.K B (g++(s,y)::(f++T)) H:=by rw[u] at hd;simpa using hd
  cases s with
  | no=>exact c.elim
  | val d =>
   obtain⟨v,rfl,_⟩:=b.at;refine⟨v,m,k _ _ v H p ?_ c⟩;refine hd.push ?_;have:=b.valAt;rw[u];have r:mD ((g++(Sl.val d,some v)::f)++T)=mD (g++(f++T)):=by
    rw[bJ,cS,Hg]
   rw[r];exact this
  | own d =>
   obtain⟨a,rfl,_⟩:=b.at;have C:=b.freeze;have z:(l.set i (.val d)).zip t=g++(.val d,some (.ref a))::f:=by
    have:=j (.val d) (some (.ref a));rw[zY m] at this;exact this
   have q:DS X.K B ((l.set i (.val d)).zip t++T) H:=by rw[z];simpa using C
   refine⟨.ref a,m,k _ _ _ H (by rw[bT];exact p) ?_ c⟩;refine q.push ?_;have:=C.valAt;rw[z];have r:mD ((g++(Sl.val d,some (V.ref a))::f)++T)=mD (g++(f++T)):=by
    rw[bJ,cS,Hg]
   rw[r];exact this
theorem Dp (h:PE X e (tC v)) (r:∀ K A H,Rep K A H d v):PD X e (cd d):=h.mono λg H Q a=>a.elim λB b T i f hd c k=>k _ b v H f (hd.push (r _ _ _)) c
theorem kD:PD X (.Constant (.int i) j pos) (cd (.int i)):=Dp oA λ_ _ _=>.int i
theorem mS:PD X (.Constant (.str x) j pos) (cd (.str x)):=Dp vS λ_ _ _=>.str x
theorem vI:PD X (.Constant (.bool x) j pos) (cd (.bl x)):=Dp JA λ_ _ _=>.bl x
theorem Hd:PD X (.Constant .none j pos) (cd .non):=Dp CS λ_ _ _=>.non
abbrev O2:=D->D->(Sl->Prop)->Prop
def pX (K:mC) (r:R2) (f:O2):Prop:=∀ (B:Bs) (L:oK) (H:Hp) (d e:D) (x y:V) (Φ:Sl->Prop) (Q:VK),DS K B L H->oB K (Al B (mD L)) H d x->oB K (Al B (mD L)) H e y->f d e Φ ->
 (∀ s v H',Φ s->DS K B ((s,some v)::L) H'->Q v H')->r x y H Q
def d2 (f:O2) (ta tb:nI):nI:=λdk ρ Φ=>ta dk ρ λra ρ1=>tb dk ρ1 λrb ρ2=>match sd ra,sd rb with
 | some d,some e=>f d e λr=>Φ r ρ2
 | _,_=>False
theorem Ig (hf:pX X.K r f) (h:dE X.K (d2 f ta tb) σ H Q):dE X.K ta σ H λx H1=>dE X.K tb σ H1 λy H2=>r x y H2 Q:=by
 obtain⟨B,m,T,M,F,hd,C,k⟩:=h;refine⟨B,m,T,_,F,hd,C,λl g x H1 z d1 I=>⟨B,g,(l,some x)::T,_,z,d1,I,λo c y H2 u d2 a=>?_⟩⟩;cases b:sd l with
 | none=>rw[b] at a;exact a.elim
 | some d =>
  cases j:sd o with
  | none=>rw[b,j] at a;exact a.elim
  | some e =>
   rw[b,j] at a;obtain⟨t,q,p⟩:=d2.two b j;exact hf B _ H2 d e x y _ Q t q.peek p.peek a λs v L E i=>k s c v L u i.mid E
def xB (f:O2) (i:Nat) (tb:nI):nI:=λdk ρ Φ=>(at? ρ i).isSome=true/\tb dk ρ λrb ρ2=>match at? ρ2 i,sd rb with
 | some d,some e=>f d e λr=>Φ r ρ2
 | _,_=>False
def Gx (f:O2) (ta:nI) (i:Nat):nI:=λdk ρ Φ=>ta dk ρ λra ρ1=>match sd ra,at? ρ1 i with
 | some d,some e=>f d e λr=>Φ r ρ1
 | _,_=>False
theorem Hb (hf:pX X.K r f) (h:dE X.K (xB f i tb) σ H Q):qM i σ H λx H1=>dE X.K tb σ H1 λy H2=>r x y H2 Q:=by
 obtain⟨B,t,T,N,q,hd,⟨I,E⟩,k⟩:=h;obtain⟨S,L⟩:=cR.mp I;obtain⟨x,p,_⟩:=hd.peek q L;refine⟨x,p,B,t,T,_,q,hd,E,λu b y H2 o d2 a=>?_⟩;cases g:at? b i with
 | none=>rw[g] at a;exact a.elim
 | some d =>
  cases l:sd u with
  | none=>rw[g,l] at a;exact a.elim
  | some e =>
   rw[g,l] at a;obtain⟨m,z⟩:=d2.one l;obtain⟨O,c,C⟩:=m.peek o g;rw[p] at c;cases c;exact hf B _ H2 d e x y _ Q m C z.peek a λs v M F j=>k s b v M o j.mid F
theorem Vz (hf:pX X.K r f) (h:dE X.K (Gx f ta i) σ H Q):dE X.K ta σ H λx H1=>qM i σ H1 λy H2=>r x y H2 Q:=by
 obtain⟨B,o,T,F,C,hd,u,k⟩:=h;refine⟨B,o,T,_,C,hd,u,λp b x H1 m d1 a=>?_⟩;cases c:sd p with
 | none=>rw[c] at a;exact a.elim
 | some d =>
  cases j:at? b i with
  | none=>rw[c,j] at a;exact a.elim
  | some e =>
   rw[c,j] at a;obtain⟨l,q⟩:=d1.one c;obtain⟨y,t,py⟩:=l.peek m j;exact⟨y,t,hf B _ H1 d e x y _ Q l q.peek py a λs v E z g=>k s b v E m g.mid z⟩
theorem pL (ho:nH X (binaryOp op) r) (hf:pX X.K r f) (ha:PE X a (qM i)) (hb:PD X b tb):PD X (.BinOp a op b pos) (xB f i tb):=(nW ho ha hb).mono λ_ _ _ h=>Hb hf h
theorem Be (ho:nH X (compareOp op) r) (hf:pX X.K r f) (ha:PE X a (qM i)) (hb:PD X b tb) (hm:behindInMarks op b=false:=by first | exact vZ _ | (with_unfolding_all rfl)):PD X (.Compare a [op] [b] pos) (xB f i tb) :=
 (M5 ho ha hb hm).mono λ_ _ _ h=>Hb hf h
theorem M4 (ho:nH X (compareOp op) r) (hf:pX X.K r f) (ha:PD X a ta) (hb:PE X b (qM i)) (hm:behindInMarks op b=false:=by first | exact vZ _ | (with_unfolding_all rfl)):PD X (.Compare a [op] [b] pos) (Gx f ta i) :=
 (M5 ho ha hb hm).mono λ_ _ _ h=>Vz hf h
theorem nZ (ho:nH X (binaryOp op) r) (hf:pX X.K r f) (ha:PD X a ta) (hb:PD X b tb):PD X (.BinOp a op b pos) (d2 f ta tb):=(nW ho ha hb).mono λ_ _ _ h=>Ig hf h
theorem Cp (ho:nH X (compareOp op) r) (hf:pX X.K r f) (ha:PD X a ta) (hb:PD X b tb) (hm:behindInMarks op b=false:=by first | exact vZ _ | (with_unfolding_all rfl)):PD X (.Compare a [op] [b] pos) (d2 f ta tb) :=
 (M5 ho ha hb hm).mono λ_ _ _ h=>Ig hf h
def A8 (t:nI):sO:=λdk ρ Φ=>t dk ρ λr ρ'=>match r with
 | .val (.bl b)=>Φ b ρ'
 | _=>False
theorem Kx (h:uM X.K (A8 t) σ H Q):dE X.K t σ H λx H'=>∃ k,x = .bl k/\Q k H':=by
 obtain⟨B,e,T,j,i,hd,g,k⟩:=h;refine⟨B,e,T,_,i,hd,g,λr c v H' f d1 a=>?_⟩;cases r with
 | no=>exact a.elim
 | own d=>exact a.elim
 | val d =>
  cases d with
  | bl b=>exact⟨b,d1.valAt.bl_inv,k b c H' f d1.drop a⟩
  | _=>exact a.elim
theorem qZ (ho:nH X (compareOp op) r) (hf:pX X.K r f) (ha:PE X a (qM i)) (hb:PD X b tb) (hm:behindInMarks op b=false:=by first | exact vZ _ | (with_unfolding_all rfl)):tV X (.Compare a [op] [b] pos) (A8 (xB f i tb)) :=
 (xA ho ha hb hm).mono λc H Q h=>Hb hf (Kx h)
theorem xY (ho:nH X (compareOp op) r) (hf:pX X.K r f) (ha:PD X a ta) (hb:PE X b (qM i)) (hm:behindInMarks op b=false:=by first | exact vZ _ | (with_unfolding_all rfl)):tV X (.Compare a [op] [b] pos) (A8 (Gx f ta i)) :=
 (xA ho ha hb hm).mono λc H Q h=>Vz hf (Kx h)
theorem C1 (ho:nH X (compareOp op) r) (hf:pX X.K r f) (ha:PD X a ta) (hb:PD X b tb) (hm:behindInMarks op b=false:=by first | exact vZ _ | (with_unfolding_all rfl)):tV X (.Compare a [op] [b] pos) (A8 (d2 f ta tb)) :=
 (xA ho ha hb hm).mono λc H Q h=>by
  have:=Kx h;exact Ig hf this
end
section
variable [DecidableEq κ]
def mZ (kvs:List (κ×D)) (k:κ):Option D:=(kvs.find? λkv=>decide (kv.1=k)).map (·.2)
def nR (kvs:List (κ×D)) (k:κ) (d:D):List (κ×D):=if kvs.any (λkv=>decide (kv.1=k)) then kvs.map (λkv=>if kv.1=k then (kv.1,d) else kv) else kvs++[(k,d)]
theorem L8:mZ ([]:List (κ×D)) k=none:=rfl
theorem wQ {k j:κ}{d:D}{r:List (κ×D)}:mZ ((j,d)::r) k=if j=k then some d else mZ r k:=by
 unfold mZ;rw[List.find?_cons];by_cases h:j=k<;>simp[h]
theorem Iz (k:κ):∀ kvs:List (κ×D),(kvs.any λkv=>decide (kv.1=k))=(mZ kvs k).isSome
 | []=>rfl
 | (j,d)::r=>by
  rw[wQ,eY,Iz k r];by_cases h:j=k<;>simp[h]
theorem V0 (kvs:List (κ×D)) (k j:κ) (d:D):mZ (nR kvs k d) j=if k=j then some d else mZ kvs j:=by
 unfold nR;rw[Iz];have a:∀ r:List (κ×D),mZ (r.map λc=>if c.1=k then (c.1,d) else c) j=if k=j then (mZ r j).map (λ_=>d) else mZ r j:=by
  intro r;induction r with
  | nil=>simp[L8]
  | cons p r b =>
   obtain⟨i,e⟩:=p;rw[aO];by_cases h:i=k
   ·subst h;simp only[iD,wQ,b];by_cases z:i=j<;>simp[z]
   ·simp only[h,gX,wQ,b];by_cases z:i=j
    ·subst z;simp[eC h]
    ·simp[z]
 have f:∀ r:List (κ×D),mZ r k=none->mZ (r++[(k,d)]) j=if k=j then some d else mZ r j:=by
  intro r;induction r with
  | nil=>intro _;rw[gI,wQ,L8]
  | cons p r b =>
   obtain⟨i,e⟩:=p;rw[wQ];by_cases h:i=k
   ·simp[h]
   ·rw[aM h];intro g;rw[cS,wQ,b g,wQ];by_cases z:i=j
    ·subst z;simp[eC h]
    ·simp[z]
 cases e:mZ kvs k with
 | none=>simp only[Option.isSome_none,eI,gX];exact f kvs e
 | some w =>
  simp only[lG,iD,a];by_cases z:k=j
  ·subst z;simp[e]
  ·simp[z]
theorem Oe (kvs:List (κ×D)) (k:κ) (d:D):(nR kvs k d).length<=kvs.length+1:=by
 unfold nR;split<;>simp
end
section
variable [DecidableEq κ] {K:mC}
theorem Fy:∀ {ds:List (κ×D)}{kvs:List (κ×V)},ds.map (·.1)=kvs.map (·.1)->Reps K A H (ds.map (·.2)) (kvs.map (·.2))->∀ k,(∀ d,mZ ds k=some d->∃ v,rX kvs k=some v/\Rep K A H d v)/\(mZ ds k=none->rX kvs k=none)
 | [],[],_,_,k=>⟨λd h=>by simp[L8] at h,λ_=>rfl⟩
 | [],_::_,e,_,_=>by simp at e
 | _::_,[],e,_,_=>by simp at e
 | (i,d)::ds,(j,v)::kvs,e,r,k=>by
  simp only[aO,iA] at e;obtain⟨c,b⟩:=e;subst c;cases r with
  | cons h r =>
   have a:=Fy b r k;rw[wQ];by_cases z:i=k
   ·rw[aP z,Do z];exact⟨λf q=>by cases q;exact⟨v,rfl,h⟩,λq=>by cases q⟩
   ·rw[aM z,B2 z];exact a
theorem G5 {ds:List (κ×D)}{kvs:List (κ×V)}(e:ds.map (·.1)=kvs.map (·.1)) (r:Reps K A H (ds.map (·.2)) (kvs.map (·.2))){k:κ}{d:D}{v:V}(h:Rep K A H d v) :
  (nR ds k d).map (·.1)=(pW kvs k v).map (·.1)/\Reps K A H ((nR ds k d).map (·.2)) ((pW kvs k v).map (·.2)):=by
 have m:∀ (ds:List (κ×D)) (kvs:List (κ×V)),ds.map (·.1)=kvs.map (·.1)->(ds.any λa=>decide (a.1=k))=kvs.any λa=>decide (a.1=k):=by
  intro ds;induction ds with
  | nil=>intro kvs e;cases kvs with
   | nil=>rfl
   | cons _ _=>simp at e
  | cons p ds b=>intro kvs e;cases kvs with
   | nil=>simp at e
   | cons q kvs =>
    simp only[aO,iA] at e;rw[eY,eY,b kvs e.2,e.1]
 have l:∀ (ds:List (κ×D)) (kvs:List (κ×V)),ds.map (·.1)=kvs.map (·.1)->Reps K A H (ds.map (·.2)) (kvs.map (·.2)) ->
   (ds.map λa=>if a.1=k then (a.1,d) else a).map (·.1)=(kvs.map λa=>if a.1=k then (a.1,v) else a).map (·.1) /\
   Reps K A H ((ds.map λa=>if a.1=k then (a.1,d) else a).map (·.2)) ((kvs.map λa=>if a.1=k then (a.1,v) else a).map (·.2)):=by
  intro ds;induction ds with
  | nil=>intro kvs e r;cases kvs with
   | nil=>exact⟨rfl,.nil⟩
   | cons _ _=>simp at e
  | cons p ds b=>intro kvs e r;cases kvs with
   | nil=>simp at e
   | cons q kvs =>
    simp only[aO,iA] at e;cases r with
    | cons g r =>
     obtain⟨f,c⟩:=b kvs e.2 r;obtain⟨i,t⟩:=p;obtain⟨j,v0⟩:=q;obtain⟨rfl,o⟩:=e;by_cases z:i=k
     ·simp only[aO,z,iD];exact⟨by rw[f],.cons h c⟩
     ·simp only[aO,z,gX];exact⟨by rw[f],.cons g c⟩
 unfold nR pW;rw[m ds kvs e];by_cases z:(kvs.any λa=>decide (a.1=k))=true
 ·rw[aP z,aP z];exact l ds kvs e r
 ·rw[aM z,aM z];simp only[aJ,aO,jZ];exact⟨by rw[e],r.append (.cons h .nil)⟩
end
section
variable {X:Cx}{K:mC}
def S3 (K:mC):R2:=λx y H Q=>∃ a b ys,x = .ref a/\y = .ref b/\nL K H a []/\nL K H b ys/\Q (.ref b) H
theorem DN:nH X (binaryOp .Add) (S3 X.K):=by
 intro i s M H x y v u Q I o m h;obtain⟨a,b,N,rfl,rfl,E,C,q⟩:=h;cases o;cases m;obtain⟨B,p,t,_⟩:=I.tuple E;obtain⟨j,O,r,_⟩:=I.tuple C;cases p;obtain⟨⟨U,F,S,sl⟩,k,l,n,hd⟩:=id t;obtain⟨⟨T,g,L,f⟩,c,e,z,d⟩:=id r;simp only at l hd e d;subst l hd e d;exact concat_meets ⟨_,k,rfl⟩ ⟨_,c,rfl⟩ noFill_tuple_add seq_tuple_add jX jR (jG _ _)
  (tuple_addW0 a b _ _ n z F g sl f (by simp)) ⟨k,c,⟨.ref b,H,I,rfl,q⟩⟩
def Um (K:mC):R2:=λx y H Q=>(tY λi j=>.int (i+j)) x y H Q\/(∃ i j,x = .str i/\y = .str j/\i.length+j.length<=sizeLine/\Q (.str (i++j)) H)\/Ps x y H Q\/Uv K x y H Q\/S3 K x y H Q
theorem nT:nH X (binaryOp .Add) (Um X.K):=xH.or (xO.or (Ct.or (QM.or DN)))
theorem zQ (h:n<=100000):n<=sizeLine:=bY h (by decide)
def ET:O2
 | .int i,.int j,Φ=>Φ (.val (.int (i+j)))
 | .str i,.str j,Φ=>i.length+j.length<=100000/\Φ (.val (.str (i++j)))
 | .lst xs,.lst ys,Φ=>xs.length+ys.length<=100000/\Φ (.own (.lst (xs++ys)))
 | .tup xs,.tup ys,Φ=>xs.length+ys.length<=100000/\Φ (.val (.tup (xs++ys)))
 | _,_,_=>False
theorem nU:pX K (Um K) ET:=by
 intro B L H d e x y u Q hd l j c k;cases d<;>first | exact False.elim c | skip<;>cases e<;>first | exact False.elim c | skip
 ·cases l;cases j;exact .inl ⟨_,_,rfl,rfl,k _ _ H c (hd.pushF (.int _))⟩
 ·cases l;cases j;exact .inr (.inl ⟨_,_,rfl,rfl,zQ c.1,k _ _ H c.2 (hd.pushF (.str _))⟩)
 ·obtain⟨a,f,rfl,o,i⟩:=l.tup_inv;obtain⟨b,g,rfl,m,h⟩:=j.tup_inv;have t:f.length+g.length<=100000:=by rw[← i.length,← h.length];exact c.1
  by_cases z:f=[]
  ·subst z;have:=i.nil_iff.mp rfl;subst this;exact .inr (.inr (.inr (.inr ⟨a,b,g,rfl,rfl,nL.of o,nL.of m,k _ _ H c.2 (hd.pushF j)⟩)))
  ·refine .inr (.inr (.inr (.inl ⟨a,b,f,g,rfl,rfl,nL.of o,nL.of m,z,zQ t,λq=>?_,λ_ p r=>k _ _ _ c.2 (hd.tupF r (i.append h))⟩)));subst q;have:=h.nil_iff.mp rfl;subst this;exact k _ _ H c.2 (by rw[dO];exact hd.pushF l)
 ·obtain⟨a,f,rfl,o,i⟩:=l.lst_inv;obtain⟨b,g,rfl,m,h⟩:=j.lst_inv;have t:f.length+g.length<=100000:=by rw[← i.length,← h.length];exact c.1
  exact .inr (.inr (.inl ⟨a,b,f,g,rfl,rfl,o,m,zQ t,λp r=>k _ _ _ c.2 (hd.lstF r (i.append h))⟩))
def fI (C:Int->Int->Prop) (g:Int->Int->D):O2
 | .int i,.int j,Φ=>C i j/\Φ (.val (g i j))
 | _,_,_=>False
theorem E6 (hC:∀ i j,C i j->C' i j) (hg:∀ A H i j,Rep K A H (g i j) (g' i j)):pX K (rI C' g') (fI C g):=by
 intro B L H d e x y f Q hd c b a k;cases d<;>first | exact False.elim a | skip<;>cases e<;>first | exact False.elim a | skip
 cases c;cases b;exact⟨_,_,rfl,rfl,hC _ _ a.1,k _ _ H a.2 (hd.pushF (hg _ _ _ _))⟩
def By (g:Int->Int->D):O2
 | .int i,.int j,Φ=>Φ (.val (g i j))
 | _,_,_=>False
theorem B4 (hg:∀ A H i j,Rep K A H (g i j) (g' i j)):pX K (tY g') (By g):=by
 intro B L H d e x y f Q hd c b a k;cases d<;>first | exact False.elim a | skip<;>cases e<;>first | exact False.elim a | skip
 cases c;cases b;exact⟨_,_,rfl,rfl,k _ _ H a (hd.pushF (hg _ _ _ _))⟩
abbrev RL:O2:=By λi j=>.int (i-j)
theorem Ay:pX K (tY λi j=>.int (i-j)) RL:=B4 λ_ _ _ _=>.int _
def U9:R2:=λx y H Q=>(rI Ht λi j=>.int (i*j)) x y H Q\/Qi x y H Q
theorem wD:nH X (binaryOp .Mult) U9:=wS.or QE
def Ag:O2
 | .int i,.int j,Φ=>((-(2 ^ 64)<i/\i<2 ^ 64)\/(-(2 ^ 64)<j/\j<2 ^ 64))/\Φ (.val (.int (i*j)))
 | .lst xs,.int k,Φ=>0<=k/\k<=1000/\xs.length<=100/\Φ (.own (.lst (List.replicate k.toNat xs).flatten))
 | _,_,_=>False
theorem S1 (r:Reps K A H ds vs):∀ k:Nat,Reps K A H (List.replicate k ds).flatten (List.replicate k vs).flatten
 | 0=>.nil
 | k+1=>by rw[cQ,cQ,fF,fF];exact r.append (S1 r k)
theorem wI:pX K U9 Ag:=by
 intro B L H d e x y o Q hd h g b k;cases d<;>first | exact False.elim b | skip<;>cases e<;>first | exact False.elim b | skip
 ·cases h;cases g;exact .inl ⟨_,_,rfl,rfl,b.1,k _ _ H b.2 (hd.pushF (.int _))⟩
 ·cases g
  rename_i n
  obtain⟨a,f,rfl,m,i⟩:=h.lst_inv;obtain⟨r,q,l,b⟩:=b;have c:f.length<=100:=by rw[← i.length];exact l
  refine .inr ⟨a,n,f,rfl,rfl,m,by omega,by omega,bY (Nat.mul_le_mul c (show n.toNat<=1000 by omega)) (by decide),λp j=>?_⟩;exact k _ _ _ b (hd.lstF j (S1 i _))
theorem Zn {j:Int}(h0:0<j) (h:j<2 ^ 64):j.natAbs.log2<9000:=by
 have:j.natAbs<2 ^ 64:=by omega
 exact bI ((Nat.log2_lt (by omega)).mpr this) (by decide)
theorem W2:nH X (binaryOp .FloorDiv) (rI (λ_ j=>0<j/\j<2 ^ 64) λi j=>.int (i/j)):=zL λi j _ _ _ _ _ a q=>by
 refine floordiv_int (by omega) ?_ (.inl (PyProof.noPylong_of_log2 (Zn a.1 a.2)));rw[jA _ (by omega)];exact q
abbrev AH:O2:=fI (λ_ j=>0<j) λi j=>.int (i%j)
theorem Tv:pX K (rI (λ_ j=>0<j) λi j=>.int (i%j)) AH:=E6 (λ_ _ h=>h) λ_ _ _ _=>.int _
abbrev GR:O2:=fI (λi j=>0<=j/\j<=1000000/\i.natAbs<2 ^ 64) λi j=>.int (i*2 ^ j.toNat)
theorem Md:pX K (rI Fp λi j=>.int (i*2 ^ j.toNat)) GR:=E6 (λ_ _ h=>h) λ_ _ _ _=>.int _
abbrev Yu:O2:=fI (λi j=>0<=j/\j<=1000000/\i.natAbs<2 ^ 64) λi j=>.int (i ^ j.toNat)
theorem Ix:pX K (rI Fp λi j=>.int (i ^ j.toNat)) Yu:=E6 (λ_ _ h=>h) λ_ _ _ _=>.int _
abbrev IG:O2:=fI (λ_ j=>0<=j) λi j=>.int (i/2 ^ j.toNat)
theorem Xp:pX K (rI (λ_ j=>0<=j) λi j=>.int (i/2 ^ j.toNat)) IG:=E6 (λ_ _ h=>h) λ_ _ _ _=>.int _
abbrev IW:O2:=By λi j=>.int (Builtin.bitAnd i j)
theorem IK:pX K (tY λi j=>.int (Builtin.bitAnd i j)) IW:=B4 λ_ _ _ _=>.int _
abbrev Xo:O2:=By λi j=>.bl (decide (i<j))
theorem DC:pX K (tY λi j=>.bl (decide (i<j))) Xo:=B4 λ_ _ _ _=>.bl _
abbrev PF:O2:=By λi j=>.bl (decide (j<i))
theorem Dc:pX K (tY λi j=>.bl (decide (j<i))) PF:=B4 λ_ _ _ _=>.bl _
abbrev LH:O2:=By λi j=>.bl (decide (j<=i))
theorem V3:pX K (tY λi j=>.bl (decide (j<=i))) LH:=B4 λ_ _ _ _=>.bl _
def EO (neg:Bool):O2
 | .non,.non,Φ=>Φ (.val (.bl (!neg)))
 | .raw v,.non,Φ=>v ≠ .non/\Φ (.val (.bl neg))
 | _,.non,Φ=>Φ (.val (.bl neg))
 | _,_,_=>False
theorem MU (r:oB K A H d x):(d = .non/\x = .non)\/(∃ v,d = .raw v/\x=v)\/(x ≠ .non/\d ≠ .non/\∀ v,d ≠ .raw v):=by
 cases d with
 | non=>exact .inl ⟨rfl,r.non_inv⟩
 | raw v=>exact .inr (.inl ⟨_,rfl,r.raw_inv⟩)
 | lst _=>obtain⟨a,b,rfl,_⟩:=r.lst_inv;exact .inr (.inr ⟨by simp,by simp,by simp⟩)
 | dK _=>obtain⟨a,b,rfl,_⟩:=r.dK_inv;exact .inr (.inr ⟨by simp,by simp,by simp⟩)
 | dT _=>obtain⟨a,b,rfl,_⟩:=r.dT_inv;exact .inr (.inr ⟨by simp,by simp,by simp⟩)
 | tup _=>obtain⟨a,b,rfl,_⟩:=r.tup_inv;exact .inr (.inr ⟨by simp,by simp,by simp⟩)
 | con _=>obtain⟨a,b,rfl,_⟩:=r.con_inv;exact .inr (.inr ⟨by simp,by simp,by simp⟩)
 | scr _=>obtain⟨a,b,rfl,_⟩:=r.scr_inv;exact .inr (.inr ⟨by simp,by simp,by simp⟩)
 | bl _=>have:=r.bl_inv;subst this;exact .inr (.inr ⟨by simp,by simp,by simp⟩)
 | int _=>have:=r.int_inv;subst this;exact .inr (.inr ⟨by simp,by simp,by simp⟩)
 | str _=>have:=r.str_inv;subst this;exact .inr (.inr ⟨by simp,by simp,by simp⟩)
theorem Zv (neg:Bool):pX K (λx y H Q=>y = .non/\Q (.bl (if neg then !decide (x = .non) else decide (x = .non))) H) (EO neg):=by
 intro B L H d e x y f Q hd h g a k;have l:e = .non:=by
  cases e<;>first | rfl | (exfalso;cases d<;>exact a)
 subst l;have i:=g.non_inv;subst i;refine⟨rfl,?_⟩;rcases MU h with⟨rfl,rfl⟩ | ⟨v,rfl,rfl⟩ | ⟨p,o,m⟩
 ·have b:(if neg then !decide ((V.non) = .non) else decide (V.non = .non)) = !neg:=by cases neg<;>rfl
  rw[b];exact k _ _ H a (hd.pushF (.bl _))
 ·obtain⟨j,a⟩:=a;have b:(if neg then !decide (x=V.non) else decide (x = .non))=neg:=by cases neg<;>simp[j]
  rw[b];exact k _ _ H a (hd.pushF (.bl _))
 ·have b:(if neg then !decide (x=V.non) else decide (x = .non))=neg:=by cases neg<;>simp[p]
  rw[b];have c:f (.val (.bl neg)):=by
   cases d with
   | non=>exact absurd rfl o
   | raw v=>exact absurd rfl (m v)
   | _=>exact a
  exact k _ _ H c (hd.pushF (.bl _))
theorem Yn:nH X (compareOp .Is) (λx y H Q=>y = .non/\Q (.bl (if false then !decide (x = .non) else decide (x = .non))) H):=FD
end
def tZ:D->Option hI
 | .int i=>some (.inl i)
 | .str x=>some (.inr x)
 | _=>none
def tM:List D->Option (List hI)
 | []=>some []
 | d::ds=>match tZ d,tM ds with
  | some k,some ks=>some (k::ks)
  | _,_=>none
def nb (neg b:Bool):Bool:=if neg then !b else b
section
variable {X:Cx}{K:mC}
theorem Ej (h:tZ d=some k) (r:oB K A H d v):v=kV k:=by
 cases d<;>cases h
 ·exact r.int_inv
 ·exact r.str_inv
theorem Q9 (h:tM ds=some ks) (rs:Reps K A H ds vs):vs=ks.map kV:=by
 induction ds generalizing ks vs with
 | nil=>cases rs;cases h;rfl
 | cons d ds e =>
  cases rs with
  | cons r rs =>
  have h:=(show (match tZ d,tM ds with | some k,some ks=>some (k::ks) | _,_=>none)=some ks from h);cases a:tZ d with
  | none=>rw[a] at h;cases h
  | some k =>
   cases b:tM ds with
   | none=>rw[a,b] at h;cases h
   | some c =>
    rw[a,b] at h;cases h;rw[Ej a r.peek,e b rs];rfl
def yA:D->D->Option (Option D)
 | .dK kvs,d=>(tZ d).map (mZ kvs)
 | .dT kvs,.tup xs=>(tM xs).map (mZ kvs)
 | _,_=>none
theorem Mw (h:yA d e=some o) (rx:oB K A H d x) (ry:oB K A H e y):∃ a w,x = .ref a/\sS H a y w/\(∀ c,o=some c->∃ v,w=some v/\Rep K A H c v)/\(o=none->w=none):=by
 cases d with
 | dK j =>
  obtain⟨a,r,rfl,p,q,f⟩:=rx.dK_inv;obtain⟨k,l,rfl⟩:=cF.mp h;rw[Ej l ry];obtain⟨i,g⟩:=Fy q f k;exact⟨a,_,rfl,sS.k p,λc m=>i c m,g⟩
 | dT j =>
  obtain⟨a,r,rfl,p,q,f⟩:=rx.dT_inv;cases e with
  | tup z =>
   obtain⟨b,B,rfl,t,u⟩:=ry.tup_inv;obtain⟨k,l,rfl⟩:=cF.mp h;rw[Q9 l u] at t;obtain⟨i,g⟩:=Fy q f k;exact⟨a,_,rfl,.inr ⟨r,k,b,p,rfl,t,rfl⟩,λc m=>i c m,g⟩
  | _=>cases h
 | _=>cases h
def Q5:R2:=λx y H Q=>∃ a v,x = .ref a/\sS H a y (some v)/\Q v H
theorem Zq (hu:X.A.units+1<cLine):wL X Q5:=by
 intro value slice c s e H x y v u Q I i f h j;obtain⟨a,w,rfl,g,q⟩:=h;cases i;unfold subscriptTail;refine aB ?_;rw[getitemInPython_of_ne (Li I g).not_modules];refine aB (wpAny_specialOf (Li I g) PySem.F.slot_dict_getitem.lookup ?_);have fin:wpAny (model X.prog X.w) X.A (subscripted slice false (.ref a) u) (λr b=>wpAny (model X.prog X.w) X.A (letTemporaryGo value (.ref a) r >>= λ_=>pure r) (EP X c e Q) X.xe b) X.xe s:=by
  rw[j];exact wpAny_operating (Wz hu I g f λl m k d=>aB (wpAny_letTemporaryGo (aF ⟨w,H,k,d,q⟩)))
 first
  | exact aF (aB fin)
  | exact aB (aF (aB fin))
  | exact aB fin
def Jt (K:mC):R2:=λx y H Q=>Rh K x y H Q\/Q5 x y H Q
theorem Sr (hu:X.A.units+1<cLine):wL X (Jt X.K):=Zz.or (Zq hu)
def Co:O2:=λd e Φ=>match d,e with
 | .lst xs,.int i=>∃ c,oZ xs i=some c/\Φ (.val c)
 | .tup xs,.int i=>∃ c,oZ xs i=some c/\Φ (.val c)
 | .con xs,.int i=>∃ c,oZ xs i=some c/\Φ (.val c)
 | .scr xs,.int i=>∃ c,oZ xs i=some c/\Φ (.val c)
 | .str z,.int i=>z.length<=100000/\∃ c,oZ z.cps.toList i=some c/\Φ (.val (.str ⟨#[c]⟩))
 | d,e=>∃ c,yA d e=some (some c)/\Φ (.val c)
theorem G3 (r:Reps K A H ds vs) (h:oZ ds i=some c):∃ v,oZ vs i=some v/\Rep K A H c v:=by
 unfold oZ at h ⊢;rw[← r.length];cases e:tQ ds.length i with
 | none=>rw[e] at h;cases h
 | some j =>
  rw[e] at h;obtain⟨v,b,a⟩:=r.get (i:=j) h;exact⟨v,b,a⟩
theorem Tw:pX K (Jt K) Co:=by
 intro B L H d e x y r Q hd q p b k;have f:(∃ c,yA d e=some (some c)/\r (.val c))->Jt K x y H Q:=λ⟨c,h,b⟩=>by
  obtain⟨a,w,rfl,g,j,_⟩:=Mw h q p;obtain⟨v,rfl,i⟩:=j c rfl;exact .inr ⟨a,v,rfl,g,k _ _ H b (hd.pushF i)⟩
 cases d<;>first | exact f b | skip
 ·cases e<;>first | exact f b | skip
  cases p;cases q;obtain⟨t,c,h,b⟩:=b;exact .inl (.inr (.inr ⟨_,_,c,rfl,rfl,zQ t,h,k _ _ H b (hd.pushF (.str _))⟩))
 ·obtain⟨a,l,rfl,j,m⟩:=q.tup_inv;cases e<;>first | exact f b | skip
  cases p;obtain⟨c,h,b⟩:=b;obtain⟨v,o,i⟩:=G3 m h;exact .inl (.inr (.inl ⟨a,l,_,v,rfl,rfl,nL.of j,o,k _ _ H b (hd.pushF i)⟩))
 ·obtain⟨a,l,rfl,j,m⟩:=q.lst_inv;cases e<;>first | exact f b | skip
  cases p;obtain⟨c,h,b⟩:=b;obtain⟨v,o,i⟩:=G3 m h;exact .inl (.inl ⟨a,l,_,v,rfl,rfl,mG.of j,o,k _ _ H b (hd.pushF i)⟩)
 ·obtain⟨a,l,rfl,j,m⟩:=q.scr_inv;cases e<;>first | exact f b | skip
  cases p;obtain⟨c,h,b⟩:=b;obtain⟨v,o,i⟩:=G3 m h;exact .inl (.inl ⟨a,l,_,v,rfl,rfl,j.sqL,o,k _ _ H b (hd.pushF i)⟩)
 ·obtain⟨a,l,rfl,j,m⟩:=q.con_inv;cases e<;>first | exact f b | skip
  cases p;obtain⟨c,h,b⟩:=b;obtain⟨v,o,i⟩:=G3 m h;exact .inl (.inr (.inl ⟨a,l,_,v,rfl,rfl,j.sqT,o,k _ _ H b (hd.pushF i)⟩))
theorem pY (hu:X.A.units+1<cLine) (ha:PD X a ta) (hb:PD X b tb) (hs:Ot b:=by exact λ_ _=>rfl):PD X (.Subscript a b pos) (d2 Co ta tb) :=
 (qY (Sr hu) ha hb hs).mono λ_ _ _ h=>Ig Tw h
def Ly (neg:Bool):R2:=λy x H Q=>∃ a o,x = .ref a/\sS H a y o/\Q (.bl (nb neg o.isSome)) H
theorem DM (hu:X.A.units+1<cLine):nH X (compareOp .In) (Ly false):=by
 intro b s f H x y v u Q I d c h;obtain⟨a,o,rfl,g,q⟩:=h;cases c;exact NF hu I g d λi e=>⟨.bl o.isSome,H,e,rfl,q⟩
theorem OA (hu:X.A.units+1<cLine):nH X (compareOp .NotIn) (Ly true):=by
 intro b s f H x y v u Q I d c h;obtain⟨a,o,rfl,g,q⟩:=h;cases c;exact Sd hu I g d λi e=>⟨.bl (!o.isSome),H,e,rfl,q⟩
def Nj (neg:Bool):R2:=λx y H Q=>∃ i j,x = .str i/\y = .str j/\Q (.bl (nb neg (!(Builtin.Str.occurrences j i 0 j.length 1).isEmpty))) H
def Dz (K:mC) (neg:Bool):R2:=λx y H Q=>Ez K neg x y H Q\/Nj neg x y H Q\/Ly neg x y H Q
theorem Hm (hu:X.A.units+1<cLine):nH X (compareOp .In) (Dz X.K false):=Lj.or ((show nH X (compareOp .In) (Nj false) from MZ).or (DM hu))
theorem zG (hu:X.A.units+1<cLine):nH X (compareOp .NotIn) (Dz X.K true):=W7.or ((show nH X (compareOp .NotIn) (Nj true) from PZ).or (OA hu))
def xP:D->Option V
 | .non=>some .non
 | .bl b=>some (.bl b)
 | .int i=>some (.int i)
 | .str x=>some (.str x)
 | _=>none
def uO:List D->Option (List V)
 | []=>some []
 | d::ds=>match xP d,uO ds with
  | some v,some vs=>some (v::vs)
  | _,_=>none
theorem Gg {α:Type}{f:α->D}{g:α->V}(h:∀ x,xP (f x)=some (g x)):∀ xs:List α,uO (xs.map f)=some (xs.map g)
 | []=>rfl
 | x::xs=>by
  show (match xP (f x),uO (xs.map f) with | some v,some a=>some (v::a) | _,_=>none)=_;rw[h x,Gg h xs];rfl
theorem L3 (h:xP d=some u) (r:oB K A H d v):v=u/\sX u=true:=by
 cases d<;>cases h<;>cases r<;>exact⟨rfl,rfl⟩
theorem J6 (h:uO ds=some us) (rs:Reps K A H ds vs):vs=us/\us.all sX=true:=by
 induction ds generalizing us vs with
 | nil=>cases rs;cases h;exact⟨rfl,rfl⟩
 | cons d ds e =>
  cases rs with
  | cons r rs =>
  have h:=(show (match xP d,uO ds with | some v,some vs=>some (v::vs) | _,_=>none)=some us from h);cases a:xP d with
  | none=>rw[a] at h;cases h
  | some k =>
   cases b:uO ds with
   | none=>rw[a,b] at h;cases h
   | some c =>
    rw[a,b] at h;cases h;obtain⟨j,i⟩:=L3 a r.peek;obtain⟨g,f⟩:=e b rs;exact⟨by rw[j,g],by rw[lT,i,f];rfl⟩
def F4 (neg:Bool) (d:D) (xs:List D) (Φ:Sl->Prop):Prop:=∃ v vs,xP d=some v/\uO xs=some vs/\Φ (.val (.bl (nb neg (uW v vs))))
def Ph (neg:Bool):O2:=λd e Φ=>match e with
 | .lst xs=>F4 neg d xs Φ
 | .tup xs=>F4 neg d xs Φ
 | .con xs=>F4 neg d xs Φ
 | .str j=>∃ i,d = .str i/\Φ (.val (.bl (nb neg (!(Builtin.Str.occurrences j i 0 j.length 1).isEmpty))))
 | e=>∃ o,yA e d=some o/\Φ (.val (.bl (nb neg o.isSome)))
theorem wE (neg:Bool):pX K (Dz K neg) (Ph neg):=by
 intro B L H d e x y C Q hd t l b k;have seq:∀ (a:Addr) (q:List D) (j:List V),F4 neg d q C->y = .ref a->(mG K H a j\/nL K H a j)->Reps K (Al B (mD L)) H q j->Dz K neg x y H Q:=by
  rintro a q j ⟨v,h,f,u,S⟩ rfl N r;obtain⟨M,I⟩:=L3 f t;obtain⟨F,E⟩:=J6 u r;subst M F;exact .inl ⟨a,j,rfl,N,I,E,k _ _ H S (hd.pushF (.bl _))⟩
 have z:(∃ o,yA e d=some o/\C (.val (.bl (nb neg o.isSome))))->Dz K neg x y H Q:=λ⟨o,O,b⟩=>by
  obtain⟨a,w,rfl,g,f,u⟩:=Mw O l t;have e:o.isSome=w.isSome:=by
   cases o with
   | none=>rw[u rfl];rfl
   | some c=>obtain⟨v,rfl,_⟩:=f c rfl;rfl
  exact .inr (.inr ⟨a,w,rfl,g,by rw[← e];exact k _ _ H b (hd.pushF (.bl _))⟩)
 cases e<;>first | exact z b | skip
 ·obtain⟨i,rfl,b⟩:=b;cases t;cases l;exact .inr (.inl ⟨_,_,rfl,rfl,k _ _ H b (hd.pushF (.bl _))⟩)
 ·obtain⟨a,h,p,f,m⟩:=l.tup_inv;exact seq a _ h b p (.inr (nL.of f)) m
 ·obtain⟨a,h,p,f,m⟩:=l.lst_inv;exact seq a _ h b p (.inl (mG.of f)) m
 ·obtain⟨a,h,p,f,m⟩:=l.con_inv;exact seq a _ h b p (.inr f.sqT) m
end
section
variable {X:Cx}{K:mC}
def Oh (neg:Bool):R2:=λx y H Q=>Lg x y=true/\Q (.bl (nb neg (decide (x=y)))) H
end
def oY (xs:List D) (lo hi:Option Int):List D:=(xs.drop (HT.sIx xs.length 0 lo)).take (HT.sIx xs.length xs.length hi-HT.sIx xs.length 0 lo)
def pt (o:Option nI):List Addr->List Sl->(Option Int->List Sl->Prop)->Prop:=λdk ρ k=>match o with
 | none=>k none ρ
 | some t=>t dk ρ λr ρ'=>match r with
  | .val (.int i)=>k (some i) ρ'
  | _=>False
def Ck (K:mC):Option nI->TO
 | none=>Wu
 | some t=>Pt (dE K t)
abbrev O3:=D->Option Int->Option Int->(Sl->Prop)->Prop
def OK (f:O3) (i:Nat) (lo hi:Option nI):nI:=λdk ρ Φ=>(at? ρ i).isSome=true/\pt lo dk ρ λl ρ2=>pt hi dk ρ2 λu ρ3=>match at? ρ3 i with
 | some d=>f d l u λr=>Φ r ρ3
 | none=>False
abbrev R3:=V->Option Int->Option Int->Hp->VK->Prop
def Nw (K:mC) (r:R3) (f:O3):Prop:=∀ (B:Bs) (L:oK) (H:Hp) (d:D) (lo hi:Option Int) (x:V) (Φ:Sl->Prop) (Q:VK),DS K B L H->oB K (Al B (mD L)) H d x->f d lo hi Φ ->
 (∀ s v H',Φ s->DS K B ((s,some v)::L) H'->Q v H')->r x lo hi H Q
section
variable {X:Cx}{K:mC}{lo:Option Expr}
theorem Tp (hl:ρ.length=σ.length) (hd:DS K B (ρ.zip σ++T) H) (h:pt o B.dk ρ k)
  (hk:∀ i ρ' H',ρ'.length=σ.length->DS K B (ρ'.zip σ++T) H'->k i ρ'->Q i H'):Ck K o σ H Q:=by
 cases o with
 | none=>exact hk none ρ H hl hd h
 | some t =>
  refine⟨B,ρ,T,_,hl,hd,h,λr ρ' v H' b d1 a=>?_⟩;cases r with
  | no=>exact a.elim
  | own d=>exact a.elim
  | val d =>
   cases d with
   | int i=>exact⟨i,d1.valAt.int_inv,hk (some i) ρ' H' b d1.drop a⟩
   | _=>exact a.elim
theorem sZ:PO X none (Ck X.K none):=C5
theorem tL (h:PD X e t):PO X (some e) (Ck X.K (some t)):=Dl h
theorem tJ (hr:vK X r) (hf:Nw X.K r f) (ha:PE X a (qM i)) (h1:PO X lo (Ck X.K ol)) (h2:PO X hi (Ck X.K oh)):PD X (.Subscript a (.Slice lo hi none p2) pos) (OK f i ol oh) :=
 (Cd hr ha h1 h2).mono λO H Q g=>g.elim λB S T U q hd ⟨h,F⟩ k=>by
  obtain⟨W,L⟩:=cR.mp h;obtain⟨x,p,_⟩:=hd.peek q L;refine⟨x,p,Tp q hd F λl y Y E d2 z=>Tp E d2 z λu b M o t e=>?_⟩;cases m:at? b i with
  | none=>rw[m] at e;exact e.elim
  | some d =>
   rw[m] at e;obtain⟨V,c,C⟩:=t.peek o m;rw[p] at c;cases c;exact hf B _ M d l u x _ Q t C e λs v N I j=>k s b v N o j.mid I
def Ts (K:mC):R3:=λx lo hi H Q=>U3 K x lo hi H Q\/Ku K x lo hi H Q\/Px x lo hi H Q
theorem uD:vK X (Ts X.K):=Ky.or (Rc.or Ml)
def Ye:O3
 | .lst xs,lo,hi,Φ=>Φ (.own (.lst (oY xs lo hi)))
 | .scr xs,lo,hi,Φ=>Φ (.own (.lst (oY xs lo hi)))
 | .tup xs,lo,hi,Φ=>¬ (HT.sIx xs.length 0 lo=0/\HT.sIx xs.length xs.length hi=xs.length)/\Φ (.val (.tup (oY xs lo hi)))
 | .str z,lo,hi,Φ=>z.length<=100000/\Φ (.val (.str (uS z lo hi)))
 | _,_,_,_=>False
theorem Hr (r:Reps K A H ds vs) (lo hi:Option Int):Reps K A H (oY ds lo hi) (vV vs lo hi):=by
 unfold oY vV;rw[r.length];exact (r.drop _).take _
theorem tW:Nw K (Ts K) Ye:=by
 intro B L H d lo i x j Q hd h b k;cases d<;>first | exact False.elim b | skip
 ·cases h;exact .inr (.inr ⟨_,rfl,zQ b.1,k _ _ _ b.2 (hd.pushF (.str _))⟩)
 ·obtain⟨a,e,rfl,g,c⟩:=h.tup_inv;exact .inr (.inl ⟨a,e,rfl,nL.of g,by rw[← c.length];exact b.1,λp f=>k _ _ _ b.2 (hd.tupF f (Hr c lo i))⟩)
 ·obtain⟨a,e,rfl,g,c⟩:=h.lst_inv;exact .inl ⟨a,e,rfl,mG.of g,λp f=>k _ _ _ b (hd.lstF f (Hr c lo i))⟩
 ·obtain⟨a,e,rfl,g,c⟩:=h.scr_inv;exact .inl ⟨a,e,rfl,g.sqL,λp f=>k _ _ _ b (hd.lstF f (Hr c lo i))⟩
abbrev O1:=D->(Sl->Prop)->Prop
abbrev R1:=V->Hp->VK->Prop
def BJ (K:mC) (r:R1) (f:O1):Prop:=∀ (B:Bs) (L:oK) (H:Hp) (d:D) (x:V) (Φ:Sl->Prop) (Q:VK),DS K B L H->oB K (Al B (mD L)) H d x->f d Φ->(∀ s v H',Φ s->DS K B ((s,some v)::L) H'->Q v H')->r x H Q
def d1 (f:O1) (ta:nI):nI:=λdk ρ Φ=>ta dk ρ λra ρ1=>match sd ra with
 | some d=>f d λr=>Φ r ρ1
 | none=>False
theorem IR (hf:BJ X.K r f) (h:dE X.K (d1 f ta) σ H Q):dE X.K ta σ H λx H1=>r x H1 Q:=by
 obtain⟨B,g,T,u,q,hd,o,k⟩:=h;refine⟨B,g,T,_,q,hd,o,λi b x H1 m d1 a=>?_⟩;cases e:sd i with
 | none=>rw[e] at a;exact a.elim
 | some d =>
  rw[e] at a;obtain⟨l,j⟩:=d1.one e;exact hf B _ H1 d x _ Q l j.peek a λs v t p c=>k s b v t m c.mid p
def Wq:O1
 | .int i,Φ=>Φ (.val (.int (-i)))
 | _,_=>False
theorem wG (ha:PD X a ta):PD X (.UnaryOp .USub a pos) (d1 Wq ta):=(HA DD ha).mono λ_ _ _ h=>IR (f:=Wq) (λB L H d x e Q hd c b k=>by
 cases d<;>first | exact False.elim b | skip
 cases c;exact⟨_,rfl,k _ _ H b (hd.pushF (.int _))⟩) h
def Ka:D->Option Bool
 | .non=>some false
 | .bl b=>some b
 | .int i=>some (i != 0)
 | .str x=>some ((x.length:Int) != 0)
 | .lst xs=>some (!xs.isEmpty)
 | .tup xs=>some (!xs.isEmpty)
 | .dK xs=>some (!xs.isEmpty)
 | _=>none
def My:D->Bool
 | .str x=>decide (x.length<=100000)
 | _=>true
theorem AE (h:oB K A H d x) (e:Ka d=some k) (hs:My d=true):Kw K x H k:=by
 cases d<;>simp only[Ka,reduceCtorEq,lQ] at e<;>subst e
 ·have:=h.non_inv;subst this;rfl
 ·have:=h.bl_inv;subst this;rfl
 ·have:=h.int_inv;subst this;rfl
 ·have:=h.str_inv;subst this;exact⟨zQ (cB hs),rfl⟩
 ·obtain⟨a,b,rfl,h,r⟩:=h.tup_inv;exact .inr (.inl ⟨b,nL.of h,by cases r<;>rfl⟩)
 ·obtain⟨a,b,rfl,h,r⟩:=h.lst_inv;exact .inl ⟨b,mG.of h,by cases r<;>rfl⟩
 ·rename_i c
  obtain⟨a,b,rfl,h,e,r⟩:=h.dK_inv;refine .inr (.inr ⟨b,h,?_⟩);cases c<;>cases b<;>simp at e ⊢
def Ol (t:nI):sO:=λdk ρ Φ=>t dk ρ λr ρ'=>match sd r with
 | some d=>My d=true/\∃ b,Ka d=some b/\Φ b ρ'
 | none=>False
theorem Eg (ha:PD X a ta) (he:∀ whole,isTrue a X.env whole=(do let v ← whole;standAt a.pos;holding [v] (truthy v)):=by intro _;rfl):tV X a (Ol ta) :=
 (LV ha he).mono λu H Q f=>f.elim λB h T x p hd m k=>⟨B,h,T,_,p,hd,m,λr e v t l d1 c=>by
  cases g:sd r with
  | none=>rw[g] at c;exact c.elim
  | some d =>
   rw[g] at c;obtain⟨o,b,q,c⟩:=c;obtain⟨j,i⟩:=d1.one g;exact⟨b,AE i.peek q o,k b e t l j c⟩⟩
def IN (t u:sO):sO:=λdk ρ Φ=>t dk ρ λc ρ1=>if c=true then u dk ρ1 Φ else Φ false ρ1
def NQ (t u:sO):sO:=λdk ρ Φ=>t dk ρ λc ρ1=>if c=true then Φ true ρ1 else u dk ρ1 Φ
def M9 (t:sO):sO:=λdk ρ Φ=>t dk ρ λc ρ1=>Φ (!c) ρ1
variable {rest:List Expr}
theorem Ow (h:tV X a tA):zZ X (.BoolOp .And [a] pos) tA:=Qp h
theorem We (h:tV X a tA):zZ X (.BoolOp .Or [a] pos) tA:=MI h
theorem Vx (ha:tV X a tA) (hb:zZ X (.BoolOp .And (b::rest) pos) tB'):zZ X (.BoolOp .And (a::b::rest) pos) (IN tA tB') :=
 (Pf ha hb).mono λo H Q e=>e.elim λB h T i l hd j k=>⟨B,h,T,_,l,hd,j,λc d m f d1 g=>by
  cases c with
  | true=>exact (aP rfl).mpr ⟨B,d,T,i,f,d1,(aP rfl).mp g,k⟩
  | false=>exact pT (k false d m f d1 ((aM (by decide)).mp g))⟩
theorem Kj (ha:tV X a tA) (hb:zZ X (.BoolOp .Or (b::rest) pos) tB'):zZ X (.BoolOp .Or (a::b::rest) pos) (NQ tA tB') :=
 (JZ ha hb).mono λo H Q e=>e.elim λB h T i l hd j k=>⟨B,h,T,_,l,hd,j,λc d m f d1 g=>by
  cases c with
  | true=>exact (aP rfl).mpr (k true d m f d1 ((aP rfl).mp g))
  | false=>exact pT ⟨B,d,T,i,f,d1,(aM (by decide)).mp g,k⟩⟩
theorem Gj (h:zZ X a tA):tV X a tA:=PW.pt h
theorem K2 (h:tV X a tA):tV X (.UnaryOp .Not a pos) (M9 tA):=(MT h).mono λm H Q d=>d.elim λB e T o i hd g k=>⟨B,e,T,_,i,hd,g,λc b l f d1 j=>k _ b l f d1 j⟩
def FP (t u:nI):nI:=λdk ρ Φ=>t dk ρ λr ρ1=>match r with
 | .val (.bl true)=>u dk ρ1 Φ
 | .val (.bl false)=>Φ (.val (.bl false)) ρ1
 | _=>False
def LY (t u:nI):nI:=λdk ρ Φ=>t dk ρ λr ρ1=>match r with
 | .val (.bl true)=>Φ (.val (.bl true)) ρ1
 | .val (.bl false)=>u dk ρ1 Φ
 | _=>False
theorem Sk (h:PD X a ta):PD X (.BoolOp op [a] pos) ta:=Zw h
theorem KQ (ha:PD X a ta) (hb:PD X (.BoolOp .And (b::rest) pos) tb):PD X (.BoolOp .And (a::b::rest) pos) (FP ta tb) :=
 (QW ha hb).mono λp H Q g=>g.elim λB i T j m hd l k=>⟨B,i,T,_,m,hd,l,λr e v o h d1 f=>by
  cases r with
  | no=>exact f.elim
  | own d=>exact f.elim
  | val d =>
   cases d with
   | bl c =>
    have:=d1.valAt.bl_inv;subst this;refine⟨c,rfl,?_⟩;cases c with
    | true=>exact (aP rfl).mpr ⟨B,e,T,j,h,d1.drop,f,k⟩
    | false=>exact pT (k _ e _ o h (d1.drop.push (.bl _)) f)
   | _=>exact f.elim⟩
theorem LJ (ha:PD X a ta) (hb:PD X (.BoolOp .Or (b::rest) pos) tb):PD X (.BoolOp .Or (a::b::rest) pos) (LY ta tb) :=
 (BB ha hb).mono λp H Q g=>g.elim λB i T j m hd l k=>⟨B,i,T,_,m,hd,l,λr e v o h d1 f=>by
  cases r with
  | no=>exact f.elim
  | own d=>exact f.elim
  | val d =>
   cases d with
   | bl c =>
    have:=d1.valAt.bl_inv;subst this;refine⟨c,rfl,?_⟩;cases c with
    | true=>exact (aP rfl).mpr (k _ e _ o h (d1.drop.push (.bl _)) f)
    | false=>exact pT ⟨B,e,T,j,h,d1.drop,f,k⟩
   | _=>exact f.elim⟩
def GI (t:sO) (u w:nI):nI:=λdk ρ Φ=>t dk ρ λc ρ1=>if c=true then u dk ρ1 Φ else w dk ρ1 Φ
theorem Vn (hc:tV X c tA) (ha:PD X a ta) (hb:PD X b tb):PD X (.IfExp c a b pos) (GI tA ta tb) :=
 (HN hc ha hb).mono λm H Q e=>e.elim λB i T f l hd j k=>⟨B,i,T,_,l,hd,j,λc d o g d1 h=>by
  cases c with
  | true=>exact (aP rfl).mpr ⟨B,d,T,f,g,d1,(aP rfl).mp h,k⟩
  | false=>exact pT ⟨B,d,T,f,g,d1,(aM (by decide)).mp h,k⟩⟩
end
inductive Ar where
 | t (d:D) | al (i:Nat)
abbrev tS:=List Addr->List Sl->(List Ar->List Sl->Prop)->Prop
def tU:List Ar->List V->oK
 | .t d::as,v::vs=>(.val d,some v)::tU as vs
 | .al _::as,_::vs=>tU as vs
 | _,_=>[]
inductive ArOk (σ:St):List Ar->List V->Prop where
 | nil:ArOk σ [] []
 | t {d:D} {v:V} {as:List Ar} {vs:List V}:ArOk σ as vs->ArOk σ (.t d::as) (v::vs)
 | al {i:Nat} {v:V} {as:List Ar} {vs:List V}:σ[i]?=some (some v)->ArOk σ as vs->ArOk σ (.al i::as) (v::vs)
def uT (ρ:List Sl):List Ar->Option (List D)
 | []=>some []
 | .t d::as=>(uT ρ as).map (d::·)
 | .al i::as=>match at? ρ i,uT ρ as with
  | some d,some ds=>some (d::ds)
  | _,_=>none
def yY:List Ar->Option (List D)
 | []=>some []
 | .t d::as=>(yY as).map (d::·)
 | .al _::_=>none
def Cz:List Ar->Bool
 | []=>true
 | .t _::as=>Cz as
 | .al _::_=>false
def dA (K:mC) (τ:tS):TA:=λσ H Q=>∃ (B:Bs) (ρ:List Sl) (T:oK) (Φ:List Ar->List Sl->Prop),ρ.length=σ.length/\DS K B (ρ.zip σ++T) H/\τ B.dk ρ Φ /\
 ∀ as ρ' vs H',ρ'.length=σ.length->ArOk σ as vs->DS K B (ρ'.zip σ++(tU as vs++T)) H'->Φ as ρ'->Q vs H'
theorem dA.elim {K:mC}{P:Prop}(h:dA K τ σ H Q) (f:∀ (B:Bs) (ρ:List Sl) (T:oK) (Φ:List Ar->List Sl->Prop),ρ.length=σ.length->DS K B (ρ.zip σ++T) H->τ B.dk ρ Φ ->(∀ as ρ' vs H',ρ'.length=σ.length->ArOk σ as vs->DS K B (ρ'.zip σ++(tU as vs++T)) H'->Φ as ρ'->Q vs H')->P):P:=by
 obtain⟨B,ρ,T,Φ,b,hd,a,k⟩:=h;exact f B ρ T Φ b hd a k
abbrev tT (X:Cx) (es:List Expr) (τ:tS):Prop:=PA X es (dA X.K τ)
def FI:tS:=λ_ ρ Φ=>Φ [] ρ
def aC (te:nI) (tr:tS):tS:=λdk ρ Φ=>te dk ρ λr ρ1=>tr dk ρ1 λas ρ2=>match sd r with
 | some d=>Φ (.t d::as) ρ2
 | none=>False
def aS (i:Nat) (tr:tS):tS:=λdk ρ Φ=>(at? ρ i).isSome=true/\tr dk ρ λas ρ2=>Φ (.al i::as) ρ2
theorem PA.mono {X:Cx}(h:PA X es t) (k:∀ σ H Q,t' σ H Q->t σ H Q):PA X es t':=λp a s σ H Q I q=>h p a s σ H Q I (k σ H Q q)
def Am (B:Bs) (a:Addr):Prop:=a∉B.dk/\(B.A0 a\/B.H0 a=none)
inductive Peeks (K:mC) (A:Addr->Prop) (H:Hp):List D->List V->Prop where
 | nil:Peeks K A H [] []
 | cons {d:D} {v:V} {ds:List D} {vs:List V}:oB K A H d v->Peeks K A H ds vs->Peeks K A H (d::ds) (v::vs)
section
variable {X:Cx}{K:mC}
theorem gV:tT X [] FI:=nJ.mono λe H Q a=>a.elim λB b T f d hd c k=>k [] b [] H d .nil hd c
theorem aD (ha:PD X e te) (hr:tT X es ta) (h:yS e=true:=by rfl):tT X (e::es) (aC te ta):=(nC ha hr h).mono λl H Q f=>f.elim λB m T C u hd q k =>
 ⟨B,m,T,_,u,hd,q,λr c x E p d1 v=>⟨B,c,(r,some x)::T,_,p,d1,v,λas a i j o ok d2 b=>by
  cases g:sd r with
  | none=>rw[g] at b;exact b.elim
  | some d =>
   rw[g] at b;refine k (.t d::as) a (x::i) j o (.t ok) ?_ b;have z:DS X.K B ((a.zip l++tU as i)++(r,some x)::T) j:=by simpa using d2
   have y:=(z.thaw g).front;exact DS.mid (by simpa using y)⟩⟩
theorem tH (ha:PE X e (qM i)) (hr:tT X es ta) (h:yS e=true:=by rfl):tT X (e::es) (aS i ta):=(nC ha hr h).mono λr H Q b=>b.elim λB f T t d hd ⟨m,l⟩ k=>by
 obtain⟨u,p⟩:=cR.mp m;obtain⟨x,c,_⟩:=hd.peek d p;exact⟨x,c,B,f,T,_,d,hd,l,λas a g q j ok d2 o=>k (.al i::as) a (x::g) q j (.al c ok) d2 o⟩
theorem DS.rmArgs:∀ {as:List Ar}{vs:List V},DS K B (L++(tU as vs++T)) H->DS K B (L++T) H
 | [],_,h=>h
 | .t d::as,[],h=>h
 | .al _::as,[],h=>h
 | .t d::as,v::vs,h=>DS.rmArgs (as:=as) (vs:=vs) (DS.drop (L1:=L) (L2:=tU as vs++T) h)
 | .al _::as,v::vs,h=>DS.rmArgs (as:=as) (vs:=vs) h
theorem E2:∀ {as:List Ar}{vs:List V},mD (L++(tU as vs++T))=mD (L++T)
 | [],_=>rfl
 | .t d::as,[]=>rfl
 | .al _::as,[]=>rfl
 | .t d::as,v::vs=>(show mD (L++(Sl.val d,some v)::(tU as vs++T))=_ from Hg).trans (E2 (as:=as) (vs:=vs))
 | .al _::as,v::vs=>E2 (as:=as) (vs:=vs)
theorem DS.temps (h:DS K B (L++(tU as vs++T)) H) (ok:ArOk σ as vs):∀ ds,yY as=some ds->Reps K (Al B (mD (L++T))) H ds vs:=by
 have key:∀ p∈tU as vs,tD K (Al B (mD (L++T))) H p.1 p.2:=λp a=>by
  have:=h.ok p (by simp[a]);rw[E2] at this;exact this
 clear h;induction ok with
 | nil=>intro ds e;cases e;exact .nil
 | @t d v as vs ok c =>
  intro ds e;obtain⟨b,g,rfl⟩:=cF.mp e;obtain⟨u,f,r⟩:=key (.val d,some v) aK;cases f;exact .cons r (c (λp a=>key p (aT _ a)) b g)
 | al _ _ _=>intro ds e;cases e
theorem DS.argsP (hl:ρ.length=σ.length) (h:DS K B (ρ.zip σ++(tU as vs++T)) H) (ok:ArOk σ as vs):∀ ds,uT ρ as=some ds ->
  Peeks K (Al B (mD (ρ.zip σ++T))) H ds vs/\Reps K (Am B) H ds vs/\(Cz as=true->Reps K (Al B (mD (ρ.zip σ++T))) H ds vs):=by
 have key:∀ p∈tU as vs,tD K (Al B (mD (ρ.zip σ++T))) H p.1 p.2:=λp j=>by
  have:=h.ok p (by simp[j]);rw[E2] at this;exact this
 have q:=h.rmArgs;have am:∀ a,Al B (mD (ρ.zip σ++T)) a->Am B a:=λa z=>⟨z.1,z.2.2⟩
 clear h;induction ok with
 | nil=>intro ds e;cases e;exact⟨.nil,.nil,λ_=>.nil⟩
 | @t d v as vs ok o =>
  intro ds e;obtain⟨f,b,rfl⟩:=cF.mp e;obtain⟨u,k,r⟩:=key (.val d,some v) aK;cases k;obtain⟨m,l,E⟩:=o (λp j=>key p (aT _ j)) f b;exact⟨.cons r.peek m,.cons (r.mono (.all am)) l,λn=>.cons r (E n)⟩
 | @al i v as vs M ok o =>
  intro ds e;have e:=(show (match at? ρ i,uT ρ as with | some d,some ds=>some (d::ds) | _,_=>none)=some ds from e);cases b:at? ρ i with
  | none=>rw[b] at e;cases e
  | some d =>
   cases k:uT ρ as with
   | none=>rw[b,k] at e;cases e
   | some f =>
    rw[b,k] at e;cases e;obtain⟨m,l,E⟩:=o (λp j=>key p j) f k;obtain⟨Q,g,pv⟩:=q.peek hl b;rw[M] at g;cases g;have N:Rep K (Am B) H d v:=by
     unfold at? at b;cases C:ρ[i]? with
     | none=>rw[C] at b;cases b
     | some s =>
      rw[C] at b;obtain⟨U,y,S,I,_,O,_⟩:=vU hl C;rw[M] at I;cases I;have L:(s,some v)∈ρ.zip σ++T:=by rw[O];simp
      have:=q.ok _ L;cases s with
      | no=>cases b
      | val c=>cases b;obtain⟨u,x,r⟩:=this;cases x;exact r.mono (.all am)
      | own c =>
       cases b;obtain⟨a,x,r⟩:=this;cases x;have F:=q.new a (uR.mpr ⟨_,L,rfl⟩);exact r.rep am ⟨F.2,.inr F.1⟩
    exact⟨.cons pv m,.cons N l,λn=>by simp[Cz] at n⟩
def HP (ta:tS):nI:=λdk ρ Φ=>ta dk ρ λas ρ'=>match yY as with
 | some ds=>ds.length<=1000/\Φ (.val (.tup ds)) ρ'
 | none=>False
def Td (ta:tS):nI:=λdk ρ Φ=>ta dk ρ λas ρ'=>match yY as with
 | some ds=>ds.length<=1000/\Φ (.own (.lst ds)) ρ'
 | none=>False
theorem V4 (h:n<=1000):n<=sizeLine:=bY h (by decide)
theorem oS (h:tT X es ta):PD X (.Tuple es x1 pos) (HP ta):=(C2 h).mono λm H Q c=>c.elim λB e T o j hd g k=>⟨B,e,T,_,j,hd,g,λas b q t f ok d1 a=>by
 cases d:yY as with
 | none=>rw[d] at a;exact a.elim
 | some l =>
  rw[d] at a;have r:=d1.temps ok l d;exact⟨V4 (by rw[← r.length];exact a.1),λp i=>k _ b _ _ f (d1.rmArgs.tup i r) a.2⟩⟩
theorem nN (h:tT X es ta):PD X (.List es pos) (Td ta):=(rD h).mono λm H Q c=>c.elim λB e T o j hd g k=>⟨B,e,T,_,j,hd,g,λas b q t f ok d1 a=>by
 cases d:yY as with
 | none=>rw[d] at a;exact a.elim
 | some l =>
  rw[d] at a;have r:=d1.temps ok l d;exact⟨V4 (by rw[← r.length];exact a.1),λp i=>k _ b _ _ f (d1.rmArgs.lstF i r).mid a.2⟩⟩
def Ya:nI:=λ_ ρ Φ=>Φ (.own (.dK [])) ρ
def Ta:nI:=λ_ ρ Φ=>Φ (.own (.dT [])) ρ
theorem Jb:PD X (.Dict [] [] pos) Ya:=HC.mono λf H Q a=>a.elim λB b T g e hd c k p d=>k _ b _ _ e (hd.dKF (ds:=[]) (kvs:=[]) d rfl .nil).mid c
theorem Bx:PD X (.Dict [] [] pos) Ta:=GX.mono λf H Q a=>a.elim λB b T g e hd c k p d=>k _ b _ _ e (hd.dTF (ds:=[]) (kvs:=[]) d rfl .nil).mid c
abbrev OC:=List D->(Sl->Prop)->Prop
def sG (K:mC) (r:List V->Hp->VK->Prop) (f:OC):Prop:=∀ (B:Bs) (L:oK) (H:Hp) (ds:List D) (xs:List V) (Φ:Sl->Prop) (Q:VK),DS K B L H->Peeks K (Al B (mD L)) H ds xs->f ds Φ ->
 (∀ s v H',Φ s->DS K B ((s,some v)::L) H'->Q v H')->r xs H Q
def dC (f:OC) (ta:tS):nI:=λdk ρ Φ=>ta dk ρ λas ρ'=>match uT ρ' as with
 | some ds=>f ds λr=>Φ r ρ'
 | none=>False
theorem M6 (hf:sG X.K r f) (h:dE X.K (dC f ta) σ H Q):dA X.K ta σ H λvs H1=>r vs H1 Q:=by
 obtain⟨B,i,T,p,m,hd,j,k⟩:=h;refine⟨B,i,T,_,m,hd,j,λas a vs H1 e ok d1 b=>?_⟩;cases d:uT a as with
 | none=>rw[d] at b;exact b.elim
 | some g =>
  rw[d] at b;exact hf B _ H1 g vs _ Q d1.rmArgs (d1.argsP e ok g d).1 b λs v o l c=>k s a v o e c.mid l
variable {id:String}
theorem oF (hc:oP X (.builtin id) r) (hf:sG X.K r f) (hg:Gl X x) (hm:X.mg x=none) (hv:bootBuiltins x=some (.builtin id)) (ha:tT X (e::es) ta) (hn:x ≠ "__name__" := by decide) (hdb:(x == ("__debug__" : Str))=false:=by decide)
  (he:starEach (e::es) X.env=(false,eval e X.env)::starEach es X.env:=by rfl) (hpl:(backTo pos (starEach es X.env)).any (·.1)=false:=by rfl):PD X (.Call (.Name x p) (e::es) [] pos) (dC f ta) :=
 (vJ hc hg hm hv ha hn hdb he hpl).mono λ_ _ _ h=>M6 hf h
theorem pC (hc:oP X (.type id) r) (hf:sG X.K r f) (hg:Gl X x) (hm:X.mg x=none) (hv:bootBuiltins x=some (.type id)) (ha:tT X (e::es) ta) (hn:x ≠ "__name__" := by decide) (hdb:(x == ("__debug__" : Str))=false:=by decide)
  (he:starEach (e::es) X.env=(false,eval e X.env)::starEach es X.env:=by rfl) (hpl:(backTo pos (starEach es X.env)).any (·.1)=false:=by rfl):PD X (.Call (.Name x p) (e::es) [] pos) (dC f ta) :=
 (Kn hc hg hm hv ha hn hdb he hpl).mono λ_ _ _ h=>M6 hf h
end
def Og:Sl->Bool
 | .val d=>imm d
 | .own (.lst xs)=>xF xs
 | .own (.dK kvs)=>xF (kvs.map (·.2))
 | .own (.dT kvs)=>xF (kvs.map (·.2))
 | _=>false
def RV (K:mC) (dk:List Addr) (A:Addr->Prop) (H:Hp) (s:Sl) (v:V) (H':Hp):Prop:=match s with
 | .no=>True
 | .val d=>Rep K (λa=>a∉dk/\(A a\/H a=none)) H' d v
 | .own d=>∃ a,v = .ref a/\H a=none/\a∉dk/\qA K (λb=>b∉dk/\b≠a/\(A b\/H b=none)) H' a d
def A4 (dk:List Addr) (H H':Hp):Prop:=∀ b o,H b=some o->b∉dk->H' b=some o
abbrev RD:=List Addr->List D->(Sl->Prop)->Prop
def mQ (K:mC) (R:RD):Sp:=λvs H Q _=>∃ (dk:List Addr) (A:Addr->Prop) (ds:List D) (Φ:Sl->Prop),Dk dk H/\(∀ a,A a->a∉dk)/\Reps K A H ds vs/\R dk ds Φ /\
 ∀ s v H',Φ s->A4 dk H H'->Dk dk H'->RV K dk A H s v H'->Q v H'
section
variable {K:mC}
theorem qA.immR:∀ {d:D},qA K A H a d->Og (.own d)=true->qA K A' H a d
 | .lst _,⟨b,h,r⟩,e=>⟨b,h,r.imm e⟩
 | .dK _,⟨b,h,k,r⟩,e=>⟨b,h,k,r.imm e⟩
 | .dT _,⟨b,h,k,r⟩,e=>⟨b,h,k,r.imm e⟩
theorem Kp.frm (f:A4 dk H H') (hk:Dk dk H) (h:∀ a,A a->a∉dk/\A' a):Kp A A' H H':=by
 refine⟨λa o b e=>⟨(h a b).2,f a o e (h a b).1⟩,λa o t e=>f a o e λz=>?_⟩;obtain⟨c,q⟩:=hk.some z;rw[e] at q;cases q;cases t
theorem DS.call (h:DS K B L H) (f:A4 B.dk H H') (hk:Dk B.dk H'):DS K B L H' :=
 ⟨λb o e n=>f b o (h.fr b o e n) n,hk,h.nd,h.new,λp c=>(h.ok p c).mono (.frm f h.dk λa z=>⟨z.1,z⟩) λb d o q=>f b o q (h.new b (uR.mpr ⟨p,c,d⟩)).2⟩
theorem DS.adopt (h:DS K B L H) (f:A4 B.dk H H') (hk:Dk B.dk H') (hn:H a=none) (r:qA K (Al B (a::mD L)) H' a d):DS K B ((.own d,some (.ref a))::L) H':=by
 obtain⟨f1,f2,k⟩:=h.free hn;have i:Kp (Al B (mD L)) (Al B (a::mD L)) H H':=by
  refine⟨λb o c e=>⟨⟨c.1,λz=>?_,c.2.2⟩,f b o e c.1⟩,λb o t e=>f b o e λz=>?_⟩
  ·rcases aL.mp z with q | q
   ·subst q;rw[hn] at e;cases e
   ·exact c.2.1 q
  ·obtain⟨l,q⟩:=h.dk.some z;rw[e] at q;cases q;cases t
 have g:mD ((Sl.own d,some (V.ref a))::L)=a::mD L:=rfl;refine⟨λb o e n=>f b o (h.fr b o e n) n,hk,by rw[g];exact cH.mpr ⟨k,h.nd⟩,λb c=>?_,λp j=>?_⟩
 ·rw[g] at c;rcases aL.mp c with q | q
  ·subst q;exact⟨f1,f2⟩
  ·exact h.new b q
 ·rw[g];rcases aL.mp j with q | q
  ·subst q;exact⟨a,rfl,r⟩
  ·exact (h.ok p q).mono i λb c o w=>f b o w (h.new b (uR.mpr ⟨p,q,c⟩)).2
theorem DS.result (h:DS K B L H) (f:A4 B.dk H H') (hk:Dk B.dk H') (r:RV K B.dk A1 H s v H') (hA:(∀ a,A1 a->Al B (mD L) a)\/Og s=true):DS K B ((s,some v)::L) H':=by
 have fresh:∀ b,b∉B.dk->H b=none->Al B (mD L) b:=λb n e=>⟨n,(h.free e).2.2,.inr (h.free e).1⟩
 cases s with
 | no=>exact (h.call f hk).pushN (L1:=[]) _
 | val d =>
  refine (h.call f hk).pushF ?_;rcases hA with hA | hA
  ·exact (show Rep K _ H' d v from r).mono (.all λb z=>z.2.elim (hA b) (fresh b z.1))
  ·exact (show Rep K _ H' d v from r).imm hA
 | own d =>
  obtain⟨a,rfl,c,hd,r⟩:=r;refine h.adopt f hk c ?_;rcases hA with hA | hA
  ·refine r.mono (.all λb z=>?_) λ_ q=>q
   have:=z.2.2.elim (hA b) (fresh b z.1);exact⟨this.1,λq=>(aL.mp q).elim z.2.1 this.2.1,this.2.2⟩
  ·exact r.immR hA
end
def F1 (R:RD) (ta:tS):nI:=λdk ρ Φ=>ta dk ρ λas ρ'=>match uT ρ' as with
 | some ds=>R dk ds λs=>(Cz as=true\/Og s=true)/\Φ s ρ'
 | none=>False
section
variable {X:Cx}{R:RD}
theorem CA (h:dE X.K (F1 R ta) σ H Q):dA X.K ta σ H λvs H1=>mQ X.K R (vs++[]) H1 Q E0:=by
 obtain⟨B,o,T,x,u,hd,t,k⟩:=h;refine⟨B,o,T,_,u,hd,t,λas b vs H1 e ok d1 c=>?_⟩;cases i:uT b as with
 | none=>rw[i] at c;exact c.elim
 | some j =>
  rw[i] at c;obtain⟨_,q,p⟩:=d1.argsP e ok j i;have d2:=d1.rmArgs;rw[dO];by_cases m:Cz as=true
  ·exact⟨B.dk,_,j,_,d2.dk,λa z=>z.1,p m,c,λs v l d f g r=>k s b v l e (d2.result f g r (.inl λa z=>z)).mid d.2⟩
  ·exact⟨B.dk,_,j,_,d2.dk,λa z=>z.1,q,c,λs v l d f g r=>k s b v l e (d2.result f g r (.inr (d.1.resolve_left m))).mid d.2⟩
theorem mV (F:FnOk X.prog X.w X.K X.mg X.base mJ k f fd ps (mQ X.K R)) (hr:Room k X.A) (hg:Gl X x) (hm:X.mg x=some (.ref f)) (hk:PySem.W.keepIn X.K (.ref f)=true) (hb:zF X.K fd ps [])
  (ha:tT X (e::es) ta) (hdb:(x == ("__debug__" : Str))=false:=by decide) (he:starEach (e::es) X.env=(false,eval e X.env)::starEach es X.env:=by rfl) (hpl:(backTo pos (starEach es X.env)).any (·.1)=false:=by rfl) :
  PD X (.Call (.Name x p) (e::es) [] pos) (F1 R ta):=(tR F hr hg hm hk hb .nil sW ha hdb he hpl).mono λ_ _ _ h=>CA h
end
structure DEnds where
 nx:List Sl->Prop
 rt:Sl->Prop
 bk:List Sl->Prop:=λ_=>False
 ct:List Sl->Prop:=λ_=>False
abbrev qV:=List Addr->DEnds->List Sl->Prop
def Dm (K:mC) (B:Bs) (T:oK) (n:Nat) (De:DEnds) (Dn:Ends):Prop :=
 (∀ ρ' σ' H',ρ'.length=σ'.length->σ'.length=n->DS K B (ρ'.zip σ'++T) H'->(De.nx ρ'->Dn.nx σ' H')/\(De.bk ρ'->Dn.bk σ' H')/\(De.ct ρ'->Dn.ct σ' H')) /\
 ∀ (r:Sl) (v:V) (ρ':List Sl) (σ':St) (H':Hp),ρ'.length=σ'.length->DS K B (ρ'.zip σ'++(r,some v)::T) H'->De.rt r->Dn.rt v H'
def dS (K:mC) (τ:qV):TS:=λDn σ H=>∃ (B:Bs) (ρ:List Sl) (T:oK) (De:DEnds),ρ.length=σ.length/\DS K B (ρ.zip σ++T) H/\τ B.dk De ρ/\Dm K B T σ.length De Dn
theorem dS.elim {K:mC}{P:Prop}(h:dS K τ Dn σ H) (f:∀ (B:Bs) (ρ:List Sl) (T:oK) (De:DEnds),ρ.length=σ.length->DS K B (ρ.zip σ++T) H->τ B.dk De ρ->Dm K B T σ.length De Dn->P):P:=by
 obtain⟨B,ρ,T,a,c,hd,b,k⟩:=h;exact f B ρ T a c hd b k
abbrev uG (X:Cx) (st:Stmt) (τ:qV):Prop:=PS X st (dS X.K τ)
abbrev vN (X:Cx) (st:List Stmt) (τ:qV):Prop:=qL X st (dS X.K τ)
theorem PS.mono {X:Cx}{st:Stmt}(h:PS X st t) (k:∀ D σ H,t' D σ H->t D σ H):PS X st t':=λa s σ H D I q=>h a s σ H D I (k D σ H q)
theorem qL.mono {X:Cx}{st:List Stmt}(h:qL X st t) (k:∀ D σ H,t' D σ H->t D σ H):qL X st t':=λa s σ H D I q=>h a s σ H D I (k D σ H q)
def La:qV:=λ_ De ρ=>De.nx ρ
def F5 (t u:qV):qV:=λdk De ρ=>t dk { De with nx:=u dk De } ρ
def rC (te:nI):qV:=λdk De ρ=>te dk ρ λr _=>De.rt r
def NN (te:nI):qV:=λdk De ρ=>te dk ρ λ_ ρ'=>De.nx ρ'
def Dy (c:sO) (t u:qV):qV:=λdk De ρ=>c dk ρ λb ρ'=>if b=true then t dk De ρ' else u dk De ρ'
def rG (i:Nat) (te:nI):qV:=λdk De ρ=>te dk ρ λr ρ'=>De.nx (ρ'.set i r)
section
variable {X:Cx}{K:mC}{st:Stmt}{rest:List Stmt}
theorem Dm.seq (h:Dm K B T n De Dn){P:List Sl->Prop}(k:∀ ρ' σ' H',ρ'.length=σ'.length->σ'.length=n->DS K B (ρ'.zip σ'++T) H'->P ρ'->N σ' H'):Dm K B T n { De with nx:=P } { Dn with nx:=N } :=
 ⟨λρ' σ' H' b a d=>⟨k ρ' σ' H' b a d,(h.1 ρ' σ' H' b a d).2⟩,h.2⟩
theorem rB:vN X [] La:=Bo.mono λg b H a=>a.elim λB c T h f hd e d=>(d.1 c b H f rfl hd).1 e
theorem mF (h1:uG X st t) (h2:vN X rest u):vN X (st::rest) (F5 t u):=(qF h1 h2).mono λo l H b=>b.elim λB f T k j hd i c =>
 ⟨B,f,T,_,j,hd,i,c.seq λa e m h g d q=>⟨B,a,T,k,h,d,q,by rw[g];exact c⟩⟩
theorem mW (h:uG X st t):vN X [st] t:=rY h
theorem nQ (h:PD X e te):uG X (.Return (some e) pos) (rC te):=(xM h).mono λm c H b=>b.elim λB d T o j hd i f=>⟨B,d,T,_,j,hd,i,λr a v l g d1 k=>f.2 r v a c l g d1 k⟩
theorem rW (h:PD X e te) (hs:swapsWith e none pos.line X.env=pure false:=by rfl):uG X (.Expr e pos) (NN te):=(N9 h hs).mono λm c H b=>b.elim λB d T o j hd i f=>⟨B,d,T,_,j,hd,i,λr a v l g d1 k=>(f.1 a c l g rfl d1.drop).1 k⟩
theorem qT (hc:tV X c tc) (ha:vN X a t) (hb:vN X b u):uG X (.If c a b pos) (Dy tc t u):=(zS hc ha hb).mono λp m H e=>e.elim λB j T i l hd k f=>⟨B,j,T,_,l,hd,k,λc d o g d1 h=>by
 cases c with
 | true=>exact (aP rfl).mpr ⟨B,d,T,i,g,d1,(aP rfl).mp h,f⟩
 | false=>exact pT ⟨B,d,T,i,g,d1,(aM (by decide)).mp h,f⟩⟩
theorem DS.assign {ρ:List Sl}{σ:St}(hl:ρ.length=σ.length) (h:DS K B (ρ.zip σ++(r,some v)::T) H) (i:Nat):DS K B ((ρ.set i r).zip (σ.set i (some v))++T) H:=by
 by_cases e:i<ρ.length
 ·obtain⟨b,y,c,_,_,d,a⟩:=vU hl (aG e);rw[a r (some v)];rw[d] at h;have k:DS K B (b++(c++(r,some v)::T)) H:=DS.drop (L1:=b) (x:=(ρ[i],y)) (by simpa using h);have j:DS K B ((b++c)++(r,some v)::T) H:=by simpa using k
  have g:=j.front;have f:DS K B ((r,some v)::(b++(c++T))) H:=by simpa using g
  simpa using f.mid
 ·rw[iG (by omega),iG (by omega)];exact h.drop
theorem mY (hN:X.N.Nodup) (hi:X.N[i]?=some x) (hx:wR X.env.scope x) (he:PD X e te) (hs:swapsWith e (some (.Name x pos')) pos.line X.env=pure false:=by rfl)
  (hf:X.fn x=true\/X.env.scope.names.lookup x=some .local:=by first | exact .inl rfl | exact .inr rfl | assumption):uG X (.Assign [.Name x pos'] e pos) (rG i te) :=
 (qE hN hi hx he hs hf).mono λm l H a=>a.elim λB d T o h hd g f=>⟨B,d,T,_,h,hd,g,λr c v k b d1 j=>(f.1 _ _ k (by rw[bT,bT];exact b) (bT ..) (d1.assign b i)).1 j⟩
end
def Br (N:List Str) (ds:List D):List Sl:=ds.map .val++List.replicate (N.length-ds.length) .no
section
variable {P:Program}{K:mC}
theorem Wv:∀ {ds:List D}{vs:List V}(n:Nat),ds.length=vs.length->(ds.map Sl.val++List.replicate n Sl.no).zip (vs.map some++List.replicate n none)=(ds.zip vs).map (λp=>(Sl.val p.1,some p.2))++List.replicate n (Sl.no,none)
 | [],[],n,_=>by simp
 | [],_::_,_,e=>by simp at e
 | _::_,[],_,e=>by simp at e
 | d::ds,v::vs,n,e=>by
  simp only[aO,cS,cN,iA,true_and];exact Wv n (by simpa using e)
theorem Zf (rs:Reps K A H ds vs):∀ p∈ds.zip vs,Rep K A H p.1 p.2:=by
 induction ds generalizing vs with
 | nil=>intro p a;cases a
 | cons d ds b =>
  cases rs with
  | cons h r =>
  intro p a;rw[cN] at a;rcases aL.mp a with rfl | q
  ·exact h
  ·exact b r p q
theorem Fun.okD {st:Stmt}{R:RD}(F:Fun K x qual st f fd) (S:FnScope N ps (nF st)) (hlen:∀ dk ds Φ,R dk ds Φ->ds.length=ps.length) (hps:ps.length<=N.length)
  (hbody:∀ (cdv:Value) (A:Around) (outer:List Env) (s:Shared) (H:Hp) (E:XK) (dk:List Addr) (ds:List D) (Φ:Sl->Prop),Room k (A.deeper (envOfC qual (nF st) s.heap.objs.size f cdv))->R dk ds Φ ->∃ t,vN (Ao mJ P w K mg base N qual (nF st) f cdv A outer s H E).nox (tK st) t/\t dk { nx:=λ_=>Φ (.val .non),rt:=Φ } (Br N ds)):FnOk P w K mg base mJ (k+1) f fd ps (mQ K R):=by
 refine F.ok S (λi H Q E ⟨dk,A,ds,Φ,_,_,r,j,_⟩=>by rw[← r.length];exact hlen _ _ _ j) λcdv A outer s H i Q E W ⟨dk,A1,ds,Φ,u,hA,r,j,M⟩=>?_
 obtain⟨t,V,Z⟩:=hbody cdv A outer s H E dk ds Φ W j;have y:ds.length=i.length:=r.length;have dl:ds.length=ps.length:=hlen _ _ _ j;refine⟨_,V,⟨dk,A1,H⟩,Br N ds,[],_,?_,?_,Z,?_,?_⟩
 ·unfold Br vH;rw[List.length_append,List.length_append,List.length_map,List.length_map,List.length_replicate,List.length_replicate,y]
 ·have O:(Br N ds).zip (vH N i)=(ds.zip i).map (λp=>(Sl.val p.1,some p.2))++List.replicate (N.length-ds.length) (Sl.no,none):=by
   unfold Br vH;rw[← y];exact Wv _ y
  have B:mD ((Br N ds).zip (vH N i))=[]:=by
   rw[O];refine gC.mpr λa g=>?_
   obtain⟨q,c,e⟩:=uR.mp g;rcases aR.mp c with z | z
   ·obtain⟨p,_,rfl⟩:=aV.mp z;cases e
   ·rw[(List.mem_replicate.mp z).2] at e;cases e
  rw[dO];refine⟨λb o e _=>e,u,by rw[B];exact eS,(λa g=>by rw[B] at g;exact absurd g bH),λq c=>?_⟩;rw[B];rw[O] at c;rcases aR.mp c with z | z
  ·obtain⟨p,Y,rfl⟩:=aV.mp z;exact⟨p.2,rfl,(Zf r p Y).mono (.all λa g=>⟨hA a g,bH,.inl g⟩)⟩
  ·rw[(List.mem_replicate.mp z).2];trivial
 ·intro m l C U l2 d1;refine⟨λh=>M _ _ C h d1.fr d1.dk .non,λh=>h.elim,λh=>h.elim⟩
 ·intro I v m l C U d1 h;refine M I v C h d1.fr d1.dk ?_;cases I with
  | no=>trivial
  | val d=>exact d1.valAt.mono (.all λa z=>⟨z.1,z.2.2⟩)
  | own d =>
   obtain⟨a,rfl,T⟩:=d1.ownAt;have L:=d1.new a (by rw[sK];exact aN _ aK);exact⟨a,rfl,L.1,L.2,T.mono (.all λb z=>⟨z.1,λq=>z.2.1 (by simp[q]),z.2.2⟩) λ_ q=>q⟩
end
abbrev vA:=D->List Sl->(List Sl->Prop)->Prop
abbrev Au:=List D->List Sl->(List Sl->Prop)->Prop
def oD (ds:List D) (vs:List V):oK:=(ds.zip vs).map λp=>(Sl.val p.1,some p.2)
def dG (K:mC) (n:Nat) (γ:vA):TG:=λv σ H Q=>∃ (B:Bs) (ρ:List Sl) (T:oK) (d:D) (Φ:List Sl->Prop),ρ.length=σ.length/\DS K B (ρ.zip σ++(.val d,some v)::T) H/\γ d ρ Φ /\
 ∀ (ρ':List Sl) (σ':St) (H':Hp),ρ'.length=σ'.length->σ'.length=σ.length->(∀ j,n<=j->σ'[j]?=σ[j]?)->DS K B (ρ'.zip σ'++T) H'->Φ ρ'->Q σ' H'
def Mg (K:mC) (n:Nat) (γ:Au):Ax:=λvs σ H Q=>∃ (B:Bs) (ρ:List Sl) (T:oK) (ds:List D) (Φ:List Sl->Prop),ρ.length=σ.length/\ds.length=vs.length/\DS K B (ρ.zip σ++(oD ds vs++T)) H/\γ ds ρ Φ /\
 ∀ (ρ':List Sl) (σ':St) (H':Hp),ρ'.length=σ'.length->σ'.length=σ.length->(∀ j,n<=j->σ'[j]?=σ[j]?)->DS K B (ρ'.zip σ'++T) H'->Φ ρ'->Q σ' H'
theorem dG.elim {K:mC}{P:Prop}(h:dG K n γ v σ H Q) (f:∀ (B:Bs) (ρ:List Sl) (T:oK) (d:D) (Φ:List Sl->Prop),ρ.length=σ.length->DS K B (ρ.zip σ++(.val d,some v)::T) H->γ d ρ Φ ->(∀ (ρ':List Sl) (σ':St) (H':Hp),ρ'.length=σ'.length->σ'.length=σ.length->(∀ j,n<=j->σ'[j]?=σ[j]?)->DS K B (ρ'.zip σ'++T) H'->Φ ρ'->Q σ' H')->P):P:=by
 obtain⟨B,ρ,T,d,Φ,b,hd,a,k⟩:=h;exact f B ρ T d Φ b hd a k
theorem Mg.elim {K:mC}{P:Prop}(h:Mg K n γ vs σ H Q) (f:∀ (B:Bs) (ρ:List Sl) (T:oK) (ds:List D) (Φ:List Sl->Prop),ρ.length=σ.length->ds.length=vs.length->DS K B (ρ.zip σ++(oD ds vs++T)) H->γ ds ρ Φ ->(∀ (ρ':List Sl) (σ':St) (H':Hp),ρ'.length=σ'.length->σ'.length=σ.length->(∀ j,n<=j->σ'[j]?=σ[j]?)->DS K B (ρ'.zip σ'++T) H'->Φ ρ'->Q σ' H')->P):P:=by
 obtain⟨B,ρ,T,ds,Φ,c,a,hd,b,k⟩:=h;exact f B ρ T ds Φ c a hd b k
abbrev vM (X:Cx) (n:Nat) (e:Expr) (γ:vA):Prop:=PG X e (dG X.K n γ)
abbrev Bz (X:Cx) (n:Nat) (es:List Expr) (γ:Au):Prop:=xN X es (Mg X.K n γ)
theorem PG.mono {X:Cx}(h:PG X e t) (k:∀ v σ H Q,t' v σ H Q->t v σ H Q):PG X e t':=λa s σ H v u Q I r q=>h a s σ H v u Q I r (k v σ H Q q)
theorem xN.mono {X:Cx}(h:xN X es t) (k:∀ v σ H Q,t' v σ H Q->t v σ H Q):xN X es t':=λa s σ H v u Q I r q=>h a s σ H v u Q I r (k v σ H Q q)
def gN (i:Nat):vA:=λd ρ Φ=>Φ (ρ.set i (.val d))
def EE:Au:=λds ρ Φ=>ds=[]/\Φ ρ
def BL (g:vA) (gs:Au):Au:=λds ρ Φ=>match ds with
 | d::ds=>g d ρ λρ'=>gs ds ρ' Φ
 | []=>False
def Yb (n:Nat) (gs:Au):vA:=λd ρ Φ=>match d with
 | .tup ds=>ds.length=n/\gs ds ρ Φ
 | _=>False
section
variable {X:Cx}{K:mC}
theorem DS.pushs {A:Addr->Prop}:∀ {ds:List D}{vs:List V},DS K B (L++T) H->Reps K (Al B (mD (L++T))) H ds vs->DS K B (L++(oD ds vs++T)) H
 | _,_,h,.nil=>h
 | _,_,h,.cons (ds:=ds) (vs:=vs) r b=>by
  have f:=DS.pushs (A:=A) h b;have g:mD (L++(oD ds vs++T))=mD (L++T):=by
   have:∀ (ds:List D) (vs:List V),mD (oD ds vs)=[]:=λds vs=>by
    refine gC.mpr λa d=>?_
    obtain⟨q,c,e⟩:=uR.mp d;obtain⟨p,_,rfl⟩:=aV.mp c;cases e
   rw[rP,rP,rP,this,gI]
  exact f.push (by rw[g];exact r)
theorem mM (hN:X.N.Nodup) (hi:X.N[i]?=some x) (hx:wR X.env.scope x) (hm:i<m:=by decide) (hf:X.fn x=true\/X.env.scope.names.lookup x=some .local:=by first | exact .inl rfl | exact .inr rfl | assumption):vM X m (.Name x pos) (gN i) :=
 (wT hN hi hx hf).mono λv e H Q a=>a.elim λB f T d g b hd c k=>k _ _ H (by rw[bT,bT];exact b) (bT ..) (λj h=>eV (by omega)) (hd.assign b i) c
theorem qS:Bz X m [] EE:=LP.mono λe c H Q b=>b.elim λB d T j i h f hd ⟨a,g⟩ k=>by
 subst a;cases e with
 | nil=>exact⟨rfl,k d c H h rfl (λ_ _=>rfl) hd g⟩
 | cons _ _=>simp at f
theorem nP (h1:vM X m e g) (h2:Bz X m es gs) (hs:(assignEach (e::es) X.env).map (·.2)=assign e X.env::(assignEach es X.env).map (·.2):=by rfl):Bz X m (e::es) (BL g gs) :=
 (RZ h1 h2 hs).mono λa L H Q i=>i.elim λB t T b u F l hd o k=>by
  cases b with
  | nil=>exact o.elim
  | cons d b =>
   cases a with
   | nil=>simp at l
   | cons v a =>
    refine⟨v,a,rfl,B,t,oD b a++T,d,_,F,hd,o,λh r M E C f1 d1 q=>⟨B,h,T,b,u,E,by simpa using l,d1,q,λf c I z y f2 d2 x=>k f c I z (y.trans C) (λj p=>(f2 j p).trans (f1 j p)) d2 x⟩⟩
theorem sB (hc:X.calm=true) (h:Bz X m es gs) (hn:(assignEach es X.env).length=n:=by rfl) (hst:(assignEach es X.env).findIdx? (·.1)=none:=by rfl):vM X m (.Tuple es k pos) (Yb n gs) :=
 (IC hc h hn hst).mono λv p H Q e=>e.elim λB f T d g j hd c k=>by
  cases d with
  | tup o =>
   obtain⟨a,i,rfl,l,b⟩:=hd.valAt.tup_inv;exact⟨a,i,rfl,nL.of l,by rw[← b.length];exact c.1,B,f,T,o,g,j,b.length,hd.drop.pushs (A:=λ_=>True) b,c.2,k⟩
  | _=>exact c.elim
end
def QS (te:nI) (g:vA):qV:=λdk De ρ=>te dk ρ λr ρ'=>match sd r with
 | some d=>g d ρ' De.nx
 | none=>False
def uJ:D->D->D->Option D
 | .lst xs,.int i,d=>(tQ xs.length i).map λj=>.lst (xs.set j d)
 | .dK kvs,k,d=>if kvs.length<100000 then (tZ k).map λk=>.dK (nR kvs k d) else none
 | .dT kvs,.tup ks,d=>if kvs.length<100000 then (tM ks).map λk=>.dT (nR kvs k d) else none
 | _,_,_=>none
def Nl (i:Nat) (ti tv:nI):qV:=λdk De ρ=>tv dk ρ λrv ρ1=>(at? ρ1 i).isSome=true/\ti dk ρ1 λrk ρ2=>match sd rv,sd rk,ρ2[i]? with
 | some d,some k,some (.own c)=>∃ c',uJ c k d=some c'/\De.nx (ρ2.set i (.own c'))
 | _,_,_=>False
section
variable {X:Cx}{K:mC}
theorem Ap (he:PD X e te) (hg:vM X m tg g) (hs:swapsWithSole [tg] e pos.line X.env=pure false:=by rfl) (hw:swappedStores [tg] e X.env=pure none:=by rfl)
  (h1:(assignEach [tg] X.env).map (·.2)=[assign tg X.env]:=by rfl):uG X (.Assign [tg] e pos) (QS te g):=(zR he hg hs hw h1).mono λz x H f=>f.elim λB i T C t hd q o=>⟨B,i,T,_,t,hd,q,λr c v y p d1 h1=>by
 cases h:sd r with
 | none=>rw[h] at h1;exact h1.elim
 | some d =>
  rw[h] at h1;exact⟨B,c,T,d,_,p,d1.thaw h,h1,λb a u l k _ d2 j=>(o.1 b a u l k d2).1 j⟩⟩
def Wx:Jf:=λo i v H Q=>Ut o i v H Q\/∃ a H',o = .ref a/\yR H a i v H'/\Q H'
theorem L6 (hu:X.A.units+1<cLine):Jd X Wx:=by
 intro b s f H o i v j k u Q I d e c h;rcases h with h | ⟨a,m,rfl,g,q⟩
 ·exact Ip b s f H o i v j k u Q I d e c h
 ·cases d;exact Xu hu I g e c λp l=>⟨m,l,q⟩
theorem DS.slotW {ρ:List Sl}{σ:St}(hl:ρ.length=σ.length) (h:DS K B (ρ.zip σ++T) H){i:Nat}{c:D}(e:ρ[i]?=some (.own c)):∃ a,σ[i]?=some (some (.ref a))/\qA K (Al B (mD (ρ.zip σ++T))) H a c /\
  ∀ (o:HO) (c':D),(∀ A',Kp (Al B (mD (ρ.zip σ++T))) A' H (upd H a o)->qA K A' (upd H a o) a c')->DS K B ((ρ.set i (.own c')).zip σ++T) (upd H a o):=by
 obtain⟨g,y,f,k,_,j,b⟩:=vU hl e;have d:DS K B (g++(.own c,y)::(f++T)) H:=by rw[j] at h;simpa using h
 obtain⟨a,rfl,_⟩:=d.at;have m:mD (ρ.zip σ++T)=mD g++a::mD (f++T):=by rw[j,bJ,cS,sK];rfl
 obtain⟨t,q,r⟩:=d.ownAt;cases q;refine⟨a,k,by rw[m];exact r,λo c' l=>?_⟩;rw[m] at l;have p:=d.write (o:=o) (d':=c') l;have:=b (.own c') (some (.ref a));rw[zY k] at this;rw[this]
 simpa using p
theorem J7 (h:uJ c k d=some c') (r:qA K A H a c) (ry:oB K A H k y) (rv:Rep K A H d v)
  (hq:∀ o,(∀ A',Kp A A' H (upd H a o)->qA K A' (upd H a o) a c')->Q (upd H a o)):Wx (.ref a) y v H Q:=by
 cases c with
 | lst I =>
  cases k with
  | int i =>
   obtain⟨g,q,l⟩:=r;obtain⟨j,p,rfl⟩:=cF.mp h;have:=ry.int_inv;subst this;exact .inl ⟨a,g,i,j,rfl,rfl,q,by rw[← l.length];exact p,hq _ λA' m=>⟨_,mT,(l.set rv j).mono m⟩⟩
  | _=>cases h
 | dK e =>
  obtain⟨g,q,u,l⟩:=r;have h:=(show (if e.length<100000 then (tZ k).map λj=>D.dK (nR e j d) else none)=some c' from h);by_cases f:e.length<100000
  ·rw[aP f] at h;obtain⟨j,p,rfl⟩:=cF.mp h;rw[Ej p ry];obtain⟨z,x⟩:=G5 u l (k:=j) rv;have B:g.length<sizeLine:=by
    have:=cV List.length u;simp only[aA] at this;exact bI (show g.length<100000 by omega) (by decide)
   exact .inr ⟨a,_,rfl,yR.k q B,hq _ λA' m=>⟨_,mT,z,x.mono m⟩⟩
  ·rw[aM f] at h;cases h
 | dT e =>
  cases k with
  | tup F =>
   obtain⟨g,q,u,l⟩:=r;have h:=(show (if e.length<100000 then (tM F).map λj=>D.dT (nR e j d) else none)=some c' from h);by_cases f:e.length<100000
   ·rw[aP f] at h;obtain⟨j,p,rfl⟩:=cF.mp h;obtain⟨b,L,rfl,C,E⟩:=ry.tup_inv;rw[Q9 p E] at C;obtain⟨z,x⟩:=G5 u l (k:=j) rv;have B:g.length<sizeLine:=by
     have:=cV List.length u;simp only[aA] at this;exact bI (show g.length<100000 by omega) (by decide)
    exact .inr ⟨a,_,rfl,yR.t q C B,hq _ λA' m=>⟨_,mT,z,x.mono m⟩⟩
   ·rw[aM f] at h;cases h
  | _=>cases h
 | _=>cases h
theorem vW (hu:X.A.units+1<cLine) (hv:PD X e tv) (ho:PE X o (qM n)) (hi:PD X i ti)
  (ha:∀ v,assign (.Subscript o i pos') X.env v=(do
   let ov ← holding [v] (eval o X.env);let iv ← holding [v,ov] (eval i X.env)
   standAt pos'
   holding [v,ov,iv] (setItem ov iv v)
   release [v,ov,iv] []):=by intro _;rfl)
  (hs:swapsWithSole [.Subscript o i pos'] e pos.line X.env=pure false:=by rfl) (hw:swappedStores [.Subscript o i pos'] e X.env=pure none:=by rfl)
  (h1:(assignEach [.Subscript o i pos'] X.env).map (·.2)=[assign (.Subscript o i pos') X.env]:=by rfl):uG X (.Assign [.Subscript o i pos'] e pos) (Nl n ti tv) :=
 (zR hv (Bt ho hi (L6 hu) ha) hs hw h1).mono λDn V H m=>m.elim λB u T De O hd M L=>⟨B,u,T,_,O,hd,M,λp l v Z r d1 ⟨hi,h1⟩=>by
  obtain⟨W,S⟩:=cR.mp hi;obtain⟨x,t,_⟩:=d1.peek r S;refine⟨x,t,B,l,(p,some v)::T,_,r,d1,h1,λz j y Y q d2 b=>?_⟩;cases f:sd p with
  | none=>rw[f] at b;exact b.elim
  | some d =>
   cases g:sd z with
   | none=>rw[f,g] at b;exact b.elim
   | some k =>
    cases h:j[n]? with
    | none=>rw[f,g,h] at b;exact b.elim
    | some s =>
     cases s with
     | no=>rw[f,g,h] at b;exact b.elim
     | val c=>rw[f,g,h] at b;exact b.elim
     | own c =>
      rw[f,g,h] at b;obtain⟨U,Q,b⟩:=b;obtain⟨I,F,E⟩:=d2.two f g;obtain⟨a,ha,C,wr⟩:=I.slotW q h;rw[t] at ha;cases ha;exact J7 Q C E.peek F λo N=>(L.1 _ _ _ (by rw[bT];exact q) rfl (wr o U N)).1 b⟩
def Qf (n:Nat) (f:Int->Int->Int) (te:nI):qV:=λdk De ρ=>match at? ρ n with
 | some (.int i)=>te dk ρ λr ρ'=>match r with
  | .val (.int j)=>De.nx (ρ'.set n (.val (.int (f i j))))
  | _=>False
 | _=>False
theorem Tl (hN:X.N.Nodup) (hi:X.N[n]?=some x) (hx:wR X.env.scope x) (he:PD X e te) (ho:Me X op (Ss f)) (hf:X.fn x=true\/X.env.scope.names.lookup x=some .local:=by first | exact .inl rfl | exact .inr rfl | assumption) :
  uG X (.AugAssign (.Name x pos') op e pos) (Qf n f te):=(RJ hN hi hx he ho hf).mono λq p H b=>b.elim λB h T t j hd a l=>by
 unfold Qf at a;cases g:at? h n with
 | none=>rw[g] at a;exact False.elim a
 | some d =>
 rw[g] at a;cases d<;>first | exact False.elim a | skip
 ·obtain⟨v,m,pv⟩:=hd.peek j g;have:=pv.int_inv;subst this;refine⟨_,m,B,h,T,_,j,hd,a,λr k y o i d1 c=>?_⟩;cases r<;>first | exact False.elim c | skip
  rename_i d
  cases d<;>first | exact False.elim c | skip
  have:=d1.valAt.int_inv;subst this;exact⟨_,_,rfl,rfl,(l.1 _ _ o (by rw[bT,bT];exact i) (bT ..) ((d1.drop.push (.int _)).assign i n)).1 c⟩
end
section
variable {X:Cx}
def Yv (K:mC) (R:It->Hp->Prop) (x:V) (H:Hp):Prop:=(∃ a,x = .ref a/\(∃ xs,mG K H a xs)/\R (xI K a) H)\/(∃ a,x = .ref a/\(∃ xs,nL K H a xs)/\R (Bi K a) H)\/∃ z:Str,x = .str z/\z.cps.all (·<128)=true/\R (vR z) H
def Yg (K:mC) (tl:TE):TI:=λσ H R=>tl σ H λx H1=>Yv K R x H1
theorem Pm (hl:PE X l tl):PI X tg l (Yg X.K tl):=by
 intro d s m H R I h;refine mR (hl d s m H _ I h) λv c ⟨x,i,f,j,y⟩=>?_
 have fp:∀ b∈[c.heap.objs.size],uA X d i b:=λb C=>by
  have e:b=c.heap.objs.size:=by simpa using C
  subst e;exact f.fpOk (aZ _) (f.hok.fresh (aZ _))
 rcases y with⟨a,rfl,⟨r,k⟩,q⟩ | ⟨a,rfl,⟨r,k⟩,q⟩ | ⟨z,rfl,E,q⟩
 ·cases j;obtain⟨g,u,p,B⟩:=f.list k;exact gG p.isList ⟨c.heap.objs.size,[c.heap.objs.size],_,_,i,rfl,f.kept (t':=c.toks) λb o e=>aE _ e,Tf a _,⟨_,bB _ rfl,rfl,rfl⟩,fp,q⟩
 ·cases j;obtain⟨g,u,p,B⟩:=f.tuple k;exact wpAny_pyIter_tuple (show c.heap.IsTuple a g.toArray from p) ⟨c.heap.objs.size,[c.heap.objs.size],_,_,i,rfl,f.kept (t':=c.toks) λb o e=>aE _ e,JO a _,⟨_,bB _ rfl,rfl,rfl⟩,fp,q⟩
 ·obtain⟨t,rfl⟩:=j;exact wpAny_pyIter_ascii E ⟨c.heap.objs.size,[c.heap.objs.size],_,vR z,i,rfl,f.kept (t':=c.toks) λb F q=>aE _ q,Qu z t _,⟨_,bB _ rfl,rfl,rfl⟩,fp,q⟩
end
def yG (K:mC) (A:Addr->Prop) (H:Hp) (E:oK):Prop:=∀ p∈E,tD K A H p.1 p.2
structure YD (K:mC) (J:It) (ds:List D) (E:oK):Prop where
 vals:mD E=[]
 go:∀ i H A,i<ds.length->yG K A H E->J.go i H
 yld:∀ i H A x H',i<ds.length->yG K A H E->J.yld i H x H'->∃ d,ds[i]?=some d/\((H'=H/\Rep K A H d x)\/∃ p es vs,H p=none/\x = .ref p/\H'=upd H p (.tup vs)/\d = .tup es/\Reps K A H es vs)
 stop:∀ i H A,i=ds.length->yG K A H E->J.stop i H
abbrev vX:=List Addr->List Sl->(List D->List Sl->Prop)->Prop
def dI (K:mC) (ι:vX):TI:=λσ H R=>∃ (B:Bs) (ρ:List Sl) (T:oK) (Ψ:List D->List Sl->Prop),ρ.length=σ.length/\DS K B (ρ.zip σ++T) H/\ι B.dk ρ Ψ /\
 ∀ (J:It) (ds:List D) (ρ':List Sl) (E:oK) (H':Hp),ρ'.length=σ.length->DS K B (ρ'.zip σ++(E++T)) H'->YD K J ds E->Ψ ds ρ'->R J H'
theorem dI.elim {K:mC}{R:It->Hp->Prop}{P:Prop}(h:dI K ι σ H R) (f:∀ (B:Bs) (ρ:List Sl) (T:oK) (Ψ:List D->List Sl->Prop),ρ.length=σ.length->DS K B (ρ.zip σ++T) H->ι B.dk ρ Ψ ->(∀ (J:It) (ds:List D) (ρ':List Sl) (E:oK) (H':Hp),ρ'.length=σ.length->DS K B (ρ'.zip σ++(E++T)) H'->YD K J ds E->Ψ ds ρ'->R J H')->P):P:=by
 obtain⟨B,ρ,T,Ψ,b,hd,a,k⟩:=h;exact f B ρ T Ψ b hd a k
abbrev xT (X:Cx) (tg iter:Expr) (ι:vX):Prop:=PI X tg iter (dI X.K ι)
theorem PI.mono {X:Cx}{iter:Expr}(h:PI X tg iter w) (k:∀ σ H R,w' σ H R->w σ H R):PI X tg iter w':=λa s σ H R I q=>h a s σ H R I (k σ H R q)
def Bk (z:Str):List D:=z.cps.toList.map λc=>D.str ⟨#[c]⟩
def KY:D->Option (List D)
 | .lst xs=>some xs
 | .tup xs=>some xs
 | .con xs=>some xs
 | .scr xs=>some xs
 | .str z=>if z.cps.all (·<128) then some (Bk z) else none
 | _=>none
def iV (te:nI):vX:=λdk ρ Ψ=>te dk ρ λr ρ'=>match (sd r).bind KY with
 | some ds=>Ψ ds ρ'
 | none=>False
def uB (lo:Int) (n:Nat):List D:=(List.range n).map λ(i:Nat)=>D.int (lo+i)
def Sb (te:nI):vX:=λdk ρ Ψ=>te dk ρ λr ρ'=>match r with
 | .val (.int j)=>-(2 ^ 62)<=j/\j<2 ^ 62/\Ψ (uB 0 j.toNat) ρ'
 | _=>False
section
variable {X:Cx}{K:mC}
theorem IX {a:Addr}{ds:List D}:YD K (xI K a) ds [(.val (.lst ds),some (.ref a))] where
 vals:=rfl
 go:=λi H A g ok=>by
  obtain⟨v,e,r⟩:=ok _ aK;cases e;obtain⟨h,b,e,_,f,c⟩:=r.lst_inv;cases e;exact⟨b,b[i]'(by rw[← c.length];exact g),mG.of f,aG _⟩
 yld:=λi H A x j g ok y=>by
  obtain⟨v,e,r⟩:=ok _ aK;cases e;obtain⟨h,b,e,_,f,c⟩:=r.lst_inv;cases e;obtain⟨d,hd,rd⟩:=c.getV (y.2 b (mG.of f));exact⟨d,hd,.inl ⟨y.1,rd⟩⟩
 stop:=λi H A g ok=>by
  obtain⟨v,e,r⟩:=ok _ aK;cases e;obtain⟨h,b,e,_,f,c⟩:=r.lst_inv;cases e;exact⟨b,mG.of f,by rw[← c.length];omega⟩
theorem LD {a:Addr}{ds:List D}:YD K (xI K a) ds [(.val (.scr ds),some (.ref a))] where
 vals:=rfl
 go:=λi H A g ok=>by
  obtain⟨v,e,r⟩:=ok _ aK;cases e;obtain⟨h,b,e,f,c⟩:=r.scr_inv;cases e;exact⟨b,b[i]'(by rw[← c.length];exact g),f.sqL,aG _⟩
 yld:=λi H A x j g ok y=>by
  obtain⟨v,e,r⟩:=ok _ aK;cases e;obtain⟨h,b,e,f,c⟩:=r.scr_inv;cases e;obtain⟨d,hd,rd⟩:=c.getV (y.2 b f.sqL);exact⟨d,hd,.inl ⟨y.1,rd⟩⟩
 stop:=λi H A g ok=>by
  obtain⟨v,e,r⟩:=ok _ aK;cases e;obtain⟨h,b,e,f,c⟩:=r.scr_inv;cases e;exact⟨b,f.sqL,by rw[← c.length];omega⟩
theorem Pu {a:Addr}{d:D}{ds:List D}(hd:d = .tup ds\/d = .con ds):YD K (Bi K a) ds [(.val d,some (.ref a))]:=by
 have key:∀ A H,yG K A H [(.val d,some (.ref a))]->∃ b,nL K H a b/\Reps K A H ds b:=λA H ok=>by
  obtain⟨v,e,r⟩:=ok _ aK;cases e;rcases hd with rfl | rfl
  ·obtain⟨h,b,e,f,c⟩:=r.tup_inv;cases e;exact⟨b,nL.of f,c⟩
  ·obtain⟨h,b,e,f,c⟩:=r.con_inv;cases e;exact⟨b,f.sqT,c⟩
 refine⟨rfl,λi H A g ok=>?_,λi H A x j g ok y=>?_,λi H A g ok=>?_⟩
 ·obtain⟨b,f,c⟩:=key A H ok;exact⟨b,b[i]'(by rw[← c.length];exact g),f,aG _⟩
 ·obtain⟨b,f,c⟩:=key A H ok;obtain⟨d,hd,rd⟩:=c.getV (y.2 b f);exact⟨d,hd,.inl ⟨y.1,rd⟩⟩
 ·obtain⟨b,f,c⟩:=key A H ok;exact⟨b,f,by rw[← c.length];omega⟩
theorem NH:YD K (vR z) (Bk z) [] where
 vals:=rfl
 go:=λi H A a _=>by simpa [vR,Bk,Str.length] using a
 yld:=λi H A x d a _ y=>by
  obtain⟨e,c,b,rfl⟩:=y;refine⟨.str ⟨#[c]⟩,?_,.inl ⟨e,.str _⟩⟩;unfold Bk;rw[aX,dX,b];rfl
 stop:=λi H A a _=>by simp[vR,a,Bk,Str.length]
theorem JD {lo:Int}:YD K (vE lo n) (uB lo n) [] where
 vals:=rfl
 go:=λi H A a _=>by simpa [vE,uB] using a
 yld:=λi H A x c a _ y=>by
  have b:i<n:=by simpa [uB] using a
  refine⟨.int (lo+i),by simp[uB,b],.inl ⟨y.1,?_⟩⟩;rw[y.2];exact .int _
 stop:=λi H A a _=>by simp[vE,uB,a]
theorem nS (he:PD X e te):xT X tg e (iV te):=(Pm he).mono λE H R p=>p.elim λB t T u y hd x k=>⟨B,t,T,_,y,hd,x,λr c v l j d1 b=>by
 cases q:sd r with
 | none=>rw[q] at b;exact b.elim
 | some d =>
  rw[q] at b;have d2:=d1.thaw q;have i:=d2.valAt;cases d with
  | lst f=>obtain⟨a,g,rfl,_,h,m⟩:=i.lst_inv;exact .inl ⟨a,rfl,⟨g,mG.of h⟩,k _ f c [_] l j d2 IX b⟩
  | scr f=>obtain⟨a,g,rfl,h,m⟩:=i.scr_inv;exact .inl ⟨a,rfl,⟨g,h.sqL⟩,k _ f c [_] l j d2 LD b⟩
  | tup f=>obtain⟨a,g,rfl,h,m⟩:=i.tup_inv;exact .inr (.inl ⟨a,rfl,⟨g,nL.of h⟩,k _ f c [_] l j d2 (Pu (.inl rfl)) b⟩)
  | con f=>obtain⟨a,g,rfl,h,m⟩:=i.con_inv;exact .inr (.inl ⟨a,rfl,⟨g,h.sqT⟩,k _ f c [_] l j d2 (Pu (.inr rfl)) b⟩)
  | str z =>
   have:=i.str_inv;subst this;have b:=(show (match (if z.cps.all (·<128)=true then some (Bk z) else none:Option (List D)) with | some C=>u C c | none=>False) from b);by_cases o:z.cps.all (·<128)=true
   ·rw[aP o] at b;exact .inr (.inr ⟨z,rfl,o,k _ _ c [] l j d2.drop NH b⟩)
   ·rw[aM o] at b;exact b.elim
  | _=>exact b.elim⟩
theorem Aj (hg:Gl X "range") (hm:X.mg "range" = none) (ha:PD X a te) (hs:starEach [a] X.env=[(false,eval a X.env)]:=by rfl) (hn:yS a=true:=by rfl):xT X tg (.Call (.Name "range" p) [a] [] pos) (Sb te) :=
 (Bv hg hm (nC ha nJ hn) hs).mono λl H R e=>e.elim λB f T m i hd h k=>⟨B,f,T,_,i,hd,h,λr c v j g d1 b=>by
  cases r<;>first | exact False.elim b | skip
  rename_i d
  cases d<;>first | exact False.elim b | skip
  have:=d1.valAt.int_inv;subst this;exact⟨_,rfl,b.1,b.2.1,k _ _ c [] j g d1.drop JD b.2.2⟩⟩
def Jc (ι:vX) (g:vA) (tb:qV):qV:=λdk De ρ=>ι dk ρ λds ρ1=>∃ Pv:Nat->List Sl->Prop,Pv 0 ρ1 /\
 (∀ i d ρ',ds[i]?=some d->Pv i ρ'->g d ρ' λρ2=>tb dk { nx:=Pv (i+1),ct:=Pv (i+1),bk:=De.nx,rt:=De.rt } ρ2)/\∀ ρ',Pv ds.length ρ'->De.nx ρ'
theorem DS.rmE:∀ {E:oK},DS K B (L++(E++T)) H->DS K B (L++T) H
 | [],h=>h
 | x::E,h=>DS.rmE (E:=E) (DS.drop (L1:=L) (x:=x) (by simpa using h))
theorem qU {iter:Expr}{m:Nat}{body:List Stmt}{ι:vX}{g:vA}{tb:qV}(hp:PassesOwn (model X.prog X.w) X.A X.env X.xe) (hc:X.calm=true) (hi:xT X tg iter ι) (hg:vM X m tg g) (hb:vN X body tb)
  (hs:∀ x,foldedSetIterable iter X.env x=pure x:=by intro _;rfl):uG X (.For tg iter body [] pos) (Jc ι g tb) :=
 (Af hp hc hi hg hb hs).mono λDn U H O=>O.elim λB W T De hl hd ht N=>⟨B,W,T,_,hl,hd,ht,λJ o L E H1 l1 d1 Y ⟨Pv,p0,step,fin⟩=>by
  refine⟨λi m b l=>m=o.length-i/\i<=o.length/\∃ a,a.length=b.length/\b.length=U.length/\DS X.K B (a.zip b++(E++T)) l/\Pv i a,⟨_,rfl,cO _,L,l1,rfl,d1,p0⟩,?_⟩;rintro i m b l ⟨rfl,aa,a,V,m2,F,pv⟩;have k:yG X.K (Al B (mD (a.zip b++(E++T)))) l E:=λq hq=>F.ok q (by simp[hq])
  by_cases j:i<o.length
  ·refine .inr ⟨Y.go i l _ j k,λf C=>∃ c,c.length=f.length/\f.length=U.length/\DS X.K B (c.zip f++(E++T)) C/\Pv (i+1) c,λf C ⟨c,q1,q2,M,q4⟩=>⟨_,(by omega:o.length-(i+1)<_),rfl,j,c,q1,q2,M,q4⟩,λx C y=>?_⟩;obtain⟨d,S,alt⟩:=Y.yld i l _ x C j k y;have d2:DS X.K B (a.zip b++(.val d,some x)::(E++T)) C:=by
    rcases alt with⟨rfl,Z⟩ | ⟨p,es,vs,Q,rfl,rfl,rfl,rr⟩
    ·exact F.push Z
    ·exact F.tup Q rr
   refine⟨B,a,E++T,d,_,V,d2,step i d a S pv,λc f H3 n1 n2 _ d3 M=>⟨B,c,E++T,_,n1,d3,M,?_,?_⟩⟩
   ·intro e h I u a2 t;refine⟨λz=>⟨e,u,by omega,t,z⟩,λz=>?_,λz=>⟨e,u,by omega,t,z⟩⟩;exact (N.1 e h I u (by omega) t.rmE).1 z
   ·intro r v e h I u t z;refine N.2 r v e h I u ?_ z;have:DS X.K B ((e.zip h++[(r,some v)])++(E++T)) I:=by simpa using t
    simpa using this.rmE
  ·have ei:i=o.length:=by omega
   subst ei;exact .inl ⟨Y.stop _ l _ rfl k,(N.1 a b l V m2 F.rmE).1 (fin a pv)⟩⟩
def PP (c:sO) (tb:qV):qV:=λdk De ρ=>∃ (Pv:List Sl->Prop) (μ:List Sl->Nat),Pv ρ/\∀ ρ,Pv ρ->c dk ρ λb ρ1 =>
 if b=true then tb dk { nx:=λρ'=>Pv ρ'/\μ ρ'<μ ρ,ct:=λρ'=>Pv ρ'/\μ ρ'<μ ρ,bk:=De.nx,rt:=De.rt } ρ1 else De.nx ρ1
theorem Pe {c:Expr}{body:List Stmt}{tc:sO}{tb:qV}(hp:PassesOwn (model X.prog X.w) X.A X.env X.xe) (hc:tV X c tc) (hb:vN X body tb):uG X (.While c body [] pos) (PP tc tb) :=
 (IA hp hc hb).mono λZ t H p=>p.elim λB E T De U hd ⟨Pv,l,O,step⟩ o=>by
  refine⟨λm e C=>∃ a,m=l a/\a.length=e.length/\e.length=t.length/\DS X.K B (a.zip e++T) C/\Pv a,⟨_,E,rfl,U,rfl,hd,O⟩,?_⟩;rintro m e C ⟨a,rfl,S,Q,V,pv⟩;refine⟨B,a,T,_,S,V,step a pv,λb i W u d1 x=>?_⟩;cases b with
  | true =>
   refine (aP rfl).mpr ⟨λg y=>∃ d,d.length=g.length/\g.length=t.length/\DS X.K B (d.zip g++T) y/\Pv d/\l d<l a,λg y ⟨d,N,M,L,I,F⟩=>⟨_,F,d,rfl,N,M,L,I⟩,B,i,T,_,u,d1,(aP rfl).mp x,?_,?_⟩
   ·intro f h q k Y j;exact⟨λz=>⟨f,k,by omega,j,z⟩,λz=>(o.1 f h q k (by omega) j).1 z,λz=>⟨f,k,by omega,j,z⟩⟩
   ·exact λr v f h q k j z=>o.2 r v f h q k j z
  | false=>exact pT ((o.1 i e W u Q d1).1 ((aM (by decide)).mp x))
end
def nG (B:Bs) (D:Addr) (ys:List V):Bs:=⟨B.dk,λa=>(B.A0 a\/B.H0 a=none)/\a≠D,λa=>if a=D then some (.lst ys) else B.H0 a⟩
section
variable {K:mC}{R:oK}{D:Addr}
theorem C7 {R:List Addr}:Al (nG B D ys) R a↔Al B R a/\a≠D:=by
 unfold Al nG;constructor
 ·rintro ⟨d,c,b | b⟩
  ·exact⟨⟨d,c,b.1⟩,b.2⟩
  ·dsimp only at b;by_cases z:a=D
   ·rw[aP z] at b;cases b
   ·rw[aM z] at b;exact⟨⟨d,c,.inr b⟩,z⟩
 ·rintro ⟨⟨d,c,b⟩,e⟩;exact⟨d,c,.inl ⟨b,e⟩⟩
theorem DS.pin (h:DS K B L H) (hD:H D=none):DS K (nG B D []) L (upd H D (.lst [])):=by
 obtain⟨f1,f2,f⟩:=h.free hD;refine⟨λb o e n=>?_,h.dk.upd f2,h.nd,λa c=>?_,λp d=>(h.ok p d).mono (.laid hD λa z n=>C7.mpr ⟨z,n⟩) λb g o q=>by rw[mO (nO q hD)];exact q⟩
 ·by_cases z:b=D
  ·subst z;simp only[nG,iD] at e;cases e;exact mT
  ·simp only[nG,aM z] at e;rw[mO z];exact h.fr b o e n
 ·have:=h.new a c;have z:a≠D:=λq=>f (q▸c)
  exact⟨by simp only[nG,aM z];exact this.1,this.2⟩
theorem DS.pinAt (h:DS K (nG B D ys) L H) (hn:D∉B.dk):H D=some (.lst ys):=h.fr D _ (by simp[nG]) hn
theorem DS.pinW (h:DS K (nG B D ys) L H) (hn:D∉B.dk):DS K (nG B D ys') L (upd H D (.lst ys')):=by
 have i:=h.pinAt hn;have d:Kp (Al (nG B D ys) (mD L)) (Al (nG B D ys') (mD L)) H (upd H D (.lst ys')) :=
  (Kp.write (A:=Al (nG B D ys) (mD L)) i rfl λz=>(C7.mp z).2 rfl).trans (.all λa z=>C7.mpr (C7.mp z))
 refine⟨λb o e n=>?_,h.dk.upd hn,h.nd,λa g=>?_,λp c=>(h.ok p c).mono d λb f o q=>?_⟩
 ·by_cases z:b=D
  ·subst z;simp only[nG,iD] at e;cases e;exact mT
  ·simp only[nG,aM z] at e;rw[mO z];exact h.fr b o (by simp only[nG,aM z];exact e) n
 ·have:=h.new a g;have z:a≠D:=λq=>by subst q;simp[nG] at this
  simp only[nG,aM z] at this ⊢;exact this
 ·have:=(h.new b (uR.mpr ⟨p,c,f⟩)).1;have z:b≠D:=λw=>by subst w;simp[nG] at this
  rw[mO z];exact q
theorem DS.unpin (h:DS K (nG B D ys) L H) (r:Reps K (Al (nG B D ys) (mD L)) H yd ys) (h0:B.H0 D=none) (hn:D∉B.dk):DS K B ((.own (.lst yd),some (.ref D))::L) H:=by
 have k:=h.pinAt hn;have f:D∉mD L:=λz=>by have:=(h.new D z).1;simp[nG] at this
 have d:mD ((Sl.own (.lst yd),some (V.ref D))::L)=D::mD L:=rfl;have al:∀ a,Al (nG B D ys) (mD L) a->Al B (D::mD L) a:=λa z=>by
  obtain⟨c,i⟩:=C7.mp z;exact⟨c.1,λq=>(aL.mp q).elim i c.2.1,c.2.2⟩
 refine⟨λb o e n=>?_,h.dk,by rw[d];exact cH.mpr ⟨f,h.nd⟩,λa g=>?_,λp j=>?_⟩
 ·have z:b≠D:=λq=>by subst q;rw[h0] at e;cases e
  exact h.fr b o (by simp only[nG,aM z];exact e) n
 ·rw[d] at g;rcases aL.mp g with q | q
  ·subst q;exact⟨h0,hn⟩
  ·have:=h.new a q;have z:a≠D:=λw=>f (w▸q)
   simp only[nG,aM z] at this;exact this
 ·rw[d];rcases aL.mp j with q | q
  ·subst q;exact⟨D,rfl,ys,k,r.mono (.all al)⟩
  ·exact (h.ok p q).mono (.all al) λ_ _ _ w=>w
theorem DS.lend1 {ρ:List Sl}{σ:St}(hl:ρ.length=σ.length) (h:DS K B (ρ.zip σ++R) H) (i:Nat):DS K B ((ρ.set i .no).zip σ++((ρ[i]?).getD .no,(σ[i]?).join)::R) H:=by
 by_cases f:i<ρ.length
 ·obtain⟨b,y,c,d,_,g,a⟩:=vU hl (aG f);rw[g] at h;have m:DS K B (b++(ρ[i],y)::(c++R)) H:=by simpa using h
  have l:=m.front;have k:DS K B (((ρ[i],y)::b)++(.no,y)::(c++R)) H:=DS.pushN (L1:=(ρ[i],y)::b) (by simpa using l) y;have e:=a .no y;rw[zY d] at e;rw[e,aG f,d];have j:DS K B ((ρ[i],y)::((b++(Sl.no,y)::c)++R)) H:=by simpa using k
  exact j.mid
 ·rw[iG (by omega),fZ (by omega),fZ (by omega)];exact h.pushN _
theorem DS.back1 {ρ:List Sl}{σ:St}{s:Sl}{y:Option V}(hl:ρ.length=σ.length) (h:DS K B (ρ.zip σ++(s,y)::R) H){i:Nat}(hy:(σ[i]?).join=y):DS K B ((ρ.set i s).zip σ++R) H:=by
 by_cases j:i<ρ.length
 ·obtain⟨d,a,f,b,_,g,c⟩:=vU hl (aG j);rw[b] at hy;have hy:a=y:=hy;subst hy;have e:=c s a;rw[zY b] at e;rw[e];rw[g] at h;have m:DS K B (d++(f++(s,a)::R)) H:=DS.drop (L1:=d) (x:=(ρ[i],a)) (by simpa using h);have l:DS K B ((d++f)++(s,a)::R) H:=by simpa using m
  have k:DS K B ((s,a)::(d++(f++R))) H:=by simpa using l.front
  simpa using k.mid
 ·rw[iG (by omega)];exact h.drop
def oQ (caps:List Nat) (ρ:List Sl):List Sl:=caps.map λi=>(ρ[i]?).getD .no
def pM (caps:List Nat) (σ:St):St:=caps.map λi=>(σ[i]?).join
def nY (caps:List Nat) (ρ:List Sl):List Sl:=caps.foldl (λρ i=>ρ.set i .no) ρ
def pS:List Nat->List Sl->List Sl->List Sl
 | i::caps,s::cs,ρ=>pS caps cs (ρ.set i s)
 | _,_,ρ=>ρ
theorem Ex:∀ (caps:List Nat) (ρ:List Sl),(nY caps ρ).length=ρ.length
 | [],_=>rfl
 | i::caps,ρ=>by show (nY caps (ρ.set i .no)).length=_;rw[Ex caps,bT]
theorem Lv:∀ (caps:List Nat) (cs:List Sl) (ρ:List Sl),(pS caps cs ρ).length=ρ.length
 | [],_,_=>rfl
 | _::_,[],_=>rfl
 | i::caps,s::cs,ρ=>(Lv caps cs (ρ.set i s)).trans (bT ..)
theorem DS.lend:∀ {caps:List Nat}{ρ:List Sl}{R:oK},caps.Nodup->ρ.length=σ.length->DS K B (ρ.zip σ++R) H->DS K B ((nY caps ρ).zip σ++((oQ caps ρ).zip (pM caps σ)++R)) H
 | [],ρ,R,_,a,h=>h
 | i::caps,ρ,R,f,a,h=>by
  obtain⟨d,c⟩:=cH.mp f;have b:=DS.lend (caps:=caps) (R:=((ρ[i]?).getD .no,(σ[i]?).join)::R) c (by rw[bT];exact a) (h.lend1 a i);have e:oQ caps (ρ.set i .no)=oQ caps ρ:=eP λj g=>by rw[eV (λz:i=j=>d (by rw[z];exact g))]
  rw[e] at b;show DS K B ((nY caps (ρ.set i .no)).zip σ++((((ρ[i]?).getD .no,(σ[i]?).join)::(oQ caps ρ).zip (pM caps σ))++R)) H;refine b.perm (gA _ ?_);rw[cS];exact eW
theorem DS.back:∀ {caps:List Nat}{cs:List Sl}{ρ:List Sl}{R:oK},cs.length=caps.length->ρ.length=σ.length->DS K B (ρ.zip σ++(cs.zip (pM caps σ)++R)) H->DS K B ((pS caps cs ρ).zip σ++R) H
 | [],[],ρ,R,_,a,h=>h
 | [],_::_,_,_,e,_,_=>by simp at e
 | _::_,[],_,_,e,_,_=>by simp at e
 | i::caps,s::cs,ρ,R,e,a,h=>by
  have b:DS K B (ρ.zip σ++(s,(σ[i]?).join)::(cs.zip (pM caps σ)++R)) H:=h;exact DS.back (caps:=caps) (cs:=cs) (by simpa using e) (by rw[bT];exact a) (b.back1 a rfl)
theorem P2 (caps:List Nat):∀ (cs:List Sl) (ρ:List Sl),cs.length=caps.length->caps.Nodup->pS caps cs (nY caps ρ)=pS caps cs ρ:=by
 have ext:∀ (caps:List Nat) (cs:List Sl) (ρ a:List Sl),cs.length=caps.length->ρ.length=a.length->(∀ j,j∉caps->ρ[j]?=a[j]?)->pS caps cs ρ=pS caps cs a:=by
  intro caps;induction caps with
  | nil=>intro cs ρ a _ _ h;cases cs<;>exact iZ λj=>h j bH
  | cons i caps c =>
   intro cs ρ a e d h;cases cs with
   | nil=>simp at e
   | cons s cs =>
    show pS caps cs (ρ.set i s)=pS caps cs (a.set i s);refine c cs _ _ (by simpa using e) (by simp[d]) λj b=>?_
    by_cases z:j=i
    ·subst z;rw[List.getElem?_set,List.getElem?_set,d,aP rfl,aP rfl]
    ·rw[eV (eC z),eV (eC z)];exact h j λq=>(aL.mp q).elim z b
 intro cs ρ e _;refine ext caps cs _ _ e (Ex caps ρ) λj b=>?_
 have:∀ (caps:List Nat) (ρ:List Sl),j∉caps->(nY caps ρ)[j]?=ρ[j]?:=by
  intro caps;induction caps with
  | nil=>intro ρ _;rfl
  | cons i caps c =>
   intro ρ b;show (nY caps (ρ.set i .no))[j]?=_;rw[c _ (λz=>b (aT _ z)),eV (λz=>b (by simp[z]))]
 exact this caps ρ b
theorem Oo:∀ {yd:List L2.D}{ys:List V},yd.length=ys.length->(∀ p∈oD yd ys,tD K A H p.1 p.2)->Reps K A H yd ys
 | [],[],_,_=>.nil
 | [],_::_,e,_=>by simp at e
 | _::_,[],e,_=>by simp at e
 | c::yd,y::ys,e,key=>by
  obtain⟨u,b,r⟩:=key (.val c,some y) (by simp[oD]);cases b;exact .cons r (Oo (by simpa using e) λp a=>key p (by simp only[oD,cN,aO,aL] at a ⊢;exact .inr a))
theorem DS.forget {ρ:List Sl}(n:Nat) (hl:ρ.length=σ.length) (hn:n<=ρ.length) (h:DS K B (ρ.zip σ++R) H):DS K B ((List.replicate n Sl.no++ρ.drop n).zip σ++R) H:=by
 induction n generalizing ρ σ R with
 | zero=>simpa using h
 | succ n a =>
  cases ρ with
  | nil=>simp at hn
  | cons r ρ =>
   cases σ with
   | nil=>simp at hl
   | cons y σ =>
    have c:DS K B (ρ.zip σ++R) H:=DS.drop (L1:=[]) (x:=(r,y)) h;have b:=a (ρ:=ρ) (σ:=σ) (R:=R) (by simpa using hl) (by simpa using hn) c;rw[cQ,cS,List.drop_succ_cons,cN];exact DS.pushN (L1:=[]) b y
end
def Km:sO:=λ_ ρ Φ=>Φ true ρ
def uF (n:Nat) (caps:List Nat) (ι:vX) (g:vA) (tt:sO) (te:nI):nI:=λdk ρ Φ=>ι dk ρ λds ρ1=>∃ Pv:Nat->List D->List Sl->Prop,Pv 0 [] (oQ caps ρ1) /\
 (∀ i d ys cs,ds[i]?=some d->cs.length=caps.length->Pv i ys cs->g d (List.replicate n Sl.no++cs) λρ2=>tt dk ρ2 λb ρ3=>if b=true then te dk ρ3 λr ρ4=>match sd r with
  | some c=>ys.length<100000/\Pv (i+1) (ys++[c]) (ρ4.drop n)
  | none=>False
  else Pv (i+1) ys (ρ3.drop n)) /\
 ∀ ys cs,cs.length=caps.length->Pv ds.length ys cs->Φ (.own (.lst ys)) (pS caps cs ρ1)
section
variable {X:Cx}
theorem pG:vF X [] (uM X.K Km):=λa s c H Q I b=>b.elim λB d T g f hd e k=>Cq a s c H Q I (k true d H f hd e)
theorem xE (h:tV X c t):vF X [c] (uM X.K t):=V1 h
theorem Mf {K:mC}(hcap:caps.Nodup) (h:dE K (uF T.length caps ι g tt te) σ H Q) :
  zM T caps (dI K ι) (dG K T.length g) (uM K tt) (dE K te) σ H Q:=by
 obtain⟨B,ρ,Tm,Φ,hl,hd,ht,k⟩:=h;refine⟨B,ρ,Tm,_,hl,hd,ht,λJ W f E H1 l1 d1 Y ⟨Pv,p0,step,fin⟩ D hD=>?_⟩;obtain⟨f1,f2,f3⟩:=d1.free hD;refine⟨λi m l C I=>m=W.length-i/\i<=W.length/\C.length=T.length+caps.length/\(∀ j,T.length<=j->C[j]?=(qB T caps σ)[j]?)/\∃ (z:List L2.D) (F:List Sl),F.length=caps.length/\z.length=l.length /\ DS K (nG B D l) ((List.replicate T.length Sl.no++F).zip C++((nY caps f).zip σ++(oD z l++(E++Tm)))) I/\Pv i z F,?_,?_⟩
 ·refine⟨_,rfl,cO _,by simp[qB],λ_ _=>rfl,[],oQ caps f,by simp[oQ],rfl,?_,p0⟩;have h2:=(d1.lend hcap l1).pin hD;have e:(List.replicate T.length Sl.no++oQ caps f).zip (qB T caps σ)=List.replicate T.length (Sl.no,none)++(oQ caps f).zip (pM caps σ):=by
   have:∀ n,(List.replicate n Sl.no++oQ caps f).zip (List.replicate n none++pM caps σ)=List.replicate n (Sl.no,none)++(oQ caps f).zip (pM caps σ):=by
    intro n;induction n with
    | zero=>rfl
    | succ n ih=>simp only[cQ,cS,cN,ih]
   have e2:qB T caps σ=List.replicate T.length none++pM caps σ:=by unfold qB pM;rw[List.map_const']
   rw[e2];exact this _
  rw[e];have h3:DS K (nG B D []) ((oQ caps f).zip (pM caps σ)++((nY caps f).zip σ++(E++Tm))) (upd H1 D (.lst [])):=h2.perm (by
   rw[← bJ,← bJ (as:=(oQ caps f).zip (pM caps σ))];exact iW.append_right _)
  have:∀ n,DS K (nG B D []) (List.replicate n (Sl.no,none)++((oQ caps f).zip (pM caps σ)++((nY caps f).zip σ++(E++Tm)))) (upd H1 D (.lst [])):=by
   intro n;induction n with
   | zero=>exact h3
   | succ n ih=>rw[cQ];exact DS.pushN (L1:=[]) ih none
  have e3:oD ([]:List L2.D) ([]:List V)=[]:=rfl;rw[e3]
  simpa using this T.length
 ·rintro i m l C I ⟨rfl,hi,ls,fs,z,F,lc,S,Z,pv⟩;have O:yG K (Al (nG B D l) (mD ((List.replicate T.length Sl.no++F).zip C++((nY caps f).zip σ++(oD z l++(E++Tm)))))) I E:=λq hq=>Z.ok q (by simp[hq])
  by_cases N:i<W.length
  ·refine .inr ⟨Y.go i I _ N O,λo v H5=>o.length=T.length+caps.length/\(∀ j,T.length<=j->o[j]?=(qB T caps σ)[j]?)/\l.length<100000/\∃ (c:L2.D) (t:List Sl),t.length=o.length/\DS K (nG B D l) (t.zip o++(.val c,some v)::((nY caps f).zip σ++(oD z l++(E++Tm)))) H5/\Pv (i+1) (z++[c]) (t.drop T.length),λo H4=>o.length=T.length+caps.length/\(∀ j,T.length<=j->o[j]?=(qB T caps σ)[j]?)/\∃ t:List Sl,t.length=o.length/\DS K (nG B D l) (t.zip o++((nY caps f).zip σ++(oD z l++(E++Tm)))) H4/\Pv (i+1) z (t.drop T.length),?_,?_,λx H2 y=>?_⟩
   ·rintro o v H5 ⟨q1,q2,q3,c,t,U,M,q6⟩;refine⟨M.pinAt f2,bI q3 (by decide),W.length-(i+1),by omega,rfl,N,q1,q2,z++[c],t.drop T.length,by rw[cW];omega,by simp[S],?_,q6⟩;have w1:=(M.pinW (ys':=l++[v]) f2).forget T.length U (by omega);refine w1.perm (gA _ ?_);have ev:oD (z++[c]) (l++[v])=oD z l++[(.val c,some v)]:=by unfold oD;rw[List.zip_append S,List.map_append];rfl
    rw[ev];have p1:((Sl.val c,some v)::((nY caps f).zip σ++(oD z l++(E++Tm)))).Perm ((nY caps f).zip σ++(oD z l++((Sl.val c,some v)::(E++Tm)))):=by
     rw[← bJ,← bJ (as:=(nY caps f).zip σ)];exact eW.symm
    simpa using p1
   ·rintro o H4 ⟨q1,q2,t,U,M,q6⟩;exact⟨W.length-(i+1),by omega,rfl,N,q1,q2,z,t.drop T.length,by rw[cW];omega,S,M.forget T.length U (by omega),q6⟩
   ·obtain⟨d,af,alt⟩:=Y.yld i I _ x H2 N O y;have d2:DS K (nG B D l) ((List.replicate T.length Sl.no++F).zip C++(.val d,some x)::((nY caps f).zip σ++(oD z l++(E++Tm)))) H2:=by
     rcases alt with⟨rfl,rx⟩ | ⟨p,es,vs,ae,rfl,rfl,rfl,rr⟩
     ·exact Z.push rx
     ·exact Z.tup ae rr
    refine⟨nG B D l,_,_,d,_,by simp[lc,ls],d2,step i d z F af lc pv,λac o H3 n1 n2 fr d3 q3=>⟨nG B D l,ac,_,_,n1,d3,q3,λb aa H4 m1 d4 U=>?_⟩⟩;have ab:∀ j,T.length<=j->o[j]?=(qB T caps σ)[j]?:=λj hj=>(fr j hj).trans (fs j hj)
    cases b with
    | false=>exact pT ⟨by omega,ab,aa,m1,d4,(aM (by decide)).mp U⟩
    | true =>
     refine (aP rfl).mpr ⟨nG B D l,aa,_,_,m1,d4,(aP rfl).mp U,λr t v H5 m4 d5 M=>?_⟩;cases e1:sd r with
     | none=>rw[e1] at M;exact M.elim
     | some c =>
      rw[e1] at M;exact⟨by omega,ab,by rw[← S];exact M.1,c,t,m4,d5.thaw e1,M.2⟩
  ·have ei:i=W.length:=by omega
   subst ei;refine .inl ⟨Y.stop _ I _ rfl O,?_⟩;have es:C=C.take T.length++pM caps σ:=by
    apply iZ;intro j;by_cases hj:j<T.length
    ·rw[hV (by rw[bQ];omega),jF hj]
    ·rw[dF (by rw[bQ];omega),bQ,fs j (by omega)];have e2:qB T caps σ=List.replicate T.length none++pM caps σ:=by unfold qB pM;rw[List.map_const']
     rw[e2,dF (by rw[dD];omega),dD]
     congr 1
     omega
   have ez:(List.replicate T.length Sl.no++F).zip C=(List.replicate T.length Sl.no).zip (C.take T.length)++F.zip (pM caps σ):=by
    conv=>lhs;rw[es]
    exact jM (by rw[dD,bQ];omega)
   have rr:Reps K (Al (nG B D l) (mD ((pS caps F (nY caps f)).zip σ++Tm))) I z l/\DS K (nG B D l) ((pS caps F (nY caps f)).zip σ++Tm) I:=by
    have g1:DS K (nG B D l) (F.zip (pM caps σ)++((nY caps f).zip σ++(oD z l++(E++Tm)))) I:=by
     rw[ez,bJ] at Z;exact DS.rmE (L:=[]) (E:=(List.replicate T.length Sl.no).zip (C.take T.length)) Z
    have g2:DS K (nG B D l) ((nY caps f).zip σ++(F.zip (pM caps σ)++(oD z l++(E++Tm)))) I:=g1.perm (by
     rw[← bJ,← bJ (as:=(nY caps f).zip σ)];exact iW.append_right _)
    have g3:=g2.back lc (by rw[Ex];exact l1);have g4:DS K (nG B D l) ((pS caps F (nY caps f)).zip σ++(oD z l++Tm)) I:=by
     have:DS K (nG B D l) (((pS caps F (nY caps f)).zip σ++oD z l)++(E++Tm)) I:=by simpa using g3
     simpa using this.rmE
    refine⟨?_,g4.rmE⟩;have er:mD ((pS caps F (nY caps f)).zip σ++(oD z l++Tm))=mD ((pS caps F (nY caps f)).zip σ++Tm):=by
     have:mD (oD z l)=[]:=by
      refine gC.mpr λa ha=>?_
      obtain⟨q,hq,e⟩:=uR.mp ha;obtain⟨p,_,rfl⟩:=aV.mp hq;cases e
     rw[rP,rP,rP,this,gI]
    have key:∀ p∈oD z l,tD K (Al (nG B D l) (mD ((pS caps F (nY caps f)).zip σ++Tm))) I p.1 p.2:=λp hp=>by
     have:=g4.ok p (by simp[hp]);rw[er] at this;exact this
    clear g1 g2 g3 g4 er Z O ez es;revert key S;generalize Al (nG B D l) (mD ((pS caps F (nY caps f)).zip σ++Tm))=AA;intro S key;exact Oo S key
   have u:=DS.unpin rr.2 rr.1 f1 f2;rw[P2 caps F f lc hcap] at u;exact k _ _ _ I (by rw[Lv];exact l1) u.mid (fin z F lc pv)
theorem pP {iter:Expr}(T capN:List Str) (caps:List Nat) (hc:X.calm=true) (hi:xT X tg iter ι)
  (hk:scope.kind = .function) (ho:Dg X.N X.env.kindOf scope T capN caps=true)
  (hg:∀ s₀ H₀ C cl fp,vM (uC X (T++capN) scope cl C s₀ H₀ fp) T.length tg g)
  (ht:∀ s₀ H₀ C cl fp,vF (uC X (T++capN) scope cl C s₀ H₀ fp) ifs (uM X.K tt))
  (he:∀ s₀ H₀ C cl fp,PD (uC X (T++capN) scope cl C s₀ H₀ fp) elt te)
  (hcap:caps.Nodup:=by decide) (hs:∀ x,foldedSetIterable iter X.env x=pure x:=by intro _;rfl):PD X (.ListComp elt [⟨tg,iter,ifs,0⟩] scope pos) (uF T.length caps ι g tt te) :=
 (An T capN caps hc hi hk ho hg ht he hs).mono λ_ _ _ h=>Mf hcap h
theorem Ab {iter:Expr}(T capN:List Str) (caps:List Nat) (hN:X.N.Nodup) (hi':X.N[i]?=some x) (hx:wR X.env.scope x)
  (hc:X.calm=true) (hi:xT X tg iter ι) (hk:scope.kind = .function) (ho:Dg X.N X.env.kindOf scope T capN caps=true)
  (hg:∀ s₀ H₀ C cl fp,vM (uC X (T++capN) scope cl C s₀ H₀ fp) T.length tg g)
  (ht:∀ s₀ H₀ C cl fp,vF (uC X (T++capN) scope cl C s₀ H₀ fp) ifs (uM X.K tt))
  (he:∀ s₀ H₀ C cl fp,PD (uC X (T++capN) scope cl C s₀ H₀ fp) elt te)
  (hcap:caps.Nodup:=by decide)
  (hsw:swapsWith (.ListComp elt [⟨tg,iter,ifs,0⟩] scope pos) (some (.Name x pos')) spos.line X.env=pure true:=by rfl)
  (hs:∀ x,foldedSetIterable iter X.env x=pure x:=by intro _;rfl)
  (hf:X.fn x=true\/X.env.scope.names.lookup x=some .local:=by first | exact .inl rfl | exact .inr rfl | assumption) :
  uG X (.Assign [.Name x pos'] (.ListComp elt [⟨tg,iter,ifs,0⟩] scope pos) spos) (rG i (uF T.length caps ι g tt te)) :=
 (EV T capN caps hN hi' hx hc hi hk ho hg ht he hsw hs hf).mono λl k H a=>a.elim λB d Tm m f hd ht e=>Mf hcap ⟨B,d,Tm,_,f,hd,ht,λr c v j b d1 h=>(e.1 _ _ j (by rw[bT,bT];exact b) (bT ..) (d1.assign b i)).1 h⟩
end
section
variable {X:Cx}{K:mC}
theorem sI (h:Peeks K A H [d] xs):∃ x,xs=[x]/\oB K A H d x:=by
 cases h with | cons h r=>cases r;exact⟨_,rfl,h⟩
theorem Dd (h:Peeks K A H [d,e] xs):∃ x y,xs=[x,y]/\oB K A H d x/\oB K A H e y:=by
 cases h with | cons h r=>cases r with | cons g r=>cases r;exact⟨_,_,rfl,h,g⟩
def Zm:D->Option Nat
 | .lst xs=>some xs.length
 | .tup xs=>some xs.length
 | .con xs=>some xs.length
 | .scr xs=>some xs.length
 | .str z=>some z.length
 | .dK kvs=>some kvs.length
 | _=>none
def ES:OC:=λds Φ=>match ds with
 | [d]=>My d=true/\∃ n,Zm d=some n/\Φ (.val (.int n))
 | _=>False
def Pa (K:mC):List V->Hp->VK->Prop:=λxs H Q=>(∃ p ys,xs=[.ref p]/\(mG K H p ys\/nL K H p ys)/\Q (.int ys.length) H)\/(∃ z,xs=[.str z]/\z.length<=sizeLine/\Q (.int z.length) H)\/∃ a kvs,xs=[V.ref a]/\H a=some (.dK kvs)/\Q (.int kvs.length) H
theorem qQ:oP X (.builtin "len") (Pa X.K):=zA.or (Qj.or Yf)
theorem qR:sG K (Pa K) ES:=by
 intro B L H i o m Q hd l g k;cases i with
 | nil=>exact False.elim g
 | cons d i =>
 cases i with
 | cons _ _=>exact False.elim g
 | nil =>
 obtain⟨x,rfl,f⟩:=sI l;obtain⟨j,n,c,g⟩:=g;have fin:Q (.int n) H:=k _ _ H g (hd.pushF (.int _));cases d<;>first | (cases c;done) | skip
 ·cases c;have:=f.str_inv;subst this;exact .inr (.inl ⟨_,rfl,zQ (cB j),fin⟩)
 ·cases c;obtain⟨a,b,rfl,h,r⟩:=f.tup_inv;exact .inl ⟨a,b,rfl,.inr (nL.of h),by rw[← r.length];exact fin⟩
 ·cases c;obtain⟨a,b,rfl,h,r⟩:=f.lst_inv;exact .inl ⟨a,b,rfl,.inl (mG.of h),by rw[← r.length];exact fin⟩
 ·cases c;obtain⟨a,b,rfl,h,e,r⟩:=f.dK_inv;refine .inr (.inr ⟨a,b,rfl,h,?_⟩);have:=cV List.length e;rw[aA,aA] at this;rw[← this];exact fin
 ·cases c;obtain⟨a,b,rfl,h,r⟩:=f.scr_inv;exact .inl ⟨a,b,rfl,.inl h.sqL,by rw[← r.length];exact fin⟩
 ·cases c;obtain⟨a,b,rfl,h,r⟩:=f.con_inv;exact .inl ⟨a,b,rfl,.inr h.sqT,by rw[← r.length];exact fin⟩
def zX:List D->Option (List Int)
 | []=>some []
 | .int i::ds=>(zX ds).map (i::·)
 | _=>none
theorem Nd:∀ (ns:List Int),zX (ns.map D.int)=some ns
 | []=>rfl
 | n::ns=>by
  show (zX (ns.map D.int)).map (n::·)=_;rw[Nd ns];rfl
theorem Mo (h:zX ds=some ns) (rs:Reps K A H ds vs):vs=ns.map V.int:=by
 induction ds generalizing ns vs with
 | nil=>cases rs;cases h;rfl
 | cons d ds a =>
  cases rs with
  | cons r rs =>
  cases d with
  | int i =>
   obtain⟨c,b,rfl⟩:=cF.mp h;rw[r.int_inv,a b rs];rfl
  | _=>cases h
def DP:OC:=λds Φ=>match ds with
 | [.lst xs]=>∃ ns,zX xs=some ns/\Φ (.val (.int ns.sum))
 | _=>False
theorem Jr:sG K (λxs H Q=>∃ (p:Addr) (ns:List Int),xs=[.ref p]/\mG K H p (ns.map V.int)/\Q (.int ns.sum) H) DP:=by
 intro B L H c xs i Q hd f b k;cases c with
 | nil=>exact False.elim b
 | cons d c =>
 cases d<;>first | exact False.elim b | skip
 cases c with
 | cons _ _=>exact False.elim b
 | nil =>
 obtain⟨x,rfl,e⟩:=sI f;obtain⟨ns,g,b⟩:=b;obtain⟨a,j,rfl,h,r⟩:=e.lst_inv;rw[Mo g r] at h;exact⟨a,ns,rfl,mG.of h,k _ _ H b (hd.pushF (.int _))⟩
def K7:OC:=λds Φ=>match ds with
 | [.lst xs]=>∃ ns,zX xs=some ns/\ns≠[]/\∀ m:Int,m∈ns->(∀ a∈ns,m<=a)->Φ (.val (.int m))
 | [.int i,.int j]=>∀ m:Int,(m=i\/m=j)->m<=i->m<=j->Φ (.val (.int m))
 | _=>False
def CC:OC:=λds Φ=>match ds with
 | [.lst xs]=>∃ ns,zX xs=some ns/\ns≠[]/\∀ m:Int,m∈ns->(∀ a∈ns,a<=m)->Φ (.val (.int m))
 | [.int i,.int j]=>∀ m:Int,(m=i\/m=j)->i<=m->j<=m->Φ (.val (.int m))
 | _=>False
def Jv (K:mC):List V->Hp->VK->Prop:=λxs H Q=>(∃ (p:Addr) (ns:List Int),xs=[.ref p]/\mG K H p (ns.map V.int)/\ns≠[]/\∀ m:Int,m∈ns->(∀ a∈ns,m<=a)->Q (.int m) H)\/∃ i j,xs=[.int i,.int j]/\Q (.int (if j<i then j else i)) H
def Vg (K:mC):List V->Hp->VK->Prop:=λxs H Q=>(∃ (p:Addr) (ns:List Int),xs=[.ref p]/\mG K H p (ns.map V.int)/\ns≠[]/\∀ m:Int,m∈ns->(∀ a∈ns,a<=m)->Q (.int m) H)\/∃ i j,xs=[.int i,.int j]/\Q (.int (if j>i then j else i)) H
theorem OL (hc:X.calm=true):oP X (.builtin "min") (Jv X.K):=(KO hc).or (Qe hc)
theorem Yd (hc:X.calm=true):oP X (.builtin "max") (Vg X.K):=(LI hc).or (CH hc)
theorem X0:sG K (Jv K) K7:=by
 intro B L H c v u Q hd g b k;cases c with
 | nil=>exact False.elim b
 | cons d c =>
 cases d<;>first | exact False.elim b | skip
 ·cases c with
  | nil=>exact False.elim b
  | cons e c =>
  cases e<;>first | exact False.elim b | skip
  cases c with
  | cons _ _=>exact False.elim b
  | nil =>
  obtain⟨x,y,rfl,f,py⟩:=Dd g;have:=f.int_inv;have:=py.int_inv;subst_vars
  rename_i i j
  refine .inr ⟨_,_,rfl,?_⟩;by_cases z:j<i
  ·rw[aP z];exact k _ _ H (b _ (.inr rfl) (by omega) (by omega)) (hd.pushF (.int _))
  ·rw[aM z];exact k _ _ H (b _ (.inl rfl) (by omega) (by omega)) (hd.pushF (.int _))
 ·cases c with
  | cons _ _=>exact False.elim b
  | nil =>
  obtain⟨x,rfl,f⟩:=sI g;obtain⟨l,o,t,b⟩:=b;obtain⟨a,C,rfl,h,r⟩:=f.lst_inv;rw[Mo o r] at h;exact .inl ⟨a,l,rfl,mG.of h,t,λm q p=>k _ _ H (b m q p) (hd.pushF (.int _))⟩
theorem Xn:sG K (Vg K) CC:=by
 intro B L H c v u Q hd g b k;cases c with
 | nil=>exact False.elim b
 | cons d c =>
 cases d<;>first | exact False.elim b | skip
 ·cases c with
  | nil=>exact False.elim b
  | cons e c =>
  cases e<;>first | exact False.elim b | skip
  cases c with
  | cons _ _=>exact False.elim b
  | nil =>
  obtain⟨x,y,rfl,f,py⟩:=Dd g;have:=f.int_inv;have:=py.int_inv;subst_vars
  rename_i i j
  refine .inr ⟨_,_,rfl,?_⟩;by_cases z:j>i
  ·rw[aP z];exact k _ _ H (b _ (.inr rfl) (by omega) (by omega)) (hd.pushF (.int _))
  ·rw[aM z];exact k _ _ H (b _ (.inl rfl) (by omega) (by omega)) (hd.pushF (.int _))
 ·cases c with
  | cons _ _=>exact False.elim b
  | nil =>
  obtain⟨x,rfl,f⟩:=sI g;obtain⟨l,o,t,b⟩:=b;obtain⟨a,C,rfl,h,r⟩:=f.lst_inv;rw[Mo o r] at h;exact .inl ⟨a,l,rfl,mG.of h,t,λm q p=>k _ _ H (b m q p) (hd.pushF (.int _))⟩
def U8:D->Option (List D)
 | .lst xs=>some xs
 | .tup xs=>some xs
 | .con xs=>some xs
 | .scr xs=>some xs
 | _=>none
theorem Z0 (h:U8 d=some xs) (p:oB K A H d x):∃ a vs,x = .ref a/\(mG K H a vs\/nL K H a vs)/\Reps K A H xs vs:=by
 cases d<;>cases h
 ·obtain⟨a,vs,rfl,h,r⟩:=p.tup_inv;exact⟨a,vs,rfl,.inr (nL.of h),r⟩
 ·obtain⟨a,vs,rfl,h,r⟩:=p.lst_inv;exact⟨a,vs,rfl,.inl (mG.of h),r⟩
 ·obtain⟨a,vs,rfl,h,r⟩:=p.scr_inv;exact⟨a,vs,rfl,.inl h.sqL,r⟩
 ·obtain⟨a,vs,rfl,h,r⟩:=p.con_inv;exact⟨a,vs,rfl,.inr h.sqT,r⟩
def RG:OC:=λds Φ=>match ds with
 | [d]=>∃ xs,U8 d=some xs/\Φ (.own (.lst xs))
 | _=>False
theorem Od:sG K (λxs H Q=>∃ p ys,xs=[.ref p]/\(mG K H p ys\/nL K H p ys)/\∀ l,H l=none->Q (.ref l) (upd H l (.lst ys))) RG:=by
 intro B L H c xs m Q hd i b k;cases c with
 | nil=>exact False.elim b
 | cons d c =>
 cases c with
 | cons _ _=>exact False.elim b
 | nil =>
 obtain⟨x,rfl,f⟩:=sI i;obtain⟨xs,g,b⟩:=b;obtain⟨a,e,rfl,h,r⟩:=Z0 g f;exact⟨a,e,rfl,h,λl j=>k _ _ _ b (hd.lstF j r)⟩
def NK:OC:=λds Φ=>match ds with
 | [.lst xs]=>Φ (.val (.tup xs))
 | [.tup xs]=>Φ (.val (.tup xs))
 | _=>False
theorem tO:sG K (λxs H Q=>∃ p ys,xs=[.ref p]/\((mG K H p ys/\∀ l,H l=none->Q (.ref l) (upd H l (.tup ys)))\/(nL K H p ys/\Q (.ref p) H))) NK:=by
 intro B L H g xs m Q hd i b k;cases g with
 | nil=>exact False.elim b
 | cons d g =>
 cases d<;>first | exact False.elim b | skip<;>cases g<;>first | exact False.elim b | skip
 ·obtain⟨x,rfl,c⟩:=sI i;have f:=c;obtain⟨a,e,rfl,h,r⟩:=c.tup_inv;exact⟨a,e,rfl,.inr ⟨nL.of h,k _ _ _ b (hd.pushF f)⟩⟩
 ·obtain⟨x,rfl,c⟩:=sI i;obtain⟨a,e,rfl,h,r⟩:=c.lst_inv;exact⟨a,e,rfl,.inl ⟨mG.of h,λl j=>k _ _ _ b (hd.tupF j r)⟩⟩
def wU:List D->Option (List (hI×D))
 | []=>some []
 | .tup [k,d]::ds=>match tZ k,wU ds with
  | some k,some r=>some ((k,d)::r)
  | _,_=>none
 | _=>none
theorem Io {α:Type}{f:α->D}{g:α->hI×D}(h:∀ x,∃ k,f x = .tup [k,(g x).2]/\tZ k=some (g x).1):∀ xs:List α,wU (xs.map f)=some (xs.map g)
 | []=>rfl
 | x::xs=>by
  obtain⟨k,b,a⟩:=h x;rw[aO,b];show (match tZ k,wU (xs.map f) with | some k,some r=>some ((k,(g x).2)::r) | _,_=>none)=_;rw[a,Io h xs];rfl
def qJ (kvs more:List (hI×D)):List (hI×D):=more.foldl (λacc kv=>nR acc kv.1 kv.2) kvs
theorem OZ (h:wU ds=some kvs) (rs:Reps K A H ds vs):∃ (ts:List Addr) (kws:List (hI×V)),vs=ts.map V.ref/\Dx H ts kws/\kvs.map (·.1)=kws.map (·.1)/\Reps K A H (kvs.map (·.2)) (kws.map (·.2)):=by
 induction ds generalizing kvs vs with
 | nil=>cases rs;cases h;exact⟨[],[],rfl,.nil,rfl,.nil⟩
 | cons d ds m =>
  cases rs with
  | cons r rs =>
  cases d<;>first | (cases h;done) | skip
  rename_i g
  rcases g with _ | ⟨k,_ | ⟨e,_ | ⟨_,_⟩⟩⟩<;>first | (cases h;done) | skip
  ·have h:=(show (match tZ k,wU ds with | some k,some r=>some ((k,e)::r) | _,_=>none)=some kvs from h);cases c:tZ k with
   | none=>rw[c] at h;cases h
   | some l =>
    cases f:wU ds with
    | none=>rw[c,f] at h;cases h
    | some x =>
     rw[c,f] at h;cases h;obtain⟨a,v,rfl,o,b⟩:=r.tup_inv;obtain⟨ts,kws,u,t,q,p⟩:=m f rs;cases b with
     | cons j b =>
      cases b with
      | cons i b =>
       cases b;have:=Ej c j.peek;subst this;exact⟨a::ts,(l,_)::kws,by rw[u];rfl,.cons o t,by rw[aO,aO,q],.cons i p⟩
theorem Ff:∀ {more:List (hI×D)}{mv:List (hI×V)}{kvs:List (hI×D)}{vs:List (hI×V)},more.map (·.1)=mv.map (·.1)->Reps K A H (more.map (·.2)) (mv.map (·.2))->kvs.map (·.1)=vs.map (·.1)->Reps K A H (kvs.map (·.2)) (vs.map (·.2)) ->
  (qJ kvs more).map (·.1)=(sL vs mv).map (·.1)/\Reps K A H ((qJ kvs more).map (·.2)) ((sL vs mv).map (·.2))
 | [],[],_,_,_,_,e,r=>⟨e,r⟩
 | [],_::_,_,_,e,_,_,_=>by simp at e
 | _::_,[],_,_,e,_,_,_=>by simp at e
 | (k,d)::more,(j,v)::mv,kvs,vs,a,b,e,r=>by
  simp only[aO,iA] at a;obtain⟨rfl,a⟩:=a;cases b with
  | cons h b =>
   obtain⟨f,c⟩:=G5 e r (k:=k) h;exact Ff (more:=more) (mv:=mv) a b f c
def Z3:OC:=λds Φ=>match ds with
 | [.dK kvs]=>Φ (.own (.dK kvs))
 | [.lst xs]=>∃ kvs,wU xs=some kvs/\kvs.length<=1000/\Φ (.own (.dK (qJ [] kvs)))
 | _=>False
def Sa (K:mC):List V->Hp->VK->Prop:=λxs H Q=>(∃ (a:Addr) (kvs:List (hI×V)),xs=[.ref a]/\H a=some (.dK kvs)/\∀ p,H p=none->Q (.ref p) (upd H p (.dK kvs))) \/
 ∃ (p:Addr) (ts:List Addr) (kvs:List (hI×V)),xs=[.ref p]/\mG K H p (ts.map V.ref)/\Dx H ts kvs/\kvs.length<=1000/\∀ d,H d=none->Q (.ref d) (upd H d (.dK (sL [] kvs)))
theorem zC (hc:X.calm=true):oP X (.type "dict") (Sa X.K):=MB.or (IF hc)
theorem yV:sG K (Sa K) Z3:=by
 intro B L H j E C Q hd c b k;cases j with
 | nil=>exact False.elim b
 | cons d j =>
 cases d<;>first | exact False.elim b | skip<;>cases j<;>first | exact False.elim b | skip
 ·obtain⟨x,rfl,g⟩:=sI c;obtain⟨u,v,F,b⟩:=b;obtain⟨a,l,rfl,h,r⟩:=g.lst_inv;obtain⟨o,f,rfl,z,m,y⟩:=OZ v r;obtain⟨t,q⟩:=Ff (kvs:=[]) (vs:=[]) m y rfl .nil;have i:f.length<=1000:=by
   have:=cV List.length m;simp only[aA] at this;omega
  exact .inr ⟨a,o,f,rfl,mG.of h,z,i,λp c=>k _ _ _ b (hd.dKF c t q)⟩
 ·obtain⟨x,rfl,g⟩:=sI c;obtain⟨a,l,rfl,h,e,r⟩:=g.dK_inv;exact .inl ⟨a,l,rfl,h,λp c=>k _ _ _ b (hd.dKF c e r)⟩
def Lp:OC:=λds Φ=>match ds with
 | [.int i]=>Φ (.val (.int i))
 | [.bl b]=>Φ (.val (.int (if b then 1 else 0)))
 | _=>False
theorem LO:sG K (λxs H Q=>(∃ i,xs=[.int i]/\Q (.int i) H)\/∃ k,xs=[.bl k]/\Q (.int (if k then 1 else 0)) H) Lp:=by
 intro B L H c xs f Q hd e a k;cases c with
 | nil=>exact False.elim a
 | cons d c =>
 cases d<;>first | exact False.elim a | skip<;>cases c<;>first | exact False.elim a | skip
 ·obtain⟨x,rfl,b⟩:=sI e;have:=b.bl_inv;subst this;exact .inr ⟨_,rfl,k _ _ H a (hd.pushF (.int _))⟩
 ·obtain⟨x,rfl,b⟩:=sI e;have:=b.int_inv;subst this;exact .inl ⟨_,rfl,k _ _ H a (hd.pushF (.int _))⟩
def Yp:OC:=λds Φ=>match ds with
 | [.int i]=>i.natAbs.log2<1920/\Φ (.val (.str (toString i)))
 | _=>False
theorem Yj:sG K (λxs H Q=>∃ i,xs=[.int i]/\i.natAbs.log2<1920/\Q (.str (toString i)) H) Yp:=by
 intro B L H b xs f Q hd e a k;cases b with
 | nil=>exact False.elim a
 | cons d b =>
 cases d<;>first | exact False.elim a | skip<;>cases b<;>first | exact False.elim a | skip
 obtain⟨x,rfl,c⟩:=sI e;have:=c.int_inv;subst this;exact⟨_,rfl,a.1,k _ _ H a.2 (hd.pushF (.str _))⟩
def yF:List D->Option (List Bool)
 | []=>some []
 | .bl b::ds=>(yF ds).map (b::·)
 | _=>none
theorem Bm:∀ (ns:List Bool),yF (ns.map D.bl)=some ns
 | []=>rfl
 | n::ns=>by rw[aO,yF,Bm ns];rfl
theorem Rp:∀ {ds:List D}{ns:List Bool}{vs:List V},yF ds=some ns->Reps K A H ds vs->vs=ns.map V.bl
 | [],ns,_,h,.nil=>by simp only[yF,lQ] at h;subst h;rfl
 | d::ds,ns,_,h,.cons r a=>by
  cases d with
  | bl i =>
   simp only[yF,cF] at h;obtain⟨c,b,rfl⟩:=h;rw[r.bl_inv,Rp b a];rfl
  | _=>simp[yF] at h
def Sj:OC:=λds Φ=>match ds with
 | [.lst xs]=>∃ bs,yF xs=some bs/\Φ (.val (.bl (bs.all id)))
 | _=>False
theorem Dr:sG K (Vf K) Sj:=by
 intro B L H l i g Q hd e b k;unfold Sj at b;split at b
 ·obtain⟨x,rfl,c⟩:=sI e;obtain⟨d,f,b⟩:=b;obtain⟨a,j,rfl,h,r⟩:=c.lst_inv;rw[Rp f r] at h;exact⟨a,d,rfl,mG.of h,k _ _ H b (hd.pushF (.bl _))⟩
 ·exact b.elim
end
def Fh (T:String):D->Bool
 | .str _=>T == "str"
 | .lst _=>T == "list"
 | .scr _=>T == "list"
 | .dK _=>T == "dict"
 | _=>false
section
variable {X:Cx}{K:mC}
theorem N6 (h:Fh T d=true) (p:oB K A H d x):Hf K T x H:=by
 cases d<;>first | (cases h;done) | skip
 all_goals (have h:=eq_of_beq h;subst h)
 ·have:=p.str_inv;subst this;rfl
 ·obtain⟨a,b,rfl,h,r⟩:=p.lst_inv;exact .inl ⟨rfl,b,mG.of h⟩
 ·obtain⟨a,b,rfl,h,e,r⟩:=p.dK_inv;exact .inr (.inr (.inl ⟨rfl,.inl ⟨b,h⟩⟩))
 ·obtain⟨a,b,rfl,h,r⟩:=p.scr_inv;exact .inl ⟨rfl,b,h.sqL⟩
abbrev OM:=D->List D->(Sl->Prop)->Prop
abbrev RM:=V->List V->Hp->VK->Prop
def Ic (K:mC) (r:RM) (f:OM):Prop:=∀ (B:Bs) (L:oK) (H:Hp) (d:D) (ds:List D) (x:V) (xs:List V) (Φ:Sl->Prop) (Q:VK),DS K B L H->oB K (Al B (mD L)) H d x->Peeks K (Al B (mD L)) H ds xs->f d ds Φ ->
 (∀ s v H',Φ s->DS K B ((s,some v)::L) H'->Q v H')->r x xs H Q
def dM (T:String) (f:OM) (to:nI) (ta:tS):nI:=λdk ρ Φ=>to dk ρ λr ρ1=>match sd r with
 | some d=>Fh T d=true/\ta dk ρ1 λas ρ2=>match uT ρ2 as with
  | some ds=>f d ds λs=>Φ s ρ2
  | none=>False
 | none=>False
def NP (T:String) (f:OM) (i:Nat) (ta:tS):nI:=λdk ρ Φ=>(match at? ρ i with | some d=>Fh T d=true | none=>False)/\ta dk ρ λas ρ2=>match at? ρ2 i,uT ρ2 as with
 | some d,some ds=>f d ds λs=>Φ s ρ2
 | _,_=>False
variable {id:String}
theorem HL (pa:PlainAttrs T) (slot:Slot T name id) (hty:typeOf (.builtin id)=pure (.type "method_descriptor")) (hm:wO X id r) (hf:Ic X.K r f) (ho:PD X o to) (ha:tT X (e::es) ta)
  (hbase:attributeBase o name X.env (eval o X.env)=eval o X.env:=by rfl)
  (hfew:((backTo cpos (starEach (e::es) X.env)).all (λx=>!x.1)&&(backToKw cpos (keywordEach [] X.env)).all (λx=>x.1.isSome) && decide ((e::es).length+([]:List Keyword).length+(if ([]:List Keyword).isEmpty then 0 else 1)<30))=true:=by rfl)
  (hline:(apos.endLine == cpos.line)=true:=by rfl) (hs:starEach (e::es) X.env=(false,eval e X.env)::starEach es X.env:=by rfl) (hplain:(backTo cpos (starEach es X.env)).any (·.1)=false:=by rfl) :
  PD X (.Call (.Attribute o name apos) (e::es) [] cpos) (dM T f to ta) :=
 (zE pa slot hty hm ho ha hbase hfew hline hs hplain).mono λt H Q l=>l.elim λB z Tm S M hd L k=>⟨B,z,Tm,_,M,hd,L,λj h x U I d1 b=>by
  cases c:sd j with
  | none=>rw[c] at b;exact b.elim
  | some d =>
   rw[c] at b;refine⟨N6 b.1 (d1.one c).2.peek,B,h,(j,some x)::Tm,_,I,d1,b.2,λas a i q u ok d2 g=>?_⟩;cases p:uT a as with
   | none=>rw[p] at g;exact g.elim
   | some y =>
    rw[p] at g;have N:=d2.rmArgs;obtain⟨F,E⟩:=N.one c;have C:=((show DS X.K B (a.zip t++(tU as i++Tm)) q from by
     have:DS X.K B ((a.zip t++tU as i)++(j,some x)::Tm) q:=by simpa using d2
     simpa using (this.one c).1).argsP u ok y p).1
    exact hf B _ q d y x i _ Q F E.peek C g λs v O hs m=>k s a v O u m.mid hs⟩
theorem LA (pa:PlainAttrs T) (slot:Slot T name id) (hty:typeOf (.builtin id)=pure (.type "method_descriptor")) (hm:wO X id r) (hf:Ic X.K r f) (ho:PE X o (qM i)) (ha:tT X (e::es) ta)
  (hbase:attributeBase o name X.env (eval o X.env)=eval o X.env:=by rfl)
  (hfew:((backTo cpos (starEach (e::es) X.env)).all (λx=>!x.1)&&(backToKw cpos (keywordEach [] X.env)).all (λx=>x.1.isSome) && decide ((e::es).length+([]:List Keyword).length+(if ([]:List Keyword).isEmpty then 0 else 1)<30))=true:=by rfl)
  (hline:(apos.endLine == cpos.line)=true:=by rfl) (hs:starEach (e::es) X.env=(false,eval e X.env)::starEach es X.env:=by rfl) (hplain:(backTo cpos (starEach es X.env)).any (·.1)=false:=by rfl) :
  PD X (.Call (.Attribute o name apos) (e::es) [] cpos) (NP T f i ta) :=
 (zE pa slot hty hm ho ha hbase hfew hline hs hplain).mono λO H Q m=>m.elim λB u Tm S z hd ⟨g,L⟩ k=>by
  cases t:at? u i with
  | none=>rw[t] at g;exact g.elim
  | some V =>
   rw[t] at g;obtain⟨x,y,I⟩:=hd.peek z t;refine⟨x,y,N6 g I,B,u,Tm,_,z,hd,L,λas a F M l ok d2 b=>?_⟩;cases h:at? a i with
   | none=>rw[h] at b;exact b.elim
   | some d =>
    cases q:uT a as with
    | none=>rw[h,q] at b;exact b.elim
    | some C =>
     rw[h,q] at b;have E:=d2.rmArgs;obtain⟨U,c,j⟩:=E.peek l h;rw[y] at c;cases c;exact hf B _ M d C x F _ Q E j (d2.argsP l ok C q).1 b λs v N hs p=>k s a v N l p.mid hs
abbrev OW:=D->List D->(D->D->Prop)->Prop
def Dh (K:mC) (r:RM) (f:OW):Prop:=∀ (A:Addr->Prop) (H:Hp) (a:Addr) (c:D) (ds:List D) (vs:List V) (Φ:D->D->Prop) (Q:VK),¬ A a->qA K A H a c->Reps K A H ds vs->f c ds Φ ->
 (∀ d v o c',Φ d c'->Rep K A H d v->(∀ A',Kp A A' H (upd H a o)->qA K A' (upd H a o) a c')->Q v (upd H a o))->r (.ref a) vs H Q
def dW (T:String) (f:OW) (i:Nat) (ta:tS):nI:=λdk ρ Φ=>(match at? ρ i with | some d=>Fh T d=true | none=>False)/\ta dk ρ λas ρ2=>match ρ2[i]?,yY as with
 | some (.own c),some ds=>f c ds λd c'=>Φ (.val d) (ρ2.set i (.own c'))
 | _,_=>False
theorem OO {f:OW}(hf:Dh X.K r f){σ:St}{H:Hp}{Q:VK}(h:dE X.K (dW T f i ta) σ H Q):qM i σ H λx H1=>Hf X.K T x H1/\dA X.K ta σ H1 λxs H2=>r x xs H2 Q:=by
 obtain⟨B,N,Tm,Φ,U,hd,⟨q,ht⟩,k⟩:=h;cases L:at? N i with
 | none=>rw[L] at q;exact q.elim
 | some d0 =>
  rw[L] at q;obtain⟨x,l,px⟩:=hd.peek U L;refine⟨x,l,N6 q px,B,N,Tm,_,U,hd,ht,λas e Y H2 p ok d2 b=>?_⟩;cases g:e[i]? with
  | none=>rw[g] at b;exact b.elim
  | some s =>
   cases s with
   | no=>rw[g] at b;exact b.elim
   | val c=>rw[g] at b;exact b.elim
   | own c =>
    cases I:yY as with
    | none=>rw[g,I] at b;exact b.elim
    | some W =>
     rw[g,I] at b;have t:=d2.temps ok W I;have d3:=d2.rmArgs;obtain⟨a,V,O,wr⟩:=d3.slotW p g;rw[l] at V;cases V;obtain⟨u,hu,Z⟩:=O.some;have S:¬ Al B (mD (e.zip σ++Tm)) a:=λz=>z.2.1 (by
      obtain⟨l1,y,C,j,_,F,_⟩:=vU p g;rw[l] at j;cases j;rw[F,bJ,cS,sK];exact aN _ aK)
     refine hf _ H2 a c W Y _ Q S O t b λd v o M E rd hr=>k _ _ v _ (by rw[bT];exact p) ?_ E
     refine (wr o M hr).push ?_;have er:mD ((e.set i (.own M)).zip σ++Tm)=mD (e.zip σ++Tm):=by
      obtain⟨l1,y,C,j,_,F,m⟩:=vU p g;rw[l] at j;cases j;have:=m (.own M) (some (.ref a));rw[zY l] at this;rw[this,F,bJ,bJ,cS,cS,sK,sK];rfl
     rw[er];exact rd.mono (.write hu Z S)
theorem qX {f:OW}(pa:PlainAttrs T) (slot:Slot T name id) (hty:typeOf (.builtin id)=pure (.type "method_descriptor")) (hm:wO X id r) (hf:Dh X.K r f) (ho:PE X o (qM i)) (ha:tT X (e::es) ta)
  (hbase:attributeBase o name X.env (eval o X.env)=eval o X.env:=by rfl)
  (hfew:((backTo cpos (starEach (e::es) X.env)).all (λx=>!x.1)&&(backToKw cpos (keywordEach [] X.env)).all (λx=>x.1.isSome) && decide ((e::es).length+([]:List Keyword).length+(if ([]:List Keyword).isEmpty then 0 else 1)<30))=true:=by rfl)
  (hline:(apos.endLine == cpos.line)=true:=by rfl) (hs:starEach (e::es) X.env=(false,eval e X.env)::starEach es X.env:=by rfl) (hplain:(backTo cpos (starEach es X.env)).any (·.1)=false:=by rfl) :
  PD X (.Call (.Attribute o name apos) (e::es) [] cpos) (dW T f i ta):=(zE pa slot hty hm ho ha hbase hfew hline hs hplain).mono λ_ _ _ h=>OO hf h
def JT:OW:=λc ds Φ=>match c,ds with
 | .lst xs,[d]=>xs.length<100000/\Φ .non (.lst (xs++[d]))
 | _,_=>False
theorem sU:Dh K J0 JT:=by
 intro A H a c l j i Q _ e rd b k;cases c<;>first | exact False.elim b | skip
 cases rd with
 | nil=>exact False.elim b
 | cons f rd =>
 cases rd with
 | cons _ _=>exact False.elim b
 | nil =>
 ·obtain⟨d,h,r⟩:=e
  ·refine⟨a,d,_,rfl,rfl,h,bI (by rw[← r.length];exact b.1) (by decide),k _ _ _ _ b.2 .non λm g=>⟨_,mT,(r.append (.cons f .nil)).mono g⟩⟩
def FU:OW:=λc ds Φ=>match c,ds with
 | .lst xs,[.int i]=>∃ k y,-(2 ^ 63)<=i/\i<2 ^ 63/\seqIndex? i xs.length=some k/\xs[k]?=some y/\Φ y (.lst (xs.eraseIdx k))
 | _,_=>False
theorem Hi:Dh K O7 FU:=by
 intro A H a c z x u Q _ g rd b k;cases c<;>first | exact False.elim b | skip
 cases rd with
 | nil=>exact False.elim b
 | cons i rd =>
 rename_i d _ _ _
 cases d<;>first | exact False.elim b | skip
 cases rd with
 | cons _ _=>exact False.elim b
 | nil =>
 ·obtain⟨e,h,r⟩:=g
  ·have:=i.int_inv;subst this;obtain⟨j,y,t,q,p,o,b⟩:=b;obtain⟨v,m,f⟩:=r.get o;exact⟨a,e,_,j,v,rfl,rfl,h,t,q,by rw[← r.length];exact p,m,k _ _ _ _ b f λB l=>⟨_,mT,(r.erase j).mono l⟩⟩
def AD:D->Bool
 | .dK _=>true
 | .dT _=>true
 | _=>false
def RH (i:Nat) (ty tx:nI):nI:=λdk ρ Φ=>(match at? ρ i with | some d=>AD d=true | none=>False)/\ty dk ρ λrk ρ1=>tx dk ρ1 λrx ρ2=>match at? ρ2 i,sd rk,sd rx with
 | some d,some k,some x=>∃ o,yA d k=some o/\Φ (.val (o.getD x)) ρ2
 | _,_,_=>False
theorem yC (hu:X.A.units+1<cLine) (ho:PE X o (qM i)) (he:PD X k ty) (hf:PD X x tx) (m:M2 X o "get" apos k x cpos:=by exact⟨rfl,rfl,rfl,rfl⟩):PD X (.Call (.Attribute o "get" apos) [k,x] [] cpos) (RH i ty tx) :=
 (HS hu ho he hf m).mono λσ H Q F=>F.elim λB M Tm Φ V hd ⟨p,ht⟩ k=>by
  cases L:at? M i with
  | none=>rw[L] at p;exact p.elim
  | some d0 =>
   rw[L] at p;obtain⟨x,U,S⟩:=hd.peek V L;obtain⟨a,rfl,E⟩:∃ a,x = .ref a/\Mt H a:=by
    cases d0<;>first | (cases p;done) | skip
    ·obtain⟨a,u,rfl,h,e,r⟩:=S.dK_inv;exact⟨a,rfl,.inl ⟨u,.inl h⟩⟩
    ·obtain⟨a,u,rfl,h,e,r⟩:=S.dT_inv;exact⟨a,rfl,.inr ⟨u,h⟩⟩
   refine⟨.ref a,U,a,rfl,E,B,M,Tm,_,V,hd,ht,λN t y H1 l1 d1 h1=>⟨B,t,(N,some y)::Tm,_,l1,d1,h1,λW f z H2 T d2 b=>?_⟩⟩;cases l:at? f i with
   | none=>rw[l] at b;exact b.elim
   | some d =>
    cases q:sd N with
    | none=>rw[l,q] at b;exact b.elim
    | some kk =>
     cases I:sd W with
     | none=>rw[l,q,I] at b;exact b.elim
     | some xx =>
      rw[l,q,I] at b;obtain⟨oo,ho,b⟩:=b;obtain⟨O,q2,Z⟩:=d2.two q I;obtain⟨x',j,C⟩:=O.peek T l;rw[U] at j;cases j;obtain⟨a',w,ea,g,g1,g2⟩:=Mw ho C q2.peek;cases ea;refine⟨w,g,k _ f _ H2 T (O.push ?_) b⟩;cases oo with
      | none=>rw[g2 rfl];exact Z
      | some c=>obtain⟨v,rfl,Y⟩:=g1 c rfl;exact Y
def Il:List D->Option (List Str)
 | []=>some []
 | .str b::ds=>(Il ds).map (b::·)
 | _=>none
theorem Hq:∀ (ns:List Str),Il (ns.map D.str)=some ns
 | []=>rfl
 | n::ns=>by
  show (Il (ns.map D.str)).map (n::·)=_;rw[Hq ns];rfl
theorem Mp (h:Il ds=some ns) (rs:Reps K A H ds vs):vs=ns.map V.str:=by
 induction ds generalizing ns vs with
 | nil=>cases rs;cases h;rfl
 | cons d ds a =>
  cases rs with
  | cons r rs =>
  cases d with
  | str i =>
   obtain⟨c,b,rfl⟩:=cF.mp h;rw[r.str_inv,a b rs];rfl
  | _=>cases h
def Rv:OM:=λd ds Φ=>match d,ds with
 | .str z,[.str y]=>y.length≠0/\z.length<=1000000/\Φ (.own (.lst ((Txt.split z y).map D.str)))
 | _,_=>False
theorem Ih:∀ (ys:List Str),Reps K A H (ys.map D.str) (ys.map V.str)
 | []=>.nil
 | y::ys=>.cons (.str y) (Ih ys)
theorem Zp:Ic K W0 Rv:=by
 intro B L H d h x g f Q hd b c a k;unfold Rv at a;split at a
 ·obtain⟨y,rfl,py⟩:=sI c;have:=b.str_inv;have:=py.str_inv;subst_vars;exact⟨_,_,rfl,rfl,a.1,a.2.1,λp e=>k _ _ _ a.2.2 (hd.lstF e (Ih _))⟩
 ·exact a.elim
def Wy:OM:=λd ds Φ=>match d,ds with
 | .lst xs,[e]=>∃ vs v j,uO xs=some vs/\xP e=some v/\j<vs.length/\(∀ z,vs[j]?=some z->qI z v=true)/\(∀ (m:Nat) z,m<j->vs[m]?=some z->qI z v=false)/\Φ (.val (.int j))
 | _,_=>False
theorem OG:Ic K (Uw K) Wy:=by
 intro B L H d F x C z Q hd e f b k;unfold Wy at b;split at b
 ·obtain⟨y,rfl,py⟩:=sI f;obtain⟨E,v,j,o,m,l,i,g,b⟩:=b;obtain⟨a,c,rfl,h,r⟩:=e.lst_inv;obtain⟨u,t⟩:=J6 o r;obtain⟨q,p⟩:=L3 m py;subst u q;exact⟨a,c,y,j,rfl,rfl,mG.of h,t,p,l,i,g,k _ _ H b (hd.pushF (.int _))⟩
 ·exact b.elim
end
section
variable {X:Cx}
theorem mP (hu:X.A.units+1<cLine) (ha:PE X a (qM i)) (hb:PD X b tb) (hs:Ot b:=by exact λ_ _=>rfl):PD X (.Subscript a b pos) (xB Co i tb) :=
 (qY (Sr hu) ha hb hs).mono λ_ _ _ h=>Hb Tw h
end
section
variable {X:Cx}{K:mC}
theorem RA (hc:X.calm=true):oP X (.builtin "min") (λxs H Q=>∃ i j k,xs=[.int i,.int j,.int k]/\∀ m:Int,(m=i\/m=j\/m=k)->m<=i->m<=j->m<=k->Q (.int m) H):=by
 intro e s l H xs z Q I r h;obtain⟨i,j,k,rfl,q⟩:=h;cases r with
 | cons p r =>
  obtain⟨v,u,rfl,⟨C,rfl⟩,⟨B,rfl⟩⟩:=At r;obtain⟨E,rfl⟩:=p;refine min_three_ints (I.ok.hd hc) λy o x=>?_
  have fin:∀ (m:Int) (t:Tok),(m=i\/m=j\/m=k)->m<=i->m<=j->m<=k->EP X e l Q (.int m t) { s with heap:=y,toks:=o }:=λm t a b c d=>⟨.int m,H,I.kept x,⟨t,rfl⟩,q m a b c d⟩
  by_cases g:j<i
  ·rw[aP g];by_cases f:k<j
   ·rw[aP f];exact fin _ _ (.inr (.inr rfl)) (by omega) (by omega) (by omega)
   ·rw[aM f];exact fin _ _ (.inr (.inl rfl)) (by omega) (by omega) (by omega)
  ·rw[aM g];by_cases f:k<i
   ·rw[aP f];exact fin _ _ (.inr (.inr rfl)) (by omega) (by omega) (by omega)
   ·rw[aM f];exact fin _ _ (.inl rfl) (by omega) (by omega) (by omega)
def Mq (K:mC):List V->Hp->VK->Prop:=λxs H Q=>Jv K xs H Q\/∃ i j k,xs=[.int i,.int j,.int k]/\∀ m:Int,(m=i\/m=j\/m=k)->m<=i->m<=j->m<=k->Q (.int m) H
theorem Ny (hc:X.calm=true):oP X (.builtin "min") (Mq X.K):=(OL hc).or (RA hc)
def HZ:OC:=λds Φ=>match ds with
 | [.int i,.int j,.int k]=>∀ m:Int,(m=i\/m=j\/m=k)->m<=i->m<=j->m<=k->Φ (.val (.int m))
 | ds=>K7 ds Φ
theorem N1:sG K (Mq K) HZ:=by
 intro B L H l j i Q hd h f k;have two:K7 l i->Mq K j H Q:=λf=>.inl (X0 B L H _ j i Q hd h f k)
 rcases l with _ | ⟨d,_ | ⟨e,_ | ⟨g,_ | ⟨_,_⟩⟩⟩⟩
 ·exact two f
 ·cases d<;>exact two f
 ·cases d<;>first | exact two f | (cases e<;>exact two f)
 ·cases d<;>first | exact two f | skip
  cases e<;>first | exact two f | skip
  cases g<;>first | exact two f | skip
  cases h with
  | cons p h =>
   obtain⟨x,y,rfl,o,py⟩:=Dd h;have:=p.int_inv;have:=o.int_inv;have:=py.int_inv;subst_vars;exact .inr ⟨_,_,_,rfl,λm a b c d=>k _ _ H (f m a b c d) (hd.pushF (.int _))⟩
 ·cases d<;>first | exact two f | (cases e<;>first | exact two f | (cases g<;>exact two f))
def Ld:D->Option String
 | .non=>some "NoneType"
 | .bl _=>some "bool"
 | .int _=>some "int"
 | .str _=>some "str"
 | .lst _=>some "list"
 | .tup _=>some "tuple"
 | .dK _=>some "dict"
 | _=>none
theorem QP (h:Ld d=some n) (p:oB K A H d x):TyOf K H x (.type n):=by
 cases d<;>simp only[Ld,reduceCtorEq,lQ] at h<;>subst h
 ·have:=p.non_inv;subst this;exact .non
 ·have:=p.bl_inv;subst this;exact .bl _
 ·have:=p.int_inv;subst this;exact .int _
 ·have:=p.str_inv;subst this;exact .str _
 ·obtain⟨a,b,rfl,h,r⟩:=p.tup_inv;exact .tup h
 ·obtain⟨a,b,rfl,h,r⟩:=p.lst_inv;exact .lst h
 ·obtain⟨a,b,rfl,h,e,r⟩:=p.dK_inv;exact .dK h
def O0 (K:mC):OC:=λds Φ=>match ds with
 | [d,.raw (.ty c)]=>∃ n b,Ld d=some n/\PySem.W.kitOne K (.type n) (.type c)=some b/\Φ (.val (.bl b))
 | _=>False
theorem Xe:sG K (U1 K) (O0 K):=by
 intro B L H i h g Q hd d a k;unfold O0 at a;split at a
 ·obtain⟨x,y,rfl,c,py⟩:=Dd d;obtain⟨n,b,f,e,a⟩:=a;have:=py.raw_inv;subst this;exact⟨x,_,_,_,b,rfl,rfl,QP f c,e,k _ _ H a (hd.pushF (.bl _))⟩
 ·exact a.elim
theorem Xk (hg:Gl X x) (hm:X.mg x=none) (hv:bootBuiltins x=some (.type n)) (hn:x ≠ "__name__" := by decide) (hd:(x == ("__debug__" : Str))=false:=by decide):PD X (.Name x pos) (cd (.raw (.ty n))) :=
 Dp (AQ (v:=.ty n) hg hm hv rfl hn hd) λ_ _ _=>.raw _
end
end L2
namespace PySem
open PyProof.Rows L2
abbrev yU (h:Heap) (z TI TO T:Addr) (f:Bool):Prop:=h.get? z=some { cls:=.type "zip",dict:=none,data:=.fields #[rawInt T,.bool f,.bool false,.ref TI,.ref TO],slots:=#[] }
section
theorem Xd (ho:s.heap.get? a=some o) (h:Q (some o) s):wpAny (model prog w) A (loadIfAlive a) Q E s:=λ_ _ _=>by
 show Q (s.heap.get? a) s;rw[ho];exact h
theorem QD {TI TO:Addr}(hz:yU s.heap z TI TO T f) (hT:s.heap.get? T=some oT) (hQ:∀ h',yU h' z TI TO T true->Heap.SameBut z s.heap h'->Q false { s with heap:=h' }) :
  wpAny (model prog w) A (Builtin.SmallTypes.ownedTupleIsFree (.ref z)) Q E s:=by
 unfold Builtin.SmallTypes.ownedTupleIsFree;refine aB (eQ hz rfl (x:=rawInt T) rfl ?_);show wpAny _ _ (loadIfAlive ((T:Int).toNat) >>= _) _ _ _;rw[cC];refine aB (Xd hT ?_);simp only[Option.isNone_some,eI,gX];refine aB (eQ hz rfl (x:=.bool f) rfl ?_);cases f with
 | true =>
  rw[aM (show ¬ ((Value.bool true != Value.bool true)=true) from bF)];exact aF (hQ _ hz (Heap.SameBut.refl _ _))
 | false =>
  rw[aP (show (Value.bool false != Value.bool true)=true from rfl)];exact aB (iR hz (by simp) λc a b=>aF (hQ _ a b))
def Pb (prog:Program) (w:World) (A:Around) (a b:Value) (Q:Fin->Shared->Prop) (E:Value->Shared->Prop) (s:Shared):Prop :=
 wpAny (model prog w) A (Builtin.SmallTypes.nextOf a) (λx s1=>wpAny (model prog w) A (Builtin.SmallTypes.nextOf b) (λy s2=>wpAny (model prog w) A (newTuple [x,y]) (λt s3=>Q (.done (.ret t)) s3) E s2) E s1) E s
theorem Vy {TI TO:Addr}(hz:yU s.heap z TI TO T f) (hT:s.heap.get? T=some oT) (hTI:IsPair s.heap TI a b)
  (go:∀ h',yU h' z TI TO T true->Heap.SameBut z s.heap h'->Pb prog w A a b Q E { s with heap:=h' }) :
  wpAny (model prog w) A (Builtin.«zip.__next__» ⟨[.ref z],[]⟩) Q E s:=by
 have c:wpAny (model prog w) A (Builtin.SmallTypes.ownedTupleIsFree (.ref z)) (λx d=>x=false/\Pb prog w A a b Q E d) E s :=
  QD hz hT λh' e k=>⟨rfl,go h' e k⟩
 unfold Builtin.«zip.__next__»;refine aB (aF (aB (eQ hz rfl (x:=.bool false) rfl (aB (eQ hz rfl (x:=.ref TI) rfl (aB (fH hTI rfl ?_)))))));refine aB (mR c ?_);rintro _ d ⟨rfl,g⟩;simp only[aM bF,← Array.forIn_toList,kW,List.forIn_nil,bind_assoc];refine aB (bV (aB (mR g λx j g1=>aF (aB (aF ?_)))));refine aB (aB (bV (aB (mR g1 λy i g2=>aF (aB (aF (aF ?_)))))));exact aB (mR g2 λt h g3=>aF g3)
def Cm (h:Heap) (z TI TO i1 i2:Addr):Prop:=IsPair h TI (.ref i1) (.ref i2)/\(∃ a b,IsPair h TO a b)/\(IsZip h z TI TO .none\/∃ T f o,yU h z TI TO T f/\h.get? T=some o/\T≠z/\T≠TO/\T≠i1/\T≠i2)
end
theorem DU:typeLookup (.type "zip") "keys" = pure none:=am_miss_of_fast (by decide +kernel)
theorem Z8:entryFor table "zip.__getattribute__" = some Builtin.«object.__getattribute__»:=entryFor_alias (id' := "object.__getattribute__") (by kernel_rfl) (by decide +kernel) (by decide +kernel) (by kernel_rfl)
theorem DG:typeLookup (.type "zip") "__getattr__" = pure none:=am_miss_of_fast (by decide +kernel)
theorem GB {sl:Array (Option Value)}
  (l:s.heap.get? a=some { cls:=.type "zip",dict:=none,data:=.fields fs,slots:=sl }) (q:Q .missing s):wpAny (model prog w) A (Builtin.ObjectAttr.find (.ref a) (.type "zip") "keys") Q E s:=by
 have own:wpAny (model prog w) A (Builtin.ObjectAttr.inOwnDict "keys" (.ref a)) (λr b=>r=none/\b=s) E s :=
  aB (aB (wpAny_loadPart l (aB (wpAny_loadPart l (aF (aF ⟨rfl,rfl⟩))))))
 have guard:wpAny (model prog w) A (Builtin.ObjectAttr.copiedAttributeGuard "keys" (.ref a)) (λ_ b=>b=s) E s:=by
  have no:¬ (([Str.ofString "__module__",Str.ofString "__name__",Str.ofString "__qualname__",Str.ofString "__doc__",Str.ofString "__annotations__"]:List Str).contains (Str.ofString "keys")=true):=by decide +kernel
  simp only[Builtin.ObjectAttr.copiedAttributeGuard,aM no];exact aF rfl
 unfold Builtin.ObjectAttr.find;rw[DU];refine aB (aF (aB (aF (aB (aF (aB (mR own ?_)))))));rintro _ _ ⟨rfl,rfl⟩;refine aB (mR guard ?_);rintro _ _ rfl;exact aB (lI (aF q))
theorem JW (a:Addr) (fs:Array Value) (sl:Array (Option Value)) (u:Tok):Meets (Builtin.«object.__getattribute__» ⟨[.ref a,.str "keys" u],[]⟩) (λA R s=>s.heap.get? a=some { cls:=.type "zip",dict:=none,data:=.fields fs,slots:=sl }/\raisesAttr (.ref a) "keys" A R s) :=
 Meets.of_wp λprog w A R s f=>by
  obtain⟨l,calm,c⟩:=f;have d:s.TypeIs (.ref a) "zip" := ⟨_,l,rfl⟩;unfold Builtin.«object.__getattribute__»;refine aB (aF (aB (aF (aB (eM d (aB (GB l ?_)))))));have named:wpAny (model prog w) A.in1 (typeNameOfCut 100 (.ref a)) (λn b=>n = "zip" /\ b=s) (λe b=>R (.error e) b) s :=
   aB (aB (eM d (aF (aF ⟨by decide +kernel,rfl⟩))))
  show wpAny _ _ (Builtin.ObjectAttr.noSuchAttribute (.ref a) "keys") _ _ _;unfold Builtin.ObjectAttr.noSuchAttribute;refine aB (mR named ?_);rintro _ _ ⟨rfl,rfl⟩;exact wpAny_raiseAttrError calm c (by decide +kernel)
section
theorem QQ {sl:Array (Option Value)}
  (l:s.heap.get? a=some { cls:=.type "zip",dict:=none,data:=.fields fs,slots:=sl }) (calm:A.handled=none) (out:∀ h' tk e,Heap.NewAttrErr s.heap h' e (.ref a) "keys" -> E (.ref e) { s with heap:=h',toks:=tk }) :
  wpAny (model prog w) A (boundAndCalled (.builtin "zip.__getattribute__") (.ref a) (.str "keys" u)) Q E s:=by
 have ask:wpAny (model prog w) A (call (.builtin "zip.__getattribute__") [.ref a,.str "keys" u]) Q E s :=
  iN jV ⟨_,l,rfl⟩ Z8 (F.args_zip_getattribute_2 _ _) (JW a fs sl u) ⟨l,calm,out⟩
 unfold boundAndCalled;rw[jV.bind (.ref a)];exact aB (aF ask)
theorem AX (t:s.TypeIs (.ref e) "AttributeError") (out:E (.ref e) s) :
  wpAny (model prog w) A (getattributeRaised o name (.type "zip") (.ref e) none false false) Q E s:=by
 have last:wpAny (model prog w) A (hookOrError o name (.ref e) false false none) Q E s:=aB (wpAny_throw out);have a:hookBehind (.type "zip") none=pure none:=DG;unfold getattributeRaised;refine aB (dR t jP ?_);rw[aP rfl,a];exact aB (aF last)
theorem PU {sl:Array (Option Value)}
  (l:s.heap.get? a=some { cls:=.type "zip",dict:=none,data:=.fields fs,slots:=sl }) (calm:A.handled=none) (out:∀ h' tk e,Heap.NewExcOf s.heap h' e "AttributeError" -> Q none { s with heap:=h',toks:=tk }) :
  wpAny (model prog w) A (getAttr? (.ref a) "keys") Q E s:=by
 have c:∀ h' tk e,Heap.NewAttrErr s.heap h' e (.ref a) "keys" -> (∃ o,h'.get? e=some o/\o.cls = .type "AttributeError")/\Q none { s with heap:=h',toks:=tk }:=λh' tk e x=>by
  obtain⟨_,_,y⟩:=x.there;exact⟨⟨_,y,rfl⟩,out h' tk e x.of⟩
 let d:Shared:={ s with toks:=s.toks+1 };let b:Except Value Value->Shared->Prop:=λr h=>wpAny (model prog w) A (match r with | .ok v=>pure (some v) | .error e=>do if ← isInstance e (.type "AttributeError") then pure none else throw e) Q E h
 have look:wpAny (model prog w) A (getAttrBy (.ref a) (.str "keys" s.toks) false) (λv=>b (.ok v)) (λe=>b (.error e)) d:=by
  refine bV (aB (eM (T := "zip") ⟨_,l,rfl⟩ (aB (iM jV.lookup ?_))));have own:wpAny (model prog w) A (getAttrByItsOwn (.ref a) (.str "keys" s.toks) (.type "zip") (.builtin "zip.__getattribute__") false false) (λv=>b (.ok v)) (λe=>b (.error e)) d:=by
   refine aB (aF (aB (gE (bV (QQ (s:=d) l calm λh' tk e x=>?_)))));obtain⟨⟨o,g,f⟩,q⟩:=c h' tk e x;exact AX ⟨o,g,f⟩ (aB (dR (T := "AttributeError") ⟨o,g,f⟩ jP (aF q)))
  exact own
 exact aB (wpAny_mkText (aB (gE look)))
end
section
variable {K:Type} [DecidableEq K] {R:Result->Shared->Prop}
theorem JG {TI TO:Addr}(t:s.TypeIs (.ref d) "dict") (hz:IsZip s.heap z TI TO .none) (calm:A.handled=none)
  (on:∀ h2 tk e,Heap.NewExcOf s.heap h2 e "AttributeError" -> Q (.again (.builtin "dict.update.loop" ⟨[.ref d,.ref z,.int 0 0,.none],[]⟩)) { s with heap:=h2,toks:=tk }) :
  wpAny (model prog w) A (Builtin.«dict.__init__» ⟨[.ref d,.ref z],[]⟩) Q E s:=by
 have first:wpAny (model prog w) A (Builtin.Dict.selfAndRest "__init__" ⟨[.ref d,.ref z],[]⟩) (λp c=>p=(d,[Value.ref z])/\c=s) E s:=aB (kK t (aF ⟨rfl,rfl⟩))
 have a:wpAny (model prog w) A (Builtin.Dict.updateFrom "dict.__init__" d (.ref z) [] .none) Q E s:=by
  refine aB (eM (T := "zip") ⟨_,hz,rfl⟩ ?_);rw[aP (by decide)];refine aB (PU hz calm λh2 tk e x=>?_);have b:IsZip h2 z TI TO .none:=x.keeps _ _ hz;exact aB (lI (aB (wpAny_pyIter_zip b (aF (on h2 tk e x)))))
 exact aB (cL first (λp c q=>by obtain⟨rfl,rfl⟩:=q;exact a) λ_ _ q=>q)
end
end PySem
namespace L2
open PySem PySem.Spec PyProof.Rows Lw
section
variable {X:Cx}
theorem Ui:∀ (ks:List hI){vs:List V}{ws:List Value},mX vs ws->KV (ks.zip vs) (ks.zip ws)
 | [],_,_,_=>.nil
 | k::ks,_,_,.nil=>.nil
 | k::ks,_,_,.cons h r=>.cons ⟨rfl,h⟩ (Ui ks r)
end
def xQ:List D->Option (List hI)
 | []=>some []
 | d::ds=>match tZ d,xQ ds with
  | some k,some ks=>some (k::ks)
  | _,_=>none
section
variable {X:Cx}{K:mC}
theorem Zh (h:xQ ds=some ks) (rs:Reps K A H ds vs):vs=ks.map kV:=by
 induction ds generalizing ks vs with
 | nil=>cases rs;cases h;rfl
 | cons d ds c =>
  cases rs with
  | cons r rs =>
  have h:=(show (match tZ d,xQ ds with | some k,some ks=>some (k::ks) | _,_=>none)=some ks from h);cases a:tZ d with
  | none=>rw[a] at h;cases h
  | some k =>
   cases b:xQ ds with
   | none=>rw[a,b] at h;cases h
   | some e =>
    rw[a,b] at h;cases h;rw[c b rs,Ej a r.peek];rfl
theorem keysL_strs:∀ (xs:List Str),xQ (xs.map D.str)=some (xs.map Sum.inr)
 | []=>rfl
 | x::xs=>by
  show (match some (Sum.inr x:hI),xQ (xs.map D.str) with | some k,some a=>some (k::a) | _,_=>none)=_;rw[keysL_strs xs];rfl
theorem Rj:∀ (ks:List hI){ds:List D}{vs:List V}{A:Addr->Prop}{H:Hp},Reps K A H ds vs->(ks.zip ds).map (·.1)=(ks.zip vs).map (·.1)/\Reps K A H ((ks.zip ds).map (·.2)) ((ks.zip vs).map (·.2))
 | [],_,_,_,_,_=>⟨rfl,.nil⟩
 | k::ks,_,_,_,_,.nil=>⟨rfl,.nil⟩
 | k::ks,_,_,_,_,.cons h r=>by
  obtain⟨b,a⟩:=Rj ks r;exact⟨by simp[b],.cons h a⟩
end
def Cn (lo c:Int) (n:Nat):It:=⟨λi _=>i<n,λi H x H'=>H'=H/\x = .int (lo+i*c),λi _=>n<=i⟩
theorem JE {P:Program}{K:mC}(it:Addr) (lo c:Int) (n:Nat):Turn P w K tg (Cn lo c n) [it] it (λi h=>IsRangeIter h it (lo+(i:Nat)*c) ((n:Int)-(i:Nat)) c) where
 mem:=by simp
 obj:=λi h st b d=>by
  have e:b=it:=by simpa using d
  subst e;exact⟨_,st,λv z=>by
   have F:Data.fields _=Data.cell v:=z;cases F⟩
 keep:=λi h j st k=>k it (by simp) _ st
 item:=by
  intro X p hw q m i a s B H E I g st l;subst p hw q;obtain⟨y,f1,f2,x,u,r⟩:=g it (by simp);have W:=Walks.range (prog:=X.prog) (w:=X.w) (I.ok.hd m) it lo c n;refine W.item i s _ _ l st λv j C M f L=>?_
  obtain⟨t,rfl⟩:=M;have O:Inv X a B H { s with heap:=j,toks:=C }:=I.turned (λb o d e=>L b o (by simpa using d) e) y f1 x u r;exact⟨_,rfl,zU (s:={ s with heap:=j,toks:=C }) (n := "range_iterator") f rfl rfl (by decide) ⟨.int (lo+i*c),H,O,⟨t,rfl⟩,⟨rfl,rfl⟩,f,λb d=>(g b d).1⟩⟩
 done:=by
  intro X p hw q m i a s B H E I g st l;subst p hw q;obtain⟨y,f1,f2,x,u,r⟩:=g it (by simp);exact wpAny_pyNext_range_end (I.ok.hd m) st (by have:n<=i:=l;omega) λj N=>⟨rfl,I.turned (t':=s.toks) (λb o d e=>N b o d e) y f1 x u r⟩
 self:=λ_ _ _ _ _ st h=>wpAny_pyIter_rangeiter st h
section
variable {X:Cx}
def xD (lo hi c:Int):Nat:=if lo<hi then ((hi-lo-1)/c+1).toNat else 0
def JP (ta:TA):TI:=λσ H R=>ta σ H λvs H1=>∃ i j c:Int,vs=[.int i,.int j,.int c]/\(0<=i/\i<=100000/\0<=j/\j<=100000/\0<c/\c<=100000)/\R (Cn i c (xD i j c)) H1
theorem KU (hg:Gl X "range") (hm:X.mg "range" = none) (ha:PA X [a,b,c] ta) (hs:starEach [a,b,c] X.env=(false,eval a X.env)::starEach [b,c] X.env:=by rfl) (hs2:(backTo pos (starEach [b,c] X.env)).any (·.1)=false:=by rfl) :
  PI X tg (.Call (.Name "range" p) [a,b,c] [] pos) (JP ta):=by
 intro f s l H R I h;refine Call_ (yP I hg hm boot_range (dY (mR (ha pos f s l H _ I h) λQ g ⟨O,m,L,z,B⟩=>?_) hs hs2));obtain⟨lo,d,c,rfl,⟨Y,W,V,U,j,T⟩,q⟩:=B;cases z with
 | cons y i =>
  cases i with
  | cons x i =>
   cases i with
   | cons r i =>
    cases i;obtain⟨t,rfl⟩:=y;obtain⟨u,rfl⟩:=x;obtain⟨v,rfl⟩:=r;refine call_range_3 (by omega) ?_ (.inl (PyProof.noPylong_small (by omega)));refine wpAny_pyIter_range (IsRange.new ..) ?_ ?_
    ·have S:0<=Builtin.Range.rangeSize lo d c/\Builtin.Range.rangeSize lo d c<=100001:=by
      unfold Builtin.Range.rangeSize;rw[aP (show c>0 from j)];split
      ·have N:=lW (show 0<=d-lo-1 by omega) (show 0<=c by omega);have M:=Int.ediv_le_self c (show 0<=d-lo-1 by omega);omega
      ·omega
     unfold Builtin.Range.small;simp only[Builtin.Range.rangeFitsLong,cE,lX,dZ,jB,aP (show c>0 from j)];omega
    ·have k:Inv X f l m { g with heap:=g.heap.push { cls:=.type "range",data:=.fields #[.int lo t,.int d u,.int c v] },toks:=g.toks }:=L.kept λb o e=>aE _ e
     refine⟨(g.heap.push { cls:=.type "range",data:=.fields #[.int lo t,.int d u,.int c v] }).objs.size,[(g.heap.push { cls:=.type "range",data:=.fields #[.int lo t,.int d u,.int c v] }).objs.size],_,_,m,rfl,
      k.kept (t':=g.toks) λb o e=>aE _ e,JE _ lo c (xD lo d c),?_,λb C=>?_,q⟩
     ·have F:lo+((0:Nat):Int)*c=lo:=by simp
      have E:((xD lo d c:Nat):Int)-((0:Nat):Int)=Builtin.Range.rangeSize lo d c:=by
       unfold xD Builtin.Range.rangeSize;rw[aP (show c>0 from j)];split
       ·have:=lW (show 0<=d-lo-1 by omega) (show 0<=c by omega);omega
       ·rfl
      show IsRangeIter _ _ (lo+((0:Nat):Int)*c) (((xD lo d c:Nat):Int)-((0:Nat):Int)) c;rw[F,E];exact bB _ rfl
     ·have e:b=(g.heap.push { cls:=.type "range",data:=.fields #[.int lo t,.int d u,.int c v] }).objs.size:=by simpa using C
      subst e;exact k.fpOk (aZ _) (k.hok.fresh (aZ _))
end
section
variable {X:Cx}{K:mC}
def xU (lo c:Int) (n:Nat):List D:=(List.range n).map λ(i:Nat)=>D.int (lo+i*c)
theorem EA {lo c:Int}{n:Nat}:YD K (Cn lo c n) (xU lo c n) [] where
 vals:=rfl
 go:=λi H A a _=>by simpa [Cn,xU] using a
 yld:=λi H A x d a _ y=>by
  have b:i<n:=by simpa [xU] using a
  refine⟨.int (lo+i*c),by simp[xU,b],.inl ⟨y.1,?_⟩⟩;rw[y.2];exact .int _
 stop:=λi H A a _=>by simp[Cn,xU,a]
def Vc (ta tb tc:nI):vX:=λdk ρ Ψ=>ta dk ρ λr ρ1=>tb dk ρ1 λr' ρ2=>tc dk ρ2 λr'' ρ3=>match r,r',r'' with
 | .val (.int i),.val (.int j),.val (.int c)=>(0<=i/\i<=100000/\0<=j/\j<=100000/\0<c/\c<=100000)/\Ψ (xU i c (xD i j c)) ρ3
 | _,_,_=>False
theorem S0 (hg:Gl X "range") (hm:X.mg "range" = none) (ha:PD X a ta) (hb:PD X b tb) (hc:PD X c tc) (hs:starEach [a,b,c] X.env=(false,eval a X.env)::starEach [b,c] X.env:=by rfl) (hs2:(backTo pos (starEach [b,c] X.env)).any (·.1)=false:=by rfl)
  (hn:yS a=true:=by rfl) (hn2:yS b=true:=by rfl) (hn3:yS c=true:=by rfl):xT X tg (.Call (.Name "range" p) [a,b,c] [] pos) (Vc ta tb tc) :=
 (KU hg hm (nC ha (nC hb (nC hc nJ hn3) hn2) hn) hs hs2).mono λU H R h=>h.elim λB j T V F hd E k=>⟨B,j,T,_,F,hd,E,λr g v Y C d1 L=>⟨B,g,(r,some v)::T,_,C,d1,L,λm f u W z d2 I=>⟨B,f,(m,some u)::(r,some v)::T,_,z,d2,I,λl e w S y i d=>by
  split at d
  ·have x:=i.valAt;have Q:=i.drop;obtain⟨t,q,o⟩:=Q.two rfl rfl;have O:=x.int_inv;have N:=q.int_inv;have M:=o.int_inv;subst O N M;exact⟨_,_,_,rfl,d.1,k _ _ e [] S y t EA d.2⟩
  ·exact d.elim⟩⟩⟩
end
end L2
namespace Lw
open PySem L2
abbrev nK:=List (Str×Int)
abbrev yJ:=List (Str×Str×List Str)
def hO (t:nK):List (hI×D):=t.map λp=>(Sum.inr p.1,D.int p.2)
def look (t:nK) (x:Str):Int:=match t.find? (λp=>decide (p.1=x)) with
 | some p=>p.2
 | none=>0
theorem Hc:look (p::t) x=if p.1=x then p.2 else look t x:=by
 unfold look;rw[cY];by_cases h:p.1=x<;>simp[h]
theorem zK:∀ (t:nK) (x:Str),(x∈t.map (·.1)->mZ (hO t) (Sum.inr x)=some (.int (look t x)))/\(x∉t.map (·.1)->mZ (hO t) (Sum.inr x)=none/\look t x=0)
 | [],x=>⟨λh=>by simp at h,λ_=>⟨rfl,rfl⟩⟩
 | p::t,x=>by
  have a:=zK t x;have e:hO (p::t)=(Sum.inr p.1,D.int p.2)::hO t:=rfl;rw[e,wQ,Hc];by_cases h:p.1=x
  ·subst h;exact⟨λ_=>by rw[aP rfl,aP rfl],λn=>absurd (by simp) n⟩
  ·have b:(Sum.inr p.1:hI)≠Sum.inr x:=λq=>h (iL q)
   rw[aM b,aM h];refine⟨λm=>a.1 ?_,λm=>a.2 λq=>m (by simp only[aO,aL];exact .inr q)⟩;simp only[aO,aL] at m;exact m.resolve_left λq=>h q.symm
theorem xL (t:nK) (x:Str):(mZ (hO t) (Sum.inr x)).getD (.int 0) = .int (look t x):=by
 by_cases h:x∈t.map (·.1)
 ·rw[(zK t x).1 h];rfl
 ·rw[((zK t x).2 h).1,((zK t x).2 h).2];rfl
theorem QX (h:x∉t.map (·.1)):nR (hO t) (Sum.inr x) (.int n)=hO (t++[(x,n)]):=by
 unfold nR;rw[Iz,((zK t x).2 h).1];simp[hO]
theorem Ki:∀ (u t:nK),((t++u).map (·.1)).Nodup->qJ (hO t) (hO u)=hO (t++u)
 | [],t,_=>by simp[qJ,hO]
 | p::u,t,h=>by
  have a:p.1∉t.map (·.1):=λq=>by
   rw[aJ] at h;exact (bK.mp h).2.2 p.1 q p.1 (by simp) rfl
  have e:qJ (hO t) (hO (p::u))=qJ (nR (hO t) (Sum.inr p.1) (.int p.2)) (hO u):=rfl;rw[e,QX a,Ki u (t++[p]) (by simpa using h)];simp
theorem Aq (h:(t.map (·.1)).Nodup):qJ [] (hO t)=hO t:=by
 have:=Ki t [] (by simpa using h)
 simpa [hO] using this
end Lw
namespace L2
open PySem PySem.Spec PyProof.Rows Lw
section
variable {X:Cx}{K:mC}
theorem KL:oP X (.type "int") (λxs H Q=>∃ (x:Str) (n:Int),xs=[.str x]/\intText? x=some n/\x.length<=640/\Q (.int n) H):=by
 intro a s g H xs i Q I r h;obtain⟨x,n,rfl,f,d,q⟩:=h;obtain⟨u,rfl,c⟩:=rR r;obtain⟨t,rfl⟩:=c;exact PySem.W.KIN.call_text f d ⟨.int n,H,I.kept (t':=s.toks+1) λb o e=>e,⟨_,rfl⟩,q⟩
def RR:OC:=λds Φ=>match ds with
 | [.str x]=>∃ n,intText? x=some n/\x.length<=640/\Φ (.val (.int n))
 | ds=>Lp ds Φ
def Mc:List V->Hp->VK->Prop:=λxs H Q=>((∃ i,xs=[.int i]/\Q (.int i) H)\/∃ k,xs=[.bl k]/\Q (.int (if k then 1 else 0)) H)\/∃ (x:Str) (n:Int),xs=[.str x]/\intText? x=some n/\x.length<=640/\Q (.int n) H
theorem zN:oP X (.type "int") Mc:=CP.or KL
theorem Ah:sG K Mc RR:=by
 intro B L H b e c Q hd f a k;have two:Lp b c->Mc e H Q:=λa=>.inl (LO B L H b e c Q hd f a k)
 cases b with
 | nil=>exact two a
 | cons d b =>
 cases d<;>first | exact two a | skip
 cases b with
 | cons _ _=>exact two a
 | nil =>
 obtain⟨x,rfl,g⟩:=sI f;have:=g.str_inv;subst this;obtain⟨n,i,h,a⟩:=a;exact .inr ⟨_,n,rfl,i,h,k _ _ H a (hd.pushF (.int _))⟩
end
section
theorem xV (xs:List α) (enc out:α->D) (p:α->Bool) (ρ1:List Sl) (hι:∀ Ψ:List D->List Sl->Prop,Ψ (xs.map enc) ρ1->ι dk ρ Ψ) (hl:xs.length<=100000)
  (hs:∀ (i:Nat) x (ys:List D) (Nx:List D->List Sl->Prop),xs[i]?=some x->ys.length<100000->(p x=true->Nx (ys++[out x]) (oQ caps ρ1))->(p x=false->Nx ys (oQ caps ρ1))->g (enc x) (List.replicate n Sl.no++oQ caps ρ1) λρ2=>tt dk ρ2 λb ρ3=>if b=true then te dk ρ3 λr ρ4=>match sd r with
   | some c=>ys.length<100000/\Nx (ys++[c]) (ρ4.drop n)
   | none=>False
   else Nx ys (ρ3.drop n))
  (hΦ:Φ (.own (.lst ((xs.filter p).map out))) (pS caps (oQ caps ρ1) ρ1)):uF n caps ι g tt te dk ρ Φ:=by
 refine hι _ ⟨λi ys f=>ys=((xs.take i).filter p).map out/\f=oQ caps ρ1,⟨by simp,rfl⟩,?_,?_⟩
 ·rintro i d ys f hd _ ⟨a,h⟩;rw[aX] at hd;cases e:xs[i]? with
  | none=>rw[e] at hd;cases hd
  | some x =>
   rw[e] at hd;cases hd;obtain⟨l,_⟩:=aU.mp e;have j:(xs.take (i+1)).filter p=(xs.take i).filter p++(if p x=true then [x] else []):=by
    rw[bS,e,List.filter_append];by_cases q:p x=true<;>simp[q]
   have len:ys.length<100000:=by
    rw[a,aA];have k:=cD p (xs.take i);rw[bQ] at k;omega
   rw[h];refine hs i x ys (λys f=>ys=((xs.take (i+1)).filter p).map out/\f=oQ caps ρ1) e len (λq=>⟨?_,rfl⟩) λq=>⟨?_,rfl⟩
   ·rw[j,aP q,a,aJ];rfl
   ·rw[j,aM (by rw[q];decide),dO];exact a
 ·rintro ys f _ ⟨a,h⟩;rw[a,h,aA,cI];exact hΦ
theorem pZ (xs:List α) (enc out:α->D) (ρ1:List Sl) (hι:∀ Ψ:List D->List Sl->Prop,Ψ (xs.map enc) ρ1->ι dk ρ Ψ) (hl:xs.length<=100000)
  (hs:∀ (i:Nat) x (ys:List D) (Nx:List D->List Sl->Prop),xs[i]?=some x->ys.length<100000->Nx (ys++[out x]) (oQ caps ρ1)->g (enc x) (List.replicate n Sl.no++oQ caps ρ1) λρ2=>te dk ρ2 λr ρ4=>match sd r with
   | some c=>ys.length<100000/\Nx (ys++[c]) (ρ4.drop n)
   | none=>False)
  (hΦ:Φ (.own (.lst (xs.map out))) (pS caps (oQ caps ρ1) ρ1)):uF n caps ι g Km te dk ρ Φ:=by
 refine xV xs enc out (λ_=>true) ρ1 hι hl (λi x ys Nx e b a _=>hs i x ys Nx e b (a rfl)) ?_;have:xs.filter (λ_=>true)=xs:=List.filter_eq_self.mpr λ_ _=>rfl
 rw[this];exact hΦ
end
end L2
namespace Lw
open PySem L2
abbrev Iv:=List (Str×Str)
def oE (t:Iv):List (hI×D):=t.map λp=>(Sum.inr p.1,D.str p.2)
def mU (t:Iv) (x:Str):Str:=match t.find? (λp=>decide (p.1=x)) with
 | some p=>p.2
 | none => ""
theorem Hx:mU (p::t) x=if p.1=x then p.2 else mU t x:=by
 unfold mU;rw[cY];by_cases h:p.1=x<;>simp[h]
theorem N5:∀ (t:Iv) (x:Str),(x∈t.map (·.1)->mZ (oE t) (Sum.inr x)=some (.str (mU t x)))/\(x∉t.map (·.1)->mZ (oE t) (Sum.inr x)=none)
 | [],x=>⟨λh=>by simp at h,λ_=>rfl⟩
 | p::t,x=>by
  have a:=N5 t x;have e:oE (p::t)=(Sum.inr p.1,D.str p.2)::oE t:=rfl;rw[e,wQ,Hx];by_cases h:p.1=x
  ·subst h;exact⟨λ_=>by rw[aP rfl,aP rfl],λn=>absurd (by simp) n⟩
  ·have b:(Sum.inr p.1:hI)≠Sum.inr x:=λq=>h (iL q)
   rw[aM b,aM h];refine⟨λm=>a.1 ?_,λm=>a.2 λq=>m (by simp only[aO,aL];exact .inr q)⟩;simp only[aO,aL] at m;exact m.resolve_left λq=>h q.symm
theorem Tz (h:x∉t.map (·.1)):nR (oE t) (Sum.inr x) (.str n)=oE (t++[(x,n)]):=by
 unfold nR;rw[Iz,(N5 t x).2 h];simp[oE]
theorem Vu:∀ (u t:Iv),((t++u).map (·.1)).Nodup->qJ (oE t) (oE u)=oE (t++u)
 | [],t,_=>by simp[qJ,oE]
 | p::u,t,h=>by
  have a:p.1∉t.map (·.1):=λq=>by
   rw[aJ] at h;exact (bK.mp h).2.2 p.1 q p.1 (by simp) rfl
  have e:qJ (oE t) (oE (p::u))=qJ (nR (oE t) (Sum.inr p.1) (.str p.2)) (oE u):=rfl;rw[e,Tz a,Vu u (t++[p]) (by simpa using h)];simp
theorem PY (h:(t.map (·.1)).Nodup):qJ [] (oE t)=oE t:=by
 have:=Vu t [] (by simpa using h)
 simpa [oE] using this
theorem Tx:∀ (own xs:List Str),(own.map λo=>(Sum.inr o:hI)).zip (xs.map D.str)=oE (own.zip xs)
 | [],_=>rfl
 | _::_,[]=>rfl
 | o::own,x::xs=>by simp only[aO,cN,Tx own xs];rfl
theorem Mm:∀ (own xs:List Str),own.length=xs.length->(own.zip xs).map (·.1)=own
 | [],_,_=>rfl
 | _::_,[],h=>by simp at h
 | o::own,x::xs,h=>by simp only[cN,aO,Mm own xs (by simpa using h)]
theorem Gv:∀ {own xs:List Str}{o:Str},own.length=xs.length->o∈own->mU (own.zip xs) o∈xs
 | [],_,_,_,h=>by cases h
 | _::_,[],_,h,_=>by simp at h
 | a::own,x::xs,o,h,m=>by
  rw[cN,Hx];split
  ·exact aK
  ·rename_i e
   exact aT _ (Gv (by simpa using h) ((aL.mp m).resolve_left λq=>e q.symm))
theorem Oz:∀ {own xs:List Str}{o o':Str},own.length=xs.length->xs.Nodup->o∈own->o'∈own->mU (own.zip xs) o=mU (own.zip xs) o'->o=o'
 | [],_,_,_,_,_,h,_,_=>by cases h
 | _::_,[],_,_,h,_,_,_,_=>by simp at h
 | a::own,x::xs,o,o',h,g,m,f,e=>by
  rw[cN,Hx,Hx] at e;obtain⟨d,i⟩:=cH.mp g;have c:own.length=xs.length:=by simpa using h
  by_cases q:a=o
  ·by_cases b:a=o'
   ·rw[← q,← b]
   ·rw[aP q,aM b] at e;have:=Gv c ((aL.mp f).resolve_left λz=>b z.symm);dsimp only at e;rw[← e] at this;exact absurd this d
  ·by_cases b:a=o'
   ·rw[aM q,aP b] at e;have:=Gv c ((aL.mp m).resolve_left λz=>q z.symm);dsimp only at e;rw[e] at this;exact absurd this d
   ·rw[aM q,aM b] at e;exact Oz c i ((aL.mp m).resolve_left λz=>q z.symm) ((aL.mp f).resolve_left λz=>b z.symm) e
theorem Bc:∀ {l:List α},l.Nodup->(∀ x∈l,∀ y∈l,f x=f y->x=y)->(l.map f).Nodup
 | [],_,_=>.nil
 | a::l,c,h=>by
  obtain⟨g,d⟩:=cH.mp c;refine cH.mpr ⟨λm=>?_,Bc d λx i y b=>h x (aT _ i) y (aT _ b)⟩;obtain⟨y,b,e⟩:=aV.mp m;have:=h a aK y (aT _ b) e.symm;subst this;exact g b
def pQ:List Str->List (Str×Str)
 | a::b::r=>(a,b)::pQ r
 | _=>[]
theorem pairs_at:∀ {ws:List Str}{i:Nat}{p:Str×Str},(pQ ws)[i]?=some p->ws[2*i]?=some p.1/\ws[2*i+1]?=some p.2
 | [],i,p,h=>by simp[pQ] at h
 | [a],i,p,h=>by simp[pQ] at h
 | a::b::r,0,p,h=>by simp[pQ] at h;subst h;exact⟨rfl,rfl⟩
 | a::b::r,i+1,p,h=>by
  have:=pairs_at (ws:=r) (i:=i) (p:=p) (by simpa [pQ] using h);rw[show 2*(i+1)=(2*i)+1+1 by omega]
  simpa using this
theorem Of:∀ (ws:List Str),ws.length%2=0->2*(pQ ws).length=ws.length
 | [],_=>rfl
 | [a],h=>by simp at h
 | a::b::r,h=>by
  have:=Of r (by simp only[bX] at h;omega);simp only[pQ,bX];omega
theorem U0 (n:Nat):xD 0 ((2*n:Nat):Int) 2=n:=by
 unfold xD;split
 ·omega
 ·omega
def oC (i:Nat):Stmt:=PySem.Challenge.pw_laidcells_k14_row_papers_looked_at.main.body.getD i (.Pass ⟨0,0,0,0⟩)
abbrev E5:Stmt:=oC 4
abbrev Gb:Stmt:=oC 6
abbrev Fc:Stmt:=oC 7
abbrev Iu:Stmt:=oC 8
abbrev A3:Stmt:=oC 9
abbrev Bq:Stmt:=oC 11
abbrev Cj:Stmt:=oC 12
abbrev Ft:Stmt:=oC 13
abbrev F0:Stmt:=oC 14
abbrev Ho:Stmt:=oC 15
abbrev Ie:Stmt:=oC 16
abbrev Fj:Stmt:=oC 17
abbrev G9:Stmt:=oC 18
abbrev Fo:Stmt:=oC 20
abbrev En:Stmt:=oC 21
abbrev Go:Stmt:=oC 23
abbrev Gh:Stmt:=oC 24
abbrev wW:Stmt:=oC 24
abbrev Ce:Stmt:=oC 25
abbrev Hu:Stmt:=oC 26
abbrev B9:Stmt:=oC 27
abbrev Gf:Stmt:=oC 28
abbrev G6:Stmt:=oC 29
abbrev Hy:Stmt:=oC 30
abbrev Ii:Stmt:=oC 31
abbrev Bw:Stmt:=oC 32
abbrev F6:Stmt:=oC 33
abbrev Ch:Stmt:=oC 34
abbrev F2:Stmt:=oC 35
abbrev Fx:Stmt:=oC 36
abbrev E1:Stmt:=oC 37
abbrev Gy:Stmt:=oC 38
abbrev Fa:Stmt:=oC 39
abbrev Em:Stmt:=oC 40
abbrev Cb:Stmt:=oC 41
abbrev Fd:Stmt:=oC 42
abbrev Fe:Stmt:=oC 43
abbrev Er:Stmt:=oC 44
abbrev Fi:Stmt:=oC 45
abbrev F9:Stmt:=oC 46
abbrev E3:Stmt:=oC 48
abbrev Ia:Stmt:=oC 49
abbrev Vp:Stmt:=oC 50
abbrev Cs:Stmt:=oC 50
structure Txt (mg:Str->Option Value):Prop where
 len:mg "len" = none
 range:mg "range" = none
 sum:mg "sum" = none
 min:mg "min" = none
 max:mg "max" = none
 tuple:mg "tuple" = none
 list:mg "list" = none
 set:mg "set" = none
 dict:mg "dict" = none
 int:mg "int" = none
 str:mg "str" = none
 zip:mg "zip" = none
 enumerate:mg "enumerate" = none
 all:mg "all" = none
 any:mg "any" = none
 isinstance:mg "isinstance" = none
 sorted:mg "sorted" = none
 abs:mg "abs" = none
 reversed:mg "reversed" = none
 bool:mg "bool" = none
structure Gd (K:mC) (mg:Str->Option Value) (x:Str) (st:Stmt) (ps:List Str) (f:Addr) (fd:FuncData):Prop where
 F:Fun K x x st f fd
 m:mg x=some (.ref f)
 k:PySem.W.keepIn K (.ref f)=true
 b:zF K fd ps []
def El:Sp:=λvs H Q _=>∃ (d c:Addr) (m:Int),vs=[.ref d,.int m]/\DeckAt H d c/\0<m/\m<4611686018427387904/\∀ (r:Int) (H':Hp),0<=r->r<m->DeckAt H' d c->nE d c H H'->Q (.int r) H'
section
variable {P:Program}{K:mC}
theorem K8:FnScope ["deck","many","at","cell"] ["deck","many"] (nF wW):=⟨rfl,rfl,rfl,by decide +kernel,rfl,by decide +kernel,by decide +kernel⟩
theorem Gu (F:Fun K "_law_take" "_law_take" wW f fd) (T:Txt mg):FnOk P w K mg base mJ 1 f fd ["deck","many"] El:=by
 refine F.ok K8 (λy H Q E h=>?_) (λL A r s H y Q E N h=>?_)
 ·obtain⟨d,c,m,rfl,_⟩:=h;rfl
 ·obtain⟨d,c,m,rfl,D,g,O,k⟩:=h;obtain⟨a,p,q,x,I,C⟩:=id D.ex;have l:=D.ne;refine⟨_,qF (qE (i:=2) K8.nd rfl (Or.inl rfl) (nW tI (qY sH (pv 0) oA (λ_ _=>rfl)) (vJ zA (by rfl) T.len bP (yB (qY sH (pv 0) oA (λ_ _=>rfl)) nJ)))) (qF (zR (nW xH (qY sH (pv 0) oA (λ_ _=>rfl)) oA) (Bt (pv 0) oA Ip)) (qF (qE (i:=3) K8.nd rfl (Or.inl rfl) (qY sH (qY sH (pv 0) oA (λ_ _=>rfl)) (pv 2) (λ_ _=>rfl))) (qF (zR (nW W2 (pv 3) (pv 1)) (Bt (qY sH (pv 0) oA (λ_ _=>rfl)) (pv 2) Ip)) (rY (xM (nW tI (pv 3) (pv 1))))))),?_⟩;refine⟨_,rfl,d,_,_,_,rfl,rfl,mG.of q,rfl,_,rfl,d,_,_,_,rfl,rfl,mG.of q,rfl,c,_,rfl,.inl (mG.of x),_,_,rfl,rfl,?_,?_⟩
  ·rw[aA];omega
  ·rw[aA];have M:=eT p (show (a.length:Int)≠0 by omega);have S:=dN p (show (0:Int)<a.length by omega);obtain⟨j,v⟩:=dL M;have t:j<a.length:=by omega
   have u:(a.map V.int)[j]?=some (V.int a[j]):=by simp[t]
   refine⟨_,rfl,d,_,_,_,rfl,rfl,mG.of q,rfl,_,_,rfl,rfl,_,rfl,d,_,_,1,rfl,rfl,q,rfl,?_⟩;have g1:upd H d (.lst ([V.ref c,V.int p].set 1 (V.int (p+1)))) d=some (.lst [.ref c,.int (p+1)]):=mT;have g2:upd H d (.lst ([V.ref c,V.int p].set 1 (V.int (p+1)))) c=some (.lst (a.map V.int)):=by rw[mO l.symm];exact x
   refine⟨_,rfl,d,_,_,_,rfl,rfl,mG.of g1,rfl,_,rfl,c,_,_,V.int a[j],rfl,rfl,mG.of g2,(by rw[v];exact qG u),?_⟩
   ·refine⟨_,rfl,_,rfl,_,_,rfl,rfl,⟨g,by omega⟩,_,rfl,d,_,_,_,rfl,rfl,mG.of g1,rfl,_,rfl,c,_,_,j,rfl,rfl,g2,?_,?_⟩
    ·rw[v,aA];unfold tQ;rw[aP (by omega),aP (by omega)];simp
    ·refine⟨_,rfl,_,rfl,_,_,rfl,rfl,g,?_⟩;refine k _ _ (eT _ (by omega)) (dN _ g) ⟨a.set j (a[j]/m),p+1,?_,?_,by rw[bT];exact I,by rw[bT];exact C⟩ ?_
     ·rw[mO l];exact g1
     ·rw[mT,List.map_set]
     ·intro b o e B z;rw[mO z,mO B];exact e
end
theorem qP.new (h:H p=none):qP H (upd H p o):=λb u e=>by rw[mO (nO e h)];exact e
theorem KH (ns:List Int) (lo hi:Option Int):∃ ms:List Int,vV (ns.map V.int) lo hi=ms.map V.int/\ms.length<=ns.length:=by
 refine⟨(ns.drop (HT.sIx ns.length 0 lo)).take (HT.sIx ns.length ns.length hi-HT.sIx ns.length 0 lo),?_,?_⟩
 ·unfold vV;rw[List.length_map,List.map_take,List.map_drop]
 ·rw[bQ,cW];omega
def Sh (K:mC):Sp:=λvs H Q _=>∃ (a:Addr) (ns:List Int),vs=[.ref a]/\mG K H a (ns.map V.int)/\ns.length<=63/\∀ (d c:Addr) (H':Hp),DeckAt H' d c->H d=none->H c=none->qP H H'->Q (.ref d) H'
section
variable {P:Program}{K:mC}
theorem B3:FnScope ["script","cells","k","mixed"] ["script"] (nF Go):=⟨rfl,rfl,rfl,by decide +kernel,rfl,by decide +kernel,by decide +kernel⟩
theorem Ys (F:Fun K "_law_deck" "_law_deck" Go f fd) (T:Txt mg):FnOk P w K mg base mJ 1 f fd ["script"] (Sh K):=by
 refine F.ok B3 (λvs H Q E h=>?_) (λae A S s H vs Q E hr h=>?_)
 ·obtain⟨a,l,rfl,_⟩:=h;rfl
 ·obtain⟨a,l,rfl,hS,ab,k⟩:=h;refine⟨_,qF (qE (i:=1) B3.nd rfl (Or.inl rfl) (nW Ct (Cd Ky (pv 0) C5 (Dl oA)) (rD (yB (vJ zA (by rfl) T.len bP (yB (pv 0) nJ)) nJ)))) (qF (zS (xA E7 (nW tI (vJ (Fz rfl) (by rfl) T.sum iX (yB (Cd Ky (pv 0) C5 (Dl oA)) nJ)) oA) oA (vZ _)) (rY (Af bM rfl (Bv rfl T.range (yB (vJ zA (by rfl) T.len bP (yB (pv 1) nJ)) nJ)) (wT (i:=2) B3.nd rfl (Or.inl rfl)) (qF (qE (i:=3) B3.nd rfl (Or.inl rfl) (nW tI (nW wS (nW xH (nW xH (nW tI (qY sH (pv 1) (pv 2) (λ_ _=>rfl)) oA) (nW wS oA (pv 2))) oA) oA) oA)) (qF (qE (i:=3) B3.nd rfl (Or.inl rfl) (nW tI (nW wS (nW tI (nW xH (nW wS (pv 3) (pv 3)) (nW wS oA (pv 2))) oA) oA) oA)) (rY (zR (nW xH (nW wS (nW wS (pv 3) (pv 3)) oA) (nW tI (nW wS (pv 3) oA) oA)) (Bt (pv 1) (pv 2) Ip))))))) Bo) (rY (xM (rD (yB (pv 1) (yB oA nJ)))))),?_⟩;obtain⟨j,em,ac⟩:=KH l none (some 63);refine⟨_,rfl,_,rfl,a,_,rfl,hS,λv n1=>?_⟩;have N:qP H (upd H v (.lst (vV (l.map V.int) none (some 63)))):=qP.new n1;rw[em] at N ⊢;refine⟨_,rfl,a,_,rfl,.inl (N.seq hS),(by show 1<=sizeLine;decide),λO n2=>?_⟩;have s2:=N.trans (qP.new (o:=.lst [V.int ((l.map V.int).length:Nat)]) n2);have q1:upd (upd H v (.lst (j.map V.int))) O (.lst [V.int ((l.map V.int).length:Nat)]) v=some (.lst (j.map V.int)):=by rw[mO (nO mT n2)];exact mT
  refine⟨v,O,_,_,rfl,rfl,q1,mT,?_,λc nc=>?_⟩
  ·rw[aA];exact bY (show j.length+1<=64 by omega) (by decide)
  have u:=s2.trans (qP.new (o:=.lst (j.map V.int++[V.int ((l.map V.int).length:Nat)])) nc);have ec:j.map V.int++[V.int ((l.map V.int).length:Nat)]=(j++[((l.map V.int).length:Int)]).map V.int:=by simp
  rw[ec] at u ⊢;generalize Y:j++[((l.map V.int).length:Int)]=m at u;have x:0<m.length/\m.length<=64:=by rw[← Y,aH,bW];omega
  have y:H c=none:=s2.free nc;generalize aa:upd (upd (upd H v (.lst (j.map V.int))) O (.lst [V.int ((l.map V.int).length:Nat)])) c (.lst (m.map V.int))=H3 at u;have c3:H3 c=some (.lst (m.map V.int)):=by rw[← aa];exact mT
  have fin:∀ (g:List Int) (q p:Option V) (C:Hp),qP H C->C c=some (.lst (g.map V.int))->0<g.length->g.length<=64 ->
    (Up (Pk (C3 (qM 1) (C3 (tC (.int 0)) Hj)))) { nx:=λ_ H'=>Q .non H',rt:=Q } [some (.ref a),some (.ref c),q,p] C:=by
   intro g q p C t r l1 l2;refine⟨_,rfl,(by show 2<=sizeLine;decide),λd U=>?_⟩;refine k d c _ ⟨g,0,mT,by rw[mO (nO r U)];exact r,l1,by omega⟩ (t.free U) y (t.trans (qP.new U))
  refine⟨_,rfl,_,rfl,a,_,rfl,u.seq hS,λp4 n4=>?_⟩;rw[em];have t:=u.trans (qP.new (o:=.lst (j.map V.int)) n4);have r:upd H3 p4 (.lst (j.map V.int)) c=some (.lst (m.map V.int)):=by rw[mO (nO c3 n4)];exact c3
  refine⟨p4,j,rfl,mG.of mT,_,_,rfl,rfl,(by show (0:Int)<2;decide),rfl,_,rfl,?_⟩;refine Ai (λ_=>?_) (λ_=>?_)
  ·refine⟨_,rfl,c,_,rfl,.inl (mG.of r),_,rfl,by omega,by rw[aA];omega,?_⟩;rw[aA,cC];refine Jg (lo:=0) (n:=m.length) (λi I z=>∃ (g:List Int) (q p:Option V),I=[some (.ref a),some (.ref c),q,p]/\qP H z/\z c=some (.lst (g.map V.int))/\g.length=m.length)
    ⟨m,none,none,rfl,t,r,rfl⟩ ?_ ?_
   ·rintro i I z hi ⟨g,q,p,rfl,L,B,W⟩;have Z:(g.map V.int)[i]?=some (V.int (g[i]'(by omega))):=by simp[W,hi]
    refine⟨_,rfl,_,rfl,c,_,_,V.int (g[i]'(by omega)),rfl,rfl,mG.of B,(by rw[lB];exact qG Z),_,_,rfl,rfl,(by show (0:Int)<2147483587;decide),_,rfl,_,_,rfl,rfl,.inl (by decide),_,_,rfl,rfl,_,_,rfl,rfl,_,_,rfl,rfl,.inr (by decide),_,_,rfl,rfl,(by show (0:Int)<2147483629;decide),?_⟩;refine⟨_,rfl,_,rfl,_,_,rfl,rfl,.inl ?_,_,rfl,_,_,rfl,rfl,.inl (by decide),_,_,rfl,rfl,_,_,rfl,rfl,(by show (0:Int)<2147483563;decide),_,_,rfl,rfl,.inr (by decide),_,_,rfl,rfl,(by show (0:Int)<2147483549;decide),?_⟩
    ·have b0:=eT ((g[i]'(by omega)%2147483587+853*(0+(i:Int))+11)*69621) (show (2147483629:Int)≠0 by decide);have b1:=dN ((g[i]'(by omega)%2147483587+853*(0+(i:Int))+11)*69621) (show (0:Int)<2147483629 by decide);exact⟨by omega,by omega⟩
    generalize hM:((g[i]'(by omega)%2147483587+853*(0+(i:Int))+11)*69621%2147483629)=M;have b0:=eT ((M*M+31*(0+(i:Int)))%2147483563*16807) (show (2147483549:Int)≠0 by decide);have b1:=dN ((M*M+31*(0+(i:Int)))%2147483563*16807) (show (0:Int)<2147483549 by decide);refine⟨_,rfl,_,rfl,_,_,rfl,rfl,.inl ?_,_,_,rfl,rfl,.inr (by decide),_,rfl,_,_,rfl,rfl,.inl ?_,_,_,rfl,rfl,(by show (0:Int)<2147483579;decide),_,_,rfl,rfl,_,rfl,_,rfl,c,_,_,i,rfl,rfl,B,?_,?_⟩
    ·exact⟨by omega,by omega⟩
    ·exact⟨by omega,by omega⟩
    ·rw[aA];unfold tQ;rw[aP (by omega),aP (by omega)]
     congr 1
     omega
    ·refine⟨g.set i _,_,_,rfl,?_,by rw[mT,List.map_set],by rw[bT];exact W⟩;intro b o e;rw[mO (nO e y)];exact L b o e
   ·rintro I z ⟨g,q,p,rfl,L,B,W⟩;exact fin g q p z L B (by omega) (by omega)
  ·exact fin m none none _ t r x.1 x.2
end
structure LS (n m:Nat) (x:Str):Prop where
 az:∀ c∈x.cps.toList,97<=c/\c<=122
 lo:n<=x.length
 hi:x.length<=m
theorem RY (x y:Str):(x++y).cps.toList=x.cps.toList++y.cps.toList:=by
 show (x.cps++y.cps).toList=_;simp
theorem T5 (x y:Str):(x++y).length=x.length+y.length:=by
 show (x.cps++y.cps).size=_;simp[Str.length]
theorem LS.app (h:LS a b x) (g:LS c d y):LS (a+c) (b+d) (x++y) :=
 ⟨λz e=>by rw[RY] at e;exact (aR.mp e).elim (h.az z) (g.az z),by rw[T5];have:=h.lo;have:=g.lo;omega,by rw[T5];have:=h.hi;have:=g.hi;omega⟩
theorem LS.weak (h:LS a b x) (h1:c<=a) (h2:b<=d):LS c d x:=⟨h.az,bY h1 h.lo,bY h.hi h2⟩
def Hh (n m:Nat) (x:Str):Bool:=x.cps.toList.all (λc=>decide (97<=c)&&decide (c<=122))&&decide (n<=x.length)&&decide (x.length<=m)
theorem LS.of (h:Hh n m x=true):LS n m x:=by
 unfold Hh at h;simp only[cE,cG,dZ] at h;exact⟨h.1.1,h.1.2,h.2⟩
theorem LS.cutL (h:LS n n z) (hk:k<=n):LS k k (uS z none (some (k:Int))):=by
 have e:z.length=n:=lY h.hi h.lo;have d:HT.sIx z.length z.length (some (k:Int))=k:=by rw[HT.sIx_nat];omega
 have b:(uS z none (some (k:Int))).cps.toList=z.cps.toList.take k:=by
  show ((z.cps.toList.drop (HT.sIx z.length 0 none)).take _).toArray.toList=_;rw[d,HT.sIx_none];simp
 have f:(uS z none (some (k:Int))).length=k:=by
  rw[← yT,b,bQ,yT];omega
 exact⟨λc a=>by rw[b] at a;exact h.az c (kR a),by omega,by omega⟩
theorem LS.cutR (h:LS n n z) (hk:k<=n):LS (n-k) (n-k) (uS z (some (k:Int)) none):=by
 have e:z.length=n:=lY h.hi h.lo;have d:HT.sIx z.length 0 (some (k:Int))=k:=by rw[HT.sIx_nat];omega
 have b:(uS z (some (k:Int)) none).cps.toList=z.cps.toList.drop k:=by
  show ((z.cps.toList.drop (HT.sIx z.length 0 (some (k:Int)))).take _).toArray.toList=_;rw[d,HT.sIx_none];simp only[List.toList_toArray];rw[bR];rw[cW,yT];omega
 have f:(uS z (some (k:Int)) none).length=n-k:=by
  rw[← yT,b,cW,yT];omega
 exact⟨λc a=>by rw[b] at a;exact h.az c (List.mem_of_mem_drop a),by omega,by omega⟩
theorem LS.sign (h:97<=c/\c<=122):LS 1 1 ⟨#[c]⟩:=⟨λd hd=>by simp at hd;subst hd;exact h,aZ _,aZ _⟩
theorem O8:∀ (ys:List Str),(∀ y∈ys,LS 1 1 y)->LS ys.length ys.length (Str.join "" ys)
 | [],_=>⟨λc b=>(nomatch b),aZ _,aZ _⟩
 | [x],h=>h x aK
 | x::y::r,h=>by
  have e:=h x aK;have d:=O8 (y::r) λz a=>h z (aT _ a)
  have f:LS 0 0 (Str.ofString ""):=LS.of (by decide +kernel);have:=(e.app f).app d;show LS _ _ (x++(Str.ofString "")++Str.join "" (y::r));exact this.weak (by simp;omega) (by simp;omega)
theorem X9 (h0:0<=i) (h1:i<xs.length):∃ v,oZ xs i=some v/\v∈xs:=by
 obtain⟨j,rfl⟩:=dL h0;have a:j<xs.length:=by omega
 exact⟨xs[j],qG (aG a),dQ a⟩
theorem Fu {xs:List Str}{i:Int}(h0:0<=i) (h1:i<xs.length):∃ x,oZ (xs.map V.str) i=some (V.str x)/\x∈xs:=by
 obtain⟨j,rfl⟩:=dL h0;have a:j<xs.length:=by omega
 exact⟨xs[j],qG (by simp[a]),dQ a⟩
def pN:Str := "abcdefghijklmnopqrstuvwxyz"
theorem Nt:pN.length=26:=by decide +kernel
theorem J8 (h0:0<=i) (h1:i<26):∃ c,oZ pN.cps.toList i=some c/\97<=c/\c<=122:=by
 obtain⟨c,e,m⟩:=X9 (xs:=pN.cps.toList) h0 (by rw[yT,Nt];exact h1);have h:LS 26 26 pN:=LS.of (by decide +kernel);exact⟨c,e,h.az c m⟩
def sM:List Str:=["and","or","odd","most","not","one","nil","in","out"]
theorem AN (h:x∈sM):LS 2 4 x:=by
 have:sM.all (Hh 2 4)=true:=by decide +kernel
 exact LS.of (cG.mp this x h)
structure GoodName (x:Str):Prop where
 ls:LS 1 8 x
 nk:x∉sM
def Oq:Sp:=λvs H Q _=>vs=[]/\∀ l,H l=none->Q (.ref l) (upd H l (.lst (sM.map V.str)))
def U2:Sp:=λvs H Q _=>∃ (d c:Addr) (m:Nat),vs=[.ref d,.int m]/\DeckAt H d c/\m<=40/\∀ (l:Addr) (xs:List Str) (H':Hp),H l=none->H' l=some (.lst (xs.map V.str))->xs.length=m->(∀ x∈xs,LS 1 8 x) ->
 DeckAt H' d c->nE d c H H'->Q (.ref l) H'
theorem nE.free (k:nE d c H H') (h1:l≠d) (h2:l≠c) (h:H' l=none):H l=none:=by
 cases e:H l with
 | none=>rfl
 | some o=>rw[k l o e h1 h2] at h;cases h
theorem MN {ys:List Str}{n m:Nat}(h:∀ y∈ys,y.length<=m) (hn:ys.length<=n):(ys.map (·.length)).sum<=n*m:=by
 have:∀ ys:List Str,(∀ y∈ys,y.length<=m)->(ys.map (·.length)).sum<=ys.length*m:=by
  intro ys;induction ys with
  | nil=>intro _;simp
  | cons a r b =>
   intro h;have e:=h a aK;have d:=b λy c=>h y (aT _ c)
   simp only[aO,jJ,bX,Nat.add_mul,Nat.one_mul];omega
 exact bY (this ys h) (Nat.mul_le_mul_right m hn)
theorem L4 (h:n<=1000):n<=sizeLine:=bY h (by decide)
section
variable {P:Program}{K:mC}
theorem JN:FnScope [] [] (nF Ce):=⟨rfl,rfl,rfl,by decide +kernel,rfl,by decide +kernel,by decide +kernel⟩
theorem Uo (F:Fun K "_law_kept" "_law_kept" Ce f fd):FnOk P w K mg base mJ 1 f fd [] Oq:=by
 refine F.ok JN (λb H Q E h=>?_) (λd A a s H b Q E e h=>?_)
 ·obtain⟨rfl,_⟩:=h;rfl
 ·obtain⟨rfl,k⟩:=h;refine⟨_,@rY _ _ _ (@xM _ _ _ _ (@rD _ _ _ _ (@zD _ [("and",_,_),("or",_,_),("odd",_,_),("most",_,_),("not",_,_),("one",_,_),("nil",_,_),("in",_,_),("out",_,_)]))),?_⟩;have c:9<=sizeLine:=by decide
  refine⟨c,?_⟩;exact k
theorem wC:FnScope ["deck","many","letters","base","at","shift","way","names","k","sign","word","name"] ["deck","many"] (nF Hu):=⟨rfl,rfl,rfl,by decide +kernel,rfl,by decide +kernel,by decide +kernel⟩
theorem LB:(["k","letters","deck"]:List Str).Nodup:=by decide +kernel
theorem Tc (h0:0<=i) (h1:i<2) (q:Str) (hq:LS 0 1 q):∃ x,oZ [V.str "",V.str q] i=some (V.str x)/\LS 0 1 x:=by
 have:i=0\/i=1:=by omega
 rcases this with rfl | rfl
 ·exact⟨"",rfl,LS.of (by decide +kernel)⟩
 ·exact⟨q,rfl,hq⟩
theorem JQ (F:Fun K "_law_made_names" "_law_made_names" Hu f fd) (T:Txt mg) (gT:Gd K mg "_law_take" wW ["deck","many"] fT fdT) (gK:Gd K mg "_law_kept" Ce [] fK fdK) :
  FnOk P w K mg base mJ 2 f fd ["deck","many"] U2:=by
 have GT:FnOk P w K mg base mJ 1 fT fdT ["deck","many"] El:=Gu gT.F T;have GK:FnOk P w K mg base mJ 1 fK fdK [] Oq:=Uo gK.F;refine F.ok wC (λvs H Q E h=>?_) (λa9 A ax s H vs Q E hr h=>?_)
 ·obtain⟨d,c,m,rfl,_⟩:=h;rfl
 ·obtain⟨d,c,m,rfl,D,hm,k⟩:=h;refine⟨_,qF (qE (i:=2) wC.nd rfl (Or.inr rfl) vS) (qF (qE (i:=3) wC.nd rfl (Or.inl rfl) (zE PySem.F.plainAttrs_str PySem.F.slot_str_join PySem.F.type_str_join RS vS (nC (An ["k"] ["letters","deck"] [2,0] rfl (Bv rfl T.range (nC (tR GT hr rfl gT.m gT.k gT.b .nil sW (nC (pv 0) (nC oA nJ))) nJ)) rfl rfl (λO Y C cl fp=>wT (i:=0) LB rfl (Or.inl rfl)) (λO Y C cl fp=>Cq) (λO Y C cl fp=>qY Fg (pv 1) (tR GT hr rfl gT.m gT.k gT.b .nil sW (nC (pv 2) (nC oA nJ))) (λ_ _=>rfl))) nJ))) (qF (qE (i:=4) wC.nd rfl (Or.inl rfl) (tR GT hr rfl gT.m gT.k gT.b .nil sW (nC (pv 0) (nC (nW xH (vJ Qj (by rfl) T.len bP (nC (pv 3) nJ)) oA) nJ)))) (qF (qE (i:=5) wC.nd rfl (Or.inl rfl) (tR GT hr rfl gT.m gT.k gT.b .nil sW (nC (pv 0) (nC oA nJ)))) (qF (qE (i:=6) wC.nd rfl (Or.inl rfl) (tR GT hr rfl gT.m gT.k gT.b .nil sW (nC (pv 0) (nC oA nJ)))) (qF (qE (i:=7) wC.nd rfl (Or.inl rfl) (rD nJ)) (qF (Af bM rfl (Bv rfl T.range (nC (pv 1) nJ)) (wT (i:=8) wC.nd rfl (Or.inl rfl)) (qF (qE (i:=9) wC.nd rfl (Or.inl rfl) (qY Fg (pv 2) (nW tI (nW xH (pv 5) (pv 8)) oA) (λ_ _=>rfl))) (qF (qE (i:=10) wC.nd rfl (Or.inl rfl) (qY sH (Qo GK hr rfl gK.m gK.k gK.b .nil sW) (nW tI (nW xH (pv 5) (pv 8)) oA) (λ_ _=>rfl))) (qF (qE (i:=11) wC.nd rfl (Or.inl rfl) (nW xO (nW xO (nW xO (nW xO (Cd Ml (pv 3) C5 (Dl (pv 4))) (pv 9)) (qY sH (rD (nC vS (nC vS nJ))) (nW tI (pv 8) oA) (λ_ _=>rfl))) (Cd Ml (pv 3) (Dl (pv 4)) C5)) (qY sH (rD (nC vS (nC vS nJ))) (nW FV (pv 8) oA) (λ_ _=>rfl)))) (rY (N9 (zE bG bN bO rQ (pv 7) (nC (qY sH (rD (nC (pv 11) (nC (nW xO (pv 9) (pv 10)) (nC (nW xO (pv 10) (pv 9)) (nC (nW xO (nW xO (pv 9) (pv 10)) (qY Fg (pv 2) (nW tI (pv 8) oA) (λ_ _=>rfl))) nJ))))) (pv 6) (λ_ _=>rfl)) nJ)))))))) (rY (xM (pv 7))))))))),?_⟩;refine⟨rfl,_,rfl,d,c,6,rfl,D,by decide,by decide,λr1 H1 a0 a1 D1 k1=>⟨_,rfl,by omega,by omega,λD0 L=>?_⟩⟩;have t:=D1.ned L;have a4:H D0=none:=k1.free t.1 t.2 L;refine Oc Ox (λi ys H2=>∃ g:List Str,ys=g.map V.str/\g.length=i/\(∀ z∈g,LS 1 1 z)/\DeckAt H2 d c/\nE d c H H2/\H2 D0=some (.lst ys))
   ⟨[],rfl,rfl,(λz S=>nomatch S),D1.new L,k1.trans (nE.new L),mT⟩ (λ_ _ _ _ _=>True.intro) ?_ ?_
  ·rintro i x ys H2 hx ⟨g,rfl,hl,ay,D2,k2,hD⟩;have hi:i<6:=by
    have:=(aU.mp hx).1;simp at this;omega
   refine⟨_,rfl,_,rfl,d,c,26,rfl,D2,by decide,by decide,λr H3 b0 b1 D3 k3=>?_⟩;obtain⟨W,a3,ae⟩:=J8 b0 b1;have a5:=k3 D0 _ hD t.1 t.2;refine⟨pN,_,W,rfl,rfl,(by rw[Nt];decide),a3,⟨_,rfl⟩,a5,(by rw[aA];exact bI (show g.length<1000 by omega) (by decide)),g++[⟨#[W]⟩],by simp,by simp[hl],λz S=>?_,D3.upd_other t.1 t.2,?_,mT⟩
   ·rcases aR.mp S with q | q
    ·exact ay z q
    ·rw[bA.mp q];exact LS.sign ae
   ·exact λb o e h1 h2=>by rw[mO (nO e a4)];exact k3 b o (k2 b o e h1 h2) h1 h2
  ·rintro ys H2 ⟨g,rfl,hl,S,D2,k2,hD⟩;rw[aA,cU] at hl;have hB:=O8 g S;have a6:g.length<=5:=by omega
   refine⟨"",D0,g,rfl,rfl,.inl (mG.of hD),?_,?_⟩
   ·have h1:=MN (m:=1) (λy hy=>(S y hy).hi) a6;have h2:(Str.ofString "").length=0:=by decide +kernel
    rw[h2];omega
   have ej:Txt.join (Str.ofString "") g=Str.join (Str.ofString "") g:=StrLaws.glued_eq_join _ _;rw[ej];generalize Str.join (Str.ofString "") g=B at hB;have eB:B.length=g.length:=lY hB.hi hB.lo;refine⟨_,rfl,_,rfl,B,rfl,L4 (by omega),_,_,rfl,rfl,d,c,_,rfl,D2,by omega,by omega,λr2 H3 b0 b1 D3 k3=>?_⟩;refine⟨_,rfl,d,c,26,rfl,D3,by decide,by decide,λr3 H4 c0 c1 D4 k4=>?_⟩;refine⟨_,rfl,d,c,4,rfl,D4,by decide,by decide,λr4 H5 d0 d1 D5 k5=>?_⟩;refine⟨(by show 0<=sizeLine;decide),λl nl=>?_⟩;have kk:nE d c H H5:=((k2.trans k3).trans k4).trans k5;have I:=D5.ned nl;have av:H l=none:=kk.free I.1 I.2 nl;obtain⟨N,rfl⟩:=dL b0;refine⟨_,rfl,_,rfl,by omega,by omega,?_⟩;rw[cC];refine Jg (lo:=0) (n:=m) (λi σ u=>∃ (j:List Str) (v8 v9 v10 v11:Option V),σ=[some (.ref d),some (.int m),some (.str pN),some (.str B),some (.int N),some (.int r3),some (.int r4),some (.ref l),v8,v9,v10,v11] /\ j.length=i/\(∀ x∈j,LS 1 8 x)/\u l=some (.lst (j.map V.str))/\DeckAt u d c/\nE d c H u)
    ⟨[],none,none,none,none,rfl,rfl,(λz S=>nomatch S),mT,D5.new nl,kk.trans (nE.new nl)⟩ ?_ ?_
   ·rintro i σ u hi ⟨j,v8,v9,v10,v11,rfl,ac,ab,h6,D6,k6⟩;have M:∀ z:Int,0<=z%26/\z%26<26:=λz=>⟨eT z (by decide),dN z (by decide)⟩
    have e9:∀ z:Int,0<=z%9/\z%9<9:=λz=>⟨eT z (by decide),dN z (by decide)⟩
    have e2:∀ z:Int,0<=z%2/\z%2<2:=λz=>⟨eT z (by decide),dN z (by decide)⟩
    obtain⟨W,au,ae⟩:=J8 (M (r3+(0+(i:Int)))).1 (M _).2;obtain⟨wd,ar,a2⟩:=Fu (xs:=sM) (e9 (r3+(0+(i:Int)))).1 (by exact (e9 _).2);obtain⟨x1,aq,ai⟩:=Tc (e2 (0+(i:Int))).1 (e2 _).2 "q" (LS.of (by decide +kernel));obtain⟨x2,ao,ah⟩:=Tc (i:=(0+(i:Int))/26) (by omega) (by omega) "w" (LS.of (by decide +kernel));obtain⟨c5,an,aj⟩:=J8 (M (0+(i:Int))).1 (M _).2;have hS:=LS.sign ae;have hW:=AN a2;have U:N<=g.length:=by omega
    have hP:=hB.cutL U;have hR:=hB.cutR U;have n1:=hP.app hS;have n2:=n1.app ai;have n3:=n2.app hR;have n4:=n3.app ah;have w1:=hS.app hW;have w2:=hW.app hS;have w3:=w1.app (LS.sign aj);have sz:∀ {a b c' d':Nat} {x y:Str},LS a b x->LS c' d' y->b+d'<=100->x.length+y.length<=sizeLine:=λg1 g2 hb=>L4 (by have:=g1.hi;have:=g2.hi;omega)
    have af:pN.length<=sizeLine:=by rw[Nt];decide
    have aw:B.length<=sizeLine:=L4 (by omega);refine⟨_,rfl,_,rfl,_,rfl,_,_,rfl,rfl,_,_,rfl,rfl,(by show (0:Int)<26;decide),pN,_,W,rfl,rfl,af,au,?_⟩;refine⟨rfl,λp np=>?_⟩;have D7:DeckAt (upd u p (.lst (sM.map V.str))) d c:=D6.new np;refine⟨_,rfl,_,rfl,_,_,rfl,rfl,_,_,rfl,rfl,(by show (0:Int)<9;decide),p,_,_,.str wd,rfl,rfl,mG.of mT,ar,?_⟩;have k7:nE d c H (upd u p (.lst (sM.map V.str))):=k6.trans (nE.new np);have h7:upd u p (.lst (sM.map V.str)) l=some (.lst (j.map V.str)):=by rw[mO (nO h6 np)];exact h6
    generalize upd u p (.lst (sM.map V.str))=H7 at D7 k7 h7 ⊢;refine⟨_,rfl,_,rfl,_,rfl,B,rfl,aw,_,rfl,_,_,rfl,rfl,sz hP hS (by omega),(by show 2<=sizeLine;decide),λp2 aa=>?_⟩;have D8:=D7.new (o:=.lst [V.str (Str.ofString ""),V.str (Str.ofString "q")]) aa;have k8:=k7.trans (nE.new (d:=d) (c:=c) (o:=.lst [V.str (Str.ofString ""),V.str (Str.ofString "q")]) aa);have h8:upd H7 p2 (.lst [V.str (Str.ofString ""),V.str (Str.ofString "q")]) l=some (.lst (j.map V.str)):=by rw[mO (nO h7 aa)];exact h7
    refine⟨_,rfl,_,_,rfl,rfl,(by show (0:Int)<2;decide),p2,_,_,.str x1,rfl,rfl,mG.of mT,aq,_,_,rfl,rfl,sz n1 ai (by omega),_,rfl,_,rfl,_,rfl,B,rfl,aw,_,_,rfl,rfl,sz n2 hR (by omega),(by show 2<=sizeLine;decide),λp3 v=>?_⟩;generalize upd H7 p2 (.lst [V.str (Str.ofString ""),V.str (Str.ofString "q")])=H8 at D8 k8 h8 v ⊢;have D9:=D8.new (o:=.lst [V.str (Str.ofString ""),V.str (Str.ofString "w")]) v;have k9:=k8.trans (nE.new (d:=d) (c:=c) (o:=.lst [V.str (Str.ofString ""),V.str (Str.ofString "w")]) v);have h9:upd H8 p3 (.lst [V.str (Str.ofString ""),V.str (Str.ofString "w")]) l=some (.lst (j.map V.str)):=by rw[mO (nO h8 v)];exact h8
    refine⟨_,rfl,_,_,rfl,rfl,⟨by decide,by decide⟩,p3,_,_,.str x2,rfl,rfl,mG.of mT,ao,_,_,rfl,rfl,sz n3 ah (by omega),?_⟩;generalize upd H8 p3 (.lst [V.str (Str.ofString ""),V.str (Str.ofString "w")])=H9 at D9 k9 h9 ⊢;generalize a8:(uS B none (some (N:Int))++(⟨#[W]⟩:Str)++x1++uS B (some (N:Int)) none++x2)=nm at n4;refine⟨_,rfl,.inl ⟨rfl,_,mG.of h9⟩,_,rfl,_,rfl,_,rfl,_,_,rfl,rfl,sz hS hW (by omega),_,rfl,_,rfl,_,_,rfl,rfl,sz hW hS (by omega),_,rfl,_,rfl,_,_,rfl,rfl,sz hS hW (by omega),_,rfl,_,rfl,_,_,rfl,rfl,(by show (0:Int)<26;decide),pN,_,c5,rfl,rfl,af,an,_,_,rfl,rfl,sz w1 (LS.sign aj) (by omega),(by show 4<=sizeLine;decide),λp4 Z=>?_⟩;obtain⟨z,ak,ag⟩:=Fu (xs:=[nm,(⟨#[W]⟩:Str)++wd,wd++(⟨#[W]⟩:Str),(⟨#[W]⟩:Str)++wd++(⟨#[c5]⟩:Str)]) d0 (by exact d1);have az:LS 1 8 z:=by
     simp only[aL,bH,fY] at ag;rcases ag with rfl | rfl | rfl | rfl
     ·exact n4.weak (by omega) (by omega)
     ·exact w1.weak (by omega) (by omega)
     ·exact w2.weak (by omega) (by omega)
     ·exact w3.weak (by omega) (by omega)
    have a7:∀ o4,upd H9 p4 o4 l=some (.lst (j.map V.str)):=λo4=>by rw[mO (nO h9 Z)];exact h9
    refine⟨_,rfl,p4,_,_,.str z,rfl,rfl,mG.of mT,ak,l,j.map V.str,.str z,rfl,rfl,?_,?_,j++[z],_,_,_,_,rfl,by simp[ac],?_,?_,?_,?_⟩
    ·exact a7 _
    ·rw[aA];exact bI (show j.length<1000 by omega) (by decide)
    ·intro y hy;rcases aR.mp hy with q | q
     ·exact ab y q
     ·rw[bA.mp q];exact az
    ·rw[mT];simp
    ·exact (D9.new Z).upd_other I.1 I.2
    ·exact λb o e g1 g2=>by rw[mO (nO e av)];exact (k9.trans (nE.new Z)) b o e g1 g2
   ·rintro σ u ⟨j,v8,v9,v10,v11,rfl,ac,ab,h6,D6,k6⟩;exact⟨_,rfl,k l j u av h6 ac ab D6 k6⟩
end
def vC:List Str:=["cell","along","lay","judge","late","gates","ways","show"]
def yM:List Str:=["andx","orb","oddly","mosts","nots","ones","nila","inn","outer","aa","ab","ba"]
def Ha:List Str:=["abcdefgh","abcdefgi","zzzzzzzz","names","judged","rowsofx"]
def tG (z:Str):List Str:=z.cps.toList.map λc=>(⟨#[c]⟩:Str)
def Ae:List Str:=tG pN++vC++yM++Ha
theorem DT:Ae.Nodup:=by decide +kernel
theorem GW:Ae.length=52:=by decide +kernel
theorem QF:∀ x∈Ae,GoodName x:=by
 have h:Ae.all (λx=>Hh 1 8 x && !sM.contains x)=true:=by decide +kernel
 intro x b;have:=cG.mp h x b;rw[cE] at this;refine⟨LS.of this.1,λm=>?_⟩;have a:=this.2;rw[List.contains_iff_mem.mpr m] at a;cases a
def Wd:Sp:=λvs H Q _=>∃ (d c:Addr) (m:Nat),vs=[.ref d,.int m]/\DeckAt H d c/\m<=40/\∀ (l:Addr) (xs:List Str) (H':Hp),H l=none->H' l=some (.lst (xs.map V.str))->xs.length=m->xs.Nodup->(∀ x∈xs,GoodName x) ->
 DeckAt H' d c->nE d c H H'->Q (.ref l) H'
theorem Ri:∀ {sp:List Str}{k:Nat}{y:Str},sp[k]?=some y->(y::sp.eraseIdx k).Perm sp
 | [],k,y,h=>by simp at h
 | a::r,0,y,h=>by
  simp at h;subst h;exact List.Perm.refl _
 | a::r,k+1,y,h=>by
  have b:r[k]?=some y:=by simpa using h
  show (y::a::r.eraseIdx k).Perm (a::r);exact (List.Perm.swap a y _).trans ((Ri b).cons a)
theorem R6 (f:α->β):∀ (l:List α) (k:Nat),(l.map f).eraseIdx k=(l.eraseIdx k).map f
 | [],_=>rfl
 | _::_,0=>rfl
 | a::r,k+1=>by simp[R6 f r k]
theorem R7 (x:Str) (ys:List Str):uW (.str x) (ys.map V.str)=decide (x∈ys):=by
 unfold uW;induction ys with
 | nil=>rfl
 | cons y r a =>
  rw[aO,eY,a];have:qI (V.str y) (V.str x)=decide (y=x):=by
   simp only[qI];exact Bool.beq_eq_decide_eq y x
  rw[this];by_cases h:x=y
  ·subst h;simp
  ·have b:¬ y=x:=λe=>h e.symm
   simp[h,b]
theorem Ni (ys:List Str):(ys.map V.str).all sX=true:=by
 rw[cG];intro v a;obtain⟨y,_,rfl⟩:=aV.mp a;rfl
section
variable {P:Program}{K:mC}
theorem A6:FnScope ["deck","many","letters","names","spare"] ["deck","many"] (nF B9):=⟨rfl,rfl,rfl,by decide +kernel,rfl,by decide +kernel,by decide +kernel⟩
theorem Hz (x:Str):([x]:List Str).Nodup:=by simp
theorem AS:(["k","spare","deck"]:List Str).Nodup:=by decide +kernel
theorem IT (F:Fun K "_law_names" "_law_names" B9 f fd) (T:Txt mg) (gT:Gd K mg "_law_take" wW ["deck","many"] fT fdT) (gK:Gd K mg "_law_kept" Ce [] fK fdK)
  (gM:Gd K mg "_law_made_names" Hu ["deck","many"] fM fdM):FnOk P w K mg base mJ 3 f fd ["deck","many"] Wd:=by
 have GT:FnOk P w K mg base mJ 1 fT fdT ["deck","many"] El:=Gu gT.F T;have GK:FnOk P w K mg base mJ 1 fK fdK [] Oq:=Uo gK.F;have GM:FnOk P w K mg base mJ 2 fM fdM ["deck","many"] U2:=JQ gM.F T gT gK;refine F.ok A6 (λvs H Q E h=>?_) (λbi A a8 s H vs Q E hr h=>?_)
 ·obtain⟨d,c,m,rfl,_⟩:=h;rfl
 ·obtain⟨d,c,m,rfl,D,hm,k⟩:=h;have av:Room 1 _:=hr.mono (by decide);have hu:=hr.units;refine T6 _ (qE (i:=2) A6.nd rfl (Or.inl rfl) vS) ?_;refine yH (λσ S=>∃ v3,σ=[some (.ref d),some (.int m),some (.str pN),v3,none]/\DeckAt S d c/\nE d c H S) (λu L=>?_) ?_
  ·-- if _law_take(deck,2) == 1
   refine⟨_,zS (xA E7 (tR GT av rfl gT.m gT.k gT.b .nil sW (nC (pv 0) (nC oA nJ))) oA (vZ _)) (qF (qE (i:=3) A6.nd rfl (Or.inl rfl) (tR GM hr rfl gM.m gM.k gM.b .nil sW (nC (pv 0) (nC (pv 1) nJ)))) (rY (zS (PW.pt (Pf (xA E7 (vJ QK (by rfl) T.len bP (nC (Kn (OR rfl) (by rfl) T.set PyProof.Rows.boot_set (nC (pv 3) nJ)) nJ)) (pv 1) (vZ _)) (Qp (xA (M7 hu) (An ["name"] [] [] rfl (KZ (pv 3)) rfl rfl (λv B C cl fp=>wT (i:=0) (Hz _) rfl (Or.inl rfl)) (λv B C cl fp=>V1 (xA (r:=Ez K false) Lj (pv 0) (Qo GK av rfl gK.m gK.k gK.b .nil sW) rfl)) (λv B C cl fp=>pv 0)) (rD nJ) (vZ _))))) (rY (xM (pv 3))) Bo))) Bo,?_⟩;refine⟨_,rfl,d,c,2,rfl,D,by decide,by decide,λr1 H1 a0 a1 D1 k1=>⟨rfl,_,rfl,?_⟩⟩;refine Ai (λ_=>?_) (λ_=>L _ _ ⟨none,rfl,D1,k1⟩);refine⟨_,rfl,_,rfl,d,c,m,rfl,D1,hm,λl N H2 nl hl a6 bb D2 k2=>?_⟩;have kk:nE d c H H2:=k1.trans k2;have a4:=D1.ned nl;have bd:H l=none:=k1.free a4.1 a4.2 nl;refine⟨_,rfl,l,N,rfl,mG.of hl,by omega,λp np=>?_⟩;have k3:=kk.trans (nE.new (d:=d) (c:=c) (o:=Bf P w p (pV N).length) np);have D3:=D2.new (o:=Bf P w p (pV N).length) np;have aw:upd H2 p (Bf P w p (pV N).length) l=some (.lst (N.map V.str)):=by rw[mO (nO hl np)];exact hl
   refine⟨p,_,rfl,mT,_,rfl,rfl,_,rfl,?_⟩;refine Ai (λbc=>?_) (λ_=>pT (L _ _ ⟨_,rfl,D3,k3⟩));have ab:N.Nodup:=by
    have:=cB bc;injection this with this;exact Z2 (by omega)
   refine⟨_,rfl,l,rfl,⟨_,mG.of aw⟩,λU g=>?_⟩;have I:=D3.ned g;have ai:H U=none:=k3.free I.1 I.2 g;have lD:l≠U:=nO aw g;refine Va LN (λi ys S=>∃ t:List Str,ys=t.map V.str/\t.length<=i/\((∃ x∈N.take i,x∈sM)->t≠[])/\((∀ x∈N.take i,x∉sM)->t=[])/\DeckAt S d c/\nE d c H S/\S U=some (.lst ys)/\S l=some (.lst (N.map V.str)))
    ⟨[],rfl,aZ _,(λ⟨x,O,_⟩=>by simp at O),(λ_=>rfl),D3.new g,k3.trans (nE.new g),mT,by rw[mO lD];exact aw⟩ (λi ys S _ ⟨_,_,_,_,_,_,_,_,h⟩=>mG.of h) ?_ ?_
   ·rintro i x ys S O ⟨t,rfl,a5,aa,ag,D4,k4,ae,ac⟩;obtain⟨y,hy,rfl⟩:∃ y,N[i]?=some y/\V.str y=x:=by
     rw[aX] at O;cases e:N[i]? with
     | none=>rw[e] at O;cases O
     | some y=>rw[e] at O;exact⟨y,rfl,cA O⟩
    have hi:i<N.length:=(aU.mp hy).1;have et:N.take (i+1)=N.take i++[y]:=by rw[bS,hy];rfl
    refine⟨_,rfl,rfl,λq nq=>?_⟩;have bg:=D4.ned nq;refine⟨q,_,rfl,.inl (mG.of mT),rfl,Ni _,_,rfl,?_⟩;have D5:=D4.new (o:=.lst (sM.map V.str)) nq;have k5:=k4.trans (nE.new (d:=d) (c:=c) (o:=.lst (sM.map V.str)) nq);have aj:upd S q (.lst (sM.map V.str)) U=some (.lst (t.map V.str)):=by rw[mO (nO ae nq)];exact ae
    have ah:upd S q (.lst (sM.map V.str)) l=some (.lst (N.map V.str)):=by rw[mO (nO ac nq)];exact ac
    rw[R7];refine Ai (λhk=>?_) (λhk=>?_)
    ·have ax:y∈sM:=cB hk;refine⟨_,rfl,⟨_,rfl⟩,aj,?_,t++[y],by simp,by simp;omega,λ_=>by simp,λh=>absurd ax (h y (by rw[et];simp)),D5.upd_other I.1 I.2,?_,mT,?_⟩
     ·rw[aA];exact bI (show t.length<1000 by omega) (by decide)
     ·exact λb o e g1 g2=>by rw[mO (nO e ai)];exact k5 b o e g1 g2
     ·rw[mO lD];exact ah
    ·have ax:y∉sM:=λz=>hk (bE z)
     refine⟨⟨_,rfl⟩,t,rfl,by omega,?_,?_,D5,k5,aj,ah⟩
     ·rintro ⟨z,hz,au⟩;rw[et] at hz;rcases aR.mp hz with q' | q'
      ·exact aa ⟨z,q',au⟩
      ·rw[bA.mp q'] at au;exact absurd au ax
     ·exact λh=>ag λz hz=>h z (by rw[et];exact bC _ hz)
   ·rintro ys S ⟨t,rfl,a5,aa,ag,D4,k4,ae,ac⟩;rw[aA] at a5 aa ag;rw[bR (aZ _)] at aa ag;refine⟨(by show 0<=sizeLine;decide),λq nq=>?_⟩;have D5:=D4.new (o:=.lst []) nq;have k5:=k4.trans (nE.new (d:=d) (c:=c) (o:=.lst []) nq);have aj:upd S q (.lst []) U=some (.lst (t.map V.str)):=by rw[mO (nO ae nq)];exact ae
    have ah:upd S q (.lst []) l=some (.lst (N.map V.str)):=by rw[mO (nO ac nq)];exact ac
    refine⟨U,q,_,rfl,rfl,mG.of aj,mG.of mT,_,rfl,?_⟩;refine Ai (λhe=>?_) (λ_=>L _ _ ⟨_,rfl,D5,k5⟩);have a9:t=[]:=by
     cases t with
     | nil=>rfl
     | cons a r=>simp at he
    refine⟨_,rfl,k l N _ bd ah a6 ab (λx O=>⟨bb x O,λhk=>aa ⟨x,O,hk⟩ a9⟩) D5 k5⟩
  ·rintro σ S ⟨v3,rfl,D4,k4⟩;refine yH (λσ H7=>∃ p2,σ=[some (.ref d),some (.int m),some (.str pN),v3,some (.ref p2)]/\H7 p2=some (.lst ((tG pN++vC).map V.str))/\DeckAt H7 d c/\nE d c H H7/\H p2=none) (λu L=>?_) ?_
   ·refine⟨_,qE (i:=4) A6.nd rfl (Or.inr rfl) (nW Ct (An ["sign"] [] [] rfl (HJ (pv 2)) rfl rfl (λv B C cl fp=>wT (i:=0) (Hz _) rfl (Or.inl rfl)) (λv B C cl fp=>Cq) (λv B C cl fp=>pv 0)) (@rD _ _ _ _ (@zD _ [("cell",_,_),("along",_,_),("lay",_,_),("judge",_,_),("late",_,_),("gates",_,_),("ways",_,_),("show",_,_)]))),?_⟩;refine⟨_,rfl,pN,rfl,by decide +kernel,λU g=>?_⟩;refine GY NM id g (λ_ _=>True.intro) (by rw[show (Aa pN).length=26 by decide +kernel];decide) (λi x H5 kk O _ h=>⟨_,rfl,h⟩) ?_;have e1:(Aa pN).map id=(tG pN).map V.str:=by rw[List.map_id];unfold Aa tG;rw[List.map_map];rfl
    rw[e1];refine⟨(by show 8<=sizeLine;decide),λp1 n1=>?_⟩;have h0:upd (upd S U (.lst ((tG pN).map V.str))) p1 (.lst (vC.map V.str)) U=some (.lst ((tG pN).map V.str)):=by rw[mO (nO mT n1)];exact mT
    refine⟨U,p1,_,_,rfl,rfl,h0,mT,(by rw[aA,show (tG pN).length=26 by decide +kernel];show 26+8<=sizeLine;decide),λp2 n2=>?_⟩;have D7:=((D4.new (o:=.lst ((tG pN).map V.str)) g).new (o:=.lst (vC.map V.str)) n1);have k7:=(k4.trans (nE.new (d:=d) (c:=c) (o:=.lst ((tG pN).map V.str)) g)).trans (nE.new (d:=d) (c:=c) (o:=.lst (vC.map V.str)) n1);have a3:=D7.ned n2;refine L _ _ ⟨p2,rfl,?_,D7.new n2,k7.trans (nE.new n2),k7.free a3.1 a3.2 n2⟩;rw[mT,aJ];rfl
   rintro σ H7 ⟨p2,rfl,h7,D7,k7,z7⟩;refine yH (λσ H8=>∃ p3,σ=[some (.ref d),some (.int m),some (.str pN),v3,some (.ref p3)]/\H8 p3=some (.lst ((tG pN++vC++yM).map V.str))/\DeckAt H8 d c/\nE d c H H8/\H p3=none) (λu L=>?_) ?_
   ·refine⟨_,qE (i:=4) A6.nd rfl (Or.inr rfl) (nW Ct (pv 4) (@rD _ _ _ _ (@zD _ [("andx",_,_),("orb",_,_),("oddly",_,_),("mosts",_,_),("nots",_,_),("ones",_,_),("nila",_,_),("inn",_,_),("outer",_,_),("aa",_,_),("ab",_,_),("ba",_,_)]))),?_⟩;refine⟨_,rfl,(by show 12<=sizeLine;decide),λp1 n1=>?_⟩;have h0:upd H7 p1 (.lst (yM.map V.str)) p2=some (.lst ((tG pN++vC).map V.str)):=by rw[mO (nO h7 n1)];exact h7
    refine⟨p2,p1,_,_,rfl,rfl,h0,mT,(by rw[aA,show (tG pN++vC).length=34 by decide +kernel];show 34+12<=sizeLine;decide),λp3 n3=>?_⟩;have D8:=D7.new (o:=.lst (yM.map V.str)) n1;have k8:=k7.trans (nE.new (d:=d) (c:=c) (o:=.lst (yM.map V.str)) n1);have a2:=D8.ned n3;refine L _ _ ⟨p3,rfl,?_,D8.new n3,k8.trans (nE.new n3),k8.free a2.1 a2.2 n3⟩;rw[mT,aJ (l₁:=tG pN++vC)];rfl
   rintro σ H8 ⟨p3,rfl,h8,D8,k8,z8⟩;refine yH (λσ H9=>∃ Z,σ=[some (.ref d),some (.int m),some (.str pN),v3,some (.ref Z)]/\H9 Z=some (.lst (Ae.map V.str))/\DeckAt H9 d c/\nE d c H H9/\H Z=none) (λu L=>?_) ?_
   ·refine⟨_,qE (i:=4) A6.nd rfl (Or.inr rfl) (nW Ct (pv 4) (@rD _ _ _ _ (@zD _ [("abcdefgh",_,_),("abcdefgi",_,_),("zzzzzzzz",_,_),("names",_,_),("judged",_,_),("rowsofx",_,_)]))),?_⟩;refine⟨_,rfl,(by show 6<=sizeLine;decide),λp1 n1=>?_⟩;have h0:upd H8 p1 (.lst (Ha.map V.str)) p3=some (.lst ((tG pN++vC++yM).map V.str)):=by rw[mO (nO h8 n1)];exact h8
    refine⟨p3,p1,_,_,rfl,rfl,h0,mT,(by rw[aA,show (tG pN++vC++yM).length=46 by decide +kernel];show 46+6<=sizeLine;decide),λZ n4=>?_⟩;have D9:=D8.new (o:=.lst (Ha.map V.str)) n1;have k9:=k8.trans (nE.new (d:=d) (c:=c) (o:=.lst (Ha.map V.str)) n1);have W:=D9.ned n4;refine L _ _ ⟨Z,rfl,?_,D9.new n4,k9.trans (nE.new n4),k9.free W.1 W.2 n4⟩;unfold Ae;rw[mT,aJ (l₁:=tG pN++vC++yM)];rfl
   rintro σ H9 ⟨Z,rfl,h9,D9,k9,z9⟩;refine⟨_,rY (xM (An ["k"] ["spare","deck"] [4,0] rfl (Bv rfl T.range (nC (pv 1) nJ)) rfl rfl (λv B C cl fp=>wT (i:=0) AS rfl (Or.inl rfl)) (λv B C cl fp=>Cq) (λv B C cl fp=>CM K bG gZ hJ Dt (pv 1) (nC (tR GT av rfl gT.m gT.k gT.b .nil sW (nC (pv 2) (nC (vJ (FF K) (by rfl) T.len bP (nC (pv 1) nJ)) nJ))) nJ)))),?_⟩;refine⟨_,rfl,_,rfl,by omega,by omega,λU g=>?_⟩;have I:=D9.ned g;have ai:H U=none:=k9.free I.1 I.2 g;have W:Z≠d/\Z≠c:=D.ned z9;have an:Z≠U:=nO h9 g;refine Oc Ox (λi ys Y=>∃ t M:List Str,ys=t.map V.str/\t.length=i/\M.length+i=52/\(t++M).Nodup/\(∀ x∈t++M,GoodName x)/\Y Z=some (.lst (M.map V.str))/\DeckAt Y d c/\nE d c H Y/\Y U=some (.lst ys))
    ⟨[],Ae,rfl,rfl,GW,DT,QF,by rw[mO an];exact h9,D9.new g,k9.trans (nE.new g),mT⟩ (λ_ _ _ _ _=>True.intro) ?_ ?_
   ·rintro i x ys Y O ⟨t,M,rfl,ar,ba,ab,hg,ak,ay,aq,af⟩;have hi:i<40:=by
     have:=(aU.mp O).1;simp at this;omega
    refine⟨_,rfl,.inl ⟨rfl,_,mG.of ak⟩,_,rfl,_,rfl,Z,_,rfl,.inl (mG.of ak),d,c,_,rfl,ay,by rw[aA];omega,by rw[aA];omega,λr bj b0 b1 bf ao=>?_⟩;rw[aA] at b1;obtain⟨j,rfl⟩:=dL b0;have hj:j<M.length:=by omega
    have be:=ao Z _ ak W.1 W.2;have a7:=ao U _ af I.1 I.2;have hy:M[j]?=some M[j]:=aG hj;have pm:=Ri hy;have az:((t++[M[j]])++M.eraseIdx j).Perm (t++M):=by
     rw[bJ];exact gA t pm
    have bh:(M.eraseIdx j).length+1=M.length:=by
     rw[List.length_eraseIdx,aP hj];omega
    refine⟨Z,_,_,j,.str M[j],rfl,rfl,be,by omega,by omega,?_,by simp[hj],⟨_,rfl⟩,by rw[mO an.symm];exact a7,?_,t++[M[j]],M.eraseIdx j,by simp,by simp[ar],by omega,az.symm.nodup ab,λx O=>hg x (az.mem_iff.mp O),?_,?_,?_,mT⟩
    ·rw[aA];exact PySem.StrLaws.seqIndex_nonneg (by omega) (by omega)
    ·rw[aA];exact bI (show t.length<1000 by omega) (by decide)
    ·rw[mO an,mT,R6]
    ·exact (bf.upd_other W.1 W.2).upd_other I.1 I.2
    ·exact λb o e g1 g2=>by rw[mO (nO e ai),mO (nO e z9)];exact ao b o (aq b o e g1 g2) g1 g2
   ·rintro ys Y ⟨t,M,rfl,ar,ba,ab,hg,ak,ay,aq,af⟩;rw[aA,cU] at ar;exact k U t Y ai af (by omega) (List.Nodup.sublist (List.sublist_append_left t M) ab) (λx O=>hg x (bC _ O)) ay aq
end
def uX:List Str:=["and","or","odd"]
structure ArOk (w:Str) (n:Nat):Prop where
 ok:(w∈uX/\(n=2\/n=3))\/(w = "most" /\ n=3)\/(w = "not" /\ n=1)\/(w = "one" /\ n=0)\/(w = "nil" /\ n=0)
def Gw:List Str:=["and","or","odd","most","not","one","nil","and","odd","most"]
def vY:List Str:=["most","not","one","nil"]
def yZ:List Int:=[3,1,0,0]
theorem Zo (h:w∈Gw) (h2:w∉uX):w = "most" \/ w = "not" \/ w = "one" \/ w = "nil" := by
 unfold Gw at h;unfold uX at h2;simp only[aL,bH,fY,not_or] at h h2;obtain⟨g1,g2,g3⟩:=h2;rcases h with q | q | q | q | q | q | q | q | q | q
 ·exact absurd q g1
 ·exact absurd q g2
 ·exact absurd q g3
 ·exact .inl q
 ·exact .inr (.inl q)
 ·exact .inr (.inr (.inl q))
 ·exact .inr (.inr (.inr q))
 ·exact absurd q g1
 ·exact absurd q g3
 ·exact .inl q
theorem MQ {w:Str}(h:w = "most" \/ w = "not" \/ w = "one" \/ w = "nil"):∃ (j:Nat) (n:Nat),j<4/\(∀ z,(vY.map V.str)[j]?=some z->qI z (.str w)=true)/\(∀ (m:Nat) z,m<j->(vY.map V.str)[m]?=some z->qI z (.str w)=false) /\
  oZ (yZ.map V.int) (j:Int)=some (.int n)/\ArOk w n:=by
 have go:∀ (j:Nat) (n:Nat),j<4->vY[j]?=some w->oZ (yZ.map V.int) (j:Int)=some (.int n)->(∀ m,m<j->∀ y,vY[m]?=some y->¬ y=w)->ArOk w n->∃ (j:Nat) (n:Nat),j<4/\(∀ z,(vY.map V.str)[j]?=some z->qI z (.str w)=true)/\(∀ (m:Nat) z,m<j->(vY.map V.str)[m]?=some z->qI z (.str w)=false) /\
   oZ (yZ.map V.int) (j:Int)=some (.int n)/\ArOk w n:=by
  intro j n k hw l i g;refine⟨j,n,k,λz c=>?_,λm z d c=>?_,l,g⟩
  ·rw[aX,hw] at c;cases c;show (w == w)=true;exact iK w
  ·rw[aX] at c;cases e:vY[m]? with
   | none=>rw[e] at c;cases c
   | some y =>
    rw[e] at c;cases c;show (y == w)=false;exact cP.mpr (i m d y e)
 have q:∀ {a b:Nat},a<b->b<=4->a=0\/a=1\/a=2\/a=3:=λp o=>by omega
 rcases h with rfl | rfl | rfl | rfl
 ·exact go 0 3 (by decide) rfl rfl (λm d=>absurd d (Nat.not_lt_zero _)) ⟨.inr (.inl ⟨rfl,rfl⟩)⟩
 ·refine go 1 1 (by decide) rfl rfl (λm d y f=>?_) ⟨.inr (.inr (.inl ⟨rfl,rfl⟩))⟩;obtain rfl:m=0:=by omega
  cases f;decide +kernel
 ·refine go 2 0 (by decide) rfl rfl (λm d y f=>?_) ⟨.inr (.inr (.inr (.inl ⟨rfl,rfl⟩)))⟩;rcases (show m=0\/m=1 by omega) with rfl | rfl<;>(cases f;decide +kernel)
 ·refine go 3 0 (by decide) rfl rfl (λm d y f=>?_) ⟨.inr (.inr (.inr (.inr ⟨rfl,rfl⟩)))⟩;rcases (show m=0\/m=1\/m=2 by omega) with rfl | rfl | rfl<;>(cases f;decide +kernel)
def Rk:Sp:=λvs H Q _=>∃ (d c kn:Addr) (ks:List Str),vs=[.ref d,.ref kn]/\DeckAt H d c/\H kn=some (.lst (ks.map V.str))/\kn≠d/\kn≠c/\ks.length<=100 /\
 ∀ (t q:Addr) (wd:Str) (ps:List Str) (H':Hp),H t=none->H q=none->H' t=some (.tup [.str wd,.ref q])->H' q=some (.tup (ps.map V.str))->ArOk wd ps.length->(∀ p∈ps,p∈ks)->DeckAt H' d c->nE d c H H'->Q (.ref t) H'
section
variable {P:Program}{K:mC}
theorem yX:FnScope ["deck","known","word","many","parts","k","at"] ["deck","known"] (nF Gf):=⟨rfl,rfl,rfl,by decide +kernel,rfl,by decide +kernel,by decide +kernel⟩
theorem LZ (F:Fun K "_law_gate" "_law_gate" Gf f fd) (T:Txt mg) (gT:Gd K mg "_law_take" wW ["deck","many"] fT fdT):FnOk P w K mg base mJ 2 f fd ["deck","known"] Rk:=by
 have GT:FnOk P w K mg base mJ 1 fT fdT ["deck","many"] El:=Gu gT.F T;refine F.ok yX (λvs H Q E h=>?_) (λa3 A ax s H vs Q E hr h=>?_)
 ·obtain⟨d,c,g,B,rfl,_⟩:=h;rfl
 ·obtain⟨d,c,g,B,rfl,D,ao,knd,ac,az,k⟩:=h;have hu:=hr.units;refine yH (λC H1=>∃ I,C=[some (.ref d),some (.ref g),some (.str I),none,none,none,none]/\I∈Gw/\DeckAt H1 d c/\nE d c H H1) (λu v=>?_) ?_
  ·refine⟨_,@qE _ _ 2 _ _ _ _ yX.nd rfl (Or.inl rfl) (@qY _ _ _ _ _ _ _ sH (@rD _ _ _ _ (@zD _ [("and",_,_),("or",_,_),("odd",_,_),("most",_,_),("not",_,_),("one",_,_),("nil",_,_),("and",_,_),("odd",_,_),("most",_,_)])) (tR GT hr rfl gT.m gT.k gT.b .nil sW (nC (pv 0) (nC oA nJ))) (λ_ _=>rfl)) (by rfl) (.inl rfl),?_⟩;refine⟨(by show 10<=sizeLine;decide),λp np=>⟨_,rfl,d,c,10,rfl,D.new np,by decide,by decide,λr H1 a0 a1 D1 k1=>?_⟩⟩;have M:=D.ned np;have h1:=k1 p _ mT M.1 M.2;obtain⟨I,O,hw⟩:=Fu (xs:=Gw) a0 (by exact a1);exact⟨p,_,_,.str I,rfl,rfl,mG.of h1,O,v _ _ ⟨I,rfl,hw,D1,(nE.new np).trans k1⟩⟩
  rintro C H1 ⟨I,rfl,hw,D1,k1⟩;refine yH (λC H2=>∃ n:Int,C=[some (.ref d),some (.ref g),some (.str I),some (.int n),none,none,none]/\DeckAt H2 d c/\nE d c H H2) (λu v=>?_) ?_
  ·refine⟨_,@qE _ _ 3 _ _ _ _ yX.nd rfl (Or.inl rfl) (@qY _ _ _ _ _ _ _ sH (@rD _ _ _ _ (@Iq _ [(2,_,_),(2,_,_),(2,_,_),(3,_,_),(1,_,_),(0,_,_),(0,_,_),(3,_,_),(3,_,_),(3,_,_)])) (tR GT hr rfl gT.m gT.k gT.b .nil sW (nC (pv 0) (nC oA nJ))) (λ_ _=>rfl)) (by rfl) (.inl rfl),?_⟩;refine⟨(by show 10<=sizeLine;decide),λp np=>⟨_,rfl,d,c,10,rfl,D1.new np,by decide,by decide,λr H2 a0 a1 D2 k2=>?_⟩⟩;have M:=D1.ned np;have h2:=k2 p _ mT M.1 M.2;obtain⟨j,rfl⟩:=dL a0;have hj:j<([2,2,2,3,1,0,0,3,3,3]:List Int).length:=by show j<10;omega
   have O:oZ (([2,2,2,3,1,0,0,3,3,3]:List Int).map V.int) ((j:Nat):Int)=some (V.int ([2,2,2,3,1,0,0,3,3,3]:List Int)[j]):=qG (by rw[aX,aG hj];rfl);exact⟨p,_,_,_,rfl,rfl,mG.of h2,O,v _ _ ⟨_,rfl,D2,k1.trans ((nE.new np).trans k2)⟩⟩
  rintro C H2 ⟨n0,rfl,D2,k2⟩;refine yH (λC H3=>∃ n:Nat,C=[some (.ref d),some (.ref g),some (.str I),some (.int n),none,none,none]/\ArOk I n/\n<=3/\DeckAt H3 d c/\nE d c H H3) (λu v=>?_) ?_
  ·refine⟨_,zS (xA Lj (pv 2) (@rD _ _ _ _ (@zD _ [("and",_,_),("or",_,_),("odd",_,_)])) rfl) (rY (@qE _ _ 3 _ _ _ _ yX.nd rfl (Or.inl rfl) (@qY _ _ _ _ _ _ _ sH (@rD _ _ _ _ (@Iq _ [(2,_,_),(3,_,_)])) (nW tI (pv 3) oA) (λ_ _=>rfl)) (by rfl) (.inl rfl))) (rY (@qE _ _ 3 _ _ _ _ yX.nd rfl (Or.inl rfl) (@qY _ _ _ _ _ _ _ sH (@rD _ _ _ _ (@Iq _ [(3,_,_),(1,_,_),(0,_,_),(0,_,_)])) (zE bG jT PySem.F.type_list_index P1 (@rD _ _ _ _ (@zD _ [("most",_,_),("not",_,_),("one",_,_),("nil",_,_)])) (nC (pv 2) nJ)) (λ_ _=>rfl)) (by rfl) (.inl rfl))),?_⟩;refine⟨_,rfl,(by show 3<=sizeLine;decide),λp np=>⟨p,uX.map V.str,rfl,.inl (mG.of mT),rfl,Ni _,_,rfl,?_⟩⟩;have D3:=D2.new (o:=.lst (uX.map V.str)) np;have k3:=k2.trans (nE.new (d:=d) (c:=c) (o:=.lst (uX.map V.str)) np);rw[R7];refine Ai (λhk=>?_) (λhk=>?_)
   ·have ae:I∈uX:=cB hk;refine⟨(by show 2<=sizeLine;decide),λW L=>⟨_,rfl,_,_,rfl,rfl,(by show (0:Int)<2;decide),?_⟩⟩;have b0:=eT n0 (show (2:Int)≠0 by decide);have b1:=dN n0 (show (0:Int)<2 by decide);have D4:=D3.new (o:=.lst [V.int 2,V.int 3]) L;have k4:=k3.trans (nE.new (d:=d) (c:=c) (o:=.lst [V.int 2,V.int 3]) L);rcases (show n0%2=0\/n0%2=1 by omega) with e | e
    ·exact⟨W,_,_,.int 2,rfl,rfl,mG.of mT,by rw[e];rfl,v _ _ ⟨2,rfl,⟨.inl ⟨ae,.inl rfl⟩⟩,by decide,D4,k4⟩⟩
    ·exact⟨W,_,_,.int 3,rfl,rfl,mG.of mT,by rw[e];rfl,v _ _ ⟨3,rfl,⟨.inl ⟨ae,.inr rfl⟩⟩,by decide,D4,k4⟩⟩
   ·have ae:I∉uX:=λz=>hk (bE z)
    obtain⟨j,n,hj,i1,i2,O,ho⟩:=MQ (Zo hw ae);refine⟨(by show 4<=sizeLine;decide),λW L=>⟨(by show 4<=sizeLine;decide),λp3 ah=>⟨.inl ⟨rfl,_,mG.of mT⟩,_,rfl,?_⟩⟩⟩;have D4:=(D3.new (o:=.lst (yZ.map V.int)) L).new (o:=.lst (vY.map V.str)) ah;have k4:=(k3.trans (nE.new (d:=d) (c:=c) (o:=.lst (yZ.map V.int)) L)).trans (nE.new (d:=d) (c:=c) (o:=.lst (vY.map V.str)) ah);refine⟨p3,vY.map V.str,.str I,j,rfl,rfl,mG.of mT,Ni _,rfl,hj,i1,i2,?_⟩;have h2:upd (upd (upd H2 p (.lst (uX.map V.str))) W (.lst (yZ.map V.int))) p3 (.lst (vY.map V.str)) W=some (.lst (yZ.map V.int)):=by rw[mO (nO mT ah)];exact mT
    refine⟨W,yZ.map V.int,_,.int n,rfl,rfl,mG.of h2,O,v _ _ ⟨n,rfl,ho,?_,D4,k4⟩⟩;rcases ho.ok with⟨_,q | q⟩ | ⟨_,q⟩ | ⟨_,q⟩ | ⟨_,q⟩ | ⟨_,q⟩<;>omega
  rintro C H3 ⟨n,rfl,ho,hn,D3,k3⟩;have ag:=k3 g _ ao knd ac;refine yH (λC H4=>∃ a:Nat,C=[some (.ref d),some (.ref g),some (.str I),some (.int n),none,none,none]/\0<B.length/\DeckAt H4 d c/\nE d c H H4) (λu v=>?_) ?_
  ·refine⟨_,zS (xA (M7 hu) (pv 1) (rD nJ) (vZ _)) (rY (xM (C2 (nC (qY sH (rD (nC vS (nC vS nJ))) (nW tI (pv 3) oA) (λ_ _=>rfl)) (nC (C2 nJ) nJ))))) Bo,?_⟩;refine⟨_,rfl,(by show 0<=sizeLine;decide),λp np=>?_⟩;have D4:=D3.new (o:=.lst []) np;have k4:=k3.trans (nE.new (d:=d) (c:=c) (o:=.lst []) np);have au:upd H3 p (.lst []) g=some (.lst (B.map V.str)):=by rw[mO (nO ag np)];exact ag
   refine⟨g,p,_,rfl,rfl,mG.of au,mG.of mT,_,rfl,?_⟩;refine Ai (λhe=>?_) (λhe=>v _ _ ⟨0,rfl,?_,D4,k4⟩)
   ·refine⟨(by show 2<=sizeLine;decide),λW L=>⟨_,rfl,_,_,rfl,rfl,(by show (0:Int)<2;decide),?_⟩⟩;have b0:=eT (n:Int) (show (2:Int)≠0 by decide);have b1:=dN (n:Int) (show (0:Int)<2 by decide);have D5:=D4.new (o:=.lst [V.str (Str.ofString "one"),V.str (Str.ofString "nil")]) L;have k5:=k4.trans (nE.new (d:=d) (c:=c) (o:=.lst [V.str (Str.ofString "one"),V.str (Str.ofString "nil")]) L);have fin:∀ w2:Str,ArOk w2 0->∀ q,upd (upd H3 p (.lst [])) W (.lst [V.str (Str.ofString "one"),V.str (Str.ofString "nil")]) q=none ->
      ∀ t,upd (upd (upd H3 p (.lst [])) W (.lst [V.str (Str.ofString "one"),V.str (Str.ofString "nil")])) q (.tup []) t=none ->
      Q (.ref t) (upd (upd (upd (upd H3 p (.lst [])) W (.lst [V.str (Str.ofString "one"),V.str (Str.ofString "nil")])) q (.tup [])) t (.tup [.str w2,.ref q])):=by
     intro w2 ay q U t N;have D6:=D5.new (o:=.tup []) U;have k6:=k5.trans (nE.new (d:=d) (c:=c) (o:=.tup []) U);have Z:=D5.ned U;have Y:=D6.ned N;exact k t q w2 [] _ (k6.free Y.1 Y.2 N) (k5.free Z.1 Z.2 U) mT (by rw[mO (nO mT N)];exact mT) ay (λp hp=>nomatch hp) (D6.new N) (k6.trans (nE.new N))
    rcases (show (n:Int)%2=0\/(n:Int)%2=1 by omega) with e | e
    ·refine⟨W,_,_,.str "one",rfl,rfl,mG.of mT,by rw[e];rfl,(by show 0<=sizeLine;decide),λq U=>⟨(by show 2<=sizeLine;decide),λt N=>?_⟩⟩;exact fin "one" ⟨.inr (.inr (.inr (.inl ⟨rfl,rfl⟩)))⟩ q U t N
    ·refine⟨W,_,_,.str "nil",rfl,rfl,mG.of mT,by rw[e];rfl,(by show 0<=sizeLine;decide),λq U=>⟨(by show 2<=sizeLine;decide),λt N=>?_⟩⟩;exact fin "nil" ⟨.inr (.inr (.inr (.inr ⟨rfl,rfl⟩)))⟩ q U t N
   ·cases B with
    | nil=>simp at he
    | cons a r=>simp
  rintro C H4 ⟨_,rfl,a2,D4,k4⟩;refine⟨_,qF (qE (i:=4) yX.nd rfl (Or.inl rfl) (rD nJ)) (qF (Af bM rfl (Bv rfl T.range (nC (pv 3) nJ)) (wT (i:=5) yX.nd rfl (Or.inl rfl)) (qF (qE (i:=6) yX.nd rfl (Or.inl rfl) (qY sH (rD (nC (tR GT hr rfl gT.m gT.k gT.b .nil sW (nC (pv 0) (nC (vJ zA (by rfl) T.len bP (nC (pv 1) nJ)) nJ))) (nC (nW xR (nW xR (vJ zA (by rfl) T.len bP (nC (pv 1) nJ)) oA) (tR GT hr rfl gT.m gT.k gT.b .nil sW (nC (pv 0) (nC (vJ (Qe rfl) (by rfl) T.min iY (nC oA (nC (vJ zA (by rfl) T.len bP (nC (pv 1) nJ)) nJ))) nJ)))) nJ))) (tR GT hr rfl gT.m gT.k gT.b .nil sW (nC (pv 0) (nC oA nJ))) (λ_ _=>rfl))) (rY (N9 (zE bG bN bO rQ (pv 4) (nC (qY sH (pv 1) (pv 6) (λ_ _=>rfl)) nJ)))))) (rY (xM (C2 (nC (pv 2) (nC (Kn tN (by rfl) T.tuple bU (nC (pv 4) nJ)) nJ)))))),?_⟩;refine⟨(by show 0<=sizeLine;decide),λl nl=>?_⟩;have ai:=D4.ned nl;have av:H l=none:=k4.free ai.1 ai.2 nl;have lk:l≠g:=(nO ao av).symm;refine⟨_,rfl,_,rfl,by omega,by omega,?_⟩;rw[cC];refine Jg (lo:=0) (n:=n) (λi C H5=>∃ (S:List Str) (v5 v6:Option V),C=[some (.ref d),some (.ref g),some (.str I),some (.int n),some (.ref l),v5,v6]/\S.length=i/\(∀ p∈S,p∈B)/\H5 l=some (.lst (S.map V.str))/\DeckAt H5 d c/\nE d c H H5)
   ⟨[],none,none,rfl,rfl,(λp hp=>nomatch hp),mT,D4.new nl,k4.trans (nE.new nl)⟩ ?_ ?_
  ·rintro i C H5 hi ⟨S,v5,v6,rfl,an,aj,h5,D5,k5⟩;have aa:=k5 g _ ao knd ac;have ak:(if ((B.map V.str).length:Int)<4 then ((B.map V.str).length:Int) else 4)=(if (B.length:Int)<4 then (B.length:Int) else 4):=by rw[aA]
   refine⟨_,rfl,_,rfl,g,_,rfl,.inl (mG.of aa),d,c,_,rfl,D5,by rw[aA];omega,by rw[aA];omega,λr1 H6 a0 a1 D6 k6=>?_⟩;have af:=k6 g _ aa knd ac;refine⟨_,rfl,g,_,rfl,.inl (mG.of af),_,_,rfl,rfl,_,rfl,_,rfl,g,_,rfl,.inl (mG.of af),_,_,rfl,d,c,_,rfl,D6,?_,?_,λr2 H7 b0 b1 D7 k7=>?_⟩
   ·rw[ak];split<;>omega
   ·rw[ak];split<;>omega
   have a4:r2<B.length:=by
    rw[ak] at b1;split at b1<;>omega
   refine⟨_,_,rfl,rfl,(by show 2<=sizeLine;decide),λp np=>?_⟩;have D8:=D7.new (o:=.lst [V.int r1,V.int (((B.map V.str).length:Int)-1-r2)]) np;refine⟨_,rfl,d,c,2,rfl,D8,by decide,by decide,λr3 H9 c0 c1 D9 k9=>?_⟩;have M:=D7.ned np;have h9:=k9 p _ mT M.1 M.2;have k8:nE d c H5 H9:=((k6.trans k7).trans (nE.new np)).trans k9;have ar:=k8 g _ aa knd ac;have ab:l≠d/\l≠c:=ai;have aq:=k8 l _ h5 ab.1 ab.2;rw[aA] at a1;have fin:∀ a:Int,0<=a->a<B.length->∃ x,oZ (B.map V.str) a=some (V.str x)/\x∈B:=λa g0 g1=>Fu g0 g1
   have go:∀ a:Int,0<=a->a<B.length->oZ [V.int r1,V.int (((B.map V.str).length:Int)-1-r2)] r3=some (V.int a)->Gi K (.ref p) (.int r3) H9 λx H1=>yW 6 x [some (.ref d),some (.ref g),some (.str I),some (.int n),some (.ref l),some (.int (0+i)),v6] H1 λaw H' =>
     (Q0 (Nu K "list" J0 (qM 4) (C3 (Ca (Gi K) (qM 1) (qM 6)) Hj))) { nx:=λC H5=>∃ (S:List Str) (v5 v6:Option V),C=[some (.ref d),some (.ref g),some (.str I),some (.int n),some (.ref l),v5,v6]/\S.length=i+1/\(∀ p∈S,p∈B)/\H5 l=some (.lst (S.map V.str))/\DeckAt H5 d c/\nE d c H H5,rt:=Q } aw H':=by
    intro a g0 g1 O;obtain⟨x,hx,hm⟩:=fin a g0 g1;refine⟨p,_,_,.int a,rfl,rfl,mG.of h9,O,_,rfl,.inl ⟨rfl,_,mG.of aq⟩,_,rfl,_,rfl,g,_,_,.str x,rfl,rfl,mG.of ar,hx,l,_,.str x,rfl,rfl,aq,?_,S++[x],_,_,rfl,by simp[an],?_,?_,D9.upd_other ab.1 ab.2,?_⟩
    ·rw[aA];exact bI (show S.length<1000 by omega) (by decide)
    ·intro y hy;rcases aR.mp hy with q | q
     ·exact aj y q
     ·rw[bA.mp q];exact hm
    ·rw[mT];simp
    ·exact λb o e g1 g2=>by rw[mO (nO e av)];exact (k5.trans k8) b o e g1 g2
   rcases (show r3=0\/r3=1 by omega) with e | e
   ·exact go r1 a0 a1 (by rw[e];rfl)
   ·exact go (((B.map V.str).length:Int)-1-r2) (by rw[aA];omega) (by rw[aA];omega) (by rw[e];rfl)
  ·rintro C H5 ⟨S,v5,v6,rfl,an,aj,h5,D5,k5⟩;refine⟨_,rfl,_,rfl,l,_,rfl,.inl ⟨mG.of h5,λq U=>⟨(by show 2<=sizeLine;decide),λt N=>?_⟩⟩⟩;have Z:=D5.ned U;have D6:=D5.new (o:=.tup (S.map V.str)) U;have k6:=k5.trans (nE.new (d:=d) (c:=c) (o:=.tup (S.map V.str)) U);have Y:=D6.ned N;exact k t q I S _ (k6.free Y.1 Y.2 N) (k5.free Z.1 Z.2 U) mT (by rw[mO (nO mT N)];exact mT) (by rw[an];exact ho) aj (D6.new N) (k6.trans (nE.new N))
end
structure Cel where
 ins:List Str
 gates:List (Str×Str×List Str)
 outs:List Str
def Cel.names (C:Cel):List Str:=C.ins++C.gates.map (·.1)
def RK (H:Hp) (a:Addr) (g:Str×Str×List Str):Prop:=∃ q,H a=some (.tup [.str g.1,.str g.2.1,.ref q])/\H q=some (.tup (g.2.2.map V.str))
abbrev SD (H:Hp):List Addr->List (Str×Str×List Str)->Prop:=Paired (RK H)
def pB:List Str->List (Str×Str×List Str)->Prop
 | _,[]=>True
 | kn,g::r=>ArOk g.2.1 g.2.2.length/\(∀ p∈g.2.2,p∈kn)/\pB (kn++[g.1]) r
theorem pB.snoc:∀ {gs:List (Str×Str×List Str)}{kn:List Str}{g:Str×Str×List Str},pB kn gs->ArOk g.2.1 g.2.2.length->(∀ p∈g.2.2,p∈kn++gs.map (·.1))->pB kn (gs++[g])
 | [],kn,g,_,c,b=>⟨c,by simpa using b,True.intro⟩
 | a::r,kn,g,h,c,b=>⟨h.1,h.2.1,pB.snoc h.2.2 c (by simpa using b)⟩
structure Good (C:Cel):Prop where
 nd:C.names.Nodup
 nm:∀ x∈C.names,GoodName x
 gt:pB C.ins C.gates
 os:∀ o∈C.outs,o∈C.names
 ond:C.outs.Nodup
 li:C.ins.length<=6
 lg:C.gates.length<=24
 lo:C.outs.length<=6
def yD:RD:=λdk ds Φ=>∃ (d c:Addr) (m:Int),dk=[d,c]/\ds=[.raw (.ref d),.int m]/\0<m/\m<4611686018427387904/\∀ r:Nat,(r:Int)<m->Φ (.val (.int r))
def Nn:RD:=λdk ds Φ=>∃ (d c:Addr) (m:Nat),dk=[d,c]/\ds=[.raw (.ref d),.int m]/\m<=40/\∀ xs:List Str,xs.length=m->xs.Nodup->(∀ x∈xs,GoodName x)->Φ (.own (.lst (xs.map D.str)))
def Wl:RD:=λdk ds Φ=>∃ (d c:Addr) (ks:List Str),dk=[d,c]/\ds=[.raw (.ref d),.lst (ks.map D.str)]/\ks.length<=100/\∀ (wd:Str) (ps:List Str),ArOk wd ps.length->(∀ p∈ps,p∈ks)->Φ (.val (.tup [.str wd,.tup (ps.map D.str)]))
theorem Et (h:Dk [d,c] H):DeckAt H d c:=by
 rcases h with h | ⟨a,b,e,h⟩
 ·cases h
 ·cases e;exact h
theorem Ji (k:nE d c H H'):A4 [d,c] H H':=λb o e n=>k b o e (λz=>n (by simp[z])) (λz=>n (by simp[z]))
theorem BU (D:DeckAt H d c) (h:H l=none):l∉[d,c]:=λz=>by
 have:=D.ned h;rcases aL.mp z with q | q
 ·exact this.1 q
 ·exact this.2 (by simpa using q)
section
variable {P:Program}{K:mC}
theorem NI (F:FnOk P w K mg base mJ k f fd ps El):FnOk P w K mg base mJ k f fd ps (mQ K yD):=F.imp λy H Q E ⟨C,A,B,x,g,z,r,⟨d,c,m,t,q,p,o,e⟩,l⟩=>by
 subst t q;cases r with
 | cons i r =>
  cases r with
  | cons h r =>
   cases r;have:=i.raw_inv;have:=h.int_inv;subst_vars;refine⟨d,c,m,rfl,Et g,p,o,λr u a b v j=>?_⟩;obtain⟨n,rfl⟩:=dL a;exact l _ _ u (e n b) (Ji j) (.inr ⟨d,c,rfl,v⟩) (.int _)
theorem KR (F:FnOk P w K mg base mJ k f fd ps Wd):FnOk P w K mg base mJ k f fd ps (mQ K Nn):=F.imp λI H Q E ⟨N,A,M,C,a,L,r,⟨d,c,m,y,x,u,b⟩,t⟩=>by
 subst y x;cases r with
 | cons o r =>
  cases r with
  | cons j r =>
   cases r;have:=o.raw_inv;have:=j.int_inv;subst_vars;exact⟨d,c,m,rfl,Et a,u,λl h z i g e p v B q=>t _ _ z (b h e p v) (Ji q) (.inr ⟨d,c,rfl,B⟩) ⟨l,rfl,i,BU (Et a) i,_,g,Ih h⟩⟩
theorem HF (F:FnOk P w K mg base mJ k f fd ps Rk):FnOk P w K mg base mJ k f fd ps (mQ K Wl):=F.imp λU H Q E ⟨Z,A,Y,T,b,B,r,⟨d,c,h,N,M,L,a⟩,u⟩=>by
 subst N M;cases r with
 | cons m r =>
  cases r with
  | cons l r =>
   cases r;have:=m.raw_inv;subst this;obtain⟨i,V,rfl,y,x,j⟩:=l.lst_inv;have:=Mp (Hq h) j;subst this;have g:=B i y;refine⟨d,c,i,h,rfl,Et b,x,λz=>g (by simp[z]),λz=>g (by simp[z]),L,λt q e ps O W p I C ok v S o=>u _ _ O (a e ps ok v) (Ji o) (.inr ⟨d,c,rfl,S⟩) ?_⟩;exact .tup I (.cons (.str e) (.cons (.tup C (Ih ps)) .nil))
end
theorem Dw (f:α->D) (xs:List α) (k:Nat):oY (xs.map f) none (some (k:Int))=(xs.take k).map f:=by
 unfold oY;rw[aA,HT.sIx_none,HT.sIx_nat,lH,Nat.sub_zero,List.map_take];by_cases h:k<=xs.length
 ·rw[Nat.min_eq_left h]
 ·rw[Nat.min_eq_right (by omega),bR (by simp),bR (by simp;omega)]
theorem Df (f:α->D) (xs:List α) (k:Nat):oY (xs.map f) (some (k:Int)) none=(xs.drop k).map f:=by
 unfold oY;rw[aA,HT.sIx_nat,HT.sIx_none,List.map_drop,bR (by simp)];by_cases h:k<=xs.length
 ·rw[Nat.min_eq_left h]
 ·rw[Nat.min_eq_right (by omega),List.drop_eq_nil_of_le (by simp),List.drop_eq_nil_of_le (by simp;omega)]
def nX (g:Str×Str×List Str):D:=.tup [.str g.1,.str g.2.1,.tup (g.2.2.map D.str)]
def qW (C:Cel):D:=.tup [.tup (C.ins.map D.str),.tup (C.gates.map nX),.tup (C.outs.map D.str)]
def rO (p:Str×Str):D:=.tup [.str p.1,.str p.2]
def rT (C:Cel) (al:List (Str×Str)):D:=.tup [qW C,.tup (al.map rO)]
structure GoodRow (C:Cel) (al:List (Str×Str)):Prop where
 good:Good C
 og:∀ o∈C.outs,o∈C.gates.map (·.1)
 n1:(al.map (·.1)).Nodup
 n2:(al.map (·.2)).Nodup
 mem:∀ p∈al,p.1∈C.outs/\p.2∈C.ins
 la:al.length<=4
def Ws:RD:=λdk ds Φ=>∃ (d c:Addr) (a b m:Nat),dk=[d,c]/\ds=[.raw (.ref d),.int a,.int b,.int m]/\a<=6/\b<=24/\m<=4/\∀ C al,GoodRow C al->Φ (.val (rT C al))
theorem mK (I:List Sl->Prop) (h1:∀ N:List Sl->Prop,(∀ ρ',I ρ'->N ρ')->t dk { De with nx:=N } ρ) (h2:∀ ρ',I ρ'->u dk De ρ'):F5 t u dk De ρ:=h1 _ h2
theorem rF (ds:List D) (ρ1:List Sl) (hι:∀ Ψ:List D->List Sl->Prop,Ψ ds ρ1->ι dk ρ Ψ) (Pv:Nat->List Sl->Prop) (h0:Pv 0 ρ1)
  (hs:∀ (i:Nat) d ρ',ds[i]?=some d->Pv i ρ'->g d ρ' λρ2=>tb dk { nx:=Pv (i+1),ct:=Pv (i+1),bk:=De.nx,rt:=De.rt } ρ2) (hd:∀ ρ',Pv ds.length ρ'->De.nx ρ'):Jc ι g tb dk De ρ:=hι _ ⟨Pv,h0,hs,hd⟩
theorem qH {α:Type}{f:α->D}{xs:List α}{i:Nat}{d:D}(h:(xs.map f)[i]?=some d):∃ y,xs[i]?=some y/\f y=d:=by
 rw[aX] at h;cases e:xs[i]? with
 | none=>rw[e] at h;cases h
 | some y=>rw[e] at h;exact⟨y,rfl,cA h⟩
theorem Lc {lo:Int}(h:(uB lo n)[i]?=some d):i<n/\d = .int (lo+i):=by
 unfold uB at h;rw[aX] at h;cases e:(List.range n)[i]? with
 | none=>rw[e] at h;cases h
 | some y =>
  rw[e] at h;obtain⟨b,a⟩:=aU.mp e;rw[cU] at b;rw[lK] at a;subst a;exact⟨b,(cA h).symm⟩
theorem Mh:∀ {l:List α}{n:Nat}{y:α},l[n]?=some y->l.Perm (y::l.eraseIdx n)
 | a::l,0,y,h=>by simp at h;subst h;exact .refl _
 | a::l,n+1,y,h=>by
  have:=Mh (l:=l) (n:=n) (y:=y) (by simpa using h);rw[jW];exact (this.cons a).trans (.swap y a _)
theorem J5 (hn:left[n]?=some y) (nd:(out++left).Nodup):((out++[y])++left.eraseIdx n).Nodup/\(∀ z,z∈(out++[y])++left.eraseIdx n->z∈out++left)/\(left.eraseIdx n).length+1=left.length:=by
 obtain⟨b,c⟩:=aU.mp hn;have p:(out++left).Perm ((out++[y])++left.eraseIdx n):=by
  have q:left.Perm (y::left.eraseIdx n):=Mh hn;rw[bJ];exact q.append_left out
 refine⟨p.nodup_iff.mp nd,λz a=>p.mem_iff.mpr a,?_⟩;rw[List.length_eraseIdx_of_lt b];omega
theorem N7 (f:α->β):∀ (l:List α) (n:Nat),(l.map f).eraseIdx n=(l.eraseIdx n).map f
 | [],_=>by simp
 | a::l,0=>rfl
 | a::l,n+1=>by rw[aO,jW,jW,aO,N7 f l n]
theorem Ik {n k:Nat}(h:k<n):seqIndex? (k:Int) n=some k:=by
 unfold seqIndex?;have:¬ ((k:Int)<0):=by omega
 simp[this,h]
section
variable {P:Program}{K:mC}
theorem oW {P:List Str}(a:sc.kind = .function:=by rfl) (b:sc.isCoroutine=false:=by rfl) (c:sc.isGenerator=false:=by rfl) (d:N.Nodup:=by decide +kernel) (e:N.take P.length=P:=by rfl) (f:∀ x∈P,sc.names.lookup x=some .local\/sc.names.lookup x=some .cell:=by decide +kernel) (g:∀ y∈sc.names,y.2 ≠ .free:=by decide +kernel):L2.FnScope N P sc:=⟨a,b,c,d,e,f,g⟩
theorem tP:FnScope ["deck","inputs","gates","most","many","count","names","known","rows","name","left","outputs","k","outs","ins","along"] ["deck","inputs","gates","most"] (nF G6):=oW
theorem QY (F:Fun K "_law_row" "_law_row" G6 f fd) (T:Txt mg) (mN:Gd K mg "_law_take" wW ["deck","many"] fT fdT) (zH:Gd K mg "_law_names" B9 ["deck","many"] fN fdN) (Oa:Gd K mg "_law_gate" Gf ["deck","known"] fG fdG)
  (oM:FnOk P w K mg base mJ 1 fT fdT ["deck","many"] (mQ K yD)) (I0:FnOk P w K mg base mJ 3 fN fdN ["deck","many"] (mQ K Nn)) (EJ:FnOk P w K mg base mJ 2 fG fdG ["deck","known"] (mQ K Wl)) :
  FnOk P w K mg base mJ 4 f fd ["deck","inputs","gates","most"] (mQ K Ws):=by
 refine F.okD (k:=3) tP (λdk ds Φ ⟨_,_,_,_,_,_,e,_⟩=>by rw[e];rfl) (by decide) λau A ai s H E dk ds Φ V hR=>?_
 have hu:=oX V;obtain⟨d,c,a,b,m,rfl,rfl,ha,hb,hm,aj⟩:=hR;refine⟨_,(mF (mY (i:=4) tP.nd rfl (Or.inl rfl) (mV oM (V.mono (by decide)) (by rfl) mN.m mN.k mN.b (aD (eA 0 (pv 0)) (aD (pL nT nU (pv 1) kD) gV)))) (mF (mY (i:=5) tP.nd rfl (Or.inl rfl) (mV oM (V.mono (by decide)) (by rfl) mN.m mN.k mN.b (aD (eA 0 (pv 0)) (aD (pL nT nU (pv 2) kD) gV)))) (mF (mY (i:=6) tP.nd rfl (Or.inl rfl) (mV I0 (V.mono (by decide)) (by rfl) zH.m zH.k zH.b (aD (eA 0 (pv 0)) (aD (pL nT nU (pv 4) (eA 5 (pv 5))) gV)))) (mF (mY (i:=7) tP.nd rfl (Or.inl rfl) (tJ uD tW (pv 6) sZ (tL (eA 4 (pv 4))))) (mF (mY (i:=8) tP.nd rfl (Or.inl rfl) (nN gV)) (mF (qU (m:=99) bM rfl (nS (tJ uD tW (pv 6) (tL (eA 4 (pv 4))) sZ)) (mM (i:=9) tP.nd rfl (Or.inl rfl)) (mF (rW (qX bG bN bO rQ sU (pv 8) (aD (nZ nT nU (oS (aD (eA 9 (pv 9)) gV)) (mV EJ (V.mono (by decide)) (by rfl) Oa.m Oa.k Oa.b (aD (eA 0 (pv 0)) (aD (eA 7 (pv 7)) gV)))) gV))) (mW (mY (i:=7) tP.nd rfl (Or.inl rfl) (pL nT nU (pv 7) (nN (aD (eA 9 (pv 9)) gV))))))) (mF (mY (i:=10) tP.nd rfl (Or.inl rfl) (tJ uD tW (pv 6) (tL (eA 4 (pv 4))) sZ)) (mF (mY (i:=11) tP.nd rfl (Or.inl rfl) (nN gV)) (mF (qU (m:=99) bM rfl (Aj (by rfl) T.range (oF (Ny rfl) N1 (by rfl) T.min iY (aD (mV oM (V.mono (by decide)) (by rfl) mN.m mN.k mN.b (aD (eA 0 (pv 0)) (aD kD gV))) (aD (oF qQ qR (by rfl) T.len bP (tH (pv 10) gV)) gV)))) (mM (i:=12) tP.nd rfl (Or.inl rfl)) (mW (rW (qX bG bN bO rQ sU (pv 11) (aD (qX bG gZ hJ Dt Hi (pv 10) (aD (mV oM (V.mono (by decide)) (by rfl) mN.m mN.k mN.b (aD (eA 0 (pv 0)) (aD (oF qQ qR (by rfl) T.len bP (tH (pv 10) gV)) gV))) gV)) gV))))) (mF (mY (i:=13) tP.nd rfl (Or.inl rfl) (pC J4 Od (by rfl) T.list kB (tH (pv 11) gV))) (mF (mY (i:=14) tP.nd rfl (Or.inl rfl) (tJ uD tW (pv 6) sZ (tL (eA 4 (pv 4))))) (mF (mY (i:=15) tP.nd rfl (Or.inl rfl) (nN gV)) (mF (qU (m:=99) bM rfl (Aj (by rfl) T.range (oF (Ny rfl) N1 (by rfl) T.min iY (aD (mV oM (V.mono (by decide)) (by rfl) mN.m mN.k mN.b (aD (eA 0 (pv 0)) (aD (pL nT nU (pv 3) kD) gV))) (aD (oF qQ qR (by rfl) T.len bP (tH (pv 13) gV)) (aD (oF qQ qR (by rfl) T.len bP (tH (pv 14) gV)) gV))))) (mM (i:=12) tP.nd rfl (Or.inl rfl)) (mW (rW (qX bG bN bO rQ sU (pv 15) (aD (oS (aD (qX bG gZ hJ Dt Hi (pv 13) (aD (mV oM (V.mono (by decide)) (by rfl) mN.m mN.k mN.b (aD (eA 0 (pv 0)) (aD (oF qQ qR (by rfl) T.len bP (tH (pv 13) gV)) gV))) gV)) (aD (qX bG gZ hJ Dt Hi (pv 14) (aD (mV oM (V.mono (by decide)) (by rfl) mN.m mN.k mN.b (aD (eA 0 (pv 0)) (aD (oF qQ qR (by rfl) T.len bP (tH (pv 14) gV)) gV))) gV)) gV))) gV))))) (mW (nQ (oS (aD (oS (aD (pC tN tO (by rfl) T.tuple bU (aD (tJ uD tW (pv 6) sZ (tL (eA 4 (pv 4)))) gV)) (aD (pC tN tO (by rfl) T.tuple bU (tH (pv 8) gV)) (aD (pC tN tO (by rfl) T.tuple bU (tH (pv 11) gV)) gV)))) (aD (pC tN tO (by rfl) T.tuple bU (tH (pv 15) gV)) gV)))))))))))))))))),?_⟩;refine⟨rfl,d,c,_,rfl,rfl,by omega,by omega,λg h1=>⟨.inl rfl,?_⟩⟩;refine⟨rfl,d,c,_,rfl,rfl,by omega,by omega,λZ h2=>⟨.inl rfl,?_⟩⟩;refine⟨rfl,d,c,g+Z,rfl,rfl,by omega,λt lx nd gn=>⟨.inl rfl,?_⟩⟩;refine⟨rfl,by decide,?_⟩;dsimp only;refine mK (λu=>∃ (l:List (Str×Str×List Str)) (s7 L:Sl),u=[.val (.raw (.ref d)),.val (.int a),.val (.int b),.val (.int m),.val (.int g),.val (.int Z),.own (.lst (t.map D.str)),s7,.own (.lst (l.map nX)),L,.no,.no,.no,.no,.no,.no] /\ l.map (·.1)=t.drop g/\pB (t.take g) l) (λN hN=>?_) ?_
 ·refine rF ((t.drop g).map D.str) [.val (.raw (.ref d)),.val (.int a),.val (.int b),.val (.int m),.val (.int g),.val (.int Z),.own (.lst (t.map D.str)),.own (.lst ((t.take g).map D.str)),.own (.lst []),.no,.no,.no,.no,.no,.no,.no] (λΨ h=>?_)
   (λi u=>∃ (l:List (Str×Str×List Str)) (L:Sl),u=[.val (.raw (.ref d)),.val (.int a),.val (.int b),.val (.int m),.val (.int g),.val (.int Z),.own (.lst (t.map D.str)),.own (.lst ((t.take g++l.map (·.1)).map D.str)),.own (.lst (l.map nX)),L,.no,.no,.no,.no,.no,.no] /\ l.map (·.1)=(t.drop g).take i/\pB (t.take g) l) ⟨[],.no,by simp,by simp,trivial⟩ ?_ ?_
  ·rw[← Dw,← Df] at h;exact⟨rfl,h⟩
  ·rintro i x u U ⟨l,L,rfl,S,ok⟩;obtain⟨y,hy,rfl⟩:=qH U;have aq:l.length<=40:=by have:=cV List.length S;simp only[aA,bQ,cW] at this;omega
   refine⟨rfl,(by show 1<=1000;decide),d,c,t.take g++l.map (·.1),rfl,rfl,by simp;omega,λwd ps ak hp=>⟨.inl rfl,(by show 1+2<=100000;decide),(by show (l.map nX).length<100000;simp;omega),rfl,(by show 1<=1000;decide),(by show ((t.take g++l.map (·.1)).map D.str).length+1<=100000;simp;omega),l++[(y,wd,ps)],.val (.str y),?_,?_,ok.snoc ak hp⟩⟩
   ·simp[nX]
   ·rw[aJ,S,bS,hy];rfl
  ·rintro u ⟨l,L,rfl,S,ok⟩;rw[aA,bR (aZ _)] at S;exact hN _ ⟨l,_,L,rfl,S,ok⟩
 rintro u ⟨l,s7,L,rfl,S,ok⟩;have aq:l.length=Z:=by have:=cV List.length S;simp only[aA,cW] at this;omega
 have ar:(l.map (·.1)).Nodup:=by rw[S];exact nd.sublist (List.drop_sublist _ _)
 refine⟨rfl,by decide,?_⟩;dsimp only;refine mK (λu=>∃ (os:List Str) (W r:Sl),u=[.val (.raw (.ref d)),.val (.int a),.val (.int b),.val (.int m),.val (.int g),.val (.int Z),.own (.lst (t.map D.str)),s7,.own (.lst (l.map nX)),L,W,.own (.lst (os.map D.str)),r,.no,.no,.no] /\ os.Nodup/\(∀ o∈os,o∈l.map (·.1))/\os.length<=6) (λN hN=>?_) ?_
 ·refine⟨d,c,7,rfl,rfl,by decide,by decide,λk7 an=>⟨.inl rfl,rfl,rfl,_,rfl,λq hq q1 q2=>?_⟩⟩;have Y:q<=((oY (t.map D.str) (some (g:Int)) none).length:Nat):=q2;rw[Df,← S] at Y ⊢;simp only[aA] at Y;obtain⟨q,rfl⟩:∃ n:Nat,q=n:=⟨q.toNat,by rcases hq with z | z<;>omega⟩;obtain⟨G0,aa⟩:∃ G0:List Str,G0=l.map (·.1):=⟨_,rfl⟩;refine⟨by omega,by omega,λi u=>∃ (os left:List Str) (r:Sl),u=[.val (.raw (.ref d)),.val (.int a),.val (.int b),.val (.int m),.val (.int g),.val (.int Z),.own (.lst (t.map D.str)),s7,.own (.lst (l.map nX)),L,.own (.lst (left.map D.str)),.own (.lst (os.map D.str)),r,.no,.no,.no] /\
   (os++left).Nodup/\(∀ o∈os++left,o∈G0)/\os.length=i/\left.length+i=l.length,⟨[],G0,.no,by rw[aa];rfl,by rw[aa];exact ar,λo v=>v,rfl,by rw[aa];simp⟩,?_,?_⟩
  ·rintro i x u U ⟨os,left,r,rfl,C,I,ol,ll⟩;obtain⟨hi,rfl⟩:=Lc U;rw[cC] at hi;refine⟨rfl,rfl,rfl,rfl,_,rfl,d,c,_,rfl,rfl,(by show (0:Int)<((left.map D.str).length:Nat);simp;omega),(by show ((left.map D.str).length:Int)<4611686018427387904;simp;omega),λj hj=>⟨.inr rfl,?_⟩⟩;have Q:j<left.length:=by have:(j:Int)<((left.map D.str).length:Nat):=hj;simp at this;omega
   obtain⟨y,hy⟩:∃ y,left[j]?=some y:=⟨_,aG Q⟩;obtain⟨p1,p2,p3⟩:=J5 hy C;refine⟨j,.str y,by omega,by omega,(by show seqIndex? _ (left.map D.str).length=_;rw[aA];exact Ik Q),(by show (left.map D.str)[j]?=_;rw[aX,hy];rfl),(by show (os.map D.str).length<100000;simp;omega),os++[y],left.eraseIdx j,.val (.int (0+(i:Int))),?_,p1,λo v=>I o (p2 o v),by simp[ol],by omega⟩;simp[N7]
  ·rintro u ⟨os,left,r,rfl,C,I,ol,ll⟩;exact hN _ ⟨os,_,r,rfl,(bK.mp C).1,λo v=>by have:=I o (bC _ v);rw[aa] at this;exact this,by rw[ol];simp[uB];omega⟩
 rintro u ⟨os,W,r,rfl,C,I,ol⟩;refine⟨rfl,_,rfl,rfl,by decide,?_⟩;dsimp only;have ah:(t.take g).Nodup:=nd.sublist (lO _ _);have tl:(t.take g).length=g:=by simp;omega
 refine mK (λu=>∃ (al:List (Str×Str)) (r ae ac:Sl),u=[.val (.raw (.ref d)),.val (.int a),.val (.int b),.val (.int m),.val (.int g),.val (.int Z),.own (.lst (t.map D.str)),s7,.own (.lst (l.map nX)),L,W,.own (.lst (os.map D.str)),r,ae,ac,.own (.lst (al.map rO))] /\ (al.map λp=>p.1).Nodup/\(al.map λp=>p.2).Nodup/\(∀ p∈al,p.1∈os/\p.2∈t.take g)/\al.length<=4) (λN hN=>?_) ?_
 ·refine⟨rfl,d,c,_,rfl,rfl,by omega,by omega,λk7 an=>⟨.inl rfl,rfl,rfl,_,rfl,rfl,rfl,_,rfl,λq hq q1 q2 q3=>?_⟩⟩;have af:q<=((oY (t.map D.str) none (some (g:Int))).length:Nat):=q3;have Y:q<=((os.map D.str).length:Nat):=q2;rw[Dw] at af ⊢;rw[aA] at af Y;obtain⟨q,rfl⟩:∃ n:Nat,q=n:=⟨q.toNat,by rcases hq with z | z | z<;>omega⟩;refine⟨by omega,by omega,λi u=>∃ (al:List (Str×Str)) (ol B:List Str) (r:Sl),u=[.val (.raw (.ref d)),.val (.int a),.val (.int b),.val (.int m),.val (.int g),.val (.int Z),.own (.lst (t.map D.str)),s7,.own (.lst (l.map nX)),L,W,.own (.lst (os.map D.str)),r,.own (.lst (ol.map D.str)),.own (.lst (B.map D.str)),.own (.lst (al.map rO))] /\
   ((al.map λp=>p.1)++ol).Nodup/\((al.map λp=>p.2)++B).Nodup/\(∀ o∈(al.map λp=>p.1)++ol,o∈os)/\(∀ o∈(al.map λp=>p.2)++B,o∈t.take g)/\al.length=i/\ol.length+i=os.length/\B.length+i=(t.take g).length,
   ⟨[],os,t.take g,_,rfl,C,ah,λo v=>v,λo v=>v,rfl,by simp,by simp⟩,?_,?_⟩
  ·rintro i x u U ⟨al,ol,B,r,rfl,O,M,m1,m2,la,lo,li⟩;obtain⟨hi,rfl⟩:=Lc U;rw[cC] at hi;refine⟨rfl,rfl,rfl,rfl,_,rfl,d,c,_,rfl,rfl,(by show (0:Int)<((ol.map D.str).length:Nat);simp;omega),(by show ((ol.map D.str).length:Int)<4611686018427387904;simp;omega),λj hj=>⟨.inr rfl,?_⟩⟩;have Q:j<ol.length:=by have:(j:Int)<((ol.map D.str).length:Nat):=hj;simp at this;omega
   obtain⟨y,hy⟩:∃ y,ol[j]?=some y:=⟨_,aG Q⟩;obtain⟨p1,p2,p3⟩:=J5 hy O;refine⟨j,.str y,by omega,by omega,(by show seqIndex? _ (ol.map D.str).length=_;rw[aA];exact Ik Q),(by show (ol.map D.str)[j]?=_;rw[aX,hy];rfl),?_⟩;refine⟨rfl,rfl,rfl,_,rfl,d,c,_,rfl,rfl,(by show (0:Int)<((B.map D.str).length:Nat);simp;omega),(by show ((B.map D.str).length:Int)<4611686018427387904;simp;omega),λj2 ao=>⟨.inr rfl,?_⟩⟩;have ab:j2<B.length:=by have:(j2:Int)<((B.map D.str).length:Nat):=ao;simp at this;omega
   obtain⟨y2,ag⟩:∃ y,B[j2]?=some y:=⟨_,aG ab⟩;obtain⟨p4,p5,p6⟩:=J5 ag M;refine⟨j2,.str y2,by omega,by omega,(by show seqIndex? _ (B.map D.str).length=_;rw[aA];exact Ik ab),(by show (B.map D.str)[j2]?=_;rw[aX,ag];rfl),(by show 2<=1000;decide),(by show (al.map rO).length<100000;simp;omega),al++[(y,y2)],ol.eraseIdx j,B.eraseIdx j2,.val (.int (0+(i:Int))),?_,by simpa using p1,by simpa using p4,λo v=>m1 o (p2 o (by simpa using v)),λo v=>m2 o (p5 o (by simpa using v)),by simp[la],by omega,by omega⟩;simp[rO,N7]
  ·rintro u ⟨al,ol,B,r,rfl,O,M,m1,m2,la,lo,li⟩;refine hN _ ⟨al,_,_,_,rfl,(bK.mp O).1,(bK.mp M).1,λp hp=>⟨m1 _ (bC _ (aV.mpr ⟨p,hp,rfl⟩)),m2 _ (bC _ (aV.mpr ⟨p,hp,rfl⟩))⟩,?_⟩;rw[la];simp[uB];omega
 rintro u ⟨al,r,ae,ac,rfl,O,M,am,la⟩;have fin:=aj ⟨t.take g,l,os⟩ al ⟨⟨?_,?_,ok,λo v=>?_,C,?_,?_,ol⟩,I,O,M,am,la⟩
 ·unfold rT qW at fin;dsimp only at fin;rw[← Dw] at fin;exact⟨rfl,rfl,rfl,(by show 3<=1000;decide),rfl,(by show 2<=1000;decide),fin⟩
 ·show (t.take g++l.map (·.1)).Nodup;rw[S,gB];exact nd
 ·intro x U;have U:x∈t.take g++l.map (·.1):=U;rw[S,gB] at U;exact gn x U
 ·exact aN _ (I o v)
 ·show (t.take g).length<=6;omega
 ·show l.length<=24;omega
end
end Lw
namespace L2
open PySem PySem.Spec PyProof.Rows Lw
section
variable {X:Cx}{K:mC}
def Oj (K:mC) (neg:Bool):R2:=λx y H Q=>Oh neg x y H Q\/Ll K neg x y H Q
theorem rL (hu:X.A.units+64<cLine):nH X (compareOp .Eq) (Oj X.K false):=(show nH X (compareOp .Eq) (Oh false) from E7).or (M7 hu)
theorem Av (hu:X.A.units+64<cLine):nH X (compareOp .NotEq) (Oj X.K true):=(show nH X (compareOp .NotEq) (Oh true) from RC).or (AI hu)
def Nz (neg:Bool):O2:=λd e Φ=>match d,e with
 | .int i,.int j=>Φ (.val (.bl (nb neg (decide (i=j)))))
 | .str i,.str j=>Φ (.val (.bl (nb neg (decide (i=j)))))
 | .bl i,.bl j=>Φ (.val (.bl (nb neg (decide (i=j)))))
 | .lst xs,.lst []=>Φ (.val (.bl (nb neg xs.isEmpty)))
 | _,_=>False
theorem qD (neg:Bool):pX K (Oj K neg) (Nz neg):=by
 intro B L H d e x y u Q hd h g c k;cases d<;>first | exact False.elim c | skip<;>cases e<;>first | exact False.elim c | skip
 ·cases h;cases g
  rename_i i j
  have f:decide (V.bl i=V.bl j)=decide (i=j):=by simp
  exact .inl ⟨rfl,by rw[f];exact k _ _ H c (hd.pushF (.bl _))⟩
 ·cases h;cases g
  rename_i i j
  have f:decide (V.int i=V.int j)=decide (i=j):=by simp
  exact .inl ⟨rfl,by rw[f];exact k _ _ H c (hd.pushF (.bl _))⟩
 ·cases h;cases g
  rename_i i j
  have f:decide (V.str i=V.str j)=decide (i=j):=by simp
  exact .inl ⟨rfl,by rw[f];exact k _ _ H c (hd.pushF (.bl _))⟩
 ·rename_i o m
  cases m with
  | cons _ _=>exact False.elim c
  | nil =>
  obtain⟨a,l,rfl,t,q⟩:=h.lst_inv;obtain⟨b,v,rfl,r,p⟩:=g.lst_inv;cases p;have f:o.isEmpty=l.isEmpty:=by cases q<;>rfl
  refine .inr ⟨a,b,l,rfl,rfl,mG.of t,mG.of r,?_⟩;rw[← f];exact k _ _ H c (hd.pushF (.bl _))
end
end L2
namespace Lw
open PySem L2
theorem Gp:∀ {gs:yJ}{kn:List Str}{i:Nat}{g:Str×Str×List Str},pB kn gs->gs[i]?=some g->ArOk g.2.1 g.2.2.length/\∀ p∈g.2.2,p∈kn++(gs.take i).map (·.1)
 | a::r,kn,0,g,h,e=>by
  simp at e;subst e;exact⟨h.1,by simpa using h.2.1⟩
 | a::r,kn,i+1,g,h,e=>by
  obtain⟨d,c⟩:=Gp (gs:=r) (i:=i) h.2.2 (by simpa using e);exact⟨d,λp b=>by have:=c p b;simpa using this⟩
def Lx:RD:=λdk ds Φ=>∃ (d c:Addr) (xs:List D),dk=[d,c]/\(ds=[.raw (.ref d),.lst xs]\/ds=[.raw (.ref d),.tup xs])/\xs.length<=1000/\∀ ys,ys.Perm xs->Φ (.val (.lst ys))
def zB (z:Str):List Str:=(Txt.split z " ").filter λx=>nb true (decide (x = ""))
def Pl:RD:=λdk ds Φ=>∃ z:Str,ds=[.str z]/\z.length<=1000/\(Txt.split z " ").length<=1000/\Φ (.own (.lst ((zB z).map D.str)))
structure Kit where
 ins:Str
 gates:List Str
 outs:Str
 pairs:Str
 nums:Str
def tE (k:Kit):D:=.tup [.str k.ins,.lst (k.gates.map D.str),.str k.outs,.str k.pairs,.str k.nums]
def sC:List Kit:=[⟨"a b c",[("s " : Str) ++ "odd a b c",("t " : Str) ++ "most a b c"],"s t","t c","a 1 b 1 s -1 c 1"⟩,⟨"a b c",["n not a","s odd a b c","t most n b c"],"s t","t c","a 1 b -1 s -1 c -1"⟩,⟨"a c",["s odd a c","t and a c"],"s t","t c","a 1 s -1 c 1"⟩,⟨"a c",["s and c c","t and a a"],"s t","t c","a 2 s -1 c 1"⟩,⟨"a",["s not a"],"s","","a 1 s 1 - -1"⟩,⟨"a b c",[("s " : Str) ++ "odd a b c",("t " : Str) ++ "most a b c"],"s t","","a 1 b 1 c 1 s -1 t -2"⟩,⟨"a c d",["s odd a d c","t most a d c","e and a a"],"s t e","t c e d","a 3 s -1 c 1 d 1"⟩,⟨"a b x c d",["s odd a b c","t most a b c","z odd s x d","u most s x d"],"z t u","t c u d","a 1 b 1 x 1 z -1 c 1 d 1"⟩,⟨"a",["s nil","t or a s"],"s t","","s 5 a -2 t 2"⟩,⟨"a b",["s and a b","t or a b"],"s t","","a 1 b 1 s -1 t -1"⟩]
def uP:D:=.tup [.str "odd a b c",.str "most a b c"]
def Ua:RD:=λdk ds Φ=>∃ d c:Addr,dk=[d,c]/\ds=[.raw (.ref d)]/\∀ k∈sC,Φ (.val (tE k))
theorem MX:(["word"]:List Str).Nodup:=by decide +kernel
section
variable {P:Program}{K:mC}
theorem Ob:FnScope ["deck","some","left","found"] ["deck","some"] (nF Ch):=oW
theorem Zs (F:Fun K "_law_shuffled" "_law_shuffled" Ch f fd) (T:Txt mg) (mN:Gd K mg "_law_take" wW ["deck","many"] fT fdT) (oM:FnOk P w K mg base mJ 1 fT fdT ["deck","many"] (mQ K yD)) :
  FnOk P w K mg base mJ 2 f fd ["deck","some"] (mQ K Lx):=by
 refine F.okD (k:=1) Ob (λQ B C ⟨_,_,_,_,e,_⟩=>by rcases e with e | e<;>(rw[e];rfl)) (by decide) λS A t s H E Q B C v O=>?_
 have U:=oX v;obtain⟨d,c,o,rfl,e,V,u⟩:=O;obtain⟨x,rfl,I⟩:∃ x,B=[.raw (.ref d),x]/\(x = .lst o\/x = .tup o):=by
  rcases e with e | e
  ·exact⟨_,e,.inl rfl⟩
  ·exact⟨_,e,.inr rfl⟩
 refine⟨_,(mF (mY (i:=2) Ob.nd rfl (Or.inl rfl) (pC J4 Od (by rfl) T.list kB (aD (eA 1 (pv 1)) gV))) (mF (mY (i:=3) Ob.nd rfl (Or.inl rfl) (nN gV)) (mF (Pe bM (qZ (Av v.units) (qD true) (pv 2) (nN gV)) (mW (rW (qX bG bN bO rQ sU (pv 3) (aD (qX bG gZ hJ Dt Hi (pv 2) (aD (mV oM (v.mono (by decide)) (by rfl) mN.m mN.k mN.b (aD (eA 0 (pv 0)) (aD (oF qQ qR (by rfl) T.len bP (tH (pv 2) gV)) gV))) gV)) gV))))) (mW (nQ (eA 3 (pv 3))))))),?_⟩;refine mK (λg=>g=[.val (.raw (.ref d)),.val x,.own (.lst o),.no]) (λN r=>?_) ?_
 ·rcases I with rfl | rfl
  ·exact⟨_,rfl,r _ rfl⟩
  ·exact⟨_,rfl,r _ rfl⟩
 rintro _ rfl;refine⟨by show 0<=1000;decide,?_⟩;dsimp only;refine mK (λg=>∃ (q:List D),g=[.val (.raw (.ref d)),.val x,.own (.lst []),.own (.lst q)]/\q.Perm o) (λN r=>?_) ?_
 ·refine⟨λg=>∃ left found:List D,g=[.val (.raw (.ref d)),.val x,.own (.lst left),.own (.lst found)]/\(found++left).Perm o,λ(g:List Sl)=>match g[2]? with | some (Sl.own (D.lst l))=>l.length | _=>0,⟨o,[],rfl,.refl _⟩,?_⟩;rintro g ⟨left,found,rfl,p⟩;have h:=p.length_eq;rw[aH] at h;refine⟨rfl,by show 0<=1000;decide,?_⟩;cases left with
  | nil=>exact r _ ⟨found,rfl,by simpa using p⟩
  | cons x left =>
   rw[bX] at h;refine⟨rfl,rfl,rfl,rfl,_,rfl,d,c,_,rfl,rfl,by show (0:Int)<((x::left).length:Nat);simp only[bX];omega,by show ((x::left).length:Int)<4611686018427387904;simp only[bX];omega,λj M=>⟨.inr rfl,?_⟩⟩;have a:j<(x::left).length:=by have:(j:Int)<((x::left).length:Nat):=M;omega
   obtain⟨y,z⟩:∃ y,(x::left)[j]?=some y:=⟨_,aG a⟩;have L:=List.length_eraseIdx_of_lt a;refine⟨j,y,by simp only[bX] at a;omega,by simp only[bX] at a;omega,Ik a,z,by show found.length<100000;omega,⟨(x::left).eraseIdx j,found++[y],rfl,?_⟩,?_⟩
   ·rw[bJ];exact ((Mh z).symm.append_left found).trans p
   ·show ((x::left).eraseIdx j).length<(x::left).length;omega
 ·rintro g ⟨q,rfl,p⟩;exact u q p
theorem RX:FnScope ["text"] ["text"] (nF F2):=oW
theorem NE (F:Fun K "_law_words" "_law_words" F2 f fd) (T:Txt mg):FnOk P w K mg base mJ 1 f fd ["text"] (mQ K Pl):=by
 refine F.okD (k:=0) RX (λr p d ⟨_,e,_⟩=>by rw[e];rfl) (by decide) λt A a s H E r p d c j=>?_
 have y:=oX c;obtain⟨z,rfl,B,g,b⟩:=j;refine⟨_,(mW (nQ (pP ["word"] [] [] rfl (nS (LA PySem.F.plainAttrs_str iQ PySem.F.type_str_split Z6 Zp (pv 0) (aD mS gV))) rfl rfl (λ_ _ _ _ _=>(mM (i:=0) MX rfl (Or.inl rfl))) (λ_ _ _ _ _=>(xE (qZ (Av c.units) (qD true) (pv 0) mS))) (λ_ _ _ _ _=>(eA 0 (pv 0)))))),?_⟩;refine xV (Txt.split z " ") D.str D.str (λx=>nb true (decide (x = ""))) [.val (.str z)] (λu h=>⟨rfl,by decide,by omega,h⟩) ?_ (λi x v C e o m l=>⟨rfl,?_⟩) b
 ·omega
 ·show if (nb true (decide (x = "")))=true then _ else _
  cases q:decide (x = "") with
  | true=>exact l (by rw[q];rfl)
  | false=>exact⟨o,m (by rw[q];rfl)⟩
theorem C6:FnScope ["deck","adder","some","more"] ["deck"] (nF F6):=oW
theorem JH (F:Fun K "_law_kit" "_law_kit" F6 f fd) (T:Txt mg) (mN:Gd K mg "_law_take" wW ["deck","many"] fT fdT) (oM:FnOk P w K mg base mJ 1 fT fdT ["deck","many"] (mQ K yD)) :
  FnOk P w K mg base mJ 2 f fd ["deck"] (mQ K Ua):=by
 refine F.okD (k:=1) C6 (λy x t ⟨_,_,_,e,_⟩=>by rw[e];rfl) (by decide) λz A j s H E y x t p v=>?_
 have h:=oX p;obtain⟨d,c,rfl,rfl,l⟩:=v;refine⟨_,(mF (mY (i:=1) C6.nd rfl (Or.inl rfl) (oS (aD mS (aD mS gV)))) (mF (mY (i:=2) C6.nd rfl (Or.inl rfl) (nN (aD (oS (aD mS (aD (nN (aD (nZ nT nU mS (mP h (pv 1) kD)) (aD (nZ nT nU mS (mP h (pv 1) kD)) gV))) (aD mS (aD mS (aD mS gV)))))) gV))) (mF (rW (qX bG bN bO rQ sU (pv 2) (aD (oS (aD mS (aD (nN (aD mS (aD mS (aD mS gV)))) (aD mS (aD mS (aD mS gV)))))) gV))) (mF (rW (qX bG bN bO rQ sU (pv 2) (aD (oS (aD mS (aD (nN (aD mS (aD mS gV))) (aD mS (aD mS (aD mS gV)))))) gV))) (mF (rW (qX bG bN bO rQ sU (pv 2) (aD (oS (aD mS (aD (nN (aD mS (aD mS gV))) (aD mS (aD mS (aD mS gV)))))) gV))) (mF (rW (qX bG bN bO rQ sU (pv 2) (aD (oS (aD mS (aD (nN (aD mS gV)) (aD mS (aD mS (aD mS gV)))))) gV))) (mF (rW (qX bG bN bO rQ sU (pv 2) (aD (oS (aD mS (aD (nN (aD (nZ nT nU mS (mP h (pv 1) kD)) (aD (nZ nT nU mS (mP h (pv 1) kD)) gV))) (aD mS (aD mS (aD mS gV)))))) gV))) (mF (mY (i:=3) C6.nd rfl (Or.inl rfl) (nN (aD mS (aD mS (aD mS gV))))) (mF (rW (qX bG bN bO rQ sU (pv 2) (aD (oS (aD mS (aD (eA 3 (pv 3)) (aD mS (aD mS (aD mS gV)))))) gV))) (mF (mY (i:=3) C6.nd rfl (Or.inl rfl) (nN (aD mS (aD mS (aD mS (aD mS gV)))))) (mF (rW (qX bG bN bO rQ sU (pv 2) (aD (oS (aD mS (aD (eA 3 (pv 3)) (aD mS (aD mS (aD mS gV)))))) gV))) (mF (rW (qX bG bN bO rQ sU (pv 2) (aD (oS (aD mS (aD (nN (aD mS (aD mS gV))) (aD mS (aD mS (aD mS gV)))))) gV))) (mF (rW (qX bG bN bO rQ sU (pv 2) (aD (oS (aD mS (aD (nN (aD mS (aD mS gV))) (aD mS (aD mS (aD mS gV)))))) gV))) (mW (nQ (mP h (pv 2) (mV oM (p.mono (by decide)) (by rfl) mN.m mN.k mN.b (aD (eA 0 (pv 0)) (aD kD gV))))))))))))))))))),?_⟩;refine mK (λa=>a=[.val (.raw (.ref d)),.val uP,.no,.no]) (λN g=>⟨(by show 2<=1000;decide),g _ rfl⟩) ?_;rintro _ rfl;refine mK (λa=>a=[.val (.raw (.ref d)),.val uP,.own (.lst ((sC.take 1).map tE)),.no]) (λN g=>⟨rfl,_,rfl,(by decide +kernel),rfl,_,rfl,(by decide +kernel),(by show 2<=1000;decide),(by show 5<=1000;decide),(by show 1<=1000;decide),g _ rfl⟩) ?_;rintro _ rfl;refine mK (λa=>a=[.val (.raw (.ref d)),.val uP,.own (.lst ((sC.take 2).map tE)),.no]) (λN g=>⟨rfl,(by show 3<=1000;decide),(by show 5<=1000;decide),(by show 1<100000;decide),g _ rfl⟩) ?_;rintro _ rfl;refine mK (λa=>a=[.val (.raw (.ref d)),.val uP,.own (.lst ((sC.take 3).map tE)),.no]) (λN g=>⟨rfl,(by show 2<=1000;decide),(by show 5<=1000;decide),(by show 2<100000;decide),g _ rfl⟩) ?_;rintro _ rfl;refine mK (λa=>a=[.val (.raw (.ref d)),.val uP,.own (.lst ((sC.take 4).map tE)),.no]) (λN g=>⟨rfl,(by show 2<=1000;decide),(by show 5<=1000;decide),(by show 3<100000;decide),g _ rfl⟩) ?_;rintro _ rfl;refine mK (λa=>a=[.val (.raw (.ref d)),.val uP,.own (.lst ((sC.take 5).map tE)),.no]) (λN g=>⟨rfl,(by show 1<=1000;decide),(by show 5<=1000;decide),(by show 4<100000;decide),g _ rfl⟩) ?_;rintro _ rfl;refine mK (λa=>a=[.val (.raw (.ref d)),.val uP,.own (.lst ((sC.take 6).map tE)),.no]) (λN g=>⟨rfl,rfl,_,rfl,(by decide +kernel),rfl,_,rfl,(by decide +kernel),(by show 2<=1000;decide),(by show 5<=1000;decide),(by show 5<100000;decide),g _ rfl⟩) ?_;rintro _ rfl;refine mK (λa=>a=[.val (.raw (.ref d)),.val uP,.own (.lst ((sC.take 6).map tE)),.own (.lst [.str "s odd a d c",.str "t most a d c",.str "e and a a"])]) (λN g=>⟨(by show 3<=1000;decide),g _ rfl⟩) ?_;rintro _ rfl;refine mK (λa=>a=[.val (.raw (.ref d)),.val uP,.own (.lst ((sC.take 7).map tE)),.val (.lst [.str "s odd a d c",.str "t most a d c",.str "e and a a"])]) (λN g=>⟨rfl,(by show 5<=1000;decide),(by show 6<100000;decide),g _ rfl⟩) ?_;rintro _ rfl;refine mK (λa=>a=[.val (.raw (.ref d)),.val uP,.own (.lst ((sC.take 7).map tE)),.own (.lst [.str "s odd a b c",.str "t most a b c",.str "z odd s x d",.str "u most s x d"])]) (λN g=>⟨(by show 4<=1000;decide),g _ rfl⟩) ?_;rintro _ rfl;refine mK (λa=>a=[.val (.raw (.ref d)),.val uP,.own (.lst ((sC.take 8).map tE)),.val (.lst [.str "s odd a b c",.str "t most a b c",.str "z odd s x d",.str "u most s x d"])]) (λN g=>⟨rfl,(by show 5<=1000;decide),(by show 7<100000;decide),g _ rfl⟩) ?_;rintro _ rfl;refine mK (λa=>a=[.val (.raw (.ref d)),.val uP,.own (.lst ((sC.take 9).map tE)),.val (.lst [.str "s odd a b c",.str "t most a b c",.str "z odd s x d",.str "u most s x d"])]) (λN g=>⟨rfl,(by show 2<=1000;decide),(by show 5<=1000;decide),(by show 8<100000;decide),g _ rfl⟩) ?_;rintro _ rfl;refine mK (λa=>a=[.val (.raw (.ref d)),.val uP,.own (.lst ((sC.take 10).map tE)),.val (.lst [.str "s odd a b c",.str "t most a b c",.str "z odd s x d",.str "u most s x d"])]) (λN g=>⟨rfl,(by show 2<=1000;decide),(by show 5<=1000;decide),(by show 9<100000;decide),g _ rfl⟩) ?_;rintro _ rfl;refine⟨rfl,d,c,10,rfl,rfl,by decide,by decide,λr u=>⟨.inl rfl,?_⟩⟩;have o:r<10:=by omega
 obtain⟨k,q⟩:∃ k,sC[r]?=some k:=⟨_,aG (by show r<10;exact o)⟩;refine⟨tE k,?_,l k (aI q)⟩;exact qG (by rw[aX,bR (by decide),q];rfl)
end
def oJ (l:List Str):Str×Str×List Str:=(l.headD "",(l.drop 1).headD "",l.drop 2)
def L7 (w:Str) (n:Nat):Bool:=(decide (w∈uX)&&(n == 2||n == 3))||((w == "most")&&(n == 3))||((w == "not")&&(n == 1))||((w == "one")&&(n == 0))||((w == "nil")&&(n == 0))
theorem DX (h:L7 w n=true):ArOk w n:=by
 unfold L7 at h;simp only[lX,cE,dZ,jB] at h;rcases h with (((h | h) | h) | h) | h
 ·exact⟨.inl h⟩
 ·exact⟨.inr (.inl h)⟩
 ·exact⟨.inr (.inr (.inl h))⟩
 ·exact⟨.inr (.inr (.inr (.inl h)))⟩
 ·exact⟨.inr (.inr (.inr (.inr h)))⟩
def Hv:List Str->yJ->Bool
 | _,[]=>true
 | kn,g::r=>L7 g.2.1 g.2.2.length&&(g.2.2.all (λp=>decide (p∈kn))&&Hv (kn++[g.1]) r)
theorem Sf:∀ {gs:yJ}{kn:List Str},Hv kn gs=true->pB kn gs
 | [],_,_=>trivial
 | g::r,kn,h=>by
  unfold Hv at h;simp only[cE,cG,dZ] at h;exact⟨DX h.1,h.2.1,Sf h.2.2⟩
theorem pB.more:∀ {gs:yJ}{kn kn':List Str},(∀ x∈kn,x∈kn')->pB kn gs->pB kn' gs
 | [],_,_,_,_=>trivial
 | g::r,kn,kn',h,ok=>⟨ok.1,λp b=>h p (ok.2.1 p b),pB.more (λx a=>by
  rcases aR.mp a with q | q
  ·exact bC _ (h x q)
  ·exact aN _ q) ok.2.2⟩
def ren (f:Str->Str) (g:Str×Str×List Str):Str×Str×List Str:=(f g.1,g.2.1,g.2.2.map f)
theorem pB.ren (f:Str->Str):∀ {gs:yJ}{kn:List Str},pB kn gs->pB (kn.map f) (gs.map (Lw.ren f))
 | [],_,_=>trivial
 | g::r,kn,ok=>by
  refine⟨by show ArOk g.2.1 (g.2.2.map f).length;rw[aA];exact ok.1,λp b=>?_,?_⟩
  ·obtain⟨q,a,rfl⟩:=aV.mp b;exact aV.mpr ⟨q,ok.2.1 q a,rfl⟩
  ·have:=pB.ren f ok.2.2;rw[aJ] at this;exact this
theorem pB.app:∀ {gs hs:yJ}{kn:List Str},pB kn gs->pB (kn++gs.map (·.1)) hs->pB kn (gs++hs)
 | [],hs,kn,_,h=>by simpa using h
 | g::r,hs,kn,ok,h=>⟨ok.1,ok.2.1,pB.app ok.2.2 (by simpa using h)⟩
def kI (k:Kit):List Str:=zB k.ins
def kO (k:Kit):List Str:=zB k.outs
def kP (k:Kit):List Str:=zB k.pairs
def kN (k:Kit):List Str:=zB k.nums
def kG (k:Kit):List (List Str):=k.gates.map zB
def kH (k:Kit):List Str:=(kG k).map λl=>(oJ l).1
def Qz (k:Kit):Bool :=
 (k.ins::k.outs::k.pairs::k.nums::k.gates).all (λz=>decide (z.length<=1000)&&decide ((Txt.split z " ").length<=1000)) &&
 ((kG k).all (λl=>decide (2<=l.length)) && (decide ((kI k++kH k).Nodup) && ((kI k++kH k).all (λx=>decide (x.length=1)&&decide (x ≠ "-")) && (Hv (kI k) ((kG k).map oJ) && ((kO k).all (λo=>decide (o∈kH k)) && (decide (kO k).Nodup && (decide ((kP k).length%2=0) && ((pQ (kP k)).all (λp=>decide (p.1∈kO k)&&decide (p.2∈kI k)) && (decide ((pQ (kP k)).map (·.1)).Nodup && (decide ((pQ (kP k)).map (·.2)).Nodup && (decide ((kN k).length%2=0) && ((pQ (kN k)).all (λp=>(decide (p.1∈kI k++kH k)||decide (p.1 = "-"))&&((intText? p.2).isSome&&decide (p.2.length<=640))) && (decide ((kI k).length<=5)&&(decide ((kG k).length<=4)&&(decide ((kO k).length<=3)&&(decide ((kP k).length<=8)&&decide ((kN k).length<=100)))))))))))))))))
structure KitOk (k:Kit):Prop where
 tx:∀ z∈k.ins::k.outs::k.pairs::k.nums::k.gates,z.length<=1000/\(Txt.split z " ").length<=1000
 g2:∀ l∈kG k,2<=l.length
 nd:(kI k++kH k).Nodup
 one:∀ x∈kI k++kH k,x.length=1/\x ≠ "-"
 gt:pB (kI k) ((kG k).map oJ)
 oh:∀ o∈kO k,o∈kH k
 ond:(kO k).Nodup
 pe:(kP k).length%2=0
 pm:∀ p∈pQ (kP k),p.1∈kO k/\p.2∈kI k
 p1:((pQ (kP k)).map (·.1)).Nodup
 p2:((pQ (kP k)).map (·.2)).Nodup
 ne:(kN k).length%2=0
 nm:∀ p∈pQ (kN k),(p.1∈kI k++kH k\/p.1 = "-")/\(intText? p.2).isSome=true/\p.2.length<=640
 li:(kI k).length<=5
 lg:(kG k).length<=4
 lo:(kO k).length<=3
 lp:(kP k).length<=8
 ln:(kN k).length<=100
theorem MH:sC.all Qz=true:=by decide +kernel
theorem CQ (h:k∈sC):KitOk k:=by
 have:=cG.mp MH k h;unfold Qz at this;simp only[cE,cG,dZ,lX] at this;obtain⟨v,u,t,r,q,p,o,m,l,j,i,g,f,e,d,c,b,a⟩:=this;exact⟨v,u,t,r,Sf q,p,o,m,l,j,i,g,f,e,d,c,b,a⟩
def pJ (i:Nat):Str:=("i" : Str)++((toString ((0:Int)+(i:Int)):String):Str)
def rJ (w0:Str) (i:Nat):List Str:=if i=0 then [pJ 0,w0] else [pJ i,"not",pJ 0]
theorem Fl:∀ i<19,(pJ i).length≠1/\pJ i ≠ "-" /\ ∀ j<19,pJ i=pJ j->i=j:=by decide +kernel
theorem Ub (w0:Str) (i:Nat):(oJ (rJ w0 i)).1=pJ i:=by
 unfold rJ;split
 ·subst_vars;rfl
 ·rfl
theorem OH (w0:Str) (i:Nat):2<=(rJ w0 i).length:=by unfold rJ;split<;>simp
theorem V6 {w0:Str}(h:w0 = "one" \/ w0 = "nil") (kn:List Str):∀ n,pB kn (((List.range n).map (rJ w0)).map oJ)
 | 0=>trivial
 | n+1=>by
  rw[lZ,aJ,aJ];refine pB.snoc (V6 h kn n) ?_ ?_
  ·by_cases e:n=0
   ·subst e;rcases h with rfl | rfl
    ·exact⟨.inr (.inr (.inr (.inl ⟨rfl,rfl⟩)))⟩
    ·exact⟨.inr (.inr (.inr (.inr ⟨rfl,rfl⟩)))⟩
   ·unfold rJ;rw[aM e];exact⟨.inr (.inr (.inl ⟨rfl,rfl⟩))⟩
  ·intro p a;by_cases e:n=0
   ·subst e;simp[oJ,rJ] at a
   ·have b:p=pJ 0:=by
     unfold rJ at a;rw[aM e] at a
     simpa [oJ] using a
    subst b;refine aN _ ?_;rw[aQ,aQ];refine aV.mpr ⟨0,eD.mpr (by omega),Ub w0 0⟩
def pE (l:List Str):D:=.lst (l.map D.str)
theorem zJ (h:x∈t.map (·.1)):yA (.dK (oE t)) (.str x)=some (some (.str (mU t x))):=by
 show some (mZ (oE t) (Sum.inr x))=_;rw[(N5 t x).1 h]
theorem M0 {l:List Str}(h:2<=l.length):oZ (l.map D.str) 0=some (.str (oJ l).1)/\oZ (l.map D.str) 1=some (.str (oJ l).2.1):=by
 match l,h with
 | a::b::r,_ =>
  constructor
  ·exact qG (j:=0) rfl
  ·exact qG (j:=1) rfl
theorem Q1:∀ {xs:List Str}{ys:List D},ys.Perm (xs.map D.str)->∃ zs:List Str,zs.Perm xs/\ys=zs.map D.str:=by
 intro xs ys h;have key:∀ (ys:List D),(∀ y∈ys,∃ x:Str,y=D.str x)->∃ zs:List Str,ys=zs.map D.str:=by
  intro ys;induction ys with
  | nil=>exact λ_=>⟨[],rfl⟩
  | cons y ys a =>
   intro h;obtain⟨x,rfl⟩:=h y aK;obtain⟨zs,rfl⟩:=a λz b=>h z (aT _ b)
   exact⟨x::zs,rfl⟩
 obtain⟨zs,rfl⟩:=key ys λy c=>by
  obtain⟨x,_,rfl⟩:=aV.mp (h.mem_iff.mp c);exact⟨x,rfl⟩
 refine⟨zs,?_,rfl⟩;have:=h.map (λd=>match d with | D.str x=>x | _=>("" : Str))
 simpa [iF] using this
theorem Rb (h:ys.Perm (xs.map rO)):∃ zs:List (Str×Str),zs.Perm xs/\ys=zs.map rO:=by
 have key:∀ (ys:List D),(∀ y∈ys,∃ x:Str×Str,y=rO x)->∃ zs:List (Str×Str),ys=zs.map rO:=by
  intro ys;induction ys with
  | nil=>exact λ_=>⟨[],rfl⟩
  | cons y ys a =>
   intro h;obtain⟨x,rfl⟩:=h y aK;obtain⟨zs,rfl⟩:=a λz b=>h z (aT _ b)
   exact⟨x::zs,rfl⟩
 obtain⟨zs,rfl⟩:=key ys λy c=>by
  obtain⟨x,_,rfl⟩:=aV.mp (h.mem_iff.mp c);exact⟨x,rfl⟩
 refine⟨zs,?_,rfl⟩;have:=h.map (λd=>match d with | D.tup [D.str x,D.str y]=>(x,y) | _=>(("" : Str),("" : Str)))
 simpa [iF,rO] using this
theorem NO (l:List α) (d:α) (h:α->β):(List.range l.length).map (λi=>h (l.getD i d))=l.map h:=by
 apply iZ;intro i;rw[aX,aX];by_cases a:i<l.length
 ·rw[List.getElem?_range a,aG a];simp[List.getD,aG a]
 ·rw[fZ (by simpa using a),fZ (by omega)];rfl
theorem KG (f:Nat->D) (n:Nat):oY ((List.range n).map f) (some (-1)) none=if n=0 then [] else [f (n-1)]:=by
 unfold oY;rw[HT.sIx_none,aA,cU];have e:HT.sIx n 0 (some (-1))=n-1:=by
  show (if (-1:Int)<0 then ((-1:Int)+(n:Int)).toNat else min (-1:Int).toNat n)=n-1;rw[aP (by decide)];omega
 rw[e];split
 ·subst_vars;rfl
 ·obtain⟨m,rfl⟩:∃ m,n=m+1:=⟨n-1,by omega⟩;rw[lZ,aJ,Nat.add_sub_cancel,List.drop_left' (by simp)];simp
theorem U4:∀ i<19,((0:Int)+(i:Nat)).natAbs.log2<1920/\("i" : Str).length+((toString ((0:Int)+(i:Nat)):String):Str).length<=100000:=by decide +kernel
theorem Ij {n:Nat}{caps:List Nat}{g:vA}{te:nI}{dk:List Addr}{Φ:Sl->List Sl->Prop}{α:Type}(xs:List α) (enc out:α->D) (ρ1:List Sl) (hl:xs.length<=100000)
  (hs:∀ (i:Nat) x (ys:List D) (Nx:List D->List Sl->Prop),xs[i]?=some x->ys.length<100000->Nx (ys++[out x]) (oQ caps ρ1)->g (enc x) (List.replicate n Sl.no++oQ caps ρ1) λρ2=>te dk ρ2 λr ρ4=>match sd r with
   | some c=>ys.length<100000/\Nx (ys++[c]) (ρ4.drop n)
   | none=>False)
  (hΦ:Φ (.own (.lst (xs.map out))) (pS caps (oQ caps ρ1) ρ1)):∃ Pv:Nat->List D->List Sl->Prop,Pv 0 [] (oQ caps ρ1) /\
   (∀ i d ys cs,(xs.map enc)[i]?=some d->cs.length=caps.length->Pv i ys cs->g d (List.replicate n Sl.no++cs) λρ2=>Km dk ρ2 λb ρ3=>if b=true then te dk ρ3 λr ρ4=>match sd r with
    | some c=>ys.length<100000/\Pv (i+1) (ys++[c]) (ρ4.drop n)
    | none=>False
    else Pv (i+1) ys (ρ3.drop n)) /\
   ∀ ys cs,cs.length=caps.length->Pv (xs.map enc).length ys cs->Φ (.own (.lst ys)) (pS caps cs ρ1) :=
 pZ (ι:=λ_ _ a=>a (xs.map enc) ρ1) (dk:=dk) (ρ:=[]) xs enc out ρ1 (λa h=>h) hl hs hΦ
end Lw
namespace L2
open PySem PySem.Spec PyProof.Rows Lw
def Q7:RM:=λx xs H Q=>∃ (a b:Addr) (kvs more:List (hI×V)),x = .ref a/\xs=[.ref b]/\a≠b/\H a=some (.dK kvs)/\H b=some (.dK more)/\kvs.length+more.length<=1000/\Q .non (upd H a (.dK (sL kvs more)))
section
variable {X:Cx}{K:mC}
theorem Qk:wO X "dict.update" Q7:=by
 intro k s N H x T v U Q I z B h;obtain⟨a,b,c,more,rfl,rfl,ne,l,E,Y,q⟩:=h;cases z;obtain⟨u,rfl,C⟩:=rR B;cases C;obtain⟨S,y,d,j,m⟩:=Cy I.hok l;obtain⟨O,t,f,i,M⟩:=Cy I.hok E;have W:c.length=d.length:=eX j;have V:more.length=f.length:=eX i;have g:d.length+f.length<=sizeLine:=bY (show _<=1000 by omega) (by decide);refine call_meetsIn F.slot_dict_update m.typeIs F.entry_dict_update (F.args_dict_update_2 _ _) (meets_dict_update (qC X.prog X.w) a b ne t) ⟨d,f,m,M,g,λL d1 _ r=>?_⟩;have p:(sL c more).length<=sizeLine:=by
  have:=Gm more c;exact bY (show (sL c more).length<=1000 by omega) (by decide)
 have there:∃ o,L.get? a=some o:=let ⟨o,_,_,e,_⟩:=d1;⟨o,e⟩;exact⟨.non,_,Nc I (by rw[l];exact True.intro) r there (Ed p y (i.merge j) d1),rfl,q⟩
def Yy:OW:=λc ds Φ=>match c,ds with
 | .dK xs,[.dK ys]=>xs.length+ys.length<=1000/\Φ .non (.dK (qJ xs ys))
 | _,_=>False
theorem Qb:Dh K Q7 Yy:=by
 intro A H a c F E C Q t l rd f k;cases c<;>first | exact False.elim f | skip
 cases rd with
 | nil=>exact False.elim f
 | cons o rd =>
 rename_i d _ _ _
 cases d<;>first | exact False.elim f | skip
 cases rd with
 | cons _ _=>exact False.elim f
 | nil =>
 ·obtain⟨i,h,e,r⟩:=l
  ·obtain⟨b,g,rfl,y,B,j,m⟩:=o.dK_inv;have v:=cV List.length e;have u:=cV List.length j;simp only[aA] at v u;refine⟨a,b,i,g,rfl,rfl,λz=>t (z▸y),h,B,by have:=f.1;omega,k _ _ _ _ f.2 .non λI x=>?_⟩;obtain⟨q,p⟩:=Ff j m e r;exact⟨_,mT,q,p.mono x⟩
end
end L2
namespace PySem
open PyProof.Rows L2
section
variable {s:Shared}
theorem Pw (calm:A.handled=none) (out:∀ h' e,(∀ b o,s.heap.get? b=some o->h'.get? b=some o)->(∃ o,h'.get? e=some o/\o.cls = .type "StopIteration")->E (.ref e) { s with heap:=h' }) :
  wpAny (model prog w) A (do raiseNew (← newExc (.type "StopIteration") [])) Q E s:=by
 have a:firstArgMember (.type "StopIteration") []=pure Value.none:=by first | rfl | (simp only[firstArgMember];rfl)
 have made:wpAny (model prog w) A (newExc (.type "StopIteration") []) (λv c=>∃ e h',v = .ref e/\c={ s with heap:=h' }/\(∀ b o,s.heap.get? b=some o->h'.get? b=some o)/\∃ o,h'.get? e=some o/\o.cls = .type "StopIteration") E s:=by
  unfold newExc newTuple;refine aB (eZ ?_ (by size_fits));refine aB (iM a ?_);exact eZ ⟨_,_,rfl,rfl,λb o z=>aE _ (aE _ z),_,bB _ rfl,rfl⟩ (by size_fits)
 refine aB (cL made (λv c ⟨e,h',d,f,k,t⟩=>?_) λ_ _ z=>z);subst d f;unfold raiseNew;refine aB (wpAny_handled ?_);rw[calm];exact aB (aF (wpAny_throw (out h' e k t)))
theorem P9 (x:s.heap.IsTupleIter it t i):∃ o,s.heap.get? it=some o/\o.data = .fields #[.ref t,.int i 0]/\s.TypeIs (.ref it) "tuple_iterator" /\ o.cls = .type "tuple_iterator" := by
 obtain⟨o,a,b,c⟩:=x;exact⟨o,a,c,⟨o,a,b⟩,b⟩
theorem IH {h:Heap}{it t:Addr}{i:Nat}{o:Obj}(a:h.get? it=some o) (b:o.cls = .type "tuple_iterator") (c:o.data = .fields #[.ref t,.int i 0]):(h.update it (Obj.mapFields (·.setIfInBounds 1 (rawInt ((i:Int)+1))))).IsTupleIter it t (i+1):=by
 refine⟨_,kF _ a (Obj.isFreed_of_fields (jQ c _)),?_,?_⟩
 ·rw[Obj.cls_mapFields];exact b
 ·rw[jQ c];simp[rawInt]
end
structure RawD (h:Heap) (d:Addr) (o:Obj) (es:Array DictEntry) (ep:Nat):Prop where
 low:(d == sysModules)=false
 get:h.get? d=some o
 ex:o.ExactDict
 dat:o.data = .dict es ep
section
variable {s:Shared}
theorem RawD.ty (r:RawD s.heap d o es ep):s.TypeIs (.ref d) "dict" := ⟨o,r.get,r.ex.1⟩
theorem Kq (r:RawD s.heap d o es ep) (q:Q (.ref s.heap.objs.size) { s with heap:=s.heap.push { cls:=.type "dict_keyiterator",data:=.fields #[.ref d,.int 0 0,.int es.size 0,.int ep 0] } }) :
  wpAny (model prog w) A (pyIter (.ref d)) Q E s:=by
 have fresh:∀ h:Heap,h=s.heap.push { cls:=.type "dict_keyiterator",data:=.fields #[.ref d,rawInt 0,rawInt es.size,rawInt ep] }->Shared.TypeIs { s with heap:=h } (.ref s.heap.objs.size) "dict_keyiterator" := λh e=>by
  subst e;exact⟨_,bB _ rfl,rfl⟩
 have body:wpAny (model prog w) A.in1 (Builtin.«dict.__iter__» ⟨[.ref d],[]⟩) (λr b=>r = .done (.ret (.ref s.heap.objs.size))/\b={ s with heap:=s.heap.push { cls:=.type "dict_keyiterator",data:=.fields #[.ref d,rawInt 0,rawInt es.size,rawInt ep] } }) E s:=by
  have self:wpAny (model prog w) A.in1 (Builtin.Dict.dictSlotNone "__iter__" ⟨[.ref d],[]⟩) (λv b=>v = .ref d/\b=s) E s:=aB (kK r.ty (aF ⟨rfl,rfl⟩));refine aB (cL self (λv b ⟨f,c⟩=>?_) λ_ _ z=>z);subst f c;have a:Builtin.Dict.showsAll d=pure ():=by unfold Builtin.Dict.showsAll;simp[r.low]
  refine aB (iM (show Builtin.Dict.addrOf (.ref d)=pure d from rfl) (aB (iM a ?_)));exact aB (wpAny_dictEntries r.get r.dat (aB (wpAny_dictEpoch r.get r.dat (aB (eZ (aF ⟨rfl,rfl⟩))))))
 refine wpAny_pyIter_slot r.ty F.slot_dict_iter (cX F.slot_dict_iter r.ty F.entry_dict_iter (cL body (λv b ⟨f,c⟩=>?_) λ_ _ z=>z) (F.args_dict_iter_1 _));subst f c;refine⟨_,rfl,"dict_keyiterator",_,fresh _ rfl,eU.lookup,?_⟩;exact q
theorem Jp (r:RawD s.heap d o es ep) (I:s.heap.IsKeyIter it d i es.size ep) (hi:i<es.size) (q:∀ h',h'.IsKeyIter it d (i+1) es.size ep->Heap.SameBut it s.heap h'->Q (some es[i].key) { s with heap:=h' }) :
  wpAny (model prog w) A (pyNext (.ref it)) Q E s:=by
 obtain⟨u,f,h,e⟩:=id I;have ty:s.TypeIs (.ref it) "dict_keyiterator" := ⟨u,f,h⟩;have plain:Builtin.Dict_items.ownsTuple "dict_keyiterator" = false:=by decide
 have c:∀ {E:Value->Shared->Prop} {b:Shared} {k:Nat->Shared->Prop},b.TypeIs (.ref it) "dict_keyiterator" -> k 0 b->wpAny (model prog w) A.in1 (do return if Builtin.Dict_items.ownsTuple (← typeNameOfWhole (.ref it)) then 2 else 0) k E b:=λt z =>
  aB (wpAny_typeNameOfWhole_keyiter t (by rw[plain];exact aF z))
 let g:=s.heap.update it (Obj.mapFields (·.setIfInBounds 1 (rawInt ((i:Int)+1))));have j:g.IsKeyIter it d (i+1) es.size ep:=by
  refine⟨_,kF _ f (Obj.isFreed_of_fields (jQ e _)),?_,?_⟩
  ·rw[Obj.cls_mapFields];exact h
  ·rw[jQ e];simp[rawInt]
 have body:wpAny (model prog w) A.in1 (Builtin.«dict_keyiterator.__next__» ⟨[.ref it],[]⟩) (λx b=>x = .done (.ret es[i].key)/\b={ s with heap:=g }) (λ_ _=>False) s:=by
  refine aB (aF ?_);refine aB (aB (c ty ?_));refine aB (wpAny_fieldsOf f e ?_);have a:¬ ((Value.ref d == Value.none)=true):=bF;show wpAny _ _ (if (Value.ref d == Value.none)=true then _ else _) _ _ s;rw[aM a];refine aB (aF (aB (wpAny_dictEntries r.get r.dat ?_)));rw[aM (by simp)];refine aB (aF (aB (wpAny_dictEpoch r.get r.dat ?_)));rw[aM (by simp)];refine aF ?_;have row:(if (i:Int)<0 then none else es[(i:Int).toNat]?)=some es[i]:=by
   rw[aM (by omega),cC,cK hi]
  dsimp only;rw[row];refine aB (c ty ?_);refine aB (wpAny_isOneOf_keyiter ty ?_);change wpAny _ _ (setField (.ref it) 1 (rawInt ((i:Int)+1)) >>= _) _ _ s;refine aB (lL f e (by simp) ?_);refine aB (bV (aB (wpAny_isOneOf_keyiter (s:={ s with heap:=g }) j.typeIs ?_)));exact aF (aF ⟨rfl,rfl⟩)
 unfold pyNext;refine aB (gE (cJ (name:=Str.ofString "__next__") ty eU (cX eU ty F.entry_dict_keyiterator_next (cL body (λx b ⟨m,l⟩=>?_) λ_ _ z=>z.elim) (F.args_dict_keyiterator_next_1 _))));subst m l;exact⟨_,rfl,aF (q g j (gR ..))⟩
theorem K6 (calm:A.handled=none) (r:RawD s.heap d o es ep) (I:s.heap.IsKeyIter it d es.size es.size ep) (q:∀ h',Heap.ExtBut it s.heap h'->Q none { s with heap:=h' }) :
  wpAny (model prog w) A (pyNext (.ref it)) Q E s:=by
 obtain⟨u,g,j,h⟩:=id I;have ty:s.TypeIs (.ref it) "dict_keyiterator" := ⟨u,g,j⟩;have plain:Builtin.Dict_items.ownsTuple "dict_keyiterator" = false:=by decide
 have f:∀ {L:Value->Shared->Prop} {c:Shared} {i:Nat->Shared->Prop},c.TypeIs (.ref it) "dict_keyiterator" -> i 0 c->wpAny (model prog w) A.in1 (do return if Builtin.Dict_items.ownsTuple (← typeNameOfWhole (.ref it)) then 2 else 0) i L c:=λt z =>
  aB (wpAny_typeNameOfWhole_keyiter t (by rw[plain];exact aF z))
 have body:wpAny (model prog w) A.in1 (Builtin.«dict_keyiterator.__next__» ⟨[.ref it],[]⟩) (λ_ _=>False) (λv c=>∃ e h',v = .ref e/\c={ s with heap:=h' }/\Heap.ExtBut it s.heap h'/\∃ o,h'.get? e=some o/\o.cls = .type "StopIteration") s:=by
  refine aB (aF ?_);refine aB (aB (f ty ?_));refine aB (wpAny_fieldsOf g h ?_);have a:¬ ((Value.ref d == Value.none)=true):=bF;show wpAny _ _ (if (Value.ref d == Value.none)=true then _ else _) _ _ s;rw[aM a];refine aB (aF (aB (wpAny_dictEntries r.get r.dat ?_)));rw[aM (by simp)];refine aB (aF (aB (wpAny_dictEpoch r.get r.dat ?_)));rw[aM (by simp)];refine aF ?_;have row:(if ((es.size:Nat):Int)<0 then none else es[((es.size:Nat):Int).toNat]?)=none:=by
   rw[aM (by omega),cC,gS (aZ _)]
  dsimp only;rw[row];refine aB (f ty (aB (lL g h (by simp) ?_)));exact Pw calm λh' e k z=>⟨e,h',rfl,rfl,λx o l m=>k x o ((gR ..).extBut x o l m),z⟩
 unfold pyNext;refine aB (gE (cJ (name:=Str.ofString "__next__") ty eU (cX eU ty F.entry_dict_keyiterator_next (cL body (λ_ _ z=>z.elim) λv c ⟨e,h',H,C,B,o,y,p⟩=>?_) (F.args_dict_keyiterator_next_1 _))));subst H C;exact aB (dR (T := "StopIteration") (b:=true) ⟨o,y,p⟩ isSubtype_stop (aF (q h' B)))
end
end PySem
namespace L2
open PySem PySem.Spec PyProof.Rows Lw
structure Sw (H H':Hp) (a:Addr) (kvs:List (List hI×V)):Prop where
 out:∀ b,b≠a->H' b=H b
 l:Rd H a (.dT kvs)
 r:Rd H' a (.dT kvs)
section
theorem Sw.ne (s:Sw H H' a kvs) (h:H b=some u) (n1:∀ xs,u ≠ .dT xs) (n2:∀ o xs,u ≠ .frz o (.dT xs)):b≠a:=λz=>by
 subst z;rcases s.l with q | ⟨o,q⟩<;>rw[q] at h<;>cases h
 ·exact n1 _ rfl
 ·exact n2 _ _ rfl
theorem Sw.get (s:Sw H H' a kvs) (h:H b=some u) (n1:∀ xs,u ≠ .dT xs) (n2:∀ o xs,u ≠ .frz o (.dT xs)):H' b=some u:=by rw[s.out b (s.ne h n1 n2)];exact h
theorem Sw.rd (s:Sw H H' a kvs) (h:Rd H b (.dT xs)):Rd H' b (.dT xs):=by
 by_cases e:b=a
 ·subst e;have:xs=kvs:=by
   rcases h with h | ⟨o,h⟩<;>rcases s.l with q | ⟨c,q⟩<;>rw[q] at h<;>cases h<;>rfl
  rw[this];exact s.r
 ·rcases h with h | ⟨o,h⟩
  ·exact .inl (by rw[s.out b e];exact h)
  ·exact .inr ⟨o,by rw[s.out b e];exact h⟩
theorem Sw.sqF {K:mC}(s:Sw H H' a kvs) (h:xW K H b vs):xW K H' b vs:=by
 rcases h with⟨o,h⟩ | h
 ·exact .inl ⟨o,s.get h (λ_ z=>nomatch z) (λ_ _ z=>nomatch z)⟩
 ·exact .inr h
variable {K:mC}
theorem Rep.sw (s:Sw H H' a kvs) (hA:∀ b,A b->A' b) (h:Rep K A H d v):Rep K A' H' d v :=
 Rep.rec (motive_1:=λd v _=>Rep K A' H' d v) (motive_2:=λg f _=>Reps K A' H' g f) .non .bl .int .str .raw (λh _ r=>.tup (s.get h (λ_ z=>nomatch z) (λ_ _ z=>nomatch z)) r) (λh _ r=>.con h r)
  (λc h _ r=>.lst (hA _ c) (s.get h (λ_ z=>nomatch z) (λ_ _ z=>nomatch z)) r) (λh _ r=>.scr (s.sqF h) r) (λc h e _ r=>.dK (hA _ c) (s.get h (λ_ z=>nomatch z) (λ_ _ z=>nomatch z)) e r) (λc h e _ r=>.dT (hA _ c) (s.rd h) e r) .nil (λ_ _ h r=>.cons h r) h
theorem Reps.sw (s:Sw H H' a kvs) (hA:∀ b,A b->A' b) (h:Reps K A H ds vs):Reps K A' H' ds vs:=by
 induction ds generalizing vs with
 | nil=>cases h;exact .nil
 | cons d ds c=>cases h with | cons g r=>exact .cons (g.sw s hA) (c r)
theorem qA.sw (s:Sw H H' a kvs) (hA:∀ b,A b->A' b) (ne:b≠a):∀ {d:D},qA K A H b d->qA K A' H' b d
 | .lst _,⟨c,h,r⟩=>⟨c,by rw[s.out b ne];exact h,r.sw s hA⟩
 | .dK _,⟨c,h,e,r⟩=>⟨c,by rw[s.out b ne];exact h,e,r.sw s hA⟩
 | .dT _,⟨c,h,e,r⟩=>⟨c,by rw[s.out b ne];exact h,e,r.sw s hA⟩
theorem tD.sw (s:Sw H H' a kvs) (hA:∀ b,A b->A' b) (ne:∀ b,xK (x,y)=some b->b≠a) (h:tD K A H x y):tD K A' H' x y:=by
 cases x with
 | no=>trivial
 | val d=>obtain⟨v,e,r⟩:=h;exact⟨v,e,r.sw s hA⟩
 | own d=>obtain⟨b,e,r⟩:=h;subst e;exact⟨b,rfl,r.sw s hA (ne b rfl)⟩
def qO (B:Bs) (a:Addr) (o:Obj) (kvs:List (List hI×V)):Bs:=⟨B.dk,λb=>B.A0 b\/b=a,λb=>if b=a then some (.frz o (.dT kvs)) else B.H0 b⟩
theorem DS.fz (h:DS K B L H) (s:Sw H H' a kvs) (hk:H' a=some (.frz o (.dT kvs))) (al:Al B (mD L) a):DS K (qO B a o kvs) L H':=by
 refine⟨λb u e n=>?_,h.dk.keep λb c=>s.out b λz=>al.1 (z▸c),h.nd,λb c=>?_,λp d=>?_⟩
 ·by_cases z:b=a
  ·subst z;rw[show (qO B b o kvs).H0 b=some (.frz o (.dT kvs)) from aP rfl] at e;rw[hk];exact e
  ·rw[show (qO B a o kvs).H0 b=B.H0 b from aM z] at e;rw[s.out b z];exact h.fr b u e n
 ·have z:b≠a:=λz=>al.2.1 (z▸c)
  rw[show (qO B a o kvs).H0 b=B.H0 b from aM z];exact h.new b c
 ·refine (h.ok p d).sw s (λb ⟨i,g,f⟩=>⟨i,g,?_⟩) λb c z=>al.2.1 (uR.mpr ⟨p,d,z▸c⟩)
  by_cases z:b=a
  ·exact .inl (.inr z)
  ·refine f.elim (λq=>.inl (.inl q)) λq=>.inr ?_
   rw[show (qO B a o kvs).H0 b=B.H0 b from aM z];exact q
theorem DS.known (h:DS K (qO B a o kvs) L H) (hn:a∉B.dk):H a=some (.frz o (.dT kvs)):=h.fr a _ (aP rfl) hn
theorem DS.th (h:DS K (qO B a o kvs) L H) (s:Sw H H' a kvs) (hn:a∉B.dk) (h0:∀ u,B.H0 a=some u->H' a=some u) (hA:B.A0 a\/B.H0 a=none):DS K B L H':=by
 have d:∀ b∈mD L,b≠a:=λb c z=>by
  have:=(h.new b c).1;rw[z,show (qO B a o kvs).H0 a=some (.frz o (.dT kvs)) from aP rfl] at this;cases this
 refine⟨λb u e n=>?_,h.dk.keep λb c=>s.out b λz=>hn (z▸c),h.nd,λb c=>?_,λp f=>?_⟩
 ·by_cases z:b=a
  ·subst z;exact h0 u e
  ·rw[s.out b z];exact h.fr b u (by rw[show (qO B a o kvs).H0 b=B.H0 b from aM z];exact e) n
 ·have:=h.new b c;rw[show (qO B a o kvs).H0 b=B.H0 b from aM (d b c)] at this;exact this
 ·refine (h.ok p f).sw s (λb ⟨j,i,g⟩=>⟨j,i,?_⟩) λb c z=>d b (uR.mpr ⟨p,f,c⟩) z
  by_cases z:b=a
  ·rw[z];exact hA
  ·refine g.elim (λq=>.inl (q.resolve_right z)) λq=>.inr ?_
   rw[show (qO B a o kvs).H0 b=B.H0 b from aM z] at q;exact q
end
section
variable {X:Cx}
theorem Inv.swapped (I:Inv X pins σ H s) (sw:Sw H H' a kvs) (h0:∀ o u,X.H₀ a≠some (.frz o u)) (ok:oI X.prog X.w H' s.heap a (.dT kvs)->∀ u,H' a=some u->oI X.prog X.w H' s.heap a u):Inv X pins σ H' s:=by
 have d:∀ b,H b=none->H' b=none:=λb e=>by
  rw[sw.out b λz=>by subst z;rcases sw.l with q | ⟨o,q⟩<;>rw[q] at e<;>cases e];exact e
 have tup_at:∀ b g,H b=some (.tup g)->H' b=some (.tup g):=λb g e=>sw.get e (λ_ z=>nomatch z) (λ_ _ z=>nomatch z)
 have f:∀ b y,H b=some (.own y)->H' b=some (.own y):=λb g e=>sw.get e (λ_ z=>nomatch z) (λ_ _ z=>nomatch z)
 refine⟨I.ok,I.os,I.bare,⟨I.base.keep,I.base.slot,λb u e n x=>d b (I.base.free b u e n x),I.base.there,λb g e=>tup_at b g (I.base.tups b g e),λb h u e=>?_,λb m e=>?_⟩,I.loc,I.cell,d _ I.free,λx c e=>d c (I.freeC x c e),λp r=>?_,λb u e=>?_,I.len⟩
 ·have ne:b≠a:=λz=>h0 h u (z▸e)
  rw[sw.out b ne];exact I.base.frzs b h u e
 ·obtain⟨more,q⟩:=I.base.tbls b m e;exact⟨more,sw.get q (λ_ z=>nomatch z) (λ_ _ z=>nomatch z)⟩
 ·obtain⟨k,j,i⟩:=I.pin p r;exact⟨k,d _ j,i⟩
 ·by_cases z:b=a
  ·subst z;have base:oI X.prog X.w H s.heap b (.dT kvs):=sw.l.ok I.hok;exact ok (base.stay (λ_ _ _ q=>q) (λc q=>f c _ q) tup_at) u e
  ·rw[sw.out b z] at e;exact (I.hok b u e).stay (λ_ _ _ q=>q) (λc q=>f c _ q) tup_at
theorem Inv.frozen (I:Inv X pins σ H s) (ha:H a=some (.dT kvs)) (ho:s.heap.get? a=some o):Inv X pins σ (upd H a (.frz o (.dT kvs))) s:=by
 refine I.swapped ⟨λb n=>mO n,.inl ha,.inr ⟨o,mT⟩⟩ (λc u e=>?_) λq u e=>?_
 ·have:=I.base.frzs a c u e;rw[ha] at this;cases this
 ·rw[mT] at e;cases e;exact⟨ho,q⟩
theorem Inv.thawed (I:Inv X pins σ H s) (ha:H a=some (.frz o (.dT kvs))) (h0:∀ o u,X.H₀ a≠some (.frz o u)):Inv X pins σ (upd H a (.dT kvs)) s:=by
 refine I.swapped ⟨λb n=>mO n,.inr ⟨o,ha⟩,.inl mT⟩ h0 λq u e=>?_
 rw[mT] at e;cases e;exact q
end
def xZ (a:Addr) (o:Obj) (kvs:List (List hI×V)):It :=
 ⟨λi H=>H a=some (.frz o (.dT kvs))/\i<kvs.length,λi H x H'=>H'=H/\∃ k v p,kvs[i]?=some (k,v)/\x = .ref p/\H p=some (.tup (k.map kV)),λi H=>H a=some (.frz o (.dT kvs))/\i=kvs.length⟩
theorem He {F:α->β->Prop}:∀ {l₁:List α}{l₂:List β}{i:Nat}{a:α},Paired F l₁ l₂->l₁[i]?=some a->∃ b,l₂[i]?=some b/\F a b
 | _,_,_,_,.nil,h=>by simp at h
 | _,_,0,_,.cons x r,h=>by simp at h;subst h;exact⟨_,by simp,x⟩
 | _,_,i+1,a,.cons x r,h=>by
  obtain⟨b,d,c⟩:=He (i:=i) r (by simpa using h);exact⟨b,by simpa using d,c⟩
theorem Le {P:Program}(ok:oN P w H h) (ha:H a=some (.frz o (.dT kvs))) :
  ∃ es ep,RawD h a o es ep/\es.size=kvs.length/\∀ (i:Nat) (hi:i<es.size),∃ k v p,kvs[i]?=some (k,v)/\es[i].key = .ref p/\H p=some (.tup (k.map kV)):=by
 obtain⟨g,z,lo,b,r,B,es,ep,f,u,t,e,_⟩:=(show oI P w H h a (.frz o (.dT kvs)) from ok a _ ha);rw[g] at f;cases f;have E:kvs.length=b.length:=eX r;have C:es.size=b.length:=by
  have:=cV List.length e
  simpa using this
 refine⟨es,ep,⟨lo,g,u,t⟩,by omega,λi hi=>?_⟩;have c:i<kvs.length:=by omega
 obtain⟨q,l,y,j,x⟩:=He r (aG c);refine⟨kvs[i].1,kvs[i].2,q.2.1,aG c,?_,j⟩;have d:es.toList[i]?=some (entryOfKey (tupleKind (qC P w)) q):=by rw[e,aX,l];rfl
 have m:es[i]=entryOfKey (tupleKind (qC P w)) q:=by
  have:es.toList[i]?=some es[i]:=by rw[dX,cK hi]
  rw[this] at d;exact cA d
 rw[m];rfl
theorem JX {P:Program}{K:mC}(a it:Addr) (o:Obj) (kvs:List (List hI×V)):Turn P w K tg (xZ a o kvs) [it] it (λi h=>∃ ep,(∃ es,o.data = .dict es ep)/\h.IsKeyIter it a i kvs.length ep) where
 mem:=by simp
 obj:=λi h st b m=>by
  have e:b=it:=by simpa using m
  subst e;obtain⟨_,_,o,e,c,d⟩:=st;exact⟨o,e,λv z=>by rw[d] at z;cases z⟩
 keep:=λi h u ⟨ep,q,o,e,r⟩ k=>⟨ep,q,o,k it (by simp) o e,r⟩
 item:=by
  intro X C hw F T i g s S H E I t st y;subst C hw F;obtain⟨ep,⟨Q,l⟩,st⟩:=st;obtain⟨B,x⟩:=y;obtain⟨es,f,raw,sz,rows⟩:=Le I.hok B;have:f=ep:=by have:=raw.dat;rw[l] at this;cases this;rfl
  subst this;rw[← sz] at st x;obtain⟨k,v,p,Z,Y,W⟩:=rows i x;obtain⟨O,f1,f2,N,M,L⟩:=t it (by simp);refine Jp raw st x λu j U=>?_
  have I1:Inv X g S H { s with heap:=u }:=I.turned (t':=s.toks) (λb o m e=>(U.2 b m).trans e) O f1 N M L;rw[sz] at j;obtain⟨oi,e,c,d⟩:=id j;exact⟨_,rfl,zU (s:={ s with heap:=u }) e c d (by decide) ⟨.ref p,H,I1,Y,⟨rfl,k,v,p,Z,rfl,W⟩,⟨f,⟨es,raw.dat⟩,j⟩,λb m=>(t b m).1⟩⟩
 done:=by
  intro X C hw F T i g s S H E I t st y;subst C hw F;obtain⟨ep,⟨Q,l⟩,st⟩:=st;obtain⟨B,rfl⟩:=y;obtain⟨es,f,raw,sz,rows⟩:=Le I.hok B;have:f=ep:=by have:=raw.dat;rw[l] at this;cases this;rfl
  subst this;rw[← sz] at st;obtain⟨O,f1,f2,N,M,L⟩:=t it (by simp);exact K6 (I.ok.hd T) raw st λu eb=>⟨rfl,I.turned (t':=s.toks) (λb o m e=>eb b o m e) O f1 N M L⟩
 self:=λ_ _ _ _ _ ⟨_,_,st⟩ h=>kS st h
section
variable {X:Cx}
def Eb:hI->D
 | .inl i=>.int i
 | .inr x=>.str x
theorem Mu {K:mC}:∀ k:List hI,Reps K A H (k.map Eb) (k.map kV)
 | []=>.nil
 | .inl i::k=>.cons (.int i) (Mu k)
 | .inr x::k=>.cons (.str x) (Mu k)
def rK (kvs:List (List hI×D)):List D:=kvs.map λp=>.tup (p.1.map Eb)
end
end L2
namespace PySem
open PyProof.Rows L2
section
theorem BX (I:s.heap.IsTupleIter it t i) (T:s.heap.IsTuple t its) (hx:its[i]?=some x) (q:∀ h',h'.IsTupleIter it t (i+1)->Heap.SameBut it s.heap h'->Q x { s with heap:=h' }) :
  wpAny (model prog w) A (Builtin.SmallTypes.nextOf (.ref it)) Q E s:=by
 obtain⟨o,a,c,ty,b⟩:=P9 I;obtain⟨p,f,l,n,e⟩:=id T;have body:wpAny (model prog w) A.in1 (Builtin.«tuple_iterator.__next__» ⟨[.ref it],[]⟩) (λr d=>∃ h',r = .done (.ret x)/\d={ s with heap:=h' }/\h'.IsTupleIter it t (i+1)/\Heap.SameBut it s.heap h') E s:=by
  show wpAny _ _ (field (.ref it) 0 >>= _) _ _ s;refine aB (eQ a c (x:=.ref t) rfl ?_);refine (show wpAny _ _ (field (.ref it) 1 >>= _) _ _ s from aB (eQ a c (x:=.int i 0) rfl (aB (fH f e ?_))));simp only[cC,hx];exact aB (lL a c (by simp) (aF ⟨_,rfl,rfl,IH a b c,gR ..⟩))
 unfold Builtin.SmallTypes.nextOf;refine aB (cJ (name:=Str.ofString "__next__") ty gY (cX gY ty F.entry_tuple_iterator_next (cL body (λr d ⟨h',k,j,h,g⟩=>?_) λ_ _ z=>z) (F.args_tuple_iterator_next_1 _)));subst k j;exact⟨x,rfl,aF (q h' h g)⟩
theorem FW (calm:A.handled=none) (I:s.heap.IsTupleIter it t i) (T:s.heap.IsTuple t its) (hx:its[i]?=none)
  (q:∀ h' e,Heap.ExtBut it s.heap h'->(∃ o,h'.get? e=some o/\o.cls = .type "StopIteration")->E (.ref e) { s with heap:=h' }):wpAny (model prog w) A (Builtin.SmallTypes.nextOf (.ref it)) Q E s:=by
 obtain⟨o,a,c,ty,b⟩:=P9 I;obtain⟨p,f,h,n,d⟩:=id T;have body:wpAny (model prog w) A.in1 (Builtin.«tuple_iterator.__next__» ⟨[.ref it],[]⟩) (λ_ _=>False) E s:=by
  show wpAny _ _ (field (.ref it) 0 >>= _) _ _ s;refine aB (eQ a c (x:=.ref t) rfl ?_);refine (show wpAny _ _ (field (.ref it) 1 >>= _) _ _ s from aB (eQ a c (x:=.int i 0) rfl (aB (fH f d ?_))));simp only[cC,hx];refine aB (lI (aB (lL a c (by simp) ?_)));exact Pw calm λh' e k z=>q h' e (λx o g hx=>k x o ((gR ..).extBut x o g hx)) z
 unfold Builtin.SmallTypes.nextOf;exact aB (cJ (name:=Str.ofString "__next__") ty gY (cX gY ty F.entry_tuple_iterator_next (cL body (λ_ _ z=>z.elim) λ_ _ z=>z) (F.args_tuple_iterator_next_1 _)))
def Fq (z TI TO:Addr) (E:Value->Shared->Prop):Value->Shared->Prop:=λe s'=>IsZip s'.heap z TI TO .ellipsis/\∀ h',Heap.SameBut z s'.heap h'->E e { s' with heap:=h' }
theorem Wk {z TI TO:Addr}{a b p q:Value}{Q:Value->Shared->Prop}(hz:IsZip s.heap z TI TO .none) (hTI:IsPair s.heap TI a b)
  (go:∀ h1,IsZip h1 z TI TO .ellipsis->Heap.SameBut z s.heap h1->wpAny (model prog w) A (Builtin.SmallTypes.nextOf a) (λx s2=>IsPair s2.heap TO p q/\∀ h3,IsPair h3 TO x q->Heap.SameBut TO s2.heap h3 ->wpAny (model prog w) A (Builtin.SmallTypes.nextOf b) (λy s4=>IsPair s4.heap TO x q/\∀ h5,IsPair h5 TO x y->Heap.SameBut TO s4.heap h5->IsZip h5 z TI TO .ellipsis /\ ∀ h',IsZip h' z TI TO (rawInt h5.objs.size)->IsPair h' h5.objs.size x y->h'.objs.size=h5.objs.size+1->(∀ c o,c≠z->h5.get? c=some o->h'.get? c=some o)->Q (.ref h5.objs.size) { s4 with heap:=h' }) (Fq z TI TO E) { s2 with heap:=h3 }) (Fq z TI TO E) { s with heap:=h1 }) :
  wpAny (model prog w) A (Builtin.«zip.__next__» ⟨[.ref z],[]⟩) (λfin s'=>∃ v,fin = .done (.ret v)/\Q v s') E s:=by
 have free:wpAny (model prog w) A (Builtin.SmallTypes.ownedTupleIsFree (.ref z)) (λx s'=>x=true/\s'=s) E s:=aB (eQ hz rfl (x:=.none) rfl (aF ⟨rfl,rfl⟩));have back:∀ {d:Type} {m:Sem d} {R:d->Shared->Prop} {s':Shared},wpAny (model prog w) A m R (Fq z TI TO E) s'->wpAny (model prog w) A (m.onRaise λ_=>setField (.ref z) 0 .none) R E s':=λ{d m R s'} h =>
  wpAny_onRaise (cL h (λ_ _ z=>z) λe T ⟨g,O⟩=>iR g (by simp) λh' _ I=>O h' I)
 unfold Builtin.«zip.__next__»;refine aB (aF (aB (eQ hz rfl (x:=.bool false) rfl (aB (eQ hz rfl (x:=.ref TI) rfl (aB (fH hTI rfl ?_)))))));refine aB (mR free ?_);rintro _ s' ⟨rfl,rfl⟩;simp only[iD];refine aB (lI (aB (eQ hz rfl (x:=.ref TO) rfl (aB (iR hz (by simp) λh1 H g=>?_)))));simp only[List.zipIdx_cons,List.zipIdx_nil,kW,List.forIn_nil,bind_assoc];refine aB (back (aB (mR (go h1 H g) λx s2 ⟨l,g2⟩=>aF ?_)));refine aB (aB (fH l rfl (aB (wpAny_updateSeq_pair l λh3 L N=>aB (wpAny_letGo (aF ?_))))));refine aB (aB (back (aB (mR (g2 h3 L N) λy s4 ⟨k,S⟩=>aF ?_))));refine aB (aB (fH k rfl (aB (wpAny_updateSeq_pair k λh5 j M=>aB (wpAny_letGo (aF (aF ?_)))))));obtain⟨i,fin⟩:=S h5 j M;have f:z<h5.objs.size:=aY i;refine aB (fH j rfl (aB (wpAny_newTuple ?_ (hsz:=(show 2<=sizeLine by decide)))));have F:IsZip (h5.push (seqObj "tuple" #[x,y] 0)) z TI TO .ellipsis:=aE _ i;refine aB (show wpAny _ _ (setField (.ref z) 0 (rawInt h5.objs.size) >>= λ_=>setField (.ref z) 1 (.bool false)) _ _ _ from aB (iR F (by simp) λU C t=>iR C (by simp) λu B r=>?_));have up:∀ c o,c≠z->(h5.push (seqObj "tuple" #[x,y] 0)).get? c=some o->u.get? c=some o:=λc o n e=>r.extBut _ _ n (t.extBut _ _ n e)
 refine aF ⟨_,rfl,fin u B (up _ _ (iC f) (bB _ rfl)) (by rw[r.1,t.1,dP]) λc o n e=>up c o n (aE _ e)⟩
end
def B5 (a b:Value):Obj:={ cls:=.type "tuple",data:=.seq #[a,b] }
def Rs (a b:Addr):Obj:={ cls:=.type "zip",data:=.fields #[.none,.bool false,.bool false,.ref a,.ref b] }
end PySem
namespace L2
open PySem PySem.Spec PyProof.Rows Lw
section
variable {X:Cx}{K:mC}
def vo (i:Nat):nI:=λ_ ρ Φ=>match ρ[i]? with
 | some (.own d)=>Φ (.own d) (ρ.set i .no)
 | _=>False
theorem zT (i:Nat) (h:PE X (.Name x pos) (qM i)):PD X (.Name x pos) (vo i):=h.mono λu H Q j=>j.elim λB p T z l hd c k=>by
 unfold vo at c;cases f:p[i]? with
 | none=>rw[f] at c;exact False.elim c
 | some s =>
 rw[f] at c;cases s<;>first | exact False.elim c | skip
 ·rename_i d
  obtain⟨b,y,a,g,_,t,e⟩:=vU l f;have o:=e .no y;rw[zY g] at o;obtain⟨v,m,_⟩:=hd.peek l (d:=d) (i:=i) (by unfold at?;rw[f];rfl);rw[g] at m;cases m;refine⟨v,g,k _ _ v H (by rw[bT];exact l) ?_ c⟩;rw[t,bJ,cS] at hd;rw[o,bJ,cS];have d1:DS X.K B ((.own d,some v)::(b++(a++T))) H:=hd.perm eW;have d2:DS X.K B (((.own d,some v)::b)++(Sl.no,some v)::(a++T)) H:=DS.pushN (L1:=(.own d,some v)::b) (L2:=a++T) d1 (some v);refine d2.perm ?_;have r:(((Sl.own d,some v)::b)++(Sl.no,some v)::(a++T)).Perm ((Sl.own d,some v)::(b++(Sl.no,some v)::a++T)):=by simp
  refine r.trans ?_;have q:((Sl.own d,some v)::(b++(Sl.no,some v)::a++T)).Perm ((b++(Sl.no,some v)::a)++(Sl.own d,some v)::T):=eW.symm;refine q.trans (by simp)
end
structure SwK (H H':Hp) (a:Addr) (kvs:List (hI×V)):Prop where
 out:∀ b,b≠a->H' b=H b
 l:Rd H a (.dK kvs)
 r:Rd H' a (.dK kvs)
section
theorem SwK.ne (s:SwK H H' a kvs) (h:H b=some u) (n1:∀ xs,u ≠ .dK xs) (n2:∀ o xs,u ≠ .frz o (.dK xs)):b≠a:=λz=>by
 subst z;rcases s.l with q | ⟨o,q⟩<;>rw[q] at h<;>cases h
 ·exact n1 _ rfl
 ·exact n2 _ _ rfl
theorem SwK.get (s:SwK H H' a kvs) (h:H b=some u) (n1:∀ xs,u ≠ .dK xs) (n2:∀ o xs,u ≠ .frz o (.dK xs)):H' b=some u:=by rw[s.out b (s.ne h n1 n2)];exact h
end
section
variable {X:Cx}
theorem Inv.swappedK (I:Inv X pins σ H s) (sw:SwK H H' a kvs) (h0:∀ o u,X.H₀ a≠some (.frz o u)) (ok:oI X.prog X.w H' s.heap a (.dK kvs)->∀ u,H' a=some u->oI X.prog X.w H' s.heap a u):Inv X pins σ H' s:=by
 have d:∀ b,H b=none->H' b=none:=λb e=>by
  rw[sw.out b λz=>by subst z;rcases sw.l with q | ⟨o,q⟩<;>rw[q] at e<;>cases e];exact e
 have tup_at:∀ b g,H b=some (.tup g)->H' b=some (.tup g):=λb g e=>sw.get e (λ_ z=>nomatch z) (λ_ _ z=>nomatch z)
 have f:∀ b y,H b=some (.own y)->H' b=some (.own y):=λb g e=>sw.get e (λ_ z=>nomatch z) (λ_ _ z=>nomatch z)
 refine⟨I.ok,I.os,I.bare,⟨I.base.keep,I.base.slot,λb u e n x=>d b (I.base.free b u e n x),I.base.there,λb g e=>tup_at b g (I.base.tups b g e),λb h u e=>?_,λb m e=>?_⟩,I.loc,I.cell,d _ I.free,λx c e=>d c (I.freeC x c e),λp r=>?_,λb u e=>?_,I.len⟩
 ·have ne:b≠a:=λz=>h0 h u (z▸e)
  rw[sw.out b ne];exact I.base.frzs b h u e
 ·obtain⟨more,q⟩:=I.base.tbls b m e;exact⟨more,sw.get q (λ_ z=>nomatch z) (λ_ _ z=>nomatch z)⟩
 ·obtain⟨k,j,i⟩:=I.pin p r;exact⟨k,d _ j,i⟩
 ·by_cases z:b=a
  ·subst z;have base:oI X.prog X.w H s.heap b (.dK kvs):=sw.l.ok I.hok;exact ok (base.stay (λ_ _ _ q=>q) (λc q=>f c _ q) tup_at) u e
  ·rw[sw.out b z] at e;exact (I.hok b u e).stay (λ_ _ _ q=>q) (λc q=>f c _ q) tup_at
theorem Inv.frozenK (I:Inv X pins σ H s) (ha:H a=some (.dK kvs)) (ho:s.heap.get? a=some o):Inv X pins σ (upd H a (.frz o (.dK kvs))) s:=by
 refine I.swappedK ⟨λb n=>mO n,.inl ha,.inr ⟨o,mT⟩⟩ (λc u e=>?_) λq u e=>?_
 ·have:=I.base.frzs a c u e;rw[ha] at this;cases this
 ·rw[mT] at e;cases e;exact⟨ho,q⟩
theorem Inv.thawedK (I:Inv X pins σ H s) (ha:H a=some (.frz o (.dK kvs))) (h0:∀ o u,X.H₀ a≠some (.frz o u)):Inv X pins σ (upd H a (.dK kvs)) s:=by
 refine I.swappedK ⟨λb n=>mO n,.inr ⟨o,ha⟩,.inl mT⟩ h0 λq u e=>?_
 rw[mT] at e;cases e;exact q
end
def Ou (a:Addr) (o:Obj) (kvs:List (hI×V)):It :=
 ⟨λi H=>H a=some (.frz o (.dK kvs))/\i<kvs.length,λi H x H'=>H'=H/\∃ k v,kvs[i]?=some (k,v)/\x=kV k,λi H=>H a=some (.frz o (.dK kvs))/\i=kvs.length⟩
theorem X1 (h:yL k v=true):nB (kV k) v:=by
 rcases wY h with⟨i,t,rfl,rfl⟩ | ⟨x,t,rfl,rfl⟩
 ·exact⟨t,rfl⟩
 ·exact⟨t,rfl⟩
theorem pairs_at {P:Program}:∀ {es:List DictEntry}{vs:List (hI×Value)},Pairs (qC P w) es vs->es.length=vs.length/\∀ (i:Nat) e q,es[i]?=some e->vs[i]?=some q->yL q.1 e.key=true/\e.val=q.2:=by
 intro es;induction es with
 | nil=>intro vs h;cases h;exact⟨rfl,λi e q h=>by cases h⟩
 | cons a es g =>
  intro vs h;cases h with
  | cons l k j =>
   obtain⟨f,d⟩:=g j;refine⟨cV (·+1) f,λi e q c b=>?_⟩;cases i with
   | zero=>cases c;cases b;exact⟨l,k⟩
   | succ i=>exact d i e q c b
theorem J3 {P:Program}(ok:oN P w H h) (ha:H a=some (.frz o (.dK kvs))) :
  ∃ es ep,RawD h a o es ep/\es.size=kvs.length/\∀ (i:Nat) (hi:i<es.size),∃ k v,kvs[i]?=some (k,v)/\nB (kV k) es[i].key:=by
 obtain⟨e,z,lo,f,r,x,es,ep,d,u,t,B,p,_⟩:=(show oI P w H h a (.frz o (.dK kvs)) from ok a _ ha);rw[e] at d;cases d;have y:kvs.length=f.length:=eX r;obtain⟨j,b⟩:=pairs_at p;rw[fJ] at j;refine⟨es,ep,⟨lo,e,u,t⟩,by omega,λi hi=>?_⟩;have c:i<kvs.length:=by omega
 obtain⟨q,m,g,_⟩:=He r (aG c);obtain⟨l,_⟩:=b i es[i] q (by rw[dX,cK hi]) m;exact⟨kvs[i].1,kvs[i].2,aG c,by rw[g];exact X1 l⟩
theorem Yc {P:Program}{K:mC}(a it:Addr) (o:Obj) (kvs:List (hI×V)):Turn P w K tg (Ou a o kvs) [it] it (λi h=>∃ ep,(∃ es,o.data = .dict es ep)/\h.IsKeyIter it a i kvs.length ep) where
 mem:=aK
 obj:=λi h st b m=>by
  obtain rfl:=bA.mp m;obtain⟨_,_,o,e,c,d⟩:=st;exact⟨o,e,λv z=>by rw[d] at z;cases z⟩
 keep:=λi h t ⟨ep,q,o,e,r⟩ k=>⟨ep,q,o,k it aK o e,r⟩
 item:=by
  intro X B hw C S i g s Q H E I p st x;subst B hw C;obtain⟨ep,⟨O,l⟩,st⟩:=st;obtain⟨y,u⟩:=x;obtain⟨es,f,raw,sz,rows⟩:=J3 I.hok y;have:f=ep:=by have:=raw.dat;rw[l] at this;cases this;rfl
  subst this;rw[← sz] at st u;obtain⟨k,v,W,U⟩:=rows i u;obtain⟨N,f1,f2,M,L,F⟩:=p it aK;refine Jp raw st u λt j T=>?_
  have Z:Inv X g Q H { s with heap:=t }:=I.turned (t':=s.toks) (λb o m e=>(T.2 b m).trans e) N f1 M L F;rw[sz] at j;obtain⟨oi,e,c,d⟩:=id j;exact⟨_,rfl,zU (s:={ s with heap:=t }) e c d (by decide) ⟨kV k,H,Z,U,⟨rfl,k,v,W,rfl⟩,⟨f,⟨es,raw.dat⟩,j⟩,λb m=>(p b m).1⟩⟩
 done:=by
  intro X B hw C S i g s Q H E I p st x;subst B hw C;obtain⟨ep,⟨O,l⟩,st⟩:=st;obtain⟨y,rfl⟩:=x;obtain⟨es,f,raw,sz,rows⟩:=J3 I.hok y;have:f=ep:=by have:=raw.dat;rw[l] at this;cases this;rfl
  subst this;rw[← sz] at st;obtain⟨N,f1,f2,M,L,F⟩:=p it aK;exact K6 (I.ok.hd S) raw st λt Y=>⟨rfl,I.turned (t':=s.toks) (λb o m e=>Y b o m e) N f1 M L F⟩
 self:=λ_ _ _ _ _ ⟨_,_,st⟩ h=>kS st h
def Uf (tl:TE):TI:=λσ H R=>tl σ H λx H1=>∃ a o kvs,x = .ref a/\H1 a=some (.frz o (.dK kvs))/\R (Ou a o kvs) H1
theorem GL {X:Cx}(hl:PE X l tl):PI X tg l (Uf tl):=by
 intro c s j H R I h;refine mR (hl c s j H _ I h) λv f ⟨x,i,g,k,a,o,d,e,p,q⟩=>?_
 subst e;cases k;obtain⟨r,t,raw,sz,_⟩:=J3 g.hok p;have fp:∀ b∈[f.heap.objs.size],uA X c i b:=λb m=>by
  obtain rfl:=bA.mp m;exact g.fpOk (aZ _) (g.hok.fresh (aZ _))
 refine Kq raw ⟨f.heap.objs.size,[f.heap.objs.size],_,Ou a o d,i,rfl,g.kept (t':=f.toks) λb u q=>aE _ q,Yc a _ o d,⟨t,⟨r,raw.dat⟩,?_⟩,fp,q⟩;exact⟨_,bB _ rfl,rfl,by rw[sz];rfl⟩
end L2
namespace Lw
open PySem L2
def vT (t:nK):List (hI×V):=t.map λp=>(Sum.inr p.1,V.int p.2)
def wB (t:nK) (x:Str) (i:Int):nK:=if x∈t.map (·.1) then t.map (λp=>if p.1=x then (p.1,i) else p) else t++[(x,i)]
theorem Mz (t:nK) (x:Str) (i:Int):nR (hO t) (Sum.inr x) (.int i)=hO (wB t x i):=by
 unfold nR wB;have e:((hO t).any λa=>decide (a.1=(Sum.inr x:hI)))=decide (x∈t.map (·.1)):=by
  rw[iS];simp only[hO,List.any_map,eO,iF,dZ,aV,Sum.inr.injEq]
 rw[e];by_cases h:x∈t.map (·.1)
 ·rw[aP (bE h),aP h];unfold hO;rw[aQ,aQ];refine eP λp _=>?_
  show (if (Sum.inr p.1:hI)=Sum.inr x then ((Sum.inr p.1:hI),D.int i) else (Sum.inr p.1,D.int p.2))=(Sum.inr (if p.1=x then (p.1,i) else p).1,D.int (if p.1=x then (p.1,i) else p).2);by_cases q:p.1=x
  ·rw[aP (by rw[q]),aP q]
  ·rw[aM (λz=>q (iL z)),aM q]
 ·rw[aM (by simp[h]),aM h];unfold hO;rw[List.map_append];rfl
theorem LF {K:mC}:∀ (t:nK) (kvs:List (hI×V)),(hO t).map (·.1)=kvs.map (·.1)->Reps K A H ((hO t).map (·.2)) (kvs.map (·.2))->kvs=vT t:=λt=>by
 induction t with
 | nil =>
  intro kvs k r;cases kvs with
  | nil=>rfl
  | cons p q=>simp[hO] at k
 | cons p t d =>
  intro kvs k r;cases kvs with
  | nil=>simp[hO] at k
  | cons q kvs =>
   obtain⟨c,h⟩:=q;simp only[hO,aO,iA] at k r;cases r with
   | cons b a =>
    have g:=d kvs k.2 a;have f:=b.int_inv;have e:Sum.inr p.1=c:=k.1;subst g f e;rfl
end Lw
namespace PySem
open PyProof.Rows L2
def oU (b:Bool) (h:Heap) (it t:Addr) (i:Nat):Prop:=match b with
 | true=>h.IsTupleIter it t i
 | false=>h.IsListIter it t i
def pF (b:Bool) (h:Heap) (a:Addr) (its:Array Value):Prop:=match b with
 | true=>h.IsTuple a its
 | false=>h.IsList a its
theorem rH (x:oU b h it t i) (k:∀ o,h.get? it=some o->h'.get? it=some o):oU b h' it t i:=by
 cases b
 ·exact let ⟨o,e,r⟩:=(show h.IsListIter it t i from x);⟨o,k o e,r⟩
 ·exact let ⟨o,e,r⟩:=(show h.IsTupleIter it t i from x);⟨o,k o e,r⟩
theorem sD (x:pF b h a its) (k:∀ o,h.get? a=some o->h'.get? a=some o):pF b h' a its:=by
 cases b
 ·exact let ⟨o,e,r⟩:=(show h.IsList a its from x);⟨o,k o e,r⟩
 ·exact let ⟨o,e,r⟩:=(show h.IsTuple a its from x);⟨o,k o e,r⟩
theorem Bu (x:oU b h it t i):∃ o,h.get? it=some o:=by
 cases b
 ·exact let ⟨o,e,_⟩:=(show h.IsListIter it t i from x);⟨o,e⟩
 ·exact let ⟨o,e,_⟩:=(show h.IsTupleIter it t i from x);⟨o,e⟩
theorem Bg (x:pF b h a its):∃ o,h.get? a=some o:=by
 cases b
 ·exact let ⟨o,e,_⟩:=(show h.IsList a its from x);⟨o,e⟩
 ·exact let ⟨o,e,_⟩:=(show h.IsTuple a its from x);⟨o,e⟩
section
theorem Bn (I:oU b s.heap it t i) (T:pF b s.heap t its) (hx:its[i]?=some x) (q:∀ h',oU b h' it t (i+1)->Heap.SameBut it s.heap h'->Q x { s with heap:=h' }) :
  wpAny (model prog w) A (Builtin.SmallTypes.nextOf (.ref it)) Q E s:=by
 cases b
 ·exact wpAny_nextOf_list_item I T hx q
 ·exact BX I T hx q
theorem G8 (calm:A.handled=none) (I:oU b s.heap it t i) (T:pF b s.heap t its) (hx:its[i]?=none)
  (q:∀ h' e,Heap.ExtBut it s.heap h'->(∃ o,h'.get? e=some o/\o.cls = .type "StopIteration")->E (.ref e) { s with heap:=h' }):wpAny (model prog w) A (Builtin.SmallTypes.nextOf (.ref it)) Q E s:=by
 cases b
 ·exact wpAny_nextOf_list_end calm I T hx q
 ·exact FW calm I T hx q
theorem Wo {b1 b2:Bool}{z TI TO i1 i2 l1 l2:Addr}{k1 k2:Nat}{xs ys:Array Value}{x y a b:Value}{Q:Option Value->Shared->Prop}(D:ZipApart z TI TO i1 i2 l1 l2) (hz:IsZip s.heap z TI TO .none) (hTI:IsPair s.heap TI (.ref i1) (.ref i2)) (hTO:IsPair s.heap TO a b)
  (h1:oU b1 s.heap i1 l1 k1) (h2:oU b2 s.heap i2 l2 k2) (hl1:pF b1 s.heap l1 xs) (hl2:pF b2 s.heap l2 ys) (hx:xs[k1]?=some x) (hy:ys[k2]?=some y)
  (out:∀ h',IsZip h' z TI TO (rawInt s.heap.objs.size)->IsPair h' TO x y->oU b1 h' i1 l1 (k1+1)->oU b2 h' i2 l2 (k2+1)->IsPair h' s.heap.objs.size x y->h'.objs.size=s.heap.objs.size+1 ->(∀ c o,c≠z->c≠TO->c≠i1->c≠i2->s.heap.get? c=some o->h'.get? c=some o)->Q (some (.ref s.heap.objs.size)) { s with heap:=h' }):wpAny (model prog w) A (pyNext (.ref z)) Q E s:=by
 have ty:s.TypeIs (.ref z) "zip" := ⟨_,hz,rfl⟩;unfold pyNext;refine aB (gE (cJ (name:=Str.ofString "__next__") ty gL (cX gL ty kL (Wk (p:=a) (q:=b) hz hTI λg1 L i=>?_) (kC _))));have d:∀ c o,c≠z->s.heap.get? c=some o->g1.get? c=some o:=λc o n e=>i.extBut _ _ n e
 refine Bn (rH h1 λo e=>d _ o D.i1z e) (sD hl1 λo e=>d _ o D.l1z e) hx λg2 S h=>?_
 have g:∀ c o,c≠i1->g1.get? c=some o->g2.get? c=some o:=λc o n e=>h.extBut _ _ n e
 refine⟨g _ _ D.TOi1 (d _ _ D.TOz hTO),λg3 N B=>?_⟩;have f:∀ c o,c≠TO->g2.get? c=some o->g3.get? c=some o:=λc o n e=>B.extBut _ _ n e
 refine Bn (rH h2 λo e=>f _ o D.TOi2.symm (g _ o D.i12.symm (d _ o D.i2z e))) (sD hl2 λo e=>f _ o D.l2TO (g _ o D.l2i1 (d _ o D.l2z e))) hy λF O v=>?_
 have k:∀ c o,c≠i2->g3.get? c=some o->F.get? c=some o:=λc o n e=>v.extBut _ _ n e
 refine⟨k _ _ D.TOi2 N,λC M u=>?_⟩;have j:∀ c o,c≠TO->F.get? c=some o->C.get? c=some o:=λc o n e=>u.extBut _ _ n e
 have sz:C.objs.size=s.heap.objs.size:=by rw[u.1,v.1,B.1,h.1,i.1]
 refine⟨j _ _ D.TOz.symm (k _ _ D.i2z.symm (f _ _ D.TOz.symm (g _ _ D.i1z.symm L))),λh' t r m l=>?_⟩;rw[sz] at t r m ⊢;refine aF (out h' t (l _ _ D.TOz M) (rH S λo e=>l _ o D.i1z (j _ o D.TOi1.symm (k _ o D.i12 (f _ o D.TOi1.symm e)))) (rH O λo e=>l _ o D.i2z (j _ o D.TOi2.symm e)) r m λc o I H U T e=>?_);exact l c o I (j c o H (k c o T (f c o H (g c o U (d c o I e)))))
theorem To {b1 b2:Bool}{z TI TO i1 i2 l1 l2:Addr}{k1 k2:Nat}{xs ys:Array Value}{a b:Value}{Q:Option Value->Shared->Prop}(calm:A.handled=none) (D:ZipApart z TI TO i1 i2 l1 l2) (hz:IsZip s.heap z TI TO .none) (hTI:IsPair s.heap TI (.ref i1) (.ref i2)) (hTO:IsPair s.heap TO a b)
  (h1:oU b1 s.heap i1 l1 k1) (h2:oU b2 s.heap i2 l2 k2) (hl1:pF b1 s.heap l1 xs) (hl2:pF b2 s.heap l2 ys) (hend:xs[k1]?=none\/ys[k2]?=none)
  (out:∀ h',(∀ c o,c≠z->c≠TO->c≠i1->c≠i2->s.heap.get? c=some o->h'.get? c=some o)->Q none { s with heap:=h' }):wpAny (model prog w) A (pyNext (.ref z)) Q E s:=by
 have ty:s.TypeIs (.ref z) "zip" := ⟨_,hz,rfl⟩;have f:∀ (g:Heap) (e:Addr),(∀ c o,c≠z->c≠TO->c≠i1->c≠i2->s.heap.get? c=some o->g.get? c=some o)->(∃ o,g.get? e=some o/\o.cls = .type "StopIteration")->IsZip g z TI TO .ellipsis ->
   Fq z TI TO (λe O=>wpAny (model prog w) A (do if ← isInstance e (.type "StopIteration") then pure none else throw e) Q E O) (.ref e) { s with heap:=g }:=λg e k ⟨o,r,I⟩ C=>by
  refine⟨C,λh' H=>?_⟩;have ne:e≠z:=λq=>by
   rw[q,C] at r;cases r;injection I with y;exact absurd y (by decide)
  exact aB (dR (T := "StopIteration") (b:=true) ⟨o,H.extBut _ _ ne r,I⟩ isSubtype_stop (aF (out h' λc o h B l v q=>H.extBut _ _ h (k c o h B l v q))))
 unfold pyNext;refine aB (gE (cJ (name:=Str.ofString "__next__") ty gL (cX gL ty kL (Wk (p:=a) (q:=b) hz hTI λg1 F u=>?_) (kC _))));have d:∀ c o,c≠z->s.heap.get? c=some o->g1.get? c=some o:=λc o n e=>u.extBut _ _ n e
 rcases Option.eq_none_or_eq_some xs[k1]? with j | ⟨x,j⟩
 ·exact G8 calm (rH h1 λo e=>d _ o D.i1z e) (sD hl1 λo e=>d _ o D.l1z e) j λg2 e b2 N=>f g2 e (λc o h _ l _ q=>b2 c o l (d c o h q)) N (b2 _ _ D.i1z.symm F)
 ·refine Bn (rH h1 λo e=>d _ o D.i1z e) (sD hl1 λo e=>d _ o D.l1z e) j λg2 Y t=>?_
  have i:∀ c o,c≠i1->g1.get? c=some o->g2.get? c=some o:=λc o n e=>t.extBut _ _ n e
  refine⟨i _ _ D.TOi1 (d _ _ D.TOz hTO),λg3 W S=>?_⟩;have m:∀ c o,c≠TO->g2.get? c=some o->g3.get? c=some o:=λc o n e=>S.extBut _ _ n e
  have V:ys[k2]?=none:=hend.elim (λn=>by rw[n] at j;cases j) id;exact G8 calm (rH h2 λo e=>m _ o D.TOi2.symm (i _ o D.i12.symm (d _ o D.i2z e))) (sD hl2 λo e=>m _ o D.l2TO (i _ o D.l2i1 (d _ o D.l2z e))) V λU e L M=>f U e (λc o h B l v q=>L c o v (m c o B (i c o l (d c o h q)))) M (L _ _ D.i2z.symm (m _ _ D.TOz.symm (i _ _ D.i1z.symm F)))
end
section
theorem FZ {b1 b2:Bool}{z TI TO T i1 i2 l1 l2:Addr}{k1 k2:Nat}{f:Bool}{oT:Obj}{xs ys:Array Value}{x y:Value}{Q:Value->Shared->Prop}(D:ZipApart z TI TO i1 i2 l1 l2)
  (hz:yU s.heap z TI TO T f) (hT:s.heap.get? T=some oT) (hTI:IsPair s.heap TI (.ref i1) (.ref i2))
  (h1:oU b1 s.heap i1 l1 k1) (h2:oU b2 s.heap i2 l2 k2) (hl1:pF b1 s.heap l1 xs) (hl2:pF b2 s.heap l2 ys) (hx:xs[k1]?=some x) (hy:ys[k2]?=some y)
  (hQ:∀ h',yU h' z TI TO T true->oU b1 h' i1 l1 (k1+1)->oU b2 h' i2 l2 (k2+1)->IsPair h' s.heap.objs.size x y->h'.objs.size=s.heap.objs.size+1 ->(∀ c o,c≠z->c≠i1->c≠i2->s.heap.get? c=some o->h'.get? c=some o)->Q (.ref s.heap.objs.size) { s with heap:=h' }) :
  wpAny (model prog w) A (Builtin.«zip.__next__» ⟨[.ref z],[]⟩) (λfin s'=>∃ v,fin = .done (.ret v)/\Q v s') E s:=by
 refine Vy hz hT hTI λd m k=>?_
 have up1:∀ c o,c≠z->s.heap.get? c=some o->d.get? c=some o:=λc o n e=>k.extBut _ _ n e
 have there:oU b1 d i1 l1 k1/\oU b2 d i2 l2 k2/\pF b1 d l1 xs/\pF b2 d l2 ys:=⟨rH h1 λo e=>up1 _ o D.i1z e,rH h2 λo e=>up1 _ o D.i2z e,sD hl1 λo e=>up1 _ o D.l1z e,sD hl2 λo e=>up1 _ o D.l2z e⟩;refine Bn there.1 there.2.2.1 hx λl r j=>?_
 have a:∀ c o,c≠i1->d.get? c=some o->l.get? c=some o:=λc o n e=>j.extBut _ _ n e
 refine Bn (rH there.2.1 λo e=>a _ o D.i12.symm e) (sD there.2.2.2 λo e=>a _ o D.l2i1 e) hy λg q i=>?_
 have b:∀ c o,c≠i2->l.get? c=some o->g.get? c=some o:=λc o n e=>i.extBut _ _ n e
 have h:g.objs.size=s.heap.objs.size:=i.1.trans (j.1.trans k.1);have more:∀ {c:Addr} {o p:Obj},g.get? c=some o->(g.push p).get? c=some o:=λe=>aE _ e
 refine wpAny_newTuple ⟨_,rfl,?_⟩ (hsz:=(show 2<=sizeLine by decide));have last:=hQ (g.push (seqObj "tuple" #[x,y] 0)) (more (b _ _ D.i2z.symm (a _ _ D.i1z.symm m))) (rH r λo e=>more (b _ o D.i12 e)) (rH q λo e=>more e) (h▸bB _ rfl) ((dP ..).trans (by rw[h]))
  λc o B u t e=>more (b _ _ t (a _ _ u (up1 _ _ B e)))
 rw[← h] at last;exact last
theorem W3 {TI TO:Addr}(hh:A.handled=none) (D:ZipApart z TI TO i1 i2 l1 l2)
  (hz:yU s.heap z TI TO T f) (hT:s.heap.get? T=some oT) (hTI:IsPair s.heap TI (.ref i1) (.ref i2))
  (h1:oU b1 s.heap i1 l1 k1) (h2:oU b2 s.heap i2 l2 k2) (hl1:pF b1 s.heap l1 xs) (hl2:pF b2 s.heap l2 ys) (hend:xs[k1]?=none\/ys[k2]?=none)
  (hE:∀ h' e,(∀ c o,c≠z->c≠i1->c≠i2->s.heap.get? c=some o->h'.get? c=some o)->(∃ o,h'.get? e=some o/\o.cls = .type "StopIteration")->E (.ref e) { s with heap:=h' }) :
  wpAny (model prog w) A (Builtin.«zip.__next__» ⟨[.ref z],[]⟩) Q E s:=by
 refine Vy hz hT hTI λg B p=>?_
 have up1:∀ c o,c≠z->s.heap.get? c=some o->g.get? c=some o:=λc o n e=>p.extBut _ _ n e
 have there:oU b1 g i1 l1 k1/\pF b1 g l1 xs:=⟨rH h1 λo e=>up1 _ o D.i1z e,sD hl1 λo e=>up1 _ o D.l1z e⟩;rcases Option.eq_none_or_eq_some xs[k1]? with b | ⟨x,b⟩
 ·exact G8 hh there.1 there.2 b λd e y k=>hE d e (λc o i h _ q=>y c o h (up1 c o i q)) k
 ·refine Bn there.1 there.2 b λd C l=>?_
  have a:∀ c o,c≠z->c≠i1->s.heap.get? c=some o->d.get? c=some o:=λc o n m e=>l.extBut _ _ m (up1 c o n e)
  have t:ys[k2]?=none:=hend.elim (λn=>by rw[n] at b;cases b) id;exact G8 hh (rH h2 λo e=>a _ o D.i2z D.i12.symm e) (sD hl2 λo e=>a _ o D.l2z D.l2i1 e) t λr e v j=>hE r e (λc o i h u q=>v c o u (a c o i h q)) j
theorem IP {TI TO:Addr}(D:ZipApart z TI TO i1 i2 l1 l2)
  (hz:Cm s.heap z TI TO i1 i2) (h1:oU b1 s.heap i1 l1 k) (h2:oU b2 s.heap i2 l2 k) (hl1:pF b1 s.heap l1 xs) (hl2:pF b2 s.heap l2 ys) (hx:xs[k]?=some x) (hy:ys[k]?=some y)
  (hQ:∀ h',Cm h' z TI TO i1 i2->oU b1 h' i1 l1 (k+1)->oU b2 h' i2 l2 (k+1)->IsPair h' s.heap.objs.size x y->h'.objs.size=s.heap.objs.size+1 ->(∀ c o,c≠z->c≠TO->c≠i1->c≠i2->s.heap.get? c=some o->h'.get? c=some o)->Q (some (.ref s.heap.objs.size)) { s with heap:=h' }) :
  wpAny (model prog w) A (pyNext (.ref z)) Q E s:=by
 obtain⟨d,⟨a,b,g⟩,hz⟩:=hz;obtain⟨S,H⟩:=Bu h1;obtain⟨O,F⟩:=Bu h2;have j:∀ {c o},s.heap.get? c=some o->s.heap.objs.size≠c:=λe=>(bL (aY e)).symm
 rcases hz with hz | ⟨T,f,o,hz,B,v,C,u,t⟩
 ·refine Wo D hz d g h1 h2 hl1 hl2 hx hy λh' r N q p l m h=>?_
  exact hQ h' ⟨h _ _ D.TIz D.TITO D.TIi1 D.TIi2 d,⟨_,_,N⟩,.inr ⟨_,false,_,r,l,j hz,j g,j H,j F⟩⟩ q p l m h
 ·have i:s.TypeIs (.ref z) "zip" := ⟨_,hz,rfl⟩;unfold pyNext;refine aB (gE (cJ (name:=Str.ofString "__next__") i gL (cX gL i kL (FZ D hz B d h1 h2 hl1 hl2 hx hy λh' r q p l m h=>aF ?_) (kC _))));exact hQ h' ⟨h _ _ D.TIz D.TIi1 D.TIi2 d,⟨_,_,h _ _ D.TOz D.TOi1 D.TOi2 g⟩,.inr ⟨T,true,_,r,h _ _ v u t B,v,C,u,t⟩⟩ q p l m λc o M _ L I e=>h c o M L I e
theorem IS {TI TO:Addr}(hh:A.handled=none) (D:ZipApart z TI TO i1 i2 l1 l2)
  (hz:Cm s.heap z TI TO i1 i2) (h1:oU b1 s.heap i1 l1 k) (h2:oU b2 s.heap i2 l2 k) (hl1:pF b1 s.heap l1 xs) (hl2:pF b2 s.heap l2 ys) (hend:xs[k]?=none\/ys[k]?=none)
  (hQ:∀ h',(∀ c o,c≠z->c≠TO->c≠i1->c≠i2->s.heap.get? c=some o->h'.get? c=some o)->Q none { s with heap:=h' }):wpAny (model prog w) A (pyNext (.ref z)) Q E s:=by
 obtain⟨g,⟨a,b,h⟩,hz⟩:=hz;rcases hz with hz | ⟨T,f,o,hz,p,y,x,v,u⟩
 ·exact To hh D hz g h h1 h2 hl1 hl2 hend hQ
 ·have d:s.TypeIs (.ref z) "zip" := ⟨_,hz,rfl⟩;unfold pyNext;refine aB (gE (cJ (name:=Str.ofString "__next__") d gL (cX gL d kL (W3 hh D hz p g h1 h2 hl1 hl2 hend λh' e j l=>?_) (kC _))));obtain⟨o,i,m⟩:=l;refine aB (dR (T := "StopIteration") (b:=true) ⟨o,i,m⟩ isSubtype_stop ?_);exact aF (hQ _ λc o t _ r q e=>j c o t r q e)
end
section
variable {K:Type} [DecidableEq K] {knd:KeyKind prog w K}{A:Around}{R:Result->Shared->Prop}
theorem MO {TI TO:Addr}(hh:A.handled=none) (D:ZipApart z TI TO i1 i2 l1 l2) (hd:d∉[z,TI,TO,i1,i2,l1,l2]) (more:List (K×Value)) (hn:more.length=min xs.size ys.size) (hb:more.length<=sizeLine)
  (hT:∀ (i:Nat) x y,xs[i]?=some x->ys[i]?=some y->∃ k,knd.is k x=true/\more[i]?=some (k,y)) (h0:Heap) :
  ∀ (m i:Nat) (s:Shared),more.length-i=m->i<=more.length->Cm s.heap z TI TO i1 i2->oU b1 s.heap i1 l1 i->oU b2 s.heap i2 l2 i->pF b1 s.heap l1 xs->pF b2 s.heap l2 ys->(∀ b o,b∉[z,TO,i1,i2,d]->h0.get? b=some o->s.heap.get? b=some o)->s.heap.DictOf knd d (merged [] (more.take i)) ->
   (∀ h' tk,(∀ b o,b∉[z,TO,i1,i2,d]->h0.get? b=some o->h'.get? b=some o)->h'.DictOf knd d (merged [] more)->R (.ok (.ret .none)) { s with heap:=h',toks:=tk }) ->
   codeAny (model prog w) A (.builtin "dict.update.loop" ⟨[.ref d,.ref z,.int (i:Int) 0,.none],[]⟩) R s:=by
 simp only[aL,bH,fY,not_or] at hd;obtain⟨d1,d2,d3,d4,d5,d6,d7⟩:=hd;have na:∀ {b:Addr},b∉[z,TO,i1,i2,d]->b≠z/\b≠TO/\b≠i1/\b≠i2/\b≠d:=λhb=>by
  simpa only [aL,bH,fY,not_or] using hb
 intro m;induction m with
 | zero =>
  intro i s hm hi S Z Y g c L C W;have ei:i=more.length:=by omega
  subst ei;rw[bR (aZ _)] at C;refine fV Bl ?_;rw[eF vD _];show wpAny _ A.in1 (pyNext (.ref z) >>= _) _ _ s;refine aB (IS (by simpa using hh) D S Z Y g c ?_ λh' h=>?_)
  ·rcases Nat.le_total xs.size ys.size with q | q
   ·exact .inl (gS (by omega))
   ·exact .inr (gS (by omega))
  ·show wpAny _ A.in1 (Builtin.Dict.addKeywords d [] >>= _) _ _ _;refine aB (aF ?_);obtain⟨o,F,H,l,rest⟩:=C;exact aF (W h' _ (λb o hb e=>let ⟨b1,b2,b3,b4,b5⟩:=na hb;h b o b1 b2 b3 b4 (L b o hb e)) ⟨o,F,H,h d _ d1 d3 d4 d5 l,rest⟩)
 | succ m ih =>
  intro i s hm hi S Z Y g c L C W;have U:i<more.length:=by omega
  obtain⟨x,hx⟩:∃ x,xs[i]?=some x:=⟨_,cK (by omega)⟩;obtain⟨y,hy⟩:∃ y,ys[i]?=some y:=⟨_,cK (by omega)⟩;obtain⟨ky,u,p⟩:=hT i x y hx hy;refine fV Bl ?_;rw[eF vD _];show wpAny _ A.in1 (pyNext (.ref z) >>= _) _ _ s;refine aB (IP D S Z Y g c hx hy λh' z' Q O pr sz h=>?_);have V:h'.DictOf knd d (merged [] (more.take i)):=by
   obtain⟨o,F,H,l,rest⟩:=C;exact⟨o,F,H,h d _ d1 d3 d4 d5 l,rest⟩
  have N:pF b1 h' l1 xs:=sD g λo e=>h l1 o D.l1z D.l1TO D.l1i1 D.l1i2 e
  have M:pF b2 h' l2 ys:=sD c λo e=>h l2 o D.l2z D.l2TO D.l2i1 D.l2i2 e
  have pd:s.heap.objs.size≠d:=by
   obtain⟨o,F,H,l,rest⟩:=C;exact (bL (aY l)).symm
  show wpAny _ A.in1 (holding [Value.ref s.heap.objs.size] _ >>= _) _ _ _;refine aB (bV ?_);refine aB (wpAny_tryCatch ?_);unfold Builtin.Dict.pairItems;refine aB (eM (T := "tuple") ⟨_,pr,rfl⟩ ?_);rw[aP (by decide)];refine aB (fH pr rfl ?_);refine aF ?_;show wpAny _ A.in1 (holding [x,y] (dictSet d x y)) _ _ _;refine bV ?_;have j:(merged [] (more.take i)).length<=sizeLine:=by
   have e1:=merged_length_le ([]:List (K×Value)) (more.take i);rw[gJ,bQ] at e1;omega
  refine wpAny_dictSet_pairs (hsz:=j) u V λE r sb=>?_
  rw[← merged_take_succ [] more i (ky,y) p] at r;refine aF ⟨iT vD _,?_⟩;have e1:(rawInt ((i:Int)+1))=Value.int ((i+1:Nat):Int) 0:=by rfl
  rw[e1];have up:∀ b o,b≠d->h'.get? b=some o->E.get? b=some o:=λb o hb e=>by rw[sb.2 b hb];exact e
  have zz:Cm E z TI TO i1 i2:=by
   obtain⟨p1,⟨a,b,p2⟩,I⟩:=z';refine⟨up _ _ (eC d2) p1,⟨a,b,up _ _ (eC d3) p2⟩,?_⟩;rcases I with I | ⟨T,f,o,q1,q2,q3,q4,q5,q6⟩
   ·exact .inl (up _ _ (eC d1) I)
   ·by_cases v:T=d
    ·subst v;obtain⟨o',F,H,l,rest⟩:=r;exact .inr ⟨T,f,_,up _ _ (eC d1) q1,l,q3,q4,q5,q6⟩
    ·exact .inr ⟨T,f,o,up _ _ (eC d1) q1,up _ _ v q2,q3,q4,q5,q6⟩
  refine ih (i+1) _ (by omega) U zz (rH Q λo e=>up _ o (eC d4) e) (rH O λo e=>up _ o (eC d5) e) (sD N λo e=>up _ o (eC d6) e) (sD M λo e=>up _ o (eC d7) e) (λb o hb e=>?_) r λaa tk t B=>W aa tk t B
  obtain⟨b1,b2,b3,b4,b5⟩:=na hb;exact up b o b5 (h b o b1 b2 b3 b4 (L b o hb e))
theorem JU {TI TO:Addr}(hh:A.handled=none) (D:ZipApart z TI TO i1 i2 l1 l2)
  (hz:IsZip s.heap z TI TO .none) (hTI:IsPair s.heap TI (.ref i1) (.ref i2)) (hTO:IsPair s.heap TO .none .none) (h1:oU b1 s.heap i1 l1 0) (h2:oU b2 s.heap i2 l2 0) (hl1:pF b1 s.heap l1 xs) (hl2:pF b2 s.heap l2 ys)
  (hn:more.length=min xs.size ys.size) (hb:more.length<=sizeLine) (hT:∀ (i:Nat) x y,xs[i]?=some x->ys[i]?=some y->∃ k,knd.is k x=true/\more[i]?=some (k,y))
  (h:∀ (h':Heap) (tk:Nat),h'.DictOf knd s.heap.objs.size (merged [] more)->(∀ b o,b∉[z,TO,i1,i2]->s.heap.get? b=some o->h'.get? b=some o)->Q (.ref s.heap.objs.size) { s with heap:=h',toks:=tk }) :
  wpAny (model prog w) A (call (.type "dict") [.ref z]) Q E s:=by
 let d:=s.heap.objs.size;have made:(wM s).heap.DictOf knd d []:=Heap.DictOf.new s.heap;have old:∀ b o,s.heap.get? b=some o->(wM s).heap.get? b=some o:=λb o e=>aE _ e
 refine callType_codes F.kt_called_dict (kQ _) F.entry_dict_init (kt_code_dict_new _ (Q₁:=λv j=>v = .ref d/\j=wM s) ⟨rfl,rfl⟩) λv j q=>?_
 obtain⟨rfl,rfl⟩:=q;refine⟨made.typeIs,lJ _ _,JG made.typeIs (old _ _ hz) (by simp[hh]) λc tk e x=>⟨iT vD _,?_⟩⟩;have keeps:∀ b o,s.heap.get? b=some o->c.get? b=some o:=λb o e=>x.keeps _ _ (old b o e)
 obtain⟨N,u⟩:=Bu h1;obtain⟨M,t⟩:=Bu h2;obtain⟨L,m⟩:=Bg hl1;obtain⟨I,l⟩:=Bg hl2;have a:∀ {b o},s.heap.get? b=some o->d≠b:=λe=>(bL (aY e)).symm
 have g:c.DictOf knd d []:=by
  obtain⟨o,C,H,p,r⟩:=made;exact⟨o,C,H,x.keeps _ _ p,r⟩
 refine MO (knd:=knd) (by simp[hh]) D ?_ more hn hb hT s.heap more.length 0 _ rfl (cO _) ⟨keeps _ _ hTI,⟨_,_,keeps _ _ hTO⟩,.inl (keeps _ _ hz)⟩ (rH h1 λo e=>keeps _ o e) (rH h2 λo e=>keeps _ o e) (sD hl1 λo e=>keeps _ o e) (sD hl2 λo e=>keeps _ o e) (λb o _ e=>keeps b o e) (by simpa [merged] using g) λh' f B fin=>?_
 ·simp only[aL,bH,fY,not_or];exact⟨a hz,a hTI,a hTO,a u,a t,a m,a l⟩
 ·refine⟨rfl,h h' f fin λb o hb e=>B b o (λq=>?_) e⟩;simp only[aL,bH,fY,not_or] at hb q;rcases q with q | q | q | q | q
  ·exact hb.1 q
  ·exact hb.2.1 q
  ·exact hb.2.2.1 q
  ·exact hb.2.2.2 q
  ·exact a e q.symm
end
def rV (b:Bool) (t:Addr):Obj:={ cls:=.type (match b with | true => "tuple_iterator" | false => "list_iterator"),data:=.fields #[.ref t,.int 0 0] }
theorem O4 (b:Bool) (e:h.get? it=some (rV b t)):oU b h it t 0:=by
 cases b
 ·exact⟨_,e,rfl,rfl⟩
 ·exact⟨_,e,rfl,rfl⟩
theorem T8 (T:pF b s.heap l xs) (q:Q (.ref s.heap.objs.size) { s with heap:=s.heap.push (rV b l) }):wpAny (model prog w) A (pyIter (.ref l)) Q E s:=by
 cases b
 ·exact gG T q
 ·exact wpAny_pyIter_tuple T q
def Wf (b1 b2:Bool) (h:Heap) (s t:Addr):Heap:=((((h.push (rV b1 s)).push (rV b2 t)).push (B5 (.ref h.objs.size) (.ref (h.push (rV b1 s)).objs.size))).push (B5 .none .none)).push (Rs ((h.push (rV b1 s)).push (rV b2 t)).objs.size (((h.push (rV b1 s)).push (rV b2 t)).push (B5 (.ref h.objs.size) (.ref (h.push (rV b1 s)).objs.size))).objs.size)
theorem Xy (b1 b2:Bool) (l m:Addr) (xs ys:Array Value):Meets (Builtin.«zip.__new__» ⟨[.type "zip",.ref l,.ref m],[]⟩) (λ_ R s=>pF b1 s.heap l xs/\pF b2 s.heap m ys /\ ∀ h',h'=Wf b1 b2 s.heap l m->∀ n,n=s.heap.objs.size+4->R (.ok (.ret (.ref n))) { s with heap:=h' }) :=
 .of_wp λprog w A R s h=>by
  obtain⟨f,g,d,c,os⟩:=s;obtain⟨j,i,h⟩:=h;have under:=sub_zip;have b:pF b1 (Shared.heap ⟨f,g,d,c,os⟩) l xs:=j;have a:pF b2 (Shared.heap ⟨f.push (rV b1 l),g,d,c,os⟩) m ys:=sD i λo e=>aE _ e
  wp_walk using T8 b,T8 a
  refine⟨_,rfl,h _ rfl _ ?_⟩;rw[dP,dP,dP,dP]
section
theorem So (T1:pF b1 s.heap l xs) (T2:pF b2 s.heap m ys)
  (q:∀ h',IsZip h' (s.heap.objs.size+4) (s.heap.objs.size+2) (s.heap.objs.size+3) .none->IsPair h' (s.heap.objs.size+2) (.ref s.heap.objs.size) (.ref (s.heap.objs.size+1))->IsPair h' (s.heap.objs.size+3) .none .none ->oU b1 h' s.heap.objs.size l 0->oU b2 h' (s.heap.objs.size+1) m 0->h'.objs.size=s.heap.objs.size+5->(∀ c o,s.heap.get? c=some o->h'.get? c=some o)->Q (.ref (s.heap.objs.size+4)) { s with heap:=h' }) :
  wpAny (model prog w) A (call (.type "zip") [.ref l,.ref m]) Q E s:=by
 refine callType_new F.called_zip (by decide) (F.typeCall_zip_2 _ _) (F.newCall_zip_2 _ _) (λobj=>F.args_object_init_3 obj _ _) F.entry_zip_new (Xy b1 b2 l m xs ys) ⟨T1,T2,λh' e n k=>?_⟩;subst e k;have i:(s.heap.push (rV b1 l)).objs.size=s.heap.objs.size+1:=dP ..;have h:((s.heap.push (rV b1 l)).push (rV b2 m)).objs.size=s.heap.objs.size+2:=by rw[dP,i]
 have d:∀ p,(((s.heap.push (rV b1 l)).push (rV b2 m)).push p).objs.size=s.heap.objs.size+3:=λp=>by rw[dP,h]
 have j:∀ p q,((((s.heap.push (rV b1 l)).push (rV b2 m)).push p).push q).objs.size=s.heap.objs.size+4:=λp q=>by rw[dP,d]
 have b:∀ (g:Heap) (o:Obj) (n:Nat),o.isFreed=false->g.objs.size=n->(g.push o).get? n=some o:=λg o n f e=>by rw[← e];exact bB _ f
 have a:∀ {g:Heap} {o p:Obj} {c:Addr},g.get? c=some o->(g.push p).get? c=some o:=λe=>aE _ e
 unfold Wf;rw[i,h,d];have z:=b ((((s.heap.push (rV b1 l)).push (rV b2 m)).push (B5 (.ref s.heap.objs.size) (.ref (s.heap.objs.size+1)))).push (B5 .none .none)) (Rs (s.heap.objs.size+2) (s.heap.objs.size+3)) _ rfl (j _ _);exact⟨⟨_,z,rfl⟩,q _ z (a (a (b _ _ _ rfl h))) (a (b _ _ _ rfl (d _))) (O4 b1 (a (a (a (a (bB _ rfl)))))) (O4 b2 (a (a (a (b _ _ _ rfl i))))) (by rw[dP,j]) λc o e=>a (a (a (a (a e))))⟩
end
end PySem
namespace L2
open PySem PySem.Spec PyProof.Rows
def sA (b:Bool) (K:mC) (H:Hp) (a:Addr) (xs:List V):Prop:=match b with
 | true=>nL K H a xs
 | false=>mG K H a xs
section
variable {X:Cx}
theorem Inv.seqB (I:Inv X pins σ H s) (h:sA b X.K H a xs):∃ its:List Value,mX xs its/\pF b s.heap a its.toArray:=by
 cases b
 ·obtain⟨its,r,p,_⟩:=I.list h;exact⟨its,r,p.isList⟩
 ·obtain⟨its,r,p,_⟩:=I.tuple h;exact⟨its,r,p⟩
theorem Inv.seqB_inj (I:Inv X pins σ H s) (h:sA b X.K H a xs) (h':sA b X.K H a ys):xs=ys:=by
 cases b
 ·exact I.list_inj h h'
 ·exact I.tuple_inj h h'
theorem Vq (x:oU b h it t i):∃ o,h.get? it=some o/\∀ v,o.data ≠ .cell v:=by
 cases b
 ·obtain⟨o,e,_,d⟩:=(show h.IsListIter it t i from x);exact⟨o,e,λv z=>by rw[d] at z;cases z⟩
 ·obtain⟨o,e,_,d⟩:=(show h.IsTupleIter it t i from x);exact⟨o,e,λv z=>by rw[d] at z;cases z⟩
end
def Kg (b1 b2:Bool) (K:mC) (a b:Addr):It :=
 ⟨λi H=>∃ xs ys x y,sA b1 K H a xs/\sA b2 K H b ys/\xs[i]?=some x/\ys[i]?=some y,λi H v H'=>∃ p x y,H p=none/\v = .ref p/\H'=upd H p (.tup [x,y])/\(∀ xs,sA b1 K H a xs->xs[i]?=some x)/\(∀ ys,sA b2 K H b ys->ys[i]?=some y),λi H=>∃ xs ys,sA b1 K H a xs/\sA b2 K H b ys/\(xs.length<=i\/ys.length<=i)⟩
def OI (b1 b2:Bool) (a b z TI TO i1 i2:Addr) (i:Nat) (h:Heap):Prop:=IsZip h z TI TO .none/\IsPair h TI (.ref i1) (.ref i2)/\(∃ u v,IsPair h TO u v)/\oU b1 h i1 a i/\oU b2 h i2 b i
theorem KD {P:Program}{K:mC}{TI TO:Addr}(D:ZipApart z TI TO i1 i2 a b) :
  Turn P w K (.Tuple elts x1 pos) (Kg b1 b2 K a b) [z,TI,TO,i1,i2] z (OI b1 b2 a b z TI TO i1 i2) where
 mem:=by simp
 obj:=λi h st c B=>by
  obtain⟨l,j,⟨u,v,m⟩,g,f⟩:=st;obtain⟨o4,g,d4⟩:=Vq g;obtain⟨o5,f,d5⟩:=Vq f;simp only[aL,bH,fY] at B;rcases B with e | e | e | e | e<;>subst e
  ·exact⟨_,l,λv z=>nomatch z⟩
  ·exact⟨_,j,λv z=>nomatch z⟩
  ·exact⟨_,m,λv z=>nomatch z⟩
  ·exact⟨_,g,d4⟩
  ·exact⟨_,f,d5⟩
 keep:=λi h h' st k=>by
  obtain⟨l,j,⟨u,v,m⟩,g,f⟩:=st;exact⟨k z (by simp) _ l,k TI (by simp) _ j,⟨u,v,k TO (by simp) _ m⟩,rH g λo e=>k i1 (by simp) o e,rH f λo e=>k i2 (by simp) o e⟩
 item:=by
  intro X hP hw hK B i r s σ H E I L st hg;subst hP hw hK;obtain⟨l,j,⟨u,v,m⟩,g,f⟩:=st;obtain⟨xs,ys,x,y,F,C,hx,hy⟩:=hg;obtain⟨ab,U,Z⟩:=I.seqB F;obtain⟨aa,T,py⟩:=I.seqB C;obtain⟨O,ae,W⟩:=U.get hx;obtain⟨N,ac,V⟩:=T.get hy;refine Wo D l j m g f Z py (x:=O) (y:=N) (by simpa using ae) (by simpa using ac) λh' n1 n2 n3 n4 n5 n6 n7=>?_
  refine⟨_,rfl,wpAny_letOwnedTupleGo_zip n1 λh2 m1 p=>?_⟩;have kp:∀ c o,c∉[z,TI,TO,i1,i2]->s.heap.get? c=some o->h2.get? c=some o:=λc o d e=>by
   simp only[aL,bH,fY,not_or] at d;obtain⟨M,e2,e3,e4,e5⟩:=d;exact p.extBut c o M (n7 c o M e3 e4 e5 e)
  have zs:s.heap.objs.size≠z:=λe=>gD _ (by have:=aY l;rw[← e] at this;exact this)
  have nt:yE h2 s.heap.objs.size [O,N].toArray:=⟨⟨_,p.extBut _ _ zs n5,rfl,_,rfl⟩,_,p.extBut _ _ zs n5,rfl⟩;have I2:=I.movedT (t':=s.toks) (ys:=[x,y]) L kp nt (.cons W (.cons V .nil)) (by show 2<=sizeLine;decide);refine⟨.ref s.heap.objs.size,_,I2,rfl,⟨_,x,y,I.fresh,rfl,rfl,λag Y=>by rw[I.seqB_inj Y F];exact hx,λaf Y=>by rw[I.seqB_inj Y C];exact hy⟩,⟨m1,?_,⟨O,N,?_⟩,?_,?_⟩,λc d=>?_⟩
  ·exact p.extBut _ _ D.TIz (n7 TI _ D.TIz D.TITO D.TIi1 D.TIi2 j)
  ·exact p.extBut _ _ D.TOz n2
  ·exact rH n3 λo e=>p.extBut _ o D.i1z e
  ·exact rH n4 λo e=>p.extBut _ o D.i2z e
  ·rw[mO]
   ·exact (L c d).1
   ·intro e;obtain⟨o,ho⟩:∃ o,s.heap.get? c=some o:=by
     obtain⟨o4,S⟩:=Bu g;obtain⟨o5,Q⟩:=Bu f;simp only[aL,bH,fY] at d;rcases d with q | q | q | q | q<;>rw[q]
     ·exact⟨_,l⟩
     ·exact⟨_,j⟩
     ·exact⟨_,m⟩
     ·exact⟨_,S⟩
     ·exact⟨_,Q⟩
    have:=aY ho;rw[e] at this;exact gD _ this
 done:=by
  intro X hP hw hK B i r s σ H E I L st hg;subst hP hw hK;obtain⟨l,j,⟨u,v,m⟩,g,f⟩:=st;obtain⟨xs,ys,F,C,t⟩:=hg;obtain⟨ab,U,Z⟩:=I.seqB F;obtain⟨aa,T,py⟩:=I.seqB C;have lx:=U.length;have ly:=T.length;refine To (I.ok.hd B) D l j m g f Z py ?_ λh' k=>⟨rfl,I.moved (t':=s.toks) L λc o d e=>?_⟩
  ·rcases t with q | q
   ·exact .inl (by simp;omega)
   ·exact .inr (by simp;omega)
  ·simp only[aL,bH,fY,not_or] at d;obtain⟨M,e2,e3,e4,e5⟩:=d;exact k c o M e3 e4 e5 e
 self:=λ_ _ _ _ _ st h=>wpAny_pyIter_zip st.1 h
section
variable {X:Cx}
def EX (K:mC) (ta:TA):TI:=λσ H R=>ta σ H λvs H1=>∃ a b b1 b2,vs=[.ref a,.ref b]/\(∃ xs,sA b1 K H1 a xs)/\(∃ ys,sA b2 K H1 b ys)/\R (Kg b1 b2 K a b) H1
theorem BF (hg:Gl X "zip") (hm:X.mg "zip" = none) (ha:PA X [e1,e2] ta) (hs:starEach [e1,e2] X.env=(false,eval e1 X.env)::starEach [e2] X.env:=by rfl)
  (hpl:(backTo pos (starEach [e2] X.env)).any (·.1)=false:=by rfl):PI X (.Tuple elts x1 ps) (.Call (.Name "zip" p) [e1,e2] [] pos) (EX X.K ta):=by
 intro f s k H R I h;refine Call_ (yP I hg hm boot_zip (dY (mR (ha pos f s k H _ I h) λZ d ⟨Y,r,g,y,E⟩=>?_) hs hpl));obtain⟨a,b,b1,b2,rfl,⟨W,C⟩,⟨V,B⟩,q⟩:=E;obtain⟨u,v,rfl,x,t⟩:=At y;cases x;cases t;obtain⟨S,rx,l⟩:=g.seqB C;obtain⟨Q,ry,py⟩:=g.seqB B;have j:a<d.heap.objs.size:=by obtain⟨_,e⟩:=Bg l;exact aY e
 have i:b<d.heap.objs.size:=by obtain⟨_,e⟩:=Bg py;exact aY e
 refine So l py λT m O N M L n6 F=>?_
 have U:Inv X f k r { d with heap:=T }:=g.kept (t':=d.toks) F;refine wpAny_pyIter_zip m ⟨_,[_,_,_,_,_],_,_,r,rfl,U,KD (a:=a) (b:=b) (i1:=d.heap.objs.size) (i2:=d.heap.objs.size+1) (z:=d.heap.objs.size+4) (TI:=d.heap.objs.size+2) (TO:=d.heap.objs.size+3) ?_,⟨m,O,⟨_,_,N⟩,M,L⟩,λc o=>?_,q⟩
 ·constructor<;>first | exact bL j | exact bL i | exact bL (bI j (gU _ _)) | exact bL (bI i (gU _ _)) | exact iC j | exact iC i | exact iC (bI j (gU _ _)) | exact iC (bI i (gU _ _)) | exact (by show (_:Nat)≠_;omega)
 ·simp only[aL,bH,fY] at o;rcases o with e | e | e | e | e<;>(subst e;exact g.fpOk (by omega) (g.hok.fresh (by omega)))
variable {K:mC}
def yQ:D->Option (Bool×List D)
 | .lst xs=>some (false,xs)
 | .tup xs=>some (true,xs)
 | _=>none
theorem Ge (e:yQ d=some (b,xs)) (r:Rep K A H d v):∃ a vs,v = .ref a/\sA b K H a vs/\Reps K A H xs vs:=by
 cases d<;>first | cases e | skip
 ·obtain⟨a,vs,rfl,h,r⟩:=r.tup_inv;exact⟨a,vs,rfl,nL.of h,r⟩
 ·obtain⟨a,vs,rfl,_,h,r⟩:=r.lst_inv;exact⟨a,vs,rfl,mG.of h,r⟩
def Ak (xs ys:List D):List D:=xs.zipWith (λx y=>D.tup [x,y]) ys
theorem Qm (xs ys:List D):(Ak xs ys).length=min xs.length ys.length:=List.length_zipWith
theorem DO {xs ys:List D}{i:Nat}{x y:D}(h1:xs[i]?=some x) (h2:ys[i]?=some y):(Ak xs ys)[i]?=some (.tup [x,y]):=by
 unfold Ak;rw[List.getElem?_zipWith,h1,h2]
theorem CO {d1 d2:D}(e1:yQ d1=some (b1,xs)) (e2:yQ d2=some (b2,ys)):YD K (Kg b1 b2 K a b) (Ak xs ys) [(.val d1,some (.ref a)),(.val d2,some (.ref b))]:=by
 have key:∀ A H,yG K A H [(.val d1,some (.ref a)),(.val d2,some (.ref b))]->(∃ c,sA b1 K H a c/\Reps K A H xs c)/\∃ d,sA b2 K H b d/\Reps K A H ys d:=λA H ok=>by
  obtain⟨v,z,f⟩:=ok (.val d1,some (.ref a)) aK;obtain⟨u,t,e⟩:=ok (.val d2,some (.ref b)) (aT _ aK);cases z;cases t;obtain⟨O,c,r,h,l⟩:=Ge e1 f;obtain⟨N,d,q,g,k⟩:=Ge e2 e;cases r;cases q;exact⟨⟨c,h,l⟩,d,g,k⟩
 refine⟨rfl,λi H A j ok=>?_,λi H A x Q j ok y=>?_,λi H A j ok=>?_⟩
 ·obtain⟨⟨c,h,f⟩,d,g,e⟩:=key A H ok;rw[Qm,f.length,e.length] at j;exact⟨c,d,c[i]'(by omega),d[i]'(by omega),h,g,aG _,aG _⟩
 ·obtain⟨⟨c,h,f⟩,d,g,e⟩:=key A H ok;obtain⟨p,I,F,E,rfl,rfl,C,B⟩:=y;obtain⟨M,o,l⟩:=f.getV (C c h);obtain⟨L,m,k⟩:=e.getV (B d g);exact⟨_,DO o m,.inr ⟨p,_,_,E,rfl,rfl,rfl,.cons l (.cons k .nil)⟩⟩
 ·obtain⟨⟨c,h,f⟩,d,g,e⟩:=key A H ok;rw[Qm,f.length,e.length] at j;exact⟨c,d,h,g,by omega⟩
def EK (ta:tS):vX:=λdk ρ Ψ=>ta dk ρ λas ρ'=>match as with
 | [.t d1,.t d2]=>∃ b1 b2 xs ys,yQ d1=some (b1,xs)/\yQ d2=some (b2,ys)/\Ψ (Ak xs ys) ρ'
 | _=>False
theorem Ey (hg:Gl X "zip") (hm:X.mg "zip" = none) (ha:tT X [e1,e2] ta) (hs:starEach [e1,e2] X.env=(false,eval e1 X.env)::starEach [e2] X.env:=by rfl)
  (hpl:(backTo pos (starEach [e2] X.env)).any (·.1)=false:=by rfl):xT X (.Tuple elts x1 ps) (.Call (.Name "zip" p) [e1,e2] [] pos) (EK ta) :=
 (BF hg hm ha hs hpl).mono λj H R e=>e.elim λB l T L C hd z k=>⟨B,l,T,_,C,hd,z,λas d o I y ok d1 c=>by
  match as,o,ok,c,d1 with
  | [.t i,.t h],_,.t (.t .nil),c,d1 =>
   obtain⟨F,E,N,M,g,f,c⟩:=c
   rename_i v1 q
   have r:=d1.temps (.t (.t .nil):ArOk j [.t i,.t h] [v1,q]) [i,h] rfl;cases r with
   | cons x r =>
    cases r with
    | cons v r =>
     obtain⟨a,u,rfl,g1,_⟩:=Ge g x;obtain⟨b,m,rfl,g2,_⟩:=Ge f v;exact⟨a,b,F,E,rfl,⟨u,g1⟩,⟨m,g2⟩,k _ _ d [_,_] I y d1 (CO g f) c⟩⟩
end
end L2
namespace L2
open PySem PySem.Spec PyProof.Rows Lw
section
variable {X:Cx}
def QA (K:mC) (ta:TA):TE:=λσ H Q=>ta σ H λxs H1=>∃ (b1 b2:Bool) (l m:Addr) (ks:List hI) (vs:List V),xs=[.ref l,.ref m]/\sA b1 K H1 l (ks.map kV)/\sA b2 K H1 m vs/\ks.length<=1000/\∀ d,H1 d=none->Q (.ref d) (upd H1 d (.dK (sL [] (ks.zip vs))))
theorem MV (hcalm:X.calm=true) (hg:Gl X "dict") (hm:X.mg "dict" = none) (hg':Gl X "zip") (hm':X.mg "zip" = none) (ha:PA X [a,b] ta)
  (hs:starEach [a,b] X.env=(false,eval a X.env)::starEach [b] X.env:=by rfl) (hs2:(backTo pos' (starEach [b] X.env)).any (·.1)=false:=by rfl) :
  PE X (.Call (.Name "dict" p) [.Call (.Name "zip" p') [a,b] [] pos'] [] pos) (QA X.K ta):=by
 intro t s σ H Q I h;refine gW (yP I hg hm boot_dict ?_ (by decide) (by decide));refine dY ?_ rfl rfl;show wpAny _ _ (spliced ((false,eval (.Call (.Name "zip" p') [a,b] [] pos') X.env)::backTo pos (starEach [] X.env))) _ _ s;refine jO ?_;refine gW (yP I hg' hm' boot_zip ?_ (by decide) (by decide));refine dY (mR (ha pos' t s σ H _ I h) λus k ⟨xs,H1,j,O,q1⟩=>?_) hs hs2;obtain⟨b1,b2,l,m,c,z,rfl,hl,hv,hn,q⟩:=q1;obtain⟨F,E,rfl,M,L⟩:∃ F E,us=[F,E]/\nB (.ref l) F/\nB (.ref m) E:=by
  cases O with | cons O N=>cases N with | cons N r3=>cases r3;exact⟨_,_,rfl,O,N⟩
 cases M;cases L;obtain⟨V,r',S⟩:=j.seqB hl;obtain⟨f,r,d⟩:=j.seqB hv;refine So S d λB z1 z2 z3 z4 z5 z6 C=>?_
 refine Calls.spliced_nil ?_;have L1:=r'.length;have L2:=r.length;rw[aA] at L1;have Z:=Ui c r;have U:l<k.heap.objs.size:=by obtain⟨_,e⟩:=Bg S;exact aY e
 have T:m<k.heap.objs.size:=by obtain⟨_,e⟩:=Bg d;exact aY e
 refine JU (knd:=qC X.prog X.w) (more:=c.zip f) (s:={ k with heap:=B }) (j.ok.hd hcalm) (zipApart_new U T) z1 z2 z3 z4 z5 (sD S λo e=>C _ o e) (sD d λo e=>C _ o e) ?_ ?_ ?_ λh2 tk hD hk=>?_
 ·rw[iB,aW,aW];omega
 ·rw[iB];exact eL (cM (show min c.length f.length<=1000 by omega) (by decide))
 ·intro i x y v Y;have v:V[i]?=some x:=by simpa using v
  have Y:f[i]?=some y:=by simpa using Y
  obtain⟨hi,_⟩:=aU.mp v;obtain⟨u,hu,ru⟩:=r'.get (i:=i) (x:=kV (c[i]'(by omega))) (by simp[show i<c.length by omega]);rw[hu] at v;cases v;refine⟨c[i]'(by omega),yK ru,?_⟩;rw[List.getElem?_zip_eq_some];exact⟨aG _,Y⟩
 ·have W:(sL [] (c.zip z)).length<=sizeLine:=by
   have h1:=Gm (c.zip z) [];rw[gJ,iB] at h1;exact eL (cM (show (sL [] (c.zip z)).length<=1000 by omega) (by decide))
  have g:k.heap.objs.size<=B.objs.size:=by omega
  have kp:∀ b o,k.heap.get? b=some o->h2.get? b=some o:=λb o e=>hk b o (λq=>by
   have:=aY e;simp only[aL,bH,fY] at q;rcases q with q | q | q | q<;>rw[q] at this<;>first | exact absurd this (gD _) | exact absurd this (Nat.not_lt.mpr (gU _ _))) (C b o e)
  refine⟨.ref B.objs.size,_,j.laid (a:=B.objs.size) (o:=.dK (sL [] (c.zip z))) (t':=tk) kp g ?_,rfl,q _ (j.hok.fresh g)⟩;exact Ed W (cP.mpr (eC (bL (bI j.big g)))) (Z.merge .nil) hD
end
section
variable {X:Cx}{K:mC}
def Qg:OC:=λds Φ=>match ds with
 | [d1,d2]=>∃ b1 b2 xs ys ks,yQ d1=some (b1,xs)/\yQ d2=some (b2,ys)/\xQ xs=some ks/\ks.length<=1000/\Φ (.own (.dK (qJ [] (ks.zip ys))))
 | _=>False
theorem Ve (e:yQ d=some (b,xs)) (r:oB K A H d v):∃ a vs,v = .ref a/\sA b K H a vs/\Reps K A H xs vs:=by
 cases d<;>first | cases e | skip
 ·obtain⟨a,vs,rfl,h,r⟩:=Rep.tup_inv r;exact⟨a,vs,rfl,nL.of h,r⟩
 ·obtain⟨a,vs,rfl,h,r⟩:=r.lst_inv;exact⟨a,vs,rfl,mG.of h,r⟩
theorem AY:sG K (λxs H Q=>∃ (b1 b2:Bool) (l m:Addr) (ks:List hI) (vs:List V),xs=[.ref l,.ref m]/\sA b1 K H l (ks.map kV)/\sA b2 K H m vs/\ks.length<=1000/\∀ d,H d=none->Q (.ref d) (upd H d (.dK (sL [] (ks.zip vs))))) Qg:=by
 intro B L H F xs I Q hd f c k
 match F,c with
 | [d1,d2],c =>
  obtain⟨x,y,rfl,r,py⟩:=Dd f;obtain⟨b1,b2,xs,M,ks,E,C,u,t,c⟩:=c;obtain⟨a,N,rfl,z,j⟩:=Ve E r;obtain⟨b,vs,rfl,v,i⟩:=Ve C py;have e:=Zh u j;subst e;obtain⟨h,g⟩:=Rj ks i;obtain⟨q,o⟩:=Ff (kvs:=[]) (vs:=[]) h g rfl .nil;exact⟨b1,b2,a,b,ks,vs,rfl,z,v,t,λp f=>k _ _ _ c (hd.dKF f q o)⟩
theorem Ci (hcalm:X.calm=true) (hg:Gl X "dict") (hm:X.mg "dict" = none) (hg':Gl X "zip") (hm':X.mg "zip" = none) (ha:tT X [a,b] ta)
  (hs:starEach [a,b] X.env=(false,eval a X.env)::starEach [b] X.env:=by rfl) (hs2:(backTo pos' (starEach [b] X.env)).any (·.1)=false:=by rfl) :
  PD X (.Call (.Name "dict" p) [.Call (.Name "zip" p') [a,b] [] pos'] [] pos) (dC Qg ta):=(MV hcalm hg hm hg' hm' ha hs hs2).mono λ_ _ _ h=>M6 AY h
end
end L2
namespace Lw
open PySem L2
structure WtOk (b:Int) (t:nK):Prop where
 nd:(t.map (·.1)).Nodup
 l:t.length<=60
 bd:∀ p∈t,-b<=p.2/\p.2<=b
theorem R8 (t:nK) (x:Str) (i:Int):(wB t x i).map (·.1)=if x∈t.map (·.1) then t.map (·.1) else t.map (·.1)++[x]:=by
 unfold wB;by_cases h:x∈t.map (·.1)
 ·rw[aP h,aP h,aQ];refine eP λp _=>?_
  show (if p.1=x then (p.1,i) else p).1=p.1;by_cases q:p.1=x
  ·rw[aP q]
  ·rw[aM q]
 ·rw[aM h,aM h,aJ];rfl
theorem FR (h:p∈wB t x i):p∈t\/p=(x,i):=by
 unfold wB at h;by_cases a:x∈t.map (·.1)
 ·rw[aP a] at h;obtain⟨q,b,e⟩:=aV.mp h;by_cases z:q.1=x
  ·rw[aP z] at e;exact .inr (by rw[← e,z])
  ·rw[aM z] at e;exact .inl (e▸b)
 ·rw[aM a] at h;rcases aR.mp h with h | h
  ·exact .inl h
  ·exact .inr (bA.mp h)
theorem Jh (h:(t.map (·.1)).Nodup):((wB t x i).map (·.1)).Nodup:=by
 rw[R8];by_cases c:x∈t.map (·.1)
 ·rw[aP c];exact h
 ·rw[aM c];exact bK.mpr ⟨h,by simp,λa f b d e=>by rw[bA.mp d] at e;exact c (e▸f)⟩
theorem Kv (t:nK) (x:Str) (i:Int):(wB t x i).length<=t.length+1:=by
 have:=cV List.length (R8 t x i);rw[aA] at this;by_cases a:x∈t.map (·.1)
 ·rw[aP a,aA] at this;omega
 ·rw[aM a,aH,aA] at this;simp at this;omega
theorem RE:(sC.all λk=>(pQ (kN k)).all λp=>match intText? p.2 with | some v=>decide (-9<=v)&&decide (v<=9) | none=>true)=true:=by decide +kernel
theorem QI (hk:k∈sC) (hp:p∈pQ (kN k)) (hv:intText? p.2=some v):-9<=v/\v<=9:=by
 have:=cG.mp (cG.mp RE k hk) p hp;rw[hv] at this
 simpa using this
def Qq:RD:=λdk ds Φ=>∃ (d c:Addr) (k:Kit),dk=[d,c]/\ds=[.raw (.ref d),tE k]/\k∈sC/\∀ C al wt,GoodRow C al->WtOk 9 wt->Φ (.own (.lst [rT C al,.dK (hO wt)]))
abbrev pH (d:Addr) (k:Kit) (s2 s3 s4 s5 s6 s7 s8 s9 s10 s11 s12 s13 s14:Sl):List Sl:=[.val (.raw (.ref d)),.val (tE k),s2,s3,s4,s5,s6,s7,s8,s9,s10,s11,s12,s13,s14]
theorem Yx (h:x∉t.map (·.1)) (hl:t.length<100000):uJ (.dK (oE t)) (.str x) (.str n)=some (.dK (oE (t++[(x,n)]))):=by
 simp only[uJ,aP (show (oE t).length<100000 by simpa [oE] using hl)];show some (D.dK (nR (oE t) (Sum.inr x) (.str n)))=_;rw[Tz h]
abbrev sl (xs:List Str):D:=.lst (xs.map D.str)
def pR (n:Nat):List D:=(List.range n).map λi=>D.str (pJ i)
theorem Xj:(["k"]:List Str).Nodup:=by decide +kernel
theorem KA:(["text"]:List Str).Nodup:=by decide +kernel
theorem Xq:(["gate"]:List Str).Nodup:=by decide +kernel
theorem W8:(["gate","names"]:List Str).Nodup:=by decide +kernel
theorem Kt:(["one","names"]:List Str).Nodup:=by decide +kernel
theorem Xs:(["k","names","pairs"]:List Str).Nodup:=by decide +kernel
section
variable {P:Program}{K:mC}
theorem sP:FnScope ["deck","kit","ins","outs","pairs","numbers","idle","gates","name","own","names","rows","along","weights","k"] ["deck","kit"] (nF Fx):=oW
theorem DI (F:Fun K "_law_made" "_law_made" Fx f fd) (T:Txt mg) (mN:Gd K mg "_law_take" wW ["deck","many"] fT fdT) (zH:Gd K mg "_law_names" B9 ["deck","many"] fN fdN)
  (uQ:Gd K mg "_law_shuffled" Ch ["deck","some"] fS fdS) (tX:Gd K mg "_law_words" F2 ["text"] fW fdW)
  (oM:FnOk P w K mg base mJ 1 fT fdT ["deck","many"] (mQ K yD)) (I0:FnOk P w K mg base mJ 3 fN fdN ["deck","many"] (mQ K Nn))
  (C0:FnOk P w K mg base mJ 2 fS fdS ["deck","some"] (mQ K Lx)) (Ec:FnOk P w K mg base mJ 1 fW fdW ["text"] (mQ K Pl)) :
  FnOk P w K mg base mJ 4 f fd ["deck","kit"] (mQ K Qq):=by
 refine F.okD (k:=3) sP (λdk ds Φ ⟨_,_,_,_,e,_⟩=>by rw[e];rfl) (by decide) λbq A a5 s H E dk ds Φ hr hR=>?_
 have Q:=oX hr;obtain⟨d,c,k,rfl,rfl,hk,a7⟩:=hR;have S:=CQ hk;have tx:=S.tx;refine⟨_,(mF (mY (i:=2) sP.nd rfl (Or.inl rfl) (mV Ec (hr.mono (by decide)) (by rfl) tX.m tX.k tX.b (aD (mP Q (pv 1) kD) gV))) (mF (mY (i:=3) sP.nd rfl (Or.inl rfl) (mV Ec (hr.mono (by decide)) (by rfl) tX.m tX.k tX.b (aD (mP Q (pv 1) kD) gV))) (mF (mY (i:=4) sP.nd rfl (Or.inr rfl) (mV Ec (hr.mono (by decide)) (by rfl) tX.m tX.k tX.b (aD (mP Q (pv 1) kD) gV))) (mF (mY (i:=5) sP.nd rfl (Or.inl rfl) (mV Ec (hr.mono (by decide)) (by rfl) tX.m tX.k tX.b (aD (mP Q (pv 1) kD) gV))) (mF (Ab (i:=6) ["k"] [] [] sP.nd rfl (Or.inl rfl) rfl (Aj (by rfl) T.range (pY Q (nN (aD kD (aD kD (aD kD (aD (mV oM (hr.mono (by decide)) (by rfl) mN.m mN.k mN.b (aD (eA 0 (pv 0)) (aD kD gV))) gV))))) (mV oM (hr.mono (by decide)) (by rfl) mN.m mN.k mN.b (aD (eA 0 (pv 0)) (aD kD gV))))) rfl rfl (λ_ _ _ _ _=>(mM (i:=0) Xj rfl (Or.inl rfl))) (λ_ _ _ _ _=>pG) (λ_ _ _ _ _=>(nZ nT nU mS (pC AF Yj (by rfl) T.str PyProof.Rows.boot_str (aD (eA 0 (pv 0)) gV))))) (mF (mY (i:=7) sP.nd rfl (Or.inl rfl) (nN gV)) (mF (qU (m:=99) bM rfl (nS (eA 6 (pv 6))) (mM (i:=8) sP.nd rfl (Or.inl rfl)) (mW (rW (qX bG bN bO rQ sU (pv 7) (aD (pY Q (nN (aD (nN (aD (eA 8 (pv 8)) (aD (pY Q (nN (aD mS (aD mS gV))) (mV oM (hr.mono (by decide)) (by rfl) mN.m mN.k mN.b (aD (eA 0 (pv 0)) (aD kD gV)))) gV))) (aD (nZ nT nU (nN (aD (eA 8 (pv 8)) (aD mS gV))) (tJ uD tW (pv 6) sZ (tL kD))) gV))) (pC zN Ah (by rfl) T.int eR (aD (Cp Dj Dc (oF qQ qR (by rfl) T.len bP (tH (pv 7) gV)) kD) gV))) gV))))) (mF (mY (i:=3) sP.nd rfl (Or.inl rfl) (pL nT nU (pv 3) (nZ wD wI (tJ uD tW (pv 6) (tL (wG kD)) sZ) (mV oM (hr.mono (by decide)) (by rfl) mN.m mN.k mN.b (aD (eA 0 (pv 0)) (aD kD gV)))))) (mF (mY (i:=7) sP.nd rfl (Or.inl rfl) (pL nT nU (pv 7) (pP ["text"] [] [] rfl (nS (mP Q (pv 1) kD)) rfl rfl (λ_ _ _ _ _=>(mM (i:=0) KA rfl (Or.inl rfl))) (λ_ _ _ _ _=>pG) (λ_ _ _ _ _=>(mV Ec (hr.mono (by decide)) (by rfl) tX.m tX.k tX.b (aD (eA 0 (pv 0)) gV)))))) (mF (mY (i:=9) sP.nd rfl (Or.inl rfl) (pL nT nU (pv 2) (pP ["gate"] [] [] rfl (nS (eA 7 (pv 7))) rfl rfl (λ_ _ _ _ _=>(mM (i:=0) Xq rfl (Or.inl rfl))) (λ_ _ _ _ _=>pG) (λ_ _ _ _ _=>(mP Q (pv 0) kD))))) (mF (mY (i:=10) sP.nd rfl (Or.inr rfl) (Ci rfl (by rfl) T.dict (by rfl) T.zip (aD (eA 9 (pv 9)) (aD (mV I0 (hr.mono (by decide)) (by rfl) zH.m zH.k zH.b (aD (eA 0 (pv 0)) (aD (oF qQ qR (by rfl) T.len bP (aD (eA 9 (pv 9)) gV)) gV))) gV)))) (mF (Ab (i:=11) ["gate"] ["names"] [10] sP.nd rfl (Or.inl rfl) rfl (nS (eA 7 (pv 7))) rfl rfl (λ_ _ _ _ _=>(mM (i:=0) W8 rfl (Or.inl rfl))) (λ_ _ _ _ _=>pG) (λ_ _ _ _ _=>(oS (aD (mP Q (pv 1) (mP Q (pv 0) kD)) (aD (mP Q (pv 0) kD) (aD (pC tN tO (by rfl) T.tuple bU (aD (pP ["one"] ["names"] [1] rfl (nS (tJ uD tW (pv 0) (tL kD) sZ)) rfl rfl (λ_ _ _ _ _=>(mM (i:=0) Kt rfl (Or.inl rfl))) (λ_ _ _ _ _=>pG) (λ_ _ _ _ _=>(mP Q (pv 1) (eA 0 (pv 0))))) gV)) gV)))))) (mF (Ab (i:=2) ["one"] ["names"] [10] sP.nd rfl (Or.inl rfl) rfl (nS (mV C0 (hr.mono (by decide)) (by rfl) uQ.m uQ.k uQ.b (aD (eA 0 (pv 0)) (aD (eA 2 (pv 2)) gV)))) rfl rfl (λ_ _ _ _ _=>(mM (i:=0) Kt rfl (Or.inl rfl))) (λ_ _ _ _ _=>pG) (λ_ _ _ _ _=>(mP Q (pv 1) (eA 0 (pv 0))))) (mF (Ab (i:=3) ["one"] ["names"] [10] sP.nd rfl (Or.inl rfl) rfl (nS (mV C0 (hr.mono (by decide)) (by rfl) uQ.m uQ.k uQ.b (aD (eA 0 (pv 0)) (aD (eA 3 (pv 3)) gV)))) rfl rfl (λ_ _ _ _ _=>(mM (i:=0) Kt rfl (Or.inl rfl))) (λ_ _ _ _ _=>pG) (λ_ _ _ _ _=>(mP Q (pv 1) (eA 0 (pv 0))))) (mF (Ab (i:=12) ["k"] ["names","pairs"] [10,4] sP.nd rfl (Or.inl rfl) rfl (S0 (by rfl) T.range kD (oF qQ qR (by rfl) T.len bP (aD (eA 4 (pv 4)) gV)) kD) rfl rfl (λ_ _ _ _ _=>(mM (i:=0) Xs rfl (Or.inl rfl))) (λ_ _ _ _ _=>pG) (λ_ _ _ _ _=>(oS (aD (mP Q (pv 1) (mP Q (pv 2) (eA 0 (pv 0)))) (aD (mP Q (pv 1) (mP Q (pv 2) (pL nT nU (pv 0) kD))) gV))))) (mF (vW (n:=10) Q mS (pv 10) mS) (mF (mY (i:=13) sP.nd rfl (Or.inl rfl) Jb) (mF (qU (m:=99) bM rfl (S0 (by rfl) T.range kD (oF qQ qR (by rfl) T.len bP (aD (eA 5 (pv 5)) gV)) kD) (mM (i:=14) sP.nd rfl (Or.inl rfl)) (mW (vW (n:=13) Q (pC zN Ah (by rfl) T.int eR (aD (mP Q (pv 5) (pL nT nU (pv 14) kD)) gV)) (pv 13) (mP Q (pv 10) (mP Q (pv 5) (eA 14 (pv 14))))))) (mW (nQ (nN (aD (oS (aD (oS (aD (pC tN tO (by rfl) T.tuple bU (aD (eA 2 (pv 2)) gV)) (aD (pC tN tO (by rfl) T.tuple bU (aD (eA 11 (pv 11)) gV)) (aD (pC tN tO (by rfl) T.tuple bU (aD (eA 3 (pv 3)) gV)) gV)))) (aD (pC tN tO (by rfl) T.tuple bU (aD (mV C0 (hr.mono (by decide)) (by rfl) uQ.m uQ.k uQ.b (aD (eA 0 (pv 0)) (aD (eA 12 (pv 12)) gV))) gV)) gV))) (aD (eA 13 (pv 13)) gV))))))))))))))))))))))),?_⟩;refine mK (λu=>u=pH d k (.own (sl (kI k))) .no .no .no .no .no .no .no .no .no .no .no .no) (λN C=>⟨rfl,_,rfl,k.ins,rfl,(tx _ (by simp)).1,(tx _ (by simp)).2,.inl rfl,C _ rfl⟩) ?_;rintro _ rfl;refine mK (λu=>u=pH d k (.own (sl (kI k))) (.own (sl (kO k))) .no .no .no .no .no .no .no .no .no .no .no) (λN C=>⟨rfl,_,rfl,k.outs,rfl,(tx _ (by simp)).1,(tx _ (by simp)).2,.inl rfl,C _ rfl⟩) ?_;rintro _ rfl;refine mK (λu=>u=pH d k (.own (sl (kI k))) (.own (sl (kO k))) (.own (sl (kP k))) .no .no .no .no .no .no .no .no .no .no) (λN C=>⟨rfl,_,rfl,k.pairs,rfl,(tx _ (by simp)).1,(tx _ (by simp)).2,.inl rfl,C _ rfl⟩) ?_;rintro _ rfl;refine mK (λu=>u=pH d k (.own (sl (kI k))) (.own (sl (kO k))) (.own (sl (kP k))) (.own (sl (kN k))) .no .no .no .no .no .no .no .no .no) (λN C=>⟨rfl,_,rfl,k.nums,rfl,(tx _ (by simp)).1,(tx _ (by simp)).2,.inl rfl,C _ rfl⟩) ?_;rintro _ rfl;refine mK (λu=>∃ n,n<19/\u=pH d k (.own (sl (kI k))) (.own (sl (kO k))) (.own (sl (kP k))) (.own (sl (kN k))) (.own (.lst (pR n))) .no .no .no .no .no .no .no .no) (λN C=>?_) ?_
 ·unfold rG uF Sb;refine⟨d,c,19,rfl,rfl,by decide,by decide,λr1 V=>⟨.inl rfl,by show 4<=1000;decide,d,c,4,rfl,rfl,by decide,by decide,λr2 Y=>⟨.inl rfl,?_⟩⟩⟩;obtain⟨m,hm,ao⟩:∃ m:Nat,m<19/\oZ [D.int 0,.int 0,.int 1,.int (r1:Int)] (r2:Int)=some (.int (m:Int)):=by
   have:r2=0\/r2=1\/r2=2\/r2=3:=by omega
   rcases this with rfl | rfl | rfl | rfl
   ·exact⟨0,by decide,qG rfl⟩
   ·exact⟨0,by decide,qG rfl⟩
   ·exact⟨1,by decide,qG rfl⟩
   ·exact⟨r1,by omega,qG rfl⟩
  refine⟨_,ao,by omega,by omega,?_⟩;rw[cC];refine Ij (Φ:=λr ab=>N (ab.set 6 r)) (List.range m) (λ(i:Nat)=>D.int (0+(i:Int))) (λi=>.str (pJ i)) (pH d k (.own (sl (kI k))) (.own (sl (kO k))) (.own (sl (kP k))) (.own (sl (kN k))) .no .no .no .no .no .no .no .no .no) (by rw[cU];omega) (λj i ys Nx e V Y=>?_) (C _ ⟨m,hm,rfl⟩);have hi:i<19:=by have:=eD.mp (aI e);omega
  exact⟨(U4 i hi).1,(U4 i hi).2,V,Y⟩
 rintro u ⟨n,hn,rfl⟩;refine mK (λu=>u=pH d k (.own (sl (kI k))) (.own (sl (kO k))) (.own (sl (kP k))) (.own (sl (kN k))) (.own (.lst (pR n))) (.own (.lst [])) .no .no .no .no .no .no .no) (λN C=>⟨by show 0<=1000;decide,C _ rfl⟩) ?_;rintro _ rfl;refine mK (λu=>∃ (O:Str) (M:Sl),(O = "one" \/ O = "nil")/\u=pH d k (.own (sl (kI k))) (.own (sl (kO k))) (.own (sl (kP k))) (.own (sl (kN k))) (.val (.lst (pR n))) (.own (.lst (((List.range n).map (rJ O)).map pE))) M .no .no .no .no .no .no) (λN C=>?_) ?_
 ·refine rF (pR n) (pH d k (.own (sl (kI k))) (.own (sl (kO k))) (.own (sl (kP k))) (.own (sl (kN k))) (.val (.lst (pR n))) (.own (.lst [])) .no .no .no .no .no .no .no) (λΨ h=>h)
   (λj u=>∃ (O:Str) (M:Sl),(O = "one" \/ O = "nil")/\u=pH d k (.own (sl (kI k))) (.own (sl (kO k))) (.own (sl (kP k))) (.own (sl (kN k))) (.val (.lst (pR n))) (.own (.lst (((List.range j).map (rJ O)).map pE))) M .no .no .no .no .no .no) ⟨"one",.no,.inl rfl,rfl⟩ ?_ ?_
  ·rintro j x u W ⟨O,M,hw,rfl⟩;obtain⟨j',an,rfl⟩:=qH W;obtain⟨hj,e⟩:=aU.mp an;rw[cU] at hj;rw[lK] at e;subst e;refine⟨rfl,by show 2<=1000;decide,d,c,2,rfl,rfl,by decide,by decide,λr hr=>⟨.inl rfl,?_⟩⟩;obtain⟨w1,a9,ao⟩:∃ w1:Str,(w1 = "one" \/ w1 = "nil")/\oZ [D.str "one",.str "nil"] (r:Int)=some (.str w1):=by
    have:r=0\/r=1:=by omega
    rcases this with rfl | rfl
    ·exact⟨_,.inl rfl,qG rfl⟩
    ·exact⟨_,.inr rfl,qG rfl⟩
   have ec:oY (pR n) none (some 1)=[D.str (pJ 0)]:=by
    have:=Dw (λi=>D.str (pJ i)) (List.range n) 1;obtain⟨m,rfl⟩:∃ m,n=m+1:=⟨n-1,by omega⟩;have e2:(List.range (m+1)).take 1=[0]:=by rw[List.range_succ_eq_map];rfl
    rw[e2] at this;exact this
   refine⟨_,ao,by show 2<=1000;decide,by show 2<=1000;decide,rfl,?_⟩;show (2+(oY (pR n) none (some 1)).length<=100000)/\_;rw[ec];refine⟨by show 2+1<=100000;decide,by show 2<=1000;decide,rfl,rfl,_,rfl,?_⟩;have len:((((List.range j).map (rJ O)).map pE).length:Nat)=j:=by simp
   show ∃ c',oZ [D.lst [.str (pJ j),.str w1],.lst [.str (pJ j),.str "not",.str (pJ 0)]] (if decide ((((((List.range j).map (rJ O)).map pE).length:Nat):Int)>0)=true then 1 else 0)=some c'/\(((List.range j).map (rJ O)).map pE).length<100000/\_;rw[len];by_cases h0:j=0
   ·subst h0;refine⟨D.lst [.str (pJ 0),.str w1],rfl,by decide,w1,.val (.str (pJ 0)),a9,rfl⟩
   ·refine⟨D.lst [.str (pJ j),.str "not",.str (pJ 0)],?_,by omega,O,.val (.str (pJ j)),hw,?_⟩
    ·rw[aP (by simp;omega)];exact qG (j:=1) rfl
    ·rw[lZ,aJ,aJ];have:pE (rJ O j)=D.lst [.str (pJ j),.str "not",.str (pJ 0)]:=by unfold rJ;rw[if_neg h0];rfl
     show _=pH d k _ _ _ _ _ (.own (.lst (((List.range j).map (rJ O)).map pE++[pE (rJ O j)]))) _ _ _ _ _ _ _;rw[this];rfl
  ·rintro u ⟨O,M,hw,rfl⟩;rw[show (pR n).length=n by simp[pR]];exact C _ ⟨O,M,hw,rfl⟩
 rintro u ⟨O,M,hw,rfl⟩;refine mK (λu=>∃ ex:List Str,(ex=[]\/(1<=n/\ex=[pJ (n-1)]))/\u=pH d k (.own (sl (kI k))) (.own (sl (kO k++ex))) (.own (sl (kP k))) (.own (sl (kN k))) (.val (.lst (pR n))) (.own (.lst (((List.range n).map (rJ O)).map pE))) M .no .no .no .no .no .no) (λN C=>?_) ?_
 ·refine⟨rfl,rfl,d,c,2,rfl,rfl,by decide,by decide,λr hr=>⟨.inl rfl,?_⟩⟩;show (0:Int)<=(r:Int)/\(r:Int)<=1000/\(oY (pR n) (some (-1)) none).length<=100/\_;have ec:oY (pR n) (some (-1)) none=(if n=0 then [] else [pJ (n-1)]).map D.str:=by
   have:=KG (λi=>D.str (pJ i)) n;rw[show pR n=(List.range n).map λi=>D.str (pJ i) from rfl,this];split<;>rfl
  rw[ec];refine⟨by omega,by omega,by split<;>simp,?_⟩;show ((kO k).map D.str).length+_<=100000/\_;have bd:=S.lo;have:r=0\/r=1:=by omega
  rcases this with rfl | rfl
  ·refine⟨by show ((kO k).map D.str).length+0<=100000;rw[aA];omega,C _ ⟨[],.inl rfl,?_⟩⟩;rw[dO];show pH d k _ (.own (.lst ((kO k).map D.str++[]))) _ _ _ _ _ _ _ _ _ _ _=_;rw[dO]
  ·by_cases h0:n=0
   ·rw[aP h0];refine⟨by show ((kO k).map D.str).length+0<=100000;rw[aA];omega,C _ ⟨[],.inl rfl,?_⟩⟩;rw[dO];show pH d k _ (.own (.lst ((kO k).map D.str++[]))) _ _ _ _ _ _ _ _ _ _ _=_;rw[dO]
   ·rw[aM h0];refine⟨by show ((kO k).map D.str).length+1<=100000;rw[aA];omega,C _ ⟨[pJ (n-1)],.inr ⟨by omega,rfl⟩,?_⟩⟩;show pH d k _ (.own (.lst ((kO k).map D.str++[D.str (pJ (n-1))]))) _ _ _ _ _ _ _ _ _ _ _=_;rw[show sl (kO k++[pJ (n-1)])=D.lst ((kO k).map D.str++[D.str (pJ (n-1))]) by simp[sl]]
 rintro u ⟨ex,hex,rfl⟩;have bp:(kG k).length=k.gates.length:=by unfold kG;simp
 have bn:=S.lg;have bm:=S.li;have bd:=S.lo;obtain⟨G,hG⟩:∃ G,G=(List.range n).map (rJ O)++kG k:=⟨_,rfl⟩;have G2:∀ l∈G,2<=l.length:=λl hl=>by
  rw[hG] at hl;rcases aR.mp hl with q | q
  ·obtain⟨i,_,rfl⟩:=aV.mp q;exact OH O i
  ·exact S.g2 l q
 have Gl:G.length<=22:=by rw[hG];simp;omega
 refine mK (λu=>u=pH d k (.own (sl (kI k))) (.own (sl (kO k++ex))) (.own (sl (kP k))) (.own (sl (kN k))) (.val (.lst (pR n))) (.own (.lst (G.map pE))) M .no .no .no .no .no .no) (λN C=>?_) ?_
 ·unfold rG xB;refine⟨rfl,?_⟩;refine pZ k.gates D.str (λz=>pE (zB z)) _ (λΨ h=>⟨rfl,_,rfl,h⟩) (by omega) (λj z ys Nx e V Y=>⟨z,rfl,(tx z (by simp[aI e])).1,(tx z (by simp[aI e])).2,.inl rfl,V,Y⟩) ?_;refine⟨by show (((List.range n).map (rJ O)).map pE).length+(k.gates.map _).length<=100000;simp;omega,C _ ?_⟩;have eG:G.map pE=((List.range n).map (rJ O)).map pE++k.gates.map (λz=>pE (zB z)):=by
   rw[hG,aJ]
   congr 1
   unfold kG;rw[aQ];rfl
  rw[eG];rfl
 rintro _ rfl;obtain⟨B,hH⟩:∃ B,B=G.map λl=>(oJ l).1:=⟨_,rfl⟩
 have eH:B=(List.range n).map pJ++kH k:=by
  rw[hH,hG,aJ,aQ]
  congr 1
  exact eP λi _=>Ub O i
 have ah:(kI k++B).Nodup:=by
  have aw:∀ i∈List.range n,pJ i∉kI k++kH k:=λi hi q=>(Fl i (by have:=eD.mp hi;omega)).1 (S.one _ q).1
  have ak:=S.nd;obtain⟨n1,n2,n3⟩:=bK.mp ak;rw[eH];refine bK.mpr ⟨n1,bK.mpr ⟨Bc List.nodup_range λi hi j hj e=>(Fl i (by have:=eD.mp hi;omega)).2.2 j (by have:=eD.mp hj;omega) e,n2,λa ha b hb e=>?_⟩,λa ha b hb e=>?_⟩
  ·obtain⟨i,hi,rfl⟩:=aV.mp ha;exact aw i hi (by rw[e];exact aN _ hb)
  ·rcases aR.mp hb with q | q
   ·obtain⟨i,hi,rfl⟩:=aV.mp q;exact aw i hi (by rw[← e];exact bC _ ha)
   ·exact n3 a ha b q e
 have ag:("-" : Str)∉kI k++B:=λq=>by
  rw[eH] at q;rcases aR.mp q with q | q
  ·exact (S.one _ (bC _ q)).2 rfl
  ·rcases aR.mp q with q | q
   ·obtain⟨i,hi,e⟩:=aV.mp q;exact (Fl i (by have:=eD.mp hi;omega)).2.1 e
   ·exact (S.one _ (aN _ q)).2 rfl
 have Hl:B.length=G.length:=by rw[hH];simp
 refine mK (λu=>u=pH d k (.own (sl (kI k))) (.own (sl (kO k++ex))) (.own (sl (kP k))) (.own (sl (kN k))) (.val (.lst (pR n))) (.val (.lst (G.map pE))) M (.own (sl (kI k++B))) .no .no .no .no .no) (λN C=>?_) ?_
 ·unfold rG xB;refine⟨rfl,?_⟩;refine pZ G pE (λl=>.str (oJ l).1) (pH d k (.own (sl (kI k))) (.own (sl (kO k++ex))) (.own (sl (kP k))) (.own (sl (kN k))) (.val (.lst (pR n))) (.val (.lst (G.map pE))) M .no .no .no .no .no .no) (λΨ h=>h) (by omega) (λj l ys Nx e V Y=>⟨rfl,_,(M0 (G2 l (aI e))).1,V,Y⟩) ?_;refine⟨by show ((kI k).map D.str).length+(G.map _).length<=100000;simp;omega,C _ ?_⟩;show pH d k _ _ _ _ _ _ _ (.own (.lst ((kI k).map D.str++G.map λl=>D.str (oJ l).1))) _ _ _ _ _=_;rw[show sl (kI k++B)=D.lst ((kI k).map D.str++G.map λl=>D.str (oJ l).1) by unfold sl;rw[List.map_append,hH,List.map_map];rfl]
 rintro _ rfl;refine mK (λu=>∃ xs:List Str,xs.length=(kI k++B).length/\xs.Nodup/\(∀ x∈xs,GoodName x)/\u=pH d k (.own (sl (kI k))) (.own (sl (kO k++ex))) (.own (sl (kP k))) (.own (sl (kN k))) (.val (.lst (pR n))) (.val (.lst (G.map pE))) M (.val (sl (kI k++B))) (.own (.dK (oE ((kI k++B).zip xs)))) .no .no .no .no) (λN C=>?_) ?_
 ·refine⟨rfl,_,rfl,d,c,((kI k++B).map D.str).length,rfl,rfl,by simp;omega,λxs lx nd gn=>⟨.inl rfl,false,false,_,_,_,rfl,rfl,keysL_strs (kI k++B),by simp;omega,?_⟩⟩;have ar:xs.length=(kI k++B).length:=by rw[lx,aA]
  rw[Tx,PY (by rw[Mm _ _ ar.symm];exact ah)];exact C _ ⟨xs,ar,nd,gn,rfl⟩
 rintro u ⟨xs,lx,ay,az,rfl⟩;have tk:((kI k++B).zip xs).map (·.1)=kI k++B:=Mm _ _ lx.symm;have ai:∀ o∈kI k++B,mU ((kI k++B).zip xs) o∈xs:=λo Z=>Gv lx.symm Z
 have aa:∀ o∈kI k++B,∀ o'∈kI k++B,mU ((kI k++B).zip xs) o=mU ((kI k++B).zip xs) o'->o=o':=λo Z o' bb e=>Oz lx.symm ay Z bb e
 generalize ht:(kI k++B).zip xs=t at tk ai aa ⊢;have aq:t.length<100000:=by
  have:=cV List.length tk;simp only[aA,aH] at this;omega
 have gk:pB (kI k) (G.map oJ):=by
  rw[hG,aJ];exact pB.app (V6 hw _ n) (pB.more (λx W=>bC _ W) S.gt)
 have gH:∀ l∈G,(oJ l).1∈B:=λl hl=>by rw[hH];exact aV.mpr ⟨l,hl,rfl⟩
 have gP:∀ l∈G,∀ p∈l.drop 2,p∈kI k++B:=λl hl p L=>by
  obtain⟨j,hj,rfl⟩:=gO hl;have V:=(Gp gk (i:=j) (g:=oJ G[j]) (by rw[aX,aG hj];rfl)).2 p L;rcases aR.mp V with q | q
  ·exact bC _ q
  ·refine aN _ ?_;rw[hH];obtain⟨g,hg,rfl⟩:=aV.mp q;obtain⟨l',be,rfl⟩:=aV.mp (kR hg);exact aV.mpr ⟨l',be,rfl⟩
 have oH:∀ o∈kO k++ex,o∈B:=λo Z=>by
  rw[eH];rcases aR.mp Z with q | q
  ·exact aN _ (S.oh o q)
  ·rcases hex with rfl | ⟨V,rfl⟩
   ·cases q
   ·rw[bA.mp q];exact bC _ (aV.mpr ⟨n-1,eD.mpr (by omega),rfl⟩)
 have au:∀ o∈kI k,o∈t.map (·.1):=λo Z=>by rw[tk];exact bC _ Z
 have aj:∀ o∈B,o∈t.map (·.1):=λo Z=>by rw[tk];exact aN _ Z
 refine mK (λu=>u=pH d k (.own (sl (kI k))) (.own (sl (kO k++ex))) (.own (sl (kP k))) (.own (sl (kN k))) (.val (.lst (pR n))) (.val (.lst (G.map pE))) M (.val (sl (kI k++B))) (.own (.dK (oE t))) (.own (.lst (G.map λl=>nX (ren (mU t) (oJ l))))) .no .no .no) (λN C=>?_) ?_
 ·unfold rG;refine pZ G pE (λl=>nX (ren (mU t) (oJ l))) (pH d k (.own (sl (kI k))) (.own (sl (kO k++ex))) (.own (sl (kP k))) (.own (sl (kN k))) (.val (.lst (pR n))) (.val (.lst (G.map pE))) M (.val (sl (kI k++B))) (.own (.dK (oE t))) .no .no .no .no) (λΨ h=>h) (by omega) (λj l ys Nx e V Y=>?_) (C _ rfl);have hl:=aI e;refine⟨rfl,rfl,_,(M0 (G2 l hl)).1,_,zJ (aj _ (gH l hl)),rfl,_,(M0 (G2 l hl)).2,?_⟩;unfold dC aC;have ax:=(Gp gk (i:=j) (g:=oJ l) (by rw[aX,e];rfl)).1.ok;have bi:(l.drop 2).length<=3:=by
   have e2:(oJ l).2.2.length=(l.drop 2).length:=rfl;rw[e2] at ax;rcases ax with q | q | q | q | q<;>omega
  refine pZ (l.drop 2) D.str (λp=>.str (mU t p)) [.val (pE l),.own (.dK (oE t))] (λΨ h=>⟨rfl,by rw[← Df] at h;exact h⟩) (by omega) (λj p ys Nx e V Y=>⟨rfl,_,zJ (by rw[tk];exact gP l hl p (aI e)),V,Y⟩) ?_;refine⟨by show 3<=1000;decide,V,?_⟩;have eE:nX (ren (mU t) (oJ l))=D.tup [.str (mU t (oJ l).1),.str (oJ l).2.1,.tup ((l.drop 2).map λp=>D.str (mU t p))]:=by
   unfold nX ren;rw[aQ];rfl
  rw[eE] at Y;exact Y
 rintro _ rfl;refine mK (λu=>∃ U:List Str,U.Perm (kI k)/\u=pH d k (.own (sl (U.map (mU t)))) (.own (sl (kO k++ex))) (.own (sl (kP k))) (.own (sl (kN k))) (.val (.lst (pR n))) (.val (.lst (G.map pE))) M (.val (sl (kI k++B))) (.own (.dK (oE t))) (.own (.lst (G.map λl=>nX (ren (mU t) (oJ l))))) .no .no .no) (λN C=>?_) ?_
 ·unfold rG uF iV;refine⟨d,c,(kI k).map D.str,rfl,.inl rfl,by simp;omega,λys L=>⟨.inl rfl,?_⟩⟩;obtain⟨U,pI,rfl⟩:=Q1 L;refine Ij (Φ:=λr ab=>N (ab.set 2 r)) U D.str (λo=>.str (mU t o)) (pH d k (.val (sl (kI k))) (.own (sl (kO k++ex))) (.own (sl (kP k))) (.own (sl (kN k))) (.val (.lst (pR n))) (.val (.lst (G.map pE))) M (.val (sl (kI k++B))) (.own (.dK (oE t))) (.own (.lst (G.map λl=>nX (ren (mU t) (oJ l))))) .no .no .no) (by rw[pI.length_eq];omega) (λj o ys Nx e V Y=>⟨rfl,_,zJ (au o (pI.mem_iff.mp (aI e))),V,Y⟩) (C _ ⟨U,pI,?_⟩);unfold sl;rw[aQ];rfl
 rintro u ⟨U,pI,rfl⟩;refine mK (λu=>∃ O':List Str,O'.Perm (kO k++ex)/\u=pH d k (.own (sl (U.map (mU t)))) (.own (sl (O'.map (mU t)))) (.own (sl (kP k))) (.own (sl (kN k))) (.val (.lst (pR n))) (.val (.lst (G.map pE))) M (.val (sl (kI k++B))) (.own (.dK (oE t))) (.own (.lst (G.map λl=>nX (ren (mU t) (oJ l))))) .no .no .no) (λN C=>?_) ?_
 ·unfold rG uF iV;have bh:ex.length<=1:=by rcases hex with rfl | ⟨_,rfl⟩<;>simp
  refine⟨d,c,(kO k++ex).map D.str,rfl,.inl rfl,by simp;omega,λys L=>⟨.inl rfl,?_⟩⟩;obtain⟨O',pO,rfl⟩:=Q1 L;refine Ij (Φ:=λr ab=>N (ab.set 3 r)) O' D.str (λo=>.str (mU t o)) (pH d k (.own (sl (U.map (mU t)))) (.val (sl (kO k++ex))) (.own (sl (kP k))) (.own (sl (kN k))) (.val (.lst (pR n))) (.val (.lst (G.map pE))) M (.val (sl (kI k++B))) (.own (.dK (oE t))) (.own (.lst (G.map λl=>nX (ren (mU t) (oJ l))))) .no .no .no) (by rw[pO.length_eq,aH];omega) (λj o ys Nx e V Y=>⟨rfl,_,zJ (aj o (oH o (pO.mem_iff.mp (aI e)))),V,Y⟩) (C _ ⟨O',pO,?_⟩);unfold sl;rw[aQ (g:=D.str) (f:=mU t) (l:=O')];rfl
 rintro u ⟨O',pO,rfl⟩;have bj:=S.lp;have av:=Of (kP k) S.pe;obtain⟨I,ae⟩:∃ I,I=pQ (kP k):=⟨_,rfl⟩;rw[← ae] at av;refine mK (λu=>u=pH d k (.own (sl (U.map (mU t)))) (.own (sl (O'.map (mU t)))) (.val (sl (kP k))) (.own (sl (kN k))) (.val (.lst (pR n))) (.val (.lst (G.map pE))) M (.val (sl (kI k++B))) (.own (.dK (oE t))) (.own (.lst (G.map λl=>nX (ren (mU t) (oJ l))))) (.own (.lst (I.map λp=>rO (mU t p.1,mU t p.2)))) .no .no) (λN C=>?_) ?_
 ·unfold rG uF Vc;refine⟨rfl,_,rfl,⟨by omega,by omega,by show (0:Int)<=(((kP k).map D.str).length:Nat);omega,by show ((((kP k).map D.str).length:Nat):Int)<=100000;simp;omega,by omega,by omega⟩,?_⟩;have em:xD 0 ((((kP k).map D.str).length:Nat):Int) 2=I.length:=by
   rw[aA,← av];exact U0 _
  rw[em];refine Ij (Φ:=λr ab=>N (ab.set 12 r)) (List.range I.length) (λ(i:Nat)=>D.int (0+(i:Int)*2)) (λi=>(λp:Str×Str=>rO (mU t p.1,mU t p.2)) (I.getD i ("",""))) (pH d k (.own (sl (U.map (mU t)))) (.own (sl (O'.map (mU t)))) (.val (sl (kP k))) (.own (sl (kN k))) (.val (.lst (pR n))) (.val (.lst (G.map pE))) M (.val (sl (kI k++B))) (.own (.dK (oE t))) (.own (.lst (G.map λl=>nX (ren (mU t) (oJ l))))) .no .no .no) (by rw[cU];omega) (λj i ys Nx e V Y=>?_) ?_
  ·have hi:=eD.mp (aI e);have L:I[i]?=some I[i]:=aG hi;have bf:I.getD i ("","")=I[i]:=by simp[List.getD,L]
   rw[bf] at Y;obtain⟨q1,q2⟩:=pairs_at (by rw[← ae];exact L);have hm:=S.pm I[i] (by rw[← ae];exact dQ hi);refine⟨rfl,rfl,.str I[i].1,?_,_,zJ (aj _ (oH _ (bC _ hm.1))),rfl,rfl,rfl,.str I[i].2,?_,_,zJ (au _ hm.2),by show 2<=1000;decide,V,Y⟩
   ·rw[show (0+(i:Int)*2)=((2*i:Nat):Int) by omega];exact qG (by rw[aX,q1];rfl)
   ·rw[show (0+(i:Int)*2+1)=((2*i+1:Nat):Int) by omega];exact qG (by rw[aX,q2];rfl)
  ·rw[NO I ("","") (λp:Str×Str=>rO (mU t p.1,mU t p.2))];exact C _ rfl
 rintro _ rfl;refine mK (λu=>u=pH d k (.own (sl (U.map (mU t)))) (.own (sl (O'.map (mU t)))) (.val (sl (kP k))) (.own (sl (kN k))) (.val (.lst (pR n))) (.val (.lst (G.map pE))) M (.val (sl (kI k++B))) (.own (.dK (oE (t++[(("-" : Str),("" : Str))])))) (.own (.lst (G.map λl=>nX (ren (mU t) (oJ l))))) (.own (.lst (I.map λp=>rO (mU t p.1,mU t p.2)))) .no .no) (λN C=>⟨rfl,_,Yx (by rw[tk];exact ag) aq,C _ rfl⟩) ?_;rintro _ rfl;refine mK (λu=>u=pH d k (.own (sl (U.map (mU t)))) (.own (sl (O'.map (mU t)))) (.val (sl (kP k))) (.own (sl (kN k))) (.val (.lst (pR n))) (.val (.lst (G.map pE))) M (.val (sl (kI k++B))) (.own (.dK (oE (t++[(("-" : Str),("" : Str))])))) (.own (.lst (G.map λl=>nX (ren (mU t) (oJ l))))) (.own (.lst (I.map λp=>rO (mU t p.1,mU t p.2)))) (.own (.dK [])) .no) (λN C=>C _ rfl) ?_;rintro _ rfl;have bk:=S.ln;have bc:=Of (kN k) S.ne;have a2:(t++[(("-" : Str),("" : Str))]).map (·.1)=(kI k++B)++[("-" : Str)]:=by rw[aJ,tk];rfl
 refine mK (λu=>∃ (wt:nK) (ac:Sl),WtOk 9 wt/\u=pH d k (.own (sl (U.map (mU t)))) (.own (sl (O'.map (mU t)))) (.val (sl (kP k))) (.val (sl (kN k))) (.val (.lst (pR n))) (.val (.lst (G.map pE))) M (.val (sl (kI k++B))) (.own (.dK (oE (t++[(("-" : Str),("" : Str))])))) (.own (.lst (G.map λl=>nX (ren (mU t) (oJ l))))) (.own (.lst (I.map λp=>rO (mU t p.1,mU t p.2)))) (.own (.dK (hO wt))) ac) (λN C=>?_) ?_
 ·have em:xD 0 ((((kN k).map D.str).length:Nat):Int) 2=(pQ (kN k)).length:=by
   rw[aA,← bc];exact U0 _
  refine rF (xU 0 2 (pQ (kN k)).length) (pH d k (.own (sl (U.map (mU t)))) (.own (sl (O'.map (mU t)))) (.val (sl (kP k))) (.val (sl (kN k))) (.val (.lst (pR n))) (.val (.lst (G.map pE))) M (.val (sl (kI k++B))) (.own (.dK (oE (t++[(("-" : Str),("" : Str))])))) (.own (.lst (G.map λl=>nX (ren (mU t) (oJ l))))) (.own (.lst (I.map λp=>rO (mU t p.1,mU t p.2)))) (.own (.dK [])) .no) (λΨ h=>⟨rfl,_,rfl,⟨by omega,by omega,by show (0:Int)<=(((kN k).map D.str).length:Nat);omega,by show ((((kN k).map D.str).length:Nat):Int)<=100000;simp;omega,by omega,by omega⟩,by rw[em];exact h⟩)
   (λj u=>∃ (wt:nK) (ac:Sl),(wt.length<=j/\(wt.map (·.1)).Nodup/\∀ p∈wt,-9<=p.2/\p.2<=9)/\u=pH d k (.own (sl (U.map (mU t)))) (.own (sl (O'.map (mU t)))) (.val (sl (kP k))) (.val (sl (kN k))) (.val (.lst (pR n))) (.val (.lst (G.map pE))) M (.val (sl (kI k++B))) (.own (.dK (oE (t++[(("-" : Str),("" : Str))])))) (.own (.lst (G.map λl=>nX (ren (mU t) (oJ l))))) (.own (.lst (I.map λp=>rO (mU t p.1,mU t p.2)))) (.own (.dK (hO wt))) ac) ⟨[],.no,⟨by simp,by simp,by simp⟩,rfl⟩ ?_ ?_
  ·rintro j x u W ⟨wt,ac,⟨bo,ak,bg⟩,rfl⟩;obtain⟨j',an,rfl⟩:=qH W;obtain⟨hj,e⟩:=aU.mp an;rw[cU] at hj;rw[lK] at e;subst e;have L:(pQ (kN k))[j]?=some (pQ (kN k))[j]:=aG hj;obtain⟨q1,q2⟩:=pairs_at L;obtain⟨m1,m2,m3⟩:=S.nm _ (dQ hj);obtain⟨v,hv⟩:=cR.mp m2;have a1:oZ ((kN k).map D.str) (0+(j:Int)*2+1)=some (.str (pQ (kN k))[j].2):=by
    rw[show (0+(j:Int)*2+1)=((2*j+1:Nat):Int) by omega];exact qG (by rw[aX,q2];rfl)
   have a0:oZ ((kN k).map D.str) (0+(j:Int)*2)=some (.str (pQ (kN k))[j].1):=by
    rw[show (0+(j:Int)*2)=((2*j:Nat):Int) by omega];exact qG (by rw[aX,q1];rfl)
   have ky:(pQ (kN k))[j].1∈(t++[(("-" : Str),("" : Str))]).map (·.1):=by
    rw[a2];rcases m1 with q | q
    ·refine bC _ ?_;rcases aR.mp q with z | z
     ·exact bC _ z
     ·exact aN _ (by rw[eH];exact aN _ z)
    ·rw[q];exact aN _ (by simp)
   have jl:j<100:=by omega
   have ba:=QI hk (dQ hj) hv;have e3:=Mz wt (mU (t++[(("-" : Str),("" : Str))]) (pQ (kN k))[j].1) v;refine⟨rfl,rfl,_,a1,v,hv,m3,rfl,rfl,rfl,_,a0,_,zJ ky,.dK (nR (hO wt) (Sum.inr (mU (t++[(("-" : Str),("" : Str))]) (pQ (kN k))[j].1)) (.int v)),?_,wB wt (mU (t++[(("-" : Str),("" : Str))]) (pQ (kN k))[j].1) v,.val (.int (0+(j:Int)*2)),⟨?_,Jh ak,λp L=>?_⟩,?_⟩
   ·have:(hO wt).length<100000:=by unfold hO;rw[List.length_map];omega
    simp only[uJ,aP this];rfl
   ·exact bY (Kv _ _ _) (by omega)
   ·rcases FR L with q | q
    ·exact bg p q
    ·rw[q];exact ba
   ·rw[← e3];rfl
  ·rintro u ⟨wt,ac,⟨V,Y,h3⟩,rfl⟩;have e4:(xU 0 2 (pQ (kN k)).length).length=(pQ (kN k)).length:=by unfold xU;simp
   exact C _ ⟨wt,ac,⟨Y,by omega,h3⟩,rfl⟩
 rintro u ⟨wt,ac,a8,rfl⟩;refine⟨by show 3<=1000;decide,d,c,_,rfl,.inl rfl,by show (I.map _).length<=1000;simp;omega,λys L=>⟨.inl rfl,by show 2<=1000;decide,by show 2<=1000;decide,?_⟩⟩;obtain⟨al,pA,e⟩:=Rb (xs:=I.map λp=>(mU t p.1,mU t p.2)) (ys:=ys) (by rw[aQ];exact L);subst e;have fin:=a7 ⟨U.map (mU t),G.map λl=>ren (mU t) (oJ l),O'.map (mU t)⟩ al wt ?_ a8
 ·unfold rT qW at fin;dsimp only at fin;rw[aQ (g:=nX)] at fin;exact fin
 have iO:∀ o∈O',o∈kI k++B:=λo Z=>aN _ (oH o (pO.mem_iff.mp Z))
 have iI:∀ o∈U,o∈kI k++B:=λo Z=>bC _ (pI.mem_iff.mp Z)
 have bh:ex.length<=1:=by rcases hex with rfl | ⟨_,rfl⟩<;>simp
 have eN:(G.map λl=>ren (mU t) (oJ l)).map (·.1)=B.map (mU t):=by
  rw[hH,aQ,aQ];rfl
 have pm:∀ p∈I,p.1∈kO k/\p.2∈kI k:=λp L=>S.pm p (by rw[← ae];exact L)
 have a4:(I.map (·.1)).Nodup:=by rw[ae];exact S.p1
 have a3:(I.map (·.2)).Nodup:=by rw[ae];exact S.p2
 have a6:(kO k++ex).Nodup:=by
  refine bK.mpr ⟨S.ond,?_,λa ha b hb e=>?_⟩
  ·rcases hex with rfl | ⟨_,rfl⟩<;>simp
  ·rcases hex with rfl | ⟨V,rfl⟩
   ·cases hb
   ·rw[bA.mp hb] at e;exact (Fl (n-1) (by omega)).1 (by rw[← e];exact (S.one a (aN _ (S.oh a ha))).1)
 refine⟨⟨?_,?_,?_,?_,?_,?_,?_,?_⟩,?_,?_,?_,?_,?_⟩
 ·show (U.map (mU t)++(G.map λl=>ren (mU t) (oJ l)).map (·.1)).Nodup;rw[eN,← aJ];have af:(U++B).Perm (kI k++B):=pI.append_right B;exact Bc (af.nodup_iff.mpr ah) λx W y hy e=>aa x (af.mem_iff.mp W) y (af.mem_iff.mp hy) e
 ·intro x W;have W:x∈U.map (mU t)++(G.map λl=>ren (mU t) (oJ l)).map (·.1):=W;rw[eN,← aJ] at W;obtain⟨o,Z,rfl⟩:=aV.mp W;refine az _ (ai o ?_);rcases aR.mp Z with q | q
  ·exact iI o q
  ·exact aN _ q
 ·have g1:pB U (G.map oJ):=pB.more (λx W=>pI.mem_iff.mpr W) gk;have:=g1.ren (mU t);rw[aQ] at this;exact this
 ·intro o Z;obtain⟨q,hq,rfl⟩:=aV.mp Z;refine aN _ ?_;rw[eN];exact aV.mpr ⟨q,oH q (pO.mem_iff.mp hq),rfl⟩
 ·exact Bc (pO.nodup_iff.mpr a6) λx W y hy e=>aa x (iO x W) y (iO y hy) e
 ·show (U.map (mU t)).length<=6;rw[aA,pI.length_eq];omega
 ·show (G.map _).length<=24;rw[aA];omega
 ·show (O'.map (mU t)).length<=6;rw[aA,pO.length_eq,aH];omega
 ·intro o Z;obtain⟨q,hq,rfl⟩:=aV.mp Z;show _∈(G.map λl=>ren (mU t) (oJ l)).map (·.1);rw[eN];exact aV.mpr ⟨q,oH q (pO.mem_iff.mp hq),rfl⟩
 ·refine (pA.map (·.1)).nodup_iff.mpr ?_;rw[aQ];have:(I.map (·.1)).map (mU t)=I.map ((·.1)∘λp:Str×Str=>(mU t p.1,mU t p.2)):=by rw[aQ];rfl
  rw[← this];refine Bc a4 λx W y hy e=>aa x ?_ y ?_ e
  ·obtain⟨p,L,rfl⟩:=aV.mp W;exact aN _ (oH _ (bC _ (pm p L).1))
  ·obtain⟨p,L,rfl⟩:=aV.mp hy;exact aN _ (oH _ (bC _ (pm p L).1))
 ·refine (pA.map (·.2)).nodup_iff.mpr ?_;rw[aQ];have:(I.map (·.2)).map (mU t)=I.map ((·.2)∘λp:Str×Str=>(mU t p.1,mU t p.2)):=by rw[aQ];rfl
  rw[← this];refine Bc a3 λx W y hy e=>aa x ?_ y ?_ e
  ·obtain⟨p,L,rfl⟩:=aV.mp W;exact bC _ (pm p L).2
  ·obtain⟨p,L,rfl⟩:=aV.mp hy;exact bC _ (pm p L).2
 ·intro p L;obtain⟨q,hq,rfl⟩:=aV.mp (pA.mem_iff.mp L);exact⟨aV.mpr ⟨q.1,pO.mem_iff.mpr (bC _ (pm q hq).1),rfl⟩,aV.mpr ⟨q.2,pI.mem_iff.mpr (pm q hq).2,rfl⟩⟩
 ·rw[pA.length_eq,aA];omega
end
def qK (w:Str) (bs:List Int):Int :=
 if w = "and" then (if bs.sum=bs.length then 1 else 0)
 else if w = "or" then (if bs.sum>0 then 1 else 0)
 else if w = "odd" then bs.sum%2
 else if w = "most" then (if bs.sum>=2 then 1 else 0)
 else if w = "not" then (if bs.sum=0 then 1 else 0)
 else if w = "one" then 1 else 0
def oV (i:Int):Prop:=i=0\/i=1
theorem Lo (w:Str) (bs:List Int):oV (qK w bs):=by
 unfold qK oV;have:=eT bs.sum (show (2:Int)≠0 by decide);have:=dN bs.sum (show (0:Int)<2 by decide)
 repeat' split
 all_goals omega
theorem Kr:∀ {bs:List Int},(∀ b∈bs,oV b)->0<=bs.sum/\bs.sum<=bs.length
 | [],_=>by simp
 | b::r,h=>by
  have c:=h b aK;have d:=Kr λx a=>h x (aT _ a)
  simp only[jJ,bX];unfold oV at c;omega
theorem R5:∀ {bs:List Int},(∀ b∈bs,b=1)->bs.sum=bs.length
 | [],_=>by simp
 | b::r,h=>by
  have d:=h b aK;have c:=R5 λx a=>h x (aT _ a)
  simp only[jJ,bX];omega
theorem S4:∀ {bs:List Int},(∀ b∈bs,oV b)->(0:Int)∈bs->bs.sum<bs.length
 | [],_,h=>by simp at h
 | b::r,h,d=>by
  have f:=h b aK;have a:∀ x∈r,oV x:=λx c=>h x (aT _ c)
  have g:=Kr a;simp only[jJ,bX];unfold oV at f;rcases aL.mp d with e | e
  ·omega
  ·have:=S4 a e;omega
theorem S2:∀ {bs:List Int},(∀ b∈bs,oV b)->(1:Int)∈bs->0<bs.sum
 | [],_,h=>by simp at h
 | b::r,h,d=>by
  have f:=h b aK;have a:∀ x∈r,oV x:=λx c=>h x (aT _ c)
  have g:=Kr a;simp only[jJ];unfold oV at f;rcases aL.mp d with e | e
  ·omega
  ·have:=S2 a e;omega
theorem O6:∀ {bs:List Int},(∀ b∈bs,b=0)->bs.sum=0
 | [],_=>by simp
 | b::r,h=>by
  have d:=h b aK;have c:=O6 λx a=>h x (aT _ a)
  simp only[jJ];omega
theorem HV {bs:List Int}{m:Int}(hb:∀ b∈bs,oV b) (h1:m∈bs) (h2:∀ a∈bs,m<=a):m=if bs.sum=bs.length then 1 else 0:=by
 rcases hb m h1 with e | e
 ·subst e;have:=S4 hb h1;rw[aM (by omega)]
 ·subst e;have:∀ b∈bs,b=1:=λb c=>by
   have:=h2 b c;rcases hb b c with q | q<;>omega
  rw[aP (R5 this)]
theorem JK {bs:List Int}{m:Int}(hb:∀ b∈bs,oV b) (h1:m∈bs) (h2:∀ a∈bs,a<=m):m=if bs.sum>0 then 1 else 0:=by
 rcases hb m h1 with e | e
 ·subst e;have:∀ b∈bs,b=0:=λb c=>by
   have:=h2 b c;rcases hb b c with q | q<;>omega
  have:=O6 this;rw[aM (by omega)]
 ·subst e;have:=S2 hb h1;rw[aP (by omega)]
def uY (ρ:Str->Int):List (Str×Str×List Str)->Str->Int
 | []=>ρ
 | g::r=>uY (λx=>if x=g.1 then qK g.2.1 (g.2.2.map ρ) else ρ x) r
def Qt (ρ:Str->Int) (g:Str×Str×List Str):Str->Int:=λx=>if x=g.1 then qK g.2.1 (g.2.2.map ρ) else ρ x
theorem Ks:∀ (gs:List (Str×Str×List Str)) (ρ:Str->Int) (g:Str×Str×List Str),uY ρ (gs++[g])=Qt (uY ρ gs) g
 | [],ρ,g=>rfl
 | a::r,ρ,g=>Ks r _ g
def sR (C:Cel) (ρ:Str->Int):Str->Int:=uY ρ C.gates
theorem pB.at:∀ {kn:List Str}{i:Nat}{g:Str×Str×List Str},pB kn gs->gs[i]?=some g->ArOk g.2.1 g.2.2.length/\∀ p∈g.2.2,p∈kn++(gs.take i).map (·.1):=by
 induction gs with
 | nil=>intro kn i g _ h;simp at h
 | cons a r b =>
  intro kn i g h e;cases i with
  | zero=>simp at e;subst e;exact⟨h.1,by simpa using h.2.1⟩
  | succ i =>
   have:=b (kn:=kn++[a.1]) (i:=i) (g:=g) h.2.2 (by simpa using e);refine⟨this.1,λp c=>?_⟩;have q:=this.2 p c
   simpa using q
theorem KI (h:ArOk w n) (h1:¬ w = "and") (h2:¬ w = "or") (h3:¬ w = "odd") (h4:¬ w = "most") (h5:¬ w = "not"):w = "one" \/ w = "nil" := by
 rcases h.ok with⟨q,_⟩ | ⟨q,_⟩ | ⟨q,_⟩ | ⟨q,_⟩ | ⟨q,_⟩
 ·unfold uX at q;simp only[aL,bH,fY] at q;rcases q with e | e | e
  ·exact absurd e h1
  ·exact absurd e h2
  ·exact absurd e h3
 ·exact absurd q h4
 ·exact absurd q h5
 ·exact .inl q
 ·exact .inr q
theorem Wt (h:ArOk w n) (h1:w = "and" \/ w = "or"):2<=n:=by
 rcases h.ok with⟨_,q | q⟩ | ⟨q,_⟩ | ⟨q,_⟩ | ⟨q,_⟩ | ⟨q,_⟩
 ·omega
 ·omega
 all_goals (rcases h1 with e | e<;>(rw[e] at q;exact absurd q (by decide +kernel)))
theorem Z1 (h:ArOk "not" n):n=1:=by
 rcases h.ok with⟨q,_⟩ | ⟨q,_⟩ | ⟨_,q⟩ | ⟨q,_⟩ | ⟨q,_⟩
 ·exact absurd q (by decide +kernel)
 ·exact absurd q (by decide +kernel)
 ·exact q
 ·exact absurd q (by decide +kernel)
 ·exact absurd q (by decide +kernel)
structure GC (C:Cel):Prop where
 nd:C.names.Nodup
 gt:pB C.ins C.gates
 os:∀ o∈C.outs,o∈C.names
 ond:C.outs.Nodup
 li:C.ins.length<=40
 lg:C.gates.length<=40
 lo:C.outs.length<=40
def sT (kvs:List (hI×D)) (xs:List Str) (ρ:Str->Int):Prop:=∀ x∈xs,mZ kvs (Sum.inr x)=some (.int (ρ x))/\oV (ρ x)
theorem sT.step (h:sT kvs xs ρ) (hv:oV v) (hn:n∉xs):sT (nR kvs (Sum.inr n) (.int v)) (xs++[n]) (λx=>if x=n then v else ρ x):=by
 intro x a;dsimp only;rw[V0];by_cases e:x=n
 ·subst e;rw[aP rfl,aP rfl];exact⟨rfl,hv⟩
 ·rw[aM (λz=>e (iL z).symm),aM e];rcases aR.mp a with q | q
  ·exact h x q
  ·exact absurd (bA.mp q) e
def Ib:RD:=λdk ds Φ=>∃ (wd:Str) (bs:List Int),ds=[.str wd,.lst (bs.map D.int)]/\(∀ b∈bs,oV b)/\ArOk wd bs.length/\Φ (.val (.int (qK wd bs)))
def HM (kvs:List (hI×D)) (xs:List Str):Prop:=∀ x∈xs,∃ d,mZ kvs (Sum.inr x)=some d
def P5:RD:=λdk ds Φ=>∃ (xs:List Str) (kvs:List (hI×D)),(ds=[.tup (xs.map D.str),.dK kvs]\/ds=[.lst (xs.map D.str),.dK kvs])/\HM kvs xs/\Φ (.val .non)
def Uu:RD:=λdk ds Φ=>∃ (C:Cel) (kvs:List (hI×D)) (ρ:Str->Int),ds=[qW C,.dK kvs]/\GC C/\sT kvs C.ins ρ/\Φ (.val (.tup (C.outs.map λo=>D.int (sR C ρ o))))
theorem Mr {α:Type} [DecidableEq α] {a b:α}{p q:Prop}(h1:a=b->p) (h2:¬ a=b->q):if (nb false (decide (a=b)))=true then p else q:=by
 by_cases e:a=b
 ·rw[aP (by simp[nb,e])];exact h1 e
 ·rw[aM (by simp[nb,e])];exact h2 e
theorem RO {c:Prop} [Decidable c] {p q:Prop}(h1:c->p) (h2:¬ c->q):if (decide c)=true then p else q:=by
 by_cases e:c
 ·rw[aP (bE e)];exact h1 e
 ·rw[aM (by simp[e])];exact h2 e
theorem L5 (h:kvs.length<100000):uJ (.dK kvs) (.str x) d=some (.dK (nR kvs (Sum.inr x) d)):=by
 simp only[uJ,aP h];rfl
theorem RF (t:nK):(hO t).length=t.length:=by simp[hO]
theorem GD:(["name","bits"]:List Str).Nodup:=by decide +kernel
theorem CY:(["known","told"]:List Str).Nodup:=by decide +kernel
theorem HW:(["name","told"]:List Str).Nodup:=by decide +kernel
section
variable {P:Program}{K:mC}
theorem Xc:FnScope ["word","bits"] ["word","bits"] (nF Iu):=oW
theorem GJ (F:Fun K "gate_bit" "gate_bit" Iu f fd) (T:Txt mg):FnOk P w K mg base mJ 1 f fd ["word","bits"] (mQ K Ib):=by
 refine F.okD (k:=0) Xc (λj W c ⟨_,_,e,_⟩=>by rw[e];rfl) (by decide) λY A o s H E j W c g Q=>?_
 have O:=oX g;obtain⟨h,bs,rfl,x,ok,r⟩:=Q;have fin:∀ z:Int,z=qK h bs->c (.val (.int z)):=λz e=>by rw[e];exact r
 have a:=Nd bs;have st:∀ (e:Str) (t u:qV),(h=e->t j { nx:=λ_=>c (.val .non),rt:=c } [.val (.str h),.val (.lst (bs.map D.int))])->(¬ h=e->u j { nx:=λ_=>c (.val .non),rt:=c } [.val (.str h),.val (.lst (bs.map D.int))]) ->
   (∀ L I B,L.rt=I.rt->t j L B->t j I B)->F5 (Dy (A8 (xB (Nz false) 0 (cd (.str e)))) t La) u j { nx:=λ_=>c (.val .non),rt:=c } [.val (.str h),.val (.lst (bs.map D.int))]:=λe t u V U S =>
  ⟨rfl,Mr (λz=>S { nx:=λ_=>c (.val .non),rt:=c } _ _ rfl (V z)) λz=>U z⟩
 refine⟨_,(mF (qT (qZ (rL g.units) (qD false) (pv 0) mS) (mW (nQ (oF (Ny rfl) N1 (by rfl) T.min iY (aD (eA 1 (pv 1)) gV)))) rB) (mF (qT (qZ (rL g.units) (qD false) (pv 0) mS) (mW (nQ (oF (Yd rfl) Xn (by rfl) T.max PyProof.Rows.boot_max (aD (eA 1 (pv 1)) gV)))) rB) (mF (qT (qZ (rL g.units) (qD false) (pv 0) mS) (mW (nQ (nZ tI Tv (oF (Fz rfl) Jr (by rfl) T.sum iX (aD (eA 1 (pv 1)) gV)) kD))) rB) (mF (qT (qZ (rL g.units) (qD false) (pv 0) mS) (mW (nQ (Vn (C1 Pq V3 (oF (Fz rfl) Jr (by rfl) T.sum iX (aD (eA 1 (pv 1)) gV)) kD) kD kD))) rB) (mF (qT (qZ (rL g.units) (qD false) (pv 0) mS) (mW (nQ (nZ xR Ay kD (mP O (pv 1) kD)))) rB) (mW (nQ (Vn (qZ (rL g.units) (qD false) (pv 0) mS) kD kD)))))))),?_⟩;refine st _ _ _ (λe=>⟨bs,a,?_,λm v y=>fin m ?_⟩) (λd=>?_) (λ_ _ _ e=>by unfold rC;rw[e];exact id)
 ·have:=Wt ok (.inl e);intro z;rw[z] at this;simp at this
 ·rw[HV x v y];unfold qK;rw[if_pos e]
 refine st _ _ _ (λe=>⟨bs,a,?_,λm v y=>fin m ?_⟩) (λi=>?_) (λ_ _ _ e=>by unfold rC;rw[e];exact id)
 ·have:=Wt ok (.inr e);intro z;rw[z] at this;simp at this
 ·rw[JK x v y];unfold qK;rw[if_neg d,if_pos e]
 refine st _ _ _ (λe=>⟨bs,a,by show (0:Int)<2;decide,fin _ ?_⟩) (λl=>?_) (λ_ _ _ e=>by unfold rC;rw[e];exact id)
 ·unfold qK;rw[if_neg d,if_neg i,if_pos e]
 refine st _ _ _ (λe=>⟨bs,a,RO (λz=>fin _ ?_) (λz=>fin _ ?_)⟩) (λp=>?_) (λ_ _ _ e=>by unfold rC;rw[e];exact id)
 ·unfold qK;rw[if_neg d,if_neg i,if_neg l,if_pos e,if_pos z]
 ·unfold qK;rw[if_neg d,if_neg i,if_neg l,if_pos e,if_neg z]
 refine st _ _ _ (λe=>?_) (λC=>?_) (λ_ _ _ e=>by unfold rC;rw[e];exact id)
 ·subst e;have N:=Z1 ok;obtain⟨b,rfl⟩:∃ b,bs=[b]:=by
   match bs,N with
   | [b],_=>exact⟨b,rfl⟩
  refine⟨rfl,.int b,rfl,fin _ ?_⟩;have:=x b (by simp);unfold qK;rw[aM d,aM i,aM l,aM p,aP rfl];rcases this with q | q<;>subst q<;>simp
 refine⟨rfl,Mr (λe=>fin _ ?_) λM=>fin _ ?_⟩
 ·unfold qK;rw[if_neg d,if_neg i,if_neg l,if_neg p,if_neg C,if_pos e]
 ·unfold qK;rw[if_neg d,if_neg i,if_neg l,if_neg p,if_neg C,if_neg M]
theorem Q2:FnScope ["names","given","name"] ["names","given"] (nF E5):=oW
theorem Tj (hb:H b=some (.dK kvs)) (hv:rX kvs (Sum.inr x)=some v):sS H b (.str x) (some v):=by
 have:=sS.k (k:=(Sum.inr x:hI)) hb
 rwa [hv] at this
theorem Ql {xs:List Str}{i:Nat}{x:V}(h:(xs.map V.str)[i]?=some x):∃ y,xs[i]?=some y/\V.str y=x:=by
 rw[aX] at h;cases e:xs[i]? with
 | none=>rw[e] at h;cases h
 | some y=>rw[e] at h;exact⟨y,rfl,cA h⟩
theorem CZ (F:Fun K "check_there" "check_there" E5 f fd):FnOk P w K mg base mJ 1 f fd ["names","given"] (mQ K P5):=by
 refine F.ok Q2 (λN H Q E ⟨dk,A,ds,T,t,hA,r,⟨h,I,e,_⟩,S⟩=>by rw[← r.length];rcases e with e | e<;>rw[e]<;>rfl) (λaa A C s H N Q E hr ⟨dk,A1,ds,T,t,hA,r,⟨h,I,e,ht,L⟩,S⟩=>?_);have Z:=oX hr;obtain⟨c,b,k,rfl,m,u,q⟩:∃ c b k,N=[.ref c,.ref b]/\(mG K H c (h.map V.str)\/nL K H c (h.map V.str))/\H b=some (.dK k)/\∀ x∈h,∃ v,rX k (Sum.inr x)=some v:=by
  rcases e with e | e<;>subst e
  all_goals (
   cases r with
   | cons O r =>
    cases r with
    | cons Y r =>
     cases r;obtain⟨b,k,rfl,_,u,e1,W⟩:=Y.dK_inv;have q:∀ x∈h,∃ v,rX k (Sum.inr x)=some v:=λx p=>by
      obtain⟨d,hd⟩:=ht x p;obtain⟨v,z,_⟩:=(Fy e1 W (Sum.inr x)).1 d hd;exact⟨v,z⟩
     first
     | (obtain⟨c,U,rfl,z,B⟩:=O.tup_inv;have:=Mp (Hq h) B;subst this;exact⟨c,b,k,rfl,.inr (nL.of z),u,q⟩)
     | (obtain⟨c,U,rfl,_,z,B⟩:=O.lst_inv;have:=Mp (Hq h) B;subst this;exact⟨c,b,k,rfl,.inl (mG.of z),u,q⟩))
 have fin:Q .non H:=S (.val .non) .non H L (λ_ _ e _=>e) t .non;refine⟨_,rY (Af bM rfl (Pm (pv 0)) (wT (i:=2) Q2.nd rfl (Or.inl rfl)) (rY (zS (FO (Zl Z (pv 2) (pv 1))) (rY X6) Bo))),?_⟩;refine⟨_,rfl,?_⟩;rcases m with m | m
 ·refine .inl ⟨c,rfl,⟨_,m⟩,?_⟩;refine DR (K:=K) (a:=c) (xs:=h.map V.str) (λi g j=>j=H/\∃ o,g=[some (.ref c),some (.ref b),o]) ⟨rfl,none,rfl⟩ (λi g j _ ⟨e,_⟩=>by rw[e];exact m) ?_ ?_
  ·rintro i x g j p ⟨rfl,o,rfl⟩;obtain⟨y,M,rfl⟩:=Ql p;obtain⟨v,l⟩:=q y (aI M);exact⟨_,rfl,_,rfl,b,_,rfl,Tj u l,_,rfl,pT ⟨rfl,_,rfl⟩⟩
  ·rintro g j ⟨rfl,_⟩;exact fin
 ·refine .inr (.inl ⟨c,rfl,⟨_,m⟩,?_⟩);refine EF (K:=K) (a:=c) (xs:=h.map V.str) (λi g j=>j=H/\∃ o,g=[some (.ref c),some (.ref b),o]) ⟨rfl,none,rfl⟩ (λi g j _ ⟨e,_⟩=>by rw[e];exact m) ?_ ?_
  ·rintro i x g j p ⟨rfl,o,rfl⟩;obtain⟨y,M,rfl⟩:=Ql p;obtain⟨v,l⟩:=q y (aI M);exact⟨_,rfl,_,rfl,b,_,rfl,Tj u l,_,rfl,pT ⟨rfl,_,rfl⟩⟩
  ·rintro g j ⟨rfl,_⟩;exact fin
theorem Du:FnScope ["cell","bits","told","name","word","names"] ["cell","bits"] (nF Gb):=oW
theorem FG (F:Fun K "told_by" "told_by" Gb f fd) (T:Txt mg) (Kk:Gd K mg "check_there" E5 ["names","given"] fT fdT) (Mj:Gd K mg "gate_bit" Iu ["word","bits"] fG fdG)
  (LG:FnOk P w K mg base mJ 1 fT fdT ["names","given"] (mQ K P5)) (AT:FnOk P w K mg base mJ 1 fG fdG ["word","bits"] (mQ K Ib)):FnOk P w K mg base mJ 2 f fd ["cell","bits"] (mQ K Uu):=by
 refine F.okD (k:=1) Du (λdk ds Φ ⟨_,_,_,e,_⟩=>by rw[e];rfl) (by decide) λae A aa s H E dk ds Φ hr hR=>?_
 have M:=oX hr;obtain⟨C,c,t,rfl,S,hH,ac⟩:=hR;have li:=S.li;have lg:=S.lg;have O:C.ins.Nodup:=(bK.mp S.nd).1;refine⟨_,(mF (rW (mV LG (hr.mono (by decide)) (by rfl) Kk.m Kk.k Kk.b (aD (mP M (pv 0) kD) (aD (eA 1 (pv 1)) gV)))) (mF (mY (i:=2) Du.nd rfl (Or.inr rfl) (pC (zC rfl) yV (by rfl) T.dict cZ (aD (pP ["name"] ["bits"] [1] rfl (nS (mP M (pv 0) kD)) rfl rfl (λ_ _ _ _ _=>(mM (i:=0) GD rfl (Or.inl rfl))) (λ_ _ _ _ _=>pG) (λ_ _ _ _ _=>(oS (aD (eA 0 (pv 0)) (aD (mP M (pv 1) (eA 0 (pv 0))) gV))))) gV))) (mF (qU (m:=99) bM rfl (nS (mP M (pv 0) kD)) (sB (n:=3) rfl (nP (mM (i:=3) Du.nd rfl (Or.inl rfl)) (nP (mM (i:=4) Du.nd rfl (Or.inl rfl)) (nP (mM (i:=5) Du.nd rfl (Or.inl rfl)) qS)))) (mW (vW (n:=2) M (mV AT (hr.mono (by decide)) (by rfl) Mj.m Mj.k Mj.b (aD (eA 4 (pv 4)) (aD (pP ["known"] ["told"] [2] rfl (nS (eA 5 (pv 5))) rfl rfl (λ_ _ _ _ _=>(mM (i:=0) CY rfl (Or.inl rfl))) (λ_ _ _ _ _=>pG) (λ_ _ _ _ _=>(mP M (pv 1) (eA 0 (pv 0))))) gV))) (pv 2) (eA 3 (pv 3))))) (mW (nQ (pC tN tO (by rfl) T.tuple bU (aD (pP ["name"] ["told"] [2] rfl (nS (mP M (pv 0) kD)) rfl rfl (λ_ _ _ _ _=>(mM (i:=0) HW rfl (Or.inl rfl))) (λ_ _ _ _ _=>pG) (λ_ _ _ _ _=>(mP M (pv 1) (eA 0 (pv 0))))) gV))))))),?_⟩;refine⟨rfl,_,rfl,C.ins,c,.inl rfl,λx Q=>⟨_,(hH x Q).1⟩,.inl rfl,?_⟩;dsimp only;refine mK (λl=>l=[.val (qW C),.val (.dK c),.own (.dK (hO (C.ins.map λn=>(n,t n)))),.no,.no,.no]) (λN hN=>?_) ?_
 ·unfold rG dC aC;refine pZ C.ins D.str (λn=>.tup [.str n,.int (t n)]) [.val (qW C),.val (.dK c),.no,.no,.no,.no] (λΨ h=>⟨rfl,_,rfl,h⟩) (by omega) (λi n ys Nx e h1 Z=>?_) ?_
  ·refine⟨rfl,.int (t n),?_,by show 2<=1000;decide,h1,Z⟩;show some (mZ c (Sum.inr n))=_;rw[(hH n (aI e)).1]
  have e0:wU (C.ins.map λn=>D.tup [.str n,.int (t n)])=some (hO (C.ins.map λn=>(n,t n))):=by
   rw[Io (g:=λn=>((Sum.inr n:hI),D.int (t n))) (λn=>⟨.str n,rfl,rfl⟩)];simp[hO]
  refine⟨_,e0,by simp[hO];omega,?_⟩;rw[Aq (by simpa [iF] using O)];exact hN _ rfl
 rintro _ rfl;have h0:sT (hO (C.ins.map λn=>(n,t n))) C.ins t:=λx Q=>by
  refine⟨?_,(hH x Q).2⟩;have hm:x∈(C.ins.map λn=>(n,t n)).map (·.1):=by simpa [iF] using Q
  rw[(zK _ x).1 hm]
  congr 2
  clear hm;revert Q;generalize C.ins=xs;induction xs with
  | nil=>intro h;simp at h
  | cons a r ih =>
   intro h;rw[aO,Hc];by_cases q:a=x
   ·rw[aP q,q]
   ·rw[aM q];rcases aL.mp h with z | z
    ·exact absurd z.symm q
    ·exact ih z
 refine mK (λl=>∃ (d:List (hI×D)) (L I B:Sl),l=[.val (qW C),.val (.dK c),.own (.dK d),L,I,B]/\sT d C.names (sR C t)) (λN hN=>?_) ?_
 ·refine rF (C.gates.map nX) _ (λΨ h=>⟨rfl,_,rfl,h⟩)
   (λi l=>∃ (d:List (hI×D)) (L I B:Sl),l=[.val (qW C),.val (.dK c),.own (.dK d),L,I,B]/\sT d (C.ins++(C.gates.take i).map (·.1)) (uY t (C.gates.take i))/\d.length<=40+i) ⟨_,.no,.no,.no,rfl,by simpa [uY] using h0,by rw[RF,aA];omega⟩ ?_ ?_
  ·rintro i x l Q ⟨d,L,I,B,rfl,v,hl⟩;obtain⟨g,y,rfl⟩:=qH Q;obtain⟨Y,U⟩:=S.gt.at y;have hi:i<C.gates.length:=(aU.mp y).1;have V:g.1∉C.ins++(C.gates.take i).map (·.1):=λq=>by
    have nd:(C.ins++C.gates.map (·.1)).Nodup:=S.nd;have e:C.gates=C.gates.take i++g::C.gates.drop (i+1):=by
     obtain⟨hi,rfl⟩:=aU.mp y;rw[kE,gB]
    rw[e,aJ,← bJ] at nd;exact (bK.mp nd).2.2 g.1 q g.1 (by simp) rfl
   have tk:C.gates.take (i+1)=C.gates.take i++[g]:=by rw[bS,y];rfl
   generalize ab:uY t (C.gates.take i)=u at v;have W:∀ p∈g.2.2,oV (u p):=λp hp=>(v p (U p hp)).2
   refine⟨rfl,rfl,?_⟩;unfold Nl F1 aC vd;simp only[lM,List.set_cons_zero,List.getElem?_cons_succ,List.getElem?_cons_zero];refine pZ g.2.2 D.str (λo=>.int (u o)) [.val (qW C),.val (.dK c),.own (.dK d),.val (.str g.1),.val (.str g.2.1),.val (.tup (g.2.2.map D.str))] (λΨ h=>h) (by rcases Y.ok with⟨_,q | q⟩ | ⟨_,q⟩ | ⟨_,q⟩ | ⟨_,q⟩ | ⟨_,q⟩<;>omega) (λj o ys Nx e h1 Z=>?_) ?_
   ·refine⟨rfl,.int (u o),?_,h1,Z⟩;show some (mZ d (Sum.inr o))=_;rw[(v o (U o (aI e))).1]
   refine⟨g.2.1,g.2.2.map u,by rw[aQ];rfl,(λb hb=>by obtain⟨p,hp,rfl⟩:=aV.mp hb;exact W p hp),by rw[aA];exact Y,.inl rfl,rfl,_,L5 (by omega),nR d (Sum.inr g.1) (.int (qK g.2.1 (g.2.2.map u))),_,_,_,rfl,?_,?_⟩
   ·rw[tk,Ks,ab,aJ,← bJ];exact v.step (Lo _ _) V
   ·have:=Oe d (Sum.inr g.1:hI) (.int (qK g.2.1 (g.2.2.map u)));omega
  ·rintro l ⟨d,L,I,B,rfl,v,hl⟩;rw[aA,bR (aZ _)] at v;exact hN _ ⟨d,L,I,B,rfl,v⟩
 rintro _ ⟨d,L,I,B,rfl,v⟩;unfold rC dC aC;have lo:=S.lo;refine pZ C.outs D.str (λo=>.int (sR C t o)) [.val (qW C),.val (.dK c),.own (.dK d),L,I,B] (λΨ h=>⟨rfl,_,rfl,h⟩) (by omega) (λj o ys Nx e h1 Z=>?_) ac;refine⟨rfl,.int (sR C t o),?_,h1,Z⟩;show some (mZ d (Sum.inr o))=_;rw[(v o (S.os o (aI e))).1]
end
theorem G4 (xs:List Str):uO (xs.map D.str)=some (xs.map V.str):=Gg (λ_=>rfl) xs
theorem Ea:∀ xs:List Str,uW (.str x) (xs.map V.str)=decide (x∈xs)
 | []=>by simp[uW]
 | y::xs=>by
  have a:=Ea (x:=x) xs;unfold uW at a ⊢;rw[aO,eY,a];by_cases e:x=y
  ·subst e;have:qI (V.str x) (V.str x)=true:=iK x;simp[this]
  ·have:qI (V.str y) (V.str x)=false:=by
    show (y == x)=false;exact cP.mpr λz=>e z.symm
   have:qI (V.str x) (V.str y)=false:=by
    show (x == y)=false;exact cP.mpr e
   simp[*]
theorem zO {p q:Prop}{c:Bool}(h:c=false) (hq:q):if c=true then p else q:=by rw[aM (by rw[h];decide)];exact hq
theorem Fm {p q:Prop}{c:Bool}(h:c=true) (hp:p):if c=true then p else q:=by rw[aP h];exact hp
theorem Wh:∀ (gs:List (Str×Str×List Str)) (kn:List Str) (ρ:Str->Int),(∀ x∈kn,oV (ρ x))->∀ x∈kn++gs.map (·.1),oV (uY ρ gs x)
 | [],kn,ρ,h,x,a=>h x (by simpa using a)
 | g::gs,kn,ρ,h,x,a=>by
  refine Wh gs (kn++[g.1]) _ (λy b=>?_) x (by simpa using a);by_cases e:y=g.1
  ·show oV (if y=g.1 then _ else _);rw[aP e];exact Lo _ _
  ·show oV (if y=g.1 then _ else _);rw[aM e];rcases aR.mp b with z | z
   ·exact h y z
   ·exact absurd (bA.mp z) e
theorem Na (g:GC C) (h:∀ x∈C.ins,oV (ρ x)):∀ o∈C.outs,oV (sR C ρ o):=λo a=>Wh C.gates C.ins ρ h o (g.os o a)
theorem Hn:(["output","name"]:List Str).Nodup:=by decide +kernel
theorem Rm:(["name","carried"]:List Str).Nodup:=by decide +kernel
def nA (C:Cel) (prs:List (Str×Str)):D:=.tup [qW C,.tup (prs.map λp=>D.tup [.str p.1,.str p.2])]
def mH (C:Cel) (prs:List (Str×Str)):List Str:=C.ins.filter λx=>!decide (x∈prs.map (·.2))
def nV (C:Cel) (prs:List (Str×Str)):List Str:=C.outs.filter λx=>!decide (x∈prs.map (·.1))
def Ew:RD:=λdk ds Φ=>∃ C prs,ds=[nA C prs]/\prs.length<=100/\Φ (.own (.lst (prs.map λp=>D.str p.2)))
def J1:RD:=λdk ds Φ=>∃ C prs,ds=[nA C prs]/\prs.length<=100/\C.ins.length<=100/\Φ (.own (.lst ((mH C prs).map D.str)))
def Rl:RD:=λdk ds Φ=>∃ C prs,ds=[nA C prs]/\prs.length<=100/\C.outs.length<=100/\Φ (.own (.lst ((nV C prs).map D.str)))
section
variable {P:Program}{K:mC}
theorem LC:FnScope ["row"] ["row"] (nF Bq):=oW
theorem Po:FnScope ["row","carried"] ["row"] (nF Cj):=oW
theorem Vw:FnScope ["row","carried"] ["row"] (nF Ft):=oW
theorem Ym (F:Fun K "carried_inputs" "carried_inputs" Bq f fd):FnOk P w K mg base mJ 1 f fd ["row"] (mQ K Ew):=by
 refine F.okD (k:=0) LC (λr q d ⟨_,_,e,_⟩=>by rw[e];rfl) (by decide) λt A b s H E r q d j l=>?_
 have g:=oX j;obtain⟨C,a,rfl,x,c⟩:=l;refine⟨_,(mW (nQ (pP ["output","name"] [] [] rfl (nS (mP g (pv 0) kD)) rfl rfl (λ_ _ _ _ _=>(sB (n:=2) rfl (nP (mM (i:=0) Hn rfl (Or.inl rfl)) (nP (mM (i:=1) Hn rfl (Or.inl rfl)) qS)))) (λ_ _ _ _ _=>pG) (λ_ _ _ _ _=>(eA 1 (pv 1)))))),?_⟩;unfold rC;exact pZ a (λp=>D.tup [.str p.1,.str p.2]) (λp=>D.str p.2) _ (λu h=>⟨rfl,_,rfl,h⟩) (by omega) (λi p v y e o m=>⟨rfl,rfl,o,m⟩) c
theorem GQ (F:Fun K "word_inputs" "word_inputs" Cj f fd) (wJ:Gd K mg "carried_inputs" Bq ["row"] fC fdC) (B0:FnOk P w K mg base mJ 1 fC fdC ["row"] (mQ K Ew)):FnOk P w K mg base mJ 2 f fd ["row"] (mQ K J1):=by
 refine F.okD (k:=1) Po (λL I o ⟨_,_,e,_⟩=>by rw[e];rfl) (by decide) λM A c s H E L I o j t=>?_
 have g:=oX j;obtain⟨C,a,rfl,r,S,d⟩:=t;refine⟨_,(mF (mY (i:=1) Po.nd rfl (Or.inr rfl) (mV B0 (j.mono (by decide)) (by rfl) wJ.m wJ.k wJ.b (aD (eA 0 (pv 0)) gV))) (mW (nQ (pP ["name"] ["carried"] [1] rfl (nS (pY g (mP g (pv 0) kD) kD)) rfl rfl (λ_ _ _ _ _=>(mM (i:=0) Rm rfl (Or.inl rfl))) (λ_ _ _ _ _=>(xE (xY (zG g) (wE true) (eA 0 (pv 0)) (pv 1)))) (λ_ _ _ _ _=>(eA 0 (pv 0))))))),?_⟩;refine mK (λl=>l=[.val (nA C a),.own (.lst (a.map λp=>D.str p.2))]) (λN u=>⟨C,a,rfl,r,.inl rfl,u _ rfl⟩) ?_;rintro _ rfl;unfold rC;refine xV C.ins D.str D.str (λx=>!decide (x∈a.map λp:Str×Str=>p.2)) [.val (nA C a),.own (.lst (a.map λp:Str×Str=>D.str p.2))] (λO h=>⟨rfl,_,rfl,_,rfl,h⟩) (by omega) (λi x Q T e z y v=>?_) d;have B:(a.map λp=>D.str p.2)=(a.map (·.2)).map D.str:=by rw[aQ];rfl
 refine⟨.str x,(a.map (·.2)).map V.str,rfl,by rw[B];exact G4 _,?_⟩;rw[Ea];show if (!decide (x∈a.map (·.2)))=true then _ else _
 by_cases q:x∈a.map (·.2)
 ·exact zO (by rw[bE q];rfl) (v (by rw[bE q];rfl))
 ·exact Fm (by rw[bD q];rfl) ⟨z,y (by rw[bD q];rfl)⟩
theorem Zu (F:Fun K "word_outputs" "word_outputs" Ft f fd):FnOk P w K mg base mJ 1 f fd ["row"] (mQ K Rl):=by
 refine F.okD (k:=0) Vw (λI B o ⟨_,_,e,_⟩=>by rw[e];rfl) (by decide) λL A c s H E I B o t u=>?_
 have b:=oX t;obtain⟨C,a,rfl,O,Q,d⟩:=u;refine⟨_,(mF (mY (i:=1) Vw.nd rfl (Or.inr rfl) (pP ["output","name"] [] [] rfl (nS (mP b (pv 0) kD)) rfl rfl (λ_ _ _ _ _=>(sB (n:=2) rfl (nP (mM (i:=0) Hn rfl (Or.inl rfl)) (nP (mM (i:=1) Hn rfl (Or.inl rfl)) qS)))) (λ_ _ _ _ _=>pG) (λ_ _ _ _ _=>(eA 0 (pv 0))))) (mW (nQ (pP ["name"] ["carried"] [1] rfl (nS (pY b (mP b (pv 0) kD) kD)) rfl rfl (λ_ _ _ _ _=>(mM (i:=0) Rm rfl (Or.inl rfl))) (λ_ _ _ _ _=>(xE (xY (zG b) (wE true) (eA 0 (pv 0)) (pv 1)))) (λ_ _ _ _ _=>(eA 0 (pv 0))))))),?_⟩;refine mK (λl=>l=[.val (nA C a),.own (.lst (a.map λp=>D.str p.1))]) (λN v=>?_) ?_
 ·unfold rG;exact pZ a (λp=>D.tup [.str p.1,.str p.2]) (λp=>D.str p.1) [.val (nA C a),.no] (λm h=>⟨rfl,_,rfl,h⟩) (by omega) (λi p r M e j g=>⟨rfl,rfl,j,g⟩) (v _ rfl)
 rintro _ rfl;unfold rC;refine xV C.outs D.str D.str (λx=>!decide (x∈a.map λp:Str×Str=>p.1)) [.val (nA C a),.own (.lst (a.map λp:Str×Str=>D.str p.1))] (λm h=>⟨rfl,_,rfl,_,rfl,h⟩) (by omega) (λi x r M e j g y=>?_) d;have z:(a.map λp=>D.str p.1)=(a.map (·.1)).map D.str:=by rw[aQ];rfl
 refine⟨.str x,(a.map (·.1)).map V.str,rfl,by rw[z];exact G4 _,?_⟩;rw[Ea];show if (!decide (x∈a.map (·.1)))=true then _ else _
 by_cases q:x∈a.map (·.1)
 ·exact zO (by rw[bE q];rfl) (y (by rw[bE q];rfl))
 ·exact Fm (by rw[bD q];rfl) ⟨j,g (by rw[bD q];rfl)⟩
end
end Lw
namespace L2
open PySem PySem.Spec PyProof.Rows Lw
section
variable {X:Cx}
variable {st:Expr}
def PR (K:mC) (te ts:TE):TE:=λσ H Q=>te σ H λx H1=>ts σ H1 λy H2=>∃ (a:Addr) (xs:List V),x = .ref a/\y = .int (-1)/\mG K H2 a xs/\∀ p,H2 p=none->Q (.ref p) (upd H2 p (.lst xs.reverse))
theorem X7 (he:PE X e te) (hst:PE X st ts):PE X (.Subscript e (.Slice none none (some st) p2) pos) (PR X.K te ts):=by
 intro c s f H Q I h;refine Subscript_ (mR (he c s f H _ I h) λv m ⟨x,O,M,u,B⟩=>?_);refine wpAny_Slice ?_;rw[evalPart_none];refine aF (aF ?_);rw[evalPart_some];refine mR (hst c m f O _ M B) λS d ⟨y,N,L,p,z⟩=>?_
 obtain⟨a,j,rfl,rfl,F,q⟩:=z;cases u;obtain⟨t,rfl⟩:=p;have i:Inv X c f N { d with heap:=d.heap.push { cls:=.type "slice",data:=.fields #[.none,.none,.int (-1) t] } }:=L.kept (t':=d.toks) λb C q=>aE _ q
 obtain⟨g,r,k,E⟩:=i.list F;have l:g.length=j.length:=r.length.symm;show wpAny (model X.prog X.w) X.A (subscriptTail e (.Slice none none (some st) p2) (.ref a) (.ref d.heap.objs.size)) (EP X c f Q) X.xe { d with heap:=d.heap.push { cls:=.type "slice",data:=.fields #[.none,.none,.int (-1) t] } };refine tail_any (ops:=[.ref a,.ref d.heap.objs.size]) k.isList.typeIs slot_list_getitem.lookup ?_ (by with_unfolding_all rfl);refine wpAny_getItem_list_slice k.isList (Heap.IsSliceOf.new ..) .none .none (.int (-1) t) (by decide) ?_ (by rw[aW];omega);rw[PySem.W.krv_pick];refine⟨.ref _,_,i.laid (t':=d.toks) (o:=.lst j.reverse) (λb C q=>aE _ q) (aZ _) ?_,rfl,q _ (i.hok.fresh (aZ _))⟩;exact⟨by rw[iH];exact E,_,0,mX.reverse r,bB _ rfl⟩
end
section
variable {X:Cx}{K:mC}{st:Expr}
def AB (ta tb:nI):nI:=λdk ρ Φ=>ta dk ρ λra ρ1=>match sd ra with
 | some (.lst xs)=>tb dk ρ1 λrb ρ2=>rb = .val (.int (-1))/\Φ (.own (.lst xs.reverse)) ρ2
 | _=>False
theorem Rq (ha:PD X e ta) (hb:PD X st tb):PD X (.Subscript e (.Slice none none (some st) p2) pos) (AB ta tb) :=
 (X7 ha hb).mono λI H Q g=>g.elim λB l T L F hd C k=>⟨B,l,T,_,F,hd,C,λj f x S z d1 b=>by
  cases i:sd j with
  | none=>rw[i] at b;exact b.elim
  | some d =>
   rw[i] at b;cases d<;>first | exact False.elim b | skip
   rename_i M
   refine⟨B,f,(j,some x)::T,_,z,d1,b,λN c y O v d2 ⟨u,t⟩=>?_⟩;subst u;obtain rfl:=d2.valAt.int_inv;obtain⟨o,m⟩:=d2.drop.one i;obtain⟨a,q,rfl,h,r⟩:=m.peek.lst_inv;exact⟨a,q,rfl,rfl,mG.of h,λp E=>k _ c _ _ v (o.lstF E r.reverse).mid t⟩⟩
end
end L2
namespace PySem
open PyProof.Rows L2
section
theorem DY (hl:s.heap.IsList l items) (q:Q false s):wpAny (model prog w) A (notIterableAtAll (.ref l)) Q E s:=by
 have has:wpAny (model prog w) A (specialOf (.ref l) "__iter__") (λr a=>r.isSome=true/\a=s) E s :=
  aB (eM hl.typeIs (iM F.slot_list_iter.lookup ⟨rfl,rfl⟩))
 unfold notIterableAtAll;refine aB (mR has ?_);rintro r _ ⟨e,rfl⟩;rw[aP e];exact aF q
theorem Wr (away:l≠it):∀ (n i:Nat) (s:Shared) (Q:List Value->Shared->Prop),s.heap.IsListIter it l i->s.heap.IsList l items->i+n<=items.size ->
  (∀ h',h'.IsListIter it l (i+n)->(∀ b,b≠it->h'.get? b=s.heap.get? b)->Q ((items.toList.drop i).take n) { s with heap:=h' })->wpAny (model prog w) A (draw (.ref it) n) Q E s
 | 0,i,s,Q,hit,_,_,q=>aF (q s.heap hit λ_ _=>rfl)
 | n+1,i,s,Q,hit,f,le,q=>by
  have lt:i<items.size:=by omega
  have this:items[i]?=some items[i]:=cK lt;have parts:items.toList.drop i=items[i]::items.toList.drop (i+1):=by
   rw[List.drop_eq_getElem_cons (by simpa using lt)];simp
  unfold draw;refine aB (wpAny_pyNext_list_item hit f this λj c d=>?_);refine aB (bV (Wr away n (i+1) _ _ c (f.at λo e=>(d.2 l away).trans e) (by omega) λh a g=>aF ?_));have:=q h (by rw[show i+(n+1)=i+1+n by omega];exact a) λb nb=>(g b nb).trans (d.2 b nb)
  rw[parts] at this;exact this
theorem NY (calm:A.handled=none) (hl:s.heap.IsList l items) (hn:ts.length=items.size) (plain:ts.findIdx? (·.1)=none)
  (go:∀ h',(∀ b o,s.heap.get? b=some o->h'.get? b=some o)->wpAny (model prog w) A (assignInOrder (ts.map (·.2)) items.toList) Q E { s with heap:=h' }):wpAny (model prog w) A (unpack (.ref l) ts) Q E s:=by
 have lt:l<s.heap.objs.size:=by
  obtain⟨_,e,_⟩:=hl;exact aY e
 let d:=s.heap.push { cls:=.type "list_iterator",data:=.fields #[.ref l,.int 0 0] };have same:∀ b o,s.heap.get? b=some o->d.get? b=some o:=λb o e=>aE _ e
 have less:∀ b o,s.heap.get? b=some o->b≠s.heap.objs.size:=λb o e=>bL (aY e)
 have c:d.IsListIter s.heap.objs.size l 0:=⟨_,bB _ rfl,rfl,rfl⟩;have f:d.IsList l items:=hl.at λo e=>same _ o e
 unfold unpack;rw[plain,hn];refine aB (bV ?_);unfold unpackItems;refine aB (DY hl ?_);rw[aM bF];refine aB (bV (gG hl ?_));refine aB (bV (Wr (bL lt) items.size 0 _ _ c f (by omega) λk a g=>?_));have all:(items.toList.drop 0).take items.size=items.toList:=by rw[lH];exact bR (by simp)
 have h:k.IsList l items:=f.at λo e=>(g l (bL lt)).trans e
 rw[all,aM (by simp)];refine aB (bV (wpAny_pyNext_list_end calm a h (gS (by omega)) λj i=>?_));simp only[Option.isSome_none,eI,gX];exact aF (go j λb o e=>i b o (less b o e) ((g b (less b o e)).trans (same b o e)))
end
end PySem
namespace L2
open PySem PySem.Spec PyProof.Rows
section
variable {X:Cx}
def Y3 (K:mC) (n:Nat) (t:Ax):TG:=λv σ H Q=>∃ a xs,v = .ref a/\mG K H a xs/\xs.length=n/\t xs σ H Q
theorem IL (hc:X.calm=true) (h:xN X es t)
  (hn:(assignEach es X.env).length=n:=by rfl) (plain:(assignEach es X.env).findIdx? (·.1)=none:=by rfl) (ha:∀ v,assign (.Tuple es k pos) X.env v=(do standAt pos;unpack v (assignEach es X.env)):=by intro _;rfl):PG X (.Tuple es k pos) (Y3 X.K n t):=by
 intro b s d H v u Q I r hw;obtain⟨a,e,rfl,i,j,hw⟩:=hw;cases r;obtain⟨g,c,f,l⟩:=I.list i;rw[ha];refine aB (lS (NY (I.ok.hd hc) f.isList (by rw[hn,← j,aW];exact c.length) plain λm k=>?_));exact h b _ d H e _ Q (I.kept (t':=s.toks) k) (by simpa using c) hw
end
end L2
namespace L2
open PySem PySem.Spec PyProof.Rows Lw
section
def Ev (prog:Program) (w:World) (A:Around) (s:Shared) (x y:Value):Prop:=∀ (E:Value->Shared->Prop) (Q:Bool->Shared->Prop),Q true s->wpAny (model prog w) A (eqBool x y) Q E s
end
section
variable {X:Cx}
def Dv (H:Hp) (x y:V):Prop:=∃ (a b:Addr) (kvs:List (hI×V)),x = .ref a/\y = .ref b/\H a=some (.dK kvs)/\H b=some (.dK kvs)/\(kvs.map (·.1)).Nodup/\∀ p∈kvs,sX p.2=true/\qI p.2 p.2=true
theorem Dv.now (I:Inv X pins σ H s) (h:Dv H x y) (rx:nB x u) (ry:nB y v) (hu:A.units<cLine):Ev X.prog X.w A s u v:=by
 obtain⟨a,b,c,rfl,rfl,o,m,j,l⟩:=h;cases rx;cases ry;by_cases e:a=b
 ·subst e;exact λE Q q=>SeqAt.EqAt.same _ X.prog X.w E Q q
 intro E Q q;obtain⟨B,d1,d,g,r⟩:=Cy I.hok o;obtain⟨t,d2,i,f,p⟩:=Cy I.hok m;have k:d.length=i.length:=by rw[← g.length,← f.length]
 unfold eqBool;refine bV (wpAny_ite_split (λz=>absurd (Value.ref.inj (eq_of_beq z)) e) λ_=>aB ?_);refine PySem.W.keq_eq d1 d2 r p hu (λ_=>RW f j c d g (λ_ h=>h) l) (gF ?_);rw[k];simpa using q
end
def W5 (n:Nat) (gs:Au):vA:=λd ρ Φ=>match d with
 | .lst ds=>ds.length=n/\gs ds ρ Φ
 | _=>False
section
variable {X:Cx}
theorem Bj (hc:X.calm=true) (h:Bz X m es gs) (hn:(assignEach es X.env).length=n:=by rfl) (hst:(assignEach es X.env).findIdx? (·.1)=none:=by rfl) (ha:∀ v,assign (.Tuple es k pos) X.env v=(do standAt pos;unpack v (assignEach es X.env)):=by intro _;rfl):vM X m (.Tuple es k pos) (W5 n gs) :=
 (IL hc h hn hst ha).mono λv p H Q e=>e.elim λB f T d g j hd c k=>by
  cases d with
  | lst o =>
   obtain⟨a,i,rfl,_,l,b⟩:=hd.valAt.lst_inv;exact⟨a,i,rfl,mG.of l,by rw[← b.length];exact c.1,B,f,T,o,g,j,b.length,hd.drop.pushs (A:=λ_=>True) b,c.2,k⟩
  | _=>exact c.elim
end
end L2
namespace Lw
open PySem L2
def S7:RD:=λdk ds Φ=>∃ (C:Cel) (kvs:List (hI×D)) (ρ:Str->Int),ds=[qW C,.dK kvs]/\GC C/\sT kvs C.ins ρ/\∀ kv,sT kv C.names (sR C ρ)->Φ (.own (.dK kv))
def Im:RD:=λdk ds Φ=>∃ C prs,ds=[nA C prs]/\prs.length<=100/\C.ins.length<=100/\C.outs.length<=100/\Φ (.own (.lst [.lst ((mH C prs).map D.str),.lst ((nV C prs).map D.str)]))
theorem Hw [Decidable p]:(if decide p=true then (1:Int) else 0)=if p then 1 else 0:=by
 by_cases h:p
 ·rw[aP (bE h),aP h]
 ·rw[aM (by simp[h]),aM h]
theorem DV:(["one","known"]:List Str).Nodup:=by decide +kernel
theorem F7:(["out","into"]:List Str).Nodup:=by decide +kernel
theorem AU:(["name","ins"]:List Str).Nodup:=by decide +kernel
theorem Y1:(["name","outs"]:List Str).Nodup:=by decide +kernel
section
variable {P:Program}{K:mC}
theorem Ru:FnScope ["word","bits","total"] ["word","bits"] (nF Hy):=oW
theorem LK (F:Fun K "_law_gate_bit" "_law_gate_bit" Hy f fd) (T:Txt mg):FnOk P w K mg base mJ 1 f fd ["word","bits"] (mQ K Ib):=by
 refine F.okD (k:=0) Ru (λj S a ⟨_,_,e,_⟩=>by rw[e];rfl) (by decide) λU A r s H E j S a b I=>?_
 have V:=oX b;obtain⟨c,bs,rfl,W,ok,x⟩:=I;have fin:∀ z:Int,z=qK c bs->a (.val (.int z)):=λz e=>by rw[e];exact x
 have o:=Nd bs;have st:∀ (e:Str) (t u:qV),(c=e->t j { nx:=λ_=>a (.val .non),rt:=a } [.val (.str c),.val (.lst (bs.map D.int)),.val (.int bs.sum)])->(¬ c=e->u j { nx:=λ_=>a (.val .non),rt:=a } [.val (.str c),.val (.lst (bs.map D.int)),.val (.int bs.sum)]) ->
   (∀ C B p,C.rt=B.rt->t j C p->t j B p)->F5 (Dy (A8 (xB (Nz false) 0 (cd (.str e)))) t La) u j { nx:=λ_=>a (.val .non),rt:=a } [.val (.str c),.val (.lst (bs.map D.int)),.val (.int bs.sum)]:=λe t u Q O M =>
  ⟨rfl,Mr (λz=>M { nx:=λ_=>a (.val .non),rt:=a } _ _ rfl (Q z)) λz=>O z⟩
 refine⟨_,(mF (mY (i:=2) Ru.nd rfl (Or.inl rfl) (oF (Fz rfl) Jr (by rfl) T.sum iX (aD (eA 1 (pv 1)) gV))) (mF (qT (qZ (rL b.units) (qD false) (pv 0) mS) (mW (nQ (pC zN Ah (by rfl) T.int eR (aD (Be (rL b.units) (qD false) (pv 2) (oF qQ qR (by rfl) T.len bP (aD (eA 1 (pv 1)) gV))) gV)))) rB) (mF (qT (qZ (rL b.units) (qD false) (pv 0) mS) (mW (nQ (pC zN Ah (by rfl) T.int eR (aD (Be Dj Dc (pv 2) kD) gV)))) rB) (mF (qT (qZ (rL b.units) (qD false) (pv 0) mS) (mW (nQ (pL tI Tv (pv 2) kD))) rB) (mF (qT (qZ (rL b.units) (qD false) (pv 0) mS) (mW (nQ (pC zN Ah (by rfl) T.int eR (aD (Be Pq V3 (pv 2) kD) gV)))) rB) (mF (qT (qZ (rL b.units) (qD false) (pv 0) mS) (mW (nQ (pC zN Ah (by rfl) T.int eR (aD (Be (rL b.units) (qD false) (pv 2) kD) gV)))) rB) (mW (nQ (HL bG jT PySem.F.type_list_index P1 OG (nN (aD mS (aD mS gV))) (aD (eA 0 (pv 0)) gV)))))))))),?_⟩;refine mK (λp=>p=[.val (.str c),.val (.lst (bs.map D.int)),.val (.int bs.sum)]) (λN L=>⟨bs,o,L _ rfl⟩) ?_;rintro _ rfl;refine st _ _ _ (λe=>⟨rfl,rfl,_,rfl,fin _ ?_⟩) (λd=>?_) (λ_ _ _ e=>by unfold rC;rw[e];exact id)
 ·unfold qK;rw[aP e];show (if decide (bs.sum=(((bs.map D.int).length:Nat):Int))=true then (1:Int) else 0)=_;rw[aA];exact Hw
 refine st _ _ _ (λe=>⟨rfl,fin _ ?_⟩) (λg=>?_) (λ_ _ _ e=>by unfold rC;rw[e];exact id)
 ·unfold qK;rw[aM d,aP e];exact Hw
 refine st _ _ _ (λe=>⟨rfl,by show (0:Int)<2;decide,fin _ ?_⟩) (λl=>?_) (λ_ _ _ e=>by unfold rC;rw[e];exact id)
 ·unfold qK;rw[if_neg d,if_neg g,if_pos e]
 refine st _ _ _ (λe=>⟨rfl,fin _ ?_⟩) (λq=>?_) (λ_ _ _ e=>by unfold rC;rw[e];exact id)
 ·unfold qK;rw[aM d,aM g,aM l,aP e];exact Hw
 refine st _ _ _ (λe=>⟨rfl,fin _ ?_⟩) (λv=>?_) (λ_ _ _ e=>by unfold rC;rw[e];exact id)
 ·unfold qK;rw[aM d,aM g,aM l,aM q,aP e];exact Hw
 refine⟨by show 2<=1000;decide,?_⟩;rcases KI ok d g l q v with rfl | rfl
 ·refine⟨rfl,[.str "nil",.str "one"],.str "one",1,rfl,rfl,by show 1<2;decide,λz h=>?_,λm z y h=>?_,fin _ ?_⟩
  ·cases h;decide +kernel
  ·obtain rfl:m=0:=by omega
   cases h;decide +kernel
  ·unfold qK;rw[if_neg d,if_neg g,if_neg l,if_neg q,if_neg v,if_pos rfl];rfl
 ·refine⟨rfl,[.str "nil",.str "one"],.str "nil",0,rfl,rfl,by show 0<2;decide,λz h=>?_,λm z y h=>absurd y (Nat.not_lt_zero _),fin _ ?_⟩
  ·cases h;decide +kernel
  ·unfold qK;rw[if_neg d,if_neg g,if_neg l,if_neg q,if_neg v,if_neg (by decide +kernel)];rfl
theorem Bp:FnScope ["cell","bits","known","name","word","names"] ["cell","bits"] (nF Ii):=oW
theorem Lz:FnScope ["row","ins","outs"] ["row"] (nF Bw):=oW
theorem NR (F:Fun K "_law_all_bits" "_law_all_bits" Ii f fd) (T:Txt mg) (Nh:Gd K mg "_law_gate_bit" Hy ["word","bits"] fG fdG)
  (Xl:FnOk P w K mg base mJ 1 fG fdG ["word","bits"] (mQ K Ib)):FnOk P w K mg base mJ 2 f fd ["cell","bits"] (mQ K S7):=by
 refine F.okD (k:=1) Bp (λdk ds Φ ⟨_,_,_,e,_⟩=>by rw[e];rfl) (by decide) λag A aa s H E dk ds Φ hr hR=>?_
 have M:=oX hr;obtain⟨C,l,z,rfl,S,h0,ac⟩:=hR;have li:=S.li;have lg:=S.lg;refine⟨_,(mF (mY (i:=2) Bp.nd rfl (Or.inr rfl) Jb) (mF (qU (m:=99) bM rfl (nS (mP M (pv 0) kD)) (mM (i:=3) Bp.nd rfl (Or.inl rfl)) (mW (vW (n:=2) M (mP M (pv 1) (eA 3 (pv 3))) (pv 2) (eA 3 (pv 3))))) (mF (qU (m:=99) bM rfl (nS (mP M (pv 0) kD)) (sB (n:=3) rfl (nP (mM (i:=3) Bp.nd rfl (Or.inl rfl)) (nP (mM (i:=4) Bp.nd rfl (Or.inl rfl)) (nP (mM (i:=5) Bp.nd rfl (Or.inl rfl)) qS)))) (mW (vW (n:=2) M (mV Xl (hr.mono (by decide)) (by rfl) Nh.m Nh.k Nh.b (aD (eA 4 (pv 4)) (aD (pP ["one"] ["known"] [2] rfl (nS (eA 5 (pv 5))) rfl rfl (λ_ _ _ _ _=>(mM (i:=0) DV rfl (Or.inl rfl))) (λ_ _ _ _ _=>pG) (λ_ _ _ _ _=>(mP M (pv 1) (eA 0 (pv 0))))) gV))) (pv 2) (eA 3 (pv 3))))) (mW (nQ (zT 2 (pv 2))))))),?_⟩;refine mK (λc=>c=[.val (qW C),.val (.dK l),.own (.dK []),.no,.no,.no]) (λN W=>W _ rfl) ?_;rintro _ rfl;refine mK (λc=>∃ (a:List (hI×D)) (d:Sl),c=[.val (qW C),.val (.dK l),.own (.dK a),d,.no,.no]/\sT a C.ins z/\a.length<=40) (λN W=>?_) ?_
 ·refine rF (C.ins.map D.str) _ (λΨ h=>⟨rfl,_,rfl,h⟩)
   (λi c=>∃ (a:List (hI×D)) (d:Sl),c=[.val (qW C),.val (.dK l),.own (.dK a),d,.no,.no]/\sT a (C.ins.take i) z/\a.length<=i) ⟨_,.no,rfl,λx L=>by simp at L,by simp⟩ ?_ ?_
  ·rintro i x c L ⟨a,d,rfl,r,Z⟩;obtain⟨y,Y,rfl⟩:=qH L;have hi:i<C.ins.length:=(aU.mp Y).1;have hm:=aI Y;have tk:C.ins.take (i+1)=C.ins.take i++[y]:=by rw[bS,Y];rfl
   have O:C.ins.Nodup:=(bK.mp S.nd).1;have u:y∉C.ins.take i:=λq=>by
    have e:C.ins=C.ins.take i++y::C.ins.drop (i+1):=by
     obtain⟨hi,rfl⟩:=aU.mp Y;rw[kE,gB]
    rw[e] at O;exact (bK.mp O).2.2 y q y (by simp) rfl
   refine⟨rfl,.int (z y),?_,rfl,_,L5 (by omega),nR a (Sum.inr y) (.int (z y)),_,rfl,?_,?_⟩
   ·show some (mZ l (Sum.inr y))=_;rw[(h0 y hm).1]
   ·rw[tk];have:=r.step (h0 y hm).2 u;refine λx L=>?_
    have q:=this x L;dsimp only at q;by_cases e:x=y
    ·subst e;rw[aP rfl] at q;exact q
    ·rw[aM e] at q;exact q
   ·have:=Oe a (Sum.inr y:hI) (.int (z y));omega
  ·rintro c ⟨a,d,rfl,r,Z⟩;rw[aA,bR (aZ _)] at r;rw[aA] at Z;exact W _ ⟨a,d,rfl,r,by omega⟩
 rintro _ ⟨ae,d,rfl,h1,af⟩;refine mK (λc=>∃ (a:List (hI×D)) (d I B:Sl),c=[.val (qW C),.val (.dK l),.own (.dK a),d,I,B]/\sT a C.names (sR C z)) (λN W=>?_) ?_
 ·refine rF (C.gates.map nX) _ (λΨ h=>⟨rfl,_,rfl,h⟩)
   (λi c=>∃ (a:List (hI×D)) (d I B:Sl),c=[.val (qW C),.val (.dK l),.own (.dK a),d,I,B]/\sT a (C.ins++(C.gates.take i).map (·.1)) (uY z (C.gates.take i))/\a.length<=100+i) ⟨_,d,.no,.no,rfl,by simpa [uY] using h1,by omega⟩ ?_ ?_
  ·rintro i x c L ⟨a,d,I,B,rfl,r,Z⟩;obtain⟨g,v,rfl⟩:=qH L;obtain⟨V,Q⟩:=S.gt.at v;have hi:i<C.gates.length:=(aU.mp v).1;have u:g.1∉C.ins++(C.gates.take i).map (·.1):=λq=>by
    have O:(C.ins++C.gates.map (·.1)).Nodup:=S.nd;have e:C.gates=C.gates.take i++g::C.gates.drop (i+1):=by
     obtain⟨hi,rfl⟩:=aU.mp v;rw[kE,gB]
    rw[e,aJ,← bJ] at O;exact (bK.mp O).2.2 g.1 q g.1 (by simp) rfl
   have tk:C.gates.take (i+1)=C.gates.take i++[g]:=by rw[bS,v];rfl
   generalize ab:uY z (C.gates.take i)=t at r;have U:∀ p∈g.2.2,oV (t p):=λp hp=>(r p (Q p hp)).2
   refine⟨rfl,rfl,?_⟩;unfold Nl F1 aC vd;simp only[lM,List.set_cons_zero,List.getElem?_cons_succ,List.getElem?_cons_zero];refine pZ g.2.2 D.str (λo=>.int (t o)) [.val (qW C),.val (.dK l),.own (.dK a),.val (.str g.1),.val (.str g.2.1),.val (.tup (g.2.2.map D.str))] (λΨ h=>h) (by rcases V.ok with⟨_,q | q⟩ | ⟨_,q⟩ | ⟨_,q⟩ | ⟨_,q⟩ | ⟨_,q⟩<;>rw[q]<;>decide) (λj o ys Nx e h1 h2=>?_) ?_
   ·refine⟨rfl,.int (t o),?_,h1,h2⟩;show some (mZ a (Sum.inr o))=_;rw[(r o (Q o (aI e))).1]
   refine⟨g.2.1,g.2.2.map t,by rw[aQ];rfl,(λb hb=>by obtain⟨p,hp,rfl⟩:=aV.mp hb;exact U p hp),by rw[aA];exact V,.inl rfl,rfl,_,L5 (by omega),nR a (Sum.inr g.1) (.int (qK g.2.1 (g.2.2.map t))),_,_,_,rfl,?_,?_⟩
   ·rw[tk,Ks,ab,aJ,← bJ];exact r.step (Lo _ _) u
   ·have:=Oe a (Sum.inr g.1:hI) (.int (qK g.2.1 (g.2.2.map t)));omega
  ·rintro c ⟨a,d,I,B,rfl,r,Z⟩;rw[aA,bR (aZ _)] at r;exact W _ ⟨a,d,I,B,rfl,r⟩
 rintro _ ⟨a,d,I,B,rfl,r⟩;exact ac a r
theorem AO (F:Fun K "_law_words_of" "_law_words_of" Bw f fd):FnOk P w K mg base mJ 1 f fd ["row"] (mQ K Im):=by
 refine F.okD (k:=0) Lz (λL I y ⟨_,_,e,_⟩=>by rw[e];rfl) (by decide) λM A m s H E L I y z B=>?_
 have b:=oX z;obtain⟨C,a,rfl,O,Q,lo,o⟩:=B;refine⟨_,(mF (mY (i:=1) Lz.nd rfl (Or.inr rfl) (pP ["out","into"] [] [] rfl (nS (mP b (pv 0) kD)) rfl rfl (λ_ _ _ _ _=>(sB (n:=2) rfl (nP (mM (i:=0) F7 rfl (Or.inl rfl)) (nP (mM (i:=1) F7 rfl (Or.inl rfl)) qS)))) (λ_ _ _ _ _=>pG) (λ_ _ _ _ _=>(eA 1 (pv 1))))) (mF (mY (i:=2) Lz.nd rfl (Or.inr rfl) (pP ["out","into"] [] [] rfl (nS (mP b (pv 0) kD)) rfl rfl (λ_ _ _ _ _=>(sB (n:=2) rfl (nP (mM (i:=0) F7 rfl (Or.inl rfl)) (nP (mM (i:=1) F7 rfl (Or.inl rfl)) qS)))) (λ_ _ _ _ _=>pG) (λ_ _ _ _ _=>(eA 0 (pv 0))))) (mW (nQ (nN (aD (pP ["name"] ["ins"] [1] rfl (nS (pY b (mP b (pv 0) kD) kD)) rfl rfl (λ_ _ _ _ _=>(mM (i:=0) AU rfl (Or.inl rfl))) (λ_ _ _ _ _=>(xE (xY (zG b) (wE true) (eA 0 (pv 0)) (pv 1)))) (λ_ _ _ _ _=>(eA 0 (pv 0)))) (aD (pP ["name"] ["outs"] [2] rfl (nS (pY b (mP b (pv 0) kD) kD)) rfl rfl (λ_ _ _ _ _=>(mM (i:=0) Y1 rfl (Or.inl rfl))) (λ_ _ _ _ _=>(xE (xY (zG b) (wE true) (eA 0 (pv 0)) (pv 1)))) (λ_ _ _ _ _=>(eA 0 (pv 0)))) gV))))))),?_⟩;refine mK (λg=>g=[.val (nA C a),.own (.lst (a.map λp:Str×Str=>D.str p.2)),.no]) (λN r=>?_) ?_
 ·unfold rG;exact pZ a (λp=>D.tup [.str p.1,.str p.2]) (λp=>D.str p.2) [.val (nA C a),.no,.no] (λj h=>⟨rfl,_,rfl,h⟩) (by omega) (λi p l v e d c=>⟨rfl,rfl,d,c⟩) (r _ rfl)
 rintro _ rfl;refine mK (λg=>g=[.val (nA C a),.own (.lst (a.map λp:Str×Str=>D.str p.2)),.own (.lst (a.map λp:Str×Str=>D.str p.1))]) (λN r=>?_) ?_
 ·unfold rG;exact pZ a (λp=>D.tup [.str p.1,.str p.2]) (λp=>D.str p.1) [.val (nA C a),.own (.lst (a.map λp:Str×Str=>D.str p.2)),.no] (λj h=>⟨rfl,_,rfl,h⟩) (by omega) (λi p l v e d c=>⟨rfl,rfl,d,c⟩) (r _ rfl)
 rintro _ rfl;unfold rC Td aC;refine xV C.ins D.str D.str (λx=>!decide (x∈a.map λp:Str×Str=>p.2)) [.val (nA C a),.own (.lst (a.map λp:Str×Str=>D.str p.2)),.own (.lst (a.map λp:Str×Str=>D.str p.1))] (λj h=>⟨rfl,_,rfl,_,rfl,h⟩) (by omega) (λi x l v e d c t=>?_) ?_
 ·have u:(a.map λp:Str×Str=>D.str p.2)=(a.map (·.2)).map D.str:=by rw[aQ];rfl
  refine⟨.str x,(a.map (·.2)).map V.str,rfl,by rw[u];exact G4 _,?_⟩;rw[Ea];show if (!decide (x∈a.map (·.2)))=true then _ else _
  by_cases q:x∈a.map (·.2)
  ·exact zO (by rw[bE q];rfl) (t (by rw[bE q];rfl))
  ·exact Fm (by rw[bD q];rfl) ⟨d,c (by rw[bD q];rfl)⟩
 refine xV C.outs D.str D.str (λx=>!decide (x∈a.map λp:Str×Str=>p.1)) [.val (nA C a),.own (.lst (a.map λp:Str×Str=>D.str p.2)),.own (.lst (a.map λp:Str×Str=>D.str p.1))] (λj h=>⟨rfl,_,rfl,_,rfl,h⟩) (by omega) (λi x l v e d c t=>?_) ?_
 ·have u:(a.map λp:Str×Str=>D.str p.1)=(a.map (·.1)).map D.str:=by rw[aQ];rfl
  refine⟨.str x,(a.map (·.1)).map V.str,rfl,by rw[u];exact G4 _,?_⟩;rw[Ea];show if (!decide (x∈a.map (·.1)))=true then _ else _
  by_cases q:x∈a.map (·.1)
  ·exact zO (by rw[bE q];rfl) (t (by rw[bE q];rfl))
  ·exact Fm (by rw[bD q];rfl) ⟨d,c (by rw[bD q];rfl)⟩
 exact⟨by show 2<=1000;decide,o⟩
end
end Lw
namespace L2
open PySem PySem.Spec PyProof.Rows
section
variable {X:Cx}
theorem PL {iter:Expr}(T capN:List Str) (caps:List Nat) (hc:X.calm=true) (hi:PI X tg iter wi)
  (hk:scope.kind = .function) (ho:Cf (some nm) X.N X.env.kindOf scope T capN caps=true)
  (hg:∀ s₀ H₀ C cl fp,PG (sV (some nm) X (T++capN) scope cl C s₀ H₀ fp) tg g)
  (ht:∀ s₀ H₀ C cl fp,vF (sV (some nm) X (T++capN) scope cl C s₀ H₀ fp) ifs tt)
  (he:∀ s₀ H₀ C cl fp,PE (sV (some nm) X (T++capN) scope cl C s₀ H₀ fp) elt te)
  (hs:∀ x,foldedSetIterable iter X.env x=pure x:=by intro _;rfl) :
  PE X (.ListComp elt [⟨tg,iter,ifs,0⟩] scope pos) (zM T caps wi g tt te):=by
 intro a s c H Q I h;rw[eval_ListComp];exact N4 (nw:=some nm) T capN caps hc hi hk (Lq ho) hg ht he hs I h λC D d e I q fp b=>Wn I q fp b
end
section
variable {X:Cx}
theorem Xf {iter:Expr}(T capN:List Str) (caps:List Nat) (hc:X.calm=true) (hi:xT X tg iter ι)
  (hk:scope.kind = .function) (ho:Cf (some nm) X.N X.env.kindOf scope T capN caps=true)
  (hg:∀ s₀ H₀ C cl fp,vM (sV (some nm) X (T++capN) scope cl C s₀ H₀ fp) T.length tg g)
  (ht:∀ s₀ H₀ C cl fp,vF (sV (some nm) X (T++capN) scope cl C s₀ H₀ fp) ifs (uM X.K tt))
  (he:∀ s₀ H₀ C cl fp,PD (sV (some nm) X (T++capN) scope cl C s₀ H₀ fp) elt te)
  (hcap:caps.Nodup:=by decide) (hs:∀ x,foldedSetIterable iter X.env x=pure x:=by intro _;rfl):PD X (.ListComp elt [⟨tg,iter,ifs,0⟩] scope pos) (uF T.length caps ι g tt te) :=
 (PL T capN caps hc hi hk ho hg ht he hs).mono λ_ _ _ h=>Mf hcap h
end
end L2
namespace Lw
open PySem L2
theorem Sg:(["bits"]:List Str).Nodup:=by decide +kernel
theorem HE:(["number","many"]:List Str).Nodup:=by decide +kernel
theorem NL:(["k","number","many"]:List Str).Nodup:=by decide +kernel
def mI:Nat->List (List Int)
 | 0=>[[]]
 | n+1=>(mI n).map (0::·)++(mI n).map (1::·)
def mE (b:List Int):D:=.tup (b.map D.int)
theorem uU:∀ n,(mI n).length=2 ^ n
 | 0=>rfl
 | n+1=>by unfold mI;rw[List.length_append,List.length_map,List.length_map,uU n,Nat.pow_succ];omega
theorem uZ:∀ {n:Nat}{b:List Int},b∈mI n->b.length=n/\∀ x∈b,x=0\/x=1
 | 0,b,h=>by rw[bA.mp h];exact⟨rfl,λ_ z=>nomatch z⟩
 | n+1,b,h=>by
  unfold mI at h;rcases aR.mp h with h | h
  all_goals
   obtain⟨c,d,rfl⟩:=aV.mp h;obtain⟨f,e⟩:=uZ d;refine⟨by rw[bX,f],λx a=>?_⟩;rcases aL.mp a with q | q
   ·first | exact .inl q | exact .inr q
   ·exact e x q
theorem vP (h:n<=6):2 ^ n<=64:=kT (by decide) h
theorem LM (h:0<=z):Builtin.bitAnd z 1=z%2:=by
 obtain⟨n,rfl⟩:=dL h;have e:Builtin.bitAnd (n:Int) 1=((n &&& 1:Nat):Int):=by
  unfold Builtin.bitAnd;rw[bE h,bE (show (0:Int)<=1 by decide)];rfl
 rw[e,Nat.and_one_is_mod];rfl
def Fb (m n:Nat):List Int:=(List.range m).map λk=>((n/2 ^ (m-1-k)%2:Nat):Int)
theorem Yq:∀ m≤6,(List.range (2 ^ m)).map (Fb m)=mI m:=by decide +kernel
def zP:RD:=λdk ds Φ=>∃ n:Nat,ds=[.int n]/\n<=6/\Φ (.own (.lst ((mI n).map mE)))
section
variable {P:Program}{K:mC}
theorem Gc:FnScope ["count","found","step"] ["count"] (nF A3):=oW
theorem DW:FnScope ["many"] ["many"] (nF Cb):=oW
theorem GU (F:Fun K "all_bits" "all_bits" A3 f fd) (T:Txt mg):FnOk P w K mg base mJ 1 f fd ["count"] (mQ K zP):=by
 refine F.okD (k:=0) Gc (λI C r ⟨_,e,_⟩=>by rw[e];rfl) (by decide) λL A d s H E I C r v z=>?_
 have O:=oX v;obtain⟨n,rfl,Q,g⟩:=z;refine⟨_,(mF (mY (i:=1) Gc.nd rfl (Or.inl rfl) (nN (aD (oS gV) gV))) (mF (qU (m:=99) bM rfl (Aj (by rfl) T.range (eA 0 (pv 0))) (mM (i:=2) Gc.nd rfl (Or.inl rfl)) (mW (mY (i:=1) Gc.nd rfl (Or.inl rfl) (nZ nT nU (pP ["bits"] [] [] rfl (nS (eA 1 (pv 1))) rfl rfl (λ_ _ _ _ _=>(mM (i:=0) Sg rfl (Or.inl rfl))) (λ_ _ _ _ _=>pG) (λ_ _ _ _ _=>(nZ nT nU (oS (aD kD gV)) (eA 0 (pv 0))))) (pP ["bits"] [] [] rfl (nS (eA 1 (pv 1))) rfl rfl (λ_ _ _ _ _=>(mM (i:=0) Sg rfl (Or.inl rfl))) (λ_ _ _ _ _=>pG) (λ_ _ _ _ _=>(nZ nT nU (oS (aD kD gV)) (eA 0 (pv 0))))))))) (mW (nQ (zT 1 (pv 1)))))),?_⟩;refine mK (λa=>a=[.val (.int n),.own (.lst ((mI 0).map mE)),.no]) (λN l=>?_) ?_
 ·exact⟨by show 0<=1000;decide,by show 1<=1000;decide,l _ rfl⟩
 rintro _ rfl;refine mK (λa=>∃ c,a=[.val (.int n),.own (.lst ((mI n).map mE)),c]) (λN l=>?_) ?_
 ·refine rF (uB 0 n) _ (λq h=>⟨by omega,by omega,h⟩) (λi a=>∃ c,a=[.val (.int n),.own (.lst ((mI i).map mE)),c]) ⟨_,rfl⟩ ?_ ?_
  ·rintro i x a u ⟨c,rfl⟩;obtain⟨U,rfl⟩:=Lc u;have B:=vP (show i<=6 by omega);have S:=uU i;unfold gN rG d2;refine pZ (mI i) mE (λb=>mE (0::b)) [.val (.int n),.val (.lst ((mI i).map mE)),.val (.int (0+(i:Int)))] (λq h=>h) (by omega) (λj b t M e p o=>?_) ?_
   ·have y:=(uZ (aI e)).1;refine⟨by show 1<=1000;decide,?_,p,o⟩;show [D.int 0].length+(b.map D.int).length<=100000;rw[aA];show 1+b.length<=100000;omega
   refine pZ (mI i) mE (λb=>mE (1::b)) [.val (.int n),.val (.lst ((mI i).map mE)),.val (.int (0+(i:Int)))] (λq h=>h) (by omega) (λj b t M e p o=>?_) ?_
   ·have y:=(uZ (aI e)).1;refine⟨by show 1<=1000;decide,?_,p,o⟩;show [D.int 1].length+(b.map D.int).length<=100000;rw[aA];show 1+b.length<=100000;omega
   refine⟨by rw[aA,aA];omega,.val (.int (0+(i:Int))),?_⟩
   ·show _=[_,Sl.own (.lst ((mI (i+1)).map mE)),_];rw[show mI (i+1)=(mI i).map (0::·)++(mI i).map (1::·) from rfl,aJ,aQ,aQ];rfl
  ·rintro a ⟨c,rfl⟩;have e:(uB 0 n).length=n:=by simp[uB]
   rw[e];exact l _ ⟨c,rfl⟩
 rintro _ ⟨c,rfl⟩;exact g
theorem Y5 (F:Fun K "_law_rows" "_law_rows" Cb f fd) (T:Txt mg):FnOk P w K mg base mJ 1 f fd ["many"] (mQ K zP):=by
 refine F.okD (k:=0) DW (λO N t ⟨_,e,_⟩=>by rw[e];rfl) (by decide) λQ A d s H E O N t u x=>?_
 have V:=oX u;obtain⟨n,rfl,q,b⟩:=x;refine⟨_,(mW (nQ (Xf (nm := "number") ["number"] ["many"] [0] rfl (Aj (by rfl) T.range (nZ Kb Md kD (eA 0 (pv 0)))) rfl rfl (λ_ _ _ _ _=>(mM (i:=0) HE rfl (Or.inr rfl))) (λ_ _ _ _ _=>pG) (λ_ _ _ _ _=>(pC tN tO (by rfl) T.tuple bU (aD (pP ["k"] ["number","many"] [0,1] rfl (Aj (by rfl) T.range (eA 1 (pv 1))) rfl rfl (λ_ _ _ _ _=>(mM (i:=0) NL rfl (Or.inl rfl))) (λ_ _ _ _ _=>pG) (λ_ _ _ _ _=>(nZ OE IK (pL JC Xp (pv 1) (nZ xR Ay (pL xR Ay (pv 2) kD) (eA 0 (pv 0)))) kD))) gV)))))),?_⟩;have m:=vP q;have l:((1:Int)*2 ^ ((n:Int)).toNat)=((2 ^ n:Nat):Int):=by rw[cC,Int.one_mul];norm_cast
 unfold rC;refine pZ (List.range (2 ^ n)) (λk=>D.int (0+(k:Int))) (λk=>mE (Fb n k)) [.val (.int n)] (λp h=>?_) (by rw[cU];omega) (λj k S W e B r=>?_) ?_
 ·refine⟨⟨by omega,by omega,by decide⟩,?_⟩;show -(2 ^ 62)<=(1:Int)*2 ^ ((n:Int)).toNat/\(1:Int)*2 ^ ((n:Int)).toNat<2 ^ 62/\p (uB 0 ((1:Int)*2 ^ ((n:Int)).toNat).toNat) _;rw[l,cC];exact⟨Int.le_trans (show -(2 ^ 62)<=(0:Int) by decide) (Int.natCast_nonneg _),Int.ofNat_lt.mpr (cM m (by decide)),h⟩
 ·unfold gN dC aC;refine pZ (List.range n) (λk=>D.int (0+(k:Int))) (λg=>D.int ((k/2 ^ (n-1-g)%2:Nat):Int)) [.val (.int (0+(k:Int))),.val (.int n)] (λp h=>⟨by omega,by omega,by rw[cC];exact h⟩) (by rw[cU];omega) (λU a c o L z y=>?_) ?_
  ·have v:a<n:=by
    have:=eD.mp (aI L);exact this
   have M:((n:Int)-1-(0+(a:Int)))=((n-1-a:Nat):Int):=by omega
   refine⟨rfl,rfl,by show (0:Int)<=(n:Int)-1-(0+(a:Int));omega,z,?_⟩;have I:Builtin.bitAnd ((0+(k:Int))/2 ^ ((n:Int)-1-(0+(a:Int))).toNat) 1=((k/2 ^ (n-1-a)%2:Nat):Int):=by
    rw[M,cC,lB,LM (lW (by omega) (Int.pow_nonneg (by decide)))]
    norm_cast
   show o (c++[D.int (Builtin.bitAnd ((0+(k:Int))/2 ^ ((n:Int)-1-(0+(a:Int))).toNat) 1)]) _;rw[I];exact y
  ·have C:mE (Fb n k)=D.tup ((List.range n).map λg=>D.int ((k/2 ^ (n-1-g)%2:Nat):Int)):=by unfold mE Fb;rw[List.map_map];rfl
   rw[C] at r;exact⟨B,r⟩
 ·rw[← Yq n q,aQ] at b;exact b
end
theorem keysL_strs:∀ xs:List Str,xQ (xs.map D.str)=some (xs.map Sum.inr)
 | []=>rfl
 | x::r=>by rw[aO];unfold xQ;rw[keysL_strs r];rfl
theorem Qd (f:Str->Int) (x:Str):∀ (xs:List Str) (kvs:List (hI×D)),mZ (qJ kvs (xs.map λo=>((Sum.inr o:hI),D.int (f o)))) (Sum.inr x)=if x∈xs then some (.int (f x)) else mZ kvs (Sum.inr x)
 | [],kvs=>by rw[aM bH];rfl
 | o::r,kvs=>by
  show mZ (qJ (nR kvs (Sum.inr o) (D.int (f o))) (r.map λo=>((Sum.inr o:hI),D.int (f o)))) (Sum.inr x)=_;rw[Qd f x r,V0];by_cases h:x∈r
  ·rw[aP h,aP (aT _ h)]
  ·rw[aM h];by_cases e:o=x
   ·rw[aP (by rw[e]),aP (by rw[e];exact aK),e]
   ·rw[aM (λz=>e (iL z)),aM (λz=>(aL.mp z).elim (λq=>e q.symm) h)]
theorem Vr (f:α->β) (g:α->γ):∀ xs:List α,(xs.map f).zip (xs.map g)=xs.map λx=>(f x,g x)
 | []=>rfl
 | x::r=>by rw[aO,aO,aO,cN,Vr f g r]
theorem R9:∀ (gs:List (Str×Str×List Str)) (ρ:Str->Int) (x:Str),x∉gs.map (·.1)->uY ρ gs x=ρ x
 | [],_,_,_=>rfl
 | g::gs,ρ,x,h=>by
  show uY (Qt ρ g) gs x=ρ x;rw[R9 gs _ x λz=>h (aT _ z)];exact aM λz=>h (by rw[z];exact aK)
theorem Ga (hC:GC C) (ρ:Str->Int) (hx:x∈C.ins):sR C ρ x=ρ x :=
 R9 C.gates ρ x λz=>(bK.mp hC.nd).2.2 x hx x z rfl
def Wj:RD:=λdk ds Φ=>∃ (C:Cel) (kvs:List (hI×D)) (ρ:Str->Int),ds=[qW C,.dK kvs]/\GC C/\sT kvs C.ins ρ/\kvs.length<=100/\∀ kv,(∀ x∈C.ins++C.outs,mZ kv (Sum.inr x)=some (.int (sR C ρ x)))->Φ (.own (.dK kv))
section
variable {P:Program}{K:mC}
theorem S9:FnScope ["cell","bits","known"] ["cell","bits"] (nF Fc):=oW
theorem Yh (F:Fun K "side_bits" "side_bits" Fc f fd) (T:Txt mg) (Lf:Gd K mg "told_by" Gb ["cell","bits"] fT fdT) (CG:FnOk P w K mg base mJ 2 fT fdT ["cell","bits"] (mQ K Uu)):FnOk P w K mg base mJ 3 f fd ["cell","bits"] (mQ K Wj):=by
 refine F.okD (k:=2) S9 (λU S y ⟨_,_,_,e,_⟩=>by rw[e];rfl) (by decide) λV A h s H E U S y t L=>?_
 have B:=oX t;obtain⟨C,c,a,rfl,d,v,W,l⟩:=L;refine⟨_,(mF (mY (i:=2) S9.nd rfl (Or.inl rfl) (pC (zC rfl) yV (by rfl) T.dict cZ (aD (eA 1 (pv 1)) gV))) (mF (rW (qX jS PySem.F.slot_dict_update PySem.F.type_dict_update Qk Qb (pv 2) (aD (Ci rfl (by rfl) T.dict (by rfl) T.zip (aD (mP B (pv 0) kD) (aD (mV CG (t.mono (by decide)) (by rfl) Lf.m Lf.k Lf.b (aD (eA 0 (pv 0)) (aD (eA 1 (pv 1)) gV))) gV))) gV))) (mW (nQ (zT 2 (pv 2)))))),?_⟩;refine mK (λg=>g=[.val (qW C),.val (.dK c),.own (.dK c)]) (λN r=>?_) ?_
 ·exact r _ rfl
 rintro _ rfl;refine mK (λg=>∃ j,(∀ x∈C.ins++C.outs,mZ j (Sum.inr x)=some (.int (sR C a x)))/\g=[.val (qW C),.val (.dK c),.own (.dK j)]) (λN r=>?_) ?_
 ·have I:=d.lo;refine⟨rfl,rfl,_,rfl,C,c,a,rfl,d,v,.inl rfl,true,true,_,_,C.outs.map Sum.inr,rfl,rfl,keysL_strs C.outs,by rw[aA];omega,?_⟩;have M:(C.outs.map (Sum.inr:Str->hI)).zip (C.outs.map λo=>D.int (sR C a o))=hO (C.outs.map λo=>(o,sR C a o)):=by
   rw[Vr];unfold hO;rw[List.map_map];rfl
  have O:qJ [] (hO (C.outs.map λo=>(o,sR C a o)))=hO (C.outs.map λo=>(o,sR C a o)):=Aq (by rw[aQ];simpa [iF] using d.ond);have Q:hO (C.outs.map λo=>(o,sR C a o))=C.outs.map λo=>((Sum.inr o:hI),D.int (sR C a o)):=by unfold hO;rw[List.map_map];rfl
  rw[M,O];refine⟨?_,r _ ⟨_,λx z=>?_,rfl⟩⟩
  ·unfold hO;rw[List.length_map,List.length_map];omega
  ·rw[Q,Qd];by_cases p:x∈C.outs
   ·rw[aP p]
   ·rw[aM p];have u:x∈C.ins:=(aR.mp z).resolve_right p;rw[Ga d a u];exact (v x u).1
 rintro _ ⟨j,q,rfl⟩;exact l _ q
end
theorem Ds {α:Type}(f:α->Int){xs:List α}{i:Nat}{x:α}(h:xs[i]?=some x):((xs.take (i+1)).map f).sum=((xs.take i).map f).sum+f x:=by
 rw[bS,h,aJ,List.sum_append];simp
theorem A5 (h:oV v):-(2 ^ 64)<v/\v<2 ^ 64:=by
 rcases h with rfl | rfl<;>exact⟨by decide,by decide⟩
theorem RQ (h:oV v) (g:oV u):-(2 ^ 64)<v-2*u/\v-2*u<2 ^ 64:=by
 rcases h with rfl | rfl<;>rcases g with rfl | rfl<;>exact⟨by decide,by decide⟩
def sJ (C:Cel) (prs:List (Str×Str)) (t:nK) (u:Str->Int):Int:=look t "" + ((mH C prs++nV C prs).map λx=>look t x*u x).sum+(prs.map λp=>look t p.2*(u p.2-2*u p.1)).sum
structure RwOk (C:Cel) (prs:List (Str×Str)):Prop where
 gc:GC C
 n1:(prs.map (·.1)).Nodup
 n2:(prs.map (·.2)).Nodup
 m:∀ p∈prs,p.1∈C.outs/\p.2∈C.ins
 li:C.ins.length<=6
 lp:prs.length<=6
def Pz:RD:=λdk ds Φ=>∃ (C:Cel) (prs:List (Str×Str)) (t:nK) (kv:List (hI×D)) (u:Str->Int),ds=[nA C prs,.dK (hO t),.dK kv]/\RwOk C prs/\(∀ x∈C.ins++C.outs,mZ kv (Sum.inr x)=some (.int (u x))/\oV (u x))/\Φ (.val (.int (sJ C prs t u)))
section
variable {P:Program}{K:mC}
theorem zW:FnScope ["row","weights","known","part","name","output"] ["row","weights","known"] (nF G9):=oW
theorem EM {fI:Addr}(F:Fun K "cell_part" "cell_part" G9 f fd) (T:Txt mg) (wZ:Gd K mg "word_inputs" Cj ["row"] fI fdI) (Om:Gd K mg "word_outputs" Ft ["row"] fO fdO) (Ir:FnOk P w K mg base mJ 2 fI fdI ["row"] (mQ K J1)) (BK:FnOk P w K mg base mJ 1 fO fdO ["row"] (mQ K Rl)):FnOk P w K mg base mJ 3 f fd ["row","weights","known"] (mQ K Pz):=by
 refine F.okD (k:=2) zW (λdk ds S ⟨_,_,_,_,_,e,_⟩=>by rw[e];rfl) (by decide) λae A z s H E dk ds S M hR=>?_
 have o:=oX M;obtain⟨C,a,t,j,u,rfl,v,O,I⟩:=hR;refine⟨_,(mF (mY (i:=3) zW.nd rfl (Or.inl rfl) (yC o (pv 1) mS kD)) (mF (qU (m:=99) bM rfl (nS (nZ nT nU (mV Ir (M.mono (by decide)) (by rfl) wZ.m wZ.k wZ.b (aD (eA 0 (pv 0)) gV)) (mV BK (M.mono (by decide)) (by rfl) Om.m Om.k Om.b (aD (eA 0 (pv 0)) gV)))) (mM (i:=4) zW.nd rfl (Or.inl rfl)) (mW (Tl (n:=3) zW.nd rfl (Or.inl rfl) (nZ wD wI (yC o (pv 1) (eA 4 (pv 4)) kD) (mP o (pv 2) (eA 4 (pv 4)))) U6))) (mF (qU (m:=99) bM rfl (nS (mP o (pv 0) kD)) (sB (n:=2) rfl (nP (mM (i:=5) zW.nd rfl (Or.inl rfl)) (nP (mM (i:=4) zW.nd rfl (Or.inl rfl)) qS))) (mW (Tl (n:=3) zW.nd rfl (Or.inl rfl) (nZ wD wI (yC o (pv 1) (eA 4 (pv 4)) kD) (nZ xR Ay (mP o (pv 2) (eA 4 (pv 4))) (nZ wD wI kD (mP o (pv 2) (eA 5 (pv 5)))))) U6))) (mW (nQ (eA 3 (pv 3))))))),?_⟩;have aa:=v.lp;have ac:=v.li;have ab:=v.gc.lo;refine mK (λg=>g=[.val (nA C a),.val (.dK (hO t)),.val (.dK j),.val (.int (look t "")),.no,.no]) (λN q=>?_) ?_
 ·refine⟨rfl,_,rfl,?_⟩;show N [_,_,_,Sl.val ((mZ (hO t) (Sum.inr (Str.ofString ""))).getD (D.int 0)),_,_];rw[xL];exact q _ rfl
 rintro _ rfl;have U:∀ y∈mH C a++nV C a,y∈C.ins++C.outs:=λy l=>(aR.mp l).elim (λh=>bC _ ((cT.mp h).1)) λh=>aN _ ((cT.mp h).1)
 have l1:(mH C a).length<=C.ins.length:=cD _ _;have l2:(nV C a).length<=C.outs.length:=cD _ _;refine mK (λg=>∃ d c,g=[.val (nA C a),.val (.dK (hO t)),.val (.dK j),.val (.int (look t "" + ((mH C a++nV C a).map λx=>look t x*u x).sum)),d,c]) (λN q=>?_) ?_
 ·refine rF ((mH C a++nV C a).map D.str) [.val (nA C a),.val (.dK (hO t)),.val (.dK j),.val (.int (look t "")),.no,.no] (λQ h=>?_) (λi g=>∃ d c,g=[.val (nA C a),.val (.dK (hO t)),.val (.dK j),.val (.int (look t "" + (((mH C a++nV C a).take i).map λx=>look t x*u x).sum)),d,c]) ⟨.no,.no,by simp⟩ ?_ ?_
  ·rw[aJ] at h;exact⟨C,a,rfl,by omega,by omega,.inl rfl,C,a,rfl,by omega,by omega,.inl rfl,by rw[aA,aA];omega,h⟩
  ·rintro i x g L ⟨d,c,rfl⟩;obtain⟨y,l,rfl⟩:=qH L;obtain⟨B,r⟩:=O y (U y (aI l));refine⟨rfl,_,rfl,rfl,D.int (u y),?_,?_⟩
   ·show some (mZ j (Sum.inr y))=_;rw[B]
   ·show Ag ((mZ (hO t) (Sum.inr y)).getD (D.int 0)) (D.int (u y)) _;rw[xL];refine⟨.inr (A5 r),.val (.str y),c,?_⟩;rw[Ds (λx=>look t x*u x) l,← iU];rfl
  ·rintro g ⟨d,c,rfl⟩;rw[aA,cI];exact q _ ⟨d,c,rfl⟩
 rintro _ ⟨d,c,rfl⟩;refine mK (λg=>∃ d c,g=[.val (nA C a),.val (.dK (hO t)),.val (.dK j),.val (.int (sJ C a t u)),d,c]) (λN q=>?_) ?_
 ·refine rF (a.map λp=>D.tup [.str p.1,.str p.2]) [.val (nA C a),.val (.dK (hO t)),.val (.dK j),.val (.int (look t "" + ((mH C a++nV C a).map λx=>look t x*u x).sum)),d,c] (λQ h=>?_) (λi g=>∃ d c,g=[.val (nA C a),.val (.dK (hO t)),.val (.dK j),.val (.int (look t "" + ((mH C a++nV C a).map λx=>look t x*u x).sum+((a.take i).map λp=>look t p.2*(u p.2-2*u p.1)).sum)),d,c]) ⟨d,c,by simp⟩ ?_ ?_
  ·exact⟨rfl,_,rfl,h⟩
  ·rintro i x g L ⟨d,c,rfl⟩;obtain⟨y,l,rfl⟩:=qH L;obtain⟨W,V⟩:=v.m y (aI l);obtain⟨B,r⟩:=O y.1 (aN _ W);obtain⟨Z,Y⟩:=O y.2 (bC _ V);have b1:=A5 r;refine⟨rfl,rfl,rfl,_,rfl,rfl,D.int (u y.2),?_,rfl,D.int (u y.1),?_,?_⟩
   ·show some (mZ j (Sum.inr y.2))=_;rw[Z]
   ·show some (mZ j (Sum.inr y.1))=_;rw[B]
   ·refine⟨.inl ⟨by decide,by decide⟩,?_⟩;show Ag ((mZ (hO t) (Sum.inr y.2)).getD (D.int 0)) (D.int (u y.2-2*u y.1)) _;rw[xL];refine⟨.inr (RQ Y r),.val (.str y.2),.val (.str y.1),?_⟩;rw[Ds (λp:Str×Str=>look t p.2*(u p.2-2*u p.1)) l,← iU];rfl
  ·rintro g ⟨d,c,rfl⟩;rw[aA,cI];exact q _ ⟨d,c,rfl⟩
 rintro _ ⟨d,c,rfl⟩;exact I
end
theorem P7:(["output","name","known"]:List Str).Nodup:=by decide +kernel
def sF (C:Cel) (prs:List (Str×Str)) (c l:List Int):nK:=(prs.map (·.2)++mH C prs).zip (c++l)
def oG (C:Cel) (prs:List (Str×Str)) (c l:List Int):Str->Int:=sR C (look (sF C prs c l))
def wA (C:Cel) (prs:List (Str×Str)) (t:nK) (c l:List Int):D:=.tup [mE (prs.map λp=>oG C prs c l p.1),.int (sJ C prs t (oG C prs c l))]
def rN (C:Cel) (prs:List (Str×Str)) (t:nK) (c:List Int):D:=.dT ((mI (mH C prs).length).map λl=>(l.map (Sum.inl:Int->hI),wA C prs t c l))
def nM (C:Cel) (prs:List (Str×Str)) (t:nK):D:=.dT ((mI prs.length).map λc=>(c.map (Sum.inl:Int->hI),rN C prs t c))
theorem Lk {κ:Type} [DecidableEq κ] {kvs:List (κ×D)}{k:κ}{d:D}(h:k∉kvs.map (·.1)):nR kvs k d=kvs++[(k,d)]:=by
 unfold nR;rw[aM];intro z;obtain⟨q,a,e⟩:=eO.mp z;exact h (aV.mpr ⟨q,a,cB e⟩)
theorem Aw:∀ b:List Int,tM (b.map D.int)=some (b.map Sum.inl)
 | []=>rfl
 | x::r=>by rw[aO];unfold tM;rw[Aw r];rfl
theorem Cg:∀ n,(mI n).Nodup
 | 0=>by unfold mI;simp
 | n+1=>by
  unfold mI;have inj:∀ a:Int,((mI n).map (a::·)).Nodup:=λa=>List.Pairwise.map (a::·) (λx y h e=>h (eK e).2) (Cg n)
  refine bK.mpr ⟨inj 0,inj 1,λx c y b e=>?_⟩;obtain⟨p,_,rfl⟩:=aV.mp c;obtain⟨q,_,rfl⟩:=aV.mp b;exact absurd (eK e).1 (by decide)
theorem wN:∀ {a b:List Int},a.map (Sum.inl:Int->hI)=b.map Sum.inl->a=b
 | [],[],_=>rfl
 | [],_::_,e=>by cases e
 | _::_,[],e=>by cases e
 | x::a,y::b,e=>by
  rw[aO,aO] at e;obtain⟨d,c⟩:=eK e;rw[Sum.inl.inj d,wN c]
theorem Yr (h:(mI n)[i]?=some b) (f:List Int->D):nR (((mI n).take i).map λl=>(l.map (Sum.inl:Int->hI),f l)) (b.map Sum.inl) (f b)=((mI n).take (i+1)).map λl=>(l.map (Sum.inl:Int->hI),f l):=by
 rw[Lk]
 ·rw[bS,h,aJ];rfl
 ·intro z;rw[aQ] at z;obtain⟨c,k,e⟩:=aV.mp z;have e:c=b:=wN e;subst e;obtain⟨j,g,d⟩:=gO k;rw[bQ] at g;have m:(mI n)[j]?=some c:=by rw[List.getElem_take] at d;exact aU.mpr ⟨by omega,d⟩
  have a:j<(mI n).length:=by omega
  have:=(List.getElem?_inj a (Cg n)).mp (m.trans h.symm);omega
theorem Ep (h:RwOk C prs) (hc:c.length=prs.length) (hl:l.length=(mH C prs).length) (bc:∀ x∈c,oV x) (bl:∀ x∈l,oV x) :
  (sF C prs c l).map (·.1)=prs.map (·.2)++mH C prs/\((sF C prs c l).map (·.1)).Nodup/\sT (hO (sF C prs c l)) C.ins (look (sF C prs c l)):=by
 have k:(prs.map (·.2)++mH C prs).Nodup:=by
  refine bK.mpr ⟨h.n2,(bK.mp h.gc.nd).1.filter _,λx b y i e=>?_⟩;subst e;have:=(cT.mp i).2;simp only[Bool.not_eq_true',decide_eq_false_iff_not] at this;exact this b
 have a:(prs.map (·.2)++mH C prs).length=(c++l).length:=by rw[aH,aH,aA,hc,hl]
 have f:(sF C prs c l).map (·.1)=prs.map (·.2)++mH C prs:=List.map_fst_zip (lV a);refine⟨f,by rw[f];exact k,λx b=>?_⟩;have g:x∈(sF C prs c l).map (·.1):=by
  rw[f];by_cases d:x∈prs.map (·.2)
  ·exact bC _ d
  ·exact aN _ (cT.mpr ⟨b,by simpa using d⟩)
 refine⟨(zK _ x).1 g,?_⟩;obtain⟨p,d,e⟩:=aV.mp g;have m:∀ q∈sF C prs c l,oV q.2:=λq j=>by
  have:=(fU j).2;exact (aR.mp this).elim (bc _) (bl _)
 unfold look;cases o:(sF C prs c l).find? (λp=>decide (p.1=x)) with
 | none=>exact .inl rfl
 | some q=>exact m q (hX o)
theorem J9 (h:(mI n)[i]?=some b) (f:List Int->D) (hl:(mI n).length<=64):uJ (.dT (((mI n).take i).map λl=>(l.map (Sum.inl:Int->hI),f l))) (mE b) (f b)=some (.dT (((mI n).take (i+1)).map λl=>(l.map (Sum.inl:Int->hI),f l))):=by
 have a:(((mI n).take i).map λl=>(l.map (Sum.inl:Int->hI),f l)).length<100000:=by rw[aA,bQ];omega
 show (if (((mI n).take i).map λl=>(l.map (Sum.inl:Int->hI),f l)).length<100000 then (tM (b.map D.int)).map (λk=>D.dT (nR (((mI n).take i).map λl=>(l.map (Sum.inl:Int->hI),f l)) k (f b))) else none)=_;rw[aP a,Aw,jN,Yr h]
def Th:RD:=λdk ds Φ=>∃ (C:Cel) (prs:List (Str×Str)) (t:nK) (c:List Int),ds=[nA C prs,.dK (hO t),mE c]/\RwOk C prs/\c.length=prs.length/\(∀ x∈c,oV x)/\Φ (.own (rN C prs t c))
def Gs:RD:=λdk ds Φ=>∃ (C:Cel) (prs:List (Str×Str)) (t:nK),ds=[nA C prs,.dK (hO t)]/\RwOk C prs/\Φ (.own (nM C prs t))
section
variable {P:Program}{K:mC}
theorem Ei:FnScope ["row","weights","carried","found","bits","known","onward"] ["row","weights","carried"] (nF Fj):=oW
theorem Nm:FnScope ["row","weights","table","carried"] ["row","weights"] (nF Ie):=oW
theorem Xt {fI:Addr}(F:Fun K "steps_from" "steps_from" Fj f fd) (T:Txt mg) (wH:Gd K mg "all_bits" A3 ["count"] fA fdA) (wZ:Gd K mg "word_inputs" Cj ["row"] fI fdI) (wJ:Gd K mg "carried_inputs" Bq ["row"] fC fdC) (Jy:Gd K mg "side_bits" Fc ["cell","bits"] fS fdS) (N3:Gd K mg "cell_part" G9 ["row","weights","known"] fP fdP)
  (Ee:FnOk P w K mg base mJ 1 fA fdA ["count"] (mQ K zP)) (Ir:FnOk P w K mg base mJ 2 fI fdI ["row"] (mQ K J1)) (B0:FnOk P w K mg base mJ 1 fC fdC ["row"] (mQ K Ew)) (KC:FnOk P w K mg base mJ 3 fS fdS ["cell","bits"] (mQ K Wj)) (Zi:FnOk P w K mg base mJ 3 fP fdP ["row","weights","known"] (mQ K Pz)):FnOk P w K mg base mJ 4 f fd ["row","weights","carried"] (mQ K Th):=by
 refine F.okD (k:=3) Ei (λdk ds Φ ⟨_,_,_,_,e,_⟩=>by rw[e];rfl) (by decide) λaf A S s H E dk ds Φ B hR=>?_
 have Q:=oX B;obtain⟨C,a,t,c,rfl,g,O,W,U⟩:=hR;refine⟨_,(mF (mY (i:=3) Ei.nd rfl (Or.inl rfl) Bx) (mF (qU (m:=99) bM rfl (nS (mV Ee (B.mono (by decide)) (by rfl) wH.m wH.k wH.b (aD (oF qQ qR (by rfl) T.len bP (aD (mV Ir (B.mono (by decide)) (by rfl) wZ.m wZ.k wZ.b (aD (eA 0 (pv 0)) gV)) gV)) gV))) (mM (i:=4) Ei.nd rfl (Or.inl rfl)) (mF (mY (i:=5) Ei.nd rfl (Or.inr rfl) (mV KC (B.mono (by decide)) (by rfl) Jy.m Jy.k Jy.b (aD (mP Q (pv 0) kD) (aD (Ci rfl (by rfl) T.dict (by rfl) T.zip (aD (nZ nT nU (mV B0 (B.mono (by decide)) (by rfl) wJ.m wJ.k wJ.b (aD (eA 0 (pv 0)) gV)) (mV Ir (B.mono (by decide)) (by rfl) wZ.m wZ.k wZ.b (aD (eA 0 (pv 0)) gV))) (aD (pL nT nU (pv 2) (eA 4 (pv 4))) gV))) gV)))) (mF (mY (i:=6) Ei.nd rfl (Or.inl rfl) (pC tN tO (by rfl) T.tuple bU (aD (pP ["output","name"] ["known"] [5] rfl (nS (mP Q (pv 0) kD)) rfl rfl (λ_ _ _ _ _=>(sB (n:=2) rfl (nP (mM (i:=0) P7 rfl (Or.inl rfl)) (nP (mM (i:=1) P7 rfl (Or.inl rfl)) qS)))) (λ_ _ _ _ _=>pG) (λ_ _ _ _ _=>(mP Q (pv 2) (eA 0 (pv 0))))) gV))) (mW (vW (n:=3) Q (oS (aD (eA 6 (pv 6)) (aD (mV Zi (B.mono (by decide)) (by rfl) N3.m N3.k N3.b (aD (eA 0 (pv 0)) (aD (eA 1 (pv 1)) (aD (eA 5 (pv 5)) gV)))) gV))) (pv 3) (eA 4 (pv 4))))))) (mW (nQ (zT 3 (pv 3)))))),?_⟩;have aa:=g.lp;have ab:=g.li;have l1:(mH C a).length<=C.ins.length:=cD _ _;have ae:=vP (show (mH C a).length<=6 by omega);have ac:=uU (mH C a).length;refine mK (λd=>d=[.val (nA C a),.val (.dK (hO t)),.val (mE c),.own (.dT []),.no,.no,.no]) (λN L=>L _ rfl) ?_;rintro _ rfl;refine mK (λd=>∃ z v q,d=[.val (nA C a),.val (.dK (hO t)),.val (mE c),.own (rN C a t c),z,v,q]) (λN L=>?_) ?_
 ·refine rF ((mI (mH C a).length).map mE) [.val (nA C a),.val (.dK (hO t)),.val (mE c),.own (.dT []),.no,.no,.no] (λΨ h=>?_) (λi d=>∃ z v q,d=[.val (nA C a),.val (.dK (hO t)),.val (mE c),.own (.dT (((mI (mH C a).length).take i).map λl=>(l.map (Sum.inl:Int->hI),wA C a t c l))),z,v,q]) ⟨.no,.no,.no,rfl⟩ ?_ ?_
  ·exact⟨C,a,rfl,by omega,by omega,.inl rfl,rfl,_,rfl,(mH C a).length,by rw[aA],by omega,.inl rfl,h⟩
  ·rintro i x d u ⟨z,v,q,rfl⟩;obtain⟨l,hl,rfl⟩:=qH u;obtain⟨Z,lb⟩:=uZ (aI hl);obtain⟨ek,nd,M⟩:=Ep g O Z W lb;refine mK (λd=>∃ r,(∀ x∈C.ins++C.outs,mZ r (Sum.inr x)=some (.int (oG C a c l x)))/\d=[.val (nA C a),.val (.dK (hO t)),.val (mE c),.own (.dT (((mI (mH C a).length).take i).map λl=>(l.map (Sum.inl:Int->hI),wA C a t c l))),.val (mE l),.own (.dK r),q]) (λN L=>?_) ?_
   ·have ez:((a.map λp=>D.str p.2)++(mH C a).map D.str)=(a.map (·.2)++mH C a).map D.str:=by rw[aJ,aQ];rfl
    have ev:(c.map D.int++l.map D.int)=(c++l).map D.int:=(aJ ..).symm;refine⟨rfl,_,rfl,C,a,rfl,by omega,.inl rfl,C,a,rfl,by omega,by omega,.inl rfl,by rw[aA,aA];omega,rfl,by rw[aA,aA,O,Z];omega,false,true,_,_,(a.map (·.2)++mH C a).map Sum.inr,rfl,rfl,by rw[ez];exact keysL_strs _,by rw[aA,aH,aA];omega,?_⟩;have Y:qJ [] (((a.map (·.2)++mH C a).map (Sum.inr:Str->hI)).zip (c.map D.int++l.map D.int))=hO (sF C a c l):=by
     rw[ev];have e3:((a.map (·.2)++mH C a).map (Sum.inr:Str->hI)).zip ((c++l).map D.int)=hO (sF C a c l):=by
      unfold hO sF;rw[List.zip_map];rfl
     rw[e3];exact Aq nd
    rw[Y];have le:(hO (sF C a c l)).length<=100:=by
     have:=cV List.length ek;rw[aA,aH,aA] at this;unfold hO;rw[aA];omega
    exact⟨C,_,_,rfl,g.gc,M,le,λr o=>⟨.inl rfl,L _ ⟨r,o,rfl⟩⟩⟩
   rintro _ ⟨r,o,rfl⟩;refine mK (λd=>d=[.val (nA C a),.val (.dK (hO t)),.val (mE c),.own (.dT (((mI (mH C a).length).take i).map λl=>(l.map (Sum.inl:Int->hI),wA C a t c l))),.val (mE l),.own (.dK r),.val (mE (a.map λp=>oG C a c l p.1))]) (λN L=>?_) ?_
   ·have hb:∀ x∈C.ins++C.outs,oV (oG C a c l x):=λx u=>by
     by_cases I:x∈C.ins
     ·unfold oG;rw[Ga g.gc _ I];exact (M x I).2
     ·exact Na g.gc (λy V=>(M y V).2) x ((aR.mp u).resolve_left I)
    unfold rG dC aC;refine pZ a (λp=>D.tup [.str p.1,.str p.2]) (λp=>D.int (oG C a c l p.1)) _ (λΨ h=>⟨rfl,_,rfl,h⟩) (by omega) (λj y ys Nx e h1 h2=>?_) ?_
    ·refine⟨rfl,rfl,rfl,D.int (oG C a c l y.1),?_,h1,h2⟩;show some (mZ r (Sum.inr y.1))=_;rw[o y.1 (aN _ (g.m y (aI e)).1)]
    ·have e4:mE (a.map λp=>oG C a c l p.1)=D.tup (a.map λp=>D.int (oG C a c l p.1)):=by unfold mE;rw[List.map_map];rfl
     have k:=L _ rfl;rw[e4] at k;exact k
   rintro _ rfl;have hb:∀ x∈C.ins++C.outs,oV (oG C a c l x):=λx u=>by
     by_cases I:x∈C.ins
     ·unfold oG;rw[Ga g.gc _ I];exact (M x I).2
     ·exact Na g.gc (λy V=>(M y V).2) x ((aR.mp u).resolve_left I)
   refine⟨C,a,t,r,oG C a c l,rfl,g,λx u=>⟨o x u,hb x u⟩,.inl rfl,by show 2<=1000;decide,rfl,?_⟩;exact⟨_,J9 hl (wA C a t c) (by omega),_,_,_,rfl⟩
  ·rintro d ⟨z,v,q,rfl⟩;rw[aA,cI];exact L _ ⟨z,v,q,rfl⟩
 rintro _ ⟨z,v,q,rfl⟩;exact U
theorem Zg (F:Fun K "step_table" "step_table" Ie f fd) (T:Txt mg) (wH:Gd K mg "all_bits" A3 ["count"] fA fdA) (Lh:Gd K mg "steps_from" Fj ["row","weights","carried"] fS fdS)
  (Ee:FnOk P w K mg base mJ 1 fA fdA ["count"] (mQ K zP)) (NT:FnOk P w K mg base mJ 4 fS fdS ["row","weights","carried"] (mQ K Th)):FnOk P w K mg base mJ 5 f fd ["row","weights"] (mQ K Gs):=by
 refine F.okD (k:=4) Nm (λO M y ⟨_,_,_,e,_⟩=>by rw[e];rfl) (by decide) λS A j s H E O M y o I=>?_
 have r:=oX o;obtain⟨C,a,t,rfl,v,l⟩:=I;refine⟨_,(mF (mY (i:=2) Nm.nd rfl (Or.inl rfl) Bx) (mF (qU (m:=99) bM rfl (nS (mV Ee (o.mono (by decide)) (by rfl) wH.m wH.k wH.b (aD (oF qQ qR (by rfl) T.len bP (aD (mP r (pv 0) kD) gV)) gV))) (mM (i:=3) Nm.nd rfl (Or.inl rfl)) (mW (vW (n:=2) r (mV NT (o.mono (by decide)) (by rfl) Lh.m Lh.k Lh.b (aD (eA 0 (pv 0)) (aD (eA 1 (pv 1)) (aD (eA 3 (pv 3)) gV)))) (pv 2) (eA 3 (pv 3))))) (mW (nQ (zT 2 (pv 2)))))),?_⟩;have p:=v.lp;have L:=vP p;have B:=uU a.length;refine mK (λd=>d=[.val (nA C a),.val (.dK (hO t)),.own (.dT []),.no]) (λN q=>q _ rfl) ?_;rintro _ rfl;refine mK (λd=>∃ g,d=[.val (nA C a),.val (.dK (hO t)),.own (nM C a t),g]) (λN q=>?_) ?_
 ·refine rF ((mI a.length).map mE) [.val (nA C a),.val (.dK (hO t)),.own (.dT []),.no] (λV h=>?_) (λi d=>∃ g,d=[.val (nA C a),.val (.dK (hO t)),.own (.dT (((mI a.length).take i).map λc=>(c.map (Sum.inl:Int->hI),rN C a t c))),g]) ⟨.no,rfl⟩ ?_ ?_
  ·exact⟨rfl,_,rfl,rfl,_,rfl,a.length,by rw[aA],by omega,.inl rfl,h⟩
  ·rintro i x d z ⟨g,rfl⟩;obtain⟨c,u,rfl⟩:=qH z;obtain⟨Q,U⟩:=uZ (aI u);exact⟨C,a,t,c,rfl,v,Q,U,.inl rfl,rfl,_,J9 u (rN C a t) (by omega),_,rfl⟩
  ·rintro d ⟨g,rfl⟩;rw[aA,cI];exact q _ ⟨g,rfl⟩
 rintro _ ⟨g,rfl⟩;exact l
end
theorem Tk:(["bit","want"]:List Str).Nodup:=by decide +kernel
theorem BA:(["name","edges"]:List Str).Nodup:=by decide +kernel
theorem PM:(["bits","asked"]:List Str).Nodup:=by decide +kernel
theorem Jq:(["out","into","bit","edges"]:List Str).Nodup:=by decide +kernel
def rA:Option Int->D
 | none=>.non
 | some i=>.int i
def sY (b:Int) (o:Option Int):Bool:=match o with
 | none=>true
 | some i=>decide (i=b)
def uN (bs:List Int) (os:List (Option Int)):Bool:=(bs.zip os).all λp=>sY p.1 p.2
def rS (prs:List (Str×Str)) (ef:Str->Option Int):List (Option Int):=prs.map λp=>ef p.2
def pU (prs:List (Str×Str)) (ef:Str->Option Int):List (List Int):=(mI prs.length).filter λb=>uN b (rS prs ef)
theorem B7 (f:α->D) (g:β->D):∀ (xs:List α) (ys:List β),Ak (xs.map f) (ys.map g)=(xs.zip ys).map λp=>D.tup [f p.1,g p.2]
 | [],_=>rfl
 | _::_,[]=>rfl
 | x::xs,y::ys=>by
  show D.tup [f x,g y]::Ak (xs.map f) (ys.map g)=_;rw[B7 f g xs ys];rfl
theorem GH (b:Int) (o:Option Int):∃ v,xP (rA o)=some v/\uW v [.non,.int b]=sY b o:=by
 cases o with
 | none=>exact⟨.non,rfl,rfl⟩
 | some i =>
  refine⟨.int i,rfl,?_⟩;show (false||((b == i)||false))=decide (i=b);rw[Bool.or_false,Bool.false_or];by_cases h:i=b
  ·subst h;simp
  ·rw[bD h];simp;exact λe=>h e.symm
theorem Vd:∀ bs:List Bool,(!uW (.bl false) (bs.map V.bl))=bs.all id
 | []=>rfl
 | b::r=>by
  have a:=Vd r;unfold uW at a ⊢;rw[aO,eY,lT,← a];cases b<;>rfl
theorem S5:∀ bs:List Bool,uO (bs.map D.bl)=some (bs.map V.bl)
 | []=>rfl
 | b::r=>by rw[aO];unfold uO;rw[S5 r];rfl
theorem Vb (ef:Str->Option Int):∀ (prs:List (Str×Str)) (b:List Int),(((prs.zip b).map λp=>sY p.2 (ef p.1.2)).all id)=uN b (rS prs ef)
 | [],b=>by cases b<;>rfl
 | _::_,[]=>rfl
 | p::r,x::b=>by
  have a:=Vb ef r b;show (sY x (ef p.2)&&(((r.zip b).map λp=>sY p.2 (ef p.1.2)).all id))=(sY x (ef p.2)&&uN b (rS r ef));rw[a]
def Qv:RD:=λdk ds Φ=>∃ (bs:List Int) (os:List (Option Int)),ds=[mE bs,.lst (os.map rA)]/\bs.length<=100/\os.length<=100/\Φ (.val (.bl (uN bs os)))
def Es:RD:=λdk ds Φ=>∃ (C:Cel) (prs:List (Str×Str)) (ekv:List (hI×D)) (ef:Str->Option Int),ds=[nA C prs,.dK ekv]/\prs.length<=6/\(∀ p∈prs,mZ ekv (Sum.inr p.2)=some (rA (ef p.2)))/\Φ (.own (.lst ((pU prs ef).map mE)))
section
variable {P:Program}{K:mC}
theorem Ze:FnScope ["bits","asked"] ["bits","asked"] (nF Ho):=oW
theorem Sm:FnScope ["row","edges","asked"] ["row","edges"] (nF F0):=oW
theorem F8:FnScope ["row","edges","found","bits","good"] ["row","edges"] (nF Er):=oW
theorem HI (F:Fun K "are_let" "are_let" Ho f fd) (T:Txt mg):FnOk P w K mg base mJ 1 f fd ["bits","asked"] (mQ K Qv):=by
 refine F.okD (k:=0) Ze (λt r d ⟨_,_,e,_⟩=>by rw[e];rfl) (by decide) λu A a s H E t r d g q=>?_
 have B:=oX g;obtain⟨bs,os,rfl,I,C,c⟩:=q;refine⟨_,(mW (nQ (oF (C8 rfl) Dr (by rfl) T.all hU (aD (pP ["bit","want"] [] [] rfl (Ey (by rfl) T.zip (aD (eA 0 (pv 0)) (aD (eA 1 (pv 1)) gV))) rfl rfl (λ_ _ _ _ _=>(sB (n:=2) rfl (nP (mM (i:=0) Tk rfl (Or.inl rfl)) (nP (mM (i:=1) Tk rfl (Or.inl rfl)) qS)))) (λ_ _ _ _ _=>pG) (λ_ _ _ _ _=>(LJ (Be Yn (Zv false) (pv 1) Hd) (Sk (Be (rL g.units) (qD false) (pv 1) (eA 0 (pv 0))))))) gV)))),?_⟩;have z:(bs.zip os).length<=100:=by rw[iB];omega
 unfold rC dC aC;refine pZ (bs.zip os) (λp=>D.tup [.int p.1,rA p.2]) (λp=>D.bl (sY p.1 p.2)) [.val (mE bs),.val (.lst (os.map rA))] (λv h=>⟨true,false,_,_,rfl,rfl,?_⟩) (by omega) (λj y x L e m l=>?_) ?_
 ·rw[B7];exact h
 ·obtain⟨b,o⟩:=y;cases o with
  | none=>exact⟨rfl,rfl,rfl,m,l⟩
  | some i=>exact⟨rfl,rfl,rfl,rfl,m,l⟩
 ·refine⟨(bs.zip os).map λp=>sY p.1 p.2,?_,?_⟩
  ·rw[← Bm,aQ];rfl
  ·show d (.val (.bl (((bs.zip os).map λp=>sY p.1 p.2).all id)));rw[kA];exact c
theorem PJ (F:Fun K "let_edges" "let_edges" F0 f fd) (T:Txt mg) (wJ:Gd K mg "carried_inputs" Bq ["row"] fC fdC) (wH:Gd K mg "all_bits" A3 ["count"] fA fdA) (K1:Gd K mg "are_let" Ho ["bits","asked"] fL fdL)
  (B0:FnOk P w K mg base mJ 1 fC fdC ["row"] (mQ K Ew)) (Ee:FnOk P w K mg base mJ 1 fA fdA ["count"] (mQ K zP)) (Zx:FnOk P w K mg base mJ 1 fL fdL ["bits","asked"] (mQ K Qv)):FnOk P w K mg base mJ 2 f fd ["row","edges"] (mQ K Es):=by
 refine F.okD (k:=1) Sm (λW V z ⟨_,_,_,_,e,_⟩=>by rw[e];rfl) (by decide) λY A q s H E W V z o O=>?_
 have I:=oX o;obtain⟨C,a,c,d,rfl,g,L,r⟩:=O;refine⟨_,(mF (mY (i:=2) Sm.nd rfl (Or.inr rfl) (pP ["name"] ["edges"] [1] rfl (nS (mV B0 (o.mono (by decide)) (by rfl) wJ.m wJ.k wJ.b (aD (eA 0 (pv 0)) gV))) rfl rfl (λ_ _ _ _ _=>(mM (i:=0) BA rfl (Or.inl rfl))) (λ_ _ _ _ _=>pG) (λ_ _ _ _ _=>(mP I (pv 1) (eA 0 (pv 0)))))) (mW (nQ (pP ["bits"] ["asked"] [2] rfl (nS (mV Ee (o.mono (by decide)) (by rfl) wH.m wH.k wH.b (aD (oF qQ qR (by rfl) T.len bP (aD (eA 2 (pv 2)) gV)) gV))) rfl rfl (λ_ _ _ _ _=>(mM (i:=0) PM rfl (Or.inl rfl))) (λ_ _ _ _ _=>(xE (Eg (mV Zx (o.mono (by decide)) (by rfl) K1.m K1.k K1.b (aD (eA 0 (pv 0)) (aD (eA 1 (pv 1)) gV)))))) (λ_ _ _ _ _=>(eA 0 (pv 0))))))),?_⟩;have S:=vP g;have M:=uU a.length;refine mK (λv=>v=[.val (nA C a),.val (.dK c),.own (.lst ((rS a d).map rA))]) (λN Q=>?_) ?_
 ·unfold rG;have k:=Q _ rfl;rw[show (rS a d).map rA=a.map (λp=>rA (d p.2)) by unfold rS;rw[List.map_map];rfl] at k;refine pZ a (λp=>D.str p.2) (λp=>rA (d p.2)) [.val (nA C a),.val (.dK c),.no] (λx h=>⟨C,a,rfl,by omega,.inl rfl,h⟩) (by omega) (λj y B Z e u t=>?_) k;refine⟨rfl,rA (d y.2),?_,u,t⟩;show some (mZ c (Sum.inr y.2))=_;rw[L y (aI e)]
 rintro _ rfl;unfold rC;refine xV (mI a.length) mE mE (λb=>uN b (rS a d)) [.val (nA C a),.val (.dK c),.val (.lst ((rS a d).map rA))] (λx h=>?_) (by omega) (λj b B Z e u t U=>?_) ?_
 ·exact⟨rfl,_,rfl,a.length,by unfold rS;rw[List.length_map,List.length_map],g,.inl rfl,h⟩
 ·have hb:=(uZ (aI e)).1;refine⟨b,rS a d,rfl,by omega,by unfold rS;rw[List.length_map];omega,.inl rfl,rfl,_,rfl,?_⟩;cases l:uN b (rS a d) with
  | true=>exact (aP rfl).mpr ⟨u,t l⟩
  | false=>exact (aM bF).mpr (U l)
 ·exact r
theorem EQ (F:Fun K "_law_let" "_law_let" Er f fd) (T:Txt mg) (wX:Gd K mg "_law_rows" Cb ["many"] fR fdR) (Gn:FnOk P w K mg base mJ 1 fR fdR ["many"] (mQ K zP)):FnOk P w K mg base mJ 2 f fd ["row","edges"] (mQ K Es):=by
 refine F.okD (k:=1) F8 (λdk ds Y ⟨_,_,_,_,e,_⟩=>by rw[e];rfl) (by decide) λac A L s H E dk ds Y O hR=>?_
 have u:=oX O;obtain⟨C,a,c,d,rfl,z,he,M⟩:=hR;refine⟨_,(mF (mY (i:=2) F8.nd rfl (Or.inl rfl) (nN gV)) (mF (qU (m:=99) bM rfl (nS (mV Gn (O.mono (by decide)) (by rfl) wX.m wX.k wX.b (aD (oF qQ qR (by rfl) T.len bP (aD (mP u (pv 0) kD) gV)) gV))) (mM (i:=3) F8.nd rfl (Or.inl rfl)) (mF (Ab (i:=4) ["out","into","bit"] ["edges"] [1] F8.nd rfl (Or.inl rfl) rfl (Ey (by rfl) T.zip (aD (mP u (pv 0) kD) (aD (eA 3 (pv 3)) gV))) rfl rfl (λ_ _ _ _ _=>(sB (n:=2) rfl (nP (sB (n:=2) rfl (nP (mM (i:=0) Jq rfl (Or.inl rfl)) (nP (mM (i:=1) Jq rfl (Or.inl rfl)) qS))) (nP (mM (i:=2) Jq rfl (Or.inl rfl)) qS)))) (λ_ _ _ _ _=>pG) (λ_ _ _ _ _=>(Cp (Hm u) (wE false) (mP u (pv 3) (eA 1 (pv 1))) (oS (aD Hd (aD (eA 2 (pv 2)) gV)))))) (mW (qT (xY (zG u) (wE true) vI (pv 4)) (mW (rW (qX bG bN bO rQ sU (pv 2) (aD (eA 3 (pv 3)) gV)))) rB)))) (mW (nQ (zT 2 (pv 2)))))),?_⟩;have ab:=vP z;have aa:=uU a.length;refine mK (λg=>g=[.val (nA C a),.val (.dK c),.own (.lst []),.no,.no]) (λN B=>⟨by show 0<=1000;decide,B _ rfl⟩) ?_;rintro _ rfl;refine mK (λg=>∃ o l,g=[.val (nA C a),.val (.dK c),.own (.lst ((pU a d).map mE)),o,l]) (λN B=>?_) ?_
 ·refine rF ((mI a.length).map mE) [.val (nA C a),.val (.dK c),.own (.lst []),.no,.no] (λW h=>?_) (λi g=>∃ o l,g=[.val (nA C a),.val (.dK c),.own (.lst ((((mI a.length).take i).filter λb=>uN b (rS a d)).map mE)),o,l]) ⟨.no,.no,rfl⟩ ?_ ?_
  ·exact⟨rfl,_,rfl,rfl,_,rfl,a.length,by rw[aA],z,.inl rfl,h⟩
  ·rintro i x g hx ⟨o,l,rfl⟩;obtain⟨b,Q,rfl⟩:=qH hx;obtain⟨bl,_⟩:=uZ (aI Q);obtain⟨t,r⟩:∃ t,t=(((mI a.length).take i).filter λb=>uN b (rS a d)):=⟨_,rfl⟩;have lf:t.length<=64:=by rw[r];exact bY (cD _ _) (by rw[bQ];omega)
   rw[← r];refine mK (λg=>g=[.val (nA C a),.val (.dK c),.own (.lst (t.map mE)),.val (mE b),.own (.lst (((a.zip b).map λp=>sY p.2 (d p.1.2)).map D.bl))]) (λN B=>?_) ?_
   ·unfold rG;have k:=B _ rfl;rw[aQ] at k;refine pZ (a.zip b) (λp=>D.tup [.tup [.str p.1.1,.str p.1.2],.int p.2]) (λp=>D.bl (sY p.2 (d p.1.2))) [.val (nA C a),.val (.dK c),.own (.lst (t.map mE)),.val (mE b),l] (λW h=>?_) (by rw[iB];omega) (λj y Z Nx e h1 h2=>?_) k
    ·refine⟨rfl,_,rfl,true,true,_,_,rfl,rfl,?_⟩;rw[B7];exact h
    ·obtain⟨p,U⟩:=y;have hp:=(fU (aI e)).1;obtain⟨v,v1,v2⟩:=GH U (d p.2);refine⟨rfl,rfl,rfl,rfl,rfl,rA (d p.2),?_,by show 2<=1000;decide,v,_,v1,rfl,h1,?_⟩
     ·show some (mZ c (Sum.inr p.2))=_;rw[he p hp]
     ·show Nx (Z++[D.bl (uW v [.non,.int U])]) _;rw[v2];exact h2
   rintro _ rfl;refine⟨_,_,rfl,S5 _,?_⟩;show if (!uW (.bl false) (((a.zip b).map λp=>sY p.2 (d p.1.2)).map V.bl))=true then _ else _
   rw[Vd,Vb];have S:∀ q:Bool,uN b (rS a d)=q->((mI a.length).take (i+1)).filter (λb=>uN b (rS a d))=t++(if q=true then [b] else []):=λq I=>by
    rw[bS,Q,List.filter_append,← r];show t++[b].filter _=_;cases q<;>simp[I]
   cases I:uN b (rS a d) with
   | true =>
    refine (aP rfl).mpr ⟨rfl,by rw[aA];omega,.val (mE b),.own (.lst (((a.zip b).map λp=>sY p.2 (d p.1.2)).map D.bl)),?_⟩;rw[S true I,aP rfl,aJ];rfl
   | false =>
    refine (aM bF).mpr ⟨.val (mE b),.own (.lst (((a.zip b).map λp=>sY p.2 (d p.1.2)).map D.bl)),?_⟩;rw[S false I,aM bF,dO]
  ·rintro g ⟨o,l,rfl⟩;rw[aA,cI];exact B _ ⟨o,l,rfl⟩
 rintro _ ⟨o,l,rfl⟩;exact M
end
def Gr (C:Cel) (prs:List (Str×Str)) (t:nK) (u:Str->Int) (c l:List Int):Int :=
 look t "" + (((mH C prs).zip l).map λp=>look t p.1*p.2).sum+((nV C prs).map λx=>look t x*u x).sum+((prs.zip c).map λp=>look t p.1.2*p.2-look t p.1.2*2*u p.1.1).sum
theorem Vs:∀ {ks:List Str}{vs:List Int},ks.Nodup->ks.length=vs.length->ks.map (look (ks.zip vs))=vs
 | [],[],_,_=>rfl
 | [],_::_,_,e=>by cases e
 | _::_,[],_,e=>by cases e
 | k::ks,v::vs,a,e=>by
  obtain⟨c,b⟩:=cH.mp a;rw[aO,cN,Hc,aP rfl];have:ks.map (look ((k,v)::ks.zip vs))=ks.map (look (ks.zip vs)):=eP λx d=>by
   rw[Hc,aM];intro z;have z:k=x:=z;exact c (z▸d)
  rw[this,Vs b (by simpa using e)]
theorem Mn (g:α->β):∀ xs:List α,xs.zip (xs.map g)=xs.map λx=>(x,g x)
 | []=>rfl
 | x::xs=>by rw[aO,cN,Mn g xs];rfl
theorem ON (h:RwOk C prs) (t:nK) (hc:c.length=prs.length) (hl:l.length=(mH C prs).length) (bc:∀ x∈c,oV x) (bl:∀ x∈l,oV x) :
  Gr C prs t (oG C prs c l) c l=sJ C prs t (oG C prs c l):=by
 obtain⟨o,e,v⟩:=Ep h hc hl bc bl;have d:(prs.map (·.2)++mH C prs).length=(c++l).length:=by rw[aH,aH,aA,hc,hl]
 have f:(prs.map (·.2)++mH C prs).map (oG C prs c l)=c++l:=by
  have r:(prs.map (·.2)++mH C prs).map (oG C prs c l)=(prs.map (·.2)++mH C prs).map (look (sF C prs c l)):=by
   refine eP λx g=>?_
   have j:x∈C.ins:=(aR.mp g).elim (λk=>by obtain⟨p,i,rfl⟩:=aV.mp k;exact (h.m p i).2) λk=>(cT.mp k).1
   unfold oG;rw[Ga h.gc _ j]
  rw[r];exact Vs (by rw[o] at e;exact e) d
 rw[aJ,aQ] at f;obtain⟨b,a⟩:=List.append_inj f (by rw[aA,hc]);generalize oG C prs c l=u at b a;subst b a;unfold Gr sJ;rw[Mn,Mn,aQ,aQ,aJ,List.sum_append,← iU];have q:((λp:(Str×Str)×Int=>look t p.1.2*p.2-look t p.1.2*2*u p.1.1)∘λp:Str×Str=>(p,(u∘λx=>x.2) p))=λp=>look t p.2*(u p.2-2*u p.1):=by
  funext p
  show look t p.2*u p.2-look t p.2*2*u p.1=_;rw[Int.mul_sub,Int.mul_assoc]
 rw[q];rfl
def P4:RD:=λdk ds Φ=>∃ (C:Cel) (prs:List (Str×Str)) (t:nK) (kv:List (hI×D)) (u:Str->Int) (c l:List Int),ds=[nA C prs,.dK (hO t),.dK kv,mE c,mE l]/\RwOk C prs/\sT kv C.names u/\c.length<=6/\l.length<=6/\(∀ x∈c,oV x)/\(∀ x∈l,oV x)/\Φ (.val (.int (Gr C prs t u c l)))
section
variable {P:Program}{K:mC}
theorem uL:FnScope ["row","weights","known","carried","letter","total","ins","outs","name","bit","out","into"] ["row","weights","known","carried","letter"] (nF Fd):=oW
theorem Xx (F:Fun K "_law_own_sum" "_law_own_sum" Fd f fd) (T:Txt mg) (wF:Gd K mg "_law_words_of" Bw ["row"] fW fdW) (B6:FnOk P w K mg base mJ 1 fW fdW ["row"] (mQ K Im)):FnOk P w K mg base mJ 2 f fd ["row","weights","known","carried","letter"] (mQ K P4):=by
 refine F.okD (k:=1) uL (λdk ds Φ ⟨_,_,_,_,_,_,_,e,_⟩=>by rw[e];rfl) (by decide) λag A M s H E dk ds Φ Y hR=>?_
 have B:=oX Y;obtain⟨C,a,t,r,u,c,l,rfl,L,Z,af,ac,V,U,S⟩:=hR;refine⟨_,(mF (mY (i:=5) uL.nd rfl (Or.inl rfl) (yC B (pv 1) mS kD)) (mF (Ap (m:=99) (mV B6 (Y.mono (by decide)) (by rfl) wF.m wF.k wF.b (aD (eA 0 (pv 0)) gV)) (Bj (n:=2) rfl (nP (mM (i:=6) uL.nd rfl (Or.inl rfl)) (nP (mM (i:=7) uL.nd rfl (Or.inl rfl)) qS)))) (mF (qU (m:=99) bM rfl (Ey (by rfl) T.zip (aD (eA 6 (pv 6)) (aD (eA 4 (pv 4)) gV))) (sB (n:=2) rfl (nP (mM (i:=8) uL.nd rfl (Or.inl rfl)) (nP (mM (i:=9) uL.nd rfl (Or.inl rfl)) qS))) (mW (mY (i:=5) uL.nd rfl (Or.inl rfl) (pL nT nU (pv 5) (nZ wD wI (yC B (pv 1) (eA 8 (pv 8)) kD) (eA 9 (pv 9))))))) (mF (qU (m:=99) bM rfl (nS (eA 7 (pv 7))) (mM (i:=8) uL.nd rfl (Or.inl rfl)) (mW (mY (i:=5) uL.nd rfl (Or.inl rfl) (pL nT nU (pv 5) (nZ wD wI (yC B (pv 1) (eA 8 (pv 8)) kD) (mP B (pv 2) (eA 8 (pv 8)))))))) (mF (qU (m:=99) bM rfl (Ey (by rfl) T.zip (aD (mP B (pv 0) kD) (aD (eA 3 (pv 3)) gV))) (sB (n:=2) rfl (nP (sB (n:=2) rfl (nP (mM (i:=10) uL.nd rfl (Or.inl rfl)) (nP (mM (i:=11) uL.nd rfl (Or.inl rfl)) qS))) (nP (mM (i:=9) uL.nd rfl (Or.inl rfl)) qS))) (mF (mY (i:=5) uL.nd rfl (Or.inl rfl) (pL nT nU (pv 5) (nZ wD wI (yC B (pv 1) (eA 11 (pv 11)) kD) (eA 9 (pv 9))))) (mW (mY (i:=5) uL.nd rfl (Or.inl rfl) (pL xR Ay (pv 5) (nZ wD wI (nZ wD wI (yC B (pv 1) (eA 11 (pv 11)) kD) kD) (mP B (pv 2) (eA 10 (pv 10))))))))) (mW (nQ (eA 5 (pv 5))))))))),?_⟩;have aa:=L.lp;have ae:=L.li;have ab:=L.gc.lo;have l1:(mH C a).length<=C.ins.length:=cD _ _;have l2:(nV C a).length<=C.outs.length:=cD _ _;have wn:∀ x∈nV C a,x∈C.names:=λx I=>L.gc.os x (cT.mp I).1
 refine mK (λq=>q=[.val (nA C a),.val (.dK (hO t)),.val (.dK r),.val (mE c),.val (mE l),.val (.int (look t "")),.no,.no,.no,.no,.no,.no]) (λN z=>?_) ?_
 ·refine⟨rfl,_,rfl,?_⟩;show N [_,_,_,_,_,Sl.val ((mZ (hO t) (Sum.inr (Str.ofString ""))).getD (D.int 0)),_,_,_,_,_,_];rw[xL];exact z _ rfl
 rintro _ rfl;refine mK (λq=>q=[.val (nA C a),.val (.dK (hO t)),.val (.dK r),.val (mE c),.val (mE l),.val (.int (look t "")),.val (.lst ((mH C a).map D.str)),.val (.lst ((nV C a).map D.str)),.no,.no,.no,.no]) (λN z=>?_) ?_
 ·exact⟨C,a,rfl,by omega,by omega,by omega,.inl rfl,rfl,rfl,z _ rfl⟩
 rintro _ rfl;refine mK (λq=>∃ o j g d,q=[.val (nA C a),.val (.dK (hO t)),.val (.dK r),.val (mE c),.val (mE l),.val (.int (look t "" + (((mH C a).zip l).map λp=>look t p.1*p.2).sum)),.val (.lst ((mH C a).map D.str)),.val (.lst ((nV C a).map D.str)),o,j,g,d]) (λN z=>?_) ?_
 ·refine rF (((mH C a).zip l).map λp=>D.tup [.str p.1,.int p.2]) [.val (nA C a),.val (.dK (hO t)),.val (.dK r),.val (mE c),.val (mE l),.val (.int (look t "")),.val (.lst ((mH C a).map D.str)),.val (.lst ((nV C a).map D.str)),.no,.no,.no,.no] (λW h=>?_) (λi q=>∃ o j g d,q=[.val (nA C a),.val (.dK (hO t)),.val (.dK r),.val (mE c),.val (mE l),.val (.int (look t "" + ((((mH C a).zip l).take i).map λp=>look t p.1*p.2).sum)),.val (.lst ((mH C a).map D.str)),.val (.lst ((nV C a).map D.str)),o,j,g,d]) ⟨.no,.no,.no,.no,by simp⟩ ?_ ?_
  ·refine⟨false,true,_,_,rfl,rfl,?_⟩;rw[B7];exact h
  ·rintro i x q I ⟨o,j,g,d,rfl⟩;obtain⟨y,v,rfl⟩:=qH I;refine⟨rfl,rfl,rfl,rfl,_,rfl,?_⟩;show Ag ((mZ (hO t) (Sum.inr y.1)).getD (D.int 0)) (D.int y.2) _;rw[xL];refine⟨.inr (A5 (U _ (fU (aI v)).2)),.val (.str y.1),.val (.int y.2),g,d,?_⟩;rw[Ds (λp:Str×Int=>look t p.1*p.2) v,← iU];rfl
  ·rintro q ⟨o,j,g,d,rfl⟩;rw[aA,cI];exact z _ ⟨o,j,g,d,rfl⟩
 rintro _ ⟨o,j,g,d,rfl⟩;refine mK (λq=>∃ o j g d,q=[.val (nA C a),.val (.dK (hO t)),.val (.dK r),.val (mE c),.val (mE l),.val (.int (look t "" + (((mH C a).zip l).map λp=>look t p.1*p.2).sum+((nV C a).map λx=>look t x*u x).sum)),.val (.lst ((mH C a).map D.str)),.val (.lst ((nV C a).map D.str)),o,j,g,d]) (λN z=>?_) ?_
 ·refine rF ((nV C a).map D.str) [.val (nA C a),.val (.dK (hO t)),.val (.dK r),.val (mE c),.val (mE l),.val (.int (look t "" + (((mH C a).zip l).map λp=>look t p.1*p.2).sum)),.val (.lst ((mH C a).map D.str)),.val (.lst ((nV C a).map D.str)),o,j,g,d] (λW h=>h) (λi q=>∃ o j g d,q=[.val (nA C a),.val (.dK (hO t)),.val (.dK r),.val (mE c),.val (mE l),.val (.int (look t "" + (((mH C a).zip l).map λp=>look t p.1*p.2).sum+(((nV C a).take i).map λx=>look t x*u x).sum)),.val (.lst ((mH C a).map D.str)),.val (.lst ((nV C a).map D.str)),o,j,g,d]) ⟨o,j,g,d,by simp⟩ ?_ ?_
  ·rintro i x q I ⟨o,j,g,d,rfl⟩;obtain⟨y,v,rfl⟩:=qH I;obtain⟨Q,O⟩:=Z y (wn y (aI v));refine⟨rfl,rfl,_,rfl,rfl,D.int (u y),?_,?_⟩
   ·show some (mZ r (Sum.inr y))=_;rw[Q]
   ·show Ag ((mZ (hO t) (Sum.inr y)).getD (D.int 0)) (D.int (u y)) _;rw[xL];refine⟨.inr (A5 O),.val (.str y),j,g,d,?_⟩;rw[Ds (λx:Str=>look t x*u x) v,← iU];rfl
  ·rintro q ⟨o,j,g,d,rfl⟩;rw[aA,cI];exact z _ ⟨o,j,g,d,rfl⟩
 rintro _ ⟨o,j,g,d,rfl⟩;refine mK (λq=>∃ o j g d,q=[.val (nA C a),.val (.dK (hO t)),.val (.dK r),.val (mE c),.val (mE l),.val (.int (Gr C a t u c l)),.val (.lst ((mH C a).map D.str)),.val (.lst ((nV C a).map D.str)),o,j,g,d]) (λN z=>?_) ?_
 ·refine rF ((a.zip c).map λp=>D.tup [.tup [.str p.1.1,.str p.1.2],.int p.2]) [.val (nA C a),.val (.dK (hO t)),.val (.dK r),.val (mE c),.val (mE l),.val (.int (look t "" + (((mH C a).zip l).map λp=>look t p.1*p.2).sum+((nV C a).map λx=>look t x*u x).sum)),.val (.lst ((mH C a).map D.str)),.val (.lst ((nV C a).map D.str)),o,j,g,d] (λW h=>?_) (λi q=>∃ o j g d,q=[.val (nA C a),.val (.dK (hO t)),.val (.dK r),.val (mE c),.val (mE l),.val (.int (look t "" + (((mH C a).zip l).map λp=>look t p.1*p.2).sum+((nV C a).map λx=>look t x*u x).sum+(((a.zip c).take i).map λp=>look t p.1.2*p.2-look t p.1.2*2*u p.1.1).sum)),.val (.lst ((mH C a).map D.str)),.val (.lst ((nV C a).map D.str)),o,j,g,d]) ⟨o,j,g,d,by simp⟩ ?_ ?_
  ·refine⟨rfl,_,rfl,true,true,_,_,rfl,rfl,?_⟩;rw[B7];exact h
  ·rintro i x q I ⟨o,j,g,d,rfl⟩;obtain⟨⟨p,b⟩,v,rfl⟩:=qH I;obtain⟨m1,m2⟩:=L.m p (fU (aI v)).1;obtain⟨Q,O⟩:=Z p.1 (L.gc.os _ m1);refine⟨rfl,rfl,rfl,rfl,rfl,rfl,_,rfl,?_⟩;show Ag ((mZ (hO t) (Sum.inr p.2)).getD (D.int 0)) (D.int b) _;rw[xL];refine⟨.inr (A5 (V _ (fU (aI v)).2)),rfl,rfl,_,rfl,?_⟩;show Ag ((mZ (hO t) (Sum.inr p.2)).getD (D.int 0)) (D.int 2) _;rw[xL];refine⟨.inr ⟨by decide,by decide⟩,rfl,D.int (u p.1),?_,.inr (A5 O),o,.val (.int b),.val (.str p.1),.val (.str p.2),?_⟩
   ·show some (mZ r (Sum.inr p.1))=_;rw[Q]
   rw[Ds (λp:(Str×Str)×Int=>look t p.1.2*p.2-look t p.1.2*2*u p.1.1) v,← iU,Int.sub_eq_add_neg,← iU];rfl
  ·rintro q ⟨o,j,g,d,rfl⟩;rw[aA,cI];exact z _ ⟨o,j,g,d,rfl⟩
 rintro _ ⟨o,j,g,d,rfl⟩;exact S
end
end Lw
namespace L2
open PySem PySem.Spec PyProof.Rows Lw
abbrev wV:=List Addr->Addr->D->(D->List Sl->Prop)->List Sl->Prop
def dH (K:mC) (τ:wV):TS:=λDn σ H=>∃ (B:Bs) (ρ:List Sl) (a:Addr) (g:D) (T:oK) (nx:D->List Sl->Prop),ρ.length=σ.length/\DS K B (ρ.zip σ++(.own g,some (.ref a))::T) H/\τ B.dk a g nx ρ /\
 ∀ g' ρ' σ' H',ρ'.length=σ'.length->σ'.length=σ.length->DS K B (ρ'.zip σ'++(.own g',some (.ref a))::T) H'->nx g' ρ'->Dn.nx σ' H'
theorem dH.elim {K:mC}{P:Prop}(h:dH K τ Dn σ H) (f:∀ (B:Bs) (ρ:List Sl) (a:Addr) (g:D) (T:oK) (nx:D->List Sl->Prop),ρ.length=σ.length->DS K B (ρ.zip σ++(.own g,some (.ref a))::T) H->τ B.dk a g nx ρ ->(∀ g' ρ' σ' H',ρ'.length=σ'.length->σ'.length=σ.length->DS K B (ρ'.zip σ'++(.own g',some (.ref a))::T) H'->nx g' ρ'->Dn.nx σ' H')->P):P:=by
 obtain⟨B,ρ,a,g,T,nx,c,hd,b,k⟩:=h;exact f B ρ a g T nx c hd b k
abbrev Eh (X:Cx) (st:Stmt) (τ:wV):Prop:=PS X st (dH X.K τ)
abbrev Db (X:Cx) (st:List Stmt) (τ:wV):Prop:=qL X st (dH X.K τ)
def R4 (t:qV):wV:=λdk a g nx ρ=>t dk { nx:=nx g,rt:=λ_=>False } ρ
def Qw (t u:wV):wV:=λdk a g nx ρ=>t dk a g (λg' ρ'=>u dk a g' nx ρ') ρ
def Wb (ι:vX) (g:vA) (tb:wV):wV:=λdk a gh nx ρ=>ι dk ρ λds ρ1=>∃ Pv:Nat->D->List Sl->Prop,Pv 0 gh ρ1 /\
 (∀ i d gh' ρ',ds[i]?=some d->Pv i gh' ρ'->g d ρ' λρ2=>tb dk a gh' (Pv (i+1)) ρ2)/\∀ gh' ρ',Pv ds.length gh' ρ'->nx gh' ρ'
def CW (to ti tv:nI):wV:=λdk a g nx ρ=>tv dk ρ λrv ρ1=>to dk ρ1 λro ρ2=>ro = .val (.raw (.ref a))/\ti dk ρ2 λrk ρ3=>match sd rv,sd rk with
 | some d,some k=>∃ g',uJ g k d=some g'/\nx g' ρ3
 | _,_=>False
def AL (n:Nat) (ti:nI) (τ:wV):qV:=λdk De ρ=>(at? ρ n).isSome=true/\ti dk ρ λrk ρ2=>∃ kvs ks kk,sd rk=some (.tup ks)/\tM ks=some kk/\ρ2[n]?=some (.own (.dT kvs))/\kvs.length<100000/\(∀ p∈kvs,p.1≠kk) /\
 ∀ a,τ dk a (.dT []) (λg' ρ'=>ρ'[n]?=some (.own (.dT (kvs++[(kk,.raw (.ref a))])))/\De.nx (ρ'.set n (.own (.dT (kvs++[(kk,g')]))))) (ρ2.set n (.own (.dT (kvs++[(kk,.raw (.ref a))]))))
section
variable {X:Cx}{K:mC}
theorem DS.redo (h:DS K B (l1++(.own c,y)::l2) H) (hr:∀ A a,y=some (.ref a)->Al B (mD (l1++(Sl.own c,y)::l2))=A->qA K A H a c->qA K A H a c'):DS K B (l1++(.own c',y)::l2) H:=by
 have b:mD (l1++(Sl.own c',y)::l2)=mD (l1++(Sl.own c,y)::l2):=by
  rw[sK,sK];have:xK (Sl.own c',y)=xK (Sl.own c,y):=by
   cases y with
   | none=>rfl
   | some v=>cases v<;>rfl
  rw[this]
 refine⟨h.fr,h.dk,by rw[b];exact h.nd,by rw[b];exact h.new,λp d=>?_⟩;rw[b];simp only[aR,aL] at d;rcases d with q | q | q
 ·exact h.ok p (bC _ q)
 ·subst q;obtain⟨a,e,r⟩:=h.at;exact⟨a,e,hr _ a e rfl r⟩
 ·exact h.ok p (aN _ (aT _ q))
theorem Reps.last {A:Addr->Prop}{d d':D}{v:V}:∀ {ds:List D}{vs:List V},Reps K A H (ds++[d]) vs->(∀ u,Rep K A H d u->Rep K A H d' u)->Reps K A H (ds++[d']) vs
 | [],_,.cons h .nil,f=>.cons (f _ h) .nil
 | _::ds,_,.cons h r,f=>.cons h (Reps.last (v:=v) (ds:=ds) r f)
theorem DS.putBack {ρ:List Sl}{σ:St}{n:Nat}{kvs:List (List hI×D)}{kk:List hI}{a:Addr}{g:D}(hl:ρ.length=σ.length) (h:DS K B (ρ.zip σ++(.own g,some (.ref a))::T) H) (e:ρ[n]?=some (.own (.dT (kvs++[(kk,.raw (.ref a))])))) :
  DS K B ((ρ.set n (.own (.dT (kvs++[(kk,g)])))).zip σ++T) H:=by
 have k:=h.thaw (d:=g) rfl;obtain⟨j,y,i,z,_,m,c⟩:=vU hl e;have o:=c (.own (.dT (kvs++[(kk,g)]))) y;rw[zY z] at o;have f:=k.valAt;have I:DS K B (j++(.own (.dT (kvs++[(kk,.raw (.ref a))])),y)::(i++(.val g,some (.ref a))::T)) H:=by rw[m] at k;simpa using k
 have L:mD (j++(Sl.own (.dT (kvs++[(kk,.raw (.ref a))])),y)::(i++(Sl.val g,some (V.ref a))::T))=mD (ρ.zip σ++T):=by
  rw[← Hg (L1:=ρ.zip σ) (d:=g) (y:=some (V.ref a)),m];simp
 have F:=I.redo (c':=.dT (kvs++[(kk,g)])) λA b _ p r=>by
  rw[L] at p;have f:Rep K A H g (.ref a):=by rw[← p];exact f
  obtain⟨q,x,t,l⟩:=r;refine⟨q,x,?_,?_⟩
  ·rw[← t,aJ,aJ];rfl
  ·rw[aJ] at l ⊢;exact l.last (v:=.non) λu C=>by
    have:=C.raw_inv;rw[this];exact f
 have E:DS K B ((j++(.own (.dT (kvs++[(kk,g)])),y)::i)++(.val g,some (.ref a))::T) H:=by simpa using F
 rw[o];exact E.drop
theorem Gz {st:Stmt}(h:uG X st t):Eh X st (R4 t):=h.mono λr p H e=>e.elim λB f a g T q m hd l i=>⟨B,f,(.own g,some (.ref a))::T,_,m,hd,l,λc b o k j d=>⟨i g c b o k j d,λz=>z.elim,λz=>z.elim⟩,λ_ _ _ _ _ _ _ z=>z.elim⟩
theorem Ov {st:Stmt}(h:Eh X st t):Db X [st] t:=rY h
theorem E9 {st:Stmt}{rest:List Stmt}(h1:Eh X st t) (h2:Db X rest u):Db X (st::rest) (Qw t u):=(qF h1 h2).mono λF C H f=>f.elim λB i a g T k v hd r o =>
 ⟨B,i,a,g,T,_,v,hd,r,λx e h E q p d z=>⟨B,e,a,x,T,k,q,d,z,λg2 c b y m l d2 j=>o g2 c b y m (l.trans p) d2 j⟩⟩
theorem RP {iter:Expr}(hp:PassesOwn (model X.prog X.w) X.A X.env X.xe) (hc:X.calm=true) (hi:xT X tg iter ι) (hg:vM X m tg g) (hb:Db X body tb)
  (hs:∀ x,foldedSetIterable iter X.env x=pure x:=by intro _;rfl):Eh X (.For tg iter body [] pos) (Wb ι g tb) :=
 (Af hp hc hi hg hb hs).mono λDn O H I=>I.elim λB V a S T nx hl hd ht lk=>⟨B,V,(.own S,some (.ref a))::T,_,hl,hd,ht,λJ r C E H1 l1 d1 Y ⟨Pv,p0,step,fin⟩=>by
  have sw:∀ {L:oK} {c:D} {j:Hp},DS X.K B (L++(E++(.own c,some (.ref a))::T)) j->DS X.K B (L++(.own c,some (.ref a))::(E++T)) j:=λh=>h.perm (gA _ eW)
  have W:∀ {L:oK} {c:D} {j:Hp},DS X.K B (L++(.own c,some (.ref a))::(E++T)) j->DS X.K B (L++(E++(.own c,some (.ref a))::T)) j:=λh=>h.perm (gA _ eW.symm)
  refine⟨λi m e j=>m=r.length-i/\i<=r.length/\∃ b c,b.length=e.length/\e.length=O.length/\DS X.K B (b.zip e++(E++(.own c,some (.ref a))::T)) j/\Pv i c b,⟨_,rfl,cO _,C,S,l1,rfl,d1,p0⟩,?_⟩;rintro i m e j ⟨rfl,aa,b,c,Q,m2,u,pv⟩;have o:yG X.K (Al B (mD (b.zip e++(E++(.own c,some (.ref a))::T)))) j E:=λq hq=>u.ok q (by simp[hq])
  by_cases l:i<r.length
  ·refine .inr ⟨Y.go i j _ l o,λk t=>∃ f g2,f.length=k.length/\k.length=O.length/\DS X.K B (f.zip k++(E++(.own g2,some (.ref a))::T)) t/\Pv (i+1) g2 f,λk t ⟨f,g2,q1,q2,F,q4⟩=>⟨_,(by omega:r.length-(i+1)<_),rfl,l,f,g2,q1,q2,F,q4⟩,λx t y=>?_⟩;obtain⟨d,N,alt⟩:=Y.yld i j _ x t l o y;have d2:DS X.K B (b.zip e++(.val d,some x)::(E++(.own c,some (.ref a))::T)) t:=by
    rcases alt with⟨rfl,Z⟩ | ⟨p,es,vs,M,rfl,rfl,rfl,rr⟩
    ·exact u.push Z
    ·exact u.tup M rr
   refine⟨B,b,E++(.own c,some (.ref a))::T,d,_,Q,d2,step i d c b N pv,λf k H3 n1 n2 _ d3 F=>⟨B,f,a,c,E++T,_,n1,sw d3,F,?_⟩⟩;intro g4 v U H4 a1 a2 a3 z;exact⟨v,g4,a1,by omega,W a3,z⟩
  ·have ei:i=r.length:=by omega
   subst ei;exact .inl ⟨Y.stop _ j _ rfl o,lk c b e j Q m2 u.rmE (fin c b pv)⟩⟩
theorem Y4 (hu:X.A.units+1<cLine) (hv:PD X e tv) (ho:PD X o to) (hi:PD X i ti)
  (ha:∀ v,assign (.Subscript o i pos') X.env v=(do
   let ov ← holding [v] (eval o X.env);let iv ← holding [v,ov] (eval i X.env)
   standAt pos'
   holding [v,ov,iv] (setItem ov iv v)
   release [v,ov,iv] []):=by intro _;rfl)
  (hs:swapsWithSole [.Subscript o i pos'] e pos.line X.env=pure false:=by rfl) (hw:swappedStores [.Subscript o i pos'] e X.env=pure none:=by rfl)
  (h1:(assignEach [.Subscript o i pos'] X.env).map (·.2)=[assign (.Subscript o i pos') X.env]:=by rfl):Eh X (.Assign [.Subscript o i pos'] e pos) (CW to ti tv) :=
 (zR hv (Bt ho hi (L6 hu) ha) hs hw h1).mono λDn h H p=>p.elim λB C a f T nx S hd O I=>⟨B,C,(.own f,some (.ref a))::T,_,S,hd,O,λm l v H1 N d1 h1 =>⟨B,l,(m,some v)::(.own f,some (.ref a))::T,_,N,d1,h1,λro j x H2 M d2 ⟨q,W⟩=>by
   subst q;have Z:=d2.valAt.raw_inv;subst Z;refine⟨B,j,(m,some v)::(.own f,some (.ref a))::T,_,M,d2.drop,W,λE c y H3 L d3 b=>?_⟩;cases g:sd m with
   | none=>rw[g] at b;exact b.elim
   | some d =>
    cases r:sd E with
    | none=>rw[g,r] at b;exact b.elim
    | some k =>
     rw[g,r] at b;obtain⟨Y,U,b⟩:=b;obtain⟨z,u,t⟩:=d3.two g r;obtain⟨a',ea,F⟩:=z.ownAt;cases ea;have er:mD (c.zip h++(Sl.own f,some (V.ref a))::T)=mD (c.zip h)++a::mD T:=sK;rw[er] at u t;exact J7 U F t.peek u λo Q=>I Y c h _ L rfl (z.write Q) b⟩⟩
theorem EI {rest:List Stmt}(hu:X.A.units+1<cLine) (hv:PD X e Ta) (ho:PE X o (qM n)) (hi:PD X i ti) (hrest:Db X rest τ)
  (ha:∀ v,assign (.Subscript o i pos') X.env v=(do
   let ov ← holding [v] (eval o X.env);let iv ← holding [v,ov] (eval i X.env)
   standAt pos'
   holding [v,ov,iv] (setItem ov iv v)
   release [v,ov,iv] []):=by intro _;rfl)
  (hs:swapsWithSole [.Subscript o i pos'] e pos.line X.env=pure false:=by rfl) (hw:swappedStores [.Subscript o i pos'] e X.env=pure none:=by rfl)
  (h1:(assignEach [.Subscript o i pos'] X.env).map (·.2)=[assign (.Subscript o i pos') X.env]:=by rfl):vN X (.Assign [.Subscript o i pos'] e pos::rest) (AL n ti τ) :=
 (qF (zR hv (Bt ho hi (L6 hu) ha) hs hw h1) hrest).mono λDn σ H l=>l.elim λB t T De hl hd ⟨hn,Z⟩ Y=>⟨B,t,T,λr f=>r = .own (.dT [])/\f=t,hl,hd,⟨rfl,rfl⟩,λrv k v H1 E d1 ⟨e1,p⟩=>by
  subst e1 p;obtain⟨d0,h0⟩:=cR.mp hn;obtain⟨x,L,_⟩:=d1.peek E h0;obtain⟨a,rfl,_⟩:=d1.ownAt;refine⟨x,L,B,k,(.own (.dT []),some (.ref a))::T,_,E,d1,Z,λrk N y H2 C d2 ⟨c,F,I,p,e3,e4,m,g,h2⟩=>?_⟩;obtain⟨V,U⟩:=d2.one p;obtain⟨b,M,S,wr⟩:=V.slotW C e4;rw[L] at M;cases M;have hc:uJ (.dT c) (.tup F) (.raw (.ref a))=some (.dT (c++[(I,.raw (.ref a))])):=by
   show (if c.length<100000 then (tM F).map λj=>D.dT (nR c j (.raw (.ref a))) else none)=_;rw[aP m,e3];show some (D.dT (nR c I (.raw (.ref a))))=_;unfold nR;rw[aM];intro z;obtain⟨q,hq,e⟩:=eO.mp z;exact g q hq (cB e)
  exact J7 hc S U.peek (.raw _) λo hr=>⟨B,_,a,.dT [],T,_,by rw[bT];exact C,wr o _ hr,h2 a,λg' f h H' u W d ⟨Q,O⟩=>(Y.1 _ h H' (by rw[bT];exact u) W (DS.putBack u d Q)).1 O⟩⟩
end
end L2
namespace Lw
open PySem L2
theorem Sq:(["out","into","known"]:List Str).Nodup:=by decide +kernel
theorem V2:(["out","into"]:List Str).Nodup:=by decide +kernel
theorem Yk (ds:List D) (ρ1:List Sl) (hι:∀ Ψ:List D->List Sl->Prop,Ψ ds ρ1->ι dk ρ Ψ) (Pv:Nat->D->List Sl->Prop) (h0:Pv 0 gh ρ1)
  (hs:∀ i d gh' ρ',ds[i]?=some d->Pv i gh' ρ'->g d ρ' λρ2=>tb dk a gh' (Pv (i+1)) ρ2) (hf:∀ gh' ρ',Pv ds.length gh' ρ'->nx gh' ρ'):Wb ι g tb dk a gh nx ρ:=hι _ ⟨Pv,h0,hs,hf⟩
theorem Iy (Q:List Sl->Prop) (h1:∀ N:List Sl->Prop,(∀ ρ',Q ρ'->N ρ')->t dk { nx:=N,rt:=λ_=>False } ρ) (h2:∀ ρ',Q ρ'->u dk a g nx ρ'):Qw (R4 t) u dk a g nx ρ:=h1 _ h2
theorem CF {κ:Type} [DecidableEq κ] {kvs:List (κ×D)}{k:κ}{d:D}(h:∀ p∈kvs,p.1≠k):mZ (kvs++[(k,d)]) k=some d:=by
 unfold mZ;rw[List.find?_append,List.find?_eq_none.mpr λp a=>by rw[dZ];exact h p a];simp
theorem Rz (h:(mI n)[i]?=some b) (hc:b∈(mI n).take i):False:=by
 obtain⟨j,d,c⟩:=gO hc;rw[bQ] at d;have e:(mI n)[j]?=some b:=by rw[List.getElem_take] at c;exact aU.mpr ⟨by omega,c⟩
 have a:j<(mI n).length:=by omega
 have:=(List.getElem?_inj a (Cg n)).mp (e.trans h.symm);omega
section
variable {P:Program}{K:mC}
theorem yN:FnScope ["row","weights","found","ins","carried","letter","bits","known","behind"] ["row","weights"] (nF Fe):=oW
theorem EH (F:Fun K "_law_steps" "_law_steps" Fe f fd) (T:Txt mg) (wF:Gd K mg "_law_words_of" Bw ["row"] fW fdW) (B6:FnOk P w K mg base mJ 1 fW fdW ["row"] (mQ K Im))
  (wX:Gd K mg "_law_rows" Cb ["many"] fR fdR) (Gn:FnOk P w K mg base mJ 1 fR fdR ["many"] (mQ K zP)) (Jn:Gd K mg "_law_all_bits" Ii ["cell","bits"] fA fdA) (Xb:FnOk P w K mg base mJ 2 fA fdA ["cell","bits"] (mQ K S7))
  (N8:Gd K mg "_law_own_sum" Fd ["row","weights","known","carried","letter"] fS fdS) (BS:FnOk P w K mg base mJ 2 fS fdS ["row","weights","known","carried","letter"] (mQ K P4)):FnOk P w K mg base mJ 3 f fd ["row","weights"] (mQ K Gs):=by
 refine F.okD (k:=2) yN (λdk ds Φ ⟨_,_,_,e,_⟩=>by rw[e];rfl) (by decide) λaj A aa s H E dk ds Φ V hR=>?_
 have B:=oX V;obtain⟨C,d,t,rfl,L,ab⟩:=hR;refine⟨_,(mF (mY (i:=2) yN.nd rfl (Or.inl rfl) Bx) (mF (mY (i:=3) yN.nd rfl (Or.inl rfl) (pY B (mV B6 (V.mono (by decide)) (by rfl) wF.m wF.k wF.b (aD (eA 0 (pv 0)) gV)) kD)) (mF (qU (m:=99) bM rfl (nS (mV Gn (V.mono (by decide)) (by rfl) wX.m wX.k wX.b (aD (oF qQ qR (by rfl) T.len bP (aD (mP B (pv 0) kD) gV)) gV))) (mM (i:=4) yN.nd rfl (Or.inl rfl)) (EI (n:=2) B Bx (pv 2) (eA 4 (pv 4)) (Ov (RP (m:=99) bM rfl (nS (mV Gn (V.mono (by decide)) (by rfl) wX.m wX.k wX.b (aD (oF qQ qR (by rfl) T.len bP (aD (eA 3 (pv 3)) gV)) gV))) (mM (i:=5) yN.nd rfl (Or.inl rfl)) (E9 (Gz (mY (i:=6) yN.nd rfl (Or.inl rfl) (Ci rfl (by rfl) T.dict (by rfl) T.zip (aD (pP ["out","into"] [] [] rfl (nS (mP B (pv 0) kD)) rfl rfl (λ_ _ _ _ _=>(sB (n:=2) rfl (nP (mM (i:=0) V2 rfl (Or.inl rfl)) (nP (mM (i:=1) V2 rfl (Or.inl rfl)) qS)))) (λ_ _ _ _ _=>pG) (λ_ _ _ _ _=>(eA 1 (pv 1)))) (aD (eA 4 (pv 4)) gV))))) (E9 (Gz (rW (qX jS PySem.F.slot_dict_update PySem.F.type_dict_update Qk Qb (pv 6) (aD (Ci rfl (by rfl) T.dict (by rfl) T.zip (aD (eA 3 (pv 3)) (aD (eA 5 (pv 5)) gV))) gV)))) (E9 (Gz (mY (i:=7) yN.nd rfl (Or.inr rfl) (mV Xb (V.mono (by decide)) (by rfl) Jn.m Jn.k Jn.b (aD (mP B (pv 0) kD) (aD (eA 6 (pv 6)) gV))))) (E9 (Gz (mY (i:=8) yN.nd rfl (Or.inl rfl) (pC tN tO (by rfl) T.tuple bU (aD (pP ["out","into"] ["known"] [7] rfl (nS (mP B (pv 0) kD)) rfl rfl (λ_ _ _ _ _=>(sB (n:=2) rfl (nP (mM (i:=0) Sq rfl (Or.inl rfl)) (nP (mM (i:=1) Sq rfl (Or.inl rfl)) qS)))) (λ_ _ _ _ _=>pG) (λ_ _ _ _ _=>(mP B (pv 2) (eA 0 (pv 0))))) gV)))) (Ov (Y4 B (oS (aD (eA 8 (pv 8)) (aD (mV BS (V.mono (by decide)) (by rfl) N8.m N8.k N8.b (aD (eA 0 (pv 0)) (aD (eA 1 (pv 1)) (aD (eA 7 (pv 7)) (aD (eA 4 (pv 4)) (aD (eA 5 (pv 5)) gV)))))) gV))) (mP B (pv 2) (eA 4 (pv 4))) (eA 5 (pv 5)))))))))))) (mW (nQ (zT 2 (pv 2))))))),?_⟩;have Y:=L.lp;have ag:=L.li;have af:=L.gc.lo;have l1:(mH C d).length<=C.ins.length:=cD _ _;have ai:=vP (show (mH C d).length<=6 by omega);have ae:=vP Y;have ah:=uU (mH C d).length;have ac:=uU d.length;refine mK (λo=>o=[.val (nA C d),.val (.dK (hO t)),.own (.dT []),.no,.no,.no,.no,.no,.no]) (λN z=>z _ rfl) ?_;rintro _ rfl;refine mK (λo=>o=[.val (nA C d),.val (.dK (hO t)),.own (.dT []),.val (.lst ((mH C d).map D.str)),.no,.no,.no,.no,.no]) (λN z=>?_) ?_
 ·exact⟨C,d,rfl,by omega,by omega,by omega,.inl rfl,_,rfl,z _ rfl⟩
 rintro _ rfl;refine mK (λo=>∃ Q v u r q,o=[.val (nA C d),.val (.dK (hO t)),.own (nM C d t),.val (.lst ((mH C d).map D.str)),Q,v,u,r,q]) (λN z=>?_) ?_
 ·refine rF ((mI d.length).map mE) [.val (nA C d),.val (.dK (hO t)),.own (.dT []),.val (.lst ((mH C d).map D.str)),.no,.no,.no,.no,.no] (λΨ h=>?_) (λi o=>∃ Q v u r q,o=[.val (nA C d),.val (.dK (hO t)),.own (.dT (((((mI d.length).take i)).map λc=>(c.map (Sum.inl:Int->hI),rN C d t c)))),.val (.lst ((mH C d).map D.str)),Q,v,u,r,q]) ⟨.no,.no,.no,.no,.no,rfl⟩ ?_ ?_
  ·exact⟨rfl,_,rfl,rfl,_,rfl,d.length,by rw[aA],Y,.inl rfl,h⟩
  ·rintro i x o hx ⟨Q,v,u,r,q,rfl⟩;obtain⟨c,hc,rfl⟩:=qH hx;obtain⟨cl,cb⟩:=uZ (aI hc);refine⟨rfl,((((mI d.length).take i)).map λc=>(c.map (Sum.inl:Int->hI),rN C d t c)),c.map D.int,c.map Sum.inl,rfl,Aw c,rfl,by rw[aA,bQ];omega,λp hp e=>?_,λa=>?_⟩
   ·obtain⟨c',S,rfl⟩:=aV.mp hp;have e:c'=c:=wN e;subst e;exact Rz hc S
   refine Yk ((mI (mH C d).length).map mE) [.val (nA C d),.val (.dK (hO t)),.own (.dT (((((mI d.length).take i)).map λc=>(c.map (Sum.inl:Int->hI),rN C d t c))++[(c.map (Sum.inl:Int->hI),.raw (.ref a))])),.val (.lst ((mH C d).map D.str)),.val (mE c),v,u,r,q] (λΨ h=>?_) (λj g o=>g = .dT (((mI (mH C d).length).take j).map λl=>(l.map (Sum.inl:Int->hI),wA C d t c l))/\∃ v u r q,o=[.val (nA C d),.val (.dK (hO t)),.own (.dT (((((mI d.length).take i)).map λc=>(c.map (Sum.inl:Int->hI),rN C d t c))++[(c.map (Sum.inl:Int->hI),.raw (.ref a))])),.val (.lst ((mH C d).map D.str)),.val (mE c),v,u,r,q]) ⟨rfl,v,u,r,q,rfl⟩ ?_ ?_
   ·exact⟨rfl,_,rfl,(mH C d).length,by rw[aA],by omega,.inl rfl,h⟩
   ·rintro j x g o hx ⟨rfl,v,u,r,q,rfl⟩;obtain⟨l,hl,rfl⟩:=qH hx;obtain⟨ll,lb⟩:=uZ (aI hl);obtain⟨ek,nd,hh⟩:=Ep L cl ll cb lb;obtain⟨U,Z⟩:∃ U,U=D.dT (((((mI d.length).take i)).map λc=>(c.map (Sum.inl:Int->hI),rN C d t c))++[(c.map (Sum.inl:Int->hI),.raw (.ref a))]):=⟨_,rfl⟩;rw[← Z];have M:sF C d c l=(d.map (·.2)).zip c++(mH C d).zip l:=by unfold sF;exact List.zip_append (by rw[List.length_map,cl])
    have Hz:(((d.map (·.2)).zip c).map (·.1)).Nodup:=by
     have:=nd;rw[M,aJ] at this;exact (bK.mp this).1
    have W:(((mH C d).zip l).map (·.1)).Nodup:=by
     have:=nd;rw[M,aJ] at this;exact (bK.mp this).2.1
    refine Iy (λo=>o=[.val (nA C d),.val (.dK (hO t)),.own U,.val (.lst ((mH C d).map D.str)),.val (mE c),.val (mE l),.own (.dK (hO ((d.map (·.2)).zip c))),r,q]) (λN z=>?_) ?_
    ·unfold rG dC aC;refine pZ d (λp=>D.tup [.str p.1,.str p.2]) (λp=>D.str p.2) [.val (nA C d),.val (.dK (hO t)),.own U,.val (.lst ((mH C d).map D.str)),.val (mE c),.val (mE l),u,r,q] (λΨ h=>⟨rfl,_,rfl,h⟩) (by omega) (λj y ys Nx e h1 h2=>⟨rfl,rfl,h1,h2⟩) ?_;have e0:(d.map λp=>D.str p.2)=(d.map (·.2)).map D.str:=by rw[aQ];rfl
     refine⟨false,true,_,_,(d.map (·.2)).map Sum.inr,rfl,rfl,by rw[e0];exact keysL_strs _,by rw[aA,aA];omega,?_⟩;have e3:((d.map (·.2)).map (Sum.inr:Str->hI)).zip (c.map D.int)=hO ((d.map (·.2)).zip c):=by unfold hO;rw[List.zip_map];rfl
     have k:=z _ rfl;rw[← Aq Hz,← e3] at k;exact k
    rintro _ rfl;refine Iy (λo=>o=[.val (nA C d),.val (.dK (hO t)),.own U,.val (.lst ((mH C d).map D.str)),.val (mE c),.val (mE l),.own (.dK (hO (sF C d c l))),r,q]) (λN z=>?_) ?_
    ·refine⟨rfl,false,true,_,_,(mH C d).map Sum.inr,rfl,rfl,keysL_strs _,by rw[aA];omega,?_⟩;have e3:((mH C d).map (Sum.inr:Str->hI)).zip (l.map D.int)=hO ((mH C d).zip l):=by unfold hO;rw[List.zip_map];rfl
     have le:(hO ((d.map (·.2)).zip c)).length+(hO ((mH C d).zip l)).length<=1000:=by
      unfold hO;rw[aA,aA,iB,iB];omega
     have k:=z _ rfl;rw[M,← Ki _ _ (by rw[← M];exact nd),← Aq W,← e3] at k;rw[← Aq W,← e3] at le;exact⟨le,k⟩
    rintro _ rfl;refine Iy (λo=>∃ O,sT O C.names (oG C d c l)/\o=[.val (nA C d),.val (.dK (hO t)),.own U,.val (.lst ((mH C d).map D.str)),.val (mE c),.val (mE l),.val (.dK (hO (sF C d c l))),.own (.dK O),q]) (λN z=>?_) ?_
    ·exact⟨rfl,_,rfl,C,_,_,rfl,L.gc,hh,λO I=>⟨.inl rfl,z _ ⟨O,I,rfl⟩⟩⟩
    rintro _ ⟨O,I,rfl⟩;refine Iy (λo=>o=[.val (nA C d),.val (.dK (hO t)),.own U,.val (.lst ((mH C d).map D.str)),.val (mE c),.val (mE l),.val (.dK (hO (sF C d c l))),.own (.dK O),.val (mE (d.map λp=>oG C d c l p.1))]) (λN z=>?_) ?_
    ·unfold rG dC aC;refine pZ d (λp=>D.tup [.str p.1,.str p.2]) (λp=>D.int (oG C d c l p.1)) _ (λΨ h=>⟨rfl,_,rfl,h⟩) (by omega) (λj y ys Nx e h1 h2=>?_) ?_
     ·refine⟨rfl,rfl,rfl,D.int (oG C d c l y.1),?_,h1,h2⟩;show some (mZ O (Sum.inr y.1))=_;rw[(I y.1 (L.gc.os _ (L.m y (aI e)).1)).1]
     ·have e4:mE (d.map λp=>oG C d c l p.1)=D.tup (d.map λp=>D.int (oG C d c l p.1)):=by unfold mE;rw[List.map_map];rfl
      have k:=z _ rfl;rw[e4] at k;exact k
    rintro _ rfl;refine⟨C,d,t,O,oG C d c l,c,l,rfl,L,I,by omega,by omega,cb,lb,.inl rfl,by show 2<=1000;decide,?_⟩;rw[ON L t cl ll cb lb];subst Z;refine⟨rfl,D.raw (.ref a),?_,rfl,_,J9 hl (wA C d t c) (by omega),rfl,_,_,_,_,rfl⟩;show (tM (c.map D.int)).map _=_;rw[Aw,jN,CF λp hp e=>?_];obtain⟨c',S,rfl⟩:=aV.mp hp;have e:c'=c:=wN e;subst e;exact Rz hc S
   ·rintro g o ⟨rfl,v,u,r,q,rfl⟩;rw[aA,cI];refine⟨rfl,.val (mE c),v,u,r,q,?_⟩;rw[bS,hc,aJ];rfl
  ·rintro o ⟨Q,v,u,r,q,rfl⟩;rw[aA,cI];exact z _ ⟨Q,v,u,r,q,rfl⟩
 rintro _ ⟨Q,v,u,r,q,rfl⟩;exact ab
end
end Lw
namespace L2
open PySem PySem.Spec PyProof.Rows Lw
structure YS (K:mC) (J:It) (ds:List D) (S:Hp->Prop):Prop where
 go:∀ i H,i<ds.length->S H->J.go i H
 yld:∀ i H x H',i<ds.length->S H->J.yld i H x H'->∃ d,ds[i]?=some d/\H'=H/\∀ A,Rep K A H d x
 stop:∀ i H,i=ds.length->S H->J.stop i H
def K0 (te:nI):vX:=λdk ρ Ψ=>te dk ρ λr ρ'=>match r with
 | .val (.dT kvs)=>Ψ (rK kvs) ρ'
 | _=>False
def Rr (X:Cx) (tl:TE):TI:=λσ H R=>tl σ H λx H1=>∃ a kvs,x = .ref a/\((H1 a=some (.dT kvs)/\∀ o,(∀ ob u,X.H₀ a≠some (.frz ob u))->R (xZ a o kvs) (upd H1 a (.frz o (.dT kvs))))\/∃ o,H1 a=some (.frz o (.dT kvs))/\R (xZ a o kvs) H1)
section
variable {X:Cx}
theorem T7 (hl:PE X l tl):PI X tg l (Rr X tl):=by
 intro c s m H R I h;refine mR (hl c s m H _ I h) λv f ⟨x,C,k,r,a,d,e,alt⟩=>?_
 subst e;cases r;obtain⟨o,i,j,g,q⟩:∃ o i,Inv X c m i f/\i a=some (.frz o (.dT d))/\R (xZ a o d) i:=by
  rcases alt with⟨g,q⟩ | ⟨o,g,q⟩
  ·obtain⟨o,t⟩:∃ o,f.heap.get? a=some o:=by
    obtain⟨_,_,_,_,o,_,_,e,_⟩:=(show oI X.prog X.w C f.heap a (.dT d) from k.hok a _ g);exact⟨o,e⟩
   exact⟨o,_,k.frozen g t,mT,q o λp u e=>by
    have:=k.base.frzs a p u e;rw[g] at this;cases this⟩
  ·exact⟨o,_,k,g,q⟩
 obtain⟨z,B,raw,sz,_⟩:=Le j.hok g;have fp:∀ b∈[f.heap.objs.size],uA X c i b:=λb y=>by
  have e:b=f.heap.objs.size:=by simpa using y
  subst e;exact j.fpOk (aZ _) (j.hok.fresh (aZ _))
 refine Kq raw ⟨f.heap.objs.size,[f.heap.objs.size],_,xZ a o d,i,rfl,j.kept (t':=f.toks) λb p q=>aE _ q,JX a _ o d,⟨B,⟨z,raw.dat⟩,?_⟩,fp,q⟩;exact⟨_,bB _ rfl,rfl,by rw[sz];rfl⟩
def thawQ (X:Cx) (Q:Hp->Prop) (H:Hp):Prop:=Q H\/∃ a o kvs,H a=some (.frz o (.dT kvs))/\(∀ ob u,X.H₀ a≠some (.frz ob u))/\Q (upd H a (.dT kvs))
theorem Inv.thawQ (I:Inv X pins σ H s) (h:L2.thawQ X Q H):∃ H',Inv X pins σ H' s/\Q H':=by
 rcases h with h | ⟨a,o,b,c,d,h⟩
 ·exact⟨H,I,h⟩
 ·exact⟨_,I.thawed c d,h⟩
theorem JV (h:PE X e t):PE X e (λσ H Q=>t σ H λv=>thawQ X (Q v)):=λa s σ H Q I q=>by
 refine mR (h a s σ H _ I q) λv j ⟨x,k,g,b,d⟩=>?_
 obtain⟨i,f,c⟩:=g.thawQ d;exact⟨x,i,f,b,c⟩
def Ends.thawQ (X:Cx) (D:Ends):Ends where
 nx:=λσ=>L2.thawQ X (D.nx σ)
 rt:=λv=>L2.thawQ X (D.rt v)
 bk:=λσ=>L2.thawQ X (D.bk σ)
 ct:=λσ=>L2.thawQ X (D.ct σ)
theorem NG {st:Stmt}(h:PS X st t):PS X st (λD σ H=>t (D.thawQ X) σ H):=λg s σ H D I q=>by
 refine mR (h g s σ H _ I q) λf k q=>?_
 cases f with
 | next=>obtain⟨a,j,e,c⟩:=q;obtain⟨i,d,b⟩:=e.thawQ c;exact⟨a,_,d,b⟩
 | brk=>obtain⟨a,j,e,c⟩:=q;obtain⟨i,d,b⟩:=e.thawQ c;exact⟨a,_,d,b⟩
 | cont=>obtain⟨a,j,e,c⟩:=q;obtain⟨i,d,b⟩:=e.thawQ c;exact⟨a,_,d,b⟩
 | ret u=>obtain⟨v,a,j,e,r,c⟩:=q;obtain⟨i,d,b⟩:=e.thawQ c;exact⟨v,a,_,d,r,b⟩
theorem Lr {K:mC}(ek:kvs.map (·.1)=kvv.map (·.1)):YS K (xZ a o kvv) (rK kvs) λH=>H a=some (.frz o (.dT kvv)):=by
 have e:(rK kvs).length=kvv.length:=by
  have:=cV List.length ek;unfold rK
  simpa using this
 refine⟨λi H c d=>⟨d,by rw[← e];exact c⟩,?_,λi H c d=>⟨d,by rw[c,e]⟩⟩;rintro i H x j c d ⟨rfl,k,w,p,h,rfl,g⟩;refine⟨.tup (k.map Eb),?_,rfl,λA=>.tup g (Mu k)⟩;have b:(kvv.map (·.1))[i]?=some k:=by rw[aX,h];rfl
 rw[← ek,aX] at b;unfold rK;rw[aX];cases f:kvs[i]? with
 | none=>rw[f] at b;cases b
 | some p=>rw[f] at b;cases b;rfl
theorem S8 {T:List Str}{caps:List Nat}{g:vA}{tt:sO}{te:nI}{K:mC}(hcap:caps.Nodup){σ:St}{H1:Hp}{Q:VK}{B:Bs}{ρ1:List Sl}{Tm:oK}{Φ:Sl->List Sl->Prop}{J:It}{ds:List L2.D}{S:Hp->Prop}{D:Addr}(l1:ρ1.length=σ.length) (d1:DS K B (ρ1.zip σ++Tm) H1) (Y:YS K J ds S)
  (hS:∀ D,H1 D=none->∀ ys L H,DS K (nG B D ys) L H->S H)
  (hPv:∃ Pv:Nat->List L2.D->List Sl->Prop,Pv 0 [] (oQ caps ρ1) /\ (∀ i d ys cs,ds[i]?=some d->cs.length=caps.length->Pv i ys cs->g d (List.replicate T.length Sl.no++cs) λρ2=>tt B.dk ρ2 λb ρ3=>if b=true then te B.dk ρ3 λr ρ4=>match sd r with
    | some c=>ys.length<100000/\Pv (i+1) (ys++[c]) (ρ4.drop T.length)
    | none=>False
    else Pv (i+1) ys (ρ3.drop T.length)) /\
   ∀ ys cs,cs.length=caps.length->Pv ds.length ys cs->Φ (.own (.lst ys)) (pS caps cs ρ1))
  (k:∀ r ρ' v H',ρ'.length=σ.length->DS K B (ρ'.zip σ++(r,some v)::Tm) H'->Φ r ρ'->Q v H') (hD:H1 D=none):B1 T caps J (dG K T.length g) (uM K tt) (dE K te) σ H1 Q D:=by
 obtain⟨Pv,p0,step,fin⟩:=hPv;obtain⟨f1,f2,f3⟩:=d1.free hD;refine⟨λi m ys l H'=>m=ds.length-i/\i<=ds.length/\l.length=T.length+caps.length/\(∀ j,T.length<=j->l[j]?=(qB T caps σ)[j]?)/\∃ (h:List L2.D) (cs:List Sl),cs.length=caps.length/\h.length=ys.length /\ DS K (nG B D ys) ((List.replicate T.length Sl.no++cs).zip l++((nY caps ρ1).zip σ++(oD h ys++Tm))) H'/\Pv i h cs,?_,?_⟩
 ·refine⟨_,rfl,cO _,by simp[qB],λ_ _=>rfl,[],oQ caps ρ1,by simp[oQ],rfl,?_,p0⟩;have h2:=(d1.lend hcap l1).pin hD;have e:(List.replicate T.length Sl.no++oQ caps ρ1).zip (qB T caps σ)=List.replicate T.length (Sl.no,none)++(oQ caps ρ1).zip (pM caps σ):=by
   have:∀ n,(List.replicate n Sl.no++oQ caps ρ1).zip (List.replicate n none++pM caps σ)=List.replicate n (Sl.no,none)++(oQ caps ρ1).zip (pM caps σ):=by
    intro n;induction n with
    | zero=>rfl
    | succ n ih=>simp only[cQ,cS,cN,ih]
   have e2:qB T caps σ=List.replicate T.length none++pM caps σ:=by unfold qB pM;rw[List.map_const']
   rw[e2];exact this _
  rw[e];have h3:DS K (nG B D []) ((oQ caps ρ1).zip (pM caps σ)++((nY caps ρ1).zip σ++Tm)) (upd H1 D (.lst [])):=h2.perm (by
   rw[← bJ,← bJ (as:=(oQ caps ρ1).zip (pM caps σ))];exact iW.append_right _)
  have:∀ n,DS K (nG B D []) (List.replicate n (Sl.no,none)++((oQ caps ρ1).zip (pM caps σ)++((nY caps ρ1).zip σ++Tm))) (upd H1 D (.lst [])):=by
   intro n;induction n with
   | zero=>exact h3
   | succ n ih=>rw[cQ];exact DS.pushN (L1:=[]) ih none
  have e3:oD ([]:List L2.D) ([]:List V)=[]:=rfl;rw[e3]
  simpa using this T.length
 ·rintro i m ys l H' ⟨rfl,hi,ls,fs,h,cs,I,C,N,pv⟩;have z:S H':=hS D hD _ _ _ N;by_cases t:i<ds.length
  ·refine .inr ⟨Y.go i H' t z,λf v H5=>f.length=T.length+caps.length/\(∀ j,T.length<=j->f[j]?=(qB T caps σ)[j]?)/\ys.length<100000/\∃ (c:L2.D) (ρ4:List Sl),ρ4.length=f.length/\DS K (nG B D ys) (ρ4.zip f++(.val c,some v)::((nY caps ρ1).zip σ++(oD h ys++Tm))) H5/\Pv (i+1) (h++[c]) (ρ4.drop T.length),λf H4=>f.length=T.length+caps.length/\(∀ j,T.length<=j->f[j]?=(qB T caps σ)[j]?)/\∃ ρ4:List Sl,ρ4.length=f.length/\DS K (nG B D ys) (ρ4.zip f++((nY caps ρ1).zip σ++(oD h ys++Tm))) H4/\Pv (i+1) h (ρ4.drop T.length),?_,?_,λx H2 y=>?_⟩
   ·rintro f v H5 ⟨q1,Z,W,c,ρ4,F,o,U⟩;refine⟨o.pinAt f2,bI W (by decide),ds.length-(i+1),by omega,rfl,t,q1,Z,h++[c],ρ4.drop T.length,by rw[cW];omega,by simp[C],?_,U⟩;have w1:=(o.pinW (ys':=ys++[v]) f2).forget T.length F (by omega);refine w1.perm (gA _ ?_);have ev:oD (h++[c]) (ys++[v])=oD h ys++[(.val c,some v)]:=by unfold oD;rw[List.zip_append C,List.map_append];rfl
    rw[ev];have p1:((Sl.val c,some v)::((nY caps ρ1).zip σ++(oD h ys++Tm))).Perm ((nY caps ρ1).zip σ++(oD h ys++((Sl.val c,some v)::Tm))):=by
     rw[← bJ,← bJ (as:=(nY caps ρ1).zip σ)];exact eW.symm
    simpa using p1
   ·rintro f H4 ⟨q1,Z,ρ4,F,o,U⟩;exact⟨ds.length-(i+1),by omega,rfl,t,q1,Z,h,ρ4.drop T.length,by rw[cW];omega,C,o.forget T.length F (by omega),U⟩
   ·obtain⟨d,aa,rfl,rx⟩:=Y.yld i H' x H2 t z y;have d2:DS K (nG B D ys) ((List.replicate T.length Sl.no++cs).zip l++(.val d,some x)::((nY caps ρ1).zip σ++(oD h ys++Tm))) H2:=by
     exact N.push (rx _)
    refine⟨nG B D ys,_,_,d,_,by simp[I,ls],d2,step i d h cs aa I pv,λρ2 f H3 n1 n2 fr d3 W=>⟨nG B D ys,ρ2,_,_,n1,d3,W,λb ρ3 H4 m1 d4 F=>?_⟩⟩;have M:∀ j,T.length<=j->f[j]?=(qB T caps σ)[j]?:=λj O=>(fr j O).trans (fs j O)
    cases b with
    | false=>exact pT ⟨by omega,M,ρ3,m1,d4,(aM (by decide)).mp F⟩
    | true =>
     refine (aP rfl).mpr ⟨nG B D ys,ρ3,_,_,m1,d4,(aP rfl).mp F,λr ρ4 v H5 m4 d5 o=>?_⟩;cases e1:sd r with
     | none=>rw[e1] at o;exact o.elim
     | some c =>
      rw[e1] at o;exact⟨by omega,M,by rw[← C];exact o.1,c,ρ4,m4,d5.thaw e1,o.2⟩
  ·have ei:i=ds.length:=by omega
   subst ei;refine .inl ⟨Y.stop _ H' rfl z,?_⟩;have es:l=l.take T.length++pM caps σ:=by
    apply iZ;intro j;by_cases O:j<T.length
    ·rw[hV (by rw[bQ];omega),jF O]
    ·rw[dF (by rw[bQ];omega),bQ,fs j (by omega)];have e2:qB T caps σ=List.replicate T.length none++pM caps σ:=by unfold qB pM;rw[List.map_const']
     rw[e2,dF (by rw[dD];omega),dD]
     congr 1
     omega
   have ez:(List.replicate T.length Sl.no++cs).zip l=(List.replicate T.length Sl.no).zip (l.take T.length)++cs.zip (pM caps σ):=by
    conv=>lhs;rw[es]
    exact jM (by rw[dD,bQ];omega)
   have rr:Reps K (Al (nG B D ys) (mD ((pS caps cs (nY caps ρ1)).zip σ++Tm))) H' h ys/\DS K (nG B D ys) ((pS caps cs (nY caps ρ1)).zip σ++Tm) H':=by
    have g1:DS K (nG B D ys) (cs.zip (pM caps σ)++((nY caps ρ1).zip σ++(oD h ys++Tm))) H':=by
     rw[ez,bJ] at N;exact DS.rmE (L:=[]) (E:=(List.replicate T.length Sl.no).zip (l.take T.length)) N
    have g2:DS K (nG B D ys) ((nY caps ρ1).zip σ++(cs.zip (pM caps σ)++(oD h ys++Tm))) H':=g1.perm (by
     rw[← bJ,← bJ (as:=(nY caps ρ1).zip σ)];exact iW.append_right _)
    have g3:=g2.back I (by rw[Ex];exact l1);have g4:DS K (nG B D ys) ((pS caps cs (nY caps ρ1)).zip σ++(oD h ys++Tm)) H':=g3;refine⟨?_,g4.rmE⟩;have er:mD ((pS caps cs (nY caps ρ1)).zip σ++(oD h ys++Tm))=mD ((pS caps cs (nY caps ρ1)).zip σ++Tm):=by
     have:mD (oD h ys)=[]:=by
      refine gC.mpr λa ha=>?_
      obtain⟨q,hq,e⟩:=uR.mp ha;obtain⟨p,_,rfl⟩:=aV.mp hq;cases e
     rw[rP,rP,rP,this,gI]
    have key:∀ p∈oD h ys,tD K (Al (nG B D ys) (mD ((pS caps cs (nY caps ρ1)).zip σ++Tm))) H' p.1 p.2:=λp hp=>by
     have:=g4.ok p (by simp[hp]);rw[er] at this;exact this
    clear g1 g2 g3 g4 er N z ez es;revert key C;generalize Al (nG B D ys) (mD ((pS caps cs (nY caps ρ1)).zip σ++Tm))=AA;intro C key;exact Oo C key
   have u:=DS.unpin rr.2 rr.1 f1 f2;rw[P2 caps cs ρ1 I hcap] at u;exact k _ _ _ H' (by rw[Lv];exact l1) u.mid (fin h cs I pv)
end
section
variable {X:Cx}
theorem DS.known2 {K:mC}(d:DS K B (L++(.val (.dT kvs),some v)::T) H) :
  ∃ a kvv,v = .ref a/\kvs.map (·.1)=kvv.map (·.1)/\a∉B.dk /\
   ((H a=some (.dT kvv)/\∀ o,DS K (qO B a o kvv) (L++T) (upd H a (.frz o (.dT kvv)))/\∀ L' H',DS K (qO B a o kvv) L' H'->DS K B L' (upd H' a (.dT kvv))) \/ ∃ o,H a=some (.frz o (.dT kvv))/\DS K (qO B a o kvv) (L++T) H/\∀ L' H',DS K (qO B a o kvv) L' H'->DS K B L' H'):=by
 have hd:=d.drop;have rep:=d.valAt;obtain⟨a,kvv,rfl,al,rd,i,j⟩:=rep.dT_inv;have f:=al.1;refine⟨a,kvv,rfl,i,f,?_⟩;rcases rd with c | ⟨h,c⟩
 ·refine .inl ⟨c,λo=>⟨hd.fz (o:=o) ⟨λb n=>mO n,.inl c,.inr ⟨o,mT⟩⟩ mT al,λL' H' g=>g.th ⟨λb n=>mO n,.inr ⟨o,g.known f⟩,.inl mT⟩ f (λu e=>?_) al.2.2⟩⟩;have:=hd.fr a u e f;rw[c] at this;rw[mT];exact this
 ·refine .inr ⟨h,c,hd.fz ⟨λ_ _=>rfl,.inr ⟨h,c⟩,.inr ⟨h,c⟩⟩ c al,λL' H' g=>g.th ⟨λ_ _=>rfl,.inr ⟨h,g.known f⟩,.inr ⟨h,g.known f⟩⟩ f (λu e=>?_) al.2.2⟩;have:=hd.fr a u e f;rw[c] at this;rw[g.known f];exact this
theorem Vh {K:mC}{B:Bs}{a D:Addr}{o:Obj}{kvv:List (List hI×V)}{ys:List V}{L:oK}{H H1:Hp}(dn:a∉B.dk) (ha:H1 a=some (.frz o (.dT kvv))) (hD:H1 D=none) (d:DS K (nG (qO B a o kvv) D ys) L H):H a=some (.frz o (.dT kvv)):=by
 have ne:a≠D:=λz=>by rw[z,hD] at ha;cases ha
 refine d.fr a _ ?_ dn;show (if a=D then some (.lst ys) else if a=a then some (HO.frz o (.dT kvv)) else B.H0 a)=_;rw[aM ne,aP rfl]
theorem CL (hcap:caps.Nodup) (h:dE X.K (uF T.length caps (K0 ti) g tt te) σ H Q) :
  zM T caps (Rr X (dE X.K ti)) (dG X.K T.length g) (uM X.K tt) (dE X.K te) σ H λv=>thawQ X (Q v):=by
 obtain⟨B,u,Tm,N,E,hd,C,k⟩:=h;refine⟨B,u,Tm,_,E,hd,C,λr t v O p d1 j=>?_⟩;cases r<;>first | exact False.elim j | skip
 rename_i d
 cases d<;>first | exact False.elim j | skip
 rename_i y
 obtain⟨a,b,rfl,q,m,alt⟩:=d1.known2;refine⟨a,b,rfl,?_⟩;rcases alt with⟨i,F⟩ | ⟨o,i,d2,back⟩
 ·refine .inl ⟨i,λo I D e=>?_⟩;obtain⟨d2,back⟩:=F o;exact S8 (B:=qO B a o b) hcap p d2 (Lr q) (λD e x L H d=>Vh m mT e d) j (λr c v M l f z=>.inr ⟨a,o,b,f.known m,I,k r c v _ l (back _ _ f) z⟩) e
 ·refine .inr ⟨o,i,λD e=>?_⟩;exact S8 (B:=qO B a o b) hcap p d2 (Lr q) (λD e x L H d=>Vh m i e d) j (λr c v M l f z=>.inl (k r c v _ l (back _ _ f) z)) e
theorem E4 {iter:Expr}(T capN:List Str) (caps:List Nat) (hc:X.calm=true) (hi:PD X iter ti)
  (hk:scope.kind = .function) (ho:Dg X.N X.env.kindOf scope T capN caps=true)
  (hg:∀ s₀ H₀ C cl fp,vM (uC X (T++capN) scope cl C s₀ H₀ fp) T.length tg g)
  (ht:∀ s₀ H₀ C cl fp,vF (uC X (T++capN) scope cl C s₀ H₀ fp) ifs (uM X.K tt))
  (he:∀ s₀ H₀ C cl fp,PD (uC X (T++capN) scope cl C s₀ H₀ fp) elt te)
  (hcap:caps.Nodup:=by decide) (hs:∀ x,foldedSetIterable iter X.env x=pure x:=by intro _;rfl):PD X (.ListComp elt [⟨tg,iter,ifs,0⟩] scope pos) (uF T.length caps (K0 ti) g tt te) :=
 (JV (An T capN caps hc (T7 hi) hk ho hg ht he hs)).mono λ_ _ _ h=>CL hcap h
theorem T3 {iter:Expr}(hp:PassesOwn (model X.prog X.w) X.A X.env X.xe) (hc:X.calm=true) (hi:PD X iter ti) (hg:vM X m tg g) (hb:vN X body tb)
  (hs:∀ x,foldedSetIterable iter X.env x=pure x:=by intro _;rfl):uG X (.For tg iter body [] pos) (Jc (K0 ti) g tb) :=
 (NG (Af hp hc (T7 hi) hg hb hs)).mono λDn L H ab=>ab.elim λB ρ T De hl hd ht S=>by
  refine⟨B,ρ,T,_,hl,hd,ht,λr M v H1 l1 d1 h1=>?_⟩;cases r<;>first | exact False.elim h1 | skip
  rename_i d
  cases d<;>first | exact False.elim h1 | skip
  rename_i q
  obtain⟨Pv,p0,step,fin⟩:=h1;obtain⟨a,e,rfl,ek,dn,alt⟩:=d1.known2;have Y:∀ o,_:=λo=>Lr (K:=X.K) (a:=a) (o:=o) ek
  have C:∀ (o:Obj) (l:Ends) (E:Hp),DS X.K (qO B a o e) (M.zip L++T) E->(∀ (c:List Sl) (b:St) (f:Hp),c.length=b.length->b.length=L.length->DS X.K (qO B a o e) (c.zip b++T) f->De.nx c->l.nx b f) ->
    (∀ (r:Sl) (v:V) (c:List Sl) (b:St) (f:Hp),c.length=b.length->DS X.K (qO B a o e) (c.zip b++(r,some v)::T) f->De.rt r->l.rt v f) ->
    ∃ W:Nat->Nat->St->Hp->Prop,(∃ m,W 0 m L E)/\∀ i n b f,W i n b f->((xZ a o e).stop i f/\l.nx b f)\/((xZ a o e).go i f/\∃ N:St->Hp->Prop,(∀ u t,N u t->∃ m',m'<n/\W (i+1) m' u t)/\∀ x t,(xZ a o e).yld i f x t->dG X.K m g x b t λh H3=>dS X.K tb { nx:=N,ct:=N,bk:=l.nx,rt:=l.rt } h H3):=λo l E d0 O aa=>by
   refine⟨λi m b f=>m=(rK q).length-i/\i<=(rK q).length/\∃ c,c.length=b.length/\b.length=L.length/\DS X.K (qO B a o e) (c.zip b++T) f/\Pv i c,⟨_,rfl,cO _,M,l1,rfl,d0,p0⟩,?_⟩;rintro i m b f ⟨rfl,ae,c,m1,m2,d',pv⟩;have hk:=d'.known dn;by_cases I:i<(rK q).length
   ·refine .inr ⟨(Y o).go i f I hk,λh E=>∃ j,j.length=h.length/\h.length=L.length/\DS X.K (qO B a o e) (j.zip h++T) E/\Pv (i+1) j,λh E ⟨j,q1,q2,Z,q4⟩=>⟨_,(by omega:(rK q).length-(i+1)<_),rfl,I,j,q1,q2,Z,q4⟩,λx E y=>?_⟩;obtain⟨d,ac,rfl,rx⟩:=(Y o).yld i f x E I hk y;refine⟨qO B a o e,c,T,d,_,m1,d'.push (rx _),step i d c ac pv,λj h H3 n1 n2 _ d3 Z=>⟨qO B a o e,j,T,_,n1,d3,Z,?_,?_⟩⟩
    ·intro p F H4 k U Q;exact⟨λz=>⟨p,k,by omega,Q,z⟩,λz=>O p F H4 k (by omega) Q z,λz=>⟨p,k,by omega,Q,z⟩⟩
    ·exact λr v p F H4 k Q z=>aa r v p F H4 k Q z
   ·have ei:i=(rK q).length:=by omega
    subst ei;exact .inl ⟨(Y o).stop _ f rfl hk,O c b f m1 m2 d' (fin c pv)⟩
  refine⟨a,e,rfl,?_⟩;rcases alt with⟨ha,hh⟩ | ⟨o,ha,d2,back⟩
  ·refine .inl ⟨ha,λo h0=>?_⟩;obtain⟨d2,back⟩:=hh o;exact C o _ _ d2 (λc b f k U d z=>.inr ⟨a,o,e,d.known dn,h0,(S.1 c b _ k U (back _ _ d)).1 z⟩) λr v c b f k d z=>.inr ⟨a,o,e,d.known dn,h0,S.2 r v c b _ k (back _ _ d) z⟩
  ·exact .inr ⟨o,ha,C o _ _ d2 (λc b f k U d z=>.inl ((S.1 c b _ k U (back _ _ d)).1 z)) λr v c b f k d z=>.inl (S.2 r v c b _ k (back _ _ d) z)⟩
end
end L2
namespace L2
open PySem PySem.W PySem.Spec PyProof.Rows Lw
def rM {α:Type}(n:Nat) (R:α->Prop):KasT α->Prop
 | .ret a=>R a
 | .ask i j k=>i<n/\j<n/\∀ b,rM n R (k b)
theorem rM.bind {R:α->Prop}{S:β->Prop}(hf:∀ a,R a->rM n S (f a)):∀ {t:KasT α},rM n R t->rM n S (t.bind f)
 | .ret a,h=>hf a h
 | .ask i j k,⟨e,d,c⟩=>⟨e,d,λb=>rM.bind hf (c b)⟩
theorem rM.wp {R:α->Prop}(hc:∀ i j (C:Bool->Shared->Prop),i<n->j<n->(∀ b,C b s)->cmp i j C s) (hG:∀ a,R a->G a s):∀ {t:KasT α},rM n R t->t.kasWp cmp G s
 | .ret a,h=>hG a h
 | .ask i j k,⟨e,d,c⟩=>hc i j _ e d λb=>rM.wp hc hG (c b)
def Rg (n:Nat) (p:Array Nat):Prop:=p.Perm (List.toArray (List.range n))
section
theorem Rg.lt (h:Rg n p) (hn:0<n) (i:Nat):p.getD i 0<n:=by
 by_cases b:i<p.size
 ·have e:p.getD i 0=p[i]:=by simp[Array.getD,b]
  rw[e];have:=(h.mem_iff (a:=p[i])).mp (Array.getElem_mem b)
  simpa using this
 ·have e:p.getD i 0=0:=by simp[Array.getD,b]
  rw[e];exact hn
theorem Rg.rev (h:Rg n p) (i j:Nat):Rg n (kas_rev p i j):=(mirror_perm _ _ _ _).trans h
theorem Rg.bub (h:Rg n p) (i j:Nat):Rg n (bubble p i j):=(bubble_perm _ _ _).trans h
theorem Ju (h:Rg n p) (hn:0<n):∀ f m,rM n (λ_=>True) (kas_asc p f m)
 | 0,m=>trivial
 | f+1,m=>⟨h.lt hn _,h.lt hn _,λb=>by cases b<;>first | exact trivial | exact Ju h hn f (m+1)⟩
theorem Hk (hn:0<n):∀ f (p:Array Nat) m q,Rg n p->rM n (λr=>Rg n r.1) (kas_desc f p m q)
 | 0,p,m,q,h=>h
 | f+1,p,m,q,h=>⟨h.lt hn _,h.lt hn _,λb=>by
  cases b with
  | true =>
   show rM n _ (if q>0 then _ else _);by_cases a:q>0
   ·rw[aP a];exact Hk hn f _ _ _ (h.rev _ _)
   ·rw[aM a];exact Hk hn f _ _ _ h
  | false=>exact⟨h.lt hn _,h.lt hn _,λb=>by cases b<;>first | exact h | exact Hk hn f _ _ _ h⟩⟩
theorem Q4 (hn:0<n) (h:Rg n p) (m r:Nat):rM n (λq=>Rg n q.2) (kas_tail3 m r p):=rM.bind (S:=λq:Nat×Array Nat=>Rg n q.2) (f:=λa=>.ret (a,kas_rev p 0 m)) (λ_ _=>h.rev 0 m) (Ju (h.rev 0 m) hn _ _)
theorem Pr (hn:0<n) (h:Rg n p) (m r:Nat):rM n (λq=>Rg n q.2) (kas_descPart m r p):=(Hk hn _ _ _ _ h).bind λq b=>by
 by_cases a:q.2.2>0
 ·rw[aP a];exact Q4 hn (Rg.rev b _ _) _ _
 ·rw[aM a];exact Q4 hn b _ _
theorem AR (hn:0<n) (h:Rg n p) (r:Nat):rM n (λq=>Rg n q.2) (kas_count r p):=(Ju h hn _ _).bind λm _=>by
 by_cases c:(m == r)=true
 ·rw[aP c];exact h
 ·rw[aM c];by_cases a:m>1
  ·rw[aP a];exact⟨h.lt hn _,h.lt hn _,λb=>by cases b<;>first | exact h | exact Pr hn (h.rev _ _) _ _⟩
  ·rw[aM a];exact Pr hn h _ _
theorem Tg (hn:0<n) (h:Rg n p) (k:Nat):∀ f l r,rM n (λ_=>True) (kas_place p k f l r)
 | 0,_,_=>trivial
 | f+1,l,r=>by
  show rM n _ (if l>=r then _ else _);by_cases a:l>=r
  ·rw[aP a];exact trivial
  ·rw[aM a];exact⟨h.lt hn _,h.lt hn _,λb=>by cases b<;>exact Tg hn h k f _ _⟩
theorem Wm (hn:0<n):∀ f (p:Array Nat) k,Rg n p->rM n (Rg n) (kas_bin f p k)
 | 0,_,_,h=>h
 | f+1,p,k,h=>(Tg hn h k _ _ _).bind λ_ _=>Wm hn f _ _ (h.bub _ _)
theorem Zc (hn:0<n):rM n (Rg n) (kas_sort n):=(AR hn (Array.Perm.refl _) _).bind λr h=>by
 by_cases a:r.1<n
 ·rw[aP a];exact Wm hn _ _ _ h
 ·rw[aM a];exact h
end
theorem MM (h:Rg vs.length p):(p.toList.map λi=>vs.getD i Value.none).Perm vs:=by
 have b:p.toList.Perm (List.range vs.length):=by have:=h;unfold Rg at this;simpa using this.toList
 refine (b.map _).trans ?_;have:(List.range vs.length).map (λi=>vs.getD i Value.none)=vs:=by
  apply iZ;intro i;rw[aX];by_cases a:i<vs.length
  ·rw[List.getElem?_range a];simp[a]
  ·rw[fZ (by simpa using Nat.le_of_not_lt a),fZ (by omega)];rfl
 rw[this]
section
theorem NJ {P:PySem.Fin->Shared->Prop}(ho:s.heap.get? a=some (seqObj "list" vs.toArray n)) (h64:vs.length<64)
  (hk:2<=vs.length->∃ κ,∀ s':Shared,(∀ b o,b≠a->s.heap.get? b=some o->s'.heap.get? b=some o)->(∀ (Q:SortKind->Shared->Prop) E,Q κ s'->wpAny (model prog w) A (keyKind' vs.toArray) Q E s') /\ ∀ i j (C:Bool->Shared->Prop),i<vs.length->j<vs.length->(∀ b,C b s')->kas_ask prog w A κ vs i j C s')
  (h:∀ (out:List Value) (h':Heap) (c:Nat),out.Perm vs->h'.get? a=some (seqObj "list" out.toArray c)->(∀ b o,b≠a->s.heap.get? b=some o->h'.get? b=some o)->P (.done (.ret .none)) { s with heap:=h' }) :
  wpAny (model prog w) A (Builtin.«list.sort» ⟨[.ref a],[]⟩) P E s:=by
 have line:vs.length<=sizeLine:=by rw[kM];omega
 have L:=aY ho;let y:=s.heap.update a (Obj.mapSeq λ_=>(#[]:Array Value));let f:=(y.push (seqObj "tuple" vs.toArray 0)).push (seqObj "list" #[] 0);obtain⟨q,x⟩:∃ q,y.get? a=some (seqObj "list" #[] q):=⟨_,get?_update_seq ho λ_=>#[]⟩;have r:f.get? a=some (seqObj "list" #[] q):=aE _ (aE _ x);have old:∀ b o,b≠a->s.heap.get? b=some o->f.get? b=some o:=λb o m e=>aE _ (aE _ (((gR s.heap a _).2 b m).trans e))
 have last:∀ (st:SortSt) (out:List Value),(arrOf st).map (·.2)=out.toArray->failedOf st=none->out.Perm vs ->
   wpAny (model prog w) A (do
    let d:=(← seqEpoch a) != q
    Builtin.List.listUpdate (.ref a) λ_=>(arrOf st).map (·.2)
    if let some e:=failedOf st then rule "list.sort.comparison-raised";throw e
    if d then rule "list.sort.modified";raiseError "ValueError" "list modified during sort"
    ret .none) P E { s with heap:=f }:=λst out F H l=>by
  have lo:out.length<=sizeLine:=by rw[l.length_eq];exact line
  rw[F,H];refine aB (seqEpoch_at r rfl (aB (listUpdate_at r rfl ?_ (cO _) (by show out.toArray.size<=_;rw[aW];omega))));simp only[bne_self_eq_false,eI,gX];exact aF (h out _ _ l (get?_update_seq r λ_=>out.toArray) λb o m e=>((gR f a _).2 b m).trans (old b o m e))
 rw[list_sort_plain];refine aB (listItems_at ho rfl (aB (listUpdate_at ho rfl ?_ (by rw[aW];exact line) (cO _))));refine aB (seqEpoch_at x rfl (aB (wpAny_newTuple ?_ line)));refine aB (wpAny_newList (bV ?_) (cO _));show wpAny (model prog w) A _ P E { s with heap:=f };dsimp only;by_cases k:vs.toArray.size<2
 ·rw[aP k,aP k];refine aB (aF (aB (aF ?_)));refine last _ vs ?_ rfl (List.Perm.refl _);show (vs.toArray.zip vs.toArray).map (·.2)=vs.toArray;apply lU.mp;simp[List.map_snd_zip]
 ·rw[aM k,aM k];have g:2<=vs.length:=by rw[aW] at k;omega
  obtain⟨κ,t⟩:=hk g;obtain⟨B,z⟩:=t { s with heap:=f } old;refine aB (B _ _ ?_);refine aB (cL (kat_run (ks:=vs) (vs:=vs) (G:=λp s'=>Rg vs.length p/\s'={ s with heap:=f }) (Q:=λst s'=>s'={ s with heap:=f }/\failedOf st=none/\∃ out,(arrOf st).map (·.2)=List.toArray out/\out.Perm vs)
   rfl g h64 (λp st s' _ v u ⟨g1,g2⟩=>⟨g2,u,_,kat_snds rfl v,MM g1⟩) (rM.wp z (λp l=>⟨l,rfl⟩) (Zc (by omega)))) ?_ λ_ _ e=>e)
  rintro ⟨⟨⟩,st⟩ s' ⟨rfl,v,out,u,I⟩;exact last st out u v I
end
theorem AK (f:α->β) (h:out.Perm vs):∀ zs:List α,vs=zs.map f->∃ ys:List α,ys.Perm zs/\out=ys.map f:=by
 induction h with
 | nil=>intro zs e;cases zs with
  | nil=>exact⟨[],.refl _,rfl⟩
  | cons _ _=>cases e
 | cons x _ m=>intro zs e;cases zs with
  | nil=>cases e
  | cons z zs =>
   obtain⟨i,a⟩:=eK e;obtain⟨ys,g,d⟩:=m zs a;exact⟨z::ys,g.cons z,by rw[aO,← i,d]⟩
 | swap x y l=>intro zs e;cases zs with
  | nil=>cases e
  | cons z zs=>cases zs with
   | nil=>cases e
   | cons j zs =>
    obtain⟨i,a⟩:=eK e;obtain⟨a,q⟩:=eK a;exact⟨j::z::zs,.swap _ _ _,by rw[aO,aO,← i,← a,← q]⟩
 | trans _ _ c b =>
  intro zs e;obtain⟨ys,g,d⟩:=b zs e;obtain⟨k,p,o⟩:=c ys d;exact⟨k,p.trans g,o⟩
section
theorem GS (hh:A.handled=none) (I:Addr) (hne:d≠I):Walks prog w A I [I,d] [I] es.size (λi v=>∃ hi:i<es.size,v=es[i].key) (λi h=>h.IsKeyIter I d i es.size ep/\RawD h d o es ep) where
 sub:=λb a=>by simp at a;simp[a]
 frame:=λ_ _ _ st k=>⟨st.1.at λo e=>k I (by simp) o e,⟨st.2.low,k d (by simp) _ st.2.get,st.2.ex,st.2.dat⟩⟩
 item:=λi s Q E hi st c=>Jp st.2 st.1 hi λg f j=>c _ g s.toks ⟨hi,rfl⟩ ⟨f,⟨st.2.low,(j.2 d hne).trans st.2.get,st.2.ex,st.2.dat⟩⟩ λb o a e=>(j.2 b (λz=>a (by simp[z]))).trans e
 done:=λs Q E st c=>K6 hh st.2 st.1 λg l=>c g s.toks λb o a e=>l b o (λz=>a (by simp[z])) e
 self:=λ_ _ _ _ st c=>kS st.1 c
theorem LU:KdlSrc prog w "dict" d d es.size (λi v=>∃ hi:i<es.size,v=es[i].key) (λh=>RawD h d o es ep) where
 type:=λ_ a=>a.ty
 there:=λ_ a=>⟨aY a.get,aY a.get⟩
 keep:=λ_ _ a c=>⟨a.low,c d (.inl rfl) _ a.get,a.ex,a.dat⟩
 notList:=by decide
 notTuple:=by decide
 hint:=λ_ _ _ _ a b=>kdl_hint_dict a.ty b
 iter:=λ_ _ e a=>⟨_,_,(λ_ _ b=>Kq a b),GS e _ (bL (aY a.get)),⟨⟨_,bB _ rfl,rfl,rfl⟩,⟨a.low,aE _ a.get,a.ex,a.dat⟩⟩⟩
theorem O9 (hq:∀ b,Q b s):∀ (l:List (Value×Value)) (i:Nat),(∀ p∈l,∃ x t y u,p=(Value.int x t,Value.int y u))->KatLex prog w A true fin Q l i s
 | [],i,_=>kat_nil (hq fin)
 | p::l,i,h=>by
  obtain⟨x,t,y,u,rfl⟩:=h p aK;refine kat_cons (wpAny_eqBool_int (kat_go (λ_=>kat_yes (O9 hq l (i+1) λp a=>h p (aT _ a))) λ_=>kat_no ?_));cases i with
  | zero=>exact oneLt_int (hq _)
  | succ i=>exact kat_one _ _ (wpAny_lt_int (hq _))
end
theorem IQ {P:Program}(ok:oN P w H h) (ha:Rd H a (.dT kvs)) :
  ∃ o es ep,RawD h a o es ep/\es.size=kvs.length/\∀ (i:Nat) (hi:i<es.size),∃ k v p,kvs[i]?=some (k,v)/\es[i].key = .ref p/\H p=some (.tup (k.map kV)):=by
 obtain⟨z,lo,b,r,g,es,ep,u,t,m,e,_⟩:=(show oI P w H h a (.dT kvs) from Jo ok ha);have C:kvs.length=b.length:=eX r;have B:es.size=b.length:=by
  have:=cV List.length e
  simpa using this
 refine⟨g,es,ep,⟨lo,u,t,m⟩,by omega,λi hi=>?_⟩;have c:i<kvs.length:=by omega
 obtain⟨q,j,y,f,x⟩:=He r (aG c);refine⟨kvs[i].1,kvs[i].2,q.2.1,aG c,?_,f⟩;have d:es.toList[i]?=some (entryOfKey (tupleKind (qC P w)) q):=by rw[e,aX,j];rfl
 have l:es[i]=entryOfKey (tupleKind (qC P w)) q:=by
  have:es.toList[i]?=some es[i]:=by rw[dX,cK hi]
  rw[this] at d;exact cA d
 rw[l];rfl
def wK (H:Hp) (zs:List (Addr×List Int)):Prop:=∀ z∈zs,H z.1=some (.tup (z.2.map V.int))
theorem Y8 {P:Program}{b:List Int}(ok:oN P w H h) (e:H p=some (.tup (b.map V.int))):∃ (o:Obj) (its:List Value) (n:Nat),h.get? p=some o/\o.cls = .type "tuple" /\ o.data = .seq its.toArray n/\its.length=b.length/\∀ v∈its,∃ x t,v=Value.int x t:=by
 obtain⟨_,its,r,⟨o,l,k,n,j⟩,_⟩:=(show oI P w H h p (.tup (b.map V.int)) from ok p _ e);have c:=r.length;rw[aA] at c;refine⟨o,its,n,l,k,j,c.symm,λv f=>?_⟩;obtain⟨i,g,rfl⟩:=gO f;obtain⟨u,a,d⟩:=r.get (i:=i) (x:=V.int (b[i]'(by omega))) (by rw[aX,aG (by omega)];rfl);rw[aG g] at a;cases a;obtain⟨t,e⟩:=d;exact⟨_,t,e⟩
section
variable {X:Cx}
theorem ND {P:PySem.Fin->Shared->Prop}(ok:oN X.prog X.w H h') (hz:wK H zs) (h64:zs.length<64) (hne:2<=zs.length->∀ z∈zs,z.2≠[])
  (hs:s.heap.get? a=some (seqObj "list" (zs.map λz=>Value.ref z.1).toArray n)) (hb:∀ b o,h'.get? b=some o->b≠a/\s.heap.get? b=some o)
  (h:∀ (ys:List (Addr×List Int)) (h2:Heap) (c:Nat),ys.Perm zs->h2.get? a=some (seqObj "list" (ys.map λz=>Value.ref z.1).toArray c)->(∀ b o,h'.get? b=some o->h2.get? b=some o)->P (.done (.ret .none)) { s with heap:=h2 }) :
  wpAny (model X.prog X.w) A (Builtin.«list.sort» ⟨[.ref a],[]⟩) P E s:=by
 refine NJ hs (by rw[aA];exact h64) (λh2=>?_) λab hh c M ha hk=>?_
 ·rw[aA] at h2;refine⟨tuples' true,λY r=>?_⟩;have f:∀ z∈zs,∃ (o:Obj) (d:List Value) (n:Nat),Y.heap.get? z.1=some o/\o.cls = .type "tuple" /\ o.data = .seq d.toArray n/\d.length=z.2.length/\∀ v∈d,∃ x t,v=Value.int x t:=λz L=>by
   obtain⟨o,d,n,I,W,F,V,B⟩:=Y8 ok (hz z L);obtain⟨e6,e7⟩:=hb _ _ I;exact⟨o,d,n,r _ _ e6 e7,W,F,V,B⟩
  refine⟨λQ E hQ=>?_,λi j C S O hC=>?_⟩
  ·have k:∀ l:List (Addr×List Int),(∀ z∈l,z∈zs)->∃ fs:List Value,KatTups Y.heap (l.map λz=>Value.ref z.1) fs/\fs.length=l.length/\∀ v∈fs,∃ x t,v=Value.int x t:=λl=>by
    induction l with
    | nil=>exact λ_=>⟨[],.nil,rfl,λ_ h=>nomatch h⟩
    | cons z l ih =>
     intro N;obtain⟨fs,f1,f2,U⟩:=ih λz hz=>N z (aT _ hz)
     have m:=N z aK;obtain⟨o,d,n,I,W,F,V,B⟩:=f z m;have h0:0<d.length:=by rw[V];exact List.length_pos_iff.mpr (hne h2 z m)
     refine⟨d[0]::fs,.cons I W F (by simp[h0]) f1,by simp[f2],λv q=>?_⟩;rcases aL.mp q with rfl | q
     ·exact B _ (dQ h0)
     ·exact U v q
   obtain⟨fs,f1,f2,U⟩:=k zs λ_ h=>h
   refine kat_kind (T:=.type "int") f1 (by omega) (λv q=>?_) (by decide) hQ;obtain⟨x,t,rfl⟩:=U v q;exact .now
  ·rw[aA] at S O;unfold kas_ask;have g:∀ i,i<zs.length->∃ (N:i<zs.length),(zs.map λz=>Value.ref z.1).getD i Value.none=Value.ref zs[i].1:=λi h=>⟨h,by simp[h]⟩
   obtain⟨_,gi⟩:=g i S;obtain⟨_,gj⟩:=g j O;rw[gi,gj];obtain⟨o1,aa,n1,I,_,F,_,B⟩:=f zs[i] (dQ S);obtain⟨o2,Z,n2,d1,_,d3,_,d5⟩:=f zs[j] (dQ O);refine kat_lt I F d1 d3 (O9 hC _ 0 λp M=>?_);obtain⟨a1,a2⟩:=fU M;obtain⟨x,t,h1⟩:=B p.1 (by simpa using a1);obtain⟨y,u,h2⟩:=d5 p.2 (by simpa using a2);exact⟨x,t,y,u,by rw[← h1,← h2]⟩
 ·obtain⟨ys,y1,y2⟩:=AK (λz:Addr×List Int=>Value.ref z.1) M zs rfl;subst y2;exact h ys hh c y1 ha λb o e=>hk b o (hb b o e).1 (hb b o e).2
def Ur (K:mC):List V->Hp->VK->Prop:=λxs H Q=>∃ (a:Addr) (bs:List (List Int)),xs=[.ref a]/\bs.length<64/\(2<=bs.length->∀ b∈bs,b≠[]) /\
 ((∃ zs,mG K H a (zs.map λz:Addr×List Int=>V.ref z.1)/\wK H zs/\zs.map (·.2)=bs)\/∃ kvs,Rd H a (.dT kvs)/\kvs.map (·.1)=bs.map (λb=>b.map Sum.inl)) /\
 ∀ (l:Addr) (ys:List (Addr×List Int)),H l=none->wK H ys->(ys.map (·.2)).Perm bs->Q (.ref l) (upd H l (.lst (ys.map λz=>V.ref z.1)))
theorem N0:∀ {zs:List (Addr×List Int)}{its:List Value},mX (zs.map λz=>V.ref z.1) its->its=zs.map λz=>Value.ref z.1
 | [],_,.nil=>rfl
 | z::zs,_,.cons h r=>by
  cases (show _=Value.ref z.1 from h);rw[N0 r];rfl
theorem Q8:∀ zs:List (Addr×List Int),mX (zs.map λz=>V.ref z.1) (zs.map λz=>Value.ref z.1)
 | []=>.nil
 | z::zs=>.cons rfl (Q8 zs)
theorem Ln (hcalm:X.calm=true):oP X (.builtin "sorted") (Ur X.K):=by
 intro t s σ H xs us Q I rv h;obtain⟨a,bs,rfl,j,Y,U,q⟩:=h;obtain⟨u,rfl,ru⟩:=rR rv;cases ru;refine Calls.call_function_entry kind_sorted plain_sorted entry_sorted (args_sorted1 _) ?_;unfold Builtin.«sorted»;refine aB (m:=checkCount "sorted" 1 1 _) (aF ?_);have rest:∀ (g:Heap) (y:Nat) (d:List (Addr×List Int)),wK H d->d.map (·.2)=bs->(∀ b o,s.heap.get? b=some o->g.get? b=some o) ->
   wpAny (model X.prog X.w) X.A.in1 (newList (d.map λz=>Value.ref z.1) >>= λx=>holding [x] (call (.builtin "list.sort") [x]) >>= λ_=>ret x) (λf s'=>∃ v,f = .done (.ret v)/\EP X t σ Q v s') X.xe { s with heap:=g,toks:=y }:=λg y d S B keep=>by
  have T:d.length=bs.length:=by rw[← B,aA]
  have I1:Inv X t σ H { s with heap:=g,toks:=y }:=I.kept keep;refine aB (wpAny_newList ?_ (by rw[aA,T];exact bY (eL j) (by decide)));have L:(g.push (seqObj "list" (d.map λz=>Value.ref z.1).toArray 0)).get? g.objs.size=some (seqObj "list" (d.map λz=>Value.ref z.1).toArray 0):=bB _ rfl;refine aB (bV (cX slot_list_sort ⟨_,L,rfl⟩ entry_list_sort (ND (X:=X) (h':=g) I1.hok S (by omega) (λh2 z i=>Y (by omega) z.2 (by rw[← B];exact fQ i)) L (λb o e=>⟨bL (aY e),aE _ e⟩) λO h2 c W ha hk=>⟨_,rfl,?_⟩) (args_list_sort _)));have ly:O.length=d.length:=W.length_eq;refine aF ⟨_,rfl,.ref g.objs.size,_,I1.laid (a:=g.objs.size) (o:=.lst (O.map λz=>V.ref z.1)) (t':=y) hk (aZ _) ⟨?_,_,c,Q8 O,ha⟩,rfl,q _ O (I1.hok.fresh (aZ _)) (λz i=>S z (W.mem_iff.mp i)) (by rw[← B];exact W.map _)⟩;rw[aA,ly,T];exact bY (eL j) (by decide)
 rcases U with⟨d,hq,S,B⟩ | ⟨F,rd,ek⟩
 ·obtain⟨aa,r,p,i⟩:=I.list hq;have:=N0 r;subst this;have T:d.length=bs.length:=by rw[← B,aA]
  refine aB (collect_list p.isList (rest _ s.toks d S B λb o e=>?_) ?_)
  ·have Z:=aY e;rw[Heap.get?_update_ne _ _ _ _ (bL Z)];exact aE _ e
  ·rw[aA,T];exact bY (eL j) (by decide)
 ·obtain⟨ob,es,ep,raw,sz,rows⟩:=IQ I.hok rd;have lk:F.length=bs.length:=by have:=cV List.length ek;simpa using this
  refine aB (kdu_collect LU (I.ok.hd hcalm) raw (by rw[sz,lk];exact bY (eL j) (by decide)) λg y l keep ⟨n1,n2⟩=>?_);obtain⟨d,E,N,C⟩:∃ d:List (Addr×List Int),l.toList=d.map (λz=>Value.ref z.1)/\wK H d/\d.map (·.2)=bs:=by
   have go:∀ m,m<=bs.length->∃ d:List (Addr×List Int),l.toList.take m=d.map (λz=>Value.ref z.1)/\wK H d/\d.map (·.2)=bs.take m:=λm=>by
    induction m with
    | zero=>exact λ_=>⟨[],rfl,⟨λz h=>(bH h).elim,rfl⟩⟩
    | succ m ih =>
     intro hm;obtain⟨d,E,N,C⟩:=ih (by omega);have M:m<l.size:=by omega
     obtain⟨hi,hv⟩:=n2 m l[m] (cK M);obtain⟨k,v,p,k1,k2,k3⟩:=rows m hi;have kk:k=(bs[m]'(by omega)).map Sum.inl:=by
      have:(F.map (·.1))[m]?=some k:=by rw[aX,k1];rfl
      rw[ek,aX,aG (by omega)] at this;exact (cA this).symm
     refine⟨d++[(p,bs[m]'(by omega))],?_,λz i=>?_,?_⟩
     ·rw[bS,E,aJ,dX,cK M,hv,k2];rfl
     ·rcases aR.mp i with i | i
      ·exact N z i
      ·have:=bA.mp i;subst this;show H p=_;rw[k3,kk,aQ];rfl
     ·rw[bS,aJ,C,aG (by omega)];rfl
   obtain⟨d,E,N,C⟩:=go bs.length (aZ _);rw[bR (by rw[fJ];omega)] at E;rw[bR (aZ _)] at C;exact⟨d,E,N,C⟩
  rw[E];exact rest g y d N C keep
end
def mL (b:List Int):D:=.tup (b.map D.int)
section
variable {K:mC}
theorem Vo:∀ b:List Int,Reps K A H (b.map D.int) (b.map V.int)
 | []=>.nil
 | x::b=>.cons (.int x) (Vo b)
theorem Uc:∀ {b:List Int}{vs:List V},Reps K A H (b.map D.int) vs->vs=b.map V.int
 | [],_,.nil=>rfl
 | x::b,_,.cons h r=>by rw[h.int_inv,Uc r];rfl
theorem Nv (h:Rep K A H (mL b) v):∃ a,v = .ref a/\H a=some (.tup (b.map V.int)):=by
 obtain⟨a,c,rfl,h,r⟩:=Rep.tup_inv h;rw[Uc r] at h;exact⟨a,rfl,h⟩
theorem Kh:∀ {bs:List (List Int)}{vs:List V},Reps K A H (bs.map mL) vs->∃ zs:List (Addr×List Int),vs=zs.map (λz=>V.ref z.1)/\wK H zs/\zs.map (·.2)=bs
 | [],_,.nil=>⟨[],rfl,λ_ h=>(bH h).elim,rfl⟩
 | b::bs,_,.cons h r=>by
  obtain⟨a,rfl,d⟩:=Nv h;obtain⟨zs,rfl,e,rfl⟩:=Kh r;refine⟨(a,b)::zs,rfl,λz c=>?_,rfl⟩;rcases aL.mp c with rfl | c
  ·exact d
  ·exact e z c
theorem Ng:∀ {zs:List (Addr×List Int)},wK H zs->Reps K A H ((zs.map (·.2)).map mL) (zs.map λz=>V.ref z.1)
 | [],_=>.nil
 | z::zs,h=>.cons (.tup (h z aK) (Vo _)) (Ng λz a=>h z (aT _ a))
def GA:OC:=λds Φ=>match ds with
 | [.lst xs]=>∃ bs:List (List Int),xs=bs.map mL/\bs.length<64/\(2<=bs.length->∀ b∈bs,b≠[])/\∀ ys:List (List Int),ys.Perm bs->Φ (.own (.lst (ys.map mL)))
 | [.dT kvs]=>∃ bs:List (List Int),kvs.map (·.1)=bs.map (λb=>b.map Sum.inl)/\bs.length<64/\(2<=bs.length->∀ b∈bs,b≠[])/\∀ ys:List (List Int),ys.Perm bs->Φ (.own (.lst (ys.map mL)))
 | _=>False
theorem Np:sG K (Ur K) GA:=by
 intro B L H p C z Q hd c b k;cases p with
 | nil=>exact False.elim b
 | cons d p =>
 cases p with
 | cons _ _=>cases d<;>exact False.elim b
 | nil =>
 cases d<;>first | exact False.elim b | skip
 ·obtain⟨x,rfl,f⟩:=sI c;obtain⟨bs,rfl,o,m,b⟩:=b;obtain⟨a,E,rfl,h,r⟩:=f.lst_inv;obtain⟨q,rfl,u,t⟩:=Kh r;exact⟨a,bs,rfl,o,m,.inl ⟨q,mG.of h,u,t⟩,λl v j i c=>k _ _ _ (b _ c) (hd.lstF j (Ng i))⟩
 ·obtain⟨x,rfl,f⟩:=sI c;obtain⟨bs,y,o,m,b⟩:=b;obtain⟨a,g,rfl,h,e,r⟩:=f.dT_inv;exact⟨a,bs,rfl,o,m,.inr ⟨g,h,by rw[← e];exact y⟩,λl v j i c=>k _ _ _ (b _ c) (hd.lstF j (Ng i))⟩
end
theorem Ug {P:Program}{b:List Int}(ok:oN P w H h) (e:H p=some (.tup (b.map V.int))) (prog:Program) (w':World):IsTupleKey (qC prog w') h (b.map (Sum.inl:Int->hI)) p:=by
 have g:H p=some (.tup ((b.map (Sum.inl:Int->hI)).map kV)):=by rw[e,aQ];rfl
 obtain⟨_,a,r,⟨o,f,d,n,c⟩,_⟩:=(show oI P w H h p (.tup ((b.map (Sum.inl:Int->hI)).map kV)) from ok p _ g);exact⟨o,a.toArray,n,f,d,c,by simpa using Jw r⟩
def Ue (K:mC) (neg:Bool):R2:=λx y H Q=>∃ (p a:Addr) (zs:List (Addr×List Int)) (b:List Int),x = .ref a/\H a=some (.tup (b.map V.int))/\y = .ref p/\mG K H p (zs.map λz=>V.ref z.1)/\wK H zs/\Q (.bl (nb neg (decide (b∈zs.map (·.2))))) H
theorem Pj:∀ {a b:List Int},a.map (Sum.inl:Int->hI)=b.map Sum.inl->a=b
 | [],[],_=>rfl
 | [],_::_,e=>by cases e
 | _::_,[],e=>by cases e
 | x::a,y::b,e=>by
  rw[aO,aO] at e;obtain⟨d,c⟩:=eK e;rw[Sum.inl.inj d,Pj c]
section
variable {X:Cx}
def As (zs:List (Addr×List Int)) (b:List Int):Value->Bool
 | .ref q=>zs.any λz=>decide (z.1=q)&&decide (z.2=b)
 | _=>false
theorem MA {A:Around}(hu:A.in1.units<cLine) (ok:oN X.prog X.w H s.heap) (hz:wK H zs) (ha:H a=some (.tup (b.map V.int))) :
  ∀ y,y∈(zs.map λz=>Value.ref z.1).toArray->SeqAt.EqAt A.in1 s y (.ref a) (As zs b y):=λy m=>by
 obtain⟨z,c,rfl⟩:=aV.mp (show y∈zs.map λz=>Value.ref z.1 by simpa using m);intro prog w E Q o;refine wpAny_eqBool_tuple (knd:=qC prog w) hu (Ug ok (hz z c) prog w) (Ug ok ha prog w) ?_;have e:As zs b (.ref z.1)=decide (z.2.map (Sum.inl:Int->hI)=b.map Sum.inl):=by
  unfold As;by_cases h:z.2=b
  ·rw[bE (by rw[h]:z.2.map (Sum.inl:Int->hI)=b.map Sum.inl)];exact eO.mpr ⟨z,c,by rw[h];simp⟩
  ·rw[bD λq=>h (Pj q)];refine lN.mpr λf p q=>?_
   rw[cE] at q;have i:=cB q.1;have g:=cB q.2;have d:=hz f p;rw[i,hz z c] at d;have k:=HO.tup.inj (cA d);have j:∀ {a b:List Int},a.map V.int=b.map V.int->a=b:=λ{a}=>by
    induction a with
    | nil=>intro b e;cases b with
     | nil=>rfl
     | cons _ _=>cases e
    | cons x a l=>intro b e;cases b with
     | nil=>cases e
     | cons y b =>
      rw[aO,aO] at e;obtain⟨t,r⟩:=eK e;rw[V.int.inj t,l r]
   exact h ((j k).trans g)
 rw[← e];exact o
theorem BR (hz:wK H zs):(zs.map λz=>Value.ref z.1).toArray.any (As zs b)=decide (b∈zs.map (·.2)):=by
 rw[show (zs.map λz=>Value.ref z.1).toArray.any (As zs b)=(zs.map λz=>Value.ref z.1).any (As zs b) by simp];by_cases h:b∈zs.map (·.2)
 ·rw[bE h];obtain⟨z,hz,rfl⟩:=aV.mp h;exact eO.mpr ⟨_,fQ hz,eO.mpr ⟨z,hz,by simp⟩⟩
 ·rw[bD h];refine lN.mpr λy c q=>?_
  obtain⟨z,_,rfl⟩:=aV.mp c;obtain⟨a,d,q⟩:=eO.mp q;rw[cE] at q;exact h (aV.mpr ⟨a,d,cB q.2⟩)
theorem Qh (hu:X.A.units+1<cLine):nH X (compareOp .NotIn) (Ue X.K true):=by
 intro c s m H x y v u Q I g f h;obtain⟨p,a,e,b,rfl,l,rfl,k,d,q⟩:=h;cases f;cases g;obtain⟨j,r,i,_⟩:=I.list k;have:=N0 r;subst this;refine SeqAt.notIn_listAt (As e b) i.isList (MA (X:=X) hu I.hok d l) ⟨.bl _,H,I,rfl,?_⟩;rw[BR d];exact q
def HU (neg:Bool):O2:=λd e Φ=>∃ (b:List Int) (bs:List (List Int)),d=mL b/\e = .lst (bs.map mL)/\Φ (.val (.bl (nb neg (decide (b∈bs)))))
theorem T9 {K:mC}(neg:Bool):pX K (Ue K neg) (HU neg):=by
 rintro B L H _ _ x y j Q hd f e ⟨b,bs,rfl,rfl,g⟩ k;obtain⟨p,l,rfl,h,r⟩:=e.lst_inv;obtain⟨c,rfl,d,rfl⟩:=Kh r;obtain⟨a,rfl,i⟩:=Nv (show Rep K (Al B (mD L)) H (mL b) x from f);exact⟨p,a,c,b,rfl,i,rfl,mG.of h,d,k _ _ H g (hd.pushF (.bl _))⟩
end
end L2
namespace PySem
open PyProof.Rows L2
section
variable {R:Result->Shared->Prop}{P:Nat->Value->Prop}{St:Nat->Shared->Prop}
abbrev uK (prog:Program) (w:World):=tupleKind (qC prog w)
def vQ (more:List (List hI×Addr×Value)):List (List hI×Addr×Value):=more.foldl (λacc q=>storedH acc q.1 q.2.1 q.2.2) []
theorem JB (xs:List (List hI×Addr×Value)) (k:List hI) (a:Addr) (v:Value):(storedH xs k a v).length<=xs.length+1:=by
 unfold storedH;by_cases h:(atKey xs k).isSome=true
 ·rw[aP h,aA];omega
 ·rw[aM h,aH];exact aZ _
theorem CD (more:List (List hI×Addr×Value)):(vQ more).length<=more.length:=by
 have:∀ (more a:List (List hI×Addr×Value)),(more.foldl (λa q=>storedH a q.1 q.2.1 q.2.2) a).length<=a.length+more.length:=λmore=>by
  induction more with
  | nil=>intro a;simp
  | cons q more b =>
   intro a;rw[jL];have:=b (storedH a q.1 q.2.1 q.2.2);have:=JB a q.1 q.2.1 q.2.2;rw[bX];omega
 have:=this more [];rw[gJ,Nat.zero_add] at this;exact this
theorem QR {more:List (List hI×Addr×Value)}{i:Nat}{q:List hI×Addr×Value}(h:more[i]?=some q):vQ (more.take (i+1))=storedH (vQ (more.take i)) q.1 q.2.1 q.2.2:=by
 unfold vQ;rw[bS,h,List.foldl_append];rfl
theorem Ja {h h':Heap}(D:h.DictOfH (uK prog w) d xs) (hd:∀ o,h.get? d=some o->h'.get? d=some o) (hk:∀ x∈xs,∀ o,h.get? x.2.1=some o->h'.get? x.2.1=some o):h'.DictOfH (uK prog w) d xs:=by
 obtain⟨o,l,p,k,j,i,g,f,e⟩:=D;refine⟨o,l,p,hd o k,j,i,g,λx c=>?_,e⟩;obtain⟨b,a,m,g1,g2⟩:=f x c;exact⟨b,a,m,hk x c b g1,g2⟩
theorem QN {xs:List (List hI×Addr×Value)}{k:List hI}{a:Addr}{v:Value}{x:List hI×Addr×Value}(h:x∈storedH xs k a v):(∃ y∈xs,y.2.1=x.2.1)\/x.2.1=a:=by
 unfold storedH at h;by_cases e:(atKey xs k).isSome=true
 ·rw[aP e] at h;obtain⟨y,b,rfl⟩:=aV.mp h;refine .inl ⟨y,b,?_⟩;unfold putAt;by_cases z:y.1=k
  ·rw[aP z]
  ·rw[aM z]
 ·rw[aM e] at h;rcases aR.mp h with h | h
  ·exact .inl ⟨x,h,rfl⟩
  ·rw[bA.mp h];exact .inr rfl
theorem OT (h:x∈vQ more):∃ y∈more,y.2.1=x.2.1:=by
 have:∀ (more a:List (List hI×Addr×Value)),x∈more.foldl (λa q=>storedH a q.1 q.2.1 q.2.2) a->(∃ y∈a,y.2.1=x.2.1)\/∃ y∈more,y.2.1=x.2.1:=λmore=>by
  induction more with
  | nil=>intro a h;exact .inl ⟨x,h,rfl⟩
  | cons q more d =>
   intro a h;rw[jL] at h;rcases d _ h with⟨y,b,e⟩ | ⟨y,b,e⟩
   ·rcases QN b with⟨z,f,c⟩ | c
    ·exact .inl ⟨z,f,c.trans e⟩
    ·exact .inr ⟨q,aK,c.symm.trans e⟩
   ·exact .inr ⟨y,aT _ b,e⟩
 rcases this more [] h with⟨y,b,_⟩ | h
 ·exact (bH b).elim
 ·exact h
theorem AG (W:WalksS prog w A.in1 J fp wr G n P St) (d:Addr) (hdf:d∉fp) (hu:A.in1.units<cLine) (h0:Heap) (more:List (List hI×Addr×Value)) (hn:more.length=n)
  (hT:∀ i v,P i v->∃ (t:Addr) (o:Obj) (m:Nat) (q:List hI×Addr×Value),v = .ref t/\t∉d::wr/\h0.get? t=some o/\o.cls = .type "tuple" /\ o.data = .seq #[.ref q.2.1,q.2.2] m/\more[i]?=some q)
  (hK:∀ q∈more,q.2.1∉d::wr/\(uK prog w).is h0 q.1 q.2.1) (hb:n<=sizeLine) :
  ∀ (k i:Nat) (s:Shared),n-i=k->i<=n->St i s->(∀ b o,b∉d::wr->h0.get? b=some o->s.heap.get? b=some o)->s.heap.DictOfH (uK prog w) d (vQ (more.take i)) ->
   (∀ s',Moved (d::wr) G s s'->s'.heap.DictOfH (uK prog w) d (vQ more)->R (.ok (.ret .none)) s') ->
   codeAny (model prog w) A (.builtin "dict.update.loop" ⟨[.ref d,.ref J,.int (i:Int) 0,.none],[]⟩) R s:=by
 have O:d∉wr:=λz=>hdf (W.sub _ z)
 have c:∀ b∈wr,b∈d::wr:=λb z=>aT _ z
 have f:∀ {s s':Shared} {i:Nat},(∀ b o,b∉wr->s.heap.get? b=some o->s'.heap.get? b=some o)->s.heap.DictOfH (uK prog w) d (vQ (more.take i))->s'.heap.DictOfH (uK prog w) d (vQ (more.take i)):=λ{s s' i} j D =>
  Ja D (λo e=>j d o O e) λx hx o e=>by
   obtain⟨y,hy,ey⟩:=OT hx;exact j _ o (λz=>(hK y (kR hy)).1 (c _ (by rw[ey];exact z))) e
 intro k;induction k with
 | zero =>
  intro i s hk hi st h Q S;have ei:i=n:=by omega
  subst ei;refine fV Bl ?_;rw[eF vD _];show wpAny _ A.in1 (pyNext (.ref J) >>= _) _ _ s;refine aB (W.done s _ _ st λs' j=>?_);show wpAny _ A.in1 (Builtin.Dict.addKeywords d [] >>= _) _ _ s';have fin:=f (i:=i) j.heap Q;rw[bR (by omega)] at fin;exact aB (aF (aF (S s' (j.mono c) fin)))
 | succ k ih =>
  intro i s hk hi st h Q S;have u:i<n:=by omega
  refine fV Bl ?_;rw[eF vD _];show wpAny _ A.in1 (pyNext (.ref J) >>= _) _ _ s;refine aB (W.item i s _ _ u st λv s' hv E j=>?_);obtain⟨t,o,m,q,rfl,ht,L,N,M,g⟩:=hT i v hv;obtain⟨Z,Y⟩:=hK q (aI g);have a:∀ b o,b∉d::wr->h0.get? b=some o->s'.heap.get? b=some o:=λb o hb e=>j.heap b o (λz=>hb (c _ z)) (h b o hb e)
  have l:=a t o ht L;show wpAny _ A.in1 (holding [Value.ref t] _ >>= _) _ _ s';refine aB (bV ?_);refine aB (wpAny_tryCatch ?_);unfold Builtin.Dict.pairItems;refine aB (eM (T := "tuple") ⟨o,l,N⟩ ?_);rw[aP (by decide)];refine aB (fH l M ?_);refine aF ?_;show wpAny _ A.in1 (holding [.ref q.2.1,q.2.2] (dictSet d (.ref q.2.1) q.2.2)) _ _ s';refine bV ?_;have p:(vQ (more.take i)).length<=sizeLine:=by
   have U:=CD (more.take i);rw[bQ] at U;omega
  have key:(uK prog w).is s'.heap q.1 q.2.1:=by
   obtain⟨V,I,m',g1,g2⟩:=Y;exact⟨V,I,m',a _ V Z g1,g2⟩
  refine wpAny_dictSet_heap (hsz:=p) (knd:=uK prog w) hu key (f j.heap Q) λh' B F=>?_
  rw[← QR g] at B;refine aF ⟨iT vD _,?_⟩;have U:(rawInt ((i:Int)+1))=Value.int ((i+1:Nat):Int) 0:=by rfl
  rw[U];refine ih (i+1) _ (by omega) u (W.frame _ s' _ _ E (gU _ _) λb hb o e=>?_) (λb o hb e=>?_) B λH r C=>?_
  ·rw[F.2 b (λz:b=d=>hdf (by rw[← z];exact hb))];exact e
  ·rw[F.2 b (λz:b=d=>hb (by rw[z];exact aK))];exact a b o hb e
  ·refine S H (Moved.trans W.gtrans ((j.mono c).then_heap (gU _ _) λb o hb e=>?_) r) C;rw[F.2 b (λz:b=d=>hb (by rw[z];exact aK))];exact e
theorem DQ (hh:A.handled=none) (hu:A.units+2<cLine) (hl:s.heap.get? l=some o) (hc:o.cls = .type "list") (hd:o.dict=none) (hda:o.data = .seq items nl)
  (hn:more.length=items.size)
  (hT:∀ (i:Nat) v,items[i]?=some v->∃ (t:Addr) (o:Obj) (m:Nat) (q:List hI×Addr×Value),v = .ref t/\s.heap.get? t=some o/\o.cls = .type "tuple" /\ o.data = .seq #[.ref q.2.1,q.2.2] m/\more[i]?=some q)
  (hK:∀ q∈more,(uK prog w).is s.heap q.1 q.2.1) (hb:items.size<=sizeLine)
  (h:∀ (h':Heap) (tk:Nat),h'.DictOfH (uK prog w) s.heap.objs.size (vQ more)->(∀ b o,s.heap.get? b=some o->h'.get? b=some o)->Q (.ref s.heap.objs.size) { s with heap:=h',toks:=tk }) :
  wpAny (model prog w) A (call (.type "dict") [.ref l]) Q E s:=by
 obtain⟨V,U,N,M⟩:=o;cases hc;cases hd;cases hda;let D:=s.heap.objs.size;have made:(wM s).heap.DictOfH (uK prog w) D []:=⟨_,#[],0,bB _ rfl,⟨rfl,rfl,rfl⟩,rfl,rfl,λ_ h=>(bH h).elim,eS⟩;have ty:(wM s).TypeIs (.ref D) "dict" := ⟨_,bB _ rfl,rfl⟩;have old:∀ b o,s.heap.get? b=some o->(wM s).heap.get? b=some o:=λb o e=>aE _ e
 refine callType_codes F.kt_called_dict (kQ _) F.entry_dict_init (kt_code_dict_new _ (Q₁:=λv H=>v = .ref D/\H=wM s) ⟨rfl,rfl⟩) λv H q=>?_
 obtain⟨rfl,rfl⟩:=q;refine⟨ty,lJ _ _,V8 ty (old _ _ hl) (by simp[hh]) λg tk e x=>⟨iT vD _,?_⟩⟩;have B:g.DictOfH (uK prog w) D []:=Ja made (λo e=>x.keeps _ _ e) λ_ h=>(bH h).elim
 have d:D<g.objs.size:=by
  obtain⟨o,Z,ep,p,r⟩:=B;exact aY p
 have u:l<D:=aY hl;have keeps:∀ b o,s.heap.get? b=some o->(g.push (Cv l)).get? b=some o:=λb o e=>aE _ (x.keeps _ _ (old b o e))
 have a:∀ {b:Addr},b<D->b∉[D,g.objs.size]:=λ{b} y z=>by
  rcases aL.mp z with q | q
  ·exact bL y q
  ·exact bL (kZ y d) (bA.mp q)
 have c:D∉[g.objs.size,l]:=λz=>by
  rcases aL.mp z with q | q
  ·exact bL d q
  ·exact iC u (bA.mp q)
 have f:(g.push (Cv l)).IsList l items:=⟨_,keeps _ _ hl,rfl,nl,rfl⟩;refine AG ((Walks.list (by simp[hh]) g.objs.size l (bL (kZ u d)) items).toS) D c ?_ s.heap more hn (λi v S=>?_) (λq T=>?_) hb items.size 0 _ (by omega) (cO _) ⟨⟨_,bB _ rfl,rfl,rfl⟩,f⟩ (λb o _ e=>keeps b o e) ?_ λj C fin=>?_
 ·simpa using hu
 ·obtain⟨t,L,m,q,rfl,I,r⟩:=hT i v S;exact⟨t,L,m,q,rfl,a (aY I),I,r⟩
 ·have k:=hK q T;obtain⟨W,O,Y,g1,g2⟩:=id k;exact⟨a (aY g1),k⟩
 ·show Heap.DictOfH (uK prog w) _ D [];exact Ja B (λo e=>aE _ e) λ_ h=>(bH h).elim
 ·have res:=h j.heap j.toks fin λb o e=>C.heap b o (a (aY e)) (keeps b o e)
  rw[show j={ s with heap:=j.heap,toks:=j.toks } from Mi C.gens C.drawn C.os];exact⟨rfl,res⟩
end
end PySem
namespace L2
open PySem PySem.W PySem.Spec PyProof.Rows Lw
def Iw (H:Hp):List Addr->List (List Int×Addr×V)->Prop:=Paired λt m=>H t=some (.tup [.ref m.2.1,m.2.2])/\H m.2.1=some (.tup (m.1.map V.int))
def tF {β:Type}(put:List (List hI×β)->List hI->β->List (List hI×β)) (acc:List (List hI×β)) (ms:List (List Int×β)):List (List hI×β):=ms.foldl (λacc m=>put acc (m.1.map Sum.inl) m.2) acc
theorem Xw {P:Program}(hok:oN P w H h) (r:Iw H ts ms):∃ more:List (List hI×Addr×Value),more.length=ms.length /\
  (∀ (i:Nat) t,ts[i]?=some t->∃ (o:Obj) (m:Nat) (q:List hI×Addr×Value),h.get? t=some o/\o.cls = .type "tuple" /\ o.data = .seq #[.ref q.2.1,q.2.2] m/\more[i]?=some q) /\
  (∀ q∈more,∃ ks,q.1=ks/\H q.2.1=some (.tup (ks.map kV)))/\∀ kvs xs,KT H kvs xs->KT H (tF pW kvs (ms.map λm=>(m.1,m.2.2))) (more.foldl (λacc q=>storedH acc q.1 q.2.1 q.2.2) xs):=by
 unfold Iw at r;induction r with
 | nil=>exact⟨[],rfl,λi t e=>by simp at e,λq b=>(bH b).elim,λ_ _ k=>k⟩
 | @cons t m ts ms L Q y =>
  obtain⟨more,v,C,E,F⟩:=y;obtain⟨N,M⟩:=L;obtain⟨z,x,a,⟨o,B,I,n,c⟩,_⟩:=hok t _ N;cases a with
  | @cons _ j _ O u a =>
   cases a with
   | @cons _ g _ f p a =>
    cases a;cases (show j=Value.ref m.2.1 from u);have d:H m.2.1=some (.tup ((m.1.map (Sum.inl:Int->hI)).map kV)):=by rw[M,aQ];rfl
    refine⟨(m.1.map Sum.inl,m.2.1,g)::more,by rw[bX,bX,v],λi l e=>?_,λq b=>?_,λkvs xs k=>?_⟩
    ·cases i with
     | zero =>
      simp at e;subst e;exact⟨o,n,_,B,I,c,rfl⟩
     | succ i=>simpa using C i l (by simpa using e)
    ·rcases aL.mp b with rfl | b
     ·exact⟨_,rfl,d⟩
     ·exact E q b
    ·exact F _ _ (k.put _ d p)
def Rw (K:mC):List V->Hp->VK->Prop:=λxs H Q=>∃ (p:Addr) (ts:List Addr) (ms:List (List Int×Addr×V)),xs=[.ref p]/\mG K H p (ts.map V.ref)/\Iw H ts ms/\ms.length<=1000/\∀ d,H d=none->Q (.ref d) (upd H d (.dT (tF pW [] (ms.map λm=>(m.1,m.2.2)))))
theorem Uq:∀ (ms:List (List Int×V)) (acc:List (List hI×V)),(tF pW acc ms).length<=acc.length+ms.length
 | [],acc=>by simp[tF]
 | m::ms,acc=>by
  have b:=Uq ms (pW acc (m.1.map Sum.inl) m.2);have a:=Fn acc (m.1.map Sum.inl) m.2;show (tF pW (pW acc (m.1.map Sum.inl) m.2) ms).length<=_;rw[bX];omega
section
variable {X:Cx}
theorem X2 (hcalm:X.calm=true) (hu:X.A.units+2<cLine):oP X (.type "dict") (Rw X.K):=by
 intro F s σ H xs us Q I r h;obtain⟨p,g,j,rfl,B,L,hz,q⟩:=h;obtain⟨u,rfl,y⟩:=rR r;cases y;obtain⟨c,E,⟨o,n,e,e1,e2,e3⟩,_⟩:=I.list B;have l:=E.length;rw[aA] at l;have Z:g.length=j.length:=eX L;obtain⟨more,ml,Y,hk,hf⟩:=Xw I.hok L;have d:∀ (i:Nat) v,c[i]?=some v->∃ t,g[i]?=some t/\v = .ref t:=by
  intro i v k;have hi:i<c.length:=(aU.mp k).1;have:i<g.length:=by omega
  obtain⟨u,hu,y⟩:=E.get (i:=i) (x:=V.ref g[i]) (by simp[this]);rw[hu] at k;cases k;cases y;exact⟨g[i],by simp[this],rfl⟩
 refine DQ (more:=more) (I.ok.hd hcalm) hu e e1 e2 e3 (by rw[aW];omega) ?_ (λq B=>?_) (by rw[aW];exact eL (cM (show c.length<=1000 by omega) (by decide))) λh' N hD f=>?_
 ·intro i v k;obtain⟨t,W,rfl⟩:=d i v (by simpa using k);obtain⟨o,m,q,C,h2,h3,h4⟩:=Y i t W;exact⟨t,o,m,q,rfl,C,h2,h3,h4⟩
 ·obtain⟨ks,U,T⟩:=hk q B;rw[U];exact zV I.hok T
 ·have z:(tF pW [] (j.map λm=>(m.1,m.2.2))).length<=sizeLine:=by
   have C:=Uq (j.map λm=>(m.1,m.2.2)) [];rw[gJ,aA] at C;exact eL (cM (show (tF pW [] (j.map λm=>(m.1,m.2.2))).length<=1000 by omega) (by decide))
  obtain⟨O,es,ep,d1,d2,d3,d4,_,d5⟩:=hD;have S:=hf [] [] .nil;have fr:=I.fresh;refine⟨.ref s.heap.objs.size,_,I.laid (a:=s.heap.objs.size) (o:=.dT (tF pW [] (j.map λm=>(m.1,m.2.2)))) (t':=N) f (aZ _) ?_,rfl,q _ I.fresh⟩;refine⟨z,cP.mpr (eC (bL I.big)),_,S.keeps λb ys M=>?_,O,es,ep,d1,d2,d3,d4,d5⟩;rw[mO (nO M I.fresh)];exact M
end
section
variable {K:mC}
theorem Rx:∀ {ms:List (List Int×D)}{vs:List V},Reps K A H (ms.map λm=>D.tup [mL m.1,m.2]) vs->∃ (ts:List Addr) (mv:List (List Int×Addr×V)),vs=ts.map V.ref/\Iw H ts mv/\mv.map (·.1)=ms.map (·.1)/\Reps K A H (ms.map (·.2)) (mv.map (·.2.2))
 | [],_,.nil=>⟨[],[],rfl,.nil,rfl,.nil⟩
 | m::ms,_,.cons h r=>by
  obtain⟨ts,mv,rfl,k,j,i⟩:=Rx r;obtain⟨a,l,rfl,g,c⟩:=h.tup_inv;cases c with
  | cons e c =>
   cases c with
   | cons d c =>
    cases c;obtain⟨b,rfl,f⟩:=Nv e;exact⟨a::ts,(m.1,b,_)::mv,rfl,.cons ⟨g,f⟩ k,by rw[aO,aO,j],.cons d i⟩
theorem Qr:∀ {ms:List (List Int×D)}{mv:List (List Int×V)}{kvs:List (List hI×D)}{vs:List (List hI×V)},ms.map (·.1)=mv.map (·.1)->Reps K A H (ms.map (·.2)) (mv.map (·.2))->kvs.map (·.1)=vs.map (·.1)->Reps K A H (kvs.map (·.2)) (vs.map (·.2)) ->
  (tF nR kvs ms).map (·.1)=(tF pW vs mv).map (·.1)/\Reps K A H ((tF nR kvs ms).map (·.2)) ((tF pW vs mv).map (·.2))
 | [],[],_,_,_,_,e,r=>⟨e,r⟩
 | [],_::_,_,_,e,_,_,_=>by simp at e
 | _::_,[],_,_,e,_,_,_=>by simp at e
 | (k,d)::ms,(j,v)::mv,kvs,vs,a,b,e,r=>by
  simp only[aO,iA] at a;obtain⟨rfl,a⟩:=a;cases b with
  | cons h b =>
   obtain⟨f,c⟩:=G5 e r (k:=k.map Sum.inl) h;exact Qr (ms:=ms) (mv:=mv) a b f c
def BO:OC:=λds Φ=>match ds with
 | [.lst xs]=>∃ ms:List (List Int×D),xs=ms.map (λm=>D.tup [mL m.1,m.2])/\ms.length<=1000/\Φ (.own (.dT (tF nR [] ms)))
 | _=>False
theorem X4:sG K (Rw K) BO:=by
 intro B L H f C z Q hd t b k;cases f with
 | nil=>exact False.elim b
 | cons d f =>
 cases f with
 | cons _ _=>cases d<;>exact False.elim b
 | nil =>
 cases d<;>first | exact False.elim b | skip
 obtain⟨x,rfl,q⟩:=sI t;obtain⟨g,rfl,F,b⟩:=b;obtain⟨a,E,rfl,h,r⟩:=q.lst_inv;obtain⟨j,c,rfl,v,i,u⟩:=Rx r;have y:g.map (·.1)=(c.map λm=>(m.1,m.2.2)).map (·.1):=by rw[aQ,← i];rfl
 have l:Reps K (Al B (mD L)) H (g.map (·.2)) ((c.map λm=>(m.1,m.2.2)).map (·.2)):=by rw[aQ];exact u
 obtain⟨p,o⟩:=Qr (kvs:=[]) (vs:=[]) y l rfl .nil;refine⟨a,j,c,rfl,mG.of h,v,?_,λd e=>k _ _ _ b (hd.dTF e p o)⟩;have:=cV List.length i;rw[aA,aA] at this;omega
end
end L2
namespace Lw
open PySem L2
theorem HX:(["bits","steps","held"]:List Str).Nodup:=by decide +kernel
theorem RU:(["carried"]:List Str).Nodup:=by decide +kernel
theorem JR:(["carried","table"]:List Str).Nodup:=by decide +kernel
theorem FT:(["edges","held"]:List Str).Nodup:=by decide +kernel
theorem Y7:(["carried","table","held"]:List Str).Nodup:=by decide +kernel
theorem GO (hr:Room k A):A.units+2<cLine:=cM (Nat.add_le_add_left (by decide:2<=64) _) hr.units
def sQ (C:Cel) (prs:List (Str×Str)) (c l:List Int):List Int:=prs.map λp=>oG C prs c l p.1
def yI (C:Cel) (prs:List (Str×Str)) (t:nK) (paper:List (List Int)) (c:List Int):Prop:=∀ l∈mI (mH C prs).length,sJ C prs t (oG C prs c l)=0/\sQ C prs c l∈paper
def Eu (C:Cel) (prs:List (Str×Str)) (t:nK) (ef:Str->Option Int) (paper:List (List Int)):Prop:=(∀ c∈paper,c∈mI prs.length)/\(∀ e∈pU prs ef,e∈paper)/\∀ c∈paper,yI C prs t paper c
def Ms (kvs:List (List hI×D)) (paper:List (List Int)):Prop:=(∃ ks:List (List Int),kvs.map (·.1)=ks.map (λk=>k.map Sum.inl)/\(∀ k,k∈ks↔k∈paper)/\ks.length<=1000)/\∀ k:List Int,(mZ kvs (k.map Sum.inl)).isSome=decide (k∈paper)
theorem Cu (f:List Int->D):∀ bs:List (List Int),rK (bs.map λl=>(l.map (Sum.inl:Int->hI),f l))=bs.map mE
 | []=>rfl
 | b::bs=>by
  show D.tup ((b.map (Sum.inl:Int->hI)).map Eb)::rK (bs.map λl=>(l.map (Sum.inl:Int->hI),f l))=_;rw[Cu f bs,aQ];rfl
theorem C4 (f:List Int->D):∀ {bs:List (List Int)},b∈bs->mZ (bs.map λl=>(l.map (Sum.inl:Int->hI),f l)) (b.map Sum.inl)=some (f b)
 | [],h=>(bH h).elim
 | c::bs,h=>by
  unfold mZ;rw[aO,cY];by_cases e:c=b
  ·subst e;simp
  ·have:¬ c.map (Sum.inl:Int->hI)=b.map Sum.inl:=λz=>e (wN z)
   rw[bD this];exact C4 f ((aL.mp h).resolve_left λz=>e z.symm)
theorem yO (f:List Int->D){b:List Int}{bs:List (List Int)}(h:b∈bs):yA (.dT (bs.map λl=>(l.map (Sum.inl:Int->hI),f l))) (mE b)=some (some (f b)):=by
 show (tM (b.map D.int)).map _=_;rw[Aw,jN,C4 f h]
theorem Cw (b:List Int):yA (.dT kvs) (mE b)=some (mZ kvs (b.map Sum.inl)):=by
 show (tM (b.map D.int)).map _=_;rw[Aw,jN]
theorem O5:∀ {kvs:List (List hI×D)}{ks:List (List Int)},kvs.map (·.1)=ks.map (λk=>k.map Sum.inl)->rK kvs=ks.map mE
 | [],[],_=>rfl
 | [],_::_,e=>by cases e
 | _::_,[],e=>by cases e
 | p::kvs,k::ks,e=>by
  rw[aO,aO] at e;obtain⟨b,a⟩:=eK e;show D.tup (p.1.map Eb)::rK kvs=_;rw[O5 a,b,aQ];rfl
theorem Xz (hl:paper.length<=1000):Ms (tF nR [] (paper.map λc=>(c,D.bl true))) paper:=by
 have key:∀ (i done:List (List Int)) (b:List (List hI×D)),(∃ a:List (List Int),b=a.map (λk=>(k.map (Sum.inl:Int->hI),D.bl true))/\(∀ k,k∈a↔k∈done)/\a.length<=done.length) ->
   ∃ a:List (List Int),tF nR b (i.map λc=>(c,D.bl true))=a.map (λk=>(k.map (Sum.inl:Int->hI),D.bl true))/\(∀ k,k∈a↔k∈done++i)/\a.length<=(done++i).length:=λi=>by
  induction i with
  | nil=>rintro done b ⟨a,g,f,m⟩;exact⟨a,g,by simpa using f,by simpa using m⟩
  | cons c i r =>
   rintro done b ⟨a,g,f,m⟩;have step:∃ h:List (List Int),nR b (c.map Sum.inl) (D.bl true)=h.map (λk=>(k.map (Sum.inl:Int->hI),D.bl true))/\(∀ k,k∈h↔k∈done++[c])/\h.length<=(done++[c]).length:=by
    by_cases l:c∈a
    ·refine⟨a,?_,λk=>?_,by rw[aH];omega⟩
     ·unfold nR;rw[aP (eO.mpr ⟨(c.map Sum.inl,D.bl true),by rw[g];exact aV.mpr ⟨c,l,rfl⟩,by simp⟩),g,aQ];refine eP λk _=>?_
      show (if k.map (Sum.inl:Int->hI)=c.map Sum.inl then (k.map (Sum.inl:Int->hI),D.bl true) else (k.map (Sum.inl:Int->hI),D.bl true))=_;split<;>rfl
     ·rw[f,aR,bA];exact⟨.inl,λz=>z.elim id λz=>by rw[z];exact (f c).mp l⟩
    ·refine⟨a++[c],?_,λk=>?_,by rw[aH,aH];simpa using m⟩
     ·rw[Lk,g,aJ];rfl;intro z;rw[g,aQ] at z;obtain⟨k,j,e⟩:=aV.mp z;have e:k=c:=wN e;exact l (e▸j)
     ·rw[aR,aR,f]
   obtain⟨o,g1,g2,g3⟩:=r (done++[c]) _ step;exact⟨o,g1,by simpa using g2,by simpa using g3⟩
 obtain⟨a,g,f,m⟩:=key paper [] [] ⟨[],rfl,λ_=>Iff.rfl,aZ _⟩;rw[gI] at f m;refine⟨⟨a,by rw[g,aQ];rfl,f,by omega⟩,λk=>?_⟩;rw[g];by_cases j:k∈a
 ·rw[C4 (λ_=>D.bl true) j,bE ((f k).mp j)];rfl
 ·rw[bD λz=>j ((f k).mpr z)];cases e:mZ (a.map λk=>(k.map (Sum.inl:Int->hI),D.bl true)) (k.map Sum.inl) with
  | none=>rfl
  | some d =>
   unfold mZ at e;obtain⟨p,q,_⟩:=cF.mp e;obtain⟨c,l,rfl⟩:=aV.mp (hX q);have:=mB q;exact (j (by rw[← wN (cB this)];exact l)).elim
theorem U7 (C:Cel) (prs:List (Str×Str)) (t:nK) (b:List Int):(mZ ((mI prs.length).map λc=>(c.map (Sum.inl:Int->hI),rN C prs t c)) (b.map Sum.inl)).isSome=decide (b∈mI prs.length):=by
 by_cases h:b∈mI prs.length
 ·rw[C4 _ h,bE h];rfl
 ·rw[bD h];cases e:mZ ((mI prs.length).map λc=>(c.map (Sum.inl:Int->hI),rN C prs t c)) (b.map Sum.inl) with
  | none=>rfl
  | some d =>
   unfold mZ at e;obtain⟨p,a,_⟩:=cF.mp e;obtain⟨c,f,rfl⟩:=aV.mp (hX a);have:=mB a;exact (h (by rw[← wN (cB this)];exact f)).elim
def Uj:RD:=λdk ds Φ=>∃ (C:Cel) (prs:List (Str×Str)) (t:nK) (c:List Int) (kvs:List (List hI×D)) (paper:List (List Int)),ds=[rN C prs t c,.dT kvs]/\RwOk C prs/\Ms kvs paper/\∀ b:Bool,(b=true↔yI C prs t paper c)->Φ (.val (.bl b))
def Vj:RD:=λdk ds Φ=>∃ (C:Cel) (prs:List (Str×Str)) (t:nK) (ekv:List (hI×D)) (ef:Str->Option Int) (paper:List (List Int)),ds=[nA C prs,.tup [.dK ekv,.dK (hO t)],.tup (paper.map mL)]/\RwOk C prs/\(∀ p∈prs,mZ ekv (Sum.inr p.2)=some (rA (ef p.2)))/\paper.length<=1000/\∀ b:Bool,(b=true↔Eu C prs t ef paper)->Φ (.val (.bl b))
section
variable {P:Program}{K:mC}
theorem EZ:FnScope ["steps","held"] ["steps","held"] (nF En):=oW
theorem Lu:FnScope ["row","claim","paper","table","held"] ["row","claim","paper"] (nF Fo):=oW
theorem AM (F:Fun K "stays_held" "stays_held" En f fd) (T:Txt mg):FnOk P w K mg base mJ 1 f fd ["steps","held"] (mQ K Uj):=by
 refine F.okD (k:=0) EZ (λM Z O ⟨_,_,_,_,_,_,e,_⟩=>by rw[e];rfl) (by decide) λaa A v s H E M Z O I V=>?_
 have o:=oX I;obtain⟨C,a,t,c,d,b,rfl,W,S,y⟩:=V;refine⟨_,(mW (nQ (oF (C8 rfl) Dr (by rfl) T.all hU (aD (E4 ["bits"] ["steps","held"] [0,1] rfl (eA 0 (pv 0)) rfl rfl (λ_ _ _ _ _=>(mM (i:=0) HX rfl (Or.inl rfl))) (λ_ _ _ _ _=>pG) (λ_ _ _ _ _=>(KQ (Cp (rL I.units) (qD false) (pY o (mP o (pv 1) (eA 0 (pv 0))) kD) kD) (Sk (M4 (Hm o) (wE false) (pY o (mP o (pv 1) (eA 0 (pv 0))) kD) (pv 2)))))) gV)))),?_⟩;have Q:=W.li;have l1:(mH C a).length<=C.ins.length:=cD _ _;have Y:=vP (show (mH C a).length<=6 by omega);have U:=uU (mH C a).length;unfold rC dC aC;refine pZ (mI (mH C a).length) mE (λl=>D.bl (decide (sJ C a t (oG C a c l)=0)&&decide (sQ C a c l∈b))) [.val (rN C a t c),.val (.dT d)] (λN h=>?_) (by omega) (λj l m u e L p=>?_) ?_
 ·show N (rK _) _;rw[Cu];exact h
 ·have B:=yO (wA C a t c) (aI e);refine⟨rfl,_,B,_,rfl,?_⟩;have go:∀ q:Bool,u (m++[D.bl (q&&decide (sQ C a c l∈b))]) (oQ [0,1] [.val (rN C a t c),.val (.dT d)])->(match (Sl.val (D.bl q)) with
    | Sl.val (D.bl true) =>
     Gx (Ph false) (d2 Co (xB Co 1 (vd 0)) (cd (D.int 0))) 2 M [.val (mE l),.val (rN C a t c),.val (.dT d)] λr g =>
      match sd r with
      | some c=>m.length<100000/\u (m++[c]) (List.drop 1 g)
      | none=>False
    | Sl.val (D.bl false) =>
     (λr g =>match sd r with
       | some c=>m.length<100000/\u (m++[c]) (List.drop 1 g)
       | none=>False)
      (Sl.val (D.bl false)) [.val (mE l),.val (rN C a t c),.val (.dT d)]
    | x=>False):=λq p=>by
   cases q with
   | false=>exact⟨L,p⟩
   | true =>
    refine⟨rfl,_,B,_,rfl,_,Cw (sQ C a c l),L,?_⟩;show u (m++[D.bl (mZ d ((sQ C a c l).map Sum.inl)).isSome]) _;rw[S.2];exact p
  exact go _ p
 ·refine⟨(mI (mH C a).length).map λl=>(decide (sJ C a t (oG C a c l)=0)&&decide (sQ C a c l∈b)),?_,y _ ?_⟩
  ·rw[← Bm,aQ];rfl
  ·rw[kA,cG];refine⟨λh l z=>?_,λh l z=>?_⟩
   ·have:=h l z;simp only[Function.comp,id,cE,dZ] at this;exact this
   ·simp only[Function.comp,id,cE,dZ];exact h l z
theorem IV (F:Fun K "row_shown" "row_shown" Fo f fd) (T:Txt mg) (No:Gd K mg "step_table" Ie ["row","weights"] fT fdT) (NX:FnOk P w K mg base mJ 5 fT fdT ["row","weights"] (mQ K Gs))
  (Jx:Gd K mg "let_edges" F0 ["row","edges"] fL fdL) (LL:FnOk P w K mg base mJ 2 fL fdL ["row","edges"] (mQ K Es)) (Js:Gd K mg "stays_held" En ["steps","held"] fS fdS) (KJ:FnOk P w K mg base mJ 1 fS fdS ["steps","held"] (mQ K Uj)):FnOk P w K mg base mJ 6 f fd ["row","claim","paper"] (mQ K Vj):=by
 refine F.okD (k:=5) Lu (λdk ds Φ ⟨_,_,_,_,_,_,e,_⟩=>by rw[e];rfl) (by decide) λac A Y s H E dk ds Φ S hR=>?_
 have Q:=oX S;obtain⟨C,d,t,l,q,a,rfl,Z,he,V,O⟩:=hR;refine⟨_,(mF (mY (i:=3) Lu.nd rfl (Or.inr rfl) (mV NX (S.mono (by decide)) (by rfl) No.m No.k No.b (aD (eA 0 (pv 0)) (aD (mP Q (pv 1) kD) gV)))) (mF (mY (i:=4) Lu.nd rfl (Or.inr rfl) (pC (X2 rfl (GO S)) X4 (by rfl) T.dict cZ (aD (pP ["carried"] [] [] rfl (nS (eA 2 (pv 2))) rfl rfl (λ_ _ _ _ _=>(mM (i:=0) RU rfl (Or.inl rfl))) (λ_ _ _ _ _=>pG) (λ_ _ _ _ _=>(oS (aD (eA 0 (pv 0)) (aD vI gV))))) gV))) (mF (qT (K2 (Eg (oF (C8 rfl) Dr (by rfl) T.all hU (aD (E4 ["carried"] ["table"] [3] rfl (eA 4 (pv 4)) rfl rfl (λ_ _ _ _ _=>(mM (i:=0) JR rfl (Or.inl rfl))) (λ_ _ _ _ _=>pG) (λ_ _ _ _ _=>(M4 (Hm Q) (wE false) (eA 0 (pv 0)) (pv 1)))) gV)))) (mW (nQ vI)) rB) (mF (qT (K2 (Eg (oF (C8 rfl) Dr (by rfl) T.all hU (aD (pP ["edges"] ["held"] [4] rfl (nS (mV LL (S.mono (by decide)) (by rfl) Jx.m Jx.k Jx.b (aD (eA 0 (pv 0)) (aD (mP Q (pv 1) kD) gV)))) rfl rfl (λ_ _ _ _ _=>(mM (i:=0) FT rfl (Or.inl rfl))) (λ_ _ _ _ _=>pG) (λ_ _ _ _ _=>(M4 (Hm Q) (wE false) (eA 0 (pv 0)) (pv 1)))) gV)))) (mW (nQ vI)) rB) (mW (nQ (oF (C8 rfl) Dr (by rfl) T.all hU (aD (E4 ["carried"] ["table","held"] [3,4] rfl (eA 4 (pv 4)) rfl rfl (λ_ _ _ _ _=>(mM (i:=0) Y7 rfl (Or.inl rfl))) (λ_ _ _ _ _=>pG) (λ_ _ _ _ _=>(mV KJ (S.mono (by decide)) (by rfl) Js.m Js.k Js.b (aD (mP Q (pv 1) (eA 0 (pv 0))) (aD (eA 2 (pv 2)) gV))))) gV)))))))),?_⟩;have U:=Z.lp;have ab:=vP U;have aa:=uU d.length;obtain⟨g,u⟩:∃ g,g=(tF nR [] (a.map λc=>(c,D.bl true))):=⟨_,rfl⟩;have hh:Ms g a:=by rw[u];exact Xz V
 obtain⟨⟨r,ek,mk,lk⟩,hv⟩:=id hh;have kk:rK g=r.map mE:=O5 ek;refine mK (λv=>v=[.val (nA C d),.val (.tup [.dK l,.dK (hO t)]),.val (.tup (a.map mL)),.own (nM C d t),.no]) (λN x=>?_) ?_
 ·exact⟨rfl,_,rfl,C,d,t,rfl,Z,.inl rfl,x _ rfl⟩
 rintro _ rfl;refine mK (λv=>v=[.val (nA C d),.val (.tup [.dK l,.dK (hO t)]),.val (.tup (a.map mL)),.own (nM C d t),.own (.dT g)]) (λN x=>?_) ?_
 ·unfold rG dC aC;refine pZ a mL (λc=>D.tup [mL c,.bl true]) [.val (nA C d),.val (.tup [.dK l,.dK (hO t)]),.val (.tup (a.map mL)),.own (nM C d t),.no] (λL h=>h) (by omega) (λj y M W e I B=>⟨by show 2<=1000;decide,I,B⟩) ?_;refine⟨a.map λc=>(c,D.bl true),by rw[aQ];rfl,by rw[aA];exact V,?_⟩;rw[← u];exact x _ rfl
 rintro _ rfl;have no:¬ Eu C d t q a->Φ (.val (.bl false)):=λh=>O false ⟨λz=>Bool.noConfusion z,λz=>(h z).elim⟩
 refine mK (λv=>(∀ c∈a,c∈mI d.length)/\v=[.val (nA C d),.val (.tup [.dK l,.dK (hO t)]),.val (.tup (a.map mL)),.own (nM C d t),.val (.dT g)]) (λN x=>?_) ?_
 ·unfold Dy M9 Ol dC aC;refine pZ r mE (λc=>D.bl (decide (c∈mI d.length))) [.val (nA C d),.val (.tup [.dK l,.dK (hO t)]),.val (.tup (a.map mL)),.own (nM C d t),.val (.dT g)] (λL h=>?_) (by omega) (λj y M W e I B=>?_) ?_
  ·show L (rK g) _;rw[kk];exact h
  ·refine⟨_,Cw y,I,?_⟩;show W (M++[D.bl (mZ _ (y.map Sum.inl)).isSome]) _;rw[U7];exact B
  ·refine⟨r.map λc=>decide (c∈mI d.length),by rw[← Bm,aQ];rfl,rfl,_,rfl,?_⟩;rw[kA];by_cases o:∀ c∈a,c∈mI d.length
   ·have e:r.all (id∘λc=>decide (c∈mI d.length))=true:=cG.mpr λc p=>bE (o c ((mk c).mp p))
    rw[e];exact pT (x _ ⟨o,rfl⟩)
   ·have e:r.all (id∘λc=>decide (c∈mI d.length))=false:=by
     cases e:r.all (id∘λc=>decide (c∈mI d.length)) with
     | false=>rfl
     | true=>exact (o λc p=>cB (cG.mp e c ((mk c).mpr p))).elim
    rw[e];exact (aP rfl).mpr (no λz=>o z.1)
 rintro _ ⟨p1,rfl⟩;refine mK (λv=>(∀ e∈pU d q,e∈a)/\v=[.val (nA C d),.val (.tup [.dK l,.dK (hO t)]),.val (.tup (a.map mL)),.own (nM C d t),.val (.dT g)]) (λN x=>?_) ?_
 ·unfold Dy M9 Ol dC aC;refine pZ (pU d q) mE (λe=>D.bl (decide (e∈a))) [.val (nA C d),.val (.tup [.dK l,.dK (hO t)]),.val (.tup (a.map mL)),.own (nM C d t),.val (.dT g)] (λL h=>?_) ?_ (λj y M W e I B=>?_) ?_
  ·exact⟨rfl,_,rfl,C,d,l,q,rfl,U,he,.inl rfl,h⟩
  ·exact bY (cD _ _) (by omega)
  ·refine⟨_,Cw y,I,?_⟩;show W (M++[D.bl (mZ _ (y.map Sum.inl)).isSome]) _;rw[hv];exact B
  ·refine⟨(pU d q).map λc=>decide (c∈a),by rw[← Bm,aQ];rfl,rfl,_,rfl,?_⟩;rw[kA];by_cases o:∀ c∈pU d q,c∈a
   ·have e:(pU d q).all (id∘λc=>decide (c∈a))=true:=cG.mpr λc p=>bE (o c p)
    rw[e];exact pT (x _ ⟨o,rfl⟩)
   ·have e:(pU d q).all (id∘λc=>decide (c∈a))=false:=by
     cases e:(pU d q).all (id∘λc=>decide (c∈a)) with
     | false=>rfl
     | true=>exact (o λc p=>cB (cG.mp e c p)).elim
    rw[e];exact (aP rfl).mpr (no λz=>o z.2.1)
 rintro _ ⟨p2,rfl⟩;unfold rC dC aC
 haveI:∀ c,Decidable (yI C d t a c):=λc=>Classical.propDecidable _
 refine pZ r mE (λc=>D.bl (decide (yI C d t a c))) [.val (nA C d),.val (.tup [.dK l,.dK (hO t)]),.val (.tup (a.map mL)),.own (nM C d t),.val (.dT g)] (λL h=>?_) (by omega) (λj y M W e I B=>?_) ?_
 ·show L (rK g) _;rw[kk];exact h
 ·have hy:y∈mI d.length:=p1 y ((mk y).mp (aI e));refine⟨rfl,_,yO (rN C d t) hy,C,d,t,y,g,a,rfl,Z,hh,λb o=>⟨.inl rfl,I,?_⟩⟩;have eb:b=decide (yI C d t a y):=by
   cases b with
   | true=>exact (bE (o.mp rfl)).symm
   | false=>exact (bD λz=>bF (o.mpr z)).symm
  rw[eb];exact B
 ·refine⟨r.map λc=>decide (yI C d t a c),by rw[← Bm,aQ];rfl,O _ ?_⟩;rw[kA,cG];exact⟨λh=>⟨p1,p2,λc p=>cB (h c ((mk c).mpr p))⟩,λh c p=>bE (h.2.2 c ((mk c).mp p))⟩
end
theorem BM:(["letter","steps","state"]:List Str).Nodup:=by decide +kernel
def P6:RD:=λdk ds Φ=>∃ (C:Cel) (prs:List (Str×Str)) (t:nK) (c:List Int),ds=[nM C prs t,mE c]/\RwOk C prs/\c∈mI prs.length/\∀ b:Bool,(b=true↔∃ l∈mI (mH C prs).length,sJ C prs t (oG C prs c l)≠0)->Φ (.val (.bl b))
def Tu:RD:=λdk ds Φ=>∃ (C:Cel) (prs:List (Str×Str)) (t:nK) (ef:Str->Option Int) (paper:List (List Int)),ds=[nM C prs t,.lst ((pU prs ef).map mE),.lst (paper.map mL)]/\RwOk C prs/\∀ b:Bool,(b=true↔Eu C prs t ef paper)->Φ (.val (.bl b))
section
variable {P:Program}{K:mC}
theorem FH:FnScope ["steps","state"] ["steps","state"] (nF F9):=oW
theorem F3:FnScope ["steps","starts","paper","state","letter"] ["steps","starts","paper"] (nF E3):=oW
theorem BD (F:Fun K "_law_breaks" "_law_breaks" F9 f fd) (T:Txt mg):FnOk P w K mg base mJ 1 f fd ["steps","state"] (mQ K P6):=by
 refine F.okD (k:=0) FH (λY W v ⟨_,_,_,_,e,_⟩=>by rw[e];rfl) (by decide) λZ A m s H E Y W v p N=>?_
 have d:=oX p;obtain⟨C,a,t,c,rfl,O,L,o⟩:=N;refine⟨_,(mW (nQ (Cp (Av p.units) (qD true) (E4 ["letter"] ["steps","state"] [0,1] rfl (mP d (pv 0) (eA 1 (pv 1))) rfl rfl (λ_ _ _ _ _=>(mM (i:=0) BM rfl (Or.inl rfl))) (λ_ _ _ _ _=>(xE (C1 (Av p.units) (qD true) (pY d (pY d (mP d (pv 1) (eA 2 (pv 2))) (eA 0 (pv 0))) kD) kD))) (λ_ _ _ _ _=>(eA 0 (pv 0)))) (nN gV)))),?_⟩;have B:=O.li;have l1:(mH C a).length<=C.ins.length:=cD _ _;have Q:=vP (show (mH C a).length<=6 by omega);have M:=uU (mH C a).length;have q:=yO (rN C a t) L;unfold rC;refine xV (mI (mH C a).length) mE mE (λl=>decide (sJ C a t (oG C a c l)≠0)) [.val (nM C a t),.val (mE c)] (λu h=>?_) (by omega) (λj l ys Nx e V U S=>?_) ?_
 ·refine⟨rfl,_,q,?_⟩;show u (rK _) _;rw[Cu];exact h
 ·have x:=yO (wA C a t c) (aI e);refine⟨rfl,_,q,_,x,_,rfl,?_⟩;show if (!decide (sJ C a t (oG C a c l)=0))=true then _ else _
  by_cases g:sJ C a t (oG C a c l)=0
  ·rw[bE g];exact pT (S (bD λz=>z g))
  ·rw[bD g];exact (aP rfl).mpr ⟨V,U (bE g)⟩
 ·refine⟨by show 0<=1000;decide,?_⟩;refine o (!(((mI (mH C a).length).filter λl=>decide (sJ C a t (oG C a c l)≠0)).map mE).isEmpty) ?_;rw[List.isEmpty_map];constructor
  ·intro z;cases e:(mI (mH C a).length).filter λl=>decide (sJ C a t (oG C a c l)≠0) with
   | nil=>rw[e] at z;cases z
   | cons l r =>
    have b:l∈(mI (mH C a).length).filter λl=>decide (sJ C a t (oG C a c l)≠0):=by rw[e];exact aK
    exact⟨l,(cT.mp b).1,cB (cT.mp b).2⟩
  ·rintro ⟨l,I,y⟩;have b:l∈(mI (mH C a).length).filter λl=>decide (sJ C a t (oG C a c l)≠0):=cT.mpr ⟨I,bE y⟩
   cases e:(mI (mH C a).length).filter λl=>decide (sJ C a t (oG C a c l)≠0) with
   | nil=>rw[e] at b;exact (bH b).elim
   | cons _ _=>rfl
theorem MW (F:Fun K "_law_lets_by" "_law_lets_by" E3 f fd) (T:Txt mg) (K3:Gd K mg "_law_breaks" F9 ["steps","state"] fB fdB) (IE:FnOk P w K mg base mJ 1 fB fdB ["steps","state"] (mQ K P6)):FnOk P w K mg base mJ 2 f fd ["steps","starts","paper"] (mQ K Tu):=by
 refine F.okD (k:=1) F3 (λdk ds Φ ⟨_,_,_,_,_,e,_⟩=>by rw[e];rfl) (by decide) λaa A Z s H E dk ds Φ hr hR=>?_
 have L:=oX hr;obtain⟨C,d,t,q,a,rfl,hC,O⟩:=hR;refine⟨_,(mF (qU (m:=99) bM rfl (nS (eA 1 (pv 1))) (mM (i:=3) F3.nd rfl (Or.inl rfl)) (mW (qT (xY (Qh L) (T9 true) (eA 3 (pv 3)) (pv 2)) (mW (nQ vI)) rB))) (mF (qU (m:=99) bM rfl (nS (eA 2 (pv 2))) (mM (i:=3) F3.nd rfl (Or.inl rfl)) (mF (qT (Gj (Kj (xY (zG L) (wE true) (eA 3 (pv 3)) (pv 0)) (We (Eg (mV IE (hr.mono (by decide)) (by rfl) K3.m K3.k K3.b (aD (eA 0 (pv 0)) (aD (eA 3 (pv 3)) gV))))))) (mW (nQ vI)) rB) (mW (T3 (m:=99) bM rfl (mP L (pv 0) (eA 3 (pv 3))) (mM (i:=4) F3.nd rfl (Or.inl rfl)) (mW (qT (xY (Qh L) (T9 true) (pY L (pY L (mP L (pv 0) (eA 3 (pv 3))) (eA 4 (pv 4))) kD) (pv 2)) (mW (nQ vI)) rB)))))) (mW (nQ vI)))),?_⟩;have no:¬ Eu C d t q a->Φ (.val (.bl false)):=λh=>O false ⟨λz=>Bool.noConfusion z,λz=>(h z).elim⟩
 refine mK (λo=>(∀ e∈pU d q,e∈a)/\∃ p g,o=[.val (nM C d t),.val (.lst ((pU d q).map mE)),.val (.lst (a.map mL)),p,g]) (λN V=>?_) ?_
 ·refine rF ((pU d q).map mE) [.val (nM C d t),.val (.lst ((pU d q).map mE)),.val (.lst (a.map mL)),.no,.no] (λY h=>h) (λi o=>(∀ e∈(pU d q).take i,e∈a)/\∃ p g,o=[.val (nM C d t),.val (.lst ((pU d q).map mE)),.val (.lst (a.map mL)),p,g]) ⟨λe I=>by simp at I,.no,.no,rfl⟩ ?_ ?_
  ·rintro i x o Q ⟨v,p,g,rfl⟩;obtain⟨e,I,rfl⟩:=qH Q;refine⟨e,a,rfl,rfl,?_⟩;by_cases r:e∈a
   ·show if (!decide (e∈a))=true then _ else _
    rw[bE r];refine pT ⟨λc y=>?_,_,g,rfl⟩;rw[bS,I] at y;exact (aR.mp y).elim (v c) λz=>by rw[bA.mp z];exact r
   ·show if (!decide (e∈a))=true then _ else _
    rw[bD r];exact (aP rfl).mpr (no λz=>r (z.2.1 e (aI I)))
  ·rintro o ⟨v,p,g,rfl⟩;rw[aA,cI] at v;exact V _ ⟨v,p,g,rfl⟩
 rintro _ ⟨p2,p,g,rfl⟩;refine mK (λo=>(∀ c∈a,c∈mI d.length/\yI C d t a c)/\∃ p g,o=[.val (nM C d t),.val (.lst ((pU d q).map mE)),.val (.lst (a.map mL)),p,g]) (λN V=>?_) ?_
 ·refine rF (a.map mL) [.val (nM C d t),.val (.lst ((pU d q).map mE)),.val (.lst (a.map mL)),p,g] (λY h=>h) (λi o=>(∀ c∈a.take i,c∈mI d.length/\yI C d t a c)/\∃ p g,o=[.val (nM C d t),.val (.lst ((pU d q).map mE)),.val (.lst (a.map mL)),p,g]) ⟨λe I=>by simp at I,p,g,rfl⟩ ?_ ?_
  ·rintro i x o Q ⟨v,p,g,rfl⟩;obtain⟨c,y,rfl⟩:=qH Q;have M:c∈a:=aI y;refine mK (λo=>(c∈mI d.length/\∀ l∈mI (mH C d).length,sJ C d t (oG C d c l)=0)/\o=[.val (nM C d t),.val (.lst ((pU d q).map mE)),.val (.lst (a.map mL)),.val (mE c),g]) (λN V=>?_) ?_
   ·refine⟨_,Cw c,?_⟩;show if (!(mZ _ (c.map Sum.inl)).isSome)=true then _ else _
    rw[U7];by_cases B:c∈mI d.length
    ·rw[bE B];refine pT ⟨C,d,t,c,rfl,hC,B,λb r=>⟨.inl rfl,rfl,_,rfl,?_⟩⟩;cases b with
     | true =>
      obtain⟨l,u,hn⟩:=r.mp rfl;exact (aP rfl).mpr (no λz=>hn (z.2.2 c M l u).1)
     | false =>
      refine pT (V _ ⟨⟨B,λl u=>?_⟩,rfl⟩);cases Classical.em (sJ C d t (oG C d c l)=0) with
      | inl h=>exact h
      | inr h=>exact (bF (r.mpr ⟨l,u,h⟩)).elim
    ·rw[bD B];exact (aP rfl).mpr ((aP rfl).mpr (no λz=>B (z.1 c M)))
   rintro _ ⟨⟨B,q2⟩,rfl⟩;have ht:=yO (rN C d t) B;refine rF ((mI (mH C d).length).map mE) [.val (nM C d t),.val (.lst ((pU d q).map mE)),.val (.lst (a.map mL)),.val (mE c),g] (λY h=>?_) (λj o=>(∀ l∈(mI (mH C d).length).take j,sQ C d c l∈a)/\∃ g,o=[.val (nM C d t),.val (.lst ((pU d q).map mE)),.val (.lst (a.map mL)),.val (mE c),g]) ⟨λe I=>by simp at I,g,rfl⟩ ?_ ?_
   ·refine⟨rfl,_,ht,?_⟩;show Y (rK _) _;rw[Cu];exact h
   ·rintro j x o Q ⟨W,g,rfl⟩;obtain⟨l,u,rfl⟩:=qH Q;have hv:=yO (wA C d t c) (aI u);refine⟨rfl,_,ht,_,hv,_,rfl,sQ C d c l,a,rfl,rfl,?_⟩;show if (!decide (sQ C d c l∈a))=true then _ else _
    by_cases r:sQ C d c l∈a
    ·rw[bE r];refine pT ⟨λl' S=>?_,_,rfl⟩;rw[bS,u] at S;exact (aR.mp S).elim (W l') λz=>by rw[bA.mp z];exact r
    ·rw[bD r];exact (aP rfl).mpr (no λz=>r (z.2.2 c M l (aI u)).2)
   ·rintro o ⟨W,g,rfl⟩;rw[aA,cI] at W;refine⟨λc' U=>?_,_,g,rfl⟩;rw[bS,y] at U;exact (aR.mp U).elim (v c') λz=>by rw[bA.mp z];exact⟨B,λl u=>⟨q2 l u,W l u⟩⟩
  ·rintro o ⟨v,p,g,rfl⟩;rw[aA,cI] at v;exact V _ ⟨v,p,g,rfl⟩
 rintro _ ⟨p3,p,g,rfl⟩;exact O true ⟨λ_=>⟨λc y=>(p3 c y).1,p2,λc y=>(p3 c y).2⟩,λ_=>rfl⟩
end
def oR (Ls:List (List (List Int))):List D:=Ls.map λL=>D.lst (L.map mL)
def oO (ks:List (List Int)):List (List hI×D):=ks.map λk=>(k.map (Sum.inl:Int->hI),D.bl true)
theorem MR (ks:List (List Int)) (c:List Int):nR (oO ks) (c.map Sum.inl) (D.bl true)=oO (if c∈ks then ks else ks++[c]):=by
 by_cases a:c∈ks
 ·rw[aP a];unfold nR oO;rw[aP (eO.mpr ⟨(c.map Sum.inl,D.bl true),aV.mpr ⟨c,a,rfl⟩,by simp⟩),aQ];refine eP λk _=>?_
  show (if k.map (Sum.inl:Int->hI)=c.map Sum.inl then (k.map (Sum.inl:Int->hI),D.bl true) else (k.map (Sum.inl:Int->hI),D.bl true))=_;split<;>rfl
 ·rw[aM a,Lk]
  ·unfold oO;rw[List.map_append];rfl
  ·intro z;unfold oO at z;rw[aQ] at z;obtain⟨k,b,e⟩:=aV.mp z;have e:k=c:=wN e;exact a (e▸b)
theorem Vk (h:ks.length<100000) (c:List Int):uJ (.dT (oO ks)) (mE c) (.bl true)=some (.dT (oO (if c∈ks then ks else ks++[c]))):=by
 show (if (oO ks).length<100000 then (tM (c.map D.int)).map (λk=>D.dT (nR (oO ks) k (.bl true))) else none)=_;rw[aP (by unfold oO;rw[List.length_map];exact h),Aw,jN,MR]
theorem QG (ks:List (List Int)) (c:List Int):(mZ (oO ks) (c.map Sum.inl)).isSome=decide (c∈ks):=by
 unfold oO;by_cases a:c∈ks
 ·rw[C4 (λ_=>D.bl true) a,bE a];rfl
 ·rw[bD a];cases e:mZ (ks.map λk=>(k.map (Sum.inl:Int->hI),D.bl true)) (c.map Sum.inl) with
  | none=>rfl
  | some d =>
   unfold mZ at e;obtain⟨p,b,_⟩:=cF.mp e;obtain⟨k,f,rfl⟩:=aV.mp (hX b);have:=mB b;exact (a (by rw[← wN (cB this)];exact f)).elim
theorem Rt:∀ {n:Nat}{b:List Int},b.length=n->(∀ x∈b,x=0\/x=1)->b∈mI n
 | 0,[],_,_=>bA.mpr rfl
 | 0,_::_,e,_=>by cases e
 | n+1,[],e,_=>by cases e
 | n+1,x::b,e,h=>by
  have a:=Rt (n:=n) (b:=b) (by simpa using e) λy c=>h y (aT _ c)
  unfold mI;rcases h x aK with rfl | rfl
  ·exact bC _ (fQ a)
  ·exact aN _ (fQ a)
theorem DK (hC:RwOk C prs) (hc:c∈mI prs.length) (hl:l∈mI (mH C prs).length):sQ C prs c l∈mI prs.length:=by
 obtain⟨i,h⟩:=uZ hc;obtain⟨b,a⟩:=uZ hl;obtain⟨_,_,g⟩:=Ep hC i b h a;refine Rt (by unfold sQ;rw[List.length_map]) λx e=>?_
 obtain⟨p,f,rfl⟩:=aV.mp e;exact Na hC.gc (λy d=>(g y d).2) p.1 (hC.m p f).1
theorem Jm (xs:List α) (x:α):oZ (xs++[x]) (-1)=some x:=by
 unfold oZ tQ;rw[aM (by decide),aP (by rw[aH,bW];omega)];show (xs++[x])[((-1:Int)+((xs++[x]).length:Int)).toNat]?=some x;rw[show ((-1:Int)+((xs++[x]).length:Int)).toNat=xs.length by rw[aH,bW];omega];simp
theorem KP (xs:List D) (x:D):oY (xs++[x]) none (some (-1))=xs:=by
 unfold oY;rw[HT.sIx_none];have e:HT.sIx (xs++[x]).length (xs++[x]).length (some (-1))=xs.length:=by
  show (if (-1:Int)<0 then ((-1:Int)+((xs++[x]).length:Int)).toNat else min (-1:Int).toNat (xs++[x]).length)=_;rw[aP (by decide),aH,bW];omega
 rw[e];simp
theorem Bb (Ls:List (List (List Int))) (L:List (List Int)):oR (Ls++[L])=oR Ls++[D.lst (L.map mL)]:=by unfold oR;rw[List.map_append];rfl
theorem Nr {n:Nat}{ks:List (List Int)}(nd:ks.Nodup) (h:∀ c∈ks,c∈mI n):ks.length<=2 ^ n:=by rw[← uU n];exact nd.length_le_of_subset h
theorem Mv {n:Nat}{ks:List (List Int)}(nd:ks.Nodup) (h:∀ c∈ks,c∈mI n) (h2:2<=ks.length):∀ b∈ks,b≠[]:=by
 rintro b a rfl;have:=(uZ (h [] a)).1;have:=Nr nd h;subst n;simp at this;omega
def BH (ρ:List Sl):Nat:=match ρ[3]? with
 | some (Sl.own (D.dT kvs))=>kvs.length
 | _=>0
def Sv:RD:=λdk ds Φ=>∃ (C:Cel) (prs:List (Str×Str)) (t:nK) (st:List (List Int)),ds=[nM C prs t,.lst (st.map mE)]/\RwOk C prs/\prs.length<=4/\st≠[]/\st.Nodup/\(∀ c∈st,c∈mI prs.length)/\∀ Ls:List (List (List Int)),Ls.flatten≠[]->(∀ L∈Ls,∀ c∈L,c∈mI prs.length)->Ls.flatten.length<=16->Ls.length<=16->Φ (.own (.lst (oR Ls)))
section
variable {P:Program}{K:mC}
theorem Az:FnScope ["steps","starts","levels","known","behind","state","letter"] ["steps","starts"] (nF Fi):=oW
theorem OJ (F:Fun K "_law_reached" "_law_reached" Fi f fd) (T:Txt mg):FnOk P w K mg base mJ 1 f fd ["steps","starts"] (mQ K Sv):=by
 refine F.okD (k:=0) Az (λdk ds Φ ⟨_,_,_,_,e,_⟩=>by rw[e];rfl) (by decide) λar A af s H E dk ds Φ hr hR=>?_
 have B:=oX hr;obtain⟨C,d,t,st,rfl,hC,aj,ai,U,M,ah⟩:=hR;refine⟨_,(mF (mY (i:=2) Az.nd rfl (Or.inl rfl) (nN (aD (oF (Ln rfl) Np (by rfl) T.sorted jK (aD (eA 1 (pv 1)) gV)) gV))) (mF (mY (i:=3) Az.nd rfl (Or.inl rfl) Bx) (mF (Pe bM (C1 (Av hr.units) (qD true) (mP B (pv 2) (wG kD)) (nN gV)) (mF (mY (i:=4) Az.nd rfl (Or.inl rfl) Bx) (mF (qU (m:=99) bM rfl (nS (mP B (pv 2) (wG kD))) (mM (i:=5) Az.nd rfl (Or.inl rfl)) (mW (vW (n:=3) B vI (pv 3) (eA 5 (pv 5))))) (mF (qU (m:=99) bM rfl (nS (mP B (pv 2) (wG kD))) (mM (i:=5) Az.nd rfl (Or.inl rfl)) (mW (T3 (m:=99) bM rfl (mP B (pv 0) (eA 5 (pv 5))) (mM (i:=6) Az.nd rfl (Or.inl rfl)) (mW (qT (xY (zG B) (wE true) (pY B (pY B (mP B (pv 0) (eA 5 (pv 5))) (eA 6 (pv 6))) kD) (pv 3)) (mW (vW (n:=4) B vI (pv 4) (pY B (pY B (mP B (pv 0) (eA 5 (pv 5))) (eA 6 (pv 6))) kD))) rB))))) (mW (rW (qX bG bN bO rQ sU (pv 2) (aD (oF (Ln rfl) Np (by rfl) T.sorted jK (tH (pv 4) gV)) gV)))))))) (mW (nQ (tJ uD tW (pv 2) sZ (tL (wG kD)))))))),?_⟩;have an:=kT (show 0<2 by decide) aj;have nn:∀ {ks:List (List Int)},ks.Nodup->(∀ c∈ks,c∈mI d.length)->ks.length<=16:=λnd h=>bY (Nr nd h) an
 have aq:=hC.li;have w1:(mH C d).length<=C.ins.length:=cD _ _;refine mK (λo=>∃ L:List (List Int),L.Perm st/\o=[.val (nM C d t),.val (.lst (st.map mE)),.own (.lst (oR ([]++[L]))),.no,.no,.no,.no]) (λN O=>?_) ?_
 ·exact⟨st,rfl,by have:=nn U M;omega,Mv U M,λys hp=>⟨by show 1<=1000;decide,O _ ⟨ys,hp,rfl⟩⟩⟩
 rintro _ ⟨L0,Q,rfl⟩;refine mK (λo=>o=[.val (nM C d t),.val (.lst (st.map mE)),.own (.lst (oR ([]++[L0]))),.own (.dT (oO [])),.no,.no,.no]) (λN O=>O _ rfl) ?_;rintro _ rfl;refine mK (λo=>∃ (r:List (List (List Int))) (g:List (List Int)) (s3 V q p:Sl),o=[.val (nM C d t),.val (.lst (st.map mE)),.own (.lst (oR (r++[[]]))),s3,V,q,p]/\r.flatten≠[]/\(∀ L'∈r,∀ c∈L',c∈mI d.length)/\r.flatten.length<=16/\r.length<=16) (λN O=>?_) ?_
 ·refine⟨λo=>∃ (r:List (List (List Int))) (L g:List (List Int)) (V q p:Sl),o=[.val (nM C d t),.val (.lst (st.map mE)),.own (.lst (oR (r++[L]))),.own (.dT (oO g)),V,q,p]/\L.Nodup/\(∀ c∈L,c∈mI d.length/\c∉g)/\g.Nodup/\(∀ c∈g,c∈mI d.length)/\(r++[L]).flatten≠[]/\(∀ L'∈r,∀ c∈L',c∈mI d.length)/\r.flatten.length=g.length/\r.length<=g.length,λo=>17-BH o,?_,?_⟩
  ·refine⟨[],L0,[],.no,.no,.no,rfl,Q.nodup_iff.mpr U,λc v=>⟨M c (Q.mem_iff.mp v),bH⟩,eS,λ_ h=>(bH h).elim,?_,λ_ h=>(bH h).elim,rfl,aZ _⟩;show (([]++[L0]:List (List (List Int)))).flatten≠[];rw[gI,fF,List.flatten_nil,dO];exact λz=>ai (by rw[z] at Q;exact Q.symm.eq_nil)
  ·rintro o ⟨r,L,g,V,q,p,rfl,v1,Y,v3,v4,v5,v6,v7,v8⟩;have kl:=nn v3 v4;refine⟨rfl,_,by rw[Bb];exact Jm _ _,by show 0<=1000;decide,?_⟩;show if (!(L.map mL).isEmpty)=true then _ else _
   cases L with
   | nil =>
    refine pT (O _ ⟨r,g,_,V,q,p,rfl,?_,v6,by omega,by omega⟩);rw[iJ] at v5
    simpa using v5
   | cons c0 L1 =>
    obtain⟨L,hL⟩:∃ L,L=c0::L1:=⟨_,rfl⟩;rw[← hL];have ao:1<=L.length:=by rw[hL];simp
    rw[← hL] at v1 Y v5;refine (aP (by rw[hL];rfl)).mpr ?_;have S:(g++L).Nodup:=bK.mpr ⟨v3,v1,λa ha b hb e=>(Y b hb).2 (e▸ha)⟩;have Z:∀ c∈g++L,c∈mI d.length:=λc v=>(aR.mp v).elim (v4 c) λh=>(Y c h).1
    have lA:=nn S Z;rw[aH] at lA;refine mK (λo=>o=[.val (nM C d t),.val (.lst (st.map mE)),.own (.lst (oR (r++[L]))),.own (.dT (oO g)),.own (.dT (oO [])),q,p]) (λN O=>O _ rfl) ?_;rintro _ rfl;refine mK (λo=>∃ q,o=[.val (nM C d t),.val (.lst (st.map mE)),.own (.lst (oR (r++[L]))),.own (.dT (oO (g++L))),.own (.dT (oO [])),q,p]) (λN O=>?_) ?_
    ·refine rF (L.map mL) [.val (nM C d t),.val (.lst (st.map mE)),.own (.lst (oR (r++[L]))),.own (.dT (oO g)),.own (.dT (oO [])),q,p] (λΨ h=>⟨rfl,_,by rw[Bb];exact Jm _ _,h⟩) (λi o=>∃ q,o=[.val (nM C d t),.val (.lst (st.map mE)),.own (.lst (oR (r++[L]))),.own (.dT (oO (g++L.take i))),.own (.dT (oO [])),q,p]) ⟨q,by simp⟩ ?_ ?_
     ·rintro i x o hx ⟨q,rfl⟩;obtain⟨c,v,rfl⟩:=qH hx;have ab:c∉g++L.take i:=by
       have aa:(g++L.take (i+1)).Nodup:=S.sublist ((lO _ _).append_left _);rw[bS,v,← bJ] at aa;intro z;exact (bK.mp aa).2.2 c z c (bA.mpr rfl) rfl
      have hs:=Vk (ks:=g++L.take i) (by rw[aH,bQ];omega) c;rw[aM ab] at hs;refine⟨rfl,_,hs,.val (mE c),?_⟩;rw[bS,v,← bJ];rfl
     ·rintro o ⟨q,rfl⟩;rw[aA,cI];exact O _ ⟨q,rfl⟩
    rintro _ ⟨q,rfl⟩;refine mK (λo=>∃ (u:List (List Int)) (q p:Sl),u.Nodup/\(∀ c∈u,c∈mI d.length/\c∉g++L)/\o=[.val (nM C d t),.val (.lst (st.map mE)),.own (.lst (oR (r++[L]))),.own (.dT (oO (g++L))),.own (.dT (oO u)),q,p]) (λN O=>?_) ?_
    ·refine rF (L.map mL) [.val (nM C d t),.val (.lst (st.map mE)),.own (.lst (oR (r++[L]))),.own (.dT (oO (g++L))),.own (.dT (oO [])),q,p] (λΨ h=>⟨rfl,_,by rw[Bb];exact Jm _ _,h⟩) (λi o=>∃ (u:List (List Int)) (q p:Sl),u.Nodup/\(∀ c∈u,c∈mI d.length/\c∉g++L)/\o=[.val (nM C d t),.val (.lst (st.map mE)),.own (.lst (oR (r++[L]))),.own (.dT (oO (g++L))),.own (.dT (oO u)),q,p]) ⟨[],q,p,eS,λ_ h=>(bH h).elim,rfl⟩ ?_ ?_
     ·rintro i x o hx ⟨u,q,p,y,I,rfl⟩;obtain⟨c,v,rfl⟩:=qH hx;have ae:c∈mI d.length:=(Y c (aI v)).1;have ht:=yO (rN C d t) ae;refine rF ((mI (mH C d).length).map mE) [.val (nM C d t),.val (.lst (st.map mE)),.own (.lst (oR (r++[L]))),.own (.dT (oO (g++L))),.own (.dT (oO u)),.val (mE c),p] (λΨ h=>?_) (λj o=>∃ (u:List (List Int)) (p:Sl),u.Nodup/\(∀ c∈u,c∈mI d.length/\c∉g++L)/\o=[.val (nM C d t),.val (.lst (st.map mE)),.own (.lst (oR (r++[L]))),.own (.dT (oO (g++L))),.own (.dT (oO u)),.val (mE c),p]) ⟨u,p,y,I,rfl⟩ ?_ ?_
      ·refine⟨rfl,_,ht,?_⟩;show Ψ (rK _) _;rw[Cu];exact h
      ·rintro j x o hx ⟨u,p,y,I,rfl⟩;obtain⟨l,hl,rfl⟩:=qH hx;have ac:=aI hl;have hv:=yO (wA C d t c) ac;have hn:=DK hC ae ac;have lb:=nn y λc v=>(I c v).1
       refine⟨rfl,_,ht,_,hv,_,rfl,_,Cw (sQ C d c l),?_⟩;show if (!(mZ (oO (g++L)) ((sQ C d c l).map Sum.inl)).isSome)=true then _ else _
       rw[QG];by_cases hk:sQ C d c l∈g++L
       ·rw[bE hk];exact pT ⟨u,_,y,I,rfl⟩
       ·rw[bD hk];have hs:=Vk (ks:=u) (by omega) (sQ C d c l);refine (aP rfl).mpr ⟨rfl,rfl,_,ht,_,hv,_,rfl,_,hs,_,_,?_,?_,rfl⟩
        ·by_cases W:sQ C d c l∈u
         ·rw[aP W];exact y
         ·rw[aM W];exact bK.mpr ⟨y,cH.mpr ⟨bH,eS⟩,λa ha b hb e=>W (by rw[← bA.mp hb,← e];exact ha)⟩
        ·by_cases W:sQ C d c l∈u
         ·rw[aP W];exact I
         ·rw[aM W];exact λa ha=>(aR.mp ha).elim (I a) λz=>by rw[bA.mp z];exact⟨hn,hk⟩
      ·rintro o ⟨u,p,y,I,rfl⟩;exact⟨u,_,p,y,I,rfl⟩
     ·rintro o ⟨u,q,p,y,I,rfl⟩;exact O _ ⟨u,q,p,y,I,rfl⟩
    rintro _ ⟨u,q,p,y,I,rfl⟩;have b3:∀ c∈u,c∈mI d.length:=λc v=>(I c v).1
    have lb:=nn y b3;have ag:(oR (r++[L])).length<100000:=by unfold oR;rw[List.length_map,List.length_append,List.length_singleton];omega
    refine⟨rfl,rfl,u,by unfold oO;rw[List.map_map];rfl,by omega,Mv y b3,λys hp=>⟨ag,?_⟩⟩;refine⟨⟨r++[L],ys,g++L,.own (.dT (oO u)),q,p,?_,hp.nodup_iff.mpr y,λc v=>I c (hp.mem_iff.mp v),S,Z,?_,?_,?_,?_⟩,?_⟩
    ·rw[Bb (r++[L]) ys];rfl
    ·intro z;rw[iJ] at z;exact v5 (List.append_eq_nil_iff.mp z).1
    ·intro L' ak c v;exact (aR.mp ak).elim (λh=>v6 L' h c v) λh=>by rw[bA.mp h] at v;exact (Y c v).1
    ·rw[iJ,aH,aH,v7,fF,List.flatten_nil,dO]
    ·rw[aH,aH,bW];omega
    ·show 17-(oO (g++L)).length<17-(oO g).length;unfold oO;rw[aA,aA,aH];omega
 rintro _ ⟨r,g,s3,V,q,p,rfl,f1,f2,f3,f4⟩;refine⟨rfl,?_⟩;show Φ (.own (.lst (oY (oR (r++[[]])) none (some (-1)))));rw[Bb,KP];exact ah r f1 f2 (by omega) f4
end
end Lw
namespace L2
open PySem PySem.Spec PyProof.Rows Lw
section
theorem Za {sl:Addr}{lo:Option Int}(ht:IsTup s.heap t items) (hs:s.heap.IsSliceOf sl vl vu .none) (pl:IsPart vl lo) (pu:IsPart vu hi)
  (h1:HT.sIx items.size 0 lo=0) (h2:HT.sIx items.size items.size hi=items.size) (h:Q (.ref t) s):wpAny (model prog w) A (getItem (.ref t) (.ref sl)) Q E s:=by
 obtain⟨os,a,b,d⟩:=id hs;have kind:s.TypeIs (.ref sl) "slice" := ⟨os,a,b⟩;have own:wpAny (model prog w) A.in1 (Builtin.«tuple.__getitem__» ⟨[.ref t,.ref sl],[]⟩) (λr c=>r = .done (.ret (.ref t))/\c=s) E s:=by
  refine aB (m:=slotArgs "__getitem__" 1 _) (aF ?_);refine aB (tupleItemsOf_ ht (aB (eM kind ?_)));rw[aP (by decide)];refine aB (HT.sliceApplied_gen hs pl pu ?_);rw[h1,h2];have yes:(((0:Nat):Int) == 0&&(1:Int) == 1&&(items.size-0) == items.size)=true:=by simp
  show wpAny _ _ (if (((0:Nat):Int) == 0&&(1:Int) == 1&&(items.size-0) == items.size)=true then _ else _) _ _ s;rw[aP yes];refine aB (aB (eM ht.typeIs (aF ?_)));rw[aP (by decide)];exact aB (lI (aF ⟨rfl,rfl⟩))
 unfold getItem;refine bV (aB (wpAny_sequenceKey ht.typeIs (by decide) ?_));refine aB (cJ (name:=Str.ofString "__getitem__") ht.typeIs dB (cX dB ht.typeIs entry_tuple_getitem (cL own (λr c ⟨f,e⟩=>?_) λ_ _ z=>z) (args_tuple_getitem _ _)));subst f e;exact⟨_,rfl,aF h⟩
variable {X:Cx}{K:mC}
def Ry (K:mC):R3:=λx lo hi H Q=>∃ a xs,x = .ref a/\nL K H a xs/\HT.sIx xs.length 0 lo=0/\HT.sIx xs.length xs.length hi=xs.length/\Q x H
theorem RT:vK X (Ry X.K):=by
 intro d s p H x v u t lo z sl Q I g l j i h;obtain⟨a,f,rfl,k,o,m,q⟩:=h;cases g;obtain⟨c,r,e,y⟩:=I.tuple k;have b:c.toArray.size=f.length:=by rw[aW];exact r.length.symm
 exact⟨"tuple",_,dB.lookup,e.typeIs,Za e l j i (by rw[b];exact o) (by rw[b];exact m) ⟨.ref a,H,I,rfl,q⟩⟩
def Sy (K:mC):R3:=λx lo hi H Q=>Ku K x lo hi H Q\/Ry K x lo hi H Q
theorem EW:vK X (Sy X.K):=Rc.or RT
def MC:O3
 | .tup xs,lo,hi,Φ=>Φ (.val (.tup (oY xs lo hi)))
 | _,_,_,_=>False
theorem DL:Nw K (Sy K) MC:=by
 intro B L H d lo g x o Q hd j h k;cases d<;>first | exact False.elim h | skip
 rename_i i
 have c:Rep K (Al B (mD L)) H (.tup i) x:=j;obtain⟨a,b,rfl,l,f⟩:=j.tup_inv;by_cases w:HT.sIx b.length 0 lo=0/\HT.sIx b.length b.length g=b.length
 ·refine .inr ⟨a,b,rfl,nL.of l,w.1,w.2,k _ _ H h (hd.pushF ?_)⟩;have e:oY i lo g=i:=by
   unfold oY;rw[f.length,w.1,w.2,lH,Nat.sub_zero,← f.length,cI]
  rw[e];exact c
 ·exact .inl ⟨a,b,rfl,nL.of l,w,λp m=>k _ _ _ h (hd.tupF m (Hr f lo g))⟩
end
end L2
namespace Lw
open PySem L2
theorem LX:(["state","deck"]:List Str).Nodup:=by decide +kernel
def Py:RD:=λdk ds Φ=>∃ (d c:Addr) (C:Cel) (prs:List (Str×Str)) (t:nK) (st:List (List Int)),dk=[d,c]/\ds=[.raw (.ref d),nM C prs t,.lst (st.map mE)]/\RwOk C prs/\prs.length<=4/\st≠[]/\st.Nodup/\(∀ c∈st,c∈mI prs.length)/\∀ ps:List (List (List Int)),(∀ p∈ps,p.length<=100)->ps.length<=100->Φ (.own (.lst (oR ps)))
section
variable {P:Program}{K:mC}
theorem vG:FnScope ["deck","steps","starts","real","level","every","many","at","other","odd","found"] ["deck","steps","starts"] (nF Ia):=oW
theorem FA (F:Fun K "_law_papers" "_law_papers" Ia f fd) (T:Txt mg) (mN:Gd K mg "_law_take" Gh ["deck","many"] fT fdT) (oM:FnOk P w K mg base mJ 1 fT fdT ["deck","many"] (mQ K yD)) (Op:Gd K mg "_law_reached" Fi ["steps","starts"] fR fdR) (AJ:FnOk P w K mg base mJ 1 fR fdR ["steps","starts"] (mQ K Sv)):FnOk P w K mg base mJ 2 f fd ["deck","steps","starts"] (mQ K Py):=by
 refine F.okD (k:=1) vG (λdk ds Φ ⟨_,_,_,_,_,_,_,e,_⟩=>by rw[e];rfl) (by decide) λau A ae s H E dk ds Φ B hR=>?_
 have hu:=oX B;obtain⟨d,c,C,g,t,st,rfl,rfl,hC,aa,ag,ab,U,af⟩:=hR;refine⟨_,(mF (mY (i:=3) vG.nd rfl (Or.inl rfl) (nN gV)) (mF (qU (m:=99) bM rfl (nS (mV AJ (B.mono (by decide)) (by rfl) Op.m Op.k Op.b (aD (eA 1 (pv 1)) (aD (eA 2 (pv 2)) gV)))) (mM (i:=4) vG.nd rfl (Or.inl rfl)) (mW (mY (i:=3) vG.nd rfl (Or.inl rfl) (pL nT nU (pv 3) (eA 4 (pv 4)))))) (mF (mY (i:=5) vG.nd rfl (Or.inl rfl) (oF (Ln rfl) Np (by rfl) T.sorted jK (aD (eA 1 (pv 1)) gV))) (mF (mY (i:=6) vG.nd rfl (Or.inl rfl) (oF qQ qR (by rfl) T.len bP (aD (mP hu (pv 5) kD) gV))) (mF (mY (i:=7) vG.nd rfl (Or.inl rfl) (mV oM (B.mono (by decide)) (by rfl) mN.m mN.k mN.b (aD (eA 0 (pv 0)) (aD (oF qQ qR (by rfl) T.len bP (aD (eA 3 (pv 3)) gV)) gV)))) (mF (mY (i:=8) vG.nd rfl (Or.inl rfl) (mP hu (pv 5) (mV oM (B.mono (by decide)) (by rfl) mN.m mN.k mN.b (aD (eA 0 (pv 0)) (aD (oF qQ qR (by rfl) T.len bP (aD (eA 5 (pv 5)) gV)) gV))))) (mF (mY (i:=9) vG.nd rfl (Or.inl rfl) (pY hu (nN (aD (pL nT nU (pv 8) (oS (aD kD gV))) (aD (tJ EW DL (pv 8) (tL kD) sZ) (aD (pL nT nU (pv 8) (eA 8 (pv 8))) gV)))) (mV oM (B.mono (by decide)) (by rfl) mN.m mN.k mN.b (aD (eA 0 (pv 0)) (aD kD gV))))) (mF (mY (i:=10) vG.nd rfl (Or.inl rfl) (nN (aD (eA 3 (pv 3)) (aD (nZ nT nU (tJ uD tW (pv 3) sZ (tL (eA 7 (pv 7)))) (tJ uD tW (pv 3) (tL (pL nT nU (pv 7) kD)) sZ)) (aD (pL nT nU (pv 3) (nN (aD (eA 8 (pv 8)) gV))) (aD (pL nT nU (pv 3) (nN (aD (mP hu (pv 3) (eA 7 (pv 7))) gV))) (aD (nZ nT nU (nZ nT nU (tJ uD tW (pv 3) sZ (tL (eA 7 (pv 7)))) (nN (aD (eA 8 (pv 8)) gV))) (tJ uD tW (pv 3) (tL (pL nT nU (pv 7) kD)) sZ)) gV))))))) (mF (mY (i:=10) vG.nd rfl (Or.inl rfl) (pL nT nU (pv 10) (nN (aD (Rq (eA 3 (pv 3)) (wG kD)) (aD (nN gV) (aD (eA 5 (pv 5)) (aD (eA 2 (pv 2)) (aD (nZ nT nU (pL nT nU (pv 3) (Rq (eA 3 (pv 3)) (wG kD))) (eA 3 (pv 3))) (aD (pL nT nU (pv 5) (eA 5 (pv 5))) gV))))))))) (mF (rW (qX bG bN bO rQ sU (pv 10) (aD (pP ["state"] ["deck"] [0] rfl (nS (eA 5 (pv 5))) rfl rfl (λ_ _ _ _ _=>(mM (i:=0) LX rfl (Or.inl rfl))) (λ_ _ _ _ _=>(xE (C1 Dj Dc (mV oM (B.mono (by decide)) (by rfl) mN.m mN.k mN.b (aD (eA 1 (pv 1)) (aD kD gV))) kD))) (λ_ _ _ _ _=>(eA 0 (pv 0)))) gV))) (mF (qT (qZ (rL B.units) (qD false) (pv 6) kD) (mW (mY (i:=9) vG.nd rfl (Or.inl rfl) (pY hu (nN (aD (oS (aD kD gV)) (aD (oS (aD kD gV)) gV))) (mV oM (B.mono (by decide)) (by rfl) mN.m mN.k mN.b (aD (eA 0 (pv 0)) (aD kD gV)))))) rB) (mW (nQ (pL nT nU (pv 10) (nN (aD (pL nT nU (pv 3) (nN (aD (eA 9 (pv 9)) gV))) (aD (nZ nT nU (nZ nT nU (tJ uD tW (pv 3) sZ (tL (eA 7 (pv 7)))) (nN (aD (eA 9 (pv 9)) gV))) (tJ uD tW (pv 3) (tL (pL nT nU (pv 7) kD)) sZ)) gV))))))))))))))))),?_⟩;have aj:=kT (show 0<2 by decide) aa;have ai:=uU g.length;have an:0<2 ^ g.length:=Nat.pow_pos (by decide);refine mK (λl=>l=[.val (.raw (.ref d)),.val (nM C g t),.val (.lst (st.map mE)),.own (.lst (([]:List (List Int)).map mL)),.no,.no,.no,.no,.no,.no,.no]) (λN u=>⟨by show 0<=1000;decide,u _ rfl⟩) ?_;rintro _ rfl;refine mK (λl=>∃ (R:List (List Int)) (M I:Sl),(M = .own (.lst (R.map mL))\/M = .val (.lst (R.map mL)))/\1<=R.length/\R.length<=16/\l=[.val (.raw (.ref d)),.val (nM C g t),.val (.lst (st.map mE)),M,I,.no,.no,.no,.no,.no,.no]) (λN u=>?_) ?_
 ·refine⟨C,g,t,st,rfl,hC,aa,ag,ab,U,λO f1 f2 f3 f4=>⟨.inl rfl,?_⟩⟩;refine⟨λi l=>∃ (M I:Sl),(M = .own (.lst ((O.take i).flatten.map mL))\/M = .val (.lst ((O.take i).flatten.map mL)))/\l=[.val (.raw (.ref d)),.val (nM C g t),.val (.lst (st.map mE)),M,I,.no,.no,.no,.no,.no,.no],⟨_,.no,.inl rfl,rfl⟩,?_,?_⟩
  ·rintro i x l hx ⟨M,I,h3,rfl⟩;obtain⟨L,hL,rfl⟩:=qH hx;have e1:(O.take (i+1)).flatten=(O.take i).flatten++L:=by rw[bS,hL,iJ];simp
   have l1:((O.take (i+1)).flatten).length<=16:=bY (by
    have:O.flatten=(O.take (i+1)).flatten++(O.drop (i+1)).flatten:=by rw[← iJ,gB]
    rw[this,aH];omega) f3
   rw[e1,aH] at l1;have go:(((O.take i).flatten.map mL).length+(L.map mL).length<=100000):=by rw[aA,aA];omega
   rcases h3 with rfl | rfl
   ·refine⟨rfl,go,_,.val (.lst (L.map mL)),.inl rfl,?_⟩;rw[e1,aJ];rfl
   ·refine⟨rfl,go,_,.val (.lst (L.map mL)),.inl rfl,?_⟩;rw[e1,aJ];rfl
  ·rintro l ⟨M,I,h3,rfl⟩;have e:(oR O).length=O.length:=by unfold oR;rw[List.length_map]
   rw[e,cI] at h3;refine u _ ⟨O.flatten,M,I,h3,?_,f3,rfl⟩;cases hz:O.flatten with
   | nil=>exact (f1 hz).elim
   | cons _ _=>simp
 rintro _ ⟨R,M,I,h3,r1,r2,rfl⟩;refine mK (λl=>∃ y:List (List Int),y.Perm (mI g.length)/\l=[.val (.raw (.ref d)),.val (nM C g t),.val (.lst (st.map mE)),M,I,.own (.lst (y.map mL)),.no,.no,.no,.no,.no]) (λN u=>?_) ?_
 ·exact⟨mI g.length,by rw[aQ];rfl,by omega,Mv (Cg _) λ_ h=>h,λys v=>u _ ⟨ys,v,rfl⟩⟩
 rintro _ ⟨y,ac,rfl⟩;have ao:y.length=2 ^ g.length:=ac.length_eq.trans ai;have ak:∀ b∈y,b.length=g.length:=λb hb=>(uZ (ac.mem_iff.mp hb)).1
 refine mK (λl=>∃ q:Int,l=[.val (.raw (.ref d)),.val (nM C g t),.val (.lst (st.map mE)),M,I,.own (.lst (y.map mL)),.val (.int q),.no,.no,.no,.no]) (λN u=>?_) ?_
 ·obtain⟨e0,ah⟩:∃ e0,y[0]?=some e0:=⟨y[0]'(by omega),aG (by omega)⟩;refine⟨rfl,mL e0,?_,rfl,_,rfl,u _ ⟨_,rfl⟩⟩;exact qG (j:=0) (by rw[aX,ah];rfl)
 rintro _ ⟨q,rfl⟩;refine mK (λl=>∃ a:Nat,a<R.length/\l=[.val (.raw (.ref d)),.val (nM C g t),.val (.lst (st.map mE)),.val (.lst (R.map mL)),I,.own (.lst (y.map mL)),.val (.int q),.val (.int a),.no,.no,.no]) (λN u=>?_) ?_
 ·have go:∀ (m:Int),m=R.length->∀ r:Nat,(r:Int)<m->N [.val (.raw (.ref d)),.val (nM C g t),.val (.lst (st.map mE)),.val (.lst (R.map mL)),I,.own (.lst (y.map mL)),.val (.int q),.val (.int r),.no,.no,.no]:=λm hm r B=>u _ ⟨r,by omega,rfl⟩
  rcases h3 with rfl | rfl
  ·exact⟨rfl,_,rfl,d,c,_,rfl,rfl,by rw[aA];omega,by rw[aA];omega,λr B=>⟨.inl rfl,go _ (by rw[aA]) r B⟩⟩
  ·exact⟨rfl,_,rfl,d,c,_,rfl,rfl,by rw[aA];omega,by rw[aA];omega,λr B=>⟨.inl rfl,go _ (by rw[aA]) r B⟩⟩
 rintro _ ⟨a,ha,rfl⟩;refine mK (λl=>∃ o:List Int,o.length<=4/\l=[.val (.raw (.ref d)),.val (nM C g t),.val (.lst (st.map mE)),.val (.lst (R.map mL)),I,.val (.lst (y.map mL)),.val (.int q),.val (.int a),.val (mL o),.no,.no]) (λN u=>?_) ?_
 ·refine⟨rfl,rfl,_,rfl,d,c,_,rfl,rfl,by rw[aA];omega,by rw[aA];omega,λr B=>⟨.inl rfl,?_⟩⟩;rw[aA] at B;obtain⟨o,ho⟩:∃ o,y[r]?=some o:=⟨y[r]'(by omega),aG (by omega)⟩;refine⟨mL o,?_,u _ ⟨o,?_,rfl⟩⟩
  ·exact qG (by rw[aX,ho];rfl)
  ·rw[ak o (aI ho)];exact aa
 rintro _ ⟨o,lo,rfl⟩;refine mK (λl=>∃ Q:List Int,l=[.val (.raw (.ref d)),.val (nM C g t),.val (.lst (st.map mE)),.val (.lst (R.map mL)),I,.val (.lst (y.map mL)),.val (.int q),.val (.int a),.val (mL o),.val (mL Q),.no]) (λN u=>?_) ?_
 ·refine⟨rfl,by show 1<=1000;decide,?_,rfl,rfl,?_,by show 3<=1000;decide,d,c,3,rfl,rfl,by decide,by decide,λr B=>⟨.inl rfl,?_⟩⟩
  ·show (o.map D.int).length+1<=100000;rw[aA];omega
  ·show (o.map D.int).length+(o.map D.int).length<=100000;rw[aA];omega
  have e1:oY (o.map D.int) (some ((1:Nat):Int)) none=(o.drop 1).map D.int:=Df D.int o 1;have Z:r=0\/r=1\/r=2:=by omega
  rcases Z with rfl | rfl | rfl
  ·refine⟨mL (o++[0]),?_,u _ ⟨_,rfl⟩⟩;unfold mL;rw[aJ];rfl
  ·refine⟨mL (o.drop 1),?_,u _ ⟨_,rfl⟩⟩;unfold mL;rw[← e1];rfl
  ·refine⟨mL (o++o),?_,u _ ⟨_,rfl⟩⟩;unfold mL;rw[aJ];rfl
 rintro _ ⟨Q,rfl⟩;obtain⟨x,hx⟩:∃ x,R[a]?=some x:=⟨R[a],aG ha⟩;have ct:oY (R.map mL) none (some (a:Int))=(R.take a).map mL:=Dw mL R a;have cr:oY (R.map mL) (some ((a:Int)+1)) none=(R.drop (a+1)).map mL:=Df mL R (a+1);have lt:(R.take a).length<=16:=by rw[bQ];omega
 have ld:(R.drop (a+1)).length<=16:=by rw[cW];omega
 have aq:(oY (R.map mL) none (some (a:Int))).length<=16:=by rw[ct,aA];exact lt
 have ar:(oY (R.map mL) (some ((a:Int)+1)) none).length<=16:=by rw[cr,aA];exact ld
 refine mK (λl=>∃ z:List (List (List Int)),(∀ p∈z,p.length<=100)/\z.length<=5/\l=[.val (.raw (.ref d)),.val (nM C g t),.val (.lst (st.map mE)),.val (.lst (R.map mL)),I,.val (.lst (y.map mL)),.val (.int q),.val (.int a),.val (mL o),.val (mL Q),.own (.lst (oR z))]) (λN u=>?_) ?_
 ·have k:=u _ ⟨[R,R.take a++R.drop (a+1),R++[o],R++[x],R.take a++[o]++R.drop (a+1)],?_,by simp,rfl⟩
  ·unfold oR at k;simp only[aO,jZ,aJ,← ct,← cr] at k;refine⟨rfl,rfl,rfl,?_,rfl,by show 1<=1000;decide,?_,rfl,rfl,_,qG (by rw[aX,hx];rfl),by show 1<=1000;decide,?_,rfl,by show 1<=1000;decide,?_,rfl,rfl,?_,by show 5<=1000;decide,k⟩
   ·show (oY _ _ _).length+(oY _ _ _).length<=100000;omega
   ·show (R.map mL).length+1<=100000;rw[aA];omega
   ·show (R.map mL).length+1<=100000;rw[aA];omega
   ·show (oY _ _ _).length+1<=100000;omega
   ·show (oY _ _ _++[_]).length+(oY _ _ _).length<=100000;rw[aH,bW];omega
  ·intro p v;simp only[aL,bH,fY] at v;rcases v with rfl | rfl | rfl | rfl | rfl
   ·omega
   ·rw[aH];omega
   ·rw[aH,bW];omega
   ·rw[aH,bW];omega
   ·rw[aH,aH,bW];omega
 rintro _ ⟨z,Y,W,rfl⟩;have ls:st.length<=16:=bY (Nr ab U) aj;have S:(oR z).length<=5:=by unfold oR;rw[List.length_map];exact W
 have lR:(R.map mL).length<=16:=by rw[aA];exact r2
 have lE:(y.map mL).length<=16:=by rw[aA];omega
 refine mK (λl=>∃ z:List (List (List Int)),(∀ p∈z,p.length<=100)/\z.length<=11/\l=[.val (.raw (.ref d)),.val (nM C g t),.val (.lst (st.map mE)),.val (.lst (R.map mL)),I,.val (.lst (y.map mL)),.val (.int q),.val (.int a),.val (mL o),.val (mL Q),.own (.lst (oR z))]) (λN u=>?_) ?_
 ·have k:=u _ ⟨z++[R.reverse,[],y,st,R++R.reverse++R,y++y],?_,by rw[aH];simp;omega,rfl⟩
  ·unfold oR at k;simp only[aO,jZ,aJ,List.map_reverse] at k;refine⟨rfl,rfl,by show 0<=1000;decide,rfl,rfl,?_,?_,rfl,?_,by show 6<=1000;decide,?_,k⟩
   ·show (R.map mL).length+(R.map mL).reverse.length<=100000;rw[iH];omega
   ·show (R.map mL++(R.map mL).reverse).length+(R.map mL).length<=100000;rw[aH,iH];omega
   ·show (y.map mL).length+(y.map mL).length<=100000;omega
   ·show (oR z).length+6<=100000;omega
  ·intro p v;rcases aR.mp v with v | v
   ·exact Y p v
   ·simp only[aL,bH,fY] at v;rcases v with rfl | rfl | rfl | rfl | rfl | rfl
    ·rw[iH];omega
    ·simp
    ·omega
    ·omega
    ·rw[aH,aH,iH];omega
    ·rw[aH];omega
 clear Y W S;rintro _ ⟨z,Y,W,rfl⟩;have S:(oR z).length<=11:=by unfold oR;rw[List.length_map];exact W
 refine mK (λl=>∃ z:List (List (List Int)),(∀ p∈z,p.length<=100)/\z.length<=12/\l=[.val (.raw (.ref d)),.val (nM C g t),.val (.lst (st.map mE)),.val (.lst (R.map mL)),I,.val (.lst (y.map mL)),.val (.int q),.val (.int a),.val (mL o),.val (mL Q),.own (.lst (oR z))]) (λN u=>?_) ?_
 ·refine⟨rfl,λi ys cs=>∃ V:List (List Int),ys=V.map mL/\V.length<=i/\cs=[.val (.raw (.ref d))],⟨[],rfl,aZ _,rfl⟩,?_,?_⟩
  ·rintro i x ys cs hx _ ⟨V,rfl,hz,rfl⟩;obtain⟨b,hb,rfl⟩:=qH hx;have hi:=(aU.mp hb).1;refine⟨d,c,4,rfl,rfl,by decide,by decide,λr B=>⟨.inl rfl,?_⟩⟩;show if (decide ((0:Int)<(r:Int)))=true then _ else _
   by_cases hq:(0:Int)<(r:Int)
   ·rw[bE hq];refine (aP rfl).mpr ⟨by rw[aA];omega,V++[b],?_,?_,rfl⟩
    ·rw[aJ];rfl
    ·rw[aH,bW];omega
   ·rw[bD hq];exact pT ⟨V,rfl,by omega,rfl⟩
  ·rintro ys cs _ ⟨V,rfl,hz,rfl⟩;rw[aA] at hz;refine⟨by omega,?_⟩;have k:=u _ ⟨z++[V],?_,by rw[aH,bW];omega,rfl⟩
   ·rw[Bb] at k;exact k
   ·intro p v;rcases aR.mp v with v | v
    ·exact Y p v
    ·rw[bA.mp v];omega
 clear Y W S;rintro _ ⟨z,Y,W,rfl⟩;have S:(oR z).length<=12:=by unfold oR;rw[List.length_map];exact W
 refine mK (λl=>∃ Q:List Int,l=[.val (.raw (.ref d)),.val (nM C g t),.val (.lst (st.map mE)),.val (.lst (R.map mL)),I,.val (.lst (y.map mL)),.val (.int q),.val (.int a),.val (mL o),.val (mL Q),.own (.lst (oR z))]) (λN u=>?_) ?_
 ·refine⟨rfl,?_⟩;show if (decide (q=0))=true then _ else _
  by_cases hq:q=0
  ·rw[bE hq];refine (aP rfl).mpr ⟨by show 1<=1000;decide,by show 1<=1000;decide,by show 2<=1000;decide,d,c,2,rfl,rfl,by decide,by decide,λr B=>⟨.inl rfl,?_⟩⟩;have Z:r=0\/r=1:=by omega
   rcases Z with rfl | rfl
   ·exact⟨_,rfl,u _ ⟨[0],rfl⟩⟩
   ·exact⟨_,rfl,u _ ⟨[1],rfl⟩⟩
  ·rw[bD hq];exact pT (u _ ⟨Q,rfl⟩)
 rintro _ ⟨Q,rfl⟩;have k:=af (z++[R++[Q],R.take a++[Q]++R.drop (a+1)]) (λp v=>?_) (by rw[aH];simp;omega)
 ·unfold oR at k;simp only[aO,jZ,aJ,← ct,← cr] at k;refine⟨rfl,rfl,by show 1<=1000;decide,?_,rfl,by show 1<=1000;decide,?_,rfl,rfl,?_,by show 2<=1000;decide,?_,k⟩
  ·show (R.map mL).length+1<=100000;omega
  ·show (oY _ _ _).length+1<=100000;omega
  ·show (oY _ _ _++[_]).length+(oY _ _ _).length<=100000;rw[aH,bW];omega
  ·show (oR z).length+2<=100000;omega
 ·rcases aR.mp v with v | v
  ·exact Y p v
  ·simp only[aL,bH,fY] at v;rcases v with rfl | rfl
   ·rw[aH,bW];omega
   ·rw[aH,aH,bW];omega
end
end Lw
namespace L2
open PySem PySem.Spec PyProof.Rows Lw
def Wa (t:TE):TE:=λσ H Q=>∃ a kvs,H a=some (.dK kvs)/\∀ o,t σ (upd H a (.frz o (.dK kvs))) λv H'=>H' a=some (.frz o (.dK kvs))/\Q v (upd H' a (.dK kvs))
section
variable {X:Cx}
theorem NB (h:PE X e t):PE X e (Wa t):=λb s g H Q I ⟨a,d,f,k⟩=>by
 obtain⟨o,l⟩:∃ o,s.heap.get? a=some o:=by
  obtain⟨_,_,q,_,o,_,_,e,_⟩:=(show oI X.prog X.w H s.heap a (.dK d) from I.hok a _ f);exact⟨o,e⟩
 have m:∀ c u,X.H₀ a≠some (.frz c u):=λc u e=>by
  have:=I.base.frzs a c u e;rw[f] at this;cases this
 refine mR (h b s g _ _ (I.frozenK f l) (k o)) λv y ⟨x,z,p,r,j,i⟩=>?_
 exact⟨x,_,p.thawedK j m,r,i⟩
def IJ:nI:=λdk ρ Φ=>∃ (t:nK) (n:Int),ρ[0]?=some (.val (.dK (hO t)))/\ρ[1]?=some (.val (.int n))/\-(2 ^ 64)<n/\n<2 ^ 64/\(t.map (·.1)).Nodup/\t.length<=1000/\Φ (.own (.lst (t.map λp=>D.tup [.str p.1,.int (n*p.2)]))) ρ
theorem P0:∀ {t:nK}{p:Str×Int},(t.map (·.1)).Nodup->p∈t->rX (vT t) (Sum.inr p.1)=some (.int p.2)
 | [],_,_,h=>(bH h).elim
 | q::t,p,a,h=>by
  obtain⟨c,b⟩:=cH.mp a;unfold rX vT;rw[aO,cY];rcases aL.mp h with rfl | h
  ·rw[bE rfl];rfl
  ·have ne:¬ ((Sum.inr q.1:hI)=Sum.inr p.1):=λz=>c (aV.mpr ⟨p,h,(iL z).symm⟩)
   rw[bD ne];exact P0 b h
theorem Xa (h1:nm.length=1) (h:PE X e (Wa (zM nm [1,0] (Uf (qM 0)) (yW 0) Dq te)))
  (hte:∀ (x:Str) (v n:Int) (a:Addr) (H:Hp) (Q:VK),sS H a (.str x) (some (.int v))->-(2 ^ 64)<n->n<2 ^ 64->(∀ p,H p=none->Q (.ref p) (upd H p (.tup [.str x,.int (n*v)])))->te [some (.str x),some (.int n),some (.ref a)] H Q):PD X e IJ:=h.mono λσ H Q ag=>ag.elim λB ρ T Φ hl hd ⟨t,n,e0,e1,n1,n2,nd,ht,ae⟩ k=>by
 obtain⟨v0,O,p0⟩:=hd.peek hl (d:=.dK (hO t)) (i:=0) (by unfold at?;rw[e0];rfl);obtain⟨v1,af,p1⟩:=hd.peek hl (d:=.int n) (i:=1) (by unfold at?;rw[e1];rfl);obtain rfl:=p1.int_inv;obtain⟨a,ab,rfl,ha,ek,rk⟩:=p0.dK_inv;rw[LF t ab ek rk] at ha;refine⟨a,vT t,ha,λo=>⟨_,O,a,o,vT t,rfl,mT,λC U=>?_⟩⟩;have W:a≠C:=λz=>by rw[z,mT] at U;cases U
 have E:H C=none:=by rw[mO (eC W)] at U;exact U
 have lv:(vT t).length=t.length:=by unfold vT;rw[List.length_map]
 refine⟨λi m Y M j=>m=t.length-i/\i<=t.length/\(∃ y,M=[y,some (.int n),some (.ref a)])/\j a=some (.frz o (.dK (vT t)))/\j C=some (.lst Y)/\(∀ b u,H b=some u->b≠a->j b=some u) /\ ∃ g:List Addr,Y=g.map V.ref/\Paired (λp (q:Str×Int)=>p≠a/\j p=some (.tup [.str q.1,.int (n*q.2)])) g (t.take i),?_,?_⟩
 ·refine⟨_,rfl,cO _,⟨none,?_⟩,by rw[mO W,mT],mT,λb u c hn=>?_,[],rfl,.nil⟩
  ·obtain⟨ah,rfl⟩:∃ x,nm=[x]:=by
    cases nm with
    | nil=>cases h1
    | cons x r=>cases r with
     | nil=>exact⟨x,rfl⟩
     | cons _ _=>cases h1
   unfold qB;simp[O,af]
  ·rw[mO (λz:b=C=>by rw[z,E] at c;cases c),mO hn];exact c
 ·rintro i m Y M j ⟨rfl,hi,⟨y,rfl⟩,I,S,kk,g,rfl,F⟩;by_cases f:i<t.length
  ·have aa:g.length=i:=by have:=eX F;rw[bQ] at this;omega
   refine .inr ⟨⟨I,by rw[lv];exact f⟩,λL v H5=>(∃ y,L=[y,some (.int n),some (.ref a)])/\∃ p,v = .ref p/\j p=none/\H5=upd j p (.tup [.str t[i].1,.int (n*t[i].2)]),λ_ _=>False,?_,λ_ _ z=>z.elim,?_⟩
   ·rintro L v H5 ⟨hy,p,rfl,l,rfl⟩;have pa:p≠a:=λz=>by rw[z,I] at l;cases l
    have pD:p≠C:=λz=>by rw[z,S] at l;cases l
    refine⟨by rw[mO (eC pD)];exact S,by rw[aA,aa];exact cM (eL (bI f ht)) (by decide),t.length-(i+1),by omega,rfl,f,hy,?_,mT,λb u c hn=>?_,g++[p],by rw[aJ];rfl,?_⟩
    ·rw[mO W,mO (eC pa)];exact I
    ·have:=kk b u c hn;rw[mO (λz:b=C=>by rw[z,E] at c;cases c),mO (λz=>by rw[z,l] at this;cases this)];exact this
    ·rw[bS,aG f];refine Paired.snoc (Paired.mapP F λq w ⟨z1,N⟩=>⟨z1,?_⟩) ⟨pa,by rw[mO pD,mT]⟩;rw[mO (λz:q=C=>by rw[z,S] at N;cases N),mO (λz=>by rw[z,l] at N;cases N)];exact N
   ·rintro x H2 ⟨rfl,ac,w,k1,rfl⟩;have kx:ac=Sum.inr t[i].1:=by
     unfold vT at k1;rw[aX,aG f] at k1;cases k1;rfl
    subst kx;show if true=true then te [some (V.str t[i].1),some (V.int n),some (V.ref a)] H2 _ else False
    rw[aP rfl];refine hte t[i].1 t[i].2 n a H2 _ ?_ n1 n2 λp l=>⟨⟨some (V.str t[i].1),rfl⟩,p,rfl,l,rfl⟩
    exact .inl ⟨vT t,Sum.inr t[i].1,.inr ⟨o,I⟩,rfl,(P0 nd (dQ f)).symm⟩
  ·have ei:i=t.length:=by omega
   subst ei;refine .inl ⟨⟨I,lv.symm⟩,I,?_⟩;rw[cI] at F;have same:qP H (upd j a (.dK (vT t))):=λb u c=>by
    by_cases z:b=a
    ·subst z;rw[mT,← ha];exact c
    ·rw[mO z];exact kk b u c z
   have rp:∀ (A:Addr->Prop) (g:List Addr) (Z:nK),Paired (λp (q:Str×Int)=>p≠a/\j p=some (.tup [.str q.1,.int (n*q.2)])) g Z->Reps X.K A (upd j a (.dK (vT t))) (Z.map λp=>D.tup [.str p.1,.int (n*p.2)]) (g.map V.ref):=λA g Z F=>by
    induction F with
    | nil=>exact .nil
    | cons h _ ih=>exact .cons (.tup (by rw[mO h.1];exact h.2) (.cons (.str _) (.cons (.int _) .nil))) ih
   have d2:=hd.adopt (a:=C) (d:=.lst (t.map λp=>D.tup [.str p.1,.int (n*p.2)])) (H':=upd j a (.dK (vT t))) (λb u c _=>same b u c) (hd.dk.keep λb c=>by
    obtain⟨xs,q⟩:=hd.dk.some c;rw[same b _ q,q]) E ⟨g.map V.ref,by rw[mO (eC W)];exact S,rp _ g t F⟩
   exact k _ ρ _ _ hl d2.mid ae
end
section
theorem Yz (hl:IsTup s.heap l #[x1,x2]) (hm:IsTup s.heap m #[y1,y2]) (hu:A.units<cLine)
  (h1:Ev prog w A.in1 s x1 y1) (h2:Ev prog w A.in1 s x2 y2) (hQ:Q (.bool false) s):wpAny (model prog w) A (compareOp .NotEq (.ref l) (.ref m)) Q E s:=by
 obtain⟨q,g1,i,x,d1⟩:=id hl;obtain⟨o,g2,h,t,d2⟩:=id hm;have f:s.TypeIs (.ref l) "tuple" := ⟨_,g1,i⟩;have d:s.TypeIs (.ref m) "tuple" := ⟨_,g2,h⟩;refine wpAny_richCompare_same_room (op:=.NotEq) f d F.slot_tuple_ne ?_ hu;refine cX F.slot_tuple_ne f F.entry_tuple_ne ?_ (F.args_tuple_ne_2 _ _);show wpAny _ _ (isInstance (.ref m) (.type "tuple") >>= _) _ _ s;refine aB (dR d isSubtype_tuple_tuple ?_);simp only[Bool.not_true,eI,gX];refine aB (wpAny_tupleItemsOf g1 d1 ?_);refine aB (wpAny_tupleItemsOf g2 d2 ?_);refine aB ?_;refine wpAny_forIn_list _ (λrest r b=>r.1=none/\b=s/\∀ p∈rest,Ev prog w A.in1 s p.1 p.2) _ ?_ ?_ _ _ ⟨rfl,rfl,λp a=>?_⟩
 ·rintro ⟨u,v⟩ rest r b ⟨c,rfl,g⟩;refine aB (g (u,v) aK _ _ ?_);exact aF ⟨rfl,rfl,λp a=>g p (aT _ a)⟩
 ·rintro ⟨k,j⟩ b ⟨c,rfl,_⟩;simp only at c;subst c;exact aF ⟨_,rfl,(λe=>nomatch e),hQ⟩
 ·have a:p∈[(x1,y1),(x2,y2)]:=a;simp only[aL,bH,fY] at a;rcases a with rfl | rfl
  ·exact h1
  ·exact h2
end
section
variable {X:Cx}
def Rn:R2:=λx y H Q=>∃ (l m:Addr) (p q p' q':V),x = .ref l/\y = .ref m/\H l=some (.tup [p,q])/\H m=some (.tup [p',q'])/\Dv H p p'/\Dv H q q'/\Q (.bl false) H
theorem BI (hu:X.A.units+64<cLine):nH X (compareOp .NotEq) Rn:=by
 intro e s N H x y v u Q I o j h;obtain⟨l,m,p,q,S,O,rfl,rfl,F,E,i,g,k⟩:=h;cases o;cases j;obtain⟨C,t,B,_⟩:=I.tuple (nL.of (K:=X.K) F);obtain⟨f,r,z,_⟩:=I.tuple (nL.of (K:=X.K) E);obtain⟨W,V,M,d,c⟩:=At t;obtain⟨U,T,L,b,a⟩:=At r;subst M L;exact Yz B z (by omega) (i.now I d b (by rw[Around.in1_units];omega)) (g.now I c a (by rw[Around.in1_units];omega)) ⟨.bl false,H,I,rfl,k⟩
def A7 (kvs:List (hI×D)):Prop:=(kvs.map (·.1)).Nodup/\∃ vs:List V,uO (kvs.map (·.2))=some vs/\∀ v∈vs,qI v v=true
theorem Ro {K:mC}(f:A7 kvs) (h:Rep K A H (.dK kvs) v):∃ a vs,v = .ref a/\H a=some (.dK vs)/\vs.map (·.1)=kvs.map (·.1)/\uO (kvs.map (·.2))=some (vs.map (·.2))/\(vs.map (·.2)).all sX=true:=by
 obtain⟨a,vs,rfl,_,h,e,r⟩:=h.dK_inv;obtain⟨_,g,c,_⟩:=f;obtain⟨b,d⟩:=J6 c r;exact⟨a,vs,rfl,h,e.symm,by rw[c,b],by rw[b];exact d⟩
theorem Su:∀ {xs ys:List (α×β)},xs.map (·.1)=ys.map (·.1)->xs.map (·.2)=ys.map (·.2)->xs=ys
 | [],[],_,_=>rfl
 | [],_::_,e,_=>by cases e
 | _::_,[],e,_=>by cases e
 | (a,b)::xs,(c,d)::ys,i,h=>by
  rw[aO,aO] at i h;obtain⟨g,k⟩:=eK i;obtain⟨f,j⟩:=eK h;have g:a=c:=g;have f:b=d:=f;rw[g,f,Su k j]
theorem Rf {K:mC}(f:A7 kvs) (hx:Rep K A H (.dK kvs) x) (hy:Rep K A H (.dK kvs) y):Dv H x y:=by
 obtain⟨a,k,rfl,m,i,h,l⟩:=Ro f hx;obtain⟨b,d,rfl,g1,g2,g3,q⟩:=Ro f hy;have e:d=k:=Su (g2.trans i.symm) (by rw[h] at g3;exact (cA g3).symm);subst e;refine⟨a,b,d,rfl,rfl,m,g1,by rw[i];exact f.1,λp g=>?_⟩;obtain⟨o,c,j⟩:=f.2;rw[h] at c;have c:=cA c;exact⟨cG.mp l p.2 (fQ g),j p.2 (by rw[← c];exact fQ g)⟩
def QZ:O2:=λd e Φ=>∃ k0 k1:List (hI×D),d = .tup [.dK k0,.dK k1]/\e = .tup [.dK k0,.dK k1]/\A7 k0/\A7 k1/\Φ (.val (.bl false))
theorem HY {K:mC}:pX K Rn QZ:=by
 intro B L H d e x y v Q hd g f p k;obtain⟨F,E,rfl,rfl,i,h,c⟩:=p;obtain⟨l,z,rfl,o,b⟩:=g.tup_inv;obtain⟨m,C,rfl,j,a⟩:=f.tup_inv;cases b with
 | cons u b =>
 cases b with
 | cons t b =>
 cases b;cases a with
 | cons r a =>
 cases a with
 | cons q a =>
 cases a;exact⟨l,m,_,_,_,_,rfl,rfl,o,j,Rf i u r,Rf h t q,k _ _ H c (hd.pushF (.bl _))⟩
end
end L2
namespace Lw
open PySem L2
theorem Oy:(["out","into","deck"]:List Str).Nodup:=by decide +kernel
theorem PX:(["name","count","weights"]:List Str).Nodup:=by decide +kernel
def xJ (n:Int) (t:nK):nK:=t.map λp=>(p.1,n*p.2)
theorem Tq (n:Int) (t:nK):(xJ n t).map (·.1)=t.map (·.1):=by unfold xJ;rw[List.map_map];rfl
theorem P8:∀ t:nK,wU (t.map λp=>D.tup [.str p.1,.int p.2])=some (hO t):=λt=>Io (g:=λp:Str×Int=>((Sum.inr p.1:hI),D.int p.2)) (λp=>⟨.str p.1,rfl,rfl⟩) t
def qN (es:List (Str×Option Int)):List (hI×D):=es.map λp=>((Sum.inr p.1:hI),rA p.2)
theorem FN:∀ es:List (Str×Option Int),wU (es.map λp=>D.tup [.str p.1,rA p.2])=some (qN es):=λes=>Io (g:=λp:Str×Option Int=>((Sum.inr p.1:hI),rA p.2)) (λp=>⟨.str p.1,rfl,rfl⟩) es
theorem Ul (es:List (Str×Option Int)):(qN es).map (·.1)=(es.map (·.1)).map Sum.inr:=by unfold qN;rw[List.map_map,List.map_map];rfl
def uH (es:List (Str×Option Int)) (x:Str):Option Int:=match es.find? λp=>decide (p.1=x) with
 | some p=>p.2
 | none=>none
theorem Uy:∀ {es:List (Str×Option Int)}{x:Str},x∈es.map (·.1)->mZ (qN es) (Sum.inr x)=some (rA (uH es x))
 | [],_,h=>absurd h (by simp)
 | q::es,x,h=>by
  unfold mZ uH qN;rw[aO,cY,cY];by_cases e:q.1=x
  ·subst e;rw[bE rfl,bE rfl];rfl
  ·have ne:¬ ((Sum.inr q.1:hI)=Sum.inr x):=λz=>e (iL z)
   rw[bD e,bD ne];have:=Uy (es:=es) (x:=x) (by
    rw[aO] at h;exact (aL.mp h).resolve_left λz=>e z.symm)
   unfold mZ uH qN at this;exact this
theorem E8:∀ {xs:List Str},xs.Nodup->(xs.map (Sum.inr:Str->hI)).Nodup
 | [],_=>eS
 | x::r,h=>by
  obtain⟨c,b⟩:=cH.mp h;refine cH.mpr ⟨λm=>?_,E8 b⟩;obtain⟨y,a,e⟩:=aV.mp m;rw[iL e] at a;exact c a
theorem AZ (h:(t.map (·.1)).Nodup):A7 (hO t):=by
 refine⟨?_,t.map λp=>V.int p.2,?_,?_⟩
 ·have:(hO t).map (·.1)=(t.map (·.1)).map Sum.inr:=by unfold hO;rw[List.map_map,List.map_map];rfl
  rw[this];exact E8 h
 ·unfold hO;rw[aQ];exact Gg (f:=λp:Str×Int=>D.int p.2) (λ_=>rfl) t
 ·intro v a;obtain⟨p,_,rfl⟩:=aV.mp a;exact iK (α:=Int) p.2
def vO:Option Int->V
 | none=>.non
 | some i=>.int i
theorem OV (h:(es.map (·.1)).Nodup):A7 (qN es):=by
 refine⟨?_,es.map λp=>vO p.2,?_,?_⟩
 ·rw[Ul];exact E8 h
 ·unfold qN;rw[aQ];exact Gg (f:=λp:Str×Option Int=>rA p.2) (λp=>by cases p.2<;>rfl) es
 ·intro v a;obtain⟨p,_,rfl⟩:=aV.mp a;cases p.2 with
  | none=>rfl
  | some i=>exact iK (α:=Int) i
theorem QH {κ:Type} [DecidableEq κ] {kvs:List (κ×D)}{k:κ}{d:D}(h:k∉kvs.map (·.1)):nR kvs k d=kvs++[(k,d)]:=by
 unfold nR;rw[aM];intro z;rw[eO] at z;obtain⟨p,a,e⟩:=z;exact h (aV.mpr ⟨p,a,cB e⟩)
theorem V7:∀ (b a:List (hI×D)),((a++b).map (·.1)).Nodup->qJ a b=a++b
 | [],a,_=>by simp[qJ]
 | p::b,a,h=>by
  have c:p.1∉a.map (·.1):=λq=>by
   rw[aJ] at h;exact (bK.mp h).2.2 p.1 q p.1 (by simp) rfl
  have e:qJ a (p::b)=qJ (nR a p.1 p.2) b:=rfl;rw[e,QH c,V7 b (a++[p]) (by simpa using h)];simp
def Pc:RD:=λdk ds Φ=>∃ (t:nK) (n:Int),ds=[.dK (hO t),.int n]/\-(2 ^ 64)<n/\n<2 ^ 64/\(t.map (·.1)).Nodup/\t.length<=1000/\Φ (.own (.dK (hO (xJ n t))))
def B8 (es:List (Str×Option Int)):Prop:=∀ p∈es,p.2=none\/p.2=some 0\/p.2=some 1
def Vv:RD:=λdk ds Φ=>∃ (d c:Addr) (C:Cel) (al:List (Str×Str)),dk=[d,c]/\ds=[.raw (.ref d),rT C al]/\(al.map (·.2)).Nodup/\al.length<=4/\∀ es:List (Str×Option Int),(es.map (·.1)).Perm (al.map (·.2))->B8 es->Φ (.own (.dK (qN es)))
section
variable {P:Program}{K:mC}
theorem DZ:FnScope ["weights","count"] ["weights","count"] (nF E1):=oW
theorem AW:FnScope ["deck","row"] ["deck","row"] (nF Gy):=oW
theorem EG (F:Fun K "_law_times" "_law_times" E1 f fd) (T:Txt mg):FnOk P w K mg base mJ 1 f fd ["weights","count"] (mQ K Pc):=by
 refine F.okD (k:=0) DZ (λN M o ⟨_,_,e,_⟩=>by rw[e];rfl) (by decide) λO A d s H E N M o y B=>?_
 have u:=oX y;obtain⟨t,n,rfl,r,p,l,j,g⟩:=B;refine⟨_,(mW (nQ (pC (zC rfl) yV (by rfl) T.dict cZ (aD (Xa (nm:=["name"]) rfl (NB (An ["name"] ["count","weights"] [1,0] rfl (GL (pv 0)) rfl rfl (λb c C m fp=>wT (i:=0) PX rfl (Or.inl rfl)) (λb c C m fp=>Cq) (λb c C m fp=>C2 (nC (pv 0) (nC (nW wS (pv 1) (HG u (pv 2) (pv 0) (λ_ _=>rfl))) nJ))))) ?h) gV)))),?_⟩
 case h =>
  intro x v n a H Q z L I q;exact⟨_,rfl,_,rfl,_,rfl,_,rfl,a,_,rfl,z,n,v,rfl,rfl,.inl ⟨L,I⟩,by show 2<=sizeLine;decide,q⟩
 refine⟨t,n,rfl,rfl,r,p,l,j,hO (xJ n t),?_,?_,?_⟩
 ·rw[← P8];unfold xJ;rw[List.map_map];rfl
 ·unfold hO xJ;rw[List.length_map,List.length_map];exact j
 ·rw[Aq (by rw[Tq];exact l)];exact g
theorem CN (F:Fun K "_law_edges" "_law_edges" Gy f fd) (T:Txt mg) (mN:Gd K mg "_law_take" Gh ["deck","many"] fT fdT) (oM:FnOk P w K mg base mJ 1 fT fdT ["deck","many"] (mQ K yD)) (uQ:Gd K mg "_law_shuffled" Ch ["deck","some"] fS fdS) (C0:FnOk P w K mg base mJ 2 fS fdS ["deck","some"] (mQ K Lx)):FnOk P w K mg base mJ 3 f fd ["deck","row"] (mQ K Vv):=by
 refine F.okD (k:=2) AW (λdk ds S ⟨_,_,_,_,_,e,_⟩=>by rw[e];rfl) (by decide) λaa A z s H E dk ds S v Z=>?_
 have Q:=oX v;obtain⟨d,c,C,al,rfl,rfl,U,hl,B⟩:=Z;refine⟨_,(mW (nQ (pC (zC rfl) yV (by rfl) T.dict cZ (aD (pP ["out","into"] ["deck"] [0] rfl (nS (mV C0 (v.mono (by decide)) (by rfl) uQ.m uQ.k uQ.b (aD (eA 0 (pv 0)) (aD (mP Q (pv 1) kD) gV)))) rfl rfl (λ_ _ _ _ _=>(sB (n:=2) rfl (nP (mM (i:=0) Oy rfl (Or.inl rfl)) (nP (mM (i:=1) Oy rfl (Or.inl rfl)) qS)))) (λ_ _ _ _ _=>pG) (λ_ _ _ _ _=>(oS (aD (eA 1 (pv 1)) (aD (pY Q (nN (aD Hd (aD kD (aD kD (aD Hd gV))))) (mV oM (v.mono (by decide)) (by rfl) mN.m mN.k mN.b (aD (eA 2 (pv 2)) (aD kD gV)))) gV))))) gV)))),?_⟩;unfold rC dC aC uF iV;refine⟨rfl,_,rfl,d,c,al.map rO,rfl,.inr rfl,by rw[aA];omega,λu W=>⟨.inl rfl,?_⟩⟩;obtain⟨t,y,rfl⟩:=Rb (xs:=al) W;refine⟨λi u N=>∃ a:List (Str×Option Int),u=a.map (λp=>D.tup [.str p.1,rA p.2])/\a.map (·.1)=(t.take i).map (·.2)/\B8 a/\N=[.val (.raw (.ref d))],⟨[],rfl,rfl,λ_ h=>absurd h (by simp),rfl⟩,?_,?_⟩
 ·rintro i x u N V _ ⟨a,rfl,j,M,rfl⟩;obtain⟨p,L,rfl⟩:=qH V;have lz:a.length<=100:=by
   have:=cV List.length j;rw[aA,aA,bQ,y.length_eq] at this;omega
  have go:∀ o:Option Int,(o=none\/o=some 0\/o=some 1)->∃ g:List (Str×Option Int),a.map (λp=>D.tup [.str p.1,rA p.2])++[D.tup [.str p.2,rA o]]=g.map (λp=>D.tup [.str p.1,rA p.2])/\g.map (·.1)=(t.take (i+1)).map (·.2)/\B8 g/\[Sl.val (.raw (.ref d))]=[Sl.val (.raw (.ref d))]:=λo Y=>by
   refine⟨a++[(p.2,o)],by rw[aJ];rfl,?_,?_,rfl⟩
   ·rw[aJ,j,bS,L,aJ];rfl
   ·intro q l;rcases aR.mp l with l | l
    ·exact M q l
    ·rw[bA.mp l];exact Y
  refine⟨rfl,rfl,by show 4<=1000;decide,d,c,4,rfl,rfl,by decide,by decide,λr v=>⟨.inl rfl,?_⟩⟩;have I:r=0\/r=1\/r=2\/r=3:=by omega
  rcases I with rfl | rfl | rfl | rfl
  ·exact⟨_,rfl,by show 2<=1000;decide,by rw[aA];omega,go none (.inl rfl)⟩
  ·exact⟨_,rfl,by show 2<=1000;decide,by rw[aA];omega,go (some 0) (.inr (.inl rfl))⟩
  ·exact⟨_,rfl,by show 2<=1000;decide,by rw[aA];omega,go (some 1) (.inr (.inr rfl))⟩
  ·exact⟨_,rfl,by show 2<=1000;decide,by rw[aA];omega,go none (.inl rfl)⟩
 ·rintro u N _ ⟨a,rfl,j,M,rfl⟩;rw[aA,cI] at j;have O:(a.map (·.1)).Perm (al.map (·.2)):=by rw[j];exact y.map _
  refine⟨qN a,FN a,?_,?_⟩
  ·have:=cV List.length j;rw[aA,aA,y.length_eq] at this;unfold qN;rw[aA];omega
  ·have e:qJ [] (qN a)=qN a:=V7 (qN a) [] (by
    rw[gI,Ul];exact E8 (O.nodup_iff.mpr U))
   rw[e];exact B a O M
end
theorem Tt:(["out","into"]:List Str).Nodup:=by decide +kernel
theorem IZ:(["k","gates"]:List Str).Nodup:=by decide +kernel
theorem Z4:(["name","some","deck"]:List Str).Nodup:=by decide +kernel
theorem V5:∀ {gs:yJ}{kn:List Str}{k:Nat}{g:Str×Str×List Str},pB kn gs->gs[k]?=some g->ArOk wd g.2.2.length->pB kn (gs.set k (g.1,wd,g.2.2))
 | [],_,_,_,_,e,_=>by simp at e
 | a::r,kn,0,g,h,e,q=>by
  have e:a=g:=by simpa using e
  subst e;exact⟨q,h.2.1,h.2.2⟩
 | a::r,kn,k+1,g,h,e,q=>⟨h.1,h.2.1,V5 h.2.2 (by simpa using e) q⟩
theorem Mb:∀ {gs:yJ}{k:Nat}{g:Str×Str×List Str},gs[k]?=some g->(gs.set k (g.1,wd,g.2.2)).map (·.1)=gs.map (·.1)
 | [],_,_,e=>by simp at e
 | a::r,0,g,e=>by
  have e:a=g:=by simpa using e
  subst e;rfl
 | a::r,k+1,g,e=>by
  have b:=Mb (wd:=wd) (gs:=r) (k:=k) (g:=g) (by simpa using e);rw[lM,aO,aO,b]
theorem MY (h:GoodRow C al) (hg:C.gates[k]?=some g) (h1:1<g.2.2.length) (hw:wd∈uX):GoodRow ⟨C.ins,C.gates.set k (g.1,wd,g.2.2),C.outs⟩ al:=by
 have c:=(Gp h.good.gt hg).1;have d:ArOk wd g.2.2.length:=⟨.inl ⟨hw,by rcases c.ok with⟨_,z⟩ | ⟨_,z⟩ | ⟨_,z⟩ | ⟨_,z⟩ | ⟨_,z⟩<;>omega⟩⟩;have a:(Cel.mk C.ins (C.gates.set k (g.1,wd,g.2.2)) C.outs).names=C.names:=by
  show C.ins++(C.gates.set k (g.1,wd,g.2.2)).map (·.1)=_;rw[Mb hg];rfl
 refine⟨⟨by rw[a];exact h.good.nd,by rw[a];exact h.good.nm,V5 h.good.gt hg d,by rw[a];exact h.good.os,h.good.ond,h.good.li,by show (C.gates.set _ _).length<=24;rw[bT];exact h.good.lg,h.good.lo⟩,λo b=>?_,h.n1,h.n2,h.mem,h.la⟩;show o∈(C.gates.set k (g.1,wd,g.2.2)).map (·.1);rw[Mb hg];exact h.og o b
theorem Q6:∀ (t u:nK),(u.map (·.1)).Nodup->∃ t':nK,qJ (hO u) (hO t)=hO t'/\(t'.map (·.1)).Nodup/\t'.length<=u.length+t.length
 | [],u,h=>⟨u,rfl,h,by simp⟩
 | p::t,u,h=>by
  obtain⟨t',e,n,l⟩:=Q6 t (wB u p.1 p.2) (Jh h);refine⟨t',?_,n,?_⟩
  ·rw[← e,← Mz];rfl
  ·have:=Kv u p.1 p.2;rw[bX];omega
def T4:RD:=λdk ds Φ=>∃ (d c:Addr) (C:Cel) (al:List (Str×Str)) (t:nK),dk=[d,c]/\ds=[.raw (.ref d),rT C al,.dK (hO t)]/\GoodRow C al/\(t.map (·.1)).Nodup/\t.length<=60/\∀ (C':Cel) (t':nK),GoodRow C' al->(t'.map (·.1)).Nodup->t'.length<=100->Φ (.own (.lst [rT C' al,.dK (hO t')]))
abbrev rZ (d:Addr) (C:Cel) (al:List (Str×Str)) (s2 s5 s6 s7 s8 s9 s10 s11 s12 s13:Sl):List Sl:=[.val (.raw (.ref d)),.val (rT C al),s2,.val (qW C),.val (.tup (al.map rO)),s5,s6,s7,s8,s9,s10,s11,s12,s13]
section
variable {P:Program}{K:mC}
theorem uI:FnScope ["deck","row","weights","cell","along","ins","outs","way","names","name","gates","wide","at","some"] ["deck","row","weights"] (nF Fa):=oW
theorem IM (F:Fun K "_law_spoilt" "_law_spoilt" Fa f fd) (T:Txt mg) (mN:Gd K mg "_law_take" Gh ["deck","many"] fT fdT) (oM:FnOk P w K mg base mJ 1 fT fdT ["deck","many"] (mQ K yD)) (wF:Gd K mg "_law_words_of" Bw ["row"] fW fdW) (B6:FnOk P w K mg base mJ 1 fW fdW ["row"] (mQ K Im)):FnOk P w K mg base mJ 2 f fd ["deck","row","weights"] (mQ K T4):=by
 refine F.okD (k:=1) uI (λdk ds Φ ⟨_,_,_,_,_,_,e,_⟩=>by rw[e];rfl) (by decide) λa5 A ai s H E dk ds Φ B hR=>?_
 have O:=oX B;obtain⟨d,c,C,al,t,rfl,rfl,hC,ah,a0,aj⟩:=hR;refine⟨_,(mF (Ap (m:=99) (eA 1 (pv 1)) (sB (n:=2) rfl (nP (mM (i:=3) uI.nd rfl (Or.inl rfl)) (nP (mM (i:=4) uI.nd rfl (Or.inl rfl)) qS)))) (mF (Ap (m:=99) (mV B6 (B.mono (by decide)) (by rfl) wF.m wF.k wF.b (aD (eA 1 (pv 1)) gV)) (Bj (n:=2) rfl (nP (mM (i:=5) uI.nd rfl (Or.inl rfl)) (nP (mM (i:=6) uI.nd rfl (Or.inl rfl)) qS)))) (mF (mY (i:=2) uI.nd rfl (Or.inl rfl) (pC (zC rfl) yV (by rfl) T.dict cZ (tH (pv 2) gV))) (mF (mY (i:=7) uI.nd rfl (Or.inl rfl) (mV oM (B.mono (by decide)) (by rfl) mN.m mN.k mN.b (aD (eA 0 (pv 0)) (aD kD gV)))) (mF (mY (i:=8) uI.nd rfl (Or.inl rfl) (nZ nT nU (nZ nT nU (pL nT nU (pv 5) (eA 6 (pv 6))) (pP ["out","into"] [] [] rfl (nS (eA 4 (pv 4))) rfl rfl (λ_ _ _ _ _=>(sB (n:=2) rfl (nP (mM (i:=0) Tt rfl (Or.inl rfl)) (nP (mM (i:=1) Tt rfl (Or.inl rfl)) qS)))) (λ_ _ _ _ _=>pG) (λ_ _ _ _ _=>(eA 1 (pv 1))))) (nN (aD mS gV)))) (mF (qT (qZ (rL B.units) (qD false) (pv 7) kD) (mF (mY (i:=9) uI.nd rfl (Or.inl rfl) (mP O (pv 8) (mV oM (B.mono (by decide)) (by rfl) mN.m mN.k mN.b (aD (eA 0 (pv 0)) (aD (oF qQ qR (by rfl) T.len bP (aD (eA 8 (pv 8)) gV)) gV))))) (mW (vW (n:=2) O (nZ nT nU (yC O (pv 2) (eA 9 (pv 9)) kD) (pY O (nN (aD kD (aD (wG kD) (aD kD (aD (nZ wD wI kD (nZ Fv Ix kD kD)) (aD (nZ Kb Md kD (mV oM (B.mono (by decide)) (by rfl) mN.m mN.k mN.b (aD (eA 0 (pv 0)) (aD kD gV)))) gV)))))) (mV oM (B.mono (by decide)) (by rfl) mN.m mN.k mN.b (aD (eA 0 (pv 0)) (aD kD gV))))) (pv 2) (eA 9 (pv 9))))) rB) (mF (mY (i:=10) uI.nd rfl (Or.inr rfl) (pC J4 Od (by rfl) T.list kB (aD (mP O (pv 3) kD) gV))) (mF (Ab (i:=11) ["k"] ["gates"] [10] uI.nd rfl (Or.inl rfl) rfl (Aj (by rfl) T.range (oF qQ qR (by rfl) T.len bP (tH (pv 10) gV))) rfl rfl (λ_ _ _ _ _=>(mM (i:=0) IZ rfl (Or.inl rfl))) (λ_ _ _ _ _=>(xE (C1 Dj Dc (oF qQ qR (by rfl) T.len bP (aD (pY O (mP O (pv 1) (eA 0 (pv 0))) kD) gV)) kD))) (λ_ _ _ _ _=>(eA 0 (pv 0)))) (mF (qT (Gj (Vx (qZ (rL B.units) (qD false) (pv 7) kD) (Ow (qZ (Av B.units) (qD true) (pv 11) (nN gV))))) (mF (mY (i:=12) uI.nd rfl (Or.inl rfl) (mP O (pv 11) (mV oM (B.mono (by decide)) (by rfl) mN.m mN.k mN.b (aD (eA 0 (pv 0)) (aD (oF qQ qR (by rfl) T.len bP (aD (eA 11 (pv 11)) gV)) gV))))) (mW (vW (n:=10) O (oS (aD (pY O (mP O (pv 10) (eA 12 (pv 12))) kD) (aD (pY O (nN (aD mS (aD mS (aD mS gV)))) (mV oM (B.mono (by decide)) (by rfl) mN.m mN.k mN.b (aD (eA 0 (pv 0)) (aD kD gV)))) (aD (pY O (mP O (pv 10) (eA 12 (pv 12))) kD) gV)))) (pv 10) (eA 12 (pv 12))))) rB) (mF (qT (qZ (rL B.units) (qD false) (pv 7) kD) (mF (mY (i:=13) uI.nd rfl (Or.inr rfl) (nN (aD kD (aD kD (aD (wG kD) (aD kD (aD (wG kD) (aD kD (aD (nZ nT nU (nZ xR Ay (mV oM (B.mono (by decide)) (by rfl) mN.m mN.k mN.b (aD (eA 0 (pv 0)) (aD (nZ xR Ay (nZ wD wI kD (nZ Fv Ix kD kD)) kD) gV))) (nZ Fv Ix kD kD)) kD) gV))))))))) (mW (mY (i:=2) uI.nd rfl (Or.inl rfl) (pC (zC rfl) yV (by rfl) T.dict cZ (aD (pP ["name"] ["some","deck"] [13,0] rfl (nS (eA 8 (pv 8))) rfl rfl (λ_ _ _ _ _=>(mM (i:=0) Z4 rfl (Or.inl rfl))) (λ_ _ _ _ _=>pG) (λ_ _ _ _ _=>(oS (aD (eA 0 (pv 0)) (aD (mP O (pv 1) (mV oM (B.mono (by decide)) (by rfl) mN.m mN.k mN.b (aD (eA 2 (pv 2)) (aD kD gV)))) gV))))) gV))))) rB) (mW (nQ (nN (aD (oS (aD (oS (aD (mP O (pv 3) kD) (aD (pC tN tO (by rfl) T.tuple bU (tH (pv 10) gV)) (aD (mP O (pv 3) kD) gV)))) (aD (eA 4 (pv 4)) gV))) (aD (eA 2 (pv 2)) gV))))))))))))))),?_⟩;have a4:=hC.la;have a3:=hC.good.li;have ao:=hC.good.lg;have a2:=hC.good.lo;obtain⟨l,aa⟩:∃ l,l=mH C al++nV C al++al.map (·.2)++[("" : Str)]:=⟨_,rfl⟩;have l1:(mH C al).length<=C.ins.length:=cD _ _;have l2:(nV C al).length<=C.outs.length:=cD _ _;have ay:1<=l.length/\l.length<=20:=by
  rw[aa];simp only[aH,aA,bW];omega
 refine mK (λa=>a=rZ d C al (.val (.dK (hO t))) .no .no .no .no .no .no .no .no .no) (λN I=>⟨rfl,rfl,I _ rfl⟩) ?_;rintro _ rfl;refine mK (λa=>a=rZ d C al (.val (.dK (hO t))) (.val (.lst ((mH C al).map D.str))) (.val (.lst ((nV C al).map D.str))) .no .no .no .no .no .no .no) (λN I=>?_) ?_
 ·exact⟨C,al,rfl,by omega,by omega,by omega,.inl rfl,rfl,rfl,I _ rfl⟩
 rintro _ rfl;refine mK (λa=>a=rZ d C al (.own (.dK (hO t))) (.val (.lst ((mH C al).map D.str))) (.val (.lst ((nV C al).map D.str))) .no .no .no .no .no .no .no) (λN I=>⟨rfl,I _ rfl⟩) ?_;rintro _ rfl;refine mK (λa=>∃ u:Nat,u<3/\a=rZ d C al (.own (.dK (hO t))) (.val (.lst ((mH C al).map D.str))) (.val (.lst ((nV C al).map D.str))) (.val (.int u)) .no .no .no .no .no .no) (λN I=>⟨d,c,3,rfl,rfl,by decide,by decide,λr B=>⟨.inl rfl,I _ ⟨r,by omega,rfl⟩⟩⟩) ?_;rintro _ ⟨u,az,rfl⟩;refine mK (λa=>a=rZ d C al (.own (.dK (hO t))) (.val (.lst ((mH C al).map D.str))) (.val (.lst ((nV C al).map D.str))) (.val (.int u)) (.own (.lst (l.map D.str))) .no .no .no .no .no) (λN I=>?_) ?_
 ·have k:=I _ rfl;rw[aa,aJ,aJ,aJ,aQ] at k;refine⟨rfl,by rw[aA,aA];omega,?_⟩;refine pZ al rO (λp=>D.str p.2) (rZ d C al (.own (.dK (hO t))) (.val (.lst ((mH C al).map D.str))) (.val (.lst ((nV C al).map D.str))) (.val (.int u)) .no .no .no .no .no .no) (λΨ h=>h) (by omega) (λj y ys Nx e h1 h2=>⟨rfl,rfl,h1,h2⟩) ?_;refine⟨?_,by show 1<=1000;decide,?_,k⟩
  ·show ((mH C al).map D.str++(nV C al).map D.str).length+(al.map _).length<=100000;simp only[aH,aA];omega
  ·show (((mH C al).map D.str++(nV C al).map D.str)++al.map _).length+1<=100000;simp only[aH,aA];omega
 rintro _ rfl;refine mK (λa=>∃ (L:nK) (M W:Sl),(M = .own (.lst (l.map D.str))\/M = .val (.lst (l.map D.str)))/\(L.map (·.1)).Nodup/\L.length<=61/\a=rZ d C al (.own (.dK (hO L))) (.val (.lst ((mH C al).map D.str))) (.val (.lst ((nV C al).map D.str))) (.val (.int u)) M W .no .no .no .no) (λN I=>?_) ?_
 ·refine⟨rfl,?_⟩;show if (decide ((u:Int)=0))=true then _ else _
  by_cases Y:(u:Int)=0
  ·rw[bE Y];refine (aP rfl).mpr ?_;refine mK (λa=>∃ x:Str,a=rZ d C al (.own (.dK (hO t))) (.val (.lst ((mH C al).map D.str))) (.val (.lst ((nV C al).map D.str))) (.val (.int u)) (.val (.lst (l.map D.str))) (.val (.str x)) .no .no .no .no) (λN' Z=>?_) ?_
   ·refine⟨rfl,rfl,_,rfl,d,c,_,rfl,rfl,by rw[aA];omega,by rw[aA];omega,λr B=>⟨.inl rfl,?_⟩⟩;rw[aA] at B;obtain⟨o,ho⟩:∃ o,l[r]?=some o:=⟨l[r]'(by omega),aG (by omega)⟩;exact⟨.str o,qG (by rw[aX,ho];rfl),Z _ ⟨o,rfl⟩⟩
   rintro _ ⟨x,rfl⟩;have fin:∀ z:Int,N (rZ d C al (.own (.dK (nR (hO t) (Sum.inr x) (.int (look t x+z))))) (.val (.lst ((mH C al).map D.str))) (.val (.lst ((nV C al).map D.str))) (.val (.int u)) (.val (.lst (l.map D.str))) (.val (.str x)) .no .no .no .no):=λz=>by
    rw[Mz];exact I _ ⟨wB t x (look t x+z),_,_,.inr rfl,Jh ah,bY (Kv _ _ _) (by omega),rfl⟩
   have hs:∀ v:Int,uJ (.dK (hO t)) (.str x) (.int v)=some (.dK (nR (hO t) (Sum.inr x) (.int v))):=λv=>by
    have:(hO t).length<100000:=by unfold hO;rw[List.length_map];omega
    simp only[uJ,aP this];rfl
   refine⟨rfl,_,rfl,?_⟩;rw[xL];refine⟨⟨by decide,by decide,by decide⟩,.inl ⟨by decide,by decide⟩,d,c,29,rfl,rfl,by decide,by decide,λr1 h1=>⟨.inl rfl,⟨by omega,by omega,by decide⟩,by show 5<=1000;decide,d,c,5,rfl,rfl,by decide,by decide,λr B=>⟨.inl rfl,?_⟩⟩⟩;have ac:r=0\/r=1\/r=2\/r=3\/r=4:=by omega
   rcases ac with rfl | rfl | rfl | rfl | rfl
   ·exact⟨_,rfl,rfl,_,hs _,fin _⟩
   ·exact⟨_,rfl,rfl,_,hs _,fin _⟩
   ·exact⟨_,rfl,rfl,_,hs _,fin _⟩
   ·exact⟨_,rfl,rfl,_,hs _,fin _⟩
   ·exact⟨_,rfl,rfl,_,hs _,fin _⟩
  ·rw[bD Y];exact pT (I _ ⟨t,_,.no,.inl rfl,ah,by omega,rfl⟩)
 rintro _ ⟨L,M,W,h8,ab,ae,rfl⟩;refine mK (λa=>a=rZ d C al (.own (.dK (hO L))) (.val (.lst ((mH C al).map D.str))) (.val (.lst ((nV C al).map D.str))) (.val (.int u)) M W (.own (.lst (C.gates.map nX))) .no .no .no) (λN I=>⟨rfl,_,rfl,_,rfl,I _ rfl⟩) ?_;rintro _ rfl;refine mK (λa=>∃ S:List Nat,(∀ k∈S,∃ g,C.gates[k]?=some g/\1<g.2.2.length)/\S.length<=24/\a=rZ d C al (.own (.dK (hO L))) (.val (.lst ((mH C al).map D.str))) (.val (.lst ((nV C al).map D.str))) (.val (.int u)) M W (.own (.lst (C.gates.map nX))) (.own (.lst (S.map λk:Nat=>D.int (0+(k:Int))))) .no .no) (λN I=>?_) ?_
 ·unfold rG;refine xV (List.range C.gates.length) (λk=>D.int (0+(k:Int))) (λk=>D.int (0+(k:Int))) (λk=>decide (1<((C.gates[k]?.map λg=>g.2.2.length).getD 0))) (rZ d C al (.own (.dK (hO L))) (.val (.lst ((mH C al).map D.str))) (.val (.lst ((nV C al).map D.str))) (.val (.int u)) M W (.own (.lst (C.gates.map nX))) .no .no .no) (λΨ h=>?_) (by rw[cU];omega) (λj k ys Nx e h1 h2 h3=>?_) (I _ ⟨_,λk hk=>?_,?_,rfl⟩)
  ·refine⟨rfl,rfl,_,rfl,?_⟩;show -(2 ^ 62)<=(((C.gates.map nX).length:Nat):Int)/\(((C.gates.map nX).length:Nat):Int)<2 ^ 62/\Ψ (uB 0 (((C.gates.map nX).length:Nat):Int).toNat) _;rw[aA,cC];exact⟨by omega,by omega,h⟩
  ·have hk:k<C.gates.length:=eD.mp (aI e);have hg:C.gates[k]?=some C.gates[k]:=aG hk;refine⟨rfl,nX C.gates[k],?_,_,rfl,rfl,_,rfl,?_⟩
   ·rw[lB];exact qG (by rw[aX,hg];rfl)
   ·show if (decide ((1:Int)<((C.gates[k].2.2.map D.str).length:Nat)))=true then _ else _
    rw[hg] at h2 h3;by_cases Y:1<C.gates[k].2.2.length
    ·rw[bE (by rw[aA];omega)];exact (aP rfl).mpr ⟨h1,h2 (bE Y)⟩
    ·rw[bD (by rw[aA];omega)];exact pT (h3 (bD Y))
  ·obtain⟨k1,k2⟩:=cT.mp hk;have hk:k<C.gates.length:=eD.mp k1;have hg:C.gates[k]?=some C.gates[k]:=aG hk;refine⟨_,hg,?_⟩;rw[hg] at k2;exact cB k2
  ·exact bY (cD _ _) (by rw[cU];exact ao)
 rintro _ ⟨S,ak,aw,rfl⟩;refine mK (λa=>∃ (C':Cel) (V U:Sl),GoodRow C' al/\C'.ins=C.ins/\C'.outs=C.outs/\a=rZ d C al (.own (.dK (hO L))) (.val (.lst ((mH C al).map D.str))) (.val (.lst ((nV C al).map D.str))) (.val (.int u)) M W (.own (.lst (C'.gates.map nX))) V U .no) (λN I=>?_) ?_
 ·refine⟨rfl,?_⟩;show if (decide ((u:Int)=1))=true then _ else _
  by_cases Y:(u:Int)=1
  ·rw[bE Y];refine (aP rfl).mpr ⟨rfl,by show 0<=1000;decide,?_⟩;by_cases hz:S=[]
   ·subst hz;exact I _ ⟨C,_,_,hC,rfl,rfl,rfl⟩
   ·have ax:0<S.length:=List.length_pos_iff.mpr hz;have ez:(S.map λk:Nat=>D.int (0+(k:Int))).isEmpty=false:=by rw[List.isEmpty_map];exact List.isEmpty_eq_false_iff.mpr hz
    show if nb true (S.map λk:Nat=>D.int (0+(k:Int))).isEmpty=true then _ else _
    rw[ez];refine (aP rfl).mpr ?_;refine mK (λa=>∃ k:Nat,k∈S/\a=rZ d C al (.own (.dK (hO L))) (.val (.lst ((mH C al).map D.str))) (.val (.lst ((nV C al).map D.str))) (.val (.int u)) M W (.own (.lst (C.gates.map nX))) (.val (.lst (S.map λk:Nat=>D.int (0+(k:Int))))) (.val (.int (0+(k:Int)))) .no) (λN' Z=>?_) ?_
    ·refine⟨rfl,rfl,_,rfl,d,c,_,rfl,rfl,by rw[aA];omega,by rw[aA];omega,λr B=>⟨.inl rfl,?_⟩⟩;rw[aA] at B;obtain⟨o,ho⟩:∃ o,S[r]?=some o:=⟨S[r]'(by omega),aG (by omega)⟩;exact⟨_,qG (by rw[aX,ho];rfl),Z _ ⟨o,aI ho,rfl⟩⟩
    rintro _ ⟨k,hk,rfl⟩;obtain⟨g,hg,hw⟩:=ak k hk;have ag:oZ (C.gates.map nX) (0+(k:Int))=some (nX g):=by rw[lB];exact qG (by rw[aX,hg];rfl)
    have aq:=(aU.mp hg).1;have fin:∀ wd∈uX,N (rZ d C al (.own (.dK (hO L))) (.val (.lst ((mH C al).map D.str))) (.val (.lst ((nV C al).map D.str))) (.val (.int u)) M W (.own (.lst ((C.gates.map nX).set k (.tup [.str g.1,.str wd,.tup (g.2.2.map D.str)])))) (.val (.lst (S.map λk:Nat=>D.int (0+(k:Int))))) (.val (.int (0+(k:Int)))) .no):=λwd an=>by
     have av:(C.gates.map nX).set k (.tup [.str g.1,.str wd,.tup (g.2.2.map D.str)])=(C.gates.set k (g.1,wd,g.2.2)).map nX:=by rw[List.map_set];rfl
     rw[av];exact I _ ⟨⟨C.ins,C.gates.set k (g.1,wd,g.2.2),C.outs⟩,_,_,MY hC hg hw an,rfl,rfl,rfl⟩
    refine⟨rfl,_,ag,_,rfl,by show 3<=1000;decide,d,c,3,rfl,rfl,by decide,by decide,λr B=>⟨.inl rfl,?_⟩⟩;have ac:r=0\/r=1\/r=2:=by omega
    have st:∀ x:D,uJ (.lst (C.gates.map nX)) (.int (0+(k:Int))) x=some (.lst ((C.gates.map nX).set k x)):=λx=>by
     rw[lB];show (tQ (C.gates.map nX).length (k:Int)).map _=_;have e0:tQ (C.gates.map nX).length (k:Int)=some k:=by
      unfold tQ;rw[aA];simp[aq]
     rw[e0];rfl
    rcases ac with rfl | rfl | rfl
    ·exact⟨_,rfl,rfl,_,ag,_,rfl,by show 3<=1000;decide,rfl,_,st _,fin "and" (by decide)⟩
    ·exact⟨_,rfl,rfl,_,ag,_,rfl,by show 3<=1000;decide,rfl,_,st _,fin "or" (by decide)⟩
    ·exact⟨_,rfl,rfl,_,ag,_,rfl,by show 3<=1000;decide,rfl,_,st _,fin "odd" (by decide)⟩
  ·rw[bD Y];exact pT (I _ ⟨C,_,_,hC,rfl,rfl,rfl⟩)
 rintro _ ⟨C',V,U,ar,ei,eo,rfl⟩;refine mK (λa=>∃ (L:nK) (s2 M af:Sl),(s2 = .own (.dK (hO L))\/s2 = .val (.dK (hO L)))/\(L.map (·.1)).Nodup/\L.length<=100/\a=rZ d C al s2 (.val (.lst ((mH C al).map D.str))) (.val (.lst ((nV C al).map D.str))) (.val (.int u)) M W (.own (.lst (C'.gates.map nX))) V U af) (λN I=>?_) ?_
 ·refine⟨rfl,?_⟩;show if (decide ((u:Int)=2))=true then _ else _
  by_cases Y:(u:Int)=2
  ·rw[bE Y];refine (aP rfl).mpr ?_;refine mK (λa=>∃ ss:List Int,ss.length=7/\a=rZ d C al (.own (.dK (hO L))) (.val (.lst ((mH C al).map D.str))) (.val (.lst ((nV C al).map D.str))) (.val (.int u)) M W (.own (.lst (C'.gates.map nX))) V U (.own (.lst (ss.map D.int)))) (λN' Z=>?_) ?_
   ·exact⟨⟨by decide,by decide,by decide⟩,.inl ⟨by decide,by decide⟩,d,c,_,rfl,rfl,by decide,by decide,λr B=>⟨.inl rfl,⟨by decide,by decide,by decide⟩,by show 7<=1000;decide,Z _ ⟨[0,1,-1,2,-2,7,(r:Int)-10 ^ (9:Int).toNat+1],rfl,rfl⟩⟩⟩
   rintro _ ⟨ss,a1,rfl⟩;unfold rG dC aC uF iV;have au:∀ Q:Sl->List Sl->Prop,(∀ M,Q (.val (.lst (l.map D.str))) (rZ d C al (.own (.dK (hO L))) (.val (.lst ((mH C al).map D.str))) (.val (.lst ((nV C al).map D.str))) (.val (.int u)) M W (.own (.lst (C'.gates.map nX))) V U (.own (.lst (ss.map D.int)))))->vd 8 [d,c] (rZ d C al (.own (.dK (hO L))) (.val (.lst ((mH C al).map D.str))) (.val (.lst ((nV C al).map D.str))) (.val (.int u)) M W (.own (.lst (C'.gates.map nX))) V U (.own (.lst (ss.map D.int)))) Q:=λQ q=>by
    rcases h8 with rfl | rfl
    ·exact q _
    ·exact q _
   refine au _ λM=>?_
   refine⟨λi ys cs=>∃ zs:nK,ys=zs.map (λp=>D.tup [.str p.1,.int p.2])/\zs.length=i/\cs=[.own (.lst (ss.map D.int)),.val (.raw (.ref d))],⟨[],rfl,rfl,rfl⟩,?_,?_⟩
   ·rintro i x ys cs hx _ ⟨zs,rfl,hz,rfl⟩;obtain⟨y,hy,rfl⟩:=qH hx;have hi:=(aU.mp hy).1;refine⟨rfl,d,c,7,rfl,rfl,by decide,by decide,λr B=>⟨.inl rfl,?_⟩⟩;obtain⟨v,hv⟩:∃ v,ss[r]?=some v:=⟨ss[r]'(by omega),aG (by omega)⟩;refine⟨.int v,qG (by rw[aX,hv];rfl),by show 2<=1000;decide,by rw[aA];omega,zs++[(y,v)],by rw[aJ];rfl,by rw[aH,hz];rfl,rfl⟩
   ·rintro ys cs _ ⟨zs,rfl,hz,rfl⟩;rw[aA] at hz;obtain⟨t2,e2,n2,l2⟩:=Q6 zs [] eS;refine⟨hO zs,P8 zs,by unfold hO;rw[List.length_map];omega,?_⟩;have e2:qJ [] (hO zs)=hO t2:=e2;rw[e2];rw[gJ] at l2;exact I _ ⟨t2,_,M,_,.inl rfl,n2,by omega,rfl⟩
  ·rw[bD Y];exact pT (I _ ⟨L,_,M,.no,.inl rfl,ab,by omega,rfl⟩)
 rintro _ ⟨L,s2,M,af,h2,ab,ae,rfl⟩;have k:=aj C' L ar ab ae;unfold rT qW at k;rw[ei,eo] at k;rcases h2 with rfl | rfl
 ·exact⟨rfl,_,rfl,rfl,rfl,_,rfl,by show 3<=1000;decide,by show 2<=1000;decide,by show 2<=1000;decide,k⟩
 ·exact⟨rfl,_,rfl,rfl,rfl,_,rfl,by show 3<=1000;decide,by show 2<=1000;decide,by show 2<=1000;decide,k⟩
end
def Ux:RD:=λdk ds Φ=>∃ (d c:Addr),dk=[d,c]/\ds=[.raw (.ref d)]/\∀ (C:Cel) (al:List (Str×Str)) (t:nK) (es:List (Str×Option Int)),GoodRow C al->(t.map (·.1)).Nodup->t.length<=100->(es.map (·.1)).Perm (al.map (·.2))->B8 es->Φ (.own (.lst [rT C al,.tup [.dK (qN es),.dK (hO t)]]))
section
variable {P:Program}{K:mC}
theorem xC:FnScope ["deck","way","row","weights"] ["deck"] (nF Em):=oW
theorem BE (F:Fun K "_law_claimed" "_law_claimed" Em f fd) (T:Txt mg) (mN:Gd K mg "_law_take" Gh ["deck","many"] fT fdT) (oM:FnOk P w K mg base mJ 1 fT fdT ["deck","many"] (mQ K yD))
  (Nf:Gd K mg "_law_row" G6 ["deck","inputs","gates","most"] fR fdR) (AC:FnOk P w K mg base mJ 4 fR fdR ["deck","inputs","gates","most"] (mQ K Ws)) (A9:Gd K mg "_law_spoilt" Fa ["deck","row","weights"] fS fdS) (Uk:FnOk P w K mg base mJ 2 fS fdS ["deck","row","weights"] (mQ K T4))
  (Jz:Gd K mg "_law_made" Fx ["deck","kit"] fM fdM) (ER:FnOk P w K mg base mJ 4 fM fdM ["deck","kit"] (mQ K Qq)) (K9:Gd K mg "_law_kit" F6 ["deck"] fK fdK) (Y0:FnOk P w K mg base mJ 2 fK fdK ["deck"] (mQ K Ua))
  (Ko:Gd K mg "_law_times" E1 ["weights","count"] fX fdX) (Yw:FnOk P w K mg base mJ 1 fX fdX ["weights","count"] (mQ K Pc)) (N2:Gd K mg "_law_edges" Gy ["deck","row"] fE fdE) (CU:FnOk P w K mg base mJ 3 fE fdE ["deck","row"] (mQ K Vv)):FnOk P w K mg base mJ 5 f fd ["deck"] (mQ K Ux):=by
 refine F.okD (k:=4) xC (λdk ds Φ ⟨_,_,_,e,_⟩=>by rw[e];rfl) (by decide) λab A Z s H E dk ds Φ h hR=>?_
 have hu:=oX h;obtain⟨d,c,rfl,rfl,S⟩:=hR;refine⟨_,(mF (mY (i:=1) xC.nd rfl (Or.inl rfl) (mV oM (h.mono (by decide)) (by rfl) mN.m mN.k mN.b (aD (eA 0 (pv 0)) (aD kD gV)))) (mF (qT (qZ (rL h.units) (qD false) (pv 1) kD) (mF (mY (i:=2) xC.nd rfl (Or.inl rfl) (mV AC (h.mono (by decide)) (by rfl) Nf.m Nf.k Nf.b (aD (eA 0 (pv 0)) (aD (pY hu (nN (aD kD (aD kD gV))) (pC zN Ah (by rfl) T.int eR (aD (Cp (rL h.units) (qD false) (mV oM (h.mono (by decide)) (by rfl) mN.m mN.k mN.b (aD (eA 0 (pv 0)) (aD kD gV))) kD) gV))) (aD (pY hu (nN (aD kD (aD kD gV))) (mV oM (h.mono (by decide)) (by rfl) mN.m mN.k mN.b (aD (eA 0 (pv 0)) (aD kD gV)))) (aD kD gV)))))) (mW (Ap (m:=99) (mV Uk (h.mono (by decide)) (by rfl) A9.m A9.k A9.b (aD (eA 0 (pv 0)) (aD (eA 2 (pv 2)) (aD Jb gV)))) (Bj (n:=2) rfl (nP (mM (i:=2) xC.nd rfl (Or.inl rfl)) (nP (mM (i:=3) xC.nd rfl (Or.inl rfl)) qS)))))) (mF (Ap (m:=99) (mV ER (h.mono (by decide)) (by rfl) Jz.m Jz.k Jz.b (aD (eA 0 (pv 0)) (aD (mV Y0 (h.mono (by decide)) (by rfl) K9.m K9.k K9.b (aD (eA 0 (pv 0)) gV)) gV))) (Bj (n:=2) rfl (nP (mM (i:=2) xC.nd rfl (Or.inl rfl)) (nP (mM (i:=3) xC.nd rfl (Or.inl rfl)) qS)))) (mW (mY (i:=3) xC.nd rfl (Or.inl rfl) (mV Yw (h.mono (by decide)) (by rfl) Ko.m Ko.k Ko.b (aD (eA 3 (pv 3)) (aD (pY hu (nN (aD kD (aD (wG kD) (aD kD (aD (nZ Fv Ix kD kD) (aD (nZ Kb Md kD (mV oM (h.mono (by decide)) (by rfl) mN.m mN.k mN.b (aD (eA 0 (pv 0)) (aD kD gV)))) gV)))))) (mV oM (h.mono (by decide)) (by rfl) mN.m mN.k mN.b (aD (eA 0 (pv 0)) (aD kD gV)))) gV))))))) (mF (qT (Gj (Vx (qZ Dj Dc (pv 1) kD) (Ow (qZ CK DC (pv 1) kD)))) (mW (Ap (m:=99) (mV Uk (h.mono (by decide)) (by rfl) A9.m A9.k A9.b (aD (eA 0 (pv 0)) (aD (eA 2 (pv 2)) (aD (eA 3 (pv 3)) gV)))) (Bj (n:=2) rfl (nP (mM (i:=2) xC.nd rfl (Or.inl rfl)) (nP (mM (i:=3) xC.nd rfl (Or.inl rfl)) qS))))) rB) (mW (nQ (nN (aD (eA 2 (pv 2)) (aD (oS (aD (mV CU (h.mono (by decide)) (by rfl) N2.m N2.k N2.b (aD (eA 0 (pv 0)) (aD (eA 2 (pv 2)) gV))) (aD (eA 3 (pv 3)) gV))) gV)))))))),?_⟩;refine mK (λv=>∃ o:Nat,o<4/\v=[.val (.raw (.ref d)),.val (.int o),.no,.no]) (λN B=>⟨d,c,4,rfl,rfl,by decide,by decide,λr h=>⟨.inl rfl,B _ ⟨r,by omega,rfl⟩⟩⟩) ?_;rintro _ ⟨o,aa,rfl⟩;refine mK (λv=>∃ (C:Cel) (al:List (Str×Str)) (t:nK) (u:Sl),GoodRow C al/\(t.map (·.1)).Nodup/\(t.length<=100/\(o≠3->t.length<=60))/\(u = .val (.dK (hO t))\/u = .own (.dK (hO t)))/\v=[.val (.raw (.ref d)),.val (.int o),.val (rT C al),u]) (λN B=>?_) ?_
 ·refine⟨rfl,?_⟩;show if (decide ((o:Int)=3))=true then _ else _
  by_cases V:(o:Int)=3
  ·rw[bE V];refine (aP rfl).mpr ?_;refine mK (λv=>∃ (C:Cel) (al:List (Str×Str)),GoodRow C al/\v=[.val (.raw (.ref d)),.val (.int o),.val (rT C al),.no]) (λN' y=>?_) ?_
   ·refine⟨by show 2<=1000;decide,d,c,4,rfl,rfl,by decide,by decide,λr0 h0=>⟨.inl rfl,?_⟩⟩;have go:∀ b:Bool,∃ (x:D) (a:Nat),oZ [D.int 6,D.int 4] (if b then 1 else 0)=some x/\x = .int a/\a<=6:=λb=>by
     cases b
     ·exact⟨_,6,rfl,rfl,by decide⟩
     ·exact⟨_,4,rfl,rfl,by decide⟩
    obtain⟨x,a,e1,rfl,ha⟩:=go (nb false (decide ((r0:Int)=1)));refine⟨_,e1,by show 2<=1000;decide,d,c,2,rfl,rfl,by decide,by decide,λI h1=>⟨.inl rfl,?_⟩⟩;have L:I=0\/I=1:=by omega
    rcases L with rfl | rfl
    ·exact⟨_,rfl,d,c,a,10,4,rfl,rfl,ha,by decide,by decide,λC al g=>⟨.inl rfl,y _ ⟨C,al,g,rfl⟩⟩⟩
    ·exact⟨_,rfl,d,c,a,24,4,rfl,rfl,ha,by decide,by decide,λC al g=>⟨.inl rfl,y _ ⟨C,al,g,rfl⟩⟩⟩
   rintro _ ⟨C,al,q,rfl⟩;exact⟨d,c,C,al,[],rfl,rfl,q,eS,by simp,λY Q g1 g2 g3=>⟨.inl rfl,rfl,rfl,B _ ⟨Y,al,Q,_,g1,g2,⟨g3,λz=>absurd (by omega) z⟩,.inl rfl,rfl⟩⟩⟩
  ·rw[bD V];refine pT ?_;refine mK (λv=>∃ (C:Cel) (al:List (Str×Str)) (t:nK),GoodRow C al/\(t.map (·.1)).Nodup/\t.length<=60/\v=[.val (.raw (.ref d)),.val (.int o),.val (rT C al),.val (.dK (hO t))]) (λN' y=>?_) ?_
   ·exact⟨d,c,rfl,rfl,λkt hk=>⟨.inl rfl,d,c,kt,rfl,rfl,hk,λC al wt g hw=>⟨.inl rfl,rfl,rfl,y _ ⟨C,al,wt,g,hw.nd,hw.l,rfl⟩⟩⟩⟩
   rintro _ ⟨C,al,t,q,M,tl,rfl⟩;have fin:∀ n:Int,N [.val (.raw (.ref d)),.val (.int o),.val (rT C al),.own (.dK (hO (xJ n t)))]:=λn=>by
    have lt:(xJ n t).length<=60:=by unfold xJ;rw[List.length_map];exact tl
    exact B _ ⟨C,al,_,_,q,by rw[Tq];exact M,⟨by omega,λ_=>lt⟩,.inr rfl,rfl⟩
   refine⟨⟨by decide,by decide,by decide⟩,d,c,27,rfl,rfl,by decide,by decide,λI h1=>⟨.inl rfl,⟨by omega,by omega,by decide⟩,by show 5<=1000;decide,d,c,5,rfl,rfl,by decide,by decide,λr h=>⟨.inl rfl,?_⟩⟩⟩;have big:(2:Int) ^ I<2 ^ 64/\(0:Int)<2 ^ I:=by
    refine⟨?_,Int.pow_pos (by decide)⟩;have:=Nat.pow_lt_pow_right (a:=2) (by decide) (show I<64 by omega)
    exact_mod_cast this
   have L:r=0\/r=1\/r=2\/r=3\/r=4:=by omega
   rcases L with rfl | rfl | rfl | rfl | rfl
   ·exact⟨_,rfl,t,_,rfl,by decide,by decide,M,by omega,.inl rfl,fin _⟩
   ·exact⟨_,rfl,t,_,rfl,by decide,by decide,M,by omega,.inl rfl,fin _⟩
   ·exact⟨_,rfl,t,_,rfl,by decide,by decide,M,by omega,.inl rfl,fin _⟩
   ·exact⟨_,rfl,t,_,rfl,by decide,by decide,M,by omega,.inl rfl,fin _⟩
   ·refine⟨_,rfl,t,_,rfl,?_,?_,M,by omega,.inl rfl,fin _⟩
    ·show -(2 ^ 64)<(1:Int)*2 ^ ((I:Int)).toNat;rw[Int.one_mul,cC];omega
    ·show (1:Int)*2 ^ ((I:Int)).toNat<2 ^ 64;rw[Int.one_mul,cC];exact big.1
 rintro _ ⟨C,al,t,u,q,j,p,O,rfl⟩;refine mK (λv=>∃ (C:Cel) (al:List (Str×Str)) (t:nK) (u:Sl),GoodRow C al/\(t.map (·.1)).Nodup/\t.length<=100/\(u = .val (.dK (hO t))\/u = .own (.dK (hO t)))/\v=[.val (.raw (.ref d)),.val (.int o),.val (rT C al),u]) (λN B=>?_) ?_
 ·refine⟨rfl,?_⟩;show if (decide ((0:Int)<(o:Int)))=true then _ else _
  by_cases V:(0:Int)<(o:Int)
  ·rw[bE V];refine (aP rfl).mpr ⟨rfl,?_⟩;show if (decide ((o:Int)<3))=true then _ else _
   by_cases U:(o:Int)<3
   ·rw[bE U];refine (aP rfl).mpr ?_;have W:=p.2 (by omega);rcases O with rfl | rfl
    ·exact⟨d,c,C,al,t,rfl,rfl,q,j,W,λY Q g1 g2 g3=>⟨.inl rfl,rfl,rfl,B _ ⟨Y,al,Q,_,g1,g2,g3,.inl rfl,rfl⟩⟩⟩
    ·exact⟨d,c,C,al,t,rfl,rfl,q,j,W,λY Q g1 g2 g3=>⟨.inl rfl,rfl,rfl,B _ ⟨Y,al,Q,_,g1,g2,g3,.inl rfl,rfl⟩⟩⟩
   ·rw[bD U];exact pT (B _ ⟨C,al,t,u,q,j,p.1,O,rfl⟩)
  ·rw[bD V];exact pT (B _ ⟨C,al,t,u,q,j,p.1,O,rfl⟩)
 clear O p j q;rintro _ ⟨C,al,t,u,q,j,p,O,rfl⟩;refine⟨d,c,C,al,rfl,rfl,q.n2,q.la,λes p1 p2=>⟨.inl rfl,?_⟩⟩;rcases O with rfl | rfl
 ·exact⟨by show 2<=1000;decide,by show 2<=1000;decide,S C al t es q j p p1 p2⟩
 ·exact⟨by show 2<=1000;decide,by show 2<=1000;decide,S C al t es q j p p1 p2⟩
end
def G7 (K:mC):Sp:=λvs H Q _=>∃ (a:Addr) (ns:List Int),vs=[.ref a]/\mG K H a (ns.map V.int)/\ns.length<=63/\∀ H',Q (.bl true) H'
theorem GoodRow.rw (h:GoodRow C al):RwOk C al:=⟨⟨h.good.nd,h.good.gt,h.good.os,h.good.ond,by have:=h.good.li;omega,by have:=h.good.lg;omega,by have:=h.good.lo;omega⟩,h.n1,h.n2,h.mem,h.good.li,by have:=h.la;omega⟩
theorem NU:∀ (prs:List (Str×Str)) (ef:Str->Option Int),(∀ p∈prs,ef p.2=none\/ef p.2=some 0\/ef p.2=some 1)->pU prs ef≠[]
 | prs,ef,h=>by
  have go:∀ prs:List (Str×Str),(∀ p∈prs,ef p.2=none\/ef p.2=some 0\/ef p.2=some 1)->∃ b,b∈mI prs.length/\uN b (rS prs ef)=true:=by
   intro prs;induction prs with
   | nil=>exact λ_=>⟨[],by simp[mI],rfl⟩
   | cons p r d =>
    intro h;obtain⟨b,a,c⟩:=d λq f=>h q (aT _ f)
    have s:∀ i:Int,(i=0\/i=1)->sY i (ef p.2)=true->∃ b,b∈mI (p::r).length/\uN b (rS (p::r) ef)=true:=λi g e=>by
     refine⟨i::b,?_,?_⟩
     ·show i::b∈(mI r.length).map (λx=>(0:Int)::x)++(mI r.length).map (λx=>(1:Int)::x);rcases g with rfl | rfl
      ·exact bC _ (aV.mpr ⟨b,a,rfl⟩)
      ·exact aN _ (aV.mpr ⟨b,a,rfl⟩)
     ·show (sY i (ef p.2)&&uN b (rS r ef))=true;rw[e,c];rfl
    rcases h p aK with e | e | e
    ·exact s 0 (.inl rfl) (by rw[e];rfl)
    ·exact s 0 (.inl rfl) (by rw[e];rfl)
    ·exact s 1 (.inr rfl) (by rw[e];rfl)
  obtain⟨b,a,c⟩:=go prs h;intro z;have:b∈pU prs ef:=cT.mpr ⟨a,c⟩;rw[z] at this;exact absurd this (by simp)
theorem Vl:∀ {es:List (Str×Option Int)}{x:Str},x∈es.map (·.1)->∃ p∈es,uH es x=p.2
 | [],_,h=>absurd h (by simp)
 | q::es,x,h=>by
  unfold uH;rw[cY];by_cases e:q.1=x
  ·rw[bE e];exact⟨q,aK,rfl⟩
  ·rw[bD e];obtain⟨p,a,b⟩:=Vl (es:=es) (x:=x) (by
    rw[aO] at h;exact (aL.mp h).resolve_left λz=>e z.symm)
   exact⟨p,aT _ a,b⟩
theorem HR (K:mC) (v:Value):PySem.W.kitOne K v v=some true:=by unfold PySem.W.kitOne;rw[if_pos (by simp)]
section
variable {P:Program}{K:mC}
theorem xG:FnScope ["script","deck","row","claim","steps","starts","kept","some","found"] ["script"] (nF Vp):=oW
theorem QT (F:Fun K "law" "law" Vp f fd) (T:Txt mg) (Kf:Gd K mg "_law_deck" Go ["script"] fD fdD)
  (Ke:Gd K mg "_law_claimed" Em ["deck"] fC fdC) (Jj:Gd K mg "_law_steps" Fe ["row","weights"] fS fdS) (Nb:Gd K mg "_law_let" Er ["row","edges"] fL fdL) (Kz:Gd K mg "_law_papers" Ia ["deck","steps","starts"] fP fdP) (K4:Gd K mg "row_shown" Fo ["row","claim","paper"] fR fdR) (M8:Gd K mg "_law_lets_by" E3 ["steps","starts","paper"] fB fdB)
  (JY:FnOk P w K mg base mJ 1 fD fdD ["script"] (Sh K)) (W1:FnOk P w K mg base mJ 5 fC fdC ["deck"] (mQ K Ux)) (BW:FnOk P w K mg base mJ 3 fS fdS ["row","weights"] (mQ K Gs)) (NW:FnOk P w K mg base mJ 2 fL fdL ["row","edges"] (mQ K Es)) (MD:FnOk P w K mg base mJ 2 fP fdP ["deck","steps","starts"] (mQ K Py)) (IU:FnOk P w K mg base mJ 6 fR fdR ["row","claim","paper"] (mQ K Vj)) (QO:FnOk P w K mg base mJ 2 fB fdB ["steps","starts","paper"] (mQ K Tu)) :
  FnOk P w K mg base mJ 7 f fd ["script"] (G7 K):=by
 refine F.ok xG (λvs H Q E h=>?_) (λag A Y s H vs Q E u h=>?_)
 ·obtain⟨a,ns,rfl,_⟩:=h;rfl
 ·obtain⟨a,ns,rfl,hS,L,hQ⟩:=h;have S:=oX u;have Z:Room 1 _:=u.mono (by decide);refine T6 _ (qE (i:=1) xG.nd rfl (Or.inl rfl) (tR JY Z rfl Kf.m Kf.k Kf.b .nil sW (nC (pv 0) nJ))) ?_;refine⟨_,rfl,a,ns,rfl,hS,L,λd c H1 D1 _ _ _=>?_⟩;refine⟨_,(mF (Ap (m:=99) (mV W1 (u.mono (by decide)) (by rfl) Ke.m Ke.k Ke.b (aD (eA 1 (pv 1)) gV)) (Bj (n:=2) rfl (nP (mM (i:=2) xG.nd rfl (Or.inl rfl)) (nP (mM (i:=3) xG.nd rfl (Or.inl rfl)) qS)))) (mF (mY (i:=4) xG.nd rfl (Or.inl rfl) (mV BW (u.mono (by decide)) (by rfl) Jj.m Jj.k Jj.b (aD (eA 2 (pv 2)) (aD (mP S (pv 3) kD) gV)))) (mF (mY (i:=5) xG.nd rfl (Or.inl rfl) (mV NW (u.mono (by decide)) (by rfl) Nb.m Nb.k Nb.b (aD (eA 2 (pv 2)) (aD (mP S (pv 3) kD) gV)))) (mF (mY (i:=6) xG.nd rfl (Or.inl rfl) (oS (aD (pC (zC rfl) yV (by rfl) T.dict cZ (aD (mP S (pv 3) kD) gV)) (aD (pC (zC rfl) yV (by rfl) T.dict cZ (aD (mP S (pv 3) kD) gV)) gV)))) (mF (qU (m:=99) bM rfl (nS (mV MD (u.mono (by decide)) (by rfl) Kz.m Kz.k Kz.b (aD (eA 1 (pv 1)) (aD (eA 4 (pv 4)) (aD (eA 5 (pv 5)) gV))))) (mM (i:=7) xG.nd rfl (Or.inl rfl)) (mF (mY (i:=8) xG.nd rfl (Or.inl rfl) (mV IU (u.mono (by decide)) (by rfl) K4.m K4.k K4.b (aD (eA 2 (pv 2)) (aD (eA 3 (pv 3)) (aD (pC tN tO (by rfl) T.tuple bU (aD (eA 7 (pv 7)) gV)) gV))))) (mW (qT (Gj (Kj (K2 (Eg (oF (Zt _) Xe (by rfl) T.isinstance PyProof.Rows.boot_isinstance (aD (eA 8 (pv 8)) (aD (Xk (by rfl) T.bool PyProof.Rows.boot_bool) gV))))) (Kj (qZ (Av u.units) (qD true) (pv 8) (mV QO (u.mono (by decide)) (by rfl) M8.m M8.k M8.b (aD (eA 4 (pv 4)) (aD (eA 5 (pv 5)) (aD (eA 7 (pv 7)) gV))))) (We (qZ (BI u.units) HY (pv 3) (eA 6 (pv 6))))))) (mW (nQ vI)) rB)))) (mW (nQ vI))))))),⟨[d,c],λ_=>False,H1⟩,[.no,.val (.raw (.ref d)),.no,.no,.no,.no,.no,.no,.no],[],{ nx:=λ_=>False,rt:=λr=>r = .val (.bl true) },rfl,?_,?_,?_,?_⟩
  ·refine⟨λb o e _=>e,.inr ⟨d,c,rfl,D1⟩,eS,λb O=>absurd O bH,λp z=>?_⟩;have z:p∈[((Sl.no:Sl),some (V.ref a)),(.val (.raw (.ref d)),some (V.ref d)),(.no,none),(.no,none),(.no,none),(.no,none),(.no,none),(.no,none),(.no,none)]:=z;simp only[aL,bH,fY] at z;rcases z with rfl | rfl | rfl | rfl | rfl | rfl | rfl | rfl | rfl<;>first | trivial | exact⟨_,rfl,.raw _⟩
  ·refine mK (λj=>∃ (C:Cel) (al:List (Str×Str)) (t:nK) (g:List (Str×Option Int)),GoodRow C al/\(t.map (·.1)).Nodup/\(g.map (·.1)).Perm (al.map (·.2))/\B8 g/\j=[.no,.val (.raw (.ref d)),.val (rT C al),.val (.tup [.dK (qN g),.dK (hO t)]),.no,.no,.no,.no,.no]) (λN y=>?_) ?_
   ·exact⟨d,c,rfl,rfl,λC al t g g1 g2 _ g3 g4=>⟨.inl rfl,rfl,rfl,y _ ⟨C,al,t,g,g1,g2,g3,g4,rfl⟩⟩⟩
   rintro _ ⟨C,al,t,g,hC,ae,z,h3,rfl⟩;have l:=hC.rw;have M:∀ p∈al,p.2∈g.map (·.1):=λp I=>z.mem_iff.mpr (fQ I)
   have B:∀ p∈al,mZ (qN g) (Sum.inr p.2)=some (rA (uH g p.2)):=λp I=>Uy (M p I)
   have ac:pU al (uH g)≠[]:=NU al (uH g) λp I=>by
    obtain⟨q,aa,e⟩:=Vl (M p I);rw[e];exact h3 q aa
   refine mK (λj=>j=[.no,.val (.raw (.ref d)),.val (rT C al),.val (.tup [.dK (qN g),.dK (hO t)]),.own (nM C al t),.no,.no,.no,.no]) (λN y=>?_) ?_
   ·exact⟨rfl,_,rfl,C,al,t,rfl,l,.inl rfl,y _ rfl⟩
   rintro _ rfl;refine mK (λj=>j=[.no,.val (.raw (.ref d)),.val (rT C al),.val (.tup [.dK (qN g),.dK (hO t)]),.own (nM C al t),.own (.lst ((pU al (uH g)).map mE)),.no,.no,.no]) (λN y=>?_) ?_
   ·exact⟨rfl,_,rfl,C,al,_,_,rfl,l.lp,B,.inl rfl,y _ rfl⟩
   rintro _ rfl;refine mK (λj=>j=[.no,.val (.raw (.ref d)),.val (rT C al),.val (.tup [.dK (qN g),.dK (hO t)]),.own (nM C al t),.own (.lst ((pU al (uH g)).map mE)),.val (.tup [.dK (qN g),.dK (hO t)]),.no,.no]) (λN y=>?_) ?_
   ·exact⟨rfl,_,rfl,rfl,_,rfl,by show 2<=1000;decide,y _ rfl⟩
   rintro _ rfl;refine mK (λj=>True) (λN y=>?_) (λ_ _=>rfl);refine⟨d,c,C,al,t,pU al (uH g),rfl,rfl,l,hC.la,ac,(Cg _).sublist List.filter_sublist,λb O=>(cT.mp O).1,λps p1 p2=>⟨.inl rfl,?_⟩⟩;refine⟨λi j=>∃ s7 s8,j=[.no,.val (.raw (.ref d)),.val (rT C al),.val (.tup [.dK (qN g),.dK (hO t)]),.val (nM C al t),.val (.lst ((pU al (uH g)).map mE)),.val (.tup [.dK (qN g),.dK (hO t)]),s7,s8],⟨.no,.no,rfl⟩,?_,λ_ _=>y _ trivial⟩;rintro i x j hx ⟨s7,s8,rfl⟩;obtain⟨p,ab,rfl⟩:=qH hx;refine⟨C,al,t,qN g,uH g,p,rfl,l,B,by have:=p1 p (aI ab);omega,λb O=>⟨.inl rfl,?_⟩⟩;refine⟨"bool",true,rfl,HR K _,rfl,_,rfl,zO rfl ⟨rfl,C,al,t,uH g,p,rfl,l,λb2 af=>⟨.inl rfl,?_⟩⟩⟩;have e:b=b2:=iS.mpr (O.trans af.symm);subst e;refine zO (by cases b<;>rfl) ⟨rfl,qN g,hO t,rfl,rfl,OV (z.nodup_iff.mpr hC.n2),AZ ae,?_⟩;exact zO rfl ⟨_,_,rfl⟩
  ·intro W U H' _ _ _;exact⟨False.elim,False.elim,False.elim⟩
  ·rintro r v W U H' _ d1 rfl;obtain rfl:=d1.valAt.bl_inv;exact hQ H'
end
def DF (K:mC) (x:Str) (st:Stmt):Prop:=∃ (f:Addr) (od an:Option Addr) (sl:Array (Option Value)) (oc kV dc pm cd ct:Value),PySem.W.nsIn K mainGlobals x=some (some (.ref f))/\K.lookup f=some ⟨oc,od,.func (PySem.W.fnOf x x (uE st) (tK st) (nF st) .none kV dc pm an cd ct),sl⟩/\PySem.W.codeIn K cd x=true/\PySem.W.keepIn K (.ref f)=true
theorem df_mk {K:mC}{st:Stmt}{sl:Array (Option Value)}{kV cd:Value}(a:PySem.W.nsIn K mainGlobals x=some (some (.ref f))) (l:K.lookup f=some ⟨oc,od,.func (PySem.W.fnOf x x (uE st) (tK st) (nF st) .none kV dc pm an cd ct),sl⟩) (c:PySem.W.codeIn K cd x=true) (k:PySem.W.keepIn K (.ref f)=true):DF K x st:=⟨f,od,an,sl,oc,kV,dc,pm,cd,ct,a,l,c,k⟩
theorem A2 {K:mC}{st:Stmt}(ps:List Str) (X:K.In h) (G:h.Ns mainGlobals mg) (d:DF K x st)
  (hb:∀ (kV doc pm:Value) (an:Option Addr) (cdv ct:Value) (us:List Value),us.length=ps.length->bindArgs (PySem.W.fnOf x x (uE st) (tK st) (nF st) .none kV doc pm an cdv ct) ⟨us,[]⟩=pure (ps.zip us)):∃ f fd,Gd K mg x st ps f fd:=by
 obtain⟨f,b,an,sl,e,kV,g,pm,cd,ct,a,l,c,k⟩:=d;have F:=Qx (st:=st) l c k;exact⟨f,_,F,PySem.W.mg_of X G a,k,F.binds hb⟩
theorem Yo {K:mC}{st:Stmt}(X:K.In h) (G:h.Ns mainGlobals mg) (d:DF K x st) (hb:∀ a b c d e f,bindArgs (PySem.W.fnOf x x (uE st) (tK st) (nF st) .none a b c d e f) ⟨[],[]⟩=pure []:=by intros;rfl):∃ f fd,Gd K mg x st [] f fd :=
 A2 [] X G d λa b c d e f g i=>by cases g with | nil=>exact hb a b c d e f | cons _ _=>cases i
theorem wP {K:mC}{st:Stmt}(p0:Str) (X:K.In h) (G:h.Ns mainGlobals mg) (d:DF K x st) (hb:∀ a b c d e f x0,bindArgs (PySem.W.fnOf x x (uE st) (tK st) (nF st) .none a b c d e f) ⟨[x0],[]⟩=pure [(p0,x0)]:=by intros;rfl):∃ f fd,Gd K mg x st [p0] f fd :=
 A2 [p0] X G d λa b c d e f g i=>by
  cases g with
  | nil=>cases i
  | cons x0 g =>
   cases g with
   | nil=>exact hb a b c d e f x0
   | cons _ _=>cases i
theorem rE {K:mC}{st:Stmt}(p0 p1:Str) (X:K.In h) (G:h.Ns mainGlobals mg) (d:DF K x st) (hb:∀ a b c d e f x0 x1,bindArgs (PySem.W.fnOf x x (uE st) (tK st) (nF st) .none a b c d e f) ⟨[x0,x1],[]⟩=pure [(p0,x0),(p1,x1)]:=by intros;rfl):∃ f fd,Gd K mg x st [p0,p1] f fd :=
 A2 [p0,p1] X G d λa b c d e f g i=>by
  cases g with
  | nil=>cases i
  | cons x0 g =>
   cases g with
   | nil=>cases i
   | cons x1 g =>
    cases g with
    | nil=>exact hb a b c d e f x0 x1
    | cons _ _=>cases i
theorem Bd {K:mC}{st:Stmt}(p0 p1 p2:Str) (X:K.In h) (G:h.Ns mainGlobals mg) (d:DF K x st) (hb:∀ a b c d e f x0 x1 x2,bindArgs (PySem.W.fnOf x x (uE st) (tK st) (nF st) .none a b c d e f) ⟨[x0,x1,x2],[]⟩=pure [(p0,x0),(p1,x1),(p2,x2)]:=by intros;rfl):∃ f fd,Gd K mg x st [p0,p1,p2] f fd :=
 A2 [p0,p1,p2] X G d λa b c d e f g i=>by
  cases g with
  | nil=>cases i
  | cons x0 g =>
   cases g with
   | nil=>cases i
   | cons x1 g =>
    cases g with
    | nil=>cases i
    | cons x2 g =>
     cases g with
     | nil=>exact hb a b c d e f x0 x1 x2
     | cons _ _=>cases i
theorem FY {K:mC}{st:Stmt}(p0 p1 p2 p3:Str) (X:K.In h) (G:h.Ns mainGlobals mg) (d:DF K x st) (hb:∀ a b c d e f x0 x1 x2 x3,bindArgs (PySem.W.fnOf x x (uE st) (tK st) (nF st) .none a b c d e f) ⟨[x0,x1,x2,x3],[]⟩=pure [(p0,x0),(p1,x1),(p2,x2),(p3,x3)]:=by intros;rfl):∃ f fd,Gd K mg x st [p0,p1,p2,p3] f fd :=
 A2 [p0,p1,p2,p3] X G d λa b c d e f g i=>by
  cases g with
  | nil=>cases i
  | cons x0 g =>
   cases g with
   | nil=>cases i
   | cons x1 g =>
    cases g with
    | nil=>cases i
    | cons x2 g =>
     cases g with
     | nil=>cases i
     | cons x3 g =>
      cases g with
      | nil=>exact hb a b c d e f x0 x1 x2 x3
      | cons _ _=>cases i
theorem JI {K:mC}{st:Stmt}(p0 p1 p2 p3 p4:Str) (X:K.In h) (G:h.Ns mainGlobals mg) (d:DF K x st) (hb:∀ a b c d e f x0 x1 x2 x3 x4,bindArgs (PySem.W.fnOf x x (uE st) (tK st) (nF st) .none a b c d e f) ⟨[x0,x1,x2,x3,x4],[]⟩=pure [(p0,x0),(p1,x1),(p2,x2),(p3,x3),(p4,x4)]:=by intros;rfl):∃ f fd,Gd K mg x st [p0,p1,p2,p3,p4] f fd :=
 A2 [p0,p1,p2,p3,p4] X G d λa b c d e f g i=>by
  cases g with
  | nil=>cases i
  | cons x0 g =>
   cases g with
   | nil=>cases i
   | cons x1 g =>
    cases g with
    | nil=>cases i
    | cons x2 g =>
     cases g with
     | nil=>cases i
     | cons x3 g =>
      cases g with
      | nil=>cases i
      | cons x4 g =>
       cases g with
       | nil=>exact hb a b c d e f x0 x1 x2 x3 x4
       | cons _ _=>cases i
theorem all_mk {l:PySem.W.OpenLaw}{K:mC}(X:K.In h) (G:h.Ns mainGlobals mg) (hfa:mg "law" = some (.ref fa))
  (d1:DF K "check_there" E5)
  (d2:DF K "told_by" Gb)
  (d3:DF K "side_bits" Fc)
  (d4:DF K "gate_bit" Iu)
  (d5:DF K "all_bits" A3)
  (d6:DF K "carried_inputs" Bq)
  (d7:DF K "word_inputs" Cj)
  (d8:DF K "word_outputs" Ft)
  (d9:DF K "let_edges" F0)
  (d10:DF K "are_let" Ho)
  (d11:DF K "step_table" Ie)
  (d12:DF K "steps_from" Fj)
  (d13:DF K "cell_part" G9)
  (d14:DF K "row_shown" Fo)
  (d15:DF K "stays_held" En)
  (d16:DF K "_law_deck" Go)
  (d17:DF K "_law_take" wW)
  (d18:DF K "_law_kept" Ce)
  (d19:DF K "_law_made_names" Hu)
  (d20:DF K "_law_names" B9)
  (d21:DF K "_law_gate" Gf)
  (d22:DF K "_law_row" G6)
  (d23:DF K "_law_gate_bit" Hy)
  (d24:DF K "_law_all_bits" Ii)
  (d25:DF K "_law_words_of" Bw)
  (d26:DF K "_law_kit" F6)
  (d27:DF K "_law_shuffled" Ch)
  (d28:DF K "_law_words" F2)
  (d29:DF K "_law_made" Fx)
  (d30:DF K "_law_times" E1)
  (d31:DF K "_law_edges" Gy)
  (d32:DF K "_law_spoilt" Fa)
  (d33:DF K "_law_claimed" Em)
  (d34:DF K "_law_rows" Cb)
  (d35:DF K "_law_own_sum" Fd)
  (d36:DF K "_law_steps" Fe)
  (d37:DF K "_law_let" Er)
  (d38:DF K "_law_reached" Fi)
  (d39:DF K "_law_breaks" F9)
  (d40:DF K "_law_lets_by" E3)
  (d41:DF K "_law_papers" Ia)
  (d42:DF K "law" Cs)
  (z1:PySem.W.nsIn K mainGlobals "len" = some none)
  (z2:PySem.W.nsIn K mainGlobals "range" = some none)
  (z3:PySem.W.nsIn K mainGlobals "sum" = some none)
  (z4:PySem.W.nsIn K mainGlobals "min" = some none)
  (z5:PySem.W.nsIn K mainGlobals "max" = some none)
  (z6:PySem.W.nsIn K mainGlobals "tuple" = some none)
  (z7:PySem.W.nsIn K mainGlobals "list" = some none)
  (z8:PySem.W.nsIn K mainGlobals "set" = some none)
  (z9:PySem.W.nsIn K mainGlobals "dict" = some none)
  (z10:PySem.W.nsIn K mainGlobals "int" = some none)
  (z11:PySem.W.nsIn K mainGlobals "str" = some none)
  (z12:PySem.W.nsIn K mainGlobals "zip" = some none)
  (z13:PySem.W.nsIn K mainGlobals "enumerate" = some none)
  (z14:PySem.W.nsIn K mainGlobals "all" = some none)
  (z15:PySem.W.nsIn K mainGlobals "any" = some none)
  (z16:PySem.W.nsIn K mainGlobals "isinstance" = some none)
  (z17:PySem.W.nsIn K mainGlobals "sorted" = some none)
  (z18:PySem.W.nsIn K mainGlobals "abs" = some none)
  (z19:PySem.W.nsIn K mainGlobals "reversed" = some none)
  (z20:PySem.W.nsIn K mainGlobals "bool" = some none)
  : ∃ fd:FuncData,(∀ (s:Shared) (v:Value),BindsTo s fd ⟨[v],[]⟩ [("script",v)])/\∀ base:Heap,K.In base->base.Ns mainGlobals mg->FnOk l.prog w K mg base mJ 7 fa fd ["script"] (G7 K):=by
 obtain⟨f1,e1,z⟩:=rE "names" "given" X G d1;obtain⟨f2,e2,af⟩:=rE "cell" "bits" X G d2;obtain⟨f3,e3,M⟩:=rE "cell" "bits" X G d3;obtain⟨f4,e4,ae⟩:=rE "word" "bits" X G d4;obtain⟨f5,e5,j⟩:=wP "count" X G d5;obtain⟨f6,e6,d⟩:=wP "row" X G d6;obtain⟨f7,e7,i⟩:=wP "row" X G d7;obtain⟨f8,e8,o⟩:=wP "row" X G d8;obtain⟨f9,e9,O⟩:=rE "row" "edges" X G d9;obtain⟨cn,dp,aj⟩:=rE "bits" "asked" X G d10;obtain⟨cm,dn,C⟩:=rE "row" "weights" X G d11;obtain⟨cl,dm,B⟩:=Bd "row" "weights" "carried" X G d12;obtain⟨ck,dk,Z⟩:=Bd "row" "weights" "known" X G d13;obtain⟨cj,dj,N⟩:=Bd "row" "claim" "paper" X G d14;obtain⟨ch,di,E⟩:=rE "steps" "held" X G d15;obtain⟨cg,dh,ac⟩:=wP "script" X G d16;obtain⟨cf,dg,b⟩:=rE "deck" "many" X G d17;obtain⟨cc,df,ak⟩:=Yo X G d18;obtain⟨cb,de,V⟩:=rE "deck" "many" X G d19;obtain⟨ca,dd,m⟩:=rE "deck" "many" X G d20;obtain⟨b9,db,ab⟩:=rE "deck" "known" X G d21;obtain⟨b8,da,ag⟩:=FY "deck" "inputs" "gates" "most" X G d22;obtain⟨b7,c9,p⟩:=rE "word" "bits" X G d23;obtain⟨b6,c8,q⟩:=rE "cell" "bits" X G d24;obtain⟨b5,c7,e⟩:=wP "row" X G d25;obtain⟨b4,c6,ai⟩:=wP "deck" X G d26;obtain⟨b3,c5,g⟩:=rE "deck" "some" X G d27;obtain⟨b2,c4,Q⟩:=wP "text" X G d28;obtain⟨b1,c3,aa⟩:=rE "deck" "kit" X G d29;obtain⟨b0,c2,S⟩:=rE "weights" "count" X G d30;obtain⟨bz,c1,Y⟩:=rE "deck" "row" X G d31;obtain⟨bx,c0,H⟩:=Bd "deck" "row" "weights" X G d32;obtain⟨bw,cz,y⟩:=wP "deck" X G d33;obtain⟨bv,cy,r⟩:=wP "many" X G d34;obtain⟨bu,cx,u⟩:=JI "row" "weights" "known" "carried" "letter" X G d35;obtain⟨bt,cw,U⟩:=rE "row" "weights" X G d36;obtain⟨bs,cv,ah⟩:=rE "row" "edges" X G d37;obtain⟨br,cu,t⟩:=rE "steps" "starts" X G d38;obtain⟨bq,cs,L⟩:=rE "steps" "state" X G d39;obtain⟨bp,cq,x⟩:=Bd "steps" "starts" "paper" X G d40;obtain⟨bo,cp,I⟩:=Bd "deck" "steps" "starts" X G d41;obtain⟨f,od,an,sl,oc,kV,dc,pm,cd,ct,a,lk,c,k⟩:=d42;cases hfa.symm.trans (PySem.W.mg_of X G a);have FL:=Qx (st:=Cs) lk c k;refine⟨PySem.W.fnOf "law" "law" (uE Cs) (tK Cs) (nF Cs) .none kV dc pm an cd ct,λs v=>.of_eq rfl,λbase _ _=>?_⟩;have T:Txt mg:=⟨bZ X G z1,bZ X G z2,bZ X G z3,bZ X G z4,bZ X G z5,bZ X G z6,bZ X G z7,bZ X G z8,bZ X G z9,bZ X G z10,bZ X G z11,bZ X G z12,bZ X G z13,bZ X G z14,bZ X G z15,bZ X G z16,bZ X G z17,bZ X G z18,bZ X G z19,bZ X G z20⟩;have GT:=Gu (P:=l.prog) (w:=w) (base:=base) b.F T;have GN:=IT (P:=l.prog) (w:=w) (base:=base) m.F T b ak V;have GG:=LZ (P:=l.prog) (w:=w) (base:=base) ab.F T b;have BT:=NI GT;have BN:=KR GN;have BG:=HF GG;have az:=QY (P:=l.prog) (w:=w) (base:=base) ag.F T b m ab BT BN BG;have OS:=Zs (P:=l.prog) (w:=w) (base:=base) g.F T b BT;have OW:=NE (P:=l.prog) (w:=w) (base:=base) Q.F T;have bh:=JH (P:=l.prog) (w:=w) (base:=base) ai.F T b BT;have OM:=DI (P:=l.prog) (w:=w) (base:=base) aa.F T b m g Q BT BN OS OW;have ar:=CZ (P:=l.prog) (w:=w) (base:=base) (mg:=mg) z.F;have bi:=GJ (P:=l.prog) (w:=w) (base:=base) ae.F T;have au:=FG (P:=l.prog) (w:=w) (base:=base) af.F T z ae ar bi;have av:=Ym (P:=l.prog) (w:=w) (base:=base) (mg:=mg) d.F;have ax:=GQ (P:=l.prog) (w:=w) (base:=base) i.F d av;have a4:=Zu (P:=l.prog) (w:=w) (base:=base) (mg:=mg) o.F;have a1:=LK (P:=l.prog) (w:=w) (base:=base) p.F T;have a3:=NR (P:=l.prog) (w:=w) (base:=base) q.F T p a1;have aq:=AO (P:=l.prog) (w:=w) (base:=base) (mg:=mg) e.F;have aw:=GU (P:=l.prog) (w:=w) (base:=base) j.F T;have a0:=Y5 (P:=l.prog) (w:=w) (base:=base) r.F T;have a9:=Yh (P:=l.prog) (w:=w) (base:=base) M.F T af au;have bk:=EM (P:=l.prog) (w:=w) (base:=base) Z.F T i o ax a4;have a8:=Xt (P:=l.prog) (w:=w) (base:=base) B.F T j i d M Z aw ax av a9 bk;have a5:=Zg (P:=l.prog) (w:=w) (base:=base) C.F T j B aw a8;have bn:=HI (P:=l.prog) (w:=w) (base:=base) aj.F T;have bf:=PJ (P:=l.prog) (w:=w) (base:=base) O.F T d j aj av aw bn;have be:=EQ (P:=l.prog) (w:=w) (base:=base) ah.F T r a0;have ba:=Xx (P:=l.prog) (w:=w) (base:=base) u.F T e aq;have bc:=EH (P:=l.prog) (w:=w) (base:=base) U.F T e aq r a0 q a3 u ba;have a7:=AM (P:=l.prog) (w:=w) (base:=base) E.F T;have ay:=IV (P:=l.prog) (w:=w) (base:=base) N.F T C a5 O bf E a7;have bg:=BD (P:=l.prog) (w:=w) (base:=base) L.F T;have a2:=MW (P:=l.prog) (w:=w) (base:=base) x.F T L bg;have ao:=OJ (P:=l.prog) (w:=w) (base:=base) t.F T;have bd:=FA (P:=l.prog) (w:=w) (base:=base) I.F T b BT t ao;have bb:=EG (P:=l.prog) (w:=w) (base:=base) S.F T;have bj:=CN (P:=l.prog) (w:=w) (base:=base) Y.F T b BT g OS;have a6:=IM (P:=l.prog) (w:=w) (base:=base) H.F T b BT e aq;have bm:=BE (P:=l.prog) (w:=w) (base:=base) y.F T b BT ag az H a6 aa OM ai bh S bb Y bj;exact QT FL T ac y U ah I N x (Ys ac.F T) bm bc be bd ay a2
theorem walk {l:PySem.W.OpenLaw}{q:Program}{loose:List Str}{XP:(Str->Option Value)->Heap->Prop}{YP:World->Heap->Prop}{d:DefRec}{K:Params->mC}(hn:l.most=some 63) (hdf:d.params.defaults=[])
  (hY:∀ (w:World) (h:Heap),YP w h->(K w.params).In h)
  (F:∀ (w:World) (mg:Str->Option Value) (fa:Addr) (h:Heap),(K w.params).In h->h.Ns mainGlobals mg->mg d.name=some (.ref fa) ->∃ fd:FuncData,(∀ (s:Shared) (u:Value),BindsTo s fd ⟨[u],[]⟩ [("script",u)])/\∀ base:Heap,(K w.params).In base->base.Ns mainGlobals mg->FnOk l.prog w (K w.params) mg base mJ 7 fa fd ["script"] (G7 (K w.params))) :
  PySem.W.WalkO q loose XP YP l.row.toRowW d [] (λf vs=>PySem.call f vs) :=
 L2.walk_of (n:=63) (k:=7) (x := "script") (CX:=λ_=>mJ) (sp:=λw=>G7 (K w.params)) hn (by decide) hdf ⟨rfl,by decide,by decide⟩ hY F (λ_ _ a b c _ e=>⟨a,b,rfl,e,c,λ_=>rfl⟩) λ_ _ _ _ _ z=>z
end Lw
namespace PySem.W.Fast
theorem tw17774829324656432943:True:=⟨⟩
theorem tw16292223030735493992:True:=⟨⟩
theorem tw1512749014959920576:True:=⟨⟩
theorem tw12242589492142314568:True:=⟨⟩
theorem tw13313399555949998969:True:=⟨⟩
theorem tw15233148388579553675:True:=⟨⟩
theorem tw2793805834857046458:True:=⟨⟩
theorem tw15897665697958527715:True:=⟨⟩
theorem tw16503970997226288731:True:=⟨⟩
theorem tw3833642885582365977:True:=⟨⟩
theorem tw17045280686879036551:True:=⟨⟩
theorem tw5988172970934430525:True:=⟨⟩
theorem tw473196284001745902:True:=⟨⟩
theorem tw7522688799462516639:True:=⟨⟩
theorem tw5085704532338954891:True:=⟨⟩
theorem tw17276979006302027828:True:=⟨⟩
theorem tw11251256706618722536:True:=⟨⟩
theorem tw17948256008446991524:True:=⟨⟩
theorem tw1738532387126647216:True:=⟨⟩
theorem tw17799500158410020825:True:=⟨⟩
theorem tw8011350997336786844:True:=⟨⟩
theorem tw7588524824283002392:True:=⟨⟩
theorem tw11869956483567818892:True:=⟨⟩
theorem tw12141928725918980131:True:=⟨⟩
theorem tw1795788838409492842:True:=⟨⟩
theorem tw7801835875654734719:True:=⟨⟩
theorem tw12556406287711469777:True:=⟨⟩
theorem tw10987624323330839226:True:=⟨⟩
theorem tw15727606490380294033:True:=⟨⟩
theorem tw13189559201239552499:True:=⟨⟩
theorem tw3838982116265913372:True:=⟨⟩
theorem tw13569471873782625175:True:=⟨⟩
theorem tw3147263741898147572:True:=⟨⟩
theorem tw9589946514731925909:True:=⟨⟩
theorem tw18007638707156142828:True:=⟨⟩
theorem tw12951613633907271598:True:=⟨⟩
theorem tw7357500961219469689:True:=⟨⟩
theorem tw18015789180693470130:True:=⟨⟩
theorem tw1514312719278963048:True:=⟨⟩
theorem tw6304226673996337636:True:=⟨⟩
theorem tw8060924587622371282:True:=⟨⟩
theorem tw4701191682541081985:True:=⟨⟩
theorem tw10657935488962109731:True:=⟨⟩
theorem tw4399201935683181946:True:=⟨⟩
theorem tw13008144876684480385:True:=⟨⟩
theorem tw2533815369009593235:True:=⟨⟩
theorem tw330388385381093500:True:=⟨⟩
theorem tw3491235442938840619:True:=⟨⟩
theorem tw7056937707956467014:True:=⟨⟩
theorem tw14268077637838169181:True:=⟨⟩
theorem tw9886123698221678108:True:=⟨⟩
theorem tw15063409677631291514:True:=⟨⟩
theorem tw3061127202921801157:True:=⟨⟩
theorem tw12507321958256595502:True:=⟨⟩
theorem tw2326079501599961186:True:=⟨⟩
theorem tw8132389704332200398:True:=⟨⟩
theorem tw3511448855987388345:True:=⟨⟩
theorem tw987690460807045689:True:=⟨⟩
theorem tw12926253587185619414:True:=⟨⟩
theorem tw12454655484743505296:True:=⟨⟩
theorem tw15170857244883372162:True:=⟨⟩
theorem tw3753407856958611901:True:=⟨⟩
theorem tw56464754205861628:True:=⟨⟩
theorem tw3186801159949628523:True:=⟨⟩
theorem tw7018642350060742849:True:=⟨⟩
theorem tw10526114199851341338:True:=⟨⟩
theorem tw7699611168704356250:True:=⟨⟩
theorem tw9426679426279509390:True:=⟨⟩
theorem tw7665549713706310967:True:=⟨⟩
theorem tw17490413370171887411:True:=⟨⟩
theorem tw13509908561312124334:True:=⟨⟩
theorem tw7085130153414388792:True:=⟨⟩
theorem tw2602055681161102446:True:=⟨⟩
theorem tw13572601020653578282:True:=⟨⟩
theorem tw7021530766016853824:True:=⟨⟩
theorem tw17799952972599781477:True:=⟨⟩
theorem tw17273990692705526591:True:=⟨⟩
theorem tw12355195375387614959:True:=⟨⟩
theorem tw15516568820239621017:True:=⟨⟩
theorem tw7586179985790384922:True:=⟨⟩
theorem tw3690306851740786048:True:=⟨⟩
theorem tw10604770754293121905:True:=⟨⟩
theorem tw9573413923259548896:True:=⟨⟩
theorem tw12101658120216983621:True:=⟨⟩
theorem tw15825726149439676475:True:=⟨⟩
theorem tw12529463710521209780:True:=⟨⟩
theorem tw3574942555909042209:True:=⟨⟩
theorem tw2663510146315082670:True:=⟨⟩
theorem tw10879988562112088398:True:=⟨⟩
theorem tw13070437334843767794:True:=⟨⟩
theorem tw15125808561357229955:True:=⟨⟩
theorem tw10026400778024191951:True:=⟨⟩
theorem tw710661387122211999:True:=⟨⟩
theorem tw18239387600321116160:True:=⟨⟩
theorem tw4986710559467706810:True:=⟨⟩
theorem tw18111633531788303933:True:=⟨⟩
theorem tw7077851938781004179:True:=⟨⟩
theorem tw11381308702762151212:True:=⟨⟩
theorem tw10290067123939668313:True:=⟨⟩
theorem tw13028167692137784364:True:=⟨⟩
theorem tw3602879977871959727:True:=⟨⟩
theorem tw1577559085624179798:True:=⟨⟩
theorem tw15292857818330067917:True:=⟨⟩
theorem tw15054110699558658170:True:=⟨⟩
theorem tw1098085120802961312:True:=⟨⟩
theorem tw8317797498457690721:True:=⟨⟩
theorem tw17636726182091033290:True:=⟨⟩
theorem tw11129363219214713337:True:=⟨⟩
theorem tw2231889777227546540:True:=⟨⟩
theorem tw4317485481762606532:True:=⟨⟩
end PySem.W.Fast
open PySem PySem.W PyProof.Rows
set_option maxRecDepth 100000 in
set_option maxHeartbeats 0 in
theorem PySem.Challenge.cw_laidcells_k14_row_papers_looked_at_holds : PySem.Challenge.rw_laidcells_k14_row_papers_looked_at.Holds := by
 w_on;o_law;k_head;(case hw=>w_witness2)
 k_fill
 refine Lw.walk (l:=PySem.Challenge.rw_laidcells_k14_row_papers_looked_at) rfl rfl (fun w h Y=>PySem.W.kIn_of Y) ?F
 case F =>
  intro w mg fa h KX G hmg;refine' Lw.all_mk KX G hmg ?_ ?_ ?_ ?_ ?_ ?_ ?_ ?_ ?_ ?_ ?_ ?_ ?_ ?_ ?_ ?_ ?_ ?_ ?_ ?_ ?_ ?_ ?_ ?_ ?_ ?_ ?_ ?_ ?_ ?_ ?_ ?_ ?_ ?_ ?_ ?_ ?_ ?_ ?_ ?_ ?_ ?_ ?_ ?_ ?_ ?_ ?_ ?_ ?_ ?_ ?_ ?_ ?_ ?_ ?_ ?_ ?_ ?_ ?_ ?_ ?_ ?_
  all_goals try refine' Lw.df_mk ?_ ?_ ?_ ?_
  all_goals try first | k_is | (dsimp only;k_is)
