import PyProof.Rows.All
import Wide.All
import OpenK.AllK
import Wide.FinOn
import Lean
import PyProof.EqAt
import PyProof.EqKinds
import PyProof.TupleCall
import PyProof.StationsW
import PyProof.Commute
import PyProof.ExcClass3
import PyProof.ExcInit
import OpenK.KCls
import OpenK.KMake
import PyProof.ExcArgsOwn
import PyProof.InstStoreFacts
import PyProof.MaxThree
import KE.KMinKey
import KE.KIntText
import PyProof.DictUpdate
import PyProof.Draws
import PyProof.EnumMake
import PyProof.DictIter
import PySem.Challenge.RW_laidcells_k29_ways_told
set_option Elab.async false
set_option linter.all false
set_option compiler.extract_closed false
set_option maxRecDepth 100000
set_option maxHeartbeats 20000000
noncomputable section
abbrev Aa:=@List
abbrev Ab:=@Option
abbrev Ac:=@PySem.Value
abbrev Ad:=@PySem.Addr
abbrev Ae:=@PySem.Shared
abbrev Af:=@PySem.Str
abbrev Ag:=@PySem.Heap
abbrev Ah:=@PySem.Program
abbrev lJ:=PySem.W.Frag
abbrev aA:=@PySem.wpAny_bind
abbrev aB:=@List.length_map
abbrev aD:=@PySem.Heap.get?_push_of_some
abbrev aE:=@PySem.wpAny_pure
abbrev aF:=@List.mem_cons
abbrev aG:=@List.mem_map
abbrev aH:=@List.mem_cons_self
abbrev aI:=@List.mem_append_right
abbrev aJ:=@List.getElem?_eq_getElem
abbrev aK:=@PySem.Heap.lt_size
abbrev aL:=@Nat.le_refl
abbrev aM:=@List.size_toArray
abbrev aN:=@List.mem_cons_of_mem
abbrev aO:=@PySem.F.plainAttrs_list
abbrev aP:=@List.getElem?_eq_some_iff
abbrev aQ:=@PySem.Heap.get?_push_size
abbrev aR:=@Nat.lt_of_lt_of_le
abbrev aT:=@List.mem_of_getElem?
abbrev aU:=@List.mem_singleton
abbrev aV:=@List.getElem?_map
abbrev aW:=@List.mem_append_left
abbrev aX:=@List.mem_append
abbrev aY:=@List.map_append
abbrev aZ:=@List.map_cons
abbrev bA:=@if_pos
abbrev bB:=@PySem.F.slot_list_append
abbrev bC:=@PySem.F.type_list_append
abbrev bD:=@Bool.false_ne_true
abbrev bE:=@Nat.ne_of_lt
abbrev bF:=@if_neg
abbrev bG:=@PySem.boot_len
abbrev bH:=@List.not_mem_nil
abbrev bI:=@List.map_map
abbrev bJ:=@List.take_of_length_le
abbrev bK:=@List.nodup_append
abbrev bL:=@List.length_append
abbrev bM:=@PySem.W.mg_none_of
abbrev bN:=@List.length_range
abbrev bO:=@List.length_set
abbrev bP:=@List.append_assoc
abbrev bQ:=@PyProof.Rows.boot_tuple
abbrev bR:=@List.length_take
abbrev bS:=@Bool.and_eq_true
abbrev bT:=@List.length_cons
abbrev bU:=@Int.mul_le_mul_of_nonneg_left
abbrev bV:=@PySem.wpAny_holding
abbrev bW:=@List.mem_range
abbrev bX:=@Nat.le_trans
abbrev bY:=@PyProof.Rows.callWith_type1
abbrev bZ:=@Function.comp_def
abbrev cA:=@Option.some.inj
abbrev cB:=@List.replicate_succ
abbrev cC:=@Option.map_eq_some_iff
abbrev cD:=@PySem.wpAny_callSpecial?_slot
abbrev cE:=@List.all_eq_true
abbrev cF:=@Int.mul_le_mul_of_nonneg_right
abbrev cG:=@decide_eq_false
abbrev cH:=@List.nodup_cons
abbrev cI:=@Classical.byContradiction
abbrev cJ:=@PySem.Around.under_plainId
abbrev cK:=@PySem.Heap.size_push
abbrev cL:=@Option.isSome_iff_exists
abbrev cM:=@Nat.lt_of_le_of_lt
abbrev cN:=@congrArg
abbrev cO:=@Ne.symm
abbrev cP:=@List.lookup_cons
abbrev cQ:=@Int.eq_ofNat_of_zero_le
abbrev cR:=@Int.toNat_natCast
abbrev cS:=@Nat.zero_le
abbrev cT:=@Bool.and_eq_true_iff
abbrev cU:=@List.zip_cons_cons
abbrev cV:=@decide_eq_true
abbrev cW:=@PySem.F.slot_zip_next
abbrev cX:=@List.cons_append
abbrev cY:=@beq_eq_false_iff_ne
abbrev cZ:=@PySem.mem_of_lookup
abbrev dB:=@PySem.wpAny_mono
abbrev dD:=@PySem.wpAny_Call_Name_kw
abbrev dF:=@List.getElem?_append_right
abbrev dH:=@PySem.wpAny_seqItems
abbrev dJ:=@Int.emod_lt_of_pos
abbrev dL:=@PySem.W.kia_one
abbrev dM:=@PySem.codeAny_builtin
abbrev dN:=@List.length_drop
abbrev dO:=@PySem.wpAny_isInstance
abbrev dP:=@PySem.wpAny_field
abbrev dQ:=@List.take_add_one
abbrev dR:=@of_decide_eq_true
abbrev dU:=@List.getElem?_eq_none
abbrev dX:=@Nat.lt_irrefl
abbrev dY:=@List.find?_cons
abbrev dZ:=@PySem.PassesOwn.never
abbrev eA:=@List.getElem?_set_ne
abbrev eC:=@PySem.wpAny_call_entry
abbrev eD:=@List.getElem_mem
abbrev eF:=@or_false
abbrev eI:=@Nat.le_add_right
abbrev eJ:=@Int.le_refl
abbrev eK:=@PySem.wpAny_pyIter_list
abbrev eL:=@decide_eq_true_eq
abbrev eO:=@List.getElem?_range
abbrev eP:=@List.append_nil
abbrev eQ:=@Int.emod_nonneg
abbrev eR:=@List.range_succ
abbrev eS:=@Array.getElem?_eq_getElem
abbrev eT:=@List.length_replicate
abbrev eU:=@Array.getElem?_toList
abbrev eV:=@if_true
abbrev eW:=@PySem.wpAny_typeOf
abbrev eX:=@List.any_cons
abbrev eY:=@PySem.wpAny_attempt
abbrev eZ:=@if_false
abbrev fA:=@PySem.wpAny_newObj_type
abbrev fB:=@List.flatten_cons
abbrev fC:=@List.length_zip
abbrev fE:=@PyProof.Rows.boot_isinstance
abbrev fF:=@List.getElem_of_mem
abbrev fG:=@PyProof.Rows.F.plain_set_update_loop
abbrev fH:=@Array.getElem?_eq_none
abbrev fJ:=@Int.mul_add
abbrev fL:=@List.any_eq_true
abbrev fN:=@PySem.F.slot_tuple_iterator_next
abbrev fO:=@PySem.F.slot_list_pop
abbrev fP:=@PySem.F.type_list_pop
abbrev fQ:=@Classical.choose_spec
abbrev fR:=@List.getElem?_append_left
abbrev fS:=@PySem.wpAny_passesOwn
abbrev fU:=@List.length_nil
abbrev fV:=@Nat.le_of_lt
abbrev fW:=@PySem.F.args_zip_next_1
abbrev fX:=@PySem.plainId_quiet
abbrev fY:=@List.set_eq_of_length_le
abbrev fZ:=@PyProof.Rows.slot_tuple_getitem
abbrev gA:=@Array.length_toList
abbrev gB:=@List.ext_getElem
abbrev gC:=@List.eq_nil_iff_forall_not_mem
abbrev gE:=@PySem.F.entry_zip_next
abbrev gF:=@Nat.add_mul
abbrev gG:=@Nat.one_mul
abbrev gI:=@Nat.ne_of_gt
abbrev gJ:=@PySem.Calls.spliced_cons
abbrev gL:=@PySem.call_meets
abbrev gO:=@Bool.false_eq_true
abbrev gQ:=@PySem.F.slot_str_split
abbrev gR:=@PySem.wpAny_setField_rec
abbrev gS:=@PySem.wpAny_nextOf_list_item
abbrev gU:=@Nat.add_zero
abbrev gW:=@PyProof.Rows.boot_list
abbrev gX:=@Bool.eq_iff_iff
abbrev gY:=@List.cons.injEq
abbrev gZ:=@Int.natCast_add
abbrev hU:=@Nat.add_assoc
abbrev hV:=@List.length_singleton
abbrev hX:=@List.take_append_drop
abbrev hZ:=@PyProof.Rows.boot_max
abbrev iA:=@PySem.wpAny_truthy_bool
abbrev iB:=@Nat.le_succ
abbrev iC:=@PySem.wpAny_tryCatch
abbrev iD:=@beq_iff_eq
abbrev iE:=@Nat.mul_le_mul
abbrev iF:=@List.getD_eq_getElem?_getD
abbrev iG:=@beq_self_eq_true
abbrev iH:=@List.map_zipWith
abbrev iJ:=@List.getElem?_zip_eq_some
abbrev iK:=@Option.eq_none_or_eq_some
abbrev iL:=@List.filterMap_cons
abbrev iM:=@PyProof.Rows.F.entry_set_update_loop
abbrev iN:=@List.map_congr_left
abbrev iP:=@PySem.F.args_tuple_add_2
abbrev iQ:=@PySem.F.slot_list_getattribute
abbrev iR:=@PySem.F.args_str_split_2
abbrev iS:=@List.mem_filter
abbrev iT:=@List.foldl_cons
abbrev iU:=@Int.natCast_mul
abbrev iW:=@PySem.tupleKind_room_in1
abbrev iX:=@PySem.sub_AttributeError
abbrev iY:=@PySem.F.entry_tuple_add
abbrev iZ:=@PySem.F.entry_str_split
abbrev jA:=@PySem.F.slot_zip_getattribute
abbrev jB:=@List.eraseIdx_cons_succ
abbrev jC:=@PySem.Calls.spliced_nil
abbrev jD:=@PySem.F.slot_tuple_add
abbrev jE:=@PySem.Heap.get?_update_other
abbrev jF:=@Nat.lt_succ_of_lt
abbrev jG:=@Nat.sub_zero
abbrev jH:=@PyProof.Rows.boot_dict
abbrev jI:=@Int.mul_comm
abbrev jJ:=@Int.mul_nonneg
abbrev jK:=@PySem.Heap.get?_update_self
abbrev jL:=@PySem.F.slot_dict_get
abbrev jM:=@List.Perm.append_left
abbrev jN:=@PySem.wpAny_nextOf_list_end
abbrev jO:=@PyProof.Rows.boot_min
abbrev jP:=@PyProof.Rows.boot_int
abbrev jQ:=@List.perm_middle
abbrev jR:=@List.mem_flatMap
abbrev jS:=@PySem.wpAny_of_eq
abbrev jT:=@PySem.F.kt_typeCall_dict_1
abbrev jU:=@PySem.wpAny_letGo
abbrev jV:=@PySem.wpAny_execs_nil
abbrev jW:=@PySem.Heap.DictOf.new
abbrev jX:=@List.forIn_cons
abbrev jY:=@PySem.wpAny_dictSet_pairs
abbrev jZ:=@ne_true_of_eq_false
abbrev kA:=@Nat.mul_comm
abbrev kB:=@Nat.sub_self
abbrev kC:=@List.mem_filterMap
abbrev kD:=@PySem.typeIs_str
abbrev kE:=@PySem.wpAny_rule
abbrev kF:=@PySem.F.args_dict_init_2
abbrev kJ:=@List.mem_replicate
abbrev kK:=@List.getElem_range
abbrev kL:=@Nat.div_mul_cancel
abbrev kM:=@PySem.sizeLine_eq
abbrev kQ:=@List.foldl_append
abbrev kR:=@Option.some.injEq
abbrev kS:=@List.ext_getElem?
abbrev kT:=@PySem.Paired.length
abbrev kU:=@PySem.wpAny_standAt
abbrev kW:=@not_or
abbrev kX:=@List.map_nil
abbrev kY:=@PySem.typeIs_int
abbrev kZ:=@Nat.not_lt
abbrev lA:=@Int.le_trans
abbrev lB:=@List.of_mem_zip
abbrev lC:=@List.nil_append
abbrev lE:=@List.zip_append
abbrev lF:=@Bool.or_eq_true
abbrev lG:=@Nat.le_antisymm
abbrev lH:=@Nat.min_eq_left
abbrev lI:=@Sum.inr.inj
namespace L2
open PySem PySem.Spec PyProof.Rows
abbrev lL:=Sum Int Af
noncomputable def yP:lL->Ac->Bool
 | .inl k,v=>Value.isInt k v
 | .inr x,v=>Value.isStrOf x v
def Yp (w:World):lL->Int
 | .inl k=>hashInt k
 | .inr x=>hashStr w x
theorem vA:∀ {k:lL}{v:Ac},yP k v=true->(∃ i t,k=Sum.inl i/\v=Value.int i t)\/(∃ x t,k=Sum.inr x/\v=Value.str x t)
 | .inl i,v,h=>by
  obtain⟨t,e⟩:=Value.isInt_shape (k:=i) (v:=v) h;exact .inl ⟨i,t,rfl,e⟩
 | .inr x,v,h=>by
  obtain⟨t,e⟩:=Value.isStrOf_shape (x:=x) (v:=v) h;exact .inr ⟨x,t,rfl,e⟩
theorem X2 (i:Int) (t:Tok):yP (.inl i) (.int i t)=true:=by simp[yP,Value.isInt]
theorem Zl (x:Af) (t:Tok):yP (.inr x) (.str x t)=true:=by simp[yP,Value.isStrOf]
theorem Si (a b:Int):decide ((Sum.inl a:lL)=Sum.inl b)=(a == b):=by
 by_cases e:a=b
 .subst e;simp
 .have h:¬ (Sum.inl a:lL)=Sum.inl b:=λq=>e (Sum.inl.inj q)
  rw[cG h];exact (cY.mpr e).symm
theorem Sc (a b:Af):decide ((Sum.inr a:lL)=Sum.inr b)=decide (a=b):=by
 by_cases e:a=b
 .subst e;simp
 .have h:¬ (Sum.inr a:lL)=Sum.inr b:=λq=>e (lI q)
  rw[cG h,cG e]
theorem CC (a:Int) (b:Af):decide ((Sum.inl a:lL)=Sum.inr b)=false:=cG (λq=>nomatch q)
theorem GO (a:Af) (b:Int):decide ((Sum.inr a:lL)=Sum.inl b)=false:=cG (λq=>nomatch q)
def pQ (g:Ah) (w:World):PySem.KeyKind g w lL where
 is:=yP
 hash:=Yp w
 inj:=λv a b m f=>by
  rcases vA m with⟨i,t,rfl,rfl⟩ | ⟨x,t,rfl,rfl⟩
  .rcases vA f with⟨j,u,rfl,e⟩ | ⟨y,u,rfl,e⟩
   .injection e with c _;rw[c]
   .exact nomatch e
  .rcases vA f with⟨j,u,rfl,e⟩ | ⟨y,u,rfl,e⟩
   .exact nomatch e
   .injection e with c _;rw[c]
 byValue:=λk v h=>by
  rcases vA h with⟨i,t,rfl,rfl⟩ | ⟨x,t,rfl,rfl⟩<;>rfl
 pyHash:=λd h=>by
  rcases vA d with⟨i,t,rfl,rfl⟩ | ⟨x,t,rfl,rfl⟩
  .exact wpAny_pyHash_int h
  .exact wpAny_pyHash_str h
 eqBool:=λn d h=>by
  rcases vA n with⟨i,t,rfl,rfl⟩ | ⟨x,t,rfl,rfl⟩
  .rcases vA d with⟨j,u,rfl,rfl⟩ | ⟨y,u,rfl,rfl⟩
   .rw[Si] at h;exact wpAny_eqBool_int h
   .rw[CC] at h;exact SeqAt.EqAt.int_str i t y u _ _ _ _ h
  .rcases vA d with⟨j,u,rfl,rfl⟩ | ⟨y,u,rfl,rfl⟩
   .rw[GO] at h;exact SeqAt.EqAt.str_int x t j u _ _ _ _ h
   .rw[Sc] at h;exact wpAny_eqBool_str h
 «strs»:=λk x t v h=>by
  rcases vA h with⟨i,u,rfl,e⟩ | ⟨y,u,rfl,e⟩
  .exact nomatch e
  .injection e with c _;subst c;cases v<;>rfl
theorem Wf (g:Ah) (w:World) (i:Int) (t:Tok):(pQ g w).is (.inl i) (.int i t)=true:=X2 i t
theorem Zx (g:Ah) (w:World) (x:Af) (t:Tok):(pQ g w).is (.inr x) (.str x t)=true:=Zl x t
inductive V where
 | e | b (b:Bool) | int (i:Int) | str (x:Str) | byt (b:Array UInt8) | flt (b:UInt64) | ref (a:Addr) | ty (n:String)
 deriving DecidableEq
def lS:V->Ac->Prop
 | .e,u=>u=Value.none
 | .b b,u=>u=Value.bool b
 | .int i,u=>∃ t,u=Value.int i t
 | .str x,u=>∃ t,u=Value.str x t
 | .byt b,u=>∃ t,u=Value.bytes b t
 | .flt b,u=>∃ t,u=Value.float b t
 | .ref a,u=>u=Value.ref a
 | .ty n,u=>u=Value.type n
abbrev lN:Aa V->Aa Ac->Prop:=Paired lS
theorem lN.length (r:lN j g):j.length=g.length:=kT r
theorem lN.get:∀ {j:Aa V}{g:Aa Ac}{i:Nat}{x:V},lN j g->j[i]?=some x->∃ u,g[i]?=some u/\lS x u
 | _,_,_,_,.nil,e=>by simp at e
 | _,_,0,_,.cons r _,e=>by simp at e;subst e;exact⟨_,rfl,r⟩
 | _,_,i+1,x,.cons _ t,e=>by
  obtain⟨u,a,b⟩:=lN.get (i:=i) (x:=x) t (by simpa using e);exact⟨u,by simpa using a,b⟩
theorem lN.set (r:lS x u):∀ {j:Aa V}{g:Aa Ac}(i:Nat),lN j g->lN (j.set i x) (g.set i u)
 | _,_,_,.nil=>.nil
 | _,_,0,.cons _ t=>.cons r t
 | _,_,i+1,.cons q t=>.cons q (lN.set r i t)
theorem lN.append:∀ {l o:Aa V}{g j:Aa Ac},lN l g->lN o j->lN (l++o) (g++j)
 | _,_,_,_,.nil,s=>s
 | _,_,_,_,.cons r t,s=>.cons r (lN.append t s)
theorem lN.take:∀ {j:Aa V}{g:Aa Ac}(n:Nat),lN j g->lN (j.take n) (g.take n)
 | _,_,0,_=>.nil
 | _,_,_+1,.nil=>.nil
 | _,_,n+1,.cons r t=>.cons r (lN.take n t)
theorem lN.drop:∀ {j:Aa V}{g:Aa Ac}(n:Nat),lN j g->lN (j.drop n) (g.drop n)
 | _,_,0,r=>r
 | _,_,_+1,.nil=>.nil
 | _,_,n+1,.cons _ t=>lN.drop n t
def sF:Ab V->Ab Ac->Prop
 | some v,some u=>lS v u
 | none,none=>True
 | _,_=>False
def KV {g:Type}:Aa (g×V)->Aa (g×Ac)->Prop:=Paired λ(p:g×V) (q:g×Ac)=>p.1=q.1/\lS p.2 q.2
def kV:lL->V
 | .inl i=>.int i
 | .inr x=>.str x
inductive HO where
 | l (xs:List V)
 | t (xs:List V)
 | k (kvs:List (lL×V)) | T (kvs:List (List lL×V))
 | set (S:Int->Bool) (n:Nat)
 | ins (C dx:Addr) (fs:List (Str×V))
 | o (x:Addr)
 | xd (fs:List (Str×V))
 | met (f x:Addr)
 | rng (lo hi:Int)
 | frz (o:Obj) (u:HO)
 | tbl (ps:Array Value)
 | ext (φ:Heap->Prop)
abbrev Hp:=Ad->Ab HO
def upd (H:Hp) (a:Ad) (o:HO):Hp:=λb=>if b=a then some o else H b
theorem lU:upd H a o a=some o:=by unfold upd;rw[if_pos rfl]
theorem lO (h:b≠a):upd H a o b=H b:=by unfold upd;rw[if_neg h]
theorem Ue:upd (upd H a o) a u=upd H a u:=by
 funext b;unfold upd;split<;>rfl
theorem AC {H:Hp}{a b:Ad}{o u:HO}(h:H a=some o) (g:H b=some u) (d:o≠u):a≠b:=by
 intro e;subst e;rw[h] at g;exact d (cA g)
theorem mF {H:Hp}{a b:Ad}{o:HO}(h:H a=some o) (g:H b=none):a≠b:=by
 intro e;subst e;rw[h] at g;cases g
section
variable (P:Ah) (w:World)
def wA (h:Ag) (a:Ad) (items:Array Ac):Prop:=IsTup h a items/\∃ o,h.get? a=some o/\o.dict=none
theorem wA.new (h:Ag) (items:Array Ac):wA (h.push { cls:=.type "tuple",data:=.seq items }) h.objs.size items:=⟨IsTup.new _ _,_,aQ _ rfl,rfl⟩
def nW (H:Hp) (h:Ag) (a:Ad):HO->Prop
 | .l d=>d.length<=sizeLine/\∃ (b:Aa Ac) (n:Nat),lN d b/\h.get? a=some { cls:=.type "list",data:=.seq b.toArray n }
 | .t d=>d.length<=sizeLine/\∃ b:Aa Ac,lN d b/\wA h a b.toArray
 | .k c=>c.length<=sizeLine/\(a == sysModules)=false/\∃ A,KV c A/\h.DictOf (pQ P w) a A
 | .T c=>c.length<=sizeLine/\(a == sysModules)=false/\∃ d:Aa (Aa lL×Ad×Ac),
   Paired (λ(p:Aa lL×V) (q:Aa lL×Ad×Ac)=>p.1=q.1/\H q.2.1=some (.t (p.1.map kV))/\lS p.2 q.2.2) c d /\
   ∃ o s B,h.get? a=some o/\o.ExactDict/\o.data = .dict s B/\s.toList=d.map (entryOfKey (tupleKind (pQ P w)))/\(d.map (·.1)).Nodup
 | .set S n=>h.SetOf (intKind P w) a S n
 | .ins C i fs=>H i=some (.o a)/\fs.length<=1000/\i≠a/\h.get? a=some (PySem.W.instObj C i) /\
   ∃ e,h.Ns1 i e/\(∀ f,sF (fs.lookup f) (e f))/\PySem.Within e (fs.map (·.1))
 | .o _=>∃ o,h.get? a=some o
 | .xd fs=>∃ e,h.Ns1 a e/\∀ f,sF (fs.lookup f) (e f)
 | .rng lo D=>∃ t u v,h.get? a=some { cls:=.type "range",data:=.fields #[.int lo t,.int D u,.int 1 v] }
 | .frz o u=>h.get? a=some o/\nW H h a u
 | .tbl E=>h.get? a=some { cls:=.none,data:=.fields E }
 | .met f x=>h.get? a=some (PySem.W.methodObj (.ref f) (.ref x))
 | .ext m=>m h/\(∃ o,h.get? a=some o)/\∀ y z:Ag,m y->(∀ o,y.get? a=some o->z.get? a=some o)->m z
def nM (H:Hp) (h:Ag):Prop:=∀ a o,H a=some o->nW P w H h a o
end
section
variable {P:Ah}
theorem nW.lt (x:nW P w H h a o):a<h.objs.size:=by
 cases o with
 | l c=>obtain⟨_,_,_,_,e⟩:=x;exact aK e
 | t c=>obtain⟨_,_,_,p,_⟩:=x;exact p.lt
 | k b=>obtain⟨_,_,_,_,o,_,_,e,_⟩:=x;exact aK e
 | T b=>obtain⟨_,_,_,_,o,_,_,e,_⟩:=x;exact aK e
 | set S n=>obtain⟨o,_,_,_,e,_⟩:=x;exact aK e
 | ins C d fs=>obtain⟨_,_,_,e,_⟩:=x;exact aK e
 | o y=>obtain⟨_,e⟩:=x;exact aK e
 | xd fs=>obtain⟨_,⟨_,_,_,e,_⟩,_⟩:=x;exact aK e
 | rng lo i=>obtain⟨_,_,_,e⟩:=x;exact aK e
 | frz m u=>obtain⟨e,_⟩:=x;exact aK e
 | tbl q=>exact aK (show h.get? a=some _ from x)
 | met f y=>exact aK (show h.get? a=some _ from x)
 | ext s=>obtain⟨_,⟨_,e⟩,_⟩:=x;exact aK e
theorem Paired.mapP {F:l->o->Prop}:∀ {g:Aa l}{j:Aa o},Paired F g j->(∀ a b,F a b->G a b)->Paired G g j
 | _,_,.nil,_=>.nil
 | _,_,.cons r t,f=>.cons (f _ _ r) (Paired.mapP t f)
theorem nW.stay (x:nW P w H h a o) (k:∀ b u,(b=a\/H b=some (.o a))->h.get? b=some u->j.get? b=some u)
  (J:∀ b,H b=some (.o a)->I b=some (.o a)) (U:∀ b g,H b=some (.t g)->I b=some (.t g)):nW P w I j a o:=by
 induction o with
 | l g=>obtain⟨z,A,n,r,e⟩:=x;exact⟨z,A,n,r,k _ _ (.inl rfl) e⟩
 | t g=>obtain⟨z,A,r,⟨i,e,c⟩,M,B,K⟩:=x;exact⟨z,A,r,⟨i,k _ _ (.inl rfl) e,c⟩,M,k _ _ (.inl rfl) B,K⟩
 | k D=>obtain⟨z,y,N,r,i,s,m,e,c⟩:=x;exact⟨z,y,N,r,i,s,m,k _ _ (.inl rfl) e,c⟩
 | T D =>
  obtain⟨z,y,g,r,i,s,m,e,c⟩:=x;exact⟨z,y,g,Paired.mapP r λp q z=>⟨z.1,U _ _ z.2.1,z.2.2⟩,i,s,m,k _ _ (.inl rfl) e,c⟩
 | set S n=>obtain⟨i,s,m,t,e,c⟩:=x;exact⟨i,s,m,t,k _ _ (.inl rfl) e,c⟩
 | ins C O fs =>
  obtain⟨d,z,ne,e,E,⟨F,s,m,B,c⟩,r⟩:=x;exact⟨J _ d,z,ne,k _ _ (.inl rfl) e,E,⟨F,s,m,k _ _ (.inr d) B,c⟩,r⟩
 | o y=>obtain⟨i,e⟩:=x;exact⟨i,k _ _ (.inl rfl) e⟩
 | xd fs=>obtain⟨E,⟨F,s,m,e,c⟩,r⟩:=x;exact⟨E,⟨F,s,m,k _ _ (.inl rfl) e,c⟩,r⟩
 | rng lo Q=>obtain⟨t,u,v,e⟩:=x;exact⟨t,u,v,k _ _ (.inl rfl) e⟩
 | frz i u L=>obtain⟨e,q⟩:=x;exact⟨k _ _ (.inl rfl) e,L q⟩
 | tbl G =>
  have e:h.get? a=some { cls:=.none,data:=.fields G }:=x;show j.get? a=some { cls:=.none,data:=.fields G };exact k a _ (.inl rfl) e
 | met f y =>
  have e:h.get? a=some (PySem.W.methodObj (.ref f) (.ref y)):=x;show j.get? a=some (PySem.W.methodObj (.ref f) (.ref y));exact k a _ (.inl rfl) e
 | ext R=>obtain⟨p,⟨o,e⟩,st⟩:=x;exact⟨st _ _ p λo q=>k _ _ (.inl rfl) q,⟨o,k _ _ (.inl rfl) e⟩,st⟩
theorem nM.lt (x:nM P w H h) (e:H a=some o):a<h.objs.size:=(x a o e).lt
theorem nM.fresh (x:nM P w H h) (e:h.objs.size<=a):H a=none:=by
 cases q:H a with
 | none=>rfl
 | some u=>exact absurd (aR (x.lt q) e) (dX _)
theorem nM.kept (x:nM P w H h) (k:∀ b u,h.get? b=some u->g.get? b=some u):nM P w H g:=λa o e =>
 (x a o e).stay (λb u _ q=>k b u q) (λ_ q=>q) λ_ _ q=>q
theorem nM.laid (x:nM P w H h) (k:∀ b u,h.get? b=some u->g.get? b=some u) (j:h.objs.size<=a) (new:nW P w (upd H a o) g a o):nM P w (upd H a o) g:=λb u e=>by
 have f:=x.fresh j;by_cases d:b=a
 .subst d;rw[lU] at e;cases e;exact new
 .rw[lO d] at e;exact (x b u e).stay (λc v _ q=>k c v q) (λc q=>by rw[lO (mF q f)];exact q) λc i q=>by rw[lO (mF q f)];exact q
end
def Rd (H:Hp) (a:Ad) (u:HO):Prop:=H a=some u\/∃ o,H a=some (.frz o u)
theorem Rd.ok {P:Ah}(r:Rd H a u) (x:nM P w H h):nW P w H h a u:=by
 rcases r with r | ⟨o,r⟩
 .exact x a u r
 .obtain⟨_,q⟩:=x a _ r;exact q
def zV:Ab HO->Prop
 | some (.l _)=>True
 | some (.k _)=>True
 | some (.T _)=>True
 | some (.set _ _)=>True
 | some (.ins _ _ _)=>True
 | some (.ext _)=>True
 | _=>False
section
variable {P:Ah}
theorem nM.write (ok:nM P w H h) (g:zV (H x)) (p:e=x\/H e=some (.o x)) (k:∀ b u,b≠e->h.get? b=some u->j.get? b=some u) (l:∃ u,j.get? e=some u)
  (new:nW P w (upd H x C) j x C):nM P w (upd H x C) j:=λb u q=>by
 have d:∀ c y,H c=some (.o y)->c≠x:=λc y r z=>by subst z;rw[r] at g;exact g
 have f:∀ c n,H c=some (.t n)->c≠x:=λc n r z=>by subst z;rw[r] at g;exact g
 by_cases i:b=x
 .subst i;rw[lU] at q;cases q;exact new
 .rw[lO i] at q;by_cases a:b=e
  .have s:H b=some (.o x):=by
    rcases p with z | z
    .exact absurd (a.trans z) i
    .rw[a];exact z
   rw[q] at s;cases s;obtain⟨v,A⟩:=l;exact⟨v,by rw[a];exact A⟩
  .refine (ok b u q).stay (λc v m r=>k c v ?_ r) (λc r=>by rw[lO (d c b r)];exact r) λc n r=>by rw[lO (f c n r)];exact r
   rcases m with rfl | m
   .exact a
   .rintro rfl;rcases p with z | z
    .exact d c b m z
    .rw[m] at z;cases z;exact i rfl
end
structure Un (fs ex:List Addr) (H H':Hp) (h h':Heap):Prop where
 keep:∀ b o,h.get? b=some o->H b=none->b∉fs->b∉ex->h'.get? b=some o
 slot:∀ b o,h.get? b=some o->H b=none->b∈fs->b∉ex->∃ sl,h'.get? b=some { o with slots:=sl }
 free:∀ b o,h.get? b=some o->H b=none->b∉ex->H' b=none
 there:∀ b o,h.get? b=some o->b∉ex->∃ o',h'.get? b=some o'
 tups:∀ b xs,H b=some (.t xs)->H' b=some (.t xs)
 frzs:∀ b o u,H b=some (.frz o u)->H' b=some (.frz o u)
 tbls:∀ b ps,H b=some (.tbl ps)->∃ more,H' b=some (.tbl (ps++more))
section
theorem Un.any (u:Un fs l H p h o) (q:h.get? b=some g) (n:H b=none) (j:b∉l):∃ sl,o.get? b=some { g with slots:=sl }:=by
 by_cases a:b∈fs
 .exact u.slot b g q n a j
 .exact⟨g.slots,u.keep b g q n a j⟩
theorem Un.kept (k:∀ b u,h.get? b=some u->g.get? b=some u):Un fs j H H h g :=
 ⟨λb a q _ _ _=>k b a q,λb a q _ _ _=>⟨a.slots,k b a q⟩,λ_ _ _ n _=>n,λb a q _=>⟨a,k b a q⟩,λ_ _ q=>q,λ_ _ _ q=>q,λ_ c q=>⟨#[],by rw[q];simp⟩⟩
theorem Un.refl:Un fs g H H h h:=Un.kept λ_ _ q=>q
theorem Un.laid (k:∀ b u,h.get? b=some u->j.get? b=some u) (l:h.objs.size<=a) (g:H a=none):Un fs p H (upd H a o) h j where
 keep:=λb u q _ _ _=>k b u q
 slot:=λb u q _ _ _=>⟨u.slots,k b u q⟩
 free:=λb u q n _=>by rw[lO (bE (aR (aK q) l))];exact n
 there:=λb u q _=>⟨u,k b u q⟩
 tups:=λb c q=>by rw[lO (mF q g)];exact q
 frzs:=λb u c q=>by rw[lO (mF q g)];exact q
 tbls:=λb d q=>⟨#[],by rw[lO (mF q g),q];simp⟩
theorem Un.write (g:zV (H x)) (p:e=x\/H e=some (.o x)) (k:∀ b u,b≠e->h.get? b=some u->l.get? b=some u) (j:∃ u,l.get? e=some u):Un fs C H (upd H x o) h l:=by
 have f:∀ b,H b=none->b≠x:=λb n z=>by subst z;rw[n] at g;exact g
 have d:∀ b,H b=none->b≠e:=λb n z=>by
  subst z;rcases p with r | r
  .exact f b n r
  .rw[n] at r;cases r
 have c:∀ b u,H b=some u->¬ zV (some u)->b≠x:=λb u q i z=>by subst z;rw[q] at g;exact i g
 refine⟨λb u q n _ _=>k b u (d b n) q,λb u q n _ _=>⟨u.slots,k b u (d b n) q⟩,λb u q n _=>by rw[lO (f b n)];exact n,λb u q _=>?_,
  λb m q=>by rw[lO (c b _ q λz=>z)];exact q,λb u m q=>by rw[lO (c b _ q λz=>z)];exact q,λb s q=>⟨#[],by rw[lO (c b _ q λz=>z),q];simp⟩⟩
 by_cases a:b=e
 .subst a;exact j
 .exact⟨u,k b u a q⟩
end
noncomputable def Cg (h:Ag) (H:Hp):Aa Ad:=(List.range h.objs.size).filter λa=>(H a).isSome
def vH (h:Ag) (H:Hp):Ag:=PySem.W.hideAll h (Cg h H)
theorem FP (h:Ag) (H:Hp):(vH h H).objs.size=h.objs.size:=PySem.W.hideAll_size _ _
theorem Z3 (e:h.get? b=some o) (n:H b=none):(vH h H).get? b=some o :=
 PySem.W.hideAll_get _ e λa=>by
  have q:(H b).isSome=true:=(iS.mp a).2;rw[n] at q;simp at q
theorem FE (e:(vH h H).get? b=some o):h.get? b=some o/\H b=none:=by
 have a:h.get? b=some o:=PySem.W.of_hideAll (Cg h H) e;refine⟨a,?_⟩;cases q:H b with
 | none=>rfl
 | some x =>
  have c:b∈Cg h H:=iS.mpr ⟨bW.mpr (aK a),by simp[q]⟩;have z:(vH h H).get? b=none:=PySem.W.hideAll_none (Cg h H) c;rw[z] at e;cases e
structure Mod (K:lJ) (mg:Str->Option Value) (base:Heap):Prop where
 kin:K.In base
 glob:base.Ns mainGlobals mg
 blt:∃ mb,base.Ns builtinsNs mb/\∀ x:Str,x ≠ "__name__" -> mb x=bootBuiltins x
 nolimit:base.NoLimit
/-- the context: a def's body (or a comprehension's block) running. base: fixed through the whole law;s₀,H₀: the entry;outer: the frames whose slots others may change (a def's callers);stack: all frames that run;
 ex: iterators that were made ahead of the entry and are walked here (a comprehension's);fn: the names whose cells were made at the entry (a def: all;a comprehension's block: its own);calm: not within an except suite;pn: pins that every state bears;xe: what is wanted of an exception that leaves the code -/
structure Cx where
 prog:Program
 w:World
 K:lJ
 mg:Str->Option Value
 base:Heap
 A:Around
 N:List Str
 s₀:Shared
 H₀:Hp
 env:Env
 outer:List Env
 stack:List Env
 ex:List Addr
 fn:Str->Bool
 calm:Bool
 pn:List (Addr×Obj)
 xe:Value->Shared->Prop
noncomputable def sL (l:Aa Env):Aa Ad:=l.filterMap (·.frame)
abbrev Cx.fs (X:Cx):Aa Ad:=sL X.outer
def Fz (g:Scope) (x:Af):Prop:=g.names.lookup x=some .local\/g.names.lookup x=some .cell\/g.names.lookup x=some .free
def uR (g:Scope) (x:Af):Prop:=g.names.lookup x=some .local\/g.names.lookup x=some .cell
def R6 (g:Env) (h:Ag) (m:Af->Ab Ac) (x:Af) (u:Ac):Prop :=
 (g.kindOf x=some .local/\m x=some u)\/((g.kindOf x=some .cell\/g.kindOf x=some .free)/\∃ c,g.cells.lookup x=some c/\h.IsCell c (some u))
structure Cx.Ok (X:Cx):Prop where
 mod:Mod X.K X.mg X.base
 kind:X.env.scope.kind = .function
 glob:X.env.globals=mainGlobals
 blt:X.env.builtins=builtinsNs
 above:X.s₀.heap.objs.size<=X.env.locals
 inj:∀ x y c,X.env.cells.lookup x=some c->X.env.cells.lookup y=some c->x=y
 has:∀ x,(X.env.kindOf x=some .cell\/X.env.kindOf x=some .free)->∃ c,X.env.cells.lookup x=some c
 cab:∀ x c,X.fn x=true->X.env.cells.lookup x=some c->X.s₀.heap.objs.size<=c
 hd:X.calm=true->X.A.handled=none
 frames:X.A.frames=some X.stack
 stk:X.stack=X.outer\/(X.stack=X.env::X.outer/\X.env.frame=some X.env.locals)
 exf:∀ b∈X.ex,b≠X.env.locals/\∀ x c,X.env.cells.lookup x=some c->c≠b
 bs:∀ b o,X.base.get? b=some o->X.s₀.heap.get? b=some o/\X.H₀ b=none
 bsz:X.base.objs.size<=X.s₀.heap.objs.size
 noex:∀ b o,X.base.get? b=some o->b∉X.ex
 exfs:∀ b∈X.ex,b∉X.fs
 funs:X.s₀.heap.FunFrames X.base X.outer
 frf:∀ b∈X.fs,X.H₀ b=none
structure Inv (X:Cx) (pins:List (Addr×Obj)) (σ:List (Option V)) (H:Hp) (s:Shared):Prop where
 ok:X.Ok
 os:s.os=X.s₀.os
 bare:AllBare s.gens
 base:Un X.fs X.ex X.H₀ H X.s₀.heap s.heap
 loc:∃ m,s.heap.Ns X.env.locals m/\∀ (i:Nat) (x:Str) (v:V),X.N[i]?=some x->σ[i]?=some (some v)->Fz X.env.scope x->∃ u,lS v u/\R6 X.env s.heap m x u
 cell:∀ x c,X.env.cells.lookup x=some c->∃ v,s.heap.IsCell c v
 free:H X.env.locals=none
 freeC:∀ x c,X.env.cells.lookup x=some c->H c=none
 pin:∀ p∈X.pn++pins,s.heap.get? p.1=some p.2/\H p.1=none/\p.1≠X.env.locals/\p.1∉X.fs/\∀ v,p.2.data ≠ .cell v
 hok:nM X.prog X.w H s.heap
 len:σ.length=X.N.length
section
variable {X:Cx}
theorem Cx.Ok.nofr (ok:X.Ok) (e:X.base.get? b=some o):b∉X.fs:=λa=>by
 have:=(ok.funs.mem a).1;rw[e] at this;cases this
theorem Inv.bs (I:Inv X g j H s):∀ b o,X.base.get? b=some o->s.heap.get? b=some o/\H b=none:=λb o e =>
 ⟨I.base.keep b o (I.ok.bs b o e).1 (I.ok.bs b o e).2 (I.ok.nofr e) (I.ok.noex b o e),I.base.free b o (I.ok.bs b o e).1 (I.ok.bs b o e).2 (I.ok.noex b o e)⟩
theorem Inv.bk (I:Inv X g j H s):∀ b o,X.base.get? b=some o->s.heap.get? b=some o:=λb o e=>(I.bs b o e).1
theorem Inv.mod (I:Inv X g j H s):Mod X.K X.mg X.base:=I.ok.mod
theorem Inv.kIn (I:Inv X g j H s):X.K.In s.heap:=I.ok.mod.kin.keeps I.bk
theorem Inv.lt (I:Inv X g j H s):X.env.locals<s.heap.objs.size:=let ⟨_,a,_⟩:=I.loc;a.lt
theorem Inv.sz (I:Inv X g j H s):X.s₀.heap.objs.size<=s.heap.objs.size:=bX I.ok.above (fV I.lt)
theorem Inv.nofs (I:Inv X g j H s) (h:s.heap.objs.size<=a):a∉X.fs:=λb=>by
 obtain⟨_,o,c,_⟩:=I.ok.funs.mem b;exact absurd (aR (aK c) (bX I.sz h)) (dX _)
theorem Inv.cne (I:Inv X g j H s):∀ x c,X.env.cells.lookup x=some c->c≠X.env.locals:=λx c e z=>by
 obtain⟨v,o,d,hd⟩:=I.cell x c e;obtain⟨m,⟨i,h,f,b,a,_⟩,_⟩:=I.loc;rw[z,b] at d;cases d;rw[a] at hd;cases hd
theorem Inv.funs (I:Inv X g j H s):s.heap.FunFrames X.base X.outer:=by
 have all:∀ (l:Aa Env),(∀ b∈sL l,b∈X.fs)->X.s₀.heap.FunFrames X.base l->s.heap.FunFrames X.base l:=by
  intro l;induction l with
  | nil=>intro _ _;trivial
  | cons h r t =>
   intro f k;obtain⟨i,⟨L,o,d,m,n,hd⟩,q⟩:=k;have a:L∈X.fs:=f L (by unfold sL;rw[List.filterMap_cons,d];exact aH);obtain⟨sl,e⟩:=I.base.slot L o n (I.ok.frf L a) a λz=>I.ok.exfs L z a
   exact⟨i,⟨L,_,d,m,e,hd⟩,t (λb c=>f b (by unfold sL;rw[List.filterMap_cons,d];exact aN _ c)) q⟩
 exact all X.outer (λ_ c=>c) I.ok.funs
theorem Inv.stack (I:Inv X g j H s):s.heap.FunFrames X.base X.stack:=by
 rcases I.ok.stk with e | ⟨e,a⟩
 .rw[e];exact I.funs
 .rw[e];obtain⟨m,b,_⟩:=I.loc;refine .cons (by rw[I.ok.kind];decide) a b ?_ I.funs;exact Heap.get?_none_of_le (bX I.ok.bsz I.ok.above)
theorem Inv.stkSub (I:Inv X g j H s):∀ b∈sL X.stack,b∈X.env.locals::X.fs:=λb a=>by
 rcases I.ok.stk with e | ⟨e,c⟩
 .rw[e] at a;exact aN _ a
 .rw[e] at a;unfold sL at a;rw[iL,c] at a;exact a
theorem Inv.stkFree (I:Inv X g j H s):∀ b∈sL X.stack,H b=none:=λb a=>by
 rcases aF.mp (I.stkSub b a) with e | a
 .rw[e];exact I.free
 .obtain⟨_,o,c,_⟩:=I.ok.funs.mem a;exact I.base.free b o c (I.ok.frf b a) λz=>I.ok.exfs b z a
theorem Inv.step {g':Array GenState}{t':Nat}{d':Drawn}{ch:Aa Ad}(I:Inv X j σ H s)
  (g:∀ b∈ch,(b∈X.ex\/X.s₀.heap.objs.size<=b)/\b≠X.env.locals/\(∀ x c,X.env.cells.lookup x=some c->c≠b)/\∀ p∈X.pn++j,p.1≠b)
  (keep:∀ b o,b≠X.env.locals->b∉X.fs->b∉ch->s.heap.get? b=some o->H b=none->J.get? b=some o)
  (slot:∀ b o,b≠X.env.locals->b∈X.fs->b∉ch->s.heap.get? b=some o->H b=none->∃ sl,J.get? b=some { o with slots:=sl }) (free:∀ b o,b∉ch->s.heap.get? b=some o->H b=none->T b=none)
  (there:∀ b o,b∉ch->s.heap.get? b=some o->∃ o',J.get? b=some o')
  (ab:∀ b C,H b=some (.t C)->T b=some (.t C)) (U:∀ b o u,H b=some (.frz o u)->T b=some (.frz o u)) (aa:∀ b ps,H b=some (.tbl ps)->∃ more,T b=some (.tbl (ps++more)))
  (ns:∀ m,s.heap.Ns X.env.locals m->J.Ns X.env.locals m) (ac:nM X.prog X.w T J) (hg:AllBare g') :
  Inv X j σ T { s with heap:=J,gens:=g',drawn:=d',toks:=t' }:=by
 have F:∀ b o,X.s₀.heap.get? b=some o->b≠X.env.locals:=λb o e=>bE (aR (aK e) I.ok.above)
 have A:∀ b o,X.s₀.heap.get? b=some o->b∉X.ex->b∉ch:=λb o e a B=>by
  rcases (g b B).1 with z | z
  .exact a z
  .exact absurd (aR (aK e) z) (dX _)
 have f:∀ x c,X.env.cells.lookup x=some c->∀ v,s.heap.IsCell c v->J.IsCell c v:=λx c e v G=>by
  obtain⟨o,D,hd⟩:=G;have h:c∉ch:=λz=>(g c z).2.2.1 x c e rfl
  by_cases L:c∈X.fs
  .obtain⟨sl,q⟩:=slot c o (I.cne x c e) L h D (I.freeC x c e);exact⟨_,q,hd⟩
  .exact⟨o,keep c o (I.cne x c e) L h D (I.freeC x c e),hd⟩
 refine⟨I.ok,I.os,hg,⟨λb o e n B a=>?_,λb o e n B a=>?_,λb o e n a=>?_,λb o e a=>?_,λb C e=>ab b C (I.base.tups b C e),λb o C e=>U b o C (I.base.frzs b o C e),λb ps e=>?_⟩,?_,λx c e=>?_,?_,λx c e=>?_,λp M=>?_,ac,I.len⟩
 .exact keep b o (F b o e) B (A b o e a) (I.base.keep b o e n B a) (I.base.free b o e n a)
 .obtain⟨sl,y⟩:=I.base.slot b o e n B a;obtain⟨K,E⟩:=slot b _ (F b o e) B (A b o e a) y (I.base.free b o e n a);exact⟨K,E⟩
 .obtain⟨o',y⟩:=I.base.there b o e a;exact free b o' (A b o e a) y (I.base.free b o e n a)
 .obtain⟨o',y⟩:=I.base.there b o e a;exact there b o' (A b o e a) y
 .obtain⟨R,y⟩:=I.base.tbls b ps e;obtain⟨S,E⟩:=aa b _ y;exact⟨R++S,by rw[E,Array.append_assoc]⟩
 .obtain⟨m,Q,P⟩:=I.loc;refine⟨m,ns m Q,λi x v y E O=>?_⟩;obtain⟨u,r,l⟩:=P i x v y E O;refine⟨u,r,?_⟩;rcases l with l | ⟨k,c,e,z⟩
  .exact .inl l
  .exact .inr ⟨k,c,e,f x c e _ z⟩
 .obtain⟨v,z⟩:=I.cell x c e;exact⟨v,f x c e v z⟩
 .obtain⟨m,⟨o,_,_,D,_⟩,_⟩:=I.loc;exact free _ o (λz=>(g _ z).2.1 rfl) D I.free
 .obtain⟨v,o,D,hd⟩:=I.cell x c e;exact free c o (λz=>(g c z).2.2.1 x c e rfl) D (I.freeC x c e)
 .obtain⟨e,n,ne,N,d⟩:=I.pin p M;have h:p.1∉ch:=λz=>(g p.1 z).2.2.2 p M rfl
  exact⟨keep p.1 p.2 ne N h e n,free p.1 p.2 h e n,ne,N,d⟩
theorem Inv.un (I:Inv X g p H s) (u:Un X.fs [] H l s.heap h') (j:nM X.prog X.w l h'):Inv X g p l { s with heap:=h',toks:=t' }:=by
 obtain⟨m,⟨o,v,t,h,r⟩,_⟩:=id I.loc;obtain⟨sl,i⟩:=u.any h I.free (by simp);exact I.step (g':=s.gens) (d':=s.drawn) (ch:=[]) (λ_ z=>nomatch z) (λb o _ f _ e n=>u.keep b o e n f (by simp)) (λb o _ f _ e n=>u.slot b o e n f (by simp)) (λb o _ e n=>u.free b o e n (by simp)) (λb o _ e=>u.there b o e (by simp)) u.tups u.frzs u.tbls (λx k=>by
  obtain⟨y,d,c,a,q⟩:=k;rw[h] at a;cases a;exact⟨_,d,c,i,q⟩) j I.bare
theorem Inv.call (I:Inv X g T H s) (u:Un (sL X.stack) ch H C s.heap h') (l:nM X.prog X.w C h') (J:AllBare g')
  (j:∀ b∈ch,(b∈X.ex\/X.s₀.heap.objs.size<=b)/\b≠X.env.locals/\(∀ x c,X.env.cells.lookup x=some c->c≠b)/\∀ p∈X.pn++g,p.1≠b) :
  Inv X g T C { s with heap:=h',gens:=g',drawn:=d',toks:=t' }:=by
 obtain⟨m,⟨o,A,y,k,r⟩,_⟩:=id I.loc;obtain⟨sl,i⟩:=u.any k I.free λz=>(j _ z).2.1 rfl
 exact I.step (ch:=ch) j (λb o i q a e n=>u.keep b o e n (λz=>(aF.mp (I.stkSub b z)).elim i q) a) (λb o _ _ a e n=>u.any e n a) (λb o a e n=>u.free b o e n a) (λb o a e=>u.there b o e a) u.tups u.frzs u.tbls (λB t=>by
  obtain⟨D,h,f,d,v⟩:=t;rw[k] at d;cases d;exact⟨_,h,f,i,v⟩) l J
theorem Inv.turned (I:Inv X j σ H s) (k:∀ b o,b≠g->s.heap.get? b=some o->C.get? b=some o) (hn:H g=none) (l:g≠X.env.locals)
  (J:g∈X.ex\/X.s₀.heap.objs.size<=g) (T:∀ x c,X.env.cells.lookup x=some c->c≠g) (U:∀ p∈X.pn++j,p.1≠g):Inv X j σ H { s with heap:=C,toks:=t' }:=by
 have d:∀ b u,H b=some u->b≠g:=λb u e z=>by rw[z,hn] at e;cases e
 refine I.step (g':=s.gens) (d':=s.drawn) (ch:=[g]) (λb i=>?_) (λb o _ _ a e _=>k b o (λz=>a (by simp[z])) e) (λb o _ _ a e _=>⟨o.slots,k b o (λz=>a (by simp[z])) e⟩) (λ_ _ _ _ n=>n)
  (λb o a e=>⟨o,k b o (λz=>a (by simp[z])) e⟩) (λ_ _ e=>e) (λ_ _ _ e=>e) (λb y e=>⟨#[],by rw[e];simp⟩) (λm t=>?_) (λb u e=>?_) I.bare
 .have e:b=g:=by simpa using i
  subst e;exact⟨J,l,T,U⟩
 .obtain⟨o,h,f,w,r⟩:=t;exact⟨o,h,f,k _ o (cO l) w,r⟩
 .refine (I.hok b u e).stay (λc v a q=>k c v ?_ q) (λ_ q=>q) λ_ _ q=>q
  rcases a with z | z
  .rw[z];exact d b u e
  .exact d c _ z
theorem Inv.tok (I:Inv X g j H s) (t:Nat):Inv X g j H { s with toks:=t }:=I.un (h':=s.heap) (t':=t) Un.refl I.hok
theorem Inv.kept (I:Inv X g l H s) (k:∀ b u,s.heap.get? b=some u->j.get? b=some u):Inv X g l H { s with heap:=j,toks:=t' }:=I.un (Un.kept k) (I.hok.kept k)
theorem Inv.laid (I:Inv X g p H s) (k:∀ b u,s.heap.get? b=some u->l.get? b=some u) (j:s.heap.objs.size<=a) (new:nW X.prog X.w (upd H a o) l a o) :
  Inv X g p (upd H a o) { s with heap:=l,toks:=t' }:=I.un (Un.laid k j (I.hok.fresh j)) (I.hok.laid k j new)
theorem Inv.write (I:Inv X j C H s) (r:zV (H x)) (p:e=x\/H e=some (.o x)) (k:∀ b u,b≠e->s.heap.get? b=some u->l.get? b=some u) (g:∃ u,l.get? e=some u)
  (new:nW X.prog X.w (upd H x o) l x o):Inv X j C (upd H x o) { s with heap:=l,toks:=J }:=I.un (Un.write r p k g) (I.hok.write r p k g new)
theorem Inv.pins_of (I:Inv X j l H s) (h:∀ p∈g,s.heap.get? p.1=some p.2/\H p.1=none/\p.1≠X.env.locals/\p.1∉X.fs/\∀ v,p.2.data ≠ .cell v):Inv X g l H s :=
 ⟨I.ok,I.os,I.bare,I.base,I.loc,I.cell,I.free,I.freeC,λp a=>(aX.mp a).elim (λz=>I.pin p (aW _ z)) (h p),I.hok,I.len⟩
theorem M4 {N:Aa Af}(g:N.Nodup){i j:Nat}{x:Af}(a:N[i]?=some x) (b:N[j]?=some x):i=j:=by
 obtain⟨e,c⟩:=aP.mp a;obtain⟨f,d⟩:=aP.mp b;exact (List.getElem_inj g).mp (c.trans d.symm)
theorem Nn (I:Inv X J σ H s) (hN:X.N.Nodup) (l:X.N[i]?=some x) (g:uR X.env.scope x) (r:lS v u)
  (h:∀ s',Inv X J (σ.set i (some v)) H s'->(∃ a,Heap.SameBut a s.heap s'.heap/\(a=X.env.locals\/X.env.cells.lookup x=some a))->Q () s') (hf:X.fn x=true\/X.env.scope.names.lookup x=some .local:=by first | exact .inl rfl | exact .inr rfl | assumption):wpAny M A (storeName X.env x u) Q E s:=by
 obtain⟨m,hn,hl⟩:=id I.loc;have Y:(X.env.scope.kind == .class||(X.env.scope.kind == .module&&X.env.locals != X.env.globals))=false:=by rw[I.ok.kind];rfl
 have K:i<σ.length:=by rw[I.len];exact (aP.mp l).1
 have cne:=I.cne;have B:∀ {a:Ad} {S:Ag},(∃ o,s.heap.get? a=some o/\H a=none)->Heap.SameBut a s.heap S->nM X.prog X.w H S:=λ{a S} ha f b ob e=>by
  obtain⟨_,_,F⟩:=ha;refine (I.hok b ob e).stay (λc U D q=>(f.2 c ?_).trans q) (λ_ q=>q) λ_ _ q=>q
  rintro rfl;rcases D with rfl | D
  .rw[F] at e;cases e
  .rw[F] at D;cases D
 rcases g with L | L
 .refine wpAny_storeName_local L hn (λS aa f=>?_) Y;obtain⟨oL,_,_,ab,_⟩:=id hn;refine h _ ⟨I.ok,I.os,I.bare,⟨λb o e n O g=>?_,λb o e n O g=>?_,I.base.free,λb o e g=>?_,I.base.tups,I.base.frzs,I.base.tbls⟩,⟨_,aa,λj y v' t G e3=>?_⟩,λy c e=>?_,I.free,I.freeC,λp hp=>?_,B ⟨oL,ab,I.free⟩ f,by simpa using I.len⟩ ⟨_,f,.inl rfl⟩
  .exact (f.2 b (bE (aR (aK e) I.ok.above))).trans (I.base.keep b o e n O g)
  .obtain⟨sl,t⟩:=I.base.slot b o e n O g;exact⟨sl,(f.2 b (bE (aR (aK e) I.ok.above))).trans t⟩
  .obtain⟨o',t⟩:=I.base.there b o e g;exact⟨o',(f.2 b (bE (aR (aK e) I.ok.above))).trans t⟩
  .by_cases R:j=i
   .subst R;rw[l] at t;cases t;rw[List.getElem?_set_self K] at G;cases G;exact⟨u,r,.inl ⟨L,by simp⟩⟩
   .rw[eA (cO R)] at G;obtain⟨u',r',q⟩:=hl j y v' t G e3;refine⟨u',r',?_⟩;rcases q with⟨k,e⟩ | ⟨k,c,e,z⟩
    .refine .inl ⟨k,?_⟩;have:y≠x:=λe=>R (M4 hN t (e▸l))
     simp[this,e]
    .exact .inr ⟨k,c,e,z.sameBut f (cne y c e)⟩
  .obtain⟨U,z⟩:=I.cell y c e;exact⟨U,z.sameBut f (cne y c e)⟩
  .obtain⟨e,n,ne,nf,d⟩:=I.pin p hp;exact⟨(f.2 p.1 ne).trans e,n,ne,nf,d⟩
 .have P:X.fn x=true:=by
   rcases hf with z | z
   .exact z
   .rw[z] at L;cases L
  obtain⟨c,D⟩:=I.ok.has x (.inl L);obtain⟨U,z⟩:=I.cell x c D;refine wpAny_storeName_cell I.ok.kind L D z (λS V f=>?_);obtain⟨oc,Z,C⟩:=id z;refine h { s with heap:=S } ⟨I.ok,I.os,I.bare,⟨λb o e n O g=>?_,λb o e n O g=>?_,I.base.free,λb o e g=>?_,I.base.tups,I.base.frzs,I.base.tbls⟩,⟨m,hn.sameBut f (cO (cne x c D)),λj y v' t G e3=>?_⟩,λy T e=>?_,I.free,I.freeC,λp hp=>?_,B ⟨oc,Z,I.freeC x c D⟩ f,by simpa using I.len⟩ ⟨c,f,.inr D⟩
  .exact (f.2 b (bE (aR (aK e) (I.ok.cab x c P D)))).trans (I.base.keep b o e n O g)
  .obtain⟨sl,t⟩:=I.base.slot b o e n O g;exact⟨sl,(f.2 b (bE (aR (aK e) (I.ok.cab x c P D)))).trans t⟩
  .obtain⟨o',t⟩:=I.base.there b o e g;exact⟨o',(f.2 b (bE (aR (aK e) (I.ok.cab x c P D)))).trans t⟩
  .by_cases R:j=i
   .subst R;rw[l] at t;cases t;rw[List.getElem?_set_self K] at G;cases G;exact⟨u,r,.inr ⟨.inl L,c,D,V⟩⟩
   .rw[eA (cO R)] at G;obtain⟨u',r',q⟩:=hl j y v' t G e3;refine⟨u',r',?_⟩;rcases q with q | ⟨k,T,e,z'⟩
    .exact .inl q
    .refine .inr ⟨k,T,e,z'.sameBut f ?_⟩;rintro rfl;exact R (M4 hN t (I.ok.inj _ _ _ e D▸l))
  .by_cases W:T=c
   .subst W;exact⟨_,V⟩
   .obtain⟨w2,z2⟩:=I.cell y T e;exact⟨w2,z2.sameBut f W⟩
  .obtain⟨e,n,ne,nf,d⟩:=I.pin p hp;refine⟨(f.2 p.1 ?_).trans e,n,ne,nf,d⟩;intro q;rw[q,Z] at e;have q':oc=p.2:=cA e;exact d U (by rw[<- q'];exact C)
theorem Hy (I:Inv X g J H s) (l:X.N.Nodup) (p:X.N[i]?=some x) (C:uR X.env.scope x) (r:lS v u)
  (h:∀ j,Inv X g (J.set i (some v)) H j->Q () j) (o:X.fn x=true\/X.env.scope.names.lookup x=some .local:=by first | exact .inl rfl | exact .inr rfl | assumption):wpAny M A (storeName X.env x u) Q E s :=
 Nn I l p C r (λj a _=>h j a) o
theorem Inv.call' (I:Inv X g J H s) (C:s'.os=s.os) (u:Un (sL X.stack) ch H o s.heap s'.heap) (l:nM X.prog X.w o s'.heap) (r:AllBare s'.gens)
  (j:∀ b∈ch,(b∈X.ex\/X.s₀.heap.objs.size<=b)/\b≠X.env.locals/\(∀ x c,X.env.cells.lookup x=some c->c≠b)/\∀ p∈X.pn++g,p.1≠b):Inv X g J o s':=by
 obtain⟨i,d,a,h,f⟩:=s';have e:f=s.os:=C;subst e;exact I.call (g':=d) (t':=h) (d':=a) u l r j
end
abbrev XK:=Ac->Ab Ad->Hp->Prop
abbrev St:=Aa (Ab V)
abbrev VK:=V->Hp->Prop
abbrev TE:=St->Hp->VK->Prop
abbrev TT:=St->Hp->(Bool->Hp->Prop)->Prop
abbrev TA:=St->Hp->(Aa V->Hp->Prop)->Prop
structure Ends where
 nx:St->Hp->Prop
 rt:VK
 bk:St->Hp->Prop:=λ_ _=>False
 ct:St->Hp->Prop:=λ_ _=>False
abbrev TS:=Ends->St->Hp->Prop
def EP (X:Cx) (g:Aa (Ad×Obj)) (l:St) (Q:VK) (u:Ac) (j:Ae):Prop:=∃ v a,Inv X g l a j/\lS v u/\Q v a
def TP (X:Cx) (g:Aa (Ad×Obj)) (l:St) (Q:Bool->Hp->Prop) (b:Bool) (j:Ae):Prop:=∃ a,Inv X g l a j/\Q b a
def AP (X:Cx) (g:Aa (Ad×Obj)) (o:St) (Q:Aa V->Hp->Prop) (l:Aa Ac) (j:Ae):Prop:=∃ b a,Inv X g o a j/\lN b l/\Q b a
def SP (X:Cx) (g:Aa (Ad×Obj)) (D:Ends) (f:Flow) (j:Ae):Prop :=
 match f with
 | .next=>∃ a b,Inv X g a b j/\D.nx a b
 | .brk=>∃ a b,Inv X g a b j/\D.bk a b
 | .cont=>∃ a b,Inv X g a b j/\D.ct a b
 | .ret u=>∃ v a b,Inv X g a b j/\lS v u/\D.rt v b
def PE (X:Cx) (e:Expr) (t:TE):Prop :=
 ∀ (a:Aa (Ad×Obj)) (s:Ae) (b:St) (H:Hp) (Q:VK),Inv X a b H s->t b H Q->wpAny (model X.prog X.w) X.A (eval e X.env) (EP X a b Q) X.xe s
def PT (X:Cx) (e:Expr) (t:TT):Prop :=
 ∀ (a:Aa (Ad×Obj)) (s:Ae) (b:St) (H:Hp) (Q:Bool->Hp->Prop),Inv X a b H s->t b H Q->wpAny (model X.prog X.w) X.A (isTrue e X.env (eval e X.env)) (TP X a b Q) X.xe s
def PW (X:Cx) (e:Expr) (t:TT):Prop :=
 ∀ (whole:Sem Ac) (a:Aa (Ad×Obj)) (s:Ae) (b:St) (H:Hp) (Q:Bool->Hp->Prop),Inv X a b H s->t b H Q->wpAny (model X.prog X.w) X.A (isTrue e X.env whole) (TP X a b Q) X.xe s
theorem PW.pt {X:Cx}(h:PW X e t):PT X e t:=h _
def PA (X:Cx) (g:Aa Expr) (t:TA):Prop :=
 ∀ (pos:Pos) (a:Aa (Ad×Obj)) (s:Ae) (b:St) (H:Hp) (Q:Aa V->Hp->Prop),Inv X a b H s->t b H Q->wpAny (model X.prog X.w) X.A (spliced (backTo pos (starEach g X.env))) (AP X a b Q) X.xe s
def PS (X:Cx) (st:Stmt) (t:TS):Prop :=
 ∀ (a:Aa (Ad×Obj)) (s:Ae) (b:St) (H:Hp) (D:Ends),Inv X a b H s->t D b H->wpAny (model X.prog X.w) X.A (exec st X.env) (SP X a D) X.xe s
def oB (X:Cx) (st:Aa Stmt) (t:TS):Prop :=
 ∀ (a:Aa (Ad×Obj)) (s:Ae) (b:St) (H:Hp) (D:Ends),Inv X a b H s->t D b H->wpAny (model X.prog X.w) X.A (execs st X.env) (SP X a D) X.xe s
theorem lM (h:wpAny M A t Q E s) (j:∀ a s,Q a s->g a s):wpAny M A t g E s:=dB h j λ_ _ x=>x
section
variable {X:Cx}
def pR (i:Nat):TE:=λa H Q=>∃ v,a[i]?=some (some v)/\Q v H
def tC (v:V):TE:=λ_ H Q=>Q v H
theorem HE (j:X.N[i]?=some x) (o:Fz X.env.scope x) (hd:(x == ("__debug__" : Af))=false:=by decide) (g:(x == ("__classdict__" : Af))=false:=by decide):PE X (.Name x pos) (pR i):=by
 intro d s t H Q I h;obtain⟨v,e,h⟩:=h;obtain⟨m,q,k⟩:=I.loc;obtain⟨u,r,l⟩:=k i x v j e o;have fin:EP X d t Q u s:=⟨v,H,I,r,h⟩;rcases l with⟨b,n⟩ | ⟨b,c,f,a⟩
 .exact wpAny_Name (wpAny_loadName_local I.ok.kind b q n fin) hd
 .rcases b with b | b
  .exact wpAny_Name (wpAny_loadName_cell I.ok.kind b f a fin) hd
  .exact wpAny_Name (wpAny_loadName_free I.ok.kind b f a fin g) hd
theorem mL {i j pos}:PE X (.Constant (.int i) j pos) (tC (.int i)):=λ_ _ _ H _ I h=>wpAny_Constant_int ⟨.int i,H,I.tok _,⟨_,rfl⟩,h⟩
theorem DQ {b j pos}:PE X (.Constant (.bool b) j pos) (tC (.b b)):=λ_ _ _ H _ I h=>Constant_bool ⟨.b b,H,I,rfl,h⟩
theorem tS {x j pos}:PE X (.Constant (.str x) j pos) (tC (.str x)):=λ_ _ _ H _ I h=>Calls.Constant_str ⟨.str x,H,I.tok _,⟨_,rfl⟩,h⟩
def Gl (X:Cx) (x:Af):Prop:=X.env.kindOf x=some .globalImplicit
theorem K9 (I:Inv X g o H s) (j:Gl X x) (l:X.mg x=some u) (h:Q u s)
  (hd:(x == ("__debug__" : Af))=false:=by decide):wpAny (model X.prog X.w) X.A (eval (.Name x pos) X.env) Q E s :=
 Calls.Name_function_global I.ok.kind j (Calls.loadGlobal_global (by rw[I.ok.glob];exact I.mod.glob.keeps I.bk) l h) hd
theorem sR (I:Inv X g r H s) (j:Gl X x) (l:X.mg x=none) (p:bootBuiltins x=some u) (h:Q u s)
  (o:x ≠ "__name__" := by decide) (hd:(x == ("__debug__" : Af))=false:=by decide):wpAny (model X.prog X.w) X.A (eval (.Name x pos) X.env) Q E s:=by
 obtain⟨c,a,b⟩:=I.mod.blt;exact Calls.Name_function_global I.ok.kind j (Calls.loadGlobal_builtin (by rw[I.ok.glob];exact I.mod.glob.keeps I.bk) l (by rw[I.ok.blt];exact a.keeps I.bk) ((b x o).trans p) h) hd
theorem Yl (g:Gl X x) (j:X.mg x=none) (o:bootBuiltins x=some u) (r:lS v u) (l:x ≠ "__name__" := by decide) (hd:(x == ("__debug__" : Af))=false:=by decide):PE X (.Name x pos) (tC v) :=
 λ_ _ _ H _ I h=>sR I g j o ⟨v,H,I,r,h⟩ l hd
variable {rest:Aa Expr}
def DP (t u:TT):TT:=λb H Q=>t b H λc a=>if c=true then u b a Q else Q false a
def DN (t u:TT):TT:=λb H Q=>t b H λc a=>if c=true then Q true a else u b a Q
def T7 (t:TT):TT:=λb H Q=>t b H λc a=>Q (!c) a
theorem Oz (g:PT X a j):PW X (.BoolOp .And [a] pos) j:=by
 intro i b s d H Q I h;refine isTrue_and (lM (g b s d H Q I h) λc f e=>?_);cases c with
 | true=>exact isTrue_and_nil e
 | false=>exact e
theorem Zv (g:PT X a j):PW X (.BoolOp .Or [a] pos) j:=by
 intro i b s d H Q I h;refine isTrue_or (lM (g b s d H Q I h) λc f e=>?_);cases c with
 | false=>exact isTrue_or_nil e
 | true=>exact e
theorem Qv (j:PT X a o) (l:PW X (.BoolOp .And (b::rest) pos) g):PW X (.BoolOp .And (a::b::rest) pos) (DP o g):=by
 intro q d s m H Q I h;refine isTrue_and (lM (j d s m H _ I h) λc n e=>?_);obtain⟨f,i,k⟩:=e;cases c with
 | true=>exact l q d n m f Q i k
 | false=>exact⟨f,i,k⟩
theorem V1 (j:PT X a o) (l:PW X (.BoolOp .Or (b::rest) pos) g):PW X (.BoolOp .Or (a::b::rest) pos) (DN o g):=by
 intro q d s m H Q I h;refine isTrue_or (lM (j d s m H _ I h) λc n e=>?_);obtain⟨f,i,k⟩:=e;cases c with
 | true=>exact⟨f,i,k⟩
 | false=>exact l q d n m f Q i k
theorem Sr (g:PT X a j):PT X (.UnaryOp .Not a pos) (T7 j):=by
 intro b s e H Q I h;exact isTrue_not (g b s e H (λc d=>Q (!c) d) I h)
def Te (g j:TE):TE:=λd H Q=>g d H λx a=>∃ c,x = .b c/\if c=true then j d a Q else Q (.b false) a
theorem Vp {op}(h:PE X a t):PE X (.BoolOp op [a] pos) t:=λb s c H Q I hw=>BoolOp_one (h b s c H Q I hw)
theorem Xe (g:PE X a l) (j:PE X (.BoolOp .And (b::rest) pos) o):PE X (.BoolOp .And (a::b::rest) pos) (Te l o):=by
 intro d s m H Q I h;refine BoolOp_and (lM (g d s m H _ I h) λv q f=>?_);obtain⟨x,i,k,n,e⟩:=f;obtain⟨c,rfl,e⟩:=e;cases n;refine iA ?_;cases c with
 | true=>exact j d q m i Q k e
 | false=>exact⟨.b false,i,k,rfl,e⟩
end
def gV (K:lJ) (H:Hp) (a:Ad) (g:Aa V):Prop :=
 Rd H a (.l g) \/
  ∃ (o:Obj) (b:Array Ac) (n:Nat),K.lookup a=some o/\o.cls = .type "list" /\ o.dict=none/\o.data = .seq b n/\b.size<=sizeLine/\lN g b.toList
def mH (K:lJ) (H:Hp) (a:Ad) (g:Aa V):Prop :=
 Rd H a (.t g) \/
  ∃ (o:Obj) (b:Array Ac) (n:Nat),K.lookup a=some o/\o.cls = .type "tuple" /\ o.data = .seq b n/\b.size<=sizeLine/\lN g b.toList
noncomputable def Y2:Ac->Ab V
 | .none=>some .e
 | .bool b=>some (.b b)
 | .int i _=>some (.int i)
 | .str x _=>some (.str x)
 | .bytes b _=>some (.byt b)
 | .float b _=>some (.flt b)
 | .ref a=>some (.ref a)
 | .type n=>some (.ty n)
 | _=>none
theorem lS.abs (r:lS x u):Y2 u=some x:=by
 cases x with
 | e=>cases r;rfl
 | b _=>cases r;rfl
 | int _=>obtain⟨t,rfl⟩:=r;rfl
 | str _=>obtain⟨t,rfl⟩:=r;rfl
 | byt _=>obtain⟨t,rfl⟩:=r;rfl
 | flt _=>obtain⟨t,rfl⟩:=r;rfl
 | ref _=>cases r;rfl
 | ty _=>cases r;rfl
theorem lS.inj (r:lS x u) (q:lS y u):x=y:=cA (r.abs.symm.trans q.abs)
theorem lN.inj:∀ {j l:Aa V}{g:Aa Ac},lN j g->lN l g->j=l
 | _,_,_,.nil,.nil=>rfl
 | _,_,_,.cons r t,.cons a b=>by rw[r.inj a,lN.inj t b]
section
variable {X:Cx}
theorem gV.of {K:lJ}(h:H a=some (.l g)):gV K H a g:=.inl (.inl h)
theorem mH.of {K:lJ}(h:H a=some (.t g)):mH K H a g:=.inl (.inl h)
theorem Inv.list (I:Inv X j p H s) (h:gV X.K H a l):∃ g:Aa Ac,lN l g/\PlainL s.heap a g.toArray/\l.length<=sizeLine:=by
 rcases h with h | ⟨o,g,n,c,b,hd,d,f,r⟩
 .obtain⟨z,g,n,r,e⟩:=h.ok I.hok;exact⟨g,r,⟨_,n,e,rfl,rfl,rfl⟩,z⟩
 .refine⟨g.toList,r,⟨o,n,I.kIn a o c,b,hd,by simpa using d⟩,?_⟩;have e:=r.length;simp only[gA] at e;omega
theorem Inv.tuple (I:Inv X j C H s) (h:mH X.K H a l):∃ g:Aa Ac,lN l g/\IsTup s.heap a g.toArray/\l.length<=sizeLine:=by
 rcases h with h | ⟨o,g,n,c,b,d,f,r⟩
 .obtain⟨z,g,r,p,_⟩:=h.ok I.hok;exact⟨g,r,p,z⟩
 .refine⟨g.toList,r,⟨o,I.kIn a o c,b,n,by simpa using d⟩,?_⟩;have e:=r.length;simp only[gA] at e;omega
theorem Inv.list_inj (I:Inv X g C H s) (h:gV X.K H a l) (j:gV X.K H a p):l=p:=by
 obtain⟨c,r,⟨o,n,e,_,_,d⟩,_⟩:=I.list h;obtain⟨b,k,⟨q,m,i,_,_,f⟩,_⟩:=I.list j;rw[e] at i;cases i;rw[d] at f;injection f with d1 _;have:c=b:=by simpa using cN Array.toList d1
 subst this;exact r.inj k
theorem Inv.tuple_inj (I:Inv X g C H s) (h:mH X.K H a l) (j:mH X.K H a p):l=p:=by
 obtain⟨c,r,⟨o,e,_,n,d⟩,_⟩:=I.tuple h;obtain⟨b,k,⟨q,i,_,m,f⟩,_⟩:=I.tuple j;rw[e] at i;cases i;rw[d] at f;injection f with d1 _;have:c=b:=by simpa using cN Array.toList d1
 subst this;exact r.inj k
end
noncomputable abbrev Cx.wish (X:Cx) (E:Ac->Ae->Prop):Cx:={ X with xe:=E }
abbrev Cx.nox (X:Cx):Cx:=X.wish λ_ _=>False
theorem Cx.Ok.wish {X:Cx}(ok:X.Ok) (E:Ac->Ae->Prop):(X.wish E).Ok :=
 ⟨ok.mod,ok.kind,ok.glob,ok.blt,ok.above,ok.inj,ok.has,ok.cab,ok.hd,ok.frames,ok.stk,ok.exf,ok.bs,ok.bsz,ok.noex,ok.exfs,ok.funs,ok.frf⟩
theorem Cx.Ok.unwish {X:Cx}(ok:(X.wish E).Ok):X.Ok :=
 ⟨ok.mod,ok.kind,ok.glob,ok.blt,ok.above,ok.inj,ok.has,ok.cab,ok.hd,ok.frames,ok.stk,ok.exf,ok.bs,ok.bsz,ok.noex,ok.exfs,ok.funs,ok.frf⟩
section
variable {X:Cx}
theorem Inv.wish (I:Inv X g j H s) (E:Ac->Ae->Prop):Inv (X.wish E) g j H s:=⟨I.ok.wish E,I.os,I.bare,I.base,I.loc,I.cell,I.free,I.freeC,I.pin,I.hok,I.len⟩
theorem Inv.unwish (I:Inv (X.wish E) g j H s):Inv X g j H s:=⟨I.ok.unwish,I.os,I.bare,I.base,I.loc,I.cell,I.free,I.freeC,I.pin,I.hok,I.len⟩
theorem SP.unwish {D:Ends}(h:SP (X.wish E) g D f j):SP X g D f j:=by
 cases f with
 | next=>obtain⟨a,b,I,q⟩:=h;exact⟨a,b,I.unwish,q⟩
 | brk=>obtain⟨a,b,I,q⟩:=h;exact⟨a,b,I.unwish,q⟩
 | cont=>obtain⟨a,b,I,q⟩:=h;exact⟨a,b,I.unwish,q⟩
 | ret u=>obtain⟨v,a,b,I,r,q⟩:=h;exact⟨v,a,b,I.unwish,r,q⟩
theorem oB.nox {st:Aa Stmt}(h:oB X.nox st t):oB X st t:=λa s b H D I hw =>
 dB (h a s b H D (I.wish _) hw) (λ_ _ q=>q.unwish) λ_ _ z=>False.elim z
end
section
variable {X:Cx}{st:Stmt}{rest:Aa Stmt}
def DK:TS:=λD a H=>D.nx a H
def Ht (t u:TS):TS:=λD a H=>t { D with nx:=u D } a H
theorem Az:oB X [] DK:=λ_ _ a H _ I h=>jV ⟨a,H,I,h⟩
theorem oC (g:PS X st t) (j:oB X rest u):oB X (st::rest) (Ht t u):=by
 intro a s i H D I h;refine wpAny_execs_cons (lM (g a s i H { D with nx:=u D } I h) λf e q=>?_);cases f with
 | next =>
  obtain⟨b,c,d,q⟩:=q;exact j a e b c D d q
 | ret v=>exact q
 | brk=>exact q
 | cont=>exact q
theorem qZ (g:PS X st t):oB X [st] t:=by
 intro a s b H D I h;refine wpAny_execs_cons (lM (g a s b H D I h) λf c q=>?_);cases f with
 | next=>exact jV q
 | ret v=>exact q
 | brk=>exact q
 | cont=>exact q
theorem Inv.quiet (I:Inv X g j H s):interactive X.env=false:=by simp[interactive,I.ok.kind]
def Ri (g:TE):TS:=λD a H=>g a H λ_ b=>D.nx a b
theorem Ho (g:PE X e l) (j:swapsWith e none pos.line X.env=pure false:=by rfl):PS X (.Expr e pos) (Ri l):=by
 intro a s b H D I h;exact wpAny_Expr_any (lM (g a s b H _ I h) λv k ⟨x,c,d,i,f⟩=>⟨b,c,d,f⟩) I.quiet j
def Mv (g:TE):TS:=λD a H=>g a H D.rt
theorem uX (g:PE X e j):PS X (.Return (some e) pos) (Mv j):=by
 intro a s b H D I h;exact wpAny_Return_some (lM (g a s b H _ I h) λv k ⟨x,c,d,i,f⟩=>⟨x,b,c,d,i,f⟩)
def Z8 (c:TT) (t u:TS):TS:=λD a H=>c a H λb d=>if b=true then t D a d else u D a d
theorem yJ (l:PT X c o) (g:oB X a t) (j:oB X b u):PS X (.If c a b pos) (Z8 o t u):=by
 intro e s i H D I h;refine wpAny_If (lM (l e s i H _ I h) λd q f=>?_);obtain⟨k,m,n⟩:=f;cases d with
 | true=>exact g e q i k D m n
 | false=>exact j e q i k D m n
end
abbrev TG:=V->St->Hp->(St->Hp->Prop)->Prop
abbrev yQ:=Aa V->St->Hp->(St->Hp->Prop)->Prop
def PG (X:Cx) (target:Expr) (t:TG):Prop :=
 ∀ (a:Aa (Ad×Obj)) (s:Ae) (d:St) (H:Hp) (v:V) (u:Ac) (Q:St->Hp->Prop),Inv X a d H s->lS v u->t v d H Q ->
  wpAny (model X.prog X.w) X.A (assign target X.env u) (λ_ e=>∃ b c,Inv X a b c e/\Q b c) X.xe s
def wC (X:Cx) (g:Aa Expr) (t:yQ):Prop :=
 ∀ (a:Aa (Ad×Obj)) (s:Ae) (f:St) (H:Hp) (e:Aa V) (d:Aa Ac) (Q:St->Hp->Prop),Inv X a f H s->lN e d->t e f H Q ->
  wpAny (model X.prog X.w) X.A (assignInOrder ((assignEach g X.env).map (·.2)) d) (λ_ h=>∃ b c,Inv X a b c h/\Q b c) X.xe s
abbrev Gi:=V->V->V->Hp->(Hp->Prop)->Prop
def Gb (X:Cx) (t:Gi):Prop :=
 ∀ (a:Aa (Ad×Obj)) (s:Ae) (e:St) (H:Hp) (o i v:V) (d c u:Ac) (Q:Hp->Prop),Inv X a e H s->lS o d->lS i c->lS v u->t o i v H Q ->
  wpAny (model X.prog X.w) X.A (setItem d c u) (λ_ f=>∃ b,Inv X a e b f/\Q b) X.xe s
abbrev Ip:=V->V->Hp->VK->Prop
def E9 (X:Cx) (op:Operator) (t:Ip):Prop :=
 ∀ (a:Aa (Ad×Obj)) (s:Ae) (b:St) (H:Hp) (x y:V) (v u:Ac) (Q:VK),Inv X a b H s->lS x v->lS y u->t x y H Q ->
  wpAny (model X.prog X.w) X.A (inplaceOp op v u) (EP X a b Q) X.xe s
section
variable {X:Cx}
def xD (i:Nat):TG:=λv a H Q=>Q (a.set i (some v)) H
theorem wK (g:X.N.Nodup) (l:X.N[i]?=some x) (o:uR X.env.scope x) (j:X.fn x=true\/X.env.scope.names.lookup x=some .local:=by first | exact .inl rfl | exact .inr rfl | assumption):PG X (.Name x pos) (xD i):=by
 intro a s d H v u Q I r h;exact wpAny_assign_Name (Hy I g l o r (λc b=>⟨_,H,b,h⟩) j)
def Zy:yQ:=λa b H Q=>a=[]/\Q b H
def Y0 (t:TG) (u:yQ):yQ:=λc d H Q=>∃ v r,c=v::r/\t v d H λa b=>u r a b Q
theorem W1:wC X [] Zy:=by
 intro a s b H d c Q I r h;obtain⟨e,h⟩:=h;subst e;cases r;exact assignInOrder_nil ⟨b,H,I,h⟩
theorem Zw (j:PG X e t) (l:wC X g u)
  (o:(assignEach (e::g) X.env).map (·.2)=assign e X.env::(assignEach g X.env).map (·.2):=by rfl):wC X (e::g) (Y0 t u):=by
 intro a s q H y w Q I r h;obtain⟨v,x,i,h⟩:=h;subst i;cases r with
 | cons r m =>
  rw[o];refine assignInOrder_cons (lM (j a s q H _ _ _ I r h) λ_ n b=>?_);obtain⟨c,d,f,k⟩:=b;exact l a n c d _ _ Q f m k
def Xv (K:lJ) (n:Nat) (t:yQ):TG:=λv c H Q=>∃ a b,v = .ref a/\mH K H a b/\b.length=n/\t b c H Q
theorem Zm (l:X.calm=true) (h:wC X g t)
  (p:(assignEach g X.env).length=n:=by rfl) (j:(assignEach g X.env).findIdx? (·.1)=none:=by rfl):PG X (.Tuple g k pos) (Xv X.K n t):=by
 intro c s f H v u Q I r hw;obtain⟨a,B,m,x,w,hw⟩:=hw;subst m;cases r;obtain⟨A,d,y,D⟩:=I.tuple x;refine assign_Tuple_tuple (I.ok.hd l) y (by simp[p,<- w,d.length]) j λq z=>?_
 have i:Inv X c f H { s with heap:=q }:=I.kept (t':=s.toks) λb o e=>z b o (bE (aK e)) e
 exact h c _ f H B _ Q i (by simpa using d) hw
def Zd (j g:TE) (t:Gi):TG:=λv a H Q=>j a H λo b=>g a b λi c=>t o i v c λd=>Q a d
theorem Fh (C:PE X o U) (p:PE X i T) (J:Gb X t)
  (l:∀ v,assign (.Subscript o i pos) X.env v=(do
   let g <- holding [v] (eval o X.env);let j <- holding [v,g] (eval i X.env)
   standAt pos
   holding [v,g,j] (setItem g j v)
   release [v,g,j] []):=by intro _;rfl):PG X (.Subscript o i pos) (Zd U T t):=by
 intro b s c H v u Q I r h;rw[l];refine aA (bV (lM (C b s c H _ I h) λg D a=>?_));obtain⟨x,d,k,A,q⟩:=a;refine aA (bV (lM (p b D c d _ k q) λj E a=>?_));obtain⟨y,e,m,B,w⟩:=a;refine aA (kU (aA (bV (lM (J b E c e x y v g j u _ m A B r w) λ_ F a=>?_))));obtain⟨f,n,z⟩:=a;exact wpAny_release ⟨c,f,n,z⟩
def Hf (j:TE) (g:TG):TS:=λD a H=>j a H λx b=>g x a b D.nx
theorem Bf (o:PE X e C) (p:PG X j g) (r:swapsWithSole [j] e pos.line X.env=pure false:=by rfl) (hw:swappedStores [j] e X.env=pure none:=by rfl)
  (l:(assignEach [j] X.env).map (·.2)=[assign j X.env]:=by rfl):PS X (.Assign [j] e pos) (Hf C g):=by
 intro a s c H D I h;refine wpAny_Assign_stores (lM (o a s c H _ I h) λv m b=>?_) r hw;obtain⟨x,d,f,k,i⟩:=b;rw[l];exact lM (p a m c d x v _ f k i) λ_ n q=>q
theorem nU {i:Nat}{x:Af}{e:Expr}{j:TE}{g:Pos}(l:X.N.Nodup) (r:X.N[i]?=some x) (J:uR X.env.scope x) (o:PE X e j) (C:swapsWith e (some (.Name x g)) pos.line X.env=pure false:=by rfl) (p:X.fn x=true\/X.env.scope.names.lookup x=some .local:=by first | exact .inl rfl | exact .inr rfl | assumption) :
  PS X (.Assign [.Name x g] e pos) (Hf j (xD i)):=by
 intro a s n H D I h;refine wpAny_Assign_Name (lM (o a s n H _ I h) λv q b=>?_) C;obtain⟨y,c,d,m,k⟩:=b;exact Hy d l r J m (λt f=>⟨_,c,f,k⟩) p
def FZ (i:Nat) (g:TE) (j:Ip):TS:=λD a H=>∃ x,a[i]?=some (some x)/\g a H λy b=>j x y b λz c=>D.nx (a.set i (some z)) c
theorem GA (p:X.N.Nodup) (j:X.N[i]?=some x) (g:uR X.env.scope x) (C:PE X e U) (T:E9 X op ti) (J:X.fn x=true\/X.env.scope.names.lookup x=some .local:=by first | exact .inl rfl | exact .inr rfl | assumption) :
  PS X (.AugAssign (.Name x o) op e pos) (FZ i U ti):=by
 intro a s B H D I h;obtain⟨v,M,h⟩:=h;obtain⟨m,R,P⟩:=I.loc;have t:Fz X.env.scope x:=by rcases g with k | k;exact .inl k;exact .inr (.inl k)
 obtain⟨u,r,l⟩:=P i x v j M t;refine wpAny_AugAssign_Name ?_;have go:wpAny (model X.prog X.w) X.A (eval e X.env) (λw n=>wpAny (model X.prog X.w) X.A (inplaceOp op u w) (λr q=>wpAny (model X.prog X.w) X.A (storeName X.env x r) (λ_=>SP X a D .next) X.xe q) X.xe n) X.xe s:=by
  refine lM (C a s B H _ I h) λw Z f=>?_
  obtain⟨y,E,G,W,S⟩:=f;refine lM (T a Z B E v y u w _ G r W S) λz s2 f=>?_
  obtain⟨zv,F,K,Y,V⟩:=f;exact Hy K p j g Y (λs3 L=>⟨_,F,L,V⟩) J
 rcases l with⟨b,Q⟩ | ⟨b,c,O,d⟩
 .exact wpAny_loadName_local I.ok.kind b R Q go
 .rcases b with b | b
  .exact wpAny_loadName_cell I.ok.kind b O d go
  .rcases g with k | k
   .have:X.env.scope.names.lookup x=some .free:=b;rw[k] at this;cases this
   .have:X.env.scope.names.lookup x=some .free:=b;rw[k] at this;cases this
def Hx (f:Int->Int->Int):Ip:=λx y H Q=>∃ i j,x = .int i/\y = .int j/\Q (.int (f i j)) H
theorem K1:E9 X .Add (Hx λi j=>i+j):=by
 intro a s k H x y v u Q I d e h;obtain⟨i,j,b,c,q⟩:=h;subst b;subst c;obtain⟨t,rfl⟩:=d;obtain⟨f,rfl⟩:=e;exact iadd_int ⟨.int _,H,I.tok _,⟨_,rfl⟩,q⟩
theorem GH:E9 X .Sub (Hx λi j=>i-j):=by
 intro a s k H x y v u Q I d e h;obtain⟨i,j,b,c,q⟩:=h;subst b;subst c;obtain⟨t,rfl⟩:=d;obtain⟨f,rfl⟩:=e;exact isub_int ⟨.int _,H,I.tok _,⟨_,rfl⟩,q⟩
end
section
variable {X:Cx}
def FT (c:TT) (g:TS):TS:=λD a H=>∃ W:Nat->St->Hp->Prop,(∃ m,W m a H)/\∀ m a H,W m a H ->
 c a H λb f=>if b=true then ∃ N:St->Hp->Prop,(∀ d e,N d e->∃ h,h<m/\W h d e)/\g { D with nx:=N,ct:=N,bk:=D.nx } a f else D.nx a f
theorem AQ (g:PassesOwn (model X.prog X.w) X.A X.env X.xe) (l:PT X c p) (j:oB X body o):PS X (.While c body [] pos) (FT p o):=by
 intro a s Z H D I h;obtain⟨W,⟨P,V⟩,k⟩:=h;refine wpAny_While (codeAny_whileLoop (λn Q=>∃ m F,Inv X a m F Q/\W n m F) ?_ P ⟨Z,H,I,V⟩);rintro n R ⟨e,G,O,Y⟩;refine fS g (lM (l a R e G _ O (k n e G Y)) λb S y=>?_);obtain⟨K,L,q⟩:=y;cases b with
 | true =>
  obtain⟨N,M,q⟩:=q;rw[bA rfl];refine fS g (lM (j a S e K _ L q) λf r t=>?_);cases f with
  | next =>
   obtain⟨d,i,u,B⟩:=t;obtain⟨z,x,E⟩:=M d i B;exact⟨z,x,d,i,u,E⟩
  | cont =>
   obtain⟨d,i,u,B⟩:=t;obtain⟨z,x,E⟩:=M d i B;exact⟨z,x,d,i,u,E⟩
  | brk=>exact t
  | ret v=>exact t
 | false =>
  rw[bF bD];exact jV ⟨e,K,L,q⟩
end
structure It where
 go:Nat->Hp->Prop
 yld:Nat->Hp->V->Hp->Prop
 stop:Nat->Hp->Prop
def rV (X:Cx) (g:Aa (Ad×Obj)) (H:Hp) (b:Ad):Prop :=
 H b=none/\b≠X.env.locals/\b∉X.fs/\(b∈X.ex\/X.s₀.heap.objs.size<=b)/\(∀ x c,X.env.cells.lookup x=some c->c≠b)/\∀ p∈X.pn++g,p.1≠b
theorem Inv.fpOk {X:Cx}(I:Inv X j r H s) (g:s.heap.objs.size<=b) (o:l b=none):rV X j l b:=by
 refine⟨o,gI (aR I.lt g),I.nofs g,.inr (bX I.sz g),λx c e z=>?_,λp a z=>?_⟩
 .obtain⟨v,q⟩:=I.cell x c e;exact absurd (aR q.lt (by rw[z];exact g)) (dX _)
 .exact absurd (aR (aK (I.pin p a).1) (by rw[z];exact g)) (dX _)
structure Turn (P:Program) (w:World) (K:lJ) (tg:Expr) (J:It) (fp:List Addr) (it:Addr) (tn:Nat->Heap->Prop):Prop where
 mem:it∈fp
 obj:∀ i h,tn i h->∀ b∈fp,∃ o,h.get? b=some o/\∀ v,o.data ≠ .cell v
 keep:∀ i h h',tn i h->(∀ b∈fp,∀ o,h.get? b=some o->h'.get? b=some o)->tn i h'
 item:∀ (X:Cx),X.prog=P->X.w=w->X.K=K->X.calm=true->∀ (i:Nat) (pins:List (Addr×Obj)) (s:Shared) (σ:St) (H:Hp) (E:Value->Shared->Prop),Inv X pins σ H s->(∀ b∈fp,rV X pins H b)->tn i s.heap->J.go i H ->
  wpAny (model P w) X.A (pyNext (.ref it)) (λr s1=>∃ u,r=some u /\ wpAny (model P w) X.A (letOwnedTupleGo tg (.ref it) u) (λ_ s2=>∃ x H',Inv X pins σ H' s2/\lS x u/\J.yld i H x H'/\tn (i+1) s2.heap/\∀ b∈fp,H' b=none) E s1) E s
 done:∀ (X:Cx),X.prog=P->X.w=w->X.K=K->X.calm=true->∀ (i:Nat) (pins:List (Addr×Obj)) (s:Shared) (σ:St) (H:Hp) (E:Value->Shared->Prop),Inv X pins σ H s->(∀ b∈fp,rV X pins H b)->tn i s.heap->J.stop i H ->
  wpAny (model P w) X.A (pyNext (.ref it)) (λr s1=>r=none/\Inv X pins σ H s1) E s
 self:∀ (A:Around) (i:Nat) (s:Shared) (Q:Value->Shared->Prop) (E:Value->Shared->Prop),tn i s.heap->Q (.ref it) s->wpAny (model P w) A (pyIter (.ref it)) Q E s
abbrev TI:=St->Hp->(It->Hp->Prop)->Prop
def Lr (X:Cx) (g:Aa (Ad×Obj)) (p:St) (o:Expr) (R:It->Hp->Prop) (j:Ac) (l:Ae):Prop :=
 ∃ (d:Ad) (c:Aa Ad) (e:Nat->Ag->Prop) (J:It) (a:Hp),j = .ref d/\Inv X g p a l/\Turn X.prog X.w X.K o J c d e/\e 0 l.heap/\(∀ b∈c,rV X g a b)/\R J a
def PI (X:Cx) (g iter:Expr) (j:TI):Prop :=
 ∀ (a:Aa (Ad×Obj)) (s:Ae) (b:St) (H:Hp) (R:It->Hp->Prop),Inv X a b H s->j b H R ->
  wpAny (model X.prog X.w) X.A (eval iter X.env) (λv c=>wpAny (model X.prog X.w) X.A (pyIter v) (Lr X a b g R) X.xe c) X.xe s
theorem A6 (p:s.heap.get? r=some o) (j:o.cls = .type n) (hd:o.data = .fields I)
  (l:["enumerate","zip","dict_itemiterator","dict_reverseitemiterator","odict_iterator","itertools.zip_longest","itertools.pairwise"].contains n=false) (g:Q () s):wpAny M A (letOwnedTupleGo C (.ref r) u) Q E s:=by
 unfold letOwnedTupleGo;cases C<;>first
  | exact aE g
  | (cases u<;>first
    | exact aE g
    | (refine aA (wpAny_load p ?_);rw[j,hd];show wpAny M A (if (["enumerate","zip","dict_itemiterator","dict_reverseitemiterator","odict_iterator","itertools.zip_longest","itertools.pairwise"].contains n&&I[0]? == some (rawInt _))=true then _ else _) Q E s;rw[bF (by intro h;rw[l,Bool.false_and] at h;cases h)];exact aE g))
def zJ (K:lJ) (a:Ad):It :=
 ⟨λi H=>∃ b x,gV K H a b/\b[i]?=some x,λi H x c=>c=H/\∀ b,gV K H a b->b[i]?=some x,λi H=>∃ b,gV K H a b/\b.length<=i⟩
def F8 (K:lJ) (a:Ad):It :=
 ⟨λi H=>∃ b x,mH K H a b/\b[i]?=some x,λi H x c=>c=H/\∀ b,mH K H a b->b[i]?=some x,λi H=>∃ b,mH K H a b/\b.length<=i⟩
def rQ (lo:Int) (n:Nat):It:=⟨λi _=>i<n,λi H x a=>a=H/\x = .int (lo+i),λi _=>n<=i⟩
theorem Ko {P:Ah}{K:lJ}(a g:Ad):Turn P w K T (zJ K a) [g] g (λi h=>h.IsListIter g a i) where
 mem:=by simp
 obj:=λi h st b m=>by
  have e:b=g:=by simpa using m
  subst e;obtain⟨o,e,c,d⟩:=st;exact⟨o,e,λv z=>by rw[d] at z;cases z⟩
 keep:=λi h q st k=>st.at λo e=>k g (by simp) o e
 item:=by
  intro X L hw G R i f s S H E I t st M;subst L hw G;obtain⟨C,x,y,N⟩:=M;obtain⟨O,Q,p,j⟩:=I.list y;obtain⟨u,Y,l⟩:=Q.get N;obtain⟨A,f1,f2,B,D,F⟩:=t g (by simp);refine wpAny_pyNext_list_item st p.isList (x:=u) (by simpa using Y) λq n r=>?_
  have V:Inv X f S H { s with heap:=q }:=I.turned (t':=s.toks) (λb o m e=>(r.2 b m).trans e) A f1 B D F;obtain⟨o,e,c,d⟩:=id n;exact⟨u,rfl,A6 (s:={ s with heap:=q }) e c d (by decide) ⟨x,H,V,l,⟨rfl,λU Z=>by rw[I.list_inj Z y];exact N⟩,n,λb m=>(t b m).1⟩⟩
 done:=by
  intro X L hw G R i f s S H E I t st M;subst L hw G;obtain⟨C,y,N⟩:=M;obtain⟨O,Q,p,j⟩:=I.list y;obtain⟨A,f1,f2,B,D,F⟩:=t g (by simp);have J:=Q.length;exact wpAny_pyNext_list_end (I.ok.hd R) st p.isList (by simp;omega) λq W=>⟨rfl,I.turned (t':=s.toks) (λb o m e=>W b o m e) A f1 B D F⟩
 self:=λ_ _ _ _ _ st h=>wpAny_pyIter_listiter st h
theorem Y4 {P:Ah}{K:lJ}(a g:Ad):Turn P w K T (F8 K a) [g] g (λi h=>h.IsTupleIter g a i) where
 mem:=by simp
 obj:=λi h st b m=>by
  have e:b=g:=by simpa using m
  subst e;obtain⟨o,e,c,d⟩:=st;exact⟨o,e,λv z=>by rw[d] at z;cases z⟩
 keep:=λi h t st k=>st.at λo e=>k g (by simp) o e
 item:=by
  intro X M hw L R i f s S H E I y st N;subst M hw L;obtain⟨C,x,A,O⟩:=N;obtain⟨n,Q,p,j⟩:=I.tuple A;obtain⟨u,Y,l⟩:=Q.get O;obtain⟨B,f1,f2,D,F,G⟩:=y g (by simp);refine wpAny_pyNext_tuple_item st (show s.heap.IsTuple a n.toArray from p) (x:=u) (by simpa using Y) λt q r=>?_
  have V:Inv X f S H { s with heap:=t }:=I.turned (t':=s.toks) (λb o m e=>(r.2 b m).trans e) B f1 D F G;obtain⟨o,e,c,d⟩:=id q;exact⟨u,rfl,A6 (s:={ s with heap:=t }) e c d (by decide) ⟨x,H,V,l,⟨rfl,λU Z=>by rw[I.tuple_inj Z A];exact O⟩,q,λb m=>(y b m).1⟩⟩
 done:=by
  intro X M hw L R i f s S H E I y st N;subst M hw L;obtain⟨C,A,O⟩:=N;obtain⟨n,Q,p,j⟩:=I.tuple A;obtain⟨B,f1,f2,D,F,G⟩:=y g (by simp);have J:=Q.length;exact wpAny_pyNext_tuple_end (I.ok.hd R) st (show s.heap.IsTuple a n.toArray from p) (by simp;omega) λt W=>⟨rfl,I.turned (t':=s.toks) (λb o m e=>W b o m e) B f1 D F G⟩
 self:=λ_ _ _ _ _ st h=>wpAny_pyIter_tupleiter st h
theorem Y6 {P:Ah}{K:lJ}(g:Ad) (lo:Int) (n:Nat):Turn P w K j (rQ lo n) [g] g (λi h=>IsRangeIter h g (lo+(i:Nat)*1) ((n:Int)-(i:Nat)) 1) where
 mem:=by simp
 obj:=λi h st b c=>by
  have e:b=g:=by simpa using c
  subst e;exact⟨_,st,λv z=>by
   have R:Data.fields _=Data.cell v:=z;cases R⟩
 keep:=λi h f st k=>k g (by simp) _ st
 item:=by
  intro X B hw A D i a s L H E I m st F;subst B hw A;obtain⟨q,f1,f2,u,x,y⟩:=m g (by simp);have W:=Walks.range (prog:=X.prog) (w:=X.w) (I.ok.hd D) g lo 1 n;refine W.item i s _ _ F st λv f G O d Q=>?_
  obtain⟨t,rfl⟩:=O;have M:Inv X a L H { s with heap:=f,toks:=G }:=I.turned (λb o c e=>Q b o (by simpa using c) e) q f1 u x y;refine⟨_,rfl,A6 (s:={ s with heap:=f,toks:=G }) (n := "range_iterator") d rfl rfl (by decide) ⟨.int (lo+i),H,M,⟨t,?_⟩,⟨rfl,rfl⟩,d,λb c=>(m b c).1⟩⟩;rw[Int.mul_one]
 done:=by
  intro X B hw A D i a s L H E I m st F;subst B hw A;obtain⟨q,f1,f2,u,x,y⟩:=m g (by simp);exact wpAny_pyNext_range_end (I.ok.hd D) st (by have:n<=i:=F;omega) λf N=>⟨rfl,I.turned (t':=s.toks) (λb o c e=>N b o c e) q f1 u x y⟩
 self:=λ_ _ _ _ _ st h=>wpAny_pyIter_rangeiter st h
section
variable {X:Cx}
def DD (K:lJ) (g:TE):TI:=λd H R=>g d H λx b=>∃ a,x = .ref a/\(∃ c,gV K b a c)/\R (zJ K a) b
theorem U3 (g:PE X l j):PI X r l (DD X.K j):=by
 intro c s y H R I h;refine lM (g c s y H _ I h) λv f i=>?_
 obtain⟨x,k,d,w,u⟩:=i;obtain⟨a,e,⟨B,n⟩,q⟩:=u;subst e;cases w;obtain⟨t,A,p,z⟩:=d.list n;refine eK p.isList ?_;refine⟨f.heap.objs.size,[f.heap.objs.size],_,_,k,rfl,d.kept (t':=f.toks) λb o e=>aD _ e,Ko a _,⟨_,aQ _ rfl,rfl,rfl⟩,λb m=>?_,q⟩;have e:b=f.heap.objs.size:=by simpa using m
 subst e;exact d.fpOk (aL _) (d.hok.fresh (aL _))
theorem Rr {R:It->Hp->Prop}{lo:Int}(I:Inv X j p H s) (r:-(2 ^ 62)<=lo) (C:lo<2 ^ 62) (J:-(2 ^ 62)<=g) (T:g<2 ^ 62)
  (q:R (rQ lo (g-lo).toNat) H):wpAny (model X.prog X.w) X.A (pyIter (.ref s.heap.objs.size)) (Lr X j p U R) E { s with heap:=s.heap.push { cls:=.type "range",data:=.fields #[.int lo t,.int g u,.int 1 v] },toks:=l }:=by
 refine wpAny_pyIter_range (IsRange.new ..) (small_one r C J T) ?_;have a:Inv X j p H { s with heap:=s.heap.push { cls:=.type "range",data:=.fields #[.int lo t,.int g u,.int 1 v] },toks:=l }:=I.kept λb o e=>aD _ e
 refine⟨(s.heap.push { cls:=.type "range",data:=.fields #[.int lo t,.int g u,.int 1 v] }).objs.size,[(s.heap.push { cls:=.type "range",data:=.fields #[.int lo t,.int g u,.int 1 v] }).objs.size],_,_,H,rfl,
  a.kept (t':=l) λb o e=>aD _ e,Y6 _ lo (g-lo).toNat,?_,λb f=>?_,q⟩
 .have c:lo+((0:Nat):Int)*1=lo:=by simp
  have d:(((g-lo).toNat:Nat):Int)-((0:Nat):Int)=Builtin.Range.rangeSize lo g 1:=by rw[rangeSize_one];split<;>omega
  show IsRangeIter _ _ (lo+((0:Nat):Int)*1) ((((g-lo).toNat:Nat):Int)-((0:Nat):Int)) 1;rw[c,d];exact aQ _ rfl
 .have e:b=(s.heap.push { cls:=.type "range",data:=.fields #[.int lo t,.int g u,.int 1 v] }).objs.size:=by simpa using f
  subst e;exact a.fpOk (aL _) (a.hok.fresh (aL _))
def Um (g:TA):TI:=λc H R=>g c H λb a=>∃ j:Int,b=[.int j]/\-(2 ^ 62)<=j/\j<2 ^ 62/\R (rQ 0 j.toNat) a
def Z4 (g:TA):TI:=λc H R=>g c H λb a=>∃ i j:Int,b=[.int i,.int j]/\(-(2 ^ 62)<=i/\i<2 ^ 62/\-(2 ^ 62)<=j/\j<2 ^ 62)/\R (rQ i (j-i).toNat) a
theorem yW (l:Gl X "range") (o:X.mg "range" = none) (g:PA X [a] J) (C:starEach [a] X.env=[(false,eval a X.env)]:=by rfl):PI X T (.Call (.Name "range" p) [a] [] pos) (Um J):=by
 intro b s n H R I h;refine Call_ (sR I l o boot_range (bY (lM (g pos b s n H _ I h) λw v c=>?_) C rfl));obtain⟨x,u,f,k,d⟩:=c;obtain⟨j,e,d,i,q⟩:=d;subst e;cases k with
 | cons r m =>
  cases m;obtain⟨t,rfl⟩:=r;exact call_range_1 (Rr f (by omega) (by omega) d i (by simpa using q))
theorem Xt (o:Gl X "range") (C:X.mg "range" = none) (l:PA X [a,b] T) (J:starEach [a,b] X.env=[(false,eval a X.env),(false,eval b X.env)]:=by rfl) (g:starEach [b] X.env=[(false,eval b X.env)]:=by rfl) :
  PI X U (.Call (.Name "range" p) [a,b] [] pos) (Z4 T):=by
 intro c s y H R I h;refine Call_ (sR I o C boot_range (bY (lM (l pos c s y H _ I h) λD A d=>?_) (by rw[J,g]) (by rw[g];rfl)));obtain⟨E,z,m,x,f⟩:=d;obtain⟨i,j,e,⟨f,n,u,v⟩,q⟩:=f;subst e;cases x with
 | cons r k =>
  cases k with
  | cons w k =>
   cases k;obtain⟨t,rfl⟩:=r;obtain⟨B,rfl⟩:=w;exact call_range_2 (Rr m f n u v q)
def CG (l:TI) (g:TG) (j:TS):TS:=λD a H=>l a H λJ f=>∃ W:Nat->Nat->St->Hp->Prop,(∃ m,W 0 m a f)/\∀ i m a H,W i m a H ->
 (J.stop i H/\D.nx a H)\/(J.go i H/\∃ N:St->Hp->Prop,(∀ c b,N c b->∃ e,e<m/\W (i+1) e c b)/\∀ x b,J.yld i H x b->g x a b λd h=>j { D with nx:=N,ct:=N,bk:=D.nx } d h)
def Bp (g:Aa Ad) (h:Ag):Aa (Ad×Obj):=g.filterMap λb=>(h.get? b).map λo=>(b,o)
theorem Ch (j:b∈g) (e:h.get? b=some o):(b,o)∈Bp g h:=kC.mpr ⟨b,j,by rw[e];rfl⟩
theorem AF (j:p∈Bp g h):p.1∈g/\h.get? p.1=some p.2:=by
 obtain⟨b,c,e⟩:=kC.mp j;cases q:h.get? b with
 | none=>rw[q] at e;cases e
 | some o =>
  rw[q] at e;have a:(b,o)=p:=cA e;subst a;exact⟨c,q⟩
theorem Inv.pinned (I:Inv X g C H s) (l:∀ b∈j,rV X g H b) (r:∀ b∈j,∃ o,s.heap.get? b=some o/\∀ v,o.data ≠ .cell v):Inv X (g++Bp j s.heap) C H s :=
 I.pins_of λp h=>(aX.mp h).elim (λz=>I.pin p (aI _ z)) λz=>by
  obtain⟨c,e⟩:=AF z;obtain⟨f,f1,f2,_⟩:=l p.1 c;obtain⟨o,a,d⟩:=r p.1 c;rw[e] at a;cases a;exact⟨e,f,f1,f2,d⟩
theorem Inv.unpinned (I:Inv X (g++l) j H s):Inv X g j H s:=I.pins_of λp a=>I.pin p (aI _ (aW _ a))
theorem Ew {iter:Expr}(l:PassesOwn (model X.prog X.w) X.A X.env X.xe) (hc:X.calm=true) (hi:PI X tg iter wi) (hg:PG X tg g) (j:oB X body tb)
  (hs:∀ x,foldedSetIterable iter X.env x=pure x:=by intro _;rfl):PS X (.For tg iter body [] pos) (CG wi g tb):=by
 intro a s σ H D I h;refine wpAny_For (lM (hi a s σ H _ I h) λv s1 h1=>lM h1 λaa s2 h2=>?_) hs;obtain⟨it,K,tn,J,H2,e,I2,T,Z,f2,W,⟨m0,w0⟩,P⟩:=h2;subst e;have y:∀ {E:Hp},(∀ b∈K,E b=none)->∀ b∈K,rV X a E b:=λhn b j=>⟨hn b j,(f2 b j).2⟩
 refine codeAny_forLoop_any (λn s'=>∃ i z E,Inv X a z E s'/\tn i s'.heap/\(∀ b∈K,E b=none)/\W i n z E) ?_ m0 ⟨0,σ,H2,I2,Z,λb j=>(f2 b j).1,w0⟩;rintro n s3 ⟨i,B,Q,U,O,L,w3⟩;rcases P i n B Q w3 with⟨stop,qn⟩ | ⟨go,N,hN,step⟩
 .refine fS l (lM (T.done X rfl rfl rfl hc i a s3 B Q X.xe U (y L) O stop) λr s4 k=>?_);obtain⟨V,I4⟩:=k;subst V;exact jV ⟨B,Q,I4,qn⟩
 .refine fS l (lM (T.item X rfl rfl rfl hc i a s3 B Q X.xe U (y L) O go) λr s4 k=>?_);obtain⟨u,V,h4⟩:=k;subst V;refine fS l (lM h4 λ_ s5 k=>?_);obtain⟨x,C,I5,r5,y5,G,S⟩:=k;have R:=I5.pinned (y S) (T.obj _ _ G);refine fS l (lM (hg _ s5 B C x u _ R r5 (step x C y5)) λ_ s6 k=>?_);obtain⟨p,H6,I6,q6⟩:=k;refine fS l (lM (j _ s6 p H6 _ I6 q6) λf Y F=>?_);have again:∀ {c:St} {q:Hp},Inv X (a++Bp K s5.heap) c q Y->N c q->∃ m,m<n/\∃ i z E,Inv X a z E Y/\tn i Y.heap/\(∀ b∈K,E b=none)/\W i m z E:=λ{c q} t M=>by
   obtain⟨m',hm,w7⟩:=hN c q M;refine⟨m',hm,i+1,c,q,t.unpinned,T.keep _ _ _ G λb j o e=>(t.pin (b,o) (aI _ (aI _ (Ch j e)))).1,λb j=>?_,w7⟩;obtain⟨o,e,d⟩:=T.obj _ _ G b j;exact (t.pin (b,o) (aI _ (aI _ (Ch j e)))).2.1
  cases f with
  | next=>obtain⟨c,q,t,M⟩:=F;exact again t M
  | cont=>obtain⟨c,q,t,M⟩:=F;exact again t M
  | brk=>obtain⟨c,q,t,F⟩:=F;exact⟨c,q,t.unpinned,F⟩
  | ret v=>obtain⟨x7,c,q,t,r7,F⟩:=F;exact⟨x7,c,q,t.unpinned,r7,F⟩
end
theorem Jq {lo:Int}{n:Nat}{g:TG}{J:TS}{D:Ends}{j:St}{H:Hp}(Pv:Nat->St->Hp->Prop) (T:Pv 0 j H)
  (U:∀ i j H,i<n->Pv i j H->g (.int (lo+i)) j H λr C=>J { D with nx:=Pv (i+1),ct:=Pv (i+1),bk:=D.nx } r C) (hd:∀ j H,Pv n j H->D.nx j H) :
  ∃ W:Nat->Nat->St->Hp->Prop,(∃ m,W 0 m j H)/\∀ i m j H,W i m j H ->
   ((rQ lo n).stop i H/\D.nx j H)\/((rQ lo n).go i H/\∃ N:St->Hp->Prop,(∀ o l,N o l->∃ I,I<m/\W (i+1) I o l)/\∀ x l,(rQ lo n).yld i H x l->g x j l λr C=>J { D with nx:=N,ct:=N,bk:=D.nx } r C):=by
 refine⟨λi m j H=>m=n-i/\i<=n/\Pv i j H,⟨n,by simp,cS _,T⟩,?_⟩;rintro i m j H ⟨rfl,c,p⟩;by_cases a:i<n
 .refine .inr ⟨a,Pv (i+1),λo l b=>⟨n-(i+1),by omega,rfl,a,b⟩,λx l y=>?_⟩;obtain⟨e,y⟩:=y;subst e y;exact U i j _ a p
 .have e:i=n:=by omega
  subst e;exact .inl ⟨aL _,hd j H p⟩
abbrev R2:=V->V->Hp->VK->Prop
def mE (X:Cx) (f:Ac->Ac->Sem Ac) (r:R2):Prop :=
 ∀ (a:Aa (Ad×Obj)) (s:Ae) (b:St) (H:Hp) (x y:V) (v u:Ac) (Q:VK),Inv X a b H s->lS x v->lS y u->r x y H Q ->
  wpAny (model X.prog X.w) X.A (f v u) (EP X a b Q) X.xe s
def F5 (X:Cx) (f:Ac->Sem Ac) (r:V->Hp->VK->Prop):Prop :=
 ∀ (a:Aa (Ad×Obj)) (s:Ae) (b:St) (H:Hp) (x:V) (v:Ac) (Q:VK),Inv X a b H s->lS x v->r x H Q ->
  wpAny (model X.prog X.w) X.A (f v) (EP X a b Q) X.xe s
def mU (X:Cx) (f:Ac) (r:Aa V->Hp->VK->Prop):Prop :=
 ∀ (a:Aa (Ad×Obj)) (s:Ae) (d:St) (H:Hp) (c:Aa V) (b:Aa Ac) (Q:VK),Inv X a d H s->lN c b->r c H Q ->
  wpAny (model X.prog X.w) X.A (call f b) (EP X a d Q) X.xe s
def Uj (X:Cx) (r:V->Hp->(Bool->Hp->Prop)->Prop):Prop :=
 ∀ (a:Aa (Ad×Obj)) (s:Ae) (b:St) (H:Hp) (x:V) (v:Ac) (Q:Bool->Hp->Prop),Inv X a b H s->lS x v->r x H Q ->
  wpAny (model X.prog X.w) X.A (truthy v) (TP X a b Q) X.xe s
def Au (r:R2) (g j:TE):TE:=λa H Q=>g a H λx b=>j a b λy c=>r x y c Q
def BD (r:V->Hp->VK->Prop) (g:TE):TE:=λb H Q=>g b H λx a=>r x a Q
def rI (C:Int->Int->Prop) (g:Int->Int->V):R2:=λx y H Q=>∃ i j,x = .int i/\y = .int j/\C i j/\Q (g i j) H
def rA (g:Int->Int->V):R2:=λx y H Q=>∃ i j,x = .int i/\y = .int j/\Q (g i j) H
def rU (g:Int->V):V->Hp->VK->Prop:=λx H Q=>∃ i,x = .int i/\Q (g i) H
section
variable {X:Cx}
theorem Ke (J:PE X a ta) (T:PE X b tb){g:Aa (Ad×Obj)}{s:Ae}{l:St}{H:Hp}{R:V->V->Hp->Prop}(I:Inv X g l H s)
  (h:ta l H λx C=>tb l C λy j=>R x y j){Q:Ac->Ae->Prop}{f:Ac->Ac->Sem Ac}
  (U:∀ v u r x y j,Inv X g l j r->lS x v->lS y u->R x y j->wpAny (model X.prog X.w) X.A (f v u) Q X.xe r) :
  wpAny (model X.prog X.w) X.A (eval a X.env) (λv o=>wpAny (model X.prog X.w) X.A (eval b X.env) (λu p=>wpAny (model X.prog X.w) X.A (f v u) Q X.xe p) X.xe o) X.xe s:=by
 refine lM (J g s l H _ I h) λv q c=>?_
 obtain⟨x,C,d,m,i⟩:=c;refine lM (T g q l C _ d i) λu r c=>?_
 obtain⟨y,j,e,n,k⟩:=c;exact U v u r x y j e m n k
theorem mJ (l:mE X (binaryOp op) r) (g:PE X a o) (j:PE X b p):PE X (.BinOp a op b pos) (Au r o p):=by
 intro c s m H Q I h;exact wpAny_BinOp (Ke g j I h λv u k x y d e f i q=>l c k m d x y v u Q e f i q)
theorem Xh (j:F5 X (unaryOp op) r) (g:PE X a l):PE X (.UnaryOp op a pos) (BD r l):=by
 intro b s c H Q I h;exact UnaryOp_ (lM (g b s c H _ I h) λv k ⟨x,d,e,i,f⟩=>j b k c d x v Q e i f)
theorem Ff {f:Ac->Ac->Sem Ac}{C:Int->Int->Prop}{g:Int->Int->Int}
  (rule:∀ (i j:Int) (t u:Tok) (s:Ae) (Q:Ac->Ae->Prop) (E:Ac->Ae->Prop),C i j->Q (.int (g i j) s.toks) { s with toks:=s.toks+1 }->wpAny (model X.prog X.w) X.A (f (.int i t) (.int j u)) Q E s) :
  mE X f (rI C λi j=>.int (g i j)):=by
 intro a s k H x y v u Q I c d h;obtain⟨i,j,rfl,rfl,b,q⟩:=h;obtain⟨t,rfl⟩:=c;obtain⟨e,rfl⟩:=d;exact rule i j t e s _ _ b ⟨.int (g i j),H,I.tok _,⟨_,rfl⟩,q⟩
theorem N3 {f:Ac->Ac->Sem Ac}{g:Int->Int->Int}
  (rule:∀ (i j:Int) (t u:Tok) (s:Ae) (Q:Ac->Ae->Prop) (E:Ac->Ae->Prop),Q (.int (g i j) s.toks) { s with toks:=s.toks+1 }->wpAny (model X.prog X.w) X.A (f (.int i t) (.int j u)) Q E s) :
  mE X f (rA λi j=>.int (g i j)):=by
 intro a s e H x y v u Q I b c h;obtain⟨i,j,rfl,rfl,q⟩:=h;obtain⟨t,rfl⟩:=b;obtain⟨d,rfl⟩:=c;exact rule i j t d s _ _ ⟨.int (g i j),H,I.tok _,⟨_,rfl⟩,q⟩
theorem By {f:Ac->Ac->Sem Ac}{g:Int->Int->Bool}
  (rule:∀ (i j:Int) (t u:Tok) (s:Ae) (Q:Ac->Ae->Prop) (E:Ac->Ae->Prop),Q (.bool (g i j)) s->wpAny (model X.prog X.w) X.A (f (.int i t) (.int j u)) Q E s) :
  mE X f (rA λi j=>.b (g i j)):=by
 intro a s k H x y v u Q I c d h;obtain⟨i,j,rfl,rfl,q⟩:=h;obtain⟨t,rfl⟩:=c;obtain⟨e,rfl⟩:=d;exact rule i j t e s _ _ ⟨.b (g i j),H,I,rfl,q⟩
def DV (i j:Int):Prop:=0<j/\j<1073741824
def Dc (i j:Int):Prop:=(-(2 ^ 64)<i/\i<2 ^ 64)\/(-(2 ^ 64)<j/\j<2 ^ 64)
theorem Dc.ok (h:Dc i j):IntMulOk i j:=by
 rcases h with⟨a,b⟩ | ⟨a,b⟩
 .exact .of_left (intBits_le_64 a b)
 .exact .of_right (intBits_le_64 a b)
theorem vQ:mE X (binaryOp .Add) (rA λi j=>.int (i+j)):=N3 λ_ _ _ _ _ _ _ q=>add_int q
theorem sX:mE X (binaryOp .Sub) (rA λi j=>.int (i-j)):=N3 λ_ _ _ _ _ _ _ q=>sub_int q
theorem vM:mE X (binaryOp .Mult) (rI Dc λi j=>.int (i*j)):=Ff λ_ _ _ _ _ _ _ a q=>mul_int q a.ok
theorem Ve:mE X (binaryOp .FloorDiv) (rI DV λi j=>.int (i/j)):=Ff λi j _ _ _ _ _ a q=>by
 have b:(0:Int)<j:=a.1;have c:j<1073741824:=a.2;exact floordiv_int (by omega) (by rw[Int.fdiv_eq_ediv_of_nonneg i (by omega)];exact q) (.inl (PyProof.noPylong_small (by omega)))
theorem rB:mE X (binaryOp .Mod) (rI (λ_ j=>0<j) λi j=>.int (i%j)):=Ff λi j _ _ _ _ _ a q=>by
 have b:(0:Int)<j:=a;exact mod_int' (by omega) (by rw[Int.fmod_eq_emod_of_nonneg i (by omega)];exact q)
theorem Wx {f:Ac->Sem Ac}{g:Int->Int}
  (rule:∀ (i:Int) (t:Tok) (s:Ae) (Q:Ac->Ae->Prop) (E:Ac->Ae->Prop),Q (.int (g i) s.toks) { s with toks:=s.toks+1 }->wpAny (model X.prog X.w) X.A (f (.int i t)) Q E s) :
  F5 X f (rU λi=>.int (g i)):=by
 intro a s c H x v Q I b h;obtain⟨i,rfl,q⟩:=h;obtain⟨t,rfl⟩:=b;exact rule i t s _ _ ⟨.int (g i),H,I.tok _,⟨_,rfl⟩,q⟩
theorem Wl:F5 X (unaryOp .USub) (rU λi=>.int (-i)):=Wx λ_ _ _ _ _ q=>neg_int q
end
noncomputable def Kc:V->V->Bool
 | .e,.e=>true | .e,.int _=>true | .int _,.e=>true | .e,.b _=>true | .b _,.e=>true | .e,.str _=>true | .str _,.e=>true
 | .int _,.int _=>true | .b _,.b _=>true | .str _,.str _=>true | .byt _,.byt _=>true
 | .int _,.str _=>true | .str _,.int _=>true | .b _,.str _=>true | .str _,.b _=>true
 | _,_=>false
def FU:R2:=λx y H Q=>Kc x y=true/\Q (.b (decide (x=y))) H
def T3:R2:=λx y H Q=>Kc x y=true/\Q (.b (!decide (x=y))) H
theorem Ly:decide (V.int i=V.int j)=(i == j):=by
 rw[gX];simp
theorem O7:decide (V.b i=V.b j)=(i == j):=by
 rw[gX];simp
theorem Rk:decide (V.str i=V.str j)=(i == j):=by
 rw[gX];simp
theorem Px:decide (V.byt i=V.byt j)=(i.toList == j.toList):=by
 rw[gX];cases i;cases j;simp
section
variable {X:Cx}
theorem nL (I:Inv X g l H s) (q:Q (.b k) H) (e:k=j):EP X g l Q (.bool j) s:=by
 subst e;exact⟨.b k,H,I,rfl,q⟩
theorem Dt:mE X (compareOp .Eq) FU:=by
 intro k s m H x y v u Q I f a h;obtain⟨d,q⟩:=h;cases x with
 | e =>
  cases f;cases y with
  | e=>cases a;exact PySem.EqNone.eq_none_none (nL I q (by simp))
  | b j=>cases a;exact PySem.EqNone.eq_none_bool (nL I q (by simp))
  | int j=>obtain⟨c,rfl⟩:=a;exact PySem.EqNone.eq_none_int (nL I q (by simp))
  | str j=>obtain⟨c,rfl⟩:=a;exact PySem.EqNone.eq_none_str (nL I q (by simp))
  | _=>exact absurd (show false=true from d) bD
 | b i =>
  cases f;cases y with
  | e=>cases a;exact PySem.EqNone.eq_bool_none (nL I q (by simp))
  | b j=>cases a;exact eq_bool (nL I q O7)
  | str j=>obtain⟨c,rfl⟩:=a;exact PySem.EqMixed.eq_bool_str (nL I q (by simp))
  | _=>exact absurd (show false=true from d) bD
 | int i =>
  obtain⟨t,rfl⟩:=f;cases y with
  | e=>cases a;exact PySem.EqNone.eq_int_none (nL I q (by simp))
  | int j=>obtain⟨c,rfl⟩:=a;exact eq_int (nL I q Ly)
  | str j=>obtain⟨c,rfl⟩:=a;exact PySem.EqMixed.eq_int_str (nL I q (by simp))
  | _=>exact absurd (show false=true from d) bD
 | str i =>
  obtain⟨t,rfl⟩:=f;cases y with
  | e=>cases a;exact PySem.EqNone.eq_str_none (nL I q (by simp))
  | b j=>cases a;exact PySem.EqMixed.eq_str_bool (nL I q (by simp))
  | int j=>obtain⟨c,rfl⟩:=a;exact PySem.EqMixed.eq_str_int (nL I q (by simp))
  | str j=>obtain⟨c,rfl⟩:=a;exact eq_str (nL I q Rk)
  | _=>exact absurd (show false=true from d) bD
 | byt i =>
  obtain⟨t,rfl⟩:=f;cases y with
  | byt j=>obtain⟨c,rfl⟩:=a;exact PySem.W.eq_bytes (nL I q Px)
  | _=>exact absurd (show false=true from d) bD
 | _=>cases y<;>exact absurd (show false=true from d) bD
theorem Rz:mE X (compareOp .NotEq) T3:=by
 intro k s m H x y v u Q I f a h;obtain⟨d,q⟩:=h;cases x with
 | e =>
  cases f;cases y with
  | e=>cases a;exact PySem.EqNone.ne_none_none (nL I q (by simp))
  | b j=>cases a;exact PySem.EqNone.ne_none_bool (nL I q (by simp))
  | int j=>obtain⟨c,rfl⟩:=a;exact PySem.EqNone.ne_none_int (nL I q (by simp))
  | str j=>obtain⟨c,rfl⟩:=a;exact PySem.EqNone.ne_none_str (nL I q (by simp))
  | _=>exact absurd (show false=true from d) bD
 | b i =>
  cases f;cases y with
  | e=>cases a;exact PySem.EqNone.ne_bool_none (nL I q (by simp))
  | b j=>cases a;exact ne_bool (nL I q (cN not O7))
  | str j=>obtain⟨c,rfl⟩:=a;exact PySem.EqMixed.ne_bool_str (nL I q (by simp))
  | _=>exact absurd (show false=true from d) bD
 | int i =>
  obtain⟨t,rfl⟩:=f;cases y with
  | e=>cases a;exact PySem.EqNone.ne_int_none (nL I q (by simp))
  | int j=>obtain⟨c,rfl⟩:=a;exact ne_int (nL I q (cN not Ly))
  | str j=>obtain⟨c,rfl⟩:=a;exact PySem.EqMixed.ne_int_str (nL I q (by simp))
  | _=>exact absurd (show false=true from d) bD
 | str i =>
  obtain⟨t,rfl⟩:=f;cases y with
  | e=>cases a;exact PySem.EqNone.ne_str_none (nL I q (by simp))
  | b j=>cases a;exact PySem.EqMixed.ne_str_bool (nL I q (by simp))
  | int j=>obtain⟨c,rfl⟩:=a;exact PySem.EqMixed.ne_str_int (nL I q (by simp))
  | str j=>obtain⟨c,rfl⟩:=a;exact ne_str (nL I q (cN not Rk))
  | _=>exact absurd (show false=true from d) bD
 | byt i =>
  obtain⟨t,rfl⟩:=f;cases y with
  | byt j=>obtain⟨c,rfl⟩:=a;exact PySem.W.ne_bytes (nL I q (cN not Px))
  | _=>exact absurd (show false=true from d) bD
 | _=>cases y<;>exact absurd (show false=true from d) bD
theorem Ni:mE X (compareOp .Lt) (rA λi j=>.b (decide (i<j))):=By λ_ _ _ _ _ _ _ q=>lt_int q
theorem EM:mE X (compareOp .LtE) (rA λi j=>.b (decide (i<=j))):=By λ_ _ _ _ _ _ _ q=>le_int q
theorem G4:mE X (compareOp .Gt) (rA λi j=>.b (decide (j<i))):=By λ_ _ _ _ _ _ _ q=>gt_int q
theorem Lc:mE X (compareOp .GtE) (rA λi j=>.b (decide (j<=i))):=By λ_ _ _ _ _ _ _ q=>ge_int q
theorem Zz:mE X (compareOp .NotIn) (λx y H Q=>∃ i j,x = .str i/\y = .str j/\Q (.b (!(!(Builtin.Str.occurrences j i 0 j.length 1).isEmpty))) H):=by
 intro a s f H x y v u Q I c d h;obtain⟨i,j,rfl,rfl,q⟩:=h;obtain⟨t,rfl⟩:=c;obtain⟨e,rfl⟩:=d;exact notIn_str (nL I q rfl)
theorem mE.or (h:mE X f r) (g:mE X f j):mE X f (λx y H Q=>r x y H Q\/j x y H Q):=by
 intro a s d H x y v u Q I b c q;rcases q with q | q
 .exact h a s d H x y v u Q I b c q
 .exact g a s d H x y v u Q I b c q
theorem vE (b:Expr) (h:op ≠ .In:=by decide) (g:op ≠ .NotIn:=by decide):behindInMarks op b=false:=by
 have a:(op == CmpOp.In)=false:=by cases op<;>first | rfl | exact absurd rfl h
 have c:(op == CmpOp.NotIn)=false:=by cases op<;>first | rfl | exact absurd rfl g
 cases b<;>simp[behindInMarks,a,c]
theorem Vq (o:mE X (compareOp op) r) (g:PE X a p) (j:PE X b C) (l:behindInMarks op b=false):PE X (.Compare a [op] [b] pos) (Au r p C):=by
 intro c s m H Q I h;exact wpAny_Compare1 (Ke g j I h λv u k x y d e f i q=>o c k m d x y v u Q e f i q) l
def EA (t:TE):TT:=λc H Q=>t c H λx a=>∃ k,x = .b k/\Q k a
theorem uO (o:mE X (compareOp op) r) (g:PE X a p) (j:PE X b C) (l:behindInMarks op b=false):PT X (.Compare a [op] [b] pos) (EA (Au r p C)):=by
 intro d s f H Q I h;refine wpAny_isTrue_Compare1 (lM (g d s f H _ I h) λv K ⟨x,i,q,E,A⟩=>lM (j d K f i _ q A) λu L ⟨y,m,t,F,B⟩ =>lM (o d L f m x y v u _ t E F B) λc M ⟨z,n,w,G,k,e,D⟩=>?_) l;subst e;cases G;exact iA ⟨n,w,D⟩
def Kd (K:lJ) (x:V) (H:Hp) (k:Bool):Prop :=
 match x with
 | .e=>k=false
 | .b b=>k=b
 | .int i=>k=(i != 0)
 | .str y=>y.length<=sizeLine/\k=((y.length:Int) != 0)
 | .byt y=>y.size<=sizeLine/\k=((y.size:Int) != 0)
 | .ref p=>(∃ c,gV K H p c/\k = !c.isEmpty)\/(∃ c,mH K H p c/\k = !c.isEmpty)\/∃ a,H p=some (.k a)/\k = !a.isEmpty
 | _=>False
theorem CY (r:KV g j):(!j.isEmpty) = !g.isEmpty:=by
 cases r<;>rfl
theorem Le (r:lN j g):(!g.toArray.isEmpty) = !j.isEmpty:=by
 cases r<;>simp
theorem xU:(sizeLine:Nat)<2 ^ 63:=by rw[kM];decide
theorem Vs:Uj X (λx H Q=>∃ k,Kd X.K x H k/\Q k H):=by
 intro E s N H x v Q I n h;obtain⟨k,e,q⟩:=h;have L:=xU;have M:sizeLine=16777216:=kM;cases x with
 | e =>
  cases n;have a:k=false:=e;subst a;exact truthy_none ⟨H,I,q⟩
 | b b =>
  cases n;have a:k=b:=e;subst a;exact iA ⟨H,I,q⟩
 | int i =>
  obtain⟨t,rfl⟩:=n;have a:k=(i != 0):=e;subst a;exact PySem.P.truthy_int ⟨H,I,q⟩
 | str y =>
  obtain⟨t,rfl⟩:=n;obtain⟨G,a⟩:y.length<=sizeLine/\k=((y.length:Int) != 0):=e;subst a;exact PySem.P.truthy_str (by omega) ⟨H,I.tok _,q⟩
 | byt y =>
  obtain⟨t,rfl⟩:=n;obtain⟨G,a⟩:y.size<=sizeLine/\k=((y.size:Int) != 0):=e;subst a;exact PySem.W.truthy_bytes (by omega) ⟨H,I.tok _,q⟩
 | ref p =>
  cases n;have a:(∃ f,gV X.K H p f/\k = !f.isEmpty)\/(∃ f,mH X.K H p f/\k = !f.isEmpty)\/∃ c,H p=some (.k c)/\k = !c.isEmpty:=e;rcases a with⟨f,u,a⟩ | ⟨f,u,a⟩ | ⟨c,u,a⟩
  .subst a;obtain⟨A,r,B,D⟩:=I.list u;have d:=r.length;exact wpAny_truthy_list B.isList (by simp only[aM];omega) ⟨H,I.tok _,by rw[Le r];exact q⟩
  .subst a;obtain⟨A,r,B,D⟩:=I.tuple u;have d:=r.length;exact truthy_tuple B (by simp only[aM];omega) ⟨H,I.tok _,by rw[Le r];exact q⟩
  .subst a;obtain⟨D,F,z,r,m⟩:c.length<=sizeLine/\(p == sysModules)=false/\∃ z,KV c z/\s.heap.DictOf (pQ X.prog X.w) p z:=I.hok p _ u;have d:c.length=z.length:=kT r;exact wpAny_truthy_dict F m (by omega) ⟨H,I.tok _,by rw[CY r];exact q⟩
 | _=>exact (show False from e).elim
theorem Tf (l:PE X a p) (o:∀ whole,isTrue a X.env whole=(do let v <- whole;standAt a.pos;holding [v] (truthy v))) :
  PT X a (λg H Q=>p g H λx j=>∃ k,Kd X.K x j k/\Q k j):=by
 intro b s g H Q I h;exact isTrue_plain (lM (l b s g H _ I h) λv i ⟨x,c,d,f,e⟩=>Vs b i g c x v Q d f e) (o _)
theorem vI:mE X (binaryOp .Add) (λx y H Q=>∃ i j,x = .str i/\y = .str j/\i.length+j.length<=sizeLine/\Q (.str (i++j)) H):=by
 intro a s k H x y v u Q I c d h;obtain⟨i,j,rfl,rfl,b,q⟩:=h;obtain⟨t,rfl⟩:=c;obtain⟨e,rfl⟩:=d;exact add_str (λe f=>⟨.str (i++j),H,I.tok _,⟨_,rfl⟩,q⟩) b
theorem oV (r:lN [x] g):∃ u,g=[u]/\lS x u:=by
 cases r with
 | cons a b=>cases b;exact⟨_,rfl,a⟩
theorem Bh (r:lN [x,y] j):∃ u g,j=[u,g]/\lS x u/\lS y g:=by
 cases r with
 | cons a b =>
  cases b with
  | cons c d=>cases d;exact⟨_,_,rfl,a,c⟩
theorem AR (l:X.calm=true):mU X (.builtin "max") (λg H Q=>∃ i j,g=[.int i,.int j]/\Q (.int (if j>i then j else i)) H):=by
 intro b s n H g f Q I r h;obtain⟨i,j,rfl,q⟩:=h;obtain⟨u,m,rfl,⟨t,rfl⟩,⟨d,rfl⟩⟩:=Bh r;refine max_two_ints (I.ok.hd l) λc e k=>⟨_,H,I.kept k,?_,q⟩
 by_cases a:j>i
 .rw[bA a,bA a];exact⟨_,rfl⟩
 .rw[bF a,bF a];exact⟨_,rfl⟩
theorem Np (l:X.calm=true):mU X (.builtin "min") (λg H Q=>∃ i j,g=[.int i,.int j]/\Q (.int (if j<i then j else i)) H):=by
 intro b s n H g f Q I r h;obtain⟨i,j,rfl,q⟩:=h;obtain⟨u,m,rfl,⟨t,rfl⟩,⟨d,rfl⟩⟩:=Bh r;refine min_two_ints (I.ok.hd l) λc e k=>⟨_,H,I.kept k,?_,q⟩
 by_cases a:j<i
 .rw[bA a,bA a];exact⟨_,rfl⟩
 .rw[bF a,bF a];exact⟨_,rfl⟩
theorem HC:mU X (.type "int") (λg H Q=>(∃ i,g=[.int i]/\Q (.int i) H)\/∃ k,g=[.b k]/\Q (.int (if k then 1 else 0)) H):=by
 intro a s e H g d Q I r h;rcases h with⟨i,rfl,q⟩ | ⟨k,rfl,q⟩
 .obtain⟨u,rfl,t,rfl⟩:=oV r;exact call_int_int ⟨.int i,H,I,⟨_,rfl⟩,q⟩
 .obtain⟨u,rfl,c⟩:=oV r;cases c;exact call_int_bool ⟨.int (if k then 1 else 0),H,I.tok _,⟨_,rfl⟩,q⟩
theorem Wo:mU X (.type "str") (λg H Q=>∃ i,g=[.int i]/\i.natAbs.log2<1920/\Q (.str (toString i)) H):=by
 intro a s d H g c Q I r h;obtain⟨i,rfl,b,q⟩:=h;obtain⟨u,rfl,t,rfl⟩:=oV r;exact PySem.P.str_of_int b ⟨.str _,H,I.tok _,⟨_,rfl⟩,q⟩
end
structure ObjM (h:Heap) (x dx C:Addr) (mA:Str->Option Value):Prop where
 obj:h.get? x=some (PySem.W.instObj C dx)
 ns:h.Ns1 dx mA
 ne:dx≠x
theorem Y9 {h:Ag}{g:Ad}{j:Af->Ab Ac}(n:h.Ns1 g j):∃ l,h.get? g=some l/\∀ name,PySem.W.lookIn name l=some (j name):=by
 obtain⟨o,c,s,k,hd,f,_,i⟩:=n;refine⟨o,k,λname=>?_⟩;have e:=i name;unfold nsFind findBy at e;rw[<- Array.find?_toList] at e;unfold PySem.W.lookIn;rw[hd];dsimp only;split
 .rename_i y q
  rw[q] at e;exact cN some e
 .rename_i q
  rw[q] at e;have a:c.toList.any (·.refKey)=false:=by
   rw[List.any_eq_false];intro y m;obtain⟨z,t,b⟩:=f y (Array.mem_toList_iff.mp m);simp[DictEntry.refKey,b]
  have d:¬ c.toList.any (·.refKey)=true:=by rw[a];exact bD
  rw[bF d];exact cN some e
theorem ObjM.look (I:ObjM h x j C l):∃ g,PySem.W.InstAt h x (PySem.W.instObj C j) C (some g)/\∀ name,PySem.W.lookIn name g=some (l name) :=
 let ⟨g,b,a⟩:=Y9 I.ns
 ⟨g,⟨I.obj,rfl,rfl,b⟩,a⟩
theorem sF.some_of (r:sF (some v) o):∃ u,o=some u/\lS v u:=by
 cases o with
 | none=>exact (show False from r).elim
 | some u=>exact⟨u,rfl,r⟩
section
variable {P:Ah}
theorem AY (l:nM P w H h) (e:H a=some (.ins C j fs)):∃ g,ObjM h a j C g/\(∀ f,sF (fs.lookup f) (g f))/\PySem.Within g (fs.map (·.1))/\fs.length<=1000/\H j=some (.o a):=by
 obtain⟨d,z,ne,b,g,n,r,q⟩:=(show nW P w H h a (.ins C j fs) from l a _ e);exact⟨g,⟨b,n,ne⟩,r,q,z,d⟩
end
structure Cls (K:lJ) (C:Addr):Prop where
 pg:PySem.W.plainGet K C Str.empty=true
 hd:PySem.W.hasDictIn K C=true
 po:PySem.W.plainOver K C=true
 sa:PySem.W.findIn K (.ref C) "__setattr__" = some (some (.builtin "object.__setattr__"))
theorem Cls.get {K:lJ}(c:Cls K C) (f:Af):PySem.W.plainGet K C f=true:=c.pg
section
variable {X:Cx}
inductive TyOf (K:lJ) (H:Hp):V->Value->Prop where
 | e:TyOf K H .e (.type "NoneType")
 | b (x:Bool):TyOf K H (.b x) (.type "bool")
 | int (i:Int):TyOf K H (.int i) (.type "int")
 | str (x:Str):TyOf K H (.str x) (.type "str")
 | flt (x:UInt64):TyOf K H (.flt x) (.type "float")
 | l {a:Addr} {xs:List V} (e:H a=some (.l xs)):TyOf K H (.ref a) (.type "list")
 | frz {a:Addr} {o:Obj} {xs:List V} (e:H a=some (.frz o (.l xs))):TyOf K H (.ref a) (.type "list")
 | t {a:Addr} {xs:List V} (e:H a=some (.t xs)):TyOf K H (.ref a) (.type "tuple")
 | k {a:Addr} {kvs:List (lL×V)} (e:H a=some (.k kvs)):TyOf K H (.ref a) (.type "dict")
 | T {a:Addr} {kvs:List (List lL×V)} (e:H a=some (.T kvs)):TyOf K H (.ref a) (.type "dict")
 | ins {a C dx:Addr} {fs:List (Str×V)} (e:H a=some (.ins C dx fs)) (cl:Cls K C) (ha:PySem.W.findIn K (.ref C) "__class__" = some (some (.builtin "object.__class__")))
   (hn:PySem.W.specialIn K (.builtin "object.__class__") "__get__" = some (some (.builtin "getset_descriptor.__get__"))) (htk:PySem.W.takesIn K (.builtin "object.__class__")=some true)
   (hm:PySem.W.mroIn K C (.type "object")=some true):TyOf K H (.ref a) (.ref C)
theorem W6 (I:Inv X j U H s) (g:lS x u) (ty:TyOf X.K H x t) (e:PySem.W.kitOne X.K t c=some b) (h:∀ r,Q (.bool b) { s with toks:=r }) :
  wpAny (model X.prog X.w) A (call (.builtin "isinstance") [u,c]) Q E s:=by
 cases ty with
 | e=>cases (show u=Value.none from g);exact dL PySem.W.kitx_none I.kIn True.intro e (λz=>nomatch z) h
 | b y=>cases (show u=Value.bool y from g);exact dL PySem.W.kitx_bool I.kIn True.intro e (λz=>nomatch z) h
 | int i=>obtain⟨t,q⟩:=(show ∃ t,u=Value.int i t from g);cases q;exact dL PySem.W.kitx_int I.kIn True.intro e (λz=>nomatch z) h
 | str y=>obtain⟨t,q⟩:=(show ∃ t,u=Value.str y t from g);cases q;exact dL PySem.W.kitx_str I.kIn True.intro e (λz=>nomatch z) h
 | flt y=>obtain⟨t,q⟩:=(show ∃ t,u=Value.float y t from g);cases q;exact dL PySem.W.kitx_float I.kIn True.intro e (λz=>nomatch z) h
 | @l a v d =>
  cases (show u=Value.ref a from g);obtain⟨_,_,n,_,f⟩:=(show nW X.prog X.w H s.heap a (.l v) from I.hok a _ d);exact dL PySem.W.kitx_list I.kIn ⟨_,f,rfl⟩ e (λz=>nomatch z) h
 | @frz a R v d =>
  cases (show u=Value.ref a from g);obtain⟨_,_,_,n,_,f⟩:=(show nW X.prog X.w H s.heap a (.frz R (.l v)) from I.hok a _ d);exact dL PySem.W.kitx_list I.kIn ⟨_,f,rfl⟩ e (λz=>nomatch z) h
 | @t a v d =>
  cases (show u=Value.ref a from g);obtain⟨_,_,_,p,_⟩:=(show nW X.prog X.w H s.heap a (.t v) from I.hok a _ d);obtain⟨o,f,B,_⟩:=p;exact dL PySem.W.kitx_tuple I.kIn ⟨o,f,B⟩ e (λz=>nomatch z) h
 | @k a m d =>
  cases (show u=Value.ref a from g);obtain⟨_,_,Z,_,p⟩:=(show nW X.prog X.w H s.heap a (.k m) from I.hok a _ d);obtain⟨o,L,G,f,B,_⟩:=p;exact dL PySem.W.kitx_dict I.kIn ⟨o,f,B.1⟩ e (λz=>nomatch z) h
 | @T a m d =>
  cases (show u=Value.ref a from g);obtain⟨_,_,v,_,o,L,G,f,B,_⟩:=(show nW X.prog X.w H s.heap a (.T m) from I.hok a _ d);exact dL PySem.W.kitx_dict I.kIn ⟨o,f,B.1⟩ e (λz=>nomatch z) h
 | @ins a C S fs d F M P D N =>
  cases (show u=Value.ref a from g);obtain⟨V,O,_⟩:=AY I.hok d;obtain⟨Y,J,_⟩:=O.look;exact dL (PySem.W.kitx_own (F.get _) F.hd M P D N) I.kIn J e (λz=>nomatch z) h
end
structure Room (k:Nat) (A:Around):Prop where
 hd:A.handled=none
 dp:A.depth+3*k+5<recursionLimit
 un:A.units+16*k+200<cLine
theorem Room.mono (r:Room k A) (h:j<=k):Room j A:=⟨r.hd,by have:=r.dp;omega,by have:=r.un;omega⟩
theorem Room.deeper (r:Room (k+1) A) (g:Env):Room k (A.deeper g) :=
 ⟨r.hd,by have:=r.dp;show A.depth+1+3*k+5<_;omega,by have:=r.un;show A.units+3+16*k+200<_;omega⟩
theorem Room.depth (r:Room k A):A.depth<recursionLimit:=by have:=r.dp;omega
theorem Room.units (r:Room k A):A.units+64<cLine:=by have:=r.un;omega
def uV:TA:=λ_ H Q=>Q [] H
def uJ (g:TE) (j:TA):TA:=λa H Q=>g a H λx b=>j a b λd c=>Q (x::d) c
section
variable {X:Cx}
theorem lY:PA X [] uV:=λ_ _ _ _ H Q I h=>jC ⟨[],H,I,.nil,h⟩
theorem uK (j:PE X e p) (l:PA X g t) (o:starEach (e::g) X.env=(false,eval e X.env)::starEach g X.env:=by rfl):PA X (e::g) (uJ p t):=by
 intro pos a s c H Q I h;rw[o];show wpAny _ _ (spliced ((false,eval e X.env)::backTo pos (starEach g X.env))) _ _ s;refine gJ (lM (j a s c H _ I h) λu w b=>?_);obtain⟨x,d,i,q,m⟩:=b;exact lM (l pos a w c d _ i m) λA z ⟨y,f,k,v,n⟩=>⟨x::y,f,k,.cons q v,n⟩
def T6 (t:TA):TE:=λc H Q=>t c H λb a=>b.length<=sizeLine/\∀ p,a p=none->Q (.ref p) (upd a p (.t b))
def Nm (t:TA):TE:=λc H Q=>t c H λb a=>b.length<=sizeLine/\∀ p,a p=none->Q (.ref p) (upd a p (.l b))
theorem B8 {j}(h:PA X g t):PE X (.Tuple g j pos) (T6 t):=by
 intro a s v H Q I k;refine wpAny_Tuple_spliced (lM (h pos a s v H _ I k) λm c ⟨n,d,f,r,z,q⟩=>⟨by rw[<- r.length];exact z,?_⟩);have i:d c.heap.objs.size=none:=f.hok.fresh (aL _);refine⟨.ref c.heap.objs.size,upd d c.heap.objs.size (.t n),f.laid (t':=c.toks) (λb u e=>aD _ e) (aL _) ?_,rfl,q _ i⟩;exact⟨z,m,r,⟨_,aQ _ rfl,rfl,_,rfl⟩,_,aQ _ rfl,rfl⟩
theorem oP (h:PA X g t):PE X (.List g pos) (Nm t):=by
 intro a s v H Q I k;refine wpAny_List_spliced (lM (h pos a s v H _ I k) λm c ⟨n,d,f,r,z,q⟩=>⟨by rw[<- r.length];exact z,?_⟩);have i:d c.heap.objs.size=none:=f.hok.fresh (aL _);refine⟨.ref c.heap.objs.size,upd d c.heap.objs.size (.l n),f.laid (t':=c.toks) (λb u e=>aD _ e) (aL _) ?_,rfl,q _ i⟩;exact⟨z,m,0,r,aQ _ rfl⟩
end
abbrev Sp:=Aa V->Hp->VK->XK->Prop
abbrev yY:=Aa Env->Hp->Ae->XK->Ac->Ae->Prop
structure Env0 (P:Program) (w:World) (K:lJ) (mg:Str->Option Value) (base:Heap) (A:Around) (outer:List Env) (s:Shared) (H:Hp):Prop where
 frames:A.frames=some outer
 mod:Mod K mg base
 bs:∀ b o,base.get? b=some o->s.heap.get? b=some o/\H b=none
 bsz:base.objs.size<=s.heap.objs.size
 funs:s.heap.FunFrames base outer
 frf:∀ b∈sL outer,H b=none
 hok:nM P w H s.heap
 bare:AllBare s.gens
def CE (g:Aa Env) (P:Ah) (w:World) (H:Hp) (s:Ae) (Q:VK) (u:Ac) (j:Ae):Prop :=
 ∃ v a,j.os=s.os/\AllBare j.gens/\Un (sL g) [] H a s.heap j.heap/\nM P w a j.heap/\lS v u/\Q v a
def CR (l:yY) (g:Aa Env) (P:Ah) (w:World) (H:Hp) (s:Ae) (Q:VK) (E:XK) (r:Result) (j:Ae):Prop :=
 match r with
 | .ok (.ret u)=>CE g P w H s Q u j
 | .ok _=>False
 | .error e=>l g H s E e j
structure FnOk (P:Program) (w:World) (K:lJ) (mg:Str->Option Value) (base:Heap) (CX:yY) (k:Nat) (f:Addr) (fd:FuncData) (ps:List Str) (sp:Sp):Prop where
 len:∀ vs H Q E,sp vs H Q E->vs.length=ps.length
 run:∀ (A:Around) (outer:List Env) (s:Shared) (H:Hp) (args:Args) (us:List Value) (vs:List V) (Q:VK) (E:XK),Room k A->Env0 P w K mg base A outer s H->BindsTo s fd args (ps.zip us)->lN vs us->sp vs H Q E ->
  codeAny (model P w) A (.call (.ref f) args) (CR CX outer P w H s Q E) s
theorem FnOk.imp {P:Ah}{K:lJ}(F:FnOk P w K o base l k f fd p r)
  (h:∀ g H Q E,j g H Q E->r g H Q E):FnOk P w K o base l k f fd p j :=
 ⟨λg H Q E q=>F.len g H Q E (h _ _ _ _ q),λA a s H args m g Q E d c b i e=>F.run A a s H args m g Q E d c b i (h _ _ _ _ e)⟩
section
variable {X:Cx}
theorem Inv.env0 (I:Inv X g j H s):Env0 X.prog X.w X.K X.mg X.base X.A X.stack s H :=
 ⟨I.ok.frames,I.ok.mod,I.bs,bX I.ok.bsz I.sz,I.stack,I.stkFree,I.hok,I.bare⟩
theorem Inv.after (I:Inv X j o H s) (h:CE X.stack X.prog X.w H s Q u l):EP X j o Q u l:=by
 obtain⟨v,e,os,bare,un,a,r,q⟩:=h;obtain⟨f,g,d,t,c⟩:=l;obtain rfl:c=s.os:=os;exact⟨v,e,I.call (h':=f) (g':=g) (d':=d) (t':=t) (ch:=[]) un a bare (λb z=>absurd z (by simp)),r,q⟩
end
def L9 (j:Sp) (g:Aa V) (E:XK) (t:TA):TE:=λc H Q=>t c H λb a=>j (b++g) a Q E
def wI (K:lJ) (fd:FuncData) (j:Aa Af) (g:Aa Ac):Prop :=
 ∀ (s:Ae) (a:Aa Ac),K.In s.heap->(a++g).length=j.length->BindsTo s fd ⟨a,[]⟩ (j.zip (a++g))
theorem wI.all {K:lJ}(h:∀ g:Aa Ac,g.length=j.length->bindArgs fd ⟨g,[]⟩=pure (j.zip g)):wI K fd j []:=λs g _ a=>by
 rw[eP] at a |-;exact .of_eq (h g a)
def C6 (g:yY) (X:Cx) (E:XK):Prop:=∀ (a:Aa (Ad×Obj)) (c:St) (H:Hp) (s:Ae) (e:Ac) (b:Ae),Inv X a c H s->g X.stack H s E e b->X.xe e b
section
variable {X:Cx}
theorem Qk (F:FnOk X.prog X.w X.K X.mg X.base J k f fd p sp) (U:Room k X.A) (T:wI X.K fd p l) (hd:lN j l) (hx:C6 J X E)
  (I:Inv X g C H s) (r:lN o us) (h:sp (o++j) H Q E):wpAny (model X.prog X.w) X.A (call (.ref f) us) (EP X g C Q) X.xe s:=by
 have b:lN (o++j) (us++l):=r.append hd;have d:(us++l).length=p.length:=by rw[<- b.length];exact F.len _ _ _ _ h
 refine wpAny_call (codeAny_mono (F.run X.A X.stack s H ⟨us,[]⟩ (us++l) (o++j) Q E U I.env0 (T s us I.kIn d) b h) λr i a=>?_);cases r with
 | error e=>exact hx g C H s e i I a
 | ok c =>
  cases c with
  | ret u=>exact I.after a
  | next=>exact False.elim a
  | brk=>exact False.elim a
  | cont=>exact False.elim a
structure StB (X:Cx) (e:Expr) (es:List Expr) (pos:Pos):Prop where
 a:starEach (e::es) X.env=(false,eval e X.env)::starEach es X.env:=by rfl
 b:(backTo pos (starEach es X.env)).any (·.1)=false:=by rfl
theorem rJ (F:FnOk X.prog X.w X.K X.mg X.base C k f fd ps sp) (hr:Room k X.A) (hg:Gl X x) (hm:X.mg x=some (.ref f)) (hk:PySem.W.keepIn X.K (.ref f)=true) (U:wI X.K fd ps J) (hd:lN j J) (hx:C6 C X E)
  (T:PA X (e::o) t) (l:(x == ("__debug__" : Af))=false:=by decide) (g:StB X e o pos:=by exact {}) :
  PE X (.Call (.Name x p) (e::o) [] pos) (L9 sp j E t):=by
 intro c s i H Q I h;refine dD (K9 I hg hm ?_ l);refine PySem.W.callWith_K (h₀:=X.base) I.ok.mod.kin hk (lM (T pos c s i H _ I h) λu n ⟨v,m,d,r,q⟩=>⟨d.kIn,?_⟩) g.a g.b;exact Qk F hr U hd hx d r q
theorem Rm (F:FnOk X.prog X.w X.K X.mg X.base l k f fd ps sp) (U:Room k X.A) (C:Gl X x) (T:X.mg x=some (.ref f)) (J:PySem.W.keepIn X.K (.ref f)=true) (r:wI X.K fd ps o) (hd:lN g o) (hx:C6 l X E)
  (j:(x == ("__debug__" : Af))=false:=by decide):PE X (.Call (.Name x p) [] [] pos) (L9 sp g E uV):=by
 intro a s b H Q I h;refine dD (K9 I C T ?_ j);exact PySem.W.callWith_K0 I.kIn J (Qk (us:=[]) F U r hd hx I .nil h)
end
def PK (X:Cx) (g:Aa Keyword) (t:TA):Prop :=
 ∀ (pos:Pos) (a:Aa (Ad×Obj)) (s:Ae) (b:St) (H:Hp) (Q:Aa V->Hp->Prop),Inv X a b H s->t b H Q->wpAny (model X.prog X.w) X.A (evalAll ((backToKw pos (keywordEach g X.env)).map (·.2))) (AP X a b Q) X.xe s
section
variable {X:Cx}
theorem Xm:PK X [] uV:=λ_ _ _ _ H Q I h=>wpAny_evalAll_nil ⟨[],H,I,.nil,h⟩
theorem CZ (l:PE X e p) (o:PK X g t):PK X (⟨r,e,j⟩::g) (uJ p t):=by
 intro pos a s b H Q I h;show wpAny _ _ (evalAll ((do let v <- eval e X.env;standAt pos;pure v)::(backToKw pos (keywordEach g X.env)).map (·.2))) _ _ s;refine wpAny_evalAll_cons (aA (lM (l a s b H _ I h) λu w ⟨x,c,f,n,k⟩=>aA (kU (aE ?_))));exact lM (o pos a w b c _ f k) λA z ⟨y,d,i,q,m⟩=>⟨x::y,d,i,.cons n q,m⟩
end
structure FnScope (N P:List Str) (sc:Scope):Prop where
 kind:sc.kind = .function
 co:sc.isCoroutine=false
 gen:sc.isGenerator=false
 nd:N.Nodup
 pre:N.take P.length=P
 par:∀ x∈P,sc.names.lookup x=some .local\/sc.names.lookup x=some .cell
 nofree:∀ y∈sc.names,y.2 ≠ .free
theorem Ky {kindOf:Af->Ab NameKind}:∀ {binds:Aa (Af×Ac)}{m:Af->Ab Ac},(∀ v,(x,v)∉binds)->bindL kindOf binds m x=m x
 | [],_,_=>rfl
 | (n,v)::r,m,h=>by
  unfold bindL;rw[Ky λw hw=>h w (aN _ hw)];split
  .have:x≠n:=by rintro rfl;exact h v aH
   simp[this]
  .rfl
theorem Ow {kindOf:Af->Ab NameKind}:∀ {binds:Aa (Af×Ac)}{m:Af->Ab Ac},(∀ v,(x,v)∉binds)->bindC kindOf binds m x=m x
 | [],_,_=>rfl
 | (n,v)::r,m,h=>by
  unfold bindC;rw[Ow λw hw=>h w (aN _ hw)];split
  .rfl
  .have:x≠n:=by rintro rfl;exact h v aH
   simp[this]
theorem Rh {kindOf:Af->Ab NameKind}:∀ {P:Aa Af}{g:Aa Ac}{i:Nat}{m:Af->Ab Ac},P.Nodup->P[i]?=some x->g[i]?=some v->kindOf x=some .local ->
  bindL kindOf (P.zip g) m x=some v
 | [],_,_,_,_,h,_,_=>by simp at h
 | _::_,[],_,_,_,_,h,_=>by simp at h
 | p::P,w::g,0,m,d,a,b,c=>by
  simp at a b;subst a;subst b;show bindL kindOf ((p,w)::P.zip g) m p=_;unfold bindL;rw[Ky λv e=>(cH.mp d).1 (lB e).1,bA c];simp
 | p::P,w::g,i+1,m,d,a,b,c=>by
  show bindL kindOf ((p,w)::P.zip g) m x=_;unfold bindL;exact Rh (i:=i) (cH.mp d).2 (by simpa using a) (by simpa using b) c
theorem R5 {kindOf:Af->Ab NameKind}:∀ {P:Aa Af}{g:Aa Ac}{i:Nat}{m:Af->Ab Ac},P.Nodup->P[i]?=some x->g[i]?=some v->kindOf x≠some .local ->
  bindC kindOf (P.zip g) m x=some v
 | [],_,_,_,_,h,_,_=>by simp at h
 | _::_,[],_,_,_,_,h,_=>by simp at h
 | p::P,w::g,0,m,d,a,b,c=>by
  simp at a b;subst a;subst b;show bindC kindOf ((p,w)::P.zip g) m p=_;unfold bindC;rw[Ow λv e=>(cH.mp d).1 (lB e).1,bF c];simp
 | p::P,w::g,i+1,m,d,a,b,c=>by
  show bindC kindOf ((p,w)::P.zip g) m x=_;unfold bindC;exact R5 (i:=i) (cH.mp d).2 (by simpa using a) (by simpa using b) c
def sM (N:Aa Af) (g:Aa V):St:=g.map some++List.replicate (N.length-g.length) none
noncomputable def wO (o:yY) (P:Ah) (w:World) (K:lJ) (p:Af->Ab Ac) (base:Ag) (N:Aa Af) (l:Af) (g:Scope) (f:Ad) (cd:Ac) (A:Around) (j:Aa Env) (s:Ae) (H:Hp) (E:XK):Cx where
 prog:=P
 w:=w
 K:=K
 mg:=p
 base:=base
 A:=A.deeper (envOfC l g s.heap.objs.size f cd)
 N:=N
 s₀:=s
 H₀:=H
 env:=envOfC l g s.heap.objs.size f cd
 outer:=j
 stack:=envOfC l g s.heap.objs.size f cd::j
 ex:=[]
 calm:=true
 fn:=λ_=>true
 pn:=[]
 xe:=λe c=>wpAny (model P w) (A.deeper (envOfC l g s.heap.objs.size f cd)) (leaving (envOfC l g s.heap.objs.size f cd) e) (λ_ a=>o j H s E e a) (λb a=>o j H s E b a) c
theorem Ng {g:Scope}{n:Nat}{x:Af}(h:g.names.lookup x=some .cell):∃ c,(cellsFrom n g.names []).lookup x=some c:=by
 have q:=PySem.W.cellsFrom_some g.names n [] (.inl h);exact cL.mp q
theorem BV {P:Ah}{K:lJ}{cd:Ac}
  (S:FnScope N C g) (hd:A.handled=none) (o:Env0 P w K J base A j s H) (hl:I.length=C.length) (r:lN I T)
  (x:InCallC s s.heap.objs.size (bindL (envOfC l g s.heap.objs.size f cd).kindOf (C.zip T) λ_=>none) (cellsFrom (s.heap.objs.size+1) g.names []) (bindC (envOfC l g s.heap.objs.size f cd).kindOf (C.zip T) λ_=>none) s1) :
  Inv (wO U P w K J base N l g f cd A j s H E) [] (sM N I) H s1:=by
 have Q:C.length<=N.length:=by have:=cN List.length S.pre;rw[bR] at this;omega
 obtain⟨F,W,rfl,L⟩:=x.done;have t:∀ b:Ad,b∉(wO U P w K J base N l g f cd A j s H E).ex:=λb z=>absurd (show b∈([]:Aa Ad) from z) (by simp)
 refine⟨⟨o.mod,S.kind,rfl,rfl,aL _,λy z c F d=>?_,λy m=>?_,λy c _ h=>?_,λ_=>hd,Around.frames_deeper o.frames,.inr ⟨rfl,rfl⟩,λb z=>absurd z (t b),o.bs,o.bsz,λb _ _=>t b,λb z=>absurd z (t b),o.funs,o.frf⟩,
  rfl,o.bare,Un.kept L,⟨_,x.toInCall.ns,λi y v F d V=>?_⟩,λy c h=>⟨_,x.cell y c h⟩,o.hok.fresh (aL _),λy c h=>?_,λp B=>absurd (show p∈([]:Aa (Ad×Obj)) from B) (by simp),o.hok.kept L,?_⟩
 .exact name_of_addr x.apart (cZ F) (cZ d)
 .have m:g.names.lookup y=some .cell\/g.names.lookup y=some .free:=m;rcases m with m | m
  .exact Ng m
  .exact absurd rfl (S.nofree _ (cZ m))
 .exact fV (x.above y c (cZ h))
 .have G:i<I.length:=by
   unfold sM at d;by_cases G:i<I.length
   .exact G
   .rw[dF (by simpa using G)] at d;rw[List.getElem?_replicate] at d;split at d<;>cases d
  have O:I[i]?=some v:=by
   unfold sM at d;rw[fR (by simpa using G),aV] at d;cases e:I[i]? with
   | none=>rw[e] at d;cases d
   | some a=>rw[e] at d;cases d;rfl
  obtain⟨u,M,R⟩:=r.get O;have B:C[i]?=some y:=by
   rw[<- S.pre,List.getElem?_take_of_lt (by omega)];exact F
  have D:C.Nodup:=by rw[<- S.pre];exact S.nd.sublist (List.take_sublist _ _)
  refine⟨u,R,?_⟩;rcases S.par y (aT B) with k | k
  .exact .inl ⟨k,Rh D B M k⟩
  .obtain⟨c,e⟩:=Ng (n:=s.heap.objs.size+1) k;refine .inr ⟨.inl k,c,e,?_⟩;have q:=x.cell y c e;rw[R5 D B M (by show g.names.lookup y≠_;rw[k];decide)] at q;exact q
 .exact o.hok.fresh (fV (x.above y c (cZ h)))
 .unfold sM;show _=N.length;rw[bL,aB,eT];omega
theorem V3 {P:Ah}{K:lJ}{kV:Ac}
(lk:K.lookup f=some ⟨oc,od,.func (PySem.W.fnOf name l C body g dV kV ab pm an p ct),ae⟩) (ac:PySem.W.codeIn K p l=true) (S:FnScope N ps g)
  (len:∀ T H Q E,sp T H Q E->T.length=ps.length)
  (aa:∀ (A:Around) (j:Aa Env) (s:Ae) (H:Hp) (T:Aa V) (Q:VK) (E:XK),Room k (A.deeper (envOfC l g s.heap.objs.size f p))->sp T H Q E ->∃ t,oB (wO CX P w K mg base N l g f p A j s H E) body t/\t { nx:=λ_ U=>Q .e U,rt:=Q } (sM N T) H) :
  FnOk P w K mg base CX (k+1) f (PySem.W.fnOf name l C body g dV kV ab pm an p ct) ps sp:=by
 refine⟨len,λA j s H args us T Q E m h O r i=>?_⟩;have X:=len _ _ _ _ i;have F:K.In s.heap:=h.mod.kin.keeps λb o e=>(h.bs b o e).1
 have z:s.heap.NoLimit:=h.mod.nolimit.keeps λb o e=>(h.bs b o e).1
 have c:∀ y∈ps.zip us,g.names.lookup y.1=some .local\/(g.names.lookup y.1=some .cell/\((cellsFrom (s.heap.objs.size+1) g.names []).lookup y.1).isSome=true):=λ⟨n,v⟩ hy=>by
  rcases S.par n (lB hy).1 with q | q
  .exact .inl q
  .exact .inr ⟨q,PySem.W.cellsFrom_some _ _ _ (.inl q)⟩
 refine codeAny_call_function m.depth (F _ _ lk) rfl S.co S.gen rfl (PySem.W.codeRec_of F ac) (O _ _ _ _ ?_);refine wpAny_newFunctionEnv_cells S.kind c λL R G x=>?_
 subst R;refine⟨z.keeps x.toInCall.keep,codeAny_func ?_⟩;obtain⟨t,Z,Y⟩:=aa A j s H T Q E (m.deeper _) i;have I:Inv (wO CX P w K mg base N l g f p A j s H E) [] (sM N T) H G:=BV S m.hd h X r x;refine dB (Z [] G (sM N T) H _ I Y) (λM D d=>?_) λe D d=>d
 have fin:∀ {a:St} {U:Hp} {v:V} {u:Ac},Inv (wO CX P w K mg base N l g f p A j s H E) [] a U D->lS v u->Q v U->CE j P w H s Q u D :=
  λ{a U v u} J B q=>⟨v,U,J.os,J.bare,J.base,J.hok,B,q⟩
 cases M with
 | ret u =>
  obtain⟨v,a,U,J,B,q⟩:=d;exact fin J B q
 | next =>
  obtain⟨a,U,J,q⟩:=d;exact fin (v:=V.e) (u:=Value.none) J rfl q
 | brk =>
  obtain⟨_,_,_,q⟩:=d;exact False.elim q
 | cont =>
  obtain⟨_,_,_,q⟩:=d;exact False.elim q
section
variable {X:Cx}{id:String}
def Oa (r:Aa V->Hp->VK->Prop) (t:TA):TE:=λc H Q=>t c H λb a=>r b a Q
theorem rY (C:mU X (.builtin id) r) (J:Gl X x) (T:X.mg x=none) (hv:bootBuiltins x=some (.builtin id)) (o:PA X (e::l) t) (U:x ≠ "__name__" := by decide) (j:(x == ("__debug__" : Af))=false:=by decide)
  (g:StB X e l pos:=by exact {}):PE X (.Call (.Name x p) (e::l) [] pos) (Oa r t):=by
 intro c s d H Q I h;refine dD (sR I J T hv ?_ U j);exact PyProof.Rows.callWith_builtin1 (lM (o pos c s d H _ I h) λq n ⟨u,f,i,m,k⟩=>C c n d f u q Q i m k) g.a g.b
theorem Fo (C:mU X (.type T) r) (J:Gl X x) (U:X.mg x=none) (hv:bootBuiltins x=some (.type T)) (o:PA X (e::l) t) (hn:x ≠ "__name__" := by decide) (j:(x == ("__debug__" : Af))=false:=by decide)
  (g:StB X e l pos:=by exact {}):PE X (.Call (.Name x p) (e::l) [] pos) (Oa r t):=by
 intro c s d H Q I h;refine dD (sR I J U hv ?_ hn j);exact bY (lM (o pos c s d H _ I h) λq n ⟨u,f,i,m,k⟩=>C c n d f u q Q i m k) g.a g.b
end
end L2
namespace HT
open PySem PyProof.Rows
section
theorem cat_tup (J:IsTup s.heap t j.toArray) (I:IsTup s.heap b g.toArray) (o:j≠[])
  (r:g=[]->Q (.ref t) s) (C:g≠[]->Q (.ref s.heap.objs.size) { s with heap:=s.heap.push { cls:=.type "tuple",data:=.seq (j++g).toArray } })
  (l:j.length+g.length<=sizeLine):wpAny (model p w) A (binaryOp .Add (.ref t) (.ref b)) Q E s:=by
 obtain⟨⟨cls,m,data,sl⟩,i,q,n,hd⟩:=id J;obtain⟨⟨k,c,data2,h⟩,a,d,u,f⟩:=id I;simp only at q hd d f;subst q hd d f;have e:j.toArray++g.toArray=(j++g).toArray:=by simp
 by_cases hw:g=[]
 .exact concat_meets ⟨_,i,rfl⟩ ⟨_,a,rfl⟩ noFill_tuple_add seq_tuple_add jD iY (iP _ _)
   (tuple_addW1 t b j.toArray g.toArray n u m c sl h (by simpa using o) (by simp[hw])) ⟨i,a,r hw⟩
 .refine concat_meets ⟨_,i,rfl⟩ ⟨_,a,rfl⟩ noFill_tuple_add seq_tuple_add jD iY (iP _ _)
   (tuple_addW2 t b j.toArray g.toArray n u m c sl h (by simpa using o) (by simpa using hw) (by rw[aM,aM];exact l)) ⟨i,a,?_⟩
  rw[e];exact C hw
noncomputable def sIx (n d:Nat):Ab Int->Nat
 | none=>d
 | some v=>if v<0 then (v+(n:Int)).toNat else min v.toNat n
theorem sIx_none (n d:Nat):sIx n d none=d:=rfl
theorem sIx_nat (n d k:Nat):sIx n d (some (k:Int))=min k n:=by
 show (if (k:Int)<0 then ((k:Int)+(n:Int)).toNat else min (k:Int).toNat n)=min k n;rw[bF (by omega),cR]
theorem sIx_le (n d:Nat) (hd:d<=n) (o:Ab Int):sIx n d o<=n:=by
 cases o with
 | none=>exact hd
 | some v =>
  show (if v<0 then (v+(n:Int)).toNat else min v.toNat n)<=n;by_cases a:v<0
  .rw[bA a];omega
  .rw[bF a];exact Nat.min_le_right _ _
theorem Oj (v:Int) (n d:Nat):(if v<0 then max (v+(n:Int)) 0 else min v (n:Int))=((sIx n d (some v):Nat):Int):=by
 show (if v<0 then max (v+(n:Int)) 0 else min v (n:Int))=(((if v<0 then (v+(n:Int)).toNat else min v.toNat n):Nat):Int);by_cases a:v<0
 .simp only[bA a];omega
 .simp only[bF a];omega
theorem Va (lo g:Ab Int) (n:Nat):Builtin.Slice.sliceAdjust lo g 1 (n:Int)=(((sIx n 0 lo:Nat):Int),((sIx n n g:Nat):Int)):=by
 have a:¬ ((1:Int)<0):=by omega
 unfold Builtin.Slice.sliceAdjust;simp only[a,eZ];refine Prod.ext ?_ ?_
 .cases lo with
  | none=>rfl
  | some v=>exact Oj v n 0
 .cases g with
  | none=>rfl
  | some v=>exact Oj v n n
theorem BK (i j:Nat):Builtin.Slice.slicePlaces (i:Int) (j:Int) 1=j-i:=by
 unfold Builtin.Slice.slicePlaces;have a:(1:Int)>0:=by omega
 simp only[a,eV,Int.ediv_one];split<;>omega
theorem Mb (p:IsPart v o) (h:Q o s):wpAny (model g w) A (Builtin.Slice.slicePartIndex v) Q E s:=by
 cases p with
 | none=>exact slicePart_none h
 | int i t=>exact slicePart_int h
theorem BN {sl:Ad}{j l:Ac}{lo g:Ab Int}{n:Nat}{Q:Int×Int×Nat->Ae->Prop}(p:s.heap.IsSliceOf sl j l .none) (r:IsPart j lo) (C:IsPart l g)
  (h:Q (((sIx n 0 lo:Nat):Int),1,sIx n n g-sIx n 0 lo) s):wpAny (model o w) A (Builtin.Slice.sliceApplied (.ref sl) (pure (n:Int))) Q E s:=by
 obtain⟨os,b,c,a⟩:=id p;unfold Builtin.Slice.sliceApplied Builtin.Slice.sliceFields;refine aA (aA (dP b a (x:=j) rfl (aA (dP b a (x:=l) rfl (aA (dP b a (x:=.none) rfl (aE ?_)))))));refine aA (slicePart_none ?_);show wpAny _ _ (if ((1:Int) == 0)=true then _ else _) _ _ s;rw[bF (by decide)];refine aA (Mb r (aA (Mb C (aA (aE ?_)))));show wpAny _ _ (match Builtin.Slice.sliceAdjust lo g 1 (n:Int) with | (lo,g)=>pure (lo,(1:Int),Builtin.Slice.slicePlaces lo g 1)) _ _ s;rw[Va lo g n];show wpAny _ _ (pure (((sIx n 0 lo:Nat):Int),(1:Int),Builtin.Slice.slicePlaces ((sIx n 0 lo:Nat):Int) ((sIx n n g:Nat):Int) 1)) _ _ s;rw[BK];exact aE h
theorem CB (g:Array Ac) (i k:Nat):((List.range k).filterMap λ(m:Nat)=>g[((i:Int)+(m:Int)*1).toNat]?).toArray=((g.toList.drop i).take k).toArray:=by
 have e:(λ(m:Nat)=>g[((i:Int)+(m:Int)*1).toNat]?)=λm=>g[i+m]?:=by
  funext m
  have:((i:Int)+(m:Int)*1).toNat=i+m:=by omega
  rw[this]
 rw[e];have:=pick_run g i k;rw[List.filterMap_map] at this;have a:((λx=>g[x]?)∘λx=>i+x)=λm=>g[i+m]?:=rfl
 rw[a] at this;rw[this]
theorem getItem_tuple_cut {sl:Ad}{lo:Ab Int}(j:IsTup s.heap t items) (l:s.heap.IsSliceOf sl I J .none) (r:IsPart I lo) (C:IsPart J g)
  (hw:¬ (sIx items.size 0 lo=0/\sIx items.size items.size g=items.size))
  (h:Q (.ref s.heap.objs.size) { s with heap:=s.heap.push { cls:=.type "tuple",data:=.seq ((items.toList.drop (sIx items.size 0 lo)).take (sIx items.size items.size g-sIx items.size 0 lo)).toArray } })
  (p:items.size<=sizeLine):wpAny (model o w) A (getItem (.ref t) (.ref sl)) Q E s:=by
 have a:sizeOk (.seq ((items.toList.drop (sIx items.size 0 lo)).take (sIx items.size items.size g-sIx items.size 0 lo)).toArray):=by
  show ((items.toList.drop (sIx items.size 0 lo)).take (sIx items.size items.size g-sIx items.size 0 lo)).toArray.size<=sizeLine;rw[aM,bR,dN,gA];omega
 have i:sIx items.size items.size g<=items.size:=sIx_le _ _ (aL _) g;obtain⟨os,e,c,f⟩:=id l;have b:s.TypeIs (.ref sl) "slice" := ⟨os,e,c⟩;unfold getItem
 try with_reducible refine bV ?_
 first | refine aA (aE ?_) | skip
 refine aA (wpAny_sequenceKey j.typeIs (by decide) ?_);refine aA (cD (name:=Str.ofString "__getitem__") j.typeIs fZ (eC fZ j.typeIs entry_tuple_getitem ?_ (args_tuple_getitem _ _)));show wpAny _ _ (Builtin.Tuple.tupleItemsOf (.ref t) >>= _) _ _ s;refine aA (tupleItemsOf_ j ?_);refine aA (eW b ?_);rw[bA (by decide)];refine aA (BN l r C ?_);have d:¬ ((((sIx items.size 0 lo:Nat):Int) == 0&&(1:Int) == 1&&(sIx items.size items.size g-sIx items.size 0 lo) == items.size)=true):=by
  intro q;rw[bS,bS] at q;have k:((sIx items.size 0 lo:Nat):Int)=0:=eq_of_beq q.1.1;have n:sIx items.size items.size g-sIx items.size 0 lo=items.size:=eq_of_beq q.2;exact hw ⟨by omega,by omega⟩
 show wpAny _ _ (if (((sIx items.size 0 lo:Nat):Int) == 0&&(1:Int) == 1&&(sIx items.size items.size g-sIx items.size 0 lo) == items.size)=true then _ else _) _ _ s;rw[bF d,CB]
 first
  | exact aA (m:=Builtin.Tuple.tupleExact _) (fA (aE ⟨_,rfl,aE h⟩) a)
  | exact aA (m:=Builtin.Tuple.tupleExact _) (fA (aA (aE (aE ⟨_,rfl,aE h⟩))) a)
  | exact aA (aA (m:=Builtin.Tuple.tupleExact _) (fA (aE (aE ⟨_,rfl,aE h⟩)) a))
  | exact aA (aA (m:=Builtin.Tuple.tupleExact _) (fA (aE ⟨_,rfl,aE h⟩) a))
end
end HT
namespace L2
open PySem PySem.Spec PyProof.Rows
abbrev TO:=St->Hp->(Ab Int->Hp->Prop)->Prop
def PO (X:Cx) (e:Ab Expr) (t:TO):Prop :=
 ∀ (a:Aa (Ad×Obj)) (s:Ae) (b:St) (H:Hp) (Q:Ab Int->Hp->Prop),Inv X a b H s->t b H Q ->
  wpAny (model X.prog X.w) X.A (evalPart e X.env) (λu d=>∃ o c,Inv X a b c d/\IsPart u o/\Q o c) X.xe s
def Ox:TO:=λ_ H Q=>Q none H
def Ma (t:TE):TO:=λb H Q=>t b H λx a=>∃ i,x = .int i/\Q (some i) a
theorem BQ:∀ {g:Aa Ac},lN (j.map V.int) g->IntsAre g j:=by
 induction j with
 | nil=>intro g r;rw[kX] at r;cases r;exact .nil
 | cons n j a =>
  intro g r;rw[aZ] at r;cases r with
  | cons b c =>
   obtain⟨t,e⟩:=b;subst e;exact .cons n t (a c)
section
variable {X:Cx}{lo:Ab Expr}
theorem zY:PO X none Ox:=by
 intro a s b H Q I h;rw[evalPart_none];exact aE ⟨none,H,I,.none,h⟩
theorem Ao (h:PE X e g):PO X (some e) (Ma g):=by
 intro a s m H Q I hw;rw[evalPart_some];refine lM (h a s m H _ I hw) λu n b=>?_
 obtain⟨x,c,d,k,f⟩:=b;obtain⟨i,rfl,q⟩:=f;obtain⟨t,rfl⟩:=k;exact⟨some i,c,d,.int i t,q⟩
def uE (X:Cx) (r:V->Ab Int->Ab Int->Hp->VK->Prop):Prop :=
 ∀ (a:Aa (Ad×Obj)) (s:Ae) (e:St) (H:Hp) (x:V) (v c d:Ac) (lo b:Ab Int) (sl:Ad) (Q:VK),Inv X a e H s->lS x v->s.heap.IsSliceOf sl c d .none->IsPart c lo->IsPart d b->r x lo b H Q ->
  ∃ T id,typeLookup (.type T) "__getitem__" = pure (some (.builtin id))/\s.TypeIs v T/\wpAny (model X.prog X.w) X.A (getItem v (.ref sl)) (EP X a e Q) X.xe s
theorem uE.or (h:uE X r) (j:uE X l):uE X (λx lo g H Q=>r x lo g H Q\/l x lo g H Q):=by
 intro a s k H x v f i lo g sl Q I e b c d q;rcases q with q | q
 .exact h a s k H x v f i lo g sl Q I e b c d q
 .exact j a s k H x v f i lo g sl Q I e b c d q
def AD (r:V->Ab Int->Ab Int->Hp->VK->Prop) (g:TE) (o j:TO):TE:=λa H Q=>g a H λx b=>o a b λl c=>j a c λu d=>r x l u d Q
theorem A9 (p:uE X r) (j:PE X e U) (o:PO X lo tl) (C:PO X g th):PE X (.Subscript e (.Slice lo g none J) pos) (AD r U tl th):=by
 intro a s f H Q I h;refine Subscript_ (lM (j a s f H _ I h) λv R d=>?_);obtain⟨x,n,y,P,M⟩:=d;refine wpAny_Slice (lM (o a R f n _ y M) λi S ⟨l,t,z,K,N⟩=>lM (C a S f t _ z N) λk c d=>?_);obtain⟨u,m,B,L,O⟩:=d;rw[evalPart_none];refine aE ?_;have D:Inv X a f m { c with heap:=c.heap.push { cls:=.type "slice",data:=.fields #[i,k,.none] } }:=B.kept (t':=c.toks) λb V q=>aD _ q
 obtain⟨T,id,E,G,F⟩:=p a { c with heap:=c.heap.push { cls:=.type "slice",data:=.fields #[i,k,.none] } } f m x v i k l u c.heap.objs.size Q D P (Heap.IsSliceOf.new ..) K L O;show wpAny (model X.prog X.w) X.A (subscriptTail e (.Slice lo g none J) v (.ref c.heap.objs.size)) (EP X a f Q) X.xe { c with heap:=c.heap.push { cls:=.type "slice",data:=.fields #[i,k,.none] } };exact tail_any (ops:=[.ref c.heap.objs.size,v]) G E F (by with_unfolding_all rfl)
def tQ (g:Aa V) (lo j:Ab Int):Aa V:=(g.drop (HT.sIx g.length 0 lo)).take (HT.sIx g.length g.length j-HT.sIx g.length 0 lo)
theorem Q6 (g:Aa V) (lo j:Ab Int):(tQ g lo j).length<=g.length:=by
 unfold tQ;rw[bR,dN];omega
def M9 (K:lJ):V->Ab Int->Ab Int->Hp->VK->Prop:=λx lo c H Q=>∃ a b,x = .ref a/\mH K H a b /\
 ¬ (HT.sIx b.length 0 lo=0/\HT.sIx b.length b.length c=b.length)/\∀ p,H p=none->Q (.ref p) (upd H p (.t (tQ b lo c)))
theorem Tk:uE X (M9 X.K):=by
 intro m s E H x v B D lo e sl Q I z n w y h;obtain⟨a,d,rfl,u,hw,q⟩:=h;cases z;obtain⟨f,r,i,k⟩:=I.tuple u;have c:f.toArray.size=d.length:=by rw[aM];exact r.length.symm
 refine⟨"tuple",_,fZ.lookup,i.typeIs,?_⟩;refine HT.getItem_tuple_cut i n w y (by rw[c];exact hw) ?_ (by rw[c];exact k);rw[c];refine⟨.ref s.heap.objs.size,_,I.laid (t':=s.toks) (o:=.t (tQ d lo e)) (λb A q=>aD _ q) (aL _) ?_,rfl,q _ (I.hok.fresh (aL _))⟩;exact⟨bX (Q6 d lo e) k,_,(r.drop (HT.sIx d.length 0 lo)).take (HT.sIx d.length d.length e-HT.sIx d.length 0 lo),wA.new _ _⟩
def Om (K:lJ):R2:=λx y H Q=>∃ a b d c,x = .ref a/\y = .ref b/\mH K H a d/\mH K H b c/\d≠[]/\d.length+c.length<=sizeLine /\
 (c=[]->Q (.ref a) H)/\(c≠[]->∀ p,H p=none->Q (.ref p) (upd H p (.t (d++c))))
theorem lN.nil_iff (r:lN j g):g=[]↔j=[]:=by
 cases r with
 | nil=>simp
 | cons _ _=>simp
theorem GG:mE X (binaryOp .Add) (Om X.K):=by
 intro i s P H x y v u Q I G L h;obtain⟨a,b,M,N,rfl,rfl,k,m,n,e,E,F⟩:=h;cases G;cases L;obtain⟨A,d,B,_⟩:=I.tuple k;obtain⟨f,c,D,_⟩:=I.tuple m;refine HT.cat_tup B D (λz=>n (d.nil_iff.mp z)) (λz=>⟨.ref a,H,I,rfl,E (c.nil_iff.mp z)⟩) (λz=>?_) (by rw[<- d.length,<- c.length];exact e);refine⟨.ref s.heap.objs.size,_,I.laid (t':=s.toks) (o:=.t (M++N)) (λb O q=>aD _ q) (aL _) ?_,rfl,F (λw=>z (c.nil_iff.mpr w)) _ (I.hok.fresh (aL _))⟩;exact⟨by rw[bL];exact e,_,d.append c,wA.new _ _⟩
end
noncomputable def rC (n:Nat) (i:Int):Ab Nat:=if 0<=i then (if i<n then some i.toNat else none) else if -(n:Int)<=i then some (i+n).toNat else none
def mQ {l:Type}(g:Aa l) (i:Int):Ab l:=(rC g.length i).bind λj=>g[j]?
theorem Pk (h:rC n i=some j):seqIndex? i n=some j/\j<n/\-(n:Int)<=i/\i<n:=by
 unfold rC at h;by_cases b:0<=i
 .rw[bA b] at h;by_cases a:i<n
  .rw[bA a] at h;have e:i.toNat=j:=cA h;exact⟨by rw[seqIndex_of b a,e],by omega,by omega,a⟩
  .rw[bF a] at h;cases h
 .rw[bF b] at h;by_cases a:-(n:Int)<=i
  .rw[bA a] at h;have e:(i+n).toNat=j:=cA h;exact⟨by rw[seqIndex_neg (by omega) a,e],by omega,a,by omega⟩
  .rw[bF a] at h;cases h
theorem Hm (h:mQ g i=some v):∃ j,seqIndex? i g.length=some j/\g[j]?=some v/\j<g.length/\-(g.length:Int)<=i/\i<g.length:=by
 unfold mQ at h;cases e:rC g.length i with
 | none=>rw[e] at h;cases h
 | some j =>
  rw[e] at h;obtain⟨a,b,c,d⟩:=Pk e;exact⟨j,a,h,b,c,d⟩
theorem oA {l:Type}{g:Aa l}{j:Nat}{v:l}(h:g[j]?=some v):mQ g (j:Int)=some v:=by
 have a:j<g.length:=(aP.mp h).1;have e:rC g.length (j:Int)=some j:=by
  unfold rC;rw[bA (by omega),bA (by omega)];simp
 unfold mQ;rw[e];exact h
def Jp (b:Expr):Prop:=∀ o i,subscripted b false o i=operate [o,i] (getItem o i)
def tE (X:Cx) (r:R2):Prop :=
 ∀ (value slice:Expr) (a:Aa (Ad×Obj)) (s:Ae) (b:St) (H:Hp) (x y:V) (v u:Ac) (Q:VK),Inv X a b H s->lS x v->lS y u->r x y H Q ->
  subscripted slice false v u=operate [v,u] (getItem v u)->wpAny (model X.prog X.w) X.A (subscriptTail value slice v u) (EP X a b Q) X.xe s
def wT (X:Cx) (id:String) (r:V->Aa V->Hp->VK->Prop):Prop :=
 ∀ (a:Aa (Ad×Obj)) (s:Ae) (d:St) (H:Hp) (x:V) (c:Aa V) (v:Ac) (b:Aa Ac) (Q:VK),Inv X a d H s->lS x v->lN c b->r x c H Q ->
  wpAny (model X.prog X.w) X.A (call (.builtin id) (v::b)) (EP X a d Q) X.xe s
section
variable {X:Cx}
theorem tE.or (h:tE X r) (g:tE X j):tE X (λx y H Q=>r x y H Q\/j x y H Q):=by
 intro value slice a s e H x y v u Q I c d q b;rcases q with q | q
 .exact h value slice a s e H x y v u Q I c d q b
 .exact g value slice a s e H x y v u Q I c d q b
theorem oM {r:R2}(l:tE X r) (g:PE X a p) (j:PE X b C) (o:Jp b):PE X (.Subscript a b pos) (Au r p C):=by
 intro c s m H Q I h;exact Subscript_ (Ke g j I h λv u k x y d e f i q=>l a b c k m d x y v u Q e f i q (o _ _))
def Ca (K:lJ):R2:=λx y H Q=>∃ p a i v,x = .ref p/\y = .int i/\gV K H p a/\mQ a i=some v/\Q v H
def K7 (K:lJ):R2:=λx y H Q=>∃ p a i v,x = .ref p/\y = .int i/\mH K H p a/\mQ a i=some v/\Q v H
def N7:R2:=λx y H Q=>∃ z i c,x = .str z/\y = .int i/\z.length<=sizeLine/\mQ z.cps.toList i=some c/\Q (.str ⟨#[c]⟩) H
theorem pT:tE X (Ca X.K):=by
 intro value slice a s A H x y v u Q I M N h n;obtain⟨p,V,i,z,rfl,rfl,L,F,q⟩:=h;cases M;obtain⟨t,rfl⟩:=N;obtain⟨d,r,e,S⟩:=I.list L;obtain⟨j,b,B,P,D,E⟩:=Hm F;obtain⟨w,k,f⟩:=r.get B;have G:=r.length;have R:=xU;have fin:EP X a A Q w s:=⟨z,H,I,f,q⟩;by_cases m:0<=i
 .have c:i.toNat=j:=by
   rw[seqIndex_of m E] at b;exact cA b
  exact item_listR e.isList m (by omega) (by rw[c];simpa using k) fin n
 .have c:(i+(d.toArray.size:Int)).toNat=j:=by
   rw[seqIndex_neg (by omega) D] at b;rw[aM,<- G];exact cA b
  exact subscriptTail_builtinR (x:=w) e.isList.typeIs slot_list_getitem.lookup
   (wpAny_getItem_list_neg (Q:=λr O=>r=w/\EP X a A Q r O) e.isList (by omega) (by rw[aM]<;>omega) (by omega) (by rw[c];simpa using k) ⟨rfl,fin⟩) n
theorem Ti:tE X (K7 X.K):=by
 intro value slice a s d H x y v u Q I E F h B;obtain⟨p,R,i,z,rfl,rfl,A,m,q⟩:=h;cases E;obtain⟨t,rfl⟩:=F;obtain⟨D,r,c,P⟩:=I.tuple A;obtain⟨j,f,k,L,M,N⟩:=Hm m;obtain⟨w,e,b⟩:=r.get k;have n:=r.length;have O:=xU;have fin:EP X a d Q w s:=⟨z,H,I,b,q⟩;exact subscriptTail_builtinR (x:=w) c.typeIs slot_tuple_getitem.lookup
  (getItem_tuple (j:=j) (Q:=λr G=>r=w/\EP X a d Q r G) c (by omega) (by omega) (by rw[aM,<- n];exact f) (by simpa using e) ⟨rfl,fin⟩) B
theorem Es:tE X N7:=by
 intro value slice b s L H x y v u Q I B D h A;obtain⟨z,i,c,rfl,rfl,G,n,q⟩:=h;obtain⟨t,rfl⟩:=B;obtain⟨K,rfl⟩:=D;obtain⟨j,a,f,E,k,m⟩:=Hm n;have w:z.cps.toList.length=z.length:=by simp[Str.length]
 rw[w] at a k m;have F:=xU;exact tail_any (kD s z t) slot_str_getitem.lookup (getItem_str (c:=c) (by
  have d:decide (i < -(2 ^ 63:Int))=false:=cG (by omega);have e:decide (i>=2 ^ 63)=false:=cG (by omega);rw[d,e,Bool.or_false]) (by rw[a];simpa using f) ⟨.str ⟨#[c]⟩,H,I.tok _,⟨_,rfl⟩,q⟩) A
def O4 (K:lJ):R2:=λx y H Q=>Ca K x y H Q\/K7 K x y H Q\/N7 x y H Q
theorem BJ:tE X (O4 X.K):=pT.or (Ti.or Es)
theorem Wq (g:Aa Ac) (n j:Nat) (u:Ac):Obj.mapSeq (·.setIfInBounds j u) { cls:=.type "list",data:=.seq g.toArray n }={ cls:=.type "list",data:=.seq (g.set j u).toArray n }:=by
 simp[Obj.mapSeq]
theorem Inv.lst {j:Aa (Ad×Obj)}{C:St}{H:Hp}{s:Ae}{p:Ad}{o:Aa V}(I:Inv X j C H s) (h:H p=some (.l o)) :
  ∃ (g:Aa Ac) (n:Nat),lN o g/\s.heap.get? p=some { cls:=.type "list",data:=.seq g.toArray n }/\o.length<=sizeLine:=by
 obtain⟨z,g,n,r,e⟩:=I.hok p _ h;exact⟨g,n,r,e,z⟩
theorem Inv.lstUpd {j:Aa Ac}(I:Inv X o σ H s) (h:H p=some (.l xs))
  (U:s.heap.get? p=some { cls:=.type "list",data:=.seq j.toArray n }) (C:f { cls:=.type "list",data:=.seq j.toArray n }={ cls:=.type "list",data:=.seq g.toArray J }) (r:lN T g) (hz:T.length<=sizeLine) (t:Nat) :
  Inv X o σ (upd H p (.l T)) { s with heap:=s.heap.update p f,toks:=t }:=by
 have e:(s.heap.update p f).get? p=some { cls:=.type "list",data:=.seq g.toArray J }:=by
  rw[jK f U (by rw[C]<;>rfl),C]
 refine I.write (x:=p) (e:=p) (by rw[h];trivial) (.inl rfl) (λb u a q=>(jE _ _ (cO a)).trans q) ⟨_,e⟩ ?_;exact⟨hz,g,J,r,e⟩
def L6:V->V->V->Hp->(Hp->Prop)->Prop:=λo i v H Q=>∃ p a k j,o = .ref p/\i = .int k/\H p=some (.l a)/\rC a.length k=some j/\Q (upd H p (.l (a.set j v)))
theorem En:Gb X L6:=by
 intro b s K H o i v O N u Q I E D F h;obtain⟨p,G,k,j,rfl,rfl,z,A,q⟩:=h;cases E;obtain⟨t,rfl⟩:=D;obtain⟨a,n,r,f,B⟩:=I.lst z;obtain⟨c,L,x,y⟩:=Pk A;have e:=r.length;have M:=xU;have m:Inv X b K (upd H p (.l (G.set j v))) { s with heap:=s.heap.update p (Obj.mapSeq (·.setIfInBounds j u)) } :=
  I.lstUpd z f (Wq a n j u) (r.set F j) (by rw[bO];exact B) s.toks
 by_cases w:0<=k
 .have d:k.toNat=j:=by
   rw[seqIndex_of w y] at c;exact cA c
  exact PySem.W.ki_setAt f w (by omega) (by rw[aM,<- e];exact y) (by rw[d];exact⟨_,m,q⟩)
 .have d:(k+(a.toArray.size:Int)).toNat=j:=by
   rw[seqIndex_neg (by omega) x] at c;rw[aM,<- e];exact cA c
  exact PySem.W.ki_setBack f (by omega) (by rw[aM,<- e];exact x) (by omega) (by rw[d];exact⟨_,m,q⟩)
theorem Vn (lo g:Ab Int) (n:Nat):(sliceBounds lo g none n).1=((HT.sIx n 0 lo:Nat):Int)/\(sliceBounds lo g none n).2.1=((HT.sIx n n g:Nat):Int)/\(sliceBounds lo g none n).2.2=1:=by
 refine⟨?_,?_,rfl⟩
 .cases lo with
  | none=>simp[sliceBounds,HT.sIx]
  | some i =>
   simp only[sliceBounds,HT.sIx,Option.getD_none,show (1:Int)>0 by decide,eV];by_cases h:i<0
   .simp only[h,eV]<;>omega
   .simp only[h,eZ]<;>omega
 .cases g with
  | none=>simp[sliceBounds,HT.sIx]
  | some i =>
   simp only[sliceBounds,HT.sIx,Option.getD_none,show (1:Int)>0 by decide,eV];by_cases h:i<0
   .simp only[h,eV]<;>omega
   .simp only[h,eZ]<;>omega
theorem EY (g:Aa Ac) (lo j:Ab Int):slicePick g.toArray lo j none=((g.drop (HT.sIx g.length 0 lo)).take (HT.sIx g.length g.length j-HT.sIx g.length 0 lo)).toArray:=by
 obtain⟨a,b,c⟩:=Vn lo j g.toArray.size;unfold slicePick;rw[a,b,c];simp only[sliceRange_one,pick_run,aM]<;>rfl
def Rn (K:lJ):V->Ab Int->Ab Int->Hp->VK->Prop:=λx lo c H Q=>∃ a b,x = .ref a/\gV K H a b/\∀ p,H p=none->Q (.ref p) (upd H p (.l (tQ b lo c)))
theorem Js:uE X (Rn X.K):=by
 intro i s D H x v A B lo e sl Q I y k u w h;obtain⟨a,c,rfl,m,q⟩:=h;cases y;obtain⟨t,r,f,n⟩:=I.list m;have d:=r.length;refine⟨"list",_,slot_list_getitem.lookup,f.isList.typeIs,?_⟩;refine wpAny_getItem_list_slice f.isList k u w .none (by simp) ?_ (by rw[aM]<;>omega);rw[EY,<- d];refine⟨.ref s.heap.objs.size,_,I.laid (t':=s.toks) (o:=.l (tQ c lo e)) (λb z q=>aD _ q) (aL _) ?_,rfl,q _ (I.hok.fresh (aL _))⟩;exact⟨bX (Q6 c lo e) n,_,0,(r.drop (HT.sIx c.length 0 lo)).take (HT.sIx c.length c.length e-HT.sIx c.length 0 lo),aQ _ rfl⟩
def qB:V->Bool
 | .e=>true
 | .b _=>true
 | .int _=>true
 | .str _=>true
 | _=>false
noncomputable def oE:V->V->Bool
 | .e,.e=>true
 | .b a,.b b=>a == b
 | .b a,.int b=>(if a then 1 else 0) == b
 | .int a,.b b=>a == (if b then 1 else 0)
 | .int a,.int b=>a == b
 | .str a,.str b=>a == b
 | _,_=>false
theorem Qu (l:lS y u) (g:lS x v) (o:qB y=true) (j:qB x=true):SeqAt.EqAt A s u v (oE y x):=by
 cases y with
 | e =>
  cases l;cases x with
  | e=>cases g;exact SeqAt.EqAt.same _
  | b b=>cases g;exact SeqAt.EqAt.none_bool b
  | int b=>obtain⟨t,rfl⟩:=g;exact SeqAt.EqAt.none_int b t
  | str b=>obtain⟨t,rfl⟩:=g;exact SeqAt.EqAt.none_str b t
  | _=>exact absurd (show false=true from j) bD
 | b a =>
  cases l;cases x with
  | e=>cases g;exact SeqAt.EqAt.bool_none a
  | b b=>cases g;exact SeqAt.EqAt.bool_bool a b
  | int b=>obtain⟨t,rfl⟩:=g;exact SeqAt.EqAt.bool_int a b t
  | str b=>obtain⟨t,rfl⟩:=g;exact SeqAt.EqAt.bool_str a b t
  | _=>exact absurd (show false=true from j) bD
 | int a =>
  obtain⟨c,rfl⟩:=l;cases x with
  | e=>cases g;exact SeqAt.EqAt.int_none a c
  | b b=>cases g;exact SeqAt.EqAt.int_bool a c b
  | int b=>obtain⟨t,rfl⟩:=g;exact SeqAt.EqAt.int_int a c b t
  | str b=>obtain⟨t,rfl⟩:=g;exact SeqAt.EqAt.int_str a c b t
  | _=>exact absurd (show false=true from j) bD
 | str a =>
  obtain⟨c,rfl⟩:=l;cases x with
  | e=>cases g;exact SeqAt.EqAt.str_none a c
  | b b=>cases g;exact SeqAt.EqAt.str_bool a c b
  | int b=>obtain⟨t,rfl⟩:=g;exact SeqAt.EqAt.str_int a c b t
  | str b=>obtain⟨t,rfl⟩:=g;exact SeqAt.EqAt.str_str a c b t
  | _=>exact absurd (show false=true from j) bD
 | _=>exact absurd (show false=true from o) bD
def pX (x:V) (u:Ac):Bool:=match u with
 | .none=>oE .e x
 | .bool b=>oE (.b b) x
 | .int i _=>oE (.int i) x
 | .str z _=>oE (.str z) x
 | _=>false
theorem Jo (r:lS y u) (f:qB y=true):pX x u=oE y x:=by
 cases y with
 | e=>cases r;rfl
 | b b=>cases r;rfl
 | int i=>obtain⟨t,rfl⟩:=r;rfl
 | str z=>obtain⟨t,rfl⟩:=r;rfl
 | _=>exact absurd (show false=true from f) bD
theorem Be:∀ {g:Aa V}{j:Aa Ac},lN g j->g.all qB=true->j.any (pX x)=g.any λy=>oE y x
 | _,_,.nil,_=>rfl
 | y::g,u::j,.cons r t,f=>by
  rw[List.all_cons,bS] at f;rw[eX,eX,Jo r f.1,Be t f.2]
theorem yO (o:lS x v) (l:qB x=true):∀ {j:Aa V}{g:Aa Ac},lN j g->j.all qB=true->∀ u∈g,SeqAt.EqAt A s u v (pX x u)
 | _,_,.nil,_=>λu a=>by cases a
 | y::j,u::g,.cons r t,f=>λb a=>by
  rw[List.all_cons,bS] at f;rcases aF.mp a with rfl | a
  .rw[Jo r f.1];exact Qu r o f.1 l
  .exact yO o l t f.2 b a
def sI (x:V) (g:Aa V):Bool:=g.any λy=>oE y x
def Dr (K:lJ) (neg:Bool):R2:=λx y H Q=>∃ p a,y = .ref p/\(gV K H p a\/mH K H p a)/\qB x=true/\a.all qB=true/\Q (.b (if neg then !sI x a else sI x a)) H
theorem Qd:mE X (compareOp .In) (Dr X.K false):=by
 intro f s t H x y v u Q I i m h;obtain⟨p,n,rfl,c,e,fs,q⟩:=h;cases m;rcases c with c | c
 .obtain⟨a,r,d,k⟩:=I.list c;refine SeqAt.in_listAt (pX x) d.isList (λw hw=>yO i e r fs w (by simpa using hw)) ⟨.b _,H,I,rfl,?_⟩;rw[show a.toArray.any (pX x)=a.any (pX x) by simp,Be r fs];exact q
 .obtain⟨a,r,d,k⟩:=I.tuple c;refine SeqAt.in_tupleAt (pX x) d (λw hw=>yO i e r fs w (by simpa using hw)) ⟨.b _,H,I,rfl,?_⟩;rw[show a.toArray.any (pX x)=a.any (pX x) by simp,Be r fs];exact q
theorem S4:mE X (compareOp .NotIn) (Dr X.K true):=by
 intro f s t H x y v u Q I i m h;obtain⟨p,n,rfl,c,e,fs,q⟩:=h;cases m;rcases c with c | c
 .obtain⟨a,r,d,k⟩:=I.list c;refine SeqAt.notIn_listAt (pX x) d.isList (λw hw=>yO i e r fs w (by simpa using hw)) ⟨.b _,H,I,rfl,?_⟩;rw[show a.toArray.any (pX x)=a.any (pX x) by simp,Be r fs];exact q
 .obtain⟨a,r,d,k⟩:=I.tuple c;refine SeqAt.notIn_tupleAt (pX x) d (λw hw=>yO i e r fs w (by simpa using hw)) ⟨.b _,H,I,rfl,?_⟩;rw[show a.toArray.any (pX x)=a.any (pX x) by simp,Be r fs];exact q
theorem vV:mU X (.builtin "len") (λj H Q=>∃ p g,j=[.ref p]/\(gV X.K H p g\/mH X.K H p g)/\Q (.int g.length) H):=by
 intro f s t H j n Q I r h;obtain⟨p,g,rfl,b,q⟩:=h;obtain⟨u,rfl,k⟩:=oV r;cases k;have m:=xU;rcases b with b | b
 .obtain⟨c,e,d,i⟩:=I.list b;have a:=e.length;exact Calls.call_len_list d.isList (by simp only[aM]<;>omega) ⟨.int g.length,H,I.tok _,⟨s.toks+1,by rw[aM,a]⟩,q⟩
 .obtain⟨c,e,d,i⟩:=I.tuple b;have a:=e.length;exact len_tuple d (by simp only[aM]<;>omega) ⟨.int g.length,H,I.tok _,⟨s.toks+1,by rw[aM,a]⟩,q⟩
theorem Md:mU X (.builtin "len") (λg H Q=>∃ z,g=[.str z]/\z.length<=sizeLine/\Q (.int z.length) H):=by
 intro a s e H g d Q I r h;obtain⟨z,rfl,c,q⟩:=h;obtain⟨u,rfl,t,rfl⟩:=oV r;have b:=xU;exact len_str (by omega) ⟨.int z.length,H,I.tok _,⟨_,rfl⟩,q⟩
theorem mU.or (h:mU X f r) (j:mU X f l):mU X f (λg H Q=>r g H Q\/l g H Q):=by
 intro a s d H g c Q I b q;rcases q with q | q
 .exact h a s d H g c Q I b q
 .exact j a s d H g c Q I b q
theorem Cf:mU X (.type "list") (λj H Q=>∃ p g,j=[.ref p]/\(gV X.K H p g\/mH X.K H p g)/\∀ l,H l=none->Q (.ref l) (upd H l (.l g))):=by
 intro v s D H j E Q I r h;obtain⟨p,g,rfl,k,q⟩:=h;obtain⟨u,rfl,B⟩:=oV r;cases B;have fin:∀ (a:Aa Ac),lN g a->g.length<=sizeLine->∀ (c:Ag) (d:Nat),(∀ b A,s.heap.get? b=some A->c.get? b=some A) ->
   c.get? s.heap.objs.size=some { cls:=.type "list",dict:=none,data:=.seq a.toArray d,slots:=#[] }->EP X v D Q (.ref s.heap.objs.size) { s with heap:=c }:=λa f m c d t e =>
  ⟨.ref s.heap.objs.size,_,I.laid (t':=s.toks) t (aL _) (show nW X.prog X.w _ c _ (.l g) from ⟨m,a,d,f,e⟩),rfl,q _ (I.hok.fresh (aL _))⟩
 rcases k with k | k
 .obtain⟨a,f,z,m⟩:=I.list k;have i:=f.length;obtain⟨o,y,x,n,hd⟩:=z.isList;exact call_list_seq p (.inl rfl) y x hd (λc d t e=>fin a f m c d t e) (by simp only[aM]<;>omega)
 .obtain⟨a,f,z,m⟩:=I.tuple k;have i:=f.length;obtain⟨o,y,x,n,hd⟩:=z;exact call_list_seq p (.inr rfl) y x hd (λc d t e=>fin a f m c d t e) (by simp only[aM]<;>omega)
theorem tA:mU X (.type "tuple") (λj H Q=>∃ p g,j=[.ref p]/\((gV X.K H p g/\∀ l,H l=none->Q (.ref l) (upd H l (.t g)))\/(mH X.K H p g/\Q (.ref p) H))):=by
 intro a s x H j B Q I r h;obtain⟨p,g,rfl,h⟩:=h;obtain⟨u,rfl,A⟩:=oV r;cases A;rcases h with⟨f,q⟩ | ⟨f,q⟩
 .obtain⟨c,k,i,v⟩:=I.list f;have n:=k.length;refine call_tuple_list i.isList (λd z=>?_) (by simp only[aM]<;>omega);have m:Inv X a x H { s with heap:=d }:=I.kept (t':=s.toks) z;have y:Inv X a x (upd H d.objs.size (.t g)) { s with heap:=d.push { cls:=.type "tuple",data:=.seq c.toArray } } :=
   m.laid (t':=s.toks) (λb o e=>aD _ e) (aL _) (show nW X.prog X.w _ _ _ (.t g) from ⟨v,c,k,wA.new _ _⟩)
  exact⟨.ref d.objs.size,_,y,rfl,q _ (m.hok.fresh (aL _))⟩
 .obtain⟨c,k,i,v⟩:=I.tuple f;exact call_tuple_same i ⟨.ref p,H,I,rfl,q⟩
def C9 (K:lJ) (T:String) (x:V) (H:Hp):Prop:=match x with
 | .str _=>T = "str"
 | .int _=>T = "int"
 | .ref p=>(T = "list" /\ ∃ b,gV K H p b)\/(T = "tuple" /\ ∃ o,K.lookup p=some o/\o.cls = .type "tuple" /\ o.dict=none) \/
   (T = "dict" /\ ((∃ a,H p=some (.k a))\/∃ a,H p=some (.T a)))\/(T = "set" /\ ∃ S n,H p=some (.set S n))
 | _=>False
theorem Yw (I:Inv X j l H s) (r:lS x v) (ty:C9 X.K T x H) :
  s.TypeIs v T/\∀ a,v = .ref a->∃ g,s.heap.get? a=some g/\g.dict=none:=by
 cases x with
 | str z =>
  obtain⟨t,rfl⟩:=r;cases (show T = "str" from ty);exact⟨kD s z t,λ_ e=>nomatch e⟩
 | int i =>
  obtain⟨t,rfl⟩:=r;cases (show T = "int" from ty);exact⟨kY s i t,λ_ e=>nomatch e⟩
 | ref p =>
  cases r;rcases ty with⟨rfl,w,q⟩ | ⟨rfl,o,b,m,hd⟩ | ⟨rfl,b⟩ | ⟨rfl,S,n,b⟩
  .obtain⟨u,_,k,_⟩:=I.list q;refine⟨k.isList.typeIs,λa e=>?_⟩;cases e;obtain⟨o,n,e,c,hd,_⟩:=k;exact⟨o,e,hd⟩
  .refine⟨⟨o,I.kIn p o b,m⟩,λa e=>?_⟩;cases e;exact⟨o,I.kIn _ o b,hd⟩
  .have z:∃ o,s.heap.get? p=some o/\o.ExactDict:=by
    rcases b with⟨h,b⟩ | ⟨h,b⟩
    .obtain⟨_,_,_,_,o,_,_,e,d,_⟩:=I.hok p _ b;exact⟨o,e,d⟩
    .obtain⟨_,_,_,_,o,_,_,e,d,_⟩:=I.hok p _ b;exact⟨o,e,d⟩
   obtain⟨o,e,d⟩:=z;refine⟨⟨o,e,d.1⟩,λa f=>?_⟩;cases f;exact⟨o,e,d.2.1⟩
  .obtain⟨o,_,_,_,e,d,_⟩:=I.hok p _ b;refine⟨⟨o,e,d.1⟩,λa f=>?_⟩;cases f;exact⟨o,e,d.2.1⟩
 | _=>exact False.elim ty
def Kb (K:lJ) (T:String) (r:V->Aa V->Hp->VK->Prop) (g:TE) (t:TA):TE:=λb H Q=>g b H λx a=>C9 K T x a/\t b a λd c=>r x d c Q
variable {id:String}
structure MtB (X:Cx) (o:Expr) (name:Str) (apos:Pos) (e:Expr) (es:List Expr) (cpos:Pos):Prop extends StB X e es cpos where
 c:attributeBase o name X.env (eval o X.env)=eval o X.env:=by rfl
 d:((backTo cpos (starEach (e::es) X.env)).all (λx=>!x.1)&&(backToKw cpos (keywordEach [] X.env)).all (λx=>x.1.isSome)&&decide ((e::es).length+([]:List Keyword).length+(if ([]:List Keyword).isEmpty then 0 else 1)<30))=true:=by rfl
 f:(apos.endLine == cpos.line)=true:=by rfl
theorem xW (pa:PlainAttrs T) (slot:Slot T name id) (p:typeOf (.builtin id)=pure (.type "method_descriptor")) (J:wT X id r) (U:PE X o to) (C:PA X (e::l) t)
  (j:MtB X o name apos e l g:=by exact {}) :
  PE X (.Call (.Attribute o name apos) (e::l) [] g) (Kb X.K T r to t):=by
 intro i s m H Q I h;refine wpAny_Call_method_late j.c j.d j.f rfl (lM (U i s m H _ I h) λv G k=>?_);obtain⟨x,w,n,u,ty,D⟩:=k;obtain⟨A,B⟩:=Yw n u ty;refine⟨T,id,pa,slot,p,A,B,?_⟩;have q:=C g i G m w _ n D;rw[j.a] at q |-;refine Calls.callWith_builtin (by show (false||(backTo g (starEach l X.env)).any (·.1))=false;rw[j.b]<;>rfl) (Calls.evalArgs_plain ?_);exact lM q λM L ⟨N,y,z,F,E⟩=>J i L m y x N v M Q z u F E
/- xs.append(e),list.index on a module's tuple .. are wT facts of 06m -/
end
def Ms (X:Cx) (id:String) (r:V->Aa V->Hp->VK->Prop):Prop :=
 ∀ (a:Aa (Ad×Obj)) (s:Ae) (d:St) (H:Hp) (x:V) (c:Aa V) (v:Ac) (b:Aa Ac) (Q:VK),Inv X a d H s->lS x v->lN c b->r x c H Q ->
  wpAny (model X.prog X.w) X.A (call (.builtin id) (v::b)) (EP X a d Q) X.xe s
theorem lN.one:∀ {x:V}{g:Aa Ac},lN [x] g->∃ u,g=[u]/\lS x u
 | _,_,.cons r .nil=>⟨_,rfl,r⟩
theorem lN.eraseIdx:∀ {j:Aa V}{g:Aa Ac}(i:Nat),lN j g->lN (j.eraseIdx i) (g.eraseIdx i)
 | _,_,_,.nil=>.nil
 | _,_,0,.cons _ t=>t
 | _,_,i+1,.cons r t=>.cons r (lN.eraseIdx i t)
theorem lN.rep (h:lN j g):∀ k:Nat,lN (List.replicate k j).flatten (List.replicate k g).flatten
 | 0=>.nil
 | k+1=>by
  rw[cB,cB,fB,fB];exact lN.append h (lN.rep h k)
theorem Oy:∀ (l:Aa g) (i:Nat),(l.eraseIdx i).length<=l.length
 | [],_=>aL _
 | _::_,0=>iB _
 | _::r,i+1=>Nat.succ_le_succ (Oy r i)
theorem O6 (j:Aa Ac):∀ (k:Nat) (g:Aa Ac),
  List.foldl (λl o=>l++o) g.toArray (List.replicate k j.toArray)=(g++(List.replicate k j).flatten).toArray
 | 0,g=>by simp
 | k+1,g=>by
  have e:g.toArray++j.toArray=(g++j).toArray:=by simp
  have a:(g++j)++(List.replicate k j).flatten=g++(List.replicate (k+1) j).flatten:=by
   rw[cB,fB,bP]
  rw[<- a,<- O6 j k (g++j),<- e,cB,iT]
section
variable {X:Cx}
theorem Inv.lset {g:Aa Ac}(I:Inv X j T H s) (p:H l=some (.l xs))
  (e:s.heap.get? l=some { cls:=.type "list",data:=.seq g.toArray n }) (r:f g.toArray=its'.toArray) (C:lN o its') (J:o.length<=sizeLine) :
  Inv X j T (upd H l (.l o)) { s with heap:=s.heap.update l (Obj.mapSeq f),toks:=U }:=by
 have q:=PySem.IsL.update e f;rw[r] at q;refine I.write (x:=l) (e:=l) (by rw[p];exact trivial) (.inl rfl) (λc u a b=>(jE s.heap (Obj.mapSeq f) (cO a)).trans b) ⟨_,q⟩ ?_;exact⟨J,its',_,C,q⟩
theorem Inv.lnew (I:Inv X g p H s) (j:lN ys its) (o:ys.length<=sizeLine) :
  Inv X g p (upd H s.heap.objs.size (.l ys)) { s with heap:=s.heap.push { cls:=.type "list",data:=.seq its.toArray },toks:=t' } :=
 I.laid (λ_ _ q=>aD _ q) (aL _) ⟨o,its,0,j,aQ _ rfl⟩
theorem Inv.fresh (I:Inv X g j H s):H s.heap.objs.size=none:=I.hok.fresh (aL _)
theorem Inv.lstM (I:Inv X o C H s) (p:H l=some (.l j)):j.length<=sizeLine/\∃ (g:Aa Ac) (n:Nat),lN j g/\j.length=g.length/\s.heap.get? l=some { cls:=.type "list",data:=.seq g.toArray n }:=by
 obtain⟨z,g,n,r,e⟩:=I.hok l _ p;exact⟨z,g,n,r,r.length,e⟩
theorem EU (h:n<=sizeLine):Builtin.List.listTooLong n=false:=by
 unfold Builtin.List.listTooLong;exact cG (by omega)
end
section
variable {X:Cx}
def Kj:V->Aa V->Hp->VK->Prop:=λx b H Q=>∃ l a y,x = .ref l/\b=[y]/\H l=some (.l a)/\a.length<sizeLine/\Q .e (upd H l (.l (a++[y])))
theorem pF:Ms X "list.append" Kj:=by
 intro c s B H x w v t Q I i f h;obtain⟨l,A,y,rfl,rfl,b,m,q⟩:=h;cases i;obtain⟨u,rfl,d⟩:=f.one;obtain⟨z,a,n,r,k,e⟩:=I.lstM b;refine gL F.slot_list_append ⟨_,e,rfl⟩ F.entry_list_append (F.args_list_append_2 _ _) (PySem.list_append l a.toArray n u (by rw[aM];omega)) ⟨e,?_⟩;refine⟨.e,_,I.lset (its':=a++[u]) b e (by simp) (r.append (.cons d .nil)) ?_,rfl,q⟩;rw[bL,hV];omega
def HG:V->Aa V->Hp->VK->Prop:=λx d H Q=>∃ l b a c,x = .ref l/\d=[.ref b]/\H l=some (.l a)/\H b=some (.l c)/\a.length+c.length<=sizeLine/\Q .e (upd H l (.l (a++c)))
def Rg:V->Aa V->Hp->VK->Prop:=λx b H Q=>∃ l a i k y,x = .ref l/\b=[.int i]/\H l=some (.l a)/\-(2 ^ 63)<=i/\i<2 ^ 63/\seqIndex? i a.length=some k/\a[k]?=some y/\Q y (upd H l (.l (a.eraseIdx k)))
theorem Bk:Ms X "list.pop" Rg:=by
 intro d s O H x N v M Q I K G h;obtain⟨l,L,i,k,y,rfl,rfl,c,f,m,A,D,q⟩:=h;cases K;obtain⟨u,rfl,E⟩:=G.one;obtain⟨t,rfl⟩:=E;obtain⟨z,a,n,r,B,e⟩:=I.lstM c;obtain⟨w,hw,b⟩:=r.get D;refine gL F.slot_list_pop ⟨_,e,rfl⟩ F.entry_list_pop (F.args_list_pop_2 _ _)
  (MeetsSeq.list_pop_at l a.toArray n i t k w (fitsIndex_both f m) (by rw[aM,<- B];exact A) (by rw[<- eU];exact hw) (by rw[aM];omega)) ⟨e,?_⟩
 refine⟨y,_,I.lset (its':=a.eraseIdx k) c e ?_ (r.eraseIdx k) ?_,b,q⟩
 .show a.toArray.eraseIdxIfInBounds k=(a.eraseIdx k).toArray;rw[List.eraseIdxIfInBounds_toArray]
 .have:=Oy L k;omega
def Rp:R2:=λx y H Q=>∃ l b a c,x = .ref l/\y = .ref b/\H l=some (.l a)/\H b=some (.l c)/\a.length+c.length<=sizeLine/\∀ p,H p=none->Q (.ref p) (upd H p (.l (a++c)))
theorem zS:mE X (binaryOp .Add) Rp:=by
 intro d s M H x y v u Q I A B h;obtain⟨l,b,G,L,rfl,rfl,m,k,E,q⟩:=h;cases A;cases B;obtain⟨z,c,n,r,D,e⟩:=I.lstM m;obtain⟨K,a,F,w,t,f⟩:=I.lstM k;refine PySem.P.add_list e f ?_ (by rw[aM,aM];omega);have i:c.toArray++a.toArray=(c++a).toArray:=by simp
 rw[i];exact⟨.ref _,_,I.lnew (t':=s.toks) (r.append w) (by rw[bL];omega),rfl,q _ I.fresh⟩
def Mg:R2:=λx y H Q=>∃ l k a,x = .ref l/\y = .int k/\H l=some (.l a)/\-(2 ^ 63)<=k/\k<2 ^ 63/\a.length*k.toNat<=sizeLine /\
 ∀ p,H p=none->Q (.ref p) (upd H p (.l (List.replicate k.toNat a).flatten))
theorem Uc (g:Aa j) (k:Nat):(List.replicate k g).flatten.length=k*g.length:=by
 induction k with
 | zero=>simp
 | succ k a=>rw[cB,fB,bL,a,Nat.succ_mul,Nat.add_comm]
theorem BF:mE X (binaryOp .Mult) Mg:=by
 intro E s W H x y v u Q I O P h;obtain⟨l,k,V,rfl,rfl,M,K,L,D,q⟩:=h;cases O;obtain⟨t,rfl⟩:=P;obtain⟨z,b,n,r,N,e⟩:=I.lstM M;have i:b.toArray.size*k.toNat<=sizeLine:=by rw[aM,<- N];exact D
 have d:¬ b.toArray.size*k.toNat>(2 ^ 63-1)/8:=by
  have:(sizeLine:Nat)<=(2 ^ 63-1)/8:=by decide
  omega
 have f:¬ (!Builtin.List.listFitsIndex k)=true:=by
  rw[fitsIndex_both K L];exact bD
 have c:¬ Builtin.List.listTooLong (b.toArray.size*k.toNat)=true:=by
  rw[EU i];exact bD
 have w:List.foldl (λA B=>A++B) #[] (List.replicate (if b.toArray.isEmpty=true then 0 else k.toNat) b.toArray)=(List.replicate k.toNat b).flatten.toArray:=by
  have G:∀ m:Nat,List.foldl (λA B=>A++B) #[] (List.replicate m b.toArray)=(List.replicate m b).flatten.toArray:=λm=>by
   have:=O6 b m [];rw[lC] at this;exact this
  rw[G];cases b with
  | nil=>simp
  | cons a S=>rw[bF (by simp)]
 refine wpAny_binaryOp_repeat_ref (T := "list") (U := "int") (by decide) ⟨_,e,rfl⟩ (λR=>kY R k t) noFill_list_mul F.fills_int_mul F.slot_int_rmul repeat_list F.slot_int_index.lookup
  (gL F.slot_int_rmul (kY s k t) F.entry_int_rmul (F.args_int_rmul_2 _ _) (int___rmul___int_list k t l b.toArray n) ⟨e,rfl,⟨_,e,rfl⟩,gL F.slot_list_mul ⟨_,e,rfl⟩ F.entry_list_mul (F.args_list_mul_2 _ _) (AutoListH.list___mul___list_int_3 l b.toArray n k t f d c) ⟨e,?_⟩⟩)
 rw[w];exact⟨.ref _,_,I.lnew (t':=s.toks) (r.rep k.toNat) (by rw[Uc,kA];exact D),rfl,q _ I.fresh⟩
end
section
variable [DecidableEq κ]
noncomputable def qS (g:Aa (κ×V)) (k:κ):Ab V:=(g.find? λa=>decide (a.1=k)).map (·.2)
noncomputable def pZ (g:Aa (κ×V)) (k:κ) (v:V):Aa (κ×V) :=
 if (g.any λa=>decide (a.1=k))=true then g.map (λa=>if a.1=k then (a.1,v) else a) else g++[(k,v)]
theorem Dx {p:κ×V}{r:Aa (κ×V)}{k:κ}(e:p.1=k):qS (p::r) k=some p.2:=by simp[qS,dY,e]
theorem Fg {p:κ×V}{r:Aa (κ×V)}{k:κ}(e:¬ p.1=k):qS (p::r) k=qS r k:=by simp[qS,dY,e]
theorem Pp (k:κ):∀ g:Aa (κ×V),(g.any λj=>decide (j.1=k))=(qS g k).isSome
 | []=>rfl
 | p::r=>by
  rw[eX];by_cases e:p.1=k
  .simp only[Dx e,cV e,Bool.true_or,Option.isSome_some]
  .rw[Fg e,cG e,Bool.false_or];exact Pp k r
theorem Hz (g:Aa (κ×V)) (k:κ) (v:V):(pZ g k v).length<=g.length+1:=by
 unfold pZ;split
 .rw[aB];omega
 .rw[bL,bT,fU];omega
theorem sF.isSome_eq (r:sF o u):o.isSome=u.isSome:=by
 cases o with
 | none=>cases u with
  | none=>rfl
  | some _=>exact (show False from r).elim
 | some _=>cases u with
  | none=>exact (show False from r).elim
  | some _=>rfl
theorem sF.getD (r:sF o u) (rd:lS d g):lS (o.getD d) (u.getD g):=by
 cases o with
 | none=>cases u with
  | none=>exact rd
  | some _=>exact (show False from r).elim
 | some _=>cases u with
  | none=>exact (show False from r).elim
  | some _=>exact r
theorem KV.val (r:KV g j) (k:κ):sF (qS g k) (valueAt j k):=by
 unfold KV at r;induction r with
 | nil=>exact True.intro
 | @cons p q m c h t i =>
  obtain⟨d,f⟩:=h;by_cases e:p.1=k
  .have a:q.1=k:=d.symm.trans e;have b:valueAt (q::c) k=some q.2:=by simp[valueAt,dY,a]
   rw[Dx e,b];exact f
  .have a:¬ q.1=k:=λz=>e (d.trans z)
   have b:valueAt (q::c) k=valueAt c k:=by simp[valueAt,dY,a]
   rw[Fg e,b];exact i
theorem KV.any (r:KV j l) (k:κ):(j.any λg=>decide (g.1=k))=l.any λg=>decide (g.1=k):=by
 unfold KV at r;induction r with
 | nil=>rfl
 | cons h t a=>rw[eX,eX,a,h.1]
theorem KV.repl (r:KV j o) (k:κ) (l:lS y u) :
  KV (j.map λg=>if g.1=k then (g.1,y) else g) (o.map λg=>if g.1=k then (g.1,u) else g):=by
 unfold KV at r |-;induction r with
 | nil=>exact .nil
 | @cons p q d f h t c =>
  rw[aZ,aZ];refine .cons ?_ c;obtain⟨a,b⟩:=h;by_cases e:p.1=k
  .rw[bA e,bA (a.symm.trans e)];exact⟨a,l⟩
  .rw[bF e,bF (λz=>e (a.trans z))];exact⟨a,b⟩
theorem KV.put (r:KV g l) (k:κ) (j:lS y u):KV (pZ g k y) (stored l k u):=by
 unfold pZ stored;rw[r.any k];by_cases e:(l.any λa=>decide (a.1=k))=true
 .rw[bA e,bA e];exact r.repl k j
 .rw[bF e,bF e];exact Paired.snoc r ⟨rfl,j⟩
theorem KV.length (r:KV g j):g.length=j.length:=kT r
end
theorem vX {P:Ah}(r:lS (kV k) u):(pQ P w).is k u=true:=by
 cases k with
 | inl i=>obtain⟨t,e⟩:=(show ∃ t,u=Value.int i t from r);subst e;exact Wf P w i t
 | inr x=>obtain⟨t,e⟩:=(show ∃ t,u=Value.str x t from r);subst e;exact Zx P w x t
theorem Ov {P:Ah}:∀ {g:Aa lL}{j:Aa Ac},lN (g.map kV) j->ItemsAre (pQ P w) g j
 | [],_,r=>by rw[kX] at r;cases r;exact .nil
 | k::g,_,r=>by
  rw[aZ] at r;cases r with
  | cons h t=>exact .cons (vX h) (Ov t)
abbrev KT (H:Hp):Aa (Aa lL×V)->Aa (Aa lL×Ad×Ac)->Prop:=Paired λp q=>p.1=q.1/\H q.2.1=some (.t (p.1.map kV))/\lS p.2 q.2.2
theorem KT.val (r:KT H g j) (k:Aa lL):sF (qS g k) ((atKey j k).map (·.2)):=by
 induction r with
 | nil=>exact True.intro
 | @cons p q m c h t i =>
  obtain⟨d,_,f⟩:=h;by_cases e:p.1=k
  .have a:q.1=k:=d.symm.trans e;have b:atKey (q::c) k=some q.2:=by simp[atKey,dY,a]
   rw[Dx e,b];exact f
  .have a:¬ q.1=k:=λz=>e (d.trans z)
   have b:atKey (q::c) k=atKey c k:=by simp[atKey,dY,a]
   rw[Fg e,b];exact i
theorem KT.repl (r:KT H j o) (k:Aa lL) (l:lS y u) :
  KT H (j.map λg=>if g.1=k then (g.1,y) else g) (o.map (putAt k u)):=by
 induction r with
 | nil=>exact .nil
 | @cons p q f i h t d =>
  rw[aZ,aZ];refine .cons ?_ d;obtain⟨a,b,c⟩:=h;unfold putAt;by_cases e:p.1=k
  .rw[bA e,bA (a.symm.trans e)];exact⟨a,b,l⟩
  .rw[bF e,bF (λz=>e (a.trans z))];exact⟨a,b,c⟩
theorem KT.put (r:KT H g j) (k:Aa lL) (o:H b=some (.t (k.map kV))) (l:lS y u) :
  KT H (pZ g k y) (storedH j k b u):=by
 have e:(g.any λa=>decide (a.1=k))=(atKey j k).isSome:=by
  rw[Pp,(r.val k).isSome_eq,Option.isSome_map]
 unfold pZ storedH;rw[e];by_cases q:(atKey j k).isSome=true
 .rw[bA q,bA q];exact r.repl k l
 .rw[bF q,bF q];exact Paired.snoc r ⟨rfl,o,l⟩
theorem KT.keeps (r:KT H g p) (o:∀ b j,H b=some (.t j)->l b=some (.t j)):KT l g p :=
 Paired.mapP r λ_ _ z=>⟨z.1,o _ _ z.2.1,z.2.2⟩
section
variable {P:Ah}
theorem P7 (ok:nM P w H h) (e:Rd H a u):nW P w H h a u:=e.ok ok
theorem wB (ok:nM P w H h) (e:Rd H a (.k g)):g.length<=sizeLine/\(a == sysModules)=false/\∃ j,KV g j/\h.DictOf (pQ P w) a j :=
 show nW P w H h a (.k g) from P7 ok e
theorem zN (ok:nM P w H h) (e:H a=some (.k g)):g.length<=sizeLine/\(a == sysModules)=false/\∃ j,KV g j/\h.DictOf (pQ P w) a j:=wB ok (.inl e)
theorem Bl (ok:nM P w H h) (e:H a=some (.t (g.map kV))):(tupleKind (pQ P w)).is h g a:=by
 obtain⟨_,b,r,⟨o,c,d,n,f⟩,_⟩:=(show nW P w H h a (.t (g.map kV)) from ok a _ e);exact⟨o,b.toArray,n,c,d,f,by simpa using Ov r⟩
theorem yG (ok:nM P w H h) (e:Rd H a (.T g)):g.length<=sizeLine/\(a == sysModules)=false /\
  ∃ j,KT H g j/\h.DictOfH (tupleKind (pQ P w)) a j:=by
 obtain⟨z,y,j,r,o,f,d,i,k,n,s,u⟩:=(show nW P w H h a (.T g) from P7 ok e);refine⟨z,y,j,r,o,f,d,i,k,n,s,λx b=>?_,u⟩;have all:∀ {l:Aa (Aa lL×V)} {m:Aa (Aa lL×Ad×Ac)},KT H l m->∀ x∈m,(tupleKind (pQ P w)).is h x.1 x.2.1:=by
  intro l m q;induction q with
  | nil=>intro x b;exact nomatch b
  | @cons p q A B c t v =>
   intro x b;rcases aF.mp b with e | b
   .subst e;exact Bl ok (by rw[<- c.1];exact c.2.1)
   .exact v x b
 exact all r x b
theorem V6 (ok:nM P w H h) (e:H a=some (.T g)):g.length<=sizeLine/\(a == sysModules)=false /\
  ∃ j,KT H g j/\h.DictOfH (tupleKind (pQ P w)) a j:=yG ok (.inl e)
end
def tP (H:Hp) (a:Ad) (y:V) (r:Ab V):Prop :=
 (∃ c k,Rd H a (.k c)/\y=kV k/\r=qS c k)\/∃ c k b,Rd H a (.T c)/\y = .ref b/\H b=some (.t (k.map kV))/\r=qS c k
def wR (H:Hp) (a:Ad) (y v:V) (g:Hp):Prop :=
 (∃ c k,H a=some (.k c)/\y=kV k/\c.length<sizeLine/\g=upd H a (.k (pZ c k v))) \/
 ∃ c k b,H a=some (.T c)/\y = .ref b/\H b=some (.t (k.map kV))/\c.length<sizeLine/\g=upd H a (.T (pZ c k v))
theorem tP.k {k:lL}(e:H a=some (.k g)):tP H a (kV k) (qS g k):=.inl ⟨g,k,.inl e,rfl,rfl⟩
theorem wR.k {k:lL}(e:H a=some (.k g)) (j:g.length<sizeLine):wR H a (kV k) v (upd H a (.k (pZ g k v))):=.inl ⟨g,k,e,rfl,j,rfl⟩
theorem wR.t {H:Hp}{a b:Ad}{g:Aa (Aa lL×V)}{k:Aa lL}{v:V}(e:H a=some (.T g)) (j:H b=some (.t (k.map kV))) (l:g.length<sizeLine) :
  wR H a (.ref b) v (upd H a (.T (pZ g k v))):=.inr ⟨g,k,b,e,rfl,j,l,rfl⟩
section
variable {X:Cx}
theorem Inv.big (I:Inv X g j H s):sysModules<s.heap.objs.size:=by
 have h:mainGlobals<s.heap.objs.size:=(I.mod.glob.keeps I.bk).lt;exact Nat.lt_trans (by decide) h
theorem FS (T:A.units+1<cLine) (I:Inv X r U H s) (g:tP H a y (some v)) (C:lS y u) (h:∀ j J,Inv X r U H J->lS v j->Q j J) :
  wpAny (model X.prog X.w) A (getItem (.ref a) u) Q E s:=by
 rcases g with⟨m,k,e,f,l⟩ | ⟨m,k,b,e,f,n,l⟩
 .subst f;obtain⟨z,hd,t,rel,d⟩:=wB I.hok e;obtain⟨j,hw,c⟩:=sF.some_of (v:=v) (o:=valueAt t k) (by rw[l];exact rel.val k);exact wpAny_getItem_of (vX C) d.mapOf hw (h j _ (I.tok _) c)
 .subst f;cases (show u=Value.ref b from C);obtain⟨z,hd,x,rel,d⟩:=yG I.hok e;obtain⟨j,hw,c⟩:=sF.some_of (v:=v) (o:=(atKey x k).map (·.2)) (by rw[l];exact rel.val k);obtain⟨p,q,i⟩:=cC.mp hw;refine wpAny_getItem_heap (iW T) (Bl I.hok n) d q ?_;rw[i];exact h j _ (I.tok _) c
theorem Zu (C:A.units+1<cLine) (I:Inv X j J H s) (g:tP H a y o) (p:lS y u) (h:∀ r,Inv X j J H r->Q (.bool (!o.isSome)) r) :
  wpAny (model X.prog X.w) A (compareOp .NotIn u (.ref a)) Q E s:=by
 rcases g with⟨f,k,e,d,l⟩ | ⟨f,k,b,e,d,i,l⟩
 .subst d;obtain⟨z,hd,m,rel,c⟩:=wB I.hok e;refine wpAny_notIn_of (vX p) hd c.mapOf ?_;rw[<- (rel.val k).isSome_eq,<- l];exact h _ (I.tok _)
 .subst d;cases (show u=Value.ref b from p);obtain⟨z,hd,n,rel,c⟩:=yG I.hok e;refine wpAny_notIn_heap (iW C) (Bl I.hok i) hd c ?_;have q:=(rel.val k).isSome_eq;rw[Option.isSome_map] at q;rw[<- q,<- l];exact h _ (I.tok _)
theorem Pr (I:Inv X g C H s) (r:zV (H a)) (p:Heap.SameBut a s.heap j) (o:∃ q,j.get? a=some q) (new:nW X.prog X.w (upd H a l) j a l) :
  Inv X g C (upd H a l) { s with heap:=j,toks:=J } :=
 I.write (x:=a) (e:=a) r (.inl rfl) (λb q c z=>(p.2 b c).trans z) o new
theorem Ak {P:Ah}(z:g.length<=sizeLine) (hd:(a == sysModules)=false) (rel:KV g j) (l:o.DictOf (pQ P w) a j) :
  nW P w p o a (.k g):=⟨z,hd,j,rel,l⟩
theorem Vr (T:A.units+1<cLine) (I:Inv X j U H s) (g:wR H a y v J) (p:lS y u) (o:lS v r) (h:∀ C,Inv X j U J C->Q () C) :
  wpAny (model X.prog X.w) A (setItem (.ref a) u r) Q E s:=by
 rcases g with⟨d,k,e,t,l,n⟩ | ⟨d,k,b,e,t,F,l,n⟩
 .subst t n;obtain⟨z,hd,V,rel,m⟩:=zN I.hok e;have D:V.length<=sizeLine:=by rw[<- rel.length];exact z
  have x:(pZ d k v).length<=sizeLine:=by have:=Hz d k v;omega
  refine wpAny_setItem_pairs (hsz:=D) (vX p) m λK f B=>h _ ?_
  have S:∃ q,K.get? a=some q:=let ⟨q,_,_,i,_⟩:=f;⟨q,i⟩;exact Pr I (by rw[e];exact True.intro) B S (Ak x hd (rel.put k o) f)
 .subst t n;cases (show u=Value.ref b from p);obtain⟨z,hd,W,rel,m⟩:=V6 I.hok e;have D:W.length<=sizeLine:=by rw[<- kT rel];exact z
  have x:(pZ d k v).length<=sizeLine:=by have:=Hz d k v;omega
  refine wpAny_setItem_heap (hsz:=D) (iW T) (Bl I.hok F) m λK f B=>h _ ?_
  obtain⟨q,M,L,i,N,O,P,_,R⟩:=f;refine Pr I (by rw[e];exact True.intro) B ⟨q,i⟩ ⟨x,hd,_,(rel.put k F o).keeps λc Y G=>?_,q,M,L,i,N,O,P,R⟩;rw[lO (AC G e (λz=>nomatch z))];exact G
end
section
variable {X:Cx}
theorem Yv (I:Inv X g o H s) (e:Rd H a (.k j)) (h:∀ t l,Inv X g o H l->Q (.int j.length t) l):wpAny (model X.prog X.w) A (call (.builtin "len") [.ref a]) Q E s:=by
 obtain⟨z,hd,c,rel,b⟩:=wB I.hok e;refine call_len_dict hd b (by rw[<- rel.length];rw[kM] at z;omega) ?_;rw[<- rel.length];exact h _ _ (I.tok _)
end
theorem O8 {X:Cx}(I:Inv X j l H s) (g:tP H a y o):s.TypeIs (.ref a) "dict" := by
 rcases g with⟨d,k,e,_,_⟩ | ⟨d,k,b,e,_,_,_⟩
 .obtain⟨_,_,f,_,c⟩:=wB I.hok e;exact c.typeIs
 .obtain⟨_,_,h,_,c⟩:=yG I.hok e;exact c.typeIs
theorem FD {P:Ah}(h:Ag) (g:sysModules<h.objs.size):nW P w H (h.push { cls:=.type "dict",data:=.dict #[] }) h.objs.size (.k []) :=
 ⟨cS _,cY.mpr (cO (bE g)),[],.nil,jW h⟩
def Yy:TE:=λ_ H Q=>∀ p,H p=none->Q (.ref p) (upd H p (.k []))
section
variable {X:Cx}
theorem Vm:PE X (.Dict [] [] pos) Yy:=λb s c H Q I h =>
 wpAny_Dict_empty ⟨.ref s.heap.objs.size,_,I.laid (a:=s.heap.objs.size) (o:=.k []) (t':=s.toks) (λ_ _ q=>aD _ q) (aL _) (FD s.heap I.big),rfl,h _ (I.hok.fresh (aL _))⟩
end
def pJ (g more:Aa (lL×V)):Aa (lL×V):=more.foldl (λa b=>pZ a b.1 b.2) g
theorem KV.merge:∀ {more:Aa (lL×V)}{l:Aa (lL×Ac)}{g:Aa (lL×V)}{j:Aa (lL×Ac)},KV more l->KV g j->KV (pJ g more) (merged j l):=by
 intro more l g j r;unfold KV at r;induction r generalizing g j with
 | nil=>intro q;exact q
 | @cons p q c d h t a =>
  intro b;have e:KV (pZ g p.1 p.2) (stored j q.1 q.2):=by
   have:=b.put p.1 h.2;rw[<- h.1];exact this
  exact a e
theorem Dv:∀ (more g:Aa (lL×V)),(pJ g more).length<=g.length+more.length
 | [],g=>by show g.length<=g.length+0;omega
 | p::r,g=>by
  have a:=Dv r (pZ g p.1 p.2);have b:=Hz g p.1 p.2;show (pJ (pZ g p.1 p.2) r).length<=_;rw[bT];omega
structure M2 (X:Cx) (o:Expr) (m:Str) (apos:Pos) (e f:Expr) (cpos:Pos):Prop where
 base:attributeBase o m X.env (eval o X.env)=eval o X.env
 few:((backTo cpos (starEach [e,f] X.env)).all (λx=>!x.1)&&(backToKw cpos (keywordEach [] X.env)).all (λx=>x.1.isSome) && decide (([e,f]:List Expr).length+([]:List Keyword).length+(if ([]:List Keyword).isEmpty then 0 else 1)<30))=true
 line:(apos.endLine == cpos.line)=true
 trees:backTo cpos (starEach [e,f] X.env)=[(false,eval e X.env),(false,eval f X.env)]
def G1 (H:Hp) (a:Ad):Prop:=(∃ b,Rd H a (.k b))\/∃ b,Rd H a (.T b)
theorem AO {X:Cx}(I:Inv X j l H s) (d:G1 H a) :
  s.TypeIs (.ref a) "dict" /\ (∀ b,Value.ref a = .ref b->∃ g,s.heap.get? b=some g/\g.dict=none)/\(a == sysModules)=false:=by
 rcases d with⟨i,e⟩ | ⟨i,e⟩
 .obtain⟨_,hd,k,_,c⟩:=wB I.hok e;refine⟨c.typeIs,λb q=>?_,hd⟩;cases q;obtain⟨g,_,_,f,h,_⟩:=c;exact⟨g,f,h.2.1⟩
 .obtain⟨_,hd,m,_,c⟩:=yG I.hok e;refine⟨c.typeIs,λb q=>?_,hd⟩;cases q;obtain⟨g,_,_,f,h,_⟩:=c;exact⟨g,f,h.2.1⟩
section
variable {X:Cx}
theorem GI (T:A.units+1<cLine) (I:Inv X j U H s) (g:tP H a y o) (p:lS y u) (rd:lS d r) (h:∀ J C,Inv X j U H C->lS (o.getD d) J->Q J C) :
  wpAny (model X.prog X.w) A (call (.builtin "dict.get") [.ref a,u,r]) Q E s:=by
 rcases g with⟨i,k,e,f,l⟩ | ⟨i,k,b,e,f,m,l⟩
 .subst f;obtain⟨z,hd,q,rel,c⟩:=wB I.hok e;refine call_meetsIn jL c.typeIs PySem.F.entry_dict_get (PySem.F.args_dict_get_3 _ _ _) (meets_dict_get_default (pQ X.prog X.w) a (vX p) hd r) ⟨_,c.mapOf,h _ _ (I.tok _) ?_⟩;rw[l];exact (rel.val k).getD rd
 .subst f;cases (show u=Value.ref b from p);obtain⟨z,hd,n,rel,c⟩:=yG I.hok e;refine call_meetsIn jL c.typeIs PySem.F.entry_dict_get (PySem.F.args_dict_get_3 _ _ _) (meetsH_dict_get_default (tupleKind (pQ X.prog X.w)) a b hd r) ⟨iW T,k,n,Bl I.hok m,c,h _ _ (I.tok _) ?_⟩;rw[l];exact (rel.val k).getD rd
end
def U9 (g ty j:TE):TE:=λb H Q=>g b H λx c=>∃ a,x = .ref a/\G1 c a/\ty b c λy e=>j b e λz d=>∃ o,tP d a y o/\Q (o.getD z) d
section
variable {X:Cx}
theorem ET (C:X.A.units+1<cLine) (r:PE X o J) (l:PE X e ty) (p:PE X f T) (m:M2 X o "get" apos e f j):PE X (.Call (.Attribute o "get" apos) [e,f] [] j) (U9 J ty T):=by
 intro b s k H Q I h;refine wpAny_Call_method m.base m.few m.line PySem.F.plainAttrs_dict jL PySem.F.type_dict_get (lM (r b s k H _ I h) λu P c=>?_);obtain⟨x,q,n,M,a,E,d,G⟩:=c;subst E;obtain rfl:u=Value.ref a:=M;obtain⟨S,V,_⟩:=AO n d;refine⟨S,V,?_⟩;rw[m.trees];refine Calls.callWith_builtin rfl (Calls.evalArgs_plain (gJ (lM (l b P k q _ n G) λY R ⟨y,t,w,N,K⟩ =>gJ (lM (p b R k t _ w K) λW U ⟨z,v,B,O,Z,g,L⟩=>jC ?_))));exact GI C B g N O λw' s4 D i=>⟨_,v,D,i,L⟩
end
section
variable {X:Cx}
theorem BE (I:Inv X j r H s) (e:Rd H a (.k g)) (h:∀ p l,H p=none->Inv X j r (upd H p (.k g)) l->Q (.ref p) l):wpAny (model X.prog X.w) A (call (.type "dict") [.ref a]) Q E s:=by
 obtain⟨z,hd,n,rel,f⟩:=wB I.hok e;refine kt_call_dict hd f (by rw[<- rel.length];exact z) λm c i=>?_
 refine h _ _ (I.hok.fresh (aL _)) (I.laid (a:=s.heap.objs.size) (o:=.k g) (t':=s.toks) (λb q d=>?_) (aL _) (Ak z (cY.mpr (cO (bE I.big))) rel c));exact (i.2 b (bE (aK d))).trans (aD _ d)
end
end L2
namespace Att
open PySem PySem.W PySem.Calls PyProof.Rows
theorem Xq {P:Params}:∀ (g:Aa Int) (j:Aa Ac),WellAll P h j (g.map WData.int)->IntsAre j g:=by
 intro g;induction g with
 | nil =>
  intro j w;rw[kX] at w;cases w;exact .nil
 | cons n g c =>
  intro j w;rw[aZ] at w;cases w with
  | cons a b =>
   cases a;exact .cons _ _ (c _ b)
theorem S2 {l:OpenLaw}(I:l.most=some n){P:Params}
  (j:l.row.toRowW.claim.pre args=true) (p:WellAll P h o args) :
  ∃ a C g,o=[Value.ref a]/\args=[WData.list (g.map WData.int)]/\h.get? a=some { cls:=.type "list",data:=.seq C.toArray }/\IntsAre C g/\g.length<=n:=by
 have i:WShape.hasAll [] args [.list .int]=true:=(pre_splitW j).1;have k:l.pre.holds [] { args:=args }=true:=(pre_splitW j).2;obtain⟨d,r,rfl,m,s⟩:=hasAllW_cons i;obtain rfl:=hasAllW_nil s;obtain⟨y,rfl,t⟩:=hasW_list m;obtain⟨g,rfl⟩:=items_int t;have c:g.length<=n:=by
  unfold OpenLaw.pre at k;have e:(WTm.not (.lt (.lit (.int (n:Int))) (.len (.arg 0)))).holds [] { args:=[.list (g.map .int)] }=true:=by
   have e:=(holds_andW k).1;rw[I] at e;exact e
  have f:=condW_of e (w_not (w_lt w_lit (w_len_list (w_arg rfl))));rw[aB] at f;refine Nat.le_of_not_lt λq=>?_
  have v:(n:Int)<((g.length:Nat):Int):=by omega
  first
   | (rw[cV v] at f;exact absurd f (by decide))
   | (simp at f;omega)
 cases p with
 | cons w x =>
  cases x;cases w with
  | list u b=>exact⟨_,_,g,rfl,rfl,u,Xq g _ b,c⟩
theorem BW (l:OpenLaw) (args:Aa WData):l.row.toRowW.claim.post args (.bool true) args=true :=
 postW_of (r:=l.row.toRowW) (X:=(true == true))
  (show WShape.has [] (.bool true) .bool=true by first | rfl | decide | simp[WShape.has,WShape.arms,WShape.armsAll])
  (show (WTm.eq .res (.lit (.bool true))).value [] { args:=args,res:=some (.bool true),after:=args }=some (.bool (true == true)) from w_eq_bool (w_res rfl) w_lit) rfl
theorem attach_call {l:OpenLaw}
  (hn:l.most=some n) (aa:d.params.defaults=[])
  (call:∀ (w:World) (j g:Ae) (T mb:Af->Ab Ac) (J:Ad) (o:Obj) (pm cd p:Ac) (a:Ad) (I:Aa Ac) (U:Aa Int),Ground q C [] XP w j T mb g.heap->YP w g.heap ->g.heap.get? J=some o->o.data = .func (docDef d.name d.params d.body d.scope pm cd p)->g.heap.CodeRec cd d.name->T d.name=some (.ref J) ->g.heap.get? a=some { cls:=.type "list",data:=.seq I.toArray }->IntsAre I U->U.length<=n->g.gens=#[] ->
   codeAny (model l.prog w) callerA (.call (.ref J) ⟨[.ref a],[]⟩) (λr s'=>r = .ok (.ret (.bool true))/\OldK g.heap s'.heap/\s'.os=g.os/\AllBare s'.gens) g) :
  WalkO q C XP YP l.row.toRowW d [] (λf I=>PySem.call f I):=by
 intro w j g T mb G Y J o pm cd p v kV E hd i s k A args u as h t H m B;obtain rfl:v = .none:=Dflts.none s aa;obtain rfl:kV = .none:=Dflts.noKw s;obtain⟨a,I,U,rfl,rfl,e,b,c⟩:=S2 hn h m;refine enter_call (codeAny_mono (call w j g T mb J o pm cd p a I U G Y E (fd_plain hd) i k e b c A) λr s' F=>?_);obtain⟨rfl,x,y,z⟩:=F;exact⟨.inl ⟨.bool true,.bool true,[],rfl,λ_=>rfl,.bool true,BW l _,λ_=>⟨List.Pairwise.nil,λ_ D=>(nomatch D)⟩⟩,x,y,z⟩
end Att
namespace L2
open PySem PySem.Spec PyProof.Rows
theorem No:∀ {j:Aa Ac}{g:Aa Int},IntsAre j g->lN (g.map V.int) j
 | _,_,.nil=>.nil
 | _,_,.cons n t h=>.cons ⟨t,rfl⟩ (No h)
def Hi (H:Hp):Prop:=∀ b,H b=none\/∃ o a,H b=some (.frz o (.l a))
theorem Sf {P:Ah}{K:lJ}
  (KX:K.In g.heap) (T:g.heap.Ns mainGlobals mg) (j:g.heap.Ns builtinsNs mb) (ab:∀ x:Af,x ≠ "__name__" -> mb x=bootBuiltins x) (J:g.heap.NoLimit) (hg:g.gens=#[])
  (U:g.heap.get? a=some { cls:=.type "list",data:=.seq I.toArray }) (hi:IntsAre I ns) (hl:ns.length<=sizeLine) (hr:Room k callerA)
  (F:∀ base:Ag,K.In base->base.Ns mainGlobals mg->FnOk P w K mg base CX k fa fd [x] sp) (C:∀ (s:Ae) (u:Ac),BindsTo s fd ⟨[u],[]⟩ [(x,u)])
  (ac:∀ H:Hp,Hi H->gV K H a (ns.map V.int)->sp [.ref a] H (λv _=>v = .b true) λ_ _ _=>False)
  (aa:∀ H e p,CX [] H g (λ_ _ _=>False) e p->False) :
  codeAny (model P w) callerA (.call (.ref fa) ⟨[.ref a],[]⟩) (λr p=>r = .ok (.ret (.bool true))/\OldK g.heap p.heap/\p.os=g.os/\AllBare p.gens) g:=by
 have R:=No hi;have D:=hi.length;have core:∀ H:Hp,Hi H->gV K H a (ns.map V.int)->nM P w H g.heap->(∀ b,H b≠none->b=a)->(H a≠none->K.lookup a=none) ->
   codeAny (model P w) callerA (.call (.ref fa) ⟨[.ref a],[]⟩) (λr p=>r = .ok (.ret (.bool true))/\OldK g.heap p.heap/\p.os=g.os/\AllBare p.gens) g:=by
  intro H Q hS A O hK;have c:∀ {b:Ad} {o:Obj},g.heap.get? b=some o->H b=none->(vH g.heap H).get? b=some o:=λe n=>Z3 e n
  have M:∀ {b:Ad} {o:Obj} {t:Array DictEntry} {i:Nat},g.heap.get? b=some o->o.data = .dict t i->H b=none:=λ{b o t i} e d=>by
   cases q:H b with
   | none=>rfl
   | some u =>
    have G:b=a:=O b (by rw[q];simp);subst G;rw[U] at e;cases e;have S:Data.seq I.toArray _=Data.dict t i:=d;cases S
  have f:∀ {b:Ad} {m:Af->Ab Ac},g.heap.Ns b m->(vH g.heap H).Ns b m:=λ{b m} ⟨o,t,i,e,d,r⟩=>⟨o,t,i,c e (M e d),d,r⟩
  have y:K.In (vH g.heap H):=λb o e=>c (KX b o e) (by
   cases q:H b with
   | none=>rfl
   | some u =>
    have G:b=a:=O b (by rw[q];simp);subst G;rw[hK (by rw[q];simp)] at e;cases e)
  have hM:Mod K mg (vH g.heap H):=⟨y,f T,⟨mb,f j,ab⟩,let ⟨mc,Z,h2⟩:=J;⟨mc,f Z,h2⟩⟩;have W:Env0 P w K mg (vH g.heap H) callerA [] g H:=⟨rfl,hM,λb o e=>FE e,Nat.le_of_eq (FP _ _),trivial,λb j=>absurd (show b∈([]:Aa Ad) from j) (by simp),A,.of_eq hg⟩;refine codeAny_mono ((F _ y (f T)).run callerA [] g H ⟨[.ref a],[]⟩ [.ref a] [.ref a] _ _ hr W (C g (.ref a)) (.cons rfl .nil) (ac H Q hS)) λr p h=>?_
  cases r with
  | error e=>exact (aa H e p h).elim
  | ok Y =>
   cases Y with
   | next=>exact False.elim h
   | brk=>exact False.elim h
   | cont=>exact False.elim h
   | ret u =>
    obtain⟨v,H',os,bare,un,B,r',q⟩:=h;have q':v = .b true:=q;subst q';obtain rfl:u=Value.bool true:=r';refine⟨rfl,OldK.of_keep λb o e=>?_,os,bare⟩;cases q:H b with
    | none=>exact un.keep b o e q (by intro z;exact absurd (show b∈([]:Aa Ad) from z) (by simp)) (by simp)
    | some u =>
     rcases Q b with z | ⟨ob,xs,z⟩
     .rw[q] at z;cases z
     .have z2:=un.frzs b ob _ z;obtain⟨N,_⟩:=A b _ z;obtain⟨X,_⟩:=B b _ z2;rw[e] at N;cases N;exact X
 cases L:K.lookup a with
 | some o =>
  have e:=KX a o L;rw[U] at e;cases e;refine core (λ_=>none) (λ_=>.inl rfl) (.inr ⟨_,I.toArray,_,L,rfl,rfl,rfl,by rw[aM,D];exact hl,by simpa using R⟩) (λb u z=>by have E:(none:Ab HO)=some u:=z;cases E) (λb z=>absurd rfl z) λz=>absurd rfl z
 | none =>
  refine core (λb=>if b=a then some (.frz { cls:=.type "list",data:=.seq I.toArray } (.l (ns.map V.int))) else none) (λb=>?_) (.inl (.inr ⟨{ cls:=.type "list",data:=.seq I.toArray },bA rfl⟩)) (λb u z=>?_) (λb z=>?_) λ_=>L
  .by_cases j:b=a
   .exact .inr ⟨_,_,bA j⟩
   .exact .inl (bF j)
  .by_cases j:b=a
   .have E:=(bA j).symm.trans z;cases E;subst j;exact⟨U,by rw[aB];exact hl,I,_,R,U⟩
   .have E:=(bF j).symm.trans z;cases E
  .by_cases j:b=a
   .exact j
   .exact absurd (bF j) z
theorem walk_of {l:PySem.W.OpenLaw}{n k:Nat}{q:Ah}{j:Aa Af}{XP:(Af->Ab Ac)->Ag->Prop}{YP:World->Ag->Prop}{d:DefRec}{K:Params->lJ}{CX:World->yY}{sp:World->Sp}{x:Af}
  (hn:l.most=some n) (U:n<=sizeLine) (J:d.params.defaults=[]) (hr:Room k callerA)
  (hY:∀ (w:World) (h:Ag),YP w h->(K w.params).In h)
  (F:∀ (w:World) (p:Af->Ab Ac) (r:Ad) (h:Ag),(K w.params).In h->h.Ns mainGlobals p->p d.name=some (.ref r) ->∃ fd:FuncData,(∀ (s:Ae) (u:Ac),BindsTo s fd ⟨[u],[]⟩ [(x,u)]) /\ ∀ base:Ag,(K w.params).In base->base.Ns mainGlobals p->FnOk l.prog w (K w.params) p base (CX w) k r fd [x] (sp w))
  (aa:∀ (w:World) (H:Hp) (a:Ad) (C:Aa Int),C.length<=n->Hi H->gV (K w.params) H a (C.map V.int)->sp w [.ref a] H (λv _=>v = .b true) λ_ _ _=>False)
  (I:∀ (w:World) (H:Hp) (s:Ae) (e:Ac) (s':Ae),CX w [] H s (λ_ _ _=>False) e s'->False) :
  PySem.W.WalkO q j XP YP l.row.toRowW d [] (λf vs=>PySem.call f vs):=by
 refine Att.attach_call hn J λw A t p Q r o pm cd B a vs C G Y P hd N y m i c O=>?_
 have z:=hY w _ Y;obtain⟨fd,M,D⟩:=F w p r _ z G.T.g y;exact Sf z G.T.g G.T.b G.T.builtins G.T.nolimit O m i (bX c U) hr D M (λH E L=>aa w H a C c E L) λH e s'=>I w H t e s'
def sH (s:Stmt):Arguments:=match s with
 | .FunctionDef _ a _ _ _ _ _ _ _ _=>a
 | _=>{ posonlyargs:=[],args:=[],vararg:=none,kwonlyargs:=[],kw_defaults:=[],kwarg:=none,defaults:=[] }
def qU (s:Stmt):Aa Stmt:=match s with
 | .FunctionDef _ _ b _ _ _ _ _ _ _=>b
 | _=>[]
def mG (s:Stmt):Scope:=match s with
 | .FunctionDef _ _ _ _ _ _ a _ _ _=>a
 | _=>{ kind:=.function,names:=[],isGenerator:=false,isCoroutine:=false }
abbrev nG:yY:=λ_ _ _ _ _ _=>False
abbrev E0:XK:=λ_ _ _=>False
theorem qR {X:Cx}:C6 nG X E0:=λ_ _ _ _ _ _ _ h=>h.elim
structure Fun (K:lJ) (x qual:Str) (st:Stmt) (f:Addr) (fd:FuncData):Prop where
 ex:∃ (oc:Value) (od:Option Addr) (kV doc pm:Value) (an:Option Addr) (cdv ct:Value) (osl:Array (Option Value)),
  fd=PySem.W.fnOf x qual (sH st) (qU st) (mG st) .none kV doc pm an cdv ct/\K.lookup f=some ⟨oc,od,.func fd,osl⟩/\PySem.W.codeIn K cdv qual=true
 kp:PySem.W.keepIn K (.ref f)=true
section
variable {P:Ah}{K:lJ}
theorem Fun.ok {st:Stmt}(F:Fun K x l st f fd) (S:FnScope N r (mG st)) (len:∀ p H Q E,C p H Q E->p.length=r.length)
  (o:∀ (j:Ac) (A:Around) (g:Aa Env) (s:Ae) (H:Hp) (p:Aa V) (Q:VK) (E:XK),Room k (A.deeper (envOfC l (mG st) s.heap.objs.size f j))->C p H Q E ->∃ t,oB (wO nG P w K J base N l (mG st) f j A g s H E).nox (qU st) t/\t { nx:=λ_ I=>Q .e I,rt:=Q } (sM N p) H):FnOk P w K J base nG (k+1) f fd r C:=by
 obtain⟨v,y,kV,c,pm,n,j,u,m,rfl,i,a⟩:=F.ex;refine V3 i a S len λA g s H p Q E d b=>?_
 obtain⟨t,h,q⟩:=o j A g s H p Q E d b;exact⟨t,h.nox,q⟩
theorem Fun.binds {st:Stmt}(F:Fun K x l st f fd)
  (h:∀ (kV j pm:Ac) (o:Ab Ad) (g p:Ac) (r:Aa Ac),r.length=C.length->bindArgs (PySem.W.fnOf x l (sH st) (qU st) (mG st) .none kV j pm o g p) ⟨r,[]⟩=pure (C.zip r)):wI K fd C []:=by
 obtain⟨d,e,kV,j,pm,o,g,p,b,rfl,c,a⟩:=F.ex;exact .all (h kV j pm o g p)
theorem Ol {st:Stmt}{kV:Ac}(l:K.lookup f=some ⟨I,J,.func (PySem.W.fnOf x g (sH st) (qU st) (mG st) .none kV o pm r j C),p⟩)
  (c:PySem.W.codeIn K j g=true) (k:PySem.W.keepIn K (.ref f)=true):Fun K x g st f (PySem.W.fnOf x g (sH st) (qU st) (mG st) .none kV o pm r j C):=⟨⟨I,J,kV,o,pm,r,j,C,p,rfl,l,c⟩,k⟩
end
theorem Lq (g:Room k A):A.units+1<cLine:=cM (Nat.add_le_add_left (by decide:1<=64) _) g.units
section
variable {X:Cx}
theorem pv (i:Nat) (j:X.N[i]?=some x:=by rfl) (l:Fz X.env.scope x:=by first | exact Or.inl rfl | exact Or.inr (Or.inl rfl) | exact Or.inr (Or.inr rfl)) (hd:(x == ("__debug__" : Af))=false:=by decide)
  (g:(x == ("__classdict__" : Af))=false:=by decide):PE X (.Name x pos) (pR i):=HE j l hd g
theorem AB:mU X (.builtin "len") (λj H Q=>∃ a g,j=[V.ref a]/\H a=some (.k g)/\Q (.int g.length) H):=by
 intro b s m H j i Q I r h;obtain⟨a,g,rfl,d,q⟩:=h;obtain⟨u,rfl,e⟩:=oV r;cases e;exact Yv I (.inl d) λt f c=>⟨.int g.length,H,c,⟨t,rfl⟩,q⟩
end
theorem xR {A B:Prop}(h:B):if false=true then A else B:=by
 rw[bF bD];exact h
theorem xT {c A B:Prop} [Decidable c] (g:c->A) (j:¬ c->B):if c then A else B:=by
 by_cases h:c
 .rw[bA h];exact g h
 .rw[bF h];exact j h
def oG (H g:Hp):Prop:=∀ b o,H b=some o->g b=some o
theorem oG.trans (a:oG H g) (b:oG g j):oG H j:=λc o h=>b c o (a c o h)
theorem oG.free (e:oG H g) (h:g l=Option.none):H l=Option.none:=by
 cases q:H l with
 | none=>rfl
 | some o =>
  rw[e l o q] at h;cases h
theorem oG.seq {K:lJ}(e:oG H g) (h:gV K H a j):gV K g a j:=by
 rcases h with (h | ⟨o,h⟩) | h
 .exact .inl (.inl (e _ _ h))
 .exact .inl (.inr ⟨o,e _ _ h⟩)
 .exact .inr h
section
variable [DecidableEq κ]
theorem Lm:∀ {l:Aa κ}{k:κ},l.Nodup->¬ k∈l->(l++[k]).Nodup
 | [],k,_,_=>by simp
 | a::r,k,h,b=>by
  obtain⟨c,d⟩:=cH.mp h;show (a::(r++[k])).Nodup;refine cH.mpr ⟨λm=>?_,Lm d λm=>b (aF.mpr (Or.inr m))⟩;rcases aX.mp m with q | q
  .exact c q
  .exact b (aF.mpr (Or.inl (aU.mp q).symm))
end
section
variable {X:Cx}
theorem B6 {K:lJ}:∀ {j:Aa Int}{g:Aa Ac},lN (j.map V.int) g->∃ xs:Array (Int×Tok),g.toArray=intItems xs/\j=xs.toList.map (·.1)
 | [],_,.nil=>⟨#[],by simp[intItems],rfl⟩
 | n::j,_,.cons r c=>by
  obtain⟨t,rfl⟩:=r;obtain⟨xs,a,b⟩:=B6 (K:=K) c;refine⟨(⟨(n,t)::xs.toList⟩:Array (Int×Tok)),?_,by rw[b];rfl⟩;have:(intItems xs).toList=_:=(cN Array.toList a).symm;unfold intItems at this |-;refine Array.toList_inj.mp ?_;simp only[Array.toList_map] at this |-;rw[aZ,this]
theorem B7 (p:l=o.toList.map (·.1)) (g:j<o.size):∃ h:j<l.length,numAt o j=l[j]:=by
 subst p;refine⟨by simpa using g,?_⟩;simp[numAt,g]
theorem Ym (l:X.calm=true):mU X (.builtin "sum") (λj H Q=>∃ (p:Ad) (g:Aa Int),j=[.ref p]/\gV X.K H p (g.map V.int)/\Q (.int g.sum) H):=by
 intro a s z H j y Q I r h;obtain⟨p,g,rfl,d,q⟩:=h;obtain⟨u,rfl,m⟩:=oV r;cases m;obtain⟨f,k,i,w⟩:=I.list d;obtain⟨t,e,b⟩:=B6 (K:=X.K) k;refine sum_intListG (xs:=t) (I.ok.hd l) (e▸i.isList) λv x n c=>⟨.int g.sum,H,I.kept c,⟨n,?_⟩,q⟩
 rw[preSum_eq,bJ (by simp),b]
theorem Z7 (l:X.calm=true):mU X (.builtin "min") (λxs H Q=>∃ (p:Ad) (g:Aa Int),xs=[.ref p]/\gV X.K H p (g.map V.int)/\g≠[]/\∀ m:Int,m∈g->(∀ a∈g,m<=a)->Q (.int m) H):=by
 intro k s W H xs S Q I r h;obtain⟨p,g,rfl,A,d,q⟩:=h;obtain⟨u,rfl,M⟩:=oV r;cases M;obtain⟨D,L,G,O⟩:=I.list A;obtain⟨b,e,c⟩:=B6 (K:=X.K) L;have f:0<b.size:=by
  rcases Nat.eq_zero_or_pos b.size with z | z
  .exfalso;apply d;rw[c];simp[Array.size_eq_zero_iff.mp z]
  .exact z
 refine min_intList (xs:=b) (I.ok.hd l) (e▸G.isList) f λv N R B y=>?_
 obtain⟨t,rfl⟩:=intItems_at (xs:=b) B;have best:=argBest_lt (numAt b) (b.size-1);obtain⟨F,n⟩:=B7 c (cM best.1 (show b.size-1<b.size by omega));refine⟨.int _,H,I.kept y,⟨t,rfl⟩,q _ (n▸eD F) λa x=>?_⟩;obtain⟨j,i,rfl⟩:=fF x;have E:j<b.size:=by rw[c] at i;simpa using i
 obtain⟨P,w⟩:=B7 c E;exact w▸best.2 j (by omega)
theorem Uk (l:X.calm=true):mU X (.builtin "max") (λxs H Q=>∃ (p:Ad) (g:Aa Int),xs=[.ref p]/\gV X.K H p (g.map V.int)/\g≠[]/\∀ m:Int,m∈g->(∀ a∈g,a<=m)->Q (.int m) H):=by
 intro k s W H xs S Q I r h;obtain⟨p,g,rfl,A,d,q⟩:=h;obtain⟨u,rfl,M⟩:=oV r;cases M;obtain⟨D,L,G,O⟩:=I.list A;obtain⟨b,e,c⟩:=B6 (K:=X.K) L;have f:0<b.size:=by
  rcases Nat.eq_zero_or_pos b.size with z | z
  .exfalso;apply d;rw[c];simp[Array.size_eq_zero_iff.mp z]
  .exact z
 refine max_intList (xs:=b) (I.ok.hd l) (e▸G.isList) f λv N R B y=>?_
 obtain⟨t,rfl⟩:=intItems_at (xs:=b) B;have best:=argBest_gt (numAt b) (b.size-1);obtain⟨F,n⟩:=B7 c (cM best.1 (show b.size-1<b.size by omega));refine⟨.int _,H,I.kept y,⟨t,rfl⟩,q _ (n▸eD F) λa x=>?_⟩;obtain⟨j,i,rfl⟩:=fF x;have E:j<b.size:=by rw[c] at i;simpa using i
 obtain⟨P,w⟩:=B7 c E;exact w▸best.2 j (by omega)
def FG (K:lJ):V->Aa V->Hp->VK->Prop:=λx b H Q=>∃ (l:Ad) (a:Aa V) (y:V) (j:Nat),x = .ref l/\b=[y]/\gV K H l a/\a.all qB=true/\qB y=true/\j<a.length /\
 (∀ z,a[j]?=some z->oE z y=true)/\(∀ (m:Nat) z,m<j->a[m]?=some z->oE z y=false)/\Q (.int j) H
theorem BG:wT X "list.index" (FG X.K):=by
 intro P s σ H x vs v U Q I C p h;obtain⟨l,D,y,j,rfl,rfl,Z,E,S,J,V,W,q⟩:=h;cases C;obtain⟨u,rfl,o⟩:=p.one;obtain⟨a,r,g,T⟩:=I.list Z;have M:=r.length;obtain⟨⟨cls,R,data,sl⟩,N,G,n,hd⟩:=g.isList;simp only at G hd;subst G hd;have O:∀ (i:Nat) (L:i<a.toArray.size),∃ z,D[i]?=some z/\pX y a.toArray[i]=oE z y:=λi L=>by
  have f:i<a.length:=by simpa using L
  have w:D[i]?=some (D[i]'(by omega)):=aJ (by omega);obtain⟨B,hw,A⟩:=r.get w;have e:a.toArray[i]=B:=by
   rw[aJ f] at hw
   simpa using cA hw
  refine⟨_,w,?_⟩;rw[e];exact Jo A (cE.mp E _ (aT w))
 have c:j<a.toArray.size:=by rw[aM];omega
 have k:sizeLine<2 ^ 63-1:=by decide
 refine gL PySem.F.slot_list_index ⟨_,N,rfl⟩ PySem.F.entry_list_index (PySem.F.args_list_index_2 _ _)
  (SeqAt.list_indexAt l a.toArray n R sl u (pX y) j c (by omega) ?_ ?_) ⟨N,λB hw=>yO o S r E B (by simpa using hw),⟨.int j,H,I.tok _,⟨_,rfl⟩,q⟩⟩
 .obtain⟨z,b,d⟩:=O j c;show pX y a.toArray[j]=true;rw[d];exact V z b
 .intro m Y t;obtain⟨z,b,d⟩:=O m Y;show pX y a.toArray[m]=false;rw[d];exact W m z t b
theorem Il:∀ {j:Aa Af}{g:Aa Ac},lN (j.map V.str) g->StrsAre g j:=by
 intro j;induction j with
 | nil=>intro g r;cases r;exact .nil
 | cons y r c =>
  intro g h;cases h with
  | cons a b =>
   obtain⟨t,rfl⟩:=a;exact .cons _ _ (c b)
def Xy (K:lJ):V->Aa V->Hp->VK->Prop:=λx b H Q=>∃ (z:Af) (l:Ad) (a:Aa Af),x = .str z/\b=[.ref l]/\(gV K H l (a.map V.str)\/mH K H l (a.map V.str)) /\
 (a.map (·.length)).sum+a.length*z.length<=16777216/\Q (.str (Txt.join z a)) H
theorem Z1:wT X "str.join" (Xy X.K):=by
 intro e s B H x y v w Q I m i h;obtain⟨z,l,A,rfl,rfl,a,d,q⟩:=h;obtain⟨t,rfl⟩:=m;obtain⟨u,rfl,f⟩:=i.one;cases f;rcases a with a | a
 .obtain⟨b,r,c,_⟩:=I.list a;exact join_list c.isList (by simpa using Il r) d λn k=>⟨.str _,H,I.tok _,⟨_,rfl⟩,q⟩
 .obtain⟨b,r,c,_⟩:=I.tuple a;exact join_tuple c (by simpa using Il r) d λn k=>⟨.str _,H,I.tok _,⟨_,rfl⟩,q⟩
end
mutual
inductive DatV (K:lJ) (H:Hp):V->PyData->Prop where
 | e:DatV K H .e .none
 | b (b:Bool):DatV K H (.b b) (.bool b)
 | int (i:Int):DatV K H (.int i) (.int i)
 | str (x:Str):DatV K H (.str x) (.str x)
 | l {a:Addr} {xs:List V} {ds:List PyData}:gV K H a xs->DatVs K H xs ds->DatV K H (.ref a) (.list ds)
 | t {a:Addr} {xs:List V} {ds:List PyData}:mH K H a xs->DatVs K H xs ds->DatV K H (.ref a) (.tuple ds)
inductive DatVs (K:lJ) (H:Hp):List V->List PyData->Prop where
 | nil:DatVs K H [] []
 | cons {x:V} {d:PyData} {xs:List V} {ds:List PyData}:DatV K H x d->DatVs K H xs ds->DatVs K H (x::xs) (d::ds)
end
section
variable {X:Cx}
mutual
theorem DatV.reads (I:Inv X g j H s):∀ {x:V}{d:PyData}{u:Ac},DatV X.K H x d->lS x u->∃ as,Reads s.heap u d as
 | _,_,_,.e,r=>by cases r;exact⟨_,.none⟩
 | _,_,_,.b b,r=>by cases r;exact⟨_,.bool b⟩
 | _,_,_,.int i,r=>by obtain⟨t,rfl⟩:=r;exact⟨_,.int i t⟩
 | _,_,_,.str x,r=>by obtain⟨t,rfl⟩:=r;exact⟨_,.str x t⟩
 | _,_,_,.l a f,r=>by
  cases r;obtain⟨k,m,⟨o,n,e,c,_,d⟩,_⟩:=I.list a;obtain⟨as,h⟩:=DatVs.reads I f m;exact⟨_,.list e c d (by simpa using h)⟩
 | _,_,_,.t a f,r=>by
  cases r;obtain⟨k,m,⟨o,e,c,n,d⟩,_⟩:=I.tuple a;obtain⟨as,h⟩:=DatVs.reads I f m;exact⟨_,.tuple e c d (by simpa using h)⟩
theorem DatVs.reads (I:Inv X j p H s):∀ {o:Aa V}{g:Aa PyData}{l:Aa Ac},DatVs X.K H o g->lN o l->∃ as,ReadsAll s.heap l g as
 | _,_,_,.nil,.nil=>⟨_,.nil⟩
 | _,_,_,.cons h c,.cons r d=>by
  obtain⟨as,a⟩:=DatV.reads I h r;obtain⟨bs,b⟩:=DatVs.reads I c d;exact⟨_,.cons a b⟩
end
end
section
variable {X:Cx}
def Gx (K:lJ) (neg:Bool):R2:=λx y H Q=>∃ a c,DatV K H x a/\DatV K H y c/\a.canLay0=true/\c.canLay0=true/\min a.depth c.depth<=60/\Q (.b (if neg then !PyData.eqv a c else PyData.eqv a c)) H
theorem FV (g:X.A.units+64<cLine):mE X (compareOp .Eq) (Gx X.K false):=by
 intro a s B H x y v u Q I m n h;obtain⟨t,w,c,d,e,f,z,q⟩:=h;obtain⟨as,i⟩:=c.reads I m;obtain⟨bs,k⟩:=d.reads I n;exact SeqAt.compareEq_reads i k e f (by omega) ⟨.b _,H,I,rfl,q⟩
theorem BC (g:X.A.units+64<cLine):mE X (compareOp .NotEq) (Gx X.K true):=by
 intro a s B H x y v u Q I m n h;obtain⟨t,w,c,d,e,f,z,q⟩:=h;obtain⟨as,i⟩:=c.reads I m;obtain⟨bs,k⟩:=d.reads I n;exact SeqAt.compareNe_reads i k e f (by omega) ⟨.b _,H,I,rfl,q⟩
def Ex (K:lJ) (neg:Bool):R2:=λx y H Q=>∃ (a b:Ad) (c:Aa V),x = .ref a/\y = .ref b/\gV K H a c/\gV K H b []/\Q (.b (if neg then !c.isEmpty else c.isEmpty)) H
theorem Hu (g:X.A.units+64<cLine):mE X (compareOp .Eq) (Ex X.K false):=by
 intro c s M H x y v u Q I F G h;obtain⟨a,b,L,rfl,rfl,f,z,q⟩:=h;cases F;cases G;obtain⟨B,D,m,_⟩:=I.list f;obtain⟨k,E,n,_⟩:=I.list z;cases E;have t:∀ d,d=L.isEmpty->EP X c M Q (.bool d) s:=λd e=>⟨.b d,H,I,rfl,by subst e;exact q⟩
 cases D with
 | nil=>exact SeqAt.RcAt.lists (e:=λ_=>true) m.isList n.isList rfl (by omega) (λi f _=>by simp at f) X.prog X.w _ _ (t _ (by simp))
 | cons r N=>exact SeqAt.RcAt.lists_lengths m.isList n.isList (by simp) (by omega) X.prog X.w _ _ (t _ rfl)
end
end L2
namespace L2
open PySem PySem.Spec PyProof.Rows
section
variable {X:Cx}
def rS (z:Af) (lo g:Ab Int):Af:=⟨((z.cps.toList.drop (HT.sIx z.length 0 lo)).take (HT.sIx z.length z.length g-HT.sIx z.length 0 lo)).toArray⟩
theorem Vv (lo g:Ab Int) (n:Nat):Builtin.Str.strSliceIndices lo g 1 n=(List.range (HT.sIx n n g-HT.sIx n 0 lo)).map (HT.sIx n 0 lo+·):=by
 unfold Builtin.Str.strSliceIndices;rw[<- sliceRange_one];have c:∀ (v:Ab Int) (d:Nat),d<=n->(match v with | none=>((d:Nat):Int) | some i=>if (1:Int)>0 then max 0 (min (if i<0 then i+(n:Int) else i) (n:Int)) else max (-1) (min (if i<0 then i+(n:Int) else i) ((n:Int)-1)))=((HT.sIx n d v:Nat):Int):=by
  intro v d hd;cases v with
  | none=>rfl
  | some i =>
   simp only[HT.sIx,show (1:Int)>0 by decide,eV];by_cases h:i<0
   .simp only[h,eV]<;>omega
   .simp only[h,eZ]<;>omega
 have a:=c lo 0 (cS _);have b:=c g n (aL _);simp only[show (1:Int)>0 by decide,eV] at a b |-;rw[<- a,<- b];cases lo<;>cases g<;>rfl
def Q3:V->Ab Int->Ab Int->Hp->VK->Prop:=λx lo a H Q=>∃ z:Af,x = .str z/\z.length<=sizeLine/\Q (.str (rS z lo a)) H
theorem M7 (p:IsPart v o):∃ l:Ab (Int×Tok),v=partValue l/\o=l.map (·.1):=by
 cases p with
 | none=>exact⟨none,rfl,rfl⟩
 | int i t=>exact⟨some (i,t),rfl,rfl⟩
theorem wU (z:Af):z.cps.toList.length=z.length:=by
 rw[gA];rfl
theorem Sv {a b:Af}(h:a.cps.toList=b.cps.toList):a=b:=by
 obtain⟨a⟩:=a;obtain⟨b⟩:=b
 congr
 exact Array.toList_inj.mp h
theorem Kh:uE X Q3:=by
 intro c s K H x v E G lo B sl Q I A n w y h;obtain⟨z,rfl,D,q⟩:=h;obtain⟨t,rfl⟩:=A;obtain⟨l,rfl,rfl⟩:=M7 w;obtain⟨u,rfl,rfl⟩:=M7 y;refine⟨"str",_,PySem.F.slot_str_getitem.lookup,kD _ z t,?_⟩;refine wpAny_getItem_str_slice (l:=l) (u:=u) (st:=none) n rfl ?_;have e:slicePicked z l u none=(List.range (HT.sIx z.length z.length (u.map (·.1))-HT.sIx z.length 0 (l.map (·.1)))).map (HT.sIx z.length 0 (l.map (·.1))+·):=Vv _ _ _;have d:(⟨((slicePicked z l u none).filterMap (z.cps[·]?)).toArray⟩:Af)=rS z (l.map (·.1)) (u.map (·.1)):=by
  rw[e,pick_run];rfl
 have m:=HT.sIx_le z.length z.length (aL _) (u.map (·.1));have b:=HT.sIx_le z.length 0 (cS _) (l.map (·.1));unfold sliceMade;split
 .rename_i k
  have a:(slicePicked z l u none).length=z.length:=by
   have:=(bS _ _).mp k;exact eq_of_beq this.2
  have f:rS z (l.map (·.1)) (u.map (·.1))=z:=by
   rw[e,aB,bN] at a;apply Sv;show ((z.cps.toList.drop _).take _)=z.cps.toList;have i:HT.sIx z.length 0 (l.map (·.1))=0:=by omega
   rw[i] at a |-;rw[List.drop_zero,bJ];rw[wU];omega
  rw[f] at q;exact⟨.str z,H,I,⟨t,rfl⟩,q⟩
 .rw[d];refine⟨?_,.str _,H,I.tok _,⟨_,rfl⟩,q⟩;have:(rS z (l.map (·.1)) (u.map (·.1))).length<=z.length:=by
   show ((z.cps.toList.drop _).take _).toArray.size<=_;rw[aM,bR,dN,wU];omega
  omega
theorem Wj:mU X (.type "dict") (λj H Q=>∃ (a:Ad) (g:Aa (lL×V)),j=[.ref a]/\H a=some (.k g)/\∀ p,H p=none->Q (.ref p) (upd H p (.k g))):=by
 intro b s n H j m Q I r h;obtain⟨a,g,rfl,d,q⟩:=h;obtain⟨u,rfl,f⟩:=oV r;cases f;exact BE I (.inl d) λp i e c=>⟨.ref p,_,c,rfl,q p e⟩
theorem V9:mU X (.builtin "isinstance") (λj H Q=>∃ (x c:V) (t g:Ac) (b:Bool),j=[x,c]/\lS c g/\TyOf X.K H x t/\PySem.W.kitOne X.K t g=some b/\Q (.b b) H):=by
 intro k s A H j y Q I r h;obtain⟨x,c,t,g,b,rfl,d,ty,e,q⟩:=h;obtain⟨u,v,rfl,m,f⟩:=Bh r;have:v=g:=by
  cases c with
  | ref a=>cases d;cases f;rfl
  | ty n=>cases d;cases f;rfl
  | e=>cases d;cases f;rfl
  | b b=>cases d;cases f;rfl
  | int i=>obtain⟨z,rfl⟩:=d;exact absurd e (by unfold PySem.W.kitOne PySem.W.kitCls;cases ty<;>simp)
  | str i=>obtain⟨z,rfl⟩:=d;exact absurd e (by unfold PySem.W.kitOne PySem.W.kitCls;cases ty<;>simp)
  | byt i=>obtain⟨z,rfl⟩:=d;exact absurd e (by unfold PySem.W.kitOne PySem.W.kitCls;cases ty<;>simp)
  | flt i=>obtain⟨z,rfl⟩:=d;exact absurd e (by unfold PySem.W.kitOne PySem.W.kitCls;cases ty<;>simp)
 subst this;exact W6 I m ty e λw=>⟨.b b,H,I.tok _,rfl,q⟩
end
def tO (z:Af):It:=⟨λi _=>i<z.length,λi H x a=>a=H/\∃ c,z.cps[i]?=some c/\x = .str ⟨#[c]⟩,λi _=>z.length<=i⟩
theorem Qg {P:Ah}{K:lJ}(z:Af) (t:Tok) (it:Ad):Turn P w K tg (tO z) [it] it (λi h=>h.IsStrIter it "str_ascii_iterator" z t i) where
 mem:=by simp
 obj:=λi h st b hb=>by
  have e:b=it:=by simpa using hb
  subst e;obtain⟨o,e,c,d⟩:=st;exact⟨o,e,λv z=>by rw[d] at z;cases z⟩
 keep:=λi h h' st k=>by
  obtain⟨o,e,r⟩:=st;exact⟨o,k it (by simp) o e,r⟩
 item:=by
  intro X hP hw hK hc i pins s σ H E I hf st hg;subst hP hw hK;have hg:i<z.length:=hg;obtain⟨f0,f1,f2,f3,f4,f5⟩:=hf it (by simp);have hz:z.cps[i]?=some (z.cps[i]'hg):=eS hg;refine wpAny_pyNext_ascii_item st hz λh' st' sb=>?_
  have I1:Inv X pins σ H { s with heap:=h',toks:=s.toks+1 }:=I.turned (t':=s.toks+1) (λb o hb e=>(sb.2 b hb).trans e) f0 f1 f3 f4 f5;obtain⟨o,e,c,d⟩:=id st';exact⟨_,rfl,A6 (s:={ s with heap:=h',toks:=s.toks+1 }) e c d (by decide) ⟨.str ⟨#[z.cps[i]'hg]⟩,H,I1,⟨_,rfl⟩,⟨rfl,_,hz,rfl⟩,st',λb hb=>(hf b hb).1⟩⟩
 done:=by
  intro X hP hw hK hc i pins s σ H E I hf st hg;subst hP hw hK;have hg:z.length<=i:=hg;obtain⟨f0,f1,f2,f3,f4,f5⟩:=hf it (by simp);exact wpAny_pyNext_ascii_end (I.ok.hd hc) st (fH (by exact hg)) λh' eb=>⟨rfl,I.turned (t':=s.toks) (λb o hb e=>eb b o hb e) f0 f1 f3 f4 f5⟩
 self:=λ_ _ _ _ _ st h=>wpAny_pyIter_striter_ascii st h
section
variable {X:Cx}
def GZ (g:TE):TI:=λb H R=>g b H λx a=>∃ z:Af,x = .str z/\z.cps.all (·<128)=true/\R (tO z) a
theorem GU (g:PE X l j):PI X o l (GZ j):=by
 intro a s k H R I h;refine lM (g a s k H _ I h) λv c f=>?_
 obtain⟨x,i,d,y,z,n,u,q⟩:=f;subst n;obtain⟨t,rfl⟩:=y;refine wpAny_pyIter_ascii u ?_;have m:Inv X a k i { c with heap:=c.heap.push { cls:=.type "str_ascii_iterator",data:=.fields #[.str z t,.int 0 0] } }:=d.kept (t':=c.toks) λb A q=>aD _ q
 refine⟨c.heap.objs.size,[c.heap.objs.size],_,tO z,i,rfl,m,Qg z t _,⟨_,aQ _ rfl,rfl,rfl⟩,λb w=>?_,q⟩;have e:b=c.heap.objs.size:=by simpa using w
 subst e;exact d.fpOk (aL _) (d.hok.fresh (aL _))
end
def rR (g:Aa Af) (x:Af):Aa Af:=if x∈g then g else g++[x]
def nO (l:Aa Af):Aa Af:=l.foldl rR []
theorem Gw (l:Aa Af) (x:Af):nO (l++[x])=rR (nO l) x:=by unfold nO;rw[List.foldl_append];rfl
theorem Yi (g:Aa Af) (x y:Af):y∈rR g x↔y∈g\/y=x:=by
 unfold rR;split
 .rename_i h
  constructor
  .exact .inl
  .rintro (q | q)
   .exact q
   .rw[q];exact h
 .simp[aX]
theorem Dy (g:Aa Af) (x:Af):(rR g x).length=if x∈g then g.length else g.length+1:=by
 unfold rR;split<;>simp
theorem Wh (l:Aa Af):∀ k,(nO (l.take k)).length<=k:=by
 intro k;induction k with
 | zero=>simp[nO]
 | succ k a =>
  rw[dQ];cases e:l[k]? with
  | none=>simp;omega
  | some x =>
   simp only[Option.toList_some];rw[Gw,Dy];split<;>omega
theorem DG (r:Aa Af):∀ g,g.length<=(r.foldl rR g).length/\(r.foldl rR g).length<=g.length+r.length:=by
 induction r with
 | nil=>intro g;simp
 | cons x r a =>
  intro g;have h:=a (rR g x);rw[Dy] at h;simp only[iT,bT];split at h<;>omega
theorem AS:∀ (r g:Aa Af),g.Nodup->(r.foldl rR g).length=g.length+r.length->(g++r).Nodup:=by
 intro r;induction r with
 | nil=>intro g h _;simpa using h
 | cons x r d =>
  intro g h e;simp only[iT,bT] at e;have b:=DG r (rR g x);rw[Dy] at b;by_cases a:x∈g
  .rw[bA a] at b;omega
  .have c:rR g x=g++[x]:=by unfold rR;rw[if_neg a]
   rw[c] at e;have:=d (g++[x]) (Lm h a) (by rw[e];simp;omega)
   simpa using this
theorem AK (h:(nO l).length=l.length):l.Nodup:=by
 have:=AS l [] List.nodup_nil (by simpa [nO] using h)
 simpa using this
theorem My {P:Ah}{w:World}{h:Ag}{a:Ad}{S g:Af->Bool}{n j:Nat}(z:h.SetOf (PySem.strKind P w) a S n) (e:∀ k,S k=g k) (l:n=j):h.SetOf (PySem.strKind P w) a g j:=by
 have:S=g:=funext e;subst this l;exact z
section
variable {R:Result->Ae->Prop}{P:Nat->Ac->Prop}{St:Nat->Ae->Prop}
theorem V5 (W:WalksS g w A.in1 J I C G n P St) (a:Ad) (p:a∉I) (j:Aa Af) (aa:j.length=n) (hp:∀ i v,P i v->∃ x t,j[i]?=some x/\v = .str x t) (r:n+1<scanBound) :
  ∀ (k i:Nat) (s:Ae),n-i=k->i<=n->St i s->s.heap.SetOf (PySem.strKind g w) a (λx=>decide (x∈nO (j.take i))) (nO (j.take i)).length ->
   (∀ l,Moved (a::C) G s l->l.heap.SetOf (PySem.strKind g w) a (λx=>decide (x∈nO j)) (nO j).length->R (.ok (.ret .none)) l) ->
   codeAny (model g w) A (.builtin "set.update.loop" ⟨[.ref a,.ref J],[]⟩) R s:=by
 have h:a∉C:=λz=>p (W.sub _ z)
 have c:∀ b∈C,b∈a::C:=λb z=>aN _ z
 intro k;induction k with
 | zero =>
  intro i s hk U st E L;have Z:i=n:=by omega
  subst Z;rw[bJ (by omega)] at E;refine dM iM ?_;rw[cJ fG _];show wpAny _ A.in1 (pyNext (.ref J) >>= _) _ _ s;refine aA (W.done s _ _ st λl u=>?_);show wpAny _ A.in1 (ret Value.none) _ _ l;obtain⟨o,H,F,t,Q,rest⟩:=E;exact aE (L l (u.mono c) ⟨o,H,F,t,u.heap a _ h Q,rest⟩)
 | succ k ih =>
  intro i s hk U st E L;have q:i<n:=by omega
  refine dM iM ?_;rw[cJ fG _];show wpAny _ A.in1 (pyNext (.ref J) >>= _) _ _ s;refine aA (W.item i s _ _ q st λv l hv V u=>?_);obtain⟨x,t,hx,rfl⟩:=hp i v hv;have M:l.heap.SetOf (PySem.strKind g w) a (λx=>decide (x∈nO (j.take i))) (nO (j.take i)).length:=by
   obtain⟨o,H,F,tb,Q,rest⟩:=E;exact⟨o,H,F,tb,u.heap a _ h Q,rest⟩
  show wpAny _ A.in1 (holding [Value.str x t] (setAdd a (.str x t)) >>= _) _ _ l;refine aA (bV ?_);unfold setAdd;refine bV ?_;have m:(PySem.strKind g w).is x (.str x t)=true:=by simp[PySem.strKind,Value.isStrOf]
  refine aA ((PySem.strKind g w).pyHash (k:=x) m ?_);have d:(nO (j.take i)).length+1<scanBound:=by have:=Wh j i;omega
  refine wpAny_setAddHashed_of (knd:=strKind g w) (s:={ l with toks:=l.toks+1 }) m rfl M d λT Y N=>?_
  have X:j.take (i+1)=j.take i++[x]:=by rw[dQ,hx];rfl
  have O:T.SetOf (PySem.strKind g w) a (λx=>decide (x∈nO (j.take (i+1)))) (nO (j.take (i+1))).length:=by
   refine My N (λy=>?_) ?_
   .rw[X,Gw];have:=Yi (nO (j.take i)) x y;by_cases D:y∈nO (j.take i)<;>by_cases K:y=x<;>simp only[D,K,true_or,or_true,eF,false_or] at this<;>simp[this,D,K]
    all_goals (subst K;simp[this])
   .rw[X,Gw,Dy];by_cases D:x∈nO (j.take i)<;>simp[D]
  refine aE ⟨fX fG _,ih (i+1) _ (by omega) q (W.frame _ l _ _ V (iB _) λb r o e=>?_) O λS B f=>?_⟩
  .rw[Y.2 b (λz:b=a=>p (by rw[<- z];exact r))];exact e
  .refine L S (Moved.trans W.gtrans ((u.mono c).then_heap (iB _) λb o r e=>?_) B) f;rw[Y.2 b (λz:b=a=>r (by rw[z];exact aH))];exact e
end
end L2
namespace PySem
open PyProof.Rows L2
section
theorem CJ
  (fill:∀ g,wpAny (model j w) A.in1.in1 (Builtin.«set.__init__» ⟨[.ref s.heap.objs.size,x],[]⟩) (λf l=>f = .done (.ret .none)/\Q (.ref s.heap.objs.size) l) E { s with heap:=s.heap.push { cls:=.type "set",dict:=none,data:=.set #[] 0 (.fresh 0 0 g) } }) :
  wpAny (model j w) A (call (.type "set") [x]) Q E s:=by
 obtain⟨c,r,d⟩:=F.called_set.mro;refine wpAny_call (codeAny_of_tree (aE ⟨Code.quiet_builtin _ (by decide +kernel),dM F.entry_type_call ?_⟩));have b:=F.called_set;have body:wpAny (model j w) A.in1 (Builtin.«type.__call__» ⟨[.type "set",x],[]⟩) (λf l=>match f with | .done f=>wants Q E (.ok f) l | .again h=>h.quiet=true/\codeAny (model j w) A h (wants Q E) l) (λe l=>wants Q E (.error e) l) s:=by
  unfold Builtin.«type.__call__»;dsimp only;rw[b.notType];simp only[gO,eZ,b.canCreate];refine aA (jS (F.typeCall_set_1 x) (aA (jS d ?_)));rw[bF (show ¬ (c::r).isEmpty=true from bD)];refine aA (jS b.made (aA (aE (aA (bV (wpAny_call (code_set_new_1 x λg=>?_)))))));have a:Shared.TypeIs { s with heap:=s.heap.push { cls:=.type "set",dict:=none,data:=.set #[] 0 (.fresh 0 0 g) } } (.ref s.heap.objs.size) "set" := ⟨_,aQ _ rfl,rfl⟩;refine aA (dO a b.sub ?_);rw[bF (show ¬ (!true)=true from bD)];refine aA (bV (cD a b.init (wpAny_call (codeAny_call_builtin b.init.plain F.entry_set_init (check_set_init_1 a ?_)))));refine dB (fill g) (λf l q=>?_) λ_ _ q=>q
  obtain⟨rfl,q⟩:=q;exact aE q
 exact body
theorem EZ {S:Ad}(p:s.heap.IsList l C)
  (o:codeAny (model g w) A (.builtin "set.update.loop" ⟨[.ref S,.ref s.heap.objs.size],[]⟩) (λr j=>match r with | .ok (.ret _)=>Q () j | .ok _=>False | .error e=>E e j) { s with heap:=s.heap.push { cls:=.type "list_iterator",data:=.fields #[.ref l,.int 0 0] } }) :
  wpAny (model g w) A (Builtin.Frozenset.updateFrom "set.__init__" S (.ref l)) Q E s:=by
 have a:wpAny (model g w) A (Builtin.Frozenset.isAnySet (.ref l)) (λb j=>b=false/\j=s) E s :=
  aA (dO p.typeIs F.sub_list_set (dO p.typeIs F.sub_list_frozenset ⟨rfl,rfl⟩))
 refine aA (dB a (λb j q=>?_) λ_ _ q=>q);obtain⟨rfl,rfl⟩:=q;refine aA (eW p.typeIs (aA (eK p (aA (wpAny_runValue ?_)))));exact codeAny_mono o λr j q=>by
  match r,q with
  | .ok (.ret v),q=>exact aE q
  | .error e,q=>exact q
abbrev zW (g:Bool):Obj:={ cls:=.type "set",dict:=none,data:=.set #[] 0 (.fresh 0 0 g) }
theorem Yh {S:Ad}(o:s.heap.get? S=some (zW g))
  (fill:wpAny (model j w) A (Builtin.Frozenset.updateFrom "set.__init__" S x) (λ_ l=>Q (.done (.ret .none)) l) E s) :
  wpAny (model j w) A (Builtin.«set.__init__» ⟨[.ref S,x],[]⟩) Q E s:=by
 unfold Builtin.«set.__init__»;generalize Builtin.Frozenset.updateFrom=up at fill |-
 wp_walk
 exact dB fill (λ_ _ q=>aE q) λ_ _ q=>q
theorem AZ (z:StrsAre g j):j.length=g.length:=by
 induction z with
 | nil=>rfl
 | cons _ _ _ a=>rw[bT,bT,a]
theorem S7 (z:StrsAre g j):∀ {i:Nat}{v:Ac},g[i]?=some v->∃ x t,j[i]?=some x/\v = .str x t:=by
 induction z with
 | nil=>intro i v e;cases e
 | cons x t _ a =>
  intro i v e
  match i,e with
  | 0,e=>exact⟨x,t,rfl,(cA e).symm⟩
  | i+1,e=>exact a (i:=i) e
theorem O5 {s g:Ae}(a:g.gens=s.gens) (b:g.drawn=s.drawn) (c:g.os=s.os):g={ s with heap:=g.heap,toks:=g.toks }:=by
 cases s;cases g;cases a;cases b;cases c;rfl
theorem CL (T:A.handled=none) (C:s.heap.IsList l items) (I:StrsAre items.toList p) (J:items.size+1<scanBound)
  (h:∀ (r:Ag) (U:Nat),r.SetOf (PySem.strKind j w) s.heap.objs.size (λx=>decide (x∈nO p)) (nO p).length->(∀ b o,b<s.heap.objs.size->s.heap.get? b=some o->r.get? b=some o) ->Q (.ref s.heap.objs.size) { s with heap:=r,toks:=U }):wpAny (model j w) A (call (.type "set") [.ref l]) Q E s:=by
 refine CJ λg=>Yh (aQ _ rfl) (EZ (C.push _) ?_)
 have two:(s.heap.push (zW g)).objs.size=s.heap.objs.size+1:=cK ..;have lt:l<s.heap.objs.size:=by
  obtain⟨o,e,_⟩:=C;exact aK e
 have d:l≠(s.heap.push (zW g)).objs.size:=by
  rw[two];exact bE (jF lt)
 have f:s.heap.objs.size∉[(s.heap.push (zW g)).objs.size,l]:=λz=>by
  rw[two] at z;rcases aF.mp z with q | q
  .exact bE (Nat.lt_succ_self _) q
  .exact gI lt (aU.mp q)
 have len:p.length=items.size:=by rw[AZ I,gA]
 have item:∀ (i:Nat) (v:Ac),items[i]?=some v->∃ x t,p[i]?=some x/\v = .str x t:=λi v e=>S7 I (by rw[eU];exact e)
 have empty:((s.heap.push (zW g)).push { cls:=.type "list_iterator",data:=.fields #[.ref l,.int 0 0] }).SetOf (PySem.strKind j w) s.heap.objs.size (λx=>decide (x∈nO (p.take 0))) (nO (p.take 0)).length :=
  My ((setObjOf_fresh (knd:=PySem.strKind j w) g).setOf (aD _ (aQ _ rfl)) (by unfold scanBound;omega)) (λ_=>by simp[nO]) (by simp[nO])
 refine V5 ((Walks.list (by simp[T]) _ l d items).toS) s.heap.objs.size f p len item J items.size 0 _ (by omega) (cS _) ⟨⟨_,aQ _ rfl,rfl,rfl⟩,(C.push _).push _⟩ empty λa c fin=>?_
 have res:=h a.heap a.toks fin λb o k e=>c.heap b o (λz=>?_) (aD _ (aD _ e))
 .rw[show a={ s with heap:=a.heap,toks:=a.toks } from O5 c.gens c.drawn c.os];exact⟨rfl,res⟩
 .rcases aF.mp z with q | q
  .exact bE k q
  .have q:=aU.mp q;rw[two] at q;exact bE (jF k) q
end
end PySem
namespace L2
open PySem PySem.Spec PyProof.Rows
section
variable {X:Cx}
def yE (P:Ah) (w:World) (a:Ad) (n:Nat):HO:=.ext λh=>∃ S,h.SetOf (PySem.strKind P w) a S n
theorem Z5 (l:X.calm=true):mU X (.type "set") (λj H Q=>∃ (p:Ad) (g:Aa Af),j=[.ref p]/\gV X.K H p (g.map V.str)/\g.length<=4000/\∀ a,H a=none->Q (.ref a) (upd H a (yE X.prog X.w a (nO g).length))):=by
 intro f s N H j M Q I r h;obtain⟨p,g,rfl,y,L,q⟩:=h;obtain⟨u,rfl,D⟩:=oV r;cases D;obtain⟨A,i,B,_⟩:=I.list y;have c:=i.length;rw[aB] at c;refine CL (I.ok.hd l) B.isList (by simpa using Il i) (by rw[aM];unfold scanBound;omega) λv E d x=>?_
 have hex:∃ o,v.get? s.heap.objs.size=some o:=by obtain⟨o,_,_,_,e,_⟩:=d;exact⟨o,e⟩
 refine⟨.ref s.heap.objs.size,_,I.laid (a:=s.heap.objs.size) (o:=yE X.prog X.w s.heap.objs.size (nO g).length) (t':=E) (λb o e=>x b o (aK e) e) (aL _) ?_,rfl,q _ I.fresh⟩;refine⟨⟨_,d⟩,hex,λF G ⟨S,z⟩ k=>⟨S,?_⟩⟩;obtain⟨o,n,m,t,e,rest⟩:=z;exact⟨o,n,m,t,k o e,rest⟩
theorem Sn:mU X (.builtin "len") (λg H Q=>∃ (a:Ad) (n:Nat),g=[.ref a]/\H a=some (yE X.prog X.w a n)/\Q (.int n) H):=by
 intro b s y H g x Q I r h;obtain⟨a,n,rfl,f,q⟩:=h;obtain⟨u,rfl,k⟩:=oV r;cases k;obtain⟨⟨S,o,c,m,t,e,d,hd,_,_,v,i,rfl⟩,_⟩:=I.hok a _ f;refine call_len_set e d hd i ?_ ⟨.int c.size,H,I.tok _,⟨_,rfl⟩,q⟩;have:scanBound=4096:=rfl;omega
end
end L2
namespace PySem
open PyProof.Rows L2
theorem zL:entryFor table "dict.update.loop" = some Builtin.«dict.update.loop»:=entryFor_of_tree (by kernel_rfl)
theorem sU:plainId "dict.update.loop" = true:=by decide +kernel
theorem FO:typeLookup (.type "list") "keys" = pure none:=am_miss_of_fast (by decide +kernel)
section
theorem Up {sl:Array (Ab Ac)}
  (l:s.heap.get? a=some { cls:=.type "list",dict:=none,data:=.seq j n,slots:=sl }) (calm:A.handled=none) (out:∀ o p e,Heap.NewAttrErr s.heap o e (.ref a) "keys" -> E (.ref e) { s with heap:=o,toks:=p }) :
  wpAny (model g w) A (boundAndCalled (.builtin "list.__getattribute__") (.ref a) (.str "keys" u)) Q E s:=by
 have ask:wpAny (model g w) A (call (.builtin "list.__getattribute__") [.ref a,.str "keys" u]) Q E s :=
  gL iQ ⟨_,l,rfl⟩ am_entry_list_getattribute (F.args_list_getattribute_2 _ _) (meets_getattribute_miss_list a j n sl "keys" u FO (by decide +kernel)) ⟨l,calm,out⟩
 unfold boundAndCalled;rw[iQ.bind (.ref a)];exact aA (aE ask)
theorem GX (t:s.TypeIs (.ref e) "AttributeError") (out:E (.ref e) s) :
  wpAny (model g w) A (getattributeRaised o name (.type "list") (.ref e) none false false) Q E s:=by
 have last:wpAny (model g w) A (hookOrError o name (.ref e) false false none) Q E s:=aA (wpAny_throw out);have a:hookBehind (.type "list") none=pure none:=am_list_getattr_none;unfold getattributeRaised;refine aA (dO t iX ?_);rw[bA rfl,a];exact aA (aE last)
theorem U1 {sl:Array (Ab Ac)}
  (l:s.heap.get? a=some { cls:=.type "list",dict:=none,data:=.seq C n,slots:=sl }) (calm:A.handled=none) (out:∀ j p e,Heap.NewExcOf s.heap j e "AttributeError" -> Q none { s with heap:=j,toks:=p }) :
  wpAny (model g w) A (getAttr? (.ref a) "keys") Q E s:=by
 have c:∀ j p e,Heap.NewAttrErr s.heap j e (.ref a) "keys" -> (∃ o,j.get? e=some o/\o.cls = .type "AttributeError")/\Q none { s with heap:=j,toks:=p }:=λj p e x=>by
  obtain⟨_,_,y⟩:=x.there;exact⟨⟨_,y,rfl⟩,out j p e x.of⟩
 let d:Ae:={ s with toks:=s.toks+1 };let b:Except Ac Ac->Ae->Prop:=λr i=>wpAny (model g w) A (match r with | .ok v=>pure (some v) | .error e=>do if <- isInstance e (.type "AttributeError") then pure none else throw e) Q E i
 have look:wpAny (model g w) A (getAttrBy (.ref a) (.str "keys" s.toks) false) (λv=>b (.ok v)) (λe=>b (.error e)) d:=by
  refine bV (aA (eW (T := "list") ⟨_,l,rfl⟩ (aA (jS iQ.lookup ?_))));have own:wpAny (model g w) A (getAttrByItsOwn (.ref a) (.str "keys" s.toks) (.type "list") (.builtin "list.__getattribute__") false false) (λv=>b (.ok v)) (λe=>b (.error e)) d:=by
   refine aA (aE (aA (eY (bV (Up (s:=d) l calm λj p e x=>?_)))));obtain⟨⟨o,f,h⟩,q⟩:=c j p e x;exact GX ⟨o,f,h⟩ (aA (dO (T := "AttributeError") ⟨o,f,h⟩ iX (aE q)))
  exact own
 exact aA (wpAny_mkText (aA (eY look)))
end
section
variable {R:Result->Ae->Prop}{P:Nat->Ac->Prop}{St:Nat->Ae->Prop}
theorem Ye (W:WalksS j w A.in1 J fp l G n P St) (d:Ad) (I:d∉fp) (C:Ag) (M:Nat->Ag->Prop) (U:∀ i h p,(∀ b o,b∉l->h.get? b=some o->p.get? b=some o)->M i h->M i p)
  (hT:∀ i v,i<n->P i v->∃ (t:Ad) (o:Obj) (m:Nat) (r x:Ac),v = .ref t/\t∉d::l/\C.get? t=some o/\o.cls = .type "tuple" /\ o.data = .seq #[r,x] m /\ ∀ (s:Ae) (Q:Unit->Ae->Prop) (E:Ac->Ae->Prop),(∀ b o,b∉d::l->C.get? b=some o->s.heap.get? b=some o)->M i s.heap ->(∀ p c,M (i+1) p->Heap.SameBut d s.heap p->Q () { s with heap:=p,toks:=s.toks+c })->wpAny (model j w) A.in1 (dictSet d r x) Q E s) :
  ∀ (k i:Nat) (s:Ae),n-i=k->i<=n->St i s->(∀ b o,b∉d::l->C.get? b=some o->s.heap.get? b=some o)->M i s.heap ->
   (∀ g,Moved (d::l) G s g->M n g.heap->R (.ok (.ret .none)) g) ->
   codeAny (model j w) A (.builtin "dict.update.loop" ⟨[.ref d,.ref J,.int (i:Int) 0,.none],[]⟩) R s:=by
 have q:∀ b∈l,b∈d::l:=λb z=>aN _ z
 intro k;induction k with
 | zero =>
  intro i s hk hi st f L K;have ei:i=n:=by omega
  subst ei;refine dM zL ?_;rw[cJ sU _];show wpAny _ A.in1 (pyNext (.ref J) >>= _) _ _ s;refine aA (W.done s _ _ st λg D=>?_);show wpAny _ A.in1 (Builtin.Dict.addKeywords d [] >>= _) _ _ g;exact aA (aE (aE (K g (D.mono q) (U _ _ _ D.heap L))))
 | succ k ih =>
  intro i s hk hi st f L K;have B:i<n:=by omega
  refine dM zL ?_;rw[cJ sU _];show wpAny _ A.in1 (pyNext (.ref J) >>= _) _ _ s;refine aA (W.item i s _ _ B st λv g hv Z D=>?_);obtain⟨t,o,m,r,x,rfl,ht,V,O,S,put⟩:=hT i v B hv;have a:∀ b o,b∉d::l->C.get? b=some o->g.heap.get? b=some o:=λb o u e=>D.heap b o (λz=>u (q _ z)) (f b o u e)
  have y:=a t o ht V;show wpAny _ A.in1 (holding [Value.ref t] _ >>= _) _ _ g;refine aA (bV ?_);refine aA (iC ?_);unfold Builtin.Dict.pairItems;refine aA (eW (T := "tuple") ⟨o,y,O⟩ ?_);rw[bA (by decide)];refine aA (dH y S ?_);refine aE ?_;show wpAny _ A.in1 (holding [r,x] (dictSet d r x)) _ _ g;refine bV (put g _ _ a (U _ _ _ D.heap L) λp c N Y=>?_);refine aE ⟨fX sU _,?_⟩;have e1:(rawInt ((i:Int)+1))=Value.int ((i+1:Nat):Int) 0:=by rfl
  rw[e1];refine ih (i+1) _ (by omega) B (W.frame _ g _ _ Z (eI _ _) λb u o e=>?_) (λb o u e=>?_) N λX H F=>?_
  .rw[Y.2 b (λz:b=d=>I (by rw[<- z];exact u))];exact e
  .rw[Y.2 b (λz:b=d=>u (by rw[z];exact aH))];exact a b o u e
  .refine K X (Moved.trans W.gtrans ((D.mono q).then_heap (eI _ _) λb o u e=>?_) H) F;rw[Y.2 b (λz:b=d=>u (by rw[z];exact aH))];exact e
end
section
variable {K:Type} [DecidableEq K] {knd:KeyKind prog w K}{A:Around}
abbrev Je (l:Ad):Obj:={ cls:=.type "list_iterator",data:=.fields #[.ref l,.int 0 0] }
abbrev S8 (g:Array Ac) (n:Nat) (sl:Array (Ab Ac)):Obj:={ cls:=.type "list",dict:=none,data:=.seq g n,slots:=sl }
theorem EI {sl:Array (Ab Ac)}(t:s.TypeIs (.ref d) "dict") (j:s.heap.get? l=some (S8 r n sl)) (calm:A.handled=none)
  (on:∀ g o e,Heap.NewExcOf s.heap g e "AttributeError" -> Q (.again (.builtin "dict.update.loop" ⟨[.ref d,.ref g.objs.size,.int 0 0,.none],[]⟩)) { s with heap:=g.push (Je l),toks:=o }) :
  wpAny (model prog w) A (Builtin.«dict.__init__» ⟨[.ref d,.ref l],[]⟩) Q E s:=by
 have first:wpAny (model prog w) A (Builtin.Dict.selfAndRest "__init__" ⟨[.ref d,.ref l],[]⟩) (λp b=>p=(d,[Value.ref l])/\b=s) E s:=aA (wpAny_notOrdered_dict t (aE ⟨rfl,rfl⟩))
 have a:wpAny (model prog w) A (Builtin.Dict.updateFrom "dict.__init__" d (.ref l) [] .none) Q E s:=by
  refine aA (eW (T := "list") ⟨_,j,rfl⟩ ?_);rw[bA (by decide)];refine aA (U1 j calm λg o e x=>?_);exact aA (kE (aA (eK ⟨_,x.keeps _ _ j,rfl,n,rfl⟩ (aE (on g o e x)))))
 exact aA (dB first (λp b q=>by obtain⟨rfl,rfl⟩:=q;exact a) λ_ _ q=>q)
def uL (s:Ae):Ae:={ s with heap:=s.heap.push { cls:=.type "dict",data:=.dict #[] } }
theorem Zi (M:Nat->Ag->Prop) (I:A.handled=none) (C:s.heap.get? l=some o) (hc:o.cls = .type "list") (hd:o.dict=none) (r:o.data = .seq items nl)
  (m0:∀ h:Ag,h.get? s.heap.objs.size=some { cls:=.type "dict",data:=.dict #[] }->M 0 h) (T:∀ i h g,(∀ b o,b<=s.heap.objs.size->h.get? b=some o->g.get? b=some o)->M i h->M i g)
  (U:∀ (i:Nat) v,items[i]?=some v->∃ (t:Ad) (o:Obj) (m:Nat) (p x:Ac),v = .ref t/\s.heap.get? t=some o/\o.cls = .type "tuple" /\ o.data = .seq #[p,x] m /\ ∀ (B:Around) (j:Ae) (Q:Unit->Ae->Prop) (E:Ac->Ae->Prop),(A.units+2<cLine->B.units<cLine)->(∀ b o,s.heap.get? b=some o->j.heap.get? b=some o)->M i j.heap ->(∀ g c,M (i+1) g->Heap.SameBut s.heap.objs.size j.heap g->Q () { j with heap:=g,toks:=j.toks+c })->wpAny (model prog w) B (dictSet s.heap.objs.size p x) Q E j)
  (h:∀ (g:Ag) (J:Nat),M items.size g->(∀ b o,s.heap.get? b=some o->g.get? b=some o)->Q (.ref s.heap.objs.size) { s with heap:=g,toks:=J }) :
  wpAny (model prog w) A (call (.type "dict") [.ref l]) Q E s:=by
 obtain⟨oc,od,Y,Z⟩:=o;cases hc;cases hd;cases r;let D:=s.heap.objs.size;have N:(uL s).heap.get? D=some { cls:=.type "dict",data:=.dict #[] }:=aQ _ rfl;have ty:(uL s).TypeIs (.ref D) "dict" := ⟨_,N,rfl⟩;have old:∀ b o,s.heap.get? b=some o->(uL s).heap.get? b=some o:=λb o e=>aD _ e
 refine callType_codes F.kt_called_dict (jT _) F.entry_dict_init (kt_code_dict_new _ (Q₁:=λv L=>v = .ref D/\L=uL s) ⟨rfl,rfl⟩) λv L q=>?_
 obtain⟨rfl,rfl⟩:=q;refine⟨ty,kF _ _,EI ty (old _ _ C) (by simp[I]) λn J e x=>⟨fX sU _,?_⟩⟩;have rG:D<n.objs.size:=aK (x.keeps _ _ N);have G:l<D:=aK C;have keeps:∀ b o,s.heap.get? b=some o->(n.push (Je l)).get? b=some o:=λb o e=>aD _ (x.keeps _ _ (old b o e))
 have a:∀ {b:Ad},b<D->b∉[D,n.objs.size]:=λ{b} u z=>by
  rcases aF.mp z with q | q
  .exact bE u q
  .exact bE (Nat.lt_trans u rG) (aU.mp q)
 have f:D∉[n.objs.size,l]:=λz=>by
  rcases aF.mp z with q | q
  .exact bE rG q
  .exact gI G (aU.mp q)
 have d:(n.push (Je l)).IsList l items:=⟨_,keeps _ _ C,rfl,nl,rfl⟩;refine Ye ((Walks.list (by simp[I]) n.objs.size l (bE (Nat.lt_trans G rG)) items).toS) D f s.heap M (λi h g k m=>T i h g (λb o S e=>k b o (λz=>bE (cM S rG) (aU.mp z)) e) m) (λi v _ W=>?_) items.size 0 _ (by omega) (cS _) ⟨⟨_,aQ _ rfl,rfl,rfl⟩,d⟩ (λb o _ e=>keeps b o e) (m0 _ (aD _ (x.keeps _ _ N))) λj H fin=>?_
 .obtain⟨t,ot,m,p,y,rfl,O,r1,r2,put⟩:=U i v W;exact⟨t,ot,m,p,y,rfl,a (aK O),O,r1,r2,λL R P X=>put _ L R P (λV=>by simpa using V) λb o e=>X b o (a (aK e)) e⟩
 .have res:=h j.heap j.toks fin λb o e=>H.heap b o (a (aK e)) (keeps b o e)
  rw[show j={ s with heap:=j.heap,toks:=j.toks } from O5 H.gens H.drawn H.os];exact⟨rfl,res⟩
theorem Sy (J:A.handled=none) (T:s.heap.get? l=some o) (I:o.cls = .type "list") (hd:o.dict=none) (p:o.data = .seq items nl)
  (hn:more.length=items.size)
  (C:∀ (i:Nat) v,items[i]?=some v->∃ (t:Ad) (o:Obj) (m:Nat) (k:K) (j x:Ac),v = .ref t/\s.heap.get? t=some o/\o.cls = .type "tuple" /\ o.data = .seq #[j,x] m/\knd.is k j=true/\more[i]?=some (k,x)) (U:items.size<=sizeLine)
  (h:∀ (g:Ag) (r:Nat),g.DictOf knd s.heap.objs.size (merged [] more)->(∀ b o,s.heap.get? b=some o->g.get? b=some o)->Q (.ref s.heap.objs.size) { s with heap:=g,toks:=r }) :
  wpAny (model prog w) A (call (.type "dict") [.ref l]) Q E s:=by
 refine Zi (λi g=>g.DictOf knd s.heap.objs.size (merged [] (more.take i))) J T I hd p (λn e=>?_) (λi n y k m=>?_) (λi v H=>?_) λg r m=>h g r (by rw[bJ (by omega)] at m;exact m)
 .obtain⟨z,f,d,u,rest⟩:=jW (knd:=knd) s.heap;cases u.symm.trans (aQ _ rfl);exact⟨_,f,d,e,rest⟩
 .obtain⟨z,f,d,u,rest⟩:=m;exact⟨z,f,d,k _ _ (aL _) u,rest⟩
 .obtain⟨t,M,m,L,j,x,rfl,n,y,F,c,a⟩:=C i v H;refine⟨t,M,m,j,x,rfl,n,y,F,λB O Q E _ _ G k=>jY (hsz:=?_) c G λg q N=>k g 1 (by rw[merged_take_succ [] more i (L,x) a];exact q) N⟩;have D:=merged_length_le ([]:Aa (K×Ac)) (more.take i);rw[fU,bR] at D;omega
end
end PySem
namespace L2
open PySem PySem.Spec PyProof.Rows
section
variable {X:Cx}
def A5 (H:Hp) (j:Aa Ad) (g:Aa (lL×V)):Prop:=Paired (λt (a:lL×V)=>H t=some (.t [kV a.1,a.2])) j g
theorem FA {P:Ah}(p:nM P w H h):∀ {l:Aa Ad}{g:Aa (lL×V)},A5 H l g->∃ more:Aa (lL×Ac),KV g more /\
  ∀ (i:Nat) t,l[i]?=some t->∃ (o:Obj) (m:Nat) (k:lL) (j x:Ac),h.get? t=some o/\o.cls = .type "tuple" /\ o.data = .seq #[j,x] m/\(pQ P w).is k j=true/\more[i]?=some (k,x):=by
 intro l g r;unfold A5 at r;induction r with
 | nil=>exact⟨[],.nil,λi t e=>by simp at e⟩
 | @cons t j l g d G u =>
  obtain⟨more,B,q⟩:=u;obtain⟨z,v,a,⟨o,s,f,n,b⟩,_⟩:=p t _ d;cases a with
  | @cons _ E _ K y a =>
   cases a with
   | @cons _ c _ F A a =>
    cases a;refine⟨(j.1,c)::more,.cons ⟨rfl,A⟩ B,λi D e=>?_⟩;cases i with
    | zero =>
     simp at e;subst e;exact⟨o,n,j.1,E,c,s,f,b,vX y,rfl⟩
    | succ i=>simpa using q i D (by simpa using e)
theorem X3 (l:X.calm=true):mU X (.type "dict") (λC H Q=>∃ (p:Ad) (j:Aa Ad) (g:Aa (lL×V)),C=[.ref p]/\gV X.K H p (j.map V.ref)/\A5 H j g/\g.length<=1000/\∀ d,H d=none->Q (.ref d) (upd H d (.k (pJ [] g)))):=by
 intro E s σ H C us Q I r h;obtain⟨p,j,g,rfl,U,D,hz,q⟩:=h;obtain⟨u,rfl,B⟩:=oV r;cases B;obtain⟨c,F,⟨o,n,e,L,M,N⟩,_⟩:=I.list U;have f:=F.length;rw[aB] at f;have Z:j.length=g.length:=D.length;obtain⟨more,G,J⟩:=FA I.hok D;have T:=G.length;have b:∀ (i:Nat) v,c[i]?=some v->∃ t,j[i]?=some t/\v = .ref t:=by
  intro i v y;have hi:i<c.length:=(aP.mp y).1;have:i<j.length:=by omega
  obtain⟨u,hu,B⟩:=F.get (i:=i) (x:=V.ref j[i]) (by simp[this]);rw[hu] at y;cases y;cases B;exact⟨j[i],by simp[this],rfl⟩
 refine Sy (knd:=pQ X.prog X.w) (more:=more) (I.ok.hd l) e L M N (by rw[aM];omega) ?_ (by rw[aM];exact fV (cM (show c.length<=1000 by omega) (by decide))) λh' tk W Y=>?_
 .intro i v y;obtain⟨t,ht,rfl⟩:=b i v (by simpa using y);obtain⟨o,m,k,kv,x,z,O,P,R,S⟩:=J i t ht;exact⟨t,o,m,k,kv,x,rfl,z,O,P,R,S⟩
 .have A:(pJ [] g).length<=sizeLine:=by
   have z:=Dv g [];rw[fU] at z;exact fV (cM (show (pJ [] g).length<=1000 by omega) (by decide))
  refine⟨.ref s.heap.objs.size,_,I.laid (a:=s.heap.objs.size) (o:=.k (pJ [] g)) (t':=tk) Y (aL _) ?_,rfl,q _ I.fresh⟩;exact Ak A (cY.mpr (cO (bE I.big))) (G.merge .nil) W
end
noncomputable def J8 (o:Ab Af) (N:Aa Af) (kind:Af->Ab NameKind) (g:Scope) (T j:Aa Af) (l:Aa Nat):Bool :=
 decide (g.names.filter (λp=>p.2 == .cell)=o.toList.map λn=>(n,NameKind.cell))&&o.all (λa=>g.names.lookup a == some .cell)&&g.names.all (λp=>p.2 != .free||kind p.1 == some .cell) &&
 g.names.all (λp=>p.2 != .local||g.names.lookup p.1 == some .local) &&
 (j.zip l).all (λp=>decide (N[p.2]?=some p.1)&&g.names.lookup p.1 == some .free)&&j.length == l.length
abbrev Cj:=J8 none
noncomputable def qM (T:Aa Af) (g:Aa Nat) (j:St):St:=T.map (λ_=>none)++g.map (λi=>(j[i]?).join)
noncomputable def sS (X:Cx) (p:Aa Af) (g:Scope) (o:Aa (Af×Ad)) (C:Ad) (l:Ae) (j:Hp) (r:Aa Ad):Cx :=
 { prog:=X.prog,w:=X.w,K:=X.K,mg:=X.mg,base:=X.base,A:=X.A,N:=p,s₀:=l,H₀:=j,env:=compEnvC g o C X.env,outer:=X.stack,stack:=X.stack,ex:=r, fn:=λx=>(o.lookup x).isNone,calm:=X.calm,pn:=[],xe:=λ_ _=>False }
def vO (X:Cx) (g:Aa Expr) (t:TT):Prop :=
 ∀ (a:Aa (Ad×Obj)) (s:Ae) (b:St) (H:Hp) (Q:Bool->Hp->Prop),Inv X a b H s->t b H Q ->
  wpAny (model X.prog X.w) X.A (forIn g true λc r=>if r=true then do let ok <- isTrue c X.env (eval c X.env);pure (ForInStep.yield ok) else pure (ForInStep.yield r)) (TP X a b Q) X.xe s
def Ea:TT:=λ_ H Q=>Q true H
theorem Cw {X:Cx}:vO X [] Ea:=λa s b H Q I h=>wpAny_tests_nil ⟨H,I,h⟩
theorem Rw {X:Cx}(h:PT X c t):vO X [c] t:=λa s b H Q I hw=>wpAny_tests_one (h a s b H Q I hw)
def A4 (T:Aa Af) (j:Aa Nat) (J:It) (g:TG) (r:TT) (p:TE) (C:St) (o:Hp) (Q:VK) (D:Ad):Prop :=
 ∃ W:Nat->Nat->Aa V->St->Hp->Prop,(∃ m,W 0 m [] (qM T j C) (upd o D (.l [])))/\∀ i m c h d,W i m c h d ->
  (J.stop i d/\Q (.ref D) d)\/(J.go i d/\∃ (N:St->V->Hp->Prop) (F:St->Hp->Prop),(∀ a v k,N a v k->k D=some (.l c)/\c.length<sizeLine/\∃ f,f<m/\W (i+1) f (c++[v]) a (upd k D (.l (c++[v]))))/\(∀ a e,F a e->∃ f,f<m/\W (i+1) f c a e) /\ ∀ x n,J.yld i d x n->g x h n λa q=>r a q λb e=>if b=true then p a e (N a) else F a e)
def Fy (T:Aa Af) (j:Aa Nat) (p:TI) (g:TG) (o:TT) (l:TE):TE:=λb H Q=>p b H λJ a=>∀ D,a D=none->A4 T j J g o l b a Q D
theorem J1:∀ (names:Aa (Af×NameKind)) (g:Aa (Af×Ad)),(∀ p∈names,p.2 = .free->∃ c,env.cells.lookup p.1=some c) ->
  (∀ x c,g.lookup x=some c->env.cells.lookup x=some c) ->
  ∃ j,(forIn names g λx r=>if (x.2 == NameKind.free)=true then (cellOf env x.1 >>= λa=>pure (ForInStep.yield ((x.1,a)::r))) else pure (ForInStep.yield r):Sem (Aa (Af×Ad)))=pure j /\
   (∀ x c,j.lookup x=some c->env.cells.lookup x=some c)/\(∀ x,(x,NameKind.free)∈names->(j.lookup x).isSome=true)/\(∀ x,(g.lookup x).isSome=true->(j.lookup x).isSome=true)
 | [],g,_,i=>⟨g,rfl,i,λx h=>by simp at h,λ_ h=>h⟩
 | (n,k)::r,g,v,i=>by
  by_cases w:k = .free
  .subst w;obtain⟨c,z⟩:=v (n,.free) aH rfl;have u:∀ x d,((n,c)::g).lookup x=some d->env.cells.lookup x=some d:=by
    intro x d h;rw[cP] at h;cases e:x == n with
    | true=>rw[e] at h;have:=iD.mp e;subst this;cases h;exact z
    | false=>rw[e] at h;exact i x d h
   obtain⟨j,m,s,t,f⟩:=J1 r ((n,c)::g) (λp y=>v p (aN _ y)) u;have A:(((n,c)::g).lookup n).isSome=true:=by rw[cP];simp
   refine⟨j,?_,s,λx b=>?_,λx b=>f x ?_⟩
   .rw[jX];simp only[iG,eV];have:cellOf env n=pure c:=by unfold cellOf;rw[z]
    rw[this];exact m
   .rcases aF.mp b with q | q
    .cases q;exact f _ A
    .exact t x q
   .rw[cP];cases e:x == n with
    | true=>rfl
    | false=>exact b
  .obtain⟨j,m,s,t,f⟩:=J1 r g (λp y=>v p (aN _ y)) i;refine⟨j,?_,s,λx b=>?_,f⟩
   .rw[jX];have:(k == NameKind.free)=false:=by simpa using w
    simp only[this,gO,eZ];exact m
   .rcases aF.mp b with q | q
    .cases q;exact absurd rfl w
    .exact t x q
theorem CN (o:∀ p∈g.names,p.2 = .free->∃ c,j.cells.lookup p.1=some c) :
  ∃ l,closureFor g j=pure l/\(∀ x c,l.lookup x=some c->j.cells.lookup x=some c)/\(∀ x,(x,NameKind.free)∈g.names->(l.lookup x).isSome=true):=by
 obtain⟨l,e,d,f,_⟩:=J1 (env:=j) g.names [] o (λx c h=>by simp at h);refine⟨l,?_,d,f⟩;simp only[closureFor];have b:(forIn g.names [] λx r=>if (x.2 == NameKind.free)=true then (cellOf j x.1 >>= λa=>pure (ForInStep.yield ((x.1,a)::r))) else pure (ForInStep.yield r):Sem (Aa (Af×Ad)))=pure l:=e
 first
  | exact b
  | (simp only[bind_pure];exact b)
theorem Vt (h:g.names.lookup x=some k):∃ j,(relabel g env).names.lookup x=some j/\(j=k\/(k = .free/\j = .cell)):=by
 have:∀ names:Aa (Af×NameKind),names.lookup x=some k->∃ j,(names.map λ(p:Af×NameKind)=>match p with | (n,k)=>if (k == NameKind.free&&env.scope.kind == .function&&env.kindOf n == some .cell) then (n,NameKind.cell) else (n,k)).lookup x=some j/\(j=k\/(k = .free/\j = .cell)):=by
  intro names;induction names with
  | nil=>intro h;simp at h
  | cons p r b =>
   obtain⟨n,c⟩:=p;intro h;rw[aZ];by_cases a:(c == NameKind.free&&env.scope.kind == .function&&env.kindOf n == some .cell)=true
   .simp only[a,eV];rw[cP] at h |-;cases e:x == n with
    | true =>
     rw[e] at h;cases h;have:k=NameKind.free:=by
      have:=(bS _ _).mp ((bS _ _).mp a).1;exact iD.mp this.1
     exact⟨_,rfl,.inr ⟨this,rfl⟩⟩
    | false=>rw[e] at h;exact b h
   .simp only[a,eZ];rw[bF (by simp)];rw[cP] at h |-;cases e:x == n with
    | true=>rw[e] at h;cases h;exact⟨_,rfl,.inl rfl⟩
    | false=>rw[e] at h;exact b h
 exact this g.names h
theorem Vy {R:Result->Ae->Prop}{iter:Expr}(I:Nat->Ae->Prop)
  (ae:∀ n s,I n s->wpAny (model g w) A (pyNext it) (λr l=>match r with
   | none=>R (.ok .next) l
   | some v=>wpAny (model g w) A (letOwnedTupleGo target it v) (λ_ o=>wpAny (model g w) A (assign target j v) (λ_ C =>
     wpAny (model g w) A (forIn ac true λc r=>if r=true then do let ok <- isTrue c j (eval c j);pure (ForInStep.yield ok) else pure (ForInStep.yield r)) (λok p =>if ok=true then wpAny (model g w) A (eval ab j) (λx J =>wpAny (model g w) A (call (.builtin "list.append") [aa,x]) (λ_ T=>∃ m,m<n/\I m T) (λ_ _=>False) J) (λ_ _=>False) p else ∃ m,m<n/\I m p) (λ_ _=>False) C) (λ_ _=>False) o) (λ_ _=>False) l) (λ_ _=>False) s)
  (n:Nat) (h:I n s) :
  codeAny (model g w) A (.compLoop (.ListComp ab [⟨target,iter,ac,0⟩] U pos) 0 it aa j) R s:=by
 refine codeAny_loop rfl I (λn s q=>?_) n h;show wpAny _ A ((compTurn (.ListComp ab [⟨target,iter,ac,0⟩] U pos) 0 it aa j).onRaise (λx=>do noteFrame x j;theTreesLotGoes x)) _ _ s;refine wpAny_noted ?_;rw[compTurn_list];refine aA (kU (aA (dB (ae n s q) (λr l b=>?_) λ_ _ a=>a.elim)));cases r with
 | none=>exact aE b
 | some v =>
  refine aA (dB b (λ_ o e=>?_) λ_ _ a=>a.elim);refine aA (dB e (λ_ C f=>aA (dB f (λok p d=>?_) λ_ _ a=>a.elim)) λ_ _ a=>a.elim);cases ok with
  | false=>exact aE ⟨rfl,d⟩
  | true =>
   exact aA (aA (dB d (λx J i=>aA (dB i (λ_ T k=>aE (aE ⟨rfl,k⟩)) λ_ _ a=>a.elim)) λ_ _ a=>a.elim))
structure LcO (nw:Option Str) (N:List Str) (kind:Str->Option NameKind) (scope:Scope) (capN:List Str) (caps:List Nat):Prop where
 one:scope.names.filter (λp=>p.2 == .cell)=nw.toList.map λn=>(n,NameKind.cell)
 cel:∀ nm,nw=some nm->scope.names.lookup nm=some .cell
 free:∀ p∈scope.names,p.2 = .free->kind p.1=some .cell
 loc:∀ p∈scope.names,p.2 = .local->scope.names.lookup p.1=some .local
 cap:∀ (j:Nat) (x:Str),capN[j]?=some x->∃ i:Nat,caps[j]?=some i/\N[i]?=some x/\scope.names.lookup x=some .free
 len:capN.length=caps.length
theorem Mr (h:J8 r N kind o T l g=true):LcO r N kind o l g:=by
 unfold J8 at h;simp only[bS] at h;obtain⟨⟨⟨⟨⟨d,c⟩,f⟩,k⟩,m⟩,n⟩:=h;have q:l.length=g.length:=iD.mp n;refine⟨dR d,λu e=>?_,λp a e=>?_,λp a e=>?_,λj x e=>?_,q⟩
 .rw[e] at c;exact iD.mp c
 .have:=cE.mp f p a;rw[e] at this
  simpa using this
 .have:=cE.mp k p a;rw[e] at this
  simpa using this
 .have t:j<l.length:=(aP.mp e).1;have b:g[j]?=some (g[j]'(by omega)):=aJ (by omega);have s:(x,g[j]'(by omega))∈l.zip g:=aT (i:=j) (by rw[iJ];exact⟨e,b⟩);have:=cE.mp m _ s;simp only[bS,eL,iD] at this;exact⟨_,b,this.1,this.2⟩
theorem LcO.only (h:LcO o N kind g j l) (x:Af) (e:g.names.lookup x=some .cell):o=some x:=by
 have a:(x,NameKind.cell)∈g.names.filter (λp=>p.2 == .cell):=iS.mpr ⟨cZ e,rfl⟩;rw[h.one] at a;cases o with
 | none=>cases a
 | some n=>rw[(Prod.mk.inj (aU.mp a)).1]
theorem Lb:∀ {g:Scope},(relabel g j).names.lookup x=some k->(k = .cell\/k = .free)->g.names.lookup x=some .cell\/g.names.lookup x=some .free:=by
 intro g;unfold relabel;have all:∀ names:Aa (Af×NameKind),(names.map λ(n,k)=>if (k == NameKind.free&&j.scope.kind == .function&&j.kindOf n == some .cell) then (n,NameKind.cell) else (n,k)).lookup x=some k->(k = .cell\/k = .free)->names.lookup x=some .cell\/names.lookup x=some .free:=by
  intro names;induction names with
  | nil=>intro h _;simp at h
  | cons p r d =>
   intro h b;obtain⟨n,e⟩:=p;rw[aZ] at h;rw[cP];cases c:x == n with
   | true =>
    by_cases a:(e == NameKind.free&&j.scope.kind == .function&&j.kindOf n == some .cell)=true
    .simp only[bS,iD] at a;exact .inr (by rw[a.1.1])
    .simp only[a,gO,eZ,cP,c] at h;cases h;rcases b with q | q
     .exact .inl (by rw[q])
     .exact .inr (by rw[q])
   | false =>
    by_cases a:(e == NameKind.free&&j.scope.kind == .function&&j.kindOf n == some .cell)=true
    .simp only[a,eV,cP,c] at h;exact d h b
    .simp only[a,gO,eZ,cP,c] at h;exact d h b
 exact all g.names
theorem Hb:∀ (names:Aa (Af×NameKind)) (n:Nat) (g:Aa (Af×Ad)) (h:Ag),names.filter (λp=>p.2 == .cell)=[]->cellsFrom n names g=g/\pushCells h names=h
 | [],_,_,_,_=>⟨rfl,rfl⟩
 | (y,k)::r,n,g,h,e=>by
  unfold cellsFrom pushCells;by_cases a:(k == NameKind.cell)=true
  .rw[List.filter_cons_of_pos (by exact a)] at e;cases e
  .rw[List.filter_cons_of_neg (by exact a)] at e;rw[bF a,bF a];exact Hb r n g h e
theorem Ku:∀ (names:Aa (Af×NameKind)) (n:Nat) (g:Aa (Af×Ad)) (h:Ag),names.filter (λp=>p.2 == .cell)=[(j,.cell)]->cellsFrom n names g=(j,n)::g/\pushCells h names=h.push { cls:=.type "cell",data:=.cell none }
 | [],_,_,_,e=>by cases e
 | (y,k)::r,n,g,h,e=>by
  unfold cellsFrom pushCells;by_cases a:(k == NameKind.cell)=true
  .rw[List.filter_cons_of_pos (by exact a)] at e;have b:=(List.cons.inj e).1;have c:=(List.cons.inj e).2;rw[bA a,bA a];have:=Hb r (n+1) ((y,n)::g) (h.push { cls:=.type "cell",data:=.cell none }) c;rw[this.1,this.2,(Prod.mk.inj b).1];exact⟨rfl,rfl⟩
  .rw[List.filter_cons_of_neg (by exact a)] at e;rw[bF a,bF a];exact Ku r n g h e
def xH (g:Ab Af) (C:Ad):Aa (Af×Ad):=match g with
 | none=>[]
 | some a=>[(a,C+1)]
theorem Y5 {globals:Ad}(one:g.names.filter (λp=>p.2 == .cell)=T.toList.map λn=>(n,NameKind.cell))
  (h:∀ j,j.Ns s.heap.objs.size (λ_=>none)->(∀ J,T=some J->j.IsCell (s.heap.objs.size+1) none)->(∀ b o,s.heap.get? b=some o->j.get? b=some o) ->Q { scope:=g,locals:=s.heap.objs.size,globals:=globals,cells:=xH T s.heap.objs.size++r,qual:=C,func:=none,code:=l.code,frame:=l.frame,builtins:=l.builtins } { s with heap:=j }) :
  wpAny M A (newFunctionEnv g globals r [] C none .none (some l)) Q E s:=by
 simp only[newFunctionEnv,Option.isSome_some,eV];refine aA (wpAny_alloc ?_);refine aA (wpAny_layCells _ (λname kind I=>by cases i:kind == NameKind.cell<;>simp[i]) _ _ _ _ ?_);have z:(s.heap.push { cls:=.type "dict",data:=.dict #[] }).objs.size=s.heap.objs.size+1:=cK ..;have a:=Heap.Ns.new s.heap (.type "dict");show wpAny M A _ Q E _;cases T with
 | none =>
  obtain⟨c,f⟩:=Hb g.names (s.heap.push { cls:=.type "dict",data:=.dict #[] }).objs.size r (s.heap.push { cls:=.type "dict",data:=.dict #[] }) one;rw[c,f];exact aA (aE (aE (h _ a (λ_ e=>nomatch e) λb o e=>aD _ e)))
 | some J =>
  obtain⟨c,f⟩:=Ku g.names (s.heap.push { cls:=.type "dict",data:=.dict #[] }).objs.size r (s.heap.push { cls:=.type "dict",data:=.dict #[] }) one;have d:cellsFrom ({ s with heap:=s.heap.push { cls:=.type "dict",data:=.dict #[] } }:Ae).heap.objs.size g.names r=(J,s.heap.objs.size+1)::r:=by rw[<- z];exact c
  rw[d,f];refine aA (aE (aE (h _ (a.keeps λb o e=>aD _ e) (λ_ _=>?_) λb o e=>aD _ (aD _ e))));exact⟨_,by rw[<- z];exact aQ _ rfl,rfl⟩
noncomputable def U4 (j:Ab Af) (g:Aa (Af×Ad)):Af->Bool:=match j with
 | none=>λx=>(g.lookup x).isNone
 | some a=>λx=>x == a||(g.lookup x).isNone
def tF (p:Ab Af) (X:Cx) (r:Aa Af) (g:Scope) (o:Aa (Af×Ad)) (C:Ad) (l:Ae) (j:Hp) (I:Aa Ad):Cx :=
 { prog:=X.prog,w:=X.w,K:=X.K,mg:=X.mg,base:=X.base,A:=X.A,N:=r,s₀:=l,H₀:=j,env:=compEnvC g (xH p C++o) C X.env,outer:=X.stack,stack:=X.stack,ex:=I, fn:=U4 p o,calm:=X.calm,pn:=[],xe:=λ_ _=>False }
section
variable {X:Cx}
theorem Inv.moved {t':Nat}{fp:Aa Ad}(I:Inv X g p H s) (j:∀ b∈fp,rV X g H b) (k:∀ b o,b∉fp->s.heap.get? b=some o->l.get? b=some o):Inv X g p H { s with heap:=l,toks:=t' }:=by
 have d:∀ b u,H b=some u->b∉fp:=λb u e z=>by rw[(j b z).1] at e;cases e
 refine I.step (g':=s.gens) (d':=s.drawn) (ch:=fp) (λb f=>⟨(j b f).2.2.2.1,(j b f).2.1,(j b f).2.2.2.2.1,(j b f).2.2.2.2.2⟩) (λb o _ _ a e _=>k b o a e) (λb o _ _ a e _=>⟨o.slots,k b o a e⟩) (λ_ _ _ _ n=>n)
  (λb o a e=>⟨o,k b o a e⟩) (λ_ _ e=>e) (λ_ _ _ e=>e) (λb x e=>⟨#[],by rw[e];simp⟩) (λm t=>?_) (λb u e=>?_) I.bare
 .obtain⟨o,i,h,w,r⟩:=t;exact⟨o,i,h,k _ o (λz=>(j _ z).2.1 rfl) w,r⟩
 .refine (I.hok b u e).stay (λc v a q=>k c v ?_ q) (λ_ q=>q) λ_ _ q=>q
  rcases a with z | z
  .rw[z];exact d b u e
  .exact d c _ z
end
section
variable {X:Cx}
theorem P2 {iter:Expr}(T U:Aa Af) (aa:Aa Nat) (hc:X.calm=true) (hi:PI X tg iter wi)
  (hk:j.kind = .function) (O:LcO nw X.N X.env.kindOf j U aa)
  (hg:∀ ae ab C cl fp,PG (tF nw X (T++U) j cl C ae ab fp) tg g)
  (ht:∀ ae ab C cl fp,vO (tF nw X (T++U) j cl C ae ab fp) af tt)
  (he:∀ ae ab C cl fp,PE (tF nw X (T++U) j cl C ae ab fp) a4 te)
  (hs:∀ x,foldedSetIterable iter X.env x=pure x)
(I:Inv X ac σ H s) (h:Fy T aa wi g tt te σ H Q)
  (fin:∀ (C D:Ad) (s6:Ae) (H5:Hp),Inv X ac σ H5 s6->Q (.ref D) H5->rV X ac H5 C->(∃ m,s6.heap.Ns C m)->compPost (model X.prog X.w) X.A X.xe a2 Qs (.ref D) C (.ok .next) s6) :
  wpAny (model X.prog X.w) X.A (comprehension (.ListComp a4 [⟨tg,iter,af,0⟩] j pos) j X.env (firstIterPos [⟨tg,iter,af,0⟩] pos) (newList []) (firstAsync [⟨tg,iter,af,0⟩]) (firstIter [⟨tg,iter,af,0⟩] X.env) a2) Qs X.xe s:=by
 have ax:∀ p∈j.names,p.2 = .free->∃ c,X.env.cells.lookup p.1=some c:=λp hp e=>I.ok.has p.1 (.inl (O.free p hp e))
 obtain⟨cl,aw,P,a3⟩:=CN ax;refine wpAny_comprehension_free (use:=a2) rfl hs aw hk O.loc (lM (hi ac s σ H _ I h) λv s1 h1=>lM h1 λb4 s2 h2=>?_);obtain⟨it,fp,tn,J,H2,rfl,I2,B,bb,f2,hD⟩:=h2;refine fA ?_;have f:Inv X ac σ (upd H2 s2.heap.objs.size (.l [])) { s2 with heap:=s2.heap.push { cls:=.type "list",data:=.seq ([]:Aa Ac).toArray } }:=I2.lnew (t':=s2.toks) (its:=[]) (ys:=[]) .nil (cS _);have fD:H2 s2.heap.objs.size=none:=I2.fresh;obtain⟨W,⟨m0,w0⟩,ao⟩:=hD s2.heap.objs.size fD;generalize bo:s2.heap.objs.size=D at f fD w0 ao |-;have bz:tn 0 (s2.heap.push { cls:=.type "list",data:=.seq ([]:Aa Ac).toArray }):=B.keep _ _ _ bb λb _ o e=>aD _ e
 have a9:∀ b∈fp,b<D:=λb a=>by
  obtain⟨o,e,_⟩:=B.obj _ _ bb b a;rw[<- bo];exact aK e
 generalize bt:({ s2 with heap:=s2.heap.push { cls:=.type "list",data:=.seq ([]:Aa Ac).toArray } }:Ae)=K at f |-;have ag:tn 0 K.heap:=by rw[<- bt];exact bz
 generalize bp:upd H2 D (.l [])=M at f w0;have f3:∀ b∈fp,rV X ac M b:=λb a=>by
  obtain⟨z0,z⟩:=f2 b a;exact⟨by rw[<- bp,lO (bE (a9 b a))];exact z0,z⟩
 refine Y5 O.one (λZ V S old=>?_);have av:M K.heap.objs.size=none:=f.fresh;have ak:M (K.heap.objs.size+1)=none:=f.hok.fresh (iB _);generalize hC:K.heap.objs.size=C at V S av ak |-;have ba:∀ b o,K.heap.get? b=some o->b≠C:=λb o e=>by rw[<- hC];exact bE (aK e)
 have a5:∀ b∈fp,b≠C:=λb a=>by
  obtain⟨o,e,_⟩:=B.obj _ _ ag b a;exact ba b o e
 have a6:∀ b∈fp,b∉sL X.stack:=λb a z=>by
  rcases aF.mp (f.stkSub b z) with q | q
  .exact (f3 b a).2.1 q
  .exact (f3 b a).2.2.1 q
 have bm:∀ b∈fp,b<C:=λb a=>by
  obtain⟨o,e,_⟩:=B.obj _ _ ag b a;rw[<- hC];exact aK e
 have look:∀ x c,(xH nw C++cl).lookup x=some c->(nw=some x/\c=C+1)\/(nw≠some x/\cl.lookup x=some c):=λx c e=>by
  cases nw with
  | none=>exact .inr ⟨(λz=>nomatch z),e⟩
  | some nm =>
   have e:((nm,C+1)::cl).lookup x=some c:=e;rw[cP] at e;cases a:x == nm with
   | true=>rw[a] at e;cases e;exact .inl ⟨by rw[iD.mp a],rfl⟩
   | false=>rw[a] at e;exact .inr ⟨(λz=>by cases z;simp at a),e⟩
 have lift:∀ x c,nw≠some x->cl.lookup x=some c->(xH nw C++cl).lookup x=some c:=λx c n e=>by
  cases nw with
  | none=>exact e
  | some nm =>
   show ((nm,C+1)::cl).lookup x=some c;rw[cP,show (x == nm)=false from cY.mpr λz=>n (by rw[z])];exact e
 have ai:∀ x c,cl.lookup x=some c->c<C:=λx c e=>by
  obtain⟨v,o,ho,_⟩:=f.cell x c (P x c e);rw[<- hC];exact aK ho
 have aj:∀ b∈fp,∀ x c,(xH nw C++cl).lookup x=some c->c≠b:=λb a x c e=>by
  rcases look x c e with⟨_,q⟩ | ⟨_,q⟩
  .exact λz=>absurd (bm b a) (by rw[<- z,q];exact kZ.mpr (iB C))
  .exact (f3 b a).2.2.2.2.1 x c (P x c q)
 have a8:(tF nw X (T++U) j cl C K M fp).Ok:=by
  refine⟨f.ok.mod,hk,f.ok.glob,f.ok.blt,Nat.le_of_eq hC,λx y c R E=>?_,λx hx=>?_,λx c R E=>?_,f.ok.hd,f.ok.frames,.inl rfl,λb a=>⟨a5 b a,λx c e=>aj b a x c e⟩,λb o e=>f.bs b o e,?_,λb o e z=>?_,λb a=>a6 b a,f.stack,f.stkFree⟩
  .rcases look x c R with⟨q1,r1⟩ | ⟨q1,r1⟩
   .rcases look y c E with⟨q2,r2⟩ | ⟨q2,r2⟩
    .exact cA (q1.symm.trans q2)
    .exact absurd (ai y c r2) (by rw[r1];exact kZ.mpr (iB C))
   .rcases look y c E with⟨q2,r2⟩ | ⟨q2,r2⟩
    .exact absurd (ai x c r1) (by rw[r2];exact kZ.mpr (iB C))
    .exact f.ok.inj x y c (P x c r1) (P y c r2)
  .have bu:(relabel j X.env).names.lookup x=some .cell\/(relabel j X.env).names.lookup x=some .free:=hx;have hf:j.names.lookup x=some .cell\/j.names.lookup x=some .free:=by
    rcases bu with q | q
    .exact Lb q (.inl rfl)
    .exact Lb q (.inr rfl)
   show ∃ c,(xH nw C++cl).lookup x=some c;by_cases a:nw=some x
   .subst a;exact⟨C+1,by show ((x,C+1)::cl).lookup x=_;rw[cP,iG]⟩
   .rcases hf with q | q
    .exact absurd (O.only x q) a
    .obtain⟨c,e⟩:=cL.mp (a3 x (cZ q));exact⟨c,lift x c a e⟩
  .rcases look x c E with⟨q,r⟩ | ⟨q,r⟩
   .show K.heap.objs.size<=c;rw[r,hC];exact iB C
   .cases nw with
    | none =>
     have R:(cl.lookup x).isNone=true:=R;rw[r] at R;cases R
    | some nm =>
     have R:(x == nm||(cl.lookup x).isNone)=true:=R;rw[r,show (x == nm)=false from cY.mpr λz=>q (by rw[z])] at R;cases R
  .exact bX f.ok.bsz f.sz
  .obtain⟨z0,z1,z2,z3,_⟩:=f3 b z;rcases z3 with q | q
   .exact f.ok.noex b o e q
   .exact absurd (aR (aK e) (bX f.ok.bsz q)) (dX _)
 have I4:Inv (tF nw X (T++U) j cl C K M fp) [] (qM T aa σ) M { K with heap:=Z }:=by
  refine⟨a8,rfl,f.bare,Un.kept old,⟨_,V,λi x v R E e3=>?_⟩,λx c e=>?_,av,λx c e=>?_,λp hp=>absurd (show p∈([]:Aa (Ad×Obj)) from hp) (by simp),f.hok.kept old,?_⟩
  .have R:(T++U)[i]?=some x:=R;unfold qM at E;by_cases hi:i<T.length
   .rw[fR (by simpa using hi),aV] at E;cases q:T[i]? with
    | none=>rw[q] at E;cases E
    | some z=>rw[q] at E;cases E
   .rw[dF (by omega)] at R;rw[dF (by simpa using hi),aV,aB] at E;obtain⟨k,k1,k2,k3⟩:=O.cap _ x R;rw[k1] at E;have E:(σ[k]?).join=some v:=cA E;have bj:σ[k]?=some (some v):=by
     cases q:σ[k]? with
     | none=>rw[q] at E;cases E
     | some z=>rw[q] at E;exact cN some E
    have Y:X.env.kindOf x=some .cell:=O.free (x,.free) (cZ k3) rfl;obtain⟨m,hn,hl⟩:=f.loc;obtain⟨u,r,l⟩:=hl k x v k2 bj (.inr (.inl Y));refine⟨u,r,.inr ⟨?_,?_⟩⟩
    .obtain⟨k',e5,e6⟩:=Vt (env:=X.env) k3;rcases e6 with z | ⟨_,z⟩
     .subst z;exact .inr e5
     .subst z;exact .inl e5
    .rcases l with⟨l1,_⟩ | ⟨_,c,e7,o,ay,az⟩
     .rw[Y] at l1;cases l1
     .obtain⟨c',e8⟩:=cL.mp (a3 x (cZ k3));have:=P x c' e8;rw[e7] at this;cases this;exact⟨c,lift x c (λz=>by rw[O.cel x z] at k3;cases k3) e8,o,old c o ay,az⟩
  .rcases look x c e with⟨n,q⟩ | ⟨_,q⟩
   .exact⟨none,q▸S x n⟩
   .obtain⟨v,o,ay,az⟩:=f.cell x c (P x c q);exact⟨v,o,old c o ay,az⟩
  .rcases look x c e with⟨_,q⟩ | ⟨_,q⟩
   .exact q▸ak
   .exact f.freeC x c (P x c q)
  .show (qM T aa σ).length=(T++U).length;unfold qM;rw[bL,bL,aB,aB,O.len]
 have au:∀ {H':Hp},(∀ b∈fp,H' b=none)->∀ b∈fp,rV (tF nw X (T++U) j cl C K M fp) [] H' b:=λhn b a =>
  ⟨hn b a,a5 b a,a6 b a,.inl a,λx c e=>aj b a x c e,λp hp=>absurd (show p∈([]:Aa (Ad×Obj)) from hp) (by simp)⟩
 have bc:tn 0 Z:=B.keep _ _ _ ag λb _ o e=>old b o e
 have b0:W 0 m0 [] (qM T aa σ) M:=w0;have an:codeAny (model X.prog X.w) X.A (.compLoop (.ListComp a4 [⟨tg,iter,af,0⟩] j pos) 0 (.ref it) (.ref D) (compEnvC j (xH nw C++cl) C X.env))
   (compPost (model X.prog X.w) X.A X.xe a2 Qs (.ref D) C) { K with heap:=Z }:=by
  refine Vy (λn s'=>∃ i ys be H',Inv (tF nw X (T++U) j cl C K M fp) [] be H' s'/\tn i s'.heap/\(∀ b∈fp,H' b=none)/\W i n ys be H') ?_ m0 ⟨0,[],qM T aa σ,M,I4,bc,λb a=>(f3 b a).1,b0⟩;rintro n s5 ⟨i,ys,ah,H5,I5,bd,a7,w5⟩;rcases ao i n ys ah H5 w5 with⟨stop,qn⟩ | ⟨go,N,F,hN,hF,step⟩
  .refine lM (B.done (tF nw X (T++U) j cl C K M fp) rfl rfl rfl hc i [] s5 ah H5 _ I5 (au a7) bd stop) λr s6 t=>?_
   obtain⟨hr,I6⟩:=t;subst hr;obtain⟨m6,br,_⟩:=I6.loc;have bq:H5 C=none:=I6.free;have ub:=I6.base;have a0:=f.fpOk (Nat.le_of_eq hC) av;refine fin C D s6 H5 (Inv.call' (s':=s6) (ch:=fp) f I6.os ?_ I6.hok I6.bare (λb a=>⟨(f3 b a).2.2.2.1,(f3 b a).2.1,(f3 b a).2.2.2.2.1,(f3 b a).2.2.2.2.2⟩)) qn ⟨bq,a0.2⟩ ⟨m6,br⟩;exact⟨λb o q n a hx=>ub.keep b o q n a hx,λb o q n a hx=>ub.slot b o q n a hx,ub.free,λb o q hx=>ub.there b o q hx,ub.tups,ub.frzs,ub.tbls⟩
  .refine lM (B.item (tF nw X (T++U) j cl C K M fp) rfl rfl rfl hc i [] s5 ah H5 _ I5 (au a7) bd go) λr s6 t=>?_
   obtain⟨u,hr,h6⟩:=t;subst hr;refine lM h6 λ_ s7 t=>?_
   obtain⟨x,H7,I7,r7,y7,a1,bn⟩:=t;have bh:=I7.pinned (au bn) (B.obj _ _ a1);have G:∀ {L:St} {H8:Hp} {s8:Ae},Inv (tF nw X (T++U) j cl C K M fp) ([]++Bp fp s7.heap) L H8 s8->tn (i+1) s8.heap/\(∀ b∈fp,H8 b=none):=λ{L H8 s8} I8=>by
    refine⟨B.keep _ _ _ a1 λb a o e=>(I8.pin (b,o) (aI _ (aI _ (Ch a e)))).1,λb a=>?_⟩;obtain⟨o,e,d⟩:=B.obj _ _ a1 b a;exact (I8.pin (b,o) (aI _ (aI _ (Ch a e)))).2.1
   refine lM (hg K M C cl fp _ s7 ah H7 x u _ bh r7 (step x H7 y7)) λ_ s8 t=>?_
   obtain⟨L,H8,I8,q8⟩:=t;refine lM (ht K M C cl fp _ s8 L H8 _ I8 q8) λok s9 t=>?_
   obtain⟨H9,I9,q9⟩:=t;cases ok with
   | false =>
    rw[bF (by simp)] at q9;rw[bF (by simp)];obtain⟨m',hm,w9⟩:=hF _ _ q9;exact⟨m',hm,i+1,ys,L,H9,I9.unpinned,(G I9).1,(G I9).2,w9⟩
   | true =>
    rw[bA rfl] at q9;rw[bA rfl];refine lM (he K M C cl fp _ s9 L H9 _ I9 q9) λvv bx t=>?_
    obtain⟨v,bf,bg,bw,bv⟩:=t;obtain⟨bi,b3,m',hm,b1⟩:=hN _ _ _ bv;refine lM (pF (X:=tF nw X (T++U) j cl C K M fp) _ bx L bf (.ref D) [v] (.ref D) [vv] (λ_ aq=>W (i+1) m' (ys++[v]) L aq) bg rfl (.cons bw .nil) ⟨D,ys,v,rfl,rfl,bi,b3,b1⟩) λ_ b5 t=>?_
    obtain⟨_,aq,ar,_,b2⟩:=t;exact⟨m',hm,i+1,ys++[v],L,aq,ar.unpinned,(G ar).1,(G ar).2,b2⟩
 exact codeAny_compStart_list an (B.self _ 0 _ _ _ bc an)
theorem EE {D:Ad}(I:Inv X g J j p) (q:Q (.ref D) j) (r:rV X g j C) (l:∃ m,p.heap.Ns C m):compPost (model X.prog X.w) X.A X.xe none (EP X g J Q) (.ref D) C (.ok .next) p:=by
 obtain⟨m,l⟩:=l;refine⟨m,l,λd c=>⟨.ref D,j,I.moved (t':=p.toks) (fp:=[C]) (λb a=>?_) (λb o a e=>?_),rfl,q⟩⟩
 .rw[aU.mp a];exact r
 .exact c.extBut b o (λz=>a (aU.mpr z)) e
theorem Bm {iter:Expr}(T o:Aa Af) (r:Aa Nat) (hc:X.calm=true) (hi:PI X tg iter wi)
  (hk:j.kind = .function) (ho:Cj X.N X.env.kindOf j T o r=true)
  (hg:∀ p l C U J,PG (sS X (T++o) j U C p l J) tg g)
  (ht:∀ p l C U J,vO (sS X (T++o) j U C p l J) ab tt)
  (he:∀ p l C U J,PE (sS X (T++o) j U C p l J) aa te)
  (hs:∀ x,foldedSetIterable iter X.env x=pure x:=by intro _;rfl) :
  PE X (.ListComp aa [⟨tg,iter,ab,0⟩] j pos) (Fy T r wi g tt te):=by
 intro a s e H Q I h;rw[eval_ListComp];exact P2 (nw:=none) T o r hc hi hk (Mr ho) hg ht he hs I h λC D d c I q J b=>EE I q J b
end
structure Yields (J:It) (xs:List V) (R:Hp->Prop):Prop where
 go:∀ i H,i<xs.length->R H->J.go i H
 yld:∀ i H x H',i<xs.length->R H->J.yld i H x H'->H'=H/\xs[i]?=some x
 stop:∀ i H,i=xs.length->R H->J.stop i H
theorem Wt {K:lJ}:Yields (zJ K a) g (λH=>gV K H a g) :=
 ⟨λi H b r=>⟨g,g[i],r,aJ b⟩,λi H x c b r y=>⟨y.1,y.2 g r⟩,λi H e r=>⟨g,r,by omega⟩⟩
theorem Qh {lo:Int}:Yields (rQ lo n) ((List.range n).map λ(i:Nat)=>V.int (lo+(i:Int))) (λ_=>True) :=
 ⟨λi H a _=>by simpa [rQ] using a,λi H x b a _ y=>⟨y.1,by rw[y.2];simp at a;simp[a]⟩,λi H e _=>by simp[rQ,e]⟩
def wY (z:Af):Aa V:=z.cps.toList.map λc=>V.str ⟨#[c]⟩
theorem GL:Yields (tO z) (wY z) (λ_=>True) :=
 ⟨λi H a _=>by simpa [tO,wY,Str.length] using a,
  λi H x d a _ y=>by
   obtain⟨e,c,b,rfl⟩:=y;refine⟨e,?_⟩;unfold wY;rw[aV,eU,b];rfl,
  λi H e _=>by simp[tO,e,wY,Str.length]⟩
def Kg (o:St) (D:Ad) (Pv:Nat->Aa V->Hp->Prop) (i:Nat) (g:Aa V) (j:St):VK:=λv a=>(∃ t,j=t::o)/\a D=some (.l g)/\g.length<sizeLine/\Pv (i+1) (g++[v]) (upd a D (.l (g++[v])))
def Nt (l:St) (Pv:Nat->Aa V->Hp->Prop) (i:Nat) (o:Aa V) (g:St) (j:Hp):Prop:=(∃ t,g=t::l)/\Pv (i+1) o j
theorem R4 {R:Hp->Prop}{D:Ad}(Y:Yields J o R) (Pv:Nat->Aa V->Hp->Prop)
  (U:Pv 0 [] (upd T D (.l []))) (I:∀ i j H,i<=o.length->Pv i j H->R H)
  (hs:∀ i x j H,o[i]?=some x->Pv i j H->tt (some x::g.map (λi=>(r[i]?).join)) H λb C =>if b=true then te (some x::g.map (λi=>(r[i]?).join)) C (Kg (g.map (λi=>(r[i]?).join)) D Pv i j (some x::g.map (λi=>(r[i]?).join))) else Nt (g.map (λi=>(r[i]?).join)) Pv i j (some x::g.map (λi=>(r[i]?).join)) C)
  (hd:∀ j H,Pv o.length j H->Q (.ref D) H):A4 [nm] g J (xD 0) tt te r T Q D:=by
 refine⟨λi m j d H=>m=o.length-i/\i<=o.length/\(∃ t,d=t::g.map (λi=>(r[i]?).join))/\Pv i j H,⟨o.length,by simp,cS _,⟨none,rfl⟩,U⟩,?_⟩;rintro i m j d c ⟨rfl,h,⟨t,rfl⟩,p⟩;by_cases a:i<o.length
 .refine .inr ⟨Y.go i c a (I i j c h p),Kg (g.map (λi=>(r[i]?).join)) D Pv i j,Nt (g.map (λi=>(r[i]?).join)) Pv i j,?_,?_,λx q y=>?_⟩
  .rintro n v z ⟨k,s,u,f⟩;exact⟨s,u,o.length-(i+1),by omega,rfl,a,k,f⟩
  .rintro n C ⟨k,f⟩;exact⟨o.length-(i+1),by omega,rfl,a,k,f⟩
  .obtain⟨rfl,w⟩:=Y.yld i c x q a (I i j c h p) y;exact hs i x j q w p
 .have e:i=o.length:=by omega
  subst e;exact .inl ⟨Y.stop _ _ rfl (I _ j c h p),hd j c p⟩
def uI:Expr->Bool
 | .Starred _ _=>false
 | _=>true
theorem GD (h:uI e=true):starEach (e::j) g=(false,eval e g)::starEach j g:=by
 cases e<;>first | rfl | (cases h;done)
section
variable {X:Cx}
theorem lQ (j:PE X e o) (l:PA X g t) (h:uI e=true:=by rfl):PA X (e::g) (uJ o t):=uK j l (GD h)
def DX (g:Aa Af):TA:=λ_ H Q=>Q (g.map V.str) H
theorem vY:∀ (l:Aa (Af×Nat×Pos)),PA X (l.map λp=>.Constant (.str p.1) p.2.1 p.2.2) (DX (l.map (·.1)))
 | []=>lY
 | a::r=>λpos b s c H Q I h=>lQ (tS (x:=a.1) (j:=a.2.1) (pos:=a.2.2)) (vY r) (by rfl) pos b s c H Q I h
end
theorem Jm {R:Hp->Prop}{D:Ad}(Y:Yields J o R) (Pv:Nat->Aa V->Hp->Prop)
  (I:Pv 0 [] (upd C D (.l []))) (T:∀ i j H,i<=o.length->Pv i j H->R H)
  (U:∀ i x j H,o[i]?=some x->Pv i j H->te (some x::g.map (λi=>(r[i]?).join)) H (Kg (g.map (λi=>(r[i]?).join)) D Pv i j (some x::g.map (λi=>(r[i]?).join))))
  (hd:∀ j H,Pv o.length j H->Q (.ref D) H):A4 [nm] g J (xD 0) Ea te r C Q D:=by
 refine R4 Y Pv I T (λi x j H a p=>?_) hd;unfold Ea;dsimp only;rw[bA rfl];exact U i x j H a p
theorem Zf {R:Hp->Prop}{D:Ad}(Y:Yields J g R) (f:V->V) (T:j D=none) (C:∀ H,oG j H->R H) (hl:g.length<=1000)
  (I:∀ (i:Nat) x H (k:VK),g[i]?=some x->oG j H->k (f x) H->U (some x::r.map (λi=>(σ[i]?).join)) H k)
  (hd:Q (.ref D) (upd j D (.l (g.map f)))):A4 [nm] r J (xD 0) Ea U σ j Q D:=by
 have h:∀ o,oG j (upd j D o):=λo b u e=>by rw[lO (mF e T)];exact e
 refine Jm Y (λi a H=>i<=g.length/\a=(g.take i).map f/\H=upd j D (.l a)) ⟨cS _,by simp,rfl⟩ (λi a H _ p=>C H (by rw[p.2.2];exact h _)) ?_ ?_
 .rintro i x a H d ⟨n,rfl,rfl⟩;have c:=(aP.mp d).1;have m:g.take (i+1)=g.take i++[x]:=by rw[dQ,d];rfl
  refine I i x _ _ d (h _) ⟨⟨_,rfl⟩,lU,?_,c,?_,?_⟩
  .rw[aB,bR];exact cM (show min i g.length<=1000 by omega) (by decide)
  .rw[m,aY];rfl
  .rw[Ue]
 .rintro a H ⟨_,rfl,rfl⟩;rw[bJ (aL _)];exact hd
theorem wL {X:Cx}{st:Stmt}{rest:Aa Stmt}{D:Ends}(I:St->Hp->Prop) (g:∀ u:TS,(∀ j l,I j l->u D j l)->∃ t,PS X st t/\t { D with nx:=u D } o H)
  (h:∀ j l,I j l->∃ u,oB X rest u/\u D j l):∃ t,oB X (st::rest) t/\t D o H:=by
 let u:TS:=λb j l=>∃ c,oB X rest c/\c b j l
 have k:oB X rest u:=λa s j l b d ⟨c,i,e⟩=>i a s j l b d e
 obtain⟨t,pt,f⟩:=g u h;exact⟨Ht t u,oC pt k,f⟩
theorem Ou {X:Cx}{st:Stmt}{rest:Aa Stmt}{D:Ends}(t:TS) (p:PS X st t) (h:t { D with nx:=λg j=>∃ u,oB X rest u/\u D g j } l H):∃ t,oB X (st::rest) t/\t D l H:=by
 let u:TS:=λb g j=>∃ c,oB X rest c/\c b g j
 have i:oB X rest u:=λa s g j b d ⟨c,f,e⟩=>f a s g j b d e
 exact⟨Ht t u,oC p i,h⟩
section
variable {X:Cx}{id:String}
def Xc (K:lJ):Aa V->Hp->VK->Prop:=λb H Q=>∃ p a,b=[.ref p]/\(gV K H p a\/mH K H p a)/\Q (.int a.length) H
theorem W8 (K:lJ) (g:X.K=K:=by rfl):mU X (.builtin "len") (Xc K):=by subst g;exact vV
theorem AJ (K:lJ) (pa:PlainAttrs T) (slot:Slot T name id) (j:typeOf (.builtin id)=pure (.type "method_descriptor")) (J:wT X id r) (U:PE X o to) (C:PA X (e::l) t) (p:X.K=K:=by rfl)
  (I:MtB X o name apos e l g:=by exact {}) :
  PE X (.Call (.Attribute o name apos) (e::l) [] g) (Kb K T r to t):=by
 subst p;exact xW pa slot j J U C I
end
section
variable {X:Cx}
def FJ (g:Aa Int):TA:=λ_ H Q=>Q (g.map V.int) H
theorem Fx:∀ (l:Aa (Int×Nat×Pos)),PA X (l.map λp=>.Constant (.int p.1) p.2.1 p.2.2) (FJ (l.map (·.1)))
 | []=>lY
 | a::r=>λpos b s c H Q I h=>lQ (mL (i:=a.1) (j:=a.2.1) (pos:=a.2.2)) (Fx r) (by rfl) pos b s c H Q I h
end
section
variable {X:Cx}
theorem Q4 (g:X.A.units+64<cLine):mE X (compareOp .NotEq) (Ex X.K true):=by
 intro c s M H x y v u Q I F G h;obtain⟨a,b,L,rfl,rfl,f,z,q⟩:=h;cases F;cases G;obtain⟨B,D,m,_⟩:=I.list f;obtain⟨k,E,n,_⟩:=I.list z;cases E;have t:∀ d,d = !L.isEmpty->EP X c M Q (.bool d) s:=λd e=>⟨.b d,H,I,rfl,by subst e;exact q⟩
 cases D with
 | nil=>exact SeqAt.RcNeAt.lists (e:=λ_=>true) m.isList n.isList rfl (by omega) (λi f _=>by simp at f) X.prog X.w _ _ (t _ (by simp))
 | cons r N=>exact SeqAt.RcNeAt.lists_lengths m.isList n.isList (by simp) (by omega) X.prog X.w _ _ (t _ rfl)
def Lp (K:lJ):Aa V->Hp->VK->Prop:=λd H Q=>∃ (x c:V) (t a:Ac) (b:Bool),d=[x,c]/\lS c a/\TyOf K H x t/\PySem.W.kitOne K t a=some b/\Q (.b b) H
theorem Cv (K:lJ) (g:X.K=K:=by rfl):mU X (.builtin "isinstance") (Lp K):=by subst g;exact V9
end
section
variable {X:Cx}
theorem Vu {bs:Aa Bool}{g:Aa Ac}(r:lN (bs.map V.b) g){i:Nat}{v:Ac}(h:g[i]?=some v):∃ b,bs[i]?=some b/\v = .bool b:=by
 have d:=r.length;rw[aB] at d;have f:i<g.length:=(aP.mp h).1;have a:bs[i]?=some (bs[i]'(by omega)):=aJ (by omega);obtain⟨u,c,e⟩:=r.get (i:=i) (x:=V.b (bs[i]'(by omega))) (by rw[aV,a];rfl);rw[h] at c;cases c;exact⟨_,a,e⟩
theorem Tx (bs:Aa Bool):((List.range bs.length).all λi=>(bs[i]?).getD true)=bs.all id:=by
 have e:(List.range bs.length).map (λi=>(bs[i]?).getD true)=bs:=by
  apply gB (by simp);intro i p q;simp[q]
 calc ((List.range bs.length).all λi=>(bs[i]?).getD true)=((List.range bs.length).map λi=>(bs[i]?).getD true).all id:=by rw[List.all_map];rfl
  _=bs.all id:=by rw[e]
def Q9 (K:lJ):Aa V->Hp->VK->Prop:=λa H Q=>∃ (p:Ad) (bs:Aa Bool),a=[.ref p]/\gV K H p (bs.map V.b)/\Q (.b (bs.all id)) H
theorem Vd (g:X.calm=true):mU X (.builtin "all") (Q9 X.K):=by
 intro m s P H O N Q I r h;obtain⟨p,bs,rfl,z,q⟩:=h;obtain⟨u,rfl,D⟩:=oV r;cases D;obtain⟨c,n,B,_⟩:=I.list z;have d:=B.isList;have a:=n.length;rw[aB] at a;have f:p<s.heap.objs.size:=by obtain⟨_,e,_⟩:=id d;exact aK e
 refine call_all_walk (eK d ?_);refine⟨s.heap.objs.size,[s.heap.objs.size,p],[s.heap.objs.size],c.toArray.size,_,_,λi=>(bs[i]?).getD true,rfl,Walks.list (A:=X.A.in1) (I.ok.hd g) _ p (bE f) c.toArray,⟨⟨_,aQ _ rfl,rfl,rfl⟩,d.push _⟩,λi v L F E t k=>?_,λG M w=>?_⟩
 .obtain⟨b,e,rfl⟩:=Vu n (by simpa using t);simp only[e,Option.getD_some] at k;exact iA k
 .have e:((List.range c.toArray.size).all λi=>(bs[i]?).getD true)=bs.all id:=by
   rw[aM,<- a];exact Tx bs
  rw[e];exact⟨.b _,H,I.kept λb x e=>w b x (λy=>by rw[aU.mp y] at e;exact dX _ (aK e)) (aD _ e),rfl,q⟩
def Mu:V->Aa V->Hp->VK->Prop:=λx a H Q=>∃ (z y:Af),x = .str z/\a=[.str y]/\y.length≠0/\z.length<=1000000/\∀ p,H p=none->Q (.ref p) (upd H p (.l ((Txt.split z y).map V.str)))
theorem Pl:∀ (l:Aa (Af×Tok)),lN ((l.map (·.1)).map V.str) (strValues l)
 | []=>.nil
 | a::r=>.cons ⟨a.2,rfl⟩ (Pl r)
theorem U0:wT X "str.split" Mu:=by
 intro b s A H x F v E Q I w n h;obtain⟨z,y,rfl,rfl,m,D,q⟩:=h;obtain⟨t,rfl⟩:=w;obtain⟨u,rfl,c,rfl⟩:=n.one;have a:(y.length == 0)=false:=by simpa using m
 have fin:∀ (l:Aa (Af×Tok)) (d:Nat),l.map (·.1)=Txt.split z y->l.length<=sizeLine->EP X b A Q (.ref s.heap.objs.size) { s with heap:=s.heap.push { cls:=.type "list",data:=.seq (strValues l).toArray },toks:=d }:=by
  intro l d e k;refine⟨.ref _,_,I.lnew (its:=strValues l) (ys:=(Txt.split z y).map V.str) (t':=d) (by rw[<- e];exact Pl l) ?_,rfl,q _ I.fresh⟩;rw[aB,<- e,aB];exact k
 have f:(Builtin.Str.partsBetween z (Builtin.Str.occurrences z y 0 z.length (z.length+1)) y.length).length<=sizeLine:=by
  have B:=StrLaws.occ_length_le z y 0 z.length (z.length+1);rw[length_partsBetween,kM];omega
 cases g1:(decide (z.length<y.length)||decide (Builtin.Str.strKind z<Builtin.Str.strKind y)) with
 | false =>
  cases g2:(Builtin.Str.occurrences z y 0 z.length (z.length+1)).isEmpty with
  | false =>
   refine gL gQ (kD _ _ _) iZ (iR _ _) (meets_str_split_sep z y t c g1 a g2 (by rw[kM];omega) f) ?_;show wants _ _ _ { s with toks:=_,heap:=s.heap.push { cls:=.type "list",data:=.seq (strsFrom s.toks (Builtin.Str.partsBetween z (Builtin.Str.occurrences z y 0 z.length (z.length+1)) y.length)).toArray } };rw[strsFrom_eq];have i:(numbered s.toks (Builtin.Str.partsBetween z (Builtin.Str.occurrences z y 0 z.length (z.length+1)) y.length)).map (·.1)=Txt.split z y:=(numbered_texts _ _).trans ((bF (jZ g1)).trans (bF (jZ g2))).symm;refine fin _ _ i ?_;have:=cN List.length (numbered_texts s.toks (Builtin.Str.partsBetween z (Builtin.Str.occurrences z y 0 z.length (z.length+1)) y.length));rw[aB] at this;rw[this];exact f
  | true =>
   exact gL gQ (kD _ _ _) iZ (iR _ _) (meets_str_split_not_found z y t c g1 a g2)
    (fin [(z,t)] s.toks ((bF (jZ g1)).trans (bA g2)).symm (by show 1<=sizeLine;decide))
 | true =>
  exact gL gQ (kD _ _ _) iZ (iR _ _) (meets_str_split_cannot_occur z y t c g1)
   (fin [(z,t)] s.toks (bA g1).symm (by show 1<=sizeLine;decide))
end
section
variable {X:Cx}
theorem Inv.movedT {t':Nat}{p:Aa Ad}{ys:Aa V}{j:Aa Ac}(I:Inv X g U H s) (l:∀ b∈p,rV X g H b) (k:∀ b o,b∉p->s.heap.get? b=some o->C.get? b=some o)
  (new:wA C s.heap.objs.size j.toArray) (T:lN ys j) (J:ys.length<=sizeLine):Inv X g U (upd H s.heap.objs.size (.t ys)) { s with heap:=C,toks:=t' }:=by
 have f:=I.fresh;have h:∀ b u,H b=some u->b∉p:=λb u e z=>by rw[(l b z).1] at e;cases e
 have lt:∀ b o,s.heap.get? b=some o->b≠s.heap.objs.size:=λb o e=>bE (aK e)
 refine I.step (g':=s.gens) (d':=s.drawn) (ch:=p) (λb a=>⟨(l b a).2.2.2.1,(l b a).2.1,(l b a).2.2.2.2.1,(l b a).2.2.2.2.2⟩) (λb o _ _ d e _=>k b o d e) (λb o _ _ d e _=>⟨o.slots,k b o d e⟩) (λb o _ e n=>by rw[lO (lt b o e)];exact n)
  (λb o d e=>⟨o,k b o d e⟩) (λb A e=>by rw[lO (mF e f)];exact e) (λb o u e=>by rw[lO (mF e f)];exact e) (λb B e=>⟨#[],by rw[lO (mF e f),e];simp⟩) (λm x=>?_) (λb u e=>?_) I.bare
 .obtain⟨o,w,i,y,r⟩:=x;exact⟨o,w,i,k _ o (λz=>(l _ z).2.1 rfl) y,r⟩
 .by_cases a:b=s.heap.objs.size
  .subst a;rw[lU] at e;cases e;exact⟨J,j,T,new⟩
  .rw[lO a] at e;refine (I.hok b u e).stay (λc v d q=>k c v ?_ q) (λc q=>by rw[lO (mF q f)];exact q) λc A q=>by rw[lO (mF q f)];exact q
   rcases d with z | z
   .rw[z];exact h b u e
   .exact h c _ z
end
section
variable {X:Cx}
theorem Vi {iter:Expr}(T p:Aa Af) (J:Aa Nat) (hN:X.N.Nodup) (af:X.N[i]?=some x) (hx:uR X.env.scope x)
  (hc:X.calm=true) (hi:PI X tg iter wi) (hk:j.kind = .function) (ho:Cj X.N X.env.kindOf j T p J=true)
  (hg:∀ r l C cl U,PG (sS X (T++p) j cl C r l U) tg g)
  (ht:∀ r l C cl U,vO (sS X (T++p) j cl C r l U) ac tt)
  (he:∀ r l C cl U,PE (sS X (T++p) j cl C r l U) ab te)
  (ag:swapsWith (.ListComp ab [⟨tg,iter,ac,0⟩] j pos) (some (.Name x aa)) ae.line X.env=pure true:=by rfl)
  (hs:∀ x,foldedSetIterable iter X.env x=pure x:=by intro _;rfl)
  (hf:X.fn x=true\/X.env.scope.names.lookup x=some .local:=by first | exact .inl rfl | exact .inr rfl | assumption) :
  PS X (.Assign [.Name x aa] (.ListComp ab [⟨tg,iter,ac,0⟩] j pos) ae) (Hf (Fy T J wi g tt te) (xD i)):=by
 intro u s M H D I h;rw[exec_Assign_Name_used _ _ _ _ ag];refine aA (kU (aA ?_));show wpAny _ _ (comprehension _ _ _ _ _ _ _ _ >>= λ_=>pure ()) _ _ _;refine aA (P2 (nw:=none) T p J hc hi hk (Mr ho) hg ht he hs I h λC t L w A q U k=>?_);obtain⟨m,E⟩:=k;show wpAny _ _ (assign (.Name x aa) X.env (.ref t)) _ _ _;refine wpAny_assign_Name (Nn A hN af hx (v:=.ref t) rfl (λF y f=>?_) hf);obtain⟨a,G,B⟩:=f;have c:C≠a:=by
  rcases B with z | z
  .rw[z];exact U.2.1
  .exact (U.2.2.2.2.1 x a z).symm
 refine⟨m,E.sameBut G c,λK n=>aE (aE ⟨_,w,y.moved (t':=F.toks) (fp:=[C]) (λb d=>?_) (λb o d e=>?_),q⟩)⟩
 .rw[aU.mp d];exact U
 .exact n.extBut b o (λz=>d (aU.mpr z)) e
end
inductive D where
 | e | b (b:Bool) | int (i:Int) | str (x:Str) | r (v:V)
 | t (xs:List D) | l (xs:List D)
 | k (kvs:List (lL×D)) | T (kvs:List (List lL×D))
 | c (xs:List D)
 | con (xs:List D)
def Aw (K:lJ) (a:Ad) (g:Aa V):Prop:=∃ (o:Obj) (b:Array Ac) (n:Nat),K.lookup a=some o/\o.cls = .type "tuple" /\ o.data = .seq b n/\b.size<=sizeLine/\lN g b.toList
theorem Aw.sqT {K:lJ}(h:Aw K a g):mH K H a g:=.inr h
def xV (K:lJ) (H:Hp) (a:Ad) (g:Aa V):Prop:=(∃ o,H a=some (.frz o (.l g))) \/
 ∃ (o:Obj) (b:Array Ac) (n:Nat),K.lookup a=some o/\o.cls = .type "list" /\ o.dict=none/\o.data = .seq b n/\b.size<=sizeLine/\lN g b.toList
theorem xV.sqL {K:lJ}(h:xV K H a g):gV K H a g:=h.elim (λh=>.inl (.inr h)) .inr
mutual
inductive Rep (K:lJ) (A:Addr->Prop) (H:Hp):D->V->Prop where
 | e:Rep K A H .e .e
 | b (b:Bool):Rep K A H (.b b) (.b b)
 | int (i:Int):Rep K A H (.int i) (.int i)
 | str (x:Str):Rep K A H (.str x) (.str x)
 | r (v:V):Rep K A H (.r v) v
 | t {a:Addr} {vs:List V} {ds:List D}:H a=some (.t vs)->Reps K A H ds vs->Rep K A H (.t ds) (.ref a)
 | con {a:Addr} {vs:List V} {ds:List D}:Aw K a vs->Reps K A H ds vs->Rep K A H (.con ds) (.ref a)
 | l {a:Addr} {vs:List V} {ds:List D}:A a->H a=some (.l vs)->Reps K A H ds vs->Rep K A H (.l ds) (.ref a)
 | c {a:Addr} {vs:List V} {ds:List D}:xV K H a vs->Reps K A H ds vs->Rep K A H (.c ds) (.ref a)
 | k {a:Addr} {kvs:List (lL×V)} {ds:List (lL×D)}:A a->H a=some (.k kvs)->ds.map (·.1)=kvs.map (·.1)->Reps K A H (ds.map (·.2)) (kvs.map (·.2))->Rep K A H (.k ds) (.ref a)
 | T {a:Addr} {kvs:List (List lL×V)} {ds:List (List lL×D)}:A a->Rd H a (.T kvs)->ds.map (·.1)=kvs.map (·.1)->Reps K A H (ds.map (·.2)) (kvs.map (·.2))->Rep K A H (.T ds) (.ref a)
inductive Reps (K:lJ) (A:Addr->Prop) (H:Hp):List D->List V->Prop where
 | nil:Reps K A H [] []
 | cons {d:D} {v:V} {ds:List D} {vs:List V}:Rep K A H d v->Reps K A H ds vs->Reps K A H (d::ds) (v::vs)
end
def Fj:HO->Bool
 | .t _=>true
 | .frz _ _=>true
 | _=>false
def Kp (A j:Ad->Prop) (H g:Hp):Prop:=(∀ a o,A a->H a=some o->j a/\g a=some o)/\∀ a o,Fj o=true->H a=some o->g a=some o
section
variable {K:lJ}
theorem Kp.sqF (k:Kp A l H g) (h:xV K H a j):xV K g a j:=by
 rcases h with⟨o,h⟩ | h
 .exact .inl ⟨o,k.2 _ _ rfl h⟩
 .exact .inr h
theorem Kp.rd (k:Kp A j H l) (g:A a) (h:Rd H a u):j a/\Rd l a u:=by
 rcases h with h | ⟨o,h⟩
 .exact⟨(k.1 _ _ g h).1,.inl (k.1 _ _ g h).2⟩
 .exact⟨(k.1 _ _ g h).1,.inr ⟨o,(k.1 _ _ g h).2⟩⟩
theorem Rep.mono (k:Kp A g H j) (h:Rep K A H d v):Rep K g j d v :=
 Rep.rec (motive_1:=λd v _=>Rep K g j d v) (motive_2:=λf i _=>Reps K g j f i) .e .b .int .str .r (λh _ r=>.t (k.2 _ _ rfl h) r) (λh _ r=>.con h r)
  (λa h _ r=>.l (k.1 _ _ a h).1 (k.1 _ _ a h).2 r) (λh _ r=>.c (k.sqF h) r) (λa h e _ r=>.k (k.1 _ _ a h).1 (k.1 _ _ a h).2 e r) (λa h e _ r=>.T (k.rd a h).1 (k.rd a h).2 e r) .nil (λ_ _ h r=>.cons h r) h
theorem Reps.mono (k:Kp A o H p) (h:Reps K A H j l):Reps K o p j l:=by
 induction j generalizing l with
 | nil=>cases h;exact .nil
 | cons d j a=>cases h with | cons g r=>exact .cons (g.mono k) (a r)
theorem Kp.all (h:∀ a,A a->g a):Kp A g H H:=⟨λa o b e=>⟨h a b,e⟩,λ_ _ _ e=>e⟩
theorem Kp.trans (a:Kp A l H r) (b:Kp l g r j):Kp A g H j:=⟨λx o c e=>let ⟨p,q⟩:=a.1 x o c e;b.1 x o p q,λx o t e=>b.2 x o t (a.2 x o t e)⟩
theorem Kp.laid (g:H p=none) (h:∀ a,A a->a≠p->j a):Kp A j H (upd H p o) :=
 ⟨λa u b e=>⟨h a b (mF e g),by rw[lO (mF e g)];exact e⟩,λa u _ e=>by rw[lO (mF e g)];exact e⟩
theorem Kp.same (s:oG H j) (h:∀ a,A a->g a):Kp A g H j:=⟨λa o b e=>⟨h a b,s a o e⟩,λa o _ e=>s a o e⟩
theorem Kp.write (l:H p=some u) (g:Fj u=false) (j:¬ A p):Kp A A H (upd H p o):=by
 refine⟨λa w b e=>⟨b,?_⟩,λa w t e=>?_⟩
 .rw[lO (λz:a=p=>j (by rw[<- z];exact b))];exact e
 .rw[lO (λz=>?_)]
  .exact e
  .subst z;rw[l] at e;cases e;rw[t] at g;cases g
theorem Reps.length (h:Reps K A H j l):j.length=l.length:=by
 induction j generalizing l with
 | nil=>cases h;rfl
 | cons d j a=>cases h with | cons g r=>exact cN (·+1) (a r)
theorem Reps.get {j:Aa D}{l:Aa V}{i:Nat}{d:D}(h:Reps K A H j l) (e:j[i]?=some d):∃ v,l[i]?=some v/\Rep K A H d v:=by
 induction j generalizing l i with
 | nil=>cases e
 | cons c j a =>
  cases h with
  | cons g r =>
   cases i with
   | zero=>cases e;exact⟨_,rfl,g⟩
   | succ i=>exact a r (i:=i) e
theorem Reps.getV {j:Aa D}{l:Aa V}{i:Nat}{v:V}(h:Reps K A H j l) (e:l[i]?=some v):∃ d,j[i]?=some d/\Rep K A H d v:=by
 induction j generalizing l i with
 | nil=>cases h;cases e
 | cons c j a =>
  cases h with
  | cons g r =>
   cases i with
   | zero=>cases e;exact⟨_,rfl,g⟩
   | succ i=>exact a r (i:=i) e
theorem Reps.append (h:Reps K A H j l) (s:Reps K A H o p):Reps K A H (j++o) (l++p):=by
 induction j generalizing l with
 | nil=>cases h;exact s
 | cons d j a=>cases h with | cons g r=>exact .cons g (a r)
theorem Reps.take:∀ {g:Aa D}{j:Aa V}(n:Nat),Reps K A H g j->Reps K A H (g.take n) (j.take n)
 | _,_,0,_=>by rw[List.take_zero,List.take_zero];exact .nil
 | _,_,n+1,.nil=>.nil
 | _,_,n+1,.cons h r=>.cons h (Reps.take n r)
theorem Reps.drop:∀ {g:Aa D}{j:Aa V}(n:Nat),Reps K A H g j->Reps K A H (g.drop n) (j.drop n)
 | _,_,0,h=>h
 | _,_,n+1,.nil=>.nil
 | _,_,n+1,.cons h r=>Reps.drop n r
theorem Reps.set (h:Rep K A H d v):∀ {j:Aa D}{l:Aa V}(i:Nat),Reps K A H j l->Reps K A H (j.set i d) (l.set i v)
 | _,_,_,.nil=>.nil
 | _,_,0,.cons _ r=>.cons h r
 | _,_,i+1,.cons g r=>.cons g (Reps.set h i r)
theorem Reps.erase:∀ {j:Aa D}{l:Aa V}(i:Nat),Reps K A H j l->Reps K A H (j.eraseIdx i) (l.eraseIdx i)
 | _,_,_,.nil=>.nil
 | _,_,0,.cons _ r=>r
 | _,_,i+1,.cons g r=>.cons g (Reps.erase i r)
theorem Reps.nil_iff (h:Reps K A H g j):j=[]↔g=[]:=by
 cases h<;>simp
theorem Rep.int_inv (h:Rep K A H (.int i) v):v = .int i:=by cases h;rfl
theorem Rep.str_inv (h:Rep K A H (.str i) v):v = .str i:=by cases h;rfl
theorem Rep.bl_inv (h:Rep K A H (.b i) v):v = .b i:=by cases h;rfl
theorem Rep.non_inv (h:Rep K A H .e v):v = .e:=by cases h;rfl
theorem Rep.raw_inv (h:Rep K A H (.r u) v):v=u:=by cases h;rfl
theorem Rep.tup_inv (h:Rep K A H (.t j) v):∃ a g,v = .ref a/\H a=some (.t g)/\Reps K A H j g:=by
 cases h with | t h r=>exact⟨_,_,rfl,h,r⟩
theorem Rep.lst_inv (h:Rep K A H (.l j) v):∃ a g,v = .ref a/\A a/\H a=some (.l g)/\Reps K A H j g:=by
 cases h with | l d h r=>exact⟨_,_,rfl,d,h,r⟩
theorem Rep.con_inv (h:Rep K A H (.con j) v):∃ a g,v = .ref a/\Aw K a g/\Reps K A H j g:=by
 cases h with | con h r=>exact⟨_,_,rfl,h,r⟩
theorem Rep.scr_inv (h:Rep K A H (.c j) v):∃ a g,v = .ref a/\xV K H a g/\Reps K A H j g:=by
 cases h with | c h r=>exact⟨_,_,rfl,h,r⟩
end
mutual
def imm:D->Bool
 | .t a=>uY a
 | .c a=>uY a
 | .con a=>uY a
 | .l _=>false
 | .k _=>false
 | .T _=>false
 | _=>true
def uY:Aa D->Bool
 | []=>true
 | d::a=>imm d&&uY a
end
section
variable {K:lJ}
theorem Rep.imm (h:Rep K A H d v):imm d=true->Rep K g H d v :=
 Rep.rec (motive_1:=λd v _=>L2.imm d=true->Rep K g H d v) (motive_2:=λa f _=>uY a=true->Reps K g H a f) (λ_=>.e) (λb _=>.b b) (λi _=>.int i) (λx _=>.str x) (λv _=>.r v) (λh _ r e=>.t h (r e)) (λh _ r e=>.con h (r e))
  (λ_ _ _ _ e=>Bool.noConfusion (show false=true from e)) (λh _ r e=>.c h (r e)) (λ_ _ _ _ _ e=>Bool.noConfusion (show false=true from e)) (λ_ _ _ _ _ e=>Bool.noConfusion (show false=true from e)) (λ_=>.nil) (λ_ _ h r e=>.cons (h (cT.mp e).1) (r (cT.mp e).2)) h
theorem Reps.imm (h:Reps K A H j l) (e:uY j=true):Reps K o H j l:=by
 induction j generalizing l with
 | nil=>cases h;exact .nil
 | cons d j a=>cases h with | cons g r=>exact .cons (g.imm (cT.mp e).1) (a r (cT.mp e).2)
end
end L2
namespace Lw
open PySem L2
structure DeckAt (H:Hp) (d c:Addr):Prop where
 ex:∃ (ns:List Int) (p:Int),H d=some (.l [.ref c,.int p])/\H c=some (.l (ns.map V.int))/\0<ns.length/\ns.length<=100
def lW (d c:Ad) (H g:Hp):Prop:=∀ b o,H b=some o->b≠d->b≠c->g b=some o
theorem lW.trans (a:lW d c H g) (b:lW d c g j):lW d c H j:=λx o e f h=>b x o (a x o e f h) f h
theorem lW.new (h:H p=none):lW d c H (upd H p o):=λb u e _ _=>by rw[lO (mF e h)];exact e
theorem DeckAt.ne (D:DeckAt H d c):d≠c:=by
 obtain⟨i,p,f,b,h,_⟩:=D.ex;intro e;subst e;rw[f] at b;injection b with b;injection b with b;cases i with
 | nil=>simp at h
 | cons a r=>simp at b
theorem DeckAt.upd_other (D:DeckAt H d c) (hd:p≠d) (g:p≠c):DeckAt (upd H p o) d c:=by
 obtain⟨h,q,a,b,e,f⟩:=D.ex;exact⟨h,q,by rw[lO hd.symm];exact a,by rw[lO g.symm];exact b,e,f⟩
theorem DeckAt.ned (D:DeckAt H d c) (h:H p=none):p≠d/\p≠c:=by
 obtain⟨e,q,a,b,_⟩:=D.ex;exact⟨(mF a h).symm,(mF b h).symm⟩
theorem DeckAt.new (D:DeckAt H d c) (h:H p=none):DeckAt (upd H p o) d c:=D.upd_other (D.ned h).1 (D.ned h).2
end Lw
namespace L2
open PySem PySem.Spec PyProof.Rows Lw
inductive Sl where
 | n | v (d:D) | o (d:D)
abbrev mY:=Aa (Sl×Ab V)
def Dk (g:Aa Ad) (H:Hp):Prop:=g=[]\/∃ d c,g=[d,c]/\DeckAt H d c
theorem Dk.some (h:Dk j H) (g:a∈j):∃ o,H a=some (.l o):=by
 rcases h with rfl | ⟨d,c,rfl,h⟩
 .cases g
 .obtain⟨f,p,b,e,_⟩:=h.ex;rcases aF.mp g with rfl | g
  .exact⟨_,b⟩
  .rcases aF.mp g with rfl | g
   .exact⟨_,e⟩
   .cases g
theorem Dk.keep (h:Dk g H) (k:∀ a∈g,j a=H a):Dk g j:=by
 rcases h with rfl | ⟨d,c,rfl,h⟩
 .exact .inl rfl
 .refine .inr ⟨d,c,rfl,?_⟩;obtain⟨i,p,b,e,f⟩:=h.ex;exact⟨i,p,by rw[k d (by simp)];exact b,by rw[k c (by simp)];exact e,f⟩
theorem Dk.upd (h:Dk g H) (j:p∉g):Dk g (upd H p o):=h.keep λa b=>lO λz=>j (z▸b)
noncomputable def yD:Sl×Ab V->Ab Ad
 | (.o _,some (.ref a))=>some a
 | _=>none
def gD (L:mY):Aa Ad:=L.filterMap yD
structure Bs where
 dk:List Addr
 A0:Addr->Prop
 H0:Hp
def Al (B:Bs) (R:Aa Ad) (a:Ad):Prop:=a∉B.dk/\a∉R/\(B.A0 a\/B.H0 a=none)
def oF (K:lJ) (A:Ad->Prop) (H:Hp) (a:Ad):D->Prop
 | .l c=>∃ d,H a=some (.l d)/\Reps K A H c d
 | .k c=>∃ b,H a=some (.k b)/\c.map (·.1)=b.map (·.1)/\Reps K A H (c.map (·.2)) (b.map (·.2))
 | .T c=>∃ b,H a=some (.T b)/\c.map (·.1)=b.map (·.1)/\Reps K A H (c.map (·.2)) (b.map (·.2))
 | _=>False
def sN (K:lJ) (A:Ad->Prop) (H:Hp):Sl->Ab V->Prop
 | .n,_=>True
 | .v d,x=>∃ v,x=some v/\Rep K A H d v
 | .o d,x=>∃ a,x=some (.ref a)/\oF K A H a d
structure DS (K:lJ) (B:Bs) (L:mY) (H:Hp):Prop where
 fr:∀ b o,B.H0 b=some o->b∉B.dk->H b=some o
 dk:Dk B.dk H
 nd:(gD L).Nodup
 new:∀ a∈gD L,B.H0 a=none/\a∉B.dk
 ok:∀ p∈L,sN K (Al B (gD L)) H p.1 p.2
section
variable {K:lJ}{L2:mY}
theorem oF.mono (k:Kp A p H j) (g:∀ o,H a=some o->j a=some o) (h:oF K A H a d):oF K p j a d:=by
 cases d with
 | l _=>obtain⟨b,h,r⟩:=h;exact⟨b,g _ h,r.mono k⟩
 | k _=>obtain⟨b,h,e,r⟩:=h;exact⟨b,g _ h,e,r.mono k⟩
 | T _=>obtain⟨b,h,e,r⟩:=h;exact⟨b,g _ h,e,r.mono k⟩
 | _=>exact False.elim h
theorem oF.some:∀ {d:D},oF K A H a d->∃ o,H a=some o/\Fj o=false
 | .l _,⟨b,h,r⟩=>⟨_,h,rfl⟩
 | .k _,⟨b,h,e,r⟩=>⟨_,h,rfl⟩
 | .T _,⟨b,h,e,r⟩=>⟨_,h,rfl⟩
theorem oF.rep (g:∀ b,A b->o b) (j:o a):∀ {d:D},oF K A H a d->Rep K o H d (.ref a)
 | .l _,⟨c,h,r⟩=>.l j h (r.mono (.all g))
 | .k _,⟨c,h,e,r⟩=>.k j h e (r.mono (.all g))
 | .T _,⟨c,h,e,r⟩=>.T j (.inl h) e (r.mono (.all g))
theorem sN.mono (k:Kp A j H g) (h:sN K A H s y) (l:∀ a,yD (s,y)=some a->∀ o,H a=some o->g a=some o):sN K j g s y:=by
 cases s with
 | n=>trivial
 | v d=>obtain⟨v,e,r⟩:=h;exact⟨v,e,r.mono k⟩
 | o d=>obtain⟨a,rfl,r⟩:=h;exact⟨a,rfl,r.mono k (l a rfl)⟩
theorem qG:gD (g++L2)=gD g++gD L2:=List.filterMap_append
theorem uF:a∈gD L↔∃ p∈L,yD p=some a:=kC
theorem qW:gD (L1++x::L2)=gD L1++((yD x).toList++gD L2):=by
 unfold gD;rw[List.filterMap_append,List.filterMap_cons];cases yD x<;>rfl
theorem DS.live (h:DS K B L H) (g:a∈gD L):∃ o,H a=some o/\Fj o=false:=by
 obtain⟨p,c,e⟩:=uF.mp g;have:=h.ok p c;obtain⟨s,y⟩:=p;cases s with
 | n=>cases e
 | v d=>cases e
 | o d =>
  obtain⟨b,rfl,r⟩:=this;cases e;exact r.some
theorem DS.drop (h:DS K B (L1++x::L2) H):DS K B (L1++L2) H:=by
 have e:=qW (L1:=L1) (x:=x) (L2:=L2);have d:∀ a,a∈gD (L1++L2)->a∈gD (L1++x::L2):=λa c=>by
  rw[qG] at c;rw[e];simp only[aX] at c |-;rcases c with q | q
  .exact .inl q
  .exact .inr (.inr q)
 refine⟨h.fr,h.dk,?_,λa c=>h.new a (d a c),λp f=>?_⟩
 .have n:=h.nd;rw[e] at n;rw[qG];obtain⟨k,m,s⟩:=bK.mp n;exact bK.mpr ⟨k,(bK.mp m).2.1,λa c b i=>s a c b (aI _ i)⟩
 .refine (h.ok p (by simp only[aX,aF] at f |-;rcases f with q | q;exact .inl q;exact .inr (.inr q))).mono (.all λa z=>⟨z.1,λq=>z.2.1 (d a q),z.2.2⟩) (λ_ _ _ q=>q)
theorem DS.at (h:DS K B (g++x::L2) H):sN K (Al B (gD (g++x::L2))) H x.1 x.2:=h.ok x (aI _ aH)
theorem DS.valAt (h:DS K B (g++(.v d,some v)::L2) H):Rep K (Al B (gD (g++L2))) H d v:=by
 obtain⟨u,e,r⟩:=h.at;cases e;have:gD (g++(Sl.v d,some v)::L2)=gD (g++L2):=by rw[qW,qG];rfl
 rw[this] at r;exact r
theorem DS.push (h:DS K B (L1++L2) H) (r:Rep K (Al B (gD (L1++L2))) H d v):DS K B (L1++(.v d,some v)::L2) H:=by
 have e:gD (L1++(Sl.v d,some v)::L2)=gD (L1++L2):=by rw[qW,qG];rfl
 refine⟨h.fr,h.dk,by rw[e];exact h.nd,by rw[e];exact h.new,λp a=>?_⟩;rw[e];simp only[aX,aF] at a;rcases a with q | q | q
 .exact h.ok p (aW _ q)
 .subst q;exact⟨v,rfl,r⟩
 .exact h.ok p (aI _ q)
theorem DS.pushN (h:DS K B (L1++L2) H) (y:Ab V):DS K B (L1++(.n,y)::L2) H:=by
 have e:gD (L1++(Sl.n,y)::L2)=gD (L1++L2):=by rw[qW,qG];rfl
 refine⟨h.fr,h.dk,by rw[e];exact h.nd,by rw[e];exact h.new,λp a=>?_⟩;rw[e];simp only[aX,aF] at a;rcases a with q | q | q
 .exact h.ok p (aW _ q)
 .subst q;trivial
 .exact h.ok p (aI _ q)
theorem DS.grow (h:DS K B L H) (s:oG H g) (j:Dk B.dk g):DS K B L g :=
 ⟨λb o e n=>s b o (h.fr b o e n),j,h.nd,h.new,λp a=>(h.ok p a).mono (.same s λ_ z=>z) (λ_ _ o q=>s _ o q)⟩
theorem DS.free (h:DS K B L H) (g:H a=none):B.H0 a=none/\a∉B.dk/\a∉gD L:=by
 have n:a∉B.dk:=λz=>by obtain⟨b,e⟩:=h.dk.some z;rw[e] at g;cases g
 refine⟨?_,n,λz=>by obtain⟨o,e,_⟩:=h.live z;rw[e] at g;cases g⟩;cases e:B.H0 a with
 | none=>rfl
 | some o=>rw[h.fr a o e n] at g;cases g
theorem DS.laid (h:DS K B L H) (g:H a=none):DS K B L (upd H a o) :=
 h.grow (λb u e=>by rw[lO (mF e g)];exact e) (h.dk.upd (h.free g).2.1)
theorem DS.tup (h:DS K B (L1++L2) H){g:Aa D}{l:Aa V}(j:H a=none) (r:Reps K (Al B (gD (L1++L2))) H g l):DS K B (L1++(.v (.t g),some (.ref a))::L2) (upd H a (.t l)) :=
 (h.laid j).push (.t lU (r.mono (.laid j λ_ z _=>z)))
theorem DS.make (h:DS K B (L1++L2) H) (g:H a=none) (r:∀ j,Kp (Al B (gD (L1++L2))) j H (upd H a o)->oF K j (upd H a o) a d):DS K B (L1++(.o d,some (.ref a))::L2) (upd H a o):=by
 obtain⟨f1,f2,k⟩:=h.free g;have e:gD (L1++(Sl.o d,some (.ref a))::L2)=gD L1++a::gD L2:=qW;have m:∀ b,b∈gD L1++a::gD L2↔b=a\/b∈gD (L1++L2):=λb=>by
  rw[qG];simp only[aX,aF];constructor
  .rintro (q | q | q)
   .exact .inr (.inl q)
   .exact .inl q
   .exact .inr (.inr q)
  .rintro (q | q | q)
   .exact .inr (.inl q)
   .exact .inl q
   .exact .inr (.inr q)
 have s:Kp (Al B (gD (L1++L2))) (Al B (gD L1++a::gD L2)) H (upd H a o):=.laid g λb z n=>⟨z.1,λq=>(m b).mp q |>.elim n z.2.1,z.2.2⟩
 refine⟨λb u q n=>by rw[lO (mF (h.fr b u q n) g)];exact h.fr b u q n,h.dk.upd f2,?_,λb i=>?_,λp f=>?_⟩
 .rw[e];have n:=h.nd;rw[qG] at n k;obtain⟨v,x,y⟩:=bK.mp n;refine bK.mpr ⟨v,cH.mpr ⟨λz=>k (aI _ z),x⟩,λb i c t=>?_⟩;rcases aF.mp t with q | q
  .intro z;subst z;subst q;exact k (aW _ i)
  .exact y b i c q
 .rw[e] at i;rcases (m b).mp i with q | q
  .subst q;exact⟨f1,f2⟩
  .exact h.new b q
 .rw[e];simp only[aX,aF] at f;have old:∀ p∈L1++L2,sN K (Al B (gD L1++a::gD L2)) (upd H a o) p.1 p.2:=λp f=>(h.ok p f).mono s λb i w q=>by rw[lO (mF q g)];exact q
  rcases f with q | q | q
  .exact old p (aW _ q)
  .subst q;exact⟨a,rfl,r _ s⟩
  .exact old p (aI _ q)
theorem DS.freeze (h:DS K B (g++(.o d,some v)::L2) H):DS K B (g++(.v d,some v)::L2) H:=by
 obtain⟨a,e,r⟩:=h.at;cases e;have c:gD (g++(Sl.o d,some (V.ref a))::L2)=gD g++a::gD L2:=qW;have hd:=h.drop;have f:=h.new a (by rw[c];simp);refine hd.push (r.rep (λb z=>⟨z.1,λq=>z.2.1 ?_,z.2.2⟩) ⟨f.2,λq=>?_,.inr f.1⟩)
 .rw[c];rw[qG] at q;simp only[aX,aF] at q |-;rcases q with q | q
  .exact .inl q
  .exact .inr (.inr q)
 .have n:=h.nd;rw[c] at n;rw[qG] at q;obtain⟨m,i,k⟩:=bK.mp n;rcases aX.mp q with q | q
  .exact k a q a aH rfl
  .exact (cH.mp i).1 q
theorem DS.write (h:DS K B (g++(.o d,some (.ref a))::L2) H) (r:∀ j,Kp (Al B (gD g++a::gD L2)) j H (upd H a o)->oF K j (upd H a o) a d'):DS K B (g++(.o d',some (.ref a))::L2) (upd H a o):=by
 have e:∀ d,gD (g++(Sl.o d,some (V.ref a))::L2)=gD g++a::gD L2:=λd=>qW
 have s:=h.new a (by rw[e];simp);obtain⟨u,t,A⟩:=h.live (a:=a) (by rw[e];simp);have k:Kp (Al B (gD g++a::gD L2)) (Al B (gD g++a::gD L2)) H (upd H a o):=.write t A λz=>z.2.1 (by simp)
 have n:=h.nd;rw[e] at n;have y:∀ b,b∈gD g\/b∈gD L2->b≠a:=λb c z=>by
  subst z;obtain⟨D,v,x⟩:=bK.mp n;rcases c with c | c
  .exact x b c b aH rfl
  .exact (cH.mp v).1 c
 refine⟨λb w q m=>?_,h.dk.upd s.2,by rw[e];exact n,λb c=>h.new b (by rw[e] at c |-;exact c),λp f=>?_⟩
 .have:b≠a:=λz=>by subst z;rw[s.1] at q;cases q
  rw[lO this];exact h.fr b w q m
 .rw[e];have old:∀ p,p∈g\/p∈L2->sN K (Al B (gD g++a::gD L2)) (upd H a o) p.1 p.2:=λp i=>by
   have:=h.ok p (by simp only[aX,aF];rcases i with q | q;exact .inl q;exact .inr (.inr q));rw[e] at this;refine this.mono k λb c w q=>?_
   rw[lO (y b ?_)]
   .exact q
   .rcases i with z | z
    .exact .inl (uF.mpr ⟨p,z,c⟩)
    .exact .inr (uF.mpr ⟨p,z,c⟩)
  simp only[aX,aF] at f;rcases f with q | q | q
  .exact old p (.inl q)
  .subst q;exact⟨a,rfl,r _ k⟩
  .exact old p (.inr q)
theorem DS.ownAt (h:DS K B (g++(.o d,some v)::L2) H):∃ a,v = .ref a/\oF K (Al B (gD g++a::gD L2)) H a d:=by
 obtain⟨a,e,r⟩:=h.at;cases e;rw[show gD (g++(Sl.o d,some (V.ref a))::L2)=gD g++a::gD L2 from qW] at r;exact⟨a,rfl,r⟩
theorem DS.perm (h:DS K B L H) (p:L.Perm M):DS K B M H:=by
 have e:(gD L).Perm (gD M):=p.filterMap yD;refine⟨h.fr,h.dk,e.nodup_iff.mp h.nd,λa b=>h.new a (e.mem_iff.mpr b),λq c=>(h.ok q (p.mem_iff.mpr c)).mono (.all λa z=>⟨z.1,λw=>z.2.1 (e.mem_iff.mpr w),z.2.2⟩) λ_ _ _ w=>w⟩
end
section
theorem vJ {g:Aa Sl}{σ:St}(C:g.length=σ.length){i:Nat}{s:Sl}(h:g[i]?=some s):∃ j y l,σ[i]?=some y/\j.length=i/\g.zip σ=j++(s,y)::l/\∀ o p,(g.set i o).zip (σ.set i p)=j++(o,p)::l:=by
 induction g generalizing σ i with
 | nil=>simp at h
 | cons r g e =>
  cases σ with
  | nil=>simp at C
  | cons z σ =>
   cases i with
   | zero=>simp at h;subst h;exact⟨[],z,g.zip σ,rfl,rfl,rfl,λ_ _=>rfl⟩
   | succ i =>
    obtain⟨j,y,l,a,b,c,d⟩:=e (σ:=σ) (by simpa using C) (i:=i) (by simpa using h);exact⟨(r,z)::j,y,l,by simpa using a,by simp[b],by simp[c],λo p=>by simp[d]⟩
theorem Bc {g:St}{i:Nat}{y:Ab V}(h:g[i]?=some y):g.set i y=g:=by
 obtain⟨a,rfl⟩:=aP.mp h;exact List.set_getElem_self a
end
abbrev mK:=Aa Ad->Aa Sl->(Sl->Aa Sl->Prop)->Prop
abbrev qO:=Aa Ad->Aa Sl->(Bool->Aa Sl->Prop)->Prop
def dE (K:lJ) (g:mK):TE:=λb H Q=>∃ (B:Bs) (c:Aa Sl) (T:mY) (e:Sl->Aa Sl->Prop),c.length=b.length/\DS K B (c.zip b++T) H/\g B.dk c e /\
 ∀ r a v d,a.length=b.length->DS K B (a.zip b++(r,some v)::T) d->e r a->Q v d
def tI (K:lJ) (g:qO):TT:=λc H Q=>∃ (B:Bs) (d:Aa Sl) (T:mY) (f:Bool->Aa Sl->Prop),d.length=c.length/\DS K B (d.zip c++T) H/\g B.dk d f /\
 ∀ b a e,a.length=c.length->DS K B (a.zip c++T) e->f b a->Q b e
theorem dE.elim {K:lJ}{P:Prop}(h:dE K C o H Q) (f:∀ (B:Bs) (j:Aa Sl) (T:mY) (l:Sl->Aa Sl->Prop),j.length=o.length->DS K B (j.zip o++T) H->C B.dk j l ->(∀ r g v p,g.length=o.length->DS K B (g.zip o++(r,some v)::T) p->l r g->Q v p)->P):P:=by
 obtain⟨B,j,T,l,a,hd,b,k⟩:=h;exact f B j T l a hd b k
theorem tI.elim {K:lJ}{P:Prop}(h:tI K r o H Q) (f:∀ (B:Bs) (j:Aa Sl) (T:mY) (l:Bool->Aa Sl->Prop),j.length=o.length->DS K B (j.zip o++T) H->r B.dk j l ->(∀ b g p,g.length=o.length->DS K B (g.zip o++T) p->l b g->Q b p)->P):P:=by
 obtain⟨B,j,T,l,a,hd,c,k⟩:=h;exact f B j T l a hd c k
abbrev PD (X:Cx) (e:Expr) (g:mK):Prop:=PE X e (dE X.K g)
abbrev rN (X:Cx) (e:Expr) (g:qO):Prop:=PT X e (tI X.K g)
abbrev xL (X:Cx) (e:Expr) (g:qO):Prop:=PW X e (tI X.K g)
theorem PE.mono {X:Cx}(h:PE X e t) (k:∀ g H Q,j g H Q->t g H Q):PE X e j:=λa s g H Q I q=>h a s g H Q I (k g H Q q)
theorem PT.mono {X:Cx}(h:PT X e t) (k:∀ g H Q,j g H Q->t g H Q):PT X e j:=λa s g H Q I q=>h a s g H Q I (k g H Q q)
theorem PW.mono {X:Cx}(h:PW X e t) (k:∀ g H Q,j g H Q->t g H Q):PW X e j:=λb a s g H Q I q=>h b a s g H Q I (k g H Q q)
def sd:Sl->Ab D
 | .v d=>some d
 | .o d=>some d
 | .n=>none
section
variable {K:lJ}{L2:mY}
theorem J2:gD (g++(Sl.v d,y)::L2)=gD (g++L2):=by rw[qW,qG];rfl
theorem DS.thaw (h:DS K B (g++(r,some v)::L2) H) (e:sd r=some d):DS K B (g++(.v d,some v)::L2) H:=by
 cases r with
 | n=>cases e
 | v c=>cases e;exact h
 | o c=>cases e;exact h.freeze
theorem DS.one (h:DS K B (L++(r,some v)::T) H) (e:sd r=some d):DS K B (L++T) H/\Rep K (Al B (gD (L++T))) H d v:=by
 have a:=h.thaw e;exact⟨a.drop,a.valAt⟩
theorem DS.two (h:DS K B (L++(l,some u)::(r,some v)::T) H) (g:sd r=some d) (j:sd l=some e):DS K B (L++T) H/\Rep K (Al B (gD (L++T))) H d v/\Rep K (Al B (gD (L++T))) H e u:=by
 have m:=h.thaw j;have n:DS K B ((L++[(Sl.v e,some u)])++(r,some v)::T) H:=by simpa using m
 have a:=n.thaw g;have b:DS K B (L++(Sl.v e,some u)::(.v d,some v)::T) H:=by simpa using a
 have c:=b.valAt;have f:=a.valAt;have i:gD (L++(Sl.v d,some v)::T)=gD (L++T):=by rw[qW,qG];rfl
 have k:gD ((L++[(Sl.v e,some u)])++T)=gD (L++T):=by
  rw[bP];show gD (L++(Sl.v e,some u)::T)=_;rw[qW,qG];rfl
 rw[i] at c;rw[k] at f;exact⟨b.drop.drop,f,c⟩
theorem DS.mid (h:DS K B (x::(L++T)) H):DS K B (L++x::T) H:=h.perm jQ.symm
theorem DS.front (h:DS K B (L++x::T) H):DS K B (x::(L++T)) H:=h.perm jQ
theorem DS.pushF (h:DS K B L H) (r:Rep K (Al B (gD L)) H d v):DS K B ((.v d,some v)::L) H:=DS.push (L1:=[]) h r
theorem DS.tupF (h:DS K B L H) (j:H a=none) (r:Reps K (Al B (gD L)) H g l):DS K B ((.v (.t g),some (.ref a))::L) (upd H a (.t l)):=DS.tup (L1:=[]) h j r
theorem DS.lstF (h:DS K B L H) (p:H a=none) (r:Reps K (Al B (gD L)) H j g):DS K B ((.o (.l j),some (.ref a))::L) (upd H a (.l g)) :=
 DS.make (L1:=[]) h p λb k=>⟨g,lU,r.mono k⟩
theorem DS.dKF (h:DS K B L H) (g:H a=none) (e:ds.map (·.1)=kvs.map (·.1)) (r:Reps K (Al B (gD L)) H (ds.map (·.2)) (kvs.map (·.2))):DS K B ((.o (.k ds),some (.ref a))::L) (upd H a (.k kvs)) :=
 DS.make (L1:=[]) h g λb k=>⟨kvs,lU,e,r.mono k⟩
end
def mO (K:lJ) (A:Ad->Prop) (H:Hp):D->V->Prop
 | .l f,v=>∃ a h,v = .ref a/\H a=some (.l h)/\Reps K A H f h
 | .k f,v=>∃ a d,v = .ref a/\H a=some (.k d)/\f.map (·.1)=d.map (·.1)/\Reps K A H (f.map (·.2)) (d.map (·.2))
 | .T f,v=>∃ a d,v = .ref a/\Rd H a (.T d)/\f.map (·.1)=d.map (·.1)/\Reps K A H (f.map (·.2)) (d.map (·.2))
 | .e,v=>Rep K A H .e v
 | .b b,v=>Rep K A H (.b b) v
 | .int b,v=>Rep K A H (.int b) v
 | .str b,v=>Rep K A H (.str b) v
 | .r b,v=>Rep K A H (.r b) v
 | .t b,v=>Rep K A H (.t b) v
 | .con b,v=>Rep K A H (.con b) v
 | .c b,v=>Rep K A H (.c b) v
section
variable {K:lJ}
theorem Rep.peek (h:Rep K A H d v):mO K A H d v:=by
 cases h with
 | l _ h r=>exact⟨_,_,rfl,h,r⟩
 | k _ h e r=>exact⟨_,_,rfl,h,e,r⟩
 | T _ h e r=>exact⟨_,_,rfl,h,e,r⟩
 | e=>exact .e
 | b=>exact .b _
 | int=>exact .int _
 | str=>exact .str _
 | r=>exact .r _
 | t h r=>exact .t h r
 | con h r=>exact .con h r
 | c h r=>exact .c h r
theorem oF.peek:∀ {d:D},oF K A H a d->mO K A H d (.ref a)
 | .l _,⟨b,h,r⟩=>⟨_,b,rfl,h,r⟩
 | .k _,⟨b,h,e,r⟩=>⟨_,b,rfl,h,e,r⟩
 | .T _,⟨b,h,e,r⟩=>⟨_,b,rfl,.inl h,e,r⟩
theorem mO.lst_inv (h:mO K A H (.l j) v):∃ a g,v = .ref a/\H a=some (.l g)/\Reps K A H j g:=h
theorem mO.dK_inv (h:mO K A H (.k j) v):∃ a g,v = .ref a/\H a=some (.k g)/\j.map (·.1)=g.map (·.1)/\Reps K A H (j.map (·.2)) (g.map (·.2)):=h
theorem mO.dT_inv (h:mO K A H (.T j) v):∃ a g,v = .ref a/\Rd H a (.T g)/\j.map (·.1)=g.map (·.1)/\Reps K A H (j.map (·.2)) (g.map (·.2)):=h
theorem mO.tup_inv (h:mO K A H (.t j) v):∃ a g,v = .ref a/\H a=some (.t g)/\Reps K A H j g:=Rep.tup_inv h
theorem mO.con_inv (h:mO K A H (.con j) v):∃ a g,v = .ref a/\Aw K a g/\Reps K A H j g:=Rep.con_inv h
theorem mO.scr_inv (h:mO K A H (.c j) v):∃ a g,v = .ref a/\xV K H a g/\Reps K A H j g:=Rep.scr_inv h
theorem mO.int_inv (h:mO K A H (.int i) v):v = .int i:=Rep.int_inv h
theorem mO.str_inv (h:mO K A H (.str i) v):v = .str i:=Rep.str_inv h
theorem mO.bl_inv (h:mO K A H (.b i) v):v = .b i:=Rep.bl_inv h
theorem mO.non_inv (h:mO K A H .e v):v = .e:=Rep.non_inv h
theorem mO.raw_inv (h:mO K A H (.r u) v):v=u:=Rep.raw_inv h
def at? (g:Aa Sl) (i:Nat):Ab D:=(g[i]?).bind sd
theorem DS.peek (l:g.length=j.length) (h:DS K B (g.zip j++T) H) (e:at? g i=some d):∃ v,j[i]?=some (some v)/\mO K (Al B (gD (g.zip j++T))) H d v:=by
 unfold at? at e;cases f:g[i]? with
 | none=>rw[f] at e;cases e
 | some s =>
  rw[f] at e;obtain⟨q,y,t,k,_,m,_⟩:=vJ l f;have b:=h;rw[m] at b;have:=b.ok (s,y) (by simp);rw[<- m] at this;cases s with
  | n=>cases e
  | v c=>cases e;obtain⟨v,rfl,r⟩:=this;exact⟨v,k,r.peek⟩
  | o c=>cases e;obtain⟨a,rfl,r⟩:=this;exact⟨_,k,r.peek⟩
end
noncomputable def vd (i:Nat):mK:=λ_ a b=>match a[i]? with
 | some (.v d)=>b (.v d) a
 | some (.o d)=>b (.v d) (a.set i (.v d))
 | _=>False
def cd (d:D):mK:=λ_ b a=>a (.v d) b
section
variable {X:Cx}
theorem eM (i:Nat) (h:PE X (.Name x pos) (pR i):=by exact pv _):PD X (.Name x pos) (vd i):=h.mono λL H Q z=>z.elim λB D T M w hd c k=>by
 unfold vd at c;cases e:D[i]? with
 | none=>rw[e] at c;exact c.elim
 | some s =>
  rw[e] at c;obtain⟨f,y,m,A,_,G,q⟩:=vJ w e;have b:DS X.K B (f++(s,y)::(m++T)) H:=by rw[G] at hd;simpa using hd
  cases s with
  | n=>exact c.elim
  | v d =>
   obtain⟨v,rfl,_⟩:=b.at;refine⟨v,A,k _ _ v H w ?_ c⟩;refine hd.push ?_;have:=b.valAt;rw[G];have t:gD ((f++(Sl.v d,some v)::m)++T)=gD (f++(m++T)):=by
    rw[bP,cX,J2]
   rw[t];exact this
  | o d =>
   obtain⟨a,rfl,_⟩:=b.at;have E:=b.freeze;have F:(D.set i (.v d)).zip L=f++(.v d,some (.ref a))::m:=by
    have:=q (.v d) (some (.ref a));rw[Bc A] at this;exact this
   have u:DS X.K B ((D.set i (.v d)).zip L++T) H:=by rw[F];simpa using E
   refine⟨.ref a,A,k _ _ _ H (by rw[bO];exact w) ?_ c⟩;refine u.push ?_;have:=E.valAt;rw[F];have t:gD ((f++(Sl.v d,some (V.ref a))::m)++T)=gD (f++(m++T)):=by
    rw[bP,cX,J2]
   rw[t];exact this
theorem F0 (h:PE X e (tC v)) (r:∀ K A H,Rep K A H d v):PD X e (cd d):=h.mono λm H Q a=>a.elim λB f T i b hd c k=>k _ f v H b (hd.push (r _ _ _)) c
theorem hI:PD X (.Constant (.int i) j pos) (cd (.int i)):=F0 mL λ_ _ _=>.int i
theorem lR:PD X (.Constant (.str x) j pos) (cd (.str x)):=F0 tS λ_ _ _=>.str x
theorem vU:PD X (.Constant (.bool x) j pos) (cd (.b x)):=F0 DQ λ_ _ _=>.b x
abbrev O2:=D->D->(Sl->Prop)->Prop
def oK (K:lJ) (r:R2) (f:O2):Prop:=∀ (B:Bs) (L:mY) (H:Hp) (d e:D) (x y:V) (b:Sl->Prop) (Q:VK),DS K B L H->mO K (Al B (gD L)) H d x->mO K (Al B (gD L)) H e y->f d e b ->
 (∀ s v a,b s->DS K B ((s,some v)::L) a->Q v a)->r x y H Q
def d2 (f:O2) (g j:mK):mK:=λc m k=>g c m λh a=>j c a λi b=>match sd h,sd i with
 | some d,some e=>f d e λr=>k r b
 | _,_=>False
theorem Ct (o:oK X.K r f) (h:dE X.K (d2 f p C) l H Q):dE X.K p l H λx j=>dE X.K C l j λy g=>r x y g Q:=by
 obtain⟨B,N,T,O,w,hd,A,k⟩:=h;refine⟨B,N,T,_,w,hd,A,λq m x j D d1 u=>⟨B,m,(q,some x)::T,_,D,d1,u,λM n y g E d2 a=>?_⟩⟩;cases b:sd q with
 | none=>rw[b] at a;exact a.elim
 | some d =>
  cases c:sd M with
  | none=>rw[b,c] at a;exact a.elim
  | some e =>
   rw[b,c] at a;obtain⟨F,G,L⟩:=d2.two b c;exact o B _ g d e x y _ Q F G.peek L.peek a λs v t z i=>k s n v t E i.mid z
def xB (f:O2) (i:Nat) (g:mK):mK:=λc b k=>(at? b i).isSome=true/\g c b λh a=>match at? a i,sd h with
 | some d,some e=>f d e λr=>k r a
 | _,_=>False
def Nz (f:O2) (g:mK) (i:Nat):mK:=λb k h=>g b k λc a=>match sd c,at? a i with
 | some d,some e=>f d e λr=>h r a
 | _,_=>False
theorem Iw (o:oK X.K r f) (h:dE X.K (xB f i p) j H Q):pR i j H λx l=>dE X.K p j l λy g=>r x y g Q:=by
 obtain⟨B,O,T,S,t,hd,⟨E,G⟩,k⟩:=h;obtain⟨P,D⟩:=cL.mp E;obtain⟨x,u,_⟩:=hd.peek t D;refine⟨x,u,B,O,T,_,t,hd,G,λN c y g w d2 a=>?_⟩;cases m:at? c i with
 | none=>rw[m] at a;exact a.elim
 | some d =>
  cases n:sd N with
  | none=>rw[m,n] at a;exact a.elim
  | some e =>
   rw[m,n] at a;obtain⟨z,M⟩:=d2.one n;obtain⟨R,b,L⟩:=z.peek w m;rw[u] at b;cases b;exact o B _ g d e x y _ Q z L M.peek a λs v A F q=>k s c v A w q.mid F
theorem Wv (o:oK X.K r f) (h:dE X.K (Nz f p i) j H Q):dE X.K p j H λx g=>pR i j g λy l=>r x y l Q:=by
 obtain⟨B,G,T,L,w,hd,A,k⟩:=h;refine⟨B,G,T,_,w,hd,A,λF b x g q d1 a=>?_⟩;cases c:sd F with
 | none=>rw[c] at a;exact a.elim
 | some d =>
  cases m:at? b i with
  | none=>rw[c,m] at a;exact a.elim
  | some e =>
   rw[c,m] at a;obtain⟨t,E⟩:=d1.one c;obtain⟨y,D,py⟩:=t.peek q m;exact⟨y,D,o B _ g d e x y _ Q t E.peek py a λs v u z n=>k s b v u q n.mid z⟩
theorem nZ (o:mE X (binaryOp op) r) (l:oK X.K r f) (i:Nat) (j:PD X b p) (g:PE X a (pR i):=by exact pv _):PD X (.BinOp a op b pos) (xB f i p):=(mJ o g j).mono λ_ _ _ h=>Iw l h
theorem nC (o:mE X (binaryOp op) r) (l:oK X.K r f) (g:PD X a p) (j:PD X b C):PD X (.BinOp a op b pos) (d2 f p C):=(mJ o g j).mono λ_ _ _ h=>Ct l h
theorem Cn (p:mE X (compareOp op) r) (l:oK X.K r f) (g:PD X a C) (j:PD X b I) (o:behindInMarks op b=false:=by first | exact vE _ | (with_unfolding_all rfl)):PD X (.Compare a [op] [b] pos) (d2 f C I) :=
 (Vq p g j o).mono λ_ _ _ h=>Ct l h
def Aq (t:mK):qO:=λc e d=>t c e λr a=>match r with
 | .v (.b b)=>d b a
 | _=>False
theorem G8 (h:tI X.K (Aq t) j H Q):dE X.K t j H λx g=>∃ k,x = .b k/\Q k g:=by
 obtain⟨B,m,T,q,e,hd,f,k⟩:=h;refine⟨B,m,T,_,e,hd,f,λr c v g i d1 a=>?_⟩;cases r with
 | n=>exact a.elim
 | o d=>exact a.elim
 | v d =>
  cases d with
  | b b=>exact⟨b,d1.valAt.bl_inv,k b c g i d1.drop a⟩
  | _=>exact a.elim
theorem yM (p:mE X (compareOp op) r) (l:oK X.K r f) (g:PE X a (pR i)) (j:PD X b C) (o:behindInMarks op b=false:=by first | exact vE _ | (with_unfolding_all rfl)):rN X (.Compare a [op] [b] pos) (Aq (xB f i C)) :=
 (uO p g j o).mono λc H Q h=>Iw l (G8 h)
theorem Uu (p:mE X (compareOp op) r) (l:oK X.K r f) (g:PD X a C) (j:PE X b (pR i)) (o:behindInMarks op b=false:=by first | exact vE _ | (with_unfolding_all rfl)):rN X (.Compare a [op] [b] pos) (Aq (Nz f C i)) :=
 (uO p g j o).mono λc H Q h=>Wv l (G8 h)
theorem wJ (p:mE X (compareOp op) r) (l:oK X.K r f) (g:PD X a C) (j:PD X b I) (o:behindInMarks op b=false:=by first | exact vE _ | (with_unfolding_all rfl)):rN X (.Compare a [op] [b] pos) (Aq (d2 f C I)) :=
 (uO p g j o).mono λc H Q h=>by
  have:=G8 h;exact Ct l this
end
section
variable [DecidableEq κ]
noncomputable def pG (g:Aa (κ×D)) (k:κ):Ab D:=(g.find? λa=>decide (a.1=k)).map (·.2)
noncomputable def pM (g:Aa (κ×D)) (k:κ) (d:D):Aa (κ×D):=if g.any (λa=>decide (a.1=k)) then g.map (λa=>if a.1=k then (a.1,d) else a) else g++[(k,d)]
theorem GS:pG ([]:Aa (κ×D)) k=none:=rfl
theorem Dz {k j:κ}{d:D}{r:Aa (κ×D)}:pG ((j,d)::r) k=if j=k then some d else pG r k:=by
 unfold pG;rw[List.find?_cons];by_cases h:j=k<;>simp[h]
theorem Jv (k:κ):∀ g:Aa (κ×D),(g.any λl=>decide (l.1=k))=(pG g k).isSome
 | []=>rfl
 | (j,d)::r=>by
  rw[Dz,eX,Jv k r];by_cases h:j=k<;>simp[h]
end
section
variable [DecidableEq κ] {K:lJ}
theorem Fc:∀ {l:Aa (κ×D)}{g:Aa (κ×V)},l.map (·.1)=g.map (·.1)->Reps K A H (l.map (·.2)) (g.map (·.2))->∀ k,(∀ d,pG l k=some d->∃ v,qS g k=some v/\Rep K A H d v)/\(pG l k=none->qS g k=none)
 | [],[],_,_,k=>⟨λd h=>by simp[GS] at h,λ_=>rfl⟩
 | [],_::_,e,_,_=>by simp at e
 | _::_,[],e,_,_=>by simp at e
 | (i,d)::l,(j,v)::g,e,r,k=>by
  simp only[aZ,gY] at e;obtain⟨a,b⟩:=e;subst a;cases r with
  | cons h r =>
   have c:=Fc b r k;rw[Dz];by_cases z:i=k
   .rw[bA z,Dx z];exact⟨λf q=>by cases q;exact⟨v,rfl,h⟩,λq=>by cases q⟩
   .rw[bF z,Fg z];exact c
theorem Kf {o:Aa (κ×D)}{l:Aa (κ×V)}(e:o.map (·.1)=l.map (·.1)) (r:Reps K A H (o.map (·.2)) (l.map (·.2))){k:κ}{d:D}{v:V}(h:Rep K A H d v) :
  (pM o k d).map (·.1)=(pZ l k v).map (·.1)/\Reps K A H ((pM o k d).map (·.2)) ((pZ l k v).map (·.2)):=by
 have m:∀ (o:Aa (κ×D)) (l:Aa (κ×V)),o.map (·.1)=l.map (·.1)->(o.any λa=>decide (a.1=k))=l.any λa=>decide (a.1=k):=by
  intro o;induction o with
  | nil=>intro l e;cases l with
   | nil=>rfl
   | cons _ _=>simp at e
  | cons p o b=>intro l e;cases l with
   | nil=>simp at e
   | cons q l =>
    simp only[aZ,gY] at e;rw[eX,eX,b l e.2,e.1]
 have n:∀ (o:Aa (κ×D)) (l:Aa (κ×V)),o.map (·.1)=l.map (·.1)->Reps K A H (o.map (·.2)) (l.map (·.2)) ->
   (o.map λa=>if a.1=k then (a.1,d) else a).map (·.1)=(l.map λa=>if a.1=k then (a.1,v) else a).map (·.1) /\
   Reps K A H ((o.map λa=>if a.1=k then (a.1,d) else a).map (·.2)) ((l.map λa=>if a.1=k then (a.1,v) else a).map (·.2)):=by
  intro o;induction o with
  | nil=>intro l e r;cases l with
   | nil=>exact⟨rfl,.nil⟩
   | cons _ _=>simp at e
  | cons p o b=>intro l e r;cases l with
   | nil=>simp at e
   | cons q l =>
    simp only[aZ,gY] at e;cases r with
    | cons g r =>
     obtain⟨c,f⟩:=b l e.2 r;obtain⟨i,s⟩:=p;obtain⟨j,v0⟩:=q;obtain⟨rfl,t⟩:=e;by_cases z:i=k
     .simp only[aZ,z,eV];exact⟨by rw[c],.cons h f⟩
     .simp only[aZ,z,eZ];exact⟨by rw[c],.cons g f⟩
 unfold pM pZ;rw[m o l e];by_cases z:(l.any λa=>decide (a.1=k))=true
 .rw[bA z,bA z];exact n o l e r
 .rw[bF z,bF z];simp only[aY,aZ,kX];exact⟨by rw[e],r.append (.cons h .nil)⟩
end
section
variable {X:Cx}{K:lJ}
def Qc (K:lJ):R2:=λx y H Q=>∃ a b c,x = .ref a/\y = .ref b/\mH K H a []/\mH K H b c/\Q (.ref b) H
theorem EJ:mE X (binaryOp .Add) (Qc X.K):=by
 intro w s Y H x y v u Q I N O h;obtain⟨a,b,W,rfl,rfl,B,D,q⟩:=h;cases N;cases O;obtain⟨E,M,G,_⟩:=I.tuple B;obtain⟨t,V,L,_⟩:=I.tuple D;cases M;obtain⟨⟨P,A,S,sl⟩,m,k,n,hd⟩:=id G;obtain⟨⟨R,f,z,i⟩,e,c,F,d⟩:=id L;simp only at k hd c d;subst k hd c d;exact concat_meets ⟨_,m,rfl⟩ ⟨_,e,rfl⟩ noFill_tuple_add seq_tuple_add jD iY (iP _ _)
  (tuple_addW0 a b _ _ n F A f sl i (by simp)) ⟨m,e,⟨.ref b,H,I,rfl,q⟩⟩
def Ks (K:lJ):R2:=λx y H Q=>(rA λi j=>.int (i+j)) x y H Q\/(∃ i j,x = .str i/\y = .str j/\i.length+j.length<=sizeLine/\Q (.str (i++j)) H)\/Rp x y H Q\/Om K x y H Q\/Qc K x y H Q
theorem mR:mE X (binaryOp .Add) (Ks X.K):=vQ.or (vI.or (zS.or (GG.or EJ)))
theorem xQ (h:n<=100000):n<=sizeLine:=bX h (by decide)
def CH:O2
 | .int i,.int j,a=>a (.v (.int (i+j)))
 | .str i,.str j,a=>i.length+j.length<=100000/\a (.v (.str (i++j)))
 | .l b,.l c,a=>b.length+c.length<=100000/\a (.o (.l (b++c)))
 | .t b,.t c,a=>b.length+c.length<=100000/\a (.v (.t (b++c)))
 | _,_,_=>False
theorem mS:oK K (Ks K) CH:=by
 intro B L H d e x y A Q hd n s c k;cases d<;>first | exact False.elim c | skip<;>cases e<;>first | exact False.elim c | skip
 .cases n;cases s;exact .inl ⟨_,_,rfl,rfl,k _ _ H c (hd.pushF (.int _))⟩
 .cases n;cases s;exact .inr (.inl ⟨_,_,rfl,rfl,xQ c.1,k _ _ H c.2 (hd.pushF (.str _))⟩)
 .obtain⟨a,m,rfl,t,f⟩:=n.tup_inv;obtain⟨b,i,rfl,u,h⟩:=s.tup_inv;have v:m.length+i.length<=100000:=by rw[<- f.length,<- h.length];exact c.1
  by_cases z:m=[]
  .subst z;have:=f.nil_iff.mp rfl;subst this;exact .inr (.inr (.inr (.inr ⟨a,b,i,rfl,rfl,mH.of t,mH.of u,k _ _ H c.2 (hd.pushF s)⟩)))
  .refine .inr (.inr (.inr (.inl ⟨a,b,m,i,rfl,rfl,mH.of t,mH.of u,z,xQ v,λq=>?_,λ_ p w=>k _ _ _ c.2 (hd.tupF w (f.append h))⟩)));subst q;have:=h.nil_iff.mp rfl;subst this;exact k _ _ H c.2 (by rw[eP];exact hd.pushF n)
 .obtain⟨a,m,rfl,t,f⟩:=n.lst_inv;obtain⟨b,i,rfl,u,h⟩:=s.lst_inv;have v:m.length+i.length<=100000:=by rw[<- f.length,<- h.length];exact c.1
  exact .inr (.inr (.inl ⟨a,b,m,i,rfl,rfl,t,u,xQ v,λp w=>k _ _ _ c.2 (hd.lstF w (f.append h))⟩))
def fI (C:Int->Int->Prop) (g:Int->Int->D):O2
 | .int i,.int j,a=>C i j/\a (.v (g i j))
 | _,_,_=>False
theorem V0 (p:∀ i j,C i j->l i j) (r:∀ A H i j,Rep K A H (g i j) (o i j)):oK K (rI l o) (fI C g):=by
 intro B L H d e x y f Q hd b c a k;cases d<;>first | exact False.elim a | skip<;>cases e<;>first | exact False.elim a | skip
 cases b;cases c;exact⟨_,_,rfl,rfl,p _ _ a.1,k _ _ H a.2 (hd.pushF (r _ _ _ _))⟩
def xZ (g:Int->Int->D):O2
 | .int i,.int j,a=>a (.v (g i j))
 | _,_,_=>False
theorem Bj (o:∀ A H i j,Rep K A H (g i j) (l i j)):oK K (rA l) (xZ g):=by
 intro B L H d e x y f Q hd b c a k;cases d<;>first | exact False.elim a | skip<;>cases e<;>first | exact False.elim a | skip
 cases b;cases c;exact⟨_,_,rfl,rfl,k _ _ H a (hd.pushF (o _ _ _ _))⟩
abbrev Sh:O2:=xZ λi j=>.int (i-j)
theorem uA:oK K (rA λi j=>.int (i-j)) Sh:=Bj λ_ _ _ _=>.int _
def Km:R2:=λx y H Q=>(rI Dc λi j=>.int (i*j)) x y H Q\/Mg x y H Q
theorem wZ:mE X (binaryOp .Mult) Km:=vM.or BF
def Yd:O2
 | .int i,.int j,a=>((-(2 ^ 64)<i/\i<2 ^ 64)\/(-(2 ^ 64)<j/\j<2 ^ 64))/\a (.v (.int (i*j)))
 | .l b,.int k,a=>0<=k/\k<=1000/\b.length<=100/\a (.o (.l (List.replicate k.toNat b).flatten))
 | _,_,_=>False
theorem Pe (r:Reps K A H g j):∀ k:Nat,Reps K A H (List.replicate k g).flatten (List.replicate k j).flatten
 | 0=>.nil
 | k+1=>by rw[cB,cB,fB,fB];exact r.append (Pe r k)
theorem xS:oK K Km Yd:=by
 intro B L H d e x y w Q hd h i b k;cases d<;>first | exact False.elim b | skip<;>cases e<;>first | exact False.elim b | skip
 .cases h;cases i;exact .inl ⟨_,_,rfl,rfl,b.1,k _ _ H b.2 (hd.pushF (.int _))⟩
 .cases i
  rename_i n
  obtain⟨a,m,rfl,q,f⟩:=h.lst_inv;obtain⟨u,v,s,b⟩:=b;have c:m.length<=100:=by rw[<- f.length];exact s
  refine .inr ⟨a,n,m,rfl,rfl,q,by omega,by omega,bX (iE c (show n.toNat<=1000 by omega)) (by decide),λp t=>?_⟩;exact k _ _ _ b (hd.lstF t (Pe f _))
theorem FM {j:Int}(g:0<j) (h:j<2 ^ 64):j.natAbs.log2<9000:=by
 have:j.natAbs<2 ^ 64:=by omega
 exact aR ((Nat.log2_lt (by omega)).mpr this) (by decide)
theorem Yj:mE X (binaryOp .FloorDiv) (rI (λ_ j=>0<j/\j<2 ^ 64) λi j=>.int (i/j)):=Ff λi j _ _ _ _ _ a q=>by
 refine floordiv_int (by omega) ?_ (.inl (PyProof.noPylong_of_log2 (FM a.1 a.2)));rw[Int.fdiv_eq_ediv_of_nonneg _ (by omega)];exact q
abbrev Vx:O2:=fI (λ_ j=>0<j) λi j=>.int (i%j)
theorem Th:oK K (rI (λ_ j=>0<j) λi j=>.int (i%j)) Vx:=V0 (λ_ _ h=>h) λ_ _ _ _=>.int _
abbrev Sq:O2:=xZ λi j=>.b (decide (i<j))
theorem Ob:oK K (rA λi j=>.b (decide (i<j))) Sq:=Bj λ_ _ _ _=>.b _
abbrev T1:O2:=xZ λi j=>.b (decide (i<=j))
theorem BR:oK K (rA λi j=>.b (decide (i<=j))) T1:=Bj λ_ _ _ _=>.b _
abbrev DL:O2:=xZ λi j=>.b (decide (j<i))
theorem Jk:oK K (rA λi j=>.b (decide (j<i))) DL:=Bj λ_ _ _ _=>.b _
abbrev FQ:O2:=xZ λi j=>.b (decide (j<=i))
theorem K6:oK K (rA λi j=>.b (decide (j<=i))) FQ:=Bj λ_ _ _ _=>.b _
end
noncomputable def rE:D->Ab lL
 | .int i=>some (.inl i)
 | .str x=>some (.inr x)
 | _=>none
def xE:Aa D->Ab (Aa lL)
 | []=>some []
 | d::a=>match rE d,xE a with
  | some k,some b=>some (k::b)
  | _,_=>none
noncomputable def nb (neg b:Bool):Bool:=if neg then !b else b
section
variable {X:Cx}{K:lJ}
theorem Ap (h:rE d=some k) (r:mO K A H d v):v=kV k:=by
 cases d<;>cases h
 .exact r.int_inv
 .exact r.str_inv
theorem Mn (h:xE g=some j) (l:Reps K A H g o):o=j.map kV:=by
 induction g generalizing j o with
 | nil=>cases l;cases h;rfl
 | cons d g c =>
  cases l with
  | cons r l =>
  have h:=(show (match rE d,xE g with | some k,some j=>some (k::j) | _,_=>none)=some j from h);cases a:rE d with
  | none=>rw[a] at h;cases h
  | some k =>
   cases b:xE g with
   | none=>rw[a,b] at h;cases h
   | some e =>
    rw[a,b] at h;cases h;rw[Ap a r.peek,c b l];rfl
def vC:D->D->Ab (Ab D)
 | .k a,d=>(rE d).map (pG a)
 | .T a,.t b=>(xE b).map (pG a)
 | _,_=>none
theorem Gv (h:vC d e=some o) (g:mO K A H d x) (j:mO K A H e y):∃ a w,x = .ref a/\tP H a y w/\(∀ c,o=some c->∃ v,w=some v/\Rep K A H c v)/\(o=none->w=none):=by
 cases d with
 | k q =>
  obtain⟨a,D,rfl,i,f,z⟩:=g.dK_inv;obtain⟨k,n,rfl⟩:=cC.mp h;rw[Ap n j];obtain⟨s,u⟩:=Fc f z k;exact⟨a,_,rfl,tP.k i,λc m=>s c m,u⟩
 | T q =>
  obtain⟨a,D,rfl,i,f,z⟩:=g.dT_inv;cases e with
  | t G =>
   obtain⟨b,F,rfl,B,E⟩:=j.tup_inv;obtain⟨k,n,rfl⟩:=cC.mp h;rw[Mn n E] at B;obtain⟨s,u⟩:=Fc f z k;exact⟨a,_,rfl,.inr ⟨D,k,b,i,rfl,B,rfl⟩,λc m=>s c m,u⟩
  | _=>cases h
 | _=>cases h
def Rq:R2:=λx y H Q=>∃ a v,x = .ref a/\tP H a y (some v)/\Q v H
theorem BI (j:X.A.units+1<cLine):tE X Rq:=by
 intro value slice b s m H x y v u Q I i k h f;obtain⟨a,w,rfl,g,q⟩:=h;cases i;unfold subscriptTail;refine aA ?_;rw[getitemInPython_of_ne (O8 I g).not_modules];refine aA (wpAny_specialOf (O8 I g) PySem.F.slot_dict_getitem.lookup ?_);have fin:wpAny (model X.prog X.w) X.A (subscripted slice false (.ref a) u) (λr c=>wpAny (model X.prog X.w) X.A (letTemporaryGo value (.ref a) r >>= λ_=>pure r) (EP X b m Q) X.xe c) X.xe s:=by
  rw[f];exact wpAny_operating (FS j I g k λt n e d=>aA (wpAny_letTemporaryGo (aE ⟨w,H,e,d,q⟩)))
 first
  | exact aE (aA fin)
  | exact aA (aE (aA fin))
  | exact aA fin
def Iu (K:lJ):R2:=λx y H Q=>O4 K x y H Q\/Rq x y H Q
theorem Ot (g:X.A.units+1<cLine):tE X (Iu X.K):=BJ.or (BI g)
def Jb:O2:=λd e b=>match d,e with
 | .l a,.int i=>∃ c,mQ a i=some c/\b (.v c)
 | .t a,.int i=>∃ c,mQ a i=some c/\b (.v c)
 | .con a,.int i=>∃ c,mQ a i=some c/\b (.v c)
 | .c a,.int i=>∃ c,mQ a i=some c/\b (.v c)
 | .str z,.int i=>z.length<=100000/\∃ c,mQ z.cps.toList i=some c/\b (.v (.str ⟨#[c]⟩))
 | d,e=>∃ c,vC d e=some (some c)/\b (.v c)
theorem Fu (r:Reps K A H g l) (h:mQ g i=some c):∃ v,mQ l i=some v/\Rep K A H c v:=by
 unfold mQ at h |-;rw[<- r.length];cases e:rC g.length i with
 | none=>rw[e] at h;cases h
 | some j =>
  rw[e] at h;obtain⟨v,a,b⟩:=r.get (i:=j) h;exact⟨v,a,b⟩
theorem Nu:oK K (Iu K) Jb:=by
 intro B L H d e x y D Q hd t u b k;have f:(∃ c,vC d e=some (some c)/\D (.v c))->Iu K x y H Q:=λz=>by
  obtain⟨c,h,b⟩:=z;obtain⟨a,w,rfl,g,i,_⟩:=Gv h t u;obtain⟨v,rfl,m⟩:=i c rfl;exact .inr ⟨a,v,rfl,g,k _ _ H b (hd.pushF m)⟩
 cases d<;>first | exact f b | skip
 .cases e<;>first | exact f b | skip
  cases u;cases t;obtain⟨A,c,h,b⟩:=b;exact .inl (.inr (.inr ⟨_,_,c,rfl,rfl,xQ A,h,k _ _ H b (hd.pushF (.str _))⟩))
 .obtain⟨a,s,rfl,i,q⟩:=t.tup_inv;cases e<;>first | exact f b | skip
  cases u;obtain⟨c,h,b⟩:=b;obtain⟨v,n,m⟩:=Fu q h;exact .inl (.inr (.inl ⟨a,s,_,v,rfl,rfl,mH.of i,n,k _ _ H b (hd.pushF m)⟩))
 .obtain⟨a,s,rfl,i,q⟩:=t.lst_inv;cases e<;>first | exact f b | skip
  cases u;obtain⟨c,h,b⟩:=b;obtain⟨v,n,m⟩:=Fu q h;exact .inl (.inl ⟨a,s,_,v,rfl,rfl,gV.of i,n,k _ _ H b (hd.pushF m)⟩)
 .obtain⟨a,s,rfl,i,q⟩:=t.scr_inv;cases e<;>first | exact f b | skip
  cases u;obtain⟨c,h,b⟩:=b;obtain⟨v,n,m⟩:=Fu q h;exact .inl (.inl ⟨a,s,_,v,rfl,rfl,i.sqL,n,k _ _ H b (hd.pushF m)⟩)
 .obtain⟨a,s,rfl,i,q⟩:=t.con_inv;cases e<;>first | exact f b | skip
  cases u;obtain⟨c,h,b⟩:=b;obtain⟨v,n,m⟩:=Fu q h;exact .inl (.inr (.inl ⟨a,s,_,v,rfl,rfl,i.sqT,n,k _ _ H b (hd.pushF m)⟩))
theorem zT (o:X.A.units+1<cLine) (g:PD X a p) (j:PD X b r) (l:Jp b:=by exact λ_ _=>rfl):PD X (.Subscript a b pos) (d2 Jb p r) :=
 (oM (Ot o) g j l).mono λ_ _ _ h=>Ct Nu h
def Qp (neg:Bool):R2:=λy x H Q=>∃ a o,x = .ref a/\tP H a y o/\Q (.b (nb neg o.isSome)) H
theorem Wb (j:X.A.units+1<cLine):mE X (compareOp .NotIn) (Qp true):=by
 intro c s k H x y v u Q I e f h;obtain⟨a,o,rfl,g,q⟩:=h;cases f;exact Zu j I g e λi d=>⟨.b (!o.isSome),H,d,rfl,q⟩
def Og (neg:Bool):R2:=λx y H Q=>∃ i j,x = .str i/\y = .str j/\Q (.b (nb neg (!(Builtin.Str.occurrences j i 0 j.length 1).isEmpty))) H
def E5 (K:lJ) (neg:Bool):R2:=λx y H Q=>Dr K neg x y H Q\/Og neg x y H Q\/Qp neg x y H Q
theorem Xn (g:X.A.units+1<cLine):mE X (compareOp .NotIn) (E5 X.K true):=S4.or ((show mE X (compareOp .NotIn) (Og true) from Zz).or (Wb g))
noncomputable def vB:D->Ab V
 | .e=>some .e
 | .b b=>some (.b b)
 | .int i=>some (.int i)
 | .str x=>some (.str x)
 | _=>none
def xO:Aa D->Ab (Aa V)
 | []=>some []
 | d::a=>match vB d,xO a with
  | some v,some b=>some (v::b)
  | _,_=>none
theorem L5 {l:Type}{f:l->D}{g:l->V}(h:∀ x,vB (f x)=some (g x)):∀ j:Aa l,xO (j.map f)=some (j.map g)
 | []=>rfl
 | x::j=>by
  show (match vB (f x),xO (j.map f) with | some v,some a=>some (v::a) | _,_=>none)=_;rw[h x,L5 h j];rfl
theorem Ej (h:vB d=some u) (r:mO K A H d v):v=u/\qB u=true:=by
 cases d<;>cases h<;>cases r<;>exact⟨rfl,rfl⟩
theorem S0 (h:xO g=some l) (j:Reps K A H g o):o=l/\l.all qB=true:=by
 induction g generalizing l o with
 | nil=>cases j;cases h;exact⟨rfl,rfl⟩
 | cons d g m =>
  cases j with
  | cons r j =>
  have h:=(show (match vB d,xO g with | some v,some o=>some (v::o) | _,_=>none)=some l from h);cases a:vB d with
  | none=>rw[a] at h;cases h
  | some k =>
   cases b:xO g with
   | none=>rw[a,b] at h;cases h
   | some n =>
    rw[a,b] at h;cases h;obtain⟨c,e⟩:=Ej a r.peek;obtain⟨f,i⟩:=m b j;exact⟨by rw[c,f],by rw[List.all_cons,e,i];rfl⟩
def Fs (neg:Bool) (d:D) (g:Aa D) (j:Sl->Prop):Prop:=∃ v a,vB d=some v/\xO g=some a/\j (.v (.b (nb neg (sI v a))))
def AX (neg:Bool):O2:=λd e c=>match e with
 | .l a=>Fs neg d a c
 | .t a=>Fs neg d a c
 | .con a=>Fs neg d a c
 | .str j=>∃ i,d = .str i/\c (.v (.b (nb neg (!(Builtin.Str.occurrences j i 0 j.length 1).isEmpty))))
 | e=>∃ o,vC e d=some o/\c (.v (.b (nb neg o.isSome)))
theorem DE (neg:Bool):oK K (E5 K neg) (AX neg):=by
 intro B L H d e x y G Q hd E s h k;have seq:∀ (a:Ad) (F:Aa D) (t:Aa V),Fs neg d F G->y = .ref a->(gV K H a t\/mH K H a t)->Reps K (Al B (gD L)) H F t->E5 K neg x y H Q:=by
  rintro a F t ⟨v,m,f,z,M⟩ rfl O r;obtain⟨P,R⟩:=Ej f E;obtain⟨S,W⟩:=S0 z r;subst P S;exact .inl ⟨a,t,rfl,O,R,W,k _ _ H M (hd.pushF (.b _))⟩
 have u:(∃ o,vC e d=some o/\G (.v (.b (nb neg o.isSome))))->E5 K neg x y H Q:=λA=>by
  obtain⟨o,N,h⟩:=A;obtain⟨a,w,rfl,g,f,z⟩:=Gv N s E;have e:o.isSome=w.isSome:=by
   cases o with
   | none=>rw[z rfl];rfl
   | some c=>obtain⟨v,rfl,_⟩:=f c rfl;rfl
  exact .inr (.inr ⟨a,w,rfl,g,by rw[<- e];exact k _ _ H h (hd.pushF (.b _))⟩)
 cases e<;>first | exact u h | skip
 .obtain⟨i,rfl,h⟩:=h;cases E;cases s;exact .inr (.inl ⟨_,_,rfl,rfl,k _ _ H h (hd.pushF (.b _))⟩)
 .obtain⟨a,m,n,f,q⟩:=s.tup_inv;exact seq a _ m h n (.inr (mH.of f)) q
 .obtain⟨a,m,n,f,q⟩:=s.lst_inv;exact seq a _ m h n (.inl (gV.of f)) q
 .obtain⟨a,m,n,f,q⟩:=s.con_inv;exact seq a _ m h n (.inr f.sqT) q
end
mutual
def py:D->PyData
 | .e=>.none
 | .b b=>.bool b
 | .int i=>.int i
 | .str x=>.str x
 | .t a=>.tuple (rP a)
 | .l a=>.list (rP a)
 | .con a=>.tuple (rP a)
 | .c a=>.list (rP a)
 | _=>.none
def rP:Aa D->Aa PyData
 | []=>[]
 | d::a=>py d::rP a
end
mutual
def nX:D->Bool
 | .e=>true
 | .b _=>true
 | .int _=>true
 | .str x=>PyData.strOk x
 | .t a=>tM a
 | .l a=>tM a
 | .con a=>tM a
 | .c a=>tM a
 | _=>false
def tM:Aa D->Bool
 | []=>true
 | d::a=>nX d&&tM a
end
section
variable {X:Cx}{K:lJ}
mutual
theorem Nl:∀ {d:D}{v:V},Rep K A H d v->nX d=true->DatV K H v (py d)
 | _,_,.e,_=>.e
 | _,_,.b b,_=>.b b
 | _,_,.int i,_=>.int i
 | _,_,.str x,_=>.str x
 | _,_,.r v,e=>by simp[nX] at e
 | _,_,.t h r,e=>.t (mH.of h) (yR r (by simpa [nX] using e))
 | _,_,.con h r,e=>.t h.sqT (yR r (by simpa [nX] using e))
 | _,_,.l _ h r,e=>.l (gV.of h) (yR r (by simpa [nX] using e))
 | _,_,.c h r,e=>.l h.sqL (yR r (by simpa [nX] using e))
 | _,_,.k _ _ _ _,e=>by simp[nX] at e
 | _,_,.T _ _ _ _,e=>by simp[nX] at e
theorem yR:∀ {g:Aa D}{j:Aa V},Reps K A H g j->tM g=true->DatVs K H j (rP g)
 | _,_,.nil,_=>.nil
 | _,_,.cons h r,e=>by
  rw[tM,bS] at e;exact .cons (Nl h e.1) (yR r e.2)
end
theorem M3 (h:mO K A H d v) (e:nX d=true):DatV K H v (py d):=by
 cases d with
 | l _=>obtain⟨a,b,rfl,h,r⟩:=h.lst_inv;exact .l (gV.of h) (yR r (by simpa [nX] using e))
 | k _=>simp[nX] at e
 | T _=>simp[nX] at e
 | _=>exact Nl h e
mutual
theorem Jj:∀ {d:D},nX d=true->(py d).canLay0=true
 | .e,_=>rfl
 | .b _,_=>rfl
 | .int _,_=>rfl
 | .str x,e=>by simpa [py,PyData.canLay0,nX] using e
 | .t a,e=>by simp only[py,PyData.canLay0];exact A3 (by simpa [nX] using e)
 | .con a,e=>by simp only[py,PyData.canLay0];exact A3 (by simpa [nX] using e)
 | .l a,e=>by simp only[py,PyData.canLay0];exact A3 (by simpa [nX] using e)
 | .c a,e=>by simp only[py,PyData.canLay0];exact A3 (by simpa [nX] using e)
 | .r _,e=>by simp[nX] at e
 | .k _,e=>by simp[nX] at e
 | .T _,e=>by simp[nX] at e
theorem A3:∀ {g:Aa D},tM g=true->PyData.canLayAll0 (rP g)=true
 | [],_=>rfl
 | d::g,e=>by
  rw[tM,bS] at e;simp only[rP,PyData.canLayAll0,Jj e.1,A3 e.2,Bool.and_self]
end
def F7 (v:Bool):R2:=λx y H Q=>∃ (a b:Ad) (c d:Aa (lL×V)),x = .ref a/\y = .ref b/\H a=some (.k c)/\H b=some (.k d)/\c.length=d.length /\
 (∀ p∈c,∃ w,qS d p.1=some w/\qB p.2=true/\qB w=true/\oE p.2 w=true)/\Q (.b v) H
theorem Mo {A:Around}{s:Ae}{g:Aa (lL×V)}{o:Aa (lL×Ac)}(C:KV g o) (r:Aa (lL×V)) (j:Aa (lL×Ac)) (h:KV r j)
  (l:∀ p∈r,∃ w,qS g p.1=some w/\qB p.2=true/\qB w=true/\oE p.2 w=true):PySem.W.KeqHits A s o j true:=by
 induction h with
 | nil=>exact .nil
 | @cons a b r j m B q =>
  obtain⟨k,v⟩:=a;obtain⟨t,z⟩:=b;obtain⟨e,u⟩:=m;have e:k=t:=e;subst e;obtain⟨w,hw,f1,f2,i⟩:=l (k,v) aH;have d:=C.val k;rw[hw] at d;obtain⟨y,f,x⟩:=d.some_of;have c:SeqAt.EqAt A s z y (oE v w):=Qu u x f1 f2;rw[i] at c;have:=PySem.W.KeqHits.hit f c (q λp n=>l p (aN _ n));rw[Bool.true_and] at this;exact this
theorem GV (g:X.A.units<cLine):mE X (compareOp .Eq) (F7 true):=by
 intro e s L H x y v u Q I D E h;obtain⟨a,b,d,B,rfl,rfl,t,w,c,z,q⟩:=h;cases D;cases E;obtain⟨G,d1,k,f,m⟩:=zN I.hok t;obtain⟨K,d2,F,i,n⟩:=zN I.hok w;have c:k.length=F.length:=by rw[<- f.length,<- i.length];exact c
 refine PySem.W.keq_eq d1 d2 m n g (λ_=>Mo i d k f z) ⟨.b _,H,I,rfl,?_⟩;rw[c];simpa using q
theorem Yx (g:X.A.units<cLine):mE X (compareOp .NotEq) (F7 false):=by
 intro e s L H x y v u Q I D E h;obtain⟨a,b,d,B,rfl,rfl,t,w,c,z,q⟩:=h;cases D;cases E;obtain⟨G,d1,k,f,m⟩:=zN I.hok t;obtain⟨K,d2,F,i,n⟩:=zN I.hok w;have c:k.length=F.length:=by rw[<- f.length,<- i.length];exact c
 refine PySem.W.keq_ne d1 d2 m n g (λ_=>Mo i d k f z) ⟨.b _,H,I,rfl,?_⟩;rw[c];simpa using q
def Bb (neg:Bool):R2:=λx y H Q=>Kc x y=true/\Q (.b (nb neg (decide (x=y)))) H
def Hd (K:lJ) (neg:Bool):R2:=λx y H Q=>Bb neg x y H Q\/Ex K neg x y H Q\/F7 (!neg) x y H Q\/Gx K neg x y H Q
theorem Df (g:X.A.units+64<cLine):mE X (compareOp .Eq) (Hd X.K false):=(show mE X (compareOp .Eq) (Bb false) from Dt).or ((Hu g).or ((GV (by omega)).or (FV g)))
theorem El (g:X.A.units+64<cLine):mE X (compareOp .NotEq) (Hd X.K true):=(show mE X (compareOp .NotEq) (Bb true) from Rz).or ((Q4 g).or ((Yx (by omega)).or (BC g)))
def N4 (g j:Aa (lL×D)):Prop:=g.length=j.length/\∀ p∈g,∃ e v w,pG j p.1=some e/\vB p.2=some v/\vB e=some w/\oE v w=true
def zM (neg:Bool):O2:=λd e a=>match d,e with
 | .int i,.int j=>a (.v (.b (nb neg (decide (i=j)))))
 | .str i,.str j=>a (.v (.b (nb neg (decide (i=j)))))
 | .b i,.b j=>a (.v (.b (nb neg (decide (i=j)))))
 | .l c,.l []=>a (.v (.b (nb neg c.isEmpty)))
 | .k c,.k f=>N4 c f/\a (.v (.b (!neg)))
 | d,e=>nX d=true/\nX e=true/\min (py d).depth (py e).depth<=60/\a (.v (.b (nb neg (PyData.eqv (py d) (py e)))))
theorem X5 {l C:Aa (lL×D)}{j o:Aa (lL×V)}(h:N4 l C) (I:l.map (·.1)=j.map (·.1)) (T:Reps K A H (l.map (·.2)) (j.map (·.2))) (J:C.map (·.1)=o.map (·.1)) (U:Reps K A H (C.map (·.2)) (o.map (·.2))) :
  j.length=o.length/\∀ p∈j,∃ w,qS o p.1=some w/\qB p.2=true/\qB w=true/\oE p.2 w=true:=by
 refine⟨by have a:=cN List.length I;have b:=cN List.length J;have c:=h.1;simp only[aB] at a b;omega,λp d=>?_⟩;have:∀ (l:Aa (lL×D)) (j:Aa (lL×V)),l.map (·.1)=j.map (·.1)->Reps K A H (l.map (·.2)) (j.map (·.2))->p∈j->∃ q∈l,q.1=p.1/\Rep K A H q.2 p.2:=by
  intro l;induction l with
  | nil=>intro j e _ d;cases j with
   | nil=>cases d
   | cons _ _=>simp at e
  | cons q l x=>intro j e r d;cases j with
   | nil=>cases d
   | cons k j =>
    simp only[aZ,gY] at e;cases r with
    | cons g r =>
     rcases aF.mp d with z | z
     .subst z;exact⟨q,aH,e.1,g⟩
     .obtain⟨y,f,m⟩:=x j e.2 r z;exact⟨y,aN _ f,m⟩
 obtain⟨q,u,i,B⟩:=this l j I T d;obtain⟨e,v,w,f,m,s,t⟩:=h.2 q u;rw[i] at f;obtain⟨E,hw,n⟩:=(Fc J U p.1).1 e f;obtain⟨F,G⟩:=Ej m B.peek;obtain⟨L,M⟩:=Ej s n.peek;subst F L;exact⟨E,hw,G,M,t⟩
theorem wG (neg:Bool):oK K (Hd K neg) (zM neg):=by
 intro B L H d e x y O Q hd h m c k;unfold zM at c;split at c
 .cases h;cases m
  rename_i i j
  have f:decide (V.int i=V.int j)=decide (i=j):=by simp
  exact .inl ⟨rfl,by rw[f];exact k _ _ H c (hd.pushF (.b _))⟩
 .cases h;cases m
  rename_i i j
  have f:decide (V.str i=V.str j)=decide (i=j):=by simp
  exact .inl ⟨rfl,by rw[f];exact k _ _ H c (hd.pushF (.b _))⟩
 .cases h;cases m
  rename_i i j
  have f:decide (V.b i=V.b j)=decide (i=j):=by simp
  exact .inl ⟨rfl,by rw[f];exact k _ _ H c (hd.pushF (.b _))⟩
 .rename_i M
  obtain⟨a,A,rfl,n,u⟩:=h.lst_inv;obtain⟨b,N,rfl,q,v⟩:=m.lst_inv;cases v;have f:M.isEmpty=A.isEmpty:=by cases u<;>rfl
  refine .inr (.inl ⟨a,b,A,rfl,rfl,gV.of n,gV.of q,?_⟩);rw[<- f];exact k _ _ H c (hd.pushF (.b _))
 .obtain⟨a,s,rfl,n,f,u⟩:=h.dK_inv;obtain⟨b,t,rfl,q,E,v⟩:=m.dK_inv;obtain⟨F,G⟩:=X5 c.1 f u E v;exact .inr (.inr (.inl ⟨a,b,s,t,rfl,rfl,n,q,F,G,k _ _ H c.2 (hd.pushF (.b _))⟩))
 .obtain⟨w,z,D,c⟩:=c;exact .inr (.inr (.inr ⟨_,_,M3 h w,M3 m z,Jj w,Jj z,D,k _ _ H c (hd.pushF (.b _))⟩))
end
end L2
namespace L2
open PySem PySem.Spec PyProof.Rows Lw
def nI (g:Aa D) (lo j:Ab Int):Aa D:=(g.drop (HT.sIx g.length 0 lo)).take (HT.sIx g.length g.length j-HT.sIx g.length 0 lo)
def pt (o:Ab mK):Aa Ad->Aa Sl->(Ab Int->Aa Sl->Prop)->Prop:=λc b k=>match o with
 | none=>k none b
 | some t=>t c b λr a=>match r with
  | .v (.int i)=>k (some i) a
  | _=>False
def zQ (K:lJ):Ab mK->TO
 | none=>Ox
 | some t=>Ma (dE K t)
abbrev O3:=D->Ab Int->Ab Int->(Sl->Prop)->Prop
def GF (f:O3) (i:Nat) (lo g:Ab mK):mK:=λc e h=>(at? e i).isSome=true/\pt lo c e λl b=>pt g c b λu a=>match at? a i with
 | some d=>f d l u λr=>h r a
 | none=>False
abbrev R3:=V->Ab Int->Ab Int->Hp->VK->Prop
def Lz (K:lJ) (r:R3) (f:O3):Prop:=∀ (B:Bs) (L:mY) (H:Hp) (d:D) (lo b:Ab Int) (x:V) (c:Sl->Prop) (Q:VK),DS K B L H->mO K (Al B (gD L)) H d x->f d lo b c ->
 (∀ s v a,c s->DS K B ((s,some v)::L) a->Q v a)->r x lo b H Q
section
variable {X:Cx}{K:lJ}{lo:Ab Expr}
theorem Mm (I:l.length=p.length) (hd:DS K B (l.zip p++T) H) (h:pt o B.dk l k)
  (C:∀ i g j,g.length=p.length->DS K B (g.zip p++T) j->k i g->Q i j):zQ K o p H Q:=by
 cases o with
 | none=>exact C none l H I hd h
 | some t =>
  refine⟨B,l,T,_,I,hd,h,λr g v j b d1 a=>?_⟩;cases r with
  | n=>exact a.elim
  | o d=>exact a.elim
  | v d =>
   cases d with
   | int i=>exact⟨i,d1.valAt.int_inv,C (some i) g j b d1.drop a⟩
   | _=>exact a.elim
theorem sT:PO X none (zQ X.K none):=zY
theorem rL (h:PD X e t):PO X (some e) (zQ X.K (some t)):=Ao h
theorem sB (I:uE X r) (p:Lz X.K r f) (o:PE X a (pR i)) (g:PO X lo (zQ X.K ol)) (j:PO X C (zQ X.K J)):PD X (.Subscript a (.Slice lo C none U) pos) (GF f i ol J) :=
 (A9 I o g j).mono λY H Q q=>q.elim λB W T V w hd ⟨n,G⟩ k=>by
  obtain⟨R,E⟩:=cL.mp n;obtain⟨x,y,_⟩:=hd.peek w E;refine⟨x,y,Mm w hd G λl O P L d2 N=>Mm L d2 N λu c D z t e=>?_⟩;cases h:at? c i with
  | none=>rw[h] at e;exact e.elim
  | some d =>
   rw[h] at e;obtain⟨S,b,M⟩:=t.peek z h;rw[y] at b;cases b;exact p B _ D d l u x _ Q t M e λs v A F m=>k s c v A z m.mid F
def Rt (K:lJ):R3:=λx lo a H Q=>Rn K x lo a H Q\/M9 K x lo a H Q\/Q3 x lo a H Q
theorem sC:uE X (Rt X.K):=Js.or (Tk.or Kh)
def Y7:O3
 | .l a,lo,b,d=>d (.o (.l (nI a lo b)))
 | .c a,lo,b,d=>d (.o (.l (nI a lo b)))
 | .t a,lo,b,d=>¬ (HT.sIx a.length 0 lo=0/\HT.sIx a.length a.length b=a.length)/\d (.v (.t (nI a lo b)))
 | .str z,lo,b,d=>z.length<=100000/\d (.v (.str (rS z lo b)))
 | _,_,_,_=>False
theorem G5 (r:Reps K A H j l) (lo g:Ab Int):Reps K A H (nI j lo g) (tQ l lo g):=by
 unfold nI tQ;rw[r.length];exact (r.drop _).take _
theorem sE:Lz K (Rt K) Y7:=by
 intro B L H d lo m x n Q hd i b k;cases d<;>first | exact False.elim b | skip
 .cases i;exact .inr (.inr ⟨_,rfl,xQ b.1,k _ _ _ b.2 (hd.pushF (.str _))⟩)
 .obtain⟨a,h,rfl,e,c⟩:=i.tup_inv;exact .inr (.inl ⟨a,h,rfl,mH.of e,by rw[<- c.length];exact b.1,λp f=>k _ _ _ b.2 (hd.tupF f (G5 c lo m))⟩)
 .obtain⟨a,h,rfl,e,c⟩:=i.lst_inv;exact .inl ⟨a,h,rfl,gV.of e,λp f=>k _ _ _ b (hd.lstF f (G5 c lo m))⟩
 .obtain⟨a,h,rfl,e,c⟩:=i.scr_inv;exact .inl ⟨a,h,rfl,e.sqL,λp f=>k _ _ _ b (hd.lstF f (G5 c lo m))⟩
abbrev O1:=D->(Sl->Prop)->Prop
abbrev R1:=V->Hp->VK->Prop
def We (K:lJ) (r:R1) (f:O1):Prop:=∀ (B:Bs) (L:mY) (H:Hp) (d:D) (x:V) (b:Sl->Prop) (Q:VK),DS K B L H->mO K (Al B (gD L)) H d x->f d b->(∀ s v a,b s->DS K B ((s,some v)::L) a->Q v a)->r x H Q
def d1 (f:O1) (g:mK):mK:=λb h e=>g b h λc a=>match sd c with
 | some d=>f d λr=>e r a
 | none=>False
theorem DM (j:We X.K r f) (h:dE X.K (d1 f l) o H Q):dE X.K l o H λx g=>r x g Q:=by
 obtain⟨B,z,T,A,m,hd,q,k⟩:=h;refine⟨B,z,T,_,m,hd,q,λy e x g t d1 a=>?_⟩;cases b:sd y with
 | none=>rw[b] at a;exact a.elim
 | some d =>
  rw[b] at a;obtain⟨u,w⟩:=d1.one b;exact j B _ g d x _ Q u w.peek a λs v i n c=>k s e v i t c.mid n
def Qx:O1
 | .int i,a=>a (.v (.int (-i)))
 | _,_=>False
theorem tX (g:PD X a j):PD X (.UnaryOp .USub a pos) (d1 Qx j):=(Xh Wl g).mono λ_ _ _ h=>DM (f:=Qx) (λB L H d x e Q hd c b k=>by
 cases d<;>first | exact False.elim b | skip
 cases c;exact⟨_,rfl,k _ _ H b (hd.pushF (.int _))⟩) h
noncomputable def Gz:D->Ab Bool
 | .e=>some false
 | .b b=>some b
 | .int i=>some (i != 0)
 | .str x=>some ((x.length:Int) != 0)
 | .l a=>some (!a.isEmpty)
 | .t a=>some (!a.isEmpty)
 | .k a=>some (!a.isEmpty)
 | _=>none
noncomputable def Jh:D->Bool
 | .str x=>decide (x.length<=100000)
 | _=>true
theorem Ss (h:mO K A H d x) (e:Gz d=some k) (g:Jh d=true):Kd K x H k:=by
 cases d<;>simp only[Gz,reduceCtorEq,kR] at e<;>subst e
 .have:=h.non_inv;subst this;rfl
 .have:=h.bl_inv;subst this;rfl
 .have:=h.int_inv;subst this;rfl
 .have:=h.str_inv;subst this;exact⟨xQ (dR g),rfl⟩
 .obtain⟨a,b,rfl,h,r⟩:=h.tup_inv;exact .inr (.inl ⟨b,mH.of h,by cases r<;>rfl⟩)
 .obtain⟨a,b,rfl,h,r⟩:=h.lst_inv;exact .inl ⟨b,gV.of h,by cases r<;>rfl⟩
 .rename_i c
  obtain⟨a,b,rfl,h,e,r⟩:=h.dK_inv;refine .inr (.inr ⟨b,h,?_⟩);cases c<;>cases b<;>simp at e |-
def Kv (t:mK):qO:=λc f e=>t c f λr a=>match sd r with
 | some d=>Jh d=true/\∃ b,Gz d=some b/\e b a
 | none=>False
theorem wM (g:PD X a l) (j:∀ whole,isTrue a X.env whole=(do let v <- whole;standAt a.pos;holding [v] (truthy v)):=by intro _;rfl):rN X a (Kv l) :=
 (Tf g j).mono λz H Q f=>f.elim λB x T y n hd s k=>⟨B,x,T,_,n,hd,s,λr h v i t d1 c=>by
  cases e:sd r with
  | none=>rw[e] at c;exact c.elim
  | some d =>
   rw[e] at c;obtain⟨q,b,m,c⟩:=c;obtain⟨u,w⟩:=d1.one e;exact⟨b,Ss w.peek m q,k b h i t u c⟩⟩
def Zj (t u:qO):qO:=λb e d=>t b e λc a=>if c=true then u b a d else d false a
def GC (t u:qO):qO:=λb e d=>t b e λc a=>if c=true then d true a else u b a d
def Tl (t:qO):qO:=λb e d=>t b e λc a=>d (!c) a
variable {rest:Aa Expr}
theorem Mf (h:rN X a g):xL X (.BoolOp .And [a] pos) g:=Oz h
theorem E8 (h:rN X a g):xL X (.BoolOp .Or [a] pos) g:=Zv h
theorem M6 (j:rN X a o) (l:xL X (.BoolOp .And (b::rest) pos) g):xL X (.BoolOp .And (a::b::rest) pos) (Zj o g) :=
 (Qv j l).mono λt H Q e=>e.elim λB s T q m hd n k=>⟨B,s,T,_,m,hd,n,λc d i h d1 f=>by
  cases c with
  | true=>exact (bA rfl).mpr ⟨B,d,T,q,h,d1,(bA rfl).mp f,k⟩
  | false=>exact xR (k false d i h d1 ((bF (by decide)).mp f))⟩
theorem yH (j:rN X a o) (l:xL X (.BoolOp .Or (b::rest) pos) g):xL X (.BoolOp .Or (a::b::rest) pos) (GC o g) :=
 (V1 j l).mono λt H Q e=>e.elim λB s T q m hd n k=>⟨B,s,T,_,m,hd,n,λc d i h d1 f=>by
  cases c with
  | true=>exact (bA rfl).mpr (k true d i h d1 ((bA rfl).mp f))
  | false=>exact xR ⟨B,d,T,q,h,d1,(bF (by decide)).mp f,k⟩⟩
theorem yL (h:xL X a g):rN X a g:=PW.pt h
theorem zF (h:rN X a g):rN X (.UnaryOp .Not a pos) (Tl g):=(Sr h).mono λt H Q b=>b.elim λB q T s i hd m k=>⟨B,q,T,_,i,hd,m,λc d e n d1 f=>k _ d e n d1 f⟩
def Tj (t u:mK):mK:=λc e d=>t c e λr a=>match r with
 | .v (.b true)=>u c a d
 | .v (.b false)=>d (.v (.b false)) a
 | _=>False
theorem DY (h:PD X a g):PD X (.BoolOp op [a] pos) g:=Vp h
theorem GN (g:PD X a l) (j:PD X (.BoolOp .And (b::rest) pos) p):PD X (.BoolOp .And (a::b::rest) pos) (Tj l p) :=
 (Xe g j).mono λw H Q h=>h.elim λB u T t q hd s k=>⟨B,u,T,_,q,hd,s,λr f v m i d1 e=>by
  cases r with
  | n=>exact e.elim
  | o d=>exact e.elim
  | v d =>
   cases d with
   | b c =>
    have:=d1.valAt.bl_inv;subst this;refine⟨c,rfl,?_⟩;cases c with
    | true=>exact (bA rfl).mpr ⟨B,f,T,t,i,d1.drop,e,k⟩
    | false=>exact xR (k _ f _ m i (d1.drop.push (.b _)) e)
   | _=>exact e.elim⟩
end
inductive Ar where
 | t (d:D) | al (i:Nat)
abbrev rK:=Aa Ad->Aa Sl->(Aa Ar->Aa Sl->Prop)->Prop
def rZ:Aa Ar->Aa V->mY
 | .t d::as,v::a=>(.v d,some v)::rZ as a
 | .al _::as,_::a=>rZ as a
 | _,_=>[]
inductive ArOk (σ:St):List Ar->List V->Prop where
 | nil:ArOk σ [] []
 | t {d:D} {v:V} {as:List Ar} {vs:List V}:ArOk σ as vs->ArOk σ (.t d::as) (v::vs)
 | al {i:Nat} {v:V} {as:List Ar} {vs:List V}:σ[i]?=some (some v)->ArOk σ as vs->ArOk σ (.al i::as) (v::vs)
noncomputable def tL (g:Aa Sl):Aa Ar->Ab (Aa D)
 | []=>some []
 | .t d::as=>(tL g as).map (d::·)
 | .al i::as=>match at? g i,tL g as with
  | some d,some a=>some (d::a)
  | _,_=>none
noncomputable def wF:Aa Ar->Ab (Aa D)
 | []=>some []
 | .t d::as=>(wF as).map (d::·)
 | .al _::_=>none
def Ba:Aa Ar->Bool
 | []=>true
 | .t _::as=>Ba as
 | .al _::_=>false
def dA (K:lJ) (g:rK):TA:=λb H Q=>∃ (B:Bs) (d:Aa Sl) (T:mY) (f:Aa Ar->Aa Sl->Prop),d.length=b.length/\DS K B (d.zip b++T) H/\g B.dk d f /\
 ∀ as a c e,a.length=b.length->ArOk b as c->DS K B (a.zip b++(rZ as c++T)) e->f as a->Q c e
theorem dA.elim {K:lJ}{P:Prop}(h:dA K C l H Q) (f:∀ (B:Bs) (j:Aa Sl) (T:mY) (o:Aa Ar->Aa Sl->Prop),j.length=l.length->DS K B (j.zip l++T) H->C B.dk j o ->(∀ as g p r,g.length=l.length->ArOk l as p->DS K B (g.zip l++(rZ as p++T)) r->o as g->Q p r)->P):P:=by
 obtain⟨B,j,T,o,a,hd,b,k⟩:=h;exact f B j T o a hd b k
abbrev qY (X:Cx) (g:Aa Expr) (j:rK):Prop:=PA X g (dA X.K j)
def BU:rK:=λ_ b a=>a [] b
def aC (g:mK) (j:rK):rK:=λc f e=>g c f λr a=>j c a λas b=>match sd r with
 | some d=>e (.t d::as) b
 | none=>False
def aS (i:Nat) (g:rK):rK:=λc b d=>(at? b i).isSome=true/\g c b λas a=>d (.al i::as) a
theorem PA.mono {X:Cx}(h:PA X j t) (k:∀ g H Q,l g H Q->t g H Q):PA X j l:=λp a s g H Q I q=>h p a s g H Q I (k g H Q q)
def Am (B:Bs) (a:Ad):Prop:=a∉B.dk/\(B.A0 a\/B.H0 a=none)
inductive Peeks (K:lJ) (A:Addr->Prop) (H:Hp):List D->List V->Prop where
 | nil:Peeks K A H [] []
 | cons {d:D} {v:V} {ds:List D} {vs:List V}:mO K A H d v->Peeks K A H ds vs->Peeks K A H (d::ds) (v::vs)
section
variable {X:Cx}{K:lJ}
theorem dT:qY X [] BU:=lY.mono λf H Q a=>a.elim λB d T e b hd c k=>k [] d [] H b .nil hd c
theorem dK (j:PD X e p) (l:qY X g o) (h:uI e=true:=by rfl):qY X (e::g) (aC p o):=(lQ j l h).mono λD H Q f=>f.elim λB A T F v hd w k =>
 ⟨B,A,T,_,v,hd,w,λr i x E y d1 u=>⟨B,i,(r,some x)::T,_,y,d1,u,λas a n m z ok d2 b=>by
  cases c:sd r with
  | none=>rw[c] at b;exact b.elim
  | some d =>
   rw[c] at b;refine k (.t d::as) a (x::n) m z (.t ok) ?_ b;have q:DS X.K B ((a.zip D++rZ as n)++(r,some x)::T) m:=by simpa using d2
   have s:=(q.thaw c).front;exact DS.mid (by simpa using s)⟩⟩
theorem qK (j:PE X e (pR i)) (l:qY X g o) (h:uI e=true:=by rfl):qY X (e::g) (aS i o):=(lQ j l h).mono λz H Q a=>a.elim λB v T y c hd ⟨q,s⟩ k=>by
 obtain⟨w,m⟩:=cL.mp q;obtain⟨x,d,_⟩:=hd.peek c m;exact⟨x,d,B,v,T,_,c,hd,s,λas b u f t ok d2 n=>k (.al i::as) b (x::u) f t (.al d ok) d2 n⟩
theorem DS.rmArgs:∀ {as:Aa Ar}{vs:Aa V},DS K B (L++(rZ as vs++T)) H->DS K B (L++T) H
 | [],_,h=>h
 | .t d::as,[],h=>h
 | .al _::as,[],h=>h
 | .t d::as,v::vs,h=>DS.rmArgs (as:=as) (vs:=vs) (DS.drop (L1:=L) (L2:=rZ as vs++T) h)
 | .al _::as,v::vs,h=>DS.rmArgs (as:=as) (vs:=vs) h
theorem Dl:∀ {as:Aa Ar}{vs:Aa V},gD (L++(rZ as vs++T))=gD (L++T)
 | [],_=>rfl
 | .t d::as,[]=>rfl
 | .al _::as,[]=>rfl
 | .t d::as,v::vs=>(show gD (L++(Sl.v d,some v)::(rZ as vs++T))=_ from J2).trans (Dl (as:=as) (vs:=vs))
 | .al _::as,v::vs=>Dl (as:=as) (vs:=vs)
theorem DS.temps (h:DS K B (L++(rZ as j++T)) H) (ok:ArOk σ as j):∀ g,wF as=some g->Reps K (Al B (gD (L++T))) H g j:=by
 have key:∀ p∈rZ as j,sN K (Al B (gD (L++T))) H p.1 p.2:=λp b=>by
  have:=h.ok p (by simp[b]);rw[Dl] at this;exact this
 clear h;induction ok with
 | nil=>intro g e;cases e;exact .nil
 | @t d v as j ok i =>
  intro g e;obtain⟨a,c,rfl⟩:=cC.mp e;obtain⟨u,f,r⟩:=key (.v d,some v) aH;cases f;exact .cons r (i (λp b=>key p (aN _ b)) a c)
 | al _ _ _=>intro g e;cases e
theorem DS.argsP (I:g.length=C.length) (h:DS K B (g.zip C++(rZ as l++T)) H) (ok:ArOk C as l):∀ j,tL g as=some j ->
  Peeks K (Al B (gD (g.zip C++T))) H j l/\Reps K (Am B) H j l/\(Ba as=true->Reps K (Al B (gD (g.zip C++T))) H j l):=by
 have key:∀ p∈rZ as l,sN K (Al B (gD (g.zip C++T))) H p.1 p.2:=λp m=>by
  have:=h.ok p (by simp[m]);rw[Dl] at this;exact this
 have A:=h.rmArgs;have am:∀ a,Al B (gD (g.zip C++T)) a->Am B a:=λa z=>⟨z.1,z.2.2⟩
 clear h;induction ok with
 | nil=>intro j e;cases e;exact⟨.nil,.nil,λ_=>.nil⟩
 | @t d v as l ok D =>
  intro j e;obtain⟨f,b,rfl⟩:=cC.mp e;obtain⟨u,k,r⟩:=key (.v d,some v) aH;cases k;obtain⟨E,F,O⟩:=D (λp m=>key p (aN _ m)) f b;exact⟨.cons r.peek E,.cons (r.mono (.all am)) F,λn=>.cons r (O n)⟩
 | @al i v as l G ok D =>
  intro j e;have e:=(show (match at? g i,tL g as with | some d,some j=>some (d::j) | _,_=>none)=some j from e);cases b:at? g i with
  | none=>rw[b] at e;cases e
  | some d =>
   cases k:tL g as with
   | none=>rw[b,k] at e;cases e
   | some f =>
    rw[b,k] at e;cases e;obtain⟨E,F,O⟩:=D (λp m=>key p m) f k;obtain⟨V,q,pv⟩:=A.peek I b;rw[G] at q;cases q;have Q:Rep K (Am B) H d v:=by
     unfold at? at b;cases w:g[i]? with
     | none=>rw[w] at b;cases b
     | some s =>
      rw[w] at b;obtain⟨R,y,S,M,_,P,_⟩:=vJ I w;rw[G] at M;cases M;have L:(s,some v)∈g.zip C++T:=by rw[P];simp
      have:=A.ok _ L;cases s with
      | n=>cases b
      | v c=>cases b;obtain⟨u,x,r⟩:=this;cases x;exact r.mono (.all am)
      | o c =>
       cases b;obtain⟨a,x,r⟩:=this;cases x;have N:=A.new a (uF.mpr ⟨_,L,rfl⟩);exact r.rep am ⟨N.2,.inr N.1⟩
    exact⟨.cons pv E,.cons Q F,λn=>by simp[Ba] at n⟩
def CK (g:rK):mK:=λc e d=>g c e λas a=>match wF as with
 | some b=>b.length<=1000/\d (.v (.t b)) a
 | none=>False
def Fa (g:rK):mK:=λc e d=>g c e λas a=>match wF as with
 | some b=>b.length<=1000/\d (.o (.l b)) a
 | none=>False
theorem Kx (h:n<=1000):n<=sizeLine:=bX h (by decide)
theorem oN (h:qY X g j):PD X (.Tuple g l pos) (CK j):=(B8 h).mono λv H Q c=>c.elim λB q T u f hd m k=>⟨B,q,T,_,f,hd,m,λas d t s n ok d1 a=>by
 cases b:wF as with
 | none=>rw[b] at a;exact a.elim
 | some e =>
  rw[b] at a;have r:=d1.temps ok e b;exact⟨Kx (by rw[<- r.length];exact a.1),λp i=>k _ d _ _ n (d1.rmArgs.tup i r) a.2⟩⟩
theorem mW (h:qY X g j):PD X (.List g pos) (Fa j):=(oP h).mono λv H Q c=>c.elim λB q T u f hd m k=>⟨B,q,T,_,f,hd,m,λas d t s n ok d1 a=>by
 cases b:wF as with
 | none=>rw[b] at a;exact a.elim
 | some e =>
  rw[b] at a;have r:=d1.temps ok e b;exact⟨Kx (by rw[<- r.length];exact a.1),λp i=>k _ d _ _ n (d1.rmArgs.lstF i r).mid a.2⟩⟩
def Xx:mK:=λ_ b a=>a (.o (.k [])) b
theorem M5:PD X (.Dict [] [] pos) Xx:=Vm.mono λh H Q a=>a.elim λB e T f b hd d k p c=>k _ e _ _ b (hd.dKF (ds:=[]) (kvs:=[]) c rfl .nil).mid d
abbrev OC:=Aa D->(Sl->Prop)->Prop
def qC (K:lJ) (r:Aa V->Hp->VK->Prop) (f:OC):Prop:=∀ (B:Bs) (L:mY) (H:Hp) (b:Aa D) (c:Aa V) (d:Sl->Prop) (Q:VK),DS K B L H->Peeks K (Al B (gD L)) H b c->f b d ->
 (∀ s v a,d s->DS K B ((s,some v)::L) a->Q v a)->r c H Q
def dC (f:OC) (g:rK):mK:=λb e d=>g b e λas a=>match tL a as with
 | some c=>f c λr=>d r a
 | none=>False
theorem Ee (l:qC X.K r f) (h:dE X.K (dC f o) p H Q):dA X.K o p H λj g=>r j g Q:=by
 obtain⟨B,u,T,w,n,hd,t,k⟩:=h;refine⟨B,u,T,_,n,hd,t,λas a j g i ok d1 b=>?_⟩;cases c:tL a as with
 | none=>rw[c] at b;exact b.elim
 | some e =>
  rw[c] at b;exact l B _ g e j _ Q d1.rmArgs (d1.argsP i ok e c).1 b λs v m q d=>k s a v m i d.mid q
variable {id:String}
theorem nD (C:mU X (.builtin id) r) (I:qC X.K r f) (T:X.mg x=none) (hv:bootBuiltins x=some (.builtin id)) (o:qY X (e::l) ta) (J:Gl X x:=by rfl) (U:x ≠ "__name__" := by decide) (g:(x == ("__debug__" : Af))=false:=by decide)
  (j:StB X e l pos:=by exact {}):PD X (.Call (.Name x p) (e::l) [] pos) (dC f ta) :=
 (rY C J T hv o U g j).mono λ_ _ _ h=>Ee I h
theorem pL (C:mU X (.type id) r) (I:qC X.K r f) (T:X.mg x=none) (hv:bootBuiltins x=some (.type id)) (o:qY X (e::l) ta) (J:Gl X x:=by rfl) (U:x ≠ "__name__" := by decide) (g:(x == ("__debug__" : Af))=false:=by decide)
  (j:StB X e l pos:=by exact {}):PD X (.Call (.Name x p) (e::l) [] pos) (dC f ta) :=
 (Fo C J T hv o U g j).mono λ_ _ _ h=>Ee I h
end
def J5:Sl->Bool
 | .v d=>imm d
 | .o (.l b)=>uY b
 | .o (.k a)=>uY (a.map (·.2))
 | .o (.T a)=>uY (a.map (·.2))
 | _=>false
def RV (K:lJ) (g:Aa Ad) (A:Ad->Prop) (H:Hp) (s:Sl) (v:V) (j:Hp):Prop:=match s with
 | .n=>True
 | .v d=>Rep K (λa=>a∉g/\(A a\/H a=none)) j d v
 | .o d=>∃ a,v = .ref a/\H a=none/\a∉g/\oF K (λb=>b∉g/\b≠a/\(A b\/H b=none)) j a d
def yF (j:Aa Ad) (H g:Hp):Prop:=∀ b o,H b=some o->b∉j->g b=some o
abbrev RD:=Aa Ad->Aa D->(Sl->Prop)->Prop
def wW (K:lJ) (R:RD):Sp:=λf H Q _=>∃ (b:Aa Ad) (A:Ad->Prop) (d:Aa D) (e:Sl->Prop),Dk b H/\(∀ a,A a->a∉b)/\Reps K A H d f/\R b d e /\
 ∀ s v c,e s->yF b H c->Dk b c->RV K b A H s v c->Q v c
section
variable {K:lJ}
theorem oF.immR (h:oF K A H a d) (e:J5 (.o d)=true):oF K g H a d:=by
 cases d with
 | l _=>obtain⟨b,h,r⟩:=h;exact⟨b,h,r.imm e⟩
 | k _=>obtain⟨b,h,k,r⟩:=h;exact⟨b,h,k,r.imm e⟩
 | T _=>obtain⟨b,h,k,r⟩:=h;exact⟨b,h,k,r.imm e⟩
 | _=>exact False.elim h
theorem Kp.frm (f:yF g H l) (p:Dk g H) (h:∀ a,A a->a∉g/\j a):Kp A j H l:=by
 refine⟨λa o b e=>⟨(h a b).2,f a o e (h a b).1⟩,λa o t e=>f a o e λz=>?_⟩;obtain⟨c,q⟩:=p.some z;rw[e] at q;cases q;cases t
theorem DS.call (h:DS K B L H) (f:yF B.dk H g) (j:Dk B.dk g):DS K B L g :=
 ⟨λb o e n=>f b o (h.fr b o e n) n,j,h.nd,h.new,λp c=>(h.ok p c).mono (.frm f h.dk λa z=>⟨z.1,z⟩) λb d o q=>f b o q (h.new b (uF.mpr ⟨p,c,d⟩)).2⟩
theorem DS.adopt (h:DS K B L H) (f:yF B.dk H g) (l:Dk B.dk g) (j:H a=none) (r:oF K (Al B (a::gD L)) g a d):DS K B ((.o d,some (.ref a))::L) g:=by
 obtain⟨f1,f2,k⟩:=h.free j;have s:Kp (Al B (gD L)) (Al B (a::gD L)) H g:=by
  refine⟨λb o c e=>⟨⟨c.1,λz=>?_,c.2.2⟩,f b o e c.1⟩,λb o t e=>f b o e λz=>?_⟩
  .rcases aF.mp z with q | q
   .subst q;rw[j] at e;cases e
   .exact c.2.1 q
  .obtain⟨u,q⟩:=h.dk.some z;rw[e] at q;cases q;cases t
 have i:gD ((Sl.o d,some (V.ref a))::L)=a::gD L:=rfl;refine⟨λb o e n=>f b o (h.fr b o e n) n,l,by rw[i];exact cH.mpr ⟨k,h.nd⟩,λb c=>?_,λp m=>?_⟩
 .rw[i] at c;rcases aF.mp c with q | q
  .subst q;exact⟨f1,f2⟩
  .exact h.new b q
 .rw[i];rcases aF.mp m with q | q
  .subst q;exact⟨a,rfl,r⟩
  .exact (h.ok p q).mono s λb c o w=>f b o w (h.new b (uF.mpr ⟨p,q,c⟩)).2
theorem DS.result (h:DS K B L H) (f:yF B.dk H j) (l:Dk B.dk j) (r:RV K B.dk p H s v j) (g:(∀ a,p a->Al B (gD L) a)\/J5 s=true):DS K B ((s,some v)::L) j:=by
 have fresh:∀ b,b∉B.dk->H b=none->Al B (gD L) b:=λb n e=>⟨n,(h.free e).2.2,.inr (h.free e).1⟩
 cases s with
 | n=>exact (h.call f l).pushN (L1:=[]) _
 | v d =>
  refine (h.call f l).pushF ?_;rcases g with g | g
  .exact (show Rep K _ j d v from r).mono (.all λb z=>z.2.elim (g b) (fresh b z.1))
  .exact (show Rep K _ j d v from r).imm g
 | o d =>
  obtain⟨a,rfl,c,hd,r⟩:=r;refine h.adopt f l c ?_;rcases g with g | g
  .refine r.mono (.all λb z=>?_) λ_ q=>q
   have:=z.2.2.elim (g b) (fresh b z.1);exact⟨this.1,λq=>(aF.mp q).elim z.2.1 this.2.1,this.2.2⟩
  .exact r.immR g
end
def Ji (R:RD) (g:rK):mK:=λb e d=>g b e λas a=>match tL a as with
 | some c=>R b c λs=>(Ba as=true\/J5 s=true)/\d s a
 | none=>False
section
variable {X:Cx}{R:RD}
theorem CS (h:dE X.K (Ji R l) o H Q):dA X.K l o H λj g=>wW X.K R (j++[]) g Q E0:=by
 obtain⟨B,A,T,D,u,hd,w,k⟩:=h;refine⟨B,A,T,_,u,hd,w,λas b j g q ok d1 c=>?_⟩;cases m:tL b as with
 | none=>rw[m] at c;exact c.elim
 | some i =>
  rw[m] at c;obtain⟨_,x,y⟩:=d1.argsP q ok i m;have d2:=d1.rmArgs;rw[eP];by_cases t:Ba as=true
  .exact⟨B.dk,_,i,_,d2.dk,λa z=>z.1,y t,c,λs v e d f n r=>k s b v e q (d2.result f n r (.inl λa z=>z)).mid d.2⟩
  .exact⟨B.dk,_,i,_,d2.dk,λa z=>z.1,x,c,λs v e d f n r=>k s b v e q (d2.result f n r (.inr (d.1.resolve_left t))).mid d.2⟩
theorem Uf (F:FnOk X.prog X.w X.K X.mg X.base nG k f fd U (wW X.K R)) (T:Room k X.A) (C:Gl X x) (J:X.mg x=some (.ref f)) (I:PySem.W.keepIn X.K (.ref f)=true) (r:wI X.K fd U [])
  (o:qY X (e::l) ta) (g:(x == ("__debug__" : Af))=false:=by decide) (j:StB X e l pos:=by exact {}) :
  PD X (.Call (.Name x p) (e::l) [] pos) (Ji R ta):=(rJ F T C J I r .nil qR o g j).mono λ_ _ _ h=>CS h
end
structure DEnds where
 nx:List Sl->Prop
 rt:Sl->Prop
 bk:List Sl->Prop:=λ_=>False
 ct:List Sl->Prop:=λ_=>False
abbrev pP:=Aa Ad->DEnds->Aa Sl->Prop
def Br (K:lJ) (B:Bs) (T:mY) (n:Nat) (g:DEnds) (j:Ends):Prop :=
 (∀ b a c,b.length=a.length->a.length=n->DS K B (b.zip a++T) c->(g.nx b->j.nx a c)/\(g.bk b->j.bk a c)/\(g.ct b->j.ct a c)) /\
 ∀ (r:Sl) (v:V) (b:Aa Sl) (a:St) (c:Hp),b.length=a.length->DS K B (b.zip a++(r,some v)::T) c->g.rt r->j.rt v c
def dS (K:lJ) (g:pP):TS:=λd b H=>∃ (B:Bs) (a:Aa Sl) (T:mY) (c:DEnds),a.length=b.length/\DS K B (a.zip b++T) H/\g B.dk c a/\Br K B T b.length c d
theorem dS.elim {K:lJ}{P:Prop}(h:dS K p o j H) (f:∀ (B:Bs) (g:Aa Sl) (T:mY) (l:DEnds),g.length=j.length->DS K B (g.zip j++T) H->p B.dk l g->Br K B T j.length l o->P):P:=by
 obtain⟨B,g,T,c,a,hd,b,k⟩:=h;exact f B g T c a hd b k
abbrev sV (X:Cx) (st:Stmt) (g:pP):Prop:=PS X st (dS X.K g)
abbrev uD (X:Cx) (st:Aa Stmt) (g:pP):Prop:=oB X st (dS X.K g)
theorem PS.mono {X:Cx}{st:Stmt}(h:PS X st t) (k:∀ D g H,j D g H->t D g H):PS X st j:=λa s g H D I q=>h a s g H D I (k D g H q)
theorem oB.mono {X:Cx}{st:Aa Stmt}(h:oB X st t) (k:∀ D g H,j D g H->t D g H):oB X st j:=λa s g H D I q=>h a s g H D I (k D g H q)
def Uv:pP:=λ_ a b=>a.nx b
def E3 (t u:pP):pP:=λb a c=>t b { a with nx:=u b a } c
def Eo (g:mK):pP:=λb a c=>g b c λr _=>a.rt r
def Ur (g:mK):pP:=λc b d=>g c d λ_ a=>b.nx a
def L7 (c:qO) (t u:pP):pP:=λd e f=>c d f λb a=>if b=true then t d e a else u d e a
def qQ (i:Nat) (g:mK):pP:=λc b d=>g c d λr a=>b.nx (a.set i r)
section
variable {X:Cx}{K:lJ}{st:Stmt}{rest:Aa Stmt}
theorem Br.seq (h:Br K B T n o p){P:Aa Sl->Prop}(k:∀ j g l,j.length=g.length->g.length=n->DS K B (j.zip g++T) l->P j->N g l):Br K B T n { o with nx:=P } { p with nx:=N } :=
 ⟨λj g l a b d=>⟨k j g l a b d,(h.1 j g l a b d).2⟩,h.2⟩
theorem yC:uD X [] Uv:=Az.mono λi f H a=>a.elim λB e T h b hd c d=>(d.1 e f H b rfl hd).1 c
theorem lK (g:sV X st t) (j:uD X rest u):uD X (st::rest) (E3 t u):=(oC g j).mono λs w H a=>a.elim λB m T e f hd h c =>
 ⟨B,m,T,_,f,hd,h,c.seq λb n v i k d q=>⟨B,b,T,e,i,d,q,by rw[k];exact c⟩⟩
theorem mN (h:sV X st t):uD X [st] t:=qZ h
theorem nT (h:PD X e g):sV X (.Return (some e) pos) (Eo g):=(uX h).mono λt q H a=>a.elim λB n T s f hd i m=>⟨B,n,T,_,f,hd,i,λr b v c k d1 d=>m.2 r v b q c k d1 d⟩
theorem qJ (h:PD X e j) (g:swapsWith e none pos.line X.env=pure false:=by rfl):sV X (.Expr e pos) (Ur j):=(Ho h g).mono λt q H a=>a.elim λB n T s f hd i m=>⟨B,n,T,_,f,hd,i,λr b v c k d1 d=>(m.1 b q c k rfl d1.drop).1 d⟩
theorem zA (l:rN X c o) (g:uD X a t) (j:uD X b u):sV X (.If c a b pos) (L7 o t u):=(yJ l g j).mono λs w H e=>e.elim λB q T f m hd n k=>⟨B,q,T,_,m,hd,n,λc d v i d1 h=>by
 cases c with
 | true=>exact (bA rfl).mpr ⟨B,d,T,f,i,d1,(bA rfl).mp h,k⟩
 | false=>exact xR ⟨B,d,T,f,i,d1,(bF (by decide)).mp h,k⟩⟩
theorem DS.assign {g:Aa Sl}{j:St}(l:g.length=j.length) (h:DS K B (g.zip j++(r,some v)::T) H) (i:Nat):DS K B ((g.set i r).zip (j.set i (some v))++T) H:=by
 by_cases m:i<g.length
 .obtain⟨b,y,c,_,_,n,a⟩:=vJ l (aJ m);rw[a r (some v)];rw[n] at h;have d:DS K B (b++(c++(r,some v)::T)) H:=DS.drop (L1:=b) (x:=(g[i],y)) (by simpa using h);have e:DS K B ((b++c)++(r,some v)::T) H:=by simpa using d
  have f:=e.front;have k:DS K B ((r,some v)::(b++(c++T))) H:=by simpa using f
  simpa using k.mid
 .rw[fY (by omega),fY (by omega)];exact h.drop
theorem mD (i:Nat) (j:X.N.Nodup) (l:PD X e J) (p:X.N[i]?=some x:=by rfl) (I:uR X.env.scope x:=by first | exact Or.inl rfl | exact Or.inr rfl) (C:swapsWith e (some (.Name x g)) pos.line X.env=pure false:=by rfl)
  (o:X.fn x=true\/X.env.scope.names.lookup x=some .local:=by first | exact .inl rfl | exact .inr rfl | assumption):sV X (.Assign [.Name x g] e pos) (qQ i J) :=
 (nU j p I l C o).mono λs t H a=>a.elim λB m T q f hd h k=>⟨B,m,T,_,f,hd,h,λr n v c b d1 d=>(k.1 _ _ c (by rw[bO,bO];exact b) (bO ..) (d1.assign b i)).1 d⟩
end
def xG (N:Aa Af) (g:Aa D):Aa Sl:=g.map .v++List.replicate (N.length-g.length) .n
section
variable {P:Ah}{K:lJ}
theorem Of:∀ {g:Aa D}{j:Aa V}(n:Nat),g.length=j.length->(g.map Sl.v++List.replicate n Sl.n).zip (j.map some++List.replicate n none)=(g.zip j).map (λp=>(Sl.v p.1,some p.2))++List.replicate n (Sl.n,none)
 | [],[],n,_=>by simp
 | [],_::_,_,e=>by simp at e
 | _::_,[],_,e=>by simp at e
 | d::g,v::j,n,e=>by
  simp only[aZ,cX,cU,gY,true_and];exact Of n (by simpa using e)
theorem Zb (l:Reps K A H g j):∀ p∈g.zip j,Rep K A H p.1 p.2:=by
 induction g generalizing j with
 | nil=>intro p a;cases a
 | cons d g b =>
  cases l with
  | cons h r =>
  intro p a;rw[cU] at a;rcases aF.mp a with rfl | q
  .exact h
  .exact b r p q
theorem Fun.okD {st:Stmt}{R:RD}(F:Fun K x J st f fd) (S:FnScope N ps (mG st)) (I:∀ C g T,R C g T->g.length=ps.length) (aa:ps.length<=N.length)
  (U:∀ (l:Ac) (A:Around) (j:Aa Env) (s:Ae) (H:Hp) (E:XK) (C:Aa Ad) (g:Aa D) (T:Sl->Prop),Room k (A.deeper (envOfC J (mG st) s.heap.objs.size f l))->R C g T ->∃ t,uD (wO nG P w K mg base N J (mG st) f l A j s H E).nox (qU st) t/\t C { nx:=λ_=>T (.v .e),rt:=T } (xG N g)):FnOk P w K mg base nG (k+1) f fd ps (wW K R):=by
 refine F.ok S (λm H Q E M=>by obtain⟨C,A,g,T,_,_,r,u,_⟩:=M;rw[<- r.length];exact I _ _ _ u) λl A j s H m Q E hr M=>?_
 obtain⟨C,A1,g,T,L,hA,r,u,X⟩:=M;obtain⟨t,ht,hb⟩:=U l A j s H E C g T hr u;have G:g.length=m.length:=r.length;have dl:g.length=ps.length:=I _ _ _ u;refine⟨_,ht,⟨C,A1,H⟩,xG N g,[],_,?_,?_,hb,?_,?_⟩
 .unfold xG sM;rw[List.length_append,List.length_append,List.length_map,List.length_map,List.length_replicate,List.length_replicate,G]
 .have W:(xG N g).zip (sM N m)=(g.zip m).map (λp=>(Sl.v p.1,some p.2))++List.replicate (N.length-g.length) (Sl.n,none):=by
   unfold xG sM;rw[<- G];exact Of _ G
  have B:gD ((xG N g).zip (sM N m))=[]:=by
   rw[W];refine gC.mpr λa i=>?_
   obtain⟨q,c,e⟩:=uF.mp i;rcases aX.mp c with z | z
   .obtain⟨p,_,rfl⟩:=aG.mp z;cases e
   .rw[(kJ.mp z).2] at e;cases e
  rw[eP];refine⟨λb o e _=>e,L,by rw[B];exact List.nodup_nil,(λa i=>by rw[B] at i;exact absurd i bH),λq c=>?_⟩;rw[B];rw[W] at c;rcases aX.mp c with z | z
  .obtain⟨p,hp,rfl⟩:=aG.mp z;exact⟨p.2,rfl,(Zb r p hp).mono (.all λa i=>⟨hA a i,bH,.inl i⟩)⟩
  .rw[(kJ.mp z).2];trivial
 .intro O V y l1 l2 d1;refine⟨λh=>X _ _ y h d1.fr d1.dk .e,λh=>h.elim,λh=>h.elim⟩
 .intro Z v O V y l1 d1 h;refine X Z v y h d1.fr d1.dk ?_;cases Z with
  | n=>trivial
  | v d=>exact d1.valAt.mono (.all λa z=>⟨z.1,z.2.2⟩)
  | o d =>
   obtain⟨a,rfl,r'⟩:=d1.ownAt;have Y:=d1.new a (by rw[qW];exact aI _ aH);exact⟨a,rfl,Y.1,Y.2,r'.mono (.all λb z=>⟨z.1,λq=>z.2.1 (by simp[q]),z.2.2⟩) λ_ q=>q⟩
end
abbrev tR:=D->Aa Sl->(Aa Sl->Prop)->Prop
abbrev yT:=Aa D->Aa Sl->(Aa Sl->Prop)->Prop
noncomputable def oI (g:Aa D) (j:Aa V):mY:=(g.zip j).map λp=>(Sl.v p.1,some p.2)
def dG (K:lJ) (n:Nat) (g:tR):TG:=λv c H Q=>∃ (B:Bs) (e:Aa Sl) (T:mY) (d:D) (h:Aa Sl->Prop),e.length=c.length/\DS K B (e.zip c++(.v d,some v)::T) H/\g d e h /\
 ∀ (b:Aa Sl) (a:St) (f:Hp),b.length=a.length->a.length=c.length->(∀ j,n<=j->a[j]?=c[j]?)->DS K B (b.zip a++T) f->h b->Q a f
def Gy (K:lJ) (n:Nat) (g:yT):yQ:=λh c H Q=>∃ (B:Bs) (e:Aa Sl) (T:mY) (d:Aa D) (i:Aa Sl->Prop),e.length=c.length/\d.length=h.length/\DS K B (e.zip c++(oI d h++T)) H/\g d e i /\
 ∀ (b:Aa Sl) (a:St) (f:Hp),b.length=a.length->a.length=c.length->(∀ j,n<=j->a[j]?=c[j]?)->DS K B (b.zip a++T) f->i b->Q a f
theorem dG.elim {K:lJ}{P:Prop}(h:dG K n I v r H Q) (f:∀ (B:Bs) (o:Aa Sl) (T:mY) (d:D) (p:Aa Sl->Prop),o.length=r.length->DS K B (o.zip r++(.v d,some v)::T) H->I d o p ->(∀ (l:Aa Sl) (g:St) (C:Hp),l.length=g.length->g.length=r.length->(∀ j,n<=j->g[j]?=r[j]?)->DS K B (l.zip g++T) C->p l->Q g C)->P):P:=by
 obtain⟨B,o,T,d,p,a,hd,b,k⟩:=h;exact f B o T d p a hd b k
theorem Gy.elim {K:lJ}{P:Prop}(h:Gy K n U J C H Q) (f:∀ (B:Bs) (p:Aa Sl) (T:mY) (o:Aa D) (r:Aa Sl->Prop),p.length=C.length->o.length=J.length->DS K B (p.zip C++(oI o J++T)) H->U o p r ->(∀ (l:Aa Sl) (g:St) (I:Hp),l.length=g.length->g.length=C.length->(∀ j,n<=j->g[j]?=C[j]?)->DS K B (l.zip g++T) I->r l->Q g I)->P):P:=by
 obtain⟨B,p,T,o,r,a,c,hd,b,k⟩:=h;exact f B p T o r a c hd b k
abbrev xX (X:Cx) (n:Nat) (e:Expr) (g:tR):Prop:=PG X e (dG X.K n g)
abbrev Dp (X:Cx) (n:Nat) (g:Aa Expr) (j:yT):Prop:=wC X g (Gy X.K n j)
theorem PG.mono {X:Cx}(h:PG X e t) (k:∀ v g H Q,j v g H Q->t v g H Q):PG X e j:=λa s g H v u Q I r q=>h a s g H v u Q I r (k v g H Q q)
theorem wC.mono {X:Cx}(h:wC X j t) (k:∀ v g H Q,l v g H Q->t v g H Q):wC X j l:=λa s g H v u Q I r q=>h a s g H v u Q I r (k v g H Q q)
def gN (i:Nat):tR:=λd b a=>a (b.set i (.v d))
def FC:yT:=λa c b=>a=[]/\b c
def Sb (g:tR) (j:yT):yT:=λa e c=>match a with
 | d::a=>g d e λb=>j a b c
 | []=>False
def X0 (n:Nat) (g:yT):tR:=λd c b=>match d with
 | .t a=>a.length=n/\g a c b
 | _=>False
section
variable {X:Cx}{K:lJ}
theorem DS.pushs {A:Ad->Prop}:∀ {ds:Aa D}{vs:Aa V},DS K B (L++T) H->Reps K (Al B (gD (L++T))) H ds vs->DS K B (L++(oI ds vs++T)) H
 | _,_,h,.nil=>h
 | _,_,h,.cons (ds:=ds) (vs:=vs) r i=>by
  have c:=DS.pushs (A:=A) h i;have b:gD (L++(oI ds vs++T))=gD (L++T):=by
   have:∀ (ds:Aa D) (vs:Aa V),gD (oI ds vs)=[]:=λds vs=>by
    refine gC.mpr λa d=>?_
    obtain⟨q,f,e⟩:=uF.mp d;obtain⟨p,_,rfl⟩:=aG.mp f;cases e
   rw[qG,qG,qG,this,lC]
  exact c.push (by rw[b];exact r)
theorem mC (i:Nat) (g:X.N.Nodup) (o:X.N[i]?=some x:=by rfl) (p:uR X.env.scope x:=by first | exact Or.inl rfl | exact Or.inr rfl) (r:i<m:=by decide) (l:X.fn x=true\/X.env.scope.names.lookup x=some .local:=by first | exact .inl rfl | exact .inr rfl | assumption):xX X m (.Name x pos) (gN i) :=
 (wK g o p l).mono λv n H Q a=>a.elim λB h T d f b hd c k=>k _ _ H (by rw[bO,bO];exact b) (bO ..) (λj e=>eA (by omega)) (hd.assign b i) c
theorem sY:Dp X m [] FC:=W1.mono λf i H Q a=>a.elim λB h T n q c e hd ⟨b,d⟩ k=>by
 subst b;cases f with
 | nil=>exact⟨rfl,k h i H c rfl (λ_ _=>rfl) hd d⟩
 | cons _ _=>simp at e
theorem nP (p:xX X m e g) (r:Dp X m l o) (C:(assignEach (e::l) X.env).map (·.2)=assign e X.env::(assignEach l X.env).map (·.2):=by rfl):Dp X m (e::l) (Sb g o) :=
 (Zw p r C).mono λb M H Q c=>c.elim λB F T a E w t hd s k=>by
  cases a with
  | nil=>exact s.elim
  | cons d a =>
   cases b with
   | nil=>simp at t
   | cons v b =>
    refine⟨v,b,rfl,B,F,oI a b++T,d,_,w,hd,s,λf G L x y f1 d1 q=>⟨B,f,T,a,E,x,by simpa using t,d1,q,λh i u z A f2 d2 D=>k h i u z (A.trans y) (λj n=>(f2 j n).trans (f1 j n)) d2 D⟩⟩
theorem sK (o:X.calm=true) (h:Dp X m g l) (p:(assignEach g X.env).length=n:=by rfl) (j:(assignEach g X.env).findIdx? (·.1)=none:=by rfl):xX X m (.Tuple g k pos) (X0 n l) :=
 (Zm o h p j).mono λv x H Q b=>b.elim λB w T d u q hd c k=>by
  cases d with
  | t f =>
   obtain⟨a,s,rfl,i,e⟩:=hd.valAt.tup_inv;exact⟨a,s,rfl,mH.of i,by rw[<- e.length];exact c.1,B,w,T,f,u,q,e.length,hd.drop.pushs (A:=λ_=>True) e,c.2,k⟩
  | _=>exact c.elim
end
def AI (j:mK) (g:tR):pP:=λc b e=>j c e λr a=>match sd r with
 | some d=>g d a b.nx
 | none=>False
def uC:D->D->D->Ab D
 | .l b,.int i,d=>(rC b.length i).map λj=>.l (b.set j d)
 | .k a,k,d=>if a.length<100000 then (rE k).map λk=>.k (pM a k d) else none
 | .T a,.t c,d=>if a.length<100000 then (xE c).map λk=>.T (pM a k d) else none
 | _,_,_=>none
def Ix (i:Nat) (g j:mK):pP:=λf h q=>j f q λn a=>(at? a i).isSome=true/\g f a λm b=>match sd n,sd m,b[i]? with
 | some d,some k,some (.o c)=>∃ e,uC c k d=some e/\h.nx (b.set i (.o e))
 | _,_,_=>False
section
variable {X:Cx}{K:lJ}
theorem Go (o:PD X e I) (p:xX X m l g) (C:swapsWithSole [l] e pos.line X.env=pure false:=by rfl) (hw:swappedStores [l] e X.env=pure none:=by rfl)
  (j:(assignEach [l] X.env).map (·.2)=[assign l X.env]:=by rfl):sV X (.Assign [l] e pos) (AI I g):=(Bf o p C hw j).mono λz D H b=>b.elim λB x T y k hd n s=>⟨B,x,T,_,k,hd,n,λr c v A q d1 j=>by
 cases a:sd r with
 | none=>rw[a] at j;exact j.elim
 | some d =>
  rw[a] at j;exact⟨B,c,T,d,_,q,d1.thaw a,j,λf h i t u _ d2 w=>(s.1 f h i t u d2).1 w⟩⟩
def Qw:Gi:=λo i v H Q=>L6 o i v H Q\/∃ a b,o = .ref a/\wR H a i v b/\Q b
theorem Wc (j:X.A.units+1<cLine):Gb X Qw:=by
 intro b s t H o i v n m u Q I d c e h;rcases h with h | ⟨a,f,rfl,g,q⟩
 .exact En b s t H o i v n m u Q I d c e h
 .cases d;exact Vr j I g c e λw k=>⟨f,k,q⟩
theorem DS.slotW {g:Aa Sl}{j:St}(C:g.length=j.length) (h:DS K B (g.zip j++T) H){i:Nat}{c:D}(e:g[i]?=some (.o c)):∃ a,j[i]?=some (some (.ref a))/\oF K (Al B (gD (g.zip j++T))) H a c /\
  ∀ (o:HO) (l:D),(∀ p,Kp (Al B (gD (g.zip j++T))) p H (upd H a o)->oF K p (upd H a o) a l)->DS K B ((g.set i (.o l)).zip j++T) (upd H a o):=by
 obtain⟨q,y,s,m,_,n,b⟩:=vJ C e;have d:DS K B (q++(.o c,y)::(s++T)) H:=by rw[n] at h;simpa using h
 obtain⟨a,rfl,_⟩:=d.at;have f:gD (g.zip j++T)=gD q++a::gD (s++T):=by rw[n,bP,cX,qW];rfl
 obtain⟨v,t,r⟩:=d.ownAt;cases t;refine⟨a,m,by rw[f];exact r,λo l k=>?_⟩;rw[f] at k;have u:=d.write (o:=o) (d':=l) k;have:=b (.o l) (some (.ref a));rw[Bc m] at this;rw[this]
 simpa using u
theorem Yz (h:uC c k d=some p) (r:oF K A H a c) (J:mO K A H k y) (I:Rep K A H d v)
  (C:∀ o,(∀ g,Kp A g H (upd H a o)->oF K g (upd H a o) a p)->Q (upd H a o)):Qw (.ref a) y v H Q:=by
 cases c with
 | l M =>
  cases k with
  | int i =>
   obtain⟨m,s,n⟩:=r;obtain⟨j,u,rfl⟩:=cC.mp h;have:=J.int_inv;subst this;exact .inl ⟨a,m,i,j,rfl,rfl,s,by rw[<- n.length];exact u,C _ λg w=>⟨_,lU,(n.set I j).mono w⟩⟩
  | _=>cases h
 | k e =>
  obtain⟨m,s,q,n⟩:=r;have h:=(show (if e.length<100000 then (rE k).map λj=>D.k (pM e j d) else none)=some p from h);by_cases f:e.length<100000
  .rw[bA f] at h;obtain⟨j,u,rfl⟩:=cC.mp h;rw[Ap u J];obtain⟨z,B⟩:=Kf q n (k:=j) I;have x:m.length<sizeLine:=by
    have:=cN List.length q;simp only[aB] at this;exact aR (show m.length<100000 by omega) (by decide)
   exact .inr ⟨a,_,rfl,wR.k s x,C _ λg w=>⟨_,lU,z,B.mono w⟩⟩
  .rw[bF f] at h;cases h
 | T e =>
  cases k with
  | t F =>
   obtain⟨m,s,q,n⟩:=r;have h:=(show (if e.length<100000 then (xE F).map λj=>D.T (pM e j d) else none)=some p from h);by_cases f:e.length<100000
   .rw[bA f] at h;obtain⟨j,u,rfl⟩:=cC.mp h;obtain⟨b,L,rfl,E,G⟩:=J.tup_inv;rw[Mn u G] at E;obtain⟨z,B⟩:=Kf q n (k:=j) I;have x:m.length<sizeLine:=by
     have:=cN List.length q;simp only[aB] at this;exact aR (show m.length<100000 by omega) (by decide)
    exact .inr ⟨a,_,rfl,wR.t s E x,C _ λg w=>⟨_,lU,z,B.mono w⟩⟩
   .rw[bF f] at h;cases h
  | _=>cases h
 | _=>cases h
theorem Aj (U:X.A.units+1<cLine) (hv:PD X e tv) (I:PE X o (pR n)) (r:PD X i ti)
  (j:∀ v,assign (.Subscript o i g) X.env v=(do
   let l <- holding [v] (eval o X.env);let C <- holding [v,l] (eval i X.env)
   standAt g
   holding [v,l,C] (setItem l C v)
   release [v,l,C] []):=by intro _;rfl)
  (J:swapsWithSole [.Subscript o i g] e pos.line X.env=pure false:=by rfl) (hw:swappedStores [.Subscript o i g] e X.env=pure none:=by rfl)
  (p:(assignEach [.Subscript o i g] X.env).map (·.2)=[assign (.Subscript o i g) X.env]:=by rfl):sV X (.Assign [.Subscript o i g] e pos) (Ix n ti tv) :=
 (Bf hv (Fh I r (Wc U) j) J hw p).mono λDn σ H q=>q.elim λB ρ T De N hd P Q=>⟨B,ρ,T,_,N,hd,P,λF u v H1 D d1 t=>by
  obtain⟨r,p⟩:=t;obtain⟨d0,L⟩:=cL.mp r;obtain⟨x,z,_⟩:=d1.peek D L;refine⟨x,z,B,u,(F,some v)::T,_,D,d1,p,λY w y H2 E d2 b=>?_⟩;cases f:sd F with
  | none=>rw[f] at b;exact b.elim
  | some d =>
   cases h:sd Y with
   | none=>rw[f,h] at b;exact b.elim
   | some k =>
    cases m:w[n]? with
    | none=>rw[f,h,m] at b;exact b.elim
    | some s =>
     cases s with
     | n=>rw[f,h,m] at b;exact b.elim
     | v c=>rw[f,h,m] at b;exact b.elim
     | o c =>
      rw[f,h,m] at b;obtain⟨G,M,b⟩:=b;obtain⟨R,S,V⟩:=d2.two f h;obtain⟨a,j,W,Z⟩:=R.slotW E m;rw[z] at j;cases j;exact Yz M W V.peek S λo O=>(Q.1 _ _ _ (by rw[bO];exact E) rfl (Z o G O)).1 b⟩
def P9 (n:Nat) (f:Int->Int->Int) (g:mK):pP:=λd c b=>match at? b n with
 | some (.int i)=>g d b λr a=>match r with
  | .v (.int j)=>c.nx (a.set n (.v (.int (f i j))))
  | _=>False
 | _=>False
theorem G3 (j:X.N.Nodup) (p:X.N[n]?=some x) (I:uR X.env.scope x) (l:PD X e J) (C:E9 X op (Hx f)) (o:X.fn x=true\/X.env.scope.names.lookup x=some .local:=by first | exact .inl rfl | exact .inr rfl | assumption) :
  sV X (.AugAssign (.Name x g) op e pos) (P9 n f J):=(GA j p I l C o).mono λz A H h=>h.elim λB m T w i hd a t=>by
 unfold P9 at a;cases b:at? m n with
 | none=>rw[b] at a;exact False.elim a
 | some d =>
 rw[b] at a;cases d<;>first | exact False.elim a | skip
 .obtain⟨v,s,pv⟩:=hd.peek i b;have:=pv.int_inv;subst this;refine⟨_,s,B,m,T,_,i,hd,a,λr u y q k d1 c=>?_⟩;cases r<;>first | exact False.elim c | skip
  rename_i d
  cases d<;>first | exact False.elim c | skip
  have:=d1.valAt.int_inv;subst this;exact⟨_,_,rfl,rfl,(t.1 _ _ q (by rw[bO,bO];exact k) (bO ..) ((d1.drop.push (.int _)).assign k n)).1 c⟩
end
section
variable {X:Cx}
def X8 (K:lJ) (R:It->Hp->Prop) (x:V) (H:Hp):Prop:=(∃ a,x = .ref a/\(∃ b,gV K H a b)/\R (zJ K a) H)\/(∃ a,x = .ref a/\(∃ b,mH K H a b)/\R (F8 K a) H)\/∃ z:Af,x = .str z/\z.cps.all (·<128)=true/\R (tO z) H
def Sx (K:lJ) (g:TE):TI:=λb H R=>g b H λx a=>X8 K R x a
theorem Yo (g:PE X l j):PI X r l (Sx X.K j):=by
 intro d s G H R I h;refine lM (g d s G H _ I h) λv c u=>?_
 obtain⟨x,k,f,w,D⟩:=u;have m:∀ b∈[c.heap.objs.size],rV X d k b:=λb A=>by
  have e:b=c.heap.objs.size:=by simpa using A
  subst e;exact f.fpOk (aL _) (f.hok.fresh (aL _))
 rcases D with⟨a,rfl,⟨F,n⟩,q⟩ | ⟨a,rfl,⟨F,n⟩,q⟩ | ⟨z,rfl,y,q⟩
 .cases w;obtain⟨i,E,p,B⟩:=f.list n;exact eK p.isList ⟨c.heap.objs.size,[c.heap.objs.size],_,_,k,rfl,f.kept (t':=c.toks) λb o e=>aD _ e,Ko a _,⟨_,aQ _ rfl,rfl,rfl⟩,m,q⟩
 .cases w;obtain⟨i,E,p,B⟩:=f.tuple n;exact wpAny_pyIter_tuple (show c.heap.IsTuple a i.toArray from p) ⟨c.heap.objs.size,[c.heap.objs.size],_,_,k,rfl,f.kept (t':=c.toks) λb o e=>aD _ e,Y4 a _,⟨_,aQ _ rfl,rfl,rfl⟩,m,q⟩
 .obtain⟨t,rfl⟩:=w;exact wpAny_pyIter_ascii y ⟨c.heap.objs.size,[c.heap.objs.size],_,tO z,k,rfl,f.kept (t':=c.toks) λb L q=>aD _ q,Qg z t _,⟨_,aQ _ rfl,rfl,rfl⟩,m,q⟩
end
def xM (K:lJ) (A:Ad->Prop) (H:Hp) (E:mY):Prop:=∀ p∈E,sN K A H p.1 p.2
structure YD (K:lJ) (J:It) (ds:List D) (E:mY):Prop where
 vals:gD E=[]
 go:∀ i H A,i<ds.length->xM K A H E->J.go i H
 yld:∀ i H A x H',i<ds.length->xM K A H E->J.yld i H x H'->∃ d,ds[i]?=some d/\((H'=H/\Rep K A H d x)\/∃ p es vs,H p=none/\x = .ref p/\H'=upd H p (.t vs)/\d = .t es/\Reps K A H es vs)
 stop:∀ i H A,i=ds.length->xM K A H E->J.stop i H
abbrev uP:=Aa Ad->Aa Sl->(Aa D->Aa Sl->Prop)->Prop
def dI (K:lJ) (g:uP):TI:=λb H R=>∃ (B:Bs) (c:Aa Sl) (T:mY) (f:Aa D->Aa Sl->Prop),c.length=b.length/\DS K B (c.zip b++T) H/\g B.dk c f /\
 ∀ (J:It) (e:Aa D) (a:Aa Sl) (E:mY) (d:Hp),a.length=b.length->DS K B (a.zip b++(E++T)) d->YD K J e E->f e a->R J d
theorem dI.elim {K:lJ}{R:It->Hp->Prop}{P:Prop}(h:dI K C o H R) (f:∀ (B:Bs) (j:Aa Sl) (T:mY) (l:Aa D->Aa Sl->Prop),j.length=o.length->DS K B (j.zip o++T) H->C B.dk j l ->(∀ (J:It) (r:Aa D) (g:Aa Sl) (E:mY) (p:Hp),g.length=o.length->DS K B (g.zip o++(E++T)) p->YD K J r E->l r g->R J p)->P):P:=by
 obtain⟨B,j,T,l,a,hd,b,k⟩:=h;exact f B j T l a hd b k
abbrev wS (X:Cx) (g iter:Expr) (j:uP):Prop:=PI X g iter (dI X.K j)
theorem PI.mono {X:Cx}{iter:Expr}(h:PI X j iter w) (k:∀ g H R,l g H R->w g H R):PI X j iter l:=λa s g H R I q=>h a s g H R I (k g H R q)
noncomputable def yS (z:Af):Aa D:=z.cps.toList.map λc=>D.str ⟨#[c]⟩
def EG:D->Ab (Aa D)
 | .l a=>some a
 | .t a=>some a
 | .con a=>some a
 | .c a=>some a
 | .str z=>if z.cps.all (·<128) then some (yS z) else none
 | _=>none
def iV (g:mK):uP:=λb e d=>g b e λr a=>match (sd r).bind EG with
 | some c=>d c a
 | none=>False
noncomputable def qL (lo:Int) (n:Nat):Aa D:=(List.range n).map λ(i:Nat)=>D.int (lo+i)
def Pq (g:mK):uP:=λb d c=>g b d λr a=>match r with
 | .v (.int j)=>-(2 ^ 62)<=j/\j<2 ^ 62/\c (qL 0 j.toNat) a
 | _=>False
def R7 (g l:mK):uP:=λc f e=>g c f λr a=>l c a λd b=>match r,d with
 | .v (.int i),.v (.int j)=>(-(2 ^ 62)<=i/\i<2 ^ 62/\-(2 ^ 62)<=j/\j<2 ^ 62)/\e (qL i (j-i).toNat) b
 | _,_=>False
section
variable {X:Cx}{K:lJ}
theorem W9 {a:Ad}{g:Aa D}:YD K (zJ K a) g [(.v (.l g),some (.ref a))] where
 vals:=rfl
 go:=λi H A h ok=>by
  obtain⟨v,e,r⟩:=ok _ aH;cases e;obtain⟨k,b,e,_,c,f⟩:=r.lst_inv;cases e;exact⟨b,b[i]'(by rw[<- f.length];exact h),gV.of c,aJ _⟩
 yld:=λi H A x m h ok y=>by
  obtain⟨v,e,r⟩:=ok _ aH;cases e;obtain⟨k,b,e,_,c,f⟩:=r.lst_inv;cases e;obtain⟨d,hd,rd⟩:=f.getV (y.2 b (gV.of c));exact⟨d,hd,.inl ⟨y.1,rd⟩⟩
 stop:=λi H A h ok=>by
  obtain⟨v,e,r⟩:=ok _ aH;cases e;obtain⟨k,b,e,_,c,f⟩:=r.lst_inv;cases e;exact⟨b,gV.of c,by rw[<- f.length];omega⟩
theorem DB {a:Ad}{g:Aa D}:YD K (zJ K a) g [(.v (.c g),some (.ref a))] where
 vals:=rfl
 go:=λi H A k ok=>by
  obtain⟨v,e,r⟩:=ok _ aH;cases e;obtain⟨m,b,e,f,h⟩:=r.scr_inv;cases e;exact⟨b,b[i]'(by rw[<- h.length];exact k),f.sqL,aJ _⟩
 yld:=λi H A x n k ok y=>by
  obtain⟨v,e,r⟩:=ok _ aH;cases e;obtain⟨m,b,e,f,h⟩:=r.scr_inv;cases e;obtain⟨d,hd,rd⟩:=h.getV (y.2 b f.sqL);exact⟨d,hd,.inl ⟨y.1,rd⟩⟩
 stop:=λi H A k ok=>by
  obtain⟨v,e,r⟩:=ok _ aH;cases e;obtain⟨m,b,e,f,h⟩:=r.scr_inv;cases e;exact⟨b,f.sqL,by rw[<- h.length];omega⟩
theorem L4 {a:Ad}{d:D}{g:Aa D}(hd:d = .t g\/d = .con g):YD K (F8 K a) g [(.v d,some (.ref a))]:=by
 have key:∀ A H,xM K A H [(.v d,some (.ref a))]->∃ b,mH K H a b/\Reps K A H g b:=λA H ok=>by
  obtain⟨v,e,r⟩:=ok _ aH;cases e;rcases hd with rfl | rfl
  .obtain⟨k,b,e,c,f⟩:=r.tup_inv;cases e;exact⟨b,mH.of c,f⟩
  .obtain⟨k,b,e,c,f⟩:=r.con_inv;cases e;exact⟨b,c.sqT,f⟩
 refine⟨rfl,λi H A h ok=>?_,λi H A x m h ok y=>?_,λi H A h ok=>?_⟩
 .obtain⟨b,c,f⟩:=key A H ok;exact⟨b,b[i]'(by rw[<- f.length];exact h),c,aJ _⟩
 .obtain⟨b,c,f⟩:=key A H ok;obtain⟨d,hd,rd⟩:=f.getV (y.2 b c);exact⟨d,hd,.inl ⟨y.1,rd⟩⟩
 .obtain⟨b,c,f⟩:=key A H ok;exact⟨b,c,by rw[<- f.length];omega⟩
theorem Uz:YD K (tO z) (yS z) [] where
 vals:=rfl
 go:=λi H A a _=>by simpa [tO,yS,Str.length] using a
 yld:=λi H A x d a _ y=>by
  obtain⟨e,c,b,rfl⟩:=y;refine⟨.str ⟨#[c]⟩,?_,.inl ⟨e,.str _⟩⟩;unfold yS;rw[aV,eU,b];rfl
 stop:=λi H A a _=>by simp[tO,a,yS,Str.length]
theorem K2 {lo:Int}:YD K (rQ lo n) (qL lo n) [] where
 vals:=rfl
 go:=λi H A a _=>by simpa [rQ,qL] using a
 yld:=λi H A x c a _ y=>by
  have b:i<n:=by simpa [qL] using a
  refine⟨.int (lo+i),by simp[qL,b],.inl ⟨y.1,?_⟩⟩;rw[y.2];exact .int _
 stop:=λi H A a _=>by simp[rQ,qL,a]
theorem nV (g:PD X e j):wS X o e (iV j):=(Yo g).mono λM H R w=>w.elim λB L T G E hd F k=>⟨B,L,T,_,E,hd,F,λr f v n q d1 b=>by
 cases u:sd r with
 | none=>rw[u] at b;exact b.elim
 | some d =>
  rw[u] at b;have d2:=d1.thaw u;have s:=d2.valAt;cases d with
  | l m=>obtain⟨a,i,rfl,_,h,y⟩:=s.lst_inv;exact .inl ⟨a,rfl,⟨i,gV.of h⟩,k _ m f [_] n q d2 W9 b⟩
  | c m=>obtain⟨a,i,rfl,h,y⟩:=s.scr_inv;exact .inl ⟨a,rfl,⟨i,h.sqL⟩,k _ m f [_] n q d2 DB b⟩
  | t m=>obtain⟨a,i,rfl,h,y⟩:=s.tup_inv;exact .inr (.inl ⟨a,rfl,⟨i,mH.of h⟩,k _ m f [_] n q d2 (L4 (.inl rfl)) b⟩)
  | con m=>obtain⟨a,i,rfl,h,y⟩:=s.con_inv;exact .inr (.inl ⟨a,rfl,⟨i,h.sqT⟩,k _ m f [_] n q d2 (L4 (.inr rfl)) b⟩)
  | str z =>
   have:=s.str_inv;subst this;have b:=(show (match (if z.cps.all (·<128)=true then some (yS z) else none:Ab (Aa D)) with | some A=>G A f | none=>False) from b);by_cases x:z.cps.all (·<128)=true
   .rw[bA x] at b;exact .inr (.inr ⟨z,rfl,x,k _ _ f [] n q d2.drop Uz b⟩)
   .rw[bF x] at b;exact b.elim
  | _=>exact b.elim⟩
theorem Av (j:Gl X "range") (l:X.mg "range" = none) (g:PD X a I) (C:starEach [a] X.env=[(false,eval a X.env)]:=by rfl) (o:uI a=true:=by rfl):wS X J (.Call (.Name "range" p) [a] [] pos) (Pq I) :=
 (yW j l (lQ g lY o) C).mono λs H R c=>c.elim λB n T q h hd i k=>⟨B,n,T,_,h,hd,i,λr e v f m d1 b=>by
  cases r<;>first | exact False.elim b | skip
  rename_i d
  cases d<;>first | exact False.elim b | skip
  have:=d1.valAt.int_inv;subst this;exact⟨_,rfl,b.1,b.2.1,k _ _ e [] f m d1.drop K2 b.2.2⟩⟩
theorem E6 (C:Gl X "range") (I:X.mg "range" = none) (l:PD X a ta) (o:PD X b tb) (U:starEach [a,b] X.env=[(false,eval a X.env),(false,eval b X.env)]:=by rfl) (j:starEach [b] X.env=[(false,eval b X.env)]:=by rfl) (J:uI a=true:=by rfl) (g:uI b=true:=by rfl):wS X tg (.Call (.Name "range" p) [a,b] [] pos) (R7 ta tb) :=
 (Xt C I (lQ l (lQ o lY g) J) U j).mono λG H R d=>d.elim λB A T F q hd s k=>⟨B,A,T,_,q,hd,s,λr e v D t d1 n=>⟨B,e,(r,some v)::T,_,t,d1,n,λE f u h w d2 c=>by
  split at c
  .obtain⟨x,y,z⟩:=d2.two rfl rfl;have i:=y.int_inv;have m:=z.int_inv;subst i m;exact⟨_,_,rfl,c.1,k _ _ f [] h w x K2 c.2⟩
  .exact c.elim⟩⟩
def Gg (l:uP) (g:tR) (j:pP):pP:=λf b k=>l f k λh c=>∃ Pv:Nat->Aa Sl->Prop,Pv 0 c /\
 (∀ i d a,h[i]?=some d->Pv i a->g d a λe=>j f { nx:=Pv (i+1),ct:=Pv (i+1),bk:=b.nx,rt:=b.rt } e)/\∀ a,Pv h.length a->b.nx a
theorem DS.rmE:∀ {E:mY},DS K B (L++(E++T)) H->DS K B (L++T) H
 | [],h=>h
 | x::E,h=>DS.rmE (E:=E) (DS.drop (L1:=L) (x:=x) (by simpa using h))
theorem sQ {iter:Expr}{body:Aa Stmt}{o:uP}{g:tR}{j:pP}(hi:wS X l iter o) (hg:xX X 99 l g) (I:uD X body j) (hp:PassesOwn (model X.prog X.w) X.A X.env X.xe:=by exact dZ) (U:X.calm=true:=by rfl)
  (hs:∀ x,foldedSetIterable iter X.env x=pure x:=by intro _;rfl):sV X (.For l iter body [] pos) (Gg o g j) :=
 (Ew hp U hi hg I hs).mono λDn W H O=>O.elim λB ρ T De hl hd ht Q=>⟨B,ρ,T,_,hl,hd,ht,λJ F S E H1 l1 d1 Y P=>by
  obtain⟨Pv,p0,step,fin⟩:=P;refine⟨λi m c k=>m=F.length-i/\i<=F.length/\∃ a,a.length=c.length/\c.length=W.length/\DS X.K B (a.zip c++(E++T)) k/\Pv i a,⟨_,rfl,cS _,S,l1,rfl,d1,p0⟩,?_⟩;rintro i m c k ⟨rfl,aa,a,V,m2,L,pv⟩;have n:xM X.K (Al B (gD (a.zip c++(E++T)))) k E:=λq hq=>L.ok q (by simp[hq])
  by_cases s:i<F.length
  .refine .inr ⟨Y.go i k _ s n,λf t=>∃ b,b.length=f.length/\f.length=W.length/\DS X.K B (b.zip f++(E++T)) t/\Pv (i+1) b,λf t ⟨b,q1,q2,R,q4⟩=>⟨_,(by omega:F.length-(i+1)<_),rfl,s,b,q1,q2,R,q4⟩,λx t y=>?_⟩;obtain⟨d,M,alt⟩:=Y.yld i k _ x t s n y;have d2:DS X.K B (a.zip c++(.v d,some x)::(E++T)) t:=by
    rcases alt with⟨rfl,rx⟩ | ⟨p,es,vs,N,rfl,rfl,rfl,rr⟩
    .exact L.push rx
    .exact L.tup N rr
   refine⟨B,a,E++T,d,_,V,d2,step i d a M pv,λb f H3 n1 n2 _ Z R=>⟨B,b,E++T,_,n1,Z,R,?_,?_⟩⟩
   .intro e h G u a2 D;refine⟨λz=>⟨e,u,by omega,D,z⟩,λz=>?_,λz=>⟨e,u,by omega,D,z⟩⟩;exact (Q.1 e h G u (by omega) D.rmE).1 z
   .intro r v e h G u D z;refine Q.2 r v e h G u ?_ z;have:DS X.K B ((e.zip h++[(r,some v)])++(E++T)) G:=by simpa using D
    simpa using this.rmE
  .have C:i=F.length:=by omega
   subst C;exact .inl ⟨Y.stop _ k _ rfl n,(Q.1 a c k V m2 L.rmE).1 (fin a pv)⟩⟩
def Nq (c:qO) (g:pP):pP:=λi h d=>∃ (Pv:Aa Sl->Prop) (f:Aa Sl->Nat),Pv d/\∀ d,Pv d->c i d λb e =>
 if b=true then g i { nx:=λa=>Pv a/\f a<f d,ct:=λa=>Pv a/\f a<f d,bk:=h.nx,rt:=h.rt } e else h.nx e
theorem yA {c:Expr}{body:Aa Stmt}{j:qO}{g:pP}(p:PassesOwn (model X.prog X.w) X.A X.env X.xe) (o:rN X c j) (l:uD X body g):sV X (.While c body [] pos) (Nq j g) :=
 (AQ p o l).mono λI G H t=>t.elim λB Z T C N hd ⟨Pv,x,Q,step⟩ u=>by
  refine⟨λm f y=>∃ a,m=x a/\a.length=f.length/\f.length=G.length/\DS X.K B (a.zip f++T) y/\Pv a,⟨_,Z,rfl,N,rfl,hd,Q⟩,?_⟩;rintro m f y ⟨a,rfl,O,P,M,pv⟩;refine⟨B,a,T,_,O,M,step a pv,λb q L F d1 E=>?_⟩;cases b with
  | true =>
   refine (bA rfl).mpr ⟨λh D=>∃ d,d.length=h.length/\h.length=G.length/\DS X.K B (d.zip h++T) D/\Pv d/\x d<x a,λh D ⟨d,R,S,V,W,Y⟩=>⟨_,Y,d,rfl,R,S,V,W⟩,B,q,T,_,F,d1,(bA rfl).mp E,?_,?_⟩
   .intro e i s k J n;exact⟨λz=>⟨e,k,by omega,n,z⟩,λz=>(u.1 e i s k (by omega) n).1 z,λz=>⟨e,k,by omega,n,z⟩⟩
   .exact λr v e i s k n z=>u.2 r v e i s k n z
  | false=>exact xR ((u.1 q f L F P d1).1 ((bF (by decide)).mp E))
end
def mP (B:Bs) (D:Ad) (g:Aa V):Bs:=⟨B.dk,λa=>(B.A0 a\/B.H0 a=none)/\a≠D,λa=>if a=D then some (.l g) else B.H0 a⟩
section
variable {K:lJ}{R:mY}{D:Ad}
theorem Bv {R:Aa Ad}:Al (mP B D g) R a↔Al B R a/\a≠D:=by
 unfold Al mP;constructor
 .rintro ⟨c,d,b | b⟩
  .exact⟨⟨c,d,b.1⟩,b.2⟩
  .dsimp only at b;by_cases z:a=D
   .rw[bA z] at b;cases b
   .rw[bF z] at b;exact⟨⟨c,d,.inr b⟩,z⟩
 .rintro ⟨⟨c,d,b⟩,e⟩;exact⟨c,d,.inl ⟨b,e⟩⟩
theorem DS.pin (h:DS K B L H) (g:H D=none):DS K (mP B D []) L (upd H D (.l [])):=by
 obtain⟨f1,f2,d⟩:=h.free g;refine⟨λb o e n=>?_,h.dk.upd f2,h.nd,λa c=>?_,λp f=>(h.ok p f).mono (.laid g λa z n=>Bv.mpr ⟨z,n⟩) λb i o q=>by rw[lO (mF q g)];exact q⟩
 .by_cases z:b=D
  .subst z;simp only[mP,eV] at e;cases e;exact lU
  .simp only[mP,bF z] at e;rw[lO z];exact h.fr b o e n
 .have:=h.new a c;have z:a≠D:=λq=>d (q▸c)
  exact⟨by simp only[mP,bF z];exact this.1,this.2⟩
theorem DS.pinAt (h:DS K (mP B D j) L H) (g:D∉B.dk):H D=some (.l j):=h.fr D _ (by simp[mP]) g
theorem DS.pinW (h:DS K (mP B D j) L H) (g:D∉B.dk):DS K (mP B D ys') L (upd H D (.l ys')):=by
 have d:=h.pinAt g;have k:Kp (Al (mP B D j) (gD L)) (Al (mP B D ys') (gD L)) H (upd H D (.l ys')) :=
  (Kp.write (A:=Al (mP B D j) (gD L)) d rfl λz=>(Bv.mp z).2 rfl).trans (.all λa z=>Bv.mpr (Bv.mp z))
 refine⟨λb o e n=>?_,h.dk.upd g,h.nd,λa f=>?_,λp c=>(h.ok p c).mono k λb i o q=>?_⟩
 .by_cases z:b=D
  .subst z;simp only[mP,eV] at e;cases e;exact lU
  .simp only[mP,bF z] at e;rw[lO z];exact h.fr b o (by simp only[mP,bF z];exact e) n
 .have:=h.new a f;have z:a≠D:=λq=>by subst q;simp[mP] at this
  simp only[mP,bF z] at this |-;exact this
 .have:=(h.new b (uF.mpr ⟨p,c,i⟩)).1;have z:b≠D:=λw=>by subst w;simp[mP] at this
  rw[lO z];exact q
theorem DS.unpin (h:DS K (mP B D g) L H) (r:Reps K (Al (mP B D g) (gD L)) H I g) (j:B.H0 D=none) (C:D∉B.dk):DS K B ((.o (.l I),some (.ref D))::L) H:=by
 have k:=h.pinAt C;have i:D∉gD L:=λz=>by have:=(h.new D z).1;simp[mP] at this
 have c:gD ((Sl.o (.l I),some (V.ref D))::L)=D::gD L:=rfl;have al:∀ a,Al (mP B D g) (gD L) a->Al B (D::gD L) a:=λa z=>by
  obtain⟨d,s⟩:=Bv.mp z;exact⟨d.1,λq=>(aF.mp q).elim s d.2.1,d.2.2⟩
 refine⟨λb o e n=>?_,h.dk,by rw[c];exact cH.mpr ⟨i,h.nd⟩,λa f=>?_,λp m=>?_⟩
 .have z:b≠D:=λq=>by subst q;rw[j] at e;cases e
  exact h.fr b o (by simp only[mP,bF z];exact e) n
 .rw[c] at f;rcases aF.mp f with q | q
  .subst q;exact⟨j,C⟩
  .have:=h.new a q;have z:a≠D:=λw=>i (w▸q)
   simp only[mP,bF z] at this;exact this
 .rw[c];rcases aF.mp m with q | q
  .subst q;exact⟨D,rfl,g,k,r.mono (.all al)⟩
  .exact (h.ok p q).mono (.all al) λ_ _ _ w=>w
theorem DS.lend1 {g:Aa Sl}{j:St}(l:g.length=j.length) (h:DS K B (g.zip j++R) H) (i:Nat):DS K B ((g.set i .n).zip j++((g[i]?).getD .n,(j[i]?).join)::R) H:=by
 by_cases d:i<g.length
 .obtain⟨b,y,c,f,_,t,a⟩:=vJ l (aJ d);rw[t] at h;have k:DS K B (b++(g[i],y)::(c++R)) H:=by simpa using h
  have m:=k.front;have q:DS K B (((g[i],y)::b)++(.n,y)::(c++R)) H:=DS.pushN (L1:=(g[i],y)::b) (by simpa using m) y;have e:=a .n y;rw[Bc f] at e;rw[e,aJ d,f];have s:DS K B ((g[i],y)::((b++(Sl.n,y)::c)++R)) H:=by simpa using q
  exact s.mid
 .rw[fY (by omega),dU (by omega),dU (by omega)];exact h.pushN _
theorem DS.back1 {g:Aa Sl}{l:St}{s:Sl}{y:Ab V}(o:g.length=l.length) (h:DS K B (g.zip l++(s,y)::R) H){i:Nat}(j:(l[i]?).join=y):DS K B ((g.set i s).zip l++R) H:=by
 by_cases q:i<g.length
 .obtain⟨d,a,f,c,_,t,b⟩:=vJ o (aJ q);rw[c] at j;have j:a=y:=j;subst j;have e:=b s a;rw[Bc c] at e;rw[e];rw[t] at h;have k:DS K B (d++(f++(s,a)::R)) H:=DS.drop (L1:=d) (x:=(g[i],a)) (by simpa using h);have m:DS K B ((d++f)++(s,a)::R) H:=by simpa using k
  have n:DS K B ((s,a)::(d++(f++R))) H:=by simpa using m.front
  simpa using n.mid
 .rw[fY (by omega)];exact h.drop
def nR (g:Aa Nat) (j:Aa Sl):Aa Sl:=g.map λi=>(j[i]?).getD .n
def qD (g:Aa Nat) (j:St):St:=g.map λi=>(j[i]?).join
def oD (g:Aa Nat) (j:Aa Sl):Aa Sl:=g.foldl (λj i=>j.set i .n) j
def oQ:Aa Nat->Aa Sl->Aa Sl->Aa Sl
 | i::a,s::c,b=>oQ a c (b.set i s)
 | _,_,b=>b
theorem G9:∀ (g:Aa Nat) (j:Aa Sl),(oD g j).length=j.length
 | [],_=>rfl
 | i::g,j=>by show (oD g (j.set i .n)).length=_;rw[G9 g,bO]
theorem Pa:∀ (g:Aa Nat) (l:Aa Sl) (j:Aa Sl),(oQ g l j).length=j.length
 | [],_,_=>rfl
 | _::_,[],_=>rfl
 | i::g,s::l,j=>(Pa g l (j.set i s)).trans (bO ..)
theorem DS.lend:∀ {caps:Aa Nat}{g:Aa Sl}{R:mY},caps.Nodup->g.length=l.length->DS K B (g.zip l++R) H->DS K B ((oD caps g).zip l++((nR caps g).zip (qD caps l)++R)) H
 | [],g,R,_,a,h=>h
 | i::caps,g,R,d,a,h=>by
  obtain⟨f,k⟩:=cH.mp d;have b:=DS.lend (caps:=caps) (R:=((g[i]?).getD .n,(l[i]?).join)::R) k (by rw[bO];exact a) (h.lend1 a i);have e:nR caps (g.set i .n)=nR caps g:=iN λj c=>by rw[eA (λz:i=j=>f (by rw[z];exact c))]
  rw[e] at b;show DS K B ((oD caps (g.set i .n)).zip l++((((g[i]?).getD .n,(l[i]?).join)::(nR caps g).zip (qD caps l))++R)) H;refine b.perm (jM _ ?_);rw[cX];exact jQ
theorem DS.back:∀ {caps:Aa Nat}{cs:Aa Sl}{g:Aa Sl}{R:mY},cs.length=caps.length->g.length=j.length->DS K B (g.zip j++(cs.zip (qD caps j)++R)) H->DS K B ((oQ caps cs g).zip j++R) H
 | [],[],g,R,_,a,h=>h
 | [],_::_,_,_,e,_,_=>by simp at e
 | _::_,[],_,_,e,_,_=>by simp at e
 | i::caps,s::cs,g,R,e,a,h=>by
  have b:DS K B (g.zip j++(s,(j[i]?).join)::(cs.zip (qD caps j)++R)) H:=h;exact DS.back (caps:=caps) (cs:=cs) (by simpa using e) (by rw[bO];exact a) (b.back1 a rfl)
theorem FF (g:Aa Nat):∀ (o:Aa Sl) (l:Aa Sl),o.length=g.length->g.Nodup->oQ g o (oD g l)=oQ g o l:=by
 have ext:∀ (g:Aa Nat) (o:Aa Sl) (l a:Aa Sl),o.length=g.length->l.length=a.length->(∀ j,j∉g->l[j]?=a[j]?)->oQ g o l=oQ g o a:=by
  intro g;induction g with
  | nil=>intro o l a _ _ h;cases o<;>exact kS λj=>h j bH
  | cons i g c =>
   intro o l a e d h;cases o with
   | nil=>simp at e
   | cons s o =>
    show oQ g o (l.set i s)=oQ g o (a.set i s);refine c o _ _ (by simpa using e) (by simp[d]) λj b=>?_
    by_cases z:j=i
    .subst z;rw[List.getElem?_set,List.getElem?_set,d,bA rfl,bA rfl]
    .rw[eA (cO z),eA (cO z)];exact h j λq=>(aF.mp q).elim z b
 intro o l e _;refine ext g o _ _ e (G9 g l) λj b=>?_
 have:∀ (g:Aa Nat) (l:Aa Sl),j∉g->(oD g l)[j]?=l[j]?:=by
  intro g;induction g with
  | nil=>intro l _;rfl
  | cons i g c =>
   intro l b;show (oD g (l.set i .n))[j]?=_;rw[c _ (λz=>b (aN _ z)),eA (λz=>b (by simp[z]))]
 exact this g l b
theorem Qb:∀ {g:Aa L2.D}{j:Aa V},g.length=j.length->(∀ p∈oI g j,sN K A H p.1 p.2)->Reps K A H g j
 | [],[],_,_=>.nil
 | [],_::_,e,_=>by simp at e
 | _::_,[],e,_=>by simp at e
 | c::g,y::j,e,key=>by
  obtain⟨u,b,r⟩:=key (.v c,some y) (by simp[oI]);cases b;exact .cons r (Qb (by simpa using e) λp a=>key p (by simp only[oI,cU,aZ,aF] at a |-;exact .inr a))
theorem DS.forget {ρ:Aa Sl}(n:Nat) (g:ρ.length=σ.length) (j:n<=ρ.length) (h:DS K B (ρ.zip σ++R) H):DS K B ((List.replicate n Sl.n++ρ.drop n).zip σ++R) H:=by
 induction n generalizing ρ σ R with
 | zero=>simpa using h
 | succ n c =>
  cases ρ with
  | nil=>simp at j
  | cons r ρ =>
   cases σ with
   | nil=>simp at g
   | cons y σ =>
    have a:DS K B (ρ.zip σ++R) H:=DS.drop (L1:=[]) (x:=(r,y)) h;have b:=c (ρ:=ρ) (σ:=σ) (R:=R) (by simpa using g) (by simpa using j) a;rw[cB,cX,List.drop_succ_cons,cU];exact DS.pushN (L1:=[]) b y
end
def Ib:qO:=λ_ b a=>a true b
def vG (n:Nat) (j:Aa Nat) (I:uP) (g:tR) (C:qO) (p:mK):mK:=λk u t=>I k u λs f=>∃ Pv:Nat->Aa D->Aa Sl->Prop,Pv 0 [] (nR j f) /\
 (∀ i d e a,s[i]?=some d->a.length=j.length->Pv i e a->g d (List.replicate n Sl.n++a) λm=>C k m λb h=>if b=true then p k h λr q=>match sd r with
  | some c=>e.length<100000/\Pv (i+1) (e++[c]) (q.drop n)
  | none=>False
  else Pv (i+1) e (h.drop n)) /\
 ∀ e a,a.length=j.length->Pv s.length e a->t (.o (.l e)) (oQ j a f)
section
variable {X:Cx}
theorem Mt:vO X [] (tI X.K Ib):=λa s f H Q I b=>b.elim λB e T h c hd d k=>Cw a s f H Q I (k true e H c hd d)
theorem F4 (h:rN X c t):vO X [c] (tI X.K t):=Rw h
theorem Zh {T:Aa Af}{C:Aa Nat}{g:tR}{tt:qO}{te:mK}{K:lJ}(ac:C.Nodup){σ:St}{H1:Hp}{Q:VK}{B:Bs}{I:Aa Sl}{Tm:mY}{Φ:Sl->Aa Sl->Prop}{J:It}{ds:Aa L2.D}{D:Ad}(l1:I.length=σ.length) (d1:DS K B (I.zip σ++Tm) H1)
  (hJ:∀ i U La M H,(∀ q∈Tm,q∈M)->DS K (mP B D U) (La++M) H->(i<ds.length->J.go i H)/\(i=ds.length->J.stop i H)/\∀ x H2,i<ds.length->J.yld i H x H2->∃ d,ds[i]?=some d/\DS K (mP B D U) (La++(.v d,some x)::M) H2)
  (ag:∃ Pv:Nat->Aa L2.D->Aa Sl->Prop,Pv 0 [] (nR C I) /\ (∀ i d U cs,ds[i]?=some d->cs.length=C.length->Pv i U cs->g d (List.replicate T.length Sl.n++cs) λaf=>tt B.dk af λb ab=>if b=true then te B.dk ab λr aa=>match sd r with
    | some c=>U.length<100000/\Pv (i+1) (U++[c]) (aa.drop T.length)
    | none=>False
    else Pv (i+1) U (ab.drop T.length)) /\
   ∀ U cs,cs.length=C.length->Pv ds.length U cs->Φ (.o (.l U)) (oQ C cs I))
  (k:∀ r ae v H',ae.length=σ.length->DS K B (ae.zip σ++(r,some v)::Tm) H'->Φ r ae->Q v H') (hD:H1 D=none):A4 T C J (dG K T.length g) (tI K tt) (dE K te) σ H1 Q D:=by
 obtain⟨Pv,p0,step,fin⟩:=ag;obtain⟨f1,f2,f3⟩:=d1.free hD;refine⟨λi m U s H'=>m=ds.length-i/\i<=ds.length/\s.length=T.length+C.length/\(∀ j,T.length<=j->s[j]?=(qM T C σ)[j]?)/\∃ (h:Aa L2.D) (cs:Aa Sl),cs.length=C.length/\h.length=U.length /\ DS K (mP B D U) ((List.replicate T.length Sl.n++cs).zip s++((oD C I).zip σ++(oI h U++Tm))) H'/\Pv i h cs,?_,?_⟩
 .refine⟨_,rfl,cS _,by simp[qM],λ_ _=>rfl,[],nR C I,by simp[nR],rfl,?_,p0⟩;have h2:=(d1.lend ac l1).pin hD;have e:(List.replicate T.length Sl.n++nR C I).zip (qM T C σ)=List.replicate T.length (Sl.n,none)++(nR C I).zip (qD C σ):=by
   have:∀ n,(List.replicate n Sl.n++nR C I).zip (List.replicate n none++qD C σ)=List.replicate n (Sl.n,none)++(nR C I).zip (qD C σ):=by
    intro n;induction n with
    | zero=>rfl
    | succ n ih=>simp only[cB,cX,cU,ih]
   have W:qM T C σ=List.replicate T.length none++qD C σ:=by unfold qM qD;rw[List.map_const']
   rw[W];exact this _
  rw[e];have h3:DS K (mP B D []) ((nR C I).zip (qD C σ)++((oD C I).zip σ++Tm)) (upd H1 D (.l [])):=h2.perm (by
   rw[<- bP,<- bP (as:=(nR C I).zip (qD C σ))];exact List.perm_append_comm.append_right _)
  have:∀ n,DS K (mP B D []) (List.replicate n (Sl.n,none)++((nR C I).zip (qD C σ)++((oD C I).zip σ++Tm))) (upd H1 D (.l [])):=by
   intro n;induction n with
   | zero=>exact h3
   | succ n ih=>rw[cB];exact DS.pushN (L1:=[]) ih none
  have e3:oI ([]:Aa L2.D) ([]:Aa V)=[]:=rfl;rw[e3]
  simpa using this T.length
 .rintro i m U s H' ⟨rfl,hi,ls,fs,h,cs,G,z,N,pv⟩;obtain⟨j1,j2,j3⟩:=hJ i U _ _ H' (λq hq=>by simp[hq]) N;by_cases w:i<ds.length
  .refine .inr ⟨j1 w,λf v R=>f.length=T.length+C.length/\(∀ j,T.length<=j->f[j]?=(qM T C σ)[j]?)/\U.length<100000/\∃ (c:L2.D) (aa:Aa Sl),aa.length=f.length/\DS K (mP B D U) (aa.zip f++(.v c,some v)::((oD C I).zip σ++(oI h U++Tm))) R/\Pv (i+1) (h++[c]) (aa.drop T.length),λf P=>f.length=T.length+C.length/\(∀ j,T.length<=j->f[j]?=(qM T C σ)[j]?)/\∃ aa:Aa Sl,aa.length=f.length/\DS K (mP B D U) (aa.zip f++((oD C I).zip σ++(oI h U++Tm))) P/\Pv (i+1) h (aa.drop T.length),?_,?_,λx H2 y=>?_⟩
   .rintro f v R ⟨q1,q2,q3,c,aa,A,t,q6⟩;refine⟨t.pinAt f2,aR q3 (by decide),ds.length-(i+1),by omega,rfl,w,q1,q2,h++[c],aa.drop T.length,by rw[dN];omega,by simp[z],?_,q6⟩;have w1:=(t.pinW (ys':=U++[v]) f2).forget T.length A (by omega);refine w1.perm (jM _ ?_);have ev:oI (h++[c]) (U++[v])=oI h U++[(.v c,some v)]:=by unfold oI;rw[List.zip_append z,List.map_append];rfl
    rw[ev];have p1:((Sl.v c,some v)::((oD C I).zip σ++(oI h U++Tm))).Perm ((oD C I).zip σ++(oI h U++((Sl.v c,some v)::Tm))):=by
     rw[<- bP,<- bP (as:=(oD C I).zip σ)];exact jQ.symm
    simpa using p1
   .rintro f P ⟨q1,q2,aa,A,t,q6⟩;exact⟨ds.length-(i+1),by omega,rfl,w,q1,q2,h,aa.drop T.length,by rw[dN];omega,z,t.forget T.length A (by omega),q6⟩
   .obtain⟨d,Z,d2⟩:=j3 x H2 w y;refine⟨mP B D U,_,_,d,_,by simp[G,ls],d2,step i d h cs Z G pv,λaf f H3 n1 n2 fr d3 q3=>⟨mP B D U,af,_,_,n1,d3,q3,λb ab P m1 d4 A=>?_⟩⟩;have F:∀ j,T.length<=j->f[j]?=(qM T C σ)[j]?:=λj O=>(fr j O).trans (fs j O)
    cases b with
    | false=>exact xR ⟨by omega,F,ab,m1,d4,(bF (by decide)).mp A⟩
    | true =>
     refine (bA rfl).mpr ⟨mP B D U,ab,_,_,m1,d4,(bA rfl).mp A,λr aa v R m4 d5 t=>?_⟩;cases S:sd r with
     | none=>rw[S] at t;exact t.elim
     | some c =>
      rw[S] at t;exact⟨by omega,F,by rw[<- z];exact t.1,c,aa,m4,d5.thaw S,t.2⟩
  .have ei:i=ds.length:=by omega
   subst ei;refine .inl ⟨j2 rfl,?_⟩;have es:s=s.take T.length++qD C σ:=by
    apply kS;intro j;by_cases O:j<T.length
    .rw[fR (by rw[bR];omega),List.getElem?_take_of_lt O]
    .rw[dF (by rw[bR];omega),bR,fs j (by omega)];have W:qM T C σ=List.replicate T.length none++qD C σ:=by unfold qM qD;rw[List.map_const']
     rw[W,dF (by rw[eT];omega),eT]
     congr 1
     omega
   have ez:(List.replicate T.length Sl.n++cs).zip s=(List.replicate T.length Sl.n).zip (s.take T.length)++cs.zip (qD C σ):=by
    conv=>lhs;rw[es]
    exact lE (by rw[eT,bR];omega)
   have rr:Reps K (Al (mP B D U) (gD ((oQ C cs (oD C I)).zip σ++Tm))) H' h U/\DS K (mP B D U) ((oQ C cs (oD C I)).zip σ++Tm) H':=by
    have g1:DS K (mP B D U) (cs.zip (qD C σ)++((oD C I).zip σ++(oI h U++Tm))) H':=by
     rw[ez,bP] at N;exact DS.rmE (L:=[]) (E:=(List.replicate T.length Sl.n).zip (s.take T.length)) N
    have g2:DS K (mP B D U) ((oD C I).zip σ++(cs.zip (qD C σ)++(oI h U++Tm))) H':=g1.perm (by
     rw[<- bP,<- bP (as:=(oD C I).zip σ)];exact List.perm_append_comm.append_right _)
    have g3:=g2.back G (by rw[G9];exact l1);have Y:DS K (mP B D U) ((oQ C cs (oD C I)).zip σ++(oI h U++Tm)) H':=g3;refine⟨?_,Y.rmE⟩;have er:gD ((oQ C cs (oD C I)).zip σ++(oI h U++Tm))=gD ((oQ C cs (oD C I)).zip σ++Tm):=by
     have:gD (oI h U)=[]:=by
      refine gC.mpr λa ha=>?_
      obtain⟨q,hq,e⟩:=uF.mp ha;obtain⟨p,_,rfl⟩:=aG.mp hq;cases e
     rw[qG,qG,qG,this,lC]
    have key:∀ p∈oI h U,sN K (Al (mP B D U) (gD ((oQ C cs (oD C I)).zip σ++Tm))) H' p.1 p.2:=λp hp=>by
     have:=Y.ok p (by simp[hp]);rw[er] at this;exact this
    clear g1 g2 g3 Y er N ez es;revert key z;generalize Al (mP B D U) (gD ((oQ C cs (oD C I)).zip σ++Tm))=AA;intro z key;exact Qb z key
   have u:=DS.unpin rr.2 rr.1 f1 f2;rw[FF C cs I G ac] at u;exact k _ _ _ H' (by rw[Pa];exact l1) u.mid (fin h cs G pv)
theorem K5 {K:lJ}(o:j.Nodup) (h:dE K (vG T.length j ι g U I) C H Q) :
  Fy T j (dI K ι) (dG K T.length g) (tI K U) (dE K I) C H Q:=by
 obtain⟨B,R,Tm,Φ,A,hd,G,k⟩:=h;refine⟨B,R,Tm,_,A,hd,G,λJ W S E V L d1 Y z D u=>Zh o (Tm:=E++Tm) L d1 (λi P s M H w d=>?_) z (λr c v m l d h=>k r c v m l (by
  have:DS K B ((c.zip C++[(r,some v)])++(E++Tm)) m:=by simpa using d
  simpa using this.rmE) h) u⟩
 have a:xM K (Al (mP B D P) (gD (s++M))) H E:=λq F=>d.ok q (by simp[w q (by simp[F])])
 refine⟨λb=>Y.go i H _ b a,λb=>Y.stop i H _ b a,λx n b y=>?_⟩;obtain⟨t,e,alt⟩:=Y.yld i H _ x n b a y;refine⟨t,e,?_⟩;rcases alt with⟨rfl,O⟩ | ⟨p,Z,vs,f,rfl,rfl,rfl,N⟩
 .exact d.push O
 .exact d.tup f N
theorem pV {iter:Expr}(T o:Aa Af) (r:Aa Nat) (hi:wS X tg iter ι)
  (hg:∀ p l C I J,xX (sS X (T++o) j I C p l J) T.length tg g)
  (he:∀ p l C I J,PD (sS X (T++o) j I C p l J) aa te)
  (ht:∀ p l C I J,vO (sS X (T++o) j I C p l J) ab (tI X.K tt):=by exact λ_ _ _ _ _=>Mt) (hc:X.calm=true:=by rfl) (hk:j.kind = .function:=by rfl) (ho:Cj X.N X.env.kindOf j T o r=true:=by rfl) (U:r.Nodup:=by decide) (hs:∀ x,foldedSetIterable iter X.env x=pure x:=by intro _;rfl):PD X (.ListComp aa [⟨tg,iter,ab,0⟩] j pos) (vG T.length r ι g tt te) :=
 (Bm T o r hc hi hk ho hg ht he hs).mono λ_ _ _ h=>K5 U h
theorem uW (i:Nat){iter:Expr}(T o:Aa Af) (I:Aa Nat) (hN:X.N.Nodup) (hi:wS X tg iter ι) (hg:∀ p l C J fp,xX (sS X (T++o) j J C p l fp) T.length tg g)
  (he:∀ p l C J fp,PD (sS X (T++o) j J C p l fp) U te)
  (ht:∀ p l C J fp,vO (sS X (T++o) j J C p l fp) ab (tI X.K tt):=by exact λ_ _ _ _ _=>Mt) (hc:X.calm=true:=by rfl) (hk:j.kind = .function:=by rfl) (ho:Cj X.N X.env.kindOf j T o I=true:=by rfl) (af:X.N[i]?=some x:=by rfl) (hx:uR X.env.scope x:=by first | exact Or.inl rfl | exact Or.inr rfl) (aa:I.Nodup:=by decide)
  (ag:swapsWith (.ListComp U [⟨tg,iter,ab,0⟩] j pos) (some (.Name x ac)) ae.line X.env=pure true:=by rfl)
  (hs:∀ x,foldedSetIterable iter X.env x=pure x:=by intro _;rfl)
  (hf:X.fn x=true\/X.env.scope.names.lookup x=some .local:=by first | exact .inl rfl | exact .inr rfl | assumption) :
  sV X (.Assign [.Name x ac] (.ListComp U [⟨tg,iter,ab,0⟩] j pos) ae) (qQ i (vG T.length I ι g tt te)) :=
 (Vi T o I hN af hx hc hi hk ho hg ht he ag hs hf).mono λn q H a=>a.elim λB h Tm m e hd ht f=>K5 aa ⟨B,h,Tm,_,e,hd,ht,λr k v c b d1 d=>(f.1 _ _ c (by rw[bO,bO];exact b) (bO ..) (d1.assign b i)).1 d⟩
end
section
variable {X:Cx}{K:lJ}
theorem rH (h:Peeks K A H [d] g):∃ x,g=[x]/\mO K A H d x:=by
 cases h with | cons h r=>cases r;exact⟨_,rfl,h⟩
theorem yV (h:Peeks K A H [d,e] j):∃ x y,j=[x,y]/\mO K A H d x/\mO K A H e y:=by
 cases h with | cons h r=>cases r with | cons g r=>cases r;exact⟨_,_,rfl,h,g⟩
def Xf:D->Ab Nat
 | .l a=>some a.length
 | .t a=>some a.length
 | .con a=>some a.length
 | .c a=>some a.length
 | .str z=>some z.length
 | .k b=>some b.length
 | _=>none
def W0:OC:=λa b=>match a with
 | [d]=>Jh d=true/\∃ n,Xf d=some n/\b (.v (.int n))
 | _=>False
def Oe (K:lJ):Aa V->Hp->VK->Prop:=λc H Q=>(∃ p d,c=[.ref p]/\(gV K H p d\/mH K H p d)/\Q (.int d.length) H)\/(∃ z,c=[.str z]/\z.length<=sizeLine/\Q (.int z.length) H)\/∃ a b,c=[V.ref a]/\H a=some (.k b)/\Q (.int b.length) H
theorem pE:mU X (.builtin "len") (Oe X.K):=vV.or (Md.or AB)
theorem oY:qC K (Oe K) W0:=by
 intro B L H m t u Q hd q i k;cases m with
 | nil=>exact False.elim i
 | cons d m =>
 cases m with
 | cons _ _=>exact False.elim i
 | nil =>
 obtain⟨x,rfl,f⟩:=rH q;obtain⟨s,n,c,i⟩:=i;have fin:Q (.int n) H:=k _ _ H i (hd.pushF (.int _));cases d<;>first | (cases c;done) | skip
 .cases c;have:=f.str_inv;subst this;exact .inr (.inl ⟨_,rfl,xQ (dR s),fin⟩)
 .cases c;obtain⟨a,b,rfl,h,r⟩:=f.tup_inv;exact .inl ⟨a,b,rfl,.inr (mH.of h),by rw[<- r.length];exact fin⟩
 .cases c;obtain⟨a,b,rfl,h,r⟩:=f.lst_inv;exact .inl ⟨a,b,rfl,.inl (gV.of h),by rw[<- r.length];exact fin⟩
 .cases c;obtain⟨a,b,rfl,h,e,r⟩:=f.dK_inv;refine .inr (.inr ⟨a,b,rfl,h,?_⟩);have:=cN List.length e;rw[aB,aB] at this;rw[<- this];exact fin
 .cases c;obtain⟨a,b,rfl,h,r⟩:=f.scr_inv;exact .inl ⟨a,b,rfl,.inl h.sqL,by rw[<- r.length];exact fin⟩
 .cases c;obtain⟨a,b,rfl,h,r⟩:=f.con_inv;exact .inl ⟨a,b,rfl,.inr h.sqT,by rw[<- r.length];exact fin⟩
noncomputable def rT:Aa D->Ab (Aa Int)
 | []=>some []
 | .int i::a=>(rT a).map (i::·)
 | _=>none
theorem yZ:∀ (g:Aa Int),rT (g.map D.int)=some g
 | []=>rfl
 | n::g=>by
  show (rT (g.map D.int)).map (n::·)=_;rw[yZ g];rfl
theorem Bi (h:rT j=some l) (g:Reps K A H j o):o=l.map V.int:=by
 induction j generalizing l o with
 | nil=>cases g;cases h;rfl
 | cons d j b =>
  cases g with
  | cons r g =>
  cases d with
  | int i =>
   obtain⟨c,a,rfl⟩:=cC.mp h;rw[r.int_inv,b a g];rfl
  | _=>cases h
def HF:OC:=λb d=>match b with
 | [.l c]=>∃ a,rT c=some a/\d (.v (.int a.sum))
 | _=>False
def Gm:OC:=λd c=>match d with
 | [.l e]=>∃ b,rT e=some b/\b≠[]/\∀ m:Int,m∈b->(∀ a∈b,m<=a)->c (.v (.int m))
 | [.int i,.int j]=>∀ m:Int,(m=i\/m=j)->m<=i->m<=j->c (.v (.int m))
 | _=>False
def Zr:OC:=λd c=>match d with
 | [.l e]=>∃ b,rT e=some b/\b≠[]/\∀ m:Int,m∈b->(∀ a∈b,a<=m)->c (.v (.int m))
 | [.int i,.int j]=>∀ m:Int,(m=i\/m=j)->i<=m->j<=m->c (.v (.int m))
 | _=>False
def Jc (K:lJ):Aa V->Hp->VK->Prop:=λc H Q=>(∃ (p:Ad) (b:Aa Int),c=[.ref p]/\gV K H p (b.map V.int)/\b≠[]/\∀ m:Int,m∈b->(∀ a∈b,m<=a)->Q (.int m) H)\/∃ i j,c=[.int i,.int j]/\Q (.int (if j<i then j else i)) H
def Qt (K:lJ):Aa V->Hp->VK->Prop:=λc H Q=>(∃ (p:Ad) (b:Aa Int),c=[.ref p]/\gV K H p (b.map V.int)/\b≠[]/\∀ m:Int,m∈b->(∀ a∈b,a<=m)->Q (.int m) H)\/∃ i j,c=[.int i,.int j]/\Q (.int (if j>i then j else i)) H
theorem Zq (g:X.calm=true):mU X (.builtin "min") (Jc X.K):=(Z7 g).or (Np g)
theorem Ck (g:X.calm=true):mU X (.builtin "max") (Qt X.K):=(Uk g).or (AR g)
theorem Y8:qC K (Jc K) Gm:=by
 intro B L H c A D Q hd n b k;cases c with
 | nil=>exact False.elim b
 | cons d c =>
 cases d<;>first | exact False.elim b | skip
 .cases c with
  | nil=>exact False.elim b
  | cons e c =>
  cases e<;>first | exact False.elim b | skip
  cases c with
  | cons _ _=>exact False.elim b
  | nil =>
  obtain⟨x,y,rfl,f,py⟩:=yV n;have:=f.int_inv;have:=py.int_inv;subst_vars
  rename_i i j
  refine .inr ⟨_,_,rfl,?_⟩;by_cases z:j<i
  .rw[bA z];exact k _ _ H (b _ (.inr rfl) (by omega) (by omega)) (hd.pushF (.int _))
  .rw[bF z];exact k _ _ H (b _ (.inl rfl) (by omega) (by omega)) (hd.pushF (.int _))
 .cases c with
  | cons _ _=>exact False.elim b
  | nil =>
  obtain⟨x,rfl,f⟩:=rH n;obtain⟨v,u,q,b⟩:=b;obtain⟨a,w,rfl,h,r⟩:=f.lst_inv;rw[Bi u r] at h;exact .inl ⟨a,v,rfl,gV.of h,q,λm s t=>k _ _ H (b m s t) (hd.pushF (.int _))⟩
theorem Et:qC K (Qt K) Zr:=by
 intro B L H c A D Q hd n b k;cases c with
 | nil=>exact False.elim b
 | cons d c =>
 cases d<;>first | exact False.elim b | skip
 .cases c with
  | nil=>exact False.elim b
  | cons e c =>
  cases e<;>first | exact False.elim b | skip
  cases c with
  | cons _ _=>exact False.elim b
  | nil =>
  obtain⟨x,y,rfl,f,py⟩:=yV n;have:=f.int_inv;have:=py.int_inv;subst_vars
  rename_i i j
  refine .inr ⟨_,_,rfl,?_⟩;by_cases z:j>i
  .rw[bA z];exact k _ _ H (b _ (.inr rfl) (by omega) (by omega)) (hd.pushF (.int _))
  .rw[bF z];exact k _ _ H (b _ (.inl rfl) (by omega) (by omega)) (hd.pushF (.int _))
 .cases c with
  | cons _ _=>exact False.elim b
  | nil =>
  obtain⟨x,rfl,f⟩:=rH n;obtain⟨v,u,q,b⟩:=b;obtain⟨a,w,rfl,h,r⟩:=f.lst_inv;rw[Bi u r] at h;exact .inl ⟨a,v,rfl,gV.of h,q,λm s t=>k _ _ H (b m s t) (hd.pushF (.int _))⟩
def L3:D->Ab (Aa D)
 | .l a=>some a
 | .t a=>some a
 | .con a=>some a
 | .c a=>some a
 | _=>none
theorem GQ (h:L3 d=some j) (p:mO K A H d x):∃ a g,x = .ref a/\(gV K H a g\/mH K H a g)/\Reps K A H j g:=by
 cases d<;>cases h
 .obtain⟨a,g,rfl,h,r⟩:=p.tup_inv;exact⟨a,g,rfl,.inr (mH.of h),r⟩
 .obtain⟨a,g,rfl,h,r⟩:=p.lst_inv;exact⟨a,g,rfl,.inl (gV.of h),r⟩
 .obtain⟨a,g,rfl,h,r⟩:=p.scr_inv;exact⟨a,g,rfl,.inl h.sqL,r⟩
 .obtain⟨a,g,rfl,h,r⟩:=p.con_inv;exact⟨a,g,rfl,.inr h.sqT,r⟩
def AG:OC:=λb c=>match b with
 | [d]=>∃ a,L3 d=some a/\c (.o (.l a))
 | _=>False
theorem Ft:qC K (λg H Q=>∃ p j,g=[.ref p]/\(gV K H p j\/mH K H p j)/\∀ l,H l=none->Q (.ref l) (upd H l (.l j))) AG:=by
 intro B L H c g q Q hd f b k;cases c with
 | nil=>exact False.elim b
 | cons d c =>
 cases c with
 | cons _ _=>exact False.elim b
 | nil =>
 obtain⟨x,rfl,m⟩:=rH f;obtain⟨g,i,b⟩:=b;obtain⟨a,n,rfl,h,r⟩:=GQ i m;exact⟨a,n,rfl,h,λl e=>k _ _ _ b (hd.lstF e r)⟩
def Uw:OC:=λc b=>match c with
 | [.l a]=>b (.v (.t a))
 | [.t a]=>b (.v (.t a))
 | _=>False
theorem tY:qC K (λj H Q=>∃ p g,j=[.ref p]/\((gV K H p g/\∀ l,H l=none->Q (.ref l) (upd H l (.t g)))\/(mH K H p g/\Q (.ref p) H))) Uw:=by
 intro B L H e j q Q hd m b k;cases e with
 | nil=>exact False.elim b
 | cons d e =>
 cases d<;>first | exact False.elim b | skip<;>cases e<;>first | exact False.elim b | skip
 .obtain⟨x,rfl,c⟩:=rH m;have f:=c;obtain⟨a,i,rfl,h,r⟩:=c.tup_inv;exact⟨a,i,rfl,.inr ⟨mH.of h,k _ _ _ b (hd.pushF f)⟩⟩
 .obtain⟨x,rfl,c⟩:=rH m;obtain⟨a,i,rfl,h,r⟩:=c.lst_inv;exact⟨a,i,rfl,.inl ⟨gV.of h,λl n=>k _ _ _ b (hd.tupF n r)⟩⟩
def vR:Aa D->Ab (Aa (lL×D))
 | []=>some []
 | .t [k,d]::a=>match rE k,vR a with
  | some k,some r=>some ((k,d)::r)
  | _,_=>none
 | _=>none
theorem Jn {l:Type}{f:l->D}{g:l->lL×D}(h:∀ x,∃ k,f x = .t [k,(g x).2]/\rE k=some (g x).1):∀ j:Aa l,vR (j.map f)=some (j.map g)
 | []=>rfl
 | x::j=>by
  obtain⟨k,a,b⟩:=h x;rw[aZ,a];show (match rE k,vR (j.map f) with | some k,some r=>some ((k,(g x).2)::r) | _,_=>none)=_;rw[b,Jn h j];rfl
def rD (g more:Aa (lL×D)):Aa (lL×D):=more.foldl (λa b=>pM a b.1 b.2) g
theorem S6 (h:vR l=some j) (o:Reps K A H l C):∃ (p:Aa Ad) (g:Aa (lL×V)),C=p.map V.ref/\A5 H p g/\j.map (·.1)=g.map (·.1)/\Reps K A H (j.map (·.2)) (g.map (·.2)):=by
 induction l generalizing j C with
 | nil=>cases o;cases h;exact⟨[],[],rfl,.nil,rfl,.nil⟩
 | cons d l t =>
  cases o with
  | cons r o =>
  cases d<;>first | (cases h;done) | skip
  rename_i x
  rcases x with _ | ⟨k,_ | ⟨e,_ | ⟨_,_⟩⟩⟩<;>first | (cases h;done) | skip
  .have h:=(show (match rE k,vR l with | some k,some r=>some ((k,e)::r) | _,_=>none)=some j from h);cases c:rE k with
   | none=>rw[c] at h;cases h
   | some u =>
    cases f:vR l with
    | none=>rw[c,f] at h;cases h
    | some y =>
     rw[c,f] at h;cases h;obtain⟨a,z,rfl,s,b⟩:=r.tup_inv;obtain⟨p,g,i,m,n,q⟩:=t f o;cases b with
     | cons v b =>
      cases b with
      | cons w b =>
       cases b;have:=Ap c v.peek;subst this;exact⟨a::p,(u,_)::g,by rw[i];rfl,.cons s m,by rw[aZ,aZ,n],.cons w q⟩
theorem Co:∀ {more:Aa (lL×D)}{mv:Aa (lL×V)}{kvs:Aa (lL×D)}{vs:Aa (lL×V)},more.map (·.1)=mv.map (·.1)->Reps K A H (more.map (·.2)) (mv.map (·.2))->kvs.map (·.1)=vs.map (·.1)->Reps K A H (kvs.map (·.2)) (vs.map (·.2)) ->
  (rD kvs more).map (·.1)=(pJ vs mv).map (·.1)/\Reps K A H ((rD kvs more).map (·.2)) ((pJ vs mv).map (·.2))
 | [],[],_,_,_,_,e,r=>⟨e,r⟩
 | [],_::_,_,_,e,_,_,_=>by simp at e
 | _::_,[],_,_,e,_,_,_=>by simp at e
 | (k,d)::more,(j,v)::mv,kvs,vs,a,b,e,r=>by
  simp only[aZ,gY] at a;obtain⟨rfl,a⟩:=a;cases b with
  | cons h b =>
   obtain⟨c,f⟩:=Kf e r (k:=k) h;exact Co (more:=more) (mv:=mv) a b c f
def HA:OC:=λc b=>match c with
 | [.k a]=>b (.o (.k a))
 | [.l d]=>∃ a,vR d=some a/\a.length<=1000/\b (.o (.k (rD [] a)))
 | _=>False
def Me (K:lJ):Aa V->Hp->VK->Prop:=λe H Q=>(∃ (a:Ad) (b:Aa (lL×V)),e=[.ref a]/\H a=some (.k b)/\∀ p,H p=none->Q (.ref p) (upd H p (.k b))) \/
 ∃ (p:Ad) (c:Aa Ad) (b:Aa (lL×V)),e=[.ref p]/\gV K H p (c.map V.ref)/\A5 H c b/\b.length<=1000/\∀ d,H d=none->Q (.ref d) (upd H d (.k (pJ [] b)))
theorem Ig (g:X.calm=true):mU X (.type "dict") (Me X.K):=Wj.or (X3 g)
theorem Ja:qC K (Me K) HA:=by
 intro B L H i E F Q hd c b k;cases i with
 | nil=>exact False.elim b
 | cons d i =>
 cases d<;>first | exact False.elim b | skip<;>cases i<;>first | exact False.elim b | skip
 .obtain⟨x,rfl,n⟩:=rH c;obtain⟨w,v,D,b⟩:=b;obtain⟨a,s,rfl,h,r⟩:=n.lst_inv;obtain⟨A,f,rfl,t,q,u⟩:=S6 v r;obtain⟨y,z⟩:=Co (kvs:=[]) (vs:=[]) q u rfl .nil;have m:f.length<=1000:=by
   have:=cN List.length q;simp only[aB] at this;omega
  exact .inr ⟨a,A,f,rfl,gV.of h,t,m,λp c=>k _ _ _ b (hd.dKF c y z)⟩
 .obtain⟨x,rfl,n⟩:=rH c;obtain⟨a,s,rfl,h,e,r⟩:=n.dK_inv;exact .inl ⟨a,s,rfl,h,λp c=>k _ _ _ b (hd.dKF c e r)⟩
def Gf:OC:=λc a=>match c with
 | [.int i]=>a (.v (.int i))
 | [.b b]=>a (.v (.int (if b then 1 else 0)))
 | _=>False
theorem Yk:qC K (λg H Q=>(∃ i,g=[.int i]/\Q (.int i) H)\/∃ k,g=[.b k]/\Q (.int (if k then 1 else 0)) H) Gf:=by
 intro B L H c g h Q hd f a k;cases c with
 | nil=>exact False.elim a
 | cons d c =>
 cases d<;>first | exact False.elim a | skip<;>cases c<;>first | exact False.elim a | skip
 .obtain⟨x,rfl,e⟩:=rH f;have:=e.bl_inv;subst this;exact .inr ⟨_,rfl,k _ _ H a (hd.pushF (.int _))⟩
 .obtain⟨x,rfl,e⟩:=rH f;have:=e.int_inv;subst this;exact .inl ⟨_,rfl,k _ _ H a (hd.pushF (.int _))⟩
def To:OC:=λa b=>match a with
 | [.int i]=>i.natAbs.log2<1920/\b (.v (.str (toString i)))
 | _=>False
theorem X6:qC K (λg H Q=>∃ i,g=[.int i]/\i.natAbs.log2<1920/\Q (.str (toString i)) H) To:=by
 intro B L H b g f Q hd c a k;cases b with
 | nil=>exact False.elim a
 | cons d b =>
 cases d<;>first | exact False.elim a | skip<;>cases b<;>first | exact False.elim a | skip
 obtain⟨x,rfl,e⟩:=rH c;have:=e.int_inv;subst this;exact⟨_,rfl,a.1,k _ _ H a.2 (hd.pushF (.str _))⟩
noncomputable def wH:Aa D->Ab (Aa Bool)
 | []=>some []
 | .b b::a=>(wH a).map (b::·)
 | _=>none
theorem Qf:∀ (g:Aa Bool),wH (g.map D.b)=some g
 | []=>rfl
 | n::g=>by rw[aZ,wH,Qf g];rfl
theorem FX (h:wH g=some j) (r:Reps K A H g l):l=j.map V.b:=by
 induction g generalizing j l with
 | nil=>cases r;simp only[wH,kR] at h;subst h;rfl
 | cons d g c =>
  cases r with
  | cons r e =>
  cases d with
  | b i =>
   simp only[wH,cC] at h;obtain⟨f,a,rfl⟩:=h;rw[r.bl_inv,c a e];rfl
  | _=>simp[wH] at h
def Zn:OC:=λa d=>match a with
 | [.l c]=>∃ bs,wH c=some bs/\d (.v (.b (bs.all id)))
 | _=>False
theorem Su:qC K (Q9 K) Zn:=by
 intro B L H e s t Q hd i c k;cases e with
 | nil=>exact False.elim c
 | cons d e =>
  cases e with
  | cons _ _=>cases d<;>exact False.elim c
  | nil =>
   cases d<;>first | exact False.elim c | skip
   obtain⟨x,rfl,n⟩:=rH i;obtain⟨m,f,c⟩:=c;obtain⟨a,q,rfl,h,r⟩:=n.lst_inv;rw[FX f r] at h;exact⟨a,m,rfl,gV.of h,k _ _ H c (hd.pushF (.b _))⟩
end
def Gj (T:String):D->Bool
 | .str _=>T == "str"
 | .l _=>T == "list"
 | .c _=>T == "list"
 | .k _=>T == "dict"
 | _=>false
section
variable {X:Cx}{K:lJ}
theorem Ph (h:Gj T d=true) (p:mO K A H d x):C9 K T x H:=by
 cases d<;>first | (cases h;done) | skip
 all_goals (have h:=eq_of_beq h;subst h)
 .have:=p.str_inv;subst this;rfl
 .obtain⟨a,b,rfl,h,r⟩:=p.lst_inv;exact .inl ⟨rfl,b,gV.of h⟩
 .obtain⟨a,b,rfl,h,e,r⟩:=p.dK_inv;exact .inr (.inr (.inl ⟨rfl,.inl ⟨b,h⟩⟩))
 .obtain⟨a,b,rfl,h,r⟩:=p.scr_inv;exact .inl ⟨rfl,b,h.sqL⟩
abbrev OM:=D->Aa D->(Sl->Prop)->Prop
abbrev RM:=V->Aa V->Hp->VK->Prop
def Rs (K:lJ) (r:RM) (f:OM):Prop:=∀ (B:Bs) (L:mY) (H:Hp) (d:D) (b:Aa D) (x:V) (c:Aa V) (e:Sl->Prop) (Q:VK),DS K B L H->mO K (Al B (gD L)) H d x->Peeks K (Al B (gD L)) H b c->f d b e ->
 (∀ s v a,e s->DS K B ((s,some v)::L) a->Q v a)->r x c H Q
def Xd (T:String) (f:OM) (i:Nat) (g:rK):mK:=λc b h=>(match at? b i with | some d=>Gj T d=true | none=>False)/\g c b λas a=>match at? a i,tL a as with
 | some d,some e=>f d e λs=>h s a
 | _,_=>False
variable {id:String}
theorem CO (pa:PlainAttrs T) (slot:Slot T name id) (j:typeOf (.builtin id)=pure (.type "method_descriptor")) (J:wT X id r) (I:Rs X.K r f) (U:PE X o (pR i)) (p:qY X (e::l) ta)
  (C:MtB X o name apos e l g:=by exact {}) :
  PD X (.Call (.Attribute o name apos) (e::l) [] g) (Xd T f i ta) :=
 (xW pa slot j J U p C).mono λW H Q u=>u.elim λB F Tm V D hd ⟨m,N⟩ k=>by
  cases n:at? F i with
  | none=>rw[n] at m;exact m.elim
  | some R =>
   rw[n] at m;obtain⟨x,E,O⟩:=hd.peek D n;refine⟨x,E,Ph m O,B,F,Tm,_,D,hd,N,λas a P L w ok d2 b=>?_⟩;cases h:at? a i with
   | none=>rw[h] at b;exact b.elim
   | some d =>
    cases q:tL a as with
    | none=>rw[h,q] at b;exact b.elim
    | some A =>
     rw[h,q] at b;have z:=d2.rmArgs;obtain⟨S,c,y⟩:=z.peek w h;rw[E] at c;cases c;exact I B _ L d A x P _ Q z y (d2.argsP w ok A q).1 b λs v G M t=>k s a v G w t.mid M
abbrev OW:=D->Aa D->(D->D->Prop)->Prop
def Fl (K:lJ) (r:RM) (f:OW):Prop:=∀ (A:Ad->Prop) (H:Hp) (a:Ad) (c:D) (h:Aa D) (i:Aa V) (k:D->D->Prop) (Q:VK),¬ A a->oF K A H a c->Reps K A H h i->f c h k ->
 (∀ d v o e,k d e->Rep K A H d v->(∀ b,Kp A b H (upd H a o)->oF K b (upd H a o) a e)->Q v (upd H a o))->r (.ref a) i H Q
def dW (T:String) (f:OW) (i:Nat) (g:rK):mK:=λh b m=>(match at? b i with | some d=>Gj T d=true | none=>False)/\g h b λas a=>match a[i]?,wF as with
 | some (.o c),some k=>f c k λd e=>m (.v d) (a.set i (.o e))
 | _,_=>False
theorem Xw {f:OW}(C:Fl X.K r f){g:St}{H:Hp}{Q:VK}(h:dE X.K (dW T f i ta) g H Q):pR i g H λx l=>C9 X.K T x l/\dA X.K ta g l λxs j=>r x xs j Q:=by
 obtain⟨B,Y,Tm,Φ,S,hd,⟨A,J⟩,k⟩:=h;cases F:at? Y i with
 | none=>rw[F] at A;exact A.elim
 | some d0 =>
  rw[F] at A;obtain⟨x,t,px⟩:=hd.peek S F;refine⟨x,t,Ph A px,B,Y,Tm,_,S,hd,J,λas e vs j D ok d2 b=>?_⟩;cases m:e[i]? with
  | none=>rw[m] at b;exact b.elim
  | some s =>
   cases s with
   | n=>rw[m] at b;exact b.elim
   | v c=>rw[m] at b;exact b.elim
   | o c =>
    cases G:wF as with
    | none=>rw[m,G] at b;exact b.elim
    | some P =>
     rw[m,G] at b;have O:=d2.temps ok P G;have Z:=d2.rmArgs;obtain⟨a,R,W,wr⟩:=Z.slotW D m;rw[t] at R;cases R;obtain⟨u,U,tu⟩:=W.some;have V:¬ Al B (gD (e.zip g++Tm)) a:=λz=>z.2.1 (by
      obtain⟨l1,y,N,w,_,L,_⟩:=vJ D m;rw[t] at w;cases w;rw[L,bP,cX,qW];exact aI _ aH)
     refine C _ j a c P vs _ Q V W O b λd v o E M rd I=>k _ _ v _ (by rw[bO];exact D) ?_ M
     refine (wr o E I).push ?_;have p:gD ((e.set i (.o E)).zip g++Tm)=gD (e.zip g++Tm):=by
      obtain⟨l1,y,N,w,_,L,q⟩:=vJ D m;rw[t] at w;cases w;have:=q (.o E) (some (.ref a));rw[Bc t] at this;rw[this,L,bP,bP,cX,cX,qW,qW];rfl
     rw[p];exact rd.mono (.write U tu V)
theorem oX {f:OW}(pa:PlainAttrs T) (slot:Slot T name id) (j:typeOf (.builtin id)=pure (.type "method_descriptor")) (J:wT X id r) (I:Fl X.K r f) (U:PE X o (pR i)) (p:qY X (e::l) ta)
  (C:MtB X o name apos e l g:=by exact {}) :
  PD X (.Call (.Attribute o name apos) (e::l) [] g) (dW T f i ta):=(xW pa slot j J U p C).mono λ_ _ _ h=>Xw I h
noncomputable def Yg:OW:=λc b f=>match c,b with
 | .l a,[d]=>a.length<100000/\f .e (.l (a++[d]))
 | _,_=>False
theorem qH:Fl K Kj Yg:=by
 intro A H a c q s t Q _ i rd b k;cases c<;>first | exact False.elim b | skip
 cases rd with
 | nil=>exact False.elim b
 | cons f rd =>
 cases rd with
 | cons _ _=>exact False.elim b
 | nil =>
 .obtain⟨m,h,r⟩:=i
  .refine⟨a,m,_,rfl,rfl,h,aR (by rw[<- r.length];exact b.1) (by decide),k _ _ _ _ b.2 .e λn d=>⟨_,lU,(r.append (.cons f .nil)).mono d⟩⟩
def BM:OW:=λc b d=>match c,b with
 | .l a,[.int i]=>∃ k y,-(2 ^ 63)<=i/\i<2 ^ 63/\seqIndex? i a.length=some k/\a[k]?=some y/\d y (.l (a.eraseIdx k))
 | _,_=>False
theorem Cd:Fl K Rg BM:=by
 intro A H a c z B D Q _ t rd b k;cases c<;>first | exact False.elim b | skip
 cases rd with
 | nil=>exact False.elim b
 | cons s rd =>
 rename_i d _ _ _
 cases d<;>first | exact False.elim b | skip
 cases rd with
 | cons _ _=>exact False.elim b
 | nil =>
 .obtain⟨w,h,r⟩:=t
  .have:=s.int_inv;subst this;obtain⟨j,y,e,f,i,m,b⟩:=b;obtain⟨v,n,u⟩:=r.get m;exact⟨a,w,_,j,v,rfl,rfl,h,e,f,by rw[<- r.length];exact i,n,k _ _ _ _ b u λx q=>⟨_,lU,(r.erase j).mono q⟩⟩
def Td:D->Bool
 | .k _=>true
 | .T _=>true
 | _=>false
def V7 (i:Nat) (ty g:mK):mK:=λc e m=>(match at? e i with | some d=>Td d=true | none=>False)/\ty c e λf b=>g c b λh a=>match at? a i,sd f,sd h with
 | some d,some k,some x=>∃ o,vC d k=some o/\m (.v (o.getD x)) a
 | _,_,_=>False
theorem Mp (U:X.A.units+1<cLine) (l:PE X o (pR i)) (I:PD X k ty) (J:PD X x tx) (m:M2 X o "get" apos k x j:=by exact⟨rfl,rfl,rfl,rfl⟩):PD X (.Call (.Attribute o "get" apos) [k,x] [] j) (V7 i ty tx) :=
 (ET U l I J m).mono λσ H Q E=>E.elim λB W Tm Φ N hd ⟨t,T⟩ k=>by
  cases u:at? W i with
  | none=>rw[u] at t;exact t.elim
  | some Z =>
   rw[u] at t;obtain⟨x,O,R⟩:=hd.peek N u;obtain⟨a,rfl,F⟩:∃ a,x = .ref a/\G1 H a:=by
    cases Z<;>first | (cases t;done) | skip
    .obtain⟨a,L,rfl,h,e,r⟩:=R.dK_inv;exact⟨a,rfl,.inl ⟨L,.inl h⟩⟩
    .obtain⟨a,L,rfl,h,e,r⟩:=R.dT_inv;exact⟨a,rfl,.inr ⟨L,h⟩⟩
   refine⟨.ref a,O,a,rfl,F,B,W,Tm,_,N,hd,T,λV M y H1 l1 d1 C=>⟨B,M,(V,some y)::Tm,_,l1,d1,C,λrx q z Y P d2 b=>?_⟩⟩;cases f:at? q i with
   | none=>rw[f] at b;exact b.elim
   | some d =>
    cases s:sd V with
    | none=>rw[f,s] at b;exact b.elim
    | some kk =>
     cases D:sd rx with
     | none=>rw[f,s,D] at b;exact b.elim
     | some xx =>
      rw[f,s,D] at b;obtain⟨oo,l,b⟩:=b;obtain⟨S,q2,q3⟩:=d2.two s D;obtain⟨x',n,G⟩:=S.peek P f;rw[O] at n;cases n;obtain⟨a',w,p,g,g1,g2⟩:=Gv l G q2.peek;cases p;refine⟨w,g,k _ q _ Y P (S.push ?_) b⟩;cases oo with
      | none=>rw[g2 rfl];exact q3
      | some c=>obtain⟨v,rfl,rv⟩:=g1 c rfl;exact rv
def Dm:Aa D->Ab (Aa Af)
 | []=>some []
 | .str b::a=>(Dm a).map (b::·)
 | _=>none
theorem K3:∀ (g:Aa Af),Dm (g.map D.str)=some g
 | []=>rfl
 | n::g=>by
  show (Dm (g.map D.str)).map (n::·)=_;rw[K3 g];rfl
theorem AW (h:Dm j=some l) (g:Reps K A H j o):o=l.map V.str:=by
 induction j generalizing l o with
 | nil=>cases g;cases h;rfl
 | cons d j b =>
  cases g with
  | cons r g =>
  cases d with
  | str i =>
   obtain⟨c,a,rfl⟩:=cC.mp h;rw[r.str_inv,b a g];rfl
  | _=>cases h
noncomputable def Tq:OM:=λd a b=>match d,a with
 | .str z,[.str y]=>y.length≠0/\z.length<=1000000/\b (.o (.l ((Txt.split z y).map D.str)))
 | _,_=>False
theorem Fe:∀ (g:Aa Af),Reps K A H (g.map D.str) (g.map V.str)
 | []=>.nil
 | y::g=>.cons (.str y) (Fe g)
theorem EL:Rs K Mu Tq:=by
 intro B L H d b x i m Q hd h f a k;cases d<;>first | exact False.elim a | skip
 cases b with
 | nil=>exact False.elim a
 | cons e b =>
  cases b with
  | cons _ _=>cases e<;>exact False.elim a
  | nil =>
   cases e<;>first | exact False.elim a | skip
   obtain⟨y,rfl,py⟩:=rH f;have:=h.str_inv;have:=py.str_inv;subst_vars;exact⟨_,_,rfl,rfl,a.1,a.2.1,λp c=>k _ _ _ a.2.2 (hd.lstF c (Fe _))⟩
end
section
variable {X:Cx}
theorem lV (o:X.A.units+1<cLine) (i:Nat) (j:PD X b p) (g:PE X a (pR i):=by exact pv _) (l:Jp b:=by exact λ_ _=>rfl):PD X (.Subscript a b pos) (xB Jb i p) :=
 (oM (Ot o) g j l).mono λ_ _ _ h=>Iw Nu h
end
section
variable {X:Cx}{K:lJ}
theorem DO (l:X.calm=true):mU X (.builtin "min") (λg H Q=>∃ i j k,g=[.int i,.int j,.int k]/\∀ m:Int,(m=i\/m=j\/m=k)->m<=i->m<=j->m<=k->Q (.int m) H):=by
 intro f s A H g F Q I r h;obtain⟨i,j,k,rfl,q⟩:=h;cases r with
 | cons y r =>
  obtain⟨v,u,rfl,⟨D,rfl⟩,⟨E,rfl⟩⟩:=Bh r;obtain⟨B,rfl⟩:=y;refine min_three_ints (I.ok.hd l) λw z x=>?_
  have fin:∀ (m:Int) (t:Tok),(m=i\/m=j\/m=k)->m<=i->m<=j->m<=k->EP X f A Q (.int m t) { s with heap:=w,toks:=z }:=λm t a b c d=>⟨.int m,H,I.kept x,⟨t,rfl⟩,q m a b c d⟩
  by_cases n:j<i
  .rw[bA n];by_cases e:k<j
   .rw[bA e];exact fin _ _ (.inr (.inr rfl)) (by omega) (by omega) (by omega)
   .rw[bF e];exact fin _ _ (.inr (.inl rfl)) (by omega) (by omega) (by omega)
  .rw[bF n];by_cases e:k<i
   .rw[bA e];exact fin _ _ (.inr (.inr rfl)) (by omega) (by omega) (by omega)
   .rw[bF e];exact fin _ _ (.inl rfl) (by omega) (by omega) (by omega)
def Jx (K:lJ):Aa V->Hp->VK->Prop:=λa H Q=>Jc K a H Q\/∃ i j k,a=[.int i,.int j,.int k]/\∀ m:Int,(m=i\/m=j\/m=k)->m<=i->m<=j->m<=k->Q (.int m) H
theorem Ls (g:X.calm=true):mU X (.builtin "min") (Jx X.K):=(Zq g).or (DO g)
def Zt:OC:=λa b=>match a with
 | [.int i,.int j,.int k]=>∀ m:Int,(m=i\/m=j\/m=k)->m<=i->m<=j->m<=k->b (.v (.int m))
 | a=>Gm a b
theorem Qa:qC K (Jx K) Zt:=by
 intro B L H i n q Q hd h f k;have two:Gm i q->Jx K n H Q:=λf=>.inl (Y8 B L H _ n q Q hd h f k)
 rcases i with _ | ⟨d,_ | ⟨e,_ | ⟨g,_ | ⟨_,_⟩⟩⟩⟩
 .exact two f
 .cases d<;>exact two f
 .cases d<;>first | exact two f | (cases e<;>exact two f)
 .cases d<;>first | exact two f | skip
  cases e<;>first | exact two f | skip
  cases g<;>first | exact two f | skip
  cases h with
  | cons s h =>
   obtain⟨x,y,rfl,t,py⟩:=yV h;have:=s.int_inv;have:=t.int_inv;have:=py.int_inv;subst_vars;exact .inr ⟨_,_,_,rfl,λm a b c d=>k _ _ H (f m a b c d) (hd.pushF (.int _))⟩
 .cases d<;>first | exact two f | (cases e<;>first | exact two f | (cases g<;>exact two f))
noncomputable def Gh:D->Ab String
 | .e=>some "NoneType"
 | .b _=>some "bool"
 | .int _=>some "int"
 | .str _=>some "str"
 | .l _=>some "list"
 | .t _=>some "tuple"
 | .k _=>some "dict"
 | _=>none
theorem Sm (h:Gh d=some n) (p:mO K A H d x):TyOf K H x (.type n):=by
 cases d<;>simp only[Gh,reduceCtorEq,kR] at h<;>subst h
 .have:=p.non_inv;subst this;exact .e
 .have:=p.bl_inv;subst this;exact .b _
 .have:=p.int_inv;subst this;exact .int _
 .have:=p.str_inv;subst this;exact .str _
 .obtain⟨a,c,rfl,h,r⟩:=p.tup_inv;exact .t h
 .obtain⟨a,c,rfl,h,r⟩:=p.lst_inv;exact .l h
 .obtain⟨a,c,rfl,h,e,r⟩:=p.dK_inv;exact .k h
def Ws (K:lJ):OC:=λa e=>match a with
 | [d,.r (.ty c)]=>∃ n b,Gh d=some n/\PySem.W.kitOne K (.type n) (.type c)=some b/\e (.v (.b b))
 | _=>False
theorem Bz:qC K (Lp K) (Ws K):=by
 intro B L H c q s Q hd i a k;cases c with
 | nil=>exact False.elim a
 | cons d c =>
  cases c with
  | nil=>exact False.elim a
  | cons e c =>
   cases e<;>first | exact False.elim a | skip
   rename_i v
   cases v<;>first | exact False.elim a | skip
   cases c with
   | cons _ _=>exact False.elim a
   | nil =>
    obtain⟨x,y,rfl,m,py⟩:=yV i;obtain⟨n,b,f,h,a⟩:=a;have:=py.raw_inv;subst this;exact⟨x,_,_,_,b,rfl,rfl,Sm f m,h,k _ _ H a (hd.pushF (.b _))⟩
theorem Ec (g:Gl X x) (j:X.mg x=none) (o:bootBuiltins x=some (.type n)) (l:x ≠ "__name__" := by decide) (hd:(x == ("__debug__" : Af))=false:=by decide):PD X (.Name x pos) (cd (.r (.ty n))) :=
 F0 (Yl (v:=.ty n) g j o rfl l hd) λ_ _ _=>.r _
end
end L2
namespace PySem
open PyProof.Rows L2
abbrev tJ (h:Ag) (z TI TO T:Ad) (f:Bool):Prop:=h.get? z=some { cls:=.type "zip",dict:=none,data:=.fields #[rawInt T,.bool f,.bool false,.ref TI,.ref TO],slots:=#[] }
section
theorem Z2 (j:s.heap.get? a=some o) (h:Q (some o) s):wpAny (model g w) A (loadIfAlive a) Q E s:=λ_ _ _=>by
 show Q (s.heap.get? a) s;rw[j];exact h
theorem R8 {TI TO:Ad}(g:tJ s.heap z TI TO T f) (p:s.heap.get? T=some r) (l:∀ j,tJ j z TI TO T true->Heap.SameBut z s.heap j->Q false { s with heap:=j }) :
  wpAny (model o w) A (Builtin.SmallTypes.ownedTupleIsFree (.ref z)) Q E s:=by
 unfold Builtin.SmallTypes.ownedTupleIsFree;refine aA (dP g rfl (x:=rawInt T) rfl ?_);show wpAny _ _ (loadIfAlive ((T:Int).toNat) >>= _) _ _ _;rw[cR];refine aA (Z2 p ?_);simp only[Option.isNone_some,gO,eZ];refine aA (dP g rfl (x:=.bool f) rfl ?_);cases f with
 | true =>
  rw[bF (show ¬ ((Value.bool true != Value.bool true)=true) from bD)];exact aE (l _ g (Heap.SameBut.refl _ _))
 | false =>
  rw[bA (show (Value.bool false != Value.bool true)=true from rfl)];exact aA (gR g (by simp) λc b a=>aE (l _ b a))
def N8 (g:Ah) (w:World) (A:Around) (a b:Ac) (Q:Fin->Ae->Prop) (E:Ac->Ae->Prop) (s:Ae):Prop :=
 wpAny (model g w) A (Builtin.SmallTypes.nextOf a) (λx c=>wpAny (model g w) A (Builtin.SmallTypes.nextOf b) (λy d=>wpAny (model g w) A (newTuple [x,y]) (λt e=>Q (.done (.ret t)) e) E d) E c) E s
theorem Dw {TI TO:Ad}(p:tJ s.heap z TI TO T f) (r:s.heap.get? T=some C) (o:IsPair s.heap TI a b)
  (go:∀ l,tJ l z TI TO T true->Heap.SameBut z s.heap l->N8 j w A a b Q E { s with heap:=l }) :
  wpAny (model j w) A (Builtin.«zip.__next__» ⟨[.ref z],[]⟩) Q E s:=by
 have c:wpAny (model j w) A (Builtin.SmallTypes.ownedTupleIsFree (.ref z)) (λx d=>x=false/\N8 j w A a b Q E d) E s :=
  R8 p r λl e k=>⟨rfl,go l e k⟩
 unfold Builtin.«zip.__next__»;refine aA (aE (aA (dP p rfl (x:=.bool false) rfl (aA (dP p rfl (x:=.ref TI) rfl (aA (dH o rfl ?_)))))));refine aA (lM c ?_);rintro _ d ⟨rfl,g⟩;simp only[bF bD,<- Array.forIn_toList,jX,List.forIn_nil,bind_assoc];refine aA (bV (aA (lM g λx h g1=>aE (aA (aE ?_)))));refine aA (aA (bV (aA (lM g1 λy i g2=>aE (aA (aE (aE ?_)))))));exact aA (lM g2 λt m g3=>aE g3)
theorem FR {z TI TO T j l r C:Ad}{I J:Nat}{f:Bool}{oT:Obj}{xs ys:Array Ac}{x y:Ac}{Q:Ac->Ae->Prop}(D:ZipApart z TI TO j l r C)
  (hz:tJ s.heap z TI TO T f) (hT:s.heap.get? T=some oT) (U:IsPair s.heap TI (.ref j) (.ref l))
  (h1:s.heap.IsListIter j r I) (h2:s.heap.IsListIter l C J) (aa:s.heap.IsList r xs) (ab:s.heap.IsList C ys) (hx:xs[I]?=some x) (hy:ys[J]?=some y)
  (hQ:∀ g,tJ g z TI TO T true->g.IsListIter j r (I+1)->g.IsListIter l C (J+1)->IsPair g s.heap.objs.size x y->g.objs.size=s.heap.objs.size+1 ->(∀ c o,c≠z->c≠j->c≠l->s.heap.get? c=some o->g.get? c=some o)->Q (.ref s.heap.objs.size) { s with heap:=g }) :
  wpAny (model ac w) A (Builtin.«zip.__next__» ⟨[.ref z],[]⟩) (λfin s'=>∃ v,fin = .done (.ret v)/\Q v s') E s:=by
 refine Dw hz hT U λd K m=>?_
 have up1:∀ c o,c≠z->s.heap.get? c=some o->d.get? c=some o:=λc o n e=>m.extBut _ _ n e
 have there:d.IsListIter j r I/\d.IsListIter l C J/\d.IsList r xs/\d.IsList C ys:=⟨h1.at λo e=>up1 _ o D.i1z e,h2.at λo e=>up1 _ o D.i2z e,aa.at λo e=>up1 _ o D.l1z e,ab.at λo e=>up1 _ o D.l2z e⟩;refine gS there.1 there.2.2.1 hx λk G q=>?_
 have a:∀ c o,c≠j->d.get? c=some o->k.get? c=some o:=λc o n e=>q.extBut _ _ n e
 refine gS (there.2.1.at λo e=>a _ o D.i12.symm e) (there.2.2.2.at λo e=>a _ o D.l2i1 e) hy λh H t=>?_
 have b:∀ c o,c≠l->k.get? c=some o->h.get? c=some o:=λc o n e=>t.extBut _ _ n e
 have i:h.objs.size=s.heap.objs.size:=t.1.trans (q.1.trans m.1);have more:∀ {c:Ad} {o p:Obj},h.get? c=some o->(h.push p).get? c=some o:=λe=>aD _ e
 refine wpAny_newTuple ⟨_,rfl,?_⟩ (hsz:=(show 2<=sizeLine by decide));have last:=hQ (h.push (seqObj "tuple" #[x,y] 0)) (more (b _ _ D.i2z.symm (a _ _ D.i1z.symm K))) (G.at λo e=>more (b _ o D.i12 e)) (H.at λo e=>more e) (i▸aQ _ rfl) ((cK ..).trans (by rw[i]))
  λc o u B F e=>more (b _ _ F (a _ _ B (up1 _ _ u e)))
 rw[<- i] at last;exact last
theorem FY {TI TO:Ad}(hh:A.handled=none) (D:ZipApart z TI TO j J l l2)
  (hz:tJ s.heap z TI TO T f) (hT:s.heap.get? T=some oT) (r:IsPair s.heap TI (.ref j) (.ref J))
  (h1:s.heap.IsListIter j l U) (h2:s.heap.IsListIter J l2 k2) (C:s.heap.IsList l xs) (I:s.heap.IsList l2 ys) (g:xs[U]?=none\/ys[k2]?=none)
  (hE:∀ p e,(∀ c o,c≠z->c≠j->c≠J->s.heap.get? c=some o->p.get? c=some o)->(∃ o,p.get? e=some o/\o.cls = .type "StopIteration")->E (.ref e) { s with heap:=p }) :
  wpAny (model aa w) A (Builtin.«zip.__next__» ⟨[.ref z],[]⟩) Q E s:=by
 refine Dw hz hT r λi M F=>?_
 have up1:∀ c o,c≠z->s.heap.get? c=some o->i.get? c=some o:=λc o n e=>F.extBut _ _ n e
 have there:i.IsListIter j l U/\i.IsList l xs:=⟨h1.at λo e=>up1 _ o D.i1z e,C.at λo e=>up1 _ o D.l1z e⟩;rcases iK xs[U]? with b | ⟨x,b⟩
 .exact jN hh there.1 there.2 b λk e t H=>hE k e (λc o d h _ q=>t c o h (up1 c o d q)) H
 .refine gS there.1 there.2 b λk L G=>?_
  have a:∀ c o,c≠z->c≠j->s.heap.get? c=some o->k.get? c=some o:=λc o n m e=>G.extBut _ _ m (up1 c o n e)
  have y:ys[k2]?=none:=g.elim (λn=>by rw[n] at b;cases b) id;exact jN hh (h2.at λo e=>a _ o D.i2z D.i12.symm e) (I.at λo e=>a _ o D.l2z D.l2i1 e) y λB e u K=>hE B e (λc o d h v q=>u c o v (a c o d h q)) K
def uB (h:Ag) (z TI TO g j:Ad):Prop:=IsPair h TI (.ref g) (.ref j)/\(∃ a b,IsPair h TO a b)/\(IsZip h z TI TO .none\/∃ T f o,tJ h z TI TO T f/\h.get? T=some o/\T≠z/\T≠TO/\T≠g/\T≠j)
theorem Wr {TI TO:Ad}(D:ZipApart z TI TO r C U l2)
  (j:uB s.heap z TI TO r C) (I:s.heap.IsListIter r U k) (J:s.heap.IsListIter C l2 k) (l:s.heap.IsList U xs) (p:s.heap.IsList l2 ys) (hx:xs[k]?=some x) (hy:ys[k]?=some y)
  (hQ:∀ g,uB g z TI TO r C->g.IsListIter r U (k+1)->g.IsListIter C l2 (k+1)->IsPair g s.heap.objs.size x y->g.objs.size=s.heap.objs.size+1 ->(∀ c o,c≠z->c≠TO->c≠r->c≠C->s.heap.get? c=some o->g.get? c=some o)->Q (some (.ref s.heap.objs.size)) { s with heap:=g }) :
  wpAny (model aa w) A (pyNext (.ref z)) Q E s:=by
 obtain⟨d,⟨a,b,i⟩,j⟩:=j;obtain⟨V,P,_⟩:=id I;obtain⟨W,R,_⟩:=id J;have q:∀ {c o},s.heap.get? c=some o->s.heap.objs.size≠c:=λe=>(bE (aK e)).symm
 rcases j with j | ⟨T,f,o,j,F,G,S,H,K⟩
 .refine wpAny_pyNext_zip_item D j d i I J l p hx hy λg t L u v n B h=>?_
  exact hQ g ⟨h _ _ D.TIz D.TITO D.TIi1 D.TIi2 d,⟨_,_,L⟩,.inr ⟨_,false,_,t,n,q j,q i,q P,q R⟩⟩ u v n B h
 .have m:s.TypeIs (.ref z) "zip" := ⟨_,j,rfl⟩;unfold pyNext;refine aA (eY (cD (name:=Str.ofString "__next__") m cW (eC cW m gE (FR D j F d I J l p hx hy λg t u v n B h=>aE ?_) (fW _))));exact hQ g ⟨h _ _ D.TIz D.TIi1 D.TIi2 d,⟨_,_,h _ _ D.TOz D.TOi1 D.TOi2 i⟩,.inr ⟨T,true,_,t,h _ _ G H K F,G,S,H,K⟩⟩ u v n B λc o M _ N O e=>h c o M N O e
theorem Ya {TI TO:Ad}(hh:A.handled=none) (D:ZipApart z TI TO C I l1 l2)
  (j:uB s.heap z TI TO C I) (J:s.heap.IsListIter C l1 k) (U:s.heap.IsListIter I l2 k) (l:s.heap.IsList l1 xs) (p:s.heap.IsList l2 ys) (g:xs[k]?=none\/ys[k]?=none)
  (hQ:∀ r,(∀ c o,c≠z->c≠TO->c≠C->c≠I->s.heap.get? c=some o->r.get? c=some o)->Q none { s with heap:=r }):wpAny (model aa w) A (pyNext (.ref z)) Q E s:=by
 obtain⟨d,⟨a,b,i⟩,j⟩:=j;rcases j with j | ⟨T,f,o,j,t,B,F,G,H⟩
 .exact wpAny_pyNext_zip_end hh D j d i J U l p g hQ
 .have h:s.TypeIs (.ref z) "zip" := ⟨_,j,rfl⟩;unfold pyNext;refine aA (eY (cD (name:=Str.ofString "__next__") h cW (eC cW h gE (FY hh D j t d J U l p g λr e x v=>?_) (fW _))));obtain⟨o,y,u⟩:=v;refine aA (dO (T := "StopIteration") (b:=true) ⟨o,y,u⟩ isSubtype_stop ?_);exact aE (hQ _ λc o m _ n q e=>x c o m n q e)
end
theorem U8:typeLookup (.type "zip") "keys" = pure none:=am_miss_of_fast (by decide +kernel)
theorem T8:entryFor table "zip.__getattribute__" = some Builtin.«object.__getattribute__»:=entryFor_alias (id' := "object.__getattribute__") (by kernel_rfl) (by decide +kernel) (by decide +kernel) (by kernel_rfl)
theorem Yb:typeLookup (.type "zip") "__getattr__" = pure none:=am_miss_of_fast (by decide +kernel)
theorem Yt {sl:Array (Ab Ac)}
  (l:s.heap.get? a=some { cls:=.type "zip",dict:=none,data:=.fields fs,slots:=sl }) (q:Q .missing s):wpAny (model g w) A (Builtin.ObjectAttr.find (.ref a) (.type "zip") "keys") Q E s:=by
 have own:wpAny (model g w) A (Builtin.ObjectAttr.inOwnDict "keys" (.ref a)) (λr b=>r=none/\b=s) E s :=
  aA (aA (wpAny_loadPart l (aA (wpAny_loadPart l (aE (aE ⟨rfl,rfl⟩))))))
 have guard:wpAny (model g w) A (Builtin.ObjectAttr.copiedAttributeGuard "keys" (.ref a)) (λ_ b=>b=s) E s:=by
  have no:¬ (([Str.ofString "__module__",Str.ofString "__name__",Str.ofString "__qualname__",Str.ofString "__doc__",Str.ofString "__annotations__"]:Aa Af).contains (Str.ofString "keys")=true):=by decide +kernel
  simp only[Builtin.ObjectAttr.copiedAttributeGuard,bF no];exact aE rfl
 unfold Builtin.ObjectAttr.find;rw[U8];refine aA (aE (aA (aE (aA (aE (aA (lM own ?_)))))));rintro _ _ ⟨rfl,rfl⟩;refine aA (lM guard ?_);rintro _ _ rfl;exact aA (kE (aE q))
theorem EF (a:Ad) (fs:Array Ac) (sl:Array (Ab Ac)) (u:Tok):Meets (Builtin.«object.__getattribute__» ⟨[.ref a,.str "keys" u],[]⟩) (λA R s=>s.heap.get? a=some { cls:=.type "zip",dict:=none,data:=.fields fs,slots:=sl }/\raisesAttr (.ref a) "keys" A R s) :=
 Meets.of_wp λb w A R s f=>by
  obtain⟨l,calm,out⟩:=f;have d:s.TypeIs (.ref a) "zip" := ⟨_,l,rfl⟩;unfold Builtin.«object.__getattribute__»;refine aA (aE (aA (aE (aA (eW d (aA (Yt l ?_)))))));have named:wpAny (model b w) A.in1 (typeNameOfCut 100 (.ref a)) (λn c=>n = "zip" /\ c=s) (λe c=>R (.error e) c) s :=
   aA (aA (eW d (aE (aE ⟨by decide +kernel,rfl⟩))))
  show wpAny _ _ (Builtin.ObjectAttr.noSuchAttribute (.ref a) "keys") _ _ _;unfold Builtin.ObjectAttr.noSuchAttribute;refine aA (lM named ?_);rintro _ _ ⟨rfl,rfl⟩;exact wpAny_raiseAttrError calm out (by decide +kernel)
section
theorem FW {sl:Array (Ab Ac)}
  (l:s.heap.get? a=some { cls:=.type "zip",dict:=none,data:=.fields fs,slots:=sl }) (calm:A.handled=none) (out:∀ j o e,Heap.NewAttrErr s.heap j e (.ref a) "keys" -> E (.ref e) { s with heap:=j,toks:=o }) :
  wpAny (model g w) A (boundAndCalled (.builtin "zip.__getattribute__") (.ref a) (.str "keys" u)) Q E s:=by
 have ask:wpAny (model g w) A (call (.builtin "zip.__getattribute__") [.ref a,.str "keys" u]) Q E s :=
  gL jA ⟨_,l,rfl⟩ T8 (F.args_zip_getattribute_2 _ _) (EF a fs sl u) ⟨l,calm,out⟩
 unfold boundAndCalled;rw[jA.bind (.ref a)];exact aA (aE ask)
theorem Xa (t:s.TypeIs (.ref e) "AttributeError") (out:E (.ref e) s) :
  wpAny (model g w) A (getattributeRaised o name (.type "zip") (.ref e) none false false) Q E s:=by
 have last:wpAny (model g w) A (hookOrError o name (.ref e) false false none) Q E s:=aA (wpAny_throw out);have a:hookBehind (.type "zip") none=pure none:=Yb;unfold getattributeRaised;refine aA (dO t iX ?_);rw[bA rfl,a];exact aA (aE last)
theorem T0 {sl:Array (Ab Ac)}
  (l:s.heap.get? a=some { cls:=.type "zip",dict:=none,data:=.fields fs,slots:=sl }) (calm:A.handled=none) (out:∀ j p e,Heap.NewExcOf s.heap j e "AttributeError" -> Q none { s with heap:=j,toks:=p }) :
  wpAny (model g w) A (getAttr? (.ref a) "keys") Q E s:=by
 have c:∀ j p e,Heap.NewAttrErr s.heap j e (.ref a) "keys" -> (∃ o,j.get? e=some o/\o.cls = .type "AttributeError")/\Q none { s with heap:=j,toks:=p }:=λj p e x=>by
  obtain⟨_,_,y⟩:=x.there;exact⟨⟨_,y,rfl⟩,out j p e x.of⟩
 let d:Ae:={ s with toks:=s.toks+1 };let b:Except Ac Ac->Ae->Prop:=λr i=>wpAny (model g w) A (match r with | .ok v=>pure (some v) | .error e=>do if <- isInstance e (.type "AttributeError") then pure none else throw e) Q E i
 have look:wpAny (model g w) A (getAttrBy (.ref a) (.str "keys" s.toks) false) (λv=>b (.ok v)) (λe=>b (.error e)) d:=by
  refine bV (aA (eW (T := "zip") ⟨_,l,rfl⟩ (aA (jS jA.lookup ?_))));have own:wpAny (model g w) A (getAttrByItsOwn (.ref a) (.str "keys" s.toks) (.type "zip") (.builtin "zip.__getattribute__") false false) (λv=>b (.ok v)) (λe=>b (.error e)) d:=by
   refine aA (aE (aA (eY (bV (FW (s:=d) l calm λj p e x=>?_)))));obtain⟨⟨o,f,h⟩,q⟩:=c j p e x;exact Xa ⟨o,f,h⟩ (aA (dO (T := "AttributeError") ⟨o,f,h⟩ iX (aE q)))
  exact own
 exact aA (wpAny_mkText (aA (eY look)))
end
section
variable {K:Type} [DecidableEq K] {knd:KeyKind prog w K}{A:Around}{R:Result->Ae->Prop}
theorem Ys {TI TO:Ad}(hh:A.handled=none) (D:ZipApart z TI TO l p r C) (hd:d∉[z,TI,TO,l,p,r,C]) (more:Aa (K×Ac)) (hn:more.length=min I.size J.size) (j:more.length<=sizeLine)
  (hT:∀ (i:Nat) x y,I[i]?=some x->J[i]?=some y->∃ k,knd.is k x=true/\more[i]?=some (k,y)) (h0:Ag) :
  ∀ (m i:Nat) (s:Ae),more.length-i=m->i<=more.length->uB s.heap z TI TO l p->s.heap.IsListIter l r i->s.heap.IsListIter p C i->s.heap.IsList r I->s.heap.IsList C J->(∀ b o,b∉[z,TO,l,p,d]->h0.get? b=some o->s.heap.get? b=some o)->s.heap.DictOf knd d (merged [] (more.take i)) ->
   (∀ g tk,(∀ b o,b∉[z,TO,l,p,d]->h0.get? b=some o->g.get? b=some o)->g.DictOf knd d (merged [] more)->R (.ok (.ret .none)) { s with heap:=g,toks:=tk }) ->
   codeAny (model prog w) A (.builtin "dict.update.loop" ⟨[.ref d,.ref z,.int (i:Int) 0,.none],[]⟩) R s:=by
 simp only[aF,bH,eF,kW] at hd;obtain⟨d1,d2,W,X,Y,d6,d7⟩:=hd;have na:∀ {b:Ad},b∉[z,TO,l,p,d]->b≠z/\b≠TO/\b≠l/\b≠p/\b≠d:=λj=>by
  simpa only [aF,bH,eF,kW] using j
 intro m;induction m with
 | zero =>
  intro i s hm hi hz h1 h2 c h kp H hR;have ei:i=more.length:=by omega
  subst ei;rw[bJ (aL _)] at H;refine dM zL ?_;rw[cJ sU _];show wpAny _ A.in1 (pyNext (.ref z) >>= _) _ _ s;refine aA (Ya (by simpa using hh) D hz h1 h2 c h ?_ λg B=>?_)
  .rcases Nat.le_total I.size J.size with q | q
   .exact .inl (fH (by omega))
   .exact .inr (fH (by omega))
  .show wpAny _ A.in1 (Builtin.Dict.addKeywords d [] >>= _) _ _ _;refine aA (aE ?_);obtain⟨o,F,E,u,rest⟩:=H;exact aE (hR g _ (λb o j e=>let ⟨P,Q,S,V,b5⟩:=na j;B b o P Q S V (kp b o j e)) ⟨o,F,E,B d _ d1 W X Y u,rest⟩)
 | succ m ih =>
  intro i s hm hi hz h1 h2 c h kp H hR;have ab:i<more.length:=by omega
  obtain⟨x,hx⟩:∃ x,I[i]?=some x:=⟨_,eS (by omega)⟩;obtain⟨y,hy⟩:∃ y,J[i]?=some y:=⟨_,eS (by omega)⟩;obtain⟨ky,N,t⟩:=hT i x y hx hy;refine dM zL ?_;rw[cJ sU _];show wpAny _ A.in1 (pyNext (.ref z) >>= _) _ _ s;refine aA (Wr D hz h1 h2 c h hx hy λg z' ac ae pr sz B=>?_);have aa:g.DictOf knd d (merged [] (more.take i)):=by
   obtain⟨o,F,E,u,rest⟩:=H;exact⟨o,F,E,B d _ d1 W X Y u,rest⟩
  have af:g.IsList r I:=c.at λo e=>B r o D.l1z D.l1TO D.l1i1 D.l1i2 e
  have ag:g.IsList C J:=h.at λo e=>B C o D.l2z D.l2TO D.l2i1 D.l2i2 e
  have pd:s.heap.objs.size≠d:=by
   obtain⟨o,F,E,u,rest⟩:=H;exact (bE (aK u)).symm
  show wpAny _ A.in1 (holding [Value.ref s.heap.objs.size] _ >>= _) _ _ _;refine aA (bV ?_);refine aA (iC ?_);unfold Builtin.Dict.pairItems;refine aA (eW (T := "tuple") ⟨_,pr,rfl⟩ ?_);rw[bA (by decide)];refine aA (dH pr rfl ?_);refine aE ?_;show wpAny _ A.in1 (holding [x,y] (dictSet d x y)) _ _ _;refine bV ?_;have v:(merged [] (more.take i)).length<=sizeLine:=by
   have Z:=merged_length_le ([]:Aa (K×Ac)) (more.take i);rw[fU,bR] at Z;omega
  refine jY (hsz:=v) N aa λG n sb=>?_
  rw[<- merged_take_succ [] more i (ky,y) t] at n;refine aE ⟨fX sU _,?_⟩;have Z:(rawInt ((i:Int)+1))=Value.int ((i+1:Nat):Int) 0:=by rfl
  rw[Z];have up:∀ b o,b≠d->g.get? b=some o->G.get? b=some o:=λb o j e=>by rw[sb.2 b j];exact e
  have zz:uB G z TI TO l p:=by
   obtain⟨p1,⟨a,b,p2⟩,p3⟩:=z';refine⟨up _ _ (cO d2) p1,⟨a,b,up _ _ (cO W) p2⟩,?_⟩;rcases p3 with p3 | ⟨T,f,o,q1,q2,q3,q4,q5,q6⟩
   .exact .inl (up _ _ (cO d1) p3)
   .by_cases M:T=d
    .subst M;obtain⟨o',F,E,u,rest⟩:=n;exact .inr ⟨T,f,_,up _ _ (cO d1) q1,u,q3,q4,q5,q6⟩
    .exact .inr ⟨T,f,o,up _ _ (cO d1) q1,up _ _ M q2,q3,q4,q5,q6⟩
  refine ih (i+1) _ (by omega) ab zz (ac.at λo e=>up _ o (cO X) e) (ae.at λo e=>up _ o (cO Y) e) (af.at λo e=>up _ o (cO d6) e) (ag.at λo e=>up _ o (cO d7) e) (λb o j e=>?_) n λU tk O L=>hR U tk O L
  obtain⟨P,Q,S,V,b5⟩:=na j;exact up b o b5 (B b o P Q S V (kp b o j e))
theorem Nr {TI TO:Ad}(t:s.TypeIs (.ref d) "dict") (j:IsZip s.heap z TI TO .none) (calm:A.handled=none)
  (on:∀ g l e,Heap.NewExcOf s.heap g e "AttributeError" -> Q (.again (.builtin "dict.update.loop" ⟨[.ref d,.ref z,.int 0 0,.none],[]⟩)) { s with heap:=g,toks:=l }) :
  wpAny (model prog w) A (Builtin.«dict.__init__» ⟨[.ref d,.ref z],[]⟩) Q E s:=by
 have first:wpAny (model prog w) A (Builtin.Dict.selfAndRest "__init__" ⟨[.ref d,.ref z],[]⟩) (λp c=>p=(d,[Value.ref z])/\c=s) E s:=aA (wpAny_notOrdered_dict t (aE ⟨rfl,rfl⟩))
 have a:wpAny (model prog w) A (Builtin.Dict.updateFrom "dict.__init__" d (.ref z) [] .none) Q E s:=by
  refine aA (eW (T := "zip") ⟨_,j,rfl⟩ ?_);rw[bA (by decide)];refine aA (T0 j calm λg l e x=>?_);have b:IsZip g z TI TO .none:=x.keeps _ _ j;exact aA (kE (aA (wpAny_pyIter_zip b (aE (on g l e x)))))
 exact aA (dB first (λp c q=>by obtain⟨rfl,rfl⟩:=q;exact a) λ_ _ q=>q)
theorem X7 {TI TO:Ad}(hh:A.handled=none) (D:ZipApart z TI TO U i2 l1 l2)
  (T:IsZip s.heap z TI TO .none) (l:IsPair s.heap TI (.ref U) (.ref i2)) (C:IsPair s.heap TO .none .none) (h1:s.heap.IsListIter U l1 0) (h2:s.heap.IsListIter i2 l2 0) (I:s.heap.IsList l1 xs) (J:s.heap.IsList l2 ys)
  (hn:more.length=min xs.size ys.size) (g:more.length<=sizeLine) (hT:∀ (i:Nat) x y,xs[i]?=some x->ys[i]?=some y->∃ k,knd.is k x=true/\more[i]?=some (k,y))
  (h:∀ (j:Ag) (tk:Nat),j.DictOf knd s.heap.objs.size (merged [] more)->(∀ b o,b∉[z,TO,U,i2]->s.heap.get? b=some o->j.get? b=some o)->Q (.ref s.heap.objs.size) { s with heap:=j,toks:=tk }) :
  wpAny (model prog w) A (call (.type "dict") [.ref z]) Q E s:=by
 let d:=s.heap.objs.size;have made:(uL s).heap.DictOf knd d []:=jW s.heap;have old:∀ b o,s.heap.get? b=some o->(uL s).heap.get? b=some o:=λb o e=>aD _ e
 refine callType_codes F.kt_called_dict (jT _) F.entry_dict_init (kt_code_dict_new _ (Q₁:=λv n=>v = .ref d/\n=uL s) ⟨rfl,rfl⟩) λv n q=>?_
 obtain⟨rfl,rfl⟩:=q;refine⟨made.typeIs,kF _ _,Nr made.typeIs (old _ _ T) (by simp[hh]) λc tk e x=>⟨fX sU _,?_⟩⟩;have keeps:∀ b o,s.heap.get? b=some o->c.get? b=some o:=λb o e=>x.keeps _ _ (old b o e)
 obtain⟨N,G,_⟩:=id h1;obtain⟨O,H,_⟩:=id h2;obtain⟨P,L,_⟩:=id I;obtain⟨S,M,_⟩:=id J;have a:∀ {b o},s.heap.get? b=some o->d≠b:=λe=>(bE (aK e)).symm
 have f:c.DictOf knd d []:=by
  obtain⟨o,u,t,p,r⟩:=made;exact⟨o,u,t,x.keeps _ _ p,r⟩
 refine Ys (knd:=knd) (by simp[hh]) D ?_ more hn g hT s.heap more.length 0 _ rfl (cS _) ⟨keeps _ _ l,⟨_,_,keeps _ _ C⟩,.inl (keeps _ _ T)⟩ (h1.at λo e=>keeps _ o e) (h2.at λo e=>keeps _ o e) (I.at λo e=>keeps _ o e) (J.at λo e=>keeps _ o e) (λb o _ e=>keeps b o e) (by simpa [merged] using f) λj m B fin=>?_
 .simp only[aF,bH,eF,kW];exact⟨a T,a l,a C,a G,a H,a L,a M⟩
 .refine⟨rfl,h j m fin λb o g e=>B b o (λq=>?_) e⟩;simp only[aF,bH,eF,kW] at g q;rcases q with q | q | q | q | q
  .exact g.1 q
  .exact g.2.1 q
  .exact g.2.2.1 q
  .exact g.2.2.2 q
  .exact a e q.symm
end
end PySem
namespace L2
open PySem PySem.Spec PyProof.Rows Lw
section
variable {X:Cx}
def EN (K:lJ) (g:TA):TE:=λf H Q=>g f H λe a=>∃ (l m:Ad) (b:Aa lL) (c:Aa V),e=[.ref l,.ref m]/\gV K a l (b.map kV)/\gV K a m c/\b.length<=1000/\∀ d,a d=none->Q (.ref d) (upd a d (.k (pJ [] (b.zip c))))
theorem Im:∀ (g:Aa lL){j:Aa V}{l:Aa Ac},lN j l->KV (g.zip j) (g.zip l)
 | [],_,_,_=>.nil
 | k::g,_,_,.nil=>.nil
 | k::g,_,_,.cons h r=>.cons ⟨rfl,h⟩ (Im g r)
theorem Wy (j:X.calm=true) (hg:Gl X "dict") (hm:X.mg "dict" = none) (r:Gl X "zip") (C:X.mg "zip" = none) (ha:PA X [a,b] ta)
  (hs:starEach [a,b] X.env=(false,eval a X.env)::starEach [b] X.env:=by rfl) (J:(backTo g (starEach [b] X.env)).any (·.1)=false:=by rfl) :
  PE X (.Call (.Name "dict" p) [.Call (.Name "zip" p') [a,b] [] g] [] pos) (EN X.K ta):=by
 intro z s σ H Q I h;refine dD (sR I hg hm boot_dict ?_ (by decide) (by decide));refine bY ?_ rfl rfl;show wpAny _ _ (spliced ((false,eval (.Call (.Name "zip" p') [a,b] [] g) X.env)::backTo pos (starEach [] X.env))) _ _ s;refine gJ ?_;refine dD (sR I r C boot_zip ?_ (by decide) (by decide));refine bY (lM (ha g z s σ H _ I h) λus B M=>?_) hs J;obtain⟨xs,H1,t,S,q1⟩:=M;obtain⟨l,m,c,E,rfl,hl,hv,hn,q⟩:=q1;obtain⟨Z,T,rfl,W,Y⟩:∃ Z T,us=[Z,T]/\lS (.ref l) Z/\lS (.ref m) T:=by
  cases S with | cons S V=>cases V with | cons V r3=>cases r3;exact⟨_,_,rfl,S,V⟩
 cases W;cases Y;obtain⟨N,r',R,_⟩:=t.list hl;obtain⟨f,A,n,_⟩:=t.list hv;refine call_zip_2 R.isList n.isList λD z1 z2 z3 z4 z5 z6 U=>?_
 refine jC ?_;have L1:=r'.length;have L2:=A.length;rw[aB] at L1;have F:=Im c A;have O:l<B.heap.objs.size:=by obtain⟨_,e,_⟩:=R.isList;exact aK e
 have P:m<B.heap.objs.size:=by obtain⟨_,e,_⟩:=n.isList;exact aK e
 refine X7 (knd:=pQ X.prog X.w) (more:=c.zip f) (s:={ B with heap:=D }) (t.ok.hd j) (zipApart_new O P) z1 z2 z3 z4 z5 (R.isList.at λo e=>U _ o e) (n.isList.at λo e=>U _ o e) ?_ ?_ ?_ λh2 tk hD hk=>?_
 .rw[fC,aM,aM];omega
 .rw[fC];exact fV (cM (show min c.length f.length<=1000 by omega) (by decide))
 .intro i x y v G;have v:N[i]?=some x:=by simpa using v
  have G:f[i]?=some y:=by simpa using G
  obtain⟨hi,_⟩:=aP.mp v;obtain⟨u,hu,ru⟩:=r'.get (i:=i) (x:=kV (c[i]'(by omega))) (by simp[show i<c.length by omega]);rw[hu] at v;cases v;refine⟨c[i]'(by omega),vX ru,?_⟩;rw[iJ];exact⟨aJ _,G⟩
 .have L:(pJ [] (c.zip E)).length<=sizeLine:=by
   have h1:=Dv (c.zip E) [];rw[fU,fC] at h1;exact fV (cM (show (pJ [] (c.zip E)).length<=1000 by omega) (by decide))
  have d:B.heap.objs.size<=D.objs.size:=by omega
  have kp:∀ b o,B.heap.get? b=some o->h2.get? b=some o:=λb o e=>hk b o (λq=>by
   have:=aK e;simp only[aF,bH,eF] at q;rcases q with q | q | q | q<;>rw[q] at this<;>first | exact absurd this (dX _) | exact absurd this (kZ.mpr (eI _ _))) (U b o e)
  refine⟨.ref D.objs.size,_,t.laid (a:=D.objs.size) (o:=.k (pJ [] (c.zip E))) (t':=tk) kp d ?_,rfl,q _ (t.hok.fresh d)⟩;exact Ak L (cY.mpr (cO (bE (aR t.big d)))) (F.merge .nil) hD
end
def vD:Aa D->Ab (Aa lL)
 | []=>some []
 | d::a=>match rE d,vD a with
  | some k,some b=>some (k::b)
  | _,_=>none
section
variable {X:Cx}{K:lJ}
theorem Ml (h:vD g=some j) (l:Reps K A H g o):o=j.map kV:=by
 induction g generalizing j o with
 | nil=>cases l;cases h;rfl
 | cons d g c =>
  cases l with
  | cons r l =>
  have h:=(show (match rE d,vD g with | some k,some j=>some (k::j) | _,_=>none)=some j from h);cases a:rE d with
  | none=>rw[a] at h;cases h
  | some k =>
   cases b:vD g with
   | none=>rw[a,b] at h;cases h
   | some e =>
    rw[a,b] at h;cases h;rw[c b l,Ap a r.peek];rfl
theorem Jl:∀ (g:Aa Af),vD (g.map D.str)=some (g.map Sum.inr)
 | []=>rfl
 | x::g=>by
  show (match some (Sum.inr x:lL),vD (g.map D.str) with | some k,some a=>some (k::a) | _,_=>none)=_;rw[Jl g];rfl
def Jf:OC:=λb e=>match b with
 | [.l c,.l d]=>∃ a,vD c=some a/\a.length<=1000/\e (.o (.k (rD [] (a.zip d))))
 | _=>False
theorem He:∀ (g:Aa lL){j:Aa D}{l:Aa V}{A:Ad->Prop}{H:Hp},Reps K A H j l->(g.zip j).map (·.1)=(g.zip l).map (·.1)/\Reps K A H ((g.zip j).map (·.2)) ((g.zip l).map (·.2))
 | [],_,_,_,_,_=>⟨rfl,.nil⟩
 | k::g,_,_,_,_,.nil=>⟨rfl,.nil⟩
 | k::g,_,_,_,_,.cons h r=>by
  obtain⟨a,b⟩:=He g r;exact⟨by simp[a],.cons h b⟩
theorem CV:qC K (λo H Q=>∃ (l m:Ad) (g:Aa lL) (j:Aa V),o=[.ref l,.ref m]/\gV K H l (g.map kV)/\gV K H m j/\g.length<=1000/\∀ d,H d=none->Q (.ref d) (upd H d (.k (pJ [] (g.zip j))))) Jf:=by
 intro B L H D o F Q hd f c k;unfold Jf at c;split at c
 .obtain⟨x,y,rfl,s,py⟩:=yV f;obtain⟨g,n,q,c⟩:=c;obtain⟨a,E,rfl,h,v⟩:=s.lst_inv;obtain⟨b,j,rfl,i,w⟩:=py.lst_inv;have e:=Ml n v;subst e;obtain⟨z,A⟩:=He g w;obtain⟨t,u⟩:=Co (kvs:=[]) (vs:=[]) z A rfl .nil;exact⟨a,b,g,j,rfl,gV.of h,gV.of i,q,λp f=>k _ _ _ c (hd.dKF f t u)⟩
 .exact c.elim
theorem Vl (g:X.calm=true) (I:Gl X "dict") (J:X.mg "dict" = none) (l:Gl X "zip") (o:X.mg "zip" = none) (C:qY X [a,b] U)
  (T:starEach [a,b] X.env=(false,eval a X.env)::starEach [b] X.env:=by rfl) (r:(backTo j (starEach [b] X.env)).any (·.1)=false:=by rfl) :
  PD X (.Call (.Name "dict" p) [.Call (.Name "zip" p') [a,b] [] j] [] pos) (dC Jf U):=(Wy g I J l o C T r).mono λ_ _ _ h=>Ee CV h
end
end L2
namespace PySem
open PyProof.Rows L2
section
variable {R:Result->Ae->Prop}
def Bn:Ab (Int×Tok)->Array Ac
 | none=>#[]
 | some (b,t)=>#[.int b t,.int b t]
def vP (o:Ab (Int×Tok)) (x:Int×Tok):Ab (Int×Tok) :=
 match o with
 | none=>some x
 | some b=>if b.1<x.1 then some x else some b
def zX (d:Ac):Ab (Int×Tok)->Ac
 | none=>d
 | some (b,t)=>.int b t
abbrev wX (I S:Ad) (d:Ac):Code:=.builtin "max.loop" ⟨[.ref I,.none,.ref S],[(Str.ofString "default",d)]⟩
def uH (h:Ag) (S:Ad) (o:Ab (Int×Tok)):Prop:=∃ c,h.get? S=some { cls:=.type "list",dict:=none,data:=.seq (Bn o) c,slots:=#[] }
theorem uH.on {S:Ad}(k:uH h S o) (e:g.get? S=h.get? S):uH g S o:=k.imp λ_ q=>e.trans q
theorem Hq {S:Ad}(k:uH s.heap S o) (j:f (Bn o)=Bn o')
  (go:∀ g,uH g S o'->(∀ b,b≠S->g.get? b=s.heap.get? b)->Q () { s with heap:=g }):wpAny (model l w) A (updateSeq S f) Q E s:=by
 obtain⟨c,e⟩:=k;have a:∀ o,(Bn o).size<=2:=λo=>by cases o<;>simp[Bn]
 have line:2<=sizeLine:=by decide
 have d:=jK (Obj.mapSeq f) e rfl;simp only[Obj.mapSeq,j] at d;exact wpAny_updateSeq e rfl (go _ ⟨_,d⟩ λb n=>jE _ _ (cO n)) (bX (a _) line) (by rw[j];exact Nat.le_succ_of_le (bX (a _) line))
theorem Ef {S:Ad}(go:codeAny (model g w) A (wX I S d) R s):(wX I S d).quiet=true/\codeAny (model g w) A (wX I S d) R s:=⟨fX F.plain_max_loop _,go⟩
theorem HD {S:Ad}(g:S≠I) (hit:s.heap.IsListIter I l j) (T:s.heap.IsList l items) (J:items[j]?=some (.int n t)) (C:uH s.heap S o)
  (go:∀ r,r.IsListIter I l (j+1)->uH r S (vP o (n,t))->(∀ b,b≠I->b≠S->r.get? b=s.heap.get? b)->codeAny (model p w) A (wX I S d) R { s with heap:=r }) :
  codeAny (model p w) A (wX I S d) R s:=by
 have name:(toString "max" ++ toString ".loop" : String) = "max.loop" := rfl;refine dM F.entry_max_loop ?_;rw[cJ F.plain_max_loop _];obtain⟨c,y⟩:=id C;show wpAny _ A.in1 (seqItems? (.ref S) >>= _) _ _ s;refine aA (dH y rfl ?_);refine aA (iC (wpAny_pyNext_list_item hit T J λz a m=>?_));have f:uH z S o:=C.on (m.2 S g);refine aA (aE ?_);cases o with
 | none =>
  refine aA (Hq (o':=some (n,t)) f rfl λv h k=>?_);rw[name];exact aE (Ef (go v (a.at λo e=>(k I (cO g)).trans e) h λb i q=>(k b q).trans (m.2 b i)))
 | some x =>
  obtain⟨b,u⟩:=x;refine aA (iC (bV (aA (richCompare_gives (op:=.Gt) (kY _ _ t) (kY _ _ u) F.slot_int_gt F.entry_int_gt (F.args_int_gt_2 _ _) (gives_int_gt _ _ t u) (λx=>nomatch x) ?_))));refine aA (bV (iA (aA (jU (aE ?_)))));by_cases lt:b<n
  .have e:vP (some (b,u)) (n,t)=some (n,t):=bA lt;rw[e] at go;rw[bA (cV lt)];refine aA (Hq (o':=some (n,t)) f rfl λv h k=>aA (jU ?_));rw[name];exact aE (Ef (go v (a.at λo e=>(k I (cO g)).trans e) h λb i q=>(k b q).trans (m.2 b i)))
  .have e:vP (some (b,u)) (n,t)=some (b,u):=bF lt;rw[e] at go;rw[bF (by rw[eL];exact lt)];refine aA (jU ?_);rw[name];exact aE (Ef (go z a f λb i _=>m.2 b i))
theorem Xp {S:Ad}(calm:A.handled=none) (g:S≠I) (hit:s.heap.IsListIter I l j) (U:s.heap.IsList l items) (T:items[j]?=none) (J:uH s.heap S o)
  (out:∀ r,(∀ b p,b≠I->b≠S->s.heap.get? b=some p->r.get? b=some p)->R (.ok (.ret (zX d o))) { s with heap:=r }) :
  codeAny (model C w) A (wX I S d) R s:=by
 refine dM F.entry_max_loop ?_;rw[cJ F.plain_max_loop _];obtain⟨c,a⟩:=id J;show wpAny _ A.in1 (seqItems? (.ref S) >>= _) _ _ s;refine aA (dH a rfl ?_);refine aA (iC (wpAny_pyNext_list_end (A:=A.in1) calm hit U T λk h=>?_));cases o with
 | none=>exact aA (kE (aE (out k λb p f _ e=>h b p f e)))
 | some x=>exact aA (Hq (o':=none) ⟨c,h S _ g a⟩ rfl λm _ n=>aA (jU (aE (out m λb p f i e=>(n b i).trans (h b p f e)))))
theorem FI {S:Ad}(calm:A.handled=none) (g:S≠I) (r:l≠I) (C:l≠S) (left:Aa (Int×Tok)) :
  ∀ (j:Nat) (o:Ab (Int×Tok)) (s:Ae),items.toList.drop j=left.map (λx=>.int x.1 x.2)->s.heap.IsListIter I l j->s.heap.IsList l items->uH s.heap S o ->
   (∀ J,(∀ b p,b≠I->b≠S->s.heap.get? b=some p->J.get? b=some p)->R (.ok (.ret (zX d (left.foldl vP o)))) { s with heap:=J })->codeAny (model T w) A (wX I S d) R s:=by
 induction left with
 | nil =>
  intro j o s hd hit f h out;have a:items[j]?=none:=by
   rw[<- eU,<- gU j,<- List.getElem?_drop,hd];rfl
  exact Xp calm g hit f a h out
 | cons x left t =>
  intro j o s hd hit f h out;have this:items[j]?=some (.int x.1 x.2):=by
   rw[<- eU,<- gU j,<- List.getElem?_drop,hd];rfl
  have rest:items.toList.drop (j+1)=left.map (λx=>.int x.1 x.2):=by
   rw[<- List.drop_drop,hd];rfl
  exact HD g hit f this h λv c i n=>t (j+1) _ _ rest c (f.at λp e=>(n l r C).trans e) i λq u=>out q λb p k m e=>u b p k m ((n b k m).trans e)
theorem Jg:∀ (left:Aa (Int×Tok)) (b:Int×Tok),∃ m,left.foldl vP (some b)=some m/\(m=b\/m∈left)/\b.1<=m.1/\∀ x∈left,x.1<=m.1
 | [],b=>⟨b,rfl,.inl rfl,eJ _,λ_ h=>nomatch h⟩
 | x::left,b=>by
  rw[iT];show ∃ m,left.foldl vP (if b.1<x.1 then some x else some b)=some m/\_;by_cases lt:b.1<x.1
  .rw[bA lt];obtain⟨m,e,w,g,all⟩:=Jg left x;exact⟨m,e,.inr (w.elim (λq=>q▸aH) (aN _)),by omega,λy a=>(aF.mp a).elim (λq=>q▸g) (all y)⟩
  .rw[bF lt];obtain⟨m,e,w,g,all⟩:=Jg left b;exact⟨m,e,w.imp_right (aN _),g,λy a=>(aF.mp a).elim (λq=>by rw[q];omega) (all y)⟩
theorem Z6 (a v:Ac):argsOk "max" ⟨[a],[(Str.ofString "default",v)]⟩:=by unfold argsOk;kernel_rfl
theorem EO {vs:Aa (Int×Tok)}(calm:A.handled=none) (g:s.heap.IsList l items) (C:items.toList=vs.map λx=>.int x.1 x.2)
  (out:∀ j,(∀ b o,s.heap.get? b=some o->j.get? b=some o)->Q (zX d (vs.foldl vP none)) { s with heap:=j }) :
  wpAny (model r w) A (call (.builtin "max") [.ref l] [(Str.ofString "default",d)]) Q E s:=by
 have name:(toString "max" ++ toString ".loop" : String) = "max.loop" := rfl;have bound:Builtin.Builtins.bindParams "max" ["key","default"] 0 ⟨[],[(Str.ofString "default",d)]⟩=pure [none,some d]:=rfl;have lt:l<s.heap.objs.size:=by
  obtain⟨_,e,_⟩:=g;exact aK e
 refine kmk_tree F.kind_max F.plain_max F.entry_max (Z6 _ _) ?_;show wpAny _ A.in1 (Builtin.Builtins.bindParams "max" ["key","default"] 0 ⟨[],[(Str.ofString "default",d)]⟩ >>= _) _ _ s;rw[bound];refine aA (aE (aA (aE (aA (eK g (aA (wpAny_newList ?_ (cS _))))))));rw[name];have a:(s.heap.push { cls:=.type "list_iterator",data:=.fields #[.ref l,.int 0 0] }).objs.size=s.heap.objs.size+1:=cK ..;have same:∀ b p,s.heap.get? b=some p->((s.heap.push { cls:=.type "list_iterator",data:=.fields #[.ref l,.int 0 0] }).push (seqObj "list" #[] 0)).get? b=some p:=λb p e=>aD _ (aD _ e)
 have less:∀ b p,s.heap.get? b=some p->b<s.heap.objs.size:=λ_ _ e=>aK e
 refine aE (Ef (FI (l:=l) (items:=items) calm ?_ (bE lt) ?_ vs 0 none _ C ⟨_,aD _ (aQ _ rfl),rfl,rfl⟩ (g.at λp e=>same _ p e) ⟨0,aQ _ rfl⟩ λc f=>?_))
 .rw[a];exact Nat.succ_ne_self _
 .rw[a];exact bE (jF lt)
 .exact out c λb p e=>f b p (bE (less b p e)) (by rw[a];exact bE (jF (less b p e))) (same b p e)
end
end PySem
namespace L2
open PySem PySem.Spec PyProof.Rows Lw
section
variable {X:Cx}{K:lJ}
def T4 (K:lJ) (j g:TE):TE:=λd H Q=>uJ j uV d H λf e=>uJ g uV d e λh c=>∃ (l:Ad) (b:Aa Int) (y:V),f=[.ref l]/\h=[y]/\gV K c l (b.map V.int)/\(b=[]->Q y c)/\∀ m:Int,m∈b->(∀ a∈b,a<=m)->Q (.int m) c
theorem S5 (C:X.calm=true) (T:Gl X "max") (U:X.mg "max" = none) (J:PE X e r) (hd:PE X d o) (j:starEach [e] X.env=[(false,eval e X.env)]:=by rfl) :
  PE X (.Call (.Name "max" p) [e] [⟨some "default",d,kp⟩] pos) (T4 X.K r o):=by
 intro c s S H Q I h;refine dD (sR I T U boot_max ?_ (by decide) (by decide));have D:PK X [⟨some "default",d,kp⟩] (uJ o uV):=CZ hd Xm;have B:PA X [e] (uJ r uV):=uK J lY j;refine callWith_kw (e:=e) (rest:=[]) (lM (B pos c s S H _ I h) λus s1 i=>?_) (by rw[j];rfl) (by rw[j];rfl) rfl rfl;obtain⟨xs,V,W,r1,q1⟩:=i;refine lM (D pos c s1 S V _ W q1) λws s2 i=>?_
 obtain⟨ys,F,z,A,q2⟩:=i;obtain⟨l,E,y,rfl,rfl,M,N,O⟩:=q2;obtain⟨u,rfl,ru⟩:=oV r1;obtain⟨v,rfl,rv⟩:=oV A;cases ru;obtain⟨w,R,P,hz⟩:=z.list M;have G:=R.length;rw[aB] at G;show wpAny _ _ (call (.builtin "max") [.ref l] [(Str.ofString "default",v)]) _ _ s2;have toks:∃ b:Aa (Int×Tok),w=(b.map λx=>Value.int x.1 x.2)/\b.map Prod.fst=E:=by
  clear P hz N O M;induction E generalizing w with
  | nil=>exact⟨[],List.length_eq_zero_iff.mp G.symm,rfl⟩
  | cons n E ih =>
   cases R with
   | cons q A =>
    obtain⟨t,rfl⟩:=q;obtain⟨b,rfl,e⟩:=ih _ A (by simpa using A.length);exact⟨(n,t)::b,rfl,by rw[<- e];rfl⟩
 obtain⟨b,rfl,f⟩:=toks;refine EO (vs:=b) (z.ok.hd C) P.isList rfl λh' k=>?_
 cases b with
 | nil=>exact⟨y,F,z.kept k,rv,N f.symm⟩
 | cons x b =>
  obtain⟨m,Y,wm,g,all⟩:=Jg b x;have e:zX v ((x::b).foldl vP none) = .int m.1 m.2:=by
   show zX v (b.foldl vP (some x))=_;rw[Y];rfl
  rw[e];refine⟨.int m.1,F,z.kept k,⟨m.2,rfl⟩,O m.1 ?_ λa L=>?_⟩
  .rw[<- f];exact aG.mpr ⟨m,aF.mpr (wm.imp_left id),rfl⟩
  .rw[<- f] at L;obtain⟨p,Z,rfl⟩:=aG.mp L;exact (aF.mp Z).elim (λq=>q▸g) (all p)
end
section
variable {X:Cx}
def Hh (j g:mK):mK:=λe k f=>j e k λr d=>g e d λh b=>match sd r,sd h with
 | some (.l i),some y=>∃ c,rT i=some c/\(c=[]->f (.v y) b)/\∀ m:Int,m∈c->(∀ a∈c,a<=m)->f (.v (.int m)) b
 | _,_=>False
theorem Q8 (g:X.calm=true) (o:Gl X "max") (C:X.mg "max" = none) (j:PD X e U) (hd:PD X d J) (I:starEach [e] X.env=[(false,eval e X.env)]:=by rfl) :
  PD X (.Call (.Name "max" p) [e] [⟨some "default",d,kp⟩] pos) (Hh U J) :=
 (S5 g o C j hd I).mono λσ H Q n=>n.elim λB V T Φ E hd G k=>⟨B,V,T,_,E,hd,G,λr q x W K d1 w=>⟨B,q,(r,some x)::T,_,K,d1,w,λR f y s u d2 b=>by
  cases h:sd r with
  | none=>rw[h] at b;exact b.elim
  | some c =>
   cases i:sd R with
   | none=>rw[h,i] at b;cases c<;>exact b.elim
   | some Y =>
    rw[h,i] at b;cases c with
    | l xs =>
     obtain⟨N,F,L,M⟩:=b;obtain⟨v,O,P⟩:=d2.two h i;obtain⟨a,Z,rfl,_,t,S⟩:=O.lst_inv;rw[Bi F S] at t;exact⟨a,N,y,rfl,rfl,gV.of t,λz=>k _ f y s u (v.push P) (L z),λm A D=>k _ f _ s u (v.push (.int m)) (M m A D)⟩
    | _=>exact b.elim⟩⟩
end
def Bw (lo c:Int) (n:Nat):It:=⟨λi _=>i<n,λi H x a=>a=H/\x = .int (lo+i*c),λi _=>n<=i⟩
theorem V4 {P:Ah}{K:lJ}(g:Ad) (lo c:Int) (n:Nat):Turn P w K j (Bw lo c n) [g] g (λi h=>IsRangeIter h g (lo+(i:Nat)*c) ((n:Int)-(i:Nat)) c) where
 mem:=by simp
 obj:=λi h st b d=>by
  have e:b=g:=by simpa using d
  subst e;exact⟨_,st,λv z=>by
   have S:Data.fields _=Data.cell v:=z;cases S⟩
 keep:=λi h m st k=>k g (by simp) _ st
 item:=by
  intro X D hw B F i a s M H E I q st G;subst D hw B;obtain⟨u,f1,f2,x,y,A⟩:=q g (by simp);have W:=Walks.range (prog:=X.prog) (w:=X.w) (I.ok.hd F) g lo c n;refine W.item i s _ _ G st λv m L Q f R=>?_
  obtain⟨t,rfl⟩:=Q;have N:Inv X a M H { s with heap:=m,toks:=L }:=I.turned (λb o d e=>R b o (by simpa using d) e) u f1 x y A;exact⟨_,rfl,A6 (s:={ s with heap:=m,toks:=L }) (n := "range_iterator") f rfl rfl (by decide) ⟨.int (lo+i*c),H,N,⟨t,rfl⟩,⟨rfl,rfl⟩,f,λb d=>(q b d).1⟩⟩
 done:=by
  intro X D hw B F i a s M H E I q st G;subst D hw B;obtain⟨u,f1,f2,x,y,A⟩:=q g (by simp);exact wpAny_pyNext_range_end (I.ok.hd F) st (by have:n<=i:=G;omega) λm O=>⟨rfl,I.turned (t':=s.toks) (λb o d e=>O b o d e) u f1 x y A⟩
 self:=λ_ _ _ _ _ st h=>wpAny_pyIter_rangeiter st h
section
variable {X:Cx}
def uQ (lo g c:Int):Nat:=if lo<g then ((g-lo-1)/c+1).toNat else 0
def Vo (g:TA):TI:=λd H R=>g d H λb a=>∃ i j c:Int,b=[.int i,.int j,.int c]/\(0<=i/\i<=100000/\0<=j/\j<=100000/\0<c/\c<=100000)/\R (Bw i c (uQ i j c)) a
theorem U2 (l:Gl X "range") (r:X.mg "range" = none) (j:PA X [a,b,c] J) (C:starEach [a,b,c] X.env=(false,eval a X.env)::starEach [b,c] X.env:=by rfl) (g:(backTo pos (starEach [b,c] X.env)).any (·.1)=false:=by rfl) :
  PI X T (.Call (.Name "range" p) [a,b,c] [] pos) (Vo J):=by
 intro f s y H R I h;refine Call_ (sR I l r boot_range (bY (lM (j pos f s y H _ I h) λV i w=>?_) C g));obtain⟨W,x,z,F,E⟩:=w;obtain⟨lo,d,c,rfl,⟨M,N,O,P,n,Q⟩,q⟩:=E;cases F with
 | cons G k =>
  cases k with
  | cons K k =>
   cases k with
   | cons L k =>
    cases k;obtain⟨t,rfl⟩:=G;obtain⟨u,rfl⟩:=K;obtain⟨v,rfl⟩:=L;refine call_range_3 (by omega) ?_ (.inl (PyProof.noPylong_small (by omega)));refine wpAny_pyIter_range (IsRange.new ..) ?_ ?_
    .have S:0<=Builtin.Range.rangeSize lo d c/\Builtin.Range.rangeSize lo d c<=100001:=by
      unfold Builtin.Range.rangeSize;rw[bA (show c>0 from n)];split
      .have Y:=Int.ediv_nonneg (show 0<=d-lo-1 by omega) (show 0<=c by omega);have Z:=Int.ediv_le_self c (show 0<=d-lo-1 by omega);omega
      .omega
     unfold Builtin.Range.small;simp only[Builtin.Range.rangeFitsLong,bS,lF,eL,iD,bA (show c>0 from n)];omega
    .have m:Inv X f y x { i with heap:=i.heap.push { cls:=.type "range",data:=.fields #[.int lo t,.int d u,.int c v] },toks:=i.toks }:=z.kept λb o e=>aD _ e
     refine⟨(i.heap.push { cls:=.type "range",data:=.fields #[.int lo t,.int d u,.int c v] }).objs.size,[(i.heap.push { cls:=.type "range",data:=.fields #[.int lo t,.int d u,.int c v] }).objs.size],_,_,x,rfl,
      m.kept (t':=i.toks) λb o e=>aD _ e,V4 _ lo c (uQ lo d c),?_,λb D=>?_,q⟩
     .have A:lo+((0:Nat):Int)*c=lo:=by simp
      have B:((uQ lo d c:Nat):Int)-((0:Nat):Int)=Builtin.Range.rangeSize lo d c:=by
       unfold uQ Builtin.Range.rangeSize;rw[bA (show c>0 from n)];split
       .have:=Int.ediv_nonneg (show 0<=d-lo-1 by omega) (show 0<=c by omega);omega
       .rfl
      show IsRangeIter _ _ (lo+((0:Nat):Int)*c) (((uQ lo d c:Nat):Int)-((0:Nat):Int)) c;rw[A,B];exact aQ _ rfl
     .have e:b=(i.heap.push { cls:=.type "range",data:=.fields #[.int lo t,.int d u,.int c v] }).objs.size:=by simpa using D
      subst e;exact m.fpOk (aL _) (m.hok.fresh (aL _))
end
section
variable {X:Cx}{K:lJ}
noncomputable def uZ (lo c:Int) (n:Nat):Aa D:=(List.range n).map λ(i:Nat)=>D.int (lo+i*c)
theorem BB {lo c:Int}{n:Nat}:YD K (Bw lo c n) (uZ lo c n) [] where
 vals:=rfl
 go:=λi H A a _=>by simpa [Bw,uZ] using a
 yld:=λi H A x d a _ y=>by
  have b:i<n:=by simpa [uZ] using a
  refine⟨.int (lo+i*c),by simp[uZ,b],.inl ⟨y.1,?_⟩⟩;rw[y.2];exact .int _
 stop:=λi H A a _=>by simp[Bw,uZ,a]
def Q7 (g l o:mK):uP:=λa m k=>g a m λr d=>l a d λh e=>o a e λb f=>match r,h,b with
 | .v (.int i),.v (.int j),.v (.int c)=>(0<=i/\i<=100000/\0<=j/\j<=100000/\0<c/\c<=100000)/\k (uZ i c (uQ i j c)) f
 | _,_,_=>False
theorem Nd (J:Gl X "range") (U:X.mg "range" = none) (o:PD X a ta) (C:PD X b tb) (I:PD X c tc) (hs:starEach [a,b,c] X.env=(false,eval a X.env)::starEach [b,c] X.env:=by rfl) (l:(backTo pos (starEach [b,c] X.env)).any (·.1)=false:=by rfl)
  (hn:uI a=true:=by rfl) (g:uI b=true:=by rfl) (j:uI c=true:=by rfl):wS X tg (.Call (.Name "range" p) [a,b,c] [] pos) (Q7 ta tb tc) :=
 (U2 J U (lQ o (lQ C (lQ I lY j) g) hn) hs l).mono λσ H R e=>e.elim λB V T Z F hd G k=>⟨B,V,T,_,F,hd,G,λr h v W L d1 D=>⟨B,h,(r,some v)::T,_,L,d1,D,λq i u Y M d2 E=>⟨B,i,(q,some u)::(r,some v)::T,_,M,d2,E,λf m w s N n d=>by
  cases r<;>first | exact False.elim d | skip
  rename_i x
  cases x<;>first | exact False.elim d | skip
  cases q<;>first | exact False.elim d | skip
  rename_i x
  cases x<;>first | exact False.elim d | skip
  cases f<;>first | exact False.elim d | skip
  rename_i x
  cases x<;>first | exact False.elim d | skip
  have O:=n.valAt;have t:=n.drop;obtain⟨P,Q,S⟩:=t.two rfl rfl;have y:=O.int_inv;have z:=Q.int_inv;have A:=S.int_inv;subst y z A;exact⟨_,_,_,rfl,d.1,k _ _ m [] s N P BB d.2⟩⟩⟩⟩
end
end L2
namespace Lw
open PySem L2
abbrev mX:=Aa (Af×Int)
abbrev oU:=Aa (Af×Af×Aa Af)
noncomputable def hO (t:mX):Aa (lL×D):=t.map λp=>(Sum.inr p.1,D.int p.2)
noncomputable def look (t:mX) (x:Af):Int:=match t.find? (λp=>decide (p.1=x)) with
 | some p=>p.2
 | none=>0
def mx:Aa Int->Int
 | []=>0
 | a::r=>if mx r<=a then a else mx r
theorem Zo:look [] x=0:=rfl
theorem yU:look (p::t) x=if p.1=x then p.2 else look t x:=by
 unfold look;rw[dY];by_cases h:p.1=x<;>simp[h]
theorem vZ:∀ (t:mX) (x:Af),(x∈t.map (·.1)->pG (hO t) (Sum.inr x)=some (.int (look t x)))/\(x∉t.map (·.1)->pG (hO t) (Sum.inr x)=none/\look t x=0)
 | [],x=>⟨λh=>by simp at h,λ_=>⟨rfl,rfl⟩⟩
 | p::t,x=>by
  have a:=vZ t x;have e:hO (p::t)=(Sum.inr p.1,D.int p.2)::hO t:=rfl;rw[e,Dz,yU];by_cases h:p.1=x
  .subst h;exact⟨λ_=>by rw[bA rfl,bA rfl],λn=>absurd (by simp) n⟩
  .have b:(Sum.inr p.1:lL)≠Sum.inr x:=λq=>h (lI q)
   rw[bF b,bF h];refine⟨λm=>a.1 ?_,λm=>a.2 λq=>m (by simp only[aZ,aF];exact .inr q)⟩;simp only[aZ,aF] at m;exact m.resolve_left λq=>h q.symm
theorem P8 (t:mX) (x:Af):(pG (hO t) (Sum.inr x)).getD (.int 0) = .int (look t x):=by
 by_cases h:x∈t.map (·.1)
 .rw[(vZ t x).1 h];rfl
 .rw[((vZ t x).2 h).1,((vZ t x).2 h).2];rfl
theorem Ii (h:x∉t.map (·.1)):pM (hO t) (Sum.inr x) (.int n)=hO (t++[(x,n)]):=by
 unfold pM;rw[Jv,((vZ t x).2 h).1];simp[hO]
theorem Q0:∀ (u t:mX),((t++u).map (·.1)).Nodup->rD (hO t) (hO u)=hO (t++u)
 | [],t,_=>by simp[rD,hO]
 | p::u,t,h=>by
  have a:p.1∉t.map (·.1):=λq=>by
   rw[aY] at h;exact (bK.mp h).2.2 p.1 q p.1 (by simp) rfl
  have e:rD (hO t) (hO (p::u))=rD (pM (hO t) (Sum.inr p.1) (.int p.2)) (hO u):=rfl;rw[e,Ii a,Q0 u (t++[p]) (by simpa using h)];simp
theorem Cp (h:(t.map (·.1)).Nodup):rD [] (hO t)=hO t:=by
 have:=Q0 t [] (by simpa using h)
 simpa [hO] using this
theorem uG:∀ g:Aa Int,0<=mx g
 | []=>eJ _
 | a::r=>by
  have:=uG r;unfold mx;split<;>omega
theorem Bq:∀ {g:Aa Int}{a:Int},a∈g->a<=mx g
 | b::r,a,h=>by
  unfold mx;rcases aF.mp h with rfl | h
  .split<;>omega
  .have:=Bq h;split<;>omega
theorem zZ:∀ g:Aa Int,mx g=0\/mx g∈g
 | []=>.inl rfl
 | a::r=>by
  unfold mx;split
  .exact .inr aH
  .exact (zZ r).imp id λh=>aN _ h
theorem yN (h:m=0\/m∈ns) (g:0<=m) (j:∀ a∈ns,a<=m):m=mx ns:=by
 have b:m<=mx ns:=h.elim (λe=>by rw[e];exact uG ns) Bq;have c:mx ns<=m:=(zZ ns).elim (λe=>by rw[e];exact g) (j _);omega
theorem Hk:∀ {xs:Aa j},(∀ x∈xs,f x<=g x)->mx (xs.map f)<=mx (xs.map g)
 | [],_=>eJ _
 | x::xs,h=>by
  have b:=h x (by simp);have c:=Hk (xs:=xs) λy a=>h y (by simp[a])
  simp only[aZ,mx];split<;>split<;>omega
def qE:mX->mX->Prop:=Paired λ(p q:Af×Int)=>p.1=q.1/\p.2<=q.2
theorem qE.look (h:qE t u) (x:Af):look t x<=Lw.look u x:=by
 unfold qE at h;induction h with
 | nil=>exact eJ _
 | @cons p q t u h r a =>
  rw[yU,yU,<- h.1];split
  .exact h.2
  .exact a
def xA (t:mX) (g:Af×Af×Aa Af):mX:=t++[(g.1,mx (g.2.2.map λo=>1+look t o))]
def tbl (ins:Aa Af) (g:oU) (sG:Af->Int):mX:=g.foldl xA (ins.map λn=>(n,sG n))
theorem qE.snoc (h:qE t u) (g:m<=n):qE (t++[(x,m)]) (u++[(x,n)]):=by
 unfold qE at h |-;induction h with
 | nil=>exact .cons ⟨rfl,g⟩ .nil
 | cons h r a=>exact .cons h a
theorem qE.fold:∀ (j:oU){t u:mX},qE t u->qE (j.foldl xA t) (j.foldl xA u)
 | [],_,_,h=>h
 | g::j,t,u,h=>qE.fold j (h.snoc (Hk λo _=>by have:=h.look o;omega))
theorem qE.ins {f g:Af->Int}(h:∀ x,f x<=g x):∀ j:Aa Af,qE (j.map λn=>(n,f n)) (j.map λn=>(n,g n))
 | []=>.nil
 | x::j=>.cons ⟨rfl,h x⟩ (qE.ins h j)
theorem Ld (h:∀ x,f x<=g x) (x:Af):look (tbl ins j f) x<=look (tbl ins j g) x:=(qE.fold j (qE.ins h ins)).look x
theorem Ga (h:∀ p∈t,0<=p.2) (x:Af):0<=look t x:=by
 induction t with
 | nil=>exact eJ _
 | cons p t b =>
  rw[yU];split
  .exact h p (by simp)
  .exact b λq a=>h q (by simp[a])
theorem Nb:∀ (j:oU){t:mX},(∀ p∈t,0<=p.2)->∀ p∈j.foldl xA t,0<=p.2
 | [],_,h=>h
 | g::j,t,h=>Nb j λp a=>by
  rcases aX.mp a with q | q
  .exact h p q
  .rw[aU.mp q];exact uG _
theorem yK (h:∀ x,0<=f x) (x:Af):0<=look (tbl ins gs f) x:=Ga (Nb gs λp a=>by
 obtain⟨n,_,rfl⟩:=aG.mp a;exact h n) x
theorem Q5:∀ (j:oU) (t:mX),(j.foldl xA t).map (·.1)=t.map (·.1)++j.map (·.1)
 | [],t=>by simp
 | g::j,t=>by rw[iT,Q5 j];simp[xA]
theorem Er (ins:Aa Af) (g:oU) (f:Af->Int):(tbl ins g f).map (·.1)=ins++g.map (·.1):=by
 unfold tbl;rw[Q5];simp[bZ]
def sG (al:Aa (Af×Af)) (t:mX):mX:=al.map λp=>(p.2,look t p.1)
def Cr (ins:Aa Af) (g:oU) (al:Aa (Af×Af)):Nat->mX
 | 0=>al.map λp=>(p.2,0)
 | i+1=>sG al (tbl ins g (look (Cr ins g al i)))
def Tb (ins:Aa Af) (g:oU) (al:Aa (Af×Af)) (i:Nat):mX:=tbl ins g (look (Cr ins g al i))
section
theorem Rx (h:∀ x,look t x<=look u x):∀ al:Aa (Af×Af),qE (sG al t) (sG al u)
 | []=>.nil
 | p::al=>.cons ⟨rfl,h p.1⟩ (Rx h al)
theorem Qq (h:∀ x,0<=look t x):∀ al:Aa (Af×Af),qE (al.map λp=>(p.2,0)) (sG al t)
 | []=>.nil
 | p::al=>.cons ⟨rfl,h p.1⟩ (Qq h al)
theorem B2:∀ (i:Nat) (x:Af),0<=look (Cr ins gs al i) x
 | 0,x=>Ga (λp a=>by
  obtain⟨q,_,rfl⟩:=aG.mp a;exact eJ _) x
 | i+1,x=>Ga (λp a=>by
  obtain⟨q,_,rfl⟩:=aG.mp a;exact yK (B2 i) _) x
theorem BY (i:Nat) (x:Af):0<=look (Tb ins g al i) x:=yK (B2 i) x
theorem Qn:∀ (i:Nat) (x:Af),look (Cr ins g al i) x<=look (Cr ins g al (i+1)) x
 | 0,x=>(Qq (BY 0) al).look x
 | i+1,x=>(Rx (λy=>Ld (Qn i) y) al).look x
theorem Xu (i:Nat) (x:Af):look (Tb ins g al i) x<=look (Tb ins g al (i+1)) x:=Ld (Qn i) x
theorem B1 (i:Nat):(Cr ins gs al i).map (·.1)=al.map (·.2):=by
 cases i<;>simp[Cr,sG,bZ]
def Mx (ins:Aa Af) (g:oU) (al:Aa (Af×Af)) (os:Aa Af) (i:Nat):Int:=mx (os.map (look (Tb ins g al i)))
theorem R9 {os es ns:Aa Af}{f:Af->Int}(C:∀ x,0<=f x) (j:∀ x∈ns,x∈os) (l:∀ x∈es,x∈os) (o:∀ x∈os,x∈ns\/x∈es){m:Int}(g:m=mx (ns.map f)\/m∈es.map f) (p:mx (ns.map f)<=m) (r:∀ a∈es.map f,a<=m):m=mx (os.map f):=by
 have d:=uG (ns.map f);refine yN ?_ (by omega) λa h=>?_
 .rcases g with rfl | g
  .rcases zZ (ns.map f) with e | e
   .exact .inl e
   .obtain⟨x,b,c⟩:=aG.mp e;exact .inr (by rw[<- c];exact aG.mpr ⟨x,j x b,rfl⟩)
  .obtain⟨x,b,c⟩:=aG.mp g;exact .inr (by rw[<- c];exact aG.mpr ⟨x,l x b,rfl⟩)
 .obtain⟨x,b,rfl⟩:=aG.mp h;rcases o x b with q | q
  .exact lA (Bq (aG.mpr ⟨x,q,rfl⟩)) p
  .exact r _ (aG.mpr ⟨x,q,rfl⟩)
end
end Lw
namespace L2
open PySem PySem.Spec PyProof.Rows Lw
section
variable {X:Cx}{K:lJ}
theorem CF:mU X (.type "int") (λg H Q=>∃ (x:Af) (n:Int),g=[.str x]/\intText? x=some n/\x.length<=640/\Q (.int n) H):=by
 intro a s k H g i Q I r h;obtain⟨x,n,rfl,c,d,q⟩:=h;obtain⟨u,rfl,f⟩:=oV r;obtain⟨t,rfl⟩:=f;exact PySem.W.KIN.call_text c d ⟨.int n,H,I.kept (t':=s.toks+1) λb o e=>e,⟨_,rfl⟩,q⟩
def Wa:OC:=λa b=>match a with
 | [.str x]=>∃ n,intText? x=some n/\x.length<=640/\b (.v (.int n))
 | a=>Gf a b
def Ir:Aa V->Hp->VK->Prop:=λa H Q=>((∃ i,a=[.int i]/\Q (.int i) H)\/∃ k,a=[.b k]/\Q (.int (if k then 1 else 0)) H)\/∃ (x:Af) (n:Int),a=[.str x]/\intText? x=some n/\x.length<=640/\Q (.int n) H
theorem Mq:mU X (.type "int") Ir:=HC.or CF
theorem Rj:qC K Ir Wa:=by
 intro B L H b e f Q hd c a k;have two:Gf b f->Ir e H Q:=λa=>.inl (Yk B L H b e f Q hd c a k)
 cases b with
 | nil=>exact two a
 | cons d b =>
 cases d<;>first | exact two a | skip
 cases b with
 | cons _ _=>exact two a
 | nil =>
 obtain⟨x,rfl,m⟩:=rH c;have:=m.str_inv;subst this;obtain⟨n,h,i,a⟩:=a;exact .inr ⟨_,n,rfl,h,i,k _ _ H a (hd.pushF (.int _))⟩
end
section
theorem E1 (J:Aa α) (T out:α->D) (p:α->Bool) (C:Aa Sl) (ab:∀ Ψ:Aa D->Aa Sl->Prop,Ψ (J.map T) C->ι dk ρ Ψ) (hl:J.length<=100000)
  (hs:∀ (i:Nat) x (I:Aa D) (Nx:Aa D->Aa Sl->Prop),J[i]?=some x->I.length<100000->(p x=true->Nx (I++[out x]) (nR j C))->(p x=false->Nx I (nR j C))->g (T x) (List.replicate n Sl.n++nR j C) λac=>tt dk ac λb U=>if b=true then te dk U λr ae=>match sd r with
   | some c=>I.length<100000/\Nx (I++[c]) (ae.drop n)
   | none=>False
   else Nx I (U.drop n))
  (aa:Φ (.o (.l ((J.filter p).map out))) (oQ j (nR j C) C)):vG n j ι g tt te dk ρ Φ:=by
 refine ab _ ⟨λi I a=>I=((J.take i).filter p).map out/\a=nR j C,⟨by simp,rfl⟩,?_,?_⟩
 .rintro i d I a hd _ ⟨f,h⟩;rw[aV] at hd;cases e:J[i]? with
  | none=>rw[e] at hd;cases hd
  | some x =>
   rw[e] at hd;cases hd;obtain⟨s,_⟩:=aP.mp e;have k:(J.take (i+1)).filter p=(J.take i).filter p++(if p x=true then [x] else []):=by
    rw[dQ,e,List.filter_append];by_cases q:p x=true<;>simp[q]
   have len:I.length<100000:=by
    rw[f,aB];have m:=List.length_filter_le p (J.take i);rw[bR] at m;omega
   rw[h];refine hs i x I (λI a=>I=((J.take (i+1)).filter p).map out/\a=nR j C) e len (λq=>⟨?_,rfl⟩) λq=>⟨?_,rfl⟩
   .rw[k,bA q,f,aY];rfl
   .rw[k,bF (by rw[q];decide),eP];exact f
 .rintro I a _ ⟨f,h⟩;rw[f,h,aB,List.take_length];exact aa
theorem oO (I:Aa α) (C out:α->D) (p:Aa Sl) (aa:∀ Ψ:Aa D->Aa Sl->Prop,Ψ (I.map C) p->ι dk ρ Ψ) (hl:I.length<=100000)
  (hs:∀ (i:Nat) x (J:Aa D) (T:Aa D->Aa Sl->Prop),I[i]?=some x->J.length<100000->T (J++[out x]) (nR j p)->g (C x) (List.replicate n Sl.n++nR j p) λab=>te dk ab λr ac=>match sd r with
   | some c=>J.length<100000/\T (J++[c]) (ac.drop n)
   | none=>False)
  (U:Φ (.o (.l (I.map out))) (oQ j (nR j p) p)):vG n j ι g Ib te dk ρ Φ:=by
 refine E1 I C out (λ_=>true) p aa hl (λi x J T e a b _=>hs i x J T e a (b rfl)) ?_;have:I.filter (λ_=>true)=I:=List.filter_eq_self.mpr λ_ _=>rfl
 rw[this];exact U
end
end L2
namespace Lw
open PySem L2
abbrev Cs:=Aa (Af×Af)
noncomputable def mT (t:Cs):Aa (lL×D):=t.map λp=>(Sum.inr p.1,D.str p.2)
noncomputable def lT (t:Cs) (x:Af):Af:=match t.find? (λp=>decide (p.1=x)) with
 | some p=>p.2
 | none => ""
theorem Cu:lT (p::t) x=if p.1=x then p.2 else lT t x:=by
 unfold lT;rw[dY];by_cases h:p.1=x<;>simp[h]
theorem Jr:∀ (t:Cs) (x:Af),(x∈t.map (·.1)->pG (mT t) (Sum.inr x)=some (.str (lT t x)))/\(x∉t.map (·.1)->pG (mT t) (Sum.inr x)=none)
 | [],x=>⟨λh=>by simp at h,λ_=>rfl⟩
 | p::t,x=>by
  have a:=Jr t x;have e:mT (p::t)=(Sum.inr p.1,D.str p.2)::mT t:=rfl;rw[e,Dz,Cu];by_cases h:p.1=x
  .subst h;exact⟨λ_=>by rw[bA rfl,bA rfl],λn=>absurd (by simp) n⟩
  .have b:(Sum.inr p.1:lL)≠Sum.inr x:=λq=>h (lI q)
   rw[bF b,bF h];refine⟨λm=>a.1 ?_,λm=>a.2 λq=>m (by simp only[aZ,aF];exact .inr q)⟩;simp only[aZ,aF] at m;exact m.resolve_left λq=>h q.symm
theorem Qr (h:x∉t.map (·.1)):pM (mT t) (Sum.inr x) (.str n)=mT (t++[(x,n)]):=by
 unfold pM;rw[Jv,(Jr t x).2 h];simp[mT]
theorem Pc:∀ (u t:Cs),((t++u).map (·.1)).Nodup->rD (mT t) (mT u)=mT (t++u)
 | [],t,_=>by simp[rD,mT]
 | p::u,t,h=>by
  have a:p.1∉t.map (·.1):=λq=>by
   rw[aY] at h;exact (bK.mp h).2.2 p.1 q p.1 (by simp) rfl
  have e:rD (mT t) (mT (p::u))=rD (pM (mT t) (Sum.inr p.1) (.str p.2)) (mT u):=rfl;rw[e,Qr a,Pc u (t++[p]) (by simpa using h)];simp
theorem Y1 (h:(t.map (·.1)).Nodup):rD [] (mT t)=mT t:=by
 have:=Pc t [] (by simpa using h)
 simpa [mT] using this
theorem Pw:∀ (own g:Aa Af),(own.map λo=>(Sum.inr o:lL)).zip (g.map D.str)=mT (own.zip g)
 | [],_=>rfl
 | _::_,[]=>rfl
 | o::own,x::g=>by simp only[aZ,cU,Pw own g];rfl
theorem Ki:∀ (own g:Aa Af),own.length=g.length->(own.zip g).map (·.1)=own
 | [],_,_=>rfl
 | _::_,[],h=>by simp at h
 | o::own,x::g,h=>by simp only[cU,aZ,Ki own g (by simpa using h)]
theorem Fp:∀ {own g:Aa Af}{o:Af},own.length=g.length->o∈own->lT (own.zip g) o∈g
 | [],_,_,_,h=>by cases h
 | _::_,[],_,h,_=>by simp at h
 | a::own,x::g,o,h,m=>by
  rw[cU,Cu];split
  .exact aH
  .rename_i e
   exact aN _ (Fp (by simpa using h) ((aF.mp m).resolve_left λq=>e q.symm))
theorem Nk:∀ {own j:Aa Af}{o g:Af},own.length=j.length->j.Nodup->o∈own->g∈own->lT (own.zip j) o=lT (own.zip j) g->o=g
 | [],_,_,_,_,_,h,_,_=>by cases h
 | _::_,[],_,_,h,_,_,_,_=>by simp at h
 | a::own,x::j,o,g,h,k,m,d,e=>by
  rw[cU,Cu,Cu] at e;obtain⟨f,i⟩:=cH.mp k;have c:own.length=j.length:=by simpa using h
  by_cases q:a=o
  .by_cases b:a=g
   .rw[<- q,<- b]
   .rw[bA q,bF b] at e;have:=Fp c ((aF.mp d).resolve_left λz=>b z.symm);dsimp only at e;rw[<- e] at this;exact absurd this f
  .by_cases b:a=g
   .rw[bF q,bA b] at e;have:=Fp c ((aF.mp m).resolve_left λz=>q z.symm);dsimp only at e;rw[e] at this;exact absurd this f
   .rw[bF q,bF b] at e;exact Nk c i ((aF.mp m).resolve_left λz=>q z.symm) ((aF.mp d).resolve_left λz=>b z.symm) e
theorem zC:∀ {l:Aa g},l.Nodup->(∀ x∈l,∀ y∈l,f x=f y->x=y)->(l.map f).Nodup
 | [],_,_=>.nil
 | a::l,k,h=>by
  obtain⟨d,i⟩:=cH.mp k;refine cH.mpr ⟨λm=>?_,zC i λx c y b=>h x (aN _ c) y (aN _ b)⟩;obtain⟨y,b,e⟩:=aG.mp m;have:=h a aH y (aN _ b) e.symm;subst this;exact d b
noncomputable def nK:Aa Af->Aa (Af×Af)
 | a::b::r=>(a,b)::nK r
 | _=>[]
theorem G7:∀ {ws:Aa Af}{i:Nat}{p:Af×Af},(nK ws)[i]?=some p->ws[2*i]?=some p.1/\ws[2*i+1]?=some p.2
 | [],i,p,h=>by simp[nK] at h
 | [a],i,p,h=>by simp[nK] at h
 | a::b::r,0,p,h=>by simp[nK] at h;subst h;exact⟨rfl,rfl⟩
 | a::b::r,i+1,p,h=>by
  have:=G7 (ws:=r) (i:=i) (p:=p) (by simpa [nK] using h);rw[show 2*(i+1)=(2*i)+1+1 by omega]
  simpa using this
theorem Gk:∀ (g:Aa Af),g.length%2=0->2*(nK g).length=g.length
 | [],_=>rfl
 | [a],h=>by simp at h
 | a::b::r,h=>by
  have:=Gk r (by simp only[bT] at h;omega);simp only[nK,bT];omega
theorem Oi (n:Nat):uQ 0 ((2*n:Nat):Int) 2=n:=by
 unfold uQ;split
 .omega
 .omega
def nS (i:Nat):Stmt:=PySem.Challenge.pw_laidcells_k29_ways_told.main.body.getD i (.Pass ⟨0,0,0,0⟩)
abbrev Fv:Stmt:=nS 1
abbrev Ez:Stmt:=nS 3
abbrev F2:Stmt:=nS 4
abbrev C5:Stmt:=nS 5
abbrev zR:Stmt:=nS 6
abbrev zI:Stmt:=nS 7
abbrev C4:Stmt:=nS 8
abbrev Di:Stmt:=nS 9
abbrev B9:Stmt:=nS 10
abbrev C0:Stmt:=nS 11
abbrev Fn:Stmt:=nS 12
abbrev Du:Stmt:=nS 14
abbrev tZ:Stmt:=nS 15
abbrev Bd:Stmt:=nS 16
abbrev E7:Stmt:=nS 17
abbrev Ay:Stmt:=nS 18
abbrev Fq:Stmt:=nS 19
abbrev Dj:Stmt:=nS 20
abbrev Cm:Stmt:=nS 21
abbrev F3:Stmt:=nS 22
abbrev Cb:Stmt:=nS 23
abbrev Em:Stmt:=nS 24
abbrev Fi:Stmt:=nS 26
abbrev E2:Stmt:=nS 27
abbrev Bt:Stmt:=nS 28
abbrev Cy:Stmt:=nS 29
abbrev Nh:Stmt:=nS 30
abbrev Bg:Stmt:=nS 30
structure Txt (mg:Str->Option Value):Prop where
 len:mg "len" = none
 range:mg "range" = none
 sum:mg "sum" = none
 min:mg "min" = none
 max:mg "max" = none
 tuple:mg "tuple" = none
 list:mg "list" = none
 set:mg "set" = none
 dict:mg "dict" = none
 int:mg "int" = none
 str:mg "str" = none
 zip:mg "zip" = none
 enumerate:mg "enumerate" = none
 all:mg "all" = none
 any:mg "any" = none
 isinstance:mg "isinstance" = none
 sorted:mg "sorted" = none
 abs:mg "abs" = none
 reversed:mg "reversed" = none
 bool:mg "bool" = none
structure Gd (K:lJ) (mg:Str->Option Value) (x:Str) (st:Stmt) (ps:List Str) (f:Addr) (fd:FuncData):Prop where
 F:Fun K x x st f fd
 m:mg x=some (.ref f)
 k:PySem.W.keepIn K (.ref f)=true
 b:wI K fd ps []
def Kn (P:Ah) (w:World) (K:lJ) (g:Af->Ab Ac) (base:Ag) (k:Nat) (x:Af) (st:Stmt) (j:Aa Af) (R:RD):Prop:=∃ f fd,Gd K g x st j f fd/\FnOk P w K g base nG k f fd j (wW K R)
theorem mI {X:Cx}{st:Stmt}{R:RD}(G:Kn X.prog X.w X.K X.mg X.base k x st T R) (I:Room m X.A) (o:qY X (e::l) J) (C:k<=m:=by decide) (r:Gl X x:=by rfl) (g:(x == ("__debug__" : Af))=false:=by decide)
  (j:StB X e l pos:=by exact {}):PD X (.Call (.Name x p) (e::l) [] pos) (Ji R J):=G.elim λ_ h=>h.elim λ_ h=>Uf h.2 (I.mono C) r h.1.m h.1.k h.1.b o g j
def oR (P:Ah) (w:World) (K:lJ) (g:Af->Ab Ac) (base:Ag) (k:Nat) (x:Af) (st:Stmt) (j:Aa Af) (R:RD):Prop:=∀ f fd,Fun K x x st f fd->FnOk P w K g base nG k f fd j (wW K R)
theorem pN {P:Ah}{K:lJ}{st:Stmt}{R:RD}(S:FnScope N I (mG st))
  (j:∀ (f:Ad) (g:Ac) (A:Around) (l:Aa Env) (s:Ae) (H:Hp) (E:XK) (r:Aa Ad) (o:Aa D) (p:Sl->Prop),Room k (A.deeper (PyProof.Rows.envOfC x (mG st) s.heap.objs.size f g))->(A.deeper (PyProof.Rows.envOfC x (mG st) s.heap.objs.size f g)).units+1<cLine->R r o p ->∃ t,uD (wO nG P w K J base N x (mG st) f g A l s H E).nox (qU st) t/\t r { nx:=λ_=>p (.v .e),rt:=p } (xG N o)) (C:I.length<=N.length:=by decide) (hlen:∀ r o p,R r o p->o.length=I.length:=by rintro _ _ _ h;repeat' (rcases h with⟨i,h⟩;try (subst i;rfl))):oR P w K J base (k+1) x st I R:=λ_ _ F=>F.okD S hlen C λ_ _ _ _ _ _ _ _ _ a=>j _ _ _ _ _ _ _ _ _ _ a (Lq a)
def zP:Sp:=λb H Q _=>∃ (d c:Ad) (m:Int),b=[.ref d,.int m]/\DeckAt H d c/\0<m/\m<4611686018427387904/\∀ (r:Int) (a:Hp),0<=r->r<m->DeckAt a d c->lW d c H a->Q (.int r) a
section
variable {P:Ah}{K:lJ}
theorem Ic:FnScope ["deck","many","at","cell"] ["deck","many"] (mG tZ):=⟨rfl,rfl,rfl,by decide +kernel,rfl,by decide +kernel,by decide +kernel⟩
theorem Dg (F:Fun K "_law_take" "_law_take" tZ f fd) (T:Txt g):FnOk P w K g base nG 1 f fd ["deck","many"] zP:=by
 refine F.ok Ic (λR H Q E h=>?_) (λG A x s H R Q E X h=>?_)
 .obtain⟨d,c,m,rfl,_⟩:=h;rfl
 .obtain⟨d,c,m,rfl,D,n,W,k⟩:=h;obtain⟨a,p,t,y,L,M⟩:=id D.ex;have q:=D.ne;refine⟨_,oC (nU (i:=2) Ic.nd rfl (Or.inl rfl) (mJ rB (oM pT (pv 0) mL (λ_ _=>rfl)) (rY vV (by rfl) T.len bG (uK (oM pT (pv 0) mL (λ_ _=>rfl)) lY)))) (oC (Bf (mJ vQ (oM pT (pv 0) mL (λ_ _=>rfl)) mL) (Fh (pv 0) mL En)) (oC (nU (i:=3) Ic.nd rfl (Or.inl rfl) (oM pT (oM pT (pv 0) mL (λ_ _=>rfl)) (pv 2) (λ_ _=>rfl))) (oC (Bf (mJ Yj (pv 3) (pv 1)) (Fh (oM pT (pv 0) mL (λ_ _=>rfl)) (pv 2) En)) (qZ (uX (mJ rB (pv 3) (pv 1))))))),?_⟩;refine⟨_,rfl,d,_,_,_,rfl,rfl,gV.of t,rfl,_,rfl,d,_,_,_,rfl,rfl,gV.of t,rfl,c,_,rfl,.inl (gV.of y),_,_,rfl,rfl,?_,?_⟩
  .rw[aB];omega
  .rw[aB];have B:=eQ p (show (a.length:Int)≠0 by omega);have S:=dJ p (show (0:Int)<a.length by omega);obtain⟨j,z⟩:=cQ B;have v:j<a.length:=by omega
   have u:(a.map V.int)[j]?=some (V.int a[j]):=by simp[v]
   refine⟨_,rfl,d,_,_,_,rfl,rfl,gV.of t,rfl,_,_,rfl,rfl,_,rfl,d,_,_,1,rfl,rfl,t,rfl,?_⟩;have g1:upd H d (.l ([V.ref c,V.int p].set 1 (V.int (p+1)))) d=some (.l [.ref c,.int (p+1)]):=lU;have g2:upd H d (.l ([V.ref c,V.int p].set 1 (V.int (p+1)))) c=some (.l (a.map V.int)):=by rw[lO q.symm];exact y
   refine⟨_,rfl,d,_,_,_,rfl,rfl,gV.of g1,rfl,_,rfl,c,_,_,V.int a[j],rfl,rfl,gV.of g2,(by rw[z];exact oA u),?_⟩
   .refine⟨_,rfl,_,rfl,_,_,rfl,rfl,⟨n,by omega⟩,_,rfl,d,_,_,_,rfl,rfl,gV.of g1,rfl,_,rfl,c,_,_,j,rfl,rfl,g2,?_,?_⟩
    .rw[z,aB];unfold rC;rw[bA (by omega),bA (by omega)];simp
    .refine⟨_,rfl,_,rfl,_,_,rfl,rfl,n,?_⟩;refine k _ _ (eQ _ (by omega)) (dJ _ n) ⟨a.set j (a[j]/m),p+1,?_,?_,by rw[bO];exact L,by rw[bO];exact M⟩ ?_
     .rw[lO q];exact g1
     .rw[lU,List.map_set]
     .intro b o e N O;rw[lO O,lO N];exact e
end
theorem oG.new (h:H p=none):oG H (upd H p o):=λb u e=>by rw[lO (mF e h)];exact e
theorem CD (g:Aa Int) (lo j:Ab Int):∃ l:Aa Int,tQ (g.map V.int) lo j=l.map V.int/\l.length<=g.length:=by
 refine⟨(g.drop (HT.sIx g.length 0 lo)).take (HT.sIx g.length g.length j-HT.sIx g.length 0 lo),?_,?_⟩
 .unfold tQ;rw[List.length_map,List.map_take,List.map_drop]
 .rw[bR,dN];omega
def Na (K:lJ):Sp:=λf H Q _=>∃ (a:Ad) (e:Aa Int),f=[.ref a]/\gV K H a (e.map V.int)/\e.length<=63/\∀ (d c:Ad) (b:Hp),DeckAt b d c->H d=none->H c=none->oG H b->Q (.ref d) b
section
variable {P:Ah}{K:lJ}
theorem A2:FnScope ["script","cells","k","mixed"] ["script"] (mG Du):=⟨rfl,rfl,rfl,by decide +kernel,rfl,by decide +kernel,by decide +kernel⟩
theorem Wp (F:Fun K "_law_deck" "_law_deck" Du f fd) (T:Txt mg):FnOk P w K mg base nG 1 f fd ["script"] (Na K):=by
 refine F.ok A2 (λvs H Q E h=>?_) (λab A j s H vs Q E hr h=>?_)
 .obtain⟨a,t,rfl,_⟩:=h;rfl
 .obtain⟨a,t,rfl,W,aa,k⟩:=h;refine⟨_,oC (nU (i:=1) A2.nd rfl (Or.inl rfl) (mJ zS (A9 Js (pv 0) zY (Ao mL)) (oP (uK (rY vV (by rfl) T.len bG (uK (pv 0) lY)) lY)))) (oC (yJ (uO Dt (mJ rB (rY (Ym rfl) (by rfl) T.sum PyProof.Rows.boot_sum (uK (A9 Js (pv 0) zY (Ao mL)) lY)) mL) mL (vE _)) (qZ (Ew dZ rfl (yW rfl T.range (uK (rY vV (by rfl) T.len bG (uK (pv 1) lY)) lY)) (wK (i:=2) A2.nd rfl (Or.inl rfl)) (oC (nU (i:=3) A2.nd rfl (Or.inl rfl) (mJ rB (mJ vM (mJ vQ (mJ vQ (mJ rB (oM pT (pv 1) (pv 2) (λ_ _=>rfl)) mL) (mJ vM mL (pv 2))) mL) mL) mL)) (oC (nU (i:=3) A2.nd rfl (Or.inl rfl) (mJ rB (mJ vM (mJ rB (mJ vQ (mJ vM (pv 3) (pv 3)) (mJ vM mL (pv 2))) mL) mL) mL)) (qZ (Bf (mJ vQ (mJ vM (mJ vM (pv 3) (pv 3)) mL) (mJ rB (mJ vM (pv 3) mL) mL)) (Fh (pv 1) (pv 2) En))))))) Az) (qZ (uX (oP (uK (pv 1) (uK mL lY)))))),?_⟩;obtain⟨q,em,ac⟩:=CD t none (some 63);refine⟨_,rfl,_,rfl,a,_,rfl,W,λG n1=>?_⟩;have r:oG H (upd H G (.l (tQ (t.map V.int) none (some 63)))):=oG.new n1;rw[em] at r |-;refine⟨_,rfl,a,_,rfl,.inl (r.seq W),(by show 1<=sizeLine;decide),λp n2=>?_⟩;have s2:=r.trans (oG.new (o:=.l [V.int ((t.map V.int).length:Nat)]) n2);have q1:upd (upd H G (.l (q.map V.int))) p (.l [V.int ((t.map V.int).length:Nat)]) G=some (.l (q.map V.int)):=by rw[lO (mF lU n2)];exact lU
  refine⟨G,p,_,_,rfl,rfl,q1,lU,?_,λc nc=>?_⟩
  .rw[aB];exact bX (show q.length+1<=64 by omega) (by decide)
  have L:=s2.trans (oG.new (o:=.l (q.map V.int++[V.int ((t.map V.int).length:Nat)])) nc);have ec:q.map V.int++[V.int ((t.map V.int).length:Nat)]=(q++[((t.map V.int).length:Int)]).map V.int:=by simp
  rw[ec] at L |-;generalize Y:q++[((t.map V.int).length:Int)]=u at L;have D:0<u.length/\u.length<=64:=by rw[<- Y,bL,hV];omega
  have B:H c=none:=s2.free nc;generalize S:upd (upd (upd H G (.l (q.map V.int))) p (.l [V.int ((t.map V.int).length:Nat)])) c (.l (u.map V.int))=J at L;have U:J c=some (.l (u.map V.int)):=by rw[<- S];exact lU
  have fin:∀ (m:Aa Int) (v x:Ab V) (O:Hp),oG H O->O c=some (.l (m.map V.int))->0<m.length->m.length<=64 ->
    (Mv (Nm (uJ (pR 1) (uJ (tC (.int 0)) uV)))) { nx:=λ_ H'=>Q .e H',rt:=Q } [some (.ref a),some (.ref c),v,x] O:=by
   intro m v x O N y l1 l2;refine⟨_,rfl,(by show 2<=sizeLine;decide),λd g=>?_⟩;refine k d c _ ⟨m,0,lU,by rw[lO (mF y g)];exact y,l1,by omega⟩ (N.free g) B (N.trans (oG.new g))
  refine⟨_,rfl,_,rfl,a,_,rfl,L.seq W,λp4 n4=>?_⟩;rw[em];have N:=L.trans (oG.new (o:=.l (q.map V.int)) n4);have y:upd J p4 (.l (q.map V.int)) c=some (.l (u.map V.int)):=by rw[lO (mF U n4)];exact U
  refine⟨p4,q,rfl,gV.of lU,_,_,rfl,rfl,(by show (0:Int)<2;decide),rfl,_,rfl,?_⟩;refine xT (λ_=>?_) (λ_=>?_)
  .refine⟨_,rfl,c,_,rfl,.inl (gV.of y),_,rfl,by omega,by rw[aB];omega,?_⟩;rw[aB,cR];refine Jq (lo:=0) (n:=u.length) (λi I z=>∃ (m:Aa Int) (v x:Ab V),I=[some (.ref a),some (.ref c),v,x]/\oG H z/\z c=some (.l (m.map V.int))/\m.length=u.length)
    ⟨u,none,none,rfl,N,y,rfl⟩ ?_ ?_
   .rintro i I z hi ⟨m,v,x,rfl,C,R,Z⟩;have X:(m.map V.int)[i]?=some (V.int (m[i]'(by omega))):=by simp[Z,hi]
    refine⟨_,rfl,_,rfl,c,_,_,V.int (m[i]'(by omega)),rfl,rfl,gV.of R,(by rw[Int.zero_add];exact oA X),_,_,rfl,rfl,(by show (0:Int)<2147483587;decide),_,rfl,_,_,rfl,rfl,.inl (by decide),_,_,rfl,rfl,_,_,rfl,rfl,_,_,rfl,rfl,.inr (by decide),_,_,rfl,rfl,(by show (0:Int)<2147483629;decide),?_⟩;refine⟨_,rfl,_,rfl,_,_,rfl,rfl,.inl ?_,_,rfl,_,_,rfl,rfl,.inl (by decide),_,_,rfl,rfl,_,_,rfl,rfl,(by show (0:Int)<2147483563;decide),_,_,rfl,rfl,.inr (by decide),_,_,rfl,rfl,(by show (0:Int)<2147483549;decide),?_⟩
    .have b0:=eQ ((m[i]'(by omega)%2147483587+853*(0+(i:Int))+11)*69621) (show (2147483629:Int)≠0 by decide);have b1:=dJ ((m[i]'(by omega)%2147483587+853*(0+(i:Int))+11)*69621) (show (0:Int)<2147483629 by decide);exact⟨by omega,by omega⟩
    generalize hM:((m[i]'(by omega)%2147483587+853*(0+(i:Int))+11)*69621%2147483629)=M;have b0:=eQ ((M*M+31*(0+(i:Int)))%2147483563*16807) (show (2147483549:Int)≠0 by decide);have b1:=dJ ((M*M+31*(0+(i:Int)))%2147483563*16807) (show (0:Int)<2147483549 by decide);refine⟨_,rfl,_,rfl,_,_,rfl,rfl,.inl ?_,_,_,rfl,rfl,.inr (by decide),_,rfl,_,_,rfl,rfl,.inl ?_,_,_,rfl,rfl,(by show (0:Int)<2147483579;decide),_,_,rfl,rfl,_,rfl,_,rfl,c,_,_,i,rfl,rfl,R,?_,?_⟩
    .exact⟨by omega,by omega⟩
    .exact⟨by omega,by omega⟩
    .rw[aB];unfold rC;rw[bA (by omega),bA (by omega)]
     congr 1
     omega
    .refine⟨m.set i _,_,_,rfl,?_,by rw[lU,List.map_set],by rw[bO];exact Z⟩;intro b o e;rw[lO (mF e B)];exact C b o e
   .rintro I z ⟨m,v,x,rfl,C,R,Z⟩;exact fin m v x z C R (by omega) (by omega)
  .exact fin u none none _ N y D.1 D.2
end
structure LS (n m:Nat) (x:Str):Prop where
 az:∀ c∈x.cps.toList,97<=c/\c<=122
 lo:n<=x.length
 hi:x.length<=m
theorem AU (x y:Af):(x++y).cps.toList=x.cps.toList++y.cps.toList:=by
 show (x.cps++y.cps).toList=_;simp
theorem Kt (x y:Af):(x++y).length=x.length+y.length:=by
 show (x.cps++y.cps).size=_;simp[Str.length]
theorem LS.app (h:LS a b x) (g:LS c d y):LS (a+c) (b+d) (x++y) :=
 ⟨λz e=>by rw[AU] at e;exact (aX.mp e).elim (h.az z) (g.az z),by rw[Kt];have:=h.lo;have:=g.lo;omega,by rw[Kt];have:=h.hi;have:=g.hi;omega⟩
theorem LS.weak (h:LS a b x) (g:c<=a) (j:b<=d):LS c d x:=⟨h.az,bX g h.lo,bX h.hi j⟩
noncomputable def F1 (n m:Nat) (x:Af):Bool:=x.cps.toList.all (λc=>decide (97<=c)&&decide (c<=122))&&decide (n<=x.length)&&decide (x.length<=m)
theorem LS.of (h:F1 n m x=true):LS n m x:=by
 unfold F1 at h;simp only[bS,cE,eL] at h;exact⟨h.1.1,h.1.2,h.2⟩
theorem LS.cutL (h:LS n n z) (g:k<=n):LS k k (rS z none (some (k:Int))):=by
 have e:z.length=n:=lG h.hi h.lo;have d:HT.sIx z.length z.length (some (k:Int))=k:=by rw[HT.sIx_nat];omega
 have a:(rS z none (some (k:Int))).cps.toList=z.cps.toList.take k:=by
  show ((z.cps.toList.drop (HT.sIx z.length 0 none)).take _).toArray.toList=_;rw[d,HT.sIx_none];simp
 have f:(rS z none (some (k:Int))).length=k:=by
  rw[<- wU,a,bR,wU];omega
 exact⟨λc b=>by rw[a] at b;exact h.az c (List.mem_of_mem_take b),by omega,by omega⟩
theorem LS.cutR (h:LS n n z) (g:k<=n):LS (n-k) (n-k) (rS z (some (k:Int)) none):=by
 have e:z.length=n:=lG h.hi h.lo;have d:HT.sIx z.length 0 (some (k:Int))=k:=by rw[HT.sIx_nat];omega
 have a:(rS z (some (k:Int)) none).cps.toList=z.cps.toList.drop k:=by
  show ((z.cps.toList.drop (HT.sIx z.length 0 (some (k:Int)))).take _).toArray.toList=_;rw[d,HT.sIx_none];simp only[List.toList_toArray];rw[bJ];rw[dN,wU];omega
 have f:(rS z (some (k:Int)) none).length=n-k:=by
  rw[<- wU,a,dN,wU];omega
 exact⟨λc b=>by rw[a] at b;exact h.az c (List.mem_of_mem_drop b),by omega,by omega⟩
theorem LS.sign (h:97<=c/\c<=122):LS 1 1 ⟨#[c]⟩:=⟨λd hd=>by simp at hd;subst hd;exact h,aL _,aL _⟩
theorem Pm:∀ (g:Aa Af),(∀ y∈g,LS 1 1 y)->LS g.length g.length (Str.join "" g)
 | [],_=>⟨λc e=>(nomatch e),aL _,aL _⟩
 | [x],h=>h x aH
 | x::y::r,h=>by
  have b:=h x aH;have d:=Pm (y::r) λz f=>h z (aN _ f)
  have a:LS 0 0 (Str.ofString ""):=LS.of (by decide +kernel);have:=(b.app a).app d;show LS _ _ (x++(Str.ofString "")++Str.join "" (y::r));exact this.weak (by simp;omega) (by simp;omega)
theorem CP (g:0<=i) (l:i<xs.length):∃ v,mQ xs i=some v/\v∈xs:=by
 obtain⟨j,rfl⟩:=cQ g;have a:j<xs.length:=by omega
 exact⟨xs[j],oA (aJ a),eD a⟩
theorem Fb {xs:Aa Af}{i:Int}(g:0<=i) (l:i<xs.length):∃ x,mQ (xs.map V.str) i=some (V.str x)/\x∈xs:=by
 obtain⟨j,rfl⟩:=cQ g;have a:j<xs.length:=by omega
 exact⟨xs[j],oA (by simp[a]),eD a⟩
def nJ:Af := "abcdefghijklmnopqrstuvwxyz"
theorem Ih:nJ.length=26:=by decide +kernel
theorem Hc (g:0<=i) (j:i<26):∃ c,mQ nJ.cps.toList i=some c/\97<=c/\c<=122:=by
 obtain⟨c,e,m⟩:=CP (xs:=nJ.cps.toList) g (by rw[wU,Ih];exact j);have h:LS 26 26 nJ:=LS.of (by decide +kernel);exact⟨c,e,h.az c m⟩
noncomputable def qI:Aa Af:=["and","or","odd","most","not","one","nil","in","out"]
theorem AT (h:x∈qI):LS 2 4 x:=by
 have:qI.all (F1 2 4)=true:=by decide +kernel
 exact LS.of (cE.mp this x h)
structure GoodName (x:Str):Prop where
 ls:LS 1 8 x
 nk:x∉qI
def Hw:Sp:=λa H Q _=>a=[]/\∀ l,H l=none->Q (.ref l) (upd H l (.l (qI.map V.str)))
def Ll:Sp:=λe H Q _=>∃ (d c:Ad) (m:Nat),e=[.ref d,.int m]/\DeckAt H d c/\m<=40/\∀ (l:Ad) (b:Aa Af) (a:Hp),H l=none->a l=some (.l (b.map V.str))->b.length=m->(∀ x∈b,LS 1 8 x) ->
 DeckAt a d c->lW d c H a->Q (.ref l) a
theorem lW.free (k:lW d c H g) (j:l≠d) (p:l≠c) (h:g l=none):H l=none:=by
 cases e:H l with
 | none=>rfl
 | some o=>rw[k l o e j p] at h;cases h
theorem GY {g:Aa Af}{n m:Nat}(h:∀ y∈g,y.length<=m) (j:g.length<=n):(g.map (·.length)).sum<=n*m:=by
 have:∀ g:Aa Af,(∀ y∈g,y.length<=m)->(g.map (·.length)).sum<=g.length*m:=by
  intro g;induction g with
  | nil=>intro _;simp
  | cons a r c =>
   intro h;have d:=h a aH;have e:=c λy b=>h y (aN _ b)
   simp only[aZ,List.sum_cons,bT,gF,gG];omega
 exact bX (this g h) (Nat.mul_le_mul_right m j)
theorem Gu (h:n<=1000):n<=sizeLine:=bX h (by decide)
section
variable {P:Ah}{K:lJ}
theorem X9:FnScope [] [] (mG Bd):=⟨rfl,rfl,rfl,by decide +kernel,rfl,by decide +kernel,by decide +kernel⟩
theorem Rc (F:Fun K "_law_kept" "_law_kept" Bd f fd):FnOk P w K g base nG 1 f fd [] Hw:=by
 refine F.ok X9 (λd H Q E h=>?_) (λb A a s H d Q E e h=>?_)
 .obtain⟨rfl,_⟩:=h;rfl
 .obtain⟨rfl,k⟩:=h;refine⟨_,@qZ _ _ _ (@uX _ _ _ _ (@oP _ _ _ _ (@vY _ [("and",_,_),("or",_,_),("odd",_,_),("most",_,_),("not",_,_),("one",_,_),("nil",_,_),("in",_,_),("out",_,_)]))),?_⟩;have c:9<=sizeLine:=by decide
  refine⟨c,?_⟩;exact k
theorem tD:FnScope ["deck","many","letters","base","at","shift","way","names","k","sign","word","name"] ["deck","many"] (mG E7):=⟨rfl,rfl,rfl,by decide +kernel,rfl,by decide +kernel,by decide +kernel⟩
theorem ES:(["k","letters","deck"]:Aa Af).Nodup:=by decide +kernel
theorem Oc (j:0<=i) (l:i<2) (q:Af) (g:LS 0 1 q):∃ x,mQ [V.str "",V.str q] i=some (V.str x)/\LS 0 1 x:=by
 have:i=0\/i=1:=by omega
 rcases this with rfl | rfl
 .exact⟨"",rfl,LS.of (by decide +kernel)⟩
 .exact⟨q,rfl,g⟩
theorem T5 (F:Fun K "_law_made_names" "_law_made_names" E7 f fd) (T:Txt mg) (g:Gd K mg "_law_take" tZ ["deck","many"] fT aw) (gK:Gd K mg "_law_kept" Bd [] fK av) :
  FnOk P w K mg base nG 2 f fd ["deck","many"] Ll:=by
 have GT:FnOk P w K mg base nG 1 fT aw ["deck","many"] zP:=Dg g.F T;have GK:FnOk P w K mg base nG 1 fK av [] Hw:=Rc gK.F;refine F.ok tD (λvs H Q E h=>?_) (λa8 A a7 s H vs Q E hr h=>?_)
 .obtain⟨d,c,m,rfl,_⟩:=h;rfl
 .obtain⟨d,c,m,rfl,D,hm,k⟩:=h;refine⟨_,oC (nU (i:=2) tD.nd rfl (Or.inr rfl) tS) (oC (nU (i:=3) tD.nd rfl (Or.inl rfl) (xW PySem.F.plainAttrs_str PySem.F.slot_str_join PySem.F.type_str_join Z1 tS (lQ (Bm ["k"] ["letters","deck"] [2,0] rfl (yW rfl T.range (lQ (rJ GT hr rfl g.m g.k g.b .nil qR (lQ (pv 0) (lQ mL lY))) lY)) rfl rfl (λZ S C cl fp=>wK (i:=0) ES rfl (Or.inl rfl)) (λZ S C cl fp=>Cw) (λZ S C cl fp=>oM Es (pv 1) (rJ GT hr rfl g.m g.k g.b .nil qR (lQ (pv 2) (lQ mL lY))) (λ_ _=>rfl))) lY))) (oC (nU (i:=4) tD.nd rfl (Or.inl rfl) (rJ GT hr rfl g.m g.k g.b .nil qR (lQ (pv 0) (lQ (mJ vQ (rY Md (by rfl) T.len bG (lQ (pv 3) lY)) mL) lY)))) (oC (nU (i:=5) tD.nd rfl (Or.inl rfl) (rJ GT hr rfl g.m g.k g.b .nil qR (lQ (pv 0) (lQ mL lY)))) (oC (nU (i:=6) tD.nd rfl (Or.inl rfl) (rJ GT hr rfl g.m g.k g.b .nil qR (lQ (pv 0) (lQ mL lY)))) (oC (nU (i:=7) tD.nd rfl (Or.inl rfl) (oP lY)) (oC (Ew dZ rfl (yW rfl T.range (lQ (pv 1) lY)) (wK (i:=8) tD.nd rfl (Or.inl rfl)) (oC (nU (i:=9) tD.nd rfl (Or.inl rfl) (oM Es (pv 2) (mJ rB (mJ vQ (pv 5) (pv 8)) mL) (λ_ _=>rfl))) (oC (nU (i:=10) tD.nd rfl (Or.inl rfl) (oM pT (Rm GK hr rfl gK.m gK.k gK.b .nil qR) (mJ rB (mJ vQ (pv 5) (pv 8)) mL) (λ_ _=>rfl))) (oC (nU (i:=11) tD.nd rfl (Or.inl rfl) (mJ vI (mJ vI (mJ vI (mJ vI (A9 Kh (pv 3) zY (Ao (pv 4))) (pv 9)) (oM pT (oP (lQ tS (lQ tS lY))) (mJ rB (pv 8) mL) (λ_ _=>rfl))) (A9 Kh (pv 3) (Ao (pv 4)) zY)) (oM pT (oP (lQ tS (lQ tS lY))) (mJ Ve (pv 8) mL) (λ_ _=>rfl)))) (qZ (Ho (xW aO bB bC pF (pv 7) (lQ (oM pT (oP (lQ (pv 11) (lQ (mJ vI (pv 9) (pv 10)) (lQ (mJ vI (pv 10) (pv 9)) (lQ (mJ vI (mJ vI (pv 9) (pv 10)) (oM Es (pv 2) (mJ rB (pv 8) mL) (λ_ _=>rfl))) lY))))) (pv 6) (λ_ _=>rfl)) lY)))))))) (qZ (uX (pv 7))))))))),?_⟩;refine⟨rfl,_,rfl,d,c,6,rfl,D,by decide,by decide,λr1 H1 a0 a1 D1 k1=>⟨_,rfl,by omega,by omega,λD0 N=>?_⟩⟩;have u:=D1.ned N;have a2:H D0=none:=k1.free u.1 u.2 N;refine Jm Qh (λi ys H2=>∃ t:Aa Af,ys=t.map V.str/\t.length=i/\(∀ z∈t,LS 1 1 z)/\DeckAt H2 d c/\lW d c H H2/\H2 D0=some (.l ys))
   ⟨[],rfl,rfl,(λz Y=>nomatch Y),D1.new N,k1.trans (lW.new N),lU⟩ (λ_ _ _ _ _=>True.intro) ?_ ?_
  .rintro i x ys H2 hx ⟨t,rfl,hl,a6,D2,k2,hD⟩;have hi:i<6:=by
    have:=(aP.mp hx).1;simp at this;omega
   refine⟨_,rfl,_,rfl,d,c,26,rfl,D2,by decide,by decide,λr H3 b0 b1 D3 k3=>?_⟩;obtain⟨W,a3,I⟩:=Hc b0 b1;have az:=k3 D0 _ hD u.1 u.2;refine⟨nJ,_,W,rfl,rfl,(by rw[Ih];decide),a3,⟨_,rfl⟩,az,(by rw[aB];exact aR (show t.length<1000 by omega) (by decide)),t++[⟨#[W]⟩],by simp,by simp[hl],λz Y=>?_,D3.upd_other u.1 u.2,?_,lU⟩
   .rcases aX.mp Y with q | q
    .exact a6 z q
    .rw[aU.mp q];exact LS.sign I
   .exact λb o e h1 h2=>by rw[lO (mF e a2)];exact k3 b o (k2 b o e h1 h2) h1 h2
  .rintro ys H2 ⟨t,rfl,hl,Y,D2,k2,hD⟩;rw[aB,bN] at hl;have hB:=Pm t Y;have ay:t.length<=5:=by omega
   refine⟨"",D0,t,rfl,rfl,.inl (gV.of hD),?_,?_⟩
   .have h1:=GY (m:=1) (λy hy=>(Y y hy).hi) ay;have h2:(Str.ofString "").length=0:=by decide +kernel
    rw[h2];omega
   have ej:Txt.join (Str.ofString "") t=Str.join (Str.ofString "") t:=StrLaws.glued_eq_join _ _;rw[ej];generalize Str.join (Str.ofString "") t=B at hB;have eB:B.length=t.length:=lG hB.hi hB.lo;refine⟨_,rfl,_,rfl,B,rfl,Gu (by omega),_,_,rfl,rfl,d,c,_,rfl,D2,by omega,by omega,λr2 H3 b0 b1 D3 k3=>?_⟩;refine⟨_,rfl,d,c,26,rfl,D3,by decide,by decide,λr3 H4 c0 c1 D4 k4=>?_⟩;refine⟨_,rfl,d,c,4,rfl,D4,by decide,by decide,λr4 H5 d0 d1 D5 k5=>?_⟩;refine⟨(by show 0<=sizeLine;decide),λl nl=>?_⟩;have kk:lW d c H H5:=((k2.trans k3).trans k4).trans k5;have O:=D5.ned nl;have ae:H l=none:=kk.free O.1 O.2 nl;obtain⟨L,rfl⟩:=cQ b0;refine⟨_,rfl,_,rfl,by omega,by omega,?_⟩;rw[cR];refine Jq (lo:=0) (n:=m) (λi σ G=>∃ (v:Aa Af) (v8 v9 v10 v11:Ab V),σ=[some (.ref d),some (.int m),some (.str nJ),some (.str B),some (.int L),some (.int r3),some (.int r4),some (.ref l),v8,v9,v10,v11] /\ v.length=i/\(∀ x∈v,LS 1 8 x)/\G l=some (.l (v.map V.str))/\DeckAt G d c/\lW d c H G)
    ⟨[],none,none,none,none,rfl,rfl,(λz Y=>nomatch Y),lU,D5.new nl,kk.trans (lW.new nl)⟩ ?_ ?_
   .rintro i σ G hi ⟨v,v8,v9,v10,v11,rfl,J,U,h6,D6,k6⟩;have M:∀ z:Int,0<=z%26/\z%26<26:=λz=>⟨eQ z (by decide),dJ z (by decide)⟩
    have e9:∀ z:Int,0<=z%9/\z%9<9:=λz=>⟨eQ z (by decide),dJ z (by decide)⟩
    have e2:∀ z:Int,0<=z%2/\z%2<2:=λz=>⟨eQ z (by decide),dJ z (by decide)⟩
    obtain⟨W,af,I⟩:=Hc (M (r3+(0+(i:Int)))).1 (M _).2;obtain⟨wd,ag,a4⟩:=Fb (xs:=qI) (e9 (r3+(0+(i:Int)))).1 (by exact (e9 _).2);obtain⟨x1,ah,ao⟩:=Oc (e2 (0+(i:Int))).1 (e2 _).2 "q" (LS.of (by decide +kernel));obtain⟨x2,ai,aq⟩:=Oc (i:=(0+(i:Int))/26) (by omega) (by omega) "w" (LS.of (by decide +kernel));obtain⟨c5,aj,an⟩:=Hc (M (0+(i:Int))).1 (M _).2;have j:=LS.sign I;have hW:=AT a4;have X:L<=t.length:=by omega
    have hP:=hB.cutL X;have hR:=hB.cutR X;have n1:=hP.app j;have n2:=n1.app ao;have n3:=n2.app hR;have n4:=n3.app aq;have w1:=j.app hW;have w2:=hW.app j;have w3:=w1.app (LS.sign an);have sz:∀ {a b c' d':Nat} {x y:Af},LS a b x->LS c' d' y->b+d'<=100->x.length+y.length<=sizeLine:=λg1 g2 hb=>Gu (by have:=g1.hi;have:=g2.hi;omega)
    have au:nJ.length<=sizeLine:=by rw[Ih];decide
    have ac:B.length<=sizeLine:=Gu (by omega);refine⟨_,rfl,_,rfl,_,rfl,_,_,rfl,rfl,_,_,rfl,rfl,(by show (0:Int)<26;decide),nJ,_,W,rfl,rfl,au,af,?_⟩;refine⟨rfl,λp np=>?_⟩;have D7:DeckAt (upd G p (.l (qI.map V.str))) d c:=D6.new np;refine⟨_,rfl,_,rfl,_,_,rfl,rfl,_,_,rfl,rfl,(by show (0:Int)<9;decide),p,_,_,.str wd,rfl,rfl,gV.of lU,ag,?_⟩;have k7:lW d c H (upd G p (.l (qI.map V.str))):=k6.trans (lW.new np);have h7:upd G p (.l (qI.map V.str)) l=some (.l (v.map V.str)):=by rw[lO (mF h6 np)];exact h6
    generalize upd G p (.l (qI.map V.str))=H7 at D7 k7 h7 |-;refine⟨_,rfl,_,rfl,_,rfl,B,rfl,ac,_,rfl,_,_,rfl,rfl,sz hP j (by omega),(by show 2<=sizeLine;decide),λp2 aa=>?_⟩;have D8:=D7.new (o:=.l [V.str (Str.ofString ""),V.str (Str.ofString "q")]) aa;have k8:=k7.trans (lW.new (d:=d) (c:=c) (o:=.l [V.str (Str.ofString ""),V.str (Str.ofString "q")]) aa);have h8:upd H7 p2 (.l [V.str (Str.ofString ""),V.str (Str.ofString "q")]) l=some (.l (v.map V.str)):=by rw[lO (mF h7 aa)];exact h7
    refine⟨_,rfl,_,_,rfl,rfl,(by show (0:Int)<2;decide),p2,_,_,.str x1,rfl,rfl,gV.of lU,ah,_,_,rfl,rfl,sz n1 ao (by omega),_,rfl,_,rfl,_,rfl,B,rfl,ac,_,_,rfl,rfl,sz n2 hR (by omega),(by show 2<=sizeLine;decide),λp3 R=>?_⟩;generalize upd H7 p2 (.l [V.str (Str.ofString ""),V.str (Str.ofString "q")])=H8 at D8 k8 h8 R |-;have D9:=D8.new (o:=.l [V.str (Str.ofString ""),V.str (Str.ofString "w")]) R;have k9:=k8.trans (lW.new (d:=d) (c:=c) (o:=.l [V.str (Str.ofString ""),V.str (Str.ofString "w")]) R);have h9:upd H8 p3 (.l [V.str (Str.ofString ""),V.str (Str.ofString "w")]) l=some (.l (v.map V.str)):=by rw[lO (mF h8 R)];exact h8
    refine⟨_,rfl,_,_,rfl,rfl,⟨by decide,by decide⟩,p3,_,_,.str x2,rfl,rfl,gV.of lU,ai,_,_,rfl,rfl,sz n3 aq (by omega),?_⟩;generalize upd H8 p3 (.l [V.str (Str.ofString ""),V.str (Str.ofString "w")])=H9 at D9 k9 h9 |-;generalize a9:(rS B none (some (L:Int))++(⟨#[W]⟩:Af)++x1++rS B (some (L:Int)) none++x2)=nm at n4;refine⟨_,rfl,.inl ⟨rfl,_,gV.of h9⟩,_,rfl,_,rfl,_,rfl,_,_,rfl,rfl,sz j hW (by omega),_,rfl,_,rfl,_,_,rfl,rfl,sz hW j (by omega),_,rfl,_,rfl,_,_,rfl,rfl,sz j hW (by omega),_,rfl,_,rfl,_,_,rfl,rfl,(by show (0:Int)<26;decide),nJ,_,c5,rfl,rfl,au,aj,_,_,rfl,rfl,sz w1 (LS.sign an) (by omega),(by show 4<=sizeLine;decide),λp4 ab=>?_⟩;obtain⟨z,ak,ar⟩:=Fb (xs:=[nm,(⟨#[W]⟩:Af)++wd,wd++(⟨#[W]⟩:Af),(⟨#[W]⟩:Af)++wd++(⟨#[c5]⟩:Af)]) d0 (by exact d1);have a5:LS 1 8 z:=by
     simp only[aF,bH,eF] at ar;rcases ar with rfl | rfl | rfl | rfl
     .exact n4.weak (by omega) (by omega)
     .exact w1.weak (by omega) (by omega)
     .exact w2.weak (by omega) (by omega)
     .exact w3.weak (by omega) (by omega)
    have ax:∀ o4,upd H9 p4 o4 l=some (.l (v.map V.str)):=λo4=>by rw[lO (mF h9 ab)];exact h9
    refine⟨_,rfl,p4,_,_,.str z,rfl,rfl,gV.of lU,ak,l,v.map V.str,.str z,rfl,rfl,?_,?_,v++[z],_,_,_,_,rfl,by simp[J],?_,?_,?_,?_⟩
    .exact ax _
    .rw[aB];exact aR (show v.length<1000 by omega) (by decide)
    .intro y hy;rcases aX.mp hy with q | q
     .exact U y q
     .rw[aU.mp q];exact a5
    .rw[lU];simp
    .exact (D9.new ab).upd_other O.1 O.2
    .exact λb o e g1 g2=>by rw[lO (mF e ae)];exact (k9.trans (lW.new ab)) b o e g1 g2
   .rintro σ G ⟨v,v8,v9,v10,v11,rfl,J,U,h6,D6,k6⟩;exact⟨_,rfl,k l v G ae h6 J U D6 k6⟩
end
def sW:Aa Af:=["cell","along","lay","judge","late","gates","ways","show"]
noncomputable def wE:Aa Af:=["andx","orb","oddly","mosts","nots","ones","nila","inn","outer","aa","ab","ba"]
def Ci:Aa Af:=["abcdefgh","abcdefgi","zzzzzzzz","names","judged","rowsofx"]
def qT (z:Af):Aa Af:=z.cps.toList.map λc=>(⟨#[c]⟩:Af)
def xI:Aa Af:=qT nJ++sW++wE++Ci
theorem DU:xI.Nodup:=by decide +kernel
theorem DC:xI.length=52:=by decide +kernel
theorem Ts:∀ x∈xI,GoodName x:=by
 have h:xI.all (λx=>F1 1 8 x && !qI.contains x)=true:=by decide +kernel
 intro x b;have:=cE.mp h x b;rw[bS] at this;refine⟨LS.of this.1,λm=>?_⟩;have a:=this.2;rw[List.contains_iff_mem.mpr m] at a;cases a
def N0:Sp:=λe H Q _=>∃ (d c:Ad) (m:Nat),e=[.ref d,.int m]/\DeckAt H d c/\m<=40/\∀ (l:Ad) (b:Aa Af) (a:Hp),H l=none->a l=some (.l (b.map V.str))->b.length=m->b.Nodup->(∀ x∈b,GoodName x) ->
 DeckAt a d c->lW d c H a->Q (.ref l) a
theorem Pg:∀ {g:Aa Af}{k:Nat}{y:Af},g[k]?=some y->(y::g.eraseIdx k).Perm g
 | [],k,y,h=>by simp at h
 | a::r,0,y,h=>by
  simp at h;subst h;exact List.Perm.refl _
 | a::r,k+1,y,h=>by
  have b:r[k]?=some y:=by simpa using h
  show (y::a::r.eraseIdx k).Perm (a::r);exact (List.Perm.swap a y _).trans ((Pg b).cons a)
theorem Lk (f:g->j):∀ (l:Aa g) (k:Nat),(l.map f).eraseIdx k=(l.eraseIdx k).map f
 | [],_=>rfl
 | _::_,0=>rfl
 | a::r,k+1=>by simp[Lk f r k]
theorem Mi (x:Af) (g:Aa Af):sI (.str x) (g.map V.str)=decide (x∈g):=by
 unfold sI;induction g with
 | nil=>rfl
 | cons y r b =>
  rw[aZ,eX,b];have:oE (V.str y) (V.str x)=decide (y=x):=by
   simp only[oE];exact Bool.beq_eq_decide_eq y x
  rw[this];by_cases h:x=y
  .subst h;simp
  .have a:¬ y=x:=λe=>h e.symm
   simp[h,a]
theorem Ka (g:Aa Af):(g.map V.str).all qB=true:=by
 rw[cE];intro v a;obtain⟨y,_,rfl⟩:=aG.mp a;rfl
section
variable {P:Ah}{K:lJ}
theorem zG:FnScope ["deck","many","letters","names","spare"] ["deck","many"] (mG Ay):=⟨rfl,rfl,rfl,by decide +kernel,rfl,by decide +kernel,by decide +kernel⟩
theorem Pb (x:Af):([x]:Aa Af).Nodup:=by simp
theorem Ud:(["k","spare","deck"]:Aa Af).Nodup:=by decide +kernel
theorem Xr (F:Fun K "_law_names" "_law_names" Ay f fd) (T:Txt mg) (gT:Gd K mg "_law_take" tZ ["deck","many"] fT a6) (gK:Gd K mg "_law_kept" Bd [] fK a4)
  (gM:Gd K mg "_law_made_names" E7 ["deck","many"] fM a5):FnOk P w K mg base nG 3 f fd ["deck","many"] N0:=by
 have GT:FnOk P w K mg base nG 1 fT a6 ["deck","many"] zP:=Dg gT.F T;have GK:FnOk P w K mg base nG 1 fK a4 [] Hw:=Rc gK.F;have GM:FnOk P w K mg base nG 2 fM a5 ["deck","many"] Ll:=T5 gM.F T gT gK;refine F.ok zG (λvs H Q E h=>?_) (λbf A bd s H vs Q E hr h=>?_)
 .obtain⟨d,c,m,rfl,_⟩:=h;rfl
 .obtain⟨d,c,m,rfl,D,hm,k⟩:=h;have aj:Room 1 _:=hr.mono (by decide);have hu:=hr.units;refine Ou _ (nU (i:=2) zG.nd rfl (Or.inl rfl) tS) ?_;refine wL (λσ S=>∃ v3,σ=[some (.ref d),some (.int m),some (.str nJ),v3,none]/\DeckAt S d c/\lW d c H S) (λu L=>?_) ?_
  .-- if _law_take(deck,2) == 1
   refine⟨_,yJ (uO Dt (rJ GT aj rfl gT.m gT.k gT.b .nil qR (lQ (pv 0) (lQ mL lY))) mL (vE _)) (oC (nU (i:=3) zG.nd rfl (Or.inl rfl) (rJ GM hr rfl gM.m gM.k gM.b .nil qR (lQ (pv 0) (lQ (pv 1) lY)))) (qZ (yJ (PW.pt (Qv (uO Dt (rY Sn (by rfl) T.len bG (lQ (Fo (Z5 rfl) (by rfl) T.set PyProof.Rows.boot_set (lQ (pv 3) lY)) lY)) (pv 1) (vE _)) (Oz (uO (Hu hu) (Bm ["name"] [] [] rfl (U3 (pv 3)) rfl rfl (λB v C cl fp=>wK (i:=0) (Pb _) rfl (Or.inl rfl)) (λB v C cl fp=>Rw (uO (r:=Dr K false) Qd (pv 0) (Rm GK aj rfl gK.m gK.k gK.b .nil qR) rfl)) (λB v C cl fp=>pv 0)) (oP lY) (vE _))))) (qZ (uX (pv 3))) Az))) Az,?_⟩;refine⟨_,rfl,d,c,2,rfl,D,by decide,by decide,λr1 H1 a0 a1 D1 k1=>⟨rfl,_,rfl,?_⟩⟩;refine xT (λ_=>?_) (λ_=>L _ _ ⟨none,rfl,D1,k1⟩);refine⟨_,rfl,_,rfl,d,c,m,rfl,D1,hm,λl O H2 nl hl av ba D2 k2=>?_⟩;have kk:lW d c H H2:=k1.trans k2;have ax:=D1.ned nl;have a8:H l=none:=k1.free ax.1 ax.2 nl;refine⟨_,rfl,l,O,rfl,gV.of hl,by omega,λp np=>?_⟩;have k3:=kk.trans (lW.new (d:=d) (c:=c) (o:=yE P w p (nO O).length) np);have D3:=D2.new (o:=yE P w p (nO O).length) np;have ai:upd H2 p (yE P w p (nO O).length) l=some (.l (O.map V.str)):=by rw[lO (mF hl np)];exact hl
   refine⟨p,_,rfl,lU,_,rfl,rfl,_,rfl,?_⟩;refine xT (λa9=>?_) (λ_=>xR (L _ _ ⟨_,rfl,D3,k3⟩));have J:O.Nodup:=by
    have:=dR a9;injection this with this;exact AK (by omega)
   refine⟨_,rfl,l,rfl,⟨_,gV.of ai⟩,λR n=>?_⟩;have G:=D3.ned n;have ac:H R=none:=k3.free G.1 G.2 n;have lD:l≠R:=mF ai n;refine R4 Wt (λi ys S=>∃ t:Aa Af,ys=t.map V.str/\t.length<=i/\((∃ x∈O.take i,x∈qI)->t≠[])/\((∀ x∈O.take i,x∉qI)->t=[])/\DeckAt S d c/\lW d c H S/\S R=some (.l ys)/\S l=some (.l (O.map V.str)))
    ⟨[],rfl,aL _,(λ⟨x,N,_⟩=>by simp at N),(λ_=>rfl),D3.new n,k3.trans (lW.new n),lU,by rw[lO lD];exact ai⟩ (λi ys S _ ⟨_,_,_,_,_,_,_,_,h⟩=>gV.of h) ?_ ?_
   .rintro i x ys S N ⟨t,rfl,aw,U,af,D4,k4,g,I⟩;obtain⟨y,hy,rfl⟩:∃ y,O[i]?=some y/\V.str y=x:=by
     rw[aV] at N;cases e:O[i]? with
     | none=>rw[e] at N;cases N
     | some y=>rw[e] at N;exact⟨y,rfl,cA N⟩
    have hi:i<O.length:=(aP.mp hy).1;have et:O.take (i+1)=O.take i++[y]:=by rw[dQ,hy];rfl
    refine⟨_,rfl,rfl,λq nq=>?_⟩;have bh:=D4.ned nq;refine⟨q,_,rfl,.inl (gV.of lU),rfl,Ka _,_,rfl,?_⟩;have D5:=D4.new (o:=.l (qI.map V.str)) nq;have k5:=k4.trans (lW.new (d:=d) (c:=c) (o:=.l (qI.map V.str)) nq);have ab:upd S q (.l (qI.map V.str)) R=some (.l (t.map V.str)):=by rw[lO (mF g nq)];exact g
    have ae:upd S q (.l (qI.map V.str)) l=some (.l (O.map V.str)):=by rw[lO (mF I nq)];exact I
    rw[Mi];refine xT (λhk=>?_) (λhk=>?_)
    .have ah:y∈qI:=dR hk;refine⟨_,rfl,⟨_,rfl⟩,ab,?_,t++[y],by simp,by simp;omega,λ_=>by simp,λh=>absurd ah (h y (by rw[et];simp)),D5.upd_other G.1 G.2,?_,lU,?_⟩
     .rw[aB];exact aR (show t.length<1000 by omega) (by decide)
     .exact λb o e g1 g2=>by rw[lO (mF e ac)];exact k5 b o e g1 g2
     .rw[lO lD];exact ae
    .have ah:y∉qI:=λz=>hk (cV z)
     refine⟨⟨_,rfl⟩,t,rfl,by omega,?_,?_,D5,k5,ab,ae⟩
     .rintro ⟨z,hz,ak⟩;rw[et] at hz;rcases aX.mp hz with q' | q'
      .exact U ⟨z,q',ak⟩
      .rw[aU.mp q'] at ak;exact absurd ak ah
     .exact λh=>af λz hz=>h z (by rw[et];exact aW _ hz)
   .rintro ys S ⟨t,rfl,aw,U,af,D4,k4,g,I⟩;rw[aB] at aw U af;rw[bJ (aL _)] at U af;refine⟨(by show 0<=sizeLine;decide),λq nq=>?_⟩;have D5:=D4.new (o:=.l []) nq;have k5:=k4.trans (lW.new (d:=d) (c:=c) (o:=.l []) nq);have ab:upd S q (.l []) R=some (.l (t.map V.str)):=by rw[lO (mF g nq)];exact g
    have ae:upd S q (.l []) l=some (.l (O.map V.str)):=by rw[lO (mF I nq)];exact I
    refine⟨R,q,_,rfl,rfl,gV.of ab,gV.of lU,_,rfl,?_⟩;refine xT (λhe=>?_) (λ_=>L _ _ ⟨_,rfl,D5,k5⟩);have bc:t=[]:=by
     cases t with
     | nil=>rfl
     | cons a r=>simp at he
    refine⟨_,rfl,k l O _ a8 ae av J (λx N=>⟨ba x N,λhk=>U ⟨x,N,hk⟩ bc⟩) D5 k5⟩
  .rintro σ S ⟨v3,rfl,D4,k4⟩;refine wL (λσ H7=>∃ p2,σ=[some (.ref d),some (.int m),some (.str nJ),v3,some (.ref p2)]/\H7 p2=some (.l ((qT nJ++sW).map V.str))/\DeckAt H7 d c/\lW d c H H7/\H p2=none) (λu L=>?_) ?_
   .refine⟨_,nU (i:=4) zG.nd rfl (Or.inr rfl) (mJ zS (Bm ["sign"] [] [] rfl (GU (pv 2)) rfl rfl (λB v C cl fp=>wK (i:=0) (Pb _) rfl (Or.inl rfl)) (λB v C cl fp=>Cw) (λB v C cl fp=>pv 0)) (@oP _ _ _ _ (@vY _ [("cell",_,_),("along",_,_),("lay",_,_),("judge",_,_),("late",_,_),("gates",_,_),("ways",_,_),("show",_,_)]))),?_⟩;refine⟨_,rfl,nJ,rfl,by decide +kernel,λR n=>?_⟩;refine Zf GL id n (λ_ _=>True.intro) (by rw[show (wY nJ).length=26 by decide +kernel];decide) (λi x H5 kk N _ h=>⟨_,rfl,h⟩) ?_;have e1:(wY nJ).map id=(qT nJ).map V.str:=by rw[List.map_id];unfold wY qT;rw[List.map_map];rfl
    rw[e1];refine⟨(by show 8<=sizeLine;decide),λp1 n1=>?_⟩;have h0:upd (upd S R (.l ((qT nJ).map V.str))) p1 (.l (sW.map V.str)) R=some (.l ((qT nJ).map V.str)):=by rw[lO (mF lU n1)];exact lU
    refine⟨R,p1,_,_,rfl,rfl,h0,lU,(by rw[aB,show (qT nJ).length=26 by decide +kernel];show 26+8<=sizeLine;decide),λp2 n2=>?_⟩;have D7:=((D4.new (o:=.l ((qT nJ).map V.str)) n).new (o:=.l (sW.map V.str)) n1);have k7:=(k4.trans (lW.new (d:=d) (c:=c) (o:=.l ((qT nJ).map V.str)) n)).trans (lW.new (d:=d) (c:=c) (o:=.l (sW.map V.str)) n1);have ay:=D7.ned n2;refine L _ _ ⟨p2,rfl,?_,D7.new n2,k7.trans (lW.new n2),k7.free ay.1 ay.2 n2⟩;rw[lU,aY];rfl
   rintro σ H7 ⟨p2,rfl,h7,D7,k7,z7⟩;refine wL (λσ H8=>∃ p3,σ=[some (.ref d),some (.int m),some (.str nJ),v3,some (.ref p3)]/\H8 p3=some (.l ((qT nJ++sW++wE).map V.str))/\DeckAt H8 d c/\lW d c H H8/\H p3=none) (λu L=>?_) ?_
   .refine⟨_,nU (i:=4) zG.nd rfl (Or.inr rfl) (mJ zS (pv 4) (@oP _ _ _ _ (@vY _ [("andx",_,_),("orb",_,_),("oddly",_,_),("mosts",_,_),("nots",_,_),("ones",_,_),("nila",_,_),("inn",_,_),("outer",_,_),("aa",_,_),("ab",_,_),("ba",_,_)]))),?_⟩;refine⟨_,rfl,(by show 12<=sizeLine;decide),λp1 n1=>?_⟩;have h0:upd H7 p1 (.l (wE.map V.str)) p2=some (.l ((qT nJ++sW).map V.str)):=by rw[lO (mF h7 n1)];exact h7
    refine⟨p2,p1,_,_,rfl,rfl,h0,lU,(by rw[aB,show (qT nJ++sW).length=34 by decide +kernel];show 34+12<=sizeLine;decide),λp3 n3=>?_⟩;have D8:=D7.new (o:=.l (wE.map V.str)) n1;have k8:=k7.trans (lW.new (d:=d) (c:=c) (o:=.l (wE.map V.str)) n1);have az:=D8.ned n3;refine L _ _ ⟨p3,rfl,?_,D8.new n3,k8.trans (lW.new n3),k8.free az.1 az.2 n3⟩;rw[lU,aY (l₁:=qT nJ++sW)];rfl
   rintro σ H8 ⟨p3,rfl,h8,D8,k8,z8⟩;refine wL (λσ H9=>∃ Y,σ=[some (.ref d),some (.int m),some (.str nJ),v3,some (.ref Y)]/\H9 Y=some (.l (xI.map V.str))/\DeckAt H9 d c/\lW d c H H9/\H Y=none) (λu L=>?_) ?_
   .refine⟨_,nU (i:=4) zG.nd rfl (Or.inr rfl) (mJ zS (pv 4) (@oP _ _ _ _ (@vY _ [("abcdefgh",_,_),("abcdefgi",_,_),("zzzzzzzz",_,_),("names",_,_),("judged",_,_),("rowsofx",_,_)]))),?_⟩;refine⟨_,rfl,(by show 6<=sizeLine;decide),λp1 n1=>?_⟩;have h0:upd H8 p1 (.l (Ci.map V.str)) p3=some (.l ((qT nJ++sW++wE).map V.str)):=by rw[lO (mF h8 n1)];exact h8
    refine⟨p3,p1,_,_,rfl,rfl,h0,lU,(by rw[aB,show (qT nJ++sW++wE).length=46 by decide +kernel];show 46+6<=sizeLine;decide),λY n4=>?_⟩;have D9:=D8.new (o:=.l (Ci.map V.str)) n1;have k9:=k8.trans (lW.new (d:=d) (c:=c) (o:=.l (Ci.map V.str)) n1);have X:=D9.ned n4;refine L _ _ ⟨Y,rfl,?_,D9.new n4,k9.trans (lW.new n4),k9.free X.1 X.2 n4⟩;unfold xI;rw[lU,aY (l₁:=qT nJ++sW++wE)];rfl
   rintro σ H9 ⟨Y,rfl,h9,D9,k9,z9⟩;refine⟨_,qZ (uX (Bm ["k"] ["spare","deck"] [4,0] rfl (yW rfl T.range (lQ (pv 1) lY)) rfl rfl (λB v C cl fp=>wK (i:=0) Ud rfl (Or.inl rfl)) (λB v C cl fp=>Cw) (λB v C cl fp=>AJ K aO fO fP Bk (pv 1) (lQ (rJ GT aj rfl gT.m gT.k gT.b .nil qR (lQ (pv 2) (lQ (rY (W8 K) (by rfl) T.len bG (lQ (pv 1) lY)) lY))) lY)))),?_⟩;refine⟨_,rfl,_,rfl,by omega,by omega,λR n=>?_⟩;have G:=D9.ned n;have ac:H R=none:=k9.free G.1 G.2 n;have X:Y≠d/\Y≠c:=D.ned z9;have ar:Y≠R:=mF h9 n;refine Jm Qh (λi ys W=>∃ t M:Aa Af,ys=t.map V.str/\t.length=i/\M.length+i=52/\(t++M).Nodup/\(∀ x∈t++M,GoodName x)/\W Y=some (.l (M.map V.str))/\DeckAt W d c/\lW d c H W/\W R=some (.l ys))
    ⟨[],xI,rfl,rfl,DC,DU,Ts,by rw[lO ar];exact h9,D9.new n,k9.trans (lW.new n),lU⟩ (λ_ _ _ _ _=>True.intro) ?_ ?_
   .rintro i x ys W N ⟨t,M,rfl,an,bb,J,hg,aa,ag,ao,Z⟩;have hi:i<40:=by
     have:=(aP.mp N).1;simp at this;omega
    refine⟨_,rfl,.inl ⟨rfl,_,gV.of aa⟩,_,rfl,_,rfl,Y,_,rfl,.inl (gV.of aa),d,c,_,rfl,ag,by rw[aB];omega,by rw[aB];omega,λr be b0 b1 a3 aq=>?_⟩;rw[aB] at b1;obtain⟨j,rfl⟩:=cQ b0;have hj:j<M.length:=by omega
    have a7:=aq Y _ aa X.1 X.2;have au:=aq R _ Z G.1 G.2;have hy:M[j]?=some M[j]:=aJ hj;have pm:=Pg hy;have a2:((t++[M[j]])++M.eraseIdx j).Perm (t++M):=by
     rw[bP];exact jM t pm
    have bg:(M.eraseIdx j).length+1=M.length:=by
     rw[List.length_eraseIdx,bA hj];omega
    refine⟨Y,_,_,j,.str M[j],rfl,rfl,a7,by omega,by omega,?_,by simp[hj],⟨_,rfl⟩,by rw[lO ar.symm];exact au,?_,t++[M[j]],M.eraseIdx j,by simp,by simp[an],by omega,a2.symm.nodup J,λx N=>hg x (a2.mem_iff.mp N),?_,?_,?_,lU⟩
    .rw[aB];exact PySem.StrLaws.seqIndex_nonneg (by omega) (by omega)
    .rw[aB];exact aR (show t.length<1000 by omega) (by decide)
    .rw[lO ar,lU,Lk]
    .exact (a3.upd_other X.1 X.2).upd_other G.1 G.2
    .exact λb o e g1 g2=>by rw[lO (mF e ac),lO (mF e z9)];exact aq b o (ao b o e g1 g2) g1 g2
   .rintro ys W ⟨t,M,rfl,an,bb,J,hg,aa,ag,ao,Z⟩;rw[aB,bN] at an;exact k R t W ac Z (by omega) (List.Nodup.sublist (List.sublist_append_left t M) J) (λx N=>hg x (aW _ N)) ag ao
end
noncomputable def uS:Aa Af:=["and","or","odd"]
structure ArOk (w:Str) (n:Nat):Prop where
 ok:(w∈uS/\(n=2\/n=3))\/(w = "most" /\ n=3)\/(w = "not" /\ n=1)\/(w = "one" /\ n=0)\/(w = "nil" /\ n=0)
def Ek:Aa Af:=["and","or","odd","most","not","one","nil","and","odd","most"]
def tN:Aa Af:=["most","not","one","nil"]
def wP:Aa Int:=[3,1,0,0]
theorem Sg (h:w∈Ek) (g:w∉uS):w = "most" \/ w = "not" \/ w = "one" \/ w = "nil" := by
 unfold Ek at h;unfold uS at g;simp only[aF,bH,eF,kW] at h g;obtain⟨g1,g2,g3⟩:=g;rcases h with q | q | q | q | q | q | q | q | q | q
 .exact absurd q g1
 .exact absurd q g2
 .exact absurd q g3
 .exact .inl q
 .exact .inr (.inl q)
 .exact .inr (.inr (.inl q))
 .exact .inr (.inr (.inr q))
 .exact absurd q g1
 .exact absurd q g3
 .exact .inl q
theorem Tz {w:Af}(h:w = "most" \/ w = "not" \/ w = "one" \/ w = "nil"):∃ (j:Nat) (n:Nat),j<4/\(∀ z,(tN.map V.str)[j]?=some z->oE z (.str w)=true)/\(∀ (m:Nat) z,m<j->(tN.map V.str)[m]?=some z->oE z (.str w)=false) /\
  mQ (wP.map V.int) (j:Int)=some (.int n)/\ArOk w n:=by
 have go:∀ (j:Nat) (n:Nat),j<4->tN[j]?=some w->mQ (wP.map V.int) (j:Int)=some (.int n)->(∀ m,m<j->∀ y,tN[m]?=some y->¬ y=w)->ArOk w n->∃ (j:Nat) (n:Nat),j<4/\(∀ z,(tN.map V.str)[j]?=some z->oE z (.str w)=true)/\(∀ (m:Nat) z,m<j->(tN.map V.str)[m]?=some z->oE z (.str w)=false) /\
   mQ (wP.map V.int) (j:Int)=some (.int n)/\ArOk w n:=by
  intro j n k hw i q s;refine⟨j,n,k,λz c=>?_,λm z d c=>?_,i,s⟩
  .rw[aV,hw] at c;cases c;show (w == w)=true;exact iG w
  .rw[aV] at c;cases e:tN[m]? with
   | none=>rw[e] at c;cases c
   | some y =>
    rw[e] at c;cases c;show (y == w)=false;exact cY.mpr (q m d y e)
 have t:∀ {a b:Nat},a<b->b<=4->a=0\/a=1\/a=2\/a=3:=λu v=>by omega
 rcases h with rfl | rfl | rfl | rfl
 .exact go 0 3 (by decide) rfl rfl (λm d=>absurd d (Nat.not_lt_zero _)) ⟨.inr (.inl ⟨rfl,rfl⟩)⟩
 .refine go 1 1 (by decide) rfl rfl (λm d y f=>?_) ⟨.inr (.inr (.inl ⟨rfl,rfl⟩))⟩;obtain rfl:m=0:=by omega
  cases f;decide +kernel
 .refine go 2 0 (by decide) rfl rfl (λm d y f=>?_) ⟨.inr (.inr (.inr (.inl ⟨rfl,rfl⟩)))⟩;rcases (show m=0\/m=1 by omega) with rfl | rfl<;>(cases f;decide +kernel)
 .refine go 3 0 (by decide) rfl rfl (λm d y f=>?_) ⟨.inr (.inr (.inr (.inr ⟨rfl,rfl⟩)))⟩;rcases (show m=0\/m=1\/m=2 by omega) with rfl | rfl | rfl<;>(cases f;decide +kernel)
def M0:Sp:=λh H Q _=>∃ (d c kn:Ad) (b:Aa Af),h=[.ref d,.ref kn]/\DeckAt H d c/\H kn=some (.l (b.map V.str))/\kn≠d/\kn≠c/\b.length<=100 /\
 ∀ (t q:Ad) (f:Af) (e:Aa Af) (a:Hp),H t=none->H q=none->a t=some (.t [.str f,.ref q])->a q=some (.t (e.map V.str))->ArOk f e.length->(∀ p∈e,p∈b)->DeckAt a d c->lW d c H a->Q (.ref t) a
section
variable {P:Ah}{K:lJ}
theorem vS:FnScope ["deck","known","word","many","parts","k","at"] ["deck","known"] (mG Fq):=⟨rfl,rfl,rfl,by decide +kernel,rfl,by decide +kernel,by decide +kernel⟩
theorem Zc (F:Fun K "_law_gate" "_law_gate" Fq f fd) (T:Txt mg) (g:Gd K mg "_law_take" tZ ["deck","many"] fT aw):FnOk P w K mg base nG 2 f fd ["deck","known"] M0:=by
 have GT:FnOk P w K mg base nG 1 fT aw ["deck","many"] zP:=Dg g.F T;refine F.ok vS (λvs H Q E h=>?_) (λa3 A ay s H vs Q E hr h=>?_)
 .obtain⟨d,c,kn,B,rfl,_⟩:=h;rfl
 .obtain⟨d,c,kn,B,rfl,D,ah,ac,ab,a5,k⟩:=h;have hu:=hr.units;refine wL (λN H1=>∃ M,N=[some (.ref d),some (.ref kn),some (.str M),none,none,none,none]/\M∈Ek/\DeckAt H1 d c/\lW d c H H1) (λu v=>?_) ?_
  .refine⟨_,@nU _ _ 2 _ _ _ _ vS.nd rfl (Or.inl rfl) (@oM _ _ _ _ _ _ _ pT (@oP _ _ _ _ (@vY _ [("and",_,_),("or",_,_),("odd",_,_),("most",_,_),("not",_,_),("one",_,_),("nil",_,_),("and",_,_),("odd",_,_),("most",_,_)])) (rJ GT hr rfl g.m g.k g.b .nil qR (lQ (pv 0) (lQ mL lY))) (λ_ _=>rfl)) (by rfl) (.inl rfl),?_⟩;refine⟨(by show 10<=sizeLine;decide),λp np=>⟨_,rfl,d,c,10,rfl,D.new np,by decide,by decide,λr H1 a0 a1 D1 k1=>?_⟩⟩;have G:=D.ned np;have h1:=k1 p _ lU G.1 G.2;obtain⟨M,O,hw⟩:=Fb (xs:=Ek) a0 (by exact a1);exact⟨p,_,_,.str M,rfl,rfl,gV.of h1,O,v _ _ ⟨M,rfl,hw,D1,(lW.new np).trans k1⟩⟩
  rintro N H1 ⟨M,rfl,hw,D1,k1⟩;refine wL (λN H2=>∃ n:Int,N=[some (.ref d),some (.ref kn),some (.str M),some (.int n),none,none,none]/\DeckAt H2 d c/\lW d c H H2) (λu v=>?_) ?_
  .refine⟨_,@nU _ _ 3 _ _ _ _ vS.nd rfl (Or.inl rfl) (@oM _ _ _ _ _ _ _ pT (@oP _ _ _ _ (@Fx _ [(2,_,_),(2,_,_),(2,_,_),(3,_,_),(1,_,_),(0,_,_),(0,_,_),(3,_,_),(3,_,_),(3,_,_)])) (rJ GT hr rfl g.m g.k g.b .nil qR (lQ (pv 0) (lQ mL lY))) (λ_ _=>rfl)) (by rfl) (.inl rfl),?_⟩;refine⟨(by show 10<=sizeLine;decide),λp np=>⟨_,rfl,d,c,10,rfl,D1.new np,by decide,by decide,λr H2 a0 a1 D2 k2=>?_⟩⟩;have G:=D1.ned np;have h2:=k2 p _ lU G.1 G.2;obtain⟨j,rfl⟩:=cQ a0;have hj:j<([2,2,2,3,1,0,0,3,3,3]:Aa Int).length:=by show j<10;omega
   have O:mQ (([2,2,2,3,1,0,0,3,3,3]:Aa Int).map V.int) ((j:Nat):Int)=some (V.int ([2,2,2,3,1,0,0,3,3,3]:Aa Int)[j]):=oA (by rw[aV,aJ hj];rfl);exact⟨p,_,_,_,rfl,rfl,gV.of h2,O,v _ _ ⟨_,rfl,D2,k1.trans ((lW.new np).trans k2)⟩⟩
  rintro N H2 ⟨n0,rfl,D2,k2⟩;refine wL (λN H3=>∃ n:Nat,N=[some (.ref d),some (.ref kn),some (.str M),some (.int n),none,none,none]/\ArOk M n/\n<=3/\DeckAt H3 d c/\lW d c H H3) (λu v=>?_) ?_
  .refine⟨_,yJ (uO Qd (pv 2) (@oP _ _ _ _ (@vY _ [("and",_,_),("or",_,_),("odd",_,_)])) rfl) (qZ (@nU _ _ 3 _ _ _ _ vS.nd rfl (Or.inl rfl) (@oM _ _ _ _ _ _ _ pT (@oP _ _ _ _ (@Fx _ [(2,_,_),(3,_,_)])) (mJ rB (pv 3) mL) (λ_ _=>rfl)) (by rfl) (.inl rfl))) (qZ (@nU _ _ 3 _ _ _ _ vS.nd rfl (Or.inl rfl) (@oM _ _ _ _ _ _ _ pT (@oP _ _ _ _ (@Fx _ [(3,_,_),(1,_,_),(0,_,_),(0,_,_)])) (xW aO PySem.F.slot_list_index PySem.F.type_list_index BG (@oP _ _ _ _ (@vY _ [("most",_,_),("not",_,_),("one",_,_),("nil",_,_)])) (lQ (pv 2) lY)) (λ_ _=>rfl)) (by rfl) (.inl rfl))),?_⟩;refine⟨_,rfl,(by show 3<=sizeLine;decide),λp np=>⟨p,uS.map V.str,rfl,.inl (gV.of lU),rfl,Ka _,_,rfl,?_⟩⟩;have D3:=D2.new (o:=.l (uS.map V.str)) np;have k3:=k2.trans (lW.new (d:=d) (c:=c) (o:=.l (uS.map V.str)) np);rw[Mi];refine xT (λhk=>?_) (λhk=>?_)
   .have aa:M∈uS:=dR hk;refine⟨(by show 2<=sizeLine;decide),λX L=>⟨_,rfl,_,_,rfl,rfl,(by show (0:Int)<2;decide),?_⟩⟩;have b0:=eQ n0 (show (2:Int)≠0 by decide);have b1:=dJ n0 (show (0:Int)<2 by decide);have I:=D3.new (o:=.l [V.int 2,V.int 3]) L;have U:=k3.trans (lW.new (d:=d) (c:=c) (o:=.l [V.int 2,V.int 3]) L);rcases (show n0%2=0\/n0%2=1 by omega) with e | e
    .exact⟨X,_,_,.int 2,rfl,rfl,gV.of lU,by rw[e];rfl,v _ _ ⟨2,rfl,⟨.inl ⟨aa,.inl rfl⟩⟩,by decide,I,U⟩⟩
    .exact⟨X,_,_,.int 3,rfl,rfl,gV.of lU,by rw[e];rfl,v _ _ ⟨3,rfl,⟨.inl ⟨aa,.inr rfl⟩⟩,by decide,I,U⟩⟩
   .have aa:M∉uS:=λz=>hk (cV z)
    obtain⟨j,n,hj,i1,i2,O,ho⟩:=Tz (Sg hw aa);refine⟨(by show 4<=sizeLine;decide),λX L=>⟨(by show 4<=sizeLine;decide),λp3 ao=>⟨.inl ⟨rfl,_,gV.of lU⟩,_,rfl,?_⟩⟩⟩;have I:=(D3.new (o:=.l (wP.map V.int)) L).new (o:=.l (tN.map V.str)) ao;have U:=(k3.trans (lW.new (d:=d) (c:=c) (o:=.l (wP.map V.int)) L)).trans (lW.new (d:=d) (c:=c) (o:=.l (tN.map V.str)) ao);refine⟨p3,tN.map V.str,.str M,j,rfl,rfl,gV.of lU,Ka _,rfl,hj,i1,i2,?_⟩;have h2:upd (upd (upd H2 p (.l (uS.map V.str))) X (.l (wP.map V.int))) p3 (.l (tN.map V.str)) X=some (.l (wP.map V.int)):=by rw[lO (mF lU ao)];exact lU
    refine⟨X,wP.map V.int,_,.int n,rfl,rfl,gV.of h2,O,v _ _ ⟨n,rfl,ho,?_,I,U⟩⟩;rcases ho.ok with⟨_,q | q⟩ | ⟨_,q⟩ | ⟨_,q⟩ | ⟨_,q⟩ | ⟨_,q⟩<;>omega
  rintro N H3 ⟨n,rfl,ho,hn,D3,k3⟩;have af:=k3 kn _ ah ac ab;refine wL (λN H4=>∃ a:Nat,N=[some (.ref d),some (.ref kn),some (.str M),some (.int n),none,none,none]/\0<B.length/\DeckAt H4 d c/\lW d c H H4) (λu v=>?_) ?_
  .refine⟨_,yJ (uO (Hu hu) (pv 1) (oP lY) (vE _)) (qZ (uX (B8 (lQ (oM pT (oP (lQ tS (lQ tS lY))) (mJ rB (pv 3) mL) (λ_ _=>rfl)) (lQ (B8 lY) lY))))) Az,?_⟩;refine⟨_,rfl,(by show 0<=sizeLine;decide),λp np=>?_⟩;have I:=D3.new (o:=.l []) np;have U:=k3.trans (lW.new (d:=d) (c:=c) (o:=.l []) np);have ar:upd H3 p (.l []) kn=some (.l (B.map V.str)):=by rw[lO (mF af np)];exact af
   refine⟨kn,p,_,rfl,rfl,gV.of ar,gV.of lU,_,rfl,?_⟩;refine xT (λhe=>?_) (λhe=>v _ _ ⟨0,rfl,?_,I,U⟩)
   .refine⟨(by show 2<=sizeLine;decide),λX L=>⟨_,rfl,_,_,rfl,rfl,(by show (0:Int)<2;decide),?_⟩⟩;have b0:=eQ (n:Int) (show (2:Int)≠0 by decide);have b1:=dJ (n:Int) (show (0:Int)<2 by decide);have D5:=I.new (o:=.l [V.str (Str.ofString "one"),V.str (Str.ofString "nil")]) L;have k5:=U.trans (lW.new (d:=d) (c:=c) (o:=.l [V.str (Str.ofString "one"),V.str (Str.ofString "nil")]) L);have fin:∀ w2:Af,ArOk w2 0->∀ q,upd (upd H3 p (.l [])) X (.l [V.str (Str.ofString "one"),V.str (Str.ofString "nil")]) q=none ->
      ∀ t,upd (upd (upd H3 p (.l [])) X (.l [V.str (Str.ofString "one"),V.str (Str.ofString "nil")])) q (.t []) t=none ->
      Q (.ref t) (upd (upd (upd (upd H3 p (.l [])) X (.l [V.str (Str.ofString "one"),V.str (Str.ofString "nil")])) q (.t [])) t (.t [.str w2,.ref q])):=by
     intro w2 ax q W t R;have D6:=D5.new (o:=.t []) W;have k6:=k5.trans (lW.new (d:=d) (c:=c) (o:=.t []) W);have Z:=D5.ned W;have C:=D6.ned R;exact k t q w2 [] _ (k6.free C.1 C.2 R) (k5.free Z.1 Z.2 W) lU (by rw[lO (mF lU R)];exact lU) ax (λp hp=>nomatch hp) (D6.new R) (k6.trans (lW.new R))
    rcases (show (n:Int)%2=0\/(n:Int)%2=1 by omega) with e | e
    .refine⟨X,_,_,.str "one",rfl,rfl,gV.of lU,by rw[e];rfl,(by show 0<=sizeLine;decide),λq W=>⟨(by show 2<=sizeLine;decide),λt R=>?_⟩⟩;exact fin "one" ⟨.inr (.inr (.inr (.inl ⟨rfl,rfl⟩)))⟩ q W t R
    .refine⟨X,_,_,.str "nil",rfl,rfl,gV.of lU,by rw[e];rfl,(by show 0<=sizeLine;decide),λq W=>⟨(by show 2<=sizeLine;decide),λt R=>?_⟩⟩;exact fin "nil" ⟨.inr (.inr (.inr (.inr ⟨rfl,rfl⟩)))⟩ q W t R
   .cases B with
    | nil=>simp at he
    | cons a r=>simp
  rintro N H4 ⟨_,rfl,a4,I,U⟩;refine⟨_,oC (nU (i:=4) vS.nd rfl (Or.inl rfl) (oP lY)) (oC (Ew dZ rfl (yW rfl T.range (lQ (pv 3) lY)) (wK (i:=5) vS.nd rfl (Or.inl rfl)) (oC (nU (i:=6) vS.nd rfl (Or.inl rfl) (oM pT (oP (lQ (rJ GT hr rfl g.m g.k g.b .nil qR (lQ (pv 0) (lQ (rY vV (by rfl) T.len bG (lQ (pv 1) lY)) lY))) (lQ (mJ sX (mJ sX (rY vV (by rfl) T.len bG (lQ (pv 1) lY)) mL) (rJ GT hr rfl g.m g.k g.b .nil qR (lQ (pv 0) (lQ (rY (Np rfl) (by rfl) T.min jO (lQ mL (lQ (rY vV (by rfl) T.len bG (lQ (pv 1) lY)) lY))) lY)))) lY))) (rJ GT hr rfl g.m g.k g.b .nil qR (lQ (pv 0) (lQ mL lY))) (λ_ _=>rfl))) (qZ (Ho (xW aO bB bC pF (pv 4) (lQ (oM pT (pv 1) (pv 6) (λ_ _=>rfl)) lY)))))) (qZ (uX (B8 (lQ (pv 2) (lQ (Fo tA (by rfl) T.tuple bQ (lQ (pv 4) lY)) lY)))))),?_⟩;refine⟨(by show 0<=sizeLine;decide),λl nl=>?_⟩;have an:=I.ned nl;have aq:H l=none:=U.free an.1 an.2 nl;have lk:l≠kn:=(mF ah aq).symm;refine⟨_,rfl,_,rfl,by omega,by omega,?_⟩;rw[cR];refine Jq (lo:=0) (n:=n) (λi N J=>∃ (S:Aa Af) (v5 v6:Ab V),N=[some (.ref d),some (.ref kn),some (.str M),some (.int n),some (.ref l),v5,v6]/\S.length=i/\(∀ p∈S,p∈B)/\J l=some (.l (S.map V.str))/\DeckAt J d c/\lW d c H J)
   ⟨[],none,none,rfl,rfl,(λp hp=>nomatch hp),lU,I.new nl,U.trans (lW.new nl)⟩ ?_ ?_
  .rintro i N J hi ⟨S,v5,v6,rfl,ai,ak,h5,D5,k5⟩;have Y:=k5 kn _ ah ac ab;have aj:(if ((B.map V.str).length:Int)<4 then ((B.map V.str).length:Int) else 4)=(if (B.length:Int)<4 then (B.length:Int) else 4):=by rw[aB]
   refine⟨_,rfl,_,rfl,kn,_,rfl,.inl (gV.of Y),d,c,_,rfl,D5,by rw[aB];omega,by rw[aB];omega,λr1 H6 a0 a1 D6 k6=>?_⟩;have ag:=k6 kn _ Y ac ab;refine⟨_,rfl,kn,_,rfl,.inl (gV.of ag),_,_,rfl,rfl,_,rfl,_,rfl,kn,_,rfl,.inl (gV.of ag),_,_,rfl,d,c,_,rfl,D6,?_,?_,λr2 H7 b0 b1 D7 k7=>?_⟩
   .rw[aj];split<;>omega
   .rw[aj];split<;>omega
   have a2:r2<B.length:=by
    rw[aj] at b1;split at b1<;>omega
   refine⟨_,_,rfl,rfl,(by show 2<=sizeLine;decide),λp np=>?_⟩;have D8:=D7.new (o:=.l [V.int r1,V.int (((B.map V.str).length:Int)-1-r2)]) np;refine⟨_,rfl,d,c,2,rfl,D8,by decide,by decide,λr3 H9 c0 c1 D9 k9=>?_⟩;have G:=D7.ned np;have h9:=k9 p _ lU G.1 G.2;have k8:lW d c J H9:=((k6.trans k7).trans (lW.new np)).trans k9;have au:=k8 kn _ Y ac ab;have ae:l≠d/\l≠c:=an;have av:=k8 l _ h5 ae.1 ae.2;rw[aB] at a1;have fin:∀ a:Int,0<=a->a<B.length->∃ x,mQ (B.map V.str) a=some (V.str x)/\x∈B:=λa g0 g1=>Fb g0 g1
   have go:∀ a:Int,0<=a->a<B.length->mQ [V.int r1,V.int (((B.map V.str).length:Int)-1-r2)] r3=some (V.int a)->Ca K (.ref p) (.int r3) H9 λx H1=>xD 6 x [some (.ref d),some (.ref kn),some (.str M),some (.int n),some (.ref l),some (.int (0+i)),v6] H1 λaz H' =>
     (Ri (Kb K "list" Kj (pR 4) (uJ (Au (Ca K) (pR 1) (pR 6)) uV))) { nx:=λN J=>∃ (S:Aa Af) (v5 v6:Ab V),N=[some (.ref d),some (.ref kn),some (.str M),some (.int n),some (.ref l),v5,v6]/\S.length=i+1/\(∀ p∈S,p∈B)/\J l=some (.l (S.map V.str))/\DeckAt J d c/\lW d c H J,rt:=Q } az H':=by
    intro a g0 g1 O;obtain⟨x,hx,hm⟩:=fin a g0 g1;refine⟨p,_,_,.int a,rfl,rfl,gV.of h9,O,_,rfl,.inl ⟨rfl,_,gV.of av⟩,_,rfl,_,rfl,kn,_,_,.str x,rfl,rfl,gV.of au,hx,l,_,.str x,rfl,rfl,av,?_,S++[x],_,_,rfl,by simp[ai],?_,?_,D9.upd_other ae.1 ae.2,?_⟩
    .rw[aB];exact aR (show S.length<1000 by omega) (by decide)
    .intro y hy;rcases aX.mp hy with q | q
     .exact ak y q
     .rw[aU.mp q];exact hm
    .rw[lU];simp
    .exact λb o e g1 g2=>by rw[lO (mF e aq)];exact (k5.trans k8) b o e g1 g2
   rcases (show r3=0\/r3=1 by omega) with e | e
   .exact go r1 a0 a1 (by rw[e];rfl)
   .exact go (((B.map V.str).length:Int)-1-r2) (by rw[aB];omega) (by rw[aB];omega) (by rw[e];rfl)
  .rintro N J ⟨S,v5,v6,rfl,ai,ak,h5,D5,k5⟩;refine⟨_,rfl,_,rfl,l,_,rfl,.inl ⟨gV.of h5,λq W=>⟨(by show 2<=sizeLine;decide),λt R=>?_⟩⟩⟩;have Z:=D5.ned W;have D6:=D5.new (o:=.t (S.map V.str)) W;have k6:=k5.trans (lW.new (d:=d) (c:=c) (o:=.t (S.map V.str)) W);have C:=D6.ned R;exact k t q M S _ (k6.free C.1 C.2 R) (k5.free Z.1 Z.2 W) lU (by rw[lO (mF lU R)];exact lU) (by rw[ai];exact ho) ak (D6.new R) (k6.trans (lW.new R))
end
structure Cel where
 ins:List Str
 gates:List (Str×Str×List Str)
 outs:List Str
def Cel.names (C:Cel):Aa Af:=C.ins++C.gates.map (·.1)
def FH (H:Hp) (a:Ad) (g:Af×Af×Aa Af):Prop:=∃ q,H a=some (.t [.str g.1,.str g.2.1,.ref q])/\H q=some (.t (g.2.2.map V.str))
abbrev HH (H:Hp):Aa Ad->Aa (Af×Af×Aa Af)->Prop:=Paired (FH H)
def nF:Aa Af->Aa (Af×Af×Aa Af)->Prop
 | _,[]=>True
 | kn,g::r=>ArOk g.2.1 g.2.2.length/\(∀ p∈g.2.2,p∈kn)/\nF (kn++[g.1]) r
theorem nF.snoc:∀ {j:Aa (Af×Af×Aa Af)}{kn:Aa Af}{g:Af×Af×Aa Af},nF kn j->ArOk g.2.1 g.2.2.length->(∀ p∈g.2.2,p∈kn++j.map (·.1))->nF kn (j++[g])
 | [],kn,g,_,b,c=>⟨b,by simpa using c,True.intro⟩
 | a::r,kn,g,h,b,c=>⟨h.1,h.2.1,nF.snoc h.2.2 b (by simpa using c)⟩
structure Good (C:Cel):Prop where
 nd:C.names.Nodup
 nm:∀ x∈C.names,GoodName x
 gt:nF C.ins C.gates
 os:∀ o∈C.outs,o∈C.names
 ond:C.outs.Nodup
 li:C.ins.length<=6
 lg:C.gates.length<=24
 lo:C.outs.length<=6
def As:RD:=λa b e=>∃ (d c:Ad) (m:Int),a=[d,c]/\b=[.r (.ref d),.int m]/\0<m/\m<4611686018427387904/\∀ r:Nat,(r:Int)<m->e (.v (.int r))
def Jw:RD:=λb e f=>∃ (d c:Ad) (m:Nat),b=[d,c]/\e=[.r (.ref d),.int m]/\m<=40/\∀ a:Aa Af,a.length=m->a.Nodup->(∀ x∈a,GoodName x)->f (.o (.l (a.map D.str)))
def R0:RD:=λf h i=>∃ (d c:Ad) (a:Aa Af),f=[d,c]/\h=[.r (.ref d),.l (a.map D.str)]/\a.length<=100/\∀ (e:Af) (b:Aa Af),ArOk e b.length->(∀ p∈b,p∈a)->i (.v (.t [.str e,.t (b.map D.str)]))
theorem Fk (h:Dk [d,c] H):DeckAt H d c:=by
 rcases h with h | ⟨b,a,e,h⟩
 .cases h
 .cases e;exact h
theorem J4 (k:lW d c H g):yF [d,c] H g:=λb o e n=>k b o e (λz=>n (by simp[z])) (λz=>n (by simp[z]))
theorem BH (D:DeckAt H d c) (h:H l=none):l∉[d,c]:=λz=>by
 have:=D.ned h;rcases aF.mp z with q | q
 .exact this.1 q
 .exact this.2 (by simpa using q)
section
variable {P:Ah}{K:lJ}
theorem HB (F:FnOk P w K g base nG k f fd j zP):FnOk P w K g base nG k f fd j (wW K As):=F.imp λN H Q E y=>by
 obtain⟨G,A,L,O,e,M,r,⟨d,c,m,s,t,u,v,h⟩,x⟩:=y;subst s t;cases r with
 | cons B r =>
  cases r with
  | cons D r =>
   cases r;have:=B.raw_inv;have:=D.int_inv;subst_vars;refine⟨d,c,m,rfl,Fk e,u,v,λr q a b i z=>?_⟩;obtain⟨n,rfl⟩:=cQ a;exact x _ _ q (h n b) (J4 z) (.inr ⟨d,c,rfl,i⟩) (.int _)
theorem Uy (F:FnOk P w K g base nG k f fd j N0):FnOk P w K g base nG k f fd j (wW K Jw):=F.imp λR H Q E z=>by
 obtain⟨M,A,N,S,a,O,r,⟨d,c,m,t,u,x,h⟩,y⟩:=z;subst t u;cases r with
 | cons G r =>
  cases r with
  | cons L r =>
   cases r;have:=G.raw_inv;have:=L.int_inv;subst_vars;exact⟨d,c,m,rfl,Fk a,x,λl n s i b e D v q B=>y _ _ s (h n e D v) (J4 B) (.inr ⟨d,c,rfl,q⟩) ⟨l,rfl,i,BH (Fk a) i,_,b,Fe n⟩⟩
theorem Xk (F:FnOk P w K j base nG k f fd g M0):FnOk P w K j base nG k f fd g (wW K R0):=F.imp λo H Q E O=>by
 obtain⟨X,A,Y,p,a,B,r,⟨d,c,e,s,u,v,b⟩,M⟩:=O;subst s u;cases r with
 | cons S r =>
  cases r with
  | cons V r =>
   cases r;have:=S.raw_inv;subst this;obtain⟨kn,l,rfl,D,G,W⟩:=V.lst_inv;have:=AW (K3 e) W;subst this;have h:=B kn D;refine⟨d,c,kn,e,rfl,Fk a,G,λz=>h (by simp[z]),λz=>h (by simp[z]),v,λt q i g n Z N x y ok L m R=>M _ _ n (b i g ok L) (J4 R) (.inr ⟨d,c,rfl,m⟩) ?_⟩;exact .t x (.cons (.str i) (.cons (.t y (Fe g)) .nil))
end
theorem yX (f:j->D) (g:Aa j) (k:Nat):nI (g.map f) none (some (k:Int))=(g.take k).map f:=by
 unfold nI;rw[aB,HT.sIx_none,HT.sIx_nat,List.drop_zero,jG,List.map_take];by_cases h:k<=g.length
 .rw[lH h]
 .rw[Nat.min_eq_right (by omega),bJ (by simp),bJ (by simp;omega)]
theorem Gc (f:j->D) (g:Aa j) (k:Nat):nI (g.map f) (some (k:Int)) none=(g.drop k).map f:=by
 unfold nI;rw[aB,HT.sIx_nat,HT.sIx_none,List.map_drop,bJ (by simp)];by_cases h:k<=g.length
 .rw[lH h]
 .rw[Nat.min_eq_right (by omega),List.drop_eq_nil_of_le (by simp),List.drop_eq_nil_of_le (by simp;omega)]
noncomputable def pB (g:Af×Af×Aa Af):D:=.t [.str g.1,.str g.2.1,.t (g.2.2.map D.str)]
def tT (C:Cel):D:=.t [.t (C.ins.map D.str),.t (C.gates.map pB),.t (C.outs.map D.str)]
def nQ (p:Af×Af):D:=.t [.str p.1,.str p.2]
def nH (C:Cel) (al:Aa (Af×Af)):D:=.t [tT C,.t (al.map nQ)]
structure GoodRow (C:Cel) (al:List (Str×Str)):Prop where
 good:Good C
 og:∀ o∈C.outs,o∈C.gates.map (·.1)
 n1:(al.map (·.1)).Nodup
 n2:(al.map (·.2)).Nodup
 mem:∀ p∈al,p.1∈C.outs/\p.2∈C.ins
 la:al.length<=4
def Mh:RD:=λe f h=>∃ (d c:Ad) (a b m:Nat),e=[d,c]/\f=[.r (.ref d),.int a,.int b,.int m]/\a<=6/\b<=24/\m<=4/\∀ C al,GoodRow C al->h (.v (nH C al))
theorem lP (I:Aa Sl->Prop) (o:∀ N:Aa Sl->Prop,(∀ g,I g->N g)->t l { j with nx:=N } r) (p:∀ g,I g->u l j g):E3 t u l j r:=o _ p
theorem vF (p:Aa D) (l:Aa Sl) (r:∀ J:Aa D->Aa Sl->Prop,J p l->ι I ρ J) (Pv:Nat->Aa Sl->Prop) (T:Pv 0 l)
  (U:∀ (i:Nat) d j,p[i]?=some d->Pv i j->g d j λC=>tb I { nx:=Pv (i+1),ct:=Pv (i+1),bk:=o.nx,rt:=o.rt } C) (hd:∀ j,Pv p.length j->o.nx j):Gg ι g tb I o ρ:=r _ ⟨Pv,T,U,hd⟩
theorem xK {j:Type}{f:j->D}{g:Aa j}{i:Nat}{d:D}(h:(g.map f)[i]?=some d):∃ y,g[i]?=some y/\f y=d:=by
 rw[aV] at h;cases e:g[i]? with
 | none=>rw[e] at h;cases h
 | some y=>rw[e] at h;exact⟨y,rfl,cA h⟩
theorem An {lo:Int}(h:(qL lo n)[i]?=some d):i<n/\d = .int (lo+i):=by
 unfold qL at h;rw[aV] at h;cases e:(List.range n)[i]? with
 | none=>rw[e] at h;cases h
 | some y =>
  rw[e] at h;obtain⟨a,b⟩:=aP.mp e;rw[bN] at a;rw[kK] at b;subst b;exact⟨a,(cA h).symm⟩
theorem Iz:∀ {l:Aa g}{n:Nat}{y:g},l[n]?=some y->l.Perm (y::l.eraseIdx n)
 | a::l,0,y,h=>by simp at h;subst h;exact .refl _
 | a::l,n+1,y,h=>by
  have:=Iz (l:=l) (n:=n) (y:=y) (by simpa using h);rw[jB];exact (this.cons a).trans (.swap y a _)
theorem Jt (g:left[n]?=some y) (j:(out++left).Nodup):((out++[y])++left.eraseIdx n).Nodup/\(∀ z,z∈(out++[y])++left.eraseIdx n->z∈out++left)/\(left.eraseIdx n).length+1=left.length:=by
 obtain⟨a,c⟩:=aP.mp g;have p:(out++left).Perm ((out++[y])++left.eraseIdx n):=by
  have q:left.Perm (y::left.eraseIdx n):=Iz g;rw[bP];exact q.append_left out
 refine⟨p.nodup_iff.mp j,λz b=>p.mem_iff.mpr b,?_⟩;rw[List.length_eraseIdx_of_lt a];omega
theorem J6 (f:g->j):∀ (l:Aa g) (n:Nat),(l.map f).eraseIdx n=(l.eraseIdx n).map f
 | [],_=>by simp
 | a::l,0=>rfl
 | a::l,n+1=>by rw[aZ,jB,jB,aZ,J6 f l n]
theorem C7 {n k:Nat}(h:k<n):seqIndex? (k:Int) n=some k:=by
 unfold seqIndex?;have:¬ ((k:Int)<0):=by omega
 simp[this,h]
section
variable {P:Ah}{K:lJ}
theorem pD {P:Aa Af}(a:j.kind = .function:=by rfl) (b:j.isCoroutine=false:=by rfl) (c:j.isGenerator=false:=by rfl) (d:N.Nodup:=by decide +kernel) (e:N.take P.length=P:=by rfl) (f:∀ x∈P,j.names.lookup x=some .local\/j.names.lookup x=some .cell:=by decide +kernel) (g:∀ y∈j.names,y.2 ≠ .free:=by decide +kernel):L2.FnScope N P j:=⟨a,b,c,d,e,f,g⟩
theorem rF:FnScope ["deck","inputs","gates","most","many","count","names","known","rows","name","left","outputs","k","outs","ins","along"] ["deck","inputs","gates","most"] (mG Dj):=pD
theorem Tc (T:Txt mg) (g:Kn P w K mg base 1 "_law_take" tZ ["deck","many"] As) (C:Kn P w K mg base 3 "_law_names" Ay ["deck","many"] Jw) (I:Kn P w K mg base 2 "_law_gate" Fq ["deck","known"] R0) :
  oR P w K mg base 4 "_law_row" Dj ["deck","inputs","gates","most"] Mh:=by
 refine pN rF λf ar A ao s H E dk ds Φ Y hu hR=>?_
 obtain⟨d,c,a,b,m,rfl,rfl,ha,hb,hm,an⟩:=hR;refine⟨_,(lK (mD 4 rF.nd (mI g Y (dK (eM 0) (dK (nZ mR mS 1 hI) dT)))) (lK (mD 5 rF.nd (mI g Y (dK (eM 0) (dK (nZ mR mS 2 hI) dT)))) (lK (mD 6 rF.nd (mI C Y (dK (eM 0) (dK (nZ mR mS 4 (eM 5)) dT)))) (lK (mD 7 rF.nd (sB sC sE (pv 6) sT (rL (eM 4)))) (lK (mD 8 rF.nd (mW dT)) (lK (sQ (nV (sB sC sE (pv 6) (rL (eM 4)) sT)) (mC 9 rF.nd) (lK (qJ (oX aO bB bC pF qH (pv 8) (dK (nC mR mS (oN (dK (eM 9) dT)) (mI I Y (dK (eM 0) (dK (eM 7) dT)))) dT))) (mN (mD 7 rF.nd (nZ mR mS 7 (mW (dK (eM 9) dT))))))) (lK (mD 10 rF.nd (sB sC sE (pv 6) (rL (eM 4)) sT)) (lK (mD 11 rF.nd (mW dT)) (lK (sQ (Av (by rfl) T.range (nD (Ls rfl) Qa T.min jO (dK (mI g Y (dK (eM 0) (dK hI dT))) (dK (nD pE oY T.len bG (qK (pv 10) dT)) dT)))) (mC 12 rF.nd) (mN (qJ (oX aO bB bC pF qH (pv 11) (dK (oX aO fO fP Bk Cd (pv 10) (dK (mI g Y (dK (eM 0) (dK (nD pE oY T.len bG (qK (pv 10) dT)) dT))) dT)) dT))))) (lK (mD 13 rF.nd (pL Cf Ft T.list gW (qK (pv 11) dT))) (lK (mD 14 rF.nd (sB sC sE (pv 6) sT (rL (eM 4)))) (lK (mD 15 rF.nd (mW dT)) (lK (sQ (Av (by rfl) T.range (nD (Ls rfl) Qa T.min jO (dK (mI g Y (dK (eM 0) (dK (nZ mR mS 3 hI) dT))) (dK (nD pE oY T.len bG (qK (pv 13) dT)) (dK (nD pE oY T.len bG (qK (pv 14) dT)) dT))))) (mC 12 rF.nd) (mN (qJ (oX aO bB bC pF qH (pv 15) (dK (oN (dK (oX aO fO fP Bk Cd (pv 13) (dK (mI g Y (dK (eM 0) (dK (nD pE oY T.len bG (qK (pv 13) dT)) dT))) dT)) (dK (oX aO fO fP Bk Cd (pv 14) (dK (mI g Y (dK (eM 0) (dK (nD pE oY T.len bG (qK (pv 14) dT)) dT))) dT)) dT))) dT))))) (mN (nT (oN (dK (oN (dK (pL tA tY T.tuple bQ (dK (sB sC sE (pv 6) sT (rL (eM 4))) dT)) (dK (pL tA tY T.tuple bQ (qK (pv 8) dT)) (dK (pL tA tY T.tuple bQ (qK (pv 11) dT)) dT)))) (dK (pL tA tY T.tuple bQ (qK (pv 15) dT)) dT)))))))))))))))))),?_⟩;refine⟨rfl,d,c,_,rfl,rfl,by omega,by omega,λk h1=>⟨.inl rfl,?_⟩⟩;refine⟨rfl,d,c,_,rfl,rfl,by omega,by omega,λZ h2=>⟨.inl rfl,?_⟩⟩;refine⟨rfl,d,c,k+Z,rfl,rfl,by omega,λu lx nd gn=>⟨.inl rfl,?_⟩⟩;refine⟨rfl,by decide,?_⟩;dsimp only;refine lP (λB=>∃ (e:Aa (Af×Af×Aa Af)) (s7 V:Sl),B=[.v (.r (.ref d)),.v (.int a),.v (.int b),.v (.int m),.v (.int k),.v (.int Z),.o (.l (u.map D.str)),s7,.o (.l (e.map pB)),V,.n,.n,.n,.n,.n,.n] /\ e.map (·.1)=u.drop k/\nF (u.take k) e) (λN hN=>?_) ?_
 .refine vF ((u.drop k).map D.str) [.v (.r (.ref d)),.v (.int a),.v (.int b),.v (.int m),.v (.int k),.v (.int Z),.o (.l (u.map D.str)),.o (.l ((u.take k).map D.str)),.o (.l []),.n,.n,.n,.n,.n,.n,.n] (λΨ h=>?_)
   (λi B=>∃ (e:Aa (Af×Af×Aa Af)) (V:Sl),B=[.v (.r (.ref d)),.v (.int a),.v (.int b),.v (.int m),.v (.int k),.v (.int Z),.o (.l (u.map D.str)),.o (.l ((u.take k++e.map (·.1)).map D.str)),.o (.l (e.map pB)),V,.n,.n,.n,.n,.n,.n] /\ e.map (·.1)=(u.drop k).take i/\nF (u.take k) e) ⟨[],.n,by simp,by simp,trivial⟩ ?_ ?_
  .rw[<- yX,<- Gc] at h;exact⟨rfl,h⟩
  .rintro i x B W ⟨e,V,rfl,O,ok⟩;obtain⟨y,hy,rfl⟩:=xK W;have ah:e.length<=40:=by have:=cN List.length O;simp only[aB,bR,dN] at this;omega
   refine⟨rfl,(by show 1<=1000;decide),d,c,u.take k++e.map (·.1),rfl,rfl,by simp;omega,λwd ps ak hp=>⟨.inl rfl,(by show 1+2<=100000;decide),(by show (e.map pB).length<100000;simp;omega),rfl,(by show 1<=1000;decide),(by show ((u.take k++e.map (·.1)).map D.str).length+1<=100000;simp;omega),e++[(y,wd,ps)],.v (.str y),?_,?_,ok.snoc ak hp⟩⟩
   .simp[pB]
   .rw[aY,O,dQ,hy];rfl
  .rintro B ⟨e,V,rfl,O,ok⟩;rw[aB,bJ (aL _)] at O;exact hN _ ⟨e,_,V,rfl,O,ok⟩
 rintro B ⟨e,s7,V,rfl,O,ok⟩;have ah:e.length=Z:=by have:=cN List.length O;simp only[aB,dN] at this;omega
 have ag:(e.map (·.1)).Nodup:=by rw[O];exact nd.sublist (List.drop_sublist _ _)
 refine⟨rfl,by decide,?_⟩;dsimp only;refine lP (λB=>∃ (os:Aa Af) (U t:Sl),B=[.v (.r (.ref d)),.v (.int a),.v (.int b),.v (.int m),.v (.int k),.v (.int Z),.o (.l (u.map D.str)),s7,.o (.l (e.map pB)),V,U,.o (.l (os.map D.str)),t,.n,.n,.n] /\ os.Nodup/\(∀ o∈os,o∈e.map (·.1))/\os.length<=6) (λN hN=>?_) ?_
 .refine⟨d,c,7,rfl,rfl,by decide,by decide,λk7 aj=>⟨.inl rfl,rfl,rfl,_,rfl,λq hq q1 q2=>?_⟩⟩;have J:q<=((nI (u.map D.str) (some (k:Int)) none).length:Nat):=q2;rw[Gc,<- O] at J |-;simp only[aB] at J;obtain⟨q,rfl⟩:∃ n:Nat,q=n:=⟨q.toNat,by rcases hq with z | z<;>omega⟩;obtain⟨G0,X⟩:∃ G0:Aa Af,G0=e.map (·.1):=⟨_,rfl⟩;refine⟨by omega,by omega,λi B=>∃ (os left:Aa Af) (t:Sl),B=[.v (.r (.ref d)),.v (.int a),.v (.int b),.v (.int m),.v (.int k),.v (.int Z),.o (.l (u.map D.str)),s7,.o (.l (e.map pB)),V,.o (.l (left.map D.str)),.o (.l (os.map D.str)),t,.n,.n,.n] /\
   (os++left).Nodup/\(∀ o∈os++left,o∈G0)/\os.length=i/\left.length+i=e.length,⟨[],G0,.n,by rw[X];rfl,by rw[X];exact ag,λo F=>F,rfl,by rw[X];simp⟩,?_,?_⟩
  .rintro i x B W ⟨os,left,t,rfl,M,L,ol,ll⟩;obtain⟨hi,rfl⟩:=An W;rw[cR] at hi;refine⟨rfl,rfl,rfl,rfl,_,rfl,d,c,_,rfl,rfl,(by show (0:Int)<((left.map D.str).length:Nat);simp;omega),(by show ((left.map D.str).length:Int)<4611686018427387904;simp;omega),λj hj=>⟨.inr rfl,?_⟩⟩;have Q:j<left.length:=by have:(j:Int)<((left.map D.str).length:Nat):=hj;simp at this;omega
   obtain⟨y,hy⟩:∃ y,left[j]?=some y:=⟨_,aJ Q⟩;obtain⟨p1,p2,p3⟩:=Jt hy M;refine⟨j,.str y,by omega,by omega,(by show seqIndex? _ (left.map D.str).length=_;rw[aB];exact C7 Q),(by show (left.map D.str)[j]?=_;rw[aV,hy];rfl),(by show (os.map D.str).length<100000;simp;omega),os++[y],left.eraseIdx j,.v (.int (0+(i:Int))),?_,p1,λo F=>L o (p2 o F),by simp[ol],by omega⟩;simp[J6]
  .rintro B ⟨os,left,t,rfl,M,L,ol,ll⟩;exact hN _ ⟨os,_,t,rfl,(bK.mp M).1,λo F=>by have:=L o (aW _ F);rw[X] at this;exact this,by rw[ol];simp[qL];omega⟩
 rintro B ⟨os,U,t,rfl,M,L,ol⟩;refine⟨rfl,_,rfl,rfl,by decide,?_⟩;dsimp only;have aq:(u.take k).Nodup:=nd.sublist (List.take_sublist _ _);have tl:(u.take k).length=k:=by simp;omega
 refine lP (λB=>∃ (al:Aa (Af×Af)) (t ae af:Sl),B=[.v (.r (.ref d)),.v (.int a),.v (.int b),.v (.int m),.v (.int k),.v (.int Z),.o (.l (u.map D.str)),s7,.o (.l (e.map pB)),V,U,.o (.l (os.map D.str)),t,ae,af,.o (.l (al.map nQ))] /\ (al.map λp=>p.1).Nodup/\(al.map λp=>p.2).Nodup/\(∀ p∈al,p.1∈os/\p.2∈u.take k)/\al.length<=4) (λN hN=>?_) ?_
 .refine⟨rfl,d,c,_,rfl,rfl,by omega,by omega,λk7 aj=>⟨.inl rfl,rfl,rfl,_,rfl,rfl,rfl,_,rfl,λq hq q1 q2 q3=>?_⟩⟩;have ac:q<=((nI (u.map D.str) none (some (k:Int))).length:Nat):=q3;have J:q<=((os.map D.str).length:Nat):=q2;rw[yX] at ac |-;rw[aB] at ac J;obtain⟨q,rfl⟩:∃ n:Nat,q=n:=⟨q.toNat,by rcases hq with z | z | z<;>omega⟩;refine⟨by omega,by omega,λi B=>∃ (al:Aa (Af×Af)) (ol G:Aa Af) (t:Sl),B=[.v (.r (.ref d)),.v (.int a),.v (.int b),.v (.int m),.v (.int k),.v (.int Z),.o (.l (u.map D.str)),s7,.o (.l (e.map pB)),V,U,.o (.l (os.map D.str)),t,.o (.l (ol.map D.str)),.o (.l (G.map D.str)),.o (.l (al.map nQ))] /\
   ((al.map λp=>p.1)++ol).Nodup/\((al.map λp=>p.2)++G).Nodup/\(∀ o∈(al.map λp=>p.1)++ol,o∈os)/\(∀ o∈(al.map λp=>p.2)++G,o∈u.take k)/\al.length=i/\ol.length+i=os.length/\G.length+i=(u.take k).length,
   ⟨[],os,u.take k,_,rfl,M,aq,λo F=>F,λo F=>F,rfl,by simp,by simp⟩,?_,?_⟩
  .rintro i x B W ⟨al,ol,G,t,rfl,R,S,m1,m2,la,lo,li⟩;obtain⟨hi,rfl⟩:=An W;rw[cR] at hi;refine⟨rfl,rfl,rfl,rfl,_,rfl,d,c,_,rfl,rfl,(by show (0:Int)<((ol.map D.str).length:Nat);simp;omega),(by show ((ol.map D.str).length:Int)<4611686018427387904;simp;omega),λj hj=>⟨.inr rfl,?_⟩⟩;have Q:j<ol.length:=by have:(j:Int)<((ol.map D.str).length:Nat):=hj;simp at this;omega
   obtain⟨y,hy⟩:∃ y,ol[j]?=some y:=⟨_,aJ Q⟩;obtain⟨p1,p2,p3⟩:=Jt hy R;refine⟨j,.str y,by omega,by omega,(by show seqIndex? _ (ol.map D.str).length=_;rw[aB];exact C7 Q),(by show (ol.map D.str)[j]?=_;rw[aV,hy];rfl),?_⟩;refine⟨rfl,rfl,rfl,_,rfl,d,c,_,rfl,rfl,(by show (0:Int)<((G.map D.str).length:Nat);simp;omega),(by show ((G.map D.str).length:Int)<4611686018427387904;simp;omega),λj2 ai=>⟨.inr rfl,?_⟩⟩;have aa:j2<G.length:=by have:(j2:Int)<((G.map D.str).length:Nat):=ai;simp at this;omega
   obtain⟨y2,ab⟩:∃ y,G[j2]?=some y:=⟨_,aJ aa⟩;obtain⟨p4,p5,p6⟩:=Jt ab S;refine⟨j2,.str y2,by omega,by omega,(by show seqIndex? _ (G.map D.str).length=_;rw[aB];exact C7 aa),(by show (G.map D.str)[j2]?=_;rw[aV,ab];rfl),(by show 2<=1000;decide),(by show (al.map nQ).length<100000;simp;omega),al++[(y,y2)],ol.eraseIdx j,G.eraseIdx j2,.v (.int (0+(i:Int))),?_,by simpa using p1,by simpa using p4,λo F=>m1 o (p2 o (by simpa using F)),λo F=>m2 o (p5 o (by simpa using F)),by simp[la],by omega,by omega⟩;simp[nQ,J6]
  .rintro B ⟨al,ol,G,t,rfl,R,S,m1,m2,la,lo,li⟩;refine hN _ ⟨al,_,_,_,rfl,(bK.mp R).1,(bK.mp S).1,λp hp=>⟨m1 _ (aW _ (aG.mpr ⟨p,hp,rfl⟩)),m2 _ (aW _ (aG.mpr ⟨p,hp,rfl⟩))⟩,?_⟩;rw[la];simp[qL];omega
 rintro B ⟨al,t,ae,af,rfl,R,S,am,la⟩;have fin:=an ⟨u.take k,e,os⟩ al ⟨⟨?_,?_,ok,λo F=>?_,M,?_,?_,ol⟩,L,R,S,am,la⟩
 .unfold nH tT at fin;dsimp only at fin;rw[<- yX] at fin;exact⟨rfl,rfl,rfl,(by show 3<=1000;decide),rfl,(by show 2<=1000;decide),fin⟩
 .show (u.take k++e.map (·.1)).Nodup;rw[O,hX];exact nd
 .intro x W;have W:x∈u.take k++e.map (·.1):=W;rw[O,hX] at W;exact gn x W
 .exact aI _ (L o F)
 .show (u.take k).length<=6;omega
 .show e.length<=24;omega
end
def O9:RD:=λc a b=>∃ C al,a=[nH C al]/\al.length<=100/\b (.o (.l (al.map λp=>D.str p.2)))
def Jz:RD:=λc a b=>∃ C al,a=[nH C al]/\al.length<=100/\b (.o (.l (List.replicate (al.length+1) (D.int 0))))
def Q2:RD:=λc a b=>∃ (C:Cel) (cr:mX),a=[tT C,.k (hO cr)]/\Good C/\(∀ x,0<=look cr x)/\b (.v (.k (hO (tbl C.ins C.gates (look cr)))))
def qP (cr:mX) (e:Int):D:=.l ((cr.map λp=>D.int p.2)++[.int e])
def Ia:RD:=λc a b=>∃ (C:Cel) (al:Aa (Af×Af)) (cr:mX) (e:Int),a=[nH C al,qP cr e]/\GoodRow C al/\cr.map (·.1)=al.map (·.2)/\(∀ x,0<=look cr x)/\b (.o (qP (sG al (tbl C.ins C.gates (look cr))) (mx (C.outs.map (look (tbl C.ins C.gates (look cr)))))))
def oZ (C:Cel) (al:Aa (Af×Af)) (i:Nat):Int:=Mx C.ins C.gates al C.outs i
def nB (C:Cel) (al:Aa (Af×Af)):Nat->Int
 | 0=>0
 | i+1=>oZ C al i
def P4:RD:=λc a b=>∃ (C:Cel) (al:Aa (Af×Af)) (w:Nat),a=[nH C al,.int w]/\GoodRow C al/\w<=20000/\b (.o (.l ((List.range (w+1)).map λi=>D.int (nB C al i))))
theorem Io:∀ {gs:oU}{kn:Aa Af}{i:Nat}{g:Af×Af×Aa Af},nF kn gs->gs[i]?=some g->ArOk g.2.1 g.2.2.length/\∀ p∈g.2.2,p∈kn++(gs.take i).map (·.1)
 | a::r,kn,0,g,h,e=>by
  simp at e;subst e;exact⟨h.1,by simpa using h.2.1⟩
 | a::r,kn,i+1,g,h,e=>by
  obtain⟨b,c⟩:=Io (gs:=r) (i:=i) h.2.2 (by simpa using e);exact⟨b,λp d=>by have:=c p d;simpa using this⟩
theorem Mc (t:mX) (g:Aa Af):rT (g.map λo=>D.int (look t o))=some (g.map (look t)):=by
 have:=yZ (g.map (look t))
 rwa [bI] at this
theorem Ry:(["output","name"]:Aa Af).Nodup:=by decide +kernel
theorem AH:(["name","carried"]:Aa Af).Nodup:=by decide +kernel
theorem Yf:(["other","lates"]:Aa Af).Nodup:=by decide +kernel
section
variable {P:Ah}{K:lJ}
theorem EK:FnScope ["row"] ["row"] (mG Fv):=pD
theorem Xz (T:Txt g):oR P w K g base 1 "carried_inputs" Fv ["row"] O9:=by
 refine pN EK λf c A b s H E u x D z q m=>?_
 obtain⟨C,al,rfl,y,a⟩:=m;refine⟨_,(mN (nT (pV ["output","name"] [] [] (nV (lV q 0 hI)) (λ_ _ _ _ _=>(sK (n:=2) rfl (nP (mC 0 Ry) (nP (mC 1 Ry) sY)))) (λ_ _ _ _ _=>(eM 1))))),?_⟩;exact oO al nQ (λp=>.str p.2) [.v (nH C al)] (λF h=>⟨rfl,_,rfl,h⟩) (by omega) (λi p B t e d k=>⟨rfl,rfl,d,k⟩) a
theorem Xg:FnScope ["row"] ["row"] (mG zR):=pD
theorem GR (T:Txt g):oR P w K g base 1 "at_edges" zR ["row"] Jz:=by
 refine pN Xg λf c A b s H E k m u t h d=>?_
 obtain⟨C,al,rfl,q,a⟩:=d;refine⟨_,(mN (nT (nC wZ xS (mW (dK hI dT)) (nC mR mS (nD pE oY T.len bG (dK (lV h 0 hI) dT)) hI)))),?_⟩;refine⟨(by show 1<=1000;decide),rfl,_,rfl,rfl,_,rfl,?_⟩;refine⟨by show (0:Int)<=((al.map nQ).length:Nat)+1;omega,by show (((al.map nQ).length:Nat):Int)+1<=1000;rw[aB];omega,by show 1<=100;decide,?_⟩;have e:(List.replicate ((((al.map nQ).length:Nat):Int)+1).toNat [D.int 0]).flatten=List.replicate (al.length+1) (D.int 0):=by
  rw[aB,show ((al.length:Int)+1).toNat=al.length+1 by omega];generalize al.length+1=n;induction n with
  | zero=>rfl
  | succ n i=>rw[cB,fB,i];rfl
 rw[<- e] at a;exact a
theorem Bo:FnScope ["cell","carried","lates","name","word","names"] ["cell","carried"] (mG C4):=pD
theorem Vh (T:Txt mg):oR P w K mg base 1 "told_lates" C4 ["cell","carried"] Q2:=by
 refine pN Bo λf r A W s H E dk ds Φ hr B U=>?_
 obtain⟨C,cr,rfl,c,J,V⟩:=U;refine⟨_,(lK (mD 2 Bo.nd (pL (Ig rfl) Ja T.dict jH (dK (pV ["name"] ["carried"] [1] (nV (lV B 0 hI)) (λ_ _ _ _ _=>(mC 0 AH)) (λ_ _ _ _ _=>(oN (dK (eM 0) (dK (Mp B (pv 1) (eM 0) hI) dT))))) dT))) (lK (sQ (nV (lV B 0 hI)) (sK (n:=3) rfl (nP (mC 3 Bo.nd) (nP (mC 4 Bo.nd) (nP (mC 5 Bo.nd) sY)))) (mN (Aj (n:=2) B (nC mR mS hI (Q8 rfl (by rfl) T.max (pV ["other"] ["lates"] [2] (nV (eM 5)) (λ_ _ _ _ _=>(mC 0 Yf)) (λ_ _ _ _ _=>(lV B 1 (eM 0)))) (tX hI))) (pv 2) (eM 3)))) (mN (nT (eM 2))))),?_⟩;unfold E3 qQ dC aC;refine oO C.ins D.str (λn=>.t [.str n,.int (look cr n)]) [.v (tT C),.v (.k (hO cr)),.n,.n,.n,.n] (λl h=>⟨rfl,_,rfl,h⟩) (by have:=c.li;omega) (λi n ys p e M y=>?_) ?_
 .rw[<- P8] at y;exact⟨rfl,_,rfl,by show 2<=1000;decide,M,y⟩
 have u:C.ins.Nodup:=(bK.mp c.nd).1;have I:vR (C.ins.map λn=>D.t [.str n,.int (look cr n)])=some (hO (C.ins.map λn=>(n,look cr n))):=by
  rw[Jn (g:=λn=>((Sum.inr n:lL),D.int (look cr n))) (λn=>⟨.str n,rfl,rfl⟩)];simp[hO]
 refine⟨_,I,by simp[hO];have:=c.li;omega,?_⟩;rw[Cp (by simpa [bZ] using u)];dsimp only;refine vF (C.gates.map pB) [.v (tT C),.v (.k (hO cr)),.o (.k (hO (C.ins.map λn=>(n,look cr n)))),.n,.n,.n] (λl h=>⟨rfl,_,rfl,h⟩)
  (λi X=>∃ F G L:Sl,X=[.v (tT C),.v (.k (hO cr)),.o (.k (hO (tbl C.ins (C.gates.take i) (look cr)))),F,G,L]) ⟨.n,.n,.n,by simp[tbl]⟩ ?_ ?_
 .rintro i x X hx ⟨F,G,L,rfl⟩;obtain⟨g,d,rfl⟩:=xK hx;obtain⟨O,S⟩:=Io c.gt d;have N:=Er C.ins (C.gates.take i) (look cr);have z:=yK (ins:=C.ins) (gs:=C.gates.take i) J;have b:g.1∉(tbl C.ins (C.gates.take i) (look cr)).map (·.1):=by
   rw[N];have Z:(C.ins++C.gates.map (·.1)).Nodup:=c.nd;intro q;have e:C.gates=C.gates.take i++g::C.gates.drop (i+1):=by
    obtain⟨hi,rfl⟩:=aP.mp d;rw[List.getElem_cons_drop,hX]
   rw[e,aY,<- bP] at Z;exact (bK.mp Z).2.2 g.1 q g.1 (by simp) rfl
  have step:tbl C.ins (C.gates.take (i+1)) (look cr)=tbl C.ins (C.gates.take i) (look cr)++[(g.1,mx (g.2.2.map λo=>1+look (tbl C.ins (C.gates.take i) (look cr)) o))]:=by
   unfold tbl;rw[dQ,d,kQ];rfl
  generalize hT:tbl C.ins (C.gates.take i) (look cr)=t at N z b step |-;refine⟨rfl,rfl,?_⟩;unfold Ix d2 cd Hh;dsimp only;refine oO g.2.2 D.str (λo=>.int (look t o)) [.v (tT C),.v (.k (hO cr)),.o (.k (hO t)),.v (.str g.1),.v (.str g.2.1),.v (.t (g.2.2.map D.str))] (λl h=>h) (by rcases O with q | q | q<;>omega) (λj o ys p e M y=>?_) ?_
  .refine⟨rfl,.int (look t o),?_,M,y⟩;have:=(vZ t o).1 (by rw[N];exact S o (aT e));show some (pG (hO t) (Sum.inr o))=_;rw[this]
  .have fin:∀ m:Int,m=mx (g.2.2.map λo=>1+look t o)->∃ Y,uC (.k (hO t)) (.str g.1) (.int m)=some Y/\∃ F G L:Sl,[.v (tT C),.v (.k (hO cr)),.o Y,.v (.str g.1),.v (.str g.2.1),.v (.t (g.2.2.map D.str))]=[.v (tT C),.v (.k (hO cr)),.o (.k (hO (tbl C.ins (C.gates.take (i+1)) (look cr)))),F,G,L]:=λm Q=>by
    refine⟨.k (hO (t++[(g.1,m)])),?_,_,_,_,by rw[step,Q]⟩;have:(hO t).length<100000:=by
     have:=cN List.length N;simp only[aB,bL,bR] at this;have M:=c.li;have y:=c.lg;simp[hO];omega
    simp only[uC,bA this];show some (D.k (pM (hO t) (Sum.inr g.1) (.int m)))=_;rw[Ii b]
   refine⟨_,Mc t g.2.2,λe=>?_,λm Q hh=>?_⟩
   .refine⟨rfl,fin _ ?_⟩;rw[List.map_eq_nil_iff.mp e];rfl
   .refine⟨rfl,fin _ ?_⟩;obtain⟨o,ho,rfl⟩:=aG.mp Q;have:=z o;refine yN (.inr (aG.mpr ⟨o,ho,rfl⟩)) (by omega) λa ha=>?_
    obtain⟨o',R,rfl⟩:=aG.mp ha;have:=hh _ (aG.mpr ⟨o',R,rfl⟩);omega
 .rintro X ⟨F,G,L,rfl⟩;rw[aB,bJ (aL _)];exact V
end
theorem X4 (al:Aa (Af×Af)):vD (al.map λp=>D.str p.2)=some (al.map λp=>(Sum.inr p.2:lL)):=by
 have:=Jl (al.map (·.2))
 simpa [bZ] using this
theorem Oh (e:Int):∀ cr:mX,((cr.map λp=>(Sum.inr p.1:lL))).zip ((cr.map λp=>D.int p.2)++[.int e])=hO cr
 | []=>rfl
 | p::cr=>by
  rw[aZ,aZ,cX,cU,Oh e cr];rfl
theorem Zg {al:Aa (Af×Af)}(e:Int) (h:cr.map (·.1)=al.map (·.2)):(al.map λp=>(Sum.inr p.2:lL)).zip ((cr.map λp=>D.int p.2)++[.int e])=hO cr:=by
 rw[<- Oh e cr]
 congr 1
 have:=cN (List.map (Sum.inr:Af->lL)) h
 simpa [bZ] using this.symm
theorem Ra:mQ (g++[a]) (-1)=some a:=by
 have e:rC (g++[a]).length (-1)=some g.length:=by
  unfold rC;rw[bF (by decide),bL,hV,bA (by omega)]
  congr 1;omega
 unfold mQ;rw[e];simp
theorem E4 (f:Nat->g) (i:Nat):mQ ((List.range (i+1)).map f) (-1)=some (f i):=by
 rw[eR,aY];exact Ra
theorem Rb:(["output","name","lates"]:Aa Af).Nodup:=by decide +kernel
theorem Vc:(["name","lates"]:Aa Af).Nodup:=by decide +kernel
theorem Vk:(["state"]:Aa Af).Nodup:=by decide +kernel
section
variable {P:Ah}{K:lJ}
theorem B3:FnScope ["row","state","carried","lates","onward"] ["row","state"] (mG zI):=pD
theorem Tw (T:Txt r) (g:Kn P w K r base 1 "carried_inputs" Fv ["row"] O9) (j:Kn P w K r base 1 "told_lates" C4 ["cell","carried"] Q2)
: oR P w K r base 2 "one_cell_more" zI ["row","state"] Ia:=by
 refine pN B3 λf R A L s H E I J Y O d S=>?_
 obtain⟨C,al,cr,e,rfl,c,N,M,b⟩:=S;have W:=c.la;refine⟨_,(lK (mD 2 B3.nd (Vl rfl (by rfl) T.dict (by rfl) T.zip (dK (mI g O (dK (eM 0) dT)) (dK (eM 1) dT)))) (lK (mD 3 B3.nd (mI j O (dK (lV d 0 hI) (dK (eM 2) dT)))) (lK (uW 4 ["output","name"] ["lates"] [3] B3.nd (nV (lV d 0 hI)) (λ_ _ _ _ _=>(sK (n:=2) rfl (nP (mC 0 Rb) (nP (mC 1 Rb) sY)))) (λ_ _ _ _ _=>(lV d 2 (eM 0)))) (mN (nT (nZ mR mS 4 (mW (dK (Q8 rfl (by rfl) T.max (pV ["name"] ["lates"] [3] (nV (zT d (lV d 0 hI) hI)) (λ_ _ _ _ _=>(mC 0 Vc)) (λ_ _ _ _ _=>(lV d 1 (eM 0)))) hI) dT)))))))),?_⟩;refine⟨C,al,rfl,by omega,.inl rfl,_,X4 al,by rw[aB];omega,?_⟩;rw[Zg e N,Cp (by rw[N];exact c.n2)];refine⟨rfl,_,rfl,C,cr,rfl,c.good,M,.inl rfl,?_⟩;have a:=Er C.ins C.gates (look cr);have u:=yK (ins:=C.ins) (gs:=C.gates) M;generalize tbl C.ins C.gates (look cr)=t at a u b |-;have G:∀ o∈C.outs,o∈t.map (·.1):=λo y=>by rw[a];exact aI _ (c.og o y)
 have q:∀ o∈C.outs,vC (.k (hO t)) (.str o)=some (some (.int (look t o))):=λo y=>by
  show some (pG (hO t) (Sum.inr o))=_;rw[(vZ t o).1 (G o y)]
 dsimp only;unfold E3 qQ Eo xB Hh Fa aC;dsimp only;refine oO al nQ (λp=>.int (look t p.1)) [.v (nH C al),.v (qP cr e),.v (.k (hO cr)),.v (.k (hO t)),.n] (λZ h=>⟨rfl,_,rfl,h⟩) (by omega) (λi p X Q e B F=>⟨rfl,rfl,rfl,_,q p.1 (c.mem p (aT e)).1,B,F⟩) ?_;refine⟨rfl,?_⟩;refine oO C.outs D.str (λo=>.int (look t o)) [.v (nH C al),.v (qP cr e),.v (.k (hO cr)),.v (.k (hO t)),.o (.l (al.map λ(p:Af×Af)=>.int (look t p.1)))] (λZ h=>⟨rfl,_,rfl,_,rfl,h⟩) (by have:=c.good.lo;omega) (λi o X Q e B F=>⟨rfl,_,q o (aT e),B,F⟩) ?_;have fin:∀ m:Int,m=mx (C.outs.map (look t))->[D.int m].length<=1000/\(al.map λp=>D.int (look t p.1)).length+[D.int m].length<=100000/\Y (.o (.l ((al.map λp=>D.int (look t p.1))++[D.int m]))):=λm x=>by
  refine⟨by show 1<=1000;decide,by rw[aB];show al.length+1<=100000;omega,?_⟩;rw[<- x] at b;unfold qP sG at b;rw[bI] at b;exact b
 refine⟨_,Mc t C.outs,λz=>fin 0 (by rw[List.map_eq_nil_iff.mp z];rfl),λm x V=>fin m ?_⟩;have:0<=m:=by
  obtain⟨o,y,rfl⟩:=aG.mp x;exact u o
 exact yN (.inr x) this V
theorem Hn:FnScope ["row","width","states","place"] ["row","width"] (mG C5):=pD
theorem Vw (T:Txt p) (j:Kn P w K p base 1 "at_edges" zR ["row"] Jz) (g:Kn P w K p base 2 "one_cell_more" zI ["row","state"] Ia)
: oR P w K p base 3 "lates_to" C5 ["row","width"] P4:=by
 refine pN Hn λf u A d s H E R S X m q F=>?_
 obtain⟨C,al,w,rfl,k,hw,c⟩:=F;have G:=k.la;refine⟨_,(lK (mD 2 Hn.nd (mW (dK (mI j m (dK (eM 0) dT)) dT))) (lK (sQ (Av (by rfl) T.range (eM 1)) (mC 3 Hn.nd) (mN (qJ (oX aO bB bC pF qH (pv 2) (dK (mI g m (dK (eM 0) (dK (lV q 2 (tX hI)) dT))) dT))))) (mN (nT (pV ["state"] [] [] (nV (eM 2)) (λ_ _ _ _ _=>(mC 0 Vk)) (λ_ _ _ _ _=>(lV q 0 (tX hI)))))))),?_⟩;refine⟨C,al,rfl,by omega,.inl rfl,by show 1<=1000;decide,?_⟩;dsimp only;refine lP (λb=>∃ a:Sl,b=[.v (nH C al),.v (.int w),.o (.l ((List.range (w+1)).map λi=>qP (Cr C.ins C.gates al i) (nB C al i))),a]) (λN B=>?_) ?_
 .refine vF (qL 0 w) [.v (nH C al),.v (.int w),.o (.l [.l (List.replicate (al.length+1) (D.int 0))]),.n] (λO h=>⟨by omega,by omega,h⟩)
   (λi b=>∃ a:Sl,b=[.v (nH C al),.v (.int w),.o (.l ((List.range (i+1)).map λi=>qP (Cr C.ins C.gates al i) (nB C al i))),a]) ⟨.n,?_⟩ ?_ ?_
  .have:D.l (List.replicate (al.length+1) (D.int 0))=qP (Cr C.ins C.gates al 0) (nB C al 0):=by
    unfold qP Cr nB;rw[bI,List.replicate_succ']
    congr 2
    generalize al=t;induction t with
    | nil=>rfl
    | cons x t M=>rw[bT,cB,M];rfl
   rw[this];rfl
  .rintro i x b L ⟨a,rfl⟩;obtain⟨V,rfl⟩:=An L;refine⟨rfl,rfl,_,E4 _ i,C,al,_,_,rfl,k,B1 i,B2 i,.inl rfl,by show ((List.range (i+1)).map _).length<100000;simp;omega,.v (.int (0+(i:Int))),?_⟩;rw[eR (n:=i+1),aY];rfl
  .rintro b ⟨a,rfl⟩;refine B _ ⟨a,?_⟩;simp[qL]
 .rintro b ⟨a,rfl⟩;unfold Eo;refine oO (List.range (w+1)) (λi=>qP (Cr C.ins C.gates al i) (nB C al i)) (λi=>.int (nB C al i)) _ (λO h=>h) (by rw[bN];omega) (λi o W Q e y z=>⟨rfl,_,Ra,y,z⟩) c
end
end Lw
namespace Lw
section
variable {L:Nat->Int}{s W r:Nat}{a b:Int}
theorem yB (h:∀ k,s<=k->L (k+W)=L k+a):∀ (n k:Nat),s<=k->L (k+n*W)=L k+n*a
 | 0,k,_=>by simp
 | n+1,k,i=>by
  have e:=yB h n k i;have f:=h (k+n*W) (by omega);have c:k+(n+1)*W=k+n*W+W:=by rw[gF,gG];omega
  have d:((n+1:Nat):Int)*a=n*a+a:=by rw[gZ,Int.add_mul];simp
  rw[c,f,e,d];omega
theorem Ps (g:0<W) (h:∀ k,s<=k->L (k+W)=L k+a) (j:∀ k,s<=k->k<s+W->L (k+r)-L k=b) (k:Nat) (l:s<=k):L (k+r)=L k+b:=by
 have e:=Nat.div_add_mod (k-s) W;have lt:=Nat.mod_lt (k-s) g;rw[kA] at e;have c:=yB h ((k-s)/W) (s+(k-s)%W) (by omega);have d:=yB h ((k-s)/W) (s+(k-s)%W+r) (by omega);have f:=j (s+(k-s)%W) (by omega) (by omega);rw[show s+(k-s)%W+(k-s)/W*W=k by omega] at c;rw[show s+(k-s)%W+r+(k-s)/W*W=k+r by omega] at d;omega
theorem DA {K:Nat}(j:0<W) (h:∀ k,s<=k->L (k+W)=L k+a) (p:0<t) (g:∀ k,K<=k->L (k+t)=L k+e) (o:∀ k,K<=k->k<K+t->L (k+q)-L k=c) (k:Nat) (l:s<=k):L (k+q)=L k+c:=by
 have f:=yB h K k l;have d:=yB h K (k+q) (by omega);have big:K<=k+K*W:=by have:=Nat.le_mul_of_pos_right K j;omega
 have i:=Ps p g o (k+K*W) big;rw[show k+q+K*W=k+K*W+q by omega] at d;omega
end
section
variable {F:(Nat->Int)->Nat->Int}
structure Gst (T:Nat->List (Nat×Int)) (F:(Nat->Int)->Nat->Int):Prop where
 le:∀ x i p,p∈T i->x p.1+p.2<=F x i
 hit:∀ x i,∃ p,p∈T i/\F x i=x p.1+p.2
theorem Gst.steady (G:Gst T F){x y:Nat->Int}{t:Int}{i:Nat}(g:∀ p∈T i,0<=x p.1+p.2) (l:F x i<t) (e:F (λj=>x j+t*y j) i=F x i+t*y i) (n:Nat):F (λj=>x j+n*y j) i=F x i+n*y i:=by
 have v:0<t:=by
  obtain⟨p,a,d⟩:=G.hit x i;have:=g p a;omega
 have low:∀ p∈T i,y p.1<=y i:=λp a=>cI λz=>by
  have b:=G.le (λj=>x j+t*y j) i p a;have k:=g p a;have f:t*(y i+1)<=t*y p.1:=bU (by omega) (by omega);rw[fJ,Int.mul_one] at f;have b:x p.1+t*y p.1+p.2<=F (λj=>x j+t*y j) i:=b;omega
 obtain⟨p,a,d⟩:=G.hit (λj=>x j+t*y j) i;have d:F (λj=>x j+t*y j) i=x p.1+t*y p.1+p.2:=d;have s:=low p a;have u:=G.le x i p a;have eq:y p.1=y i:=cI λz=>by
  have f:t*(y p.1+1)<=t*y i:=bU (by omega) (by omega);rw[fJ,Int.mul_one] at f;omega
 have m:x p.1+p.2=F x i:=by rw[eq] at d;omega
 refine Int.le_antisymm ?_ ?_
 .obtain⟨q,h,c⟩:=G.hit (λj=>x j+n*y j) i;have b:=G.le x i q h;have k:(n:Int)*y q.1<=n*y i:=bU (low q h) (by omega);have c:F (λj=>x j+n*y j) i=x q.1+n*y q.1+q.2:=c;omega
 .have b:=G.le (λj=>x j+n*y j) i p a;have b:x p.1+n*y p.1+p.2<=F (λj=>x j+n*y j) i:=b;rw[eq] at b;omega
end
theorem Xl {X:Nat->Nat->Int}{F:(Nat->Int)->Nat->Int}{y:Nat->Int}{s W:Nat}(st:∀ k,X (k+1)=F (X k)) (g:∀ i,X (s+W) i=X s i+y i)
  (h:∀ k,s<=k->k<s+W->∀ n:Nat,F (λj=>X k j+n*y j)=λi=>F (X k) i+n*y i):∀ k,s<=k->∀ i,X (k+W) i=X k i+y i:=by
 have go:∀ (j:Nat),j<=W->∀ n z:Nat,(X z=λi=>X s i+n*y i)->X (z+j)=λi=>X (s+j) i+n*y i:=by
  intro j;induction j with
  | zero=>exact λ_ n z e=>e
  | succ j b =>
   intro m n z e;have a:=b (by omega) n z e;rw[<- hU,st,a,h (s+j) (by omega) (by omega) n,<- hU,st]
 have c:∀ n:Nat,∀ i,((n+1:Nat):Int)*y i=n*y i+y i:=λn i=>by rw[gZ,Int.add_mul];simp
 have all:∀ n:Nat,X (s+n*W)=λi=>X s i+n*y i:=by
  intro n;induction n with
  | zero=>funext i;simp
  | succ n b =>
   have:=go W (aL _) n _ b;rw[show s+(n+1)*W=s+n*W+W by rw[gF,gG];omega,this]
   funext i
   rw[g,c];omega
 intro k q i;by_cases f:W=0
 .subst f;have:=g i;rw[gU] at this;rw[gU];omega
 .have lt:=Nat.mod_lt (k-s) (show 0<W by omega);have e:=Nat.div_add_mod (k-s) W;rw[kA] at e;have a:=go ((k-s)%W) (by omega) ((k-s)/W) _ (all _);have d:=go ((k-s)%W) (by omega) ((k-s)/W+1) _ (all _);rw[show s+(k-s)/W*W+(k-s)%W=k by omega] at a;rw[show s+((k-s)/W+1)*W+(k-s)%W=k+W by rw[gF,gG];omega] at d;rw[a,d];show X (s+(k-s)%W) i+(((k-s)/W+1:Nat):Int)*y i=X (s+(k-s)%W) i+(((k-s)/W:Nat):Int)*y i+y i;rw[c];omega
theorem DT {X:Nat->Nat->Int}{F:(Nat->Int)->Nat->Int}{y:Nat->Int}{s W:Nat}(st:∀ k,X (k+1)=F (X k)) (h:∀ k,s<=k->∀ i,X (k+W) i=X k i+y i) (k:Nat) (l:s<=k) (n:Nat):F (λj=>X k j+n*y j)=λi=>F (X k) i+n*y i:=by
 have g:∀ i k,s<=k->X (k+n*W) i=X k i+n*y i:=λi k l=>yB (L:=λk=>X k i) (λk l=>h k l i) n k l
 have e:(λj=>X k j+n*y j)=X (k+n*W):=funext λi=>(g i k l).symm
 rw[e,<- st,<- st]
 funext i
 rw[show k+n*W+1=k+1+n*W by omega];exact g i (k+1) (by omega)
structure Sys (T:Nat->List (Nat×Int)) (A:Int) (M c:Nat):Prop where
 pos:∀ i j a,(j,a)∈T i->0<=a/\a<=A
 a0:0<=A
 c1:1<=c
 pig:∀ u:Nat->Nat,(∀ t,t<M->∃ a,(u (t+1),a)∈T (u t))->∃ a b,a<b/\b<=M/\u a=u b/\(b-a) ∣ c
def lX (T:Nat->Aa (Nat×Int)) (Q:Nat->Prop) (i j k:Nat) (w:Int):Prop:=∃ (u:Nat->Nat) (s:Nat->Int),u 0=i/\s 0=0/\u k=j/\s k=w/\(∀ t,t<k->(u (t+1),s (t+1)-s t)∈T (u t))/\∀ t,t<=k->Q (u t)
section
theorem lX.app (o:lX T Q i j k w) (g:lX T Q j m l v):lX T Q i m (k+l) (w+v):=by
 obtain⟨u,s,x,y,b,c,z,A⟩:=o;obtain⟨E,a,d,e,f,n,q,B⟩:=g;refine⟨λt=>if t<=k then u t else E (t-k),λt=>if t<=k then s t else w+a (t-k),?_,?_,?_,?_,λt D=>?_,λt D=>?_⟩
 .simp[x]
 .simp[y]
 .by_cases h:l=0
  .subst h;simp[b,<- f,d]
  .simp[show ¬ (k+l<=k) by omega,f]
 .by_cases h:l=0
  .subst h;have:v=0:=by rw[<- n,e]
   simp[c,this]
  .simp[show ¬ (k+l<=k) by omega,n]
 .by_cases h:t<k
  .have:=z t h;simp only[show t<=k by omega,show t+1<=k by omega,eV];exact this
  .by_cases g:t=k
   .subst g;have:=q 0 (by omega);simp only[aL,eV,show ¬ (t+1<=t) by omega,eZ,show t+1-t=1 by omega];rw[b,c];rw[d,e] at this
    simpa [show w+a 1-w=a 1-0 by omega] using this
   .have:=q (t-k) (by omega);simp only[show ¬ (t<=k) by omega,show ¬ (t+1<=k) by omega,eZ];rw[show t+1-k=t-k+1 by omega,show w+a (t-k+1)-(w+a (t-k))=a (t-k+1)-a (t-k) by omega];exact this
 .by_cases h:t<=k
  .simp only[h,eV];exact A t h
  .simp only[h,eZ];exact B (t-k) (by omega)
theorem lX.part {u:Nat->Nat}{s:Nat->Int}{k:Nat}(g:∀ t,t<k->(u (t+1),s (t+1)-s t)∈T (u t)) (j:∀ t,t<=k->Q (u t)){a b:Nat}(l:a<=b) (o:b<=k):lX T Q (u a) (u b) (b-a) (s b-s a):=by
 refine⟨λt=>u (a+t),λt=>s (a+t)-s a,rfl,by simp,by show u (a+(b-a))=_;rw[show a+(b-a)=b by omega],by show s (a+(b-a))-s a=_;rw[show a+(b-a)=b by omega],λt c=>?_,λt c=>j _ (by omega)⟩;have:=g (a+t) (by omega);show (u (a+(t+1)),s (a+(t+1))-s a-(s (a+t)-s a))∈T (u (a+t));rw[show a+(t+1)=a+t+1 by omega,show s (a+t+1)-s a-(s (a+t)-s a)=s (a+t+1)-s (a+t) by omega];exact this
theorem lX.weak (h:lX T Q i j k w) (l:∀ v,Q v->g v):lX T g i j k w:=by
 obtain⟨u,s,a,b,c,d,e,f⟩:=h;exact⟨u,s,a,b,c,d,e,λt m=>l _ (f t m)⟩
theorem lX.bound (S:Sys T A M c) (h:lX T Q i j k w):0<=w/\w<=A*k:=by
 obtain⟨u,s,m,a,n,b,d,q⟩:=h;have:∀ t,t<=k->0<=s t/\s t<=A*t:=by
  intro t;induction t with
  | zero=>intro _;rw[a];simp
  | succ t f =>
   intro y;have v:=f (by omega);have x:=S.pos _ _ _ (d t (by omega));have e:A*((t+1:Nat):Int)=A*t+A:=by rw[gZ,fJ];simp
   rw[e];omega
 rw[<- b];exact this k (aL _)
theorem lX.cut (S:Sys T A M c) (g:-1<=ρ) (o:∀ v l w m x,1<=l->l<=M->l ∣ c->lX T Q v v l w->lX T Q i v m x->c*w<=ρ*l) :
  ∀ k j w,lX T Q i j k w->c*w<=ρ*k+(c*(A*M)+M):=by
 intro k;induction k using Nat.strongRecOn with
 | ind k L =>
  intro j w h;have R:=h.bound S;by_cases V:k<M
  .have F:A*(k:Int)<=A*M:=bU (by omega) S.a0;have G:(c:Int)*w<=c*(A*M):=bU (by omega) (by omega);have P:-1*(k:Int)<=ρ*k:=cF g (by omega);omega
  .obtain⟨u,s,z,B,D,E,d,f⟩:=h;obtain⟨a,b,H,K,e,hd⟩:=S.pig u λt W=>⟨_,d t (by omega)⟩
   have y:=lX.part (Q:=Q) d f (a:=a) (b:=b) (by omega) (by omega);have q:=lX.part (Q:=Q) d f (a:=0) (b:=a) (by omega) (by omega);have n:=lX.part (Q:=Q) d f (a:=b) (b:=k) (by omega) (by omega);rw[<- e] at y n;rw[z,B,jG] at q;rw[D,E] at n;have F:=o (u a) (b-a) _ a _ (by omega) (by omega) hd y q;have G:=L (a+(k-b)) (by omega) j _ (q.app n);have N:(c:Int)*w=c*(s b-s a)+c*(s a-0+(w-s b)):=by rw[<- fJ];congr 1;omega
   have O:ρ*(k:Int)=ρ*((b-a:Nat):Int)+ρ*((a+(k-b):Nat):Int):=by rw[<- fJ];congr 1;omega
   omega
end
structure Run (T:Nat->List (Nat×Int)) (x:Nat->Nat->Int):Prop where
 z:∀ i,x 0 i=0
 ub:∀ k i j a,(j,a)∈T i->x k j+a<=x (k+1) i
 at':∀ k i,∃ j a,(j,a)∈T i/\x (k+1) i=x k j+a
section
def Tt:Nat->Prop:=λ_=>True
theorem Run.up (R:Run T x) (h:lX T Q i j l w) (k:Nat):x k j+w<=x (k+l) i:=by
 obtain⟨u,s,b,c,d,e,f,_⟩:=h;have:∀ t,t<=l->x k j+(s l-s (l-t))<=x (k+t) (u (l-t)):=by
  intro t;induction t with
  | zero=>intro _;rw[jG,d,gU];omega
  | succ t m =>
   intro v;have n:=m (by omega);have a:=f (l-(t+1)) (by omega);rw[show l-(t+1)+1=l-t by omega] at a;have q:=R.ub (k+t) _ _ _ a;rw[<- hU];omega
 have:=this l (aL _);rw[kB,b,c,e] at this;omega
theorem Run.best (R:Run T x):∀ k i,∃ (u:Nat->Nat) (s:Nat->Int),u 0=i/\s 0=0/\(∀ t,t<k->(u (t+1),s (t+1)-s t)∈T (u t))/\∀ t,t<=k->x k i=x (k-t) (u t)+s t
 | 0,i=>⟨λ_=>i,λ_=>0,rfl,rfl,λt b=>by omega,λt b=>by
  have:t=0:=by omega
  subst this;simp⟩
 | k+1,i=>by
  obtain⟨j,a,m,e⟩:=R.at' k i;obtain⟨u,s,c,d,f,h⟩:=R.best k j;refine⟨λt=>match t with | 0=>i | t+1=>u t,λt=>match t with | 0=>0 | t+1=>a+s t,rfl,rfl,λt b=>?_,λt b=>?_⟩
  .cases t with
   | zero=>show (u 0,a+s 0-0)∈T i;rw[c,d];simpa using m
   | succ t =>
    have:=f t (by omega);show (u (t+1),a+s (t+1)-(a+s t))∈T (u t);rw[show a+s (t+1)-(a+s t)=s (t+1)-s t by omega];exact this
  .cases t with
   | zero=>show x (k+1) i=x (k+1-0) i+0;simp
   | succ t =>
    have:=h t (by omega);show x (k+1) i=x (k+1-(t+1)) (u t)+(a+s t);rw[show k+1-(t+1)=k-t by omega,e,this];omega
theorem Run.way (R:Run T x) (k i:Nat):∃ j,lX T Tt i j k (x k i):=by
 obtain⟨u,s,a,b,c,d⟩:=R.best k i;refine⟨u k,u,s,a,b,rfl,?_,c,λ_ _=>True.intro⟩;have:=d k (aL _);rw[kB,R.z] at this;omega
theorem Run.mono (S:Sys T A M c) (R:Run T x):∀ k i,x k i<=x (k+1) i
 | 0,i=>by
  obtain⟨j,a,b,e⟩:=R.at' 0 i;have:=(S.pos _ _ _ b).1;rw[e,R.z,R.z];omega
 | k+1,i=>by
  obtain⟨j,a,b,e⟩:=R.at' k i;have d:=R.mono S k j;have f:=R.ub (k+1) _ _ _ b;omega
theorem Run.monoN (S:Sys T A M c) (R:Run T x) (i:Nat) (h:k<=l):x k i<=x l i:=by
 obtain⟨m,rfl⟩:=Nat.le.dest h;induction m with
 | zero=>exact eJ _
 | succ m a=>exact lA (a (by omega)) (R.mono S (k+m) i)
theorem lX.times (g:Q v) (h:lX T Q v v l w):∀ n:Nat,lX T Q v v (n*l) (n*w)
 | 0=>⟨λ_=>v,λ_=>0,rfl,rfl,rfl,by simp,λt a=>by omega,λ_ _=>g⟩
 | n+1=>by
  have:=(lX.times g h n).app h;rw[show (n+1)*l=n*l+l by rw[gF,gG],show ((n+1:Nat):Int)*w=n*w+w by rw[gZ,Int.add_mul];simp];exact this
theorem Ln {P:Int->Prop}(B:Int) (g:∀ r,P r->r<=B):∀ (n:Nat) (r:Int),P r->(B-r).toNat<=n->∃ m,P m/\∀ r,P r->r<=m
 | n,r,b,c=>by
  by_cases h:∀ q,P q->q<=r
  .exact⟨r,b,h⟩
  .have:∃ q,P q/\r<q:=cI λz=>h λq a=>Int.not_lt.mp λy=>z ⟨q,a,y⟩
   obtain⟨q,a,lt⟩:=this;have:=g q a
   match n with
   | 0=>omega
   | n+1=>exact Ln B g n q a (by omega)
def Hs (T:Nat->Aa (Nat×Int)) (M c v l:Nat) (w r:Int):Prop:=1<=l/\l<=M/\l ∣ c/\lX T Tt v v l w/\r=w*((c/l:Nat):Int)
theorem I0 (h:l ∣ c):w*((c/l:Nat):Int)*l=c*w:=by
 rw[Int.mul_assoc,<- iU,kL h,jI]
theorem Hv:∀ (n:Nat) (f:Nat->Nat),(∀ q,q<=n->f q<n)->∃ a b,a<b/\b<=n/\f a=f b
 | 0,f,h=>absurd (h 0 (aL _)) (by omega)
 | n+1,f,h=>by
  by_cases e:∃ a,a<=n/\f a=f (n+1)
  .obtain⟨a,m,e⟩:=e;exact⟨a,n+1,by omega,aL _,e⟩
  .have ne:∀ a,a<=n->f a≠f (n+1):=λa m z=>e ⟨a,m,z⟩
   have x:=h (n+1) (aL _);obtain⟨a,b,k,w,c⟩:=Hv n (λq=>if f q=n then f (n+1) else f q) λq s=>by
    have u:=h q (by omega);have v:=ne q s;by_cases z:f q=n
    .simp only[z,eV];omega
    .simp only[z,eZ];omega
   refine⟨a,b,k,by omega,?_⟩;have t:=ne a (by omega);have nb:=ne b (by omega);by_cases d:f a=n<;>by_cases i:f b=n
   .rw[d,i]
   .simp only[d,i,eV,eZ] at c;exact absurd c.symm nb
   .simp only[d,i,eV,eZ] at c;exact absurd c t
   .simp only[d,i,eZ] at c;exact c
theorem lX.short (S:Sys T A M c):∀ (m:Nat) (y:Int),lX T Tt i v m y->∃ g j,g<=M/\lX T Tt i v g j:=by
 intro m;induction m using Nat.strongRecOn with
 | ind m D =>
  intro y h;by_cases B:m<=M
  .exact⟨m,y,B,h⟩
  .obtain⟨u,s,q,E,w,F,d,f⟩:=h;obtain⟨a,b,x,z,e,hd⟩:=S.pig u λt G=>⟨_,d t (by omega)⟩
   have n:=lX.part (Q:=Tt) d f (a:=0) (b:=a) (by omega) (by omega);have k:=lX.part (Q:=Tt) d f (a:=b) (b:=m) (by omega) (by omega);rw[<- e,w] at k;rw[q] at n;exact D _ (by omega) _ (n.app k)
theorem lX.out (S:Sys T A M c) (hc:∀ v l w m y,1<=l->l<=M->l ∣ c->lX T Tt v v l w->lX T Tt i v m y->c*w<=d*l) (h:lX T Tt i j k w) (hk:c*M<=k) :
  ∃ (o k':Nat) (g:Int),1<=o/\k'+c*o=k/\lX T Tt i j k' g/\w<=g+d*o:=by
 obtain⟨u,s,a1,a2,a3,a4,D,F⟩:=h;have le:∀ q,q<=c->q*M<=k:=λq E=>bX (Nat.mul_le_mul_right M E) hk
 have B:∀ q,∃ a b:Nat,q<c->a<b/\b<=M/\u (q*M+a)=u (q*M+b)/\(b-a) ∣ c:=λq=>by
  by_cases E:q<c
  .obtain⟨a,b,K,X,U,h4⟩:=S.pig (λt=>u (q*M+t)) λt ht=>by
    have:=le (q+1) (by omega);rw[gF,gG] at this;exact⟨_,D (q*M+t) (by omega)⟩
   exact⟨a,b,λ_=>⟨K,X,U,h4⟩⟩
  .exact⟨0,0,λz=>absurd z E⟩
 let x:Nat->Nat:=λq=>Classical.choose (B q)
 let n:Nat->Nat:=λq=>Classical.choose (fQ (B q))
 have hw:∀ q,q<c->x q<n q/\n q<=M/\u (q*M+x q)=u (q*M+n q)/\(n q-x q) ∣ c:=λq E=>fQ (fQ (B q)) E
 let P:Nat->Nat:=λq=>Nat.rec 0 (λp r=>r+(n p-x p)) q
 have O:∀ q,P (q+1)=P q+(n q-x q):=λ_=>rfl
 have G:0<c:=by have:=S.c1;omega
 obtain⟨e,f,E,L,eq⟩:=Hv c (λq=>P q%c) λq _=>Nat.mod_lt _ G
 have mono:∀ p,P e<=P (e+p):=λp=>by
  induction p with
  | zero=>exact aL _
  | succ p Z=>exact bX Z (by rw[<- hU,O];omega)
 have lt:P e<P f:=by
  have K:=mono (f-1-e);rw[show e+(f-1-e)=f-1 by omega] at K;have X:=O (f-1);rw[show f-1+1=f by omega] at X;have U:=(hw (f-1) (by omega)).1;omega
 have go:∀ p,e+p<=f->∃ (l:Nat) (g:Int),l+(P (e+p)-P e)=(e+p)*M/\lX T Tt i (u ((e+p)*M)) l g/\c*s ((e+p)*M)<=c*g+d*((P (e+p)-P e:Nat):Int):=by
  intro p;induction p with
  | zero =>
   intro _;have J:=lX.part (Q:=Tt) D F (a:=0) (b:=e*M) (by omega) (le e (by omega));rw[a1,a2,jG] at J;refine⟨e*M,_,by rw[gU];omega,by rw[gU];exact J,?_⟩;rw[gU,kB];have:s (e*M)-0=s (e*M):=by omega
   rw[this];simp
  | succ p Z =>
   intro hp;obtain⟨l,g,W,V,H⟩:=Z (by omega);obtain⟨c1,c2,c3,c4⟩:=hw (e+p) (by omega);have Y:=le (e+p+1) (by omega);have R:(e+p+1)*M=(e+p)*M+M:=by rw[gF,gG]
   rw[R] at Y;have x1:=lX.part (Q:=Tt) D F (a:=(e+p)*M) (b:=(e+p)*M+x (e+p)) (by omega) (by omega);have x2:=lX.part (Q:=Tt) D F (a:=(e+p)*M+x (e+p)) (b:=(e+p)*M+n (e+p)) (by omega) (by omega);have x3:=lX.part (Q:=Tt) D F (a:=(e+p)*M+n (e+p)) (b:=(e+p)*M+M) (by omega) (by omega);rw[<- c3] at x2 x3;have y1:=V.app x1;have K:=hc _ _ _ _ _ (by omega) (by omega) (by rw[show (e+p)*M+n (e+p)-((e+p)*M+x (e+p))=n (e+p)-x (e+p) by omega];exact c4) x2 y1;rw[show (e+p)*M+n (e+p)-((e+p)*M+x (e+p))=n (e+p)-x (e+p) by omega] at K;have m1:=mono p;refine⟨_,_,?_,by rw[<- hU,R];exact y1.app x3,?_⟩
   .rw[<- hU,O,R];omega
   .rw[<- hU,O,R];have I:(c:Int)*s ((e+p)*M+M)=c*s ((e+p)*M)+c*(s ((e+p)*M+n (e+p))-s ((e+p)*M+x (e+p)))+c*((s ((e+p)*M+x (e+p))-s ((e+p)*M))+(s ((e+p)*M+M)-s ((e+p)*M+n (e+p)))):=by
     rw[<- fJ,<- fJ];congr 1;omega
    have e4:(c:Int)*(g+(s ((e+p)*M+x (e+p))-s ((e+p)*M))+(s ((e+p)*M+M)-s ((e+p)*M+n (e+p))))=c*g+c*((s ((e+p)*M+x (e+p))-s ((e+p)*M))+(s ((e+p)*M+M)-s ((e+p)*M+n (e+p)))):=by
     rw[<- fJ];congr 1;omega
    have e5:d*((P (e+p)+(n (e+p)-x (e+p))-P e:Nat):Int)=d*((P (e+p)-P e:Nat):Int)+d*((n (e+p)-x (e+p):Nat):Int):=by
     rw[<- fJ];congr 1;omega
    omega
 obtain⟨l,g,W,V,H⟩:=go (f-e) (by omega);rw[show e+(f-e)=f by omega] at W V H;have C:=lX.part (Q:=Tt) D F (a:=f*M) (b:=k) (le f L) (aL _);rw[a3,a4] at C;have dv:c ∣ P f-P e:=Nat.dvd_of_mod_eq_zero (Nat.sub_mod_eq_zero_of_mod_eq eq.symm);obtain⟨o,N⟩:=dv;have lk:=le f L;rw[N] at W H;refine⟨o,l+(k-f*M),g+(w-s (f*M)),?_,by omega,V.app C,?_⟩
 .rcases o with _ | o
  .rw[Nat.mul_zero] at N;omega
  .omega
 .have I:(c:Int)*s (f*M)<=c*(g+d*o):=by
   rw[fJ,Int.mul_left_comm];have:((c*o:Nat):Int)=c*o:=iU c o;rw[this] at H;exact H
  have:=Int.le_of_mul_le_mul_left I (by omega);omega
theorem Run.epB (S:Sys T A M c) (R:Run T x) (i:Nat):∃ d:Int,0<=d/\∀ k:Nat,(c:Int)*(A*M)+M+A*c*(M+c)<k->2*(c*M)<=k+c->x (k+c) i=x k i+d:=by
 let I:Int->Prop:=λr=>∃ v l w m y,Hs T M c v l w r/\lX T Tt i v m y
 have hB:∀ r,I r->0<=r/\r<=A*c:=by
  rintro r ⟨v,l,w,m,y,⟨F,G,ld,hw,rfl⟩,_⟩;have hb:=hw.bound S;have h0:(0:Int)<=((c/l:Nat):Int):=Int.natCast_nonneg _;refine⟨jJ hb.1 h0,?_⟩;have:=cF hb.2 h0;have e:A*(l:Int)*((c/l:Nat):Int)=A*c:=by rw[Int.mul_assoc,<- iU,Nat.mul_div_cancel' ld]
  omega
 obtain⟨r0,ac⟩:∃ r,I r:=by
  obtain⟨u,s,N,W,D,O⟩:=R.best M i;obtain⟨a,b,ag,ab,e,hd⟩:=S.pig u λt E=>⟨_,D t E⟩
  have cy:=lX.part (Q:=Tt) D (λ_ _=>True.intro) (a:=a) (b:=b) (by omega) ab;have L:=lX.part (Q:=Tt) D (λ_ _=>True.intro) (a:=0) (b:=a) (by omega) (by omega);rw[<- e] at cy;rw[N] at L;exact⟨_,u a,b-a,_,_,_,⟨by omega,by omega,hd,cy,rfl⟩,L⟩
 obtain⟨d,⟨v,l,w,m,y,⟨F,G,ld,hw,J⟩,H⟩,K⟩:=Ln (P:=I) (A*c) (λr hr=>(hB r hr).2) _ r0 ac (aL _);have dA:=(hB d ⟨v,l,w,m,y,⟨F,G,ld,hw,J⟩,H⟩).2;obtain⟨q,y',mM,g⟩:=lX.short S m y H;have o:0<=d:=(hB d ⟨v,l,w,m,y,⟨F,G,ld,hw,J⟩,H⟩).1;have c0:(1:Int)<=c:=by have:=S.c1;omega
 let B:Int:=c*(A*M)+M;have B0:0<=B:=by
  have:=jJ (show (0:Int)<=c by omega) (jJ S.a0 (show (0:Int)<=M by omega));show 0<=(c:Int)*(A*M)+M;omega
 have U:∀ k,(c:Int)*x k i<=d*k+B:=λk=>by
  obtain⟨j,hj⟩:=R.way k i;refine lX.cut (Q:=Tt) S (by omega) (λv l w m y F G ld hw H=>?_) k j _ hj;have:=K _ ⟨v,l,w,m,y,⟨F,G,ld,hw,rfl⟩,H⟩;have:=cF this (show (0:Int)<=l by omega);rw[I0 ld] at this;exact this
 have ring:∀ n:Nat,lX T Tt v v (n*c) (n*d):=λn=>by
  have h:=lX.times (n:=c/l) True.intro hw;rw[kL ld,jI,<- J] at h;exact lX.times True.intro h n
 have Lw:∀ k:Nat,d*(k-q-c)<=c*x k i:=λk=>by
  have x0:0<=x k i:=by have:=R.monoN S i (cS k);rw[R.z] at this;exact this
  by_cases C:k<q
  .have h:d*((k:Int)-q-c)<=d*0:=bU (by omega) o;have V:=jJ (show (0:Int)<=c by omega) x0;omega
  .let n:=(k-q)/c;have p:n*c<=k-q:=Nat.div_mul_le_self _ _;have e2:k-q<(n+1)*c:=by
    have:=Nat.lt_div_mul_add (a:=k-q) (b:=c) (by have:=S.c1;omega);rw[gF,gG];exact this
   have y0:=(g.bound S).1;have h:=R.up (g.app (ring n)) 0;rw[R.z,Nat.zero_add] at h;have V:=R.monoN S i (show q+n*c<=k by omega);have Y:(n:Int)*d<=x k i:=by omega
   have h4:=bU Y (show (0:Int)<=c by omega);have h5:d*((k:Int)-q-c)<=d*((n*c:Nat):Int):=bU (by rw[gF,gG] at e2;omega) o;have e3:d*((n*c:Nat):Int)=c*(n*d):=by rw[iU,jI d,jI (n:Int) c,Int.mul_assoc]
   omega
 have mb:d*((q:Int)+c)<=A*c*(M+c):=by
  have h:=bU (show (q:Int)+c<=M+c by omega) o;have V:=cF dA (show (0:Int)<=(M:Int)+c by omega);omega
 have X:∀ k:Nat,B+d*(q+c)<k->∀ (u:Nat->Nat) (s:Nat->Int),u 0=i->s 0=0->(∀ t,t<k->(u (t+1),s (t+1)-s t)∈T (u t))->(∀ t,t<=k->x k i=x (k-t) (u t)+s t)->∃ t,t<=k/\lX T Tt (u t) (u t) c d:=λk C u s N W D O=>by
  let Q:Nat->Prop:=λv=>¬ ∃ l w,Hs T M c v l w d
  by_cases av:∀ t,t<=k->Q (u t)
  .exfalso;have hQ:lX T Q i (u k) k (x k i):=⟨u,s,N,W,rfl,by have:=O k (aL _);rw[kB,R.z] at this;omega,D,av⟩;have h:=lX.cut (Q:=Q) (ρ:=d-1) S (by omega) (λv l w m y F G ld hw H=>by
    have h:=K _ ⟨v,l,w,m,y,⟨F,G,ld,hw.weak λ_ _=>True.intro,rfl⟩,H.weak λ_ _=>True.intro⟩;have hv:Q v:=by
     obtain⟨u,s,a1,_,_,_,_,a6⟩:=hw;rw[<- a1];exact a6 0 (cS _)
    have V:w*((c/l:Nat):Int)≠d:=λe=>hv ⟨l,w,F,G,ld,hw.weak λ_ _=>True.intro,e.symm⟩
    have:=cF (show w*((c/l:Nat):Int)<=d-1 by omega) (show (0:Int)<=l by omega);rw[I0 ld] at this;exact this) k _ _ hQ
   have V:=Lw k;have p:(d-1)*(k:Int)=d*k-k:=by rw[Int.sub_mul,Int.one_mul]
   have e2:d*((k:Int)-q-c)=d*k-d*(q+c):=by rw[<- Int.mul_sub];congr 1;omega
   have:(c:Int)*(A*M)+M=B:=rfl;omega
  .have:∃ t,t<=k/\∃ l w,Hs T M c (u t) l w d:=cI λz=>av λt E y=>z ⟨t,E,y⟩
   obtain⟨t,E,l',w',ai,aj,af,ae,aa⟩:=this;have h:=lX.times (n:=c/l') True.intro ae;rw[kL af,jI,<- aa] at h;exact⟨t,E,h⟩
 have Z:∀ v l w m y,1<=l->l<=M->l ∣ c->lX T Tt v v l w->lX T Tt i v m y->c*w<=d*l:=λv l w m y F G ld hw H=>by
  have:=K _ ⟨v,l,w,m,y,⟨F,G,ld,hw,rfl⟩,H⟩;have:=cF this (show (0:Int)<=l by omega);rw[I0 ld] at this;exact this
 refine⟨d,o,λk C ah=>?_⟩;have C:B+d*(q+c)<k:=by have:(c:Int)*(A*M)+M=B:=rfl;omega
 have ak:x k i+d<=x (k+c) i:=by
  obtain⟨u,s,N,W,D,O⟩:=R.best k i;obtain⟨t,E,h⟩:=X k C u s N W D O;have V:=R.up h (k-t);have L:=lX.part (Q:=Tt) D (λ_ _=>True.intro) (a:=0) (b:=t) (by omega) E;rw[N,W,jG] at L;have Y:=R.up L (k-t+c);have h4:=O t E;rw[show k-t+c+t=k+c by omega] at Y;omega
 have an:x (k+c) i<=x k i+d:=by
  obtain⟨u,s,N,W,D,O⟩:=R.best (k+c) i;obtain⟨t,E,h⟩:=X (k+c) (by omega) u s N W D O;have L:=lX.part (Q:=Tt) D (λ_ _=>True.intro) (a:=0) (b:=t) (by omega) E;rw[N,W,jG] at L;have p:∀ f:Nat,((f:Nat):Int)*d=d*((f+1:Nat):Int)-d:=λf=>by
   rw[gZ,fJ,jI];simp
  by_cases hc:c*M<=t
  .obtain⟨f,k',w',s1,e,wy,hw⟩:=lX.out S Z L hc;obtain⟨f,rfl⟩:∃ τ,f=τ+1:=⟨f-1,by omega⟩;have V:=R.up (wy.app (lX.times True.intro h f)) (k+c-t);rw[Nat.mul_add,Nat.mul_one,kA] at e;rw[show k+c-t+(k'+f*c)=k by omega] at V;have:=O t E;have:=p f;omega
  .have bk:=lX.part (Q:=Tt) D (λ_ _=>True.intro) (a:=t) (b:=k+c) E (aL _);obtain⟨f,k',w',s1,e,wy,hw⟩:=lX.out S (λv l w m y F G ld hw H=>Z v l w _ _ F G ld hw (L.app H)) bk (by omega);obtain⟨f,rfl⟩:∃ τ,f=τ+1:=⟨f-1,by omega⟩;have V:=R.up ((L.app (lX.times True.intro h f)).app wy) 0;rw[Nat.mul_add,Nat.mul_one,kA] at e;rw[show 0+(t+f*c+k')=k by omega,R.z] at V;have Y:=O (k+c) (aL _);rw[kB,R.z] at Y;have:=p f;omega
 omega
end
def mB (n:Nat):Nat:=if n=4 then 12 else if n=3 then 6 else if n=2 then 2 else 1
theorem Ai (n:Nat):1<=mB n:=by unfold mB;split;omega;split;omega;split<;>omega
theorem xC (n:Nat):mB n<=12:=by unfold mB;split;omega;split;omega;split<;>omega
theorem Nf (o:n<=4) (g:1<=l) (j:l<=n):l ∣ mB n :=
 have key:∀ n,n<5->∀ l,l<5->1<=l->l<=n->l ∣ mB n:=by decide
 key n (by omega) l (by omega) g j
theorem Yc (o:n<=4) (j:1<=r) (g:r<mB n):∃ l,1<=l/\l<=n/\r%l≠0 :=
 have key:∀ n,n<5->∀ r,r<12->1<=r->r<mB n->([1,2,3,4].any λl=>decide (1<=l)&&(decide (l<=n)&&(r%l != 0)))=true:=by decide
 have lt:r<12:=aR g (xC n);let ⟨l,_,h⟩:=fL.mp (key n (by omega) r lt j g)
 ⟨l,dR (cT.mp h).1,dR (cT.mp (cT.mp h).2).1,bne_iff_ne.mp (cT.mp (cT.mp h).2).2⟩
theorem Wd {T:Nat->Aa (Nat×Int)}{n z c:Nat}(j:∀ l,1<=l->l<=n->l ∣ c) (o:∀ i p,p∈T i->p.1<n\/p.1=z) (r:∀ p,p∈T z->p.1=z)
  (u:Nat->Nat) (h:∀ t,t<n+2->∃ w,(u (t+1),w)∈T (u t)):∃ a b,a<b/\b<=n+2/\u a=u b/\(b-a) ∣ c:=by
 by_cases e:∃ t,t<n+2/\u t=z
 .obtain⟨t,lt,d⟩:=e;obtain⟨w,hw⟩:=h t lt;rw[d] at hw;exact⟨t,t+1,by omega,by omega,by rw[d];exact (r _ hw).symm,by rw[Nat.add_sub_cancel_left];exact Nat.one_dvd _⟩
 .have lt:∀ q,q<=n->u (q+1)<n:=λq s=>by
   obtain⟨w,hw⟩:=h q (by omega);rcases o _ _ hw with g | g
   .exact g
   .exact absurd ⟨q+1,by omega,g⟩ e
  obtain⟨a,b,k,m,f⟩:=Hv n (λq=>u (q+1)) lt;exact⟨a+1,b+1,by omega,by omega,f,j _ (by omega) (by omega)⟩
theorem Run.epAll (S:Sys T A M c) (R:Run T x) :
  ∃ y:Nat->Int,(∀ i,0<=y i)/\∀ k:Nat,(c:Int)*(A*M)+M+A*c*(M+c)<k->2*(c*M)<=k+c->∀ i,x (k+c) i=x k i+y i :=
 ⟨λi=>Classical.choose (R.epB S i),λi=>(fQ (R.epB S i)).1,λk a b i=>(fQ (R.epB S i)).2 k a b⟩
end Lw
namespace Lw
open PySem L2
abbrev rX:=Aa (Nat×Int)
abbrev xJ:=Aa (Af×rX)
def Ev (x:Nat->Int) (g:rX) (v:Int):Prop:=(∀ p∈g,x p.1+p.2<=v)/\∃ p∈g,v=x p.1+p.2
theorem Ev.uniq (h:Ev x ts u) (g:Ev x ts v):u=v:=by
 obtain⟨a,p,b,rfl⟩:=h;obtain⟨g1,q,c,rfl⟩:=g;have:=a q c;have:=g1 p b;omega
def gm (x:Nat->Int):rX->Int
 | []=>0
 | [p]=>x p.1+p.2
 | p::q::r=>if gm x (q::r)<=x p.1+p.2 then x p.1+p.2 else gm x (q::r)
theorem Dq (x:Nat->Int):∀ g:rX,g≠[]->Ev x g (gm x g)
 | [],h=>absurd rfl h
 | [p],_=>⟨λq c=>by rw[aU.mp c];exact eJ _,p,aH,rfl⟩
 | p::q::r,_=>by
  obtain⟨b,z,d,e⟩:=Dq x (q::r) (by simp);unfold gm;split
  .rename_i h
   refine⟨λy a=>?_,p,aH,rfl⟩;rcases aF.mp a with rfl | a
   .exact eJ _
   .exact lA (b y a) h
  .rename_i h
   refine⟨λy a=>?_,z,aN _ d,e⟩;rcases aF.mp a with rfl | a
   .omega
   .exact b y a
def tK (z:Nat) (t:xJ) (x:Af):rX:=match t.find? (λp=>decide (p.1=x)) with
 | some p=>p.2
 | none=>[(z,0)]
theorem Oo:tK z (p::t) x=if p.1=x then p.2 else tK z t x:=by
 unfold tK;rw[dY];by_cases h:p.1=x<;>simp[h]
noncomputable def Gr (g:rX):rX:=g.map λp=>(p.1,p.2+1)
def Cc (z:Nat) (t:xJ) (g:Af×Af×Aa Af):xJ:=t++[(g.1,(z,0)::g.2.2.flatMap λo=>Gr (tK z t o))]
def sP:Aa (Af×Af)->Af->Nat
 | [],_=>1
 | p::al,x=>if p.2=x then 0 else sP al x+1
theorem Ny:∀ (al:Aa (Af×Af)) (x:Af),sP al x<al.length\/sP al x=al.length+1
 | [],_=>.inr rfl
 | p::al,x=>by
  unfold sP;split
  .exact .inl (by simp)
  .have:=Ny al x;simp only[bT];omega
def Cz (z:Nat) (ins:Aa Af) (g:oU) (al:Aa (Af×Af)):xJ:=g.foldl (Cc z) (ins.map λn=>(n,[(sP al n,0)]))
def rO (x:Nat->Int):xJ->mX->Prop:=Paired λ(p:Af×rX) (q:Af×Int)=>p.1=q.1/\Ev x p.2 q.2
theorem Ev.zero (g:x z=0):Ev x [(z,0)] 0:=⟨λp a=>by rw[aU.mp a];simp[g],_,aH,by simp[g]⟩
theorem rO.look (g:x z=0) (h:rO x t u) (n:Af):Ev x (tK z t n) (look u n):=by
 unfold rO at h;induction h with
 | nil=>exact Ev.zero g
 | @cons p q t u h r a =>
  rw[Oo,yU,<- h.1];split
  .exact h.2
  .exact a
theorem rO.snoc (h:rO x t u) (e:Ev x g v):rO x (t++[(n,g)]) (u++[(n,v)]):=by
 unfold rO at h |-;induction h with
 | nil=>exact .cons ⟨rfl,e⟩ .nil
 | cons h r a=>exact .cons h a
theorem N6 (g:x z=0) (h:rO x t u) (c:Int) (f:rX->rX) (l:∀ r v,Ev x r v->Ev x (f r) (c+v)) (j:Aa Af):Ev x ((z,0)::j.flatMap λo=>f (tK z t o)) (mx (j.map λo=>c+look u o)):=by
 refine⟨λp a=>?_,?_⟩
 .rcases aF.mp a with rfl | a
  .have:=uG (j.map λo=>c+look u o);simp only[g];omega
  .obtain⟨o,b,a⟩:=jR.mp a;exact lA ((l _ _ (h.look g o)).1 p a) (Bq (aG.mpr ⟨o,b,rfl⟩))
 .rcases zZ (j.map λo=>c+look u o) with e | e
  .exact⟨(z,0),aH,by rw[e];simp[g]⟩
  .obtain⟨o,b,e⟩:=aG.mp e;obtain⟨p,a,d⟩:=(l _ _ (h.look g o)).2;exact⟨p,aN _ (jR.mpr ⟨o,b,a⟩),by rw[<- e,d]⟩
theorem BZ (g:rX) (v:Int) (h:Ev x g v):Ev x (Gr g) (1+v):=by
 obtain⟨a,p,b,e⟩:=h;refine⟨λq c=>?_,(p.1,p.2+1),aG.mpr ⟨p,b,rfl⟩,by simp only;omega⟩;obtain⟨r,d,rfl⟩:=aG.mp c;have:=a r d;simp only;omega
theorem rO.fold (l:x z=0):∀ (j:oU){t:xJ}{u:mX},rO x t u->rO x (j.foldl (Cc z) t) (j.foldl xA u)
 | [],_,_,h=>h
 | g::j,t,u,h=>rO.fold l j (h.snoc (N6 l h 1 Gr BZ g.2.2))
def vL (g:Aa Int) (i:Nat):Int:=g.getD i 0
def oJ (al:Aa (Af×Af)) (g:Aa Int):mX:=(al.map (·.2)).zip g
theorem Ey:∀ (al:Aa (Af×Af)) (g:Aa Int) (x:Af),g.length=al.length+1->look (oJ al g) x=vL g (sP al x)
 | [],g,x,h=>by
  have:g[1]?=none:=dU (by simp at h;omega);simp[oJ,Zo,sP,vL,List.getD,this]
 | p::al,[],x,h=>by simp at h
 | p::al,a::g,x,h=>by
  have e:oJ (p::al) (a::g)=(p.2,a)::oJ al g:=rfl;have b:=Ey al g x (by simpa using h);rw[e,yU];unfold sP;by_cases q:p.2=x
  .rw[bA q,bA q];rfl
  .rw[bF q,bF q,b];rfl
theorem Dd (h:g.length<=i):vL g i=0:=by simp[vL,List.getD,dU h]
theorem Wm (ins:Aa Af) (j:oU) (al:Aa (Af×Af)) (h:g.length=al.length+1):rO (vL g) (Cz (al.length+1) ins j al) (tbl ins j (look (oJ al g))):=by
 refine rO.fold (Dd (by omega)) j ?_;induction ins with
 | nil=>exact .nil
 | cons n ins b=>exact .cons ⟨rfl,⟨λp a=>by
   rw[aU.mp a];show vL g (sP al n)+0<=look (oJ al g) n;rw[Ey al g n h];omega,_,aH,by
   show look (oJ al g) n=vL g (sP al n)+0;rw[Ey al g n h];omega⟩⟩ b
def tV (ins:Aa Af) (j:oU) (g:Aa Af) (al:Aa (Af×Af)) (l:Aa Int):Aa Int :=
 (al.map λp=>look (tbl ins j (look (oJ al l))) p.1)++[mx (g.map (look (tbl ins j (look (oJ al l)))))]
def Tm (ins:Aa Af) (j:oU) (g:Aa Af) (al:Aa (Af×Af)) (i:Nat):rX :=
 match al[i]? with
 | some p=>tK (al.length+1) (Cz (al.length+1) ins j al) p.1
 | none=>if i=al.length then (al.length+1,0)::g.flatMap λo=>tK (al.length+1) (Cz (al.length+1) ins j al) o else [(al.length+1,0)]
def Fm (ins:Aa Af) (j:oU) (g:Aa Af) (al:Aa (Af×Af)) (x:Nat->Int) (i:Nat):Int:=gm x (Tm ins j g al i)
section
theorem Ru (j:Aa Int):(tV ins l g al j).length=al.length+1:=by simp[tV]
def uU (al:Aa (Af×Af)) (n:Nat) (g:rX):Prop:=g≠[]/\∀ p∈g,(p.1<al.length\/p.1=al.length+1)/\0<=p.2/\p.2<=n
theorem uU.mono (h:uU al n g) (j:n<=m):uU al m g:=⟨h.1,λp a=>by have:=h.2 p a;omega⟩
theorem Is (h:∀ p∈t,uU al n p.2) (x:Af):uU al n (tK (al.length+1) t x):=by
 induction t with
 | nil=>exact⟨by simp[tK],λp a=>by
   have:p=(al.length+1,0):=by simpa [tK] using a
   subst this;simp⟩
 | cons q t b =>
  rw[Oo];split
  .exact h q aH
  .exact b λp a=>h p (aN _ a)
theorem Qj:∀ (j:oU){n:Nat}{t:xJ},(∀ p∈t,uU al n p.2)->∀ p∈j.foldl (Cc (al.length+1)) t,uU al (n+j.length) p.2
 | [],n,t,h=>h
 | g::j,n,t,h=>by
  have:=Qj j (n:=n+1) (t:=Cc (al.length+1) t g) λp b=>by
   rcases aX.mp b with q | q
   .exact (h p q).mono (by omega)
   .rw[aU.mp q];refine⟨by simp,λr a=>?_⟩;rcases aF.mp a with rfl | a
    .exact⟨.inr rfl,eJ _,by show (0:Int)<=((n+1:Nat):Int);omega⟩
    .obtain⟨o,_,a⟩:=jR.mp a;obtain⟨s,c,rfl⟩:=aG.mp a;have:=(Is h o).2 s c;simp only;omega
  intro p b;have:=this p b;rw[bT];exact this.mono (by omega)
theorem K0:∀ p∈Cz (al.length+1) ins g al,uU al g.length p.2:=λp a=>by
 have:=Qj g (n:=0) (t:=ins.map λn=>(n,[(sP al n,0)])) (λq b=>by
  obtain⟨n,_,rfl⟩:=aG.mp b;refine⟨by simp,λr c=>?_⟩;rw[aU.mp c];exact⟨Ny al n,by simp⟩) p a
 exact this.mono (by omega)
theorem zE (i:Nat):uU al gs.length (Tm ins gs outs al i):=by
 have b:(al.length+1<al.length\/al.length+1=al.length+1)/\(0:Int)<=0/\(0:Int)<=gs.length:=⟨.inr rfl,eJ _,by omega⟩;unfold Tm;split
 .exact Is K0 _
 .split
  .refine⟨by simp,λr a=>?_⟩;rcases aF.mp a with rfl | a
   .exact b
   .obtain⟨o,_,a⟩:=jR.mp a;exact (Is K0 o).2 r a
  .refine⟨by simp,λr a=>?_⟩;rw[aU.mp a];exact b
theorem EX:Tm ins j g al (al.length+1)=[(al.length+1,0)]:=by
 unfold Tm;rw[dU (by omega)];simp
theorem Ie:Gst (Tm ins j g al) (Fm ins j g al):=⟨λx i p a=>(Dq x _ (zE i).1).1 p a,λx i=>(Dq x _ (zE i).1).2⟩
theorem V2 (g:1<=c) (C:∀ l,1<=l->l<=al.length->l ∣ c):Sys (Tm ins r o al) r.length (al.length+2) c :=
 ⟨λi j a h=>((zE i).2 _ h).2,by omega,g,λu h=>Wd (z:=al.length+1) C (λi p b=>((zE i).2 p b).1) (λp b=>by rw[EX] at b;rw[aU.mp b]) u h⟩
theorem S1 (h:j.length=al.length+1):vL (tV ins l g al j)=Fm ins l g al (vL j):=by
 have E:=Wm ins l al h;have a:vL j (al.length+1)=0:=Dd (by omega)
 funext i
 refine Ev.uniq (x:=vL j) (ts:=Tm ins l g al i) ?_ (Dq _ _ (zE i).1);unfold Tm;cases e:al[i]? with
 | some p =>
  have b:i<al.length:=(aP.mp e).1;have:vL (tV ins l g al j) i=look (tbl ins l (look (oJ al j))) p.1:=by
   simp[vL,tV,List.getD,fR (show i<(al.map λp=>look (tbl ins l (look (oJ al j))) p.1).length by simpa using b),e]
  rw[this];exact E.look a p.1
 | none =>
  have b:al.length<=i:=List.getElem?_eq_none_iff.mp e;dsimp only;split
  .rename_i q
   have:vL (tV ins l g al j) i=mx (g.map λo=>0+look (tbl ins l (look (oJ al j))) o):=by
    simp[vL,tV,List.getD,q]
   rw[this];exact N6 a E 0 (λc=>c) (λc v h=>by rw[Int.zero_add];exact h) g
  .rw[Dd (by rw[Ru];omega)];exact Ev.zero a
end
def nx (C:Cel) (al:Aa (Af×Af)) (g:Aa Int):Aa Int:=tV C.ins C.gates C.outs al g
def SL (C:Cel) (al:Aa (Af×Af)) (k:Nat):Aa Int:=((Cr C.ins C.gates al k).map (·.2))++[nB C al k]
section
variable {C:Cel}
theorem Y3 (g:Aa Int):(nx C al g).length=al.length+1:=Ru g
theorem F9 (k:Nat):(Cr C.ins C.gates al k).length=al.length:=by
 have:=cN List.length (B1 (ins:=C.ins) (gs:=C.gates) (al:=al) k)
 simpa using this
theorem pK (k:Nat):(SL C al k).length=al.length+1:=by simp[SL,F9]
theorem Kw:∀ (t:mX) (e:Int),(t.map (·.1)).zip (t.map (·.2)++[e])=t
 | [],e=>rfl
 | p::t,e=>by
  show (p.1,p.2)::(t.map (·.1)).zip (t.map (·.2)++[e])=_;rw[Kw t e]
theorem Ul (k:Nat):oJ al (SL C al k)=Cr C.ins C.gates al k:=by
 unfold oJ SL;rw[<- B1 (ins:=C.ins) (gs:=C.gates) (al:=al) k];exact Kw _ _
theorem Jd (k:Nat):nx C al (SL C al k)=SL C al (k+1):=by
 unfold nx tV;rw[Ul];simp[SL,Cr,sG,nB,oZ,Mx,Tb,bZ]
theorem Sd (h:a.length=b.length) (e:vL a=vL b):a=b:=by
 apply gB h;intro i p q;have:=congrFun e i
 simpa [vL,List.getD,p,q] using this
abbrev XL (C:Cel) (al:Aa (Af×Af)) (k:Nat):Nat->Int:=vL (SL C al k)
abbrev vW (C:Cel) (al:Aa (Af×Af)):=Fm C.ins C.gates C.outs al
abbrev Hj (C:Cel) (al:Aa (Af×Af)):=Tm C.ins C.gates C.outs al
theorem Ro (h:g.length=al.length+1):vL (nx C al g)=vW C al (vL g):=S1 h
theorem zB (k:Nat):XL C al (k+1)=vW C al (XL C al k):=by
 show vL (SL C al (k+1))=_;rw[<- Jd,Ro (pK k)]
theorem Op (i:Nat):XL C al 0 i=0:=by
 have:∀ x∈SL C al 0,x=0:=λx b=>by
  rcases aX.mp b with q | q
  .obtain⟨p,a,rfl⟩:=aG.mp q;obtain⟨r,_,rfl⟩:=aG.mp a;rfl
  .rw[aU.mp q];rfl
 show (SL C al 0).getD i 0=0;rw[iF];cases e:(SL C al 0)[i]? with
 | none=>rfl
 | some x=>exact this x (aT e)
theorem Do (k:Nat):XL C al k al.length=nB C al k:=by
 have:(SL C al k)[al.length]?=some (nB C al k):=by
  unfold SL;rw[dF (by simp[F9])];simp[F9]
 simp[XL,vL,List.getD,this]
theorem F6:Run (Hj C al) (XL C al) :=
 ⟨Op,λk i j a h=>by rw[zB];exact Ie.le (XL C al k) i (j,a) h,λk i=>by
  obtain⟨p,b,e⟩:=Ie.hit (XL C al k) (i:=i);exact⟨p.1,p.2,b,by rw[zB];exact e⟩⟩
theorem J0 (h:al.length<=4):Sys (Hj C al) C.gates.length (al.length+2) (mB al.length):=V2 (Ai _) λl a b=>Nf h a b
theorem Gs (h:al.length<=4) (i:Nat) (g:k<=l):XL C al k i<=XL C al l i:=F6.monoN (J0 h) i g
theorem Ge (h:al.length<=4) (k i:Nat):0<=XL C al k i:=by
 have:=Gs (C:=C) h i (cS k)
 rwa [Op] at this
theorem I3 (h:al.length<=4) (k:Nat):∀ x∈SL C al k,0<=x:=λx b=>by
 obtain⟨i,a,rfl⟩:=fF b;have:=Ge (C:=C) h k i
 simpa [XL,vL,List.getD,a] using this
theorem V8 (h:al.length<=4) (g:C.gates.length<=24):∃ y:Nat->Int,∀ k,7000<=k->∀ i,XL C al (k+mB al.length) i=XL C al k i+y i:=by
 obtain⟨y,_,d⟩:=F6.epAll (J0 (C:=C) h);refine⟨y,λk n i=>d k ?_ ?_ i⟩
 .have a:=xC al.length;generalize mB al.length=c at a |-;generalize C.gates.length=A at g |-;have b:al.length+2<=6:=by omega
  generalize al.length+2=M at b |-;have f:c*(A*M)<=12*(24*6):=iE a (iE g b);have m:A*c*(M+c)<=24*12*18:=iE (iE g a) (by omega);have e:(c:Int)*((A:Int)*(M:Nat))+(M:Nat)+(A:Int)*c*((M:Nat)+c)=((c*(A*M)+M+A*c*(M+c):Nat):Int):=by simp only[gZ,iU]
  have lt:c*(A*M)+M+A*c*(M+c)<k:=by omega
  have:(c:Int)*((A:Int)*(M:Nat))+(M:Nat)+(A:Int)*c*((M:Nat)+c)<k:=by rw[e];omega
  exact this
 .have a:=xC al.length;generalize mB al.length=c at a |-;have:c*(al.length+2)<=12*6:=iE a (by omega);omega
def rM (g j:Aa Int) (t:Int):Aa Int:=List.zipWith (λa b=>a+t*b) g j
def Bu (a b:Aa Int):Aa Int:=List.zipWith (λfirst last=>last-first) a b
theorem Ij (f:Int->Int->Int) (g:f 0 0=0):∀ (a b:Aa Int),a.length=b.length->∀ i,vL (List.zipWith f a b) i=f (vL a i) (vL b i)
 | [],[],_,i=>by simp[vL,g]
 | x::a,y::b,h,0=>rfl
 | x::a,y::b,h,i+1=>Ij f g a b (by simpa using h) i
 | [],_::_,h,_=>by simp at h
 | _::_,[],h,_=>by simp at h
theorem Jy (t:Int) (h:g.length=j.length) (i:Nat):vL (rM g j t) i=vL g i+t*vL j i:=Ij (λa b=>a+t*b) (by simp) g j h i
theorem W2 (h:a.length=b.length) (i:Nat):vL (Bu a b) i=vL b i-vL a i:=Ij _ (by simp) a b h i
theorem J3 (h:g.length=j.length):(rM g j t).length=g.length:=by simp[rM,h]
theorem Vb (h:a.length=b.length):(Bu a b).length=a.length:=by simp[Bu,h]
def nN (C:Cel) (al:Aa (Af×Af)) (s:Nat):Aa Int:=Bu (SL C al s) (SL C al (s+mB al.length))
theorem Bx (s:Nat):(nN C al s).length=al.length+1:=by
 unfold nN;rw[Vb (by rw[pK,pK]),pK]
theorem Gn (s i:Nat):vL (nN C al s) i=XL C al (s+mB al.length) i-XL C al s i:=W2 (by rw[pK,pK]) i
theorem Yr (h:al.length<=4) (s i:Nat):0<=vL (nN C al s) i:=by
 rw[Gn];have:=Gs (C:=C) h i (eI s (mB al.length));omega
def tU (C:Cel) (al:Aa (Af×Af)) (s k:Nat) (t:Int):Prop:=nx C al (rM (SL C al k) (nN C al s) t)=rM (SL C al (k+1)) (nN C al s) t
theorem Lu:tU C al s k t↔vW C al (λj=>XL C al k j+t*vL (nN C al s) j)=λi=>vW C al (XL C al k) i+t*vL (nN C al s) i:=by
 have c:(SL C al k).length=(nN C al s).length:=by rw[pK,Bx]
 have d:(SL C al (k+1)).length=(nN C al s).length:=by rw[pK,Bx]
 have a:vL (nx C al (rM (SL C al k) (nN C al s) t))=vW C al (λj=>XL C al k j+t*vL (nN C al s) j):=by
  rw[Ro (by rw[J3 c,pK])]
  congr 1
  exact funext (Jy t c)
 have b:vL (rM (SL C al (k+1)) (nN C al s) t)=λi=>vW C al (XL C al k) i+t*vL (nN C al s) i:=by
  funext i
  rw[Jy t d];show XL C al (k+1) i+_=_;rw[zB]
 unfold tU;constructor
 .intro h;rw[<- a,<- b,h]
 .intro h;exact Sd (by rw[Y3,J3 d,pK]) (by rw[a,b,h])
theorem BA (g:al.length<=4) (h:∀ k,s<=k->k<s+mB al.length->∃ t:Int,(∀ x∈SL C al (k+1),x<t)/\0<t/\tU C al s k t):∀ k,s<=k->∀ i,XL C al (k+mB al.length) i=XL C al k i+vL (nN C al s) i:=by
 refine Xl (F:=vW C al) zB (λi=>by rw[Gn];omega) λk c d n=>?_
 obtain⟨t,f,m,a⟩:=h k c d;have a:=Lu.mp a
 funext i
 refine Ie.steady (T:=Hj C al) (x:=XL C al k) (y:=vL (nN C al s)) (t:=t) (i:=i) (λp e=>?_) ?_ (congrFun a i) n
 .have:=Ge (C:=C) g k p.1;have:=((zE (ins:=C.ins) (gs:=C.gates) (outs:=C.outs) (al:=al) i).2 p e).2.1;omega
 .show vW C al (XL C al k) i<t;rw[<- zB];by_cases b:i<(SL C al (k+1)).length
  .have:XL C al (k+1) i=(SL C al (k+1))[i]:=by simp[XL,vL,List.getD,b]
   rw[this];exact f _ (eD b)
  .rw[show XL C al (k+1) i=0 from Dd (by omega)];exact m
theorem DZ (g:al.length<=4) (j:C.gates.length<=24) (l:7000<=s) (p:s<=k) (o:0<=t):tU C al s k t:=by
 obtain⟨y,a⟩:=V8 (C:=C) g j;have e:vL (nN C al s)=y:=funext λi=>by
  rw[Gn];have:=a s l i;omega
 obtain⟨n,rfl⟩:=cQ o;refine Lu.mpr ?_;rw[e];exact DT (s:=7000) zB a k (by omega) n
end
end Lw
namespace L2
open PySem PySem.Spec PyProof.Rows
section
variable {X:Cx}{K:lJ}
theorem Uh {bs:Aa Int}{g:Aa Ac}(r:lN (bs.map V.int) g){i:Nat}{v:Ac}(h:g[i]?=some v):∃ b t,bs[i]?=some b/\v = .int b t:=by
 have d:=r.length;rw[aB] at d;have f:i<g.length:=(aP.mp h).1;have a:bs[i]?=some (bs[i]'(by omega)):=aJ (by omega);obtain⟨u,c,e⟩:=r.get (i:=i) (x:=V.int (bs[i]'(by omega))) (by rw[aV,a];rfl);rw[h] at c;cases c;obtain⟨t,rfl⟩:=e;exact⟨_,t,a,rfl⟩
theorem CQ (bs:Aa Bool):((List.range bs.length).any λi=>(bs[i]?).getD true)=bs.any id:=by
 have e:(List.range bs.length).map (λi=>(bs[i]?).getD true)=bs:=by
  apply gB (by simp);intro i p q;simp[q]
 calc ((List.range bs.length).any λi=>(bs[i]?).getD true)=((List.range bs.length).map λi=>(bs[i]?).getD true).any id:=by rw[List.any_map];rfl
  _=bs.any id:=by rw[e]
def Pn (K:lJ):Aa V->Hp->VK->Prop:=λc H Q=>∃ (p:Ad) (a:Aa Int),c=[.ref p]/\gV K H p (a.map V.int)/\Q (.b (a.any (· != 0))) H
theorem Se (g:X.calm=true):mU X (.builtin "any") (Pn X.K):=by
 intro n s S H R P Q I r h;obtain⟨p,d,rfl,D,q⟩:=h;obtain⟨u,rfl,F⟩:=oV r;cases F;obtain⟨c,w,E,_⟩:=I.list D;have f:=E.isList;have a:=w.length;rw[aB] at a;have k:p<s.heap.objs.size:=by obtain⟨_,e,_⟩:=id f;exact aK e
 refine call_any_walk (eK f ?_);refine⟨s.heap.objs.size,[s.heap.objs.size,p],[s.heap.objs.size],c.toArray.size,_,_,λi=>((d.map (· != 0))[i]?).getD true,rfl,Walks.list (A:=X.A.in1) (I.ok.hd g) _ p (bE k) c.toArray,⟨⟨_,aQ _ rfl,rfl,rfl⟩,f.push _⟩,λi v N L G y m=>?_,λM O z=>?_⟩
 .obtain⟨b,t,e,rfl⟩:=Uh w (by simpa using y);simp only[aV,e,Option.map_some,Option.getD_some] at m;exact truthy_int m
 .have e:((List.range c.toArray.size).any λi=>((d.map (· != 0))[i]?).getD true)=d.any (· != 0):=by
   have:=CQ (d.map (· != 0));rw[aB,a] at this;rw[aM,this,List.any_map];rfl
  rw[e];exact⟨.b _,H,I.kept λb x e=>z b x (λB=>by rw[aU.mp B] at e;exact dX _ (aK e)) (aD _ e),rfl,q⟩
def Tn:OC:=λc e=>match c with
 | [.l d]=>∃ a,rT d=some a/\e (.v (.b (a.any (· != 0))))
 | _=>False
theorem Vz:qC K (Pn K) Tn:=by
 intro B L H e s t Q hd i c k;cases e with
 | nil=>exact False.elim c
 | cons d e =>
  cases e with
  | cons _ _=>cases d<;>exact False.elim c
  | nil =>
   cases d<;>first | exact False.elim c | skip
   obtain⟨x,rfl,n⟩:=rH i;obtain⟨m,f,c⟩:=c;obtain⟨a,q,rfl,h,r⟩:=n.lst_inv;rw[Bi f r] at h;exact⟨a,m,rfl,gV.of h,k _ _ H c (hd.pushF (.b _))⟩
def Eh (P:Ah) (w:World) (a:Ad) (n:Nat):HO:=.ext λh=>∃ S,h.SetOf (intKind P w) a S n
def yI (g:Aa Int):Aa Int:=firstMet (λi=>g.getD i 0) g.length
theorem Wk (l:X.calm=true):mU X (.type "set") (λj H Q=>∃ (p:Ad) (g:Aa Int),j=[.ref p]/\gV X.K H p (g.map V.int)/\g.length<=4000/\∀ a,H a=none->Q (.ref a) (upd H a (Eh X.prog X.w a (yI g).length))):=by
 intro i s N H j M Q I r h;obtain⟨p,g,rfl,A,L,q⟩:=h;obtain⟨u,rfl,D⟩:=oV r;cases D;obtain⟨f,m,B,_⟩:=I.list A;have c:=m.length;rw[aB] at c;refine call_set_list (ns:=g) (I.ok.hd l) B.isList (by simpa using BQ m) (by rw[aM];unfold scanBound;omega) λx E d y=>?_
 rw[show f.toArray.size=g.length by rw[aM,c]] at d;have hex:∃ o,x.get? s.heap.objs.size=some o:=by obtain⟨o,_,_,_,e,_⟩:=d;exact⟨o,e⟩
 refine⟨.ref s.heap.objs.size,_,I.laid (a:=s.heap.objs.size) (o:=Eh X.prog X.w s.heap.objs.size (yI g).length) (t':=E) (λb o e=>y b o (aK e) e) (aL _) ?_,rfl,q _ I.fresh⟩;refine⟨⟨_,d⟩,hex,λF G ⟨S,z⟩ k=>⟨S,?_⟩⟩;obtain⟨o,v,n,t,e,rest⟩:=z;exact⟨o,v,n,t,k o e,rest⟩
theorem S9:mU X (.builtin "len") (λg H Q=>∃ (a:Ad) (n:Nat),g=[.ref a]/\H a=some (Eh X.prog X.w a n)/\Q (.int n) H):=by
 intro b s y H g x Q I r h;obtain⟨a,n,rfl,f,q⟩:=h;obtain⟨u,rfl,k⟩:=oV r;cases k;obtain⟨⟨S,o,c,m,t,e,d,hd,_,_,v,i,rfl⟩,_⟩:=I.hok a _ f;refine call_len_set e d hd i ?_ ⟨.int c.size,H,I.tok _,⟨_,rfl⟩,q⟩;have:scanBound=4096:=rfl;omega
def wN (g:Aa Int):Prop:=g≠[]/\∀ x∈g,∀ y∈g,x=y
theorem Mz:∀ n,(∀ i,i<n->f i=c)->0<n->firstMet f n=[c]
 | 0,_,h=>absurd h (by omega)
 | 1,h,_=>by rw[firstMet_succ,firstMet_zero,h 0 (by omega)];rfl
 | n+2,h,_=>by
  rw[firstMet_succ,Mz (n+1) (λi a=>h i (by omega)) (by omega),h (n+1) (by omega)];simp[step_dedup]
theorem Zk:∀ g:Aa Int,(List.range g.length).map (λi=>g.getD i 0)=g:=λg=>by
 apply gB (by simp);intro i p q;simp[List.getD,q]
theorem CI (g:Aa Int):(yI g).length=1↔wN g:=by
 have key:=firstMet_any (λi=>g.getD i 0) g.length;rw[Zk] at key;constructor
 .intro h;obtain⟨z,n⟩:=List.length_eq_one_iff.mp h;have e:∀ x,x∈g↔x=z:=λx=>by
   have k:=key x;rw[show firstMet (λi=>g.getD i 0) g.length=[z] from n] at k;constructor
   .intro d;have:g.any (· == x)=true:=fL.mpr ⟨x,d,iG x⟩;rw[<- k] at this;obtain⟨y,a,b⟩:=fL.mp this;rw[aU.mp a] at b;exact (eq_of_beq b).symm
   .rintro rfl;have:[x].any (· == x)=true:=fL.mpr ⟨x,aH,iG x⟩;rw[k] at this;obtain⟨y,a,b⟩:=fL.mp this;rw[<- eq_of_beq b];exact a
  refine⟨λq=>?_,λx d y a=>by rw[(e x).mp d,(e y).mp a]⟩;have:=(e z).mpr rfl;rw[q] at this;exact absurd this bH
 .rintro ⟨m,h⟩;cases g with
  | nil=>exact absurd rfl m
  | cons c r =>
   unfold yI;rw[Mz (c:=c) _ (λi f=>?_) (by simp)]
   .rfl
   .have:(c::r).getD i 0∈c::r:=by
     rw[iF,aJ f];exact eD f
    exact h _ this _ aH
def Zs (i:Nat):mK:=λ_ b c=>∃ a:Aa Int,at? b i=some (.l (a.map D.int))/\a.length<=4000/\∀ m:Nat,(m=1↔wN a)->c (.v (.int m)) b
theorem Ww (h:PE X e t) (l:∀ j H Q,(∃ v,j[i]?=some (some v)/\∃ (a:Ad) (g:Aa Int),v = .ref a/\gV X.K H a (g.map V.int)/\g.length<=4000/\∀ p,H p=none->Q (.int ((yI g).length:Nat)) (upd H p (Eh X.prog X.w p (yI g).length)))->t j H Q):PD X e (Zs i) :=
 h.mono λj H Q c=>c.elim λB x T z n hd d k=>by
  obtain⟨g,q,b,f⟩:=d;obtain⟨v,s,pv⟩:=hd.peek n q;obtain⟨a,y,rfl,m,u⟩:=pv;have e:rT (g.map D.int)=some g:=yZ g;rw[Bi e u] at m;exact l j H Q ⟨_,s,a,g,rfl,gV.of m,b,λp np=>k _ x _ _ n ((hd.laid np).push (.int _)) (f _ (CI g))⟩
end
end L2
namespace PySem
open PyProof.Rows L2
section
variable {s:Ae}
theorem W7 (calm:A.handled=none) (out:∀ g e,(∀ b o,s.heap.get? b=some o->g.get? b=some o)->(∃ o,g.get? e=some o/\o.cls = .type "StopIteration")->E (.ref e) { s with heap:=g }) :
  wpAny (model j w) A (do raiseNew (<- newExc (.type "StopIteration") [])) Q E s:=by
 have c:firstArgMember (.type "StopIteration") []=pure Value.none:=by first | rfl | (simp only[firstArgMember];rfl)
 have made:wpAny (model j w) A (newExc (.type "StopIteration") []) (λv d=>∃ e g,v = .ref e/\d={ s with heap:=g }/\(∀ b o,s.heap.get? b=some o->g.get? b=some o)/\∃ o,g.get? e=some o/\o.cls = .type "StopIteration") E s:=by
  unfold newExc newTuple;refine aA (fA ?_ (by size_fits));refine aA (jS c ?_);exact fA ⟨_,_,rfl,rfl,λb o z=>aD _ (aD _ z),_,aQ _ rfl,rfl⟩ (by size_fits)
 refine aA (dB made (λv d a=>?_) λ_ _ z=>z);obtain⟨e,g,h,f,k,t⟩:=a;subst h f;unfold raiseNew;refine aA (wpAny_handled ?_);rw[calm];exact aA (aE (wpAny_throw (out g e k t)))
theorem L0 (x:s.heap.IsTupleIter g t i):∃ o,s.heap.get? g=some o/\o.data = .fields #[.ref t,.int i 0]/\s.TypeIs (.ref g) "tuple_iterator" /\ o.cls = .type "tuple_iterator" := by
 obtain⟨o,a,b,c⟩:=x;exact⟨o,a,c,⟨o,a,b⟩,b⟩
theorem DW {h:Ag}{g t:Ad}{i:Nat}{o:Obj}(a:h.get? g=some o) (b:o.cls = .type "tuple_iterator") (c:o.data = .fields #[.ref t,.int i 0]):(h.update g (Obj.mapFields (·.setIfInBounds 1 (rawInt ((i:Int)+1))))).IsTupleIter g t (i+1):=by
 refine⟨_,jK _ a (Obj.isFreed_of_fields (Obj.data_mapFields c _)),?_,?_⟩
 .rw[Obj.cls_mapFields];exact b
 .rw[Obj.data_mapFields c];simp[rawInt]
end
section
theorem Wi (I:s.heap.IsTupleIter j t i) (T:s.heap.IsTuple t C) (J:C[i]?=some x) (q:∀ g,g.IsTupleIter j t (i+1)->Heap.SameBut j s.heap g->Q x { s with heap:=g }) :
  wpAny (model l w) A (Builtin.SmallTypes.nextOf (.ref j)) Q E s:=by
 obtain⟨o,a,c,ty,b⟩:=L0 I;obtain⟨p,m,v,n,u⟩:=id T;have body:wpAny (model l w) A.in1 (Builtin.«tuple_iterator.__next__» ⟨[.ref j],[]⟩) (λr d=>∃ g,r = .done (.ret x)/\d={ s with heap:=g }/\g.IsTupleIter j t (i+1)/\Heap.SameBut j s.heap g) E s:=by
  show wpAny _ _ (field (.ref j) 0 >>= _) _ _ s;refine aA (dP a c (x:=.ref t) rfl ?_);refine (show wpAny _ _ (field (.ref j) 1 >>= _) _ _ s from aA (dP a c (x:=.int i 0) rfl (aA (dH m u ?_))));simp only[cR,J];exact aA (wpAny_setField a c (by simp) (aE ⟨_,rfl,rfl,DW a b c,Heap.SameBut.update ..⟩))
 unfold Builtin.SmallTypes.nextOf;refine aA (cD (name:=Str.ofString "__next__") ty fN (eC fN ty F.entry_tuple_iterator_next (dB body (λr d ⟨g,e,f,h,k⟩=>?_) λ_ _ z=>z) (F.args_tuple_iterator_next_1 _)));subst e f;exact⟨x,rfl,aE (q g h k)⟩
theorem T2 (calm:A.handled=none) (I:s.heap.IsTupleIter j t i) (T:s.heap.IsTuple t C) (r:C[i]?=none)
  (q:∀ g e,Heap.ExtBut j s.heap g->(∃ o,g.get? e=some o/\o.cls = .type "StopIteration")->E (.ref e) { s with heap:=g }):wpAny (model l w) A (Builtin.SmallTypes.nextOf (.ref j)) Q E s:=by
 obtain⟨o,a,c,ty,b⟩:=L0 I;obtain⟨p,d,h,n,f⟩:=id T;have body:wpAny (model l w) A.in1 (Builtin.«tuple_iterator.__next__» ⟨[.ref j],[]⟩) (λ_ _=>False) E s:=by
  show wpAny _ _ (field (.ref j) 0 >>= _) _ _ s;refine aA (dP a c (x:=.ref t) rfl ?_);refine (show wpAny _ _ (field (.ref j) 1 >>= _) _ _ s from aA (dP a c (x:=.int i 0) rfl (aA (dH d f ?_))));simp only[cR,r];refine aA (kE (aA (wpAny_setField a c (by simp) ?_)));exact W7 calm λg e k z=>q g e (λx o nx r=>k x o ((Heap.SameBut.update ..).extBut x o nx r)) z
 unfold Builtin.SmallTypes.nextOf;exact aA (cD (name:=Str.ofString "__next__") ty fN (eC fN ty F.entry_tuple_iterator_next (dB body (λ_ _ z=>z.elim) λ_ _ z=>z) (F.args_tuple_iterator_next_1 _)))
def Fd (z TI TO:Ad) (E:Ac->Ae->Prop):Ac->Ae->Prop:=λe a=>IsZip a.heap z TI TO .ellipsis/\∀ b,Heap.SameBut z a.heap b->E e { a with heap:=b }
theorem Nw {z TI TO:Ad}{a b p q:Ac}{Q:Ac->Ae->Prop}(J:IsZip s.heap z TI TO .none) (aa:IsPair s.heap TI a b)
  (go:∀ C,IsZip C z TI TO .ellipsis->Heap.SameBut z s.heap C->wpAny (model g w) A (Builtin.SmallTypes.nextOf a) (λx T=>IsPair T.heap TO p q/\∀ I,IsPair I TO x q->Heap.SameBut TO T.heap I ->wpAny (model g w) A (Builtin.SmallTypes.nextOf b) (λy U=>IsPair U.heap TO x q/\∀ j,IsPair j TO x y->Heap.SameBut TO U.heap j->IsZip j z TI TO .ellipsis /\ ∀ r,IsZip r z TI TO (rawInt j.objs.size)->IsPair r j.objs.size x y->r.objs.size=j.objs.size+1->(∀ c o,c≠z->j.get? c=some o->r.get? c=some o)->Q (.ref j.objs.size) { U with heap:=r }) (Fd z TI TO E) { T with heap:=I }) (Fd z TI TO E) { s with heap:=C }) :
  wpAny (model g w) A (Builtin.«zip.__next__» ⟨[.ref z],[]⟩) (λfin l=>∃ v,fin = .done (.ret v)/\Q v l) E s:=by
 have free:wpAny (model g w) A (Builtin.SmallTypes.ownedTupleIsFree (.ref z)) (λx l=>x=true/\l=s) E s:=aA (dP J rfl (x:=.none) rfl (aE ⟨rfl,rfl⟩));have back:∀ {i:Type} {m:Sem i} {R:i->Ae->Prop} {l:Ae},wpAny (model g w) A m R (Fd z TI TO E) l->wpAny (model g w) A (m.onRaise λ_=>setField (.ref z) 0 .none) R E l:=λ{i m R l} h =>
  wpAny_onRaise (dB h (λ_ _ z=>z) λe Y ⟨d,K⟩=>gR d (by simp) λr _ O=>K r O)
 unfold Builtin.«zip.__next__»;refine aA (aE (aA (dP J rfl (x:=.bool false) rfl (aA (dP J rfl (x:=.ref TI) rfl (aA (dH aa rfl ?_)))))));refine aA (lM free ?_);rintro _ l ⟨rfl,rfl⟩;simp only[eV];refine aA (kE (aA (dP J rfl (x:=.ref TO) rfl (aA (gR J (by simp) λC P d=>?_)))));simp only[List.zipIdx_cons,List.zipIdx_nil,jX,List.forIn_nil,bind_assoc];refine aA (back (aA (lM (go C P d) λx T ⟨B,g2⟩=>aE ?_)));refine aA (aA (dH B rfl (aA (wpAny_updateSeq_pair B λI N L=>aA (jU (aE ?_))))));refine aA (aA (back (aA (lM (g2 I N L) λy U ⟨D,H⟩=>aE ?_))));refine aA (aA (dH D rfl (aA (wpAny_updateSeq_pair D λj F M=>aA (jU (aE (aE ?_)))))));obtain⟨G,fin⟩:=H j F M;have f:z<j.objs.size:=aK G;refine aA (dH F rfl (aA (wpAny_newTuple ?_ (hsz:=(show 2<=sizeLine by decide)))));have S:IsZip (j.push (seqObj "tuple" #[x,y] 0)) z TI TO .ellipsis:=aD _ G;refine aA (show wpAny _ _ (setField (.ref z) 0 (rawInt j.objs.size) >>= λ_=>setField (.ref z) 1 (.bool false)) _ _ _ from aA (gR S (by simp) λX V t=>gR V (by simp) λk W u=>?_));have up:∀ c o,c≠z->(j.push (seqObj "tuple" #[x,y] 0)).get? c=some o->k.get? c=some o:=λc o n e=>u.extBut _ _ n (t.extBut _ _ n e)
 refine aE ⟨_,rfl,fin k W (up _ _ (gI f) (aQ _ rfl)) (by rw[u.1,t.1,cK]) λc o n e=>up c o n (aD _ e)⟩
end
def A8 (a b:Ac):Obj:={ cls:=.type "tuple",data:=.seq #[a,b] }
def K8 (a b:Ad):Obj:={ cls:=.type "zip",data:=.fields #[.none,.bool false,.bool false,.ref a,.ref b] }
def mV (b:Bool) (h:Ag) (g t:Ad) (i:Nat):Prop:=match b with
 | true=>h.IsTupleIter g t i
 | false=>h.IsListIter g t i
def mZ (b:Bool) (h:Ag) (a:Ad) (g:Array Ac):Prop:=match b with
 | true=>h.IsTuple a g
 | false=>h.IsList a g
theorem oW (x:mV b h g t i) (k:∀ o,h.get? g=some o->j.get? g=some o):mV b j g t i:=by
 cases b
 .exact let ⟨o,e,r⟩:=(show h.IsListIter g t i from x);⟨o,k o e,r⟩
 .exact let ⟨o,e,r⟩:=(show h.IsTupleIter g t i from x);⟨o,k o e,r⟩
theorem pY (x:mZ b h a g) (k:∀ o,h.get? a=some o->j.get? a=some o):mZ b j a g:=by
 cases b
 .exact let ⟨o,e,r⟩:=(show h.IsList a g from x);⟨o,k o e,r⟩
 .exact let ⟨o,e,r⟩:=(show h.IsTuple a g from x);⟨o,k o e,r⟩
theorem zD (x:mV b h g t i):∃ o,h.get? g=some o:=by
 cases b
 .exact let ⟨o,e,_⟩:=(show h.IsListIter g t i from x);⟨o,e⟩
 .exact let ⟨o,e,_⟩:=(show h.IsTupleIter g t i from x);⟨o,e⟩
theorem zK (x:mZ b h a g):∃ o,h.get? a=some o:=by
 cases b
 .exact let ⟨o,e,_⟩:=(show h.IsList a g from x);⟨o,e⟩
 .exact let ⟨o,e,_⟩:=(show h.IsTuple a g from x);⟨o,e⟩
section
theorem zH (I:mV b s.heap j t i) (T:mZ b s.heap t l) (o:l[i]?=some x) (q:∀ g,mV b g j t (i+1)->Heap.SameBut j s.heap g->Q x { s with heap:=g }) :
  wpAny (model p w) A (Builtin.SmallTypes.nextOf (.ref j)) Q E s:=by
 cases b
 .exact gS I T o q
 .exact Wi I T o q
theorem Cq (calm:A.handled=none) (I:mV b s.heap p t i) (T:mZ b s.heap t j) (l:j[i]?=none)
  (q:∀ g e,Heap.ExtBut p s.heap g->(∃ o,g.get? e=some o/\o.cls = .type "StopIteration")->E (.ref e) { s with heap:=g }):wpAny (model r w) A (Builtin.SmallTypes.nextOf (.ref p)) Q E s:=by
 cases b
 .exact jN calm I T l q
 .exact T2 calm I T l q
theorem N5 {I J:Bool}{z TI TO j l r C:Ad}{k1 k2:Nat}{xs ys:Array Ac}{x y a b:Ac}{Q:Ab Ac->Ae->Prop}(D:ZipApart z TI TO j l r C) (hz:IsZip s.heap z TI TO .none) (T:IsPair s.heap TI (.ref j) (.ref l)) (U:IsPair s.heap TO a b)
  (h1:mV I s.heap j r k1) (h2:mV J s.heap l C k2) (aa:mZ I s.heap r xs) (ab:mZ J s.heap C ys) (hx:xs[k1]?=some x) (hy:ys[k2]?=some y)
  (out:∀ g,IsZip g z TI TO (rawInt s.heap.objs.size)->IsPair g TO x y->mV I g j r (k1+1)->mV J g l C (k2+1)->IsPair g s.heap.objs.size x y->g.objs.size=s.heap.objs.size+1 ->(∀ c o,c≠z->c≠TO->c≠j->c≠l->s.heap.get? c=some o->g.get? c=some o)->Q (some (.ref s.heap.objs.size)) { s with heap:=g }):wpAny (model ac w) A (pyNext (.ref z)) Q E s:=by
 have ty:s.TypeIs (.ref z) "zip" := ⟨_,hz,rfl⟩;unfold pyNext;refine aA (eY (cD (name:=Str.ofString "__next__") ty cW (eC cW ty gE (Nw (p:=a) (q:=b) hz T λg1 Y f=>?_) (fW _))));have d:∀ c o,c≠z->s.heap.get? c=some o->g1.get? c=some o:=λc o n e=>f.extBut _ _ n e
 refine zH (oW h1 λo e=>d _ o D.i1z e) (pY aa λo e=>d _ o D.l1z e) hx λg2 S h=>?_
 have i:∀ c o,c≠j->g1.get? c=some o->g2.get? c=some o:=λc o n e=>h.extBut _ _ n e
 refine⟨i _ _ D.TOi1 (d _ _ D.TOz U),λg3 W H=>?_⟩;have k:∀ c o,c≠TO->g2.get? c=some o->g3.get? c=some o:=λc o n e=>H.extBut _ _ n e
 refine zH (oW h2 λo e=>k _ o D.TOi2.symm (i _ o D.i12.symm (d _ o D.i2z e))) (pY ab λo e=>k _ o D.l2TO (i _ o D.l2i1 (d _ o D.l2z e))) hy λF V K=>?_
 have t:∀ c o,c≠l->g3.get? c=some o->F.get? c=some o:=λc o n e=>K.extBut _ _ n e
 refine⟨t _ _ D.TOi2 W,λG X L=>?_⟩;have u:∀ c o,c≠TO->F.get? c=some o->G.get? c=some o:=λc o n e=>L.extBut _ _ n e
 have sz:G.objs.size=s.heap.objs.size:=by rw[L.1,K.1,H.1,h.1,f.1]
 refine⟨u _ _ D.TOz.symm (t _ _ D.i2z.symm (k _ _ D.TOz.symm (i _ _ D.i1z.symm Y))),λg M N O m=>?_⟩;rw[sz] at M N O |-;refine aE (out g M (m _ _ D.TOz X) (oW S λo e=>m _ o D.i1z (u _ o D.TOi1.symm (t _ o D.i12 (k _ o D.TOi1.symm e)))) (oW V λo e=>m _ o D.i2z (u _ o D.TOi2.symm e)) N O λc o v B P R e=>?_);exact m c o v (u c o B (t c o R (k c o B (i c o P (d c o v e)))))
theorem Qe {b1 l:Bool}{z TI TO j I l1 l2:Ad}{k1 k2:Nat}{xs ys:Array Ac}{a b:Ac}{Q:Ab Ac->Ae->Prop}(calm:A.handled=none) (D:ZipApart z TI TO j I l1 l2) (hz:IsZip s.heap z TI TO .none) (aa:IsPair s.heap TI (.ref j) (.ref I)) (ab:IsPair s.heap TO a b)
  (h1:mV b1 s.heap j l1 k1) (h2:mV l s.heap I l2 k2) (C:mZ b1 s.heap l1 xs) (ac:mZ l s.heap l2 ys) (r:xs[k1]?=none\/ys[k2]?=none)
  (out:∀ U,(∀ c o,c≠z->c≠TO->c≠j->c≠I->s.heap.get? c=some o->U.get? c=some o)->Q none { s with heap:=U }):wpAny (model J w) A (pyNext (.ref z)) Q E s:=by
 have ty:s.TypeIs (.ref z) "zip" := ⟨_,hz,rfl⟩;have f:∀ (g:Ag) (e:Ad),(∀ c o,c≠z->c≠TO->c≠j->c≠I->s.heap.get? c=some o->g.get? c=some o)->(∃ o,g.get? e=some o/\o.cls = .type "StopIteration")->IsZip g z TI TO .ellipsis ->
   Fd z TI TO (λe V=>wpAny (model J w) A (do if <- isInstance e (.type "StopIteration") then pure none else throw e) Q E V) (.ref e) { s with heap:=g }:=λg e k ⟨o,H,L⟩ O=>by
  refine⟨O,λU M=>?_⟩;have ne:e≠z:=λq=>by
   rw[q,O] at H;cases H;injection L with y;exact absurd y (by decide)
  exact aA (dO (T := "StopIteration") (b:=true) ⟨o,M.extBut _ _ ne H,L⟩ isSubtype_stop (aE (out U λc o h v i B q=>M.extBut _ _ h (k c o h v i B q))))
 unfold pyNext;refine aA (eY (cD (name:=Str.ofString "__next__") ty cW (eC cW ty gE (Nw (p:=a) (q:=b) hz aa λg1 N F=>?_) (fW _))));have d:∀ c o,c≠z->s.heap.get? c=some o->g1.get? c=some o:=λc o n e=>F.extBut _ _ n e
 rcases iK xs[k1]? with m | ⟨x,m⟩
 .exact Cq calm (oW h1 λo e=>d _ o D.i1z e) (pY C λo e=>d _ o D.l1z e) m λg2 e l W=>f g2 e (λc o h _ i _ q=>l c o i (d c o h q)) W (l _ _ D.i1z.symm N)
 .refine zH (oW h1 λo e=>d _ o D.i1z e) (pY C λo e=>d _ o D.l1z e) m λg2 Y G=>?_
  have t:∀ c o,c≠j->g1.get? c=some o->g2.get? c=some o:=λc o n e=>G.extBut _ _ n e
  refine⟨t _ _ D.TOi1 (d _ _ D.TOz ab),λg3 Z S=>?_⟩;have u:∀ c o,c≠TO->g2.get? c=some o->g3.get? c=some o:=λc o n e=>S.extBut _ _ n e
  have P:ys[k2]?=none:=r.elim (λn=>by rw[n] at m;cases m) id;exact Cq calm (oW h2 λo e=>u _ o D.TOi2.symm (t _ o D.i12.symm (d _ o D.i2z e))) (pY ac λo e=>u _ o D.l2TO (t _ o D.l2i1 (d _ o D.l2z e))) P λR e K X=>f R e (λc o h v i B q=>K c o B (u c o v (t c o i (d c o h q)))) X (K _ _ D.i2z.symm (u _ _ D.TOz.symm (t _ _ D.i1z.symm N)))
end
section
theorem BL {I J:Bool}{z TI TO T j l r C:Ad}{U k2:Nat}{f:Bool}{oT:Obj}{xs ys:Array Ac}{x y:Ac}{Q:Ac->Ae->Prop}(D:ZipApart z TI TO j l r C)
  (hz:tJ s.heap z TI TO T f) (hT:s.heap.get? T=some oT) (aa:IsPair s.heap TI (.ref j) (.ref l))
  (h1:mV I s.heap j r U) (h2:mV J s.heap l C k2) (ab:mZ I s.heap r xs) (ac:mZ J s.heap C ys) (hx:xs[U]?=some x) (hy:ys[k2]?=some y)
  (hQ:∀ g,tJ g z TI TO T true->mV I g j r (U+1)->mV J g l C (k2+1)->IsPair g s.heap.objs.size x y->g.objs.size=s.heap.objs.size+1 ->(∀ c o,c≠z->c≠j->c≠l->s.heap.get? c=some o->g.get? c=some o)->Q (.ref s.heap.objs.size) { s with heap:=g }) :
  wpAny (model ae w) A (Builtin.«zip.__next__» ⟨[.ref z],[]⟩) (λfin s'=>∃ v,fin = .done (.ret v)/\Q v s') E s:=by
 refine Dw hz hT aa λd K m=>?_
 have up1:∀ c o,c≠z->s.heap.get? c=some o->d.get? c=some o:=λc o n e=>m.extBut _ _ n e
 have there:mV I d j r U/\mV J d l C k2/\mZ I d r xs/\mZ J d C ys:=⟨oW h1 λo e=>up1 _ o D.i1z e,oW h2 λo e=>up1 _ o D.i2z e,pY ab λo e=>up1 _ o D.l1z e,pY ac λo e=>up1 _ o D.l2z e⟩;refine zH there.1 there.2.2.1 hx λk G q=>?_
 have a:∀ c o,c≠j->d.get? c=some o->k.get? c=some o:=λc o n e=>q.extBut _ _ n e
 refine zH (oW there.2.1 λo e=>a _ o D.i12.symm e) (pY there.2.2.2 λo e=>a _ o D.l2i1 e) hy λh H t=>?_
 have b:∀ c o,c≠l->k.get? c=some o->h.get? c=some o:=λc o n e=>t.extBut _ _ n e
 have i:h.objs.size=s.heap.objs.size:=t.1.trans (q.1.trans m.1);have more:∀ {c:Ad} {o p:Obj},h.get? c=some o->(h.push p).get? c=some o:=λe=>aD _ e
 refine wpAny_newTuple ⟨_,rfl,?_⟩ (hsz:=(show 2<=sizeLine by decide));have last:=hQ (h.push (seqObj "tuple" #[x,y] 0)) (more (b _ _ D.i2z.symm (a _ _ D.i1z.symm K))) (oW G λo e=>more (b _ o D.i12 e)) (oW H λo e=>more e) (i▸aQ _ rfl) ((cK ..).trans (by rw[i]))
  λc o u B F e=>more (b _ _ F (a _ _ B (up1 _ _ u e)))
 rw[<- i] at last;exact last
theorem Za {TI TO:Ad}(hh:A.handled=none) (D:ZipApart z TI TO j U l l2)
  (hz:tJ s.heap z TI TO T f) (hT:s.heap.get? T=some oT) (C:IsPair s.heap TI (.ref j) (.ref U))
  (h1:mV p s.heap j l k1) (h2:mV b2 s.heap U l2 k2) (I:mZ p s.heap l xs) (J:mZ b2 s.heap l2 ys) (g:xs[k1]?=none\/ys[k2]?=none)
  (hE:∀ r e,(∀ c o,c≠z->c≠j->c≠U->s.heap.get? c=some o->r.get? c=some o)->(∃ o,r.get? e=some o/\o.cls = .type "StopIteration")->E (.ref e) { s with heap:=r }) :
  wpAny (model aa w) A (Builtin.«zip.__next__» ⟨[.ref z],[]⟩) Q E s:=by
 refine Dw hz hT C λi M F=>?_
 have up1:∀ c o,c≠z->s.heap.get? c=some o->i.get? c=some o:=λc o n e=>F.extBut _ _ n e
 have there:mV p i j l k1/\mZ p i l xs:=⟨oW h1 λo e=>up1 _ o D.i1z e,pY I λo e=>up1 _ o D.l1z e⟩;rcases iK xs[k1]? with b | ⟨x,b⟩
 .exact Cq hh there.1 there.2 b λk e t H=>hE k e (λc o d h _ q=>t c o h (up1 c o d q)) H
 .refine zH there.1 there.2 b λk L G=>?_
  have a:∀ c o,c≠z->c≠j->s.heap.get? c=some o->k.get? c=some o:=λc o n m e=>G.extBut _ _ m (up1 c o n e)
  have y:ys[k2]?=none:=g.elim (λn=>by rw[n] at b;cases b) id;exact Cq hh (oW h2 λo e=>a _ o D.i2z D.i12.symm e) (pY J λo e=>a _ o D.l2z D.l2i1 e) y λB e u K=>hE B e (λc o d h v q=>u c o v (a c o d h q)) K
theorem Sa {TI TO:Ad}(D:ZipApart z TI TO r C U l2)
  (j:uB s.heap z TI TO r C) (I:mV b1 s.heap r U k) (J:mV b2 s.heap C l2 k) (l:mZ b1 s.heap U xs) (p:mZ b2 s.heap l2 ys) (hx:xs[k]?=some x) (hy:ys[k]?=some y)
  (hQ:∀ g,uB g z TI TO r C->mV b1 g r U (k+1)->mV b2 g C l2 (k+1)->IsPair g s.heap.objs.size x y->g.objs.size=s.heap.objs.size+1 ->(∀ c o,c≠z->c≠TO->c≠r->c≠C->s.heap.get? c=some o->g.get? c=some o)->Q (some (.ref s.heap.objs.size)) { s with heap:=g }) :
  wpAny (model aa w) A (pyNext (.ref z)) Q E s:=by
 obtain⟨d,⟨a,b,i⟩,j⟩:=j;obtain⟨V,P⟩:=zD I;obtain⟨W,R⟩:=zD J;have q:∀ {c o},s.heap.get? c=some o->s.heap.objs.size≠c:=λe=>(bE (aK e)).symm
 rcases j with j | ⟨T,f,o,j,F,G,S,H,K⟩
 .refine N5 D j d i I J l p hx hy λg t L u v n B h=>?_
  exact hQ g ⟨h _ _ D.TIz D.TITO D.TIi1 D.TIi2 d,⟨_,_,L⟩,.inr ⟨_,false,_,t,n,q j,q i,q P,q R⟩⟩ u v n B h
 .have m:s.TypeIs (.ref z) "zip" := ⟨_,j,rfl⟩;unfold pyNext;refine aA (eY (cD (name:=Str.ofString "__next__") m cW (eC cW m gE (BL D j F d I J l p hx hy λg t u v n B h=>aE ?_) (fW _))));exact hQ g ⟨h _ _ D.TIz D.TIi1 D.TIi2 d,⟨_,_,h _ _ D.TOz D.TOi1 D.TOi2 i⟩,.inr ⟨T,true,_,t,h _ _ G H K F,G,S,H,K⟩⟩ u v n B λc o M _ N O e=>h c o M N O e
theorem W4 {TI TO:Ad}(hh:A.handled=none) (D:ZipApart z TI TO C I l1 l2)
  (j:uB s.heap z TI TO C I) (J:mV b1 s.heap C l1 k) (U:mV b2 s.heap I l2 k) (l:mZ b1 s.heap l1 xs) (p:mZ b2 s.heap l2 ys) (g:xs[k]?=none\/ys[k]?=none)
  (hQ:∀ r,(∀ c o,c≠z->c≠TO->c≠C->c≠I->s.heap.get? c=some o->r.get? c=some o)->Q none { s with heap:=r }):wpAny (model aa w) A (pyNext (.ref z)) Q E s:=by
 obtain⟨d,⟨a,b,i⟩,j⟩:=j;rcases j with j | ⟨T,f,o,j,t,B,F,G,H⟩
 .exact Qe hh D j d i J U l p g hQ
 .have h:s.TypeIs (.ref z) "zip" := ⟨_,j,rfl⟩;unfold pyNext;refine aA (eY (cD (name:=Str.ofString "__next__") h cW (eC cW h gE (Za hh D j t d J U l p g λr e x v=>?_) (fW _))));obtain⟨o,y,u⟩:=v;refine aA (dO (T := "StopIteration") (b:=true) ⟨o,y,u⟩ isSubtype_stop ?_);exact aE (hQ _ λc o m _ n q e=>x c o m n q e)
end
section
variable {K:Type} [DecidableEq K] {knd:KeyKind prog w K}{A:Around}{R:Result->Ae->Prop}
theorem Yu {TI TO:Ad}(hh:A.handled=none) (D:ZipApart z TI TO l p I J) (hd:d∉[z,TI,TO,l,p,I,J]) (more:Aa (K×Ac)) (hn:more.length=min U.size ys.size) (j:more.length<=sizeLine)
  (hT:∀ (i:Nat) x y,U[i]?=some x->ys[i]?=some y->∃ k,knd.is k x=true/\more[i]?=some (k,y)) (h0:Ag) :
  ∀ (m i:Nat) (s:Ae),more.length-i=m->i<=more.length->uB s.heap z TI TO l p->mV r s.heap l I i->mV C s.heap p J i->mZ r s.heap I U->mZ C s.heap J ys->(∀ b o,b∉[z,TO,l,p,d]->h0.get? b=some o->s.heap.get? b=some o)->s.heap.DictOf knd d (merged [] (more.take i)) ->
   (∀ g tk,(∀ b o,b∉[z,TO,l,p,d]->h0.get? b=some o->g.get? b=some o)->g.DictOf knd d (merged [] more)->R (.ok (.ret .none)) { s with heap:=g,toks:=tk }) ->
   codeAny (model prog w) A (.builtin "dict.update.loop" ⟨[.ref d,.ref z,.int (i:Int) 0,.none],[]⟩) R s:=by
 simp only[aF,bH,eF,kW] at hd;obtain⟨d1,d2,S,V,W,d6,d7⟩:=hd;have na:∀ {b:Ad},b∉[z,TO,l,p,d]->b≠z/\b≠TO/\b≠l/\b≠p/\b≠d:=λj=>by
  simpa only [aF,bH,eF,kW] using j
 intro m;induction m with
 | zero =>
  intro i s hm hi hz Z h2 c h kp H hR;have ei:i=more.length:=by omega
  subst ei;rw[bJ (aL _)] at H;refine dM zL ?_;rw[cJ sU _];show wpAny _ A.in1 (pyNext (.ref z) >>= _) _ _ s;refine aA (W4 (by simpa using hh) D hz Z h2 c h ?_ λg B=>?_)
  .rcases Nat.le_total U.size ys.size with q | q
   .exact .inl (fH (by omega))
   .exact .inr (fH (by omega))
  .show wpAny _ A.in1 (Builtin.Dict.addKeywords d [] >>= _) _ _ _;refine aA (aE ?_);obtain⟨o,F,E,u,rest⟩:=H;exact aE (hR g _ (λb o j e=>let ⟨r,C,P,Q,b5⟩:=na j;B b o r C P Q (kp b o j e)) ⟨o,F,E,B d _ d1 S V W u,rest⟩)
 | succ m ih =>
  intro i s hm hi hz Z h2 c h kp H hR;have ab:i<more.length:=by omega
  obtain⟨x,hx⟩:∃ x,U[i]?=some x:=⟨_,eS (by omega)⟩;obtain⟨y,hy⟩:∃ y,ys[i]?=some y:=⟨_,eS (by omega)⟩;obtain⟨ky,N,t⟩:=hT i x y hx hy;refine dM zL ?_;rw[cJ sU _];show wpAny _ A.in1 (pyNext (.ref z) >>= _) _ _ s;refine aA (Sa D hz Z h2 c h hx hy λg z' ac ae pr sz B=>?_);have aa:g.DictOf knd d (merged [] (more.take i)):=by
   obtain⟨o,F,E,u,rest⟩:=H;exact⟨o,F,E,B d _ d1 S V W u,rest⟩
  have af:mZ r g I U:=pY c λo e=>B I o D.l1z D.l1TO D.l1i1 D.l1i2 e
  have ag:mZ C g J ys:=pY h λo e=>B J o D.l2z D.l2TO D.l2i1 D.l2i2 e
  have pd:s.heap.objs.size≠d:=by
   obtain⟨o,F,E,u,rest⟩:=H;exact (bE (aK u)).symm
  show wpAny _ A.in1 (holding [Value.ref s.heap.objs.size] _ >>= _) _ _ _;refine aA (bV ?_);refine aA (iC ?_);unfold Builtin.Dict.pairItems;refine aA (eW (T := "tuple") ⟨_,pr,rfl⟩ ?_);rw[bA (by decide)];refine aA (dH pr rfl ?_);refine aE ?_;show wpAny _ A.in1 (holding [x,y] (dictSet d x y)) _ _ _;refine bV ?_;have v:(merged [] (more.take i)).length<=sizeLine:=by
   have X:=merged_length_le ([]:Aa (K×Ac)) (more.take i);rw[fU,bR] at X;omega
  refine jY (hsz:=v) N aa λG n sb=>?_
  rw[<- merged_take_succ [] more i (ky,y) t] at n;refine aE ⟨fX sU _,?_⟩;have X:(rawInt ((i:Int)+1))=Value.int ((i+1:Nat):Int) 0:=by rfl
  rw[X];have up:∀ b o,b≠d->g.get? b=some o->G.get? b=some o:=λb o j e=>by rw[sb.2 b j];exact e
  have zz:uB G z TI TO l p:=by
   obtain⟨p1,⟨a,b,p2⟩,p3⟩:=z';refine⟨up _ _ (cO d2) p1,⟨a,b,up _ _ (cO S) p2⟩,?_⟩;rcases p3 with p3 | ⟨T,f,o,q1,q2,q3,q4,q5,q6⟩
   .exact .inl (up _ _ (cO d1) p3)
   .by_cases M:T=d
    .subst M;obtain⟨o',F,E,u,rest⟩:=n;exact .inr ⟨T,f,_,up _ _ (cO d1) q1,u,q3,q4,q5,q6⟩
    .exact .inr ⟨T,f,o,up _ _ (cO d1) q1,up _ _ M q2,q3,q4,q5,q6⟩
  refine ih (i+1) _ (by omega) ab zz (oW ac λo e=>up _ o (cO V) e) (oW ae λo e=>up _ o (cO W) e) (pY af λo e=>up _ o (cO d6) e) (pY ag λo e=>up _ o (cO d7) e) (λb o j e=>?_) n λY tk O L=>hR Y tk O L
  obtain⟨r,C,P,Q,b5⟩:=na j;exact up b o b5 (B b o r C P Q (kp b o j e))
theorem Sz {TI TO:Ad}(hh:A.handled=none) (D:ZipApart z TI TO U i2 l1 l2)
  (T:IsZip s.heap z TI TO .none) (l:IsPair s.heap TI (.ref U) (.ref i2)) (C:IsPair s.heap TO .none .none) (h1:mV b1 s.heap U l1 0) (h2:mV b2 s.heap i2 l2 0) (I:mZ b1 s.heap l1 xs) (J:mZ b2 s.heap l2 ys)
  (hn:more.length=min xs.size ys.size) (g:more.length<=sizeLine) (hT:∀ (i:Nat) x y,xs[i]?=some x->ys[i]?=some y->∃ k,knd.is k x=true/\more[i]?=some (k,y))
  (h:∀ (j:Ag) (tk:Nat),j.DictOf knd s.heap.objs.size (merged [] more)->(∀ b o,b∉[z,TO,U,i2]->s.heap.get? b=some o->j.get? b=some o)->Q (.ref s.heap.objs.size) { s with heap:=j,toks:=tk }) :
  wpAny (model prog w) A (call (.type "dict") [.ref z]) Q E s:=by
 let d:=s.heap.objs.size;have made:(uL s).heap.DictOf knd d []:=jW s.heap;have old:∀ b o,s.heap.get? b=some o->(uL s).heap.get? b=some o:=λb o e=>aD _ e
 refine callType_codes F.kt_called_dict (jT _) F.entry_dict_init (kt_code_dict_new _ (Q₁:=λv n=>v = .ref d/\n=uL s) ⟨rfl,rfl⟩) λv n q=>?_
 obtain⟨rfl,rfl⟩:=q;refine⟨made.typeIs,kF _ _,Nr made.typeIs (old _ _ T) (by simp[hh]) λc tk e x=>⟨fX sU _,?_⟩⟩;have keeps:∀ b o,s.heap.get? b=some o->c.get? b=some o:=λb o e=>x.keeps _ _ (old b o e)
 obtain⟨N,G⟩:=zD h1;obtain⟨O,H⟩:=zD h2;obtain⟨P,L⟩:=zK I;obtain⟨S,M⟩:=zK J;have a:∀ {b o},s.heap.get? b=some o->d≠b:=λe=>(bE (aK e)).symm
 have f:c.DictOf knd d []:=by
  obtain⟨o,u,t,p,r⟩:=made;exact⟨o,u,t,x.keeps _ _ p,r⟩
 refine Yu (knd:=knd) (by simp[hh]) D ?_ more hn g hT s.heap more.length 0 _ rfl (cS _) ⟨keeps _ _ l,⟨_,_,keeps _ _ C⟩,.inl (keeps _ _ T)⟩ (oW h1 λo e=>keeps _ o e) (oW h2 λo e=>keeps _ o e) (pY I λo e=>keeps _ o e) (pY J λo e=>keeps _ o e) (λb o _ e=>keeps b o e) (by simpa [merged] using f) λj m B fin=>?_
 .simp only[aF,bH,eF,kW];exact⟨a T,a l,a C,a G,a H,a L,a M⟩
 .refine⟨rfl,h j m fin λb o g e=>B b o (λq=>?_) e⟩;simp only[aF,bH,eF,kW] at g q;rcases q with q | q | q | q | q
  .exact g.1 q
  .exact g.2.1 q
  .exact g.2.2.1 q
  .exact g.2.2.2 q
  .exact a e q.symm
end
noncomputable def pH (b:Bool) (t:Ad):Obj:={ cls:=.type (match b with | true => "tuple_iterator" | false => "list_iterator"),data:=.fields #[.ref t,.int 0 0] }
theorem Lx (b:Bool) (e:h.get? g=some (pH b t)):mV b h g t 0:=by
 cases b
 .exact⟨_,e,rfl,rfl⟩
 .exact⟨_,e,rfl,rfl⟩
theorem K4 (T:mZ b s.heap l j) (q:Q (.ref s.heap.objs.size) { s with heap:=s.heap.push (pH b l) }):wpAny (model g w) A (pyIter (.ref l)) Q E s:=by
 cases b
 .exact eK T q
 .exact wpAny_pyIter_tuple T q
def Nj (g j:Bool) (h:Ag) (s t:Ad):Ag:=((((h.push (pH g s)).push (pH j t)).push (A8 (.ref h.objs.size) (.ref (h.push (pH g s)).objs.size))).push (A8 .none .none)).push (K8 ((h.push (pH g s)).push (pH j t)).objs.size (((h.push (pH g s)).push (pH j t)).push (A8 (.ref h.objs.size) (.ref (h.push (pH g s)).objs.size))).objs.size)
theorem X1 (j p:Bool) (l m:Ad) (C I:Array Ac):Meets (Builtin.«zip.__new__» ⟨[.type "zip",.ref l,.ref m],[]⟩) (λ_ R s=>mZ j s.heap l C/\mZ p s.heap m I /\ ∀ r,r=Nj j p s.heap l m->∀ n,n=s.heap.objs.size+4->R (.ok (.ret (.ref n))) { s with heap:=r }) :=
 .of_wp λf w A R s h=>by
  obtain⟨c,g,d,i,os⟩:=s;obtain⟨k,q,h⟩:=h;have under:=sub_zip;have a:mZ j (Shared.heap ⟨c,g,d,i,os⟩) l C:=k;have b:mZ p (Shared.heap ⟨c.push (pH j l),g,d,i,os⟩) m I:=pY q λo e=>aD _ e
  wp_walk using K4 a,K4 b
  refine⟨_,rfl,h _ rfl _ ?_⟩;rw[cK,cK,cK,cK]
section
theorem Nv (J:mZ r s.heap l U) (T:mZ C s.heap m ys)
  (q:∀ j,IsZip j (s.heap.objs.size+4) (s.heap.objs.size+2) (s.heap.objs.size+3) .none->IsPair j (s.heap.objs.size+2) (.ref s.heap.objs.size) (.ref (s.heap.objs.size+1))->IsPair j (s.heap.objs.size+3) .none .none ->mV r j s.heap.objs.size l 0->mV C j (s.heap.objs.size+1) m 0->j.objs.size=s.heap.objs.size+5->(∀ c o,s.heap.get? c=some o->j.get? c=some o)->Q (.ref (s.heap.objs.size+4)) { s with heap:=j }) :
  wpAny (model I w) A (call (.type "zip") [.ref l,.ref m]) Q E s:=by
 refine callType_new F.called_zip (by decide) (F.typeCall_zip_2 _ _) (F.newCall_zip_2 _ _) (λobj=>F.args_object_init_3 obj _ _) F.entry_zip_new (X1 r C l m U ys) ⟨J,T,λj e n k=>?_⟩;subst e k;have b:(s.heap.push (pH r l)).objs.size=s.heap.objs.size+1:=cK ..;have d:((s.heap.push (pH r l)).push (pH C m)).objs.size=s.heap.objs.size+2:=by rw[cK,b]
 have h:∀ p,(((s.heap.push (pH r l)).push (pH C m)).push p).objs.size=s.heap.objs.size+3:=λp=>by rw[cK,d]
 have i:∀ p q,((((s.heap.push (pH r l)).push (pH C m)).push p).push q).objs.size=s.heap.objs.size+4:=λp q=>by rw[cK,h]
 have a:∀ (g:Ag) (o:Obj) (n:Nat),o.isFreed=false->g.objs.size=n->(g.push o).get? n=some o:=λg o n f e=>by rw[<- e];exact aQ _ f
 have on:∀ {g:Ag} {o p:Obj} {c:Ad},g.get? c=some o->(g.push p).get? c=some o:=λe=>aD _ e
 unfold Nj;rw[b,d,h];have z:=a ((((s.heap.push (pH r l)).push (pH C m)).push (A8 (.ref s.heap.objs.size) (.ref (s.heap.objs.size+1)))).push (A8 .none .none)) (K8 (s.heap.objs.size+2) (s.heap.objs.size+3)) _ rfl (i _ _);exact⟨⟨_,z,rfl⟩,q _ z (on (on (a _ _ _ rfl d))) (on (a _ _ _ rfl (h _))) (Lx r (on (on (on (on (aQ _ rfl)))))) (Lx C (on (on (on (a _ _ _ rfl b))))) (by rw[cK,i]) λc o e=>on (on (on (on (on e))))⟩
end
end PySem
namespace L2
open PySem PySem.Spec PyProof.Rows
def qA (b:Bool) (K:lJ) (H:Hp) (a:Ad) (g:Aa V):Prop:=match b with
 | true=>mH K H a g
 | false=>gV K H a g
section
variable {X:Cx}
theorem Inv.seqB (I:Inv X j o H s) (h:qA b X.K H a l):∃ g:Aa Ac,lN l g/\mZ b s.heap a g.toArray:=by
 cases b
 .obtain⟨g,r,p,_⟩:=I.list h;exact⟨g,r,p.isList⟩
 .obtain⟨g,r,p,_⟩:=I.tuple h;exact⟨g,r,p⟩
theorem Inv.seqB_inj (I:Inv X j p H s) (h:qA b X.K H a l) (g:qA b X.K H a o):l=o:=by
 cases b
 .exact I.list_inj h g
 .exact I.tuple_inj h g
theorem Rl (x:mV b h g t i):∃ o,h.get? g=some o/\∀ v,o.data ≠ .cell v:=by
 cases b
 .obtain⟨o,e,_,d⟩:=(show h.IsListIter g t i from x);exact⟨o,e,λv z=>by rw[d] at z;cases z⟩
 .obtain⟨o,e,_,d⟩:=(show h.IsTupleIter g t i from x);exact⟨o,e,λv z=>by rw[d] at z;cases z⟩
end
def Hg (g j:Bool) (K:lJ) (a b:Ad):It :=
 ⟨λi H=>∃ c d x y,qA g K H a c/\qA j K H b d/\c[i]?=some x/\d[i]?=some y,λi H v e=>∃ p x y,H p=none/\v = .ref p/\e=upd H p (.t [x,y])/\(∀ c,qA g K H a c->c[i]?=some x)/\(∀ d,qA j K H b d->d[i]?=some y),λi H=>∃ c d,qA g K H a c/\qA j K H b d/\(c.length<=i\/d.length<=i)⟩
def BX (l o:Bool) (a b z TI TO g j:Ad) (i:Nat) (h:Ag):Prop:=IsZip h z TI TO .none/\IsPair h TI (.ref g) (.ref j)/\(∃ u v,IsPair h TO u v)/\mV l h g a i/\mV o h j b i
theorem So {P:Ah}{K:lJ}{TI TO:Ad}(D:ZipApart z TI TO i1 i2 a b) :
  Turn P w K (.Tuple ac x1 pos) (Hg b1 b2 K a b) [z,TI,TO,i1,i2] z (BX b1 b2 a b z TI TO i1 i2) where
 mem:=by simp
 obj:=λi h st c F=>by
  obtain⟨n,t,⟨u,v,A⟩,f,m⟩:=st;obtain⟨o4,f,d4⟩:=Rl f;obtain⟨o5,m,d5⟩:=Rl m;simp only[aF,bH,eF] at F;rcases F with e | e | e | e | e<;>subst e
  .exact⟨_,n,λv z=>nomatch z⟩
  .exact⟨_,t,λv z=>nomatch z⟩
  .exact⟨_,A,λv z=>nomatch z⟩
  .exact⟨_,f,d4⟩
  .exact⟨_,m,d5⟩
 keep:=λi h h' st k=>by
  obtain⟨n,t,⟨u,v,A⟩,f,m⟩:=st;exact⟨k z (by simp) _ n,k TI (by simp) _ t,⟨u,v,k TO (by simp) _ A⟩,oW f λo e=>k i1 (by simp) o e,oW m λo e=>k i2 (by simp) o e⟩
 item:=by
  intro X Y hw W F i L s σ H E I N st Z;subst Y hw W;obtain⟨n,t,⟨u,v,A⟩,f,m⟩:=st;obtain⟨xs,ys,x,y,O,Q,hx,hy⟩:=Z;obtain⟨l,U,r⟩:=I.seqB O;obtain⟨p,ry,py⟩:=I.seqB Q;obtain⟨ux,g,J⟩:=U.get hx;obtain⟨uy,j,T⟩:=ry.get hy;refine N5 D n t A f m r py (x:=ux) (y:=uy) (by simpa using g) (by simpa using j) λh' n1 n2 n3 n4 n5 n6 n7=>?_
  refine⟨_,rfl,wpAny_letOwnedTupleGo_zip n1 λh2 m1 B=>?_⟩;have kp:∀ c o,c∉[z,TI,TO,i1,i2]->s.heap.get? c=some o->h2.get? c=some o:=λc o d e=>by
   simp only[aF,bH,eF,kW] at d;obtain⟨M,e2,R,S,V⟩:=d;exact B.extBut c o M (n7 c o M R S V e)
  have zs:s.heap.objs.size≠z:=λe=>dX _ (by have:=aK n;rw[<- e] at this;exact this)
  have nt:wA h2 s.heap.objs.size [ux,uy].toArray:=⟨⟨_,B.extBut _ _ zs n5,rfl,_,rfl⟩,_,B.extBut _ _ zs n5,rfl⟩;have I2:=I.movedT (t':=s.toks) (ys:=[x,y]) N kp nt (.cons J (.cons T .nil)) (by show 2<=sizeLine;decide);refine⟨.ref s.heap.objs.size,_,I2,rfl,⟨_,x,y,I.fresh,rfl,rfl,λae C=>by rw[I.seqB_inj C O];exact hx,λaf C=>by rw[I.seqB_inj C Q];exact hy⟩,⟨m1,?_,⟨ux,uy,?_⟩,?_,?_⟩,λc d=>?_⟩
  .exact B.extBut _ _ D.TIz (n7 TI _ D.TIz D.TITO D.TIi1 D.TIi2 t)
  .exact B.extBut _ _ D.TOz n2
  .exact oW n3 λo e=>B.extBut _ o D.i1z e
  .exact oW n4 λo e=>B.extBut _ o D.i2z e
  .rw[lO]
   .exact (N c d).1
   .intro e;obtain⟨o,ho⟩:∃ o,s.heap.get? c=some o:=by
     obtain⟨o4,aa⟩:=zD f;obtain⟨o5,ab⟩:=zD m;simp only[aF,bH,eF] at d;rcases d with q | q | q | q | q<;>rw[q]
     .exact⟨_,n⟩
     .exact⟨_,t⟩
     .exact⟨_,A⟩
     .exact⟨_,aa⟩
     .exact⟨_,ab⟩
    have:=aK ho;rw[e] at this;exact dX _ this
 done:=by
  intro X Y hw W F i L s σ H E I N st Z;subst Y hw W;obtain⟨n,t,⟨u,v,A⟩,f,m⟩:=st;obtain⟨xs,ys,O,Q,G⟩:=Z;obtain⟨l,U,r⟩:=I.seqB O;obtain⟨p,ry,py⟩:=I.seqB Q;have lx:=U.length;have ly:=ry.length;refine Qe (I.ok.hd F) D n t A f m r py ?_ λh' k=>⟨rfl,I.moved (t':=s.toks) N λc o d e=>?_⟩
  .rcases G with q | q
   .exact .inl (by simp;omega)
   .exact .inr (by simp;omega)
  .simp only[aF,bH,eF,kW] at d;obtain⟨M,e2,R,S,V⟩:=d;exact k c o M R S V e
 self:=λ_ _ _ _ _ st h=>wpAny_pyIter_zip st.1 h
section
variable {X:Cx}
def Ua (K:lJ) (g:TA):TI:=λk H R=>g k H λf c=>∃ a b d e,f=[.ref a,.ref b]/\(∃ h,qA d K c a h)/\(∃ i,qA e K c b i)/\R (Hg d e K a b) c
theorem Sk (C:Gl X "zip") (J:X.mg "zip" = none) (r:PA X [j,g] U) (T:starEach [j,g] X.env=(false,eval j X.env)::starEach [g] X.env:=by rfl)
  (l:(backTo pos (starEach [g] X.env)).any (·.1)=false:=by rfl):PI X (.Tuple o x1 ps) (.Call (.Name "zip" p) [j,g] [] pos) (Ua X.K U):=by
 intro f s A H R I h;refine Call_ (sR I C J boot_zip (bY (lM (r pos f s A H _ I h) λus d n=>?_) T l));obtain⟨vs,t,i,V,P⟩:=n;obtain⟨a,b,Z,b2,rfl,⟨xs,Q⟩,⟨ys,S⟩,q⟩:=P;obtain⟨u,v,rfl,W,Y⟩:=Bh V;cases W;cases Y;obtain⟨E,rx,y⟩:=i.seqB Q;obtain⟨F,ry,py⟩:=i.seqB S;have k:a<d.heap.objs.size:=by obtain⟨_,e⟩:=zK y;exact aK e
 have m:b<d.heap.objs.size:=by obtain⟨_,e⟩:=zK py;exact aK e
 refine Nv y py λD x G L M N n6 O=>?_
 have B:Inv X f A t { d with heap:=D }:=i.kept (t':=d.toks) O;refine wpAny_pyIter_zip x ⟨_,[_,_,_,_,_],_,_,t,rfl,B,So (a:=a) (b:=b) (i1:=d.heap.objs.size) (i2:=d.heap.objs.size+1) (z:=d.heap.objs.size+4) (TI:=d.heap.objs.size+2) (TO:=d.heap.objs.size+3) ?_,⟨x,G,⟨_,_,L⟩,M,N⟩,λc w=>?_,q⟩
 .constructor<;>first | exact bE k | exact bE m | exact bE (aR k (eI _ _)) | exact bE (aR m (eI _ _)) | exact gI k | exact gI m | exact gI (aR k (eI _ _)) | exact gI (aR m (eI _ _)) | exact (by show (_:Nat)≠_;omega)
 .simp only[aF,bH,eF] at w;rcases w with e | e | e | e | e<;>(subst e;exact i.fpOk (by omega) (i.hok.fresh (by omega)))
variable {K:lJ}
def wD:D->Ab (Bool×Aa D)
 | .l a=>some (false,a)
 | .t a=>some (true,a)
 | _=>none
theorem Ed (e:wD d=some (b,j)) (r:Rep K A H d v):∃ a g,v = .ref a/\qA b K H a g/\Reps K A H j g:=by
 cases d<;>first | cases e | skip
 .obtain⟨a,g,rfl,h,r⟩:=r.tup_inv;exact⟨a,g,rfl,mH.of h,r⟩
 .obtain⟨a,g,rfl,_,h,r⟩:=r.lst_inv;exact⟨a,g,rfl,gV.of h,r⟩
def xY (g j:Aa D):Aa D:=g.zipWith (λx y=>D.t [x,y]) j
theorem Lh (g j:Aa D):(xY g j).length=min g.length j.length:=List.length_zipWith
theorem DH {g j:Aa D}{i:Nat}{x y:D}(l:g[i]?=some x) (o:j[i]?=some y):(xY g j)[i]?=some (.t [x,y]):=by
 unfold xY;rw[List.getElem?_zipWith,l,o]
theorem Yn {d1 d2:D}(r:wD d1=some (g,l)) (C:wD d2=some (j,o)):YD K (Hg g j K a b) (xY l o) [(.v d1,some (.ref a)),(.v d2,some (.ref b))]:=by
 have key:∀ A H,xM K A H [(.v d1,some (.ref a)),(.v d2,some (.ref b))]->(∃ d,qA g K H a d/\Reps K A H l d)/\∃ c,qA j K H b c/\Reps K A H o c:=λA H ok=>by
  obtain⟨v,E,h⟩:=ok (.v d1,some (.ref a)) aH;obtain⟨u,F,k⟩:=ok (.v d2,some (.ref b)) (aN _ aH);cases E;cases F;obtain⟨N,d,G,e,s⟩:=Ed r h;obtain⟨O,c,L,f,t⟩:=Ed C k;cases G;cases L;exact⟨⟨d,e,s⟩,c,f,t⟩
 refine⟨rfl,λi H A m ok=>?_,λi H A x M m ok y=>?_,λi H A m ok=>?_⟩
 .obtain⟨⟨d,e,h⟩,c,f,k⟩:=key A H ok;rw[Lh,h.length,k.length] at m;exact⟨d,c,d[i]'(by omega),c[i]'(by omega),e,f,aJ _,aJ _⟩
 .obtain⟨⟨d,e,h⟩,c,f,k⟩:=key A H ok;obtain⟨p,R,S,w,rfl,rfl,z,B⟩:=y;obtain⟨P,n,s⟩:=h.getV (z d e);obtain⟨Q,q,t⟩:=k.getV (B c f);exact⟨_,DH n q,.inr ⟨p,_,_,w,rfl,rfl,rfl,.cons s (.cons t .nil)⟩⟩
 .obtain⟨⟨d,e,h⟩,c,f,k⟩:=key A H ok;rw[Lh,h.length,k.length] at m;exact⟨d,c,e,f,by omega⟩
def ER (g:rK):uP:=λf i h=>g f i λas a=>match as with
 | [.t d1,.t d2]=>∃ d e b c,wD d1=some (d,b)/\wD d2=some (e,c)/\h (xY b c) a
 | _=>False
theorem Oq (I:Gl X "zip") (J:X.mg "zip" = none) (C:qY X [j,g] ta) (U:starEach [j,g] X.env=(false,eval j X.env)::starEach [g] X.env:=by rfl)
  (l:(backTo pos (starEach [g] X.env)).any (·.1)=false:=by rfl):wS X (.Tuple o x1 ps) (.Call (.Name "zip" p) [j,g] [] pos) (ER ta) :=
 (Sk I J C U l).mono λA H R d=>d.elim λB z T G q hd s k=>⟨B,z,T,_,q,hd,s,λas e D i u ok d1 c=>by
  cases ok with
  | nil=>exact False.elim c
  | al _ ok=>exact False.elim c
  | t ok =>
   cases ok with
   | nil=>exact False.elim c
   | al _ ok=>cases ok<;>exact False.elim c
   | t ok =>
    cases ok with
    | al _ ok=>exact False.elim c
    | t ok=>exact False.elim c
    | nil =>
     obtain⟨m,n,E,F,f,h,c⟩:=c;have r:=d1.temps (σ:=A) (.t (.t .nil)) _ rfl;cases r with
     | cons v r =>
      cases r with
      | cons w r =>
       obtain⟨a,x,rfl,g1,_⟩:=Ed f v;obtain⟨b,y,rfl,g2,_⟩:=Ed h w;exact⟨a,b,m,n,rfl,⟨x,g1⟩,⟨y,g2⟩,k _ _ e [_,_] i u d1 (Yn f h) c⟩⟩
end
end L2
namespace Lw
open PySem L2
abbrev lZ (g:Aa Int):D:=.l (g.map D.int)
theorem Ei:∀ g:Aa Int,rP (g.map D.int)=g.map PyData.int
 | []=>rfl
 | n::r=>by rw[aZ,rP,Ei r];rfl
theorem Ik:∀ g:Aa Int,tM (g.map D.int)=true
 | []=>rfl
 | n::r=>by rw[aZ,tM,Ik r];rfl
theorem Nc:∀ g:Aa Int,PyData.depthAll (g.map PyData.int)=0
 | []=>rfl
 | n::r=>by
  show max 0 (PyData.depthAll (r.map PyData.int))=0;rw[Nc r];rfl
theorem Pu:∀ j g:Aa Int,PyData.eqvAll (j.map PyData.int) (g.map PyData.int)=decide (j=g)
 | [],[]=>rfl
 | [],_::_=>rfl
 | _::_,[]=>rfl
 | n::r,m::q=>by
  show (n == m&&PyData.eqvAll (r.map PyData.int) (q.map PyData.int))=_;rw[Pu r q,gX];simp
theorem G6 (neg:Bool) (g j:Aa Int) (h:l (.v (.b (nb neg (decide (g=j)))))):zM neg (lZ g) (lZ j) l:=by
 cases j with
 | nil =>
  show l (.v (.b (nb neg (g.map D.int).isEmpty)));cases g<;>exact h
 | cons m r =>
  have e:PyData.eqv (py (lZ g)) (py (lZ (m::r)))=decide (g=m::r):=by
   show PyData.eqvAll (rP (g.map D.int)) (rP ((m::r).map D.int))=_;rw[Ei,Ei,Pu]
  have d:(py (lZ (m::r))).depth<=60:=by
   show PyData.depthAll (rP ((m::r).map D.int))+1<=60;rw[Ei,Nc];decide
  have:nX (lZ g)=true/\nX (lZ (m::r))=true/\min (py (lZ g)).depth (py (lZ (m::r))).depth<=60/\l (.v (.b (nb neg (PyData.eqv (py (lZ g)) (py (lZ (m::r))))))):=by
   refine⟨Ik _,Ik _,bX (Nat.min_le_right _ _) d,?_⟩;rw[e];exact h
  exact this
theorem Po (j g:Aa Int):xY (j.map D.int) (g.map D.int)=(j.zip g).map λp=>D.t [.int p.1,.int p.2]:=by
 unfold xY;rw[List.zipWith_map,List.zip,iH]
theorem Uo (C:Cel) (al:Aa (Af×Af)) (k:Nat):qP (Cr C.ins C.gates al k) (nB C al k)=lZ (SL C al k):=by
 simp[qP,lZ,SL,bZ]
def Ce:RD:=λd b c=>∃ (C:Cel) (al:Aa (Af×Af)) (a:Aa Int),b=[nH C al,lZ a]/\GoodRow C al/\a.length=al.length+1/\(∀ x∈a,0<=x)/\c (.o (lZ (nx C al a)))
theorem Xb (h:Ce g j l):Ia g j l:=by
 obtain⟨C,al,a,rfl,i,b,f,d⟩:=h;have k:(oJ al a).map (·.1)=al.map (·.2):=by
  unfold oJ;exact List.map_fst_zip (by simp;omega)
 obtain⟨is,e,rfl⟩:∃ is e,a=is++[e]:=⟨a.dropLast,a.getLast (by intro q;simp[q] at b),(List.dropLast_concat_getLast _).symm⟩;have c:is.length=al.length:=by simpa using b
 have v:(oJ al (is++[e])).map (·.2)=is:=by
  unfold oJ;have:(al.map (·.2)).zip (is++[e])=(al.map (·.2)).zip is:=by
   have:=lE (l₁:=al.map (·.2)) (r₁:=[]) (l₂:=is) (r₂:=[e]) (by simp[c])
   simpa using this
  rw[this];exact List.map_snd_zip (by simp;omega)
 refine⟨C,al,oJ al (is++[e]),e,?_,i,k,λx=>?_,?_⟩
 .have:qP (oJ al (is++[e])) e=lZ (is++[e]):=by
   unfold qP;have:(oJ al (is++[e])).map (λp=>D.int p.2)=is.map D.int:=by
    have:=cN (List.map D.int) v
    rwa [bI] at this
   rw[this];simp[lZ]
  rw[this]
 .rw[Ey al _ x b];show 0<=(is++[e]).getD _ 0;rw[iF];cases q:(is++[e])[sP al x]? with
  | none=>exact eJ _
  | some y=>exact f y (aT q)
 .have:qP (sG al (tbl C.ins C.gates (look (oJ al (is++[e]))))) (mx (C.outs.map (look (tbl C.ins C.gates (look (oJ al (is++[e])))))))=lZ (nx C al (is++[e])):=by
   simp[qP,lZ,nx,tV,sG,bZ]
  rw[this];exact d
theorem EQ (h:a.length=y.length) (g:∀ i,0<=vL a i) (l:∀ i,0<=vL y i) (j:0<=t):∀ x∈rM a y t,0<=x:=λx c=>by
 obtain⟨i,b,rfl⟩:=fF c;have e:=Jy t h i;have:vL (rM a y t) i=(rM a y t)[i]:=by simp[vL,List.getD,b]
 rw[<- this,e];have:=jJ j (l i);have:=g i;omega
theorem Ub (h:al.length<=4) (g:C.gates.length<=24) (k i:Nat):XL C al k i<=24*k:=by
 obtain⟨j,hw⟩:=(F6 (C:=C) (al:=al)).way k i;have:=(hw.bound (J0 h)).2;have:(C.gates.length:Int)*k<=24*k:=cF (by omega) (by omega);omega
theorem Xi (h:al.length<=4) (g:C.gates.length<=24) (k:Nat):∀ x∈SL C al k,x<=24*k:=λx b=>by
 obtain⟨i,a,rfl⟩:=fF b;have:=Ub (C:=C) h g k i
 simpa [XL,vL,List.getD,a] using this
theorem Kn.mono {P:Ah}{K:lJ}{st:Stmt}{R:RD}(h:Kn P w K p base k x st C R) (o:∀ g j l,R' g j l->R g j l):Kn P w K p base k x st C R' :=
 h.elim λ_ h=>h.elim λ_ h=>⟨_,_,h.1,h.2.imp λe H Q E ⟨g,A,j,l,a,b,c,r,d⟩=>⟨g,A,j,l,a,b,c,o _ _ _ r,d⟩⟩
theorem Tu (g:Aa D) (x:D):nI (g++[x]) none (some (-1))=g:=by
 unfold nI;have e:HT.sIx (g++[x]).length (g++[x]).length (some (-1))=g.length:=by
  show (if (-1:Int)<0 then ((-1:Int)+((g++[x]).length:Int)).toNat else min (-1:Int).toNat (g++[x]).length)=_;rw[bA (by decide),bL,hV];omega
 rw[HT.sIx_none,e];simp
theorem Xs (f:Nat->D) (m c:Nat):nI ((List.range (m+c+1)).map f) (some (-1-(c:Int))) none=(List.range (c+1)).map λj=>f (m+j):=by
 unfold nI;have e:HT.sIx ((List.range (m+c+1)).map f).length 0 (some (-1-(c:Int)))=m:=by
  show (if (-1-(c:Int))<0 then ((-1-(c:Int))+(((List.range (m+c+1)).map f).length:Int)).toNat else _)=_;rw[bA (by omega),aB,bN];omega
 rw[e,HT.sIx_none];apply gB
 .simp;omega
 .intro i p q;simp
def Eb (C:Cel) (al:Aa (Af×Af)) (s:Nat):Prop:=∀ k,s<=k->∀ i,XL C al (k+mB al.length) i=XL C al k i+vL (nN C al s) i
instance {C:Cel} {al:Aa (Af×Af)} {s k:Nat} {t:Int}:Decidable (tU C al s k t):=by unfold tU;infer_instance
theorem Eg (B:Nat) (m:Aa Sl->Nat) (Pv:Nat->Aa Sl->Prop) (p:∀ n g,Pv n g->m g=n) (I:Nat) (C:Pv I g)
  (step:∀ (n:Nat) (g:Aa Sl) (N:Aa Sl->Prop),Pv n g->(n<B->∀ j,Pv (n+1) j->N j)->c r g λb l=>if b=true then J r { nx:=N,ct:=N,bk:=o.nx,rt:=o.rt } l else o.nx l):Nq c J r o g :=
 ⟨λg=>Pv (m g) g,λg=>B-m g,by show Pv (m g) g;rw[p _ _ C];exact C,λg a=>step (m g) g _ a λlt j h=>⟨by show Pv (m j) j;rw[p _ _ h];exact h,by show B-m j<B-m g;rw[p _ _ h];omega⟩⟩
theorem Fw {p:Prop} [Decidable p] (h:p){a b:Prop}(g:a):if decide p=true then a else b:=by rw[cV h];exact g
theorem Ax {p:Prop} [Decidable p] (h:¬ p){a b:Prop}(g:b):if decide p=true then a else b:=by rw[cG h];exact g
def Kr:RD:=λc a b=>∃ n:Nat,a=[.int n]/\n<=4/\b (.v (.int (mB n:Nat)))
def Ql:RD:=λe c d=>∃ (a b:Aa Int) (t:Int),c=[lZ a,lZ b,.int t]/\a.length<=100/\-(2 ^ 64)<t/\t<2 ^ 64/\d (.o (lZ (rM a b t)))
def Lf:RD:=λd a c=>∃ (C:Cel) (al:Aa (Af×Af)) (s k:Nat),a=[nH C al,lZ (SL C al k),lZ (nN C al s)]/\GoodRow C al/\k<=8000/\c (.v (.b (decide (tU C al s k (1+mx (SL C al (k+1)))))))
def tH (C:Cel) (al:Aa (Af×Af)) (s n:Nat):D:=.l ((List.range n).map λj=>lZ (SL C al (s+j)))
def O0:RD:=λd a c=>∃ (C:Cel) (al:Aa (Af×Af)) (s:Nat),a=[nH C al,tH C al s (mB al.length+1)]/\GoodRow C al/\s<=7900/\∀ b:Bool,(b=true->Eb C al s)->(7000<=s->b=true)->c (.v (.b b))
def Rv:RD:=λc a b=>∃ (C:Cel) (al:Aa (Af×Af)),a=[nH C al,.int (mB al.length:Nat)]/\GoodRow C al/\∀ s:Nat,s<=7000->Eb C al s->b (.v (.int s))
theorem Z9:(["size","ring"]:Aa Af).Nodup:=by decide +kernel
theorem P6:(["late","more","times"]:Aa Af).Nodup:=by decide +kernel
theorem P0:(["first","last"]:Aa Af).Nodup:=by decide +kernel
theorem Yq:(["state","row","added"]:Aa Af).Nodup:=by decide +kernel
section
variable {P:Ah}{K:lJ}
theorem Iv:FnScope ["count","ring"] ["count"] (mG F2):=pD
theorem EW (T:Txt g):oR P w K g base 1 "common_ring" F2 ["count"] Kr:=by
 refine pN Iv λf F A y s H E S V C W X M=>?_
 obtain⟨n,rfl,D,u⟩:=M;refine⟨_,(lK (mD 1 Iv.nd hI) (lK (yA dZ (wM (nD (Se rfl) Vz T.any PyProof.Rows.boot_any (dK (pV ["size"] ["ring"] [1] (E6 (by rfl) T.range hI (nZ mR mS 0 hI)) (λ_ _ _ _ _=>(mC 0 Z9)) (λ_ _ _ _ _=>(nZ rB Th 1 (eM 0)))) dT))) (mN (G3 (n:=1) Iv.nd rfl (Or.inr rfl) hI K1))) (mN (nT (eM 1))))),?_⟩;have m:=Ai n;have G:=xC n;refine lP (λb=>b=[.v (.int n),.v (.int 1)]) (λN t=>t _ rfl) ?_;rintro _ rfl;refine lP (λb=>b=[.v (.int n),.v (.int (mB n:Nat))]) (λN t=>?_) ?_
 .refine⟨λb=>∃ r:Nat,1<=r/\r<=mB n/\b=[.v (.int n),.v (.int r)],λb=>match b with | [_,.v (.int r)]=>(12-r).toNat | _=>0,⟨1,by omega,m,rfl⟩,?_⟩;rintro b ⟨r,Q,o,rfl⟩;unfold Kv dC aC;have e:(((n:Int)+1-1).toNat:Nat)=n:=by omega
  refine oO (List.range n) (λi=>.int (1+(i:Nat))) (λi=>.int ((r:Int)%(1+(i:Nat)))) [.v (.int n),.v (.int r)] (λI h=>⟨rfl,⟨by omega,by omega,by omega,by omega⟩,by rw[e];exact h⟩) (by rw[bN];omega) (λi x p R e m L=>⟨rfl,by show (0:Int)<1+(x:Nat);omega,m,L⟩) ?_;refine⟨(List.range n).map λi=>(r:Int)%(1+(i:Nat)),by have:=yZ ((List.range n).map λ(i:Nat)=>(r:Int)%(1+(i:Nat)));rwa [bI] at this,rfl,_,rfl,?_⟩;have a:∀ l:Nat,(r:Int)%((l:Nat):Int)=((r%l:Nat):Int):=λl=>by simp
  cases q:((List.range n).map λ(i:Nat)=>(r:Int)%(1+(i:Nat))).any (· != 0) with
  | true =>
   obtain⟨x,O,nx⟩:=fL.mp q;obtain⟨i,B,rfl⟩:=aG.mp O;have B:=bW.mp B;have lt:r<mB n:=cI λz=>by
    have:r=mB n:=by omega
    have d:=Nf D (show 1<=1+i by omega) (show 1+i<=n by omega);rw[<- this] at d;have:=Nat.mod_eq_zero_of_dvd d;have c:=a (1+i);rw[this] at c;simp only[bne_iff_ne,ne_eq] at nx;refine nx ?_;have k:((1+i:Nat):Int)=1+(i:Int):=by omega
    rw[k] at c;exact c
   refine⟨⟨r+1,by omega,by omega,rfl⟩,?_⟩;show ((12:Int)-((r:Int)+1)).toNat<((12:Int)-(r:Int)).toNat;omega
  | false =>
   have:r=mB n:=cI λz=>by
    obtain⟨l,Y,Z,j⟩:=Yc D Q (by omega);have:=List.any_eq_false.mp q ((r:Int)%(1+((l-1:Nat):Nat))) (aG.mpr ⟨l-1,bW.mpr (by omega),rfl⟩);have k:(1:Int)+((l-1:Nat):Int)=(l:Nat):=by omega
    rw[k,a] at this;simp at this;omega
   subst this;exact t _ rfl
 .rintro _ rfl;exact u
theorem BP:FnScope ["state","added","times"] ["state","added","times"] (mG Fn):=pD
theorem AE (T:Txt g):oR P w K g base 1 "more_by" Fn ["state","added","times"] Ql:=by
 refine pN BP λf q A m s H E F G Q M N z=>?_
 obtain⟨a,b,t,rfl,L,c,d,k⟩:=z;refine⟨_,(mN (nT (pV ["late","more"] ["times"] [2] (Oq (by rfl) T.zip (dK (eM 0) (dK (eM 1) dT))) (λ_ _ _ _ _=>(sK (n:=2) rfl (nP (mC 0 P6) (nP (mC 1 P6) sY)))) (λ_ _ _ _ _=>(nZ mR mS 0 (nZ wZ xS 2 (eM 1))))))),?_⟩;refine oO (a.zip b) (λp=>.t [.int p.1,.int p.2]) (λp=>.int (p.1+t*p.2)) [.v (lZ a),.v (lZ b),.v (.int t)] (λR h=>⟨_,_,_,_,rfl,rfl,by rw[Po];exact h⟩) (by rw[fC];omega) (λi x O B e u y=>⟨rfl,rfl,rfl,rfl,.inl ⟨c,d⟩,u,y⟩) ?_;have:(a.zip b).map (λp=>D.int (p.1+t*p.2))=(rM a b t).map D.int:=by
  unfold rM;rw[List.zip,iH,iH]
 rw[this];exact k
theorem Gq:FnScope ["row","state","added","after","times"] ["row","state","added"] (mG C0):=pD
theorem DR (T:Txt l) (g:Kn P w K l base 2 "one_cell_more" zI ["row","state"] Ce) (j:Kn P w K l base 1 "more_by" Fn ["state","added","times"] Ql) :
  oR P w K l base 3 "adds_always" C0 ["row","state","added"] Lf:=by
 refine pN Gq λf t A i s H E y z L b D u=>?_
 obtain⟨C,al,s,k,rfl,c,B,h⟩:=u;refine⟨_,(lK (mD 3 Gq.nd (mI g b (dK (eM 0) (dK (eM 1) dT)))) (lK (mD 4 Gq.nd (nC mR mS hI (nD (Ck rfl) Et T.max hZ (dK (eM 3) dT)))) (mN (nT (Cn (Df b.units) (wG false) (mI g b (dK (eM 0) (dK (mI j b (dK (eM 1) (dK (eM 2) (dK (eM 4) dT)))) dT))) (mI j b (dK (eM 3) (dK (eM 2) (dK (eM 4) dT))))))))),?_⟩;have a:=c.la;have d:=c.good.lg;refine⟨C,al,SL C al k,rfl,c,pK k,I3 a k,.inl rfl,?_⟩;rw[Jd];dsimp only;refine⟨_,yZ _,by intro q;have:=pK (C:=C) (al:=al) (k+1);rw[q] at this;simp at this,λm e v=>?_⟩;have G:=Xi (C:=C) a d (k+1) m e;have x:=I3 (C:=C) a (k+1) m e;have n:(SL C al k).length=(nN C al s).length:=by rw[pK,Bx]
 have F:(SL C al (k+1)).length=(nN C al s).length:=by rw[pK,Bx]
 refine⟨SL C al k,nN C al s,1+m,rfl,by rw[pK];omega,by omega,by omega,.inl rfl,?_⟩;refine⟨C,al,rM (SL C al k) (nN C al s) (1+m),rfl,c,by rw[J3 n,pK],EQ n (Ge a k) (Yr a s) (by omega),?_⟩;refine⟨.inl rfl,SL C al (k+1),nN C al s,1+m,rfl,by rw[pK];omega,by omega,by omega,.inl rfl,?_⟩;refine G6 false _ _ ?_;rw[yN (ns:=SL C al (k+1)) (m:=m) (.inr e) x v];exact h
theorem Pf:FnScope ["row","states","added"] ["row","states"] (mG B9):=pD
theorem EC (T:Txt l) (g:Kn P w K l base 3 "adds_always" C0 ["row","state","added"] Lf) :
  oR P w K l base 4 "are_steady" B9 ["row","states"] O0:=by
 refine pN Pf λf M A y s H E I J Φ W B S=>?_
 obtain⟨C,al,s,rfl,q,hs,u⟩:=S;refine⟨_,(lK (mD 2 Pf.nd (pV ["first","last"] [] [] (Oq (by rfl) T.zip (dK (lV B 1 hI) (dK (lV B 1 (tX hI)) dT))) (λ_ _ _ _ _=>(sK (n:=2) rfl (nP (mC 0 P0) (nP (mC 1 P0) sY)))) (λ_ _ _ _ _=>(nZ sX uA 1 (eM 0))))) (mN (nT (nD (Vd rfl) Su T.all PyProof.Rows.boot_all (dK (pV ["state"] ["row","added"] [0,2] (nV (sB sC sE (pv 1) sT (rL (tX hI)))) (λ_ _ _ _ _=>(mC 0 Yq)) (λ_ _ _ _ _=>(mI g W (dK (eM 1) (dK (eM 0) (qK (pv 2) dT)))))) dT))))),?_⟩;have z:=q.la;have m:=q.good.lg;have r:=Ai al.length;have L:=xC al.length;refine lP (λZ=>Z=[.v (nH C al),.v (tH C al s (mB al.length+1)),.o (lZ (nN C al s))]) (λN R=>?_) ?_
 .have G:mQ ((List.range (mB al.length+1)).map λj=>lZ (SL C al (s+j))) 0=some (lZ (SL C al (s+0))):=oA (j:=0) (by rw[aV,eO (by omega)];rfl);refine oO ((SL C al s).zip (SL C al (s+mB al.length))) (λp=>.t [.int p.1,.int p.2]) (λp=>.int (p.2-p.1)) [.v (nH C al),.v (tH C al s (mB al.length+1)),.n] (λY h=>⟨rfl,_,G,rfl,_,E4 _ _,_,_,_,_,rfl,rfl,by rw[Po];exact h⟩) (by rw[fC,pK];omega) (λi x X F e c d=>⟨rfl,rfl,rfl,c,d⟩) ?_;have:((SL C al s).zip (SL C al (s+mB al.length))).map (λp=>D.int (p.2-p.1))=(nN C al s).map D.int:=by
   unfold nN Bu;rw[List.zip,iH,iH]
  rw[this];exact R _ rfl
 rintro _ rfl;unfold Eo dC aC;refine oO (List.range (mB al.length)) (λj=>lZ (SL C al (s+j))) (λj=>.b (decide (tU C al s (s+j) (1+mx (SL C al (s+j+1)))))) [.v (nH C al),.v (tH C al s (mB al.length+1)),.o (lZ (nN C al s))] (λY h=>?_) (by rw[bN];omega) (λi x X F e c d=>?_) ?_
 .have O:nI ((List.range (mB al.length+1)).map λj=>lZ (SL C al (s+j))) none (some (-1))=(List.range (mB al.length)).map λj=>lZ (SL C al (s+j)):=by
   rw[eR,aY];exact Tu _ _
  rw[<- O] at h;exact⟨rfl,h⟩
 .have a:x<mB al.length:=bW.mp (aT e);exact⟨rfl,C,al,s,s+x,rfl,q,by omega,.inr rfl,c,d⟩
 .refine⟨(List.range (mB al.length)).map λj=>decide (tU C al s (s+j) (1+mx (SL C al (s+j+1)))),by have:=Qf ((List.range (mB al.length)).map λj=>decide (tU C al s (s+j) (1+mx (SL C al (s+j+1)))));rwa [bI] at this,?_⟩;refine u _ (λV=>?_) λQ=>?_
  .refine BA z λk k1 k2=>⟨1+mx (SL C al (k+1)),λx a=>by have:=Bq a;omega,by have:=uG (SL C al (k+1));omega,?_⟩
   have:=cE.mp V (decide (tU C al s (s+(k-s)) (1+mx (SL C al (s+(k-s)+1))))) (aG.mpr ⟨k-s,bW.mpr (by omega),rfl⟩);rw[show s+(k-s)=k by omega] at this;exact dR this
  .refine cE.mpr λx a=>?_
   obtain⟨j,U,rfl⟩:=aG.mp a;exact cV (DZ z m Q (by omega) (by have:=uG (SL C al (s+j+1));omega))
theorem P5:FnScope ["row","ring","states"] ["row","ring"] (mG Di):=pD
theorem Z0 (T:Txt I) (r:Kn P w K I base 1 "at_edges" zR ["row"] Jz) (g:Kn P w K I base 2 "one_cell_more" zI ["row","state"] Ce) (p:Kn P w K I base 4 "are_steady" B9 ["row","states"] O0) :
  oR P w K I base 5 "steady_from" Di ["row","ring"] Rv:=by
 refine pN P5 λf M A G s H E U ds Y B W S=>?_
 obtain⟨C,al,rfl,d,F⟩:=S;refine⟨_,(lK (mD 2 P5.nd (mW (dK (mI r B (dK (eM 0) dT)) dT))) (lK (yA dZ (yL (yH (wJ EM BR (nD pE oY T.len bG (qK (pv 2) dT)) (eM 1)) (E8 (zF (wM (mI p B (dK (eM 0) (dK (sB sC sE (pv 2) (rL (nC sX uA (tX hI) (eM 1))) sT) dT)))))))) (mN (qJ (oX aO bB bC pF qH (pv 2) (dK (mI g B (dK (eM 0) (dK (lV W 2 (tX hI)) dT))) dT))))) (mN (nT (nC sX uA (nC sX uA (nD pE oY T.len bG (qK (pv 2) dT)) hI) (eM 1)))))),?_⟩;have R:=d.la;have Q:=d.good.lg;have J:=Ai al.length;have L:=xC al.length;refine lP (λa=>a=[.v (nH C al),.v (.int (mB al.length:Nat)),.o (tH C al 0 1)]) (λN t=>?_) ?_
 .refine⟨C,al,rfl,by omega,.inl rfl,by show 1<=1000;decide,t _ ?_⟩;have:D.l (List.replicate (al.length+1) (D.int 0))=lZ (SL C al 0):=by
   rw[<- Uo];unfold qP Cr nB;rw[bI,List.replicate_succ']
   congr 2
   generalize al=q;induction q with
   | nil=>rfl
   | cons x q X=>rw[bT,cB,X];rfl
  rw[this];rfl
 rintro _ rfl;refine lP (λa=>∃ s:Nat,s<=7000/\Eb C al s/\a=[.v (nH C al),.v (.int (mB al.length:Nat)),.o (tH C al 0 (s+mB al.length+1))]) (λN t=>?_) ?_
 .refine Eg 7900 (λa=>match a with | [_,_,.o (.l q)]=>q.length-1 | _=>0) (λn a=>n<=7000+mB al.length/\a=[.v (nH C al),.v (.int (mB al.length:Nat)),.o (tH C al 0 (n+1))]) (λn a h=>?_) 0 ⟨by omega,rfl⟩ λn a Z h c=>?_
  .rw[h.2];show ((List.range (n+1)).map _).length-1=n;simp
  obtain⟨hn,rfl⟩:=h;have app:tH C al 0 (n+1+1) = .l (((List.range (n+1)).map λj=>lZ (SL C al (0+j)))++[lZ (nx C al (SL C al (0+n)))]):=by
   unfold tH;rw[eR (n:=n+1),aY,Jd];simp
  have len:((List.range (n+1)).map λj=>lZ (SL C al (0+j))).length=n+1:=by simp
  have k:=I3 (C:=C) (al:=al) R (0+n);refine⟨rfl,rfl,_,rfl,?_⟩;show if decide ((((List.range (n+1)).map λj=>lZ (SL C al (0+j))).length:Int)<=((mB al.length:Nat):Int))=true then _ else _
  rw[len];by_cases i:((n+1:Nat):Int)<=((mB al.length:Nat):Int)
  .refine Fw i ?_;refine⟨rfl,rfl,_,E4 _ n,C,al,_,rfl,d,pK _,k,.inl rfl,by show ((List.range (n+1)).map _).length<100000;simp;omega,?_⟩;exact c (by omega) _ ⟨by omega,by rw[app];rfl⟩
  .refine Ax i ?_;obtain⟨m,rfl⟩:∃ m,n=m+mB al.length:=⟨n-mB al.length,by omega⟩;have O:D.l (nI ((List.range (m+mB al.length+1)).map λj=>lZ (SL C al (0+j))) (some (-1-((mB al.length:Nat):Int))) none)=tH C al m (mB al.length+1):=by
    rw[Xs];simp[tH]
   refine⟨rfl,C,al,m,by rw[<- O],d,by omega,λb u y=>⟨.inl rfl,rfl,_,rfl,?_⟩⟩;cases b with
   | true=>exact t _ ⟨m,by omega,u rfl,rfl⟩
   | false =>
    have m7:m<7000:=cI λz=>by have:=y (by omega);cases this
    refine⟨rfl,rfl,_,E4 _ (m+mB al.length),C,al,_,rfl,d,pK _,k,.inl rfl,by show ((List.range (m+mB al.length+1)).map _).length<100000;simp;omega,?_⟩;exact c (by omega) _ ⟨by omega,by rw[app];rfl⟩
 rintro _ ⟨s,V,st,rfl⟩;refine⟨rfl,rfl,_,rfl,?_⟩;have e:((((List.range (s+mB al.length+1)).map λj=>lZ (SL C al (0+j))).length:Nat):Int)-1-((mB al.length:Nat):Int)=(s:Nat):=by
  rw[aB,bN];omega
 show Y (.v (.int (((((List.range (s+mB al.length+1)).map λj=>lZ (SL C al (0+j))).length:Nat):Int)-1-((mB al.length:Nat):Int))));rw[e];exact F s V st
end
structure Told (L:Nat->Int) (count ring:Nat) (a:Int):Prop where
 r1:1<=ring
 rc:ring<=count
 a0:0<=a
 grow:∀ k,count<k->L k=L (k-ring)+a
 edge:ring<count->L count≠L (count-ring)+a
 least:∀ (q K:Nat) (c:Int),1<=q->q<ring->count<K+ring->(∀ k,K<=k->k<K+ring->L (k+q)-L k=c)->False
theorem AN {W:Nat}(g:0<W) (l:∀ k,s<=k->L (k+W)=L k+y) (I:1<=r) (j:∀ k,s<=k->k<s+W->L (k+r)-L k=a)
  (min:∀ q,1<=q->q<r->∀ c,¬ ∀ k,s<=k->k<s+W->L (k+q)-L k=c) (mono:L s<=L (s+r)) (o:r<=count) (J:count<=s+r) (p:∀ k,count<k->k<=s+r->L k=L (k-r)+a) (C:r<count->L count≠L (count-r)+a):Told L count r a:=by
 have b:=Ps g l j;have grow:∀ k,count<k->L k=L (k-r)+a:=λk e=>by
  by_cases z:k<=s+r
  .exact p k e z
  .have:=b (k-r) (by omega)
   rwa [show k-r+r=k by omega] at this
 refine⟨I,o,?_,grow,C,λq K c i m n f=>?_⟩
 .have:=j s (aL _) (by omega);omega
 .have d:∀ k,K<=k->L (k+r)=L k+a:=λk e=>by
   have:=grow (k+r) (by omega)
   rwa [show k+r-r=k by omega] at this
  have:=DA g l (show 0<r by omega) d f;exact min q i m c λk h _=>by have:=this k h;omega
def Kk:RD:=λd b c=>∃ (C:Cel) (al:Aa (Af×Af)),b=[nH C al]/\GoodRow C al/\∀ (count ring:Nat) (a:Int),Told (nB C al) count ring a->count<=7012->ring<=12->c (.v (.t [.t ((List.range count).map λi=>D.int (nB C al (i+1))),.int ring,.int a]))
theorem AM (h:Eb C al s) (k:Nat) (g:s<=k):nB C al (k+mB al.length)=nB C al k+vL (nN C al s) al.length:=by
 have:=h k g al.length
 rwa [Do,Do] at this
theorem Rf (g:al.length<=4) (h:k<=l):nB C al k<=nB C al l:=by
 have:=Gs (C:=C) g al.length h
 rwa [Do,Do] at this
def pS (L:Nat->Int) (s W q:Nat):Aa Int:=if q=0 then [] else (List.range W).map λj=>L (s+j+q)-L (s+j)
theorem Ha {W:Nat}(g:0<W):wN (pS L s W q)↔q≠0/\∃ c,∀ k,s<=k->k<s+W->L (k+q)-L k=c:=by
 unfold pS wN;by_cases a:q=0
 .rw[bA a];exact⟨λh=>absurd rfl h.1,λh=>absurd a h.1⟩
 .rw[bF a];constructor
  .rintro ⟨_,h⟩;refine⟨a,L (s+0+q)-L (s+0),λk i m=>?_⟩;have:=h (L (s+(k-s)+q)-L (s+(k-s))) (aG.mpr ⟨k-s,bW.mpr (by omega),rfl⟩) (L (s+0+q)-L (s+0)) (aG.mpr ⟨0,bW.mpr g,rfl⟩)
   rwa [show s+(k-s)=k by omega] at this
  .rintro ⟨_,c,h⟩;have e:∀ x∈(List.range W).map λj=>L (s+j+q)-L (s+j),x=c:=λx b=>by
    obtain⟨j,d,rfl⟩:=aG.mp b;have:=bW.mp d;exact h (s+j) (by omega) (by omega)
   refine⟨λz=>?_,λx b y f=>by rw[e x b,e y f]⟩;have:=cN List.length z;simp at this;omega
theorem C8 (f:Nat->D) (h:i<=w):mQ ((List.range (w+1)).map f) ((i:Nat):Int)=some (f i):=oA (by rw[aV,eO (by omega)];rfl)
theorem Zp (f:Nat->D) (h:n<=m):nI ((List.range (m+1)).map f) (some 1) (some (((n:Nat):Int)+1))=(List.range n).map λi=>f (i+1):=by
 have a:HT.sIx ((List.range (m+1)).map f).length 0 (some 1)=1:=by
  have:=HT.sIx_nat ((List.range (m+1)).map f).length 0 1;rw[aB,bN] at this |-;rw[show ((1:Nat):Int)=1 from rfl] at this;rw[this];omega
 have b:HT.sIx ((List.range (m+1)).map f).length ((List.range (m+1)).map f).length (some (((n:Nat):Int)+1))=n+1:=by
  have:=HT.sIx_nat ((List.range (m+1)).map f).length ((List.range (m+1)).map f).length (n+1);rw[show (((n+1:Nat)):Int)=((n:Nat):Int)+1 by omega] at this;rw[this,aB,bN];omega
 unfold nI;rw[a,b];apply gB
 .simp;omega
 .intro i p q;simp
def rG (L:Nat->Int) (w:Nat):D:=.l ((List.range (w+1)).map λi=>D.int (L i))
abbrev tG (C:Cel) (al:Aa (Af×Af)) (st lt ad j g:Sl):Aa Sl:=[.v (nH C al),.v (.int (mB al.length:Nat)),st,lt,ad,j,g]
theorem Tv:(["at","lates","ring"]:Aa Af).Nodup:=by decide +kernel
section
variable {P:Ah}{K:lJ}
theorem tW:FnScope ["row","whole","start","lates","added","ring","count"] ["row"] (mG Ez):=pD
theorem AV (T:Txt U) (g:Kn P w K U base 1 "common_ring" F2 ["count"] Kr) (I:Kn P w K U base 5 "steady_from" Di ["row","ring"] Rv) (J:Kn P w K U base 3 "lates_to" C5 ["row","width"] P4) :
  oR P w K U base 6 "ways" Ez ["row"] Kk:=by
 refine pN tW λf ab A aa s H E dk ds Φ M O hR=>?_
 obtain⟨C,al,rfl,X,S⟩:=hR;refine⟨_,(lK (mD 1 tW.nd (mI g M (dK (nD pE oY T.len bG (dK (lV O 0 hI) dT)) dT))) (lK (mD 2 tW.nd (mI I M (dK (eM 0) (dK (eM 1) dT)))) (lK (mD 3 tW.nd (mI J M (dK (eM 0) (dK (nZ mR mS 2 (nC wZ xS hI (eM 1))) dT)))) (lK (mD 4 tW.nd (mW dT)) (lK (mD 5 tW.nd hI) (lK (yA dZ (wJ (El M.units) (wG true) (Ww (i:=4) (rY S9 (by rfl) T.len bG (lQ (Fo (Wk rfl) (by rfl) T.set PyProof.Rows.boot_set (lQ (pv 4) lY)) lY)) (λ_ _ _ ⟨v,hv,a,ns,e1,e2,e3,e4⟩=>⟨v,hv,a,ns,by rw[e1],e2,e3,λp np=>⟨p,_,rfl,lU,e4 p np⟩⟩)) hI) (lK (G3 (n:=5) tW.nd rfl (Or.inr rfl) hI K1) (mN (uW 4 ["at"] ["lates","ring"] [3,5] tW.nd (E6 (by rfl) T.range (eM 2) (nZ mR mS 2 (eM 1))) (λ_ _ _ _ _=>(mC 0 Tv)) (λ_ _ _ _ _=>(nC sX uA (lV O 1 (nZ mR mS 0 (eM 2))) (lV O 1 (eM 0)))))))) (lK (mD 6 tW.nd (nZ mR mS 2 (eM 5))) (lK (yA dZ (yL (M6 (yM G4 Jk (pv 6) (eM 5)) (Mf (wJ (Df M.units) (wG false) (lV O 3 (eM 6)) (nC mR mS (lV O 3 (nZ sX uA 6 (eM 5))) (lV O 4 hI)))))) (mN (G3 (n:=6) tW.nd rfl (Or.inl rfl) hI GH))) (mN (nT (oN (dK (pL tA tY T.tuple bQ (dK (sB sC sE (pv 3) (rL hI) (rL (nZ mR mS 6 hI))) dT)) (dK (eM 5) (dK (lV O 4 hI) dT)))))))))))))),?_⟩;have h4:=X.la;have ac:=X.good.lg;have c1:=Ai al.length;have Z:=xC al.length;refine lP (λd=>d=tG C al .n .n .n .n .n) (λN u=>?_) ?_
 .refine⟨rfl,_,rfl,rfl,_,rfl,al.length,by show [D.int ((al.map nQ).length:Nat)]=_;rw[aB],by omega,.inl rfl,u _ rfl⟩
 rintro _ rfl;refine⟨C,al,rfl,X,λs hs st=>⟨.inl rfl,?_⟩⟩;have y:=AM st;dsimp only;obtain⟨W,hW⟩:∃ W,W=mB al.length:=⟨_,rfl⟩;rw[<- hW] at c1 Z y;obtain⟨L,hL⟩:∃ L,L=nB C al:=⟨_,rfl⟩;have mono:∀ {k l:Nat},k<=l->L k<=L l:=λh=>by rw[hL];exact Rf h4 h
 rw[<- hL] at y S;refine lP (λd=>d=tG C al (.v (.int s)) (.o (rG L (s+2*W))) .n .n .n) (λN u=>?_) ?_
 .refine⟨rfl,.inl ⟨by decide,by decide⟩,C,al,s+2*W,by rw[hW];rfl,X,by omega,.inl rfl,u _ (by rw[hL];rfl)⟩
 rintro _ rfl;refine lP (λd=>d=tG C al (.v (.int s)) (.o (rG L (s+2*W))) (.o (lZ [])) .n .n) (λN u=>⟨by show 0<=1000;decide,u _ rfl⟩) ?_;rintro _ rfl;refine lP (λd=>d=tG C al (.v (.int s)) (.o (rG L (s+2*W))) (.o (lZ [])) (.v (.int 0)) .n) (λN u=>u _ rfl) ?_;rintro _ rfl;refine lP (λd=>∃ r:Nat,r<=W/\wN (pS L s W r)/\(∀ q,q<r->¬ wN (pS L s W q))/\d=tG C al (.v (.int s)) (.o (rG L (s+2*W))) (.o (lZ (pS L s W r))) (.v (.int r)) .n) (λN u=>?_) ?_
 .refine Eg 13 (λd=>match d with | [_,_,_,_,_,.v (.int r),_]=>r.toNat | _=>0) (λr d=>r<=W/\(∀ q,q<r->¬ wN (pS L s W q))/\d=tG C al (.v (.int s)) (.o (rG L (s+2*W))) (.o (lZ (pS L s W r))) (.v (.int r)) .n) (λr d h=>?_) 0 ⟨by omega,λq Y=>absurd Y (by omega),rfl⟩ λr d N2 h G=>?_
  .rw[h.2.2];show (((r:Nat):Int)).toNat=r;omega
  obtain⟨M,Y,rfl⟩:=h;refine⟨pS L s W r,rfl,?_,λm hm=>?_⟩
  .unfold pS;split
   .simp
   .simp;omega
  show if (nb true (decide ((m:Int)=1)))=true then _ else _
  by_cases h1:(m:Int)=1
  .rw[cV h1];exact u _ ⟨r,M,hm.mp (by omega),Y,rfl⟩
  .rw[cG h1];have B:¬ wN (pS L s W r):=λz=>h1 (by have:=hm.mpr z;omega)
   have rW:r<W:=cI λz=>B ((Ha (by omega)).mpr ⟨by omega,vL (nN C al s) al.length,λk k1 _=>by
    have:=y k k1;rw[show r=W by omega,this];omega⟩)
   rw[bA (show nb true false=true from rfl)];refine lP (λd=>d=tG C al (.v (.int s)) (.o (rG L (s+2*W))) (.o (lZ (pS L s W r))) (.v (.int ((r+1:Nat):Int))) .n) (λN u=>u _ rfl) ?_;rintro _ rfl;have ew:(((s:Nat):Int)+((mB al.length:Nat):Int)-((s:Nat):Int)).toNat=W:=by rw[hW];omega
   unfold qQ;refine oO (List.range W) (λj=>.int (((s:Nat):Int)+(j:Nat))) (λj=>.int (L (s+j+(r+1))-L (s+j))) (tG C al (.v (.int s)) (.o (rG L (s+2*W))) (.o (lZ (pS L s W r))) (.v (.int ((r+1:Nat):Int))) .n) (λΨ h=>⟨rfl,⟨by omega,by omega,by omega,by omega⟩,by rw[ew];exact h⟩) (by rw[bN];omega) (λi x F Nx e g1 g2=>?_) ?_
   .have hx:x<W:=bW.mp (aT e);have V:=C8 (λi=>D.int (L i)) (w:=s+2*W) (i:=s+x+(r+1)) (by omega);have R:=C8 (λi=>D.int (L i)) (w:=s+2*W) (i:=s+x) (by omega);have q1:((s:Nat):Int)+(x:Nat)+((r+1:Nat):Int)=((s+x+(r+1):Nat):Int):=by omega
    have q2:((s:Nat):Int)+(x:Nat)=((s+x:Nat):Int):=by omega
    rw[<- q1] at V;rw[<- q2] at R;exact⟨rfl,rfl,_,V,rfl,_,R,g1,g2⟩
   .refine G (by omega) _ ⟨by omega,λq ae=>?_,?_⟩
    .by_cases z:q=r
     .rw[z];exact B
     .exact Y q (by omega)
    .have:pS L s W (r+1)=(List.range W).map λj=>L (s+j+(r+1))-L (s+j):=by
      unfold pS;rw[bF (by omega)]
     have e2:lZ (pS L s W (r+1)) = .l ((List.range W).map λj=>D.int (L (s+j+(r+1))-L (s+j))):=by
      rw[this];show D.l (((List.range W).map λj=>L (s+j+(r+1))-L (s+j)).map D.int)=_;rw[bI];rfl
     rw[e2];rfl
 rintro _ ⟨r,rW,one,Q,rfl⟩;obtain⟨r0,a,ha⟩:=(Ha (by omega)).mp one;obtain⟨F,hz⟩:∃ F,pS L s W r=a::F:=by
  cases e:pS L s W r with
  | nil=>rw[e] at one;exact absurd rfl one.1
  | cons b F =>
   refine⟨F,?_⟩;have:b∈pS L s W r:=by rw[e];exact aH
   unfold pS at this;rw[bF r0] at this;obtain⟨j,hj,rfl⟩:=aG.mp this;have:=bW.mp hj;rw[ha (s+j) (by omega) (by omega)]
 rw[hz];refine lP (λd=>d=tG C al (.v (.int s)) (.o (rG L (s+2*W))) (.o (lZ (a::F))) (.v (.int r)) (.v (.int ((s+r:Nat):Int)))) (λN u=>⟨rfl,u _ rfl⟩) ?_;rintro _ rfl;refine lP (λd=>∃ n:Nat,r<=n/\n<=s+r/\(∀ k,n<k->k<=s+r->L k=L (k-r)+a)/\(r<n->L n≠L (n-r)+a)/\d=tG C al (.v (.int s)) (.o (rG L (s+2*W))) (.o (lZ (a::F))) (.v (.int r)) (.v (.int n))) (λN u=>?_) ?_
 .refine Eg 8000 (λd=>match d with | [_,_,_,_,_,_,.v (.int c)]=>s+r-c.toNat | _=>0) (λi d=>i<=s/\(∀ k,s+r-i<k->k<=s+r->L k=L (k-r)+a)/\d=tG C al (.v (.int s)) (.o (rG L (s+2*W))) (.o (lZ (a::F))) (.v (.int r)) (.v (.int ((s+r-i:Nat):Int)))) (λi d h=>?_) 0 ⟨by omega,λk k1 k2=>absurd k2 (by omega),by rfl⟩ λi d N2 h G=>?_
  .rw[h.2.2];show s+r-(((s+r-i:Nat):Int)).toNat=i;have:=h.1;omega
  obtain⟨hi,hk,rfl⟩:=h;refine⟨rfl,?_⟩;show if decide (((r:Nat):Int)<((s+r-i:Nat):Int))=true then _ else _
  by_cases lt:((r:Nat):Int)<((s+r-i:Nat):Int)
  .refine Fw lt ?_;have V:=C8 (λi=>D.int (L i)) (w:=s+2*W) (i:=s+r-i) (by omega);have R:=C8 (λi=>D.int (L i)) (w:=s+2*W) (i:=s+r-i-r) (by omega);rw[show ((s+r-i-r:Nat):Int)=((s+r-i:Nat):Int)-((r:Nat):Int) by omega] at R;refine⟨rfl,_,V,rfl,rfl,_,R,rfl,_,oA (j:=0) rfl,?_⟩;show if (nb false (decide (L (s+r-i)=L (s+r-i-r)+a)))=true then _ else _
   by_cases eq:L (s+r-i)=L (s+r-i-r)+a
   .rw[cV eq];refine G (by omega) _ ⟨by omega,λk k1 k2=>?_,?_⟩
    .by_cases z:k=s+r-i
     .rw[z];exact eq
     .exact hk k (by omega) k2
    .have:(((s+r-i:Nat):Int))-1=((s+r-(i+1):Nat):Int):=by omega
     rw[<- this];rfl
   .rw[cG eq];exact u _ ⟨s+r-i,by omega,by omega,hk,λ_=>eq,rfl⟩
  .refine Ax lt ?_;exact u _ ⟨s+r-i,by omega,by omega,hk,λz=>absurd z (by omega),rfl⟩
 rintro _ ⟨n,n1,n2,n3,n4,rfl⟩;have T':Told L n r a:=AN (show 0<W by omega) y (by omega) ha (λq q1 q2 c hc=>Q q q2 ((Ha (by omega)).mpr ⟨by omega,c,hc⟩)) (mono (by omega)) n1 n2 n3 n4;have ec:nI ((List.range (s+2*W+1)).map λi=>D.int (L i)) (some 1) (some (((n:Nat):Int)+1))=(List.range n).map λi=>D.int (L (i+1)):=Zp _ (by omega)
 refine⟨rfl,rfl,?_⟩;refine⟨rfl,_,oA (j:=0) rfl,by show 3<=1000;decide,?_⟩;show Φ (.v (.t [.t (nI ((List.range (s+2*W+1)).map λi=>D.int (L i)) (some 1) (some (((n:Nat):Int)+1))),.int r,.int a]));rw[ec];exact S n r a T' (by omega) (by omega)
end
def sD (L:Nat->Int) (count ring:Nat) (a:Int):D:=.t [.t ((List.range count).map λi=>D.int (L (i+1))),.int ring,.int a]
def Mw:RD:=λe c d=>∃ (L:Nat->Int) (count ring:Nat) (a:Int),c=[sD L count ring a]/\Told L count ring a/\(∀ k,0<=L k)/\count<=90000/\d (.v (.b true))
def Ju:RD:=λd b c=>∃ (L:Nat->Int) (count ring:Nat) (a:Int) (w:Nat),b=[sD L count ring a,.int w]/\Told L count ring a/\count<=20000/\w<=20000/\c (.o (.l ((List.range w).map λi=>D.int (L (i+1)))))
def Qi:RD:=λe c d=>∃ (L:Nat->Int) (count ring:Nat) (a:Int),c=[sD L count ring a]/\Told L count ring a/\count<=19000/\ring<=12/\d (.v (.b true))
abbrev Ds (L:Nat->Int) (count ring:Nat) (a:Int) (w n:Nat):Aa Sl:=[.v (sD L count ring a),.v (.int w),.v (.t ((List.range count).map λi=>D.int (L (i+1)))),.v (.int ring),.v (.int a),.o (.l ((List.range n).map λi=>D.int (L (i+1))))]
abbrev uM (L:Nat->Int) (count ring:Nat) (a:Int) (g j l o:Sl):Aa Sl:=[.v (sD L count ring a),.v (.t ((List.range count).map λi=>D.int (L (i+1)))),.v (.int ring),.v (.int a),g,j,l,o]
theorem N1 (f:Nat->D) (h:j<n):mQ ((List.range n).map f) (-1-(j:Int))=some (f (n-1-j)):=by
 have e:rC ((List.range n).map f).length (-1-(j:Int))=some (n-1-j):=by
  unfold rC;rw[bF (by omega),aB,bN,bA (by omega)]
  congr 1;omega
 unfold mQ;rw[e];show ((List.range n).map f)[n-1-j]?=_;rw[aV,eO (by omega)];rfl
theorem Sj:(["one"]:Aa Af).Nodup:=by decide +kernel
theorem BS:(["k","numbers","size"]:Aa Af).Nodup:=by decide +kernel
section
variable {P:Ah}{K:lJ}
theorem Pt:FnScope ["found","some"] ["found"] (mG E2):=pD
theorem Ut (T:Txt g):oR P w K g base 1 "_law_is_told" E2 ["found"] Mw:=by
 refine pN Pt λf G A B s H E W X S F k Q=>?_
 obtain⟨L,count,ring,a,rfl,u,M,j,z⟩:=Q;refine⟨_,(lK (zA (yL (yH (zF (wM (nD (Cv K) (Bz (K:=K)) T.isinstance fE (dK (eM 0) (dK (Ec (by rfl) T.tuple bQ) dT))))) (yH (wJ (El F.units) (wG true) (nD pE oY T.len bG (dK (eM 0) dT)) hI) (E8 (zF (wM (nD (Cv K) (Bz (K:=K)) T.isinstance fE (dK (lV k 0 hI) (dK (Ec (by rfl) T.tuple bQ) dT))))))))) (mN (nT vU)) yC) (lK (mD 1 Pt.nd (nC mR mS (pL Cf Ft T.list gW (dK (lV k 0 hI) dT)) (mW (dK (lV k 0 hI) (dK (lV k 0 hI) dT))))) (lK (zA (wJ (El F.units) (wG true) (pV ["one"] [] [] (nV (eM 1)) (λ_ _ _ _ _=>(mC 0 Sj)) (λ_ _ _ _ _=>(eM 0)) (ht:=λ_ _ _ _ _=>(F4 (yL (yH (wM (nD (Cv K) (Bz (K:=K)) T.isinstance fE (dK (eM 0) (dK (Ec (by rfl) T.bool PyProof.Rows.boot_bool) dT)))) (yH (zF (wM (nD (Cv K) (Bz (K:=K)) T.isinstance fE (dK (eM 0) (dK (Ec (by rfl) T.int jP) dT))))) (E8 (yM Ni Ob (pv 0) hI)))))))) (mW dT)) (mN (nT vU)) yC) (mN (nT (GN (Cn Lc K6 (lV k 0 hI) hI) (DY (Cn Lc K6 (nD pE oY T.len bG (dK (lV k 0 hI) dT)) (lV k 0 hI))))))))),?_⟩;refine lP (λt=>t=[.v (sD L count ring a),.n]) (λN m=>?_) ?_
 .refine⟨"tuple",true,rfl,rfl,rfl,_,rfl,?_⟩;refine⟨rfl,_,rfl,?_⟩;refine⟨rfl,_,rfl,"tuple",true,rfl,rfl,rfl,_,rfl,?_⟩;exact m _ rfl
 rintro _ rfl;obtain⟨c,d⟩:∃ c:Aa Int,c=((List.range count).map λi=>L (i+1))++[(ring:Int),a]:=⟨_,rfl⟩;have R:∀ x∈c,0<=x:=λx y=>by
  rw[d] at y;rcases aX.mp y with q | q
  .obtain⟨i,_,rfl⟩:=aG.mp q;exact M _
  .simp only[aF,bH,eF] at q;rcases q with rfl | rfl
   .omega
   .exact u.a0
 have nl:c.length<=90002:=by rw[d];simp;omega
 refine lP (λt=>t=[.v (sD L count ring a),.o (lZ c)]) (λN m=>?_) ?_
 .refine⟨rfl,_,rfl,_,rfl,rfl,_,rfl,rfl,_,rfl,by show 2<=1000;decide,by show ((List.range count).map _).length+2<=100000;simp;omega,m _ ?_⟩;have:lZ c = .l (((List.range count).map λi=>D.int (L (i+1)))++[.int ring,.int a]):=by
   rw[d];show D.l (List.map D.int _)=_;rw[aY,bI];rfl
  rw[this];rfl
 rintro _ rfl;refine lP (λt=>∃ o:Sl,t=[.v (sD L count ring a),o]) (λN m=>?_) ?_
 .unfold L7 Aq d2;refine E1 c D.int D.int (λ_=>false) [.v (sD L count ring a),.v (lZ c)] (λI h=>h) (by omega) (λi x C V e Y Z O=>?_) ?_
  .have y:=R x (aT e);refine⟨"int",false,rfl,rfl,rfl,_,rfl,"int",true,rfl,rfl,rfl,_,rfl,rfl,?_⟩;show if decide (x<0)=true then _ else _
   exact Ax (by omega) (O rfl)
  .have:(c.filter λ_=>false)=[]:=by simp
   rw[this];refine⟨by show 0<=1000;decide,?_⟩;exact m _ ⟨_,rfl⟩
 rintro _ ⟨o,rfl⟩;refine⟨rfl,_,rfl,?_⟩;show (match (Sl.v (.b (decide ((1:Int)<=(ring:Int))))) with | .v (.b true)=>_ | .v (.b false)=>_ | _=>_);have p:=u.r1;have r:=u.rc;rw[cV (show (1:Int)<=(ring:Int) by omega)];refine⟨rfl,_,rfl,rfl,_,rfl,rfl,_,rfl,?_⟩;show S (.v (.b (decide ((ring:Int)<=((((List.range count).map λi=>D.int (L (i+1))).length:Nat):Int)))));rw[cV (by rw[aB,bN];omega)];exact z
theorem At:FnScope ["found","widths","firsts","ring","more","numbers"] ["found","widths"] (mG Bt):=pD
theorem S3 (T:Txt j):oR P w K j base 1 "_law_by_told" Bt ["found","widths"] Ju:=by
 refine pN At λf y A u s H E Q R M V F B=>?_
 obtain⟨L,count,ring,a,w,rfl,k,S,hw,q⟩:=B;refine⟨_,(lK (Go (m:=99) (eM 0) (sK (n:=3) rfl (nP (mC 2 At.nd) (nP (mC 3 At.nd) (nP (mC 4 At.nd) sY))))) (lK (mD 5 At.nd (pL Cf Ft T.list gW (dK (eM 2) dT))) (lK (yA dZ (wJ Ni Ob (nD pE oY T.len bG (qK (pv 5) dT)) (eM 1)) (mN (qJ (oX aO bB bC pF qH (pv 5) (dK (nC mR mS (lV F 5 (nC sX uA (nD pE oY T.len bG (qK (pv 5) dT)) (eM 3))) (eM 4)) dT))))) (mN (nT (sB sC sE (pv 5) sT (rL (eM 1)))))))),?_⟩;have W:=k.r1;have X:=k.rc;refine lP (λb=>b=[.v (sD L count ring a),.v (.int w),.v (.t ((List.range count).map λi=>D.int (L (i+1)))),.v (.int ring),.v (.int a),.n]) (λN c=>⟨rfl,rfl,c _ rfl⟩) ?_;rintro _ rfl;refine lP (λb=>b=Ds L count ring a w count) (λN c=>⟨_,rfl,c _ rfl⟩) ?_;rintro _ rfl;refine lP (λb=>∃ n,w<=n/\b=Ds L count ring a w n) (λN c=>?_) ?_
 .refine Eg 20000 (λb=>match b with | [_,_,_,_,_,.o (.l G)]=>G.length | _=>0) (λn b=>count<=n/\b=Ds L count ring a w n) (λn b h=>?_) count ⟨aL _,rfl⟩ λn b O h e=>?_
  .rw[h.2];show ((List.range n).map _).length=n;simp
  obtain⟨x,rfl⟩:=h;have len:((List.range n).map λi=>D.int (L (i+1))).length=n:=by simp
  refine⟨rfl,rfl,_,rfl,?_⟩;show if decide ((((List.range n).map λi=>D.int (L (i+1))).length:Int)<(w:Int))=true then _ else _
  rw[len];by_cases lt:(n:Int)<(w:Int)
  .refine Fw lt ?_;have d:mQ ((List.range n).map λi=>D.int (L (i+1))) (((((List.range n).map λi=>D.int (L (i+1))).length:Nat):Int)-(ring:Int))=some (.int (L (n-ring+1))):=by
    rw[len,show ((n:Nat):Int)-(ring:Int)=((n-ring:Nat):Int) by omega];exact oA (by rw[aV,eO (by omega)];rfl)
   refine⟨rfl,rfl,rfl,rfl,_,rfl,_,d,by show ((List.range n).map _).length<100000;simp;omega,?_⟩;refine e (by omega) _ ⟨by omega,?_⟩;have g:=k.grow (n+1) (by omega);rw[show n+1-ring=n-ring+1 by omega] at g;have:D.l ((List.range (n+1)).map λi=>D.int (L (i+1))) = .l (((List.range n).map λi=>D.int (L (i+1)))++[.int (L (n-ring+1)+a)]):=by
    rw[eR,aY,<- g];rfl
   unfold Ds;rw[this];rfl
  .refine Ax lt ?_;exact c _ ⟨n,by omega,rfl⟩
 rintro _ ⟨n,x,rfl⟩;have z:nI ((List.range n).map λi=>D.int (L (i+1))) none (some ((w:Nat):Int))=(List.range w).map λi=>D.int (L (i+1)):=by
  rw[yX,List.take_range,lH x]
 refine⟨rfl,?_⟩;show M (.o (.l (nI ((List.range n).map λi=>D.int (L (i+1))) none (some ((w:Nat):Int)))));rw[z];exact q
theorem wV:FnScope ["found","firsts","ring","more","many","numbers","size","ups"] ["found"] (mG Cy):=pD
theorem FN (T:Txt p) (g:Kn P w K p base 1 "_law_by_told" Bt ["found","widths"] Ju):oR P w K p base 2 "_law_is_shortest" Cy ["found"] Qi:=by
 refine pN wV λf r A W s H E dk ds Φ S O U=>?_
 obtain⟨L,count,ring,a,rfl,G,hc,Z,V⟩:=U;refine⟨_,(lK (Go (m:=99) (eM 0) (sK (n:=3) rfl (nP (mC 1 wV.nd) (nP (mC 2 wV.nd) (nP (mC 3 wV.nd) sY))))) (lK (mD 4 wV.nd (nD pE oY T.len bG (dK (eM 1) dT))) (lK (zA (yL (M6 (yM G4 Jk (pv 4) (eM 2)) (Mf (wJ (Df S.units) (wG false) (lV O 1 (tX hI)) (nC mR mS (lV O 1 (nC sX uA (tX hI) (eM 2))) (eM 3)))))) (mN (nT vU)) yC) (lK (mD 5 wV.nd (mI g S (dK (eM 0) (dK (nZ mR mS 4 (nC wZ xS hI (eM 2))) dT)))) (lK (sQ (E6 (by rfl) T.range hI (eM 2)) (mC 6 wV.nd) (lK (uW 7 ["k"] ["numbers","size"] [5,6] wV.nd (E6 (by rfl) T.range (nZ mR mS 4 (eM 2)) (nZ mR mS 4 (nC wZ xS hI (eM 2)))) (λ_ _ _ _ _=>(mC 0 BS)) (λ_ _ _ _ _=>(nC sX uA (lV O 1 (eM 0)) (lV O 1 (nZ sX uA 0 (eM 2)))))) (mN (zA (yM (Df S.units) (wG false) (pv 7) (nC wZ xS (sB sC sE (pv 7) sT (rL hI)) (eM 2))) (mN (nT vU)) yC)))) (mN (nT vU))))))),?_⟩;have q1:=G.r1;have q2:=G.rc;have len:((List.range count).map λi=>D.int (L (i+1))).length=count:=by simp
 refine lP (λd=>d=uM L count ring a .n .n .n .n) (λN q=>⟨rfl,rfl,q _ rfl⟩) ?_;rintro _ rfl;refine lP (λd=>d=uM L count ring a (.v (.int count)) .n .n .n) (λN q=>⟨rfl,_,rfl,q _ (by unfold uM;rw[len];rfl)⟩) ?_;rintro _ rfl;refine lP (λd=>d=uM L count ring a (.v (.int count)) .n .n .n) (λN q=>?_) ?_
 .refine⟨rfl,?_⟩;show if decide ((ring:Int)<(count:Int))=true then _ else _
  by_cases lt:(ring:Int)<(count:Int)
  .refine Fw lt ?_;have Q:=N1 (λi=>D.int (L (i+1))) (n:=count) (j:=0) (by omega);have R:=N1 (λi=>D.int (L (i+1))) (n:=count) (j:=ring) (by omega);refine⟨rfl,_,Q,rfl,_,R,?_⟩;show if (nb false (decide (L (count-1-0+1)=L (count-1-ring+1)+a)))=true then _ else _
   have:=G.edge (by omega);rw[show count-1-0+1=count by omega,show count-1-ring+1=count-ring by omega,cG this];exact q _ rfl
  .refine Ax lt ?_;exact q _ rfl
 rintro _ rfl;refine lP (λd=>d=uM L count ring a (.v (.int count)) (.o (.l ((List.range (count+3*ring)).map λi=>D.int (L (i+1))))) .n .n) (λN q=>?_) ?_
 .refine⟨rfl,.inl ⟨by decide,by decide⟩,L,count,ring,a,count+3*ring,by rfl,G,by omega,by omega,.inl rfl,q _ rfl⟩
 rintro _ rfl;refine lP (λd=>∃ M F,d=uM L count ring a (.v (.int count)) (.o (.l ((List.range (count+3*ring)).map λi=>D.int (L (i+1))))) M F) (λN q=>?_) ?_
 .refine vF (qL 1 (((ring:Nat):Int)-1).toNat) (uM L count ring a (.v (.int count)) (.o (.l ((List.range (count+3*ring)).map λi=>D.int (L (i+1))))) .n .n) (λΨ h=>⟨⟨by omega,by omega,by omega,by omega⟩,h⟩)
   (λi d=>∃ M F,d=uM L count ring a (.v (.int count)) (.o (.l ((List.range (count+3*ring)).map λi=>D.int (L (i+1))))) M F) ⟨.n,.n,rfl⟩ ?_ ?_
  .rintro i x d t ⟨M,F,rfl⟩;obtain⟨Y,rfl⟩:=An t;have Y:i+1<ring:=by omega
   have I:(1:Int)+(i:Nat)=((i+1:Nat):Int):=by omega
   rw[I];obtain⟨c,y⟩:∃ c:Aa Int,c=(List.range ring).map λj=>L (count+ring+j+1)-L (count+ring+j-(i+1)+1):=⟨_,rfl⟩
   have ul:c.length=ring:=by rw[y];simp
   refine lP (λd=>d=uM L count ring a (.v (.int count)) (.o (.l ((List.range (count+3*ring)).map λi=>D.int (L (i+1))))) (.v (.int ((i+1:Nat):Int))) (.o (lZ c))) (λN q=>?_) ?_
   .have J:(((count:Nat):Int)+2*((ring:Nat):Int)-(((count:Nat):Int)+((ring:Nat):Int))).toNat=ring:=by omega
    refine oO (List.range ring) (λj=>.int (((count:Nat):Int)+((ring:Nat):Int)+(j:Nat))) (λj=>.int (L (count+ring+j+1)-L (count+ring+j-(i+1)+1))) (uM L count ring a (.v (.int count)) (.o (.l ((List.range (count+3*ring)).map λi=>D.int (L (i+1))))) (.v (.int ((i+1:Nat):Int))) F) (λΨ h=>⟨rfl,rfl,.inl ⟨by decide,by decide⟩,⟨by omega,by omega,by omega,by omega⟩,by rw[J];exact h⟩) (by rw[bN];omega) (λi' x zs Nx e g1 g2=>?_) ?_
    .have t:x<ring:=bW.mp (aT e);have Q:mQ ((List.range (count+3*ring)).map λi=>D.int (L (i+1))) (((count:Nat):Int)+((ring:Nat):Int)+(x:Nat))=some (.int (L (count+ring+x+1))):=by
      rw[show ((count:Nat):Int)+((ring:Nat):Int)+(x:Nat)=((count+ring+x:Nat):Int) by omega];exact oA (by rw[aV,eO (by omega)];rfl)
     have R:mQ ((List.range (count+3*ring)).map λi=>D.int (L (i+1))) (((count:Nat):Int)+((ring:Nat):Int)+(x:Nat)-((i+1:Nat):Int))=some (.int (L (count+ring+x-(i+1)+1))):=by
      rw[show ((count:Nat):Int)+((ring:Nat):Int)+(x:Nat)-((i+1:Nat):Int)=((count+ring+x-(i+1):Nat):Int) by omega];exact oA (by rw[aV,eO (by omega)];rfl)
     exact⟨rfl,_,Q,rfl,rfl,_,R,g1,g2⟩
    .refine q _ ?_;have:lZ c = .l ((List.range ring).map λj=>D.int (L (count+ring+j+1)-L (count+ring+j-(i+1)+1))):=by
      rw[y];show D.l (List.map D.int _)=_;rw[bI];rfl
     rw[this];rfl
   rintro _ rfl;have X:nI (c.map D.int) none (some 1)=(c.take 1).map D.int:=yX D.int c 1;have C:(List.replicate (((ring:Nat):Int)).toNat ((c.take 1).map D.int)).flatten=((List.replicate ring (c.take 1)).flatten).map D.int:=by
    rw[cR,List.map_flatten,List.map_replicate]
   refine⟨rfl,rfl,by omega,by omega,by rw[X,aB,bR];omega,?_⟩;have key:∀ B:Sl->Prop,B (.v (.b false))->zM false (lZ c) (.l (List.replicate (((ring:Nat):Int)).toNat (nI (c.map D.int) none (some 1))).flatten) B:=λB h=>by
    rw[X,C];refine G6 false c _ ?_;have ne:¬ c=(List.replicate ring (c.take 1)).flatten:=λz=>by
     have all:∀ x∈c,x=c.headD 0:=λx t=>by
      rw[z] at t;obtain⟨l,hl,t⟩:=List.mem_flatten.mp t;rw[(kJ.mp hl).2] at t;cases c with
      | nil=>simp at t
      | cons u c=>simpa using t
     refine G.least (i+1) (count+ring+1-(i+1)) (c.headD 0) (by omega) Y (by omega) λk k1 k2=>?_
     have:=all (L (count+ring+(k-(count+ring+1-(i+1)))+1)-L (count+ring+(k-(count+ring+1-(i+1)))-(i+1)+1)) (by rw[y];exact aG.mpr ⟨k-(count+ring+1-(i+1)),bW.mpr (by omega),rfl⟩);rw[show count+ring+(k-(count+ring+1-(i+1)))+1=k+(i+1) by omega,show count+ring+(k-(count+ring+1-(i+1)))-(i+1)+1=k by omega] at this;exact this
    rw[cG ne];exact h
   refine key _ ?_;exact⟨_,_,rfl⟩
  .rintro d h;exact q _ h
 rintro _ ⟨M,F,rfl⟩;exact V
end
def Li:RD:=λc a b=>∃ (C:Cel) (al:Aa (Af×Af)) (w:Nat),a=[nH C al,.int w]/\GoodRow C al/\w<=20000/\b (.v (.l ((List.range w).map λi=>D.int (oZ C al i))))
def uN (C:Cel) (al:Aa (Af×Af)):Aa Af:=C.outs.filter λo=>!(sI (.str o) (al.map λp=>V.str p.1))
def nY (C:Cel) (al:Aa (Af×Af)):Nat->Int
 | 0=>0
 | i+1=>mx ((uN C al).map (look (Tb C.ins C.gates al i)))
theorem Pz (o:Af):∀ g:Aa Af,sI (.str o) (g.map V.str)=decide (o∈g)
 | []=>by simp[sI]
 | x::g=>by
  have a:=Pz o g;unfold sI at a |-;rw[aZ,eX,a];by_cases h:o=x
  .subst h;simp[oE]
  .have:(oE (V.str x) (V.str o))=false:=by simp[oE];exact λz=>h z.symm
   simp[this,h]
theorem Db (h:x∈t.map (·.1)):vC (.k (hO t)) (.str x)=some (some (.int (look t x))):=by
 show some (pG (hO t) (Sum.inr x))=_;rw[(vZ t x).1 h]
theorem Lo (h:x∉t.map (·.1)) (g:t.length<100000):uC (.k (hO t)) (.str x) (.int n)=some (.k (hO (t++[(x,n)]))):=by
 simp only[uC,bA (show (hO t).length<100000 by simpa [hO] using g)];show some (D.k (pM (hO t) (Sum.inr x) (.int n)))=_;rw[Ii h]
theorem J7 (m:Int) (t:mX) (g:Aa Af) (f:Int->Int):rT ([D.int m]++g.map λo=>D.int (f (look t o)))=some (m::g.map λo=>f (look t o)):=by
 have:=yZ (m::g.map λo=>f (look t o));rw[aZ,bI] at this;exact this
theorem Q1 {j:Type}{g:Aa j}{f:j->Af}{i:Nat}{x:j}(l:(g.map f).Nodup) (h:g[i]?=some x):f x∉(g.take i).map f:=by
 obtain⟨a,rfl⟩:=aP.mp h;intro q;have e:g=g.take i++g[i]::g.drop (i+1):=by rw[List.getElem_cons_drop,hX]
 rw[e,aY] at l;exact (bK.mp l).2.2 _ q _ (aG.mpr ⟨_,aH,rfl⟩) rfl
theorem GB (C:Cel) (al:Aa (Af×Af)):∀ i,nY C al i<=nY C al (i+1)
 | 0=>uG _
 | i+1=>Hk λx _=>Xu i x
theorem GW (C:Cel) (al:Aa (Af×Af)):∀ i,0<=nY C al i
 | 0=>eJ _
 | i+1=>uG _
theorem Lv (al:Aa (Af×Af)) (f:Af×Af->Int):vR (al.map λp=>D.t [.str p.2,.int (f p)])=some (hO (al.map λp=>(p.2,f p))):=by
 rw[Jn (g:=λp=>((Sum.inr p.2:lL),D.int (f p))) (λp=>⟨.str p.2,rfl,rfl⟩)];simp[hO]
def sZ (al:Aa (Af×Af)):D:=.l (al.map λp=>D.str p.1)
abbrev qN (C:Cel) (al:Aa (Af×Af)) (w:Nat) (o c l f p t n j g e:Sl):Aa Sl :=
 [.v (nH C al),.v (.int w),.v (tT C),.v (.t (al.map nQ)),o,c,l,f,p,t,n,j,g,e]
theorem Dh:(["out","into"]:Aa Af).Nodup:=by decide +kernel
theorem Vj:(["one","times"]:Aa Af).Nodup:=by decide +kernel
theorem ED:(["name","times"]:Aa Af).Nodup:=by decide +kernel
theorem DI:(["name","times","outs"]:Aa Af).Nodup:=by decide +kernel
theorem Qm:(["out","into","times"]:Aa Af).Nodup:=by decide +kernel
section
variable {P:Ah}{K:lJ}
theorem qV:FnScope ["row","widths","cell","along","outs","carried","last","found","place","times","name","word","names","ends"] ["row","widths"] (mG Fi):=pD
theorem Vf (T:Txt mg):oR P w K mg base 1 "_law_latest" Fi ["row","widths"] Li:=by
 refine pN qV λf aj A ai s H E dk ds Φ hr Q hR=>?_
 obtain⟨C,al,w,rfl,M,hw,ah⟩:=hR;have an:=M.la;refine⟨_,(lK (Go (m:=99) (eM 0) (sK (n:=2) rfl (nP (mC 2 qV.nd) (nP (mC 3 qV.nd) sY)))) (lK (mD 4 qV.nd (pV ["out","into"] [] [] (nV (eM 3)) (λ_ _ _ _ _=>(sK (n:=2) rfl (nP (mC 0 Dh) (nP (mC 1 Dh) sY)))) (λ_ _ _ _ _=>(eM 0)))) (lK (mD 5 qV.nd (pL (Ig rfl) Ja T.dict jH (dK (pV ["out","into"] [] [] (nV (eM 3)) (λ_ _ _ _ _=>(sK (n:=2) rfl (nP (mC 0 Dh) (nP (mC 1 Dh) sY)))) (λ_ _ _ _ _=>(oN (dK (eM 1) (dK hI dT))))) dT))) (lK (mD 6 qV.nd hI) (lK (mD 7 qV.nd (mW dT)) (lK (sQ (Av (by rfl) T.range (eM 1)) (mC 8 qV.nd) (lK (mD 9 qV.nd M5) (lK (sQ (nV (lV Q 2 hI)) (mC 10 qV.nd) (mN (Aj (n:=9) Q (Mp Q (pv 5) (eM 10) hI) (pv 9) (eM 10)))) (lK (sQ (nV (lV Q 2 hI)) (sK (n:=3) rfl (nP (mC 10 qV.nd) (nP (mC 11 qV.nd) (nP (mC 12 qV.nd) sY)))) (mN (Aj (n:=9) Q (nD (Ck rfl) Et T.max hZ (dK (nC mR mS (mW (dK hI dT)) (pV ["one"] ["times"] [9] (nV (eM 12)) (λ_ _ _ _ _=>(mC 0 Vj)) (λ_ _ _ _ _=>(nC mR mS hI (lV Q 1 (eM 0)))))) dT)) (pv 9) (eM 10)))) (lK (uW 13 ["name"] ["times"] [9] qV.nd (nV (eM 4)) (λ_ _ _ _ _=>(mC 0 ED)) (λ_ _ _ _ _=>(lV Q 1 (eM 0)))) (lK (mD 6 qV.nd (nD (Ck rfl) Et T.max hZ (dK (nC mR mS (mW (dK (eM 6) dT)) (pV ["name"] ["times","outs"] [9,4] (nV (lV Q 2 hI)) (λ_ _ _ _ _=>(mC 0 DI)) (λ_ _ _ _ _=>(lV Q 1 (eM 0))) (ht:=λ_ _ _ _ _=>(F4 (Uu (Xn Q) (DE true) (eM 0) (pv 2)))))) dT))) (lK (qJ (oX aO bB bC pF qH (pv 7) (dK (nD (Ck rfl) Et T.max hZ (dK (nC mR mS (mW (dK (eM 6) dT)) (eM 13)) dT)) dT))) (mN (mD 5 qV.nd (pL (Ig rfl) Ja T.dict jH (dK (pV ["out","into"] ["times"] [9] (nV (eM 3)) (λ_ _ _ _ _=>(sK (n:=2) rfl (nP (mC 0 Qm) (nP (mC 1 Qm) sY)))) (λ_ _ _ _ _=>(oN (dK (eM 1) (dK (lV Q 2 (eM 0)) dT))))) dT))))))))))) (mN (nT (eM 7))))))))),?_⟩;refine⟨rfl,rfl,?_⟩;dsimp only;refine lP (λb=>b=qN C al w (.o (sZ al)) .n .n .n .n .n .n .n .n .n) (λN B=>?_) ?_
 .unfold qQ;exact oO al nQ (λp=>.str p.1) _ (λZ h=>h) (by omega) (λi p ys Nx e F L=>⟨rfl,rfl,F,L⟩) (B _ rfl)
 rintro _ rfl;refine lP (λb=>b=qN C al w (.o (sZ al)) (.o (.k (hO (Cr C.ins C.gates al 0)))) .n .n .n .n .n .n .n .n) (λN B=>?_) ?_
 .unfold qQ dC aC;refine oO al nQ (λp=>.t [.str p.2,.int 0]) _ (λZ h=>h) (by omega) (λi p ys Nx e F L=>⟨rfl,rfl,by show 2<=1000;decide,F,L⟩) ?_;refine⟨_,Lv al λ_=>0,by simp[hO];omega,?_⟩;rw[Cp (by simpa [bZ] using M.n2)];exact B _ rfl
 rintro _ rfl;refine⟨by show 0<=1000;decide,?_⟩;dsimp only;refine lP (λb=>∃ o c p t n u d e:Sl,b=qN C al w o c (.v (.int (nY C al w))) (.o (.l ((List.range w).map λi=>D.int (oZ C al i)))) p t n u d e) (λN B=>?_) ?_
 .refine vF (qL 0 w) (qN C al w (.o (sZ al)) (.o (.k (hO (Cr C.ins C.gates al 0)))) (.v (.int 0)) (.o (.l [])) .n .n .n .n .n .n) (λZ h=>⟨by omega,by omega,h⟩)
   (λi b=>∃ o p t n u d e:Sl,(o = .o (sZ al)\/o = .v (sZ al))/\b=qN C al w o (.o (.k (hO (Cr C.ins C.gates al i)))) (.v (.int (nY C al i))) (.o (.l ((List.range i).map λi=>D.int (oZ C al i)))) p t n u d e) ⟨_,.n,.n,.n,.n,.n,.n,.inl rfl,rfl⟩ ?_ ?_
  .rintro i x b G ⟨o,p,t,n,u,d,e,ho,rfl⟩;obtain⟨hi,rfl⟩:=An G;have af:=B1 (ins:=C.ins) (gs:=C.gates) (al:=al) i;have I:=B2 (ins:=C.ins) (gs:=C.gates) (al:=al) i;generalize ae:Cr C.ins C.gates al i=cr at af I |-;have ak:0<=nY C al i:=by cases i with | zero=>exact eJ _ | succ i=>exact uG _
   have U:C.ins.Nodup:=(bK.mp M.good.nd).1;have li:=M.good.li;have lg:=M.good.lg;have lo:=M.good.lo;refine lP (λb=>∃ n:Sl,b=qN C al w o (.o (.k (hO cr))) (.v (.int (nY C al i))) (.o (.l ((List.range i).map λi=>D.int (oZ C al i)))) (.v (.int (0+(i:Int)))) (.o (.k (hO []))) n u d e) (λN B=>B _ ⟨n,rfl⟩) ?_;rintro b ⟨n,rfl⟩;refine lP (λb=>∃ n:Sl,b=qN C al w o (.o (.k (hO cr))) (.v (.int (nY C al i))) (.o (.l ((List.range i).map λi=>D.int (oZ C al i)))) (.v (.int (0+(i:Int)))) (.o (.k (hO (C.ins.map λx=>(x,look cr x))))) n u d e) (λN B=>?_) ?_
   .refine vF (C.ins.map D.str) _ (λZ h=>⟨rfl,_,rfl,h⟩) (λj b=>∃ n:Sl,b=qN C al w o (.o (.k (hO cr))) (.v (.int (nY C al i))) (.o (.l ((List.range i).map λi=>D.int (oZ C al i)))) (.v (.int (0+(i:Int)))) (.o (.k (hO ((C.ins.take j).map λx=>(x,look cr x))))) n u d e) ⟨n,rfl⟩ ?_ ?_
    .rintro j x b G ⟨n,rfl⟩;obtain⟨y,hy,rfl⟩:=xK G;have nb:y∉((C.ins.take j).map λx=>(x,look cr x)).map (·.1):=by
      have:=Q1 (f:=id) (by simpa using U) hy
      simpa [bZ] using this
     refine⟨rfl,_,rfl,rfl,?_⟩;show ∃ c',uC (.k (hO ((C.ins.take j).map λx=>(x,look cr x)))) (.str y) ((pG (hO cr) (Sum.inr y)).getD (.int 0))=some c'/\_;rw[P8];refine⟨_,Lo nb (by simp;omega),.v (.str y),?_⟩;rw[dQ,hy,aY];rfl
    .rintro b ⟨n,rfl⟩;rw[aB,bJ (aL _)];exact B _ ⟨n,rfl⟩
   rintro b ⟨n,rfl⟩;refine lP (λb=>∃ n u d:Sl,b=qN C al w o (.o (.k (hO cr))) (.v (.int (nY C al i))) (.o (.l ((List.range i).map λi=>D.int (oZ C al i)))) (.v (.int (0+(i:Int)))) (.o (.k (hO (tbl C.ins C.gates (look cr))))) n u d e) (λN B=>?_) ?_
   .refine vF (C.gates.map pB) _ (λZ h=>⟨rfl,_,rfl,h⟩) (λj b=>∃ n u d:Sl,b=qN C al w o (.o (.k (hO cr))) (.v (.int (nY C al i))) (.o (.l ((List.range i).map λi=>D.int (oZ C al i)))) (.v (.int (0+(i:Int)))) (.o (.k (hO (tbl C.ins (C.gates.take j) (look cr))))) n u d e) ⟨n,u,d,rfl⟩ ?_ ?_
    .rintro j x b G ⟨n,u,d,rfl⟩;obtain⟨g,R,rfl⟩:=xK G;obtain⟨aa,ag⟩:=Io M.good.gt R;have J:=Er C.ins (C.gates.take j) (look cr);have W:=yK (ins:=C.ins) (gs:=C.gates.take j) I;have Y:g.1∉(tbl C.ins (C.gates.take j) (look cr)).map (·.1):=by
      rw[J];have nd:(C.ins++C.gates.map (·.1)).Nodup:=M.good.nd;intro q;obtain⟨_,n2,n3⟩:=bK.mp nd;rcases aX.mp q with q | q
      .exact n3 _ q _ (aG.mpr ⟨g,aT R,rfl⟩) rfl
      .exact Q1 n2 R q
     have X:(tbl C.ins (C.gates.take j) (look cr)).length<100000:=by
      have:=cN List.length J;simp only[aB,bL,bR] at this;omega
     have step:tbl C.ins (C.gates.take (j+1)) (look cr)=tbl C.ins (C.gates.take j) (look cr)++[(g.1,mx (g.2.2.map λo=>1+look (tbl C.ins (C.gates.take j) (look cr)) o))]:=by
      unfold tbl;rw[dQ,R,kQ];rfl
     generalize hT:tbl C.ins (C.gates.take j) (look cr)=t at J W Y X step |-;refine⟨rfl,rfl,?_⟩;unfold Ix dC aC d2 Fa cd;dsimp only;refine⟨by show 1<=1000;decide,?_⟩;refine oO g.2.2 D.str (λo=>.int (1+look t o)) (qN C al w o (.o (.k (hO cr))) (.v (.int (nY C al i))) (.o (.l ((List.range i).map λi=>D.int (oZ C al i)))) (.v (.int (0+(i:Int)))) (.o (.k (hO t))) (.v (.str g.1)) (.v (.str g.2.1)) (.v (.t (g.2.2.map D.str))) e) (λZ h=>h) (by rcases aa with q | q | q<;>omega) (λk o ys Nx r F L=>⟨rfl,_,Db (by rw[J];exact ag o (aT r)),F,L⟩) ?_;refine⟨by show 1+(g.2.2.map _).length<=100000;rw[aB];rcases aa with q | q | q<;>omega,_,J7 0 t g.2.2 (1+·),by simp,λm hm S=>⟨rfl,_,Lo Y X,.v (.str g.1),.v (.str g.2.1),.v (.t (g.2.2.map D.str)),?_⟩⟩;have:m=mx (g.2.2.map λo=>1+look t o):=yN (by simpa using hm) (S 0 (by simp)) λa ha=>S a (aN _ ha)
     rw[step,<- this];rfl
    .rintro b ⟨n,u,d,rfl⟩;rw[aB,bJ (aL _)];exact B _ ⟨n,u,d,rfl⟩
   rintro b ⟨n,u,d,rfl⟩;have J:=Er C.ins C.gates (look cr);have W:=yK (ins:=C.ins) (gs:=C.gates) I;have O:Tb C.ins C.gates al i=tbl C.ins C.gates (look cr):=by unfold Tb;rw[ae]
   generalize tbl C.ins C.gates (look cr)=t at J W O |-;have ac:∀ o∈C.outs,o∈t.map (·.1):=λo ho=>by rw[J];exact aI _ (M.og o ho)
   have ab:∀ p∈al,p.1∈t.map (·.1):=λp hp=>ac _ (M.mem p hp).1
   refine lP (λb=>b=qN C al w (.v (sZ al)) (.o (.k (hO cr))) (.v (.int (nY C al i))) (.o (.l ((List.range i).map λi=>D.int (oZ C al i)))) (.v (.int (0+(i:Int)))) (.o (.k (hO t))) n u d (.o (.l (al.map λ(p:Af×Af)=>D.int (look t p.1))))) (λN B=>?_) ?_
   .unfold qQ;refine oO al (λp=>.str p.1) (λp=>.int (look t p.1)) (qN C al w (.v (sZ al)) (.o (.k (hO cr))) (.v (.int (nY C al i))) (.o (.l ((List.range i).map λi=>D.int (oZ C al i)))) (.v (.int (0+(i:Int)))) (.o (.k (hO t))) n u d e) (λZ h=>?_) (by omega) (λk p ys Nx r F L=>⟨rfl,_,Db (ab p (aT r)),F,L⟩) (B _ rfl);rcases ho with rfl | rfl<;>exact h
   rintro _ rfl;refine lP (λb=>b=qN C al w (.v (sZ al)) (.o (.k (hO cr))) (.v (.int (nY C al (i+1)))) (.o (.l ((List.range i).map λi=>D.int (oZ C al i)))) (.v (.int (0+(i:Int)))) (.o (.k (hO t))) n u d (.o (.l (al.map λ(p:Af×Af)=>D.int (look t p.1))))) (λN B=>?_) ?_
   .unfold qQ dC aC d2 Fa;refine⟨by show 1<=1000;decide,?_⟩;refine E1 C.outs D.str (λo=>.int (look t o)) (λo=>!(sI (.str o) (al.map λp=>V.str p.1))) (qN C al w (.v (sZ al)) (.o (.k (hO cr))) (.v (.int (nY C al i))) (.o (.l ((List.range i).map λi=>D.int (oZ C al i)))) (.v (.int (0+(i:Int)))) (.o (.k (hO t))) n u d (.o (.l (al.map λ(p:Af×Af)=>D.int (look t p.1))))) (λZ h=>⟨rfl,_,rfl,h⟩) (by omega) (λk x ys Nx r F L h3=>⟨_,_,rfl,L5 (λp=>rfl) al,?_⟩) ?_
    .have G:x∈C.outs:=aT r;cases q:sI (V.str x) (al.map λp=>V.str p.1) with
     | true=>exact h3 (by rw[q];rfl)
     | false=>exact⟨rfl,_,Db (ac x G),F,L (by rw[q];rfl)⟩
    .refine⟨by show 1+((C.outs.filter _).map _).length<=100000;have:=List.length_filter_le (λo=>!(sI (.str o) (al.map λp=>V.str p.1))) C.outs;rw[aB];omega,_,J7 (nY C al i) t (uN C al) id,by simp,λm hm S=>?_⟩;have e1:m=nY C al (i+1):=by
      have F:=GB C al i;have L:=GW C al i;have h3:=S _ aH;have el:nY C al (i+1)=mx ((uN C al).map (look t)):=by rw[<- O];rfl
      rw[el] at F |-;refine yN ?_ (by omega) λa ha=>S a (aN _ ha)
      rcases aF.mp hm with q | q
      .rcases zZ ((uN C al).map (look t)) with z | z
       .left;have:mx ((uN C al).map (look t))=m\/True:=.inr trivial;have:nY C al i<=0:=by rw[<- z];exact F
        omega
       .right;have:mx ((uN C al).map (look t))<=m:=S _ (aN _ z);have:m=mx ((uN C al).map (look t)):=by
         have:m<=mx ((uN C al).map (look t)):=by rw[q];exact F
         omega
        rw[this];exact z
      .exact .inr q
     rw[<- e1] at B;exact B _ rfl
   rintro _ rfl;refine lP (λb=>b=qN C al w (.v (sZ al)) (.o (.k (hO cr))) (.v (.int (nY C al (i+1)))) (.o (.l ((List.range (i+1)).map λi=>D.int (oZ C al i)))) (.v (.int (0+(i:Int)))) (.o (.k (hO t))) n u d (.v (.l (al.map λ(p:Af×Af)=>D.int (look t p.1))))) (λN B=>?_) ?_
   .have ie:rT ([D.int (nY C al (i+1))]++al.map λp=>D.int (look t p.1))=some (nY C al (i+1)::(al.map (·.1)).map (look t)):=by
     have:=J7 (nY C al (i+1)) t (al.map (·.1)) id
     simpa [bZ] using this
    refine⟨rfl,by show 1<=1000;decide,by show 1+(al.map _).length<=100000;rw[aB];omega,_,ie,by simp,λm hm S=>⟨by show ((List.range i).map _).length<100000;simp;omega,?_⟩⟩;have el:nY C al (i+1)=mx ((uN C al).map (look t)):=by rw[<- O];rfl
    have e1:m=oZ C al i:=by
     unfold oZ Mx;rw[O];refine R9 (ns:=uN C al) (es:=al.map (·.1)) W (λx G=>(iS.mp G).1) (λx G=>?_) (λx G=>?_) ?_ ?_ λa ha=>S a (aN _ ha)
     .obtain⟨p,hp,rfl⟩:=aG.mp G;exact (M.mem p hp).1
     .by_cases q:x∈al.map (·.1)
      .exact .inr q
      .refine .inl (iS.mpr ⟨G,?_⟩);have:=Pz x (al.map (·.1));rw[bI] at this;have e2:sI (V.str x) (al.map λp=>V.str p.1)=decide (x∈al.map (·.1)):=this;rw[e2,cG q];rfl
     .rw[<- el];exact aF.mp hm
     .rw[<- el];exact S _ aH
    subst e1;refine B _ ?_;rw[eR,aY];rfl
   rintro _ rfl;unfold qQ dC aC;refine oO al nQ (λp=>.t [.str p.2,.int (look t p.1)]) (qN C al w (.v (sZ al)) (.o (.k (hO cr))) (.v (.int (nY C al (i+1)))) (.o (.l ((List.range (i+1)).map λi=>D.int (oZ C al i)))) (.v (.int (0+(i:Int)))) (.o (.k (hO t))) n u d (.v (.l (al.map λ(p:Af×Af)=>D.int (look t p.1))))) (λZ h=>h) (by omega) (λk p ys Nx r F L=>⟨rfl,rfl,rfl,_,Db (ab p (aT r)),by show 2<=1000;decide,F,L⟩) ?_;refine⟨_,Lv al λp=>look t p.1,by simp[hO];omega,?_⟩;rw[Cp (by simpa [bZ] using M.n2)];have:Cr C.ins C.gates al (i+1)=al.map λp=>(p.2,look t p.1):=by
    show sG al (tbl C.ins C.gates (look (Cr C.ins C.gates al i)))=_;rw[show tbl C.ins C.gates (look (Cr C.ins C.gates al i))=t from O];rfl
   rw[<- this];exact⟨_,_,_,_,_,_,_,.inr rfl,rfl⟩
  .rintro b ⟨o,p,t,n,u,d,e,_,rfl⟩;rw[show (qL 0 w).length=w by simp[qL]];exact B _ ⟨o,_,p,t,n,u,d,e,rfl⟩
 .rintro b ⟨o,c,p,t,n,u,d,e,rfl⟩;exact ah
end
end Lw
namespace L2
open PySem PySem.Spec PyProof.Rows Lw
section
variable {X:Cx}{K:lJ}
def Lg (K:lJ) (neg:Bool):R2:=λx y H Q=>Bb neg x y H Q\/Ex K neg x y H Q
theorem N9 (g:X.A.units+64<cLine):mE X (compareOp .NotEq) (Lg X.K true):=(show mE X (compareOp .NotEq) (Bb true) from Rz).or (Q4 g)
def Uq (neg:Bool):O2:=λd e a=>match d,e with
 | .int i,.int j=>a (.v (.b (nb neg (decide (i=j)))))
 | .str i,.str j=>a (.v (.b (nb neg (decide (i=j)))))
 | .b i,.b j=>a (.v (.b (nb neg (decide (i=j)))))
 | .e,.int _=>a (.v (.b (nb neg false)))
 | .l c,.l []=>a (.v (.b (nb neg c.isEmpty)))
 | _,_=>False
theorem Od (neg:Bool):oK K (Lg K neg) (Uq neg):=by
 intro B L H d e x y A Q hd h m f k;cases d<;>first | exact False.elim f | skip<;>cases e<;>first | exact False.elim f | skip
 .cases h;cases m
  rename_i j
  have c:decide (V.e=V.int j)=false:=by simp
  exact .inl ⟨rfl,by rw[c];exact k _ _ H f (hd.pushF (.b _))⟩
 .cases h;cases m
  rename_i i j
  have c:decide (V.b i=V.b j)=decide (i=j):=by simp
  exact .inl ⟨rfl,by rw[c];exact k _ _ H f (hd.pushF (.b _))⟩
 .cases h;cases m
  rename_i i j
  have c:decide (V.int i=V.int j)=decide (i=j):=by simp
  exact .inl ⟨rfl,by rw[c];exact k _ _ H f (hd.pushF (.b _))⟩
 .cases h;cases m
  rename_i i j
  have c:decide (V.str i=V.str j)=decide (i=j):=by simp
  exact .inl ⟨rfl,by rw[c];exact k _ _ H f (hd.pushF (.b _))⟩
 .rename_i v w
  cases w with
  | cons _ _=>exact False.elim f
  | nil =>
  obtain⟨a,n,rfl,q,t⟩:=h.lst_inv;obtain⟨b,z,rfl,s,u⟩:=m.lst_inv;cases u;have c:v.isEmpty=n.isEmpty:=by cases t<;>rfl
  refine .inr ⟨a,b,n,rfl,rfl,gV.of q,gV.of s,?_⟩;rw[<- c];exact k _ _ H f (hd.pushF (.b _))
end
end L2
namespace Lw
open PySem L2
theorem Gp:∀ {gs:oU}{kn:Aa Af}{i:Nat}{g:Af×Af×Aa Af},nF kn gs->gs[i]?=some g->ArOk g.2.1 g.2.2.length/\∀ p∈g.2.2,p∈kn++(gs.take i).map (·.1)
 | a::r,kn,0,g,h,e=>by
  simp at e;subst e;exact⟨h.1,by simpa using h.2.1⟩
 | a::r,kn,i+1,g,h,e=>by
  obtain⟨b,c⟩:=Gp (gs:=r) (i:=i) h.2.2 (by simpa using e);exact⟨b,λp d=>by have:=c p d;simpa using this⟩
def Mj:RD:=λf b h=>∃ (d c:Ad) (a:Aa D),f=[d,c]/\(b=[.r (.ref d),.l a]\/b=[.r (.ref d),.t a])/\a.length<=1000/\∀ e,e.Perm a->h (.v (.l e))
def wQ (z:Af):Aa Af:=(Txt.split z " ").filter λx=>nb true (decide (x = ""))
def M8:RD:=λc a b=>∃ z:Af,a=[.str z]/\z.length<=1000/\(Txt.split z " ").length<=1000/\b (.o (.l ((wQ z).map D.str)))
structure Kit where
 ins:Str
 gates:List Str
 outs:Str
 pairs:Str
 nums:Str
noncomputable def qX (k:Kit):D:=.t [.str k.ins,.l (k.gates.map D.str),.str k.outs,.str k.pairs,.str k.nums]
noncomputable def pU:Aa Kit:=[⟨"a b c",[("s " : Af) ++ "odd a b c",("t " : Af) ++ "most a b c"],"s t","t c","a 1 b 1 s -1 c 1"⟩,⟨"a b c",["n not a","s odd a b c","t most n b c"],"s t","t c","a 1 b -1 s -1 c -1"⟩,⟨"a c",["s odd a c","t and a c"],"s t","t c","a 1 s -1 c 1"⟩,⟨"a c",["s and c c","t and a a"],"s t","t c","a 2 s -1 c 1"⟩,⟨"a",["s not a"],"s","","a 1 s 1 - -1"⟩,⟨"a b c",[("s " : Af) ++ "odd a b c",("t " : Af) ++ "most a b c"],"s t","","a 1 b 1 c 1 s -1 t -2"⟩,⟨"a c d",["s odd a d c","t most a d c","e and a a"],"s t e","t c e d","a 3 s -1 c 1 d 1"⟩,⟨"a b x c d",["s odd a b c","t most a b c","z odd s x d","u most s x d"],"z t u","t c u d","a 1 b 1 x 1 z -1 c 1 d 1"⟩,⟨"a",["s nil","t or a s"],"s t","","s 5 a -2 t 2"⟩,⟨"a b",["s and a b","t or a b"],"s t","","a 1 b 1 s -1 t -1"⟩]
def sJ:D:=.t [.str "odd a b c",.str "most a b c"]
def Kl:RD:=λa b e=>∃ d c:Ad,a=[d,c]/\b=[.r (.ref d)]/\∀ k∈pU,e (.v (qX k))
theorem AL:(["word"]:Aa Af).Nodup:=by decide +kernel
section
variable {P:Ah}{K:lJ}
theorem Iq:FnScope ["deck","some","left","found"] ["deck","some"] (mG F3):=pD
theorem FK (T:Txt p) (g:Kn P w K p base 1 "_law_take" tZ ["deck","many"] As) :
  oR P w K p base 2 "_law_shuffled" F3 ["deck","some"] Mj:=by
 refine pN (hlen:=λM B V ⟨_,_,_,_,e,_⟩=>by rcases e with e | e<;>(rw[e];rfl)) Iq λf L A z s H E M B V F X O=>?_
 obtain⟨d,c,i,rfl,e,W,u⟩:=O;obtain⟨x,rfl,S⟩:∃ x,B=[.r (.ref d),x]/\(x = .l i\/x = .t i):=by
  rcases e with e | e
  .exact⟨_,e,.inl rfl⟩
  .exact⟨_,e,.inr rfl⟩
 refine⟨_,(lK (mD 2 Iq.nd (pL Cf Ft T.list gW (dK (eM 1) dT))) (lK (mD 3 Iq.nd (mW dT)) (lK (yA dZ (yM (N9 F.units) (Od true) (pv 2) (mW dT)) (mN (qJ (oX aO bB bC pF qH (pv 3) (dK (oX aO fO fP Bk Cd (pv 2) (dK (mI g F (dK (eM 0) (dK (nD pE oY T.len bG (qK (pv 2) dT)) dT))) dT)) dT))))) (mN (nT (eM 3)))))),?_⟩;refine lP (λb=>b=[.v (.r (.ref d)),.v x,.o (.l i),.n]) (λN m=>?_) ?_
 .rcases S with rfl | rfl
  .exact⟨_,rfl,m _ rfl⟩
  .exact⟨_,rfl,m _ rfl⟩
 rintro _ rfl;refine⟨by show 0<=1000;decide,?_⟩;dsimp only;refine lP (λb=>∃ (q:Aa D),b=[.v (.r (.ref d)),.v x,.o (.l []),.o (.l q)]/\q.Perm i) (λN m=>?_) ?_
 .refine⟨λb=>∃ left found:Aa D,b=[.v (.r (.ref d)),.v x,.o (.l left),.o (.l found)]/\(found++left).Perm i,λ(b:Aa Sl)=>match b[2]? with | some (Sl.o (D.l l))=>l.length | _=>0,⟨i,[],rfl,.refl _⟩,?_⟩;rintro b ⟨left,found,rfl,k⟩;have h:=k.length_eq;rw[bL] at h;refine⟨rfl,by show 0<=1000;decide,?_⟩;cases left with
  | nil=>exact m _ ⟨found,rfl,by simpa using k⟩
  | cons x left =>
   rw[bT] at h;refine⟨rfl,rfl,rfl,rfl,_,rfl,d,c,_,rfl,rfl,by show (0:Int)<((x::left).length:Nat);simp only[bT];omega,by show ((x::left).length:Int)<4611686018427387904;simp only[bT];omega,λj Q=>⟨.inr rfl,?_⟩⟩;have a:j<(x::left).length:=by have:(j:Int)<((x::left).length:Nat):=Q;omega
   obtain⟨y,G⟩:∃ y,(x::left)[j]?=some y:=⟨_,aJ a⟩;have R:=List.length_eraseIdx_of_lt a;refine⟨j,y,by simp only[bT] at a;omega,by simp only[bT] at a;omega,C7 a,G,by show found.length<100000;omega,⟨(x::left).eraseIdx j,found++[y],rfl,?_⟩,?_⟩
   .rw[bP];exact ((Iz G).symm.append_left found).trans k
   .show ((x::left).eraseIdx j).length<(x::left).length;omega
 .rintro b ⟨q,rfl,k⟩;exact u q k
theorem GP:FnScope ["text"] ["text"] (mG Cb):=pD
theorem Ta (T:Txt g):oR P w K g base 1 "_law_words" Cb ["text"] M8:=by
 refine pN GP λf c A b s H E B G O u M n=>?_
 obtain⟨z,rfl,L,t,a⟩:=n;refine⟨_,(mN (nT (pV ["word"] [] [] (nV (CO PySem.F.plainAttrs_str gQ PySem.F.type_str_split U0 EL (pv 0) (dK lR dT))) (λ_ _ _ _ _=>(mC 0 AL)) (λ_ _ _ _ _=>(eM 0)) (ht:=λ_ _ _ _ _=>(F4 (yM (N9 u.units) (Od true) (pv 0) lR)))))),?_⟩;refine E1 (Txt.split z " ") D.str D.str (λx=>nb true (decide (x = ""))) [.v (.str z)] (λQ h=>⟨rfl,by decide,by omega,h⟩) ?_ (λi x N y e d k m=>⟨rfl,?_⟩) a
 .omega
 .show if (nb true (decide (x = "")))=true then _ else _
  cases q:decide (x = "") with
  | true=>exact m (by rw[q];rfl)
  | false=>exact⟨d,k (by rw[q];rfl)⟩
theorem A7:FnScope ["deck","adder","some","more"] ["deck"] (mG Cm):=pD
theorem Xo (T:Txt j) (g:Kn P w K j base 1 "_law_take" tZ ["deck","many"] As) :
  oR P w K j base 2 "_law_kit" Cm ["deck"] Kl:=by
 refine pN A7 λf t A m s H E z B D x e u=>?_
 obtain⟨d,c,rfl,rfl,i⟩:=u;refine⟨_,(lK (mD 1 A7.nd (oN (dK lR (dK lR dT)))) (lK (mD 2 A7.nd (mW (dK (oN (dK lR (dK (mW (dK (nC mR mS lR (lV e 1 hI)) (dK (nC mR mS lR (lV e 1 hI)) dT))) (dK lR (dK lR (dK lR dT)))))) dT))) (lK (qJ (oX aO bB bC pF qH (pv 2) (dK (oN (dK lR (dK (mW (dK lR (dK lR (dK lR dT)))) (dK lR (dK lR (dK lR dT)))))) dT))) (lK (qJ (oX aO bB bC pF qH (pv 2) (dK (oN (dK lR (dK (mW (dK lR (dK lR dT))) (dK lR (dK lR (dK lR dT)))))) dT))) (lK (qJ (oX aO bB bC pF qH (pv 2) (dK (oN (dK lR (dK (mW (dK lR (dK lR dT))) (dK lR (dK lR (dK lR dT)))))) dT))) (lK (qJ (oX aO bB bC pF qH (pv 2) (dK (oN (dK lR (dK (mW (dK lR dT)) (dK lR (dK lR (dK lR dT)))))) dT))) (lK (qJ (oX aO bB bC pF qH (pv 2) (dK (oN (dK lR (dK (mW (dK (nC mR mS lR (lV e 1 hI)) (dK (nC mR mS lR (lV e 1 hI)) dT))) (dK lR (dK lR (dK lR dT)))))) dT))) (lK (mD 3 A7.nd (mW (dK lR (dK lR (dK lR dT))))) (lK (qJ (oX aO bB bC pF qH (pv 2) (dK (oN (dK lR (dK (eM 3) (dK lR (dK lR (dK lR dT)))))) dT))) (lK (mD 3 A7.nd (mW (dK lR (dK lR (dK lR (dK lR dT)))))) (lK (qJ (oX aO bB bC pF qH (pv 2) (dK (oN (dK lR (dK (eM 3) (dK lR (dK lR (dK lR dT)))))) dT))) (lK (qJ (oX aO bB bC pF qH (pv 2) (dK (oN (dK lR (dK (mW (dK lR (dK lR dT))) (dK lR (dK lR (dK lR dT)))))) dT))) (lK (qJ (oX aO bB bC pF qH (pv 2) (dK (oN (dK lR (dK (mW (dK lR (dK lR dT))) (dK lR (dK lR (dK lR dT)))))) dT))) (mN (nT (lV e 2 (mI g x (dK (eM 0) (dK hI dT))))))))))))))))))),?_⟩;refine lP (λb=>b=[.v (.r (.ref d)),.v sJ,.n,.n]) (λN a=>⟨(by show 2<=1000;decide),a _ rfl⟩) ?_;rintro _ rfl;refine lP (λb=>b=[.v (.r (.ref d)),.v sJ,.o (.l ((pU.take 1).map qX)),.n]) (λN a=>⟨rfl,_,rfl,(by decide +kernel),rfl,_,rfl,(by decide +kernel),(by show 2<=1000;decide),(by show 5<=1000;decide),(by show 1<=1000;decide),a _ rfl⟩) ?_;rintro _ rfl;refine lP (λb=>b=[.v (.r (.ref d)),.v sJ,.o (.l ((pU.take 2).map qX)),.n]) (λN a=>⟨rfl,(by show 3<=1000;decide),(by show 5<=1000;decide),(by show 1<100000;decide),a _ rfl⟩) ?_;rintro _ rfl;refine lP (λb=>b=[.v (.r (.ref d)),.v sJ,.o (.l ((pU.take 3).map qX)),.n]) (λN a=>⟨rfl,(by show 2<=1000;decide),(by show 5<=1000;decide),(by show 2<100000;decide),a _ rfl⟩) ?_;rintro _ rfl;refine lP (λb=>b=[.v (.r (.ref d)),.v sJ,.o (.l ((pU.take 4).map qX)),.n]) (λN a=>⟨rfl,(by show 2<=1000;decide),(by show 5<=1000;decide),(by show 3<100000;decide),a _ rfl⟩) ?_;rintro _ rfl;refine lP (λb=>b=[.v (.r (.ref d)),.v sJ,.o (.l ((pU.take 5).map qX)),.n]) (λN a=>⟨rfl,(by show 1<=1000;decide),(by show 5<=1000;decide),(by show 4<100000;decide),a _ rfl⟩) ?_;rintro _ rfl;refine lP (λb=>b=[.v (.r (.ref d)),.v sJ,.o (.l ((pU.take 6).map qX)),.n]) (λN a=>⟨rfl,rfl,_,rfl,(by decide +kernel),rfl,_,rfl,(by decide +kernel),(by show 2<=1000;decide),(by show 5<=1000;decide),(by show 5<100000;decide),a _ rfl⟩) ?_;rintro _ rfl;refine lP (λb=>b=[.v (.r (.ref d)),.v sJ,.o (.l ((pU.take 6).map qX)),.o (.l [.str "s odd a d c",.str "t most a d c",.str "e and a a"])]) (λN a=>⟨(by show 3<=1000;decide),a _ rfl⟩) ?_;rintro _ rfl;refine lP (λb=>b=[.v (.r (.ref d)),.v sJ,.o (.l ((pU.take 7).map qX)),.v (.l [.str "s odd a d c",.str "t most a d c",.str "e and a a"])]) (λN a=>⟨rfl,(by show 5<=1000;decide),(by show 6<100000;decide),a _ rfl⟩) ?_;rintro _ rfl;refine lP (λb=>b=[.v (.r (.ref d)),.v sJ,.o (.l ((pU.take 7).map qX)),.o (.l [.str "s odd a b c",.str "t most a b c",.str "z odd s x d",.str "u most s x d"])]) (λN a=>⟨(by show 4<=1000;decide),a _ rfl⟩) ?_;rintro _ rfl;refine lP (λb=>b=[.v (.r (.ref d)),.v sJ,.o (.l ((pU.take 8).map qX)),.v (.l [.str "s odd a b c",.str "t most a b c",.str "z odd s x d",.str "u most s x d"])]) (λN a=>⟨rfl,(by show 5<=1000;decide),(by show 7<100000;decide),a _ rfl⟩) ?_;rintro _ rfl;refine lP (λb=>b=[.v (.r (.ref d)),.v sJ,.o (.l ((pU.take 9).map qX)),.v (.l [.str "s odd a b c",.str "t most a b c",.str "z odd s x d",.str "u most s x d"])]) (λN a=>⟨rfl,(by show 2<=1000;decide),(by show 5<=1000;decide),(by show 8<100000;decide),a _ rfl⟩) ?_;rintro _ rfl;refine lP (λb=>b=[.v (.r (.ref d)),.v sJ,.o (.l ((pU.take 10).map qX)),.v (.l [.str "s odd a b c",.str "t most a b c",.str "z odd s x d",.str "u most s x d"])]) (λN a=>⟨rfl,(by show 2<=1000;decide),(by show 5<=1000;decide),(by show 9<100000;decide),a _ rfl⟩) ?_;rintro _ rfl;refine⟨rfl,d,c,10,rfl,rfl,by decide,by decide,λr y=>⟨.inl rfl,?_⟩⟩;have h:r<10:=by omega
 obtain⟨k,q⟩:∃ k,pU[r]?=some k:=⟨_,aJ (by show r<10;exact h)⟩;refine⟨qX k,?_,i k (aT q)⟩;exact oA (by rw[aV,bJ (by decide),q];rfl)
end
def nA (l:Aa Af):Af×Af×Aa Af:=(l.headD "",(l.drop 1).headD "",l.drop 2)
def Iy (w:Af) (n:Nat):Bool:=(decide (w∈uS)&&(n == 2||n == 3))||((w == "most")&&(n == 3))||((w == "not")&&(n == 1))||((w == "one")&&(n == 0))||((w == "nil")&&(n == 0))
theorem W3 (h:Iy w n=true):ArOk w n:=by
 unfold Iy at h;simp only[lF,bS,eL,iD] at h;rcases h with (((h | h) | h) | h) | h
 .exact⟨.inl h⟩
 .exact⟨.inr (.inl h)⟩
 .exact⟨.inr (.inr (.inl h))⟩
 .exact⟨.inr (.inr (.inr (.inl h)))⟩
 .exact⟨.inr (.inr (.inr (.inr h)))⟩
def Ep:Aa Af->oU->Bool
 | _,[]=>true
 | kn,g::r=>Iy g.2.1 g.2.2.length&&(g.2.2.all (λp=>decide (p∈kn))&&Ep (kn++[g.1]) r)
theorem Kz:∀ {j:oU}{kn:Aa Af},Ep kn j=true->nF kn j
 | [],_,_=>trivial
 | g::r,kn,h=>by
  unfold Ep at h;simp only[bS,cE,eL] at h;exact⟨W3 h.1,h.2.1,Kz h.2.2⟩
theorem nF.more:∀ {l:oU}{kn j:Aa Af},(∀ x∈kn,x∈j)->nF kn l->nF j l
 | [],_,_,_,_=>trivial
 | g::r,kn,j,h,ok=>⟨ok.1,λp a=>h p (ok.2.1 p a),nF.more (λx b=>by
  rcases aX.mp b with q | q
  .exact aW _ (h x q)
  .exact aI _ q) ok.2.2⟩
noncomputable def ren (f:Af->Af) (g:Af×Af×Aa Af):Af×Af×Aa Af:=(f g.1,g.2.1,g.2.2.map f)
theorem nF.ren (f:Af->Af):∀ {j:oU}{kn:Aa Af},nF kn j->nF (kn.map f) (j.map (Lw.ren f))
 | [],_,_=>trivial
 | g::r,kn,ok=>by
  refine⟨by show ArOk g.2.1 (g.2.2.map f).length;rw[aB];exact ok.1,λp a=>?_,?_⟩
  .obtain⟨q,b,rfl⟩:=aG.mp a;exact aG.mpr ⟨q,ok.2.1 q b,rfl⟩
  .have:=nF.ren f ok.2.2;rw[aY] at this;exact this
theorem nF.app:∀ {l j:oU}{kn:Aa Af},nF kn l->nF (kn++l.map (·.1)) j->nF kn (l++j)
 | [],j,kn,_,h=>by simpa using h
 | g::r,j,kn,ok,h=>⟨ok.1,ok.2.1,nF.app ok.2.2 (by simpa using h)⟩
def kI (k:Kit):Aa Af:=wQ k.ins
def kO (k:Kit):Aa Af:=wQ k.outs
def kP (k:Kit):Aa Af:=wQ k.pairs
def kN (k:Kit):Aa Af:=wQ k.nums
def kG (k:Kit):Aa (Aa Af):=k.gates.map wQ
def kH (k:Kit):Aa Af:=(kG k).map λl=>(nA l).1
def L8 (k:Kit):Bool :=
 (k.ins::k.outs::k.pairs::k.nums::k.gates).all (λz=>decide (z.length<=1000)&&decide ((Txt.split z " ").length<=1000)) &&
 ((kG k).all (λl=>decide (2<=l.length)) && (decide ((kI k++kH k).Nodup) && ((kI k++kH k).all (λx=>decide (x.length=1)&&decide (x ≠ "-")) && (Ep (kI k) ((kG k).map nA) && ((kO k).all (λo=>decide (o∈kH k)) && (decide (kO k).Nodup && (decide ((kP k).length%2=0) && ((nK (kP k)).all (λp=>decide (p.1∈kO k)&&decide (p.2∈kI k)) && (decide ((nK (kP k)).map (·.1)).Nodup && (decide ((nK (kP k)).map (·.2)).Nodup && (decide ((kN k).length%2=0) && ((nK (kN k)).all (λp=>(decide (p.1∈kI k++kH k)||decide (p.1 = "-"))&&((intText? p.2).isSome&&decide (p.2.length<=640))) && (decide ((kI k).length<=5)&&(decide ((kG k).length<=4)&&(decide ((kO k).length<=3)&&(decide ((kP k).length<=8)&&decide ((kN k).length<=100)))))))))))))))))
structure KitOk (k:Kit):Prop where
 tx:∀ z∈k.ins::k.outs::k.pairs::k.nums::k.gates,z.length<=1000/\(Txt.split z " ").length<=1000
 g2:∀ l∈kG k,2<=l.length
 nd:(kI k++kH k).Nodup
 one:∀ x∈kI k++kH k,x.length=1/\x ≠ "-"
 gt:nF (kI k) ((kG k).map nA)
 oh:∀ o∈kO k,o∈kH k
 ond:(kO k).Nodup
 pe:(kP k).length%2=0
 pm:∀ p∈nK (kP k),p.1∈kO k/\p.2∈kI k
 p1:((nK (kP k)).map (·.1)).Nodup
 p2:((nK (kP k)).map (·.2)).Nodup
 ne:(kN k).length%2=0
 nm:∀ p∈nK (kN k),(p.1∈kI k++kH k\/p.1 = "-")/\(intText? p.2).isSome=true/\p.2.length<=640
 li:(kI k).length<=5
 lg:(kG k).length<=4
 lo:(kO k).length<=3
 lp:(kP k).length<=8
 ln:(kN k).length<=100
theorem EH:pU.all L8=true:=by decide +kernel
theorem Ux (h:k∈pU):KitOk k:=by
 have:=cE.mp EH k h;unfold L8 at this;simp only[bS,cE,eL,lF] at this;obtain⟨a,b,c,d,e,f,i,m,n,q,s,t,u,v,w,x,y,z⟩:=this;exact⟨a,b,c,d,Kz e,f,i,m,n,q,s,t,u,v,w,x,y,z⟩
noncomputable def nE (i:Nat):Af:=("i" : Af)++((toString ((0:Int)+(i:Int)):String):Af)
def pC (g:Af) (i:Nat):Aa Af:=if i=0 then [nE 0,g] else [nE i,"not",nE 0]
theorem Eu:∀ i<19,(nE i).length≠1/\nE i ≠ "-" /\ ∀ j<19,nE i=nE j->i=j:=by decide +kernel
theorem Qo (g:Af) (i:Nat):(nA (pC g i)).1=nE i:=by
 unfold pC;split
 .subst_vars;rfl
 .rfl
theorem Vg (g:Af) (i:Nat):2<=(pC g i).length:=by unfold pC;split<;>simp
theorem Kq {g:Af}(h:g = "one" \/ g = "nil") (kn:Aa Af):∀ n,nF kn (((List.range n).map (pC g)).map nA)
 | 0=>trivial
 | n+1=>by
  rw[eR,aY,aY];refine nF.snoc (Kq h kn n) ?_ ?_
  .by_cases e:n=0
   .subst e;rcases h with rfl | rfl
    .exact⟨.inr (.inr (.inr (.inl ⟨rfl,rfl⟩)))⟩
    .exact⟨.inr (.inr (.inr (.inr ⟨rfl,rfl⟩)))⟩
   .unfold pC;rw[bF e];exact⟨.inr (.inr (.inl ⟨rfl,rfl⟩))⟩
  .intro p a;by_cases e:n=0
   .subst e;simp[nA,pC] at a
   .have b:p=nE 0:=by
     unfold pC at a;rw[bF e] at a
     simpa [nA] using a
    subst b;refine aI _ ?_;rw[bI,bI];refine aG.mpr ⟨0,bW.mpr (by omega),Qo g 0⟩
def oS (l:Aa Af):D:=.l (l.map D.str)
theorem xF (h:x∈t.map (·.1)):vC (.k (mT t)) (.str x)=some (some (.str (lT t x))):=by
 show some (pG (mT t) (Sum.inr x))=_;rw[(Jr t x).1 h]
theorem Hr {l:Aa Af}(h:2<=l.length):mQ (l.map D.str) 0=some (.str (nA l).1)/\mQ (l.map D.str) 1=some (.str (nA l).2.1):=by
 match l,h with
 | a::b::r,_ =>
  constructor
  .exact oA (j:=0) rfl
  .exact oA (j:=1) rfl
theorem Qy:∀ {l:Aa Af}{g:Aa D},g.Perm (l.map D.str)->∃ j:Aa Af,j.Perm l/\g=j.map D.str:=by
 intro l g h;have key:∀ (g:Aa D),(∀ y∈g,∃ x:Af,y=D.str x)->∃ j:Aa Af,g=j.map D.str:=by
  intro g;induction g with
  | nil=>exact λ_=>⟨[],rfl⟩
  | cons y g c =>
   intro h;obtain⟨x,rfl⟩:=h y aH;obtain⟨j,rfl⟩:=c λz b=>h z (aN _ b)
   exact⟨x::j,rfl⟩
 obtain⟨j,rfl⟩:=key g λy a=>by
  obtain⟨x,_,rfl⟩:=aG.mp (h.mem_iff.mp a);exact⟨x,rfl⟩
 refine⟨j,?_,rfl⟩;have:=h.map (λd=>match d with | D.str x=>x | _=>("" : Af))
 simpa [bZ] using this
theorem T9 (h:ys.Perm (xs.map nQ)):∃ g:Aa (Af×Af),g.Perm xs/\ys=g.map nQ:=by
 have key:∀ (ys:Aa D),(∀ y∈ys,∃ x:Af×Af,y=nQ x)->∃ g:Aa (Af×Af),ys=g.map nQ:=by
  intro ys;induction ys with
  | nil=>exact λ_=>⟨[],rfl⟩
  | cons y ys c =>
   intro h;obtain⟨x,rfl⟩:=h y aH;obtain⟨g,rfl⟩:=c λz b=>h z (aN _ b)
   exact⟨x::g,rfl⟩
 obtain⟨g,rfl⟩:=key ys λy a=>by
  obtain⟨x,_,rfl⟩:=aG.mp (h.mem_iff.mp a);exact⟨x,rfl⟩
 refine⟨g,?_,rfl⟩;have:=h.map (λd=>match d with | D.t [D.str x,D.str y]=>(x,y) | _=>(("" : Af),("" : Af)))
 simpa [bZ,nQ] using this
theorem Ug (l:Aa g) (d:g) (h:g->j):(List.range l.length).map (λi=>h (l.getD i d))=l.map h:=by
 apply kS;intro i;rw[aV,aV];by_cases a:i<l.length
 .rw[eO a,aJ a];simp[List.getD,aJ a]
 .rw[dU (by simpa using a),dU (by omega)];rfl
theorem Wu (f:Nat->D) (n:Nat):nI ((List.range n).map f) (some (-1)) none=if n=0 then [] else [f (n-1)]:=by
 unfold nI;rw[HT.sIx_none,aB,bN];have e:HT.sIx n 0 (some (-1))=n-1:=by
  show (if (-1:Int)<0 then ((-1:Int)+(n:Int)).toNat else min (-1:Int).toNat n)=n-1;rw[bA (by decide)];omega
 rw[e];split
 .subst_vars;rfl
 .obtain⟨m,rfl⟩:∃ m,n=m+1:=⟨n-1,by omega⟩;rw[eR,aY,Nat.add_sub_cancel,List.drop_left' (by simp)];simp
theorem Lj:∀ i<19,((0:Int)+(i:Nat)).natAbs.log2<1920/\("i" : Af).length+((toString ((0:Int)+(i:Nat)):String):Af).length<=100000:=by decide +kernel
theorem B5 {n:Nat}{j:Aa Nat}{g:tR}{te:mK}{dk:Aa Ad}{Φ:Sl->Aa Sl->Prop}{α:Type}(T:Aa α) (I out:α->D) (p:Aa Sl) (hl:T.length<=100000)
  (hs:∀ (i:Nat) x (C:Aa D) (Nx:Aa D->Aa Sl->Prop),T[i]?=some x->C.length<100000->Nx (C++[out x]) (nR j p)->g (I x) (List.replicate n Sl.n++nR j p) λU=>te dk U λr aa=>match sd r with
   | some c=>C.length<100000/\Nx (C++[c]) (aa.drop n)
   | none=>False)
  (ac:Φ (.o (.l (T.map out))) (oQ j (nR j p) p)):∃ Pv:Nat->Aa D->Aa Sl->Prop,Pv 0 [] (nR j p) /\
   (∀ i d C J,(T.map I)[i]?=some d->J.length=j.length->Pv i C J->g d (List.replicate n Sl.n++J) λU=>Ib dk U λb ab=>if b=true then te dk ab λr aa=>match sd r with
    | some c=>C.length<100000/\Pv (i+1) (C++[c]) (aa.drop n)
    | none=>False
    else Pv (i+1) C (ab.drop n)) /\
   ∀ C J,J.length=j.length->Pv (T.map I).length C J->Φ (.o (.l C)) (oQ j J p) :=
 oO (ι:=λ_ _ a=>a (T.map I) p) (dk:=dk) (ρ:=[]) T I out p (λa h=>h) hl hs ac
noncomputable def vN (t:mX) (x:Af) (i:Int):mX:=if x∈t.map (·.1) then t.map (λp=>if p.1=x then (p.1,i) else p) else t++[(x,i)]
theorem Wn (t:mX) (x:Af) (i:Int):pM (hO t) (Sum.inr x) (.int i)=hO (vN t x i):=by
 unfold pM vN;have e:((hO t).any λa=>decide (a.1=(Sum.inr x:lL)))=decide (x∈t.map (·.1)):=by
  rw[gX];simp only[hO,List.any_map,fL,bZ,eL,aG,Sum.inr.injEq]
 rw[e];by_cases h:x∈t.map (·.1)
 .rw[bA (cV h),bA h];unfold hO;rw[bI,bI];refine iN λp _=>?_
  show (if (Sum.inr p.1:lL)=Sum.inr x then ((Sum.inr p.1:lL),D.int i) else (Sum.inr p.1,D.int p.2))=(Sum.inr (if p.1=x then (p.1,i) else p).1,D.int (if p.1=x then (p.1,i) else p).2);by_cases q:p.1=x
  .rw[bA (by rw[q]),bA q]
  .rw[bF (λz=>q (lI z)),bF q]
 .rw[bF (by simp[h]),bF h];unfold hO;rw[List.map_append];rfl
end Lw
namespace L2
open PySem PySem.Spec PyProof.Rows Lw
section
variable {X:Cx}
def U7 (K:lJ) (g:TA):TE:=λi H Q=>g i H λh a=>∃ (e f:Bool) (l m:Ad) (b:Aa lL) (c:Aa V),h=[.ref l,.ref m]/\qA e K a l (b.map kV)/\qA f K a m c/\b.length<=1000/\∀ d,a d=none->Q (.ref d) (upd a d (.k (pJ [] (b.zip c))))
theorem GJ (j:X.calm=true) (hg:Gl X "dict") (hm:X.mg "dict" = none) (r:Gl X "zip") (C:X.mg "zip" = none) (ha:PA X [a,b] ta)
  (hs:starEach [a,b] X.env=(false,eval a X.env)::starEach [b] X.env:=by rfl) (J:(backTo g (starEach [b] X.env)).any (·.1)=false:=by rfl) :
  PE X (.Call (.Name "dict" p) [.Call (.Name "zip" p') [a,b] [] g] [] pos) (U7 X.K ta):=by
 intro z s σ H Q I h;refine dD (sR I hg hm boot_dict ?_ (by decide) (by decide));refine bY ?_ rfl rfl;show wpAny _ _ (spliced ((false,eval (.Call (.Name "zip" p') [a,b] [] g) X.env)::backTo pos (starEach [] X.env))) _ _ s;refine gJ ?_;refine dD (sR I r C boot_zip ?_ (by decide) (by decide));refine bY (lM (ha g z s σ H _ I h) λus B M=>?_) hs J;obtain⟨xs,H1,t,S,q1⟩:=M;obtain⟨b1,b2,l,m,c,E,rfl,hl,hv,hn,q⟩:=q1;obtain⟨Z,T,rfl,W,Y⟩:∃ Z T,us=[Z,T]/\lS (.ref l) Z/\lS (.ref m) T:=by
  cases S with | cons S V=>cases V with | cons V r3=>cases r3;exact⟨_,_,rfl,S,V⟩
 cases W;cases Y;obtain⟨N,r',R⟩:=t.seqB hl;obtain⟨f,A,n⟩:=t.seqB hv;refine Nv R n λD z1 z2 z3 z4 z5 z6 U=>?_
 refine jC ?_;have L1:=r'.length;have L2:=A.length;rw[aB] at L1;have F:=Im c A;have O:l<B.heap.objs.size:=by obtain⟨_,e⟩:=zK R;exact aK e
 have P:m<B.heap.objs.size:=by obtain⟨_,e⟩:=zK n;exact aK e
 refine Sz (knd:=pQ X.prog X.w) (more:=c.zip f) (s:={ B with heap:=D }) (t.ok.hd j) (zipApart_new O P) z1 z2 z3 z4 z5 (pY R λo e=>U _ o e) (pY n λo e=>U _ o e) ?_ ?_ ?_ λh2 tk hD hk=>?_
 .rw[fC,aM,aM];omega
 .rw[fC];exact fV (cM (show min c.length f.length<=1000 by omega) (by decide))
 .intro i x y v G;have v:N[i]?=some x:=by simpa using v
  have G:f[i]?=some y:=by simpa using G
  obtain⟨hi,_⟩:=aP.mp v;obtain⟨u,hu,ru⟩:=r'.get (i:=i) (x:=kV (c[i]'(by omega))) (by simp[show i<c.length by omega]);rw[hu] at v;cases v;refine⟨c[i]'(by omega),vX ru,?_⟩;rw[iJ];exact⟨aJ _,G⟩
 .have L:(pJ [] (c.zip E)).length<=sizeLine:=by
   have h1:=Dv (c.zip E) [];rw[fU,fC] at h1;exact fV (cM (show (pJ [] (c.zip E)).length<=1000 by omega) (by decide))
  have d:B.heap.objs.size<=D.objs.size:=by omega
  have kp:∀ b o,B.heap.get? b=some o->h2.get? b=some o:=λb o e=>hk b o (λq=>by
   have:=aK e;simp only[aF,bH,eF] at q;rcases q with q | q | q | q<;>rw[q] at this<;>first | exact absurd this (dX _) | exact absurd this (kZ.mpr (eI _ _))) (U b o e)
  refine⟨.ref D.objs.size,_,t.laid (a:=D.objs.size) (o:=.k (pJ [] (c.zip E))) (t':=tk) kp d ?_,rfl,q _ (t.hok.fresh d)⟩;exact Ak L (cY.mpr (cO (bE (aR t.big d)))) (F.merge .nil) hD
end
section
variable {X:Cx}{K:lJ}
def Qz:OC:=λf h=>match f with
 | [d1,d2]=>∃ d e b c a,wD d1=some (d,b)/\wD d2=some (e,c)/\vD b=some a/\a.length<=1000/\h (.o (.k (rD [] (a.zip c))))
 | _=>False
theorem P1 (e:wD d=some (b,j)) (r:mO K A H d v):∃ a g,v = .ref a/\qA b K H a g/\Reps K A H j g:=by
 cases d<;>first | cases e | skip
 .obtain⟨a,g,rfl,h,r⟩:=Rep.tup_inv r;exact⟨a,g,rfl,mH.of h,r⟩
 .obtain⟨a,g,rfl,h,r⟩:=r.lst_inv;exact⟨a,g,rfl,gV.of h,r⟩
theorem U6:qC K (λC H Q=>∃ (o r:Bool) (l m:Ad) (g:Aa lL) (j:Aa V),C=[.ref l,.ref m]/\qA o K H l (g.map kV)/\qA r K H m j/\g.length<=1000/\∀ d,H d=none->Q (.ref d) (upd H d (.k (pJ [] (g.zip j))))) Qz:=by
 intro B L H h C N Q hd f c k
 match h,c with
 | [d1,d2],c =>
  obtain⟨x,y,rfl,v,py⟩:=yV f;obtain⟨o,r,C,M,g,i,n,t,u,c⟩:=c;obtain⟨a,G,rfl,q,A⟩:=P1 i v;obtain⟨b,j,rfl,s,D⟩:=P1 n py;have e:=Ml t A;subst e;obtain⟨E,F⟩:=He g D;obtain⟨w,z⟩:=Co (kvs:=[]) (vs:=[]) E F rfl .nil;exact⟨o,r,a,b,g,j,rfl,q,s,u,λp f=>k _ _ _ c (hd.dKF f w z)⟩
theorem BO (g:X.calm=true) (I:Gl X "dict") (J:X.mg "dict" = none) (l:Gl X "zip") (o:X.mg "zip" = none) (C:qY X [a,b] U)
  (T:starEach [a,b] X.env=(false,eval a X.env)::starEach [b] X.env:=by rfl) (r:(backTo j (starEach [b] X.env)).any (·.1)=false:=by rfl) :
  PD X (.Call (.Name "dict" p) [.Call (.Name "zip" p') [a,b] [] j] [] pos) (dC Qz U):=(GJ g I J l o C T r).mono λ_ _ _ h=>Ee U6 h
end
end L2
namespace Lw
open PySem L2
structure WtOk (b:Int) (t:mX):Prop where
 nd:(t.map (·.1)).Nodup
 l:t.length<=60
 bd:∀ p∈t,-b<=p.2/\p.2<=b
theorem Py (t:mX) (x:Af) (i:Int):(vN t x i).map (·.1)=if x∈t.map (·.1) then t.map (·.1) else t.map (·.1)++[x]:=by
 unfold vN;by_cases h:x∈t.map (·.1)
 .rw[bA h,bA h,bI];refine iN λp _=>?_
  show (if p.1=x then (p.1,i) else p).1=p.1;by_cases q:p.1=x
  .rw[bA q]
  .rw[bF q]
 .rw[bF h,bF h,aY];rfl
theorem Tr (h:p∈vN t x i):p∈t\/p=(x,i):=by
 unfold vN at h;by_cases a:x∈t.map (·.1)
 .rw[bA a] at h;obtain⟨q,b,e⟩:=aG.mp h;by_cases z:q.1=x
  .rw[bA z] at e;exact .inr (by rw[<- e,z])
  .rw[bF z] at e;exact .inl (e▸b)
 .rw[bF a] at h;rcases aX.mp h with h | h
  .exact .inl h
  .exact .inr (aU.mp h)
theorem Xj (h:(t.map (·.1)).Nodup):((vN t x i).map (·.1)).Nodup:=by
 rw[Py];by_cases c:x∈t.map (·.1)
 .rw[bA c];exact h
 .rw[bF c];exact bK.mpr ⟨h,by simp,λa d b f e=>by rw[aU.mp f] at e;exact c (e▸d)⟩
theorem CU (t:mX) (x:Af) (i:Int):(vN t x i).length<=t.length+1:=by
 have:=cN List.length (Py t x i);rw[aB] at this;by_cases a:x∈t.map (·.1)
 .rw[bA a,aB] at this;omega
 .rw[bF a,bL,aB] at this;simp at this;omega
theorem CW:(pU.all λk=>(nK (kN k)).all λp=>match intText? p.2 with | some v=>decide (-9<=v)&&decide (v<=9) | none=>true)=true:=by decide +kernel
theorem Us (g:k∈pU) (j:p∈nK (kN k)) (l:intText? p.2=some v):-9<=v/\v<=9:=by
 have:=cE.mp (cE.mp CW k g) p j;rw[l] at this
 simpa using this
def Pd:RD:=λb e f=>∃ (d c:Ad) (k:Kit),b=[d,c]/\e=[.r (.ref d),qX k]/\k∈pU/\∀ C al a,GoodRow C al->WtOk 9 a->f (.o (.l [nH C al,.k (hO a)]))
abbrev sO (d:Ad) (k:Kit) (C I J T U s7 s8 s9 g j l o p:Sl):Aa Sl:=[.v (.r (.ref d)),.v (qX k),C,I,J,T,U,s7,s8,s9,g,j,l,o,p]
theorem U5 (h:x∉t.map (·.1)) (g:t.length<100000):uC (.k (mT t)) (.str x) (.str n)=some (.k (mT (t++[(x,n)]))):=by
 simp only[uC,bA (show (mT t).length<100000 by simpa [mT] using g)];show some (D.k (pM (mT t) (Sum.inr x) (.str n)))=_;rw[Qr h]
abbrev sl (g:Aa Af):D:=.l (g.map D.str)
def pW (n:Nat):Aa D:=(List.range n).map λi=>D.str (nE i)
abbrev uT (d:Ad) (k:Kit) (a g j l:Sl):Aa Sl:=sO d k (.o (sl (kI k))) a (.o (sl (kP k))) (.o (sl (kN k))) g j l .n .n .n .n .n .n
abbrev xN (d:Ad) (k:Kit) (n:Nat) (G:Aa (Aa Af)) (j:Sl) (g:Aa Af) (a b c e:Sl):Aa Sl:=sO d k a b (.o (sl (kP k))) (.o (sl (kN k))) (.v (.l (pW n))) (.v (.l (G.map oS))) j (.v (sl (kI k++g))) c e .n .n .n
abbrev xP (d:Ad) (k:Kit) (n:Nat) (G:Aa (Aa Af)) (r:Sl) (g:Aa Af) (t:Aa (Af×Af)) (j p:Aa Af) (a b c e f:Sl):Aa Sl:=sO d k (.o (sl (j.map (lT t)))) (.o (sl (p.map (lT t)))) (.v (sl (kP k))) a (.v (.l (pW n))) (.v (.l (G.map oS))) r (.v (sl (kI k++g))) b (.o (.l (G.map λl=>pB (ren (lT t) (nA l))))) c e f
theorem DJ:(["k"]:Aa Af).Nodup:=by decide +kernel
theorem Wz:(["text"]:Aa Af).Nodup:=by decide +kernel
theorem CM:(["gate"]:Aa Af).Nodup:=by decide +kernel
theorem W5:(["gate","names"]:Aa Af).Nodup:=by decide +kernel
theorem J9:(["one","names"]:Aa Af).Nodup:=by decide +kernel
theorem Tg:(["k","names","pairs"]:Aa Af).Nodup:=by decide +kernel
section
variable {P:Ah}{K:lJ}
theorem qF:FnScope ["deck","kit","ins","outs","pairs","numbers","idle","gates","name","own","names","rows","along","weights","k"] ["deck","kit"] (mG Em):=pD
theorem Ze (T:Txt mg) (J:Kn P w K mg base 1 "_law_take" tZ ["deck","many"] As) (U:Kn P w K mg base 3 "_law_names" Ay ["deck","many"] Jw)
  (I:Kn P w K mg base 2 "_law_shuffled" F3 ["deck","some"] Mj) (C:Kn P w K mg base 1 "_law_words" Cb ["text"] M8) :
  oR P w K mg base 4 "_law_made" Em ["deck","kit"] Pd:=by
 refine pN qF λf bj A bc s H E dk ds Φ hr R hR=>?_
 obtain⟨d,c,k,rfl,rfl,hk,ba⟩:=hR;have Q:=Ux hk;have tx:=Q.tx;refine⟨_,(lK (mD 2 qF.nd (mI C hr (dK (lV R 1 hI) dT))) (lK (mD 3 qF.nd (mI C hr (dK (lV R 1 hI) dT))) (lK (mD 4 qF.nd (mI C hr (dK (lV R 1 hI) dT))) (lK (mD 5 qF.nd (mI C hr (dK (lV R 1 hI) dT))) (lK (uW 6 ["k"] [] [] qF.nd (Av (by rfl) T.range (zT R (mW (dK hI (dK hI (dK hI (dK (mI J hr (dK (eM 0) (dK hI dT))) dT))))) (mI J hr (dK (eM 0) (dK hI dT))))) (λ_ _ _ _ _=>(mC 0 DJ)) (λ_ _ _ _ _=>(nC mR mS lR (pL Wo X6 T.str PyProof.Rows.boot_str (dK (eM 0) dT))))) (lK (mD 7 qF.nd (mW dT)) (lK (sQ (nV (eM 6)) (mC 8 qF.nd) (mN (qJ (oX aO bB bC pF qH (pv 7) (dK (zT R (mW (dK (mW (dK (eM 8) (dK (zT R (mW (dK lR (dK lR dT))) (mI J hr (dK (eM 0) (dK hI dT)))) dT))) (dK (nC mR mS (mW (dK (eM 8) (dK lR dT))) (sB sC sE (pv 6) sT (rL hI))) dT))) (pL Mq Rj T.int jP (dK (Cn G4 Jk (nD pE oY T.len bG (qK (pv 7) dT)) hI) dT))) dT))))) (lK (mD 3 qF.nd (nZ mR mS 3 (nC wZ xS (sB sC sE (pv 6) (rL (tX hI)) sT) (mI J hr (dK (eM 0) (dK hI dT)))))) (lK (mD 7 qF.nd (nZ mR mS 7 (pV ["text"] [] [] (nV (lV R 1 hI)) (λ_ _ _ _ _=>(mC 0 Wz)) (λ_ _ _ _ _=>(mI C hr (dK (eM 0) dT)))))) (lK (mD 9 qF.nd (nZ mR mS 2 (pV ["gate"] [] [] (nV (eM 7)) (λ_ _ _ _ _=>(mC 0 CM)) (λ_ _ _ _ _=>(lV R 0 hI))))) (lK (mD 10 qF.nd (BO rfl (by rfl) T.dict (by rfl) T.zip (dK (eM 9) (dK (mI U hr (dK (eM 0) (dK (nD pE oY T.len bG (dK (eM 9) dT)) dT))) dT)))) (lK (uW 11 ["gate"] ["names"] [10] qF.nd (nV (eM 7)) (λ_ _ _ _ _=>(mC 0 W5)) (λ_ _ _ _ _=>(oN (dK (lV R 1 (lV R 0 hI)) (dK (lV R 0 hI) (dK (pL tA tY T.tuple bQ (dK (pV ["one"] ["names"] [1] (nV (sB sC sE (pv 0) (rL hI) sT)) (λ_ _ _ _ _=>(mC 0 J9)) (λ_ _ _ _ _=>(lV R 1 (eM 0)))) dT)) dT)))))) (lK (uW 2 ["one"] ["names"] [10] qF.nd (nV (mI I hr (dK (eM 0) (dK (eM 2) dT)))) (λ_ _ _ _ _=>(mC 0 J9)) (λ_ _ _ _ _=>(lV R 1 (eM 0)))) (lK (uW 3 ["one"] ["names"] [10] qF.nd (nV (mI I hr (dK (eM 0) (dK (eM 3) dT)))) (λ_ _ _ _ _=>(mC 0 J9)) (λ_ _ _ _ _=>(lV R 1 (eM 0)))) (lK (uW 12 ["k"] ["names","pairs"] [10,4] qF.nd (Nd (by rfl) T.range hI (nD pE oY T.len bG (dK (eM 4) dT)) hI) (λ_ _ _ _ _=>(mC 0 Tg)) (λ_ _ _ _ _=>(oN (dK (lV R 1 (lV R 2 (eM 0))) (dK (lV R 1 (lV R 2 (nZ mR mS 0 hI))) dT))))) (lK (Aj (n:=10) R lR (pv 10) lR) (lK (mD 13 qF.nd M5) (lK (sQ (Nd (by rfl) T.range hI (nD pE oY T.len bG (dK (eM 5) dT)) hI) (mC 14 qF.nd) (mN (Aj (n:=13) R (pL Mq Rj T.int jP (dK (lV R 5 (nZ mR mS 14 hI)) dT)) (pv 13) (lV R 10 (lV R 5 (eM 14)))))) (mN (nT (mW (dK (oN (dK (oN (dK (pL tA tY T.tuple bQ (dK (eM 2) dT)) (dK (pL tA tY T.tuple bQ (dK (eM 11) dT)) (dK (pL tA tY T.tuple bQ (dK (eM 3) dT)) dT)))) (dK (pL tA tY T.tuple bQ (dK (mI I hr (dK (eM 0) (dK (eM 12) dT))) dT)) dT))) (dK (eM 13) dT))))))))))))))))))))))),?_⟩;refine lP (λu=>u=sO d k (.o (sl (kI k))) .n .n .n .n .n .n .n .n .n .n .n .n) (λN F=>⟨rfl,_,rfl,k.ins,rfl,(tx _ (by simp)).1,(tx _ (by simp)).2,.inl rfl,F _ rfl⟩) ?_;rintro _ rfl;refine lP (λu=>u=sO d k (.o (sl (kI k))) (.o (sl (kO k))) .n .n .n .n .n .n .n .n .n .n .n) (λN F=>⟨rfl,_,rfl,k.outs,rfl,(tx _ (by simp)).1,(tx _ (by simp)).2,.inl rfl,F _ rfl⟩) ?_;rintro _ rfl;refine lP (λu=>u=sO d k (.o (sl (kI k))) (.o (sl (kO k))) (.o (sl (kP k))) .n .n .n .n .n .n .n .n .n .n) (λN F=>⟨rfl,_,rfl,k.pairs,rfl,(tx _ (by simp)).1,(tx _ (by simp)).2,.inl rfl,F _ rfl⟩) ?_;rintro _ rfl;refine lP (λu=>u=uT d k (.o (sl (kO k))) .n .n .n) (λN F=>⟨rfl,_,rfl,k.nums,rfl,(tx _ (by simp)).1,(tx _ (by simp)).2,.inl rfl,F _ rfl⟩) ?_;rintro _ rfl;refine lP (λu=>∃ n,n<19/\u=uT d k (.o (sl (kO k))) (.o (.l (pW n))) .n .n) (λN F=>?_) ?_
 .unfold qQ vG Pq;refine⟨d,c,19,rfl,rfl,by decide,by decide,λr1 W=>⟨.inl rfl,by show 4<=1000;decide,d,c,4,rfl,rfl,by decide,by decide,λr2 X=>⟨.inl rfl,?_⟩⟩⟩;obtain⟨m,hm,aj⟩:∃ m:Nat,m<19/\mQ [D.int 0,.int 0,.int 1,.int (r1:Int)] (r2:Int)=some (.int (m:Int)):=by
   have:r2=0\/r2=1\/r2=2\/r2=3:=by omega
   rcases this with rfl | rfl | rfl | rfl
   .exact⟨0,by decide,oA rfl⟩
   .exact⟨0,by decide,oA rfl⟩
   .exact⟨1,by decide,oA rfl⟩
   .exact⟨r1,by omega,oA rfl⟩
  refine⟨_,aj,by omega,by omega,?_⟩;rw[cR];refine B5 (Φ:=λr ac=>N (ac.set 6 r)) (List.range m) (λ(i:Nat)=>D.int (0+(i:Int))) (λi=>.str (nE i)) (uT d k (.o (sl (kO k))) .n .n .n) (by rw[bN];omega) (λj i ys Nx e W X=>?_) (F _ ⟨m,hm,rfl⟩);have hi:i<19:=by have:=bW.mp (aT e);omega
  exact⟨(Lj i hi).1,(Lj i hi).2,W,X⟩
 rintro u ⟨n,hn,rfl⟩;refine lP (λu=>u=uT d k (.o (sl (kO k))) (.o (.l (pW n))) (.o (.l [])) .n) (λN F=>⟨by show 0<=1000;decide,F _ rfl⟩) ?_;rintro _ rfl;refine lP (λu=>∃ (S:Af) (O:Sl),(S = "one" \/ S = "nil")/\u=uT d k (.o (sl (kO k))) (.v (.l (pW n))) (.o (.l (((List.range n).map (pC S)).map oS))) O) (λN F=>?_) ?_
 .refine vF (pW n) (uT d k (.o (sl (kO k))) (.v (.l (pW n))) (.o (.l [])) .n) (λΨ h=>h)
   (λj u=>∃ (S:Af) (O:Sl),(S = "one" \/ S = "nil")/\u=uT d k (.o (sl (kO k))) (.v (.l (pW n))) (.o (.l (((List.range j).map (pC S)).map oS))) O) ⟨"one",.n,.inl rfl,rfl⟩ ?_ ?_
  .rintro j x u Y ⟨S,O,hw,rfl⟩;obtain⟨j',ak,rfl⟩:=xK Y;obtain⟨hj,e⟩:=aP.mp ak;rw[bN] at hj;rw[kK] at e;subst e;refine⟨rfl,by show 2<=1000;decide,d,c,2,rfl,rfl,by decide,by decide,λr hr=>⟨.inl rfl,?_⟩⟩;obtain⟨w1,a8,aj⟩:∃ w1:Af,(w1 = "one" \/ w1 = "nil")/\mQ [D.str "one",.str "nil"] (r:Int)=some (.str w1):=by
    have:r=0\/r=1:=by omega
    rcases this with rfl | rfl
    .exact⟨_,.inl rfl,oA rfl⟩
    .exact⟨_,.inr rfl,oA rfl⟩
   have ec:nI (pW n) none (some 1)=[D.str (nE 0)]:=by
    have:=yX (λi=>D.str (nE i)) (List.range n) 1;obtain⟨m,rfl⟩:∃ m,n=m+1:=⟨n-1,by omega⟩;have e2:(List.range (m+1)).take 1=[0]:=by rw[List.range_succ_eq_map];rfl
    rw[e2] at this;exact this
   refine⟨_,aj,by show 2<=1000;decide,by show 2<=1000;decide,rfl,?_⟩;show (2+(nI (pW n) none (some 1)).length<=100000)/\_;rw[ec];refine⟨by show 2+1<=100000;decide,by show 2<=1000;decide,rfl,rfl,_,rfl,?_⟩;have len:((((List.range j).map (pC S)).map oS).length:Nat)=j:=by simp
   show ∃ c',mQ [D.l [.str (nE j),.str w1],.l [.str (nE j),.str "not",.str (nE 0)]] (if decide ((((((List.range j).map (pC S)).map oS).length:Nat):Int)>0)=true then 1 else 0)=some c'/\(((List.range j).map (pC S)).map oS).length<100000/\_;rw[len];by_cases h0:j=0
   .subst h0;refine⟨D.l [.str (nE 0),.str w1],rfl,by decide,w1,.v (.str (nE 0)),a8,rfl⟩
   .refine⟨D.l [.str (nE j),.str "not",.str (nE 0)],?_,by omega,S,.v (.str (nE j)),hw,?_⟩
    .rw[bA (by simp;omega)];exact oA (j:=1) rfl
    .rw[eR,aY,aY];have:oS (pC S j)=D.l [.str (nE j),.str "not",.str (nE 0)]:=by unfold pC;rw[if_neg h0];rfl
     show _=sO d k _ _ _ _ _ (.o (.l (((List.range j).map (pC S)).map oS++[oS (pC S j)]))) _ _ _ _ _ _ _;rw[this];rfl
  .rintro u ⟨S,O,hw,rfl⟩;rw[show (pW n).length=n by simp[pW]];exact F _ ⟨S,O,hw,rfl⟩
 rintro u ⟨S,O,hw,rfl⟩;refine lP (λu=>∃ Z:Aa Af,(Z=[]\/(1<=n/\Z=[nE (n-1)]))/\u=uT d k (.o (sl (kO k++Z))) (.v (.l (pW n))) (.o (.l (((List.range n).map (pC S)).map oS))) O) (λN F=>?_) ?_
 .refine⟨rfl,rfl,d,c,2,rfl,rfl,by decide,by decide,λr hr=>⟨.inl rfl,?_⟩⟩;show (0:Int)<=(r:Int)/\(r:Int)<=1000/\(nI (pW n) (some (-1)) none).length<=100/\_;have ec:nI (pW n) (some (-1)) none=(if n=0 then [] else [nE (n-1)]).map D.str:=by
   have:=Wu (λi=>D.str (nE i)) n;rw[show pW n=(List.range n).map λi=>D.str (nE i) from rfl,this];split<;>rfl
  rw[ec];refine⟨by omega,by omega,by split<;>simp,?_⟩;show ((kO k).map D.str).length+_<=100000/\_;have a4:=Q.lo;have:r=0\/r=1:=by omega
  rcases this with rfl | rfl
  .refine⟨by show ((kO k).map D.str).length+0<=100000;rw[aB];omega,F _ ⟨[],.inl rfl,?_⟩⟩;rw[eP];show sO d k _ (.o (.l ((kO k).map D.str++[]))) _ _ _ _ _ _ _ _ _ _ _=_;rw[eP]
  .by_cases h0:n=0
   .rw[bA h0];refine⟨by show ((kO k).map D.str).length+0<=100000;rw[aB];omega,F _ ⟨[],.inl rfl,?_⟩⟩;rw[eP];show sO d k _ (.o (.l ((kO k).map D.str++[]))) _ _ _ _ _ _ _ _ _ _ _=_;rw[eP]
   .rw[bF h0];refine⟨by show ((kO k).map D.str).length+1<=100000;rw[aB];omega,F _ ⟨[nE (n-1)],.inr ⟨by omega,rfl⟩,?_⟩⟩;show sO d k _ (.o (.l ((kO k).map D.str++[D.str (nE (n-1))]))) _ _ _ _ _ _ _ _ _ _ _=_;rw[show sl (kO k++[nE (n-1)])=D.l ((kO k).map D.str++[D.str (nE (n-1))]) by simp[sl]]
 rintro u ⟨Z,hex,rfl⟩;have bm:(kG k).length=k.gates.length:=by unfold kG;simp
 have bo:=Q.lg;have bp:=Q.li;have a4:=Q.lo;obtain⟨G,hG⟩:∃ G,G=(List.range n).map (pC S)++kG k:=⟨_,rfl⟩;have G2:∀ l∈G,2<=l.length:=λl hl=>by
  rw[hG] at hl;rcases aX.mp hl with q | q
  .obtain⟨i,_,rfl⟩:=aG.mp q;exact Vg S i
  .exact Q.g2 l q
 have Gl:G.length<=22:=by rw[hG];simp;omega
 refine lP (λu=>u=uT d k (.o (sl (kO k++Z))) (.v (.l (pW n))) (.o (.l (G.map oS))) O) (λN F=>?_) ?_
 .unfold qQ xB;refine⟨rfl,?_⟩;refine oO k.gates D.str (λz=>oS (wQ z)) _ (λΨ h=>⟨rfl,_,rfl,h⟩) (by omega) (λj z ys Nx e W X=>⟨z,rfl,(tx z (by simp[aT e])).1,(tx z (by simp[aT e])).2,.inl rfl,W,X⟩) ?_;refine⟨by show (((List.range n).map (pC S)).map oS).length+(k.gates.map _).length<=100000;simp;omega,F _ ?_⟩;have eG:G.map oS=((List.range n).map (pC S)).map oS++k.gates.map (λz=>oS (wQ z)):=by
   rw[hG,aY]
   congr 1
   unfold kG;rw[bI];rfl
  rw[eG];rfl
 rintro _ rfl;obtain⟨B,hH⟩:∃ B,B=G.map λl=>(nA l).1:=⟨_,rfl⟩
 have eH:B=(List.range n).map nE++kH k:=by
  rw[hH,hG,aY,bI]
  congr 1
  exact iN λi _=>Qo S i
 have ai:(kI k++B).Nodup:=by
  have ar:∀ i∈List.range n,nE i∉kI k++kH k:=λi hi q=>(Eu i (by have:=bW.mp hi;omega)).1 (Q.one _ q).1
  have an:=Q.nd;obtain⟨n1,n2,n3⟩:=bK.mp an;rw[eH];refine bK.mpr ⟨n1,bK.mpr ⟨zC List.nodup_range λi hi j hj e=>(Eu i (by have:=bW.mp hi;omega)).2.2 j (by have:=bW.mp hj;omega) e,n2,λa ha b hb e=>?_⟩,λa ha b hb e=>?_⟩
  .obtain⟨i,hi,rfl⟩:=aG.mp ha;exact ar i hi (by rw[e];exact aI _ hb)
  .rcases aX.mp hb with q | q
   .obtain⟨i,hi,rfl⟩:=aG.mp q;exact ar i hi (by rw[<- e];exact aW _ ha)
   .exact n3 a ha b q e
 have ag:("-" : Af)∉kI k++B:=λq=>by
  rw[eH] at q;rcases aX.mp q with q | q
  .exact (Q.one _ (aW _ q)).2 rfl
  .rcases aX.mp q with q | q
   .obtain⟨i,hi,e⟩:=aG.mp q;exact (Eu i (by have:=bW.mp hi;omega)).2.1 e
   .exact (Q.one _ (aI _ q)).2 rfl
 have Hl:B.length=G.length:=by rw[hH];simp
 refine lP (λu=>u=sO d k (.o (sl (kI k))) (.o (sl (kO k++Z))) (.o (sl (kP k))) (.o (sl (kN k))) (.v (.l (pW n))) (.v (.l (G.map oS))) O (.o (sl (kI k++B))) .n .n .n .n .n) (λN F=>?_) ?_
 .unfold qQ xB;refine⟨rfl,?_⟩;refine oO G oS (λl=>.str (nA l).1) (uT d k (.o (sl (kO k++Z))) (.v (.l (pW n))) (.v (.l (G.map oS))) O) (λΨ h=>h) (by omega) (λj l ys Nx e W X=>⟨rfl,_,(Hr (G2 l (aT e))).1,W,X⟩) ?_;refine⟨by show ((kI k).map D.str).length+(G.map _).length<=100000;simp;omega,F _ ?_⟩;show sO d k _ _ _ _ _ _ _ (.o (.l ((kI k).map D.str++G.map λl=>D.str (nA l).1))) _ _ _ _ _=_;rw[show sl (kI k++B)=D.l ((kI k).map D.str++G.map λl=>D.str (nA l).1) by unfold sl;rw[List.map_append,hH,List.map_map];rfl]
 rintro _ rfl;refine lP (λu=>∃ xs:Aa Af,xs.length=(kI k++B).length/\xs.Nodup/\(∀ x∈xs,GoodName x)/\u=xN d k n G O B (.o (sl (kI k))) (.o (sl (kO k++Z))) (.o (.k (mT ((kI k++B).zip xs)))) .n) (λN F=>?_) ?_
 .refine⟨rfl,_,rfl,d,c,((kI k++B).map D.str).length,rfl,rfl,by simp;omega,λxs lx nd gn=>⟨.inl rfl,false,false,_,_,_,rfl,rfl,Jl (kI k++B),by simp;omega,?_⟩⟩;have aw:xs.length=(kI k++B).length:=by rw[lx,aB]
  rw[Pw,Y1 (by rw[Ki _ _ aw.symm];exact ai)];exact F _ ⟨xs,aw,nd,gn,rfl⟩
 rintro u ⟨xs,lx,bh,bg,rfl⟩;have tk:((kI k++B).zip xs).map (·.1)=kI k++B:=Ki _ _ lx.symm;have ah:∀ o∈kI k++B,lT ((kI k++B).zip xs) o∈xs:=λo ho=>Fp lx.symm ho
 have aa:∀ o∈kI k++B,∀ o'∈kI k++B,lT ((kI k++B).zip xs) o=lT ((kI k++B).zip xs) o'->o=o':=λo ho o' a6 e=>Nk lx.symm bh ho a6 e
 generalize ht:(kI k++B).zip xs=t at tk ah aa |-;have ax:t.length<100000:=by
  have:=cN List.length tk;simp only[aB,bL] at this;omega
 have gk:nF (kI k) (G.map nA):=by
  rw[hG,aY];exact nF.app (Kq hw _ n) (nF.more (λx Y=>aW _ Y) Q.gt)
 have gH:∀ l∈G,(nA l).1∈B:=λl hl=>by rw[hH];exact aG.mpr ⟨l,hl,rfl⟩
 have gP:∀ l∈G,∀ p∈l.drop 2,p∈kI k++B:=λl hl p M=>by
  obtain⟨j,hj,rfl⟩:=fF hl;have W:=(Gp gk (i:=j) (g:=nA G[j]) (by rw[aV,aJ hj];rfl)).2 p M;rcases aX.mp W with q | q
  .exact aW _ q
  .refine aI _ ?_;rw[hH];obtain⟨g,hg,rfl⟩:=aG.mp q;obtain⟨l',a3,rfl⟩:=aG.mp (List.mem_of_mem_take hg);exact aG.mpr ⟨l',a3,rfl⟩
 have oH:∀ o∈kO k++Z,o∈B:=λo ho=>by
  rw[eH];rcases aX.mp ho with q | q
  .exact aI _ (Q.oh o q)
  .rcases hex with rfl | ⟨W,rfl⟩
   .cases q
   .rw[aU.mp q];exact aW _ (aG.mpr ⟨n-1,bW.mpr (by omega),rfl⟩)
 have av:∀ o∈kI k,o∈t.map (·.1):=λo ho=>by rw[tk];exact aW _ ho
 have ao:∀ o∈B,o∈t.map (·.1):=λo ho=>by rw[tk];exact aI _ ho
 refine lP (λu=>u=xN d k n G O B (.o (sl (kI k))) (.o (sl (kO k++Z))) (.o (.k (mT t))) (.o (.l (G.map λl=>pB (ren (lT t) (nA l)))))) (λN F=>?_) ?_
 .unfold qQ;refine oO G oS (λl=>pB (ren (lT t) (nA l))) (xN d k n G O B (.o (sl (kI k))) (.o (sl (kO k++Z))) (.o (.k (mT t))) .n) (λΨ h=>h) (by omega) (λj l ys Nx e W X=>?_) (F _ rfl);have hl:=aT e;refine⟨rfl,rfl,_,(Hr (G2 l hl)).1,_,xF (ao _ (gH l hl)),rfl,_,(Hr (G2 l hl)).2,?_⟩;unfold dC aC;have aq:=(Gp gk (i:=j) (g:=nA l) (by rw[aV,e];rfl)).1.ok;have bi:(l.drop 2).length<=3:=by
   have e2:(nA l).2.2.length=(l.drop 2).length:=rfl;rw[e2] at aq;rcases aq with q | q | q | q | q<;>omega
  refine oO (l.drop 2) D.str (λp=>.str (lT t p)) [.v (oS l),.o (.k (mT t))] (λΨ h=>⟨rfl,by rw[<- Gc] at h;exact h⟩) (by omega) (λj p ys Nx e W X=>⟨rfl,_,xF (by rw[tk];exact gP l hl p (aT e)),W,X⟩) ?_;refine⟨by show 3<=1000;decide,W,?_⟩;have eE:pB (ren (lT t) (nA l))=D.t [.str (lT t (nA l).1),.str (nA l).2.1,.t ((l.drop 2).map λp=>D.str (lT t p))]:=by
   unfold pB ren;rw[bI];rfl
  rw[eE] at X;exact X
 rintro _ rfl;refine lP (λu=>∃ V:Aa Af,V.Perm (kI k)/\u=xN d k n G O B (.o (sl (V.map (lT t)))) (.o (sl (kO k++Z))) (.o (.k (mT t))) (.o (.l (G.map λl=>pB (ren (lT t) (nA l)))))) (λN F=>?_) ?_
 .unfold qQ vG iV;refine⟨d,c,(kI k).map D.str,rfl,.inl rfl,by simp;omega,λys M=>⟨.inl rfl,?_⟩⟩;obtain⟨V,pI,rfl⟩:=Qy M;refine B5 (Φ:=λr ac=>N (ac.set 2 r)) V D.str (λo=>.str (lT t o)) (xN d k n G O B (.v (sl (kI k))) (.o (sl (kO k++Z))) (.o (.k (mT t))) (.o (.l (G.map λl=>pB (ren (lT t) (nA l)))))) (by rw[pI.length_eq];omega) (λj o ys Nx e W X=>⟨rfl,_,xF (av o (pI.mem_iff.mp (aT e))),W,X⟩) (F _ ⟨V,pI,?_⟩);unfold sl;rw[bI];rfl
 rintro u ⟨V,pI,rfl⟩;refine lP (λu=>∃ O':Aa Af,O'.Perm (kO k++Z)/\u=xN d k n G O B (.o (sl (V.map (lT t)))) (.o (sl (O'.map (lT t)))) (.o (.k (mT t))) (.o (.l (G.map λl=>pB (ren (lT t) (nA l)))))) (λN F=>?_) ?_
 .unfold qQ vG iV;have ay:Z.length<=1:=by rcases hex with rfl | ⟨_,rfl⟩<;>simp
  refine⟨d,c,(kO k++Z).map D.str,rfl,.inl rfl,by simp;omega,λys M=>⟨.inl rfl,?_⟩⟩;obtain⟨O',pO,rfl⟩:=Qy M;refine B5 (Φ:=λr ac=>N (ac.set 3 r)) O' D.str (λo=>.str (lT t o)) (xN d k n G O B (.o (sl (V.map (lT t)))) (.v (sl (kO k++Z))) (.o (.k (mT t))) (.o (.l (G.map λl=>pB (ren (lT t) (nA l)))))) (by rw[pO.length_eq,bL];omega) (λj o ys Nx e W X=>⟨rfl,_,xF (ao o (oH o (pO.mem_iff.mp (aT e)))),W,X⟩) (F _ ⟨O',pO,?_⟩);unfold sl;rw[bI (g:=D.str) (f:=lT t) (l:=O')];rfl
 rintro u ⟨O',pO,rfl⟩;have br:=Q.lp;have au:=Gk (kP k) Q.pe;obtain⟨L,ae⟩:∃ L,L=nK (kP k):=⟨_,rfl⟩;rw[<- ae] at au;refine lP (λu=>u=xP d k n G O B t V O' (.o (sl (kN k))) (.o (.k (mT t))) (.o (.l (L.map λp=>nQ (lT t p.1,lT t p.2)))) .n .n) (λN F=>?_) ?_
 .unfold qQ vG Q7;refine⟨rfl,_,rfl,⟨by omega,by omega,by show (0:Int)<=(((kP k).map D.str).length:Nat);omega,by show ((((kP k).map D.str).length:Nat):Int)<=100000;simp;omega,by omega,by omega⟩,?_⟩;have em:uQ 0 ((((kP k).map D.str).length:Nat):Int) 2=L.length:=by
   rw[aB,<- au];exact Oi _
  rw[em];refine B5 (Φ:=λr ac=>N (ac.set 12 r)) (List.range L.length) (λ(i:Nat)=>D.int (0+(i:Int)*2)) (λi=>(λp:Af×Af=>nQ (lT t p.1,lT t p.2)) (L.getD i ("",""))) (xP d k n G O B t V O' (.o (sl (kN k))) (.o (.k (mT t))) .n .n .n) (by rw[bN];omega) (λj i ys Nx e W X=>?_) ?_
  .have hi:=bW.mp (aT e);have M:L[i]?=some L[i]:=aJ hi;have a2:L.getD i ("","")=L[i]:=by simp[List.getD,M]
   rw[a2] at X;obtain⟨q1,q2⟩:=G7 (by rw[<- ae];exact M);have hm:=Q.pm L[i] (by rw[<- ae];exact eD hi);refine⟨rfl,rfl,.str L[i].1,?_,_,xF (ao _ (oH _ (aW _ hm.1))),rfl,rfl,rfl,.str L[i].2,?_,_,xF (av _ hm.2),by show 2<=1000;decide,W,X⟩
   .rw[show (0+(i:Int)*2)=((2*i:Nat):Int) by omega];exact oA (by rw[aV,q1];rfl)
   .rw[show (0+(i:Int)*2+1)=((2*i+1:Nat):Int) by omega];exact oA (by rw[aV,q2];rfl)
  .rw[Ug L ("","") (λp:Af×Af=>nQ (lT t p.1,lT t p.2))];exact F _ rfl
 rintro _ rfl;refine lP (λu=>u=xP d k n G O B t V O' (.o (sl (kN k))) (.o (.k (mT (t++[(("-" : Af),("" : Af))])))) (.o (.l (L.map λp=>nQ (lT t p.1,lT t p.2)))) .n .n) (λN F=>⟨rfl,_,U5 (by rw[tk];exact ag) ax,F _ rfl⟩) ?_;rintro _ rfl;refine lP (λu=>u=xP d k n G O B t V O' (.o (sl (kN k))) (.o (.k (mT (t++[(("-" : Af),("" : Af))])))) (.o (.l (L.map λp=>nQ (lT t p.1,lT t p.2)))) (.o (.k [])) .n) (λN F=>F _ rfl) ?_;rintro _ rfl;have bq:=Q.ln;have a5:=Gk (kN k) Q.ne;have bf:(t++[(("-" : Af),("" : Af))]).map (·.1)=(kI k++B)++[("-" : Af)]:=by rw[aY,tk];rfl
 refine lP (λu=>∃ (wt:mX) (ab:Sl),WtOk 9 wt/\u=xP d k n G O B t V O' (.v (sl (kN k))) (.o (.k (mT (t++[(("-" : Af),("" : Af))])))) (.o (.l (L.map λp=>nQ (lT t p.1,lT t p.2)))) (.o (.k (hO wt))) ab) (λN F=>?_) ?_
 .have em:uQ 0 ((((kN k).map D.str).length:Nat):Int) 2=(nK (kN k)).length:=by
   rw[aB,<- a5];exact Oi _
  refine vF (uZ 0 2 (nK (kN k)).length) (xP d k n G O B t V O' (.v (sl (kN k))) (.o (.k (mT (t++[(("-" : Af),("" : Af))])))) (.o (.l (L.map λp=>nQ (lT t p.1,lT t p.2)))) (.o (.k [])) .n) (λΨ h=>⟨rfl,_,rfl,⟨by omega,by omega,by show (0:Int)<=(((kN k).map D.str).length:Nat);omega,by show ((((kN k).map D.str).length:Nat):Int)<=100000;simp;omega,by omega,by omega⟩,by rw[em];exact h⟩)
   (λj u=>∃ (wt:mX) (ab:Sl),(wt.length<=j/\(wt.map (·.1)).Nodup/\∀ p∈wt,-9<=p.2/\p.2<=9)/\u=xP d k n G O B t V O' (.v (sl (kN k))) (.o (.k (mT (t++[(("-" : Af),("" : Af))])))) (.o (.l (L.map λp=>nQ (lT t p.1,lT t p.2)))) (.o (.k (hO wt))) ab) ⟨[],.n,⟨by simp,by simp,by simp⟩,rfl⟩ ?_ ?_
  .rintro j x u Y ⟨wt,ab,⟨bn,an,az⟩,rfl⟩;obtain⟨j',ak,rfl⟩:=xK Y;obtain⟨hj,e⟩:=aP.mp ak;rw[bN] at hj;rw[kK] at e;subst e;have M:(nK (kN k))[j]?=some (nK (kN k))[j]:=aJ hj;obtain⟨q1,q2⟩:=G7 M;obtain⟨m1,m2,m3⟩:=Q.nm _ (eD hj);obtain⟨v,hv⟩:=cL.mp m2;have a1:mQ ((kN k).map D.str) (0+(j:Int)*2+1)=some (.str (nK (kN k))[j].2):=by
    rw[show (0+(j:Int)*2+1)=((2*j+1:Nat):Int) by omega];exact oA (by rw[aV,q2];rfl)
   have a0:mQ ((kN k).map D.str) (0+(j:Int)*2)=some (.str (nK (kN k))[j].1):=by
    rw[show (0+(j:Int)*2)=((2*j:Nat):Int) by omega];exact oA (by rw[aV,q1];rfl)
   have ky:(nK (kN k))[j].1∈(t++[(("-" : Af),("" : Af))]).map (·.1):=by
    rw[bf];rcases m1 with q | q
    .refine aW _ ?_;rcases aX.mp q with z | z
     .exact aW _ z
     .exact aI _ (by rw[eH];exact aI _ z)
    .rw[q];exact aI _ (by simp)
   have jl:j<100:=by omega
   have a7:=Us hk (eD hj) hv;have e3:=Wn wt (lT (t++[(("-" : Af),("" : Af))]) (nK (kN k))[j].1) v;refine⟨rfl,rfl,_,a1,v,hv,m3,rfl,rfl,rfl,_,a0,_,xF ky,.k (pM (hO wt) (Sum.inr (lT (t++[(("-" : Af),("" : Af))]) (nK (kN k))[j].1)) (.int v)),?_,vN wt (lT (t++[(("-" : Af),("" : Af))]) (nK (kN k))[j].1) v,.v (.int (0+(j:Int)*2)),⟨?_,Xj an,λp M=>?_⟩,?_⟩
   .have:(hO wt).length<100000:=by unfold hO;rw[List.length_map];omega
    simp only[uC,bA this];rfl
   .exact bX (CU _ _ _) (by omega)
   .rcases Tr M with q | q
    .exact az p q
    .rw[q];exact a7
   .rw[<- e3];rfl
  .rintro u ⟨wt,ab,⟨W,X,h3⟩,rfl⟩;have e4:(uZ 0 2 (nK (kN k)).length).length=(nK (kN k)).length:=by unfold uZ;simp
   exact F _ ⟨wt,ab,⟨X,by omega,h3⟩,rfl⟩
 rintro u ⟨wt,ab,a9,rfl⟩;refine⟨by show 3<=1000;decide,d,c,_,rfl,.inl rfl,by show (L.map _).length<=1000;simp;omega,λys M=>⟨.inl rfl,by show 2<=1000;decide,by show 2<=1000;decide,?_⟩⟩;obtain⟨al,pA,e⟩:=T9 (xs:=L.map λp=>(lT t p.1,lT t p.2)) (ys:=ys) (by rw[bI];exact M);subst e;have fin:=ba ⟨V.map (lT t),G.map λl=>ren (lT t) (nA l),O'.map (lT t)⟩ al wt ?_ a9
 .unfold nH tT at fin;dsimp only at fin;rw[bI (g:=pB)] at fin;exact fin
 have iO:∀ o∈O',o∈kI k++B:=λo ho=>aI _ (oH o (pO.mem_iff.mp ho))
 have iI:∀ o∈V,o∈kI k++B:=λo ho=>aW _ (pI.mem_iff.mp ho)
 have ay:Z.length<=1:=by rcases hex with rfl | ⟨_,rfl⟩<;>simp
 have eN:(G.map λl=>ren (lT t) (nA l)).map (·.1)=B.map (lT t):=by
  rw[hH,bI,bI];rfl
 have pm:∀ p∈L,p.1∈kO k/\p.2∈kI k:=λp M=>Q.pm p (by rw[<- ae];exact M)
 have bd:(L.map (·.1)).Nodup:=by rw[ae];exact Q.p1
 have be:(L.map (·.2)).Nodup:=by rw[ae];exact Q.p2
 have bb:(kO k++Z).Nodup:=by
  refine bK.mpr ⟨Q.ond,?_,λa ha b hb e=>?_⟩
  .rcases hex with rfl | ⟨_,rfl⟩<;>simp
  .rcases hex with rfl | ⟨W,rfl⟩
   .cases hb
   .rw[aU.mp hb] at e;exact (Eu (n-1) (by omega)).1 (by rw[<- e];exact (Q.one a (aI _ (Q.oh a ha))).1)
 refine⟨⟨?_,?_,?_,?_,?_,?_,?_,?_⟩,?_,?_,?_,?_,?_⟩
 .show (V.map (lT t)++(G.map λl=>ren (lT t) (nA l)).map (·.1)).Nodup;rw[eN,<- aY];have af:(V++B).Perm (kI k++B):=pI.append_right B;exact zC (af.nodup_iff.mpr ai) λx Y y hy e=>aa x (af.mem_iff.mp Y) y (af.mem_iff.mp hy) e
 .intro x Y;have Y:x∈V.map (lT t)++(G.map λl=>ren (lT t) (nA l)).map (·.1):=Y;rw[eN,<- aY] at Y;obtain⟨o,ho,rfl⟩:=aG.mp Y;refine bg _ (ah o ?_);rcases aX.mp ho with q | q
  .exact iI o q
  .exact aI _ q
 .have g1:nF V (G.map nA):=nF.more (λx Y=>pI.mem_iff.mpr Y) gk;have:=g1.ren (lT t);rw[bI] at this;exact this
 .intro o ho;obtain⟨q,hq,rfl⟩:=aG.mp ho;refine aI _ ?_;rw[eN];exact aG.mpr ⟨q,oH q (pO.mem_iff.mp hq),rfl⟩
 .exact zC (pO.nodup_iff.mpr bb) λx Y y hy e=>aa x (iO x Y) y (iO y hy) e
 .show (V.map (lT t)).length<=6;rw[aB,pI.length_eq];omega
 .show (G.map _).length<=24;rw[aB];omega
 .show (O'.map (lT t)).length<=6;rw[aB,pO.length_eq,bL];omega
 .intro o ho;obtain⟨q,hq,rfl⟩:=aG.mp ho;show _∈(G.map λl=>ren (lT t) (nA l)).map (·.1);rw[eN];exact aG.mpr ⟨q,oH q (pO.mem_iff.mp hq),rfl⟩
 .refine (pA.map (·.1)).nodup_iff.mpr ?_;rw[bI];have:(L.map (·.1)).map (lT t)=L.map ((·.1)∘λp:Af×Af=>(lT t p.1,lT t p.2)):=by rw[bI];rfl
  rw[<- this];refine zC bd λx Y y hy e=>aa x ?_ y ?_ e
  .obtain⟨p,M,rfl⟩:=aG.mp Y;exact aI _ (oH _ (aW _ (pm p M).1))
  .obtain⟨p,M,rfl⟩:=aG.mp hy;exact aI _ (oH _ (aW _ (pm p M).1))
 .refine (pA.map (·.2)).nodup_iff.mpr ?_;rw[bI];have:(L.map (·.2)).map (lT t)=L.map ((·.2)∘λp:Af×Af=>(lT t p.1,lT t p.2)):=by rw[bI];rfl
  rw[<- this];refine zC be λx Y y hy e=>aa x ?_ y ?_ e
  .obtain⟨p,M,rfl⟩:=aG.mp Y;exact aW _ (pm p M).2
  .obtain⟨p,M,rfl⟩:=aG.mp hy;exact aW _ (pm p M).2
 .intro p M;obtain⟨q,hq,rfl⟩:=aG.mp (pA.mem_iff.mp M);exact⟨aG.mpr ⟨q.1,pO.mem_iff.mpr (aW _ (pm q hq).1),rfl⟩,aG.mpr ⟨q.2,pI.mem_iff.mpr (pm q hq).2,rfl⟩⟩
 .rw[pA.length_eq,aB];omega
end
def B4 (K:lJ):Sp:=λe H Q _=>∃ (a:Ad) (c:Aa Int),e=[.ref a]/\gV K H a (c.map V.int)/\c.length<=63/\∀ d,Q (.b true) d
abbrev CA:=Cel×Aa (Af×Af)
def Ui (x:CA):D:=nH x.1 x.2
theorem Wg (g:al.length<=4) (k:Nat):0<=nB C al k:=by
 have:=Rf (C:=C) g (cS k);exact this
section
variable {P:Ah}{K:lJ}
theorem zU:FnScope ["script","deck","row","found","widths"] ["script"] (mG Nh):=pD
theorem EV (F:Fun K "law" "law" Nh f fd) (T:Txt mg) (g:Gd K mg "_law_deck" Du ["script"] fD ah)
  (ac:Kn P w K mg base 4 "_law_made" Em ["deck","kit"] Pd) (ae:Kn P w K mg base 2 "_law_kit" Cm ["deck"] Kl) (U:Kn P w K mg base 4 "_law_row" Dj ["deck","inputs","gates","most"] Mh) (af:Kn P w K mg base 6 "ways" Ez ["row"] Kk) (J:Kn P w K mg base 1 "_law_is_told" E2 ["found"] Mw) (I:Kn P w K mg base 1 "_law_by_told" Bt ["found","widths"] Ju) (aa:Kn P w K mg base 1 "_law_latest" Fi ["row","widths"] Li) (j:Kn P w K mg base 2 "_law_is_shortest" Cy ["found"] Qi)
  (ab:FnOk P w K mg base nG 1 fD ah ["script"] (Na K)) :
  FnOk P w K mg base nG 7 f fd ["script"] (B4 K):=by
 refine F.ok zU (λvs H Q E h=>?_) (λar A an s H vs Q E q h=>?_)
 .obtain⟨a,ns,rfl,_⟩:=h;rfl
 .obtain⟨a,ns,rfl,hS,M,hQ⟩:=h;have hu:=Lq q;have ak:Room 1 _:=q.mono (by decide);refine Ou _ (nU (i:=1) zU.nd rfl (Or.inl rfl) (rJ ab ak rfl g.m g.k g.b .nil qR (lQ (pv 0) lY))) ?_;refine⟨_,rfl,a,ns,rfl,hS,M,λd c H1 D1 _ _ _=>?_⟩;refine⟨_,(lK (sQ (nV (mW (dK (mI U q (dK (eM 1) (dK hI (dK hI (dK hI dT))))) (dK (zT hu (mI ac q (dK (eM 1) (dK (mI ae q (dK (eM 1) dT)) dT))) hI) (dK (mI U q (dK (eM 1) (dK hI (dK hI (dK hI dT))))) dT))))) (mC 2 zU.nd) (lK (mD 3 zU.nd (mI af q (dK (eM 2) dT))) (lK (zA (zF (wM (mI J q (dK (eM 3) dT)))) (mN (nT vU)) yC) (lK (mD 4 zU.nd (nC mR mS (nC mR mS (nD pE oY T.len bG (dK (lV hu 3 hI) dT)) (lV hu 3 hI)) hI)) (mN (zA (yL (yH (wJ (El q.units) (wG true) (mI I q (dK (eM 3) (dK (eM 4) dT))) (mI aa q (dK (eM 2) (dK (eM 4) dT)))) (E8 (zF (wM (mI j q (dK (eM 3) dT))))))) (mN (nT vU)) yC)))))) (mN (nT vU))),⟨[d,c],λ_=>False,H1⟩,[.n,.v (.r (.ref d)),.n,.n,.n],[],{ nx:=λ_=>False,rt:=λr=>r = .v (.b true) },rfl,?_,?_,?_,?_⟩
  .refine⟨λb o e _=>e,.inr ⟨d,c,rfl,D1⟩,List.nodup_nil,λb hb=>absurd hb bH,λp W=>?_⟩;have W:p∈[((Sl.n:Sl),some (V.ref a)),(.v (.r (.ref d)),some (V.ref d)),(.n,none),(.n,none),(.n,none)]:=W;simp only[aF,bH,eF] at W;rcases W with rfl | rfl | rfl | rfl | rfl<;>first | trivial | exact⟨_,rfl,.r _⟩
  .refine lP (λu=>∃ R S G,u=[.n,.v (.r (.ref d)),R,S,G]) (λN y=>?_) ?_
   .unfold Gg iV;refine⟨d,c,6,10,4,rfl,rfl,by decide,by decide,by decide,λC1 Y g1=>⟨.inl rfl,d,c,rfl,rfl,λkt ai=>⟨.inl rfl,d,c,kt,rfl,rfl,ai,λC2 Z wt g2 _=>⟨.inl rfl,_,rfl,d,c,6,24,4,rfl,rfl,by decide,by decide,by decide,λC3 ag g3=>⟨.inl rfl,by show 3<=1000;decide,?_⟩⟩⟩⟩⟩;obtain⟨X,O⟩:∃ X:Aa CA,X=[(C1,Y),(C2,Z),(C3,ag)]:=⟨_,rfl⟩;have good:∀ x∈X,GoodRow x.1 x.2:=λx B=>by
     rw[O] at B;simp only[aF,bH,eF] at B;rcases B with rfl | rfl | rfl
     .exact g1
     .exact g2
     .exact g3
    refine⟨λi u=>∃ R S G,u=[.n,.v (.r (.ref d)),R,S,G],⟨_,_,_,rfl⟩,?_,?_⟩
    .rintro i x u B ⟨R,S,G,rfl⟩;have B:(X.map Ui)[i]?=some x:=by rw[O];exact B
     obtain⟨⟨C,al⟩,aj,rfl⟩:=xK B;have gr:GoodRow C al:=good _ (aT aj);have h4:=gr.la;refine lP (λu=>∃ (count ring:Nat) (a:Int),Told (nB C al) count ring a/\count<=7012/\ring<=12/\u=[.n,.v (.r (.ref d)),.v (nH C al),.v (sD (nB C al) count ring a),G]) (λN y=>⟨C,al,rfl,gr,λcount ring a z hc t=>⟨.inl rfl,y _ ⟨count,ring,a,z,hc,t,rfl⟩⟩⟩) ?_;rintro _ ⟨count,ring,a,z,hc,t,rfl⟩;have q1:=z.r1;have q2:=z.rc;refine lP (λu=>u=[.n,.v (.r (.ref d)),.v (nH C al),.v (sD (nB C al) count ring a),G]) (λN y=>?_) ?_
     .exact⟨nB C al,count,ring,a,rfl,z,Wg h4,by omega,.inl rfl,rfl,_,rfl,y _ rfl⟩
     rintro _ rfl;refine lP (λu=>u=[.n,.v (.r (.ref d)),.v (nH C al),.v (sD (nB C al) count ring a),.v (.int ((count+ring+160:Nat):Int))]) (λN y=>?_) ?_
     .refine⟨rfl,_,rfl,rfl,_,rfl,rfl,_,rfl,y _ ?_⟩;have len:((List.range count).map λi=>D.int (nB C al (i+1))).length=count:=by simp
      have:((((List.range count).map λi=>D.int (nB C al (i+1))).length:Nat):Int)+(ring:Int)+160=((count+ring+160:Nat):Int):=by rw[len];omega
      rw[<- this];rfl
     rintro _ rfl;have key:∀ (w:Nat) (L:Sl->Prop),L (.v (.b false))->zM true (.l ((List.range w).map λi=>D.int (nB C al (i+1)))) (.l ((List.range w).map λi=>D.int (oZ C al i))) L:=λw L h=>by
      have e1:D.l ((List.range w).map λi=>D.int (nB C al (i+1)))=lZ ((List.range w).map λi=>nB C al (i+1)):=by
       show _=D.l (List.map D.int _);rw[bI];rfl
      have e2:D.l ((List.range w).map λi=>D.int (oZ C al i))=lZ ((List.range w).map λi=>nB C al (i+1)):=by
       show _=D.l (List.map D.int _);rw[bI];rfl
      rw[e1,e2];refine G6 true _ _ ?_;rw[cV rfl];exact h
     refine⟨nB C al,count,ring,a,count+ring+160,rfl,z,by omega,by omega,.inl rfl,C,al,count+ring+160,rfl,gr,by omega,.inl rfl,?_⟩;refine key _ _ ?_;exact⟨nB C al,count,ring,a,rfl,z,by omega,t,.inl rfl,rfl,_,rfl,_,_,_,rfl⟩
    .rintro u h;exact y _ h
   rintro _ ⟨R,S,G,rfl⟩;exact rfl
  .intro ao aq H' _ _ _;exact⟨False.elim,False.elim,False.elim⟩
  .rintro r v ao aq H' _ d1 rfl;obtain rfl:=d1.valAt.bl_inv;exact hQ H'
end
def DF (K:lJ) (x:Af) (st:Stmt):Prop:=∃ (f:Ad) (e a:Ab Ad) (sl:Array (Ab Ac)) (d kV c pm cd b:Ac),PySem.W.nsIn K mainGlobals x=some (some (.ref f))/\K.lookup f=some ⟨d,e,.func (PySem.W.fnOf x x (sH st) (qU st) (mG st) .none kV c pm a cd b),sl⟩/\PySem.W.codeIn K cd x=true/\PySem.W.keepIn K (.ref f)=true
def NZ (K:lJ) (x:Af):Prop:=PySem.W.nsIn K mainGlobals x=some none
theorem df_mk {K:lJ}{st:Stmt}{sl:Array (Ab Ac)}{kV cd:Ac}(a:PySem.W.nsIn K mainGlobals x=some (some (.ref f))) (l:K.lookup f=some ⟨p,r,.func (PySem.W.fnOf x x (sH st) (qU st) (mG st) .none kV o pm g cd j),sl⟩) (c:PySem.W.codeIn K cd x=true) (k:PySem.W.keepIn K (.ref f)=true):DF K x st:=⟨f,r,g,sl,p,kV,o,pm,cd,j,a,l,c,k⟩
theorem zO {K:lJ}{st:Stmt}(o:Aa Af) (X:K.In h) (G:h.Ns mainGlobals J) (d:DF K x st)
  (I:∀ (kV j pm:Ac) (r:Ab Ad) (g C:Ac) (p:Aa Ac),p.length=o.length->bindArgs (PySem.W.fnOf x x (sH st) (qU st) (mG st) .none kV j pm r g C) ⟨p,[]⟩=pure (o.zip p)):∃ f fd,Gd K J x st o f fd:=by
 obtain⟨f,i,r,sl,e,kV,b,pm,cd,C,a,l,c,k⟩:=d;have F:=Ol (st:=st) l c k;exact⟨f,_,F,PySem.W.mg_of X G a,k,F.binds I⟩
theorem Tp {K:lJ}{st:Stmt}(X:K.In h) (G:h.Ns mainGlobals j) (d:DF K x st) (g:∀ a b c d e f,bindArgs (PySem.W.fnOf x x (sH st) (qU st) (mG st) .none a b c d e f) ⟨[],[]⟩=pure []:=by intros;rfl):∃ f fd,Gd K j x st [] f fd :=
 zO [] X G d λa b c d e f k i=>by rcases k with _ | _<;>first | exact g a b c d e f | cases i
theorem vK {K:lJ}{st:Stmt}(j:Af) (X:K.In h) (G:h.Ns mainGlobals o) (d:DF K x st) (l:∀ a b c d e f g,bindArgs (PySem.W.fnOf x x (sH st) (qU st) (mG st) .none a b c d e f) ⟨[g],[]⟩=pure [(j,g)]:=by intros;rfl):∃ f fd,Gd K o x st [j] f fd :=
 zO [j] X G d λa b c d e f k i=>by rcases k with _ | ⟨g,_ | _⟩<;>first | exact l a b c d e f g | cases i
theorem sA {K:lJ}{st:Stmt}(l o:Af) (X:K.In h) (G:h.Ns mainGlobals r) (d:DF K x st) (p:∀ a b c d e f g j,bindArgs (PySem.W.fnOf x x (sH st) (qU st) (mG st) .none a b c d e f) ⟨[g,j],[]⟩=pure [(l,g),(o,j)]:=by intros;rfl):∃ f fd,Gd K r x st [l,o] f fd :=
 zO [l,o] X G d λa b c d e f k i=>by rcases k with _ | ⟨g,_ | ⟨j,_ | _⟩⟩<;>first | exact p a b c d e f g j | cases i
theorem Pj {K:lJ}{st:Stmt}(o p r:Af) (X:K.In h) (G:h.Ns mainGlobals I) (d:DF K x st) (C:∀ a b c d e f g j l,bindArgs (PySem.W.fnOf x x (sH st) (qU st) (mG st) .none a b c d e f) ⟨[g,j,l],[]⟩=pure [(o,g),(p,j),(r,l)]:=by intros;rfl):∃ f fd,Gd K I x st [o,p,r] f fd :=
 zO [o,p,r] X G d λa b c d e f k i=>by rcases k with _ | ⟨g,_ | ⟨j,_ | ⟨l,_ | _⟩⟩⟩<;>first | exact C a b c d e f g j l | cases i
theorem EB {K:lJ}{st:Stmt}(p r C I:Af) (X:K.In h) (G:h.Ns mainGlobals T) (d:DF K x st) (J:∀ a b c d e f g j l o,bindArgs (PySem.W.fnOf x x (sH st) (qU st) (mG st) .none a b c d e f) ⟨[g,j,l,o],[]⟩=pure [(p,g),(r,j),(C,l),(I,o)]:=by intros;rfl):∃ f fd,Gd K T x st [p,r,C,I] f fd :=
 zO [p,r,C,I] X G d λa b c d e f k i=>by rcases k with _ | ⟨g,_ | ⟨j,_ | ⟨l,_ | ⟨o,_ | _⟩⟩⟩⟩<;>first | exact J a b c d e f g j l o | cases i
theorem all_mk {l:PySem.W.OpenLaw}{K:lJ}(X:K.In h) (G:h.Ns mainGlobals mg) (bh:mg "law" = some (.ref fa))
  (d1:DF K "carried_inputs" Fv)
  (d2:DF K "ways" Ez)
  (d3:DF K "common_ring" F2)
  (d4:DF K "lates_to" C5)
  (d5:DF K "at_edges" zR)
  (d6:DF K "one_cell_more" zI)
  (d7:DF K "told_lates" C4)
  (d8:DF K "steady_from" Di)
  (d9:DF K "are_steady" B9)
  (az:DF K "adds_always" C0)
  (a0:DF K "more_by" Fn)
  (a1:DF K "_law_deck" Du)
  (a2:DF K "_law_take" tZ)
  (a3:DF K "_law_kept" Bd)
  (a4:DF K "_law_made_names" E7)
  (a5:DF K "_law_names" Ay)
  (a6:DF K "_law_gate" Fq)
  (a7:DF K "_law_row" Dj)
  (a8:DF K "_law_kit" Cm)
  (a9:DF K "_law_shuffled" F3)
  (ba:DF K "_law_words" Cb)
  (bb:DF K "_law_made" Em)
  (bc:DF K "_law_latest" Fi)
  (bd:DF K "_law_is_told" E2)
  (be:DF K "_law_by_told" Bt)
  (bf:DF K "_law_is_shortest" Cy)
  (bg:DF K "law" Bg)
  (z1:NZ K "len")
  (z2:NZ K "range")
  (z3:NZ K "sum")
  (z4:NZ K "min")
  (z5:NZ K "max")
  (z6:NZ K "tuple")
  (z7:NZ K "list")
  (z8:NZ K "set")
  (z9:NZ K "dict")
  (bi:NZ K "int")
  (bj:NZ K "str")
  (bm:NZ K "zip")
  (bn:NZ K "enumerate")
  (bo:NZ K "all")
  (bp:NZ K "any")
  (bq:NZ K "isinstance")
  (br:NZ K "sorted")
  (bt:NZ K "abs")
  (bu:NZ K "reversed")
  (bv:NZ K "bool")
  : ∃ fd:FuncData,(∀ (s:Ae) (v:Ac),BindsTo s fd ⟨[v],[]⟩ [("script",v)])/\∀ base:Ag,K.In base->base.Ns mainGlobals mg->FnOk l.prog w K mg base nG 7 fa fd ["script"] (B4 K):=by
 obtain⟨f1,e1,q⟩:=vK "row" X G d1;obtain⟨f2,e2,ax⟩:=vK "row" X G d2;obtain⟨f3,e3,L⟩:=vK "count" X G d3;obtain⟨f4,e4,ac⟩:=sA "row" "width" X G d4;obtain⟨f5,e5,ab⟩:=vK "row" X G d5;obtain⟨f6,e6,z⟩:=sA "row" "state" X G d6;obtain⟨f7,e7,p⟩:=sA "cell" "carried" X G d7;obtain⟨f8,e8,O⟩:=sA "row" "ring" X G d8;obtain⟨f9,e9,Z⟩:=sA "row" "states" X G d9;obtain⟨cg,bw,H⟩:=Pj "row" "state" "added" X G az;obtain⟨ch,bx,aq⟩:=Pj "state" "added" "times" X G a0;obtain⟨cj,bz,A⟩:=vK "script" X G a1;obtain⟨ck,b0,e⟩:=sA "deck" "many" X G a2;obtain⟨cl,b1,af⟩:=Tp X G a3;obtain⟨cm,b2,t⟩:=sA "deck" "many" X G a4;obtain⟨cn,b3,J⟩:=sA "deck" "many" X G a5;obtain⟨cp,b4,ae⟩:=sA "deck" "known" X G a6;obtain⟨cq,b5,ao⟩:=EB "deck" "inputs" "gates" "most" X G a7;obtain⟨cs,b6,ak⟩:=vK "deck" X G a8;obtain⟨cu,b7,D⟩:=sA "deck" "some" X G a9;obtain⟨cv,b8,U⟩:=vK "text" X G ba;obtain⟨cw,b9,ag⟩:=sA "deck" "kit" X G bb;obtain⟨cx,ca,j⟩:=sA "row" "widths" X G bc;obtain⟨cy,cb,N⟩:=vK "found" X G bd;obtain⟨cz,cc,M⟩:=sA "found" "widths" X G be;obtain⟨c0,cf,m⟩:=vK "found" X G bf;obtain⟨f,od,an,sl,oc,kV,dc,pm,cd,ct,a,lk,c,k⟩:=bg;cases bh.symm.trans (PySem.W.mg_of X G a);have FL:=Ol (st:=Bg) lk c k;refine⟨PySem.W.fnOf "law" "law" (sH Bg) (qU Bg) (mG Bg) .none kV dc pm an cd ct,λs v=>.of_eq rfl,λbase _ _=>?_⟩;have T:Txt mg:=⟨bM X G z1,bM X G z2,bM X G z3,bM X G z4,bM X G z5,bM X G z6,bM X G z7,bM X G z8,bM X G z9,bM X G bi,bM X G bj,bM X G bm,bM X G bn,bM X G bo,bM X G bp,bM X G bq,bM X G br,bM X G bt,bM X G bu,bM X G bv⟩;have Y:∀ {k x st ps R f fd},Gd K mg x st ps f fd->oR l.prog w K mg base k x st ps R->Kn l.prog w K mg base k x st ps R:=λg o=>⟨_,_,g,o _ _ g.F⟩
 have b:=Y e λ_ _ F=>HB (Dg F T)
 have y:=Y J λ_ _ F=>Uy (Xr F T e af t)
 have ai:=Y ae λ_ _ F=>Xk (Zc F T e)
 have au:=Y ao (Tc T b y ai);have E:=Y D (FK T b);have aa:=Y U (Ta T);have ar:=Y ak (Xo T b);have aj:=Y ag (Ze T b y E aa);have u:=Y q (Xz T);have B:=Y ab (GR T);have I:=Y p (Vh T);have d:=Y z (Tw T u I);have ah:=Y ac (Vw T B d);have aw:=d.mono (R':=Ce) λ_ _ _=>Xb
 have Q:=Y L (EW T);have av:=Y aq (AE T);have P:=Y H (DR T aw av);have r:=Y Z (EC T P);have V:=Y O (Z0 T B aw r);have ay:=Y ax (AV T Q V ah);have C:=Y j (Vf T);have S:=Y N (Ut T);have i:=Y M (S3 T);have n:=Y m (FN T i);exact EV FL T A aj ar au ay S i C n (Wp A.F T)
theorem walk {l:PySem.W.OpenLaw}{q:Ah}{g:Aa Af}{C:(Af->Ab Ac)->Ag->Prop}{p:World->Ag->Prop}{d:DefRec}{K:Params->lJ}(J:l.most=some 63) (o:d.params.defaults=[])
  (I:∀ (w:World) (h:Ag),p w h->(K w.params).In h)
  (F:∀ (w:World) (j:Af->Ab Ac) (r:Ad) (h:Ag),(K w.params).In h->h.Ns mainGlobals j->j d.name=some (.ref r) ->∃ fd:FuncData,(∀ (s:Ae) (u:Ac),BindsTo s fd ⟨[u],[]⟩ [("script",u)])/\∀ base:Ag,(K w.params).In base->base.Ns mainGlobals j->FnOk l.prog w (K w.params) j base nG 7 r fd ["script"] (B4 (K w.params))) :
  PySem.W.WalkO q g C p l.row.toRowW d [] (λf T=>PySem.call f T) :=
 L2.walk_of (n:=63) (k:=7) (x := "script") (CX:=λ_=>nG) (sp:=λw=>B4 (K w.params)) J (by decide) o ⟨rfl,by decide,by decide⟩ I F (λ_ _ a e c _ b=>⟨a,e,rfl,b,c,λ_=>rfl⟩) λ_ _ _ _ _ z=>z
end Lw
namespace PySem.W.Fast
theorem tw17733703801700882889:True:=⟨⟩
theorem tw14599426095757298526:True:=⟨⟩
theorem tw7336727126766722614:True:=⟨⟩
theorem tw15226647730047140338:True:=⟨⟩
theorem tw12884517036035491287:True:=⟨⟩
theorem tw4283974385357382608:True:=⟨⟩
theorem tw5137432058837306818:True:=⟨⟩
theorem tw12387140232281291413:True:=⟨⟩
theorem tw4144595542213399958:True:=⟨⟩
theorem tw10909453778842796964:True:=⟨⟩
theorem tw3530937388777615220:True:=⟨⟩
theorem tw9750935800202972890:True:=⟨⟩
theorem tw1291460410583850174:True:=⟨⟩
theorem tw5539760629215967886:True:=⟨⟩
theorem tw3740344352735812502:True:=⟨⟩
theorem tw5917678521864900318:True:=⟨⟩
theorem tw15935753147650425606:True:=⟨⟩
theorem tw7284660453081024505:True:=⟨⟩
theorem tw1963324833509521696:True:=⟨⟩
theorem tw9285533142326059184:True:=⟨⟩
theorem tw16522867249833589855:True:=⟨⟩
theorem tw14800241910945814179:True:=⟨⟩
theorem tw8204555519291669093:True:=⟨⟩
theorem tw9544658470342013003:True:=⟨⟩
theorem tw15786285692096670677:True:=⟨⟩
theorem tw13415767814910284492:True:=⟨⟩
theorem tw8931970915069739361:True:=⟨⟩
theorem tw12167310216514641377:True:=⟨⟩
theorem tw5596858781341590252:True:=⟨⟩
theorem tw5968650980239701952:True:=⟨⟩
theorem tw996697039311283825:True:=⟨⟩
theorem tw15243489553837760415:True:=⟨⟩
theorem tw12414033690251863745:True:=⟨⟩
theorem tw12387718652574216651:True:=⟨⟩
theorem tw13961564234919354842:True:=⟨⟩
theorem tw13354329006498933388:True:=⟨⟩
theorem tw2637060286958742982:True:=⟨⟩
theorem tw4298500973094129606:True:=⟨⟩
theorem tw3566223818797309624:True:=⟨⟩
theorem tw9183549954004559498:True:=⟨⟩
theorem tw14489268665614259464:True:=⟨⟩
theorem tw16465281694254529343:True:=⟨⟩
theorem tw15868997638394515328:True:=⟨⟩
theorem tw7048528243986322741:True:=⟨⟩
theorem tw5752176097308319958:True:=⟨⟩
theorem tw5595734791561454448:True:=⟨⟩
theorem tw4956976230592584581:True:=⟨⟩
theorem tw9945369416478488622:True:=⟨⟩
theorem tw5728075532832094703:True:=⟨⟩
theorem tw8381941733959474459:True:=⟨⟩
theorem tw4062286687594354611:True:=⟨⟩
theorem tw15711848239805762178:True:=⟨⟩
theorem tw6701347453301275299:True:=⟨⟩
theorem tw9569998682960466203:True:=⟨⟩
theorem tw3914259429134389128:True:=⟨⟩
theorem tw2292958253787737756:True:=⟨⟩
theorem tw14461292747176307964:True:=⟨⟩
theorem tw12931402578856567012:True:=⟨⟩
theorem tw12721605565524064416:True:=⟨⟩
theorem tw5656983534722896068:True:=⟨⟩
theorem tw4000704011409170915:True:=⟨⟩
theorem tw8614919577003980386:True:=⟨⟩
theorem tw3797034019359057355:True:=⟨⟩
theorem tw5325908908513975211:True:=⟨⟩
theorem tw15347698878600936467:True:=⟨⟩
theorem tw13007209960809717132:True:=⟨⟩
theorem tw17893366001098697166:True:=⟨⟩
theorem tw2808900414468065536:True:=⟨⟩
theorem tw16601492765934282670:True:=⟨⟩
end PySem.W.Fast
open PySem PySem.W PyProof.Rows
set_option maxRecDepth 100000 in
set_option maxHeartbeats 0 in
theorem PySem.Challenge.cw_laidcells_k29_ways_told_holds : PySem.Challenge.rw_laidcells_k29_ways_told.Holds := by
 w_on;o_law;k_head;(case hw=>w_witness2)
 k_fill
 refine Lw.walk (l:=PySem.Challenge.rw_laidcells_k29_ways_told) rfl rfl (fun w h Y=>PySem.W.kIn_of Y) ?F
 case F =>
  intro w mg fa h KX G hmg;refine' Lw.all_mk KX G hmg ?_ ?_ ?_ ?_ ?_ ?_ ?_ ?_ ?_ ?_ ?_ ?_ ?_ ?_ ?_ ?_ ?_ ?_ ?_ ?_ ?_ ?_ ?_ ?_ ?_ ?_ ?_ ?_ ?_ ?_ ?_ ?_ ?_ ?_ ?_ ?_ ?_ ?_ ?_ ?_ ?_ ?_ ?_ ?_ ?_ ?_ ?_
  all_goals try refine' Lw.df_mk ?_ ?_ ?_ ?_
  all_goals try unfold Lw.NZ
  all_goals try first | k_is | (dsimp only;k_is)
