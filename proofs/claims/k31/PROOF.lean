import PyProof.Rows.All
import Wide.All
import OpenK.AllK
import Wide.FinOn
import Lean
import PyProof.EqAt
import PyProof.EqKinds
import PyProof.TupleCall
import PyProof.StationsW
import PyProof.Commute
import PyProof.ExcClass3
import PyProof.ExcInit
import OpenK.KCls
import OpenK.KMake
import PyProof.ExcArgsOwn
import PyProof.InstStoreFacts
import PyProof.MaxThree
import KE.KMinKey
import KE.KIntText
import PyProof.DictUpdate
import PyProof.Draws
import PyProof.EnumMake
import PyProof.DictIter
import PyProof.P3Eq
import KE.KDictSum
import KE.KRevSl
import PyProof.Rows.SortStr
import PyProof.Rows.SortWalk
import PyProof.DictValues
import PyProof.DictWalks
import PyProof.MeetsDictList
import PySem.Challenge.RW_laidcells_k31_whole_ways_of_rows_turned
set_option Elab.async false
set_option linter.all false
set_option compiler.extract_closed false
set_option maxRecDepth 100000
set_option maxHeartbeats 20000000
noncomputable section
abbrev Aa:=@List
abbrev Ab:=@Option
abbrev Ac:=@PySem.Value
abbrev Ad:=@PySem.Addr
abbrev Ae:=@PySem.Shared
abbrev Af:=@PySem.Str
abbrev Ag:=@PySem.Heap
abbrev Ah:=@PySem.Program
abbrev kY:=PySem.W.Frag
abbrev aA:=@PySem.wpAny_bind
abbrev aB:=@List.length_map
abbrev aD:=@List.mem_map
abbrev aE:=@List.mem_cons_self
abbrev aF:=@List.mem_cons
abbrev aG:=@List.getElem?_eq_getElem
abbrev aH:=@PySem.wpAny_pure
abbrev aI:=@PySem.Heap.get?_push_of_some
abbrev aJ:=@Nat.le_refl
abbrev aK:=@List.mem_cons_of_mem
abbrev aL:=@PySem.Heap.lt_size
abbrev aM:=@List.mem_append_left
abbrev aN:=@List.size_toArray
abbrev aO:=@List.map_append
abbrev aP:=@List.mem_append_right
abbrev aQ:=@List.take_of_length_le
abbrev aR:=@List.mem_of_getElem?
abbrev aT:=@List.getElem?_eq_some_iff
abbrev aU:=@List.mem_singleton
abbrev aV:=@List.mem_append
abbrev aW:=@Nat.lt_of_lt_of_le
abbrev aX:=@PySem.Heap.get?_push_size
abbrev aY:=@List.map_cons
abbrev aZ:=@PySem.F.plainAttrs_list
abbrev bA:=@Bool.false_ne_true
abbrev bB:=@List.length_append
abbrev bC:=@List.map_map
abbrev bD:=@PySem.boot_len
abbrev bE:=@if_pos
abbrev bF:=@Nat.ne_of_lt
abbrev bG:=@if_neg
abbrev bH:=@PyProof.Rows.boot_tuple
abbrev bI:=@List.append_assoc
abbrev bJ:=@List.not_mem_nil
abbrev bK:=@List.getElem?_map
abbrev bL:=@PySem.F.slot_list_append
abbrev bM:=@PySem.F.type_list_append
abbrev bN:=@List.nodup_append
abbrev bP:=@PySem.W.mg_none_of
abbrev bQ:=@List.length_set
abbrev bS:=@PySem.wpAny_holding
abbrev bT:=@List.length_take
abbrev bU:=@Int.mul_le_mul_of_nonneg_left
abbrev bV:=@Nat.le_trans
abbrev bW:=@List.nodup_cons
abbrev bX:=@List.take_add_one
abbrev bY:=@List.length_cons
abbrev bZ:=@PyProof.Rows.callWith_type1
abbrev cA:=@Option.some.inj
abbrev cB:=@List.replicate_succ
abbrev cC:=@Option.map_eq_some_iff
abbrev cD:=@PySem.wpAny_callSpecial?_slot
abbrev cE:=@Bool.and_eq_true
abbrev cF:=@decide_eq_false
abbrev cG:=@decide_eq_true
abbrev cH:=@Int.mul_le_mul_of_nonneg_right
abbrev cI:=@List.length_range
abbrev cJ:=@List.take_append_drop
abbrev cK:=@Classical.byContradiction
abbrev cL:=@List.cons_append
abbrev cM:=@PySem.Around.under_plainId
abbrev cN:=@PySem.Heap.size_push
abbrev cO:=@Bool.and_eq_true_iff
abbrev cP:=@Nat.lt_of_le_of_lt
abbrev cQ:=@Ne.symm
abbrev cR:=@List.getElem_of_mem
abbrev cS:=@List.getElem?_append_right
abbrev cT:=@List.lookup_cons
abbrev cU:=@Int.eq_ofNat_of_zero_le
abbrev cV:=@Nat.lt_irrefl
abbrev cW:=@Int.toNat_natCast
abbrev cX:=@Function.comp_def
abbrev cY:=@List.zip_cons_cons
abbrev cZ:=@List.mem_range
abbrev dB:=@PySem.PassesOwn.never
abbrev dD:=@PySem.F.slot_zip_next
abbrev dF:=@Option.isSome_iff_exists
abbrev dH:=@List.length_drop
abbrev dJ:=@PySem.mem_of_lookup
abbrev dL:=@or_false
abbrev dM:=@PySem.wpAny_mono
abbrev dN:=@Nat.zero_le
abbrev dO:=@PySem.wpAny_Call_Name_kw
abbrev dP:=@PySem.wpAny_seqItems
abbrev dQ:=@Int.emod_lt_of_pos
abbrev dR:=@List.getD_eq_getElem?_getD
abbrev dU:=@PySem.codeAny_builtin
abbrev dX:=@List.getElem_mem
abbrev dY:=@List.all_eq_true
abbrev dZ:=@PySem.wpAny_isInstance
abbrev eA:=@congrArg
abbrev eC:=@Array.getElem?_eq_getElem
abbrev eD:=@beq_eq_false_iff_ne
abbrev eF:=@PySem.wpAny_pyIter_list
abbrev eG:=@PySem.wpAny_field
abbrev eI:=@of_decide_eq_true
abbrev eJ:=@List.length_singleton
abbrev eK:=@List.getElem?_eq_none
abbrev eO:=@List.find?_cons
abbrev eP:=@List.getElem?_set_ne
abbrev eQ:=@PySem.wpAny_call_entry
abbrev eR:=@Nat.le_add_right
abbrev eS:=@if_false
abbrev eU:=@if_true
abbrev eV:=@PySem.wpAny_typeOf
abbrev eW:=@Array.getElem?_eq_none
abbrev eX:=@Int.emod_nonneg
abbrev eY:=@List.getElem?_append_left
abbrev eZ:=@List.length_replicate
abbrev fA:=@Array.getElem?_toList
abbrev fB:=@Option.toList_some
abbrev fC:=@Bool.false_eq_true
abbrev fE:=@Nat.le_of_lt
abbrev fF:=@PySem.wpAny_attempt
abbrev fG:=@PySem.wpAny_newObj_type
abbrev fH:=@List.flatten_cons
abbrev fJ:=@List.append_nil
abbrev fN:=@List.length_zip
abbrev fO:=@PyProof.Rows.F.plain_set_update_loop
abbrev fP:=@PyProof.Rows.boot_list
abbrev fQ:=@List.any_cons
abbrev fR:=@Int.mul_add
abbrev fS:=@PySem.F.slot_tuple_iterator_next
abbrev fU:=@PySem.F.slot_list_pop
abbrev fV:=@PySem.F.type_list_pop
abbrev fW:=@Classical.choose_spec
abbrev fX:=@PySem.wpAny_passesOwn
abbrev fY:=@List.foldl_cons
abbrev fZ:=@List.length_nil
abbrev gA:=@PySem.F.args_zip_next_1
abbrev gB:=@Int.le_refl
abbrev gC:=@List.getElem?_take_of_lt
abbrev gE:=@PySem.plainId_quiet
abbrev gF:=@List.set_eq_of_length_le
abbrev gG:=@PyProof.Rows.slot_tuple_getitem
abbrev gH:=@Array.length_toList
abbrev gI:=@List.map_congr_left
abbrev gJ:=@List.ext_getElem
abbrev gL:=@List.eq_nil_iff_forall_not_mem
abbrev gO:=@PySem.F.entry_zip_next
abbrev gQ:=@List.any_eq_true
abbrev gR:=@List.getElem?_cons_zero
abbrev gS:=@Nat.add_mul
abbrev gU:=@Nat.one_mul
abbrev gW:=@Nat.ne_of_gt
abbrev gX:=@PySem.Calls.spliced_cons
abbrev gY:=@PySem.wpAny_setField_rec
abbrev gZ:=@PySem.wpAny_nextOf_list_item
abbrev hU:=@Nat.add_zero
abbrev hV:=@List.cons.injEq
abbrev hX:=@List.range_succ
abbrev hZ:=@Int.natCast_add
abbrev iA:=@Nat.add_assoc
abbrev iB:=@PyProof.Rows.boot_min
abbrev iC:=@PySem.wpAny_truthy_bool
abbrev iD:=@List.foldl_append
abbrev iE:=@Nat.le_succ
abbrev iF:=@PySem.wpAny_tryCatch
abbrev iG:=@Nat.mul_le_mul
abbrev iH:=@List.mem_of_mem_take
abbrev iI:=@Int.mul_nonneg
abbrev iJ:=@beq_self_eq_true
abbrev iK:=@List.mem_flatMap
abbrev iL:=@List.map_zipWith
abbrev iM:=@List.getElem?_zip_eq_some
abbrev iN:=@Option.eq_none_or_eq_some
abbrev iP:=@List.filterMap_cons
abbrev iQ:=@PyProof.Rows.F.entry_set_update_loop
abbrev iR:=@List.getElem?_range
abbrev iS:=@PySem.F.args_tuple_add_2
abbrev iT:=@PySem.F.slot_list_getattribute
abbrev iU:=@Bool.eq_iff_iff
abbrev iW:=@Int.natCast_mul
abbrev iX:=@PySem.sub_AttributeError
abbrev iY:=@List.getElem?_drop
abbrev iZ:=@PySem.F.entry_tuple_add
abbrev jA:=@PySem.wpAny_of_eq
abbrev jB:=@PySem.F.slot_zip_getattribute
abbrev jC:=@List.eraseIdx_cons_succ
abbrev jD:=@List.getElem?_cons_succ
abbrev jE:=@PySem.wpAny_pyNext_list_item
abbrev jF:=@PySem.Calls.spliced_nil
abbrev jG:=@PySem.F.slot_tuple_add
abbrev jH:=@PySem.Heap.get?_update_other
abbrev jI:=@Nat.lt_succ_of_lt
abbrev jJ:=@Nat.sub_zero
abbrev jK:=@Int.mul_comm
abbrev jL:=@List.flatMap_cons
abbrev jM:=@PySem.wpAny_pyNext_list_end
abbrev jN:=@PySem.Heap.get?_update_self
abbrev jO:=@PySem.F.slot_dict_get
abbrev jP:=@List.Perm.append_left
abbrev jQ:=@PySem.wpAny_nextOf_list_end
abbrev jR:=@PySem.call_meets
abbrev jS:=@beq_iff_eq
abbrev jT:=@List.perm_middle
abbrev jU:=@not_or
abbrev jV:=@Nat.mod_eq_of_lt
abbrev jW:=@PySem.wpAny_standAt
abbrev jX:=@PySem.F.kt_typeCall_dict_1
abbrev jY:=@PySem.wpAny_letGo
abbrev jZ:=@PySem.wpAny_execs_nil
abbrev kA:=@List.nil_append
abbrev kB:=@List.forIn_cons
abbrev kC:=@List.zip_append
abbrev kD:=@Nat.le_antisymm
abbrev kE:=@Nat.min_eq_left
abbrev kF:=@PySem.wpAny_dictSet_pairs
abbrev kG:=@Nat.mul_comm
abbrev kH:=@Nat.sub_self
abbrev kI:=@List.mem_filterMap
abbrev kJ:=@PySem.tupleKind_room_in1
abbrev kK:=@PySem.wpAny_rule
abbrev kL:=@PySem.F.args_dict_init_2
abbrev kM:=@Nat.div_mul_cancel
abbrev kN:=@decide_eq_true_eq
abbrev kO:=@Option.some.injEq
abbrev kP:=@List.ext_getElem?
abbrev kQ:=@PySem.Paired.length
abbrev kR:=@Nat.min_le_right
abbrev kS:=@List.map_nil
abbrev kT:=@PySem.typeIs_int
abbrev kU:=@Nat.not_lt
abbrev kW:=@List.mem_filter
abbrev kX:=@List.of_mem_zip
namespace L2
open PySem PySem.Spec PyProof.Rows
abbrev hI:=Sum Int Af
noncomputable def yI:hI->Ac->Bool
 | .inl k,v=>Value.isInt k v
 | .inr x,v=>Value.isStrOf x v
def Uv (w:World):hI->Int
 | .inl k=>hashInt k
 | .inr x=>hashStr w x
theorem uO:∀ {k:hI}{v:Ac},yI k v=true->(∃ i t,k=Sum.inl i/\v=Value.int i t)\/(∃ x t,k=Sum.inr x/\v=Value.str x t)
 | .inl i,v,h=>by
  obtain⟨t,e⟩:=Value.isInt_shape (k:=i) (v:=v) h;exact .inl ⟨i,t,rfl,e⟩
 | .inr x,v,h=>by
  obtain⟨t,e⟩:=Value.isStrOf_shape (x:=x) (v:=v) h;exact .inr ⟨x,t,rfl,e⟩
theorem BV (i:Int) (t:Tok):yI (.inl i) (.int i t)=true:=by simp[yI,Value.isInt]
theorem GY (x:Af) (t:Tok):yI (.inr x) (.str x t)=true:=by simp[yI,Value.isStrOf]
theorem Us (a b:Int):decide ((Sum.inl a:hI)=Sum.inl b)=(a == b):=by
 by_cases e:a=b
 .subst e;simp
 .have h:¬ (Sum.inl a:hI)=Sum.inl b:=λq=>e (Sum.inl.inj q)
  rw[cF h];exact (eD.mpr e).symm
theorem FY (a b:Af):decide ((Sum.inr a:hI)=Sum.inr b)=decide (a=b):=by
 by_cases e:a=b
 .subst e;simp
 .have h:¬ (Sum.inr a:hI)=Sum.inr b:=λq=>e (Sum.inr.inj q)
  rw[cF h,cF e]
theorem HC (a:Int) (b:Af):decide ((Sum.inl a:hI)=Sum.inr b)=false:=cF (λq=>nomatch q)
theorem Tz (a:Af) (b:Int):decide ((Sum.inr a:hI)=Sum.inl b)=false:=cF (λq=>nomatch q)
def oY (g:Ah) (w:World):PySem.KeyKind g w hI where
 is:=yI
 hash:=Uv w
 inj:=λv a b m f=>by
  rcases uO m with⟨i,t,rfl,rfl⟩ | ⟨x,t,rfl,rfl⟩
  .rcases uO f with⟨j,u,rfl,e⟩ | ⟨y,u,rfl,e⟩
   .injection e with c _;rw[c]
   .exact nomatch e
  .rcases uO f with⟨j,u,rfl,e⟩ | ⟨y,u,rfl,e⟩
   .exact nomatch e
   .injection e with c _;rw[c]
 byValue:=λk v h=>by
  rcases uO h with⟨i,t,rfl,rfl⟩ | ⟨x,t,rfl,rfl⟩<;>rfl
 pyHash:=λd h=>by
  rcases uO d with⟨i,t,rfl,rfl⟩ | ⟨x,t,rfl,rfl⟩
  .exact wpAny_pyHash_int h
  .exact wpAny_pyHash_str h
 eqBool:=λn d h=>by
  rcases uO n with⟨i,t,rfl,rfl⟩ | ⟨x,t,rfl,rfl⟩
  .rcases uO d with⟨j,u,rfl,rfl⟩ | ⟨y,u,rfl,rfl⟩
   .rw[Us] at h;exact wpAny_eqBool_int h
   .rw[HC] at h;exact SeqAt.EqAt.int_str i t y u _ _ _ _ h
  .rcases uO d with⟨j,u,rfl,rfl⟩ | ⟨y,u,rfl,rfl⟩
   .rw[Tz] at h;exact SeqAt.EqAt.str_int x t j u _ _ _ _ h
   .rw[FY] at h;exact wpAny_eqBool_str h
 «strs»:=λk x t v h=>by
  rcases uO h with⟨i,u,rfl,e⟩ | ⟨y,u,rfl,e⟩
  .exact nomatch e
  .injection e with c _;subst c;cases v<;>rfl
theorem Zq (g:Ah) (w:World) (i:Int) (t:Tok):(oY g w).is (.inl i) (.int i t)=true:=BV i t
theorem Ud (g:Ah) (w:World) (x:Af) (t:Tok):(oY g w).is (.inr x) (.str x t)=true:=GY x t
inductive V where
 | e | b (b:Bool) | int (i:Int) | str (x:Str) | byt (b:Array UInt8) | flt (b:UInt64) | ref (a:Addr) | ty (n:String)
 deriving DecidableEq
def lH:V->Ac->Prop
 | .e,u=>u=Value.none
 | .b b,u=>u=Value.bool b
 | .int i,u=>∃ t,u=Value.int i t
 | .str x,u=>∃ t,u=Value.str x t
 | .byt b,u=>∃ t,u=Value.bytes b t
 | .flt b,u=>∃ t,u=Value.float b t
 | .ref a,u=>u=Value.ref a
 | .ty n,u=>u=Value.type n
abbrev kZ:Aa V->Aa Ac->Prop:=Paired lH
theorem kZ.length (r:kZ j g):j.length=g.length:=kQ r
theorem kZ.get:∀ {j:Aa V}{g:Aa Ac}{i:Nat}{x:V},kZ j g->j[i]?=some x->∃ u,g[i]?=some u/\lH x u
 | _,_,_,_,.nil,e=>by simp at e
 | _,_,0,_,.cons r _,e=>by simp at e;subst e;exact⟨_,rfl,r⟩
 | _,_,i+1,x,.cons _ t,e=>by
  obtain⟨u,a,b⟩:=kZ.get (i:=i) (x:=x) t (by simpa using e);exact⟨u,by simpa using a,b⟩
theorem kZ.set (r:lH x u):∀ {j:Aa V}{g:Aa Ac}(i:Nat),kZ j g->kZ (j.set i x) (g.set i u)
 | _,_,_,.nil=>.nil
 | _,_,0,.cons _ t=>.cons r t
 | _,_,i+1,.cons q t=>.cons q (kZ.set r i t)
theorem kZ.append:∀ {l o:Aa V}{g j:Aa Ac},kZ l g->kZ o j->kZ (l++o) (g++j)
 | _,_,_,_,.nil,s=>s
 | _,_,_,_,.cons r t,s=>.cons r (kZ.append t s)
theorem kZ.take:∀ {j:Aa V}{g:Aa Ac}(n:Nat),kZ j g->kZ (j.take n) (g.take n)
 | _,_,0,_=>.nil
 | _,_,_+1,.nil=>.nil
 | _,_,n+1,.cons r t=>.cons r (kZ.take n t)
theorem kZ.drop:∀ {j:Aa V}{g:Aa Ac}(n:Nat),kZ j g->kZ (j.drop n) (g.drop n)
 | _,_,0,r=>r
 | _,_,_+1,.nil=>.nil
 | _,_,n+1,.cons _ t=>kZ.drop n t
def sH:Ab V->Ab Ac->Prop
 | some v,some u=>lH v u
 | none,none=>True
 | _,_=>False
def KV {g:Type}:Aa (g×V)->Aa (g×Ac)->Prop:=Paired λ(p:g×V) (q:g×Ac)=>p.1=q.1/\lH p.2 q.2
def kV:hI->V
 | .inl i=>.int i
 | .inr x=>.str x
inductive HO where
 | l (xs:List V)
 | t (xs:List V)
 | k (kvs:List (hI×V)) | T (kvs:List (List hI×V))
 | set (S:Int->Bool) (n:Nat)
 | ins (C dx:Addr) (fs:List (Str×V))
 | o (x:Addr)
 | xd (fs:List (Str×V))
 | met (f x:Addr)
 | rng (lo hi:Int)
 | frz (o:Obj) (u:HO)
 | tbl (ps:Array Value)
 | ext (φ:Heap->Prop)
abbrev Hp:=Ad->Ab HO
def upd (H:Hp) (a:Ad) (o:HO):Hp:=λb=>if b=a then some o else H b
theorem lE:upd H a o a=some o:=by unfold upd;rw[if_pos rfl]
theorem iO (h:b≠a):upd H a o b=H b:=by unfold upd;rw[if_neg h]
theorem Tk:upd (upd H a o) a u=upd H a u:=by
 funext b;unfold upd;split<;>rfl
theorem CG {H:Hp}{a b:Ad}{o u:HO}(h:H a=some o) (g:H b=some u) (d:o≠u):a≠b:=by
 intro e;subst e;rw[h] at g;exact d (cA g)
theorem lT {H:Hp}{a b:Ad}{o:HO}(h:H a=some o) (g:H b=none):a≠b:=by
 intro e;subst e;rw[h] at g;cases g
section
variable (P:Ah) (w:World)
def uT (h:Ag) (a:Ad) (items:Array Ac):Prop:=IsTup h a items/\∃ o,h.get? a=some o/\o.dict=none
theorem uT.new (h:Ag) (items:Array Ac):uT (h.push { cls:=.type "tuple",data:=.seq items }) h.objs.size items:=⟨IsTup.new _ _,_,aX _ rfl,rfl⟩
def pE (H:Hp) (h:Ag) (a:Ad):HO->Prop
 | .l d=>d.length<=sizeLine/\∃ (b:Aa Ac) (n:Nat),kZ d b/\h.get? a=some { cls:=.type "list",data:=.seq b.toArray n }
 | .t d=>d.length<=sizeLine/\∃ b:Aa Ac,kZ d b/\uT h a b.toArray
 | .k c=>c.length<=sizeLine/\(a == sysModules)=false/\∃ A,KV c A/\h.DictOf (oY P w) a A
 | .T c=>c.length<=sizeLine/\(a == sysModules)=false/\∃ d:Aa (Aa hI×Ad×Ac),
   Paired (λ(p:Aa hI×V) (q:Aa hI×Ad×Ac)=>p.1=q.1/\H q.2.1=some (.t (p.1.map kV))/\lH p.2 q.2.2) c d /\
   ∃ o s B,h.get? a=some o/\o.ExactDict/\o.data = .dict s B/\s.toList=d.map (entryOfKey (tupleKind (oY P w)))/\(d.map (·.1)).Nodup
 | .set S n=>h.SetOf (intKind P w) a S n
 | .ins C i fs=>H i=some (.o a)/\fs.length<=1000/\i≠a/\h.get? a=some (PySem.W.instObj C i) /\
   ∃ e,h.Ns1 i e/\(∀ f,sH (fs.lookup f) (e f))/\PySem.Within e (fs.map (·.1))
 | .o _=>∃ o,h.get? a=some o
 | .xd fs=>∃ e,h.Ns1 a e/\∀ f,sH (fs.lookup f) (e f)
 | .rng lo D=>∃ t u v,h.get? a=some { cls:=.type "range",data:=.fields #[.int lo t,.int D u,.int 1 v] }
 | .frz o u=>h.get? a=some o/\pE H h a u
 | .tbl E=>h.get? a=some { cls:=.none,data:=.fields E }
 | .met f x=>h.get? a=some (PySem.W.methodObj (.ref f) (.ref x))
 | .ext m=>m h/\(∃ o,h.get? a=some o)/\∀ y z:Ag,m y->(∀ o,y.get? a=some o->z.get? a=some o)->m z
def nD (H:Hp) (h:Ag):Prop:=∀ a o,H a=some o->pE P w H h a o
end
section
variable {P:Ah}
theorem pE.lt (x:pE P w H h a o):a<h.objs.size:=by
 cases o with
 | l c=>obtain⟨_,_,_,_,e⟩:=x;exact aL e
 | t c=>obtain⟨_,_,_,p,_⟩:=x;exact p.lt
 | k b=>obtain⟨_,_,_,_,o,_,_,e,_⟩:=x;exact aL e
 | T b=>obtain⟨_,_,_,_,o,_,_,e,_⟩:=x;exact aL e
 | set S n=>obtain⟨o,_,_,_,e,_⟩:=x;exact aL e
 | ins C d fs=>obtain⟨_,_,_,e,_⟩:=x;exact aL e
 | o y=>obtain⟨_,e⟩:=x;exact aL e
 | xd fs=>obtain⟨_,⟨_,_,_,e,_⟩,_⟩:=x;exact aL e
 | rng lo i=>obtain⟨_,_,_,e⟩:=x;exact aL e
 | frz m u=>obtain⟨e,_⟩:=x;exact aL e
 | tbl q=>exact aL (show h.get? a=some _ from x)
 | met f y=>exact aL (show h.get? a=some _ from x)
 | ext s=>obtain⟨_,⟨_,e⟩,_⟩:=x;exact aL e
theorem Paired.mapP {F:l->o->Prop}:∀ {g:Aa l}{j:Aa o},Paired F g j->(∀ a b,F a b->G a b)->Paired G g j
 | _,_,.nil,_=>.nil
 | _,_,.cons r t,f=>.cons (f _ _ r) (Paired.mapP t f)
theorem pE.stay (x:pE P w H h a o) (k:∀ b u,(b=a\/H b=some (.o a))->h.get? b=some u->j.get? b=some u)
  (J:∀ b,H b=some (.o a)->I b=some (.o a)) (U:∀ b g,H b=some (.t g)->I b=some (.t g)):pE P w I j a o:=by
 induction o with
 | l g=>obtain⟨z,A,n,r,e⟩:=x;exact⟨z,A,n,r,k _ _ (.inl rfl) e⟩
 | t g=>obtain⟨z,A,r,⟨i,e,c⟩,M,B,K⟩:=x;exact⟨z,A,r,⟨i,k _ _ (.inl rfl) e,c⟩,M,k _ _ (.inl rfl) B,K⟩
 | k D=>obtain⟨z,y,N,r,i,s,m,e,c⟩:=x;exact⟨z,y,N,r,i,s,m,k _ _ (.inl rfl) e,c⟩
 | T D =>
  obtain⟨z,y,g,r,i,s,m,e,c⟩:=x;exact⟨z,y,g,Paired.mapP r λp q z=>⟨z.1,U _ _ z.2.1,z.2.2⟩,i,s,m,k _ _ (.inl rfl) e,c⟩
 | set S n=>obtain⟨i,s,m,t,e,c⟩:=x;exact⟨i,s,m,t,k _ _ (.inl rfl) e,c⟩
 | ins C O fs =>
  obtain⟨d,z,ne,e,E,⟨F,s,m,B,c⟩,r⟩:=x;exact⟨J _ d,z,ne,k _ _ (.inl rfl) e,E,⟨F,s,m,k _ _ (.inr d) B,c⟩,r⟩
 | o y=>obtain⟨i,e⟩:=x;exact⟨i,k _ _ (.inl rfl) e⟩
 | xd fs=>obtain⟨E,⟨F,s,m,e,c⟩,r⟩:=x;exact⟨E,⟨F,s,m,k _ _ (.inl rfl) e,c⟩,r⟩
 | rng lo Q=>obtain⟨t,u,v,e⟩:=x;exact⟨t,u,v,k _ _ (.inl rfl) e⟩
 | frz i u L=>obtain⟨e,q⟩:=x;exact⟨k _ _ (.inl rfl) e,L q⟩
 | tbl G =>
  have e:h.get? a=some { cls:=.none,data:=.fields G }:=x;show j.get? a=some { cls:=.none,data:=.fields G };exact k a _ (.inl rfl) e
 | met f y =>
  have e:h.get? a=some (PySem.W.methodObj (.ref f) (.ref y)):=x;show j.get? a=some (PySem.W.methodObj (.ref f) (.ref y));exact k a _ (.inl rfl) e
 | ext R=>obtain⟨p,⟨o,e⟩,st⟩:=x;exact⟨st _ _ p λo q=>k _ _ (.inl rfl) q,⟨o,k _ _ (.inl rfl) e⟩,st⟩
theorem nD.lt (x:nD P w H h) (e:H a=some o):a<h.objs.size:=(x a o e).lt
theorem nD.fresh (x:nD P w H h) (e:h.objs.size<=a):H a=none:=by
 cases q:H a with
 | none=>rfl
 | some u=>exact absurd (aW (x.lt q) e) (cV _)
theorem nD.kept (x:nD P w H h) (k:∀ b u,h.get? b=some u->g.get? b=some u):nD P w H g:=λa o e =>
 (x a o e).stay (λb u _ q=>k b u q) (λ_ q=>q) λ_ _ q=>q
theorem nD.laid (x:nD P w H h) (k:∀ b u,h.get? b=some u->g.get? b=some u) (j:h.objs.size<=a) (new:pE P w (upd H a o) g a o):nD P w (upd H a o) g:=λb u e=>by
 have f:=x.fresh j;by_cases d:b=a
 .subst d;rw[lE] at e;cases e;exact new
 .rw[iO d] at e;exact (x b u e).stay (λc v _ q=>k c v q) (λc q=>by rw[iO (lT q f)];exact q) λc i q=>by rw[iO (lT q f)];exact q
end
def Rd (H:Hp) (a:Ad) (u:HO):Prop:=H a=some u\/∃ o,H a=some (.frz o u)
theorem Rd.ok {P:Ah}(r:Rd H a u) (x:nD P w H h):pE P w H h a u:=by
 rcases r with r | ⟨o,r⟩
 .exact x a u r
 .obtain⟨_,q⟩:=x a _ r;exact q
def zA:Ab HO->Prop
 | some (.l _)=>True
 | some (.k _)=>True
 | some (.T _)=>True
 | some (.set _ _)=>True
 | some (.ins _ _ _)=>True
 | some (.ext _)=>True
 | _=>False
section
variable {P:Ah}
theorem nD.write (ok:nD P w H h) (g:zA (H x)) (p:e=x\/H e=some (.o x)) (k:∀ b u,b≠e->h.get? b=some u->j.get? b=some u) (l:∃ u,j.get? e=some u)
  (new:pE P w (upd H x C) j x C):nD P w (upd H x C) j:=λb u q=>by
 have d:∀ c y,H c=some (.o y)->c≠x:=λc y r z=>by subst z;rw[r] at g;exact g
 have f:∀ c n,H c=some (.t n)->c≠x:=λc n r z=>by subst z;rw[r] at g;exact g
 by_cases i:b=x
 .subst i;rw[lE] at q;cases q;exact new
 .rw[iO i] at q;by_cases a:b=e
  .have s:H b=some (.o x):=by
    rcases p with z | z
    .exact absurd (a.trans z) i
    .rw[a];exact z
   rw[q] at s;cases s;obtain⟨v,A⟩:=l;exact⟨v,by rw[a];exact A⟩
  .refine (ok b u q).stay (λc v m r=>k c v ?_ r) (λc r=>by rw[iO (d c b r)];exact r) λc n r=>by rw[iO (f c n r)];exact r
   rcases m with rfl | m
   .exact a
   .rintro rfl;rcases p with z | z
    .exact d c b m z
    .rw[m] at z;cases z;exact i rfl
end
structure Un (fs ex:List Addr) (H H':Hp) (h h':Heap):Prop where
 keep:∀ b o,h.get? b=some o->H b=none->b∉fs->b∉ex->h'.get? b=some o
 slot:∀ b o,h.get? b=some o->H b=none->b∈fs->b∉ex->∃ sl,h'.get? b=some { o with slots:=sl }
 free:∀ b o,h.get? b=some o->H b=none->b∉ex->H' b=none
 there:∀ b o,h.get? b=some o->b∉ex->∃ o',h'.get? b=some o'
 tups:∀ b xs,H b=some (.t xs)->H' b=some (.t xs)
 frzs:∀ b o u,H b=some (.frz o u)->H' b=some (.frz o u)
 tbls:∀ b ps,H b=some (.tbl ps)->∃ more,H' b=some (.tbl (ps++more))
section
theorem Un.any (u:Un fs l H r h o) (q:h.get? b=some g) (n:H b=none) (j:b∉l):∃ p,o.get? b=some { g with slots:=p }:=by
 by_cases a:b∈fs
 .exact u.slot b g q n a j
 .exact⟨g.slots,u.keep b g q n a j⟩
theorem Un.kept (k:∀ b u,h.get? b=some u->g.get? b=some u):Un fs j H H h g :=
 ⟨λb a q _ _ _=>k b a q,λb a q _ _ _=>⟨a.slots,k b a q⟩,λ_ _ _ n _=>n,λb a q _=>⟨a,k b a q⟩,λ_ _ q=>q,λ_ _ _ q=>q,λ_ c q=>⟨#[],by rw[q];simp⟩⟩
theorem Un.refl:Un fs g H H h h:=Un.kept λ_ _ q=>q
theorem Un.laid (k:∀ b u,h.get? b=some u->j.get? b=some u) (l:h.objs.size<=a) (g:H a=none):Un fs p H (upd H a o) h j where
 keep:=λb u q _ _ _=>k b u q
 slot:=λb u q _ _ _=>⟨u.slots,k b u q⟩
 free:=λb u q n _=>by rw[iO (bF (aW (aL q) l))];exact n
 there:=λb u q _=>⟨u,k b u q⟩
 tups:=λb c q=>by rw[iO (lT q g)];exact q
 frzs:=λb u c q=>by rw[iO (lT q g)];exact q
 tbls:=λb d q=>⟨#[],by rw[iO (lT q g),q];simp⟩
theorem Un.write (g:zA (H x)) (p:e=x\/H e=some (.o x)) (k:∀ b u,b≠e->h.get? b=some u->l.get? b=some u) (j:∃ u,l.get? e=some u):Un fs C H (upd H x o) h l:=by
 have f:∀ b,H b=none->b≠x:=λb n z=>by subst z;rw[n] at g;exact g
 have d:∀ b,H b=none->b≠e:=λb n z=>by
  subst z;rcases p with r | r
  .exact f b n r
  .rw[n] at r;cases r
 have c:∀ b u,H b=some u->¬ zA (some u)->b≠x:=λb u q i z=>by subst z;rw[q] at g;exact i g
 refine⟨λb u q n _ _=>k b u (d b n) q,λb u q n _ _=>⟨u.slots,k b u (d b n) q⟩,λb u q n _=>by rw[iO (f b n)];exact n,λb u q _=>?_,
  λb m q=>by rw[iO (c b _ q λz=>z)];exact q,λb u m q=>by rw[iO (c b _ q λz=>z)];exact q,λb s q=>⟨#[],by rw[iO (c b _ q λz=>z),q];simp⟩⟩
 by_cases a:b=e
 .subst a;exact j
 .exact⟨u,k b u a q⟩
end
noncomputable def C2 (h:Ag) (H:Hp):Aa Ad:=(List.range h.objs.size).filter λa=>(H a).isSome
def uZ (h:Ag) (H:Hp):Ag:=PySem.W.hideAll h (C2 h H)
theorem Zn (h:Ag) (H:Hp):(uZ h H).objs.size=h.objs.size:=PySem.W.hideAll_size _ _
theorem Ti (e:h.get? b=some o) (n:H b=none):(uZ h H).get? b=some o :=
 PySem.W.hideAll_get _ e λa=>by
  have q:(H b).isSome=true:=(kW.mp a).2;rw[n] at q;simp at q
theorem S6 (e:(uZ h H).get? b=some o):h.get? b=some o/\H b=none:=by
 have a:h.get? b=some o:=PySem.W.of_hideAll (C2 h H) e;refine⟨a,?_⟩;cases q:H b with
 | none=>rfl
 | some x =>
  have c:b∈C2 h H:=kW.mpr ⟨cZ.mpr (aL a),by simp[q]⟩;have z:(uZ h H).get? b=none:=PySem.W.hideAll_none (C2 h H) c;rw[z] at e;cases e
structure Mod (K:kY) (mg:Str->Option Value) (base:Heap):Prop where
 kin:K.In base
 glob:base.Ns mainGlobals mg
 blt:∃ mb,base.Ns builtinsNs mb/\∀ x:Str,x ≠ "__name__" -> mb x=bootBuiltins x
 nolimit:base.NoLimit
/-- the context: a def's body (or a comprehension's block) running. base: fixed through the whole law;s₀,H₀: the entry;outer: the frames whose slots others may change (a def's callers);stack: all frames that run;
 ex: iterators that were made ahead of the entry and are walked here (a comprehension's);fn: the names whose cells were made at the entry (a def: all;a comprehension's block: its own);calm: not within an except suite;pn: pins that every state bears;xe: what is wanted of an exception that leaves the code -/
structure Cx where
 prog:Program
 w:World
 K:kY
 mg:Str->Option Value
 base:Heap
 A:Around
 N:List Str
 s₀:Shared
 H₀:Hp
 env:Env
 outer:List Env
 stack:List Env
 ex:List Addr
 fn:Str->Bool
 calm:Bool
 pn:List (Addr×Obj)
 xe:Value->Shared->Prop
noncomputable def sR (l:Aa Env):Aa Ad:=l.filterMap (·.frame)
abbrev Cx.fs (X:Cx):Aa Ad:=sR X.outer
def Ck (g:Scope) (x:Af):Prop:=g.names.lookup x=some .local\/g.names.lookup x=some .cell\/g.names.lookup x=some .free
def uI (g:Scope) (x:Af):Prop:=g.names.lookup x=some .local\/g.names.lookup x=some .cell
def CN (g:Env) (h:Ag) (m:Af->Ab Ac) (x:Af) (u:Ac):Prop :=
 (g.kindOf x=some .local/\m x=some u)\/((g.kindOf x=some .cell\/g.kindOf x=some .free)/\∃ c,g.cells.lookup x=some c/\h.IsCell c (some u))
structure Cx.Ok (X:Cx):Prop where
 mod:Mod X.K X.mg X.base
 kind:X.env.scope.kind = .function
 glob:X.env.globals=mainGlobals
 blt:X.env.builtins=builtinsNs
 above:X.s₀.heap.objs.size<=X.env.locals
 inj:∀ x y c,X.env.cells.lookup x=some c->X.env.cells.lookup y=some c->x=y
 has:∀ x,(X.env.kindOf x=some .cell\/X.env.kindOf x=some .free)->∃ c,X.env.cells.lookup x=some c
 cab:∀ x c,X.fn x=true->X.env.cells.lookup x=some c->X.s₀.heap.objs.size<=c
 hd:X.calm=true->X.A.handled=none
 frames:X.A.frames=some X.stack
 stk:X.stack=X.outer\/(X.stack=X.env::X.outer/\X.env.frame=some X.env.locals)
 exf:∀ b∈X.ex,b≠X.env.locals/\∀ x c,X.env.cells.lookup x=some c->c≠b
 bs:∀ b o,X.base.get? b=some o->X.s₀.heap.get? b=some o/\X.H₀ b=none
 bsz:X.base.objs.size<=X.s₀.heap.objs.size
 noex:∀ b o,X.base.get? b=some o->b∉X.ex
 exfs:∀ b∈X.ex,b∉X.fs
 funs:X.s₀.heap.FunFrames X.base X.outer
 frf:∀ b∈X.fs,X.H₀ b=none
structure Inv (X:Cx) (pins:List (Addr×Obj)) (σ:List (Option V)) (H:Hp) (s:Shared):Prop where
 ok:X.Ok
 os:s.os=X.s₀.os
 bare:AllBare s.gens
 base:Un X.fs X.ex X.H₀ H X.s₀.heap s.heap
 loc:∃ m,s.heap.Ns X.env.locals m/\∀ (i:Nat) (x:Str) (v:V),X.N[i]?=some x->σ[i]?=some (some v)->Ck X.env.scope x->∃ u,lH v u/\CN X.env s.heap m x u
 cell:∀ x c,X.env.cells.lookup x=some c->∃ v,s.heap.IsCell c v
 free:H X.env.locals=none
 freeC:∀ x c,X.env.cells.lookup x=some c->H c=none
 pin:∀ p∈X.pn++pins,s.heap.get? p.1=some p.2/\H p.1=none/\p.1≠X.env.locals/\p.1∉X.fs/\∀ v,p.2.data ≠ .cell v
 hok:nD X.prog X.w H s.heap
 len:σ.length=X.N.length
section
variable {X:Cx}
theorem Cx.Ok.nofr (ok:X.Ok) (e:X.base.get? b=some o):b∉X.fs:=λa=>by
 have:=(ok.funs.mem a).1;rw[e] at this;cases this
theorem Inv.bs (I:Inv X g j H s):∀ b o,X.base.get? b=some o->s.heap.get? b=some o/\H b=none:=λb o e =>
 ⟨I.base.keep b o (I.ok.bs b o e).1 (I.ok.bs b o e).2 (I.ok.nofr e) (I.ok.noex b o e),I.base.free b o (I.ok.bs b o e).1 (I.ok.bs b o e).2 (I.ok.noex b o e)⟩
theorem Inv.bk (I:Inv X g j H s):∀ b o,X.base.get? b=some o->s.heap.get? b=some o:=λb o e=>(I.bs b o e).1
theorem Inv.mod (I:Inv X g j H s):Mod X.K X.mg X.base:=I.ok.mod
theorem Inv.kIn (I:Inv X g j H s):X.K.In s.heap:=I.ok.mod.kin.keeps I.bk
theorem Inv.lt (I:Inv X g j H s):X.env.locals<s.heap.objs.size:=let ⟨_,a,_⟩:=I.loc;a.lt
theorem Inv.sz (I:Inv X g j H s):X.s₀.heap.objs.size<=s.heap.objs.size:=bV I.ok.above (fE I.lt)
theorem Inv.nofs (I:Inv X g j H s) (h:s.heap.objs.size<=a):a∉X.fs:=λb=>by
 obtain⟨_,o,c,_⟩:=I.ok.funs.mem b;exact absurd (aW (aL c) (bV I.sz h)) (cV _)
theorem Inv.cne (I:Inv X g j H s):∀ x c,X.env.cells.lookup x=some c->c≠X.env.locals:=λx c e z=>by
 obtain⟨v,o,d,hd⟩:=I.cell x c e;obtain⟨m,⟨i,h,f,b,a,_⟩,_⟩:=I.loc;rw[z,b] at d;cases d;rw[a] at hd;cases hd
theorem Inv.funs (I:Inv X g j H s):s.heap.FunFrames X.base X.outer:=by
 have all:∀ (l:Aa Env),(∀ b∈sR l,b∈X.fs)->X.s₀.heap.FunFrames X.base l->s.heap.FunFrames X.base l:=by
  intro l;induction l with
  | nil=>intro _ _;trivial
  | cons h r t =>
   intro f k;obtain⟨i,⟨L,o,d,m,n,hd⟩,q⟩:=k;have a:L∈X.fs:=f L (by unfold sR;rw[List.filterMap_cons,d];exact aE);obtain⟨u,e⟩:=I.base.slot L o n (I.ok.frf L a) a λz=>I.ok.exfs L z a
   exact⟨i,⟨L,_,d,m,e,hd⟩,t (λb c=>f b (by unfold sR;rw[List.filterMap_cons,d];exact aK _ c)) q⟩
 exact all X.outer (λ_ c=>c) I.ok.funs
theorem Inv.stack (I:Inv X g j H s):s.heap.FunFrames X.base X.stack:=by
 rcases I.ok.stk with e | ⟨e,a⟩
 .rw[e];exact I.funs
 .rw[e];obtain⟨m,b,_⟩:=I.loc;refine .cons (by rw[I.ok.kind];decide) a b ?_ I.funs;exact Heap.get?_none_of_le (bV I.ok.bsz I.ok.above)
theorem Inv.stkSub (I:Inv X g j H s):∀ b∈sR X.stack,b∈X.env.locals::X.fs:=λb a=>by
 rcases I.ok.stk with e | ⟨e,c⟩
 .rw[e] at a;exact aK _ a
 .rw[e] at a;unfold sR at a;rw[iP,c] at a;exact a
theorem Inv.stkFree (I:Inv X g j H s):∀ b∈sR X.stack,H b=none:=λb a=>by
 rcases aF.mp (I.stkSub b a) with e | a
 .rw[e];exact I.free
 .obtain⟨_,o,c,_⟩:=I.ok.funs.mem a;exact I.base.free b o c (I.ok.frf b a) λz=>I.ok.exfs b z a
theorem Inv.step {g':Array GenState}{t':Nat}{d':Drawn}{ch:Aa Ad}(I:Inv X j σ H s)
  (g:∀ b∈ch,(b∈X.ex\/X.s₀.heap.objs.size<=b)/\b≠X.env.locals/\(∀ x c,X.env.cells.lookup x=some c->c≠b)/\∀ p∈X.pn++j,p.1≠b)
  (keep:∀ b o,b≠X.env.locals->b∉X.fs->b∉ch->s.heap.get? b=some o->H b=none->J.get? b=some o)
  (slot:∀ b o,b≠X.env.locals->b∈X.fs->b∉ch->s.heap.get? b=some o->H b=none->∃ sl,J.get? b=some { o with slots:=sl }) (free:∀ b o,b∉ch->s.heap.get? b=some o->H b=none->T b=none)
  (there:∀ b o,b∉ch->s.heap.get? b=some o->∃ o',J.get? b=some o')
  (ab:∀ b C,H b=some (.t C)->T b=some (.t C)) (U:∀ b o u,H b=some (.frz o u)->T b=some (.frz o u)) (aa:∀ b ps,H b=some (.tbl ps)->∃ more,T b=some (.tbl (ps++more)))
  (ns:∀ m,s.heap.Ns X.env.locals m->J.Ns X.env.locals m) (ac:nD X.prog X.w T J) (hg:AllBare g') :
  Inv X j σ T { s with heap:=J,gens:=g',drawn:=d',toks:=t' }:=by
 have F:∀ b o,X.s₀.heap.get? b=some o->b≠X.env.locals:=λb o e=>bF (aW (aL e) I.ok.above)
 have A:∀ b o,X.s₀.heap.get? b=some o->b∉X.ex->b∉ch:=λb o e a B=>by
  rcases (g b B).1 with z | z
  .exact a z
  .exact absurd (aW (aL e) z) (cV _)
 have f:∀ x c,X.env.cells.lookup x=some c->∀ v,s.heap.IsCell c v->J.IsCell c v:=λx c e v G=>by
  obtain⟨o,D,hd⟩:=G;have h:c∉ch:=λz=>(g c z).2.2.1 x c e rfl
  by_cases L:c∈X.fs
  .obtain⟨sl,q⟩:=slot c o (I.cne x c e) L h D (I.freeC x c e);exact⟨_,q,hd⟩
  .exact⟨o,keep c o (I.cne x c e) L h D (I.freeC x c e),hd⟩
 refine⟨I.ok,I.os,hg,⟨λb o e n B a=>?_,λb o e n B a=>?_,λb o e n a=>?_,λb o e a=>?_,λb C e=>ab b C (I.base.tups b C e),λb o C e=>U b o C (I.base.frzs b o C e),λb ps e=>?_⟩,?_,λx c e=>?_,?_,λx c e=>?_,λp M=>?_,ac,I.len⟩
 .exact keep b o (F b o e) B (A b o e a) (I.base.keep b o e n B a) (I.base.free b o e n a)
 .obtain⟨sl,y⟩:=I.base.slot b o e n B a;obtain⟨K,E⟩:=slot b _ (F b o e) B (A b o e a) y (I.base.free b o e n a);exact⟨K,E⟩
 .obtain⟨o',y⟩:=I.base.there b o e a;exact free b o' (A b o e a) y (I.base.free b o e n a)
 .obtain⟨o',y⟩:=I.base.there b o e a;exact there b o' (A b o e a) y
 .obtain⟨R,y⟩:=I.base.tbls b ps e;obtain⟨S,E⟩:=aa b _ y;exact⟨R++S,by rw[E,Array.append_assoc]⟩
 .obtain⟨m,Q,P⟩:=I.loc;refine⟨m,ns m Q,λi x v y E O=>?_⟩;obtain⟨u,r,l⟩:=P i x v y E O;refine⟨u,r,?_⟩;rcases l with l | ⟨k,c,e,z⟩
  .exact .inl l
  .exact .inr ⟨k,c,e,f x c e _ z⟩
 .obtain⟨v,z⟩:=I.cell x c e;exact⟨v,f x c e v z⟩
 .obtain⟨m,⟨o,_,_,D,_⟩,_⟩:=I.loc;exact free _ o (λz=>(g _ z).2.1 rfl) D I.free
 .obtain⟨v,o,D,hd⟩:=I.cell x c e;exact free c o (λz=>(g c z).2.2.1 x c e rfl) D (I.freeC x c e)
 .obtain⟨e,n,ne,N,d⟩:=I.pin p M;have h:p.1∉ch:=λz=>(g p.1 z).2.2.2 p M rfl
  exact⟨keep p.1 p.2 ne N h e n,free p.1 p.2 h e n,ne,N,d⟩
theorem Inv.un (I:Inv X g p H s) (u:Un X.fs [] H l s.heap h') (j:nD X.prog X.w l h'):Inv X g p l { s with heap:=h',toks:=t' }:=by
 obtain⟨m,⟨o,v,t,h,r⟩,_⟩:=id I.loc;obtain⟨A,i⟩:=u.any h I.free (by simp);exact I.step (g':=s.gens) (d':=s.drawn) (ch:=[]) (λ_ z=>nomatch z) (λb o _ f _ e n=>u.keep b o e n f (by simp)) (λb o _ f _ e n=>u.slot b o e n f (by simp)) (λb o _ e n=>u.free b o e n (by simp)) (λb o _ e=>u.there b o e (by simp)) u.tups u.frzs u.tbls (λx k=>by
  obtain⟨y,d,c,a,q⟩:=k;rw[h] at a;cases a;exact⟨_,d,c,i,q⟩) j I.bare
theorem Inv.call (I:Inv X g T H s) (u:Un (sR X.stack) ch H C s.heap h') (l:nD X.prog X.w C h') (J:AllBare g')
  (j:∀ b∈ch,(b∈X.ex\/X.s₀.heap.objs.size<=b)/\b≠X.env.locals/\(∀ x c,X.env.cells.lookup x=some c->c≠b)/\∀ p∈X.pn++g,p.1≠b) :
  Inv X g T C { s with heap:=h',gens:=g',drawn:=d',toks:=t' }:=by
 obtain⟨m,⟨o,A,y,k,r⟩,_⟩:=id I.loc;obtain⟨E,i⟩:=u.any k I.free λz=>(j _ z).2.1 rfl
 exact I.step (ch:=ch) j (λb o i q a e n=>u.keep b o e n (λz=>(aF.mp (I.stkSub b z)).elim i q) a) (λb o _ _ a e n=>u.any e n a) (λb o a e n=>u.free b o e n a) (λb o a e=>u.there b o e a) u.tups u.frzs u.tbls (λB t=>by
  obtain⟨D,h,f,d,v⟩:=t;rw[k] at d;cases d;exact⟨_,h,f,i,v⟩) l J
theorem Inv.turned (I:Inv X j σ H s) (k:∀ b o,b≠g->s.heap.get? b=some o->C.get? b=some o) (hn:H g=none) (l:g≠X.env.locals)
  (J:g∈X.ex\/X.s₀.heap.objs.size<=g) (T:∀ x c,X.env.cells.lookup x=some c->c≠g) (U:∀ p∈X.pn++j,p.1≠g):Inv X j σ H { s with heap:=C,toks:=t' }:=by
 have d:∀ b u,H b=some u->b≠g:=λb u e z=>by rw[z,hn] at e;cases e
 refine I.step (g':=s.gens) (d':=s.drawn) (ch:=[g]) (λb i=>?_) (λb o _ _ a e _=>k b o (λz=>a (by simp[z])) e) (λb o _ _ a e _=>⟨o.slots,k b o (λz=>a (by simp[z])) e⟩) (λ_ _ _ _ n=>n)
  (λb o a e=>⟨o,k b o (λz=>a (by simp[z])) e⟩) (λ_ _ e=>e) (λ_ _ _ e=>e) (λb y e=>⟨#[],by rw[e];simp⟩) (λm t=>?_) (λb u e=>?_) I.bare
 .have e:b=g:=by simpa using i
  subst e;exact⟨J,l,T,U⟩
 .obtain⟨o,h,f,w,r⟩:=t;exact⟨o,h,f,k _ o (cQ l) w,r⟩
 .refine (I.hok b u e).stay (λc v a q=>k c v ?_ q) (λ_ q=>q) λ_ _ q=>q
  rcases a with z | z
  .rw[z];exact d b u e
  .exact d c _ z
theorem Inv.tok (I:Inv X g j H s) (t:Nat):Inv X g j H { s with toks:=t }:=I.un (h':=s.heap) (t':=t) Un.refl I.hok
theorem Inv.kept (I:Inv X g l H s) (k:∀ b u,s.heap.get? b=some u->j.get? b=some u):Inv X g l H { s with heap:=j,toks:=t' }:=I.un (Un.kept k) (I.hok.kept k)
theorem Inv.laid (I:Inv X g p H s) (k:∀ b u,s.heap.get? b=some u->l.get? b=some u) (j:s.heap.objs.size<=a) (new:pE X.prog X.w (upd H a o) l a o) :
  Inv X g p (upd H a o) { s with heap:=l,toks:=t' }:=I.un (Un.laid k j (I.hok.fresh j)) (I.hok.laid k j new)
theorem Inv.write (I:Inv X j C H s) (r:zA (H x)) (p:e=x\/H e=some (.o x)) (k:∀ b u,b≠e->s.heap.get? b=some u->l.get? b=some u) (g:∃ u,l.get? e=some u)
  (new:pE X.prog X.w (upd H x o) l x o):Inv X j C (upd H x o) { s with heap:=l,toks:=J }:=I.un (Un.write r p k g) (I.hok.write r p k g new)
theorem Inv.pins_of (I:Inv X j l H s) (h:∀ p∈g,s.heap.get? p.1=some p.2/\H p.1=none/\p.1≠X.env.locals/\p.1∉X.fs/\∀ v,p.2.data ≠ .cell v):Inv X g l H s :=
 ⟨I.ok,I.os,I.bare,I.base,I.loc,I.cell,I.free,I.freeC,λp a=>(aV.mp a).elim (λz=>I.pin p (aM _ z)) (h p),I.hok,I.len⟩
theorem Mf {N:Aa Af}(g:N.Nodup){i j:Nat}{x:Af}(a:N[i]?=some x) (b:N[j]?=some x):i=j:=by
 obtain⟨e,c⟩:=aT.mp a;obtain⟨f,d⟩:=aT.mp b;exact (List.getElem_inj g).mp (c.trans d.symm)
theorem Rr (I:Inv X J σ H s) (hN:X.N.Nodup) (l:X.N[i]?=some x) (g:uI X.env.scope x) (r:lH v u)
  (h:∀ s',Inv X J (σ.set i (some v)) H s'->(∃ a,Heap.SameBut a s.heap s'.heap/\(a=X.env.locals\/X.env.cells.lookup x=some a))->Q () s') (hf:X.fn x=true\/X.env.scope.names.lookup x=some .local:=by first | exact .inl rfl | exact .inr rfl | assumption):wpAny M A (storeName X.env x u) Q E s:=by
 obtain⟨m,hn,hl⟩:=id I.loc;have Y:(X.env.scope.kind == .class||(X.env.scope.kind == .module&&X.env.locals != X.env.globals))=false:=by rw[I.ok.kind];rfl
 have K:i<σ.length:=by rw[I.len];exact (aT.mp l).1
 have cne:=I.cne;have B:∀ {a:Ad} {S:Ag},(∃ o,s.heap.get? a=some o/\H a=none)->Heap.SameBut a s.heap S->nD X.prog X.w H S:=λ{a S} ha f b ob e=>by
  obtain⟨_,_,F⟩:=ha;refine (I.hok b ob e).stay (λc U D q=>(f.2 c ?_).trans q) (λ_ q=>q) λ_ _ q=>q
  rintro rfl;rcases D with rfl | D
  .rw[F] at e;cases e
  .rw[F] at D;cases D
 rcases g with L | L
 .refine wpAny_storeName_local L hn (λS aa f=>?_) Y;obtain⟨oL,_,_,ab,_⟩:=id hn;refine h _ ⟨I.ok,I.os,I.bare,⟨λb o e n O g=>?_,λb o e n O g=>?_,I.base.free,λb o e g=>?_,I.base.tups,I.base.frzs,I.base.tbls⟩,⟨_,aa,λj y v' t G e3=>?_⟩,λy c e=>?_,I.free,I.freeC,λp hp=>?_,B ⟨oL,ab,I.free⟩ f,by simpa using I.len⟩ ⟨_,f,.inl rfl⟩
  .exact (f.2 b (bF (aW (aL e) I.ok.above))).trans (I.base.keep b o e n O g)
  .obtain⟨sl,t⟩:=I.base.slot b o e n O g;exact⟨sl,(f.2 b (bF (aW (aL e) I.ok.above))).trans t⟩
  .obtain⟨o',t⟩:=I.base.there b o e g;exact⟨o',(f.2 b (bF (aW (aL e) I.ok.above))).trans t⟩
  .by_cases R:j=i
   .subst R;rw[l] at t;cases t;rw[List.getElem?_set_self K] at G;cases G;exact⟨u,r,.inl ⟨L,by simp⟩⟩
   .rw[eP (cQ R)] at G;obtain⟨u',r',q⟩:=hl j y v' t G e3;refine⟨u',r',?_⟩;rcases q with⟨k,e⟩ | ⟨k,c,e,z⟩
    .refine .inl ⟨k,?_⟩;have:y≠x:=λe=>R (Mf hN t (e▸l))
     simp[this,e]
    .exact .inr ⟨k,c,e,z.sameBut f (cne y c e)⟩
  .obtain⟨U,z⟩:=I.cell y c e;exact⟨U,z.sameBut f (cne y c e)⟩
  .obtain⟨e,n,ne,nf,d⟩:=I.pin p hp;exact⟨(f.2 p.1 ne).trans e,n,ne,nf,d⟩
 .have P:X.fn x=true:=by
   rcases hf with z | z
   .exact z
   .rw[z] at L;cases L
  obtain⟨c,D⟩:=I.ok.has x (.inl L);obtain⟨U,z⟩:=I.cell x c D;refine wpAny_storeName_cell I.ok.kind L D z (λS V f=>?_);obtain⟨oc,Z,C⟩:=id z;refine h { s with heap:=S } ⟨I.ok,I.os,I.bare,⟨λb o e n O g=>?_,λb o e n O g=>?_,I.base.free,λb o e g=>?_,I.base.tups,I.base.frzs,I.base.tbls⟩,⟨m,hn.sameBut f (cQ (cne x c D)),λj y v' t G e3=>?_⟩,λy T e=>?_,I.free,I.freeC,λp hp=>?_,B ⟨oc,Z,I.freeC x c D⟩ f,by simpa using I.len⟩ ⟨c,f,.inr D⟩
  .exact (f.2 b (bF (aW (aL e) (I.ok.cab x c P D)))).trans (I.base.keep b o e n O g)
  .obtain⟨sl,t⟩:=I.base.slot b o e n O g;exact⟨sl,(f.2 b (bF (aW (aL e) (I.ok.cab x c P D)))).trans t⟩
  .obtain⟨o',t⟩:=I.base.there b o e g;exact⟨o',(f.2 b (bF (aW (aL e) (I.ok.cab x c P D)))).trans t⟩
  .by_cases R:j=i
   .subst R;rw[l] at t;cases t;rw[List.getElem?_set_self K] at G;cases G;exact⟨u,r,.inr ⟨.inl L,c,D,V⟩⟩
   .rw[eP (cQ R)] at G;obtain⟨u',r',q⟩:=hl j y v' t G e3;refine⟨u',r',?_⟩;rcases q with q | ⟨k,T,e,z'⟩
    .exact .inl q
    .refine .inr ⟨k,T,e,z'.sameBut f ?_⟩;rintro rfl;exact R (Mf hN t (I.ok.inj _ _ _ e D▸l))
  .by_cases W:T=c
   .subst W;exact⟨_,V⟩
   .obtain⟨w2,z2⟩:=I.cell y T e;exact⟨w2,z2.sameBut f W⟩
  .obtain⟨e,n,ne,nf,d⟩:=I.pin p hp;refine⟨(f.2 p.1 ?_).trans e,n,ne,nf,d⟩;intro q;rw[q,Z] at e;have q':oc=p.2:=cA e;exact d U (by rw[<- q'];exact C)
theorem F2 (I:Inv X g J H s) (l:X.N.Nodup) (p:X.N[i]?=some x) (C:uI X.env.scope x) (r:lH v u)
  (h:∀ j,Inv X g (J.set i (some v)) H j->Q () j) (o:X.fn x=true\/X.env.scope.names.lookup x=some .local:=by first | exact .inl rfl | exact .inr rfl | assumption):wpAny M A (storeName X.env x u) Q E s :=
 Rr I l p C r (λj a _=>h j a) o
theorem Inv.call' (I:Inv X g J H s) (C:s'.os=s.os) (u:Un (sR X.stack) ch H o s.heap s'.heap) (l:nD X.prog X.w o s'.heap) (r:AllBare s'.gens)
  (j:∀ b∈ch,(b∈X.ex\/X.s₀.heap.objs.size<=b)/\b≠X.env.locals/\(∀ x c,X.env.cells.lookup x=some c->c≠b)/\∀ p∈X.pn++g,p.1≠b):Inv X g J o s':=by
 obtain⟨i,d,a,h,f⟩:=s';have e:f=s.os:=C;subst e;exact I.call (g':=d) (t':=h) (d':=a) u l r j
end
abbrev XK:=Ac->Ab Ad->Hp->Prop
abbrev St:=Aa (Ab V)
abbrev VK:=V->Hp->Prop
abbrev TE:=St->Hp->VK->Prop
abbrev TT:=St->Hp->(Bool->Hp->Prop)->Prop
abbrev TA:=St->Hp->(Aa V->Hp->Prop)->Prop
structure Ends where
 nx:St->Hp->Prop
 rt:VK
 bk:St->Hp->Prop:=λ_ _=>False
 ct:St->Hp->Prop:=λ_ _=>False
abbrev TS:=Ends->St->Hp->Prop
def EP (X:Cx) (g:Aa (Ad×Obj)) (l:St) (Q:VK) (u:Ac) (j:Ae):Prop:=∃ v a,Inv X g l a j/\lH v u/\Q v a
def TP (X:Cx) (g:Aa (Ad×Obj)) (l:St) (Q:Bool->Hp->Prop) (b:Bool) (j:Ae):Prop:=∃ a,Inv X g l a j/\Q b a
def AP (X:Cx) (g:Aa (Ad×Obj)) (o:St) (Q:Aa V->Hp->Prop) (l:Aa Ac) (j:Ae):Prop:=∃ b a,Inv X g o a j/\kZ b l/\Q b a
def SP (X:Cx) (g:Aa (Ad×Obj)) (D:Ends) (f:Flow) (j:Ae):Prop :=
 match f with
 | .next=>∃ a b,Inv X g a b j/\D.nx a b
 | .brk=>∃ a b,Inv X g a b j/\D.bk a b
 | .cont=>∃ a b,Inv X g a b j/\D.ct a b
 | .ret u=>∃ v a b,Inv X g a b j/\lH v u/\D.rt v b
def PE (X:Cx) (e:Expr) (t:TE):Prop :=
 ∀ (a:Aa (Ad×Obj)) (s:Ae) (b:St) (H:Hp) (Q:VK),Inv X a b H s->t b H Q->wpAny (model X.prog X.w) X.A (eval e X.env) (EP X a b Q) X.xe s
def PT (X:Cx) (e:Expr) (t:TT):Prop :=
 ∀ (a:Aa (Ad×Obj)) (s:Ae) (b:St) (H:Hp) (Q:Bool->Hp->Prop),Inv X a b H s->t b H Q->wpAny (model X.prog X.w) X.A (isTrue e X.env (eval e X.env)) (TP X a b Q) X.xe s
def PW (X:Cx) (e:Expr) (t:TT):Prop :=
 ∀ (whole:Sem Ac) (a:Aa (Ad×Obj)) (s:Ae) (b:St) (H:Hp) (Q:Bool->Hp->Prop),Inv X a b H s->t b H Q->wpAny (model X.prog X.w) X.A (isTrue e X.env whole) (TP X a b Q) X.xe s
theorem PW.pt {X:Cx}(h:PW X e t):PT X e t:=h _
def PA (X:Cx) (g:Aa Expr) (t:TA):Prop :=
 ∀ (pos:Pos) (a:Aa (Ad×Obj)) (s:Ae) (b:St) (H:Hp) (Q:Aa V->Hp->Prop),Inv X a b H s->t b H Q->wpAny (model X.prog X.w) X.A (spliced (backTo pos (starEach g X.env))) (AP X a b Q) X.xe s
def PS (X:Cx) (st:Stmt) (t:TS):Prop :=
 ∀ (a:Aa (Ad×Obj)) (s:Ae) (b:St) (H:Hp) (D:Ends),Inv X a b H s->t D b H->wpAny (model X.prog X.w) X.A (exec st X.env) (SP X a D) X.xe s
def oA (X:Cx) (st:Aa Stmt) (t:TS):Prop :=
 ∀ (a:Aa (Ad×Obj)) (s:Ae) (b:St) (H:Hp) (D:Ends),Inv X a b H s->t D b H->wpAny (model X.prog X.w) X.A (execs st X.env) (SP X a D) X.xe s
theorem hO (h:wpAny M A t Q E s) (j:∀ a s,Q a s->g a s):wpAny M A t g E s:=dM h j λ_ _ x=>x
section
variable {X:Cx}
def pR (i:Nat):TE:=λa H Q=>∃ v,a[i]?=some (some v)/\Q v H
def tC (v:V):TE:=λ_ H Q=>Q v H
theorem DQ (j:X.N[i]?=some x) (o:Ck X.env.scope x) (hd:(x == ("__debug__" : Af))=false:=by decide) (g:(x == ("__classdict__" : Af))=false:=by decide):PE X (.Name x pos) (pR i):=by
 intro d s t H Q I h;obtain⟨v,e,h⟩:=h;obtain⟨m,q,k⟩:=I.loc;obtain⟨u,r,l⟩:=k i x v j e o;have fin:EP X d t Q u s:=⟨v,H,I,r,h⟩;rcases l with⟨b,n⟩ | ⟨b,c,f,a⟩
 .exact wpAny_Name (wpAny_loadName_local I.ok.kind b q n fin) hd
 .rcases b with b | b
  .exact wpAny_Name (wpAny_loadName_cell I.ok.kind b f a fin) hd
  .exact wpAny_Name (wpAny_loadName_free I.ok.kind b f a fin g) hd
theorem mD {i j pos}:PE X (.Constant (.int i) j pos) (tC (.int i)):=λ_ _ _ H _ I h=>wpAny_Constant_int ⟨.int i,H,I.tok _,⟨_,rfl⟩,h⟩
theorem Vq {b j pos}:PE X (.Constant (.bool b) j pos) (tC (.b b)):=λ_ _ _ H _ I h=>Constant_bool ⟨.b b,H,I,rfl,h⟩
theorem sM {x j pos}:PE X (.Constant (.str x) j pos) (tC (.str x)):=λ_ _ _ H _ I h=>Calls.Constant_str ⟨.str x,H,I.tok _,⟨_,rfl⟩,h⟩
def Gl (X:Cx) (x:Af):Prop:=X.env.kindOf x=some .globalImplicit
theorem Ph (I:Inv X g o H s) (j:Gl X x) (l:X.mg x=some u) (h:Q u s)
  (hd:(x == ("__debug__" : Af))=false:=by decide):wpAny (model X.prog X.w) X.A (eval (.Name x pos) X.env) Q E s :=
 Calls.Name_function_global I.ok.kind j (Calls.loadGlobal_global (by rw[I.ok.glob];exact I.mod.glob.keeps I.bk) l h) hd
theorem tO (I:Inv X g r H s) (j:Gl X x) (l:X.mg x=none) (p:bootBuiltins x=some u) (h:Q u s)
  (o:x ≠ "__name__" := by decide) (hd:(x == ("__debug__" : Af))=false:=by decide):wpAny (model X.prog X.w) X.A (eval (.Name x pos) X.env) Q E s:=by
 obtain⟨c,a,b⟩:=I.mod.blt;exact Calls.Name_function_global I.ok.kind j (Calls.loadGlobal_builtin (by rw[I.ok.glob];exact I.mod.glob.keeps I.bk) l (by rw[I.ok.blt];exact a.keeps I.bk) ((b x o).trans p) h) hd
variable {rest:Aa Expr}
def S9 (t u:TT):TT:=λb H Q=>t b H λc a=>if c=true then u b a Q else Q false a
def Ss (t u:TT):TT:=λb H Q=>t b H λc a=>if c=true then Q true a else u b a Q
def W8 (t:TT):TT:=λb H Q=>t b H λc a=>Q (!c) a
theorem Mu (g:PT X a j):PW X (.BoolOp .And [a] pos) j:=by
 intro i b s d H Q I h;refine isTrue_and (hO (g b s d H Q I h) λc f e=>?_);cases c with
 | true=>exact isTrue_and_nil e
 | false=>exact e
theorem Xk (g:PT X a j):PW X (.BoolOp .Or [a] pos) j:=by
 intro i b s d H Q I h;refine isTrue_or (hO (g b s d H Q I h) λc f e=>?_);cases c with
 | false=>exact isTrue_or_nil e
 | true=>exact e
theorem Lb (j:PT X a o) (l:PW X (.BoolOp .And (b::rest) pos) g):PW X (.BoolOp .And (a::b::rest) pos) (S9 o g):=by
 intro q d s m H Q I h;refine isTrue_and (hO (j d s m H _ I h) λc n e=>?_);obtain⟨f,i,k⟩:=e;cases c with
 | true=>exact l q d n m f Q i k
 | false=>exact⟨f,i,k⟩
theorem Xr (j:PT X a o) (l:PW X (.BoolOp .Or (b::rest) pos) g):PW X (.BoolOp .Or (a::b::rest) pos) (Ss o g):=by
 intro q d s m H Q I h;refine isTrue_or (hO (j d s m H _ I h) λc n e=>?_);obtain⟨f,i,k⟩:=e;cases c with
 | true=>exact⟨f,i,k⟩
 | false=>exact l q d n m f Q i k
theorem T6 (g:PT X a j):PT X (.UnaryOp .Not a pos) (W8 j):=by
 intro b s e H Q I h;exact isTrue_not (g b s e H (λc d=>Q (!c) d) I h)
def Zc (g j:TE):TE:=λd H Q=>g d H λx a=>∃ c,x = .b c/\if c=true then j d a Q else Q (.b false) a
theorem FE {op}(h:PE X a t):PE X (.BoolOp op [a] pos) t:=λb s c H Q I hw=>BoolOp_one (h b s c H Q I hw)
theorem GP (g:PE X a l) (j:PE X (.BoolOp .And (b::rest) pos) o):PE X (.BoolOp .And (a::b::rest) pos) (Zc l o):=by
 intro d s m H Q I h;refine BoolOp_and (hO (g d s m H _ I h) λv q f=>?_);obtain⟨x,i,k,n,e⟩:=f;obtain⟨c,rfl,e⟩:=e;cases n;refine iC ?_;cases c with
 | true=>exact j d q m i Q k e
 | false=>exact⟨.b false,i,k,rfl,e⟩
def X3 (t:TT) (g j:TE):TE:=λa H Q=>t a H λc b=>if c=true then g a b Q else j a b Q
theorem AS (l:PT X c o) (g:PE X a p) (j:PE X b r):PE X (.IfExp c a b pos) (X3 o p r):=by
 intro e s i H Q I h;refine wpAny_IfExp (hO (l e s i H _ I h) λd q f=>?_);obtain⟨k,m,n⟩:=f;cases d with
 | true=>exact g e q i k Q m n
 | false=>exact j e q i k Q m n
end
def eT (K:kY) (H:Hp) (a:Ad) (g:Aa V):Prop :=
 Rd H a (.l g) \/
  ∃ (o:Obj) (b:Array Ac) (n:Nat),K.lookup a=some o/\o.cls = .type "list" /\ o.dict=none/\o.data = .seq b n/\b.size<=sizeLine/\kZ g b.toList
def mA (K:kY) (H:Hp) (a:Ad) (g:Aa V):Prop :=
 Rd H a (.t g) \/
  ∃ (o:Obj) (b:Array Ac) (n:Nat),K.lookup a=some o/\o.cls = .type "tuple" /\ o.data = .seq b n/\b.size<=sizeLine/\kZ g b.toList
noncomputable def Xs:Ac->Ab V
 | .none=>some .e
 | .bool b=>some (.b b)
 | .int i _=>some (.int i)
 | .str x _=>some (.str x)
 | .bytes b _=>some (.byt b)
 | .float b _=>some (.flt b)
 | .ref a=>some (.ref a)
 | .type n=>some (.ty n)
 | _=>none
theorem lH.abs (r:lH x u):Xs u=some x:=by
 cases x with
 | e=>cases r;rfl
 | b _=>cases r;rfl
 | int _=>obtain⟨t,rfl⟩:=r;rfl
 | str _=>obtain⟨t,rfl⟩:=r;rfl
 | byt _=>obtain⟨t,rfl⟩:=r;rfl
 | flt _=>obtain⟨t,rfl⟩:=r;rfl
 | ref _=>cases r;rfl
 | ty _=>cases r;rfl
theorem lH.inj (r:lH x u) (q:lH y u):x=y:=cA (r.abs.symm.trans q.abs)
theorem kZ.inj:∀ {j l:Aa V}{g:Aa Ac},kZ j g->kZ l g->j=l
 | _,_,_,.nil,.nil=>rfl
 | _,_,_,.cons r t,.cons a b=>by rw[r.inj a,kZ.inj t b]
section
variable {X:Cx}
theorem eT.of {K:kY}(h:H a=some (.l g)):eT K H a g:=.inl (.inl h)
theorem mA.of {K:kY}(h:H a=some (.t g)):mA K H a g:=.inl (.inl h)
theorem Inv.list (I:Inv X j p H s) (h:eT X.K H a l):∃ g:Aa Ac,kZ l g/\PlainL s.heap a g.toArray/\l.length<=sizeLine:=by
 rcases h with h | ⟨o,g,n,c,b,hd,d,f,r⟩
 .obtain⟨z,g,n,r,e⟩:=h.ok I.hok;exact⟨g,r,⟨_,n,e,rfl,rfl,rfl⟩,z⟩
 .refine⟨g.toList,r,⟨o,n,I.kIn a o c,b,hd,by simpa using d⟩,?_⟩;have e:=r.length;simp only[gH] at e;omega
theorem Inv.tuple (I:Inv X j C H s) (h:mA X.K H a l):∃ g:Aa Ac,kZ l g/\IsTup s.heap a g.toArray/\l.length<=sizeLine:=by
 rcases h with h | ⟨o,g,n,c,b,d,f,r⟩
 .obtain⟨z,g,r,p,_⟩:=h.ok I.hok;exact⟨g,r,p,z⟩
 .refine⟨g.toList,r,⟨o,I.kIn a o c,b,n,by simpa using d⟩,?_⟩;have e:=r.length;simp only[gH] at e;omega
theorem Inv.list_inj (I:Inv X g C H s) (h:eT X.K H a l) (j:eT X.K H a p):l=p:=by
 obtain⟨c,r,⟨o,n,e,_,_,d⟩,_⟩:=I.list h;obtain⟨b,k,⟨q,m,i,_,_,f⟩,_⟩:=I.list j;rw[e] at i;cases i;rw[d] at f;injection f with d1 _;have:c=b:=by simpa using eA Array.toList d1
 subst this;exact r.inj k
theorem Inv.tuple_inj (I:Inv X g C H s) (h:mA X.K H a l) (j:mA X.K H a p):l=p:=by
 obtain⟨c,r,⟨o,e,_,n,d⟩,_⟩:=I.tuple h;obtain⟨b,k,⟨q,i,_,m,f⟩,_⟩:=I.tuple j;rw[e] at i;cases i;rw[d] at f;injection f with d1 _;have:c=b:=by simpa using eA Array.toList d1
 subst this;exact r.inj k
end
noncomputable abbrev Cx.wish (X:Cx) (E:Ac->Ae->Prop):Cx:={ X with xe:=E }
abbrev Cx.nox (X:Cx):Cx:=X.wish λ_ _=>False
theorem Cx.Ok.wish {X:Cx}(ok:X.Ok) (E:Ac->Ae->Prop):(X.wish E).Ok :=
 ⟨ok.mod,ok.kind,ok.glob,ok.blt,ok.above,ok.inj,ok.has,ok.cab,ok.hd,ok.frames,ok.stk,ok.exf,ok.bs,ok.bsz,ok.noex,ok.exfs,ok.funs,ok.frf⟩
theorem Cx.Ok.unwish {X:Cx}(ok:(X.wish E).Ok):X.Ok :=
 ⟨ok.mod,ok.kind,ok.glob,ok.blt,ok.above,ok.inj,ok.has,ok.cab,ok.hd,ok.frames,ok.stk,ok.exf,ok.bs,ok.bsz,ok.noex,ok.exfs,ok.funs,ok.frf⟩
section
variable {X:Cx}
theorem Inv.wish (I:Inv X g j H s) (E:Ac->Ae->Prop):Inv (X.wish E) g j H s:=⟨I.ok.wish E,I.os,I.bare,I.base,I.loc,I.cell,I.free,I.freeC,I.pin,I.hok,I.len⟩
theorem Inv.unwish (I:Inv (X.wish E) g j H s):Inv X g j H s:=⟨I.ok.unwish,I.os,I.bare,I.base,I.loc,I.cell,I.free,I.freeC,I.pin,I.hok,I.len⟩
theorem SP.unwish {D:Ends}(h:SP (X.wish E) g D f j):SP X g D f j:=by
 cases f with
 | next=>obtain⟨a,b,I,q⟩:=h;exact⟨a,b,I.unwish,q⟩
 | brk=>obtain⟨a,b,I,q⟩:=h;exact⟨a,b,I.unwish,q⟩
 | cont=>obtain⟨a,b,I,q⟩:=h;exact⟨a,b,I.unwish,q⟩
 | ret u=>obtain⟨v,a,b,I,r,q⟩:=h;exact⟨v,a,b,I.unwish,r,q⟩
theorem oA.nox {st:Aa Stmt}(h:oA X.nox st t):oA X st t:=λa s b H D I hw =>
 dM (h a s b H D (I.wish _) hw) (λ_ _ q=>q.unwish) λ_ _ z=>False.elim z
end
section
variable {X:Cx}{st:Stmt}{rest:Aa Stmt}
def Uq:TS:=λD a H=>D.nx a H
def Ir (t u:TS):TS:=λD a H=>t { D with nx:=u D } a H
theorem Aj:oA X [] Uq:=λ_ _ a H _ I h=>jZ ⟨a,H,I,h⟩
theorem nP (g:PS X st t) (j:oA X rest u):oA X (st::rest) (Ir t u):=by
 intro a s i H D I h;refine wpAny_execs_cons (hO (g a s i H { D with nx:=u D } I h) λf e q=>?_);cases f with
 | next =>
  obtain⟨b,c,d,q⟩:=q;exact j a e b c D d q
 | ret v=>exact q
 | brk=>exact q
 | cont=>exact q
theorem qC (g:PS X st t):oA X [st] t:=by
 intro a s b H D I h;refine wpAny_execs_cons (hO (g a s b H D I h) λf c q=>?_);cases f with
 | next=>exact jZ q
 | ret v=>exact q
 | brk=>exact q
 | cont=>exact q
theorem Inv.quiet (I:Inv X g j H s):interactive X.env=false:=by simp[interactive,I.ok.kind]
def Ro (g:TE):TS:=λD a H=>g a H λ_ b=>D.nx a b
theorem B6 (g:PE X e l) (j:swapsWith e none pos.line X.env=pure false:=by rfl):PS X (.Expr e pos) (Ro l):=by
 intro a s b H D I h;exact wpAny_Expr_any (hO (g a s b H _ I h) λv k ⟨x,c,d,i,f⟩=>⟨b,c,d,f⟩) I.quiet j
def Nh (g:TE):TS:=λD a H=>g a H D.rt
theorem tY (g:PE X e j):PS X (.Return (some e) pos) (Nh j):=by
 intro a s b H D I h;exact wpAny_Return_some (hO (g a s b H _ I h) λv k ⟨x,c,d,i,f⟩=>⟨x,b,c,d,i,f⟩)
def FG (c:TT) (t u:TS):TS:=λD a H=>c a H λb d=>if b=true then t D a d else u D a d
theorem yO (l:PT X c o) (g:oA X a t) (j:oA X b u):PS X (.If c a b pos) (FG o t u):=by
 intro e s i H D I h;refine wpAny_If (hO (l e s i H _ I h) λd q f=>?_);obtain⟨k,m,n⟩:=f;cases d with
 | true=>exact g e q i k D m n
 | false=>exact j e q i k D m n
end
abbrev TG:=V->St->Hp->(St->Hp->Prop)->Prop
abbrev xQ:=Aa V->St->Hp->(St->Hp->Prop)->Prop
def PG (X:Cx) (target:Expr) (t:TG):Prop :=
 ∀ (a:Aa (Ad×Obj)) (s:Ae) (d:St) (H:Hp) (v:V) (u:Ac) (Q:St->Hp->Prop),Inv X a d H s->lH v u->t v d H Q ->
  wpAny (model X.prog X.w) X.A (assign target X.env u) (λ_ e=>∃ b c,Inv X a b c e/\Q b c) X.xe s
def vK (X:Cx) (g:Aa Expr) (t:xQ):Prop :=
 ∀ (a:Aa (Ad×Obj)) (s:Ae) (f:St) (H:Hp) (e:Aa V) (d:Aa Ac) (Q:St->Hp->Prop),Inv X a f H s->kZ e d->t e f H Q ->
  wpAny (model X.prog X.w) X.A (assignInOrder ((assignEach g X.env).map (·.2)) d) (λ_ h=>∃ b c,Inv X a b c h/\Q b c) X.xe s
abbrev He:=V->V->V->Hp->(Hp->Prop)->Prop
def Ga (X:Cx) (t:He):Prop :=
 ∀ (a:Aa (Ad×Obj)) (s:Ae) (e:St) (H:Hp) (o i v:V) (d c u:Ac) (Q:Hp->Prop),Inv X a e H s->lH o d->lH i c->lH v u->t o i v H Q ->
  wpAny (model X.prog X.w) X.A (setItem d c u) (λ_ f=>∃ b,Inv X a e b f/\Q b) X.xe s
abbrev Gr:=V->V->Hp->VK->Prop
def Cy (X:Cx) (op:Operator) (t:Gr):Prop :=
 ∀ (a:Aa (Ad×Obj)) (s:Ae) (b:St) (H:Hp) (x y:V) (v u:Ac) (Q:VK),Inv X a b H s->lH x v->lH y u->t x y H Q ->
  wpAny (model X.prog X.w) X.A (inplaceOp op v u) (EP X a b Q) X.xe s
section
variable {X:Cx}
def xR (i:Nat):TG:=λv a H Q=>Q (a.set i (some v)) H
theorem vA (g:X.N.Nodup) (l:X.N[i]?=some x) (o:uI X.env.scope x) (j:X.fn x=true\/X.env.scope.names.lookup x=some .local:=by first | exact .inl rfl | exact .inr rfl | assumption):PG X (.Name x pos) (xR i):=by
 intro a s d H v u Q I r h;exact wpAny_assign_Name (F2 I g l o r (λc b=>⟨_,H,b,h⟩) j)
def DR:xQ:=λa b H Q=>a=[]/\Q b H
def Ye (t:TG) (u:xQ):xQ:=λc d H Q=>∃ v r,c=v::r/\t v d H λa b=>u r a b Q
theorem Vw:vK X [] DR:=by
 intro a s b H d c Q I r h;obtain⟨e,h⟩:=h;subst e;cases r;exact assignInOrder_nil ⟨b,H,I,h⟩
theorem Vj (j:PG X e t) (l:vK X g u)
  (o:(assignEach (e::g) X.env).map (·.2)=assign e X.env::(assignEach g X.env).map (·.2):=by rfl):vK X (e::g) (Ye t u):=by
 intro a s q H y w Q I r h;obtain⟨v,x,i,h⟩:=h;subst i;cases r with
 | cons r m =>
  rw[o];refine assignInOrder_cons (hO (j a s q H _ _ _ I r h) λ_ n b=>?_);obtain⟨c,d,f,k⟩:=b;exact l a n c d _ _ Q f m k
def Vs (K:kY) (n:Nat) (t:xQ):TG:=λv c H Q=>∃ a b,v = .ref a/\mA K H a b/\b.length=n/\t b c H Q
theorem Sa (l:X.calm=true) (h:vK X g t)
  (p:(assignEach g X.env).length=n:=by rfl) (j:(assignEach g X.env).findIdx? (·.1)=none:=by rfl):PG X (.Tuple g k pos) (Vs X.K n t):=by
 intro c s f H v u Q I r hw;obtain⟨a,B,m,x,w,hw⟩:=hw;subst m;cases r;obtain⟨A,d,y,D⟩:=I.tuple x;refine assign_Tuple_tuple (I.ok.hd l) y (by simp[p,<- w,d.length]) j λq z=>?_
 have i:Inv X c f H { s with heap:=q }:=I.kept (t':=s.toks) λb o e=>z b o (bF (aL e)) e
 exact h c _ f H B _ Q i (by simpa using d) hw
def Z0 (j g:TE) (t:He):TG:=λv a H Q=>j a H λo b=>g a b λi c=>t o i v c λd=>Q a d
theorem B1 (C:PE X o U) (p:PE X i T) (J:Ga X t)
  (l:∀ v,assign (.Subscript o i pos) X.env v=(do
   let g <- holding [v] (eval o X.env);let j <- holding [v,g] (eval i X.env)
   standAt pos
   holding [v,g,j] (setItem g j v)
   release [v,g,j] []):=by intro _;rfl):PG X (.Subscript o i pos) (Z0 U T t):=by
 intro b s c H v u Q I r h;rw[l];refine aA (bS (hO (C b s c H _ I h) λg D a=>?_));obtain⟨x,d,k,A,q⟩:=a;refine aA (bS (hO (p b D c d _ k q) λj E a=>?_));obtain⟨y,e,m,B,w⟩:=a;refine aA (jW (aA (bS (hO (J b E c e x y v g j u _ m A B r w) λ_ F a=>?_))));obtain⟨f,n,z⟩:=a;exact wpAny_release ⟨c,f,n,z⟩
def Gf (j:TE) (g:TG):TS:=λD a H=>j a H λx b=>g x a b D.nx
theorem A9 (o:PE X e C) (p:PG X j g) (r:swapsWithSole [j] e pos.line X.env=pure false:=by rfl) (hw:swappedStores [j] e X.env=pure none:=by rfl)
  (l:(assignEach [j] X.env).map (·.2)=[assign j X.env]:=by rfl):PS X (.Assign [j] e pos) (Gf C g):=by
 intro a s c H D I h;refine wpAny_Assign_stores (hO (o a s c H _ I h) λv m b=>?_) r hw;obtain⟨x,d,f,k,i⟩:=b;rw[l];exact hO (p a m c d x v _ f k i) λ_ n q=>q
theorem nH {i:Nat}{x:Af}{e:Expr}{j:TE}{g:Pos}(l:X.N.Nodup) (r:X.N[i]?=some x) (J:uI X.env.scope x) (o:PE X e j) (C:swapsWith e (some (.Name x g)) pos.line X.env=pure false:=by rfl) (p:X.fn x=true\/X.env.scope.names.lookup x=some .local:=by first | exact .inl rfl | exact .inr rfl | assumption) :
  PS X (.Assign [.Name x g] e pos) (Gf j (xR i)):=by
 intro a s n H D I h;refine wpAny_Assign_Name (hO (o a s n H _ I h) λv q b=>?_) C;obtain⟨y,c,d,m,k⟩:=b;exact F2 d l r J m (λt f=>⟨_,c,f,k⟩) p
def DT (i:Nat) (g:TE) (j:Gr):TS:=λD a H=>∃ x,a[i]?=some (some x)/\g a H λy b=>j x y b λz c=>D.nx (a.set i (some z)) c
theorem AB (p:X.N.Nodup) (j:X.N[i]?=some x) (g:uI X.env.scope x) (C:PE X e U) (T:Cy X op ti) (J:X.fn x=true\/X.env.scope.names.lookup x=some .local:=by first | exact .inl rfl | exact .inr rfl | assumption) :
  PS X (.AugAssign (.Name x o) op e pos) (DT i U ti):=by
 intro a s B H D I h;obtain⟨v,M,h⟩:=h;obtain⟨m,R,P⟩:=I.loc;have t:Ck X.env.scope x:=by rcases g with k | k;exact .inl k;exact .inr (.inl k)
 obtain⟨u,r,l⟩:=P i x v j M t;refine wpAny_AugAssign_Name ?_;have go:wpAny (model X.prog X.w) X.A (eval e X.env) (λw n=>wpAny (model X.prog X.w) X.A (inplaceOp op u w) (λr q=>wpAny (model X.prog X.w) X.A (storeName X.env x r) (λ_=>SP X a D .next) X.xe q) X.xe n) X.xe s:=by
  refine hO (C a s B H _ I h) λw Z f=>?_
  obtain⟨y,E,G,W,S⟩:=f;refine hO (T a Z B E v y u w _ G r W S) λz s2 f=>?_
  obtain⟨zv,F,K,Y,V⟩:=f;exact F2 K p j g Y (λs3 L=>⟨_,F,L,V⟩) J
 rcases l with⟨b,Q⟩ | ⟨b,c,O,d⟩
 .exact wpAny_loadName_local I.ok.kind b R Q go
 .rcases b with b | b
  .exact wpAny_loadName_cell I.ok.kind b O d go
  .rcases g with k | k
   .have:X.env.scope.names.lookup x=some .free:=b;rw[k] at this;cases this
   .have:X.env.scope.names.lookup x=some .free:=b;rw[k] at this;cases this
def Hr (f:Int->Int->Int):Gr:=λx y H Q=>∃ i j,x = .int i/\y = .int j/\Q (.int (f i j)) H
theorem Qg:Cy X .Add (Hr λi j=>i+j):=by
 intro a s k H x y v u Q I d e h;obtain⟨i,j,b,c,q⟩:=h;subst b;subst c;obtain⟨t,rfl⟩:=d;obtain⟨f,rfl⟩:=e;exact iadd_int ⟨.int _,H,I.tok _,⟨_,rfl⟩,q⟩
theorem GC:Cy X .Sub (Hr λi j=>i-j):=by
 intro a s k H x y v u Q I d e h;obtain⟨i,j,b,c,q⟩:=h;subst b;subst c;obtain⟨t,rfl⟩:=d;obtain⟨f,rfl⟩:=e;exact isub_int ⟨.int _,H,I.tok _,⟨_,rfl⟩,q⟩
end
section
variable {X:Cx}
def GX (c:TT) (g:TS):TS:=λD a H=>∃ W:Nat->St->Hp->Prop,(∃ m,W m a H)/\∀ m a H,W m a H ->
 c a H λb f=>if b=true then ∃ N:St->Hp->Prop,(∀ d e,N d e->∃ h,h<m/\W h d e)/\g { D with nx:=N,ct:=N,bk:=D.nx } a f else D.nx a f
theorem Uh (g:PassesOwn (model X.prog X.w) X.A X.env X.xe) (l:PT X c p) (j:oA X body o):PS X (.While c body [] pos) (GX p o):=by
 intro a s Z H D I h;obtain⟨W,⟨P,V⟩,k⟩:=h;refine wpAny_While (codeAny_whileLoop (λn Q=>∃ m F,Inv X a m F Q/\W n m F) ?_ P ⟨Z,H,I,V⟩);rintro n R ⟨e,G,O,Y⟩;refine fX g (hO (l a R e G _ O (k n e G Y)) λb S y=>?_);obtain⟨K,L,q⟩:=y;cases b with
 | true =>
  obtain⟨N,M,q⟩:=q;rw[bE rfl];refine fX g (hO (j a S e K _ L q) λf r t=>?_);cases f with
  | next =>
   obtain⟨d,i,u,B⟩:=t;obtain⟨z,x,E⟩:=M d i B;exact⟨z,x,d,i,u,E⟩
  | cont =>
   obtain⟨d,i,u,B⟩:=t;obtain⟨z,x,E⟩:=M d i B;exact⟨z,x,d,i,u,E⟩
  | brk=>exact t
  | ret v=>exact t
 | false =>
  rw[bG bA];exact jZ ⟨e,K,L,q⟩
end
structure It where
 go:Nat->Hp->Prop
 yld:Nat->Hp->V->Hp->Prop
 stop:Nat->Hp->Prop
def rO (X:Cx) (g:Aa (Ad×Obj)) (H:Hp) (b:Ad):Prop :=
 H b=none/\b≠X.env.locals/\b∉X.fs/\(b∈X.ex\/X.s₀.heap.objs.size<=b)/\(∀ x c,X.env.cells.lookup x=some c->c≠b)/\∀ p∈X.pn++g,p.1≠b
theorem Inv.fpOk {X:Cx}(I:Inv X j r H s) (g:s.heap.objs.size<=b) (o:l b=none):rO X j l b:=by
 refine⟨o,gW (aW I.lt g),I.nofs g,.inr (bV I.sz g),λx c e z=>?_,λp a z=>?_⟩
 .obtain⟨v,q⟩:=I.cell x c e;exact absurd (aW q.lt (by rw[z];exact g)) (cV _)
 .exact absurd (aW (aL (I.pin p a).1) (by rw[z];exact g)) (cV _)
structure Turn (P:Program) (w:World) (K:kY) (tg:Expr) (J:It) (fp:List Addr) (it:Addr) (tn:Nat->Heap->Prop):Prop where
 mem:it∈fp
 obj:∀ i h,tn i h->∀ b∈fp,∃ o,h.get? b=some o/\∀ v,o.data ≠ .cell v
 keep:∀ i h h',tn i h->(∀ b∈fp,∀ o,h.get? b=some o->h'.get? b=some o)->tn i h'
 item:∀ (X:Cx),X.prog=P->X.w=w->X.K=K->X.calm=true->∀ (i:Nat) (pins:List (Addr×Obj)) (s:Shared) (σ:St) (H:Hp) (E:Value->Shared->Prop),Inv X pins σ H s->(∀ b∈fp,rO X pins H b)->tn i s.heap->J.go i H ->
  wpAny (model P w) X.A (pyNext (.ref it)) (λr s1=>∃ u,r=some u /\ wpAny (model P w) X.A (letOwnedTupleGo tg (.ref it) u) (λ_ s2=>∃ x H',Inv X pins σ H' s2/\lH x u/\J.yld i H x H'/\tn (i+1) s2.heap/\∀ b∈fp,H' b=none) E s1) E s
 done:∀ (X:Cx),X.prog=P->X.w=w->X.K=K->X.calm=true->∀ (i:Nat) (pins:List (Addr×Obj)) (s:Shared) (σ:St) (H:Hp) (E:Value->Shared->Prop),Inv X pins σ H s->(∀ b∈fp,rO X pins H b)->tn i s.heap->J.stop i H ->
  wpAny (model P w) X.A (pyNext (.ref it)) (λr s1=>r=none/\Inv X pins σ H s1) E s
 self:∀ (A:Around) (i:Nat) (s:Shared) (Q:Value->Shared->Prop) (E:Value->Shared->Prop),tn i s.heap->Q (.ref it) s->wpAny (model P w) A (pyIter (.ref it)) Q E s
abbrev TI:=St->Hp->(It->Hp->Prop)->Prop
def Oq (X:Cx) (g:Aa (Ad×Obj)) (p:St) (o:Expr) (R:It->Hp->Prop) (j:Ac) (l:Ae):Prop :=
 ∃ (d:Ad) (c:Aa Ad) (e:Nat->Ag->Prop) (J:It) (a:Hp),j = .ref d/\Inv X g p a l/\Turn X.prog X.w X.K o J c d e/\e 0 l.heap/\(∀ b∈c,rO X g a b)/\R J a
def PI (X:Cx) (g iter:Expr) (j:TI):Prop :=
 ∀ (a:Aa (Ad×Obj)) (s:Ae) (b:St) (H:Hp) (R:It->Hp->Prop),Inv X a b H s->j b H R ->
  wpAny (model X.prog X.w) X.A (eval iter X.env) (λv c=>wpAny (model X.prog X.w) X.A (pyIter v) (Oq X a b g R) X.xe c) X.xe s
theorem Fa (p:s.heap.get? r=some o) (j:o.cls = .type n) (hd:o.data = .fields I)
  (l:["enumerate","zip","dict_itemiterator","dict_reverseitemiterator","odict_iterator","itertools.zip_longest","itertools.pairwise"].contains n=false) (g:Q () s):wpAny M A (letOwnedTupleGo C (.ref r) u) Q E s:=by
 unfold letOwnedTupleGo;cases C<;>first
  | exact aH g
  | (cases u<;>first
    | exact aH g
    | (refine aA (wpAny_load p ?_);rw[j,hd];show wpAny M A (if (["enumerate","zip","dict_itemiterator","dict_reverseitemiterator","odict_iterator","itertools.zip_longest","itertools.pairwise"].contains n&&I[0]? == some (rawInt _))=true then _ else _) Q E s;rw[bG (by intro h;rw[l,Bool.false_and] at h;cases h)];exact aH g))
def yJ (K:kY) (a:Ad):It :=
 ⟨λi H=>∃ b x,eT K H a b/\b[i]?=some x,λi H x c=>c=H/\∀ b,eT K H a b->b[i]?=some x,λi H=>∃ b,eT K H a b/\b.length<=i⟩
def G9 (K:kY) (a:Ad):It :=
 ⟨λi H=>∃ b x,mA K H a b/\b[i]?=some x,λi H x c=>c=H/\∀ b,mA K H a b->b[i]?=some x,λi H=>∃ b,mA K H a b/\b.length<=i⟩
def rN (lo:Int) (n:Nat):It:=⟨λi _=>i<n,λi H x a=>a=H/\x = .int (lo+i),λi _=>n<=i⟩
theorem Ka {P:Ah}{K:kY}(a g:Ad):Turn P w K T (yJ K a) [g] g (λi h=>h.IsListIter g a i) where
 mem:=by simp
 obj:=λi h st b m=>by
  have e:b=g:=by simpa using m
  subst e;obtain⟨o,e,c,d⟩:=st;exact⟨o,e,λv z=>by rw[d] at z;cases z⟩
 keep:=λi h q st k=>st.at λo e=>k g (by simp) o e
 item:=by
  intro X L hw G R i f s S H E I t st M;subst L hw G;obtain⟨C,x,y,N⟩:=M;obtain⟨O,Q,p,j⟩:=I.list y;obtain⟨u,Y,l⟩:=Q.get N;obtain⟨A,f1,f2,B,D,F⟩:=t g (by simp);refine jE st p.isList (x:=u) (by simpa using Y) λq n r=>?_
  have V:Inv X f S H { s with heap:=q }:=I.turned (t':=s.toks) (λb o m e=>(r.2 b m).trans e) A f1 B D F;obtain⟨o,e,c,d⟩:=id n;exact⟨u,rfl,Fa (s:={ s with heap:=q }) e c d (by decide) ⟨x,H,V,l,⟨rfl,λU Z=>by rw[I.list_inj Z y];exact N⟩,n,λb m=>(t b m).1⟩⟩
 done:=by
  intro X L hw G R i f s S H E I t st M;subst L hw G;obtain⟨C,y,N⟩:=M;obtain⟨O,Q,p,j⟩:=I.list y;obtain⟨A,f1,f2,B,D,F⟩:=t g (by simp);have J:=Q.length;exact jM (I.ok.hd R) st p.isList (by simp;omega) λq W=>⟨rfl,I.turned (t':=s.toks) (λb o m e=>W b o m e) A f1 B D F⟩
 self:=λ_ _ _ _ _ st h=>wpAny_pyIter_listiter st h
theorem W0 {P:Ah}{K:kY}(a g:Ad):Turn P w K T (G9 K a) [g] g (λi h=>h.IsTupleIter g a i) where
 mem:=by simp
 obj:=λi h st b m=>by
  have e:b=g:=by simpa using m
  subst e;obtain⟨o,e,c,d⟩:=st;exact⟨o,e,λv z=>by rw[d] at z;cases z⟩
 keep:=λi h t st k=>st.at λo e=>k g (by simp) o e
 item:=by
  intro X M hw L R i f s S H E I y st N;subst M hw L;obtain⟨C,x,A,O⟩:=N;obtain⟨n,Q,p,j⟩:=I.tuple A;obtain⟨u,Y,l⟩:=Q.get O;obtain⟨B,f1,f2,D,F,G⟩:=y g (by simp);refine wpAny_pyNext_tuple_item st (show s.heap.IsTuple a n.toArray from p) (x:=u) (by simpa using Y) λt q r=>?_
  have V:Inv X f S H { s with heap:=t }:=I.turned (t':=s.toks) (λb o m e=>(r.2 b m).trans e) B f1 D F G;obtain⟨o,e,c,d⟩:=id q;exact⟨u,rfl,Fa (s:={ s with heap:=t }) e c d (by decide) ⟨x,H,V,l,⟨rfl,λU Z=>by rw[I.tuple_inj Z A];exact O⟩,q,λb m=>(y b m).1⟩⟩
 done:=by
  intro X M hw L R i f s S H E I y st N;subst M hw L;obtain⟨C,A,O⟩:=N;obtain⟨n,Q,p,j⟩:=I.tuple A;obtain⟨B,f1,f2,D,F,G⟩:=y g (by simp);have J:=Q.length;exact wpAny_pyNext_tuple_end (I.ok.hd R) st (show s.heap.IsTuple a n.toArray from p) (by simp;omega) λt W=>⟨rfl,I.turned (t':=s.toks) (λb o m e=>W b o m e) B f1 D F G⟩
 self:=λ_ _ _ _ _ st h=>wpAny_pyIter_tupleiter st h
theorem Y1 {P:Ah}{K:kY}(g:Ad) (lo:Int) (n:Nat):Turn P w K j (rN lo n) [g] g (λi h=>IsRangeIter h g (lo+(i:Nat)*1) ((n:Int)-(i:Nat)) 1) where
 mem:=by simp
 obj:=λi h st b c=>by
  have e:b=g:=by simpa using c
  subst e;exact⟨_,st,λv z=>by
   have R:Data.fields _=Data.cell v:=z;cases R⟩
 keep:=λi h f st k=>k g (by simp) _ st
 item:=by
  intro X B hw A D i a s L H E I m st F;subst B hw A;obtain⟨q,f1,f2,u,x,y⟩:=m g (by simp);have W:=Walks.range (prog:=X.prog) (w:=X.w) (I.ok.hd D) g lo 1 n;refine W.item i s _ _ F st λv f G O d Q=>?_
  obtain⟨t,rfl⟩:=O;have M:Inv X a L H { s with heap:=f,toks:=G }:=I.turned (λb o c e=>Q b o (by simpa using c) e) q f1 u x y;refine⟨_,rfl,Fa (s:={ s with heap:=f,toks:=G }) (n := "range_iterator") d rfl rfl (by decide) ⟨.int (lo+i),H,M,⟨t,?_⟩,⟨rfl,rfl⟩,d,λb c=>(m b c).1⟩⟩;rw[Int.mul_one]
 done:=by
  intro X B hw A D i a s L H E I m st F;subst B hw A;obtain⟨q,f1,f2,u,x,y⟩:=m g (by simp);exact wpAny_pyNext_range_end (I.ok.hd D) st (by have:n<=i:=F;omega) λf N=>⟨rfl,I.turned (t':=s.toks) (λb o c e=>N b o c e) q f1 u x y⟩
 self:=λ_ _ _ _ _ st h=>wpAny_pyIter_rangeiter st h
section
variable {X:Cx}
def FI (K:kY) (g:TE):TI:=λd H R=>g d H λx b=>∃ a,x = .ref a/\(∃ c,eT K b a c)/\R (yJ K a) b
theorem Wk (g:PE X l j):PI X r l (FI X.K j):=by
 intro c s y H R I h;refine hO (g c s y H _ I h) λv f i=>?_
 obtain⟨x,k,d,w,u⟩:=i;obtain⟨a,e,⟨B,n⟩,q⟩:=u;subst e;cases w;obtain⟨t,A,p,z⟩:=d.list n;refine eF p.isList ?_;refine⟨f.heap.objs.size,[f.heap.objs.size],_,_,k,rfl,d.kept (t':=f.toks) λb o e=>aI _ e,Ka a _,⟨_,aX _ rfl,rfl,rfl⟩,λb m=>?_,q⟩;have e:b=f.heap.objs.size:=by simpa using m
 subst e;exact d.fpOk (aJ _) (d.hok.fresh (aJ _))
theorem Qy {R:It->Hp->Prop}{lo:Int}(I:Inv X j p H s) (r:-(2 ^ 62)<=lo) (C:lo<2 ^ 62) (J:-(2 ^ 62)<=g) (T:g<2 ^ 62)
  (q:R (rN lo (g-lo).toNat) H):wpAny (model X.prog X.w) X.A (pyIter (.ref s.heap.objs.size)) (Oq X j p U R) E { s with heap:=s.heap.push { cls:=.type "range",data:=.fields #[.int lo t,.int g u,.int 1 v] },toks:=l }:=by
 refine wpAny_pyIter_range (IsRange.new ..) (small_one r C J T) ?_;have a:Inv X j p H { s with heap:=s.heap.push { cls:=.type "range",data:=.fields #[.int lo t,.int g u,.int 1 v] },toks:=l }:=I.kept λb o e=>aI _ e
 refine⟨(s.heap.push { cls:=.type "range",data:=.fields #[.int lo t,.int g u,.int 1 v] }).objs.size,[(s.heap.push { cls:=.type "range",data:=.fields #[.int lo t,.int g u,.int 1 v] }).objs.size],_,_,H,rfl,
  a.kept (t':=l) λb o e=>aI _ e,Y1 _ lo (g-lo).toNat,?_,λb f=>?_,q⟩
 .have c:lo+((0:Nat):Int)*1=lo:=by simp
  have d:(((g-lo).toNat:Nat):Int)-((0:Nat):Int)=Builtin.Range.rangeSize lo g 1:=by rw[rangeSize_one];split<;>omega
  show IsRangeIter _ _ (lo+((0:Nat):Int)*1) ((((g-lo).toNat:Nat):Int)-((0:Nat):Int)) 1;rw[c,d];exact aX _ rfl
 .have e:b=(s.heap.push { cls:=.type "range",data:=.fields #[.int lo t,.int g u,.int 1 v] }).objs.size:=by simpa using f
  subst e;exact a.fpOk (aJ _) (a.hok.fresh (aJ _))
def Yn (g:TA):TI:=λc H R=>g c H λb a=>∃ j:Int,b=[.int j]/\-(2 ^ 62)<=j/\j<2 ^ 62/\R (rN 0 j.toNat) a
def DK (g:TA):TI:=λc H R=>g c H λb a=>∃ i j:Int,b=[.int i,.int j]/\(-(2 ^ 62)<=i/\i<2 ^ 62/\-(2 ^ 62)<=j/\j<2 ^ 62)/\R (rN i (j-i).toNat) a
theorem xG (l:Gl X "range") (o:X.mg "range" = none) (g:PA X [a] J) (C:starEach [a] X.env=[(false,eval a X.env)]:=by rfl):PI X T (.Call (.Name "range" p) [a] [] pos) (Yn J):=by
 intro b s n H R I h;refine Call_ (tO I l o boot_range (bZ (hO (g pos b s n H _ I h) λw v c=>?_) C rfl));obtain⟨x,u,f,k,d⟩:=c;obtain⟨j,e,d,i,q⟩:=d;subst e;cases k with
 | cons r m =>
  cases m;obtain⟨t,rfl⟩:=r;exact call_range_1 (Qy f (by omega) (by omega) d i (by simpa using q))
theorem T3 (o:Gl X "range") (C:X.mg "range" = none) (l:PA X [a,b] T) (J:starEach [a,b] X.env=[(false,eval a X.env),(false,eval b X.env)]:=by rfl) (g:starEach [b] X.env=[(false,eval b X.env)]:=by rfl) :
  PI X U (.Call (.Name "range" p) [a,b] [] pos) (DK T):=by
 intro c s y H R I h;refine Call_ (tO I o C boot_range (bZ (hO (l pos c s y H _ I h) λD A d=>?_) (by rw[J,g]) (by rw[g];rfl)));obtain⟨E,z,m,x,f⟩:=d;obtain⟨i,j,e,⟨f,n,u,v⟩,q⟩:=f;subst e;cases x with
 | cons r k =>
  cases k with
  | cons w k =>
   cases k;obtain⟨t,rfl⟩:=r;obtain⟨B,rfl⟩:=w;exact call_range_2 (Qy m f n u v q)
def Za (l:TI) (g:TG) (j:TS):TS:=λD a H=>l a H λJ f=>∃ W:Nat->Nat->St->Hp->Prop,(∃ m,W 0 m a f)/\∀ i m a H,W i m a H ->
 (J.stop i H/\D.nx a H)\/(J.go i H/\∃ N:St->Hp->Prop,(∀ c b,N c b->∃ e,e<m/\W (i+1) e c b)/\∀ x b,J.yld i H x b->g x a b λd h=>j { D with nx:=N,ct:=N,bk:=D.nx } d h)
def Bo (g:Aa Ad) (h:Ag):Aa (Ad×Obj):=g.filterMap λb=>(h.get? b).map λo=>(b,o)
theorem Em (j:b∈g) (e:h.get? b=some o):(b,o)∈Bo g h:=kI.mpr ⟨b,j,by rw[e];rfl⟩
theorem Yg (j:p∈Bo g h):p.1∈g/\h.get? p.1=some p.2:=by
 obtain⟨b,c,e⟩:=kI.mp j;cases q:h.get? b with
 | none=>rw[q] at e;cases e
 | some o =>
  rw[q] at e;have a:(b,o)=p:=cA e;subst a;exact⟨c,q⟩
theorem Inv.pinned (I:Inv X g C H s) (l:∀ b∈j,rO X g H b) (r:∀ b∈j,∃ o,s.heap.get? b=some o/\∀ v,o.data ≠ .cell v):Inv X (g++Bo j s.heap) C H s :=
 I.pins_of λp h=>(aV.mp h).elim (λz=>I.pin p (aP _ z)) λz=>by
  obtain⟨c,e⟩:=Yg z;obtain⟨f,f1,f2,_⟩:=l p.1 c;obtain⟨o,a,d⟩:=r p.1 c;rw[e] at a;cases a;exact⟨e,f,f1,f2,d⟩
theorem Inv.unpinned (I:Inv X (g++l) j H s):Inv X g j H s:=I.pins_of λp a=>I.pin p (aP _ (aM _ a))
theorem Ap {iter:Expr}(l:PassesOwn (model X.prog X.w) X.A X.env X.xe) (hc:X.calm=true) (hi:PI X tg iter wi) (hg:PG X tg g) (j:oA X body tb)
  (hs:∀ x,foldedSetIterable iter X.env x=pure x:=by intro _;rfl):PS X (.For tg iter body [] pos) (Za wi g tb):=by
 intro a s σ H D I h;refine wpAny_For (hO (hi a s σ H _ I h) λv s1 h1=>hO h1 λaa s2 h2=>?_) hs;obtain⟨it,K,tn,J,H2,e,I2,T,Z,f2,W,⟨m0,w0⟩,P⟩:=h2;subst e;have y:∀ {E:Hp},(∀ b∈K,E b=none)->∀ b∈K,rO X a E b:=λhn b j=>⟨hn b j,(f2 b j).2⟩
 refine codeAny_forLoop_any (λn s'=>∃ i z E,Inv X a z E s'/\tn i s'.heap/\(∀ b∈K,E b=none)/\W i n z E) ?_ m0 ⟨0,σ,H2,I2,Z,λb j=>(f2 b j).1,w0⟩;rintro n s3 ⟨i,B,Q,U,O,L,w3⟩;rcases P i n B Q w3 with⟨stop,qn⟩ | ⟨go,N,hN,step⟩
 .refine fX l (hO (T.done X rfl rfl rfl hc i a s3 B Q X.xe U (y L) O stop) λr s4 k=>?_);obtain⟨V,I4⟩:=k;subst V;exact jZ ⟨B,Q,I4,qn⟩
 .refine fX l (hO (T.item X rfl rfl rfl hc i a s3 B Q X.xe U (y L) O go) λr s4 k=>?_);obtain⟨u,V,h4⟩:=k;subst V;refine fX l (hO h4 λ_ s5 k=>?_);obtain⟨x,C,I5,r5,y5,G,S⟩:=k;have R:=I5.pinned (y S) (T.obj _ _ G);refine fX l (hO (hg _ s5 B C x u _ R r5 (step x C y5)) λ_ s6 k=>?_);obtain⟨p,H6,I6,q6⟩:=k;refine fX l (hO (j _ s6 p H6 _ I6 q6) λf Y F=>?_);have again:∀ {c:St} {q:Hp},Inv X (a++Bo K s5.heap) c q Y->N c q->∃ m,m<n/\∃ i z E,Inv X a z E Y/\tn i Y.heap/\(∀ b∈K,E b=none)/\W i m z E:=λ{c q} t M=>by
   obtain⟨m',hm,w7⟩:=hN c q M;refine⟨m',hm,i+1,c,q,t.unpinned,T.keep _ _ _ G λb j o e=>(t.pin (b,o) (aP _ (aP _ (Em j e)))).1,λb j=>?_,w7⟩;obtain⟨o,e,d⟩:=T.obj _ _ G b j;exact (t.pin (b,o) (aP _ (aP _ (Em j e)))).2.1
  cases f with
  | next=>obtain⟨c,q,t,M⟩:=F;exact again t M
  | cont=>obtain⟨c,q,t,M⟩:=F;exact again t M
  | brk=>obtain⟨c,q,t,F⟩:=F;exact⟨c,q,t.unpinned,F⟩
  | ret v=>obtain⟨x7,c,q,t,r7,F⟩:=F;exact⟨x7,c,q,t.unpinned,r7,F⟩
end
theorem E2 {lo:Int}{n:Nat}{g:TG}{J:TS}{D:Ends}{j:St}{H:Hp}(Pv:Nat->St->Hp->Prop) (T:Pv 0 j H)
  (U:∀ i j H,i<n->Pv i j H->g (.int (lo+i)) j H λr C=>J { D with nx:=Pv (i+1),ct:=Pv (i+1),bk:=D.nx } r C) (hd:∀ j H,Pv n j H->D.nx j H) :
  ∃ W:Nat->Nat->St->Hp->Prop,(∃ m,W 0 m j H)/\∀ i m j H,W i m j H ->
   ((rN lo n).stop i H/\D.nx j H)\/((rN lo n).go i H/\∃ N:St->Hp->Prop,(∀ o l,N o l->∃ I,I<m/\W (i+1) I o l)/\∀ x l,(rN lo n).yld i H x l->g x j l λr C=>J { D with nx:=N,ct:=N,bk:=D.nx } r C):=by
 refine⟨λi m j H=>m=n-i/\i<=n/\Pv i j H,⟨n,by simp,dN _,T⟩,?_⟩;rintro i m j H ⟨rfl,c,p⟩;by_cases a:i<n
 .refine .inr ⟨a,Pv (i+1),λo l b=>⟨n-(i+1),by omega,rfl,a,b⟩,λx l y=>?_⟩;obtain⟨e,y⟩:=y;subst e y;exact U i j _ a p
 .have e:i=n:=by omega
  subst e;exact .inl ⟨aJ _,hd j H p⟩
abbrev R2:=V->V->Hp->VK->Prop
def mC (X:Cx) (f:Ac->Ac->Sem Ac) (r:R2):Prop :=
 ∀ (a:Aa (Ad×Obj)) (s:Ae) (b:St) (H:Hp) (x y:V) (v u:Ac) (Q:VK),Inv X a b H s->lH x v->lH y u->r x y H Q ->
  wpAny (model X.prog X.w) X.A (f v u) (EP X a b Q) X.xe s
def J0 (X:Cx) (f:Ac->Sem Ac) (r:V->Hp->VK->Prop):Prop :=
 ∀ (a:Aa (Ad×Obj)) (s:Ae) (b:St) (H:Hp) (x:V) (v:Ac) (Q:VK),Inv X a b H s->lH x v->r x H Q ->
  wpAny (model X.prog X.w) X.A (f v) (EP X a b Q) X.xe s
def mK (X:Cx) (f:Ac) (r:Aa V->Hp->VK->Prop):Prop :=
 ∀ (a:Aa (Ad×Obj)) (s:Ae) (d:St) (H:Hp) (c:Aa V) (b:Aa Ac) (Q:VK),Inv X a d H s->kZ c b->r c H Q ->
  wpAny (model X.prog X.w) X.A (call f b) (EP X a d Q) X.xe s
def BB (X:Cx) (r:V->Hp->(Bool->Hp->Prop)->Prop):Prop :=
 ∀ (a:Aa (Ad×Obj)) (s:Ae) (b:St) (H:Hp) (x:V) (v:Ac) (Q:Bool->Hp->Prop),Inv X a b H s->lH x v->r x H Q ->
  wpAny (model X.prog X.w) X.A (truthy v) (TP X a b Q) X.xe s
def zT (r:R2) (g j:TE):TE:=λa H Q=>g a H λx b=>j a b λy c=>r x y c Q
def BA (r:V->Hp->VK->Prop) (g:TE):TE:=λb H Q=>g b H λx a=>r x a Q
def rI (C:Int->Int->Prop) (g:Int->Int->V):R2:=λx y H Q=>∃ i j,x = .int i/\y = .int j/\C i j/\Q (g i j) H
def rQ (g:Int->Int->V):R2:=λx y H Q=>∃ i j,x = .int i/\y = .int j/\Q (g i j) H
def rU (g:Int->V):V->Hp->VK->Prop:=λx H Q=>∃ i,x = .int i/\Q (g i) H
section
variable {X:Cx}
theorem F1 (J:PE X a ta) (T:PE X b tb){g:Aa (Ad×Obj)}{s:Ae}{l:St}{H:Hp}{R:V->V->Hp->Prop}(I:Inv X g l H s)
  (h:ta l H λx C=>tb l C λy j=>R x y j){Q:Ac->Ae->Prop}{f:Ac->Ac->Sem Ac}
  (U:∀ v u r x y j,Inv X g l j r->lH x v->lH y u->R x y j->wpAny (model X.prog X.w) X.A (f v u) Q X.xe r) :
  wpAny (model X.prog X.w) X.A (eval a X.env) (λv o=>wpAny (model X.prog X.w) X.A (eval b X.env) (λu p=>wpAny (model X.prog X.w) X.A (f v u) Q X.xe p) X.xe o) X.xe s:=by
 refine hO (J g s l H _ I h) λv q c=>?_
 obtain⟨x,C,d,m,i⟩:=c;refine hO (T g q l C _ d i) λu r c=>?_
 obtain⟨y,j,e,n,k⟩:=c;exact U v u r x y j e m n k
theorem lW (l:mC X (binaryOp op) r) (g:PE X a o) (j:PE X b p):PE X (.BinOp a op b pos) (zT r o p):=by
 intro c s m H Q I h;exact wpAny_BinOp (F1 g j I h λv u k x y d e f i q=>l c k m d x y v u Q e f i q)
theorem Yd (j:J0 X (unaryOp op) r) (g:PE X a l):PE X (.UnaryOp op a pos) (BA r l):=by
 intro b s c H Q I h;exact UnaryOp_ (hO (g b s c H _ I h) λv k ⟨x,d,e,i,f⟩=>j b k c d x v Q e i f)
theorem Eu {f:Ac->Ac->Sem Ac}{C:Int->Int->Prop}{g:Int->Int->Int}
  (rule:∀ (i j:Int) (t u:Tok) (s:Ae) (Q:Ac->Ae->Prop) (E:Ac->Ae->Prop),C i j->Q (.int (g i j) s.toks) { s with toks:=s.toks+1 }->wpAny (model X.prog X.w) X.A (f (.int i t) (.int j u)) Q E s) :
  mC X f (rI C λi j=>.int (g i j)):=by
 intro a s k H x y v u Q I c d h;obtain⟨i,j,rfl,rfl,b,q⟩:=h;obtain⟨t,rfl⟩:=c;obtain⟨e,rfl⟩:=d;exact rule i j t e s _ _ b ⟨.int (g i j),H,I.tok _,⟨_,rfl⟩,q⟩
theorem K8 {f:Ac->Ac->Sem Ac}{g:Int->Int->Int}
  (rule:∀ (i j:Int) (t u:Tok) (s:Ae) (Q:Ac->Ae->Prop) (E:Ac->Ae->Prop),Q (.int (g i j) s.toks) { s with toks:=s.toks+1 }->wpAny (model X.prog X.w) X.A (f (.int i t) (.int j u)) Q E s) :
  mC X f (rQ λi j=>.int (g i j)):=by
 intro a s e H x y v u Q I b c h;obtain⟨i,j,rfl,rfl,q⟩:=h;obtain⟨t,rfl⟩:=b;obtain⟨d,rfl⟩:=c;exact rule i j t d s _ _ ⟨.int (g i j),H,I.tok _,⟨_,rfl⟩,q⟩
theorem F3 {f:Ac->Ac->Sem Ac}{g:Int->Int->Bool}
  (rule:∀ (i j:Int) (t u:Tok) (s:Ae) (Q:Ac->Ae->Prop) (E:Ac->Ae->Prop),Q (.bool (g i j)) s->wpAny (model X.prog X.w) X.A (f (.int i t) (.int j u)) Q E s) :
  mC X f (rQ λi j=>.b (g i j)):=by
 intro a s k H x y v u Q I c d h;obtain⟨i,j,rfl,rfl,q⟩:=h;obtain⟨t,rfl⟩:=c;obtain⟨e,rfl⟩:=d;exact rule i j t e s _ _ ⟨.b (g i j),H,I,rfl,q⟩
def Yw (i j:Int):Prop:=0<j/\j<1073741824
def Bv (i j:Int):Prop:=(-(2 ^ 64)<i/\i<2 ^ 64)\/(-(2 ^ 64)<j/\j<2 ^ 64)
theorem Bv.ok (h:Bv i j):IntMulOk i j:=by
 rcases h with⟨a,b⟩ | ⟨a,b⟩
 .exact .of_left (intBits_le_64 a b)
 .exact .of_right (intBits_le_64 a b)
theorem vE:mC X (binaryOp .Add) (rQ λi j=>.int (i+j)):=K8 λ_ _ _ _ _ _ _ q=>add_int q
theorem sG:mC X (binaryOp .Sub) (rQ λi j=>.int (i-j)):=K8 λ_ _ _ _ _ _ _ q=>sub_int q
theorem vF:mC X (binaryOp .Mult) (rI Bv λi j=>.int (i*j)):=Eu λ_ _ _ _ _ _ _ a q=>mul_int q a.ok
theorem S1:mC X (binaryOp .FloorDiv) (rI Yw λi j=>.int (i/j)):=Eu λi j _ _ _ _ _ a q=>by
 have b:(0:Int)<j:=a.1;have c:j<1073741824:=a.2;exact floordiv_int (by omega) (by rw[Int.fdiv_eq_ediv_of_nonneg i (by omega)];exact q) (.inl (PyProof.noPylong_small (by omega)))
theorem qG:mC X (binaryOp .Mod) (rI (λ_ j=>0<j) λi j=>.int (i%j)):=Eu λi j _ _ _ _ _ a q=>by
 have b:(0:Int)<j:=a;exact mod_int' (by omega) (by rw[Int.fmod_eq_emod_of_nonneg i (by omega)];exact q)
theorem V2 {f:Ac->Sem Ac}{g:Int->Int}
  (rule:∀ (i:Int) (t:Tok) (s:Ae) (Q:Ac->Ae->Prop) (E:Ac->Ae->Prop),Q (.int (g i) s.toks) { s with toks:=s.toks+1 }->wpAny (model X.prog X.w) X.A (f (.int i t)) Q E s) :
  J0 X f (rU λi=>.int (g i)):=by
 intro a s c H x v Q I b h;obtain⟨i,rfl,q⟩:=h;obtain⟨t,rfl⟩:=b;exact rule i t s _ _ ⟨.int (g i),H,I.tok _,⟨_,rfl⟩,q⟩
theorem BI:J0 X (unaryOp .USub) (rU λi=>.int (-i)):=V2 λ_ _ _ _ _ q=>neg_int q
end
noncomputable def Fj:V->V->Bool
 | .e,.e=>true | .e,.int _=>true | .int _,.e=>true | .e,.b _=>true | .b _,.e=>true | .e,.str _=>true | .str _,.e=>true
 | .int _,.int _=>true | .b _,.b _=>true | .str _,.str _=>true | .byt _,.byt _=>true
 | .int _,.str _=>true | .str _,.int _=>true | .b _,.str _=>true | .str _,.b _=>true
 | _,_=>false
def Td:R2:=λx y H Q=>Fj x y=true/\Q (.b (decide (x=y))) H
def Ue:R2:=λx y H Q=>Fj x y=true/\Q (.b (!decide (x=y))) H
theorem Mv:decide (V.int i=V.int j)=(i == j):=by
 rw[iU];simp
theorem Nb:decide (V.b i=V.b j)=(i == j):=by
 rw[iU];simp
theorem Ri:decide (V.str i=V.str j)=(i == j):=by
 rw[iU];simp
theorem J8:decide (V.byt i=V.byt j)=(i.toList == j.toList):=by
 rw[iU];cases i;cases j;simp
section
variable {X:Cx}
theorem nE (I:Inv X g l H s) (q:Q (.b k) H) (e:k=j):EP X g l Q (.bool j) s:=by
 subst e;exact⟨.b k,H,I,rfl,q⟩
theorem C6:mC X (compareOp .Eq) Td:=by
 intro k s m H x y v u Q I f a h;obtain⟨d,q⟩:=h;cases x with
 | e =>
  cases f;cases y with
  | e=>cases a;exact PySem.EqNone.eq_none_none (nE I q (by simp))
  | b j=>cases a;exact PySem.EqNone.eq_none_bool (nE I q (by simp))
  | int j=>obtain⟨c,rfl⟩:=a;exact PySem.EqNone.eq_none_int (nE I q (by simp))
  | str j=>obtain⟨c,rfl⟩:=a;exact PySem.EqNone.eq_none_str (nE I q (by simp))
  | _=>exact absurd (show false=true from d) bA
 | b i =>
  cases f;cases y with
  | e=>cases a;exact PySem.EqNone.eq_bool_none (nE I q (by simp))
  | b j=>cases a;exact eq_bool (nE I q Nb)
  | str j=>obtain⟨c,rfl⟩:=a;exact PySem.EqMixed.eq_bool_str (nE I q (by simp))
  | _=>exact absurd (show false=true from d) bA
 | int i =>
  obtain⟨t,rfl⟩:=f;cases y with
  | e=>cases a;exact PySem.EqNone.eq_int_none (nE I q (by simp))
  | int j=>obtain⟨c,rfl⟩:=a;exact eq_int (nE I q Mv)
  | str j=>obtain⟨c,rfl⟩:=a;exact PySem.EqMixed.eq_int_str (nE I q (by simp))
  | _=>exact absurd (show false=true from d) bA
 | str i =>
  obtain⟨t,rfl⟩:=f;cases y with
  | e=>cases a;exact PySem.EqNone.eq_str_none (nE I q (by simp))
  | b j=>cases a;exact PySem.EqMixed.eq_str_bool (nE I q (by simp))
  | int j=>obtain⟨c,rfl⟩:=a;exact PySem.EqMixed.eq_str_int (nE I q (by simp))
  | str j=>obtain⟨c,rfl⟩:=a;exact eq_str (nE I q Ri)
  | _=>exact absurd (show false=true from d) bA
 | byt i =>
  obtain⟨t,rfl⟩:=f;cases y with
  | byt j=>obtain⟨c,rfl⟩:=a;exact PySem.W.eq_bytes (nE I q J8)
  | _=>exact absurd (show false=true from d) bA
 | _=>cases y<;>exact absurd (show false=true from d) bA
theorem Q9:mC X (compareOp .NotEq) Ue:=by
 intro k s m H x y v u Q I f a h;obtain⟨d,q⟩:=h;cases x with
 | e =>
  cases f;cases y with
  | e=>cases a;exact PySem.EqNone.ne_none_none (nE I q (by simp))
  | b j=>cases a;exact PySem.EqNone.ne_none_bool (nE I q (by simp))
  | int j=>obtain⟨c,rfl⟩:=a;exact PySem.EqNone.ne_none_int (nE I q (by simp))
  | str j=>obtain⟨c,rfl⟩:=a;exact PySem.EqNone.ne_none_str (nE I q (by simp))
  | _=>exact absurd (show false=true from d) bA
 | b i =>
  cases f;cases y with
  | e=>cases a;exact PySem.EqNone.ne_bool_none (nE I q (by simp))
  | b j=>cases a;exact ne_bool (nE I q (eA not Nb))
  | str j=>obtain⟨c,rfl⟩:=a;exact PySem.EqMixed.ne_bool_str (nE I q (by simp))
  | _=>exact absurd (show false=true from d) bA
 | int i =>
  obtain⟨t,rfl⟩:=f;cases y with
  | e=>cases a;exact PySem.EqNone.ne_int_none (nE I q (by simp))
  | int j=>obtain⟨c,rfl⟩:=a;exact ne_int (nE I q (eA not Mv))
  | str j=>obtain⟨c,rfl⟩:=a;exact PySem.EqMixed.ne_int_str (nE I q (by simp))
  | _=>exact absurd (show false=true from d) bA
 | str i =>
  obtain⟨t,rfl⟩:=f;cases y with
  | e=>cases a;exact PySem.EqNone.ne_str_none (nE I q (by simp))
  | b j=>cases a;exact PySem.EqMixed.ne_str_bool (nE I q (by simp))
  | int j=>obtain⟨c,rfl⟩:=a;exact PySem.EqMixed.ne_str_int (nE I q (by simp))
  | str j=>obtain⟨c,rfl⟩:=a;exact ne_str (nE I q (eA not Ri))
  | _=>exact absurd (show false=true from d) bA
 | byt i =>
  obtain⟨t,rfl⟩:=f;cases y with
  | byt j=>obtain⟨c,rfl⟩:=a;exact PySem.W.ne_bytes (nE I q (eA not J8))
  | _=>exact absurd (show false=true from d) bA
 | _=>cases y<;>exact absurd (show false=true from d) bA
theorem Jv:mC X (compareOp .Lt) (rQ λi j=>.b (decide (i<j))):=F3 λ_ _ _ _ _ _ _ q=>lt_int q
theorem Xx:mC X (compareOp .LtE) (rQ λi j=>.b (decide (i<=j))):=F3 λ_ _ _ _ _ _ _ q=>le_int q
theorem Cn:mC X (compareOp .Gt) (rQ λi j=>.b (decide (j<i))):=F3 λ_ _ _ _ _ _ _ q=>gt_int q
theorem mC.or (h:mC X f r) (g:mC X f j):mC X f (λx y H Q=>r x y H Q\/j x y H Q):=by
 intro a s d H x y v u Q I b c q;rcases q with q | q
 .exact h a s d H x y v u Q I b c q
 .exact g a s d H x y v u Q I b c q
theorem uU (b:Expr) (h:op ≠ .In:=by decide) (g:op ≠ .NotIn:=by decide):behindInMarks op b=false:=by
 have a:(op == CmpOp.In)=false:=by cases op<;>first | rfl | exact absurd rfl h
 have c:(op == CmpOp.NotIn)=false:=by cases op<;>first | rfl | exact absurd rfl g
 cases b<;>simp[behindInMarks,a,c]
theorem O5 (o:mC X (compareOp op) r) (g:PE X a p) (j:PE X b C) (l:behindInMarks op b=false):PE X (.Compare a [op] [b] pos) (zT r p C):=by
 intro c s m H Q I h;exact wpAny_Compare1 (F1 g j I h λv u k x y d e f i q=>o c k m d x y v u Q e f i q) l
def Z7 (t:TE):TT:=λc H Q=>t c H λx a=>∃ k,x = .b k/\Q k a
theorem vJ (o:mC X (compareOp op) r) (g:PE X a p) (j:PE X b C) (l:behindInMarks op b=false):PT X (.Compare a [op] [b] pos) (Z7 (zT r p C)):=by
 intro d s f H Q I h;refine wpAny_isTrue_Compare1 (hO (g d s f H _ I h) λv K ⟨x,i,q,E,A⟩=>hO (j d K f i _ q A) λu L ⟨y,m,t,F,B⟩ =>hO (o d L f m x y v u _ t E F B) λc M ⟨z,n,w,G,k,e,D⟩=>?_) l;subst e;cases G;exact iC ⟨n,w,D⟩
def G3 (K:kY) (x:V) (H:Hp) (k:Bool):Prop :=
 match x with
 | .e=>k=false
 | .b b=>k=b
 | .int i=>k=(i != 0)
 | .str y=>y.length<=sizeLine/\k=((y.length:Int) != 0)
 | .byt y=>y.size<=sizeLine/\k=((y.size:Int) != 0)
 | .ref p=>(∃ c,eT K H p c/\k = !c.isEmpty)\/(∃ c,mA K H p c/\k = !c.isEmpty)\/∃ a,H p=some (.k a)/\k = !a.isEmpty
 | _=>False
theorem AU (r:KV g j):(!j.isEmpty) = !g.isEmpty:=by
 cases r<;>rfl
theorem Nj (r:kZ j g):(!g.toArray.isEmpty) = !j.isEmpty:=by
 cases r<;>simp
theorem wV:(sizeLine:Nat)<2 ^ 63:=by rw[sizeLine_eq];decide
theorem FD:BB X (λx H Q=>∃ k,G3 X.K x H k/\Q k H):=by
 intro E s N H x v Q I n h;obtain⟨k,e,q⟩:=h;have L:=wV;have M:sizeLine=16777216:=sizeLine_eq;cases x with
 | e =>
  cases n;have a:k=false:=e;subst a;exact truthy_none ⟨H,I,q⟩
 | b b =>
  cases n;have a:k=b:=e;subst a;exact iC ⟨H,I,q⟩
 | int i =>
  obtain⟨t,rfl⟩:=n;have a:k=(i != 0):=e;subst a;exact PySem.P.truthy_int ⟨H,I,q⟩
 | str y =>
  obtain⟨t,rfl⟩:=n;obtain⟨G,a⟩:y.length<=sizeLine/\k=((y.length:Int) != 0):=e;subst a;exact PySem.P.truthy_str (by omega) ⟨H,I.tok _,q⟩
 | byt y =>
  obtain⟨t,rfl⟩:=n;obtain⟨G,a⟩:y.size<=sizeLine/\k=((y.size:Int) != 0):=e;subst a;exact PySem.W.truthy_bytes (by omega) ⟨H,I.tok _,q⟩
 | ref p =>
  cases n;have a:(∃ f,eT X.K H p f/\k = !f.isEmpty)\/(∃ f,mA X.K H p f/\k = !f.isEmpty)\/∃ c,H p=some (.k c)/\k = !c.isEmpty:=e;rcases a with⟨f,u,a⟩ | ⟨f,u,a⟩ | ⟨c,u,a⟩
  .subst a;obtain⟨A,r,B,D⟩:=I.list u;have d:=r.length;exact wpAny_truthy_list B.isList (by simp only[aN];omega) ⟨H,I.tok _,by rw[Nj r];exact q⟩
  .subst a;obtain⟨A,r,B,D⟩:=I.tuple u;have d:=r.length;exact truthy_tuple B (by simp only[aN];omega) ⟨H,I.tok _,by rw[Nj r];exact q⟩
  .subst a;obtain⟨D,F,z,r,m⟩:c.length<=sizeLine/\(p == sysModules)=false/\∃ z,KV c z/\s.heap.DictOf (oY X.prog X.w) p z:=I.hok p _ u;have d:c.length=z.length:=kQ r;exact wpAny_truthy_dict F m (by omega) ⟨H,I.tok _,by rw[AU r];exact q⟩
 | _=>exact (show False from e).elim
theorem Lk (l:PE X a p) (o:∀ whole,isTrue a X.env whole=(do let v <- whole;standAt a.pos;holding [v] (truthy v))) :
  PT X a (λg H Q=>p g H λx j=>∃ k,G3 X.K x j k/\Q k j):=by
 intro b s g H Q I h;exact isTrue_plain (hO (l b s g H _ I h) λv i ⟨x,c,d,f,e⟩=>FD b i g c x v Q d f e) (o _)
theorem uY:mC X (binaryOp .Add) (λx y H Q=>∃ i j,x = .str i/\y = .str j/\i.length+j.length<=sizeLine/\Q (.str (i++j)) H):=by
 intro a s k H x y v u Q I c d h;obtain⟨i,j,rfl,rfl,b,q⟩:=h;obtain⟨t,rfl⟩:=c;obtain⟨e,rfl⟩:=d;exact add_str (λe f=>⟨.str (i++j),H,I.tok _,⟨_,rfl⟩,q⟩) b
theorem oM (r:kZ [x] g):∃ u,g=[u]/\lH x u:=by
 cases r with
 | cons a b=>cases b;exact⟨_,rfl,a⟩
theorem Ew (r:kZ [x,y] j):∃ u g,j=[u,g]/\lH x u/\lH y g:=by
 cases r with
 | cons a b =>
  cases b with
  | cons c d=>cases d;exact⟨_,_,rfl,a,c⟩
theorem GB (l:X.calm=true):mK X (.builtin "max") (λg H Q=>∃ i j,g=[.int i,.int j]/\Q (.int (if j>i then j else i)) H):=by
 intro b s n H g f Q I r h;obtain⟨i,j,rfl,q⟩:=h;obtain⟨u,m,rfl,⟨t,rfl⟩,⟨d,rfl⟩⟩:=Ew r;refine max_two_ints (I.ok.hd l) λc e k=>⟨_,H,I.kept k,?_,q⟩
 by_cases a:j>i
 .rw[bE a,bE a];exact⟨_,rfl⟩
 .rw[bG a,bG a];exact⟨_,rfl⟩
theorem K0 (l:X.calm=true):mK X (.builtin "min") (λg H Q=>∃ i j,g=[.int i,.int j]/\Q (.int (if j<i then j else i)) H):=by
 intro b s n H g f Q I r h;obtain⟨i,j,rfl,q⟩:=h;obtain⟨u,m,rfl,⟨t,rfl⟩,⟨d,rfl⟩⟩:=Ew r;refine min_two_ints (I.ok.hd l) λc e k=>⟨_,H,I.kept k,?_,q⟩
 by_cases a:j<i
 .rw[bE a,bE a];exact⟨_,rfl⟩
 .rw[bG a,bG a];exact⟨_,rfl⟩
theorem Tl:mK X (.type "int") (λg H Q=>(∃ i,g=[.int i]/\Q (.int i) H)\/∃ k,g=[.b k]/\Q (.int (if k then 1 else 0)) H):=by
 intro a s e H g d Q I r h;rcases h with⟨i,rfl,q⟩ | ⟨k,rfl,q⟩
 .obtain⟨u,rfl,t,rfl⟩:=oM r;exact call_int_int ⟨.int i,H,I,⟨_,rfl⟩,q⟩
 .obtain⟨u,rfl,c⟩:=oM r;cases c;exact call_int_bool ⟨.int (if k then 1 else 0),H,I.tok _,⟨_,rfl⟩,q⟩
end
theorem sH.some_of (r:sH (some v) o):∃ u,o=some u/\lH v u:=by
 cases o with
 | none=>exact (show False from r).elim
 | some u=>exact⟨u,rfl,r⟩
structure Room (k:Nat) (A:Around):Prop where
 hd:A.handled=none
 dp:A.depth+3*k+5<recursionLimit
 un:A.units+16*k+200<cLine
theorem Room.mono (r:Room k A) (h:j<=k):Room j A:=⟨r.hd,by have:=r.dp;omega,by have:=r.un;omega⟩
theorem Room.deeper (r:Room (k+1) A) (g:Env):Room k (A.deeper g) :=
 ⟨r.hd,by have:=r.dp;show A.depth+1+3*k+5<_;omega,by have:=r.un;show A.units+3+16*k+200<_;omega⟩
theorem Room.depth (r:Room k A):A.depth<recursionLimit:=by have:=r.dp;omega
theorem Room.units (r:Room k A):A.units+64<cLine:=by have:=r.un;omega
def uN:TA:=λ_ H Q=>Q [] H
def uF (g:TE) (j:TA):TA:=λa H Q=>g a H λx b=>j a b λd c=>Q (x::d) c
section
variable {X:Cx}
theorem lI:PA X [] uN:=λ_ _ _ _ H Q I h=>jF ⟨[],H,I,.nil,h⟩
theorem uL (j:PE X e p) (l:PA X g t) (o:starEach (e::g) X.env=(false,eval e X.env)::starEach g X.env:=by rfl):PA X (e::g) (uF p t):=by
 intro pos a s c H Q I h;rw[o];show wpAny _ _ (spliced ((false,eval e X.env)::backTo pos (starEach g X.env))) _ _ s;refine gX (hO (j a s c H _ I h) λu w b=>?_);obtain⟨x,d,i,q,m⟩:=b;exact hO (l pos a w c d _ i m) λA z ⟨y,f,k,v,n⟩=>⟨x::y,f,k,.cons q v,n⟩
def EQ (t:TA):TE:=λc H Q=>t c H λb a=>b.length<=sizeLine/\∀ p,a p=none->Q (.ref p) (upd a p (.t b))
def Qp (t:TA):TE:=λc H Q=>t c H λb a=>b.length<=sizeLine/\∀ p,a p=none->Q (.ref p) (upd a p (.l b))
theorem Bc {j}(h:PA X g t):PE X (.Tuple g j pos) (EQ t):=by
 intro a s v H Q I k;refine wpAny_Tuple_spliced (hO (h pos a s v H _ I k) λm c ⟨n,d,f,r,z,q⟩=>⟨by rw[<- r.length];exact z,?_⟩);have i:d c.heap.objs.size=none:=f.hok.fresh (aJ _);refine⟨.ref c.heap.objs.size,upd d c.heap.objs.size (.t n),f.laid (t':=c.toks) (λb u e=>aI _ e) (aJ _) ?_,rfl,q _ i⟩;exact⟨z,m,r,⟨_,aX _ rfl,rfl,_,rfl⟩,_,aX _ rfl,rfl⟩
theorem oR (h:PA X g t):PE X (.List g pos) (Qp t):=by
 intro a s v H Q I k;refine wpAny_List_spliced (hO (h pos a s v H _ I k) λm c ⟨n,d,f,r,z,q⟩=>⟨by rw[<- r.length];exact z,?_⟩);have i:d c.heap.objs.size=none:=f.hok.fresh (aJ _);refine⟨.ref c.heap.objs.size,upd d c.heap.objs.size (.l n),f.laid (t':=c.toks) (λb u e=>aI _ e) (aJ _) ?_,rfl,q _ i⟩;exact⟨z,m,0,r,aX _ rfl⟩
end
abbrev Sp:=Aa V->Hp->VK->XK->Prop
abbrev yS:=Aa Env->Hp->Ae->XK->Ac->Ae->Prop
structure Env0 (P:Program) (w:World) (K:kY) (mg:Str->Option Value) (base:Heap) (A:Around) (outer:List Env) (s:Shared) (H:Hp):Prop where
 frames:A.frames=some outer
 mod:Mod K mg base
 bs:∀ b o,base.get? b=some o->s.heap.get? b=some o/\H b=none
 bsz:base.objs.size<=s.heap.objs.size
 funs:s.heap.FunFrames base outer
 frf:∀ b∈sR outer,H b=none
 hok:nD P w H s.heap
 bare:AllBare s.gens
def CE (g:Aa Env) (P:Ah) (w:World) (H:Hp) (s:Ae) (Q:VK) (u:Ac) (j:Ae):Prop :=
 ∃ v a,j.os=s.os/\AllBare j.gens/\Un (sR g) [] H a s.heap j.heap/\nD P w a j.heap/\lH v u/\Q v a
def CR (l:yS) (g:Aa Env) (P:Ah) (w:World) (H:Hp) (s:Ae) (Q:VK) (E:XK) (r:Result) (j:Ae):Prop :=
 match r with
 | .ok (.ret u)=>CE g P w H s Q u j
 | .ok _=>False
 | .error e=>l g H s E e j
structure FnOk (P:Program) (w:World) (K:kY) (mg:Str->Option Value) (base:Heap) (CX:yS) (k:Nat) (f:Addr) (fd:FuncData) (ps:List Str) (sp:Sp):Prop where
 len:∀ vs H Q E,sp vs H Q E->vs.length=ps.length
 run:∀ (A:Around) (outer:List Env) (s:Shared) (H:Hp) (args:Args) (us:List Value) (vs:List V) (Q:VK) (E:XK),Room k A->Env0 P w K mg base A outer s H->BindsTo s fd args (ps.zip us)->kZ vs us->sp vs H Q E ->
  codeAny (model P w) A (.call (.ref f) args) (CR CX outer P w H s Q E) s
theorem FnOk.imp {P:Ah}{K:kY}(F:FnOk P w K o base l k f fd p r)
  (h:∀ g H Q E,j g H Q E->r g H Q E):FnOk P w K o base l k f fd p j :=
 ⟨λg H Q E q=>F.len g H Q E (h _ _ _ _ q),λA a s H args m g Q E d c b i e=>F.run A a s H args m g Q E d c b i (h _ _ _ _ e)⟩
section
variable {X:Cx}
theorem Inv.env0 (I:Inv X g j H s):Env0 X.prog X.w X.K X.mg X.base X.A X.stack s H :=
 ⟨I.ok.frames,I.ok.mod,I.bs,bV I.ok.bsz I.sz,I.stack,I.stkFree,I.hok,I.bare⟩
theorem Inv.after (I:Inv X j o H s) (h:CE X.stack X.prog X.w H s Q u l):EP X j o Q u l:=by
 obtain⟨v,e,os,bare,un,a,r,q⟩:=h;obtain⟨f,g,d,t,c⟩:=l;obtain rfl:c=s.os:=os;exact⟨v,e,I.call (h':=f) (g':=g) (d':=d) (t':=t) (ch:=[]) un a bare (λb z=>absurd z (by simp)),r,q⟩
end
def L4 (j:Sp) (g:Aa V) (E:XK) (t:TA):TE:=λc H Q=>t c H λb a=>j (b++g) a Q E
def vC (K:kY) (fd:FuncData) (j:Aa Af) (g:Aa Ac):Prop :=
 ∀ (s:Ae) (a:Aa Ac),K.In s.heap->(a++g).length=j.length->BindsTo s fd ⟨a,[]⟩ (j.zip (a++g))
theorem vC.all {K:kY}(h:∀ g:Aa Ac,g.length=j.length->bindArgs fd ⟨g,[]⟩=pure (j.zip g)):vC K fd j []:=λs g _ a=>by
 rw[fJ] at a |-;exact .of_eq (h g a)
def Cu (g:yS) (X:Cx) (E:XK):Prop:=∀ (a:Aa (Ad×Obj)) (c:St) (H:Hp) (s:Ae) (e:Ac) (b:Ae),Inv X a c H s->g X.stack H s E e b->X.xe e b
section
variable {X:Cx}
theorem Rb (F:FnOk X.prog X.w X.K X.mg X.base J k f fd p sp) (U:Room k X.A) (T:vC X.K fd p l) (hd:kZ j l) (hx:Cu J X E)
  (I:Inv X g C H s) (r:kZ o us) (h:sp (o++j) H Q E):wpAny (model X.prog X.w) X.A (call (.ref f) us) (EP X g C Q) X.xe s:=by
 have b:kZ (o++j) (us++l):=r.append hd;have d:(us++l).length=p.length:=by rw[<- b.length];exact F.len _ _ _ _ h
 refine wpAny_call (codeAny_mono (F.run X.A X.stack s H ⟨us,[]⟩ (us++l) (o++j) Q E U I.env0 (T s us I.kIn d) b h) λr i a=>?_);cases r with
 | error e=>exact hx g C H s e i I a
 | ok c =>
  cases c with
  | ret u=>exact I.after a
  | next=>exact False.elim a
  | brk=>exact False.elim a
  | cont=>exact False.elim a
structure StB (X:Cx) (e:Expr) (es:List Expr) (pos:Pos):Prop where
 a:starEach (e::es) X.env=(false,eval e X.env)::starEach es X.env:=by rfl
 b:(backTo pos (starEach es X.env)).any (·.1)=false:=by rfl
theorem qO (F:FnOk X.prog X.w X.K X.mg X.base C k f fd ps sp) (hr:Room k X.A) (hg:Gl X x) (hm:X.mg x=some (.ref f)) (hk:PySem.W.keepIn X.K (.ref f)=true) (U:vC X.K fd ps J) (hd:kZ j J) (hx:Cu C X E)
  (T:PA X (e::o) t) (l:(x == ("__debug__" : Af))=false:=by decide) (g:StB X e o pos:=by exact {}) :
  PE X (.Call (.Name x p) (e::o) [] pos) (L4 sp j E t):=by
 intro c s i H Q I h;refine dO (Ph I hg hm ?_ l);refine PySem.W.callWith_K (h₀:=X.base) I.ok.mod.kin hk (hO (T pos c s i H _ I h) λu n ⟨v,m,d,r,q⟩=>⟨d.kIn,?_⟩) g.a g.b;exact Rb F hr U hd hx d r q
theorem Lf (F:FnOk X.prog X.w X.K X.mg X.base l k f fd ps sp) (U:Room k X.A) (C:Gl X x) (T:X.mg x=some (.ref f)) (J:PySem.W.keepIn X.K (.ref f)=true) (r:vC X.K fd ps o) (hd:kZ g o) (hx:Cu l X E)
  (j:(x == ("__debug__" : Af))=false:=by decide):PE X (.Call (.Name x p) [] [] pos) (L4 sp g E uN):=by
 intro a s b H Q I h;refine dO (Ph I C T ?_ j);exact PySem.W.callWith_K0 I.kIn J (Rb (us:=[]) F U r hd hx I .nil h)
end
def PK (X:Cx) (g:Aa Keyword) (t:TA):Prop :=
 ∀ (pos:Pos) (a:Aa (Ad×Obj)) (s:Ae) (b:St) (H:Hp) (Q:Aa V->Hp->Prop),Inv X a b H s->t b H Q->wpAny (model X.prog X.w) X.A (evalAll ((backToKw pos (keywordEach g X.env)).map (·.2))) (AP X a b Q) X.xe s
section
variable {X:Cx}
theorem Yf:PK X [] uN:=λ_ _ _ _ H Q I h=>wpAny_evalAll_nil ⟨[],H,I,.nil,h⟩
theorem Xv (l:PE X e p) (o:PK X g t):PK X (⟨r,e,j⟩::g) (uF p t):=by
 intro pos a s b H Q I h;show wpAny _ _ (evalAll ((do let v <- eval e X.env;standAt pos;pure v)::(backToKw pos (keywordEach g X.env)).map (·.2))) _ _ s;refine wpAny_evalAll_cons (aA (hO (l a s b H _ I h) λu w ⟨x,c,f,n,k⟩=>aA (jW (aH ?_))));exact hO (o pos a w b c _ f k) λA z ⟨y,d,i,q,m⟩=>⟨x::y,d,i,.cons n q,m⟩
end
structure FnScope (N P:List Str) (sc:Scope):Prop where
 kind:sc.kind = .function
 co:sc.isCoroutine=false
 gen:sc.isGenerator=false
 nd:N.Nodup
 pre:N.take P.length=P
 par:∀ x∈P,sc.names.lookup x=some .local\/sc.names.lookup x=some .cell
 nofree:∀ y∈sc.names,y.2 ≠ .free
theorem K3 {kindOf:Af->Ab NameKind}:∀ {binds:Aa (Af×Ac)}{m:Af->Ab Ac},(∀ v,(x,v)∉binds)->bindL kindOf binds m x=m x
 | [],_,_=>rfl
 | (n,v)::r,m,h=>by
  unfold bindL;rw[K3 λw hw=>h w (aK _ hw)];split
  .have:x≠n:=by rintro rfl;exact h v aE
   simp[this]
  .rfl
theorem Ki {kindOf:Af->Ab NameKind}:∀ {binds:Aa (Af×Ac)}{m:Af->Ab Ac},(∀ v,(x,v)∉binds)->bindC kindOf binds m x=m x
 | [],_,_=>rfl
 | (n,v)::r,m,h=>by
  unfold bindC;rw[Ki λw hw=>h w (aK _ hw)];split
  .rfl
  .have:x≠n:=by rintro rfl;exact h v aE
   simp[this]
theorem Nv {kindOf:Af->Ab NameKind}:∀ {P:Aa Af}{g:Aa Ac}{i:Nat}{m:Af->Ab Ac},P.Nodup->P[i]?=some x->g[i]?=some v->kindOf x=some .local ->
  bindL kindOf (P.zip g) m x=some v
 | [],_,_,_,_,h,_,_=>by simp at h
 | _::_,[],_,_,_,_,h,_=>by simp at h
 | p::P,w::g,0,m,d,a,b,c=>by
  simp at a b;subst a;subst b;show bindL kindOf ((p,w)::P.zip g) m p=_;unfold bindL;rw[K3 λv e=>(bW.mp d).1 (kX e).1,bE c];simp
 | p::P,w::g,i+1,m,d,a,b,c=>by
  show bindL kindOf ((p,w)::P.zip g) m x=_;unfold bindL;exact Nv (i:=i) (bW.mp d).2 (by simpa using a) (by simpa using b) c
theorem P5 {kindOf:Af->Ab NameKind}:∀ {P:Aa Af}{g:Aa Ac}{i:Nat}{m:Af->Ab Ac},P.Nodup->P[i]?=some x->g[i]?=some v->kindOf x≠some .local ->
  bindC kindOf (P.zip g) m x=some v
 | [],_,_,_,_,h,_,_=>by simp at h
 | _::_,[],_,_,_,_,h,_=>by simp at h
 | p::P,w::g,0,m,d,a,b,c=>by
  simp at a b;subst a;subst b;show bindC kindOf ((p,w)::P.zip g) m p=_;unfold bindC;rw[Ki λv e=>(bW.mp d).1 (kX e).1,bG c];simp
 | p::P,w::g,i+1,m,d,a,b,c=>by
  show bindC kindOf ((p,w)::P.zip g) m x=_;unfold bindC;exact P5 (i:=i) (bW.mp d).2 (by simpa using a) (by simpa using b) c
def sV (N:Aa Af) (g:Aa V):St:=g.map some++List.replicate (N.length-g.length) none
noncomputable def vO (o:yS) (P:Ah) (w:World) (K:kY) (p:Af->Ab Ac) (base:Ag) (N:Aa Af) (l:Af) (g:Scope) (f:Ad) (cd:Ac) (A:Around) (j:Aa Env) (s:Ae) (H:Hp) (E:XK):Cx where
 prog:=P
 w:=w
 K:=K
 mg:=p
 base:=base
 A:=A.deeper (envOfC l g s.heap.objs.size f cd)
 N:=N
 s₀:=s
 H₀:=H
 env:=envOfC l g s.heap.objs.size f cd
 outer:=j
 stack:=envOfC l g s.heap.objs.size f cd::j
 ex:=[]
 calm:=true
 fn:=λ_=>true
 pn:=[]
 xe:=λe c=>wpAny (model P w) (A.deeper (envOfC l g s.heap.objs.size f cd)) (leaving (envOfC l g s.heap.objs.size f cd) e) (λ_ a=>o j H s E e a) (λb a=>o j H s E b a) c
theorem N1 {g:Scope}{n:Nat}{x:Af}(h:g.names.lookup x=some .cell):∃ c,(cellsFrom n g.names []).lookup x=some c:=by
 have q:=PySem.W.cellsFrom_some g.names n [] (.inl h);exact dF.mp q
theorem HD {P:Ah}{K:kY}{cd:Ac}
  (S:FnScope N C g) (hd:A.handled=none) (o:Env0 P w K J base A j s H) (hl:I.length=C.length) (r:kZ I T)
  (x:InCallC s s.heap.objs.size (bindL (envOfC l g s.heap.objs.size f cd).kindOf (C.zip T) λ_=>none) (cellsFrom (s.heap.objs.size+1) g.names []) (bindC (envOfC l g s.heap.objs.size f cd).kindOf (C.zip T) λ_=>none) s1) :
  Inv (vO U P w K J base N l g f cd A j s H E) [] (sV N I) H s1:=by
 have Q:C.length<=N.length:=by have:=eA List.length S.pre;rw[bT] at this;omega
 obtain⟨F,W,rfl,L⟩:=x.done;have t:∀ b:Ad,b∉(vO U P w K J base N l g f cd A j s H E).ex:=λb z=>absurd (show b∈([]:Aa Ad) from z) (by simp)
 refine⟨⟨o.mod,S.kind,rfl,rfl,aJ _,λy z c F d=>?_,λy m=>?_,λy c _ h=>?_,λ_=>hd,Around.frames_deeper o.frames,.inr ⟨rfl,rfl⟩,λb z=>absurd z (t b),o.bs,o.bsz,λb _ _=>t b,λb z=>absurd z (t b),o.funs,o.frf⟩,
  rfl,o.bare,Un.kept L,⟨_,x.toInCall.ns,λi y v F d V=>?_⟩,λy c h=>⟨_,x.cell y c h⟩,o.hok.fresh (aJ _),λy c h=>?_,λp B=>absurd (show p∈([]:Aa (Ad×Obj)) from B) (by simp),o.hok.kept L,?_⟩
 .exact name_of_addr x.apart (dJ F) (dJ d)
 .have m:g.names.lookup y=some .cell\/g.names.lookup y=some .free:=m;rcases m with m | m
  .exact N1 m
  .exact absurd rfl (S.nofree _ (dJ m))
 .exact fE (x.above y c (dJ h))
 .have G:i<I.length:=by
   unfold sV at d;by_cases G:i<I.length
   .exact G
   .rw[cS (by simpa using G)] at d;rw[List.getElem?_replicate] at d;split at d<;>cases d
  have O:I[i]?=some v:=by
   unfold sV at d;rw[eY (by simpa using G),bK] at d;cases e:I[i]? with
   | none=>rw[e] at d;cases d
   | some a=>rw[e] at d;cases d;rfl
  obtain⟨u,M,R⟩:=r.get O;have B:C[i]?=some y:=by
   rw[<- S.pre,gC (by omega)];exact F
  have D:C.Nodup:=by rw[<- S.pre];exact S.nd.sublist (List.take_sublist _ _)
  refine⟨u,R,?_⟩;rcases S.par y (aR B) with k | k
  .exact .inl ⟨k,Nv D B M k⟩
  .obtain⟨c,e⟩:=N1 (n:=s.heap.objs.size+1) k;refine .inr ⟨.inl k,c,e,?_⟩;have q:=x.cell y c e;rw[P5 D B M (by show g.names.lookup y≠_;rw[k];decide)] at q;exact q
 .exact o.hok.fresh (fE (x.above y c (dJ h)))
 .unfold sV;show _=N.length;rw[bB,aB,eZ];omega
theorem Tf {P:Ah}{K:kY}{kV:Ac}
(lk:K.lookup f=some ⟨oc,od,.func (PySem.W.fnOf name l C body g dV kV ab pm an p ct),ae⟩) (ac:PySem.W.codeIn K p l=true) (S:FnScope N ps g)
  (len:∀ T H Q E,sp T H Q E->T.length=ps.length)
  (aa:∀ (A:Around) (j:Aa Env) (s:Ae) (H:Hp) (T:Aa V) (Q:VK) (E:XK),Room k (A.deeper (envOfC l g s.heap.objs.size f p))->sp T H Q E ->∃ t,oA (vO CX P w K mg base N l g f p A j s H E) body t/\t { nx:=λ_ U=>Q .e U,rt:=Q } (sV N T) H) :
  FnOk P w K mg base CX (k+1) f (PySem.W.fnOf name l C body g dV kV ab pm an p ct) ps sp:=by
 refine⟨len,λA j s H args us T Q E m h O r i=>?_⟩;have X:=len _ _ _ _ i;have F:K.In s.heap:=h.mod.kin.keeps λb o e=>(h.bs b o e).1
 have z:s.heap.NoLimit:=h.mod.nolimit.keeps λb o e=>(h.bs b o e).1
 have c:∀ y∈ps.zip us,g.names.lookup y.1=some .local\/(g.names.lookup y.1=some .cell/\((cellsFrom (s.heap.objs.size+1) g.names []).lookup y.1).isSome=true):=λ⟨n,v⟩ hy=>by
  rcases S.par n (kX hy).1 with q | q
  .exact .inl q
  .exact .inr ⟨q,PySem.W.cellsFrom_some _ _ _ (.inl q)⟩
 refine codeAny_call_function m.depth (F _ _ lk) rfl S.co S.gen rfl (PySem.W.codeRec_of F ac) (O _ _ _ _ ?_);refine wpAny_newFunctionEnv_cells S.kind c λL R G x=>?_
 subst R;refine⟨z.keeps x.toInCall.keep,codeAny_func ?_⟩;obtain⟨t,Z,Y⟩:=aa A j s H T Q E (m.deeper _) i;have I:Inv (vO CX P w K mg base N l g f p A j s H E) [] (sV N T) H G:=HD S m.hd h X r x;refine dM (Z [] G (sV N T) H _ I Y) (λM D d=>?_) λe D d=>d
 have fin:∀ {a:St} {U:Hp} {v:V} {u:Ac},Inv (vO CX P w K mg base N l g f p A j s H E) [] a U D->lH v u->Q v U->CE j P w H s Q u D :=
  λ{a U v u} J B q=>⟨v,U,J.os,J.bare,J.base,J.hok,B,q⟩
 cases M with
 | ret u =>
  obtain⟨v,a,U,J,B,q⟩:=d;exact fin J B q
 | next =>
  obtain⟨a,U,J,q⟩:=d;exact fin (v:=V.e) (u:=Value.none) J rfl q
 | brk =>
  obtain⟨_,_,_,q⟩:=d;exact False.elim q
 | cont =>
  obtain⟨_,_,_,q⟩:=d;exact False.elim q
section
variable {X:Cx}{id:String}
def Rc (r:Aa V->Hp->VK->Prop) (t:TA):TE:=λc H Q=>t c H λb a=>r b a Q
theorem rG (C:mK X (.builtin id) r) (J:Gl X x) (T:X.mg x=none) (hv:bootBuiltins x=some (.builtin id)) (o:PA X (e::l) t) (U:x ≠ "__name__" := by decide) (j:(x == ("__debug__" : Af))=false:=by decide)
  (g:StB X e l pos:=by exact {}):PE X (.Call (.Name x p) (e::l) [] pos) (Rc r t):=by
 intro c s d H Q I h;refine dO (tO I J T hv ?_ U j);exact PyProof.Rows.callWith_builtin1 (hO (o pos c s d H _ I h) λq n ⟨u,f,i,m,k⟩=>C c n d f u q Q i m k) g.a g.b
theorem Cp (C:mK X (.type T) r) (J:Gl X x) (U:X.mg x=none) (hv:bootBuiltins x=some (.type T)) (o:PA X (e::l) t) (hn:x ≠ "__name__" := by decide) (j:(x == ("__debug__" : Af))=false:=by decide)
  (g:StB X e l pos:=by exact {}):PE X (.Call (.Name x p) (e::l) [] pos) (Rc r t):=by
 intro c s d H Q I h;refine dO (tO I J U hv ?_ hn j);exact bZ (hO (o pos c s d H _ I h) λq n ⟨u,f,i,m,k⟩=>C c n d f u q Q i m k) g.a g.b
end
end L2
namespace HT
open PySem PyProof.Rows
section
theorem cat_tup (J:IsTup s.heap t j.toArray) (I:IsTup s.heap b g.toArray) (o:j≠[])
  (r:g=[]->Q (.ref t) s) (C:g≠[]->Q (.ref s.heap.objs.size) { s with heap:=s.heap.push { cls:=.type "tuple",data:=.seq (j++g).toArray } })
  (l:j.length+g.length<=sizeLine):wpAny (model p w) A (binaryOp .Add (.ref t) (.ref b)) Q E s:=by
 obtain⟨⟨cls,m,data,v⟩,i,q,n,hd⟩:=id J;obtain⟨⟨k,c,data2,h⟩,a,d,u,f⟩:=id I;simp only at q hd d f;subst q hd d f;have e:j.toArray++g.toArray=(j++g).toArray:=by simp
 by_cases hw:g=[]
 .exact concat_meets ⟨_,i,rfl⟩ ⟨_,a,rfl⟩ noFill_tuple_add seq_tuple_add jG iZ (iS _ _)
   (tuple_addW1 t b j.toArray g.toArray n u m c v h (by simpa using o) (by simp[hw])) ⟨i,a,r hw⟩
 .refine concat_meets ⟨_,i,rfl⟩ ⟨_,a,rfl⟩ noFill_tuple_add seq_tuple_add jG iZ (iS _ _)
   (tuple_addW2 t b j.toArray g.toArray n u m c v h (by simpa using o) (by simpa using hw) (by rw[aN,aN];exact l)) ⟨i,a,?_⟩
  rw[e];exact C hw
noncomputable def sIx (n d:Nat):Ab Int->Nat
 | none=>d
 | some v=>if v<0 then (v+(n:Int)).toNat else min v.toNat n
theorem sIx_none (n d:Nat):sIx n d none=d:=rfl
theorem sIx_nat (n d k:Nat):sIx n d (some (k:Int))=min k n:=by
 show (if (k:Int)<0 then ((k:Int)+(n:Int)).toNat else min (k:Int).toNat n)=min k n;rw[bG (by omega),cW]
theorem sIx_le (n d:Nat) (hd:d<=n) (o:Ab Int):sIx n d o<=n:=by
 cases o with
 | none=>exact hd
 | some v =>
  show (if v<0 then (v+(n:Int)).toNat else min v.toNat n)<=n;by_cases a:v<0
  .rw[bE a];omega
  .rw[bG a];exact kR _ _
theorem My (v:Int) (n d:Nat):(if v<0 then max (v+(n:Int)) 0 else min v (n:Int))=((sIx n d (some v):Nat):Int):=by
 show (if v<0 then max (v+(n:Int)) 0 else min v (n:Int))=(((if v<0 then (v+(n:Int)).toNat else min v.toNat n):Nat):Int);by_cases a:v<0
 .simp only[bE a];omega
 .simp only[bG a];omega
theorem Sy (lo g:Ab Int) (n:Nat):Builtin.Slice.sliceAdjust lo g 1 (n:Int)=(((sIx n 0 lo:Nat):Int),((sIx n n g:Nat):Int)):=by
 have a:¬ ((1:Int)<0):=by omega
 unfold Builtin.Slice.sliceAdjust;simp only[a,eS];refine Prod.ext ?_ ?_
 .cases lo with
  | none=>rfl
  | some v=>exact My v n 0
 .cases g with
  | none=>rfl
  | some v=>exact My v n n
theorem AR (i j:Nat):Builtin.Slice.slicePlaces (i:Int) (j:Int) 1=j-i:=by
 unfold Builtin.Slice.slicePlaces;have a:(1:Int)>0:=by omega
 simp only[a,eU,Int.ediv_one];split<;>omega
theorem Oj (p:IsPart v o) (h:Q o s):wpAny (model g w) A (Builtin.Slice.slicePartIndex v) Q E s:=by
 cases p with
 | none=>exact slicePart_none h
 | int i t=>exact slicePart_int h
theorem FU {p:Ad}{j l:Ac}{lo g:Ab Int}{n:Nat}{Q:Int×Int×Nat->Ae->Prop}(r:s.heap.IsSliceOf p j l .none) (C:IsPart j lo) (I:IsPart l g)
  (h:Q (((sIx n 0 lo:Nat):Int),1,sIx n n g-sIx n 0 lo) s):wpAny (model o w) A (Builtin.Slice.sliceApplied (.ref p) (pure (n:Int))) Q E s:=by
 obtain⟨os,b,c,a⟩:=id r;unfold Builtin.Slice.sliceApplied Builtin.Slice.sliceFields;refine aA (aA (eG b a (x:=j) rfl (aA (eG b a (x:=l) rfl (aA (eG b a (x:=.none) rfl (aH ?_)))))));refine aA (slicePart_none ?_);show wpAny _ _ (if ((1:Int) == 0)=true then _ else _) _ _ s;rw[bG (by decide)];refine aA (Oj C (aA (Oj I (aA (aH ?_)))));show wpAny _ _ (match Builtin.Slice.sliceAdjust lo g 1 (n:Int) with | (lo,g)=>pure (lo,(1:Int),Builtin.Slice.slicePlaces lo g 1)) _ _ s;rw[Sy lo g n];show wpAny _ _ (pure (((sIx n 0 lo:Nat):Int),(1:Int),Builtin.Slice.slicePlaces ((sIx n 0 lo:Nat):Int) ((sIx n n g:Nat):Int) 1)) _ _ s;rw[AR];exact aH h
theorem EV (g:Array Ac) (i k:Nat):((List.range k).filterMap λ(m:Nat)=>g[((i:Int)+(m:Int)*1).toNat]?).toArray=((g.toList.drop i).take k).toArray:=by
 have e:(λ(m:Nat)=>g[((i:Int)+(m:Int)*1).toNat]?)=λm=>g[i+m]?:=by
  funext m
  have:((i:Int)+(m:Int)*1).toNat=i+m:=by omega
  rw[this]
 rw[e];have:=pick_run g i k;rw[List.filterMap_map] at this;have a:((λx=>g[x]?)∘λx=>i+x)=λm=>g[i+m]?:=rfl
 rw[a] at this;rw[this]
theorem getItem_tuple_cut {lo:Ab Int}(j:IsTup s.heap t items) (l:s.heap.IsSliceOf p J T .none) (C:IsPart J lo) (I:IsPart T g)
  (hw:¬ (sIx items.size 0 lo=0/\sIx items.size items.size g=items.size))
  (h:Q (.ref s.heap.objs.size) { s with heap:=s.heap.push { cls:=.type "tuple",data:=.seq ((items.toList.drop (sIx items.size 0 lo)).take (sIx items.size items.size g-sIx items.size 0 lo)).toArray } })
  (r:items.size<=sizeLine):wpAny (model o w) A (getItem (.ref t) (.ref p)) Q E s:=by
 have a:sizeOk (.seq ((items.toList.drop (sIx items.size 0 lo)).take (sIx items.size items.size g-sIx items.size 0 lo)).toArray):=by
  show ((items.toList.drop (sIx items.size 0 lo)).take (sIx items.size items.size g-sIx items.size 0 lo)).toArray.size<=sizeLine;rw[aN,bT,dH,gH];omega
 have i:sIx items.size items.size g<=items.size:=sIx_le _ _ (aJ _) g;obtain⟨os,e,c,f⟩:=id l;have b:s.TypeIs (.ref p) "slice" := ⟨os,e,c⟩;unfold getItem
 try with_reducible refine bS ?_
 first | refine aA (aH ?_) | skip
 refine aA (wpAny_sequenceKey j.typeIs (by decide) ?_);refine aA (cD (name:=Str.ofString "__getitem__") j.typeIs gG (eQ gG j.typeIs entry_tuple_getitem ?_ (args_tuple_getitem _ _)));show wpAny _ _ (Builtin.Tuple.tupleItemsOf (.ref t) >>= _) _ _ s;refine aA (tupleItemsOf_ j ?_);refine aA (eV b ?_);rw[bE (by decide)];refine aA (FU l C I ?_);have d:¬ ((((sIx items.size 0 lo:Nat):Int) == 0&&(1:Int) == 1&&(sIx items.size items.size g-sIx items.size 0 lo) == items.size)=true):=by
  intro q;rw[cE,cE] at q;have k:((sIx items.size 0 lo:Nat):Int)=0:=eq_of_beq q.1.1;have n:sIx items.size items.size g-sIx items.size 0 lo=items.size:=eq_of_beq q.2;exact hw ⟨by omega,by omega⟩
 show wpAny _ _ (if (((sIx items.size 0 lo:Nat):Int) == 0&&(1:Int) == 1&&(sIx items.size items.size g-sIx items.size 0 lo) == items.size)=true then _ else _) _ _ s;rw[bG d,EV]
 first
  | exact aA (m:=Builtin.Tuple.tupleExact _) (fG (aH ⟨_,rfl,aH h⟩) a)
  | exact aA (m:=Builtin.Tuple.tupleExact _) (fG (aA (aH (aH ⟨_,rfl,aH h⟩))) a)
  | exact aA (aA (m:=Builtin.Tuple.tupleExact _) (fG (aH (aH ⟨_,rfl,aH h⟩)) a))
  | exact aA (aA (m:=Builtin.Tuple.tupleExact _) (fG (aH ⟨_,rfl,aH h⟩) a))
end
end HT
namespace L2
open PySem PySem.Spec PyProof.Rows
abbrev TO:=St->Hp->(Ab Int->Hp->Prop)->Prop
def PO (X:Cx) (e:Ab Expr) (t:TO):Prop :=
 ∀ (a:Aa (Ad×Obj)) (s:Ae) (b:St) (H:Hp) (Q:Ab Int->Hp->Prop),Inv X a b H s->t b H Q ->
  wpAny (model X.prog X.w) X.A (evalPart e X.env) (λu d=>∃ o c,Inv X a b c d/\IsPart u o/\Q o c) X.xe s
def Pk:TO:=λ_ H Q=>Q none H
def Mb (t:TE):TO:=λb H Q=>t b H λx a=>∃ i,x = .int i/\Q (some i) a
theorem Q8:∀ {g:Aa Ac},kZ (j.map V.int) g->IntsAre g j:=by
 induction j with
 | nil=>intro g r;rw[kS] at r;cases r;exact .nil
 | cons n j a =>
  intro g r;rw[aY] at r;cases r with
  | cons b c =>
   obtain⟨t,e⟩:=b;subst e;exact .cons n t (a c)
section
variable {X:Cx}{lo:Ab Expr}
theorem Bi:PO X none Pk:=by
 intro a s b H Q I h;rw[evalPart_none];exact aH ⟨none,H,I,.none,h⟩
theorem zU (h:PE X e g):PO X (some e) (Mb g):=by
 intro a s m H Q I hw;rw[evalPart_some];refine hO (h a s m H _ I hw) λu n b=>?_
 obtain⟨x,c,d,k,f⟩:=b;obtain⟨i,rfl,q⟩:=f;obtain⟨t,rfl⟩:=k;exact⟨some i,c,d,.int i t,q⟩
def uB (X:Cx) (r:V->Ab Int->Ab Int->Hp->VK->Prop):Prop :=
 ∀ (a:Aa (Ad×Obj)) (s:Ae) (f:St) (H:Hp) (x:V) (v d e:Ac) (lo b:Ab Int) (c:Ad) (Q:VK),Inv X a f H s->lH x v->s.heap.IsSliceOf c d e .none->IsPart d lo->IsPart e b->r x lo b H Q ->
  ∃ T id,typeLookup (.type T) "__getitem__" = pure (some (.builtin id))/\s.TypeIs v T/\wpAny (model X.prog X.w) X.A (getItem v (.ref c)) (EP X a f Q) X.xe s
theorem uB.or (h:uB X r) (j:uB X l):uB X (λx lo g H Q=>r x lo g H Q\/l x lo g H Q):=by
 intro a s m H x v i k lo g f Q I e b c d q;rcases q with q | q
 .exact h a s m H x v i k lo g f Q I e b c d q
 .exact j a s m H x v i k lo g f Q I e b c d q
def Ux (r:V->Ab Int->Ab Int->Hp->VK->Prop) (g:TE) (o j:TO):TE:=λa H Q=>g a H λx b=>o a b λl c=>j a c λu d=>r x l u d Q
theorem zD (p:uB X r) (j:PE X e U) (o:PO X lo tl) (C:PO X g th):PE X (.Subscript e (.Slice lo g none J) pos) (Ux r U tl th):=by
 intro a s f H Q I h;refine Subscript_ (hO (j a s f H _ I h) λv R d=>?_);obtain⟨x,n,y,P,M⟩:=d;refine wpAny_Slice (hO (o a R f n _ y M) λi S ⟨l,t,z,K,N⟩=>hO (C a S f t _ z N) λk c d=>?_);obtain⟨u,m,B,L,O⟩:=d;rw[evalPart_none];refine aH ?_;have D:Inv X a f m { c with heap:=c.heap.push { cls:=.type "slice",data:=.fields #[i,k,.none] } }:=B.kept (t':=c.toks) λb V q=>aI _ q
 obtain⟨T,id,E,G,F⟩:=p a { c with heap:=c.heap.push { cls:=.type "slice",data:=.fields #[i,k,.none] } } f m x v i k l u c.heap.objs.size Q D P (Heap.IsSliceOf.new ..) K L O;show wpAny (model X.prog X.w) X.A (subscriptTail e (.Slice lo g none J) v (.ref c.heap.objs.size)) (EP X a f Q) X.xe { c with heap:=c.heap.push { cls:=.type "slice",data:=.fields #[i,k,.none] } };exact tail_any (ops:=[.ref c.heap.objs.size,v]) G E F (by with_unfolding_all rfl)
def tM (g:Aa V) (lo j:Ab Int):Aa V:=(g.drop (HT.sIx g.length 0 lo)).take (HT.sIx g.length g.length j-HT.sIx g.length 0 lo)
theorem Nm (g:Aa V) (lo j:Ab Int):(tM g lo j).length<=g.length:=by
 unfold tM;rw[bT,dH];omega
def Kq (K:kY):V->Ab Int->Ab Int->Hp->VK->Prop:=λx lo c H Q=>∃ a b,x = .ref a/\mA K H a b /\
 ¬ (HT.sIx b.length 0 lo=0/\HT.sIx b.length b.length c=b.length)/\∀ p,H p=none->Q (.ref p) (upd H p (.t (tM b lo c)))
theorem Wx:uB X (Kq X.K):=by
 intro m s F H x v D E lo e B Q I z n w y h;obtain⟨a,d,rfl,u,hw,q⟩:=h;cases z;obtain⟨f,r,i,k⟩:=I.tuple u;have c:f.toArray.size=d.length:=by rw[aN];exact r.length.symm
 refine⟨"tuple",_,gG.lookup,i.typeIs,?_⟩;refine HT.getItem_tuple_cut i n w y (by rw[c];exact hw) ?_ (by rw[c];exact k);rw[c];refine⟨.ref s.heap.objs.size,_,I.laid (t':=s.toks) (o:=.t (tM d lo e)) (λb A q=>aI _ q) (aJ _) ?_,rfl,q _ (I.hok.fresh (aJ _))⟩;exact⟨bV (Nm d lo e) k,_,(r.drop (HT.sIx d.length 0 lo)).take (HT.sIx d.length d.length e-HT.sIx d.length 0 lo),uT.new _ _⟩
def Pp (K:kY):R2:=λx y H Q=>∃ a b d c,x = .ref a/\y = .ref b/\mA K H a d/\mA K H b c/\d≠[]/\d.length+c.length<=sizeLine /\
 (c=[]->Q (.ref a) H)/\(c≠[]->∀ p,H p=none->Q (.ref p) (upd H p (.t (d++c))))
theorem kZ.nil_iff (r:kZ j g):g=[]↔j=[]:=by
 cases r with
 | nil=>simp
 | cons _ _=>simp
theorem EF:mC X (binaryOp .Add) (Pp X.K):=by
 intro i s P H x y v u Q I G L h;obtain⟨a,b,M,N,rfl,rfl,k,m,n,e,E,F⟩:=h;cases G;cases L;obtain⟨A,d,B,_⟩:=I.tuple k;obtain⟨f,c,D,_⟩:=I.tuple m;refine HT.cat_tup B D (λz=>n (d.nil_iff.mp z)) (λz=>⟨.ref a,H,I,rfl,E (c.nil_iff.mp z)⟩) (λz=>?_) (by rw[<- d.length,<- c.length];exact e);refine⟨.ref s.heap.objs.size,_,I.laid (t':=s.toks) (o:=.t (M++N)) (λb O q=>aI _ q) (aJ _) ?_,rfl,F (λw=>z (c.nil_iff.mpr w)) _ (I.hok.fresh (aJ _))⟩;exact⟨by rw[bB];exact e,_,d.append c,uT.new _ _⟩
end
noncomputable def sB (n:Nat) (i:Int):Ab Nat:=if 0<=i then (if i<n then some i.toNat else none) else if -(n:Int)<=i then some (i+n).toNat else none
def mF {l:Type}(g:Aa l) (i:Int):Ab l:=(sB g.length i).bind λj=>g[j]?
theorem Ol (h:sB n i=some j):seqIndex? i n=some j/\j<n/\-(n:Int)<=i/\i<n:=by
 unfold sB at h;by_cases b:0<=i
 .rw[bE b] at h;by_cases a:i<n
  .rw[bE a] at h;have e:i.toNat=j:=cA h;exact⟨by rw[seqIndex_of b a,e],by omega,by omega,a⟩
  .rw[bG a] at h;cases h
 .rw[bG b] at h;by_cases a:-(n:Int)<=i
  .rw[bE a] at h;have e:(i+n).toNat=j:=cA h;exact⟨by rw[seqIndex_neg (by omega) a,e],by omega,a,by omega⟩
  .rw[bG a] at h;cases h
theorem Jr (h:mF g i=some v):∃ j,seqIndex? i g.length=some j/\g[j]?=some v/\j<g.length/\-(g.length:Int)<=i/\i<g.length:=by
 unfold mF at h;cases e:sB g.length i with
 | none=>rw[e] at h;cases h
 | some j =>
  rw[e] at h;obtain⟨a,b,c,d⟩:=Ol e;exact⟨j,a,h,b,c,d⟩
theorem pQ {l:Type}{g:Aa l}{j:Nat}{v:l}(h:g[j]?=some v):mF g (j:Int)=some v:=by
 have a:j<g.length:=(aT.mp h).1;have e:sB g.length (j:Int)=some j:=by
  unfold sB;rw[bE (by omega),bE (by omega)];simp
 unfold mF;rw[e];exact h
def Hw (b:Expr):Prop:=∀ o i,subscripted b false o i=operate [o,i] (getItem o i)
def tP (X:Cx) (r:R2):Prop :=
 ∀ (value slice:Expr) (a:Aa (Ad×Obj)) (s:Ae) (b:St) (H:Hp) (x y:V) (v u:Ac) (Q:VK),Inv X a b H s->lH x v->lH y u->r x y H Q ->
  subscripted slice false v u=operate [v,u] (getItem v u)->wpAny (model X.prog X.w) X.A (subscriptTail value slice v u) (EP X a b Q) X.xe s
def yP (X:Cx) (id:String) (r:V->Aa V->Hp->VK->Prop):Prop :=
 ∀ (a:Aa (Ad×Obj)) (s:Ae) (d:St) (H:Hp) (x:V) (c:Aa V) (v:Ac) (b:Aa Ac) (Q:VK),Inv X a d H s->lH x v->kZ c b->r x c H Q ->
  wpAny (model X.prog X.w) X.A (call (.builtin id) (v::b)) (EP X a d Q) X.xe s
section
variable {X:Cx}
theorem tP.or (h:tP X r) (g:tP X j):tP X (λx y H Q=>r x y H Q\/j x y H Q):=by
 intro value slice a s e H x y v u Q I c d q b;rcases q with q | q
 .exact h value slice a s e H x y v u Q I c d q b
 .exact g value slice a s e H x y v u Q I c d q b
theorem oK {r:R2}(l:tP X r) (g:PE X a p) (j:PE X b C) (o:Hw b):PE X (.Subscript a b pos) (zT r p C):=by
 intro c s m H Q I h;exact Subscript_ (F1 g j I h λv u k x y d e f i q=>l a b c k m d x y v u Q e f i q (o _ _))
def E6 (K:kY):R2:=λx y H Q=>∃ p a i v,x = .ref p/\y = .int i/\eT K H p a/\mF a i=some v/\Q v H
def Mc (K:kY):R2:=λx y H Q=>∃ p a i v,x = .ref p/\y = .int i/\mA K H p a/\mF a i=some v/\Q v H
def Ry:R2:=λx y H Q=>∃ z i c,x = .str z/\y = .int i/\z.length<=sizeLine/\mF z.cps.toList i=some c/\Q (.str ⟨#[c]⟩) H
theorem pL:tP X (E6 X.K):=by
 intro value slice a s A H x y v u Q I M N h n;obtain⟨p,V,i,z,rfl,rfl,L,F,q⟩:=h;cases M;obtain⟨t,rfl⟩:=N;obtain⟨d,r,e,S⟩:=I.list L;obtain⟨j,b,B,P,D,E⟩:=Jr F;obtain⟨w,k,f⟩:=r.get B;have G:=r.length;have R:=wV;have fin:EP X a A Q w s:=⟨z,H,I,f,q⟩;by_cases m:0<=i
 .have c:i.toNat=j:=by
   rw[seqIndex_of m E] at b;exact cA b
  exact item_listR e.isList m (by omega) (by rw[c];simpa using k) fin n
 .have c:(i+(d.toArray.size:Int)).toNat=j:=by
   rw[seqIndex_neg (by omega) D] at b;rw[aN,<- G];exact cA b
  exact subscriptTail_builtinR (x:=w) e.isList.typeIs slot_list_getitem.lookup
   (wpAny_getItem_list_neg (Q:=λr O=>r=w/\EP X a A Q r O) e.isList (by omega) (by rw[aN]<;>omega) (by omega) (by rw[c];simpa using k) ⟨rfl,fin⟩) n
theorem DL:tP X (Mc X.K):=by
 intro value slice a s d H x y v u Q I E F h B;obtain⟨p,R,i,z,rfl,rfl,A,m,q⟩:=h;cases E;obtain⟨t,rfl⟩:=F;obtain⟨D,r,c,P⟩:=I.tuple A;obtain⟨j,f,k,L,M,N⟩:=Jr m;obtain⟨w,e,b⟩:=r.get k;have n:=r.length;have O:=wV;have fin:EP X a d Q w s:=⟨z,H,I,b,q⟩;exact subscriptTail_builtinR (x:=w) c.typeIs slot_tuple_getitem.lookup
  (getItem_tuple (j:=j) (Q:=λr G=>r=w/\EP X a d Q r G) c (by omega) (by omega) (by rw[aN,<- n];exact f) (by simpa using e) ⟨rfl,fin⟩) B
theorem B7:tP X Ry:=by
 intro value slice b s L H x y v u Q I B D h A;obtain⟨z,i,c,rfl,rfl,G,n,q⟩:=h;obtain⟨t,rfl⟩:=B;obtain⟨K,rfl⟩:=D;obtain⟨j,a,f,E,k,m⟩:=Jr n;have w:z.cps.toList.length=z.length:=by simp[Str.length]
 rw[w] at a k m;have F:=wV;exact tail_any (typeIs_str s z t) slot_str_getitem.lookup (getItem_str (c:=c) (by
  have d:decide (i < -(2 ^ 63:Int))=false:=cF (by omega);have e:decide (i>=2 ^ 63)=false:=cF (by omega);rw[d,e,Bool.or_false]) (by rw[a];simpa using f) ⟨.str ⟨#[c]⟩,H,I.tok _,⟨_,rfl⟩,q⟩) A
def Kr (K:kY):R2:=λx y H Q=>E6 K x y H Q\/Mc K x y H Q\/Ry x y H Q
theorem X6:tP X (Kr X.K):=pL.or (DL.or B7)
theorem Y5 (g:Aa Ac) (n j:Nat) (u:Ac):Obj.mapSeq (·.setIfInBounds j u) { cls:=.type "list",data:=.seq g.toArray n }={ cls:=.type "list",data:=.seq (g.set j u).toArray n }:=by
 simp[Obj.mapSeq]
theorem Inv.lst (I:Inv X j C H s) (h:H p=some (.l o)) :
  ∃ (g:Aa Ac) (n:Nat),kZ o g/\s.heap.get? p=some { cls:=.type "list",data:=.seq g.toArray n }/\o.length<=sizeLine:=by
 obtain⟨z,g,n,r,e⟩:=I.hok p _ h;exact⟨g,n,r,e,z⟩
theorem Inv.lstUpd {j:Aa Ac}(I:Inv X o σ H s) (h:H p=some (.l xs))
  (U:s.heap.get? p=some { cls:=.type "list",data:=.seq j.toArray n }) (C:f { cls:=.type "list",data:=.seq j.toArray n }={ cls:=.type "list",data:=.seq g.toArray J }) (r:kZ T g) (hz:T.length<=sizeLine) (t:Nat) :
  Inv X o σ (upd H p (.l T)) { s with heap:=s.heap.update p f,toks:=t }:=by
 have e:(s.heap.update p f).get? p=some { cls:=.type "list",data:=.seq g.toArray J }:=by
  rw[jN f U (by rw[C]<;>rfl),C]
 refine I.write (x:=p) (e:=p) (by rw[h];trivial) (.inl rfl) (λb u a q=>(jH _ _ (cQ a)).trans q) ⟨_,e⟩ ?_;exact⟨hz,g,J,r,e⟩
def Ru:V->V->V->Hp->(Hp->Prop)->Prop:=λo i v H Q=>∃ p a k j,o = .ref p/\i = .int k/\H p=some (.l a)/\sB a.length k=some j/\Q (upd H p (.l (a.set j v)))
theorem El:Ga X Ru:=by
 intro b s K H o i v O N u Q I E D F h;obtain⟨p,G,k,j,rfl,rfl,z,A,q⟩:=h;cases E;obtain⟨t,rfl⟩:=D;obtain⟨a,n,r,f,B⟩:=I.lst z;obtain⟨c,L,x,y⟩:=Ol A;have e:=r.length;have M:=wV;have m:Inv X b K (upd H p (.l (G.set j v))) { s with heap:=s.heap.update p (Obj.mapSeq (·.setIfInBounds j u)) } :=
  I.lstUpd z f (Y5 a n j u) (r.set F j) (by rw[bQ];exact B) s.toks
 by_cases w:0<=k
 .have d:k.toNat=j:=by
   rw[seqIndex_of w y] at c;exact cA c
  exact PySem.W.ki_setAt f w (by omega) (by rw[aN,<- e];exact y) (by rw[d];exact⟨_,m,q⟩)
 .have d:(k+(a.toArray.size:Int)).toNat=j:=by
   rw[seqIndex_neg (by omega) x] at c;rw[aN,<- e];exact cA c
  exact PySem.W.ki_setBack f (by omega) (by rw[aN,<- e];exact x) (by omega) (by rw[d];exact⟨_,m,q⟩)
theorem U5 (lo g:Ab Int) (n:Nat):(sliceBounds lo g none n).1=((HT.sIx n 0 lo:Nat):Int)/\(sliceBounds lo g none n).2.1=((HT.sIx n n g:Nat):Int)/\(sliceBounds lo g none n).2.2=1:=by
 refine⟨?_,?_,rfl⟩
 .cases lo with
  | none=>simp[sliceBounds,HT.sIx]
  | some i =>
   simp only[sliceBounds,HT.sIx,Option.getD_none,show (1:Int)>0 by decide,eU];by_cases h:i<0
   .simp only[h,eU]<;>omega
   .simp only[h,eS]<;>omega
 .cases g with
  | none=>simp[sliceBounds,HT.sIx]
  | some i =>
   simp only[sliceBounds,HT.sIx,Option.getD_none,show (1:Int)>0 by decide,eU];by_cases h:i<0
   .simp only[h,eU]<;>omega
   .simp only[h,eS]<;>omega
theorem Y6 (g:Aa Ac) (lo j:Ab Int):slicePick g.toArray lo j none=((g.drop (HT.sIx g.length 0 lo)).take (HT.sIx g.length g.length j-HT.sIx g.length 0 lo)).toArray:=by
 obtain⟨a,b,c⟩:=U5 lo j g.toArray.size;unfold slicePick;rw[a,b,c];simp only[sliceRange_one,pick_run,aN]<;>rfl
def O9 (K:kY):V->Ab Int->Ab Int->Hp->VK->Prop:=λx lo c H Q=>∃ a b,x = .ref a/\eT K H a b/\∀ p,H p=none->Q (.ref p) (upd H p (.l (tM b lo c)))
theorem Fk:uB X (O9 X.K):=by
 intro i s E H x v B D lo e A Q I y k u w h;obtain⟨a,c,rfl,m,q⟩:=h;cases y;obtain⟨t,r,f,n⟩:=I.list m;have d:=r.length;refine⟨"list",_,slot_list_getitem.lookup,f.isList.typeIs,?_⟩;refine wpAny_getItem_list_slice f.isList k u w .none (by simp) ?_ (by rw[aN]<;>omega);rw[Y6,<- d];refine⟨.ref s.heap.objs.size,_,I.laid (t':=s.toks) (o:=.l (tM c lo e)) (λb z q=>aI _ q) (aJ _) ?_,rfl,q _ (I.hok.fresh (aJ _))⟩;exact⟨bV (Nm c lo e) n,_,0,(r.drop (HT.sIx c.length 0 lo)).take (HT.sIx c.length c.length e-HT.sIx c.length 0 lo),aX _ rfl⟩
def pU:V->Bool
 | .e=>true
 | .b _=>true
 | .int _=>true
 | .str _=>true
 | _=>false
noncomputable def oO:V->V->Bool
 | .e,.e=>true
 | .b a,.b b=>a == b
 | .b a,.int b=>(if a then 1 else 0) == b
 | .int a,.b b=>a == (if b then 1 else 0)
 | .int a,.int b=>a == b
 | .str a,.str b=>a == b
 | _,_=>false
theorem Lm (l:lH y u) (g:lH x v) (o:pU y=true) (j:pU x=true):SeqAt.EqAt A s u v (oO y x):=by
 cases y with
 | e =>
  cases l;cases x with
  | e=>cases g;exact SeqAt.EqAt.same _
  | b b=>cases g;exact SeqAt.EqAt.none_bool b
  | int b=>obtain⟨t,rfl⟩:=g;exact SeqAt.EqAt.none_int b t
  | str b=>obtain⟨t,rfl⟩:=g;exact SeqAt.EqAt.none_str b t
  | _=>exact absurd (show false=true from j) bA
 | b a =>
  cases l;cases x with
  | e=>cases g;exact SeqAt.EqAt.bool_none a
  | b b=>cases g;exact SeqAt.EqAt.bool_bool a b
  | int b=>obtain⟨t,rfl⟩:=g;exact SeqAt.EqAt.bool_int a b t
  | str b=>obtain⟨t,rfl⟩:=g;exact SeqAt.EqAt.bool_str a b t
  | _=>exact absurd (show false=true from j) bA
 | int a =>
  obtain⟨c,rfl⟩:=l;cases x with
  | e=>cases g;exact SeqAt.EqAt.int_none a c
  | b b=>cases g;exact SeqAt.EqAt.int_bool a c b
  | int b=>obtain⟨t,rfl⟩:=g;exact SeqAt.EqAt.int_int a c b t
  | str b=>obtain⟨t,rfl⟩:=g;exact SeqAt.EqAt.int_str a c b t
  | _=>exact absurd (show false=true from j) bA
 | str a =>
  obtain⟨c,rfl⟩:=l;cases x with
  | e=>cases g;exact SeqAt.EqAt.str_none a c
  | b b=>cases g;exact SeqAt.EqAt.str_bool a c b
  | int b=>obtain⟨t,rfl⟩:=g;exact SeqAt.EqAt.str_int a c b t
  | str b=>obtain⟨t,rfl⟩:=g;exact SeqAt.EqAt.str_str a c b t
  | _=>exact absurd (show false=true from j) bA
 | _=>exact absurd (show false=true from o) bA
def sC (x:V) (u:Ac):Bool:=match u with
 | .none=>oO .e x
 | .bool b=>oO (.b b) x
 | .int i _=>oO (.int i) x
 | .str z _=>oO (.str z) x
 | _=>false
theorem Fl (r:lH y u) (f:pU y=true):sC x u=oO y x:=by
 cases y with
 | e=>cases r;rfl
 | b b=>cases r;rfl
 | int i=>obtain⟨t,rfl⟩:=r;rfl
 | str z=>obtain⟨t,rfl⟩:=r;rfl
 | _=>exact absurd (show false=true from f) bA
theorem G8:∀ {g:Aa V}{j:Aa Ac},kZ g j->g.all pU=true->j.any (sC x)=g.any λy=>oO y x
 | _,_,.nil,_=>rfl
 | y::g,u::j,.cons r t,f=>by
  rw[List.all_cons,cE] at f;rw[fQ,fQ,Fl r f.1,G8 t f.2]
theorem Eg (o:lH x v) (l:pU x=true):∀ {j:Aa V}{g:Aa Ac},kZ j g->j.all pU=true->∀ u∈g,SeqAt.EqAt A s u v (sC x u)
 | _,_,.nil,_=>λu a=>by cases a
 | y::j,u::g,.cons r t,f=>λb a=>by
  rw[List.all_cons,cE] at f;rcases aF.mp a with rfl | a
  .rw[Fl r f.1];exact Lm r o f.1 l
  .exact Eg o l t f.2 b a
def Dc (x:V) (g:Aa V):Bool:=g.any λy=>oO y x
def Pb (K:kY) (neg:Bool):R2:=λx y H Q=>∃ p a,y = .ref p/\(eT K H p a\/mA K H p a)/\pU x=true/\a.all pU=true/\Q (.b (if neg then !Dc x a else Dc x a)) H
theorem Rj:mC X (compareOp .In) (Pb X.K false):=by
 intro f s t H x y v u Q I i m h;obtain⟨p,n,rfl,c,e,fs,q⟩:=h;cases m;rcases c with c | c
 .obtain⟨a,r,d,k⟩:=I.list c;refine SeqAt.in_listAt (sC x) d.isList (λw hw=>Eg i e r fs w (by simpa using hw)) ⟨.b _,H,I,rfl,?_⟩;rw[show a.toArray.any (sC x)=a.any (sC x) by simp,G8 r fs];exact q
 .obtain⟨a,r,d,k⟩:=I.tuple c;refine SeqAt.in_tupleAt (sC x) d (λw hw=>Eg i e r fs w (by simpa using hw)) ⟨.b _,H,I,rfl,?_⟩;rw[show a.toArray.any (sC x)=a.any (sC x) by simp,G8 r fs];exact q
theorem vG:mK X (.builtin "len") (λj H Q=>∃ p g,j=[.ref p]/\(eT X.K H p g\/mA X.K H p g)/\Q (.int g.length) H):=by
 intro f s t H j n Q I r h;obtain⟨p,g,rfl,b,q⟩:=h;obtain⟨u,rfl,k⟩:=oM r;cases k;have m:=wV;rcases b with b | b
 .obtain⟨c,e,d,i⟩:=I.list b;have a:=e.length;exact Calls.call_len_list d.isList (by simp only[aN]<;>omega) ⟨.int g.length,H,I.tok _,⟨s.toks+1,by rw[aN,a]⟩,q⟩
 .obtain⟨c,e,d,i⟩:=I.tuple b;have a:=e.length;exact len_tuple d (by simp only[aN]<;>omega) ⟨.int g.length,H,I.tok _,⟨s.toks+1,by rw[aN,a]⟩,q⟩
theorem Oc:mK X (.builtin "len") (λg H Q=>∃ z,g=[.str z]/\z.length<=sizeLine/\Q (.int z.length) H):=by
 intro a s e H g d Q I r h;obtain⟨z,rfl,c,q⟩:=h;obtain⟨u,rfl,t,rfl⟩:=oM r;have b:=wV;exact len_str (by omega) ⟨.int z.length,H,I.tok _,⟨_,rfl⟩,q⟩
theorem mK.or (h:mK X f r) (j:mK X f l):mK X f (λg H Q=>r g H Q\/l g H Q):=by
 intro a s d H g c Q I b q;rcases q with q | q
 .exact h a s d H g c Q I b q
 .exact j a s d H g c Q I b q
theorem A3:mK X (.type "list") (λj H Q=>∃ p g,j=[.ref p]/\(eT X.K H p g\/mA X.K H p g)/\∀ l,H l=none->Q (.ref l) (upd H l (.l g))):=by
 intro v s D H j E Q I r h;obtain⟨p,g,rfl,k,q⟩:=h;obtain⟨u,rfl,B⟩:=oM r;cases B;have fin:∀ (a:Aa Ac),kZ g a->g.length<=sizeLine->∀ (c:Ag) (d:Nat),(∀ b A,s.heap.get? b=some A->c.get? b=some A) ->
   c.get? s.heap.objs.size=some { cls:=.type "list",dict:=none,data:=.seq a.toArray d,slots:=#[] }->EP X v D Q (.ref s.heap.objs.size) { s with heap:=c }:=λa f m c d t e =>
  ⟨.ref s.heap.objs.size,_,I.laid (t':=s.toks) t (aJ _) (show pE X.prog X.w _ c _ (.l g) from ⟨m,a,d,f,e⟩),rfl,q _ (I.hok.fresh (aJ _))⟩
 rcases k with k | k
 .obtain⟨a,f,z,m⟩:=I.list k;have i:=f.length;obtain⟨o,y,x,n,hd⟩:=z.isList;exact call_list_seq p (.inl rfl) y x hd (λc d t e=>fin a f m c d t e) (by simp only[aN]<;>omega)
 .obtain⟨a,f,z,m⟩:=I.tuple k;have i:=f.length;obtain⟨o,y,x,n,hd⟩:=z;exact call_list_seq p (.inr rfl) y x hd (λc d t e=>fin a f m c d t e) (by simp only[aN]<;>omega)
theorem oX:mK X (.type "tuple") (λj H Q=>∃ p g,j=[.ref p]/\((eT X.K H p g/\∀ l,H l=none->Q (.ref l) (upd H l (.t g)))\/(mA X.K H p g/\Q (.ref p) H))):=by
 intro a s x H j B Q I r h;obtain⟨p,g,rfl,h⟩:=h;obtain⟨u,rfl,A⟩:=oM r;cases A;rcases h with⟨f,q⟩ | ⟨f,q⟩
 .obtain⟨c,k,i,v⟩:=I.list f;have n:=k.length;refine call_tuple_list i.isList (λd z=>?_) (by simp only[aN]<;>omega);have m:Inv X a x H { s with heap:=d }:=I.kept (t':=s.toks) z;have y:Inv X a x (upd H d.objs.size (.t g)) { s with heap:=d.push { cls:=.type "tuple",data:=.seq c.toArray } } :=
   m.laid (t':=s.toks) (λb o e=>aI _ e) (aJ _) (show pE X.prog X.w _ _ _ (.t g) from ⟨v,c,k,uT.new _ _⟩)
  exact⟨.ref d.objs.size,_,y,rfl,q _ (m.hok.fresh (aJ _))⟩
 .obtain⟨c,k,i,v⟩:=I.tuple f;exact call_tuple_same i ⟨.ref p,H,I,rfl,q⟩
def Cj (K:kY) (T:String) (x:V) (H:Hp):Prop:=match x with
 | .str _=>T = "str"
 | .int _=>T = "int"
 | .ref p=>(T = "list" /\ ∃ b,eT K H p b)\/(T = "tuple" /\ ∃ o,K.lookup p=some o/\o.cls = .type "tuple" /\ o.dict=none) \/
   (T = "dict" /\ ((∃ a,H p=some (.k a))\/∃ a,H p=some (.T a)))\/(T = "set" /\ ∃ S n,H p=some (.set S n))
 | _=>False
theorem DD (I:Inv X j l H s) (r:lH x v) (ty:Cj X.K T x H) :
  s.TypeIs v T/\∀ a,v = .ref a->∃ g,s.heap.get? a=some g/\g.dict=none:=by
 cases x with
 | str z =>
  obtain⟨t,rfl⟩:=r;cases (show T = "str" from ty);exact⟨typeIs_str s z t,λ_ e=>nomatch e⟩
 | int i =>
  obtain⟨t,rfl⟩:=r;cases (show T = "int" from ty);exact⟨kT s i t,λ_ e=>nomatch e⟩
 | ref p =>
  cases r;rcases ty with⟨rfl,w,q⟩ | ⟨rfl,o,b,m,hd⟩ | ⟨rfl,b⟩ | ⟨rfl,S,n,b⟩
  .obtain⟨u,_,k,_⟩:=I.list q;refine⟨k.isList.typeIs,λa e=>?_⟩;cases e;obtain⟨o,n,e,c,hd,_⟩:=k;exact⟨o,e,hd⟩
  .refine⟨⟨o,I.kIn p o b,m⟩,λa e=>?_⟩;cases e;exact⟨o,I.kIn _ o b,hd⟩
  .have z:∃ o,s.heap.get? p=some o/\o.ExactDict:=by
    rcases b with⟨h,b⟩ | ⟨h,b⟩
    .obtain⟨_,_,_,_,o,_,_,e,d,_⟩:=I.hok p _ b;exact⟨o,e,d⟩
    .obtain⟨_,_,_,_,o,_,_,e,d,_⟩:=I.hok p _ b;exact⟨o,e,d⟩
   obtain⟨o,e,d⟩:=z;refine⟨⟨o,e,d.1⟩,λa f=>?_⟩;cases f;exact⟨o,e,d.2.1⟩
  .obtain⟨o,_,_,_,e,d,_⟩:=I.hok p _ b;refine⟨⟨o,e,d.1⟩,λa f=>?_⟩;cases f;exact⟨o,e,d.2.1⟩
 | _=>exact False.elim ty
def Jb (K:kY) (T:String) (r:V->Aa V->Hp->VK->Prop) (g:TE) (t:TA):TE:=λb H Q=>g b H λx a=>Cj K T x a/\t b a λd c=>r x d c Q
variable {id:String}
structure MtB (X:Cx) (o:Expr) (name:Str) (apos:Pos) (e:Expr) (es:List Expr) (cpos:Pos):Prop extends StB X e es cpos where
 c:attributeBase o name X.env (eval o X.env)=eval o X.env:=by rfl
 d:((backTo cpos (starEach (e::es) X.env)).all (λx=>!x.1)&&(backToKw cpos (keywordEach [] X.env)).all (λx=>x.1.isSome)&&decide ((e::es).length+([]:List Keyword).length+(if ([]:List Keyword).isEmpty then 0 else 1)<30))=true:=by rfl
 f:(apos.endLine == cpos.line)=true:=by rfl
theorem xJ (pa:PlainAttrs T) (slot:Slot T name id) (p:typeOf (.builtin id)=pure (.type "method_descriptor")) (J:yP X id r) (U:PE X o to) (C:PA X (e::l) t)
  (j:MtB X o name apos e l g:=by exact {}) :
  PE X (.Call (.Attribute o name apos) (e::l) [] g) (Jb X.K T r to t):=by
 intro i s m H Q I h;refine wpAny_Call_method_late j.c j.d j.f rfl (hO (U i s m H _ I h) λv G k=>?_);obtain⟨x,w,n,u,ty,D⟩:=k;obtain⟨A,B⟩:=DD n u ty;refine⟨T,id,pa,slot,p,A,B,?_⟩;have q:=C g i G m w _ n D;rw[j.a] at q |-;refine Calls.callWith_builtin (by show (false||(backTo g (starEach l X.env)).any (·.1))=false;rw[j.b]<;>rfl) (Calls.evalArgs_plain ?_);exact hO q λM L ⟨N,y,z,F,E⟩=>J i L m y x N v M Q z u F E
/- xs.append(e),list.index on a module's tuple .. are yP facts of 06m -/
end
def O7 (X:Cx) (id:String) (r:V->Aa V->Hp->VK->Prop):Prop :=
 ∀ (a:Aa (Ad×Obj)) (s:Ae) (d:St) (H:Hp) (x:V) (c:Aa V) (v:Ac) (b:Aa Ac) (Q:VK),Inv X a d H s->lH x v->kZ c b->r x c H Q ->
  wpAny (model X.prog X.w) X.A (call (.builtin id) (v::b)) (EP X a d Q) X.xe s
theorem kZ.one:∀ {x:V}{g:Aa Ac},kZ [x] g->∃ u,g=[u]/\lH x u
 | _,_,.cons r .nil=>⟨_,rfl,r⟩
theorem kZ.eraseIdx:∀ {j:Aa V}{g:Aa Ac}(i:Nat),kZ j g->kZ (j.eraseIdx i) (g.eraseIdx i)
 | _,_,_,.nil=>.nil
 | _,_,0,.cons _ t=>t
 | _,_,i+1,.cons r t=>.cons r (kZ.eraseIdx i t)
theorem kZ.rep (h:kZ j g):∀ k:Nat,kZ (List.replicate k j).flatten (List.replicate k g).flatten
 | 0=>.nil
 | k+1=>by
  rw[cB,cB,fH,fH];exact kZ.append h (kZ.rep h k)
theorem Kx:∀ (l:Aa g) (i:Nat),(l.eraseIdx i).length<=l.length
 | [],_=>aJ _
 | _::_,0=>iE _
 | _::r,i+1=>Nat.succ_le_succ (Kx r i)
theorem Na (j:Aa Ac):∀ (k:Nat) (g:Aa Ac),
  List.foldl (λl o=>l++o) g.toArray (List.replicate k j.toArray)=(g++(List.replicate k j).flatten).toArray
 | 0,g=>by simp
 | k+1,g=>by
  have e:g.toArray++j.toArray=(g++j).toArray:=by simp
  have a:(g++j)++(List.replicate k j).flatten=g++(List.replicate (k+1) j).flatten:=by
   rw[cB,fH,bI]
  rw[<- a,<- Na j k (g++j),<- e,cB,fY]
section
variable {X:Cx}
theorem Inv.lset {g:Aa Ac}(I:Inv X j T H s) (p:H l=some (.l xs))
  (e:s.heap.get? l=some { cls:=.type "list",data:=.seq g.toArray n }) (r:f g.toArray=its'.toArray) (C:kZ o its') (J:o.length<=sizeLine) :
  Inv X j T (upd H l (.l o)) { s with heap:=s.heap.update l (Obj.mapSeq f),toks:=U }:=by
 have q:=PySem.IsL.update e f;rw[r] at q;refine I.write (x:=l) (e:=l) (by rw[p];exact trivial) (.inl rfl) (λc u a b=>(jH s.heap (Obj.mapSeq f) (cQ a)).trans b) ⟨_,q⟩ ?_;exact⟨J,its',_,C,q⟩
theorem Inv.lnew (I:Inv X g p H s) (j:kZ ys its) (o:ys.length<=sizeLine) :
  Inv X g p (upd H s.heap.objs.size (.l ys)) { s with heap:=s.heap.push { cls:=.type "list",data:=.seq its.toArray },toks:=t' } :=
 I.laid (λ_ _ q=>aI _ q) (aJ _) ⟨o,its,0,j,aX _ rfl⟩
theorem Inv.fresh (I:Inv X g j H s):H s.heap.objs.size=none:=I.hok.fresh (aJ _)
theorem Inv.lstM (I:Inv X o C H s) (p:H l=some (.l j)):j.length<=sizeLine/\∃ (g:Aa Ac) (n:Nat),kZ j g/\j.length=g.length/\s.heap.get? l=some { cls:=.type "list",data:=.seq g.toArray n }:=by
 obtain⟨z,g,n,r,e⟩:=I.hok l _ p;exact⟨z,g,n,r,r.length,e⟩
theorem Tp (h:n<=sizeLine):Builtin.List.listTooLong n=false:=by
 unfold Builtin.List.listTooLong;exact cF (by omega)
end
section
variable {X:Cx}
def Il:V->Aa V->Hp->VK->Prop:=λx b H Q=>∃ l a y,x = .ref l/\b=[y]/\H l=some (.l a)/\a.length<sizeLine/\Q .e (upd H l (.l (a++[y])))
theorem pT:O7 X "list.append" Il:=by
 intro c s B H x w v t Q I i f h;obtain⟨l,A,y,rfl,rfl,b,m,q⟩:=h;cases i;obtain⟨u,rfl,d⟩:=f.one;obtain⟨z,a,n,r,k,e⟩:=I.lstM b;refine jR F.slot_list_append ⟨_,e,rfl⟩ F.entry_list_append (F.args_list_append_2 _ _) (PySem.list_append l a.toArray n u (by rw[aN];omega)) ⟨e,?_⟩;refine⟨.e,_,I.lset (its':=a++[u]) b e (by simp) (r.append (.cons d .nil)) ?_,rfl,q⟩;rw[bB,eJ];omega
def HH:V->Aa V->Hp->VK->Prop:=λx d H Q=>∃ l b a c,x = .ref l/\d=[.ref b]/\H l=some (.l a)/\H b=some (.l c)/\a.length+c.length<=sizeLine/\Q .e (upd H l (.l (a++c)))
def Od:V->Aa V->Hp->VK->Prop:=λx b H Q=>∃ l a i k y,x = .ref l/\b=[.int i]/\H l=some (.l a)/\-(2 ^ 63)<=i/\i<2 ^ 63/\seqIndex? i a.length=some k/\a[k]?=some y/\Q y (upd H l (.l (a.eraseIdx k)))
theorem Bl:O7 X "list.pop" Od:=by
 intro d s O H x N v M Q I K G h;obtain⟨l,L,i,k,y,rfl,rfl,c,f,m,A,D,q⟩:=h;cases K;obtain⟨u,rfl,E⟩:=G.one;obtain⟨t,rfl⟩:=E;obtain⟨z,a,n,r,B,e⟩:=I.lstM c;obtain⟨w,hw,b⟩:=r.get D;refine jR F.slot_list_pop ⟨_,e,rfl⟩ F.entry_list_pop (F.args_list_pop_2 _ _)
  (MeetsSeq.list_pop_at l a.toArray n i t k w (fitsIndex_both f m) (by rw[aN,<- B];exact A) (by rw[<- fA];exact hw) (by rw[aN];omega)) ⟨e,?_⟩
 refine⟨y,_,I.lset (its':=a.eraseIdx k) c e ?_ (r.eraseIdx k) ?_,b,q⟩
 .show a.toArray.eraseIdxIfInBounds k=(a.eraseIdx k).toArray;rw[List.eraseIdxIfInBounds_toArray]
 .have:=Kx L k;omega
def Rn:R2:=λx y H Q=>∃ l b a c,x = .ref l/\y = .ref b/\H l=some (.l a)/\H b=some (.l c)/\a.length+c.length<=sizeLine/\∀ p,H p=none->Q (.ref p) (upd H p (.l (a++c)))
theorem Aw:mC X (binaryOp .Add) Rn:=by
 intro d s M H x y v u Q I A B h;obtain⟨l,b,G,L,rfl,rfl,m,k,E,q⟩:=h;cases A;cases B;obtain⟨z,c,n,r,D,e⟩:=I.lstM m;obtain⟨K,a,F,w,t,f⟩:=I.lstM k;refine PySem.P.add_list e f ?_ (by rw[aN,aN];omega);have i:c.toArray++a.toArray=(c++a).toArray:=by simp
 rw[i];exact⟨.ref _,_,I.lnew (t':=s.toks) (r.append w) (by rw[bB];omega),rfl,q _ I.fresh⟩
def Kw:R2:=λx y H Q=>∃ l k a,x = .ref l/\y = .int k/\H l=some (.l a)/\-(2 ^ 63)<=k/\k<2 ^ 63/\a.length*k.toNat<=sizeLine /\
 ∀ p,H p=none->Q (.ref p) (upd H p (.l (List.replicate k.toNat a).flatten))
theorem Xz (g:Aa j) (k:Nat):(List.replicate k g).flatten.length=k*g.length:=by
 induction k with
 | zero=>simp
 | succ k a=>rw[cB,fH,bB,a,Nat.succ_mul,Nat.add_comm]
theorem Z4:mC X (binaryOp .Mult) Kw:=by
 intro E s W H x y v u Q I O P h;obtain⟨l,k,V,rfl,rfl,M,K,L,D,q⟩:=h;cases O;obtain⟨t,rfl⟩:=P;obtain⟨z,b,n,r,N,e⟩:=I.lstM M;have i:b.toArray.size*k.toNat<=sizeLine:=by rw[aN,<- N];exact D
 have d:¬ b.toArray.size*k.toNat>(2 ^ 63-1)/8:=by
  have:(sizeLine:Nat)<=(2 ^ 63-1)/8:=by decide
  omega
 have f:¬ (!Builtin.List.listFitsIndex k)=true:=by
  rw[fitsIndex_both K L];exact bA
 have c:¬ Builtin.List.listTooLong (b.toArray.size*k.toNat)=true:=by
  rw[Tp i];exact bA
 have w:List.foldl (λA B=>A++B) #[] (List.replicate (if b.toArray.isEmpty=true then 0 else k.toNat) b.toArray)=(List.replicate k.toNat b).flatten.toArray:=by
  have G:∀ m:Nat,List.foldl (λA B=>A++B) #[] (List.replicate m b.toArray)=(List.replicate m b).flatten.toArray:=λm=>by
   have:=Na b m [];rw[kA] at this;exact this
  rw[G];cases b with
  | nil=>simp
  | cons a S=>rw[bG (by simp)]
 refine wpAny_binaryOp_repeat_ref (T := "list") (U := "int") (by decide) ⟨_,e,rfl⟩ (λR=>kT R k t) noFill_list_mul F.fills_int_mul F.slot_int_rmul repeat_list F.slot_int_index.lookup
  (jR F.slot_int_rmul (kT s k t) F.entry_int_rmul (F.args_int_rmul_2 _ _) (int___rmul___int_list k t l b.toArray n) ⟨e,rfl,⟨_,e,rfl⟩,jR F.slot_list_mul ⟨_,e,rfl⟩ F.entry_list_mul (F.args_list_mul_2 _ _) (AutoListH.list___mul___list_int_3 l b.toArray n k t f d c) ⟨e,?_⟩⟩)
 rw[w];exact⟨.ref _,_,I.lnew (t':=s.toks) (r.rep k.toNat) (by rw[Xz,kG];exact D),rfl,q _ I.fresh⟩
end
section
variable [DecidableEq κ]
noncomputable def qN (g:Aa (κ×V)) (k:κ):Ab V:=(g.find? λa=>decide (a.1=k)).map (·.2)
noncomputable def pS (g:Aa (κ×V)) (k:κ) (v:V):Aa (κ×V) :=
 if (g.any λa=>decide (a.1=k))=true then g.map (λa=>if a.1=k then (a.1,v) else a) else g++[(k,v)]
theorem Dr {p:κ×V}{r:Aa (κ×V)}{k:κ}(e:p.1=k):qN (p::r) k=some p.2:=by simp[qN,eO,e]
theorem Dz {p:κ×V}{r:Aa (κ×V)}{k:κ}(e:¬ p.1=k):qN (p::r) k=qN r k:=by simp[qN,eO,e]
theorem N0 (k:κ):∀ g:Aa (κ×V),(g.any λj=>decide (j.1=k))=(qN g k).isSome
 | []=>rfl
 | p::r=>by
  rw[fQ];by_cases e:p.1=k
  .simp only[Dr e,cG e,Bool.true_or,Option.isSome_some]
  .rw[Dz e,cF e,Bool.false_or];exact N0 k r
theorem Hj (g:Aa (κ×V)) (k:κ) (v:V):(pS g k v).length<=g.length+1:=by
 unfold pS;split
 .rw[aB];omega
 .rw[bB,bY,fZ];omega
theorem sH.isSome_eq (r:sH o u):o.isSome=u.isSome:=by
 cases o with
 | none=>cases u with
  | none=>rfl
  | some _=>exact (show False from r).elim
 | some _=>cases u with
  | none=>exact (show False from r).elim
  | some _=>rfl
theorem sH.getD (r:sH o u) (rd:lH d g):lH (o.getD d) (u.getD g):=by
 cases o with
 | none=>cases u with
  | none=>exact rd
  | some _=>exact (show False from r).elim
 | some _=>cases u with
  | none=>exact (show False from r).elim
  | some _=>exact r
theorem KV.val (r:KV g j) (k:κ):sH (qN g k) (valueAt j k):=by
 unfold KV at r;induction r with
 | nil=>exact True.intro
 | @cons p q m c h t i =>
  obtain⟨d,f⟩:=h;by_cases e:p.1=k
  .have a:q.1=k:=d.symm.trans e;have b:valueAt (q::c) k=some q.2:=by simp[valueAt,eO,a]
   rw[Dr e,b];exact f
  .have a:¬ q.1=k:=λz=>e (d.trans z)
   have b:valueAt (q::c) k=valueAt c k:=by simp[valueAt,eO,a]
   rw[Dz e,b];exact i
theorem KV.any (r:KV j l) (k:κ):(j.any λg=>decide (g.1=k))=l.any λg=>decide (g.1=k):=by
 unfold KV at r;induction r with
 | nil=>rfl
 | cons h t a=>rw[fQ,fQ,a,h.1]
theorem KV.repl (r:KV j o) (k:κ) (l:lH y u) :
  KV (j.map λg=>if g.1=k then (g.1,y) else g) (o.map λg=>if g.1=k then (g.1,u) else g):=by
 unfold KV at r |-;induction r with
 | nil=>exact .nil
 | @cons p q d f h t c =>
  rw[aY,aY];refine .cons ?_ c;obtain⟨a,b⟩:=h;by_cases e:p.1=k
  .rw[bE e,bE (a.symm.trans e)];exact⟨a,l⟩
  .rw[bG e,bG (λz=>e (a.trans z))];exact⟨a,b⟩
theorem KV.put (r:KV g l) (k:κ) (j:lH y u):KV (pS g k y) (stored l k u):=by
 unfold pS stored;rw[r.any k];by_cases e:(l.any λa=>decide (a.1=k))=true
 .rw[bE e,bE e];exact r.repl k j
 .rw[bG e,bG e];exact Paired.snoc r ⟨rfl,j⟩
theorem KV.length (r:KV g j):g.length=j.length:=kQ r
end
theorem xK {P:Ah}(r:lH (kV k) u):(oY P w).is k u=true:=by
 cases k with
 | inl i=>obtain⟨t,e⟩:=(show ∃ t,u=Value.int i t from r);subst e;exact Zq P w i t
 | inr x=>obtain⟨t,e⟩:=(show ∃ t,u=Value.str x t from r);subst e;exact Ud P w x t
theorem Of {P:Ah}:∀ {g:Aa hI}{j:Aa Ac},kZ (g.map kV) j->ItemsAre (oY P w) g j
 | [],_,r=>by rw[kS] at r;cases r;exact .nil
 | k::g,_,r=>by
  rw[aY] at r;cases r with
  | cons h t=>exact .cons (xK h) (Of t)
abbrev KT (H:Hp):Aa (Aa hI×V)->Aa (Aa hI×Ad×Ac)->Prop:=Paired λp q=>p.1=q.1/\H q.2.1=some (.t (p.1.map kV))/\lH p.2 q.2.2
theorem KT.val (r:KT H g j) (k:Aa hI):sH (qN g k) ((atKey j k).map (·.2)):=by
 induction r with
 | nil=>exact True.intro
 | @cons p q m c h t i =>
  obtain⟨d,_,f⟩:=h;by_cases e:p.1=k
  .have a:q.1=k:=d.symm.trans e;have b:atKey (q::c) k=some q.2:=by simp[atKey,eO,a]
   rw[Dr e,b];exact f
  .have a:¬ q.1=k:=λz=>e (d.trans z)
   have b:atKey (q::c) k=atKey c k:=by simp[atKey,eO,a]
   rw[Dz e,b];exact i
theorem KT.repl (r:KT H j o) (k:Aa hI) (l:lH y u) :
  KT H (j.map λg=>if g.1=k then (g.1,y) else g) (o.map (putAt k u)):=by
 induction r with
 | nil=>exact .nil
 | @cons p q f i h t d =>
  rw[aY,aY];refine .cons ?_ d;obtain⟨a,b,c⟩:=h;unfold putAt;by_cases e:p.1=k
  .rw[bE e,bE (a.symm.trans e)];exact⟨a,b,l⟩
  .rw[bG e,bG (λz=>e (a.trans z))];exact⟨a,b,c⟩
theorem KT.put (r:KT H g j) (k:Aa hI) (o:H b=some (.t (k.map kV))) (l:lH y u) :
  KT H (pS g k y) (storedH j k b u):=by
 have e:(g.any λa=>decide (a.1=k))=(atKey j k).isSome:=by
  rw[N0,(r.val k).isSome_eq,Option.isSome_map]
 unfold pS storedH;rw[e];by_cases q:(atKey j k).isSome=true
 .rw[bE q,bE q];exact r.repl k l
 .rw[bG q,bG q];exact Paired.snoc r ⟨rfl,o,l⟩
theorem KT.keeps (r:KT H g p) (o:∀ b j,H b=some (.t j)->l b=some (.t j)):KT l g p :=
 Paired.mapP r λ_ _ z=>⟨z.1,o _ _ z.2.1,z.2.2⟩
section
variable {P:Ah}
theorem Lo (ok:nD P w H h) (e:Rd H a u):pE P w H h a u:=e.ok ok
theorem xL (ok:nD P w H h) (e:Rd H a (.k g)):g.length<=sizeLine/\(a == sysModules)=false/\∃ j,KV g j/\h.DictOf (oY P w) a j :=
 show pE P w H h a (.k g) from Lo ok e
theorem zB (ok:nD P w H h) (e:H a=some (.k g)):g.length<=sizeLine/\(a == sysModules)=false/\∃ j,KV g j/\h.DictOf (oY P w) a j:=xL ok (.inl e)
theorem C1 (ok:nD P w H h) (e:H a=some (.t (g.map kV))):(tupleKind (oY P w)).is h g a:=by
 obtain⟨_,b,r,⟨o,c,d,n,f⟩,_⟩:=(show pE P w H h a (.t (g.map kV)) from ok a _ e);exact⟨o,b.toArray,n,c,d,f,by simpa using Of r⟩
theorem yX (ok:nD P w H h) (e:Rd H a (.T g)):g.length<=sizeLine/\(a == sysModules)=false /\
  ∃ j,KT H g j/\h.DictOfH (tupleKind (oY P w)) a j:=by
 obtain⟨z,y,j,r,o,f,d,i,k,n,s,u⟩:=(show pE P w H h a (.T g) from Lo ok e);refine⟨z,y,j,r,o,f,d,i,k,n,s,λx b=>?_,u⟩;have all:∀ {l:Aa (Aa hI×V)} {m:Aa (Aa hI×Ad×Ac)},KT H l m->∀ x∈m,(tupleKind (oY P w)).is h x.1 x.2.1:=by
  intro l m q;induction q with
  | nil=>intro x b;exact nomatch b
  | @cons p q A B c t v =>
   intro x b;rcases aF.mp b with e | b
   .subst e;exact C1 ok (by rw[<- c.1];exact c.2.1)
   .exact v x b
 exact all r x b
theorem FW (ok:nD P w H h) (e:H a=some (.T g)):g.length<=sizeLine/\(a == sysModules)=false /\
  ∃ j,KT H g j/\h.DictOfH (tupleKind (oY P w)) a j:=yX ok (.inl e)
end
def uR (H:Hp) (a:Ad) (y:V) (r:Ab V):Prop :=
 (∃ c k,Rd H a (.k c)/\y=kV k/\r=qN c k)\/∃ c k b,Rd H a (.T c)/\y = .ref b/\H b=some (.t (k.map kV))/\r=qN c k
def wI (H:Hp) (a:Ad) (y v:V) (g:Hp):Prop :=
 (∃ c k,H a=some (.k c)/\y=kV k/\c.length<sizeLine/\g=upd H a (.k (pS c k v))) \/
 ∃ c k b,H a=some (.T c)/\y = .ref b/\H b=some (.t (k.map kV))/\c.length<sizeLine/\g=upd H a (.T (pS c k v))
theorem uR.k {k:hI}(e:H a=some (.k g)):uR H a (kV k) (qN g k):=.inl ⟨g,k,.inl e,rfl,rfl⟩
theorem wI.k {k:hI}(e:H a=some (.k g)) (j:g.length<sizeLine):wI H a (kV k) v (upd H a (.k (pS g k v))):=.inl ⟨g,k,e,rfl,j,rfl⟩
theorem wI.t {H:Hp}{a b:Ad}{g:Aa (Aa hI×V)}{k:Aa hI}{v:V}(e:H a=some (.T g)) (j:H b=some (.t (k.map kV))) (l:g.length<sizeLine) :
  wI H a (.ref b) v (upd H a (.T (pS g k v))):=.inr ⟨g,k,b,e,rfl,j,l,rfl⟩
section
variable {X:Cx}
theorem Inv.big (I:Inv X g j H s):sysModules<s.heap.objs.size:=by
 have h:mainGlobals<s.heap.objs.size:=(I.mod.glob.keeps I.bk).lt;exact Nat.lt_trans (by decide) h
theorem EZ (T:A.units+1<cLine) (I:Inv X r U H s) (g:uR H a y (some v)) (C:lH y u) (h:∀ j J,Inv X r U H J->lH v j->Q j J) :
  wpAny (model X.prog X.w) A (getItem (.ref a) u) Q E s:=by
 rcases g with⟨m,k,e,f,l⟩ | ⟨m,k,b,e,f,n,l⟩
 .subst f;obtain⟨z,hd,t,rel,d⟩:=xL I.hok e;obtain⟨j,hw,c⟩:=sH.some_of (v:=v) (o:=valueAt t k) (by rw[l];exact rel.val k);exact wpAny_getItem_of (xK C) d.mapOf hw (h j _ (I.tok _) c)
 .subst f;cases (show u=Value.ref b from C);obtain⟨z,hd,x,rel,d⟩:=yX I.hok e;obtain⟨j,hw,c⟩:=sH.some_of (v:=v) (o:=(atKey x k).map (·.2)) (by rw[l];exact rel.val k);obtain⟨p,q,i⟩:=cC.mp hw;refine wpAny_getItem_heap (kJ T) (C1 I.hok n) d q ?_;rw[i];exact h j _ (I.tok _) c
theorem Nu (I:Inv X g C H s) (r:zA (H a)) (p:Heap.SameBut a s.heap j) (o:∃ q,j.get? a=some q) (new:pE X.prog X.w (upd H a l) j a l) :
  Inv X g C (upd H a l) { s with heap:=j,toks:=J } :=
 I.write (x:=a) (e:=a) r (.inl rfl) (λb q c z=>(p.2 b c).trans z) o new
theorem zP {P:Ah}(z:g.length<=sizeLine) (hd:(a == sysModules)=false) (rel:KV g j) (l:o.DictOf (oY P w) a j) :
  pE P w p o a (.k g):=⟨z,hd,j,rel,l⟩
theorem AL (T:A.units+1<cLine) (I:Inv X j U H s) (g:wI H a y v J) (p:lH y u) (o:lH v r) (h:∀ C,Inv X j U J C->Q () C) :
  wpAny (model X.prog X.w) A (setItem (.ref a) u r) Q E s:=by
 rcases g with⟨d,k,e,t,l,n⟩ | ⟨d,k,b,e,t,F,l,n⟩
 .subst t n;obtain⟨z,hd,V,rel,m⟩:=zB I.hok e;have D:V.length<=sizeLine:=by rw[<- rel.length];exact z
  have x:(pS d k v).length<=sizeLine:=by have:=Hj d k v;omega
  refine wpAny_setItem_pairs (hsz:=D) (xK p) m λK f B=>h _ ?_
  have S:∃ q,K.get? a=some q:=let ⟨q,_,_,i,_⟩:=f;⟨q,i⟩;exact Nu I (by rw[e];exact True.intro) B S (zP x hd (rel.put k o) f)
 .subst t n;cases (show u=Value.ref b from p);obtain⟨z,hd,W,rel,m⟩:=FW I.hok e;have D:W.length<=sizeLine:=by rw[<- kQ rel];exact z
  have x:(pS d k v).length<=sizeLine:=by have:=Hj d k v;omega
  refine wpAny_setItem_heap (hsz:=D) (kJ T) (C1 I.hok F) m λK f B=>h _ ?_
  obtain⟨q,M,L,i,N,O,P,_,R⟩:=f;refine Nu I (by rw[e];exact True.intro) B ⟨q,i⟩ ⟨x,hd,_,(rel.put k F o).keeps λc Y G=>?_,q,M,L,i,N,O,P,R⟩;rw[iO (CG G e (λz=>nomatch z))];exact G
end
section
variable {X:Cx}
theorem FO (I:Inv X g o H s) (e:Rd H a (.k j)) (h:∀ t l,Inv X g o H l->Q (.int j.length t) l):wpAny (model X.prog X.w) A (call (.builtin "len") [.ref a]) Q E s:=by
 obtain⟨z,hd,c,rel,b⟩:=xL I.hok e;refine call_len_dict hd b (by rw[<- rel.length];rw[sizeLine_eq] at z;omega) ?_;rw[<- rel.length];exact h _ _ (I.tok _)
end
theorem Kc {X:Cx}(I:Inv X j l H s) (g:uR H a y o):s.TypeIs (.ref a) "dict" := by
 rcases g with⟨d,k,e,_,_⟩ | ⟨d,k,b,e,_,_,_⟩
 .obtain⟨_,_,f,_,c⟩:=xL I.hok e;exact c.typeIs
 .obtain⟨_,_,h,_,c⟩:=yX I.hok e;exact c.typeIs
def pC (g more:Aa (hI×V)):Aa (hI×V):=more.foldl (λa b=>pS a b.1 b.2) g
theorem KV.merge:∀ {more:Aa (hI×V)}{l:Aa (hI×Ac)}{g:Aa (hI×V)}{j:Aa (hI×Ac)},KV more l->KV g j->KV (pC g more) (merged j l):=by
 intro more l g j r;unfold KV at r;induction r generalizing g j with
 | nil=>intro q;exact q
 | @cons p q c d h t a =>
  intro b;have e:KV (pS g p.1 p.2) (stored j q.1 q.2):=by
   have:=b.put p.1 h.2;rw[<- h.1];exact this
  exact a e
theorem Dj:∀ (more g:Aa (hI×V)),(pC g more).length<=g.length+more.length
 | [],g=>by show g.length<=g.length+0;omega
 | p::r,g=>by
  have a:=Dj r (pS g p.1 p.2);have b:=Hj g p.1 p.2;show (pC (pS g p.1 p.2) r).length<=_;rw[bY];omega
structure M2 (X:Cx) (o:Expr) (m:Str) (apos:Pos) (e f:Expr) (cpos:Pos):Prop where
 base:attributeBase o m X.env (eval o X.env)=eval o X.env
 few:((backTo cpos (starEach [e,f] X.env)).all (λx=>!x.1)&&(backToKw cpos (keywordEach [] X.env)).all (λx=>x.1.isSome) && decide (([e,f]:List Expr).length+([]:List Keyword).length+(if ([]:List Keyword).isEmpty then 0 else 1)<30))=true
 line:(apos.endLine == cpos.line)=true
 trees:backTo cpos (starEach [e,f] X.env)=[(false,eval e X.env),(false,eval f X.env)]
def Hn (H:Hp) (a:Ad):Prop:=(∃ b,Rd H a (.k b))\/∃ b,Rd H a (.T b)
theorem BR {X:Cx}(I:Inv X j l H s) (d:Hn H a) :
  s.TypeIs (.ref a) "dict" /\ (∀ b,Value.ref a = .ref b->∃ g,s.heap.get? b=some g/\g.dict=none)/\(a == sysModules)=false:=by
 rcases d with⟨i,e⟩ | ⟨i,e⟩
 .obtain⟨_,hd,k,_,c⟩:=xL I.hok e;refine⟨c.typeIs,λb q=>?_,hd⟩;cases q;obtain⟨g,_,_,f,h,_⟩:=c;exact⟨g,f,h.2.1⟩
 .obtain⟨_,hd,m,_,c⟩:=yX I.hok e;refine⟨c.typeIs,λb q=>?_,hd⟩;cases q;obtain⟨g,_,_,f,h,_⟩:=c;exact⟨g,f,h.2.1⟩
section
variable {X:Cx}
theorem Z1 (T:A.units+1<cLine) (I:Inv X j U H s) (g:uR H a y o) (p:lH y u) (rd:lH d r) (h:∀ J C,Inv X j U H C->lH (o.getD d) J->Q J C) :
  wpAny (model X.prog X.w) A (call (.builtin "dict.get") [.ref a,u,r]) Q E s:=by
 rcases g with⟨i,k,e,f,l⟩ | ⟨i,k,b,e,f,m,l⟩
 .subst f;obtain⟨z,hd,q,rel,c⟩:=xL I.hok e;refine call_meetsIn jO c.typeIs PySem.F.entry_dict_get (PySem.F.args_dict_get_3 _ _ _) (meets_dict_get_default (oY X.prog X.w) a (xK p) hd r) ⟨_,c.mapOf,h _ _ (I.tok _) ?_⟩;rw[l];exact (rel.val k).getD rd
 .subst f;cases (show u=Value.ref b from p);obtain⟨z,hd,n,rel,c⟩:=yX I.hok e;refine call_meetsIn jO c.typeIs PySem.F.entry_dict_get (PySem.F.args_dict_get_3 _ _ _) (meetsH_dict_get_default (tupleKind (oY X.prog X.w)) a b hd r) ⟨kJ T,k,n,C1 I.hok m,c,h _ _ (I.tok _) ?_⟩;rw[l];exact (rel.val k).getD rd
end
def Zy (g ty j:TE):TE:=λb H Q=>g b H λx c=>∃ a,x = .ref a/\Hn c a/\ty b c λy e=>j b e λz d=>∃ o,uR d a y o/\Q (o.getD z) d
section
variable {X:Cx}
theorem Sc (C:X.A.units+1<cLine) (r:PE X o J) (l:PE X e ty) (p:PE X f T) (m:M2 X o "get" apos e f j):PE X (.Call (.Attribute o "get" apos) [e,f] [] j) (Zy J ty T):=by
 intro b s k H Q I h;refine wpAny_Call_method m.base m.few m.line PySem.F.plainAttrs_dict jO PySem.F.type_dict_get (hO (r b s k H _ I h) λu P c=>?_);obtain⟨x,q,n,M,a,E,d,G⟩:=c;subst E;obtain rfl:u=Value.ref a:=M;obtain⟨S,V,_⟩:=BR n d;refine⟨S,V,?_⟩;rw[m.trees];refine Calls.callWith_builtin rfl (Calls.evalArgs_plain (gX (hO (l b P k q _ n G) λY R ⟨y,t,w,N,K⟩ =>gX (hO (p b R k t _ w K) λW U ⟨z,v,B,O,Z,g,L⟩=>jF ?_))));exact Z1 C B g N O λw' s4 D i=>⟨_,v,D,i,L⟩
end
section
variable {X:Cx}
theorem GJ (I:Inv X j r H s) (e:Rd H a (.k g)) (h:∀ p l,H p=none->Inv X j r (upd H p (.k g)) l->Q (.ref p) l):wpAny (model X.prog X.w) A (call (.type "dict") [.ref a]) Q E s:=by
 obtain⟨z,hd,n,rel,f⟩:=xL I.hok e;refine kt_call_dict hd f (by rw[<- rel.length];exact z) λm c i=>?_
 refine h _ _ (I.hok.fresh (aJ _)) (I.laid (a:=s.heap.objs.size) (o:=.k g) (t':=s.toks) (λb q d=>?_) (aJ _) (zP z (eD.mpr (cQ (bF I.big))) rel c));exact (i.2 b (bF (aL d))).trans (aI _ d)
end
end L2
namespace Att
open PySem PySem.W PySem.Calls PyProof.Rows
theorem Zk {P:Params}:∀ (g:Aa Int) (j:Aa Ac),WellAll P h j (g.map WData.int)->IntsAre j g:=by
 intro g;induction g with
 | nil =>
  intro j w;rw[kS] at w;cases w;exact .nil
 | cons n g c =>
  intro j w;rw[aY] at w;cases w with
  | cons a b =>
   cases a;exact .cons _ _ (c _ b)
theorem Tq {l:OpenLaw}(I:l.most=some n){P:Params}
  (j:l.row.toRowW.claim.pre args=true) (p:WellAll P h o args) :
  ∃ a C g,o=[Value.ref a]/\args=[WData.list (g.map WData.int)]/\h.get? a=some { cls:=.type "list",data:=.seq C.toArray }/\IntsAre C g/\g.length<=n:=by
 have i:WShape.hasAll [] args [.list .int]=true:=(pre_splitW j).1;have k:l.pre.holds [] { args:=args }=true:=(pre_splitW j).2;obtain⟨d,r,rfl,m,s⟩:=hasAllW_cons i;obtain rfl:=hasAllW_nil s;obtain⟨y,rfl,t⟩:=hasW_list m;obtain⟨g,rfl⟩:=items_int t;have c:g.length<=n:=by
  unfold OpenLaw.pre at k;have e:(WTm.not (.lt (.lit (.int (n:Int))) (.len (.arg 0)))).holds [] { args:=[.list (g.map .int)] }=true:=by
   have e:=(holds_andW k).1;rw[I] at e;exact e
  have f:=condW_of e (w_not (w_lt w_lit (w_len_list (w_arg rfl))));rw[aB] at f;refine Nat.le_of_not_lt λq=>?_
  have v:(n:Int)<((g.length:Nat):Int):=by omega
  first
   | (rw[cG v] at f;exact absurd f (by decide))
   | (simp at f;omega)
 cases p with
 | cons w x =>
  cases x;cases w with
  | list u b=>exact⟨_,_,g,rfl,rfl,u,Zk g _ b,c⟩
theorem T9 (l:OpenLaw) (args:Aa WData):l.row.toRowW.claim.post args (.bool true) args=true :=
 postW_of (r:=l.row.toRowW) (X:=(true == true))
  (show WShape.has [] (.bool true) .bool=true by first | rfl | decide | simp[WShape.has,WShape.arms,WShape.armsAll])
  (show (WTm.eq .res (.lit (.bool true))).value [] { args:=args,res:=some (.bool true),after:=args }=some (.bool (true == true)) from w_eq_bool (w_res rfl) w_lit) rfl
theorem attach_call {l:OpenLaw}
  (hn:l.most=some n) (aa:d.params.defaults=[])
  (call:∀ (w:World) (j g:Ae) (T mb:Af->Ab Ac) (J:Ad) (o:Obj) (pm cd p:Ac) (a:Ad) (I:Aa Ac) (U:Aa Int),Ground q C [] XP w j T mb g.heap->YP w g.heap ->g.heap.get? J=some o->o.data = .func (docDef d.name d.params d.body d.scope pm cd p)->g.heap.CodeRec cd d.name->T d.name=some (.ref J) ->g.heap.get? a=some { cls:=.type "list",data:=.seq I.toArray }->IntsAre I U->U.length<=n->g.gens=#[] ->
   codeAny (model l.prog w) callerA (.call (.ref J) ⟨[.ref a],[]⟩) (λr s'=>r = .ok (.ret (.bool true))/\OldK g.heap s'.heap/\s'.os=g.os/\AllBare s'.gens) g) :
  WalkO q C XP YP l.row.toRowW d [] (λf I=>PySem.call f I):=by
 intro w j g T mb G Y J o pm cd p v kV E hd i s k A args u as h t H m B;obtain rfl:v = .none:=Dflts.none s aa;obtain rfl:kV = .none:=Dflts.noKw s;obtain⟨a,I,U,rfl,rfl,e,b,c⟩:=Tq hn h m;refine enter_call (codeAny_mono (call w j g T mb J o pm cd p a I U G Y E (fd_plain hd) i k e b c A) λr s' F=>?_);obtain⟨rfl,x,y,z⟩:=F;exact⟨.inl ⟨.bool true,.bool true,[],rfl,λ_=>rfl,.bool true,T9 l _,λ_=>⟨List.Pairwise.nil,λ_ D=>(nomatch D)⟩⟩,x,y,z⟩
end Att
namespace L2
open PySem PySem.Spec PyProof.Rows
theorem Qr:∀ {j:Aa Ac}{g:Aa Int},IntsAre j g->kZ (g.map V.int) j
 | _,_,.nil=>.nil
 | _,_,.cons n t h=>.cons ⟨t,rfl⟩ (Qr h)
def Jx (H:Hp):Prop:=∀ b,H b=none\/∃ o a,H b=some (.frz o (.l a))
theorem Zz {P:Ah}{K:kY}
  (KX:K.In g.heap) (T:g.heap.Ns mainGlobals mg) (j:g.heap.Ns builtinsNs mb) (ab:∀ x:Af,x ≠ "__name__" -> mb x=bootBuiltins x) (J:g.heap.NoLimit) (hg:g.gens=#[])
  (U:g.heap.get? a=some { cls:=.type "list",data:=.seq I.toArray }) (hi:IntsAre I ns) (hl:ns.length<=sizeLine) (hr:Room k callerA)
  (F:∀ base:Ag,K.In base->base.Ns mainGlobals mg->FnOk P w K mg base CX k fa fd [x] sp) (C:∀ (s:Ae) (u:Ac),BindsTo s fd ⟨[u],[]⟩ [(x,u)])
  (ac:∀ H:Hp,Jx H->eT K H a (ns.map V.int)->sp [.ref a] H (λv _=>v = .b true) λ_ _ _=>False)
  (aa:∀ H e p,CX [] H g (λ_ _ _=>False) e p->False) :
  codeAny (model P w) callerA (.call (.ref fa) ⟨[.ref a],[]⟩) (λr p=>r = .ok (.ret (.bool true))/\OldK g.heap p.heap/\p.os=g.os/\AllBare p.gens) g:=by
 have R:=Qr hi;have D:=hi.length;have core:∀ H:Hp,Jx H->eT K H a (ns.map V.int)->nD P w H g.heap->(∀ b,H b≠none->b=a)->(H a≠none->K.lookup a=none) ->
   codeAny (model P w) callerA (.call (.ref fa) ⟨[.ref a],[]⟩) (λr p=>r = .ok (.ret (.bool true))/\OldK g.heap p.heap/\p.os=g.os/\AllBare p.gens) g:=by
  intro H Q hS A O hK;have c:∀ {b:Ad} {o:Obj},g.heap.get? b=some o->H b=none->(uZ g.heap H).get? b=some o:=λe n=>Ti e n
  have M:∀ {b:Ad} {o:Obj} {t:Array DictEntry} {i:Nat},g.heap.get? b=some o->o.data = .dict t i->H b=none:=λ{b o t i} e d=>by
   cases q:H b with
   | none=>rfl
   | some u =>
    have G:b=a:=O b (by rw[q];simp);subst G;rw[U] at e;cases e;have S:Data.seq I.toArray _=Data.dict t i:=d;cases S
  have f:∀ {b:Ad} {m:Af->Ab Ac},g.heap.Ns b m->(uZ g.heap H).Ns b m:=λ{b m} ⟨o,t,i,e,d,r⟩=>⟨o,t,i,c e (M e d),d,r⟩
  have y:K.In (uZ g.heap H):=λb o e=>c (KX b o e) (by
   cases q:H b with
   | none=>rfl
   | some u =>
    have G:b=a:=O b (by rw[q];simp);subst G;rw[hK (by rw[q];simp)] at e;cases e)
  have hM:Mod K mg (uZ g.heap H):=⟨y,f T,⟨mb,f j,ab⟩,let ⟨mc,Z,h2⟩:=J;⟨mc,f Z,h2⟩⟩;have W:Env0 P w K mg (uZ g.heap H) callerA [] g H:=⟨rfl,hM,λb o e=>S6 e,Nat.le_of_eq (Zn _ _),trivial,λb j=>absurd (show b∈([]:Aa Ad) from j) (by simp),A,.of_eq hg⟩;refine codeAny_mono ((F _ y (f T)).run callerA [] g H ⟨[.ref a],[]⟩ [.ref a] [.ref a] _ _ hr W (C g (.ref a)) (.cons rfl .nil) (ac H Q hS)) λr p h=>?_
  cases r with
  | error e=>exact (aa H e p h).elim
  | ok Y =>
   cases Y with
   | next=>exact False.elim h
   | brk=>exact False.elim h
   | cont=>exact False.elim h
   | ret u =>
    obtain⟨v,H',os,bare,un,B,r',q⟩:=h;have q':v = .b true:=q;subst q';obtain rfl:u=Value.bool true:=r';refine⟨rfl,OldK.of_keep λb o e=>?_,os,bare⟩;cases q:H b with
    | none=>exact un.keep b o e q (by intro z;exact absurd (show b∈([]:Aa Ad) from z) (by simp)) (by simp)
    | some u =>
     rcases Q b with z | ⟨ob,xs,z⟩
     .rw[q] at z;cases z
     .have z2:=un.frzs b ob _ z;obtain⟨N,_⟩:=A b _ z;obtain⟨X,_⟩:=B b _ z2;rw[e] at N;cases N;exact X
 cases L:K.lookup a with
 | some o =>
  have e:=KX a o L;rw[U] at e;cases e;refine core (λ_=>none) (λ_=>.inl rfl) (.inr ⟨_,I.toArray,_,L,rfl,rfl,rfl,by rw[aN,D];exact hl,by simpa using R⟩) (λb u z=>by have E:(none:Ab HO)=some u:=z;cases E) (λb z=>absurd rfl z) λz=>absurd rfl z
 | none =>
  refine core (λb=>if b=a then some (.frz { cls:=.type "list",data:=.seq I.toArray } (.l (ns.map V.int))) else none) (λb=>?_) (.inl (.inr ⟨{ cls:=.type "list",data:=.seq I.toArray },bE rfl⟩)) (λb u z=>?_) (λb z=>?_) λ_=>L
  .by_cases j:b=a
   .exact .inr ⟨_,_,bE j⟩
   .exact .inl (bG j)
  .by_cases j:b=a
   .have E:=(bE j).symm.trans z;cases E;subst j;exact⟨U,by rw[aB];exact hl,I,_,R,U⟩
   .have E:=(bG j).symm.trans z;cases E
  .by_cases j:b=a
   .exact j
   .exact absurd (bG j) z
theorem walk_of {l:PySem.W.OpenLaw}{n k:Nat}{q:Ah}{j:Aa Af}{XP:(Af->Ab Ac)->Ag->Prop}{YP:World->Ag->Prop}{d:DefRec}{K:Params->kY}{CX:World->yS}{sp:World->Sp}{x:Af}
  (hn:l.most=some n) (U:n<=sizeLine) (J:d.params.defaults=[]) (hr:Room k callerA)
  (hY:∀ (w:World) (h:Ag),YP w h->(K w.params).In h)
  (F:∀ (w:World) (p:Af->Ab Ac) (r:Ad) (h:Ag),(K w.params).In h->h.Ns mainGlobals p->p d.name=some (.ref r) ->∃ fd:FuncData,(∀ (s:Ae) (u:Ac),BindsTo s fd ⟨[u],[]⟩ [(x,u)]) /\ ∀ base:Ag,(K w.params).In base->base.Ns mainGlobals p->FnOk l.prog w (K w.params) p base (CX w) k r fd [x] (sp w))
  (aa:∀ (w:World) (H:Hp) (a:Ad) (C:Aa Int),C.length<=n->Jx H->eT (K w.params) H a (C.map V.int)->sp w [.ref a] H (λv _=>v = .b true) λ_ _ _=>False)
  (I:∀ (w:World) (H:Hp) (s:Ae) (e:Ac) (s':Ae),CX w [] H s (λ_ _ _=>False) e s'->False) :
  PySem.W.WalkO q j XP YP l.row.toRowW d [] (λf vs=>PySem.call f vs):=by
 refine Att.attach_call hn J λw A t p Q r o pm cd B a vs C G Y P hd N y m i c O=>?_
 have z:=hY w _ Y;obtain⟨fd,M,D⟩:=F w p r _ z G.T.g y;exact Zz z G.T.g G.T.b G.T.builtins G.T.nolimit O m i (bV c U) hr D M (λH E L=>aa w H a C c E L) λH e s'=>I w H t e s'
def rT (s:Stmt):Arguments:=match s with
 | .FunctionDef _ a _ _ _ _ _ _ _ _=>a
 | _=>{ posonlyargs:=[],args:=[],vararg:=none,kwonlyargs:=[],kw_defaults:=[],kwarg:=none,defaults:=[] }
def qQ (s:Stmt):Aa Stmt:=match s with
 | .FunctionDef _ _ b _ _ _ _ _ _ _=>b
 | _=>[]
def lU (s:Stmt):Scope:=match s with
 | .FunctionDef _ _ _ _ _ _ a _ _ _=>a
 | _=>{ kind:=.function,names:=[],isGenerator:=false,isCoroutine:=false }
abbrev mQ:yS:=λ_ _ _ _ _ _=>False
abbrev E0:XK:=λ_ _ _=>False
theorem qB {X:Cx}:Cu mQ X E0:=λ_ _ _ _ _ _ _ h=>h.elim
structure Fun (K:kY) (x qual:Str) (st:Stmt) (f:Addr) (fd:FuncData):Prop where
 ex:∃ (oc:Value) (od:Option Addr) (kV doc pm:Value) (an:Option Addr) (cdv ct:Value) (osl:Array (Option Value)),
  fd=PySem.W.fnOf x qual (rT st) (qQ st) (lU st) .none kV doc pm an cdv ct/\K.lookup f=some ⟨oc,od,.func fd,osl⟩/\PySem.W.codeIn K cdv qual=true
 kp:PySem.W.keepIn K (.ref f)=true
section
variable {P:Ah}{K:kY}
theorem Fun.ok {st:Stmt}(F:Fun K x l st f fd) (S:FnScope N r (lU st)) (len:∀ p H Q E,C p H Q E->p.length=r.length)
  (o:∀ (j:Ac) (A:Around) (g:Aa Env) (s:Ae) (H:Hp) (p:Aa V) (Q:VK) (E:XK),Room k (A.deeper (envOfC l (lU st) s.heap.objs.size f j))->C p H Q E ->∃ t,oA (vO mQ P w K J base N l (lU st) f j A g s H E).nox (qQ st) t/\t { nx:=λ_ I=>Q .e I,rt:=Q } (sV N p) H):FnOk P w K J base mQ (k+1) f fd r C:=by
 obtain⟨v,y,kV,c,pm,n,j,u,m,rfl,i,a⟩:=F.ex;refine Tf i a S len λA g s H p Q E d b=>?_
 obtain⟨t,h,q⟩:=o j A g s H p Q E d b;exact⟨t,h.nox,q⟩
theorem Fun.binds {st:Stmt}(F:Fun K x l st f fd)
  (h:∀ (kV j pm:Ac) (o:Ab Ad) (g p:Ac) (r:Aa Ac),r.length=C.length->bindArgs (PySem.W.fnOf x l (rT st) (qQ st) (lU st) .none kV j pm o g p) ⟨r,[]⟩=pure (C.zip r)):vC K fd C []:=by
 obtain⟨d,e,kV,j,pm,o,g,p,b,rfl,c,a⟩:=F.ex;exact .all (h kV j pm o g p)
theorem M6 {st:Stmt}{kV:Ac}(l:K.lookup f=some ⟨I,J,.func (PySem.W.fnOf x g (rT st) (qQ st) (lU st) .none kV o pm r j C),p⟩)
  (c:PySem.W.codeIn K j g=true) (k:PySem.W.keepIn K (.ref f)=true):Fun K x g st f (PySem.W.fnOf x g (rT st) (qQ st) (lU st) .none kV o pm r j C):=⟨⟨I,J,kV,o,pm,r,j,C,p,rfl,l,c⟩,k⟩
end
theorem Ni (g:Room k A):A.units+1<cLine:=cP (Nat.add_le_add_left (by decide:1<=64) _) g.units
section
variable {X:Cx}
theorem pv (i:Nat) (j:X.N[i]?=some x:=by rfl) (l:Ck X.env.scope x:=by first | exact Or.inl rfl | exact Or.inr (Or.inl rfl) | exact Or.inr (Or.inr rfl)) (hd:(x == ("__debug__" : Af))=false:=by decide)
  (g:(x == ("__classdict__" : Af))=false:=by decide):PE X (.Name x pos) (pR i):=DQ j l hd g
theorem CD:mK X (.builtin "len") (λj H Q=>∃ a g,j=[V.ref a]/\H a=some (.k g)/\Q (.int g.length) H):=by
 intro b s m H j i Q I r h;obtain⟨a,g,rfl,d,q⟩:=h;obtain⟨u,rfl,e⟩:=oM r;cases e;exact FO I (.inl d) λt f c=>⟨.int g.length,H,c,⟨t,rfl⟩,q⟩
end
theorem wD {A B:Prop}(h:B):if false=true then A else B:=by
 rw[bG bA];exact h
theorem wR {c A B:Prop} [Decidable c] (g:c->A) (j:¬ c->B):if c then A else B:=by
 by_cases h:c
 .rw[bE h];exact g h
 .rw[bG h];exact j h
def oC (H g:Hp):Prop:=∀ b o,H b=some o->g b=some o
theorem oC.trans (a:oC H g) (b:oC g j):oC H j:=λc o h=>b c o (a c o h)
theorem oC.free (e:oC H g) (h:g l=Option.none):H l=Option.none:=by
 cases q:H l with
 | none=>rfl
 | some o =>
  rw[e l o q] at h;cases h
theorem oC.seq {K:kY}(e:oC H g) (h:eT K H a j):eT K g a j:=by
 rcases h with (h | ⟨o,h⟩) | h
 .exact .inl (.inl (e _ _ h))
 .exact .inl (.inr ⟨o,e _ _ h⟩)
 .exact .inr h
section
variable [DecidableEq κ]
theorem N6:∀ {l:Aa κ}{k:κ},l.Nodup->¬ k∈l->(l++[k]).Nodup
 | [],k,_,_=>by simp
 | a::r,k,h,b=>by
  obtain⟨c,d⟩:=bW.mp h;show (a::(r++[k])).Nodup;refine bW.mpr ⟨λm=>?_,N6 d λm=>b (aF.mpr (Or.inr m))⟩;rcases aV.mp m with q | q
  .exact c q
  .exact b (aF.mpr (Or.inl (aU.mp q).symm))
end
section
variable {X:Cx}
theorem Ca {K:kY}:∀ {j:Aa Int}{g:Aa Ac},kZ (j.map V.int) g->∃ xs:Array (Int×Tok),g.toArray=intItems xs/\j=xs.toList.map (·.1)
 | [],_,.nil=>⟨#[],by simp[intItems],rfl⟩
 | n::j,_,.cons r c=>by
  obtain⟨t,rfl⟩:=r;obtain⟨xs,a,b⟩:=Ca (K:=K) c;refine⟨(⟨(n,t)::xs.toList⟩:Array (Int×Tok)),?_,by rw[b];rfl⟩;have:(intItems xs).toList=_:=(eA Array.toList a).symm;unfold intItems at this |-;refine Array.toList_inj.mp ?_;simp only[Array.toList_map] at this |-;rw[aY,this]
theorem C7 (p:l=o.toList.map (·.1)) (g:j<o.size):∃ h:j<l.length,numAt o j=l[j]:=by
 subst p;refine⟨by simpa using g,?_⟩;simp[numAt,g]
theorem Ur (l:X.calm=true):mK X (.builtin "sum") (λj H Q=>∃ (p:Ad) (g:Aa Int),j=[.ref p]/\eT X.K H p (g.map V.int)/\Q (.int g.sum) H):=by
 intro a s z H j y Q I r h;obtain⟨p,g,rfl,d,q⟩:=h;obtain⟨u,rfl,m⟩:=oM r;cases m;obtain⟨f,k,i,w⟩:=I.list d;obtain⟨t,e,b⟩:=Ca (K:=X.K) k;refine sum_intListG (xs:=t) (I.ok.hd l) (e▸i.isList) λv x n c=>⟨.int g.sum,H,I.kept c,⟨n,?_⟩,q⟩
 rw[preSum_eq,aQ (by simp),b]
theorem Ul (l:X.calm=true):mK X (.builtin "min") (λxs H Q=>∃ (p:Ad) (g:Aa Int),xs=[.ref p]/\eT X.K H p (g.map V.int)/\g≠[]/\∀ m:Int,m∈g->(∀ a∈g,m<=a)->Q (.int m) H):=by
 intro k s W H xs S Q I r h;obtain⟨p,g,rfl,A,d,q⟩:=h;obtain⟨u,rfl,M⟩:=oM r;cases M;obtain⟨D,L,G,O⟩:=I.list A;obtain⟨b,e,c⟩:=Ca (K:=X.K) L;have f:0<b.size:=by
  rcases Nat.eq_zero_or_pos b.size with z | z
  .exfalso;apply d;rw[c];simp[Array.size_eq_zero_iff.mp z]
  .exact z
 refine min_intList (xs:=b) (I.ok.hd l) (e▸G.isList) f λv N R B y=>?_
 obtain⟨t,rfl⟩:=intItems_at (xs:=b) B;have best:=argBest_lt (numAt b) (b.size-1);obtain⟨F,n⟩:=C7 c (cP best.1 (show b.size-1<b.size by omega));refine⟨.int _,H,I.kept y,⟨t,rfl⟩,q _ (n▸dX F) λa x=>?_⟩;obtain⟨j,i,rfl⟩:=cR x;have E:j<b.size:=by rw[c] at i;simpa using i
 obtain⟨P,w⟩:=C7 c E;exact w▸best.2 j (by omega)
theorem CB (l:X.calm=true):mK X (.builtin "max") (λxs H Q=>∃ (p:Ad) (g:Aa Int),xs=[.ref p]/\eT X.K H p (g.map V.int)/\g≠[]/\∀ m:Int,m∈g->(∀ a∈g,a<=m)->Q (.int m) H):=by
 intro k s W H xs S Q I r h;obtain⟨p,g,rfl,A,d,q⟩:=h;obtain⟨u,rfl,M⟩:=oM r;cases M;obtain⟨D,L,G,O⟩:=I.list A;obtain⟨b,e,c⟩:=Ca (K:=X.K) L;have f:0<b.size:=by
  rcases Nat.eq_zero_or_pos b.size with z | z
  .exfalso;apply d;rw[c];simp[Array.size_eq_zero_iff.mp z]
  .exact z
 refine max_intList (xs:=b) (I.ok.hd l) (e▸G.isList) f λv N R B y=>?_
 obtain⟨t,rfl⟩:=intItems_at (xs:=b) B;have best:=argBest_gt (numAt b) (b.size-1);obtain⟨F,n⟩:=C7 c (cP best.1 (show b.size-1<b.size by omega));refine⟨.int _,H,I.kept y,⟨t,rfl⟩,q _ (n▸dX F) λa x=>?_⟩;obtain⟨j,i,rfl⟩:=cR x;have E:j<b.size:=by rw[c] at i;simpa using i
 obtain⟨P,w⟩:=C7 c E;exact w▸best.2 j (by omega)
def W3 (K:kY):V->Aa V->Hp->VK->Prop:=λx b H Q=>∃ (l:Ad) (a:Aa V) (y:V) (j:Nat),x = .ref l/\b=[y]/\eT K H l a/\a.all pU=true/\pU y=true/\j<a.length /\
 (∀ z,a[j]?=some z->oO z y=true)/\(∀ (m:Nat) z,m<j->a[m]?=some z->oO z y=false)/\Q (.int j) H
theorem AH:yP X "list.index" (W3 X.K):=by
 intro P s σ H x vs v us Q I C p h;obtain⟨l,D,y,j,rfl,rfl,Z,E,S,T,V,W,q⟩:=h;cases C;obtain⟨u,rfl,o⟩:=p.one;obtain⟨a,r,g,U⟩:=I.list Z;have M:=r.length;obtain⟨⟨cls,R,data,J⟩,N,G,n,hd⟩:=g.isList;simp only at G hd;subst G hd;have O:∀ (i:Nat) (L:i<a.toArray.size),∃ z,D[i]?=some z/\sC y a.toArray[i]=oO z y:=λi L=>by
  have f:i<a.length:=by simpa using L
  have w:D[i]?=some (D[i]'(by omega)):=aG (by omega);obtain⟨B,hw,A⟩:=r.get w;have e:a.toArray[i]=B:=by
   rw[aG f] at hw
   simpa using cA hw
  refine⟨_,w,?_⟩;rw[e];exact Fl A (dY.mp E _ (aR w))
 have c:j<a.toArray.size:=by rw[aN];omega
 have k:sizeLine<2 ^ 63-1:=by decide
 refine jR PySem.F.slot_list_index ⟨_,N,rfl⟩ PySem.F.entry_list_index (PySem.F.args_list_index_2 _ _)
  (SeqAt.list_indexAt l a.toArray n R J u (sC y) j c (by omega) ?_ ?_) ⟨N,λB hw=>Eg o S r E B (by simpa using hw),⟨.int j,H,I.tok _,⟨_,rfl⟩,q⟩⟩
 .obtain⟨z,b,d⟩:=O j c;show sC y a.toArray[j]=true;rw[d];exact V z b
 .intro m Y t;obtain⟨z,b,d⟩:=O m Y;show sC y a.toArray[m]=false;rw[d];exact W m z t b
theorem Ic:∀ {j:Aa Af}{g:Aa Ac},kZ (j.map V.str) g->StrsAre g j:=by
 intro j;induction j with
 | nil=>intro g r;cases r;exact .nil
 | cons y r c =>
  intro g h;cases h with
  | cons a b =>
   obtain⟨t,rfl⟩:=a;exact .cons _ _ (c b)
def T8 (K:kY):V->Aa V->Hp->VK->Prop:=λx b H Q=>∃ (z:Af) (l:Ad) (a:Aa Af),x = .str z/\b=[.ref l]/\(eT K H l (a.map V.str)\/mA K H l (a.map V.str)) /\
 (a.map (·.length)).sum+a.length*z.length<=16777216/\Q (.str (Txt.join z a)) H
theorem Wo:yP X "str.join" (T8 X.K):=by
 intro e s B H x y v w Q I m i h;obtain⟨z,l,A,rfl,rfl,a,d,q⟩:=h;obtain⟨t,rfl⟩:=m;obtain⟨u,rfl,f⟩:=i.one;cases f;rcases a with a | a
 .obtain⟨b,r,c,_⟩:=I.list a;exact join_list c.isList (by simpa using Ic r) d λn k=>⟨.str _,H,I.tok _,⟨_,rfl⟩,q⟩
 .obtain⟨b,r,c,_⟩:=I.tuple a;exact join_tuple c (by simpa using Ic r) d λn k=>⟨.str _,H,I.tok _,⟨_,rfl⟩,q⟩
end
mutual
inductive DatV (K:kY) (H:Hp):V->PyData->Prop where
 | e:DatV K H .e .none
 | b (b:Bool):DatV K H (.b b) (.bool b)
 | int (i:Int):DatV K H (.int i) (.int i)
 | str (x:Str):DatV K H (.str x) (.str x)
 | l {a:Addr} {xs:List V} {ds:List PyData}:eT K H a xs->DatVs K H xs ds->DatV K H (.ref a) (.list ds)
 | t {a:Addr} {xs:List V} {ds:List PyData}:mA K H a xs->DatVs K H xs ds->DatV K H (.ref a) (.tuple ds)
inductive DatVs (K:kY) (H:Hp):List V->List PyData->Prop where
 | nil:DatVs K H [] []
 | cons {x:V} {d:PyData} {xs:List V} {ds:List PyData}:DatV K H x d->DatVs K H xs ds->DatVs K H (x::xs) (d::ds)
end
section
variable {X:Cx}
mutual
theorem DatV.reads (I:Inv X g j H s):∀ {x:V}{d:PyData}{u:Ac},DatV X.K H x d->lH x u->∃ as,Reads s.heap u d as
 | _,_,_,.e,r=>by cases r;exact⟨_,.none⟩
 | _,_,_,.b b,r=>by cases r;exact⟨_,.bool b⟩
 | _,_,_,.int i,r=>by obtain⟨t,rfl⟩:=r;exact⟨_,.int i t⟩
 | _,_,_,.str x,r=>by obtain⟨t,rfl⟩:=r;exact⟨_,.str x t⟩
 | _,_,_,.l a f,r=>by
  cases r;obtain⟨k,m,⟨o,n,e,c,_,d⟩,_⟩:=I.list a;obtain⟨as,h⟩:=DatVs.reads I f m;exact⟨_,.list e c d (by simpa using h)⟩
 | _,_,_,.t a f,r=>by
  cases r;obtain⟨k,m,⟨o,e,c,n,d⟩,_⟩:=I.tuple a;obtain⟨as,h⟩:=DatVs.reads I f m;exact⟨_,.tuple e c d (by simpa using h)⟩
theorem DatVs.reads (I:Inv X j p H s):∀ {o:Aa V}{g:Aa PyData}{l:Aa Ac},DatVs X.K H o g->kZ o l->∃ as,ReadsAll s.heap l g as
 | _,_,_,.nil,.nil=>⟨_,.nil⟩
 | _,_,_,.cons h c,.cons r d=>by
  obtain⟨as,a⟩:=DatV.reads I h r;obtain⟨bs,b⟩:=DatVs.reads I c d;exact⟨_,.cons a b⟩
end
end
section
variable {X:Cx}
def Jq (K:kY) (neg:Bool):R2:=λx y H Q=>∃ a c,DatV K H x a/\DatV K H y c/\a.canLay0=true/\c.canLay0=true/\min a.depth c.depth<=60/\Q (.b (if neg then !PyData.eqv a c else PyData.eqv a c)) H
theorem U4 (g:X.A.units+64<cLine):mC X (compareOp .Eq) (Jq X.K false):=by
 intro a s B H x y v u Q I m n h;obtain⟨t,w,c,d,e,f,z,q⟩:=h;obtain⟨as,i⟩:=c.reads I m;obtain⟨bs,k⟩:=d.reads I n;exact SeqAt.compareEq_reads i k e f (by omega) ⟨.b _,H,I,rfl,q⟩
theorem CH (g:X.A.units+64<cLine):mC X (compareOp .NotEq) (Jq X.K true):=by
 intro a s B H x y v u Q I m n h;obtain⟨t,w,c,d,e,f,z,q⟩:=h;obtain⟨as,i⟩:=c.reads I m;obtain⟨bs,k⟩:=d.reads I n;exact SeqAt.compareNe_reads i k e f (by omega) ⟨.b _,H,I,rfl,q⟩
def Ep (K:kY) (neg:Bool):R2:=λx y H Q=>∃ (a b:Ad) (c:Aa V),x = .ref a/\y = .ref b/\eT K H a c/\eT K H b []/\Q (.b (if neg then !c.isEmpty else c.isEmpty)) H
theorem G4 (g:X.A.units+64<cLine):mC X (compareOp .Eq) (Ep X.K false):=by
 intro c s M H x y v u Q I F G h;obtain⟨a,b,L,rfl,rfl,f,z,q⟩:=h;cases F;cases G;obtain⟨B,D,m,_⟩:=I.list f;obtain⟨k,E,n,_⟩:=I.list z;cases E;have t:∀ d,d=L.isEmpty->EP X c M Q (.bool d) s:=λd e=>⟨.b d,H,I,rfl,by subst e;exact q⟩
 cases D with
 | nil=>exact SeqAt.RcAt.lists (e:=λ_=>true) m.isList n.isList rfl (by omega) (λi f _=>by simp at f) X.prog X.w _ _ (t _ (by simp))
 | cons r N=>exact SeqAt.RcAt.lists_lengths m.isList n.isList (by simp) (by omega) X.prog X.w _ _ (t _ rfl)
end
end L2
namespace L2
open PySem PySem.Spec PyProof.Rows
section
variable {X:Cx}
def rS (z:Af) (lo g:Ab Int):Af:=⟨((z.cps.toList.drop (HT.sIx z.length 0 lo)).take (HT.sIx z.length z.length g-HT.sIx z.length 0 lo)).toArray⟩
theorem W9 (lo g:Ab Int) (n:Nat):Builtin.Str.strSliceIndices lo g 1 n=(List.range (HT.sIx n n g-HT.sIx n 0 lo)).map (HT.sIx n 0 lo+·):=by
 unfold Builtin.Str.strSliceIndices;rw[<- sliceRange_one];have c:∀ (v:Ab Int) (d:Nat),d<=n->(match v with | none=>((d:Nat):Int) | some i=>if (1:Int)>0 then max 0 (min (if i<0 then i+(n:Int) else i) (n:Int)) else max (-1) (min (if i<0 then i+(n:Int) else i) ((n:Int)-1)))=((HT.sIx n d v:Nat):Int):=by
  intro v d hd;cases v with
  | none=>rfl
  | some i =>
   simp only[HT.sIx,show (1:Int)>0 by decide,eU];by_cases h:i<0
   .simp only[h,eU]<;>omega
   .simp only[h,eS]<;>omega
 have a:=c lo 0 (dN _);have b:=c g n (aJ _);simp only[show (1:Int)>0 by decide,eU] at a b |-;rw[<- a,<- b];cases lo<;>cases g<;>rfl
def P0:V->Ab Int->Ab Int->Hp->VK->Prop:=λx lo a H Q=>∃ z:Af,x = .str z/\z.length<=sizeLine/\Q (.str (rS z lo a)) H
theorem Ny (p:IsPart v o):∃ l:Ab (Int×Tok),v=partValue l/\o=l.map (·.1):=by
 cases p with
 | none=>exact⟨none,rfl,rfl⟩
 | int i t=>exact⟨some (i,t),rfl,rfl⟩
theorem wP (z:Af):z.cps.toList.length=z.length:=by
 rw[gH];rfl
theorem AG {a b:Af}(h:a.cps.toList=b.cps.toList):a=b:=by
 obtain⟨a⟩:=a;obtain⟨b⟩:=b
 congr
 exact Array.toList_inj.mp h
theorem Jk:uB X P0:=by
 intro c s L H x v G K lo B E Q I A n w y h;obtain⟨z,rfl,D,q⟩:=h;obtain⟨t,rfl⟩:=A;obtain⟨l,rfl,rfl⟩:=Ny w;obtain⟨u,rfl,rfl⟩:=Ny y;refine⟨"str",_,PySem.F.slot_str_getitem.lookup,typeIs_str _ z t,?_⟩;refine wpAny_getItem_str_slice (l:=l) (u:=u) (st:=none) n rfl ?_;have e:slicePicked z l u none=(List.range (HT.sIx z.length z.length (u.map (·.1))-HT.sIx z.length 0 (l.map (·.1)))).map (HT.sIx z.length 0 (l.map (·.1))+·):=W9 _ _ _;have d:(⟨((slicePicked z l u none).filterMap (z.cps[·]?)).toArray⟩:Af)=rS z (l.map (·.1)) (u.map (·.1)):=by
  rw[e,pick_run];rfl
 have m:=HT.sIx_le z.length z.length (aJ _) (u.map (·.1));have b:=HT.sIx_le z.length 0 (dN _) (l.map (·.1));unfold sliceMade;split
 .rename_i k
  have a:(slicePicked z l u none).length=z.length:=by
   have:=(cE _ _).mp k;exact eq_of_beq this.2
  have f:rS z (l.map (·.1)) (u.map (·.1))=z:=by
   rw[e,aB,cI] at a;apply AG;show ((z.cps.toList.drop _).take _)=z.cps.toList;have i:HT.sIx z.length 0 (l.map (·.1))=0:=by omega
   rw[i] at a |-;rw[List.drop_zero,aQ];rw[wP];omega
  rw[f] at q;exact⟨.str z,H,I,⟨t,rfl⟩,q⟩
 .rw[d];refine⟨?_,.str _,H,I.tok _,⟨_,rfl⟩,q⟩;have:(rS z (l.map (·.1)) (u.map (·.1))).length<=z.length:=by
   show ((z.cps.toList.drop _).take _).toArray.size<=_;rw[aN,bT,dH,wP];omega
  omega
theorem Wm:mK X (.type "dict") (λj H Q=>∃ (a:Ad) (g:Aa (hI×V)),j=[.ref a]/\H a=some (.k g)/\∀ p,H p=none->Q (.ref p) (upd H p (.k g))):=by
 intro b s n H j m Q I r h;obtain⟨a,g,rfl,d,q⟩:=h;obtain⟨u,rfl,f⟩:=oM r;cases f;exact GJ I (.inl d) λp i e c=>⟨.ref p,_,c,rfl,q p e⟩
end
def tD (z:Af):It:=⟨λi _=>i<z.length,λi H x a=>a=H/\∃ c,z.cps[i]?=some c/\x = .str ⟨#[c]⟩,λi _=>z.length<=i⟩
theorem L9 {P:Ah}{K:kY}(z:Af) (t:Tok) (it:Ad):Turn P w K tg (tD z) [it] it (λi h=>h.IsStrIter it "str_ascii_iterator" z t i) where
 mem:=by simp
 obj:=λi h st b hb=>by
  have e:b=it:=by simpa using hb
  subst e;obtain⟨o,e,c,d⟩:=st;exact⟨o,e,λv z=>by rw[d] at z;cases z⟩
 keep:=λi h h' st k=>by
  obtain⟨o,e,r⟩:=st;exact⟨o,k it (by simp) o e,r⟩
 item:=by
  intro X hP hw hK hc i pins s σ H E I hf st hg;subst hP hw hK;have hg:i<z.length:=hg;obtain⟨f0,f1,f2,f3,f4,f5⟩:=hf it (by simp);have hz:z.cps[i]?=some (z.cps[i]'hg):=eC hg;refine wpAny_pyNext_ascii_item st hz λh' st' sb=>?_
  have I1:Inv X pins σ H { s with heap:=h',toks:=s.toks+1 }:=I.turned (t':=s.toks+1) (λb o hb e=>(sb.2 b hb).trans e) f0 f1 f3 f4 f5;obtain⟨o,e,c,d⟩:=id st';exact⟨_,rfl,Fa (s:={ s with heap:=h',toks:=s.toks+1 }) e c d (by decide) ⟨.str ⟨#[z.cps[i]'hg]⟩,H,I1,⟨_,rfl⟩,⟨rfl,_,hz,rfl⟩,st',λb hb=>(hf b hb).1⟩⟩
 done:=by
  intro X hP hw hK hc i pins s σ H E I hf st hg;subst hP hw hK;have hg:z.length<=i:=hg;obtain⟨f0,f1,f2,f3,f4,f5⟩:=hf it (by simp);exact wpAny_pyNext_ascii_end (I.ok.hd hc) st (eW (by exact hg)) λh' eb=>⟨rfl,I.turned (t':=s.toks) (λb o hb e=>eb b o hb e) f0 f1 f3 f4 f5⟩
 self:=λ_ _ _ _ _ st h=>wpAny_pyIter_striter_ascii st h
section
variable {X:Cx}
def Z8 (g:TE):TI:=λb H R=>g b H λx a=>∃ z:Af,x = .str z/\z.cps.all (·<128)=true/\R (tD z) a
theorem FV (g:PE X l j):PI X o l (Z8 j):=by
 intro a s k H R I h;refine hO (g a s k H _ I h) λv c f=>?_
 obtain⟨x,i,d,y,z,n,u,q⟩:=f;subst n;obtain⟨t,rfl⟩:=y;refine wpAny_pyIter_ascii u ?_;have m:Inv X a k i { c with heap:=c.heap.push { cls:=.type "str_ascii_iterator",data:=.fields #[.str z t,.int 0 0] } }:=d.kept (t':=c.toks) λb A q=>aI _ q
 refine⟨c.heap.objs.size,[c.heap.objs.size],_,tD z,i,rfl,m,L9 z t _,⟨_,aX _ rfl,rfl,rfl⟩,λb w=>?_,q⟩;have e:b=c.heap.objs.size:=by simpa using w
 subst e;exact d.fpOk (aJ _) (d.hok.fresh (aJ _))
end
def rY (g:Aa Af) (x:Af):Aa Af:=if x∈g then g else g++[x]
def nB (l:Aa Af):Aa Af:=l.foldl rY []
theorem Hv (l:Aa Af) (x:Af):nB (l++[x])=rY (nB l) x:=by unfold nB;rw[List.foldl_append];rfl
theorem Ut (g:Aa Af) (x y:Af):y∈rY g x↔y∈g\/y=x:=by
 unfold rY;split
 .rename_i h
  constructor
  .exact .inl
  .rintro (q | q)
   .exact q
   .rw[q];exact h
 .simp[aV]
theorem By (g:Aa Af) (x:Af):(rY g x).length=if x∈g then g.length else g.length+1:=by
 unfold rY;split<;>simp
theorem Uw (l:Aa Af):∀ k,(nB (l.take k)).length<=k:=by
 intro k;induction k with
 | zero=>simp[nB]
 | succ k a =>
  rw[bX];cases e:l[k]? with
  | none=>simp;omega
  | some x =>
   simp only[fB];rw[Hv,By];split<;>omega
theorem AW (r:Aa Af):∀ g,g.length<=(r.foldl rY g).length/\(r.foldl rY g).length<=g.length+r.length:=by
 induction r with
 | nil=>intro g;simp
 | cons x r a =>
  intro g;have h:=a (rY g x);rw[By] at h;simp only[fY,bY];split at h<;>omega
theorem Sv:∀ (r g:Aa Af),g.Nodup->(r.foldl rY g).length=g.length+r.length->(g++r).Nodup:=by
 intro r;induction r with
 | nil=>intro g h _;simpa using h
 | cons x r d =>
  intro g h e;simp only[fY,bY] at e;have b:=AW r (rY g x);rw[By] at b;by_cases a:x∈g
  .rw[bE a] at b;omega
  .have c:rY g x=g++[x]:=by unfold rY;rw[if_neg a]
   rw[c] at e;have:=d (g++[x]) (N6 h a) (by rw[e];simp;omega)
   simpa using this
theorem Zh (h:(nB l).length=l.length):l.Nodup:=by
 have:=Sv l [] List.nodup_nil (by simpa [nB] using h)
 simpa using this
theorem Rk {P:Ah}{w:World}{h:Ag}{a:Ad}{S g:Af->Bool}{n j:Nat}(z:h.SetOf (PySem.strKind P w) a S n) (e:∀ k,S k=g k) (l:n=j):h.SetOf (PySem.strKind P w) a g j:=by
 have:S=g:=funext e;subst this l;exact z
section
variable {R:Result->Ae->Prop}{P:Nat->Ac->Prop}{St:Nat->Ae->Prop}
theorem Yq (W:WalksS g w A.in1 J I C G n P St) (a:Ad) (p:a∉I) (j:Aa Af) (aa:j.length=n) (hp:∀ i v,P i v->∃ x t,j[i]?=some x/\v = .str x t) (r:n+1<scanBound) :
  ∀ (k i:Nat) (s:Ae),n-i=k->i<=n->St i s->s.heap.SetOf (PySem.strKind g w) a (λx=>decide (x∈nB (j.take i))) (nB (j.take i)).length ->
   (∀ l,Moved (a::C) G s l->l.heap.SetOf (PySem.strKind g w) a (λx=>decide (x∈nB j)) (nB j).length->R (.ok (.ret .none)) l) ->
   codeAny (model g w) A (.builtin "set.update.loop" ⟨[.ref a,.ref J],[]⟩) R s:=by
 have h:a∉C:=λz=>p (W.sub _ z)
 have c:∀ b∈C,b∈a::C:=λb z=>aK _ z
 intro k;induction k with
 | zero =>
  intro i s hk U st E L;have Z:i=n:=by omega
  subst Z;rw[aQ (by omega)] at E;refine dU iQ ?_;rw[cM fO _];show wpAny _ A.in1 (pyNext (.ref J) >>= _) _ _ s;refine aA (W.done s _ _ st λl u=>?_);show wpAny _ A.in1 (ret Value.none) _ _ l;obtain⟨o,H,F,t,Q,rest⟩:=E;exact aH (L l (u.mono c) ⟨o,H,F,t,u.heap a _ h Q,rest⟩)
 | succ k ih =>
  intro i s hk U st E L;have q:i<n:=by omega
  refine dU iQ ?_;rw[cM fO _];show wpAny _ A.in1 (pyNext (.ref J) >>= _) _ _ s;refine aA (W.item i s _ _ q st λv l hv V u=>?_);obtain⟨x,t,hx,rfl⟩:=hp i v hv;have M:l.heap.SetOf (PySem.strKind g w) a (λx=>decide (x∈nB (j.take i))) (nB (j.take i)).length:=by
   obtain⟨o,H,F,tb,Q,rest⟩:=E;exact⟨o,H,F,tb,u.heap a _ h Q,rest⟩
  show wpAny _ A.in1 (holding [Value.str x t] (setAdd a (.str x t)) >>= _) _ _ l;refine aA (bS ?_);unfold setAdd;refine bS ?_;have m:(PySem.strKind g w).is x (.str x t)=true:=by simp[PySem.strKind,Value.isStrOf]
  refine aA ((PySem.strKind g w).pyHash (k:=x) m ?_);have d:(nB (j.take i)).length+1<scanBound:=by have:=Uw j i;omega
  refine wpAny_setAddHashed_of (knd:=strKind g w) (s:={ l with toks:=l.toks+1 }) m rfl M d λT Y N=>?_
  have X:j.take (i+1)=j.take i++[x]:=by rw[bX,hx];rfl
  have O:T.SetOf (PySem.strKind g w) a (λx=>decide (x∈nB (j.take (i+1)))) (nB (j.take (i+1))).length:=by
   refine Rk N (λy=>?_) ?_
   .rw[X,Hv];have:=Ut (nB (j.take i)) x y;by_cases D:y∈nB (j.take i)<;>by_cases K:y=x<;>simp only[D,K,true_or,or_true,dL,false_or] at this<;>simp[this,D,K]
    all_goals (subst K;simp[this])
   .rw[X,Hv,By];by_cases D:x∈nB (j.take i)<;>simp[D]
  refine aH ⟨gE fO _,ih (i+1) _ (by omega) q (W.frame _ l _ _ V (iE _) λb r o e=>?_) O λS B f=>?_⟩
  .rw[Y.2 b (λz:b=a=>p (by rw[<- z];exact r))];exact e
  .refine L S (Moved.trans W.gtrans ((u.mono c).then_heap (iE _) λb o r e=>?_) B) f;rw[Y.2 b (λz:b=a=>r (by rw[z];exact aE))];exact e
end
end L2
namespace PySem
open PyProof.Rows L2
section
theorem S4
  (fill:∀ g,wpAny (model j w) A.in1.in1 (Builtin.«set.__init__» ⟨[.ref s.heap.objs.size,x],[]⟩) (λf l=>f = .done (.ret .none)/\Q (.ref s.heap.objs.size) l) E { s with heap:=s.heap.push { cls:=.type "set",dict:=none,data:=.set #[] 0 (.fresh 0 0 g) } }) :
  wpAny (model j w) A (call (.type "set") [x]) Q E s:=by
 obtain⟨c,r,d⟩:=F.called_set.mro;refine wpAny_call (codeAny_of_tree (aH ⟨Code.quiet_builtin _ (by decide +kernel),dU F.entry_type_call ?_⟩));have b:=F.called_set;have body:wpAny (model j w) A.in1 (Builtin.«type.__call__» ⟨[.type "set",x],[]⟩) (λf l=>match f with | .done f=>wants Q E (.ok f) l | .again h=>h.quiet=true/\codeAny (model j w) A h (wants Q E) l) (λe l=>wants Q E (.error e) l) s:=by
  unfold Builtin.«type.__call__»;dsimp only;rw[b.notType];simp only[fC,eS,b.canCreate];refine aA (jA (F.typeCall_set_1 x) (aA (jA d ?_)));rw[bG (show ¬ (c::r).isEmpty=true from bA)];refine aA (jA b.made (aA (aH (aA (bS (wpAny_call (code_set_new_1 x λg=>?_)))))));have a:Shared.TypeIs { s with heap:=s.heap.push { cls:=.type "set",dict:=none,data:=.set #[] 0 (.fresh 0 0 g) } } (.ref s.heap.objs.size) "set" := ⟨_,aX _ rfl,rfl⟩;refine aA (dZ a b.sub ?_);rw[bG (show ¬ (!true)=true from bA)];refine aA (bS (cD a b.init (wpAny_call (codeAny_call_builtin b.init.plain F.entry_set_init (check_set_init_1 a ?_)))));refine dM (fill g) (λf l q=>?_) λ_ _ q=>q
  obtain⟨rfl,q⟩:=q;exact aH q
 exact body
theorem CL {S:Ad}(p:s.heap.IsList l C)
  (o:codeAny (model g w) A (.builtin "set.update.loop" ⟨[.ref S,.ref s.heap.objs.size],[]⟩) (λr j=>match r with | .ok (.ret _)=>Q () j | .ok _=>False | .error e=>E e j) { s with heap:=s.heap.push { cls:=.type "list_iterator",data:=.fields #[.ref l,.int 0 0] } }) :
  wpAny (model g w) A (Builtin.Frozenset.updateFrom "set.__init__" S (.ref l)) Q E s:=by
 have a:wpAny (model g w) A (Builtin.Frozenset.isAnySet (.ref l)) (λb j=>b=false/\j=s) E s :=
  aA (dZ p.typeIs F.sub_list_set (dZ p.typeIs F.sub_list_frozenset ⟨rfl,rfl⟩))
 refine aA (dM a (λb j q=>?_) λ_ _ q=>q);obtain⟨rfl,rfl⟩:=q;refine aA (eV p.typeIs (aA (eF p (aA (wpAny_runValue ?_)))));exact codeAny_mono o λr j q=>by
  match r,q with
  | .ok (.ret v),q=>exact aH q
  | .error e,q=>exact q
abbrev Bg (g:Bool):Obj:={ cls:=.type "set",dict:=none,data:=.set #[] 0 (.fresh 0 0 g) }
theorem Uy {S:Ad}(o:s.heap.get? S=some (Bg g))
  (fill:wpAny (model j w) A (Builtin.Frozenset.updateFrom "set.__init__" S x) (λ_ l=>Q (.done (.ret .none)) l) E s) :
  wpAny (model j w) A (Builtin.«set.__init__» ⟨[.ref S,x],[]⟩) Q E s:=by
 unfold Builtin.«set.__init__»;generalize Builtin.Frozenset.updateFrom=up at fill |-
 wp_walk
 exact dM fill (λ_ _ q=>aH q) λ_ _ q=>q
theorem Xu (z:StrsAre g j):j.length=g.length:=by
 induction z with
 | nil=>rfl
 | cons _ _ _ a=>rw[bY,bY,a]
theorem Y7 (z:StrsAre g j):∀ {i:Nat}{v:Ac},g[i]?=some v->∃ x t,j[i]?=some x/\v = .str x t:=by
 induction z with
 | nil=>intro i v e;cases e
 | cons x t _ a =>
  intro i v e
  match i,e with
  | 0,e=>exact⟨x,t,rfl,(cA e).symm⟩
  | i+1,e=>exact a (i:=i) e
theorem K4 {s g:Ae}(a:g.gens=s.gens) (b:g.drawn=s.drawn) (c:g.os=s.os):g={ s with heap:=g.heap,toks:=g.toks }:=by
 cases s;cases g;cases a;cases b;cases c;rfl
theorem Vx (T:A.handled=none) (C:s.heap.IsList l items) (I:StrsAre items.toList p) (J:items.size+1<scanBound)
  (h:∀ (r:Ag) (U:Nat),r.SetOf (PySem.strKind j w) s.heap.objs.size (λx=>decide (x∈nB p)) (nB p).length->(∀ b o,b<s.heap.objs.size->s.heap.get? b=some o->r.get? b=some o) ->Q (.ref s.heap.objs.size) { s with heap:=r,toks:=U }):wpAny (model j w) A (call (.type "set") [.ref l]) Q E s:=by
 refine S4 λg=>Uy (aX _ rfl) (CL (C.push _) ?_)
 have two:(s.heap.push (Bg g)).objs.size=s.heap.objs.size+1:=cN ..;have lt:l<s.heap.objs.size:=by
  obtain⟨o,e,_⟩:=C;exact aL e
 have d:l≠(s.heap.push (Bg g)).objs.size:=by
  rw[two];exact bF (jI lt)
 have f:s.heap.objs.size∉[(s.heap.push (Bg g)).objs.size,l]:=λz=>by
  rw[two] at z;rcases aF.mp z with q | q
  .exact bF (Nat.lt_succ_self _) q
  .exact gW lt (aU.mp q)
 have len:p.length=items.size:=by rw[Xu I,gH]
 have item:∀ (i:Nat) (v:Ac),items[i]?=some v->∃ x t,p[i]?=some x/\v = .str x t:=λi v e=>Y7 I (by rw[fA];exact e)
 have empty:((s.heap.push (Bg g)).push { cls:=.type "list_iterator",data:=.fields #[.ref l,.int 0 0] }).SetOf (PySem.strKind j w) s.heap.objs.size (λx=>decide (x∈nB (p.take 0))) (nB (p.take 0)).length :=
  Rk ((setObjOf_fresh (knd:=PySem.strKind j w) g).setOf (aI _ (aX _ rfl)) (by unfold scanBound;omega)) (λ_=>by simp[nB]) (by simp[nB])
 refine Yq ((Walks.list (by simp[T]) _ l d items).toS) s.heap.objs.size f p len item J items.size 0 _ (by omega) (dN _) ⟨⟨_,aX _ rfl,rfl,rfl⟩,(C.push _).push _⟩ empty λa c fin=>?_
 have res:=h a.heap a.toks fin λb o k e=>c.heap b o (λz=>?_) (aI _ (aI _ e))
 .rw[show a={ s with heap:=a.heap,toks:=a.toks } from K4 c.gens c.drawn c.os];exact⟨rfl,res⟩
 .rcases aF.mp z with q | q
  .exact bF k q
  .have q:=aU.mp q;rw[two] at q;exact bF (jI k) q
end
end PySem
namespace L2
open PySem PySem.Spec PyProof.Rows
section
variable {X:Cx}
def yT (P:Ah) (w:World) (a:Ad) (n:Nat):HO:=.ext λh=>∃ S,h.SetOf (PySem.strKind P w) a S n
theorem AC (l:X.calm=true):mK X (.type "set") (λj H Q=>∃ (p:Ad) (g:Aa Af),j=[.ref p]/\eT X.K H p (g.map V.str)/\g.length<=4000/\∀ a,H a=none->Q (.ref a) (upd H a (yT X.prog X.w a (nB g).length))):=by
 intro f s N H j M Q I r h;obtain⟨p,g,rfl,y,L,q⟩:=h;obtain⟨u,rfl,D⟩:=oM r;cases D;obtain⟨A,i,B,_⟩:=I.list y;have c:=i.length;rw[aB] at c;refine Vx (I.ok.hd l) B.isList (by simpa using Ic i) (by rw[aN];unfold scanBound;omega) λv E d x=>?_
 have hex:∃ o,v.get? s.heap.objs.size=some o:=by obtain⟨o,_,_,_,e,_⟩:=d;exact⟨o,e⟩
 refine⟨.ref s.heap.objs.size,_,I.laid (a:=s.heap.objs.size) (o:=yT X.prog X.w s.heap.objs.size (nB g).length) (t':=E) (λb o e=>x b o (aL e) e) (aJ _) ?_,rfl,q _ I.fresh⟩;refine⟨⟨_,d⟩,hex,λF G ⟨S,z⟩ k=>⟨S,?_⟩⟩;obtain⟨o,n,m,t,e,rest⟩:=z;exact⟨o,n,m,t,k o e,rest⟩
theorem Sf:mK X (.builtin "len") (λg H Q=>∃ (a:Ad) (n:Nat),g=[.ref a]/\H a=some (yT X.prog X.w a n)/\Q (.int n) H):=by
 intro b s y H g x Q I r h;obtain⟨a,n,rfl,f,q⟩:=h;obtain⟨u,rfl,k⟩:=oM r;cases k;obtain⟨⟨S,o,c,m,t,e,d,hd,_,_,v,i,rfl⟩,_⟩:=I.hok a _ f;refine call_len_set e d hd i ?_ ⟨.int c.size,H,I.tok _,⟨_,rfl⟩,q⟩;have:scanBound=4096:=rfl;omega
end
end L2
namespace PySem
open PyProof.Rows L2
theorem xV:entryFor table "dict.update.loop" = some Builtin.«dict.update.loop»:=entryFor_of_tree (by kernel_rfl)
theorem sD:plainId "dict.update.loop" = true:=by decide +kernel
theorem DN:typeLookup (.type "list") "keys" = pure none:=am_miss_of_fast (by decide +kernel)
section
theorem GS
  (l:s.heap.get? a=some { cls:=.type "list",dict:=none,data:=.seq j n,slots:=p }) (calm:A.handled=none) (out:∀ o r e,Heap.NewAttrErr s.heap o e (.ref a) "keys" -> E (.ref e) { s with heap:=o,toks:=r }) :
  wpAny (model g w) A (boundAndCalled (.builtin "list.__getattribute__") (.ref a) (.str "keys" u)) Q E s:=by
 have ask:wpAny (model g w) A (call (.builtin "list.__getattribute__") [.ref a,.str "keys" u]) Q E s :=
  jR iT ⟨_,l,rfl⟩ am_entry_list_getattribute (F.args_list_getattribute_2 _ _) (meets_getattribute_miss_list a j n p "keys" u DN (by decide +kernel)) ⟨l,calm,out⟩
 unfold boundAndCalled;rw[iT.bind (.ref a)];exact aA (aH ask)
theorem Xp (t:s.TypeIs (.ref e) "AttributeError") (out:E (.ref e) s) :
  wpAny (model g w) A (getattributeRaised o name (.type "list") (.ref e) none false false) Q E s:=by
 have last:wpAny (model g w) A (hookOrError o name (.ref e) false false none) Q E s:=aA (wpAny_throw out);have a:hookBehind (.type "list") none=pure none:=am_list_getattr_none;unfold getattributeRaised;refine aA (dZ t iX ?_);rw[bE rfl,a];exact aA (aH last)
theorem Yx
  (l:s.heap.get? a=some { cls:=.type "list",dict:=none,data:=.seq C n,slots:=I }) (calm:A.handled=none) (out:∀ j p e,Heap.NewExcOf s.heap j e "AttributeError" -> Q none { s with heap:=j,toks:=p }) :
  wpAny (model g w) A (getAttr? (.ref a) "keys") Q E s:=by
 have c:∀ j p e,Heap.NewAttrErr s.heap j e (.ref a) "keys" -> (∃ o,j.get? e=some o/\o.cls = .type "AttributeError")/\Q none { s with heap:=j,toks:=p }:=λj p e x=>by
  obtain⟨_,_,y⟩:=x.there;exact⟨⟨_,y,rfl⟩,out j p e x.of⟩
 let d:Ae:={ s with toks:=s.toks+1 };let b:Except Ac Ac->Ae->Prop:=λr i=>wpAny (model g w) A (match r with | .ok v=>pure (some v) | .error e=>do if <- isInstance e (.type "AttributeError") then pure none else throw e) Q E i
 have look:wpAny (model g w) A (getAttrBy (.ref a) (.str "keys" s.toks) false) (λv=>b (.ok v)) (λe=>b (.error e)) d:=by
  refine bS (aA (eV (T := "list") ⟨_,l,rfl⟩ (aA (jA iT.lookup ?_))));have own:wpAny (model g w) A (getAttrByItsOwn (.ref a) (.str "keys" s.toks) (.type "list") (.builtin "list.__getattribute__") false false) (λv=>b (.ok v)) (λe=>b (.error e)) d:=by
   refine aA (aH (aA (fF (bS (GS (s:=d) l calm λj p e x=>?_)))));obtain⟨⟨o,f,h⟩,q⟩:=c j p e x;exact Xp ⟨o,f,h⟩ (aA (dZ (T := "AttributeError") ⟨o,f,h⟩ iX (aH q)))
  exact own
 exact aA (wpAny_mkText (aA (fF look)))
end
section
variable {R:Result->Ae->Prop}{P:Nat->Ac->Prop}{St:Nat->Ae->Prop}
theorem U7 (W:WalksS j w A.in1 J fp l G n P St) (d:Ad) (I:d∉fp) (C:Ag) (M:Nat->Ag->Prop) (U:∀ i h p,(∀ b o,b∉l->h.get? b=some o->p.get? b=some o)->M i h->M i p)
  (hT:∀ i v,i<n->P i v->∃ (t:Ad) (o:Obj) (m:Nat) (r x:Ac),v = .ref t/\t∉d::l/\C.get? t=some o/\o.cls = .type "tuple" /\ o.data = .seq #[r,x] m /\ ∀ (s:Ae) (Q:Unit->Ae->Prop) (E:Ac->Ae->Prop),(∀ b o,b∉d::l->C.get? b=some o->s.heap.get? b=some o)->M i s.heap ->(∀ p c,M (i+1) p->Heap.SameBut d s.heap p->Q () { s with heap:=p,toks:=s.toks+c })->wpAny (model j w) A.in1 (dictSet d r x) Q E s) :
  ∀ (k i:Nat) (s:Ae),n-i=k->i<=n->St i s->(∀ b o,b∉d::l->C.get? b=some o->s.heap.get? b=some o)->M i s.heap ->
   (∀ g,Moved (d::l) G s g->M n g.heap->R (.ok (.ret .none)) g) ->
   codeAny (model j w) A (.builtin "dict.update.loop" ⟨[.ref d,.ref J,.int (i:Int) 0,.none],[]⟩) R s:=by
 have q:∀ b∈l,b∈d::l:=λb z=>aK _ z
 intro k;induction k with
 | zero =>
  intro i s hk hi st f L K;have ei:i=n:=by omega
  subst ei;refine dU xV ?_;rw[cM sD _];show wpAny _ A.in1 (pyNext (.ref J) >>= _) _ _ s;refine aA (W.done s _ _ st λg D=>?_);show wpAny _ A.in1 (Builtin.Dict.addKeywords d [] >>= _) _ _ g;exact aA (aH (aH (K g (D.mono q) (U _ _ _ D.heap L))))
 | succ k ih =>
  intro i s hk hi st f L K;have B:i<n:=by omega
  refine dU xV ?_;rw[cM sD _];show wpAny _ A.in1 (pyNext (.ref J) >>= _) _ _ s;refine aA (W.item i s _ _ B st λv g hv Z D=>?_);obtain⟨t,o,m,r,x,rfl,ht,V,O,S,put⟩:=hT i v B hv;have a:∀ b o,b∉d::l->C.get? b=some o->g.heap.get? b=some o:=λb o u e=>D.heap b o (λz=>u (q _ z)) (f b o u e)
  have y:=a t o ht V;show wpAny _ A.in1 (holding [Value.ref t] _ >>= _) _ _ g;refine aA (bS ?_);refine aA (iF ?_);unfold Builtin.Dict.pairItems;refine aA (eV (T := "tuple") ⟨o,y,O⟩ ?_);rw[bE (by decide)];refine aA (dP y S ?_);refine aH ?_;show wpAny _ A.in1 (holding [r,x] (dictSet d r x)) _ _ g;refine bS (put g _ _ a (U _ _ _ D.heap L) λp c N Y=>?_);refine aH ⟨gE sD _,?_⟩;have e1:(rawInt ((i:Int)+1))=Value.int ((i+1:Nat):Int) 0:=by rfl
  rw[e1];refine ih (i+1) _ (by omega) B (W.frame _ g _ _ Z (eR _ _) λb u o e=>?_) (λb o u e=>?_) N λX H F=>?_
  .rw[Y.2 b (λz:b=d=>I (by rw[<- z];exact u))];exact e
  .rw[Y.2 b (λz:b=d=>u (by rw[z];exact aE))];exact a b o u e
  .refine K X (Moved.trans W.gtrans ((D.mono q).then_heap (eR _ _) λb o u e=>?_) H) F;rw[Y.2 b (λz:b=d=>u (by rw[z];exact aE))];exact e
end
section
variable {K:Type} [DecidableEq K] {knd:KeyKind prog w K}{A:Around}
abbrev Hh (l:Ad):Obj:={ cls:=.type "list_iterator",data:=.fields #[.ref l,.int 0 0] }
abbrev EX (g:Array Ac) (n:Nat) (j:Array (Ab Ac)):Obj:={ cls:=.type "list",dict:=none,data:=.seq g n,slots:=j }
theorem HB (t:s.TypeIs (.ref d) "dict") (j:s.heap.get? l=some (EX r n C)) (calm:A.handled=none)
  (on:∀ g o e,Heap.NewExcOf s.heap g e "AttributeError" -> Q (.again (.builtin "dict.update.loop" ⟨[.ref d,.ref g.objs.size,.int 0 0,.none],[]⟩)) { s with heap:=g.push (Hh l),toks:=o }) :
  wpAny (model prog w) A (Builtin.«dict.__init__» ⟨[.ref d,.ref l],[]⟩) Q E s:=by
 have first:wpAny (model prog w) A (Builtin.Dict.selfAndRest "__init__" ⟨[.ref d,.ref l],[]⟩) (λp b=>p=(d,[Value.ref l])/\b=s) E s:=aA (wpAny_notOrdered_dict t (aH ⟨rfl,rfl⟩))
 have a:wpAny (model prog w) A (Builtin.Dict.updateFrom "dict.__init__" d (.ref l) [] .none) Q E s:=by
  refine aA (eV (T := "list") ⟨_,j,rfl⟩ ?_);rw[bE (by decide)];refine aA (Yx j calm λg o e x=>?_);exact aA (kK (aA (eF ⟨_,x.keeps _ _ j,rfl,n,rfl⟩ (aH (on g o e x)))))
 exact aA (dM first (λp b q=>by obtain⟨rfl,rfl⟩:=q;exact a) λ_ _ q=>q)
def tW (s:Ae):Ae:={ s with heap:=s.heap.push { cls:=.type "dict",data:=.dict #[] } }
theorem Xf (M:Nat->Ag->Prop) (I:A.handled=none) (C:s.heap.get? l=some o) (hc:o.cls = .type "list") (hd:o.dict=none) (r:o.data = .seq items nl)
  (m0:∀ h:Ag,h.get? s.heap.objs.size=some { cls:=.type "dict",data:=.dict #[] }->M 0 h) (T:∀ i h g,(∀ b o,b<=s.heap.objs.size->h.get? b=some o->g.get? b=some o)->M i h->M i g)
  (U:∀ (i:Nat) v,items[i]?=some v->∃ (t:Ad) (o:Obj) (m:Nat) (p x:Ac),v = .ref t/\s.heap.get? t=some o/\o.cls = .type "tuple" /\ o.data = .seq #[p,x] m /\ ∀ (B:Around) (j:Ae) (Q:Unit->Ae->Prop) (E:Ac->Ae->Prop),(A.units+2<cLine->B.units<cLine)->(∀ b o,s.heap.get? b=some o->j.heap.get? b=some o)->M i j.heap ->(∀ g c,M (i+1) g->Heap.SameBut s.heap.objs.size j.heap g->Q () { j with heap:=g,toks:=j.toks+c })->wpAny (model prog w) B (dictSet s.heap.objs.size p x) Q E j)
  (h:∀ (g:Ag) (J:Nat),M items.size g->(∀ b o,s.heap.get? b=some o->g.get? b=some o)->Q (.ref s.heap.objs.size) { s with heap:=g,toks:=J }) :
  wpAny (model prog w) A (call (.type "dict") [.ref l]) Q E s:=by
 obtain⟨oc,od,Y,Z⟩:=o;cases hc;cases hd;cases r;let D:=s.heap.objs.size;have N:(tW s).heap.get? D=some { cls:=.type "dict",data:=.dict #[] }:=aX _ rfl;have ty:(tW s).TypeIs (.ref D) "dict" := ⟨_,N,rfl⟩;have old:∀ b o,s.heap.get? b=some o->(tW s).heap.get? b=some o:=λb o e=>aI _ e
 refine callType_codes F.kt_called_dict (jX _) F.entry_dict_init (kt_code_dict_new _ (Q₁:=λv L=>v = .ref D/\L=tW s) ⟨rfl,rfl⟩) λv L q=>?_
 obtain⟨rfl,rfl⟩:=q;refine⟨ty,kL _ _,HB ty (old _ _ C) (by simp[I]) λn J e x=>⟨gE sD _,?_⟩⟩;have qW:D<n.objs.size:=aL (x.keeps _ _ N);have G:l<D:=aL C;have keeps:∀ b o,s.heap.get? b=some o->(n.push (Hh l)).get? b=some o:=λb o e=>aI _ (x.keeps _ _ (old b o e))
 have a:∀ {b:Ad},b<D->b∉[D,n.objs.size]:=λ{b} u z=>by
  rcases aF.mp z with q | q
  .exact bF u q
  .exact bF (Nat.lt_trans u qW) (aU.mp q)
 have f:D∉[n.objs.size,l]:=λz=>by
  rcases aF.mp z with q | q
  .exact bF qW q
  .exact gW G (aU.mp q)
 have d:(n.push (Hh l)).IsList l items:=⟨_,keeps _ _ C,rfl,nl,rfl⟩;refine U7 ((Walks.list (by simp[I]) n.objs.size l (bF (Nat.lt_trans G qW)) items).toS) D f s.heap M (λi h g k m=>T i h g (λb o S e=>k b o (λz=>bF (cP S qW) (aU.mp z)) e) m) (λi v _ W=>?_) items.size 0 _ (by omega) (dN _) ⟨⟨_,aX _ rfl,rfl,rfl⟩,d⟩ (λb o _ e=>keeps b o e) (m0 _ (aI _ (x.keeps _ _ N))) λj H fin=>?_
 .obtain⟨t,ot,m,p,y,rfl,O,r1,r2,put⟩:=U i v W;exact⟨t,ot,m,p,y,rfl,a (aL O),O,r1,r2,λL R P X=>put _ L R P (λV=>by simpa using V) λb o e=>X b o (a (aL e)) e⟩
 .have res:=h j.heap j.toks fin λb o e=>H.heap b o (a (aL e)) (keeps b o e)
  rw[show j={ s with heap:=j.heap,toks:=j.toks } from K4 H.gens H.drawn H.os];exact⟨rfl,res⟩
theorem BF (J:A.handled=none) (T:s.heap.get? l=some o) (I:o.cls = .type "list") (hd:o.dict=none) (p:o.data = .seq items nl)
  (hn:more.length=items.size)
  (C:∀ (i:Nat) v,items[i]?=some v->∃ (t:Ad) (o:Obj) (m:Nat) (k:K) (j x:Ac),v = .ref t/\s.heap.get? t=some o/\o.cls = .type "tuple" /\ o.data = .seq #[j,x] m/\knd.is k j=true/\more[i]?=some (k,x)) (U:items.size<=sizeLine)
  (h:∀ (g:Ag) (r:Nat),g.DictOf knd s.heap.objs.size (merged [] more)->(∀ b o,s.heap.get? b=some o->g.get? b=some o)->Q (.ref s.heap.objs.size) { s with heap:=g,toks:=r }) :
  wpAny (model prog w) A (call (.type "dict") [.ref l]) Q E s:=by
 refine Xf (λi g=>g.DictOf knd s.heap.objs.size (merged [] (more.take i))) J T I hd p (λn e=>?_) (λi n y k m=>?_) (λi v H=>?_) λg r m=>h g r (by rw[aQ (by omega)] at m;exact m)
 .obtain⟨z,f,d,u,rest⟩:=Heap.DictOf.new (knd:=knd) s.heap;cases u.symm.trans (aX _ rfl);exact⟨_,f,d,e,rest⟩
 .obtain⟨z,f,d,u,rest⟩:=m;exact⟨z,f,d,k _ _ (aJ _) u,rest⟩
 .obtain⟨t,M,m,L,j,x,rfl,n,y,F,c,a⟩:=C i v H;refine⟨t,M,m,j,x,rfl,n,y,F,λB O Q E _ _ G k=>kF (hsz:=?_) c G λg q N=>k g 1 (by rw[merged_take_succ [] more i (L,x) a];exact q) N⟩;have D:=merged_length_le ([]:Aa (K×Ac)) (more.take i);rw[fZ,bT] at D;omega
end
end PySem
namespace L2
open PySem PySem.Spec PyProof.Rows
section
variable {X:Cx}
def A7 (H:Hp) (j:Aa Ad) (g:Aa (hI×V)):Prop:=Paired (λt (a:hI×V)=>H t=some (.t [kV a.1,a.2])) j g
theorem Vc {P:Ah}(p:nD P w H h):∀ {l:Aa Ad}{g:Aa (hI×V)},A7 H l g->∃ more:Aa (hI×Ac),KV g more /\
  ∀ (i:Nat) t,l[i]?=some t->∃ (o:Obj) (m:Nat) (k:hI) (j x:Ac),h.get? t=some o/\o.cls = .type "tuple" /\ o.data = .seq #[j,x] m/\(oY P w).is k j=true/\more[i]?=some (k,x):=by
 intro l g r;unfold A7 at r;induction r with
 | nil=>exact⟨[],.nil,λi t e=>by simp at e⟩
 | @cons t j l g d G u =>
  obtain⟨more,B,q⟩:=u;obtain⟨z,v,a,⟨o,s,f,n,b⟩,_⟩:=p t _ d;cases a with
  | @cons _ E _ K y a =>
   cases a with
   | @cons _ c _ F A a =>
    cases a;refine⟨(j.1,c)::more,.cons ⟨rfl,A⟩ B,λi D e=>?_⟩;cases i with
    | zero =>
     simp at e;subst e;exact⟨o,n,j.1,E,c,s,f,b,xK y,rfl⟩
    | succ i=>simpa using q i D (by simpa using e)
theorem DE (l:X.calm=true):mK X (.type "dict") (λC H Q=>∃ (p:Ad) (j:Aa Ad) (g:Aa (hI×V)),C=[.ref p]/\eT X.K H p (j.map V.ref)/\A7 H j g/\g.length<=1000/\∀ d,H d=none->Q (.ref d) (upd H d (.k (pC [] g)))):=by
 intro E s σ H C us Q I r h;obtain⟨p,j,g,rfl,U,D,hz,q⟩:=h;obtain⟨u,rfl,B⟩:=oM r;cases B;obtain⟨c,F,⟨o,n,e,L,M,N⟩,_⟩:=I.list U;have f:=F.length;rw[aB] at f;have Z:j.length=g.length:=D.length;obtain⟨more,G,J⟩:=Vc I.hok D;have T:=G.length;have b:∀ (i:Nat) v,c[i]?=some v->∃ t,j[i]?=some t/\v = .ref t:=by
  intro i v y;have hi:i<c.length:=(aT.mp y).1;have:i<j.length:=by omega
  obtain⟨u,hu,B⟩:=F.get (i:=i) (x:=V.ref j[i]) (by simp[this]);rw[hu] at y;cases y;cases B;exact⟨j[i],by simp[this],rfl⟩
 refine BF (knd:=oY X.prog X.w) (more:=more) (I.ok.hd l) e L M N (by rw[aN];omega) ?_ (by rw[aN];exact fE (cP (show c.length<=1000 by omega) (by decide))) λh' tk W Y=>?_
 .intro i v y;obtain⟨t,ht,rfl⟩:=b i v (by simpa using y);obtain⟨o,m,k,kv,x,z,O,P,R,S⟩:=J i t ht;exact⟨t,o,m,k,kv,x,rfl,z,O,P,R,S⟩
 .have A:(pC [] g).length<=sizeLine:=by
   have z:=Dj g [];rw[fZ] at z;exact fE (cP (show (pC [] g).length<=1000 by omega) (by decide))
  refine⟨.ref s.heap.objs.size,_,I.laid (a:=s.heap.objs.size) (o:=.k (pC [] g)) (t':=tk) Y (aJ _) ?_,rfl,q _ I.fresh⟩;exact zP A (eD.mpr (cQ (bF I.big))) (G.merge .nil) W
end
noncomputable def Hu (o:Ab Af) (N:Aa Af) (kind:Af->Ab NameKind) (g:Scope) (T j:Aa Af) (l:Aa Nat):Bool :=
 decide (g.names.filter (λp=>p.2 == .cell)=o.toList.map λn=>(n,NameKind.cell))&&o.all (λa=>g.names.lookup a == some .cell)&&g.names.all (λp=>p.2 != .free||kind p.1 == some .cell) &&
 g.names.all (λp=>p.2 != .local||g.names.lookup p.1 == some .local) &&
 (j.zip l).all (λp=>decide (N[p.2]?=some p.1)&&g.names.lookup p.1 == some .free)&&j.length == l.length
abbrev E4:=Hu none
noncomputable def qH (T:Aa Af) (g:Aa Nat) (j:St):St:=T.map (λ_=>none)++g.map (λi=>(j[i]?).join)
noncomputable def sW (X:Cx) (p:Aa Af) (g:Scope) (o:Aa (Af×Ad)) (C:Ad) (l:Ae) (j:Hp) (r:Aa Ad):Cx :=
 { prog:=X.prog,w:=X.w,K:=X.K,mg:=X.mg,base:=X.base,A:=X.A,N:=p,s₀:=l,H₀:=j,env:=compEnvC g o C X.env,outer:=X.stack,stack:=X.stack,ex:=r, fn:=λx=>(o.lookup x).isNone,calm:=X.calm,pn:=[],xe:=λ_ _=>False }
def uQ (X:Cx) (g:Aa Expr) (t:TT):Prop :=
 ∀ (a:Aa (Ad×Obj)) (s:Ae) (b:St) (H:Hp) (Q:Bool->Hp->Prop),Inv X a b H s->t b H Q ->
  wpAny (model X.prog X.w) X.A (forIn g true λc r=>if r=true then do let ok <- isTrue c X.env (eval c X.env);pure (ForInStep.yield ok) else pure (ForInStep.yield r)) (TP X a b Q) X.xe s
def E5:TT:=λ_ H Q=>Q true H
theorem Eb {X:Cx}:uQ X [] E5:=λa s b H Q I h=>wpAny_tests_nil ⟨H,I,h⟩
theorem Qh {X:Cx}(h:PT X c t):uQ X [c] t:=λa s b H Q I hw=>wpAny_tests_one (h a s b H Q I hw)
def Az (T:Aa Af) (j:Aa Nat) (J:It) (g:TG) (r:TT) (p:TE) (C:St) (o:Hp) (Q:VK) (D:Ad):Prop :=
 ∃ W:Nat->Nat->Aa V->St->Hp->Prop,(∃ m,W 0 m [] (qH T j C) (upd o D (.l [])))/\∀ i m c h d,W i m c h d ->
  (J.stop i d/\Q (.ref D) d)\/(J.go i d/\∃ (N:St->V->Hp->Prop) (F:St->Hp->Prop),(∀ a v k,N a v k->k D=some (.l c)/\c.length<sizeLine/\∃ f,f<m/\W (i+1) f (c++[v]) a (upd k D (.l (c++[v]))))/\(∀ a e,F a e->∃ f,f<m/\W (i+1) f c a e) /\ ∀ x n,J.yld i d x n->g x h n λa q=>r a q λb e=>if b=true then p a e (N a) else F a e)
def C8 (T:Aa Af) (j:Aa Nat) (p:TI) (g:TG) (o:TT) (l:TE):TE:=λb H Q=>p b H λJ a=>∀ D,a D=none->Az T j J g o l b a Q D
theorem Gc:∀ (names:Aa (Af×NameKind)) (g:Aa (Af×Ad)),(∀ p∈names,p.2 = .free->∃ c,env.cells.lookup p.1=some c) ->
  (∀ x c,g.lookup x=some c->env.cells.lookup x=some c) ->
  ∃ j,(forIn names g λx r=>if (x.2 == NameKind.free)=true then (cellOf env x.1 >>= λa=>pure (ForInStep.yield ((x.1,a)::r))) else pure (ForInStep.yield r):Sem (Aa (Af×Ad)))=pure j /\
   (∀ x c,j.lookup x=some c->env.cells.lookup x=some c)/\(∀ x,(x,NameKind.free)∈names->(j.lookup x).isSome=true)/\(∀ x,(g.lookup x).isSome=true->(j.lookup x).isSome=true)
 | [],g,_,i=>⟨g,rfl,i,λx h=>by simp at h,λ_ h=>h⟩
 | (n,k)::r,g,v,i=>by
  by_cases w:k = .free
  .subst w;obtain⟨c,z⟩:=v (n,.free) aE rfl;have u:∀ x d,((n,c)::g).lookup x=some d->env.cells.lookup x=some d:=by
    intro x d h;rw[cT] at h;cases e:x == n with
    | true=>rw[e] at h;have:=jS.mp e;subst this;cases h;exact z
    | false=>rw[e] at h;exact i x d h
   obtain⟨j,m,s,t,f⟩:=Gc r ((n,c)::g) (λp y=>v p (aK _ y)) u;have A:(((n,c)::g).lookup n).isSome=true:=by rw[cT];simp
   refine⟨j,?_,s,λx b=>?_,λx b=>f x ?_⟩
   .rw[kB];simp only[iJ,eU];have:cellOf env n=pure c:=by unfold cellOf;rw[z]
    rw[this];exact m
   .rcases aF.mp b with q | q
    .cases q;exact f _ A
    .exact t x q
   .rw[cT];cases e:x == n with
    | true=>rfl
    | false=>exact b
  .obtain⟨j,m,s,t,f⟩:=Gc r g (λp y=>v p (aK _ y)) i;refine⟨j,?_,s,λx b=>?_,f⟩
   .rw[kB];have:(k == NameKind.free)=false:=by simpa using w
    simp only[this,fC,eS];exact m
   .rcases aF.mp b with q | q
    .cases q;exact absurd rfl w
    .exact t x q
theorem Ug (o:∀ p∈g.names,p.2 = .free->∃ c,j.cells.lookup p.1=some c) :
  ∃ l,closureFor g j=pure l/\(∀ x c,l.lookup x=some c->j.cells.lookup x=some c)/\(∀ x,(x,NameKind.free)∈g.names->(l.lookup x).isSome=true):=by
 obtain⟨l,e,d,f,_⟩:=Gc (env:=j) g.names [] o (λx c h=>by simp at h);refine⟨l,?_,d,f⟩;simp only[closureFor];have b:(forIn g.names [] λx r=>if (x.2 == NameKind.free)=true then (cellOf j x.1 >>= λa=>pure (ForInStep.yield ((x.1,a)::r))) else pure (ForInStep.yield r):Sem (Aa (Af×Ad)))=pure l:=e
 first
  | exact b
  | (simp only[bind_pure];exact b)
theorem Sq (h:g.names.lookup x=some k):∃ j,(relabel g env).names.lookup x=some j/\(j=k\/(k = .free/\j = .cell)):=by
 have:∀ names:Aa (Af×NameKind),names.lookup x=some k->∃ j,(names.map λ(p:Af×NameKind)=>match p with | (n,k)=>if (k == NameKind.free&&env.scope.kind == .function&&env.kindOf n == some .cell) then (n,NameKind.cell) else (n,k)).lookup x=some j/\(j=k\/(k = .free/\j = .cell)):=by
  intro names;induction names with
  | nil=>intro h;simp at h
  | cons p r b =>
   obtain⟨n,c⟩:=p;intro h;rw[aY];by_cases a:(c == NameKind.free&&env.scope.kind == .function&&env.kindOf n == some .cell)=true
   .simp only[a,eU];rw[cT] at h |-;cases e:x == n with
    | true =>
     rw[e] at h;cases h;have:k=NameKind.free:=by
      have:=(cE _ _).mp ((cE _ _).mp a).1;exact jS.mp this.1
     exact⟨_,rfl,.inr ⟨this,rfl⟩⟩
    | false=>rw[e] at h;exact b h
   .simp only[a,eS];rw[bG (by simp)];rw[cT] at h |-;cases e:x == n with
    | true=>rw[e] at h;cases h;exact⟨_,rfl,.inl rfl⟩
    | false=>rw[e] at h;exact b h
 exact this g.names h
theorem Vn {R:Result->Ae->Prop}{iter:Expr}(I:Nat->Ae->Prop)
  (ae:∀ n s,I n s->wpAny (model g w) A (pyNext it) (λr l=>match r with
   | none=>R (.ok .next) l
   | some v=>wpAny (model g w) A (letOwnedTupleGo target it v) (λ_ o=>wpAny (model g w) A (assign target j v) (λ_ C =>
     wpAny (model g w) A (forIn ac true λc r=>if r=true then do let ok <- isTrue c j (eval c j);pure (ForInStep.yield ok) else pure (ForInStep.yield r)) (λok p =>if ok=true then wpAny (model g w) A (eval ab j) (λx J =>wpAny (model g w) A (call (.builtin "list.append") [aa,x]) (λ_ T=>∃ m,m<n/\I m T) (λ_ _=>False) J) (λ_ _=>False) p else ∃ m,m<n/\I m p) (λ_ _=>False) C) (λ_ _=>False) o) (λ_ _=>False) l) (λ_ _=>False) s)
  (n:Nat) (h:I n s) :
  codeAny (model g w) A (.compLoop (.ListComp ab [⟨target,iter,ac,0⟩] U pos) 0 it aa j) R s:=by
 refine codeAny_loop rfl I (λn s q=>?_) n h;show wpAny _ A ((compTurn (.ListComp ab [⟨target,iter,ac,0⟩] U pos) 0 it aa j).onRaise (λx=>do noteFrame x j;theTreesLotGoes x)) _ _ s;refine wpAny_noted ?_;rw[compTurn_list];refine aA (jW (aA (dM (ae n s q) (λr l b=>?_) λ_ _ a=>a.elim)));cases r with
 | none=>exact aH b
 | some v =>
  refine aA (dM b (λ_ o e=>?_) λ_ _ a=>a.elim);refine aA (dM e (λ_ C f=>aA (dM f (λok p d=>?_) λ_ _ a=>a.elim)) λ_ _ a=>a.elim);cases ok with
  | false=>exact aH ⟨rfl,d⟩
  | true =>
   exact aA (aA (dM d (λx J i=>aA (dM i (λ_ T k=>aH (aH ⟨rfl,k⟩)) λ_ _ a=>a.elim)) λ_ _ a=>a.elim))
structure LcO (nw:Option Str) (N:List Str) (kind:Str->Option NameKind) (scope:Scope) (capN:List Str) (caps:List Nat):Prop where
 one:scope.names.filter (λp=>p.2 == .cell)=nw.toList.map λn=>(n,NameKind.cell)
 cel:∀ nm,nw=some nm->scope.names.lookup nm=some .cell
 free:∀ p∈scope.names,p.2 = .free->kind p.1=some .cell
 loc:∀ p∈scope.names,p.2 = .local->scope.names.lookup p.1=some .local
 cap:∀ (j:Nat) (x:Str),capN[j]?=some x->∃ i:Nat,caps[j]?=some i/\N[i]?=some x/\scope.names.lookup x=some .free
 len:capN.length=caps.length
theorem Ms (h:Hu r N kind o T l g=true):LcO r N kind o l g:=by
 unfold Hu at h;simp only[cE] at h;obtain⟨⟨⟨⟨⟨d,c⟩,f⟩,k⟩,m⟩,n⟩:=h;have q:l.length=g.length:=jS.mp n;refine⟨eI d,λu e=>?_,λp a e=>?_,λp a e=>?_,λj x e=>?_,q⟩
 .rw[e] at c;exact jS.mp c
 .have:=dY.mp f p a;rw[e] at this
  simpa using this
 .have:=dY.mp k p a;rw[e] at this
  simpa using this
 .have t:j<l.length:=(aT.mp e).1;have b:g[j]?=some (g[j]'(by omega)):=aG (by omega);have s:(x,g[j]'(by omega))∈l.zip g:=aR (i:=j) (by rw[iM];exact⟨e,b⟩);have:=dY.mp m _ s;simp only[cE,kN,jS] at this;exact⟨_,b,this.1,this.2⟩
theorem LcO.only (h:LcO o N kind g j l) (x:Af) (e:g.names.lookup x=some .cell):o=some x:=by
 have a:(x,NameKind.cell)∈g.names.filter (λp=>p.2 == .cell):=kW.mpr ⟨dJ e,rfl⟩;rw[h.one] at a;cases o with
 | none=>cases a
 | some n=>rw[(Prod.mk.inj (aU.mp a)).1]
theorem Mz:∀ {g:Scope},(relabel g j).names.lookup x=some k->(k = .cell\/k = .free)->g.names.lookup x=some .cell\/g.names.lookup x=some .free:=by
 intro g;unfold relabel;have all:∀ names:Aa (Af×NameKind),(names.map λ(n,k)=>if (k == NameKind.free&&j.scope.kind == .function&&j.kindOf n == some .cell) then (n,NameKind.cell) else (n,k)).lookup x=some k->(k = .cell\/k = .free)->names.lookup x=some .cell\/names.lookup x=some .free:=by
  intro names;induction names with
  | nil=>intro h _;simp at h
  | cons p r d =>
   intro h b;obtain⟨n,e⟩:=p;rw[aY] at h;rw[cT];cases c:x == n with
   | true =>
    by_cases a:(e == NameKind.free&&j.scope.kind == .function&&j.kindOf n == some .cell)=true
    .simp only[cE,jS] at a;exact .inr (by rw[a.1.1])
    .simp only[a,fC,eS,cT,c] at h;cases h;rcases b with q | q
     .exact .inl (by rw[q])
     .exact .inr (by rw[q])
   | false =>
    by_cases a:(e == NameKind.free&&j.scope.kind == .function&&j.kindOf n == some .cell)=true
    .simp only[a,eU,cT,c] at h;exact d h b
    .simp only[a,fC,eS,cT,c] at h;exact d h b
 exact all g.names
theorem Gu:∀ (names:Aa (Af×NameKind)) (n:Nat) (g:Aa (Af×Ad)) (h:Ag),names.filter (λp=>p.2 == .cell)=[]->cellsFrom n names g=g/\pushCells h names=h
 | [],_,_,_,_=>⟨rfl,rfl⟩
 | (y,k)::r,n,g,h,e=>by
  unfold cellsFrom pushCells;by_cases a:(k == NameKind.cell)=true
  .rw[List.filter_cons_of_pos (by exact a)] at e;cases e
  .rw[List.filter_cons_of_neg (by exact a)] at e;rw[bG a,bG a];exact Gu r n g h e
theorem Ll:∀ (names:Aa (Af×NameKind)) (n:Nat) (g:Aa (Af×Ad)) (h:Ag),names.filter (λp=>p.2 == .cell)=[(j,.cell)]->cellsFrom n names g=(j,n)::g/\pushCells h names=h.push { cls:=.type "cell",data:=.cell none }
 | [],_,_,_,e=>by cases e
 | (y,k)::r,n,g,h,e=>by
  unfold cellsFrom pushCells;by_cases a:(k == NameKind.cell)=true
  .rw[List.filter_cons_of_pos (by exact a)] at e;have b:=(List.cons.inj e).1;have c:=(List.cons.inj e).2;rw[bE a,bE a];have:=Gu r (n+1) ((y,n)::g) (h.push { cls:=.type "cell",data:=.cell none }) c;rw[this.1,this.2,(Prod.mk.inj b).1];exact⟨rfl,rfl⟩
  .rw[List.filter_cons_of_neg (by exact a)] at e;rw[bG a,bG a];exact Ll r n g h e
def wX (g:Ab Af) (C:Ad):Aa (Af×Ad):=match g with
 | none=>[]
 | some a=>[(a,C+1)]
theorem AK {globals:Ad}(one:g.names.filter (λp=>p.2 == .cell)=T.toList.map λn=>(n,NameKind.cell))
  (h:∀ j,j.Ns s.heap.objs.size (λ_=>none)->(∀ J,T=some J->j.IsCell (s.heap.objs.size+1) none)->(∀ b o,s.heap.get? b=some o->j.get? b=some o) ->Q { scope:=g,locals:=s.heap.objs.size,globals:=globals,cells:=wX T s.heap.objs.size++r,qual:=C,func:=none,code:=l.code,frame:=l.frame,builtins:=l.builtins } { s with heap:=j }) :
  wpAny M A (newFunctionEnv g globals r [] C none .none (some l)) Q E s:=by
 simp only[newFunctionEnv,Option.isSome_some,eU];refine aA (wpAny_alloc ?_);refine aA (wpAny_layCells _ (λname kind I=>by cases i:kind == NameKind.cell<;>simp[i]) _ _ _ _ ?_);have z:(s.heap.push { cls:=.type "dict",data:=.dict #[] }).objs.size=s.heap.objs.size+1:=cN ..;have a:=Heap.Ns.new s.heap (.type "dict");show wpAny M A _ Q E _;cases T with
 | none =>
  obtain⟨c,f⟩:=Gu g.names (s.heap.push { cls:=.type "dict",data:=.dict #[] }).objs.size r (s.heap.push { cls:=.type "dict",data:=.dict #[] }) one;rw[c,f];exact aA (aH (aH (h _ a (λ_ e=>nomatch e) λb o e=>aI _ e)))
 | some J =>
  obtain⟨c,f⟩:=Ll g.names (s.heap.push { cls:=.type "dict",data:=.dict #[] }).objs.size r (s.heap.push { cls:=.type "dict",data:=.dict #[] }) one;have d:cellsFrom ({ s with heap:=s.heap.push { cls:=.type "dict",data:=.dict #[] } }:Ae).heap.objs.size g.names r=(J,s.heap.objs.size+1)::r:=by rw[<- z];exact c
  rw[d,f];refine aA (aH (aH (h _ (a.keeps λb o e=>aI _ e) (λ_ _=>?_) λb o e=>aI _ (aI _ e))));exact⟨_,by rw[<- z];exact aX _ rfl,rfl⟩
noncomputable def Xw (j:Ab Af) (g:Aa (Af×Ad)):Af->Bool:=match j with
 | none=>λx=>(g.lookup x).isNone
 | some a=>λx=>x == a||(g.lookup x).isNone
def tJ (p:Ab Af) (X:Cx) (r:Aa Af) (g:Scope) (o:Aa (Af×Ad)) (C:Ad) (l:Ae) (j:Hp) (I:Aa Ad):Cx :=
 { prog:=X.prog,w:=X.w,K:=X.K,mg:=X.mg,base:=X.base,A:=X.A,N:=r,s₀:=l,H₀:=j,env:=compEnvC g (wX p C++o) C X.env,outer:=X.stack,stack:=X.stack,ex:=I, fn:=Xw p o,calm:=X.calm,pn:=[],xe:=λ_ _=>False }
section
variable {X:Cx}
theorem Inv.moved {t':Nat}{fp:Aa Ad}(I:Inv X g p H s) (j:∀ b∈fp,rO X g H b) (k:∀ b o,b∉fp->s.heap.get? b=some o->l.get? b=some o):Inv X g p H { s with heap:=l,toks:=t' }:=by
 have d:∀ b u,H b=some u->b∉fp:=λb u e z=>by rw[(j b z).1] at e;cases e
 refine I.step (g':=s.gens) (d':=s.drawn) (ch:=fp) (λb f=>⟨(j b f).2.2.2.1,(j b f).2.1,(j b f).2.2.2.2.1,(j b f).2.2.2.2.2⟩) (λb o _ _ a e _=>k b o a e) (λb o _ _ a e _=>⟨o.slots,k b o a e⟩) (λ_ _ _ _ n=>n)
  (λb o a e=>⟨o,k b o a e⟩) (λ_ _ e=>e) (λ_ _ _ e=>e) (λb x e=>⟨#[],by rw[e];simp⟩) (λm t=>?_) (λb u e=>?_) I.bare
 .obtain⟨o,i,h,w,r⟩:=t;exact⟨o,i,h,k _ o (λz=>(j _ z).2.1 rfl) w,r⟩
 .refine (I.hok b u e).stay (λc v a q=>k c v ?_ q) (λ_ q=>q) λ_ _ q=>q
  rcases a with z | z
  .rw[z];exact d b u e
  .exact d c _ z
end
section
variable {X:Cx}
theorem Nt {iter:Expr}(T U:Aa Af) (aa:Aa Nat) (hc:X.calm=true) (hi:PI X tg iter wi)
  (hk:j.kind = .function) (O:LcO nw X.N X.env.kindOf j U aa)
  (hg:∀ ae ab C cl fp,PG (tJ nw X (T++U) j cl C ae ab fp) tg g)
  (ht:∀ ae ab C cl fp,uQ (tJ nw X (T++U) j cl C ae ab fp) af tt)
  (he:∀ ae ab C cl fp,PE (tJ nw X (T++U) j cl C ae ab fp) a4 te)
  (hs:∀ x,foldedSetIterable iter X.env x=pure x)
(I:Inv X ac σ H s) (h:C8 T aa wi g tt te σ H Q)
  (fin:∀ (C D:Ad) (s6:Ae) (H5:Hp),Inv X ac σ H5 s6->Q (.ref D) H5->rO X ac H5 C->(∃ m,s6.heap.Ns C m)->compPost (model X.prog X.w) X.A X.xe a2 Qs (.ref D) C (.ok .next) s6) :
  wpAny (model X.prog X.w) X.A (comprehension (.ListComp a4 [⟨tg,iter,af,0⟩] j pos) j X.env (firstIterPos [⟨tg,iter,af,0⟩] pos) (newList []) (firstAsync [⟨tg,iter,af,0⟩]) (firstIter [⟨tg,iter,af,0⟩] X.env) a2) Qs X.xe s:=by
 have ax:∀ p∈j.names,p.2 = .free->∃ c,X.env.cells.lookup p.1=some c:=λp hp e=>I.ok.has p.1 (.inl (O.free p hp e))
 obtain⟨cl,aw,P,a3⟩:=Ug ax;refine wpAny_comprehension_free (use:=a2) rfl hs aw hk O.loc (hO (hi ac s σ H _ I h) λv s1 h1=>hO h1 λb4 s2 h2=>?_);obtain⟨it,fp,tn,J,H2,rfl,I2,B,bb,f2,hD⟩:=h2;refine fG ?_;have f:Inv X ac σ (upd H2 s2.heap.objs.size (.l [])) { s2 with heap:=s2.heap.push { cls:=.type "list",data:=.seq ([]:Aa Ac).toArray } }:=I2.lnew (t':=s2.toks) (its:=[]) (ys:=[]) .nil (dN _);have fD:H2 s2.heap.objs.size=none:=I2.fresh;obtain⟨W,⟨m0,w0⟩,ao⟩:=hD s2.heap.objs.size fD;generalize bo:s2.heap.objs.size=D at f fD w0 ao |-;have bz:tn 0 (s2.heap.push { cls:=.type "list",data:=.seq ([]:Aa Ac).toArray }):=B.keep _ _ _ bb λb _ o e=>aI _ e
 have a9:∀ b∈fp,b<D:=λb a=>by
  obtain⟨o,e,_⟩:=B.obj _ _ bb b a;rw[<- bo];exact aL e
 generalize bt:({ s2 with heap:=s2.heap.push { cls:=.type "list",data:=.seq ([]:Aa Ac).toArray } }:Ae)=K at f |-;have ag:tn 0 K.heap:=by rw[<- bt];exact bz
 generalize bp:upd H2 D (.l [])=M at f w0;have f3:∀ b∈fp,rO X ac M b:=λb a=>by
  obtain⟨z0,z⟩:=f2 b a;exact⟨by rw[<- bp,iO (bF (a9 b a))];exact z0,z⟩
 refine AK O.one (λZ V S old=>?_);have av:M K.heap.objs.size=none:=f.fresh;have ak:M (K.heap.objs.size+1)=none:=f.hok.fresh (iE _);generalize hC:K.heap.objs.size=C at V S av ak |-;have ba:∀ b o,K.heap.get? b=some o->b≠C:=λb o e=>by rw[<- hC];exact bF (aL e)
 have a5:∀ b∈fp,b≠C:=λb a=>by
  obtain⟨o,e,_⟩:=B.obj _ _ ag b a;exact ba b o e
 have a6:∀ b∈fp,b∉sR X.stack:=λb a z=>by
  rcases aF.mp (f.stkSub b z) with q | q
  .exact (f3 b a).2.1 q
  .exact (f3 b a).2.2.1 q
 have bm:∀ b∈fp,b<C:=λb a=>by
  obtain⟨o,e,_⟩:=B.obj _ _ ag b a;rw[<- hC];exact aL e
 have look:∀ x c,(wX nw C++cl).lookup x=some c->(nw=some x/\c=C+1)\/(nw≠some x/\cl.lookup x=some c):=λx c e=>by
  cases nw with
  | none=>exact .inr ⟨(λz=>nomatch z),e⟩
  | some nm =>
   have e:((nm,C+1)::cl).lookup x=some c:=e;rw[cT] at e;cases a:x == nm with
   | true=>rw[a] at e;cases e;exact .inl ⟨by rw[jS.mp a],rfl⟩
   | false=>rw[a] at e;exact .inr ⟨(λz=>by cases z;simp at a),e⟩
 have lift:∀ x c,nw≠some x->cl.lookup x=some c->(wX nw C++cl).lookup x=some c:=λx c n e=>by
  cases nw with
  | none=>exact e
  | some nm =>
   show ((nm,C+1)::cl).lookup x=some c;rw[cT,show (x == nm)=false from eD.mpr λz=>n (by rw[z])];exact e
 have ai:∀ x c,cl.lookup x=some c->c<C:=λx c e=>by
  obtain⟨v,o,ho,_⟩:=f.cell x c (P x c e);rw[<- hC];exact aL ho
 have aj:∀ b∈fp,∀ x c,(wX nw C++cl).lookup x=some c->c≠b:=λb a x c e=>by
  rcases look x c e with⟨_,q⟩ | ⟨_,q⟩
  .exact λz=>absurd (bm b a) (by rw[<- z,q];exact kU.mpr (iE C))
  .exact (f3 b a).2.2.2.2.1 x c (P x c q)
 have a8:(tJ nw X (T++U) j cl C K M fp).Ok:=by
  refine⟨f.ok.mod,hk,f.ok.glob,f.ok.blt,Nat.le_of_eq hC,λx y c R E=>?_,λx hx=>?_,λx c R E=>?_,f.ok.hd,f.ok.frames,.inl rfl,λb a=>⟨a5 b a,λx c e=>aj b a x c e⟩,λb o e=>f.bs b o e,?_,λb o e z=>?_,λb a=>a6 b a,f.stack,f.stkFree⟩
  .rcases look x c R with⟨q1,r1⟩ | ⟨q1,r1⟩
   .rcases look y c E with⟨q2,r2⟩ | ⟨q2,r2⟩
    .exact cA (q1.symm.trans q2)
    .exact absurd (ai y c r2) (by rw[r1];exact kU.mpr (iE C))
   .rcases look y c E with⟨q2,r2⟩ | ⟨q2,r2⟩
    .exact absurd (ai x c r1) (by rw[r2];exact kU.mpr (iE C))
    .exact f.ok.inj x y c (P x c r1) (P y c r2)
  .have bu:(relabel j X.env).names.lookup x=some .cell\/(relabel j X.env).names.lookup x=some .free:=hx;have hf:j.names.lookup x=some .cell\/j.names.lookup x=some .free:=by
    rcases bu with q | q
    .exact Mz q (.inl rfl)
    .exact Mz q (.inr rfl)
   show ∃ c,(wX nw C++cl).lookup x=some c;by_cases a:nw=some x
   .subst a;exact⟨C+1,by show ((x,C+1)::cl).lookup x=_;rw[cT,iJ]⟩
   .rcases hf with q | q
    .exact absurd (O.only x q) a
    .obtain⟨c,e⟩:=dF.mp (a3 x (dJ q));exact⟨c,lift x c a e⟩
  .rcases look x c E with⟨q,r⟩ | ⟨q,r⟩
   .show K.heap.objs.size<=c;rw[r,hC];exact iE C
   .cases nw with
    | none =>
     have R:(cl.lookup x).isNone=true:=R;rw[r] at R;cases R
    | some nm =>
     have R:(x == nm||(cl.lookup x).isNone)=true:=R;rw[r,show (x == nm)=false from eD.mpr λz=>q (by rw[z])] at R;cases R
  .exact bV f.ok.bsz f.sz
  .obtain⟨z0,z1,z2,z3,_⟩:=f3 b z;rcases z3 with q | q
   .exact f.ok.noex b o e q
   .exact absurd (aW (aL e) (bV f.ok.bsz q)) (cV _)
 have I4:Inv (tJ nw X (T++U) j cl C K M fp) [] (qH T aa σ) M { K with heap:=Z }:=by
  refine⟨a8,rfl,f.bare,Un.kept old,⟨_,V,λi x v R E e3=>?_⟩,λx c e=>?_,av,λx c e=>?_,λp hp=>absurd (show p∈([]:Aa (Ad×Obj)) from hp) (by simp),f.hok.kept old,?_⟩
  .have R:(T++U)[i]?=some x:=R;unfold qH at E;by_cases hi:i<T.length
   .rw[eY (by simpa using hi),bK] at E;cases q:T[i]? with
    | none=>rw[q] at E;cases E
    | some z=>rw[q] at E;cases E
   .rw[cS (by omega)] at R;rw[cS (by simpa using hi),bK,aB] at E;obtain⟨k,k1,k2,k3⟩:=O.cap _ x R;rw[k1] at E;have E:(σ[k]?).join=some v:=cA E;have bj:σ[k]?=some (some v):=by
     cases q:σ[k]? with
     | none=>rw[q] at E;cases E
     | some z=>rw[q] at E;exact eA some E
    have Y:X.env.kindOf x=some .cell:=O.free (x,.free) (dJ k3) rfl;obtain⟨m,hn,hl⟩:=f.loc;obtain⟨u,r,l⟩:=hl k x v k2 bj (.inr (.inl Y));refine⟨u,r,.inr ⟨?_,?_⟩⟩
    .obtain⟨k',e5,e6⟩:=Sq (env:=X.env) k3;rcases e6 with z | ⟨_,z⟩
     .subst z;exact .inr e5
     .subst z;exact .inl e5
    .rcases l with⟨l1,_⟩ | ⟨_,c,e7,o,ay,az⟩
     .rw[Y] at l1;cases l1
     .obtain⟨c',e8⟩:=dF.mp (a3 x (dJ k3));have:=P x c' e8;rw[e7] at this;cases this;exact⟨c,lift x c (λz=>by rw[O.cel x z] at k3;cases k3) e8,o,old c o ay,az⟩
  .rcases look x c e with⟨n,q⟩ | ⟨_,q⟩
   .exact⟨none,q▸S x n⟩
   .obtain⟨v,o,ay,az⟩:=f.cell x c (P x c q);exact⟨v,o,old c o ay,az⟩
  .rcases look x c e with⟨_,q⟩ | ⟨_,q⟩
   .exact q▸ak
   .exact f.freeC x c (P x c q)
  .show (qH T aa σ).length=(T++U).length;unfold qH;rw[bB,bB,aB,aB,O.len]
 have au:∀ {H':Hp},(∀ b∈fp,H' b=none)->∀ b∈fp,rO (tJ nw X (T++U) j cl C K M fp) [] H' b:=λhn b a =>
  ⟨hn b a,a5 b a,a6 b a,.inl a,λx c e=>aj b a x c e,λp hp=>absurd (show p∈([]:Aa (Ad×Obj)) from hp) (by simp)⟩
 have bc:tn 0 Z:=B.keep _ _ _ ag λb _ o e=>old b o e
 have b0:W 0 m0 [] (qH T aa σ) M:=w0;have an:codeAny (model X.prog X.w) X.A (.compLoop (.ListComp a4 [⟨tg,iter,af,0⟩] j pos) 0 (.ref it) (.ref D) (compEnvC j (wX nw C++cl) C X.env))
   (compPost (model X.prog X.w) X.A X.xe a2 Qs (.ref D) C) { K with heap:=Z }:=by
  refine Vn (λn s'=>∃ i ys be H',Inv (tJ nw X (T++U) j cl C K M fp) [] be H' s'/\tn i s'.heap/\(∀ b∈fp,H' b=none)/\W i n ys be H') ?_ m0 ⟨0,[],qH T aa σ,M,I4,bc,λb a=>(f3 b a).1,b0⟩;rintro n s5 ⟨i,ys,ah,H5,I5,bd,a7,w5⟩;rcases ao i n ys ah H5 w5 with⟨stop,qn⟩ | ⟨go,N,F,hN,hF,step⟩
  .refine hO (B.done (tJ nw X (T++U) j cl C K M fp) rfl rfl rfl hc i [] s5 ah H5 _ I5 (au a7) bd stop) λr s6 t=>?_
   obtain⟨hr,I6⟩:=t;subst hr;obtain⟨m6,br,_⟩:=I6.loc;have bq:H5 C=none:=I6.free;have ub:=I6.base;have a0:=f.fpOk (Nat.le_of_eq hC) av;refine fin C D s6 H5 (Inv.call' (s':=s6) (ch:=fp) f I6.os ?_ I6.hok I6.bare (λb a=>⟨(f3 b a).2.2.2.1,(f3 b a).2.1,(f3 b a).2.2.2.2.1,(f3 b a).2.2.2.2.2⟩)) qn ⟨bq,a0.2⟩ ⟨m6,br⟩;exact⟨λb o q n a hx=>ub.keep b o q n a hx,λb o q n a hx=>ub.slot b o q n a hx,ub.free,λb o q hx=>ub.there b o q hx,ub.tups,ub.frzs,ub.tbls⟩
  .refine hO (B.item (tJ nw X (T++U) j cl C K M fp) rfl rfl rfl hc i [] s5 ah H5 _ I5 (au a7) bd go) λr s6 t=>?_
   obtain⟨u,hr,h6⟩:=t;subst hr;refine hO h6 λ_ s7 t=>?_
   obtain⟨x,H7,I7,r7,y7,a1,bn⟩:=t;have bh:=I7.pinned (au bn) (B.obj _ _ a1);have G:∀ {L:St} {H8:Hp} {s8:Ae},Inv (tJ nw X (T++U) j cl C K M fp) ([]++Bo fp s7.heap) L H8 s8->tn (i+1) s8.heap/\(∀ b∈fp,H8 b=none):=λ{L H8 s8} I8=>by
    refine⟨B.keep _ _ _ a1 λb a o e=>(I8.pin (b,o) (aP _ (aP _ (Em a e)))).1,λb a=>?_⟩;obtain⟨o,e,d⟩:=B.obj _ _ a1 b a;exact (I8.pin (b,o) (aP _ (aP _ (Em a e)))).2.1
   refine hO (hg K M C cl fp _ s7 ah H7 x u _ bh r7 (step x H7 y7)) λ_ s8 t=>?_
   obtain⟨L,H8,I8,q8⟩:=t;refine hO (ht K M C cl fp _ s8 L H8 _ I8 q8) λok s9 t=>?_
   obtain⟨H9,I9,q9⟩:=t;cases ok with
   | false =>
    rw[bG (by simp)] at q9;rw[bG (by simp)];obtain⟨m',hm,w9⟩:=hF _ _ q9;exact⟨m',hm,i+1,ys,L,H9,I9.unpinned,(G I9).1,(G I9).2,w9⟩
   | true =>
    rw[bE rfl] at q9;rw[bE rfl];refine hO (he K M C cl fp _ s9 L H9 _ I9 q9) λvv bx t=>?_
    obtain⟨v,bf,bg,bw,bv⟩:=t;obtain⟨bi,b3,m',hm,b1⟩:=hN _ _ _ bv;refine hO (pT (X:=tJ nw X (T++U) j cl C K M fp) _ bx L bf (.ref D) [v] (.ref D) [vv] (λ_ aq=>W (i+1) m' (ys++[v]) L aq) bg rfl (.cons bw .nil) ⟨D,ys,v,rfl,rfl,bi,b3,b1⟩) λ_ b5 t=>?_
    obtain⟨_,aq,ar,_,b2⟩:=t;exact⟨m',hm,i+1,ys++[v],L,aq,ar.unpinned,(G ar).1,(G ar).2,b2⟩
 exact codeAny_compStart_list an (B.self _ 0 _ _ _ bc an)
theorem Th {D:Ad}(I:Inv X g J j p) (q:Q (.ref D) j) (r:rO X g j C) (l:∃ m,p.heap.Ns C m):compPost (model X.prog X.w) X.A X.xe none (EP X g J Q) (.ref D) C (.ok .next) p:=by
 obtain⟨m,l⟩:=l;refine⟨m,l,λd c=>⟨.ref D,j,I.moved (t':=p.toks) (fp:=[C]) (λb a=>?_) (λb o a e=>?_),rfl,q⟩⟩
 .rw[aU.mp a];exact r
 .exact c.extBut b o (λz=>a (aU.mpr z)) e
theorem zC {iter:Expr}(T o:Aa Af) (r:Aa Nat) (hc:X.calm=true) (hi:PI X tg iter wi)
  (hk:j.kind = .function) (ho:E4 X.N X.env.kindOf j T o r=true)
  (hg:∀ p l C U J,PG (sW X (T++o) j U C p l J) tg g)
  (ht:∀ p l C U J,uQ (sW X (T++o) j U C p l J) ab tt)
  (he:∀ p l C U J,PE (sW X (T++o) j U C p l J) aa te)
  (hs:∀ x,foldedSetIterable iter X.env x=pure x:=by intro _;rfl) :
  PE X (.ListComp aa [⟨tg,iter,ab,0⟩] j pos) (C8 T r wi g tt te):=by
 intro a s e H Q I h;rw[eval_ListComp];exact Nt (nw:=none) T o r hc hi hk (Ms ho) hg ht he hs I h λC D d c I q J b=>Th I q J b
end
structure Yields (J:It) (xs:List V) (R:Hp->Prop):Prop where
 go:∀ i H,i<xs.length->R H->J.go i H
 yld:∀ i H x H',i<xs.length->R H->J.yld i H x H'->H'=H/\xs[i]?=some x
 stop:∀ i H,i=xs.length->R H->J.stop i H
theorem Xc {K:kY}:Yields (yJ K a) g (λH=>eT K H a g) :=
 ⟨λi H b r=>⟨g,g[i],r,aG b⟩,λi H x c b r y=>⟨y.1,y.2 g r⟩,λi H e r=>⟨g,r,by omega⟩⟩
theorem Rp {lo:Int}:Yields (rN lo n) ((List.range n).map λ(i:Nat)=>V.int (lo+(i:Int))) (λ_=>True) :=
 ⟨λi H a _=>by simpa [rN] using a,λi H x b a _ y=>⟨y.1,by rw[y.2];simp at a;simp[a]⟩,λi H e _=>by simp[rN,e]⟩
def xN (z:Af):Aa V:=z.cps.toList.map λc=>V.str ⟨#[c]⟩
theorem V5:Yields (tD z) (xN z) (λ_=>True) :=
 ⟨λi H a _=>by simpa [tD,xN,Str.length] using a,
  λi H x d a _ y=>by
   obtain⟨e,c,b,rfl⟩:=y;refine⟨e,?_⟩;unfold xN;rw[bK,fA,b];rfl,
  λi H e _=>by simp[tD,e,xN,Str.length]⟩
def Jg (o:St) (D:Ad) (Pv:Nat->Aa V->Hp->Prop) (i:Nat) (g:Aa V) (j:St):VK:=λv a=>(∃ t,j=t::o)/\a D=some (.l g)/\g.length<sizeLine/\Pv (i+1) (g++[v]) (upd a D (.l (g++[v])))
def Kt (l:St) (Pv:Nat->Aa V->Hp->Prop) (i:Nat) (o:Aa V) (g:St) (j:Hp):Prop:=(∃ t,g=t::l)/\Pv (i+1) o j
theorem Oo {R:Hp->Prop}{D:Ad}(Y:Yields J o R) (Pv:Nat->Aa V->Hp->Prop)
  (U:Pv 0 [] (upd T D (.l []))) (I:∀ i j H,i<=o.length->Pv i j H->R H)
  (hs:∀ i x j H,o[i]?=some x->Pv i j H->tt (some x::g.map (λi=>(r[i]?).join)) H λb C =>if b=true then te (some x::g.map (λi=>(r[i]?).join)) C (Jg (g.map (λi=>(r[i]?).join)) D Pv i j (some x::g.map (λi=>(r[i]?).join))) else Kt (g.map (λi=>(r[i]?).join)) Pv i j (some x::g.map (λi=>(r[i]?).join)) C)
  (hd:∀ j H,Pv o.length j H->Q (.ref D) H):Az [nm] g J (xR 0) tt te r T Q D:=by
 refine⟨λi m j d H=>m=o.length-i/\i<=o.length/\(∃ t,d=t::g.map (λi=>(r[i]?).join))/\Pv i j H,⟨o.length,by simp,dN _,⟨none,rfl⟩,U⟩,?_⟩;rintro i m j d c ⟨rfl,h,⟨t,rfl⟩,p⟩;by_cases a:i<o.length
 .refine .inr ⟨Y.go i c a (I i j c h p),Jg (g.map (λi=>(r[i]?).join)) D Pv i j,Kt (g.map (λi=>(r[i]?).join)) Pv i j,?_,?_,λx q y=>?_⟩
  .rintro n v z ⟨k,s,u,f⟩;exact⟨s,u,o.length-(i+1),by omega,rfl,a,k,f⟩
  .rintro n C ⟨k,f⟩;exact⟨o.length-(i+1),by omega,rfl,a,k,f⟩
  .obtain⟨rfl,w⟩:=Y.yld i c x q a (I i j c h p) y;exact hs i x j q w p
 .have e:i=o.length:=by omega
  subst e;exact .inl ⟨Y.stop _ _ rfl (I _ j c h p),hd j c p⟩
def vP:Expr->Bool
 | .Starred _ _=>false
 | _=>true
theorem T5 (h:vP e=true):starEach (e::j) g=(false,eval e g)::starEach j g:=by
 cases e<;>first | rfl | (cases h;done)
section
variable {X:Cx}
theorem lB (j:PE X e o) (l:PA X g t) (h:vP e=true:=by rfl):PA X (e::g) (uF o t):=uL j l (T5 h)
def GH (g:Aa Af):TA:=λ_ H Q=>Q (g.map V.str) H
theorem wE:∀ (l:Aa (Af×Nat×Pos)),PA X (l.map λp=>.Constant (.str p.1) p.2.1 p.2.2) (GH (l.map (·.1)))
 | []=>lI
 | a::r=>λpos b s c H Q I h=>lB (sM (x:=a.1) (j:=a.2.1) (pos:=a.2.2)) (wE r) (by rfl) pos b s c H Q I h
end
theorem Ju {R:Hp->Prop}{D:Ad}(Y:Yields J o R) (Pv:Nat->Aa V->Hp->Prop)
  (I:Pv 0 [] (upd C D (.l []))) (T:∀ i j H,i<=o.length->Pv i j H->R H)
  (U:∀ i x j H,o[i]?=some x->Pv i j H->te (some x::g.map (λi=>(r[i]?).join)) H (Jg (g.map (λi=>(r[i]?).join)) D Pv i j (some x::g.map (λi=>(r[i]?).join))))
  (hd:∀ j H,Pv o.length j H->Q (.ref D) H):Az [nm] g J (xR 0) E5 te r C Q D:=by
 refine Oo Y Pv I T (λi x j H a p=>?_) hd;unfold E5;dsimp only;rw[bE rfl];exact U i x j H a p
theorem BP {R:Hp->Prop}{D:Ad}(Y:Yields J g R) (f:V->V) (T:j D=none) (C:∀ H,oC j H->R H) (hl:g.length<=1000)
  (I:∀ (i:Nat) x H (k:VK),g[i]?=some x->oC j H->k (f x) H->U (some x::r.map (λi=>(σ[i]?).join)) H k)
  (hd:Q (.ref D) (upd j D (.l (g.map f)))):Az [nm] r J (xR 0) E5 U σ j Q D:=by
 have h:∀ o,oC j (upd j D o):=λo b u e=>by rw[iO (lT e T)];exact e
 refine Ju Y (λi a H=>i<=g.length/\a=(g.take i).map f/\H=upd j D (.l a)) ⟨dN _,by simp,rfl⟩ (λi a H _ p=>C H (by rw[p.2.2];exact h _)) ?_ ?_
 .rintro i x a H d ⟨n,rfl,rfl⟩;have c:=(aT.mp d).1;have m:g.take (i+1)=g.take i++[x]:=by rw[bX,d];rfl
  refine I i x _ _ d (h _) ⟨⟨_,rfl⟩,lE,?_,c,?_,?_⟩
  .rw[aB,bT];exact cP (show min i g.length<=1000 by omega) (by decide)
  .rw[m,aO];rfl
  .rw[Tk]
 .rintro a H ⟨_,rfl,rfl⟩;rw[aQ (aJ _)];exact hd
theorem wK {X:Cx}{st:Stmt}{rest:Aa Stmt}{D:Ends}(I:St->Hp->Prop) (g:∀ u:TS,(∀ j l,I j l->u D j l)->∃ t,PS X st t/\t { D with nx:=u D } o H)
  (h:∀ j l,I j l->∃ u,oA X rest u/\u D j l):∃ t,oA X (st::rest) t/\t D o H:=by
 let u:TS:=λb j l=>∃ c,oA X rest c/\c b j l
 have k:oA X rest u:=λa s j l b d ⟨c,i,e⟩=>i a s j l b d e
 obtain⟨t,pt,f⟩:=g u h;exact⟨Ir t u,nP pt k,f⟩
theorem Lu {X:Cx}{st:Stmt}{rest:Aa Stmt}{D:Ends}(t:TS) (p:PS X st t) (h:t { D with nx:=λg j=>∃ u,oA X rest u/\u D g j } l H):∃ t,oA X (st::rest) t/\t D l H:=by
 let u:TS:=λb g j=>∃ c,oA X rest c/\c b g j
 have i:oA X rest u:=λa s g j b d ⟨c,f,e⟩=>f a s g j b d e
 exact⟨Ir t u,nP p i,h⟩
section
variable {X:Cx}{id:String}
def Zb (K:kY):Aa V->Hp->VK->Prop:=λb H Q=>∃ p a,b=[.ref p]/\(eT K H p a\/mA K H p a)/\Q (.int a.length) H
theorem Xy (K:kY) (g:X.K=K:=by rfl):mK X (.builtin "len") (Zb K):=by subst g;exact vG
theorem Sb (K:kY) (pa:PlainAttrs T) (slot:Slot T name id) (j:typeOf (.builtin id)=pure (.type "method_descriptor")) (J:yP X id r) (U:PE X o to) (C:PA X (e::l) t) (p:X.K=K:=by rfl)
  (I:MtB X o name apos e l g:=by exact {}) :
  PE X (.Call (.Attribute o name apos) (e::l) [] g) (Jb K T r to t):=by
 subst p;exact xJ pa slot j J U C I
end
section
variable {X:Cx}
def EU (g:Aa Int):TA:=λ_ H Q=>Q (g.map V.int) H
theorem Fe:∀ (l:Aa (Int×Nat×Pos)),PA X (l.map λp=>.Constant (.int p.1) p.2.1 p.2.2) (EU (l.map (·.1)))
 | []=>lI
 | a::r=>λpos b s c H Q I h=>lB (mD (i:=a.1) (j:=a.2.1) (pos:=a.2.2)) (Fe r) (by rfl) pos b s c H Q I h
end
section
variable {X:Cx}
theorem Qz (g:X.A.units+64<cLine):mC X (compareOp .NotEq) (Ep X.K true):=by
 intro c s M H x y v u Q I F G h;obtain⟨a,b,L,rfl,rfl,f,z,q⟩:=h;cases F;cases G;obtain⟨B,D,m,_⟩:=I.list f;obtain⟨k,E,n,_⟩:=I.list z;cases E;have t:∀ d,d = !L.isEmpty->EP X c M Q (.bool d) s:=λd e=>⟨.b d,H,I,rfl,by subst e;exact q⟩
 cases D with
 | nil=>exact SeqAt.RcNeAt.lists (e:=λ_=>true) m.isList n.isList rfl (by omega) (λi f _=>by simp at f) X.prog X.w _ _ (t _ (by simp))
 | cons r N=>exact SeqAt.RcNeAt.lists_lengths m.isList n.isList (by simp) (by omega) X.prog X.w _ _ (t _ rfl)
end
section
variable {X:Cx}
theorem Wu {bs:Aa Bool}{g:Aa Ac}(r:kZ (bs.map V.b) g){i:Nat}{v:Ac}(h:g[i]?=some v):∃ b,bs[i]?=some b/\v = .bool b:=by
 have d:=r.length;rw[aB] at d;have f:i<g.length:=(aT.mp h).1;have a:bs[i]?=some (bs[i]'(by omega)):=aG (by omega);obtain⟨u,c,e⟩:=r.get (i:=i) (x:=V.b (bs[i]'(by omega))) (by rw[bK,a];rfl);rw[h] at c;cases c;exact⟨_,a,e⟩
theorem Y0 (bs:Aa Bool):((List.range bs.length).all λi=>(bs[i]?).getD true)=bs.all id:=by
 have e:(List.range bs.length).map (λi=>(bs[i]?).getD true)=bs:=by
  apply gJ (by simp);intro i p q;simp[q]
 calc ((List.range bs.length).all λi=>(bs[i]?).getD true)=((List.range bs.length).map λi=>(bs[i]?).getD true).all id:=by rw[List.all_map];rfl
  _=bs.all id:=by rw[e]
def Li (K:kY):Aa V->Hp->VK->Prop:=λa H Q=>∃ (p:Ad) (bs:Aa Bool),a=[.ref p]/\eT K H p (bs.map V.b)/\Q (.b (bs.all id)) H
theorem X9 (g:X.calm=true):mK X (.builtin "all") (Li X.K):=by
 intro m s P H O N Q I r h;obtain⟨p,bs,rfl,z,q⟩:=h;obtain⟨u,rfl,D⟩:=oM r;cases D;obtain⟨c,n,B,_⟩:=I.list z;have d:=B.isList;have a:=n.length;rw[aB] at a;have f:p<s.heap.objs.size:=by obtain⟨_,e,_⟩:=id d;exact aL e
 refine call_all_walk (eF d ?_);refine⟨s.heap.objs.size,[s.heap.objs.size,p],[s.heap.objs.size],c.toArray.size,_,_,λi=>(bs[i]?).getD true,rfl,Walks.list (A:=X.A.in1) (I.ok.hd g) _ p (bF f) c.toArray,⟨⟨_,aX _ rfl,rfl,rfl⟩,d.push _⟩,λi v L F E t k=>?_,λG M w=>?_⟩
 .obtain⟨b,e,rfl⟩:=Wu n (by simpa using t);simp only[e,Option.getD_some] at k;exact iC k
 .have e:((List.range c.toArray.size).all λi=>(bs[i]?).getD true)=bs.all id:=by
   rw[aN,<- a];exact Y0 bs
  rw[e];exact⟨.b _,H,I.kept λb x e=>w b x (λy=>by rw[aU.mp y] at e;exact cV _ (aL e)) (aI _ e),rfl,q⟩
end
section
variable {X:Cx}
theorem Inv.movedT {t':Nat}{p:Aa Ad}{ys:Aa V}{j:Aa Ac}(I:Inv X g U H s) (l:∀ b∈p,rO X g H b) (k:∀ b o,b∉p->s.heap.get? b=some o->C.get? b=some o)
  (new:uT C s.heap.objs.size j.toArray) (T:kZ ys j) (J:ys.length<=sizeLine):Inv X g U (upd H s.heap.objs.size (.t ys)) { s with heap:=C,toks:=t' }:=by
 have f:=I.fresh;have h:∀ b u,H b=some u->b∉p:=λb u e z=>by rw[(l b z).1] at e;cases e
 have lt:∀ b o,s.heap.get? b=some o->b≠s.heap.objs.size:=λb o e=>bF (aL e)
 refine I.step (g':=s.gens) (d':=s.drawn) (ch:=p) (λb a=>⟨(l b a).2.2.2.1,(l b a).2.1,(l b a).2.2.2.2.1,(l b a).2.2.2.2.2⟩) (λb o _ _ d e _=>k b o d e) (λb o _ _ d e _=>⟨o.slots,k b o d e⟩) (λb o _ e n=>by rw[iO (lt b o e)];exact n)
  (λb o d e=>⟨o,k b o d e⟩) (λb A e=>by rw[iO (lT e f)];exact e) (λb o u e=>by rw[iO (lT e f)];exact e) (λb B e=>⟨#[],by rw[iO (lT e f),e];simp⟩) (λm x=>?_) (λb u e=>?_) I.bare
 .obtain⟨o,w,i,y,r⟩:=x;exact⟨o,w,i,k _ o (λz=>(l _ z).2.1 rfl) y,r⟩
 .by_cases a:b=s.heap.objs.size
  .subst a;rw[lE] at e;cases e;exact⟨J,j,T,new⟩
  .rw[iO a] at e;refine (I.hok b u e).stay (λc v d q=>k c v ?_ q) (λc q=>by rw[iO (lT q f)];exact q) λc A q=>by rw[iO (lT q f)];exact q
   rcases d with z | z
   .rw[z];exact h b u e
   .exact h c _ z
end
section
variable {X:Cx}
theorem Sz {iter:Expr}(T p:Aa Af) (J:Aa Nat) (hN:X.N.Nodup) (af:X.N[i]?=some x) (hx:uI X.env.scope x)
  (hc:X.calm=true) (hi:PI X tg iter wi) (hk:j.kind = .function) (ho:E4 X.N X.env.kindOf j T p J=true)
  (hg:∀ r l C cl U,PG (sW X (T++p) j cl C r l U) tg g)
  (ht:∀ r l C cl U,uQ (sW X (T++p) j cl C r l U) ac tt)
  (he:∀ r l C cl U,PE (sW X (T++p) j cl C r l U) ab te)
  (ag:swapsWith (.ListComp ab [⟨tg,iter,ac,0⟩] j pos) (some (.Name x aa)) ae.line X.env=pure true:=by rfl)
  (hs:∀ x,foldedSetIterable iter X.env x=pure x:=by intro _;rfl)
  (hf:X.fn x=true\/X.env.scope.names.lookup x=some .local:=by first | exact .inl rfl | exact .inr rfl | assumption) :
  PS X (.Assign [.Name x aa] (.ListComp ab [⟨tg,iter,ac,0⟩] j pos) ae) (Gf (C8 T J wi g tt te) (xR i)):=by
 intro u s M H D I h;rw[exec_Assign_Name_used _ _ _ _ ag];refine aA (jW (aA ?_));show wpAny _ _ (comprehension _ _ _ _ _ _ _ _ >>= λ_=>pure ()) _ _ _;refine aA (Nt (nw:=none) T p J hc hi hk (Ms ho) hg ht he hs I h λC t L w A q U k=>?_);obtain⟨m,E⟩:=k;show wpAny _ _ (assign (.Name x aa) X.env (.ref t)) _ _ _;refine wpAny_assign_Name (Rr A hN af hx (v:=.ref t) rfl (λF y f=>?_) hf);obtain⟨a,G,B⟩:=f;have c:C≠a:=by
  rcases B with z | z
  .rw[z];exact U.2.1
  .exact (U.2.2.2.2.1 x a z).symm
 refine⟨m,E.sameBut G c,λK n=>aH (aH ⟨_,w,y.moved (t':=F.toks) (fp:=[C]) (λb d=>?_) (λb o d e=>?_),q⟩)⟩
 .rw[aU.mp d];exact U
 .exact n.extBut b o (λz=>d (aU.mpr z)) e
end
inductive D where
 | e | b (b:Bool) | int (i:Int) | str (x:Str) | r (v:V)
 | t (xs:List D) | l (xs:List D)
 | k (kvs:List (hI×D)) | T (kvs:List (List hI×D))
 | c (xs:List D)
 | con (xs:List D)
def yY (K:kY) (a:Ad) (g:Aa V):Prop:=∃ (o:Obj) (b:Array Ac) (n:Nat),K.lookup a=some o/\o.cls = .type "tuple" /\ o.data = .seq b n/\b.size<=sizeLine/\kZ g b.toList
theorem yY.sqT {K:kY}(h:yY K a g):mA K H a g:=.inr h
def xM (K:kY) (H:Hp) (a:Ad) (g:Aa V):Prop:=(∃ o,H a=some (.frz o (.l g))) \/
 ∃ (o:Obj) (b:Array Ac) (n:Nat),K.lookup a=some o/\o.cls = .type "list" /\ o.dict=none/\o.data = .seq b n/\b.size<=sizeLine/\kZ g b.toList
theorem xM.sqL {K:kY}(h:xM K H a g):eT K H a g:=h.elim (λh=>.inl (.inr h)) .inr
mutual
inductive Rep (K:kY) (A:Addr->Prop) (H:Hp):D->V->Prop where
 | e:Rep K A H .e .e
 | b (b:Bool):Rep K A H (.b b) (.b b)
 | int (i:Int):Rep K A H (.int i) (.int i)
 | str (x:Str):Rep K A H (.str x) (.str x)
 | r (v:V):Rep K A H (.r v) v
 | t {a:Addr} {vs:List V} {ds:List D}:H a=some (.t vs)->Reps K A H ds vs->Rep K A H (.t ds) (.ref a)
 | con {a:Addr} {vs:List V} {ds:List D}:yY K a vs->Reps K A H ds vs->Rep K A H (.con ds) (.ref a)
 | l {a:Addr} {vs:List V} {ds:List D}:A a->H a=some (.l vs)->Reps K A H ds vs->Rep K A H (.l ds) (.ref a)
 | c {a:Addr} {vs:List V} {ds:List D}:xM K H a vs->Reps K A H ds vs->Rep K A H (.c ds) (.ref a)
 | k {a:Addr} {kvs:List (hI×V)} {ds:List (hI×D)}:A a->H a=some (.k kvs)->ds.map (·.1)=kvs.map (·.1)->Reps K A H (ds.map (·.2)) (kvs.map (·.2))->Rep K A H (.k ds) (.ref a)
 | T {a:Addr} {kvs:List (List hI×V)} {ds:List (List hI×D)}:A a->Rd H a (.T kvs)->ds.map (·.1)=kvs.map (·.1)->Reps K A H (ds.map (·.2)) (kvs.map (·.2))->Rep K A H (.T ds) (.ref a)
inductive Reps (K:kY) (A:Addr->Prop) (H:Hp):List D->List V->Prop where
 | nil:Reps K A H [] []
 | cons {d:D} {v:V} {ds:List D} {vs:List V}:Rep K A H d v->Reps K A H ds vs->Reps K A H (d::ds) (v::vs)
end
def xF:HO->Bool
 | .t _=>true
 | .frz _ _=>true
 | _=>false
def Kp (A j:Ad->Prop) (H g:Hp):Prop:=(∀ a o,A a->H a=some o->j a/\g a=some o)/\∀ a o,xF o=true->H a=some o->g a=some o
section
variable {K:kY}
theorem Kp.sqF (k:Kp A l H g) (h:xM K H a j):xM K g a j:=by
 rcases h with⟨o,h⟩ | h
 .exact .inl ⟨o,k.2 _ _ rfl h⟩
 .exact .inr h
theorem Kp.rd (k:Kp A j H l) (g:A a) (h:Rd H a u):j a/\Rd l a u:=by
 rcases h with h | ⟨o,h⟩
 .exact⟨(k.1 _ _ g h).1,.inl (k.1 _ _ g h).2⟩
 .exact⟨(k.1 _ _ g h).1,.inr ⟨o,(k.1 _ _ g h).2⟩⟩
theorem Rep.mono (k:Kp A g H j) (h:Rep K A H d v):Rep K g j d v :=
 Rep.rec (motive_1:=λd v _=>Rep K g j d v) (motive_2:=λf i _=>Reps K g j f i) .e .b .int .str .r (λh _ r=>.t (k.2 _ _ rfl h) r) (λh _ r=>.con h r)
  (λa h _ r=>.l (k.1 _ _ a h).1 (k.1 _ _ a h).2 r) (λh _ r=>.c (k.sqF h) r) (λa h e _ r=>.k (k.1 _ _ a h).1 (k.1 _ _ a h).2 e r) (λa h e _ r=>.T (k.rd a h).1 (k.rd a h).2 e r) .nil (λ_ _ h r=>.cons h r) h
theorem Reps.mono (k:Kp A o H p) (h:Reps K A H j l):Reps K o p j l:=by
 induction j generalizing l with
 | nil=>cases h;exact .nil
 | cons d j a=>cases h with | cons g r=>exact .cons (g.mono k) (a r)
theorem Kp.all (h:∀ a,A a->g a):Kp A g H H:=⟨λa o b e=>⟨h a b,e⟩,λ_ _ _ e=>e⟩
theorem Kp.trans (a:Kp A l H r) (b:Kp l g r j):Kp A g H j:=⟨λx o c e=>let ⟨p,q⟩:=a.1 x o c e;b.1 x o p q,λx o t e=>b.2 x o t (a.2 x o t e)⟩
theorem Kp.laid (g:H p=none) (h:∀ a,A a->a≠p->j a):Kp A j H (upd H p o) :=
 ⟨λa u b e=>⟨h a b (lT e g),by rw[iO (lT e g)];exact e⟩,λa u _ e=>by rw[iO (lT e g)];exact e⟩
theorem Kp.same (s:oC H j) (h:∀ a,A a->g a):Kp A g H j:=⟨λa o b e=>⟨h a b,s a o e⟩,λa o _ e=>s a o e⟩
theorem Kp.write (l:H p=some u) (g:xF u=false) (j:¬ A p):Kp A A H (upd H p o):=by
 refine⟨λa w b e=>⟨b,?_⟩,λa w t e=>?_⟩
 .rw[iO (λz:a=p=>j (by rw[<- z];exact b))];exact e
 .rw[iO (λz=>?_)]
  .exact e
  .subst z;rw[l] at e;cases e;rw[t] at g;cases g
theorem Reps.length (h:Reps K A H j l):j.length=l.length:=by
 induction j generalizing l with
 | nil=>cases h;rfl
 | cons d j a=>cases h with | cons g r=>exact eA (·+1) (a r)
theorem Reps.get {j:Aa D}{l:Aa V}{i:Nat}{d:D}(h:Reps K A H j l) (e:j[i]?=some d):∃ v,l[i]?=some v/\Rep K A H d v:=by
 induction j generalizing l i with
 | nil=>cases e
 | cons c j a =>
  cases h with
  | cons g r =>
   cases i with
   | zero=>cases e;exact⟨_,rfl,g⟩
   | succ i=>exact a r (i:=i) e
theorem Reps.getV {j:Aa D}{l:Aa V}{i:Nat}{v:V}(h:Reps K A H j l) (e:l[i]?=some v):∃ d,j[i]?=some d/\Rep K A H d v:=by
 induction j generalizing l i with
 | nil=>cases h;cases e
 | cons c j a =>
  cases h with
  | cons g r =>
   cases i with
   | zero=>cases e;exact⟨_,rfl,g⟩
   | succ i=>exact a r (i:=i) e
theorem Reps.append (h:Reps K A H j l) (s:Reps K A H o p):Reps K A H (j++o) (l++p):=by
 induction j generalizing l with
 | nil=>cases h;exact s
 | cons d j a=>cases h with | cons g r=>exact .cons g (a r)
theorem Reps.take:∀ {ds:Aa D}{g:Aa V}(n:Nat),Reps K A H ds g->Reps K A H (ds.take n) (g.take n)
 | _,_,0,_=>by rw[List.take_zero,List.take_zero];exact .nil
 | _,_,n+1,.nil=>.nil
 | _,_,n+1,.cons h r=>.cons h (Reps.take n r)
theorem Reps.drop:∀ {g:Aa D}{j:Aa V}(n:Nat),Reps K A H g j->Reps K A H (g.drop n) (j.drop n)
 | _,_,0,h=>h
 | _,_,n+1,.nil=>.nil
 | _,_,n+1,.cons h r=>Reps.drop n r
theorem Reps.set (h:Rep K A H d v):∀ {j:Aa D}{l:Aa V}(i:Nat),Reps K A H j l->Reps K A H (j.set i d) (l.set i v)
 | _,_,_,.nil=>.nil
 | _,_,0,.cons _ r=>.cons h r
 | _,_,i+1,.cons g r=>.cons g (Reps.set h i r)
theorem Reps.erase:∀ {j:Aa D}{l:Aa V}(i:Nat),Reps K A H j l->Reps K A H (j.eraseIdx i) (l.eraseIdx i)
 | _,_,_,.nil=>.nil
 | _,_,0,.cons _ r=>r
 | _,_,i+1,.cons g r=>.cons g (Reps.erase i r)
theorem Reps.nil_iff (h:Reps K A H g j):j=[]↔g=[]:=by
 cases h<;>simp
theorem Rep.int_inv (h:Rep K A H (.int i) v):v = .int i:=by cases h;rfl
theorem Rep.str_inv (h:Rep K A H (.str i) v):v = .str i:=by cases h;rfl
theorem Rep.bl_inv (h:Rep K A H (.b i) v):v = .b i:=by cases h;rfl
theorem Rep.non_inv (h:Rep K A H .e v):v = .e:=by cases h;rfl
theorem Rep.raw_inv (h:Rep K A H (.r u) v):v=u:=by cases h;rfl
theorem Rep.tup_inv (h:Rep K A H (.t j) v):∃ a g,v = .ref a/\H a=some (.t g)/\Reps K A H j g:=by
 cases h with | t h r=>exact⟨_,_,rfl,h,r⟩
theorem Rep.lst_inv (h:Rep K A H (.l j) v):∃ a g,v = .ref a/\A a/\H a=some (.l g)/\Reps K A H j g:=by
 cases h with | l d h r=>exact⟨_,_,rfl,d,h,r⟩
theorem Rep.con_inv (h:Rep K A H (.con j) v):∃ a g,v = .ref a/\yY K a g/\Reps K A H j g:=by
 cases h with | con h r=>exact⟨_,_,rfl,h,r⟩
theorem Rep.scr_inv (h:Rep K A H (.c j) v):∃ a g,v = .ref a/\xM K H a g/\Reps K A H j g:=by
 cases h with | c h r=>exact⟨_,_,rfl,h,r⟩
end
mutual
def imm:D->Bool
 | .t a=>sU a
 | .c a=>sU a
 | .con a=>sU a
 | .l _=>false
 | .k _=>false
 | .T _=>false
 | _=>true
def sU:Aa D->Bool
 | []=>true
 | d::a=>imm d&&sU a
end
section
variable {K:kY}
theorem Rep.imm (h:Rep K A H d v):imm d=true->Rep K g H d v :=
 Rep.rec (motive_1:=λd v _=>L2.imm d=true->Rep K g H d v) (motive_2:=λa f _=>sU a=true->Reps K g H a f) (λ_=>.e) (λb _=>.b b) (λi _=>.int i) (λx _=>.str x) (λv _=>.r v) (λh _ r e=>.t h (r e)) (λh _ r e=>.con h (r e))
  (λ_ _ _ _ e=>Bool.noConfusion (show false=true from e)) (λh _ r e=>.c h (r e)) (λ_ _ _ _ _ e=>Bool.noConfusion (show false=true from e)) (λ_ _ _ _ _ e=>Bool.noConfusion (show false=true from e)) (λ_=>.nil) (λ_ _ h r e=>.cons (h (cO.mp e).1) (r (cO.mp e).2)) h
theorem Reps.imm (h:Reps K A H j l) (e:sU j=true):Reps K o H j l:=by
 induction j generalizing l with
 | nil=>cases h;exact .nil
 | cons d j a=>cases h with | cons g r=>exact .cons (g.imm (cO.mp e).1) (a r (cO.mp e).2)
theorem Qt:∀ {g:Aa D},(∀ d∈g,L2.imm d=true)->sU g=true
 | [],_=>rfl
 | d::g,h=>cO.mpr ⟨h d aE,Qt λe a=>h e (aK _ a)⟩
end
end L2
namespace Lw
open PySem L2
structure DeckAt (H:Hp) (d c:Addr):Prop where
 ex:∃ (ns:List Int) (p:Int),H d=some (.l [.ref c,.int p])/\H c=some (.l (ns.map V.int))/\0<ns.length/\ns.length<=100
def lJ (d c:Ad) (H g:Hp):Prop:=∀ b o,H b=some o->b≠d->b≠c->g b=some o
theorem lJ.trans (a:lJ d c H g) (b:lJ d c g j):lJ d c H j:=λx o e f h=>b x o (a x o e f h) f h
theorem lJ.new (h:H p=none):lJ d c H (upd H p o):=λb u e _ _=>by rw[iO (lT e h)];exact e
theorem DeckAt.ne (D:DeckAt H d c):d≠c:=by
 obtain⟨i,p,f,b,h,_⟩:=D.ex;intro e;subst e;rw[f] at b;injection b with b;injection b with b;cases i with
 | nil=>simp at h
 | cons a r=>simp at b
theorem DeckAt.upd_other (D:DeckAt H d c) (hd:p≠d) (g:p≠c):DeckAt (upd H p o) d c:=by
 obtain⟨h,q,a,b,e,f⟩:=D.ex;exact⟨h,q,by rw[iO hd.symm];exact a,by rw[iO g.symm];exact b,e,f⟩
theorem DeckAt.ned (D:DeckAt H d c) (h:H p=none):p≠d/\p≠c:=by
 obtain⟨e,q,a,b,_⟩:=D.ex;exact⟨(lT a h).symm,(lT b h).symm⟩
theorem DeckAt.new (D:DeckAt H d c) (h:H p=none):DeckAt (upd H p o) d c:=D.upd_other (D.ned h).1 (D.ned h).2
end Lw
namespace L2
open PySem PySem.Spec PyProof.Rows Lw
inductive Sl where
 | n | v (d:D) | o (d:D)
abbrev mR:=Aa (Sl×Ab V)
def Dk (g:Aa Ad) (H:Hp):Prop:=g=[]\/∃ d c,g=[d,c]/\DeckAt H d c
theorem Dk.some (h:Dk j H) (g:a∈j):∃ o,H a=some (.l o):=by
 rcases h with rfl | ⟨d,c,rfl,h⟩
 .cases g
 .obtain⟨f,p,b,e,_⟩:=h.ex;rcases aF.mp g with rfl | g
  .exact⟨_,b⟩
  .rcases aF.mp g with rfl | g
   .exact⟨_,e⟩
   .cases g
theorem Dk.keep (h:Dk g H) (k:∀ a∈g,j a=H a):Dk g j:=by
 rcases h with rfl | ⟨d,c,rfl,h⟩
 .exact .inl rfl
 .refine .inr ⟨d,c,rfl,?_⟩;obtain⟨i,p,b,e,f⟩:=h.ex;exact⟨i,p,by rw[k d (by simp)];exact b,by rw[k c (by simp)];exact e,f⟩
theorem Dk.upd (h:Dk g H) (j:p∉g):Dk g (upd H p o):=h.keep λa b=>iO λz=>j (z▸b)
noncomputable def xY:Sl×Ab V->Ab Ad
 | (.o _,some (.ref a))=>some a
 | _=>none
def eN (L:mR):Aa Ad:=L.filterMap xY
structure Bs where
 dk:List Addr
 A0:Addr->Prop
 H0:Hp
def Al (B:Bs) (R:Aa Ad) (a:Ad):Prop:=a∉B.dk/\a∉R/\(B.A0 a\/B.H0 a=none)
def nZ (K:kY) (A:Ad->Prop) (H:Hp) (a:Ad):D->Prop
 | .l c=>∃ d,H a=some (.l d)/\Reps K A H c d
 | .k c=>∃ b,H a=some (.k b)/\c.map (·.1)=b.map (·.1)/\Reps K A H (c.map (·.2)) (b.map (·.2))
 | .T c=>∃ b,H a=some (.T b)/\c.map (·.1)=b.map (·.1)/\Reps K A H (c.map (·.2)) (b.map (·.2))
 | _=>False
def rX (K:kY) (A:Ad->Prop) (H:Hp):Sl->Ab V->Prop
 | .n,_=>True
 | .v d,x=>∃ v,x=some v/\Rep K A H d v
 | .o d,x=>∃ a,x=some (.ref a)/\nZ K A H a d
structure DS (K:kY) (B:Bs) (L:mR) (H:Hp):Prop where
 fr:∀ b o,B.H0 b=some o->b∉B.dk->H b=some o
 dk:Dk B.dk H
 nd:(eN L).Nodup
 new:∀ a∈eN L,B.H0 a=none/\a∉B.dk
 ok:∀ p∈L,rX K (Al B (eN L)) H p.1 p.2
section
variable {K:kY}{L2:mR}
theorem nZ.mono (k:Kp A p H j) (g:∀ o,H a=some o->j a=some o) (h:nZ K A H a d):nZ K p j a d:=by
 cases d with
 | l _=>obtain⟨b,h,r⟩:=h;exact⟨b,g _ h,r.mono k⟩
 | k _=>obtain⟨b,h,e,r⟩:=h;exact⟨b,g _ h,e,r.mono k⟩
 | T _=>obtain⟨b,h,e,r⟩:=h;exact⟨b,g _ h,e,r.mono k⟩
 | _=>exact False.elim h
theorem nZ.some:∀ {d:D},nZ K A H a d->∃ o,H a=some o/\xF o=false
 | .l _,⟨b,h,r⟩=>⟨_,h,rfl⟩
 | .k _,⟨b,h,e,r⟩=>⟨_,h,rfl⟩
 | .T _,⟨b,h,e,r⟩=>⟨_,h,rfl⟩
theorem nZ.rep (g:∀ b,A b->o b) (j:o a):∀ {d:D},nZ K A H a d->Rep K o H d (.ref a)
 | .l _,⟨c,h,r⟩=>.l j h (r.mono (.all g))
 | .k _,⟨c,h,e,r⟩=>.k j h e (r.mono (.all g))
 | .T _,⟨c,h,e,r⟩=>.T j (.inl h) e (r.mono (.all g))
theorem rX.mono (k:Kp A j H g) (h:rX K A H s y) (l:∀ a,xY (s,y)=some a->∀ o,H a=some o->g a=some o):rX K j g s y:=by
 cases s with
 | n=>trivial
 | v d=>obtain⟨v,e,r⟩:=h;exact⟨v,e,r.mono k⟩
 | o d=>obtain⟨a,rfl,r⟩:=h;exact⟨a,rfl,r.mono k (l a rfl)⟩
theorem pY:eN (g++L2)=eN g++eN L2:=List.filterMap_append
theorem sO:a∈eN L↔∃ p∈L,xY p=some a:=kI
theorem qK:eN (L1++x::L2)=eN L1++((xY x).toList++eN L2):=by
 unfold eN;rw[List.filterMap_append,List.filterMap_cons];cases xY x<;>rfl
theorem DS.live (h:DS K B L H) (g:a∈eN L):∃ o,H a=some o/\xF o=false:=by
 obtain⟨p,c,e⟩:=sO.mp g;have:=h.ok p c;obtain⟨s,y⟩:=p;cases s with
 | n=>cases e
 | v d=>cases e
 | o d =>
  obtain⟨b,rfl,r⟩:=this;cases e;exact r.some
theorem DS.drop (h:DS K B (L1++x::L2) H):DS K B (L1++L2) H:=by
 have e:=qK (L1:=L1) (x:=x) (L2:=L2);have d:∀ a,a∈eN (L1++L2)->a∈eN (L1++x::L2):=λa c=>by
  rw[pY] at c;rw[e];simp only[aV] at c |-;rcases c with q | q
  .exact .inl q
  .exact .inr (.inr q)
 refine⟨h.fr,h.dk,?_,λa c=>h.new a (d a c),λp f=>?_⟩
 .have n:=h.nd;rw[e] at n;rw[pY];obtain⟨k,m,s⟩:=bN.mp n;exact bN.mpr ⟨k,(bN.mp m).2.1,λa c b i=>s a c b (aP _ i)⟩
 .refine (h.ok p (by simp only[aV,aF] at f |-;rcases f with q | q;exact .inl q;exact .inr (.inr q))).mono (.all λa z=>⟨z.1,λq=>z.2.1 (d a q),z.2.2⟩) (λ_ _ _ q=>q)
theorem DS.at (h:DS K B (g++x::L2) H):rX K (Al B (eN (g++x::L2))) H x.1 x.2:=h.ok x (aP _ aE)
theorem DS.valAt (h:DS K B (g++(.v d,some v)::L2) H):Rep K (Al B (eN (g++L2))) H d v:=by
 obtain⟨u,e,r⟩:=h.at;cases e;have:eN (g++(Sl.v d,some v)::L2)=eN (g++L2):=by rw[qK,pY];rfl
 rw[this] at r;exact r
theorem DS.push (h:DS K B (L1++L2) H) (r:Rep K (Al B (eN (L1++L2))) H d v):DS K B (L1++(.v d,some v)::L2) H:=by
 have e:eN (L1++(Sl.v d,some v)::L2)=eN (L1++L2):=by rw[qK,pY];rfl
 refine⟨h.fr,h.dk,by rw[e];exact h.nd,by rw[e];exact h.new,λp a=>?_⟩;rw[e];simp only[aV,aF] at a;rcases a with q | q | q
 .exact h.ok p (aM _ q)
 .subst q;exact⟨v,rfl,r⟩
 .exact h.ok p (aP _ q)
theorem DS.pushN (h:DS K B (L1++L2) H) (y:Ab V):DS K B (L1++(.n,y)::L2) H:=by
 have e:eN (L1++(Sl.n,y)::L2)=eN (L1++L2):=by rw[qK,pY];rfl
 refine⟨h.fr,h.dk,by rw[e];exact h.nd,by rw[e];exact h.new,λp a=>?_⟩;rw[e];simp only[aV,aF] at a;rcases a with q | q | q
 .exact h.ok p (aM _ q)
 .subst q;trivial
 .exact h.ok p (aP _ q)
theorem DS.grow (h:DS K B L H) (s:oC H g) (j:Dk B.dk g):DS K B L g :=
 ⟨λb o e n=>s b o (h.fr b o e n),j,h.nd,h.new,λp a=>(h.ok p a).mono (.same s λ_ z=>z) (λ_ _ o q=>s _ o q)⟩
theorem DS.free (h:DS K B L H) (g:H a=none):B.H0 a=none/\a∉B.dk/\a∉eN L:=by
 have n:a∉B.dk:=λz=>by obtain⟨b,e⟩:=h.dk.some z;rw[e] at g;cases g
 refine⟨?_,n,λz=>by obtain⟨o,e,_⟩:=h.live z;rw[e] at g;cases g⟩;cases e:B.H0 a with
 | none=>rfl
 | some o=>rw[h.fr a o e n] at g;cases g
theorem DS.laid (h:DS K B L H) (g:H a=none):DS K B L (upd H a o) :=
 h.grow (λb u e=>by rw[iO (lT e g)];exact e) (h.dk.upd (h.free g).2.1)
theorem DS.tup (h:DS K B (L1++L2) H) (g:H a=none) (r:Reps K (Al B (eN (L1++L2))) H j l):DS K B (L1++(.v (.t j),some (.ref a))::L2) (upd H a (.t l)) :=
 (h.laid g).push (.t lE (r.mono (.laid g λ_ z _=>z)))
theorem DS.make (h:DS K B (L1++L2) H) (g:H a=none) (r:∀ j,Kp (Al B (eN (L1++L2))) j H (upd H a o)->nZ K j (upd H a o) a d):DS K B (L1++(.o d,some (.ref a))::L2) (upd H a o):=by
 obtain⟨f1,f2,k⟩:=h.free g;have e:eN (L1++(Sl.o d,some (.ref a))::L2)=eN L1++a::eN L2:=qK;have m:∀ b,b∈eN L1++a::eN L2↔b=a\/b∈eN (L1++L2):=λb=>by
  rw[pY];simp only[aV,aF];constructor
  .rintro (q | q | q)
   .exact .inr (.inl q)
   .exact .inl q
   .exact .inr (.inr q)
  .rintro (q | q | q)
   .exact .inr (.inl q)
   .exact .inl q
   .exact .inr (.inr q)
 have s:Kp (Al B (eN (L1++L2))) (Al B (eN L1++a::eN L2)) H (upd H a o):=.laid g λb z n=>⟨z.1,λq=>(m b).mp q |>.elim n z.2.1,z.2.2⟩
 refine⟨λb u q n=>by rw[iO (lT (h.fr b u q n) g)];exact h.fr b u q n,h.dk.upd f2,?_,λb i=>?_,λp f=>?_⟩
 .rw[e];have n:=h.nd;rw[pY] at n k;obtain⟨v,x,y⟩:=bN.mp n;refine bN.mpr ⟨v,bW.mpr ⟨λz=>k (aP _ z),x⟩,λb i c t=>?_⟩;rcases aF.mp t with q | q
  .intro z;subst z;subst q;exact k (aM _ i)
  .exact y b i c q
 .rw[e] at i;rcases (m b).mp i with q | q
  .subst q;exact⟨f1,f2⟩
  .exact h.new b q
 .rw[e];simp only[aV,aF] at f;have old:∀ p∈L1++L2,rX K (Al B (eN L1++a::eN L2)) (upd H a o) p.1 p.2:=λp f=>(h.ok p f).mono s λb i w q=>by rw[iO (lT q g)];exact q
  rcases f with q | q | q
  .exact old p (aM _ q)
  .subst q;exact⟨a,rfl,r _ s⟩
  .exact old p (aP _ q)
theorem DS.freeze (h:DS K B (g++(.o d,some v)::L2) H):DS K B (g++(.v d,some v)::L2) H:=by
 obtain⟨a,e,r⟩:=h.at;cases e;have c:eN (g++(Sl.o d,some (V.ref a))::L2)=eN g++a::eN L2:=qK;have hd:=h.drop;have f:=h.new a (by rw[c];simp);refine hd.push (r.rep (λb z=>⟨z.1,λq=>z.2.1 ?_,z.2.2⟩) ⟨f.2,λq=>?_,.inr f.1⟩)
 .rw[c];rw[pY] at q;simp only[aV,aF] at q |-;rcases q with q | q
  .exact .inl q
  .exact .inr (.inr q)
 .have n:=h.nd;rw[c] at n;rw[pY] at q;obtain⟨m,i,k⟩:=bN.mp n;rcases aV.mp q with q | q
  .exact k a q a aE rfl
  .exact (bW.mp i).1 q
theorem DS.write (h:DS K B (g++(.o d,some (.ref a))::L2) H) (r:∀ j,Kp (Al B (eN g++a::eN L2)) j H (upd H a o)->nZ K j (upd H a o) a d'):DS K B (g++(.o d',some (.ref a))::L2) (upd H a o):=by
 have e:∀ d,eN (g++(Sl.o d,some (V.ref a))::L2)=eN g++a::eN L2:=λd=>qK
 have s:=h.new a (by rw[e];simp);obtain⟨u,t,A⟩:=h.live (a:=a) (by rw[e];simp);have k:Kp (Al B (eN g++a::eN L2)) (Al B (eN g++a::eN L2)) H (upd H a o):=.write t A λz=>z.2.1 (by simp)
 have n:=h.nd;rw[e] at n;have y:∀ b,b∈eN g\/b∈eN L2->b≠a:=λb c z=>by
  subst z;obtain⟨D,v,x⟩:=bN.mp n;rcases c with c | c
  .exact x b c b aE rfl
  .exact (bW.mp v).1 c
 refine⟨λb w q m=>?_,h.dk.upd s.2,by rw[e];exact n,λb c=>h.new b (by rw[e] at c |-;exact c),λp f=>?_⟩
 .have:b≠a:=λz=>by subst z;rw[s.1] at q;cases q
  rw[iO this];exact h.fr b w q m
 .rw[e];have old:∀ p,p∈g\/p∈L2->rX K (Al B (eN g++a::eN L2)) (upd H a o) p.1 p.2:=λp i=>by
   have:=h.ok p (by simp only[aV,aF];rcases i with q | q;exact .inl q;exact .inr (.inr q));rw[e] at this;refine this.mono k λb c w q=>?_
   rw[iO (y b ?_)]
   .exact q
   .rcases i with z | z
    .exact .inl (sO.mpr ⟨p,z,c⟩)
    .exact .inr (sO.mpr ⟨p,z,c⟩)
  simp only[aV,aF] at f;rcases f with q | q | q
  .exact old p (.inl q)
  .subst q;exact⟨a,rfl,r _ k⟩
  .exact old p (.inr q)
theorem DS.ownAt (h:DS K B (g++(.o d,some v)::L2) H):∃ a,v = .ref a/\nZ K (Al B (eN g++a::eN L2)) H a d:=by
 obtain⟨a,e,r⟩:=h.at;cases e;rw[show eN (g++(Sl.o d,some (V.ref a))::L2)=eN g++a::eN L2 from qK] at r;exact⟨a,rfl,r⟩
theorem DS.perm (h:DS K B L H) (p:L.Perm M):DS K B M H:=by
 have e:(eN L).Perm (eN M):=p.filterMap xY;refine⟨h.fr,h.dk,e.nodup_iff.mp h.nd,λa b=>h.new a (e.mem_iff.mpr b),λq c=>(h.ok q (p.mem_iff.mpr c)).mono (.all λa z=>⟨z.1,λw=>z.2.1 (e.mem_iff.mpr w),z.2.2⟩) λ_ _ _ w=>w⟩
end
section
theorem uA {g:Aa Sl}{σ:St}(C:g.length=σ.length){i:Nat}{s:Sl}(h:g[i]?=some s):∃ j y l,σ[i]?=some y/\j.length=i/\g.zip σ=j++(s,y)::l/\∀ o p,(g.set i o).zip (σ.set i p)=j++(o,p)::l:=by
 induction g generalizing σ i with
 | nil=>simp at h
 | cons r g e =>
  cases σ with
  | nil=>simp at C
  | cons z σ =>
   cases i with
   | zero=>simp at h;subst h;exact⟨[],z,g.zip σ,rfl,rfl,rfl,λ_ _=>rfl⟩
   | succ i =>
    obtain⟨j,y,l,a,b,c,d⟩:=e (σ:=σ) (by simpa using C) (i:=i) (by simpa using h);exact⟨(r,z)::j,y,l,by simpa using a,by simp[b],by simp[c],λo p=>by simp[d]⟩
theorem yH {g:St}{i:Nat}{y:Ab V}(h:g[i]?=some y):g.set i y=g:=by
 obtain⟨a,rfl⟩:=aT.mp h;exact List.set_getElem_self a
end
abbrev mB:=Aa Ad->Aa Sl->(Sl->Aa Sl->Prop)->Prop
abbrev pP:=Aa Ad->Aa Sl->(Bool->Aa Sl->Prop)->Prop
def dE (K:kY) (g:mB):TE:=λb H Q=>∃ (B:Bs) (c:Aa Sl) (T:mR) (e:Sl->Aa Sl->Prop),c.length=b.length/\DS K B (c.zip b++T) H/\g B.dk c e /\
 ∀ r a v d,a.length=b.length->DS K B (a.zip b++(r,some v)::T) d->e r a->Q v d
def tG (K:kY) (g:pP):TT:=λc H Q=>∃ (B:Bs) (d:Aa Sl) (T:mR) (f:Bool->Aa Sl->Prop),d.length=c.length/\DS K B (d.zip c++T) H/\g B.dk d f /\
 ∀ b a e,a.length=c.length->DS K B (a.zip c++T) e->f b a->Q b e
theorem dE.elim {K:kY}{P:Prop}(h:dE K C o H Q) (f:∀ (B:Bs) (j:Aa Sl) (T:mR) (l:Sl->Aa Sl->Prop),j.length=o.length->DS K B (j.zip o++T) H->C B.dk j l ->(∀ r g v p,g.length=o.length->DS K B (g.zip o++(r,some v)::T) p->l r g->Q v p)->P):P:=by
 obtain⟨B,j,T,l,a,hd,b,k⟩:=h;exact f B j T l a hd b k
theorem tG.elim {K:kY}{P:Prop}(h:tG K r o H Q) (f:∀ (B:Bs) (j:Aa Sl) (T:mR) (l:Bool->Aa Sl->Prop),j.length=o.length->DS K B (j.zip o++T) H->r B.dk j l ->(∀ b g p,g.length=o.length->DS K B (g.zip o++T) p->l b g->Q b p)->P):P:=by
 obtain⟨B,j,T,l,a,hd,c,k⟩:=h;exact f B j T l a hd c k
abbrev PD (X:Cx) (e:Expr) (g:mB):Prop:=PE X e (dE X.K g)
abbrev qV (X:Cx) (e:Expr) (g:pP):Prop:=PT X e (tG X.K g)
abbrev xO (X:Cx) (e:Expr) (g:pP):Prop:=PW X e (tG X.K g)
theorem PE.mono {X:Cx}(h:PE X e t) (k:∀ g H Q,j g H Q->t g H Q):PE X e j:=λa s g H Q I q=>h a s g H Q I (k g H Q q)
theorem PT.mono {X:Cx}(h:PT X e t) (k:∀ g H Q,j g H Q->t g H Q):PT X e j:=λa s g H Q I q=>h a s g H Q I (k g H Q q)
theorem PW.mono {X:Cx}(h:PW X e t) (k:∀ g H Q,j g H Q->t g H Q):PW X e j:=λb a s g H Q I q=>h b a s g H Q I (k g H Q q)
def sd:Sl->Ab D
 | .v d=>some d
 | .o d=>some d
 | .n=>none
section
variable {K:kY}{L2:mR}
theorem Gb:eN (g++(Sl.v d,y)::L2)=eN (g++L2):=by rw[qK,pY];rfl
theorem DS.thaw (h:DS K B (g++(r,some v)::L2) H) (e:sd r=some d):DS K B (g++(.v d,some v)::L2) H:=by
 cases r with
 | n=>cases e
 | v c=>cases e;exact h
 | o c=>cases e;exact h.freeze
theorem DS.one (h:DS K B (L++(r,some v)::T) H) (e:sd r=some d):DS K B (L++T) H/\Rep K (Al B (eN (L++T))) H d v:=by
 have a:=h.thaw e;exact⟨a.drop,a.valAt⟩
theorem DS.two (h:DS K B (L++(l,some u)::(r,some v)::T) H) (g:sd r=some d) (j:sd l=some e):DS K B (L++T) H/\Rep K (Al B (eN (L++T))) H d v/\Rep K (Al B (eN (L++T))) H e u:=by
 have m:=h.thaw j;have n:DS K B ((L++[(Sl.v e,some u)])++(r,some v)::T) H:=by simpa using m
 have a:=n.thaw g;have b:DS K B (L++(Sl.v e,some u)::(.v d,some v)::T) H:=by simpa using a
 have c:=b.valAt;have f:=a.valAt;have i:eN (L++(Sl.v d,some v)::T)=eN (L++T):=by rw[qK,pY];rfl
 have k:eN ((L++[(Sl.v e,some u)])++T)=eN (L++T):=by
  rw[bI];show eN (L++(Sl.v e,some u)::T)=_;rw[qK,pY];rfl
 rw[i] at c;rw[k] at f;exact⟨b.drop.drop,f,c⟩
theorem DS.mid (h:DS K B (x::(L++T)) H):DS K B (L++x::T) H:=h.perm jT.symm
theorem DS.front (h:DS K B (L++x::T) H):DS K B (x::(L++T)) H:=h.perm jT
theorem DS.pushF (h:DS K B L H) (r:Rep K (Al B (eN L)) H d v):DS K B ((.v d,some v)::L) H:=DS.push (L1:=[]) h r
theorem DS.tupF (h:DS K B L H) (j:H a=none) (r:Reps K (Al B (eN L)) H g l):DS K B ((.v (.t g),some (.ref a))::L) (upd H a (.t l)):=DS.tup (L1:=[]) h j r
theorem DS.lstF (h:DS K B L H) (p:H a=none) (r:Reps K (Al B (eN L)) H j g):DS K B ((.o (.l j),some (.ref a))::L) (upd H a (.l g)) :=
 DS.make (L1:=[]) h p λb k=>⟨g,lE,r.mono k⟩
theorem DS.dKF (h:DS K B L H) (l:H a=none) (e:j.map (·.1)=g.map (·.1)) (r:Reps K (Al B (eN L)) H (j.map (·.2)) (g.map (·.2))):DS K B ((.o (.k j),some (.ref a))::L) (upd H a (.k g)) :=
 DS.make (L1:=[]) h l λb k=>⟨g,lE,e,r.mono k⟩
end
def mG (K:kY) (A:Ad->Prop) (H:Hp):D->V->Prop
 | .l f,v=>∃ a h,v = .ref a/\H a=some (.l h)/\Reps K A H f h
 | .k f,v=>∃ a d,v = .ref a/\H a=some (.k d)/\f.map (·.1)=d.map (·.1)/\Reps K A H (f.map (·.2)) (d.map (·.2))
 | .T f,v=>∃ a d,v = .ref a/\Rd H a (.T d)/\f.map (·.1)=d.map (·.1)/\Reps K A H (f.map (·.2)) (d.map (·.2))
 | .e,v=>Rep K A H .e v
 | .b b,v=>Rep K A H (.b b) v
 | .int b,v=>Rep K A H (.int b) v
 | .str b,v=>Rep K A H (.str b) v
 | .r b,v=>Rep K A H (.r b) v
 | .t b,v=>Rep K A H (.t b) v
 | .con b,v=>Rep K A H (.con b) v
 | .c b,v=>Rep K A H (.c b) v
section
variable {K:kY}
theorem Rep.peek (h:Rep K A H d v):mG K A H d v:=by
 cases h with
 | l _ h r=>exact⟨_,_,rfl,h,r⟩
 | k _ h e r=>exact⟨_,_,rfl,h,e,r⟩
 | T _ h e r=>exact⟨_,_,rfl,h,e,r⟩
 | e=>exact .e
 | b=>exact .b _
 | int=>exact .int _
 | str=>exact .str _
 | r=>exact .r _
 | t h r=>exact .t h r
 | con h r=>exact .con h r
 | c h r=>exact .c h r
theorem nZ.peek:∀ {d:D},nZ K A H a d->mG K A H d (.ref a)
 | .l _,⟨b,h,r⟩=>⟨_,b,rfl,h,r⟩
 | .k _,⟨b,h,e,r⟩=>⟨_,b,rfl,h,e,r⟩
 | .T _,⟨b,h,e,r⟩=>⟨_,b,rfl,.inl h,e,r⟩
theorem mG.lst_inv (h:mG K A H (.l j) v):∃ a g,v = .ref a/\H a=some (.l g)/\Reps K A H j g:=h
theorem mG.dK_inv (h:mG K A H (.k j) v):∃ a g,v = .ref a/\H a=some (.k g)/\j.map (·.1)=g.map (·.1)/\Reps K A H (j.map (·.2)) (g.map (·.2)):=h
theorem mG.dT_inv (h:mG K A H (.T j) v):∃ a g,v = .ref a/\Rd H a (.T g)/\j.map (·.1)=g.map (·.1)/\Reps K A H (j.map (·.2)) (g.map (·.2)):=h
theorem mG.tup_inv (h:mG K A H (.t j) v):∃ a g,v = .ref a/\H a=some (.t g)/\Reps K A H j g:=Rep.tup_inv h
theorem mG.con_inv (h:mG K A H (.con j) v):∃ a g,v = .ref a/\yY K a g/\Reps K A H j g:=Rep.con_inv h
theorem mG.scr_inv (h:mG K A H (.c j) v):∃ a g,v = .ref a/\xM K H a g/\Reps K A H j g:=Rep.scr_inv h
theorem mG.int_inv (h:mG K A H (.int i) v):v = .int i:=Rep.int_inv h
theorem mG.str_inv (h:mG K A H (.str i) v):v = .str i:=Rep.str_inv h
theorem mG.bl_inv (h:mG K A H (.b i) v):v = .b i:=Rep.bl_inv h
theorem mG.non_inv (h:mG K A H .e v):v = .e:=Rep.non_inv h
def at? (g:Aa Sl) (i:Nat):Ab D:=(g[i]?).bind sd
theorem DS.peek (l:g.length=j.length) (h:DS K B (g.zip j++T) H) (e:at? g i=some d):∃ v,j[i]?=some (some v)/\mG K (Al B (eN (g.zip j++T))) H d v:=by
 unfold at? at e;cases f:g[i]? with
 | none=>rw[f] at e;cases e
 | some s =>
  rw[f] at e;obtain⟨q,y,t,k,_,m,_⟩:=uA l f;have b:=h;rw[m] at b;have:=b.ok (s,y) (by simp);rw[<- m] at this;cases s with
  | n=>cases e
  | v c=>cases e;obtain⟨v,rfl,r⟩:=this;exact⟨v,k,r.peek⟩
  | o c=>cases e;obtain⟨a,rfl,r⟩:=this;exact⟨_,k,r.peek⟩
end
noncomputable def vd (i:Nat):mB:=λ_ a b=>match a[i]? with
 | some (.v d)=>b (.v d) a
 | some (.o d)=>b (.v d) (a.set i (.v d))
 | _=>False
def cd (d:D):mB:=λ_ b a=>a (.v d) b
section
variable {X:Cx}
theorem eH (i:Nat) (h:PE X (.Name x pos) (pR i):=by exact pv _):PD X (.Name x pos) (vd i):=h.mono λL H Q z=>z.elim λB D T M w hd c k=>by
 unfold vd at c;cases e:D[i]? with
 | none=>rw[e] at c;exact c.elim
 | some s =>
  rw[e] at c;obtain⟨f,y,m,A,_,G,q⟩:=uA w e;have b:DS X.K B (f++(s,y)::(m++T)) H:=by rw[G] at hd;simpa using hd
  cases s with
  | n=>exact c.elim
  | v d =>
   obtain⟨v,rfl,_⟩:=b.at;refine⟨v,A,k _ _ v H w ?_ c⟩;refine hd.push ?_;have:=b.valAt;rw[G];have t:eN ((f++(Sl.v d,some v)::m)++T)=eN (f++(m++T)):=by
    rw[bI,cL,Gb]
   rw[t];exact this
  | o d =>
   obtain⟨a,rfl,_⟩:=b.at;have E:=b.freeze;have F:(D.set i (.v d)).zip L=f++(.v d,some (.ref a))::m:=by
    have:=q (.v d) (some (.ref a));rw[yH A] at this;exact this
   have u:DS X.K B ((D.set i (.v d)).zip L++T) H:=by rw[F];simpa using E
   refine⟨.ref a,A,k _ _ _ H (by rw[bQ];exact w) ?_ c⟩;refine u.push ?_;have:=E.valAt;rw[F];have t:eN ((f++(Sl.v d,some (V.ref a))::m)++T)=eN (f++(m++T)):=by
    rw[bI,cL,Gb]
   rw[t];exact this
theorem J7 (h:PE X e (tC v)) (r:∀ K A H,Rep K A H d v):PD X e (cd d):=h.mono λm H Q a=>a.elim λB f T i b hd c k=>k _ f v H b (hd.push (r _ _ _)) c
theorem gV:PD X (.Constant (.int i) j pos) (cd (.int i)):=J7 mD λ_ _ _=>.int i
theorem sE:PD X (.Constant (.str x) j pos) (cd (.str x)):=J7 sM λ_ _ _=>.str x
theorem Bm:PD X (.Constant (.bool x) j pos) (cd (.b x)):=J7 Vq λ_ _ _=>.b x
abbrev O2:=D->D->(Sl->Prop)->Prop
def oZ (K:kY) (r:R2) (f:O2):Prop:=∀ (B:Bs) (L:mR) (H:Hp) (d e:D) (x y:V) (b:Sl->Prop) (Q:VK),DS K B L H->mG K (Al B (eN L)) H d x->mG K (Al B (eN L)) H e y->f d e b ->
 (∀ s v a,b s->DS K B ((s,some v)::L) a->Q v a)->r x y H Q
def d2 (f:O2) (g j:mB):mB:=λc m k=>g c m λh a=>j c a λi b=>match sd h,sd i with
 | some d,some e=>f d e λr=>k r b
 | _,_=>False
theorem Ff (o:oZ X.K r f) (h:dE X.K (d2 f p C) l H Q):dE X.K p l H λx j=>dE X.K C l j λy g=>r x y g Q:=by
 obtain⟨B,N,T,O,w,hd,A,k⟩:=h;refine⟨B,N,T,_,w,hd,A,λq m x j D d1 u=>⟨B,m,(q,some x)::T,_,D,d1,u,λM n y g E d2 a=>?_⟩⟩;cases b:sd q with
 | none=>rw[b] at a;exact a.elim
 | some d =>
  cases c:sd M with
  | none=>rw[b,c] at a;exact a.elim
  | some e =>
   rw[b,c] at a;obtain⟨F,G,L⟩:=d2.two b c;exact o B _ g d e x y _ Q F G.peek L.peek a λs v t z i=>k s n v t E i.mid z
def yV (f:O2) (i:Nat) (g:mB):mB:=λc b k=>(at? b i).isSome=true/\g c b λh a=>match at? a i,sd h with
 | some d,some e=>f d e λr=>k r a
 | _,_=>False
theorem Cb (o:oZ X.K r f) (h:dE X.K (yV f i p) j H Q):pR i j H λx l=>dE X.K p j l λy g=>r x y g Q:=by
 obtain⟨B,O,T,S,t,hd,⟨E,G⟩,k⟩:=h;obtain⟨P,D⟩:=dF.mp E;obtain⟨x,u,_⟩:=hd.peek t D;refine⟨x,u,B,O,T,_,t,hd,G,λN c y g w d2 a=>?_⟩;cases m:at? c i with
 | none=>rw[m] at a;exact a.elim
 | some d =>
  cases n:sd N with
  | none=>rw[m,n] at a;exact a.elim
  | some e =>
   rw[m,n] at a;obtain⟨z,M⟩:=d2.one n;obtain⟨R,b,L⟩:=z.peek w m;rw[u] at b;cases b;exact o B _ g d e x y _ Q z L M.peek a λs v A F q=>k s c v A w q.mid F
theorem mZ (o:mC X (binaryOp op) r) (l:oZ X.K r f) (i:Nat) (j:PD X b p) (g:PE X a (pR i):=by exact pv _):PD X (.BinOp a op b pos) (yV f i p):=(lW o g j).mono λ_ _ _ h=>Cb l h
theorem BO (p:mC X (compareOp op) r) (l:oZ X.K r f) (g:PE X a (pR i)) (j:PD X b C) (o:behindInMarks op b=false:=by first | exact uU _ | (with_unfolding_all rfl)):PD X (.Compare a [op] [b] pos) (yV f i C) :=
 (O5 p g j o).mono λ_ _ _ h=>Cb l h
theorem nS (o:mC X (binaryOp op) r) (l:oZ X.K r f) (g:PD X a p) (j:PD X b C):PD X (.BinOp a op b pos) (d2 f p C):=(lW o g j).mono λ_ _ _ h=>Ff l h
theorem K2 (p:mC X (compareOp op) r) (l:oZ X.K r f) (g:PD X a C) (j:PD X b I) (o:behindInMarks op b=false:=by first | exact uU _ | (with_unfolding_all rfl)):PD X (.Compare a [op] [b] pos) (d2 f C I) :=
 (O5 p g j o).mono λ_ _ _ h=>Ff l h
def Bp (t:mB):pP:=λc e d=>t c e λr a=>match r with
 | .v (.b b)=>d b a
 | _=>False
theorem Ku (h:tG X.K (Bp t) j H Q):dE X.K t j H λx g=>∃ k,x = .b k/\Q k g:=by
 obtain⟨B,m,T,q,e,hd,f,k⟩:=h;refine⟨B,m,T,_,e,hd,f,λr c v g i d1 a=>?_⟩;cases r with
 | n=>exact a.elim
 | o d=>exact a.elim
 | v d =>
  cases d with
  | b b=>exact⟨b,d1.valAt.bl_inv,k b c g i d1.drop a⟩
  | _=>exact a.elim
theorem vX (p:mC X (compareOp op) r) (l:oZ X.K r f) (g:PE X a (pR i)) (j:PD X b C) (o:behindInMarks op b=false:=by first | exact uU _ | (with_unfolding_all rfl)):qV X (.Compare a [op] [b] pos) (Bp (yV f i C)) :=
 (vJ p g j o).mono λc H Q h=>Cb l (Ku h)
theorem uD (p:mC X (compareOp op) r) (l:oZ X.K r f) (g:PD X a C) (j:PD X b I) (o:behindInMarks op b=false:=by first | exact uU _ | (with_unfolding_all rfl)):qV X (.Compare a [op] [b] pos) (Bp (d2 f C I)) :=
 (vJ p g j o).mono λc H Q h=>by
  have:=Ku h;exact Ff l this
end
section
variable [DecidableEq κ]
noncomputable def pZ (g:Aa (κ×D)) (k:κ):Ab D:=(g.find? λa=>decide (a.1=k)).map (·.2)
noncomputable def qZ (g:Aa (κ×D)) (k:κ) (d:D):Aa (κ×D):=if g.any (λa=>decide (a.1=k)) then g.map (λa=>if a.1=k then (a.1,d) else a) else g++[(k,d)]
theorem Uj:pZ ([]:Aa (κ×D)) k=none:=rfl
theorem Br {k j:κ}{d:D}{r:Aa (κ×D)}:pZ ((j,d)::r) k=if j=k then some d else pZ r k:=by
 unfold pZ;rw[List.find?_cons];by_cases h:j=k<;>simp[h]
theorem Fo (k:κ):∀ g:Aa (κ×D),(g.any λl=>decide (l.1=k))=(pZ g k).isSome
 | []=>rfl
 | (j,d)::r=>by
  rw[Br,fQ,Fo k r];by_cases h:j=k<;>simp[h]
end
section
variable [DecidableEq κ] {K:kY}
theorem B9:∀ {l:Aa (κ×D)}{g:Aa (κ×V)},l.map (·.1)=g.map (·.1)->Reps K A H (l.map (·.2)) (g.map (·.2))->∀ k,(∀ d,pZ l k=some d->∃ v,qN g k=some v/\Rep K A H d v)/\(pZ l k=none->qN g k=none)
 | [],[],_,_,k=>⟨λd h=>by simp[Uj] at h,λ_=>rfl⟩
 | [],_::_,e,_,_=>by simp at e
 | _::_,[],e,_,_=>by simp at e
 | (i,d)::l,(j,v)::g,e,r,k=>by
  simp only[aY,hV] at e;obtain⟨a,b⟩:=e;subst a;cases r with
  | cons h r =>
   have c:=B9 b r k;rw[Br];by_cases z:i=k
   .rw[bE z,Dr z];exact⟨λf q=>by cases q;exact⟨v,rfl,h⟩,λq=>by cases q⟩
   .rw[bG z,Dz z];exact c
theorem J6 {o:Aa (κ×D)}{l:Aa (κ×V)}(e:o.map (·.1)=l.map (·.1)) (r:Reps K A H (o.map (·.2)) (l.map (·.2))){k:κ}{d:D}{v:V}(h:Rep K A H d v) :
  (qZ o k d).map (·.1)=(pS l k v).map (·.1)/\Reps K A H ((qZ o k d).map (·.2)) ((pS l k v).map (·.2)):=by
 have m:∀ (o:Aa (κ×D)) (l:Aa (κ×V)),o.map (·.1)=l.map (·.1)->(o.any λa=>decide (a.1=k))=l.any λa=>decide (a.1=k):=by
  intro o;induction o with
  | nil=>intro l e;cases l with
   | nil=>rfl
   | cons _ _=>simp at e
  | cons p o b=>intro l e;cases l with
   | nil=>simp at e
   | cons q l =>
    simp only[aY,hV] at e;rw[fQ,fQ,b l e.2,e.1]
 have n:∀ (o:Aa (κ×D)) (l:Aa (κ×V)),o.map (·.1)=l.map (·.1)->Reps K A H (o.map (·.2)) (l.map (·.2)) ->
   (o.map λa=>if a.1=k then (a.1,d) else a).map (·.1)=(l.map λa=>if a.1=k then (a.1,v) else a).map (·.1) /\
   Reps K A H ((o.map λa=>if a.1=k then (a.1,d) else a).map (·.2)) ((l.map λa=>if a.1=k then (a.1,v) else a).map (·.2)):=by
  intro o;induction o with
  | nil=>intro l e r;cases l with
   | nil=>exact⟨rfl,.nil⟩
   | cons _ _=>simp at e
  | cons p o b=>intro l e r;cases l with
   | nil=>simp at e
   | cons q l =>
    simp only[aY,hV] at e;cases r with
    | cons g r =>
     obtain⟨c,f⟩:=b l e.2 r;obtain⟨i,s⟩:=p;obtain⟨j,v0⟩:=q;obtain⟨rfl,t⟩:=e;by_cases z:i=k
     .simp only[aY,z,eU];exact⟨by rw[c],.cons h f⟩
     .simp only[aY,z,eS];exact⟨by rw[c],.cons g f⟩
 unfold qZ pS;rw[m o l e];by_cases z:(l.any λa=>decide (a.1=k))=true
 .rw[bE z,bE z];exact n o l e r
 .rw[bG z,bG z];simp only[aO,aY,kS];exact⟨by rw[e],r.append (.cons h .nil)⟩
end
section
variable {X:Cx}{K:kY}
def Ly (K:kY):R2:=λx y H Q=>∃ a b c,x = .ref a/\y = .ref b/\mA K H a []/\mA K H b c/\Q (.ref b) H
theorem EO:mC X (binaryOp .Add) (Ly X.K):=by
 intro w s Z H x y v u Q I N O h;obtain⟨a,b,Y,rfl,rfl,B,D,q⟩:=h;cases N;cases O;obtain⟨E,M,G,_⟩:=I.tuple B;obtain⟨t,W,L,_⟩:=I.tuple D;cases M;obtain⟨⟨R,A,V,P⟩,m,k,n,hd⟩:=id G;obtain⟨⟨S,f,z,i⟩,e,c,F,d⟩:=id L;simp only at k hd c d;subst k hd c d;exact concat_meets ⟨_,m,rfl⟩ ⟨_,e,rfl⟩ noFill_tuple_add seq_tuple_add jG iZ (iS _ _)
  (tuple_addW0 a b _ _ n F A f P i (by simp)) ⟨m,e,⟨.ref b,H,I,rfl,q⟩⟩
def Ng (K:kY):R2:=λx y H Q=>(rQ λi j=>.int (i+j)) x y H Q\/(∃ i j,x = .str i/\y = .str j/\i.length+j.length<=sizeLine/\Q (.str (i++j)) H)\/Rn x y H Q\/Pp K x y H Q\/Ly K x y H Q
theorem mO:mC X (binaryOp .Add) (Ng X.K):=vE.or (uY.or (Aw.or (EF.or EO)))
theorem xP (h:n<=100000):n<=sizeLine:=bV h (by decide)
def Tv:O2
 | .int i,.int j,a=>a (.v (.int (i+j)))
 | .str i,.str j,a=>i.length+j.length<=100000/\a (.v (.str (i++j)))
 | .l b,.l c,a=>b.length+c.length<=100000/\a (.o (.l (b++c)))
 | .t b,.t c,a=>b.length+c.length<=100000/\a (.v (.t (b++c)))
 | _,_,_=>False
theorem mL:oZ K (Ng K) Tv:=by
 intro B L H d e x y A Q hd n s c k;cases d<;>first | exact False.elim c | skip<;>cases e<;>first | exact False.elim c | skip
 .cases n;cases s;exact .inl ⟨_,_,rfl,rfl,k _ _ H c (hd.pushF (.int _))⟩
 .cases n;cases s;exact .inr (.inl ⟨_,_,rfl,rfl,xP c.1,k _ _ H c.2 (hd.pushF (.str _))⟩)
 .obtain⟨a,m,rfl,t,f⟩:=n.tup_inv;obtain⟨b,i,rfl,u,h⟩:=s.tup_inv;have v:m.length+i.length<=100000:=by rw[<- f.length,<- h.length];exact c.1
  by_cases z:m=[]
  .subst z;have:=f.nil_iff.mp rfl;subst this;exact .inr (.inr (.inr (.inr ⟨a,b,i,rfl,rfl,mA.of t,mA.of u,k _ _ H c.2 (hd.pushF s)⟩)))
  .refine .inr (.inr (.inr (.inl ⟨a,b,m,i,rfl,rfl,mA.of t,mA.of u,z,xP v,λq=>?_,λ_ p w=>k _ _ _ c.2 (hd.tupF w (f.append h))⟩)));subst q;have:=h.nil_iff.mp rfl;subst this;exact k _ _ H c.2 (by rw[fJ];exact hd.pushF n)
 .obtain⟨a,m,rfl,t,f⟩:=n.lst_inv;obtain⟨b,i,rfl,u,h⟩:=s.lst_inv;have v:m.length+i.length<=100000:=by rw[<- f.length,<- h.length];exact c.1
  exact .inr (.inr (.inl ⟨a,b,m,i,rfl,rfl,t,u,xP v,λp w=>k _ _ _ c.2 (hd.lstF w (f.append h))⟩))
def fI (C:Int->Int->Prop) (g:Int->Int->D):O2
 | .int i,.int j,a=>C i j/\a (.v (g i j))
 | _,_,_=>False
theorem Sm (p:∀ i j,C i j->l i j) (r:∀ A H i j,Rep K A H (g i j) (o i j)):oZ K (rI l o) (fI C g):=by
 intro B L H d e x y f Q hd b c a k;cases d<;>first | exact False.elim a | skip<;>cases e<;>first | exact False.elim a | skip
 cases b;cases c;exact⟨_,_,rfl,rfl,p _ _ a.1,k _ _ H a.2 (hd.pushF (r _ _ _ _))⟩
def Ai (g:Int->Int->D):O2
 | .int i,.int j,a=>a (.v (g i j))
 | _,_,_=>False
theorem Dv (o:∀ A H i j,Rep K A H (g i j) (l i j)):oZ K (rQ l) (Ai g):=by
 intro B L H d e x y f Q hd b c a k;cases d<;>first | exact False.elim a | skip<;>cases e<;>first | exact False.elim a | skip
 cases b;cases c;exact⟨_,_,rfl,rfl,k _ _ H a (hd.pushF (o _ _ _ _))⟩
abbrev CK:O2:=Ai λi j=>.int (i-j)
theorem vB:oZ K (rQ λi j=>.int (i-j)) CK:=Dv λ_ _ _ _=>.int _
def Ox:R2:=λx y H Q=>(rI Bv λi j=>.int (i*j)) x y H Q\/Kw x y H Q
theorem wC:mC X (binaryOp .Mult) Ox:=vF.or Z4
def Tn:O2
 | .int i,.int j,a=>((-(2 ^ 64)<i/\i<2 ^ 64)\/(-(2 ^ 64)<j/\j<2 ^ 64))/\a (.v (.int (i*j)))
 | .l b,.int k,a=>0<=k/\k<=1000/\b.length<=100/\a (.o (.l (List.replicate k.toNat b).flatten))
 | _,_,_=>False
theorem Mw (r:Reps K A H g j):∀ k:Nat,Reps K A H (List.replicate k g).flatten (List.replicate k j).flatten
 | 0=>.nil
 | k+1=>by rw[cB,cB,fH,fH];exact r.append (Mw r k)
theorem wG:oZ K Ox Tn:=by
 intro B L H d e x y w Q hd h i b k;cases d<;>first | exact False.elim b | skip<;>cases e<;>first | exact False.elim b | skip
 .cases h;cases i;exact .inl ⟨_,_,rfl,rfl,b.1,k _ _ H b.2 (hd.pushF (.int _))⟩
 .cases i
  rename_i n
  obtain⟨a,m,rfl,q,f⟩:=h.lst_inv;obtain⟨u,v,s,b⟩:=b;have c:m.length<=100:=by rw[<- f.length];exact s
  refine .inr ⟨a,n,m,rfl,rfl,q,by omega,by omega,bV (iG c (show n.toNat<=1000 by omega)) (by decide),λp t=>?_⟩;exact k _ _ _ b (hd.lstF t (Mw f _))
theorem Yi {j:Int}(g:0<j) (h:j<2 ^ 64):j.natAbs.log2<9000:=by
 have:j.natAbs<2 ^ 64:=by omega
 exact aW ((Nat.log2_lt (by omega)).mpr this) (by decide)
theorem CO:mC X (binaryOp .FloorDiv) (rI (λ_ j=>0<j/\j<2 ^ 64) λi j=>.int (i/j)):=Eu λi j _ _ _ _ _ a q=>by
 refine floordiv_int (by omega) ?_ (.inl (PyProof.noPylong_of_log2 (Yi a.1 a.2)));rw[Int.fdiv_eq_ediv_of_nonneg _ (by omega)];exact q
abbrev Uu:O2:=fI (λ_ j=>0<j) λi j=>.int (i%j)
theorem F5:oZ K (rI (λ_ j=>0<j) λi j=>.int (i%j)) Uu:=Sm (λ_ _ h=>h) λ_ _ _ _=>.int _
abbrev AO:O2:=Ai λi j=>.b (decide (i<j))
theorem Iq:oZ K (rQ λi j=>.b (decide (i<j))) AO:=Dv λ_ _ _ _=>.b _
abbrev Vz:O2:=Ai λi j=>.b (decide (i<=j))
theorem FN:oZ K (rQ λi j=>.b (decide (i<=j))) Vz:=Dv λ_ _ _ _=>.b _
abbrev V8:O2:=Ai λi j=>.b (decide (j<i))
theorem Ds:oZ K (rQ λi j=>.b (decide (j<i))) V8:=Dv λ_ _ _ _=>.b _
end
noncomputable def qU:D->Ab hI
 | .int i=>some (.inl i)
 | .str x=>some (.inr x)
 | _=>none
def xC:Aa D->Ab (Aa hI)
 | []=>some []
 | d::a=>match qU d,xC a with
  | some k,some b=>some (k::b)
  | _,_=>none
noncomputable def nb (neg b:Bool):Bool:=if neg then !b else b
section
variable {X:Cx}{K:kY}
theorem Bd (h:qU d=some k) (r:mG K A H d v):v=kV k:=by
 cases d<;>cases h
 .exact r.int_inv
 .exact r.str_inv
theorem Mt (h:xC g=some j) (l:Reps K A H g o):o=j.map kV:=by
 induction g generalizing j o with
 | nil=>cases l;cases h;rfl
 | cons d g c =>
  cases l with
  | cons r l =>
  have h:=(show (match qU d,xC g with | some k,some j=>some (k::j) | _,_=>none)=some j from h);cases a:qU d with
  | none=>rw[a] at h;cases h
  | some k =>
   cases b:xC g with
   | none=>rw[a,b] at h;cases h
   | some e =>
    rw[a,b] at h;cases h;rw[Bd a r.peek,c b l];rfl
def yB:D->D->Ab (Ab D)
 | .k a,d=>(qU d).map (pZ a)
 | .T a,.t b=>(xC b).map (pZ a)
 | _,_=>none
theorem Mr (h:yB d e=some o) (g:mG K A H d x) (j:mG K A H e y):∃ a w,x = .ref a/\uR H a y w/\(∀ c,o=some c->∃ v,w=some v/\Rep K A H c v)/\(o=none->w=none):=by
 cases d with
 | k q =>
  obtain⟨a,D,rfl,i,f,z⟩:=g.dK_inv;obtain⟨k,n,rfl⟩:=cC.mp h;rw[Bd n j];obtain⟨s,u⟩:=B9 f z k;exact⟨a,_,rfl,uR.k i,λc m=>s c m,u⟩
 | T q =>
  obtain⟨a,D,rfl,i,f,z⟩:=g.dT_inv;cases e with
  | t G =>
   obtain⟨b,F,rfl,B,E⟩:=j.tup_inv;obtain⟨k,n,rfl⟩:=cC.mp h;rw[Mt n E] at B;obtain⟨s,u⟩:=B9 f z k;exact⟨a,_,rfl,.inr ⟨D,k,b,i,rfl,B,rfl⟩,λc m=>s c m,u⟩
  | _=>cases h
 | _=>cases h
def Kg:R2:=λx y H Q=>∃ a v,x = .ref a/\uR H a y (some v)/\Q v H
theorem X2 (j:X.A.units+1<cLine):tP X Kg:=by
 intro value slice b s m H x y v u Q I i k h f;obtain⟨a,w,rfl,g,q⟩:=h;cases i;unfold subscriptTail;refine aA ?_;rw[getitemInPython_of_ne (Kc I g).not_modules];refine aA (wpAny_specialOf (Kc I g) PySem.F.slot_dict_getitem.lookup ?_);have fin:wpAny (model X.prog X.w) X.A (subscripted slice false (.ref a) u) (λr c=>wpAny (model X.prog X.w) X.A (letTemporaryGo value (.ref a) r >>= λ_=>pure r) (EP X b m Q) X.xe c) X.xe s:=by
  rw[f];exact wpAny_operating (EZ j I g k λt n e d=>aA (wpAny_letTemporaryGo (aH ⟨w,H,e,d,q⟩)))
 first
  | exact aH (aA fin)
  | exact aA (aH (aA fin))
  | exact aA fin
def Jp (K:kY):R2:=λx y H Q=>Kr K x y H Q\/Kg x y H Q
theorem Nf (g:X.A.units+1<cLine):tP X (Jp X.K):=X6.or (X2 g)
def J1:O2:=λd e b=>match d,e with
 | .l a,.int i=>∃ c,mF a i=some c/\b (.v c)
 | .t a,.int i=>∃ c,mF a i=some c/\b (.v c)
 | .con a,.int i=>∃ c,mF a i=some c/\b (.v c)
 | .c a,.int i=>∃ c,mF a i=some c/\b (.v c)
 | .str z,.int i=>z.length<=100000/\∃ c,mF z.cps.toList i=some c/\b (.v (.str ⟨#[c]⟩))
 | d,e=>∃ c,yB d e=some (some c)/\b (.v c)
theorem Cz (r:Reps K A H g l) (h:mF g i=some c):∃ v,mF l i=some v/\Rep K A H c v:=by
 unfold mF at h |-;rw[<- r.length];cases e:sB g.length i with
 | none=>rw[e] at h;cases h
 | some j =>
  rw[e] at h;obtain⟨v,a,b⟩:=r.get (i:=j) h;exact⟨v,a,b⟩
theorem K6:oZ K (Jp K) J1:=by
 intro B L H d e x y D Q hd t u b k;have f:(∃ c,yB d e=some (some c)/\D (.v c))->Jp K x y H Q:=λz=>by
  obtain⟨c,h,b⟩:=z;obtain⟨a,w,rfl,g,i,_⟩:=Mr h t u;obtain⟨v,rfl,m⟩:=i c rfl;exact .inr ⟨a,v,rfl,g,k _ _ H b (hd.pushF m)⟩
 cases d<;>first | exact f b | skip
 .cases e<;>first | exact f b | skip
  cases u;cases t;obtain⟨A,c,h,b⟩:=b;exact .inl (.inr (.inr ⟨_,_,c,rfl,rfl,xP A,h,k _ _ H b (hd.pushF (.str _))⟩))
 .obtain⟨a,s,rfl,i,q⟩:=t.tup_inv;cases e<;>first | exact f b | skip
  cases u;obtain⟨c,h,b⟩:=b;obtain⟨v,n,m⟩:=Cz q h;exact .inl (.inr (.inl ⟨a,s,_,v,rfl,rfl,mA.of i,n,k _ _ H b (hd.pushF m)⟩))
 .obtain⟨a,s,rfl,i,q⟩:=t.lst_inv;cases e<;>first | exact f b | skip
  cases u;obtain⟨c,h,b⟩:=b;obtain⟨v,n,m⟩:=Cz q h;exact .inl (.inl ⟨a,s,_,v,rfl,rfl,eT.of i,n,k _ _ H b (hd.pushF m)⟩)
 .obtain⟨a,s,rfl,i,q⟩:=t.scr_inv;cases e<;>first | exact f b | skip
  cases u;obtain⟨c,h,b⟩:=b;obtain⟨v,n,m⟩:=Cz q h;exact .inl (.inl ⟨a,s,_,v,rfl,rfl,i.sqL,n,k _ _ H b (hd.pushF m)⟩)
 .obtain⟨a,s,rfl,i,q⟩:=t.con_inv;cases e<;>first | exact f b | skip
  cases u;obtain⟨c,h,b⟩:=b;obtain⟨v,n,m⟩:=Cz q h;exact .inl (.inr (.inl ⟨a,s,_,v,rfl,rfl,i.sqT,n,k _ _ H b (hd.pushF m)⟩))
theorem vD (o:X.A.units+1<cLine) (g:PD X a p) (j:PD X b r) (l:Hw b:=by exact λ_ _=>rfl):PD X (.Subscript a b pos) (d2 J1 p r) :=
 (oK (Nf o) g j l).mono λ_ _ _ h=>Ff K6 h
noncomputable def Hi:D->Ab V
 | .e=>some .e
 | .b b=>some (.b b)
 | .int i=>some (.int i)
 | .str x=>some (.str x)
 | _=>none
theorem Lp (h:Hi d=some u) (r:mG K A H d v):v=u/\pU u=true:=by
 cases d<;>cases h<;>cases r<;>exact⟨rfl,rfl⟩
end
mutual
def py:D->PyData
 | .e=>.none
 | .b b=>.bool b
 | .int i=>.int i
 | .str x=>.str x
 | .t a=>.tuple (pX a)
 | .l a=>.list (pX a)
 | .con a=>.tuple (pX a)
 | .c a=>.list (pX a)
 | _=>.none
def pX:Aa D->Aa PyData
 | []=>[]
 | d::a=>py d::pX a
end
mutual
def mJ:D->Bool
 | .e=>true
 | .b _=>true
 | .int _=>true
 | .str x=>PyData.strOk x
 | .t a=>qJ a
 | .l a=>qJ a
 | .con a=>qJ a
 | .c a=>qJ a
 | _=>false
def qJ:Aa D->Bool
 | []=>true
 | d::a=>mJ d&&qJ a
end
section
variable {X:Cx}{K:kY}
mutual
theorem Rl:∀ {d:D}{v:V},Rep K A H d v->mJ d=true->DatV K H v (py d)
 | _,_,.e,_=>.e
 | _,_,.b b,_=>.b b
 | _,_,.int i,_=>.int i
 | _,_,.str x,_=>.str x
 | _,_,.r v,e=>by simp[mJ] at e
 | _,_,.t h r,e=>.t (mA.of h) (yG r (by simpa [mJ] using e))
 | _,_,.con h r,e=>.t h.sqT (yG r (by simpa [mJ] using e))
 | _,_,.l _ h r,e=>.l (eT.of h) (yG r (by simpa [mJ] using e))
 | _,_,.c h r,e=>.l h.sqL (yG r (by simpa [mJ] using e))
 | _,_,.k _ _ _ _,e=>by simp[mJ] at e
 | _,_,.T _ _ _ _,e=>by simp[mJ] at e
theorem yG:∀ {g:Aa D}{j:Aa V},Reps K A H g j->qJ g=true->DatVs K H j (pX g)
 | _,_,.nil,_=>.nil
 | _,_,.cons h r,e=>by
  rw[qJ,cE] at e;exact .cons (Rl h e.1) (yG r e.2)
end
theorem R4 (h:mG K A H d v) (e:mJ d=true):DatV K H v (py d):=by
 cases d with
 | l _=>obtain⟨a,b,rfl,h,r⟩:=h.lst_inv;exact .l (eT.of h) (yG r (by simpa [mJ] using e))
 | k _=>simp[mJ] at e
 | T _=>simp[mJ] at e
 | _=>exact Rl h e
mutual
theorem Hg:∀ {d:D},mJ d=true->(py d).canLay0=true
 | .e,_=>rfl
 | .b _,_=>rfl
 | .int _,_=>rfl
 | .str x,e=>by simpa [py,PyData.canLay0,mJ] using e
 | .t a,e=>by simp only[py,PyData.canLay0];exact zI (by simpa [mJ] using e)
 | .con a,e=>by simp only[py,PyData.canLay0];exact zI (by simpa [mJ] using e)
 | .l a,e=>by simp only[py,PyData.canLay0];exact zI (by simpa [mJ] using e)
 | .c a,e=>by simp only[py,PyData.canLay0];exact zI (by simpa [mJ] using e)
 | .r _,e=>by simp[mJ] at e
 | .k _,e=>by simp[mJ] at e
 | .T _,e=>by simp[mJ] at e
theorem zI:∀ {g:Aa D},qJ g=true->PyData.canLayAll0 (pX g)=true
 | [],_=>rfl
 | d::g,e=>by
  rw[qJ,cE] at e;simp only[pX,PyData.canLayAll0,Hg e.1,zI e.2,Bool.and_self]
end
mutual
theorem N5:∀ {d:D},mJ d=true->PyData.eqv (py d) (py d)=true
 | .e,_=>rfl
 | .b b,_=>by simp[py,PyData.eqv]
 | .int i,_=>by simp[py,PyData.eqv]
 | .str x,_=>by simp[py,PyData.eqv]
 | .t a,e=>by simp only[py,PyData.eqv];exact A8 (by simpa [mJ] using e)
 | .con a,e=>by simp only[py,PyData.eqv];exact A8 (by simpa [mJ] using e)
 | .l a,e=>by simp only[py,PyData.eqv];exact A8 (by simpa [mJ] using e)
 | .c a,e=>by simp only[py,PyData.eqv];exact A8 (by simpa [mJ] using e)
 | .r _,e=>by simp[mJ] at e
 | .k _,e=>by simp[mJ] at e
 | .T _,e=>by simp[mJ] at e
theorem A8:∀ {g:Aa D},qJ g=true->PyData.eqvAll (pX g) (pX g)=true
 | [],_=>rfl
 | d::g,e=>by
  rw[qJ,cE] at e;simp only[pX,PyData.eqvAll,N5 e.1,A8 e.2,Bool.and_self]
end
theorem Fn:∀ {g:Aa D},(∀ d∈g,mJ d=true)->qJ g=true
 | [],_=>rfl
 | d::g,h=>by rw[qJ,h d aE,Fn λe a=>h e (aK _ a)];rfl
def Ig (v:Bool):R2:=λx y H Q=>∃ (a b:Ad) (c d:Aa (hI×V)),x = .ref a/\y = .ref b/\H a=some (.k c)/\H b=some (.k d)/\c.length=d.length /\
 (∀ p∈c,∃ w,qN d p.1=some w/\pU p.2=true/\pU w=true/\oO p.2 w=true)/\Q (.b v) H
theorem Rs {A:Around}{s:Ae}{g:Aa (hI×V)}{o:Aa (hI×Ac)}(C:KV g o) (r:Aa (hI×V)) (j:Aa (hI×Ac)) (h:KV r j)
  (l:∀ p∈r,∃ w,qN g p.1=some w/\pU p.2=true/\pU w=true/\oO p.2 w=true):PySem.W.KeqHits A s o j true:=by
 induction h with
 | nil=>exact .nil
 | @cons a b r j m B q =>
  obtain⟨k,v⟩:=a;obtain⟨t,z⟩:=b;obtain⟨e,u⟩:=m;have e:k=t:=e;subst e;obtain⟨w,hw,f1,f2,i⟩:=l (k,v) aE;have d:=C.val k;rw[hw] at d;obtain⟨y,f,x⟩:=d.some_of;have c:SeqAt.EqAt A s z y (oO v w):=Lm u x f1 f2;rw[i] at c;have:=PySem.W.KeqHits.hit f c (q λp n=>l p (aK _ n));rw[Bool.true_and] at this;exact this
theorem Vv (g:X.A.units<cLine):mC X (compareOp .Eq) (Ig true):=by
 intro e s L H x y v u Q I D E h;obtain⟨a,b,d,B,rfl,rfl,t,w,c,z,q⟩:=h;cases D;cases E;obtain⟨G,d1,k,f,m⟩:=zB I.hok t;obtain⟨K,d2,F,i,n⟩:=zB I.hok w;have c:k.length=F.length:=by rw[<- f.length,<- i.length];exact c
 refine PySem.W.keq_eq d1 d2 m n g (λ_=>Rs i d k f z) ⟨.b _,H,I,rfl,?_⟩;rw[c];simpa using q
theorem Yb (g:X.A.units<cLine):mC X (compareOp .NotEq) (Ig false):=by
 intro e s L H x y v u Q I D E h;obtain⟨a,b,d,B,rfl,rfl,t,w,c,z,q⟩:=h;cases D;cases E;obtain⟨G,d1,k,f,m⟩:=zB I.hok t;obtain⟨K,d2,F,i,n⟩:=zB I.hok w;have c:k.length=F.length:=by rw[<- f.length,<- i.length];exact c
 refine PySem.W.keq_ne d1 d2 m n g (λ_=>Rs i d k f z) ⟨.b _,H,I,rfl,?_⟩;rw[c];simpa using q
def Be (neg:Bool):R2:=λx y H Q=>Fj x y=true/\Q (.b (nb neg (decide (x=y)))) H
def Jy (K:kY) (neg:Bool):R2:=λx y H Q=>Be neg x y H Q\/Ep K neg x y H Q\/Ig (!neg) x y H Q\/Jq K neg x y H Q
theorem zR (g:X.A.units+64<cLine):mC X (compareOp .Eq) (Jy X.K false):=(show mC X (compareOp .Eq) (Be false) from C6).or ((G4 g).or ((Vv (by omega)).or (U4 g)))
theorem wZ (g:X.A.units+64<cLine):mC X (compareOp .NotEq) (Jy X.K true):=(show mC X (compareOp .NotEq) (Be true) from Q9).or ((Qz g).or ((Yb (by omega)).or (CH g)))
def Qd (g j:Aa (hI×D)):Prop:=g.length=j.length/\∀ p∈g,∃ e v w,pZ j p.1=some e/\Hi p.2=some v/\Hi e=some w/\oO v w=true
def tT (neg:Bool):O2:=λd e a=>match d,e with
 | .int i,.int j=>a (.v (.b (nb neg (decide (i=j)))))
 | .str i,.str j=>a (.v (.b (nb neg (decide (i=j)))))
 | .b i,.b j=>a (.v (.b (nb neg (decide (i=j)))))
 | .l c,.l []=>a (.v (.b (nb neg c.isEmpty)))
 | .k c,.k f=>Qd c f/\a (.v (.b (!neg)))
 | d,e=>mJ d=true/\mJ e=true/\min (py d).depth (py e).depth<=60/\a (.v (.b (nb neg (PyData.eqv (py d) (py e)))))
theorem BW {l C:Aa (hI×D)}{j o:Aa (hI×V)}(h:Qd l C) (I:l.map (·.1)=j.map (·.1)) (T:Reps K A H (l.map (·.2)) (j.map (·.2))) (J:C.map (·.1)=o.map (·.1)) (U:Reps K A H (C.map (·.2)) (o.map (·.2))) :
  j.length=o.length/\∀ p∈j,∃ w,qN o p.1=some w/\pU p.2=true/\pU w=true/\oO p.2 w=true:=by
 refine⟨by have a:=eA List.length I;have b:=eA List.length J;have c:=h.1;simp only[aB] at a b;omega,λp d=>?_⟩;have:∀ (l:Aa (hI×D)) (j:Aa (hI×V)),l.map (·.1)=j.map (·.1)->Reps K A H (l.map (·.2)) (j.map (·.2))->p∈j->∃ q∈l,q.1=p.1/\Rep K A H q.2 p.2:=by
  intro l;induction l with
  | nil=>intro j e _ d;cases j with
   | nil=>cases d
   | cons _ _=>simp at e
  | cons q l x=>intro j e r d;cases j with
   | nil=>cases d
   | cons k j =>
    simp only[aY,hV] at e;cases r with
    | cons g r =>
     rcases aF.mp d with z | z
     .subst z;exact⟨q,aE,e.1,g⟩
     .obtain⟨y,f,m⟩:=x j e.2 r z;exact⟨y,aK _ f,m⟩
 obtain⟨q,u,i,B⟩:=this l j I T d;obtain⟨e,v,w,f,m,s,t⟩:=h.2 q u;rw[i] at f;obtain⟨E,hw,n⟩:=(B9 J U p.1).1 e f;obtain⟨F,G⟩:=Lp m B.peek;obtain⟨L,M⟩:=Lp s n.peek;subst F L;exact⟨E,hw,G,M,t⟩
theorem sP (neg:Bool):oZ K (Jy K neg) (tT neg):=by
 intro B L H d e x y O Q hd h m c k;unfold tT at c;split at c
 .cases h;cases m
  rename_i i j
  have f:decide (V.int i=V.int j)=decide (i=j):=by simp
  exact .inl ⟨rfl,by rw[f];exact k _ _ H c (hd.pushF (.b _))⟩
 .cases h;cases m
  rename_i i j
  have f:decide (V.str i=V.str j)=decide (i=j):=by simp
  exact .inl ⟨rfl,by rw[f];exact k _ _ H c (hd.pushF (.b _))⟩
 .cases h;cases m
  rename_i i j
  have f:decide (V.b i=V.b j)=decide (i=j):=by simp
  exact .inl ⟨rfl,by rw[f];exact k _ _ H c (hd.pushF (.b _))⟩
 .rename_i M
  obtain⟨a,A,rfl,n,u⟩:=h.lst_inv;obtain⟨b,N,rfl,q,v⟩:=m.lst_inv;cases v;have f:M.isEmpty=A.isEmpty:=by cases u<;>rfl
  refine .inr (.inl ⟨a,b,A,rfl,rfl,eT.of n,eT.of q,?_⟩);rw[<- f];exact k _ _ H c (hd.pushF (.b _))
 .obtain⟨a,s,rfl,n,f,u⟩:=h.dK_inv;obtain⟨b,t,rfl,q,E,v⟩:=m.dK_inv;obtain⟨F,G⟩:=BW c.1 f u E v;exact .inr (.inr (.inl ⟨a,b,s,t,rfl,rfl,n,q,F,G,k _ _ H c.2 (hd.pushF (.b _))⟩))
 .obtain⟨w,z,D,c⟩:=c;exact .inr (.inr (.inr ⟨_,_,R4 h w,R4 m z,Hg w,Hg z,D,k _ _ H c (hd.pushF (.b _))⟩))
end
end L2
namespace L2
open PySem PySem.Spec PyProof.Rows Lw
def nR (g:Aa D) (lo j:Ab Int):Aa D:=(g.drop (HT.sIx g.length 0 lo)).take (HT.sIx g.length g.length j-HT.sIx g.length 0 lo)
def pt (o:Ab mB):Aa Ad->Aa Sl->(Ab Int->Aa Sl->Prop)->Prop:=λc b k=>match o with
 | none=>k none b
 | some t=>t c b λr a=>match r with
  | .v (.int i)=>k (some i) a
  | _=>False
def At (K:kY):Ab mB->TO
 | none=>Pk
 | some t=>Mb (dE K t)
abbrev O3:=D->Ab Int->Ab Int->(Sl->Prop)->Prop
def Uc (f:O3) (i:Nat) (lo g:Ab mB):mB:=λc e h=>(at? e i).isSome=true/\pt lo c e λl b=>pt g c b λu a=>match at? a i with
 | some d=>f d l u λr=>h r a
 | none=>False
abbrev R3:=V->Ab Int->Ab Int->Hp->VK->Prop
def Pm (K:kY) (r:R3) (f:O3):Prop:=∀ (B:Bs) (L:mR) (H:Hp) (d:D) (lo b:Ab Int) (x:V) (c:Sl->Prop) (Q:VK),DS K B L H->mG K (Al B (eN L)) H d x->f d lo b c ->
 (∀ s v a,c s->DS K B ((s,some v)::L) a->Q v a)->r x lo b H Q
section
variable {X:Cx}{K:kY}{lo:Ab Expr}
theorem Lx (I:l.length=p.length) (hd:DS K B (l.zip p++T) H) (h:pt o B.dk l k)
  (C:∀ i g j,g.length=p.length->DS K B (g.zip p++T) j->k i g->Q i j):At K o p H Q:=by
 cases o with
 | none=>exact C none l H I hd h
 | some t =>
  refine⟨B,l,T,_,I,hd,h,λr g v j b d1 a=>?_⟩;cases r with
  | n=>exact a.elim
  | o d=>exact a.elim
  | v d =>
   cases d with
   | int i=>exact⟨i,d1.valAt.int_inv,C (some i) g j b d1.drop a⟩
   | _=>exact a.elim
theorem uC:PO X none (At X.K none):=Bi
theorem sF (h:PD X e t):PO X (some e) (At X.K (some t)):=zU h
theorem tH (I:uB X r) (p:Pm X.K r f) (o:PE X a (pR i)) (g:PO X lo (At X.K ol)) (j:PO X C (At X.K J)):PD X (.Subscript a (.Slice lo C none U) pos) (Uc f i ol J) :=
 (zD I o g j).mono λY H Q q=>q.elim λB W T V w hd ⟨n,G⟩ k=>by
  obtain⟨R,E⟩:=dF.mp n;obtain⟨x,y,_⟩:=hd.peek w E;refine⟨x,y,Lx w hd G λl O P L d2 N=>Lx L d2 N λu c D z t e=>?_⟩;cases h:at? c i with
  | none=>rw[h] at e;exact e.elim
  | some d =>
   rw[h] at e;obtain⟨S,b,M⟩:=t.peek z h;rw[y] at b;cases b;exact p B _ D d l u x _ Q t M e λs v A F m=>k s c v A z m.mid F
def Km (K:kY):R3:=λx lo a H Q=>O9 K x lo a H Q\/Kq K x lo a H Q\/P0 x lo a H Q
theorem sZ:uB X (Km X.K):=Fk.or (Wx.or Jk)
def BM:O3
 | .l a,lo,b,d=>d (.o (.l (nR a lo b)))
 | .c a,lo,b,d=>d (.o (.l (nR a lo b)))
 | .t a,lo,b,d=>¬ (HT.sIx a.length 0 lo=0/\HT.sIx a.length a.length b=a.length)/\d (.v (.t (nR a lo b)))
 | .str z,lo,b,d=>z.length<=100000/\d (.v (.str (rS z lo b)))
 | _,_,_,_=>False
theorem Jw (r:Reps K A H j l) (lo g:Ab Int):Reps K A H (nR j lo g) (tM l lo g):=by
 unfold nR tM;rw[r.length];exact (r.drop _).take _
theorem tQ:Pm K (Km K) BM:=by
 intro B L H d lo m x n Q hd i b k;cases d<;>first | exact False.elim b | skip
 .cases i;exact .inr (.inr ⟨_,rfl,xP b.1,k _ _ _ b.2 (hd.pushF (.str _))⟩)
 .obtain⟨a,h,rfl,e,c⟩:=i.tup_inv;exact .inr (.inl ⟨a,h,rfl,mA.of e,by rw[<- c.length];exact b.1,λp f=>k _ _ _ b.2 (hd.tupF f (Jw c lo m))⟩)
 .obtain⟨a,h,rfl,e,c⟩:=i.lst_inv;exact .inl ⟨a,h,rfl,eT.of e,λp f=>k _ _ _ b (hd.lstF f (Jw c lo m))⟩
 .obtain⟨a,h,rfl,e,c⟩:=i.scr_inv;exact .inl ⟨a,h,rfl,e.sqL,λp f=>k _ _ _ b (hd.lstF f (Jw c lo m))⟩
abbrev O1:=D->(Sl->Prop)->Prop
abbrev R1:=V->Hp->VK->Prop
def Uz (K:kY) (r:R1) (f:O1):Prop:=∀ (B:Bs) (L:mR) (H:Hp) (d:D) (x:V) (b:Sl->Prop) (Q:VK),DS K B L H->mG K (Al B (eN L)) H d x->f d b->(∀ s v a,b s->DS K B ((s,some v)::L) a->Q v a)->r x H Q
def d1 (f:O1) (g:mB):mB:=λb h e=>g b h λc a=>match sd c with
 | some d=>f d λr=>e r a
 | none=>False
theorem EB (j:Uz X.K r f) (h:dE X.K (d1 f l) o H Q):dE X.K l o H λx g=>r x g Q:=by
 obtain⟨B,z,T,A,m,hd,q,k⟩:=h;refine⟨B,z,T,_,m,hd,q,λy e x g t d1 a=>?_⟩;cases b:sd y with
 | none=>rw[b] at a;exact a.elim
 | some d =>
  rw[b] at a;obtain⟨u,w⟩:=d1.one b;exact j B _ g d x _ Q u w.peek a λs v i n c=>k s e v i t c.mid n
def Kz:O1
 | .int i,a=>a (.v (.int (-i)))
 | _,_=>False
theorem vH (g:PD X a j):PD X (.UnaryOp .USub a pos) (d1 Kz j):=(Yd BI g).mono λ_ _ _ h=>EB (f:=Kz) (λB L H d x e Q hd c b k=>by
 cases d<;>first | exact False.elim b | skip
 cases c;exact⟨_,rfl,k _ _ H b (hd.pushF (.int _))⟩) h
noncomputable def Dx:D->Ab Bool
 | .e=>some false
 | .b b=>some b
 | .int i=>some (i != 0)
 | .str x=>some ((x.length:Int) != 0)
 | .l a=>some (!a.isEmpty)
 | .t a=>some (!a.isEmpty)
 | .k a=>some (!a.isEmpty)
 | _=>none
noncomputable def E9:D->Bool
 | .str x=>decide (x.length<=100000)
 | _=>true
theorem P7 (h:mG K A H d x) (e:Dx d=some k) (g:E9 d=true):G3 K x H k:=by
 cases d<;>simp only[Dx,reduceCtorEq,kO] at e<;>subst e
 .have:=h.non_inv;subst this;rfl
 .have:=h.bl_inv;subst this;rfl
 .have:=h.int_inv;subst this;rfl
 .have:=h.str_inv;subst this;exact⟨xP (eI g),rfl⟩
 .obtain⟨a,b,rfl,h,r⟩:=h.tup_inv;exact .inr (.inl ⟨b,mA.of h,by cases r<;>rfl⟩)
 .obtain⟨a,b,rfl,h,r⟩:=h.lst_inv;exact .inl ⟨b,eT.of h,by cases r<;>rfl⟩
 .rename_i c
  obtain⟨a,b,rfl,h,e,r⟩:=h.dK_inv;refine .inr (.inr ⟨b,h,?_⟩);cases c<;>cases b<;>simp at e |-
def Pl (t:mB):pP:=λc f e=>t c f λr a=>match sd r with
 | some d=>E9 d=true/\∃ b,Dx d=some b/\e b a
 | none=>False
def Q2 (i:Nat):pP:=λe a c=>match at? a i with
 | some d=>E9 d=true/\∃ b,Dx d=some b/\c b a
 | none=>False
theorem Rw (g:PD X a l) (j:∀ whole,isTrue a X.env whole=(do let v <- whole;standAt a.pos;holding [v] (truthy v)):=by intro _;rfl):qV X a (Pl l) :=
 (Lk g j).mono λz H Q f=>f.elim λB x T y n hd s k=>⟨B,x,T,_,n,hd,s,λr h v i t d1 c=>by
  cases e:sd r with
  | none=>rw[e] at c;exact c.elim
  | some d =>
   rw[e] at c;obtain⟨q,b,m,c⟩:=c;obtain⟨u,w⟩:=d1.one e;exact⟨b,P7 w.peek m q,k b h i t u c⟩⟩
theorem Tw (g:PE X a (pR i)) (j:∀ whole,isTrue a X.env whole=(do let v <- whole;standAt a.pos;holding [v] (truthy v)):=by intro _;rfl):qV X a (Q2 i) :=
 (Lk g j).mono λw H Q f=>f.elim λB m T u h hd c k=>by
  unfold Q2 at c;cases e:at? m i with
  | none=>rw[e] at c;exact c.elim
  | some d =>
   rw[e] at c;obtain⟨q,b,n,c⟩:=c;obtain⟨x,s,t⟩:=hd.peek h e;exact⟨x,s,b,P7 t n q,k b m H h hd c⟩
def Tj (t u:pP):pP:=λb e d=>t b e λc a=>if c=true then u b a d else d false a
def DV (t u:pP):pP:=λb e d=>t b e λc a=>if c=true then d true a else u b a d
def BG (t:pP):pP:=λb e d=>t b e λc a=>d (!c) a
variable {rest:Aa Expr}
theorem Rq (h:qV X a g):xO X (.BoolOp .And [a] pos) g:=Mu h
theorem DX (h:qV X a g):xO X (.BoolOp .Or [a] pos) g:=Xk h
theorem Rm (j:qV X a o) (l:xO X (.BoolOp .And (b::rest) pos) g):xO X (.BoolOp .And (a::b::rest) pos) (Tj o g) :=
 (Lb j l).mono λt H Q e=>e.elim λB s T q m hd n k=>⟨B,s,T,_,m,hd,n,λc d i h d1 f=>by
  cases c with
  | true=>exact (bE rfl).mpr ⟨B,d,T,q,h,d1,(bE rfl).mp f,k⟩
  | false=>exact wD (k false d i h d1 ((bG (by decide)).mp f))⟩
theorem DY (j:qV X a o) (l:xO X (.BoolOp .Or (b::rest) pos) g):xO X (.BoolOp .Or (a::b::rest) pos) (DV o g) :=
 (Xr j l).mono λt H Q e=>e.elim λB s T q m hd n k=>⟨B,s,T,_,m,hd,n,λc d i h d1 f=>by
  cases c with
  | true=>exact (bE rfl).mpr (k true d i h d1 ((bE rfl).mp f))
  | false=>exact wD ⟨B,d,T,q,h,d1,(bG (by decide)).mp f,k⟩⟩
theorem G7 (h:xO X a g):qV X a g:=PW.pt h
theorem Um (h:qV X a g):qV X (.UnaryOp .Not a pos) (BG g):=(T6 h).mono λt H Q b=>b.elim λB q T s i hd m k=>⟨B,q,T,_,i,hd,m,λc d e n d1 f=>k _ d e n d1 f⟩
def W5 (t u:mB):mB:=λc e d=>t c e λr a=>match r with
 | .v (.b true)=>u c a d
 | .v (.b false)=>d (.v (.b false)) a
 | _=>False
theorem Y3 (h:PD X a g):PD X (.BoolOp op [a] pos) g:=FE h
theorem U2 (g:PD X a l) (j:PD X (.BoolOp .And (b::rest) pos) p):PD X (.BoolOp .And (a::b::rest) pos) (W5 l p) :=
 (GP g j).mono λw H Q h=>h.elim λB u T t q hd s k=>⟨B,u,T,_,q,hd,s,λr f v m i d1 e=>by
  cases r with
  | n=>exact e.elim
  | o d=>exact e.elim
  | v d =>
   cases d with
   | b c =>
    have:=d1.valAt.bl_inv;subst this;refine⟨c,rfl,?_⟩;cases c with
    | true=>exact (bE rfl).mpr ⟨B,f,T,t,i,d1.drop,e,k⟩
    | false=>exact wD (k _ f _ m i (d1.drop.push (.b _)) e)
   | _=>exact e.elim⟩
def R7 (t:pP) (u w:mB):mB:=λb e d=>t b e λc a=>if c=true then u b a d else w b a d
theorem Se (l:qV X c o) (g:PD X a p) (j:PD X b r):PD X (.IfExp c a b pos) (R7 o p r) :=
 (AS l g j).mono λt H Q e=>e.elim λB q T i m hd n k=>⟨B,q,T,_,m,hd,n,λc d s h d1 f=>by
  cases c with
  | true=>exact (bE rfl).mpr ⟨B,d,T,i,h,d1,(bE rfl).mp f,k⟩
  | false=>exact wD ⟨B,d,T,i,h,d1,(bG (by decide)).mp f,k⟩⟩
end
inductive Ar where
 | t (d:D) | al (i:Nat)
abbrev rB:=Aa Ad->Aa Sl->(Aa Ar->Aa Sl->Prop)->Prop
def rP:Aa Ar->Aa V->mR
 | .t d::as,v::a=>(.v d,some v)::rP as a
 | .al _::as,_::a=>rP as a
 | _,_=>[]
inductive ArOk (σ:St):List Ar->List V->Prop where
 | nil:ArOk σ [] []
 | t {d:D} {v:V} {as:List Ar} {vs:List V}:ArOk σ as vs->ArOk σ (.t d::as) (v::vs)
 | al {i:Nat} {v:V} {as:List Ar} {vs:List V}:σ[i]?=some (some v)->ArOk σ as vs->ArOk σ (.al i::as) (v::vs)
noncomputable def uJ (g:Aa Sl):Aa Ar->Ab (Aa D)
 | []=>some []
 | .t d::as=>(uJ g as).map (d::·)
 | .al i::as=>match at? g i,uJ g as with
  | some d,some a=>some (d::a)
  | _,_=>none
noncomputable def vY:Aa Ar->Ab (Aa D)
 | []=>some []
 | .t d::as=>(vY as).map (d::·)
 | .al _::_=>none
def zK:Aa Ar->Bool
 | []=>true
 | .t _::as=>zK as
 | .al _::_=>false
def dA (K:kY) (g:rB):TA:=λb H Q=>∃ (B:Bs) (d:Aa Sl) (T:mR) (f:Aa Ar->Aa Sl->Prop),d.length=b.length/\DS K B (d.zip b++T) H/\g B.dk d f /\
 ∀ as a c e,a.length=b.length->ArOk b as c->DS K B (a.zip b++(rP as c++T)) e->f as a->Q c e
theorem dA.elim {K:kY}{P:Prop}(h:dA K C l H Q) (f:∀ (B:Bs) (j:Aa Sl) (T:mR) (o:Aa Ar->Aa Sl->Prop),j.length=l.length->DS K B (j.zip l++T) H->C B.dk j o ->(∀ as g p r,g.length=l.length->ArOk l as p->DS K B (g.zip l++(rP as p++T)) r->o as g->Q p r)->P):P:=by
 obtain⟨B,j,T,o,a,hd,b,k⟩:=h;exact f B j T o a hd b k
abbrev qM (X:Cx) (g:Aa Expr) (j:rB):Prop:=PA X g (dA X.K j)
def Fg:rB:=λ_ b a=>a [] b
def aC (g:mB) (j:rB):rB:=λc f e=>g c f λr a=>j c a λas b=>match sd r with
 | some d=>e (.t d::as) b
 | none=>False
def aS (i:Nat) (g:rB):rB:=λc b d=>(at? b i).isSome=true/\g c b λas a=>d (.al i::as) a
theorem PA.mono {X:Cx}(h:PA X j t) (k:∀ g H Q,l g H Q->t g H Q):PA X j l:=λp a s g H Q I q=>h p a s g H Q I (k g H Q q)
def Am (B:Bs) (a:Ad):Prop:=a∉B.dk/\(B.A0 a\/B.H0 a=none)
inductive Peeks (K:kY) (A:Addr->Prop) (H:Hp):List D->List V->Prop where
 | nil:Peeks K A H [] []
 | cons {d:D} {v:V} {ds:List D} {vs:List V}:mG K A H d v->Peeks K A H ds vs->Peeks K A H (d::ds) (v::vs)
section
variable {X:Cx}{K:kY}
theorem dT:qM X [] Fg:=lI.mono λf H Q a=>a.elim λB d T e b hd c k=>k [] d [] H b .nil hd c
theorem dK (j:PD X e p) (l:qM X g o) (h:vP e=true:=by rfl):qM X (e::g) (aC p o):=(lB j l h).mono λD H Q f=>f.elim λB A T F v hd w k =>
 ⟨B,A,T,_,v,hd,w,λr i x E y d1 u=>⟨B,i,(r,some x)::T,_,y,d1,u,λas a n m z ok d2 b=>by
  cases c:sd r with
  | none=>rw[c] at b;exact b.elim
  | some d =>
   rw[c] at b;refine k (.t d::as) a (x::n) m z (.t ok) ?_ b;have q:DS X.K B ((a.zip D++rP as n)++(r,some x)::T) m:=by simpa using d2
   have s:=(q.thaw c).front;exact DS.mid (by simpa using s)⟩⟩
theorem nW (j:PE X e (pR i)) (l:qM X g o) (h:vP e=true:=by rfl):qM X (e::g) (aS i o):=(lB j l h).mono λz H Q a=>a.elim λB v T y c hd ⟨q,s⟩ k=>by
 obtain⟨w,m⟩:=dF.mp q;obtain⟨x,d,_⟩:=hd.peek c m;exact⟨x,d,B,v,T,_,c,hd,s,λas b u f t ok d2 n=>k (.al i::as) b (x::u) f t (.al d ok) d2 n⟩
theorem DS.rmArgs:∀ {as:Aa Ar}{vs:Aa V},DS K B (L++(rP as vs++T)) H->DS K B (L++T) H
 | [],_,h=>h
 | .t d::as,[],h=>h
 | .al _::as,[],h=>h
 | .t d::as,v::vs,h=>DS.rmArgs (as:=as) (vs:=vs) (DS.drop (L1:=L) (L2:=rP as vs++T) h)
 | .al _::as,v::vs,h=>DS.rmArgs (as:=as) (vs:=vs) h
theorem Dw:∀ {as:Aa Ar}{vs:Aa V},eN (L++(rP as vs++T))=eN (L++T)
 | [],_=>rfl
 | .t d::as,[]=>rfl
 | .al _::as,[]=>rfl
 | .t d::as,v::vs=>(show eN (L++(Sl.v d,some v)::(rP as vs++T))=_ from Gb).trans (Dw (as:=as) (vs:=vs))
 | .al _::as,v::vs=>Dw (as:=as) (vs:=vs)
theorem DS.temps (h:DS K B (L++(rP as j++T)) H) (ok:ArOk σ as j):∀ g,vY as=some g->Reps K (Al B (eN (L++T))) H g j:=by
 have key:∀ p∈rP as j,rX K (Al B (eN (L++T))) H p.1 p.2:=λp b=>by
  have:=h.ok p (by simp[b]);rw[Dw] at this;exact this
 clear h;induction ok with
 | nil=>intro g e;cases e;exact .nil
 | @t d v as j ok i =>
  intro g e;obtain⟨a,c,rfl⟩:=cC.mp e;obtain⟨u,f,r⟩:=key (.v d,some v) aE;cases f;exact .cons r (i (λp b=>key p (aK _ b)) a c)
 | al _ _ _=>intro g e;cases e
theorem DS.argsP (I:g.length=C.length) (h:DS K B (g.zip C++(rP as l++T)) H) (ok:ArOk C as l):∀ j,uJ g as=some j ->
  Peeks K (Al B (eN (g.zip C++T))) H j l/\Reps K (Am B) H j l/\(zK as=true->Reps K (Al B (eN (g.zip C++T))) H j l):=by
 have key:∀ p∈rP as l,rX K (Al B (eN (g.zip C++T))) H p.1 p.2:=λp m=>by
  have:=h.ok p (by simp[m]);rw[Dw] at this;exact this
 have A:=h.rmArgs;have am:∀ a,Al B (eN (g.zip C++T)) a->Am B a:=λa z=>⟨z.1,z.2.2⟩
 clear h;induction ok with
 | nil=>intro j e;cases e;exact⟨.nil,.nil,λ_=>.nil⟩
 | @t d v as l ok D =>
  intro j e;obtain⟨f,b,rfl⟩:=cC.mp e;obtain⟨u,k,r⟩:=key (.v d,some v) aE;cases k;obtain⟨E,F,O⟩:=D (λp m=>key p (aK _ m)) f b;exact⟨.cons r.peek E,.cons (r.mono (.all am)) F,λn=>.cons r (O n)⟩
 | @al i v as l G ok D =>
  intro j e;have e:=(show (match at? g i,uJ g as with | some d,some j=>some (d::j) | _,_=>none)=some j from e);cases b:at? g i with
  | none=>rw[b] at e;cases e
  | some d =>
   cases k:uJ g as with
   | none=>rw[b,k] at e;cases e
   | some f =>
    rw[b,k] at e;cases e;obtain⟨E,F,O⟩:=D (λp m=>key p m) f k;obtain⟨V,q,pv⟩:=A.peek I b;rw[G] at q;cases q;have Q:Rep K (Am B) H d v:=by
     unfold at? at b;cases w:g[i]? with
     | none=>rw[w] at b;cases b
     | some s =>
      rw[w] at b;obtain⟨R,y,S,M,_,P,_⟩:=uA I w;rw[G] at M;cases M;have L:(s,some v)∈g.zip C++T:=by rw[P];simp
      have:=A.ok _ L;cases s with
      | n=>cases b
      | v c=>cases b;obtain⟨u,x,r⟩:=this;cases x;exact r.mono (.all am)
      | o c =>
       cases b;obtain⟨a,x,r⟩:=this;cases x;have N:=A.new a (sO.mpr ⟨_,L,rfl⟩);exact r.rep am ⟨N.2,.inr N.1⟩
    exact⟨.cons pv E,.cons Q F,λn=>by simp[zK] at n⟩
def Rf (g:rB):mB:=λc e d=>g c e λas a=>match vY as with
 | some b=>b.length<=1000/\d (.v (.t b)) a
 | none=>False
def Lr (g:rB):mB:=λc e d=>g c e λas a=>match vY as with
 | some b=>b.length<=1000/\d (.o (.l b)) a
 | none=>False
theorem L6 (h:n<=1000):n<=sizeLine:=bV h (by decide)
theorem mY (h:qM X g j):PD X (.Tuple g l pos) (Rf j):=(Bc h).mono λv H Q c=>c.elim λB q T u f hd m k=>⟨B,q,T,_,f,hd,m,λas d t s n ok d1 a=>by
 cases b:vY as with
 | none=>rw[b] at a;exact a.elim
 | some e =>
  rw[b] at a;have r:=d1.temps ok e b;exact⟨L6 (by rw[<- r.length];exact a.1),λp i=>k _ d _ _ n (d1.rmArgs.tup i r) a.2⟩⟩
theorem nX (h:qM X g j):PD X (.List g pos) (Lr j):=(oR h).mono λv H Q c=>c.elim λB q T u f hd m k=>⟨B,q,T,_,f,hd,m,λas d t s n ok d1 a=>by
 cases b:vY as with
 | none=>rw[b] at a;exact a.elim
 | some e =>
  rw[b] at a;have r:=d1.temps ok e b;exact⟨L6 (by rw[<- r.length];exact a.1),λp i=>k _ d _ _ n (d1.rmArgs.lstF i r).mid a.2⟩⟩
abbrev OC:=Aa D->(Sl->Prop)->Prop
def qF (K:kY) (r:Aa V->Hp->VK->Prop) (f:OC):Prop:=∀ (B:Bs) (L:mR) (H:Hp) (b:Aa D) (c:Aa V) (d:Sl->Prop) (Q:VK),DS K B L H->Peeks K (Al B (eN L)) H b c->f b d ->
 (∀ s v a,d s->DS K B ((s,some v)::L) a->Q v a)->r c H Q
def dC (f:OC) (g:rB):mB:=λb e d=>g b e λas a=>match uJ a as with
 | some c=>f c λr=>d r a
 | none=>False
theorem Dm (l:qF X.K r f) (h:dE X.K (dC f o) p H Q):dA X.K o p H λj g=>r j g Q:=by
 obtain⟨B,u,T,w,n,hd,t,k⟩:=h;refine⟨B,u,T,_,n,hd,t,λas a j g i ok d1 b=>?_⟩;cases c:uJ a as with
 | none=>rw[c] at b;exact b.elim
 | some e =>
  rw[c] at b;exact l B _ g e j _ Q d1.rmArgs (d1.argsP i ok e c).1 b λs v m q d=>k s a v m i d.mid q
variable {id:String}
theorem mT (C:mK X (.builtin id) r) (I:qF X.K r f) (T:X.mg x=none) (hv:bootBuiltins x=some (.builtin id)) (o:qM X (e::l) ta) (J:Gl X x:=by rfl) (U:x ≠ "__name__" := by decide) (g:(x == ("__debug__" : Af))=false:=by decide)
  (j:StB X e l pos:=by exact {}):PD X (.Call (.Name x p) (e::l) [] pos) (dC f ta) :=
 (rG C J T hv o U g j).mono λ_ _ _ h=>Dm I h
theorem nL (C:mK X (.type id) r) (I:qF X.K r f) (T:X.mg x=none) (hv:bootBuiltins x=some (.type id)) (o:qM X (e::l) ta) (J:Gl X x:=by rfl) (U:x ≠ "__name__" := by decide) (g:(x == ("__debug__" : Af))=false:=by decide)
  (j:StB X e l pos:=by exact {}):PD X (.Call (.Name x p) (e::l) [] pos) (dC f ta) :=
 (Cp C J T hv o U g j).mono λ_ _ _ h=>Dm I h
end
def F0:Sl->Bool
 | .v d=>imm d
 | .o (.l b)=>sU b
 | .o (.k a)=>sU (a.map (·.2))
 | .o (.T a)=>sU (a.map (·.2))
 | _=>false
def RV (K:kY) (g:Aa Ad) (A:Ad->Prop) (H:Hp) (s:Sl) (v:V) (j:Hp):Prop:=match s with
 | .n=>True
 | .v d=>Rep K (λa=>a∉g/\(A a\/H a=none)) j d v
 | .o d=>∃ a,v = .ref a/\H a=none/\a∉g/\nZ K (λb=>b∉g/\b≠a/\(A b\/H b=none)) j a d
def yL (j:Aa Ad) (H g:Hp):Prop:=∀ b o,H b=some o->b∉j->g b=some o
abbrev RD:=Aa Ad->Aa D->(Sl->Prop)->Prop
def vW (K:kY) (R:RD):Sp:=λf H Q _=>∃ (b:Aa Ad) (A:Ad->Prop) (d:Aa D) (e:Sl->Prop),Dk b H/\(∀ a,A a->a∉b)/\Reps K A H d f/\R b d e /\
 ∀ s v c,e s->yL b H c->Dk b c->RV K b A H s v c->Q v c
section
variable {K:kY}
theorem nZ.immR (h:nZ K A H a d) (e:F0 (.o d)=true):nZ K g H a d:=by
 cases d with
 | l _=>obtain⟨b,h,r⟩:=h;exact⟨b,h,r.imm e⟩
 | k _=>obtain⟨b,h,k,r⟩:=h;exact⟨b,h,k,r.imm e⟩
 | T _=>obtain⟨b,h,k,r⟩:=h;exact⟨b,h,k,r.imm e⟩
 | _=>exact False.elim h
theorem Kp.frm (f:yL g H l) (p:Dk g H) (h:∀ a,A a->a∉g/\j a):Kp A j H l:=by
 refine⟨λa o b e=>⟨(h a b).2,f a o e (h a b).1⟩,λa o t e=>f a o e λz=>?_⟩;obtain⟨c,q⟩:=p.some z;rw[e] at q;cases q;cases t
theorem DS.call (h:DS K B L H) (f:yL B.dk H g) (j:Dk B.dk g):DS K B L g :=
 ⟨λb o e n=>f b o (h.fr b o e n) n,j,h.nd,h.new,λp c=>(h.ok p c).mono (.frm f h.dk λa z=>⟨z.1,z⟩) λb d o q=>f b o q (h.new b (sO.mpr ⟨p,c,d⟩)).2⟩
theorem DS.adopt (h:DS K B L H) (f:yL B.dk H g) (l:Dk B.dk g) (j:H a=none) (r:nZ K (Al B (a::eN L)) g a d):DS K B ((.o d,some (.ref a))::L) g:=by
 obtain⟨f1,f2,k⟩:=h.free j;have s:Kp (Al B (eN L)) (Al B (a::eN L)) H g:=by
  refine⟨λb o c e=>⟨⟨c.1,λz=>?_,c.2.2⟩,f b o e c.1⟩,λb o t e=>f b o e λz=>?_⟩
  .rcases aF.mp z with q | q
   .subst q;rw[j] at e;cases e
   .exact c.2.1 q
  .obtain⟨u,q⟩:=h.dk.some z;rw[e] at q;cases q;cases t
 have i:eN ((Sl.o d,some (V.ref a))::L)=a::eN L:=rfl;refine⟨λb o e n=>f b o (h.fr b o e n) n,l,by rw[i];exact bW.mpr ⟨k,h.nd⟩,λb c=>?_,λp m=>?_⟩
 .rw[i] at c;rcases aF.mp c with q | q
  .subst q;exact⟨f1,f2⟩
  .exact h.new b q
 .rw[i];rcases aF.mp m with q | q
  .subst q;exact⟨a,rfl,r⟩
  .exact (h.ok p q).mono s λb c o w=>f b o w (h.new b (sO.mpr ⟨p,q,c⟩)).2
theorem DS.result (h:DS K B L H) (f:yL B.dk H j) (l:Dk B.dk j) (r:RV K B.dk p H s v j) (g:(∀ a,p a->Al B (eN L) a)\/F0 s=true):DS K B ((s,some v)::L) j:=by
 have fresh:∀ b,b∉B.dk->H b=none->Al B (eN L) b:=λb n e=>⟨n,(h.free e).2.2,.inr (h.free e).1⟩
 cases s with
 | n=>exact (h.call f l).pushN (L1:=[]) _
 | v d =>
  refine (h.call f l).pushF ?_;rcases g with g | g
  .exact (show Rep K _ j d v from r).mono (.all λb z=>z.2.elim (g b) (fresh b z.1))
  .exact (show Rep K _ j d v from r).imm g
 | o d =>
  obtain⟨a,rfl,c,hd,r⟩:=r;refine h.adopt f l c ?_;rcases g with g | g
  .refine r.mono (.all λb z=>?_) λ_ q=>q
   have:=z.2.2.elim (g b) (fresh b z.1);exact⟨this.1,λq=>(aF.mp q).elim z.2.1 this.2.1,this.2.2⟩
  .exact r.immR g
end
def Je (R:RD) (g:rB):mB:=λb e d=>g b e λas a=>match uJ a as with
 | some c=>R b c λs=>(zK as=true\/F0 s=true)/\d s a
 | none=>False
section
variable {X:Cx}{R:RD}
theorem Wq (h:dE X.K (Je R l) o H Q):dA X.K l o H λj g=>vW X.K R (j++[]) g Q E0:=by
 obtain⟨B,A,T,D,u,hd,w,k⟩:=h;refine⟨B,A,T,_,u,hd,w,λas b j g q ok d1 c=>?_⟩;cases m:uJ b as with
 | none=>rw[m] at c;exact c.elim
 | some i =>
  rw[m] at c;obtain⟨_,x,y⟩:=d1.argsP q ok i m;have d2:=d1.rmArgs;rw[fJ];by_cases t:zK as=true
  .exact⟨B.dk,_,i,_,d2.dk,λa z=>z.1,y t,c,λs v e d f n r=>k s b v e q (d2.result f n r (.inl λa z=>z)).mid d.2⟩
  .exact⟨B.dk,_,i,_,d2.dk,λa z=>z.1,x,c,λs v e d f n r=>k s b v e q (d2.result f n r (.inr (d.1.resolve_left t))).mid d.2⟩
theorem Wh (F:FnOk X.prog X.w X.K X.mg X.base mQ k f fd U (vW X.K R)) (T:Room k X.A) (C:Gl X x) (J:X.mg x=some (.ref f)) (I:PySem.W.keepIn X.K (.ref f)=true) (r:vC X.K fd U [])
  (o:qM X (e::l) ta) (g:(x == ("__debug__" : Af))=false:=by decide) (j:StB X e l pos:=by exact {}) :
  PD X (.Call (.Name x p) (e::l) [] pos) (Je R ta):=(qO F T C J I r .nil qB o g j).mono λ_ _ _ h=>Wq h
end
structure DEnds where
 nx:List Sl->Prop
 rt:Sl->Prop
 bk:List Sl->Prop:=λ_=>False
 ct:List Sl->Prop:=λ_=>False
abbrev pG:=Aa Ad->DEnds->Aa Sl->Prop
def Ak (K:kY) (B:Bs) (T:mR) (n:Nat) (g:DEnds) (j:Ends):Prop :=
 (∀ b a c,b.length=a.length->a.length=n->DS K B (b.zip a++T) c->(g.nx b->j.nx a c)/\(g.bk b->j.bk a c)/\(g.ct b->j.ct a c)) /\
 ∀ (r:Sl) (v:V) (b:Aa Sl) (a:St) (c:Hp),b.length=a.length->DS K B (b.zip a++(r,some v)::T) c->g.rt r->j.rt v c
def dS (K:kY) (g:pG):TS:=λd b H=>∃ (B:Bs) (a:Aa Sl) (T:mR) (c:DEnds),a.length=b.length/\DS K B (a.zip b++T) H/\g B.dk c a/\Ak K B T b.length c d
theorem dS.elim {K:kY}{P:Prop}(h:dS K p o j H) (f:∀ (B:Bs) (g:Aa Sl) (T:mR) (l:DEnds),g.length=j.length->DS K B (g.zip j++T) H->p B.dk l g->Ak K B T j.length l o->P):P:=by
 obtain⟨B,g,T,c,a,hd,b,k⟩:=h;exact f B g T c a hd b k
abbrev sL (X:Cx) (st:Stmt) (g:pG):Prop:=PS X st (dS X.K g)
abbrev tU (X:Cx) (st:Aa Stmt) (g:pG):Prop:=oA X st (dS X.K g)
theorem PS.mono {X:Cx}{st:Stmt}(h:PS X st t) (k:∀ D g H,j D g H->t D g H):PS X st j:=λa s g H D I q=>h a s g H D I (k D g H q)
theorem oA.mono {X:Cx}{st:Aa Stmt}(h:oA X st t) (k:∀ D g H,j D g H->t D g H):oA X st j:=λa s g H D I q=>h a s g H D I (k D g H q)
def Vf:pG:=λ_ a b=>a.nx b
def Dd (t u:pG):pG:=λb a c=>t b { a with nx:=u b a } c
def Df (g:mB):pG:=λb a c=>g b c λr _=>a.rt r
def M4 (g:mB):pG:=λc b d=>g c d λ_ a=>b.nx a
def Qe (c:pP) (t u:pG):pG:=λd e f=>c d f λb a=>if b=true then t d e a else u d e a
def qR (i:Nat) (g:mB):pG:=λc b d=>g c d λr a=>b.nx (a.set i r)
section
variable {X:Cx}{K:kY}{st:Stmt}{rest:Aa Stmt}
theorem Ak.seq (h:Ak K B T n o p){P:Aa Sl->Prop}(k:∀ j g l,j.length=g.length->g.length=n->DS K B (j.zip g++T) l->P j->N g l):Ak K B T n { o with nx:=P } { p with nx:=N } :=
 ⟨λj g l a b d=>⟨k j g l a b d,(h.1 j g l a b d).2⟩,h.2⟩
theorem uS:tU X [] Vf:=Aj.mono λi f H a=>a.elim λB e T h b hd c d=>(d.1 e f H b rfl hd).1 c
theorem hH (g:sL X st t) (j:tU X rest u):tU X (st::rest) (Dd t u):=(nP g j).mono λs w H a=>a.elim λB m T e f hd h c =>
 ⟨B,m,T,_,f,hd,h,c.seq λb n v i k d q=>⟨B,b,T,e,i,d,q,by rw[k];exact c⟩⟩
theorem lY (h:sL X st t):tU X [st] t:=qC h
theorem nO (h:PD X e g):sL X (.Return (some e) pos) (Df g):=(tY h).mono λt q H a=>a.elim λB n T s f hd i m=>⟨B,n,T,_,f,hd,i,λr b v c k d1 d=>m.2 r v b q c k d1 d⟩
theorem rL (h:PD X e j) (g:swapsWith e none pos.line X.env=pure false:=by rfl):sL X (.Expr e pos) (M4 j):=(B6 h g).mono λt q H a=>a.elim λB n T s f hd i m=>⟨B,n,T,_,f,hd,i,λr b v c k d1 d=>(m.1 b q c k rfl d1.drop).1 d⟩
theorem vM (l:qV X c o) (g:tU X a t) (j:tU X b u):sL X (.If c a b pos) (Qe o t u):=(yO l g j).mono λs w H e=>e.elim λB q T f m hd n k=>⟨B,q,T,_,m,hd,n,λc d v i d1 h=>by
 cases c with
 | true=>exact (bE rfl).mpr ⟨B,d,T,f,i,d1,(bE rfl).mp h,k⟩
 | false=>exact wD ⟨B,d,T,f,i,d1,(bG (by decide)).mp h,k⟩⟩
theorem DS.assign {g:Aa Sl}{j:St}(l:g.length=j.length) (h:DS K B (g.zip j++(r,some v)::T) H) (i:Nat):DS K B ((g.set i r).zip (j.set i (some v))++T) H:=by
 by_cases m:i<g.length
 .obtain⟨b,y,c,_,_,n,a⟩:=uA l (aG m);rw[a r (some v)];rw[n] at h;have d:DS K B (b++(c++(r,some v)::T)) H:=DS.drop (L1:=b) (x:=(g[i],y)) (by simpa using h);have e:DS K B ((b++c)++(r,some v)::T) H:=by simpa using d
  have f:=e.front;have k:DS K B ((r,some v)::(b++(c++T))) H:=by simpa using f
  simpa using k.mid
 .rw[gF (by omega),gF (by omega)];exact h.drop
theorem lG (i:Nat) (j:X.N.Nodup) (l:PD X e J) (p:X.N[i]?=some x:=by rfl) (I:uI X.env.scope x:=by first | exact Or.inl rfl | exact Or.inr rfl) (C:swapsWith e (some (.Name x g)) pos.line X.env=pure false:=by rfl)
  (o:X.fn x=true\/X.env.scope.names.lookup x=some .local:=by first | exact .inl rfl | exact .inr rfl | assumption):sL X (.Assign [.Name x g] e pos) (qR i J) :=
 (nH j p I l C o).mono λs t H a=>a.elim λB m T q f hd h k=>⟨B,m,T,_,f,hd,h,λr n v c b d1 d=>(k.1 _ _ c (by rw[bQ,bQ];exact b) (bQ ..) (d1.assign b i)).1 d⟩
end
def xI (N:Aa Af) (g:Aa D):Aa Sl:=g.map .v++List.replicate (N.length-g.length) .n
section
variable {P:Ah}{K:kY}
theorem Oe:∀ {g:Aa D}{j:Aa V}(n:Nat),g.length=j.length->(g.map Sl.v++List.replicate n Sl.n).zip (j.map some++List.replicate n none)=(g.zip j).map (λp=>(Sl.v p.1,some p.2))++List.replicate n (Sl.n,none)
 | [],[],n,_=>by simp
 | [],_::_,_,e=>by simp at e
 | _::_,[],_,e=>by simp at e
 | d::g,v::j,n,e=>by
  simp only[aY,cL,cY,hV,true_and];exact Oe n (by simpa using e)
theorem Z2 (l:Reps K A H g j):∀ p∈g.zip j,Rep K A H p.1 p.2:=by
 induction g generalizing j with
 | nil=>intro p a;cases a
 | cons d g b =>
  cases l with
  | cons h r =>
  intro p a;rw[cY] at a;rcases aF.mp a with rfl | q
  .exact h
  .exact b r p q
theorem Fun.okD {st:Stmt}{R:RD}(F:Fun K x J st f fd) (S:FnScope N ps (lU st)) (I:∀ C g T,R C g T->g.length=ps.length) (aa:ps.length<=N.length)
  (U:∀ (l:Ac) (A:Around) (j:Aa Env) (s:Ae) (H:Hp) (E:XK) (C:Aa Ad) (g:Aa D) (T:Sl->Prop),Room k (A.deeper (envOfC J (lU st) s.heap.objs.size f l))->R C g T ->∃ t,tU (vO mQ P w K mg base N J (lU st) f l A j s H E).nox (qQ st) t/\t C { nx:=λ_=>T (.v .e),rt:=T } (xI N g)):FnOk P w K mg base mQ (k+1) f fd ps (vW K R):=by
 refine F.ok S (λm H Q E M=>by obtain⟨C,A,g,T,_,_,r,u,_⟩:=M;rw[<- r.length];exact I _ _ _ u) λl A j s H m Q E hr M=>?_
 obtain⟨C,A1,g,T,L,hA,r,u,X⟩:=M;obtain⟨t,ht,hb⟩:=U l A j s H E C g T hr u;have G:g.length=m.length:=r.length;have dl:g.length=ps.length:=I _ _ _ u;refine⟨_,ht,⟨C,A1,H⟩,xI N g,[],_,?_,?_,hb,?_,?_⟩
 .unfold xI sV;rw[List.length_append,List.length_append,List.length_map,List.length_map,List.length_replicate,List.length_replicate,G]
 .have W:(xI N g).zip (sV N m)=(g.zip m).map (λp=>(Sl.v p.1,some p.2))++List.replicate (N.length-g.length) (Sl.n,none):=by
   unfold xI sV;rw[<- G];exact Oe _ G
  have B:eN ((xI N g).zip (sV N m))=[]:=by
   rw[W];refine gL.mpr λa i=>?_
   obtain⟨q,c,e⟩:=sO.mp i;rcases aV.mp c with z | z
   .obtain⟨p,_,rfl⟩:=aD.mp z;cases e
   .rw[(List.mem_replicate.mp z).2] at e;cases e
  rw[fJ];refine⟨λb o e _=>e,L,by rw[B];exact List.nodup_nil,(λa i=>by rw[B] at i;exact absurd i bJ),λq c=>?_⟩;rw[B];rw[W] at c;rcases aV.mp c with z | z
  .obtain⟨p,hp,rfl⟩:=aD.mp z;exact⟨p.2,rfl,(Z2 r p hp).mono (.all λa i=>⟨hA a i,bJ,.inl i⟩)⟩
  .rw[(List.mem_replicate.mp z).2];trivial
 .intro O V y l1 l2 d1;refine⟨λh=>X _ _ y h d1.fr d1.dk .e,λh=>h.elim,λh=>h.elim⟩
 .intro Z v O V y l1 d1 h;refine X Z v y h d1.fr d1.dk ?_;cases Z with
  | n=>trivial
  | v d=>exact d1.valAt.mono (.all λa z=>⟨z.1,z.2.2⟩)
  | o d =>
   obtain⟨a,rfl,r'⟩:=d1.ownAt;have Y:=d1.new a (by rw[qK];exact aP _ aE);exact⟨a,rfl,Y.1,Y.2,r'.mono (.all λb z=>⟨z.1,λq=>z.2.1 (by simp[q]),z.2.2⟩) λ_ q=>q⟩
end
abbrev sK:=D->Aa Sl->(Aa Sl->Prop)->Prop
abbrev wU:=Aa D->Aa Sl->(Aa Sl->Prop)->Prop
noncomputable def oE (g:Aa D) (j:Aa V):mR:=(g.zip j).map λp=>(Sl.v p.1,some p.2)
def dG (K:kY) (n:Nat) (g:sK):TG:=λv c H Q=>∃ (B:Bs) (e:Aa Sl) (T:mR) (d:D) (h:Aa Sl->Prop),e.length=c.length/\DS K B (e.zip c++(.v d,some v)::T) H/\g d e h /\
 ∀ (b:Aa Sl) (a:St) (f:Hp),b.length=a.length->a.length=c.length->(∀ j,n<=j->a[j]?=c[j]?)->DS K B (b.zip a++T) f->h b->Q a f
def Gk (K:kY) (n:Nat) (g:wU):xQ:=λh c H Q=>∃ (B:Bs) (e:Aa Sl) (T:mR) (d:Aa D) (i:Aa Sl->Prop),e.length=c.length/\d.length=h.length/\DS K B (e.zip c++(oE d h++T)) H/\g d e i /\
 ∀ (b:Aa Sl) (a:St) (f:Hp),b.length=a.length->a.length=c.length->(∀ j,n<=j->a[j]?=c[j]?)->DS K B (b.zip a++T) f->i b->Q a f
theorem dG.elim {K:kY}{P:Prop}(h:dG K n I v r H Q) (f:∀ (B:Bs) (o:Aa Sl) (T:mR) (d:D) (p:Aa Sl->Prop),o.length=r.length->DS K B (o.zip r++(.v d,some v)::T) H->I d o p ->(∀ (l:Aa Sl) (g:St) (C:Hp),l.length=g.length->g.length=r.length->(∀ j,n<=j->g[j]?=r[j]?)->DS K B (l.zip g++T) C->p l->Q g C)->P):P:=by
 obtain⟨B,o,T,d,p,a,hd,b,k⟩:=h;exact f B o T d p a hd b k
theorem Gk.elim {K:kY}{P:Prop}(h:Gk K n U J C H Q) (f:∀ (B:Bs) (p:Aa Sl) (T:mR) (o:Aa D) (r:Aa Sl->Prop),p.length=C.length->o.length=J.length->DS K B (p.zip C++(oE o J++T)) H->U o p r ->(∀ (l:Aa Sl) (g:St) (I:Hp),l.length=g.length->g.length=C.length->(∀ j,n<=j->g[j]?=C[j]?)->DS K B (l.zip g++T) I->r l->Q g I)->P):P:=by
 obtain⟨B,p,T,o,r,a,c,hd,b,k⟩:=h;exact f B p T o r a c hd b k
abbrev wN (X:Cx) (n:Nat) (e:Expr) (g:sK):Prop:=PG X e (dG X.K n g)
abbrev Bb (X:Cx) (n:Nat) (g:Aa Expr) (j:wU):Prop:=vK X g (Gk X.K n j)
theorem PG.mono {X:Cx}(h:PG X e t) (k:∀ v g H Q,j v g H Q->t v g H Q):PG X e j:=λa s g H v u Q I r q=>h a s g H v u Q I r (k v g H Q q)
theorem vK.mono {X:Cx}(h:vK X j t) (k:∀ v g H Q,l v g H Q->t v g H Q):vK X j l:=λa s g H v u Q I r q=>h a s g H v u Q I r (k v g H Q q)
def gN (i:Nat):sK:=λd b a=>a (b.set i (.v d))
def Sg:wU:=λa c b=>a=[]/\b c
def Tc (g:sK) (j:wU):wU:=λa e c=>match a with
 | d::a=>g d e λb=>j a b c
 | []=>False
def Wv (n:Nat) (g:wU):sK:=λd c b=>match d with
 | .t a=>a.length=n/\g a c b
 | _=>False
section
variable {X:Cx}{K:kY}
theorem DS.pushs {A:Ad->Prop}:∀ {ds:Aa D}{vs:Aa V},DS K B (L++T) H->Reps K (Al B (eN (L++T))) H ds vs->DS K B (L++(oE ds vs++T)) H
 | _,_,h,.nil=>h
 | _,_,h,.cons (ds:=ds) (vs:=vs) r i=>by
  have c:=DS.pushs (A:=A) h i;have b:eN (L++(oE ds vs++T))=eN (L++T):=by
   have:∀ (ds:Aa D) (vs:Aa V),eN (oE ds vs)=[]:=λds vs=>by
    refine gL.mpr λa d=>?_
    obtain⟨q,f,e⟩:=sO.mp d;obtain⟨p,_,rfl⟩:=aD.mp f;cases e
   rw[pY,pY,pY,this,kA]
  exact c.push (by rw[b];exact r)
theorem lQ (i:Nat) (g:X.N.Nodup) (o:X.N[i]?=some x:=by rfl) (p:uI X.env.scope x:=by first | exact Or.inl rfl | exact Or.inr rfl) (r:i<m:=by decide) (l:X.fn x=true\/X.env.scope.names.lookup x=some .local:=by first | exact .inl rfl | exact .inr rfl | assumption):wN X m (.Name x pos) (gN i) :=
 (vA g o p l).mono λv n H Q a=>a.elim λB h T d f b hd c k=>k _ _ H (by rw[bQ,bQ];exact b) (bQ ..) (λj e=>eP (by omega)) (hd.assign b i) c
theorem rE:Bb X m [] Sg:=Vw.mono λf i H Q a=>a.elim λB h T n q c e hd ⟨b,d⟩ k=>by
 subst b;cases f with
 | nil=>exact⟨rfl,k h i H c rfl (λ_ _=>rfl) hd d⟩
 | cons _ _=>simp at e
theorem mU (p:wN X m e g) (r:Bb X m l o) (C:(assignEach (e::l) X.env).map (·.2)=assign e X.env::(assignEach l X.env).map (·.2):=by rfl):Bb X m (e::l) (Tc g o) :=
 (Vj p r C).mono λb M H Q c=>c.elim λB F T a E w t hd s k=>by
  cases a with
  | nil=>exact s.elim
  | cons d a =>
   cases b with
   | nil=>simp at t
   | cons v b =>
    refine⟨v,b,rfl,B,F,oE a b++T,d,_,w,hd,s,λf G L x y f1 d1 q=>⟨B,f,T,a,E,x,by simpa using t,d1,q,λh i u z A f2 d2 D=>k h i u z (A.trans y) (λj n=>(f2 j n).trans (f1 j n)) d2 D⟩⟩
theorem rM (o:X.calm=true) (h:Bb X m g l) (p:(assignEach g X.env).length=n:=by rfl) (j:(assignEach g X.env).findIdx? (·.1)=none:=by rfl):wN X m (.Tuple g k pos) (Wv n l) :=
 (Sa o h p j).mono λv x H Q b=>b.elim λB w T d u q hd c k=>by
  cases d with
  | t f =>
   obtain⟨a,s,rfl,i,e⟩:=hd.valAt.tup_inv;exact⟨a,s,rfl,mA.of i,by rw[<- e.length];exact c.1,B,w,T,f,u,q,e.length,hd.drop.pushs (A:=λ_=>True) e,c.2,k⟩
  | _=>exact c.elim
end
def CZ (j:mB) (g:sK):pG:=λc b e=>j c e λr a=>match sd r with
 | some d=>g d a b.nx
 | none=>False
def C9:D->D->D->Ab D
 | .l b,.int i,d=>(sB b.length i).map λj=>.l (b.set j d)
 | .k a,k,d=>if a.length<100000 then (qU k).map λk=>.k (qZ a k d) else none
 | .T a,.t c,d=>if a.length<100000 then (xC c).map λk=>.T (qZ a k d) else none
 | _,_,_=>none
def Oa (i:Nat) (g j:mB):pG:=λf h q=>j f q λn a=>(at? a i).isSome=true/\g f a λm b=>match sd n,sd m,b[i]? with
 | some d,some k,some (.o c)=>∃ e,C9 c k d=some e/\h.nx (b.set i (.o e))
 | _,_,_=>False
section
variable {X:Cx}{K:kY}
theorem GW (o:PD X e I) (p:wN X m l g) (C:swapsWithSole [l] e pos.line X.env=pure false:=by rfl) (hw:swappedStores [l] e X.env=pure none:=by rfl)
  (j:(assignEach [l] X.env).map (·.2)=[assign l X.env]:=by rfl):sL X (.Assign [l] e pos) (CZ I g):=(A9 o p C hw j).mono λz D H b=>b.elim λB x T y k hd n s=>⟨B,x,T,_,k,hd,n,λr c v A q d1 j=>by
 cases a:sd r with
 | none=>rw[a] at j;exact j.elim
 | some d =>
  rw[a] at j;exact⟨B,c,T,d,_,q,d1.thaw a,j,λf h i t u _ d2 w=>(s.1 f h i t u d2).1 w⟩⟩
def Po:He:=λo i v H Q=>Ru o i v H Q\/∃ a b,o = .ref a/\wI H a i v b/\Q b
theorem FM (j:X.A.units+1<cLine):Ga X Po:=by
 intro b s t H o i v n m u Q I d c e h;rcases h with h | ⟨a,f,rfl,g,q⟩
 .exact El b s t H o i v n m u Q I d c e h
 .cases d;exact AL j I g c e λw k=>⟨f,k,q⟩
theorem DS.slotW {g:Aa Sl}{j:St}(C:g.length=j.length) (h:DS K B (g.zip j++T) H){i:Nat}{c:D}(e:g[i]?=some (.o c)):∃ a,j[i]?=some (some (.ref a))/\nZ K (Al B (eN (g.zip j++T))) H a c /\
  ∀ (o:HO) (l:D),(∀ p,Kp (Al B (eN (g.zip j++T))) p H (upd H a o)->nZ K p (upd H a o) a l)->DS K B ((g.set i (.o l)).zip j++T) (upd H a o):=by
 obtain⟨q,y,s,m,_,n,b⟩:=uA C e;have d:DS K B (q++(.o c,y)::(s++T)) H:=by rw[n] at h;simpa using h
 obtain⟨a,rfl,_⟩:=d.at;have f:eN (g.zip j++T)=eN q++a::eN (s++T):=by rw[n,bI,cL,qK];rfl
 obtain⟨v,t,r⟩:=d.ownAt;cases t;refine⟨a,m,by rw[f];exact r,λo l k=>?_⟩;rw[f] at k;have u:=d.write (o:=o) (d':=l) k;have:=b (.o l) (some (.ref a));rw[yH m] at this;rw[this]
 simpa using u
theorem U1 (h:C9 c k d=some p) (r:nZ K A H a c) (J:mG K A H k y) (I:Rep K A H d v)
  (C:∀ o,(∀ g,Kp A g H (upd H a o)->nZ K g (upd H a o) a p)->Q (upd H a o)):Po (.ref a) y v H Q:=by
 cases c with
 | l M =>
  cases k with
  | int i =>
   obtain⟨m,s,n⟩:=r;obtain⟨j,u,rfl⟩:=cC.mp h;have:=J.int_inv;subst this;exact .inl ⟨a,m,i,j,rfl,rfl,s,by rw[<- n.length];exact u,C _ λg w=>⟨_,lE,(n.set I j).mono w⟩⟩
  | _=>cases h
 | k e =>
  obtain⟨m,s,q,n⟩:=r;have h:=(show (if e.length<100000 then (qU k).map λj=>D.k (qZ e j d) else none)=some p from h);by_cases f:e.length<100000
  .rw[bE f] at h;obtain⟨j,u,rfl⟩:=cC.mp h;rw[Bd u J];obtain⟨z,B⟩:=J6 q n (k:=j) I;have x:m.length<sizeLine:=by
    have:=eA List.length q;simp only[aB] at this;exact aW (show m.length<100000 by omega) (by decide)
   exact .inr ⟨a,_,rfl,wI.k s x,C _ λg w=>⟨_,lE,z,B.mono w⟩⟩
  .rw[bG f] at h;cases h
 | T e =>
  cases k with
  | t F =>
   obtain⟨m,s,q,n⟩:=r;have h:=(show (if e.length<100000 then (xC F).map λj=>D.T (qZ e j d) else none)=some p from h);by_cases f:e.length<100000
   .rw[bE f] at h;obtain⟨j,u,rfl⟩:=cC.mp h;obtain⟨b,L,rfl,E,G⟩:=J.tup_inv;rw[Mt u G] at E;obtain⟨z,B⟩:=J6 q n (k:=j) I;have x:m.length<sizeLine:=by
     have:=eA List.length q;simp only[aB] at this;exact aW (show m.length<100000 by omega) (by decide)
    exact .inr ⟨a,_,rfl,wI.t s E x,C _ λg w=>⟨_,lE,z,B.mono w⟩⟩
   .rw[bG f] at h;cases h
  | _=>cases h
 | _=>cases h
theorem Wf (U:X.A.units+1<cLine) (hv:PD X e tv) (I:PE X o (pR n)) (r:PD X i ti)
  (j:∀ v,assign (.Subscript o i g) X.env v=(do
   let l <- holding [v] (eval o X.env);let C <- holding [v,l] (eval i X.env)
   standAt g
   holding [v,l,C] (setItem l C v)
   release [v,l,C] []):=by intro _;rfl)
  (J:swapsWithSole [.Subscript o i g] e pos.line X.env=pure false:=by rfl) (hw:swappedStores [.Subscript o i g] e X.env=pure none:=by rfl)
  (p:(assignEach [.Subscript o i g] X.env).map (·.2)=[assign (.Subscript o i g) X.env]:=by rfl):sL X (.Assign [.Subscript o i g] e pos) (Oa n ti tv) :=
 (A9 hv (B1 I r (FM U) j) J hw p).mono λDn σ H q=>q.elim λB ρ T De N hd P Q=>⟨B,ρ,T,_,N,hd,P,λF u v H1 D d1 t=>by
  obtain⟨r,p⟩:=t;obtain⟨d0,L⟩:=dF.mp r;obtain⟨x,z,_⟩:=d1.peek D L;refine⟨x,z,B,u,(F,some v)::T,_,D,d1,p,λY w y H2 E d2 b=>?_⟩;cases f:sd F with
  | none=>rw[f] at b;exact b.elim
  | some d =>
   cases h:sd Y with
   | none=>rw[f,h] at b;exact b.elim
   | some k =>
    cases m:w[n]? with
    | none=>rw[f,h,m] at b;exact b.elim
    | some s =>
     cases s with
     | n=>rw[f,h,m] at b;exact b.elim
     | v c=>rw[f,h,m] at b;exact b.elim
     | o c =>
      rw[f,h,m] at b;obtain⟨G,M,b⟩:=b;obtain⟨R,S,V⟩:=d2.two f h;obtain⟨a,j,W,Z⟩:=R.slotW E m;rw[z] at j;cases j;exact U1 M W V.peek S λo O=>(Q.1 _ _ _ (by rw[bQ];exact E) rfl (Z o G O)).1 b⟩
def Le (n:Nat) (f:Int->Int->Int) (g:mB):pG:=λd c b=>match at? b n with
 | some (.int i)=>g d b λr a=>match r with
  | .v (.int j)=>c.nx (a.set n (.v (.int (f i j))))
  | _=>False
 | _=>False
theorem F6 (j:X.N.Nodup) (p:X.N[n]?=some x) (I:uI X.env.scope x) (l:PD X e J) (C:Cy X op (Hr f)) (o:X.fn x=true\/X.env.scope.names.lookup x=some .local:=by first | exact .inl rfl | exact .inr rfl | assumption) :
  sL X (.AugAssign (.Name x g) op e pos) (Le n f J):=(AB j p I l C o).mono λz A H h=>h.elim λB m T w i hd a t=>by
 unfold Le at a;cases b:at? m n with
 | none=>rw[b] at a;exact False.elim a
 | some d =>
 rw[b] at a;cases d<;>first | exact False.elim a | skip
 .obtain⟨v,s,pv⟩:=hd.peek i b;have:=pv.int_inv;subst this;refine⟨_,s,B,m,T,_,i,hd,a,λr u y q k d1 c=>?_⟩;cases r<;>first | exact False.elim c | skip
  rename_i d
  cases d<;>first | exact False.elim c | skip
  have:=d1.valAt.int_inv;subst this;exact⟨_,_,rfl,rfl,(t.1 _ _ q (by rw[bQ,bQ];exact k) (bQ ..) ((d1.drop.push (.int _)).assign k n)).1 c⟩
end
section
variable {X:Cx}
def Yk (K:kY) (R:It->Hp->Prop) (x:V) (H:Hp):Prop:=(∃ a,x = .ref a/\(∃ b,eT K H a b)/\R (yJ K a) H)\/(∃ a,x = .ref a/\(∃ b,mA K H a b)/\R (G9 K a) H)\/∃ z:Af,x = .str z/\z.cps.all (·<128)=true/\R (tD z) H
def Vd (K:kY) (g:TE):TI:=λb H R=>g b H λx a=>Yk K R x a
theorem DI (g:PE X l j):PI X r l (Vd X.K j):=by
 intro d s G H R I h;refine hO (g d s G H _ I h) λv c u=>?_
 obtain⟨x,k,f,w,D⟩:=u;have m:∀ b∈[c.heap.objs.size],rO X d k b:=λb A=>by
  have e:b=c.heap.objs.size:=by simpa using A
  subst e;exact f.fpOk (aJ _) (f.hok.fresh (aJ _))
 rcases D with⟨a,rfl,⟨F,n⟩,q⟩ | ⟨a,rfl,⟨F,n⟩,q⟩ | ⟨z,rfl,y,q⟩
 .cases w;obtain⟨i,E,p,B⟩:=f.list n;exact eF p.isList ⟨c.heap.objs.size,[c.heap.objs.size],_,_,k,rfl,f.kept (t':=c.toks) λb o e=>aI _ e,Ka a _,⟨_,aX _ rfl,rfl,rfl⟩,m,q⟩
 .cases w;obtain⟨i,E,p,B⟩:=f.tuple n;exact wpAny_pyIter_tuple (show c.heap.IsTuple a i.toArray from p) ⟨c.heap.objs.size,[c.heap.objs.size],_,_,k,rfl,f.kept (t':=c.toks) λb o e=>aI _ e,W0 a _,⟨_,aX _ rfl,rfl,rfl⟩,m,q⟩
 .obtain⟨t,rfl⟩:=w;exact wpAny_pyIter_ascii y ⟨c.heap.objs.size,[c.heap.objs.size],_,tD z,k,rfl,f.kept (t':=c.toks) λb L q=>aI _ q,L9 z t _,⟨_,aX _ rfl,rfl,rfl⟩,m,q⟩
end
def wQ (K:kY) (A:Ad->Prop) (H:Hp) (E:mR):Prop:=∀ p∈E,rX K A H p.1 p.2
structure YD (K:kY) (J:It) (ds:List D) (E:mR):Prop where
 vals:eN E=[]
 go:∀ i H A,i<ds.length->wQ K A H E->J.go i H
 yld:∀ i H A x H',i<ds.length->wQ K A H E->J.yld i H x H'->∃ d,ds[i]?=some d/\((H'=H/\Rep K A H d x)\/∃ p es vs,H p=none/\x = .ref p/\H'=upd H p (.t vs)/\d = .t es/\Reps K A H es vs)
 stop:∀ i H A,i=ds.length->wQ K A H E->J.stop i H
abbrev uM:=Aa Ad->Aa Sl->(Aa D->Aa Sl->Prop)->Prop
def dI (K:kY) (g:uM):TI:=λb H R=>∃ (B:Bs) (c:Aa Sl) (T:mR) (f:Aa D->Aa Sl->Prop),c.length=b.length/\DS K B (c.zip b++T) H/\g B.dk c f /\
 ∀ (J:It) (e:Aa D) (a:Aa Sl) (E:mR) (d:Hp),a.length=b.length->DS K B (a.zip b++(E++T)) d->YD K J e E->f e a->R J d
theorem dI.elim {K:kY}{R:It->Hp->Prop}{P:Prop}(h:dI K C o H R) (f:∀ (B:Bs) (j:Aa Sl) (T:mR) (l:Aa D->Aa Sl->Prop),j.length=o.length->DS K B (j.zip o++T) H->C B.dk j l ->(∀ (J:It) (r:Aa D) (g:Aa Sl) (E:mR) (p:Hp),g.length=o.length->DS K B (g.zip o++(E++T)) p->YD K J r E->l r g->R J p)->P):P:=by
 obtain⟨B,j,T,l,a,hd,b,k⟩:=h;exact f B j T l a hd b k
abbrev wJ (X:Cx) (g iter:Expr) (j:uM):Prop:=PI X g iter (dI X.K j)
theorem PI.mono {X:Cx}{iter:Expr}(h:PI X j iter w) (k:∀ g H R,l g H R->w g H R):PI X j iter l:=λa s g H R I q=>h a s g H R I (k g H R q)
noncomputable def yA (z:Af):Aa D:=z.cps.toList.map λc=>D.str ⟨#[c]⟩
def Yl:D->Ab (Aa D)
 | .l a=>some a
 | .t a=>some a
 | .con a=>some a
 | .c a=>some a
 | .str z=>if z.cps.all (·<128) then some (yA z) else none
 | _=>none
def iV (g:mB):uM:=λb e d=>g b e λr a=>match (sd r).bind Yl with
 | some c=>d c a
 | none=>False
noncomputable def qI (lo:Int) (n:Nat):Aa D:=(List.range n).map λ(i:Nat)=>D.int (lo+i)
def Te (g:mB):uM:=λb d c=>g b d λr a=>match r with
 | .v (.int j)=>-(2 ^ 62)<=j/\j<2 ^ 62/\c (qI 0 j.toNat) a
 | _=>False
def T2 (g l:mB):uM:=λc f e=>g c f λr a=>l c a λd b=>match r,d with
 | .v (.int i),.v (.int j)=>(-(2 ^ 62)<=i/\i<2 ^ 62/\-(2 ^ 62)<=j/\j<2 ^ 62)/\e (qI i (j-i).toNat) b
 | _,_=>False
section
variable {X:Cx}{K:kY}
theorem Yh {a:Ad}{g:Aa D}:YD K (yJ K a) g [(.v (.l g),some (.ref a))] where
 vals:=rfl
 go:=λi H A h ok=>by
  obtain⟨v,e,r⟩:=ok _ aE;cases e;obtain⟨k,b,e,_,c,f⟩:=r.lst_inv;cases e;exact⟨b,b[i]'(by rw[<- f.length];exact h),eT.of c,aG _⟩
 yld:=λi H A x m h ok y=>by
  obtain⟨v,e,r⟩:=ok _ aE;cases e;obtain⟨k,b,e,_,c,f⟩:=r.lst_inv;cases e;obtain⟨d,hd,rd⟩:=f.getV (y.2 b (eT.of c));exact⟨d,hd,.inl ⟨y.1,rd⟩⟩
 stop:=λi H A h ok=>by
  obtain⟨v,e,r⟩:=ok _ aE;cases e;obtain⟨k,b,e,_,c,f⟩:=r.lst_inv;cases e;exact⟨b,eT.of c,by rw[<- f.length];omega⟩
theorem Vi {a:Ad}{g:Aa D}:YD K (yJ K a) g [(.v (.c g),some (.ref a))] where
 vals:=rfl
 go:=λi H A k ok=>by
  obtain⟨v,e,r⟩:=ok _ aE;cases e;obtain⟨m,b,e,f,h⟩:=r.scr_inv;cases e;exact⟨b,b[i]'(by rw[<- h.length];exact k),f.sqL,aG _⟩
 yld:=λi H A x n k ok y=>by
  obtain⟨v,e,r⟩:=ok _ aE;cases e;obtain⟨m,b,e,f,h⟩:=r.scr_inv;cases e;obtain⟨d,hd,rd⟩:=h.getV (y.2 b f.sqL);exact⟨d,hd,.inl ⟨y.1,rd⟩⟩
 stop:=λi H A k ok=>by
  obtain⟨v,e,r⟩:=ok _ aE;cases e;obtain⟨m,b,e,f,h⟩:=r.scr_inv;cases e;exact⟨b,f.sqL,by rw[<- h.length];omega⟩
theorem Np {a:Ad}{d:D}{g:Aa D}(hd:d = .t g\/d = .con g):YD K (G9 K a) g [(.v d,some (.ref a))]:=by
 have key:∀ A H,wQ K A H [(.v d,some (.ref a))]->∃ b,mA K H a b/\Reps K A H g b:=λA H ok=>by
  obtain⟨v,e,r⟩:=ok _ aE;cases e;rcases hd with rfl | rfl
  .obtain⟨k,b,e,c,f⟩:=r.tup_inv;cases e;exact⟨b,mA.of c,f⟩
  .obtain⟨k,b,e,c,f⟩:=r.con_inv;cases e;exact⟨b,c.sqT,f⟩
 refine⟨rfl,λi H A h ok=>?_,λi H A x m h ok y=>?_,λi H A h ok=>?_⟩
 .obtain⟨b,c,f⟩:=key A H ok;exact⟨b,b[i]'(by rw[<- f.length];exact h),c,aG _⟩
 .obtain⟨b,c,f⟩:=key A H ok;obtain⟨d,hd,rd⟩:=f.getV (y.2 b c);exact⟨d,hd,.inl ⟨y.1,rd⟩⟩
 .obtain⟨b,c,f⟩:=key A H ok;exact⟨b,c,by rw[<- f.length];omega⟩
theorem Yt:YD K (tD z) (yA z) [] where
 vals:=rfl
 go:=λi H A a _=>by simpa [tD,yA,Str.length] using a
 yld:=λi H A x d a _ y=>by
  obtain⟨e,c,b,rfl⟩:=y;refine⟨.str ⟨#[c]⟩,?_,.inl ⟨e,.str _⟩⟩;unfold yA;rw[bK,fA,b];rfl
 stop:=λi H A a _=>by simp[tD,a,yA,Str.length]
theorem Rg {lo:Int}:YD K (rN lo n) (qI lo n) [] where
 vals:=rfl
 go:=λi H A a _=>by simpa [rN,qI] using a
 yld:=λi H A x c a _ y=>by
  have b:i<n:=by simpa [qI] using a
  refine⟨.int (lo+i),by simp[qI,b],.inl ⟨y.1,?_⟩⟩;rw[y.2];exact .int _
 stop:=λi H A a _=>by simp[rN,qI,a]
theorem nG (g:PD X e j):wJ X o e (iV j):=(DI g).mono λM H R w=>w.elim λB L T G E hd F k=>⟨B,L,T,_,E,hd,F,λr f v n q d1 b=>by
 cases u:sd r with
 | none=>rw[u] at b;exact b.elim
 | some d =>
  rw[u] at b;have d2:=d1.thaw u;have s:=d2.valAt;cases d with
  | l m=>obtain⟨a,i,rfl,_,h,y⟩:=s.lst_inv;exact .inl ⟨a,rfl,⟨i,eT.of h⟩,k _ m f [_] n q d2 Yh b⟩
  | c m=>obtain⟨a,i,rfl,h,y⟩:=s.scr_inv;exact .inl ⟨a,rfl,⟨i,h.sqL⟩,k _ m f [_] n q d2 Vi b⟩
  | t m=>obtain⟨a,i,rfl,h,y⟩:=s.tup_inv;exact .inr (.inl ⟨a,rfl,⟨i,mA.of h⟩,k _ m f [_] n q d2 (Np (.inl rfl)) b⟩)
  | con m=>obtain⟨a,i,rfl,h,y⟩:=s.con_inv;exact .inr (.inl ⟨a,rfl,⟨i,h.sqT⟩,k _ m f [_] n q d2 (Np (.inr rfl)) b⟩)
  | str z =>
   have:=s.str_inv;subst this;have b:=(show (match (if z.cps.all (·<128)=true then some (yA z) else none:Ab (Aa D)) with | some A=>G A f | none=>False) from b);by_cases x:z.cps.all (·<128)=true
   .rw[bE x] at b;exact .inr (.inr ⟨z,rfl,x,k _ _ f [] n q d2.drop Yt b⟩)
   .rw[bG x] at b;exact b.elim
  | _=>exact b.elim⟩
theorem Ax (j:Gl X "range") (l:X.mg "range" = none) (g:PD X a I) (C:starEach [a] X.env=[(false,eval a X.env)]:=by rfl) (o:vP a=true:=by rfl):wJ X J (.Call (.Name "range" p) [a] [] pos) (Te I) :=
 (xG j l (lB g lI o) C).mono λs H R c=>c.elim λB n T q h hd i k=>⟨B,n,T,_,h,hd,i,λr e v f m d1 b=>by
  cases r<;>first | exact False.elim b | skip
  rename_i d
  cases d<;>first | exact False.elim b | skip
  have:=d1.valAt.int_inv;subst this;exact⟨_,rfl,b.1,b.2.1,k _ _ e [] f m d1.drop Rg b.2.2⟩⟩
theorem Kh (C:Gl X "range") (I:X.mg "range" = none) (l:PD X a ta) (o:PD X b tb) (U:starEach [a,b] X.env=[(false,eval a X.env),(false,eval b X.env)]:=by rfl) (j:starEach [b] X.env=[(false,eval b X.env)]:=by rfl) (J:vP a=true:=by rfl) (g:vP b=true:=by rfl):wJ X tg (.Call (.Name "range" p) [a,b] [] pos) (T2 ta tb) :=
 (T3 C I (lB l (lB o lI g) J) U j).mono λG H R d=>d.elim λB A T F q hd s k=>⟨B,A,T,_,q,hd,s,λr e v D t d1 n=>⟨B,e,(r,some v)::T,_,t,d1,n,λE f u h w d2 c=>by
  split at c
  .obtain⟨x,y,z⟩:=d2.two rfl rfl;have i:=y.int_inv;have m:=z.int_inv;subst i m;exact⟨_,_,rfl,c.1,k _ _ f [] h w x Rg c.2⟩
  .exact c.elim⟩⟩
def Ks (l:uM) (g:sK) (j:pG):pG:=λf b k=>l f k λh c=>∃ Pv:Nat->Aa Sl->Prop,Pv 0 c /\
 (∀ i d a,h[i]?=some d->Pv i a->g d a λe=>j f { nx:=Pv (i+1),ct:=Pv (i+1),bk:=b.nx,rt:=b.rt } e)/\∀ a,Pv h.length a->b.nx a
theorem DS.rmE:∀ {E:mR},DS K B (L++(E++T)) H->DS K B (L++T) H
 | [],h=>h
 | x::E,h=>DS.rmE (E:=E) (DS.drop (L1:=L) (x:=x) (by simpa using h))
theorem tS {iter:Expr}{body:Aa Stmt}{o:uM}{g:sK}{j:pG}(hi:wJ X l iter o) (hg:wN X 99 l g) (I:tU X body j) (hp:PassesOwn (model X.prog X.w) X.A X.env X.xe:=by exact dB) (U:X.calm=true:=by rfl)
  (hs:∀ x,foldedSetIterable iter X.env x=pure x:=by intro _;rfl):sL X (.For l iter body [] pos) (Ks o g j) :=
 (Ap hp U hi hg I hs).mono λDn W H O=>O.elim λB ρ T De hl hd ht Q=>⟨B,ρ,T,_,hl,hd,ht,λJ F S E H1 l1 d1 Y P=>by
  obtain⟨Pv,p0,step,fin⟩:=P;refine⟨λi m c k=>m=F.length-i/\i<=F.length/\∃ a,a.length=c.length/\c.length=W.length/\DS X.K B (a.zip c++(E++T)) k/\Pv i a,⟨_,rfl,dN _,S,l1,rfl,d1,p0⟩,?_⟩;rintro i m c k ⟨rfl,aa,a,V,m2,L,pv⟩;have n:wQ X.K (Al B (eN (a.zip c++(E++T)))) k E:=λq hq=>L.ok q (by simp[hq])
  by_cases s:i<F.length
  .refine .inr ⟨Y.go i k _ s n,λf t=>∃ b,b.length=f.length/\f.length=W.length/\DS X.K B (b.zip f++(E++T)) t/\Pv (i+1) b,λf t ⟨b,q1,q2,R,q4⟩=>⟨_,(by omega:F.length-(i+1)<_),rfl,s,b,q1,q2,R,q4⟩,λx t y=>?_⟩;obtain⟨d,M,alt⟩:=Y.yld i k _ x t s n y;have d2:DS X.K B (a.zip c++(.v d,some x)::(E++T)) t:=by
    rcases alt with⟨rfl,rx⟩ | ⟨p,es,vs,N,rfl,rfl,rfl,rr⟩
    .exact L.push rx
    .exact L.tup N rr
   refine⟨B,a,E++T,d,_,V,d2,step i d a M pv,λb f H3 n1 n2 _ Z R=>⟨B,b,E++T,_,n1,Z,R,?_,?_⟩⟩
   .intro e h G u a2 D;refine⟨λz=>⟨e,u,by omega,D,z⟩,λz=>?_,λz=>⟨e,u,by omega,D,z⟩⟩;exact (Q.1 e h G u (by omega) D.rmE).1 z
   .intro r v e h G u D z;refine Q.2 r v e h G u ?_ z;have:DS X.K B ((e.zip h++[(r,some v)])++(E++T)) G:=by simpa using D
    simpa using this.rmE
  .have C:i=F.length:=by omega
   subst C;exact .inl ⟨Y.stop _ k _ rfl n,(Q.1 a c k V m2 L.rmE).1 (fin a pv)⟩⟩
def Qb (c:pP) (g:pG):pG:=λi h d=>∃ (Pv:Aa Sl->Prop) (f:Aa Sl->Nat),Pv d/\∀ d,Pv d->c i d λb e =>
 if b=true then g i { nx:=λa=>Pv a/\f a<f d,ct:=λa=>Pv a/\f a<f d,bk:=h.nx,rt:=h.rt } e else h.nx e
theorem xA {c:Expr}{body:Aa Stmt}{j:pP}{g:pG}(p:PassesOwn (model X.prog X.w) X.A X.env X.xe) (o:qV X c j) (l:tU X body g):sL X (.While c body [] pos) (Qb j g) :=
 (Uh p o l).mono λI G H t=>t.elim λB Z T C N hd ⟨Pv,x,Q,step⟩ u=>by
  refine⟨λm f y=>∃ a,m=x a/\a.length=f.length/\f.length=G.length/\DS X.K B (a.zip f++T) y/\Pv a,⟨_,Z,rfl,N,rfl,hd,Q⟩,?_⟩;rintro m f y ⟨a,rfl,O,P,M,pv⟩;refine⟨B,a,T,_,O,M,step a pv,λb q L F d1 E=>?_⟩;cases b with
  | true =>
   refine (bE rfl).mpr ⟨λh D=>∃ d,d.length=h.length/\h.length=G.length/\DS X.K B (d.zip h++T) D/\Pv d/\x d<x a,λh D ⟨d,R,S,V,W,Y⟩=>⟨_,Y,d,rfl,R,S,V,W⟩,B,q,T,_,F,d1,(bE rfl).mp E,?_,?_⟩
   .intro e i s k J n;exact⟨λz=>⟨e,k,by omega,n,z⟩,λz=>(u.1 e i s k (by omega) n).1 z,λz=>⟨e,k,by omega,n,z⟩⟩
   .exact λr v e i s k n z=>u.2 r v e i s k n z
  | false=>exact wD ((u.1 q f L F P d1).1 ((bG (by decide)).mp E))
end
def mE (B:Bs) (D:Ad) (g:Aa V):Bs:=⟨B.dk,λa=>(B.A0 a\/B.H0 a=none)/\a≠D,λa=>if a=D then some (.l g) else B.H0 a⟩
section
variable {K:kY}{R:mR}{D:Ad}
theorem zQ {R:Aa Ad}:Al (mE B D g) R a↔Al B R a/\a≠D:=by
 unfold Al mE;constructor
 .rintro ⟨c,d,b | b⟩
  .exact⟨⟨c,d,b.1⟩,b.2⟩
  .dsimp only at b;by_cases z:a=D
   .rw[bE z] at b;cases b
   .rw[bG z] at b;exact⟨⟨c,d,.inr b⟩,z⟩
 .rintro ⟨⟨c,d,b⟩,e⟩;exact⟨c,d,.inl ⟨b,e⟩⟩
theorem DS.pin (h:DS K B L H) (g:H D=none):DS K (mE B D []) L (upd H D (.l [])):=by
 obtain⟨f1,f2,d⟩:=h.free g;refine⟨λb o e n=>?_,h.dk.upd f2,h.nd,λa c=>?_,λp f=>(h.ok p f).mono (.laid g λa z n=>zQ.mpr ⟨z,n⟩) λb i o q=>by rw[iO (lT q g)];exact q⟩
 .by_cases z:b=D
  .subst z;simp only[mE,eU] at e;cases e;exact lE
  .simp only[mE,bG z] at e;rw[iO z];exact h.fr b o e n
 .have:=h.new a c;have z:a≠D:=λq=>d (q▸c)
  exact⟨by simp only[mE,bG z];exact this.1,this.2⟩
theorem DS.pinAt (h:DS K (mE B D j) L H) (g:D∉B.dk):H D=some (.l j):=h.fr D _ (by simp[mE]) g
theorem DS.pinW (h:DS K (mE B D j) L H) (g:D∉B.dk):DS K (mE B D ys') L (upd H D (.l ys')):=by
 have d:=h.pinAt g;have k:Kp (Al (mE B D j) (eN L)) (Al (mE B D ys') (eN L)) H (upd H D (.l ys')) :=
  (Kp.write (A:=Al (mE B D j) (eN L)) d rfl λz=>(zQ.mp z).2 rfl).trans (.all λa z=>zQ.mpr (zQ.mp z))
 refine⟨λb o e n=>?_,h.dk.upd g,h.nd,λa f=>?_,λp c=>(h.ok p c).mono k λb i o q=>?_⟩
 .by_cases z:b=D
  .subst z;simp only[mE,eU] at e;cases e;exact lE
  .simp only[mE,bG z] at e;rw[iO z];exact h.fr b o (by simp only[mE,bG z];exact e) n
 .have:=h.new a f;have z:a≠D:=λq=>by subst q;simp[mE] at this
  simp only[mE,bG z] at this |-;exact this
 .have:=(h.new b (sO.mpr ⟨p,c,i⟩)).1;have z:b≠D:=λw=>by subst w;simp[mE] at this
  rw[iO z];exact q
theorem DS.unpin (h:DS K (mE B D g) L H) (r:Reps K (Al (mE B D g) (eN L)) H I g) (j:B.H0 D=none) (C:D∉B.dk):DS K B ((.o (.l I),some (.ref D))::L) H:=by
 have k:=h.pinAt C;have i:D∉eN L:=λz=>by have:=(h.new D z).1;simp[mE] at this
 have c:eN ((Sl.o (.l I),some (V.ref D))::L)=D::eN L:=rfl;have al:∀ a,Al (mE B D g) (eN L) a->Al B (D::eN L) a:=λa z=>by
  obtain⟨d,s⟩:=zQ.mp z;exact⟨d.1,λq=>(aF.mp q).elim s d.2.1,d.2.2⟩
 refine⟨λb o e n=>?_,h.dk,by rw[c];exact bW.mpr ⟨i,h.nd⟩,λa f=>?_,λp m=>?_⟩
 .have z:b≠D:=λq=>by subst q;rw[j] at e;cases e
  exact h.fr b o (by simp only[mE,bG z];exact e) n
 .rw[c] at f;rcases aF.mp f with q | q
  .subst q;exact⟨j,C⟩
  .have:=h.new a q;have z:a≠D:=λw=>i (w▸q)
   simp only[mE,bG z] at this;exact this
 .rw[c];rcases aF.mp m with q | q
  .subst q;exact⟨D,rfl,g,k,r.mono (.all al)⟩
  .exact (h.ok p q).mono (.all al) λ_ _ _ w=>w
theorem DS.lend1 {g:Aa Sl}{j:St}(l:g.length=j.length) (h:DS K B (g.zip j++R) H) (i:Nat):DS K B ((g.set i .n).zip j++((g[i]?).getD .n,(j[i]?).join)::R) H:=by
 by_cases d:i<g.length
 .obtain⟨b,y,c,f,_,t,a⟩:=uA l (aG d);rw[t] at h;have k:DS K B (b++(g[i],y)::(c++R)) H:=by simpa using h
  have m:=k.front;have q:DS K B (((g[i],y)::b)++(.n,y)::(c++R)) H:=DS.pushN (L1:=(g[i],y)::b) (by simpa using m) y;have e:=a .n y;rw[yH f] at e;rw[e,aG d,f];have s:DS K B ((g[i],y)::((b++(Sl.n,y)::c)++R)) H:=by simpa using q
  exact s.mid
 .rw[gF (by omega),eK (by omega),eK (by omega)];exact h.pushN _
theorem DS.back1 {g:Aa Sl}{l:St}{s:Sl}{y:Ab V}(o:g.length=l.length) (h:DS K B (g.zip l++(s,y)::R) H){i:Nat}(j:(l[i]?).join=y):DS K B ((g.set i s).zip l++R) H:=by
 by_cases q:i<g.length
 .obtain⟨d,a,f,c,_,t,b⟩:=uA o (aG q);rw[c] at j;have j:a=y:=j;subst j;have e:=b s a;rw[yH c] at e;rw[e];rw[t] at h;have k:DS K B (d++(f++(s,a)::R)) H:=DS.drop (L1:=d) (x:=(g[i],a)) (by simpa using h);have m:DS K B ((d++f)++(s,a)::R) H:=by simpa using k
  have n:DS K B ((s,a)::(d++(f++R))) H:=by simpa using m.front
  simpa using n.mid
 .rw[gF (by omega)];exact h.drop
def nK (g:Aa Nat) (j:Aa Sl):Aa Sl:=g.map λi=>(j[i]?).getD .n
def pV (g:Aa Nat) (j:St):St:=g.map λi=>(j[i]?).join
def nY (g:Aa Nat) (j:Aa Sl):Aa Sl:=g.foldl (λj i=>j.set i .n) j
def oP:Aa Nat->Aa Sl->Aa Sl->Aa Sl
 | i::a,s::c,b=>oP a c (b.set i s)
 | _,_,b=>b
theorem Jh:∀ (g:Aa Nat) (j:Aa Sl),(nY g j).length=j.length
 | [],_=>rfl
 | i::g,j=>by show (nY g (j.set i .n)).length=_;rw[Jh g,bQ]
theorem Ko:∀ (g:Aa Nat) (l:Aa Sl) (j:Aa Sl),(oP g l j).length=j.length
 | [],_,_=>rfl
 | _::_,[],_=>rfl
 | i::g,s::l,j=>(Ko g l (j.set i s)).trans (bQ ..)
theorem DS.lend:∀ {caps:Aa Nat}{g:Aa Sl}{R:mR},caps.Nodup->g.length=l.length->DS K B (g.zip l++R) H->DS K B ((nY caps g).zip l++((nK caps g).zip (pV caps l)++R)) H
 | [],g,R,_,a,h=>h
 | i::caps,g,R,d,a,h=>by
  obtain⟨f,k⟩:=bW.mp d;have b:=DS.lend (caps:=caps) (R:=((g[i]?).getD .n,(l[i]?).join)::R) k (by rw[bQ];exact a) (h.lend1 a i);have e:nK caps (g.set i .n)=nK caps g:=gI λj c=>by rw[eP (λz:i=j=>f (by rw[z];exact c))]
  rw[e] at b;show DS K B ((nY caps (g.set i .n)).zip l++((((g[i]?).getD .n,(l[i]?).join)::(nK caps g).zip (pV caps l))++R)) H;refine b.perm (jP _ ?_);rw[cL];exact jT
theorem DS.back:∀ {caps:Aa Nat}{cs:Aa Sl}{g:Aa Sl}{R:mR},cs.length=caps.length->g.length=j.length->DS K B (g.zip j++(cs.zip (pV caps j)++R)) H->DS K B ((oP caps cs g).zip j++R) H
 | [],[],g,R,_,a,h=>h
 | [],_::_,_,_,e,_,_=>by simp at e
 | _::_,[],_,_,e,_,_=>by simp at e
 | i::caps,s::cs,g,R,e,a,h=>by
  have b:DS K B (g.zip j++(s,(j[i]?).join)::(cs.zip (pV caps j)++R)) H:=h;exact DS.back (caps:=caps) (cs:=cs) (by simpa using e) (by rw[bQ];exact a) (b.back1 a rfl)
theorem Ww (g:Aa Nat):∀ (o:Aa Sl) (l:Aa Sl),o.length=g.length->g.Nodup->oP g o (nY g l)=oP g o l:=by
 have ext:∀ (g:Aa Nat) (o:Aa Sl) (l a:Aa Sl),o.length=g.length->l.length=a.length->(∀ j,j∉g->l[j]?=a[j]?)->oP g o l=oP g o a:=by
  intro g;induction g with
  | nil=>intro o l a _ _ h;cases o<;>exact kP λj=>h j bJ
  | cons i g c =>
   intro o l a e d h;cases o with
   | nil=>simp at e
   | cons s o =>
    show oP g o (l.set i s)=oP g o (a.set i s);refine c o _ _ (by simpa using e) (by simp[d]) λj b=>?_
    by_cases z:j=i
    .subst z;rw[List.getElem?_set,List.getElem?_set,d,bE rfl,bE rfl]
    .rw[eP (cQ z),eP (cQ z)];exact h j λq=>(aF.mp q).elim z b
 intro o l e _;refine ext g o _ _ e (Jh g l) λj b=>?_
 have:∀ (g:Aa Nat) (l:Aa Sl),j∉g->(nY g l)[j]?=l[j]?:=by
  intro g;induction g with
  | nil=>intro l _;rfl
  | cons i g c =>
   intro l b;show (nY g (l.set i .n))[j]?=_;rw[c _ (λz=>b (aK _ z)),eP (λz=>b (by simp[z]))]
 exact this g l b
theorem Nz:∀ {g:Aa L2.D}{j:Aa V},g.length=j.length->(∀ p∈oE g j,rX K A H p.1 p.2)->Reps K A H g j
 | [],[],_,_=>.nil
 | [],_::_,e,_=>by simp at e
 | _::_,[],e,_=>by simp at e
 | c::g,y::j,e,key=>by
  obtain⟨u,b,r⟩:=key (.v c,some y) (by simp[oE]);cases b;exact .cons r (Nz (by simpa using e) λp a=>key p (by simp only[oE,cY,aY,aF] at a |-;exact .inr a))
theorem DS.forget {ρ:Aa Sl}(n:Nat) (g:ρ.length=σ.length) (j:n<=ρ.length) (h:DS K B (ρ.zip σ++R) H):DS K B ((List.replicate n Sl.n++ρ.drop n).zip σ++R) H:=by
 induction n generalizing ρ σ R with
 | zero=>simpa using h
 | succ n c =>
  cases ρ with
  | nil=>simp at j
  | cons r ρ =>
   cases σ with
   | nil=>simp at g
   | cons y σ =>
    have a:DS K B (ρ.zip σ++R) H:=DS.drop (L1:=[]) (x:=(r,y)) h;have b:=c (ρ:=ρ) (σ:=σ) (R:=R) (by simpa using g) (by simpa using j) a;rw[cB,cL,List.drop_succ_cons,cY];exact DS.pushN (L1:=[]) b y
end
def Gs:pP:=λ_ b a=>a true b
def wA (n:Nat) (j:Aa Nat) (I:uM) (g:sK) (C:pP) (p:mB):mB:=λk u t=>I k u λs f=>∃ Pv:Nat->Aa D->Aa Sl->Prop,Pv 0 [] (nK j f) /\
 (∀ i d e a,s[i]?=some d->a.length=j.length->Pv i e a->g d (List.replicate n Sl.n++a) λm=>C k m λb h=>if b=true then p k h λr q=>match sd r with
  | some c=>e.length<100000/\Pv (i+1) (e++[c]) (q.drop n)
  | none=>False
  else Pv (i+1) e (h.drop n)) /\
 ∀ e a,a.length=j.length->Pv s.length e a->t (.o (.l e)) (oP j a f)
section
variable {X:Cx}
theorem Ke:uQ X [] (tG X.K Gs):=λa s f H Q I b=>b.elim λB e T h c hd d k=>Eb a s f H Q I (k true e H c hd d)
theorem Tx (h:qV X c t):uQ X [c] (tG X.K t):=Qh h
theorem Zl {T:Aa Af}{C:Aa Nat}{g:sK}{tt:pP}{te:mB}{K:kY}(ac:C.Nodup){σ:St}{H1:Hp}{Q:VK}{B:Bs}{I:Aa Sl}{Tm:mR}{Φ:Sl->Aa Sl->Prop}{J:It}{ds:Aa L2.D}{D:Ad}(l1:I.length=σ.length) (d1:DS K B (I.zip σ++Tm) H1)
  (hJ:∀ i U La M H,(∀ q∈Tm,q∈M)->DS K (mE B D U) (La++M) H->(i<ds.length->J.go i H)/\(i=ds.length->J.stop i H)/\∀ x H2,i<ds.length->J.yld i H x H2->∃ d,ds[i]?=some d/\DS K (mE B D U) (La++(.v d,some x)::M) H2)
  (ag:∃ Pv:Nat->Aa L2.D->Aa Sl->Prop,Pv 0 [] (nK C I) /\ (∀ i d U cs,ds[i]?=some d->cs.length=C.length->Pv i U cs->g d (List.replicate T.length Sl.n++cs) λaf=>tt B.dk af λb ab=>if b=true then te B.dk ab λr aa=>match sd r with
    | some c=>U.length<100000/\Pv (i+1) (U++[c]) (aa.drop T.length)
    | none=>False
    else Pv (i+1) U (ab.drop T.length)) /\
   ∀ U cs,cs.length=C.length->Pv ds.length U cs->Φ (.o (.l U)) (oP C cs I))
  (k:∀ r ae v H',ae.length=σ.length->DS K B (ae.zip σ++(r,some v)::Tm) H'->Φ r ae->Q v H') (hD:H1 D=none):Az T C J (dG K T.length g) (tG K tt) (dE K te) σ H1 Q D:=by
 obtain⟨Pv,p0,step,fin⟩:=ag;obtain⟨f1,f2,f3⟩:=d1.free hD;refine⟨λi m U s H'=>m=ds.length-i/\i<=ds.length/\s.length=T.length+C.length/\(∀ j,T.length<=j->s[j]?=(qH T C σ)[j]?)/\∃ (h:Aa L2.D) (cs:Aa Sl),cs.length=C.length/\h.length=U.length /\ DS K (mE B D U) ((List.replicate T.length Sl.n++cs).zip s++((nY C I).zip σ++(oE h U++Tm))) H'/\Pv i h cs,?_,?_⟩
 .refine⟨_,rfl,dN _,by simp[qH],λ_ _=>rfl,[],nK C I,by simp[nK],rfl,?_,p0⟩;have h2:=(d1.lend ac l1).pin hD;have e:(List.replicate T.length Sl.n++nK C I).zip (qH T C σ)=List.replicate T.length (Sl.n,none)++(nK C I).zip (pV C σ):=by
   have:∀ n,(List.replicate n Sl.n++nK C I).zip (List.replicate n none++pV C σ)=List.replicate n (Sl.n,none)++(nK C I).zip (pV C σ):=by
    intro n;induction n with
    | zero=>rfl
    | succ n ih=>simp only[cB,cL,cY,ih]
   have W:qH T C σ=List.replicate T.length none++pV C σ:=by unfold qH pV;rw[List.map_const']
   rw[W];exact this _
  rw[e];have h3:DS K (mE B D []) ((nK C I).zip (pV C σ)++((nY C I).zip σ++Tm)) (upd H1 D (.l [])):=h2.perm (by
   rw[<- bI,<- bI (as:=(nK C I).zip (pV C σ))];exact List.perm_append_comm.append_right _)
  have:∀ n,DS K (mE B D []) (List.replicate n (Sl.n,none)++((nK C I).zip (pV C σ)++((nY C I).zip σ++Tm))) (upd H1 D (.l [])):=by
   intro n;induction n with
   | zero=>exact h3
   | succ n ih=>rw[cB];exact DS.pushN (L1:=[]) ih none
  have e3:oE ([]:Aa L2.D) ([]:Aa V)=[]:=rfl;rw[e3]
  simpa using this T.length
 .rintro i m U s H' ⟨rfl,hi,ls,fs,h,cs,G,z,N,pv⟩;obtain⟨j1,j2,j3⟩:=hJ i U _ _ H' (λq hq=>by simp[hq]) N;by_cases w:i<ds.length
  .refine .inr ⟨j1 w,λf v R=>f.length=T.length+C.length/\(∀ j,T.length<=j->f[j]?=(qH T C σ)[j]?)/\U.length<100000/\∃ (c:L2.D) (aa:Aa Sl),aa.length=f.length/\DS K (mE B D U) (aa.zip f++(.v c,some v)::((nY C I).zip σ++(oE h U++Tm))) R/\Pv (i+1) (h++[c]) (aa.drop T.length),λf P=>f.length=T.length+C.length/\(∀ j,T.length<=j->f[j]?=(qH T C σ)[j]?)/\∃ aa:Aa Sl,aa.length=f.length/\DS K (mE B D U) (aa.zip f++((nY C I).zip σ++(oE h U++Tm))) P/\Pv (i+1) h (aa.drop T.length),?_,?_,λx H2 y=>?_⟩
   .rintro f v R ⟨q1,q2,q3,c,aa,A,t,q6⟩;refine⟨t.pinAt f2,aW q3 (by decide),ds.length-(i+1),by omega,rfl,w,q1,q2,h++[c],aa.drop T.length,by rw[dH];omega,by simp[z],?_,q6⟩;have w1:=(t.pinW (ys':=U++[v]) f2).forget T.length A (by omega);refine w1.perm (jP _ ?_);have ev:oE (h++[c]) (U++[v])=oE h U++[(.v c,some v)]:=by unfold oE;rw[List.zip_append z,List.map_append];rfl
    rw[ev];have p1:((Sl.v c,some v)::((nY C I).zip σ++(oE h U++Tm))).Perm ((nY C I).zip σ++(oE h U++((Sl.v c,some v)::Tm))):=by
     rw[<- bI,<- bI (as:=(nY C I).zip σ)];exact jT.symm
    simpa using p1
   .rintro f P ⟨q1,q2,aa,A,t,q6⟩;exact⟨ds.length-(i+1),by omega,rfl,w,q1,q2,h,aa.drop T.length,by rw[dH];omega,z,t.forget T.length A (by omega),q6⟩
   .obtain⟨d,Z,d2⟩:=j3 x H2 w y;refine⟨mE B D U,_,_,d,_,by simp[G,ls],d2,step i d h cs Z G pv,λaf f H3 n1 n2 fr d3 q3=>⟨mE B D U,af,_,_,n1,d3,q3,λb ab P m1 d4 A=>?_⟩⟩;have F:∀ j,T.length<=j->f[j]?=(qH T C σ)[j]?:=λj O=>(fr j O).trans (fs j O)
    cases b with
    | false=>exact wD ⟨by omega,F,ab,m1,d4,(bG (by decide)).mp A⟩
    | true =>
     refine (bE rfl).mpr ⟨mE B D U,ab,_,_,m1,d4,(bE rfl).mp A,λr aa v R m4 d5 t=>?_⟩;cases S:sd r with
     | none=>rw[S] at t;exact t.elim
     | some c =>
      rw[S] at t;exact⟨by omega,F,by rw[<- z];exact t.1,c,aa,m4,d5.thaw S,t.2⟩
  .have ei:i=ds.length:=by omega
   subst ei;refine .inl ⟨j2 rfl,?_⟩;have es:s=s.take T.length++pV C σ:=by
    apply kP;intro j;by_cases O:j<T.length
    .rw[eY (by rw[bT];omega),gC O]
    .rw[cS (by rw[bT];omega),bT,fs j (by omega)];have W:qH T C σ=List.replicate T.length none++pV C σ:=by unfold qH pV;rw[List.map_const']
     rw[W,cS (by rw[eZ];omega),eZ]
     congr 1
     omega
   have ez:(List.replicate T.length Sl.n++cs).zip s=(List.replicate T.length Sl.n).zip (s.take T.length)++cs.zip (pV C σ):=by
    conv=>lhs;rw[es]
    exact kC (by rw[eZ,bT];omega)
   have rr:Reps K (Al (mE B D U) (eN ((oP C cs (nY C I)).zip σ++Tm))) H' h U/\DS K (mE B D U) ((oP C cs (nY C I)).zip σ++Tm) H':=by
    have g1:DS K (mE B D U) (cs.zip (pV C σ)++((nY C I).zip σ++(oE h U++Tm))) H':=by
     rw[ez,bI] at N;exact DS.rmE (L:=[]) (E:=(List.replicate T.length Sl.n).zip (s.take T.length)) N
    have g2:DS K (mE B D U) ((nY C I).zip σ++(cs.zip (pV C σ)++(oE h U++Tm))) H':=g1.perm (by
     rw[<- bI,<- bI (as:=(nY C I).zip σ)];exact List.perm_append_comm.append_right _)
    have g3:=g2.back G (by rw[Jh];exact l1);have Y:DS K (mE B D U) ((oP C cs (nY C I)).zip σ++(oE h U++Tm)) H':=g3;refine⟨?_,Y.rmE⟩;have er:eN ((oP C cs (nY C I)).zip σ++(oE h U++Tm))=eN ((oP C cs (nY C I)).zip σ++Tm):=by
     have:eN (oE h U)=[]:=by
      refine gL.mpr λa ha=>?_
      obtain⟨q,hq,e⟩:=sO.mp ha;obtain⟨p,_,rfl⟩:=aD.mp hq;cases e
     rw[pY,pY,pY,this,kA]
    have key:∀ p∈oE h U,rX K (Al (mE B D U) (eN ((oP C cs (nY C I)).zip σ++Tm))) H' p.1 p.2:=λp hp=>by
     have:=Y.ok p (by simp[hp]);rw[er] at this;exact this
    clear g1 g2 g3 Y er N ez es;revert key z;generalize Al (mE B D U) (eN ((oP C cs (nY C I)).zip σ++Tm))=AA;intro z key;exact Nz z key
   have u:=DS.unpin rr.2 rr.1 f1 f2;rw[Ww C cs I G ac] at u;exact k _ _ _ H' (by rw[Ko];exact l1) u.mid (fin h cs G pv)
theorem Pu {K:kY}(o:j.Nodup) (h:dE K (wA T.length j ι g U I) C H Q) :
  C8 T j (dI K ι) (dG K T.length g) (tG K U) (dE K I) C H Q:=by
 obtain⟨B,R,Tm,Φ,A,hd,G,k⟩:=h;refine⟨B,R,Tm,_,A,hd,G,λJ W S E V L d1 Y z D u=>Zl o (Tm:=E++Tm) L d1 (λi P s M H w d=>?_) z (λr c v m l d h=>k r c v m l (by
  have:DS K B ((c.zip C++[(r,some v)])++(E++Tm)) m:=by simpa using d
  simpa using this.rmE) h) u⟩
 have a:wQ K (Al (mE B D P) (eN (s++M))) H E:=λq F=>d.ok q (by simp[w q (by simp[F])])
 refine⟨λb=>Y.go i H _ b a,λb=>Y.stop i H _ b a,λx n b y=>?_⟩;obtain⟨t,e,alt⟩:=Y.yld i H _ x n b a y;refine⟨t,e,?_⟩;rcases alt with⟨rfl,O⟩ | ⟨p,Z,vs,f,rfl,rfl,rfl,N⟩
 .exact d.push O
 .exact d.tup f N
theorem nV {iter:Expr}(T o:Aa Af) (r:Aa Nat) (hi:wJ X tg iter ι)
  (hg:∀ p l C I J,wN (sW X (T++o) j I C p l J) T.length tg g)
  (he:∀ p l C I J,PD (sW X (T++o) j I C p l J) aa te)
  (ht:∀ p l C I J,uQ (sW X (T++o) j I C p l J) ab (tG X.K tt):=by exact λ_ _ _ _ _=>Ke) (hc:X.calm=true:=by rfl) (hk:j.kind = .function:=by rfl) (ho:E4 X.N X.env.kindOf j T o r=true:=by rfl) (U:r.Nodup:=by decide) (hs:∀ x,foldedSetIterable iter X.env x=pure x:=by intro _;rfl):PD X (.ListComp aa [⟨tg,iter,ab,0⟩] j pos) (wA T.length r ι g tt te) :=
 (zC T o r hc hi hk ho hg ht he hs).mono λ_ _ _ h=>Pu U h
theorem Jc (i:Nat){iter:Expr}(T o:Aa Af) (I:Aa Nat) (hN:X.N.Nodup) (hi:wJ X tg iter ι) (hg:∀ p l C J fp,wN (sW X (T++o) j J C p l fp) T.length tg g)
  (he:∀ p l C J fp,PD (sW X (T++o) j J C p l fp) U te)
  (ht:∀ p l C J fp,uQ (sW X (T++o) j J C p l fp) ab (tG X.K tt):=by exact λ_ _ _ _ _=>Ke) (hc:X.calm=true:=by rfl) (hk:j.kind = .function:=by rfl) (ho:E4 X.N X.env.kindOf j T o I=true:=by rfl) (af:X.N[i]?=some x:=by rfl) (hx:uI X.env.scope x:=by first | exact Or.inl rfl | exact Or.inr rfl) (aa:I.Nodup:=by decide)
  (ag:swapsWith (.ListComp U [⟨tg,iter,ab,0⟩] j pos) (some (.Name x ac)) ae.line X.env=pure true:=by rfl)
  (hs:∀ x,foldedSetIterable iter X.env x=pure x:=by intro _;rfl)
  (hf:X.fn x=true\/X.env.scope.names.lookup x=some .local:=by first | exact .inl rfl | exact .inr rfl | assumption) :
  sL X (.Assign [.Name x ac] (.ListComp U [⟨tg,iter,ab,0⟩] j pos) ae) (qR i (wA T.length I ι g tt te)) :=
 (Sz T o I hN af hx hc hi hk ho hg ht he ag hs hf).mono λn q H a=>a.elim λB h Tm m e hd ht f=>Pu aa ⟨B,h,Tm,_,e,hd,ht,λr k v c b d1 d=>(f.1 _ _ c (by rw[bQ,bQ];exact b) (bQ ..) (d1.assign b i)).1 d⟩
end
section
variable {X:Cx}{K:kY}
theorem rJ (h:Peeks K A H [d] g):∃ x,g=[x]/\mG K A H d x:=by
 cases h with | cons h r=>cases r;exact⟨_,rfl,h⟩
theorem zF (h:Peeks K A H [d,e] j):∃ x y,j=[x,y]/\mG K A H d x/\mG K A H e y:=by
 cases h with | cons h r=>cases r with | cons g r=>cases r;exact⟨_,_,rfl,h,g⟩
def BU:D->Ab Nat
 | .l a=>some a.length
 | .t a=>some a.length
 | .con a=>some a.length
 | .c a=>some a.length
 | .str z=>some z.length
 | .k b=>some b.length
 | _=>none
def Si:OC:=λa b=>match a with
 | [d]=>E9 d=true/\∃ n,BU d=some n/\b (.v (.int n))
 | _=>False
def M3 (K:kY):Aa V->Hp->VK->Prop:=λc H Q=>(∃ p d,c=[.ref p]/\(eT K H p d\/mA K H p d)/\Q (.int d.length) H)\/(∃ z,c=[.str z]/\z.length<=sizeLine/\Q (.int z.length) H)\/∃ a b,c=[V.ref a]/\H a=some (.k b)/\Q (.int b.length) H
theorem nM:mK X (.builtin "len") (M3 X.K):=vG.or (Oc.or CD)
theorem nN:qF K (M3 K) Si:=by
 intro B L H m t u Q hd q i k;cases m with
 | nil=>exact False.elim i
 | cons d m =>
 cases m with
 | cons _ _=>exact False.elim i
 | nil =>
 obtain⟨x,rfl,f⟩:=rJ q;obtain⟨s,n,c,i⟩:=i;have fin:Q (.int n) H:=k _ _ H i (hd.pushF (.int _));cases d<;>first | (cases c;done) | skip
 .cases c;have:=f.str_inv;subst this;exact .inr (.inl ⟨_,rfl,xP (eI s),fin⟩)
 .cases c;obtain⟨a,b,rfl,h,r⟩:=f.tup_inv;exact .inl ⟨a,b,rfl,.inr (mA.of h),by rw[<- r.length];exact fin⟩
 .cases c;obtain⟨a,b,rfl,h,r⟩:=f.lst_inv;exact .inl ⟨a,b,rfl,.inl (eT.of h),by rw[<- r.length];exact fin⟩
 .cases c;obtain⟨a,b,rfl,h,e,r⟩:=f.dK_inv;refine .inr (.inr ⟨a,b,rfl,h,?_⟩);have:=eA List.length e;rw[aB,aB] at this;rw[<- this];exact fin
 .cases c;obtain⟨a,b,rfl,h,r⟩:=f.scr_inv;exact .inl ⟨a,b,rfl,.inl h.sqL,by rw[<- r.length];exact fin⟩
 .cases c;obtain⟨a,b,rfl,h,r⟩:=f.con_inv;exact .inl ⟨a,b,rfl,.inr h.sqT,by rw[<- r.length];exact fin⟩
noncomputable def sJ:Aa D->Ab (Aa Int)
 | []=>some []
 | .int i::a=>(sJ a).map (i::·)
 | _=>none
theorem yU:∀ (g:Aa Int),sJ (g.map D.int)=some g
 | []=>rfl
 | n::g=>by
  show (sJ (g.map D.int)).map (n::·)=_;rw[yU g];rfl
theorem xW (h:sJ j=some l) (g:Reps K A H j o):o=l.map V.int:=by
 induction j generalizing l o with
 | nil=>cases g;cases h;rfl
 | cons d j b =>
  cases g with
  | cons r g =>
  cases d with
  | int i =>
   obtain⟨c,a,rfl⟩:=cC.mp h;rw[r.int_inv,b a g];rfl
  | _=>cases h
def HE:OC:=λb d=>match b with
 | [.l c]=>∃ a,sJ c=some a/\d (.v (.int a.sum))
 | _=>False
def I0:OC:=λd c=>match d with
 | [.l e]=>∃ b,sJ e=some b/\b≠[]/\∀ m:Int,m∈b->(∀ a∈b,m<=a)->c (.v (.int m))
 | [.int i,.int j]=>∀ m:Int,(m=i\/m=j)->m<=i->m<=j->c (.v (.int m))
 | _=>False
def AY:OC:=λd c=>match d with
 | [.l e]=>∃ b,sJ e=some b/\b≠[]/\∀ m:Int,m∈b->(∀ a∈b,a<=m)->c (.v (.int m))
 | [.int i,.int j]=>∀ m:Int,(m=i\/m=j)->i<=m->j<=m->c (.v (.int m))
 | _=>False
def Gz (K:kY):Aa V->Hp->VK->Prop:=λc H Q=>(∃ (p:Ad) (b:Aa Int),c=[.ref p]/\eT K H p (b.map V.int)/\b≠[]/\∀ m:Int,m∈b->(∀ a∈b,m<=a)->Q (.int m) H)\/∃ i j,c=[.int i,.int j]/\Q (.int (if j<i then j else i)) H
def O0 (K:kY):Aa V->Hp->VK->Prop:=λc H Q=>(∃ (p:Ad) (b:Aa Int),c=[.ref p]/\eT K H p (b.map V.int)/\b≠[]/\∀ m:Int,m∈b->(∀ a∈b,a<=m)->Q (.int m) H)\/∃ i j,c=[.int i,.int j]/\Q (.int (if j>i then j else i)) H
theorem CA (g:X.calm=true):mK X (.builtin "min") (Gz X.K):=(Ul g).or (K0 g)
theorem FC (g:X.calm=true):mK X (.builtin "max") (O0 X.K):=(CB g).or (GB g)
theorem Xb:qF K (Gz K) I0:=by
 intro B L H c A D Q hd n b k;cases c with
 | nil=>exact False.elim b
 | cons d c =>
 cases d<;>first | exact False.elim b | skip
 .cases c with
  | nil=>exact False.elim b
  | cons e c =>
  cases e<;>first | exact False.elim b | skip
  cases c with
  | cons _ _=>exact False.elim b
  | nil =>
  obtain⟨x,y,rfl,f,py⟩:=zF n;have:=f.int_inv;have:=py.int_inv;subst_vars
  rename_i i j
  refine .inr ⟨_,_,rfl,?_⟩;by_cases z:j<i
  .rw[bE z];exact k _ _ H (b _ (.inr rfl) (by omega) (by omega)) (hd.pushF (.int _))
  .rw[bG z];exact k _ _ H (b _ (.inl rfl) (by omega) (by omega)) (hd.pushF (.int _))
 .cases c with
  | cons _ _=>exact False.elim b
  | nil =>
  obtain⟨x,rfl,f⟩:=rJ n;obtain⟨v,u,q,b⟩:=b;obtain⟨a,w,rfl,h,r⟩:=f.lst_inv;rw[xW u r] at h;exact .inl ⟨a,v,rfl,eT.of h,q,λm s t=>k _ _ H (b m s t) (hd.pushF (.int _))⟩
theorem R8:qF K (O0 K) AY:=by
 intro B L H c A D Q hd n b k;cases c with
 | nil=>exact False.elim b
 | cons d c =>
 cases d<;>first | exact False.elim b | skip
 .cases c with
  | nil=>exact False.elim b
  | cons e c =>
  cases e<;>first | exact False.elim b | skip
  cases c with
  | cons _ _=>exact False.elim b
  | nil =>
  obtain⟨x,y,rfl,f,py⟩:=zF n;have:=f.int_inv;have:=py.int_inv;subst_vars
  rename_i i j
  refine .inr ⟨_,_,rfl,?_⟩;by_cases z:j>i
  .rw[bE z];exact k _ _ H (b _ (.inr rfl) (by omega) (by omega)) (hd.pushF (.int _))
  .rw[bG z];exact k _ _ H (b _ (.inl rfl) (by omega) (by omega)) (hd.pushF (.int _))
 .cases c with
  | cons _ _=>exact False.elim b
  | nil =>
  obtain⟨x,rfl,f⟩:=rJ n;obtain⟨v,u,q,b⟩:=b;obtain⟨a,w,rfl,h,r⟩:=f.lst_inv;rw[xW u r] at h;exact .inl ⟨a,v,rfl,eT.of h,q,λm s t=>k _ _ H (b m s t) (hd.pushF (.int _))⟩
def Nw:D->Ab (Aa D)
 | .l a=>some a
 | .t a=>some a
 | .con a=>some a
 | .c a=>some a
 | _=>none
theorem Yj (h:Nw d=some j) (p:mG K A H d x):∃ a g,x = .ref a/\(eT K H a g\/mA K H a g)/\Reps K A H j g:=by
 cases d<;>cases h
 .obtain⟨a,g,rfl,h,r⟩:=p.tup_inv;exact⟨a,g,rfl,.inr (mA.of h),r⟩
 .obtain⟨a,g,rfl,h,r⟩:=p.lst_inv;exact⟨a,g,rfl,.inl (eT.of h),r⟩
 .obtain⟨a,g,rfl,h,r⟩:=p.scr_inv;exact⟨a,g,rfl,.inl h.sqL,r⟩
 .obtain⟨a,g,rfl,h,r⟩:=p.con_inv;exact⟨a,g,rfl,.inr h.sqT,r⟩
def ET:OC:=λb c=>match b with
 | [d]=>∃ a,Nw d=some a/\c (.o (.l a))
 | _=>False
theorem Av:qF K (λg H Q=>∃ p j,g=[.ref p]/\(eT K H p j\/mA K H p j)/\∀ l,H l=none->Q (.ref l) (upd H l (.l j))) ET:=by
 intro B L H c g q Q hd f b k;cases c with
 | nil=>exact False.elim b
 | cons d c =>
 cases c with
 | cons _ _=>exact False.elim b
 | nil =>
 obtain⟨x,rfl,m⟩:=rJ f;obtain⟨g,i,b⟩:=b;obtain⟨a,n,rfl,h,r⟩:=Yj i m;exact⟨a,n,rfl,h,λl e=>k _ _ _ b (hd.lstF e r)⟩
def E7:OC:=λc b=>match c with
 | [.l a]=>b (.v (.t a))
 | [.t a]=>b (.v (.t a))
 | _=>False
theorem pH:qF K (λj H Q=>∃ p g,j=[.ref p]/\((eT K H p g/\∀ l,H l=none->Q (.ref l) (upd H l (.t g)))\/(mA K H p g/\Q (.ref p) H))) E7:=by
 intro B L H e j q Q hd m b k;cases e with
 | nil=>exact False.elim b
 | cons d e =>
 cases d<;>first | exact False.elim b | skip<;>cases e<;>first | exact False.elim b | skip
 .obtain⟨x,rfl,c⟩:=rJ m;have f:=c;obtain⟨a,i,rfl,h,r⟩:=c.tup_inv;exact⟨a,i,rfl,.inr ⟨mA.of h,k _ _ _ b (hd.pushF f)⟩⟩
 .obtain⟨x,rfl,c⟩:=rJ m;obtain⟨a,i,rfl,h,r⟩:=c.lst_inv;exact⟨a,i,rfl,.inl ⟨eT.of h,λl n=>k _ _ _ b (hd.tupF n r)⟩⟩
def wB:Aa D->Ab (Aa (hI×D))
 | []=>some []
 | .t [k,d]::a=>match qU k,wB a with
  | some k,some r=>some ((k,d)::r)
  | _,_=>none
 | _=>none
theorem Mm {l:Type}{f:l->D}{g:l->hI×D}(h:∀ x,∃ k,f x = .t [k,(g x).2]/\qU k=some (g x).1):∀ j:Aa l,wB (j.map f)=some (j.map g)
 | []=>rfl
 | x::j=>by
  obtain⟨k,a,b⟩:=h x;rw[aY,a];show (match qU k,wB (j.map f) with | some k,some r=>some ((k,(g x).2)::r) | _,_=>none)=_;rw[b,Mm h j];rfl
def qY (g more:Aa (hI×D)):Aa (hI×D):=more.foldl (λa b=>qZ a b.1 b.2) g
theorem Ub (h:wB l=some j) (o:Reps K A H l C):∃ (p:Aa Ad) (g:Aa (hI×V)),C=p.map V.ref/\A7 H p g/\j.map (·.1)=g.map (·.1)/\Reps K A H (j.map (·.2)) (g.map (·.2)):=by
 induction l generalizing j C with
 | nil=>cases o;cases h;exact⟨[],[],rfl,.nil,rfl,.nil⟩
 | cons d l t =>
  cases o with
  | cons r o =>
  cases d<;>first | (cases h;done) | skip
  rename_i x
  rcases x with _ | ⟨k,_ | ⟨e,_ | ⟨_,_⟩⟩⟩<;>first | (cases h;done) | skip
  .have h:=(show (match qU k,wB l with | some k,some r=>some ((k,e)::r) | _,_=>none)=some j from h);cases c:qU k with
   | none=>rw[c] at h;cases h
   | some u =>
    cases f:wB l with
    | none=>rw[c,f] at h;cases h
    | some y =>
     rw[c,f] at h;cases h;obtain⟨a,z,rfl,s,b⟩:=r.tup_inv;obtain⟨p,g,i,m,n,q⟩:=t f o;cases b with
     | cons v b =>
      cases b with
      | cons w b =>
       cases b;have:=Bd c v.peek;subst this;exact⟨a::p,(u,_)::g,by rw[i];rfl,.cons s m,by rw[aY,aY,n],.cons w q⟩
theorem C4:∀ {more:Aa (hI×D)}{mv:Aa (hI×V)}{kvs:Aa (hI×D)}{vs:Aa (hI×V)},more.map (·.1)=mv.map (·.1)->Reps K A H (more.map (·.2)) (mv.map (·.2))->kvs.map (·.1)=vs.map (·.1)->Reps K A H (kvs.map (·.2)) (vs.map (·.2)) ->
  (qY kvs more).map (·.1)=(pC vs mv).map (·.1)/\Reps K A H ((qY kvs more).map (·.2)) ((pC vs mv).map (·.2))
 | [],[],_,_,_,_,e,r=>⟨e,r⟩
 | [],_::_,_,_,e,_,_,_=>by simp at e
 | _::_,[],_,_,e,_,_,_=>by simp at e
 | (k,d)::more,(j,v)::mv,kvs,vs,a,b,e,r=>by
  simp only[aY,hV] at a;obtain⟨rfl,a⟩:=a;cases b with
  | cons h b =>
   obtain⟨c,f⟩:=J6 e r (k:=k) h;exact C4 (more:=more) (mv:=mv) a b c f
def Wb:OC:=λc b=>match c with
 | [.k a]=>b (.o (.k a))
 | [.l d]=>∃ a,wB d=some a/\a.length<=1000/\b (.o (.k (qY [] a)))
 | _=>False
def L7 (K:kY):Aa V->Hp->VK->Prop:=λe H Q=>(∃ (a:Ad) (b:Aa (hI×V)),e=[.ref a]/\H a=some (.k b)/\∀ p,H p=none->Q (.ref p) (upd H p (.k b))) \/
 ∃ (p:Ad) (c:Aa Ad) (b:Aa (hI×V)),e=[.ref p]/\eT K H p (c.map V.ref)/\A7 H c b/\b.length<=1000/\∀ d,H d=none->Q (.ref d) (upd H d (.k (pC [] b)))
theorem EI (g:X.calm=true):mK X (.type "dict") (L7 X.K):=Wm.or (DE g)
theorem BH:qF K (L7 K) Wb:=by
 intro B L H i E F Q hd c b k;cases i with
 | nil=>exact False.elim b
 | cons d i =>
 cases d<;>first | exact False.elim b | skip<;>cases i<;>first | exact False.elim b | skip
 .obtain⟨x,rfl,n⟩:=rJ c;obtain⟨w,v,D,b⟩:=b;obtain⟨a,s,rfl,h,r⟩:=n.lst_inv;obtain⟨A,f,rfl,t,q,u⟩:=Ub v r;obtain⟨y,z⟩:=C4 (kvs:=[]) (vs:=[]) q u rfl .nil;have m:f.length<=1000:=by
   have:=eA List.length q;simp only[aB] at this;omega
  exact .inr ⟨a,A,f,rfl,eT.of h,t,m,λp c=>k _ _ _ b (hd.dKF c y z)⟩
 .obtain⟨x,rfl,n⟩:=rJ c;obtain⟨a,s,rfl,h,e,r⟩:=n.dK_inv;exact .inl ⟨a,s,rfl,h,λp c=>k _ _ _ b (hd.dKF c e r)⟩
def Gm:OC:=λc a=>match c with
 | [.int i]=>a (.v (.int i))
 | [.b b]=>a (.v (.int (if b then 1 else 0)))
 | _=>False
theorem X8:qF K (λg H Q=>(∃ i,g=[.int i]/\Q (.int i) H)\/∃ k,g=[.b k]/\Q (.int (if k then 1 else 0)) H) Gm:=by
 intro B L H c g h Q hd f a k;cases c with
 | nil=>exact False.elim a
 | cons d c =>
 cases d<;>first | exact False.elim a | skip<;>cases c<;>first | exact False.elim a | skip
 .obtain⟨x,rfl,e⟩:=rJ f;have:=e.bl_inv;subst this;exact .inr ⟨_,rfl,k _ _ H a (hd.pushF (.int _))⟩
 .obtain⟨x,rfl,e⟩:=rJ f;have:=e.int_inv;subst this;exact .inl ⟨_,rfl,k _ _ H a (hd.pushF (.int _))⟩
noncomputable def vZ:Aa D->Ab (Aa Bool)
 | []=>some []
 | .b b::a=>(vZ a).map (b::·)
 | _=>none
theorem Kl:∀ (g:Aa Bool),vZ (g.map D.b)=some g
 | []=>rfl
 | n::g=>by rw[aY,vZ,Kl g];rfl
theorem Wj (h:vZ g=some j) (r:Reps K A H g l):l=j.map V.b:=by
 induction g generalizing j l with
 | nil=>cases r;simp only[vZ,kO] at h;subst h;rfl
 | cons d g c =>
  cases r with
  | cons r e =>
  cases d with
  | b i =>
   simp only[vZ,cC] at h;obtain⟨f,a,rfl⟩:=h;rw[r.bl_inv,c a e];rfl
  | _=>simp[vZ] at h
def Xe:OC:=λa d=>match a with
 | [.l c]=>∃ bs,vZ c=some bs/\d (.v (.b (bs.all id)))
 | _=>False
theorem Uk:qF K (Li K) Xe:=by
 intro B L H e s t Q hd i c k;cases e with
 | nil=>exact False.elim c
 | cons d e =>
  cases e with
  | cons _ _=>cases d<;>exact False.elim c
  | nil =>
   cases d<;>first | exact False.elim c | skip
   obtain⟨x,rfl,n⟩:=rJ i;obtain⟨m,f,c⟩:=c;obtain⟨a,q,rfl,h,r⟩:=n.lst_inv;rw[Wj f r] at h;exact⟨a,m,rfl,eT.of h,k _ _ H c (hd.pushF (.b _))⟩
end
def Ia (T:String):D->Bool
 | .str _=>T == "str"
 | .l _=>T == "list"
 | .c _=>T == "list"
 | .k _=>T == "dict"
 | _=>false
section
variable {X:Cx}{K:kY}
theorem AX (h:Ia T d=true) (p:mG K A H d x):Cj K T x H:=by
 cases d<;>first | (cases h;done) | skip
 all_goals (have h:=eq_of_beq h;subst h)
 .have:=p.str_inv;subst this;rfl
 .obtain⟨a,b,rfl,h,r⟩:=p.lst_inv;exact .inl ⟨rfl,b,eT.of h⟩
 .obtain⟨a,b,rfl,h,e,r⟩:=p.dK_inv;exact .inr (.inr (.inl ⟨rfl,.inl ⟨b,h⟩⟩))
 .obtain⟨a,b,rfl,h,r⟩:=p.scr_inv;exact .inl ⟨rfl,b,h.sqL⟩
abbrev OM:=D->Aa D->(Sl->Prop)->Prop
abbrev RM:=V->Aa V->Hp->VK->Prop
def HG (T:String) (f:OM) (i:Nat) (g:rB):mB:=λc b h=>(match at? b i with | some d=>Ia T d=true | none=>False)/\g c b λas a=>match at? a i,uJ a as with
 | some d,some e=>f d e λs=>h s a
 | _,_=>False
variable {id:String}
abbrev OW:=D->Aa D->(D->D->Prop)->Prop
def Fc (K:kY) (r:RM) (f:OW):Prop:=∀ (A:Ad->Prop) (H:Hp) (a:Ad) (c:D) (h:Aa D) (i:Aa V) (k:D->D->Prop) (Q:VK),¬ A a->nZ K A H a c->Reps K A H h i->f c h k ->
 (∀ d v o e,k d e->Rep K A H d v->(∀ b,Kp A b H (upd H a o)->nZ K b (upd H a o) a e)->Q v (upd H a o))->r (.ref a) i H Q
def dW (T:String) (f:OW) (i:Nat) (g:rB):mB:=λh b m=>(match at? b i with | some d=>Ia T d=true | none=>False)/\g h b λas a=>match a[i]?,vY as with
 | some (.o c),some k=>f c k λd e=>m (.v d) (a.set i (.o e))
 | _,_=>False
theorem DJ {f:OW}(C:Fc X.K r f){g:St}{H:Hp}{Q:VK}(h:dE X.K (dW T f i ta) g H Q):pR i g H λx l=>Cj X.K T x l/\dA X.K ta g l λxs j=>r x xs j Q:=by
 obtain⟨B,Y,Tm,Φ,S,hd,⟨A,J⟩,k⟩:=h;cases F:at? Y i with
 | none=>rw[F] at A;exact A.elim
 | some d0 =>
  rw[F] at A;obtain⟨x,t,px⟩:=hd.peek S F;refine⟨x,t,AX A px,B,Y,Tm,_,S,hd,J,λas e vs j D ok d2 b=>?_⟩;cases m:e[i]? with
  | none=>rw[m] at b;exact b.elim
  | some s =>
   cases s with
   | n=>rw[m] at b;exact b.elim
   | v c=>rw[m] at b;exact b.elim
   | o c =>
    cases G:vY as with
    | none=>rw[m,G] at b;exact b.elim
    | some P =>
     rw[m,G] at b;have O:=d2.temps ok P G;have Z:=d2.rmArgs;obtain⟨a,R,W,wr⟩:=Z.slotW D m;rw[t] at R;cases R;obtain⟨u,U,tu⟩:=W.some;have V:¬ Al B (eN (e.zip g++Tm)) a:=λz=>z.2.1 (by
      obtain⟨l1,y,N,w,_,L,_⟩:=uA D m;rw[t] at w;cases w;rw[L,bI,cL,qK];exact aP _ aE)
     refine C _ j a c P vs _ Q V W O b λd v o E M rd I=>k _ _ v _ (by rw[bQ];exact D) ?_ M
     refine (wr o E I).push ?_;have p:eN ((e.set i (.o E)).zip g++Tm)=eN (e.zip g++Tm):=by
      obtain⟨l1,y,N,w,_,L,q⟩:=uA D m;rw[t] at w;cases w;have:=q (.o E) (some (.ref a));rw[yH t] at this;rw[this,L,bI,bI,cL,cL,qK,qK];rfl
     rw[p];exact rd.mono (.write U tu V)
theorem pW {f:OW}(pa:PlainAttrs T) (slot:Slot T name id) (j:typeOf (.builtin id)=pure (.type "method_descriptor")) (J:yP X id r) (I:Fc X.K r f) (U:PE X o (pR i)) (p:qM X (e::l) ta)
  (C:MtB X o name apos e l g:=by exact {}) :
  PD X (.Call (.Attribute o name apos) (e::l) [] g) (dW T f i ta):=(xJ pa slot j J U p C).mono λ_ _ _ h=>DJ I h
noncomputable def AQ:OW:=λc b f=>match c,b with
 | .l a,[d]=>a.length<100000/\f .e (.l (a++[d]))
 | _,_=>False
theorem rK:Fc K Il AQ:=by
 intro A H a c q s t Q _ i rd b k;cases c<;>first | exact False.elim b | skip
 cases rd with
 | nil=>exact False.elim b
 | cons f rd =>
 cases rd with
 | cons _ _=>exact False.elim b
 | nil =>
 .obtain⟨m,h,r⟩:=i
  .refine⟨a,m,_,rfl,rfl,h,aW (by rw[<- r.length];exact b.1) (by decide),k _ _ _ _ b.2 .e λn d=>⟨_,lE,(r.append (.cons f .nil)).mono d⟩⟩
def Zt:OW:=λc b d=>match c,b with
 | .l a,[.int i]=>∃ k y,-(2 ^ 63)<=i/\i<2 ^ 63/\seqIndex? i a.length=some k/\a[k]?=some y/\d y (.l (a.eraseIdx k))
 | _,_=>False
theorem B3:Fc K Od Zt:=by
 intro A H a c z B D Q _ t rd b k;cases c<;>first | exact False.elim b | skip
 cases rd with
 | nil=>exact False.elim b
 | cons s rd =>
 rename_i d _ _ _
 cases d<;>first | exact False.elim b | skip
 cases rd with
 | cons _ _=>exact False.elim b
 | nil =>
 .obtain⟨w,h,r⟩:=t
  .have:=s.int_inv;subst this;obtain⟨j,y,e,f,i,m,b⟩:=b;obtain⟨v,n,u⟩:=r.get m;exact⟨a,w,_,j,v,rfl,rfl,h,e,f,by rw[<- r.length];exact i,n,k _ _ _ _ b u λx q=>⟨_,lE,(r.erase j).mono q⟩⟩
def GQ:D->Bool
 | .k _=>true
 | .T _=>true
 | _=>false
def FX (i:Nat) (ty g:mB):mB:=λc e m=>(match at? e i with | some d=>GQ d=true | none=>False)/\ty c e λf b=>g c b λh a=>match at? a i,sd f,sd h with
 | some d,some k,some x=>∃ o,yB d k=some o/\m (.v (o.getD x)) a
 | _,_,_=>False
theorem Yv (U:X.A.units+1<cLine) (l:PE X o (pR i)) (I:PD X k ty) (J:PD X x tx) (m:M2 X o "get" apos k x j:=by exact⟨rfl,rfl,rfl,rfl⟩):PD X (.Call (.Attribute o "get" apos) [k,x] [] j) (FX i ty tx) :=
 (Sc U l I J m).mono λσ H Q E=>E.elim λB W Tm Φ N hd ⟨t,T⟩ k=>by
  cases u:at? W i with
  | none=>rw[u] at t;exact t.elim
  | some Z =>
   rw[u] at t;obtain⟨x,O,R⟩:=hd.peek N u;obtain⟨a,rfl,F⟩:∃ a,x = .ref a/\Hn H a:=by
    cases Z<;>first | (cases t;done) | skip
    .obtain⟨a,L,rfl,h,e,r⟩:=R.dK_inv;exact⟨a,rfl,.inl ⟨L,.inl h⟩⟩
    .obtain⟨a,L,rfl,h,e,r⟩:=R.dT_inv;exact⟨a,rfl,.inr ⟨L,h⟩⟩
   refine⟨.ref a,O,a,rfl,F,B,W,Tm,_,N,hd,T,λV M y H1 l1 d1 C=>⟨B,M,(V,some y)::Tm,_,l1,d1,C,λrx q z Y P d2 b=>?_⟩⟩;cases f:at? q i with
   | none=>rw[f] at b;exact b.elim
   | some d =>
    cases s:sd V with
    | none=>rw[f,s] at b;exact b.elim
    | some kk =>
     cases D:sd rx with
     | none=>rw[f,s,D] at b;exact b.elim
     | some xx =>
      rw[f,s,D] at b;obtain⟨oo,l,b⟩:=b;obtain⟨S,q2,q3⟩:=d2.two s D;obtain⟨x',n,G⟩:=S.peek P f;rw[O] at n;cases n;obtain⟨a',w,p,g,g1,g2⟩:=Mr l G q2.peek;cases p;refine⟨w,g,k _ q _ Y P (S.push ?_) b⟩;cases oo with
      | none=>rw[g2 rfl];exact q3
      | some c=>obtain⟨v,rfl,rv⟩:=g1 c rfl;exact rv
def Bu:Aa D->Ab (Aa Af)
 | []=>some []
 | .str b::a=>(Bu a).map (b::·)
 | _=>none
theorem Ov:∀ (g:Aa Af),Bu (g.map D.str)=some g
 | []=>rfl
 | n::g=>by
  show (Bu (g.map D.str)).map (n::·)=_;rw[Ov g];rfl
theorem AF (h:Bu j=some l) (g:Reps K A H j o):o=l.map V.str:=by
 induction j generalizing l o with
 | nil=>cases g;cases h;rfl
 | cons d j b =>
  cases g with
  | cons r g =>
  cases d with
  | str i =>
   obtain⟨c,a,rfl⟩:=cC.mp h;rw[r.str_inv,b a g];rfl
  | _=>cases h
theorem Hf:∀ (g:Aa Af),Reps K A H (g.map D.str) (g.map V.str)
 | []=>.nil
 | y::g=>.cons (.str y) (Hf g)
end
section
variable {X:Cx}
theorem lA (o:X.A.units+1<cLine) (i:Nat) (j:PD X b p) (g:PE X a (pR i):=by exact pv _) (l:Hw b:=by exact λ_ _=>rfl):PD X (.Subscript a b pos) (yV J1 i p) :=
 (oK (Nf o) g j l).mono λ_ _ _ h=>Cb K6 h
end
section
variable {X:Cx}{K:kY}
theorem CQ (l:X.calm=true):mK X (.builtin "min") (λg H Q=>∃ i j k,g=[.int i,.int j,.int k]/\∀ m:Int,(m=i\/m=j\/m=k)->m<=i->m<=j->m<=k->Q (.int m) H):=by
 intro f s A H g F Q I r h;obtain⟨i,j,k,rfl,q⟩:=h;cases r with
 | cons y r =>
  obtain⟨v,u,rfl,⟨D,rfl⟩,⟨E,rfl⟩⟩:=Ew r;obtain⟨B,rfl⟩:=y;refine min_three_ints (I.ok.hd l) λw z x=>?_
  have fin:∀ (m:Int) (t:Tok),(m=i\/m=j\/m=k)->m<=i->m<=j->m<=k->EP X f A Q (.int m t) { s with heap:=w,toks:=z }:=λm t a b c d=>⟨.int m,H,I.kept x,⟨t,rfl⟩,q m a b c d⟩
  by_cases n:j<i
  .rw[bE n];by_cases e:k<j
   .rw[bE e];exact fin _ _ (.inr (.inr rfl)) (by omega) (by omega) (by omega)
   .rw[bG e];exact fin _ _ (.inr (.inl rfl)) (by omega) (by omega) (by omega)
  .rw[bG n];by_cases e:k<i
   .rw[bE e];exact fin _ _ (.inr (.inr rfl)) (by omega) (by omega) (by omega)
   .rw[bG e];exact fin _ _ (.inl rfl) (by omega) (by omega) (by omega)
def Ih (K:kY):Aa V->Hp->VK->Prop:=λa H Q=>Gz K a H Q\/∃ i j k,a=[.int i,.int j,.int k]/\∀ m:Int,(m=i\/m=j\/m=k)->m<=i->m<=j->m<=k->Q (.int m) H
theorem I3 (g:X.calm=true):mK X (.builtin "min") (Ih X.K):=(CA g).or (CQ g)
def Sd:OC:=λa b=>match a with
 | [.int i,.int j,.int k]=>∀ m:Int,(m=i\/m=j\/m=k)->m<=i->m<=j->m<=k->b (.v (.int m))
 | a=>I0 a b
theorem Gg:qF K (Ih K) Sd:=by
 intro B L H i n q Q hd h f k;have two:I0 i q->Ih K n H Q:=λf=>.inl (Xb B L H _ n q Q hd h f k)
 rcases i with _ | ⟨d,_ | ⟨e,_ | ⟨g,_ | ⟨_,_⟩⟩⟩⟩
 .exact two f
 .cases d<;>exact two f
 .cases d<;>first | exact two f | (cases e<;>exact two f)
 .cases d<;>first | exact two f | skip
  cases e<;>first | exact two f | skip
  cases g<;>first | exact two f | skip
  cases h with
  | cons s h =>
   obtain⟨x,y,rfl,t,py⟩:=zF h;have:=s.int_inv;have:=t.int_inv;have:=py.int_inv;subst_vars;exact .inr ⟨_,_,_,rfl,λm a b c d=>k _ _ H (f m a b c d) (hd.pushF (.int _))⟩
 .cases d<;>first | exact two f | (cases e<;>first | exact two f | (cases g<;>exact two f))
end
end L2
namespace PySem
open PyProof.Rows L2
abbrev tF (h:Ag) (z TI TO T:Ad) (f:Bool):Prop:=h.get? z=some { cls:=.type "zip",dict:=none,data:=.fields #[rawInt T,.bool f,.bool false,.ref TI,.ref TO],slots:=#[] }
section
theorem Vy (j:s.heap.get? a=some o) (h:Q (some o) s):wpAny (model g w) A (loadIfAlive a) Q E s:=λ_ _ _=>by
 show Q (s.heap.get? a) s;rw[j];exact h
theorem EH {TI TO:Ad}(g:tF s.heap z TI TO T f) (p:s.heap.get? T=some r) (l:∀ j,tF j z TI TO T true->Heap.SameBut z s.heap j->Q false { s with heap:=j }) :
  wpAny (model o w) A (Builtin.SmallTypes.ownedTupleIsFree (.ref z)) Q E s:=by
 unfold Builtin.SmallTypes.ownedTupleIsFree;refine aA (eG g rfl (x:=rawInt T) rfl ?_);show wpAny _ _ (loadIfAlive ((T:Int).toNat) >>= _) _ _ _;rw[cW];refine aA (Vy p ?_);simp only[Option.isNone_some,fC,eS];refine aA (eG g rfl (x:=.bool f) rfl ?_);cases f with
 | true =>
  rw[bG (show ¬ ((Value.bool true != Value.bool true)=true) from bA)];exact aH (l _ g (Heap.SameBut.refl _ _))
 | false =>
  rw[bE (show (Value.bool false != Value.bool true)=true from rfl)];exact aA (gY g (by simp) λc b a=>aH (l _ b a))
def Oi (g:Ah) (w:World) (A:Around) (a b:Ac) (Q:Fin->Ae->Prop) (E:Ac->Ae->Prop) (s:Ae):Prop :=
 wpAny (model g w) A (Builtin.SmallTypes.nextOf a) (λx c=>wpAny (model g w) A (Builtin.SmallTypes.nextOf b) (λy d=>wpAny (model g w) A (newTuple [x,y]) (λt e=>Q (.done (.ret t)) e) E d) E c) E s
theorem Fi {TI TO:Ad}(p:tF s.heap z TI TO T f) (r:s.heap.get? T=some C) (o:IsPair s.heap TI a b)
  (go:∀ l,tF l z TI TO T true->Heap.SameBut z s.heap l->Oi j w A a b Q E { s with heap:=l }) :
  wpAny (model j w) A (Builtin.«zip.__next__» ⟨[.ref z],[]⟩) Q E s:=by
 have c:wpAny (model j w) A (Builtin.SmallTypes.ownedTupleIsFree (.ref z)) (λx d=>x=false/\Oi j w A a b Q E d) E s :=
  EH p r λl e k=>⟨rfl,go l e k⟩
 unfold Builtin.«zip.__next__»;refine aA (aH (aA (eG p rfl (x:=.bool false) rfl (aA (eG p rfl (x:=.ref TI) rfl (aA (dP o rfl ?_)))))));refine aA (hO c ?_);rintro _ d ⟨rfl,g⟩;simp only[bG bA,<- Array.forIn_toList,kB,List.forIn_nil,bind_assoc];refine aA (bS (aA (hO g λx h g1=>aH (aA (aH ?_)))));refine aA (aA (bS (aA (hO g1 λy i g2=>aH (aA (aH (aH ?_)))))));exact aA (hO g2 λt m g3=>aH g3)
theorem Zu {z TI TO T j l r C:Ad}{I J:Nat}{f:Bool}{oT:Obj}{xs ys:Array Ac}{x y:Ac}{Q:Ac->Ae->Prop}(D:ZipApart z TI TO j l r C)
  (hz:tF s.heap z TI TO T f) (hT:s.heap.get? T=some oT) (U:IsPair s.heap TI (.ref j) (.ref l))
  (h1:s.heap.IsListIter j r I) (h2:s.heap.IsListIter l C J) (aa:s.heap.IsList r xs) (ab:s.heap.IsList C ys) (hx:xs[I]?=some x) (hy:ys[J]?=some y)
  (hQ:∀ g,tF g z TI TO T true->g.IsListIter j r (I+1)->g.IsListIter l C (J+1)->IsPair g s.heap.objs.size x y->g.objs.size=s.heap.objs.size+1 ->(∀ c o,c≠z->c≠j->c≠l->s.heap.get? c=some o->g.get? c=some o)->Q (.ref s.heap.objs.size) { s with heap:=g }) :
  wpAny (model ac w) A (Builtin.«zip.__next__» ⟨[.ref z],[]⟩) (λfin s'=>∃ v,fin = .done (.ret v)/\Q v s') E s:=by
 refine Fi hz hT U λd K m=>?_
 have up1:∀ c o,c≠z->s.heap.get? c=some o->d.get? c=some o:=λc o n e=>m.extBut _ _ n e
 have there:d.IsListIter j r I/\d.IsListIter l C J/\d.IsList r xs/\d.IsList C ys:=⟨h1.at λo e=>up1 _ o D.i1z e,h2.at λo e=>up1 _ o D.i2z e,aa.at λo e=>up1 _ o D.l1z e,ab.at λo e=>up1 _ o D.l2z e⟩;refine gZ there.1 there.2.2.1 hx λk G q=>?_
 have a:∀ c o,c≠j->d.get? c=some o->k.get? c=some o:=λc o n e=>q.extBut _ _ n e
 refine gZ (there.2.1.at λo e=>a _ o D.i12.symm e) (there.2.2.2.at λo e=>a _ o D.l2i1 e) hy λh H t=>?_
 have b:∀ c o,c≠l->k.get? c=some o->h.get? c=some o:=λc o n e=>t.extBut _ _ n e
 have i:h.objs.size=s.heap.objs.size:=t.1.trans (q.1.trans m.1);have more:∀ {c:Ad} {o p:Obj},h.get? c=some o->(h.push p).get? c=some o:=λe=>aI _ e
 refine wpAny_newTuple ⟨_,rfl,?_⟩ (hsz:=(show 2<=sizeLine by decide));have last:=hQ (h.push (seqObj "tuple" #[x,y] 0)) (more (b _ _ D.i2z.symm (a _ _ D.i1z.symm K))) (G.at λo e=>more (b _ o D.i12 e)) (H.at λo e=>more e) (i▸aX _ rfl) ((cN ..).trans (by rw[i]))
  λc o u B F e=>more (b _ _ F (a _ _ B (up1 _ _ u e)))
 rw[<- i] at last;exact last
theorem Vg {TI TO:Ad}(hh:A.handled=none) (D:ZipApart z TI TO j J l l2)
  (hz:tF s.heap z TI TO T f) (hT:s.heap.get? T=some oT) (r:IsPair s.heap TI (.ref j) (.ref J))
  (h1:s.heap.IsListIter j l U) (h2:s.heap.IsListIter J l2 k2) (C:s.heap.IsList l xs) (I:s.heap.IsList l2 ys) (g:xs[U]?=none\/ys[k2]?=none)
  (hE:∀ p e,(∀ c o,c≠z->c≠j->c≠J->s.heap.get? c=some o->p.get? c=some o)->(∃ o,p.get? e=some o/\o.cls = .type "StopIteration")->E (.ref e) { s with heap:=p }) :
  wpAny (model aa w) A (Builtin.«zip.__next__» ⟨[.ref z],[]⟩) Q E s:=by
 refine Fi hz hT r λi M F=>?_
 have up1:∀ c o,c≠z->s.heap.get? c=some o->i.get? c=some o:=λc o n e=>F.extBut _ _ n e
 have there:i.IsListIter j l U/\i.IsList l xs:=⟨h1.at λo e=>up1 _ o D.i1z e,C.at λo e=>up1 _ o D.l1z e⟩;rcases iN xs[U]? with b | ⟨x,b⟩
 .exact jQ hh there.1 there.2 b λk e t H=>hE k e (λc o d h _ q=>t c o h (up1 c o d q)) H
 .refine gZ there.1 there.2 b λk L G=>?_
  have a:∀ c o,c≠z->c≠j->s.heap.get? c=some o->k.get? c=some o:=λc o n m e=>G.extBut _ _ m (up1 c o n e)
  have y:ys[k2]?=none:=g.elim (λn=>by rw[n] at b;cases b) id;exact jQ hh (h2.at λo e=>a _ o D.i2z D.i12.symm e) (I.at λo e=>a _ o D.l2z D.l2i1 e) y λB e u K=>hE B e (λc o d h v q=>u c o v (a c o d h q)) K
def uG (h:Ag) (z TI TO g j:Ad):Prop:=IsPair h TI (.ref g) (.ref j)/\(∃ a b,IsPair h TO a b)/\(IsZip h z TI TO .none\/∃ T f o,tF h z TI TO T f/\h.get? T=some o/\T≠z/\T≠TO/\T≠g/\T≠j)
theorem Sn {TI TO:Ad}(D:ZipApart z TI TO r C U l2)
  (j:uG s.heap z TI TO r C) (I:s.heap.IsListIter r U k) (J:s.heap.IsListIter C l2 k) (l:s.heap.IsList U xs) (p:s.heap.IsList l2 ys) (hx:xs[k]?=some x) (hy:ys[k]?=some y)
  (hQ:∀ g,uG g z TI TO r C->g.IsListIter r U (k+1)->g.IsListIter C l2 (k+1)->IsPair g s.heap.objs.size x y->g.objs.size=s.heap.objs.size+1 ->(∀ c o,c≠z->c≠TO->c≠r->c≠C->s.heap.get? c=some o->g.get? c=some o)->Q (some (.ref s.heap.objs.size)) { s with heap:=g }) :
  wpAny (model aa w) A (pyNext (.ref z)) Q E s:=by
 obtain⟨d,⟨a,b,i⟩,j⟩:=j;obtain⟨V,P,_⟩:=id I;obtain⟨W,R,_⟩:=id J;have q:∀ {c o},s.heap.get? c=some o->s.heap.objs.size≠c:=λe=>(bF (aL e)).symm
 rcases j with j | ⟨T,f,o,j,F,G,S,H,K⟩
 .refine wpAny_pyNext_zip_item D j d i I J l p hx hy λg t L u v n B h=>?_
  exact hQ g ⟨h _ _ D.TIz D.TITO D.TIi1 D.TIi2 d,⟨_,_,L⟩,.inr ⟨_,false,_,t,n,q j,q i,q P,q R⟩⟩ u v n B h
 .have m:s.TypeIs (.ref z) "zip" := ⟨_,j,rfl⟩;unfold pyNext;refine aA (fF (cD (name:=Str.ofString "__next__") m dD (eQ dD m gO (Zu D j F d I J l p hx hy λg t u v n B h=>aH ?_) (gA _))));exact hQ g ⟨h _ _ D.TIz D.TIi1 D.TIi2 d,⟨_,_,h _ _ D.TOz D.TOi1 D.TOi2 i⟩,.inr ⟨T,true,_,t,h _ _ G H K F,G,S,H,K⟩⟩ u v n B λc o M _ N O e=>h c o M N O e
theorem FA {TI TO:Ad}(hh:A.handled=none) (D:ZipApart z TI TO C I l1 l2)
  (j:uG s.heap z TI TO C I) (J:s.heap.IsListIter C l1 k) (U:s.heap.IsListIter I l2 k) (l:s.heap.IsList l1 xs) (p:s.heap.IsList l2 ys) (g:xs[k]?=none\/ys[k]?=none)
  (hQ:∀ r,(∀ c o,c≠z->c≠TO->c≠C->c≠I->s.heap.get? c=some o->r.get? c=some o)->Q none { s with heap:=r }):wpAny (model aa w) A (pyNext (.ref z)) Q E s:=by
 obtain⟨d,⟨a,b,i⟩,j⟩:=j;rcases j with j | ⟨T,f,o,j,t,B,F,G,H⟩
 .exact wpAny_pyNext_zip_end hh D j d i J U l p g hQ
 .have h:s.TypeIs (.ref z) "zip" := ⟨_,j,rfl⟩;unfold pyNext;refine aA (fF (cD (name:=Str.ofString "__next__") h dD (eQ dD h gO (Vg hh D j t d J U l p g λr e x v=>?_) (gA _))));obtain⟨o,y,u⟩:=v;refine aA (dZ (T := "StopIteration") (b:=true) ⟨o,y,u⟩ isSubtype_stop ?_);exact aH (hQ _ λc o m _ n q e=>x c o m n q e)
end
theorem Ze:typeLookup (.type "zip") "keys" = pure none:=am_miss_of_fast (by decide +kernel)
theorem Xj:entryFor table "zip.__getattribute__" = some Builtin.«object.__getattribute__»:=entryFor_alias (id' := "object.__getattribute__") (by kernel_rfl) (by decide +kernel) (by decide +kernel) (by kernel_rfl)
theorem DU:typeLookup (.type "zip") "__getattr__" = pure none:=am_miss_of_fast (by decide +kernel)
theorem Xg
  (l:s.heap.get? a=some { cls:=.type "zip",dict:=none,data:=.fields fs,slots:=j }) (q:Q .missing s):wpAny (model g w) A (Builtin.ObjectAttr.find (.ref a) (.type "zip") "keys") Q E s:=by
 have own:wpAny (model g w) A (Builtin.ObjectAttr.inOwnDict "keys" (.ref a)) (λr b=>r=none/\b=s) E s :=
  aA (aA (wpAny_loadPart l (aA (wpAny_loadPart l (aH (aH ⟨rfl,rfl⟩))))))
 have guard:wpAny (model g w) A (Builtin.ObjectAttr.copiedAttributeGuard "keys" (.ref a)) (λ_ b=>b=s) E s:=by
  have no:¬ (([Str.ofString "__module__",Str.ofString "__name__",Str.ofString "__qualname__",Str.ofString "__doc__",Str.ofString "__annotations__"]:Aa Af).contains (Str.ofString "keys")=true):=by decide +kernel
  simp only[Builtin.ObjectAttr.copiedAttributeGuard,bG no];exact aH rfl
 unfold Builtin.ObjectAttr.find;rw[Ze];refine aA (aH (aA (aH (aA (aH (aA (hO own ?_)))))));rintro _ _ ⟨rfl,rfl⟩;refine aA (hO guard ?_);rintro _ _ rfl;exact aA (kK (aH q))
theorem BQ (a:Ad) (fs:Array Ac) (g:Array (Ab Ac)) (u:Tok):Meets (Builtin.«object.__getattribute__» ⟨[.ref a,.str "keys" u],[]⟩) (λA R s=>s.heap.get? a=some { cls:=.type "zip",dict:=none,data:=.fields fs,slots:=g }/\raisesAttr (.ref a) "keys" A R s) :=
 Meets.of_wp λb w A R s f=>by
  obtain⟨l,calm,out⟩:=f;have d:s.TypeIs (.ref a) "zip" := ⟨_,l,rfl⟩;unfold Builtin.«object.__getattribute__»;refine aA (aH (aA (aH (aA (eV d (aA (Xg l ?_)))))));have named:wpAny (model b w) A.in1 (typeNameOfCut 100 (.ref a)) (λn c=>n = "zip" /\ c=s) (λe c=>R (.error e) c) s :=
   aA (aA (eV d (aH (aH ⟨by decide +kernel,rfl⟩))))
  show wpAny _ _ (Builtin.ObjectAttr.noSuchAttribute (.ref a) "keys") _ _ _;unfold Builtin.ObjectAttr.noSuchAttribute;refine aA (hO named ?_);rintro _ _ ⟨rfl,rfl⟩;exact wpAny_raiseAttrError calm out (by decide +kernel)
section
theorem S0
  (l:s.heap.get? a=some { cls:=.type "zip",dict:=none,data:=.fields fs,slots:=o }) (calm:A.handled=none) (out:∀ j p e,Heap.NewAttrErr s.heap j e (.ref a) "keys" -> E (.ref e) { s with heap:=j,toks:=p }) :
  wpAny (model g w) A (boundAndCalled (.builtin "zip.__getattribute__") (.ref a) (.str "keys" u)) Q E s:=by
 have ask:wpAny (model g w) A (call (.builtin "zip.__getattribute__") [.ref a,.str "keys" u]) Q E s :=
  jR jB ⟨_,l,rfl⟩ Xj (F.args_zip_getattribute_2 _ _) (BQ a fs o u) ⟨l,calm,out⟩
 unfold boundAndCalled;rw[jB.bind (.ref a)];exact aA (aH ask)
theorem DC (t:s.TypeIs (.ref e) "AttributeError") (out:E (.ref e) s) :
  wpAny (model g w) A (getattributeRaised o name (.type "zip") (.ref e) none false false) Q E s:=by
 have last:wpAny (model g w) A (hookOrError o name (.ref e) false false none) Q E s:=aA (wpAny_throw out);have a:hookBehind (.type "zip") none=pure none:=DU;unfold getattributeRaised;refine aA (dZ t iX ?_);rw[bE rfl,a];exact aA (aH last)
theorem GI
  (l:s.heap.get? a=some { cls:=.type "zip",dict:=none,data:=.fields fs,slots:=C }) (calm:A.handled=none) (out:∀ j p e,Heap.NewExcOf s.heap j e "AttributeError" -> Q none { s with heap:=j,toks:=p }) :
  wpAny (model g w) A (getAttr? (.ref a) "keys") Q E s:=by
 have c:∀ j p e,Heap.NewAttrErr s.heap j e (.ref a) "keys" -> (∃ o,j.get? e=some o/\o.cls = .type "AttributeError")/\Q none { s with heap:=j,toks:=p }:=λj p e x=>by
  obtain⟨_,_,y⟩:=x.there;exact⟨⟨_,y,rfl⟩,out j p e x.of⟩
 let d:Ae:={ s with toks:=s.toks+1 };let b:Except Ac Ac->Ae->Prop:=λr i=>wpAny (model g w) A (match r with | .ok v=>pure (some v) | .error e=>do if <- isInstance e (.type "AttributeError") then pure none else throw e) Q E i
 have look:wpAny (model g w) A (getAttrBy (.ref a) (.str "keys" s.toks) false) (λv=>b (.ok v)) (λe=>b (.error e)) d:=by
  refine bS (aA (eV (T := "zip") ⟨_,l,rfl⟩ (aA (jA jB.lookup ?_))));have own:wpAny (model g w) A (getAttrByItsOwn (.ref a) (.str "keys" s.toks) (.type "zip") (.builtin "zip.__getattribute__") false false) (λv=>b (.ok v)) (λe=>b (.error e)) d:=by
   refine aA (aH (aA (fF (bS (S0 (s:=d) l calm λj p e x=>?_)))));obtain⟨⟨o,f,h⟩,q⟩:=c j p e x;exact DC ⟨o,f,h⟩ (aA (dZ (T := "AttributeError") ⟨o,f,h⟩ iX (aH q)))
  exact own
 exact aA (wpAny_mkText (aA (fF look)))
end
section
variable {K:Type} [DecidableEq K] {knd:KeyKind prog w K}{A:Around}{R:Result->Ae->Prop}
theorem Tg {TI TO:Ad}(hh:A.handled=none) (D:ZipApart z TI TO l p r C) (hd:d∉[z,TI,TO,l,p,r,C]) (more:Aa (K×Ac)) (hn:more.length=min I.size J.size) (j:more.length<=sizeLine)
  (hT:∀ (i:Nat) x y,I[i]?=some x->J[i]?=some y->∃ k,knd.is k x=true/\more[i]?=some (k,y)) (h0:Ag) :
  ∀ (m i:Nat) (s:Ae),more.length-i=m->i<=more.length->uG s.heap z TI TO l p->s.heap.IsListIter l r i->s.heap.IsListIter p C i->s.heap.IsList r I->s.heap.IsList C J->(∀ b o,b∉[z,TO,l,p,d]->h0.get? b=some o->s.heap.get? b=some o)->s.heap.DictOf knd d (merged [] (more.take i)) ->
   (∀ g tk,(∀ b o,b∉[z,TO,l,p,d]->h0.get? b=some o->g.get? b=some o)->g.DictOf knd d (merged [] more)->R (.ok (.ret .none)) { s with heap:=g,toks:=tk }) ->
   codeAny (model prog w) A (.builtin "dict.update.loop" ⟨[.ref d,.ref z,.int (i:Int) 0,.none],[]⟩) R s:=by
 simp only[aF,bJ,dL,jU] at hd;obtain⟨d1,d2,W,X,Y,d6,d7⟩:=hd;have na:∀ {b:Ad},b∉[z,TO,l,p,d]->b≠z/\b≠TO/\b≠l/\b≠p/\b≠d:=λj=>by
  simpa only [aF,bJ,dL,jU] using j
 intro m;induction m with
 | zero =>
  intro i s hm hi hz h1 h2 c h kp H hR;have ei:i=more.length:=by omega
  subst ei;rw[aQ (aJ _)] at H;refine dU xV ?_;rw[cM sD _];show wpAny _ A.in1 (pyNext (.ref z) >>= _) _ _ s;refine aA (FA (by simpa using hh) D hz h1 h2 c h ?_ λg B=>?_)
  .rcases Nat.le_total I.size J.size with q | q
   .exact .inl (eW (by omega))
   .exact .inr (eW (by omega))
  .show wpAny _ A.in1 (Builtin.Dict.addKeywords d [] >>= _) _ _ _;refine aA (aH ?_);obtain⟨o,F,E,u,rest⟩:=H;exact aH (hR g _ (λb o j e=>let ⟨P,Q,S,V,b5⟩:=na j;B b o P Q S V (kp b o j e)) ⟨o,F,E,B d _ d1 W X Y u,rest⟩)
 | succ m ih =>
  intro i s hm hi hz h1 h2 c h kp H hR;have ab:i<more.length:=by omega
  obtain⟨x,hx⟩:∃ x,I[i]?=some x:=⟨_,eC (by omega)⟩;obtain⟨y,hy⟩:∃ y,J[i]?=some y:=⟨_,eC (by omega)⟩;obtain⟨ky,N,t⟩:=hT i x y hx hy;refine dU xV ?_;rw[cM sD _];show wpAny _ A.in1 (pyNext (.ref z) >>= _) _ _ s;refine aA (Sn D hz h1 h2 c h hx hy λg z' ac ae pr sz B=>?_);have aa:g.DictOf knd d (merged [] (more.take i)):=by
   obtain⟨o,F,E,u,rest⟩:=H;exact⟨o,F,E,B d _ d1 W X Y u,rest⟩
  have af:g.IsList r I:=c.at λo e=>B r o D.l1z D.l1TO D.l1i1 D.l1i2 e
  have ag:g.IsList C J:=h.at λo e=>B C o D.l2z D.l2TO D.l2i1 D.l2i2 e
  have pd:s.heap.objs.size≠d:=by
   obtain⟨o,F,E,u,rest⟩:=H;exact (bF (aL u)).symm
  show wpAny _ A.in1 (holding [Value.ref s.heap.objs.size] _ >>= _) _ _ _;refine aA (bS ?_);refine aA (iF ?_);unfold Builtin.Dict.pairItems;refine aA (eV (T := "tuple") ⟨_,pr,rfl⟩ ?_);rw[bE (by decide)];refine aA (dP pr rfl ?_);refine aH ?_;show wpAny _ A.in1 (holding [x,y] (dictSet d x y)) _ _ _;refine bS ?_;have v:(merged [] (more.take i)).length<=sizeLine:=by
   have Z:=merged_length_le ([]:Aa (K×Ac)) (more.take i);rw[fZ,bT] at Z;omega
  refine kF (hsz:=v) N aa λG n sb=>?_
  rw[<- merged_take_succ [] more i (ky,y) t] at n;refine aH ⟨gE sD _,?_⟩;have Z:(rawInt ((i:Int)+1))=Value.int ((i+1:Nat):Int) 0:=by rfl
  rw[Z];have up:∀ b o,b≠d->g.get? b=some o->G.get? b=some o:=λb o j e=>by rw[sb.2 b j];exact e
  have zz:uG G z TI TO l p:=by
   obtain⟨p1,⟨a,b,p2⟩,p3⟩:=z';refine⟨up _ _ (cQ d2) p1,⟨a,b,up _ _ (cQ W) p2⟩,?_⟩;rcases p3 with p3 | ⟨T,f,o,q1,q2,q3,q4,q5,q6⟩
   .exact .inl (up _ _ (cQ d1) p3)
   .by_cases M:T=d
    .subst M;obtain⟨o',F,E,u,rest⟩:=n;exact .inr ⟨T,f,_,up _ _ (cQ d1) q1,u,q3,q4,q5,q6⟩
    .exact .inr ⟨T,f,o,up _ _ (cQ d1) q1,up _ _ M q2,q3,q4,q5,q6⟩
  refine ih (i+1) _ (by omega) ab zz (ac.at λo e=>up _ o (cQ X) e) (ae.at λo e=>up _ o (cQ Y) e) (af.at λo e=>up _ o (cQ d6) e) (ag.at λo e=>up _ o (cQ d7) e) (λb o j e=>?_) n λU tk O L=>hR U tk O L
  obtain⟨P,Q,S,V,b5⟩:=na j;exact up b o b5 (B b o P Q S V (kp b o j e))
theorem O4 {TI TO:Ad}(t:s.TypeIs (.ref d) "dict") (j:IsZip s.heap z TI TO .none) (calm:A.handled=none)
  (on:∀ g l e,Heap.NewExcOf s.heap g e "AttributeError" -> Q (.again (.builtin "dict.update.loop" ⟨[.ref d,.ref z,.int 0 0,.none],[]⟩)) { s with heap:=g,toks:=l }) :
  wpAny (model prog w) A (Builtin.«dict.__init__» ⟨[.ref d,.ref z],[]⟩) Q E s:=by
 have first:wpAny (model prog w) A (Builtin.Dict.selfAndRest "__init__" ⟨[.ref d,.ref z],[]⟩) (λp c=>p=(d,[Value.ref z])/\c=s) E s:=aA (wpAny_notOrdered_dict t (aH ⟨rfl,rfl⟩))
 have a:wpAny (model prog w) A (Builtin.Dict.updateFrom "dict.__init__" d (.ref z) [] .none) Q E s:=by
  refine aA (eV (T := "zip") ⟨_,j,rfl⟩ ?_);rw[bE (by decide)];refine aA (GI j calm λg l e x=>?_);have b:IsZip g z TI TO .none:=x.keeps _ _ j;exact aA (kK (aA (wpAny_pyIter_zip b (aH (on g l e x)))))
 exact aA (dM first (λp c q=>by obtain⟨rfl,rfl⟩:=q;exact a) λ_ _ q=>q)
theorem V4 {TI TO:Ad}(hh:A.handled=none) (D:ZipApart z TI TO U i2 l1 l2)
  (T:IsZip s.heap z TI TO .none) (l:IsPair s.heap TI (.ref U) (.ref i2)) (C:IsPair s.heap TO .none .none) (h1:s.heap.IsListIter U l1 0) (h2:s.heap.IsListIter i2 l2 0) (I:s.heap.IsList l1 xs) (J:s.heap.IsList l2 ys)
  (hn:more.length=min xs.size ys.size) (g:more.length<=sizeLine) (hT:∀ (i:Nat) x y,xs[i]?=some x->ys[i]?=some y->∃ k,knd.is k x=true/\more[i]?=some (k,y))
  (h:∀ (j:Ag) (tk:Nat),j.DictOf knd s.heap.objs.size (merged [] more)->(∀ b o,b∉[z,TO,U,i2]->s.heap.get? b=some o->j.get? b=some o)->Q (.ref s.heap.objs.size) { s with heap:=j,toks:=tk }) :
  wpAny (model prog w) A (call (.type "dict") [.ref z]) Q E s:=by
 let d:=s.heap.objs.size;have made:(tW s).heap.DictOf knd d []:=Heap.DictOf.new s.heap;have old:∀ b o,s.heap.get? b=some o->(tW s).heap.get? b=some o:=λb o e=>aI _ e
 refine callType_codes F.kt_called_dict (jX _) F.entry_dict_init (kt_code_dict_new _ (Q₁:=λv n=>v = .ref d/\n=tW s) ⟨rfl,rfl⟩) λv n q=>?_
 obtain⟨rfl,rfl⟩:=q;refine⟨made.typeIs,kL _ _,O4 made.typeIs (old _ _ T) (by simp[hh]) λc tk e x=>⟨gE sD _,?_⟩⟩;have keeps:∀ b o,s.heap.get? b=some o->c.get? b=some o:=λb o e=>x.keeps _ _ (old b o e)
 obtain⟨N,G,_⟩:=id h1;obtain⟨O,H,_⟩:=id h2;obtain⟨P,L,_⟩:=id I;obtain⟨S,M,_⟩:=id J;have a:∀ {b o},s.heap.get? b=some o->d≠b:=λe=>(bF (aL e)).symm
 have f:c.DictOf knd d []:=by
  obtain⟨o,u,t,p,r⟩:=made;exact⟨o,u,t,x.keeps _ _ p,r⟩
 refine Tg (knd:=knd) (by simp[hh]) D ?_ more hn g hT s.heap more.length 0 _ rfl (dN _) ⟨keeps _ _ l,⟨_,_,keeps _ _ C⟩,.inl (keeps _ _ T)⟩ (h1.at λo e=>keeps _ o e) (h2.at λo e=>keeps _ o e) (I.at λo e=>keeps _ o e) (J.at λo e=>keeps _ o e) (λb o _ e=>keeps b o e) (by simpa [merged] using f) λj m B fin=>?_
 .simp only[aF,bJ,dL,jU];exact⟨a T,a l,a C,a G,a H,a L,a M⟩
 .refine⟨rfl,h j m fin λb o g e=>B b o (λq=>?_) e⟩;simp only[aF,bJ,dL,jU] at g q;rcases q with q | q | q | q | q
  .exact g.1 q
  .exact g.2.1 q
  .exact g.2.2.1 q
  .exact g.2.2.2 q
  .exact a e q.symm
end
end PySem
namespace L2
open PySem PySem.Spec PyProof.Rows Lw
section
variable {X:Cx}
def DG (K:kY) (g:TA):TE:=λf H Q=>g f H λe a=>∃ (l m:Ad) (b:Aa hI) (c:Aa V),e=[.ref l,.ref m]/\eT K a l (b.map kV)/\eT K a m c/\b.length<=1000/\∀ d,a d=none->Q (.ref d) (upd a d (.k (pC [] (b.zip c))))
theorem Gy:∀ (g:Aa hI){j:Aa V}{l:Aa Ac},kZ j l->KV (g.zip j) (g.zip l)
 | [],_,_,_=>.nil
 | k::g,_,_,.nil=>.nil
 | k::g,_,_,.cons h r=>.cons ⟨rfl,h⟩ (Gy g r)
theorem Vk (j:X.calm=true) (hg:Gl X "dict") (hm:X.mg "dict" = none) (r:Gl X "zip") (C:X.mg "zip" = none) (ha:PA X [a,b] ta)
  (hs:starEach [a,b] X.env=(false,eval a X.env)::starEach [b] X.env:=by rfl) (J:(backTo g (starEach [b] X.env)).any (·.1)=false:=by rfl) :
  PE X (.Call (.Name "dict" p) [.Call (.Name "zip" p') [a,b] [] g] [] pos) (DG X.K ta):=by
 intro z s σ H Q I h;refine dO (tO I hg hm boot_dict ?_ (by decide) (by decide));refine bZ ?_ rfl rfl;show wpAny _ _ (spliced ((false,eval (.Call (.Name "zip" p') [a,b] [] g) X.env)::backTo pos (starEach [] X.env))) _ _ s;refine gX ?_;refine dO (tO I r C boot_zip ?_ (by decide) (by decide));refine bZ (hO (ha g z s σ H _ I h) λus B M=>?_) hs J;obtain⟨xs,H1,t,S,q1⟩:=M;obtain⟨l,m,c,E,rfl,hl,hv,hn,q⟩:=q1;obtain⟨Z,T,rfl,W,Y⟩:∃ Z T,us=[Z,T]/\lH (.ref l) Z/\lH (.ref m) T:=by
  cases S with | cons S V=>cases V with | cons V r3=>cases r3;exact⟨_,_,rfl,S,V⟩
 cases W;cases Y;obtain⟨N,r',R,_⟩:=t.list hl;obtain⟨f,A,n,_⟩:=t.list hv;refine call_zip_2 R.isList n.isList λD z1 z2 z3 z4 z5 z6 U=>?_
 refine jF ?_;have L1:=r'.length;have L2:=A.length;rw[aB] at L1;have F:=Gy c A;have O:l<B.heap.objs.size:=by obtain⟨_,e,_⟩:=R.isList;exact aL e
 have P:m<B.heap.objs.size:=by obtain⟨_,e,_⟩:=n.isList;exact aL e
 refine V4 (knd:=oY X.prog X.w) (more:=c.zip f) (s:={ B with heap:=D }) (t.ok.hd j) (zipApart_new O P) z1 z2 z3 z4 z5 (R.isList.at λo e=>U _ o e) (n.isList.at λo e=>U _ o e) ?_ ?_ ?_ λh2 tk hD hk=>?_
 .rw[fN,aN,aN];omega
 .rw[fN];exact fE (cP (show min c.length f.length<=1000 by omega) (by decide))
 .intro i x y v G;have v:N[i]?=some x:=by simpa using v
  have G:f[i]?=some y:=by simpa using G
  obtain⟨hi,_⟩:=aT.mp v;obtain⟨u,hu,ru⟩:=r'.get (i:=i) (x:=kV (c[i]'(by omega))) (by simp[show i<c.length by omega]);rw[hu] at v;cases v;refine⟨c[i]'(by omega),xK ru,?_⟩;rw[iM];exact⟨aG _,G⟩
 .have L:(pC [] (c.zip E)).length<=sizeLine:=by
   have h1:=Dj (c.zip E) [];rw[fZ,fN] at h1;exact fE (cP (show (pC [] (c.zip E)).length<=1000 by omega) (by decide))
  have d:B.heap.objs.size<=D.objs.size:=by omega
  have kp:∀ b o,B.heap.get? b=some o->h2.get? b=some o:=λb o e=>hk b o (λq=>by
   have:=aL e;simp only[aF,bJ,dL] at q;rcases q with q | q | q | q<;>rw[q] at this<;>first | exact absurd this (cV _) | exact absurd this (kU.mpr (eR _ _))) (U b o e)
  refine⟨.ref D.objs.size,_,t.laid (a:=D.objs.size) (o:=.k (pC [] (c.zip E))) (t':=tk) kp d ?_,rfl,q _ (t.hok.fresh d)⟩;exact zP L (eD.mpr (cQ (bF (aW t.big d)))) (F.merge .nil) hD
end
def vI:Aa D->Ab (Aa hI)
 | []=>some []
 | d::a=>match qU d,vI a with
  | some k,some b=>some (k::b)
  | _,_=>none
section
variable {X:Cx}{K:kY}
theorem Px (h:vI g=some j) (l:Reps K A H g o):o=j.map kV:=by
 induction g generalizing j o with
 | nil=>cases l;cases h;rfl
 | cons d g c =>
  cases l with
  | cons r l =>
  have h:=(show (match qU d,vI g with | some k,some j=>some (k::j) | _,_=>none)=some j from h);cases a:qU d with
  | none=>rw[a] at h;cases h
  | some k =>
   cases b:vI g with
   | none=>rw[a,b] at h;cases h
   | some e =>
    rw[a,b] at h;cases h;rw[c b l,Bd a r.peek];rfl
theorem A2:∀ (g:Aa Af),vI (g.map D.str)=some (g.map Sum.inr)
 | []=>rfl
 | x::g=>by
  show (match some (Sum.inr x:hI),vI (g.map D.str) with | some k,some a=>some (k::a) | _,_=>none)=_;rw[A2 g];rfl
def Ja:OC:=λb e=>match b with
 | [.l c,.l d]=>∃ a,vI c=some a/\a.length<=1000/\e (.o (.k (qY [] (a.zip d))))
 | _=>False
theorem Ii:∀ (g:Aa hI){j:Aa D}{l:Aa V}{A:Ad->Prop}{H:Hp},Reps K A H j l->(g.zip j).map (·.1)=(g.zip l).map (·.1)/\Reps K A H ((g.zip j).map (·.2)) ((g.zip l).map (·.2))
 | [],_,_,_,_,_=>⟨rfl,.nil⟩
 | k::g,_,_,_,_,.nil=>⟨rfl,.nil⟩
 | k::g,_,_,_,_,.cons h r=>by
  obtain⟨a,b⟩:=Ii g r;exact⟨by simp[a],.cons h b⟩
theorem V9:qF K (λo H Q=>∃ (l m:Ad) (g:Aa hI) (j:Aa V),o=[.ref l,.ref m]/\eT K H l (g.map kV)/\eT K H m j/\g.length<=1000/\∀ d,H d=none->Q (.ref d) (upd H d (.k (pC [] (g.zip j))))) Ja:=by
 intro B L H D o F Q hd f c k;unfold Ja at c;split at c
 .obtain⟨x,y,rfl,s,py⟩:=zF f;obtain⟨g,n,q,c⟩:=c;obtain⟨a,E,rfl,h,v⟩:=s.lst_inv;obtain⟨b,j,rfl,i,w⟩:=py.lst_inv;have e:=Px n v;subst e;obtain⟨z,A⟩:=Ii g w;obtain⟨t,u⟩:=C4 (kvs:=[]) (vs:=[]) z A rfl .nil;exact⟨a,b,g,j,rfl,eT.of h,eT.of i,q,λp f=>k _ _ _ c (hd.dKF f t u)⟩
 .exact c.elim
theorem CF (g:X.calm=true) (I:Gl X "dict") (J:X.mg "dict" = none) (l:Gl X "zip") (o:X.mg "zip" = none) (C:qM X [a,b] U)
  (T:starEach [a,b] X.env=(false,eval a X.env)::starEach [b] X.env:=by rfl) (r:(backTo j (starEach [b] X.env)).any (·.1)=false:=by rfl) :
  PD X (.Call (.Name "dict" p) [.Call (.Name "zip" p') [a,b] [] j] [] pos) (dC Ja U):=(Vk g I J l o C T r).mono λ_ _ _ h=>Dm V9 h
end
end L2
namespace PySem
open PyProof.Rows L2
section
variable {R:Result->Ae->Prop}
def A4:Ab (Int×Tok)->Array Ac
 | none=>#[]
 | some (b,t)=>#[.int b t,.int b t]
def uX (o:Ab (Int×Tok)) (x:Int×Tok):Ab (Int×Tok) :=
 match o with
 | none=>some x
 | some b=>if b.1<x.1 then some x else some b
def zV (d:Ac):Ab (Int×Tok)->Ac
 | none=>d
 | some (b,t)=>.int b t
abbrev xH (I S:Ad) (d:Ac):Code:=.builtin "max.loop" ⟨[.ref I,.none,.ref S],[(Str.ofString "default",d)]⟩
def tR (h:Ag) (S:Ad) (o:Ab (Int×Tok)):Prop:=∃ c,h.get? S=some { cls:=.type "list",dict:=none,data:=.seq (A4 o) c,slots:=#[] }
theorem tR.on {S:Ad}(k:tR h S o) (e:g.get? S=h.get? S):tR g S o:=k.imp λ_ q=>e.trans q
theorem Iw {S:Ad}(k:tR s.heap S o) (j:f (A4 o)=A4 o')
  (go:∀ g,tR g S o'->(∀ b,b≠S->g.get? b=s.heap.get? b)->Q () { s with heap:=g }):wpAny (model l w) A (updateSeq S f) Q E s:=by
 obtain⟨c,e⟩:=k;have a:∀ o,(A4 o).size<=2:=λo=>by cases o<;>simp[A4]
 have line:2<=sizeLine:=by decide
 have d:=jN (Obj.mapSeq f) e rfl;simp only[Obj.mapSeq,j] at d;exact wpAny_updateSeq e rfl (go _ ⟨_,d⟩ λb n=>jH _ _ (cQ n)) (bV (a _) line) (by rw[j];exact Nat.le_succ_of_le (bV (a _) line))
theorem Dt {S:Ad}(go:codeAny (model g w) A (xH I S d) R s):(xH I S d).quiet=true/\codeAny (model g w) A (xH I S d) R s:=⟨gE F.plain_max_loop _,go⟩
theorem S3 {S:Ad}(g:S≠I) (hit:s.heap.IsListIter I l j) (T:s.heap.IsList l items) (J:items[j]?=some (.int n t)) (C:tR s.heap S o)
  (go:∀ r,r.IsListIter I l (j+1)->tR r S (uX o (n,t))->(∀ b,b≠I->b≠S->r.get? b=s.heap.get? b)->codeAny (model p w) A (xH I S d) R { s with heap:=r }) :
  codeAny (model p w) A (xH I S d) R s:=by
 have name:(toString "max" ++ toString ".loop" : String) = "max.loop" := rfl;refine dU F.entry_max_loop ?_;rw[cM F.plain_max_loop _];obtain⟨c,y⟩:=id C;show wpAny _ A.in1 (seqItems? (.ref S) >>= _) _ _ s;refine aA (dP y rfl ?_);refine aA (iF (jE hit T J λz a m=>?_));have f:tR z S o:=C.on (m.2 S g);refine aA (aH ?_);cases o with
 | none =>
  refine aA (Iw (o':=some (n,t)) f rfl λv h k=>?_);rw[name];exact aH (Dt (go v (a.at λo e=>(k I (cQ g)).trans e) h λb i q=>(k b q).trans (m.2 b i)))
 | some x =>
  obtain⟨b,u⟩:=x;refine aA (iF (bS (aA (richCompare_gives (op:=.Gt) (kT _ _ t) (kT _ _ u) F.slot_int_gt F.entry_int_gt (F.args_int_gt_2 _ _) (gives_int_gt _ _ t u) (λx=>nomatch x) ?_))));refine aA (bS (iC (aA (jY (aH ?_)))));by_cases lt:b<n
  .have e:uX (some (b,u)) (n,t)=some (n,t):=bE lt;rw[e] at go;rw[bE (cG lt)];refine aA (Iw (o':=some (n,t)) f rfl λv h k=>aA (jY ?_));rw[name];exact aH (Dt (go v (a.at λo e=>(k I (cQ g)).trans e) h λb i q=>(k b q).trans (m.2 b i)))
  .have e:uX (some (b,u)) (n,t)=some (b,u):=bG lt;rw[e] at go;rw[bG (by rw[kN];exact lt)];refine aA (jY ?_);rw[name];exact aH (Dt (go z a f λb i _=>m.2 b i))
theorem ER {S:Ad}(calm:A.handled=none) (g:S≠I) (hit:s.heap.IsListIter I l j) (U:s.heap.IsList l items) (T:items[j]?=none) (J:tR s.heap S o)
  (out:∀ r,(∀ b p,b≠I->b≠S->s.heap.get? b=some p->r.get? b=some p)->R (.ok (.ret (zV d o))) { s with heap:=r }) :
  codeAny (model C w) A (xH I S d) R s:=by
 refine dU F.entry_max_loop ?_;rw[cM F.plain_max_loop _];obtain⟨c,a⟩:=id J;show wpAny _ A.in1 (seqItems? (.ref S) >>= _) _ _ s;refine aA (dP a rfl ?_);refine aA (iF (jM (A:=A.in1) calm hit U T λk h=>?_));cases o with
 | none=>exact aA (kK (aH (out k λb p f _ e=>h b p f e)))
 | some x=>exact aA (Iw (o':=none) ⟨c,h S _ g a⟩ rfl λm _ n=>aA (jY (aH (out m λb p f i e=>(n b i).trans (h b p f e)))))
theorem S5 {S:Ad}(calm:A.handled=none) (g:S≠I) (r:l≠I) (C:l≠S) (left:Aa (Int×Tok)) :
  ∀ (j:Nat) (o:Ab (Int×Tok)) (s:Ae),items.toList.drop j=left.map (λx=>.int x.1 x.2)->s.heap.IsListIter I l j->s.heap.IsList l items->tR s.heap S o ->
   (∀ J,(∀ b p,b≠I->b≠S->s.heap.get? b=some p->J.get? b=some p)->R (.ok (.ret (zV d (left.foldl uX o)))) { s with heap:=J })->codeAny (model T w) A (xH I S d) R s:=by
 induction left with
 | nil =>
  intro j o s hd hit f h out;have a:items[j]?=none:=by
   rw[<- fA,<- hU j,<- iY,hd];rfl
  exact ER calm g hit f a h out
 | cons x left t =>
  intro j o s hd hit f h out;have this:items[j]?=some (.int x.1 x.2):=by
   rw[<- fA,<- hU j,<- iY,hd];rfl
  have rest:items.toList.drop (j+1)=left.map (λx=>.int x.1 x.2):=by
   rw[<- List.drop_drop,hd];rfl
  exact S3 g hit f this h λv c i n=>t (j+1) _ _ rest c (f.at λp e=>(n l r C).trans e) i λq u=>out q λb p k m e=>u b p k m ((n b k m).trans e)
theorem Hz:∀ (left:Aa (Int×Tok)) (b:Int×Tok),∃ m,left.foldl uX (some b)=some m/\(m=b\/m∈left)/\b.1<=m.1/\∀ x∈left,x.1<=m.1
 | [],b=>⟨b,rfl,.inl rfl,gB _,λ_ h=>nomatch h⟩
 | x::left,b=>by
  rw[fY];show ∃ m,left.foldl uX (if b.1<x.1 then some x else some b)=some m/\_;by_cases lt:b.1<x.1
  .rw[bE lt];obtain⟨m,e,w,g,all⟩:=Hz left x;exact⟨m,e,.inr (w.elim (λq=>q▸aE) (aK _)),by omega,λy a=>(aF.mp a).elim (λq=>q▸g) (all y)⟩
  .rw[bG lt];obtain⟨m,e,w,g,all⟩:=Hz left b;exact⟨m,e,w.imp_right (aK _),g,λy a=>(aF.mp a).elim (λq=>by rw[q];omega) (all y)⟩
theorem BY (a v:Ac):argsOk "max" ⟨[a],[(Str.ofString "default",v)]⟩:=by unfold argsOk;kernel_rfl
theorem Xh {vs:Aa (Int×Tok)}(calm:A.handled=none) (g:s.heap.IsList l items) (C:items.toList=vs.map λx=>.int x.1 x.2)
  (out:∀ j,(∀ b o,s.heap.get? b=some o->j.get? b=some o)->Q (zV d (vs.foldl uX none)) { s with heap:=j }) :
  wpAny (model r w) A (call (.builtin "max") [.ref l] [(Str.ofString "default",d)]) Q E s:=by
 have name:(toString "max" ++ toString ".loop" : String) = "max.loop" := rfl;have bound:Builtin.Builtins.bindParams "max" ["key","default"] 0 ⟨[],[(Str.ofString "default",d)]⟩=pure [none,some d]:=rfl;have lt:l<s.heap.objs.size:=by
  obtain⟨_,e,_⟩:=g;exact aL e
 refine kmk_tree F.kind_max F.plain_max F.entry_max (BY _ _) ?_;show wpAny _ A.in1 (Builtin.Builtins.bindParams "max" ["key","default"] 0 ⟨[],[(Str.ofString "default",d)]⟩ >>= _) _ _ s;rw[bound];refine aA (aH (aA (aH (aA (eF g (aA (wpAny_newList ?_ (dN _))))))));rw[name];have a:(s.heap.push { cls:=.type "list_iterator",data:=.fields #[.ref l,.int 0 0] }).objs.size=s.heap.objs.size+1:=cN ..;have same:∀ b p,s.heap.get? b=some p->((s.heap.push { cls:=.type "list_iterator",data:=.fields #[.ref l,.int 0 0] }).push (seqObj "list" #[] 0)).get? b=some p:=λb p e=>aI _ (aI _ e)
 have less:∀ b p,s.heap.get? b=some p->b<s.heap.objs.size:=λ_ _ e=>aL e
 refine aH (Dt (S5 (l:=l) (items:=items) calm ?_ (bF lt) ?_ vs 0 none _ C ⟨_,aI _ (aX _ rfl),rfl,rfl⟩ (g.at λp e=>same _ p e) ⟨0,aX _ rfl⟩ λc f=>?_))
 .rw[a];exact Nat.succ_ne_self _
 .rw[a];exact bF (jI lt)
 .exact out c λb p e=>f b p (bF (less b p e)) (by rw[a];exact bF (jI (less b p e))) (same b p e)
end
end PySem
namespace L2
open PySem PySem.Spec PyProof.Rows Lw
section
variable {X:Cx}{K:kY}
def Xi (K:kY) (j g:TE):TE:=λd H Q=>uF j uN d H λf e=>uF g uN d e λh c=>∃ (l:Ad) (b:Aa Int) (y:V),f=[.ref l]/\h=[y]/\eT K c l (b.map V.int)/\(b=[]->Q y c)/\∀ m:Int,m∈b->(∀ a∈b,a<=m)->Q (.int m) c
theorem To (C:X.calm=true) (T:Gl X "max") (U:X.mg "max" = none) (J:PE X e r) (hd:PE X d o) (j:starEach [e] X.env=[(false,eval e X.env)]:=by rfl) :
  PE X (.Call (.Name "max" p) [e] [⟨some "default",d,kp⟩] pos) (Xi X.K r o):=by
 intro c s S H Q I h;refine dO (tO I T U boot_max ?_ (by decide) (by decide));have D:PK X [⟨some "default",d,kp⟩] (uF o uN):=Xv hd Yf;have B:PA X [e] (uF r uN):=uL J lI j;refine callWith_kw (e:=e) (rest:=[]) (hO (B pos c s S H _ I h) λus s1 i=>?_) (by rw[j];rfl) (by rw[j];rfl) rfl rfl;obtain⟨xs,V,W,r1,q1⟩:=i;refine hO (D pos c s1 S V _ W q1) λws s2 i=>?_
 obtain⟨ys,F,z,A,q2⟩:=i;obtain⟨l,E,y,rfl,rfl,M,N,O⟩:=q2;obtain⟨u,rfl,ru⟩:=oM r1;obtain⟨v,rfl,rv⟩:=oM A;cases ru;obtain⟨w,R,P,hz⟩:=z.list M;have G:=R.length;rw[aB] at G;show wpAny _ _ (call (.builtin "max") [.ref l] [(Str.ofString "default",v)]) _ _ s2;have toks:∃ b:Aa (Int×Tok),w=(b.map λx=>Value.int x.1 x.2)/\b.map Prod.fst=E:=by
  clear P hz N O M;induction E generalizing w with
  | nil=>exact⟨[],List.length_eq_zero_iff.mp G.symm,rfl⟩
  | cons n E ih =>
   cases R with
   | cons q A =>
    obtain⟨t,rfl⟩:=q;obtain⟨b,rfl,e⟩:=ih _ A (by simpa using A.length);exact⟨(n,t)::b,rfl,by rw[<- e];rfl⟩
 obtain⟨b,rfl,f⟩:=toks;refine Xh (vs:=b) (z.ok.hd C) P.isList rfl λh' k=>?_
 cases b with
 | nil=>exact⟨y,F,z.kept k,rv,N f.symm⟩
 | cons x b =>
  obtain⟨m,Y,wm,g,all⟩:=Hz b x;have e:zV v ((x::b).foldl uX none) = .int m.1 m.2:=by
   show zV v (b.foldl uX (some x))=_;rw[Y];rfl
  rw[e];refine⟨.int m.1,F,z.kept k,⟨m.2,rfl⟩,O m.1 ?_ λa L=>?_⟩
  .rw[<- f];exact aD.mpr ⟨m,aF.mpr (wm.imp_left id),rfl⟩
  .rw[<- f] at L;obtain⟨p,Z,rfl⟩:=aD.mp L;exact (aF.mp Z).elim (λq=>q▸g) (all p)
end
section
variable {X:Cx}
def Gh (j g:mB):mB:=λe k f=>j e k λr d=>g e d λh b=>match sd r,sd h with
 | some (.l i),some y=>∃ c,sJ i=some c/\(c=[]->f (.v y) b)/\∀ m:Int,m∈c->(∀ a∈c,a<=m)->f (.v (.int m)) b
 | _,_=>False
theorem Qc (g:X.calm=true) (o:Gl X "max") (C:X.mg "max" = none) (j:PD X e U) (hd:PD X d J) (I:starEach [e] X.env=[(false,eval e X.env)]:=by rfl) :
  PD X (.Call (.Name "max" p) [e] [⟨some "default",d,kp⟩] pos) (Gh U J) :=
 (To g o C j hd I).mono λσ H Q n=>n.elim λB V T Φ E hd G k=>⟨B,V,T,_,E,hd,G,λr q x W K d1 w=>⟨B,q,(r,some x)::T,_,K,d1,w,λR f y s u d2 b=>by
  cases h:sd r with
  | none=>rw[h] at b;exact b.elim
  | some c =>
   cases i:sd R with
   | none=>rw[h,i] at b;cases c<;>exact b.elim
   | some Y =>
    rw[h,i] at b;cases c with
    | l xs =>
     obtain⟨N,F,L,M⟩:=b;obtain⟨v,O,P⟩:=d2.two h i;obtain⟨a,Z,rfl,_,t,S⟩:=O.lst_inv;rw[xW F S] at t;exact⟨a,N,y,rfl,rfl,eT.of t,λz=>k _ f y s u (v.push P) (L z),λm A D=>k _ f _ s u (v.push (.int m)) (M m A D)⟩
    | _=>exact b.elim⟩⟩
end
def Jd (K:kY) (a:Ad):It :=
 ⟨λi H=>∃ b x,eT K H a b/\b[i]?=some x,λi H v c=>∃ p x,H p=none/\v = .ref p/\c=upd H p (.t [.int i,x])/\∀ b,eT K H a b->b[i]?=some x,λi H=>∃ b,eT K H a b/\b.length<=i⟩
def Sx (a e g:Ad) (i:Nat) (h:Ag):Prop:=(∃ old,IsEnum h e g i old)/\h.IsListIter g a i
theorem ED {P:Ah}{K:kY}(g:e≠it) :
  Turn P w K (.Tuple j x1 pos) (Jd K a) [e,it] e (Sx a e it) where
 mem:=by simp
 obj:=λi h st c m=>by
  obtain⟨⟨old,d⟩,⟨o4,f,c4,p⟩⟩:=st;simp only[aF,bJ,dL] at m;rcases m with e | e<;>subst e
  .exact⟨_,d,λv z=>nomatch z⟩
  .exact⟨_,f,λv z=>by rw[p] at z;cases z⟩
 keep:=λi h R st k=>by
  obtain⟨⟨old,d⟩,f⟩:=st;exact⟨⟨old,k e (by simp) _ d⟩,f.at λo q=>k it (by simp) o q⟩
 item:=by
  intro X B hw A m i n s σ H E I t st D;subst B hw A;obtain⟨⟨old,d⟩,f⟩:=st;obtain⟨xs,x,u,W⟩:=D;obtain⟨G,N,L,_⟩:=I.list u;obtain⟨Q,F,M⟩:=N.get W;refine wpAny_pyNext_enum_item d f L.isList (x:=Q) (by simpa using F) g λR T U Y n4 n5=>?_
  refine⟨_,rfl,wpAny_letOwnedTupleGo_enum T λS J y=>?_⟩;have C:∀ c o,c∉[e,it]->s.heap.get? c=some o->S.get? c=some o:=λc o b q=>by
   simp only[aF,bJ,dL,jU] at b;exact y.extBut c o b.1 (n5 c o b.1 b.2 q)
  have Z:s.heap.objs.size≠e:=λq=>cV _ (by have:=aL d;rw[<- q] at this;exact this)
  have nt:uT S s.heap.objs.size [.int i s.toks,Q].toArray:=⟨⟨_,y.extBut _ _ Z Y,rfl,_,rfl⟩,_,y.extBut _ _ Z Y,rfl⟩;have l:=I.movedT (t':=s.toks+1) (ys:=[.int i,x]) t C nt (.cons ⟨_,rfl⟩ (.cons M .nil)) (by show 2<=sizeLine;decide);refine⟨.ref s.heap.objs.size,_,l,rfl,⟨_,x,I.fresh,rfl,rfl,λaa q'=>by rw[I.list_inj q' u];exact W⟩,⟨⟨Q,?_⟩,?_⟩,λc b=>?_⟩
  .have:((i+1:Nat):Int)=(i:Int)+1:=by omega
   rw[this];exact J
  .exact U.at λo q=>y.extBut _ o (cQ g) q
  .rw[iO]
   .exact (t c b).1
   .intro q;obtain⟨o,r⟩:∃ o,s.heap.get? c=some o:=by
     obtain⟨o4,O,_⟩:=f;simp only[aF,bJ,dL] at b;rcases b with q | q<;>rw[q]
     .exact⟨_,d⟩
     .exact⟨_,O⟩
    have:=aL r;rw[q] at this;exact cV _ this
 done:=by
  intro X B hw A m i n s σ H E I t st D;subst B hw A;obtain⟨⟨old,d⟩,f⟩:=st;obtain⟨xs,u,V⟩:=D;obtain⟨G,N,L,_⟩:=I.list u;have lx:=N.length;refine wpAny_pyNext_enum_end (I.ok.hd m) d f L.isList (by simp;omega) λR k=>⟨rfl,I.moved (t':=s.toks) t λc o b q=>?_⟩
  simp only[aF,bJ,dL,jU] at b;exact k c o b.2 q
 self:=λ_ _ _ _ _ st h=>by
  obtain⟨⟨old,d⟩,f⟩:=st;exact wpAny_pyIter_enum d h
section
variable {X:Cx}{K:kY}
def CY (K:kY) (g:TA):TI:=λe H R=>g e H λc b=>∃ a,c=[.ref a]/\(∃ d,eT K b a d)/\R (Jd K a) b
theorem Xn (l:Gl X "enumerate") (o:X.mg "enumerate" = none) (j:PA X [e] C) (r:starEach [e] X.env=[(false,eval e X.env)]:=by rfl) :
  PI X (.Tuple g T J) (.Call (.Name "enumerate" p) [e] [] pos) (CY X.K C):=by
 intro b s t H R I h;refine Call_ (tO I l o boot_enumerate (bZ (hO (j pos b s t H _ I h) λM f i=>?_) r rfl));obtain⟨N,k,d,E,B⟩:=i;obtain⟨a,rfl,⟨O,D⟩,q⟩:=B;obtain⟨u,rfl,F⟩:=oM E;cases F;obtain⟨x,L,A,_⟩:=d.list D;refine call_enumerate_list A.isList λw n y G z=>?_
 have v:Inv X b t k { f with heap:=w }:=d.kept (t':=f.toks) z;refine wpAny_pyIter_enum n ⟨_,[_,_],_,_,k,rfl,v,ED (a:=a) (e:=f.heap.objs.size+1) (it:=f.heap.objs.size) (Nat.succ_ne_self _),⟨⟨_,n⟩,y⟩,λc m=>?_,q⟩;simp only[aF,bJ,dL] at m;rcases m with e | e<;>(subst e;exact d.fpOk (by omega) (d.hok.fresh (by omega)))
def vU (g:Aa D):Aa D:=(List.range g.length).zipWith (λi d=>D.t [.int (i:Nat),d]) g
theorem Mq {xs:Aa D}{i:Nat}{d:D}(h:xs[i]?=some d):(vU xs)[i]?=some (.t [.int i,d]):=by
 obtain⟨a,rfl⟩:=aT.mp h;unfold vU;simp[a]
theorem Ez:(vU g).length=g.length:=by simp[vU]
theorem EW:YD K (Jd K a) (vU g) [(.v (.l g),some (.ref a))]:=by
 have key:∀ A H,wQ K A H [(.v (.l g),some (.ref a))]->∃ b,eT K H a b/\Reps K A H g b:=λA H ok=>by
  obtain⟨v,e,r⟩:=ok _ aE;cases e;obtain⟨q,b,e,_,c,f⟩:=r.lst_inv;cases e;exact⟨b,eT.of c,f⟩
 refine⟨rfl,λi H A h ok=>?_,λi H A x n h ok y=>?_,λi H A h ok=>?_⟩
 .obtain⟨b,c,f⟩:=key A H ok;rw[Ez] at h;exact⟨b,b[i]'(by rw[<- f.length];exact h),c,aG _⟩
 .obtain⟨b,c,f⟩:=key A H ok;obtain⟨p,z,k,rfl,rfl,m⟩:=y;obtain⟨d,hd,rd⟩:=f.getV (m b c);exact⟨_,Mq hd,.inr ⟨p,_,_,k,rfl,rfl,rfl,.cons (.int _) (.cons rd .nil)⟩⟩
 .obtain⟨b,c,f⟩:=key A H ok;rw[Ez] at h;exact⟨b,c,by rw[<- f.length];omega⟩
def BK (g:mB):uM:=λb e d=>g b e λr a=>match sd r with
 | some (.l c)=>d (vU c) a
 | _=>False
theorem GL (o:Gl X "enumerate") (C:X.mg "enumerate" = none) (j:PD X e U) (J:starEach [e] X.env=[(false,eval e X.env)]:=by rfl) (I:vP e=true:=by rfl) :
  wJ X (.Tuple g x1 ps) (.Call (.Name "enumerate" p) [e] [] pos) (BK U) :=
 (Xn o C (lB j lI I) J).mono λA H R f=>f.elim λB w T z n hd q k=>⟨B,w,T,_,n,hd,q,λr h v i s d1 b=>by
  cases c:sd r with
  | none=>rw[c] at b;exact b.elim
  | some d =>
   rw[c] at b;have d2:=d1.thaw c;have t:=d2.valAt;cases d with
   | l y=>obtain⟨a,u,rfl,_,m,x⟩:=t.lst_inv;exact⟨a,rfl,⟨u,eT.of m⟩,k _ _ h [_] i s d2 EW b⟩
   | _=>exact b.elim⟩
end
end L2
namespace Lw
open PySem L2
abbrev oD:=Aa (Af×Int)
abbrev nI:=Aa (Af×Af×Aa Af)
noncomputable def lZ (t:oD):Aa (hI×D):=t.map λp=>(Sum.inr p.1,D.int p.2)
noncomputable def look (t:oD) (x:Af):Int:=match t.find? (λp=>decide (p.1=x)) with
 | some p=>p.2
 | none=>0
def mx:Aa Int->Int
 | []=>0
 | a::r=>if mx r<=a then a else mx r
theorem AM:look [] x=0:=rfl
theorem sS:look (p::t) x=if p.1=x then p.2 else look t x:=by
 unfold look;rw[eO];by_cases h:p.1=x<;>simp[h]
theorem xD:∀ (t:oD) (x:Af),(x∈t.map (·.1)->pZ (lZ t) (Sum.inr x)=some (.int (look t x)))/\(x∉t.map (·.1)->pZ (lZ t) (Sum.inr x)=none/\look t x=0)
 | [],x=>⟨λh=>by simp at h,λ_=>⟨rfl,rfl⟩⟩
 | p::t,x=>by
  have a:=xD t x;have e:lZ (p::t)=(Sum.inr p.1,D.int p.2)::lZ t:=rfl;rw[e,Br,sS];by_cases h:p.1=x
  .subst h;exact⟨λ_=>by rw[bE rfl,bE rfl],λn=>absurd (by simp) n⟩
  .have b:(Sum.inr p.1:hI)≠Sum.inr x:=λq=>h (Sum.inr.inj q)
   rw[bG b,bG h];refine⟨λm=>a.1 ?_,λm=>a.2 λq=>m (by simp only[aY,aF];exact .inr q)⟩;simp only[aY,aF] at m;exact m.resolve_left λq=>h q.symm
theorem CP (t:oD) (x:Af):(pZ (lZ t) (Sum.inr x)).getD (.int 0) = .int (look t x):=by
 by_cases h:x∈t.map (·.1)
 .rw[(xD t x).1 h];rfl
 .rw[((xD t x).2 h).1,((xD t x).2 h).2];rfl
theorem Kd (h:x∉t.map (·.1)):qZ (lZ t) (Sum.inr x) (.int n)=lZ (t++[(x,n)]):=by
 unfold qZ;rw[Fo,((xD t x).2 h).1];simp[lZ]
theorem Q0:∀ (u t:oD),((t++u).map (·.1)).Nodup->qY (lZ t) (lZ u)=lZ (t++u)
 | [],t,_=>by simp[qY,lZ]
 | p::u,t,h=>by
  have a:p.1∉t.map (·.1):=λq=>by
   rw[aO] at h;exact (bN.mp h).2.2 p.1 q p.1 (by simp) rfl
  have e:qY (lZ t) (lZ (p::u))=qY (qZ (lZ t) (Sum.inr p.1) (.int p.2)) (lZ u):=rfl;rw[e,Kd a,Q0 u (t++[p]) (by simpa using h)];simp
theorem Nk (h:(t.map (·.1)).Nodup):qY [] (lZ t)=lZ t:=by
 have:=Q0 t [] (by simpa using h)
 simpa [lZ] using this
theorem Gi (h:x∈t.map (·.1)):look (t++u) x=look t x:=by
 induction t with
 | nil=>simp at h
 | cons p t a =>
  rw[cL,sS,sS];by_cases e:p.1=x
  .rw[bE e,bE e]
  .rw[bG e,bG e];simp only[aY,aF] at h;exact a (h.resolve_left λq=>e q.symm)
theorem W1 (h:x∉t.map (·.1)):look (t++[(x,n)]) x=n:=by
 induction t with
 | nil=>rw[kA,sS,bE rfl]
 | cons p t a =>
  simp only[aY,aF,jU] at h;rw[cL,sS,bG λq=>h.1 q.symm];exact a h.2
theorem uW:∀ g:Aa Int,0<=mx g
 | []=>gB _
 | a::r=>by
  have:=uW r;unfold mx;split<;>omega
theorem wO:∀ {g:Aa Int}{a:Int},a∈g->a<=mx g
 | b::r,a,h=>by
  unfold mx;rcases aF.mp h with rfl | h
  .split<;>omega
  .have:=wO h;split<;>omega
theorem xZ:∀ g:Aa Int,mx g=0\/mx g∈g
 | []=>.inl rfl
 | a::r=>by
  unfold mx;split
  .exact .inr aE
  .exact (xZ r).imp id λh=>aK _ h
theorem wS (h:m=0\/m∈ns) (g:0<=m) (j:∀ a∈ns,a<=m):m=mx ns:=by
 have b:m<=mx ns:=h.elim (λe=>by rw[e];exact uW ns) wO;have c:mx ns<=m:=(xZ ns).elim (λe=>by rw[e];exact g) (j _);omega
def sY (t:oD) (g:Af×Af×Aa Af):oD:=t++[(g.1,mx (g.2.2.map λo=>1+look t o))]
def tbl (ins:Aa Af) (g:nI) (rD:Af->Int):oD:=g.foldl sY (ins.map λn=>(n,rD n))
theorem Ht (h:∀ p∈t,0<=p.2) (x:Af):0<=look t x:=by
 induction t with
 | nil=>exact gB _
 | cons p t b =>
  rw[sS];split
  .exact h p (by simp)
  .exact b λq a=>h q (by simp[a])
theorem Nl:∀ (j:nI){t:oD},(∀ p∈t,0<=p.2)->∀ p∈j.foldl sY t,0<=p.2
 | [],_,h=>h
 | g::j,t,h=>Nl j λp a=>by
  rcases aV.mp a with q | q
  .exact h p q
  .rw[aU.mp q];exact uW _
theorem Ea (h:∀ x,0<=f x) (x:Af):0<=look (tbl ins gs f) x:=Ht (Nl gs λp a=>by
 obtain⟨n,_,rfl⟩:=aD.mp a;exact h n) x
theorem Rh:∀ (j:nI) (t:oD),(j.foldl sY t).map (·.1)=t.map (·.1)++j.map (·.1)
 | [],t=>by simp
 | g::j,t=>by rw[fY,Rh j];simp[sY]
theorem F4 (ins:Aa Af) (g:nI) (f:Af->Int):(tbl ins g f).map (·.1)=ins++g.map (·.1):=by
 unfold tbl;rw[Rh];simp[cX]
def rD (al:Aa (Af×Af)) (t:oD):oD:=al.map λp=>(p.2,look t p.1)
def Cr (ins:Aa Af) (g:nI) (al:Aa (Af×Af)):Nat->oD
 | 0=>al.map λp=>(p.2,0)
 | i+1=>rD al (tbl ins g (look (Cr ins g al i)))
def Tb (ins:Aa Af) (g:nI) (al:Aa (Af×Af)) (i:Nat):oD:=tbl ins g (look (Cr ins g al i))
section
theorem Dh:∀ (i:Nat) (x:Af),0<=look (Cr ins g al i) x
 | 0,x=>Ht (λp a=>by
  obtain⟨q,_,rfl⟩:=aD.mp a;exact gB _) x
 | i+1,x=>Ht (λp a=>by
  obtain⟨q,_,rfl⟩:=aD.mp a;exact Ea (Dh i) _) x
theorem Fv (i:Nat):(Cr ins gs al i).map (·.1)=al.map (·.2):=by
 cases i<;>simp[Cr,rD,cX]
def Mx (ins:Aa Af) (g:nI) (al:Aa (Af×Af)) (os:Aa Af) (i:Nat):Int:=mx (os.map (look (Tb ins g al i)))
end
end Lw
namespace L2
open PySem PySem.Spec PyProof.Rows Lw
section
variable {X:Cx}{K:kY}
theorem Z3:mK X (.type "int") (λg H Q=>∃ (x:Af) (n:Int),g=[.str x]/\intText? x=some n/\x.length<=640/\Q (.int n) H):=by
 intro a s k H g i Q I r h;obtain⟨x,n,rfl,c,d,q⟩:=h;obtain⟨u,rfl,f⟩:=oM r;obtain⟨t,rfl⟩:=f;exact PySem.W.KIN.call_text c d ⟨.int n,H,I.kept (t':=s.toks+1) λb o e=>e,⟨_,rfl⟩,q⟩
def Zp:OC:=λa b=>match a with
 | [.str x]=>∃ n,intText? x=some n/\x.length<=640/\b (.v (.int n))
 | a=>Gm a b
def Iv:Aa V->Hp->VK->Prop:=λa H Q=>((∃ i,a=[.int i]/\Q (.int i) H)\/∃ k,a=[.b k]/\Q (.int (if k then 1 else 0)) H)\/∃ (x:Af) (n:Int),a=[.str x]/\intText? x=some n/\x.length<=640/\Q (.int n) H
theorem EC:mK X (.type "int") Iv:=Tl.or Z3
theorem Uf:qF K Iv Zp:=by
 intro B L H b e f Q hd c a k;have two:Gm b f->Iv e H Q:=λa=>.inl (X8 B L H b e f Q hd c a k)
 cases b with
 | nil=>exact two a
 | cons d b =>
 cases d<;>first | exact two a | skip
 cases b with
 | cons _ _=>exact two a
 | nil =>
 obtain⟨x,rfl,m⟩:=rJ c;have:=m.str_inv;subst this;obtain⟨n,h,i,a⟩:=a;exact .inr ⟨_,n,rfl,h,i,k _ _ H a (hd.pushF (.int _))⟩
end
section
theorem J9 (J:Aa α) (T out:α->D) (p:α->Bool) (C:Aa Sl) (ab:∀ Ψ:Aa D->Aa Sl->Prop,Ψ (J.map T) C->ι dk ρ Ψ) (hl:J.length<=100000)
  (hs:∀ (i:Nat) x (I:Aa D) (Nx:Aa D->Aa Sl->Prop),J[i]?=some x->I.length<100000->(p x=true->Nx (I++[out x]) (nK j C))->(p x=false->Nx I (nK j C))->g (T x) (List.replicate n Sl.n++nK j C) λac=>tt dk ac λb U=>if b=true then te dk U λr ae=>match sd r with
   | some c=>I.length<100000/\Nx (I++[c]) (ae.drop n)
   | none=>False
   else Nx I (U.drop n))
  (aa:Φ (.o (.l ((J.filter p).map out))) (oP j (nK j C) C)):wA n j ι g tt te dk ρ Φ:=by
 refine ab _ ⟨λi I a=>I=((J.take i).filter p).map out/\a=nK j C,⟨by simp,rfl⟩,?_,?_⟩
 .rintro i d I a hd _ ⟨f,h⟩;rw[bK] at hd;cases e:J[i]? with
  | none=>rw[e] at hd;cases hd
  | some x =>
   rw[e] at hd;cases hd;obtain⟨s,_⟩:=aT.mp e;have k:(J.take (i+1)).filter p=(J.take i).filter p++(if p x=true then [x] else []):=by
    rw[bX,e,List.filter_append];by_cases q:p x=true<;>simp[q]
   have len:I.length<100000:=by
    rw[f,aB];have m:=List.length_filter_le p (J.take i);rw[bT] at m;omega
   rw[h];refine hs i x I (λI a=>I=((J.take (i+1)).filter p).map out/\a=nK j C) e len (λq=>⟨?_,rfl⟩) λq=>⟨?_,rfl⟩
   .rw[k,bE q,f,aO];rfl
   .rw[k,bG (by rw[q];decide),fJ];exact f
 .rintro I a _ ⟨f,h⟩;rw[f,h,aB,List.take_length];exact aa
theorem nT (I:Aa α) (C out:α->D) (p:Aa Sl) (aa:∀ Ψ:Aa D->Aa Sl->Prop,Ψ (I.map C) p->ι dk ρ Ψ) (hl:I.length<=100000)
  (hs:∀ (i:Nat) x (J:Aa D) (T:Aa D->Aa Sl->Prop),I[i]?=some x->J.length<100000->T (J++[out x]) (nK j p)->g (C x) (List.replicate n Sl.n++nK j p) λab=>te dk ab λr ac=>match sd r with
   | some c=>J.length<100000/\T (J++[c]) (ac.drop n)
   | none=>False)
  (U:Φ (.o (.l (I.map out))) (oP j (nK j p) p)):wA n j ι g Gs te dk ρ Φ:=by
 refine J9 I C out (λ_=>true) p aa hl (λi x J T e a b _=>hs i x J T e a (b rfl)) ?_;have:I.filter (λ_=>true)=I:=List.filter_eq_self.mpr λ_ _=>rfl
 rw[this];exact U
end
end L2
namespace Lw
open PySem L2
abbrev E3:=Aa (Af×Af)
noncomputable def lK (t:E3):Aa (hI×D):=t.map λp=>(Sum.inr p.1,D.str p.2)
noncomputable def eM (t:E3) (x:Af):Af:=match t.find? (λp=>decide (p.1=x)) with
 | some p=>p.2
 | none => ""
theorem Dg:eM (p::t) x=if p.1=x then p.2 else eM t x:=by
 unfold eM;rw[eO];by_cases h:p.1=x<;>simp[h]
theorem F8:∀ (t:E3) (x:Af),(x∈t.map (·.1)->pZ (lK t) (Sum.inr x)=some (.str (eM t x)))/\(x∉t.map (·.1)->pZ (lK t) (Sum.inr x)=none)
 | [],x=>⟨λh=>by simp at h,λ_=>rfl⟩
 | p::t,x=>by
  have a:=F8 t x;have e:lK (p::t)=(Sum.inr p.1,D.str p.2)::lK t:=rfl;rw[e,Br,Dg];by_cases h:p.1=x
  .subst h;exact⟨λ_=>by rw[bE rfl,bE rfl],λn=>absurd (by simp) n⟩
  .have b:(Sum.inr p.1:hI)≠Sum.inr x:=λq=>h (Sum.inr.inj q)
   rw[bG b,bG h];refine⟨λm=>a.1 ?_,λm=>a.2 λq=>m (by simp only[aY,aF];exact .inr q)⟩;simp only[aY,aF] at m;exact m.resolve_left λq=>h q.symm
theorem V1 (h:x∉t.map (·.1)):qZ (lK t) (Sum.inr x) (.str n)=lK (t++[(x,n)]):=by
 unfold qZ;rw[Fo,(F8 t x).2 h];simp[lK]
theorem Mj:∀ (u t:E3),((t++u).map (·.1)).Nodup->qY (lK t) (lK u)=lK (t++u)
 | [],t,_=>by simp[qY,lK]
 | p::u,t,h=>by
  have a:p.1∉t.map (·.1):=λq=>by
   rw[aO] at h;exact (bN.mp h).2.2 p.1 q p.1 (by simp) rfl
  have e:qY (lK t) (lK (p::u))=qY (qZ (lK t) (Sum.inr p.1) (.str p.2)) (lK u):=rfl;rw[e,V1 a,Mj u (t++[p]) (by simpa using h)];simp
theorem Fy (h:(t.map (·.1)).Nodup):qY [] (lK t)=lK t:=by
 have:=Mj t [] (by simpa using h)
 simpa [lK] using this
theorem Cv:∀ (own g:Aa Af),(own.map λo=>(Sum.inr o:hI)).zip (g.map D.str)=lK (own.zip g)
 | [],_=>rfl
 | _::_,[]=>rfl
 | o::own,x::g=>by simp only[aY,cY,Cv own g];rfl
theorem Bf:∀ (own g:Aa Af),own.length=g.length->(own.zip g).map (·.1)=own
 | [],_,_=>rfl
 | _::_,[],h=>by simp at h
 | o::own,x::g,h=>by simp only[cY,aY,Bf own g (by simpa using h)]
theorem yM:∀ {own g:Aa Af}{o:Af},own.length=g.length->o∈own->eM (own.zip g) o∈g
 | [],_,_,_,h=>by cases h
 | _::_,[],_,h,_=>by simp at h
 | a::own,x::g,o,h,m=>by
  rw[cY,Dg];split
  .exact aE
  .rename_i e
   exact aK _ (yM (by simpa using h) ((aF.mp m).resolve_left λq=>e q.symm))
theorem En:∀ {own j:Aa Af}{o g:Af},own.length=j.length->j.Nodup->o∈own->g∈own->eM (own.zip j) o=eM (own.zip j) g->o=g
 | [],_,_,_,_,_,h,_,_=>by cases h
 | _::_,[],_,_,h,_,_,_,_=>by simp at h
 | a::own,x::j,o,g,h,k,m,d,e=>by
  rw[cY,Dg,Dg] at e;obtain⟨f,i⟩:=bW.mp k;have c:own.length=j.length:=by simpa using h
  by_cases q:a=o
  .by_cases b:a=g
   .rw[<- q,<- b]
   .rw[bE q,bG b] at e;have:=yM c ((aF.mp d).resolve_left λz=>b z.symm);dsimp only at e;rw[<- e] at this;exact absurd this f
  .by_cases b:a=g
   .rw[bG q,bE b] at e;have:=yM c ((aF.mp m).resolve_left λz=>q z.symm);dsimp only at e;rw[e] at this;exact absurd this f
   .rw[bG q,bG b] at e;exact En c i ((aF.mp m).resolve_left λz=>q z.symm) ((aF.mp d).resolve_left λz=>b z.symm) e
theorem rR:∀ {l:Aa g},l.Nodup->(∀ x∈l,∀ y∈l,f x=f y->x=y)->(l.map f).Nodup
 | [],_,_=>.nil
 | a::l,k,h=>by
  obtain⟨d,i⟩:=bW.mp k;refine bW.mpr ⟨λm=>?_,rR i λx c y b=>h x (aK _ c) y (aK _ b)⟩;obtain⟨y,b,e⟩:=aD.mp m;have:=h a aE y (aK _ b) e.symm;subst this;exact d b
def nA (i:Nat):Stmt:=PySem.Challenge.pw_laidcells_k31_whole_ways_of_rows_turned.main.body.getD i (.Pass ⟨0,0,0,0⟩)
abbrev Fb:Stmt:=nA 1
abbrev Ej:Stmt:=nA 3
abbrev Ei:Stmt:=nA 4
abbrev B5:Stmt:=nA 5
abbrev C0:Stmt:=nA 6
abbrev As:Stmt:=nA 7
abbrev zW:Stmt:=nA 8
abbrev xS:Stmt:=nA 9
abbrev Dp:Stmt:=nA 10
abbrev Et:Stmt:=nA 11
abbrev Ch:Stmt:=nA 12
abbrev Ci:Stmt:=nA 13
abbrev Di:Stmt:=nA 14
abbrev Du:Stmt:=nA 16
abbrev uH:Stmt:=nA 17
abbrev zS:Stmt:=nA 18
abbrev B2:Stmt:=nA 19
abbrev xB:Stmt:=nA 20
abbrev Cw:Stmt:=nA 21
abbrev Bz:Stmt:=nA 22
abbrev Cd:Stmt:=nA 23
abbrev Es:Stmt:=nA 24
abbrev Do:Stmt:=nA 25
abbrev Ce:Stmt:=nA 26
abbrev Ee:Stmt:=nA 27
abbrev Ef:Stmt:=nA 28
abbrev Eo:Stmt:=nA 29
abbrev Dy:Stmt:=nA 30
abbrev P4:Stmt:=nA 31
abbrev Ba:Stmt:=nA 31
structure Txt (mg:Str->Option Value):Prop where
 len:mg "len" = none
 range:mg "range" = none
 sum:mg "sum" = none
 min:mg "min" = none
 max:mg "max" = none
 tuple:mg "tuple" = none
 list:mg "list" = none
 set:mg "set" = none
 dict:mg "dict" = none
 int:mg "int" = none
 str:mg "str" = none
 zip:mg "zip" = none
 enumerate:mg "enumerate" = none
 all:mg "all" = none
 any:mg "any" = none
 isinstance:mg "isinstance" = none
 sorted:mg "sorted" = none
 abs:mg "abs" = none
 reversed:mg "reversed" = none
 bool:mg "bool" = none
structure Gd (K:kY) (mg:Str->Option Value) (x:Str) (st:Stmt) (ps:List Str) (f:Addr) (fd:FuncData):Prop where
 F:Fun K x x st f fd
 m:mg x=some (.ref f)
 k:PySem.W.keepIn K (.ref f)=true
 b:vC K fd ps []
def Kn (P:Ah) (w:World) (K:kY) (g:Af->Ab Ac) (base:Ag) (k:Nat) (x:Af) (st:Stmt) (j:Aa Af) (R:RD):Prop:=∃ f fd,Gd K g x st j f fd/\FnOk P w K g base mQ k f fd j (vW K R)
theorem lV {X:Cx}{st:Stmt}{R:RD}(G:Kn X.prog X.w X.K X.mg X.base k x st T R) (I:Room m X.A) (o:qM X (e::l) J) (C:k<=m:=by decide) (r:Gl X x:=by rfl) (g:(x == ("__debug__" : Af))=false:=by decide)
  (j:StB X e l pos:=by exact {}):PD X (.Call (.Name x p) (e::l) [] pos) (Je R J):=G.elim λ_ h=>h.elim λ_ h=>Wh h.2 (I.mono C) r h.1.m h.1.k h.1.b o g j
def oI (P:Ah) (w:World) (K:kY) (g:Af->Ab Ac) (base:Ag) (k:Nat) (x:Af) (st:Stmt) (j:Aa Af) (R:RD):Prop:=∀ f fd,Fun K x x st f fd->FnOk P w K g base mQ k f fd j (vW K R)
theorem oU {P:Ah}{K:kY}{st:Stmt}{R:RD}(S:FnScope N I (lU st))
  (j:∀ (f:Ad) (g:Ac) (A:Around) (l:Aa Env) (s:Ae) (H:Hp) (E:XK) (r:Aa Ad) (o:Aa D) (p:Sl->Prop),Room k (A.deeper (PyProof.Rows.envOfC x (lU st) s.heap.objs.size f g))->(A.deeper (PyProof.Rows.envOfC x (lU st) s.heap.objs.size f g)).units+1<cLine->R r o p ->∃ t,tU (vO mQ P w K J base N x (lU st) f g A l s H E).nox (qQ st) t/\t r { nx:=λ_=>p (.v .e),rt:=p } (xI N o)) (C:I.length<=N.length:=by decide) (hlen:∀ r o p,R r o p->o.length=I.length:=by rintro _ _ _ h;repeat' (rcases h with⟨i,h⟩;try (subst i;rfl))):oI P w K J base (k+1) x st I R:=λ_ _ F=>F.okD S hlen C λ_ _ _ _ _ _ _ _ _ a=>j _ _ _ _ _ _ _ _ _ _ a (Ni a)
def zM:Sp:=λb H Q _=>∃ (d c:Ad) (m:Int),b=[.ref d,.int m]/\DeckAt H d c/\0<m/\m<4611686018427387904/\∀ (r:Int) (a:Hp),0<=r->r<m->DeckAt a d c->lJ d c H a->Q (.int r) a
section
variable {P:Ah}{K:kY}
theorem G2:FnScope ["deck","many","at","cell"] ["deck","many"] (lU uH):=⟨rfl,rfl,rfl,by decide +kernel,rfl,by decide +kernel,by decide +kernel⟩
theorem Er (F:Fun K "_law_take" "_law_take" uH f fd) (T:Txt g):FnOk P w K g base mQ 1 f fd ["deck","many"] zM:=by
 refine F.ok G2 (λR H Q E h=>?_) (λG A x s H R Q E X h=>?_)
 .obtain⟨d,c,m,rfl,_⟩:=h;rfl
 .obtain⟨d,c,m,rfl,D,n,W,k⟩:=h;obtain⟨a,p,t,y,L,M⟩:=id D.ex;have q:=D.ne;refine⟨_,nP (nH (i:=2) G2.nd rfl (Or.inl rfl) (lW qG (oK pL (pv 0) mD (λ_ _=>rfl)) (rG vG (by rfl) T.len bD (uL (oK pL (pv 0) mD (λ_ _=>rfl)) lI)))) (nP (A9 (lW vE (oK pL (pv 0) mD (λ_ _=>rfl)) mD) (B1 (pv 0) mD El)) (nP (nH (i:=3) G2.nd rfl (Or.inl rfl) (oK pL (oK pL (pv 0) mD (λ_ _=>rfl)) (pv 2) (λ_ _=>rfl))) (nP (A9 (lW CO (pv 3) (pv 1)) (B1 (oK pL (pv 0) mD (λ_ _=>rfl)) (pv 2) El)) (qC (tY (lW qG (pv 3) (pv 1))))))),?_⟩;refine⟨_,rfl,d,_,_,_,rfl,rfl,eT.of t,rfl,_,rfl,d,_,_,_,rfl,rfl,eT.of t,rfl,c,_,rfl,.inl (eT.of y),_,_,rfl,rfl,?_,?_⟩
  .rw[aB];omega
  .rw[aB];have B:=eX p (show (a.length:Int)≠0 by omega);have S:=dQ p (show (0:Int)<a.length by omega);obtain⟨j,z⟩:=cU B;have v:j<a.length:=by omega
   have u:(a.map V.int)[j]?=some (V.int a[j]):=by simp[v]
   refine⟨_,rfl,d,_,_,_,rfl,rfl,eT.of t,rfl,_,_,rfl,rfl,_,rfl,d,_,_,1,rfl,rfl,t,rfl,?_⟩;have g1:upd H d (.l ([V.ref c,V.int p].set 1 (V.int (p+1)))) d=some (.l [.ref c,.int (p+1)]):=lE;have g2:upd H d (.l ([V.ref c,V.int p].set 1 (V.int (p+1)))) c=some (.l (a.map V.int)):=by rw[iO q.symm];exact y
   refine⟨_,rfl,d,_,_,_,rfl,rfl,eT.of g1,rfl,_,rfl,c,_,_,V.int a[j],rfl,rfl,eT.of g2,(by rw[z];exact pQ u),?_⟩
   .refine⟨_,rfl,_,rfl,_,_,rfl,rfl,⟨n,by omega⟩,_,rfl,d,_,_,_,rfl,rfl,eT.of g1,rfl,_,rfl,c,_,_,j,rfl,rfl,g2,?_,?_⟩
    .rw[z,aB];unfold sB;rw[bE (by omega),bE (by omega)];simp
    .refine⟨_,rfl,_,rfl,_,_,rfl,rfl,n,?_⟩;refine k _ _ (eX _ (by omega)) (dQ _ n) ⟨a.set j (a[j]/m),p+1,?_,?_,by rw[bQ];exact L,by rw[bQ];exact M⟩ ?_
     .rw[iO q];exact g1
     .rw[lE,List.map_set]
     .intro b o e N O;rw[iO O,iO N];exact e
end
theorem oC.new (h:H p=none):oC H (upd H p o):=λb u e=>by rw[iO (lT e h)];exact e
theorem Z9 (g:Aa Int) (lo j:Ab Int):∃ l:Aa Int,tM (g.map V.int) lo j=l.map V.int/\l.length<=g.length:=by
 refine⟨(g.drop (HT.sIx g.length 0 lo)).take (HT.sIx g.length g.length j-HT.sIx g.length 0 lo),?_,?_⟩
 .unfold tM;rw[List.length_map,List.map_take,List.map_drop]
 .rw[bT,dH];omega
def K7 (K:kY):Sp:=λf H Q _=>∃ (a:Ad) (e:Aa Int),f=[.ref a]/\eT K H a (e.map V.int)/\e.length<=63/\∀ (d c:Ad) (b:Hp),DeckAt b d c->H d=none->H c=none->oC H b->Q (.ref d) b
section
variable {P:Ah}{K:kY}
theorem An:FnScope ["script","cells","k","mixed"] ["script"] (lU Du):=⟨rfl,rfl,rfl,by decide +kernel,rfl,by decide +kernel,by decide +kernel⟩
theorem W7 (F:Fun K "_law_deck" "_law_deck" Du f fd) (T:Txt mg):FnOk P w K mg base mQ 1 f fd ["script"] (K7 K):=by
 refine F.ok An (λvs H Q E h=>?_) (λab A j s H vs Q E hr h=>?_)
 .obtain⟨a,t,rfl,_⟩:=h;rfl
 .obtain⟨a,t,rfl,W,aa,k⟩:=h;refine⟨_,nP (nH (i:=1) An.nd rfl (Or.inl rfl) (lW Aw (zD Fk (pv 0) Bi (zU mD)) (oR (uL (rG vG (by rfl) T.len bD (uL (pv 0) lI)) lI)))) (nP (yO (vJ C6 (lW qG (rG (Ur rfl) (by rfl) T.sum PyProof.Rows.boot_sum (uL (zD Fk (pv 0) Bi (zU mD)) lI)) mD) mD (uU _)) (qC (Ap dB rfl (xG rfl T.range (uL (rG vG (by rfl) T.len bD (uL (pv 1) lI)) lI)) (vA (i:=2) An.nd rfl (Or.inl rfl)) (nP (nH (i:=3) An.nd rfl (Or.inl rfl) (lW qG (lW vF (lW vE (lW vE (lW qG (oK pL (pv 1) (pv 2) (λ_ _=>rfl)) mD) (lW vF mD (pv 2))) mD) mD) mD)) (nP (nH (i:=3) An.nd rfl (Or.inl rfl) (lW qG (lW vF (lW qG (lW vE (lW vF (pv 3) (pv 3)) (lW vF mD (pv 2))) mD) mD) mD)) (qC (A9 (lW vE (lW vF (lW vF (pv 3) (pv 3)) mD) (lW qG (lW vF (pv 3) mD) mD)) (B1 (pv 1) (pv 2) El))))))) Aj) (qC (tY (oR (uL (pv 1) (uL mD lI)))))),?_⟩;obtain⟨q,em,ac⟩:=Z9 t none (some 63);refine⟨_,rfl,_,rfl,a,_,rfl,W,λG n1=>?_⟩;have r:oC H (upd H G (.l (tM (t.map V.int) none (some 63)))):=oC.new n1;rw[em] at r |-;refine⟨_,rfl,a,_,rfl,.inl (r.seq W),(by show 1<=sizeLine;decide),λp n2=>?_⟩;have s2:=r.trans (oC.new (o:=.l [V.int ((t.map V.int).length:Nat)]) n2);have q1:upd (upd H G (.l (q.map V.int))) p (.l [V.int ((t.map V.int).length:Nat)]) G=some (.l (q.map V.int)):=by rw[iO (lT lE n2)];exact lE
  refine⟨G,p,_,_,rfl,rfl,q1,lE,?_,λc nc=>?_⟩
  .rw[aB];exact bV (show q.length+1<=64 by omega) (by decide)
  have L:=s2.trans (oC.new (o:=.l (q.map V.int++[V.int ((t.map V.int).length:Nat)])) nc);have ec:q.map V.int++[V.int ((t.map V.int).length:Nat)]=(q++[((t.map V.int).length:Int)]).map V.int:=by simp
  rw[ec] at L |-;generalize Y:q++[((t.map V.int).length:Int)]=u at L;have D:0<u.length/\u.length<=64:=by rw[<- Y,bB,eJ];omega
  have B:H c=none:=s2.free nc;generalize S:upd (upd (upd H G (.l (q.map V.int))) p (.l [V.int ((t.map V.int).length:Nat)])) c (.l (u.map V.int))=J at L;have U:J c=some (.l (u.map V.int)):=by rw[<- S];exact lE
  have fin:∀ (m:Aa Int) (v x:Ab V) (O:Hp),oC H O->O c=some (.l (m.map V.int))->0<m.length->m.length<=64 ->
    (Nh (Qp (uF (pR 1) (uF (tC (.int 0)) uN)))) { nx:=λ_ H'=>Q .e H',rt:=Q } [some (.ref a),some (.ref c),v,x] O:=by
   intro m v x O N y l1 l2;refine⟨_,rfl,(by show 2<=sizeLine;decide),λd g=>?_⟩;refine k d c _ ⟨m,0,lE,by rw[iO (lT y g)];exact y,l1,by omega⟩ (N.free g) B (N.trans (oC.new g))
  refine⟨_,rfl,_,rfl,a,_,rfl,L.seq W,λp4 n4=>?_⟩;rw[em];have N:=L.trans (oC.new (o:=.l (q.map V.int)) n4);have y:upd J p4 (.l (q.map V.int)) c=some (.l (u.map V.int)):=by rw[iO (lT U n4)];exact U
  refine⟨p4,q,rfl,eT.of lE,_,_,rfl,rfl,(by show (0:Int)<2;decide),rfl,_,rfl,?_⟩;refine wR (λ_=>?_) (λ_=>?_)
  .refine⟨_,rfl,c,_,rfl,.inl (eT.of y),_,rfl,by omega,by rw[aB];omega,?_⟩;rw[aB,cW];refine E2 (lo:=0) (n:=u.length) (λi I z=>∃ (m:Aa Int) (v x:Ab V),I=[some (.ref a),some (.ref c),v,x]/\oC H z/\z c=some (.l (m.map V.int))/\m.length=u.length)
    ⟨u,none,none,rfl,N,y,rfl⟩ ?_ ?_
   .rintro i I z hi ⟨m,v,x,rfl,C,R,Z⟩;have X:(m.map V.int)[i]?=some (V.int (m[i]'(by omega))):=by simp[Z,hi]
    refine⟨_,rfl,_,rfl,c,_,_,V.int (m[i]'(by omega)),rfl,rfl,eT.of R,(by rw[Int.zero_add];exact pQ X),_,_,rfl,rfl,(by show (0:Int)<2147483587;decide),_,rfl,_,_,rfl,rfl,.inl (by decide),_,_,rfl,rfl,_,_,rfl,rfl,_,_,rfl,rfl,.inr (by decide),_,_,rfl,rfl,(by show (0:Int)<2147483629;decide),?_⟩;refine⟨_,rfl,_,rfl,_,_,rfl,rfl,.inl ?_,_,rfl,_,_,rfl,rfl,.inl (by decide),_,_,rfl,rfl,_,_,rfl,rfl,(by show (0:Int)<2147483563;decide),_,_,rfl,rfl,.inr (by decide),_,_,rfl,rfl,(by show (0:Int)<2147483549;decide),?_⟩
    .have b0:=eX ((m[i]'(by omega)%2147483587+853*(0+(i:Int))+11)*69621) (show (2147483629:Int)≠0 by decide);have b1:=dQ ((m[i]'(by omega)%2147483587+853*(0+(i:Int))+11)*69621) (show (0:Int)<2147483629 by decide);exact⟨by omega,by omega⟩
    generalize hM:((m[i]'(by omega)%2147483587+853*(0+(i:Int))+11)*69621%2147483629)=M;have b0:=eX ((M*M+31*(0+(i:Int)))%2147483563*16807) (show (2147483549:Int)≠0 by decide);have b1:=dQ ((M*M+31*(0+(i:Int)))%2147483563*16807) (show (0:Int)<2147483549 by decide);refine⟨_,rfl,_,rfl,_,_,rfl,rfl,.inl ?_,_,_,rfl,rfl,.inr (by decide),_,rfl,_,_,rfl,rfl,.inl ?_,_,_,rfl,rfl,(by show (0:Int)<2147483579;decide),_,_,rfl,rfl,_,rfl,_,rfl,c,_,_,i,rfl,rfl,R,?_,?_⟩
    .exact⟨by omega,by omega⟩
    .exact⟨by omega,by omega⟩
    .rw[aB];unfold sB;rw[bE (by omega),bE (by omega)]
     congr 1
     omega
    .refine⟨m.set i _,_,_,rfl,?_,by rw[lE,List.map_set],by rw[bQ];exact Z⟩;intro b o e;rw[iO (lT e B)];exact C b o e
   .rintro I z ⟨m,v,x,rfl,C,R,Z⟩;exact fin m v x z C R (by omega) (by omega)
  .exact fin u none none _ N y D.1 D.2
end
structure LS (n m:Nat) (x:Str):Prop where
 az:∀ c∈x.cps.toList,97<=c/\c<=122
 lo:n<=x.length
 hi:x.length<=m
theorem Wl (x y:Af):(x++y).cps.toList=x.cps.toList++y.cps.toList:=by
 show (x.cps++y.cps).toList=_;simp
theorem Ou (x y:Af):(x++y).length=x.length+y.length:=by
 show (x.cps++y.cps).size=_;simp[Str.length]
theorem LS.app (h:LS a b x) (g:LS c d y):LS (a+c) (b+d) (x++y) :=
 ⟨λz e=>by rw[Wl] at e;exact (aV.mp e).elim (h.az z) (g.az z),by rw[Ou];have:=h.lo;have:=g.lo;omega,by rw[Ou];have:=h.hi;have:=g.hi;omega⟩
theorem LS.weak (h:LS a b x) (g:c<=a) (j:b<=d):LS c d x:=⟨h.az,bV g h.lo,bV h.hi j⟩
noncomputable def Cg (n m:Nat) (x:Af):Bool:=x.cps.toList.all (λc=>decide (97<=c)&&decide (c<=122))&&decide (n<=x.length)&&decide (x.length<=m)
theorem LS.of (h:Cg n m x=true):LS n m x:=by
 unfold Cg at h;simp only[cE,dY,kN] at h;exact⟨h.1.1,h.1.2,h.2⟩
theorem LS.cutL (h:LS n n z) (g:k<=n):LS k k (rS z none (some (k:Int))):=by
 have e:z.length=n:=kD h.hi h.lo;have d:HT.sIx z.length z.length (some (k:Int))=k:=by rw[HT.sIx_nat];omega
 have a:(rS z none (some (k:Int))).cps.toList=z.cps.toList.take k:=by
  show ((z.cps.toList.drop (HT.sIx z.length 0 none)).take _).toArray.toList=_;rw[d,HT.sIx_none];simp
 have f:(rS z none (some (k:Int))).length=k:=by
  rw[<- wP,a,bT,wP];omega
 exact⟨λc b=>by rw[a] at b;exact h.az c (iH b),by omega,by omega⟩
theorem LS.cutR (h:LS n n z) (g:k<=n):LS (n-k) (n-k) (rS z (some (k:Int)) none):=by
 have e:z.length=n:=kD h.hi h.lo;have d:HT.sIx z.length 0 (some (k:Int))=k:=by rw[HT.sIx_nat];omega
 have a:(rS z (some (k:Int)) none).cps.toList=z.cps.toList.drop k:=by
  show ((z.cps.toList.drop (HT.sIx z.length 0 (some (k:Int)))).take _).toArray.toList=_;rw[d,HT.sIx_none];simp only[List.toList_toArray];rw[aQ];rw[dH,wP];omega
 have f:(rS z (some (k:Int)) none).length=n-k:=by
  rw[<- wP,a,dH,wP];omega
 exact⟨λc b=>by rw[a] at b;exact h.az c (List.mem_of_mem_drop b),by omega,by omega⟩
theorem LS.sign (h:97<=c/\c<=122):LS 1 1 ⟨#[c]⟩:=⟨λd hd=>by simp at hd;subst hd;exact h,aJ _,aJ _⟩
theorem Oy:∀ (g:Aa Af),(∀ y∈g,LS 1 1 y)->LS g.length g.length (Str.join "" g)
 | [],_=>⟨λc e=>(nomatch e),aJ _,aJ _⟩
 | [x],h=>h x aE
 | x::y::r,h=>by
  have b:=h x aE;have d:=Oy (y::r) λz f=>h z (aK _ f)
  have a:LS 0 0 (Str.ofString ""):=LS.of (by decide +kernel);have:=(b.app a).app d;show LS _ _ (x++(Str.ofString "")++Str.join "" (y::r));exact this.weak (by simp;omega) (by simp;omega)
theorem X7 (g:0<=i) (l:i<xs.length):∃ v,mF xs i=some v/\v∈xs:=by
 obtain⟨j,rfl⟩:=cU g;have a:j<xs.length:=by omega
 exact⟨xs[j],pQ (aG a),dX a⟩
theorem B4 {xs:Aa Af}{i:Int}(g:0<=i) (l:i<xs.length):∃ x,mF (xs.map V.str) i=some (V.str x)/\x∈xs:=by
 obtain⟨j,rfl⟩:=cU g;have a:j<xs.length:=by omega
 exact⟨xs[j],pQ (by simp[a]),dX a⟩
def mX:Af := "abcdefghijklmnopqrstuvwxyz"
theorem Ji:mX.length=26:=by decide +kernel
theorem F9 (g:0<=i) (j:i<26):∃ c,mF mX.cps.toList i=some c/\97<=c/\c<=122:=by
 obtain⟨c,e,m⟩:=X7 (xs:=mX.cps.toList) g (by rw[wP,Ji];exact j);have h:LS 26 26 mX:=LS.of (by decide +kernel);exact⟨c,e,h.az c m⟩
noncomputable def qA:Aa Af:=["and","or","odd","most","not","one","nil","in","out"]
theorem Vb (h:x∈qA):LS 2 4 x:=by
 have:qA.all (Cg 2 4)=true:=by decide +kernel
 exact LS.of (dY.mp this x h)
structure GoodName (x:Str):Prop where
 ls:LS 1 8 x
 nk:x∉qA
def Ha:Sp:=λa H Q _=>a=[]/\∀ l,H l=none->Q (.ref l) (upd H l (.l (qA.map V.str)))
def Pf:Sp:=λe H Q _=>∃ (d c:Ad) (m:Nat),e=[.ref d,.int m]/\DeckAt H d c/\m<=40/\∀ (l:Ad) (b:Aa Af) (a:Hp),H l=none->a l=some (.l (b.map V.str))->b.length=m->(∀ x∈b,LS 1 8 x) ->
 DeckAt a d c->lJ d c H a->Q (.ref l) a
theorem lJ.free (k:lJ d c H g) (j:l≠d) (p:l≠c) (h:g l=none):H l=none:=by
 cases e:H l with
 | none=>rfl
 | some o=>rw[k l o e j p] at h;cases h
theorem Wp {g:Aa Af}{n m:Nat}(h:∀ y∈g,y.length<=m) (j:g.length<=n):(g.map (·.length)).sum<=n*m:=by
 have:∀ g:Aa Af,(∀ y∈g,y.length<=m)->(g.map (·.length)).sum<=g.length*m:=by
  intro g;induction g with
  | nil=>intro _;simp
  | cons a r c =>
   intro h;have d:=h a aE;have e:=c λy b=>h y (aK _ b)
   simp only[aY,List.sum_cons,bY,gS,gU];omega
 exact bV (this g h) (Nat.mul_le_mul_right m j)
theorem Hx (h:n<=1000):n<=sizeLine:=bV h (by decide)
section
variable {P:Ah}{K:kY}
theorem S7:FnScope [] [] (lU zS):=⟨rfl,rfl,rfl,by decide +kernel,rfl,by decide +kernel,by decide +kernel⟩
theorem N8 (F:Fun K "_law_kept" "_law_kept" zS f fd):FnOk P w K g base mQ 1 f fd [] Ha:=by
 refine F.ok S7 (λd H Q E h=>?_) (λb A a s H d Q E e h=>?_)
 .obtain⟨rfl,_⟩:=h;rfl
 .obtain⟨rfl,k⟩:=h;refine⟨_,@qC _ _ _ (@tY _ _ _ _ (@oR _ _ _ _ (@wE _ [("and",_,_),("or",_,_),("odd",_,_),("most",_,_),("not",_,_),("one",_,_),("nil",_,_),("in",_,_),("out",_,_)]))),?_⟩;have c:9<=sizeLine:=by decide
  refine⟨c,?_⟩;exact k
theorem sX:FnScope ["deck","many","letters","base","at","shift","way","names","k","sign","word","name"] ["deck","many"] (lU B2):=⟨rfl,rfl,rfl,by decide +kernel,rfl,by decide +kernel,by decide +kernel⟩
theorem Xl:(["k","letters","deck"]:Aa Af).Nodup:=by decide +kernel
theorem M5 (j:0<=i) (l:i<2) (q:Af) (g:LS 0 1 q):∃ x,mF [V.str "",V.str q] i=some (V.str x)/\LS 0 1 x:=by
 have:i=0\/i=1:=by omega
 rcases this with rfl | rfl
 .exact⟨"",rfl,LS.of (by decide +kernel)⟩
 .exact⟨q,rfl,g⟩
theorem Tr (F:Fun K "_law_made_names" "_law_made_names" B2 f fd) (T:Txt mg) (g:Gd K mg "_law_take" uH ["deck","many"] fT aw) (gK:Gd K mg "_law_kept" zS [] fK av) :
  FnOk P w K mg base mQ 2 f fd ["deck","many"] Pf:=by
 have GT:FnOk P w K mg base mQ 1 fT aw ["deck","many"] zM:=Er g.F T;have GK:FnOk P w K mg base mQ 1 fK av [] Ha:=N8 gK.F;refine F.ok sX (λvs H Q E h=>?_) (λa8 A a7 s H vs Q E hr h=>?_)
 .obtain⟨d,c,m,rfl,_⟩:=h;rfl
 .obtain⟨d,c,m,rfl,D,hm,k⟩:=h;refine⟨_,nP (nH (i:=2) sX.nd rfl (Or.inr rfl) sM) (nP (nH (i:=3) sX.nd rfl (Or.inl rfl) (xJ PySem.F.plainAttrs_str PySem.F.slot_str_join PySem.F.type_str_join Wo sM (lB (zC ["k"] ["letters","deck"] [2,0] rfl (xG rfl T.range (lB (qO GT hr rfl g.m g.k g.b .nil qB (lB (pv 0) (lB mD lI))) lI)) rfl rfl (λZ S C cl fp=>vA (i:=0) Xl rfl (Or.inl rfl)) (λZ S C cl fp=>Eb) (λZ S C cl fp=>oK B7 (pv 1) (qO GT hr rfl g.m g.k g.b .nil qB (lB (pv 2) (lB mD lI))) (λ_ _=>rfl))) lI))) (nP (nH (i:=4) sX.nd rfl (Or.inl rfl) (qO GT hr rfl g.m g.k g.b .nil qB (lB (pv 0) (lB (lW vE (rG Oc (by rfl) T.len bD (lB (pv 3) lI)) mD) lI)))) (nP (nH (i:=5) sX.nd rfl (Or.inl rfl) (qO GT hr rfl g.m g.k g.b .nil qB (lB (pv 0) (lB mD lI)))) (nP (nH (i:=6) sX.nd rfl (Or.inl rfl) (qO GT hr rfl g.m g.k g.b .nil qB (lB (pv 0) (lB mD lI)))) (nP (nH (i:=7) sX.nd rfl (Or.inl rfl) (oR lI)) (nP (Ap dB rfl (xG rfl T.range (lB (pv 1) lI)) (vA (i:=8) sX.nd rfl (Or.inl rfl)) (nP (nH (i:=9) sX.nd rfl (Or.inl rfl) (oK B7 (pv 2) (lW qG (lW vE (pv 5) (pv 8)) mD) (λ_ _=>rfl))) (nP (nH (i:=10) sX.nd rfl (Or.inl rfl) (oK pL (Lf GK hr rfl gK.m gK.k gK.b .nil qB) (lW qG (lW vE (pv 5) (pv 8)) mD) (λ_ _=>rfl))) (nP (nH (i:=11) sX.nd rfl (Or.inl rfl) (lW uY (lW uY (lW uY (lW uY (zD Jk (pv 3) Bi (zU (pv 4))) (pv 9)) (oK pL (oR (lB sM (lB sM lI))) (lW qG (pv 8) mD) (λ_ _=>rfl))) (zD Jk (pv 3) (zU (pv 4)) Bi)) (oK pL (oR (lB sM (lB sM lI))) (lW S1 (pv 8) mD) (λ_ _=>rfl)))) (qC (B6 (xJ aZ bL bM pT (pv 7) (lB (oK pL (oR (lB (pv 11) (lB (lW uY (pv 9) (pv 10)) (lB (lW uY (pv 10) (pv 9)) (lB (lW uY (lW uY (pv 9) (pv 10)) (oK B7 (pv 2) (lW qG (pv 8) mD) (λ_ _=>rfl))) lI))))) (pv 6) (λ_ _=>rfl)) lI)))))))) (qC (tY (pv 7))))))))),?_⟩;refine⟨rfl,_,rfl,d,c,6,rfl,D,by decide,by decide,λr1 H1 a0 a1 D1 k1=>⟨_,rfl,by omega,by omega,λD0 N=>?_⟩⟩;have u:=D1.ned N;have a2:H D0=none:=k1.free u.1 u.2 N;refine Ju Rp (λi ys H2=>∃ t:Aa Af,ys=t.map V.str/\t.length=i/\(∀ z∈t,LS 1 1 z)/\DeckAt H2 d c/\lJ d c H H2/\H2 D0=some (.l ys))
   ⟨[],rfl,rfl,(λz Y=>nomatch Y),D1.new N,k1.trans (lJ.new N),lE⟩ (λ_ _ _ _ _=>True.intro) ?_ ?_
  .rintro i x ys H2 hx ⟨t,rfl,hl,a6,D2,k2,hD⟩;have hi:i<6:=by
    have:=(aT.mp hx).1;simp at this;omega
   refine⟨_,rfl,_,rfl,d,c,26,rfl,D2,by decide,by decide,λr H3 b0 b1 D3 k3=>?_⟩;obtain⟨W,a3,I⟩:=F9 b0 b1;have az:=k3 D0 _ hD u.1 u.2;refine⟨mX,_,W,rfl,rfl,(by rw[Ji];decide),a3,⟨_,rfl⟩,az,(by rw[aB];exact aW (show t.length<1000 by omega) (by decide)),t++[⟨#[W]⟩],by simp,by simp[hl],λz Y=>?_,D3.upd_other u.1 u.2,?_,lE⟩
   .rcases aV.mp Y with q | q
    .exact a6 z q
    .rw[aU.mp q];exact LS.sign I
   .exact λb o e h1 h2=>by rw[iO (lT e a2)];exact k3 b o (k2 b o e h1 h2) h1 h2
  .rintro ys H2 ⟨t,rfl,hl,Y,D2,k2,hD⟩;rw[aB,cI] at hl;have hB:=Oy t Y;have ay:t.length<=5:=by omega
   refine⟨"",D0,t,rfl,rfl,.inl (eT.of hD),?_,?_⟩
   .have h1:=Wp (m:=1) (λy hy=>(Y y hy).hi) ay;have h2:(Str.ofString "").length=0:=by decide +kernel
    rw[h2];omega
   have ej:Txt.join (Str.ofString "") t=Str.join (Str.ofString "") t:=StrLaws.glued_eq_join _ _;rw[ej];generalize Str.join (Str.ofString "") t=B at hB;have eB:B.length=t.length:=kD hB.hi hB.lo;refine⟨_,rfl,_,rfl,B,rfl,Hx (by omega),_,_,rfl,rfl,d,c,_,rfl,D2,by omega,by omega,λr2 H3 b0 b1 D3 k3=>?_⟩;refine⟨_,rfl,d,c,26,rfl,D3,by decide,by decide,λr3 H4 c0 c1 D4 k4=>?_⟩;refine⟨_,rfl,d,c,4,rfl,D4,by decide,by decide,λr4 H5 d0 d1 D5 k5=>?_⟩;refine⟨(by show 0<=sizeLine;decide),λl nl=>?_⟩;have kk:lJ d c H H5:=((k2.trans k3).trans k4).trans k5;have O:=D5.ned nl;have ae:H l=none:=kk.free O.1 O.2 nl;obtain⟨L,rfl⟩:=cU b0;refine⟨_,rfl,_,rfl,by omega,by omega,?_⟩;rw[cW];refine E2 (lo:=0) (n:=m) (λi σ G=>∃ (v:Aa Af) (v8 v9 v10 v11:Ab V),σ=[some (.ref d),some (.int m),some (.str mX),some (.str B),some (.int L),some (.int r3),some (.int r4),some (.ref l),v8,v9,v10,v11] /\ v.length=i/\(∀ x∈v,LS 1 8 x)/\G l=some (.l (v.map V.str))/\DeckAt G d c/\lJ d c H G)
    ⟨[],none,none,none,none,rfl,rfl,(λz Y=>nomatch Y),lE,D5.new nl,kk.trans (lJ.new nl)⟩ ?_ ?_
   .rintro i σ G hi ⟨v,v8,v9,v10,v11,rfl,J,U,h6,D6,k6⟩;have M:∀ z:Int,0<=z%26/\z%26<26:=λz=>⟨eX z (by decide),dQ z (by decide)⟩
    have e9:∀ z:Int,0<=z%9/\z%9<9:=λz=>⟨eX z (by decide),dQ z (by decide)⟩
    have e2:∀ z:Int,0<=z%2/\z%2<2:=λz=>⟨eX z (by decide),dQ z (by decide)⟩
    obtain⟨W,af,I⟩:=F9 (M (r3+(0+(i:Int)))).1 (M _).2;obtain⟨wd,ag,a4⟩:=B4 (xs:=qA) (e9 (r3+(0+(i:Int)))).1 (by exact (e9 _).2);obtain⟨x1,ah,ao⟩:=M5 (e2 (0+(i:Int))).1 (e2 _).2 "q" (LS.of (by decide +kernel));obtain⟨x2,ai,aq⟩:=M5 (i:=(0+(i:Int))/26) (by omega) (by omega) "w" (LS.of (by decide +kernel));obtain⟨c5,aj,an⟩:=F9 (M (0+(i:Int))).1 (M _).2;have j:=LS.sign I;have hW:=Vb a4;have X:L<=t.length:=by omega
    have hP:=hB.cutL X;have hR:=hB.cutR X;have n1:=hP.app j;have n2:=n1.app ao;have n3:=n2.app hR;have n4:=n3.app aq;have w1:=j.app hW;have w2:=hW.app j;have w3:=w1.app (LS.sign an);have sz:∀ {a b c' d':Nat} {x y:Af},LS a b x->LS c' d' y->b+d'<=100->x.length+y.length<=sizeLine:=λg1 g2 hb=>Hx (by have:=g1.hi;have:=g2.hi;omega)
    have au:mX.length<=sizeLine:=by rw[Ji];decide
    have ac:B.length<=sizeLine:=Hx (by omega);refine⟨_,rfl,_,rfl,_,rfl,_,_,rfl,rfl,_,_,rfl,rfl,(by show (0:Int)<26;decide),mX,_,W,rfl,rfl,au,af,?_⟩;refine⟨rfl,λp np=>?_⟩;have D7:DeckAt (upd G p (.l (qA.map V.str))) d c:=D6.new np;refine⟨_,rfl,_,rfl,_,_,rfl,rfl,_,_,rfl,rfl,(by show (0:Int)<9;decide),p,_,_,.str wd,rfl,rfl,eT.of lE,ag,?_⟩;have k7:lJ d c H (upd G p (.l (qA.map V.str))):=k6.trans (lJ.new np);have h7:upd G p (.l (qA.map V.str)) l=some (.l (v.map V.str)):=by rw[iO (lT h6 np)];exact h6
    generalize upd G p (.l (qA.map V.str))=H7 at D7 k7 h7 |-;refine⟨_,rfl,_,rfl,_,rfl,B,rfl,ac,_,rfl,_,_,rfl,rfl,sz hP j (by omega),(by show 2<=sizeLine;decide),λp2 aa=>?_⟩;have D8:=D7.new (o:=.l [V.str (Str.ofString ""),V.str (Str.ofString "q")]) aa;have k8:=k7.trans (lJ.new (d:=d) (c:=c) (o:=.l [V.str (Str.ofString ""),V.str (Str.ofString "q")]) aa);have h8:upd H7 p2 (.l [V.str (Str.ofString ""),V.str (Str.ofString "q")]) l=some (.l (v.map V.str)):=by rw[iO (lT h7 aa)];exact h7
    refine⟨_,rfl,_,_,rfl,rfl,(by show (0:Int)<2;decide),p2,_,_,.str x1,rfl,rfl,eT.of lE,ah,_,_,rfl,rfl,sz n1 ao (by omega),_,rfl,_,rfl,_,rfl,B,rfl,ac,_,_,rfl,rfl,sz n2 hR (by omega),(by show 2<=sizeLine;decide),λp3 R=>?_⟩;generalize upd H7 p2 (.l [V.str (Str.ofString ""),V.str (Str.ofString "q")])=H8 at D8 k8 h8 R |-;have D9:=D8.new (o:=.l [V.str (Str.ofString ""),V.str (Str.ofString "w")]) R;have k9:=k8.trans (lJ.new (d:=d) (c:=c) (o:=.l [V.str (Str.ofString ""),V.str (Str.ofString "w")]) R);have h9:upd H8 p3 (.l [V.str (Str.ofString ""),V.str (Str.ofString "w")]) l=some (.l (v.map V.str)):=by rw[iO (lT h8 R)];exact h8
    refine⟨_,rfl,_,_,rfl,rfl,⟨by decide,by decide⟩,p3,_,_,.str x2,rfl,rfl,eT.of lE,ai,_,_,rfl,rfl,sz n3 aq (by omega),?_⟩;generalize upd H8 p3 (.l [V.str (Str.ofString ""),V.str (Str.ofString "w")])=H9 at D9 k9 h9 |-;generalize a9:(rS B none (some (L:Int))++(⟨#[W]⟩:Af)++x1++rS B (some (L:Int)) none++x2)=nm at n4;refine⟨_,rfl,.inl ⟨rfl,_,eT.of h9⟩,_,rfl,_,rfl,_,rfl,_,_,rfl,rfl,sz j hW (by omega),_,rfl,_,rfl,_,_,rfl,rfl,sz hW j (by omega),_,rfl,_,rfl,_,_,rfl,rfl,sz j hW (by omega),_,rfl,_,rfl,_,_,rfl,rfl,(by show (0:Int)<26;decide),mX,_,c5,rfl,rfl,au,aj,_,_,rfl,rfl,sz w1 (LS.sign an) (by omega),(by show 4<=sizeLine;decide),λp4 ab=>?_⟩;obtain⟨z,ak,ar⟩:=B4 (xs:=[nm,(⟨#[W]⟩:Af)++wd,wd++(⟨#[W]⟩:Af),(⟨#[W]⟩:Af)++wd++(⟨#[c5]⟩:Af)]) d0 (by exact d1);have a5:LS 1 8 z:=by
     simp only[aF,bJ,dL] at ar;rcases ar with rfl | rfl | rfl | rfl
     .exact n4.weak (by omega) (by omega)
     .exact w1.weak (by omega) (by omega)
     .exact w2.weak (by omega) (by omega)
     .exact w3.weak (by omega) (by omega)
    have ax:∀ o4,upd H9 p4 o4 l=some (.l (v.map V.str)):=λo4=>by rw[iO (lT h9 ab)];exact h9
    refine⟨_,rfl,p4,_,_,.str z,rfl,rfl,eT.of lE,ak,l,v.map V.str,.str z,rfl,rfl,?_,?_,v++[z],_,_,_,_,rfl,by simp[J],?_,?_,?_,?_⟩
    .exact ax _
    .rw[aB];exact aW (show v.length<1000 by omega) (by decide)
    .intro y hy;rcases aV.mp hy with q | q
     .exact U y q
     .rw[aU.mp q];exact a5
    .rw[lE];simp
    .exact (D9.new ab).upd_other O.1 O.2
    .exact λb o e g1 g2=>by rw[iO (lT e ae)];exact (k9.trans (lJ.new ab)) b o e g1 g2
   .rintro σ G ⟨v,v8,v9,v10,v11,rfl,J,U,h6,D6,k6⟩;exact⟨_,rfl,k l v G ae h6 J U D6 k6⟩
end
def sT:Aa Af:=["cell","along","lay","judge","late","gates","ways","show"]
noncomputable def wH:Aa Af:=["andx","orb","oddly","mosts","nots","ones","nila","inn","outer","aa","ab","ba"]
def Dq:Aa Af:=["abcdefgh","abcdefgi","zzzzzzzz","names","judged","rowsofx"]
def qP (z:Af):Aa Af:=z.cps.toList.map λc=>(⟨#[c]⟩:Af)
def xE:Aa Af:=qP mX++sT++wH++Dq
theorem EL:xE.Nodup:=by decide +kernel
theorem Wa:xE.length=52:=by decide +kernel
theorem V0:∀ x∈xE,GoodName x:=by
 have h:xE.all (λx=>Cg 1 8 x && !qA.contains x)=true:=by decide +kernel
 intro x b;have:=dY.mp h x b;rw[cE] at this;refine⟨LS.of this.1,λm=>?_⟩;have a:=this.2;rw[List.contains_iff_mem.mpr m] at a;cases a
def K1:Sp:=λe H Q _=>∃ (d c:Ad) (m:Nat),e=[.ref d,.int m]/\DeckAt H d c/\m<=40/\∀ (l:Ad) (b:Aa Af) (a:Hp),H l=none->a l=some (.l (b.map V.str))->b.length=m->b.Nodup->(∀ x∈b,GoodName x) ->
 DeckAt a d c->lJ d c H a->Q (.ref l) a
theorem Lq:∀ {g:Aa Af}{k:Nat}{y:Af},g[k]?=some y->(y::g.eraseIdx k).Perm g
 | [],k,y,h=>by simp at h
 | a::r,0,y,h=>by
  simp at h;subst h;exact List.Perm.refl _
 | a::r,k+1,y,h=>by
  have b:r[k]?=some y:=by simpa using h
  show (y::a::r.eraseIdx k).Perm (a::r);exact (List.Perm.swap a y _).trans ((Lq b).cons a)
theorem N3 (f:g->j):∀ (l:Aa g) (k:Nat),(l.map f).eraseIdx k=(l.eraseIdx k).map f
 | [],_=>rfl
 | _::_,0=>rfl
 | a::r,k+1=>by simp[N3 f r k]
theorem Pc (x:Af) (g:Aa Af):Dc (.str x) (g.map V.str)=decide (x∈g):=by
 unfold Dc;induction g with
 | nil=>rfl
 | cons y r b =>
  rw[aY,fQ,b];have:oO (V.str y) (V.str x)=decide (y=x):=by
   simp only[oO];exact Bool.beq_eq_decide_eq y x
  rw[this];by_cases h:x=y
  .subst h;simp
  .have a:¬ y=x:=λe=>h e.symm
   simp[h,a]
theorem Ib (g:Aa Af):(g.map V.str).all pU=true:=by
 rw[dY];intro v a;obtain⟨y,_,rfl⟩:=aD.mp a;rfl
section
variable {P:Ah}{K:kY}
theorem yW:FnScope ["deck","many","letters","names","spare"] ["deck","many"] (lU xB):=⟨rfl,rfl,rfl,by decide +kernel,rfl,by decide +kernel,by decide +kernel⟩
theorem Dl (x:Af):([x]:Aa Af).Nodup:=by simp
theorem Zf:(["k","spare","deck"]:Aa Af).Nodup:=by decide +kernel
theorem FJ (F:Fun K "_law_names" "_law_names" xB f fd) (T:Txt mg) (gT:Gd K mg "_law_take" uH ["deck","many"] fT a6) (gK:Gd K mg "_law_kept" zS [] fK a4)
  (gM:Gd K mg "_law_made_names" B2 ["deck","many"] fM a5):FnOk P w K mg base mQ 3 f fd ["deck","many"] K1:=by
 have GT:FnOk P w K mg base mQ 1 fT a6 ["deck","many"] zM:=Er gT.F T;have GK:FnOk P w K mg base mQ 1 fK a4 [] Ha:=N8 gK.F;have GM:FnOk P w K mg base mQ 2 fM a5 ["deck","many"] Pf:=Tr gM.F T gT gK;refine F.ok yW (λvs H Q E h=>?_) (λbf A bd s H vs Q E hr h=>?_)
 .obtain⟨d,c,m,rfl,_⟩:=h;rfl
 .obtain⟨d,c,m,rfl,D,hm,k⟩:=h;have aj:Room 1 _:=hr.mono (by decide);have hu:=hr.units;refine Lu _ (nH (i:=2) yW.nd rfl (Or.inl rfl) sM) ?_;refine wK (λσ S=>∃ v3,σ=[some (.ref d),some (.int m),some (.str mX),v3,none]/\DeckAt S d c/\lJ d c H S) (λu L=>?_) ?_
  .-- if _law_take(deck,2) == 1
   refine⟨_,yO (vJ C6 (qO GT aj rfl gT.m gT.k gT.b .nil qB (lB (pv 0) (lB mD lI))) mD (uU _)) (nP (nH (i:=3) yW.nd rfl (Or.inl rfl) (qO GM hr rfl gM.m gM.k gM.b .nil qB (lB (pv 0) (lB (pv 1) lI)))) (qC (yO (PW.pt (Lb (vJ C6 (rG Sf (by rfl) T.len bD (lB (Cp (AC rfl) (by rfl) T.set PyProof.Rows.boot_set (lB (pv 3) lI)) lI)) (pv 1) (uU _)) (Mu (vJ (G4 hu) (zC ["name"] [] [] rfl (Wk (pv 3)) rfl rfl (λB v C cl fp=>vA (i:=0) (Dl _) rfl (Or.inl rfl)) (λB v C cl fp=>Qh (vJ (r:=Pb K false) Rj (pv 0) (Lf GK aj rfl gK.m gK.k gK.b .nil qB) rfl)) (λB v C cl fp=>pv 0)) (oR lI) (uU _))))) (qC (tY (pv 3))) Aj))) Aj,?_⟩;refine⟨_,rfl,d,c,2,rfl,D,by decide,by decide,λr1 H1 a0 a1 D1 k1=>⟨rfl,_,rfl,?_⟩⟩;refine wR (λ_=>?_) (λ_=>L _ _ ⟨none,rfl,D1,k1⟩);refine⟨_,rfl,_,rfl,d,c,m,rfl,D1,hm,λl O H2 nl hl av ba D2 k2=>?_⟩;have kk:lJ d c H H2:=k1.trans k2;have ax:=D1.ned nl;have a8:H l=none:=k1.free ax.1 ax.2 nl;refine⟨_,rfl,l,O,rfl,eT.of hl,by omega,λp np=>?_⟩;have k3:=kk.trans (lJ.new (d:=d) (c:=c) (o:=yT P w p (nB O).length) np);have D3:=D2.new (o:=yT P w p (nB O).length) np;have ai:upd H2 p (yT P w p (nB O).length) l=some (.l (O.map V.str)):=by rw[iO (lT hl np)];exact hl
   refine⟨p,_,rfl,lE,_,rfl,rfl,_,rfl,?_⟩;refine wR (λa9=>?_) (λ_=>wD (L _ _ ⟨_,rfl,D3,k3⟩));have J:O.Nodup:=by
    have:=eI a9;injection this with this;exact Zh (by omega)
   refine⟨_,rfl,l,rfl,⟨_,eT.of ai⟩,λR n=>?_⟩;have G:=D3.ned n;have ac:H R=none:=k3.free G.1 G.2 n;have lD:l≠R:=lT ai n;refine Oo Xc (λi ys S=>∃ t:Aa Af,ys=t.map V.str/\t.length<=i/\((∃ x∈O.take i,x∈qA)->t≠[])/\((∀ x∈O.take i,x∉qA)->t=[])/\DeckAt S d c/\lJ d c H S/\S R=some (.l ys)/\S l=some (.l (O.map V.str)))
    ⟨[],rfl,aJ _,(λ⟨x,N,_⟩=>by simp at N),(λ_=>rfl),D3.new n,k3.trans (lJ.new n),lE,by rw[iO lD];exact ai⟩ (λi ys S _ ⟨_,_,_,_,_,_,_,_,h⟩=>eT.of h) ?_ ?_
   .rintro i x ys S N ⟨t,rfl,aw,U,af,D4,k4,g,I⟩;obtain⟨y,hy,rfl⟩:∃ y,O[i]?=some y/\V.str y=x:=by
     rw[bK] at N;cases e:O[i]? with
     | none=>rw[e] at N;cases N
     | some y=>rw[e] at N;exact⟨y,rfl,cA N⟩
    have hi:i<O.length:=(aT.mp hy).1;have et:O.take (i+1)=O.take i++[y]:=by rw[bX,hy];rfl
    refine⟨_,rfl,rfl,λq nq=>?_⟩;have bh:=D4.ned nq;refine⟨q,_,rfl,.inl (eT.of lE),rfl,Ib _,_,rfl,?_⟩;have D5:=D4.new (o:=.l (qA.map V.str)) nq;have k5:=k4.trans (lJ.new (d:=d) (c:=c) (o:=.l (qA.map V.str)) nq);have ab:upd S q (.l (qA.map V.str)) R=some (.l (t.map V.str)):=by rw[iO (lT g nq)];exact g
    have ae:upd S q (.l (qA.map V.str)) l=some (.l (O.map V.str)):=by rw[iO (lT I nq)];exact I
    rw[Pc];refine wR (λhk=>?_) (λhk=>?_)
    .have ah:y∈qA:=eI hk;refine⟨_,rfl,⟨_,rfl⟩,ab,?_,t++[y],by simp,by simp;omega,λ_=>by simp,λh=>absurd ah (h y (by rw[et];simp)),D5.upd_other G.1 G.2,?_,lE,?_⟩
     .rw[aB];exact aW (show t.length<1000 by omega) (by decide)
     .exact λb o e g1 g2=>by rw[iO (lT e ac)];exact k5 b o e g1 g2
     .rw[iO lD];exact ae
    .have ah:y∉qA:=λz=>hk (cG z)
     refine⟨⟨_,rfl⟩,t,rfl,by omega,?_,?_,D5,k5,ab,ae⟩
     .rintro ⟨z,hz,ak⟩;rw[et] at hz;rcases aV.mp hz with q' | q'
      .exact U ⟨z,q',ak⟩
      .rw[aU.mp q'] at ak;exact absurd ak ah
     .exact λh=>af λz hz=>h z (by rw[et];exact aM _ hz)
   .rintro ys S ⟨t,rfl,aw,U,af,D4,k4,g,I⟩;rw[aB] at aw U af;rw[aQ (aJ _)] at U af;refine⟨(by show 0<=sizeLine;decide),λq nq=>?_⟩;have D5:=D4.new (o:=.l []) nq;have k5:=k4.trans (lJ.new (d:=d) (c:=c) (o:=.l []) nq);have ab:upd S q (.l []) R=some (.l (t.map V.str)):=by rw[iO (lT g nq)];exact g
    have ae:upd S q (.l []) l=some (.l (O.map V.str)):=by rw[iO (lT I nq)];exact I
    refine⟨R,q,_,rfl,rfl,eT.of ab,eT.of lE,_,rfl,?_⟩;refine wR (λhe=>?_) (λ_=>L _ _ ⟨_,rfl,D5,k5⟩);have bc:t=[]:=by
     cases t with
     | nil=>rfl
     | cons a r=>simp at he
    refine⟨_,rfl,k l O _ a8 ae av J (λx N=>⟨ba x N,λhk=>U ⟨x,N,hk⟩ bc⟩) D5 k5⟩
  .rintro σ S ⟨v3,rfl,D4,k4⟩;refine wK (λσ H7=>∃ p2,σ=[some (.ref d),some (.int m),some (.str mX),v3,some (.ref p2)]/\H7 p2=some (.l ((qP mX++sT).map V.str))/\DeckAt H7 d c/\lJ d c H H7/\H p2=none) (λu L=>?_) ?_
   .refine⟨_,nH (i:=4) yW.nd rfl (Or.inr rfl) (lW Aw (zC ["sign"] [] [] rfl (FV (pv 2)) rfl rfl (λB v C cl fp=>vA (i:=0) (Dl _) rfl (Or.inl rfl)) (λB v C cl fp=>Eb) (λB v C cl fp=>pv 0)) (@oR _ _ _ _ (@wE _ [("cell",_,_),("along",_,_),("lay",_,_),("judge",_,_),("late",_,_),("gates",_,_),("ways",_,_),("show",_,_)]))),?_⟩;refine⟨_,rfl,mX,rfl,by decide +kernel,λR n=>?_⟩;refine BP V5 id n (λ_ _=>True.intro) (by rw[show (xN mX).length=26 by decide +kernel];decide) (λi x H5 kk N _ h=>⟨_,rfl,h⟩) ?_;have e1:(xN mX).map id=(qP mX).map V.str:=by rw[List.map_id];unfold xN qP;rw[List.map_map];rfl
    rw[e1];refine⟨(by show 8<=sizeLine;decide),λp1 n1=>?_⟩;have h0:upd (upd S R (.l ((qP mX).map V.str))) p1 (.l (sT.map V.str)) R=some (.l ((qP mX).map V.str)):=by rw[iO (lT lE n1)];exact lE
    refine⟨R,p1,_,_,rfl,rfl,h0,lE,(by rw[aB,show (qP mX).length=26 by decide +kernel];show 26+8<=sizeLine;decide),λp2 n2=>?_⟩;have D7:=((D4.new (o:=.l ((qP mX).map V.str)) n).new (o:=.l (sT.map V.str)) n1);have k7:=(k4.trans (lJ.new (d:=d) (c:=c) (o:=.l ((qP mX).map V.str)) n)).trans (lJ.new (d:=d) (c:=c) (o:=.l (sT.map V.str)) n1);have ay:=D7.ned n2;refine L _ _ ⟨p2,rfl,?_,D7.new n2,k7.trans (lJ.new n2),k7.free ay.1 ay.2 n2⟩;rw[lE,aO];rfl
   rintro σ H7 ⟨p2,rfl,h7,D7,k7,z7⟩;refine wK (λσ H8=>∃ p3,σ=[some (.ref d),some (.int m),some (.str mX),v3,some (.ref p3)]/\H8 p3=some (.l ((qP mX++sT++wH).map V.str))/\DeckAt H8 d c/\lJ d c H H8/\H p3=none) (λu L=>?_) ?_
   .refine⟨_,nH (i:=4) yW.nd rfl (Or.inr rfl) (lW Aw (pv 4) (@oR _ _ _ _ (@wE _ [("andx",_,_),("orb",_,_),("oddly",_,_),("mosts",_,_),("nots",_,_),("ones",_,_),("nila",_,_),("inn",_,_),("outer",_,_),("aa",_,_),("ab",_,_),("ba",_,_)]))),?_⟩;refine⟨_,rfl,(by show 12<=sizeLine;decide),λp1 n1=>?_⟩;have h0:upd H7 p1 (.l (wH.map V.str)) p2=some (.l ((qP mX++sT).map V.str)):=by rw[iO (lT h7 n1)];exact h7
    refine⟨p2,p1,_,_,rfl,rfl,h0,lE,(by rw[aB,show (qP mX++sT).length=34 by decide +kernel];show 34+12<=sizeLine;decide),λp3 n3=>?_⟩;have D8:=D7.new (o:=.l (wH.map V.str)) n1;have k8:=k7.trans (lJ.new (d:=d) (c:=c) (o:=.l (wH.map V.str)) n1);have az:=D8.ned n3;refine L _ _ ⟨p3,rfl,?_,D8.new n3,k8.trans (lJ.new n3),k8.free az.1 az.2 n3⟩;rw[lE,aO (l₁:=qP mX++sT)];rfl
   rintro σ H8 ⟨p3,rfl,h8,D8,k8,z8⟩;refine wK (λσ H9=>∃ Y,σ=[some (.ref d),some (.int m),some (.str mX),v3,some (.ref Y)]/\H9 Y=some (.l (xE.map V.str))/\DeckAt H9 d c/\lJ d c H H9/\H Y=none) (λu L=>?_) ?_
   .refine⟨_,nH (i:=4) yW.nd rfl (Or.inr rfl) (lW Aw (pv 4) (@oR _ _ _ _ (@wE _ [("abcdefgh",_,_),("abcdefgi",_,_),("zzzzzzzz",_,_),("names",_,_),("judged",_,_),("rowsofx",_,_)]))),?_⟩;refine⟨_,rfl,(by show 6<=sizeLine;decide),λp1 n1=>?_⟩;have h0:upd H8 p1 (.l (Dq.map V.str)) p3=some (.l ((qP mX++sT++wH).map V.str)):=by rw[iO (lT h8 n1)];exact h8
    refine⟨p3,p1,_,_,rfl,rfl,h0,lE,(by rw[aB,show (qP mX++sT++wH).length=46 by decide +kernel];show 46+6<=sizeLine;decide),λY n4=>?_⟩;have D9:=D8.new (o:=.l (Dq.map V.str)) n1;have k9:=k8.trans (lJ.new (d:=d) (c:=c) (o:=.l (Dq.map V.str)) n1);have X:=D9.ned n4;refine L _ _ ⟨Y,rfl,?_,D9.new n4,k9.trans (lJ.new n4),k9.free X.1 X.2 n4⟩;unfold xE;rw[lE,aO (l₁:=qP mX++sT++wH)];rfl
   rintro σ H9 ⟨Y,rfl,h9,D9,k9,z9⟩;refine⟨_,qC (tY (zC ["k"] ["spare","deck"] [4,0] rfl (xG rfl T.range (lB (pv 1) lI)) rfl rfl (λB v C cl fp=>vA (i:=0) Zf rfl (Or.inl rfl)) (λB v C cl fp=>Eb) (λB v C cl fp=>Sb K aZ fU fV Bl (pv 1) (lB (qO GT aj rfl gT.m gT.k gT.b .nil qB (lB (pv 2) (lB (rG (Xy K) (by rfl) T.len bD (lB (pv 1) lI)) lI))) lI)))),?_⟩;refine⟨_,rfl,_,rfl,by omega,by omega,λR n=>?_⟩;have G:=D9.ned n;have ac:H R=none:=k9.free G.1 G.2 n;have X:Y≠d/\Y≠c:=D.ned z9;have ar:Y≠R:=lT h9 n;refine Ju Rp (λi ys W=>∃ t M:Aa Af,ys=t.map V.str/\t.length=i/\M.length+i=52/\(t++M).Nodup/\(∀ x∈t++M,GoodName x)/\W Y=some (.l (M.map V.str))/\DeckAt W d c/\lJ d c H W/\W R=some (.l ys))
    ⟨[],xE,rfl,rfl,Wa,EL,V0,by rw[iO ar];exact h9,D9.new n,k9.trans (lJ.new n),lE⟩ (λ_ _ _ _ _=>True.intro) ?_ ?_
   .rintro i x ys W N ⟨t,M,rfl,an,bb,J,hg,aa,ag,ao,Z⟩;have hi:i<40:=by
     have:=(aT.mp N).1;simp at this;omega
    refine⟨_,rfl,.inl ⟨rfl,_,eT.of aa⟩,_,rfl,_,rfl,Y,_,rfl,.inl (eT.of aa),d,c,_,rfl,ag,by rw[aB];omega,by rw[aB];omega,λr be b0 b1 a3 aq=>?_⟩;rw[aB] at b1;obtain⟨j,rfl⟩:=cU b0;have hj:j<M.length:=by omega
    have a7:=aq Y _ aa X.1 X.2;have au:=aq R _ Z G.1 G.2;have hy:M[j]?=some M[j]:=aG hj;have pm:=Lq hy;have a2:((t++[M[j]])++M.eraseIdx j).Perm (t++M):=by
     rw[bI];exact jP t pm
    have bg:(M.eraseIdx j).length+1=M.length:=by
     rw[List.length_eraseIdx,bE hj];omega
    refine⟨Y,_,_,j,.str M[j],rfl,rfl,a7,by omega,by omega,?_,by simp[hj],⟨_,rfl⟩,by rw[iO ar.symm];exact au,?_,t++[M[j]],M.eraseIdx j,by simp,by simp[an],by omega,a2.symm.nodup J,λx N=>hg x (a2.mem_iff.mp N),?_,?_,?_,lE⟩
    .rw[aB];exact PySem.StrLaws.seqIndex_nonneg (by omega) (by omega)
    .rw[aB];exact aW (show t.length<1000 by omega) (by decide)
    .rw[iO ar,lE,N3]
    .exact (a3.upd_other X.1 X.2).upd_other G.1 G.2
    .exact λb o e g1 g2=>by rw[iO (lT e ac),iO (lT e z9)];exact aq b o (ao b o e g1 g2) g1 g2
   .rintro ys W ⟨t,M,rfl,an,bb,J,hg,aa,ag,ao,Z⟩;rw[aB,cI] at an;exact k R t W ac Z (by omega) (List.Nodup.sublist (List.sublist_append_left t M) J) (λx N=>hg x (aM _ N)) ag ao
end
noncomputable def uK:Aa Af:=["and","or","odd"]
structure ArOk (w:Str) (n:Nat):Prop where
 ok:(w∈uK/\(n=2\/n=3))\/(w = "most" /\ n=3)\/(w = "not" /\ n=1)\/(w = "one" /\ n=0)\/(w = "nil" /\ n=0)
def Fh:Aa Af:=["and","or","odd","most","not","one","nil","and","odd","most"]
def tN:Aa Af:=["most","not","one","nil"]
def vV:Aa Int:=[3,1,0,0]
theorem CJ (h:w∈Fh) (g:w∉uK):w = "most" \/ w = "not" \/ w = "one" \/ w = "nil" := by
 unfold Fh at h;unfold uK at g;simp only[aF,bJ,dL,jU] at h g;obtain⟨g1,g2,g3⟩:=g;rcases h with q | q | q | q | q | q | q | q | q | q
 .exact absurd q g1
 .exact absurd q g2
 .exact absurd q g3
 .exact .inl q
 .exact .inr (.inl q)
 .exact .inr (.inr (.inl q))
 .exact .inr (.inr (.inr q))
 .exact absurd q g1
 .exact absurd q g3
 .exact .inl q
theorem Yo {w:Af}(h:w = "most" \/ w = "not" \/ w = "one" \/ w = "nil"):∃ (j:Nat) (n:Nat),j<4/\(∀ z,(tN.map V.str)[j]?=some z->oO z (.str w)=true)/\(∀ (m:Nat) z,m<j->(tN.map V.str)[m]?=some z->oO z (.str w)=false) /\
  mF (vV.map V.int) (j:Int)=some (.int n)/\ArOk w n:=by
 have go:∀ (j:Nat) (n:Nat),j<4->tN[j]?=some w->mF (vV.map V.int) (j:Int)=some (.int n)->(∀ m,m<j->∀ y,tN[m]?=some y->¬ y=w)->ArOk w n->∃ (j:Nat) (n:Nat),j<4/\(∀ z,(tN.map V.str)[j]?=some z->oO z (.str w)=true)/\(∀ (m:Nat) z,m<j->(tN.map V.str)[m]?=some z->oO z (.str w)=false) /\
   mF (vV.map V.int) (j:Int)=some (.int n)/\ArOk w n:=by
  intro j n k hw i q s;refine⟨j,n,k,λz c=>?_,λm z d c=>?_,i,s⟩
  .rw[bK,hw] at c;cases c;show (w == w)=true;exact iJ w
  .rw[bK] at c;cases e:tN[m]? with
   | none=>rw[e] at c;cases c
   | some y =>
    rw[e] at c;cases c;show (y == w)=false;exact eD.mpr (q m d y e)
 have t:∀ {a b:Nat},a<b->b<=4->a=0\/a=1\/a=2\/a=3:=λu v=>by omega
 rcases h with rfl | rfl | rfl | rfl
 .exact go 0 3 (by decide) rfl rfl (λm d=>absurd d (Nat.not_lt_zero _)) ⟨.inr (.inl ⟨rfl,rfl⟩)⟩
 .refine go 1 1 (by decide) rfl rfl (λm d y f=>?_) ⟨.inr (.inr (.inl ⟨rfl,rfl⟩))⟩;obtain rfl:m=0:=by omega
  cases f;decide +kernel
 .refine go 2 0 (by decide) rfl rfl (λm d y f=>?_) ⟨.inr (.inr (.inr (.inl ⟨rfl,rfl⟩)))⟩;rcases (show m=0\/m=1 by omega) with rfl | rfl<;>(cases f;decide +kernel)
 .refine go 3 0 (by decide) rfl rfl (λm d y f=>?_) ⟨.inr (.inr (.inr (.inr ⟨rfl,rfl⟩)))⟩;rcases (show m=0\/m=1\/m=2 by omega) with rfl | rfl | rfl<;>(cases f;decide +kernel)
def Pw:Sp:=λh H Q _=>∃ (d c kn:Ad) (b:Aa Af),h=[.ref d,.ref kn]/\DeckAt H d c/\H kn=some (.l (b.map V.str))/\kn≠d/\kn≠c/\b.length<=100 /\
 ∀ (t q:Ad) (f:Af) (e:Aa Af) (a:Hp),H t=none->H q=none->a t=some (.t [.str f,.ref q])->a q=some (.t (e.map V.str))->ArOk f e.length->(∀ p∈e,p∈b)->DeckAt a d c->lJ d c H a->Q (.ref t) a
section
variable {P:Ah}{K:kY}
theorem vQ:FnScope ["deck","known","word","many","parts","k","at"] ["deck","known"] (lU Cw):=⟨rfl,rfl,rfl,by decide +kernel,rfl,by decide +kernel,by decide +kernel⟩
theorem Va (F:Fun K "_law_gate" "_law_gate" Cw f fd) (T:Txt mg) (g:Gd K mg "_law_take" uH ["deck","many"] fT aw):FnOk P w K mg base mQ 2 f fd ["deck","known"] Pw:=by
 have GT:FnOk P w K mg base mQ 1 fT aw ["deck","many"] zM:=Er g.F T;refine F.ok vQ (λvs H Q E h=>?_) (λa3 A ay s H vs Q E hr h=>?_)
 .obtain⟨d,c,kn,B,rfl,_⟩:=h;rfl
 .obtain⟨d,c,kn,B,rfl,D,ah,ac,ab,a5,k⟩:=h;have hu:=hr.units;refine wK (λN H1=>∃ M,N=[some (.ref d),some (.ref kn),some (.str M),none,none,none,none]/\M∈Fh/\DeckAt H1 d c/\lJ d c H H1) (λu v=>?_) ?_
  .refine⟨_,@nH _ _ 2 _ _ _ _ vQ.nd rfl (Or.inl rfl) (@oK _ _ _ _ _ _ _ pL (@oR _ _ _ _ (@wE _ [("and",_,_),("or",_,_),("odd",_,_),("most",_,_),("not",_,_),("one",_,_),("nil",_,_),("and",_,_),("odd",_,_),("most",_,_)])) (qO GT hr rfl g.m g.k g.b .nil qB (lB (pv 0) (lB mD lI))) (λ_ _=>rfl)) (by rfl) (.inl rfl),?_⟩;refine⟨(by show 10<=sizeLine;decide),λp np=>⟨_,rfl,d,c,10,rfl,D.new np,by decide,by decide,λr H1 a0 a1 D1 k1=>?_⟩⟩;have G:=D.ned np;have h1:=k1 p _ lE G.1 G.2;obtain⟨M,O,hw⟩:=B4 (xs:=Fh) a0 (by exact a1);exact⟨p,_,_,.str M,rfl,rfl,eT.of h1,O,v _ _ ⟨M,rfl,hw,D1,(lJ.new np).trans k1⟩⟩
  rintro N H1 ⟨M,rfl,hw,D1,k1⟩;refine wK (λN H2=>∃ n:Int,N=[some (.ref d),some (.ref kn),some (.str M),some (.int n),none,none,none]/\DeckAt H2 d c/\lJ d c H H2) (λu v=>?_) ?_
  .refine⟨_,@nH _ _ 3 _ _ _ _ vQ.nd rfl (Or.inl rfl) (@oK _ _ _ _ _ _ _ pL (@oR _ _ _ _ (@Fe _ [(2,_,_),(2,_,_),(2,_,_),(3,_,_),(1,_,_),(0,_,_),(0,_,_),(3,_,_),(3,_,_),(3,_,_)])) (qO GT hr rfl g.m g.k g.b .nil qB (lB (pv 0) (lB mD lI))) (λ_ _=>rfl)) (by rfl) (.inl rfl),?_⟩;refine⟨(by show 10<=sizeLine;decide),λp np=>⟨_,rfl,d,c,10,rfl,D1.new np,by decide,by decide,λr H2 a0 a1 D2 k2=>?_⟩⟩;have G:=D1.ned np;have h2:=k2 p _ lE G.1 G.2;obtain⟨j,rfl⟩:=cU a0;have hj:j<([2,2,2,3,1,0,0,3,3,3]:Aa Int).length:=by show j<10;omega
   have O:mF (([2,2,2,3,1,0,0,3,3,3]:Aa Int).map V.int) ((j:Nat):Int)=some (V.int ([2,2,2,3,1,0,0,3,3,3]:Aa Int)[j]):=pQ (by rw[bK,aG hj];rfl);exact⟨p,_,_,_,rfl,rfl,eT.of h2,O,v _ _ ⟨_,rfl,D2,k1.trans ((lJ.new np).trans k2)⟩⟩
  rintro N H2 ⟨n0,rfl,D2,k2⟩;refine wK (λN H3=>∃ n:Nat,N=[some (.ref d),some (.ref kn),some (.str M),some (.int n),none,none,none]/\ArOk M n/\n<=3/\DeckAt H3 d c/\lJ d c H H3) (λu v=>?_) ?_
  .refine⟨_,yO (vJ Rj (pv 2) (@oR _ _ _ _ (@wE _ [("and",_,_),("or",_,_),("odd",_,_)])) rfl) (qC (@nH _ _ 3 _ _ _ _ vQ.nd rfl (Or.inl rfl) (@oK _ _ _ _ _ _ _ pL (@oR _ _ _ _ (@Fe _ [(2,_,_),(3,_,_)])) (lW qG (pv 3) mD) (λ_ _=>rfl)) (by rfl) (.inl rfl))) (qC (@nH _ _ 3 _ _ _ _ vQ.nd rfl (Or.inl rfl) (@oK _ _ _ _ _ _ _ pL (@oR _ _ _ _ (@Fe _ [(3,_,_),(1,_,_),(0,_,_),(0,_,_)])) (xJ aZ PySem.F.slot_list_index PySem.F.type_list_index AH (@oR _ _ _ _ (@wE _ [("most",_,_),("not",_,_),("one",_,_),("nil",_,_)])) (lB (pv 2) lI)) (λ_ _=>rfl)) (by rfl) (.inl rfl))),?_⟩;refine⟨_,rfl,(by show 3<=sizeLine;decide),λp np=>⟨p,uK.map V.str,rfl,.inl (eT.of lE),rfl,Ib _,_,rfl,?_⟩⟩;have D3:=D2.new (o:=.l (uK.map V.str)) np;have k3:=k2.trans (lJ.new (d:=d) (c:=c) (o:=.l (uK.map V.str)) np);rw[Pc];refine wR (λhk=>?_) (λhk=>?_)
   .have aa:M∈uK:=eI hk;refine⟨(by show 2<=sizeLine;decide),λX L=>⟨_,rfl,_,_,rfl,rfl,(by show (0:Int)<2;decide),?_⟩⟩;have b0:=eX n0 (show (2:Int)≠0 by decide);have b1:=dQ n0 (show (0:Int)<2 by decide);have I:=D3.new (o:=.l [V.int 2,V.int 3]) L;have U:=k3.trans (lJ.new (d:=d) (c:=c) (o:=.l [V.int 2,V.int 3]) L);rcases (show n0%2=0\/n0%2=1 by omega) with e | e
    .exact⟨X,_,_,.int 2,rfl,rfl,eT.of lE,by rw[e];rfl,v _ _ ⟨2,rfl,⟨.inl ⟨aa,.inl rfl⟩⟩,by decide,I,U⟩⟩
    .exact⟨X,_,_,.int 3,rfl,rfl,eT.of lE,by rw[e];rfl,v _ _ ⟨3,rfl,⟨.inl ⟨aa,.inr rfl⟩⟩,by decide,I,U⟩⟩
   .have aa:M∉uK:=λz=>hk (cG z)
    obtain⟨j,n,hj,i1,i2,O,ho⟩:=Yo (CJ hw aa);refine⟨(by show 4<=sizeLine;decide),λX L=>⟨(by show 4<=sizeLine;decide),λp3 ao=>⟨.inl ⟨rfl,_,eT.of lE⟩,_,rfl,?_⟩⟩⟩;have I:=(D3.new (o:=.l (vV.map V.int)) L).new (o:=.l (tN.map V.str)) ao;have U:=(k3.trans (lJ.new (d:=d) (c:=c) (o:=.l (vV.map V.int)) L)).trans (lJ.new (d:=d) (c:=c) (o:=.l (tN.map V.str)) ao);refine⟨p3,tN.map V.str,.str M,j,rfl,rfl,eT.of lE,Ib _,rfl,hj,i1,i2,?_⟩;have h2:upd (upd (upd H2 p (.l (uK.map V.str))) X (.l (vV.map V.int))) p3 (.l (tN.map V.str)) X=some (.l (vV.map V.int)):=by rw[iO (lT lE ao)];exact lE
    refine⟨X,vV.map V.int,_,.int n,rfl,rfl,eT.of h2,O,v _ _ ⟨n,rfl,ho,?_,I,U⟩⟩;rcases ho.ok with⟨_,q | q⟩ | ⟨_,q⟩ | ⟨_,q⟩ | ⟨_,q⟩ | ⟨_,q⟩<;>omega
  rintro N H3 ⟨n,rfl,ho,hn,D3,k3⟩;have af:=k3 kn _ ah ac ab;refine wK (λN H4=>∃ a:Nat,N=[some (.ref d),some (.ref kn),some (.str M),some (.int n),none,none,none]/\0<B.length/\DeckAt H4 d c/\lJ d c H H4) (λu v=>?_) ?_
  .refine⟨_,yO (vJ (G4 hu) (pv 1) (oR lI) (uU _)) (qC (tY (Bc (lB (oK pL (oR (lB sM (lB sM lI))) (lW qG (pv 3) mD) (λ_ _=>rfl)) (lB (Bc lI) lI))))) Aj,?_⟩;refine⟨_,rfl,(by show 0<=sizeLine;decide),λp np=>?_⟩;have I:=D3.new (o:=.l []) np;have U:=k3.trans (lJ.new (d:=d) (c:=c) (o:=.l []) np);have ar:upd H3 p (.l []) kn=some (.l (B.map V.str)):=by rw[iO (lT af np)];exact af
   refine⟨kn,p,_,rfl,rfl,eT.of ar,eT.of lE,_,rfl,?_⟩;refine wR (λhe=>?_) (λhe=>v _ _ ⟨0,rfl,?_,I,U⟩)
   .refine⟨(by show 2<=sizeLine;decide),λX L=>⟨_,rfl,_,_,rfl,rfl,(by show (0:Int)<2;decide),?_⟩⟩;have b0:=eX (n:Int) (show (2:Int)≠0 by decide);have b1:=dQ (n:Int) (show (0:Int)<2 by decide);have D5:=I.new (o:=.l [V.str (Str.ofString "one"),V.str (Str.ofString "nil")]) L;have k5:=U.trans (lJ.new (d:=d) (c:=c) (o:=.l [V.str (Str.ofString "one"),V.str (Str.ofString "nil")]) L);have fin:∀ w2:Af,ArOk w2 0->∀ q,upd (upd H3 p (.l [])) X (.l [V.str (Str.ofString "one"),V.str (Str.ofString "nil")]) q=none ->
      ∀ t,upd (upd (upd H3 p (.l [])) X (.l [V.str (Str.ofString "one"),V.str (Str.ofString "nil")])) q (.t []) t=none ->
      Q (.ref t) (upd (upd (upd (upd H3 p (.l [])) X (.l [V.str (Str.ofString "one"),V.str (Str.ofString "nil")])) q (.t [])) t (.t [.str w2,.ref q])):=by
     intro w2 ax q W t R;have D6:=D5.new (o:=.t []) W;have k6:=k5.trans (lJ.new (d:=d) (c:=c) (o:=.t []) W);have Z:=D5.ned W;have C:=D6.ned R;exact k t q w2 [] _ (k6.free C.1 C.2 R) (k5.free Z.1 Z.2 W) lE (by rw[iO (lT lE R)];exact lE) ax (λp hp=>nomatch hp) (D6.new R) (k6.trans (lJ.new R))
    rcases (show (n:Int)%2=0\/(n:Int)%2=1 by omega) with e | e
    .refine⟨X,_,_,.str "one",rfl,rfl,eT.of lE,by rw[e];rfl,(by show 0<=sizeLine;decide),λq W=>⟨(by show 2<=sizeLine;decide),λt R=>?_⟩⟩;exact fin "one" ⟨.inr (.inr (.inr (.inl ⟨rfl,rfl⟩)))⟩ q W t R
    .refine⟨X,_,_,.str "nil",rfl,rfl,eT.of lE,by rw[e];rfl,(by show 0<=sizeLine;decide),λq W=>⟨(by show 2<=sizeLine;decide),λt R=>?_⟩⟩;exact fin "nil" ⟨.inr (.inr (.inr (.inr ⟨rfl,rfl⟩)))⟩ q W t R
   .cases B with
    | nil=>simp at he
    | cons a r=>simp
  rintro N H4 ⟨_,rfl,a4,I,U⟩;refine⟨_,nP (nH (i:=4) vQ.nd rfl (Or.inl rfl) (oR lI)) (nP (Ap dB rfl (xG rfl T.range (lB (pv 3) lI)) (vA (i:=5) vQ.nd rfl (Or.inl rfl)) (nP (nH (i:=6) vQ.nd rfl (Or.inl rfl) (oK pL (oR (lB (qO GT hr rfl g.m g.k g.b .nil qB (lB (pv 0) (lB (rG vG (by rfl) T.len bD (lB (pv 1) lI)) lI))) (lB (lW sG (lW sG (rG vG (by rfl) T.len bD (lB (pv 1) lI)) mD) (qO GT hr rfl g.m g.k g.b .nil qB (lB (pv 0) (lB (rG (K0 rfl) (by rfl) T.min iB (lB mD (lB (rG vG (by rfl) T.len bD (lB (pv 1) lI)) lI))) lI)))) lI))) (qO GT hr rfl g.m g.k g.b .nil qB (lB (pv 0) (lB mD lI))) (λ_ _=>rfl))) (qC (B6 (xJ aZ bL bM pT (pv 4) (lB (oK pL (pv 1) (pv 6) (λ_ _=>rfl)) lI)))))) (qC (tY (Bc (lB (pv 2) (lB (Cp oX (by rfl) T.tuple bH (lB (pv 4) lI)) lI)))))),?_⟩;refine⟨(by show 0<=sizeLine;decide),λl nl=>?_⟩;have an:=I.ned nl;have aq:H l=none:=U.free an.1 an.2 nl;have lk:l≠kn:=(lT ah aq).symm;refine⟨_,rfl,_,rfl,by omega,by omega,?_⟩;rw[cW];refine E2 (lo:=0) (n:=n) (λi N J=>∃ (S:Aa Af) (v5 v6:Ab V),N=[some (.ref d),some (.ref kn),some (.str M),some (.int n),some (.ref l),v5,v6]/\S.length=i/\(∀ p∈S,p∈B)/\J l=some (.l (S.map V.str))/\DeckAt J d c/\lJ d c H J)
   ⟨[],none,none,rfl,rfl,(λp hp=>nomatch hp),lE,I.new nl,U.trans (lJ.new nl)⟩ ?_ ?_
  .rintro i N J hi ⟨S,v5,v6,rfl,ai,ak,h5,D5,k5⟩;have Y:=k5 kn _ ah ac ab;have aj:(if ((B.map V.str).length:Int)<4 then ((B.map V.str).length:Int) else 4)=(if (B.length:Int)<4 then (B.length:Int) else 4):=by rw[aB]
   refine⟨_,rfl,_,rfl,kn,_,rfl,.inl (eT.of Y),d,c,_,rfl,D5,by rw[aB];omega,by rw[aB];omega,λr1 H6 a0 a1 D6 k6=>?_⟩;have ag:=k6 kn _ Y ac ab;refine⟨_,rfl,kn,_,rfl,.inl (eT.of ag),_,_,rfl,rfl,_,rfl,_,rfl,kn,_,rfl,.inl (eT.of ag),_,_,rfl,d,c,_,rfl,D6,?_,?_,λr2 H7 b0 b1 D7 k7=>?_⟩
   .rw[aj];split<;>omega
   .rw[aj];split<;>omega
   have a2:r2<B.length:=by
    rw[aj] at b1;split at b1<;>omega
   refine⟨_,_,rfl,rfl,(by show 2<=sizeLine;decide),λp np=>?_⟩;have D8:=D7.new (o:=.l [V.int r1,V.int (((B.map V.str).length:Int)-1-r2)]) np;refine⟨_,rfl,d,c,2,rfl,D8,by decide,by decide,λr3 H9 c0 c1 D9 k9=>?_⟩;have G:=D7.ned np;have h9:=k9 p _ lE G.1 G.2;have k8:lJ d c J H9:=((k6.trans k7).trans (lJ.new np)).trans k9;have au:=k8 kn _ Y ac ab;have ae:l≠d/\l≠c:=an;have av:=k8 l _ h5 ae.1 ae.2;rw[aB] at a1;have fin:∀ a:Int,0<=a->a<B.length->∃ x,mF (B.map V.str) a=some (V.str x)/\x∈B:=λa g0 g1=>B4 g0 g1
   have go:∀ a:Int,0<=a->a<B.length->mF [V.int r1,V.int (((B.map V.str).length:Int)-1-r2)] r3=some (V.int a)->E6 K (.ref p) (.int r3) H9 λx H1=>xR 6 x [some (.ref d),some (.ref kn),some (.str M),some (.int n),some (.ref l),some (.int (0+i)),v6] H1 λaz H' =>
     (Ro (Jb K "list" Il (pR 4) (uF (zT (E6 K) (pR 1) (pR 6)) uN))) { nx:=λN J=>∃ (S:Aa Af) (v5 v6:Ab V),N=[some (.ref d),some (.ref kn),some (.str M),some (.int n),some (.ref l),v5,v6]/\S.length=i+1/\(∀ p∈S,p∈B)/\J l=some (.l (S.map V.str))/\DeckAt J d c/\lJ d c H J,rt:=Q } az H':=by
    intro a g0 g1 O;obtain⟨x,hx,hm⟩:=fin a g0 g1;refine⟨p,_,_,.int a,rfl,rfl,eT.of h9,O,_,rfl,.inl ⟨rfl,_,eT.of av⟩,_,rfl,_,rfl,kn,_,_,.str x,rfl,rfl,eT.of au,hx,l,_,.str x,rfl,rfl,av,?_,S++[x],_,_,rfl,by simp[ai],?_,?_,D9.upd_other ae.1 ae.2,?_⟩
    .rw[aB];exact aW (show S.length<1000 by omega) (by decide)
    .intro y hy;rcases aV.mp hy with q | q
     .exact ak y q
     .rw[aU.mp q];exact hm
    .rw[lE];simp
    .exact λb o e g1 g2=>by rw[iO (lT e aq)];exact (k5.trans k8) b o e g1 g2
   rcases (show r3=0\/r3=1 by omega) with e | e
   .exact go r1 a0 a1 (by rw[e];rfl)
   .exact go (((B.map V.str).length:Int)-1-r2) (by rw[aB];omega) (by rw[aB];omega) (by rw[e];rfl)
  .rintro N J ⟨S,v5,v6,rfl,ai,ak,h5,D5,k5⟩;refine⟨_,rfl,_,rfl,l,_,rfl,.inl ⟨eT.of h5,λq W=>⟨(by show 2<=sizeLine;decide),λt R=>?_⟩⟩⟩;have Z:=D5.ned W;have D6:=D5.new (o:=.t (S.map V.str)) W;have k6:=k5.trans (lJ.new (d:=d) (c:=c) (o:=.t (S.map V.str)) W);have C:=D6.ned R;exact k t q M S _ (k6.free C.1 C.2 R) (k5.free Z.1 Z.2 W) lE (by rw[iO (lT lE R)];exact lE) (by rw[ai];exact ho) ak (D6.new R) (k6.trans (lJ.new R))
end
structure Cel where
 ins:List Str
 gates:List (Str×Str×List Str)
 outs:List Str
def Cel.names (C:Cel):Aa Af:=C.ins++C.gates.map (·.1)
def AV (H:Hp) (a:Ad) (g:Af×Af×Aa Af):Prop:=∃ q,H a=some (.t [.str g.1,.str g.2.1,.ref q])/\H q=some (.t (g.2.2.map V.str))
abbrev HF (H:Hp):Aa Ad->Aa (Af×Af×Aa Af)->Prop:=Paired (AV H)
def oB:Aa Af->Aa (Af×Af×Aa Af)->Prop
 | _,[]=>True
 | kn,g::r=>ArOk g.2.1 g.2.2.length/\(∀ p∈g.2.2,p∈kn)/\oB (kn++[g.1]) r
theorem oB.snoc:∀ {j:Aa (Af×Af×Aa Af)}{kn:Aa Af}{g:Af×Af×Aa Af},oB kn j->ArOk g.2.1 g.2.2.length->(∀ p∈g.2.2,p∈kn++j.map (·.1))->oB kn (j++[g])
 | [],kn,g,_,b,c=>⟨b,by simpa using c,True.intro⟩
 | a::r,kn,g,h,b,c=>⟨h.1,h.2.1,oB.snoc h.2.2 b (by simpa using c)⟩
structure Good (C:Cel):Prop where
 nd:C.names.Nodup
 nm:∀ x∈C.names,GoodName x
 gt:oB C.ins C.gates
 os:∀ o∈C.outs,o∈C.names
 ond:C.outs.Nodup
 li:C.ins.length<=6
 lg:C.gates.length<=24
 lo:C.outs.length<=6
def Aq:RD:=λa b e=>∃ (d c:Ad) (m:Int),a=[d,c]/\b=[.r (.ref d),.int m]/\0<m/\m<4611686018427387904/\∀ r:Nat,(r:Int)<m->e (.v (.int r))
def zH:RD:=λb e f=>∃ (d c:Ad) (m:Nat),b=[d,c]/\e=[.r (.ref d),.int m]/\m<=40/\∀ a:Aa Af,a.length=m->a.Nodup->(∀ x∈a,GoodName x)->f (.o (.l (a.map D.str)))
def Q1:RD:=λf h i=>∃ (d c:Ad) (a:Aa Af),f=[d,c]/\h=[.r (.ref d),.l (a.map D.str)]/\a.length<=100/\∀ (e:Af) (b:Aa Af),ArOk e b.length->(∀ p∈b,p∈a)->i (.v (.t [.str e,.t (b.map D.str)]))
theorem Cf (h:Dk [d,c] H):DeckAt H d c:=by
 rcases h with h | ⟨b,a,e,h⟩
 .cases h
 .cases e;exact h
theorem Fw (k:lJ d c H g):yL [d,c] H g:=λb o e n=>k b o e (λz=>n (by simp[z])) (λz=>n (by simp[z]))
theorem DO (D:DeckAt H d c) (h:H l=none):l∉[d,c]:=λz=>by
 have:=D.ned h;rcases aF.mp z with q | q
 .exact this.1 q
 .exact this.2 (by simpa using q)
section
variable {P:Ah}{K:kY}
theorem Y4 (F:FnOk P w K g base mQ k f fd j zM):FnOk P w K g base mQ k f fd j (vW K Aq):=F.imp λN H Q E y=>by
 obtain⟨G,A,L,O,e,M,r,⟨d,c,m,s,t,u,v,h⟩,x⟩:=y;subst s t;cases r with
 | cons B r =>
  cases r with
  | cons D r =>
   cases r;have:=B.raw_inv;have:=D.int_inv;subst_vars;refine⟨d,c,m,rfl,Cf e,u,v,λr q a b i z=>?_⟩;obtain⟨n,rfl⟩:=cU a;exact x _ _ q (h n b) (Fw z) (.inr ⟨d,c,rfl,i⟩) (.int _)
theorem U8 (F:FnOk P w K g base mQ k f fd j K1):FnOk P w K g base mQ k f fd j (vW K zH):=F.imp λR H Q E z=>by
 obtain⟨M,A,N,S,a,O,r,⟨d,c,m,t,u,x,h⟩,y⟩:=z;subst t u;cases r with
 | cons G r =>
  cases r with
  | cons L r =>
   cases r;have:=G.raw_inv;have:=L.int_inv;subst_vars;exact⟨d,c,m,rfl,Cf a,x,λl n s i b e D v q B=>y _ _ s (h n e D v) (Fw B) (.inr ⟨d,c,rfl,q⟩) ⟨l,rfl,i,DO (Cf a) i,_,b,Hf n⟩⟩
theorem Zd (F:FnOk P w K j base mQ k f fd g Pw):FnOk P w K j base mQ k f fd g (vW K Q1):=F.imp λo H Q E O=>by
 obtain⟨X,A,Y,p,a,B,r,⟨d,c,e,s,u,v,b⟩,M⟩:=O;subst s u;cases r with
 | cons S r =>
  cases r with
  | cons V r =>
   cases r;have:=S.raw_inv;subst this;obtain⟨kn,l,rfl,D,G,W⟩:=V.lst_inv;have:=AF (Ov e) W;subst this;have h:=B kn D;refine⟨d,c,kn,e,rfl,Cf a,G,λz=>h (by simp[z]),λz=>h (by simp[z]),v,λt q i g n Z N x y ok L m R=>M _ _ n (b i g ok L) (Fw R) (.inr ⟨d,c,rfl,m⟩) ?_⟩;exact .t x (.cons (.str i) (.cons (.t y (Hf g)) .nil))
end
theorem Bk (f:j->D) (g:Aa j) (k:Nat):nR (g.map f) none (some (k:Int))=(g.take k).map f:=by
 unfold nR;rw[aB,HT.sIx_none,HT.sIx_nat,List.drop_zero,jJ,List.map_take];by_cases h:k<=g.length
 .rw[kE h]
 .rw[Nat.min_eq_right (by omega),aQ (by simp),aQ (by simp;omega)]
theorem Jo (f:j->D) (g:Aa j) (k:Nat):nR (g.map f) (some (k:Int)) none=(g.drop k).map f:=by
 unfold nR;rw[aB,HT.sIx_nat,HT.sIx_none,List.map_drop,aQ (by simp)];by_cases h:k<=g.length
 .rw[kE h]
 .rw[Nat.min_eq_right (by omega),List.drop_eq_nil_of_le (by simp),List.drop_eq_nil_of_le (by simp;omega)]
noncomputable def lF (g:Af×Af×Aa Af):D:=.t [.str g.1,.str g.2.1,.t (g.2.2.map D.str)]
def tI (C:Cel):D:=.t [.t (C.ins.map D.str),.t (C.gates.map lF),.t (C.outs.map D.str)]
def mV (p:Af×Af):D:=.t [.str p.1,.str p.2]
def lX (C:Cel) (al:Aa (Af×Af)):D:=.t [tI C,.t (al.map mV)]
structure GoodRow (C:Cel) (al:List (Str×Str)):Prop where
 good:Good C
 og:∀ o∈C.outs,o∈C.gates.map (·.1)
 n1:(al.map (·.1)).Nodup
 n2:(al.map (·.2)).Nodup
 mem:∀ p∈al,p.1∈C.outs/\p.2∈C.ins
 la:al.length<=4
def Me:RD:=λe f h=>∃ (d c:Ad) (a b m:Nat),e=[d,c]/\f=[.r (.ref d),.int a,.int b,.int m]/\a<=6/\b<=24/\m<=4/\∀ C al,GoodRow C al->h (.v (lX C al))
theorem lC (I:Aa Sl->Prop) (o:∀ N:Aa Sl->Prop,(∀ g,I g->N g)->t l { j with nx:=N } r) (p:∀ g,I g->u l j g):Dd t u l j r:=o _ p
theorem vR (p:Aa D) (l:Aa Sl) (r:∀ J:Aa D->Aa Sl->Prop,J p l->ι I ρ J) (Pv:Nat->Aa Sl->Prop) (T:Pv 0 l)
  (U:∀ (i:Nat) d j,p[i]?=some d->Pv i j->g d j λC=>tb I { nx:=Pv (i+1),ct:=Pv (i+1),bk:=o.nx,rt:=o.rt } C) (hd:∀ j,Pv p.length j->o.nx j):Ks ι g tb I o ρ:=r _ ⟨Pv,T,U,hd⟩
theorem Bj {j:Type}{f:j->D}{g:Aa j}{i:Nat}{d:D}(h:(g.map f)[i]?=some d):∃ y,g[i]?=some y/\f y=d:=by
 rw[bK] at h;cases e:g[i]? with
 | none=>rw[e] at h;cases h
 | some y=>rw[e] at h;exact⟨y,rfl,cA h⟩
theorem A6 {lo:Int}(h:(qI lo n)[i]?=some d):i<n/\d = .int (lo+i):=by
 unfold qI at h;rw[bK] at h;cases e:(List.range n)[i]? with
 | none=>rw[e] at h;cases h
 | some y =>
  rw[e] at h;obtain⟨a,b⟩:=aT.mp e;rw[cI] at a;rw[List.getElem_range] at b;subst b;exact⟨a,(cA h).symm⟩
theorem Gn:∀ {l:Aa g}{n:Nat}{y:g},l[n]?=some y->l.Perm (y::l.eraseIdx n)
 | a::l,0,y,h=>by simp at h;subst h;exact .refl _
 | a::l,n+1,y,h=>by
  have:=Gn (l:=l) (n:=n) (y:=y) (by simpa using h);rw[jC];exact (this.cons a).trans (.swap y a _)
theorem Io (g:left[n]?=some y) (j:(out++left).Nodup):((out++[y])++left.eraseIdx n).Nodup/\(∀ z,z∈(out++[y])++left.eraseIdx n->z∈out++left)/\(left.eraseIdx n).length+1=left.length:=by
 obtain⟨a,c⟩:=aT.mp g;have p:(out++left).Perm ((out++[y])++left.eraseIdx n):=by
  have q:left.Perm (y::left.eraseIdx n):=Gn g;rw[bI];exact q.append_left out
 refine⟨p.nodup_iff.mp j,λz b=>p.mem_iff.mpr b,?_⟩;rw[List.length_eraseIdx_of_lt a];omega
theorem Jt (f:g->j):∀ (l:Aa g) (n:Nat),(l.map f).eraseIdx n=(l.eraseIdx n).map f
 | [],_=>by simp
 | a::l,0=>rfl
 | a::l,n+1=>by rw[aY,jC,jC,aY,Jt f l n]
theorem Ct {n k:Nat}(h:k<n):seqIndex? (k:Int) n=some k:=by
 unfold seqIndex?;have:¬ ((k:Int)<0):=by omega
 simp[this,h]
section
variable {P:Ah}{K:kY}
theorem oJ {P:Aa Af}(a:j.kind = .function:=by rfl) (b:j.isCoroutine=false:=by rfl) (c:j.isGenerator=false:=by rfl) (d:N.Nodup:=by decide +kernel) (e:N.take P.length=P:=by rfl) (f:∀ x∈P,j.names.lookup x=some .local\/j.names.lookup x=some .cell:=by decide +kernel) (g:∀ y∈j.names,y.2 ≠ .free:=by decide +kernel):L2.FnScope N P j:=⟨a,b,c,d,e,f,g⟩
theorem rA:FnScope ["deck","inputs","gates","most","many","count","names","known","rows","name","left","outputs","k","outs","ins","along"] ["deck","inputs","gates","most"] (lU Bz):=oJ
theorem FZ (T:Txt mg) (g:Kn P w K mg base 1 "_law_take" uH ["deck","many"] Aq) (C:Kn P w K mg base 3 "_law_names" xB ["deck","many"] zH) (I:Kn P w K mg base 2 "_law_gate" Cw ["deck","known"] Q1) :
  oI P w K mg base 4 "_law_row" Bz ["deck","inputs","gates","most"] Me:=by
 refine oU rA λf ar A ao s H E dk ds Φ Y hu hR=>?_
 obtain⟨d,c,a,b,m,rfl,rfl,ha,hb,hm,an⟩:=hR;refine⟨_,(hH (lG 4 rA.nd (lV g Y (dK (eH 0) (dK (mZ mO mL 1 gV) dT)))) (hH (lG 5 rA.nd (lV g Y (dK (eH 0) (dK (mZ mO mL 2 gV) dT)))) (hH (lG 6 rA.nd (lV C Y (dK (eH 0) (dK (mZ mO mL 4 (eH 5)) dT)))) (hH (lG 7 rA.nd (tH sZ tQ (pv 6) uC (sF (eH 4)))) (hH (lG 8 rA.nd (nX dT)) (hH (tS (nG (tH sZ tQ (pv 6) (sF (eH 4)) uC)) (lQ 9 rA.nd) (hH (rL (pW aZ bL bM pT rK (pv 8) (dK (nS mO mL (mY (dK (eH 9) dT)) (lV I Y (dK (eH 0) (dK (eH 7) dT)))) dT))) (lY (lG 7 rA.nd (mZ mO mL 7 (nX (dK (eH 9) dT))))))) (hH (lG 10 rA.nd (tH sZ tQ (pv 6) (sF (eH 4)) uC)) (hH (lG 11 rA.nd (nX dT)) (hH (tS (Ax (by rfl) T.range (mT (I3 rfl) Gg T.min iB (dK (lV g Y (dK (eH 0) (dK gV dT))) (dK (mT nM nN T.len bD (nW (pv 10) dT)) dT)))) (lQ 12 rA.nd) (lY (rL (pW aZ bL bM pT rK (pv 11) (dK (pW aZ fU fV Bl B3 (pv 10) (dK (lV g Y (dK (eH 0) (dK (mT nM nN T.len bD (nW (pv 10) dT)) dT))) dT)) dT))))) (hH (lG 13 rA.nd (nL A3 Av T.list fP (nW (pv 11) dT))) (hH (lG 14 rA.nd (tH sZ tQ (pv 6) uC (sF (eH 4)))) (hH (lG 15 rA.nd (nX dT)) (hH (tS (Ax (by rfl) T.range (mT (I3 rfl) Gg T.min iB (dK (lV g Y (dK (eH 0) (dK (mZ mO mL 3 gV) dT))) (dK (mT nM nN T.len bD (nW (pv 13) dT)) (dK (mT nM nN T.len bD (nW (pv 14) dT)) dT))))) (lQ 12 rA.nd) (lY (rL (pW aZ bL bM pT rK (pv 15) (dK (mY (dK (pW aZ fU fV Bl B3 (pv 13) (dK (lV g Y (dK (eH 0) (dK (mT nM nN T.len bD (nW (pv 13) dT)) dT))) dT)) (dK (pW aZ fU fV Bl B3 (pv 14) (dK (lV g Y (dK (eH 0) (dK (mT nM nN T.len bD (nW (pv 14) dT)) dT))) dT)) dT))) dT))))) (lY (nO (mY (dK (mY (dK (nL oX pH T.tuple bH (dK (tH sZ tQ (pv 6) uC (sF (eH 4))) dT)) (dK (nL oX pH T.tuple bH (nW (pv 8) dT)) (dK (nL oX pH T.tuple bH (nW (pv 11) dT)) dT)))) (dK (nL oX pH T.tuple bH (nW (pv 15) dT)) dT)))))))))))))))))),?_⟩;refine⟨rfl,d,c,_,rfl,rfl,by omega,by omega,λk h1=>⟨.inl rfl,?_⟩⟩;refine⟨rfl,d,c,_,rfl,rfl,by omega,by omega,λZ h2=>⟨.inl rfl,?_⟩⟩;refine⟨rfl,d,c,k+Z,rfl,rfl,by omega,λu lx nd gn=>⟨.inl rfl,?_⟩⟩;refine⟨rfl,by decide,?_⟩;dsimp only;refine lC (λB=>∃ (e:Aa (Af×Af×Aa Af)) (s7 V:Sl),B=[.v (.r (.ref d)),.v (.int a),.v (.int b),.v (.int m),.v (.int k),.v (.int Z),.o (.l (u.map D.str)),s7,.o (.l (e.map lF)),V,.n,.n,.n,.n,.n,.n] /\ e.map (·.1)=u.drop k/\oB (u.take k) e) (λN hN=>?_) ?_
 .refine vR ((u.drop k).map D.str) [.v (.r (.ref d)),.v (.int a),.v (.int b),.v (.int m),.v (.int k),.v (.int Z),.o (.l (u.map D.str)),.o (.l ((u.take k).map D.str)),.o (.l []),.n,.n,.n,.n,.n,.n,.n] (λΨ h=>?_)
   (λi B=>∃ (e:Aa (Af×Af×Aa Af)) (V:Sl),B=[.v (.r (.ref d)),.v (.int a),.v (.int b),.v (.int m),.v (.int k),.v (.int Z),.o (.l (u.map D.str)),.o (.l ((u.take k++e.map (·.1)).map D.str)),.o (.l (e.map lF)),V,.n,.n,.n,.n,.n,.n] /\ e.map (·.1)=(u.drop k).take i/\oB (u.take k) e) ⟨[],.n,by simp,by simp,trivial⟩ ?_ ?_
  .rw[<- Bk,<- Jo] at h;exact⟨rfl,h⟩
  .rintro i x B W ⟨e,V,rfl,O,ok⟩;obtain⟨y,hy,rfl⟩:=Bj W;have ah:e.length<=40:=by have:=eA List.length O;simp only[aB,bT,dH] at this;omega
   refine⟨rfl,(by show 1<=1000;decide),d,c,u.take k++e.map (·.1),rfl,rfl,by simp;omega,λwd ps ak hp=>⟨.inl rfl,(by show 1+2<=100000;decide),(by show (e.map lF).length<100000;simp;omega),rfl,(by show 1<=1000;decide),(by show ((u.take k++e.map (·.1)).map D.str).length+1<=100000;simp;omega),e++[(y,wd,ps)],.v (.str y),?_,?_,ok.snoc ak hp⟩⟩
   .simp[lF]
   .rw[aO,O,bX,hy];rfl
  .rintro B ⟨e,V,rfl,O,ok⟩;rw[aB,aQ (aJ _)] at O;exact hN _ ⟨e,_,V,rfl,O,ok⟩
 rintro B ⟨e,s7,V,rfl,O,ok⟩;have ah:e.length=Z:=by have:=eA List.length O;simp only[aB,dH] at this;omega
 have ag:(e.map (·.1)).Nodup:=by rw[O];exact nd.sublist (List.drop_sublist _ _)
 refine⟨rfl,by decide,?_⟩;dsimp only;refine lC (λB=>∃ (os:Aa Af) (U t:Sl),B=[.v (.r (.ref d)),.v (.int a),.v (.int b),.v (.int m),.v (.int k),.v (.int Z),.o (.l (u.map D.str)),s7,.o (.l (e.map lF)),V,U,.o (.l (os.map D.str)),t,.n,.n,.n] /\ os.Nodup/\(∀ o∈os,o∈e.map (·.1))/\os.length<=6) (λN hN=>?_) ?_
 .refine⟨d,c,7,rfl,rfl,by decide,by decide,λk7 aj=>⟨.inl rfl,rfl,rfl,_,rfl,λq hq q1 q2=>?_⟩⟩;have J:q<=((nR (u.map D.str) (some (k:Int)) none).length:Nat):=q2;rw[Jo,<- O] at J |-;simp only[aB] at J;obtain⟨q,rfl⟩:∃ n:Nat,q=n:=⟨q.toNat,by rcases hq with z | z<;>omega⟩;obtain⟨G0,X⟩:∃ G0:Aa Af,G0=e.map (·.1):=⟨_,rfl⟩;refine⟨by omega,by omega,λi B=>∃ (os left:Aa Af) (t:Sl),B=[.v (.r (.ref d)),.v (.int a),.v (.int b),.v (.int m),.v (.int k),.v (.int Z),.o (.l (u.map D.str)),s7,.o (.l (e.map lF)),V,.o (.l (left.map D.str)),.o (.l (os.map D.str)),t,.n,.n,.n] /\
   (os++left).Nodup/\(∀ o∈os++left,o∈G0)/\os.length=i/\left.length+i=e.length,⟨[],G0,.n,by rw[X];rfl,by rw[X];exact ag,λo F=>F,rfl,by rw[X];simp⟩,?_,?_⟩
  .rintro i x B W ⟨os,left,t,rfl,M,L,ol,ll⟩;obtain⟨hi,rfl⟩:=A6 W;rw[cW] at hi;refine⟨rfl,rfl,rfl,rfl,_,rfl,d,c,_,rfl,rfl,(by show (0:Int)<((left.map D.str).length:Nat);simp;omega),(by show ((left.map D.str).length:Int)<4611686018427387904;simp;omega),λj hj=>⟨.inr rfl,?_⟩⟩;have Q:j<left.length:=by have:(j:Int)<((left.map D.str).length:Nat):=hj;simp at this;omega
   obtain⟨y,hy⟩:∃ y,left[j]?=some y:=⟨_,aG Q⟩;obtain⟨p1,p2,p3⟩:=Io hy M;refine⟨j,.str y,by omega,by omega,(by show seqIndex? _ (left.map D.str).length=_;rw[aB];exact Ct Q),(by show (left.map D.str)[j]?=_;rw[bK,hy];rfl),(by show (os.map D.str).length<100000;simp;omega),os++[y],left.eraseIdx j,.v (.int (0+(i:Int))),?_,p1,λo F=>L o (p2 o F),by simp[ol],by omega⟩;simp[Jt]
  .rintro B ⟨os,left,t,rfl,M,L,ol,ll⟩;exact hN _ ⟨os,_,t,rfl,(bN.mp M).1,λo F=>by have:=L o (aM _ F);rw[X] at this;exact this,by rw[ol];simp[qI];omega⟩
 rintro B ⟨os,U,t,rfl,M,L,ol⟩;refine⟨rfl,_,rfl,rfl,by decide,?_⟩;dsimp only;have aq:(u.take k).Nodup:=nd.sublist (List.take_sublist _ _);have tl:(u.take k).length=k:=by simp;omega
 refine lC (λB=>∃ (al:Aa (Af×Af)) (t ae af:Sl),B=[.v (.r (.ref d)),.v (.int a),.v (.int b),.v (.int m),.v (.int k),.v (.int Z),.o (.l (u.map D.str)),s7,.o (.l (e.map lF)),V,U,.o (.l (os.map D.str)),t,ae,af,.o (.l (al.map mV))] /\ (al.map λp=>p.1).Nodup/\(al.map λp=>p.2).Nodup/\(∀ p∈al,p.1∈os/\p.2∈u.take k)/\al.length<=4) (λN hN=>?_) ?_
 .refine⟨rfl,d,c,_,rfl,rfl,by omega,by omega,λk7 aj=>⟨.inl rfl,rfl,rfl,_,rfl,rfl,rfl,_,rfl,λq hq q1 q2 q3=>?_⟩⟩;have ac:q<=((nR (u.map D.str) none (some (k:Int))).length:Nat):=q3;have J:q<=((os.map D.str).length:Nat):=q2;rw[Bk] at ac |-;rw[aB] at ac J;obtain⟨q,rfl⟩:∃ n:Nat,q=n:=⟨q.toNat,by rcases hq with z | z | z<;>omega⟩;refine⟨by omega,by omega,λi B=>∃ (al:Aa (Af×Af)) (ol G:Aa Af) (t:Sl),B=[.v (.r (.ref d)),.v (.int a),.v (.int b),.v (.int m),.v (.int k),.v (.int Z),.o (.l (u.map D.str)),s7,.o (.l (e.map lF)),V,U,.o (.l (os.map D.str)),t,.o (.l (ol.map D.str)),.o (.l (G.map D.str)),.o (.l (al.map mV))] /\
   ((al.map λp=>p.1)++ol).Nodup/\((al.map λp=>p.2)++G).Nodup/\(∀ o∈(al.map λp=>p.1)++ol,o∈os)/\(∀ o∈(al.map λp=>p.2)++G,o∈u.take k)/\al.length=i/\ol.length+i=os.length/\G.length+i=(u.take k).length,
   ⟨[],os,u.take k,_,rfl,M,aq,λo F=>F,λo F=>F,rfl,by simp,by simp⟩,?_,?_⟩
  .rintro i x B W ⟨al,ol,G,t,rfl,R,S,m1,m2,la,lo,li⟩;obtain⟨hi,rfl⟩:=A6 W;rw[cW] at hi;refine⟨rfl,rfl,rfl,rfl,_,rfl,d,c,_,rfl,rfl,(by show (0:Int)<((ol.map D.str).length:Nat);simp;omega),(by show ((ol.map D.str).length:Int)<4611686018427387904;simp;omega),λj hj=>⟨.inr rfl,?_⟩⟩;have Q:j<ol.length:=by have:(j:Int)<((ol.map D.str).length:Nat):=hj;simp at this;omega
   obtain⟨y,hy⟩:∃ y,ol[j]?=some y:=⟨_,aG Q⟩;obtain⟨p1,p2,p3⟩:=Io hy R;refine⟨j,.str y,by omega,by omega,(by show seqIndex? _ (ol.map D.str).length=_;rw[aB];exact Ct Q),(by show (ol.map D.str)[j]?=_;rw[bK,hy];rfl),?_⟩;refine⟨rfl,rfl,rfl,_,rfl,d,c,_,rfl,rfl,(by show (0:Int)<((G.map D.str).length:Nat);simp;omega),(by show ((G.map D.str).length:Int)<4611686018427387904;simp;omega),λj2 ai=>⟨.inr rfl,?_⟩⟩;have aa:j2<G.length:=by have:(j2:Int)<((G.map D.str).length:Nat):=ai;simp at this;omega
   obtain⟨y2,ab⟩:∃ y,G[j2]?=some y:=⟨_,aG aa⟩;obtain⟨p4,p5,p6⟩:=Io ab S;refine⟨j2,.str y2,by omega,by omega,(by show seqIndex? _ (G.map D.str).length=_;rw[aB];exact Ct aa),(by show (G.map D.str)[j2]?=_;rw[bK,ab];rfl),(by show 2<=1000;decide),(by show (al.map mV).length<100000;simp;omega),al++[(y,y2)],ol.eraseIdx j,G.eraseIdx j2,.v (.int (0+(i:Int))),?_,by simpa using p1,by simpa using p4,λo F=>m1 o (p2 o (by simpa using F)),λo F=>m2 o (p5 o (by simpa using F)),by simp[la],by omega,by omega⟩;simp[mV,Jt]
  .rintro B ⟨al,ol,G,t,rfl,R,S,m1,m2,la,lo,li⟩;refine hN _ ⟨al,_,_,_,rfl,(bN.mp R).1,(bN.mp S).1,λp hp=>⟨m1 _ (aM _ (aD.mpr ⟨p,hp,rfl⟩)),m2 _ (aM _ (aD.mpr ⟨p,hp,rfl⟩))⟩,?_⟩;rw[la];simp[qI];omega
 rintro B ⟨al,t,ae,af,rfl,R,S,am,la⟩;have fin:=an ⟨u.take k,e,os⟩ al ⟨⟨?_,?_,ok,λo F=>?_,M,?_,?_,ol⟩,L,R,S,am,la⟩
 .unfold lX tI at fin;dsimp only at fin;rw[<- Bk] at fin;exact⟨rfl,rfl,rfl,(by show 3<=1000;decide),rfl,(by show 2<=1000;decide),fin⟩
 .show (u.take k++e.map (·.1)).Nodup;rw[O,cJ];exact nd
 .intro x W;have W:x∈u.take k++e.map (·.1):=W;rw[O,cJ] at W;exact gn x W
 .exact aP _ (L o F)
 .show (u.take k).length<=6;omega
 .show e.length<=24;omega
end
def O6:RD:=λc a b=>∃ C al,a=[lX C al]/\al.length<=100/\b (.o (.l (al.map λp=>D.str p.2)))
def G1:RD:=λc a b=>∃ C al,a=[lX C al]/\al.length<=100/\b (.o (.l (List.replicate (al.length+1) (D.int 0))))
def Og:RD:=λc a b=>∃ (C:Cel) (cr:oD),a=[tI C,.k (lZ cr)]/\Good C/\(∀ x,0<=look cr x)/\b (.v (.k (lZ (tbl C.ins C.gates (look cr)))))
def qD (cr:oD) (e:Int):D:=.l ((cr.map λp=>D.int p.2)++[.int e])
def Hb:RD:=λc a b=>∃ (C:Cel) (al:Aa (Af×Af)) (cr:oD) (e:Int),a=[lX C al,qD cr e]/\GoodRow C al/\cr.map (·.1)=al.map (·.2)/\(∀ x,0<=look cr x)/\b (.o (qD (rD al (tbl C.ins C.gates (look cr))) (mx (C.outs.map (look (tbl C.ins C.gates (look cr)))))))
def Pj (C:Cel) (al:Aa (Af×Af)) (i:Nat):Int:=Mx C.ins C.gates al C.outs i
def lM (C:Cel) (al:Aa (Af×Af)):Nat->Int
 | 0=>0
 | i+1=>Pj C al i
def Jm:RD:=λc a b=>∃ (C:Cel) (al:Aa (Af×Af)) (w:Nat),a=[lX C al,.int w]/\GoodRow C al/\w<=20000/\b (.o (.l ((List.range (w+1)).map λi=>D.int (lM C al i))))
def Qa:RD:=λc a b=>∃ (C:Cel) (al:Aa (Af×Af)) (w:Nat),a=[lX C al,.int w]/\GoodRow C al/\w<=20000/\b (.v (.int (lM C al w)))
def wL (C:Cel):Nat:=(C.gates.filter λg=>!g.2.2.isEmpty).length
def Qf:RD:=λc a b=>∃ (C:Cel) (al:Aa (Af×Af)) (w:Nat),a=[lX C al,.int w]/\GoodRow C al/\w<=20000/\b (.v (.int (w*(wL C:Nat))))
theorem vN:∀ {gs:nI}{kn:Aa Af}{i:Nat}{g:Af×Af×Aa Af},oB kn gs->gs[i]?=some g->ArOk g.2.1 g.2.2.length/\∀ p∈g.2.2,p∈kn++(gs.take i).map (·.1)
 | a::r,kn,0,g,h,e=>by
  simp at e;subst e;exact⟨h.1,by simpa using h.2.1⟩
 | a::r,kn,i+1,g,h,e=>by
  obtain⟨b,c⟩:=vN (gs:=r) (i:=i) h.2.2 (by simpa using e);exact⟨b,λp d=>by have:=c p d;simpa using this⟩
theorem Pr (t:oD) (g:Aa Af):sJ (g.map λo=>D.int (look t o))=some (g.map (look t)):=by
 have:=yU (g.map (look t))
 rwa [bC] at this
theorem L8:(["output","name"]:Aa Af).Nodup:=by decide +kernel
theorem Gw:(["name","word","names"]:Aa Af).Nodup:=by decide +kernel
theorem Wc:(["name","carried"]:Aa Af).Nodup:=by decide +kernel
theorem FS:(["other","lates"]:Aa Af).Nodup:=by decide +kernel
section
variable {P:Ah}{K:kY}
theorem Ts:FnScope ["row"] ["row"] (lU Fb):=oJ
theorem Zo (T:Txt g):oI P w K g base 1 "carried_inputs" Fb ["row"] O6:=by
 refine oU Ts λf c A b s H E u x D z q m=>?_
 obtain⟨C,al,rfl,y,a⟩:=m;refine⟨_,(lY (nO (nV ["output","name"] [] [] (nG (lA q 0 gV)) (λ_ _ _ _ _=>(rM (n:=2) rfl (mU (lQ 0 L8) (mU (lQ 1 L8) rE)))) (λ_ _ _ _ _=>(eH 1))))),?_⟩;exact nT al mV (λp=>.str p.2) [.v (lX C al)] (λF h=>⟨rfl,_,rfl,h⟩) (by omega) (λi p B t e d k=>⟨rfl,rfl,d,k⟩) a
theorem BD:FnScope ["row"] ["row"] (lU zW):=oJ
theorem Zg (T:Txt g):oI P w K g base 1 "at_edges" zW ["row"] G1:=by
 refine oU BD λf c A b s H E k m u t h d=>?_
 obtain⟨C,al,rfl,q,a⟩:=d;refine⟨_,(lY (nO (nS wC wG (nX (dK gV dT)) (nS mO mL (mT nM nN T.len bD (dK (lA h 0 gV) dT)) gV)))),?_⟩;refine⟨(by show 1<=1000;decide),rfl,_,rfl,rfl,_,rfl,?_⟩;refine⟨by show (0:Int)<=((al.map mV).length:Nat)+1;omega,by show (((al.map mV).length:Nat):Int)+1<=1000;rw[aB];omega,by show 1<=100;decide,?_⟩;have e:(List.replicate ((((al.map mV).length:Nat):Int)+1).toNat [D.int 0]).flatten=List.replicate (al.length+1) (D.int 0):=by
  rw[aB,show ((al.length:Int)+1).toNat=al.length+1 by omega];generalize al.length+1=n;induction n with
  | zero=>rfl
  | succ n i=>rw[cB,fH,i];rfl
 rw[<- e] at a;exact a
theorem Ve:FnScope ["row","width"] ["row","width"] (lU Ei):=oJ
theorem EY (T:Txt j):oI P w K j base 1 "gate_count" Ei ["row","width"] Qf:=by
 refine oU Ve λf d A b s H E B F y G c u=>?_
 obtain⟨C,al,w,rfl,x,hw,a⟩:=u;refine⟨_,(lY (nO (mZ wC wG 1 (mT nM nN T.len bD (dK (nV ["name","word","names"] [] [] (nG (vD c (lA c 0 gV) gV)) (λ_ _ _ _ _=>(rM (n:=3) rfl (mU (lQ 0 Gw) (mU (lQ 1 Gw) (mU (lQ 2 Gw) rE))))) (λ_ _ _ _ _=>(eH 0)) (ht:=λ_ _ _ _ _=>(Tx (Tw (pv 2))))) dT))))),?_⟩;refine⟨rfl,?_⟩;unfold dC aC;refine J9 C.gates lF (λg=>.str g.1) (λg=>!g.2.2.isEmpty) [.v (lX C al),.v (.int w)] (λM h=>⟨rfl,_,rfl,_,rfl,h⟩) ?_ (λi g L z e k m t=>⟨rfl,rfl,rfl,_,rfl,?_⟩) ?_
 .have:=x.good.lg;omega
 .show if (!(g.2.2.map D.str).isEmpty)=true then _ else _
  rw[show (g.2.2.map D.str).isEmpty=g.2.2.isEmpty by cases g.2.2<;>rfl];cases q:g.2.2.isEmpty with
  | true=>exact t (by rw[q];rfl)
  | false=>exact⟨k,m (by rw[q];rfl)⟩
 .refine⟨rfl,_,rfl,.inl ⟨by show -(2 ^ 64)<(w:Int);omega,by show (w:Int)<2 ^ 64;omega⟩,?_⟩;have e:(((C.gates.filter λg=>!g.2.2.isEmpty).map λg=>D.str g.1).length:Nat)=wL C:=by rw[aB];rfl
  show y (.v (.int ((w:Int)*((((C.gates.filter λg=>!g.2.2.isEmpty).map λg=>D.str g.1).length:Nat):Int))));rw[e];exact a
theorem zJ:FnScope ["cell","carried","lates","name","word","names"] ["cell","carried"] (lU Dp):=oJ
theorem GA (T:Txt mg):oI P w K mg base 1 "told_lates" Dp ["cell","carried"] Og:=by
 refine oU zJ λf r A W s H E dk ds Φ hr B U=>?_
 obtain⟨C,cr,rfl,c,J,V⟩:=U;refine⟨_,(hH (lG 2 zJ.nd (nL (EI rfl) BH T.dict PyProof.Rows.boot_dict (dK (nV ["name"] ["carried"] [1] (nG (lA B 0 gV)) (λ_ _ _ _ _=>(lQ 0 Wc)) (λ_ _ _ _ _=>(mY (dK (eH 0) (dK (Yv B (pv 1) (eH 0) gV) dT))))) dT))) (hH (tS (nG (lA B 0 gV)) (rM (n:=3) rfl (mU (lQ 3 zJ.nd) (mU (lQ 4 zJ.nd) (mU (lQ 5 zJ.nd) rE)))) (lY (Wf (n:=2) B (nS mO mL gV (Qc rfl (by rfl) T.max (nV ["other"] ["lates"] [2] (nG (eH 5)) (λ_ _ _ _ _=>(lQ 0 FS)) (λ_ _ _ _ _=>(lA B 1 (eH 0)))) (vH gV))) (pv 2) (eH 3)))) (lY (nO (eH 2))))),?_⟩;unfold Dd qR dC aC;refine nT C.ins D.str (λn=>.t [.str n,.int (look cr n)]) [.v (tI C),.v (.k (lZ cr)),.n,.n,.n,.n] (λl h=>⟨rfl,_,rfl,h⟩) (by have:=c.li;omega) (λi n ys p e M y=>?_) ?_
 .rw[<- CP] at y;exact⟨rfl,_,rfl,by show 2<=1000;decide,M,y⟩
 have u:C.ins.Nodup:=(bN.mp c.nd).1;have I:wB (C.ins.map λn=>D.t [.str n,.int (look cr n)])=some (lZ (C.ins.map λn=>(n,look cr n))):=by
  rw[Mm (g:=λn=>((Sum.inr n:hI),D.int (look cr n))) (λn=>⟨.str n,rfl,rfl⟩)];simp[lZ]
 refine⟨_,I,by simp[lZ];have:=c.li;omega,?_⟩;rw[Nk (by simpa [cX] using u)];dsimp only;refine vR (C.gates.map lF) [.v (tI C),.v (.k (lZ cr)),.o (.k (lZ (C.ins.map λn=>(n,look cr n)))),.n,.n,.n] (λl h=>⟨rfl,_,rfl,h⟩)
  (λi X=>∃ F G L:Sl,X=[.v (tI C),.v (.k (lZ cr)),.o (.k (lZ (tbl C.ins (C.gates.take i) (look cr)))),F,G,L]) ⟨.n,.n,.n,by simp[tbl]⟩ ?_ ?_
 .rintro i x X hx ⟨F,G,L,rfl⟩;obtain⟨g,d,rfl⟩:=Bj hx;obtain⟨O,S⟩:=vN c.gt d;have N:=F4 C.ins (C.gates.take i) (look cr);have z:=Ea (ins:=C.ins) (gs:=C.gates.take i) J;have b:g.1∉(tbl C.ins (C.gates.take i) (look cr)).map (·.1):=by
   rw[N];have Z:(C.ins++C.gates.map (·.1)).Nodup:=c.nd;intro q;have e:C.gates=C.gates.take i++g::C.gates.drop (i+1):=by
    obtain⟨hi,rfl⟩:=aT.mp d;rw[List.getElem_cons_drop,cJ]
   rw[e,aO,<- bI] at Z;exact (bN.mp Z).2.2 g.1 q g.1 (by simp) rfl
  have step:tbl C.ins (C.gates.take (i+1)) (look cr)=tbl C.ins (C.gates.take i) (look cr)++[(g.1,mx (g.2.2.map λo=>1+look (tbl C.ins (C.gates.take i) (look cr)) o))]:=by
   unfold tbl;rw[bX,d,iD];rfl
  generalize hT:tbl C.ins (C.gates.take i) (look cr)=t at N z b step |-;refine⟨rfl,rfl,?_⟩;unfold Oa d2 cd Gh;dsimp only;refine nT g.2.2 D.str (λo=>.int (look t o)) [.v (tI C),.v (.k (lZ cr)),.o (.k (lZ t)),.v (.str g.1),.v (.str g.2.1),.v (.t (g.2.2.map D.str))] (λl h=>h) (by rcases O with q | q | q<;>omega) (λj o ys p e M y=>?_) ?_
  .refine⟨rfl,.int (look t o),?_,M,y⟩;have:=(xD t o).1 (by rw[N];exact S o (aR e));show some (pZ (lZ t) (Sum.inr o))=_;rw[this]
  .have fin:∀ m:Int,m=mx (g.2.2.map λo=>1+look t o)->∃ Y,C9 (.k (lZ t)) (.str g.1) (.int m)=some Y/\∃ F G L:Sl,[.v (tI C),.v (.k (lZ cr)),.o Y,.v (.str g.1),.v (.str g.2.1),.v (.t (g.2.2.map D.str))]=[.v (tI C),.v (.k (lZ cr)),.o (.k (lZ (tbl C.ins (C.gates.take (i+1)) (look cr)))),F,G,L]:=λm Q=>by
    refine⟨.k (lZ (t++[(g.1,m)])),?_,_,_,_,by rw[step,Q]⟩;have:(lZ t).length<100000:=by
     have:=eA List.length N;simp only[aB,bB,bT] at this;have M:=c.li;have y:=c.lg;simp[lZ];omega
    simp only[C9,bE this];show some (D.k (qZ (lZ t) (Sum.inr g.1) (.int m)))=_;rw[Kd b]
   refine⟨_,Pr t g.2.2,λe=>?_,λm Q hh=>?_⟩
   .refine⟨rfl,fin _ ?_⟩;rw[List.map_eq_nil_iff.mp e];rfl
   .refine⟨rfl,fin _ ?_⟩;obtain⟨o,ho,rfl⟩:=aD.mp Q;have:=z o;refine wS (.inr (aD.mpr ⟨o,ho,rfl⟩)) (by omega) λa ha=>?_
    obtain⟨o',R,rfl⟩:=aD.mp ha;have:=hh _ (aD.mpr ⟨o',R,rfl⟩);omega
 .rintro X ⟨F,G,L,rfl⟩;rw[aB,aQ (aJ _)];exact V
end
theorem Xm (al:Aa (Af×Af)):vI (al.map λp=>D.str p.2)=some (al.map λp=>(Sum.inr p.2:hI)):=by
 have:=A2 (al.map (·.2))
 simpa [cX] using this
theorem Pg (e:Int):∀ cr:oD,((cr.map λp=>(Sum.inr p.1:hI))).zip ((cr.map λp=>D.int p.2)++[.int e])=lZ cr
 | []=>rfl
 | p::cr=>by
  rw[aY,aY,cL,cY,Pg e cr];rfl
theorem BJ {al:Aa (Af×Af)}(e:Int) (h:cr.map (·.1)=al.map (·.2)):(al.map λp=>(Sum.inr p.2:hI)).zip ((cr.map λp=>D.int p.2)++[.int e])=lZ cr:=by
 rw[<- Pg e cr]
 congr 1
 have:=eA (List.map (Sum.inr:Af->hI)) h
 simpa [cX] using this.symm
theorem Jl:mF (g++[a]) (-1)=some a:=by
 have e:sB (g++[a]).length (-1)=some g.length:=by
  unfold sB;rw[bG (by decide),bB,eJ,bE (by omega)]
  congr 1;omega
 unfold mF;rw[e];simp
theorem zZ (f:Nat->g) (i:Nat):mF ((List.range (i+1)).map f) (-1)=some (f i):=by
 rw[hX,aO];exact Jl
theorem Lv:(["output","name","lates"]:Aa Af).Nodup:=by decide +kernel
theorem Yy:(["name","lates"]:Aa Af).Nodup:=by decide +kernel
theorem Wz:(["state"]:Aa Af).Nodup:=by decide +kernel
section
variable {P:Ah}{K:kY}
theorem Cq:FnScope ["row","state","carried","lates","onward"] ["row","state"] (lU xS):=oJ
theorem U3 (T:Txt r) (g:Kn P w K r base 1 "carried_inputs" Fb ["row"] O6) (j:Kn P w K r base 1 "told_lates" Dp ["cell","carried"] Og)
: oI P w K r base 2 "one_cell_more" xS ["row","state"] Hb:=by
 refine oU Cq λf R A L s H E I J Y O d S=>?_
 obtain⟨C,al,cr,e,rfl,c,N,M,b⟩:=S;have W:=c.la;refine⟨_,(hH (lG 2 Cq.nd (CF rfl (by rfl) T.dict (by rfl) T.zip (dK (lV g O (dK (eH 0) dT)) (dK (eH 1) dT)))) (hH (lG 3 Cq.nd (lV j O (dK (lA d 0 gV) (dK (eH 2) dT)))) (hH (Jc 4 ["output","name"] ["lates"] [3] Cq.nd (nG (lA d 0 gV)) (λ_ _ _ _ _=>(rM (n:=2) rfl (mU (lQ 0 Lv) (mU (lQ 1 Lv) rE)))) (λ_ _ _ _ _=>(lA d 2 (eH 0)))) (lY (nO (mZ mO mL 4 (nX (dK (Qc rfl (by rfl) T.max (nV ["name"] ["lates"] [3] (nG (vD d (lA d 0 gV) gV)) (λ_ _ _ _ _=>(lQ 0 Yy)) (λ_ _ _ _ _=>(lA d 1 (eH 0)))) gV) dT)))))))),?_⟩;refine⟨C,al,rfl,by omega,.inl rfl,_,Xm al,by rw[aB];omega,?_⟩;rw[BJ e N,Nk (by rw[N];exact c.n2)];refine⟨rfl,_,rfl,C,cr,rfl,c.good,M,.inl rfl,?_⟩;have a:=F4 C.ins C.gates (look cr);have u:=Ea (ins:=C.ins) (gs:=C.gates) M;generalize tbl C.ins C.gates (look cr)=t at a u b |-;have G:∀ o∈C.outs,o∈t.map (·.1):=λo y=>by rw[a];exact aP _ (c.og o y)
 have q:∀ o∈C.outs,yB (.k (lZ t)) (.str o)=some (some (.int (look t o))):=λo y=>by
  show some (pZ (lZ t) (Sum.inr o))=_;rw[(xD t o).1 (G o y)]
 dsimp only;unfold Dd qR Df yV Gh Lr aC;dsimp only;refine nT al mV (λp=>.int (look t p.1)) [.v (lX C al),.v (qD cr e),.v (.k (lZ cr)),.v (.k (lZ t)),.n] (λZ h=>⟨rfl,_,rfl,h⟩) (by omega) (λi p X Q e B F=>⟨rfl,rfl,rfl,_,q p.1 (c.mem p (aR e)).1,B,F⟩) ?_;refine⟨rfl,?_⟩;refine nT C.outs D.str (λo=>.int (look t o)) [.v (lX C al),.v (qD cr e),.v (.k (lZ cr)),.v (.k (lZ t)),.o (.l (al.map λ(p:Af×Af)=>.int (look t p.1)))] (λZ h=>⟨rfl,_,rfl,_,rfl,h⟩) (by have:=c.good.lo;omega) (λi o X Q e B F=>⟨rfl,_,q o (aR e),B,F⟩) ?_;have fin:∀ m:Int,m=mx (C.outs.map (look t))->[D.int m].length<=1000/\(al.map λp=>D.int (look t p.1)).length+[D.int m].length<=100000/\Y (.o (.l ((al.map λp=>D.int (look t p.1))++[D.int m]))):=λm x=>by
  refine⟨by show 1<=1000;decide,by rw[aB];show al.length+1<=100000;omega,?_⟩;rw[<- x] at b;unfold qD rD at b;rw[bC] at b;exact b
 refine⟨_,Pr t C.outs,λz=>fin 0 (by rw[List.map_eq_nil_iff.mp z];rfl),λm x V=>fin m ?_⟩;have:0<=m:=by
  obtain⟨o,y,rfl⟩:=aD.mp x;exact u o
 exact wS (.inr x) this V
theorem J3:FnScope ["row","width","states","place"] ["row","width"] (lU As):=oJ
theorem BC (T:Txt p) (j:Kn P w K p base 1 "at_edges" zW ["row"] G1) (g:Kn P w K p base 2 "one_cell_more" xS ["row","state"] Hb)
: oI P w K p base 3 "lates_to" As ["row","width"] Jm:=by
 refine oU J3 λf u A d s H E R S X m q F=>?_
 obtain⟨C,al,w,rfl,k,hw,c⟩:=F;have G:=k.la;refine⟨_,(hH (lG 2 J3.nd (nX (dK (lV j m (dK (eH 0) dT)) dT))) (hH (tS (Ax (by rfl) T.range (eH 1)) (lQ 3 J3.nd) (lY (rL (pW aZ bL bM pT rK (pv 2) (dK (lV g m (dK (eH 0) (dK (lA q 2 (vH gV)) dT))) dT))))) (lY (nO (nV ["state"] [] [] (nG (eH 2)) (λ_ _ _ _ _=>(lQ 0 Wz)) (λ_ _ _ _ _=>(lA q 0 (vH gV)))))))),?_⟩;refine⟨C,al,rfl,by omega,.inl rfl,by show 1<=1000;decide,?_⟩;dsimp only;refine lC (λb=>∃ a:Sl,b=[.v (lX C al),.v (.int w),.o (.l ((List.range (w+1)).map λi=>qD (Cr C.ins C.gates al i) (lM C al i))),a]) (λN B=>?_) ?_
 .refine vR (qI 0 w) [.v (lX C al),.v (.int w),.o (.l [.l (List.replicate (al.length+1) (D.int 0))]),.n] (λO h=>⟨by omega,by omega,h⟩)
   (λi b=>∃ a:Sl,b=[.v (lX C al),.v (.int w),.o (.l ((List.range (i+1)).map λi=>qD (Cr C.ins C.gates al i) (lM C al i))),a]) ⟨.n,?_⟩ ?_ ?_
  .have:D.l (List.replicate (al.length+1) (D.int 0))=qD (Cr C.ins C.gates al 0) (lM C al 0):=by
    unfold qD Cr lM;rw[bC,List.replicate_succ']
    congr 2
    generalize al=t;induction t with
    | nil=>rfl
    | cons x t M=>rw[bY,cB,M];rfl
   rw[this];rfl
  .rintro i x b L ⟨a,rfl⟩;obtain⟨V,rfl⟩:=A6 L;refine⟨rfl,rfl,_,zZ _ i,C,al,_,_,rfl,k,Fv i,Dh i,.inl rfl,by show ((List.range (i+1)).map _).length<100000;simp;omega,.v (.int (0+(i:Int))),?_⟩;rw[hX (n:=i+1),aO];rfl
  .rintro b ⟨a,rfl⟩;refine B _ ⟨a,?_⟩;simp[qI]
 .rintro b ⟨a,rfl⟩;unfold Df;refine nT (List.range (w+1)) (λi=>qD (Cr C.ins C.gates al i) (lM C al i)) (λi=>.int (lM C al i)) _ (λO h=>h) (by rw[cI];omega) (λi o W Q e y z=>⟨rfl,_,Jl,y,z⟩) c
theorem Xo:FnScope ["row","width"] ["row","width"] (lU Ej):=oJ
theorem DM (T:Txt j) (g:Kn P w K j base 3 "lates_to" As ["row","width"] Jm)
: oI P w K j base 4 "latest" Ej ["row","width"] Qa:=by
 refine oU Xo λf c A b s H E k m n h i d=>?_
 obtain⟨C,al,w,rfl,e,hw,a⟩:=d;refine⟨_,(lY (nO (vD i (lV g h (dK (eH 0) (dK (eH 1) dT))) (vH gV)))),?_⟩;refine⟨C,al,w,rfl,e,hw,.inl rfl,.int (lM C al w),zZ _ w,a⟩
end
end Lw
namespace Lw
section
variable {L:Nat->Int}{s W r:Nat}{a b:Int}
theorem yQ (h:∀ k,s<=k->L (k+W)=L k+a):∀ (n k:Nat),s<=k->L (k+n*W)=L k+n*a
 | 0,k,_=>by simp
 | n+1,k,i=>by
  have e:=yQ h n k i;have f:=h (k+n*W) (by omega);have c:k+(n+1)*W=k+n*W+W:=by rw[gS,gU];omega
  have d:((n+1:Nat):Int)*a=n*a+a:=by rw[hZ,Int.add_mul];simp
  rw[c,f,e,d];omega
theorem Rz (g:0<W) (h:∀ k,s<=k->L (k+W)=L k+a) (j:∀ k,s<=k->k<s+W->L (k+r)-L k=b) (k:Nat) (l:s<=k):L (k+r)=L k+b:=by
 have e:=Nat.div_add_mod (k-s) W;have lt:=Nat.mod_lt (k-s) g;rw[kG] at e;have c:=yQ h ((k-s)/W) (s+(k-s)%W) (by omega);have d:=yQ h ((k-s)/W) (s+(k-s)%W+r) (by omega);have f:=j (s+(k-s)%W) (by omega) (by omega);rw[show s+(k-s)%W+(k-s)/W*W=k by omega] at c;rw[show s+(k-s)%W+r+(k-s)/W*W=k+r by omega] at d;omega
theorem DZ {K:Nat}(j:0<W) (h:∀ k,s<=k->L (k+W)=L k+a) (p:0<t) (g:∀ k,K<=k->L (k+t)=L k+e) (o:∀ k,K<=k->k<K+t->L (k+q)-L k=c) (k:Nat) (l:s<=k):L (k+q)=L k+c:=by
 have f:=yQ h K k l;have d:=yQ h K (k+q) (by omega);have big:K<=k+K*W:=by have:=Nat.le_mul_of_pos_right K j;omega
 have i:=Rz p g o (k+K*W) big;rw[show k+q+K*W=k+K*W+q by omega] at d;omega
end
section
variable {F:(Nat->Int)->Nat->Int}
structure Gst (T:Nat->List (Nat×Int)) (F:(Nat->Int)->Nat->Int):Prop where
 le:∀ x i p,p∈T i->x p.1+p.2<=F x i
 hit:∀ x i,∃ p,p∈T i/\F x i=x p.1+p.2
theorem Gst.steady (G:Gst T F){x y:Nat->Int}{t:Int}{i:Nat}(g:∀ p∈T i,0<=x p.1+p.2) (l:F x i<t) (e:F (λj=>x j+t*y j) i=F x i+t*y i) (n:Nat):F (λj=>x j+n*y j) i=F x i+n*y i:=by
 have v:0<t:=by
  obtain⟨p,a,d⟩:=G.hit x i;have:=g p a;omega
 have low:∀ p∈T i,y p.1<=y i:=λp a=>cK λz=>by
  have b:=G.le (λj=>x j+t*y j) i p a;have k:=g p a;have f:t*(y i+1)<=t*y p.1:=bU (by omega) (by omega);rw[fR,Int.mul_one] at f;have b:x p.1+t*y p.1+p.2<=F (λj=>x j+t*y j) i:=b;omega
 obtain⟨p,a,d⟩:=G.hit (λj=>x j+t*y j) i;have d:F (λj=>x j+t*y j) i=x p.1+t*y p.1+p.2:=d;have s:=low p a;have u:=G.le x i p a;have eq:y p.1=y i:=cK λz=>by
  have f:t*(y p.1+1)<=t*y i:=bU (by omega) (by omega);rw[fR,Int.mul_one] at f;omega
 have m:x p.1+p.2=F x i:=by rw[eq] at d;omega
 refine Int.le_antisymm ?_ ?_
 .obtain⟨q,h,c⟩:=G.hit (λj=>x j+n*y j) i;have b:=G.le x i q h;have k:(n:Int)*y q.1<=n*y i:=bU (low q h) (by omega);have c:F (λj=>x j+n*y j) i=x q.1+n*y q.1+q.2:=c;omega
 .have b:=G.le (λj=>x j+n*y j) i p a;have b:x p.1+n*y p.1+p.2<=F (λj=>x j+n*y j) i:=b;rw[eq] at b;omega
end
theorem FH {X:Nat->Nat->Int}{F:(Nat->Int)->Nat->Int}{y:Nat->Int}{s W:Nat}(st:∀ k,X (k+1)=F (X k)) (g:∀ i,X (s+W) i=X s i+y i)
  (h:∀ k,s<=k->k<s+W->∀ n:Nat,F (λj=>X k j+n*y j)=λi=>F (X k) i+n*y i):∀ k,s<=k->∀ i,X (k+W) i=X k i+y i:=by
 have go:∀ (j:Nat),j<=W->∀ n z:Nat,(X z=λi=>X s i+n*y i)->X (z+j)=λi=>X (s+j) i+n*y i:=by
  intro j;induction j with
  | zero=>exact λ_ n z e=>e
  | succ j b =>
   intro m n z e;have a:=b (by omega) n z e;rw[<- iA,st,a,h (s+j) (by omega) (by omega) n,<- iA,st]
 have c:∀ n:Nat,∀ i,((n+1:Nat):Int)*y i=n*y i+y i:=λn i=>by rw[hZ,Int.add_mul];simp
 have all:∀ n:Nat,X (s+n*W)=λi=>X s i+n*y i:=by
  intro n;induction n with
  | zero=>funext i;simp
  | succ n b =>
   have:=go W (aJ _) n _ b;rw[show s+(n+1)*W=s+n*W+W by rw[gS,gU];omega,this]
   funext i
   rw[g,c];omega
 intro k q i;by_cases f:W=0
 .subst f;have:=g i;rw[hU] at this;rw[hU];omega
 .have lt:=Nat.mod_lt (k-s) (show 0<W by omega);have e:=Nat.div_add_mod (k-s) W;rw[kG] at e;have a:=go ((k-s)%W) (by omega) ((k-s)/W) _ (all _);have d:=go ((k-s)%W) (by omega) ((k-s)/W+1) _ (all _);rw[show s+(k-s)/W*W+(k-s)%W=k by omega] at a;rw[show s+((k-s)/W+1)*W+(k-s)%W=k+W by rw[gS,gU];omega] at d;rw[a,d];show X (s+(k-s)%W) i+(((k-s)/W+1:Nat):Int)*y i=X (s+(k-s)%W) i+(((k-s)/W:Nat):Int)*y i+y i;rw[c];omega
theorem BZ {X:Nat->Nat->Int}{F:(Nat->Int)->Nat->Int}{y:Nat->Int}{s W:Nat}(st:∀ k,X (k+1)=F (X k)) (h:∀ k,s<=k->∀ i,X (k+W) i=X k i+y i) (k:Nat) (l:s<=k) (n:Nat):F (λj=>X k j+n*y j)=λi=>F (X k) i+n*y i:=by
 have g:∀ i k,s<=k->X (k+n*W) i=X k i+n*y i:=λi k l=>yQ (L:=λk=>X k i) (λk l=>h k l i) n k l
 have e:(λj=>X k j+n*y j)=X (k+n*W):=funext λi=>(g i k l).symm
 rw[e,<- st,<- st]
 funext i
 rw[show k+n*W+1=k+1+n*W by omega];exact g i (k+1) (by omega)
structure Sys (T:Nat->List (Nat×Int)) (A:Int) (M c:Nat):Prop where
 pos:∀ i j a,(j,a)∈T i->0<=a/\a<=A
 a0:0<=A
 c1:1<=c
 pig:∀ u:Nat->Nat,(∀ t,t<M->∃ a,(u (t+1),a)∈T (u t))->∃ a b,a<b/\b<=M/\u a=u b/\(b-a) ∣ c
def lL (T:Nat->Aa (Nat×Int)) (Q:Nat->Prop) (i j k:Nat) (w:Int):Prop:=∃ (u:Nat->Nat) (s:Nat->Int),u 0=i/\s 0=0/\u k=j/\s k=w/\(∀ t,t<k->(u (t+1),s (t+1)-s t)∈T (u t))/\∀ t,t<=k->Q (u t)
section
theorem lL.app (o:lL T Q i j k w) (g:lL T Q j m l v):lL T Q i m (k+l) (w+v):=by
 obtain⟨u,s,x,y,b,c,z,A⟩:=o;obtain⟨E,a,d,e,f,n,q,B⟩:=g;refine⟨λt=>if t<=k then u t else E (t-k),λt=>if t<=k then s t else w+a (t-k),?_,?_,?_,?_,λt D=>?_,λt D=>?_⟩
 .simp[x]
 .simp[y]
 .by_cases h:l=0
  .subst h;simp[b,<- f,d]
  .simp[show ¬ (k+l<=k) by omega,f]
 .by_cases h:l=0
  .subst h;have:v=0:=by rw[<- n,e]
   simp[c,this]
  .simp[show ¬ (k+l<=k) by omega,n]
 .by_cases h:t<k
  .have:=z t h;simp only[show t<=k by omega,show t+1<=k by omega,eU];exact this
  .by_cases g:t=k
   .subst g;have:=q 0 (by omega);simp only[aJ,eU,show ¬ (t+1<=t) by omega,eS,show t+1-t=1 by omega];rw[b,c];rw[d,e] at this
    simpa [show w+a 1-w=a 1-0 by omega] using this
   .have:=q (t-k) (by omega);simp only[show ¬ (t<=k) by omega,show ¬ (t+1<=k) by omega,eS];rw[show t+1-k=t-k+1 by omega,show w+a (t-k+1)-(w+a (t-k))=a (t-k+1)-a (t-k) by omega];exact this
 .by_cases h:t<=k
  .simp only[h,eU];exact A t h
  .simp only[h,eS];exact B (t-k) (by omega)
theorem lL.part {u:Nat->Nat}{s:Nat->Int}{k:Nat}(g:∀ t,t<k->(u (t+1),s (t+1)-s t)∈T (u t)) (j:∀ t,t<=k->Q (u t)){a b:Nat}(l:a<=b) (o:b<=k):lL T Q (u a) (u b) (b-a) (s b-s a):=by
 refine⟨λt=>u (a+t),λt=>s (a+t)-s a,rfl,by simp,by show u (a+(b-a))=_;rw[show a+(b-a)=b by omega],by show s (a+(b-a))-s a=_;rw[show a+(b-a)=b by omega],λt c=>?_,λt c=>j _ (by omega)⟩;have:=g (a+t) (by omega);show (u (a+(t+1)),s (a+(t+1))-s a-(s (a+t)-s a))∈T (u (a+t));rw[show a+(t+1)=a+t+1 by omega,show s (a+t+1)-s a-(s (a+t)-s a)=s (a+t+1)-s (a+t) by omega];exact this
theorem lL.weak (h:lL T Q i j k w) (l:∀ v,Q v->g v):lL T g i j k w:=by
 obtain⟨u,s,a,b,c,d,e,f⟩:=h;exact⟨u,s,a,b,c,d,e,λt m=>l _ (f t m)⟩
theorem lL.bound (S:Sys T A M c) (h:lL T Q i j k w):0<=w/\w<=A*k:=by
 obtain⟨u,s,m,a,n,b,d,q⟩:=h;have:∀ t,t<=k->0<=s t/\s t<=A*t:=by
  intro t;induction t with
  | zero=>intro _;rw[a];simp
  | succ t f =>
   intro y;have v:=f (by omega);have x:=S.pos _ _ _ (d t (by omega));have e:A*((t+1:Nat):Int)=A*t+A:=by rw[hZ,fR];simp
   rw[e];omega
 rw[<- b];exact this k (aJ _)
theorem lL.cut (S:Sys T A M c) (g:-1<=ρ) (o:∀ v l w m x,1<=l->l<=M->l ∣ c->lL T Q v v l w->lL T Q i v m x->c*w<=ρ*l) :
  ∀ k j w,lL T Q i j k w->c*w<=ρ*k+(c*(A*M)+M):=by
 intro k;induction k using Nat.strongRecOn with
 | ind k L =>
  intro j w h;have R:=h.bound S;by_cases V:k<M
  .have F:A*(k:Int)<=A*M:=bU (by omega) S.a0;have G:(c:Int)*w<=c*(A*M):=bU (by omega) (by omega);have P:-1*(k:Int)<=ρ*k:=cH g (by omega);omega
  .obtain⟨u,s,z,B,D,E,d,f⟩:=h;obtain⟨a,b,H,K,e,hd⟩:=S.pig u λt W=>⟨_,d t (by omega)⟩
   have y:=lL.part (Q:=Q) d f (a:=a) (b:=b) (by omega) (by omega);have q:=lL.part (Q:=Q) d f (a:=0) (b:=a) (by omega) (by omega);have n:=lL.part (Q:=Q) d f (a:=b) (b:=k) (by omega) (by omega);rw[<- e] at y n;rw[z,B,jJ] at q;rw[D,E] at n;have F:=o (u a) (b-a) _ a _ (by omega) (by omega) hd y q;have G:=L (a+(k-b)) (by omega) j _ (q.app n);have N:(c:Int)*w=c*(s b-s a)+c*(s a-0+(w-s b)):=by rw[<- fR];congr 1;omega
   have O:ρ*(k:Int)=ρ*((b-a:Nat):Int)+ρ*((a+(k-b):Nat):Int):=by rw[<- fR];congr 1;omega
   omega
end
structure Run (T:Nat->List (Nat×Int)) (x:Nat->Nat->Int):Prop where
 z:∀ i,x 0 i=0
 ub:∀ k i j a,(j,a)∈T i->x k j+a<=x (k+1) i
 at':∀ k i,∃ j a,(j,a)∈T i/\x (k+1) i=x k j+a
section
def Tt:Nat->Prop:=λ_=>True
theorem Run.up (R:Run T x) (h:lL T Q i j l w) (k:Nat):x k j+w<=x (k+l) i:=by
 obtain⟨u,s,b,c,d,e,f,_⟩:=h;have:∀ t,t<=l->x k j+(s l-s (l-t))<=x (k+t) (u (l-t)):=by
  intro t;induction t with
  | zero=>intro _;rw[jJ,d,hU];omega
  | succ t m =>
   intro v;have n:=m (by omega);have a:=f (l-(t+1)) (by omega);rw[show l-(t+1)+1=l-t by omega] at a;have q:=R.ub (k+t) _ _ _ a;rw[<- iA];omega
 have:=this l (aJ _);rw[kH,b,c,e] at this;omega
theorem Run.best (R:Run T x):∀ k i,∃ (u:Nat->Nat) (s:Nat->Int),u 0=i/\s 0=0/\(∀ t,t<k->(u (t+1),s (t+1)-s t)∈T (u t))/\∀ t,t<=k->x k i=x (k-t) (u t)+s t
 | 0,i=>⟨λ_=>i,λ_=>0,rfl,rfl,λt b=>by omega,λt b=>by
  have:t=0:=by omega
  subst this;simp⟩
 | k+1,i=>by
  obtain⟨j,a,m,e⟩:=R.at' k i;obtain⟨u,s,c,d,f,h⟩:=R.best k j;refine⟨λt=>match t with | 0=>i | t+1=>u t,λt=>match t with | 0=>0 | t+1=>a+s t,rfl,rfl,λt b=>?_,λt b=>?_⟩
  .cases t with
   | zero=>show (u 0,a+s 0-0)∈T i;rw[c,d];simpa using m
   | succ t =>
    have:=f t (by omega);show (u (t+1),a+s (t+1)-(a+s t))∈T (u t);rw[show a+s (t+1)-(a+s t)=s (t+1)-s t by omega];exact this
  .cases t with
   | zero=>show x (k+1) i=x (k+1-0) i+0;simp
   | succ t =>
    have:=h t (by omega);show x (k+1) i=x (k+1-(t+1)) (u t)+(a+s t);rw[show k+1-(t+1)=k-t by omega,e,this];omega
theorem Run.way (R:Run T x) (k i:Nat):∃ j,lL T Tt i j k (x k i):=by
 obtain⟨u,s,a,b,c,d⟩:=R.best k i;refine⟨u k,u,s,a,b,rfl,?_,c,λ_ _=>True.intro⟩;have:=d k (aJ _);rw[kH,R.z] at this;omega
theorem Run.mono (S:Sys T A M c) (R:Run T x):∀ k i,x k i<=x (k+1) i
 | 0,i=>by
  obtain⟨j,a,b,e⟩:=R.at' 0 i;have:=(S.pos _ _ _ b).1;rw[e,R.z,R.z];omega
 | k+1,i=>by
  obtain⟨j,a,b,e⟩:=R.at' k i;have d:=R.mono S k j;have f:=R.ub (k+1) _ _ _ b;omega
theorem Run.monoN (S:Sys T A M c) (R:Run T x) (i:Nat) (h:k<=l):x k i<=x l i:=by
 obtain⟨m,rfl⟩:=Nat.le.dest h;induction m with
 | zero=>exact gB _
 | succ m a=>exact Int.le_trans (a (by omega)) (R.mono S (k+m) i)
theorem lL.times (g:Q v) (h:lL T Q v v l w):∀ n:Nat,lL T Q v v (n*l) (n*w)
 | 0=>⟨λ_=>v,λ_=>0,rfl,rfl,rfl,by simp,λt a=>by omega,λ_ _=>g⟩
 | n+1=>by
  have:=(lL.times g h n).app h;rw[show (n+1)*l=n*l+l by rw[gS,gU],show ((n+1:Nat):Int)*w=n*w+w by rw[hZ,Int.add_mul];simp];exact this
theorem P1 {P:Int->Prop}(B:Int) (g:∀ r,P r->r<=B):∀ (n:Nat) (r:Int),P r->(B-r).toNat<=n->∃ m,P m/\∀ r,P r->r<=m
 | n,r,b,c=>by
  by_cases h:∀ q,P q->q<=r
  .exact⟨r,b,h⟩
  .have:∃ q,P q/\r<q:=cK λz=>h λq a=>Int.not_lt.mp λy=>z ⟨q,a,y⟩
   obtain⟨q,a,lt⟩:=this;have:=g q a
   match n with
   | 0=>omega
   | n+1=>exact P1 B g n q a (by omega)
def Hm (T:Nat->Aa (Nat×Int)) (M c v l:Nat) (w r:Int):Prop:=1<=l/\l<=M/\l ∣ c/\lL T Tt v v l w/\r=w*((c/l:Nat):Int)
theorem Fs (h:l ∣ c):w*((c/l:Nat):Int)*l=c*w:=by
 rw[Int.mul_assoc,<- iW,kM h,jK]
theorem Jn:∀ (n:Nat) (f:Nat->Nat),(∀ q,q<=n->f q<n)->∃ a b,a<b/\b<=n/\f a=f b
 | 0,f,h=>absurd (h 0 (aJ _)) (by omega)
 | n+1,f,h=>by
  by_cases e:∃ a,a<=n/\f a=f (n+1)
  .obtain⟨a,m,e⟩:=e;exact⟨a,n+1,by omega,aJ _,e⟩
  .have ne:∀ a,a<=n->f a≠f (n+1):=λa m z=>e ⟨a,m,z⟩
   have x:=h (n+1) (aJ _);obtain⟨a,b,k,w,c⟩:=Jn n (λq=>if f q=n then f (n+1) else f q) λq s=>by
    have u:=h q (by omega);have v:=ne q s;by_cases z:f q=n
    .simp only[z,eU];omega
    .simp only[z,eS];omega
   refine⟨a,b,k,by omega,?_⟩;have t:=ne a (by omega);have nb:=ne b (by omega);by_cases d:f a=n<;>by_cases i:f b=n
   .rw[d,i]
   .simp only[d,i,eU,eS] at c;exact absurd c.symm nb
   .simp only[d,i,eU,eS] at c;exact absurd c t
   .simp only[d,i,eS] at c;exact c
theorem lL.short (S:Sys T A M c):∀ (m:Nat) (y:Int),lL T Tt i v m y->∃ g j,g<=M/\lL T Tt i v g j:=by
 intro m;induction m using Nat.strongRecOn with
 | ind m D =>
  intro y h;by_cases B:m<=M
  .exact⟨m,y,B,h⟩
  .obtain⟨u,s,q,E,w,F,d,f⟩:=h;obtain⟨a,b,x,z,e,hd⟩:=S.pig u λt G=>⟨_,d t (by omega)⟩
   have n:=lL.part (Q:=Tt) d f (a:=0) (b:=a) (by omega) (by omega);have k:=lL.part (Q:=Tt) d f (a:=b) (b:=m) (by omega) (by omega);rw[<- e,w] at k;rw[q] at n;exact D _ (by omega) _ (n.app k)
theorem lL.out (S:Sys T A M c) (hc:∀ v l w m y,1<=l->l<=M->l ∣ c->lL T Tt v v l w->lL T Tt i v m y->c*w<=d*l) (h:lL T Tt i j k w) (hk:c*M<=k) :
  ∃ (o k':Nat) (g:Int),1<=o/\k'+c*o=k/\lL T Tt i j k' g/\w<=g+d*o:=by
 obtain⟨u,s,a1,a2,a3,a4,D,F⟩:=h;have le:∀ q,q<=c->q*M<=k:=λq E=>bV (Nat.mul_le_mul_right M E) hk
 have B:∀ q,∃ a b:Nat,q<c->a<b/\b<=M/\u (q*M+a)=u (q*M+b)/\(b-a) ∣ c:=λq=>by
  by_cases E:q<c
  .obtain⟨a,b,K,X,U,h4⟩:=S.pig (λt=>u (q*M+t)) λt ht=>by
    have:=le (q+1) (by omega);rw[gS,gU] at this;exact⟨_,D (q*M+t) (by omega)⟩
   exact⟨a,b,λ_=>⟨K,X,U,h4⟩⟩
  .exact⟨0,0,λz=>absurd z E⟩
 let x:Nat->Nat:=λq=>Classical.choose (B q)
 let n:Nat->Nat:=λq=>Classical.choose (fW (B q))
 have hw:∀ q,q<c->x q<n q/\n q<=M/\u (q*M+x q)=u (q*M+n q)/\(n q-x q) ∣ c:=λq E=>fW (fW (B q)) E
 let P:Nat->Nat:=λq=>Nat.rec 0 (λp r=>r+(n p-x p)) q
 have O:∀ q,P (q+1)=P q+(n q-x q):=λ_=>rfl
 have G:0<c:=by have:=S.c1;omega
 obtain⟨e,f,E,L,eq⟩:=Jn c (λq=>P q%c) λq _=>Nat.mod_lt _ G
 have mono:∀ p,P e<=P (e+p):=λp=>by
  induction p with
  | zero=>exact aJ _
  | succ p Z=>exact bV Z (by rw[<- iA,O];omega)
 have lt:P e<P f:=by
  have K:=mono (f-1-e);rw[show e+(f-1-e)=f-1 by omega] at K;have X:=O (f-1);rw[show f-1+1=f by omega] at X;have U:=(hw (f-1) (by omega)).1;omega
 have go:∀ p,e+p<=f->∃ (l:Nat) (g:Int),l+(P (e+p)-P e)=(e+p)*M/\lL T Tt i (u ((e+p)*M)) l g/\c*s ((e+p)*M)<=c*g+d*((P (e+p)-P e:Nat):Int):=by
  intro p;induction p with
  | zero =>
   intro _;have J:=lL.part (Q:=Tt) D F (a:=0) (b:=e*M) (by omega) (le e (by omega));rw[a1,a2,jJ] at J;refine⟨e*M,_,by rw[hU];omega,by rw[hU];exact J,?_⟩;rw[hU,kH];have:s (e*M)-0=s (e*M):=by omega
   rw[this];simp
  | succ p Z =>
   intro hp;obtain⟨l,g,W,V,H⟩:=Z (by omega);obtain⟨c1,c2,c3,c4⟩:=hw (e+p) (by omega);have Y:=le (e+p+1) (by omega);have R:(e+p+1)*M=(e+p)*M+M:=by rw[gS,gU]
   rw[R] at Y;have x1:=lL.part (Q:=Tt) D F (a:=(e+p)*M) (b:=(e+p)*M+x (e+p)) (by omega) (by omega);have x2:=lL.part (Q:=Tt) D F (a:=(e+p)*M+x (e+p)) (b:=(e+p)*M+n (e+p)) (by omega) (by omega);have x3:=lL.part (Q:=Tt) D F (a:=(e+p)*M+n (e+p)) (b:=(e+p)*M+M) (by omega) (by omega);rw[<- c3] at x2 x3;have y1:=V.app x1;have K:=hc _ _ _ _ _ (by omega) (by omega) (by rw[show (e+p)*M+n (e+p)-((e+p)*M+x (e+p))=n (e+p)-x (e+p) by omega];exact c4) x2 y1;rw[show (e+p)*M+n (e+p)-((e+p)*M+x (e+p))=n (e+p)-x (e+p) by omega] at K;have m1:=mono p;refine⟨_,_,?_,by rw[<- iA,R];exact y1.app x3,?_⟩
   .rw[<- iA,O,R];omega
   .rw[<- iA,O,R];have I:(c:Int)*s ((e+p)*M+M)=c*s ((e+p)*M)+c*(s ((e+p)*M+n (e+p))-s ((e+p)*M+x (e+p)))+c*((s ((e+p)*M+x (e+p))-s ((e+p)*M))+(s ((e+p)*M+M)-s ((e+p)*M+n (e+p)))):=by
     rw[<- fR,<- fR];congr 1;omega
    have e4:(c:Int)*(g+(s ((e+p)*M+x (e+p))-s ((e+p)*M))+(s ((e+p)*M+M)-s ((e+p)*M+n (e+p))))=c*g+c*((s ((e+p)*M+x (e+p))-s ((e+p)*M))+(s ((e+p)*M+M)-s ((e+p)*M+n (e+p)))):=by
     rw[<- fR];congr 1;omega
    have e5:d*((P (e+p)+(n (e+p)-x (e+p))-P e:Nat):Int)=d*((P (e+p)-P e:Nat):Int)+d*((n (e+p)-x (e+p):Nat):Int):=by
     rw[<- fR];congr 1;omega
    omega
 obtain⟨l,g,W,V,H⟩:=go (f-e) (by omega);rw[show e+(f-e)=f by omega] at W V H;have C:=lL.part (Q:=Tt) D F (a:=f*M) (b:=k) (le f L) (aJ _);rw[a3,a4] at C;have dv:c ∣ P f-P e:=Nat.dvd_of_mod_eq_zero (Nat.sub_mod_eq_zero_of_mod_eq eq.symm);obtain⟨o,N⟩:=dv;have lk:=le f L;rw[N] at W H;refine⟨o,l+(k-f*M),g+(w-s (f*M)),?_,by omega,V.app C,?_⟩
 .rcases o with _ | o
  .rw[Nat.mul_zero] at N;omega
  .omega
 .have I:(c:Int)*s (f*M)<=c*(g+d*o):=by
   rw[fR,Int.mul_left_comm];have:((c*o:Nat):Int)=c*o:=iW c o;rw[this] at H;exact H
  have:=Int.le_of_mul_le_mul_left I (by omega);omega
theorem Run.epB (S:Sys T A M c) (R:Run T x) (i:Nat):∃ d:Int,0<=d/\∀ k:Nat,(c:Int)*(A*M)+M+A*c*(M+c)<k->2*(c*M)<=k+c->x (k+c) i=x k i+d:=by
 let I:Int->Prop:=λr=>∃ v l w m y,Hm T M c v l w r/\lL T Tt i v m y
 have hB:∀ r,I r->0<=r/\r<=A*c:=by
  rintro r ⟨v,l,w,m,y,⟨F,G,ld,hw,rfl⟩,_⟩;have hb:=hw.bound S;have h0:(0:Int)<=((c/l:Nat):Int):=Int.natCast_nonneg _;refine⟨iI hb.1 h0,?_⟩;have:=cH hb.2 h0;have e:A*(l:Int)*((c/l:Nat):Int)=A*c:=by rw[Int.mul_assoc,<- iW,Nat.mul_div_cancel' ld]
  omega
 obtain⟨r0,ac⟩:∃ r,I r:=by
  obtain⟨u,s,N,W,D,O⟩:=R.best M i;obtain⟨a,b,ag,ab,e,hd⟩:=S.pig u λt E=>⟨_,D t E⟩
  have cy:=lL.part (Q:=Tt) D (λ_ _=>True.intro) (a:=a) (b:=b) (by omega) ab;have L:=lL.part (Q:=Tt) D (λ_ _=>True.intro) (a:=0) (b:=a) (by omega) (by omega);rw[<- e] at cy;rw[N] at L;exact⟨_,u a,b-a,_,_,_,⟨by omega,by omega,hd,cy,rfl⟩,L⟩
 obtain⟨d,⟨v,l,w,m,y,⟨F,G,ld,hw,J⟩,H⟩,K⟩:=P1 (P:=I) (A*c) (λr hr=>(hB r hr).2) _ r0 ac (aJ _);have dA:=(hB d ⟨v,l,w,m,y,⟨F,G,ld,hw,J⟩,H⟩).2;obtain⟨q,y',mM,g⟩:=lL.short S m y H;have o:0<=d:=(hB d ⟨v,l,w,m,y,⟨F,G,ld,hw,J⟩,H⟩).1;have c0:(1:Int)<=c:=by have:=S.c1;omega
 let B:Int:=c*(A*M)+M;have B0:0<=B:=by
  have:=iI (show (0:Int)<=c by omega) (iI S.a0 (show (0:Int)<=M by omega));show 0<=(c:Int)*(A*M)+M;omega
 have U:∀ k,(c:Int)*x k i<=d*k+B:=λk=>by
  obtain⟨j,hj⟩:=R.way k i;refine lL.cut (Q:=Tt) S (by omega) (λv l w m y F G ld hw H=>?_) k j _ hj;have:=K _ ⟨v,l,w,m,y,⟨F,G,ld,hw,rfl⟩,H⟩;have:=cH this (show (0:Int)<=l by omega);rw[Fs ld] at this;exact this
 have ring:∀ n:Nat,lL T Tt v v (n*c) (n*d):=λn=>by
  have h:=lL.times (n:=c/l) True.intro hw;rw[kM ld,jK,<- J] at h;exact lL.times True.intro h n
 have Lw:∀ k:Nat,d*(k-q-c)<=c*x k i:=λk=>by
  have x0:0<=x k i:=by have:=R.monoN S i (dN k);rw[R.z] at this;exact this
  by_cases C:k<q
  .have h:d*((k:Int)-q-c)<=d*0:=bU (by omega) o;have V:=iI (show (0:Int)<=c by omega) x0;omega
  .let n:=(k-q)/c;have p:n*c<=k-q:=Nat.div_mul_le_self _ _;have e2:k-q<(n+1)*c:=by
    have:=Nat.lt_div_mul_add (a:=k-q) (b:=c) (by have:=S.c1;omega);rw[gS,gU];exact this
   have y0:=(g.bound S).1;have h:=R.up (g.app (ring n)) 0;rw[R.z,Nat.zero_add] at h;have V:=R.monoN S i (show q+n*c<=k by omega);have Y:(n:Int)*d<=x k i:=by omega
   have h4:=bU Y (show (0:Int)<=c by omega);have h5:d*((k:Int)-q-c)<=d*((n*c:Nat):Int):=bU (by rw[gS,gU] at e2;omega) o;have e3:d*((n*c:Nat):Int)=c*(n*d):=by rw[iW,jK d,jK (n:Int) c,Int.mul_assoc]
   omega
 have mb:d*((q:Int)+c)<=A*c*(M+c):=by
  have h:=bU (show (q:Int)+c<=M+c by omega) o;have V:=cH dA (show (0:Int)<=(M:Int)+c by omega);omega
 have X:∀ k:Nat,B+d*(q+c)<k->∀ (u:Nat->Nat) (s:Nat->Int),u 0=i->s 0=0->(∀ t,t<k->(u (t+1),s (t+1)-s t)∈T (u t))->(∀ t,t<=k->x k i=x (k-t) (u t)+s t)->∃ t,t<=k/\lL T Tt (u t) (u t) c d:=λk C u s N W D O=>by
  let Q:Nat->Prop:=λv=>¬ ∃ l w,Hm T M c v l w d
  by_cases av:∀ t,t<=k->Q (u t)
  .exfalso;have hQ:lL T Q i (u k) k (x k i):=⟨u,s,N,W,rfl,by have:=O k (aJ _);rw[kH,R.z] at this;omega,D,av⟩;have h:=lL.cut (Q:=Q) (ρ:=d-1) S (by omega) (λv l w m y F G ld hw H=>by
    have h:=K _ ⟨v,l,w,m,y,⟨F,G,ld,hw.weak λ_ _=>True.intro,rfl⟩,H.weak λ_ _=>True.intro⟩;have hv:Q v:=by
     obtain⟨u,s,a1,_,_,_,_,a6⟩:=hw;rw[<- a1];exact a6 0 (dN _)
    have V:w*((c/l:Nat):Int)≠d:=λe=>hv ⟨l,w,F,G,ld,hw.weak λ_ _=>True.intro,e.symm⟩
    have:=cH (show w*((c/l:Nat):Int)<=d-1 by omega) (show (0:Int)<=l by omega);rw[Fs ld] at this;exact this) k _ _ hQ
   have V:=Lw k;have p:(d-1)*(k:Int)=d*k-k:=by rw[Int.sub_mul,Int.one_mul]
   have e2:d*((k:Int)-q-c)=d*k-d*(q+c):=by rw[<- Int.mul_sub];congr 1;omega
   have:(c:Int)*(A*M)+M=B:=rfl;omega
  .have:∃ t,t<=k/\∃ l w,Hm T M c (u t) l w d:=cK λz=>av λt E y=>z ⟨t,E,y⟩
   obtain⟨t,E,l',w',ai,aj,af,ae,aa⟩:=this;have h:=lL.times (n:=c/l') True.intro ae;rw[kM af,jK,<- aa] at h;exact⟨t,E,h⟩
 have Z:∀ v l w m y,1<=l->l<=M->l ∣ c->lL T Tt v v l w->lL T Tt i v m y->c*w<=d*l:=λv l w m y F G ld hw H=>by
  have:=K _ ⟨v,l,w,m,y,⟨F,G,ld,hw,rfl⟩,H⟩;have:=cH this (show (0:Int)<=l by omega);rw[Fs ld] at this;exact this
 refine⟨d,o,λk C ah=>?_⟩;have C:B+d*(q+c)<k:=by have:(c:Int)*(A*M)+M=B:=rfl;omega
 have ak:x k i+d<=x (k+c) i:=by
  obtain⟨u,s,N,W,D,O⟩:=R.best k i;obtain⟨t,E,h⟩:=X k C u s N W D O;have V:=R.up h (k-t);have L:=lL.part (Q:=Tt) D (λ_ _=>True.intro) (a:=0) (b:=t) (by omega) E;rw[N,W,jJ] at L;have Y:=R.up L (k-t+c);have h4:=O t E;rw[show k-t+c+t=k+c by omega] at Y;omega
 have an:x (k+c) i<=x k i+d:=by
  obtain⟨u,s,N,W,D,O⟩:=R.best (k+c) i;obtain⟨t,E,h⟩:=X (k+c) (by omega) u s N W D O;have L:=lL.part (Q:=Tt) D (λ_ _=>True.intro) (a:=0) (b:=t) (by omega) E;rw[N,W,jJ] at L;have p:∀ f:Nat,((f:Nat):Int)*d=d*((f+1:Nat):Int)-d:=λf=>by
   rw[hZ,fR,jK];simp
  by_cases hc:c*M<=t
  .obtain⟨f,k',w',s1,e,wy,hw⟩:=lL.out S Z L hc;obtain⟨f,rfl⟩:∃ τ,f=τ+1:=⟨f-1,by omega⟩;have V:=R.up (wy.app (lL.times True.intro h f)) (k+c-t);rw[Nat.mul_add,Nat.mul_one,kG] at e;rw[show k+c-t+(k'+f*c)=k by omega] at V;have:=O t E;have:=p f;omega
  .have bk:=lL.part (Q:=Tt) D (λ_ _=>True.intro) (a:=t) (b:=k+c) E (aJ _);obtain⟨f,k',w',s1,e,wy,hw⟩:=lL.out S (λv l w m y F G ld hw H=>Z v l w _ _ F G ld hw (L.app H)) bk (by omega);obtain⟨f,rfl⟩:∃ τ,f=τ+1:=⟨f-1,by omega⟩;have V:=R.up ((L.app (lL.times True.intro h f)).app wy) 0;rw[Nat.mul_add,Nat.mul_one,kG] at e;rw[show 0+(t+f*c+k')=k by omega,R.z] at V;have Y:=O (k+c) (aJ _);rw[kH,R.z] at Y;have:=p f;omega
 omega
end
def lP (n:Nat):Nat:=if n=4 then 12 else if n=3 then 6 else if n=2 then 2 else 1
theorem A5 (n:Nat):1<=lP n:=by unfold lP;split;omega;split;omega;split<;>omega
theorem wW (n:Nat):lP n<=12:=by unfold lP;split;omega;split;omega;split<;>omega
theorem M8 (o:n<=4) (g:1<=l) (j:l<=n):l ∣ lP n :=
 have key:∀ n,n<5->∀ l,l<5->1<=l->l<=n->l ∣ lP n:=by decide
 key n (by omega) l (by omega) g j
theorem Zi (o:n<=4) (j:1<=r) (g:r<lP n):∃ l,1<=l/\l<=n/\r%l≠0 :=
 have key:∀ n,n<5->∀ r,r<12->1<=r->r<lP n->([1,2,3,4].any λl=>decide (1<=l)&&(decide (l<=n)&&(r%l != 0)))=true:=by decide
 have lt:r<12:=aW g (wW n);let ⟨l,_,h⟩:=gQ.mp (key n (by omega) r lt j g)
 ⟨l,eI (cO.mp h).1,eI (cO.mp (cO.mp h).2).1,bne_iff_ne.mp (cO.mp (cO.mp h).2).2⟩
theorem Uo {T:Nat->Aa (Nat×Int)}{n z c:Nat}(j:∀ l,1<=l->l<=n->l ∣ c) (o:∀ i p,p∈T i->p.1<n\/p.1=z) (r:∀ p,p∈T z->p.1=z)
  (u:Nat->Nat) (h:∀ t,t<n+2->∃ w,(u (t+1),w)∈T (u t)):∃ a b,a<b/\b<=n+2/\u a=u b/\(b-a) ∣ c:=by
 by_cases e:∃ t,t<n+2/\u t=z
 .obtain⟨t,lt,d⟩:=e;obtain⟨w,hw⟩:=h t lt;rw[d] at hw;exact⟨t,t+1,by omega,by omega,by rw[d];exact (r _ hw).symm,by rw[Nat.add_sub_cancel_left];exact Nat.one_dvd _⟩
 .have lt:∀ q,q<=n->u (q+1)<n:=λq s=>by
   obtain⟨w,hw⟩:=h q (by omega);rcases o _ _ hw with g | g
   .exact g
   .exact absurd ⟨q+1,by omega,g⟩ e
  obtain⟨a,b,k,m,f⟩:=Jn n (λq=>u (q+1)) lt;exact⟨a+1,b+1,by omega,by omega,f,j _ (by omega) (by omega)⟩
theorem Run.epAll (S:Sys T A M c) (R:Run T x) :
  ∃ y:Nat->Int,(∀ i,0<=y i)/\∀ k:Nat,(c:Int)*(A*M)+M+A*c*(M+c)<k->2*(c*M)<=k+c->∀ i,x (k+c) i=x k i+y i :=
 ⟨λi=>Classical.choose (R.epB S i),λi=>(fW (R.epB S i)).1,λk a b i=>(fW (R.epB S i)).2 k a b⟩
end Lw
namespace Lw
open PySem L2
abbrev sA:=Aa (Nat×Int)
abbrev wY:=Aa (Af×sA)
def Ev (x:Nat->Int) (g:sA) (v:Int):Prop:=(∀ p∈g,x p.1+p.2<=v)/\∃ p∈g,v=x p.1+p.2
theorem Ev.uniq (h:Ev x ts u) (g:Ev x ts v):u=v:=by
 obtain⟨a,p,b,rfl⟩:=h;obtain⟨g1,q,c,rfl⟩:=g;have:=a q c;have:=g1 p b;omega
def gm (x:Nat->Int):sA->Int
 | []=>0
 | [p]=>x p.1+p.2
 | p::q::r=>if gm x (q::r)<=x p.1+p.2 then x p.1+p.2 else gm x (q::r)
theorem B8 (x:Nat->Int):∀ g:sA,g≠[]->Ev x g (gm x g)
 | [],h=>absurd rfl h
 | [p],_=>⟨λq c=>by rw[aU.mp c];exact gB _,p,aE,rfl⟩
 | p::q::r,_=>by
  obtain⟨b,z,d,e⟩:=B8 x (q::r) (by simp);unfold gm;split
  .rename_i h
   refine⟨λy a=>?_,p,aE,rfl⟩;rcases aF.mp a with rfl | a
   .exact gB _
   .exact Int.le_trans (b y a) h
  .rename_i h
   refine⟨λy a=>?_,z,aK _ d,e⟩;rcases aF.mp a with rfl | a
   .omega
   .exact b y a
def tE (z:Nat) (t:wY) (x:Af):sA:=match t.find? (λp=>decide (p.1=x)) with
 | some p=>p.2
 | none=>[(z,0)]
theorem Lj:tE z (p::t) x=if p.1=x then p.2 else tE z t x:=by
 unfold tE;rw[eO];by_cases h:p.1=x<;>simp[h]
noncomputable def Jf (g:sA):sA:=g.map λp=>(p.1,p.2+1)
def C5 (z:Nat) (t:wY) (g:Af×Af×Aa Af):wY:=t++[(g.1,(z,0)::g.2.2.flatMap λo=>Jf (tE z t o))]
def sI:Aa (Af×Af)->Af->Nat
 | [],_=>1
 | p::al,x=>if p.2=x then 0 else sI al x+1
theorem Md:∀ (al:Aa (Af×Af)) (x:Af),sI al x<al.length\/sI al x=al.length+1
 | [],_=>.inr rfl
 | p::al,x=>by
  unfold sI;split
  .exact .inl (by simp)
  .have:=Md al x;simp only[bY];omega
def Ed (z:Nat) (ins:Aa Af) (g:nI) (al:Aa (Af×Af)):wY:=g.foldl (C5 z) (ins.map λn=>(n,[(sI al n,0)]))
def rH (x:Nat->Int):wY->oD->Prop:=Paired λ(p:Af×sA) (q:Af×Int)=>p.1=q.1/\Ev x p.2 q.2
theorem Ev.zero (g:x z=0):Ev x [(z,0)] 0:=⟨λp a=>by rw[aU.mp a];simp[g],_,aE,by simp[g]⟩
theorem rH.look (g:x z=0) (h:rH x t u) (n:Af):Ev x (tE z t n) (look u n):=by
 unfold rH at h;induction h with
 | nil=>exact Ev.zero g
 | @cons p q t u h r a =>
  rw[Lj,sS,<- h.1];split
  .exact h.2
  .exact a
theorem rH.snoc (h:rH x t u) (e:Ev x g v):rH x (t++[(n,g)]) (u++[(n,v)]):=by
 unfold rH at h |-;induction h with
 | nil=>exact .cons ⟨rfl,e⟩ .nil
 | cons h r a=>exact .cons h a
theorem Qm (g:x z=0) (h:rH x t u) (c:Int) (f:sA->sA) (l:∀ r v,Ev x r v->Ev x (f r) (c+v)) (j:Aa Af):Ev x ((z,0)::j.flatMap λo=>f (tE z t o)) (mx (j.map λo=>c+look u o)):=by
 refine⟨λp a=>?_,?_⟩
 .rcases aF.mp a with rfl | a
  .have:=uW (j.map λo=>c+look u o);simp only[g];omega
  .obtain⟨o,b,a⟩:=iK.mp a;exact Int.le_trans ((l _ _ (h.look g o)).1 p a) (wO (aD.mpr ⟨o,b,rfl⟩))
 .rcases xZ (j.map λo=>c+look u o) with e | e
  .exact⟨(z,0),aE,by rw[e];simp[g]⟩
  .obtain⟨o,b,e⟩:=aD.mp e;obtain⟨p,a,d⟩:=(l _ _ (h.look g o)).2;exact⟨p,aK _ (iK.mpr ⟨o,b,a⟩),by rw[<- e,d]⟩
theorem Sr (g:sA) (v:Int) (h:Ev x g v):Ev x (Jf g) (1+v):=by
 obtain⟨a,p,b,e⟩:=h;refine⟨λq c=>?_,(p.1,p.2+1),aD.mpr ⟨p,b,rfl⟩,by simp only;omega⟩;obtain⟨r,d,rfl⟩:=aD.mp c;have:=a r d;simp only;omega
theorem rH.fold (l:x z=0):∀ (j:nI){t:wY}{u:oD},rH x t u->rH x (j.foldl (C5 z) t) (j.foldl sY u)
 | [],_,_,h=>h
 | g::j,t,u,h=>rH.fold l j (h.snoc (Qm l h 1 Jf Sr g.2.2))
def vL (g:Aa Int) (i:Nat):Int:=g.getD i 0
def oG (al:Aa (Af×Af)) (g:Aa Int):oD:=(al.map (·.2)).zip g
theorem Fd:∀ (al:Aa (Af×Af)) (g:Aa Int) (x:Af),g.length=al.length+1->look (oG al g) x=vL g (sI al x)
 | [],g,x,h=>by
  have:g[1]?=none:=eK (by simp at h;omega);simp[oG,AM,sI,vL,List.getD,this]
 | p::al,[],x,h=>by simp at h
 | p::al,a::g,x,h=>by
  have e:oG (p::al) (a::g)=(p.2,a)::oG al g:=rfl;have b:=Fd al g x (by simpa using h);rw[e,sS];unfold sI;by_cases q:p.2=x
  .rw[bE q,bE q];rfl
  .rw[bG q,bG q,b];rfl
theorem Bq (h:g.length<=i):vL g i=0:=by simp[vL,List.getD,eK h]
theorem CC (ins:Aa Af) (j:nI) (al:Aa (Af×Af)) (h:g.length=al.length+1):rH (vL g) (Ed (al.length+1) ins j al) (tbl ins j (look (oG al g))):=by
 refine rH.fold (Bq (by omega)) j ?_;induction ins with
 | nil=>exact .nil
 | cons n ins b=>exact .cons ⟨rfl,⟨λp a=>by
   rw[aU.mp a];show vL g (sI al n)+0<=look (oG al g) n;rw[Fd al g n h];omega,_,aE,by
   show look (oG al g) n=vL g (sI al n)+0;rw[Fd al g n h];omega⟩⟩ b
def tZ (ins:Aa Af) (j:nI) (g:Aa Af) (al:Aa (Af×Af)) (l:Aa Int):Aa Int :=
 (al.map λp=>look (tbl ins j (look (oG al l))) p.1)++[mx (g.map (look (tbl ins j (look (oG al l)))))]
def Tm (ins:Aa Af) (j:nI) (g:Aa Af) (al:Aa (Af×Af)) (i:Nat):sA :=
 match al[i]? with
 | some p=>tE (al.length+1) (Ed (al.length+1) ins j al) p.1
 | none=>if i=al.length then (al.length+1,0)::g.flatMap λo=>tE (al.length+1) (Ed (al.length+1) ins j al) o else [(al.length+1,0)]
def Fm (ins:Aa Af) (j:nI) (g:Aa Af) (al:Aa (Af×Af)) (x:Nat->Int) (i:Nat):Int:=gm x (Tm ins j g al i)
section
theorem Rv (j:Aa Int):(tZ ins l g al j).length=al.length+1:=by simp[tZ]
def uP (al:Aa (Af×Af)) (n:Nat) (g:sA):Prop:=g≠[]/\∀ p∈g,(p.1<al.length\/p.1=al.length+1)/\0<=p.2/\p.2<=n
theorem uP.mono (h:uP al n g) (j:n<=m):uP al m g:=⟨h.1,λp a=>by have:=h.2 p a;omega⟩
theorem Ip (h:∀ p∈t,uP al n p.2) (x:Af):uP al n (tE (al.length+1) t x):=by
 induction t with
 | nil=>exact⟨by simp[tE],λp a=>by
   have:p=(al.length+1,0):=by simpa [tE] using a
   subst this;simp⟩
 | cons q t b =>
  rw[Lj];split
  .exact h q aE
  .exact b λp a=>h p (aK _ a)
theorem Q7:∀ (j:nI){n:Nat}{t:wY},(∀ p∈t,uP al n p.2)->∀ p∈j.foldl (C5 (al.length+1)) t,uP al (n+j.length) p.2
 | [],n,t,h=>h
 | g::j,n,t,h=>by
  have:=Q7 j (n:=n+1) (t:=C5 (al.length+1) t g) λp b=>by
   rcases aV.mp b with q | q
   .exact (h p q).mono (by omega)
   .rw[aU.mp q];refine⟨by simp,λr a=>?_⟩;rcases aF.mp a with rfl | a
    .exact⟨.inr rfl,gB _,by show (0:Int)<=((n+1:Nat):Int);omega⟩
    .obtain⟨o,_,a⟩:=iK.mp a;obtain⟨s,c,rfl⟩:=aD.mp a;have:=(Ip h o).2 s c;simp only;omega
  intro p b;have:=this p b;rw[bY];exact this.mono (by omega)
theorem P9:∀ p∈Ed (al.length+1) ins g al,uP al g.length p.2:=λp a=>by
 have:=Q7 g (n:=0) (t:=ins.map λn=>(n,[(sI al n,0)])) (λq b=>by
  obtain⟨n,_,rfl⟩:=aD.mp b;refine⟨by simp,λr c=>?_⟩;rw[aU.mp c];exact⟨Md al n,by simp⟩) p a
 exact this.mono (by omega)
theorem yN (i:Nat):uP al gs.length (Tm ins gs outs al i):=by
 have b:(al.length+1<al.length\/al.length+1=al.length+1)/\(0:Int)<=0/\(0:Int)<=gs.length:=⟨.inr rfl,gB _,by omega⟩;unfold Tm;split
 .exact Ip P9 _
 .split
  .refine⟨by simp,λr a=>?_⟩;rcases aF.mp a with rfl | a
   .exact b
   .obtain⟨o,_,a⟩:=iK.mp a;exact (Ip P9 o).2 r a
  .refine⟨by simp,λr a=>?_⟩;rw[aU.mp a];exact b
theorem T7:Tm ins j g al (al.length+1)=[(al.length+1,0)]:=by
 unfold Tm;rw[eK (by omega)];simp
theorem J5:Gst (Tm ins j g al) (Fm ins j g al):=⟨λx i p a=>(B8 x _ (yN i).1).1 p a,λx i=>(B8 x _ (yN i).1).2⟩
theorem ES (g:1<=c) (C:∀ l,1<=l->l<=al.length->l ∣ c):Sys (Tm ins r o al) r.length (al.length+2) c :=
 ⟨λi j a h=>((yN i).2 _ h).2,by omega,g,λu h=>Uo (z:=al.length+1) C (λi p b=>((yN i).2 p b).1) (λp b=>by rw[T7] at b;rw[aU.mp b]) u h⟩
theorem Xq (h:j.length=al.length+1):vL (tZ ins l g al j)=Fm ins l g al (vL j):=by
 have E:=CC ins l al h;have a:vL j (al.length+1)=0:=Bq (by omega)
 funext i
 refine Ev.uniq (x:=vL j) (ts:=Tm ins l g al i) ?_ (B8 _ _ (yN i).1);unfold Tm;cases e:al[i]? with
 | some p =>
  have b:i<al.length:=(aT.mp e).1;have:vL (tZ ins l g al j) i=look (tbl ins l (look (oG al j))) p.1:=by
   simp[vL,tZ,List.getD,eY (show i<(al.map λp=>look (tbl ins l (look (oG al j))) p.1).length by simpa using b),e]
  rw[this];exact E.look a p.1
 | none =>
  have b:al.length<=i:=List.getElem?_eq_none_iff.mp e;dsimp only;split
  .rename_i q
   have:vL (tZ ins l g al j) i=mx (g.map λo=>0+look (tbl ins l (look (oG al j))) o):=by
    simp[vL,tZ,List.getD,q]
   rw[this];exact Qm a E 0 (λc=>c) (λc v h=>by rw[Int.zero_add];exact h) g
  .rw[Bq (by rw[Rv];omega)];exact Ev.zero a
end
def nx (C:Cel) (al:Aa (Af×Af)) (g:Aa Int):Aa Int:=tZ C.ins C.gates C.outs al g
def SL (C:Cel) (al:Aa (Af×Af)) (k:Nat):Aa Int:=((Cr C.ins C.gates al k).map (·.2))++[lM C al k]
section
variable {C:Cel}
theorem GF (g:Aa Int):(nx C al g).length=al.length+1:=Rv g
theorem Ix (k:Nat):(Cr C.ins C.gates al k).length=al.length:=by
 have:=eA List.length (Fv (ins:=C.ins) (gs:=C.gates) (al:=al) k)
 simpa using this
theorem pF (k:Nat):(SL C al k).length=al.length+1:=by simp[SL,Ix]
theorem Pz:∀ (t:oD) (e:Int),(t.map (·.1)).zip (t.map (·.2)++[e])=t
 | [],e=>rfl
 | p::t,e=>by
  show (p.1,p.2)::(t.map (·.1)).zip (t.map (·.2)++[e])=_;rw[Pz t e]
theorem Ta (k:Nat):oG al (SL C al k)=Cr C.ins C.gates al k:=by
 unfold oG SL;rw[<- Fv (ins:=C.ins) (gs:=C.gates) (al:=al) k];exact Pz _ _
theorem Ie (k:Nat):nx C al (SL C al k)=SL C al (k+1):=by
 unfold nx tZ;rw[Ta];simp[SL,Cr,rD,lM,Pj,Mx,Tb,cX]
theorem EG (h:a.length=b.length) (e:vL a=vL b):a=b:=by
 apply gJ h;intro i p q;have:=congrFun e i
 simpa [vL,List.getD,p,q] using this
abbrev XL (C:Cel) (al:Aa (Af×Af)) (k:Nat):Nat->Int:=vL (SL C al k)
abbrev wF (C:Cel) (al:Aa (Af×Af)):=Fm C.ins C.gates C.outs al
abbrev G5 (C:Cel) (al:Aa (Af×Af)):=Tm C.ins C.gates C.outs al
theorem Nq (h:g.length=al.length+1):vL (nx C al g)=wF C al (vL g):=Xq h
theorem yC (k:Nat):XL C al (k+1)=wF C al (XL C al k):=by
 show vL (SL C al (k+1))=_;rw[<- Ie,Nq (pF k)]
theorem Kv (i:Nat):XL C al 0 i=0:=by
 have:∀ x∈SL C al 0,x=0:=λx b=>by
  rcases aV.mp b with q | q
  .obtain⟨p,a,rfl⟩:=aD.mp q;obtain⟨r,_,rfl⟩:=aD.mp a;rfl
  .rw[aU.mp q];rfl
 show (SL C al 0).getD i 0=0;rw[dR];cases e:(SL C al 0)[i]? with
 | none=>rfl
 | some x=>exact this x (aR e)
theorem Bt (k:Nat):XL C al k al.length=lM C al k:=by
 have:(SL C al k)[al.length]?=some (lM C al k):=by
  unfold SL;rw[cS (by simp[Ix])];simp[Ix]
 simp[XL,vL,List.getD,this]
theorem Hk:Run (G5 C al) (XL C al) :=
 ⟨Kv,λk i j a h=>by rw[yC];exact J5.le (XL C al k) i (j,a) h,λk i=>by
  obtain⟨p,b,e⟩:=J5.hit (XL C al k) (i:=i);exact⟨p.1,p.2,b,by rw[yC];exact e⟩⟩
theorem Hy (h:al.length<=4):Sys (G5 C al) C.gates.length (al.length+2) (lP al.length):=ES (A5 _) λl a b=>M8 h a b
theorem Ik (h:al.length<=4) (i:Nat) (g:k<=l):XL C al k i<=XL C al l i:=Hk.monoN (Hy h) i g
theorem Hc (h:al.length<=4) (k i:Nat):0<=XL C al k i:=by
 have:=Ik (C:=C) h i (dN k)
 rwa [Kv] at this
theorem F7 (h:al.length<=4) (k:Nat):∀ x∈SL C al k,0<=x:=λx b=>by
 obtain⟨i,a,rfl⟩:=cR b;have:=Hc (C:=C) h k i
 simpa [XL,vL,List.getD,a] using this
theorem HA (h:al.length<=4) (g:C.gates.length<=24):∃ y:Nat->Int,∀ k,7000<=k->∀ i,XL C al (k+lP al.length) i=XL C al k i+y i:=by
 obtain⟨y,_,d⟩:=Hk.epAll (Hy (C:=C) h);refine⟨y,λk n i=>d k ?_ ?_ i⟩
 .have a:=wW al.length;generalize lP al.length=c at a |-;generalize C.gates.length=A at g |-;have b:al.length+2<=6:=by omega
  generalize al.length+2=M at b |-;have f:c*(A*M)<=12*(24*6):=iG a (iG g b);have m:A*c*(M+c)<=24*12*18:=iG (iG g a) (by omega);have e:(c:Int)*((A:Int)*(M:Nat))+(M:Nat)+(A:Int)*c*((M:Nat)+c)=((c*(A*M)+M+A*c*(M+c):Nat):Int):=by simp only[hZ,iW]
  have lt:c*(A*M)+M+A*c*(M+c)<k:=by omega
  have:(c:Int)*((A:Int)*(M:Nat))+(M:Nat)+(A:Int)*c*((M:Nat)+c)<k:=by rw[e];omega
  exact this
 .have a:=wW al.length;generalize lP al.length=c at a |-;have:c*(al.length+2)<=12*6:=iG a (by omega);omega
def rF (g j:Aa Int) (t:Int):Aa Int:=List.zipWith (λa b=>a+t*b) g j
def zO (a b:Aa Int):Aa Int:=List.zipWith (λfirst last=>last-first) a b
theorem Fp (f:Int->Int->Int) (g:f 0 0=0):∀ (a b:Aa Int),a.length=b.length->∀ i,vL (List.zipWith f a b) i=f (vL a i) (vL b i)
 | [],[],_,i=>by simp[vL,g]
 | x::a,y::b,h,0=>rfl
 | x::a,y::b,h,i+1=>Fp f g a b (by simpa using h) i
 | [],_::_,h,_=>by simp at h
 | _::_,[],h,_=>by simp at h
theorem Is (t:Int) (h:g.length=j.length) (i:Nat):vL (rF g j t) i=vL g i+t*vL j i:=Fp (λa b=>a+t*b) (by simp) g j h i
theorem Sj (h:a.length=b.length) (i:Nat):vL (zO a b) i=vL b i-vL a i:=Fp _ (by simp) a b h i
theorem Hd (h:g.length=j.length):(rF g j t).length=g.length:=by simp[rF,h]
theorem FR (h:a.length=b.length):(zO a b).length=a.length:=by simp[zO,h]
def nC (C:Cel) (al:Aa (Af×Af)) (s:Nat):Aa Int:=zO (SL C al s) (SL C al (s+lP al.length))
theorem Co (s:Nat):(nC C al s).length=al.length+1:=by
 unfold nC;rw[FR (by rw[pF,pF]),pF]
theorem Hl (s i:Nat):vL (nC C al s) i=XL C al (s+lP al.length) i-XL C al s i:=Sj (by rw[pF,pF]) i
theorem Yr (h:al.length<=4) (s i:Nat):0<=vL (nC C al s) i:=by
 rw[Hl];have:=Ik (C:=C) h i (eR s (lP al.length));omega
def tL (C:Cel) (al:Aa (Af×Af)) (s k:Nat) (t:Int):Prop:=nx C al (rF (SL C al k) (nC C al s) t)=rF (SL C al (k+1)) (nC C al s) t
theorem Om:tL C al s k t↔wF C al (λj=>XL C al k j+t*vL (nC C al s) j)=λi=>wF C al (XL C al k) i+t*vL (nC C al s) i:=by
 have c:(SL C al k).length=(nC C al s).length:=by rw[pF,Co]
 have d:(SL C al (k+1)).length=(nC C al s).length:=by rw[pF,Co]
 have a:vL (nx C al (rF (SL C al k) (nC C al s) t))=wF C al (λj=>XL C al k j+t*vL (nC C al s) j):=by
  rw[Nq (by rw[Hd c,pF])]
  congr 1
  exact funext (Is t c)
 have b:vL (rF (SL C al (k+1)) (nC C al s) t)=λi=>wF C al (XL C al k) i+t*vL (nC C al s) i:=by
  funext i
  rw[Is t d];show XL C al (k+1) i+_=_;rw[yC]
 unfold tL;constructor
 .intro h;rw[<- a,<- b,h]
 .intro h;exact EG (by rw[GF,Hd d,pF]) (by rw[a,b,h])
theorem BN (g:al.length<=4) (h:∀ k,s<=k->k<s+lP al.length->∃ t:Int,(∀ x∈SL C al (k+1),x<t)/\0<t/\tL C al s k t):∀ k,s<=k->∀ i,XL C al (k+lP al.length) i=XL C al k i+vL (nC C al s) i:=by
 refine FH (F:=wF C al) yC (λi=>by rw[Hl];omega) λk c d n=>?_
 obtain⟨t,f,m,a⟩:=h k c d;have a:=Om.mp a
 funext i
 refine J5.steady (T:=G5 C al) (x:=XL C al k) (y:=vL (nC C al s)) (t:=t) (i:=i) (λp e=>?_) ?_ (congrFun a i) n
 .have:=Hc (C:=C) g k p.1;have:=((yN (ins:=C.ins) (gs:=C.gates) (outs:=C.outs) (al:=al) i).2 p e).2.1;omega
 .show wF C al (XL C al k) i<t;rw[<- yC];by_cases b:i<(SL C al (k+1)).length
  .have:XL C al (k+1) i=(SL C al (k+1))[i]:=by simp[XL,vL,List.getD,b]
   rw[this];exact f _ (dX b)
  .rw[show XL C al (k+1) i=0 from Bq (by omega)];exact m
theorem DA (g:al.length<=4) (j:C.gates.length<=24) (l:7000<=s) (p:s<=k) (o:0<=t):tL C al s k t:=by
 obtain⟨y,a⟩:=HA (C:=C) g j;have e:vL (nC C al s)=y:=funext λi=>by
  rw[Hl];have:=a s l i;omega
 obtain⟨n,rfl⟩:=cU o;refine Om.mpr ?_;rw[e];exact BZ (s:=7000) yC a k (by omega) n
end
end Lw
namespace L2
open PySem PySem.Spec PyProof.Rows
section
variable {X:Cx}{K:kY}
theorem Wn {bs:Aa Int}{g:Aa Ac}(r:kZ (bs.map V.int) g){i:Nat}{v:Ac}(h:g[i]?=some v):∃ b t,bs[i]?=some b/\v = .int b t:=by
 have d:=r.length;rw[aB] at d;have f:i<g.length:=(aT.mp h).1;have a:bs[i]?=some (bs[i]'(by omega)):=aG (by omega);obtain⟨u,c,e⟩:=r.get (i:=i) (x:=V.int (bs[i]'(by omega))) (by rw[bK,a];rfl);rw[h] at c;cases c;obtain⟨t,rfl⟩:=e;exact⟨_,t,a,rfl⟩
theorem FT (bs:Aa Bool):((List.range bs.length).any λi=>(bs[i]?).getD true)=bs.any id:=by
 have e:(List.range bs.length).map (λi=>(bs[i]?).getD true)=bs:=by
  apply gJ (by simp);intro i p q;simp[q]
 calc ((List.range bs.length).any λi=>(bs[i]?).getD true)=((List.range bs.length).map λi=>(bs[i]?).getD true).any id:=by rw[List.any_map];rfl
  _=bs.any id:=by rw[e]
def Ps (K:kY):Aa V->Hp->VK->Prop:=λc H Q=>∃ (p:Ad) (a:Aa Int),c=[.ref p]/\eT K H p (a.map V.int)/\Q (.b (a.any (· != 0))) H
theorem Vm (g:X.calm=true):mK X (.builtin "any") (Ps X.K):=by
 intro n s S H R P Q I r h;obtain⟨p,d,rfl,D,q⟩:=h;obtain⟨u,rfl,F⟩:=oM r;cases F;obtain⟨c,w,E,_⟩:=I.list D;have f:=E.isList;have a:=w.length;rw[aB] at a;have k:p<s.heap.objs.size:=by obtain⟨_,e,_⟩:=id f;exact aL e
 refine call_any_walk (eF f ?_);refine⟨s.heap.objs.size,[s.heap.objs.size,p],[s.heap.objs.size],c.toArray.size,_,_,λi=>((d.map (· != 0))[i]?).getD true,rfl,Walks.list (A:=X.A.in1) (I.ok.hd g) _ p (bF k) c.toArray,⟨⟨_,aX _ rfl,rfl,rfl⟩,f.push _⟩,λi v N L G y m=>?_,λM O z=>?_⟩
 .obtain⟨b,t,e,rfl⟩:=Wn w (by simpa using y);simp only[bK,e,Option.map_some,Option.getD_some] at m;exact truthy_int m
 .have e:((List.range c.toArray.size).any λi=>((d.map (· != 0))[i]?).getD true)=d.any (· != 0):=by
   have:=FT (d.map (· != 0));rw[aB,a] at this;rw[aN,this,List.any_map];rfl
  rw[e];exact⟨.b _,H,I.kept λb x e=>z b x (λB=>by rw[aU.mp B] at e;exact cV _ (aL e)) (aI _ e),rfl,q⟩
def GG:OC:=λc e=>match c with
 | [.l d]=>∃ a,sJ d=some a/\e (.v (.b (a.any (· != 0))))
 | _=>False
theorem T0:qF K (Ps K) GG:=by
 intro B L H e s t Q hd i c k;cases e with
 | nil=>exact False.elim c
 | cons d e =>
  cases e with
  | cons _ _=>cases d<;>exact False.elim c
  | nil =>
   cases d<;>first | exact False.elim c | skip
   obtain⟨x,rfl,n⟩:=rJ i;obtain⟨m,f,c⟩:=c;obtain⟨a,q,rfl,h,r⟩:=n.lst_inv;rw[xW f r] at h;exact⟨a,m,rfl,eT.of h,k _ _ H c (hd.pushF (.b _))⟩
def Db (P:Ah) (w:World) (a:Ad) (n:Nat):HO:=.ext λh=>∃ S,h.SetOf (intKind P w) a S n
def yE (g:Aa Int):Aa Int:=firstMet (λi=>g.getD i 0) g.length
theorem AJ (l:X.calm=true):mK X (.type "set") (λj H Q=>∃ (p:Ad) (g:Aa Int),j=[.ref p]/\eT X.K H p (g.map V.int)/\g.length<=4000/\∀ a,H a=none->Q (.ref a) (upd H a (Db X.prog X.w a (yE g).length))):=by
 intro i s N H j M Q I r h;obtain⟨p,g,rfl,A,L,q⟩:=h;obtain⟨u,rfl,D⟩:=oM r;cases D;obtain⟨f,m,B,_⟩:=I.list A;have c:=m.length;rw[aB] at c;refine call_set_list (ns:=g) (I.ok.hd l) B.isList (by simpa using Q8 m) (by rw[aN];unfold scanBound;omega) λx E d y=>?_
 rw[show f.toArray.size=g.length by rw[aN,c]] at d;have hex:∃ o,x.get? s.heap.objs.size=some o:=by obtain⟨o,_,_,_,e,_⟩:=d;exact⟨o,e⟩
 refine⟨.ref s.heap.objs.size,_,I.laid (a:=s.heap.objs.size) (o:=Db X.prog X.w s.heap.objs.size (yE g).length) (t':=E) (λb o e=>y b o (aL e) e) (aJ _) ?_,rfl,q _ I.fresh⟩;refine⟨⟨_,d⟩,hex,λF G ⟨S,z⟩ k=>⟨S,?_⟩⟩;obtain⟨o,v,n,t,e,rest⟩:=z;exact⟨o,v,n,t,k o e,rest⟩
theorem X4:mK X (.builtin "len") (λg H Q=>∃ (a:Ad) (n:Nat),g=[.ref a]/\H a=some (Db X.prog X.w a n)/\Q (.int n) H):=by
 intro b s y H g x Q I r h;obtain⟨a,n,rfl,f,q⟩:=h;obtain⟨u,rfl,k⟩:=oM r;cases k;obtain⟨⟨S,o,c,m,t,e,d,hd,_,_,v,i,rfl⟩,_⟩:=I.hok a _ f;refine call_len_set e d hd i ?_ ⟨.int c.size,H,I.tok _,⟨_,rfl⟩,q⟩;have:scanBound=4096:=rfl;omega
def wM (g:Aa Int):Prop:=g≠[]/\∀ x∈g,∀ y∈g,x=y
theorem Rt:∀ n,(∀ i,i<n->f i=c)->0<n->firstMet f n=[c]
 | 0,_,h=>absurd h (by omega)
 | 1,h,_=>by rw[firstMet_succ,firstMet_zero,h 0 (by omega)];rfl
 | n+2,h,_=>by
  rw[firstMet_succ,Rt (n+1) (λi a=>h i (by omega)) (by omega),h (n+1) (by omega)];simp[step_dedup]
theorem Wt:∀ g:Aa Int,(List.range g.length).map (λi=>g.getD i 0)=g:=λg=>by
 apply gJ (by simp);intro i p q;simp[List.getD,q]
theorem Sk (g:Aa Int):(yE g).length=1↔wM g:=by
 have key:=firstMet_any (λi=>g.getD i 0) g.length;rw[Wt] at key;constructor
 .intro h;obtain⟨z,n⟩:=List.length_eq_one_iff.mp h;have e:∀ x,x∈g↔x=z:=λx=>by
   have k:=key x;rw[show firstMet (λi=>g.getD i 0) g.length=[z] from n] at k;constructor
   .intro d;have:g.any (· == x)=true:=gQ.mpr ⟨x,d,iJ x⟩;rw[<- k] at this;obtain⟨y,a,b⟩:=gQ.mp this;rw[aU.mp a] at b;exact (eq_of_beq b).symm
   .rintro rfl;have:[x].any (· == x)=true:=gQ.mpr ⟨x,aE,iJ x⟩;rw[k] at this;obtain⟨y,a,b⟩:=gQ.mp this;rw[<- eq_of_beq b];exact a
  refine⟨λq=>?_,λx d y a=>by rw[(e x).mp d,(e y).mp a]⟩;have:=(e z).mpr rfl;rw[q] at this;exact absurd this bJ
 .rintro ⟨m,h⟩;cases g with
  | nil=>exact absurd rfl m
  | cons c r =>
   unfold yE;rw[Rt (c:=c) _ (λi f=>?_) (by simp)]
   .rfl
   .have:(c::r).getD i 0∈c::r:=by
     rw[dR,aG f];exact dX f
    exact h _ this _ aE
def Wi (i:Nat):mB:=λ_ b c=>∃ a:Aa Int,at? b i=some (.l (a.map D.int))/\a.length<=4000/\∀ m:Nat,(m=1↔wM a)->c (.v (.int m)) b
theorem Zv (h:PE X e t) (l:∀ j H Q,(∃ v,j[i]?=some (some v)/\∃ (a:Ad) (g:Aa Int),v = .ref a/\eT X.K H a (g.map V.int)/\g.length<=4000/\∀ p,H p=none->Q (.int ((yE g).length:Nat)) (upd H p (Db X.prog X.w p (yE g).length)))->t j H Q):PD X e (Wi i) :=
 h.mono λj H Q c=>c.elim λB x T z n hd d k=>by
  obtain⟨g,q,b,f⟩:=d;obtain⟨v,s,pv⟩:=hd.peek n q;obtain⟨a,y,rfl,m,u⟩:=pv;have e:sJ (g.map D.int)=some g:=yU g;rw[xW e u] at m;exact l j H Q ⟨_,s,a,g,rfl,eT.of m,b,λp np=>k _ x _ _ n ((hd.laid np).push (.int _)) (f _ (Sk g))⟩
end
end L2
namespace PySem
open PyProof.Rows L2
section
variable {s:Ae}
theorem Wr (calm:A.handled=none) (out:∀ g e,(∀ b o,s.heap.get? b=some o->g.get? b=some o)->(∃ o,g.get? e=some o/\o.cls = .type "StopIteration")->E (.ref e) { s with heap:=g }) :
  wpAny (model j w) A (do raiseNew (<- newExc (.type "StopIteration") [])) Q E s:=by
 have c:firstArgMember (.type "StopIteration") []=pure Value.none:=by first | rfl | (simp only[firstArgMember];rfl)
 have made:wpAny (model j w) A (newExc (.type "StopIteration") []) (λv d=>∃ e g,v = .ref e/\d={ s with heap:=g }/\(∀ b o,s.heap.get? b=some o->g.get? b=some o)/\∃ o,g.get? e=some o/\o.cls = .type "StopIteration") E s:=by
  unfold newExc newTuple;refine aA (fG ?_ (by size_fits));refine aA (jA c ?_);exact fG ⟨_,_,rfl,rfl,λb o z=>aI _ (aI _ z),_,aX _ rfl,rfl⟩ (by size_fits)
 refine aA (dM made (λv d a=>?_) λ_ _ z=>z);obtain⟨e,g,h,f,k,t⟩:=a;subst h f;unfold raiseNew;refine aA (wpAny_handled ?_);rw[calm];exact aA (aH (wpAny_throw (out g e k t)))
theorem Q4 (x:s.heap.IsTupleIter g t i):∃ o,s.heap.get? g=some o/\o.data = .fields #[.ref t,.int i 0]/\s.TypeIs (.ref g) "tuple_iterator" /\ o.cls = .type "tuple_iterator" := by
 obtain⟨o,a,b,c⟩:=x;exact⟨o,a,c,⟨o,a,b⟩,b⟩
theorem CM {h:Ag}{g t:Ad}{i:Nat}{o:Obj}(a:h.get? g=some o) (b:o.cls = .type "tuple_iterator") (c:o.data = .fields #[.ref t,.int i 0]):(h.update g (Obj.mapFields (·.setIfInBounds 1 (rawInt ((i:Int)+1))))).IsTupleIter g t (i+1):=by
 refine⟨_,jN _ a (Obj.isFreed_of_fields (Obj.data_mapFields c _)),?_,?_⟩
 .rw[Obj.cls_mapFields];exact b
 .rw[Obj.data_mapFields c];simp[rawInt]
end
section
theorem Up (I:s.heap.IsTupleIter j t i) (T:s.heap.IsTuple t C) (J:C[i]?=some x) (q:∀ g,g.IsTupleIter j t (i+1)->Heap.SameBut j s.heap g->Q x { s with heap:=g }) :
  wpAny (model l w) A (Builtin.SmallTypes.nextOf (.ref j)) Q E s:=by
 obtain⟨o,a,c,ty,b⟩:=Q4 I;obtain⟨p,m,v,n,u⟩:=id T;have body:wpAny (model l w) A.in1 (Builtin.«tuple_iterator.__next__» ⟨[.ref j],[]⟩) (λr d=>∃ g,r = .done (.ret x)/\d={ s with heap:=g }/\g.IsTupleIter j t (i+1)/\Heap.SameBut j s.heap g) E s:=by
  show wpAny _ _ (field (.ref j) 0 >>= _) _ _ s;refine aA (eG a c (x:=.ref t) rfl ?_);refine (show wpAny _ _ (field (.ref j) 1 >>= _) _ _ s from aA (eG a c (x:=.int i 0) rfl (aA (dP m u ?_))));simp only[cW,J];exact aA (wpAny_setField a c (by simp) (aH ⟨_,rfl,rfl,CM a b c,Heap.SameBut.update ..⟩))
 unfold Builtin.SmallTypes.nextOf;refine aA (cD (name:=Str.ofString "__next__") ty fS (eQ fS ty F.entry_tuple_iterator_next (dM body (λr d ⟨g,e,f,h,k⟩=>?_) λ_ _ z=>z) (F.args_tuple_iterator_next_1 _)));subst e f;exact⟨x,rfl,aH (q g h k)⟩
theorem Wd (calm:A.handled=none) (I:s.heap.IsTupleIter j t i) (T:s.heap.IsTuple t C) (r:C[i]?=none)
  (q:∀ g e,Heap.ExtBut j s.heap g->(∃ o,g.get? e=some o/\o.cls = .type "StopIteration")->E (.ref e) { s with heap:=g }):wpAny (model l w) A (Builtin.SmallTypes.nextOf (.ref j)) Q E s:=by
 obtain⟨o,a,c,ty,b⟩:=Q4 I;obtain⟨p,d,h,n,f⟩:=id T;have body:wpAny (model l w) A.in1 (Builtin.«tuple_iterator.__next__» ⟨[.ref j],[]⟩) (λ_ _=>False) E s:=by
  show wpAny _ _ (field (.ref j) 0 >>= _) _ _ s;refine aA (eG a c (x:=.ref t) rfl ?_);refine (show wpAny _ _ (field (.ref j) 1 >>= _) _ _ s from aA (eG a c (x:=.int i 0) rfl (aA (dP d f ?_))));simp only[cW,r];refine aA (kK (aA (wpAny_setField a c (by simp) ?_)));exact Wr calm λg e k z=>q g e (λx o nx r=>k x o ((Heap.SameBut.update ..).extBut x o nx r)) z
 unfold Builtin.SmallTypes.nextOf;exact aA (cD (name:=Str.ofString "__next__") ty fS (eQ fS ty F.entry_tuple_iterator_next (dM body (λ_ _ z=>z.elim) λ_ _ z=>z) (F.args_tuple_iterator_next_1 _)))
def Bx (z TI TO:Ad) (E:Ac->Ae->Prop):Ac->Ae->Prop:=λe a=>IsZip a.heap z TI TO .ellipsis/\∀ b,Heap.SameBut z a.heap b->E e { a with heap:=b }
theorem Pe {z TI TO:Ad}{a b p q:Ac}{Q:Ac->Ae->Prop}(J:IsZip s.heap z TI TO .none) (aa:IsPair s.heap TI a b)
  (go:∀ C,IsZip C z TI TO .ellipsis->Heap.SameBut z s.heap C->wpAny (model g w) A (Builtin.SmallTypes.nextOf a) (λx T=>IsPair T.heap TO p q/\∀ I,IsPair I TO x q->Heap.SameBut TO T.heap I ->wpAny (model g w) A (Builtin.SmallTypes.nextOf b) (λy U=>IsPair U.heap TO x q/\∀ j,IsPair j TO x y->Heap.SameBut TO U.heap j->IsZip j z TI TO .ellipsis /\ ∀ r,IsZip r z TI TO (rawInt j.objs.size)->IsPair r j.objs.size x y->r.objs.size=j.objs.size+1->(∀ c o,c≠z->j.get? c=some o->r.get? c=some o)->Q (.ref j.objs.size) { U with heap:=r }) (Bx z TI TO E) { T with heap:=I }) (Bx z TI TO E) { s with heap:=C }) :
  wpAny (model g w) A (Builtin.«zip.__next__» ⟨[.ref z],[]⟩) (λfin l=>∃ v,fin = .done (.ret v)/\Q v l) E s:=by
 have free:wpAny (model g w) A (Builtin.SmallTypes.ownedTupleIsFree (.ref z)) (λx l=>x=true/\l=s) E s:=aA (eG J rfl (x:=.none) rfl (aH ⟨rfl,rfl⟩));have back:∀ {i:Type} {m:Sem i} {R:i->Ae->Prop} {l:Ae},wpAny (model g w) A m R (Bx z TI TO E) l->wpAny (model g w) A (m.onRaise λ_=>setField (.ref z) 0 .none) R E l:=λ{i m R l} h =>
  wpAny_onRaise (dM h (λ_ _ z=>z) λe Y ⟨d,K⟩=>gY d (by simp) λr _ O=>K r O)
 unfold Builtin.«zip.__next__»;refine aA (aH (aA (eG J rfl (x:=.bool false) rfl (aA (eG J rfl (x:=.ref TI) rfl (aA (dP aa rfl ?_)))))));refine aA (hO free ?_);rintro _ l ⟨rfl,rfl⟩;simp only[eU];refine aA (kK (aA (eG J rfl (x:=.ref TO) rfl (aA (gY J (by simp) λC P d=>?_)))));simp only[List.zipIdx_cons,List.zipIdx_nil,kB,List.forIn_nil,bind_assoc];refine aA (back (aA (hO (go C P d) λx T ⟨B,g2⟩=>aH ?_)));refine aA (aA (dP B rfl (aA (wpAny_updateSeq_pair B λI N L=>aA (jY (aH ?_))))));refine aA (aA (back (aA (hO (g2 I N L) λy U ⟨D,H⟩=>aH ?_))));refine aA (aA (dP D rfl (aA (wpAny_updateSeq_pair D λj F M=>aA (jY (aH (aH ?_)))))));obtain⟨G,fin⟩:=H j F M;have f:z<j.objs.size:=aL G;refine aA (dP F rfl (aA (wpAny_newTuple ?_ (hsz:=(show 2<=sizeLine by decide)))));have S:IsZip (j.push (seqObj "tuple" #[x,y] 0)) z TI TO .ellipsis:=aI _ G;refine aA (show wpAny _ _ (setField (.ref z) 0 (rawInt j.objs.size) >>= λ_=>setField (.ref z) 1 (.bool false)) _ _ _ from aA (gY S (by simp) λX V t=>gY V (by simp) λk W u=>?_));have up:∀ c o,c≠z->(j.push (seqObj "tuple" #[x,y] 0)).get? c=some o->k.get? c=some o:=λc o n e=>u.extBut _ _ n (t.extBut _ _ n e)
 refine aH ⟨_,rfl,fin k W (up _ _ (gW f) (aX _ rfl)) (by rw[u.1,t.1,cN]) λc o n e=>up c o n (aI _ e)⟩
end
def Bh (a b:Ac):Obj:={ cls:=.type "tuple",data:=.seq #[a,b] }
def Kj (a b:Ad):Obj:={ cls:=.type "zip",data:=.fields #[.none,.bool false,.bool false,.ref a,.ref b] }
def mP (b:Bool) (h:Ag) (g t:Ad) (i:Nat):Prop:=match b with
 | true=>h.IsTupleIter g t i
 | false=>h.IsListIter g t i
def mS (b:Bool) (h:Ag) (a:Ad) (g:Array Ac):Prop:=match b with
 | true=>h.IsTuple a g
 | false=>h.IsList a g
theorem oS (x:mP b h g t i) (k:∀ o,h.get? g=some o->j.get? g=some o):mP b j g t i:=by
 cases b
 .exact let ⟨o,e,r⟩:=(show h.IsListIter g t i from x);⟨o,k o e,r⟩
 .exact let ⟨o,e,r⟩:=(show h.IsTupleIter g t i from x);⟨o,k o e,r⟩
theorem pM (x:mS b h a g) (k:∀ o,h.get? a=some o->j.get? a=some o):mS b j a g:=by
 cases b
 .exact let ⟨o,e,r⟩:=(show h.IsList a g from x);⟨o,k o e,r⟩
 .exact let ⟨o,e,r⟩:=(show h.IsTuple a g from x);⟨o,k o e,r⟩
theorem yD (x:mP b h g t i):∃ o,h.get? g=some o:=by
 cases b
 .exact let ⟨o,e,_⟩:=(show h.IsListIter g t i from x);⟨o,e⟩
 .exact let ⟨o,e,_⟩:=(show h.IsTupleIter g t i from x);⟨o,e⟩
theorem yR (x:mS b h a g):∃ o,h.get? a=some o:=by
 cases b
 .exact let ⟨o,e,_⟩:=(show h.IsList a g from x);⟨o,e⟩
 .exact let ⟨o,e,_⟩:=(show h.IsTuple a g from x);⟨o,e⟩
section
theorem yF (I:mP b s.heap j t i) (T:mS b s.heap t l) (o:l[i]?=some x) (q:∀ g,mP b g j t (i+1)->Heap.SameBut j s.heap g->Q x { s with heap:=g }) :
  wpAny (model p w) A (Builtin.SmallTypes.nextOf (.ref j)) Q E s:=by
 cases b
 .exact gZ I T o q
 .exact Up I T o q
theorem Ec (calm:A.handled=none) (I:mP b s.heap p t i) (T:mS b s.heap t j) (l:j[i]?=none)
  (q:∀ g e,Heap.ExtBut p s.heap g->(∃ o,g.get? e=some o/\o.cls = .type "StopIteration")->E (.ref e) { s with heap:=g }):wpAny (model r w) A (Builtin.SmallTypes.nextOf (.ref p)) Q E s:=by
 cases b
 .exact jQ calm I T l q
 .exact Wd calm I T l q
theorem Qu {I J:Bool}{z TI TO j l r C:Ad}{k1 k2:Nat}{xs ys:Array Ac}{x y a b:Ac}{Q:Ab Ac->Ae->Prop}(D:ZipApart z TI TO j l r C) (hz:IsZip s.heap z TI TO .none) (T:IsPair s.heap TI (.ref j) (.ref l)) (U:IsPair s.heap TO a b)
  (h1:mP I s.heap j r k1) (h2:mP J s.heap l C k2) (aa:mS I s.heap r xs) (ab:mS J s.heap C ys) (hx:xs[k1]?=some x) (hy:ys[k2]?=some y)
  (out:∀ g,IsZip g z TI TO (rawInt s.heap.objs.size)->IsPair g TO x y->mP I g j r (k1+1)->mP J g l C (k2+1)->IsPair g s.heap.objs.size x y->g.objs.size=s.heap.objs.size+1 ->(∀ c o,c≠z->c≠TO->c≠j->c≠l->s.heap.get? c=some o->g.get? c=some o)->Q (some (.ref s.heap.objs.size)) { s with heap:=g }):wpAny (model ac w) A (pyNext (.ref z)) Q E s:=by
 have ty:s.TypeIs (.ref z) "zip" := ⟨_,hz,rfl⟩;unfold pyNext;refine aA (fF (cD (name:=Str.ofString "__next__") ty dD (eQ dD ty gO (Pe (p:=a) (q:=b) hz T λg1 Y f=>?_) (gA _))));have d:∀ c o,c≠z->s.heap.get? c=some o->g1.get? c=some o:=λc o n e=>f.extBut _ _ n e
 refine yF (oS h1 λo e=>d _ o D.i1z e) (pM aa λo e=>d _ o D.l1z e) hx λg2 S h=>?_
 have i:∀ c o,c≠j->g1.get? c=some o->g2.get? c=some o:=λc o n e=>h.extBut _ _ n e
 refine⟨i _ _ D.TOi1 (d _ _ D.TOz U),λg3 W H=>?_⟩;have k:∀ c o,c≠TO->g2.get? c=some o->g3.get? c=some o:=λc o n e=>H.extBut _ _ n e
 refine yF (oS h2 λo e=>k _ o D.TOi2.symm (i _ o D.i12.symm (d _ o D.i2z e))) (pM ab λo e=>k _ o D.l2TO (i _ o D.l2i1 (d _ o D.l2z e))) hy λF V K=>?_
 have t:∀ c o,c≠l->g3.get? c=some o->F.get? c=some o:=λc o n e=>K.extBut _ _ n e
 refine⟨t _ _ D.TOi2 W,λG X L=>?_⟩;have u:∀ c o,c≠TO->F.get? c=some o->G.get? c=some o:=λc o n e=>L.extBut _ _ n e
 have sz:G.objs.size=s.heap.objs.size:=by rw[L.1,K.1,H.1,h.1,f.1]
 refine⟨u _ _ D.TOz.symm (t _ _ D.i2z.symm (k _ _ D.TOz.symm (i _ _ D.i1z.symm Y))),λg M N O m=>?_⟩;rw[sz] at M N O |-;refine aH (out g M (m _ _ D.TOz X) (oS S λo e=>m _ o D.i1z (u _ o D.TOi1.symm (t _ o D.i12 (k _ o D.TOi1.symm e)))) (oS V λo e=>m _ o D.i2z (u _ o D.TOi2.symm e)) N O λc o v B P R e=>?_);exact m c o v (u c o B (t c o R (k c o B (i c o P (d c o v e)))))
theorem P8 {b1 l:Bool}{z TI TO j I l1 l2:Ad}{k1 k2:Nat}{xs ys:Array Ac}{a b:Ac}{Q:Ab Ac->Ae->Prop}(calm:A.handled=none) (D:ZipApart z TI TO j I l1 l2) (hz:IsZip s.heap z TI TO .none) (aa:IsPair s.heap TI (.ref j) (.ref I)) (ab:IsPair s.heap TO a b)
  (h1:mP b1 s.heap j l1 k1) (h2:mP l s.heap I l2 k2) (C:mS b1 s.heap l1 xs) (ac:mS l s.heap l2 ys) (r:xs[k1]?=none\/ys[k2]?=none)
  (out:∀ U,(∀ c o,c≠z->c≠TO->c≠j->c≠I->s.heap.get? c=some o->U.get? c=some o)->Q none { s with heap:=U }):wpAny (model J w) A (pyNext (.ref z)) Q E s:=by
 have ty:s.TypeIs (.ref z) "zip" := ⟨_,hz,rfl⟩;have f:∀ (g:Ag) (e:Ad),(∀ c o,c≠z->c≠TO->c≠j->c≠I->s.heap.get? c=some o->g.get? c=some o)->(∃ o,g.get? e=some o/\o.cls = .type "StopIteration")->IsZip g z TI TO .ellipsis ->
   Bx z TI TO (λe V=>wpAny (model J w) A (do if <- isInstance e (.type "StopIteration") then pure none else throw e) Q E V) (.ref e) { s with heap:=g }:=λg e k ⟨o,H,L⟩ O=>by
  refine⟨O,λU M=>?_⟩;have ne:e≠z:=λq=>by
   rw[q,O] at H;cases H;injection L with y;exact absurd y (by decide)
  exact aA (dZ (T := "StopIteration") (b:=true) ⟨o,M.extBut _ _ ne H,L⟩ isSubtype_stop (aH (out U λc o h v i B q=>M.extBut _ _ h (k c o h v i B q))))
 unfold pyNext;refine aA (fF (cD (name:=Str.ofString "__next__") ty dD (eQ dD ty gO (Pe (p:=a) (q:=b) hz aa λg1 N F=>?_) (gA _))));have d:∀ c o,c≠z->s.heap.get? c=some o->g1.get? c=some o:=λc o n e=>F.extBut _ _ n e
 rcases iN xs[k1]? with m | ⟨x,m⟩
 .exact Ec calm (oS h1 λo e=>d _ o D.i1z e) (pM C λo e=>d _ o D.l1z e) m λg2 e l W=>f g2 e (λc o h _ i _ q=>l c o i (d c o h q)) W (l _ _ D.i1z.symm N)
 .refine yF (oS h1 λo e=>d _ o D.i1z e) (pM C λo e=>d _ o D.l1z e) m λg2 Y G=>?_
  have t:∀ c o,c≠j->g1.get? c=some o->g2.get? c=some o:=λc o n e=>G.extBut _ _ n e
  refine⟨t _ _ D.TOi1 (d _ _ D.TOz ab),λg3 Z S=>?_⟩;have u:∀ c o,c≠TO->g2.get? c=some o->g3.get? c=some o:=λc o n e=>S.extBut _ _ n e
  have P:ys[k2]?=none:=r.elim (λn=>by rw[n] at m;cases m) id;exact Ec calm (oS h2 λo e=>u _ o D.TOi2.symm (t _ o D.i12.symm (d _ o D.i2z e))) (pM ac λo e=>u _ o D.l2TO (t _ o D.l2i1 (d _ o D.l2z e))) P λR e K X=>f R e (λc o h v i B q=>K c o B (u c o v (t c o i (d c o h q)))) X (K _ _ D.i2z.symm (u _ _ D.TOz.symm (t _ _ D.i1z.symm N)))
end
section
theorem Wy {I J:Bool}{z TI TO T j l r C:Ad}{U k2:Nat}{f:Bool}{oT:Obj}{xs ys:Array Ac}{x y:Ac}{Q:Ac->Ae->Prop}(D:ZipApart z TI TO j l r C)
  (hz:tF s.heap z TI TO T f) (hT:s.heap.get? T=some oT) (aa:IsPair s.heap TI (.ref j) (.ref l))
  (h1:mP I s.heap j r U) (h2:mP J s.heap l C k2) (ab:mS I s.heap r xs) (ac:mS J s.heap C ys) (hx:xs[U]?=some x) (hy:ys[k2]?=some y)
  (hQ:∀ g,tF g z TI TO T true->mP I g j r (U+1)->mP J g l C (k2+1)->IsPair g s.heap.objs.size x y->g.objs.size=s.heap.objs.size+1 ->(∀ c o,c≠z->c≠j->c≠l->s.heap.get? c=some o->g.get? c=some o)->Q (.ref s.heap.objs.size) { s with heap:=g }) :
  wpAny (model ae w) A (Builtin.«zip.__next__» ⟨[.ref z],[]⟩) (λfin s'=>∃ v,fin = .done (.ret v)/\Q v s') E s:=by
 refine Fi hz hT aa λd K m=>?_
 have up1:∀ c o,c≠z->s.heap.get? c=some o->d.get? c=some o:=λc o n e=>m.extBut _ _ n e
 have there:mP I d j r U/\mP J d l C k2/\mS I d r xs/\mS J d C ys:=⟨oS h1 λo e=>up1 _ o D.i1z e,oS h2 λo e=>up1 _ o D.i2z e,pM ab λo e=>up1 _ o D.l1z e,pM ac λo e=>up1 _ o D.l2z e⟩;refine yF there.1 there.2.2.1 hx λk G q=>?_
 have a:∀ c o,c≠j->d.get? c=some o->k.get? c=some o:=λc o n e=>q.extBut _ _ n e
 refine yF (oS there.2.1 λo e=>a _ o D.i12.symm e) (pM there.2.2.2 λo e=>a _ o D.l2i1 e) hy λh H t=>?_
 have b:∀ c o,c≠l->k.get? c=some o->h.get? c=some o:=λc o n e=>t.extBut _ _ n e
 have i:h.objs.size=s.heap.objs.size:=t.1.trans (q.1.trans m.1);have more:∀ {c:Ad} {o p:Obj},h.get? c=some o->(h.push p).get? c=some o:=λe=>aI _ e
 refine wpAny_newTuple ⟨_,rfl,?_⟩ (hsz:=(show 2<=sizeLine by decide));have last:=hQ (h.push (seqObj "tuple" #[x,y] 0)) (more (b _ _ D.i2z.symm (a _ _ D.i1z.symm K))) (oS G λo e=>more (b _ o D.i12 e)) (oS H λo e=>more e) (i▸aX _ rfl) ((cN ..).trans (by rw[i]))
  λc o u B F e=>more (b _ _ F (a _ _ B (up1 _ _ u e)))
 rw[<- i] at last;exact last
theorem CU {TI TO:Ad}(hh:A.handled=none) (D:ZipApart z TI TO j U l l2)
  (hz:tF s.heap z TI TO T f) (hT:s.heap.get? T=some oT) (C:IsPair s.heap TI (.ref j) (.ref U))
  (h1:mP p s.heap j l k1) (h2:mP b2 s.heap U l2 k2) (I:mS p s.heap l xs) (J:mS b2 s.heap l2 ys) (g:xs[k1]?=none\/ys[k2]?=none)
  (hE:∀ r e,(∀ c o,c≠z->c≠j->c≠U->s.heap.get? c=some o->r.get? c=some o)->(∃ o,r.get? e=some o/\o.cls = .type "StopIteration")->E (.ref e) { s with heap:=r }) :
  wpAny (model aa w) A (Builtin.«zip.__next__» ⟨[.ref z],[]⟩) Q E s:=by
 refine Fi hz hT C λi M F=>?_
 have up1:∀ c o,c≠z->s.heap.get? c=some o->i.get? c=some o:=λc o n e=>F.extBut _ _ n e
 have there:mP p i j l k1/\mS p i l xs:=⟨oS h1 λo e=>up1 _ o D.i1z e,pM I λo e=>up1 _ o D.l1z e⟩;rcases iN xs[k1]? with b | ⟨x,b⟩
 .exact Ec hh there.1 there.2 b λk e t H=>hE k e (λc o d h _ q=>t c o h (up1 c o d q)) H
 .refine yF there.1 there.2 b λk L G=>?_
  have a:∀ c o,c≠z->c≠j->s.heap.get? c=some o->k.get? c=some o:=λc o n m e=>G.extBut _ _ m (up1 c o n e)
  have y:ys[k2]?=none:=g.elim (λn=>by rw[n] at b;cases b) id;exact Ec hh (oS h2 λo e=>a _ o D.i2z D.i12.symm e) (pM J λo e=>a _ o D.l2z D.l2i1 e) y λB e u K=>hE B e (λc o d h v q=>u c o v (a c o d h q)) K
theorem EE {TI TO:Ad}(D:ZipApart z TI TO r C U l2)
  (j:uG s.heap z TI TO r C) (I:mP b1 s.heap r U k) (J:mP b2 s.heap C l2 k) (l:mS b1 s.heap U xs) (p:mS b2 s.heap l2 ys) (hx:xs[k]?=some x) (hy:ys[k]?=some y)
  (hQ:∀ g,uG g z TI TO r C->mP b1 g r U (k+1)->mP b2 g C l2 (k+1)->IsPair g s.heap.objs.size x y->g.objs.size=s.heap.objs.size+1 ->(∀ c o,c≠z->c≠TO->c≠r->c≠C->s.heap.get? c=some o->g.get? c=some o)->Q (some (.ref s.heap.objs.size)) { s with heap:=g }) :
  wpAny (model aa w) A (pyNext (.ref z)) Q E s:=by
 obtain⟨d,⟨a,b,i⟩,j⟩:=j;obtain⟨V,P⟩:=yD I;obtain⟨W,R⟩:=yD J;have q:∀ {c o},s.heap.get? c=some o->s.heap.objs.size≠c:=λe=>(bF (aL e)).symm
 rcases j with j | ⟨T,f,o,j,F,G,S,H,K⟩
 .refine Qu D j d i I J l p hx hy λg t L u v n B h=>?_
  exact hQ g ⟨h _ _ D.TIz D.TITO D.TIi1 D.TIi2 d,⟨_,_,L⟩,.inr ⟨_,false,_,t,n,q j,q i,q P,q R⟩⟩ u v n B h
 .have m:s.TypeIs (.ref z) "zip" := ⟨_,j,rfl⟩;unfold pyNext;refine aA (fF (cD (name:=Str.ofString "__next__") m dD (eQ dD m gO (Wy D j F d I J l p hx hy λg t u v n B h=>aH ?_) (gA _))));exact hQ g ⟨h _ _ D.TIz D.TIi1 D.TIi2 d,⟨_,_,h _ _ D.TOz D.TOi1 D.TOi2 i⟩,.inr ⟨T,true,_,t,h _ _ G H K F,G,S,H,K⟩⟩ u v n B λc o M _ N O e=>h c o M N O e
theorem CS {TI TO:Ad}(hh:A.handled=none) (D:ZipApart z TI TO C I l1 l2)
  (j:uG s.heap z TI TO C I) (J:mP b1 s.heap C l1 k) (U:mP b2 s.heap I l2 k) (l:mS b1 s.heap l1 xs) (p:mS b2 s.heap l2 ys) (g:xs[k]?=none\/ys[k]?=none)
  (hQ:∀ r,(∀ c o,c≠z->c≠TO->c≠C->c≠I->s.heap.get? c=some o->r.get? c=some o)->Q none { s with heap:=r }):wpAny (model aa w) A (pyNext (.ref z)) Q E s:=by
 obtain⟨d,⟨a,b,i⟩,j⟩:=j;rcases j with j | ⟨T,f,o,j,t,B,F,G,H⟩
 .exact P8 hh D j d i J U l p g hQ
 .have h:s.TypeIs (.ref z) "zip" := ⟨_,j,rfl⟩;unfold pyNext;refine aA (fF (cD (name:=Str.ofString "__next__") h dD (eQ dD h gO (CU hh D j t d J U l p g λr e x v=>?_) (gA _))));obtain⟨o,y,u⟩:=v;refine aA (dZ (T := "StopIteration") (b:=true) ⟨o,y,u⟩ isSubtype_stop ?_);exact aH (hQ _ λc o m _ n q e=>x c o m n q e)
end
section
variable {K:Type} [DecidableEq K] {knd:KeyKind prog w K}{A:Around}{R:Result->Ae->Prop}
theorem Vo {TI TO:Ad}(hh:A.handled=none) (D:ZipApart z TI TO l p I J) (hd:d∉[z,TI,TO,l,p,I,J]) (more:Aa (K×Ac)) (hn:more.length=min U.size ys.size) (j:more.length<=sizeLine)
  (hT:∀ (i:Nat) x y,U[i]?=some x->ys[i]?=some y->∃ k,knd.is k x=true/\more[i]?=some (k,y)) (h0:Ag) :
  ∀ (m i:Nat) (s:Ae),more.length-i=m->i<=more.length->uG s.heap z TI TO l p->mP r s.heap l I i->mP C s.heap p J i->mS r s.heap I U->mS C s.heap J ys->(∀ b o,b∉[z,TO,l,p,d]->h0.get? b=some o->s.heap.get? b=some o)->s.heap.DictOf knd d (merged [] (more.take i)) ->
   (∀ g tk,(∀ b o,b∉[z,TO,l,p,d]->h0.get? b=some o->g.get? b=some o)->g.DictOf knd d (merged [] more)->R (.ok (.ret .none)) { s with heap:=g,toks:=tk }) ->
   codeAny (model prog w) A (.builtin "dict.update.loop" ⟨[.ref d,.ref z,.int (i:Int) 0,.none],[]⟩) R s:=by
 simp only[aF,bJ,dL,jU] at hd;obtain⟨d1,d2,S,V,W,d6,d7⟩:=hd;have na:∀ {b:Ad},b∉[z,TO,l,p,d]->b≠z/\b≠TO/\b≠l/\b≠p/\b≠d:=λj=>by
  simpa only [aF,bJ,dL,jU] using j
 intro m;induction m with
 | zero =>
  intro i s hm hi hz Z h2 c h kp H hR;have ei:i=more.length:=by omega
  subst ei;rw[aQ (aJ _)] at H;refine dU xV ?_;rw[cM sD _];show wpAny _ A.in1 (pyNext (.ref z) >>= _) _ _ s;refine aA (CS (by simpa using hh) D hz Z h2 c h ?_ λg B=>?_)
  .rcases Nat.le_total U.size ys.size with q | q
   .exact .inl (eW (by omega))
   .exact .inr (eW (by omega))
  .show wpAny _ A.in1 (Builtin.Dict.addKeywords d [] >>= _) _ _ _;refine aA (aH ?_);obtain⟨o,F,E,u,rest⟩:=H;exact aH (hR g _ (λb o j e=>let ⟨r,C,P,Q,b5⟩:=na j;B b o r C P Q (kp b o j e)) ⟨o,F,E,B d _ d1 S V W u,rest⟩)
 | succ m ih =>
  intro i s hm hi hz Z h2 c h kp H hR;have ab:i<more.length:=by omega
  obtain⟨x,hx⟩:∃ x,U[i]?=some x:=⟨_,eC (by omega)⟩;obtain⟨y,hy⟩:∃ y,ys[i]?=some y:=⟨_,eC (by omega)⟩;obtain⟨ky,N,t⟩:=hT i x y hx hy;refine dU xV ?_;rw[cM sD _];show wpAny _ A.in1 (pyNext (.ref z) >>= _) _ _ s;refine aA (EE D hz Z h2 c h hx hy λg z' ac ae pr sz B=>?_);have aa:g.DictOf knd d (merged [] (more.take i)):=by
   obtain⟨o,F,E,u,rest⟩:=H;exact⟨o,F,E,B d _ d1 S V W u,rest⟩
  have af:mS r g I U:=pM c λo e=>B I o D.l1z D.l1TO D.l1i1 D.l1i2 e
  have ag:mS C g J ys:=pM h λo e=>B J o D.l2z D.l2TO D.l2i1 D.l2i2 e
  have pd:s.heap.objs.size≠d:=by
   obtain⟨o,F,E,u,rest⟩:=H;exact (bF (aL u)).symm
  show wpAny _ A.in1 (holding [Value.ref s.heap.objs.size] _ >>= _) _ _ _;refine aA (bS ?_);refine aA (iF ?_);unfold Builtin.Dict.pairItems;refine aA (eV (T := "tuple") ⟨_,pr,rfl⟩ ?_);rw[bE (by decide)];refine aA (dP pr rfl ?_);refine aH ?_;show wpAny _ A.in1 (holding [x,y] (dictSet d x y)) _ _ _;refine bS ?_;have v:(merged [] (more.take i)).length<=sizeLine:=by
   have X:=merged_length_le ([]:Aa (K×Ac)) (more.take i);rw[fZ,bT] at X;omega
  refine kF (hsz:=v) N aa λG n sb=>?_
  rw[<- merged_take_succ [] more i (ky,y) t] at n;refine aH ⟨gE sD _,?_⟩;have X:(rawInt ((i:Int)+1))=Value.int ((i+1:Nat):Int) 0:=by rfl
  rw[X];have up:∀ b o,b≠d->g.get? b=some o->G.get? b=some o:=λb o j e=>by rw[sb.2 b j];exact e
  have zz:uG G z TI TO l p:=by
   obtain⟨p1,⟨a,b,p2⟩,p3⟩:=z';refine⟨up _ _ (cQ d2) p1,⟨a,b,up _ _ (cQ S) p2⟩,?_⟩;rcases p3 with p3 | ⟨T,f,o,q1,q2,q3,q4,q5,q6⟩
   .exact .inl (up _ _ (cQ d1) p3)
   .by_cases M:T=d
    .subst M;obtain⟨o',F,E,u,rest⟩:=n;exact .inr ⟨T,f,_,up _ _ (cQ d1) q1,u,q3,q4,q5,q6⟩
    .exact .inr ⟨T,f,o,up _ _ (cQ d1) q1,up _ _ M q2,q3,q4,q5,q6⟩
  refine ih (i+1) _ (by omega) ab zz (oS ac λo e=>up _ o (cQ V) e) (oS ae λo e=>up _ o (cQ W) e) (pM af λo e=>up _ o (cQ d6) e) (pM ag λo e=>up _ o (cQ d7) e) (λb o j e=>?_) n λY tk O L=>hR Y tk O L
  obtain⟨r,C,P,Q,b5⟩:=na j;exact up b o b5 (B b o r C P Q (kp b o j e))
theorem AD {TI TO:Ad}(hh:A.handled=none) (D:ZipApart z TI TO U i2 l1 l2)
  (T:IsZip s.heap z TI TO .none) (l:IsPair s.heap TI (.ref U) (.ref i2)) (C:IsPair s.heap TO .none .none) (h1:mP b1 s.heap U l1 0) (h2:mP b2 s.heap i2 l2 0) (I:mS b1 s.heap l1 xs) (J:mS b2 s.heap l2 ys)
  (hn:more.length=min xs.size ys.size) (g:more.length<=sizeLine) (hT:∀ (i:Nat) x y,xs[i]?=some x->ys[i]?=some y->∃ k,knd.is k x=true/\more[i]?=some (k,y))
  (h:∀ (j:Ag) (tk:Nat),j.DictOf knd s.heap.objs.size (merged [] more)->(∀ b o,b∉[z,TO,U,i2]->s.heap.get? b=some o->j.get? b=some o)->Q (.ref s.heap.objs.size) { s with heap:=j,toks:=tk }) :
  wpAny (model prog w) A (call (.type "dict") [.ref z]) Q E s:=by
 let d:=s.heap.objs.size;have made:(tW s).heap.DictOf knd d []:=Heap.DictOf.new s.heap;have old:∀ b o,s.heap.get? b=some o->(tW s).heap.get? b=some o:=λb o e=>aI _ e
 refine callType_codes F.kt_called_dict (jX _) F.entry_dict_init (kt_code_dict_new _ (Q₁:=λv n=>v = .ref d/\n=tW s) ⟨rfl,rfl⟩) λv n q=>?_
 obtain⟨rfl,rfl⟩:=q;refine⟨made.typeIs,kL _ _,O4 made.typeIs (old _ _ T) (by simp[hh]) λc tk e x=>⟨gE sD _,?_⟩⟩;have keeps:∀ b o,s.heap.get? b=some o->c.get? b=some o:=λb o e=>x.keeps _ _ (old b o e)
 obtain⟨N,G⟩:=yD h1;obtain⟨O,H⟩:=yD h2;obtain⟨P,L⟩:=yR I;obtain⟨S,M⟩:=yR J;have a:∀ {b o},s.heap.get? b=some o->d≠b:=λe=>(bF (aL e)).symm
 have f:c.DictOf knd d []:=by
  obtain⟨o,u,t,p,r⟩:=made;exact⟨o,u,t,x.keeps _ _ p,r⟩
 refine Vo (knd:=knd) (by simp[hh]) D ?_ more hn g hT s.heap more.length 0 _ rfl (dN _) ⟨keeps _ _ l,⟨_,_,keeps _ _ C⟩,.inl (keeps _ _ T)⟩ (oS h1 λo e=>keeps _ o e) (oS h2 λo e=>keeps _ o e) (pM I λo e=>keeps _ o e) (pM J λo e=>keeps _ o e) (λb o _ e=>keeps b o e) (by simpa [merged] using f) λj m B fin=>?_
 .simp only[aF,bJ,dL,jU];exact⟨a T,a l,a C,a G,a H,a L,a M⟩
 .refine⟨rfl,h j m fin λb o g e=>B b o (λq=>?_) e⟩;simp only[aF,bJ,dL,jU] at g q;rcases q with q | q | q | q | q
  .exact g.1 q
  .exact g.2.1 q
  .exact g.2.2.1 q
  .exact g.2.2.2 q
  .exact a e q.symm
end
noncomputable def pB (b:Bool) (t:Ad):Obj:={ cls:=.type (match b with | true => "tuple_iterator" | false => "list_iterator"),data:=.fields #[.ref t,.int 0 0] }
theorem Qo (b:Bool) (e:h.get? g=some (pB b t)):mP b h g t 0:=by
 cases b
 .exact⟨_,e,rfl,rfl⟩
 .exact⟨_,e,rfl,rfl⟩
theorem Ls (T:mS b s.heap l j) (q:Q (.ref s.heap.objs.size) { s with heap:=s.heap.push (pB b l) }):wpAny (model g w) A (pyIter (.ref l)) Q E s:=by
 cases b
 .exact eF T q
 .exact wpAny_pyIter_tuple T q
def M0 (g j:Bool) (h:Ag) (s t:Ad):Ag:=((((h.push (pB g s)).push (pB j t)).push (Bh (.ref h.objs.size) (.ref (h.push (pB g s)).objs.size))).push (Bh .none .none)).push (Kj ((h.push (pB g s)).push (pB j t)).objs.size (((h.push (pB g s)).push (pB j t)).push (Bh (.ref h.objs.size) (.ref (h.push (pB g s)).objs.size))).objs.size)
theorem GD (j p:Bool) (l m:Ad) (C I:Array Ac):Meets (Builtin.«zip.__new__» ⟨[.type "zip",.ref l,.ref m],[]⟩) (λ_ R s=>mS j s.heap l C/\mS p s.heap m I /\ ∀ r,r=M0 j p s.heap l m->∀ n,n=s.heap.objs.size+4->R (.ok (.ret (.ref n))) { s with heap:=r }) :=
 .of_wp λf w A R s h=>by
  obtain⟨c,g,d,i,os⟩:=s;obtain⟨k,q,h⟩:=h;have under:=sub_zip;have a:mS j (Shared.heap ⟨c,g,d,i,os⟩) l C:=k;have b:mS p (Shared.heap ⟨c.push (pB j l),g,d,i,os⟩) m I:=pM q λo e=>aI _ e
  wp_walk using Ls a,Ls b
  refine⟨_,rfl,h _ rfl _ ?_⟩;rw[cN,cN,cN,cN]
section
theorem Mg (J:mS r s.heap l U) (T:mS C s.heap m ys)
  (q:∀ j,IsZip j (s.heap.objs.size+4) (s.heap.objs.size+2) (s.heap.objs.size+3) .none->IsPair j (s.heap.objs.size+2) (.ref s.heap.objs.size) (.ref (s.heap.objs.size+1))->IsPair j (s.heap.objs.size+3) .none .none ->mP r j s.heap.objs.size l 0->mP C j (s.heap.objs.size+1) m 0->j.objs.size=s.heap.objs.size+5->(∀ c o,s.heap.get? c=some o->j.get? c=some o)->Q (.ref (s.heap.objs.size+4)) { s with heap:=j }) :
  wpAny (model I w) A (call (.type "zip") [.ref l,.ref m]) Q E s:=by
 refine callType_new F.called_zip (by decide) (F.typeCall_zip_2 _ _) (F.newCall_zip_2 _ _) (λobj=>F.args_object_init_3 obj _ _) F.entry_zip_new (GD r C l m U ys) ⟨J,T,λj e n k=>?_⟩;subst e k;have b:(s.heap.push (pB r l)).objs.size=s.heap.objs.size+1:=cN ..;have d:((s.heap.push (pB r l)).push (pB C m)).objs.size=s.heap.objs.size+2:=by rw[cN,b]
 have h:∀ p,(((s.heap.push (pB r l)).push (pB C m)).push p).objs.size=s.heap.objs.size+3:=λp=>by rw[cN,d]
 have i:∀ p q,((((s.heap.push (pB r l)).push (pB C m)).push p).push q).objs.size=s.heap.objs.size+4:=λp q=>by rw[cN,h]
 have a:∀ (g:Ag) (o:Obj) (n:Nat),o.isFreed=false->g.objs.size=n->(g.push o).get? n=some o:=λg o n f e=>by rw[<- e];exact aX _ f
 have on:∀ {g:Ag} {o p:Obj} {c:Ad},g.get? c=some o->(g.push p).get? c=some o:=λe=>aI _ e
 unfold M0;rw[b,d,h];have z:=a ((((s.heap.push (pB r l)).push (pB C m)).push (Bh (.ref s.heap.objs.size) (.ref (s.heap.objs.size+1)))).push (Bh .none .none)) (Kj (s.heap.objs.size+2) (s.heap.objs.size+3)) _ rfl (i _ _);exact⟨⟨_,z,rfl⟩,q _ z (on (on (a _ _ _ rfl d))) (on (a _ _ _ rfl (h _))) (Qo r (on (on (on (on (aX _ rfl)))))) (Qo C (on (on (on (a _ _ _ rfl b))))) (by rw[cN,i]) λc o e=>on (on (on (on (on e))))⟩
end
end PySem
namespace L2
open PySem PySem.Spec PyProof.Rows
def pK (b:Bool) (K:kY) (H:Hp) (a:Ad) (g:Aa V):Prop:=match b with
 | true=>mA K H a g
 | false=>eT K H a g
section
variable {X:Cx}
theorem Inv.seqB (I:Inv X j o H s) (h:pK b X.K H a l):∃ g:Aa Ac,kZ l g/\mS b s.heap a g.toArray:=by
 cases b
 .obtain⟨g,r,p,_⟩:=I.list h;exact⟨g,r,p.isList⟩
 .obtain⟨g,r,p,_⟩:=I.tuple h;exact⟨g,r,p⟩
theorem Inv.seqB_inj (I:Inv X j p H s) (h:pK b X.K H a l) (g:pK b X.K H a o):l=o:=by
 cases b
 .exact I.list_inj h g
 .exact I.tuple_inj h g
theorem Qx (x:mP b h g t i):∃ o,h.get? g=some o/\∀ v,o.data ≠ .cell v:=by
 cases b
 .obtain⟨o,e,_,d⟩:=(show h.IsListIter g t i from x);exact⟨o,e,λv z=>by rw[d] at z;cases z⟩
 .obtain⟨o,e,_,d⟩:=(show h.IsTupleIter g t i from x);exact⟨o,e,λv z=>by rw[d] at z;cases z⟩
end
def Gv (g j:Bool) (K:kY) (a b:Ad):It :=
 ⟨λi H=>∃ c d x y,pK g K H a c/\pK j K H b d/\c[i]?=some x/\d[i]?=some y,λi H v e=>∃ p x y,H p=none/\v = .ref p/\e=upd H p (.t [x,y])/\(∀ c,pK g K H a c->c[i]?=some x)/\(∀ d,pK j K H b d->d[i]?=some y),λi H=>∃ c d,pK g K H a c/\pK j K H b d/\(c.length<=i\/d.length<=i)⟩
def FF (l o:Bool) (a b z TI TO g j:Ad) (i:Nat) (h:Ag):Prop:=IsZip h z TI TO .none/\IsPair h TI (.ref g) (.ref j)/\(∃ u v,IsPair h TO u v)/\mP l h g a i/\mP o h j b i
theorem AN {P:Ah}{K:kY}{TI TO:Ad}(D:ZipApart z TI TO i1 i2 a b) :
  Turn P w K (.Tuple ac x1 pos) (Gv b1 b2 K a b) [z,TI,TO,i1,i2] z (FF b1 b2 a b z TI TO i1 i2) where
 mem:=by simp
 obj:=λi h st c F=>by
  obtain⟨n,t,⟨u,v,A⟩,f,m⟩:=st;obtain⟨o4,f,d4⟩:=Qx f;obtain⟨o5,m,d5⟩:=Qx m;simp only[aF,bJ,dL] at F;rcases F with e | e | e | e | e<;>subst e
  .exact⟨_,n,λv z=>nomatch z⟩
  .exact⟨_,t,λv z=>nomatch z⟩
  .exact⟨_,A,λv z=>nomatch z⟩
  .exact⟨_,f,d4⟩
  .exact⟨_,m,d5⟩
 keep:=λi h h' st k=>by
  obtain⟨n,t,⟨u,v,A⟩,f,m⟩:=st;exact⟨k z (by simp) _ n,k TI (by simp) _ t,⟨u,v,k TO (by simp) _ A⟩,oS f λo e=>k i1 (by simp) o e,oS m λo e=>k i2 (by simp) o e⟩
 item:=by
  intro X Y hw W F i L s σ H E I N st Z;subst Y hw W;obtain⟨n,t,⟨u,v,A⟩,f,m⟩:=st;obtain⟨xs,ys,x,y,O,Q,hx,hy⟩:=Z;obtain⟨l,U,r⟩:=I.seqB O;obtain⟨p,ry,py⟩:=I.seqB Q;obtain⟨ux,g,J⟩:=U.get hx;obtain⟨uy,j,T⟩:=ry.get hy;refine Qu D n t A f m r py (x:=ux) (y:=uy) (by simpa using g) (by simpa using j) λh' n1 n2 n3 n4 n5 n6 n7=>?_
  refine⟨_,rfl,wpAny_letOwnedTupleGo_zip n1 λh2 m1 B=>?_⟩;have kp:∀ c o,c∉[z,TI,TO,i1,i2]->s.heap.get? c=some o->h2.get? c=some o:=λc o d e=>by
   simp only[aF,bJ,dL,jU] at d;obtain⟨M,e2,R,S,V⟩:=d;exact B.extBut c o M (n7 c o M R S V e)
  have zs:s.heap.objs.size≠z:=λe=>cV _ (by have:=aL n;rw[<- e] at this;exact this)
  have nt:uT h2 s.heap.objs.size [ux,uy].toArray:=⟨⟨_,B.extBut _ _ zs n5,rfl,_,rfl⟩,_,B.extBut _ _ zs n5,rfl⟩;have I2:=I.movedT (t':=s.toks) (ys:=[x,y]) N kp nt (.cons J (.cons T .nil)) (by show 2<=sizeLine;decide);refine⟨.ref s.heap.objs.size,_,I2,rfl,⟨_,x,y,I.fresh,rfl,rfl,λae C=>by rw[I.seqB_inj C O];exact hx,λaf C=>by rw[I.seqB_inj C Q];exact hy⟩,⟨m1,?_,⟨ux,uy,?_⟩,?_,?_⟩,λc d=>?_⟩
  .exact B.extBut _ _ D.TIz (n7 TI _ D.TIz D.TITO D.TIi1 D.TIi2 t)
  .exact B.extBut _ _ D.TOz n2
  .exact oS n3 λo e=>B.extBut _ o D.i1z e
  .exact oS n4 λo e=>B.extBut _ o D.i2z e
  .rw[iO]
   .exact (N c d).1
   .intro e;obtain⟨o,ho⟩:∃ o,s.heap.get? c=some o:=by
     obtain⟨o4,aa⟩:=yD f;obtain⟨o5,ab⟩:=yD m;simp only[aF,bJ,dL] at d;rcases d with q | q | q | q | q<;>rw[q]
     .exact⟨_,n⟩
     .exact⟨_,t⟩
     .exact⟨_,A⟩
     .exact⟨_,aa⟩
     .exact⟨_,ab⟩
    have:=aL ho;rw[e] at this;exact cV _ this
 done:=by
  intro X Y hw W F i L s σ H E I N st Z;subst Y hw W;obtain⟨n,t,⟨u,v,A⟩,f,m⟩:=st;obtain⟨xs,ys,O,Q,G⟩:=Z;obtain⟨l,U,r⟩:=I.seqB O;obtain⟨p,ry,py⟩:=I.seqB Q;have lx:=U.length;have ly:=ry.length;refine P8 (I.ok.hd F) D n t A f m r py ?_ λh' k=>⟨rfl,I.moved (t':=s.toks) N λc o d e=>?_⟩
  .rcases G with q | q
   .exact .inl (by simp;omega)
   .exact .inr (by simp;omega)
  .simp only[aF,bJ,dL,jU] at d;obtain⟨M,e2,R,S,V⟩:=d;exact k c o M R S V e
 self:=λ_ _ _ _ _ st h=>wpAny_pyIter_zip st.1 h
section
variable {X:Cx}
def V7 (K:kY) (g:TA):TI:=λk H R=>g k H λf c=>∃ a b d e,f=[.ref a,.ref b]/\(∃ h,pK d K c a h)/\(∃ i,pK e K c b i)/\R (Gv d e K a b) c
theorem U6 (C:Gl X "zip") (J:X.mg "zip" = none) (r:PA X [j,g] U) (T:starEach [j,g] X.env=(false,eval j X.env)::starEach [g] X.env:=by rfl)
  (l:(backTo pos (starEach [g] X.env)).any (·.1)=false:=by rfl):PI X (.Tuple o x1 ps) (.Call (.Name "zip" p) [j,g] [] pos) (V7 X.K U):=by
 intro f s A H R I h;refine Call_ (tO I C J boot_zip (bZ (hO (r pos f s A H _ I h) λus d n=>?_) T l));obtain⟨vs,t,i,V,P⟩:=n;obtain⟨a,b,Z,b2,rfl,⟨xs,Q⟩,⟨ys,S⟩,q⟩:=P;obtain⟨u,v,rfl,W,Y⟩:=Ew V;cases W;cases Y;obtain⟨E,rx,y⟩:=i.seqB Q;obtain⟨F,ry,py⟩:=i.seqB S;have k:a<d.heap.objs.size:=by obtain⟨_,e⟩:=yR y;exact aL e
 have m:b<d.heap.objs.size:=by obtain⟨_,e⟩:=yR py;exact aL e
 refine Mg y py λD x G L M N n6 O=>?_
 have B:Inv X f A t { d with heap:=D }:=i.kept (t':=d.toks) O;refine wpAny_pyIter_zip x ⟨_,[_,_,_,_,_],_,_,t,rfl,B,AN (a:=a) (b:=b) (i1:=d.heap.objs.size) (i2:=d.heap.objs.size+1) (z:=d.heap.objs.size+4) (TI:=d.heap.objs.size+2) (TO:=d.heap.objs.size+3) ?_,⟨x,G,⟨_,_,L⟩,M,N⟩,λc w=>?_,q⟩
 .constructor<;>first | exact bF k | exact bF m | exact bF (aW k (eR _ _)) | exact bF (aW m (eR _ _)) | exact gW k | exact gW m | exact gW (aW k (eR _ _)) | exact gW (aW m (eR _ _)) | exact (by show (_:Nat)≠_;omega)
 .simp only[aF,bJ,dL] at w;rcases w with e | e | e | e | e<;>(subst e;exact i.fpOk (by omega) (i.hok.fresh (by omega)))
variable {K:kY}
def uV:D->Ab (Bool×Aa D)
 | .l a=>some (false,a)
 | .t a=>some (true,a)
 | _=>none
theorem Ek (e:uV d=some (b,j)) (r:Rep K A H d v):∃ a g,v = .ref a/\pK b K H a g/\Reps K A H j g:=by
 cases d<;>first | cases e | skip
 .obtain⟨a,g,rfl,h,r⟩:=r.tup_inv;exact⟨a,g,rfl,mA.of h,r⟩
 .obtain⟨a,g,rfl,_,h,r⟩:=r.lst_inv;exact⟨a,g,rfl,eT.of h,r⟩
def wT (g j:Aa D):Aa D:=g.zipWith (λx y=>D.t [x,y]) j
theorem Pa (g j:Aa D):(wT g j).length=min g.length j.length:=List.length_zipWith
theorem Zj {g j:Aa D}{i:Nat}{x y:D}(l:g[i]?=some x) (o:j[i]?=some y):(wT g j)[i]?=some (.t [x,y]):=by
 unfold wT;rw[List.getElem?_zipWith,l,o]
theorem CI {d1 d2:D}(r:uV d1=some (g,l)) (C:uV d2=some (j,o)):YD K (Gv g j K a b) (wT l o) [(.v d1,some (.ref a)),(.v d2,some (.ref b))]:=by
 have key:∀ A H,wQ K A H [(.v d1,some (.ref a)),(.v d2,some (.ref b))]->(∃ d,pK g K H a d/\Reps K A H l d)/\∃ c,pK j K H b c/\Reps K A H o c:=λA H ok=>by
  obtain⟨v,E,h⟩:=ok (.v d1,some (.ref a)) aE;obtain⟨u,F,k⟩:=ok (.v d2,some (.ref b)) (aK _ aE);cases E;cases F;obtain⟨N,d,G,e,s⟩:=Ek r h;obtain⟨O,c,L,f,t⟩:=Ek C k;cases G;cases L;exact⟨⟨d,e,s⟩,c,f,t⟩
 refine⟨rfl,λi H A m ok=>?_,λi H A x M m ok y=>?_,λi H A m ok=>?_⟩
 .obtain⟨⟨d,e,h⟩,c,f,k⟩:=key A H ok;rw[Pa,h.length,k.length] at m;exact⟨d,c,d[i]'(by omega),c[i]'(by omega),e,f,aG _,aG _⟩
 .obtain⟨⟨d,e,h⟩,c,f,k⟩:=key A H ok;obtain⟨p,R,S,w,rfl,rfl,z,B⟩:=y;obtain⟨P,n,s⟩:=h.getV (z d e);obtain⟨Q,q,t⟩:=k.getV (B c f);exact⟨_,Zj n q,.inr ⟨p,_,_,w,rfl,rfl,rfl,.cons s (.cons t .nil)⟩⟩
 .obtain⟨⟨d,e,h⟩,c,f,k⟩:=key A H ok;rw[Pa,h.length,k.length] at m;exact⟨d,c,e,f,by omega⟩
def T1 (g:rB):uM:=λf i h=>g f i λas a=>match as with
 | [.t d1,.t d2]=>∃ d e b c,uV d1=some (d,b)/\uV d2=some (e,c)/\h (wT b c) a
 | _=>False
theorem Kf (I:Gl X "zip") (J:X.mg "zip" = none) (C:qM X [j,g] ta) (U:starEach [j,g] X.env=(false,eval j X.env)::starEach [g] X.env:=by rfl)
  (l:(backTo pos (starEach [g] X.env)).any (·.1)=false:=by rfl):wJ X (.Tuple o x1 ps) (.Call (.Name "zip" p) [j,g] [] pos) (T1 ta) :=
 (U6 I J C U l).mono λA H R d=>d.elim λB z T G q hd s k=>⟨B,z,T,_,q,hd,s,λas e D i u ok d1 c=>by
  cases ok with
  | nil=>exact False.elim c
  | al _ ok=>exact False.elim c
  | t ok =>
   cases ok with
   | nil=>exact False.elim c
   | al _ ok=>cases ok<;>exact False.elim c
   | t ok =>
    cases ok with
    | al _ ok=>exact False.elim c
    | t ok=>exact False.elim c
    | nil =>
     obtain⟨m,n,E,F,f,h,c⟩:=c;have r:=d1.temps (σ:=A) (.t (.t .nil)) _ rfl;cases r with
     | cons v r =>
      cases r with
      | cons w r =>
       obtain⟨a,x,rfl,g1,_⟩:=Ek f v;obtain⟨b,y,rfl,g2,_⟩:=Ek h w;exact⟨a,b,m,n,rfl,⟨x,g1⟩,⟨y,g2⟩,k _ _ e [_,_] i u d1 (CI f h) c⟩⟩
end
end L2
namespace Lw
open PySem L2
abbrev lS (g:Aa Int):D:=.l (g.map D.int)
theorem zL:∀ g:Aa Int,pX (g.map D.int)=g.map PyData.int
 | []=>rfl
 | n::r=>by rw[aY,pX,zL r];rfl
theorem Iz:∀ g:Aa Int,qJ (g.map D.int)=true
 | []=>rfl
 | n::r=>by rw[aY,qJ,Iz r];rfl
theorem Gq:∀ g:Aa Int,PyData.depthAll (g.map PyData.int)=0
 | []=>rfl
 | n::r=>by
  show max 0 (PyData.depthAll (r.map PyData.int))=0;rw[Gq r];rfl
theorem Ob:∀ j g:Aa Int,PyData.eqvAll (j.map PyData.int) (g.map PyData.int)=decide (j=g)
 | [],[]=>rfl
 | [],_::_=>rfl
 | _::_,[]=>rfl
 | n::r,m::q=>by
  show (n == m&&PyData.eqvAll (r.map PyData.int) (q.map PyData.int))=_;rw[Ob r q,iU];simp
theorem Hq (neg:Bool) (g j:Aa Int) (h:l (.v (.b (nb neg (decide (g=j)))))):tT neg (lS g) (lS j) l:=by
 cases j with
 | nil =>
  show l (.v (.b (nb neg (g.map D.int).isEmpty)));cases g<;>exact h
 | cons m r =>
  have e:PyData.eqv (py (lS g)) (py (lS (m::r)))=decide (g=m::r):=by
   show PyData.eqvAll (pX (g.map D.int)) (pX ((m::r).map D.int))=_;rw[zL,zL,Ob]
  have d:(py (lS (m::r))).depth<=60:=by
   show PyData.depthAll (pX ((m::r).map D.int))+1<=60;rw[zL,Gq];decide
  have:mJ (lS g)=true/\mJ (lS (m::r))=true/\min (py (lS g)).depth (py (lS (m::r))).depth<=60/\l (.v (.b (nb neg (PyData.eqv (py (lS g)) (py (lS (m::r))))))):=by
   refine⟨Iz _,Iz _,bV (kR _ _) d,?_⟩;rw[e];exact h
  exact this
theorem N7 (j g:Aa Int):wT (j.map D.int) (g.map D.int)=(j.zip g).map λp=>D.t [.int p.1,.int p.2]:=by
 unfold wT;rw[List.zipWith_map,List.zip,iL]
theorem GN (C:Cel) (al:Aa (Af×Af)) (k:Nat):qD (Cr C.ins C.gates al k) (lM C al k)=lS (SL C al k):=by
 simp[qD,lS,SL,cX]
def Eh:RD:=λd b c=>∃ (C:Cel) (al:Aa (Af×Af)) (a:Aa Int),b=[lX C al,lS a]/\GoodRow C al/\a.length=al.length+1/\(∀ x∈a,0<=x)/\c (.o (lS (nx C al a)))
theorem EK (h:Eh g j l):Hb g j l:=by
 obtain⟨C,al,a,rfl,i,b,f,d⟩:=h;have k:(oG al a).map (·.1)=al.map (·.2):=by
  unfold oG;exact List.map_fst_zip (by simp;omega)
 obtain⟨is,e,rfl⟩:∃ is e,a=is++[e]:=⟨a.dropLast,a.getLast (by intro q;simp[q] at b),(List.dropLast_concat_getLast _).symm⟩;have c:is.length=al.length:=by simpa using b
 have v:(oG al (is++[e])).map (·.2)=is:=by
  unfold oG;have:(al.map (·.2)).zip (is++[e])=(al.map (·.2)).zip is:=by
   have:=kC (l₁:=al.map (·.2)) (r₁:=[]) (l₂:=is) (r₂:=[e]) (by simp[c])
   simpa using this
  rw[this];exact List.map_snd_zip (by simp;omega)
 refine⟨C,al,oG al (is++[e]),e,?_,i,k,λx=>?_,?_⟩
 .have:qD (oG al (is++[e])) e=lS (is++[e]):=by
   unfold qD;have:(oG al (is++[e])).map (λp=>D.int p.2)=is.map D.int:=by
    have:=eA (List.map D.int) v
    rwa [bC] at this
   rw[this];simp[lS]
  rw[this]
 .rw[Fd al _ x b];show 0<=(is++[e]).getD _ 0;rw[dR];cases q:(is++[e])[sI al x]? with
  | none=>exact gB _
  | some y=>exact f y (aR q)
 .have:qD (rD al (tbl C.ins C.gates (look (oG al (is++[e]))))) (mx (C.outs.map (look (tbl C.ins C.gates (look (oG al (is++[e])))))))=lS (nx C al (is++[e])):=by
   simp[qD,lS,nx,tZ,rD,cX]
  rw[this];exact d
theorem R6 (h:a.length=y.length) (g:∀ i,0<=vL a i) (l:∀ i,0<=vL y i) (j:0<=t):∀ x∈rF a y t,0<=x:=λx c=>by
 obtain⟨i,b,rfl⟩:=cR c;have e:=Is t h i;have:vL (rF a y t) i=(rF a y t)[i]:=by simp[vL,List.getD,b]
 rw[<- this,e];have:=iI j (l i);have:=g i;omega
theorem BS (h:al.length<=4) (g:C.gates.length<=24) (k i:Nat):XL C al k i<=24*k:=by
 obtain⟨j,hw⟩:=(Hk (C:=C) (al:=al)).way k i;have:=(hw.bound (Hy h)).2;have:(C.gates.length:Int)*k<=24*k:=cH (by omega) (by omega);omega
theorem FP (h:al.length<=4) (g:C.gates.length<=24) (k:Nat):∀ x∈SL C al k,x<=24*k:=λx b=>by
 obtain⟨i,a,rfl⟩:=cR b;have:=BS (C:=C) h g k i
 simpa [XL,vL,List.getD,a] using this
theorem Kn.mono {P:Ah}{K:kY}{st:Stmt}{R:RD}(h:Kn P w K p base k x st C R) (o:∀ g j l,R' g j l->R g j l):Kn P w K p base k x st C R' :=
 h.elim λ_ h=>h.elim λ_ h=>⟨_,_,h.1,h.2.imp λe H Q E ⟨g,A,j,l,a,b,c,r,d⟩=>⟨g,A,j,l,a,b,c,o _ _ _ r,d⟩⟩
theorem AE (g:Aa D) (x:D):nR (g++[x]) none (some (-1))=g:=by
 unfold nR;have e:HT.sIx (g++[x]).length (g++[x]).length (some (-1))=g.length:=by
  show (if (-1:Int)<0 then ((-1:Int)+((g++[x]).length:Int)).toNat else min (-1:Int).toNat (g++[x]).length)=_;rw[bE (by decide),bB,eJ];omega
 rw[HT.sIx_none,e];simp
theorem Y9 (f:Nat->D) (m c:Nat):nR ((List.range (m+c+1)).map f) (some (-1-(c:Int))) none=(List.range (c+1)).map λj=>f (m+j):=by
 unfold nR;have e:HT.sIx ((List.range (m+c+1)).map f).length 0 (some (-1-(c:Int)))=m:=by
  show (if (-1-(c:Int))<0 then ((-1-(c:Int))+(((List.range (m+c+1)).map f).length:Int)).toNat else _)=_;rw[bE (by omega),aB,cI];omega
 rw[e,HT.sIx_none];apply gJ
 .simp;omega
 .intro i p q;simp
def Cs (C:Cel) (al:Aa (Af×Af)) (s:Nat):Prop:=∀ k,s<=k->∀ i,XL C al (k+lP al.length) i=XL C al k i+vL (nC C al s) i
instance {C:Cel} {al:Aa (Af×Af)} {s k:Nat} {t:Int}:Decidable (tL C al s k t):=by unfold tL;infer_instance
theorem Ey (B:Nat) (m:Aa Sl->Nat) (Pv:Nat->Aa Sl->Prop) (p:∀ n g,Pv n g->m g=n) (I:Nat) (C:Pv I g)
  (step:∀ (n:Nat) (g:Aa Sl) (N:Aa Sl->Prop),Pv n g->(n<B->∀ j,Pv (n+1) j->N j)->c r g λb l=>if b=true then J r { nx:=N,ct:=N,bk:=o.nx,rt:=o.rt } l else o.nx l):Qb c J r o g :=
 ⟨λg=>Pv (m g) g,λg=>B-m g,by show Pv (m g) g;rw[p _ _ C];exact C,λg a=>step (m g) g _ a λlt j h=>⟨by show Pv (m j) j;rw[p _ _ h];exact h,by show B-m j<B-m g;rw[p _ _ h];omega⟩⟩
theorem zN {p:Prop} [Decidable p] (h:p){a b:Prop}(g:a):if decide p=true then a else b:=by rw[cG h];exact g
theorem Au {p:Prop} [Decidable p] (h:¬ p){a b:Prop}(g:b):if decide p=true then a else b:=by rw[cF h];exact g
def Lg:RD:=λc a b=>∃ n:Nat,a=[.int n]/\n<=4/\b (.v (.int (lP n:Nat)))
def Mp:RD:=λe c d=>∃ (a b:Aa Int) (t:Int),c=[lS a,lS b,.int t]/\a.length<=100/\-(2 ^ 64)<t/\t<2 ^ 64/\d (.o (lS (rF a b t)))
def Rx:RD:=λd a c=>∃ (C:Cel) (al:Aa (Af×Af)) (s k:Nat),a=[lX C al,lS (SL C al k),lS (nC C al s)]/\GoodRow C al/\k<=8000/\c (.v (.b (decide (tL C al s k (1+mx (SL C al (k+1)))))))
def tK (C:Cel) (al:Aa (Af×Af)) (s n:Nat):D:=.l ((List.range n).map λj=>lS (SL C al (s+j)))
def O8:RD:=λd a c=>∃ (C:Cel) (al:Aa (Af×Af)) (s:Nat),a=[lX C al,tK C al s (lP al.length+1)]/\GoodRow C al/\s<=7900/\∀ b:Bool,(b=true->Cs C al s)->(7000<=s->b=true)->c (.v (.b b))
def Pq:RD:=λc a b=>∃ (C:Cel) (al:Aa (Af×Af)),a=[lX C al,.int (lP al.length:Nat)]/\GoodRow C al/\∀ s:Nat,s<=7000->Cs C al s->b (.v (.int s))
theorem Ym:(["size","ring"]:Aa Af).Nodup:=by decide +kernel
theorem Lz:(["late","more","times"]:Aa Af).Nodup:=by decide +kernel
theorem P2:(["first","last"]:Aa Af).Nodup:=by decide +kernel
theorem Ya:(["state","row","added"]:Aa Af).Nodup:=by decide +kernel
section
variable {P:Ah}{K:kY}
theorem Jz:FnScope ["count","ring"] ["count"] (lU C0):=oJ
theorem Zw (T:Txt g):oI P w K g base 1 "common_ring" C0 ["count"] Lg:=by
 refine oU Jz λf F A y s H E S V C W X M=>?_
 obtain⟨n,rfl,D,u⟩:=M;refine⟨_,(hH (lG 1 Jz.nd gV) (hH (xA dB (Rw (mT (Vm rfl) T0 T.any PyProof.Rows.boot_any (dK (nV ["size"] ["ring"] [1] (Kh (by rfl) T.range gV (mZ mO mL 0 gV)) (λ_ _ _ _ _=>(lQ 0 Ym)) (λ_ _ _ _ _=>(mZ qG F5 1 (eH 0)))) dT))) (lY (F6 (n:=1) Jz.nd rfl (Or.inr rfl) gV Qg))) (lY (nO (eH 1))))),?_⟩;have m:=A5 n;have G:=wW n;refine lC (λb=>b=[.v (.int n),.v (.int 1)]) (λN t=>t _ rfl) ?_;rintro _ rfl;refine lC (λb=>b=[.v (.int n),.v (.int (lP n:Nat))]) (λN t=>?_) ?_
 .refine⟨λb=>∃ r:Nat,1<=r/\r<=lP n/\b=[.v (.int n),.v (.int r)],λb=>match b with | [_,.v (.int r)]=>(12-r).toNat | _=>0,⟨1,by omega,m,rfl⟩,?_⟩;rintro b ⟨r,Q,o,rfl⟩;unfold Pl dC aC;have e:(((n:Int)+1-1).toNat:Nat)=n:=by omega
  refine nT (List.range n) (λi=>.int (1+(i:Nat))) (λi=>.int ((r:Int)%(1+(i:Nat)))) [.v (.int n),.v (.int r)] (λI h=>⟨rfl,⟨by omega,by omega,by omega,by omega⟩,by rw[e];exact h⟩) (by rw[cI];omega) (λi x p R e m L=>⟨rfl,by show (0:Int)<1+(x:Nat);omega,m,L⟩) ?_;refine⟨(List.range n).map λi=>(r:Int)%(1+(i:Nat)),by have:=yU ((List.range n).map λ(i:Nat)=>(r:Int)%(1+(i:Nat)));rwa [bC] at this,rfl,_,rfl,?_⟩;have a:∀ l:Nat,(r:Int)%((l:Nat):Int)=((r%l:Nat):Int):=λl=>by simp
  cases q:((List.range n).map λ(i:Nat)=>(r:Int)%(1+(i:Nat))).any (· != 0) with
  | true =>
   obtain⟨x,O,nx⟩:=gQ.mp q;obtain⟨i,B,rfl⟩:=aD.mp O;have B:=cZ.mp B;have lt:r<lP n:=cK λz=>by
    have:r=lP n:=by omega
    have d:=M8 D (show 1<=1+i by omega) (show 1+i<=n by omega);rw[<- this] at d;have:=Nat.mod_eq_zero_of_dvd d;have c:=a (1+i);rw[this] at c;simp only[bne_iff_ne,ne_eq] at nx;refine nx ?_;have k:((1+i:Nat):Int)=1+(i:Int):=by omega
    rw[k] at c;exact c
   refine⟨⟨r+1,by omega,by omega,rfl⟩,?_⟩;show ((12:Int)-((r:Int)+1)).toNat<((12:Int)-(r:Int)).toNat;omega
  | false =>
   have:r=lP n:=cK λz=>by
    obtain⟨l,Y,Z,j⟩:=Zi D Q (by omega);have:=List.any_eq_false.mp q ((r:Int)%(1+((l-1:Nat):Nat))) (aD.mpr ⟨l-1,cZ.mpr (by omega),rfl⟩);have k:(1:Int)+((l-1:Nat):Int)=(l:Nat):=by omega
    rw[k,a] at this;simp at this;omega
   subst this;exact t _ rfl
 .rintro _ rfl;exact u
theorem GV:FnScope ["state","added","times"] ["state","added","times"] (lU Di):=oJ
theorem AT (T:Txt g):oI P w K g base 1 "more_by" Di ["state","added","times"] Mp:=by
 refine oU GV λf q A m s H E F G Q M N z=>?_
 obtain⟨a,b,t,rfl,L,c,d,k⟩:=z;refine⟨_,(lY (nO (nV ["late","more"] ["times"] [2] (Kf (by rfl) T.zip (dK (eH 0) (dK (eH 1) dT))) (λ_ _ _ _ _=>(rM (n:=2) rfl (mU (lQ 0 Lz) (mU (lQ 1 Lz) rE)))) (λ_ _ _ _ _=>(mZ mO mL 0 (mZ wC wG 2 (eH 1))))))),?_⟩;refine nT (a.zip b) (λp=>.t [.int p.1,.int p.2]) (λp=>.int (p.1+t*p.2)) [.v (lS a),.v (lS b),.v (.int t)] (λR h=>⟨_,_,_,_,rfl,rfl,by rw[N7];exact h⟩) (by rw[fN];omega) (λi x O B e u y=>⟨rfl,rfl,rfl,rfl,.inl ⟨c,d⟩,u,y⟩) ?_;have:(a.zip b).map (λp=>D.int (p.1+t*p.2))=(rF a b t).map D.int:=by
  unfold rF;rw[List.zip,iL,iL]
 rw[this];exact k
theorem Js:FnScope ["row","state","added","after","times"] ["row","state","added"] (lU Ci):=oJ
theorem Yc (T:Txt l) (g:Kn P w K l base 2 "one_cell_more" xS ["row","state"] Eh) (j:Kn P w K l base 1 "more_by" Di ["state","added","times"] Mp) :
  oI P w K l base 3 "adds_always" Ci ["row","state","added"] Rx:=by
 refine oU Js λf t A i s H E y z L b D u=>?_
 obtain⟨C,al,s,k,rfl,c,B,h⟩:=u;refine⟨_,(hH (lG 3 Js.nd (lV g b (dK (eH 0) (dK (eH 1) dT)))) (hH (lG 4 Js.nd (nS mO mL gV (mT (FC rfl) R8 T.max PyProof.Rows.boot_max (dK (eH 3) dT)))) (lY (nO (K2 (zR b.units) (sP false) (lV g b (dK (eH 0) (dK (lV j b (dK (eH 1) (dK (eH 2) (dK (eH 4) dT)))) dT))) (lV j b (dK (eH 3) (dK (eH 2) (dK (eH 4) dT))))))))),?_⟩;have a:=c.la;have d:=c.good.lg;refine⟨C,al,SL C al k,rfl,c,pF k,F7 a k,.inl rfl,?_⟩;rw[Ie];dsimp only;refine⟨_,yU _,by intro q;have:=pF (C:=C) (al:=al) (k+1);rw[q] at this;simp at this,λm e v=>?_⟩;have G:=FP (C:=C) a d (k+1) m e;have x:=F7 (C:=C) a (k+1) m e;have n:(SL C al k).length=(nC C al s).length:=by rw[pF,Co]
 have F:(SL C al (k+1)).length=(nC C al s).length:=by rw[pF,Co]
 refine⟨SL C al k,nC C al s,1+m,rfl,by rw[pF];omega,by omega,by omega,.inl rfl,?_⟩;refine⟨C,al,rF (SL C al k) (nC C al s) (1+m),rfl,c,by rw[Hd n,pF],R6 n (Hc a k) (Yr a s) (by omega),?_⟩;refine⟨.inl rfl,SL C al (k+1),nC C al s,1+m,rfl,by rw[pF];omega,by omega,by omega,.inl rfl,?_⟩;refine Hq false _ _ ?_;rw[wS (ns:=SL C al (k+1)) (m:=m) (.inr e) x v];exact h
theorem L0:FnScope ["row","states","added"] ["row","states"] (lU Ch):=oJ
theorem DH (T:Txt l) (g:Kn P w K l base 3 "adds_always" Ci ["row","state","added"] Rx) :
  oI P w K l base 4 "are_steady" Ch ["row","states"] O8:=by
 refine oU L0 λf M A y s H E I J Φ W B S=>?_
 obtain⟨C,al,s,rfl,q,hs,u⟩:=S;refine⟨_,(hH (lG 2 L0.nd (nV ["first","last"] [] [] (Kf (by rfl) T.zip (dK (lA B 1 gV) (dK (lA B 1 (vH gV)) dT))) (λ_ _ _ _ _=>(rM (n:=2) rfl (mU (lQ 0 P2) (mU (lQ 1 P2) rE)))) (λ_ _ _ _ _=>(mZ sG vB 1 (eH 0))))) (lY (nO (mT (X9 rfl) Uk T.all PyProof.Rows.boot_all (dK (nV ["state"] ["row","added"] [0,2] (nG (tH sZ tQ (pv 1) uC (sF (vH gV)))) (λ_ _ _ _ _=>(lQ 0 Ya)) (λ_ _ _ _ _=>(lV g W (dK (eH 1) (dK (eH 0) (nW (pv 2) dT)))))) dT))))),?_⟩;have z:=q.la;have m:=q.good.lg;have r:=A5 al.length;have L:=wW al.length;refine lC (λZ=>Z=[.v (lX C al),.v (tK C al s (lP al.length+1)),.o (lS (nC C al s))]) (λN R=>?_) ?_
 .have G:mF ((List.range (lP al.length+1)).map λj=>lS (SL C al (s+j))) 0=some (lS (SL C al (s+0))):=pQ (j:=0) (by rw[bK,iR (by omega)];rfl);refine nT ((SL C al s).zip (SL C al (s+lP al.length))) (λp=>.t [.int p.1,.int p.2]) (λp=>.int (p.2-p.1)) [.v (lX C al),.v (tK C al s (lP al.length+1)),.n] (λY h=>⟨rfl,_,G,rfl,_,zZ _ _,_,_,_,_,rfl,rfl,by rw[N7];exact h⟩) (by rw[fN,pF];omega) (λi x X F e c d=>⟨rfl,rfl,rfl,c,d⟩) ?_;have:((SL C al s).zip (SL C al (s+lP al.length))).map (λp=>D.int (p.2-p.1))=(nC C al s).map D.int:=by
   unfold nC zO;rw[List.zip,iL,iL]
  rw[this];exact R _ rfl
 rintro _ rfl;unfold Df dC aC;refine nT (List.range (lP al.length)) (λj=>lS (SL C al (s+j))) (λj=>.b (decide (tL C al s (s+j) (1+mx (SL C al (s+j+1)))))) [.v (lX C al),.v (tK C al s (lP al.length+1)),.o (lS (nC C al s))] (λY h=>?_) (by rw[cI];omega) (λi x X F e c d=>?_) ?_
 .have O:nR ((List.range (lP al.length+1)).map λj=>lS (SL C al (s+j))) none (some (-1))=(List.range (lP al.length)).map λj=>lS (SL C al (s+j)):=by
   rw[hX,aO];exact AE _ _
  rw[<- O] at h;exact⟨rfl,h⟩
 .have a:x<lP al.length:=cZ.mp (aR e);exact⟨rfl,C,al,s,s+x,rfl,q,by omega,.inr rfl,c,d⟩
 .refine⟨(List.range (lP al.length)).map λj=>decide (tL C al s (s+j) (1+mx (SL C al (s+j+1)))),by have:=Kl ((List.range (lP al.length)).map λj=>decide (tL C al s (s+j) (1+mx (SL C al (s+j+1)))));rwa [bC] at this,?_⟩;refine u _ (λV=>?_) λQ=>?_
  .refine BN z λk k1 k2=>⟨1+mx (SL C al (k+1)),λx a=>by have:=wO a;omega,by have:=uW (SL C al (k+1));omega,?_⟩
   have:=dY.mp V (decide (tL C al s (s+(k-s)) (1+mx (SL C al (s+(k-s)+1))))) (aD.mpr ⟨k-s,cZ.mpr (by omega),rfl⟩);rw[show s+(k-s)=k by omega] at this;exact eI this
  .refine dY.mpr λx a=>?_
   obtain⟨j,U,rfl⟩:=aD.mp a;exact cG (DA z m Q (by omega) (by have:=uW (SL C al (s+j+1));omega))
theorem Qv:FnScope ["row","ring","states"] ["row","ring"] (lU Et):=oJ
theorem EM (T:Txt I) (r:Kn P w K I base 1 "at_edges" zW ["row"] G1) (g:Kn P w K I base 2 "one_cell_more" xS ["row","state"] Eh) (p:Kn P w K I base 4 "are_steady" Ch ["row","states"] O8) :
  oI P w K I base 5 "steady_from" Et ["row","ring"] Pq:=by
 refine oU Qv λf M A G s H E U ds Y B W S=>?_
 obtain⟨C,al,rfl,d,F⟩:=S;refine⟨_,(hH (lG 2 Qv.nd (nX (dK (lV r B (dK (eH 0) dT)) dT))) (hH (xA dB (G7 (DY (uD Xx FN (mT nM nN T.len bD (nW (pv 2) dT)) (eH 1)) (DX (Um (Rw (lV p B (dK (eH 0) (dK (tH sZ tQ (pv 2) (sF (nS sG vB (vH gV) (eH 1))) uC) dT)))))))) (lY (rL (pW aZ bL bM pT rK (pv 2) (dK (lV g B (dK (eH 0) (dK (lA W 2 (vH gV)) dT))) dT))))) (lY (nO (nS sG vB (nS sG vB (mT nM nN T.len bD (nW (pv 2) dT)) gV) (eH 1)))))),?_⟩;have R:=d.la;have Q:=d.good.lg;have J:=A5 al.length;have L:=wW al.length;refine lC (λa=>a=[.v (lX C al),.v (.int (lP al.length:Nat)),.o (tK C al 0 1)]) (λN t=>?_) ?_
 .refine⟨C,al,rfl,by omega,.inl rfl,by show 1<=1000;decide,t _ ?_⟩;have:D.l (List.replicate (al.length+1) (D.int 0))=lS (SL C al 0):=by
   rw[<- GN];unfold qD Cr lM;rw[bC,List.replicate_succ']
   congr 2
   generalize al=q;induction q with
   | nil=>rfl
   | cons x q X=>rw[bY,cB,X];rfl
  rw[this];rfl
 rintro _ rfl;refine lC (λa=>∃ s:Nat,s<=7000/\Cs C al s/\a=[.v (lX C al),.v (.int (lP al.length:Nat)),.o (tK C al 0 (s+lP al.length+1))]) (λN t=>?_) ?_
 .refine Ey 7900 (λa=>match a with | [_,_,.o (.l q)]=>q.length-1 | _=>0) (λn a=>n<=7000+lP al.length/\a=[.v (lX C al),.v (.int (lP al.length:Nat)),.o (tK C al 0 (n+1))]) (λn a h=>?_) 0 ⟨by omega,rfl⟩ λn a Z h c=>?_
  .rw[h.2];show ((List.range (n+1)).map _).length-1=n;simp
  obtain⟨hn,rfl⟩:=h;have app:tK C al 0 (n+1+1) = .l (((List.range (n+1)).map λj=>lS (SL C al (0+j)))++[lS (nx C al (SL C al (0+n)))]):=by
   unfold tK;rw[hX (n:=n+1),aO,Ie];simp
  have len:((List.range (n+1)).map λj=>lS (SL C al (0+j))).length=n+1:=by simp
  have k:=F7 (C:=C) (al:=al) R (0+n);refine⟨rfl,rfl,_,rfl,?_⟩;show if decide ((((List.range (n+1)).map λj=>lS (SL C al (0+j))).length:Int)<=((lP al.length:Nat):Int))=true then _ else _
  rw[len];by_cases i:((n+1:Nat):Int)<=((lP al.length:Nat):Int)
  .refine zN i ?_;refine⟨rfl,rfl,_,zZ _ n,C,al,_,rfl,d,pF _,k,.inl rfl,by show ((List.range (n+1)).map _).length<100000;simp;omega,?_⟩;exact c (by omega) _ ⟨by omega,by rw[app];rfl⟩
  .refine Au i ?_;obtain⟨m,rfl⟩:∃ m,n=m+lP al.length:=⟨n-lP al.length,by omega⟩;have O:D.l (nR ((List.range (m+lP al.length+1)).map λj=>lS (SL C al (0+j))) (some (-1-((lP al.length:Nat):Int))) none)=tK C al m (lP al.length+1):=by
    rw[Y9];simp[tK]
   refine⟨rfl,C,al,m,by rw[<- O],d,by omega,λb u y=>⟨.inl rfl,rfl,_,rfl,?_⟩⟩;cases b with
   | true=>exact t _ ⟨m,by omega,u rfl,rfl⟩
   | false =>
    have m7:m<7000:=cK λz=>by have:=y (by omega);cases this
    refine⟨rfl,rfl,_,zZ _ (m+lP al.length),C,al,_,rfl,d,pF _,k,.inl rfl,by show ((List.range (m+lP al.length+1)).map _).length<100000;simp;omega,?_⟩;exact c (by omega) _ ⟨by omega,by rw[app];rfl⟩
 rintro _ ⟨s,V,st,rfl⟩;refine⟨rfl,rfl,_,rfl,?_⟩;have e:((((List.range (s+lP al.length+1)).map λj=>lS (SL C al (0+j))).length:Nat):Int)-1-((lP al.length:Nat):Int)=(s:Nat):=by
  rw[aB,cI];omega
 show Y (.v (.int (((((List.range (s+lP al.length+1)).map λj=>lS (SL C al (0+j))).length:Nat):Int)-1-((lP al.length:Nat):Int))));rw[e];exact F s V st
end
structure Told (L:Nat->Int) (count ring:Nat) (a:Int):Prop where
 r1:1<=ring
 rc:ring<=count
 a0:0<=a
 grow:∀ k,count<k->L k=L (k-ring)+a
 edge:ring<count->L count≠L (count-ring)+a
 least:∀ (q K:Nat) (c:Int),1<=q->q<ring->count<K+ring->(∀ k,K<=k->k<K+ring->L (k+q)-L k=c)->False
theorem Vp {W:Nat}(g:0<W) (l:∀ k,s<=k->L (k+W)=L k+y) (I:1<=r) (j:∀ k,s<=k->k<s+W->L (k+r)-L k=a)
  (min:∀ q,1<=q->q<r->∀ c,¬ ∀ k,s<=k->k<s+W->L (k+q)-L k=c) (mono:L s<=L (s+r)) (o:r<=count) (J:count<=s+r) (p:∀ k,count<k->k<=s+r->L k=L (k-r)+a) (C:r<count->L count≠L (count-r)+a):Told L count r a:=by
 have b:=Rz g l j;have grow:∀ k,count<k->L k=L (k-r)+a:=λk e=>by
  by_cases z:k<=s+r
  .exact p k e z
  .have:=b (k-r) (by omega)
   rwa [show k-r+r=k by omega] at this
 refine⟨I,o,?_,grow,C,λq K c i m n f=>?_⟩
 .have:=j s (aJ _) (by omega);omega
 .have d:∀ k,K<=k->L (k+r)=L k+a:=λk e=>by
   have:=grow (k+r) (by omega)
   rwa [show k+r-r=k by omega] at this
  have:=DZ g l (show 0<r by omega) d f;exact min q i m c λk h _=>by have:=this k h;omega
def Pn:RD:=λd b c=>∃ (C:Cel) (al:Aa (Af×Af)),b=[lX C al]/\GoodRow C al/\∀ (count ring:Nat) (a:Int),Told (lM C al) count ring a->count<=7012->ring<=12->c (.v (.t [.t ((List.range count).map λi=>D.int (lM C al (i+1))),.int ring,.int a]))
theorem BX (h:Cs C al s) (k:Nat) (g:s<=k):lM C al (k+lP al.length)=lM C al k+vL (nC C al s) al.length:=by
 have:=h k g al.length
 rwa [Bt,Bt] at this
theorem R0 (g:al.length<=4) (h:k<=l):lM C al k<=lM C al l:=by
 have:=Ik (C:=C) g al.length h
 rwa [Bt,Bt] at this
def pN (L:Nat->Int) (s W q:Nat):Aa Int:=if q=0 then [] else (List.range W).map λj=>L (s+j+q)-L (s+j)
theorem Iu {W:Nat}(g:0<W):wM (pN L s W q)↔q≠0/\∃ c,∀ k,s<=k->k<s+W->L (k+q)-L k=c:=by
 unfold pN wM;by_cases a:q=0
 .rw[bE a];exact⟨λh=>absurd rfl h.1,λh=>absurd a h.1⟩
 .rw[bG a];constructor
  .rintro ⟨_,h⟩;refine⟨a,L (s+0+q)-L (s+0),λk i m=>?_⟩;have:=h (L (s+(k-s)+q)-L (s+(k-s))) (aD.mpr ⟨k-s,cZ.mpr (by omega),rfl⟩) (L (s+0+q)-L (s+0)) (aD.mpr ⟨0,cZ.mpr g,rfl⟩)
   rwa [show s+(k-s)=k by omega] at this
  .rintro ⟨_,c,h⟩;have e:∀ x∈(List.range W).map λj=>L (s+j+q)-L (s+j),x=c:=λx b=>by
    obtain⟨j,d,rfl⟩:=aD.mp b;have:=cZ.mp d;exact h (s+j) (by omega) (by omega)
   refine⟨λz=>?_,λx b y f=>by rw[e x b,e y f]⟩;have:=eA List.length z;simp at this;omega
theorem Ex (f:Nat->D) (h:i<=w):mF ((List.range (w+1)).map f) ((i:Nat):Int)=some (f i):=pQ (by rw[bK,iR (by omega)];rfl)
theorem AI (f:Nat->D) (h:n<=m):nR ((List.range (m+1)).map f) (some 1) (some (((n:Nat):Int)+1))=(List.range n).map λi=>f (i+1):=by
 have a:HT.sIx ((List.range (m+1)).map f).length 0 (some 1)=1:=by
  have:=HT.sIx_nat ((List.range (m+1)).map f).length 0 1;rw[aB,cI] at this |-;rw[show ((1:Nat):Int)=1 from rfl] at this;rw[this];omega
 have b:HT.sIx ((List.range (m+1)).map f).length ((List.range (m+1)).map f).length (some (((n:Nat):Int)+1))=n+1:=by
  have:=HT.sIx_nat ((List.range (m+1)).map f).length ((List.range (m+1)).map f).length (n+1);rw[show (((n+1:Nat)):Int)=((n:Nat):Int)+1 by omega] at this;rw[this,aB,cI];omega
 unfold nR;rw[a,b];apply gJ
 .simp;omega
 .intro i p q;simp
def qW (L:Nat->Int) (w:Nat):D:=.l ((List.range (w+1)).map λi=>D.int (L i))
abbrev tA (C:Cel) (al:Aa (Af×Af)) (st lt ad j g:Sl):Aa Sl:=[.v (lX C al),.v (.int (lP al.length:Nat)),st,lt,ad,j,g]
theorem Zm:(["at","lates","ring"]:Aa Af).Nodup:=by decide +kernel
section
variable {P:Ah}{K:kY}
theorem tV:FnScope ["row","whole","start","lates","added","ring","count"] ["row"] (lU B5):=oJ
theorem Zx (T:Txt U) (g:Kn P w K U base 1 "common_ring" C0 ["count"] Lg) (I:Kn P w K U base 5 "steady_from" Et ["row","ring"] Pq) (J:Kn P w K U base 3 "lates_to" As ["row","width"] Jm) :
  oI P w K U base 6 "ways" B5 ["row"] Pn:=by
 refine oU tV λf ab A aa s H E dk ds Φ M O hR=>?_
 obtain⟨C,al,rfl,X,S⟩:=hR;refine⟨_,(hH (lG 1 tV.nd (lV g M (dK (mT nM nN T.len bD (dK (lA O 0 gV) dT)) dT))) (hH (lG 2 tV.nd (lV I M (dK (eH 0) (dK (eH 1) dT)))) (hH (lG 3 tV.nd (lV J M (dK (eH 0) (dK (mZ mO mL 2 (nS wC wG gV (eH 1))) dT)))) (hH (lG 4 tV.nd (nX dT)) (hH (lG 5 tV.nd gV) (hH (xA dB (uD (wZ M.units) (sP true) (Zv (i:=4) (rG X4 (by rfl) T.len bD (lB (Cp (AJ rfl) (by rfl) T.set PyProof.Rows.boot_set (lB (pv 4) lI)) lI)) (λ_ _ _ ⟨v,hv,a,ns,e1,e2,e3,e4⟩=>⟨v,hv,a,ns,by rw[e1],e2,e3,λp np=>⟨p,_,rfl,lE,e4 p np⟩⟩)) gV) (hH (F6 (n:=5) tV.nd rfl (Or.inr rfl) gV Qg) (lY (Jc 4 ["at"] ["lates","ring"] [3,5] tV.nd (Kh (by rfl) T.range (eH 2) (mZ mO mL 2 (eH 1))) (λ_ _ _ _ _=>(lQ 0 Zm)) (λ_ _ _ _ _=>(nS sG vB (lA O 1 (mZ mO mL 0 (eH 2))) (lA O 1 (eH 0)))))))) (hH (lG 6 tV.nd (mZ mO mL 2 (eH 5))) (hH (xA dB (G7 (Rm (vX Cn Ds (pv 6) (eH 5)) (Rq (uD (zR M.units) (sP false) (lA O 3 (eH 6)) (nS mO mL (lA O 3 (mZ sG vB 6 (eH 5))) (lA O 4 gV)))))) (lY (F6 (n:=6) tV.nd rfl (Or.inl rfl) gV GC))) (lY (nO (mY (dK (nL oX pH T.tuple bH (dK (tH sZ tQ (pv 3) (sF gV) (sF (mZ mO mL 6 gV))) dT)) (dK (eH 5) (dK (lA O 4 gV) dT)))))))))))))),?_⟩;have h4:=X.la;have ac:=X.good.lg;have c1:=A5 al.length;have Z:=wW al.length;refine lC (λd=>d=tA C al .n .n .n .n .n) (λN u=>?_) ?_
 .refine⟨rfl,_,rfl,rfl,_,rfl,al.length,by show [D.int ((al.map mV).length:Nat)]=_;rw[aB],by omega,.inl rfl,u _ rfl⟩
 rintro _ rfl;refine⟨C,al,rfl,X,λs hs st=>⟨.inl rfl,?_⟩⟩;have y:=BX st;dsimp only;obtain⟨W,hW⟩:∃ W,W=lP al.length:=⟨_,rfl⟩;rw[<- hW] at c1 Z y;obtain⟨L,hL⟩:∃ L,L=lM C al:=⟨_,rfl⟩;have mono:∀ {k l:Nat},k<=l->L k<=L l:=λh=>by rw[hL];exact R0 h4 h
 rw[<- hL] at y S;refine lC (λd=>d=tA C al (.v (.int s)) (.o (qW L (s+2*W))) .n .n .n) (λN u=>?_) ?_
 .refine⟨rfl,.inl ⟨by decide,by decide⟩,C,al,s+2*W,by rw[hW];rfl,X,by omega,.inl rfl,u _ (by rw[hL];rfl)⟩
 rintro _ rfl;refine lC (λd=>d=tA C al (.v (.int s)) (.o (qW L (s+2*W))) (.o (lS [])) .n .n) (λN u=>⟨by show 0<=1000;decide,u _ rfl⟩) ?_;rintro _ rfl;refine lC (λd=>d=tA C al (.v (.int s)) (.o (qW L (s+2*W))) (.o (lS [])) (.v (.int 0)) .n) (λN u=>u _ rfl) ?_;rintro _ rfl;refine lC (λd=>∃ r:Nat,r<=W/\wM (pN L s W r)/\(∀ q,q<r->¬ wM (pN L s W q))/\d=tA C al (.v (.int s)) (.o (qW L (s+2*W))) (.o (lS (pN L s W r))) (.v (.int r)) .n) (λN u=>?_) ?_
 .refine Ey 13 (λd=>match d with | [_,_,_,_,_,.v (.int r),_]=>r.toNat | _=>0) (λr d=>r<=W/\(∀ q,q<r->¬ wM (pN L s W q))/\d=tA C al (.v (.int s)) (.o (qW L (s+2*W))) (.o (lS (pN L s W r))) (.v (.int r)) .n) (λr d h=>?_) 0 ⟨by omega,λq Y=>absurd Y (by omega),rfl⟩ λr d N2 h G=>?_
  .rw[h.2.2];show (((r:Nat):Int)).toNat=r;omega
  obtain⟨M,Y,rfl⟩:=h;refine⟨pN L s W r,rfl,?_,λm hm=>?_⟩
  .unfold pN;split
   .simp
   .simp;omega
  show if (nb true (decide ((m:Int)=1)))=true then _ else _
  by_cases h1:(m:Int)=1
  .rw[cG h1];exact u _ ⟨r,M,hm.mp (by omega),Y,rfl⟩
  .rw[cF h1];have B:¬ wM (pN L s W r):=λz=>h1 (by have:=hm.mpr z;omega)
   have rW:r<W:=cK λz=>B ((Iu (by omega)).mpr ⟨by omega,vL (nC C al s) al.length,λk k1 _=>by
    have:=y k k1;rw[show r=W by omega,this];omega⟩)
   rw[bE (show nb true false=true from rfl)];refine lC (λd=>d=tA C al (.v (.int s)) (.o (qW L (s+2*W))) (.o (lS (pN L s W r))) (.v (.int ((r+1:Nat):Int))) .n) (λN u=>u _ rfl) ?_;rintro _ rfl;have ew:(((s:Nat):Int)+((lP al.length:Nat):Int)-((s:Nat):Int)).toNat=W:=by rw[hW];omega
   unfold qR;refine nT (List.range W) (λj=>.int (((s:Nat):Int)+(j:Nat))) (λj=>.int (L (s+j+(r+1))-L (s+j))) (tA C al (.v (.int s)) (.o (qW L (s+2*W))) (.o (lS (pN L s W r))) (.v (.int ((r+1:Nat):Int))) .n) (λΨ h=>⟨rfl,⟨by omega,by omega,by omega,by omega⟩,by rw[ew];exact h⟩) (by rw[cI];omega) (λi x F Nx e g1 g2=>?_) ?_
   .have hx:x<W:=cZ.mp (aR e);have V:=Ex (λi=>D.int (L i)) (w:=s+2*W) (i:=s+x+(r+1)) (by omega);have R:=Ex (λi=>D.int (L i)) (w:=s+2*W) (i:=s+x) (by omega);have q1:((s:Nat):Int)+(x:Nat)+((r+1:Nat):Int)=((s+x+(r+1):Nat):Int):=by omega
    have q2:((s:Nat):Int)+(x:Nat)=((s+x:Nat):Int):=by omega
    rw[<- q1] at V;rw[<- q2] at R;exact⟨rfl,rfl,_,V,rfl,_,R,g1,g2⟩
   .refine G (by omega) _ ⟨by omega,λq ae=>?_,?_⟩
    .by_cases z:q=r
     .rw[z];exact B
     .exact Y q (by omega)
    .have:pN L s W (r+1)=(List.range W).map λj=>L (s+j+(r+1))-L (s+j):=by
      unfold pN;rw[bG (by omega)]
     have e2:lS (pN L s W (r+1)) = .l ((List.range W).map λj=>D.int (L (s+j+(r+1))-L (s+j))):=by
      rw[this];show D.l (((List.range W).map λj=>L (s+j+(r+1))-L (s+j)).map D.int)=_;rw[bC];rfl
     rw[e2];rfl
 rintro _ ⟨r,rW,one,Q,rfl⟩;obtain⟨r0,a,ha⟩:=(Iu (by omega)).mp one;obtain⟨F,hz⟩:∃ F,pN L s W r=a::F:=by
  cases e:pN L s W r with
  | nil=>rw[e] at one;exact absurd rfl one.1
  | cons b F =>
   refine⟨F,?_⟩;have:b∈pN L s W r:=by rw[e];exact aE
   unfold pN at this;rw[bG r0] at this;obtain⟨j,hj,rfl⟩:=aD.mp this;have:=cZ.mp hj;rw[ha (s+j) (by omega) (by omega)]
 rw[hz];refine lC (λd=>d=tA C al (.v (.int s)) (.o (qW L (s+2*W))) (.o (lS (a::F))) (.v (.int r)) (.v (.int ((s+r:Nat):Int)))) (λN u=>⟨rfl,u _ rfl⟩) ?_;rintro _ rfl;refine lC (λd=>∃ n:Nat,r<=n/\n<=s+r/\(∀ k,n<k->k<=s+r->L k=L (k-r)+a)/\(r<n->L n≠L (n-r)+a)/\d=tA C al (.v (.int s)) (.o (qW L (s+2*W))) (.o (lS (a::F))) (.v (.int r)) (.v (.int n))) (λN u=>?_) ?_
 .refine Ey 8000 (λd=>match d with | [_,_,_,_,_,_,.v (.int c)]=>s+r-c.toNat | _=>0) (λi d=>i<=s/\(∀ k,s+r-i<k->k<=s+r->L k=L (k-r)+a)/\d=tA C al (.v (.int s)) (.o (qW L (s+2*W))) (.o (lS (a::F))) (.v (.int r)) (.v (.int ((s+r-i:Nat):Int)))) (λi d h=>?_) 0 ⟨by omega,λk k1 k2=>absurd k2 (by omega),by rfl⟩ λi d N2 h G=>?_
  .rw[h.2.2];show s+r-(((s+r-i:Nat):Int)).toNat=i;have:=h.1;omega
  obtain⟨hi,hk,rfl⟩:=h;refine⟨rfl,?_⟩;show if decide (((r:Nat):Int)<((s+r-i:Nat):Int))=true then _ else _
  by_cases lt:((r:Nat):Int)<((s+r-i:Nat):Int)
  .refine zN lt ?_;have V:=Ex (λi=>D.int (L i)) (w:=s+2*W) (i:=s+r-i) (by omega);have R:=Ex (λi=>D.int (L i)) (w:=s+2*W) (i:=s+r-i-r) (by omega);rw[show ((s+r-i-r:Nat):Int)=((s+r-i:Nat):Int)-((r:Nat):Int) by omega] at R;refine⟨rfl,_,V,rfl,rfl,_,R,rfl,_,pQ (j:=0) rfl,?_⟩;show if (nb false (decide (L (s+r-i)=L (s+r-i-r)+a)))=true then _ else _
   by_cases eq:L (s+r-i)=L (s+r-i-r)+a
   .rw[cG eq];refine G (by omega) _ ⟨by omega,λk k1 k2=>?_,?_⟩
    .by_cases z:k=s+r-i
     .rw[z];exact eq
     .exact hk k (by omega) k2
    .have:(((s+r-i:Nat):Int))-1=((s+r-(i+1):Nat):Int):=by omega
     rw[<- this];rfl
   .rw[cF eq];exact u _ ⟨s+r-i,by omega,by omega,hk,λ_=>eq,rfl⟩
  .refine Au lt ?_;exact u _ ⟨s+r-i,by omega,by omega,hk,λz=>absurd z (by omega),rfl⟩
 rintro _ ⟨n,n1,n2,n3,n4,rfl⟩;have T':Told L n r a:=Vp (show 0<W by omega) y (by omega) ha (λq q1 q2 c hc=>Q q q2 ((Iu (by omega)).mpr ⟨by omega,c,hc⟩)) (mono (by omega)) n1 n2 n3 n4;have ec:nR ((List.range (s+2*W+1)).map λi=>D.int (L i)) (some 1) (some (((n:Nat):Int)+1))=(List.range n).map λi=>D.int (L (i+1)):=AI _ (by omega)
 refine⟨rfl,rfl,?_⟩;refine⟨rfl,_,pQ (j:=0) rfl,by show 3<=1000;decide,?_⟩;show Φ (.v (.t [.t (nR ((List.range (s+2*W+1)).map λi=>D.int (L i)) (some 1) (some (((n:Nat):Int)+1))),.int r,.int a]));rw[ec];exact S n r a T' (by omega) (by omega)
end
theorem Ij:∀ (j:nI) (t:oD),∃ u,j.foldl sY t=t++u
 | [],t=>⟨[],by simp⟩
 | g::j,t=>by
  obtain⟨u,a⟩:=Ij j (sY t g);exact⟨_,by rw[fY,a,sY,bI]⟩
theorem Pd {f:Af->Int}:∀ {g:Aa Af}{x:Af},x∈g->look (g.map λn=>(n,f n)) x=f x
 | y::g,x,h=>by
  rw[aY,sS];by_cases e:y=x
  .rw[bE e,e]
  .rw[bG e];rcases aF.mp h with q | q
   .exact absurd q.symm e
   .exact Pd q
theorem Qn (h:x∈ins):look (tbl ins g c) x=c x:=by
 obtain⟨u,a⟩:=Ij g (ins.map λn=>(n,c n));unfold tbl;rw[a,Gi (by simpa [cX] using h),Pd h]
theorem Py (l:(ins++j.map (·.1)).Nodup) (ok:oB ins j) (p:g∈j):look (tbl ins j c) g.1=mx (g.2.2.map λo=>1+look (tbl ins j c) o):=by
 obtain⟨i,h,rfl⟩:=cR p;have e:j=j.take i++j[i]::j.drop (i+1):=by rw[List.getElem_cons_drop,cJ]
 obtain⟨_,d⟩:=vN ok (aG h);have f:=F4 ins (j.take i) c;obtain⟨u,k⟩:=Ij (j.drop (i+1)) (sY (tbl ins (j.take i) c) j[i]);have a:tbl ins j c=tbl ins (j.take i) c++[(j[i].1,mx (j[i].2.2.map λo=>1+look (tbl ins (j.take i) c) o))]++u:=by
  have:tbl ins j c=(j.drop (i+1)).foldl sY (sY (tbl ins (j.take i) c) j[i]):=by
   conv=>lhs;rw[e]
   unfold tbl;rw[iD,fY]
  rw[this,k];rfl
 have new:j[i].1∉(tbl ins (j.take i) c).map (·.1):=by
  rw[f];intro q;rw[e,aO,<- bI] at l;exact (bN.mp l).2.2 j[i].1 q j[i].1 (by rw[aY];exact aE) rfl
 have same:∀ o∈j[i].2.2,look (tbl ins j c) o=look (tbl ins (j.take i) c) o:=λo b=>by
  rw[a,bI,Gi (by rw[f];exact d o b)]
 rw[a,Gi (by simp),W1 new,<- a]
 congr 1
 exact gI λo b=>by rw[same o b]
theorem Vr {ins:Aa Af}{j:nI}(ok:oB ins j){Q:Af->Prop}(l:∀ x∈ins,Q x) (p:∀ g∈j,(∀ o∈g.2.2,Q o)->Q g.1):∀ x∈ins++j.map (·.1),Q x:=by
 have go:∀ i,i<=j.length->∀ x∈(j.take i).map (·.1),Q x:=by
  intro i;induction i with
  | zero=>intro _ x a;simp at a
  | succ i b =>
   intro h x a;have e:j[i]?=some j[i]:=aG (by omega);rw[bX,e,aO] at a;rcases aV.mp a with q | q
   .exact b (by omega) x q
   .have:x=j[i].1:=by simpa using q
    rw[this];refine p _ (dX _) λo c=>?_
    rcases aV.mp ((vN ok e).2 o c) with z | z
    .exact l o z
    .exact b (by omega) o z
 intro x a;rcases aV.mp a with q | q
 .exact l x q
 .have:=go j.length (aJ _);rw[aQ (aJ _)] at this;exact this x q
theorem R9 (h:a.Perm b):mx a=mx b:=wS ((xZ a).imp id λz=>h.mem_iff.mp z) (uW a) λx c=>wO (h.mem_iff.mpr c)
theorem Ws (g:0<=m) (a:Aa Int):mx (a.map λx=>m*x)=m*mx a:=by
 refine (wS ?_ (iI g (uW a)) λx b=>?_).symm
 .rcases xZ a with e | e
  .rw[e];simp
  .exact .inr (aD.mpr ⟨_,e,rfl⟩)
 .obtain⟨y,c,rfl⟩:=aD.mp b;exact bU (wO c) g
theorem Mh (j:(al.map (·.2)).Nodup) (g:p∈al):look (rD al t) p.2=look t p.1:=by
 induction al with
 | nil=>cases g
 | cons q al a =>
  show look ((q.2,look t q.1)::rD al t) p.2=_;rw[sS];rcases aF.mp g with e | e
  .rw[e,bE rfl]
  .have:¬ q.2=p.2:=λz=>(bW.mp j).1 (by rw[show (λx:Af×Af=>x.2) q=q.2 from rfl,z];exact aD.mpr ⟨p,e,rfl⟩)
   rw[bG this];exact a (bW.mp j).2 e
theorem Ld (h:x∉al.map (·.2)):look (rD al t) x=0:=by
 induction al with
 | nil=>rfl
 | cons q al a =>
  show look ((q.2,look t q.1)::rD al t) x=_;rw[sS,bG λz=>h (by rw[aY,<- z];exact aE)];exact a λz=>h (aK _ z)
theorem P6 (al:Aa (Af×Af)) (x:Af):look (al.map λp=>(p.2,(0:Int))) x=0:=by
 induction al with
 | nil=>rfl
 | cons q al a =>
  rw[aY,sS];split
  .rfl
  .exact a
structure Sim (φ:Str->Str) (m:Int) (C:Cel) (al:List (Str×Str)) (C':Cel) (al':List (Str×Str)):Prop where
 m0:0<=m
 inj:∀ x∈C.names,∀ y∈C.names,φ x=φ y->x=y
 ins:∀ x∈C.ins,φ x∈C'.ins
 gate:∀ v:Str->Int,(∀ g∈C'.gates,v g.1=mx (g.2.2.map λo=>1+v o))->∀ g∈C.gates,∀ w:Str->Int,(∀ o∈g.2.2,0<=w o/\v (φ o)=m*w o)->v (φ g.1)=m*mx (g.2.2.map λo=>1+w o)
 outs:C'.outs.Perm (C.outs.map φ)
 al:al'.Perm (al.map λp=>(φ p.1,φ p.2))
section
variable {φ:Af->Af}{m:Int}{C C':Cel}{al al':Aa (Af×Af)}
theorem Sim.tbl (S:Sim φ m C al C' al') (G:GoodRow C al) (j:GoodRow C' al') (p:∀ x,0<=c x) (h:∀ x∈C.ins,l (φ x)=m*c x):∀ x∈C.names,look (Lw.tbl C'.ins C'.gates l) (φ x)=m*look (Lw.tbl C.ins C.gates c) x :=
 Vr G.good.gt (λx d=>by rw[Qn (S.ins x d),Qn d,h x d]) λg e f=>by
  rw[Py G.good.nd G.good.gt e];exact S.gate _ (λi a=>Py j.good.nd j.good.gt a) g e _ λo b=>⟨Ea p o,f o b⟩
theorem Sim.cr (S:Sim φ m C al C' al') (G:GoodRow C al) (g:GoodRow C' al'):∀ (k:Nat),∀ x∈C.ins,look (Cr C'.ins C'.gates al' k) (φ x)=m*look (Cr C.ins C.gates al k) x
 | 0,x,d=>by
  show look (al'.map λp=>(p.2,(0:Int))) _=m*look (al.map λp=>(p.2,(0:Int))) x;rw[P6,P6,Int.mul_zero]
 | k+1,x,d=>by
  have T:=S.tbl G g (Dh k) (S.cr G g k);show look (rD al' _) (φ x)=m*look (rD al _) x;have c:x∈C.names:=aM _ d;by_cases z:x∈al.map (·.2)
  .obtain⟨p,a,rfl⟩:=aD.mp z;rw[Mh G.n2 a,Mh (p:=(φ p.1,φ p.2)) g.n2 (S.al.mem_iff.mpr (aD.mpr ⟨p,a,rfl⟩))];exact T p.1 (G.good.os _ (G.mem p a).1)
  .rw[Ld z,Ld,Int.mul_zero];intro q;obtain⟨f,b,e⟩:=aD.mp q;obtain⟨p,a,rfl⟩:=aD.mp (S.al.mem_iff.mp b);have:=S.inj p.2 (aM _ (G.mem p a).2) x c e;exact z (aD.mpr ⟨p,a,this⟩)
theorem Sim.late (S:Sim φ m C al C' al') (G:GoodRow C al) (g:GoodRow C' al'):∀ k,lM C' al' k=m*lM C al k
 | 0=>by show (0:Int)=m*0;rw[Int.mul_zero]
 | k+1=>by
  have T:=S.tbl G g (Dh k) (S.cr G g k);show mx (C'.outs.map _)=m*mx (C.outs.map _);rw[R9 (S.outs.map _),<- Ws S.m0,bC,bC]
  congr 1
  exact gI λo a=>T o (G.good.os o a)
end
theorem Told.ring_le {L:Nat->Int}{l g o r:Nat}{j C:Int}(p:Told L l g j) (I:Told L o r C):r<=g:=Nat.le_of_not_lt λz =>
 I.least g (l+o+1) j p.r1 z (by omega) λk a _=>by
  have:=p.grow (k+g) (by omega);rw[show k+g-g=k by omega] at this;omega
theorem Told.uniq {L:Nat->Int}{g C j I:Nat}{p r:Int}(l:Told L g C p) (o:Told L j I r):g=j/\C=I/\p=r:=by
 have b:C=I:=kD (o.ring_le l) (l.ring_le o);subst b;have a:p=r:=by
  have g1:=l.grow (g+j+1) (by omega);have g2:=o.grow (g+j+1) (by omega);omega
 subst a;refine⟨?_,rfl,rfl⟩;have c:=l.rc;have d:=o.rc;rcases Nat.lt_trichotomy g j with z | z | z
 .exact absurd (l.grow j z) (o.edge (by omega))
 .exact z
 .exact absurd (o.grow g z) (l.edge (by omega))
theorem Told.twice (h:Told L c r a):Told (λk=>2*L k) c r (2*a) :=
 ⟨h.r1,h.rc,by have:=h.a0;omega,λk i=>by have:=h.grow k i;show 2*L k=2*L (k-r)+2*a;omega,λz e=>h.edge z (by have e:2*L c=2*L (c-r)+2*a:=e;omega),λq K b s t f d =>
  h.least q K (L (K+q)-L K) s t f λk m n=>by
   have u:2*L (k+q)-2*L k=b:=d k m n;have v:2*L (K+q)-2*L K=b:=d K (aJ _) (by have:=h.r1;omega);omega⟩
end Lw
namespace L2
open PySem PySem.Spec PyProof.Rows Lw
section
variable {X:Cx}{K:kY}
def Ln (K:kY) (neg:Bool):R2:=λx y H Q=>Be neg x y H Q\/Ep K neg x y H Q
theorem EJ (g:X.A.units+64<cLine):mC X (compareOp .NotEq) (Ln X.K true):=(show mC X (compareOp .NotEq) (Be true) from Q9).or (Qz g)
def Yu (neg:Bool):O2:=λd e a=>match d,e with
 | .int i,.int j=>a (.v (.b (nb neg (decide (i=j)))))
 | .str i,.str j=>a (.v (.b (nb neg (decide (i=j)))))
 | .b i,.b j=>a (.v (.b (nb neg (decide (i=j)))))
 | .e,.int _=>a (.v (.b (nb neg false)))
 | .l c,.l []=>a (.v (.b (nb neg c.isEmpty)))
 | _,_=>False
theorem V6 (neg:Bool):oZ K (Ln K neg) (Yu neg):=by
 intro B L H d e x y A Q hd h m f k;cases d<;>first | exact False.elim f | skip<;>cases e<;>first | exact False.elim f | skip
 .cases h;cases m
  rename_i j
  have c:decide (V.e=V.int j)=false:=by simp
  exact .inl ⟨rfl,by rw[c];exact k _ _ H f (hd.pushF (.b _))⟩
 .cases h;cases m
  rename_i i j
  have c:decide (V.b i=V.b j)=decide (i=j):=by simp
  exact .inl ⟨rfl,by rw[c];exact k _ _ H f (hd.pushF (.b _))⟩
 .cases h;cases m
  rename_i i j
  have c:decide (V.int i=V.int j)=decide (i=j):=by simp
  exact .inl ⟨rfl,by rw[c];exact k _ _ H f (hd.pushF (.b _))⟩
 .cases h;cases m
  rename_i i j
  have c:decide (V.str i=V.str j)=decide (i=j):=by simp
  exact .inl ⟨rfl,by rw[c];exact k _ _ H f (hd.pushF (.b _))⟩
 .rename_i v w
  cases w with
  | cons _ _=>exact False.elim f
  | nil =>
  obtain⟨a,n,rfl,q,t⟩:=h.lst_inv;obtain⟨b,z,rfl,s,u⟩:=m.lst_inv;cases u;have c:v.isEmpty=n.isEmpty:=by cases t<;>rfl
  refine .inr ⟨a,b,n,rfl,rfl,eT.of q,eT.of s,?_⟩;rw[<- c];exact k _ _ H f (hd.pushF (.b _))
end
end L2
namespace Lw
open PySem L2
def Qj:RD:=λf b h=>∃ (d c:Ad) (a:Aa D),f=[d,c]/\(b=[.r (.ref d),.l a]\/b=[.r (.ref d),.t a])/\a.length<=1000/\∀ e,e.Perm a->h (.v (.l e))
section
variable {P:Ah}{K:kY}
theorem Fq:FnScope ["deck","some","left","found"] ["deck","some"] (lU Cd):=oJ
theorem U9 (T:Txt p) (g:Kn P w K p base 1 "_law_take" uH ["deck","many"] Aq) :
  oI P w K p base 2 "_law_shuffled" Cd ["deck","some"] Qj:=by
 refine oU (hlen:=λM B V ⟨_,_,_,_,e,_⟩=>by rcases e with e | e<;>(rw[e];rfl)) Fq λf L A z s H E M B V F X O=>?_
 obtain⟨d,c,i,rfl,e,W,u⟩:=O;obtain⟨x,rfl,S⟩:∃ x,B=[.r (.ref d),x]/\(x = .l i\/x = .t i):=by
  rcases e with e | e
  .exact⟨_,e,.inl rfl⟩
  .exact⟨_,e,.inr rfl⟩
 refine⟨_,(hH (lG 2 Fq.nd (nL A3 Av T.list fP (dK (eH 1) dT))) (hH (lG 3 Fq.nd (nX dT)) (hH (xA dB (vX (EJ F.units) (V6 true) (pv 2) (nX dT)) (lY (rL (pW aZ bL bM pT rK (pv 3) (dK (pW aZ fU fV Bl B3 (pv 2) (dK (lV g F (dK (eH 0) (dK (mT nM nN T.len bD (nW (pv 2) dT)) dT))) dT)) dT))))) (lY (nO (eH 3)))))),?_⟩;refine lC (λb=>b=[.v (.r (.ref d)),.v x,.o (.l i),.n]) (λN m=>?_) ?_
 .rcases S with rfl | rfl
  .exact⟨_,rfl,m _ rfl⟩
  .exact⟨_,rfl,m _ rfl⟩
 rintro _ rfl;refine⟨by show 0<=1000;decide,?_⟩;dsimp only;refine lC (λb=>∃ (q:Aa D),b=[.v (.r (.ref d)),.v x,.o (.l []),.o (.l q)]/\q.Perm i) (λN m=>?_) ?_
 .refine⟨λb=>∃ left found:Aa D,b=[.v (.r (.ref d)),.v x,.o (.l left),.o (.l found)]/\(found++left).Perm i,λ(b:Aa Sl)=>match b[2]? with | some (Sl.o (D.l l))=>l.length | _=>0,⟨i,[],rfl,.refl _⟩,?_⟩;rintro b ⟨left,found,rfl,k⟩;have h:=k.length_eq;rw[bB] at h;refine⟨rfl,by show 0<=1000;decide,?_⟩;cases left with
  | nil=>exact m _ ⟨found,rfl,by simpa using k⟩
  | cons x left =>
   rw[bY] at h;refine⟨rfl,rfl,rfl,rfl,_,rfl,d,c,_,rfl,rfl,by show (0:Int)<((x::left).length:Nat);simp only[bY];omega,by show ((x::left).length:Int)<4611686018427387904;simp only[bY];omega,λj Q=>⟨.inr rfl,?_⟩⟩;have a:j<(x::left).length:=by have:(j:Int)<((x::left).length:Nat):=Q;omega
   obtain⟨y,G⟩:∃ y,(x::left)[j]?=some y:=⟨_,aG a⟩;have R:=List.length_eraseIdx_of_lt a;refine⟨j,y,by simp only[bY] at a;omega,by simp only[bY] at a;omega,Ct a,G,by show found.length<100000;omega,⟨(x::left).eraseIdx j,found++[y],rfl,?_⟩,?_⟩
   .rw[bI];exact ((Gn G).symm.append_left found).trans k
   .show ((x::left).eraseIdx j).length<(x::left).length;omega
 .rintro b ⟨q,rfl,k⟩;exact u q k
end
theorem oB.more:∀ {l:nI}{kn j:Aa Af},(∀ x∈kn,x∈j)->oB kn l->oB j l
 | [],_,_,_,_=>trivial
 | g::r,kn,j,h,ok=>⟨ok.1,λp a=>h p (ok.2.1 p a),oB.more (λx b=>by
  rcases aV.mp b with q | q
  .exact aM _ (h x q)
  .exact aP _ q) ok.2.2⟩
noncomputable def ren (f:Af->Af) (g:Af×Af×Aa Af):Af×Af×Aa Af:=(f g.1,g.2.1,g.2.2.map f)
theorem oB.ren (f:Af->Af):∀ {j:nI}{kn:Aa Af},oB kn j->oB (kn.map f) (j.map (Lw.ren f))
 | [],_,_=>trivial
 | g::r,kn,ok=>by
  refine⟨by show ArOk g.2.1 (g.2.2.map f).length;rw[aB];exact ok.1,λp a=>?_,?_⟩
  .obtain⟨q,b,rfl⟩:=aD.mp a;exact aD.mpr ⟨q,ok.2.1 q b,rfl⟩
  .have:=oB.ren f ok.2.2;rw[aO] at this;exact this
theorem pJ (h:x∈t.map (·.1)):yB (.k (lK t)) (.str x)=some (some (.str (eM t x))):=by
 show some (pZ (lK t) (Sum.inr x))=_;rw[(F8 t x).1 h]
theorem Oh:∀ {l:Aa Af}{g:Aa D},g.Perm (l.map D.str)->∃ j:Aa Af,j.Perm l/\g=j.map D.str:=by
 intro l g h;have key:∀ (g:Aa D),(∀ y∈g,∃ x:Af,y=D.str x)->∃ j:Aa Af,g=j.map D.str:=by
  intro g;induction g with
  | nil=>exact λ_=>⟨[],rfl⟩
  | cons y g c =>
   intro h;obtain⟨x,rfl⟩:=h y aE;obtain⟨j,rfl⟩:=c λz b=>h z (aK _ b)
   exact⟨x::j,rfl⟩
 obtain⟨j,rfl⟩:=key g λy a=>by
  obtain⟨x,_,rfl⟩:=aD.mp (h.mem_iff.mp a);exact⟨x,rfl⟩
 refine⟨j,?_,rfl⟩;have:=h.map (λd=>match d with | D.str x=>x | _=>("" : Af))
 simpa [cX] using this
theorem DP (h:g.Perm (l.map mV)):∃ j:Aa (Af×Af),j.Perm l/\g=j.map mV:=by
 have key:∀ (g:Aa D),(∀ y∈g,∃ x:Af×Af,y=mV x)->∃ j:Aa (Af×Af),g=j.map mV:=by
  intro g;induction g with
  | nil=>exact λ_=>⟨[],rfl⟩
  | cons y g c =>
   intro h;obtain⟨x,rfl⟩:=h y aE;obtain⟨j,rfl⟩:=c λz b=>h z (aK _ b)
   exact⟨x::j,rfl⟩
 obtain⟨j,rfl⟩:=key g λy a=>by
  obtain⟨x,_,rfl⟩:=aD.mp (h.mem_iff.mp a);exact⟨x,rfl⟩
 refine⟨j,?_,rfl⟩;have:=h.map (λd=>match d with | D.t [D.str x,D.str y]=>(x,y) | _=>(("" : Af),("" : Af)))
 simpa [cX,mV] using this
theorem Gx {n:Nat}{j:Aa Nat}{g:sK}{te:mB}{dk:Aa Ad}{Φ:Sl->Aa Sl->Prop}{α:Type}(T:Aa α) (I out:α->D) (p:Aa Sl) (hl:T.length<=100000)
  (hs:∀ (i:Nat) x (C:Aa D) (Nx:Aa D->Aa Sl->Prop),T[i]?=some x->C.length<100000->Nx (C++[out x]) (nK j p)->g (I x) (List.replicate n Sl.n++nK j p) λU=>te dk U λr aa=>match sd r with
   | some c=>C.length<100000/\Nx (C++[c]) (aa.drop n)
   | none=>False)
  (ac:Φ (.o (.l (T.map out))) (oP j (nK j p) p)):∃ Pv:Nat->Aa D->Aa Sl->Prop,Pv 0 [] (nK j p) /\
   (∀ i d C J,(T.map I)[i]?=some d->J.length=j.length->Pv i C J->g d (List.replicate n Sl.n++J) λU=>Gs dk U λb ab=>if b=true then te dk ab λr aa=>match sd r with
    | some c=>C.length<100000/\Pv (i+1) (C++[c]) (aa.drop n)
    | none=>False
    else Pv (i+1) C (ab.drop n)) /\
   ∀ C J,J.length=j.length->Pv (T.map I).length C J->Φ (.o (.l C)) (oP j J p) :=
 nT (ι:=λ_ _ a=>a (T.map I) p) (dk:=dk) (ρ:=[]) T I out p (λa h=>h) hl hs ac
end Lw
namespace L2
open PySem PySem.Spec PyProof.Rows Lw
section
variable {X:Cx}
def DB (K:kY) (g:TA):TE:=λi H Q=>g i H λh a=>∃ (e f:Bool) (l m:Ad) (b:Aa hI) (c:Aa V),h=[.ref l,.ref m]/\pK e K a l (b.map kV)/\pK f K a m c/\b.length<=1000/\∀ d,a d=none->Q (.ref d) (upd a d (.k (pC [] (b.zip c))))
theorem Y8 (j:X.calm=true) (hg:Gl X "dict") (hm:X.mg "dict" = none) (r:Gl X "zip") (C:X.mg "zip" = none) (ha:PA X [a,b] ta)
  (hs:starEach [a,b] X.env=(false,eval a X.env)::starEach [b] X.env:=by rfl) (J:(backTo g (starEach [b] X.env)).any (·.1)=false:=by rfl) :
  PE X (.Call (.Name "dict" p) [.Call (.Name "zip" p') [a,b] [] g] [] pos) (DB X.K ta):=by
 intro z s σ H Q I h;refine dO (tO I hg hm boot_dict ?_ (by decide) (by decide));refine bZ ?_ rfl rfl;show wpAny _ _ (spliced ((false,eval (.Call (.Name "zip" p') [a,b] [] g) X.env)::backTo pos (starEach [] X.env))) _ _ s;refine gX ?_;refine dO (tO I r C boot_zip ?_ (by decide) (by decide));refine bZ (hO (ha g z s σ H _ I h) λus B M=>?_) hs J;obtain⟨xs,H1,t,S,q1⟩:=M;obtain⟨b1,b2,l,m,c,E,rfl,hl,hv,hn,q⟩:=q1;obtain⟨Z,T,rfl,W,Y⟩:∃ Z T,us=[Z,T]/\lH (.ref l) Z/\lH (.ref m) T:=by
  cases S with | cons S V=>cases V with | cons V r3=>cases r3;exact⟨_,_,rfl,S,V⟩
 cases W;cases Y;obtain⟨N,r',R⟩:=t.seqB hl;obtain⟨f,A,n⟩:=t.seqB hv;refine Mg R n λD z1 z2 z3 z4 z5 z6 U=>?_
 refine jF ?_;have L1:=r'.length;have L2:=A.length;rw[aB] at L1;have F:=Gy c A;have O:l<B.heap.objs.size:=by obtain⟨_,e⟩:=yR R;exact aL e
 have P:m<B.heap.objs.size:=by obtain⟨_,e⟩:=yR n;exact aL e
 refine AD (knd:=oY X.prog X.w) (more:=c.zip f) (s:={ B with heap:=D }) (t.ok.hd j) (zipApart_new O P) z1 z2 z3 z4 z5 (pM R λo e=>U _ o e) (pM n λo e=>U _ o e) ?_ ?_ ?_ λh2 tk hD hk=>?_
 .rw[fN,aN,aN];omega
 .rw[fN];exact fE (cP (show min c.length f.length<=1000 by omega) (by decide))
 .intro i x y v G;have v:N[i]?=some x:=by simpa using v
  have G:f[i]?=some y:=by simpa using G
  obtain⟨hi,_⟩:=aT.mp v;obtain⟨u,hu,ru⟩:=r'.get (i:=i) (x:=kV (c[i]'(by omega))) (by simp[show i<c.length by omega]);rw[hu] at v;cases v;refine⟨c[i]'(by omega),xK ru,?_⟩;rw[iM];exact⟨aG _,G⟩
 .have L:(pC [] (c.zip E)).length<=sizeLine:=by
   have h1:=Dj (c.zip E) [];rw[fZ,fN] at h1;exact fE (cP (show (pC [] (c.zip E)).length<=1000 by omega) (by decide))
  have d:B.heap.objs.size<=D.objs.size:=by omega
  have kp:∀ b o,B.heap.get? b=some o->h2.get? b=some o:=λb o e=>hk b o (λq=>by
   have:=aL e;simp only[aF,bJ,dL] at q;rcases q with q | q | q | q<;>rw[q] at this<;>first | exact absurd this (cV _) | exact absurd this (kU.mpr (eR _ _))) (U b o e)
  refine⟨.ref D.objs.size,_,t.laid (a:=D.objs.size) (o:=.k (pC [] (c.zip E))) (t':=tk) kp d ?_,rfl,q _ (t.hok.fresh d)⟩;exact zP L (eD.mpr (cQ (bF (aW t.big d)))) (F.merge .nil) hD
end
section
variable {X:Cx}{K:kY}
def Ow:OC:=λf h=>match f with
 | [d1,d2]=>∃ d e b c a,uV d1=some (d,b)/\uV d2=some (e,c)/\vI b=some a/\a.length<=1000/\h (.o (.k (qY [] (a.zip c))))
 | _=>False
theorem Qk (e:uV d=some (b,j)) (r:mG K A H d v):∃ a g,v = .ref a/\pK b K H a g/\Reps K A H j g:=by
 cases d<;>first | cases e | skip
 .obtain⟨a,g,rfl,h,r⟩:=Rep.tup_inv r;exact⟨a,g,rfl,mA.of h,r⟩
 .obtain⟨a,g,rfl,h,r⟩:=r.lst_inv;exact⟨a,g,rfl,eT.of h,r⟩
theorem We:qF K (λC H Q=>∃ (o r:Bool) (l m:Ad) (g:Aa hI) (j:Aa V),C=[.ref l,.ref m]/\pK o K H l (g.map kV)/\pK r K H m j/\g.length<=1000/\∀ d,H d=none->Q (.ref d) (upd H d (.k (pC [] (g.zip j))))) Ow:=by
 intro B L H h C N Q hd f c k
 match h,c with
 | [d1,d2],c =>
  obtain⟨x,y,rfl,v,py⟩:=zF f;obtain⟨o,r,C,M,g,i,n,t,u,c⟩:=c;obtain⟨a,G,rfl,q,A⟩:=Qk i v;obtain⟨b,j,rfl,s,D⟩:=Qk n py;have e:=Px t A;subst e;obtain⟨E,F⟩:=Ii g D;obtain⟨w,z⟩:=C4 (kvs:=[]) (vs:=[]) E F rfl .nil;exact⟨o,r,a,b,g,j,rfl,q,s,u,λp f=>k _ _ _ c (hd.dKF f w z)⟩
theorem Ft (g:X.calm=true) (I:Gl X "dict") (J:X.mg "dict" = none) (l:Gl X "zip") (o:X.mg "zip" = none) (C:qM X [a,b] U)
  (T:starEach [a,b] X.env=(false,eval a X.env)::starEach [b] X.env:=by rfl) (r:(backTo j (starEach [b] X.env)).any (·.1)=false:=by rfl) :
  PD X (.Call (.Name "dict" p) [.Call (.Name "zip" p') [a,b] [] j] [] pos) (dC Ow U):=(Y8 g I J l o C T r).mono λ_ _ _ h=>Dm We h
end
end L2
namespace Lw
open PySem L2
def Nc:RD:=λe f h=>∃ (d c:Ad) (C:Cel) (al:Aa (Af×Af)),e=[d,c]/\f=[.r (.ref d),lX C al]/\GoodRow C al/\∀ (i:Af->Af) (b:Cel) (a:Aa (Af×Af)),GoodRow b a->Sim i 1 C al b a->h (.v (lX b a))
abbrev sq (g:Aa Af):D:=.l (g.map D.str)
abbrev rC (d:Ad) (C:Cel) (al:Aa (Af×Af)) (g j l o p I J:Sl):Aa Sl:=[.v (.r (.ref d)),.v (lX C al),.v (tI C),g,j,l,o,p,I,J]
theorem EA {l I:Aa Af}{j:Aa (Af×Af)}(inj:∀ x∈C.names,∀ y∈C.names,r x=r y->x=y) (T:l.Perm C.ins) (U:I.Perm C.outs) (J:j.Perm al) :
  Sim r 1 C al ⟨l.map r,C.gates.map (ren r)++more,I.map r⟩ (j.map λp=>(r p.1,r p.2)) where
 m0:=by decide
 inj:=inj
 ins:=λx d=>aD.mpr ⟨x,T.mem_iff.mpr d,rfl⟩
 gate:=λv c g a w hw=>by
  have:=c (ren r g) (aM _ (aD.mpr ⟨g,a,rfl⟩));rw[show (ren r g).1=r g.1 from rfl] at this;rw[this,Int.one_mul,show (ren r g).2.2=g.2.2.map r from rfl,bC]
  congr 1
  exact gI λo b=>by have:=(hw o b).2;show 1+v (r o)=1+w o;omega
 outs:=U.map r
 al:=J.map _
theorem Xt (G:GoodRow C al){j T:Aa Af}{J:Aa (Af×Af)}(inj:∀ x∈C.names,∀ y∈C.names,r x=r y->x=y) (gn:∀ x∈C.names,GoodName (r x)) (pI:j.Perm C.ins) (U:T.Perm C.outs) (l:J.Perm al)
  (I:more=[]\/C.gates.length<24/\∃ g,more=[g]/\GoodName g.1/\(∀ x∈C.names,r x≠g.1)/\ArOk g.2.1 g.2.2.length/\∀ p∈g.2.2,p∈(C.gates.map (·.1)).map r):GoodRow ⟨j.map r,C.gates.map (ren r)++more,T.map r⟩ (J.map λp=>(r p.1,r p.2)):=by
 have m:(C.gates.map (ren r)).map (·.1)=(C.gates.map (·.1)).map r:=by rw[bC,bC];rfl
 have a:(j++C.gates.map (·.1)).Perm C.names:=pI.append_right _;have n:∀ o∈T,o∈C.names:=λo h=>G.good.os o (U.mem_iff.mp h)
 have s:(Cel.mk (j.map r) (C.gates.map (ren r)++more) (T.map r)).names=(j++C.gates.map (·.1)).map r++more.map (·.1):=by
  show j.map r++(C.gates.map (ren r)++more).map (·.1)=_;rw[aO,m,aO,bI]
 have k:((j++C.gates.map (·.1)).map r).Nodup:=rR (a.nodup_iff.mpr G.good.nd) λx b y d e=>inj x (a.mem_iff.mp b) y (a.mem_iff.mp d) e
 have t:∀ o∈T.map r,o∈(C.gates.map (ren r)++more).map (·.1):=λo h=>by
  obtain⟨q,i,rfl⟩:=aD.mp h;rw[aO,m];exact aM _ (aD.mpr ⟨q,G.og q (U.mem_iff.mp i),rfl⟩)
 have f:oB (j.map r) (C.gates.map (ren r)):=(oB.more (λx b=>pI.mem_iff.mpr b) G.good.gt).ren r;refine⟨⟨?_,?_,?_,?_,?_,?_,?_,?_⟩,t,?_,?_,?_,?_⟩
 .rw[s];rcases I with rfl | ⟨_,g,rfl,_,ne,_,_⟩
  .simpa using k
  .refine bN.mpr ⟨k,by simp,λx b y d=>?_⟩;have:y=g.1:=by simpa using d
   obtain⟨q,i,rfl⟩:=aD.mp b;rw[this];exact ne q (a.mem_iff.mp i)
 .rw[s];intro x b;rcases aV.mp b with q | q
  .obtain⟨z,v,rfl⟩:=aD.mp q;exact gn z (a.mem_iff.mp v)
  .rcases I with rfl | ⟨_,g,rfl,g1,_,_,_⟩
   .cases q
   .have:x=g.1:=by simpa using q
    rw[this];exact g1
 .rcases I with rfl | ⟨_,g,rfl,_,_,u,w⟩
  .simpa using f
  .exact oB.snoc f u λp c=>aP _ (by rw[m];exact w p c)
 .exact λo h=>aP _ (t o h)
 .exact rR (U.nodup_iff.mpr G.good.ond) λx b y d e=>inj x (n x b) y (n y d) e
 .show (j.map r).length<=6;rw[aB,pI.length_eq];exact G.good.li
 .show (C.gates.map _++more).length<=24;have:=G.good.lg;rcases I with rfl | ⟨lt,g,rfl,_⟩
  .simpa using this
  .rw[bB,aB];show C.gates.length+1<=24;omega
 .show (T.map r).length<=6;rw[aB,U.length_eq];exact G.good.lo
 .rw[bC];have:(J.map (·.1)).map r=J.map ((·.1)∘λp:Af×Af=>(r p.1,r p.2)):=by rw[bC];rfl
  rw[<- this];refine rR ((l.map _).nodup_iff.mpr G.n1) λx b y d e=>inj x ?_ y ?_ e
  .obtain⟨p,c,rfl⟩:=aD.mp b;exact G.good.os _ (G.mem p (l.mem_iff.mp c)).1
  .obtain⟨p,c,rfl⟩:=aD.mp d;exact G.good.os _ (G.mem p (l.mem_iff.mp c)).1
 .rw[bC];have:(J.map (·.2)).map r=J.map ((·.2)∘λp:Af×Af=>(r p.1,r p.2)):=by rw[bC];rfl
  rw[<- this];refine rR ((l.map _).nodup_iff.mpr G.n2) λx b y d e=>inj x ?_ y ?_ e
  .obtain⟨p,c,rfl⟩:=aD.mp b;exact aM _ (G.mem p (l.mem_iff.mp c)).2
  .obtain⟨p,c,rfl⟩:=aD.mp d;exact aM _ (G.mem p (l.mem_iff.mp c)).2
 .intro p c;obtain⟨q,i,rfl⟩:=aD.mp c;have I:=G.mem q (l.mem_iff.mp i);exact⟨aD.mpr ⟨q.1,U.mem_iff.mpr I.1,rfl⟩,aD.mpr ⟨q.2,pI.mem_iff.mpr I.2,rfl⟩⟩
 .rw[aB,l.length_eq];exact G.la
theorem FQ:¬ GoodName "+" := λh=>by
 have:=h.ls.az 43 (by decide +kernel);omega
theorem W6:(["gate"]:Aa Af).Nodup:=by decide +kernel
theorem GZ:(["gate","names"]:Aa Af).Nodup:=by decide +kernel
theorem Iy:(["one","names"]:Aa Af).Nodup:=by decide +kernel
theorem Nr:(["out","into","names"]:Aa Af).Nodup:=by decide +kernel
section
variable {P:Ah}{K:kY}
theorem tX:FnScope ["deck","row","cell","own","names","gates","ins","outs","along","more"] ["deck","row"] (lU Ef):=oJ
theorem Ua (T:Txt mg) (U:Kn P w K mg base 1 "_law_take" uH ["deck","many"] Aq) (J:Kn P w K mg base 3 "_law_names" xB ["deck","many"] zH) (I:Kn P w K mg base 2 "_law_shuffled" Cd ["deck","some"] Qj)
: oI P w K mg base 4 "_law_renamed" Ef ["deck","row"] Nc:=by
 refine oU tX λf a0 A ay s H E dk ds Φ hr u hR=>?_
 obtain⟨d,c,C,a,rfl,rfl,Q,av⟩:=hR;refine⟨_,(hH (lG 2 tX.nd (lA u 1 gV)) (hH (lG 3 tX.nd (nS mO mL (nS mO mL (nL A3 Av T.list fP (dK (lA u 2 gV) dT)) (nV ["gate"] [] [] (nG (lA u 2 gV)) (λ_ _ _ _ _=>(lQ 0 W6)) (λ_ _ _ _ _=>(lA u 0 gV)))) (nX (dK sE dT)))) (hH (lG 4 tX.nd (Ft rfl (by rfl) T.dict (by rfl) T.zip (dK (eH 3) (dK (lV J hr (dK (eH 0) (dK (mT nM nN T.len bD (dK (eH 3) dT)) dT))) dT)))) (hH (Jc 5 ["gate"] ["names"] [4] tX.nd (nG (lA u 2 gV)) (λ_ _ _ _ _=>(lQ 0 GZ)) (λ_ _ _ _ _=>(mY (dK (lA u 1 (lA u 0 gV)) (dK (lA u 0 gV) (dK (nL oX pH T.tuple bH (dK (nV ["one"] ["names"] [1] (nG (lA u 0 gV)) (λ_ _ _ _ _=>(lQ 0 Iy)) (λ_ _ _ _ _=>(lA u 1 (eH 0)))) dT)) dT)))))) (hH (lG 6 tX.nd (nL oX pH T.tuple bH (dK (nV ["one"] ["names"] [4] (nG (lV I hr (dK (eH 0) (dK (lA u 2 gV) dT)))) (λ_ _ _ _ _=>(lQ 0 Iy)) (λ_ _ _ _ _=>(lA u 1 (eH 0)))) dT))) (hH (lG 7 tX.nd (nL oX pH T.tuple bH (dK (nV ["one"] ["names"] [4] (nG (lV I hr (dK (eH 0) (dK (lA u 2 gV) dT)))) (λ_ _ _ _ _=>(lQ 0 Iy)) (λ_ _ _ _ _=>(lA u 1 (eH 0)))) dT))) (hH (lG 8 tX.nd (nL oX pH T.tuple bH (dK (nV ["out","into"] ["names"] [4] (nG (lV I hr (dK (eH 0) (dK (lA u 1 gV) dT)))) (λ_ _ _ _ _=>(rM (n:=2) rfl (mU (lQ 0 Nr) (mU (lQ 1 Nr) rE)))) (λ_ _ _ _ _=>(mY (dK (lA u 2 (eH 0)) (dK (lA u 2 (eH 1)) dT))))) dT))) (hH (lG 9 tX.nd (mY (dK (lA u 4 sE) (dK (vD u (nX (dK sE (dK sE dT))) (lV U hr (dK (eH 0) (dK gV dT)))) (dK (mY dT) dT))))) (hH (vM (vX (wZ hr.units) (sP true) (pv 5) (nX dT)) (lY (lG 9 tX.nd (mY (dK (lA u 4 sE) (dK sE (dK (mY (dK (vD u (lA u 5 (vH gV)) gV) dT)) dT)))))) uS) (hH (vM (uD Jv Iq (mT nM nN T.len bD (nW (pv 5) dT)) gV) (lY (rL (pW aZ bL bM pT rK (pv 5) (dK (eH 9) dT)))) uS) (lY (nO (mY (dK (mY (dK (eH 6) (dK (nL oX pH T.tuple bH (nW (pv 5) dT)) (dK (eH 7) dT)))) (dK (eH 8) dT))))))))))))))),?_⟩;have li:=Q.good.li;have lp:=Q.la;have lg:=Q.good.lg;have lo:=Q.good.lo;have en:C.names=C.ins++C.gates.map (·.1):=rfl;have ln:C.names.length<=30:=by rw[en,bB,aB];omega
 refine lC (λb=>b=rC d C a .n .n .n .n .n .n .n) (λN m=>⟨rfl,_,rfl,m _ rfl⟩) ?_;rintro _ rfl;refine lC (λb=>b=rC d C a (.o (sq (C.names++[("+" : Af)]))) .n .n .n .n .n .n) (λN m=>?_) ?_
 .unfold qR d2 dC aC;refine⟨rfl,_,rfl,_,rfl,?_⟩;refine nT C.gates lF (λg=>.str g.1) (rC d C a .n .n .n .n .n .n .n) (λΨ h=>⟨rfl,_,rfl,h⟩) (by omega) (λj g ys Nx e L M=>⟨rfl,_,rfl,L,M⟩) ?_;refine⟨by show (C.ins.map D.str).length+(C.gates.map _).length<=100000;simp;omega,by show 1<=1000;decide,by show (C.ins.map D.str++C.gates.map _).length+1<=100000;simp;omega,m _ ?_⟩;have:sq (C.names++[("+" : Af)]) = .l ((C.ins.map D.str++C.gates.map λg=>D.str g.1)++[.str "+"]):=by
   show D.l (List.map D.str _)=_;rw[aO,en,aO,bC];rfl
  rw[this];rfl
 rintro _ rfl;have plus:("+" : Af)∉C.names:=λh=>FQ (Q.good.nm _ h)
 have aw:(C.names++[("+" : Af)]).Nodup:=bN.mpr ⟨Q.good.nd,by simp,λx hx y hy=>by
  have:y = "+" := by simpa using hy
  rw[this];intro e;exact plus (e▸hx)⟩
 have lO:(C.names++[("+" : Af)]).length=C.names.length+1:=by simp
 refine lC (λb=>∃ F:Aa Af,F.length=(C.names++[("+" : Af)]).length/\F.Nodup/\(∀ x∈F,GoodName x)/\b=rC d C a (.v (sq (C.names++[("+" : Af)]))) (.o (.k (lK ((C.names++[("+" : Af)]).zip F)))) .n .n .n .n .n) (λN m=>?_) ?_
 .refine⟨rfl,_,rfl,d,c,((C.names++[("+" : Af)]).map D.str).length,rfl,rfl,by rw[aB,lO];omega,λF lx nd gn=>⟨.inl rfl,false,false,_,_,_,rfl,rfl,A2 (C.names++[("+" : Af)]),by rw[aB,lO];omega,?_⟩⟩;have af:F.length=(C.names++[("+" : Af)]).length:=by rw[lx,aB]
  rw[Cv,Fy (by rw[Bf _ _ af.symm];exact aw)];exact m _ ⟨F,af,nd,gn,rfl⟩
 rintro b ⟨F,lx,az,ag,rfl⟩;have tk:((C.names++[("+" : Af)]).zip F).map (·.1)=C.names++[("+" : Af)]:=Bf _ _ lx.symm;have S:∀ o∈C.names++[("+" : Af)],eM ((C.names++[("+" : Af)]).zip F) o∈F:=λo X=>yM lx.symm X
 have R:∀ o∈C.names++[("+" : Af)],∀ o'∈C.names++[("+" : Af)],eM ((C.names++[("+" : Af)]).zip F) o=eM ((C.names++[("+" : Af)]).zip F) o'->o=o':=λo X o' au e=>En lx.symm az X au e
 generalize ht:(C.names++[("+" : Af)]).zip F=t at tk S R |-;have ky:∀ o∈C.names,o∈t.map (·.1):=λo X=>by rw[tk];exact aM _ X
 have ae:("+" : Af)∈t.map (·.1):=by rw[tk];simp
 have ab:∀ o∈C.ins,o∈t.map (·.1):=λo X=>ky o (aM _ X)
 have ac:∀ o∈C.outs,o∈t.map (·.1):=λo X=>ky o (Q.good.os o X)
 have gP:∀ g∈C.gates,g.1∈C.names/\∀ p∈g.2.2,p∈C.names:=λg Z=>by
  refine⟨aP _ (aD.mpr ⟨g,Z,rfl⟩),λp Y=>?_⟩;obtain⟨j,hj,rfl⟩:=cR Z;have L:=(vN Q.good.gt (i:=j) (g:=C.gates[j]) (aG hj)).2 p Y;rcases aV.mp L with q | q
  .exact aM _ q
  .obtain⟨g',ar,rfl⟩:=aD.mp q;exact aP _ (aD.mpr ⟨g',iH ar,rfl⟩)
 have ah:∀ g∈C.gates,g.2.2.length<=3:=λg Z=>by
  obtain⟨j,hj,rfl⟩:=cR Z;have aq:=(vN Q.good.gt (i:=j) (g:=C.gates[j]) (aG hj)).1.ok;rcases aq with q | q | q | q | q<;>omega
 refine lC (λb=>b=rC d C a (.v (sq (C.names++[("+" : Af)]))) (.o (.k (lK t))) (.o (.l ((C.gates.map (ren (eM t))).map lF))) .n .n .n .n) (λN m=>?_) ?_
 .unfold qR dC aC;refine nT C.gates lF (λg=>lF (ren (eM t) g)) (rC d C a (.v (sq (C.names++[("+" : Af)]))) (.o (.k (lK t))) .n .n .n .n .n) (λΨ h=>⟨rfl,_,rfl,h⟩) (by omega) (λj g ys Nx e L M=>?_) ?_
  .have Z:=aR e;refine⟨rfl,rfl,_,rfl,_,pJ (ky _ (gP g Z).1),rfl,_,rfl,?_⟩;refine nT g.2.2 D.str (λp=>.str (eM t p)) [.v (lF g),.o (.k (lK t))] (λΨ h=>⟨rfl,_,rfl,h⟩) (by have:=ah g Z;omega) (λj p ys Nx e L M=>⟨rfl,_,pJ (ky _ ((gP g Z).2 p (aR e))),L,M⟩) ?_;refine⟨by show 3<=1000;decide,L,?_⟩;have eE:lF (ren (eM t) g)=D.t [.str (eM t g.1),.str g.2.1,.t (g.2.2.map λp=>D.str (eM t p))]:=by
    unfold lF ren;rw[bC];rfl
   rw[eE] at M;exact M
  refine m _ ?_;rw[bC];rfl
 rintro _ rfl;refine lC (λb=>∃ B:Aa Af,B.Perm C.ins/\b=rC d C a (.v (sq (C.names++[("+" : Af)]))) (.o (.k (lK t))) (.o (.l ((C.gates.map (ren (eM t))).map lF))) (.v (.t ((B.map (eM t)).map D.str))) .n .n .n) (λN m=>?_) ?_
 .unfold qR dC aC wA iV;refine⟨rfl,_,rfl,d,c,C.ins.map D.str,rfl,.inr rfl,by rw[aB];omega,λys Y=>⟨.inl rfl,?_⟩⟩;obtain⟨B,pI,rfl⟩:=Oh Y;show ∃ Pv:Nat->Aa D->Aa Sl->Prop,_;refine Gx (Φ:=λr W=>dC E7 (aC (λ_ b k=>k r b) Fg) [d,c] W λr V=>N (V.set 6 r)) B D.str (λo=>.str (eM t o)) (rC d C a (.v (sq (C.names++[("+" : Af)]))) (.o (.k (lK t))) (.o (.l ((C.gates.map (ren (eM t))).map lF))) .n .n .n .n) (by rw[pI.length_eq];omega) (λj o ys Nx e L M=>⟨rfl,_,pJ (ab o (pI.mem_iff.mp (aR e))),L,M⟩) ?_;refine m _ ⟨B,pI,?_⟩;rw[bC (l:=B)];rfl
 rintro b ⟨B,pI,rfl⟩;refine lC (λb=>∃ G:Aa Af,G.Perm C.outs/\b=rC d C a (.v (sq (C.names++[("+" : Af)]))) (.o (.k (lK t))) (.o (.l ((C.gates.map (ren (eM t))).map lF))) (.v (.t ((B.map (eM t)).map D.str))) (.v (.t ((G.map (eM t)).map D.str))) .n .n) (λN m=>?_) ?_
 .unfold qR dC aC wA iV;refine⟨rfl,_,rfl,d,c,C.outs.map D.str,rfl,.inr rfl,by rw[aB];omega,λys Y=>⟨.inl rfl,?_⟩⟩;obtain⟨G,pO,rfl⟩:=Oh Y;show ∃ Pv:Nat->Aa D->Aa Sl->Prop,_;refine Gx (Φ:=λr W=>dC E7 (aC (λ_ b k=>k r b) Fg) [d,c] W λr V=>N (V.set 7 r)) G D.str (λo=>.str (eM t o)) (rC d C a (.v (sq (C.names++[("+" : Af)]))) (.o (.k (lK t))) (.o (.l ((C.gates.map (ren (eM t))).map lF))) (.v (.t ((B.map (eM t)).map D.str))) .n .n .n) (by rw[pO.length_eq];omega) (λj o ys Nx e L M=>⟨rfl,_,pJ (ac o (pO.mem_iff.mp (aR e))),L,M⟩) ?_;refine m _ ⟨G,pO,?_⟩;rw[bC (l:=G)];rfl
 rintro b ⟨G,pO,rfl⟩;refine lC (λb=>∃ O:Aa (Af×Af),O.Perm a/\b=rC d C a (.v (sq (C.names++[("+" : Af)]))) (.o (.k (lK t))) (.o (.l ((C.gates.map (ren (eM t))).map lF))) (.v (.t ((B.map (eM t)).map D.str))) (.v (.t ((G.map (eM t)).map D.str))) (.v (.t ((O.map λp=>(eM t p.1,eM t p.2)).map mV))) .n) (λN m=>?_) ?_
 .unfold qR dC aC wA iV;refine⟨rfl,_,rfl,d,c,a.map mV,rfl,.inr rfl,by rw[aB];omega,λys Y=>⟨.inl rfl,?_⟩⟩;obtain⟨O,pA,rfl⟩:=DP Y;show ∃ Pv:Nat->Aa D->Aa Sl->Prop,_;refine Gx (Φ:=λr W=>dC E7 (aC (λ_ b k=>k r b) Fg) [d,c] W λr V=>N (V.set 8 r)) O mV (λp=>.t [.str (eM t p.1),.str (eM t p.2)]) (rC d C a (.v (sq (C.names++[("+" : Af)]))) (.o (.k (lK t))) (.o (.l ((C.gates.map (ren (eM t))).map lF))) (.v (.t ((B.map (eM t)).map D.str))) (.v (.t ((G.map (eM t)).map D.str))) .n .n) (by rw[pA.length_eq];omega) (λj p ys Nx e L M=>?_) ?_
  .have hm:=Q.mem p (pA.mem_iff.mp (aR e));exact⟨rfl,rfl,rfl,_,pJ (ac _ hm.1),rfl,_,pJ (ab _ hm.2),by show 2<=1000;decide,L,M⟩
  refine m _ ⟨O,pA,?_⟩;rw[bC (l:=O)];rfl
 rintro b ⟨O,pA,rfl⟩;have aa:∀ x∈C.names,∀ y∈C.names,eM t x=eM t y->x=y:=λx hx y hy e=>R x (aM _ hx) y (aM _ hy) e
 have an:∀ x∈C.names,GoodName (eM t x):=λx hx=>ag _ (S x (aM _ hx))
 have ao:GoodName (eM t "+"):=ag _ (S _ (by simp));have ax:∀ x∈C.names,eM t x≠eM t "+" := λx hx e=>by
  have:=R x (aM _ hx) "+" (by simp) e;exact plus (this▸hx)
 refine lC (λb=>∃ g:Af×Af×Aa Af,g.1=eM t "+" /\ ArOk g.2.1 g.2.2.length/\g.2.2=[]/\b=rC d C a (.v (sq (C.names++[("+" : Af)]))) (.o (.k (lK t))) (.o (.l ((C.gates.map (ren (eM t))).map lF))) (.v (.t ((B.map (eM t)).map D.str))) (.v (.t ((G.map (eM t)).map D.str))) (.v (.t ((O.map λp=>(eM t p.1,eM t p.2)).map mV))) (.v (lF g))) (λN m=>?_) ?_
 .refine⟨rfl,_,pJ ae,by show 2<=1000;decide,d,c,2,rfl,rfl,by decide,by decide,λr hr=>⟨.inl rfl,?_⟩⟩;rcases (show r=0\/r=1 by omega) with rfl | rfl
  .exact⟨.str "one",pQ (j:=0) rfl,by show 0<=1000;decide,by show 3<=1000;decide,m _ ⟨(eM t "+","one",[]),rfl,⟨.inr (.inr (.inr (.inl ⟨rfl,rfl⟩)))⟩,rfl,rfl⟩⟩
  .exact⟨.str "nil",pQ (j:=1) rfl,by show 0<=1000;decide,by show 3<=1000;decide,m _ ⟨(eM t "+","nil",[]),rfl,⟨.inr (.inr (.inr (.inr ⟨rfl,rfl⟩)))⟩,rfl,rfl⟩⟩
 rintro _ ⟨g0,ai,aj,ak,rfl⟩;refine lC (λb=>∃ g:Af×Af×Aa Af,g.1=eM t "+" /\ ArOk g.2.1 g.2.2.length/\(∀ p∈g.2.2,p∈(C.gates.map (·.1)).map (eM t))/\b=rC d C a (.v (sq (C.names++[("+" : Af)]))) (.o (.k (lK t))) (.o (.l ((C.gates.map (ren (eM t))).map lF))) (.v (.t ((B.map (eM t)).map D.str))) (.v (.t ((G.map (eM t)).map D.str))) (.v (.t ((O.map λp=>(eM t p.1,eM t p.2)).map mV))) (.v (lF g))) (λN m=>?_) ?_
 .refine⟨rfl,by show 0<=1000;decide,?_⟩;show if (nb true ((C.gates.map (ren (eM t))).map lF).isEmpty)=true then _ else _
  rcases List.eq_nil_or_concat C.gates with eg | ⟨gs,gl,eg⟩
  .have:(nb true ((C.gates.map (ren (eM t))).map lF).isEmpty)=false:=by rw[eg];rfl
   rw[this];exact m _ ⟨g0,ai,aj,by rw[ak];simp,rfl⟩
  .have:(nb true ((C.gates.map (ren (eM t))).map lF).isEmpty)=true:=by rw[eg];simp[nb]
   rw[this];have al:mF ((C.gates.map (ren (eM t))).map lF) (-1)=some (lF (ren (eM t) gl)):=by
    rw[eg,List.concat_eq_append,aO,aO];exact Jl
   refine⟨rfl,_,pJ ae,rfl,_,al,_,rfl,by show 1<=1000;decide,by show 3<=1000;decide,m _ ⟨(eM t "+","not",[eM t gl.1]),rfl,⟨.inr (.inr (.inl ⟨rfl,rfl⟩))⟩,λp Y=>?_,rfl⟩⟩;have:p=eM t gl.1:=by simpa using Y
   rw[this];exact aD.mpr ⟨gl.1,aD.mpr ⟨gl,by rw[eg];simp,rfl⟩,rfl⟩
 rintro _ ⟨g,g1,g2,g3,rfl⟩;refine lC (λb=>∃ (more:nI) (s9:Sl),(more=[]\/C.gates.length<24/\∃ g,more=[g]/\GoodName g.1/\(∀ x∈C.names,eM t x≠g.1)/\ArOk g.2.1 g.2.2.length/\∀ p∈g.2.2,p∈(C.gates.map (·.1)).map (eM t))/\b=rC d C a (.v (sq (C.names++[("+" : Af)]))) (.o (.k (lK t))) (.o (.l ((C.gates.map (ren (eM t))++more).map lF))) (.v (.t ((B.map (eM t)).map D.str))) (.v (.t ((G.map (eM t)).map D.str))) (.v (.t ((O.map λp=>(eM t p.1,eM t p.2)).map mV))) s9) (λN m=>?_) ?_
 .refine⟨rfl,rfl,_,rfl,?_⟩;have len:((C.gates.map (ren (eM t))).map lF).length=C.gates.length:=by simp
  show if decide (((((C.gates.map (ren (eM t))).map lF).length:Nat):Int)<24)=true then _ else _
  rw[len];by_cases z:((C.gates.length:Nat):Int)<24
  .refine zN z ?_;refine⟨rfl,by show ((C.gates.map (ren (eM t))).map lF).length<100000;rw[len];omega,m _ ⟨[g],.v (lF g),.inr ⟨by omega,g,rfl,by rw[g1];exact ao,by rw[g1];exact ax,g2,g3⟩,?_⟩⟩;rw[aO];rfl
  .refine Au z ?_;exact m _ ⟨[],_,.inl rfl,by rw[fJ]⟩
 rintro _ ⟨more,s9,hm,rfl⟩;refine⟨rfl,by show 3<=1000;decide,by show 2<=1000;decide,?_⟩;exact av (eM t) ⟨B.map (eM t),C.gates.map (ren (eM t))++more,G.map (eM t)⟩ (O.map λp=>(eM t p.1,eM t p.2)) (Xt Q aa an pI pO pA hm) (EA aa pI pO pA)
end
def mH (r l:Af->Af) (g:Af×Af×Aa Af):nI:=if g.2.2=[] then [(r g.1,g.2.1,[])] else [(l g.1,g.2.1,g.2.2.map r),(r g.1,"or",[l g.1,l g.1])]
def Ml:RD:=λe f h=>∃ (d c:Ad) (C:Cel) (al:Aa (Af×Af)),e=[d,c]/\f=[.r (.ref d),lX C al]/\GoodRow C al/\C.gates.length<=12/\∀ (i:Af->Af) (b:Cel) (a:Aa (Af×Af)),GoodRow b a->Sim i 2 C al b a->wL b=2*wL C->h (.v (lX b a))
theorem X0 (h:LS n m x):PyData.strOk x=true:=by
 unfold PyData.strOk;rw[Array.all_eq_true'];intro c a;have:=h.az c (by simpa using a);exact cG (by omega)
theorem FK (neg:Bool) (l:∀ p∈g,PyData.strOk p=true) (h:j (.v (.b (nb neg (decide (g=[])))))):tT neg (.t (g.map D.str)) (.t []) j:=by
 have e:PyData.eqv (py (.t (g.map D.str))) (py (.t []))=decide (g=[]):=by cases g<;>rfl
 have:mJ (.t (g.map D.str))=true/\mJ (.t [])=true/\min (py (.t (g.map D.str))).depth (py (.t [])).depth<=60/\j (.v (.b (nb neg (PyData.eqv (py (.t (g.map D.str))) (py (.t [])))))):=by
  refine⟨Fn λy c=>?_,rfl,bV (kR _ _) (by decide),by rw[e];exact h⟩;obtain⟨x,a,rfl⟩:=aD.mp c;exact l x a
 exact this
theorem Z5:("or" : Af)∈uK:=by decide +kernel
section
theorem M9:∀ {o:nI},(o.map (·.1)).Nodup->(∀ g∈o,∀ j∈o,r g.1=r j.1->g.1=j.1)->(∀ g∈o,∀ j∈o,l g.1=l j.1->g.1=j.1)->(∀ g∈o,∀ j∈o,r g.1≠l j.1) ->
  ((o.flatMap (mH r l)).map (·.1)).Nodup/\∀ x∈(o.flatMap (mH r l)).map (·.1),∃ g∈o,x=r g.1\/x=l g.1
 | [],_,_,_,_=>⟨by simp,by simp⟩
 | g::o,n,t,u,k=>by
  obtain⟨B,n⟩:=bW.mp n;obtain⟨A,v⟩:=M9 n (λa h b i=>t a (aK _ h) b (aK _ i)) (λa h b i=>u a (aK _ h) b (aK _ i)) (λa h b i=>k a (aK _ h) b (aK _ i));have sub:∀ x∈(mH r l g).map (·.1),x=r g.1\/x=l g.1:=λx f=>by
   unfold mH at f;split at f
   .exact .inl (by simpa using f)
   .have:x=l g.1\/x=r g.1:=by simpa using f
    exact this.symm
  have s:((mH r l g).map (·.1)).Nodup:=by
   unfold mH;split
   .simp
   .have:=k g aE g aE;simp;exact λz=>this z.symm
  have off:∀ j∈o,g.1≠j.1:=λj c e=>B (by rw[show (λx:Af×Af×Aa Af=>x.1) g=g.1 from rfl,e];exact aD.mpr ⟨j,c,rfl⟩)
  rw[jL,aO];refine⟨bN.mpr ⟨s,A,λx f y w e=>?_⟩,λx f=>?_⟩
  .subst e;obtain⟨j,c,d⟩:=v x w;have m:=aK g c;rcases sub x f with e | e<;>rcases d with d | d<;>rw[e] at d
   .exact off j c (t g aE j m d)
   .exact k g aE j m d
   .exact k j m g aE d.symm
   .exact off j c (u g aE j m d)
  .rcases aV.mp f with q | q
   .exact⟨g,aE,sub x q⟩
   .obtain⟨j,c,d⟩:=v x q;exact⟨j,aK _ c,d⟩
theorem J2:∀ {o:nI}{kn j:Aa Af},oB kn o->(∀ x∈kn,r x∈j)->oB j (o.flatMap (mH r l))
 | [],_,_,_,_=>trivial
 | g::o,kn,j,ok,h=>by
  rw[jL];unfold mH;by_cases z:g.2.2=[]
  .rw[bE z];refine⟨by have:=ok.1;rwa [z] at this,by simp,J2 ok.2.2 λx b=>?_⟩;rcases aV.mp b with q | q
   .exact aM _ (h x q)
   .rw[aU.mp q];simp
  .rw[bG z];refine⟨by show ArOk g.2.1 (g.2.2.map r).length;rw[aB];exact ok.1,λp a=>?_,⟨.inl ⟨Z5,.inl rfl⟩⟩,λp a=>?_,J2 ok.2.2 λx b=>?_⟩
   .obtain⟨q,c,rfl⟩:=aD.mp a;exact h q (ok.2.1 q c)
   .have:p=l g.1:=by simpa using a
    rw[this];simp
   .rcases aV.mp b with q | q
    .exact aM _ (aM _ (h x q))
    .rw[aU.mp q];simp
theorem Hs:∀ j:nI,(j.flatMap (mH r l)).length<=2*j.length
 | []=>by simp
 | g::j=>by
  have:(j.flatMap (mH r l)).length<=2*j.length:=Hs j;rw[jL,bB,bY];have:(mH r l g).length<=2:=by unfold mH;split<;>simp
  omega
theorem Qw:∀ j:nI,((j.flatMap (mH r l)).filter λg=>!g.2.2.isEmpty).length=2*(j.filter λg=>!g.2.2.isEmpty).length
 | []=>by simp
 | g::j=>by
  rw[jL,List.filter_append,bB,Qw j];unfold mH;by_cases z:g.2.2=[]
  .rw[bE z];have:(g.2.2.isEmpty)=true:=by rw[z];rfl
   simp[this]
  .rw[bG z];have:(g.2.2.isEmpty)=false:=by cases q:g.2.2 with | nil=>exact absurd q z | cons a b=>rfl
   have c:((g.2.2.map r).isEmpty)=false:=by cases q:g.2.2 with | nil=>exact absurd q z | cons a b=>rfl
   simp[this];omega
theorem zX {j:nI}{g:Af×Af×Aa Af}(o:g∈j){x:Af×Af×Aa Af}(p:x∈mH r l g):x∈j.flatMap (mH r l):=iK.mpr ⟨g,o,p⟩
theorem Vh {g:Aa Af}(l:g≠[]){w:Af->Int}(j:∀ o∈g,0<=w o):1+mx (g.map λo=>1+2*w o)=2*mx (g.map λo=>1+w o):=by
 obtain⟨o,b⟩:=List.exists_mem_of_ne_nil _ l;have h:0<mx (g.map λo=>1+w o):=by
  have:=wO (aD.mpr ⟨o,b,rfl⟩:1+w o∈g.map λo=>1+w o);have:=j o b;omega
 rcases xZ (g.map λo=>1+w o) with e | e
 .omega
 .obtain⟨q,c,e⟩:=aD.mp e;have:mx (g.map λo=>1+2*w o)=1+2*w q:=by
   refine (wS (.inr (aD.mpr ⟨q,c,rfl⟩)) (by have:=j q c;omega) λa d=>?_).symm;obtain⟨z,f,rfl⟩:=aD.mp d;have:=wO (aD.mpr ⟨z,f,rfl⟩:1+w z∈g.map λo=>1+w o);omega
  omega
theorem Ys (inj:∀ x∈C.names,∀ y∈C.names,r x=r y->x=y):Sim r 2 C al ⟨C.ins.map r,C.gates.flatMap (mH r l),C.outs.map r⟩ (al.map λp=>(r p.1,r p.2)) where
 m0:=by decide
 inj:=inj
 ins:=λx k=>aD.mpr ⟨x,k,rfl⟩
 gate:=λv h g d w hw=>by
  by_cases z:g.2.2=[]
  .have:=h (r g.1,g.2.1,[]) (zX d (by unfold mH;rw[if_pos z];simp));rw[show v (r g.1)=_ from this,z];rfl
  .have b:=h (l g.1,g.2.1,g.2.2.map r) (zX d (by unfold mH;rw[if_neg z];simp));have c:=h (r g.1,"or",[l g.1,l g.1]) (zX d (by unfold mH;rw[if_neg z];simp));have b:v (l g.1)=mx ((g.2.2.map r).map λo=>1+v o):=b;have c:v (r g.1)=mx [1+v (l g.1),1+v (l g.1)]:=c;have m:=uW ((g.2.2.map r).map λo=>1+v o);have e:mx [1+v (l g.1),1+v (l g.1)]=1+v (l g.1):=(wS (.inr aE) (by omega) λa i=>by
    have:a=1+v (l g.1):=by simpa using i
    omega).symm
   rw[c,e,b,bC,<- Vh z λo f=>(hw o f).1]
   congr 2
   exact gI λo f=>by have:=(hw o f).2;show 1+v (r o)=1+2*w o;omega
 outs:=.refl _
 al:=.refl _
theorem AZ (G:GoodRow C al) (J:C.gates.length<=12) (inj:∀ x∈C.names,∀ y∈C.names,r x=r y->x=y) (j:∀ x∈C.names,∀ y∈C.names,l x=l y->x=y) (ne:∀ x∈C.names,∀ y∈C.names,r x≠l y) (I:∀ x∈C.names,GoodName (r x)/\GoodName (l x)) :
  GoodRow ⟨C.ins.map r,C.gates.flatMap (mH r l),C.outs.map r⟩ (al.map λp=>(r p.1,r p.2)):=by
 have a:∀ g∈C.gates,g.1∈C.names:=λg b=>aP _ (aD.mpr ⟨g,b,rfl⟩)
 obtain⟨v,w,A⟩:=bN.mp (show (C.ins++C.gates.map (·.1)).Nodup from G.good.nd);obtain⟨f1,f2⟩:=M9 (r:=r) (l:=l) w (λg b m f e=>inj _ (a g b) _ (a m f) e) (λg b m f e=>j _ (a g b) _ (a m f) e) (λg b m f=>ne _ (a g b) _ (a m f));have d:∀ x∈C.ins,x∈C.names:=λx c=>aM _ c
 have t:∀ o∈C.outs.map r,o∈(C.gates.flatMap (mH r l)).map (·.1):=λo n=>by
  obtain⟨q,k,rfl⟩:=aD.mp n;obtain⟨g,b,rfl⟩:=aD.mp (G.og q k);by_cases z:g.2.2=[]
  .exact aD.mpr ⟨(r g.1,g.2.1,[]),zX b (by unfold mH;rw[if_pos z];simp),rfl⟩
  .exact aD.mpr ⟨(r g.1,"or",[l g.1,l g.1]),zX b (by unfold mH;rw[if_neg z];simp),rfl⟩
 refine⟨⟨?_,?_,?_,?_,?_,?_,?_,?_⟩,t,?_,?_,?_,?_⟩
 .show (C.ins.map r++(C.gates.flatMap (mH r l)).map (·.1)).Nodup;refine bN.mpr ⟨rR v λx c y i e=>inj x (d x c) y (d y i) e,f1,λx c y i e=>?_⟩;subst e;obtain⟨q,k,rfl⟩:=aD.mp c;obtain⟨g,b,e | e⟩:=f2 _ i
  .exact A q k g.1 (aD.mpr ⟨g,b,rfl⟩) (inj q (d q k) g.1 (a g b) e)
  .exact ne q (d q k) g.1 (a g b) e
 .intro x c;rcases aV.mp (show x∈C.ins.map r++(C.gates.flatMap (mH r l)).map (·.1) from c) with q | q
  .obtain⟨z,u,rfl⟩:=aD.mp q;exact (I z (d z u)).1
  .obtain⟨g,b,rfl | rfl⟩:=f2 _ q
   .exact (I _ (a g b)).1
   .exact (I _ (a g b)).2
 .exact J2 G.good.gt λx c=>aD.mpr ⟨x,c,rfl⟩
 .exact λo n=>aP _ (t o n)
 .exact rR G.good.ond λx c y i e=>inj x (G.good.os x c) y (G.good.os y i) e
 .show (C.ins.map r).length<=6;rw[aB];exact G.good.li
 .show (C.gates.flatMap (mH r l)).length<=24;have:=Hs (r:=r) (l:=l) C.gates;omega
 .show (C.outs.map r).length<=6;rw[aB];exact G.good.lo
 .rw[bC];have:(al.map (·.1)).map r=al.map ((·.1)∘λp:Af×Af=>(r p.1,r p.2)):=by rw[bC];rfl
  rw[<- this];refine rR G.n1 λx c y i e=>inj x ?_ y ?_ e
  .obtain⟨p,h,rfl⟩:=aD.mp c;exact G.good.os _ (G.mem p h).1
  .obtain⟨p,h,rfl⟩:=aD.mp i;exact G.good.os _ (G.mem p h).1
 .rw[bC];have:(al.map (·.2)).map r=al.map ((·.2)∘λp:Af×Af=>(r p.1,r p.2)):=by rw[bC];rfl
  rw[<- this];refine rR G.n2 λx c y i e=>inj x ?_ y ?_ e
  .obtain⟨p,h,rfl⟩:=aD.mp c;exact d _ (G.mem p h).2
  .obtain⟨p,h,rfl⟩:=aD.mp i;exact d _ (G.mem p h).2
 .intro p h;obtain⟨q,k,rfl⟩:=aD.mp h;have s:=G.mem q k;exact⟨aD.mpr ⟨q.1,s.1,rfl⟩,aD.mpr ⟨q.2,s.2,rfl⟩⟩
 .rw[aB];exact G.la
end
abbrev sQ (g:Aa Af):D:=.l (g.map D.str)
abbrev oW (d:Ad) (C:Cel) (al:Aa (Af×Af)) (p I J T U s8 s9 g j l o:Sl):Aa Sl:=[.v (.r (.ref d)),.v (lX C al),.v (tI C),p,I,J,T,U,s8,s9,g,j,l,o]
theorem DW:(["gate"]:Aa Af).Nodup:=by decide +kernel
theorem Jj:(["one","names"]:Aa Af).Nodup:=by decide +kernel
theorem K5:(["out","into","names"]:Aa Af).Nodup:=by decide +kernel
section
variable {P:Ah}{K:kY}
theorem rZ:FnScope ["deck","row","cell","own","some","names","later","gates","name","word","parts","ins","outs","along"] ["deck","row"] (lU Eo):=oJ
theorem Vu (T:Txt mg) (I:Kn P w K mg base 3 "_law_names" xB ["deck","many"] zH):oI P w K mg base 4 "_law_followed" Eo ["deck","row"] Ml:=by
 refine oU rZ λf ax A av s H E dk ds Φ hr L hR=>?_
 obtain⟨d,c,C,a,rfl,rfl,X,aj,ao⟩:=hR;refine⟨_,(hH (lG 2 rZ.nd (lA L 1 gV)) (hH (lG 3 rZ.nd (nS mO mL (nL A3 Av T.list fP (dK (lA L 2 gV) dT)) (nV ["gate"] [] [] (nG (lA L 2 gV)) (λ_ _ _ _ _=>(lQ 0 DW)) (λ_ _ _ _ _=>(lA L 0 gV))))) (hH (lG 4 rZ.nd (lV I hr (dK (eH 0) (dK (nS wC wG gV (mT nM nN T.len bD (dK (eH 3) dT))) dT)))) (hH (lG 5 rZ.nd (Ft rfl (by rfl) T.dict (by rfl) T.zip (dK (eH 3) (dK (eH 4) dT)))) (hH (lG 6 rZ.nd (Ft rfl (by rfl) T.dict (by rfl) T.zip (dK (eH 3) (dK (tH sZ tQ (pv 4) (sF (mT nM nN T.len bD (dK (eH 3) dT))) uC) dT)))) (hH (lG 7 rZ.nd (nX dT)) (hH (tS (nG (lA L 2 gV)) (rM (n:=3) rfl (mU (lQ 8 rZ.nd) (mU (lQ 9 rZ.nd) (mU (lQ 10 rZ.nd) rE)))) (hH (rL (pW aZ bL bM pT rK (pv 7) (dK (mY (dK (Se (vX (zR hr.units) (sP false) (pv 10) (mY dT)) (lA L 5 (eH 8)) (lA L 6 (eH 8))) (dK (eH 9) (dK (nL oX pH T.tuple bH (dK (nV ["one"] ["names"] [5] (nG (eH 10)) (λ_ _ _ _ _=>(lQ 0 Jj)) (λ_ _ _ _ _=>(lA L 1 (eH 0)))) dT)) dT)))) dT))) (lY (vM (vX (wZ hr.units) (sP true) (pv 10) (mY dT)) (lY (rL (pW aZ bL bM pT rK (pv 7) (dK (mY (dK (lA L 5 (eH 8)) (dK sE (dK (mY (dK (lA L 6 (eH 8)) (dK (lA L 6 (eH 8)) dT))) dT)))) dT)))) uS)))) (hH (lG 11 rZ.nd (nL oX pH T.tuple bH (dK (nV ["one"] ["names"] [5] (nG (lA L 2 gV)) (λ_ _ _ _ _=>(lQ 0 Jj)) (λ_ _ _ _ _=>(lA L 1 (eH 0)))) dT))) (hH (lG 12 rZ.nd (nL oX pH T.tuple bH (dK (nV ["one"] ["names"] [5] (nG (lA L 2 gV)) (λ_ _ _ _ _=>(lQ 0 Jj)) (λ_ _ _ _ _=>(lA L 1 (eH 0)))) dT))) (hH (lG 13 rZ.nd (nL oX pH T.tuple bH (dK (nV ["out","into"] ["names"] [5] (nG (lA L 1 gV)) (λ_ _ _ _ _=>(rM (n:=2) rfl (mU (lQ 0 K5) (mU (lQ 1 K5) rE)))) (λ_ _ _ _ _=>(mY (dK (lA L 2 (eH 0)) (dK (lA L 2 (eH 1)) dT))))) dT))) (lY (nO (mY (dK (mY (dK (eH 11) (dK (nL oX pH T.tuple bH (nW (pv 7) dT)) (dK (eH 12) dT)))) (dK (eH 13) dT))))))))))))))),?_⟩;have li:=X.good.li;have lp:=X.la;have lo:=X.good.lo;have en:C.names=C.ins++C.gates.map (·.1):=rfl;have ln:C.names.length<=18:=by rw[en,bB,aB];omega
 refine lC (λF=>F=oW d C a .n .n .n .n .n .n .n .n .n .n .n) (λN G=>⟨rfl,_,rfl,G _ rfl⟩) ?_;rintro _ rfl;refine lC (λF=>F=oW d C a (.o (sQ C.names)) .n .n .n .n .n .n .n .n .n .n) (λN G=>?_) ?_
 .unfold qR d2 dC aC;refine⟨rfl,_,rfl,_,rfl,?_⟩;refine nT C.gates lF (λg=>.str g.1) (oW d C a .n .n .n .n .n .n .n .n .n .n .n) (λΨ h=>⟨rfl,_,rfl,h⟩) (by omega) (λj g ys Nx e Q W=>⟨rfl,_,rfl,Q,W⟩) ?_;refine⟨by show (C.ins.map D.str).length+(C.gates.map _).length<=100000;simp;omega,G _ ?_⟩;have:sQ C.names = .l (C.ins.map D.str++C.gates.map λg=>D.str g.1):=by
   show D.l (List.map D.str _)=_;rw[en,aO,bC];rfl
  rw[this];rfl
 rintro _ rfl;have Y:(C.names.map D.str).length=C.names.length:=by simp
 refine lC (λF=>∃ m:Aa Af,m.length=2*C.names.length/\m.Nodup/\(∀ x∈m,GoodName x)/\F=oW d C a (.v (sQ C.names)) (.o (sQ m)) .n .n .n .n .n .n .n .n .n) (λN G=>?_) ?_
 .refine⟨rfl,_,rfl,.inl ⟨by decide,by decide⟩,d,c,2*C.names.length,rfl,?_,by omega,λm lx nd gn=>⟨.inl rfl,G _ ⟨m,lx,nd,gn,rfl⟩⟩⟩;have:(2:Int)*(((C.names.map D.str).length:Nat):Int)=((2*C.names.length:Nat):Int):=by rw[Y];omega
  rw[<- this]
 rintro F ⟨m,lx,aw,ah,rfl⟩;have l1:C.names.length=(m.take C.names.length).length:=by rw[bT];omega
 have l2:C.names.length=(m.drop C.names.length).length:=by rw[dH];omega
 obtain⟨Dl,aq,ar⟩:=bN.mp (show (m.take C.names.length++m.drop C.names.length).Nodup by rw[cJ];exact aw);have ez:C.names.zip m=C.names.zip (m.take C.names.length):=by
  have:=kC (l₁:=C.names) (r₁:=[]) (l₂:=m.take C.names.length) (r₂:=m.drop C.names.length) l1;rw[cJ,fJ] at this
  simpa using this
 have aa:=Bf _ _ l1;have ab:=Bf _ _ l2;have m1:∀ o∈C.names,eM (C.names.zip (m.take C.names.length)) o∈m.take C.names.length:=λo O=>yM l1 O
 have m2:∀ o∈C.names,eM (C.names.zip (m.drop C.names.length)) o∈m.drop C.names.length:=λo O=>yM l2 O
 have i1:∀ o∈C.names,∀ o'∈C.names,eM (C.names.zip (m.take C.names.length)) o=eM (C.names.zip (m.take C.names.length)) o'->o=o':=λo O o' J e=>En l1 Dl O J e
 have i2:∀ o∈C.names,∀ o'∈C.names,eM (C.names.zip (m.drop C.names.length)) o=eM (C.names.zip (m.drop C.names.length)) o'->o=o':=λo O o' J e=>En l2 aq O J e
 generalize ht:C.names.zip (m.take C.names.length)=t at ez aa m1 i1;generalize hv:C.names.zip (m.drop C.names.length)=u at ab m2 i2;refine lC (λF=>F=oW d C a (.v (sQ C.names)) (.v (sQ m)) (.o (.k (lK t))) .n .n .n .n .n .n .n .n) (λN G=>?_) ?_
 .refine⟨false,false,_,_,_,rfl,rfl,A2 C.names,by rw[aB];omega,?_⟩;rw[Cv,ez,Fy (by rw[aa];exact X.good.nd)];exact G _ rfl
 rintro _ rfl;refine lC (λF=>F=oW d C a (.v (sQ C.names)) (.v (sQ m)) (.o (.k (lK t))) (.o (.k (lK u))) .n .n .n .n .n .n .n) (λN G=>?_) ?_
 .have ec:nR (m.map D.str) (some (((C.names.map D.str).length:Nat):Int)) none=(m.drop C.names.length).map D.str:=by rw[Y];exact Jo D.str m C.names.length
  refine⟨rfl,rfl,_,rfl,?_⟩;show ∃ b1 b2 ks vs us,_/\uV (.l (nR (m.map D.str) (some (((C.names.map D.str).length:Nat):Int)) none))=_/\_;rw[ec];refine⟨false,false,_,_,_,rfl,rfl,A2 C.names,by rw[aB];omega,?_⟩;rw[Cv,hv,Fy (by rw[ab];exact X.good.nd)];exact G _ rfl
 rintro _ rfl;have R:∀ o∈C.names,o∈t.map (·.1):=λo O=>by rw[aa];exact O
 have U:∀ o∈C.names,o∈u.map (·.1):=λo O=>by rw[ab];exact O
 have gP:∀ g∈C.gates,g.1∈C.names/\∀ p∈g.2.2,p∈C.names:=λg Z=>by
  refine⟨aP _ (aD.mpr ⟨g,Z,rfl⟩),λp hp=>?_⟩;obtain⟨j,hj,rfl⟩:=cR Z;have Q:=(vN X.good.gt (i:=j) (g:=C.gates[j]) (aG hj)).2 p hp;rcases aV.mp Q with q | q
  .exact aM _ q
  .obtain⟨g',an,rfl⟩:=aD.mp q;exact aP _ (aD.mpr ⟨g',iH an,rfl⟩)
 have ai:∀ g∈C.gates,g.2.2.length<=3:=λg Z=>by
  obtain⟨j,hj,rfl⟩:=cR Z;have ak:=(vN X.good.gt (i:=j) (g:=C.gates[j]) (aG hj)).1.ok;rcases ak with q | q | q | q | q<;>omega
 refine lC (λF=>F=oW d C a (.v (sQ C.names)) (.v (sQ m)) (.o (.k (lK t))) (.o (.k (lK u))) (.o (.l [])) .n .n .n .n .n .n) (λN G=>⟨by show 0<=1000;decide,G _ rfl⟩) ?_;rintro _ rfl;refine lC (λF=>∃ S V B,F=oW d C a (.v (sQ C.names)) (.v (sQ m)) (.o (.k (lK t))) (.o (.k (lK u))) (.o (.l ((C.gates.flatMap (mH (eM t) (eM u))).map lF))) S V B .n .n .n) (λN G=>?_) ?_
 .refine vR (C.gates.map lF) (oW d C a (.v (sQ C.names)) (.v (sQ m)) (.o (.k (lK t))) (.o (.k (lK u))) (.o (.l [])) .n .n .n .n .n .n) (λΨ h=>⟨rfl,_,rfl,h⟩)
   (λi F=>∃ S V B,F=oW d C a (.v (sQ C.names)) (.v (sQ m)) (.o (.k (lK t))) (.o (.k (lK u))) (.o (.l (((C.gates.take i).flatMap (mH (eM t) (eM u))).map lF))) S V B .n .n .n) ⟨.n,.n,.n,rfl⟩ ?_ ?_
  .rintro i x F hx ⟨S,V,B,rfl⟩;obtain⟨g,ae,rfl⟩:=Bj hx;have Z:=aR ae;obtain⟨g1,g2⟩:=gP g Z;have a3:=ai g Z;have st:(C.gates.take (i+1)).flatMap (mH (eM t) (eM u))=(C.gates.take i).flatMap (mH (eM t) (eM u))++mH (eM t) (eM u) g:=by
    rw[bX,ae,fB,List.flatMap_append];simp
   have bl:((C.gates.take i).flatMap (mH (eM t) (eM u))).length<=24:=by
    have:=Hs (r:=eM t) (l:=eM u) (C.gates.take i);rw[bT] at this;omega
   rw[st];generalize (C.gates.take i).flatMap (mH (eM t) (eM u))=M at bl |-;have au:∀ p∈g.2.2,PyData.strOk p=true:=λp hp=>X0 (X.good.nm p (g2 p hp)).ls
   have key:∀ (neg:Bool) (ac:Sl->Prop),ac (.v (.b (nb neg (decide (g.2.2=[])))))->tT neg (.t (g.2.2.map D.str)) (.t []) ac:=λneg ac h=>FK neg au h
   refine⟨rfl,rfl,?_⟩;refine lC (λF=>F=oW d C a (.v (sQ C.names)) (.v (sQ m)) (.o (.k (lK t))) (.o (.k (lK u))) (.o (.l ((M++[((if g.2.2=[] then eM t g.1 else eM u g.1),g.2.1,g.2.2.map (eM t))]).map lF))) (.v (.str g.1)) (.v (.str g.2.1)) (.v (.t (g.2.2.map D.str))) .n .n .n) (λN G=>?_) ?_
   .unfold M4 dW dC aC;refine⟨rfl,rfl,by show 0<=1000;decide,?_⟩;refine key false _ ?_;show if (nb false (decide (g.2.2=[])))=true then _ else _
    by_cases z:g.2.2=[]
    .rw[cG z,bE (show nb false true=true from rfl)];refine⟨rfl,_,pJ (R _ g1),?_⟩;dsimp only[vd,List.getElem?_cons_succ,List.getElem?_cons_zero,List.set_cons_succ,List.set_cons_zero];refine nT g.2.2 D.str (λp=>.str (eM t p)) (oW d C a (.v (sQ C.names)) (.v (sQ m)) (.o (.k (lK t))) (.o (.k (lK u))) (.o (.l (M.map lF))) (.v (.str g.1)) (.v (.str g.2.1)) (.v (.t (g.2.2.map D.str))) .n .n .n) (λΨ h=>h) (by omega) (λj p ys Nx e Q W=>⟨rfl,_,pJ (R _ (g2 p (aR e))),Q,W⟩) ?_;refine⟨by show 3<=1000;decide,by show (M.map lF).length<100000;rw[aB];omega,G _ ?_⟩;rw[aO,bE z];show _=oW d C a _ _ _ _ (.o (.l (M.map lF++[.t [.str (eM t g.1),.str g.2.1,.t ((g.2.2.map (eM t)).map D.str)]]))) _ _ _ _ _ _;rw[bC];rfl
    .rw[cF z,bG (show ¬ nb false false=true from bA)];refine⟨rfl,_,pJ (U _ g1),?_⟩;dsimp only[vd,List.getElem?_cons_succ,List.getElem?_cons_zero,List.set_cons_succ,List.set_cons_zero];refine nT g.2.2 D.str (λp=>.str (eM t p)) (oW d C a (.v (sQ C.names)) (.v (sQ m)) (.o (.k (lK t))) (.o (.k (lK u))) (.o (.l (M.map lF))) (.v (.str g.1)) (.v (.str g.2.1)) (.v (.t (g.2.2.map D.str))) .n .n .n) (λΨ h=>h) (by omega) (λj p ys Nx e Q W=>⟨rfl,_,pJ (R _ (g2 p (aR e))),Q,W⟩) ?_;refine⟨by show 3<=1000;decide,by show (M.map lF).length<100000;rw[aB];omega,G _ ?_⟩;rw[aO,bG z];show _=oW d C a _ _ _ _ (.o (.l (M.map lF++[.t [.str (eM u g.1),.str g.2.1,.t ((g.2.2.map (eM t)).map D.str)]]))) _ _ _ _ _ _;rw[bC];rfl
   rintro _ rfl;refine⟨rfl,by show 0<=1000;decide,?_⟩;refine key true _ ?_;show if (nb true (decide (g.2.2=[])))=true then _ else _
   by_cases z:g.2.2=[]
   .rw[cG z,bG (show ¬ nb true true=true from bA)];refine⟨.v (.str g.1),.v (.str g.2.1),.v (.t (g.2.2.map D.str)),?_⟩;have:mH (eM t) (eM u) g=[((if g.2.2=[] then eM t g.1 else eM u g.1),g.2.1,g.2.2.map (eM t))]:=by unfold mH;rw[if_pos z,if_pos z,z];rfl
    rw[this]
   .rw[cF z,bE (show nb true false=true from rfl)];refine⟨rfl,rfl,_,pJ (R _ g1),rfl,_,pJ (U _ g1),rfl,_,pJ (U _ g1),by show 2<=1000;decide,by show 3<=1000;decide,by show ((M++[_]).map lF).length<100000;simp;omega,.v (.str g.1),.v (.str g.2.1),.v (.t (g.2.2.map D.str)),?_⟩;have:mH (eM t) (eM u) g=[((if g.2.2=[] then eM t g.1 else eM u g.1),g.2.1,g.2.2.map (eM t))]++[(eM t g.1,("or" : Af),[eM u g.1,eM u g.1])]:=by unfold mH;rw[if_neg z,if_neg z];rfl
    rw[this,<- bI,aO (l₁:=M++_)];rfl
  .rintro F ⟨S,V,B,rfl⟩;rw[aB,aQ (aJ _)];exact G _ ⟨S,V,B,rfl⟩
 rintro _ ⟨S,V,B,rfl⟩;have af:∀ o∈C.ins,o∈t.map (·.1):=λo O=>R o (aM _ O)
 have ag:∀ o∈C.outs,o∈t.map (·.1):=λo O=>R o (X.good.os o O)
 generalize hG:C.gates.flatMap (mH (eM t) (eM u))=M;refine lC (λF=>F=oW d C a (.v (sQ C.names)) (.v (sQ m)) (.o (.k (lK t))) (.o (.k (lK u))) (.o (.l (M.map lF))) S V B (.v (.t ((C.ins.map (eM t)).map D.str))) .n .n) (λN G=>?_) ?_
 .unfold qR dC aC;refine nT C.ins D.str (λo=>.str (eM t o)) (oW d C a (.v (sQ C.names)) (.v (sQ m)) (.o (.k (lK t))) (.o (.k (lK u))) (.o (.l (M.map lF))) S V B .n .n .n) (λΨ h=>⟨rfl,_,rfl,h⟩) (by omega) (λj o ys Nx e Q W=>⟨rfl,_,pJ (af o (aR e)),Q,W⟩) ?_;refine G _ ?_;rw[bC];rfl
 rintro _ rfl;refine lC (λF=>F=oW d C a (.v (sQ C.names)) (.v (sQ m)) (.o (.k (lK t))) (.o (.k (lK u))) (.o (.l (M.map lF))) S V B (.v (.t ((C.ins.map (eM t)).map D.str))) (.v (.t ((C.outs.map (eM t)).map D.str))) .n) (λN G=>?_) ?_
 .unfold qR dC aC;refine nT C.outs D.str (λo=>.str (eM t o)) (oW d C a (.v (sQ C.names)) (.v (sQ m)) (.o (.k (lK t))) (.o (.k (lK u))) (.o (.l (M.map lF))) S V B (.v (.t ((C.ins.map (eM t)).map D.str))) .n .n) (λΨ h=>⟨rfl,_,rfl,h⟩) (by omega) (λj o ys Nx e Q W=>⟨rfl,_,pJ (ag o (aR e)),Q,W⟩) ?_;refine G _ ?_;rw[bC (l:=C.outs)];rfl
 rintro _ rfl;refine lC (λF=>F=oW d C a (.v (sQ C.names)) (.v (sQ m)) (.o (.k (lK t))) (.o (.k (lK u))) (.o (.l (M.map lF))) S V B (.v (.t ((C.ins.map (eM t)).map D.str))) (.v (.t ((C.outs.map (eM t)).map D.str))) (.v (.t ((a.map λp=>(eM t p.1,eM t p.2)).map mV)))) (λN G=>?_) ?_
 .unfold qR dC aC;refine nT a mV (λp=>.t [.str (eM t p.1),.str (eM t p.2)]) (oW d C a (.v (sQ C.names)) (.v (sQ m)) (.o (.k (lK t))) (.o (.k (lK u))) (.o (.l (M.map lF))) S V B (.v (.t ((C.ins.map (eM t)).map D.str))) (.v (.t ((C.outs.map (eM t)).map D.str))) .n) (λΨ h=>⟨rfl,_,rfl,h⟩) (by omega) (λj p ys Nx e Q W=>?_) ?_
  .have hm:=X.mem p (aR e);exact⟨rfl,rfl,rfl,_,pJ (ag _ hm.1),rfl,_,pJ (af _ hm.2),by show 2<=1000;decide,Q,W⟩
  refine G _ ?_;rw[bC (l:=a)];rfl
 rintro _ rfl;refine⟨rfl,by show 3<=1000;decide,by show 2<=1000;decide,?_⟩;have fin:=ao (eM t) ⟨C.ins.map (eM t),C.gates.flatMap (mH (eM t) (eM u)),C.outs.map (eM t)⟩ (a.map λp=>(eM t p.1,eM t p.2)) (AZ X aj i1 i2 (λx hx y hy e=>ar _ (m1 x hx) _ (m2 y hy) e) λx hx=>⟨ah _ (iH (m1 x hx)),ah _ (List.mem_of_mem_drop (m2 x hx))⟩) (Ys i1) (Qw C.gates);rw[hG] at fin;exact fin
end
def N4 (k:Af) (i:Nat):D:=.t [.str k,.int i]
def xT (p:D) (n:Nat):Nat->D
 | 0=>p
 | m+1=>N4 "gate" (n+m)
def qT (p:D) (n:Nat):Nat->Aa D
 | 0=>[]
 | m+1=>qT p n m++[xT p n m]
theorem Lc (p:D) (n:Nat):∀ m,(qT p n m).length=m
 | 0=>rfl
 | m+1=>by rw[qT,bB,Lc p n m];rfl
def No:Ad->Prop:=λ_=>False
theorem Kp.no (h:∀ a o,xF o=true->H a=some o->g a=some o):Kp No A H g:=⟨λ_ _ z=>False.elim z,h⟩
def Cm (K:kY):Sp:=λh H Q _=>∃ (a:Ad) (u:V) (f:Aa V) (e:Aa D) (p:D) (m:Nat),h=[.ref a,u,.int m]/\H a=some (.l f)/\Reps K No H e f/\Rep K No H p u/\m<=100/\e.length<=1000 /\
 ∀ v c d,(∀ b o,H b=some o->b≠a->c b=some o)->c a=some (.l d)->Reps K No c (e++qT p e.length m) d->Rep K No c (xT p e.length m) v->Q v c
section
variable {P:Ah}{K:kY}
theorem Gj:FnScope ["rows","part","many","turn"] ["rows","part","many"] (lU Do):=oJ
theorem R5 (F:Fun K "_law_led" "_law_led" Do f fd) (T:Txt r):FnOk P w K r base mQ 1 f fd ["rows","part","many"] (Cm K):=by
 refine F.ok Gj (λU H Q E h=>?_) (λZ A N s H U Q E hr h=>?_)
 .obtain⟨a,u,Y,y,p,m,rfl,_⟩:=h;rfl
 .obtain⟨a,u,Y,y,p,m,rfl,j,J,I,hm,hx,k⟩:=h;refine⟨_,nP (Ap dB rfl (xG rfl T.range (lB (pv 2) lI)) (vA (i:=3) Gj.nd rfl (Or.inl rfl)) (nP (B6 (xJ aZ bL bM pT (pv 0) (lB (pv 1) lI))) (qC (nH (i:=1) Gj.nd rfl (Or.inl rfl) (Bc (lB sM (lB (lW sG (rG vG (by rfl) T.len bD (lB (pv 0) lI)) mD) lI))))))) (qC (tY (pv 1))),?_⟩;refine⟨_,rfl,_,rfl,by omega,by omega,?_⟩;rw[cW];refine E2 (lo:=0) (n:=m) (λi R x=>∃ (c:Aa V) (v t:Ab V) (d:V),v=some d/\R=[some (.ref a),v,some (.int m),t]/\(∀ b o,H b=some o->b≠a->x b=some o)/\x a=some (.l c)/\Reps K No x (y++qT p y.length i) c/\Rep K No x (xT p y.length i) d)
   ⟨Y,some u,none,u,rfl,rfl,λb o e _=>e,j,by simpa [qT] using J,I⟩ ?_ ?_
  .rintro i R x hi ⟨c,v,t,d,rfl,rfl,M,B,G,O⟩;have ul:c.length=y.length+i:=by rw[<- G.length,bB,Lc]
   have L:upd x a (.l (c++[d])) a=some (.l (c++[d])):=lE;have W:∀ b o,xF o=true->x b=some o->upd x a (.l (c++[d])) b=some o:=λb o t e=>by
    rw[iO (λz=>?_)]
    .exact e
    .subst z;rw[B] at e;cases e;cases t
   refine⟨_,rfl,.inl ⟨rfl,_,eT.of B⟩,_,rfl,a,_,d,rfl,rfl,B,aW (show c.length<2000 by omega) (by decide),?_⟩;refine⟨_,rfl,a,_,rfl,.inl (eT.of L),_,_,rfl,rfl,by show 2<=sizeLine;decide,λq D=>?_⟩;have C:q≠a:=λz=>by subst z;rw[L] at D;cases D
   have X:∀ b o,xF o=true->x b=some o->upd (upd x a (.l (c++[d]))) q (.t [.str "gate",.int (((c++[d]).length:Nat)-1)]) b=some o:=λb o t e=>by
    rw[iO (lT (W b o t e) D)];exact W b o t e
   refine⟨c++[d],_,_,_,rfl,rfl,λb o e n=>?_,?_,?_,?_⟩
   .have g:=M b o e n;have S:upd x a (.l (c++[d])) b=some o:=by rw[iO n];exact g
    rw[iO (lT S D)];exact S
   .rw[iO C.symm];exact L
   .have:y++qT p y.length (i+1)=(y++qT p y.length i)++[xT p y.length i]:=by rw[qT,bI]
    rw[this];exact (G.mono (Kp.no X)).append (.cons (O.mono (Kp.no X)) .nil)
   .refine .t lE (.cons (.str _) (.cons ?_ .nil));have:((((c++[d]).length:Nat):Int)-1)=((y.length+i:Nat):Int):=by rw[bB,eJ,ul];omega
    show Rep K No _ _ (V.int ((((c++[d]).length:Nat):Int)-1));rw[this];exact .int _
  .rintro R x ⟨c,v,t,d,rfl,rfl,M,B,G,O⟩;exact⟨_,rfl,k _ _ _ M B G O⟩
end
section
variable {K:kY}{L2:mR}
theorem DS.writeF (h:DS K B (g++(.o d,some (.ref a))::L2) H) (f:∀ b o,H b=some o->b≠a->H' b=some o) (r:nZ K (Al B (eN g++a::eN L2)) H' a d'):DS K B (g++(.o d',some (.ref a))::L2) H':=by
 have i:∀ d,eN (g++(Sl.o d,some (V.ref a))::L2)=eN g++a::eN L2:=λd=>qK
 have D:=h.new a (by rw[i];simp);obtain⟨u,O,E⟩:=h.live (a:=a) (by rw[i];simp);have P:Kp (Al B (eN g++a::eN L2)) (Al B (eN g++a::eN L2)) H H':=by
  refine⟨λb o c e=>⟨c,f b o e λz=>?_⟩,λb o t e=>f b o e λz=>?_⟩
  .subst z;exact c.2.1 (by simp)
  .subst z;rw[O] at e;cases e;rw[t] at E;cases E
 have n:=h.nd;rw[i] at n;have S:∀ b,b∈eN g\/b∈eN L2->b≠a:=λb c z=>by
  subst z;obtain⟨X,Q,R⟩:=bN.mp n;rcases c with c | c
  .exact R b c b aE rfl
  .exact (bW.mp Q).1 c
 have s:Dk B.dk H':=by
  rcases h.dk with q | ⟨x,y,q,F⟩
  .exact .inl q
  .refine .inr ⟨x,y,q,?_⟩;obtain⟨W,p,G,L,M,N⟩:=F.ex;have v:=D.2;rw[q] at v;exact⟨W,p,f x _ G λz=>v (by simp[z]),f y _ L λz=>v (by simp[z]),M,N⟩
 refine⟨λb w q m=>?_,s,by rw[i];exact n,λb c=>h.new b (by rw[i] at c |-;exact c),λp k=>?_⟩
 .have:b≠a:=λz=>by subst z;rw[D.1] at q;cases q
  exact f b w (h.fr b w q m) this
 .rw[i];have old:∀ p,p∈g\/p∈L2->rX K (Al B (eN g++a::eN L2)) H' p.1 p.2:=λp A=>by
   have:=h.ok p (by simp only[aV,aF];rcases A with q | q;exact .inl q;exact .inr (.inr q));rw[i] at this;refine this.mono P λb c w q=>f b w q (S b ?_)
   rcases A with z | z
   .exact .inl (sO.mpr ⟨p,z,c⟩)
   .exact .inr (sO.mpr ⟨p,z,c⟩)
  simp only[aV,aF] at k;rcases k with q | q | q
  .exact old p (.inl q)
  .subst q;exact⟨a,rfl,r⟩
  .exact old p (.inr q)
def Oz (g:rB):mB:=λc e d=>g c e λas b=>∃ (i m:Nat) (p:D) (a:Aa D),as=[.al i,.t p,.t (.int m)]/\b[i]?=some (.o (.l a))/\sU a=true/\imm p=true/\m<=100/\a.length<=1000 /\
 d (.v (xT p a.length m)) (b.set i (.o (.l (a++qT p a.length m))))
variable {X:Cx}
theorem GR (h:dE X.K (Oz ta) j H Q):dA X.K ta j H λC g=>Cm X.K (C++[]) g Q E0:=by
 obtain⟨B,ρ,T,Φ,I,hd,U,k⟩:=h;refine⟨B,ρ,T,_,I,hd,U,λas c C g O ok d1 W=>?_⟩;obtain⟨i,m,p,b,rfl,Z,ix,ip,J,hx,x⟩:=W;rw[fJ];cases ok with
 | al M ok =>
  cases ok with
  | t ok =>
   cases ok with
   | t ok =>
    cases ok
    rename_i v u w
    have d1:DS X.K B (c.zip j++((.v p,some u)::(.v (.int m),some w)::T)) g:=d1;obtain⟨y,q,rp⟩:=d1.ok (.v p,some u) (by simp);cases q;obtain⟨y,q,rm⟩:=d1.ok (.v (.int m),some w) (by simp);cases q;have:=rm.int_inv;subst this;have d2:DS X.K B (c.zip j++T) g:=(DS.rmE (E:=[(.v p,some u),(.v (.int m),some (V.int m))]) d1);obtain⟨z,y,l2,N,_,hz,d⟩:=uA O Z;rw[M] at N;cases N;have G:DS X.K B (z++(.o (.l b),some v)::(l2++T)) g:=by rw[hz] at d2;simpa using d2
    obtain⟨a,S,r⟩:=G.ownAt;cases S;obtain⟨us,Y,rx⟩:=r;refine⟨a,u,us,b,p,m,rfl,Y,rx.imm ix,rp.imm ip,J,hx,λv n F f s D A=>?_⟩;have P:=Lw.DS.writeF G (H':=n) (d':=.l (b++qT p b.length m)) f ⟨F,s,D.mono (Kp.no λ_ _ _ e=>e)⟩;have L:=d (.o (.l (b++qT p b.length m))) (some (.ref a));rw[yH M] at L;refine k _ _ v n (by rw[bQ];exact O) ?_ x;have R:DS X.K B ((c.set i (.o (.l (b++qT p b.length m)))).zip j++T) n:=by rw[L];simpa using P
    exact (R.pushF (A.mono (Kp.no λ_ _ _ e=>e))).mid
theorem Lh (F:FnOk X.prog X.w X.K X.mg X.base mQ k f fd U (Cm X.K)) (T:Room k X.A) (C:Gl X x) (J:X.mg x=some (.ref f)) (I:PySem.W.keepIn X.K (.ref f)=true) (r:vC X.K fd U [])
  (o:qM X (e::l) ta) (g:(x == ("__debug__" : Af))=false:=by decide) (j:StB X e l pos:=by exact {}) :
  PD X (.Call (.Name x p) (e::l) [] pos) (Oz ta):=(qO F T C J I r .nil qB o g j).mono λ_ _ _ h=>GR h
end
end Lw
namespace PySem
open PyProof.Rows L2
section
theorem GO (j:s.heap.IsList l items) (q:Q false s):wpAny (model g w) A (notIterableAtAll (.ref l)) Q E s:=by
 have has:wpAny (model g w) A (specialOf (.ref l) "__iter__") (λr a=>r.isSome=true/\a=s) E s :=
  aA (eV j.typeIs (jA F.slot_list_iter.lookup ⟨rfl,rfl⟩))
 unfold notIterableAtAll;refine aA (hO has ?_);rintro r _ ⟨e,rfl⟩;rw[bE e];exact aH q
theorem Op (g:l≠j):∀ (n i:Nat) (s:Ae) (Q:Aa Ac->Ae->Prop),s.heap.IsListIter j l i->s.heap.IsList l items->i+n<=items.size ->
  (∀ p,p.IsListIter j l (i+n)->(∀ b,b≠j->p.get? b=s.heap.get? b)->Q ((items.toList.drop i).take n) { s with heap:=p })->wpAny (model r w) A (draw (.ref j) n) Q E s
 | 0,i,s,Q,hit,_,_,q=>aH (q s.heap hit λ_ _=>rfl)
 | n+1,i,s,Q,hit,d,le,q=>by
  have lt:i<items.size:=by omega
  have this:items[i]?=some items[i]:=eC lt;have parts:items.toList.drop i=items[i]::items.toList.drop (i+1):=by
   rw[List.drop_eq_getElem_cons (by simpa using lt)];simp
  unfold draw;refine aA (jE hit d this λm a f=>?_);refine aA (bS (Op g n (i+1) _ _ a (d.at λo e=>(f.2 l g).trans e) (by omega) λh c k=>aH ?_));have:=q h (by rw[show i+(n+1)=i+1+n by omega];exact c) λb nb=>(k b nb).trans (f.2 b nb)
  rw[parts] at this;exact this
theorem CV (calm:A.handled=none) (j:s.heap.IsList l items) (C:p.length=items.size) (plain:p.findIdx? (·.1)=none)
  (go:∀ r,(∀ b o,s.heap.get? b=some o->r.get? b=some o)->wpAny (model g w) A (assignInOrder (p.map (·.2)) items.toList) Q E { s with heap:=r }):wpAny (model g w) A (unpack (.ref l) p) Q E s:=by
 have lt:l<s.heap.objs.size:=by
  obtain⟨_,e,_⟩:=j;exact aL e
 let a:=s.heap.push { cls:=.type "list_iterator",data:=.fields #[.ref l,.int 0 0] };have same:∀ b o,s.heap.get? b=some o->a.get? b=some o:=λb o e=>aI _ e
 have less:∀ b o,s.heap.get? b=some o->b≠s.heap.objs.size:=λb o e=>bF (aL e)
 have c:a.IsListIter s.heap.objs.size l 0:=⟨_,aX _ rfl,rfl,rfl⟩;have h:a.IsList l items:=j.at λo e=>same _ o e
 unfold unpack;rw[plain,C];refine aA (bS ?_);unfold unpackItems;refine aA (GO j ?_);rw[bG bA];refine aA (bS (eF j ?_));refine aA (bS (Op (bF lt) items.size 0 _ _ c h (by omega) λi d f=>?_));have all:(items.toList.drop 0).take items.size=items.toList:=by rw[List.drop_zero];exact aQ (by simp)
 have n:i.IsList l items:=h.at λo e=>(f l (bF lt)).trans e
 rw[all,bG (by simp)];refine aA (bS (jM calm d n (eW (by omega)) λk m=>?_));simp only[Option.isSome_none,fC,eS];exact aH (go k λb o e=>m b o (less b o e) ((f b (less b o e)).trans (same b o e)))
end
end PySem
namespace L2
open PySem PySem.Spec PyProof.Rows
section
variable {X:Cx}
def Tu (K:kY) (n:Nat) (t:xQ):TG:=λv c H Q=>∃ a b,v = .ref a/\eT K H a b/\b.length=n/\t b c H Q
theorem Yz (l:X.calm=true) (h:vK X g t)
  (o:(assignEach g X.env).length=n:=by rfl) (plain:(assignEach g X.env).findIdx? (·.1)=none:=by rfl) (j:∀ v,assign (.Tuple g k pos) X.env v=(do standAt pos;unpack v (assignEach g X.env)):=by intro _;rfl):PG X (.Tuple g k pos) (Tu X.K n t):=by
 intro b s q H v u Q I r hw;obtain⟨a,m,rfl,e,d,hw⟩:=hw;cases r;obtain⟨f,c,i,x⟩:=I.list e;rw[j];refine aA (jW (CV (I.ok.hd l) i.isList (by rw[o,<- d,aN];exact c.length) plain λw k=>?_));exact h b _ q H m _ Q (I.kept (t':=s.toks) k) (by simpa using c) hw
end
end L2
namespace L2
open PySem PySem.Spec PyProof.Rows Lw
def W4 (n:Nat) (g:wU):sK:=λd c b=>match d with
 | .l a=>a.length=n/\g a c b
 | _=>False
section
variable {X:Cx}
theorem Qi (r:X.calm=true) (h:Bb X m g o) (C:(assignEach g X.env).length=n:=by rfl) (j:(assignEach g X.env).findIdx? (·.1)=none:=by rfl) (p:∀ v,assign (.Tuple g k pos) X.env v=(do standAt pos;unpack v (assignEach g X.env)):=by intro _;rfl):wN X m (.Tuple g k pos) (W4 n o) :=
 (Yz r h C j p).mono λv w H Q b=>b.elim λB u T d t q hd c k=>by
  cases d with
  | l f =>
   obtain⟨a,s,rfl,_,i,e⟩:=hd.valAt.lst_inv;exact⟨a,s,rfl,eT.of i,by rw[<- e.length];exact c.1,B,u,T,f,t,q,e.length,hd.drop.pushs (A:=λ_=>True) e,c.2,k⟩
  | _=>exact c.elim
end
end L2
namespace Lw
open PySem L2
abbrev LP:=Aa (Aa Nat×Nat)
def vS (p:Aa Nat×Nat):D:=.l [.l (p.1.map λn=>D.int (n:Nat)),.int (p.2:Nat)]
def gD (g:LP):Nat:=(g.map λp=>p.1.length).sum
structure LpOk (lp:LP):Prop where
 some:lp≠[]
 sz:∀ p∈lp,p.1≠[]
 n4:gD lp<=4
 dl:∀ p∈lp,∀ n∈p.1,1<=n/\n<=3
 tl:∀ p∈lp,p.2<=19
def Ra:RD:=λb e f=>∃ d c:Ad,b=[d,c]/\e=[.r (.ref d)]/\∀ a,LpOk a->f (.v (.l (a.map vS)))
theorem uE (a b:LP):gD (a++b)=gD a+gD b:=by unfold gD;rw[List.map_append,List.sum_append]
abbrev Pt:=Bool×Nat
def pD (p:Pt):D:=N4 (if p.1=true then "gate" else "in") p.2
def qS (p:Pt) (n:Nat):Nat->Pt
 | 0=>p
 | m+1=>(true,n+m)
def qX (p:Pt) (n:Nat):Nat->Aa Pt
 | 0=>[]
 | m+1=>qX p n m++[qS p n m]
theorem zG (p:Pt) (n:Nat):∀ m,(qX p n m).length=m
 | 0=>rfl
 | m+1=>by rw[qX,bB,zG p n m];rfl
theorem Im (p:Pt) (n:Nat):∀ m,xT (pD p) n m=pD (qS p n m)
 | 0=>rfl
 | m+1=>rfl
theorem Gp (p:Pt) (n:Nat):∀ m,qT (pD p) n m=(qX p n m).map pD
 | 0=>rfl
 | m+1=>by rw[qT,qX,aO,Gp p n m,Im];rfl
theorem Mn (g:Aa Pt):sU (g.map pD)=true:=Qt λd hd=>by
 obtain⟨p,_,rfl⟩:=aD.mp hd;rfl
abbrev Ao:=Aa Pt×Aa (Nat×Nat)
def mW (c:Nat) (g:Aa Nat) (s:Ao):Nat->Ao
 | 0=>s
 | k+1=>((mW c g s k).1++qX (false,c+k) (mW c g s k).1.length (g.getD k 0),(mW c g s k).2++[((qS (false,c+k) (mW c g s k).1.length (g.getD k 0)).2,c+(k+1)%g.length)])
theorem G6 (h:∀ n∈ds,n<=3):∀ k,(mW c ds s k).1.length<=s.1.length+3*k/\(mW c ds s k).2.length=s.2.length+k
 | 0=>⟨aJ _,rfl⟩
 | k+1=>by
  obtain⟨a,b⟩:=G6 (c:=c) (s:=s) h k;have:ds.getD k 0<=3:=by
   rw[dR];cases e:ds[k]? with
   | none=>simp
   | some n=>exact h n (aR e)
  simp only[mW,bB,zG,eJ];omega
def E8 (st:Ao×Nat) (p:Aa Nat×Nat):Ao×Nat:=(mW st.2 p.1 st.1 p.1.length,st.2+p.1.length)
def mI (g:LP):Ao×Nat:=g.foldl E8 (([],[]),0)
theorem Ge (g:LP) (p:Aa Nat×Nat):mI (g++[p])=E8 (mI g) p:=by unfold mI;rw[List.foldl_append];rfl
theorem xU {lp:LP}(h:∀ p∈lp,∀ n∈p.1,n<=3):∀ i,(mI (lp.take i)).1.1.length<=3*gD (lp.take i)/\(mI (lp.take i)).1.2.length=gD (lp.take i)/\(mI (lp.take i)).2=gD (lp.take i)
 | 0=>by simp[mI,gD]
 | i+1=>by
  obtain⟨b,d,f⟩:=xU h i;rw[bX];cases e:lp[i]? with
  | none=>simpa using ⟨b,d,f⟩
  | some p =>
   simp only[fB];rw[Ge,uE];obtain⟨g1,g2⟩:=G6 (c:=(mI (lp.take i)).2) (ds:=p.1) (s:=(mI (lp.take i)).1) (h p (aR e)) p.1.length;have a:gD [p]=p.1.length:=by simp[gD]
   rw[a];unfold E8;simp only;omega
def sN (n:Nat) (st:(Aa Pt×Aa Nat)×Nat) (p:Aa Nat×Nat):(Aa Pt×Aa Nat)×Nat :=
 (if 0<min p.2 (24-st.1.1.length)/\n+st.1.2.length<6 then (st.1.1++qX (false,st.2) st.1.1.length (min p.2 (24-st.1.1.length)),st.1.2++[(qS (false,st.2) st.1.1.length (min p.2 (24-st.1.1.length))).2]) else st.1,st.2+p.1.length)
def oQ (n:Nat) (rows:Aa Pt) (g:LP):(Aa Pt×Aa Nat)×Nat:=g.foldl (sN n) ((rows,[]),0)
theorem Ma (n:Nat) (rows:Aa Pt) (g:LP) (p:Aa Nat×Nat):oQ n rows (g++[p])=sN n (oQ n rows g) p:=by unfold oQ;rw[List.foldl_append];rfl
theorem Zs {st:(Aa Pt×Aa Nat)×Nat}(g:st.1.1.length<=24) (j:n+st.1.2.length<=6):(sN n st p).1.1.length<=24/\n+(sN n st p).1.2.length<=6:=by
 unfold sN;by_cases z:0<min p.2 (24-st.1.1.length)/\n+st.1.2.length<6
 .rw[bE z];simp only[bB,zG,eJ];omega
 .rw[bG z];exact⟨g,j⟩
theorem L5 (j:rows.length<=24) (l:n<=6):∀ g:LP,(oQ n rows g).1.1.length<=24/\n+(oQ n rows g).1.2.length<=6:=by
 have go:∀ (g:LP) (st:(Aa Pt×Aa Nat)×Nat),st.1.1.length<=24->n+st.1.2.length<=6->(g.foldl (sN n) st).1.1.length<=24/\n+(g.foldl (sN n) st).1.2.length<=6:=by
  intro g;induction g with
  | nil=>exact λst a b=>⟨a,b⟩
  | cons p g e =>
   intro st a b;obtain⟨c,d⟩:=Zs (p:=p) a b;exact e _ c d
 exact λg=>go g _ j (by simpa using l)
def lN (g:LP):Aa (Nat×Nat):=(mI g).1.2
def lR (g:LP):Aa Pt:=(oQ (lN g).length (mI g).1.1 g).1.1
def nJ (g:LP):Aa Nat:=(oQ (lN g).length (mI g).1.1 g).1.2
def Cc (n:Nat) (g:Aa Pt):Prop:=∀ (i:Nat) (p:Pt),g[i]?=some p->if p.1=true then p.2<i else p.2<n
theorem Cc.led (h:Cc n g) (l:a<n):∀ m,Cc n (g++qX (false,a) g.length m)
 | 0=>by simpa [qX] using h
 | m+1=>by
  have b:=h.led l m;rw[qX,<- bI];intro i p e;by_cases z:i<(g++qX (false,a) g.length m).length
  .rw[eY z] at e;exact b i p e
  .rw[cS (by omega)] at e;have c:(g++qX (false,a) g.length m).length=g.length+m:=by rw[bB,zG]
   cases q:i-(g++qX (false,a) g.length m).length with
   | succ j=>rw[q] at e;simp at e
   | zero =>
    rw[q] at e;simp only[gR,kO] at e;subst e;cases m with
    | zero=>simpa [qS] using l
    | succ m=>simp only[qS,eU];omega
theorem Q5 (h:1<=m):(qS p n m).2=n+m-1:=by
 cases m with
 | zero=>omega
 | succ m=>simp[qS]
structure LpW (n:Nat) (rs:List Pt) (os:List Nat):Prop where
 wf:Cc n rs
 inc:os.Pairwise (·<·)
 lt:∀ o∈os,o<rs.length
theorem LpW.led {os:Aa Nat}(h:LpW n g os) (l:a<n) (j:1<=m):LpW n (g++qX (false,a) g.length m) (os++[(qS (false,a) g.length m).2]):=by
 have b:(g++qX (false,a) g.length m).length=g.length+m:=by rw[bB,zG]
 refine⟨h.wf.led l m,List.pairwise_append.mpr ⟨h.inc,List.pairwise_singleton _ _,λx d y e=>?_⟩,λo c=>?_⟩
 .rw[aU.mp e,Q5 j];have:=h.lt x d;omega
 .rw[b];rcases aV.mp c with q | q
  .have:=h.lt o q;omega
  .rw[aU.mp q,Q5 j];omega
theorem Sh {g:Aa Nat}{k:Nat}(h:k<g.length):g.getD k 0∈g:=by
 rw[dR,aG h];exact dX h
theorem Ot (h:LpW n s.1 (s.2.map (·.1))) (hd:∀ m∈g,1<=m) (l:c+g.length<=n):∀ k,k<=g.length->LpW n (mW c g s k).1 ((mW c g s k).2.map (·.1))/\(mW c g s k).2.map (·.2)=s.2.map (·.2)++(List.range k).map λj=>c+(j+1)%g.length
 | 0,_=>⟨h,by simp[mW]⟩
 | k+1,d=>by
  obtain⟨a,b⟩:=Ot h hd l k (by omega);refine⟨?_,?_⟩
  .show LpW n ((mW c g s k).1++_) (((mW c g s k).2++[(_,_)]).map λq:Nat×Nat=>q.1);rw[aO];exact a.led (by omega) (hd _ (Sh (by omega)))
  .show (((mW c g s k).2++[(_,_)]).map λq:Nat×Nat=>q.2)=_;rw[aO,b,hX,aO,bI];rfl
theorem U0 (g:i<l) (o:j<l) (e:(i+1)%l=(j+1)%l):i=j:=by
 by_cases a:i+1=l
 .by_cases b:j+1=l
  .omega
  .rw[a,Nat.mod_self,jV (show j+1<l by omega)] at e;omega
 .by_cases b:j+1=l
  .rw[b,Nat.mod_self,jV (show i+1<l by omega)] at e;omega
  .rw[jV (show i+1<l by omega),jV (show j+1<l by omega)] at e;omega
theorem Su (c l:Nat):((List.range l).map λj=>c+(j+1)%l).Nodup:=rR List.nodup_range λi a j b e=>U0 (cZ.mp a) (cZ.mp b) (by omega)
theorem zY (l:∀ p∈g,∀ n∈p.1,1<=n) (o:∀ p∈g,∀ n∈p.1,n<=3):∀ i,i<=g.length->LpW (gD g) (mI (g.take i)).1.1 ((mI (g.take i)).1.2.map (·.1))/\((mI (g.take i)).1.2.map (·.2)).Nodup/\∀ x∈(mI (g.take i)).1.2.map (·.2),x<gD (g.take i)
 | 0,_=>⟨⟨λi p e=>by simp[mI] at e,by simp[mI],by simp[mI]⟩,by simp[mI],by simp[mI]⟩
 | i+1,u=>by
  obtain⟨w,s,lt⟩:=zY l o i (by omega);obtain⟨_,_,a⟩:=xU o i;have e:g[i]?=some g[i]:=aG (by omega);have f:g.take (i+1)=g.take i++[g[i]]:=by rw[bX,e];rfl
  have d:gD [g[i]]=g[i].1.length:=by simp[gD]
  have le:gD (g.take i)+g[i].1.length<=gD g:=by
   have:=uE (g.take (i+1)) (g.drop (i+1));rw[cJ,f,uE,d] at this;omega
  rw[f,Ge,uE,d];obtain⟨t,h⟩:=Ot (c:=(mI (g.take i)).2) w (l _ (dX _)) (by rw[a];exact le) g[i].1.length (aJ _);refine⟨t,?_,?_⟩
  .show ((mW _ _ _ _).2.map (·.2)).Nodup;rw[h,a];refine bN.mpr ⟨s,Su _ _,λx b y m=>?_⟩;have:=lt x b;obtain⟨j,_,rfl⟩:=aD.mp m;omega
  .show ∀ x∈(mW _ _ _ _).2.map (·.2),_;rw[h,a];intro x b;rcases aV.mp b with q | q
   .have:=lt x q;omega
   .obtain⟨j,k,rfl⟩:=aD.mp q;have:=Nat.mod_lt (j+1) (show 0<g[i].1.length by have:=cZ.mp k;omega);omega
theorem J4 (j:∀ p∈g,p.1≠[]) (h:LpW (gD g) rows as):∀ i,i<=g.length->LpW (gD g) (oQ n rows (g.take i)).1.1 (as++(oQ n rows (g.take i)).1.2)/\(oQ n rows (g.take i)).2=gD (g.take i)
 | 0,_=>⟨by simpa [oQ] using h,by simp[oQ,gD]⟩
 | i+1,d=>by
  obtain⟨w,c⟩:=J4 j h i (by omega);have e:g[i]?=some g[i]:=aG (by omega);have b:g.take (i+1)=g.take i++[g[i]]:=by rw[bX,e];rfl
  have a:gD [g[i]]=g[i].1.length:=by simp[gD]
  have pos:=List.length_pos_iff.mpr (j g[i] (dX _));have le:gD (g.take i)+g[i].1.length<=gD g:=by
   have:=uE (g.take (i+1)) (g.drop (i+1));rw[cJ,b,uE,a] at this;omega
  rw[b,Ma,uE,a];refine⟨?_,by show (oQ n rows (g.take i)).2+g[i].1.length=_;rw[c]⟩;unfold sN;by_cases z:0<min g[i].2 (24-(oQ n rows (g.take i)).1.1.length)/\n+(oQ n rows (g.take i)).1.2.length<6
  .rw[bE z,<- bI];exact w.led (by rw[c];omega) z.1
  .rw[bG z];exact w
def mN (g:Aa Af) (i:Nat):Af:=g.getD i ""
def Fx (g:Aa Af) (n k:Nat) (p:Pt):Af×Af×Aa Af:=(mN g (n+k),if k%2=0 then "and" else "or",[mN g (p.2+if p.1=true then n else 0),mN g (p.2+if p.1=true then n else 0)])
def nU (j:Aa Af) (n:Nat) (g:Aa Pt):nI:=g.zipIdx.map λp=>Fx j n p.2 p.1
def oN (j:Aa Af) (g:LP):Aa (Af×Af):=(lN g).map λp=>(mN j (gD g+p.1),mN j p.2)
def rV (j:Aa Af) (g:LP):Cel:=⟨j.take (gD g),nU j (gD g) (lR g),(oN j g).map (·.1)++(nJ g).map λo=>mN j (gD g+o)⟩
def Kb:RD:=λe f h=>∃ (d c:Ad) (a:LP),e=[d,c]/\f=[.r (.ref d),.l (a.map vS)]/\LpOk a/\∀ b:Aa Af,b.length=gD a+(lR a).length->b.Nodup->(∀ x∈b,GoodName x)->h (.v (lX (rV b a) (oN b a)))
theorem Vl:(["k","deck"]:Aa Af).Nodup:=by decide +kernel
theorem Q3:(["out","into","names","count"]:Aa Af).Nodup:=by decide +kernel
theorem Z6:(["pair"]:Aa Af).Nodup:=by decide +kernel
theorem Wg:(["out","names","count"]:Aa Af).Nodup:=by decide +kernel
section
variable {P:Ah}{K:kY}
theorem yZ:FnScope ["deck","left","loops","size"] ["deck"] (lU Es):=oJ
theorem GU (T:Txt j) (g:Kn P w K j base 1 "_law_take" uH ["deck","many"] Aq):oI P w K j base 2 "_law_loops" Es ["deck"] Ra:=by
 refine oU yZ λf W A R s H E J U Φ k hu Y=>?_
 obtain⟨d,c,rfl,rfl,Q⟩:=Y;refine⟨_,(hH (lG 1 yZ.nd (nS mO mL gV (lV g k (dK (eH 0) (dK gV dT))))) (hH (lG 2 yZ.nd (nX dT)) (hH (xA dB (vX Cn Ds (pv 1) gV) (hH (lG 3 yZ.nd (nS mO mL gV (lV g k (dK (eH 0) (dK (eH 1) dT))))) (hH (lG 1 yZ.nd (mZ sG vB 1 (eH 3))) (lY (rL (pW aZ bL bM pT rK (pv 2) (dK (nX (dK (nV ["k"] ["deck"] [0] (Ax (by rfl) T.range (eH 3)) (λ_ _ _ _ _=>(lQ 0 Vl)) (λ_ _ _ _ _=>(nS mO mL gV (lV g k (dK (eH 1) (dK gV dT)))))) (dK (lV g k (dK (eH 0) (dK gV dT))) dT))) dT))))))) (lY (nO (eH 2)))))),?_⟩;refine lC (λb=>∃ n:Nat,1<=n/\n<=4/\b=[.v (.r (.ref d)),.v (.int n),.n,.n]) (λN m=>?_) ?_
 .exact⟨d,c,4,rfl,rfl,by decide,by decide,λr k=>⟨.inl rfl,m _ ⟨r+1,by omega,by omega,by rw[show (((r+1:Nat)):Int)=1+(r:Int) by omega];rfl⟩⟩⟩
 rintro _ ⟨n,n1,n4,rfl⟩;refine lC (λb=>b=[.v (.r (.ref d)),.v (.int n),.o (.l []),.n]) (λN m=>⟨by show 0<=1000;decide,m _ rfl⟩) ?_;rintro _ rfl;refine lC (λb=>∃ (a:LP) (V u:Sl),LpOk a/\b=[.v (.r (.ref d)),V,.o (.l (a.map vS)),u]) (λN m=>?_) ?_
 .refine⟨λb=>∃ (a:LP) (left:Nat) (u:Sl),left+gD a=n/\(∀ p∈a,p.1≠[])/\(∀ p∈a,∀ n∈p.1,1<=n/\n<=3)/\(∀ p∈a,p.2<=19)/\b=[.v (.r (.ref d)),.v (.int left),.o (.l (a.map vS)),u],λb=>match b with | [_,.v (.int l),_,_]=>l.toNat | _=>0,⟨[],n,.n,by simp[gD],by simp,by simp,by simp,rfl⟩,?_⟩;rintro b ⟨a,left,u,B,y,G,L,rfl⟩;refine⟨rfl,?_⟩;show if decide ((0:Int)<(left:Int))=true then _ else _
  by_cases z:(0:Int)<(left:Int)
  .rw[cG z,bE rfl];refine⟨d,c,left,rfl,rfl,by omega,by omega,λr k=>⟨.inl rfl,rfl,?_⟩⟩;have X:(left:Int)-(1+(r:Int))=((left-(r+1):Nat):Int):=by omega
   have e2:(1+(r:Int)).toNat=r+1:=by omega
   refine⟨rfl,by omega,by omega,λi S F=>(∃ e:Aa Nat,S=e.map (λn=>D.int (n:Nat))/\e.length=i/\∀ n∈e,1<=n/\n<=3)/\F=[.v (.r (.ref d))],⟨⟨[],rfl,rfl,by simp⟩,rfl⟩,?_,?_⟩
   .rintro i x S F C _ ⟨⟨e,rfl,h,M⟩,rfl⟩;have hi:i<r+1:=by have:=(A6 C).1;omega
    refine⟨d,c,3,rfl,rfl,by decide,by decide,λq O=>⟨.inl rfl,by rw[aB];omega,⟨e++[q+1],?_,by simp[h],λn B=>?_⟩,rfl⟩⟩
    .rw[aO,show (1:Int)+(q:Int)=((q+1:Nat):Int) by omega];rfl
    .rcases aV.mp B with z | z
     .exact M n z
     .rw[aU.mp z];omega
   .rintro S F _ ⟨⟨e,rfl,h,M⟩,rfl⟩;have h:e.length=r+1:=by rw[h];simp[qI];omega
    refine⟨d,c,20,rfl,rfl,by decide,by decide,λq O=>⟨.inl rfl,by show 2<=1000;decide,?_⟩⟩;have Z:a.length<=gD a:=by
     unfold gD;clear B G L;induction a with
     | nil=>simp
     | cons p a I =>
      have:=I λq O=>y q (aK _ O)
      have:=List.length_pos_iff.mpr (y p aE);simp;omega
    refine⟨by show (a.map vS).length<100000;rw[aB];omega,⟨a++[(e,q)],left-(r+1),.v (.int (1+(r:Int))),?_,?_,?_,?_,?_⟩,?_⟩
    .rw[uE,show gD [(e,q)]=r+1 by simp[gD,h]];omega
    .intro p t;rcases aV.mp t with z | z
     .exact y p z
     .rw[aU.mp z];intro z;simp only at z;rw[z] at h;simp at h
    .intro p t;rcases aV.mp t with z | z
     .exact G p z
     .rw[aU.mp z];exact M
    .intro p t;rcases aV.mp t with z | z
     .exact L p z
     .rw[aU.mp z];show q<=19;omega
    .rw[aO,<- X];rfl
    .show ((left:Int)-(1+(r:Int))).toNat<((left:Nat):Int).toNat;omega
  .rw[cF z,bG (by decide)];have:left=0:=by omega
   refine m _ ⟨a,_,_,⟨?_,y,by omega,G,L⟩,rfl⟩;rintro rfl;simp[gD] at B;omega
 rintro _ ⟨a,V,u,ok,rfl⟩;exact Q a ok
def oF (g:Aa Pt):D:=.l (g.map pD)
def oV (g:Aa (Nat×Nat)):D:=.l (g.map λp=>D.t [.int (p.1:Nat),.int (p.2:Nat)])
def qE (g:Aa Nat):D:=.l (g.map λn=>D.int (n:Nat))
theorem Mo {p:Prop} [Decidable p] (h:p){a b:Prop}(g:a):if decide p=true then a else b:=by rw[cG h];exact g
theorem N9 {p:Prop} [Decidable p] (h:¬ p){a b:Prop}(g:b):if decide p=true then a else b:=by rw[cF h];exact g
theorem Zr {g:Aa Pt}{i:Nat}{x:D}(h:(vU (g.map pD))[i]?=some x):∃ p,g[i]?=some p/\x = .t [.int i,pD p]:=by
 obtain⟨a,_⟩:=aT.mp h;rw[Ez,aB] at a;have:=Mq (xs:=g.map pD) (i:=i) (d:=pD g[i]) (by rw[bK,aG a];rfl);rw[this] at h;cases h;exact⟨_,aG a,rfl⟩
theorem Ay {g:Aa Af}{i:Nat}(h:i<g.length):mF (g.map D.str) (i:Int)=some (.str (mN g i)):=pQ (by rw[bK,aG h];simp[mN,h])
abbrev nF (d:Ad) (J:LP) (rows along p count g tail k part first many names j kind I one o C:Sl):Aa Sl:=[.v (.r (.ref d)),.v (.l (J.map vS)),rows,along,p,count,g,tail,k,part,first,many,names,j,kind,I,one,o,C]
theorem oH:FnScope ["deck","loops","rows","along","outs","count","delays","tail","k","part","first","many","names","gates","kind","at","one","pairs","told"] ["deck","loops"] (lU Ce):=oJ
theorem S8 (T:Txt mg) (r:Gd K mg "_law_led" Do ["rows","part","many"] fL ar) (I:FnOk P w K mg base mQ 1 fL ar ["rows","part","many"] (Cm K)) (J:Kn P w K mg base 3 "_law_names" xB ["deck","many"] zH):oI P w K mg base 4 "_law_looped" Ce ["deck","loops"] Kb:=by
 refine oU oH λf a4 A az s H E dk ds Φ hr hu hR=>?_
 obtain⟨d,c,u,rfl,rfl,ok,ax⟩:=hR;refine⟨_,(hH (lG 2 oH.nd (nX dT)) (hH (lG 3 oH.nd (nX dT)) (hH (lG 4 oH.nd (nX dT)) (hH (lG 5 oH.nd gV) (hH (tS (nG (eH 1)) (Qi (n:=2) rfl (mU (lQ 6 oH.nd) (mU (lQ 7 oH.nd) rE))) (hH (tS (Ax (by rfl) T.range (mT nM nN T.len bD (dK (eH 6) dT))) (lQ 8 oH.nd) (hH (lG 9 oH.nd (Lh I (hr.mono (by decide)) (by rfl) r.m r.k r.b (nW (pv 2) (dK (mY (dK sE (dK (mZ mO mL 5 (eH 8)) dT))) (dK (lA hu 6 (eH 8)) dT))))) (lY (rL (pW aZ bL bM pT rK (pv 3) (dK (mY (dK (lA hu 9 gV) (dK (mZ mO mL 5 (nS qG F5 (mZ mO mL 8 gV) (mT nM nN T.len bD (dK (eH 6) dT)))) dT))) dT)))))) (lY (lG 5 oH.nd (mZ mO mL 5 (mT nM nN T.len bD (dK (eH 6) dT))))))) (hH (lG 10 oH.nd gV) (hH (tS (nG (eH 1)) (Qi (n:=2) rfl (mU (lQ 6 oH.nd) (mU (lQ 7 oH.nd) rE))) (hH (lG 11 oH.nd (mT (I3 rfl) Gg T.min iB (dK (eH 7) (dK (nS sG vB gV (mT nM nN T.len bD (nW (pv 2) dT))) dT)))) (hH (vM (G7 (Rm (vX Cn Ds (pv 11) gV) (Rq (uD Jv Iq (nS mO mL (mT nM nN T.len bD (nW (pv 3) dT)) (mT nM nN T.len bD (nW (pv 4) dT))) gV)))) (lY (rL (pW aZ bL bM pT rK (pv 4) (dK (vD hu (Lh I (hr.mono (by decide)) (by rfl) r.m r.k r.b (nW (pv 2) (dK (mY (dK sE (dK (eH 10) dT))) (dK (eH 11) dT)))) gV) dT)))) uS) (lY (lG 10 oH.nd (mZ mO mL 10 (mT nM nN T.len bD (dK (eH 6) dT)))))))) (hH (lG 12 oH.nd (lV J hr (dK (eH 0) (dK (mZ mO mL 5 (mT nM nN T.len bD (nW (pv 2) dT))) dT)))) (hH (lG 13 oH.nd (nX dT)) (hH (tS (GL (by rfl) T.enumerate (eH 2)) (rM (n:=2) rfl (mU (lQ 8 oH.nd) (mU (rM (n:=2) rfl (mU (lQ 14 oH.nd) (mU (lQ 15 oH.nd) rE))) rE))) (hH (lG 16 oH.nd (lA hu 12 (mZ mO mL 15 (vD hu (nX (dK gV (dK (eH 5) dT))) (nL EC Uf T.int PyProof.Rows.boot_int (dK (BO (zR hr.units) (sP false) (pv 14) sE) dT)))))) (lY (rL (pW aZ bL bM pT rK (pv 13) (dK (mY (dK (lA hu 12 (mZ mO mL 5 (eH 8))) (dK (vD hu (nX (dK sE (dK sE dT))) (mZ qG F5 8 gV)) (dK (mY (dK (eH 16) (dK (eH 16) dT))) dT)))) dT)))))) (hH (lG 17 oH.nd (nL oX pH T.tuple bH (dK (nV ["out","into"] ["names","count"] [12,5] (nG (eH 3)) (λ_ _ _ _ _=>(rM (n:=2) rfl (mU (lQ 0 Q3) (mU (lQ 1 Q3) rE)))) (λ_ _ _ _ _=>(mY (dK (lA hu 2 (mZ mO mL 3 (eH 0))) (dK (lA hu 2 (eH 1)) dT))))) dT))) (hH (lG 18 oH.nd (nS mO mL (nV ["pair"] [] [] (nG (eH 17)) (λ_ _ _ _ _=>(lQ 0 Z6)) (λ_ _ _ _ _=>(lA hu 0 gV))) (nV ["out"] ["names","count"] [12,5] (nG (eH 4)) (λ_ _ _ _ _=>(lQ 0 Wg)) (λ_ _ _ _ _=>(lA hu 1 (mZ mO mL 2 (eH 0))))))) (lY (nO (mY (dK (mY (dK (nL oX pH T.tuple bH (dK (tH sZ tQ (pv 12) uC (sF (eH 5))) dT)) (dK (nL oX pH T.tuple bH (nW (pv 13) dT)) (dK (nL oX pH T.tuple bH (dK (eH 18) dT)) dT)))) (dK (eH 17) dT))))))))))))))))),?_⟩;refine lC (λz=>z=nF d u (.o (.l [])) .n .n .n .n .n .n .n .n .n .n .n .n .n .n .n .n) (λN B=>⟨by show 0<=1000;decide,B _ rfl⟩) ?_;rintro _ rfl;refine lC (λz=>z=nF d u (.o (.l [])) (.o (.l [])) .n .n .n .n .n .n .n .n .n .n .n .n .n .n .n) (λN B=>⟨by show 0<=1000;decide,B _ rfl⟩) ?_;rintro _ rfl;refine lC (λz=>z=nF d u (.o (.l [])) (.o (.l [])) (.o (.l [])) .n .n .n .n .n .n .n .n .n .n .n .n .n .n) (λN B=>⟨by show 0<=1000;decide,B _ rfl⟩) ?_;rintro _ rfl;refine lC (λz=>z=nF d u (.o (.l [])) (.o (.l [])) (.o (.l [])) (.v (.int 0)) .n .n .n .n .n .n .n .n .n .n .n .n .n) (λN B=>B _ rfl) ?_;rintro _ rfl;have n4:=ok.n4;have d3:∀ p∈u,∀ n∈p.1,n<=3:=λp U n hn=>(ok.dl p U n hn).2
 have ai:∀ i,gD (u.take i)<=4:=λi=>by
  have:=uE (u.take i) (u.drop i);rw[cJ] at this;omega
 refine lC (λz=>∃ V X F Q,z=nF d u (.o (oF (mI u).1.1)) (.o (oV (lN u))) (.o (.l [])) (.v (.int (gD u:Nat))) V X F Q .n .n .n .n .n .n .n .n .n) (λN B=>?_) ?_
 .refine vR (u.map vS) (nF d u (.o (.l [])) (.o (.l [])) (.o (.l [])) (.v (.int 0)) .n .n .n .n .n .n .n .n .n .n .n .n .n) (λΨ h=>h)
   (λi z=>∃ V X F Q,z=nF d u (.o (oF (mI (u.take i)).1.1)) (.o (oV (mI (u.take i)).1.2)) (.o (.l [])) (.v (.int ((mI (u.take i)).2:Nat))) V X F Q .n .n .n .n .n .n .n .n .n) ⟨.n,.n,.n,.n,rfl⟩ ?_ ?_
  .rintro i x z hx ⟨V,X,F,Q,rfl⟩;obtain⟨p,U,rfl⟩:=Bj hx;have ac:=aR U;obtain⟨b1,b2,b3⟩:=xU d3 i;have b4:=ai i;have b5:=ai (i+1);rw[bX,U,fB,uE,show gD [p]=p.1.length by simp[gD]] at b5;have st:mI (u.take (i+1))=E8 (mI (u.take i)) p:=by rw[bX,U,fB,Ge]
   rw[st];generalize mI (u.take i)=S at b1 b2 b3 |-;obtain⟨S,cnt⟩:=S;refine⟨rfl,rfl,?_⟩;refine lC (λz=>∃ F Q,z=nF d u (.o (oF (mW cnt p.1 S p.1.length).1)) (.o (oV (mW cnt p.1 S p.1.length).2)) (.o (.l [])) (.v (.int (cnt:Nat))) (.v (.l (p.1.map λn=>D.int (n:Nat)))) (.v (.int (p.2:Nat))) F Q .n .n .n .n .n .n .n .n .n) (λN B=>?_) ?_
   .have len:(p.1.map λn=>D.int (n:Nat)).length=p.1.length:=by simp
    refine vR (qI 0 p.1.length) (nF d u (.o (oF S.1)) (.o (oV S.2)) (.o (.l [])) (.v (.int (cnt:Nat))) (.v (.l (p.1.map λn=>D.int (n:Nat)))) (.v (.int (p.2:Nat))) F Q .n .n .n .n .n .n .n .n .n) (λΨ h=>⟨rfl,_,rfl,by rw[len];omega,by rw[len];omega,by rw[len,cW];exact h⟩)
     (λk z=>∃ F Q,z=nF d u (.o (oF (mW cnt p.1 S k).1)) (.o (oV (mW cnt p.1 S k).2)) (.o (.l [])) (.v (.int (cnt:Nat))) (.v (.l (p.1.map λn=>D.int (n:Nat)))) (.v (.int (p.2:Nat))) F Q .n .n .n .n .n .n .n .n .n) ⟨F,Q,rfl⟩ ?_ ?_
    .rintro k x z hx ⟨F,Q,rfl⟩;obtain⟨hk,rfl⟩:=A6 hx;obtain⟨g1,g2⟩:=G6 (c:=cnt) (s:=S) (d3 p ac) k;have gk:p.1[k]?=some (p.1.getD k 0):=by rw[dR,aG hk];rfl
     have m3:=d3 p ac _ (aR gk);have au:mF (p.1.map λn=>D.int (n:Nat)) (0+(k:Int))=some (.int (p.1.getD k 0:Nat)):=by
      rw[Int.zero_add];exact pQ (by rw[bK,gk];rfl)
     have e1:((cnt:Nat):Int)+(0+(k:Int))=((cnt+k:Nat):Int):=by omega
     simp only[] at b1 b2 b3;refine lC (λz=>z=nF d u (.o (oF (mW cnt p.1 S (k+1)).1)) (.o (oV (mW cnt p.1 S k).2)) (.o (.l [])) (.v (.int (cnt:Nat))) (.v (.l (p.1.map λn=>D.int (n:Nat)))) (.v (.int (p.2:Nat))) (.v (.int (0+(k:Int)))) (.v (pD (qS (false,cnt+k) (mW cnt p.1 S k).1.length (p.1.getD k 0)))) .n .n .n .n .n .n .n .n .n) (λN B=>?_) ?_
     .refine⟨rfl,rfl,by show 2<=1000;decide,rfl,_,au,2,p.1.getD k 0,pD (false,cnt+k),(mW cnt p.1 S k).1.map pD,?_,rfl,Mn _,rfl,by omega,by rw[aB];omega,B _ ?_⟩
      .show [Ar.al 2,.t (.t [.str "in",.int (((cnt:Nat):Int)+(0+(k:Int)))]),.t (.int (p.1.getD k 0:Nat))]=_;rw[e1];rfl
      .rw[aB,Im,Gp,<- aO];rfl
     rintro _ rfl;have e2:(0+(k:Int)+1)%(((p.1.map λn=>D.int (n:Nat)).length:Nat):Int)=(((k+1)%p.1.length:Nat):Int):=by
      rw[len,show (0:Int)+(k:Int)+1=((k+1:Nat):Int) by omega];simp
     refine⟨rfl,rfl,_,rfl,rfl,rfl,rfl,_,rfl,by rw[len];omega,by show 2<=1000;decide,?_⟩;refine⟨by show ((mW cnt p.1 S k).2.map _).length<100000;rw[aB];omega,.v (.int (0+(k:Int))),.v (pD (qS (false,cnt+k) (mW cnt p.1 S k).1.length (p.1.getD k 0))),?_⟩;have e3:oV (mW cnt p.1 S (k+1)).2 = .l (((mW cnt p.1 S k).2.map λp=>D.t [.int (p.1:Nat),.int (p.2:Nat)])++[.t [.int ((qS (false,cnt+k) (mW cnt p.1 S k).1.length (p.1.getD k 0)).2:Nat),.int (((cnt:Nat):Int)+(0+(k:Int)+1)%(((p.1.map λn=>D.int (n:Nat)).length:Nat):Int))]]):=by
      rw[e2];show D.l (List.map _ ((mW cnt p.1 S k).2++[((qS (false,cnt+k) (mW cnt p.1 S k).1.length (p.1.getD k 0)).2,cnt+(k+1)%p.1.length)]))=_;rw[aO];rfl
     rw[e3];rfl
    .rintro z h;rw[show (qI 0 p.1.length).length=p.1.length by simp[qI]] at h;exact B _ h
   rintro _ ⟨F,Q,rfl⟩;refine⟨rfl,rfl,_,rfl,.v (.l (p.1.map λn=>D.int (n:Nat))),.v (.int (p.2:Nat)),F,Q,?_⟩;have e1:((cnt:Nat):Int)+(((p.1.map λn=>D.int (n:Nat)).length:Nat):Int)=((cnt+p.1.length:Nat):Int):=by rw[aB];omega
   show nF d u _ _ _ (.v (.int (((cnt:Nat):Int)+(((p.1.map λn=>D.int (n:Nat)).length:Nat):Int)))) _ _ _ _ _ _ _ _ _ _ _ _ _=_;rw[e1];rfl
  .rintro z ⟨V,X,F,Q,rfl⟩;refine B _ ⟨V,X,F,Q,?_⟩;rw[aB,aQ (aJ _)];have:=(xU d3 u.length).2.2;rw[aQ (aJ _)] at this;rw[this];rfl
 rintro _ ⟨V,X,F,Q,rfl⟩;have L:=xU d3 u.length;rw[aQ (aJ _)] at L;obtain⟨L1,L2,L3⟩:=L;have la:(lN u).length=gD u:=L2;have tl:=L5 (n:=(lN u).length) (rows:=(mI u).1.1) (by omega) (by omega);refine lC (λz=>z=nF d u (.o (oF (mI u).1.1)) (.o (oV (lN u))) (.o (.l [])) (.v (.int (gD u:Nat))) V X F Q (.v (.int 0)) .n .n .n .n .n .n .n .n) (λN B=>B _ rfl) ?_;rintro _ rfl;refine lC (λz=>∃ V X Y G,z=nF d u (.o (oF (lR u))) (.o (oV (lN u))) (.o (qE (nJ u))) (.v (.int (gD u:Nat))) V X F Q Y G .n .n .n .n .n .n .n) (λN B=>?_) ?_
 .refine vR (u.map vS) (nF d u (.o (oF (mI u).1.1)) (.o (oV (lN u))) (.o (.l [])) (.v (.int (gD u:Nat))) V X F Q (.v (.int 0)) .n .n .n .n .n .n .n .n) (λΨ h=>h)
   (λi z=>∃ V X G,z=nF d u (.o (oF (oQ (lN u).length (mI u).1.1 (u.take i)).1.1)) (.o (oV (lN u))) (.o (qE (oQ (lN u).length (mI u).1.1 (u.take i)).1.2)) (.v (.int (gD u:Nat))) V X F Q (.v (.int ((oQ (lN u).length (mI u).1.1 (u.take i)).2:Nat))) G .n .n .n .n .n .n .n) ⟨V,X,.n,rfl⟩ ?_ ?_
  .rintro i x z hx ⟨V,X,G,rfl⟩;obtain⟨p,U,rfl⟩:=Bj hx;have ac:=aR U;have b:=tl (u.take i);have st:oQ (lN u).length (mI u).1.1 (u.take (i+1))=sN (lN u).length (oQ (lN u).length (mI u).1.1 (u.take i)) p:=by rw[bX,U,fB,Ma]
   rw[st];generalize oQ (lN u).length (mI u).1.1 (u.take i)=S at b |-;obtain⟨⟨R,O⟩,fs⟩:=S;simp only[] at b;obtain⟨bR,bO⟩:=b;refine⟨rfl,rfl,?_⟩;obtain⟨m,hm⟩:∃ m,m=min p.2 (24-R.length):=⟨_,rfl⟩;have aa:(R.map pD).length=R.length:=by simp
   refine lC (λz=>z=nF d u (.o (oF R)) (.o (oV (lN u))) (.o (qE O)) (.v (.int (gD u:Nat))) (.v (.l (p.1.map λn=>D.int (n:Nat)))) (.v (.int (p.2:Nat))) F Q (.v (.int (fs:Nat))) (.v (.int (m:Nat))) .n .n .n .n .n .n .n) (λN B=>?_) ?_
   .refine⟨rfl,rfl,_,rfl,?_⟩;rintro v hv h1 h2;have:v=(m:Nat):=by
     rw[aa] at hv h2;rw[hm];omega
    subst this;exact B _ rfl
   rintro _ rfl;have af:((lN u).map λp=>D.t [.int (p.1:Nat),.int (p.2:Nat)]).length=(lN u).length:=by simp
   have ab:(O.map λn=>D.int (n:Nat)).length=O.length:=by simp
   refine lC (λz=>z=nF d u (.o (oF (sN (lN u).length ((R,O),fs) p).1.1)) (.o (oV (lN u))) (.o (qE (sN (lN u).length ((R,O),fs) p).1.2)) (.v (.int (gD u:Nat))) (.v (.l (p.1.map λn=>D.int (n:Nat)))) (.v (.int (p.2:Nat))) F Q (.v (.int (fs:Nat))) (.v (.int (m:Nat))) .n .n .n .n .n .n .n) (λN B=>?_) ?_
   .unfold sN at B;simp only[<- hm] at B;refine⟨rfl,?_⟩;show if decide ((0:Int)<(m:Int))=true then _ else _
    by_cases z1:(0:Int)<(m:Int)
    .refine Mo z1 ?_;refine⟨rfl,rfl,_,rfl,rfl,rfl,_,rfl,?_⟩;show if decide (((((lN u).map λp=>D.t [.int (p.1:Nat),.int (p.2:Nat)]).length:Nat):Int)+(((O.map λn=>D.int (n:Nat)).length:Nat):Int)<6)=true then _ else _
     rw[af,ab];by_cases z2:(((lN u).length:Nat):Int)+((O.length:Nat):Int)<6
     .refine Mo z2 ?_;rw[bE (show 0<m/\(lN u).length+O.length<6 by omega)] at B;refine⟨rfl,rfl,by show 2<=1000;decide,2,m,pD (false,fs),R.map pD,rfl,rfl,Mn _,rfl,by omega,by rw[aa];omega,?_⟩;rw[aa,Im,Gp,<- aO];refine⟨_,rfl,by show (O.map _).length<100000;rw[ab];omega,B _ ?_⟩;have e4:qE (O++[(qS (false,fs) R.length m).2]) = .l ((O.map λn=>D.int (n:Nat))++[.int ((qS (false,fs) R.length m).2:Nat)]):=by unfold qE;rw[List.map_append];rfl
      rw[e4];rfl
     .refine N9 z2 ?_;rw[bG (show ¬ (0<m/\(lN u).length+O.length<6) by omega)] at B;exact B _ rfl
    .refine N9 z1 ?_;rw[bG (show ¬ (0<m/\(lN u).length+O.length<6) by omega)] at B;exact B _ rfl
   rintro _ rfl;refine⟨rfl,rfl,_,rfl,.v (.l (p.1.map λn=>D.int (n:Nat))),.v (.int (p.2:Nat)),.v (.int (m:Nat)),?_⟩;have e1:((fs:Nat):Int)+(((p.1.map λn=>D.int (n:Nat)).length:Nat):Int)=((fs+p.1.length:Nat):Int):=by rw[aB];omega
   show nF d u _ _ _ _ _ _ _ _ (.v (.int (((fs:Nat):Int)+(((p.1.map λn=>D.int (n:Nat)).length:Nat):Int)))) _ _ _ _ _ _ _ _=_;rw[e1];rfl
  .rintro z ⟨V,X,G,rfl⟩;refine B _ ⟨V,X,.v (.int ((oQ (lN u).length (mI u).1.1 u).2:Nat)),G,?_⟩;rw[aB,aQ (aJ _)];rfl
 rintro _ ⟨V,X,Y,G,rfl⟩;have lg:(lR u).length<=24:=(tl u).1;have lo:(lN u).length+(nJ u).length<=6:=(tl u).2;have ag:((lR u).map pD).length=(lR u).length:=by simp
 have W:LpW (gD u) (lR u) ((lN u).map (·.1)++nJ u):=by
  have a:=(zY (λp U n hn=>(ok.dl p U n hn).1) d3 u.length (aJ _)).1;rw[aQ (aJ _)] at a;have:=(J4 (n:=(lN u).length) ok.sz a u.length (aJ _)).1
  rwa [aQ (aJ _)] at this
 refine lC (λz=>∃ y:Aa Af,y.length=gD u+(lR u).length/\y.Nodup/\(∀ x∈y,GoodName x)/\z=nF d u (.o (oF (lR u))) (.o (oV (lN u))) (.o (qE (nJ u))) (.v (.int (gD u:Nat))) V X F Q Y G (.o (.l (y.map D.str))) .n .n .n .n .n .n) (λN B=>?_) ?_
 .refine⟨rfl,rfl,rfl,_,rfl,d,c,gD u+(lR u).length,rfl,?_,by omega,λy hx nd gn=>⟨.inl rfl,B _ ⟨y,hx,nd,gn,rfl⟩⟩⟩;have:((gD u:Nat):Int)+((((lR u).map pD).length:Nat):Int)=((gD u+(lR u).length:Nat):Int):=by rw[ag];omega
  rw[<- this]
 rintro _ ⟨y,hx,a3,a0,rfl⟩;refine lC (λz=>z=nF d u (.o (oF (lR u))) (.o (oV (lN u))) (.o (qE (nJ u))) (.v (.int (gD u:Nat))) V X F Q Y G (.o (.l (y.map D.str))) (.o (.l [])) .n .n .n .n .n) (λN B=>⟨by show 0<=1000;decide,B _ rfl⟩) ?_;rintro _ rfl;refine lC (λz=>∃ F M Z C,z=nF d u (.v (oF (lR u))) (.o (oV (lN u))) (.o (qE (nJ u))) (.v (.int (gD u:Nat))) V X F Q Y G (.o (.l (y.map D.str))) (.o (.l ((nU y (gD u) (lR u)).map lF))) M Z C .n .n) (λN B=>?_) ?_
 .refine vR (vU ((lR u).map pD)) (nF d u (.v (oF (lR u))) (.o (oV (lN u))) (.o (qE (nJ u))) (.v (.int (gD u:Nat))) V X F Q Y G (.o (.l (y.map D.str))) (.o (.l [])) .n .n .n .n .n) (λΨ h=>h)
   (λi z=>∃ F M Z C,z=nF d u (.v (oF (lR u))) (.o (oV (lN u))) (.o (qE (nJ u))) (.v (.int (gD u:Nat))) V X F Q Y G (.o (.l (y.map D.str))) (.o (.l ((nU y (gD u) ((lR u).take i)).map lF))) M Z C .n .n) ⟨F,.n,.n,.n,rfl⟩ ?_ ?_
  .rintro i x z aw ⟨F,M,Z,C,rfl⟩;obtain⟨p,U,rfl⟩:=Zr aw;have hi:i<(lR u).length:=(aT.mp U).1;have aj:=W.wf i p U;have st:nU y (gD u) ((lR u).take (i+1))=nU y (gD u) ((lR u).take i)++[Fx y (gD u) i p]:=by
    rw[bX,U,fB];unfold nU;rw[List.zipIdx_append,aO];simp[kE (fE hi)]
   have k1:decide (("in" : Af) = "gate")=false:=by decide +kernel
   have k2:decide (("gate" : Af) = "gate")=true:=by decide +kernel
   obtain⟨g,a⟩:=p;have av:a+(if g=true then gD u else 0)<y.length:=by
    cases g
    .simp only[fC,eS] at aj |-;omega
    .simp only[eU] at aj |-;omega
   refine⟨rfl,rfl,rfl,rfl,?_⟩;refine lC (λz=>∃ M,z=nF d u (.v (oF (lR u))) (.o (oV (lN u))) (.o (qE (nJ u))) (.v (.int (gD u:Nat))) V X (.v (.int (i:Nat))) Q Y G (.o (.l (y.map D.str))) (.o (.l ((nU y (gD u) ((lR u).take i)).map lF))) M (.v (.int (a:Nat))) (.v (.str (mN y (a+if g=true then gD u else 0)))) .n .n) (λN B=>?_) ?_
   .have ak:mF [D.int 0,.int (gD u:Nat)] (if g=true then 1 else 0)=some (.int ((if g=true then gD u else 0:Nat):Int)):=by
     cases g
     .exact pQ (j:=0) rfl
     .exact pQ (j:=1) rfl
    have an:mF (y.map D.str) ((a:Int)+((if g=true then gD u else 0:Nat):Int))=some (.str (mN y (a+if g=true then gD u else 0))):=Ay av;refine⟨rfl,rfl,by show 2<=1000;decide,rfl,?_⟩;have eb:(nb false (decide ((if g=true then ("gate" : Af) else "in") = "gate")))=g:=by
     cases g
     .exact k1
     .exact k2
    show ∃ x,mF [D.int 0,.int (gD u:Nat)] (if (nb false (decide ((if g=true then ("gate" : Af) else "in") = "gate")))=true then 1 else 0)=some x/\_;rw[eb];refine⟨_,ak,_,an,B _ ⟨_,rfl⟩⟩
   rintro _ ⟨M,rfl⟩;have ao:mF (y.map D.str) (((gD u:Nat):Int)+(i:Int))=some (.str (mN y (gD u+i))):=Ay (i:=gD u+i) (by omega);have aq:mF [D.str "and",.str "or"] ((i:Int)%2)=some (.str (if i%2=0 then "and" else "or")):=by
    rcases (show i%2=0\/i%2=1 by omega) with q | q
    .rw[show (i:Int)%2=((0:Nat):Int) by omega,bE q];exact pQ (j:=0) rfl
    .rw[show (i:Int)%2=((1:Nat):Int) by omega,bG (by omega)];exact pQ (j:=1) rfl
   refine⟨rfl,rfl,rfl,_,ao,by show 2<=1000;decide,rfl,by show (0:Int)<2;decide,_,aq,by show 2<=1000;decide,by show 3<=1000;decide,by show ((nU y (gD u) ((lR u).take i)).map lF).length<100000;simp[nU];omega,.v (.int (i:Nat)),M,.v (.int (a:Nat)),.v (.str (mN y (a+if g=true then gD u else 0))),?_⟩;rw[st,aO];rfl
  .rintro z ⟨F,M,Z,C,rfl⟩;rw[Ez,aB,aQ (aJ _)];exact B _ ⟨F,M,Z,C,rfl⟩
 rintro _ ⟨F,M,Z,C,rfl⟩;have ah:∀ o∈(lN u).map (·.1)++nJ u,gD u+o<y.length:=λo ho=>by have:=W.lt o ho;omega
 have S2:=(zY (λp U n hn=>(ok.dl p U n hn).1) d3 u.length (aJ _)).2;rw[aQ (aJ _)] at S2;have ay:∀ p∈lN u,p.2<y.length:=λp U=>by have:=S2.2 p.2 (aD.mpr ⟨p,U,rfl⟩);omega
 refine lC (λz=>∃ s3,z=nF d u (.v (oF (lR u))) s3 (.o (qE (nJ u))) (.v (.int (gD u:Nat))) V X F Q Y G (.o (.l (y.map D.str))) (.o (.l ((nU y (gD u) (lR u)).map lF))) M Z C (.v (.t ((oN y u).map mV))) .n) (λN B=>?_) ?_
 .unfold qR dC aC;refine nT (lN u) (λp=>D.t [.int (p.1:Nat),.int (p.2:Nat)]) (λp=>mV (mN y (gD u+p.1),mN y p.2)) (nF d u (.v (oF (lR u))) (.v (oV (lN u))) (.o (qE (nJ u))) (.v (.int (gD u:Nat))) V X F Q Y G (.o (.l (y.map D.str))) (.o (.l ((nU y (gD u) (lR u)).map lF))) M Z C .n .n) (λΨ h=>h) (by omega) (λj p ys Nx e h1 h2=>?_) ?_
  .have hm:=aR e;have a1:mF (y.map D.str) (((gD u:Nat):Int)+(p.1:Int))=some (.str (mN y (gD u+p.1))):=Ay (i:=gD u+p.1) (ah p.1 (aM _ (aD.mpr ⟨p,hm,rfl⟩)));have a2:mF (y.map D.str) (p.2:Int)=some (.str (mN y p.2)):=Ay (ay p hm);exact⟨rfl,rfl,rfl,rfl,_,a1,rfl,_,a2,by show 2<=1000;decide,h1,h2⟩
  .refine B _ ⟨.v (oV (lN u)),?_⟩;have:(oN y u).map mV=(lN u).map λp=>mV (mN y (gD u+p.1),mN y p.2):=by unfold oN;rw[List.map_map];rfl
   rw[this];rfl
 rintro _ ⟨s3,rfl⟩;have a5:(oN y u).length=(lN u).length:=by simp[oN]
 refine lC (λz=>∃ s4 ae,(ae = .v (.t ((oN y u).map mV)))/\z=nF d u (.v (oF (lR u))) s3 s4 (.v (.int (gD u:Nat))) V X F Q Y G (.o (.l (y.map D.str))) (.o (.l ((nU y (gD u) (lR u)).map lF))) M Z C ae (.o (.l ((rV y u).outs.map D.str)))) (λN B=>?_) ?_
 .unfold qR d2;refine nT (oN y u) mV (λp=>.str p.1) (nF d u (.v (oF (lR u))) s3 (.o (qE (nJ u))) (.v (.int (gD u:Nat))) V X F Q Y G (.o (.l (y.map D.str))) (.o (.l ((nU y (gD u) (lR u)).map lF))) M Z C (.v (.t ((oN y u).map mV))) .n) (λΨ h=>h) (by omega) (λj p ys Nx e h1 h2=>⟨rfl,_,rfl,h1,h2⟩) ?_;refine nT (nJ u) (λn=>D.int (n:Nat)) (λn=>.str (mN y (gD u+n))) (nF d u (.v (oF (lR u))) s3 (.v (qE (nJ u))) (.v (.int (gD u:Nat))) V X F Q Y G (.o (.l (y.map D.str))) (.o (.l ((nU y (gD u) (lR u)).map lF))) M Z C (.v (.t ((oN y u).map mV))) .n) (λΨ h=>h) (by omega) (λj o ys Nx e h1 h2=>?_) ?_
  .have a1:mF (y.map D.str) (((gD u:Nat):Int)+(o:Int))=some (.str (mN y (gD u+o))):=Ay (i:=gD u+o) (ah o (aP _ (aR e)));exact⟨rfl,rfl,_,a1,h1,h2⟩
  .refine⟨by show ((oN y u).map _).length+((nJ u).map _).length<=100000;rw[aB,aB];omega,B _ ⟨.v (qE (nJ u)),_,rfl,?_⟩⟩;have:(rV y u).outs.map D.str=((oN y u).map λp=>D.str p.1)++(nJ u).map λn=>D.str (mN y (gD u+n)):=by
    show (((oN y u).map (·.1)++(nJ u).map λo=>mN y (gD u+o))).map D.str=_;rw[aO,bC,bC];rfl
   rw[this];rfl
 rintro _ ⟨s4,ae,rfl,rfl⟩;have ec:nR (y.map D.str) none (some ((gD u:Nat):Int))=(y.take (gD u)).map D.str:=Bk D.str y (gD u);refine⟨rfl,rfl,by show 3<=1000;decide,by show 2<=1000;decide,?_⟩;show Φ (.v (.t [.t [.t (nR (y.map D.str) none (some ((gD u:Nat):Int))),.t ((nU y (gD u) (lR u)).map lF),.t ((rV y u).outs.map D.str)],.t ((oN y u).map mV)]));rw[ec];exact ax y hx a3 a0
end
section
theorem X1 (ok:LpOk g):LpW (gD g) (lR g) ((lN g).map (·.1)++nJ g):=by
 have d:∀ p∈g,∀ n∈p.1,n<=3:=λp c n b=>(ok.dl p c n b).2
 have a:=(zY (λp c n b=>(ok.dl p c n b).1) d g.length (aJ _)).1;rw[aQ (aJ _)] at a;have:=(J4 (n:=(lN g).length) ok.sz a g.length (aJ _)).1
 rwa [aQ (aJ _)] at this
theorem BL (ok:LpOk g):((lN g).map (·.2)).Nodup/\∀ x∈(lN g).map (·.2),x<gD g:=by
 have:=(zY (λp b n a=>(ok.dl p b n a).1) (λp b n a=>(ok.dl p b n a).2) g.length (aJ _)).2
 rwa [aQ (aJ _)] at this
theorem V3 (ok:LpOk g):(lN g).length=gD g/\(lR g).length<=24/\(lN g).length+(nJ g).length<=6:=by
 have L:=xU (lp:=g) (λp c n b=>(ok.dl p c n b).2) g.length;rw[aQ (aJ _)] at L;have e:=ok.n4;have d:(lN g).length=gD g:=L.2.1;have a:=L5 (n:=(lN g).length) (rows:=(mI g).1.1) (by omega) (by omega) g;exact⟨d,a.1,a.2⟩
theorem yK (h:i<g.length):g[i]?=some (mN g i):=by simp[mN,h]
theorem Nd (p:g.Nodup) (l:i<g.length) (o:j<g.length) (e:mN g i=mN g j):i=j:=by
 have a:=yK l;have b:=yK o;rw[e] at a;exact (List.getElem?_inj l p).mp (a.trans b.symm)
theorem Ho (n:Nat) (g:Aa Pt):(nU j n g).length=g.length:=by simp[nU]
theorem Qq (h:g[i]?=some p):(nU xs n g)[i]?=some (Fx xs n i p):=by
 obtain⟨a,rfl⟩:=aT.mp h;unfold nU;rw[bK,List.getElem?_zipIdx,h];simp
theorem Fz (h:j.length=n+g.length):(nU j n g).map (·.1)=j.drop n:=by
 apply kP;intro i;rw[bK,iY];by_cases a:i<g.length
 .rw[Qq (aG a),yK (by omega)];rfl
 .rw[eK (by rw[Ho];omega),eK (by omega)];rfl
theorem M7:∀ {j:nI}{kn:Aa Af},(∀ i g,j[i]?=some g->ArOk g.2.1 g.2.2.length/\∀ p∈g.2.2,p∈kn++(j.take i).map (·.1))->oB kn j
 | [],_,_=>trivial
 | g::j,kn,h=>by
  have a:=h 0 g rfl;refine⟨a.1,by simpa using a.2,M7 λi b e=>?_⟩;have:=h (i+1) b (by simpa using e);refine⟨this.1,λp c=>?_⟩;have:=this.2 p c
  simpa using this
theorem Vt (ok:LpOk j) (r:l.length=gD j+(lR j).length) (C:l.Nodup) (I:∀ x∈l,GoodName x):GoodRow (rV l j) (oN l j):=by
 have W:=X1 ok;obtain⟨H,u⟩:=BL ok;obtain⟨K,G,lo⟩:=V3 ok;have L:=ok.n4;have v:(rV l j).names=l:=by
  show l.take (gD j)++(nU l (gD j) (lR j)).map (·.1)=l;rw[Fz r,cJ]
 have b:∀ o∈(lN j).map (·.1)++nJ j,gD j+o<l.length:=λo a=>by have:=W.lt o a;omega
 have f:(rV l j).outs=((lN j).map (·.1)++nJ j).map λo=>mN l (gD j+o):=by
  show (oN l j).map (·.1)++(nJ j).map _=_;rw[aO];unfold oN;rw[bC,bC];rfl
 have d:((lN j).map (·.1)++nJ j).Nodup:=W.inc.imp λh e=>by subst e;exact cV _ h
 have inj:∀ o∈(lN j).map (·.1)++nJ j,∀ m∈(lN j).map (·.1)++nJ j,mN l (gD j+o)=mN l (gD j+m)->o=m:=λo a m s e=>by
  have:=Nd C (b o a) (b m s) e;omega
 have B:(oN l j).map (·.1)=((lN j).map (·.1)).map λo=>mN l (gD j+o):=by unfold oN;rw[List.map_map,List.map_map];rfl
 have D:(oN l j).map (·.2)=((lN j).map (·.2)).map λo=>mN l o:=by unfold oN;rw[List.map_map,List.map_map];rfl
 have A:∀ o∈(rV l j).outs,o∈(rV l j).gates.map (·.1):=λo a=>by
  rw[f] at a;obtain⟨q,k,rfl⟩:=aD.mp a;show _∈(nU l (gD j) (lR j)).map (·.1);rw[Fz r];have:(l.drop (gD j))[q]?=some (mN l (gD j+q)):=by rw[iY];exact yK (b q k)
  exact aR this
 refine⟨⟨by rw[v];exact C,by rw[v];exact I,?_,λo a=>aP _ (A o a),?_,?_,?_,?_⟩,A,?_,?_,λp c=>?_,?_⟩
 .refine M7 λi g e=>?_
  have w:i<(lR j).length:=by
   have:=(aT.mp e).1
   rwa [show (rV l j).gates=nU l (gD j) (lR j) from rfl,Ho] at this
  have E:=Qq (xs:=l) (n:=gD j) (aG w);rw[show (rV l j).gates=nU l (gD j) (lR j) from rfl,E] at e;cases e;refine⟨?_,λp c=>?_⟩
  .show ArOk (if i%2=0 then "and" else "or") 2;rcases (show i%2=0\/i%2=1 by omega) with q | q
   .rw[bE q];exact⟨.inl ⟨by decide +kernel,.inl rfl⟩⟩
   .rw[bG (by omega)];exact⟨.inl ⟨by decide +kernel,.inl rfl⟩⟩
  .have c:p=mN l ((lR j)[i].2+if (lR j)[i].1=true then gD j else 0):=by
    have:p∈[mN l ((lR j)[i].2+if (lR j)[i].1=true then gD j else 0),mN l ((lR j)[i].2+if (lR j)[i].1=true then gD j else 0)]:=c
    simpa using this
   have wf:=W.wf i _ (aG w);have F:(rV l j).ins++((rV l j).gates.take i).map (·.1)=l.take (gD j+i):=by
    show l.take (gD j)++((nU l (gD j) (lR j)).take i).map (·.1)=_;rw[List.map_take,Fz r,List.take_add]
   rw[F,c];have lt:(lR j)[i].2+(if (lR j)[i].1=true then gD j else 0)<gD j+i:=by
    by_cases z:(lR j)[i].1=true
    .rw[bE z] at wf |-;omega
    .rw[bG z] at wf |-;omega
   have:(l.take (gD j+i))[(lR j)[i].2+(if (lR j)[i].1=true then gD j else 0)]?=some (mN l ((lR j)[i].2+if (lR j)[i].1=true then gD j else 0)):=by
    rw[gC lt];exact yK (by omega)
   exact aR this
 .rw[f];exact rR d inj
 .show (l.take (gD j)).length<=6;rw[bT];omega
 .show (nU l (gD j) (lR j)).length<=24;rw[Ho];exact G
 .rw[f,aB,bB,aB];exact lo
 .rw[B];exact rR (bN.mp d).1 λx r y t e=>inj x (aM _ r) y (aM _ t) e
 .rw[D];refine rR H λx r y t e=>Nd C ?_ ?_ e
  .have:=u x r;omega
  .have:=u y t;omega
 .obtain⟨q,k,rfl⟩:=aD.mp c;refine⟨?_,?_⟩
  .rw[f];exact aD.mpr ⟨q.1,aM _ (aD.mpr ⟨q,k,rfl⟩),rfl⟩
  .have lt:=u q.2 (aD.mpr ⟨q,k,rfl⟩);have:(l.take (gD j))[q.2]?=some (mN l q.2):=by
    rw[gC lt];exact yK (by omega)
   exact aR this
 .show ((lN j).map _).length<=4;rw[aB];omega
end
end Lw
namespace L2
open PySem PySem.Spec PyProof.Rows
theorem Kk:∀ {a b:Aa Int},a.Perm b->a.Pairwise (·<=·)->b.Pairwise (·<=·)->a=b
 | [],b,p,_,_=>by rw[p.nil_eq]
 | x::a,[],p,_,_=>absurd p.length_eq (by simp)
 | x::a,y::b,p,i,k=>by
  have c:=List.pairwise_cons.mp i;have d:=List.pairwise_cons.mp k;have e:x=y:=by
   have f:x∈y::b:=p.mem_iff.mp aE;have h:y∈x::a:=p.mem_iff.mpr aE;rcases aF.mp f with q | q
   .exact q
   .rcases aF.mp h with z | z
    .exact z.symm
    .have:=d.1 x q;have:=c.1 y z;omega
  subst e;rw[Kk (List.Perm.cons_inv p) c.2 d.2]
theorem EN:∀ {j:Aa Ac}{g:Aa Int},IntsAre j g->kZ (g.map V.int) j:=by
 intro j g h;induction h with
 | nil=>exact .nil
 | cons y t _ a=>exact .cons ⟨t,rfl⟩ a
section
variable {X:Cx}{K:kY}
def Ql (K:kY):Aa V->Hp->VK->Prop:=λc H Q=>∃ (a:Ad) (b:Aa Int),c=[.ref a]/\eT K H a (b.map V.int)/\b.length<64/\b.Pairwise (·<=·)/\∀ l,H l=none->Q (.ref l) (upd H l (.l (b.map V.int)))
theorem Xd:mK X (.builtin "sorted") (Ql X.K):=by
 intro k s M H L G Q I B h;obtain⟨a,E,rfl,w,d,D,q⟩:=h;obtain⟨u,rfl,A⟩:=oM B;cases A;obtain⟨f,m,z,_⟩:=I.list w;have c:=m.length;rw[aB] at c;refine sorted_ints z.isList (Q8 m) (by omega) λout i n t v=>?_
 have e:=Kk t v D;subst e;obtain⟨e,y⟩:=sortedAll_at s.heap f out;refine⟨.ref (s.heap.objs.size+1),_,I.laid (a:=s.heap.objs.size+1) (o:=.l (i.map V.int)) (t':=s.toks) (λb F x=>sortedAll_old x) (by omega) ⟨?_,_,e,EN n,?_⟩,rfl,q _ (I.hok.fresh (by omega))⟩
 .rw[aB];exact bV (fE d) (by decide)
 .rw[y]
def BE:OC:=λb d=>match b with
 | [.l c]=>∃ a,sJ c=some a/\a.length<64/\a.Pairwise (·<=·)/\d (.o (.l (a.map D.int)))
 | _=>False
theorem Q6:∀ g:Aa Int,Reps K A H (g.map D.int) (g.map V.int)
 | []=>.nil
 | n::r=>.cons (.int n) (Q6 r)
theorem T4:qF K (Ql K) BE:=by
 intro B L H c u v Q hd q b k;cases c with
 | nil=>exact False.elim b
 | cons d c =>
 cases c with
 | cons _ _=>cases d<;>exact False.elim b
 | nil =>
 cases d<;>first | exact False.elim b | skip
 obtain⟨x,rfl,s⟩:=rJ q;obtain⟨e,f,i,m,b⟩:=b;obtain⟨a,t,rfl,h,r⟩:=s.lst_inv;rw[xW f r] at h;exact⟨a,e,rfl,eT.of h,i,m,λl n=>k _ _ _ b (hd.lstF n (Q6 e))⟩
end
end L2
namespace Lw
open PySem L2
def nQ (L:Nat->Int) (count ring:Nat) (a:Int):D:=.t [.t ((List.range count).map λi=>D.int (L (i+1))),.int ring,.int a]
def K9:RD:=λd b c=>∃ (L:Nat->Int) (count ring:Nat) (a:Int) (w:Nat),b=[nQ L count ring a,.int w]/\Told L count ring a/\count<=20000/\w<=20000/\c (.o (.l ((List.range w).map λi=>D.int (L (i+1)))))
abbrev C3 (L:Nat->Int) (count ring:Nat) (a:Int) (w n:Nat):Aa Sl:=[.v (nQ L count ring a),.v (.int w),.v (.t ((List.range count).map λi=>D.int (L (i+1)))),.v (.int ring),.v (.int a),.o (.l ((List.range n).map λi=>D.int (L (i+1))))]
section
variable {P:Ah}{K:kY}
theorem zE:FnScope ["found","widths","firsts","ring","more","numbers"] ["found","widths"] (lU Ee):=oJ
theorem W2 (T:Txt j):oI P w K j base 1 "_law_by_told" Ee ["found","widths"] K9:=by
 refine oU zE λf y A u s H E Q R M V F B=>?_
 obtain⟨L,count,ring,a,w,rfl,k,S,hw,q⟩:=B;refine⟨_,(hH (GW (m:=99) (eH 0) (rM (n:=3) rfl (mU (lQ 2 zE.nd) (mU (lQ 3 zE.nd) (mU (lQ 4 zE.nd) rE))))) (hH (lG 5 zE.nd (nL A3 Av T.list fP (dK (eH 2) dT))) (hH (xA dB (uD Jv Iq (mT nM nN T.len bD (nW (pv 5) dT)) (eH 1)) (lY (rL (pW aZ bL bM pT rK (pv 5) (dK (nS mO mL (lA F 5 (nS sG vB (mT nM nN T.len bD (nW (pv 5) dT)) (eH 3))) (eH 4)) dT))))) (lY (nO (tH sZ tQ (pv 5) uC (sF (eH 1)))))))),?_⟩;have W:=k.r1;have X:=k.rc;refine lC (λb=>b=[.v (nQ L count ring a),.v (.int w),.v (.t ((List.range count).map λi=>D.int (L (i+1)))),.v (.int ring),.v (.int a),.n]) (λN c=>⟨rfl,rfl,c _ rfl⟩) ?_;rintro _ rfl;refine lC (λb=>b=C3 L count ring a w count) (λN c=>⟨_,rfl,c _ rfl⟩) ?_;rintro _ rfl;refine lC (λb=>∃ n,w<=n/\b=C3 L count ring a w n) (λN c=>?_) ?_
 .refine Ey 20000 (λb=>match b with | [_,_,_,_,_,.o (.l G)]=>G.length | _=>0) (λn b=>count<=n/\b=C3 L count ring a w n) (λn b h=>?_) count ⟨aJ _,rfl⟩ λn b O h e=>?_
  .rw[h.2];show ((List.range n).map _).length=n;simp
  obtain⟨x,rfl⟩:=h;have len:((List.range n).map λi=>D.int (L (i+1))).length=n:=by simp
  refine⟨rfl,rfl,_,rfl,?_⟩;show if decide ((((List.range n).map λi=>D.int (L (i+1))).length:Int)<(w:Int))=true then _ else _
  rw[len];by_cases lt:(n:Int)<(w:Int)
  .refine zN lt ?_;have d:mF ((List.range n).map λi=>D.int (L (i+1))) (((((List.range n).map λi=>D.int (L (i+1))).length:Nat):Int)-(ring:Int))=some (.int (L (n-ring+1))):=by
    rw[len,show ((n:Nat):Int)-(ring:Int)=((n-ring:Nat):Int) by omega];exact pQ (by rw[bK,iR (by omega)];rfl)
   refine⟨rfl,rfl,rfl,rfl,_,rfl,_,d,by show ((List.range n).map _).length<100000;simp;omega,?_⟩;refine e (by omega) _ ⟨by omega,?_⟩;have g:=k.grow (n+1) (by omega);rw[show n+1-ring=n-ring+1 by omega] at g;have:D.l ((List.range (n+1)).map λi=>D.int (L (i+1))) = .l (((List.range n).map λi=>D.int (L (i+1)))++[.int (L (n-ring+1)+a)]):=by
    rw[hX,aO,<- g];rfl
   unfold C3;rw[this];rfl
  .refine Au lt ?_;exact c _ ⟨n,by omega,rfl⟩
 rintro _ ⟨n,x,rfl⟩;have z:nR ((List.range n).map λi=>D.int (L (i+1))) none (some ((w:Nat):Int))=(List.range w).map λi=>D.int (L (i+1)):=by
  rw[Bk,List.take_range,kE x]
 refine⟨rfl,?_⟩;show M (.o (.l (nR ((List.range n).map λi=>D.int (L (i+1))) none (some ((w:Nat):Int)))));rw[z];exact q
end
theorem Fu (L:Nat->Int) (count ring:Nat) (a:Int):mJ (nQ L count ring a)=true:=by
 have:qJ ((List.range count).map λi=>D.int (L (i+1)))=true:=Fn λy b=>by
  obtain⟨x,_,rfl⟩:=aD.mp b;rfl
 show (qJ ((List.range count).map λi=>D.int (L (i+1)))&&true)=true;rw[this];rfl
theorem Yp (L:Nat->Int) (count ring:Nat) (a:Int):(py (nQ L count ring a)).depth<=60:=by
 have e:pX ((List.range count).map λi=>D.int (L (i+1)))=((List.range count).map λi=>L (i+1)).map PyData.int:=by
  have:=zL ((List.range count).map λi=>L (i+1))
  rwa [bC] at this
 show max (PyData.depthAll (pX ((List.range count).map λi=>D.int (L (i+1))))+1) (max 0 (max 0 0))+1<=60;rw[e,Gq];decide
theorem Ky (neg:Bool) (L:Nat->Int) (count ring:Nat) (a:Int) (h:g (.v (.b (nb neg true)))):tT neg (nQ L count ring a) (nQ L count ring a) g:=by
 have:mJ (nQ L count ring a)=true/\mJ (nQ L count ring a)=true/\min (py (nQ L count ring a)).depth (py (nQ L count ring a)).depth<=60/\g (.v (.b (nb neg (PyData.eqv (py (nQ L count ring a)) (py (nQ L count ring a)))))) :=
  ⟨Fu ..,Fu ..,bV (Nat.min_le_left _ _) (Yp ..),by rw[N5 (Fu ..)];exact h⟩
 exact this
def Mi:RD:=λa e f=>∃ (d c:Ad) (C:Cel) (al:Aa (Af×Af)),a=[d,c]/\e=[.r (.ref d),lX C al]/\GoodRow C al/\f (.v (.b true))
def E1 (K:kY):Sp:=λe H Q _=>∃ (a:Ad) (c:Aa Int),e=[.ref a]/\eT K H a (c.map V.int)/\c.length<=63/\∀ d,Q (.b true) d
theorem Xa:(["width","row"]:Aa Af).Nodup:=by decide +kernel
theorem Y2:(["number"]:Aa Af).Nodup:=by decide +kernel
section
variable {P:Ah}{K:kY}
theorem Bw:FnScope ["deck","row","found","numbers","other"] ["deck","row"] (lU Dy):=oJ
theorem X5 (T:Txt mg) (J:Kn P w K mg base 6 "ways" B5 ["row"] Pn) (I:Kn P w K mg base 4 "_law_renamed" Ef ["deck","row"] Nc) (p:Kn P w K mg base 1 "_law_by_told" Ee ["found","widths"] K9) (U:Kn P w K mg base 4 "latest" Ej ["row","width"] Qa) (j:Kn P w K mg base 4 "_law_followed" Eo ["deck","row"] Ml) (g:Kn P w K mg base 1 "gate_count" Ei ["row","width"] Qf) :
  oI P w K mg base 7 "_law_right" Dy ["deck","row"] Mi:=by
 refine oU Bw λf ae A ac s H E dk ds Φ B Q hR=>?_
 obtain⟨d,c,C,al,rfl,rfl,M,Y⟩:=hR;refine⟨_,(hH (lG 2 Bw.nd (lV J B (dK (eH 1) dT))) (hH (vM (uD (wZ B.units) (sP true) (lV J B (dK (lV I B (dK (eH 0) (dK (eH 1) dT))) dT)) (eH 2)) (lY (nO Bm)) uS) (hH (lG 3 Bw.nd (lV p B (dK (eH 2) (dK gV dT)))) (hH (vM (uD (wZ B.units) (sP true) (nV ["width"] ["row"] [1] (nG (nX (dK gV (dK gV (dK gV dT))))) (λ_ _ _ _ _=>(lQ 0 Xa)) (λ_ _ _ _ _=>(lV U B (dK (eH 1) (dK (eH 0) dT))))) (nX (dK (lA Q 3 gV) (dK (lA Q 3 gV) (dK (lA Q 3 gV) dT))))) (lY (nO Bm)) uS) (hH (vM (vX (wZ B.units) (sP true) (pv 3) (mT Xd T4 T.sorted PyProof.Rows.boot_sorted (dK (eH 3) dT))) (lY (nO Bm)) uS) (hH (vM (uD Cn Ds (mT nM nN T.len bD (dK (vD Q (lA Q 1 gV) gV) dT)) gV) (lY (nO Bm)) uS) (hH (lG 4 Bw.nd (lV j B (dK (eH 0) (dK (eH 1) dT)))) (hH (vM (uD (wZ B.units) (sP true) (lV J B (dK (eH 4) dT)) (mY (dK (nL oX pH T.tuple bH (dK (nV ["number"] [] [] (nG (lA Q 2 gV)) (λ_ _ _ _ _=>(lQ 0 Y2)) (λ_ _ _ _ _=>(nS wC wG gV (eH 0)))) dT)) (dK (lA Q 2 gV) (dK (nS wC wG gV (lA Q 2 gV)) dT))))) (lY (nO Bm)) uS) (lY (nO (K2 (zR B.units) (sP false) (lV g B (dK (eH 4) (dK gV dT))) (nS wC wG gV (lV g B (dK (eH 1) (dK gV dT))))))))))))))),?_⟩;have h4:=M.la;refine lC (λy=>∃ (count ring:Nat) (a:Int),Told (lM C al) count ring a/\count<=7012/\ring<=12/\y=[.v (.r (.ref d)),.v (lX C al),.v (nQ (lM C al) count ring a),.n,.n]) (λN u=>⟨C,al,rfl,M,λcount ring a X hc O=>⟨.inl rfl,u _ ⟨count,ring,a,X,hc,O,rfl⟩⟩⟩) ?_;rintro _ ⟨count,ring,a,X,hc,O,rfl⟩;refine lC (λy=>y=[.v (.r (.ref d)),.v (lX C al),.v (nQ (lM C al) count ring a),.n,.n]) (λN u=>?_) ?_
 .refine⟨d,c,C,al,rfl,rfl,M,λφ t q G S=>⟨.inl rfl,t,q,rfl,G,λR V a' F _ _=>⟨.inl rfl,?_⟩⟩⟩;have eL:lM t q=lM C al:=funext λk=>by rw[S.late M G k,Int.one_mul]
  rw[eL] at F |-;obtain⟨rfl,rfl,rfl⟩:=F.uniq X;have key:∀ m:Sl->Prop,m (.v (.b false))->tT true (nQ (lM C al) R V a') (nQ (lM C al) R V a') m:=λm h=>Ky true _ _ _ _ h
  dsimp only[vd,sd,List.getElem?_cons_succ,List.getElem?_cons_zero];refine key _ ?_;exact u _ rfl
 rintro _ rfl;obtain⟨L,hL⟩:∃ L,L=lM C al:=⟨_,rfl⟩;refine lC (λy=>y=[.v (.r (.ref d)),.v (lX C al),.v (nQ (lM C al) count ring a),.o (.l ((List.range 40).map λi=>D.int (lM C al (i+1)))),.n]) (λN u=>?_) ?_
 .exact⟨lM C al,count,ring,a,40,rfl,X,by omega,by decide,.inl rfl,u _ rfl⟩
 rintro _ rfl;have nat:∀ i:Nat,i<40->mF ((List.range 40).map λi=>D.int (lM C al (i+1))) (i:Int)=some (.int (lM C al (i+1))):=λi hi=>pQ (by rw[bK,iR hi];rfl)
 refine lC (λy=>y=[.v (.r (.ref d)),.v (lX C al),.v (nQ (lM C al) count ring a),.o (.l ((List.range 40).map λi=>D.int (lM C al (i+1)))),.n]) (λN u=>?_) ?_
 .unfold Qe Bp d2;refine nT [1,2,40] (λn:Nat=>.int n) (λn:Nat=>.int (lM C al n)) [.v (.r (.ref d)),.v (lX C al),.v (nQ (lM C al) count ring a),.o (.l ((List.range 40).map λi=>D.int (lM C al (i+1)))),.n] (λΨ h=>⟨by show 3<=1000;decide,h⟩) (by decide) (λi n ys Nx e h1 h2=>?_) ?_
  .have:n<=40:=by
    have:=aR e;simp only[aF,bJ,dL] at this;omega
   exact⟨C,al,n,rfl,M,by omega,.inl rfl,h1,h2⟩
  .refine⟨rfl,_,nat 0 (by decide),rfl,_,nat 1 (by decide),rfl,_,nat 39 (by decide),by show 3<=1000;decide,?_⟩;have key:∀ m:Sl->Prop,m (.v (.b false))->tT true (lS [lM C al 1,lM C al 2,lM C al 40]) (lS [lM C al 1,lM C al 2,lM C al 40]) m:=λm h=>Hq true _ _ (by rw[cG rfl];exact h)
   refine key _ ?_;exact u _ rfl
 rintro _ rfl;have aa:D.l ((List.range 40).map λi=>D.int (lM C al (i+1)))=lS ((List.range 40).map λi=>lM C al (i+1)):=by
  show _=D.l (List.map D.int _);rw[bC];rfl
 refine lC (λy=>∃ W,y=[.v (.r (.ref d)),.v (lX C al),.v (nQ (lM C al) count ring a),W,.n]) (λN u=>?_) ?_
 .rw[aa];refine⟨rfl,_,yU _,by simp,?_,?_⟩
  .refine List.pairwise_map.mpr (List.pairwise_lt_range.imp λh=>R0 h4 (by omega))
  .have key:∀ (ns:Aa Int) (m:Sl->Prop),m (.v (.b false))->tT true (lS ns) (lS ns) m:=λns m h=>Hq true _ _ (by rw[cG rfl];exact h)
   refine key _ _ ?_;exact u _ ⟨_,rfl⟩
 rintro _ ⟨W,rfl⟩;have Z:(C.gates.map lF).length=C.gates.length:=by simp
 refine lC (λy=>C.gates.length<=12/\y=[.v (.r (.ref d)),.v (lX C al),.v (nQ (lM C al) count ring a),W,.n]) (λN u=>?_) ?_
 .refine⟨rfl,_,rfl,_,rfl,rfl,_,rfl,?_⟩;show if decide ((12:Int)<(((C.gates.map lF).length:Nat):Int))=true then _ else _
  rw[Z];by_cases z:(12:Int)<((C.gates.length:Nat):Int)
  .refine zN z ?_;exact Y
  .refine Au z ?_;exact u _ ⟨by omega,rfl⟩
 rintro _ ⟨ab,rfl⟩;refine lC (λy=>∃ (φ:Af->Af) (t:Cel) (q:Aa (Af×Af)),GoodRow t q/\Sim φ 2 C al t q/\wL t=2*wL C/\y=[.v (.r (.ref d)),.v (lX C al),.v (nQ (lM C al) count ring a),W,.v (lX t q)]) (λN u=>⟨d,c,C,al,rfl,rfl,M,ab,λφ t q G S hR=>⟨.inl rfl,u _ ⟨φ,t,q,G,S,hR,rfl⟩⟩⟩) ?_;rintro _ ⟨φ,t,q,G,S,hG,rfl⟩;refine lC (λy=>y=[.v (.r (.ref d)),.v (lX C al),.v (nQ (lM C al) count ring a),W,.v (lX t q)]) (λN u=>?_) ?_
 .refine⟨t,q,rfl,G,λR V a' F _ _=>⟨.inl rfl,?_⟩⟩;have eL:lM t q=λk=>2*lM C al k:=funext λk=>S.late M G k
  rw[eL] at F |-;obtain⟨rfl,rfl,rfl⟩:=F.uniq X.twice;unfold Rf dC aC;refine nT (List.range R) (λi=>D.int (lM C al (i+1))) (λi=>D.int (2*lM C al (i+1))) [.v (.r (.ref d)),.v (lX C al),.v (nQ (lM C al) R V a),W,.v (lX t q)] (λΨ h=>⟨rfl,_,rfl,h⟩) (by rw[cI];omega) (λi x ys Nx e h1 h2=>⟨.inl ⟨by decide,by decide⟩,h1,h2⟩) ?_;refine⟨rfl,_,rfl,rfl,_,rfl,.inl ⟨by decide,by decide⟩,by show 3<=1000;decide,?_⟩;have key:∀ m:Sl->Prop,m (.v (.b false))->tT true (nQ (λk=>2*lM C al k) R V (2*a)) (nQ (λk=>2*lM C al k) R V (2*a)) m:=λm h=>Ky true _ _ _ _ h
  refine key _ ?_;exact u _ rfl
 rintro _ rfl;refine⟨t,q,7,rfl,G,by decide,.inl rfl,C,al,7,rfl,M,by decide,.inl rfl,.inl ⟨by decide,by decide⟩,?_⟩;show Φ (.v (.b (nb false (decide (((7:Nat):Int)*((wL t:Nat):Int)=2*(((7:Nat):Int)*((wL C:Nat):Int)))))));rw[hG,cG (by omega)];exact Y
theorem Nn:FnScope ["script","deck"] ["script"] (lU P4):=oJ
theorem Ui (F:Fun K "law" "law" P4 f fd) (T:Txt U) (g:Gd K U "_law_deck" Du ["script"] fD aa)
  (J:Kn P w K U base 4 "_law_row" Bz ["deck","inputs","gates","most"] Me) (C:Kn P w K U base 2 "_law_loops" Es ["deck"] Ra) (l:Kn P w K U base 4 "_law_looped" Ce ["deck","loops"] Kb) (j:Kn P w K U base 7 "_law_right" Dy ["deck","row"] Mi)
  (I:FnOk P w K U base mQ 1 fD aa ["script"] (K7 K)) :
  FnOk P w K U base mQ 8 f fd ["script"] (E1 K):=by
 refine F.ok Nn (λvs H Q E h=>?_) (λR A z s H vs Q E q h=>?_)
 .obtain⟨a,L,rfl,_⟩:=h;rfl
 .obtain⟨a,L,rfl,X,t,W⟩:=h;have hu:=Ni q;have y:Room 1 _:=q.mono (by decide);refine Lu _ (nH (i:=1) Nn.nd rfl (Or.inl rfl) (qO I y rfl g.m g.k g.b .nil qB (lB (pv 0) lI))) ?_;refine⟨_,rfl,a,L,rfl,X,t,λd c O N _ _ _=>?_⟩;refine⟨_,(lY (nO (U2 (lV j q (dK (eH 1) (dK (lV J q (dK (eH 1) (dK gV (dK gV (dK gV dT))))) dT))) (Y3 (lV j q (dK (eH 1) (dK (lV l q (dK (eH 1) (dK (lV C q (dK (eH 1) dT)) dT))) dT))))))),⟨[d,c],λ_=>False,O⟩,[.n,.v (.r (.ref d))],[],{ nx:=λ_=>False,rt:=λr=>r = .v (.b true) },rfl,?_,?_,?_,?_⟩
  .refine⟨λb o e _=>e,.inr ⟨d,c,rfl,N⟩,List.nodup_nil,λb Y=>absurd Y bJ,λp u=>?_⟩;have u:p∈[((Sl.n:Sl),some (V.ref a)),(.v (.r (.ref d)),some (V.ref d))]:=u;simp only[aF,bJ,dL] at u;rcases u with rfl | rfl<;>first | trivial | exact⟨_,rfl,.r _⟩
  .refine⟨d,c,6,12,4,rfl,rfl,by decide,by decide,by decide,λM x g1=>⟨.inl rfl,d,c,M,x,rfl,rfl,g1,.inl rfl,d,c,rfl,rfl,λZ ok=>⟨.inl rfl,d,c,Z,rfl,rfl,ok,λxs lx nd S=>⟨.inl rfl,d,c,_,_,rfl,rfl,Vt ok lx nd S,.inl rfl,rfl⟩⟩⟩⟩
  .intro B D G _ _ _;exact⟨False.elim,False.elim,False.elim⟩
  .rintro r v B D G _ d1 rfl;obtain rfl:=d1.valAt.bl_inv;exact W G
end
def DF (K:kY) (x:Af) (st:Stmt):Prop:=∃ (f:Ad) (e a:Ab Ad) (h:Array (Ab Ac)) (d kV c pm cd b:Ac),PySem.W.nsIn K mainGlobals x=some (some (.ref f))/\K.lookup f=some ⟨d,e,.func (PySem.W.fnOf x x (rT st) (qQ st) (lU st) .none kV c pm a cd b),h⟩/\PySem.W.codeIn K cd x=true/\PySem.W.keepIn K (.ref f)=true
def NZ (K:kY) (x:Af):Prop:=PySem.W.nsIn K mainGlobals x=some none
theorem df_mk {K:kY}{st:Stmt}{kV cd:Ac}(a:PySem.W.nsIn K mainGlobals x=some (some (.ref f))) (l:K.lookup f=some ⟨p,r,.func (PySem.W.fnOf x x (rT st) (qQ st) (lU st) .none kV o pm g cd j),C⟩) (c:PySem.W.codeIn K cd x=true) (k:PySem.W.keepIn K (.ref f)=true):DF K x st:=⟨f,r,g,C,p,kV,o,pm,cd,j,a,l,c,k⟩
theorem Bn {K:kY}{st:Stmt}(o:Aa Af) (X:K.In h) (G:h.Ns mainGlobals J) (d:DF K x st)
  (I:∀ (kV j pm:Ac) (r:Ab Ad) (g C:Ac) (p:Aa Ac),p.length=o.length->bindArgs (PySem.W.fnOf x x (rT st) (qQ st) (lU st) .none kV j pm r g C) ⟨p,[]⟩=pure (o.zip p)):∃ f fd,Gd K J x st o f fd:=by
 obtain⟨f,i,r,m,e,kV,b,pm,cd,C,a,l,c,k⟩:=d;have F:=M6 (st:=st) l c k;exact⟨f,_,F,PySem.W.mg_of X G a,k,F.binds I⟩
theorem So {K:kY}{st:Stmt}(X:K.In h) (G:h.Ns mainGlobals j) (d:DF K x st) (g:∀ a b c d e f,bindArgs (PySem.W.fnOf x x (rT st) (qQ st) (lU st) .none a b c d e f) ⟨[],[]⟩=pure []:=by intros;rfl):∃ f fd,Gd K j x st [] f fd :=
 Bn [] X G d λa b c d e f k i=>by rcases k with _ | _<;>first | exact g a b c d e f | cases i
theorem xX {K:kY}{st:Stmt}(j:Af) (X:K.In h) (G:h.Ns mainGlobals o) (d:DF K x st) (l:∀ a b c d e f g,bindArgs (PySem.W.fnOf x x (rT st) (qQ st) (lU st) .none a b c d e f) ⟨[g],[]⟩=pure [(j,g)]:=by intros;rfl):∃ f fd,Gd K o x st [j] f fd :=
 Bn [j] X G d λa b c d e f k i=>by rcases k with _ | ⟨g,_ | _⟩<;>first | exact l a b c d e f g | cases i
theorem qL {K:kY}{st:Stmt}(l o:Af) (X:K.In h) (G:h.Ns mainGlobals r) (d:DF K x st) (p:∀ a b c d e f g j,bindArgs (PySem.W.fnOf x x (rT st) (qQ st) (lU st) .none a b c d e f) ⟨[g,j],[]⟩=pure [(l,g),(o,j)]:=by intros;rfl):∃ f fd,Gd K r x st [l,o] f fd :=
 Bn [l,o] X G d λa b c d e f k i=>by rcases k with _ | ⟨g,_ | ⟨j,_ | _⟩⟩<;>first | exact p a b c d e f g j | cases i
theorem Go {K:kY}{st:Stmt}(o p r:Af) (X:K.In h) (G:h.Ns mainGlobals I) (d:DF K x st) (C:∀ a b c d e f g j l,bindArgs (PySem.W.fnOf x x (rT st) (qQ st) (lU st) .none a b c d e f) ⟨[g,j,l],[]⟩=pure [(o,g),(p,j),(r,l)]:=by intros;rfl):∃ f fd,Gd K I x st [o,p,r] f fd :=
 Bn [o,p,r] X G d λa b c d e f k i=>by rcases k with _ | ⟨g,_ | ⟨j,_ | ⟨l,_ | _⟩⟩⟩<;>first | exact C a b c d e f g j l | cases i
theorem CW {K:kY}{st:Stmt}(p r C I:Af) (X:K.In h) (G:h.Ns mainGlobals T) (d:DF K x st) (J:∀ a b c d e f g j l o,bindArgs (PySem.W.fnOf x x (rT st) (qQ st) (lU st) .none a b c d e f) ⟨[g,j,l,o],[]⟩=pure [(p,g),(r,j),(C,l),(I,o)]:=by intros;rfl):∃ f fd,Gd K T x st [p,r,C,I] f fd :=
 Bn [p,r,C,I] X G d λa b c d e f k i=>by rcases k with _ | ⟨g,_ | ⟨j,_ | ⟨l,_ | ⟨o,_ | _⟩⟩⟩⟩<;>first | exact J a b c d e f g j l o | cases i
theorem all_mk {l:PySem.W.OpenLaw}{K:kY}(X:K.In h) (G:h.Ns mainGlobals mg) (bo:mg "law" = some (.ref fa))
  (d1:DF K "carried_inputs" Fb)
  (d2:DF K "latest" Ej)
  (d3:DF K "gate_count" Ei)
  (d4:DF K "ways" B5)
  (d5:DF K "common_ring" C0)
  (d6:DF K "lates_to" As)
  (d7:DF K "at_edges" zW)
  (d8:DF K "one_cell_more" xS)
  (d9:DF K "told_lates" Dp)
  (a2:DF K "steady_from" Et)
  (a3:DF K "are_steady" Ch)
  (a4:DF K "adds_always" Ci)
  (a5:DF K "more_by" Di)
  (a6:DF K "_law_deck" Du)
  (a7:DF K "_law_take" uH)
  (a8:DF K "_law_kept" zS)
  (a9:DF K "_law_made_names" B2)
  (ba:DF K "_law_names" xB)
  (bb:DF K "_law_gate" Cw)
  (bc:DF K "_law_row" Bz)
  (bd:DF K "_law_shuffled" Cd)
  (be:DF K "_law_loops" Es)
  (bf:DF K "_law_led" Do)
  (bg:DF K "_law_looped" Ce)
  (bh:DF K "_law_by_told" Ee)
  (bi:DF K "_law_renamed" Ef)
  (bj:DF K "_law_followed" Eo)
  (bm:DF K "_law_right" Dy)
  (bn:DF K "law" Ba)
  (z1:NZ K "len")
  (z2:NZ K "range")
  (z3:NZ K "sum")
  (z4:NZ K "min")
  (z5:NZ K "max")
  (z6:NZ K "tuple")
  (z7:NZ K "list")
  (z8:NZ K "set")
  (z9:NZ K "dict")
  (bp:NZ K "int")
  (bq:NZ K "str")
  (br:NZ K "zip")
  (bt:NZ K "enumerate")
  (bu:NZ K "all")
  (bv:NZ K "any")
  (bw:NZ K "isinstance")
  (bx:NZ K "sorted")
  (bz:NZ K "abs")
  (b0:NZ K "reversed")
  (b1:NZ K "bool")
  : ∃ fd:FuncData,(∀ (s:Ae) (v:Ac),BindsTo s fd ⟨[v],[]⟩ [("script",v)])/\∀ base:Ag,K.In base->base.Ns mainGlobals mg->FnOk l.prog w K mg base mQ 8 fa fd ["script"] (E1 K):=by
 obtain⟨f1,e1,m⟩:=xX "row" X G d1;obtain⟨f2,e2,ay⟩:=qL "row" "width" X G d2;obtain⟨f3,e3,r⟩:=qL "row" "width" X G d3;obtain⟨f4,e4,a0⟩:=xX "row" X G d4;obtain⟨f5,e5,M⟩:=xX "count" X G d5;obtain⟨f6,e6,aj⟩:=qL "row" "width" X G d6;obtain⟨f7,e7,ai⟩:=xX "row" X G d7;obtain⟨f8,e8,t⟩:=qL "row" "state" X G d8;obtain⟨f9,e9,I⟩:=qL "cell" "carried" X G d9;obtain⟨cp,b2,Q⟩:=qL "row" "ring" X G a2;obtain⟨cq,b3,p⟩:=qL "row" "states" X G a3;obtain⟨cs,b4,L⟩:=Go "row" "state" "added" X G a4;obtain⟨cu,b5,au⟩:=Go "state" "added" "times" X G a5;obtain⟨cv,b6,u⟩:=xX "script" X G a6;obtain⟨cw,b7,i⟩:=qL "deck" "many" X G a7;obtain⟨cx,b8,ao⟩:=So X G a8;obtain⟨cy,b9,n⟩:=qL "deck" "many" X G a9;obtain⟨cz,ca,ae⟩:=qL "deck" "many" X G ba;obtain⟨c0,cb,ak⟩:=qL "deck" "known" X G bb;obtain⟨c1,cc,ar⟩:=CW "deck" "inputs" "gates" "most" X G bc;obtain⟨c2,cf,B⟩:=qL "deck" "some" X G bd;obtain⟨c3,cg,ac⟩:=xX "deck" X G be;obtain⟨c4,ch,O⟩:=Go "rows" "part" "many" X G bf;obtain⟨c5,cj,C⟩:=qL "deck" "loops" X G bg;obtain⟨c6,ck,N⟩:=qL "found" "widths" X G bh;obtain⟨c7,cl,P⟩:=qL "deck" "row" X G bi;obtain⟨c8,cm,A⟩:=qL "deck" "row" X G bj;obtain⟨c9,cn,af⟩:=qL "deck" "row" X G bm;obtain⟨f,od,an,sl,oc,kV,dc,pm,cd,ct,a,lk,c,k⟩:=bn;cases bo.symm.trans (PySem.W.mg_of X G a);have FL:=M6 (st:=Ba) lk c k;refine⟨PySem.W.fnOf "law" "law" (rT Ba) (qQ Ba) (lU Ba) .none kV dc pm an cd ct,λs v=>.of_eq rfl,λbase _ _=>?_⟩;have T:Txt mg:=⟨bP X G z1,bP X G z2,bP X G z3,bP X G z4,bP X G z5,bP X G z6,bP X G z7,bP X G z8,bP X G z9,bP X G bp,bP X G bq,bP X G br,bP X G bt,bP X G bu,bP X G bv,bP X G bw,bP X G bx,bP X G bz,bP X G b0,bP X G b1⟩;have H:∀ {k x st ps R f fd},Gd K mg x st ps f fd->oI l.prog w K mg base k x st ps R->Kn l.prog w K mg base k x st ps R:=λg o=>⟨_,_,g,o _ _ g.F⟩
 have d:=H i λ_ _ F=>Y4 (Er F T)
 have b:=H ae λ_ _ F=>U8 (FJ F T i ao n)
 have aq:=H ak λ_ _ F=>Zd (Va F T i)
 have av:=H ar (FZ T d b aq);have E:=H B (U9 T d);have q:=H m (Zo T);have y:=H ai (Zg T);have U:=H r (EY T);have ab:=H I (GA T);have e:=H t (U3 T q ab);have z:=H aj (BC T y e);have az:=H ay (DM T z);have ax:=e.mono (R':=Eh) λ_ _ _=>EK
 have V:=H M (Zw T);have aw:=H au (AT T);have S:=H L (Yc T ax aw);have J:=H p (DH T S);have j:=H Q (EM T y ax J);have a1:=H a0 (Zx T V j z);have Y:=H N (W2 T);have ag:=H ac (GU T d);have aa:=H C (S8 T O (R5 O.F T) b);have Z:=H P (Ua T d b E);have D:=H A (Vu T b);have ah:=H af (X5 T a1 Z Y az D U);exact Ui FL T u av ag aa ah (W7 u.F T)
theorem walk {l:PySem.W.OpenLaw}{q:Ah}{g:Aa Af}{C:(Af->Ab Ac)->Ag->Prop}{p:World->Ag->Prop}{d:DefRec}{K:Params->kY}(J:l.most=some 63) (o:d.params.defaults=[])
  (I:∀ (w:World) (h:Ag),p w h->(K w.params).In h)
  (F:∀ (w:World) (j:Af->Ab Ac) (r:Ad) (h:Ag),(K w.params).In h->h.Ns mainGlobals j->j d.name=some (.ref r) ->∃ fd:FuncData,(∀ (s:Ae) (u:Ac),BindsTo s fd ⟨[u],[]⟩ [("script",u)])/\∀ base:Ag,(K w.params).In base->base.Ns mainGlobals j->FnOk l.prog w (K w.params) j base mQ 8 r fd ["script"] (E1 (K w.params))) :
  PySem.W.WalkO q g C p l.row.toRowW d [] (λf T=>PySem.call f T) :=
 L2.walk_of (n:=63) (k:=8) (x := "script") (CX:=λ_=>mQ) (sp:=λw=>E1 (K w.params)) J (by decide) o ⟨rfl,by decide,by decide⟩ I F (λ_ _ a e c _ b=>⟨a,e,rfl,b,c,λ_=>rfl⟩) λ_ _ _ _ _ z=>z
end Lw
namespace PySem.W.Fast
theorem tw10889202208910860785:True:=⟨⟩
theorem tw17246746654023176040:True:=⟨⟩
theorem tw11110442497911094713:True:=⟨⟩
theorem tw18216654188924773156:True:=⟨⟩
theorem tw17839792401327650081:True:=⟨⟩
theorem tw8195169620181836267:True:=⟨⟩
theorem tw595660720556803644:True:=⟨⟩
theorem tw8589991185817759017:True:=⟨⟩
theorem tw18122334954961994671:True:=⟨⟩
theorem tw2971620574365017205:True:=⟨⟩
theorem tw5358532960683825822:True:=⟨⟩
theorem tw3621679684958322166:True:=⟨⟩
theorem tw9916495521188708661:True:=⟨⟩
theorem tw925678435180429980:True:=⟨⟩
theorem tw8047428909869608075:True:=⟨⟩
theorem tw17610533963995129270:True:=⟨⟩
theorem tw15522431609353135551:True:=⟨⟩
theorem tw4591182975854852586:True:=⟨⟩
theorem tw8222051913187791259:True:=⟨⟩
theorem tw11188213262763533386:True:=⟨⟩
theorem tw15093508801120712368:True:=⟨⟩
theorem tw17257155489260644390:True:=⟨⟩
theorem tw7308593804950740824:True:=⟨⟩
theorem tw7378784982562350026:True:=⟨⟩
theorem tw13015583917156144284:True:=⟨⟩
theorem tw10604168465526737078:True:=⟨⟩
theorem tw9561989456193724154:True:=⟨⟩
theorem tw14462493122485407609:True:=⟨⟩
theorem tw888893768563814529:True:=⟨⟩
theorem tw2290349934845482555:True:=⟨⟩
theorem tw10960518449025163316:True:=⟨⟩
theorem tw9926747455415830190:True:=⟨⟩
theorem tw4609740915465636522:True:=⟨⟩
theorem tw4645105674963038356:True:=⟨⟩
theorem tw5488385808523267738:True:=⟨⟩
theorem tw3560712351233153845:True:=⟨⟩
theorem tw15859839418737231213:True:=⟨⟩
theorem tw9556146744151232896:True:=⟨⟩
theorem tw12314066044606639780:True:=⟨⟩
theorem tw9383854895949144810:True:=⟨⟩
theorem tw9280481074818955070:True:=⟨⟩
theorem tw9157924445459637169:True:=⟨⟩
theorem tw4117892063486953577:True:=⟨⟩
theorem tw9933062035163405846:True:=⟨⟩
theorem tw9792774620945720963:True:=⟨⟩
theorem tw4219040002853833988:True:=⟨⟩
theorem tw15051463309277687916:True:=⟨⟩
theorem tw3016689301503108190:True:=⟨⟩
theorem tw8012426494953606081:True:=⟨⟩
theorem tw1906214308460997764:True:=⟨⟩
theorem tw1505353265312860799:True:=⟨⟩
theorem tw15114932048358427644:True:=⟨⟩
theorem tw1400843894577839611:True:=⟨⟩
theorem tw8169280029161909088:True:=⟨⟩
theorem tw7744620166696510863:True:=⟨⟩
theorem tw16223506835308169912:True:=⟨⟩
theorem tw7014583121986718381:True:=⟨⟩
theorem tw5647534441099480264:True:=⟨⟩
theorem tw17191910487329570660:True:=⟨⟩
theorem tw11547255077230927346:True:=⟨⟩
theorem tw15955257001892155487:True:=⟨⟩
theorem tw1109599684190885576:True:=⟨⟩
theorem tw9061751342398321044:True:=⟨⟩
theorem tw7132319400116147967:True:=⟨⟩
theorem tw8695026514921731777:True:=⟨⟩
theorem tw2775323426486394479:True:=⟨⟩
theorem tw6862658075787060921:True:=⟨⟩
theorem tw1023170892222990603:True:=⟨⟩
theorem tw18293561981221169190:True:=⟨⟩
theorem tw6028002683800168902:True:=⟨⟩
theorem tw5268189536578317177:True:=⟨⟩
end PySem.W.Fast
open PySem PySem.W PyProof.Rows
set_option maxRecDepth 100000 in
set_option maxHeartbeats 0 in
theorem PySem.Challenge.cw_laidcells_k31_whole_ways_of_rows_turned_holds : PySem.Challenge.rw_laidcells_k31_whole_ways_of_rows_turned.Holds := by
 w_on;o_law;k_head;(case hw=>w_witness2)
 k_fill
 refine Lw.walk (l:=PySem.Challenge.rw_laidcells_k31_whole_ways_of_rows_turned) rfl rfl (fun w h Y=>PySem.W.kIn_of Y) ?F
 case F =>
  intro w mg fa h KX G hmg;refine' Lw.all_mk KX G hmg ?_ ?_ ?_ ?_ ?_ ?_ ?_ ?_ ?_ ?_ ?_ ?_ ?_ ?_ ?_ ?_ ?_ ?_ ?_ ?_ ?_ ?_ ?_ ?_ ?_ ?_ ?_ ?_ ?_ ?_ ?_ ?_ ?_ ?_ ?_ ?_ ?_ ?_ ?_ ?_ ?_ ?_ ?_ ?_ ?_ ?_ ?_ ?_ ?_
  all_goals try refine' Lw.df_mk ?_ ?_ ?_ ?_
  all_goals try unfold Lw.NZ
  all_goals try first | k_is | (dsimp only;k_is)
