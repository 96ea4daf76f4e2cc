import PyProof.Rows.All
import Wide.All
import OpenK.AllK
import Wide.FinOn
import Lean
import PyProof.EqAt
import PyProof.EqKinds
import PyProof.TupleCall
import PyProof.StationsW
import PyProof.Commute
import PyProof.ExcClass3
import PyProof.ExcInit
import OpenK.KCls
import OpenK.KMake
import PyProof.ExcArgsOwn
import PyProof.InstStoreFacts
import PyProof.MaxThree
import KE.KMinKey
import KE.KIntText
import PyProof.DictUpdate
import PyProof.Draws
import PyProof.EnumMake
import PyProof.DictIter
import KE.KDictSum
import KE.KRevSl
import PyProof.Rows.SortStr
import PyProof.Rows.SortWalk
import PyProof.DictValues
import PyProof.DictWalks
import PyProof.MeetsDictList
import PySem.Challenge.RW_laidcells_k30_whole_ways_of_loops
set_option Elab.async false
set_option linter.all false
set_option compiler.extract_closed false
set_option maxRecDepth 100000
set_option maxHeartbeats 20000000
noncomputable section
abbrev Aa:=@List
abbrev Ab:=@Option
abbrev Ac:=@PySem.Value
abbrev Ad:=@PySem.Addr
abbrev Ae:=@PySem.Shared
abbrev Af:=@PySem.Str
abbrev Ag:=@PySem.Heap
abbrev Ah:=@PySem.Program
abbrev kG:=PySem.W.Frag
abbrev aA:=@PySem.wpAny_bind
abbrev aB:=@List.length_map
abbrev aD:=@PySem.wpAny_pure
abbrev aE:=@PySem.Heap.get?_push_of_some
abbrev aF:=@List.mem_cons
abbrev aG:=@List.mem_cons_self
abbrev aH:=@Nat.le_refl
abbrev aI:=@List.getElem?_eq_getElem
abbrev aJ:=@List.mem_map
abbrev aK:=@List.getElem?_eq_some_iff
abbrev aL:=@List.mem_of_getElem?
abbrev aM:=@PySem.Heap.lt_size
abbrev aN:=@List.mem_cons_of_mem
abbrev aO:=@List.take_of_length_le
abbrev aP:=@List.size_toArray
abbrev aQ:=@List.mem_singleton
abbrev aR:=@PySem.Heap.get?_push_size
abbrev aT:=@Nat.lt_of_lt_of_le
abbrev aU:=@Bool.false_ne_true
abbrev aV:=@List.mem_append
abbrev aW:=@List.map_cons
abbrev aX:=@Nat.ne_of_lt
abbrev aY:=@List.mem_append_right
abbrev aZ:=@List.map_append
abbrev bA:=@if_pos
abbrev bB:=@if_neg
abbrev bC:=@List.length_append
abbrev bD:=@List.append_assoc
abbrev bE:=@List.not_mem_nil
abbrev bF:=@PySem.W.mg_none_of
abbrev bG:=@List.getElem?_map
abbrev bH:=@List.length_set
abbrev bI:=@List.take_add_one
abbrev bJ:=@PySem.wpAny_holding
abbrev bK:=@Int.mul_le_mul_of_nonneg_left
abbrev bL:=@List.nodup_append
abbrev bM:=@Nat.le_trans
abbrev bN:=@List.getElem?_append_right
abbrev bP:=@PySem.boot_len
abbrev bQ:=@List.length_take
abbrev bS:=@decide_eq_false
abbrev bT:=@Option.some.inj
abbrev bU:=@List.nodup_cons
abbrev bV:=@List.replicate_succ
abbrev bW:=@List.mem_append_left
abbrev bX:=@Bool.and_eq_true
abbrev bY:=@PySem.F.plainAttrs_list
abbrev bZ:=@List.map_map
abbrev cA:=@Classical.byContradiction
abbrev cB:=@Option.map_eq_some_iff
abbrev cC:=@PySem.F.slot_list_append
abbrev cD:=@PySem.F.type_list_append
abbrev cE:=@Int.mul_le_mul_of_nonneg_right
abbrev cF:=@List.length_range
abbrev cG:=@Function.comp_def
abbrev cH:=@List.mem_range
abbrev cI:=@List.take_append_drop
abbrev cJ:=@Classical.choose_spec
abbrev cK:=@List.getElem?_append_left
abbrev cL:=@List.cons_append
abbrev cM:=@Bool.and_eq_true_iff
abbrev cN:=@PyProof.Rows.callWith_type1
abbrev cO:=@Int.le_refl
abbrev cP:=@PySem.wpAny_callSpecial?_slot
abbrev cQ:=@List.getElem_mem
abbrev cR:=@PySem.Heap.size_push
abbrev cS:=@List.lookup_cons
abbrev cT:=@PyProof.Rows.boot_tuple
abbrev cU:=@Nat.zero_le
abbrev cV:=@decide_eq_true
abbrev cW:=@Nat.lt_irrefl
abbrev cX:=@Option.isSome_iff_exists
abbrev cY:=@List.length_cons
abbrev cZ:=@PySem.mem_of_lookup
abbrev dB:=@Int.eq_ofNat_of_zero_le
abbrev dD:=@PySem.wpAny_mono
abbrev dF:=@congrArg
abbrev dH:=@Nat.lt_of_le_of_lt
abbrev dJ:=@PySem.Around.under_plainId
abbrev dL:=@List.getD_eq_getElem?_getD
abbrev dM:=@PySem.W.kia_one
abbrev dN:=@PySem.wpAny_pyIter_list
abbrev dO:=@PySem.wpAny_field
abbrev dP:=@List.length_singleton
abbrev dQ:=@List.getElem?_eq_none
abbrev dR:=@List.getElem?_take_of_lt
abbrev dU:=@PySem.wpAny_seqItems
abbrev dX:=@PySem.PassesOwn.never
abbrev dY:=@List.getElem?_set_ne
abbrev dZ:=@PySem.wpAny_isInstance
abbrev eA:=@List.all_eq_true
abbrev eC:=@Ne.symm
abbrev eD:=@Int.toNat_natCast
abbrev eE:=@if_false
abbrev eF:=@if_true
abbrev eG:=@of_decide_eq_true
abbrev eI:=@beq_eq_false_iff_ne
abbrev eJ:=@List.getElem_of_mem
abbrev eK:=@List.find?_cons
abbrev eL:=@PySem.codeAny_builtin
abbrev eN:=@List.length_replicate
abbrev eO:=@Array.getElem?_toList
abbrev eP:=@or_false
abbrev eQ:=@PySem.wpAny_Call_Name_kw
abbrev eR:=@List.length_drop
abbrev eS:=@Bool.false_eq_true
abbrev eU:=@Nat.le_add_right
abbrev eV:=@Int.emod_lt_of_pos
abbrev eW:=@PySem.wpAny_typeOf
abbrev eX:=@List.any_cons
abbrev eY:=@Int.mul_add
abbrev eZ:=@PySem.wpAny_newObj_type
abbrev fA:=@List.flatten_cons
abbrev fB:=@PySem.F.slot_zip_next
abbrev fC:=@PyProof.Rows.F.plain_set_update_loop
abbrev fE:=@PySem.wpAny_call_entry
abbrev fF:=@Option.toList_some
abbrev fG:=@List.zip_cons_cons
abbrev fH:=@PySem.F.slot_tuple_iterator_next
abbrev fJ:=@Array.getElem?_eq_getElem
abbrev fN:=@PySem.wpAny_passesOwn
abbrev fO:=@List.foldl_cons
abbrev fP:=@Int.emod_nonneg
abbrev fQ:=@List.foldl_append
abbrev fR:=@Nat.add_zero
abbrev fS:=@PySem.wpAny_attempt
abbrev fU:=@List.set_eq_of_length_le
abbrev fV:=@PyProof.Rows.slot_tuple_getitem
abbrev fW:=@Array.length_toList
abbrev fX:=@List.length_pos_iff
abbrev fY:=@List.ext_getElem
abbrev fZ:=@List.eq_nil_iff_forall_not_mem
abbrev gA:=@List.any_eq_true
abbrev gB:=@Nat.add_mul
abbrev gC:=@Nat.one_mul
abbrev gE:=@Nat.le_of_lt
abbrev gF:=@Nat.ne_of_gt
abbrev gG:=@Array.getElem?_eq_none
abbrev gH:=@PySem.wpAny_setField_rec
abbrev gI:=@PySem.wpAny_nextOf_list_item
abbrev gJ:=@List.append_nil
abbrev gL:=@List.cons.injEq
abbrev gO:=@List.range_succ
abbrev gP:=@Int.natCast_add
abbrev gQ:=@Nat.add_assoc
abbrev gR:=@PyProof.Rows.boot_max
abbrev gS:=@Nat.le_succ
abbrev gU:=@Nat.mul_le_mul
abbrev gW:=@Nat.mod_eq_of_lt
abbrev gX:=@List.map_zipWith
abbrev gY:=@List.filterMap_cons
abbrev gZ:=@PyProof.Rows.F.entry_set_update_loop
abbrev hG:=@List.getElem?_range
abbrev hU:=@PySem.F.args_tuple_add_2
abbrev hV:=@PySem.plainId_quiet
abbrev hX:=@PySem.F.slot_list_getattribute
abbrev hZ:=@List.mem_filter
abbrev iA:=@Bool.eq_iff_iff
abbrev iB:=@List.length_nil
abbrev iC:=@List.length_zip
abbrev iD:=@Int.natCast_mul
abbrev iE:=@PySem.Calls.spliced_cons
abbrev iF:=@PySem.tupleKind_room_in1
abbrev iG:=@PySem.sub_AttributeError
abbrev iH:=@List.getElem?_drop
abbrev iI:=@PySem.F.entry_tuple_add
abbrev iJ:=@PySem.wpAny_of_eq
abbrev iK:=@PySem.F.slot_zip_getattribute
abbrev iL:=@PySem.wpAny_pyNext_list_item
abbrev iM:=@PySem.wpAny_truthy_bool
abbrev iN:=@PySem.F.slot_tuple_add
abbrev iO:=@PySem.Heap.get?_update_other
abbrev iP:=@Nat.lt_succ_of_lt
abbrev iQ:=@PySem.wpAny_tryCatch
abbrev iR:=@Option.some.injEq
abbrev iS:=@PySem.F.args_zip_next_1
abbrev iT:=@Nat.sub_zero
abbrev iU:=@PyProof.Rows.boot_dict
abbrev iW:=@List.getElem_cons_drop
abbrev iX:=@Nat.sub_self
abbrev iY:=@Int.mul_comm
abbrev iZ:=@Int.mul_nonneg
abbrev jA:=@PySem.wpAny_pyNext_list_end
abbrev jB:=@PySem.Heap.get?_update_self
abbrev jC:=@PySem.F.slot_dict_get
abbrev jD:=@List.Perm.append_left
abbrev jE:=@PySem.wpAny_nextOf_list_end
abbrev jF:=@beq_iff_eq
abbrev jG:=@beq_self_eq_true
abbrev jH:=@List.perm_middle
abbrev jI:=@PySem.F.entry_zip_next
abbrev jJ:=@List.mem_flatMap
abbrev jK:=@PySem.wpAny_standAt
abbrev jL:=@PySem.wpAny_letGo
abbrev jM:=@PySem.wpAny_execs_nil
abbrev jN:=@List.nil_append
abbrev jO:=@List.forIn_cons
abbrev jP:=@PyProof.Rows.boot_isinstance
abbrev jQ:=@Nat.mul_comm
abbrev jR:=@Int.le_trans
abbrev jS:=@List.mem_filterMap
abbrev jT:=@PySem.call_meets
abbrev jU:=@PySem.wpAny_rule
abbrev jV:=@Nat.div_mul_cancel
abbrev jW:=@decide_eq_true_eq
abbrev jX:=@List.ext_getElem?
abbrev jY:=@PySem.Paired.length
abbrev jZ:=@List.map_nil
abbrev kA:=@PySem.typeIs_int
abbrev kB:=@List.of_mem_zip
abbrev kC:=@List.zip_append
abbrev kD:=@Nat.le_antisymm
abbrev kE:=@Nat.min_eq_left
abbrev kF:=@not_or
namespace L2
open PySem PySem.Spec PyProof.Rows
abbrev hH:=Sum Int Af
noncomputable def wJ:hH->Ac->Bool
 | .inl k,v=>Value.isInt k v
 | .inr x,v=>Value.isStrOf x v
def Sg (w:World):hH->Int
 | .inl k=>hashInt k
 | .inr x=>hashStr w x
theorem tN:∀ {k:hH}{v:Ac},wJ k v=true->(∃ i t,k=Sum.inl i/\v=Value.int i t)\/(∃ x t,k=Sum.inr x/\v=Value.str x t)
 | .inl i,v,h=>by
  obtain⟨t,e⟩:=Value.isInt_shape (k:=i) (v:=v) h;exact .inl ⟨i,t,rfl,e⟩
 | .inr x,v,h=>by
  obtain⟨t,e⟩:=Value.isStrOf_shape (x:=x) (v:=v) h;exact .inr ⟨x,t,rfl,e⟩
theorem Z7 (i:Int) (t:Tok):wJ (.inl i) (.int i t)=true:=by simp[wJ,Value.isInt]
theorem R8 (x:Af) (t:Tok):wJ (.inr x) (.str x t)=true:=by simp[wJ,Value.isStrOf]
theorem CY (a b:Int):decide ((Sum.inl a:hH)=Sum.inl b)=(a == b):=by
 by_cases e:a=b
 .subst e;simp
 .have h:¬ (Sum.inl a:hH)=Sum.inl b:=λq=>e (Sum.inl.inj q)
  rw[bS h];exact (eI.mpr e).symm
theorem Tr (a b:Af):decide ((Sum.inr a:hH)=Sum.inr b)=decide (a=b):=by
 by_cases e:a=b
 .subst e;simp
 .have h:¬ (Sum.inr a:hH)=Sum.inr b:=λq=>e (Sum.inr.inj q)
  rw[bS h,bS e]
theorem Qj (a:Int) (b:Af):decide ((Sum.inl a:hH)=Sum.inr b)=false:=bS (λq=>nomatch q)
theorem Wp (a:Af) (b:Int):decide ((Sum.inr a:hH)=Sum.inl b)=false:=bS (λq=>nomatch q)
def nY (g:Ah) (w:World):PySem.KeyKind g w hH where
 is:=wJ
 hash:=Sg w
 inj:=λv a b m f=>by
  rcases tN m with⟨i,t,rfl,rfl⟩ | ⟨x,t,rfl,rfl⟩
  .rcases tN f with⟨j,u,rfl,e⟩ | ⟨y,u,rfl,e⟩
   .injection e with c _;rw[c]
   .exact nomatch e
  .rcases tN f with⟨j,u,rfl,e⟩ | ⟨y,u,rfl,e⟩
   .exact nomatch e
   .injection e with c _;rw[c]
 byValue:=λk v h=>by
  rcases tN h with⟨i,t,rfl,rfl⟩ | ⟨x,t,rfl,rfl⟩<;>rfl
 pyHash:=λd h=>by
  rcases tN d with⟨i,t,rfl,rfl⟩ | ⟨x,t,rfl,rfl⟩
  .exact wpAny_pyHash_int h
  .exact wpAny_pyHash_str h
 eqBool:=λn d h=>by
  rcases tN n with⟨i,t,rfl,rfl⟩ | ⟨x,t,rfl,rfl⟩
  .rcases tN d with⟨j,u,rfl,rfl⟩ | ⟨y,u,rfl,rfl⟩
   .rw[CY] at h;exact wpAny_eqBool_int h
   .rw[Qj] at h;exact SeqAt.EqAt.int_str i t y u _ _ _ _ h
  .rcases tN d with⟨j,u,rfl,rfl⟩ | ⟨y,u,rfl,rfl⟩
   .rw[Wp] at h;exact SeqAt.EqAt.str_int x t j u _ _ _ _ h
   .rw[Tr] at h;exact wpAny_eqBool_str h
 «strs»:=λk x t v h=>by
  rcases tN h with⟨i,u,rfl,e⟩ | ⟨y,u,rfl,e⟩
  .exact nomatch e
  .injection e with c _;subst c;cases v<;>rfl
theorem AB (g:Ah) (w:World) (i:Int) (t:Tok):(nY g w).is (.inl i) (.int i t)=true:=Z7 i t
theorem T1 (g:Ah) (w:World) (x:Af) (t:Tok):(nY g w).is (.inr x) (.str x t)=true:=R8 x t
inductive V where
 | e | b (b:Bool) | int (i:Int) | str (x:Str) | byt (b:Array UInt8) | flt (b:UInt64) | ref (a:Addr) | ty (n:String)
 deriving DecidableEq
def kM:V->Ac->Prop
 | .e,u=>u=Value.none
 | .b b,u=>u=Value.bool b
 | .int i,u=>∃ t,u=Value.int i t
 | .str x,u=>∃ t,u=Value.str x t
 | .byt b,u=>∃ t,u=Value.bytes b t
 | .flt b,u=>∃ t,u=Value.float b t
 | .ref a,u=>u=Value.ref a
 | .ty n,u=>u=Value.type n
abbrev kJ:Aa V->Aa Ac->Prop:=Paired kM
theorem kJ.length (r:kJ j g):j.length=g.length:=jY r
theorem kJ.get:∀ {j:Aa V}{g:Aa Ac}{i:Nat}{x:V},kJ j g->j[i]?=some x->∃ u,g[i]?=some u/\kM x u
 | _,_,_,_,.nil,e=>by simp at e
 | _,_,0,_,.cons r _,e=>by simp at e;subst e;exact⟨_,rfl,r⟩
 | _,_,i+1,x,.cons _ t,e=>by
  obtain⟨u,a,b⟩:=kJ.get (i:=i) (x:=x) t (by simpa using e);exact⟨u,by simpa using a,b⟩
theorem kJ.set (r:kM x u):∀ {j:Aa V}{g:Aa Ac}(i:Nat),kJ j g->kJ (j.set i x) (g.set i u)
 | _,_,_,.nil=>.nil
 | _,_,0,.cons _ t=>.cons r t
 | _,_,i+1,.cons q t=>.cons q (kJ.set r i t)
theorem kJ.append:∀ {l o:Aa V}{g j:Aa Ac},kJ l g->kJ o j->kJ (l++o) (g++j)
 | _,_,_,_,.nil,s=>s
 | _,_,_,_,.cons r t,s=>.cons r (kJ.append t s)
theorem kJ.take:∀ {j:Aa V}{g:Aa Ac}(n:Nat),kJ j g->kJ (j.take n) (g.take n)
 | _,_,0,_=>.nil
 | _,_,_+1,.nil=>.nil
 | _,_,n+1,.cons r t=>.cons r (kJ.take n t)
theorem kJ.drop:∀ {j:Aa V}{g:Aa Ac}(n:Nat),kJ j g->kJ (j.drop n) (g.drop n)
 | _,_,0,r=>r
 | _,_,_+1,.nil=>.nil
 | _,_,n+1,.cons _ t=>kJ.drop n t
def qV:Ab V->Ab Ac->Prop
 | some v,some u=>kM v u
 | none,none=>True
 | _,_=>False
def KV {g:Type}:Aa (g×V)->Aa (g×Ac)->Prop:=Paired λ(p:g×V) (q:g×Ac)=>p.1=q.1/\kM p.2 q.2
def kV:hH->V
 | .inl i=>.int i
 | .inr x=>.str x
inductive HO where
 | l (xs:List V)
 | t (xs:List V)
 | k (kvs:List (hH×V)) | T (kvs:List (List hH×V))
 | set (S:Int->Bool) (n:Nat)
 | ins (C dx:Addr) (fs:List (Str×V))
 | o (x:Addr)
 | xd (fs:List (Str×V))
 | met (f x:Addr)
 | rng (lo hi:Int)
 | frz (o:Obj) (u:HO)
 | tbl (ps:Array Value)
 | ext (φ:Heap->Prop)
abbrev Hp:=Ad->Ab HO
def upd (H:Hp) (a:Ad) (o:HO):Hp:=λb=>if b=a then some o else H b
theorem lB:upd H a o a=some o:=by unfold upd;rw[if_pos rfl]
theorem kK (h:b≠a):upd H a o b=H b:=by unfold upd;rw[if_neg h]
theorem Zl:upd (upd H a o) a u=upd H a u:=by
 funext b;unfold upd;split<;>rfl
theorem To {H:Hp}{a b:Ad}{o u:HO}(h:H a=some o) (g:H b=some u) (d:o≠u):a≠b:=by
 intro e;subst e;rw[h] at g;exact d (bT g)
theorem lE {H:Hp}{a b:Ad}{o:HO}(h:H a=some o) (g:H b=none):a≠b:=by
 intro e;subst e;rw[h] at g;cases g
section
variable (P:Ah) (w:World)
def tE (h:Ag) (a:Ad) (items:Array Ac):Prop:=IsTup h a items/\∃ o,h.get? a=some o/\o.dict=none
theorem tE.new (h:Ag) (items:Array Ac):tE (h.push { cls:=.type "tuple",data:=.seq items }) h.objs.size items:=⟨IsTup.new _ _,_,aR _ rfl,rfl⟩
def mU (H:Hp) (h:Ag) (a:Ad):HO->Prop
 | .l d=>d.length<=sizeLine/\∃ (b:Aa Ac) (n:Nat),kJ d b/\h.get? a=some { cls:=.type "list",data:=.seq b.toArray n }
 | .t d=>d.length<=sizeLine/\∃ b:Aa Ac,kJ d b/\tE h a b.toArray
 | .k c=>c.length<=sizeLine/\(a == sysModules)=false/\∃ A,KV c A/\h.DictOf (nY P w) a A
 | .T c=>c.length<=sizeLine/\(a == sysModules)=false/\∃ d:Aa (Aa hH×Ad×Ac),
   Paired (λ(p:Aa hH×V) (q:Aa hH×Ad×Ac)=>p.1=q.1/\H q.2.1=some (.t (p.1.map kV))/\kM p.2 q.2.2) c d /\
   ∃ o s B,h.get? a=some o/\o.ExactDict/\o.data = .dict s B/\s.toList=d.map (entryOfKey (tupleKind (nY P w)))/\(d.map (·.1)).Nodup
 | .set S n=>h.SetOf (intKind P w) a S n
 | .ins C i fs=>H i=some (.o a)/\fs.length<=1000/\i≠a/\h.get? a=some (PySem.W.instObj C i) /\
   ∃ e,h.Ns1 i e/\(∀ f,qV (fs.lookup f) (e f))/\PySem.Within e (fs.map (·.1))
 | .o _=>∃ o,h.get? a=some o
 | .xd fs=>∃ e,h.Ns1 a e/\∀ f,qV (fs.lookup f) (e f)
 | .rng lo D=>∃ t u v,h.get? a=some { cls:=.type "range",data:=.fields #[.int lo t,.int D u,.int 1 v] }
 | .frz o u=>h.get? a=some o/\mU H h a u
 | .tbl E=>h.get? a=some { cls:=.none,data:=.fields E }
 | .met f x=>h.get? a=some (PySem.W.methodObj (.ref f) (.ref x))
 | .ext m=>m h/\(∃ o,h.get? a=some o)/\∀ y z:Ag,m y->(∀ o,y.get? a=some o->z.get? a=some o)->m z
def mF (H:Hp) (h:Ag):Prop:=∀ a o,H a=some o->mU P w H h a o
end
section
variable {P:Ah}
theorem mU.lt (x:mU P w H h a o):a<h.objs.size:=by
 cases o with
 | l c=>obtain⟨_,_,_,_,e⟩:=x;exact aM e
 | t c=>obtain⟨_,_,_,p,_⟩:=x;exact p.lt
 | k b=>obtain⟨_,_,_,_,o,_,_,e,_⟩:=x;exact aM e
 | T b=>obtain⟨_,_,_,_,o,_,_,e,_⟩:=x;exact aM e
 | set S n=>obtain⟨o,_,_,_,e,_⟩:=x;exact aM e
 | ins C d fs=>obtain⟨_,_,_,e,_⟩:=x;exact aM e
 | o y=>obtain⟨_,e⟩:=x;exact aM e
 | xd fs=>obtain⟨_,⟨_,_,_,e,_⟩,_⟩:=x;exact aM e
 | rng lo i=>obtain⟨_,_,_,e⟩:=x;exact aM e
 | frz m u=>obtain⟨e,_⟩:=x;exact aM e
 | tbl q=>exact aM (show h.get? a=some _ from x)
 | met f y=>exact aM (show h.get? a=some _ from x)
 | ext s=>obtain⟨_,⟨_,e⟩,_⟩:=x;exact aM e
theorem Paired.mapP {F:l->o->Prop}:∀ {g:Aa l}{j:Aa o},Paired F g j->(∀ a b,F a b->G a b)->Paired G g j
 | _,_,.nil,_=>.nil
 | _,_,.cons r t,f=>.cons (f _ _ r) (Paired.mapP t f)
theorem mU.stay (x:mU P w H h a o) (k:∀ b u,(b=a\/H b=some (.o a))->h.get? b=some u->j.get? b=some u)
  (J:∀ b,H b=some (.o a)->I b=some (.o a)) (U:∀ b g,H b=some (.t g)->I b=some (.t g)):mU P w I j a o:=by
 induction o with
 | l g=>obtain⟨z,A,n,r,e⟩:=x;exact⟨z,A,n,r,k _ _ (.inl rfl) e⟩
 | t g=>obtain⟨z,A,r,⟨i,e,c⟩,M,B,K⟩:=x;exact⟨z,A,r,⟨i,k _ _ (.inl rfl) e,c⟩,M,k _ _ (.inl rfl) B,K⟩
 | k D=>obtain⟨z,y,N,r,i,s,m,e,c⟩:=x;exact⟨z,y,N,r,i,s,m,k _ _ (.inl rfl) e,c⟩
 | T D =>
  obtain⟨z,y,g,r,i,s,m,e,c⟩:=x;exact⟨z,y,g,Paired.mapP r λp q z=>⟨z.1,U _ _ z.2.1,z.2.2⟩,i,s,m,k _ _ (.inl rfl) e,c⟩
 | set S n=>obtain⟨i,s,m,t,e,c⟩:=x;exact⟨i,s,m,t,k _ _ (.inl rfl) e,c⟩
 | ins C O fs =>
  obtain⟨d,z,ne,e,E,⟨F,s,m,B,c⟩,r⟩:=x;exact⟨J _ d,z,ne,k _ _ (.inl rfl) e,E,⟨F,s,m,k _ _ (.inr d) B,c⟩,r⟩
 | o y=>obtain⟨i,e⟩:=x;exact⟨i,k _ _ (.inl rfl) e⟩
 | xd fs=>obtain⟨E,⟨F,s,m,e,c⟩,r⟩:=x;exact⟨E,⟨F,s,m,k _ _ (.inl rfl) e,c⟩,r⟩
 | rng lo Q=>obtain⟨t,u,v,e⟩:=x;exact⟨t,u,v,k _ _ (.inl rfl) e⟩
 | frz i u L=>obtain⟨e,q⟩:=x;exact⟨k _ _ (.inl rfl) e,L q⟩
 | tbl G =>
  have e:h.get? a=some { cls:=.none,data:=.fields G }:=x;show j.get? a=some { cls:=.none,data:=.fields G };exact k a _ (.inl rfl) e
 | met f y =>
  have e:h.get? a=some (PySem.W.methodObj (.ref f) (.ref y)):=x;show j.get? a=some (PySem.W.methodObj (.ref f) (.ref y));exact k a _ (.inl rfl) e
 | ext R=>obtain⟨p,⟨o,e⟩,st⟩:=x;exact⟨st _ _ p λo q=>k _ _ (.inl rfl) q,⟨o,k _ _ (.inl rfl) e⟩,st⟩
theorem mF.lt (x:mF P w H h) (e:H a=some o):a<h.objs.size:=(x a o e).lt
theorem mF.fresh (x:mF P w H h) (e:h.objs.size<=a):H a=none:=by
 cases q:H a with
 | none=>rfl
 | some u=>exact absurd (aT (x.lt q) e) (cW _)
theorem mF.kept (x:mF P w H h) (k:∀ b u,h.get? b=some u->g.get? b=some u):mF P w H g:=λa o e =>
 (x a o e).stay (λb u _ q=>k b u q) (λ_ q=>q) λ_ _ q=>q
theorem mF.laid (x:mF P w H h) (k:∀ b u,h.get? b=some u->g.get? b=some u) (j:h.objs.size<=a) (new:mU P w (upd H a o) g a o):mF P w (upd H a o) g:=λb u e=>by
 have f:=x.fresh j;by_cases d:b=a
 .subst d;rw[lB] at e;cases e;exact new
 .rw[kK d] at e;exact (x b u e).stay (λc v _ q=>k c v q) (λc q=>by rw[kK (lE q f)];exact q) λc i q=>by rw[kK (lE q f)];exact q
end
def Rd (H:Hp) (a:Ad) (u:HO):Prop:=H a=some u\/∃ o,H a=some (.frz o u)
theorem Rd.ok {P:Ah}(r:Rd H a u) (x:mF P w H h):mU P w H h a u:=by
 rcases r with r | ⟨o,r⟩
 .exact x a u r
 .obtain⟨_,q⟩:=x a _ r;exact q
def xU:Ab HO->Prop
 | some (.l _)=>True
 | some (.k _)=>True
 | some (.T _)=>True
 | some (.set _ _)=>True
 | some (.ins _ _ _)=>True
 | some (.ext _)=>True
 | _=>False
section
variable {P:Ah}
theorem mF.write (ok:mF P w H h) (g:xU (H x)) (p:e=x\/H e=some (.o x)) (k:∀ b u,b≠e->h.get? b=some u->j.get? b=some u) (l:∃ u,j.get? e=some u)
  (new:mU P w (upd H x C) j x C):mF P w (upd H x C) j:=λb u q=>by
 have d:∀ c y,H c=some (.o y)->c≠x:=λc y r z=>by subst z;rw[r] at g;exact g
 have f:∀ c n,H c=some (.t n)->c≠x:=λc n r z=>by subst z;rw[r] at g;exact g
 by_cases i:b=x
 .subst i;rw[lB] at q;cases q;exact new
 .rw[kK i] at q;by_cases a:b=e
  .have s:H b=some (.o x):=by
    rcases p with z | z
    .exact absurd (a.trans z) i
    .rw[a];exact z
   rw[q] at s;cases s;obtain⟨v,A⟩:=l;exact⟨v,by rw[a];exact A⟩
  .refine (ok b u q).stay (λc v m r=>k c v ?_ r) (λc r=>by rw[kK (d c b r)];exact r) λc n r=>by rw[kK (f c n r)];exact r
   rcases m with rfl | m
   .exact a
   .rintro rfl;rcases p with z | z
    .exact d c b m z
    .rw[m] at z;cases z;exact i rfl
end
structure Un (fs ex:List Addr) (H H':Hp) (h h':Heap):Prop where
 keep:∀ b o,h.get? b=some o->H b=none->b∉fs->b∉ex->h'.get? b=some o
 slot:∀ b o,h.get? b=some o->H b=none->b∈fs->b∉ex->∃ sl,h'.get? b=some { o with slots:=sl }
 free:∀ b o,h.get? b=some o->H b=none->b∉ex->H' b=none
 there:∀ b o,h.get? b=some o->b∉ex->∃ o',h'.get? b=some o'
 tups:∀ b xs,H b=some (.t xs)->H' b=some (.t xs)
 frzs:∀ b o u,H b=some (.frz o u)->H' b=some (.frz o u)
 tbls:∀ b ps,H b=some (.tbl ps)->∃ more,H' b=some (.tbl (ps++more))
section
theorem Un.any (u:Un fs l H r h o) (q:h.get? b=some g) (n:H b=none) (j:b∉l):∃ p,o.get? b=some { g with slots:=p }:=by
 by_cases a:b∈fs
 .exact u.slot b g q n a j
 .exact⟨g.slots,u.keep b g q n a j⟩
theorem Un.kept (k:∀ b u,h.get? b=some u->g.get? b=some u):Un fs j H H h g :=
 ⟨λb a q _ _ _=>k b a q,λb a q _ _ _=>⟨a.slots,k b a q⟩,λ_ _ _ n _=>n,λb a q _=>⟨a,k b a q⟩,λ_ _ q=>q,λ_ _ _ q=>q,λ_ c q=>⟨#[],by rw[q];simp⟩⟩
theorem Un.refl:Un fs g H H h h:=Un.kept λ_ _ q=>q
theorem Un.laid (k:∀ b u,h.get? b=some u->j.get? b=some u) (l:h.objs.size<=a) (g:H a=none):Un fs p H (upd H a o) h j where
 keep:=λb u q _ _ _=>k b u q
 slot:=λb u q _ _ _=>⟨u.slots,k b u q⟩
 free:=λb u q n _=>by rw[kK (aX (aT (aM q) l))];exact n
 there:=λb u q _=>⟨u,k b u q⟩
 tups:=λb c q=>by rw[kK (lE q g)];exact q
 frzs:=λb u c q=>by rw[kK (lE q g)];exact q
 tbls:=λb d q=>⟨#[],by rw[kK (lE q g),q];simp⟩
theorem Un.write (g:xU (H x)) (p:e=x\/H e=some (.o x)) (k:∀ b u,b≠e->h.get? b=some u->l.get? b=some u) (j:∃ u,l.get? e=some u):Un fs C H (upd H x o) h l:=by
 have f:∀ b,H b=none->b≠x:=λb n z=>by subst z;rw[n] at g;exact g
 have d:∀ b,H b=none->b≠e:=λb n z=>by
  subst z;rcases p with r | r
  .exact f b n r
  .rw[n] at r;cases r
 have c:∀ b u,H b=some u->¬ xU (some u)->b≠x:=λb u q i z=>by subst z;rw[q] at g;exact i g
 refine⟨λb u q n _ _=>k b u (d b n) q,λb u q n _ _=>⟨u.slots,k b u (d b n) q⟩,λb u q n _=>by rw[kK (f b n)];exact n,λb u q _=>?_,
  λb m q=>by rw[kK (c b _ q λz=>z)];exact q,λb u m q=>by rw[kK (c b _ q λz=>z)];exact q,λb s q=>⟨#[],by rw[kK (c b _ q λz=>z),q];simp⟩⟩
 by_cases a:b=e
 .subst a;exact j
 .exact⟨u,k b u a q⟩
end
noncomputable def Dt (h:Ag) (H:Hp):Aa Ad:=(List.range h.objs.size).filter λa=>(H a).isSome
def tK (h:Ag) (H:Hp):Ag:=PySem.W.hideAll h (Dt h H)
theorem DQ (h:Ag) (H:Hp):(tK h H).objs.size=h.objs.size:=PySem.W.hideAll_size _ _
theorem Yo (e:h.get? b=some o) (n:H b=none):(tK h H).get? b=some o :=
 PySem.W.hideAll_get _ e λa=>by
  have q:(H b).isSome=true:=(hZ.mp a).2;rw[n] at q;simp at q
theorem BX (e:(tK h H).get? b=some o):h.get? b=some o/\H b=none:=by
 have a:h.get? b=some o:=PySem.W.of_hideAll (Dt h H) e;refine⟨a,?_⟩;cases q:H b with
 | none=>rfl
 | some x =>
  have c:b∈Dt h H:=hZ.mpr ⟨cH.mpr (aM a),by simp[q]⟩;have z:(tK h H).get? b=none:=PySem.W.hideAll_none (Dt h H) c;rw[z] at e;cases e
structure Mod (K:kG) (mg:Str->Option Value) (base:Heap):Prop where
 kin:K.In base
 glob:base.Ns mainGlobals mg
 blt:∃ mb,base.Ns builtinsNs mb/\∀ x:Str,x ≠ "__name__" -> mb x=bootBuiltins x
 nolimit:base.NoLimit
/-- the context: a def's body (or a comprehension's block) running. base: fixed through the whole law;s₀,H₀: the entry;outer: the frames whose slots others may change (a def's callers);stack: all frames that run;
 ex: iterators that were made ahead of the entry and are walked here (a comprehension's);fn: the names whose cells were made at the entry (a def: all;a comprehension's block: its own);calm: not within an except suite;pn: pins that every state bears;xe: what is wanted of an exception that leaves the code -/
structure Cx where
 prog:Program
 w:World
 K:kG
 mg:Str->Option Value
 base:Heap
 A:Around
 N:List Str
 s₀:Shared
 H₀:Hp
 env:Env
 outer:List Env
 stack:List Env
 ex:List Addr
 fn:Str->Bool
 calm:Bool
 pn:List (Addr×Obj)
 xe:Value->Shared->Prop
noncomputable def rL (l:Aa Env):Aa Ad:=l.filterMap (·.frame)
abbrev Cx.fs (X:Cx):Aa Ad:=rL X.outer
def Cm (g:Scope) (x:Af):Prop:=g.names.lookup x=some .local\/g.names.lookup x=some .cell\/g.names.lookup x=some .free
def sL (g:Scope) (x:Af):Prop:=g.names.lookup x=some .local\/g.names.lookup x=some .cell
def Xj (g:Env) (h:Ag) (m:Af->Ab Ac) (x:Af) (u:Ac):Prop :=
 (g.kindOf x=some .local/\m x=some u)\/((g.kindOf x=some .cell\/g.kindOf x=some .free)/\∃ c,g.cells.lookup x=some c/\h.IsCell c (some u))
structure Cx.Ok (X:Cx):Prop where
 mod:Mod X.K X.mg X.base
 kind:X.env.scope.kind = .function
 glob:X.env.globals=mainGlobals
 blt:X.env.builtins=builtinsNs
 above:X.s₀.heap.objs.size<=X.env.locals
 inj:∀ x y c,X.env.cells.lookup x=some c->X.env.cells.lookup y=some c->x=y
 has:∀ x,(X.env.kindOf x=some .cell\/X.env.kindOf x=some .free)->∃ c,X.env.cells.lookup x=some c
 cab:∀ x c,X.fn x=true->X.env.cells.lookup x=some c->X.s₀.heap.objs.size<=c
 hd:X.calm=true->X.A.handled=none
 frames:X.A.frames=some X.stack
 stk:X.stack=X.outer\/(X.stack=X.env::X.outer/\X.env.frame=some X.env.locals)
 exf:∀ b∈X.ex,b≠X.env.locals/\∀ x c,X.env.cells.lookup x=some c->c≠b
 bs:∀ b o,X.base.get? b=some o->X.s₀.heap.get? b=some o/\X.H₀ b=none
 bsz:X.base.objs.size<=X.s₀.heap.objs.size
 noex:∀ b o,X.base.get? b=some o->b∉X.ex
 exfs:∀ b∈X.ex,b∉X.fs
 funs:X.s₀.heap.FunFrames X.base X.outer
 frf:∀ b∈X.fs,X.H₀ b=none
structure Inv (X:Cx) (pins:List (Addr×Obj)) (σ:List (Option V)) (H:Hp) (s:Shared):Prop where
 ok:X.Ok
 os:s.os=X.s₀.os
 bare:AllBare s.gens
 base:Un X.fs X.ex X.H₀ H X.s₀.heap s.heap
 loc:∃ m,s.heap.Ns X.env.locals m/\∀ (i:Nat) (x:Str) (v:V),X.N[i]?=some x->σ[i]?=some (some v)->Cm X.env.scope x->∃ u,kM v u/\Xj X.env s.heap m x u
 cell:∀ x c,X.env.cells.lookup x=some c->∃ v,s.heap.IsCell c v
 free:H X.env.locals=none
 freeC:∀ x c,X.env.cells.lookup x=some c->H c=none
 pin:∀ p∈X.pn++pins,s.heap.get? p.1=some p.2/\H p.1=none/\p.1≠X.env.locals/\p.1∉X.fs/\∀ v,p.2.data ≠ .cell v
 hok:mF X.prog X.w H s.heap
 len:σ.length=X.N.length
section
variable {X:Cx}
theorem Cx.Ok.nofr (ok:X.Ok) (e:X.base.get? b=some o):b∉X.fs:=λa=>by
 have:=(ok.funs.mem a).1;rw[e] at this;cases this
theorem Inv.bs (I:Inv X g j H s):∀ b o,X.base.get? b=some o->s.heap.get? b=some o/\H b=none:=λb o e =>
 ⟨I.base.keep b o (I.ok.bs b o e).1 (I.ok.bs b o e).2 (I.ok.nofr e) (I.ok.noex b o e),I.base.free b o (I.ok.bs b o e).1 (I.ok.bs b o e).2 (I.ok.noex b o e)⟩
theorem Inv.bk (I:Inv X g j H s):∀ b o,X.base.get? b=some o->s.heap.get? b=some o:=λb o e=>(I.bs b o e).1
theorem Inv.mod (I:Inv X g j H s):Mod X.K X.mg X.base:=I.ok.mod
theorem Inv.kIn (I:Inv X g j H s):X.K.In s.heap:=I.ok.mod.kin.keeps I.bk
theorem Inv.lt (I:Inv X g j H s):X.env.locals<s.heap.objs.size:=let ⟨_,a,_⟩:=I.loc;a.lt
theorem Inv.sz (I:Inv X g j H s):X.s₀.heap.objs.size<=s.heap.objs.size:=bM I.ok.above (gE I.lt)
theorem Inv.nofs (I:Inv X g j H s) (h:s.heap.objs.size<=a):a∉X.fs:=λb=>by
 obtain⟨_,o,c,_⟩:=I.ok.funs.mem b;exact absurd (aT (aM c) (bM I.sz h)) (cW _)
theorem Inv.cne (I:Inv X g j H s):∀ x c,X.env.cells.lookup x=some c->c≠X.env.locals:=λx c e z=>by
 obtain⟨v,o,d,hd⟩:=I.cell x c e;obtain⟨m,⟨i,h,f,b,a,_⟩,_⟩:=I.loc;rw[z,b] at d;cases d;rw[a] at hd;cases hd
theorem Inv.funs (I:Inv X g j H s):s.heap.FunFrames X.base X.outer:=by
 have all:∀ (l:Aa Env),(∀ b∈rL l,b∈X.fs)->X.s₀.heap.FunFrames X.base l->s.heap.FunFrames X.base l:=by
  intro l;induction l with
  | nil=>intro _ _;trivial
  | cons h r t =>
   intro f k;obtain⟨i,⟨L,o,d,m,n,hd⟩,q⟩:=k;have a:L∈X.fs:=f L (by unfold rL;rw[List.filterMap_cons,d];exact aG);obtain⟨u,e⟩:=I.base.slot L o n (I.ok.frf L a) a λz=>I.ok.exfs L z a
   exact⟨i,⟨L,_,d,m,e,hd⟩,t (λb c=>f b (by unfold rL;rw[List.filterMap_cons,d];exact aN _ c)) q⟩
 exact all X.outer (λ_ c=>c) I.ok.funs
theorem Inv.stack (I:Inv X g j H s):s.heap.FunFrames X.base X.stack:=by
 rcases I.ok.stk with e | ⟨e,a⟩
 .rw[e];exact I.funs
 .rw[e];obtain⟨m,b,_⟩:=I.loc;refine .cons (by rw[I.ok.kind];decide) a b ?_ I.funs;exact Heap.get?_none_of_le (bM I.ok.bsz I.ok.above)
theorem Inv.stkSub (I:Inv X g j H s):∀ b∈rL X.stack,b∈X.env.locals::X.fs:=λb a=>by
 rcases I.ok.stk with e | ⟨e,c⟩
 .rw[e] at a;exact aN _ a
 .rw[e] at a;unfold rL at a;rw[gY,c] at a;exact a
theorem Inv.stkFree (I:Inv X g j H s):∀ b∈rL X.stack,H b=none:=λb a=>by
 rcases aF.mp (I.stkSub b a) with e | a
 .rw[e];exact I.free
 .obtain⟨_,o,c,_⟩:=I.ok.funs.mem a;exact I.base.free b o c (I.ok.frf b a) λz=>I.ok.exfs b z a
theorem Inv.step {g':Array GenState}{t':Nat}{d':Drawn}{ch:Aa Ad}(I:Inv X j σ H s)
  (g:∀ b∈ch,(b∈X.ex\/X.s₀.heap.objs.size<=b)/\b≠X.env.locals/\(∀ x c,X.env.cells.lookup x=some c->c≠b)/\∀ p∈X.pn++j,p.1≠b)
  (keep:∀ b o,b≠X.env.locals->b∉X.fs->b∉ch->s.heap.get? b=some o->H b=none->J.get? b=some o)
  (slot:∀ b o,b≠X.env.locals->b∈X.fs->b∉ch->s.heap.get? b=some o->H b=none->∃ sl,J.get? b=some { o with slots:=sl }) (free:∀ b o,b∉ch->s.heap.get? b=some o->H b=none->T b=none)
  (there:∀ b o,b∉ch->s.heap.get? b=some o->∃ o',J.get? b=some o')
  (ab:∀ b C,H b=some (.t C)->T b=some (.t C)) (U:∀ b o u,H b=some (.frz o u)->T b=some (.frz o u)) (aa:∀ b ps,H b=some (.tbl ps)->∃ more,T b=some (.tbl (ps++more)))
  (ns:∀ m,s.heap.Ns X.env.locals m->J.Ns X.env.locals m) (ac:mF X.prog X.w T J) (hg:AllBare g') :
  Inv X j σ T { s with heap:=J,gens:=g',drawn:=d',toks:=t' }:=by
 have F:∀ b o,X.s₀.heap.get? b=some o->b≠X.env.locals:=λb o e=>aX (aT (aM e) I.ok.above)
 have A:∀ b o,X.s₀.heap.get? b=some o->b∉X.ex->b∉ch:=λb o e a B=>by
  rcases (g b B).1 with z | z
  .exact a z
  .exact absurd (aT (aM e) z) (cW _)
 have f:∀ x c,X.env.cells.lookup x=some c->∀ v,s.heap.IsCell c v->J.IsCell c v:=λx c e v G=>by
  obtain⟨o,D,hd⟩:=G;have h:c∉ch:=λz=>(g c z).2.2.1 x c e rfl
  by_cases L:c∈X.fs
  .obtain⟨sl,q⟩:=slot c o (I.cne x c e) L h D (I.freeC x c e);exact⟨_,q,hd⟩
  .exact⟨o,keep c o (I.cne x c e) L h D (I.freeC x c e),hd⟩
 refine⟨I.ok,I.os,hg,⟨λb o e n B a=>?_,λb o e n B a=>?_,λb o e n a=>?_,λb o e a=>?_,λb C e=>ab b C (I.base.tups b C e),λb o C e=>U b o C (I.base.frzs b o C e),λb ps e=>?_⟩,?_,λx c e=>?_,?_,λx c e=>?_,λp M=>?_,ac,I.len⟩
 .exact keep b o (F b o e) B (A b o e a) (I.base.keep b o e n B a) (I.base.free b o e n a)
 .obtain⟨sl,y⟩:=I.base.slot b o e n B a;obtain⟨K,E⟩:=slot b _ (F b o e) B (A b o e a) y (I.base.free b o e n a);exact⟨K,E⟩
 .obtain⟨o',y⟩:=I.base.there b o e a;exact free b o' (A b o e a) y (I.base.free b o e n a)
 .obtain⟨o',y⟩:=I.base.there b o e a;exact there b o' (A b o e a) y
 .obtain⟨R,y⟩:=I.base.tbls b ps e;obtain⟨S,E⟩:=aa b _ y;exact⟨R++S,by rw[E,Array.append_assoc]⟩
 .obtain⟨m,Q,P⟩:=I.loc;refine⟨m,ns m Q,λi x v y E O=>?_⟩;obtain⟨u,r,l⟩:=P i x v y E O;refine⟨u,r,?_⟩;rcases l with l | ⟨k,c,e,z⟩
  .exact .inl l
  .exact .inr ⟨k,c,e,f x c e _ z⟩
 .obtain⟨v,z⟩:=I.cell x c e;exact⟨v,f x c e v z⟩
 .obtain⟨m,⟨o,_,_,D,_⟩,_⟩:=I.loc;exact free _ o (λz=>(g _ z).2.1 rfl) D I.free
 .obtain⟨v,o,D,hd⟩:=I.cell x c e;exact free c o (λz=>(g c z).2.2.1 x c e rfl) D (I.freeC x c e)
 .obtain⟨e,n,ne,N,d⟩:=I.pin p M;have h:p.1∉ch:=λz=>(g p.1 z).2.2.2 p M rfl
  exact⟨keep p.1 p.2 ne N h e n,free p.1 p.2 h e n,ne,N,d⟩
theorem Inv.un (I:Inv X g p H s) (u:Un X.fs [] H l s.heap h') (j:mF X.prog X.w l h'):Inv X g p l { s with heap:=h',toks:=t' }:=by
 obtain⟨m,⟨o,v,t,h,r⟩,_⟩:=id I.loc;obtain⟨A,i⟩:=u.any h I.free (by simp);exact I.step (g':=s.gens) (d':=s.drawn) (ch:=[]) (λ_ z=>nomatch z) (λb o _ f _ e n=>u.keep b o e n f (by simp)) (λb o _ f _ e n=>u.slot b o e n f (by simp)) (λb o _ e n=>u.free b o e n (by simp)) (λb o _ e=>u.there b o e (by simp)) u.tups u.frzs u.tbls (λx k=>by
  obtain⟨y,d,c,a,q⟩:=k;rw[h] at a;cases a;exact⟨_,d,c,i,q⟩) j I.bare
theorem Inv.call (I:Inv X g T H s) (u:Un (rL X.stack) ch H C s.heap h') (l:mF X.prog X.w C h') (J:AllBare g')
  (j:∀ b∈ch,(b∈X.ex\/X.s₀.heap.objs.size<=b)/\b≠X.env.locals/\(∀ x c,X.env.cells.lookup x=some c->c≠b)/\∀ p∈X.pn++g,p.1≠b) :
  Inv X g T C { s with heap:=h',gens:=g',drawn:=d',toks:=t' }:=by
 obtain⟨m,⟨o,A,y,k,r⟩,_⟩:=id I.loc;obtain⟨E,i⟩:=u.any k I.free λz=>(j _ z).2.1 rfl
 exact I.step (ch:=ch) j (λb o i q a e n=>u.keep b o e n (λz=>(aF.mp (I.stkSub b z)).elim i q) a) (λb o _ _ a e n=>u.any e n a) (λb o a e n=>u.free b o e n a) (λb o a e=>u.there b o e a) u.tups u.frzs u.tbls (λB t=>by
  obtain⟨D,h,f,d,v⟩:=t;rw[k] at d;cases d;exact⟨_,h,f,i,v⟩) l J
theorem Inv.turned (I:Inv X j σ H s) (k:∀ b o,b≠g->s.heap.get? b=some o->C.get? b=some o) (hn:H g=none) (l:g≠X.env.locals)
  (J:g∈X.ex\/X.s₀.heap.objs.size<=g) (T:∀ x c,X.env.cells.lookup x=some c->c≠g) (U:∀ p∈X.pn++j,p.1≠g):Inv X j σ H { s with heap:=C,toks:=t' }:=by
 have d:∀ b u,H b=some u->b≠g:=λb u e z=>by rw[z,hn] at e;cases e
 refine I.step (g':=s.gens) (d':=s.drawn) (ch:=[g]) (λb i=>?_) (λb o _ _ a e _=>k b o (λz=>a (by simp[z])) e) (λb o _ _ a e _=>⟨o.slots,k b o (λz=>a (by simp[z])) e⟩) (λ_ _ _ _ n=>n)
  (λb o a e=>⟨o,k b o (λz=>a (by simp[z])) e⟩) (λ_ _ e=>e) (λ_ _ _ e=>e) (λb y e=>⟨#[],by rw[e];simp⟩) (λm t=>?_) (λb u e=>?_) I.bare
 .have e:b=g:=by simpa using i
  subst e;exact⟨J,l,T,U⟩
 .obtain⟨o,h,f,w,r⟩:=t;exact⟨o,h,f,k _ o (eC l) w,r⟩
 .refine (I.hok b u e).stay (λc v a q=>k c v ?_ q) (λ_ q=>q) λ_ _ q=>q
  rcases a with z | z
  .rw[z];exact d b u e
  .exact d c _ z
theorem Inv.tok (I:Inv X g j H s) (t:Nat):Inv X g j H { s with toks:=t }:=I.un (h':=s.heap) (t':=t) Un.refl I.hok
theorem Inv.kept (I:Inv X g l H s) (k:∀ b u,s.heap.get? b=some u->j.get? b=some u):Inv X g l H { s with heap:=j,toks:=t' }:=I.un (Un.kept k) (I.hok.kept k)
theorem Inv.laid (I:Inv X g p H s) (k:∀ b u,s.heap.get? b=some u->l.get? b=some u) (j:s.heap.objs.size<=a) (new:mU X.prog X.w (upd H a o) l a o) :
  Inv X g p (upd H a o) { s with heap:=l,toks:=t' }:=I.un (Un.laid k j (I.hok.fresh j)) (I.hok.laid k j new)
theorem Inv.write (I:Inv X j C H s) (r:xU (H x)) (p:e=x\/H e=some (.o x)) (k:∀ b u,b≠e->s.heap.get? b=some u->l.get? b=some u) (g:∃ u,l.get? e=some u)
  (new:mU X.prog X.w (upd H x o) l x o):Inv X j C (upd H x o) { s with heap:=l,toks:=J }:=I.un (Un.write r p k g) (I.hok.write r p k g new)
theorem Inv.pins_of (I:Inv X j l H s) (h:∀ p∈g,s.heap.get? p.1=some p.2/\H p.1=none/\p.1≠X.env.locals/\p.1∉X.fs/\∀ v,p.2.data ≠ .cell v):Inv X g l H s :=
 ⟨I.ok,I.os,I.bare,I.base,I.loc,I.cell,I.free,I.freeC,λp a=>(aV.mp a).elim (λz=>I.pin p (bW _ z)) (h p),I.hok,I.len⟩
theorem Ot {N:Aa Af}(g:N.Nodup){i j:Nat}{x:Af}(a:N[i]?=some x) (b:N[j]?=some x):i=j:=by
 obtain⟨e,c⟩:=aK.mp a;obtain⟨f,d⟩:=aK.mp b;exact (List.getElem_inj g).mp (c.trans d.symm)
theorem Lk (I:Inv X J σ H s) (hN:X.N.Nodup) (l:X.N[i]?=some x) (g:sL X.env.scope x) (r:kM v u)
  (h:∀ s',Inv X J (σ.set i (some v)) H s'->(∃ a,Heap.SameBut a s.heap s'.heap/\(a=X.env.locals\/X.env.cells.lookup x=some a))->Q () s') (hf:X.fn x=true\/X.env.scope.names.lookup x=some .local:=by first | exact .inl rfl | exact .inr rfl | assumption):wpAny M A (storeName X.env x u) Q E s:=by
 obtain⟨m,hn,hl⟩:=id I.loc;have Y:(X.env.scope.kind == .class||(X.env.scope.kind == .module&&X.env.locals != X.env.globals))=false:=by rw[I.ok.kind];rfl
 have K:i<σ.length:=by rw[I.len];exact (aK.mp l).1
 have cne:=I.cne;have B:∀ {a:Ad} {S:Ag},(∃ o,s.heap.get? a=some o/\H a=none)->Heap.SameBut a s.heap S->mF X.prog X.w H S:=λ{a S} ha f b ob e=>by
  obtain⟨_,_,F⟩:=ha;refine (I.hok b ob e).stay (λc U D q=>(f.2 c ?_).trans q) (λ_ q=>q) λ_ _ q=>q
  rintro rfl;rcases D with rfl | D
  .rw[F] at e;cases e
  .rw[F] at D;cases D
 rcases g with L | L
 .refine wpAny_storeName_local L hn (λS aa f=>?_) Y;obtain⟨oL,_,_,ab,_⟩:=id hn;refine h _ ⟨I.ok,I.os,I.bare,⟨λb o e n O g=>?_,λb o e n O g=>?_,I.base.free,λb o e g=>?_,I.base.tups,I.base.frzs,I.base.tbls⟩,⟨_,aa,λj y v' t G e3=>?_⟩,λy c e=>?_,I.free,I.freeC,λp hp=>?_,B ⟨oL,ab,I.free⟩ f,by simpa using I.len⟩ ⟨_,f,.inl rfl⟩
  .exact (f.2 b (aX (aT (aM e) I.ok.above))).trans (I.base.keep b o e n O g)
  .obtain⟨sl,t⟩:=I.base.slot b o e n O g;exact⟨sl,(f.2 b (aX (aT (aM e) I.ok.above))).trans t⟩
  .obtain⟨o',t⟩:=I.base.there b o e g;exact⟨o',(f.2 b (aX (aT (aM e) I.ok.above))).trans t⟩
  .by_cases R:j=i
   .subst R;rw[l] at t;cases t;rw[List.getElem?_set_self K] at G;cases G;exact⟨u,r,.inl ⟨L,by simp⟩⟩
   .rw[dY (eC R)] at G;obtain⟨u',r',q⟩:=hl j y v' t G e3;refine⟨u',r',?_⟩;rcases q with⟨k,e⟩ | ⟨k,c,e,z⟩
    .refine .inl ⟨k,?_⟩;have:y≠x:=λe=>R (Ot hN t (e▸l))
     simp[this,e]
    .exact .inr ⟨k,c,e,z.sameBut f (cne y c e)⟩
  .obtain⟨U,z⟩:=I.cell y c e;exact⟨U,z.sameBut f (cne y c e)⟩
  .obtain⟨e,n,ne,nf,d⟩:=I.pin p hp;exact⟨(f.2 p.1 ne).trans e,n,ne,nf,d⟩
 .have P:X.fn x=true:=by
   rcases hf with z | z
   .exact z
   .rw[z] at L;cases L
  obtain⟨c,D⟩:=I.ok.has x (.inl L);obtain⟨U,z⟩:=I.cell x c D;refine wpAny_storeName_cell I.ok.kind L D z (λS V f=>?_);obtain⟨oc,Z,C⟩:=id z;refine h { s with heap:=S } ⟨I.ok,I.os,I.bare,⟨λb o e n O g=>?_,λb o e n O g=>?_,I.base.free,λb o e g=>?_,I.base.tups,I.base.frzs,I.base.tbls⟩,⟨m,hn.sameBut f (eC (cne x c D)),λj y v' t G e3=>?_⟩,λy T e=>?_,I.free,I.freeC,λp hp=>?_,B ⟨oc,Z,I.freeC x c D⟩ f,by simpa using I.len⟩ ⟨c,f,.inr D⟩
  .exact (f.2 b (aX (aT (aM e) (I.ok.cab x c P D)))).trans (I.base.keep b o e n O g)
  .obtain⟨sl,t⟩:=I.base.slot b o e n O g;exact⟨sl,(f.2 b (aX (aT (aM e) (I.ok.cab x c P D)))).trans t⟩
  .obtain⟨o',t⟩:=I.base.there b o e g;exact⟨o',(f.2 b (aX (aT (aM e) (I.ok.cab x c P D)))).trans t⟩
  .by_cases R:j=i
   .subst R;rw[l] at t;cases t;rw[List.getElem?_set_self K] at G;cases G;exact⟨u,r,.inr ⟨.inl L,c,D,V⟩⟩
   .rw[dY (eC R)] at G;obtain⟨u',r',q⟩:=hl j y v' t G e3;refine⟨u',r',?_⟩;rcases q with q | ⟨k,T,e,z'⟩
    .exact .inl q
    .refine .inr ⟨k,T,e,z'.sameBut f ?_⟩;rintro rfl;exact R (Ot hN t (I.ok.inj _ _ _ e D▸l))
  .by_cases W:T=c
   .subst W;exact⟨_,V⟩
   .obtain⟨w2,z2⟩:=I.cell y T e;exact⟨w2,z2.sameBut f W⟩
  .obtain⟨e,n,ne,nf,d⟩:=I.pin p hp;refine⟨(f.2 p.1 ?_).trans e,n,ne,nf,d⟩;intro q;rw[q,Z] at e;have q':oc=p.2:=bT e;exact d U (by rw[<- q'];exact C)
theorem Fx (I:Inv X g J H s) (l:X.N.Nodup) (p:X.N[i]?=some x) (C:sL X.env.scope x) (r:kM v u)
  (h:∀ j,Inv X g (J.set i (some v)) H j->Q () j) (o:X.fn x=true\/X.env.scope.names.lookup x=some .local:=by first | exact .inl rfl | exact .inr rfl | assumption):wpAny M A (storeName X.env x u) Q E s :=
 Lk I l p C r (λj a _=>h j a) o
theorem Inv.call' (I:Inv X g J H s) (C:s'.os=s.os) (u:Un (rL X.stack) ch H o s.heap s'.heap) (l:mF X.prog X.w o s'.heap) (r:AllBare s'.gens)
  (j:∀ b∈ch,(b∈X.ex\/X.s₀.heap.objs.size<=b)/\b≠X.env.locals/\(∀ x c,X.env.cells.lookup x=some c->c≠b)/\∀ p∈X.pn++g,p.1≠b):Inv X g J o s':=by
 obtain⟨i,d,a,h,f⟩:=s';have e:f=s.os:=C;subst e;exact I.call (g':=d) (t':=h) (d':=a) u l r j
end
abbrev XK:=Ac->Ab Ad->Hp->Prop
abbrev St:=Aa (Ab V)
abbrev VK:=V->Hp->Prop
abbrev TE:=St->Hp->VK->Prop
abbrev TT:=St->Hp->(Bool->Hp->Prop)->Prop
abbrev TA:=St->Hp->(Aa V->Hp->Prop)->Prop
structure Ends where
 nx:St->Hp->Prop
 rt:VK
 bk:St->Hp->Prop:=λ_ _=>False
 ct:St->Hp->Prop:=λ_ _=>False
abbrev TS:=Ends->St->Hp->Prop
def EP (X:Cx) (g:Aa (Ad×Obj)) (l:St) (Q:VK) (u:Ac) (j:Ae):Prop:=∃ v a,Inv X g l a j/\kM v u/\Q v a
def TP (X:Cx) (g:Aa (Ad×Obj)) (l:St) (Q:Bool->Hp->Prop) (b:Bool) (j:Ae):Prop:=∃ a,Inv X g l a j/\Q b a
def AP (X:Cx) (g:Aa (Ad×Obj)) (o:St) (Q:Aa V->Hp->Prop) (l:Aa Ac) (j:Ae):Prop:=∃ b a,Inv X g o a j/\kJ b l/\Q b a
def SP (X:Cx) (g:Aa (Ad×Obj)) (D:Ends) (f:Flow) (j:Ae):Prop :=
 match f with
 | .next=>∃ a b,Inv X g a b j/\D.nx a b
 | .brk=>∃ a b,Inv X g a b j/\D.bk a b
 | .cont=>∃ a b,Inv X g a b j/\D.ct a b
 | .ret u=>∃ v a b,Inv X g a b j/\kM v u/\D.rt v b
def PE (X:Cx) (e:Expr) (t:TE):Prop :=
 ∀ (a:Aa (Ad×Obj)) (s:Ae) (b:St) (H:Hp) (Q:VK),Inv X a b H s->t b H Q->wpAny (model X.prog X.w) X.A (eval e X.env) (EP X a b Q) X.xe s
def PT (X:Cx) (e:Expr) (t:TT):Prop :=
 ∀ (a:Aa (Ad×Obj)) (s:Ae) (b:St) (H:Hp) (Q:Bool->Hp->Prop),Inv X a b H s->t b H Q->wpAny (model X.prog X.w) X.A (isTrue e X.env (eval e X.env)) (TP X a b Q) X.xe s
def PW (X:Cx) (e:Expr) (t:TT):Prop :=
 ∀ (whole:Sem Ac) (a:Aa (Ad×Obj)) (s:Ae) (b:St) (H:Hp) (Q:Bool->Hp->Prop),Inv X a b H s->t b H Q->wpAny (model X.prog X.w) X.A (isTrue e X.env whole) (TP X a b Q) X.xe s
theorem PW.pt {X:Cx}(h:PW X e t):PT X e t:=h _
def PA (X:Cx) (g:Aa Expr) (t:TA):Prop :=
 ∀ (pos:Pos) (a:Aa (Ad×Obj)) (s:Ae) (b:St) (H:Hp) (Q:Aa V->Hp->Prop),Inv X a b H s->t b H Q->wpAny (model X.prog X.w) X.A (spliced (backTo pos (starEach g X.env))) (AP X a b Q) X.xe s
def PS (X:Cx) (st:Stmt) (t:TS):Prop :=
 ∀ (a:Aa (Ad×Obj)) (s:Ae) (b:St) (H:Hp) (D:Ends),Inv X a b H s->t D b H->wpAny (model X.prog X.w) X.A (exec st X.env) (SP X a D) X.xe s
def mY (X:Cx) (st:Aa Stmt) (t:TS):Prop :=
 ∀ (a:Aa (Ad×Obj)) (s:Ae) (b:St) (H:Hp) (D:Ends),Inv X a b H s->t D b H->wpAny (model X.prog X.w) X.A (execs st X.env) (SP X a D) X.xe s
theorem hO (h:wpAny M A t Q E s) (j:∀ a s,Q a s->g a s):wpAny M A t g E s:=dD h j λ_ _ x=>x
section
variable {X:Cx}
def oV (i:Nat):TE:=λa H Q=>∃ v,a[i]?=some (some v)/\Q v H
def tC (v:V):TE:=λ_ H Q=>Q v H
theorem AY (j:X.N[i]?=some x) (o:Cm X.env.scope x) (hd:(x == ("__debug__" : Af))=false:=by decide) (g:(x == ("__classdict__" : Af))=false:=by decide):PE X (.Name x pos) (oV i):=by
 intro d s t H Q I h;obtain⟨v,e,h⟩:=h;obtain⟨m,q,k⟩:=I.loc;obtain⟨u,r,l⟩:=k i x v j e o;have fin:EP X d t Q u s:=⟨v,H,I,r,h⟩;rcases l with⟨b,n⟩ | ⟨b,c,f,a⟩
 .exact wpAny_Name (wpAny_loadName_local I.ok.kind b q n fin) hd
 .rcases b with b | b
  .exact wpAny_Name (wpAny_loadName_cell I.ok.kind b f a fin) hd
  .exact wpAny_Name (wpAny_loadName_free I.ok.kind b f a fin g) hd
theorem lW {i j pos}:PE X (.Constant (.int i) j pos) (tC (.int i)):=λ_ _ _ H _ I h=>wpAny_Constant_int ⟨.int i,H,I.tok _,⟨_,rfl⟩,h⟩
theorem Qz {b j pos}:PE X (.Constant (.bool b) j pos) (tC (.b b)):=λ_ _ _ H _ I h=>Constant_bool ⟨.b b,H,I,rfl,h⟩
theorem Vp {j pos}:PE X (.Constant .none j pos) (tC .e):=λ_ _ _ H _ I h=>Constant_none ⟨.e,H,I,rfl,h⟩
theorem sT {x j pos}:PE X (.Constant (.str x) j pos) (tC (.str x)):=λ_ _ _ H _ I h=>Calls.Constant_str ⟨.str x,H,I.tok _,⟨_,rfl⟩,h⟩
def Gl (X:Cx) (x:Af):Prop:=X.env.kindOf x=some .globalImplicit
theorem Nh (I:Inv X g o H s) (j:Gl X x) (l:X.mg x=some u) (h:Q u s)
  (hd:(x == ("__debug__" : Af))=false:=by decide):wpAny (model X.prog X.w) X.A (eval (.Name x pos) X.env) Q E s :=
 Calls.Name_function_global I.ok.kind j (Calls.loadGlobal_global (by rw[I.ok.glob];exact I.mod.glob.keeps I.bk) l h) hd
theorem sQ (I:Inv X g r H s) (j:Gl X x) (l:X.mg x=none) (p:bootBuiltins x=some u) (h:Q u s)
  (o:x ≠ "__name__" := by decide) (hd:(x == ("__debug__" : Af))=false:=by decide):wpAny (model X.prog X.w) X.A (eval (.Name x pos) X.env) Q E s:=by
 obtain⟨c,a,b⟩:=I.mod.blt;exact Calls.Name_function_global I.ok.kind j (Calls.loadGlobal_builtin (by rw[I.ok.glob];exact I.mod.glob.keeps I.bk) l (by rw[I.ok.blt];exact a.keeps I.bk) ((b x o).trans p) h) hd
theorem S0 (g:Gl X x) (j:X.mg x=none) (o:bootBuiltins x=some u) (r:kM v u) (l:x ≠ "__name__" := by decide) (hd:(x == ("__debug__" : Af))=false:=by decide):PE X (.Name x pos) (tC v) :=
 λ_ _ _ H _ I h=>sQ I g j o ⟨v,H,I,r,h⟩ l hd
variable {rest:Aa Expr}
def DM (t u:TT):TT:=λb H Q=>t b H λc a=>if c=true then u b a Q else Q false a
def Vk (t u:TT):TT:=λb H Q=>t b H λc a=>if c=true then Q true a else u b a Q
def Zo (t:TT):TT:=λb H Q=>t b H λc a=>Q (!c) a
theorem N5 (g:PT X a j):PW X (.BoolOp .And [a] pos) j:=by
 intro i b s d H Q I h;refine isTrue_and (hO (g b s d H Q I h) λc f e=>?_);cases c with
 | true=>exact isTrue_and_nil e
 | false=>exact e
theorem Y7 (g:PT X a j):PW X (.BoolOp .Or [a] pos) j:=by
 intro i b s d H Q I h;refine isTrue_or (hO (g b s d H Q I h) λc f e=>?_);cases c with
 | false=>exact isTrue_or_nil e
 | true=>exact e
theorem O6 (j:PT X a o) (l:PW X (.BoolOp .And (b::rest) pos) g):PW X (.BoolOp .And (a::b::rest) pos) (DM o g):=by
 intro q d s m H Q I h;refine isTrue_and (hO (j d s m H _ I h) λc n e=>?_);obtain⟨f,i,k⟩:=e;cases c with
 | true=>exact l q d n m f Q i k
 | false=>exact⟨f,i,k⟩
theorem Uq (j:PT X a o) (l:PW X (.BoolOp .Or (b::rest) pos) g):PW X (.BoolOp .Or (a::b::rest) pos) (Vk o g):=by
 intro q d s m H Q I h;refine isTrue_or (hO (j d s m H _ I h) λc n e=>?_);obtain⟨f,i,k⟩:=e;cases c with
 | true=>exact⟨f,i,k⟩
 | false=>exact l q d n m f Q i k
theorem T0 (g:PT X a j):PT X (.UnaryOp .Not a pos) (Zo j):=by
 intro b s e H Q I h;exact isTrue_not (g b s e H (λc d=>Q (!c) d) I h)
end
def eT (K:kG) (H:Hp) (a:Ad) (g:Aa V):Prop :=
 Rd H a (.l g) \/
  ∃ (o:Obj) (b:Array Ac) (n:Nat),K.lookup a=some o/\o.cls = .type "list" /\ o.dict=none/\o.data = .seq b n/\b.size<=sizeLine/\kJ g b.toList
def lL (K:kG) (H:Hp) (a:Ad) (g:Aa V):Prop :=
 Rd H a (.t g) \/
  ∃ (o:Obj) (b:Array Ac) (n:Nat),K.lookup a=some o/\o.cls = .type "tuple" /\ o.data = .seq b n/\b.size<=sizeLine/\kJ g b.toList
noncomputable def DP:Ac->Ab V
 | .none=>some .e
 | .bool b=>some (.b b)
 | .int i _=>some (.int i)
 | .str x _=>some (.str x)
 | .bytes b _=>some (.byt b)
 | .float b _=>some (.flt b)
 | .ref a=>some (.ref a)
 | .type n=>some (.ty n)
 | _=>none
theorem kM.abs (r:kM x u):DP u=some x:=by
 cases x with
 | e=>cases r;rfl
 | b _=>cases r;rfl
 | int _=>obtain⟨t,rfl⟩:=r;rfl
 | str _=>obtain⟨t,rfl⟩:=r;rfl
 | byt _=>obtain⟨t,rfl⟩:=r;rfl
 | flt _=>obtain⟨t,rfl⟩:=r;rfl
 | ref _=>cases r;rfl
 | ty _=>cases r;rfl
theorem kM.inj (r:kM x u) (q:kM y u):x=y:=bT (r.abs.symm.trans q.abs)
theorem kJ.inj:∀ {j l:Aa V}{g:Aa Ac},kJ j g->kJ l g->j=l
 | _,_,_,.nil,.nil=>rfl
 | _,_,_,.cons r t,.cons a b=>by rw[r.inj a,kJ.inj t b]
section
variable {X:Cx}
theorem eT.of {K:kG}(h:H a=some (.l g)):eT K H a g:=.inl (.inl h)
theorem lL.of {K:kG}(h:H a=some (.t g)):lL K H a g:=.inl (.inl h)
theorem Inv.list (I:Inv X j p H s) (h:eT X.K H a l):∃ g:Aa Ac,kJ l g/\PlainL s.heap a g.toArray/\l.length<=sizeLine:=by
 rcases h with h | ⟨o,g,n,c,b,hd,d,f,r⟩
 .obtain⟨z,g,n,r,e⟩:=h.ok I.hok;exact⟨g,r,⟨_,n,e,rfl,rfl,rfl⟩,z⟩
 .refine⟨g.toList,r,⟨o,n,I.kIn a o c,b,hd,by simpa using d⟩,?_⟩;have e:=r.length;simp only[fW] at e;omega
theorem Inv.tuple (I:Inv X j C H s) (h:lL X.K H a l):∃ g:Aa Ac,kJ l g/\IsTup s.heap a g.toArray/\l.length<=sizeLine:=by
 rcases h with h | ⟨o,g,n,c,b,d,f,r⟩
 .obtain⟨z,g,r,p,_⟩:=h.ok I.hok;exact⟨g,r,p,z⟩
 .refine⟨g.toList,r,⟨o,I.kIn a o c,b,n,by simpa using d⟩,?_⟩;have e:=r.length;simp only[fW] at e;omega
theorem Inv.list_inj (I:Inv X g C H s) (h:eT X.K H a l) (j:eT X.K H a p):l=p:=by
 obtain⟨c,r,⟨o,n,e,_,_,d⟩,_⟩:=I.list h;obtain⟨b,k,⟨q,m,i,_,_,f⟩,_⟩:=I.list j;rw[e] at i;cases i;rw[d] at f;injection f with d1 _;have:c=b:=by simpa using dF Array.toList d1
 subst this;exact r.inj k
theorem Inv.tuple_inj (I:Inv X g C H s) (h:lL X.K H a l) (j:lL X.K H a p):l=p:=by
 obtain⟨c,r,⟨o,e,_,n,d⟩,_⟩:=I.tuple h;obtain⟨b,k,⟨q,i,_,m,f⟩,_⟩:=I.tuple j;rw[e] at i;cases i;rw[d] at f;injection f with d1 _;have:c=b:=by simpa using dF Array.toList d1
 subst this;exact r.inj k
end
noncomputable abbrev Cx.wish (X:Cx) (E:Ac->Ae->Prop):Cx:={ X with xe:=E }
abbrev Cx.nox (X:Cx):Cx:=X.wish λ_ _=>False
theorem Cx.Ok.wish {X:Cx}(ok:X.Ok) (E:Ac->Ae->Prop):(X.wish E).Ok :=
 ⟨ok.mod,ok.kind,ok.glob,ok.blt,ok.above,ok.inj,ok.has,ok.cab,ok.hd,ok.frames,ok.stk,ok.exf,ok.bs,ok.bsz,ok.noex,ok.exfs,ok.funs,ok.frf⟩
theorem Cx.Ok.unwish {X:Cx}(ok:(X.wish E).Ok):X.Ok :=
 ⟨ok.mod,ok.kind,ok.glob,ok.blt,ok.above,ok.inj,ok.has,ok.cab,ok.hd,ok.frames,ok.stk,ok.exf,ok.bs,ok.bsz,ok.noex,ok.exfs,ok.funs,ok.frf⟩
section
variable {X:Cx}
theorem Inv.wish (I:Inv X g j H s) (E:Ac->Ae->Prop):Inv (X.wish E) g j H s:=⟨I.ok.wish E,I.os,I.bare,I.base,I.loc,I.cell,I.free,I.freeC,I.pin,I.hok,I.len⟩
theorem Inv.unwish (I:Inv (X.wish E) g j H s):Inv X g j H s:=⟨I.ok.unwish,I.os,I.bare,I.base,I.loc,I.cell,I.free,I.freeC,I.pin,I.hok,I.len⟩
theorem SP.unwish {D:Ends}(h:SP (X.wish E) g D f j):SP X g D f j:=by
 cases f with
 | next=>obtain⟨a,b,I,q⟩:=h;exact⟨a,b,I.unwish,q⟩
 | brk=>obtain⟨a,b,I,q⟩:=h;exact⟨a,b,I.unwish,q⟩
 | cont=>obtain⟨a,b,I,q⟩:=h;exact⟨a,b,I.unwish,q⟩
 | ret u=>obtain⟨v,a,b,I,r,q⟩:=h;exact⟨v,a,b,I.unwish,r,q⟩
theorem mY.nox {st:Aa Stmt}(h:mY X.nox st t):mY X st t:=λa s b H D I hw =>
 dD (h a s b H D (I.wish _) hw) (λ_ _ q=>q.unwish) λ_ _ z=>False.elim z
end
section
variable {X:Cx}{st:Stmt}{rest:Aa Stmt}
def Vu:TS:=λD a H=>D.nx a H
def Fs (t u:TS):TS:=λD a H=>t { D with nx:=u D } a H
theorem Cp:mY X [] Vu:=λ_ _ a H _ I h=>jM ⟨a,H,I,h⟩
theorem nC (g:PS X st t) (j:mY X rest u):mY X (st::rest) (Fs t u):=by
 intro a s i H D I h;refine wpAny_execs_cons (hO (g a s i H { D with nx:=u D } I h) λf e q=>?_);cases f with
 | next =>
  obtain⟨b,c,d,q⟩:=q;exact j a e b c D d q
 | ret v=>exact q
 | brk=>exact q
 | cont=>exact q
theorem qG (g:PS X st t):mY X [st] t:=by
 intro a s b H D I h;refine wpAny_execs_cons (hO (g a s b H D I h) λf c q=>?_);cases f with
 | next=>exact jM q
 | ret v=>exact q
 | brk=>exact q
 | cont=>exact q
theorem Inv.quiet (I:Inv X g j H s):interactive X.env=false:=by simp[interactive,I.ok.kind]
def AX (g:TE):TS:=λD a H=>g a H λ_ b=>D.nx a b
theorem Hf (g:PE X e l) (j:swapsWith e none pos.line X.env=pure false:=by rfl):PS X (.Expr e pos) (AX l):=by
 intro a s b H D I h;exact wpAny_Expr_any (hO (g a s b H _ I h) λv k ⟨x,c,d,i,f⟩=>⟨b,c,d,f⟩) I.quiet j
def Oz (g:TE):TS:=λD a H=>g a H D.rt
theorem uE (g:PE X e j):PS X (.Return (some e) pos) (Oz j):=by
 intro a s b H D I h;exact wpAny_Return_some (hO (g a s b H _ I h) λv k ⟨x,c,d,i,f⟩=>⟨x,b,c,d,i,f⟩)
def BO (c:TT) (t u:TS):TS:=λD a H=>c a H λb d=>if b=true then t D a d else u D a d
theorem Dm (l:PT X c o) (g:mY X a t) (j:mY X b u):PS X (.If c a b pos) (BO o t u):=by
 intro e s i H D I h;refine wpAny_If (hO (l e s i H _ I h) λd q f=>?_);obtain⟨k,m,n⟩:=f;cases d with
 | true=>exact g e q i k D m n
 | false=>exact j e q i k D m n
end
abbrev TG:=V->St->Hp->(St->Hp->Prop)->Prop
abbrev vN:=Aa V->St->Hp->(St->Hp->Prop)->Prop
def PG (X:Cx) (target:Expr) (t:TG):Prop :=
 ∀ (a:Aa (Ad×Obj)) (s:Ae) (d:St) (H:Hp) (v:V) (u:Ac) (Q:St->Hp->Prop),Inv X a d H s->kM v u->t v d H Q ->
  wpAny (model X.prog X.w) X.A (assign target X.env u) (λ_ e=>∃ b c,Inv X a b c e/\Q b c) X.xe s
def tV (X:Cx) (g:Aa Expr) (t:vN):Prop :=
 ∀ (a:Aa (Ad×Obj)) (s:Ae) (f:St) (H:Hp) (e:Aa V) (d:Aa Ac) (Q:St->Hp->Prop),Inv X a f H s->kJ e d->t e f H Q ->
  wpAny (model X.prog X.w) X.A (assignInOrder ((assignEach g X.env).map (·.2)) d) (λ_ h=>∃ b c,Inv X a b c h/\Q b c) X.xe s
abbrev G5:=V->V->V->Hp->(Hp->Prop)->Prop
def Ez (X:Cx) (t:G5):Prop :=
 ∀ (a:Aa (Ad×Obj)) (s:Ae) (e:St) (H:Hp) (o i v:V) (d c u:Ac) (Q:Hp->Prop),Inv X a e H s->kM o d->kM i c->kM v u->t o i v H Q ->
  wpAny (model X.prog X.w) X.A (setItem d c u) (λ_ f=>∃ b,Inv X a e b f/\Q b) X.xe s
abbrev Fo:=V->V->Hp->VK->Prop
def Dp (X:Cx) (op:Operator) (t:Fo):Prop :=
 ∀ (a:Aa (Ad×Obj)) (s:Ae) (b:St) (H:Hp) (x y:V) (v u:Ac) (Q:VK),Inv X a b H s->kM x v->kM y u->t x y H Q ->
  wpAny (model X.prog X.w) X.A (inplaceOp op v u) (EP X a b Q) X.xe s
section
variable {X:Cx}
def wK (i:Nat):TG:=λv a H Q=>Q (a.set i (some v)) H
theorem uK (g:X.N.Nodup) (l:X.N[i]?=some x) (o:sL X.env.scope x) (j:X.fn x=true\/X.env.scope.names.lookup x=some .local:=by first | exact .inl rfl | exact .inr rfl | assumption):PG X (.Name x pos) (wK i):=by
 intro a s d H v u Q I r h;exact wpAny_assign_Name (Fx I g l o r (λc b=>⟨_,H,b,h⟩) j)
def X5:vN:=λa b H Q=>a=[]/\Q b H
def Tl (t:TG) (u:vN):vN:=λc d H Q=>∃ v r,c=v::r/\t v d H λa b=>u r a b Q
theorem DU:tV X [] X5:=by
 intro a s b H d c Q I r h;obtain⟨e,h⟩:=h;subst e;cases r;exact assignInOrder_nil ⟨b,H,I,h⟩
theorem Se (j:PG X e t) (l:tV X g u)
  (o:(assignEach (e::g) X.env).map (·.2)=assign e X.env::(assignEach g X.env).map (·.2):=by rfl):tV X (e::g) (Tl t u):=by
 intro a s q H y w Q I r h;obtain⟨v,x,i,h⟩:=h;subst i;cases r with
 | cons r m =>
  rw[o];refine assignInOrder_cons (hO (j a s q H _ _ _ I r h) λ_ n b=>?_);obtain⟨c,d,f,k⟩:=b;exact l a n c d _ _ Q f m k
def BP (K:kG) (n:Nat) (t:vN):TG:=λv c H Q=>∃ a b,v = .ref a/\lL K H a b/\b.length=n/\t b c H Q
theorem Wq (l:X.calm=true) (h:tV X g t)
  (p:(assignEach g X.env).length=n:=by rfl) (j:(assignEach g X.env).findIdx? (·.1)=none:=by rfl):PG X (.Tuple g k pos) (BP X.K n t):=by
 intro c s f H v u Q I r hw;obtain⟨a,B,m,x,w,hw⟩:=hw;subst m;cases r;obtain⟨A,d,y,D⟩:=I.tuple x;refine assign_Tuple_tuple (I.ok.hd l) y (by simp[p,<- w,d.length]) j λq z=>?_
 have i:Inv X c f H { s with heap:=q }:=I.kept (t':=s.toks) λb o e=>z b o (aX (aM e)) e
 exact h c _ f H B _ Q i (by simpa using d) hw
def Yc (j g:TE) (t:G5):TG:=λv a H Q=>j a H λo b=>g a b λi c=>t o i v c λd=>Q a d
theorem Cd (C:PE X o U) (p:PE X i T) (J:Ez X t)
  (l:∀ v,assign (.Subscript o i pos) X.env v=(do
   let g <- holding [v] (eval o X.env);let j <- holding [v,g] (eval i X.env)
   standAt pos
   holding [v,g,j] (setItem g j v)
   release [v,g,j] []):=by intro _;rfl):PG X (.Subscript o i pos) (Yc U T t):=by
 intro b s c H v u Q I r h;rw[l];refine aA (bJ (hO (C b s c H _ I h) λg D a=>?_));obtain⟨x,d,k,A,q⟩:=a;refine aA (bJ (hO (p b D c d _ k q) λj E a=>?_));obtain⟨y,e,m,B,w⟩:=a;refine aA (jK (aA (bJ (hO (J b E c e x y v g j u _ m A B r w) λ_ F a=>?_))));obtain⟨f,n,z⟩:=a;exact wpAny_release ⟨c,f,n,z⟩
def Im (j:TE) (g:TG):TS:=λD a H=>j a H λx b=>g x a b D.nx
theorem zP (o:PE X e C) (p:PG X j g) (r:swapsWithSole [j] e pos.line X.env=pure false:=by rfl) (hw:swappedStores [j] e X.env=pure none:=by rfl)
  (l:(assignEach [j] X.env).map (·.2)=[assign j X.env]:=by rfl):PS X (.Assign [j] e pos) (Im C g):=by
 intro a s c H D I h;refine wpAny_Assign_stores (hO (o a s c H _ I h) λv m b=>?_) r hw;obtain⟨x,d,f,k,i⟩:=b;rw[l];exact hO (p a m c d x v _ f k i) λ_ n q=>q
theorem nI (j:X.N.Nodup) (p:X.N[i]?=some x) (C:sL X.env.scope x) (l:PE X e J) (r:swapsWith e (some (.Name x g)) pos.line X.env=pure false:=by rfl) (o:X.fn x=true\/X.env.scope.names.lookup x=some .local:=by first | exact .inl rfl | exact .inr rfl | assumption) :
  PS X (.Assign [.Name x g] e pos) (Im J (wK i)):=by
 intro a s n H D I h;refine wpAny_Assign_Name (hO (l a s n H _ I h) λv q b=>?_) r;obtain⟨y,c,d,m,k⟩:=b;exact Fx d j p C m (λt f=>⟨_,c,f,k⟩) o
def X2 (i:Nat) (g:TE) (j:Fo):TS:=λD a H=>∃ x,a[i]?=some (some x)/\g a H λy b=>j x y b λz c=>D.nx (a.set i (some z)) c
theorem Uo (p:X.N.Nodup) (j:X.N[i]?=some x) (g:sL X.env.scope x) (C:PE X e U) (T:Dp X op ti) (J:X.fn x=true\/X.env.scope.names.lookup x=some .local:=by first | exact .inl rfl | exact .inr rfl | assumption) :
  PS X (.AugAssign (.Name x o) op e pos) (X2 i U ti):=by
 intro a s B H D I h;obtain⟨v,M,h⟩:=h;obtain⟨m,R,P⟩:=I.loc;have t:Cm X.env.scope x:=by rcases g with k | k;exact .inl k;exact .inr (.inl k)
 obtain⟨u,r,l⟩:=P i x v j M t;refine wpAny_AugAssign_Name ?_;have go:wpAny (model X.prog X.w) X.A (eval e X.env) (λw n=>wpAny (model X.prog X.w) X.A (inplaceOp op u w) (λr q=>wpAny (model X.prog X.w) X.A (storeName X.env x r) (λ_=>SP X a D .next) X.xe q) X.xe n) X.xe s:=by
  refine hO (C a s B H _ I h) λw Z f=>?_
  obtain⟨y,E,G,W,S⟩:=f;refine hO (T a Z B E v y u w _ G r W S) λz s2 f=>?_
  obtain⟨zv,F,K,Y,V⟩:=f;exact Fx K p j g Y (λs3 L=>⟨_,F,L,V⟩) J
 rcases l with⟨b,Q⟩ | ⟨b,c,O,d⟩
 .exact wpAny_loadName_local I.ok.kind b R Q go
 .rcases b with b | b
  .exact wpAny_loadName_cell I.ok.kind b O d go
  .rcases g with k | k
   .have:X.env.scope.names.lookup x=some .free:=b;rw[k] at this;cases this
   .have:X.env.scope.names.lookup x=some .free:=b;rw[k] at this;cases this
def Ga (f:Int->Int->Int):Fo:=λx y H Q=>∃ i j,x = .int i/\y = .int j/\Q (.int (f i j)) H
theorem Np:Dp X .Add (Ga λi j=>i+j):=by
 intro a s k H x y v u Q I d e h;obtain⟨i,j,b,c,q⟩:=h;subst b;subst c;obtain⟨t,rfl⟩:=d;obtain⟨f,rfl⟩:=e;exact iadd_int ⟨.int _,H,I.tok _,⟨_,rfl⟩,q⟩
theorem Vm:Dp X .Sub (Ga λi j=>i-j):=by
 intro a s k H x y v u Q I d e h;obtain⟨i,j,b,c,q⟩:=h;subst b;subst c;obtain⟨t,rfl⟩:=d;obtain⟨f,rfl⟩:=e;exact isub_int ⟨.int _,H,I.tok _,⟨_,rfl⟩,q⟩
end
section
variable {X:Cx}
def DZ (c:TT) (g:TS):TS:=λD a H=>∃ W:Nat->St->Hp->Prop,(∃ m,W m a H)/\∀ m a H,W m a H ->
 c a H λb f=>if b=true then ∃ N:St->Hp->Prop,(∀ d e,N d e->∃ h,h<m/\W h d e)/\g { D with nx:=N,ct:=N,bk:=D.nx } a f else D.nx a f
theorem Sv (g:PassesOwn (model X.prog X.w) X.A X.env X.xe) (l:PT X c p) (j:mY X body o):PS X (.While c body [] pos) (DZ p o):=by
 intro a s Z H D I h;obtain⟨W,⟨P,V⟩,k⟩:=h;refine wpAny_While (codeAny_whileLoop (λn Q=>∃ m F,Inv X a m F Q/\W n m F) ?_ P ⟨Z,H,I,V⟩);rintro n R ⟨e,G,O,Y⟩;refine fN g (hO (l a R e G _ O (k n e G Y)) λb S y=>?_);obtain⟨K,L,q⟩:=y;cases b with
 | true =>
  obtain⟨N,M,q⟩:=q;rw[bA rfl];refine fN g (hO (j a S e K _ L q) λf r t=>?_);cases f with
  | next =>
   obtain⟨d,i,u,B⟩:=t;obtain⟨z,x,E⟩:=M d i B;exact⟨z,x,d,i,u,E⟩
  | cont =>
   obtain⟨d,i,u,B⟩:=t;obtain⟨z,x,E⟩:=M d i B;exact⟨z,x,d,i,u,E⟩
  | brk=>exact t
  | ret v=>exact t
 | false =>
  rw[bB aU];exact jM ⟨e,K,L,q⟩
end
structure It where
 go:Nat->Hp->Prop
 yld:Nat->Hp->V->Hp->Prop
 stop:Nat->Hp->Prop
def qI (X:Cx) (g:Aa (Ad×Obj)) (H:Hp) (b:Ad):Prop :=
 H b=none/\b≠X.env.locals/\b∉X.fs/\(b∈X.ex\/X.s₀.heap.objs.size<=b)/\(∀ x c,X.env.cells.lookup x=some c->c≠b)/\∀ p∈X.pn++g,p.1≠b
theorem Inv.fpOk {X:Cx}(I:Inv X j r H s) (g:s.heap.objs.size<=b) (o:l b=none):qI X j l b:=by
 refine⟨o,gF (aT I.lt g),I.nofs g,.inr (bM I.sz g),λx c e z=>?_,λp a z=>?_⟩
 .obtain⟨v,q⟩:=I.cell x c e;exact absurd (aT q.lt (by rw[z];exact g)) (cW _)
 .exact absurd (aT (aM (I.pin p a).1) (by rw[z];exact g)) (cW _)
structure Turn (P:Program) (w:World) (K:kG) (tg:Expr) (J:It) (fp:List Addr) (it:Addr) (tn:Nat->Heap->Prop):Prop where
 mem:it∈fp
 obj:∀ i h,tn i h->∀ b∈fp,∃ o,h.get? b=some o/\∀ v,o.data ≠ .cell v
 keep:∀ i h h',tn i h->(∀ b∈fp,∀ o,h.get? b=some o->h'.get? b=some o)->tn i h'
 item:∀ (X:Cx),X.prog=P->X.w=w->X.K=K->X.calm=true->∀ (i:Nat) (pins:List (Addr×Obj)) (s:Shared) (σ:St) (H:Hp) (E:Value->Shared->Prop),Inv X pins σ H s->(∀ b∈fp,qI X pins H b)->tn i s.heap->J.go i H ->
  wpAny (model P w) X.A (pyNext (.ref it)) (λr s1=>∃ u,r=some u /\ wpAny (model P w) X.A (letOwnedTupleGo tg (.ref it) u) (λ_ s2=>∃ x H',Inv X pins σ H' s2/\kM x u/\J.yld i H x H'/\tn (i+1) s2.heap/\∀ b∈fp,H' b=none) E s1) E s
 done:∀ (X:Cx),X.prog=P->X.w=w->X.K=K->X.calm=true->∀ (i:Nat) (pins:List (Addr×Obj)) (s:Shared) (σ:St) (H:Hp) (E:Value->Shared->Prop),Inv X pins σ H s->(∀ b∈fp,qI X pins H b)->tn i s.heap->J.stop i H ->
  wpAny (model P w) X.A (pyNext (.ref it)) (λr s1=>r=none/\Inv X pins σ H s1) E s
 self:∀ (A:Around) (i:Nat) (s:Shared) (Q:Value->Shared->Prop) (E:Value->Shared->Prop),tn i s.heap->Q (.ref it) s->wpAny (model P w) A (pyIter (.ref it)) Q E s
abbrev TI:=St->Hp->(It->Hp->Prop)->Prop
def Mc (X:Cx) (g:Aa (Ad×Obj)) (p:St) (o:Expr) (R:It->Hp->Prop) (j:Ac) (l:Ae):Prop :=
 ∃ (d:Ad) (c:Aa Ad) (e:Nat->Ag->Prop) (J:It) (a:Hp),j = .ref d/\Inv X g p a l/\Turn X.prog X.w X.K o J c d e/\e 0 l.heap/\(∀ b∈c,qI X g a b)/\R J a
def PI (X:Cx) (g iter:Expr) (j:TI):Prop :=
 ∀ (a:Aa (Ad×Obj)) (s:Ae) (b:St) (H:Hp) (R:It->Hp->Prop),Inv X a b H s->j b H R ->
  wpAny (model X.prog X.w) X.A (eval iter X.env) (λv c=>wpAny (model X.prog X.w) X.A (pyIter v) (Mc X a b g R) X.xe c) X.xe s
theorem B1 (p:s.heap.get? r=some o) (j:o.cls = .type n) (hd:o.data = .fields I)
  (l:["enumerate","zip","dict_itemiterator","dict_reverseitemiterator","odict_iterator","itertools.zip_longest","itertools.pairwise"].contains n=false) (g:Q () s):wpAny M A (letOwnedTupleGo C (.ref r) u) Q E s:=by
 unfold letOwnedTupleGo;cases C<;>first
  | exact aD g
  | (cases u<;>first
    | exact aD g
    | (refine aA (wpAny_load p ?_);rw[j,hd];show wpAny M A (if (["enumerate","zip","dict_itemiterator","dict_reverseitemiterator","odict_iterator","itertools.zip_longest","itertools.pairwise"].contains n&&I[0]? == some (rawInt _))=true then _ else _) Q E s;rw[bB (by intro h;rw[l,Bool.false_and] at h;cases h)];exact aD g))
def xI (K:kG) (a:Ad):It :=
 ⟨λi H=>∃ b x,eT K H a b/\b[i]?=some x,λi H x c=>c=H/\∀ b,eT K H a b->b[i]?=some x,λi H=>∃ b,eT K H a b/\b.length<=i⟩
def Fj (K:kG) (a:Ad):It :=
 ⟨λi H=>∃ b x,lL K H a b/\b[i]?=some x,λi H x c=>c=H/\∀ b,lL K H a b->b[i]?=some x,λi H=>∃ b,lL K H a b/\b.length<=i⟩
def qP (lo:Int) (n:Nat):It:=⟨λi _=>i<n,λi H x a=>a=H/\x = .int (lo+i),λi _=>n<=i⟩
theorem Pq {P:Ah}{K:kG}(a g:Ad):Turn P w K T (xI K a) [g] g (λi h=>h.IsListIter g a i) where
 mem:=by simp
 obj:=λi h st b m=>by
  have e:b=g:=by simpa using m
  subst e;obtain⟨o,e,c,d⟩:=st;exact⟨o,e,λv z=>by rw[d] at z;cases z⟩
 keep:=λi h q st k=>st.at λo e=>k g (by simp) o e
 item:=by
  intro X L hw G R i f s S H E I t st M;subst L hw G;obtain⟨C,x,y,N⟩:=M;obtain⟨O,Q,p,j⟩:=I.list y;obtain⟨u,Y,l⟩:=Q.get N;obtain⟨A,f1,f2,B,D,F⟩:=t g (by simp);refine iL st p.isList (x:=u) (by simpa using Y) λq n r=>?_
  have V:Inv X f S H { s with heap:=q }:=I.turned (t':=s.toks) (λb o m e=>(r.2 b m).trans e) A f1 B D F;obtain⟨o,e,c,d⟩:=id n;exact⟨u,rfl,B1 (s:={ s with heap:=q }) e c d (by decide) ⟨x,H,V,l,⟨rfl,λU Z=>by rw[I.list_inj Z y];exact N⟩,n,λb m=>(t b m).1⟩⟩
 done:=by
  intro X L hw G R i f s S H E I t st M;subst L hw G;obtain⟨C,y,N⟩:=M;obtain⟨O,Q,p,j⟩:=I.list y;obtain⟨A,f1,f2,B,D,F⟩:=t g (by simp);have J:=Q.length;exact jA (I.ok.hd R) st p.isList (by simp;omega) λq W=>⟨rfl,I.turned (t':=s.toks) (λb o m e=>W b o m e) A f1 B D F⟩
 self:=λ_ _ _ _ _ st h=>wpAny_pyIter_listiter st h
theorem Xe {P:Ah}{K:kG}(a g:Ad):Turn P w K T (Fj K a) [g] g (λi h=>h.IsTupleIter g a i) where
 mem:=by simp
 obj:=λi h st b m=>by
  have e:b=g:=by simpa using m
  subst e;obtain⟨o,e,c,d⟩:=st;exact⟨o,e,λv z=>by rw[d] at z;cases z⟩
 keep:=λi h t st k=>st.at λo e=>k g (by simp) o e
 item:=by
  intro X M hw L R i f s S H E I y st N;subst M hw L;obtain⟨C,x,A,O⟩:=N;obtain⟨n,Q,p,j⟩:=I.tuple A;obtain⟨u,Y,l⟩:=Q.get O;obtain⟨B,f1,f2,D,F,G⟩:=y g (by simp);refine wpAny_pyNext_tuple_item st (show s.heap.IsTuple a n.toArray from p) (x:=u) (by simpa using Y) λt q r=>?_
  have V:Inv X f S H { s with heap:=t }:=I.turned (t':=s.toks) (λb o m e=>(r.2 b m).trans e) B f1 D F G;obtain⟨o,e,c,d⟩:=id q;exact⟨u,rfl,B1 (s:={ s with heap:=t }) e c d (by decide) ⟨x,H,V,l,⟨rfl,λU Z=>by rw[I.tuple_inj Z A];exact O⟩,q,λb m=>(y b m).1⟩⟩
 done:=by
  intro X M hw L R i f s S H E I y st N;subst M hw L;obtain⟨C,A,O⟩:=N;obtain⟨n,Q,p,j⟩:=I.tuple A;obtain⟨B,f1,f2,D,F,G⟩:=y g (by simp);have J:=Q.length;exact wpAny_pyNext_tuple_end (I.ok.hd R) st (show s.heap.IsTuple a n.toArray from p) (by simp;omega) λt W=>⟨rfl,I.turned (t':=s.toks) (λb o m e=>W b o m e) B f1 D F G⟩
 self:=λ_ _ _ _ _ st h=>wpAny_pyIter_tupleiter st h
theorem Ua {P:Ah}{K:kG}(g:Ad) (lo:Int) (n:Nat):Turn P w K j (qP lo n) [g] g (λi h=>IsRangeIter h g (lo+(i:Nat)*1) ((n:Int)-(i:Nat)) 1) where
 mem:=by simp
 obj:=λi h st b c=>by
  have e:b=g:=by simpa using c
  subst e;exact⟨_,st,λv z=>by
   have R:Data.fields _=Data.cell v:=z;cases R⟩
 keep:=λi h f st k=>k g (by simp) _ st
 item:=by
  intro X B hw A D i a s L H E I m st F;subst B hw A;obtain⟨q,f1,f2,u,x,y⟩:=m g (by simp);have W:=Walks.range (prog:=X.prog) (w:=X.w) (I.ok.hd D) g lo 1 n;refine W.item i s _ _ F st λv f G O d Q=>?_
  obtain⟨t,rfl⟩:=O;have M:Inv X a L H { s with heap:=f,toks:=G }:=I.turned (λb o c e=>Q b o (by simpa using c) e) q f1 u x y;refine⟨_,rfl,B1 (s:={ s with heap:=f,toks:=G }) (n := "range_iterator") d rfl rfl (by decide) ⟨.int (lo+i),H,M,⟨t,?_⟩,⟨rfl,rfl⟩,d,λb c=>(m b c).1⟩⟩;rw[Int.mul_one]
 done:=by
  intro X B hw A D i a s L H E I m st F;subst B hw A;obtain⟨q,f1,f2,u,x,y⟩:=m g (by simp);exact wpAny_pyNext_range_end (I.ok.hd D) st (by have:n<=i:=F;omega) λf N=>⟨rfl,I.turned (t':=s.toks) (λb o c e=>N b o c e) q f1 u x y⟩
 self:=λ_ _ _ _ _ st h=>wpAny_pyIter_rangeiter st h
section
variable {X:Cx}
def U7 (K:kG) (g:TE):TI:=λd H R=>g d H λx b=>∃ a,x = .ref a/\(∃ c,eT K b a c)/\R (xI K a) b
theorem BG (g:PE X l j):PI X r l (U7 X.K j):=by
 intro c s y H R I h;refine hO (g c s y H _ I h) λv f i=>?_
 obtain⟨x,k,d,w,u⟩:=i;obtain⟨a,e,⟨B,n⟩,q⟩:=u;subst e;cases w;obtain⟨t,A,p,z⟩:=d.list n;refine dN p.isList ?_;refine⟨f.heap.objs.size,[f.heap.objs.size],_,_,k,rfl,d.kept (t':=f.toks) λb o e=>aE _ e,Pq a _,⟨_,aR _ rfl,rfl,rfl⟩,λb m=>?_,q⟩;have e:b=f.heap.objs.size:=by simpa using m
 subst e;exact d.fpOk (aH _) (d.hok.fresh (aH _))
theorem K0 {R:It->Hp->Prop}{lo:Int}(I:Inv X j p H s) (r:-(2 ^ 62)<=lo) (C:lo<2 ^ 62) (J:-(2 ^ 62)<=g) (T:g<2 ^ 62)
  (q:R (qP lo (g-lo).toNat) H):wpAny (model X.prog X.w) X.A (pyIter (.ref s.heap.objs.size)) (Mc X j p U R) E { s with heap:=s.heap.push { cls:=.type "range",data:=.fields #[.int lo t,.int g u,.int 1 v] },toks:=l }:=by
 refine wpAny_pyIter_range (IsRange.new ..) (small_one r C J T) ?_;have a:Inv X j p H { s with heap:=s.heap.push { cls:=.type "range",data:=.fields #[.int lo t,.int g u,.int 1 v] },toks:=l }:=I.kept λb o e=>aE _ e
 refine⟨(s.heap.push { cls:=.type "range",data:=.fields #[.int lo t,.int g u,.int 1 v] }).objs.size,[(s.heap.push { cls:=.type "range",data:=.fields #[.int lo t,.int g u,.int 1 v] }).objs.size],_,_,H,rfl,
  a.kept (t':=l) λb o e=>aE _ e,Ua _ lo (g-lo).toNat,?_,λb f=>?_,q⟩
 .have c:lo+((0:Nat):Int)*1=lo:=by simp
  have d:(((g-lo).toNat:Nat):Int)-((0:Nat):Int)=Builtin.Range.rangeSize lo g 1:=by rw[rangeSize_one];split<;>omega
  show IsRangeIter _ _ (lo+((0:Nat):Int)*1) ((((g-lo).toNat:Nat):Int)-((0:Nat):Int)) 1;rw[c,d];exact aR _ rfl
 .have e:b=(s.heap.push { cls:=.type "range",data:=.fields #[.int lo t,.int g u,.int 1 v] }).objs.size:=by simpa using f
  subst e;exact a.fpOk (aH _) (a.hok.fresh (aH _))
def U6 (g:TA):TI:=λc H R=>g c H λb a=>∃ j:Int,b=[.int j]/\-(2 ^ 62)<=j/\j<2 ^ 62/\R (qP 0 j.toNat) a
def T5 (g:TA):TI:=λc H R=>g c H λb a=>∃ i j:Int,b=[.int i,.int j]/\(-(2 ^ 62)<=i/\i<2 ^ 62/\-(2 ^ 62)<=j/\j<2 ^ 62)/\R (qP i (j-i).toNat) a
theorem wF (l:Gl X "range") (o:X.mg "range" = none) (g:PA X [a] J) (C:starEach [a] X.env=[(false,eval a X.env)]:=by rfl):PI X T (.Call (.Name "range" p) [a] [] pos) (U6 J):=by
 intro b s n H R I h;refine Call_ (sQ I l o boot_range (cN (hO (g pos b s n H _ I h) λw v c=>?_) C rfl));obtain⟨x,u,f,k,d⟩:=c;obtain⟨j,e,d,i,q⟩:=d;subst e;cases k with
 | cons r m =>
  cases m;obtain⟨t,rfl⟩:=r;exact call_range_1 (K0 f (by omega) (by omega) d i (by simpa using q))
theorem Xq (o:Gl X "range") (C:X.mg "range" = none) (l:PA X [a,b] T) (J:starEach [a,b] X.env=[(false,eval a X.env),(false,eval b X.env)]:=by rfl) (g:starEach [b] X.env=[(false,eval b X.env)]:=by rfl) :
  PI X U (.Call (.Name "range" p) [a,b] [] pos) (T5 T):=by
 intro c s y H R I h;refine Call_ (sQ I o C boot_range (cN (hO (l pos c s y H _ I h) λD A d=>?_) (by rw[J,g]) (by rw[g];rfl)));obtain⟨E,z,m,x,f⟩:=d;obtain⟨i,j,e,⟨f,n,u,v⟩,q⟩:=f;subst e;cases x with
 | cons r k =>
  cases k with
  | cons w k =>
   cases k;obtain⟨t,rfl⟩:=r;obtain⟨B,rfl⟩:=w;exact call_range_2 (K0 m f n u v q)
def R0 (l:TI) (g:TG) (j:TS):TS:=λD a H=>l a H λJ f=>∃ W:Nat->Nat->St->Hp->Prop,(∃ m,W 0 m a f)/\∀ i m a H,W i m a H ->
 (J.stop i H/\D.nx a H)\/(J.go i H/\∃ N:St->Hp->Prop,(∀ c b,N c b->∃ e,e<m/\W (i+1) e c b)/\∀ x b,J.yld i H x b->g x a b λd h=>j { D with nx:=N,ct:=N,bk:=D.nx } d h)
def zM (g:Aa Ad) (h:Ag):Aa (Ad×Obj):=g.filterMap λb=>(h.get? b).map λo=>(b,o)
theorem Dl (j:b∈g) (e:h.get? b=some o):(b,o)∈zM g h:=jS.mpr ⟨b,j,by rw[e];rfl⟩
theorem Sk (j:p∈zM g h):p.1∈g/\h.get? p.1=some p.2:=by
 obtain⟨b,c,e⟩:=jS.mp j;cases q:h.get? b with
 | none=>rw[q] at e;cases e
 | some o =>
  rw[q] at e;have a:(b,o)=p:=bT e;subst a;exact⟨c,q⟩
theorem Inv.pinned (I:Inv X g C H s) (l:∀ b∈j,qI X g H b) (r:∀ b∈j,∃ o,s.heap.get? b=some o/\∀ v,o.data ≠ .cell v):Inv X (g++zM j s.heap) C H s :=
 I.pins_of λp h=>(aV.mp h).elim (λz=>I.pin p (aY _ z)) λz=>by
  obtain⟨c,e⟩:=Sk z;obtain⟨f,f1,f2,_⟩:=l p.1 c;obtain⟨o,a,d⟩:=r p.1 c;rw[e] at a;cases a;exact⟨e,f,f1,f2,d⟩
theorem Inv.unpinned (I:Inv X (g++l) j H s):Inv X g j H s:=I.pins_of λp a=>I.pin p (aY _ (bW _ a))
theorem Au {iter:Expr}(l:PassesOwn (model X.prog X.w) X.A X.env X.xe) (hc:X.calm=true) (hi:PI X tg iter wi) (hg:PG X tg g) (j:mY X body tb)
  (hs:∀ x,foldedSetIterable iter X.env x=pure x:=by intro _;rfl):PS X (.For tg iter body [] pos) (R0 wi g tb):=by
 intro a s σ H D I h;refine wpAny_For (hO (hi a s σ H _ I h) λv s1 h1=>hO h1 λaa s2 h2=>?_) hs;obtain⟨it,K,tn,J,H2,e,I2,T,Z,f2,W,⟨m0,w0⟩,P⟩:=h2;subst e;have y:∀ {E:Hp},(∀ b∈K,E b=none)->∀ b∈K,qI X a E b:=λhn b j=>⟨hn b j,(f2 b j).2⟩
 refine codeAny_forLoop_any (λn s'=>∃ i z E,Inv X a z E s'/\tn i s'.heap/\(∀ b∈K,E b=none)/\W i n z E) ?_ m0 ⟨0,σ,H2,I2,Z,λb j=>(f2 b j).1,w0⟩;rintro n s3 ⟨i,B,Q,U,O,L,w3⟩;rcases P i n B Q w3 with⟨stop,qn⟩ | ⟨go,N,hN,step⟩
 .refine fN l (hO (T.done X rfl rfl rfl hc i a s3 B Q X.xe U (y L) O stop) λr s4 k=>?_);obtain⟨V,I4⟩:=k;subst V;exact jM ⟨B,Q,I4,qn⟩
 .refine fN l (hO (T.item X rfl rfl rfl hc i a s3 B Q X.xe U (y L) O go) λr s4 k=>?_);obtain⟨u,V,h4⟩:=k;subst V;refine fN l (hO h4 λ_ s5 k=>?_);obtain⟨x,C,I5,r5,y5,G,S⟩:=k;have R:=I5.pinned (y S) (T.obj _ _ G);refine fN l (hO (hg _ s5 B C x u _ R r5 (step x C y5)) λ_ s6 k=>?_);obtain⟨p,H6,I6,q6⟩:=k;refine fN l (hO (j _ s6 p H6 _ I6 q6) λf Y F=>?_);have again:∀ {c:St} {q:Hp},Inv X (a++zM K s5.heap) c q Y->N c q->∃ m,m<n/\∃ i z E,Inv X a z E Y/\tn i Y.heap/\(∀ b∈K,E b=none)/\W i m z E:=λ{c q} t M=>by
   obtain⟨m',hm,w7⟩:=hN c q M;refine⟨m',hm,i+1,c,q,t.unpinned,T.keep _ _ _ G λb j o e=>(t.pin (b,o) (aY _ (aY _ (Dl j e)))).1,λb j=>?_,w7⟩;obtain⟨o,e,d⟩:=T.obj _ _ G b j;exact (t.pin (b,o) (aY _ (aY _ (Dl j e)))).2.1
  cases f with
  | next=>obtain⟨c,q,t,M⟩:=F;exact again t M
  | cont=>obtain⟨c,q,t,M⟩:=F;exact again t M
  | brk=>obtain⟨c,q,t,F⟩:=F;exact⟨c,q,t.unpinned,F⟩
  | ret v=>obtain⟨x7,c,q,t,r7,F⟩:=F;exact⟨x7,c,q,t.unpinned,r7,F⟩
end
theorem Ge {lo:Int}{n:Nat}{g:TG}{J:TS}{D:Ends}{j:St}{H:Hp}(Pv:Nat->St->Hp->Prop) (T:Pv 0 j H)
  (U:∀ i j H,i<n->Pv i j H->g (.int (lo+i)) j H λr C=>J { D with nx:=Pv (i+1),ct:=Pv (i+1),bk:=D.nx } r C) (hd:∀ j H,Pv n j H->D.nx j H) :
  ∃ W:Nat->Nat->St->Hp->Prop,(∃ m,W 0 m j H)/\∀ i m j H,W i m j H ->
   ((qP lo n).stop i H/\D.nx j H)\/((qP lo n).go i H/\∃ N:St->Hp->Prop,(∀ o l,N o l->∃ I,I<m/\W (i+1) I o l)/\∀ x l,(qP lo n).yld i H x l->g x j l λr C=>J { D with nx:=N,ct:=N,bk:=D.nx } r C):=by
 refine⟨λi m j H=>m=n-i/\i<=n/\Pv i j H,⟨n,by simp,cU _,T⟩,?_⟩;rintro i m j H ⟨rfl,c,p⟩;by_cases a:i<n
 .refine .inr ⟨a,Pv (i+1),λo l b=>⟨n-(i+1),by omega,rfl,a,b⟩,λx l y=>?_⟩;obtain⟨e,y⟩:=y;subst e y;exact U i j _ a p
 .have e:i=n:=by omega
  subst e;exact .inl ⟨aH _,hd j H p⟩
abbrev R2:=V->V->Hp->VK->Prop
def lA (X:Cx) (f:Ac->Ac->Sem Ac) (r:R2):Prop :=
 ∀ (a:Aa (Ad×Obj)) (s:Ae) (b:St) (H:Hp) (x y:V) (v u:Ac) (Q:VK),Inv X a b H s->kM x v->kM y u->r x y H Q ->
  wpAny (model X.prog X.w) X.A (f v u) (EP X a b Q) X.xe s
def Gn (X:Cx) (f:Ac->Sem Ac) (r:V->Hp->VK->Prop):Prop :=
 ∀ (a:Aa (Ad×Obj)) (s:Ae) (b:St) (H:Hp) (x:V) (v:Ac) (Q:VK),Inv X a b H s->kM x v->r x H Q ->
  wpAny (model X.prog X.w) X.A (f v) (EP X a b Q) X.xe s
def lX (X:Cx) (f:Ac) (r:Aa V->Hp->VK->Prop):Prop :=
 ∀ (a:Aa (Ad×Obj)) (s:Ae) (d:St) (H:Hp) (c:Aa V) (b:Aa Ac) (Q:VK),Inv X a d H s->kJ c b->r c H Q ->
  wpAny (model X.prog X.w) X.A (call f b) (EP X a d Q) X.xe s
def Xc (X:Cx) (r:V->Hp->(Bool->Hp->Prop)->Prop):Prop :=
 ∀ (a:Aa (Ad×Obj)) (s:Ae) (b:St) (H:Hp) (x:V) (v:Ac) (Q:Bool->Hp->Prop),Inv X a b H s->kM x v->r x H Q ->
  wpAny (model X.prog X.w) X.A (truthy v) (TP X a b Q) X.xe s
def Bv (r:R2) (g j:TE):TE:=λa H Q=>g a H λx b=>j a b λy c=>r x y c Q
def S8 (r:V->Hp->VK->Prop) (g:TE):TE:=λb H Q=>g b H λx a=>r x a Q
def rI (C:Int->Int->Prop) (g:Int->Int->V):R2:=λx y H Q=>∃ i j,x = .int i/\y = .int j/\C i j/\Q (g i j) H
def qO (g:Int->Int->V):R2:=λx y H Q=>∃ i j,x = .int i/\y = .int j/\Q (g i j) H
def rU (g:Int->V):V->Hp->VK->Prop:=λx H Q=>∃ i,x = .int i/\Q (g i) H
section
variable {X:Cx}
theorem Gh (J:PE X a ta) (T:PE X b tb){g:Aa (Ad×Obj)}{s:Ae}{l:St}{H:Hp}{R:V->V->Hp->Prop}(I:Inv X g l H s)
  (h:ta l H λx C=>tb l C λy j=>R x y j){Q:Ac->Ae->Prop}{f:Ac->Ac->Sem Ac}
  (U:∀ v u r x y j,Inv X g l j r->kM x v->kM y u->R x y j->wpAny (model X.prog X.w) X.A (f v u) Q X.xe r) :
  wpAny (model X.prog X.w) X.A (eval a X.env) (λv o=>wpAny (model X.prog X.w) X.A (eval b X.env) (λu p=>wpAny (model X.prog X.w) X.A (f v u) Q X.xe p) X.xe o) X.xe s:=by
 refine hO (J g s l H _ I h) λv q c=>?_
 obtain⟨x,C,d,m,i⟩:=c;refine hO (T g q l C _ d i) λu r c=>?_
 obtain⟨y,j,e,n,k⟩:=c;exact U v u r x y j e m n k
theorem lH (l:lA X (binaryOp op) r) (g:PE X a o) (j:PE X b p):PE X (.BinOp a op b pos) (Bv r o p):=by
 intro c s m H Q I h;exact wpAny_BinOp (Gh g j I h λv u k x y d e f i q=>l c k m d x y v u Q e f i q)
theorem Qr (j:Gn X (unaryOp op) r) (g:PE X a l):PE X (.UnaryOp op a pos) (S8 r l):=by
 intro b s c H Q I h;exact UnaryOp_ (hO (g b s c H _ I h) λv k ⟨x,d,e,i,f⟩=>j b k c d x v Q e i f)
theorem Ci {f:Ac->Ac->Sem Ac}{C:Int->Int->Prop}{g:Int->Int->Int}
  (rule:∀ (i j:Int) (t u:Tok) (s:Ae) (Q:Ac->Ae->Prop) (E:Ac->Ae->Prop),C i j->Q (.int (g i j) s.toks) { s with toks:=s.toks+1 }->wpAny (model X.prog X.w) X.A (f (.int i t) (.int j u)) Q E s) :
  lA X f (rI C λi j=>.int (g i j)):=by
 intro a s k H x y v u Q I c d h;obtain⟨i,j,rfl,rfl,b,q⟩:=h;obtain⟨t,rfl⟩:=c;obtain⟨e,rfl⟩:=d;exact rule i j t e s _ _ b ⟨.int (g i j),H,I.tok _,⟨_,rfl⟩,q⟩
theorem K8 {f:Ac->Ac->Sem Ac}{g:Int->Int->Int}
  (rule:∀ (i j:Int) (t u:Tok) (s:Ae) (Q:Ac->Ae->Prop) (E:Ac->Ae->Prop),Q (.int (g i j) s.toks) { s with toks:=s.toks+1 }->wpAny (model X.prog X.w) X.A (f (.int i t) (.int j u)) Q E s) :
  lA X f (qO λi j=>.int (g i j)):=by
 intro a s e H x y v u Q I b c h;obtain⟨i,j,rfl,rfl,q⟩:=h;obtain⟨t,rfl⟩:=b;obtain⟨d,rfl⟩:=c;exact rule i j t d s _ _ ⟨.int (g i j),H,I.tok _,⟨_,rfl⟩,q⟩
theorem Ij {f:Ac->Ac->Sem Ac}{g:Int->Int->Bool}
  (rule:∀ (i j:Int) (t u:Tok) (s:Ae) (Q:Ac->Ae->Prop) (E:Ac->Ae->Prop),Q (.bool (g i j)) s->wpAny (model X.prog X.w) X.A (f (.int i t) (.int j u)) Q E s) :
  lA X f (qO λi j=>.b (g i j)):=by
 intro a s k H x y v u Q I c d h;obtain⟨i,j,rfl,rfl,q⟩:=h;obtain⟨t,rfl⟩:=c;obtain⟨e,rfl⟩:=d;exact rule i j t e s _ _ ⟨.b (g i j),H,I,rfl,q⟩
def Yv (i j:Int):Prop:=0<j/\j<1073741824
def Dr (i j:Int):Prop:=(-(2 ^ 64)<i/\i<2 ^ 64)\/(-(2 ^ 64)<j/\j<2 ^ 64)
theorem Dr.ok (h:Dr i j):IntMulOk i j:=by
 rcases h with⟨a,b⟩ | ⟨a,b⟩
 .exact .of_left (intBits_le_64 a b)
 .exact .of_right (intBits_le_64 a b)
theorem tJ:lA X (binaryOp .Add) (qO λi j=>.int (i+j)):=K8 λ_ _ _ _ _ _ _ q=>add_int q
theorem oG:lA X (binaryOp .Sub) (qO λi j=>.int (i-j)):=K8 λ_ _ _ _ _ _ _ q=>sub_int q
theorem tR:lA X (binaryOp .Mult) (rI Dr λi j=>.int (i*j)):=Ci λ_ _ _ _ _ _ _ a q=>mul_int q a.ok
theorem Uk:lA X (binaryOp .FloorDiv) (rI Yv λi j=>.int (i/j)):=Ci λi j _ _ _ _ _ a q=>by
 have b:(0:Int)<j:=a.1;have c:j<1073741824:=a.2;exact floordiv_int (by omega) (by rw[Int.fdiv_eq_ediv_of_nonneg i (by omega)];exact q) (.inl (PyProof.noPylong_small (by omega)))
theorem pT:lA X (binaryOp .Mod) (rI (λ_ j=>0<j) λi j=>.int (i%j)):=Ci λi j _ _ _ _ _ a q=>by
 have b:(0:Int)<j:=a;exact mod_int' (by omega) (by rw[Int.fmod_eq_emod_of_nonneg i (by omega)];exact q)
theorem Uy {f:Ac->Sem Ac}{g:Int->Int}
  (rule:∀ (i:Int) (t:Tok) (s:Ae) (Q:Ac->Ae->Prop) (E:Ac->Ae->Prop),Q (.int (g i) s.toks) { s with toks:=s.toks+1 }->wpAny (model X.prog X.w) X.A (f (.int i t)) Q E s) :
  Gn X f (rU λi=>.int (g i)):=by
 intro a s c H x v Q I b h;obtain⟨i,rfl,q⟩:=h;obtain⟨t,rfl⟩:=b;exact rule i t s _ _ ⟨.int (g i),H,I.tok _,⟨_,rfl⟩,q⟩
theorem T3:Gn X (unaryOp .USub) (rU λi=>.int (-i)):=Uy λ_ _ _ _ _ q=>neg_int q
end
noncomputable def Gp:V->V->Bool
 | .e,.e=>true | .e,.int _=>true | .int _,.e=>true | .e,.b _=>true | .b _,.e=>true | .e,.str _=>true | .str _,.e=>true
 | .int _,.int _=>true | .b _,.b _=>true | .str _,.str _=>true | .byt _,.byt _=>true
 | .int _,.str _=>true | .str _,.int _=>true | .b _,.str _=>true | .str _,.b _=>true
 | _,_=>false
def Ta:R2:=λx y H Q=>Gp x y=true/\Q (.b (decide (x=y))) H
def Q6:R2:=λx y H Q=>Gp x y=true/\Q (.b (!decide (x=y))) H
theorem Ow:decide (V.int i=V.int j)=(i == j):=by
 rw[iA];simp
theorem Iy:decide (V.b i=V.b j)=(i == j):=by
 rw[iA];simp
theorem Od:decide (V.str i=V.str j)=(i == j):=by
 rw[iA];simp
theorem I0:decide (V.byt i=V.byt j)=(i.toList == j.toList):=by
 rw[iA];cases i;cases j;simp
section
variable {X:Cx}
theorem mI (I:Inv X g l H s) (q:Q (.b k) H) (e:k=j):EP X g l Q (.bool j) s:=by
 subst e;exact⟨.b k,H,I,rfl,q⟩
theorem As:lA X (compareOp .Eq) Ta:=by
 intro k s m H x y v u Q I f a h;obtain⟨d,q⟩:=h;cases x with
 | e =>
  cases f;cases y with
  | e=>cases a;exact PySem.EqNone.eq_none_none (mI I q (by simp))
  | b j=>cases a;exact PySem.EqNone.eq_none_bool (mI I q (by simp))
  | int j=>obtain⟨c,rfl⟩:=a;exact PySem.EqNone.eq_none_int (mI I q (by simp))
  | str j=>obtain⟨c,rfl⟩:=a;exact PySem.EqNone.eq_none_str (mI I q (by simp))
  | _=>exact absurd (show false=true from d) aU
 | b i =>
  cases f;cases y with
  | e=>cases a;exact PySem.EqNone.eq_bool_none (mI I q (by simp))
  | b j=>cases a;exact eq_bool (mI I q Iy)
  | str j=>obtain⟨c,rfl⟩:=a;exact PySem.EqMixed.eq_bool_str (mI I q (by simp))
  | _=>exact absurd (show false=true from d) aU
 | int i =>
  obtain⟨t,rfl⟩:=f;cases y with
  | e=>cases a;exact PySem.EqNone.eq_int_none (mI I q (by simp))
  | int j=>obtain⟨c,rfl⟩:=a;exact eq_int (mI I q Ow)
  | str j=>obtain⟨c,rfl⟩:=a;exact PySem.EqMixed.eq_int_str (mI I q (by simp))
  | _=>exact absurd (show false=true from d) aU
 | str i =>
  obtain⟨t,rfl⟩:=f;cases y with
  | e=>cases a;exact PySem.EqNone.eq_str_none (mI I q (by simp))
  | b j=>cases a;exact PySem.EqMixed.eq_str_bool (mI I q (by simp))
  | int j=>obtain⟨c,rfl⟩:=a;exact PySem.EqMixed.eq_str_int (mI I q (by simp))
  | str j=>obtain⟨c,rfl⟩:=a;exact eq_str (mI I q Od)
  | _=>exact absurd (show false=true from d) aU
 | byt i =>
  obtain⟨t,rfl⟩:=f;cases y with
  | byt j=>obtain⟨c,rfl⟩:=a;exact PySem.W.eq_bytes (mI I q I0)
  | _=>exact absurd (show false=true from d) aU
 | _=>cases y<;>exact absurd (show false=true from d) aU
theorem Rj:lA X (compareOp .NotEq) Q6:=by
 intro k s m H x y v u Q I f a h;obtain⟨d,q⟩:=h;cases x with
 | e =>
  cases f;cases y with
  | e=>cases a;exact PySem.EqNone.ne_none_none (mI I q (by simp))
  | b j=>cases a;exact PySem.EqNone.ne_none_bool (mI I q (by simp))
  | int j=>obtain⟨c,rfl⟩:=a;exact PySem.EqNone.ne_none_int (mI I q (by simp))
  | str j=>obtain⟨c,rfl⟩:=a;exact PySem.EqNone.ne_none_str (mI I q (by simp))
  | _=>exact absurd (show false=true from d) aU
 | b i =>
  cases f;cases y with
  | e=>cases a;exact PySem.EqNone.ne_bool_none (mI I q (by simp))
  | b j=>cases a;exact ne_bool (mI I q (dF not Iy))
  | str j=>obtain⟨c,rfl⟩:=a;exact PySem.EqMixed.ne_bool_str (mI I q (by simp))
  | _=>exact absurd (show false=true from d) aU
 | int i =>
  obtain⟨t,rfl⟩:=f;cases y with
  | e=>cases a;exact PySem.EqNone.ne_int_none (mI I q (by simp))
  | int j=>obtain⟨c,rfl⟩:=a;exact ne_int (mI I q (dF not Ow))
  | str j=>obtain⟨c,rfl⟩:=a;exact PySem.EqMixed.ne_int_str (mI I q (by simp))
  | _=>exact absurd (show false=true from d) aU
 | str i =>
  obtain⟨t,rfl⟩:=f;cases y with
  | e=>cases a;exact PySem.EqNone.ne_str_none (mI I q (by simp))
  | b j=>cases a;exact PySem.EqMixed.ne_str_bool (mI I q (by simp))
  | int j=>obtain⟨c,rfl⟩:=a;exact PySem.EqMixed.ne_str_int (mI I q (by simp))
  | str j=>obtain⟨c,rfl⟩:=a;exact ne_str (mI I q (dF not Od))
  | _=>exact absurd (show false=true from d) aU
 | byt i =>
  obtain⟨t,rfl⟩:=f;cases y with
  | byt j=>obtain⟨c,rfl⟩:=a;exact PySem.W.ne_bytes (mI I q (dF not I0))
  | _=>exact absurd (show false=true from d) aU
 | _=>cases y<;>exact absurd (show false=true from d) aU
theorem Vi:lA X (compareOp .Lt) (qO λi j=>.b (decide (i<j))):=Ij λ_ _ _ _ _ _ _ q=>lt_int q
theorem Ud:lA X (compareOp .LtE) (qO λi j=>.b (decide (i<=j))):=Ij λ_ _ _ _ _ _ _ q=>le_int q
theorem Dd:lA X (compareOp .Gt) (qO λi j=>.b (decide (j<i))):=Ij λ_ _ _ _ _ _ _ q=>gt_int q
theorem Wd:lA X (compareOp .NotIn) (λx y H Q=>∃ i j,x = .str i/\y = .str j/\Q (.b (!(!(Builtin.Str.occurrences j i 0 j.length 1).isEmpty))) H):=by
 intro a s f H x y v u Q I c d h;obtain⟨i,j,rfl,rfl,q⟩:=h;obtain⟨t,rfl⟩:=c;obtain⟨e,rfl⟩:=d;exact notIn_str (mI I q rfl)
theorem lA.or (h:lA X f r) (g:lA X f j):lA X f (λx y H Q=>r x y H Q\/j x y H Q):=by
 intro a s d H x y v u Q I b c q;rcases q with q | q
 .exact h a s d H x y v u Q I b c q
 .exact g a s d H x y v u Q I b c q
theorem tG (b:Expr) (h:op ≠ .In:=by decide) (g:op ≠ .NotIn:=by decide):behindInMarks op b=false:=by
 have a:(op == CmpOp.In)=false:=by cases op<;>first | rfl | exact absurd rfl h
 have c:(op == CmpOp.NotIn)=false:=by cases op<;>first | rfl | exact absurd rfl g
 cases b<;>simp[behindInMarks,a,c]
theorem Pk (o:lA X (compareOp op) r) (g:PE X a p) (j:PE X b C) (l:behindInMarks op b=false):PE X (.Compare a [op] [b] pos) (Bv r p C):=by
 intro c s m H Q I h;exact wpAny_Compare1 (Gh g j I h λv u k x y d e f i q=>o c k m d x y v u Q e f i q) l
def Wt (t:TE):TT:=λc H Q=>t c H λx a=>∃ k,x = .b k/\Q k a
theorem uW (o:lA X (compareOp op) r) (g:PE X a p) (j:PE X b C) (l:behindInMarks op b=false):PT X (.Compare a [op] [b] pos) (Wt (Bv r p C)):=by
 intro d s f H Q I h;refine wpAny_isTrue_Compare1 (hO (g d s f H _ I h) λv K ⟨x,i,q,E,A⟩=>hO (j d K f i _ q A) λu L ⟨y,m,t,F,B⟩ =>hO (o d L f m x y v u _ t E F B) λc M ⟨z,n,w,G,k,e,D⟩=>?_) l;subst e;cases G;exact iM ⟨n,w,D⟩
def F2 (K:kG) (x:V) (H:Hp) (k:Bool):Prop :=
 match x with
 | .e=>k=false
 | .b b=>k=b
 | .int i=>k=(i != 0)
 | .str y=>y.length<=sizeLine/\k=((y.length:Int) != 0)
 | .byt y=>y.size<=sizeLine/\k=((y.size:Int) != 0)
 | .ref p=>(∃ c,eT K H p c/\k = !c.isEmpty)\/(∃ c,lL K H p c/\k = !c.isEmpty)\/∃ a,H p=some (.k a)/\k = !a.isEmpty
 | _=>False
theorem Zb (r:KV g j):(!j.isEmpty) = !g.isEmpty:=by
 cases r<;>rfl
theorem Pr (r:kJ j g):(!g.toArray.isEmpty) = !j.isEmpty:=by
 cases r<;>simp
theorem wD:(sizeLine:Nat)<2 ^ 63:=by rw[sizeLine_eq];decide
theorem Vn:Xc X (λx H Q=>∃ k,F2 X.K x H k/\Q k H):=by
 intro E s N H x v Q I n h;obtain⟨k,e,q⟩:=h;have L:=wD;have M:sizeLine=16777216:=sizeLine_eq;cases x with
 | e =>
  cases n;have a:k=false:=e;subst a;exact truthy_none ⟨H,I,q⟩
 | b b =>
  cases n;have a:k=b:=e;subst a;exact iM ⟨H,I,q⟩
 | int i =>
  obtain⟨t,rfl⟩:=n;have a:k=(i != 0):=e;subst a;exact PySem.P.truthy_int ⟨H,I,q⟩
 | str y =>
  obtain⟨t,rfl⟩:=n;obtain⟨G,a⟩:y.length<=sizeLine/\k=((y.length:Int) != 0):=e;subst a;exact PySem.P.truthy_str (by omega) ⟨H,I.tok _,q⟩
 | byt y =>
  obtain⟨t,rfl⟩:=n;obtain⟨G,a⟩:y.size<=sizeLine/\k=((y.size:Int) != 0):=e;subst a;exact PySem.W.truthy_bytes (by omega) ⟨H,I.tok _,q⟩
 | ref p =>
  cases n;have a:(∃ f,eT X.K H p f/\k = !f.isEmpty)\/(∃ f,lL X.K H p f/\k = !f.isEmpty)\/∃ c,H p=some (.k c)/\k = !c.isEmpty:=e;rcases a with⟨f,u,a⟩ | ⟨f,u,a⟩ | ⟨c,u,a⟩
  .subst a;obtain⟨A,r,B,D⟩:=I.list u;have d:=r.length;exact wpAny_truthy_list B.isList (by simp only[aP];omega) ⟨H,I.tok _,by rw[Pr r];exact q⟩
  .subst a;obtain⟨A,r,B,D⟩:=I.tuple u;have d:=r.length;exact truthy_tuple B (by simp only[aP];omega) ⟨H,I.tok _,by rw[Pr r];exact q⟩
  .subst a;obtain⟨D,F,z,r,m⟩:c.length<=sizeLine/\(p == sysModules)=false/\∃ z,KV c z/\s.heap.DictOf (nY X.prog X.w) p z:=I.hok p _ u;have d:c.length=z.length:=jY r;exact wpAny_truthy_dict F m (by omega) ⟨H,I.tok _,by rw[Zb r];exact q⟩
 | _=>exact (show False from e).elim
theorem EE (l:PE X a p) (o:∀ whole,isTrue a X.env whole=(do let v <- whole;standAt a.pos;holding [v] (truthy v))) :
  PT X a (λg H Q=>p g H λx j=>∃ k,F2 X.K x j k/\Q k j):=by
 intro b s g H Q I h;exact isTrue_plain (hO (l b s g H _ I h) λv i ⟨x,c,d,f,e⟩=>Vn b i g c x v Q d f e) (o _)
theorem tS:lA X (binaryOp .Add) (λx y H Q=>∃ i j,x = .str i/\y = .str j/\i.length+j.length<=sizeLine/\Q (.str (i++j)) H):=by
 intro a s k H x y v u Q I c d h;obtain⟨i,j,rfl,rfl,b,q⟩:=h;obtain⟨t,rfl⟩:=c;obtain⟨e,rfl⟩:=d;exact add_str (λe f=>⟨.str (i++j),H,I.tok _,⟨_,rfl⟩,q⟩) b
theorem nM (r:kJ [x] g):∃ u,g=[u]/\kM x u:=by
 cases r with
 | cons a b=>cases b;exact⟨_,rfl,a⟩
theorem zH (r:kJ [x,y] j):∃ u g,j=[u,g]/\kM x u/\kM y g:=by
 cases r with
 | cons a b =>
  cases b with
  | cons c d=>cases d;exact⟨_,_,rfl,a,c⟩
theorem Z6 (l:X.calm=true):lX X (.builtin "max") (λg H Q=>∃ i j,g=[.int i,.int j]/\Q (.int (if j>i then j else i)) H):=by
 intro b s n H g f Q I r h;obtain⟨i,j,rfl,q⟩:=h;obtain⟨u,m,rfl,⟨t,rfl⟩,⟨d,rfl⟩⟩:=zH r;refine max_two_ints (I.ok.hd l) λc e k=>⟨_,H,I.kept k,?_,q⟩
 by_cases a:j>i
 .rw[bA a,bA a];exact⟨_,rfl⟩
 .rw[bB a,bB a];exact⟨_,rfl⟩
theorem V2 (l:X.calm=true):lX X (.builtin "min") (λg H Q=>∃ i j,g=[.int i,.int j]/\Q (.int (if j<i then j else i)) H):=by
 intro b s n H g f Q I r h;obtain⟨i,j,rfl,q⟩:=h;obtain⟨u,m,rfl,⟨t,rfl⟩,⟨d,rfl⟩⟩:=zH r;refine min_two_ints (I.ok.hd l) λc e k=>⟨_,H,I.kept k,?_,q⟩
 by_cases a:j<i
 .rw[bA a,bA a];exact⟨_,rfl⟩
 .rw[bB a,bB a];exact⟨_,rfl⟩
theorem AN:lX X (.type "int") (λg H Q=>(∃ i,g=[.int i]/\Q (.int i) H)\/∃ k,g=[.b k]/\Q (.int (if k then 1 else 0)) H):=by
 intro a s e H g d Q I r h;rcases h with⟨i,rfl,q⟩ | ⟨k,rfl,q⟩
 .obtain⟨u,rfl,t,rfl⟩:=nM r;exact call_int_int ⟨.int i,H,I,⟨_,rfl⟩,q⟩
 .obtain⟨u,rfl,c⟩:=nM r;cases c;exact call_int_bool ⟨.int (if k then 1 else 0),H,I.tok _,⟨_,rfl⟩,q⟩
end
structure ObjM (h:Heap) (x dx C:Addr) (mA:Str->Option Value):Prop where
 obj:h.get? x=some (PySem.W.instObj C dx)
 ns:h.Ns1 dx mA
 ne:dx≠x
theorem Yh {h:Ag}{g:Ad}{j:Af->Ab Ac}(n:h.Ns1 g j):∃ l,h.get? g=some l/\∀ name,PySem.W.lookIn name l=some (j name):=by
 obtain⟨o,c,s,k,hd,f,_,i⟩:=n;refine⟨o,k,λname=>?_⟩;have e:=i name;unfold nsFind findBy at e;rw[<- Array.find?_toList] at e;unfold PySem.W.lookIn;rw[hd];dsimp only;split
 .rename_i y q
  rw[q] at e;exact dF some e
 .rename_i q
  rw[q] at e;have a:c.toList.any (·.refKey)=false:=by
   rw[List.any_eq_false];intro y m;obtain⟨z,t,b⟩:=f y (Array.mem_toList_iff.mp m);simp[DictEntry.refKey,b]
  have d:¬ c.toList.any (·.refKey)=true:=by rw[a];exact aU
  rw[bB d];exact dF some e
theorem ObjM.look (I:ObjM h x j C l):∃ g,PySem.W.InstAt h x (PySem.W.instObj C j) C (some g)/\∀ name,PySem.W.lookIn name g=some (l name) :=
 let ⟨g,b,a⟩:=Yh I.ns
 ⟨g,⟨I.obj,rfl,rfl,b⟩,a⟩
theorem qV.some_of (r:qV (some v) o):∃ u,o=some u/\kM v u:=by
 cases o with
 | none=>exact (show False from r).elim
 | some u=>exact⟨u,rfl,r⟩
section
variable {P:Ah}
theorem BH (l:mF P w H h) (e:H a=some (.ins C j fs)):∃ g,ObjM h a j C g/\(∀ f,qV (fs.lookup f) (g f))/\PySem.Within g (fs.map (·.1))/\fs.length<=1000/\H j=some (.o a):=by
 obtain⟨d,z,ne,b,g,n,r,q⟩:=(show mU P w H h a (.ins C j fs) from l a _ e);exact⟨g,⟨b,n,ne⟩,r,q,z,d⟩
end
structure Cls (K:kG) (C:Addr):Prop where
 pg:PySem.W.plainGet K C Str.empty=true
 hd:PySem.W.hasDictIn K C=true
 po:PySem.W.plainOver K C=true
 sa:PySem.W.findIn K (.ref C) "__setattr__" = some (some (.builtin "object.__setattr__"))
theorem Cls.get {K:kG}(c:Cls K C) (f:Af):PySem.W.plainGet K C f=true:=c.pg
section
variable {X:Cx}
inductive TyOf (K:kG) (H:Hp):V->Value->Prop where
 | e:TyOf K H .e (.type "NoneType")
 | b (x:Bool):TyOf K H (.b x) (.type "bool")
 | int (i:Int):TyOf K H (.int i) (.type "int")
 | str (x:Str):TyOf K H (.str x) (.type "str")
 | flt (x:UInt64):TyOf K H (.flt x) (.type "float")
 | l {a:Addr} {xs:List V} (e:H a=some (.l xs)):TyOf K H (.ref a) (.type "list")
 | frz {a:Addr} {o:Obj} {xs:List V} (e:H a=some (.frz o (.l xs))):TyOf K H (.ref a) (.type "list")
 | t {a:Addr} {xs:List V} (e:H a=some (.t xs)):TyOf K H (.ref a) (.type "tuple")
 | k {a:Addr} {kvs:List (hH×V)} (e:H a=some (.k kvs)):TyOf K H (.ref a) (.type "dict")
 | T {a:Addr} {kvs:List (List hH×V)} (e:H a=some (.T kvs)):TyOf K H (.ref a) (.type "dict")
 | ins {a C dx:Addr} {fs:List (Str×V)} (e:H a=some (.ins C dx fs)) (cl:Cls K C) (ha:PySem.W.findIn K (.ref C) "__class__" = some (some (.builtin "object.__class__")))
   (hn:PySem.W.specialIn K (.builtin "object.__class__") "__get__" = some (some (.builtin "getset_descriptor.__get__"))) (htk:PySem.W.takesIn K (.builtin "object.__class__")=some true)
   (hm:PySem.W.mroIn K C (.type "object")=some true):TyOf K H (.ref a) (.ref C)
theorem AV (I:Inv X j U H s) (g:kM x u) (ty:TyOf X.K H x t) (e:PySem.W.kitOne X.K t c=some b) (h:∀ r,Q (.bool b) { s with toks:=r }) :
  wpAny (model X.prog X.w) A (call (.builtin "isinstance") [u,c]) Q E s:=by
 cases ty with
 | e=>cases (show u=Value.none from g);exact dM PySem.W.kitx_none I.kIn True.intro e (λz=>nomatch z) h
 | b y=>cases (show u=Value.bool y from g);exact dM PySem.W.kitx_bool I.kIn True.intro e (λz=>nomatch z) h
 | int i=>obtain⟨t,q⟩:=(show ∃ t,u=Value.int i t from g);cases q;exact dM PySem.W.kitx_int I.kIn True.intro e (λz=>nomatch z) h
 | str y=>obtain⟨t,q⟩:=(show ∃ t,u=Value.str y t from g);cases q;exact dM PySem.W.kitx_str I.kIn True.intro e (λz=>nomatch z) h
 | flt y=>obtain⟨t,q⟩:=(show ∃ t,u=Value.float y t from g);cases q;exact dM PySem.W.kitx_float I.kIn True.intro e (λz=>nomatch z) h
 | @l a v d =>
  cases (show u=Value.ref a from g);obtain⟨_,_,n,_,f⟩:=(show mU X.prog X.w H s.heap a (.l v) from I.hok a _ d);exact dM PySem.W.kitx_list I.kIn ⟨_,f,rfl⟩ e (λz=>nomatch z) h
 | @frz a R v d =>
  cases (show u=Value.ref a from g);obtain⟨_,_,_,n,_,f⟩:=(show mU X.prog X.w H s.heap a (.frz R (.l v)) from I.hok a _ d);exact dM PySem.W.kitx_list I.kIn ⟨_,f,rfl⟩ e (λz=>nomatch z) h
 | @t a v d =>
  cases (show u=Value.ref a from g);obtain⟨_,_,_,p,_⟩:=(show mU X.prog X.w H s.heap a (.t v) from I.hok a _ d);obtain⟨o,f,B,_⟩:=p;exact dM PySem.W.kitx_tuple I.kIn ⟨o,f,B⟩ e (λz=>nomatch z) h
 | @k a m d =>
  cases (show u=Value.ref a from g);obtain⟨_,_,Z,_,p⟩:=(show mU X.prog X.w H s.heap a (.k m) from I.hok a _ d);obtain⟨o,L,G,f,B,_⟩:=p;exact dM PySem.W.kitx_dict I.kIn ⟨o,f,B.1⟩ e (λz=>nomatch z) h
 | @T a m d =>
  cases (show u=Value.ref a from g);obtain⟨_,_,v,_,o,L,G,f,B,_⟩:=(show mU X.prog X.w H s.heap a (.T m) from I.hok a _ d);exact dM PySem.W.kitx_dict I.kIn ⟨o,f,B.1⟩ e (λz=>nomatch z) h
 | @ins a C S fs d F M P D N =>
  cases (show u=Value.ref a from g);obtain⟨V,O,_⟩:=BH I.hok d;obtain⟨Y,J,_⟩:=O.look;exact dM (PySem.W.kitx_own (F.get _) F.hd M P D N) I.kIn J e (λz=>nomatch z) h
end
structure Room (k:Nat) (A:Around):Prop where
 hd:A.handled=none
 dp:A.depth+3*k+5<recursionLimit
 un:A.units+16*k+200<cLine
theorem Room.mono (r:Room k A) (h:j<=k):Room j A:=⟨r.hd,by have:=r.dp;omega,by have:=r.un;omega⟩
theorem Room.deeper (r:Room (k+1) A) (g:Env):Room k (A.deeper g) :=
 ⟨r.hd,by have:=r.dp;show A.depth+1+3*k+5<_;omega,by have:=r.un;show A.units+3+16*k+200<_;omega⟩
theorem Room.depth (r:Room k A):A.depth<recursionLimit:=by have:=r.dp;omega
theorem Room.units (r:Room k A):A.units+64<cLine:=by have:=r.un;omega
def uN:TA:=λ_ H Q=>Q [] H
def tL (g:TE) (j:TA):TA:=λa H Q=>g a H λx b=>j a b λd c=>Q (x::d) c
section
variable {X:Cx}
theorem lO:PA X [] uN:=λ_ _ _ _ H Q I h=>Calls.spliced_nil ⟨[],H,I,.nil,h⟩
theorem sR (j:PE X e p) (l:PA X g t) (o:starEach (e::g) X.env=(false,eval e X.env)::starEach g X.env:=by rfl):PA X (e::g) (tL p t):=by
 intro pos a s c H Q I h;rw[o];show wpAny _ _ (spliced ((false,eval e X.env)::backTo pos (starEach g X.env))) _ _ s;refine iE (hO (j a s c H _ I h) λu w b=>?_);obtain⟨x,d,i,q,m⟩:=b;exact hO (l pos a w c d _ i m) λA z ⟨y,f,k,v,n⟩=>⟨x::y,f,k,.cons q v,n⟩
def Sz (t:TA):TE:=λc H Q=>t c H λb a=>b.length<=sizeLine/\∀ p,a p=none->Q (.ref p) (upd a p (.t b))
def Iu (t:TA):TE:=λc H Q=>t c H λb a=>b.length<=sizeLine/\∀ p,a p=none->Q (.ref p) (upd a p (.l b))
theorem Po {j}(h:PA X g t):PE X (.Tuple g j pos) (Sz t):=by
 intro a s v H Q I k;refine wpAny_Tuple_spliced (hO (h pos a s v H _ I k) λm c ⟨n,d,f,r,z,q⟩=>⟨by rw[<- r.length];exact z,?_⟩);have i:d c.heap.objs.size=none:=f.hok.fresh (aH _);refine⟨.ref c.heap.objs.size,upd d c.heap.objs.size (.t n),f.laid (t':=c.toks) (λb u e=>aE _ e) (aH _) ?_,rfl,q _ i⟩;exact⟨z,m,r,⟨_,aR _ rfl,rfl,_,rfl⟩,_,aR _ rfl,rfl⟩
theorem rA (h:PA X g t):PE X (.List g pos) (Iu t):=by
 intro a s v H Q I k;refine wpAny_List_spliced (hO (h pos a s v H _ I k) λm c ⟨n,d,f,r,z,q⟩=>⟨by rw[<- r.length];exact z,?_⟩);have i:d c.heap.objs.size=none:=f.hok.fresh (aH _);refine⟨.ref c.heap.objs.size,upd d c.heap.objs.size (.l n),f.laid (t':=c.toks) (λb u e=>aE _ e) (aH _) ?_,rfl,q _ i⟩;exact⟨z,m,0,r,aR _ rfl⟩
end
abbrev Sp:=Aa V->Hp->VK->XK->Prop
abbrev wY:=Aa Env->Hp->Ae->XK->Ac->Ae->Prop
structure Env0 (P:Program) (w:World) (K:kG) (mg:Str->Option Value) (base:Heap) (A:Around) (outer:List Env) (s:Shared) (H:Hp):Prop where
 frames:A.frames=some outer
 mod:Mod K mg base
 bs:∀ b o,base.get? b=some o->s.heap.get? b=some o/\H b=none
 bsz:base.objs.size<=s.heap.objs.size
 funs:s.heap.FunFrames base outer
 frf:∀ b∈rL outer,H b=none
 hok:mF P w H s.heap
 bare:AllBare s.gens
def CE (g:Aa Env) (P:Ah) (w:World) (H:Hp) (s:Ae) (Q:VK) (u:Ac) (j:Ae):Prop :=
 ∃ v a,j.os=s.os/\AllBare j.gens/\Un (rL g) [] H a s.heap j.heap/\mF P w a j.heap/\kM v u/\Q v a
def CR (l:wY) (g:Aa Env) (P:Ah) (w:World) (H:Hp) (s:Ae) (Q:VK) (E:XK) (r:Result) (j:Ae):Prop :=
 match r with
 | .ok (.ret u)=>CE g P w H s Q u j
 | .ok _=>False
 | .error e=>l g H s E e j
structure FnOk (P:Program) (w:World) (K:kG) (mg:Str->Option Value) (base:Heap) (CX:wY) (k:Nat) (f:Addr) (fd:FuncData) (ps:List Str) (sp:Sp):Prop where
 len:∀ vs H Q E,sp vs H Q E->vs.length=ps.length
 run:∀ (A:Around) (outer:List Env) (s:Shared) (H:Hp) (args:Args) (us:List Value) (vs:List V) (Q:VK) (E:XK),Room k A->Env0 P w K mg base A outer s H->BindsTo s fd args (ps.zip us)->kJ vs us->sp vs H Q E ->
  codeAny (model P w) A (.call (.ref f) args) (CR CX outer P w H s Q E) s
theorem FnOk.imp {P:Ah}{K:kG}(F:FnOk P w K o base l k f fd p r)
  (h:∀ g H Q E,j g H Q E->r g H Q E):FnOk P w K o base l k f fd p j :=
 ⟨λg H Q E q=>F.len g H Q E (h _ _ _ _ q),λA a s H args m g Q E d c b i e=>F.run A a s H args m g Q E d c b i (h _ _ _ _ e)⟩
section
variable {X:Cx}
theorem Inv.env0 (I:Inv X g j H s):Env0 X.prog X.w X.K X.mg X.base X.A X.stack s H :=
 ⟨I.ok.frames,I.ok.mod,I.bs,bM I.ok.bsz I.sz,I.stack,I.stkFree,I.hok,I.bare⟩
theorem Inv.after (I:Inv X j o H s) (h:CE X.stack X.prog X.w H s Q u l):EP X j o Q u l:=by
 obtain⟨v,e,os,bare,un,a,r,q⟩:=h;obtain⟨f,g,d,t,c⟩:=l;obtain rfl:c=s.os:=os;exact⟨v,e,I.call (h':=f) (g':=g) (d':=d) (t':=t) (ch:=[]) un a bare (λb z=>absurd z (by simp)),r,q⟩
end
def Km (j:Sp) (g:Aa V) (E:XK) (t:TA):TE:=λc H Q=>t c H λb a=>j (b++g) a Q E
def tU (K:kG) (fd:FuncData) (j:Aa Af) (g:Aa Ac):Prop :=
 ∀ (s:Ae) (a:Aa Ac),K.In s.heap->(a++g).length=j.length->BindsTo s fd ⟨a,[]⟩ (j.zip (a++g))
theorem tU.all {K:kG}(h:∀ g:Aa Ac,g.length=j.length->bindArgs fd ⟨g,[]⟩=pure (j.zip g)):tU K fd j []:=λs g _ a=>by
 rw[gJ] at a |-;exact .of_eq (h g a)
def Bq (g:wY) (X:Cx) (E:XK):Prop:=∀ (a:Aa (Ad×Obj)) (c:St) (H:Hp) (s:Ae) (e:Ac) (b:Ae),Inv X a c H s->g X.stack H s E e b->X.xe e b
section
variable {X:Cx}
theorem Mt (F:FnOk X.prog X.w X.K X.mg X.base J k f fd p sp) (U:Room k X.A) (T:tU X.K fd p l) (hd:kJ j l) (hx:Bq J X E)
  (I:Inv X g C H s) (r:kJ o us) (h:sp (o++j) H Q E):wpAny (model X.prog X.w) X.A (call (.ref f) us) (EP X g C Q) X.xe s:=by
 have b:kJ (o++j) (us++l):=r.append hd;have d:(us++l).length=p.length:=by rw[<- b.length];exact F.len _ _ _ _ h
 refine wpAny_call (codeAny_mono (F.run X.A X.stack s H ⟨us,[]⟩ (us++l) (o++j) Q E U I.env0 (T s us I.kIn d) b h) λr i a=>?_);cases r with
 | error e=>exact hx g C H s e i I a
 | ok c =>
  cases c with
  | ret u=>exact I.after a
  | next=>exact False.elim a
  | brk=>exact False.elim a
  | cont=>exact False.elim a
structure StB (X:Cx) (e:Expr) (es:List Expr) (pos:Pos):Prop where
 a:starEach (e::es) X.env=(false,eval e X.env)::starEach es X.env:=by rfl
 b:(backTo pos (starEach es X.env)).any (·.1)=false:=by rfl
theorem rQ (F:FnOk X.prog X.w X.K X.mg X.base C k f fd ps sp) (hr:Room k X.A) (hg:Gl X x) (hm:X.mg x=some (.ref f)) (hk:PySem.W.keepIn X.K (.ref f)=true) (U:tU X.K fd ps J) (hd:kJ j J) (hx:Bq C X E)
  (T:PA X (e::o) t) (l:(x == ("__debug__" : Af))=false:=by decide) (g:StB X e o pos:=by exact {}) :
  PE X (.Call (.Name x p) (e::o) [] pos) (Km sp j E t):=by
 intro c s i H Q I h;refine eQ (Nh I hg hm ?_ l);refine PySem.W.callWith_K (h₀:=X.base) I.ok.mod.kin hk (hO (T pos c s i H _ I h) λu n ⟨v,m,d,r,q⟩=>⟨d.kIn,?_⟩) g.a g.b;exact Mt F hr U hd hx d r q
theorem Lo (F:FnOk X.prog X.w X.K X.mg X.base l k f fd ps sp) (U:Room k X.A) (C:Gl X x) (T:X.mg x=some (.ref f)) (J:PySem.W.keepIn X.K (.ref f)=true) (r:tU X.K fd ps o) (hd:kJ g o) (hx:Bq l X E)
  (j:(x == ("__debug__" : Af))=false:=by decide):PE X (.Call (.Name x p) [] [] pos) (Km sp g E uN):=by
 intro a s b H Q I h;refine eQ (Nh I C T ?_ j);exact PySem.W.callWith_K0 I.kIn J (Mt (us:=[]) F U r hd hx I .nil h)
end
def PK (X:Cx) (g:Aa Keyword) (t:TA):Prop :=
 ∀ (pos:Pos) (a:Aa (Ad×Obj)) (s:Ae) (b:St) (H:Hp) (Q:Aa V->Hp->Prop),Inv X a b H s->t b H Q->wpAny (model X.prog X.w) X.A (evalAll ((backToKw pos (keywordEach g X.env)).map (·.2))) (AP X a b Q) X.xe s
section
variable {X:Cx}
theorem BM:PK X [] uN:=λ_ _ _ _ H Q I h=>wpAny_evalAll_nil ⟨[],H,I,.nil,h⟩
theorem Tw (l:PE X e p) (o:PK X g t):PK X (⟨r,e,j⟩::g) (tL p t):=by
 intro pos a s b H Q I h;show wpAny _ _ (evalAll ((do let v <- eval e X.env;standAt pos;pure v)::(backToKw pos (keywordEach g X.env)).map (·.2))) _ _ s;refine wpAny_evalAll_cons (aA (hO (l a s b H _ I h) λu w ⟨x,c,f,n,k⟩=>aA (jK (aD ?_))));exact hO (o pos a w b c _ f k) λA z ⟨y,d,i,q,m⟩=>⟨x::y,d,i,.cons n q,m⟩
end
structure FnScope (N P:List Str) (sc:Scope):Prop where
 kind:sc.kind = .function
 co:sc.isCoroutine=false
 gen:sc.isGenerator=false
 nd:N.Nodup
 pre:N.take P.length=P
 par:∀ x∈P,sc.names.lookup x=some .local\/sc.names.lookup x=some .cell
 nofree:∀ y∈sc.names,y.2 ≠ .free
theorem Jl {kindOf:Af->Ab NameKind}:∀ {binds:Aa (Af×Ac)}{m:Af->Ab Ac},(∀ v,(x,v)∉binds)->bindL kindOf binds m x=m x
 | [],_,_=>rfl
 | (n,v)::r,m,h=>by
  unfold bindL;rw[Jl λw hw=>h w (aN _ hw)];split
  .have:x≠n:=by rintro rfl;exact h v aG
   simp[this]
  .rfl
theorem Ko {kindOf:Af->Ab NameKind}:∀ {binds:Aa (Af×Ac)}{m:Af->Ab Ac},(∀ v,(x,v)∉binds)->bindC kindOf binds m x=m x
 | [],_,_=>rfl
 | (n,v)::r,m,h=>by
  unfold bindC;rw[Ko λw hw=>h w (aN _ hw)];split
  .rfl
  .have:x≠n:=by rintro rfl;exact h v aG
   simp[this]
theorem M6 {kindOf:Af->Ab NameKind}:∀ {P:Aa Af}{g:Aa Ac}{i:Nat}{m:Af->Ab Ac},P.Nodup->P[i]?=some x->g[i]?=some v->kindOf x=some .local ->
  bindL kindOf (P.zip g) m x=some v
 | [],_,_,_,_,h,_,_=>by simp at h
 | _::_,[],_,_,_,_,h,_=>by simp at h
 | p::P,w::g,0,m,d,a,b,c=>by
  simp at a b;subst a;subst b;show bindL kindOf ((p,w)::P.zip g) m p=_;unfold bindL;rw[Jl λv e=>(bU.mp d).1 (kB e).1,bA c];simp
 | p::P,w::g,i+1,m,d,a,b,c=>by
  show bindL kindOf ((p,w)::P.zip g) m x=_;unfold bindL;exact M6 (i:=i) (bU.mp d).2 (by simpa using a) (by simpa using b) c
theorem Ki {kindOf:Af->Ab NameKind}:∀ {P:Aa Af}{g:Aa Ac}{i:Nat}{m:Af->Ab Ac},P.Nodup->P[i]?=some x->g[i]?=some v->kindOf x≠some .local ->
  bindC kindOf (P.zip g) m x=some v
 | [],_,_,_,_,h,_,_=>by simp at h
 | _::_,[],_,_,_,_,h,_=>by simp at h
 | p::P,w::g,0,m,d,a,b,c=>by
  simp at a b;subst a;subst b;show bindC kindOf ((p,w)::P.zip g) m p=_;unfold bindC;rw[Ko λv e=>(bU.mp d).1 (kB e).1,bB c];simp
 | p::P,w::g,i+1,m,d,a,b,c=>by
  show bindC kindOf ((p,w)::P.zip g) m x=_;unfold bindC;exact Ki (i:=i) (bU.mp d).2 (by simpa using a) (by simpa using b) c
def qY (N:Aa Af) (g:Aa V):St:=g.map some++List.replicate (N.length-g.length) none
noncomputable def uH (o:wY) (P:Ah) (w:World) (K:kG) (p:Af->Ab Ac) (base:Ag) (N:Aa Af) (l:Af) (g:Scope) (f:Ad) (cd:Ac) (A:Around) (j:Aa Env) (s:Ae) (H:Hp) (E:XK):Cx where
 prog:=P
 w:=w
 K:=K
 mg:=p
 base:=base
 A:=A.deeper (envOfC l g s.heap.objs.size f cd)
 N:=N
 s₀:=s
 H₀:=H
 env:=envOfC l g s.heap.objs.size f cd
 outer:=j
 stack:=envOfC l g s.heap.objs.size f cd::j
 ex:=[]
 calm:=true
 fn:=λ_=>true
 pn:=[]
 xe:=λe c=>wpAny (model P w) (A.deeper (envOfC l g s.heap.objs.size f cd)) (leaving (envOfC l g s.heap.objs.size f cd) e) (λ_ a=>o j H s E e a) (λb a=>o j H s E b a) c
theorem Ka {g:Scope}{n:Nat}{x:Af}(h:g.names.lookup x=some .cell):∃ c,(cellsFrom n g.names []).lookup x=some c:=by
 have q:=PySem.W.cellsFrom_some g.names n [] (.inl h);exact cX.mp q
theorem Z4 {P:Ah}{K:kG}{cd:Ac}
  (S:FnScope N C g) (hd:A.handled=none) (o:Env0 P w K J base A j s H) (hl:I.length=C.length) (r:kJ I T)
  (x:InCallC s s.heap.objs.size (bindL (envOfC l g s.heap.objs.size f cd).kindOf (C.zip T) λ_=>none) (cellsFrom (s.heap.objs.size+1) g.names []) (bindC (envOfC l g s.heap.objs.size f cd).kindOf (C.zip T) λ_=>none) s1) :
  Inv (uH U P w K J base N l g f cd A j s H E) [] (qY N I) H s1:=by
 have Q:C.length<=N.length:=by have:=dF List.length S.pre;rw[bQ] at this;omega
 obtain⟨F,W,rfl,L⟩:=x.done;have t:∀ b:Ad,b∉(uH U P w K J base N l g f cd A j s H E).ex:=λb z=>absurd (show b∈([]:Aa Ad) from z) (by simp)
 refine⟨⟨o.mod,S.kind,rfl,rfl,aH _,λy z c F d=>?_,λy m=>?_,λy c _ h=>?_,λ_=>hd,Around.frames_deeper o.frames,.inr ⟨rfl,rfl⟩,λb z=>absurd z (t b),o.bs,o.bsz,λb _ _=>t b,λb z=>absurd z (t b),o.funs,o.frf⟩,
  rfl,o.bare,Un.kept L,⟨_,x.toInCall.ns,λi y v F d V=>?_⟩,λy c h=>⟨_,x.cell y c h⟩,o.hok.fresh (aH _),λy c h=>?_,λp B=>absurd (show p∈([]:Aa (Ad×Obj)) from B) (by simp),o.hok.kept L,?_⟩
 .exact name_of_addr x.apart (cZ F) (cZ d)
 .have m:g.names.lookup y=some .cell\/g.names.lookup y=some .free:=m;rcases m with m | m
  .exact Ka m
  .exact absurd rfl (S.nofree _ (cZ m))
 .exact gE (x.above y c (cZ h))
 .have G:i<I.length:=by
   unfold qY at d;by_cases G:i<I.length
   .exact G
   .rw[bN (by simpa using G)] at d;rw[List.getElem?_replicate] at d;split at d<;>cases d
  have O:I[i]?=some v:=by
   unfold qY at d;rw[cK (by simpa using G),bG] at d;cases e:I[i]? with
   | none=>rw[e] at d;cases d
   | some a=>rw[e] at d;cases d;rfl
  obtain⟨u,M,R⟩:=r.get O;have B:C[i]?=some y:=by
   rw[<- S.pre,dR (by omega)];exact F
  have D:C.Nodup:=by rw[<- S.pre];exact S.nd.sublist (List.take_sublist _ _)
  refine⟨u,R,?_⟩;rcases S.par y (aL B) with k | k
  .exact .inl ⟨k,M6 D B M k⟩
  .obtain⟨c,e⟩:=Ka (n:=s.heap.objs.size+1) k;refine .inr ⟨.inl k,c,e,?_⟩;have q:=x.cell y c e;rw[Ki D B M (by show g.names.lookup y≠_;rw[k];decide)] at q;exact q
 .exact o.hok.fresh (gE (x.above y c (cZ h)))
 .unfold qY;show _=N.length;rw[bC,aB,eN];omega
theorem Vq {P:Ah}{K:kG}{kV:Ac}
(lk:K.lookup f=some ⟨oc,od,.func (PySem.W.fnOf name l C body g dV kV ab pm an p ct),ae⟩) (ac:PySem.W.codeIn K p l=true) (S:FnScope N ps g)
  (len:∀ T H Q E,sp T H Q E->T.length=ps.length)
  (aa:∀ (A:Around) (j:Aa Env) (s:Ae) (H:Hp) (T:Aa V) (Q:VK) (E:XK),Room k (A.deeper (envOfC l g s.heap.objs.size f p))->sp T H Q E ->∃ t,mY (uH CX P w K mg base N l g f p A j s H E) body t/\t { nx:=λ_ U=>Q .e U,rt:=Q } (qY N T) H) :
  FnOk P w K mg base CX (k+1) f (PySem.W.fnOf name l C body g dV kV ab pm an p ct) ps sp:=by
 refine⟨len,λA j s H args us T Q E m h O r i=>?_⟩;have X:=len _ _ _ _ i;have F:K.In s.heap:=h.mod.kin.keeps λb o e=>(h.bs b o e).1
 have z:s.heap.NoLimit:=h.mod.nolimit.keeps λb o e=>(h.bs b o e).1
 have c:∀ y∈ps.zip us,g.names.lookup y.1=some .local\/(g.names.lookup y.1=some .cell/\((cellsFrom (s.heap.objs.size+1) g.names []).lookup y.1).isSome=true):=λ⟨n,v⟩ hy=>by
  rcases S.par n (kB hy).1 with q | q
  .exact .inl q
  .exact .inr ⟨q,PySem.W.cellsFrom_some _ _ _ (.inl q)⟩
 refine codeAny_call_function m.depth (F _ _ lk) rfl S.co S.gen rfl (PySem.W.codeRec_of F ac) (O _ _ _ _ ?_);refine wpAny_newFunctionEnv_cells S.kind c λL R G x=>?_
 subst R;refine⟨z.keeps x.toInCall.keep,codeAny_func ?_⟩;obtain⟨t,Z,Y⟩:=aa A j s H T Q E (m.deeper _) i;have I:Inv (uH CX P w K mg base N l g f p A j s H E) [] (qY N T) H G:=Z4 S m.hd h X r x;refine dD (Z [] G (qY N T) H _ I Y) (λM D d=>?_) λe D d=>d
 have fin:∀ {a:St} {U:Hp} {v:V} {u:Ac},Inv (uH CX P w K mg base N l g f p A j s H E) [] a U D->kM v u->Q v U->CE j P w H s Q u D :=
  λ{a U v u} J B q=>⟨v,U,J.os,J.bare,J.base,J.hok,B,q⟩
 cases M with
 | ret u =>
  obtain⟨v,a,U,J,B,q⟩:=d;exact fin J B q
 | next =>
  obtain⟨a,U,J,q⟩:=d;exact fin (v:=V.e) (u:=Value.none) J rfl q
 | brk =>
  obtain⟨_,_,_,q⟩:=d;exact False.elim q
 | cont =>
  obtain⟨_,_,_,q⟩:=d;exact False.elim q
section
variable {X:Cx}{id:String}
def Pu (r:Aa V->Hp->VK->Prop) (t:TA):TE:=λc H Q=>t c H λb a=>r b a Q
theorem sX (C:lX X (.builtin id) r) (J:Gl X x) (T:X.mg x=none) (hv:bootBuiltins x=some (.builtin id)) (o:PA X (e::l) t) (U:x ≠ "__name__" := by decide) (j:(x == ("__debug__" : Af))=false:=by decide)
  (g:StB X e l pos:=by exact {}):PE X (.Call (.Name x p) (e::l) [] pos) (Pu r t):=by
 intro c s d H Q I h;refine eQ (sQ I J T hv ?_ U j);exact PyProof.Rows.callWith_builtin1 (hO (o pos c s d H _ I h) λq n ⟨u,f,i,m,k⟩=>C c n d f u q Q i m k) g.a g.b
theorem He (C:lX X (.type T) r) (J:Gl X x) (U:X.mg x=none) (hv:bootBuiltins x=some (.type T)) (o:PA X (e::l) t) (hn:x ≠ "__name__" := by decide) (j:(x == ("__debug__" : Af))=false:=by decide)
  (g:StB X e l pos:=by exact {}):PE X (.Call (.Name x p) (e::l) [] pos) (Pu r t):=by
 intro c s d H Q I h;refine eQ (sQ I J U hv ?_ hn j);exact cN (hO (o pos c s d H _ I h) λq n ⟨u,f,i,m,k⟩=>C c n d f u q Q i m k) g.a g.b
end
end L2
namespace HT
open PySem PyProof.Rows
section
theorem cat_tup (J:IsTup s.heap t j.toArray) (I:IsTup s.heap b g.toArray) (o:j≠[])
  (r:g=[]->Q (.ref t) s) (C:g≠[]->Q (.ref s.heap.objs.size) { s with heap:=s.heap.push { cls:=.type "tuple",data:=.seq (j++g).toArray } })
  (l:j.length+g.length<=sizeLine):wpAny (model p w) A (binaryOp .Add (.ref t) (.ref b)) Q E s:=by
 obtain⟨⟨cls,m,data,v⟩,i,q,n,hd⟩:=id J;obtain⟨⟨k,c,data2,h⟩,a,d,u,f⟩:=id I;simp only at q hd d f;subst q hd d f;have e:j.toArray++g.toArray=(j++g).toArray:=by simp
 by_cases hw:g=[]
 .exact concat_meets ⟨_,i,rfl⟩ ⟨_,a,rfl⟩ noFill_tuple_add seq_tuple_add iN iI (hU _ _)
   (tuple_addW1 t b j.toArray g.toArray n u m c v h (by simpa using o) (by simp[hw])) ⟨i,a,r hw⟩
 .refine concat_meets ⟨_,i,rfl⟩ ⟨_,a,rfl⟩ noFill_tuple_add seq_tuple_add iN iI (hU _ _)
   (tuple_addW2 t b j.toArray g.toArray n u m c v h (by simpa using o) (by simpa using hw) (by rw[aP,aP];exact l)) ⟨i,a,?_⟩
  rw[e];exact C hw
noncomputable def sIx (n d:Nat):Ab Int->Nat
 | none=>d
 | some v=>if v<0 then (v+(n:Int)).toNat else min v.toNat n
theorem sIx_none (n d:Nat):sIx n d none=d:=rfl
theorem sIx_nat (n d k:Nat):sIx n d (some (k:Int))=min k n:=by
 show (if (k:Int)<0 then ((k:Int)+(n:Int)).toNat else min (k:Int).toNat n)=min k n;rw[bB (by omega),eD]
theorem sIx_le (n d:Nat) (hd:d<=n) (o:Ab Int):sIx n d o<=n:=by
 cases o with
 | none=>exact hd
 | some v =>
  show (if v<0 then (v+(n:Int)).toNat else min v.toNat n)<=n;by_cases a:v<0
  .rw[bA a];omega
  .rw[bB a];exact Nat.min_le_right _ _
theorem Na (v:Int) (n d:Nat):(if v<0 then max (v+(n:Int)) 0 else min v (n:Int))=((sIx n d (some v):Nat):Int):=by
 show (if v<0 then max (v+(n:Int)) 0 else min v (n:Int))=(((if v<0 then (v+(n:Int)).toNat else min v.toNat n):Nat):Int);by_cases a:v<0
 .simp only[bA a];omega
 .simp only[bB a];omega
theorem S3 (lo g:Ab Int) (n:Nat):Builtin.Slice.sliceAdjust lo g 1 (n:Int)=(((sIx n 0 lo:Nat):Int),((sIx n n g:Nat):Int)):=by
 have a:¬ ((1:Int)<0):=by omega
 unfold Builtin.Slice.sliceAdjust;simp only[a,eE];refine Prod.ext ?_ ?_
 .cases lo with
  | none=>rfl
  | some v=>exact Na v n 0
 .cases g with
  | none=>rfl
  | some v=>exact Na v n n
theorem Wz (i j:Nat):Builtin.Slice.slicePlaces (i:Int) (j:Int) 1=j-i:=by
 unfold Builtin.Slice.slicePlaces;have a:(1:Int)>0:=by omega
 simp only[a,eF,Int.ediv_one];split<;>omega
theorem Md (p:IsPart v o) (h:Q o s):wpAny (model g w) A (Builtin.Slice.slicePartIndex v) Q E s:=by
 cases p with
 | none=>exact slicePart_none h
 | int i t=>exact slicePart_int h
theorem U5 {p:Ad}{j l:Ac}{lo g:Ab Int}{n:Nat}{Q:Int×Int×Nat->Ae->Prop}(r:s.heap.IsSliceOf p j l .none) (C:IsPart j lo) (I:IsPart l g)
  (h:Q (((sIx n 0 lo:Nat):Int),1,sIx n n g-sIx n 0 lo) s):wpAny (model o w) A (Builtin.Slice.sliceApplied (.ref p) (pure (n:Int))) Q E s:=by
 obtain⟨os,b,c,a⟩:=id r;unfold Builtin.Slice.sliceApplied Builtin.Slice.sliceFields;refine aA (aA (dO b a (x:=j) rfl (aA (dO b a (x:=l) rfl (aA (dO b a (x:=.none) rfl (aD ?_)))))));refine aA (slicePart_none ?_);show wpAny _ _ (if ((1:Int) == 0)=true then _ else _) _ _ s;rw[bB (by decide)];refine aA (Md C (aA (Md I (aA (aD ?_)))));show wpAny _ _ (match Builtin.Slice.sliceAdjust lo g 1 (n:Int) with | (lo,g)=>pure (lo,(1:Int),Builtin.Slice.slicePlaces lo g 1)) _ _ s;rw[S3 lo g n];show wpAny _ _ (pure (((sIx n 0 lo:Nat):Int),(1:Int),Builtin.Slice.slicePlaces ((sIx n 0 lo:Nat):Int) ((sIx n n g:Nat):Int) 1)) _ _ s;rw[Wz];exact aD h
theorem DX (g:Array Ac) (i k:Nat):((List.range k).filterMap λ(m:Nat)=>g[((i:Int)+(m:Int)*1).toNat]?).toArray=((g.toList.drop i).take k).toArray:=by
 have e:(λ(m:Nat)=>g[((i:Int)+(m:Int)*1).toNat]?)=λm=>g[i+m]?:=by
  funext m
  have:((i:Int)+(m:Int)*1).toNat=i+m:=by omega
  rw[this]
 rw[e];have:=pick_run g i k;rw[List.filterMap_map] at this;have a:((λx=>g[x]?)∘λx=>i+x)=λm=>g[i+m]?:=rfl
 rw[a] at this;rw[this]
theorem getItem_tuple_cut {lo:Ab Int}(j:IsTup s.heap t items) (l:s.heap.IsSliceOf p J T .none) (C:IsPart J lo) (I:IsPart T g)
  (hw:¬ (sIx items.size 0 lo=0/\sIx items.size items.size g=items.size))
  (h:Q (.ref s.heap.objs.size) { s with heap:=s.heap.push { cls:=.type "tuple",data:=.seq ((items.toList.drop (sIx items.size 0 lo)).take (sIx items.size items.size g-sIx items.size 0 lo)).toArray } })
  (r:items.size<=sizeLine):wpAny (model o w) A (getItem (.ref t) (.ref p)) Q E s:=by
 have a:sizeOk (.seq ((items.toList.drop (sIx items.size 0 lo)).take (sIx items.size items.size g-sIx items.size 0 lo)).toArray):=by
  show ((items.toList.drop (sIx items.size 0 lo)).take (sIx items.size items.size g-sIx items.size 0 lo)).toArray.size<=sizeLine;rw[aP,bQ,eR,fW];omega
 have i:sIx items.size items.size g<=items.size:=sIx_le _ _ (aH _) g;obtain⟨os,e,c,f⟩:=id l;have b:s.TypeIs (.ref p) "slice" := ⟨os,e,c⟩;unfold getItem
 try with_reducible refine bJ ?_
 first | refine aA (aD ?_) | skip
 refine aA (wpAny_sequenceKey j.typeIs (by decide) ?_);refine aA (cP (name:=Str.ofString "__getitem__") j.typeIs fV (fE fV j.typeIs entry_tuple_getitem ?_ (args_tuple_getitem _ _)));show wpAny _ _ (Builtin.Tuple.tupleItemsOf (.ref t) >>= _) _ _ s;refine aA (tupleItemsOf_ j ?_);refine aA (eW b ?_);rw[bA (by decide)];refine aA (U5 l C I ?_);have d:¬ ((((sIx items.size 0 lo:Nat):Int) == 0&&(1:Int) == 1&&(sIx items.size items.size g-sIx items.size 0 lo) == items.size)=true):=by
  intro q;rw[bX,bX] at q;have k:((sIx items.size 0 lo:Nat):Int)=0:=eq_of_beq q.1.1;have n:sIx items.size items.size g-sIx items.size 0 lo=items.size:=eq_of_beq q.2;exact hw ⟨by omega,by omega⟩
 show wpAny _ _ (if (((sIx items.size 0 lo:Nat):Int) == 0&&(1:Int) == 1&&(sIx items.size items.size g-sIx items.size 0 lo) == items.size)=true then _ else _) _ _ s;rw[bB d,DX]
 first
  | exact aA (m:=Builtin.Tuple.tupleExact _) (eZ (aD ⟨_,rfl,aD h⟩) a)
  | exact aA (m:=Builtin.Tuple.tupleExact _) (eZ (aA (aD (aD ⟨_,rfl,aD h⟩))) a)
  | exact aA (aA (m:=Builtin.Tuple.tupleExact _) (eZ (aD (aD ⟨_,rfl,aD h⟩)) a))
  | exact aA (aA (m:=Builtin.Tuple.tupleExact _) (eZ (aD ⟨_,rfl,aD h⟩) a))
end
end HT
namespace L2
open PySem PySem.Spec PyProof.Rows
abbrev TO:=St->Hp->(Ab Int->Hp->Prop)->Prop
def PO (X:Cx) (e:Ab Expr) (t:TO):Prop :=
 ∀ (a:Aa (Ad×Obj)) (s:Ae) (b:St) (H:Hp) (Q:Ab Int->Hp->Prop),Inv X a b H s->t b H Q ->
  wpAny (model X.prog X.w) X.A (evalPart e X.env) (λu d=>∃ o c,Inv X a b c d/\IsPart u o/\Q o c) X.xe s
def Jn:TO:=λ_ H Q=>Q none H
def Lr (t:TE):TO:=λb H Q=>t b H λx a=>∃ i,x = .int i/\Q (some i) a
theorem U9:∀ {g:Aa Ac},kJ (j.map V.int) g->IntsAre g j:=by
 induction j with
 | nil=>intro g r;rw[jZ] at r;cases r;exact .nil
 | cons n j a =>
  intro g r;rw[aW] at r;cases r with
  | cons b c =>
   obtain⟨t,e⟩:=b;subst e;exact .cons n t (a c)
section
variable {X:Cx}{lo:Ab Expr}
theorem yW:PO X none Jn:=by
 intro a s b H Q I h;rw[evalPart_none];exact aD ⟨none,H,I,.none,h⟩
theorem xY (h:PE X e g):PO X (some e) (Lr g):=by
 intro a s m H Q I hw;rw[evalPart_some];refine hO (h a s m H _ I hw) λu n b=>?_
 obtain⟨x,c,d,k,f⟩:=b;obtain⟨i,rfl,q⟩:=f;obtain⟨t,rfl⟩:=k;exact⟨some i,c,d,.int i t,q⟩
def sU (X:Cx) (r:V->Ab Int->Ab Int->Hp->VK->Prop):Prop :=
 ∀ (a:Aa (Ad×Obj)) (s:Ae) (f:St) (H:Hp) (x:V) (v d e:Ac) (lo b:Ab Int) (c:Ad) (Q:VK),Inv X a f H s->kM x v->s.heap.IsSliceOf c d e .none->IsPart d lo->IsPart e b->r x lo b H Q ->
  ∃ T id,typeLookup (.type T) "__getitem__" = pure (some (.builtin id))/\s.TypeIs v T/\wpAny (model X.prog X.w) X.A (getItem v (.ref c)) (EP X a f Q) X.xe s
theorem sU.or (h:sU X r) (j:sU X l):sU X (λx lo g H Q=>r x lo g H Q\/l x lo g H Q):=by
 intro a s m H x v i k lo g f Q I e b c d q;rcases q with q | q
 .exact h a s m H x v i k lo g f Q I e b c d q
 .exact j a s m H x v i k lo g f Q I e b c d q
def Qg (r:V->Ab Int->Ab Int->Hp->VK->Prop) (g:TE) (o j:TO):TE:=λa H Q=>g a H λx b=>o a b λl c=>j a c λu d=>r x l u d Q
theorem zT (p:sU X r) (j:PE X e U) (o:PO X lo tl) (C:PO X g th):PE X (.Subscript e (.Slice lo g none J) pos) (Qg r U tl th):=by
 intro a s f H Q I h;refine Subscript_ (hO (j a s f H _ I h) λv R d=>?_);obtain⟨x,n,y,P,M⟩:=d;refine wpAny_Slice (hO (o a R f n _ y M) λi S ⟨l,t,z,K,N⟩=>hO (C a S f t _ z N) λk c d=>?_);obtain⟨u,m,B,L,O⟩:=d;rw[evalPart_none];refine aD ?_;have D:Inv X a f m { c with heap:=c.heap.push { cls:=.type "slice",data:=.fields #[i,k,.none] } }:=B.kept (t':=c.toks) λb V q=>aE _ q
 obtain⟨T,id,E,G,F⟩:=p a { c with heap:=c.heap.push { cls:=.type "slice",data:=.fields #[i,k,.none] } } f m x v i k l u c.heap.objs.size Q D P (Heap.IsSliceOf.new ..) K L O;show wpAny (model X.prog X.w) X.A (subscriptTail e (.Slice lo g none J) v (.ref c.heap.objs.size)) (EP X a f Q) X.xe { c with heap:=c.heap.push { cls:=.type "slice",data:=.fields #[i,k,.none] } };exact tail_any (ops:=[.ref c.heap.objs.size,v]) G E F (by with_unfolding_all rfl)
def rV (g:Aa V) (lo j:Ab Int):Aa V:=(g.drop (HT.sIx g.length 0 lo)).take (HT.sIx g.length g.length j-HT.sIx g.length 0 lo)
theorem Jf (g:Aa V) (lo j:Ab Int):(rV g lo j).length<=g.length:=by
 unfold rV;rw[bQ,eR];omega
def L5 (K:kG):V->Ab Int->Ab Int->Hp->VK->Prop:=λx lo c H Q=>∃ a b,x = .ref a/\lL K H a b /\
 ¬ (HT.sIx b.length 0 lo=0/\HT.sIx b.length b.length c=b.length)/\∀ p,H p=none->Q (.ref p) (upd H p (.t (rV b lo c)))
theorem DY:sU X (L5 X.K):=by
 intro m s F H x v D E lo e B Q I z n w y h;obtain⟨a,d,rfl,u,hw,q⟩:=h;cases z;obtain⟨f,r,i,k⟩:=I.tuple u;have c:f.toArray.size=d.length:=by rw[aP];exact r.length.symm
 refine⟨"tuple",_,fV.lookup,i.typeIs,?_⟩;refine HT.getItem_tuple_cut i n w y (by rw[c];exact hw) ?_ (by rw[c];exact k);rw[c];refine⟨.ref s.heap.objs.size,_,I.laid (t':=s.toks) (o:=.t (rV d lo e)) (λb A q=>aE _ q) (aH _) ?_,rfl,q _ (I.hok.fresh (aH _))⟩;exact⟨bM (Jf d lo e) k,_,(r.drop (HT.sIx d.length 0 lo)).take (HT.sIx d.length d.length e-HT.sIx d.length 0 lo),tE.new _ _⟩
def Og (K:kG):R2:=λx y H Q=>∃ a b d c,x = .ref a/\y = .ref b/\lL K H a d/\lL K H b c/\d≠[]/\d.length+c.length<=sizeLine /\
 (c=[]->Q (.ref a) H)/\(c≠[]->∀ p,H p=none->Q (.ref p) (upd H p (.t (d++c))))
theorem kJ.nil_iff (r:kJ j g):g=[]↔j=[]:=by
 cases r with
 | nil=>simp
 | cons _ _=>simp
theorem W6:lA X (binaryOp .Add) (Og X.K):=by
 intro i s P H x y v u Q I G L h;obtain⟨a,b,M,N,rfl,rfl,k,m,n,e,E,F⟩:=h;cases G;cases L;obtain⟨A,d,B,_⟩:=I.tuple k;obtain⟨f,c,D,_⟩:=I.tuple m;refine HT.cat_tup B D (λz=>n (d.nil_iff.mp z)) (λz=>⟨.ref a,H,I,rfl,E (c.nil_iff.mp z)⟩) (λz=>?_) (by rw[<- d.length,<- c.length];exact e);refine⟨.ref s.heap.objs.size,_,I.laid (t':=s.toks) (o:=.t (M++N)) (λb O q=>aE _ q) (aH _) ?_,rfl,F (λw=>z (c.nil_iff.mpr w)) _ (I.hok.fresh (aH _))⟩;exact⟨by rw[bC];exact e,_,d.append c,tE.new _ _⟩
end
noncomputable def pW (n:Nat) (i:Int):Ab Nat:=if 0<=i then (if i<n then some i.toNat else none) else if -(n:Int)<=i then some (i+n).toNat else none
def lQ {l:Type}(g:Aa l) (i:Int):Ab l:=(pW g.length i).bind λj=>g[j]?
theorem Pf (h:pW n i=some j):seqIndex? i n=some j/\j<n/\-(n:Int)<=i/\i<n:=by
 unfold pW at h;by_cases b:0<=i
 .rw[bA b] at h;by_cases a:i<n
  .rw[bA a] at h;have e:i.toNat=j:=bT h;exact⟨by rw[seqIndex_of b a,e],by omega,by omega,a⟩
  .rw[bB a] at h;cases h
 .rw[bB b] at h;by_cases a:-(n:Int)<=i
  .rw[bA a] at h;have e:(i+n).toNat=j:=bT h;exact⟨by rw[seqIndex_neg (by omega) a,e],by omega,a,by omega⟩
  .rw[bB a] at h;cases h
theorem E3 (h:lQ g i=some v):∃ j,seqIndex? i g.length=some j/\g[j]?=some v/\j<g.length/\-(g.length:Int)<=i/\i<g.length:=by
 unfold lQ at h;cases e:pW g.length i with
 | none=>rw[e] at h;cases h
 | some j =>
  rw[e] at h;obtain⟨a,b,c,d⟩:=Pf e;exact⟨j,a,h,b,c,d⟩
theorem pV {l:Type}{g:Aa l}{j:Nat}{v:l}(h:g[j]?=some v):lQ g (j:Int)=some v:=by
 have a:j<g.length:=(aK.mp h).1;have e:pW g.length (j:Int)=some j:=by
  unfold pW;rw[bA (by omega),bA (by omega)];simp
 unfold lQ;rw[e];exact h
def Hq (b:Expr):Prop:=∀ o i,subscripted b false o i=operate [o,i] (getItem o i)
def sC (X:Cx) (r:R2):Prop :=
 ∀ (value slice:Expr) (a:Aa (Ad×Obj)) (s:Ae) (b:St) (H:Hp) (x y:V) (v u:Ac) (Q:VK),Inv X a b H s->kM x v->kM y u->r x y H Q ->
  subscripted slice false v u=operate [v,u] (getItem v u)->wpAny (model X.prog X.w) X.A (subscriptTail value slice v u) (EP X a b Q) X.xe s
def zL (X:Cx) (id:String) (r:V->Aa V->Hp->VK->Prop):Prop :=
 ∀ (a:Aa (Ad×Obj)) (s:Ae) (d:St) (H:Hp) (x:V) (c:Aa V) (v:Ac) (b:Aa Ac) (Q:VK),Inv X a d H s->kM x v->kJ c b->r x c H Q ->
  wpAny (model X.prog X.w) X.A (call (.builtin id) (v::b)) (EP X a d Q) X.xe s
section
variable {X:Cx}
theorem sC.or (h:sC X r) (g:sC X j):sC X (λx y H Q=>r x y H Q\/j x y H Q):=by
 intro value slice a s e H x y v u Q I c d q b;rcases q with q | q
 .exact h value slice a s e H x y v u Q I c d q b
 .exact g value slice a s e H x y v u Q I c d q b
theorem pG (l:sC X r) (g:PE X a p) (j:PE X b C) (o:Hq b):PE X (.Subscript a b pos) (Bv r p C):=by
 intro c s m H Q I h;exact Subscript_ (Gh g j I h λv u k x y d e f i q=>l a b c k m d x y v u Q e f i q (o _ _))
def Lz (K:kG):R2:=λx y H Q=>∃ p a i v,x = .ref p/\y = .int i/\eT K H p a/\lQ a i=some v/\Q v H
def Ku (K:kG):R2:=λx y H Q=>∃ p a i v,x = .ref p/\y = .int i/\lL K H p a/\lQ a i=some v/\Q v H
def K6:R2:=λx y H Q=>∃ z i c,x = .str z/\y = .int i/\z.length<=sizeLine/\lQ z.cps.toList i=some c/\Q (.str ⟨#[c]⟩) H
theorem qZ:sC X (Lz X.K):=by
 intro value slice a s A H x y v u Q I M N h n;obtain⟨p,V,i,z,rfl,rfl,L,F,q⟩:=h;cases M;obtain⟨t,rfl⟩:=N;obtain⟨d,r,e,S⟩:=I.list L;obtain⟨j,b,B,P,D,E⟩:=E3 F;obtain⟨w,k,f⟩:=r.get B;have G:=r.length;have R:=wD;have fin:EP X a A Q w s:=⟨z,H,I,f,q⟩;by_cases m:0<=i
 .have c:i.toNat=j:=by
   rw[seqIndex_of m E] at b;exact bT b
  exact item_listR e.isList m (by omega) (by rw[c];simpa using k) fin n
 .have c:(i+(d.toArray.size:Int)).toNat=j:=by
   rw[seqIndex_neg (by omega) D] at b;rw[aP,<- G];exact bT b
  exact subscriptTail_builtinR (x:=w) e.isList.typeIs slot_list_getitem.lookup
   (wpAny_getItem_list_neg (Q:=λr O=>r=w/\EP X a A Q r O) e.isList (by omega) (by rw[aP]<;>omega) (by omega) (by rw[c];simpa using k) ⟨rfl,fin⟩) n
theorem Vt:sC X (Ku X.K):=by
 intro value slice a s d H x y v u Q I E F h B;obtain⟨p,R,i,z,rfl,rfl,A,m,q⟩:=h;cases E;obtain⟨t,rfl⟩:=F;obtain⟨D,r,c,P⟩:=I.tuple A;obtain⟨j,f,k,L,M,N⟩:=E3 m;obtain⟨w,e,b⟩:=r.get k;have n:=r.length;have O:=wD;have fin:EP X a d Q w s:=⟨z,H,I,b,q⟩;exact subscriptTail_builtinR (x:=w) c.typeIs slot_tuple_getitem.lookup
  (getItem_tuple (j:=j) (Q:=λr G=>r=w/\EP X a d Q r G) c (by omega) (by omega) (by rw[aP,<- n];exact f) (by simpa using e) ⟨rfl,fin⟩) B
theorem Cy:sC X K6:=by
 intro value slice b s L H x y v u Q I B D h A;obtain⟨z,i,c,rfl,rfl,G,n,q⟩:=h;obtain⟨t,rfl⟩:=B;obtain⟨K,rfl⟩:=D;obtain⟨j,a,f,E,k,m⟩:=E3 n;have w:z.cps.toList.length=z.length:=by simp[Str.length]
 rw[w] at a k m;have F:=wD;exact tail_any (typeIs_str s z t) slot_str_getitem.lookup (getItem_str (c:=c) (by
  have d:decide (i < -(2 ^ 63:Int))=false:=bS (by omega);have e:decide (i>=2 ^ 63)=false:=bS (by omega);rw[d,e,Bool.or_false]) (by rw[a];simpa using f) ⟨.str ⟨#[c]⟩,H,I.tok _,⟨_,rfl⟩,q⟩) A
def N1 (K:kG):R2:=λx y H Q=>Lz K x y H Q\/Ku K x y H Q\/K6 x y H Q
theorem Zc:sC X (N1 X.K):=qZ.or (Vt.or Cy)
theorem Vb (g:Aa Ac) (n j:Nat) (u:Ac):Obj.mapSeq (·.setIfInBounds j u) { cls:=.type "list",data:=.seq g.toArray n }={ cls:=.type "list",data:=.seq (g.set j u).toArray n }:=by
 simp[Obj.mapSeq]
theorem Inv.lst {j:Aa (Ad×Obj)}{C:St}{H:Hp}{s:Ae}{p:Ad}{o:Aa V}(I:Inv X j C H s) (h:H p=some (.l o)) :
  ∃ (g:Aa Ac) (n:Nat),kJ o g/\s.heap.get? p=some { cls:=.type "list",data:=.seq g.toArray n }/\o.length<=sizeLine:=by
 obtain⟨z,g,n,r,e⟩:=I.hok p _ h;exact⟨g,n,r,e,z⟩
theorem Inv.lstUpd {j:Aa Ac}(I:Inv X o σ H s) (h:H p=some (.l xs))
  (U:s.heap.get? p=some { cls:=.type "list",data:=.seq j.toArray n }) (C:f { cls:=.type "list",data:=.seq j.toArray n }={ cls:=.type "list",data:=.seq g.toArray J }) (r:kJ T g) (hz:T.length<=sizeLine) (t:Nat) :
  Inv X o σ (upd H p (.l T)) { s with heap:=s.heap.update p f,toks:=t }:=by
 have e:(s.heap.update p f).get? p=some { cls:=.type "list",data:=.seq g.toArray J }:=by
  rw[jB f U (by rw[C]<;>rfl),C]
 refine I.write (x:=p) (e:=p) (by rw[h];trivial) (.inl rfl) (λb u a q=>(iO _ _ (eC a)).trans q) ⟨_,e⟩ ?_;exact⟨hz,g,J,r,e⟩
def Pe:V->V->V->Hp->(Hp->Prop)->Prop:=λo i v H Q=>∃ p a k j,o = .ref p/\i = .int k/\H p=some (.l a)/\pW a.length k=some j/\Q (upd H p (.l (a.set j v)))
theorem C5:Ez X Pe:=by
 intro b s K H o i v O N u Q I E D F h;obtain⟨p,G,k,j,rfl,rfl,z,A,q⟩:=h;cases E;obtain⟨t,rfl⟩:=D;obtain⟨a,n,r,f,B⟩:=I.lst z;obtain⟨c,L,x,y⟩:=Pf A;have e:=r.length;have M:=wD;have m:Inv X b K (upd H p (.l (G.set j v))) { s with heap:=s.heap.update p (Obj.mapSeq (·.setIfInBounds j u)) } :=
  I.lstUpd z f (Vb a n j u) (r.set F j) (by rw[bH];exact B) s.toks
 by_cases w:0<=k
 .have d:k.toNat=j:=by
   rw[seqIndex_of w y] at c;exact bT c
  exact PySem.W.ki_setAt f w (by omega) (by rw[aP,<- e];exact y) (by rw[d];exact⟨_,m,q⟩)
 .have d:(k+(a.toArray.size:Int)).toNat=j:=by
   rw[seqIndex_neg (by omega) x] at c;rw[aP,<- e];exact bT c
  exact PySem.W.ki_setBack f (by omega) (by rw[aP,<- e];exact x) (by omega) (by rw[d];exact⟨_,m,q⟩)
theorem Rr (lo g:Ab Int) (n:Nat):(sliceBounds lo g none n).1=((HT.sIx n 0 lo:Nat):Int)/\(sliceBounds lo g none n).2.1=((HT.sIx n n g:Nat):Int)/\(sliceBounds lo g none n).2.2=1:=by
 refine⟨?_,?_,rfl⟩
 .cases lo with
  | none=>simp[sliceBounds,HT.sIx]
  | some i =>
   simp only[sliceBounds,HT.sIx,Option.getD_none,show (1:Int)>0 by decide,eF];by_cases h:i<0
   .simp only[h,eF]<;>omega
   .simp only[h,eE]<;>omega
 .cases g with
  | none=>simp[sliceBounds,HT.sIx]
  | some i =>
   simp only[sliceBounds,HT.sIx,Option.getD_none,show (1:Int)>0 by decide,eF];by_cases h:i<0
   .simp only[h,eF]<;>omega
   .simp only[h,eE]<;>omega
theorem Ws (g:Aa Ac) (lo j:Ab Int):slicePick g.toArray lo j none=((g.drop (HT.sIx g.length 0 lo)).take (HT.sIx g.length g.length j-HT.sIx g.length 0 lo)).toArray:=by
 obtain⟨a,b,c⟩:=Rr lo j g.toArray.size;unfold slicePick;rw[a,b,c];simp only[sliceRange_one,pick_run,aP]<;>rfl
def Mi (K:kG):V->Ab Int->Ab Int->Hp->VK->Prop:=λx lo c H Q=>∃ a b,x = .ref a/\eT K H a b/\∀ p,H p=none->Q (.ref p) (upd H p (.l (rV b lo c)))
theorem E7:sU X (Mi X.K):=by
 intro i s E H x v B D lo e A Q I y k u w h;obtain⟨a,c,rfl,m,q⟩:=h;cases y;obtain⟨t,r,f,n⟩:=I.list m;have d:=r.length;refine⟨"list",_,slot_list_getitem.lookup,f.isList.typeIs,?_⟩;refine wpAny_getItem_list_slice f.isList k u w .none (by simp) ?_ (by rw[aP]<;>omega);rw[Ws,<- d];refine⟨.ref s.heap.objs.size,_,I.laid (t':=s.toks) (o:=.l (rV c lo e)) (λb z q=>aE _ q) (aH _) ?_,rfl,q _ (I.hok.fresh (aH _))⟩;exact⟨bM (Jf c lo e) n,_,0,(r.drop (HT.sIx c.length 0 lo)).take (HT.sIx c.length c.length e-HT.sIx c.length 0 lo),aR _ rfl⟩
def oR:V->Bool
 | .e=>true
 | .b _=>true
 | .int _=>true
 | .str _=>true
 | _=>false
noncomputable def oF:V->V->Bool
 | .e,.e=>true
 | .b a,.b b=>a == b
 | .b a,.int b=>(if a then 1 else 0) == b
 | .int a,.b b=>a == (if b then 1 else 0)
 | .int a,.int b=>a == b
 | .str a,.str b=>a == b
 | _,_=>false
theorem Lg (l:kM y u) (g:kM x v) (o:oR y=true) (j:oR x=true):SeqAt.EqAt A s u v (oF y x):=by
 cases y with
 | e =>
  cases l;cases x with
  | e=>cases g;exact SeqAt.EqAt.same _
  | b b=>cases g;exact SeqAt.EqAt.none_bool b
  | int b=>obtain⟨t,rfl⟩:=g;exact SeqAt.EqAt.none_int b t
  | str b=>obtain⟨t,rfl⟩:=g;exact SeqAt.EqAt.none_str b t
  | _=>exact absurd (show false=true from j) aU
 | b a =>
  cases l;cases x with
  | e=>cases g;exact SeqAt.EqAt.bool_none a
  | b b=>cases g;exact SeqAt.EqAt.bool_bool a b
  | int b=>obtain⟨t,rfl⟩:=g;exact SeqAt.EqAt.bool_int a b t
  | str b=>obtain⟨t,rfl⟩:=g;exact SeqAt.EqAt.bool_str a b t
  | _=>exact absurd (show false=true from j) aU
 | int a =>
  obtain⟨c,rfl⟩:=l;cases x with
  | e=>cases g;exact SeqAt.EqAt.int_none a c
  | b b=>cases g;exact SeqAt.EqAt.int_bool a c b
  | int b=>obtain⟨t,rfl⟩:=g;exact SeqAt.EqAt.int_int a c b t
  | str b=>obtain⟨t,rfl⟩:=g;exact SeqAt.EqAt.int_str a c b t
  | _=>exact absurd (show false=true from j) aU
 | str a =>
  obtain⟨c,rfl⟩:=l;cases x with
  | e=>cases g;exact SeqAt.EqAt.str_none a c
  | b b=>cases g;exact SeqAt.EqAt.str_bool a c b
  | int b=>obtain⟨t,rfl⟩:=g;exact SeqAt.EqAt.str_int a c b t
  | str b=>obtain⟨t,rfl⟩:=g;exact SeqAt.EqAt.str_str a c b t
  | _=>exact absurd (show false=true from j) aU
 | _=>exact absurd (show false=true from o) aU
def pL (x:V) (u:Ac):Bool:=match u with
 | .none=>oF .e x
 | .bool b=>oF (.b b) x
 | .int i _=>oF (.int i) x
 | .str z _=>oF (.str z) x
 | _=>false
theorem Ni (r:kM y u) (f:oR y=true):pL x u=oF y x:=by
 cases y with
 | e=>cases r;rfl
 | b b=>cases r;rfl
 | int i=>obtain⟨t,rfl⟩:=r;rfl
 | str z=>obtain⟨t,rfl⟩:=r;rfl
 | _=>exact absurd (show false=true from f) aU
theorem zW:∀ {g:Aa V}{j:Aa Ac},kJ g j->g.all oR=true->j.any (pL x)=g.any λy=>oF y x
 | _,_,.nil,_=>rfl
 | y::g,u::j,.cons r t,f=>by
  rw[List.all_cons,bX] at f;rw[eX,eX,Ni r f.1,zW t f.2]
theorem xT (o:kM x v) (l:oR x=true):∀ {j:Aa V}{g:Aa Ac},kJ j g->j.all oR=true->∀ u∈g,SeqAt.EqAt A s u v (pL x u)
 | _,_,.nil,_=>λu a=>by cases a
 | y::j,u::g,.cons r t,f=>λb a=>by
  rw[List.all_cons,bX] at f;rcases aF.mp a with rfl | a
  .rw[Ni r f.1];exact Lg r o f.1 l
  .exact xT o l t f.2 b a
def qU (x:V) (g:Aa V):Bool:=g.any λy=>oF y x
def B7 (K:kG) (neg:Bool):R2:=λx y H Q=>∃ p a,y = .ref p/\(eT K H p a\/lL K H p a)/\oR x=true/\a.all oR=true/\Q (.b (if neg then !qU x a else qU x a)) H
theorem Z1:lA X (compareOp .In) (B7 X.K false):=by
 intro f s t H x y v u Q I i m h;obtain⟨p,n,rfl,c,e,fs,q⟩:=h;cases m;rcases c with c | c
 .obtain⟨a,r,d,k⟩:=I.list c;refine SeqAt.in_listAt (pL x) d.isList (λw hw=>xT i e r fs w (by simpa using hw)) ⟨.b _,H,I,rfl,?_⟩;rw[show a.toArray.any (pL x)=a.any (pL x) by simp,zW r fs];exact q
 .obtain⟨a,r,d,k⟩:=I.tuple c;refine SeqAt.in_tupleAt (pL x) d (λw hw=>xT i e r fs w (by simpa using hw)) ⟨.b _,H,I,rfl,?_⟩;rw[show a.toArray.any (pL x)=a.any (pL x) by simp,zW r fs];exact q
theorem CO:lA X (compareOp .NotIn) (B7 X.K true):=by
 intro f s t H x y v u Q I i m h;obtain⟨p,n,rfl,c,e,fs,q⟩:=h;cases m;rcases c with c | c
 .obtain⟨a,r,d,k⟩:=I.list c;refine SeqAt.notIn_listAt (pL x) d.isList (λw hw=>xT i e r fs w (by simpa using hw)) ⟨.b _,H,I,rfl,?_⟩;rw[show a.toArray.any (pL x)=a.any (pL x) by simp,zW r fs];exact q
 .obtain⟨a,r,d,k⟩:=I.tuple c;refine SeqAt.notIn_tupleAt (pL x) d (λw hw=>xT i e r fs w (by simpa using hw)) ⟨.b _,H,I,rfl,?_⟩;rw[show a.toArray.any (pL x)=a.any (pL x) by simp,zW r fs];exact q
theorem wM:lX X (.builtin "len") (λj H Q=>∃ p g,j=[.ref p]/\(eT X.K H p g\/lL X.K H p g)/\Q (.int g.length) H):=by
 intro f s t H j n Q I r h;obtain⟨p,g,rfl,b,q⟩:=h;obtain⟨u,rfl,k⟩:=nM r;cases k;have m:=wD;rcases b with b | b
 .obtain⟨c,e,d,i⟩:=I.list b;have a:=e.length;exact Calls.call_len_list d.isList (by simp only[aP]<;>omega) ⟨.int g.length,H,I.tok _,⟨s.toks+1,by rw[aP,a]⟩,q⟩
 .obtain⟨c,e,d,i⟩:=I.tuple b;have a:=e.length;exact len_tuple d (by simp only[aP]<;>omega) ⟨.int g.length,H,I.tok _,⟨s.toks+1,by rw[aP,a]⟩,q⟩
theorem Ol:lX X (.builtin "len") (λg H Q=>∃ z,g=[.str z]/\z.length<=sizeLine/\Q (.int z.length) H):=by
 intro a s e H g d Q I r h;obtain⟨z,rfl,c,q⟩:=h;obtain⟨u,rfl,t,rfl⟩:=nM r;have b:=wD;exact len_str (by omega) ⟨.int z.length,H,I.tok _,⟨_,rfl⟩,q⟩
theorem lX.or (h:lX X f r) (j:lX X f l):lX X f (λg H Q=>r g H Q\/l g H Q):=by
 intro a s d H g c Q I b q;rcases q with q | q
 .exact h a s d H g c Q I b q
 .exact j a s d H g c Q I b q
theorem wX:lX X (.type "tuple") (λj H Q=>∃ p g,j=[.ref p]/\((eT X.K H p g/\∀ l,H l=none->Q (.ref l) (upd H l (.t g)))\/(lL X.K H p g/\Q (.ref p) H))):=by
 intro a s x H j B Q I r h;obtain⟨p,g,rfl,h⟩:=h;obtain⟨u,rfl,A⟩:=nM r;cases A;rcases h with⟨f,q⟩ | ⟨f,q⟩
 .obtain⟨c,k,i,v⟩:=I.list f;have n:=k.length;refine call_tuple_list i.isList (λd z=>?_) (by simp only[aP]<;>omega);have m:Inv X a x H { s with heap:=d }:=I.kept (t':=s.toks) z;have y:Inv X a x (upd H d.objs.size (.t g)) { s with heap:=d.push { cls:=.type "tuple",data:=.seq c.toArray } } :=
   m.laid (t':=s.toks) (λb o e=>aE _ e) (aH _) (show mU X.prog X.w _ _ _ (.t g) from ⟨v,c,k,tE.new _ _⟩)
  exact⟨.ref d.objs.size,_,y,rfl,q _ (m.hok.fresh (aH _))⟩
 .obtain⟨c,k,i,v⟩:=I.tuple f;exact call_tuple_same i ⟨.ref p,H,I,rfl,q⟩
def A8 (K:kG) (T:String) (x:V) (H:Hp):Prop:=match x with
 | .str _=>T = "str"
 | .int _=>T = "int"
 | .ref p=>(T = "list" /\ ∃ b,eT K H p b)\/(T = "tuple" /\ ∃ o,K.lookup p=some o/\o.cls = .type "tuple" /\ o.dict=none) \/
   (T = "dict" /\ ((∃ a,H p=some (.k a))\/∃ a,H p=some (.T a)))\/(T = "set" /\ ∃ S n,H p=some (.set S n))
 | _=>False
theorem CP (I:Inv X j l H s) (r:kM x v) (ty:A8 X.K T x H) :
  s.TypeIs v T/\∀ a,v = .ref a->∃ g,s.heap.get? a=some g/\g.dict=none:=by
 cases x with
 | str z =>
  obtain⟨t,rfl⟩:=r;cases (show T = "str" from ty);exact⟨typeIs_str s z t,λ_ e=>nomatch e⟩
 | int i =>
  obtain⟨t,rfl⟩:=r;cases (show T = "int" from ty);exact⟨kA s i t,λ_ e=>nomatch e⟩
 | ref p =>
  cases r;rcases ty with⟨rfl,w,q⟩ | ⟨rfl,o,b,m,hd⟩ | ⟨rfl,b⟩ | ⟨rfl,S,n,b⟩
  .obtain⟨u,_,k,_⟩:=I.list q;refine⟨k.isList.typeIs,λa e=>?_⟩;cases e;obtain⟨o,n,e,c,hd,_⟩:=k;exact⟨o,e,hd⟩
  .refine⟨⟨o,I.kIn p o b,m⟩,λa e=>?_⟩;cases e;exact⟨o,I.kIn _ o b,hd⟩
  .have z:∃ o,s.heap.get? p=some o/\o.ExactDict:=by
    rcases b with⟨h,b⟩ | ⟨h,b⟩
    .obtain⟨_,_,_,_,o,_,_,e,d,_⟩:=I.hok p _ b;exact⟨o,e,d⟩
    .obtain⟨_,_,_,_,o,_,_,e,d,_⟩:=I.hok p _ b;exact⟨o,e,d⟩
   obtain⟨o,e,d⟩:=z;refine⟨⟨o,e,d.1⟩,λa f=>?_⟩;cases f;exact⟨o,e,d.2.1⟩
  .obtain⟨o,_,_,_,e,d,_⟩:=I.hok p _ b;refine⟨⟨o,e,d.1⟩,λa f=>?_⟩;cases f;exact⟨o,e,d.2.1⟩
 | _=>exact False.elim ty
def Lp (K:kG) (T:String) (r:V->Aa V->Hp->VK->Prop) (g:TE) (t:TA):TE:=λb H Q=>g b H λx a=>A8 K T x a/\t b a λd c=>r x d c Q
variable {id:String}
structure MtB (X:Cx) (o:Expr) (name:Str) (apos:Pos) (e:Expr) (es:List Expr) (cpos:Pos):Prop extends StB X e es cpos where
 c:attributeBase o name X.env (eval o X.env)=eval o X.env:=by rfl
 d:((backTo cpos (starEach (e::es) X.env)).all (λx=>!x.1)&&(backToKw cpos (keywordEach [] X.env)).all (λx=>x.1.isSome)&&decide ((e::es).length+([]:List Keyword).length+(if ([]:List Keyword).isEmpty then 0 else 1)<30))=true:=by rfl
 f:(apos.endLine == cpos.line)=true:=by rfl
theorem yO (pa:PlainAttrs T) (slot:Slot T name id) (p:typeOf (.builtin id)=pure (.type "method_descriptor")) (J:zL X id r) (U:PE X o to) (C:PA X (e::l) t)
  (j:MtB X o name apos e l g:=by exact {}) :
  PE X (.Call (.Attribute o name apos) (e::l) [] g) (Lp X.K T r to t):=by
 intro i s m H Q I h;refine wpAny_Call_method_late j.c j.d j.f rfl (hO (U i s m H _ I h) λv G k=>?_);obtain⟨x,w,n,u,ty,D⟩:=k;obtain⟨A,B⟩:=CP n u ty;refine⟨T,id,pa,slot,p,A,B,?_⟩;have q:=C g i G m w _ n D;rw[j.a] at q |-;refine Calls.callWith_builtin (by show (false||(backTo g (starEach l X.env)).any (·.1))=false;rw[j.b]<;>rfl) (Calls.evalArgs_plain ?_);exact hO q λM L ⟨N,y,z,F,E⟩=>J i L m y x N v M Q z u F E
/- xs.append(e),list.index on a module's tuple .. are zL facts of 06m -/
end
def Nw (X:Cx) (id:String) (r:V->Aa V->Hp->VK->Prop):Prop :=
 ∀ (a:Aa (Ad×Obj)) (s:Ae) (d:St) (H:Hp) (x:V) (c:Aa V) (v:Ac) (b:Aa Ac) (Q:VK),Inv X a d H s->kM x v->kJ c b->r x c H Q ->
  wpAny (model X.prog X.w) X.A (call (.builtin id) (v::b)) (EP X a d Q) X.xe s
theorem kJ.one:∀ {x:V}{g:Aa Ac},kJ [x] g->∃ u,g=[u]/\kM x u
 | _,_,.cons r .nil=>⟨_,rfl,r⟩
theorem kJ.eraseIdx:∀ {j:Aa V}{g:Aa Ac}(i:Nat),kJ j g->kJ (j.eraseIdx i) (g.eraseIdx i)
 | _,_,_,.nil=>.nil
 | _,_,0,.cons _ t=>t
 | _,_,i+1,.cons r t=>.cons r (kJ.eraseIdx i t)
theorem kJ.rep (h:kJ j g):∀ k:Nat,kJ (List.replicate k j).flatten (List.replicate k g).flatten
 | 0=>.nil
 | k+1=>by
  rw[bV,bV,fA,fA];exact kJ.append h (kJ.rep h k)
theorem J7:∀ (l:Aa g) (i:Nat),(l.eraseIdx i).length<=l.length
 | [],_=>aH _
 | _::_,0=>gS _
 | _::r,i+1=>Nat.succ_le_succ (J7 r i)
theorem Nf (j:Aa Ac):∀ (k:Nat) (g:Aa Ac),
  List.foldl (λl o=>l++o) g.toArray (List.replicate k j.toArray)=(g++(List.replicate k j).flatten).toArray
 | 0,g=>by simp
 | k+1,g=>by
  have e:g.toArray++j.toArray=(g++j).toArray:=by simp
  have a:(g++j)++(List.replicate k j).flatten=g++(List.replicate (k+1) j).flatten:=by
   rw[bV,fA,bD]
  rw[<- a,<- Nf j k (g++j),<- e,bV,fO]
section
variable {X:Cx}
theorem Inv.lset {g:Aa Ac}(I:Inv X j T H s) (p:H l=some (.l xs))
  (e:s.heap.get? l=some { cls:=.type "list",data:=.seq g.toArray n }) (r:f g.toArray=its'.toArray) (C:kJ o its') (J:o.length<=sizeLine) :
  Inv X j T (upd H l (.l o)) { s with heap:=s.heap.update l (Obj.mapSeq f),toks:=U }:=by
 have q:=PySem.IsL.update e f;rw[r] at q;refine I.write (x:=l) (e:=l) (by rw[p];exact trivial) (.inl rfl) (λc u a b=>(iO s.heap (Obj.mapSeq f) (eC a)).trans b) ⟨_,q⟩ ?_;exact⟨J,its',_,C,q⟩
theorem Inv.lnew (I:Inv X g p H s) (j:kJ ys its) (o:ys.length<=sizeLine) :
  Inv X g p (upd H s.heap.objs.size (.l ys)) { s with heap:=s.heap.push { cls:=.type "list",data:=.seq its.toArray },toks:=t' } :=
 I.laid (λ_ _ q=>aE _ q) (aH _) ⟨o,its,0,j,aR _ rfl⟩
theorem Inv.fresh (I:Inv X g j H s):H s.heap.objs.size=none:=I.hok.fresh (aH _)
theorem Inv.lstM (I:Inv X o C H s) (p:H l=some (.l j)):j.length<=sizeLine/\∃ (g:Aa Ac) (n:Nat),kJ j g/\j.length=g.length/\s.heap.get? l=some { cls:=.type "list",data:=.seq g.toArray n }:=by
 obtain⟨z,g,n,r,e⟩:=I.hok l _ p;exact⟨z,g,n,r,r.length,e⟩
theorem EJ (h:n<=sizeLine):Builtin.List.listTooLong n=false:=by
 unfold Builtin.List.listTooLong;exact bS (by omega)
end
section
variable {X:Cx}
def Iv:V->Aa V->Hp->VK->Prop:=λx b H Q=>∃ l a y,x = .ref l/\b=[y]/\H l=some (.l a)/\a.length<sizeLine/\Q .e (upd H l (.l (a++[y])))
theorem sV:Nw X "list.append" Iv:=by
 intro c s B H x w v t Q I i f h;obtain⟨l,A,y,rfl,rfl,b,m,q⟩:=h;cases i;obtain⟨u,rfl,d⟩:=f.one;obtain⟨z,a,n,r,k,e⟩:=I.lstM b;refine jT F.slot_list_append ⟨_,e,rfl⟩ F.entry_list_append (F.args_list_append_2 _ _) (PySem.list_append l a.toArray n u (by rw[aP];omega)) ⟨e,?_⟩;refine⟨.e,_,I.lset (its':=a++[u]) b e (by simp) (r.append (.cons d .nil)) ?_,rfl,q⟩;rw[bC,dP];omega
def ES:V->Aa V->Hp->VK->Prop:=λx d H Q=>∃ l b a c,x = .ref l/\d=[.ref b]/\H l=some (.l a)/\H b=some (.l c)/\a.length+c.length<=sizeLine/\Q .e (upd H l (.l (a++c)))
def CV:V->Aa V->Hp->VK->Prop:=λx b H Q=>∃ l a i k y,x = .ref l/\b=[.int i]/\H l=some (.l a)/\-(2 ^ 63)<=i/\i<2 ^ 63/\seqIndex? i a.length=some k/\a[k]?=some y/\Q y (upd H l (.l (a.eraseIdx k)))
theorem Z0:Nw X "list.pop" CV:=by
 intro d s O H x N v M Q I K G h;obtain⟨l,L,i,k,y,rfl,rfl,c,f,m,A,D,q⟩:=h;cases K;obtain⟨u,rfl,E⟩:=G.one;obtain⟨t,rfl⟩:=E;obtain⟨z,a,n,r,B,e⟩:=I.lstM c;obtain⟨w,hw,b⟩:=r.get D;refine jT F.slot_list_pop ⟨_,e,rfl⟩ F.entry_list_pop (F.args_list_pop_2 _ _)
  (MeetsSeq.list_pop_at l a.toArray n i t k w (fitsIndex_both f m) (by rw[aP,<- B];exact A) (by rw[<- eO];exact hw) (by rw[aP];omega)) ⟨e,?_⟩
 refine⟨y,_,I.lset (its':=a.eraseIdx k) c e ?_ (r.eraseIdx k) ?_,b,q⟩
 .show a.toArray.eraseIdxIfInBounds k=(a.eraseIdx k).toArray;rw[List.eraseIdxIfInBounds_toArray]
 .have:=J7 L k;omega
def Jy:R2:=λx y H Q=>∃ l b a c,x = .ref l/\y = .ref b/\H l=some (.l a)/\H b=some (.l c)/\a.length+c.length<=sizeLine/\∀ p,H p=none->Q (.ref p) (upd H p (.l (a++c)))
theorem zE:lA X (binaryOp .Add) Jy:=by
 intro d s M H x y v u Q I A B h;obtain⟨l,b,G,L,rfl,rfl,m,k,E,q⟩:=h;cases A;cases B;obtain⟨z,c,n,r,D,e⟩:=I.lstM m;obtain⟨K,a,F,w,t,f⟩:=I.lstM k;refine PySem.P.add_list e f ?_ (by rw[aP,aP];omega);have i:c.toArray++a.toArray=(c++a).toArray:=by simp
 rw[i];exact⟨.ref _,_,I.lnew (t':=s.toks) (r.append w) (by rw[bC];omega),rfl,q _ I.fresh⟩
def Lc:R2:=λx y H Q=>∃ l k a,x = .ref l/\y = .int k/\H l=some (.l a)/\-(2 ^ 63)<=k/\k<2 ^ 63/\a.length*k.toNat<=sizeLine /\
 ∀ p,H p=none->Q (.ref p) (upd H p (.l (List.replicate k.toNat a).flatten))
theorem AG (g:Aa j) (k:Nat):(List.replicate k g).flatten.length=k*g.length:=by
 induction k with
 | zero=>simp
 | succ k a=>rw[bV,fA,bC,a,Nat.succ_mul,Nat.add_comm]
theorem BC:lA X (binaryOp .Mult) Lc:=by
 intro E s W H x y v u Q I O P h;obtain⟨l,k,V,rfl,rfl,M,K,L,D,q⟩:=h;cases O;obtain⟨t,rfl⟩:=P;obtain⟨z,b,n,r,N,e⟩:=I.lstM M;have i:b.toArray.size*k.toNat<=sizeLine:=by rw[aP,<- N];exact D
 have d:¬ b.toArray.size*k.toNat>(2 ^ 63-1)/8:=by
  have:(sizeLine:Nat)<=(2 ^ 63-1)/8:=by decide
  omega
 have f:¬ (!Builtin.List.listFitsIndex k)=true:=by
  rw[fitsIndex_both K L];exact aU
 have c:¬ Builtin.List.listTooLong (b.toArray.size*k.toNat)=true:=by
  rw[EJ i];exact aU
 have w:List.foldl (λA B=>A++B) #[] (List.replicate (if b.toArray.isEmpty=true then 0 else k.toNat) b.toArray)=(List.replicate k.toNat b).flatten.toArray:=by
  have G:∀ m:Nat,List.foldl (λA B=>A++B) #[] (List.replicate m b.toArray)=(List.replicate m b).flatten.toArray:=λm=>by
   have:=Nf b m [];rw[jN] at this;exact this
  rw[G];cases b with
  | nil=>simp
  | cons a S=>rw[bB (by simp)]
 refine wpAny_binaryOp_repeat_ref (T := "list") (U := "int") (by decide) ⟨_,e,rfl⟩ (λR=>kA R k t) noFill_list_mul F.fills_int_mul F.slot_int_rmul repeat_list F.slot_int_index.lookup
  (jT F.slot_int_rmul (kA s k t) F.entry_int_rmul (F.args_int_rmul_2 _ _) (int___rmul___int_list k t l b.toArray n) ⟨e,rfl,⟨_,e,rfl⟩,jT F.slot_list_mul ⟨_,e,rfl⟩ F.entry_list_mul (F.args_list_mul_2 _ _) (AutoListH.list___mul___list_int_3 l b.toArray n k t f d c) ⟨e,?_⟩⟩)
 rw[w];exact⟨.ref _,_,I.lnew (t':=s.toks) (r.rep k.toNat) (by rw[AG,jQ];exact D),rfl,q _ I.fresh⟩
end
section
variable [DecidableEq κ]
noncomputable def pJ (g:Aa (κ×V)) (k:κ):Ab V:=(g.find? λa=>decide (a.1=k)).map (·.2)
noncomputable def oC (g:Aa (κ×V)) (k:κ) (v:V):Aa (κ×V) :=
 if (g.any λa=>decide (a.1=k))=true then g.map (λa=>if a.1=k then (a.1,v) else a) else g++[(k,v)]
theorem Co {p:κ×V}{r:Aa (κ×V)}{k:κ}(e:p.1=k):pJ (p::r) k=some p.2:=by simp[pJ,eK,e]
theorem Ba {p:κ×V}{r:Aa (κ×V)}{k:κ}(e:¬ p.1=k):pJ (p::r) k=pJ r k:=by simp[pJ,eK,e]
theorem P0 (k:κ):∀ g:Aa (κ×V),(g.any λj=>decide (j.1=k))=(pJ g k).isSome
 | []=>rfl
 | p::r=>by
  rw[eX];by_cases e:p.1=k
  .simp only[Co e,cV e,Bool.true_or,Option.isSome_some]
  .rw[Ba e,bS e,Bool.false_or];exact P0 k r
theorem Ha (g:Aa (κ×V)) (k:κ) (v:V):(oC g k v).length<=g.length+1:=by
 unfold oC;split
 .rw[aB];omega
 .rw[bC,cY,iB];omega
theorem qV.isSome_eq (r:qV o u):o.isSome=u.isSome:=by
 cases o with
 | none=>cases u with
  | none=>rfl
  | some _=>exact (show False from r).elim
 | some _=>cases u with
  | none=>exact (show False from r).elim
  | some _=>rfl
theorem qV.getD (r:qV o u) (rd:kM d g):kM (o.getD d) (u.getD g):=by
 cases o with
 | none=>cases u with
  | none=>exact rd
  | some _=>exact (show False from r).elim
 | some _=>cases u with
  | none=>exact (show False from r).elim
  | some _=>exact r
theorem KV.val (r:KV g j) (k:κ):qV (pJ g k) (valueAt j k):=by
 unfold KV at r;induction r with
 | nil=>exact True.intro
 | @cons p q m c h t i =>
  obtain⟨d,f⟩:=h;by_cases e:p.1=k
  .have a:q.1=k:=d.symm.trans e;have b:valueAt (q::c) k=some q.2:=by simp[valueAt,eK,a]
   rw[Co e,b];exact f
  .have a:¬ q.1=k:=λz=>e (d.trans z)
   have b:valueAt (q::c) k=valueAt c k:=by simp[valueAt,eK,a]
   rw[Ba e,b];exact i
theorem KV.any (r:KV j l) (k:κ):(j.any λg=>decide (g.1=k))=l.any λg=>decide (g.1=k):=by
 unfold KV at r;induction r with
 | nil=>rfl
 | cons h t a=>rw[eX,eX,a,h.1]
theorem KV.repl (r:KV j o) (k:κ) (l:kM y u) :
  KV (j.map λg=>if g.1=k then (g.1,y) else g) (o.map λg=>if g.1=k then (g.1,u) else g):=by
 unfold KV at r |-;induction r with
 | nil=>exact .nil
 | @cons p q d f h t c =>
  rw[aW,aW];refine .cons ?_ c;obtain⟨a,b⟩:=h;by_cases e:p.1=k
  .rw[bA e,bA (a.symm.trans e)];exact⟨a,l⟩
  .rw[bB e,bB (λz=>e (a.trans z))];exact⟨a,b⟩
theorem KV.put (r:KV g l) (k:κ) (j:kM y u):KV (oC g k y) (stored l k u):=by
 unfold oC stored;rw[r.any k];by_cases e:(l.any λa=>decide (a.1=k))=true
 .rw[bA e,bA e];exact r.repl k j
 .rw[bB e,bB e];exact Paired.snoc r ⟨rfl,j⟩
theorem KV.length (r:KV g j):g.length=j.length:=jY r
end
theorem vW {P:Ah}(r:kM (kV k) u):(nY P w).is k u=true:=by
 cases k with
 | inl i=>obtain⟨t,e⟩:=(show ∃ t,u=Value.int i t from r);subst e;exact AB P w i t
 | inr x=>obtain⟨t,e⟩:=(show ∃ t,u=Value.str x t from r);subst e;exact T1 P w x t
theorem Ji {P:Ah}:∀ {g:Aa hH}{j:Aa Ac},kJ (g.map kV) j->ItemsAre (nY P w) g j
 | [],_,r=>by rw[jZ] at r;cases r;exact .nil
 | k::g,_,r=>by
  rw[aW] at r;cases r with
  | cons h t=>exact .cons (vW h) (Ji t)
abbrev KT (H:Hp):Aa (Aa hH×V)->Aa (Aa hH×Ad×Ac)->Prop:=Paired λp q=>p.1=q.1/\H q.2.1=some (.t (p.1.map kV))/\kM p.2 q.2.2
theorem KT.val (r:KT H g j) (k:Aa hH):qV (pJ g k) ((atKey j k).map (·.2)):=by
 induction r with
 | nil=>exact True.intro
 | @cons p q m c h t i =>
  obtain⟨d,_,f⟩:=h;by_cases e:p.1=k
  .have a:q.1=k:=d.symm.trans e;have b:atKey (q::c) k=some q.2:=by simp[atKey,eK,a]
   rw[Co e,b];exact f
  .have a:¬ q.1=k:=λz=>e (d.trans z)
   have b:atKey (q::c) k=atKey c k:=by simp[atKey,eK,a]
   rw[Ba e,b];exact i
theorem KT.repl (r:KT H j o) (k:Aa hH) (l:kM y u) :
  KT H (j.map λg=>if g.1=k then (g.1,y) else g) (o.map (putAt k u)):=by
 induction r with
 | nil=>exact .nil
 | @cons p q f i h t d =>
  rw[aW,aW];refine .cons ?_ d;obtain⟨a,b,c⟩:=h;unfold putAt;by_cases e:p.1=k
  .rw[bA e,bA (a.symm.trans e)];exact⟨a,b,l⟩
  .rw[bB e,bB (λz=>e (a.trans z))];exact⟨a,b,c⟩
theorem KT.put (r:KT H g j) (k:Aa hH) (o:H b=some (.t (k.map kV))) (l:kM y u) :
  KT H (oC g k y) (storedH j k b u):=by
 have e:(g.any λa=>decide (a.1=k))=(atKey j k).isSome:=by
  rw[P0,(r.val k).isSome_eq,Option.isSome_map]
 unfold oC storedH;rw[e];by_cases q:(atKey j k).isSome=true
 .rw[bA q,bA q];exact r.repl k l
 .rw[bB q,bB q];exact Paired.snoc r ⟨rfl,o,l⟩
theorem KT.keeps (r:KT H g p) (o:∀ b j,H b=some (.t j)->l b=some (.t j)):KT l g p :=
 Paired.mapP r λ_ _ z=>⟨z.1,o _ _ z.2.1,z.2.2⟩
section
variable {P:Ah}
theorem J1 (ok:mF P w H h) (e:Rd H a u):mU P w H h a u:=e.ok ok
theorem uG (ok:mF P w H h) (e:Rd H a (.k g)):g.length<=sizeLine/\(a == sysModules)=false/\∃ j,KV g j/\h.DictOf (nY P w) a j :=
 show mU P w H h a (.k g) from J1 ok e
theorem zA (ok:mF P w H h) (e:H a=some (.k g)):g.length<=sizeLine/\(a == sysModules)=false/\∃ j,KV g j/\h.DictOf (nY P w) a j:=uG ok (.inl e)
theorem xP (ok:mF P w H h) (e:H a=some (.t (g.map kV))):(tupleKind (nY P w)).is h g a:=by
 obtain⟨_,b,r,⟨o,c,d,n,f⟩,_⟩:=(show mU P w H h a (.t (g.map kV)) from ok a _ e);exact⟨o,b.toArray,n,c,d,f,by simpa using Ji r⟩
theorem wQ (ok:mF P w H h) (e:Rd H a (.T g)):g.length<=sizeLine/\(a == sysModules)=false /\
  ∃ j,KT H g j/\h.DictOfH (tupleKind (nY P w)) a j:=by
 obtain⟨z,y,j,r,o,f,d,i,k,n,s,u⟩:=(show mU P w H h a (.T g) from J1 ok e);refine⟨z,y,j,r,o,f,d,i,k,n,s,λx b=>?_,u⟩;have all:∀ {l:Aa (Aa hH×V)} {m:Aa (Aa hH×Ad×Ac)},KT H l m->∀ x∈m,(tupleKind (nY P w)).is h x.1 x.2.1:=by
  intro l m q;induction q with
  | nil=>intro x b;exact nomatch b
  | @cons p q A B c t v =>
   intro x b;rcases aF.mp b with e | b
   .subst e;exact xP ok (by rw[<- c.1];exact c.2.1)
   .exact v x b
 exact all r x b
theorem Rm (ok:mF P w H h) (e:H a=some (.T g)):g.length<=sizeLine/\(a == sysModules)=false /\
  ∃ j,KT H g j/\h.DictOfH (tupleKind (nY P w)) a j:=wQ ok (.inl e)
end
def rO (H:Hp) (a:Ad) (y:V) (r:Ab V):Prop :=
 (∃ c k,Rd H a (.k c)/\y=kV k/\r=pJ c k)\/∃ c k b,Rd H a (.T c)/\y = .ref b/\H b=some (.t (k.map kV))/\r=pJ c k
def uF (H:Hp) (a:Ad) (y v:V) (g:Hp):Prop :=
 (∃ c k,H a=some (.k c)/\y=kV k/\c.length<sizeLine/\g=upd H a (.k (oC c k v))) \/
 ∃ c k b,H a=some (.T c)/\y = .ref b/\H b=some (.t (k.map kV))/\c.length<sizeLine/\g=upd H a (.T (oC c k v))
theorem rO.k {k:hH}(e:H a=some (.k g)):rO H a (kV k) (pJ g k):=.inl ⟨g,k,.inl e,rfl,rfl⟩
theorem uF.k {k:hH}(e:H a=some (.k g)) (j:g.length<sizeLine):uF H a (kV k) v (upd H a (.k (oC g k v))):=.inl ⟨g,k,e,rfl,j,rfl⟩
theorem uF.t {H:Hp}{a b:Ad}{g:Aa (Aa hH×V)}{k:Aa hH}{v:V}(e:H a=some (.T g)) (j:H b=some (.t (k.map kV))) (l:g.length<sizeLine) :
  uF H a (.ref b) v (upd H a (.T (oC g k v))):=.inr ⟨g,k,b,e,rfl,j,l,rfl⟩
section
variable {X:Cx}
theorem Inv.big (I:Inv X g j H s):sysModules<s.heap.objs.size:=by
 have h:mainGlobals<s.heap.objs.size:=(I.mod.glob.keeps I.bk).lt;exact Nat.lt_trans (by decide) h
theorem U8 (T:A.units+1<cLine) (I:Inv X r U H s) (g:rO H a y (some v)) (C:kM y u) (h:∀ j J,Inv X r U H J->kM v j->Q j J) :
  wpAny (model X.prog X.w) A (getItem (.ref a) u) Q E s:=by
 rcases g with⟨m,k,e,f,l⟩ | ⟨m,k,b,e,f,n,l⟩
 .subst f;obtain⟨z,hd,t,rel,d⟩:=uG I.hok e;obtain⟨j,hw,c⟩:=qV.some_of (v:=v) (o:=valueAt t k) (by rw[l];exact rel.val k);exact wpAny_getItem_of (vW C) d.mapOf hw (h j _ (I.tok _) c)
 .subst f;cases (show u=Value.ref b from C);obtain⟨z,hd,x,rel,d⟩:=wQ I.hok e;obtain⟨j,hw,c⟩:=qV.some_of (v:=v) (o:=(atKey x k).map (·.2)) (by rw[l];exact rel.val k);obtain⟨p,q,i⟩:=cB.mp hw;refine wpAny_getItem_heap (iF T) (xP I.hok n) d q ?_;rw[i];exact h j _ (I.tok _) c
theorem Xu (C:A.units+1<cLine) (I:Inv X j J H s) (g:rO H a y o) (p:kM y u) (h:∀ r,Inv X j J H r->Q (.bool (!o.isSome)) r) :
  wpAny (model X.prog X.w) A (compareOp .NotIn u (.ref a)) Q E s:=by
 rcases g with⟨f,k,e,d,l⟩ | ⟨f,k,b,e,d,i,l⟩
 .subst d;obtain⟨z,hd,m,rel,c⟩:=uG I.hok e;refine wpAny_notIn_of (vW p) hd c.mapOf ?_;rw[<- (rel.val k).isSome_eq,<- l];exact h _ (I.tok _)
 .subst d;cases (show u=Value.ref b from p);obtain⟨z,hd,n,rel,c⟩:=wQ I.hok e;refine wpAny_notIn_heap (iF C) (xP I.hok i) hd c ?_;have q:=(rel.val k).isSome_eq;rw[Option.isSome_map] at q;rw[<- q,<- l];exact h _ (I.tok _)
theorem Lv (I:Inv X g C H s) (r:xU (H a)) (p:Heap.SameBut a s.heap j) (o:∃ q,j.get? a=some q) (new:mU X.prog X.w (upd H a l) j a l) :
  Inv X g C (upd H a l) { s with heap:=j,toks:=J } :=
 I.write (x:=a) (e:=a) r (.inl rfl) (λb q c z=>(p.2 b c).trans z) o new
theorem At {P:Ah}(z:g.length<=sizeLine) (hd:(a == sysModules)=false) (rel:KV g j) (l:o.DictOf (nY P w) a j) :
  mU P w p o a (.k g):=⟨z,hd,j,rel,l⟩
theorem Uv (T:A.units+1<cLine) (I:Inv X j U H s) (g:uF H a y v J) (p:kM y u) (o:kM v r) (h:∀ C,Inv X j U J C->Q () C) :
  wpAny (model X.prog X.w) A (setItem (.ref a) u r) Q E s:=by
 rcases g with⟨d,k,e,t,l,n⟩ | ⟨d,k,b,e,t,F,l,n⟩
 .subst t n;obtain⟨z,hd,V,rel,m⟩:=zA I.hok e;have D:V.length<=sizeLine:=by rw[<- rel.length];exact z
  have x:(oC d k v).length<=sizeLine:=by have:=Ha d k v;omega
  refine wpAny_setItem_pairs (hsz:=D) (vW p) m λK f B=>h _ ?_
  have S:∃ q,K.get? a=some q:=let ⟨q,_,_,i,_⟩:=f;⟨q,i⟩;exact Lv I (by rw[e];exact True.intro) B S (At x hd (rel.put k o) f)
 .subst t n;cases (show u=Value.ref b from p);obtain⟨z,hd,W,rel,m⟩:=Rm I.hok e;have D:W.length<=sizeLine:=by rw[<- jY rel];exact z
  have x:(oC d k v).length<=sizeLine:=by have:=Ha d k v;omega
  refine wpAny_setItem_heap (hsz:=D) (iF T) (xP I.hok F) m λK f B=>h _ ?_
  obtain⟨q,M,L,i,N,O,P,_,R⟩:=f;refine Lv I (by rw[e];exact True.intro) B ⟨q,i⟩ ⟨x,hd,_,(rel.put k F o).keeps λc Y G=>?_,q,M,L,i,N,O,P,R⟩;rw[kK (To G e (λz=>nomatch z))];exact G
end
section
variable {X:Cx}
theorem U3 (I:Inv X g o H s) (e:Rd H a (.k j)) (h:∀ t l,Inv X g o H l->Q (.int j.length t) l):wpAny (model X.prog X.w) A (call (.builtin "len") [.ref a]) Q E s:=by
 obtain⟨z,hd,c,rel,b⟩:=uG I.hok e;refine call_len_dict hd b (by rw[<- rel.length];rw[sizeLine_eq] at z;omega) ?_;rw[<- rel.length];exact h _ _ (I.tok _)
end
theorem Ox {X:Cx}(I:Inv X j l H s) (g:rO H a y o):s.TypeIs (.ref a) "dict" := by
 rcases g with⟨d,k,e,_,_⟩ | ⟨d,k,b,e,_,_,_⟩
 .obtain⟨_,_,f,_,c⟩:=uG I.hok e;exact c.typeIs
 .obtain⟨_,_,h,_,c⟩:=wQ I.hok e;exact c.typeIs
theorem Ys {P:Ah}(h:Ag) (g:sysModules<h.objs.size):mU P w H (h.push { cls:=.type "dict",data:=.dict #[] }) h.objs.size (.k []) :=
 ⟨cU _,eI.mpr (eC (aX g)),[],.nil,Heap.DictOf.new h⟩
def V5:TE:=λ_ H Q=>∀ p,H p=none->Q (.ref p) (upd H p (.k []))
section
variable {X:Cx}
theorem Q8:PE X (.Dict [] [] pos) V5:=λb s c H Q I h =>
 wpAny_Dict_empty ⟨.ref s.heap.objs.size,_,I.laid (a:=s.heap.objs.size) (o:=.k []) (t':=s.toks) (λ_ _ q=>aE _ q) (aH _) (Ys s.heap I.big),rfl,h _ (I.hok.fresh (aH _))⟩
end
def pM (g more:Aa (hH×V)):Aa (hH×V):=more.foldl (λa b=>oC a b.1 b.2) g
theorem KV.merge:∀ {more:Aa (hH×V)}{l:Aa (hH×Ac)}{g:Aa (hH×V)}{j:Aa (hH×Ac)},KV more l->KV g j->KV (pM g more) (merged j l):=by
 intro more l g j r;unfold KV at r;induction r generalizing g j with
 | nil=>intro q;exact q
 | @cons p q c d h t a =>
  intro b;have e:KV (oC g p.1 p.2) (stored j q.1 q.2):=by
   have:=b.put p.1 h.2;rw[<- h.1];exact this
  exact a e
theorem Ic:∀ (more g:Aa (hH×V)),(pM g more).length<=g.length+more.length
 | [],g=>by show g.length<=g.length+0;omega
 | p::r,g=>by
  have a:=Ic r (oC g p.1 p.2);have b:=Ha g p.1 p.2;show (pM (oC g p.1 p.2) r).length<=_;rw[cY];omega
structure M2 (X:Cx) (o:Expr) (m:Str) (apos:Pos) (e f:Expr) (cpos:Pos):Prop where
 base:attributeBase o m X.env (eval o X.env)=eval o X.env
 few:((backTo cpos (starEach [e,f] X.env)).all (λx=>!x.1)&&(backToKw cpos (keywordEach [] X.env)).all (λx=>x.1.isSome) && decide (([e,f]:List Expr).length+([]:List Keyword).length+(if ([]:List Keyword).isEmpty then 0 else 1)<30))=true
 line:(apos.endLine == cpos.line)=true
 trees:backTo cpos (starEach [e,f] X.env)=[(false,eval e X.env),(false,eval f X.env)]
def Fp (H:Hp) (a:Ad):Prop:=(∃ b,Rd H a (.k b))\/∃ b,Rd H a (.T b)
theorem Tp {X:Cx}(I:Inv X j l H s) (d:Fp H a) :
  s.TypeIs (.ref a) "dict" /\ (∀ b,Value.ref a = .ref b->∃ g,s.heap.get? b=some g/\g.dict=none)/\(a == sysModules)=false:=by
 rcases d with⟨i,e⟩ | ⟨i,e⟩
 .obtain⟨_,hd,k,_,c⟩:=uG I.hok e;refine⟨c.typeIs,λb q=>?_,hd⟩;cases q;obtain⟨g,_,_,f,h,_⟩:=c;exact⟨g,f,h.2.1⟩
 .obtain⟨_,hd,m,_,c⟩:=wQ I.hok e;refine⟨c.typeIs,λb q=>?_,hd⟩;cases q;obtain⟨g,_,_,f,h,_⟩:=c;exact⟨g,f,h.2.1⟩
section
variable {X:Cx}
theorem Su (T:A.units+1<cLine) (I:Inv X j U H s) (g:rO H a y o) (p:kM y u) (rd:kM d r) (h:∀ J C,Inv X j U H C->kM (o.getD d) J->Q J C) :
  wpAny (model X.prog X.w) A (call (.builtin "dict.get") [.ref a,u,r]) Q E s:=by
 rcases g with⟨i,k,e,f,l⟩ | ⟨i,k,b,e,f,m,l⟩
 .subst f;obtain⟨z,hd,q,rel,c⟩:=uG I.hok e;refine call_meetsIn jC c.typeIs PySem.F.entry_dict_get (PySem.F.args_dict_get_3 _ _ _) (meets_dict_get_default (nY X.prog X.w) a (vW p) hd r) ⟨_,c.mapOf,h _ _ (I.tok _) ?_⟩;rw[l];exact (rel.val k).getD rd
 .subst f;cases (show u=Value.ref b from p);obtain⟨z,hd,n,rel,c⟩:=wQ I.hok e;refine call_meetsIn jC c.typeIs PySem.F.entry_dict_get (PySem.F.args_dict_get_3 _ _ _) (meetsH_dict_get_default (tupleKind (nY X.prog X.w)) a b hd r) ⟨iF T,k,n,xP I.hok m,c,h _ _ (I.tok _) ?_⟩;rw[l];exact (rel.val k).getD rd
end
def Zf (g ty j:TE):TE:=λb H Q=>g b H λx c=>∃ a,x = .ref a/\Fp c a/\ty b c λy e=>j b e λz d=>∃ o,rO d a y o/\Q (o.getD z) d
section
variable {X:Cx}
theorem AM (C:X.A.units+1<cLine) (r:PE X o J) (l:PE X e ty) (p:PE X f T) (m:M2 X o "get" apos e f j):PE X (.Call (.Attribute o "get" apos) [e,f] [] j) (Zf J ty T):=by
 intro b s k H Q I h;refine wpAny_Call_method m.base m.few m.line PySem.F.plainAttrs_dict jC PySem.F.type_dict_get (hO (r b s k H _ I h) λu P c=>?_);obtain⟨x,q,n,M,a,E,d,G⟩:=c;subst E;obtain rfl:u=Value.ref a:=M;obtain⟨S,V,_⟩:=Tp n d;refine⟨S,V,?_⟩;rw[m.trees];refine Calls.callWith_builtin rfl (Calls.evalArgs_plain (iE (hO (l b P k q _ n G) λY R ⟨y,t,w,N,K⟩ =>iE (hO (p b R k t _ w K) λW U ⟨z,v,B,O,Z,g,L⟩=>Calls.spliced_nil ?_))));exact Su C B g N O λw' s4 D i=>⟨_,v,D,i,L⟩
end
section
variable {X:Cx}
theorem Xf (I:Inv X j r H s) (e:Rd H a (.k g)) (h:∀ p l,H p=none->Inv X j r (upd H p (.k g)) l->Q (.ref p) l):wpAny (model X.prog X.w) A (call (.type "dict") [.ref a]) Q E s:=by
 obtain⟨z,hd,n,rel,f⟩:=uG I.hok e;refine kt_call_dict hd f (by rw[<- rel.length];exact z) λm c i=>?_
 refine h _ _ (I.hok.fresh (aH _)) (I.laid (a:=s.heap.objs.size) (o:=.k g) (t':=s.toks) (λb q d=>?_) (aH _) (At z (eI.mpr (eC (aX I.big))) rel c));exact (i.2 b (aX (aM d))).trans (aE _ d)
end
end L2
namespace Att
open PySem PySem.W PySem.Calls PyProof.Rows
theorem Y3 {P:Params}:∀ (g:Aa Int) (j:Aa Ac),WellAll P h j (g.map WData.int)->IntsAre j g:=by
 intro g;induction g with
 | nil =>
  intro j w;rw[jZ] at w;cases w;exact .nil
 | cons n g c =>
  intro j w;rw[aW] at w;cases w with
  | cons a b =>
   cases a;exact .cons _ _ (c _ b)
theorem Zj {l:OpenLaw}(I:l.most=some n){P:Params}
  (j:l.row.toRowW.claim.pre args=true) (p:WellAll P h o args) :
  ∃ a C g,o=[Value.ref a]/\args=[WData.list (g.map WData.int)]/\h.get? a=some { cls:=.type "list",data:=.seq C.toArray }/\IntsAre C g/\g.length<=n:=by
 have i:WShape.hasAll [] args [.list .int]=true:=(pre_splitW j).1;have k:l.pre.holds [] { args:=args }=true:=(pre_splitW j).2;obtain⟨d,r,rfl,m,s⟩:=hasAllW_cons i;obtain rfl:=hasAllW_nil s;obtain⟨y,rfl,t⟩:=hasW_list m;obtain⟨g,rfl⟩:=items_int t;have c:g.length<=n:=by
  unfold OpenLaw.pre at k;have e:(WTm.not (.lt (.lit (.int (n:Int))) (.len (.arg 0)))).holds [] { args:=[.list (g.map .int)] }=true:=by
   have e:=(holds_andW k).1;rw[I] at e;exact e
  have f:=condW_of e (w_not (w_lt w_lit (w_len_list (w_arg rfl))));rw[aB] at f;refine Nat.le_of_not_lt λq=>?_
  have v:(n:Int)<((g.length:Nat):Int):=by omega
  first
   | (rw[cV v] at f;exact absurd f (by decide))
   | (simp at f;omega)
 cases p with
 | cons w x =>
  cases x;cases w with
  | list u b=>exact⟨_,_,g,rfl,rfl,u,Y3 g _ b,c⟩
theorem DB (l:OpenLaw) (args:Aa WData):l.row.toRowW.claim.post args (.bool true) args=true :=
 postW_of (r:=l.row.toRowW) (X:=(true == true))
  (show WShape.has [] (.bool true) .bool=true by first | rfl | decide | simp[WShape.has,WShape.arms,WShape.armsAll])
  (show (WTm.eq .res (.lit (.bool true))).value [] { args:=args,res:=some (.bool true),after:=args }=some (.bool (true == true)) from w_eq_bool (w_res rfl) w_lit) rfl
theorem attach_call {l:OpenLaw}
  (hn:l.most=some n) (aa:d.params.defaults=[])
  (call:∀ (w:World) (j g:Ae) (T mb:Af->Ab Ac) (J:Ad) (o:Obj) (pm cd p:Ac) (a:Ad) (I:Aa Ac) (U:Aa Int),Ground q C [] XP w j T mb g.heap->YP w g.heap ->g.heap.get? J=some o->o.data = .func (docDef d.name d.params d.body d.scope pm cd p)->g.heap.CodeRec cd d.name->T d.name=some (.ref J) ->g.heap.get? a=some { cls:=.type "list",data:=.seq I.toArray }->IntsAre I U->U.length<=n->g.gens=#[] ->
   codeAny (model l.prog w) callerA (.call (.ref J) ⟨[.ref a],[]⟩) (λr s'=>r = .ok (.ret (.bool true))/\OldK g.heap s'.heap/\s'.os=g.os/\AllBare s'.gens) g) :
  WalkO q C XP YP l.row.toRowW d [] (λf I=>PySem.call f I):=by
 intro w j g T mb G Y J o pm cd p v kV E hd i s k A args u as h t H m B;obtain rfl:v = .none:=Dflts.none s aa;obtain rfl:kV = .none:=Dflts.noKw s;obtain⟨a,I,U,rfl,rfl,e,b,c⟩:=Zj hn h m;refine enter_call (codeAny_mono (call w j g T mb J o pm cd p a I U G Y E (fd_plain hd) i k e b c A) λr s' F=>?_);obtain⟨rfl,x,y,z⟩:=F;exact⟨.inl ⟨.bool true,.bool true,[],rfl,λ_=>rfl,.bool true,DB l _,λ_=>⟨List.Pairwise.nil,λ_ D=>(nomatch D)⟩⟩,x,y,z⟩
end Att
namespace L2
open PySem PySem.Spec PyProof.Rows
theorem Jh:∀ {j:Aa Ac}{g:Aa Int},IntsAre j g->kJ (g.map V.int) j
 | _,_,.nil=>.nil
 | _,_,.cons n t h=>.cons ⟨t,rfl⟩ (Jh h)
def Fd (H:Hp):Prop:=∀ b,H b=none\/∃ o a,H b=some (.frz o (.l a))
theorem Vv {P:Ah}{K:kG}
  (KX:K.In g.heap) (T:g.heap.Ns mainGlobals mg) (j:g.heap.Ns builtinsNs mb) (ab:∀ x:Af,x ≠ "__name__" -> mb x=bootBuiltins x) (J:g.heap.NoLimit) (hg:g.gens=#[])
  (U:g.heap.get? a=some { cls:=.type "list",data:=.seq I.toArray }) (hi:IntsAre I ns) (hl:ns.length<=sizeLine) (hr:Room k callerA)
  (F:∀ base:Ag,K.In base->base.Ns mainGlobals mg->FnOk P w K mg base CX k fa fd [x] sp) (C:∀ (s:Ae) (u:Ac),BindsTo s fd ⟨[u],[]⟩ [(x,u)])
  (ac:∀ H:Hp,Fd H->eT K H a (ns.map V.int)->sp [.ref a] H (λv _=>v = .b true) λ_ _ _=>False)
  (aa:∀ H e p,CX [] H g (λ_ _ _=>False) e p->False) :
  codeAny (model P w) callerA (.call (.ref fa) ⟨[.ref a],[]⟩) (λr p=>r = .ok (.ret (.bool true))/\OldK g.heap p.heap/\p.os=g.os/\AllBare p.gens) g:=by
 have R:=Jh hi;have D:=hi.length;have core:∀ H:Hp,Fd H->eT K H a (ns.map V.int)->mF P w H g.heap->(∀ b,H b≠none->b=a)->(H a≠none->K.lookup a=none) ->
   codeAny (model P w) callerA (.call (.ref fa) ⟨[.ref a],[]⟩) (λr p=>r = .ok (.ret (.bool true))/\OldK g.heap p.heap/\p.os=g.os/\AllBare p.gens) g:=by
  intro H Q hS A O hK;have c:∀ {b:Ad} {o:Obj},g.heap.get? b=some o->H b=none->(tK g.heap H).get? b=some o:=λe n=>Yo e n
  have M:∀ {b:Ad} {o:Obj} {t:Array DictEntry} {i:Nat},g.heap.get? b=some o->o.data = .dict t i->H b=none:=λ{b o t i} e d=>by
   cases q:H b with
   | none=>rfl
   | some u =>
    have G:b=a:=O b (by rw[q];simp);subst G;rw[U] at e;cases e;have S:Data.seq I.toArray _=Data.dict t i:=d;cases S
  have f:∀ {b:Ad} {m:Af->Ab Ac},g.heap.Ns b m->(tK g.heap H).Ns b m:=λ{b m} ⟨o,t,i,e,d,r⟩=>⟨o,t,i,c e (M e d),d,r⟩
  have y:K.In (tK g.heap H):=λb o e=>c (KX b o e) (by
   cases q:H b with
   | none=>rfl
   | some u =>
    have G:b=a:=O b (by rw[q];simp);subst G;rw[hK (by rw[q];simp)] at e;cases e)
  have hM:Mod K mg (tK g.heap H):=⟨y,f T,⟨mb,f j,ab⟩,let ⟨mc,Z,h2⟩:=J;⟨mc,f Z,h2⟩⟩;have W:Env0 P w K mg (tK g.heap H) callerA [] g H:=⟨rfl,hM,λb o e=>BX e,Nat.le_of_eq (DQ _ _),trivial,λb j=>absurd (show b∈([]:Aa Ad) from j) (by simp),A,.of_eq hg⟩;refine codeAny_mono ((F _ y (f T)).run callerA [] g H ⟨[.ref a],[]⟩ [.ref a] [.ref a] _ _ hr W (C g (.ref a)) (.cons rfl .nil) (ac H Q hS)) λr p h=>?_
  cases r with
  | error e=>exact (aa H e p h).elim
  | ok Y =>
   cases Y with
   | next=>exact False.elim h
   | brk=>exact False.elim h
   | cont=>exact False.elim h
   | ret u =>
    obtain⟨v,H',os,bare,un,B,r',q⟩:=h;have q':v = .b true:=q;subst q';obtain rfl:u=Value.bool true:=r';refine⟨rfl,OldK.of_keep λb o e=>?_,os,bare⟩;cases q:H b with
    | none=>exact un.keep b o e q (by intro z;exact absurd (show b∈([]:Aa Ad) from z) (by simp)) (by simp)
    | some u =>
     rcases Q b with z | ⟨ob,xs,z⟩
     .rw[q] at z;cases z
     .have z2:=un.frzs b ob _ z;obtain⟨N,_⟩:=A b _ z;obtain⟨X,_⟩:=B b _ z2;rw[e] at N;cases N;exact X
 cases L:K.lookup a with
 | some o =>
  have e:=KX a o L;rw[U] at e;cases e;refine core (λ_=>none) (λ_=>.inl rfl) (.inr ⟨_,I.toArray,_,L,rfl,rfl,rfl,by rw[aP,D];exact hl,by simpa using R⟩) (λb u z=>by have E:(none:Ab HO)=some u:=z;cases E) (λb z=>absurd rfl z) λz=>absurd rfl z
 | none =>
  refine core (λb=>if b=a then some (.frz { cls:=.type "list",data:=.seq I.toArray } (.l (ns.map V.int))) else none) (λb=>?_) (.inl (.inr ⟨{ cls:=.type "list",data:=.seq I.toArray },bA rfl⟩)) (λb u z=>?_) (λb z=>?_) λ_=>L
  .by_cases j:b=a
   .exact .inr ⟨_,_,bA j⟩
   .exact .inl (bB j)
  .by_cases j:b=a
   .have E:=(bA j).symm.trans z;cases E;subst j;exact⟨U,by rw[aB];exact hl,I,_,R,U⟩
   .have E:=(bB j).symm.trans z;cases E
  .by_cases j:b=a
   .exact j
   .exact absurd (bB j) z
theorem walk_of {l:PySem.W.OpenLaw}{n k:Nat}{q:Ah}{j:Aa Af}{XP:(Af->Ab Ac)->Ag->Prop}{YP:World->Ag->Prop}{d:DefRec}{K:Params->kG}{CX:World->wY}{sp:World->Sp}{x:Af}
  (hn:l.most=some n) (U:n<=sizeLine) (J:d.params.defaults=[]) (hr:Room k callerA)
  (hY:∀ (w:World) (h:Ag),YP w h->(K w.params).In h)
  (F:∀ (w:World) (p:Af->Ab Ac) (r:Ad) (h:Ag),(K w.params).In h->h.Ns mainGlobals p->p d.name=some (.ref r) ->∃ fd:FuncData,(∀ (s:Ae) (u:Ac),BindsTo s fd ⟨[u],[]⟩ [(x,u)]) /\ ∀ base:Ag,(K w.params).In base->base.Ns mainGlobals p->FnOk l.prog w (K w.params) p base (CX w) k r fd [x] (sp w))
  (aa:∀ (w:World) (H:Hp) (a:Ad) (C:Aa Int),C.length<=n->Fd H->eT (K w.params) H a (C.map V.int)->sp w [.ref a] H (λv _=>v = .b true) λ_ _ _=>False)
  (I:∀ (w:World) (H:Hp) (s:Ae) (e:Ac) (s':Ae),CX w [] H s (λ_ _ _=>False) e s'->False) :
  PySem.W.WalkO q j XP YP l.row.toRowW d [] (λf vs=>PySem.call f vs):=by
 refine Att.attach_call hn J λw A t p Q r o pm cd B a vs C G Y P hd N y m i c O=>?_
 have z:=hY w _ Y;obtain⟨fd,M,D⟩:=F w p r _ z G.T.g y;exact Vv z G.T.g G.T.b G.T.builtins G.T.nolimit O m i (bM c U) hr D M (λH E L=>aa w H a C c E L) λH e s'=>I w H t e s'
def rF (s:Stmt):Arguments:=match s with
 | .FunctionDef _ a _ _ _ _ _ _ _ _=>a
 | _=>{ posonlyargs:=[],args:=[],vararg:=none,kwonlyargs:=[],kw_defaults:=[],kwarg:=none,defaults:=[] }
def pP (s:Stmt):Aa Stmt:=match s with
 | .FunctionDef _ _ b _ _ _ _ _ _ _=>b
 | _=>[]
def lJ (s:Stmt):Scope:=match s with
 | .FunctionDef _ _ _ _ _ _ a _ _ _=>a
 | _=>{ kind:=.function,names:=[],isGenerator:=false,isCoroutine:=false }
abbrev mH:wY:=λ_ _ _ _ _ _=>False
abbrev E0:XK:=λ_ _ _=>False
theorem qS {X:Cx}:Bq mH X E0:=λ_ _ _ _ _ _ _ h=>h.elim
structure Fun (K:kG) (x qual:Str) (st:Stmt) (f:Addr) (fd:FuncData):Prop where
 ex:∃ (oc:Value) (od:Option Addr) (kV doc pm:Value) (an:Option Addr) (cdv ct:Value) (osl:Array (Option Value)),
  fd=PySem.W.fnOf x qual (rF st) (pP st) (lJ st) .none kV doc pm an cdv ct/\K.lookup f=some ⟨oc,od,.func fd,osl⟩/\PySem.W.codeIn K cdv qual=true
 kp:PySem.W.keepIn K (.ref f)=true
section
variable {P:Ah}{K:kG}
theorem Fun.ok {st:Stmt}(F:Fun K x l st f fd) (S:FnScope N r (lJ st)) (len:∀ p H Q E,C p H Q E->p.length=r.length)
  (o:∀ (j:Ac) (A:Around) (g:Aa Env) (s:Ae) (H:Hp) (p:Aa V) (Q:VK) (E:XK),Room k (A.deeper (envOfC l (lJ st) s.heap.objs.size f j))->C p H Q E ->∃ t,mY (uH mH P w K J base N l (lJ st) f j A g s H E).nox (pP st) t/\t { nx:=λ_ I=>Q .e I,rt:=Q } (qY N p) H):FnOk P w K J base mH (k+1) f fd r C:=by
 obtain⟨v,y,kV,c,pm,n,j,u,m,rfl,i,a⟩:=F.ex;refine Vq i a S len λA g s H p Q E d b=>?_
 obtain⟨t,h,q⟩:=o j A g s H p Q E d b;exact⟨t,h.nox,q⟩
theorem Fun.binds {st:Stmt}(F:Fun K x l st f fd)
  (h:∀ (kV j pm:Ac) (o:Ab Ad) (g p:Ac) (r:Aa Ac),r.length=C.length->bindArgs (PySem.W.fnOf x l (rF st) (pP st) (lJ st) .none kV j pm o g p) ⟨r,[]⟩=pure (C.zip r)):tU K fd C []:=by
 obtain⟨d,e,kV,j,pm,o,g,p,b,rfl,c,a⟩:=F.ex;exact .all (h kV j pm o g p)
theorem Ov {st:Stmt}{kV:Ac}(l:K.lookup f=some ⟨I,J,.func (PySem.W.fnOf x g (rF st) (pP st) (lJ st) .none kV o pm r j C),p⟩)
  (c:PySem.W.codeIn K j g=true) (k:PySem.W.keepIn K (.ref f)=true):Fun K x g st f (PySem.W.fnOf x g (rF st) (pP st) (lJ st) .none kV o pm r j C):=⟨⟨I,J,kV,o,pm,r,j,C,p,rfl,l,c⟩,k⟩
end
theorem M5 (g:Room k A):A.units+1<cLine:=dH (Nat.add_le_add_left (by decide:1<=64) _) g.units
section
variable {X:Cx}
theorem pv (i:Nat) (j:X.N[i]?=some x:=by rfl) (l:Cm X.env.scope x:=by first | exact Or.inl rfl | exact Or.inr (Or.inl rfl) | exact Or.inr (Or.inr rfl)) (hd:(x == ("__debug__" : Af))=false:=by decide)
  (g:(x == ("__classdict__" : Af))=false:=by decide):PE X (.Name x pos) (oV i):=AY j l hd g
theorem Rf:lX X (.builtin "len") (λj H Q=>∃ a g,j=[V.ref a]/\H a=some (.k g)/\Q (.int g.length) H):=by
 intro b s m H j i Q I r h;obtain⟨a,g,rfl,d,q⟩:=h;obtain⟨u,rfl,e⟩:=nM r;cases e;exact U3 I (.inl d) λt f c=>⟨.int g.length,H,c,⟨t,rfl⟩,q⟩
end
theorem wV {A B:Prop}(h:B):if false=true then A else B:=by
 rw[bB aU];exact h
theorem zF {c A B:Prop} [Decidable c] (g:c->A) (j:¬ c->B):if c then A else B:=by
 by_cases h:c
 .rw[bA h];exact g h
 .rw[bB h];exact j h
def mZ (H g:Hp):Prop:=∀ b o,H b=some o->g b=some o
theorem mZ.trans (a:mZ H g) (b:mZ g j):mZ H j:=λc o h=>b c o (a c o h)
theorem mZ.free (e:mZ H g) (h:g l=Option.none):H l=Option.none:=by
 cases q:H l with
 | none=>rfl
 | some o =>
  rw[e l o q] at h;cases h
theorem mZ.seq {K:kG}(e:mZ H g) (h:eT K H a j):eT K g a j:=by
 rcases h with (h | ⟨o,h⟩) | h
 .exact .inl (.inl (e _ _ h))
 .exact .inl (.inr ⟨o,e _ _ h⟩)
 .exact .inr h
section
variable [DecidableEq κ]
theorem Jg:∀ {l:Aa κ}{k:κ},l.Nodup->¬ k∈l->(l++[k]).Nodup
 | [],k,_,_=>by simp
 | a::r,k,h,b=>by
  obtain⟨c,d⟩:=bU.mp h;show (a::(r++[k])).Nodup;refine bU.mpr ⟨λm=>?_,Jg d λm=>b (aF.mpr (Or.inr m))⟩;rcases aV.mp m with q | q
  .exact c q
  .exact b (aF.mpr (Or.inl (aQ.mp q).symm))
end
section
variable {X:Cx}
theorem Aq {K:kG}:∀ {j:Aa Int}{g:Aa Ac},kJ (j.map V.int) g->∃ xs:Array (Int×Tok),g.toArray=intItems xs/\j=xs.toList.map (·.1)
 | [],_,.nil=>⟨#[],by simp[intItems],rfl⟩
 | n::j,_,.cons r c=>by
  obtain⟨t,rfl⟩:=r;obtain⟨xs,a,b⟩:=Aq (K:=K) c;refine⟨(⟨(n,t)::xs.toList⟩:Array (Int×Tok)),?_,by rw[b];rfl⟩;have:(intItems xs).toList=_:=(dF Array.toList a).symm;unfold intItems at this |-;refine Array.toList_inj.mp ?_;simp only[Array.toList_map] at this |-;rw[aW,this]
theorem Dc (p:l=o.toList.map (·.1)) (g:j<o.size):∃ h:j<l.length,numAt o j=l[j]:=by
 subst p;refine⟨by simpa using g,?_⟩;simp[numAt,g]
theorem Tc (l:X.calm=true):lX X (.builtin "sum") (λj H Q=>∃ (p:Ad) (g:Aa Int),j=[.ref p]/\eT X.K H p (g.map V.int)/\Q (.int g.sum) H):=by
 intro a s z H j y Q I r h;obtain⟨p,g,rfl,d,q⟩:=h;obtain⟨u,rfl,m⟩:=nM r;cases m;obtain⟨f,k,i,w⟩:=I.list d;obtain⟨t,e,b⟩:=Aq (K:=X.K) k;refine sum_intListG (xs:=t) (I.ok.hd l) (e▸i.isList) λv x n c=>⟨.int g.sum,H,I.kept c,⟨n,?_⟩,q⟩
 rw[preSum_eq,aO (by simp),b]
theorem Yx (l:X.calm=true):lX X (.builtin "min") (λxs H Q=>∃ (p:Ad) (g:Aa Int),xs=[.ref p]/\eT X.K H p (g.map V.int)/\g≠[]/\∀ m:Int,m∈g->(∀ a∈g,m<=a)->Q (.int m) H):=by
 intro k s W H xs S Q I r h;obtain⟨p,g,rfl,A,d,q⟩:=h;obtain⟨u,rfl,M⟩:=nM r;cases M;obtain⟨D,L,G,O⟩:=I.list A;obtain⟨b,e,c⟩:=Aq (K:=X.K) L;have f:0<b.size:=by
  rcases Nat.eq_zero_or_pos b.size with z | z
  .exfalso;apply d;rw[c];simp[Array.size_eq_zero_iff.mp z]
  .exact z
 refine min_intList (xs:=b) (I.ok.hd l) (e▸G.isList) f λv N R B y=>?_
 obtain⟨t,rfl⟩:=intItems_at (xs:=b) B;have best:=argBest_lt (numAt b) (b.size-1);obtain⟨F,n⟩:=Dc c (dH best.1 (show b.size-1<b.size by omega));refine⟨.int _,H,I.kept y,⟨t,rfl⟩,q _ (n▸cQ F) λa x=>?_⟩;obtain⟨j,i,rfl⟩:=eJ x;have E:j<b.size:=by rw[c] at i;simpa using i
 obtain⟨P,w⟩:=Dc c E;exact w▸best.2 j (by omega)
theorem Us (l:X.calm=true):lX X (.builtin "max") (λxs H Q=>∃ (p:Ad) (g:Aa Int),xs=[.ref p]/\eT X.K H p (g.map V.int)/\g≠[]/\∀ m:Int,m∈g->(∀ a∈g,a<=m)->Q (.int m) H):=by
 intro k s W H xs S Q I r h;obtain⟨p,g,rfl,A,d,q⟩:=h;obtain⟨u,rfl,M⟩:=nM r;cases M;obtain⟨D,L,G,O⟩:=I.list A;obtain⟨b,e,c⟩:=Aq (K:=X.K) L;have f:0<b.size:=by
  rcases Nat.eq_zero_or_pos b.size with z | z
  .exfalso;apply d;rw[c];simp[Array.size_eq_zero_iff.mp z]
  .exact z
 refine max_intList (xs:=b) (I.ok.hd l) (e▸G.isList) f λv N R B y=>?_
 obtain⟨t,rfl⟩:=intItems_at (xs:=b) B;have best:=argBest_gt (numAt b) (b.size-1);obtain⟨F,n⟩:=Dc c (dH best.1 (show b.size-1<b.size by omega));refine⟨.int _,H,I.kept y,⟨t,rfl⟩,q _ (n▸cQ F) λa x=>?_⟩;obtain⟨j,i,rfl⟩:=eJ x;have E:j<b.size:=by rw[c] at i;simpa using i
 obtain⟨P,w⟩:=Dc c E;exact w▸best.2 j (by omega)
theorem E4:∀ {j:Aa Af}{g:Aa Ac},kJ (j.map V.str) g->StrsAre g j:=by
 intro j;induction j with
 | nil=>intro g r;cases r;exact .nil
 | cons y r c =>
  intro g h;cases h with
  | cons a b =>
   obtain⟨t,rfl⟩:=a;exact .cons _ _ (c b)
def Rv (K:kG):V->Aa V->Hp->VK->Prop:=λx b H Q=>∃ (z:Af) (l:Ad) (a:Aa Af),x = .str z/\b=[.ref l]/\(eT K H l (a.map V.str)\/lL K H l (a.map V.str)) /\
 (a.map (·.length)).sum+a.length*z.length<=16777216/\Q (.str (Txt.join z a)) H
theorem Tx:zL X "str.join" (Rv X.K):=by
 intro e s B H x y v w Q I m i h;obtain⟨z,l,A,rfl,rfl,a,d,q⟩:=h;obtain⟨t,rfl⟩:=m;obtain⟨u,rfl,f⟩:=i.one;cases f;rcases a with a | a
 .obtain⟨b,r,c,_⟩:=I.list a;exact join_list c.isList (by simpa using E4 r) d λn k=>⟨.str _,H,I.tok _,⟨_,rfl⟩,q⟩
 .obtain⟨b,r,c,_⟩:=I.tuple a;exact join_tuple c (by simpa using E4 r) d λn k=>⟨.str _,H,I.tok _,⟨_,rfl⟩,q⟩
end
mutual
inductive DatV (K:kG) (H:Hp):V->PyData->Prop where
 | e:DatV K H .e .none
 | b (b:Bool):DatV K H (.b b) (.bool b)
 | int (i:Int):DatV K H (.int i) (.int i)
 | str (x:Str):DatV K H (.str x) (.str x)
 | l {a:Addr} {xs:List V} {ds:List PyData}:eT K H a xs->DatVs K H xs ds->DatV K H (.ref a) (.list ds)
 | t {a:Addr} {xs:List V} {ds:List PyData}:lL K H a xs->DatVs K H xs ds->DatV K H (.ref a) (.tuple ds)
inductive DatVs (K:kG) (H:Hp):List V->List PyData->Prop where
 | nil:DatVs K H [] []
 | cons {x:V} {d:PyData} {xs:List V} {ds:List PyData}:DatV K H x d->DatVs K H xs ds->DatVs K H (x::xs) (d::ds)
end
section
variable {X:Cx}
mutual
theorem DatV.reads (I:Inv X g j H s):∀ {x:V}{d:PyData}{u:Ac},DatV X.K H x d->kM x u->∃ as,Reads s.heap u d as
 | _,_,_,.e,r=>by cases r;exact⟨_,.none⟩
 | _,_,_,.b b,r=>by cases r;exact⟨_,.bool b⟩
 | _,_,_,.int i,r=>by obtain⟨t,rfl⟩:=r;exact⟨_,.int i t⟩
 | _,_,_,.str x,r=>by obtain⟨t,rfl⟩:=r;exact⟨_,.str x t⟩
 | _,_,_,.l a f,r=>by
  cases r;obtain⟨k,m,⟨o,n,e,c,_,d⟩,_⟩:=I.list a;obtain⟨as,h⟩:=DatVs.reads I f m;exact⟨_,.list e c d (by simpa using h)⟩
 | _,_,_,.t a f,r=>by
  cases r;obtain⟨k,m,⟨o,e,c,n,d⟩,_⟩:=I.tuple a;obtain⟨as,h⟩:=DatVs.reads I f m;exact⟨_,.tuple e c d (by simpa using h)⟩
theorem DatVs.reads (I:Inv X j p H s):∀ {o:Aa V}{g:Aa PyData}{l:Aa Ac},DatVs X.K H o g->kJ o l->∃ as,ReadsAll s.heap l g as
 | _,_,_,.nil,.nil=>⟨_,.nil⟩
 | _,_,_,.cons h c,.cons r d=>by
  obtain⟨as,a⟩:=DatV.reads I h r;obtain⟨bs,b⟩:=DatVs.reads I c d;exact⟨_,.cons a b⟩
end
end
section
variable {X:Cx}
def Fe (K:kG) (neg:Bool):R2:=λx y H Q=>∃ a c,DatV K H x a/\DatV K H y c/\a.canLay0=true/\c.canLay0=true/\min a.depth c.depth<=60/\Q (.b (if neg then !PyData.eqv a c else PyData.eqv a c)) H
theorem Vo (g:X.A.units+64<cLine):lA X (compareOp .Eq) (Fe X.K false):=by
 intro a s B H x y v u Q I m n h;obtain⟨t,w,c,d,e,f,z,q⟩:=h;obtain⟨as,i⟩:=c.reads I m;obtain⟨bs,k⟩:=d.reads I n;exact SeqAt.compareEq_reads i k e f (by omega) ⟨.b _,H,I,rfl,q⟩
theorem V1 (g:X.A.units+64<cLine):lA X (compareOp .NotEq) (Fe X.K true):=by
 intro a s B H x y v u Q I m n h;obtain⟨t,w,c,d,e,f,z,q⟩:=h;obtain⟨as,i⟩:=c.reads I m;obtain⟨bs,k⟩:=d.reads I n;exact SeqAt.compareNe_reads i k e f (by omega) ⟨.b _,H,I,rfl,q⟩
def Gx (K:kG) (neg:Bool):R2:=λx y H Q=>∃ (a b:Ad) (c:Aa V),x = .ref a/\y = .ref b/\eT K H a c/\eT K H b []/\Q (.b (if neg then !c.isEmpty else c.isEmpty)) H
theorem Iz (g:X.A.units+64<cLine):lA X (compareOp .Eq) (Gx X.K false):=by
 intro c s M H x y v u Q I F G h;obtain⟨a,b,L,rfl,rfl,f,z,q⟩:=h;cases F;cases G;obtain⟨B,D,m,_⟩:=I.list f;obtain⟨k,E,n,_⟩:=I.list z;cases E;have t:∀ d,d=L.isEmpty->EP X c M Q (.bool d) s:=λd e=>⟨.b d,H,I,rfl,by subst e;exact q⟩
 cases D with
 | nil=>exact SeqAt.RcAt.lists (e:=λ_=>true) m.isList n.isList rfl (by omega) (λi f _=>by simp at f) X.prog X.w _ _ (t _ (by simp))
 | cons r N=>exact SeqAt.RcAt.lists_lengths m.isList n.isList (by simp) (by omega) X.prog X.w _ _ (t _ rfl)
end
end L2
namespace L2
open PySem PySem.Spec PyProof.Rows
section
variable {X:Cx}
def qF (z:Af) (lo g:Ab Int):Af:=⟨((z.cps.toList.drop (HT.sIx z.length 0 lo)).take (HT.sIx z.length z.length g-HT.sIx z.length 0 lo)).toArray⟩
theorem CS (lo g:Ab Int) (n:Nat):Builtin.Str.strSliceIndices lo g 1 n=(List.range (HT.sIx n n g-HT.sIx n 0 lo)).map (HT.sIx n 0 lo+·):=by
 unfold Builtin.Str.strSliceIndices;rw[<- sliceRange_one];have c:∀ (v:Ab Int) (d:Nat),d<=n->(match v with | none=>((d:Nat):Int) | some i=>if (1:Int)>0 then max 0 (min (if i<0 then i+(n:Int) else i) (n:Int)) else max (-1) (min (if i<0 then i+(n:Int) else i) ((n:Int)-1)))=((HT.sIx n d v:Nat):Int):=by
  intro v d hd;cases v with
  | none=>rfl
  | some i =>
   simp only[HT.sIx,show (1:Int)>0 by decide,eF];by_cases h:i<0
   .simp only[h,eF]<;>omega
   .simp only[h,eE]<;>omega
 have a:=c lo 0 (cU _);have b:=c g n (aH _);simp only[show (1:Int)>0 by decide,eF] at a b |-;rw[<- a,<- b];cases lo<;>cases g<;>rfl
def M7:V->Ab Int->Ab Int->Hp->VK->Prop:=λx lo a H Q=>∃ z:Af,x = .str z/\z.length<=sizeLine/\Q (.str (qF z lo a)) H
theorem K1 (p:IsPart v o):∃ l:Ab (Int×Tok),v=partValue l/\o=l.map (·.1):=by
 cases p with
 | none=>exact⟨none,rfl,rfl⟩
 | int i t=>exact⟨some (i,t),rfl,rfl⟩
theorem uO (z:Af):z.cps.toList.length=z.length:=by
 rw[fW];rfl
theorem AZ {a b:Af}(h:a.cps.toList=b.cps.toList):a=b:=by
 obtain⟨a⟩:=a;obtain⟨b⟩:=b
 congr
 exact Array.toList_inj.mp h
theorem Ik:sU X M7:=by
 intro c s L H x v G K lo B E Q I A n w y h;obtain⟨z,rfl,D,q⟩:=h;obtain⟨t,rfl⟩:=A;obtain⟨l,rfl,rfl⟩:=K1 w;obtain⟨u,rfl,rfl⟩:=K1 y;refine⟨"str",_,PySem.F.slot_str_getitem.lookup,typeIs_str _ z t,?_⟩;refine wpAny_getItem_str_slice (l:=l) (u:=u) (st:=none) n rfl ?_;have e:slicePicked z l u none=(List.range (HT.sIx z.length z.length (u.map (·.1))-HT.sIx z.length 0 (l.map (·.1)))).map (HT.sIx z.length 0 (l.map (·.1))+·):=CS _ _ _;have d:(⟨((slicePicked z l u none).filterMap (z.cps[·]?)).toArray⟩:Af)=qF z (l.map (·.1)) (u.map (·.1)):=by
  rw[e,pick_run];rfl
 have m:=HT.sIx_le z.length z.length (aH _) (u.map (·.1));have b:=HT.sIx_le z.length 0 (cU _) (l.map (·.1));unfold sliceMade;split
 .rename_i k
  have a:(slicePicked z l u none).length=z.length:=by
   have:=(bX _ _).mp k;exact eq_of_beq this.2
  have f:qF z (l.map (·.1)) (u.map (·.1))=z:=by
   rw[e,aB,cF] at a;apply AZ;show ((z.cps.toList.drop _).take _)=z.cps.toList;have i:HT.sIx z.length 0 (l.map (·.1))=0:=by omega
   rw[i] at a |-;rw[List.drop_zero,aO];rw[uO];omega
  rw[f] at q;exact⟨.str z,H,I,⟨t,rfl⟩,q⟩
 .rw[d];refine⟨?_,.str _,H,I.tok _,⟨_,rfl⟩,q⟩;have:(qF z (l.map (·.1)) (u.map (·.1))).length<=z.length:=by
   show ((z.cps.toList.drop _).take _).toArray.size<=_;rw[aP,bQ,eR,uO];omega
  omega
theorem T6:lX X (.type "dict") (λj H Q=>∃ (a:Ad) (g:Aa (hH×V)),j=[.ref a]/\H a=some (.k g)/\∀ p,H p=none->Q (.ref p) (upd H p (.k g))):=by
 intro b s n H j m Q I r h;obtain⟨a,g,rfl,d,q⟩:=h;obtain⟨u,rfl,f⟩:=nM r;cases f;exact Xf I (.inl d) λp i e c=>⟨.ref p,_,c,rfl,q p e⟩
theorem CZ:lX X (.builtin "isinstance") (λj H Q=>∃ (x c:V) (t g:Ac) (b:Bool),j=[x,c]/\kM c g/\TyOf X.K H x t/\PySem.W.kitOne X.K t g=some b/\Q (.b b) H):=by
 intro k s A H j y Q I r h;obtain⟨x,c,t,g,b,rfl,d,ty,e,q⟩:=h;obtain⟨u,v,rfl,m,f⟩:=zH r;have:v=g:=by
  cases c with
  | ref a=>cases d;cases f;rfl
  | ty n=>cases d;cases f;rfl
  | e=>cases d;cases f;rfl
  | b b=>cases d;cases f;rfl
  | int i=>obtain⟨z,rfl⟩:=d;exact absurd e (by unfold PySem.W.kitOne PySem.W.kitCls;cases ty<;>simp)
  | str i=>obtain⟨z,rfl⟩:=d;exact absurd e (by unfold PySem.W.kitOne PySem.W.kitCls;cases ty<;>simp)
  | byt i=>obtain⟨z,rfl⟩:=d;exact absurd e (by unfold PySem.W.kitOne PySem.W.kitCls;cases ty<;>simp)
  | flt i=>obtain⟨z,rfl⟩:=d;exact absurd e (by unfold PySem.W.kitOne PySem.W.kitCls;cases ty<;>simp)
 subst this;exact AV I m ty e λw=>⟨.b b,H,I.tok _,rfl,q⟩
end
def sD (z:Af):It:=⟨λi _=>i<z.length,λi H x a=>a=H/\∃ c,z.cps[i]?=some c/\x = .str ⟨#[c]⟩,λi _=>z.length<=i⟩
theorem Jq {P:Ah}{K:kG}(z:Af) (t:Tok) (it:Ad):Turn P w K tg (sD z) [it] it (λi h=>h.IsStrIter it "str_ascii_iterator" z t i) where
 mem:=by simp
 obj:=λi h st b hb=>by
  have e:b=it:=by simpa using hb
  subst e;obtain⟨o,e,c,d⟩:=st;exact⟨o,e,λv z=>by rw[d] at z;cases z⟩
 keep:=λi h h' st k=>by
  obtain⟨o,e,r⟩:=st;exact⟨o,k it (by simp) o e,r⟩
 item:=by
  intro X hP hw hK hc i pins s σ H E I hf st hg;subst hP hw hK;have hg:i<z.length:=hg;obtain⟨f0,f1,f2,f3,f4,f5⟩:=hf it (by simp);have hz:z.cps[i]?=some (z.cps[i]'hg):=fJ hg;refine wpAny_pyNext_ascii_item st hz λh' st' sb=>?_
  have I1:Inv X pins σ H { s with heap:=h',toks:=s.toks+1 }:=I.turned (t':=s.toks+1) (λb o hb e=>(sb.2 b hb).trans e) f0 f1 f3 f4 f5;obtain⟨o,e,c,d⟩:=id st';exact⟨_,rfl,B1 (s:={ s with heap:=h',toks:=s.toks+1 }) e c d (by decide) ⟨.str ⟨#[z.cps[i]'hg]⟩,H,I1,⟨_,rfl⟩,⟨rfl,_,hz,rfl⟩,st',λb hb=>(hf b hb).1⟩⟩
 done:=by
  intro X hP hw hK hc i pins s σ H E I hf st hg;subst hP hw hK;have hg:z.length<=i:=hg;obtain⟨f0,f1,f2,f3,f4,f5⟩:=hf it (by simp);exact wpAny_pyNext_ascii_end (I.ok.hd hc) st (gG (by exact hg)) λh' eb=>⟨rfl,I.turned (t':=s.toks) (λb o hb e=>eb b o hb e) f0 f1 f3 f4 f5⟩
 self:=λ_ _ _ _ _ st h=>wpAny_pyIter_striter_ascii st h
section
variable {X:Cx}
def Z3 (g:TE):TI:=λb H R=>g b H λx a=>∃ z:Af,x = .str z/\z.cps.all (·<128)=true/\R (sD z) a
theorem Za (g:PE X l j):PI X o l (Z3 j):=by
 intro a s k H R I h;refine hO (g a s k H _ I h) λv c f=>?_
 obtain⟨x,i,d,y,z,n,u,q⟩:=f;subst n;obtain⟨t,rfl⟩:=y;refine wpAny_pyIter_ascii u ?_;have m:Inv X a k i { c with heap:=c.heap.push { cls:=.type "str_ascii_iterator",data:=.fields #[.str z t,.int 0 0] } }:=d.kept (t':=c.toks) λb A q=>aE _ q
 refine⟨c.heap.objs.size,[c.heap.objs.size],_,sD z,i,rfl,m,Jq z t _,⟨_,aR _ rfl,rfl,rfl⟩,λb w=>?_,q⟩;have e:b=c.heap.objs.size:=by simpa using w
 subst e;exact d.fpOk (aH _) (d.hok.fresh (aH _))
end
def qN (g:Aa Af) (x:Af):Aa Af:=if x∈g then g else g++[x]
def mJ (l:Aa Af):Aa Af:=l.foldl qN []
theorem Hl (l:Aa Af) (x:Af):mJ (l++[x])=qN (mJ l) x:=by unfold mJ;rw[List.foldl_append];rfl
theorem U2 (g:Aa Af) (x y:Af):y∈qN g x↔y∈g\/y=x:=by
 unfold qN;split
 .rename_i h
  constructor
  .exact .inl
  .rintro (q | q)
   .exact q
   .rw[q];exact h
 .simp[aV]
theorem Bu (g:Aa Af) (x:Af):(qN g x).length=if x∈g then g.length else g.length+1:=by
 unfold qN;split<;>simp
theorem Yw (l:Aa Af):∀ k,(mJ (l.take k)).length<=k:=by
 intro k;induction k with
 | zero=>simp[mJ]
 | succ k a =>
  rw[bI];cases e:l[k]? with
  | none=>simp;omega
  | some x =>
   simp only[fF];rw[Hl,Bu];split<;>omega
theorem Rz (r:Aa Af):∀ g,g.length<=(r.foldl qN g).length/\(r.foldl qN g).length<=g.length+r.length:=by
 induction r with
 | nil=>intro g;simp
 | cons x r a =>
  intro g;have h:=a (qN g x);rw[Bu] at h;simp only[fO,cY];split at h<;>omega
theorem Ui:∀ (r g:Aa Af),g.Nodup->(r.foldl qN g).length=g.length+r.length->(g++r).Nodup:=by
 intro r;induction r with
 | nil=>intro g h _;simpa using h
 | cons x r d =>
  intro g h e;simp only[fO,cY] at e;have b:=Rz r (qN g x);rw[Bu] at b;by_cases a:x∈g
  .rw[bA a] at b;omega
  .have c:qN g x=g++[x]:=by unfold qN;rw[if_neg a]
   rw[c] at e;have:=d (g++[x]) (Jg h a) (by rw[e];simp;omega)
   simpa using this
theorem V7 (h:(mJ l).length=l.length):l.Nodup:=by
 have:=Ui l [] List.nodup_nil (by simpa [mJ] using h)
 simpa using this
theorem P4 {P:Ah}{w:World}{h:Ag}{a:Ad}{S g:Af->Bool}{n j:Nat}(z:h.SetOf (PySem.strKind P w) a S n) (e:∀ k,S k=g k) (l:n=j):h.SetOf (PySem.strKind P w) a g j:=by
 have:S=g:=funext e;subst this l;exact z
section
variable {R:Result->Ae->Prop}{P:Nat->Ac->Prop}{St:Nat->Ae->Prop}
theorem Ss (W:WalksS g w A.in1 J I C G n P St) (a:Ad) (p:a∉I) (j:Aa Af) (aa:j.length=n) (hp:∀ i v,P i v->∃ x t,j[i]?=some x/\v = .str x t) (r:n+1<scanBound) :
  ∀ (k i:Nat) (s:Ae),n-i=k->i<=n->St i s->s.heap.SetOf (PySem.strKind g w) a (λx=>decide (x∈mJ (j.take i))) (mJ (j.take i)).length ->
   (∀ l,Moved (a::C) G s l->l.heap.SetOf (PySem.strKind g w) a (λx=>decide (x∈mJ j)) (mJ j).length->R (.ok (.ret .none)) l) ->
   codeAny (model g w) A (.builtin "set.update.loop" ⟨[.ref a,.ref J],[]⟩) R s:=by
 have h:a∉C:=λz=>p (W.sub _ z)
 have c:∀ b∈C,b∈a::C:=λb z=>aN _ z
 intro k;induction k with
 | zero =>
  intro i s hk U st E L;have Z:i=n:=by omega
  subst Z;rw[aO (by omega)] at E;refine eL gZ ?_;rw[dJ fC _];show wpAny _ A.in1 (pyNext (.ref J) >>= _) _ _ s;refine aA (W.done s _ _ st λl u=>?_);show wpAny _ A.in1 (ret Value.none) _ _ l;obtain⟨o,H,F,t,Q,rest⟩:=E;exact aD (L l (u.mono c) ⟨o,H,F,t,u.heap a _ h Q,rest⟩)
 | succ k ih =>
  intro i s hk U st E L;have q:i<n:=by omega
  refine eL gZ ?_;rw[dJ fC _];show wpAny _ A.in1 (pyNext (.ref J) >>= _) _ _ s;refine aA (W.item i s _ _ q st λv l hv V u=>?_);obtain⟨x,t,hx,rfl⟩:=hp i v hv;have M:l.heap.SetOf (PySem.strKind g w) a (λx=>decide (x∈mJ (j.take i))) (mJ (j.take i)).length:=by
   obtain⟨o,H,F,tb,Q,rest⟩:=E;exact⟨o,H,F,tb,u.heap a _ h Q,rest⟩
  show wpAny _ A.in1 (holding [Value.str x t] (setAdd a (.str x t)) >>= _) _ _ l;refine aA (bJ ?_);unfold setAdd;refine bJ ?_;have m:(PySem.strKind g w).is x (.str x t)=true:=by simp[PySem.strKind,Value.isStrOf]
  refine aA ((PySem.strKind g w).pyHash (k:=x) m ?_);have d:(mJ (j.take i)).length+1<scanBound:=by have:=Yw j i;omega
  refine wpAny_setAddHashed_of (knd:=strKind g w) (s:={ l with toks:=l.toks+1 }) m rfl M d λT Y N=>?_
  have X:j.take (i+1)=j.take i++[x]:=by rw[bI,hx];rfl
  have O:T.SetOf (PySem.strKind g w) a (λx=>decide (x∈mJ (j.take (i+1)))) (mJ (j.take (i+1))).length:=by
   refine P4 N (λy=>?_) ?_
   .rw[X,Hl];have:=U2 (mJ (j.take i)) x y;by_cases D:y∈mJ (j.take i)<;>by_cases K:y=x<;>simp only[D,K,true_or,or_true,eP,false_or] at this<;>simp[this,D,K]
    all_goals (subst K;simp[this])
   .rw[X,Hl,Bu];by_cases D:x∈mJ (j.take i)<;>simp[D]
  refine aD ⟨hV fC _,ih (i+1) _ (by omega) q (W.frame _ l _ _ V (gS _) λb r o e=>?_) O λS B f=>?_⟩
  .rw[Y.2 b (λz:b=a=>p (by rw[<- z];exact r))];exact e
  .refine L S (Moved.trans W.gtrans ((u.mono c).then_heap (gS _) λb o r e=>?_) B) f;rw[Y.2 b (λz:b=a=>r (by rw[z];exact aG))];exact e
end
end L2
namespace PySem
open PyProof.Rows L2
section
theorem Tk
  (fill:∀ g,wpAny (model j w) A.in1.in1 (Builtin.«set.__init__» ⟨[.ref s.heap.objs.size,x],[]⟩) (λf l=>f = .done (.ret .none)/\Q (.ref s.heap.objs.size) l) E { s with heap:=s.heap.push { cls:=.type "set",dict:=none,data:=.set #[] 0 (.fresh 0 0 g) } }) :
  wpAny (model j w) A (call (.type "set") [x]) Q E s:=by
 obtain⟨c,r,d⟩:=F.called_set.mro;refine wpAny_call (codeAny_of_tree (aD ⟨Code.quiet_builtin _ (by decide +kernel),eL F.entry_type_call ?_⟩));have b:=F.called_set;have body:wpAny (model j w) A.in1 (Builtin.«type.__call__» ⟨[.type "set",x],[]⟩) (λf l=>match f with | .done f=>wants Q E (.ok f) l | .again h=>h.quiet=true/\codeAny (model j w) A h (wants Q E) l) (λe l=>wants Q E (.error e) l) s:=by
  unfold Builtin.«type.__call__»;dsimp only;rw[b.notType];simp only[eS,eE,b.canCreate];refine aA (iJ (F.typeCall_set_1 x) (aA (iJ d ?_)));rw[bB (show ¬ (c::r).isEmpty=true from aU)];refine aA (iJ b.made (aA (aD (aA (bJ (wpAny_call (code_set_new_1 x λg=>?_)))))));have a:Shared.TypeIs { s with heap:=s.heap.push { cls:=.type "set",dict:=none,data:=.set #[] 0 (.fresh 0 0 g) } } (.ref s.heap.objs.size) "set" := ⟨_,aR _ rfl,rfl⟩;refine aA (dZ a b.sub ?_);rw[bB (show ¬ (!true)=true from aU)];refine aA (bJ (cP a b.init (wpAny_call (codeAny_call_builtin b.init.plain F.entry_set_init (check_set_init_1 a ?_)))));refine dD (fill g) (λf l q=>?_) λ_ _ q=>q
  obtain⟨rfl,q⟩:=q;exact aD q
 exact body
theorem AR {S:Ad}(p:s.heap.IsList l C)
  (o:codeAny (model g w) A (.builtin "set.update.loop" ⟨[.ref S,.ref s.heap.objs.size],[]⟩) (λr j=>match r with | .ok (.ret _)=>Q () j | .ok _=>False | .error e=>E e j) { s with heap:=s.heap.push { cls:=.type "list_iterator",data:=.fields #[.ref l,.int 0 0] } }) :
  wpAny (model g w) A (Builtin.Frozenset.updateFrom "set.__init__" S (.ref l)) Q E s:=by
 have a:wpAny (model g w) A (Builtin.Frozenset.isAnySet (.ref l)) (λb j=>b=false/\j=s) E s :=
  aA (dZ p.typeIs F.sub_list_set (dZ p.typeIs F.sub_list_frozenset ⟨rfl,rfl⟩))
 refine aA (dD a (λb j q=>?_) λ_ _ q=>q);obtain⟨rfl,rfl⟩:=q;refine aA (eW p.typeIs (aA (dN p (aA (wpAny_runValue ?_)))));exact codeAny_mono o λr j q=>by
  match r,q with
  | .ok (.ret v),q=>exact aD q
  | .error e,q=>exact q
abbrev yH (g:Bool):Obj:={ cls:=.type "set",dict:=none,data:=.set #[] 0 (.fresh 0 0 g) }
theorem Yr {S:Ad}(o:s.heap.get? S=some (yH g))
  (fill:wpAny (model j w) A (Builtin.Frozenset.updateFrom "set.__init__" S x) (λ_ l=>Q (.done (.ret .none)) l) E s) :
  wpAny (model j w) A (Builtin.«set.__init__» ⟨[.ref S,x],[]⟩) Q E s:=by
 unfold Builtin.«set.__init__»;generalize Builtin.Frozenset.updateFrom=up at fill |-
 wp_walk
 exact dD fill (λ_ _ q=>aD q) λ_ _ q=>q
theorem Zw (z:StrsAre g j):j.length=g.length:=by
 induction z with
 | nil=>rfl
 | cons _ _ _ a=>rw[cY,cY,a]
theorem Wx (z:StrsAre g j):∀ {i:Nat}{v:Ac},g[i]?=some v->∃ x t,j[i]?=some x/\v = .str x t:=by
 induction z with
 | nil=>intro i v e;cases e
 | cons x t _ a =>
  intro i v e
  match i,e with
  | 0,e=>exact⟨x,t,rfl,(bT e).symm⟩
  | i+1,e=>exact a (i:=i) e
theorem J3 {s g:Ae}(a:g.gens=s.gens) (b:g.drawn=s.drawn) (c:g.os=s.os):g={ s with heap:=g.heap,toks:=g.toks }:=by
 cases s;cases g;cases a;cases b;cases c;rfl
theorem EK (T:A.handled=none) (C:s.heap.IsList l items) (I:StrsAre items.toList p) (J:items.size+1<scanBound)
  (h:∀ (r:Ag) (U:Nat),r.SetOf (PySem.strKind j w) s.heap.objs.size (λx=>decide (x∈mJ p)) (mJ p).length->(∀ b o,b<s.heap.objs.size->s.heap.get? b=some o->r.get? b=some o) ->Q (.ref s.heap.objs.size) { s with heap:=r,toks:=U }):wpAny (model j w) A (call (.type "set") [.ref l]) Q E s:=by
 refine Tk λg=>Yr (aR _ rfl) (AR (C.push _) ?_)
 have two:(s.heap.push (yH g)).objs.size=s.heap.objs.size+1:=cR ..;have lt:l<s.heap.objs.size:=by
  obtain⟨o,e,_⟩:=C;exact aM e
 have d:l≠(s.heap.push (yH g)).objs.size:=by
  rw[two];exact aX (iP lt)
 have f:s.heap.objs.size∉[(s.heap.push (yH g)).objs.size,l]:=λz=>by
  rw[two] at z;rcases aF.mp z with q | q
  .exact aX (Nat.lt_succ_self _) q
  .exact gF lt (aQ.mp q)
 have len:p.length=items.size:=by rw[Zw I,fW]
 have item:∀ (i:Nat) (v:Ac),items[i]?=some v->∃ x t,p[i]?=some x/\v = .str x t:=λi v e=>Wx I (by rw[eO];exact e)
 have empty:((s.heap.push (yH g)).push { cls:=.type "list_iterator",data:=.fields #[.ref l,.int 0 0] }).SetOf (PySem.strKind j w) s.heap.objs.size (λx=>decide (x∈mJ (p.take 0))) (mJ (p.take 0)).length :=
  P4 ((setObjOf_fresh (knd:=PySem.strKind j w) g).setOf (aE _ (aR _ rfl)) (by unfold scanBound;omega)) (λ_=>by simp[mJ]) (by simp[mJ])
 refine Ss ((Walks.list (by simp[T]) _ l d items).toS) s.heap.objs.size f p len item J items.size 0 _ (by omega) (cU _) ⟨⟨_,aR _ rfl,rfl,rfl⟩,(C.push _).push _⟩ empty λa c fin=>?_
 have res:=h a.heap a.toks fin λb o k e=>c.heap b o (λz=>?_) (aE _ (aE _ e))
 .rw[show a={ s with heap:=a.heap,toks:=a.toks } from J3 c.gens c.drawn c.os];exact⟨rfl,res⟩
 .rcases aF.mp z with q | q
  .exact aX k q
  .have q:=aQ.mp q;rw[two] at q;exact aX (iP k) q
end
end PySem
namespace L2
open PySem PySem.Spec PyProof.Rows
section
variable {X:Cx}
def wI (P:Ah) (w:World) (a:Ad) (n:Nat):HO:=.ext λh=>∃ S,h.SetOf (PySem.strKind P w) a S n
theorem BW (l:X.calm=true):lX X (.type "set") (λj H Q=>∃ (p:Ad) (g:Aa Af),j=[.ref p]/\eT X.K H p (g.map V.str)/\g.length<=4000/\∀ a,H a=none->Q (.ref a) (upd H a (wI X.prog X.w a (mJ g).length))):=by
 intro f s N H j M Q I r h;obtain⟨p,g,rfl,y,L,q⟩:=h;obtain⟨u,rfl,D⟩:=nM r;cases D;obtain⟨A,i,B,_⟩:=I.list y;have c:=i.length;rw[aB] at c;refine EK (I.ok.hd l) B.isList (by simpa using E4 i) (by rw[aP];unfold scanBound;omega) λv E d x=>?_
 have hex:∃ o,v.get? s.heap.objs.size=some o:=by obtain⟨o,_,_,_,e,_⟩:=d;exact⟨o,e⟩
 refine⟨.ref s.heap.objs.size,_,I.laid (a:=s.heap.objs.size) (o:=wI X.prog X.w s.heap.objs.size (mJ g).length) (t':=E) (λb o e=>x b o (aM e) e) (aH _) ?_,rfl,q _ I.fresh⟩;refine⟨⟨_,d⟩,hex,λF G ⟨S,z⟩ k=>⟨S,?_⟩⟩;obtain⟨o,n,m,t,e,rest⟩:=z;exact⟨o,n,m,t,k o e,rest⟩
theorem DD:lX X (.builtin "len") (λg H Q=>∃ (a:Ad) (n:Nat),g=[.ref a]/\H a=some (wI X.prog X.w a n)/\Q (.int n) H):=by
 intro b s y H g x Q I r h;obtain⟨a,n,rfl,f,q⟩:=h;obtain⟨u,rfl,k⟩:=nM r;cases k;obtain⟨⟨S,o,c,m,t,e,d,hd,_,_,v,i,rfl⟩,_⟩:=I.hok a _ f;refine call_len_set e d hd i ?_ ⟨.int c.size,H,I.tok _,⟨_,rfl⟩,q⟩;have:scanBound=4096:=rfl;omega
end
end L2
namespace PySem
open PyProof.Rows L2
theorem Ct:entryFor table "dict.update.loop" = some Builtin.«dict.update.loop»:=entryFor_of_tree (by kernel_rfl)
theorem uL:plainId "dict.update.loop" = true:=by decide +kernel
theorem Yk:typeLookup (.type "list") "keys" = pure none:=am_miss_of_fast (by decide +kernel)
section
theorem Sa
  (l:s.heap.get? a=some { cls:=.type "list",dict:=none,data:=.seq j n,slots:=p }) (calm:A.handled=none) (out:∀ o r e,Heap.NewAttrErr s.heap o e (.ref a) "keys" -> E (.ref e) { s with heap:=o,toks:=r }) :
  wpAny (model g w) A (boundAndCalled (.builtin "list.__getattribute__") (.ref a) (.str "keys" u)) Q E s:=by
 have ask:wpAny (model g w) A (call (.builtin "list.__getattribute__") [.ref a,.str "keys" u]) Q E s :=
  jT hX ⟨_,l,rfl⟩ am_entry_list_getattribute (F.args_list_getattribute_2 _ _) (meets_getattribute_miss_list a j n p "keys" u Yk (by decide +kernel)) ⟨l,calm,out⟩
 unfold boundAndCalled;rw[hX.bind (.ref a)];exact aA (aD ask)
theorem Sd (t:s.TypeIs (.ref e) "AttributeError") (out:E (.ref e) s) :
  wpAny (model g w) A (getattributeRaised o name (.type "list") (.ref e) none false false) Q E s:=by
 have last:wpAny (model g w) A (hookOrError o name (.ref e) false false none) Q E s:=aA (wpAny_throw out);have a:hookBehind (.type "list") none=pure none:=am_list_getattr_none;unfold getattributeRaised;refine aA (dZ t iG ?_);rw[bA rfl,a];exact aA (aD last)
theorem Rw
  (l:s.heap.get? a=some { cls:=.type "list",dict:=none,data:=.seq C n,slots:=I }) (calm:A.handled=none) (out:∀ j p e,Heap.NewExcOf s.heap j e "AttributeError" -> Q none { s with heap:=j,toks:=p }) :
  wpAny (model g w) A (getAttr? (.ref a) "keys") Q E s:=by
 have c:∀ j p e,Heap.NewAttrErr s.heap j e (.ref a) "keys" -> (∃ o,j.get? e=some o/\o.cls = .type "AttributeError")/\Q none { s with heap:=j,toks:=p }:=λj p e x=>by
  obtain⟨_,_,y⟩:=x.there;exact⟨⟨_,y,rfl⟩,out j p e x.of⟩
 let d:Ae:={ s with toks:=s.toks+1 };let b:Except Ac Ac->Ae->Prop:=λr i=>wpAny (model g w) A (match r with | .ok v=>pure (some v) | .error e=>do if <- isInstance e (.type "AttributeError") then pure none else throw e) Q E i
 have look:wpAny (model g w) A (getAttrBy (.ref a) (.str "keys" s.toks) false) (λv=>b (.ok v)) (λe=>b (.error e)) d:=by
  refine bJ (aA (eW (T := "list") ⟨_,l,rfl⟩ (aA (iJ hX.lookup ?_))));have own:wpAny (model g w) A (getAttrByItsOwn (.ref a) (.str "keys" s.toks) (.type "list") (.builtin "list.__getattribute__") false false) (λv=>b (.ok v)) (λe=>b (.error e)) d:=by
   refine aA (aD (aA (fS (bJ (Sa (s:=d) l calm λj p e x=>?_)))));obtain⟨⟨o,f,h⟩,q⟩:=c j p e x;exact Sd ⟨o,f,h⟩ (aA (dZ (T := "AttributeError") ⟨o,f,h⟩ iG (aD q)))
  exact own
 exact aA (wpAny_mkText (aA (fS look)))
end
section
variable {R:Result->Ae->Prop}{P:Nat->Ac->Prop}{St:Nat->Ae->Prop}
theorem AH (W:WalksS j w A.in1 J fp l G n P St) (d:Ad) (I:d∉fp) (C:Ag) (M:Nat->Ag->Prop) (U:∀ i h p,(∀ b o,b∉l->h.get? b=some o->p.get? b=some o)->M i h->M i p)
  (hT:∀ i v,i<n->P i v->∃ (t:Ad) (o:Obj) (m:Nat) (r x:Ac),v = .ref t/\t∉d::l/\C.get? t=some o/\o.cls = .type "tuple" /\ o.data = .seq #[r,x] m /\ ∀ (s:Ae) (Q:Unit->Ae->Prop) (E:Ac->Ae->Prop),(∀ b o,b∉d::l->C.get? b=some o->s.heap.get? b=some o)->M i s.heap ->(∀ p c,M (i+1) p->Heap.SameBut d s.heap p->Q () { s with heap:=p,toks:=s.toks+c })->wpAny (model j w) A.in1 (dictSet d r x) Q E s) :
  ∀ (k i:Nat) (s:Ae),n-i=k->i<=n->St i s->(∀ b o,b∉d::l->C.get? b=some o->s.heap.get? b=some o)->M i s.heap ->
   (∀ g,Moved (d::l) G s g->M n g.heap->R (.ok (.ret .none)) g) ->
   codeAny (model j w) A (.builtin "dict.update.loop" ⟨[.ref d,.ref J,.int (i:Int) 0,.none],[]⟩) R s:=by
 have q:∀ b∈l,b∈d::l:=λb z=>aN _ z
 intro k;induction k with
 | zero =>
  intro i s hk hi st f L K;have ei:i=n:=by omega
  subst ei;refine eL Ct ?_;rw[dJ uL _];show wpAny _ A.in1 (pyNext (.ref J) >>= _) _ _ s;refine aA (W.done s _ _ st λg D=>?_);show wpAny _ A.in1 (Builtin.Dict.addKeywords d [] >>= _) _ _ g;exact aA (aD (aD (K g (D.mono q) (U _ _ _ D.heap L))))
 | succ k ih =>
  intro i s hk hi st f L K;have B:i<n:=by omega
  refine eL Ct ?_;rw[dJ uL _];show wpAny _ A.in1 (pyNext (.ref J) >>= _) _ _ s;refine aA (W.item i s _ _ B st λv g hv Z D=>?_);obtain⟨t,o,m,r,x,rfl,ht,V,O,S,put⟩:=hT i v B hv;have a:∀ b o,b∉d::l->C.get? b=some o->g.heap.get? b=some o:=λb o u e=>D.heap b o (λz=>u (q _ z)) (f b o u e)
  have y:=a t o ht V;show wpAny _ A.in1 (holding [Value.ref t] _ >>= _) _ _ g;refine aA (bJ ?_);refine aA (iQ ?_);unfold Builtin.Dict.pairItems;refine aA (eW (T := "tuple") ⟨o,y,O⟩ ?_);rw[bA (by decide)];refine aA (dU y S ?_);refine aD ?_;show wpAny _ A.in1 (holding [r,x] (dictSet d r x)) _ _ g;refine bJ (put g _ _ a (U _ _ _ D.heap L) λp c N Y=>?_);refine aD ⟨hV uL _,?_⟩;have e1:(rawInt ((i:Int)+1))=Value.int ((i+1:Nat):Int) 0:=by rfl
  rw[e1];refine ih (i+1) _ (by omega) B (W.frame _ g _ _ Z (eU _ _) λb u o e=>?_) (λb o u e=>?_) N λX H F=>?_
  .rw[Y.2 b (λz:b=d=>I (by rw[<- z];exact u))];exact e
  .rw[Y.2 b (λz:b=d=>u (by rw[z];exact aG))];exact a b o u e
  .refine K X (Moved.trans W.gtrans ((D.mono q).then_heap (eU _ _) λb o u e=>?_) H) F;rw[Y.2 b (λz:b=d=>u (by rw[z];exact aG))];exact e
end
section
variable {K:Type} [DecidableEq K] {knd:KeyKind prog w K}{A:Around}
abbrev Eh (l:Ad):Obj:={ cls:=.type "list_iterator",data:=.fields #[.ref l,.int 0 0] }
abbrev Ux (g:Array Ac) (n:Nat) (j:Array (Ab Ac)):Obj:={ cls:=.type "list",dict:=none,data:=.seq g n,slots:=j }
theorem CC (t:s.TypeIs (.ref d) "dict") (j:s.heap.get? l=some (Ux r n C)) (calm:A.handled=none)
  (on:∀ g o e,Heap.NewExcOf s.heap g e "AttributeError" -> Q (.again (.builtin "dict.update.loop" ⟨[.ref d,.ref g.objs.size,.int 0 0,.none],[]⟩)) { s with heap:=g.push (Eh l),toks:=o }) :
  wpAny (model prog w) A (Builtin.«dict.__init__» ⟨[.ref d,.ref l],[]⟩) Q E s:=by
 have first:wpAny (model prog w) A (Builtin.Dict.selfAndRest "__init__" ⟨[.ref d,.ref l],[]⟩) (λp b=>p=(d,[Value.ref l])/\b=s) E s:=aA (wpAny_notOrdered_dict t (aD ⟨rfl,rfl⟩))
 have a:wpAny (model prog w) A (Builtin.Dict.updateFrom "dict.__init__" d (.ref l) [] .none) Q E s:=by
  refine aA (eW (T := "list") ⟨_,j,rfl⟩ ?_);rw[bA (by decide)];refine aA (Rw j calm λg o e x=>?_);exact aA (jU (aA (dN ⟨_,x.keeps _ _ j,rfl,n,rfl⟩ (aD (on g o e x)))))
 exact aA (dD first (λp b q=>by obtain⟨rfl,rfl⟩:=q;exact a) λ_ _ q=>q)
def vQ (s:Ae):Ae:={ s with heap:=s.heap.push { cls:=.type "dict",data:=.dict #[] } }
theorem Wi (M:Nat->Ag->Prop) (I:A.handled=none) (C:s.heap.get? l=some o) (hc:o.cls = .type "list") (hd:o.dict=none) (r:o.data = .seq items nl)
  (m0:∀ h:Ag,h.get? s.heap.objs.size=some { cls:=.type "dict",data:=.dict #[] }->M 0 h) (T:∀ i h g,(∀ b o,b<=s.heap.objs.size->h.get? b=some o->g.get? b=some o)->M i h->M i g)
  (U:∀ (i:Nat) v,items[i]?=some v->∃ (t:Ad) (o:Obj) (m:Nat) (p x:Ac),v = .ref t/\s.heap.get? t=some o/\o.cls = .type "tuple" /\ o.data = .seq #[p,x] m /\ ∀ (B:Around) (j:Ae) (Q:Unit->Ae->Prop) (E:Ac->Ae->Prop),(A.units+2<cLine->B.units<cLine)->(∀ b o,s.heap.get? b=some o->j.heap.get? b=some o)->M i j.heap ->(∀ g c,M (i+1) g->Heap.SameBut s.heap.objs.size j.heap g->Q () { j with heap:=g,toks:=j.toks+c })->wpAny (model prog w) B (dictSet s.heap.objs.size p x) Q E j)
  (h:∀ (g:Ag) (J:Nat),M items.size g->(∀ b o,s.heap.get? b=some o->g.get? b=some o)->Q (.ref s.heap.objs.size) { s with heap:=g,toks:=J }) :
  wpAny (model prog w) A (call (.type "dict") [.ref l]) Q E s:=by
 obtain⟨oc,od,Y,Z⟩:=o;cases hc;cases hd;cases r;let D:=s.heap.objs.size;have N:(vQ s).heap.get? D=some { cls:=.type "dict",data:=.dict #[] }:=aR _ rfl;have ty:(vQ s).TypeIs (.ref D) "dict" := ⟨_,N,rfl⟩;have old:∀ b o,s.heap.get? b=some o->(vQ s).heap.get? b=some o:=λb o e=>aE _ e
 refine callType_codes F.kt_called_dict (F.kt_typeCall_dict_1 _) F.entry_dict_init (kt_code_dict_new _ (Q₁:=λv L=>v = .ref D/\L=vQ s) ⟨rfl,rfl⟩) λv L q=>?_
 obtain⟨rfl,rfl⟩:=q;refine⟨ty,F.args_dict_init_2 _ _,CC ty (old _ _ C) (by simp[I]) λn J e x=>⟨hV uL _,?_⟩⟩;have pO:D<n.objs.size:=aM (x.keeps _ _ N);have G:l<D:=aM C;have keeps:∀ b o,s.heap.get? b=some o->(n.push (Eh l)).get? b=some o:=λb o e=>aE _ (x.keeps _ _ (old b o e))
 have a:∀ {b:Ad},b<D->b∉[D,n.objs.size]:=λ{b} u z=>by
  rcases aF.mp z with q | q
  .exact aX u q
  .exact aX (Nat.lt_trans u pO) (aQ.mp q)
 have f:D∉[n.objs.size,l]:=λz=>by
  rcases aF.mp z with q | q
  .exact aX pO q
  .exact gF G (aQ.mp q)
 have d:(n.push (Eh l)).IsList l items:=⟨_,keeps _ _ C,rfl,nl,rfl⟩;refine AH ((Walks.list (by simp[I]) n.objs.size l (aX (Nat.lt_trans G pO)) items).toS) D f s.heap M (λi h g k m=>T i h g (λb o S e=>k b o (λz=>aX (dH S pO) (aQ.mp z)) e) m) (λi v _ W=>?_) items.size 0 _ (by omega) (cU _) ⟨⟨_,aR _ rfl,rfl,rfl⟩,d⟩ (λb o _ e=>keeps b o e) (m0 _ (aE _ (x.keeps _ _ N))) λj H fin=>?_
 .obtain⟨t,ot,m,p,y,rfl,O,r1,r2,put⟩:=U i v W;exact⟨t,ot,m,p,y,rfl,a (aM O),O,r1,r2,λL R P X=>put _ L R P (λV=>by simpa using V) λb o e=>X b o (a (aM e)) e⟩
 .have res:=h j.heap j.toks fin λb o e=>H.heap b o (a (aM e)) (keeps b o e)
  rw[show j={ s with heap:=j.heap,toks:=j.toks } from J3 H.gens H.drawn H.os];exact⟨rfl,res⟩
theorem DT (J:A.handled=none) (T:s.heap.get? l=some o) (I:o.cls = .type "list") (hd:o.dict=none) (p:o.data = .seq items nl)
  (hn:more.length=items.size)
  (C:∀ (i:Nat) v,items[i]?=some v->∃ (t:Ad) (o:Obj) (m:Nat) (k:K) (j x:Ac),v = .ref t/\s.heap.get? t=some o/\o.cls = .type "tuple" /\ o.data = .seq #[j,x] m/\knd.is k j=true/\more[i]?=some (k,x)) (U:items.size<=sizeLine)
  (h:∀ (g:Ag) (r:Nat),g.DictOf knd s.heap.objs.size (merged [] more)->(∀ b o,s.heap.get? b=some o->g.get? b=some o)->Q (.ref s.heap.objs.size) { s with heap:=g,toks:=r }) :
  wpAny (model prog w) A (call (.type "dict") [.ref l]) Q E s:=by
 refine Wi (λi g=>g.DictOf knd s.heap.objs.size (merged [] (more.take i))) J T I hd p (λn e=>?_) (λi n y k m=>?_) (λi v H=>?_) λg r m=>h g r (by rw[aO (by omega)] at m;exact m)
 .obtain⟨z,f,d,u,rest⟩:=Heap.DictOf.new (knd:=knd) s.heap;cases u.symm.trans (aR _ rfl);exact⟨_,f,d,e,rest⟩
 .obtain⟨z,f,d,u,rest⟩:=m;exact⟨z,f,d,k _ _ (aH _) u,rest⟩
 .obtain⟨t,M,m,L,j,x,rfl,n,y,F,c,a⟩:=C i v H;refine⟨t,M,m,j,x,rfl,n,y,F,λB O Q E _ _ G k=>wpAny_dictSet_pairs (hsz:=?_) c G λg q N=>k g 1 (by rw[merged_take_succ [] more i (L,x) a];exact q) N⟩;have D:=merged_length_le ([]:Aa (K×Ac)) (more.take i);rw[iB,bQ] at D;omega
end
end PySem
namespace L2
open PySem PySem.Spec PyProof.Rows
section
variable {X:Cx}
def Aj (H:Hp) (j:Aa Ad) (g:Aa (hH×V)):Prop:=Paired (λt (a:hH×V)=>H t=some (.t [kV a.1,a.2])) j g
theorem Tn {P:Ah}(p:mF P w H h):∀ {l:Aa Ad}{g:Aa (hH×V)},Aj H l g->∃ more:Aa (hH×Ac),KV g more /\
  ∀ (i:Nat) t,l[i]?=some t->∃ (o:Obj) (m:Nat) (k:hH) (j x:Ac),h.get? t=some o/\o.cls = .type "tuple" /\ o.data = .seq #[j,x] m/\(nY P w).is k j=true/\more[i]?=some (k,x):=by
 intro l g r;unfold Aj at r;induction r with
 | nil=>exact⟨[],.nil,λi t e=>by simp at e⟩
 | @cons t j l g d G u =>
  obtain⟨more,B,q⟩:=u;obtain⟨z,v,a,⟨o,s,f,n,b⟩,_⟩:=p t _ d;cases a with
  | @cons _ E _ K y a =>
   cases a with
   | @cons _ c _ F A a =>
    cases a;refine⟨(j.1,c)::more,.cons ⟨rfl,A⟩ B,λi D e=>?_⟩;cases i with
    | zero =>
     simp at e;subst e;exact⟨o,n,j.1,E,c,s,f,b,vW y,rfl⟩
    | succ i=>simpa using q i D (by simpa using e)
theorem Yi (l:X.calm=true):lX X (.type "dict") (λC H Q=>∃ (p:Ad) (j:Aa Ad) (g:Aa (hH×V)),C=[.ref p]/\eT X.K H p (j.map V.ref)/\Aj H j g/\g.length<=1000/\∀ d,H d=none->Q (.ref d) (upd H d (.k (pM [] g)))):=by
 intro E s σ H C us Q I r h;obtain⟨p,j,g,rfl,U,D,hz,q⟩:=h;obtain⟨u,rfl,B⟩:=nM r;cases B;obtain⟨c,F,⟨o,n,e,L,M,N⟩,_⟩:=I.list U;have f:=F.length;rw[aB] at f;have Z:j.length=g.length:=D.length;obtain⟨more,G,J⟩:=Tn I.hok D;have T:=G.length;have b:∀ (i:Nat) v,c[i]?=some v->∃ t,j[i]?=some t/\v = .ref t:=by
  intro i v y;have hi:i<c.length:=(aK.mp y).1;have:i<j.length:=by omega
  obtain⟨u,hu,B⟩:=F.get (i:=i) (x:=V.ref j[i]) (by simp[this]);rw[hu] at y;cases y;cases B;exact⟨j[i],by simp[this],rfl⟩
 refine DT (knd:=nY X.prog X.w) (more:=more) (I.ok.hd l) e L M N (by rw[aP];omega) ?_ (by rw[aP];exact gE (dH (show c.length<=1000 by omega) (by decide))) λh' tk W Y=>?_
 .intro i v y;obtain⟨t,ht,rfl⟩:=b i v (by simpa using y);obtain⟨o,m,k,kv,x,z,O,P,R,S⟩:=J i t ht;exact⟨t,o,m,k,kv,x,rfl,z,O,P,R,S⟩
 .have A:(pM [] g).length<=sizeLine:=by
   have z:=Ic g [];rw[iB] at z;exact gE (dH (show (pM [] g).length<=1000 by omega) (by decide))
  refine⟨.ref s.heap.objs.size,_,I.laid (a:=s.heap.objs.size) (o:=.k (pM [] g)) (t':=tk) Y (aH _) ?_,rfl,q _ I.fresh⟩;exact At A (eI.mpr (eC (aX I.big))) (G.merge .nil) W
end
noncomputable def Gu (o:Ab Af) (N:Aa Af) (kind:Af->Ab NameKind) (g:Scope) (T j:Aa Af) (l:Aa Nat):Bool :=
 decide (g.names.filter (λp=>p.2 == .cell)=o.toList.map λn=>(n,NameKind.cell))&&o.all (λa=>g.names.lookup a == some .cell)&&g.names.all (λp=>p.2 != .free||kind p.1 == some .cell) &&
 g.names.all (λp=>p.2 != .local||g.names.lookup p.1 == some .local) &&
 (j.zip l).all (λp=>decide (N[p.2]?=some p.1)&&g.names.lookup p.1 == some .free)&&j.length == l.length
abbrev Be:=Gu none
noncomputable def oU (T:Aa Af) (g:Aa Nat) (j:St):St:=T.map (λ_=>none)++g.map (λi=>(j[i]?).join)
noncomputable def rH (X:Cx) (p:Aa Af) (g:Scope) (o:Aa (Af×Ad)) (C:Ad) (l:Ae) (j:Hp) (r:Aa Ad):Cx :=
 { prog:=X.prog,w:=X.w,K:=X.K,mg:=X.mg,base:=X.base,A:=X.A,N:=p,s₀:=l,H₀:=j,env:=compEnvC g o C X.env,outer:=X.stack,stack:=X.stack,ex:=r, fn:=λx=>(o.lookup x).isNone,calm:=X.calm,pn:=[],xe:=λ_ _=>False }
def tF (X:Cx) (g:Aa Expr) (t:TT):Prop :=
 ∀ (a:Aa (Ad×Obj)) (s:Ae) (b:St) (H:Hp) (Q:Bool->Hp->Prop),Inv X a b H s->t b H Q ->
  wpAny (model X.prog X.w) X.A (forIn g true λc r=>if r=true then do let ok <- isTrue c X.env (eval c X.env);pure (ForInStep.yield ok) else pure (ForInStep.yield r)) (TP X a b Q) X.xe s
def A6:TT:=λ_ H Q=>Q true H
theorem Bz {X:Cx}:tF X [] A6:=λa s b H Q I h=>wpAny_tests_nil ⟨H,I,h⟩
theorem I3 {X:Cx}(h:PT X c t):tF X [c] t:=λa s b H Q I hw=>wpAny_tests_one (h a s b H Q I hw)
def yY (T:Aa Af) (j:Aa Nat) (J:It) (g:TG) (r:TT) (p:TE) (C:St) (o:Hp) (Q:VK) (D:Ad):Prop :=
 ∃ W:Nat->Nat->Aa V->St->Hp->Prop,(∃ m,W 0 m [] (oU T j C) (upd o D (.l [])))/\∀ i m c h d,W i m c h d ->
  (J.stop i d/\Q (.ref D) d)\/(J.go i d/\∃ (N:St->V->Hp->Prop) (F:St->Hp->Prop),(∀ a v k,N a v k->k D=some (.l c)/\c.length<sizeLine/\∃ f,f<m/\W (i+1) f (c++[v]) a (upd k D (.l (c++[v]))))/\(∀ a e,F a e->∃ f,f<m/\W (i+1) f c a e) /\ ∀ x n,J.yld i d x n->g x h n λa q=>r a q λb e=>if b=true then p a e (N a) else F a e)
def Bx (T:Aa Af) (j:Aa Nat) (p:TI) (g:TG) (o:TT) (l:TE):TE:=λb H Q=>p b H λJ a=>∀ D,a D=none->yY T j J g o l b a Q D
theorem Gb:∀ (names:Aa (Af×NameKind)) (g:Aa (Af×Ad)),(∀ p∈names,p.2 = .free->∃ c,env.cells.lookup p.1=some c) ->
  (∀ x c,g.lookup x=some c->env.cells.lookup x=some c) ->
  ∃ j,(forIn names g λx r=>if (x.2 == NameKind.free)=true then (cellOf env x.1 >>= λa=>pure (ForInStep.yield ((x.1,a)::r))) else pure (ForInStep.yield r):Sem (Aa (Af×Ad)))=pure j /\
   (∀ x c,j.lookup x=some c->env.cells.lookup x=some c)/\(∀ x,(x,NameKind.free)∈names->(j.lookup x).isSome=true)/\(∀ x,(g.lookup x).isSome=true->(j.lookup x).isSome=true)
 | [],g,_,i=>⟨g,rfl,i,λx h=>by simp at h,λ_ h=>h⟩
 | (n,k)::r,g,v,i=>by
  by_cases w:k = .free
  .subst w;obtain⟨c,z⟩:=v (n,.free) aG rfl;have u:∀ x d,((n,c)::g).lookup x=some d->env.cells.lookup x=some d:=by
    intro x d h;rw[cS] at h;cases e:x == n with
    | true=>rw[e] at h;have:=jF.mp e;subst this;cases h;exact z
    | false=>rw[e] at h;exact i x d h
   obtain⟨j,m,s,t,f⟩:=Gb r ((n,c)::g) (λp y=>v p (aN _ y)) u;have A:(((n,c)::g).lookup n).isSome=true:=by rw[cS];simp
   refine⟨j,?_,s,λx b=>?_,λx b=>f x ?_⟩
   .rw[jO];simp only[jG,eF];have:cellOf env n=pure c:=by unfold cellOf;rw[z]
    rw[this];exact m
   .rcases aF.mp b with q | q
    .cases q;exact f _ A
    .exact t x q
   .rw[cS];cases e:x == n with
    | true=>rfl
    | false=>exact b
  .obtain⟨j,m,s,t,f⟩:=Gb r g (λp y=>v p (aN _ y)) i;refine⟨j,?_,s,λx b=>?_,f⟩
   .rw[jO];have:(k == NameKind.free)=false:=by simpa using w
    simp only[this,eS,eE];exact m
   .rcases aF.mp b with q | q
    .cases q;exact absurd rfl w
    .exact t x q
theorem T7 (o:∀ p∈g.names,p.2 = .free->∃ c,j.cells.lookup p.1=some c) :
  ∃ l,closureFor g j=pure l/\(∀ x c,l.lookup x=some c->j.cells.lookup x=some c)/\(∀ x,(x,NameKind.free)∈g.names->(l.lookup x).isSome=true):=by
 obtain⟨l,e,d,f,_⟩:=Gb (env:=j) g.names [] o (λx c h=>by simp at h);refine⟨l,?_,d,f⟩;simp only[closureFor];have b:(forIn g.names [] λx r=>if (x.2 == NameKind.free)=true then (cellOf j x.1 >>= λa=>pure (ForInStep.yield ((x.1,a)::r))) else pure (ForInStep.yield r):Sem (Aa (Af×Ad)))=pure l:=e
 first
  | exact b
  | (simp only[bind_pure];exact b)
theorem AK (h:g.names.lookup x=some k):∃ j,(relabel g env).names.lookup x=some j/\(j=k\/(k = .free/\j = .cell)):=by
 have:∀ names:Aa (Af×NameKind),names.lookup x=some k->∃ j,(names.map λ(p:Af×NameKind)=>match p with | (n,k)=>if (k == NameKind.free&&env.scope.kind == .function&&env.kindOf n == some .cell) then (n,NameKind.cell) else (n,k)).lookup x=some j/\(j=k\/(k = .free/\j = .cell)):=by
  intro names;induction names with
  | nil=>intro h;simp at h
  | cons p r b =>
   obtain⟨n,c⟩:=p;intro h;rw[aW];by_cases a:(c == NameKind.free&&env.scope.kind == .function&&env.kindOf n == some .cell)=true
   .simp only[a,eF];rw[cS] at h |-;cases e:x == n with
    | true =>
     rw[e] at h;cases h;have:k=NameKind.free:=by
      have:=(bX _ _).mp ((bX _ _).mp a).1;exact jF.mp this.1
     exact⟨_,rfl,.inr ⟨this,rfl⟩⟩
    | false=>rw[e] at h;exact b h
   .simp only[a,eE];rw[bB (by simp)];rw[cS] at h |-;cases e:x == n with
    | true=>rw[e] at h;cases h;exact⟨_,rfl,.inl rfl⟩
    | false=>rw[e] at h;exact b h
 exact this g.names h
theorem CM {R:Result->Ae->Prop}{iter:Expr}(I:Nat->Ae->Prop)
  (ae:∀ n s,I n s->wpAny (model g w) A (pyNext it) (λr l=>match r with
   | none=>R (.ok .next) l
   | some v=>wpAny (model g w) A (letOwnedTupleGo target it v) (λ_ o=>wpAny (model g w) A (assign target j v) (λ_ C =>
     wpAny (model g w) A (forIn ac true λc r=>if r=true then do let ok <- isTrue c j (eval c j);pure (ForInStep.yield ok) else pure (ForInStep.yield r)) (λok p =>if ok=true then wpAny (model g w) A (eval ab j) (λx J =>wpAny (model g w) A (call (.builtin "list.append") [aa,x]) (λ_ T=>∃ m,m<n/\I m T) (λ_ _=>False) J) (λ_ _=>False) p else ∃ m,m<n/\I m p) (λ_ _=>False) C) (λ_ _=>False) o) (λ_ _=>False) l) (λ_ _=>False) s)
  (n:Nat) (h:I n s) :
  codeAny (model g w) A (.compLoop (.ListComp ab [⟨target,iter,ac,0⟩] U pos) 0 it aa j) R s:=by
 refine codeAny_loop rfl I (λn s q=>?_) n h;show wpAny _ A ((compTurn (.ListComp ab [⟨target,iter,ac,0⟩] U pos) 0 it aa j).onRaise (λx=>do noteFrame x j;theTreesLotGoes x)) _ _ s;refine wpAny_noted ?_;rw[compTurn_list];refine aA (jK (aA (dD (ae n s q) (λr l b=>?_) λ_ _ a=>a.elim)));cases r with
 | none=>exact aD b
 | some v =>
  refine aA (dD b (λ_ o e=>?_) λ_ _ a=>a.elim);refine aA (dD e (λ_ C f=>aA (dD f (λok p d=>?_) λ_ _ a=>a.elim)) λ_ _ a=>a.elim);cases ok with
  | false=>exact aD ⟨rfl,d⟩
  | true =>
   exact aA (aA (dD d (λx J i=>aA (dD i (λ_ T k=>aD (aD ⟨rfl,k⟩)) λ_ _ a=>a.elim)) λ_ _ a=>a.elim))
structure LcO (nw:Option Str) (N:List Str) (kind:Str->Option NameKind) (scope:Scope) (capN:List Str) (caps:List Nat):Prop where
 one:scope.names.filter (λp=>p.2 == .cell)=nw.toList.map λn=>(n,NameKind.cell)
 cel:∀ nm,nw=some nm->scope.names.lookup nm=some .cell
 free:∀ p∈scope.names,p.2 = .free->kind p.1=some .cell
 loc:∀ p∈scope.names,p.2 = .local->scope.names.lookup p.1=some .local
 cap:∀ (j:Nat) (x:Str),capN[j]?=some x->∃ i:Nat,caps[j]?=some i/\N[i]?=some x/\scope.names.lookup x=some .free
 len:capN.length=caps.length
theorem Ke (h:Gu r N kind o T l g=true):LcO r N kind o l g:=by
 unfold Gu at h;simp only[bX] at h;obtain⟨⟨⟨⟨⟨d,c⟩,f⟩,k⟩,m⟩,n⟩:=h;have q:l.length=g.length:=jF.mp n;refine⟨eG d,λu e=>?_,λp a e=>?_,λp a e=>?_,λj x e=>?_,q⟩
 .rw[e] at c;exact jF.mp c
 .have:=eA.mp f p a;rw[e] at this
  simpa using this
 .have:=eA.mp k p a;rw[e] at this
  simpa using this
 .have t:j<l.length:=(aK.mp e).1;have b:g[j]?=some (g[j]'(by omega)):=aI (by omega);have s:(x,g[j]'(by omega))∈l.zip g:=aL (i:=j) (by rw[List.getElem?_zip_eq_some];exact⟨e,b⟩);have:=eA.mp m _ s;simp only[bX,jW,jF] at this;exact⟨_,b,this.1,this.2⟩
theorem LcO.only (h:LcO o N kind g j l) (x:Af) (e:g.names.lookup x=some .cell):o=some x:=by
 have a:(x,NameKind.cell)∈g.names.filter (λp=>p.2 == .cell):=hZ.mpr ⟨cZ e,rfl⟩;rw[h.one] at a;cases o with
 | none=>cases a
 | some n=>rw[(Prod.mk.inj (aQ.mp a)).1]
theorem P6:∀ {g:Scope},(relabel g j).names.lookup x=some k->(k = .cell\/k = .free)->g.names.lookup x=some .cell\/g.names.lookup x=some .free:=by
 intro g;unfold relabel;have all:∀ names:Aa (Af×NameKind),(names.map λ(n,k)=>if (k == NameKind.free&&j.scope.kind == .function&&j.kindOf n == some .cell) then (n,NameKind.cell) else (n,k)).lookup x=some k->(k = .cell\/k = .free)->names.lookup x=some .cell\/names.lookup x=some .free:=by
  intro names;induction names with
  | nil=>intro h _;simp at h
  | cons p r d =>
   intro h b;obtain⟨n,e⟩:=p;rw[aW] at h;rw[cS];cases c:x == n with
   | true =>
    by_cases a:(e == NameKind.free&&j.scope.kind == .function&&j.kindOf n == some .cell)=true
    .simp only[bX,jF] at a;exact .inr (by rw[a.1.1])
    .simp only[a,eS,eE,cS,c] at h;cases h;rcases b with q | q
     .exact .inl (by rw[q])
     .exact .inr (by rw[q])
   | false =>
    by_cases a:(e == NameKind.free&&j.scope.kind == .function&&j.kindOf n == some .cell)=true
    .simp only[a,eF,cS,c] at h;exact d h b
    .simp only[a,eS,eE,cS,c] at h;exact d h b
 exact all g.names
theorem G2:∀ (names:Aa (Af×NameKind)) (n:Nat) (g:Aa (Af×Ad)) (h:Ag),names.filter (λp=>p.2 == .cell)=[]->cellsFrom n names g=g/\pushCells h names=h
 | [],_,_,_,_=>⟨rfl,rfl⟩
 | (y,k)::r,n,g,h,e=>by
  unfold cellsFrom pushCells;by_cases a:(k == NameKind.cell)=true
  .rw[List.filter_cons_of_pos (by exact a)] at e;cases e
  .rw[List.filter_cons_of_neg (by exact a)] at e;rw[bB a,bB a];exact G2 r n g h e
theorem Jb:∀ (names:Aa (Af×NameKind)) (n:Nat) (g:Aa (Af×Ad)) (h:Ag),names.filter (λp=>p.2 == .cell)=[(j,.cell)]->cellsFrom n names g=(j,n)::g/\pushCells h names=h.push { cls:=.type "cell",data:=.cell none }
 | [],_,_,_,e=>by cases e
 | (y,k)::r,n,g,h,e=>by
  unfold cellsFrom pushCells;by_cases a:(k == NameKind.cell)=true
  .rw[List.filter_cons_of_pos (by exact a)] at e;have b:=(List.cons.inj e).1;have c:=(List.cons.inj e).2;rw[bA a,bA a];have:=G2 r (n+1) ((y,n)::g) (h.push { cls:=.type "cell",data:=.cell none }) c;rw[this.1,this.2,(Prod.mk.inj b).1];exact⟨rfl,rfl⟩
  .rw[List.filter_cons_of_neg (by exact a)] at e;rw[bB a,bB a];exact Jb r n g h e
def vU (g:Ab Af) (C:Ad):Aa (Af×Ad):=match g with
 | none=>[]
 | some a=>[(a,C+1)]
theorem BJ {globals:Ad}(one:g.names.filter (λp=>p.2 == .cell)=T.toList.map λn=>(n,NameKind.cell))
  (h:∀ j,j.Ns s.heap.objs.size (λ_=>none)->(∀ J,T=some J->j.IsCell (s.heap.objs.size+1) none)->(∀ b o,s.heap.get? b=some o->j.get? b=some o) ->Q { scope:=g,locals:=s.heap.objs.size,globals:=globals,cells:=vU T s.heap.objs.size++r,qual:=C,func:=none,code:=l.code,frame:=l.frame,builtins:=l.builtins } { s with heap:=j }) :
  wpAny M A (newFunctionEnv g globals r [] C none .none (some l)) Q E s:=by
 simp only[newFunctionEnv,Option.isSome_some,eF];refine aA (wpAny_alloc ?_);refine aA (wpAny_layCells _ (λname kind I=>by cases i:kind == NameKind.cell<;>simp[i]) _ _ _ _ ?_);have z:(s.heap.push { cls:=.type "dict",data:=.dict #[] }).objs.size=s.heap.objs.size+1:=cR ..;have a:=Heap.Ns.new s.heap (.type "dict");show wpAny M A _ Q E _;cases T with
 | none =>
  obtain⟨c,f⟩:=G2 g.names (s.heap.push { cls:=.type "dict",data:=.dict #[] }).objs.size r (s.heap.push { cls:=.type "dict",data:=.dict #[] }) one;rw[c,f];exact aA (aD (aD (h _ a (λ_ e=>nomatch e) λb o e=>aE _ e)))
 | some J =>
  obtain⟨c,f⟩:=Jb g.names (s.heap.push { cls:=.type "dict",data:=.dict #[] }).objs.size r (s.heap.push { cls:=.type "dict",data:=.dict #[] }) one;have d:cellsFrom ({ s with heap:=s.heap.push { cls:=.type "dict",data:=.dict #[] } }:Ae).heap.objs.size g.names r=(J,s.heap.objs.size+1)::r:=by rw[<- z];exact c
  rw[d,f];refine aA (aD (aD (h _ (a.keeps λb o e=>aE _ e) (λ_ _=>?_) λb o e=>aE _ (aE _ e))));exact⟨_,by rw[<- z];exact aR _ rfl,rfl⟩
noncomputable def Tu (j:Ab Af) (g:Aa (Af×Ad)):Af->Bool:=match j with
 | none=>λx=>(g.lookup x).isNone
 | some a=>λx=>x == a||(g.lookup x).isNone
def sE (p:Ab Af) (X:Cx) (r:Aa Af) (g:Scope) (o:Aa (Af×Ad)) (C:Ad) (l:Ae) (j:Hp) (I:Aa Ad):Cx :=
 { prog:=X.prog,w:=X.w,K:=X.K,mg:=X.mg,base:=X.base,A:=X.A,N:=r,s₀:=l,H₀:=j,env:=compEnvC g (vU p C++o) C X.env,outer:=X.stack,stack:=X.stack,ex:=I, fn:=Tu p o,calm:=X.calm,pn:=[],xe:=λ_ _=>False }
section
variable {X:Cx}
theorem Inv.moved {t':Nat}{fp:Aa Ad}(I:Inv X g p H s) (j:∀ b∈fp,qI X g H b) (k:∀ b o,b∉fp->s.heap.get? b=some o->l.get? b=some o):Inv X g p H { s with heap:=l,toks:=t' }:=by
 have d:∀ b u,H b=some u->b∉fp:=λb u e z=>by rw[(j b z).1] at e;cases e
 refine I.step (g':=s.gens) (d':=s.drawn) (ch:=fp) (λb f=>⟨(j b f).2.2.2.1,(j b f).2.1,(j b f).2.2.2.2.1,(j b f).2.2.2.2.2⟩) (λb o _ _ a e _=>k b o a e) (λb o _ _ a e _=>⟨o.slots,k b o a e⟩) (λ_ _ _ _ n=>n)
  (λb o a e=>⟨o,k b o a e⟩) (λ_ _ e=>e) (λ_ _ _ e=>e) (λb x e=>⟨#[],by rw[e];simp⟩) (λm t=>?_) (λb u e=>?_) I.bare
 .obtain⟨o,i,h,w,r⟩:=t;exact⟨o,i,h,k _ o (λz=>(j _ z).2.1 rfl) w,r⟩
 .refine (I.hok b u e).stay (λc v a q=>k c v ?_ q) (λ_ q=>q) λ_ _ q=>q
  rcases a with z | z
  .rw[z];exact d b u e
  .exact d c _ z
end
section
variable {X:Cx}
theorem Kt {iter:Expr}(T U:Aa Af) (aa:Aa Nat) (hc:X.calm=true) (hi:PI X tg iter wi)
  (hk:j.kind = .function) (O:LcO nw X.N X.env.kindOf j U aa)
  (hg:∀ ae ab C cl fp,PG (sE nw X (T++U) j cl C ae ab fp) tg g)
  (ht:∀ ae ab C cl fp,tF (sE nw X (T++U) j cl C ae ab fp) af tt)
  (he:∀ ae ab C cl fp,PE (sE nw X (T++U) j cl C ae ab fp) a4 te)
  (hs:∀ x,foldedSetIterable iter X.env x=pure x)
(I:Inv X ac σ H s) (h:Bx T aa wi g tt te σ H Q)
  (fin:∀ (C D:Ad) (s6:Ae) (H5:Hp),Inv X ac σ H5 s6->Q (.ref D) H5->qI X ac H5 C->(∃ m,s6.heap.Ns C m)->compPost (model X.prog X.w) X.A X.xe a2 Qs (.ref D) C (.ok .next) s6) :
  wpAny (model X.prog X.w) X.A (comprehension (.ListComp a4 [⟨tg,iter,af,0⟩] j pos) j X.env (firstIterPos [⟨tg,iter,af,0⟩] pos) (newList []) (firstAsync [⟨tg,iter,af,0⟩]) (firstIter [⟨tg,iter,af,0⟩] X.env) a2) Qs X.xe s:=by
 have ax:∀ p∈j.names,p.2 = .free->∃ c,X.env.cells.lookup p.1=some c:=λp hp e=>I.ok.has p.1 (.inl (O.free p hp e))
 obtain⟨cl,aw,P,a3⟩:=T7 ax;refine wpAny_comprehension_free (use:=a2) rfl hs aw hk O.loc (hO (hi ac s σ H _ I h) λv s1 h1=>hO h1 λb4 s2 h2=>?_);obtain⟨it,fp,tn,J,H2,rfl,I2,B,bb,f2,hD⟩:=h2;refine eZ ?_;have f:Inv X ac σ (upd H2 s2.heap.objs.size (.l [])) { s2 with heap:=s2.heap.push { cls:=.type "list",data:=.seq ([]:Aa Ac).toArray } }:=I2.lnew (t':=s2.toks) (its:=[]) (ys:=[]) .nil (cU _);have fD:H2 s2.heap.objs.size=none:=I2.fresh;obtain⟨W,⟨m0,w0⟩,ao⟩:=hD s2.heap.objs.size fD;generalize bo:s2.heap.objs.size=D at f fD w0 ao |-;have bz:tn 0 (s2.heap.push { cls:=.type "list",data:=.seq ([]:Aa Ac).toArray }):=B.keep _ _ _ bb λb _ o e=>aE _ e
 have a9:∀ b∈fp,b<D:=λb a=>by
  obtain⟨o,e,_⟩:=B.obj _ _ bb b a;rw[<- bo];exact aM e
 generalize bt:({ s2 with heap:=s2.heap.push { cls:=.type "list",data:=.seq ([]:Aa Ac).toArray } }:Ae)=K at f |-;have ag:tn 0 K.heap:=by rw[<- bt];exact bz
 generalize bp:upd H2 D (.l [])=M at f w0;have f3:∀ b∈fp,qI X ac M b:=λb a=>by
  obtain⟨z0,z⟩:=f2 b a;exact⟨by rw[<- bp,kK (aX (a9 b a))];exact z0,z⟩
 refine BJ O.one (λZ V S old=>?_);have av:M K.heap.objs.size=none:=f.fresh;have ak:M (K.heap.objs.size+1)=none:=f.hok.fresh (gS _);generalize hC:K.heap.objs.size=C at V S av ak |-;have ba:∀ b o,K.heap.get? b=some o->b≠C:=λb o e=>by rw[<- hC];exact aX (aM e)
 have a5:∀ b∈fp,b≠C:=λb a=>by
  obtain⟨o,e,_⟩:=B.obj _ _ ag b a;exact ba b o e
 have a6:∀ b∈fp,b∉rL X.stack:=λb a z=>by
  rcases aF.mp (f.stkSub b z) with q | q
  .exact (f3 b a).2.1 q
  .exact (f3 b a).2.2.1 q
 have bm:∀ b∈fp,b<C:=λb a=>by
  obtain⟨o,e,_⟩:=B.obj _ _ ag b a;rw[<- hC];exact aM e
 have look:∀ x c,(vU nw C++cl).lookup x=some c->(nw=some x/\c=C+1)\/(nw≠some x/\cl.lookup x=some c):=λx c e=>by
  cases nw with
  | none=>exact .inr ⟨(λz=>nomatch z),e⟩
  | some nm =>
   have e:((nm,C+1)::cl).lookup x=some c:=e;rw[cS] at e;cases a:x == nm with
   | true=>rw[a] at e;cases e;exact .inl ⟨by rw[jF.mp a],rfl⟩
   | false=>rw[a] at e;exact .inr ⟨(λz=>by cases z;simp at a),e⟩
 have lift:∀ x c,nw≠some x->cl.lookup x=some c->(vU nw C++cl).lookup x=some c:=λx c n e=>by
  cases nw with
  | none=>exact e
  | some nm =>
   show ((nm,C+1)::cl).lookup x=some c;rw[cS,show (x == nm)=false from eI.mpr λz=>n (by rw[z])];exact e
 have ai:∀ x c,cl.lookup x=some c->c<C:=λx c e=>by
  obtain⟨v,o,ho,_⟩:=f.cell x c (P x c e);rw[<- hC];exact aM ho
 have aj:∀ b∈fp,∀ x c,(vU nw C++cl).lookup x=some c->c≠b:=λb a x c e=>by
  rcases look x c e with⟨_,q⟩ | ⟨_,q⟩
  .exact λz=>absurd (bm b a) (by rw[<- z,q];exact Nat.not_lt.mpr (gS C))
  .exact (f3 b a).2.2.2.2.1 x c (P x c q)
 have a8:(sE nw X (T++U) j cl C K M fp).Ok:=by
  refine⟨f.ok.mod,hk,f.ok.glob,f.ok.blt,Nat.le_of_eq hC,λx y c R E=>?_,λx hx=>?_,λx c R E=>?_,f.ok.hd,f.ok.frames,.inl rfl,λb a=>⟨a5 b a,λx c e=>aj b a x c e⟩,λb o e=>f.bs b o e,?_,λb o e z=>?_,λb a=>a6 b a,f.stack,f.stkFree⟩
  .rcases look x c R with⟨q1,r1⟩ | ⟨q1,r1⟩
   .rcases look y c E with⟨q2,r2⟩ | ⟨q2,r2⟩
    .exact bT (q1.symm.trans q2)
    .exact absurd (ai y c r2) (by rw[r1];exact Nat.not_lt.mpr (gS C))
   .rcases look y c E with⟨q2,r2⟩ | ⟨q2,r2⟩
    .exact absurd (ai x c r1) (by rw[r2];exact Nat.not_lt.mpr (gS C))
    .exact f.ok.inj x y c (P x c r1) (P y c r2)
  .have bu:(relabel j X.env).names.lookup x=some .cell\/(relabel j X.env).names.lookup x=some .free:=hx;have hf:j.names.lookup x=some .cell\/j.names.lookup x=some .free:=by
    rcases bu with q | q
    .exact P6 q (.inl rfl)
    .exact P6 q (.inr rfl)
   show ∃ c,(vU nw C++cl).lookup x=some c;by_cases a:nw=some x
   .subst a;exact⟨C+1,by show ((x,C+1)::cl).lookup x=_;rw[cS,jG]⟩
   .rcases hf with q | q
    .exact absurd (O.only x q) a
    .obtain⟨c,e⟩:=cX.mp (a3 x (cZ q));exact⟨c,lift x c a e⟩
  .rcases look x c E with⟨q,r⟩ | ⟨q,r⟩
   .show K.heap.objs.size<=c;rw[r,hC];exact gS C
   .cases nw with
    | none =>
     have R:(cl.lookup x).isNone=true:=R;rw[r] at R;cases R
    | some nm =>
     have R:(x == nm||(cl.lookup x).isNone)=true:=R;rw[r,show (x == nm)=false from eI.mpr λz=>q (by rw[z])] at R;cases R
  .exact bM f.ok.bsz f.sz
  .obtain⟨z0,z1,z2,z3,_⟩:=f3 b z;rcases z3 with q | q
   .exact f.ok.noex b o e q
   .exact absurd (aT (aM e) (bM f.ok.bsz q)) (cW _)
 have I4:Inv (sE nw X (T++U) j cl C K M fp) [] (oU T aa σ) M { K with heap:=Z }:=by
  refine⟨a8,rfl,f.bare,Un.kept old,⟨_,V,λi x v R E e3=>?_⟩,λx c e=>?_,av,λx c e=>?_,λp hp=>absurd (show p∈([]:Aa (Ad×Obj)) from hp) (by simp),f.hok.kept old,?_⟩
  .have R:(T++U)[i]?=some x:=R;unfold oU at E;by_cases hi:i<T.length
   .rw[cK (by simpa using hi),bG] at E;cases q:T[i]? with
    | none=>rw[q] at E;cases E
    | some z=>rw[q] at E;cases E
   .rw[bN (by omega)] at R;rw[bN (by simpa using hi),bG,aB] at E;obtain⟨k,k1,k2,k3⟩:=O.cap _ x R;rw[k1] at E;have E:(σ[k]?).join=some v:=bT E;have bj:σ[k]?=some (some v):=by
     cases q:σ[k]? with
     | none=>rw[q] at E;cases E
     | some z=>rw[q] at E;exact dF some E
    have Y:X.env.kindOf x=some .cell:=O.free (x,.free) (cZ k3) rfl;obtain⟨m,hn,hl⟩:=f.loc;obtain⟨u,r,l⟩:=hl k x v k2 bj (.inr (.inl Y));refine⟨u,r,.inr ⟨?_,?_⟩⟩
    .obtain⟨k',e5,e6⟩:=AK (env:=X.env) k3;rcases e6 with z | ⟨_,z⟩
     .subst z;exact .inr e5
     .subst z;exact .inl e5
    .rcases l with⟨l1,_⟩ | ⟨_,c,e7,o,ay,az⟩
     .rw[Y] at l1;cases l1
     .obtain⟨c',e8⟩:=cX.mp (a3 x (cZ k3));have:=P x c' e8;rw[e7] at this;cases this;exact⟨c,lift x c (λz=>by rw[O.cel x z] at k3;cases k3) e8,o,old c o ay,az⟩
  .rcases look x c e with⟨n,q⟩ | ⟨_,q⟩
   .exact⟨none,q▸S x n⟩
   .obtain⟨v,o,ay,az⟩:=f.cell x c (P x c q);exact⟨v,o,old c o ay,az⟩
  .rcases look x c e with⟨_,q⟩ | ⟨_,q⟩
   .exact q▸ak
   .exact f.freeC x c (P x c q)
  .show (oU T aa σ).length=(T++U).length;unfold oU;rw[bC,bC,aB,aB,O.len]
 have au:∀ {H':Hp},(∀ b∈fp,H' b=none)->∀ b∈fp,qI (sE nw X (T++U) j cl C K M fp) [] H' b:=λhn b a =>
  ⟨hn b a,a5 b a,a6 b a,.inl a,λx c e=>aj b a x c e,λp hp=>absurd (show p∈([]:Aa (Ad×Obj)) from hp) (by simp)⟩
 have bc:tn 0 Z:=B.keep _ _ _ ag λb _ o e=>old b o e
 have b0:W 0 m0 [] (oU T aa σ) M:=w0;have an:codeAny (model X.prog X.w) X.A (.compLoop (.ListComp a4 [⟨tg,iter,af,0⟩] j pos) 0 (.ref it) (.ref D) (compEnvC j (vU nw C++cl) C X.env))
   (compPost (model X.prog X.w) X.A X.xe a2 Qs (.ref D) C) { K with heap:=Z }:=by
  refine CM (λn s'=>∃ i ys be H',Inv (sE nw X (T++U) j cl C K M fp) [] be H' s'/\tn i s'.heap/\(∀ b∈fp,H' b=none)/\W i n ys be H') ?_ m0 ⟨0,[],oU T aa σ,M,I4,bc,λb a=>(f3 b a).1,b0⟩;rintro n s5 ⟨i,ys,ah,H5,I5,bd,a7,w5⟩;rcases ao i n ys ah H5 w5 with⟨stop,qn⟩ | ⟨go,N,F,hN,hF,step⟩
  .refine hO (B.done (sE nw X (T++U) j cl C K M fp) rfl rfl rfl hc i [] s5 ah H5 _ I5 (au a7) bd stop) λr s6 t=>?_
   obtain⟨hr,I6⟩:=t;subst hr;obtain⟨m6,br,_⟩:=I6.loc;have bq:H5 C=none:=I6.free;have ub:=I6.base;have a0:=f.fpOk (Nat.le_of_eq hC) av;refine fin C D s6 H5 (Inv.call' (s':=s6) (ch:=fp) f I6.os ?_ I6.hok I6.bare (λb a=>⟨(f3 b a).2.2.2.1,(f3 b a).2.1,(f3 b a).2.2.2.2.1,(f3 b a).2.2.2.2.2⟩)) qn ⟨bq,a0.2⟩ ⟨m6,br⟩;exact⟨λb o q n a hx=>ub.keep b o q n a hx,λb o q n a hx=>ub.slot b o q n a hx,ub.free,λb o q hx=>ub.there b o q hx,ub.tups,ub.frzs,ub.tbls⟩
  .refine hO (B.item (sE nw X (T++U) j cl C K M fp) rfl rfl rfl hc i [] s5 ah H5 _ I5 (au a7) bd go) λr s6 t=>?_
   obtain⟨u,hr,h6⟩:=t;subst hr;refine hO h6 λ_ s7 t=>?_
   obtain⟨x,H7,I7,r7,y7,a1,bn⟩:=t;have bh:=I7.pinned (au bn) (B.obj _ _ a1);have G:∀ {L:St} {H8:Hp} {s8:Ae},Inv (sE nw X (T++U) j cl C K M fp) ([]++zM fp s7.heap) L H8 s8->tn (i+1) s8.heap/\(∀ b∈fp,H8 b=none):=λ{L H8 s8} I8=>by
    refine⟨B.keep _ _ _ a1 λb a o e=>(I8.pin (b,o) (aY _ (aY _ (Dl a e)))).1,λb a=>?_⟩;obtain⟨o,e,d⟩:=B.obj _ _ a1 b a;exact (I8.pin (b,o) (aY _ (aY _ (Dl a e)))).2.1
   refine hO (hg K M C cl fp _ s7 ah H7 x u _ bh r7 (step x H7 y7)) λ_ s8 t=>?_
   obtain⟨L,H8,I8,q8⟩:=t;refine hO (ht K M C cl fp _ s8 L H8 _ I8 q8) λok s9 t=>?_
   obtain⟨H9,I9,q9⟩:=t;cases ok with
   | false =>
    rw[bB (by simp)] at q9;rw[bB (by simp)];obtain⟨m',hm,w9⟩:=hF _ _ q9;exact⟨m',hm,i+1,ys,L,H9,I9.unpinned,(G I9).1,(G I9).2,w9⟩
   | true =>
    rw[bA rfl] at q9;rw[bA rfl];refine hO (he K M C cl fp _ s9 L H9 _ I9 q9) λvv bx t=>?_
    obtain⟨v,bf,bg,bw,bv⟩:=t;obtain⟨bi,b3,m',hm,b1⟩:=hN _ _ _ bv;refine hO (sV (X:=sE nw X (T++U) j cl C K M fp) _ bx L bf (.ref D) [v] (.ref D) [vv] (λ_ aq=>W (i+1) m' (ys++[v]) L aq) bg rfl (.cons bw .nil) ⟨D,ys,v,rfl,rfl,bi,b3,b1⟩) λ_ b5 t=>?_
    obtain⟨_,aq,ar,_,b2⟩:=t;exact⟨m',hm,i+1,ys++[v],L,aq,ar.unpinned,(G ar).1,(G ar).2,b2⟩
 exact codeAny_compStart_list an (B.self _ 0 _ _ _ bc an)
theorem T8 {D:Ad}(I:Inv X g J j p) (q:Q (.ref D) j) (r:qI X g j C) (l:∃ m,p.heap.Ns C m):compPost (model X.prog X.w) X.A X.xe none (EP X g J Q) (.ref D) C (.ok .next) p:=by
 obtain⟨m,l⟩:=l;refine⟨m,l,λd c=>⟨.ref D,j,I.moved (t':=p.toks) (fp:=[C]) (λb a=>?_) (λb o a e=>?_),rfl,q⟩⟩
 .rw[aQ.mp a];exact r
 .exact c.extBut b o (λz=>a (aQ.mpr z)) e
theorem Ai {iter:Expr}(T o:Aa Af) (r:Aa Nat) (hc:X.calm=true) (hi:PI X tg iter wi)
  (hk:j.kind = .function) (ho:Be X.N X.env.kindOf j T o r=true)
  (hg:∀ p l C U J,PG (rH X (T++o) j U C p l J) tg g)
  (ht:∀ p l C U J,tF (rH X (T++o) j U C p l J) ab tt)
  (he:∀ p l C U J,PE (rH X (T++o) j U C p l J) aa te)
  (hs:∀ x,foldedSetIterable iter X.env x=pure x:=by intro _;rfl) :
  PE X (.ListComp aa [⟨tg,iter,ab,0⟩] j pos) (Bx T r wi g tt te):=by
 intro a s e H Q I h;rw[eval_ListComp];exact Kt (nw:=none) T o r hc hi hk (Ke ho) hg ht he hs I h λC D d c I q J b=>T8 I q J b
end
structure Yields (J:It) (xs:List V) (R:Hp->Prop):Prop where
 go:∀ i H,i<xs.length->R H->J.go i H
 yld:∀ i H x H',i<xs.length->R H->J.yld i H x H'->H'=H/\xs[i]?=some x
 stop:∀ i H,i=xs.length->R H->J.stop i H
theorem Wj {K:kG}:Yields (xI K a) g (λH=>eT K H a g) :=
 ⟨λi H b r=>⟨g,g[i],r,aI b⟩,λi H x c b r y=>⟨y.1,y.2 g r⟩,λi H e r=>⟨g,r,by omega⟩⟩
theorem P7 {lo:Int}:Yields (qP lo n) ((List.range n).map λ(i:Nat)=>V.int (lo+(i:Int))) (λ_=>True) :=
 ⟨λi H a _=>by simpa [qP] using a,λi H x b a _ y=>⟨y.1,by rw[y.2];simp at a;simp[a]⟩,λi H e _=>by simp[qP,e]⟩
def uZ (z:Af):Aa V:=z.cps.toList.map λc=>V.str ⟨#[c]⟩
theorem BZ:Yields (sD z) (uZ z) (λ_=>True) :=
 ⟨λi H a _=>by simpa [sD,uZ,Str.length] using a,
  λi H x d a _ y=>by
   obtain⟨e,c,b,rfl⟩:=y;refine⟨e,?_⟩;unfold uZ;rw[bG,eO,b];rfl,
  λi H e _=>by simp[sD,e,uZ,Str.length]⟩
def Ie (o:St) (D:Ad) (Pv:Nat->Aa V->Hp->Prop) (i:Nat) (g:Aa V) (j:St):VK:=λv a=>(∃ t,j=t::o)/\a D=some (.l g)/\g.length<sizeLine/\Pv (i+1) (g++[v]) (upd a D (.l (g++[v])))
def L8 (l:St) (Pv:Nat->Aa V->Hp->Prop) (i:Nat) (o:Aa V) (g:St) (j:Hp):Prop:=(∃ t,g=t::l)/\Pv (i+1) o j
theorem Kd {R:Hp->Prop}{D:Ad}(Y:Yields J o R) (Pv:Nat->Aa V->Hp->Prop)
  (U:Pv 0 [] (upd T D (.l []))) (I:∀ i j H,i<=o.length->Pv i j H->R H)
  (hs:∀ i x j H,o[i]?=some x->Pv i j H->tt (some x::g.map (λi=>(r[i]?).join)) H λb C =>if b=true then te (some x::g.map (λi=>(r[i]?).join)) C (Ie (g.map (λi=>(r[i]?).join)) D Pv i j (some x::g.map (λi=>(r[i]?).join))) else L8 (g.map (λi=>(r[i]?).join)) Pv i j (some x::g.map (λi=>(r[i]?).join)) C)
  (hd:∀ j H,Pv o.length j H->Q (.ref D) H):yY [nm] g J (wK 0) tt te r T Q D:=by
 refine⟨λi m j d H=>m=o.length-i/\i<=o.length/\(∃ t,d=t::g.map (λi=>(r[i]?).join))/\Pv i j H,⟨o.length,by simp,cU _,⟨none,rfl⟩,U⟩,?_⟩;rintro i m j d c ⟨rfl,h,⟨t,rfl⟩,p⟩;by_cases a:i<o.length
 .refine .inr ⟨Y.go i c a (I i j c h p),Ie (g.map (λi=>(r[i]?).join)) D Pv i j,L8 (g.map (λi=>(r[i]?).join)) Pv i j,?_,?_,λx q y=>?_⟩
  .rintro n v z ⟨k,s,u,f⟩;exact⟨s,u,o.length-(i+1),by omega,rfl,a,k,f⟩
  .rintro n C ⟨k,f⟩;exact⟨o.length-(i+1),by omega,rfl,a,k,f⟩
  .obtain⟨rfl,w⟩:=Y.yld i c x q a (I i j c h p) y;exact hs i x j q w p
 .have e:i=o.length:=by omega
  subst e;exact .inl ⟨Y.stop _ _ rfl (I _ j c h p),hd j c p⟩
def uS:Expr->Bool
 | .Starred _ _=>false
 | _=>true
theorem Xk (h:uS e=true):starEach (e::j) g=(false,eval e g)::starEach j g:=by
 cases e<;>first | rfl | (cases h;done)
section
variable {X:Cx}
theorem lC (j:PE X e o) (l:PA X g t) (h:uS e=true:=by rfl):PA X (e::g) (tL o t):=sR j l (Xk h)
def CF (g:Aa Af):TA:=λ_ H Q=>Q (g.map V.str) H
theorem yE:∀ (l:Aa (Af×Nat×Pos)),PA X (l.map λp=>.Constant (.str p.1) p.2.1 p.2.2) (CF (l.map (·.1)))
 | []=>lO
 | a::r=>λpos b s c H Q I h=>lC (sT (x:=a.1) (j:=a.2.1) (pos:=a.2.2)) (yE r) (by rfl) pos b s c H Q I h
end
theorem E2 {R:Hp->Prop}{D:Ad}(Y:Yields J o R) (Pv:Nat->Aa V->Hp->Prop)
  (I:Pv 0 [] (upd C D (.l []))) (T:∀ i j H,i<=o.length->Pv i j H->R H)
  (U:∀ i x j H,o[i]?=some x->Pv i j H->te (some x::g.map (λi=>(r[i]?).join)) H (Ie (g.map (λi=>(r[i]?).join)) D Pv i j (some x::g.map (λi=>(r[i]?).join))))
  (hd:∀ j H,Pv o.length j H->Q (.ref D) H):yY [nm] g J (wK 0) A6 te r C Q D:=by
 refine Kd Y Pv I T (λi x j H a p=>?_) hd;unfold A6;dsimp only;rw[bA rfl];exact U i x j H a p
theorem Sr {R:Hp->Prop}{D:Ad}(Y:Yields J g R) (f:V->V) (T:j D=none) (C:∀ H,mZ j H->R H) (hl:g.length<=1000)
  (I:∀ (i:Nat) x H (k:VK),g[i]?=some x->mZ j H->k (f x) H->U (some x::r.map (λi=>(σ[i]?).join)) H k)
  (hd:Q (.ref D) (upd j D (.l (g.map f)))):yY [nm] r J (wK 0) A6 U σ j Q D:=by
 have h:∀ o,mZ j (upd j D o):=λo b u e=>by rw[kK (lE e T)];exact e
 refine E2 Y (λi a H=>i<=g.length/\a=(g.take i).map f/\H=upd j D (.l a)) ⟨cU _,by simp,rfl⟩ (λi a H _ p=>C H (by rw[p.2.2];exact h _)) ?_ ?_
 .rintro i x a H d ⟨n,rfl,rfl⟩;have c:=(aK.mp d).1;have m:g.take (i+1)=g.take i++[x]:=by rw[bI,d];rfl
  refine I i x _ _ d (h _) ⟨⟨_,rfl⟩,lB,?_,c,?_,?_⟩
  .rw[aB,bQ];exact dH (show min i g.length<=1000 by omega) (by decide)
  .rw[m,aZ];rfl
  .rw[Zl]
 .rintro a H ⟨_,rfl,rfl⟩;rw[aO (aH _)];exact hd
theorem B9 {X:Cx}{st:Stmt}{rest:Aa Stmt}{D:Ends}(I:St->Hp->Prop) (g:∀ u:TS,(∀ j l,I j l->u D j l)->∃ t,PS X st t/\t { D with nx:=u D } o H)
  (h:∀ j l,I j l->∃ u,mY X rest u/\u D j l):∃ t,mY X (st::rest) t/\t D o H:=by
 let u:TS:=λb j l=>∃ c,mY X rest c/\c b j l
 have k:mY X rest u:=λa s j l b d ⟨c,i,e⟩=>i a s j l b d e
 obtain⟨t,pt,f⟩:=g u h;exact⟨Fs t u,nC pt k,f⟩
theorem Of {X:Cx}{st:Stmt}{rest:Aa Stmt}{D:Ends}(t:TS) (p:PS X st t) (h:t { D with nx:=λg j=>∃ u,mY X rest u/\u D g j } l H):∃ t,mY X (st::rest) t/\t D l H:=by
 let u:TS:=λb g j=>∃ c,mY X rest c/\c b g j
 have i:mY X rest u:=λa s g j b d ⟨c,f,e⟩=>f a s g j b d e
 exact⟨Fs t u,nC p i,h⟩
section
variable {X:Cx}{id:String}
def X0 (K:kG):Aa V->Hp->VK->Prop:=λb H Q=>∃ p a,b=[.ref p]/\(eT K H p a\/lL K H p a)/\Q (.int a.length) H
theorem Zi (K:kG) (g:X.K=K:=by rfl):lX X (.builtin "len") (X0 K):=by subst g;exact wM
theorem CU (K:kG) (pa:PlainAttrs T) (slot:Slot T name id) (j:typeOf (.builtin id)=pure (.type "method_descriptor")) (J:zL X id r) (U:PE X o to) (C:PA X (e::l) t) (p:X.K=K:=by rfl)
  (I:MtB X o name apos e l g:=by exact {}) :
  PE X (.Call (.Attribute o name apos) (e::l) [] g) (Lp K T r to t):=by
 subst p;exact yO pa slot j J U C I
end
section
variable {X:Cx}
theorem Rh (g:X.A.units+64<cLine):lA X (compareOp .NotEq) (Gx X.K true):=by
 intro c s M H x y v u Q I F G h;obtain⟨a,b,L,rfl,rfl,f,z,q⟩:=h;cases F;cases G;obtain⟨B,D,m,_⟩:=I.list f;obtain⟨k,E,n,_⟩:=I.list z;cases E;have t:∀ d,d = !L.isEmpty->EP X c M Q (.bool d) s:=λd e=>⟨.b d,H,I,rfl,by subst e;exact q⟩
 cases D with
 | nil=>exact SeqAt.RcNeAt.lists (e:=λ_=>true) m.isList n.isList rfl (by omega) (λi f _=>by simp at f) X.prog X.w _ _ (t _ (by simp))
 | cons r N=>exact SeqAt.RcNeAt.lists_lengths m.isList n.isList (by simp) (by omega) X.prog X.w _ _ (t _ rfl)
def Kb (K:kG):Aa V->Hp->VK->Prop:=λd H Q=>∃ (x c:V) (t a:Ac) (b:Bool),d=[x,c]/\kM c a/\TyOf K H x t/\PySem.W.kitOne K t a=some b/\Q (.b b) H
theorem Li (K:kG) (g:X.K=K:=by rfl):lX X (.builtin "isinstance") (Kb K):=by subst g;exact CZ
end
section
variable {X:Cx}
theorem Zx {bs:Aa Bool}{g:Aa Ac}(r:kJ (bs.map V.b) g){i:Nat}{v:Ac}(h:g[i]?=some v):∃ b,bs[i]?=some b/\v = .bool b:=by
 have d:=r.length;rw[aB] at d;have f:i<g.length:=(aK.mp h).1;have a:bs[i]?=some (bs[i]'(by omega)):=aI (by omega);obtain⟨u,c,e⟩:=r.get (i:=i) (x:=V.b (bs[i]'(by omega))) (by rw[bG,a];rfl);rw[h] at c;cases c;exact⟨_,a,e⟩
theorem Sm (bs:Aa Bool):((List.range bs.length).all λi=>(bs[i]?).getD true)=bs.all id:=by
 have e:(List.range bs.length).map (λi=>(bs[i]?).getD true)=bs:=by
  apply fY (by simp);intro i p q;simp[q]
 calc ((List.range bs.length).all λi=>(bs[i]?).getD true)=((List.range bs.length).map λi=>(bs[i]?).getD true).all id:=by rw[List.all_map];rfl
  _=bs.all id:=by rw[e]
def Is (K:kG):Aa V->Hp->VK->Prop:=λa H Q=>∃ (p:Ad) (bs:Aa Bool),a=[.ref p]/\eT K H p (bs.map V.b)/\Q (.b (bs.all id)) H
theorem Zu (g:X.calm=true):lX X (.builtin "all") (Is X.K):=by
 intro m s P H O N Q I r h;obtain⟨p,bs,rfl,z,q⟩:=h;obtain⟨u,rfl,D⟩:=nM r;cases D;obtain⟨c,n,B,_⟩:=I.list z;have d:=B.isList;have a:=n.length;rw[aB] at a;have f:p<s.heap.objs.size:=by obtain⟨_,e,_⟩:=id d;exact aM e
 refine call_all_walk (dN d ?_);refine⟨s.heap.objs.size,[s.heap.objs.size,p],[s.heap.objs.size],c.toArray.size,_,_,λi=>(bs[i]?).getD true,rfl,Walks.list (A:=X.A.in1) (I.ok.hd g) _ p (aX f) c.toArray,⟨⟨_,aR _ rfl,rfl,rfl⟩,d.push _⟩,λi v L F E t k=>?_,λG M w=>?_⟩
 .obtain⟨b,e,rfl⟩:=Zx n (by simpa using t);simp only[e,Option.getD_some] at k;exact iM k
 .have e:((List.range c.toArray.size).all λi=>(bs[i]?).getD true)=bs.all id:=by
   rw[aP,<- a];exact Sm bs
  rw[e];exact⟨.b _,H,I.kept λb x e=>w b x (λy=>by rw[aQ.mp y] at e;exact cW _ (aM e)) (aE _ e),rfl,q⟩
end
section
variable {X:Cx}
theorem Inv.movedT {t':Nat}{p:Aa Ad}{ys:Aa V}{j:Aa Ac}(I:Inv X g U H s) (l:∀ b∈p,qI X g H b) (k:∀ b o,b∉p->s.heap.get? b=some o->C.get? b=some o)
  (new:tE C s.heap.objs.size j.toArray) (T:kJ ys j) (J:ys.length<=sizeLine):Inv X g U (upd H s.heap.objs.size (.t ys)) { s with heap:=C,toks:=t' }:=by
 have f:=I.fresh;have h:∀ b u,H b=some u->b∉p:=λb u e z=>by rw[(l b z).1] at e;cases e
 have lt:∀ b o,s.heap.get? b=some o->b≠s.heap.objs.size:=λb o e=>aX (aM e)
 refine I.step (g':=s.gens) (d':=s.drawn) (ch:=p) (λb a=>⟨(l b a).2.2.2.1,(l b a).2.1,(l b a).2.2.2.2.1,(l b a).2.2.2.2.2⟩) (λb o _ _ d e _=>k b o d e) (λb o _ _ d e _=>⟨o.slots,k b o d e⟩) (λb o _ e n=>by rw[kK (lt b o e)];exact n)
  (λb o d e=>⟨o,k b o d e⟩) (λb A e=>by rw[kK (lE e f)];exact e) (λb o u e=>by rw[kK (lE e f)];exact e) (λb B e=>⟨#[],by rw[kK (lE e f),e];simp⟩) (λm x=>?_) (λb u e=>?_) I.bare
 .obtain⟨o,w,i,y,r⟩:=x;exact⟨o,w,i,k _ o (λz=>(l _ z).2.1 rfl) y,r⟩
 .by_cases a:b=s.heap.objs.size
  .subst a;rw[lB] at e;cases e;exact⟨J,j,T,new⟩
  .rw[kK a] at e;refine (I.hok b u e).stay (λc v d q=>k c v ?_ q) (λc q=>by rw[kK (lE q f)];exact q) λc A q=>by rw[kK (lE q f)];exact q
   rcases d with z | z
   .rw[z];exact h b u e
   .exact h c _ z
end
section
variable {X:Cx}
theorem DR {iter:Expr}(T p:Aa Af) (J:Aa Nat) (hN:X.N.Nodup) (af:X.N[i]?=some x) (hx:sL X.env.scope x)
  (hc:X.calm=true) (hi:PI X tg iter wi) (hk:j.kind = .function) (ho:Be X.N X.env.kindOf j T p J=true)
  (hg:∀ r l C cl U,PG (rH X (T++p) j cl C r l U) tg g)
  (ht:∀ r l C cl U,tF (rH X (T++p) j cl C r l U) ac tt)
  (he:∀ r l C cl U,PE (rH X (T++p) j cl C r l U) ab te)
  (ag:swapsWith (.ListComp ab [⟨tg,iter,ac,0⟩] j pos) (some (.Name x aa)) ae.line X.env=pure true:=by rfl)
  (hs:∀ x,foldedSetIterable iter X.env x=pure x:=by intro _;rfl)
  (hf:X.fn x=true\/X.env.scope.names.lookup x=some .local:=by first | exact .inl rfl | exact .inr rfl | assumption) :
  PS X (.Assign [.Name x aa] (.ListComp ab [⟨tg,iter,ac,0⟩] j pos) ae) (Im (Bx T J wi g tt te) (wK i)):=by
 intro u s M H D I h;rw[exec_Assign_Name_used _ _ _ _ ag];refine aA (jK (aA ?_));show wpAny _ _ (comprehension _ _ _ _ _ _ _ _ >>= λ_=>pure ()) _ _ _;refine aA (Kt (nw:=none) T p J hc hi hk (Ke ho) hg ht he hs I h λC t L w A q U k=>?_);obtain⟨m,E⟩:=k;show wpAny _ _ (assign (.Name x aa) X.env (.ref t)) _ _ _;refine wpAny_assign_Name (Lk A hN af hx (v:=.ref t) rfl (λF y f=>?_) hf);obtain⟨a,G,B⟩:=f;have c:C≠a:=by
  rcases B with z | z
  .rw[z];exact U.2.1
  .exact (U.2.2.2.2.1 x a z).symm
 refine⟨m,E.sameBut G c,λK n=>aD (aD ⟨_,w,y.moved (t':=F.toks) (fp:=[C]) (λb d=>?_) (λb o d e=>?_),q⟩)⟩
 .rw[aQ.mp d];exact U
 .exact n.extBut b o (λz=>d (aQ.mpr z)) e
end
inductive D where
 | e | b (b:Bool) | int (i:Int) | str (x:Str) | r (v:V)
 | t (xs:List D) | l (xs:List D)
 | k (kvs:List (hH×D)) | T (kvs:List (List hH×D))
 | c (xs:List D)
 | con (xs:List D)
def An (K:kG) (a:Ad) (g:Aa V):Prop:=∃ (o:Obj) (b:Array Ac) (n:Nat),K.lookup a=some o/\o.cls = .type "tuple" /\ o.data = .seq b n/\b.size<=sizeLine/\kJ g b.toList
theorem An.sqT {K:kG}(h:An K a g):lL K H a g:=.inr h
def uY (K:kG) (H:Hp) (a:Ad) (g:Aa V):Prop:=(∃ o,H a=some (.frz o (.l g))) \/
 ∃ (o:Obj) (b:Array Ac) (n:Nat),K.lookup a=some o/\o.cls = .type "list" /\ o.dict=none/\o.data = .seq b n/\b.size<=sizeLine/\kJ g b.toList
theorem uY.sqL {K:kG}(h:uY K H a g):eT K H a g:=h.elim (λh=>.inl (.inr h)) .inr
mutual
inductive Rep (K:kG) (A:Addr->Prop) (H:Hp):D->V->Prop where
 | e:Rep K A H .e .e
 | b (b:Bool):Rep K A H (.b b) (.b b)
 | int (i:Int):Rep K A H (.int i) (.int i)
 | str (x:Str):Rep K A H (.str x) (.str x)
 | r (v:V):Rep K A H (.r v) v
 | t {a:Addr} {vs:List V} {ds:List D}:H a=some (.t vs)->Reps K A H ds vs->Rep K A H (.t ds) (.ref a)
 | con {a:Addr} {vs:List V} {ds:List D}:An K a vs->Reps K A H ds vs->Rep K A H (.con ds) (.ref a)
 | l {a:Addr} {vs:List V} {ds:List D}:A a->H a=some (.l vs)->Reps K A H ds vs->Rep K A H (.l ds) (.ref a)
 | c {a:Addr} {vs:List V} {ds:List D}:uY K H a vs->Reps K A H ds vs->Rep K A H (.c ds) (.ref a)
 | k {a:Addr} {kvs:List (hH×V)} {ds:List (hH×D)}:A a->H a=some (.k kvs)->ds.map (·.1)=kvs.map (·.1)->Reps K A H (ds.map (·.2)) (kvs.map (·.2))->Rep K A H (.k ds) (.ref a)
 | T {a:Addr} {kvs:List (List hH×V)} {ds:List (List hH×D)}:A a->Rd H a (.T kvs)->ds.map (·.1)=kvs.map (·.1)->Reps K A H (ds.map (·.2)) (kvs.map (·.2))->Rep K A H (.T ds) (.ref a)
inductive Reps (K:kG) (A:Addr->Prop) (H:Hp):List D->List V->Prop where
 | nil:Reps K A H [] []
 | cons {d:D} {v:V} {ds:List D} {vs:List V}:Rep K A H d v->Reps K A H ds vs->Reps K A H (d::ds) (v::vs)
end
def vS:HO->Bool
 | .t _=>true
 | .frz _ _=>true
 | _=>false
def Kp (A j:Ad->Prop) (H g:Hp):Prop:=(∀ a o,A a->H a=some o->j a/\g a=some o)/\∀ a o,vS o=true->H a=some o->g a=some o
section
variable {K:kG}
theorem Kp.sqF (k:Kp A l H g) (h:uY K H a j):uY K g a j:=by
 rcases h with⟨o,h⟩ | h
 .exact .inl ⟨o,k.2 _ _ rfl h⟩
 .exact .inr h
theorem Kp.rd (k:Kp A j H l) (g:A a) (h:Rd H a u):j a/\Rd l a u:=by
 rcases h with h | ⟨o,h⟩
 .exact⟨(k.1 _ _ g h).1,.inl (k.1 _ _ g h).2⟩
 .exact⟨(k.1 _ _ g h).1,.inr ⟨o,(k.1 _ _ g h).2⟩⟩
theorem Rep.mono (k:Kp A g H j) (h:Rep K A H d v):Rep K g j d v :=
 Rep.rec (motive_1:=λd v _=>Rep K g j d v) (motive_2:=λf i _=>Reps K g j f i) .e .b .int .str .r (λh _ r=>.t (k.2 _ _ rfl h) r) (λh _ r=>.con h r)
  (λa h _ r=>.l (k.1 _ _ a h).1 (k.1 _ _ a h).2 r) (λh _ r=>.c (k.sqF h) r) (λa h e _ r=>.k (k.1 _ _ a h).1 (k.1 _ _ a h).2 e r) (λa h e _ r=>.T (k.rd a h).1 (k.rd a h).2 e r) .nil (λ_ _ h r=>.cons h r) h
theorem Reps.mono (k:Kp A o H p) (h:Reps K A H j l):Reps K o p j l:=by
 induction j generalizing l with
 | nil=>cases h;exact .nil
 | cons d j a=>cases h with | cons g r=>exact .cons (g.mono k) (a r)
theorem Kp.all (h:∀ a,A a->g a):Kp A g H H:=⟨λa o b e=>⟨h a b,e⟩,λ_ _ _ e=>e⟩
theorem Kp.trans (a:Kp A l H r) (b:Kp l g r j):Kp A g H j:=⟨λx o c e=>let ⟨p,q⟩:=a.1 x o c e;b.1 x o p q,λx o t e=>b.2 x o t (a.2 x o t e)⟩
theorem Kp.laid (g:H p=none) (h:∀ a,A a->a≠p->j a):Kp A j H (upd H p o) :=
 ⟨λa u b e=>⟨h a b (lE e g),by rw[kK (lE e g)];exact e⟩,λa u _ e=>by rw[kK (lE e g)];exact e⟩
theorem Kp.same (s:mZ H j) (h:∀ a,A a->g a):Kp A g H j:=⟨λa o b e=>⟨h a b,s a o e⟩,λa o _ e=>s a o e⟩
theorem Kp.write (l:H p=some u) (g:vS u=false) (j:¬ A p):Kp A A H (upd H p o):=by
 refine⟨λa w b e=>⟨b,?_⟩,λa w t e=>?_⟩
 .rw[kK (λz:a=p=>j (by rw[<- z];exact b))];exact e
 .rw[kK (λz=>?_)]
  .exact e
  .subst z;rw[l] at e;cases e;rw[t] at g;cases g
theorem Reps.length (h:Reps K A H j l):j.length=l.length:=by
 induction j generalizing l with
 | nil=>cases h;rfl
 | cons d j a=>cases h with | cons g r=>exact dF (·+1) (a r)
theorem Reps.get {j:Aa D}{l:Aa V}{i:Nat}{d:D}(h:Reps K A H j l) (e:j[i]?=some d):∃ v,l[i]?=some v/\Rep K A H d v:=by
 induction j generalizing l i with
 | nil=>cases e
 | cons c j a =>
  cases h with
  | cons g r =>
   cases i with
   | zero=>cases e;exact⟨_,rfl,g⟩
   | succ i=>exact a r (i:=i) e
theorem Reps.getV {j:Aa D}{l:Aa V}{i:Nat}{v:V}(h:Reps K A H j l) (e:l[i]?=some v):∃ d,j[i]?=some d/\Rep K A H d v:=by
 induction j generalizing l i with
 | nil=>cases h;cases e
 | cons c j a =>
  cases h with
  | cons g r =>
   cases i with
   | zero=>cases e;exact⟨_,rfl,g⟩
   | succ i=>exact a r (i:=i) e
theorem Reps.append (h:Reps K A H j l) (s:Reps K A H o p):Reps K A H (j++o) (l++p):=by
 induction j generalizing l with
 | nil=>cases h;exact s
 | cons d j a=>cases h with | cons g r=>exact .cons g (a r)
theorem Reps.take:∀ {ds:Aa D}{g:Aa V}(n:Nat),Reps K A H ds g->Reps K A H (ds.take n) (g.take n)
 | _,_,0,_=>by rw[List.take_zero,List.take_zero];exact .nil
 | _,_,n+1,.nil=>.nil
 | _,_,n+1,.cons h r=>.cons h (Reps.take n r)
theorem Reps.drop:∀ {g:Aa D}{j:Aa V}(n:Nat),Reps K A H g j->Reps K A H (g.drop n) (j.drop n)
 | _,_,0,h=>h
 | _,_,n+1,.nil=>.nil
 | _,_,n+1,.cons h r=>Reps.drop n r
theorem Reps.set (h:Rep K A H d v):∀ {j:Aa D}{l:Aa V}(i:Nat),Reps K A H j l->Reps K A H (j.set i d) (l.set i v)
 | _,_,_,.nil=>.nil
 | _,_,0,.cons _ r=>.cons h r
 | _,_,i+1,.cons g r=>.cons g (Reps.set h i r)
theorem Reps.nil_iff (h:Reps K A H g j):j=[]↔g=[]:=by
 cases h<;>simp
theorem Rep.int_inv (h:Rep K A H (.int i) v):v = .int i:=by cases h;rfl
theorem Rep.str_inv (h:Rep K A H (.str i) v):v = .str i:=by cases h;rfl
theorem Rep.bl_inv (h:Rep K A H (.b i) v):v = .b i:=by cases h;rfl
theorem Rep.non_inv (h:Rep K A H .e v):v = .e:=by cases h;rfl
theorem Rep.raw_inv (h:Rep K A H (.r u) v):v=u:=by cases h;rfl
theorem Rep.tup_inv (h:Rep K A H (.t j) v):∃ a g,v = .ref a/\H a=some (.t g)/\Reps K A H j g:=by
 cases h with | t h r=>exact⟨_,_,rfl,h,r⟩
theorem Rep.lst_inv (h:Rep K A H (.l j) v):∃ a g,v = .ref a/\A a/\H a=some (.l g)/\Reps K A H j g:=by
 cases h with | l d h r=>exact⟨_,_,rfl,d,h,r⟩
theorem Rep.con_inv (h:Rep K A H (.con j) v):∃ a g,v = .ref a/\An K a g/\Reps K A H j g:=by
 cases h with | con h r=>exact⟨_,_,rfl,h,r⟩
theorem Rep.scr_inv (h:Rep K A H (.c j) v):∃ a g,v = .ref a/\uY K H a g/\Reps K A H j g:=by
 cases h with | c h r=>exact⟨_,_,rfl,h,r⟩
end
mutual
def imm:D->Bool
 | .t a=>qX a
 | .c a=>qX a
 | .con a=>qX a
 | .l _=>false
 | .k _=>false
 | .T _=>false
 | _=>true
def qX:Aa D->Bool
 | []=>true
 | d::a=>imm d&&qX a
end
section
variable {K:kG}
theorem Rep.imm (h:Rep K A H d v):imm d=true->Rep K g H d v :=
 Rep.rec (motive_1:=λd v _=>L2.imm d=true->Rep K g H d v) (motive_2:=λa f _=>qX a=true->Reps K g H a f) (λ_=>.e) (λb _=>.b b) (λi _=>.int i) (λx _=>.str x) (λv _=>.r v) (λh _ r e=>.t h (r e)) (λh _ r e=>.con h (r e))
  (λ_ _ _ _ e=>Bool.noConfusion (show false=true from e)) (λh _ r e=>.c h (r e)) (λ_ _ _ _ _ e=>Bool.noConfusion (show false=true from e)) (λ_ _ _ _ _ e=>Bool.noConfusion (show false=true from e)) (λ_=>.nil) (λ_ _ h r e=>.cons (h (cM.mp e).1) (r (cM.mp e).2)) h
theorem Reps.imm (h:Reps K A H j l) (e:qX j=true):Reps K o H j l:=by
 induction j generalizing l with
 | nil=>cases h;exact .nil
 | cons d j a=>cases h with | cons g r=>exact .cons (g.imm (cM.mp e).1) (a r (cM.mp e).2)
theorem Jv:∀ {g:Aa D},(∀ d∈g,L2.imm d=true)->qX g=true
 | [],_=>rfl
 | d::g,h=>cM.mpr ⟨h d aG,Jv λe a=>h e (aN _ a)⟩
end
end L2
namespace Lw
open PySem L2
structure DeckAt (H:Hp) (d c:Addr):Prop where
 ex:∃ (ns:List Int) (p:Int),H d=some (.l [.ref c,.int p])/\H c=some (.l (ns.map V.int))/\0<ns.length/\ns.length<=100
def lS (d c:Ad) (H g:Hp):Prop:=∀ b o,H b=some o->b≠d->b≠c->g b=some o
theorem lS.trans (a:lS d c H g) (b:lS d c g j):lS d c H j:=λx o e f h=>b x o (a x o e f h) f h
theorem lS.new (h:H p=none):lS d c H (upd H p o):=λb u e _ _=>by rw[kK (lE e h)];exact e
theorem DeckAt.ne (D:DeckAt H d c):d≠c:=by
 obtain⟨i,p,f,b,h,_⟩:=D.ex;intro e;subst e;rw[f] at b;injection b with b;injection b with b;cases i with
 | nil=>simp at h
 | cons a r=>simp at b
theorem DeckAt.upd_other (D:DeckAt H d c) (hd:p≠d) (g:p≠c):DeckAt (upd H p o) d c:=by
 obtain⟨h,q,a,b,e,f⟩:=D.ex;exact⟨h,q,by rw[kK hd.symm];exact a,by rw[kK g.symm];exact b,e,f⟩
theorem DeckAt.ned (D:DeckAt H d c) (h:H p=none):p≠d/\p≠c:=by
 obtain⟨e,q,a,b,_⟩:=D.ex;exact⟨(lE a h).symm,(lE b h).symm⟩
theorem DeckAt.new (D:DeckAt H d c) (h:H p=none):DeckAt (upd H p o) d c:=D.upd_other (D.ned h).1 (D.ned h).2
end Lw
namespace L2
open PySem PySem.Spec PyProof.Rows Lw
inductive Sl where
 | n | v (d:D) | o (d:D)
abbrev lZ:=Aa (Sl×Ab V)
def Dk (g:Aa Ad) (H:Hp):Prop:=g=[]\/∃ d c,g=[d,c]/\DeckAt H d c
theorem Dk.some (h:Dk j H) (g:a∈j):∃ o,H a=some (.l o):=by
 rcases h with rfl | ⟨d,c,rfl,h⟩
 .cases g
 .obtain⟨f,p,b,e,_⟩:=h.ex;rcases aF.mp g with rfl | g
  .exact⟨_,b⟩
  .rcases aF.mp g with rfl | g
   .exact⟨_,e⟩
   .cases g
theorem Dk.keep (h:Dk g H) (k:∀ a∈g,j a=H a):Dk g j:=by
 rcases h with rfl | ⟨d,c,rfl,h⟩
 .exact .inl rfl
 .refine .inr ⟨d,c,rfl,?_⟩;obtain⟨i,p,b,e,f⟩:=h.ex;exact⟨i,p,by rw[k d (by simp)];exact b,by rw[k c (by simp)];exact e,f⟩
theorem Dk.upd (h:Dk g H) (j:p∉g):Dk g (upd H p o):=h.keep λa b=>kK λz=>j (z▸b)
noncomputable def xF:Sl×Ab V->Ab Ad
 | (.o _,some (.ref a))=>some a
 | _=>none
def dT (L:lZ):Aa Ad:=L.filterMap xF
structure Bs where
 dk:List Addr
 A0:Addr->Prop
 H0:Hp
def Al (B:Bs) (R:Aa Ad) (a:Ad):Prop:=a∉B.dk/\a∉R/\(B.A0 a\/B.H0 a=none)
def mW (K:kG) (A:Ad->Prop) (H:Hp) (a:Ad):D->Prop
 | .l c=>∃ d,H a=some (.l d)/\Reps K A H c d
 | .k c=>∃ b,H a=some (.k b)/\c.map (·.1)=b.map (·.1)/\Reps K A H (c.map (·.2)) (b.map (·.2))
 | .T c=>∃ b,H a=some (.T b)/\c.map (·.1)=b.map (·.1)/\Reps K A H (c.map (·.2)) (b.map (·.2))
 | _=>False
def qW (K:kG) (A:Ad->Prop) (H:Hp):Sl->Ab V->Prop
 | .n,_=>True
 | .v d,x=>∃ v,x=some v/\Rep K A H d v
 | .o d,x=>∃ a,x=some (.ref a)/\mW K A H a d
structure DS (K:kG) (B:Bs) (L:lZ) (H:Hp):Prop where
 fr:∀ b o,B.H0 b=some o->b∉B.dk->H b=some o
 dk:Dk B.dk H
 nd:(dT L).Nodup
 new:∀ a∈dT L,B.H0 a=none/\a∉B.dk
 ok:∀ p∈L,qW K (Al B (dT L)) H p.1 p.2
section
variable {K:kG}{L2:lZ}
theorem mW.mono (k:Kp A p H j) (g:∀ o,H a=some o->j a=some o) (h:mW K A H a d):mW K p j a d:=by
 cases d with
 | l _=>obtain⟨b,h,r⟩:=h;exact⟨b,g _ h,r.mono k⟩
 | k _=>obtain⟨b,h,e,r⟩:=h;exact⟨b,g _ h,e,r.mono k⟩
 | T _=>obtain⟨b,h,e,r⟩:=h;exact⟨b,g _ h,e,r.mono k⟩
 | _=>exact False.elim h
theorem mW.some:∀ {d:D},mW K A H a d->∃ o,H a=some o/\vS o=false
 | .l _,⟨b,h,r⟩=>⟨_,h,rfl⟩
 | .k _,⟨b,h,e,r⟩=>⟨_,h,rfl⟩
 | .T _,⟨b,h,e,r⟩=>⟨_,h,rfl⟩
theorem mW.rep (g:∀ b,A b->o b) (j:o a):∀ {d:D},mW K A H a d->Rep K o H d (.ref a)
 | .l _,⟨c,h,r⟩=>.l j h (r.mono (.all g))
 | .k _,⟨c,h,e,r⟩=>.k j h e (r.mono (.all g))
 | .T _,⟨c,h,e,r⟩=>.T j (.inl h) e (r.mono (.all g))
theorem qW.mono (k:Kp A j H g) (h:qW K A H s y) (l:∀ a,xF (s,y)=some a->∀ o,H a=some o->g a=some o):qW K j g s y:=by
 cases s with
 | n=>trivial
 | v d=>obtain⟨v,e,r⟩:=h;exact⟨v,e,r.mono k⟩
 | o d=>obtain⟨a,rfl,r⟩:=h;exact⟨a,rfl,r.mono k (l a rfl)⟩
theorem oK:dT (g++L2)=dT g++dT L2:=List.filterMap_append
theorem rN:a∈dT L↔∃ p∈L,xF p=some a:=jS
theorem oQ:dT (L1++x::L2)=dT L1++((xF x).toList++dT L2):=by
 unfold dT;rw[List.filterMap_append,List.filterMap_cons];cases xF x<;>rfl
theorem DS.live (h:DS K B L H) (g:a∈dT L):∃ o,H a=some o/\vS o=false:=by
 obtain⟨p,c,e⟩:=rN.mp g;have:=h.ok p c;obtain⟨s,y⟩:=p;cases s with
 | n=>cases e
 | v d=>cases e
 | o d =>
  obtain⟨b,rfl,r⟩:=this;cases e;exact r.some
theorem DS.drop (h:DS K B (L1++x::L2) H):DS K B (L1++L2) H:=by
 have e:=oQ (L1:=L1) (x:=x) (L2:=L2);have d:∀ a,a∈dT (L1++L2)->a∈dT (L1++x::L2):=λa c=>by
  rw[oK] at c;rw[e];simp only[aV] at c |-;rcases c with q | q
  .exact .inl q
  .exact .inr (.inr q)
 refine⟨h.fr,h.dk,?_,λa c=>h.new a (d a c),λp f=>?_⟩
 .have n:=h.nd;rw[e] at n;rw[oK];obtain⟨k,m,s⟩:=bL.mp n;exact bL.mpr ⟨k,(bL.mp m).2.1,λa c b i=>s a c b (aY _ i)⟩
 .refine (h.ok p (by simp only[aV,aF] at f |-;rcases f with q | q;exact .inl q;exact .inr (.inr q))).mono (.all λa z=>⟨z.1,λq=>z.2.1 (d a q),z.2.2⟩) (λ_ _ _ q=>q)
theorem DS.at (h:DS K B (g++x::L2) H):qW K (Al B (dT (g++x::L2))) H x.1 x.2:=h.ok x (aY _ aG)
theorem DS.valAt (h:DS K B (g++(.v d,some v)::L2) H):Rep K (Al B (dT (g++L2))) H d v:=by
 obtain⟨u,e,r⟩:=h.at;cases e;have:dT (g++(Sl.v d,some v)::L2)=dT (g++L2):=by rw[oQ,oK];rfl
 rw[this] at r;exact r
theorem DS.push (h:DS K B (L1++L2) H) (r:Rep K (Al B (dT (L1++L2))) H d v):DS K B (L1++(.v d,some v)::L2) H:=by
 have e:dT (L1++(Sl.v d,some v)::L2)=dT (L1++L2):=by rw[oQ,oK];rfl
 refine⟨h.fr,h.dk,by rw[e];exact h.nd,by rw[e];exact h.new,λp a=>?_⟩;rw[e];simp only[aV,aF] at a;rcases a with q | q | q
 .exact h.ok p (bW _ q)
 .subst q;exact⟨v,rfl,r⟩
 .exact h.ok p (aY _ q)
theorem DS.pushN (h:DS K B (L1++L2) H) (y:Ab V):DS K B (L1++(.n,y)::L2) H:=by
 have e:dT (L1++(Sl.n,y)::L2)=dT (L1++L2):=by rw[oQ,oK];rfl
 refine⟨h.fr,h.dk,by rw[e];exact h.nd,by rw[e];exact h.new,λp a=>?_⟩;rw[e];simp only[aV,aF] at a;rcases a with q | q | q
 .exact h.ok p (bW _ q)
 .subst q;trivial
 .exact h.ok p (aY _ q)
theorem DS.grow (h:DS K B L H) (s:mZ H g) (j:Dk B.dk g):DS K B L g :=
 ⟨λb o e n=>s b o (h.fr b o e n),j,h.nd,h.new,λp a=>(h.ok p a).mono (.same s λ_ z=>z) (λ_ _ o q=>s _ o q)⟩
theorem DS.free (h:DS K B L H) (g:H a=none):B.H0 a=none/\a∉B.dk/\a∉dT L:=by
 have n:a∉B.dk:=λz=>by obtain⟨b,e⟩:=h.dk.some z;rw[e] at g;cases g
 refine⟨?_,n,λz=>by obtain⟨o,e,_⟩:=h.live z;rw[e] at g;cases g⟩;cases e:B.H0 a with
 | none=>rfl
 | some o=>rw[h.fr a o e n] at g;cases g
theorem DS.laid (h:DS K B L H) (g:H a=none):DS K B L (upd H a o) :=
 h.grow (λb u e=>by rw[kK (lE e g)];exact e) (h.dk.upd (h.free g).2.1)
theorem DS.tup (h:DS K B (L1++L2) H){g:Aa D}{l:Aa V}(j:H a=none) (r:Reps K (Al B (dT (L1++L2))) H g l):DS K B (L1++(.v (.t g),some (.ref a))::L2) (upd H a (.t l)) :=
 (h.laid j).push (.t lB (r.mono (.laid j λ_ z _=>z)))
theorem DS.make (h:DS K B (L1++L2) H) (g:H a=none) (r:∀ j,Kp (Al B (dT (L1++L2))) j H (upd H a o)->mW K j (upd H a o) a d):DS K B (L1++(.o d,some (.ref a))::L2) (upd H a o):=by
 obtain⟨f1,f2,k⟩:=h.free g;have e:dT (L1++(Sl.o d,some (.ref a))::L2)=dT L1++a::dT L2:=oQ;have m:∀ b,b∈dT L1++a::dT L2↔b=a\/b∈dT (L1++L2):=λb=>by
  rw[oK];simp only[aV,aF];constructor
  .rintro (q | q | q)
   .exact .inr (.inl q)
   .exact .inl q
   .exact .inr (.inr q)
  .rintro (q | q | q)
   .exact .inr (.inl q)
   .exact .inl q
   .exact .inr (.inr q)
 have s:Kp (Al B (dT (L1++L2))) (Al B (dT L1++a::dT L2)) H (upd H a o):=.laid g λb z n=>⟨z.1,λq=>(m b).mp q |>.elim n z.2.1,z.2.2⟩
 refine⟨λb u q n=>by rw[kK (lE (h.fr b u q n) g)];exact h.fr b u q n,h.dk.upd f2,?_,λb i=>?_,λp f=>?_⟩
 .rw[e];have n:=h.nd;rw[oK] at n k;obtain⟨v,x,y⟩:=bL.mp n;refine bL.mpr ⟨v,bU.mpr ⟨λz=>k (aY _ z),x⟩,λb i c t=>?_⟩;rcases aF.mp t with q | q
  .intro z;subst z;subst q;exact k (bW _ i)
  .exact y b i c q
 .rw[e] at i;rcases (m b).mp i with q | q
  .subst q;exact⟨f1,f2⟩
  .exact h.new b q
 .rw[e];simp only[aV,aF] at f;have old:∀ p∈L1++L2,qW K (Al B (dT L1++a::dT L2)) (upd H a o) p.1 p.2:=λp f=>(h.ok p f).mono s λb i w q=>by rw[kK (lE q g)];exact q
  rcases f with q | q | q
  .exact old p (bW _ q)
  .subst q;exact⟨a,rfl,r _ s⟩
  .exact old p (aY _ q)
theorem DS.freeze (h:DS K B (g++(.o d,some v)::L2) H):DS K B (g++(.v d,some v)::L2) H:=by
 obtain⟨a,e,r⟩:=h.at;cases e;have c:dT (g++(Sl.o d,some (V.ref a))::L2)=dT g++a::dT L2:=oQ;have hd:=h.drop;have f:=h.new a (by rw[c];simp);refine hd.push (r.rep (λb z=>⟨z.1,λq=>z.2.1 ?_,z.2.2⟩) ⟨f.2,λq=>?_,.inr f.1⟩)
 .rw[c];rw[oK] at q;simp only[aV,aF] at q |-;rcases q with q | q
  .exact .inl q
  .exact .inr (.inr q)
 .have n:=h.nd;rw[c] at n;rw[oK] at q;obtain⟨m,i,k⟩:=bL.mp n;rcases aV.mp q with q | q
  .exact k a q a aG rfl
  .exact (bU.mp i).1 q
theorem DS.write (h:DS K B (g++(.o d,some (.ref a))::L2) H) (r:∀ j,Kp (Al B (dT g++a::dT L2)) j H (upd H a o)->mW K j (upd H a o) a d'):DS K B (g++(.o d',some (.ref a))::L2) (upd H a o):=by
 have e:∀ d,dT (g++(Sl.o d,some (V.ref a))::L2)=dT g++a::dT L2:=λd=>oQ
 have s:=h.new a (by rw[e];simp);obtain⟨u,t,A⟩:=h.live (a:=a) (by rw[e];simp);have k:Kp (Al B (dT g++a::dT L2)) (Al B (dT g++a::dT L2)) H (upd H a o):=.write t A λz=>z.2.1 (by simp)
 have n:=h.nd;rw[e] at n;have y:∀ b,b∈dT g\/b∈dT L2->b≠a:=λb c z=>by
  subst z;obtain⟨D,v,x⟩:=bL.mp n;rcases c with c | c
  .exact x b c b aG rfl
  .exact (bU.mp v).1 c
 refine⟨λb w q m=>?_,h.dk.upd s.2,by rw[e];exact n,λb c=>h.new b (by rw[e] at c |-;exact c),λp f=>?_⟩
 .have:b≠a:=λz=>by subst z;rw[s.1] at q;cases q
  rw[kK this];exact h.fr b w q m
 .rw[e];have old:∀ p,p∈g\/p∈L2->qW K (Al B (dT g++a::dT L2)) (upd H a o) p.1 p.2:=λp i=>by
   have:=h.ok p (by simp only[aV,aF];rcases i with q | q;exact .inl q;exact .inr (.inr q));rw[e] at this;refine this.mono k λb c w q=>?_
   rw[kK (y b ?_)]
   .exact q
   .rcases i with z | z
    .exact .inl (rN.mpr ⟨p,z,c⟩)
    .exact .inr (rN.mpr ⟨p,z,c⟩)
  simp only[aV,aF] at f;rcases f with q | q | q
  .exact old p (.inl q)
  .subst q;exact⟨a,rfl,r _ k⟩
  .exact old p (.inr q)
theorem DS.ownAt (h:DS K B (g++(.o d,some v)::L2) H):∃ a,v = .ref a/\mW K (Al B (dT g++a::dT L2)) H a d:=by
 obtain⟨a,e,r⟩:=h.at;cases e;rw[show dT (g++(Sl.o d,some (V.ref a))::L2)=dT g++a::dT L2 from oQ] at r;exact⟨a,rfl,r⟩
theorem DS.perm (h:DS K B L H) (p:L.Perm M):DS K B M H:=by
 have e:(dT L).Perm (dT M):=p.filterMap xF;refine⟨h.fr,h.dk,e.nodup_iff.mp h.nd,λa b=>h.new a (e.mem_iff.mpr b),λq c=>(h.ok q (p.mem_iff.mpr c)).mono (.all λa z=>⟨z.1,λw=>z.2.1 (e.mem_iff.mpr w),z.2.2⟩) λ_ _ _ w=>w⟩
end
section
theorem sW {g:Aa Sl}{σ:St}(C:g.length=σ.length){i:Nat}{s:Sl}(h:g[i]?=some s):∃ j y l,σ[i]?=some y/\j.length=i/\g.zip σ=j++(s,y)::l/\∀ o p,(g.set i o).zip (σ.set i p)=j++(o,p)::l:=by
 induction g generalizing σ i with
 | nil=>simp at h
 | cons r g e =>
  cases σ with
  | nil=>simp at C
  | cons z σ =>
   cases i with
   | zero=>simp at h;subst h;exact⟨[],z,g.zip σ,rfl,rfl,rfl,λ_ _=>rfl⟩
   | succ i =>
    obtain⟨j,y,l,a,b,c,d⟩:=e (σ:=σ) (by simpa using C) (i:=i) (by simpa using h);exact⟨(r,z)::j,y,l,by simpa using a,by simp[b],by simp[c],λo p=>by simp[d]⟩
theorem wT {g:St}{i:Nat}{y:Ab V}(h:g[i]?=some y):g.set i y=g:=by
 obtain⟨a,rfl⟩:=aK.mp h;exact List.set_getElem_self a
end
abbrev lK:=Aa Ad->Aa Sl->(Sl->Aa Sl->Prop)->Prop
abbrev oZ:=Aa Ad->Aa Sl->(Bool->Aa Sl->Prop)->Prop
def dE (K:kG) (g:lK):TE:=λb H Q=>∃ (B:Bs) (c:Aa Sl) (T:lZ) (e:Sl->Aa Sl->Prop),c.length=b.length/\DS K B (c.zip b++T) H/\g B.dk c e /\
 ∀ r a v d,a.length=b.length->DS K B (a.zip b++(r,some v)::T) d->e r a->Q v d
def rT (K:kG) (g:oZ):TT:=λc H Q=>∃ (B:Bs) (d:Aa Sl) (T:lZ) (f:Bool->Aa Sl->Prop),d.length=c.length/\DS K B (d.zip c++T) H/\g B.dk d f /\
 ∀ b a e,a.length=c.length->DS K B (a.zip c++T) e->f b a->Q b e
theorem dE.elim {K:kG}{P:Prop}(h:dE K C o H Q) (f:∀ (B:Bs) (j:Aa Sl) (T:lZ) (l:Sl->Aa Sl->Prop),j.length=o.length->DS K B (j.zip o++T) H->C B.dk j l ->(∀ r g v p,g.length=o.length->DS K B (g.zip o++(r,some v)::T) p->l r g->Q v p)->P):P:=by
 obtain⟨B,j,T,l,a,hd,b,k⟩:=h;exact f B j T l a hd b k
theorem rT.elim {K:kG}{P:Prop}(h:rT K r o H Q) (f:∀ (B:Bs) (j:Aa Sl) (T:lZ) (l:Bool->Aa Sl->Prop),j.length=o.length->DS K B (j.zip o++T) H->r B.dk j l ->(∀ b g p,g.length=o.length->DS K B (g.zip o++T) p->l b g->Q b p)->P):P:=by
 obtain⟨B,j,T,l,a,hd,c,k⟩:=h;exact f B j T l a hd c k
abbrev PD (X:Cx) (e:Expr) (g:lK):Prop:=PE X e (dE X.K g)
abbrev qA (X:Cx) (e:Expr) (g:oZ):Prop:=PT X e (rT X.K g)
abbrev vG (X:Cx) (e:Expr) (g:oZ):Prop:=PW X e (rT X.K g)
theorem PE.mono {X:Cx}(h:PE X e t) (k:∀ g H Q,j g H Q->t g H Q):PE X e j:=λa s g H Q I q=>h a s g H Q I (k g H Q q)
theorem PT.mono {X:Cx}(h:PT X e t) (k:∀ g H Q,j g H Q->t g H Q):PT X e j:=λa s g H Q I q=>h a s g H Q I (k g H Q q)
theorem PW.mono {X:Cx}(h:PW X e t) (k:∀ g H Q,j g H Q->t g H Q):PW X e j:=λb a s g H Q I q=>h b a s g H Q I (k g H Q q)
def sd:Sl->Ab D
 | .v d=>some d
 | .o d=>some d
 | .n=>none
section
variable {K:kG}{L2:lZ}
theorem Hk:dT (g++(Sl.v d,y)::L2)=dT (g++L2):=by rw[oQ,oK];rfl
theorem DS.thaw (h:DS K B (g++(r,some v)::L2) H) (e:sd r=some d):DS K B (g++(.v d,some v)::L2) H:=by
 cases r with
 | n=>cases e
 | v c=>cases e;exact h
 | o c=>cases e;exact h.freeze
theorem DS.one (h:DS K B (L++(r,some v)::T) H) (e:sd r=some d):DS K B (L++T) H/\Rep K (Al B (dT (L++T))) H d v:=by
 have a:=h.thaw e;exact⟨a.drop,a.valAt⟩
theorem DS.two (h:DS K B (L++(l,some u)::(r,some v)::T) H) (g:sd r=some d) (j:sd l=some e):DS K B (L++T) H/\Rep K (Al B (dT (L++T))) H d v/\Rep K (Al B (dT (L++T))) H e u:=by
 have m:=h.thaw j;have n:DS K B ((L++[(Sl.v e,some u)])++(r,some v)::T) H:=by simpa using m
 have a:=n.thaw g;have b:DS K B (L++(Sl.v e,some u)::(.v d,some v)::T) H:=by simpa using a
 have c:=b.valAt;have f:=a.valAt;have i:dT (L++(Sl.v d,some v)::T)=dT (L++T):=by rw[oQ,oK];rfl
 have k:dT ((L++[(Sl.v e,some u)])++T)=dT (L++T):=by
  rw[bD];show dT (L++(Sl.v e,some u)::T)=_;rw[oQ,oK];rfl
 rw[i] at c;rw[k] at f;exact⟨b.drop.drop,f,c⟩
theorem DS.mid (h:DS K B (x::(L++T)) H):DS K B (L++x::T) H:=h.perm jH.symm
theorem DS.front (h:DS K B (L++x::T) H):DS K B (x::(L++T)) H:=h.perm jH
theorem DS.pushF (h:DS K B L H) (r:Rep K (Al B (dT L)) H d v):DS K B ((.v d,some v)::L) H:=DS.push (L1:=[]) h r
theorem DS.tupF (h:DS K B L H) (j:H a=none) (r:Reps K (Al B (dT L)) H g l):DS K B ((.v (.t g),some (.ref a))::L) (upd H a (.t l)):=DS.tup (L1:=[]) h j r
theorem DS.lstF (h:DS K B L H) (p:H a=none) (r:Reps K (Al B (dT L)) H j g):DS K B ((.o (.l j),some (.ref a))::L) (upd H a (.l g)) :=
 DS.make (L1:=[]) h p λb k=>⟨g,lB,r.mono k⟩
theorem DS.dKF (h:DS K B L H) (g:H a=none) (e:ds.map (·.1)=kvs.map (·.1)) (r:Reps K (Al B (dT L)) H (ds.map (·.2)) (kvs.map (·.2))):DS K B ((.o (.k ds),some (.ref a))::L) (upd H a (.k kvs)) :=
 DS.make (L1:=[]) h g λb k=>⟨kvs,lB,e,r.mono k⟩
end
def lP (K:kG) (A:Ad->Prop) (H:Hp):D->V->Prop
 | .l f,v=>∃ a h,v = .ref a/\H a=some (.l h)/\Reps K A H f h
 | .k f,v=>∃ a d,v = .ref a/\H a=some (.k d)/\f.map (·.1)=d.map (·.1)/\Reps K A H (f.map (·.2)) (d.map (·.2))
 | .T f,v=>∃ a d,v = .ref a/\Rd H a (.T d)/\f.map (·.1)=d.map (·.1)/\Reps K A H (f.map (·.2)) (d.map (·.2))
 | .e,v=>Rep K A H .e v
 | .b b,v=>Rep K A H (.b b) v
 | .int b,v=>Rep K A H (.int b) v
 | .str b,v=>Rep K A H (.str b) v
 | .r b,v=>Rep K A H (.r b) v
 | .t b,v=>Rep K A H (.t b) v
 | .con b,v=>Rep K A H (.con b) v
 | .c b,v=>Rep K A H (.c b) v
section
variable {K:kG}
theorem Rep.peek (h:Rep K A H d v):lP K A H d v:=by
 cases h with
 | l _ h r=>exact⟨_,_,rfl,h,r⟩
 | k _ h e r=>exact⟨_,_,rfl,h,e,r⟩
 | T _ h e r=>exact⟨_,_,rfl,h,e,r⟩
 | e=>exact .e
 | b=>exact .b _
 | int=>exact .int _
 | str=>exact .str _
 | r=>exact .r _
 | t h r=>exact .t h r
 | con h r=>exact .con h r
 | c h r=>exact .c h r
theorem mW.peek:∀ {d:D},mW K A H a d->lP K A H d (.ref a)
 | .l _,⟨b,h,r⟩=>⟨_,b,rfl,h,r⟩
 | .k _,⟨b,h,e,r⟩=>⟨_,b,rfl,h,e,r⟩
 | .T _,⟨b,h,e,r⟩=>⟨_,b,rfl,.inl h,e,r⟩
theorem lP.lst_inv (h:lP K A H (.l j) v):∃ a g,v = .ref a/\H a=some (.l g)/\Reps K A H j g:=h
theorem lP.dK_inv (h:lP K A H (.k j) v):∃ a g,v = .ref a/\H a=some (.k g)/\j.map (·.1)=g.map (·.1)/\Reps K A H (j.map (·.2)) (g.map (·.2)):=h
theorem lP.dT_inv (h:lP K A H (.T j) v):∃ a g,v = .ref a/\Rd H a (.T g)/\j.map (·.1)=g.map (·.1)/\Reps K A H (j.map (·.2)) (g.map (·.2)):=h
theorem lP.tup_inv (h:lP K A H (.t j) v):∃ a g,v = .ref a/\H a=some (.t g)/\Reps K A H j g:=Rep.tup_inv h
theorem lP.con_inv (h:lP K A H (.con j) v):∃ a g,v = .ref a/\An K a g/\Reps K A H j g:=Rep.con_inv h
theorem lP.scr_inv (h:lP K A H (.c j) v):∃ a g,v = .ref a/\uY K H a g/\Reps K A H j g:=Rep.scr_inv h
theorem lP.int_inv (h:lP K A H (.int i) v):v = .int i:=Rep.int_inv h
theorem lP.str_inv (h:lP K A H (.str i) v):v = .str i:=Rep.str_inv h
theorem lP.bl_inv (h:lP K A H (.b i) v):v = .b i:=Rep.bl_inv h
theorem lP.non_inv (h:lP K A H .e v):v = .e:=Rep.non_inv h
theorem lP.raw_inv (h:lP K A H (.r u) v):v=u:=Rep.raw_inv h
def at? (g:Aa Sl) (i:Nat):Ab D:=(g[i]?).bind sd
theorem DS.peek (l:g.length=j.length) (h:DS K B (g.zip j++T) H) (e:at? g i=some d):∃ v,j[i]?=some (some v)/\lP K (Al B (dT (g.zip j++T))) H d v:=by
 unfold at? at e;cases f:g[i]? with
 | none=>rw[f] at e;cases e
 | some s =>
  rw[f] at e;obtain⟨q,y,t,k,_,m,_⟩:=sW l f;have b:=h;rw[m] at b;have:=b.ok (s,y) (by simp);rw[<- m] at this;cases s with
  | n=>cases e
  | v c=>cases e;obtain⟨v,rfl,r⟩:=this;exact⟨v,k,r.peek⟩
  | o c=>cases e;obtain⟨a,rfl,r⟩:=this;exact⟨_,k,r.peek⟩
end
noncomputable def vd (i:Nat):lK:=λ_ a b=>match a[i]? with
 | some (.v d)=>b (.v d) a
 | some (.o d)=>b (.v d) (a.set i (.v d))
 | _=>False
def cd (d:D):lK:=λ_ b a=>a (.v d) b
section
variable {X:Cx}
theorem eM (i:Nat) (h:PE X (.Name x pos) (oV i):=by exact pv _):PD X (.Name x pos) (vd i):=h.mono λL H Q z=>z.elim λB D T M w hd c k=>by
 unfold vd at c;cases e:D[i]? with
 | none=>rw[e] at c;exact c.elim
 | some s =>
  rw[e] at c;obtain⟨f,y,m,A,_,G,q⟩:=sW w e;have b:DS X.K B (f++(s,y)::(m++T)) H:=by rw[G] at hd;simpa using hd
  cases s with
  | n=>exact c.elim
  | v d =>
   obtain⟨v,rfl,_⟩:=b.at;refine⟨v,A,k _ _ v H w ?_ c⟩;refine hd.push ?_;have:=b.valAt;rw[G];have t:dT ((f++(Sl.v d,some v)::m)++T)=dT (f++(m++T)):=by
    rw[bD,cL,Hk]
   rw[t];exact this
  | o d =>
   obtain⟨a,rfl,_⟩:=b.at;have E:=b.freeze;have F:(D.set i (.v d)).zip L=f++(.v d,some (.ref a))::m:=by
    have:=q (.v d) (some (.ref a));rw[wT A] at this;exact this
   have u:DS X.K B ((D.set i (.v d)).zip L++T) H:=by rw[F];simpa using E
   refine⟨.ref a,A,k _ _ _ H (by rw[bH];exact w) ?_ c⟩;refine u.push ?_;have:=E.valAt;rw[F];have t:dT ((f++(Sl.v d,some (V.ref a))::m)++T)=dT (f++(m++T)):=by
    rw[bD,cL,Hk]
   rw[t];exact this
theorem zR (h:PE X e (tC v)) (r:∀ K A H,Rep K A H d v):PD X e (cd d):=h.mono λm H Q a=>a.elim λB f T i b hd c k=>k _ f v H b (hd.push (r _ _ _)) c
theorem hI:PD X (.Constant (.int i) j pos) (cd (.int i)):=zR lW λ_ _ _=>.int i
theorem xO:PD X (.Constant (.str x) j pos) (cd (.str x)):=zR sT λ_ _ _=>.str x
theorem Fl:PD X (.Constant (.bool x) j pos) (cd (.b x)):=zR Qz λ_ _ _=>.b x
theorem Wa:PD X (.Constant .none j pos) (cd .e):=zR Vp λ_ _ _=>.e
abbrev O2:=D->D->(Sl->Prop)->Prop
def nJ (K:kG) (r:R2) (f:O2):Prop:=∀ (B:Bs) (L:lZ) (H:Hp) (d e:D) (x y:V) (b:Sl->Prop) (Q:VK),DS K B L H->lP K (Al B (dT L)) H d x->lP K (Al B (dT L)) H e y->f d e b ->
 (∀ s v a,b s->DS K B ((s,some v)::L) a->Q v a)->r x y H Q
def d2 (f:O2) (g j:lK):lK:=λc m k=>g c m λh a=>j c a λi b=>match sd h,sd i with
 | some d,some e=>f d e λr=>k r b
 | _,_=>False
theorem B2 (o:nJ X.K r f) (h:dE X.K (d2 f p C) l H Q):dE X.K p l H λx j=>dE X.K C l j λy g=>r x y g Q:=by
 obtain⟨B,N,T,O,w,hd,A,k⟩:=h;refine⟨B,N,T,_,w,hd,A,λq m x j D d1 u=>⟨B,m,(q,some x)::T,_,D,d1,u,λM n y g E d2 a=>?_⟩⟩;cases b:sd q with
 | none=>rw[b] at a;exact a.elim
 | some d =>
  cases c:sd M with
  | none=>rw[b,c] at a;exact a.elim
  | some e =>
   rw[b,c] at a;obtain⟨F,G,L⟩:=d2.two b c;exact o B _ g d e x y _ Q F G.peek L.peek a λs v t z i=>k s n v t E i.mid z
def wS (f:O2) (i:Nat) (g:lK):lK:=λc b k=>(at? b i).isSome=true/\g c b λh a=>match at? a i,sd h with
 | some d,some e=>f d e λr=>k r a
 | _,_=>False
def Jd (f:O2) (g:lK) (i:Nat):lK:=λb k h=>g b k λc a=>match sd c,at? a i with
 | some d,some e=>f d e λr=>h r a
 | _,_=>False
theorem Az (o:nJ X.K r f) (h:dE X.K (wS f i p) j H Q):oV i j H λx l=>dE X.K p j l λy g=>r x y g Q:=by
 obtain⟨B,O,T,S,t,hd,⟨E,G⟩,k⟩:=h;obtain⟨P,D⟩:=cX.mp E;obtain⟨x,u,_⟩:=hd.peek t D;refine⟨x,u,B,O,T,_,t,hd,G,λN c y g w d2 a=>?_⟩;cases m:at? c i with
 | none=>rw[m] at a;exact a.elim
 | some d =>
  cases n:sd N with
  | none=>rw[m,n] at a;exact a.elim
  | some e =>
   rw[m,n] at a;obtain⟨z,M⟩:=d2.one n;obtain⟨R,b,L⟩:=z.peek w m;rw[u] at b;cases b;exact o B _ g d e x y _ Q z L M.peek a λs v A F q=>k s c v A w q.mid F
theorem Vg (o:nJ X.K r f) (h:dE X.K (Jd f p i) j H Q):dE X.K p j H λx g=>oV i j g λy l=>r x y l Q:=by
 obtain⟨B,G,T,L,w,hd,A,k⟩:=h;refine⟨B,G,T,_,w,hd,A,λF b x g q d1 a=>?_⟩;cases c:sd F with
 | none=>rw[c] at a;exact a.elim
 | some d =>
  cases m:at? b i with
  | none=>rw[c,m] at a;exact a.elim
  | some e =>
   rw[c,m] at a;obtain⟨t,E⟩:=d1.one c;obtain⟨y,D,py⟩:=t.peek q m;exact⟨y,D,o B _ g d e x y _ Q t E.peek py a λs v u z n=>k s b v u q n.mid z⟩
theorem mO (o:lA X (binaryOp op) r) (l:nJ X.K r f) (i:Nat) (j:PD X b p) (g:PE X a (oV i):=by exact pv _):PD X (.BinOp a op b pos) (wS f i p):=(lH o g j).mono λ_ _ _ h=>Az l h
theorem Vl (p:lA X (compareOp op) r) (l:nJ X.K r f) (g:PE X a (oV i)) (j:PD X b C) (o:behindInMarks op b=false:=by first | exact tG _ | (with_unfolding_all rfl)):PD X (.Compare a [op] [b] pos) (wS f i C) :=
 (Pk p g j o).mono λ_ _ _ h=>Az l h
theorem mR (o:lA X (binaryOp op) r) (l:nJ X.K r f) (g:PD X a p) (j:PD X b C):PD X (.BinOp a op b pos) (d2 f p C):=(lH o g j).mono λ_ _ _ h=>B2 l h
theorem Xa (p:lA X (compareOp op) r) (l:nJ X.K r f) (g:PD X a C) (j:PD X b I) (o:behindInMarks op b=false:=by first | exact tG _ | (with_unfolding_all rfl)):PD X (.Compare a [op] [b] pos) (d2 f C I) :=
 (Pk p g j o).mono λ_ _ _ h=>B2 l h
def xN (t:lK):oZ:=λc e d=>t c e λr a=>match r with
 | .v (.b b)=>d b a
 | _=>False
theorem Ht (h:rT X.K (xN t) j H Q):dE X.K t j H λx g=>∃ k,x = .b k/\Q k g:=by
 obtain⟨B,m,T,q,e,hd,f,k⟩:=h;refine⟨B,m,T,_,e,hd,f,λr c v g i d1 a=>?_⟩;cases r with
 | n=>exact a.elim
 | o d=>exact a.elim
 | v d =>
  cases d with
  | b b=>exact⟨b,d1.valAt.bl_inv,k b c g i d1.drop a⟩
  | _=>exact a.elim
theorem yR (p:lA X (compareOp op) r) (l:nJ X.K r f) (g:PE X a (oV i)) (j:PD X b C) (o:behindInMarks op b=false:=by first | exact tG _ | (with_unfolding_all rfl)):qA X (.Compare a [op] [b] pos) (xN (wS f i C)) :=
 (uW p g j o).mono λc H Q h=>Az l (Ht h)
theorem Rg (p:lA X (compareOp op) r) (l:nJ X.K r f) (g:PD X a C) (j:PE X b (oV i)) (o:behindInMarks op b=false:=by first | exact tG _ | (with_unfolding_all rfl)):qA X (.Compare a [op] [b] pos) (xN (Jd f C i)) :=
 (uW p g j o).mono λc H Q h=>Vg l (Ht h)
theorem uB (p:lA X (compareOp op) r) (l:nJ X.K r f) (g:PD X a C) (j:PD X b I) (o:behindInMarks op b=false:=by first | exact tG _ | (with_unfolding_all rfl)):qA X (.Compare a [op] [b] pos) (xN (d2 f C I)) :=
 (uW p g j o).mono λc H Q h=>by
  have:=Ht h;exact B2 l this
end
section
variable [DecidableEq κ]
noncomputable def pD (g:Aa (κ×D)) (k:κ):Ab D:=(g.find? λa=>decide (a.1=k)).map (·.2)
noncomputable def qQ (g:Aa (κ×D)) (k:κ) (d:D):Aa (κ×D):=if g.any (λa=>decide (a.1=k)) then g.map (λa=>if a.1=k then (a.1,d) else a) else g++[(k,d)]
theorem Xy:pD ([]:Aa (κ×D)) k=none:=rfl
theorem Fv {k j:κ}{d:D}{r:Aa (κ×D)}:pD ((j,d)::r) k=if j=k then some d else pD r k:=by
 unfold pD;rw[List.find?_cons];by_cases h:j=k<;>simp[h]
theorem O5 (k:κ):∀ g:Aa (κ×D),(g.any λl=>decide (l.1=k))=(pD g k).isSome
 | []=>rfl
 | (j,d)::r=>by
  rw[Fv,eX,O5 k r];by_cases h:j=k<;>simp[h]
end
section
variable [DecidableEq κ] {K:kG}
theorem Cc:∀ {l:Aa (κ×D)}{g:Aa (κ×V)},l.map (·.1)=g.map (·.1)->Reps K A H (l.map (·.2)) (g.map (·.2))->∀ k,(∀ d,pD l k=some d->∃ v,pJ g k=some v/\Rep K A H d v)/\(pD l k=none->pJ g k=none)
 | [],[],_,_,k=>⟨λd h=>by simp[Xy] at h,λ_=>rfl⟩
 | [],_::_,e,_,_=>by simp at e
 | _::_,[],e,_,_=>by simp at e
 | (i,d)::l,(j,v)::g,e,r,k=>by
  simp only[aW,gL] at e;obtain⟨a,b⟩:=e;subst a;cases r with
  | cons h r =>
   have c:=Cc b r k;rw[Fv];by_cases z:i=k
   .rw[bA z,Co z];exact⟨λf q=>by cases q;exact⟨v,rfl,h⟩,λq=>by cases q⟩
   .rw[bB z,Ba z];exact c
theorem Il {o:Aa (κ×D)}{l:Aa (κ×V)}(e:o.map (·.1)=l.map (·.1)) (r:Reps K A H (o.map (·.2)) (l.map (·.2))){k:κ}{d:D}{v:V}(h:Rep K A H d v) :
  (qQ o k d).map (·.1)=(oC l k v).map (·.1)/\Reps K A H ((qQ o k d).map (·.2)) ((oC l k v).map (·.2)):=by
 have m:∀ (o:Aa (κ×D)) (l:Aa (κ×V)),o.map (·.1)=l.map (·.1)->(o.any λa=>decide (a.1=k))=l.any λa=>decide (a.1=k):=by
  intro o;induction o with
  | nil=>intro l e;cases l with
   | nil=>rfl
   | cons _ _=>simp at e
  | cons p o b=>intro l e;cases l with
   | nil=>simp at e
   | cons q l =>
    simp only[aW,gL] at e;rw[eX,eX,b l e.2,e.1]
 have n:∀ (o:Aa (κ×D)) (l:Aa (κ×V)),o.map (·.1)=l.map (·.1)->Reps K A H (o.map (·.2)) (l.map (·.2)) ->
   (o.map λa=>if a.1=k then (a.1,d) else a).map (·.1)=(l.map λa=>if a.1=k then (a.1,v) else a).map (·.1) /\
   Reps K A H ((o.map λa=>if a.1=k then (a.1,d) else a).map (·.2)) ((l.map λa=>if a.1=k then (a.1,v) else a).map (·.2)):=by
  intro o;induction o with
  | nil=>intro l e r;cases l with
   | nil=>exact⟨rfl,.nil⟩
   | cons _ _=>simp at e
  | cons p o b=>intro l e r;cases l with
   | nil=>simp at e
   | cons q l =>
    simp only[aW,gL] at e;cases r with
    | cons g r =>
     obtain⟨c,f⟩:=b l e.2 r;obtain⟨i,s⟩:=p;obtain⟨j,v0⟩:=q;obtain⟨rfl,t⟩:=e;by_cases z:i=k
     .simp only[aW,z,eF];exact⟨by rw[c],.cons h f⟩
     .simp only[aW,z,eE];exact⟨by rw[c],.cons g f⟩
 unfold qQ oC;rw[m o l e];by_cases z:(l.any λa=>decide (a.1=k))=true
 .rw[bA z,bA z];exact n o l e r
 .rw[bB z,bB z];simp only[aZ,aW,jZ];exact⟨by rw[e],r.append (.cons h .nil)⟩
end
section
variable {X:Cx}{K:kG}
def Mw (K:kG):R2:=λx y H Q=>∃ a b c,x = .ref a/\y = .ref b/\lL K H a []/\lL K H b c/\Q (.ref b) H
theorem AW:lA X (binaryOp .Add) (Mw X.K):=by
 intro w s Z H x y v u Q I N O h;obtain⟨a,b,Y,rfl,rfl,B,D,q⟩:=h;cases N;cases O;obtain⟨E,M,G,_⟩:=I.tuple B;obtain⟨t,W,L,_⟩:=I.tuple D;cases M;obtain⟨⟨R,A,V,P⟩,m,k,n,hd⟩:=id G;obtain⟨⟨S,f,z,i⟩,e,c,F,d⟩:=id L;simp only at k hd c d;subst k hd c d;exact concat_meets ⟨_,m,rfl⟩ ⟨_,e,rfl⟩ noFill_tuple_add seq_tuple_add iN iI (hU _ _)
  (tuple_addW0 a b _ _ n F A f P i (by simp)) ⟨m,e,⟨.ref b,H,I,rfl,q⟩⟩
def Oj (K:kG):R2:=λx y H Q=>(qO λi j=>.int (i+j)) x y H Q\/(∃ i j,x = .str i/\y = .str j/\i.length+j.length<=sizeLine/\Q (.str (i++j)) H)\/Jy x y H Q\/Og K x y H Q\/Mw K x y H Q
theorem mB:lA X (binaryOp .Add) (Oj X.K):=tJ.or (tS.or (zE.or (W6.or AW)))
theorem vP (h:n<=100000):n<=sizeLine:=bM h (by decide)
def BD:O2
 | .int i,.int j,a=>a (.v (.int (i+j)))
 | .str i,.str j,a=>i.length+j.length<=100000/\a (.v (.str (i++j)))
 | .l b,.l c,a=>b.length+c.length<=100000/\a (.o (.l (b++c)))
 | .t b,.t c,a=>b.length+c.length<=100000/\a (.v (.t (b++c)))
 | _,_,_=>False
theorem mC:nJ K (Oj K) BD:=by
 intro B L H d e x y A Q hd n s c k;cases d<;>first | exact False.elim c | skip<;>cases e<;>first | exact False.elim c | skip
 .cases n;cases s;exact .inl ⟨_,_,rfl,rfl,k _ _ H c (hd.pushF (.int _))⟩
 .cases n;cases s;exact .inr (.inl ⟨_,_,rfl,rfl,vP c.1,k _ _ H c.2 (hd.pushF (.str _))⟩)
 .obtain⟨a,m,rfl,t,f⟩:=n.tup_inv;obtain⟨b,i,rfl,u,h⟩:=s.tup_inv;have v:m.length+i.length<=100000:=by rw[<- f.length,<- h.length];exact c.1
  by_cases z:m=[]
  .subst z;have:=f.nil_iff.mp rfl;subst this;exact .inr (.inr (.inr (.inr ⟨a,b,i,rfl,rfl,lL.of t,lL.of u,k _ _ H c.2 (hd.pushF s)⟩)))
  .refine .inr (.inr (.inr (.inl ⟨a,b,m,i,rfl,rfl,lL.of t,lL.of u,z,vP v,λq=>?_,λ_ p w=>k _ _ _ c.2 (hd.tupF w (f.append h))⟩)));subst q;have:=h.nil_iff.mp rfl;subst this;exact k _ _ H c.2 (by rw[gJ];exact hd.pushF n)
 .obtain⟨a,m,rfl,t,f⟩:=n.lst_inv;obtain⟨b,i,rfl,u,h⟩:=s.lst_inv;have v:m.length+i.length<=100000:=by rw[<- f.length,<- h.length];exact c.1
  exact .inr (.inr (.inl ⟨a,b,m,i,rfl,rfl,t,u,vP v,λp w=>k _ _ _ c.2 (hd.lstF w (f.append h))⟩))
def fI (C:Int->Int->Prop) (g:Int->Int->D):O2
 | .int i,.int j,a=>C i j/\a (.v (g i j))
 | _,_,_=>False
theorem V6 (p:∀ i j,C i j->l i j) (r:∀ A H i j,Rep K A H (g i j) (o i j)):nJ K (rI l o) (fI C g):=by
 intro B L H d e x y f Q hd b c a k;cases d<;>first | exact False.elim a | skip<;>cases e<;>first | exact False.elim a | skip
 cases b;cases c;exact⟨_,_,rfl,rfl,p _ _ a.1,k _ _ H a.2 (hd.pushF (r _ _ _ _))⟩
def yM (g:Int->Int->D):O2
 | .int i,.int j,a=>a (.v (g i j))
 | _,_,_=>False
theorem Bt (o:∀ A H i j,Rep K A H (g i j) (l i j)):nJ K (qO l) (yM g):=by
 intro B L H d e x y f Q hd b c a k;cases d<;>first | exact False.elim a | skip<;>cases e<;>first | exact False.elim a | skip
 cases b;cases c;exact⟨_,_,rfl,rfl,k _ _ H a (hd.pushF (o _ _ _ _))⟩
abbrev Ye:O2:=yM λi j=>.int (i-j)
theorem oX:nJ K (qO λi j=>.int (i-j)) Ye:=Bt λ_ _ _ _=>.int _
def O0:R2:=λx y H Q=>(rI Dr λi j=>.int (i*j)) x y H Q\/Lc x y H Q
theorem Gr:lA X (binaryOp .Mult) O0:=tR.or BC
def Uc:O2
 | .int i,.int j,a=>((-(2 ^ 64)<i/\i<2 ^ 64)\/(-(2 ^ 64)<j/\j<2 ^ 64))/\a (.v (.int (i*j)))
 | .l b,.int k,a=>0<=k/\k<=1000/\b.length<=100/\a (.o (.l (List.replicate k.toNat b).flatten))
 | _,_,_=>False
theorem Nr (r:Reps K A H g j):∀ k:Nat,Reps K A H (List.replicate k g).flatten (List.replicate k j).flatten
 | 0=>.nil
 | k+1=>by rw[bV,bV,fA,fA];exact r.append (Nr r k)
theorem Hb:nJ K O0 Uc:=by
 intro B L H d e x y w Q hd h i b k;cases d<;>first | exact False.elim b | skip<;>cases e<;>first | exact False.elim b | skip
 .cases h;cases i;exact .inl ⟨_,_,rfl,rfl,b.1,k _ _ H b.2 (hd.pushF (.int _))⟩
 .cases i
  rename_i n
  obtain⟨a,m,rfl,q,f⟩:=h.lst_inv;obtain⟨u,v,s,b⟩:=b;have c:m.length<=100:=by rw[<- f.length];exact s
  refine .inr ⟨a,n,m,rfl,rfl,q,by omega,by omega,bM (gU c (show n.toNat<=1000 by omega)) (by decide),λp t=>?_⟩;exact k _ _ _ b (hd.lstF t (Nr f _))
theorem V3 {j:Int}(g:0<j) (h:j<2 ^ 64):j.natAbs.log2<9000:=by
 have:j.natAbs<2 ^ 64:=by omega
 exact aT ((Nat.log2_lt (by omega)).mpr this) (by decide)
theorem Z5:lA X (binaryOp .FloorDiv) (rI (λ_ j=>0<j/\j<2 ^ 64) λi j=>.int (i/j)):=Ci λi j _ _ _ _ _ a q=>by
 refine floordiv_int (by omega) ?_ (.inl (PyProof.noPylong_of_log2 (V3 a.1 a.2)));rw[Int.fdiv_eq_ediv_of_nonneg _ (by omega)];exact q
abbrev Rt:O2:=fI (λ_ j=>0<j) λi j=>.int (i%j)
theorem Gy:nJ K (rI (λ_ j=>0<j) λi j=>.int (i%j)) Rt:=V6 (λ_ _ h=>h) λ_ _ _ _=>.int _
abbrev R6:O2:=yM λi j=>.b (decide (i<j))
theorem Tq:nJ K (qO λi j=>.b (decide (i<j))) R6:=Bt λ_ _ _ _=>.b _
abbrev Sh:O2:=yM λi j=>.b (decide (i<=j))
theorem CK:nJ K (qO λi j=>.b (decide (i<=j))) Sh:=Bt λ_ _ _ _=>.b _
abbrev Zr:O2:=yM λi j=>.b (decide (j<i))
theorem Ds:nJ K (qO λi j=>.b (decide (j<i))) Zr:=Bt λ_ _ _ _=>.b _
end
noncomputable def pN:D->Ab hH
 | .int i=>some (.inl i)
 | .str x=>some (.inr x)
 | _=>none
def vK:Aa D->Ab (Aa hH)
 | []=>some []
 | d::a=>match pN d,vK a with
  | some k,some b=>some (k::b)
  | _,_=>none
noncomputable def nb (neg b:Bool):Bool:=if neg then !b else b
section
variable {X:Cx}{K:kG}
theorem yU (h:pN d=some k) (r:lP K A H d v):v=kV k:=by
 cases d<;>cases h
 .exact r.int_inv
 .exact r.str_inv
theorem Nc (h:vK g=some j) (l:Reps K A H g o):o=j.map kV:=by
 induction g generalizing j o with
 | nil=>cases l;cases h;rfl
 | cons d g c =>
  cases l with
  | cons r l =>
  have h:=(show (match pN d,vK g with | some k,some j=>some (k::j) | _,_=>none)=some j from h);cases a:pN d with
  | none=>rw[a] at h;cases h
  | some k =>
   cases b:vK g with
   | none=>rw[a,b] at h;cases h
   | some e =>
    rw[a,b] at h;cases h;rw[yU a r.peek,c b l];rfl
def uU:D->D->Ab (Ab D)
 | .k a,d=>(pN d).map (pD a)
 | .T a,.t b=>(vK b).map (pD a)
 | _,_=>none
theorem Fy (h:uU d e=some o) (g:lP K A H d x) (j:lP K A H e y):∃ a w,x = .ref a/\rO H a y w/\(∀ c,o=some c->∃ v,w=some v/\Rep K A H c v)/\(o=none->w=none):=by
 cases d with
 | k q =>
  obtain⟨a,D,rfl,i,f,z⟩:=g.dK_inv;obtain⟨k,n,rfl⟩:=cB.mp h;rw[yU n j];obtain⟨s,u⟩:=Cc f z k;exact⟨a,_,rfl,rO.k i,λc m=>s c m,u⟩
 | T q =>
  obtain⟨a,D,rfl,i,f,z⟩:=g.dT_inv;cases e with
  | t G =>
   obtain⟨b,F,rfl,B,E⟩:=j.tup_inv;obtain⟨k,n,rfl⟩:=cB.mp h;rw[Nc n E] at B;obtain⟨s,u⟩:=Cc f z k;exact⟨a,_,rfl,.inr ⟨D,k,b,i,rfl,B,rfl⟩,λc m=>s c m,u⟩
  | _=>cases h
 | _=>cases h
def My:R2:=λx y H Q=>∃ a v,x = .ref a/\rO H a y (some v)/\Q v H
theorem Qk (j:X.A.units+1<cLine):sC X My:=by
 intro value slice b s m H x y v u Q I i k h f;obtain⟨a,w,rfl,g,q⟩:=h;cases i;unfold subscriptTail;refine aA ?_;rw[getitemInPython_of_ne (Ox I g).not_modules];refine aA (wpAny_specialOf (Ox I g) PySem.F.slot_dict_getitem.lookup ?_);have fin:wpAny (model X.prog X.w) X.A (subscripted slice false (.ref a) u) (λr c=>wpAny (model X.prog X.w) X.A (letTemporaryGo value (.ref a) r >>= λ_=>pure r) (EP X b m Q) X.xe c) X.xe s:=by
  rw[f];exact wpAny_operating (U8 j I g k λt n e d=>aA (wpAny_letTemporaryGo (aD ⟨w,H,e,d,q⟩)))
 first
  | exact aD (aA fin)
  | exact aA (aD (aA fin))
  | exact aA fin
def F4 (K:kG):R2:=λx y H Q=>N1 K x y H Q\/My x y H Q
theorem N9 (g:X.A.units+1<cLine):sC X (F4 X.K):=Zc.or (Qk g)
def Ho:O2:=λd e b=>match d,e with
 | .l a,.int i=>∃ c,lQ a i=some c/\b (.v c)
 | .t a,.int i=>∃ c,lQ a i=some c/\b (.v c)
 | .con a,.int i=>∃ c,lQ a i=some c/\b (.v c)
 | .c a,.int i=>∃ c,lQ a i=some c/\b (.v c)
 | .str z,.int i=>z.length<=100000/\∃ c,lQ z.cps.toList i=some c/\b (.v (.str ⟨#[c]⟩))
 | d,e=>∃ c,uU d e=some (some c)/\b (.v c)
theorem Di (r:Reps K A H g l) (h:lQ g i=some c):∃ v,lQ l i=some v/\Rep K A H c v:=by
 unfold lQ at h |-;rw[<- r.length];cases e:pW g.length i with
 | none=>rw[e] at h;cases h
 | some j =>
  rw[e] at h;obtain⟨v,a,b⟩:=r.get (i:=j) h;exact⟨v,a,b⟩
theorem Mo:nJ K (F4 K) Ho:=by
 intro B L H d e x y D Q hd t u b k;have f:(∃ c,uU d e=some (some c)/\D (.v c))->F4 K x y H Q:=λz=>by
  obtain⟨c,h,b⟩:=z;obtain⟨a,w,rfl,g,i,_⟩:=Fy h t u;obtain⟨v,rfl,m⟩:=i c rfl;exact .inr ⟨a,v,rfl,g,k _ _ H b (hd.pushF m)⟩
 cases d<;>first | exact f b | skip
 .cases e<;>first | exact f b | skip
  cases u;cases t;obtain⟨A,c,h,b⟩:=b;exact .inl (.inr (.inr ⟨_,_,c,rfl,rfl,vP A,h,k _ _ H b (hd.pushF (.str _))⟩))
 .obtain⟨a,s,rfl,i,q⟩:=t.tup_inv;cases e<;>first | exact f b | skip
  cases u;obtain⟨c,h,b⟩:=b;obtain⟨v,n,m⟩:=Di q h;exact .inl (.inr (.inl ⟨a,s,_,v,rfl,rfl,lL.of i,n,k _ _ H b (hd.pushF m)⟩))
 .obtain⟨a,s,rfl,i,q⟩:=t.lst_inv;cases e<;>first | exact f b | skip
  cases u;obtain⟨c,h,b⟩:=b;obtain⟨v,n,m⟩:=Di q h;exact .inl (.inl ⟨a,s,_,v,rfl,rfl,eT.of i,n,k _ _ H b (hd.pushF m)⟩)
 .obtain⟨a,s,rfl,i,q⟩:=t.scr_inv;cases e<;>first | exact f b | skip
  cases u;obtain⟨c,h,b⟩:=b;obtain⟨v,n,m⟩:=Di q h;exact .inl (.inl ⟨a,s,_,v,rfl,rfl,i.sqL,n,k _ _ H b (hd.pushF m)⟩)
 .obtain⟨a,s,rfl,i,q⟩:=t.con_inv;cases e<;>first | exact f b | skip
  cases u;obtain⟨c,h,b⟩:=b;obtain⟨v,n,m⟩:=Di q h;exact .inl (.inr (.inl ⟨a,s,_,v,rfl,rfl,i.sqT,n,k _ _ H b (hd.pushF m)⟩))
theorem zX (o:X.A.units+1<cLine) (g:PD X a p) (j:PD X b r) (l:Hq b:=by exact λ_ _=>rfl):PD X (.Subscript a b pos) (d2 Ho p r) :=
 (pG (N9 o) g j l).mono λ_ _ _ h=>B2 Mo h
def P5 (neg:Bool):R2:=λy x H Q=>∃ a o,x = .ref a/\rO H a y o/\Q (.b (nb neg o.isSome)) H
theorem Sy (j:X.A.units+1<cLine):lA X (compareOp .NotIn) (P5 true):=by
 intro c s k H x y v u Q I e f h;obtain⟨a,o,rfl,g,q⟩:=h;cases f;exact Xu j I g e λi d=>⟨.b (!o.isSome),H,d,rfl,q⟩
def O8 (neg:Bool):R2:=λx y H Q=>∃ i j,x = .str i/\y = .str j/\Q (.b (nb neg (!(Builtin.Str.occurrences j i 0 j.length 1).isEmpty))) H
def Dh (K:kG) (neg:Bool):R2:=λx y H Q=>B7 K neg x y H Q\/O8 neg x y H Q\/P5 neg x y H Q
theorem AT (g:X.A.units+1<cLine):lA X (compareOp .NotIn) (Dh X.K true):=CO.or ((show lA X (compareOp .NotIn) (O8 true) from Wd).or (Sy g))
noncomputable def tM:D->Ab V
 | .e=>some .e
 | .b b=>some (.b b)
 | .int i=>some (.int i)
 | .str x=>some (.str x)
 | _=>none
def vI:Aa D->Ab (Aa V)
 | []=>some []
 | d::a=>match tM d,vI a with
  | some v,some b=>some (v::b)
  | _,_=>none
theorem Oi {l:Type}{f:l->D}{g:l->V}(h:∀ x,tM (f x)=some (g x)):∀ j:Aa l,vI (j.map f)=some (j.map g)
 | []=>rfl
 | x::j=>by
  show (match tM (f x),vI (j.map f) with | some v,some a=>some (v::a) | _,_=>none)=_;rw[h x,Oi h j];rfl
theorem Cu (h:tM d=some u) (r:lP K A H d v):v=u/\oR u=true:=by
 cases d<;>cases h<;>cases r<;>exact⟨rfl,rfl⟩
theorem CW (h:vI g=some l) (j:Reps K A H g o):o=l/\l.all oR=true:=by
 induction g generalizing l o with
 | nil=>cases j;cases h;exact⟨rfl,rfl⟩
 | cons d g m =>
  cases j with
  | cons r j =>
  have h:=(show (match tM d,vI g with | some v,some o=>some (v::o) | _,_=>none)=some l from h);cases a:tM d with
  | none=>rw[a] at h;cases h
  | some k =>
   cases b:vI g with
   | none=>rw[a,b] at h;cases h
   | some n =>
    rw[a,b] at h;cases h;obtain⟨c,e⟩:=Cu a r.peek;obtain⟨f,i⟩:=m b j;exact⟨by rw[c,f],by rw[List.all_cons,e,i];rfl⟩
def A9 (neg:Bool) (d:D) (g:Aa D) (j:Sl->Prop):Prop:=∃ v a,tM d=some v/\vI g=some a/\j (.v (.b (nb neg (qU v a))))
def Sb (neg:Bool):O2:=λd e c=>match e with
 | .l a=>A9 neg d a c
 | .t a=>A9 neg d a c
 | .con a=>A9 neg d a c
 | .str j=>∃ i,d = .str i/\c (.v (.b (nb neg (!(Builtin.Str.occurrences j i 0 j.length 1).isEmpty))))
 | e=>∃ o,uU e d=some o/\c (.v (.b (nb neg o.isSome)))
theorem Yq (neg:Bool):nJ K (Dh K neg) (Sb neg):=by
 intro B L H d e x y G Q hd E s h k;have seq:∀ (a:Ad) (F:Aa D) (t:Aa V),A9 neg d F G->y = .ref a->(eT K H a t\/lL K H a t)->Reps K (Al B (dT L)) H F t->Dh K neg x y H Q:=by
  rintro a F t ⟨v,m,f,z,M⟩ rfl O r;obtain⟨P,R⟩:=Cu f E;obtain⟨S,W⟩:=CW z r;subst P S;exact .inl ⟨a,t,rfl,O,R,W,k _ _ H M (hd.pushF (.b _))⟩
 have u:(∃ o,uU e d=some o/\G (.v (.b (nb neg o.isSome))))->Dh K neg x y H Q:=λA=>by
  obtain⟨o,N,h⟩:=A;obtain⟨a,w,rfl,g,f,z⟩:=Fy N s E;have e:o.isSome=w.isSome:=by
   cases o with
   | none=>rw[z rfl];rfl
   | some c=>obtain⟨v,rfl,_⟩:=f c rfl;rfl
  exact .inr (.inr ⟨a,w,rfl,g,by rw[<- e];exact k _ _ H h (hd.pushF (.b _))⟩)
 cases e<;>first | exact u h | skip
 .obtain⟨i,rfl,h⟩:=h;cases E;cases s;exact .inr (.inl ⟨_,_,rfl,rfl,k _ _ H h (hd.pushF (.b _))⟩)
 .obtain⟨a,m,n,f,q⟩:=s.tup_inv;exact seq a _ m h n (.inr (lL.of f)) q
 .obtain⟨a,m,n,f,q⟩:=s.lst_inv;exact seq a _ m h n (.inl (eT.of f)) q
 .obtain⟨a,m,n,f,q⟩:=s.con_inv;exact seq a _ m h n (.inr f.sqT) q
end
mutual
def py:D->PyData
 | .e=>.none
 | .b b=>.bool b
 | .int i=>.int i
 | .str x=>.str x
 | .t a=>.tuple (oN a)
 | .l a=>.list (oN a)
 | .con a=>.tuple (oN a)
 | .c a=>.list (oN a)
 | _=>.none
def oN:Aa D->Aa PyData
 | []=>[]
 | d::a=>py d::oN a
end
mutual
def lV:D->Bool
 | .e=>true
 | .b _=>true
 | .int _=>true
 | .str x=>PyData.strOk x
 | .t a=>oP a
 | .l a=>oP a
 | .con a=>oP a
 | .c a=>oP a
 | _=>false
def oP:Aa D->Bool
 | []=>true
 | d::a=>lV d&&oP a
end
section
variable {X:Cx}{K:kG}
mutual
theorem K2:∀ {d:D}{v:V},Rep K A H d v->lV d=true->DatV K H v (py d)
 | _,_,.e,_=>.e
 | _,_,.b b,_=>.b b
 | _,_,.int i,_=>.int i
 | _,_,.str x,_=>.str x
 | _,_,.r v,e=>by simp[lV] at e
 | _,_,.t h r,e=>.t (lL.of h) (xC r (by simpa [lV] using e))
 | _,_,.con h r,e=>.t h.sqT (xC r (by simpa [lV] using e))
 | _,_,.l _ h r,e=>.l (eT.of h) (xC r (by simpa [lV] using e))
 | _,_,.c h r,e=>.l h.sqL (xC r (by simpa [lV] using e))
 | _,_,.k _ _ _ _,e=>by simp[lV] at e
 | _,_,.T _ _ _ _,e=>by simp[lV] at e
theorem xC:∀ {g:Aa D}{j:Aa V},Reps K A H g j->oP g=true->DatVs K H j (oN g)
 | _,_,.nil,_=>.nil
 | _,_,.cons h r,e=>by
  rw[oP,bX] at e;exact .cons (K2 h e.1) (xC r e.2)
end
theorem Pz (h:lP K A H d v) (e:lV d=true):DatV K H v (py d):=by
 cases d with
 | l _=>obtain⟨a,b,rfl,h,r⟩:=h.lst_inv;exact .l (eT.of h) (xC r (by simpa [lV] using e))
 | k _=>simp[lV] at e
 | T _=>simp[lV] at e
 | _=>exact K2 h e
mutual
theorem F9:∀ {d:D},lV d=true->(py d).canLay0=true
 | .e,_=>rfl
 | .b _,_=>rfl
 | .int _,_=>rfl
 | .str x,e=>by simpa [py,PyData.canLay0,lV] using e
 | .t a,e=>by simp only[py,PyData.canLay0];exact zQ (by simpa [lV] using e)
 | .con a,e=>by simp only[py,PyData.canLay0];exact zQ (by simpa [lV] using e)
 | .l a,e=>by simp only[py,PyData.canLay0];exact zQ (by simpa [lV] using e)
 | .c a,e=>by simp only[py,PyData.canLay0];exact zQ (by simpa [lV] using e)
 | .r _,e=>by simp[lV] at e
 | .k _,e=>by simp[lV] at e
 | .T _,e=>by simp[lV] at e
theorem zQ:∀ {g:Aa D},oP g=true->PyData.canLayAll0 (oN g)=true
 | [],_=>rfl
 | d::g,e=>by
  rw[oP,bX] at e;simp only[oN,PyData.canLayAll0,F9 e.1,zQ e.2,Bool.and_self]
end
mutual
theorem J0:∀ {d:D},lV d=true->PyData.eqv (py d) (py d)=true
 | .e,_=>rfl
 | .b b,_=>by simp[py,PyData.eqv]
 | .int i,_=>by simp[py,PyData.eqv]
 | .str x,_=>by simp[py,PyData.eqv]
 | .t a,e=>by simp only[py,PyData.eqv];exact Ak (by simpa [lV] using e)
 | .con a,e=>by simp only[py,PyData.eqv];exact Ak (by simpa [lV] using e)
 | .l a,e=>by simp only[py,PyData.eqv];exact Ak (by simpa [lV] using e)
 | .c a,e=>by simp only[py,PyData.eqv];exact Ak (by simpa [lV] using e)
 | .r _,e=>by simp[lV] at e
 | .k _,e=>by simp[lV] at e
 | .T _,e=>by simp[lV] at e
theorem Ak:∀ {g:Aa D},oP g=true->PyData.eqvAll (oN g) (oN g)=true
 | [],_=>rfl
 | d::g,e=>by
  rw[oP,bX] at e;simp only[oN,PyData.eqvAll,J0 e.1,Ak e.2,Bool.and_self]
end
theorem Lq:∀ {g:Aa D},(∀ d∈g,lV d=true)->oP g=true
 | [],_=>rfl
 | d::g,h=>by rw[oP,h d aG,Lq λe a=>h e (aN _ a)];rfl
def G4 (v:Bool):R2:=λx y H Q=>∃ (a b:Ad) (c d:Aa (hH×V)),x = .ref a/\y = .ref b/\H a=some (.k c)/\H b=some (.k d)/\c.length=d.length /\
 (∀ p∈c,∃ w,pJ d p.1=some w/\oR p.2=true/\oR w=true/\oF p.2 w=true)/\Q (.b v) H
theorem Ml {A:Around}{s:Ae}{g:Aa (hH×V)}{o:Aa (hH×Ac)}(C:KV g o) (r:Aa (hH×V)) (j:Aa (hH×Ac)) (h:KV r j)
  (l:∀ p∈r,∃ w,pJ g p.1=some w/\oR p.2=true/\oR w=true/\oF p.2 w=true):PySem.W.KeqHits A s o j true:=by
 induction h with
 | nil=>exact .nil
 | @cons a b r j m B q =>
  obtain⟨k,v⟩:=a;obtain⟨t,z⟩:=b;obtain⟨e,u⟩:=m;have e:k=t:=e;subst e;obtain⟨w,hw,f1,f2,i⟩:=l (k,v) aG;have d:=C.val k;rw[hw] at d;obtain⟨y,f,x⟩:=d.some_of;have c:SeqAt.EqAt A s z y (oF v w):=Lg u x f1 f2;rw[i] at c;have:=PySem.W.KeqHits.hit f c (q λp n=>l p (aN _ n));rw[Bool.true_and] at this;exact this
theorem Yl (g:X.A.units<cLine):lA X (compareOp .Eq) (G4 true):=by
 intro e s L H x y v u Q I D E h;obtain⟨a,b,d,B,rfl,rfl,t,w,c,z,q⟩:=h;cases D;cases E;obtain⟨G,d1,k,f,m⟩:=zA I.hok t;obtain⟨K,d2,F,i,n⟩:=zA I.hok w;have c:k.length=F.length:=by rw[<- f.length,<- i.length];exact c
 refine PySem.W.keq_eq d1 d2 m n g (λ_=>Ml i d k f z) ⟨.b _,H,I,rfl,?_⟩;rw[c];simpa using q
theorem Y4 (g:X.A.units<cLine):lA X (compareOp .NotEq) (G4 false):=by
 intro e s L H x y v u Q I D E h;obtain⟨a,b,d,B,rfl,rfl,t,w,c,z,q⟩:=h;cases D;cases E;obtain⟨G,d1,k,f,m⟩:=zA I.hok t;obtain⟨K,d2,F,i,n⟩:=zA I.hok w;have c:k.length=F.length:=by rw[<- f.length,<- i.length];exact c
 refine PySem.W.keq_ne d1 d2 m n g (λ_=>Ml i d k f z) ⟨.b _,H,I,rfl,?_⟩;rw[c];simpa using q
def Gc (neg:Bool):R2:=λx y H Q=>Gp x y=true/\Q (.b (nb neg (decide (x=y)))) H
def Dy (K:kG) (neg:Bool):R2:=λx y H Q=>Gc neg x y H Q\/Gx K neg x y H Q\/G4 (!neg) x y H Q\/Fe K neg x y H Q
theorem zB (g:X.A.units+64<cLine):lA X (compareOp .Eq) (Dy X.K false):=(show lA X (compareOp .Eq) (Gc false) from As).or ((Iz g).or ((Yl (by omega)).or (Vo g)))
theorem B6 (g:X.A.units+64<cLine):lA X (compareOp .NotEq) (Dy X.K true):=(show lA X (compareOp .NotEq) (Gc true) from Rj).or ((Rh g).or ((Y4 (by omega)).or (V1 g)))
def Oa (g j:Aa (hH×D)):Prop:=g.length=j.length/\∀ p∈g,∃ e v w,pD j p.1=some e/\tM p.2=some v/\tM e=some w/\oF v w=true
def xX (neg:Bool):O2:=λd e a=>match d,e with
 | .int i,.int j=>a (.v (.b (nb neg (decide (i=j)))))
 | .str i,.str j=>a (.v (.b (nb neg (decide (i=j)))))
 | .b i,.b j=>a (.v (.b (nb neg (decide (i=j)))))
 | .l c,.l []=>a (.v (.b (nb neg c.isEmpty)))
 | .k c,.k f=>Oa c f/\a (.v (.b (!neg)))
 | d,e=>lV d=true/\lV e=true/\min (py d).depth (py e).depth<=60/\a (.v (.b (nb neg (PyData.eqv (py d) (py e)))))
theorem Xm {l C:Aa (hH×D)}{j o:Aa (hH×V)}(h:Oa l C) (I:l.map (·.1)=j.map (·.1)) (T:Reps K A H (l.map (·.2)) (j.map (·.2))) (J:C.map (·.1)=o.map (·.1)) (U:Reps K A H (C.map (·.2)) (o.map (·.2))) :
  j.length=o.length/\∀ p∈j,∃ w,pJ o p.1=some w/\oR p.2=true/\oR w=true/\oF p.2 w=true:=by
 refine⟨by have a:=dF List.length I;have b:=dF List.length J;have c:=h.1;simp only[aB] at a b;omega,λp d=>?_⟩;have:∀ (l:Aa (hH×D)) (j:Aa (hH×V)),l.map (·.1)=j.map (·.1)->Reps K A H (l.map (·.2)) (j.map (·.2))->p∈j->∃ q∈l,q.1=p.1/\Rep K A H q.2 p.2:=by
  intro l;induction l with
  | nil=>intro j e _ d;cases j with
   | nil=>cases d
   | cons _ _=>simp at e
  | cons q l x=>intro j e r d;cases j with
   | nil=>cases d
   | cons k j =>
    simp only[aW,gL] at e;cases r with
    | cons g r =>
     rcases aF.mp d with z | z
     .subst z;exact⟨q,aG,e.1,g⟩
     .obtain⟨y,f,m⟩:=x j e.2 r z;exact⟨y,aN _ f,m⟩
 obtain⟨q,u,i,B⟩:=this l j I T d;obtain⟨e,v,w,f,m,s,t⟩:=h.2 q u;rw[i] at f;obtain⟨E,hw,n⟩:=(Cc J U p.1).1 e f;obtain⟨F,G⟩:=Cu m B.peek;obtain⟨L,M⟩:=Cu s n.peek;subst F L;exact⟨E,hw,G,M,t⟩
theorem tT (neg:Bool):nJ K (Dy K neg) (xX neg):=by
 intro B L H d e x y O Q hd h m c k;unfold xX at c;split at c
 .cases h;cases m
  rename_i i j
  have f:decide (V.int i=V.int j)=decide (i=j):=by simp
  exact .inl ⟨rfl,by rw[f];exact k _ _ H c (hd.pushF (.b _))⟩
 .cases h;cases m
  rename_i i j
  have f:decide (V.str i=V.str j)=decide (i=j):=by simp
  exact .inl ⟨rfl,by rw[f];exact k _ _ H c (hd.pushF (.b _))⟩
 .cases h;cases m
  rename_i i j
  have f:decide (V.b i=V.b j)=decide (i=j):=by simp
  exact .inl ⟨rfl,by rw[f];exact k _ _ H c (hd.pushF (.b _))⟩
 .rename_i M
  obtain⟨a,A,rfl,n,u⟩:=h.lst_inv;obtain⟨b,N,rfl,q,v⟩:=m.lst_inv;cases v;have f:M.isEmpty=A.isEmpty:=by cases u<;>rfl
  refine .inr (.inl ⟨a,b,A,rfl,rfl,eT.of n,eT.of q,?_⟩);rw[<- f];exact k _ _ H c (hd.pushF (.b _))
 .obtain⟨a,s,rfl,n,f,u⟩:=h.dK_inv;obtain⟨b,t,rfl,q,E,v⟩:=m.dK_inv;obtain⟨F,G⟩:=Xm c.1 f u E v;exact .inr (.inr (.inl ⟨a,b,s,t,rfl,rfl,n,q,F,G,k _ _ H c.2 (hd.pushF (.b _))⟩))
 .obtain⟨w,z,D,c⟩:=c;exact .inr (.inr (.inr ⟨_,_,Pz h w,Pz m z,F9 w,F9 z,D,k _ _ H c (hd.pushF (.b _))⟩))
end
end L2
namespace L2
open PySem PySem.Spec PyProof.Rows Lw
def nK (g:Aa D) (lo j:Ab Int):Aa D:=(g.drop (HT.sIx g.length 0 lo)).take (HT.sIx g.length g.length j-HT.sIx g.length 0 lo)
def pt (o:Ab lK):Aa Ad->Aa Sl->(Ab Int->Aa Sl->Prop)->Prop:=λc b k=>match o with
 | none=>k none b
 | some t=>t c b λr a=>match r with
  | .v (.int i)=>k (some i) a
  | _=>False
def xZ (K:kG):Ab lK->TO
 | none=>Jn
 | some t=>Lr (dE K t)
abbrev O3:=D->Ab Int->Ab Int->(Sl->Prop)->Prop
def Xt (f:O3) (i:Nat) (lo g:Ab lK):lK:=λc e h=>(at? e i).isSome=true/\pt lo c e λl b=>pt g c b λu a=>match at? a i with
 | some d=>f d l u λr=>h r a
 | none=>False
abbrev R3:=V->Ab Int->Ab Int->Hp->VK->Prop
def K3 (K:kG) (r:R3) (f:O3):Prop:=∀ (B:Bs) (L:lZ) (H:Hp) (d:D) (lo b:Ab Int) (x:V) (c:Sl->Prop) (Q:VK),DS K B L H->lP K (Al B (dT L)) H d x->f d lo b c ->
 (∀ s v a,c s->DS K B ((s,some v)::L) a->Q v a)->r x lo b H Q
section
variable {X:Cx}{K:kG}{lo:Ab Expr}
theorem O9 (I:l.length=p.length) (hd:DS K B (l.zip p++T) H) (h:pt o B.dk l k)
  (C:∀ i g j,g.length=p.length->DS K B (g.zip p++T) j->k i g->Q i j):xZ K o p H Q:=by
 cases o with
 | none=>exact C none l H I hd h
 | some t =>
  refine⟨B,l,T,_,I,hd,h,λr g v j b d1 a=>?_⟩;cases r with
  | n=>exact a.elim
  | o d=>exact a.elim
  | v d =>
   cases d with
   | int i=>exact⟨i,d1.valAt.int_inv,C (some i) g j b d1.drop a⟩
   | _=>exact a.elim
theorem Cw:PO X none (xZ X.K none):=yW
theorem wL (h:PD X e t):PO X (some e) (xZ X.K (some t)):=xY h
theorem zZ (I:sU X r) (p:K3 X.K r f) (o:PE X a (oV i)) (g:PO X lo (xZ X.K ol)) (j:PO X C (xZ X.K J)):PD X (.Subscript a (.Slice lo C none U) pos) (Xt f i ol J) :=
 (zT I o g j).mono λY H Q q=>q.elim λB W T V w hd ⟨n,G⟩ k=>by
  obtain⟨R,E⟩:=cX.mp n;obtain⟨x,y,_⟩:=hd.peek w E;refine⟨x,y,O9 w hd G λl O P L d2 N=>O9 L d2 N λu c D z t e=>?_⟩;cases h:at? c i with
  | none=>rw[h] at e;exact e.elim
  | some d =>
   rw[h] at e;obtain⟨S,b,M⟩:=t.peek z h;rw[y] at b;cases b;exact p B _ D d l u x _ Q t M e λs v A F m=>k s c v A z m.mid F
def Lf (K:kG):R3:=λx lo a H Q=>Mi K x lo a H Q\/L5 K x lo a H Q\/M7 x lo a H Q
theorem zY:sU X (Lf X.K):=E7.or (DY.or Ik)
def Zn:O3
 | .l a,lo,b,d=>d (.o (.l (nK a lo b)))
 | .c a,lo,b,d=>d (.o (.l (nK a lo b)))
 | .t a,lo,b,d=>¬ (HT.sIx a.length 0 lo=0/\HT.sIx a.length a.length b=a.length)/\d (.v (.t (nK a lo b)))
 | .str z,lo,b,d=>z.length<=100000/\d (.v (.str (qF z lo b)))
 | _,_,_,_=>False
theorem Ei (r:Reps K A H j l) (lo g:Ab Int):Reps K A H (nK j lo g) (rV l lo g):=by
 unfold nK rV;rw[r.length];exact (r.drop _).take _
theorem yS:K3 K (Lf K) Zn:=by
 intro B L H d lo m x n Q hd i b k;cases d<;>first | exact False.elim b | skip
 .cases i;exact .inr (.inr ⟨_,rfl,vP b.1,k _ _ _ b.2 (hd.pushF (.str _))⟩)
 .obtain⟨a,h,rfl,e,c⟩:=i.tup_inv;exact .inr (.inl ⟨a,h,rfl,lL.of e,by rw[<- c.length];exact b.1,λp f=>k _ _ _ b.2 (hd.tupF f (Ei c lo m))⟩)
 .obtain⟨a,h,rfl,e,c⟩:=i.lst_inv;exact .inl ⟨a,h,rfl,eT.of e,λp f=>k _ _ _ b (hd.lstF f (Ei c lo m))⟩
 .obtain⟨a,h,rfl,e,c⟩:=i.scr_inv;exact .inl ⟨a,h,rfl,e.sqL,λp f=>k _ _ _ b (hd.lstF f (Ei c lo m))⟩
abbrev O1:=D->(Sl->Prop)->Prop
abbrev R1:=V->Hp->VK->Prop
def V9 (K:kG) (r:R1) (f:O1):Prop:=∀ (B:Bs) (L:lZ) (H:Hp) (d:D) (x:V) (b:Sl->Prop) (Q:VK),DS K B L H->lP K (Al B (dT L)) H d x->f d b->(∀ s v a,b s->DS K B ((s,some v)::L) a->Q v a)->r x H Q
def d1 (f:O1) (g:lK):lK:=λb h e=>g b h λc a=>match sd c with
 | some d=>f d λr=>e r a
 | none=>False
theorem DN (j:V9 X.K r f) (h:dE X.K (d1 f l) o H Q):dE X.K l o H λx g=>r x g Q:=by
 obtain⟨B,z,T,A,m,hd,q,k⟩:=h;refine⟨B,z,T,_,m,hd,q,λy e x g t d1 a=>?_⟩;cases b:sd y with
 | none=>rw[b] at a;exact a.elim
 | some d =>
  rw[b] at a;obtain⟨u,w⟩:=d1.one b;exact j B _ g d x _ Q u w.peek a λs v i n c=>k s e v i t c.mid n
def J2:O1
 | .int i,a=>a (.v (.int (-i)))
 | _,_=>False
theorem tA (g:PD X a j):PD X (.UnaryOp .USub a pos) (d1 J2 j):=(Qr T3 g).mono λ_ _ _ h=>DN (f:=J2) (λB L H d x e Q hd c b k=>by
 cases d<;>first | exact False.elim b | skip
 cases c;exact⟨_,rfl,k _ _ H b (hd.pushF (.int _))⟩) h
noncomputable def Ex:D->Ab Bool
 | .e=>some false
 | .b b=>some b
 | .int i=>some (i != 0)
 | .str x=>some ((x.length:Int) != 0)
 | .l a=>some (!a.isEmpty)
 | .t a=>some (!a.isEmpty)
 | .k a=>some (!a.isEmpty)
 | _=>none
noncomputable def Gk:D->Bool
 | .str x=>decide (x.length<=100000)
 | _=>true
theorem BQ (h:lP K A H d x) (e:Ex d=some k) (g:Gk d=true):F2 K x H k:=by
 cases d<;>simp only[Ex,reduceCtorEq,iR] at e<;>subst e
 .have:=h.non_inv;subst this;rfl
 .have:=h.bl_inv;subst this;rfl
 .have:=h.int_inv;subst this;rfl
 .have:=h.str_inv;subst this;exact⟨vP (eG g),rfl⟩
 .obtain⟨a,b,rfl,h,r⟩:=h.tup_inv;exact .inr (.inl ⟨b,lL.of h,by cases r<;>rfl⟩)
 .obtain⟨a,b,rfl,h,r⟩:=h.lst_inv;exact .inl ⟨b,eT.of h,by cases r<;>rfl⟩
 .rename_i c
  obtain⟨a,b,rfl,h,e,r⟩:=h.dK_inv;refine .inr (.inr ⟨b,h,?_⟩);cases c<;>cases b<;>simp at e |-
def Jo (t:lK):oZ:=λc f e=>t c f λr a=>match sd r with
 | some d=>Gk d=true/\∃ b,Ex d=some b/\e b a
 | none=>False
theorem Ap (g:PD X a l) (j:∀ whole,isTrue a X.env whole=(do let v <- whole;standAt a.pos;holding [v] (truthy v)):=by intro _;rfl):qA X a (Jo l) :=
 (EE g j).mono λz H Q f=>f.elim λB x T y n hd s k=>⟨B,x,T,_,n,hd,s,λr h v i t d1 c=>by
  cases e:sd r with
  | none=>rw[e] at c;exact c.elim
  | some d =>
   rw[e] at c;obtain⟨q,b,m,c⟩:=c;obtain⟨u,w⟩:=d1.one e;exact⟨b,BQ w.peek m q,k b h i t u c⟩⟩
def Ve (t u:oZ):oZ:=λb e d=>t b e λc a=>if c=true then u b a d else d false a
def Q4 (t u:oZ):oZ:=λb e d=>t b e λc a=>if c=true then d true a else u b a d
def CL (t:oZ):oZ:=λb e d=>t b e λc a=>d (!c) a
variable {rest:Aa Expr}
theorem Fb (h:qA X a g):vG X (.BoolOp .And [a] pos) g:=N5 h
theorem Kg (h:qA X a g):vG X (.BoolOp .Or [a] pos) g:=Y7 h
theorem Ft (j:qA X a o) (l:vG X (.BoolOp .And (b::rest) pos) g):vG X (.BoolOp .And (a::b::rest) pos) (Ve o g) :=
 (O6 j l).mono λt H Q e=>e.elim λB s T q m hd n k=>⟨B,s,T,_,m,hd,n,λc d i h d1 f=>by
  cases c with
  | true=>exact (bA rfl).mpr ⟨B,d,T,q,h,d1,(bA rfl).mp f,k⟩
  | false=>exact wV (k false d i h d1 ((bB (by decide)).mp f))⟩
theorem Hz (j:qA X a o) (l:vG X (.BoolOp .Or (b::rest) pos) g):vG X (.BoolOp .Or (a::b::rest) pos) (Q4 o g) :=
 (Uq j l).mono λt H Q e=>e.elim λB s T q m hd n k=>⟨B,s,T,_,m,hd,n,λc d i h d1 f=>by
  cases c with
  | true=>exact (bA rfl).mpr (k true d i h d1 ((bA rfl).mp f))
  | false=>exact wV ⟨B,d,T,q,h,d1,(bB (by decide)).mp f,k⟩⟩
theorem zD (h:vG X a g):qA X a g:=PW.pt h
theorem Gg (h:qA X a g):qA X (.UnaryOp .Not a pos) (CL g):=(T0 h).mono λt H Q b=>b.elim λB q T s i hd m k=>⟨B,q,T,_,i,hd,m,λc d e n d1 f=>k _ d e n d1 f⟩
end
inductive Ar where
 | t (d:D) | al (i:Nat)
abbrev pX:=Aa Ad->Aa Sl->(Aa Ar->Aa Sl->Prop)->Prop
def qJ:Aa Ar->Aa V->lZ
 | .t d::as,v::a=>(.v d,some v)::qJ as a
 | .al _::as,_::a=>qJ as a
 | _,_=>[]
inductive ArOk (σ:St):List Ar->List V->Prop where
 | nil:ArOk σ [] []
 | t {d:D} {v:V} {as:List Ar} {vs:List V}:ArOk σ as vs->ArOk σ (.t d::as) (v::vs)
 | al {i:Nat} {v:V} {as:List Ar} {vs:List V}:σ[i]?=some (some v)->ArOk σ as vs->ArOk σ (.al i::as) (v::vs)
noncomputable def sZ (g:Aa Sl):Aa Ar->Ab (Aa D)
 | []=>some []
 | .t d::as=>(sZ g as).map (d::·)
 | .al i::as=>match at? g i,sZ g as with
  | some d,some a=>some (d::a)
  | _,_=>none
noncomputable def uJ:Aa Ar->Ab (Aa D)
 | []=>some []
 | .t d::as=>(uJ as).map (d::·)
 | .al _::_=>none
def zS:Aa Ar->Bool
 | []=>true
 | .t _::as=>zS as
 | .al _::_=>false
def dA (K:kG) (g:pX):TA:=λb H Q=>∃ (B:Bs) (d:Aa Sl) (T:lZ) (f:Aa Ar->Aa Sl->Prop),d.length=b.length/\DS K B (d.zip b++T) H/\g B.dk d f /\
 ∀ as a c e,a.length=b.length->ArOk b as c->DS K B (a.zip b++(qJ as c++T)) e->f as a->Q c e
theorem dA.elim {K:kG}{P:Prop}(h:dA K C l H Q) (f:∀ (B:Bs) (j:Aa Sl) (T:lZ) (o:Aa Ar->Aa Sl->Prop),j.length=l.length->DS K B (j.zip l++T) H->C B.dk j o ->(∀ as g p r,g.length=l.length->ArOk l as p->DS K B (g.zip l++(qJ as p++T)) r->o as g->Q p r)->P):P:=by
 obtain⟨B,j,T,o,a,hd,b,k⟩:=h;exact f B j T o a hd b k
abbrev pS (X:Cx) (g:Aa Expr) (j:pX):Prop:=PA X g (dA X.K j)
def Q2:pX:=λ_ b a=>a [] b
def aC (g:lK) (j:pX):pX:=λc f e=>g c f λr a=>j c a λas b=>match sd r with
 | some d=>e (.t d::as) b
 | none=>False
def aS (i:Nat) (g:pX):pX:=λc b d=>(at? b i).isSome=true/\g c b λas a=>d (.al i::as) a
theorem PA.mono {X:Cx}(h:PA X j t) (k:∀ g H Q,l g H Q->t g H Q):PA X j l:=λp a s g H Q I q=>h p a s g H Q I (k g H Q q)
def Am (B:Bs) (a:Ad):Prop:=a∉B.dk/\(B.A0 a\/B.H0 a=none)
inductive Peeks (K:kG) (A:Addr->Prop) (H:Hp):List D->List V->Prop where
 | nil:Peeks K A H [] []
 | cons {d:D} {v:V} {ds:List D} {vs:List V}:lP K A H d v->Peeks K A H ds vs->Peeks K A H (d::ds) (v::vs)
section
variable {X:Cx}{K:kG}
theorem gD:pS X [] Q2:=lO.mono λf H Q a=>a.elim λB d T e b hd c k=>k [] d [] H b .nil hd c
theorem eH (j:PD X e p) (l:pS X g o) (h:uS e=true:=by rfl):pS X (e::g) (aC p o):=(lC j l h).mono λD H Q f=>f.elim λB A T F v hd w k =>
 ⟨B,A,T,_,v,hd,w,λr i x E y d1 u=>⟨B,i,(r,some x)::T,_,y,d1,u,λas a n m z ok d2 b=>by
  cases c:sd r with
  | none=>rw[c] at b;exact b.elim
  | some d =>
   rw[c] at b;refine k (.t d::as) a (x::n) m z (.t ok) ?_ b;have q:DS X.K B ((a.zip D++qJ as n)++(r,some x)::T) m:=by simpa using d2
   have s:=(q.thaw c).front;exact DS.mid (by simpa using s)⟩⟩
theorem sO (j:PE X e (oV i)) (l:pS X g o) (h:uS e=true:=by rfl):pS X (e::g) (aS i o):=(lC j l h).mono λz H Q a=>a.elim λB v T y c hd ⟨q,s⟩ k=>by
 obtain⟨w,m⟩:=cX.mp q;obtain⟨x,d,_⟩:=hd.peek c m;exact⟨x,d,B,v,T,_,c,hd,s,λas b u f t ok d2 n=>k (.al i::as) b (x::u) f t (.al d ok) d2 n⟩
theorem DS.rmArgs:∀ {as:Aa Ar}{vs:Aa V},DS K B (L++(qJ as vs++T)) H->DS K B (L++T) H
 | [],_,h=>h
 | .t d::as,[],h=>h
 | .al _::as,[],h=>h
 | .t d::as,v::vs,h=>DS.rmArgs (as:=as) (vs:=vs) (DS.drop (L1:=L) (L2:=qJ as vs++T) h)
 | .al _::as,v::vs,h=>DS.rmArgs (as:=as) (vs:=vs) h
theorem Bj:∀ {as:Aa Ar}{vs:Aa V},dT (L++(qJ as vs++T))=dT (L++T)
 | [],_=>rfl
 | .t d::as,[]=>rfl
 | .al _::as,[]=>rfl
 | .t d::as,v::vs=>(show dT (L++(Sl.v d,some v)::(qJ as vs++T))=_ from Hk).trans (Bj (as:=as) (vs:=vs))
 | .al _::as,v::vs=>Bj (as:=as) (vs:=vs)
theorem DS.temps (h:DS K B (L++(qJ as j++T)) H) (ok:ArOk σ as j):∀ g,uJ as=some g->Reps K (Al B (dT (L++T))) H g j:=by
 have key:∀ p∈qJ as j,qW K (Al B (dT (L++T))) H p.1 p.2:=λp b=>by
  have:=h.ok p (by simp[b]);rw[Bj] at this;exact this
 clear h;induction ok with
 | nil=>intro g e;cases e;exact .nil
 | @t d v as j ok i =>
  intro g e;obtain⟨a,c,rfl⟩:=cB.mp e;obtain⟨u,f,r⟩:=key (.v d,some v) aG;cases f;exact .cons r (i (λp b=>key p (aN _ b)) a c)
 | al _ _ _=>intro g e;cases e
theorem DS.argsP (I:g.length=C.length) (h:DS K B (g.zip C++(qJ as l++T)) H) (ok:ArOk C as l):∀ j,sZ g as=some j ->
  Peeks K (Al B (dT (g.zip C++T))) H j l/\Reps K (Am B) H j l/\(zS as=true->Reps K (Al B (dT (g.zip C++T))) H j l):=by
 have key:∀ p∈qJ as l,qW K (Al B (dT (g.zip C++T))) H p.1 p.2:=λp m=>by
  have:=h.ok p (by simp[m]);rw[Bj] at this;exact this
 have A:=h.rmArgs;have am:∀ a,Al B (dT (g.zip C++T)) a->Am B a:=λa z=>⟨z.1,z.2.2⟩
 clear h;induction ok with
 | nil=>intro j e;cases e;exact⟨.nil,.nil,λ_=>.nil⟩
 | @t d v as l ok D =>
  intro j e;obtain⟨f,b,rfl⟩:=cB.mp e;obtain⟨u,k,r⟩:=key (.v d,some v) aG;cases k;obtain⟨E,F,O⟩:=D (λp m=>key p (aN _ m)) f b;exact⟨.cons r.peek E,.cons (r.mono (.all am)) F,λn=>.cons r (O n)⟩
 | @al i v as l G ok D =>
  intro j e;have e:=(show (match at? g i,sZ g as with | some d,some j=>some (d::j) | _,_=>none)=some j from e);cases b:at? g i with
  | none=>rw[b] at e;cases e
  | some d =>
   cases k:sZ g as with
   | none=>rw[b,k] at e;cases e
   | some f =>
    rw[b,k] at e;cases e;obtain⟨E,F,O⟩:=D (λp m=>key p m) f k;obtain⟨V,q,pv⟩:=A.peek I b;rw[G] at q;cases q;have Q:Rep K (Am B) H d v:=by
     unfold at? at b;cases w:g[i]? with
     | none=>rw[w] at b;cases b
     | some s =>
      rw[w] at b;obtain⟨R,y,S,M,_,P,_⟩:=sW I w;rw[G] at M;cases M;have L:(s,some v)∈g.zip C++T:=by rw[P];simp
      have:=A.ok _ L;cases s with
      | n=>cases b
      | v c=>cases b;obtain⟨u,x,r⟩:=this;cases x;exact r.mono (.all am)
      | o c =>
       cases b;obtain⟨a,x,r⟩:=this;cases x;have N:=A.new a (rN.mpr ⟨_,L,rfl⟩);exact r.rep am ⟨N.2,.inr N.1⟩
    exact⟨.cons pv E,.cons Q F,λn=>by simp[zS] at n⟩
def CG (g:pX):lK:=λc e d=>g c e λas a=>match uJ as with
 | some b=>b.length<=1000/\d (.v (.t b)) a
 | none=>False
def Bm (g:pX):lK:=λc e d=>g c e λas a=>match uJ as with
 | some b=>b.length<=1000/\d (.o (.l b)) a
 | none=>False
theorem Lx (h:n<=1000):n<=sizeLine:=bM h (by decide)
theorem qL (h:pS X g j):PD X (.Tuple g l pos) (CG j):=(Po h).mono λv H Q c=>c.elim λB q T u f hd m k=>⟨B,q,T,_,f,hd,m,λas d t s n ok d1 a=>by
 cases b:uJ as with
 | none=>rw[b] at a;exact a.elim
 | some e =>
  rw[b] at a;have r:=d1.temps ok e b;exact⟨Lx (by rw[<- r.length];exact a.1),λp i=>k _ d _ _ n (d1.rmArgs.tup i r) a.2⟩⟩
theorem oA (h:pS X g j):PD X (.List g pos) (Bm j):=(rA h).mono λv H Q c=>c.elim λB q T u f hd m k=>⟨B,q,T,_,f,hd,m,λas d t s n ok d1 a=>by
 cases b:uJ as with
 | none=>rw[b] at a;exact a.elim
 | some e =>
  rw[b] at a;have r:=d1.temps ok e b;exact⟨Lx (by rw[<- r.length];exact a.1),λp i=>k _ d _ _ n (d1.rmArgs.lstF i r).mid a.2⟩⟩
def Ra:lK:=λ_ b a=>a (.o (.k [])) b
theorem BY:PD X (.Dict [] [] pos) Ra:=Q8.mono λh H Q a=>a.elim λB e T f b hd d k p c=>k _ e _ _ b (hd.dKF (ds:=[]) (kvs:=[]) c rfl .nil).mid d
abbrev OC:=Aa D->(Sl->Prop)->Prop
def pU (K:kG) (r:Aa V->Hp->VK->Prop) (f:OC):Prop:=∀ (B:Bs) (L:lZ) (H:Hp) (b:Aa D) (c:Aa V) (d:Sl->Prop) (Q:VK),DS K B L H->Peeks K (Al B (dT L)) H b c->f b d ->
 (∀ s v a,d s->DS K B ((s,some v)::L) a->Q v a)->r c H Q
def dC (f:OC) (g:pX):lK:=λb e d=>g b e λas a=>match sZ a as with
 | some c=>f c λr=>d r a
 | none=>False
theorem Hr (l:pU X.K r f) (h:dE X.K (dC f o) p H Q):dA X.K o p H λj g=>r j g Q:=by
 obtain⟨B,u,T,w,n,hd,t,k⟩:=h;refine⟨B,u,T,_,n,hd,t,λas a j g i ok d1 b=>?_⟩;cases c:sZ a as with
 | none=>rw[c] at b;exact b.elim
 | some e =>
  rw[c] at b;exact l B _ g e j _ Q d1.rmArgs (d1.argsP i ok e c).1 b λs v m q d=>k s a v m i d.mid q
variable {id:String}
theorem nN (C:lX X (.builtin id) r) (I:pU X.K r f) (T:X.mg x=none) (hv:bootBuiltins x=some (.builtin id)) (o:pS X (e::l) ta) (J:Gl X x:=by rfl) (U:x ≠ "__name__" := by decide) (g:(x == ("__debug__" : Af))=false:=by decide)
  (j:StB X e l pos:=by exact {}):PD X (.Call (.Name x p) (e::l) [] pos) (dC f ta) :=
 (sX C J T hv o U g j).mono λ_ _ _ h=>Hr I h
theorem sI (C:lX X (.type id) r) (I:pU X.K r f) (T:X.mg x=none) (hv:bootBuiltins x=some (.type id)) (o:pS X (e::l) ta) (J:Gl X x:=by rfl) (U:x ≠ "__name__" := by decide) (g:(x == ("__debug__" : Af))=false:=by decide)
  (j:StB X e l pos:=by exact {}):PD X (.Call (.Name x p) (e::l) [] pos) (dC f ta) :=
 (He C J T hv o U g j).mono λ_ _ _ h=>Hr I h
end
def Iq:Sl->Bool
 | .v d=>imm d
 | .o (.l b)=>qX b
 | .o (.k a)=>qX (a.map (·.2))
 | .o (.T a)=>qX (a.map (·.2))
 | _=>false
def RV (K:kG) (g:Aa Ad) (A:Ad->Prop) (H:Hp) (s:Sl) (v:V) (j:Hp):Prop:=match s with
 | .n=>True
 | .v d=>Rep K (λa=>a∉g/\(A a\/H a=none)) j d v
 | .o d=>∃ a,v = .ref a/\H a=none/\a∉g/\mW K (λb=>b∉g/\b≠a/\(A b\/H b=none)) j a d
def wO (j:Aa Ad) (H g:Hp):Prop:=∀ b o,H b=some o->b∉j->g b=some o
abbrev RD:=Aa Ad->Aa D->(Sl->Prop)->Prop
def vX (K:kG) (R:RD):Sp:=λf H Q _=>∃ (b:Aa Ad) (A:Ad->Prop) (d:Aa D) (e:Sl->Prop),Dk b H/\(∀ a,A a->a∉b)/\Reps K A H d f/\R b d e /\
 ∀ s v c,e s->wO b H c->Dk b c->RV K b A H s v c->Q v c
section
variable {K:kG}
theorem mW.immR (h:mW K A H a d) (e:Iq (.o d)=true):mW K g H a d:=by
 cases d with
 | l _=>obtain⟨b,h,r⟩:=h;exact⟨b,h,r.imm e⟩
 | k _=>obtain⟨b,h,k,r⟩:=h;exact⟨b,h,k,r.imm e⟩
 | T _=>obtain⟨b,h,k,r⟩:=h;exact⟨b,h,k,r.imm e⟩
 | _=>exact False.elim h
theorem Kp.frm (f:wO g H l) (p:Dk g H) (h:∀ a,A a->a∉g/\j a):Kp A j H l:=by
 refine⟨λa o b e=>⟨(h a b).2,f a o e (h a b).1⟩,λa o t e=>f a o e λz=>?_⟩;obtain⟨c,q⟩:=p.some z;rw[e] at q;cases q;cases t
theorem DS.call (h:DS K B L H) (f:wO B.dk H g) (j:Dk B.dk g):DS K B L g :=
 ⟨λb o e n=>f b o (h.fr b o e n) n,j,h.nd,h.new,λp c=>(h.ok p c).mono (.frm f h.dk λa z=>⟨z.1,z⟩) λb d o q=>f b o q (h.new b (rN.mpr ⟨p,c,d⟩)).2⟩
theorem DS.adopt (h:DS K B L H) (f:wO B.dk H g) (l:Dk B.dk g) (j:H a=none) (r:mW K (Al B (a::dT L)) g a d):DS K B ((.o d,some (.ref a))::L) g:=by
 obtain⟨f1,f2,k⟩:=h.free j;have s:Kp (Al B (dT L)) (Al B (a::dT L)) H g:=by
  refine⟨λb o c e=>⟨⟨c.1,λz=>?_,c.2.2⟩,f b o e c.1⟩,λb o t e=>f b o e λz=>?_⟩
  .rcases aF.mp z with q | q
   .subst q;rw[j] at e;cases e
   .exact c.2.1 q
  .obtain⟨u,q⟩:=h.dk.some z;rw[e] at q;cases q;cases t
 have i:dT ((Sl.o d,some (V.ref a))::L)=a::dT L:=rfl;refine⟨λb o e n=>f b o (h.fr b o e n) n,l,by rw[i];exact bU.mpr ⟨k,h.nd⟩,λb c=>?_,λp m=>?_⟩
 .rw[i] at c;rcases aF.mp c with q | q
  .subst q;exact⟨f1,f2⟩
  .exact h.new b q
 .rw[i];rcases aF.mp m with q | q
  .subst q;exact⟨a,rfl,r⟩
  .exact (h.ok p q).mono s λb c o w=>f b o w (h.new b (rN.mpr ⟨p,q,c⟩)).2
theorem DS.result (h:DS K B L H) (f:wO B.dk H j) (l:Dk B.dk j) (r:RV K B.dk p H s v j) (g:(∀ a,p a->Al B (dT L) a)\/Iq s=true):DS K B ((s,some v)::L) j:=by
 have fresh:∀ b,b∉B.dk->H b=none->Al B (dT L) b:=λb n e=>⟨n,(h.free e).2.2,.inr (h.free e).1⟩
 cases s with
 | n=>exact (h.call f l).pushN (L1:=[]) _
 | v d =>
  refine (h.call f l).pushF ?_;rcases g with g | g
  .exact (show Rep K _ j d v from r).mono (.all λb z=>z.2.elim (g b) (fresh b z.1))
  .exact (show Rep K _ j d v from r).imm g
 | o d =>
  obtain⟨a,rfl,c,hd,r⟩:=r;refine h.adopt f l c ?_;rcases g with g | g
  .refine r.mono (.all λb z=>?_) λ_ q=>q
   have:=z.2.2.elim (g b) (fresh b z.1);exact⟨this.1,λq=>(aF.mp q).elim z.2.1 this.2.1,this.2.2⟩
  .exact r.immR g
end
def Hd (R:RD) (g:pX):lK:=λb e d=>g b e λas a=>match sZ a as with
 | some c=>R b c λs=>(zS as=true\/Iq s=true)/\d s a
 | none=>False
section
variable {X:Cx}{R:RD}
theorem Zs (h:dE X.K (Hd R l) o H Q):dA X.K l o H λj g=>vX X.K R (j++[]) g Q E0:=by
 obtain⟨B,A,T,D,u,hd,w,k⟩:=h;refine⟨B,A,T,_,u,hd,w,λas b j g q ok d1 c=>?_⟩;cases m:sZ b as with
 | none=>rw[m] at c;exact c.elim
 | some i =>
  rw[m] at c;obtain⟨_,x,y⟩:=d1.argsP q ok i m;have d2:=d1.rmArgs;rw[gJ];by_cases t:zS as=true
  .exact⟨B.dk,_,i,_,d2.dk,λa z=>z.1,y t,c,λs v e d f n r=>k s b v e q (d2.result f n r (.inl λa z=>z)).mid d.2⟩
  .exact⟨B.dk,_,i,_,d2.dk,λa z=>z.1,x,c,λs v e d f n r=>k s b v e q (d2.result f n r (.inr (d.1.resolve_left t))).mid d.2⟩
theorem Rx (F:FnOk X.prog X.w X.K X.mg X.base mH k f fd U (vX X.K R)) (T:Room k X.A) (C:Gl X x) (J:X.mg x=some (.ref f)) (I:PySem.W.keepIn X.K (.ref f)=true) (r:tU X.K fd U [])
  (o:pS X (e::l) ta) (g:(x == ("__debug__" : Af))=false:=by decide) (j:StB X e l pos:=by exact {}) :
  PD X (.Call (.Name x p) (e::l) [] pos) (Hd R ta):=(rQ F T C J I r .nil qS o g j).mono λ_ _ _ h=>Zs h
end
structure DEnds where
 nx:List Sl->Prop
 rt:Sl->Prop
 bk:List Sl->Prop:=λ_=>False
 ct:List Sl->Prop:=λ_=>False
abbrev nR:=Aa Ad->DEnds->Aa Sl->Prop
def yN (K:kG) (B:Bs) (T:lZ) (n:Nat) (g:DEnds) (j:Ends):Prop :=
 (∀ b a c,b.length=a.length->a.length=n->DS K B (b.zip a++T) c->(g.nx b->j.nx a c)/\(g.bk b->j.bk a c)/\(g.ct b->j.ct a c)) /\
 ∀ (r:Sl) (v:V) (b:Aa Sl) (a:St) (c:Hp),b.length=a.length->DS K B (b.zip a++(r,some v)::T) c->g.rt r->j.rt v c
def dS (K:kG) (g:nR):TS:=λd b H=>∃ (B:Bs) (a:Aa Sl) (T:lZ) (c:DEnds),a.length=b.length/\DS K B (a.zip b++T) H/\g B.dk c a/\yN K B T b.length c d
theorem dS.elim {K:kG}{P:Prop}(h:dS K p o j H) (f:∀ (B:Bs) (g:Aa Sl) (T:lZ) (l:DEnds),g.length=j.length->DS K B (g.zip j++T) H->p B.dk l g->yN K B T j.length l o->P):P:=by
 obtain⟨B,g,T,c,a,hd,b,k⟩:=h;exact f B g T c a hd b k
abbrev rG (X:Cx) (st:Stmt) (g:nR):Prop:=PS X st (dS X.K g)
abbrev sM (X:Cx) (st:Aa Stmt) (g:nR):Prop:=mY X st (dS X.K g)
theorem PS.mono {X:Cx}{st:Stmt}(h:PS X st t) (k:∀ D g H,j D g H->t D g H):PS X st j:=λa s g H D I q=>h a s g H D I (k D g H q)
theorem mY.mono {X:Cx}{st:Aa Stmt}(h:mY X st t) (k:∀ D g H,j D g H->t D g H):mY X st j:=λa s g H D I q=>h a s g H D I (k D g H q)
def S5:nR:=λ_ a b=>a.nx b
def Bd (t u:nR):nR:=λb a c=>t b { a with nx:=u b a } c
def By (g:lK):nR:=λb a c=>g b c λr _=>a.rt r
def Qx (g:lK):nR:=λc b d=>g c d λ_ a=>b.nx a
def Nm (c:oZ) (t u:nR):nR:=λd e f=>c d f λb a=>if b=true then t d e a else u d e a
def rK (i:Nat) (g:lK):nR:=λc b d=>g c d λr a=>b.nx (a.set i r)
section
variable {X:Cx}{K:kG}{st:Stmt}{rest:Aa Stmt}
theorem yN.seq (h:yN K B T n o p){P:Aa Sl->Prop}(k:∀ j g l,j.length=g.length->g.length=n->DS K B (j.zip g++T) l->P j->N g l):yN K B T n { o with nx:=P } { p with nx:=N } :=
 ⟨λj g l a b d=>⟨k j g l a b d,(h.1 j g l a b d).2⟩,h.2⟩
theorem Av:sM X [] S5:=Cp.mono λi f H a=>a.elim λB e T h b hd c d=>(d.1 e f H b rfl hd).1 c
theorem kR (g:rG X st t) (j:sM X rest u):sM X (st::rest) (Bd t u):=(nC g j).mono λs w H a=>a.elim λB m T e f hd h c =>
 ⟨B,m,T,_,f,hd,h,c.seq λb n v i k d q=>⟨B,b,T,e,i,d,q,by rw[k];exact c⟩⟩
theorem lU (h:rG X st t):sM X [st] t:=qG h
theorem nS (h:PD X e g):rG X (.Return (some e) pos) (By g):=(uE h).mono λt q H a=>a.elim λB n T s f hd i m=>⟨B,n,T,_,f,hd,i,λr b v c k d1 d=>m.2 r v b q c k d1 d⟩
theorem vH (h:PD X e j) (g:swapsWith e none pos.line X.env=pure false:=by rfl):rG X (.Expr e pos) (Qx j):=(Hf h g).mono λt q H a=>a.elim λB n T s f hd i m=>⟨B,n,T,_,f,hd,i,λr b v c k d1 d=>(m.1 b q c k rfl d1.drop).1 d⟩
theorem Dj (l:qA X c o) (g:sM X a t) (j:sM X b u):rG X (.If c a b pos) (Nm o t u):=(Dm l g j).mono λs w H e=>e.elim λB q T f m hd n k=>⟨B,q,T,_,m,hd,n,λc d v i d1 h=>by
 cases c with
 | true=>exact (bA rfl).mpr ⟨B,d,T,f,i,d1,(bA rfl).mp h,k⟩
 | false=>exact wV ⟨B,d,T,f,i,d1,(bB (by decide)).mp h,k⟩⟩
theorem DS.assign {g:Aa Sl}{j:St}(l:g.length=j.length) (h:DS K B (g.zip j++(r,some v)::T) H) (i:Nat):DS K B ((g.set i r).zip (j.set i (some v))++T) H:=by
 by_cases m:i<g.length
 .obtain⟨b,y,c,_,_,n,a⟩:=sW l (aI m);rw[a r (some v)];rw[n] at h;have d:DS K B (b++(c++(r,some v)::T)) H:=DS.drop (L1:=b) (x:=(g[i],y)) (by simpa using h);have e:DS K B ((b++c)++(r,some v)::T) H:=by simpa using d
  have f:=e.front;have k:DS K B ((r,some v)::(b++(c++T))) H:=by simpa using f
  simpa using k.mid
 .rw[fU (by omega),fU (by omega)];exact h.drop
theorem lG (i:Nat) (j:X.N.Nodup) (l:PD X e J) (p:X.N[i]?=some x:=by rfl) (I:sL X.env.scope x:=by first | exact Or.inl rfl | exact Or.inr rfl) (C:swapsWith e (some (.Name x g)) pos.line X.env=pure false:=by rfl)
  (o:X.fn x=true\/X.env.scope.names.lookup x=some .local:=by first | exact .inl rfl | exact .inr rfl | assumption):rG X (.Assign [.Name x g] e pos) (rK i J) :=
 (nI j p I l C o).mono λs t H a=>a.elim λB m T q f hd h k=>⟨B,m,T,_,f,hd,h,λr n v c b d1 d=>(k.1 _ _ c (by rw[bH,bH];exact b) (bH ..) (d1.assign b i)).1 d⟩
end
def vJ (N:Aa Af) (g:Aa D):Aa Sl:=g.map .v++List.replicate (N.length-g.length) .n
section
variable {P:Ah}{K:kG}
theorem Pn:∀ {g:Aa D}{j:Aa V}(n:Nat),g.length=j.length->(g.map Sl.v++List.replicate n Sl.n).zip (j.map some++List.replicate n none)=(g.zip j).map (λp=>(Sl.v p.1,some p.2))++List.replicate n (Sl.n,none)
 | [],[],n,_=>by simp
 | [],_::_,_,e=>by simp at e
 | _::_,[],_,e=>by simp at e
 | d::g,v::j,n,e=>by
  simp only[aW,cL,fG,gL,true_and];exact Pn n (by simpa using e)
theorem So (l:Reps K A H g j):∀ p∈g.zip j,Rep K A H p.1 p.2:=by
 induction g generalizing j with
 | nil=>intro p a;cases a
 | cons d g b =>
  cases l with
  | cons h r =>
  intro p a;rw[fG] at a;rcases aF.mp a with rfl | q
  .exact h
  .exact b r p q
theorem Fun.okD {st:Stmt}{R:RD}(F:Fun K x J st f fd) (S:FnScope N ps (lJ st)) (I:∀ C g T,R C g T->g.length=ps.length) (aa:ps.length<=N.length)
  (U:∀ (l:Ac) (A:Around) (j:Aa Env) (s:Ae) (H:Hp) (E:XK) (C:Aa Ad) (g:Aa D) (T:Sl->Prop),Room k (A.deeper (envOfC J (lJ st) s.heap.objs.size f l))->R C g T ->∃ t,sM (uH mH P w K mg base N J (lJ st) f l A j s H E).nox (pP st) t/\t C { nx:=λ_=>T (.v .e),rt:=T } (vJ N g)):FnOk P w K mg base mH (k+1) f fd ps (vX K R):=by
 refine F.ok S (λm H Q E M=>by obtain⟨C,A,g,T,_,_,r,u,_⟩:=M;rw[<- r.length];exact I _ _ _ u) λl A j s H m Q E hr M=>?_
 obtain⟨C,A1,g,T,L,hA,r,u,X⟩:=M;obtain⟨t,ht,hb⟩:=U l A j s H E C g T hr u;have G:g.length=m.length:=r.length;have dl:g.length=ps.length:=I _ _ _ u;refine⟨_,ht,⟨C,A1,H⟩,vJ N g,[],_,?_,?_,hb,?_,?_⟩
 .unfold vJ qY;rw[List.length_append,List.length_append,List.length_map,List.length_map,List.length_replicate,List.length_replicate,G]
 .have W:(vJ N g).zip (qY N m)=(g.zip m).map (λp=>(Sl.v p.1,some p.2))++List.replicate (N.length-g.length) (Sl.n,none):=by
   unfold vJ qY;rw[<- G];exact Pn _ G
  have B:dT ((vJ N g).zip (qY N m))=[]:=by
   rw[W];refine fZ.mpr λa i=>?_
   obtain⟨q,c,e⟩:=rN.mp i;rcases aV.mp c with z | z
   .obtain⟨p,_,rfl⟩:=aJ.mp z;cases e
   .rw[(List.mem_replicate.mp z).2] at e;cases e
  rw[gJ];refine⟨λb o e _=>e,L,by rw[B];exact List.nodup_nil,(λa i=>by rw[B] at i;exact absurd i bE),λq c=>?_⟩;rw[B];rw[W] at c;rcases aV.mp c with z | z
  .obtain⟨p,hp,rfl⟩:=aJ.mp z;exact⟨p.2,rfl,(So r p hp).mono (.all λa i=>⟨hA a i,bE,.inl i⟩)⟩
  .rw[(List.mem_replicate.mp z).2];trivial
 .intro O V y l1 l2 d1;refine⟨λh=>X _ _ y h d1.fr d1.dk .e,λh=>h.elim,λh=>h.elim⟩
 .intro Z v O V y l1 d1 h;refine X Z v y h d1.fr d1.dk ?_;cases Z with
  | n=>trivial
  | v d=>exact d1.valAt.mono (.all λa z=>⟨z.1,z.2.2⟩)
  | o d =>
   obtain⟨a,rfl,r'⟩:=d1.ownAt;have Y:=d1.new a (by rw[oQ];exact aY _ aG);exact⟨a,rfl,Y.1,Y.2,r'.mono (.all λb z=>⟨z.1,λq=>z.2.1 (by simp[q]),z.2.2⟩) λ_ q=>q⟩
end
abbrev rS:=D->Aa Sl->(Aa Sl->Prop)->Prop
abbrev wC:=Aa D->Aa Sl->(Aa Sl->Prop)->Prop
noncomputable def nB (g:Aa D) (j:Aa V):lZ:=(g.zip j).map λp=>(Sl.v p.1,some p.2)
def dG (K:kG) (n:Nat) (g:rS):TG:=λv c H Q=>∃ (B:Bs) (e:Aa Sl) (T:lZ) (d:D) (h:Aa Sl->Prop),e.length=c.length/\DS K B (e.zip c++(.v d,some v)::T) H/\g d e h /\
 ∀ (b:Aa Sl) (a:St) (f:Hp),b.length=a.length->a.length=c.length->(∀ j,n<=j->a[j]?=c[j]?)->DS K B (b.zip a++T) f->h b->Q a f
def Fk (K:kG) (n:Nat) (g:wC):vN:=λh c H Q=>∃ (B:Bs) (e:Aa Sl) (T:lZ) (d:Aa D) (i:Aa Sl->Prop),e.length=c.length/\d.length=h.length/\DS K B (e.zip c++(nB d h++T)) H/\g d e i /\
 ∀ (b:Aa Sl) (a:St) (f:Hp),b.length=a.length->a.length=c.length->(∀ j,n<=j->a[j]?=c[j]?)->DS K B (b.zip a++T) f->i b->Q a f
theorem dG.elim {K:kG}{P:Prop}(h:dG K n I v r H Q) (f:∀ (B:Bs) (o:Aa Sl) (T:lZ) (d:D) (p:Aa Sl->Prop),o.length=r.length->DS K B (o.zip r++(.v d,some v)::T) H->I d o p ->(∀ (l:Aa Sl) (g:St) (C:Hp),l.length=g.length->g.length=r.length->(∀ j,n<=j->g[j]?=r[j]?)->DS K B (l.zip g++T) C->p l->Q g C)->P):P:=by
 obtain⟨B,o,T,d,p,a,hd,b,k⟩:=h;exact f B o T d p a hd b k
theorem Fk.elim {K:kG}{P:Prop}(h:Fk K n U J C H Q) (f:∀ (B:Bs) (p:Aa Sl) (T:lZ) (o:Aa D) (r:Aa Sl->Prop),p.length=C.length->o.length=J.length->DS K B (p.zip C++(nB o J++T)) H->U o p r ->(∀ (l:Aa Sl) (g:St) (I:Hp),l.length=g.length->g.length=C.length->(∀ j,n<=j->g[j]?=C[j]?)->DS K B (l.zip g++T) I->r l->Q g I)->P):P:=by
 obtain⟨B,p,T,o,r,a,c,hd,b,k⟩:=h;exact f B p T o r a c hd b k
abbrev tW (X:Cx) (n:Nat) (e:Expr) (g:rS):Prop:=PG X e (dG X.K n g)
abbrev zK (X:Cx) (n:Nat) (g:Aa Expr) (j:wC):Prop:=tV X g (Fk X.K n j)
theorem PG.mono {X:Cx}(h:PG X e t) (k:∀ v g H Q,j v g H Q->t v g H Q):PG X e j:=λa s g H v u Q I r q=>h a s g H v u Q I r (k v g H Q q)
theorem tV.mono {X:Cx}(h:tV X j t) (k:∀ v g H Q,l v g H Q->t v g H Q):tV X j l:=λa s g H v u Q I r q=>h a s g H v u Q I r (k v g H Q q)
def gN (i:Nat):rS:=λd b a=>a (b.set i (.v d))
def Vj:wC:=λa c b=>a=[]/\b c
def Qh (g:rS) (j:wC):wC:=λa e c=>match a with
 | d::a=>g d e λb=>j a b c
 | []=>False
def Rp (n:Nat) (g:wC):rS:=λd c b=>match d with
 | .t a=>a.length=n/\g a c b
 | _=>False
section
variable {X:Cx}{K:kG}
theorem DS.pushs {A:Ad->Prop}:∀ {ds:Aa D}{vs:Aa V},DS K B (L++T) H->Reps K (Al B (dT (L++T))) H ds vs->DS K B (L++(nB ds vs++T)) H
 | _,_,h,.nil=>h
 | _,_,h,.cons (ds:=ds) (vs:=vs) r i=>by
  have c:=DS.pushs (A:=A) h i;have b:dT (L++(nB ds vs++T))=dT (L++T):=by
   have:∀ (ds:Aa D) (vs:Aa V),dT (nB ds vs)=[]:=λds vs=>by
    refine fZ.mpr λa d=>?_
    obtain⟨q,f,e⟩:=rN.mp d;obtain⟨p,_,rfl⟩:=aJ.mp f;cases e
   rw[oK,oK,oK,this,jN]
  exact c.push (by rw[b];exact r)
theorem kX (i:Nat) (g:X.N.Nodup) (o:X.N[i]?=some x:=by rfl) (p:sL X.env.scope x:=by first | exact Or.inl rfl | exact Or.inr rfl) (r:i<m:=by decide) (l:X.fn x=true\/X.env.scope.names.lookup x=some .local:=by first | exact .inl rfl | exact .inr rfl | assumption):tW X m (.Name x pos) (gN i) :=
 (uK g o p l).mono λv n H Q a=>a.elim λB h T d f b hd c k=>k _ _ H (by rw[bH,bH];exact b) (bH ..) (λj e=>dY (by omega)) (hd.assign b i) c
theorem pQ:zK X m [] Vj:=DU.mono λf i H Q a=>a.elim λB h T n q c e hd ⟨b,d⟩ k=>by
 subst b;cases f with
 | nil=>exact⟨rfl,k h i H c rfl (λ_ _=>rfl) hd d⟩
 | cons _ _=>simp at e
theorem mD (p:tW X m e g) (r:zK X m l o) (C:(assignEach (e::l) X.env).map (·.2)=assign e X.env::(assignEach l X.env).map (·.2):=by rfl):zK X m (e::l) (Qh g o) :=
 (Se p r C).mono λb M H Q c=>c.elim λB F T a E w t hd s k=>by
  cases a with
  | nil=>exact s.elim
  | cons d a =>
   cases b with
   | nil=>simp at t
   | cons v b =>
    refine⟨v,b,rfl,B,F,nB a b++T,d,_,w,hd,s,λf G L x y f1 d1 q=>⟨B,f,T,a,E,x,by simpa using t,d1,q,λh i u z A f2 d2 D=>k h i u z (A.trans y) (λj n=>(f2 j n).trans (f1 j n)) d2 D⟩⟩
theorem qR (o:X.calm=true) (h:zK X m g l) (p:(assignEach g X.env).length=n:=by rfl) (j:(assignEach g X.env).findIdx? (·.1)=none:=by rfl):tW X m (.Tuple g k pos) (Rp n l) :=
 (Wq o h p j).mono λv x H Q b=>b.elim λB w T d u q hd c k=>by
  cases d with
  | t f =>
   obtain⟨a,s,rfl,i,e⟩:=hd.valAt.tup_inv;exact⟨a,s,rfl,lL.of i,by rw[<- e.length];exact c.1,B,w,T,f,u,q,e.length,hd.drop.pushs (A:=λ_=>True) e,c.2,k⟩
  | _=>exact c.elim
end
def Tv (j:lK) (g:rS):nR:=λc b e=>j c e λr a=>match sd r with
 | some d=>g d a b.nx
 | none=>False
def vB:D->D->D->Ab D
 | .l b,.int i,d=>(pW b.length i).map λj=>.l (b.set j d)
 | .k a,k,d=>if a.length<100000 then (pN k).map λk=>.k (qQ a k d) else none
 | .T a,.t c,d=>if a.length<100000 then (vK c).map λk=>.T (qQ a k d) else none
 | _,_,_=>none
def Dz (i:Nat) (g j:lK):nR:=λf h q=>j f q λn a=>(at? a i).isSome=true/\g f a λm b=>match sd n,sd m,b[i]? with
 | some d,some k,some (.o c)=>∃ e,vB c k d=some e/\h.nx (b.set i (.o e))
 | _,_,_=>False
section
variable {X:Cx}{K:kG}
theorem Uf (o:PD X e I) (p:tW X m l g) (C:swapsWithSole [l] e pos.line X.env=pure false:=by rfl) (hw:swappedStores [l] e X.env=pure none:=by rfl)
  (j:(assignEach [l] X.env).map (·.2)=[assign l X.env]:=by rfl):rG X (.Assign [l] e pos) (Tv I g):=(zP o p C hw j).mono λz D H b=>b.elim λB x T y k hd n s=>⟨B,x,T,_,k,hd,n,λr c v A q d1 j=>by
 cases a:sd r with
 | none=>rw[a] at j;exact j.elim
 | some d =>
  rw[a] at j;exact⟨B,c,T,d,_,q,d1.thaw a,j,λf h i t u _ d2 w=>(s.1 f h i t u d2).1 w⟩⟩
def Nz:G5:=λo i v H Q=>Pe o i v H Q\/∃ a b,o = .ref a/\uF H a i v b/\Q b
theorem Wf (j:X.A.units+1<cLine):Ez X Nz:=by
 intro b s t H o i v n m u Q I d c e h;rcases h with h | ⟨a,f,rfl,g,q⟩
 .exact C5 b s t H o i v n m u Q I d c e h
 .cases d;exact Uv j I g c e λw k=>⟨f,k,q⟩
theorem DS.slotW {g:Aa Sl}{j:St}(C:g.length=j.length) (h:DS K B (g.zip j++T) H){i:Nat}{c:D}(e:g[i]?=some (.o c)):∃ a,j[i]?=some (some (.ref a))/\mW K (Al B (dT (g.zip j++T))) H a c /\
  ∀ (o:HO) (l:D),(∀ p,Kp (Al B (dT (g.zip j++T))) p H (upd H a o)->mW K p (upd H a o) a l)->DS K B ((g.set i (.o l)).zip j++T) (upd H a o):=by
 obtain⟨q,y,s,m,_,n,b⟩:=sW C e;have d:DS K B (q++(.o c,y)::(s++T)) H:=by rw[n] at h;simpa using h
 obtain⟨a,rfl,_⟩:=d.at;have f:dT (g.zip j++T)=dT q++a::dT (s++T):=by rw[n,bD,cL,oQ];rfl
 obtain⟨v,t,r⟩:=d.ownAt;cases t;refine⟨a,m,by rw[f];exact r,λo l k=>?_⟩;rw[f] at k;have u:=d.write (o:=o) (d':=l) k;have:=b (.o l) (some (.ref a));rw[wT m] at this;rw[this]
 simpa using u
theorem Wb (h:vB c k d=some p) (r:mW K A H a c) (J:lP K A H k y) (I:Rep K A H d v)
  (C:∀ o,(∀ g,Kp A g H (upd H a o)->mW K g (upd H a o) a p)->Q (upd H a o)):Nz (.ref a) y v H Q:=by
 cases c with
 | l M =>
  cases k with
  | int i =>
   obtain⟨m,s,n⟩:=r;obtain⟨j,u,rfl⟩:=cB.mp h;have:=J.int_inv;subst this;exact .inl ⟨a,m,i,j,rfl,rfl,s,by rw[<- n.length];exact u,C _ λg w=>⟨_,lB,(n.set I j).mono w⟩⟩
  | _=>cases h
 | k e =>
  obtain⟨m,s,q,n⟩:=r;have h:=(show (if e.length<100000 then (pN k).map λj=>D.k (qQ e j d) else none)=some p from h);by_cases f:e.length<100000
  .rw[bA f] at h;obtain⟨j,u,rfl⟩:=cB.mp h;rw[yU u J];obtain⟨z,B⟩:=Il q n (k:=j) I;have x:m.length<sizeLine:=by
    have:=dF List.length q;simp only[aB] at this;exact aT (show m.length<100000 by omega) (by decide)
   exact .inr ⟨a,_,rfl,uF.k s x,C _ λg w=>⟨_,lB,z,B.mono w⟩⟩
  .rw[bB f] at h;cases h
 | T e =>
  cases k with
  | t F =>
   obtain⟨m,s,q,n⟩:=r;have h:=(show (if e.length<100000 then (vK F).map λj=>D.T (qQ e j d) else none)=some p from h);by_cases f:e.length<100000
   .rw[bA f] at h;obtain⟨j,u,rfl⟩:=cB.mp h;obtain⟨b,L,rfl,E,G⟩:=J.tup_inv;rw[Nc u G] at E;obtain⟨z,B⟩:=Il q n (k:=j) I;have x:m.length<sizeLine:=by
     have:=dF List.length q;simp only[aB] at this;exact aT (show m.length<100000 by omega) (by decide)
    exact .inr ⟨a,_,rfl,uF.t s E x,C _ λg w=>⟨_,lB,z,B.mono w⟩⟩
   .rw[bB f] at h;cases h
  | _=>cases h
 | _=>cases h
theorem F1 (U:X.A.units+1<cLine) (hv:PD X e tv) (I:PE X o (oV n)) (r:PD X i ti)
  (j:∀ v,assign (.Subscript o i g) X.env v=(do
   let l <- holding [v] (eval o X.env);let C <- holding [v,l] (eval i X.env)
   standAt g
   holding [v,l,C] (setItem l C v)
   release [v,l,C] []):=by intro _;rfl)
  (J:swapsWithSole [.Subscript o i g] e pos.line X.env=pure false:=by rfl) (hw:swappedStores [.Subscript o i g] e X.env=pure none:=by rfl)
  (p:(assignEach [.Subscript o i g] X.env).map (·.2)=[assign (.Subscript o i g) X.env]:=by rfl):rG X (.Assign [.Subscript o i g] e pos) (Dz n ti tv) :=
 (zP hv (Cd I r (Wf U) j) J hw p).mono λDn σ H q=>q.elim λB ρ T De N hd P Q=>⟨B,ρ,T,_,N,hd,P,λF u v H1 D d1 t=>by
  obtain⟨r,p⟩:=t;obtain⟨d0,L⟩:=cX.mp r;obtain⟨x,z,_⟩:=d1.peek D L;refine⟨x,z,B,u,(F,some v)::T,_,D,d1,p,λY w y H2 E d2 b=>?_⟩;cases f:sd F with
  | none=>rw[f] at b;exact b.elim
  | some d =>
   cases h:sd Y with
   | none=>rw[f,h] at b;exact b.elim
   | some k =>
    cases m:w[n]? with
    | none=>rw[f,h,m] at b;exact b.elim
    | some s =>
     cases s with
     | n=>rw[f,h,m] at b;exact b.elim
     | v c=>rw[f,h,m] at b;exact b.elim
     | o c =>
      rw[f,h,m] at b;obtain⟨G,M,b⟩:=b;obtain⟨R,S,V⟩:=d2.two f h;obtain⟨a,j,W,Z⟩:=R.slotW E m;rw[z] at j;cases j;exact Wb M W V.peek S λo O=>(Q.1 _ _ _ (by rw[bH];exact E) rfl (Z o G O)).1 b⟩
def J4 (n:Nat) (f:Int->Int->Int) (g:lK):nR:=λd c b=>match at? b n with
 | some (.int i)=>g d b λr a=>match r with
  | .v (.int j)=>c.nx (a.set n (.v (.int (f i j))))
  | _=>False
 | _=>False
theorem F3 (j:X.N.Nodup) (p:X.N[n]?=some x) (I:sL X.env.scope x) (l:PD X e J) (C:Dp X op (Ga f)) (o:X.fn x=true\/X.env.scope.names.lookup x=some .local:=by first | exact .inl rfl | exact .inr rfl | assumption) :
  rG X (.AugAssign (.Name x g) op e pos) (J4 n f J):=(Uo j p I l C o).mono λz A H h=>h.elim λB m T w i hd a t=>by
 unfold J4 at a;cases b:at? m n with
 | none=>rw[b] at a;exact False.elim a
 | some d =>
 rw[b] at a;cases d<;>first | exact False.elim a | skip
 .obtain⟨v,s,pv⟩:=hd.peek i b;have:=pv.int_inv;subst this;refine⟨_,s,B,m,T,_,i,hd,a,λr u y q k d1 c=>?_⟩;cases r<;>first | exact False.elim c | skip
  rename_i d
  cases d<;>first | exact False.elim c | skip
  have:=d1.valAt.int_inv;subst this;exact⟨_,_,rfl,rfl,(t.1 _ _ q (by rw[bH,bH];exact k) (bH ..) ((d1.drop.push (.int _)).assign k n)).1 c⟩
end
section
variable {X:Cx}
def DA (K:kG) (R:It->Hp->Prop) (x:V) (H:Hp):Prop:=(∃ a,x = .ref a/\(∃ b,eT K H a b)/\R (xI K a) H)\/(∃ a,x = .ref a/\(∃ b,lL K H a b)/\R (Fj K a) H)\/∃ z:Af,x = .str z/\z.cps.all (·<128)=true/\R (sD z) H
def Wv (K:kG) (g:TE):TI:=λb H R=>g b H λx a=>DA K R x a
theorem CI (g:PE X l j):PI X r l (Wv X.K j):=by
 intro d s G H R I h;refine hO (g d s G H _ I h) λv c u=>?_
 obtain⟨x,k,f,w,D⟩:=u;have m:∀ b∈[c.heap.objs.size],qI X d k b:=λb A=>by
  have e:b=c.heap.objs.size:=by simpa using A
  subst e;exact f.fpOk (aH _) (f.hok.fresh (aH _))
 rcases D with⟨a,rfl,⟨F,n⟩,q⟩ | ⟨a,rfl,⟨F,n⟩,q⟩ | ⟨z,rfl,y,q⟩
 .cases w;obtain⟨i,E,p,B⟩:=f.list n;exact dN p.isList ⟨c.heap.objs.size,[c.heap.objs.size],_,_,k,rfl,f.kept (t':=c.toks) λb o e=>aE _ e,Pq a _,⟨_,aR _ rfl,rfl,rfl⟩,m,q⟩
 .cases w;obtain⟨i,E,p,B⟩:=f.tuple n;exact wpAny_pyIter_tuple (show c.heap.IsTuple a i.toArray from p) ⟨c.heap.objs.size,[c.heap.objs.size],_,_,k,rfl,f.kept (t':=c.toks) λb o e=>aE _ e,Xe a _,⟨_,aR _ rfl,rfl,rfl⟩,m,q⟩
 .obtain⟨t,rfl⟩:=w;exact wpAny_pyIter_ascii y ⟨c.heap.objs.size,[c.heap.objs.size],_,sD z,k,rfl,f.kept (t':=c.toks) λb L q=>aE _ q,Jq z t _,⟨_,aR _ rfl,rfl,rfl⟩,m,q⟩
end
def uQ (K:kG) (A:Ad->Prop) (H:Hp) (E:lZ):Prop:=∀ p∈E,qW K A H p.1 p.2
structure YD (K:kG) (J:It) (ds:List D) (E:lZ):Prop where
 vals:dT E=[]
 go:∀ i H A,i<ds.length->uQ K A H E->J.go i H
 yld:∀ i H A x H',i<ds.length->uQ K A H E->J.yld i H x H'->∃ d,ds[i]?=some d/\((H'=H/\Rep K A H d x)\/∃ p es vs,H p=none/\x = .ref p/\H'=upd H p (.t vs)/\d = .t es/\Reps K A H es vs)
 stop:∀ i H A,i=ds.length->uQ K A H E->J.stop i H
abbrev sN:=Aa Ad->Aa Sl->(Aa D->Aa Sl->Prop)->Prop
def dI (K:kG) (g:sN):TI:=λb H R=>∃ (B:Bs) (c:Aa Sl) (T:lZ) (f:Aa D->Aa Sl->Prop),c.length=b.length/\DS K B (c.zip b++T) H/\g B.dk c f /\
 ∀ (J:It) (e:Aa D) (a:Aa Sl) (E:lZ) (d:Hp),a.length=b.length->DS K B (a.zip b++(E++T)) d->YD K J e E->f e a->R J d
theorem dI.elim {K:kG}{R:It->Hp->Prop}{P:Prop}(h:dI K C o H R) (f:∀ (B:Bs) (j:Aa Sl) (T:lZ) (l:Aa D->Aa Sl->Prop),j.length=o.length->DS K B (j.zip o++T) H->C B.dk j l ->(∀ (J:It) (r:Aa D) (g:Aa Sl) (E:lZ) (p:Hp),g.length=o.length->DS K B (g.zip o++(E++T)) p->YD K J r E->l r g->R J p)->P):P:=by
 obtain⟨B,j,T,l,a,hd,b,k⟩:=h;exact f B j T l a hd b k
abbrev uI (X:Cx) (g iter:Expr) (j:sN):Prop:=PI X g iter (dI X.K j)
theorem PI.mono {X:Cx}{iter:Expr}(h:PI X j iter w) (k:∀ g H R,l g H R->w g H R):PI X j iter l:=λa s g H R I q=>h a s g H R I (k g H R q)
noncomputable def wH (z:Af):Aa D:=z.cps.toList.map λc=>D.str ⟨#[c]⟩
def Yy:D->Ab (Aa D)
 | .l a=>some a
 | .t a=>some a
 | .con a=>some a
 | .c a=>some a
 | .str z=>if z.cps.all (·<128) then some (wH z) else none
 | _=>none
def iV (g:lK):sN:=λb e d=>g b e λr a=>match (sd r).bind Yy with
 | some c=>d c a
 | none=>False
noncomputable def nH (lo:Int) (n:Nat):Aa D:=(List.range n).map λ(i:Nat)=>D.int (lo+i)
def Q0 (g:lK):sN:=λb d c=>g b d λr a=>match r with
 | .v (.int j)=>-(2 ^ 62)<=j/\j<2 ^ 62/\c (nH 0 j.toNat) a
 | _=>False
def Rq (g l:lK):sN:=λc f e=>g c f λr a=>l c a λd b=>match r,d with
 | .v (.int i),.v (.int j)=>(-(2 ^ 62)<=i/\i<2 ^ 62/\-(2 ^ 62)<=j/\j<2 ^ 62)/\e (nH i (j-i).toNat) b
 | _,_=>False
section
variable {X:Cx}{K:kG}
theorem Vd {a:Ad}{g:Aa D}:YD K (xI K a) g [(.v (.l g),some (.ref a))] where
 vals:=rfl
 go:=λi H A h ok=>by
  obtain⟨v,e,r⟩:=ok _ aG;cases e;obtain⟨k,b,e,_,c,f⟩:=r.lst_inv;cases e;exact⟨b,b[i]'(by rw[<- f.length];exact h),eT.of c,aI _⟩
 yld:=λi H A x m h ok y=>by
  obtain⟨v,e,r⟩:=ok _ aG;cases e;obtain⟨k,b,e,_,c,f⟩:=r.lst_inv;cases e;obtain⟨d,hd,rd⟩:=f.getV (y.2 b (eT.of c));exact⟨d,hd,.inl ⟨y.1,rd⟩⟩
 stop:=λi H A h ok=>by
  obtain⟨v,e,r⟩:=ok _ aG;cases e;obtain⟨k,b,e,_,c,f⟩:=r.lst_inv;cases e;exact⟨b,eT.of c,by rw[<- f.length];omega⟩
theorem Td {a:Ad}{g:Aa D}:YD K (xI K a) g [(.v (.c g),some (.ref a))] where
 vals:=rfl
 go:=λi H A k ok=>by
  obtain⟨v,e,r⟩:=ok _ aG;cases e;obtain⟨m,b,e,f,h⟩:=r.scr_inv;cases e;exact⟨b,b[i]'(by rw[<- h.length];exact k),f.sqL,aI _⟩
 yld:=λi H A x n k ok y=>by
  obtain⟨v,e,r⟩:=ok _ aG;cases e;obtain⟨m,b,e,f,h⟩:=r.scr_inv;cases e;obtain⟨d,hd,rd⟩:=h.getV (y.2 b f.sqL);exact⟨d,hd,.inl ⟨y.1,rd⟩⟩
 stop:=λi H A k ok=>by
  obtain⟨v,e,r⟩:=ok _ aG;cases e;obtain⟨m,b,e,f,h⟩:=r.scr_inv;cases e;exact⟨b,f.sqL,by rw[<- h.length];omega⟩
theorem L0 {a:Ad}{d:D}{g:Aa D}(hd:d = .t g\/d = .con g):YD K (Fj K a) g [(.v d,some (.ref a))]:=by
 have key:∀ A H,uQ K A H [(.v d,some (.ref a))]->∃ b,lL K H a b/\Reps K A H g b:=λA H ok=>by
  obtain⟨v,e,r⟩:=ok _ aG;cases e;rcases hd with rfl | rfl
  .obtain⟨k,b,e,c,f⟩:=r.tup_inv;cases e;exact⟨b,lL.of c,f⟩
  .obtain⟨k,b,e,c,f⟩:=r.con_inv;cases e;exact⟨b,c.sqT,f⟩
 refine⟨rfl,λi H A h ok=>?_,λi H A x m h ok y=>?_,λi H A h ok=>?_⟩
 .obtain⟨b,c,f⟩:=key A H ok;exact⟨b,b[i]'(by rw[<- f.length];exact h),c,aI _⟩
 .obtain⟨b,c,f⟩:=key A H ok;obtain⟨d,hd,rd⟩:=f.getV (y.2 b c);exact⟨d,hd,.inl ⟨y.1,rd⟩⟩
 .obtain⟨b,c,f⟩:=key A H ok;exact⟨b,c,by rw[<- f.length];omega⟩
theorem Yn:YD K (sD z) (wH z) [] where
 vals:=rfl
 go:=λi H A a _=>by simpa [sD,wH,Str.length] using a
 yld:=λi H A x d a _ y=>by
  obtain⟨e,c,b,rfl⟩:=y;refine⟨.str ⟨#[c]⟩,?_,.inl ⟨e,.str _⟩⟩;unfold wH;rw[bG,eO,b];rfl
 stop:=λi H A a _=>by simp[sD,a,wH,Str.length]
theorem Kl {lo:Int}:YD K (qP lo n) (nH lo n) [] where
 vals:=rfl
 go:=λi H A a _=>by simpa [qP,nH] using a
 yld:=λi H A x c a _ y=>by
  have b:i<n:=by simpa [nH] using a
  refine⟨.int (lo+i),by simp[nH,b],.inl ⟨y.1,?_⟩⟩;rw[y.2];exact .int _
 stop:=λi H A a _=>by simp[qP,nH,a]
theorem nG (g:PD X e j):uI X o e (iV j):=(CI g).mono λM H R w=>w.elim λB L T G E hd F k=>⟨B,L,T,_,E,hd,F,λr f v n q d1 b=>by
 cases u:sd r with
 | none=>rw[u] at b;exact b.elim
 | some d =>
  rw[u] at b;have d2:=d1.thaw u;have s:=d2.valAt;cases d with
  | l m=>obtain⟨a,i,rfl,_,h,y⟩:=s.lst_inv;exact .inl ⟨a,rfl,⟨i,eT.of h⟩,k _ m f [_] n q d2 Vd b⟩
  | c m=>obtain⟨a,i,rfl,h,y⟩:=s.scr_inv;exact .inl ⟨a,rfl,⟨i,h.sqL⟩,k _ m f [_] n q d2 Td b⟩
  | t m=>obtain⟨a,i,rfl,h,y⟩:=s.tup_inv;exact .inr (.inl ⟨a,rfl,⟨i,lL.of h⟩,k _ m f [_] n q d2 (L0 (.inl rfl)) b⟩)
  | con m=>obtain⟨a,i,rfl,h,y⟩:=s.con_inv;exact .inr (.inl ⟨a,rfl,⟨i,h.sqT⟩,k _ m f [_] n q d2 (L0 (.inr rfl)) b⟩)
  | str z =>
   have:=s.str_inv;subst this;have b:=(show (match (if z.cps.all (·<128)=true then some (wH z) else none:Ab (Aa D)) with | some A=>G A f | none=>False) from b);by_cases x:z.cps.all (·<128)=true
   .rw[bA x] at b;exact .inr (.inr ⟨z,rfl,x,k _ _ f [] n q d2.drop Yn b⟩)
   .rw[bB x] at b;exact b.elim
  | _=>exact b.elim⟩
theorem yQ (j:Gl X "range") (l:X.mg "range" = none) (g:PD X a I) (C:starEach [a] X.env=[(false,eval a X.env)]:=by rfl) (o:uS a=true:=by rfl):uI X J (.Call (.Name "range" p) [a] [] pos) (Q0 I) :=
 (wF j l (lC g lO o) C).mono λs H R c=>c.elim λB n T q h hd i k=>⟨B,n,T,_,h,hd,i,λr e v f m d1 b=>by
  cases r<;>first | exact False.elim b | skip
  rename_i d
  cases d<;>first | exact False.elim b | skip
  have:=d1.valAt.int_inv;subst this;exact⟨_,rfl,b.1,b.2.1,k _ _ e [] f m d1.drop Kl b.2.2⟩⟩
theorem Bp (C:Gl X "range") (I:X.mg "range" = none) (l:PD X a ta) (o:PD X b tb) (U:starEach [a,b] X.env=[(false,eval a X.env),(false,eval b X.env)]:=by rfl) (j:starEach [b] X.env=[(false,eval b X.env)]:=by rfl) (J:uS a=true:=by rfl) (g:uS b=true:=by rfl):uI X tg (.Call (.Name "range" p) [a,b] [] pos) (Rq ta tb) :=
 (Xq C I (lC l (lC o lO g) J) U j).mono λG H R d=>d.elim λB A T F q hd s k=>⟨B,A,T,_,q,hd,s,λr e v D t d1 n=>⟨B,e,(r,some v)::T,_,t,d1,n,λE f u h w d2 c=>by
  split at c
  .obtain⟨x,y,z⟩:=d2.two rfl rfl;have i:=y.int_inv;have m:=z.int_inv;subst i m;exact⟨_,_,rfl,c.1,k _ _ f [] h w x Kl c.2⟩
  .exact c.elim⟩⟩
def Gf (l:sN) (g:rS) (j:nR):nR:=λf b k=>l f k λh c=>∃ Pv:Nat->Aa Sl->Prop,Pv 0 c /\
 (∀ i d a,h[i]?=some d->Pv i a->g d a λe=>j f { nx:=Pv (i+1),ct:=Pv (i+1),bk:=b.nx,rt:=b.rt } e)/\∀ a,Pv h.length a->b.nx a
theorem DS.rmE:∀ {E:lZ},DS K B (L++(E++T)) H->DS K B (L++T) H
 | [],h=>h
 | x::E,h=>DS.rmE (E:=E) (DS.drop (L1:=L) (x:=x) (by simpa using h))
theorem rB {iter:Expr}{body:Aa Stmt}{o:sN}{g:rS}{j:nR}(hi:uI X l iter o) (hg:tW X 99 l g) (I:sM X body j) (hp:PassesOwn (model X.prog X.w) X.A X.env X.xe:=by exact dX) (U:X.calm=true:=by rfl)
  (hs:∀ x,foldedSetIterable iter X.env x=pure x:=by intro _;rfl):rG X (.For l iter body [] pos) (Gf o g j) :=
 (Au hp U hi hg I hs).mono λDn W H O=>O.elim λB ρ T De hl hd ht Q=>⟨B,ρ,T,_,hl,hd,ht,λJ F S E H1 l1 d1 Y P=>by
  obtain⟨Pv,p0,step,fin⟩:=P;refine⟨λi m c k=>m=F.length-i/\i<=F.length/\∃ a,a.length=c.length/\c.length=W.length/\DS X.K B (a.zip c++(E++T)) k/\Pv i a,⟨_,rfl,cU _,S,l1,rfl,d1,p0⟩,?_⟩;rintro i m c k ⟨rfl,aa,a,V,m2,L,pv⟩;have n:uQ X.K (Al B (dT (a.zip c++(E++T)))) k E:=λq hq=>L.ok q (by simp[hq])
  by_cases s:i<F.length
  .refine .inr ⟨Y.go i k _ s n,λf t=>∃ b,b.length=f.length/\f.length=W.length/\DS X.K B (b.zip f++(E++T)) t/\Pv (i+1) b,λf t ⟨b,q1,q2,R,q4⟩=>⟨_,(by omega:F.length-(i+1)<_),rfl,s,b,q1,q2,R,q4⟩,λx t y=>?_⟩;obtain⟨d,M,alt⟩:=Y.yld i k _ x t s n y;have d2:DS X.K B (a.zip c++(.v d,some x)::(E++T)) t:=by
    rcases alt with⟨rfl,rx⟩ | ⟨p,es,vs,N,rfl,rfl,rfl,rr⟩
    .exact L.push rx
    .exact L.tup N rr
   refine⟨B,a,E++T,d,_,V,d2,step i d a M pv,λb f H3 n1 n2 _ Z R=>⟨B,b,E++T,_,n1,Z,R,?_,?_⟩⟩
   .intro e h G u a2 D;refine⟨λz=>⟨e,u,by omega,D,z⟩,λz=>?_,λz=>⟨e,u,by omega,D,z⟩⟩;exact (Q.1 e h G u (by omega) D.rmE).1 z
   .intro r v e h G u D z;refine Q.2 r v e h G u ?_ z;have:DS X.K B ((e.zip h++[(r,some v)])++(E++T)) G:=by simpa using D
    simpa using this.rmE
  .have C:i=F.length:=by omega
   subst C;exact .inl ⟨Y.stop _ k _ rfl n,(Q.1 a c k V m2 L.rmE).1 (fin a pv)⟩⟩
def J8 (c:oZ) (g:nR):nR:=λi h d=>∃ (Pv:Aa Sl->Prop) (f:Aa Sl->Nat),Pv d/\∀ d,Pv d->c i d λb e =>
 if b=true then g i { nx:=λa=>Pv a/\f a<f d,ct:=λa=>Pv a/\f a<f d,bk:=h.nx,rt:=h.rt } e else h.nx e
theorem wP {c:Expr}{body:Aa Stmt}{j:oZ}{g:nR}(p:PassesOwn (model X.prog X.w) X.A X.env X.xe) (o:qA X c j) (l:sM X body g):rG X (.While c body [] pos) (J8 j g) :=
 (Sv p o l).mono λI G H t=>t.elim λB Z T C N hd ⟨Pv,x,Q,step⟩ u=>by
  refine⟨λm f y=>∃ a,m=x a/\a.length=f.length/\f.length=G.length/\DS X.K B (a.zip f++T) y/\Pv a,⟨_,Z,rfl,N,rfl,hd,Q⟩,?_⟩;rintro m f y ⟨a,rfl,O,P,M,pv⟩;refine⟨B,a,T,_,O,M,step a pv,λb q L F d1 E=>?_⟩;cases b with
  | true =>
   refine (bA rfl).mpr ⟨λh D=>∃ d,d.length=h.length/\h.length=G.length/\DS X.K B (d.zip h++T) D/\Pv d/\x d<x a,λh D ⟨d,R,S,V,W,Y⟩=>⟨_,Y,d,rfl,R,S,V,W⟩,B,q,T,_,F,d1,(bA rfl).mp E,?_,?_⟩
   .intro e i s k J n;exact⟨λz=>⟨e,k,by omega,n,z⟩,λz=>(u.1 e i s k (by omega) n).1 z,λz=>⟨e,k,by omega,n,z⟩⟩
   .exact λr v e i s k n z=>u.2 r v e i s k n z
  | false=>exact wV ((u.1 q f L F P d1).1 ((bB (by decide)).mp E))
end
def lM (B:Bs) (D:Ad) (g:Aa V):Bs:=⟨B.dk,λa=>(B.A0 a\/B.H0 a=none)/\a≠D,λa=>if a=D then some (.l g) else B.H0 a⟩
section
variable {K:kG}{R:lZ}{D:Ad}
theorem yB {R:Aa Ad}:Al (lM B D g) R a↔Al B R a/\a≠D:=by
 unfold Al lM;constructor
 .rintro ⟨c,d,b | b⟩
  .exact⟨⟨c,d,b.1⟩,b.2⟩
  .dsimp only at b;by_cases z:a=D
   .rw[bA z] at b;cases b
   .rw[bB z] at b;exact⟨⟨c,d,.inr b⟩,z⟩
 .rintro ⟨⟨c,d,b⟩,e⟩;exact⟨c,d,.inl ⟨b,e⟩⟩
theorem DS.pin (h:DS K B L H) (g:H D=none):DS K (lM B D []) L (upd H D (.l [])):=by
 obtain⟨f1,f2,d⟩:=h.free g;refine⟨λb o e n=>?_,h.dk.upd f2,h.nd,λa c=>?_,λp f=>(h.ok p f).mono (.laid g λa z n=>yB.mpr ⟨z,n⟩) λb i o q=>by rw[kK (lE q g)];exact q⟩
 .by_cases z:b=D
  .subst z;simp only[lM,eF] at e;cases e;exact lB
  .simp only[lM,bB z] at e;rw[kK z];exact h.fr b o e n
 .have:=h.new a c;have z:a≠D:=λq=>d (q▸c)
  exact⟨by simp only[lM,bB z];exact this.1,this.2⟩
theorem DS.pinAt (h:DS K (lM B D j) L H) (g:D∉B.dk):H D=some (.l j):=h.fr D _ (by simp[lM]) g
theorem DS.pinW (h:DS K (lM B D j) L H) (g:D∉B.dk):DS K (lM B D ys') L (upd H D (.l ys')):=by
 have d:=h.pinAt g;have k:Kp (Al (lM B D j) (dT L)) (Al (lM B D ys') (dT L)) H (upd H D (.l ys')) :=
  (Kp.write (A:=Al (lM B D j) (dT L)) d rfl λz=>(yB.mp z).2 rfl).trans (.all λa z=>yB.mpr (yB.mp z))
 refine⟨λb o e n=>?_,h.dk.upd g,h.nd,λa f=>?_,λp c=>(h.ok p c).mono k λb i o q=>?_⟩
 .by_cases z:b=D
  .subst z;simp only[lM,eF] at e;cases e;exact lB
  .simp only[lM,bB z] at e;rw[kK z];exact h.fr b o (by simp only[lM,bB z];exact e) n
 .have:=h.new a f;have z:a≠D:=λq=>by subst q;simp[lM] at this
  simp only[lM,bB z] at this |-;exact this
 .have:=(h.new b (rN.mpr ⟨p,c,i⟩)).1;have z:b≠D:=λw=>by subst w;simp[lM] at this
  rw[kK z];exact q
theorem DS.unpin (h:DS K (lM B D g) L H) (r:Reps K (Al (lM B D g) (dT L)) H I g) (j:B.H0 D=none) (C:D∉B.dk):DS K B ((.o (.l I),some (.ref D))::L) H:=by
 have k:=h.pinAt C;have i:D∉dT L:=λz=>by have:=(h.new D z).1;simp[lM] at this
 have c:dT ((Sl.o (.l I),some (V.ref D))::L)=D::dT L:=rfl;have al:∀ a,Al (lM B D g) (dT L) a->Al B (D::dT L) a:=λa z=>by
  obtain⟨d,s⟩:=yB.mp z;exact⟨d.1,λq=>(aF.mp q).elim s d.2.1,d.2.2⟩
 refine⟨λb o e n=>?_,h.dk,by rw[c];exact bU.mpr ⟨i,h.nd⟩,λa f=>?_,λp m=>?_⟩
 .have z:b≠D:=λq=>by subst q;rw[j] at e;cases e
  exact h.fr b o (by simp only[lM,bB z];exact e) n
 .rw[c] at f;rcases aF.mp f with q | q
  .subst q;exact⟨j,C⟩
  .have:=h.new a q;have z:a≠D:=λw=>i (w▸q)
   simp only[lM,bB z] at this;exact this
 .rw[c];rcases aF.mp m with q | q
  .subst q;exact⟨D,rfl,g,k,r.mono (.all al)⟩
  .exact (h.ok p q).mono (.all al) λ_ _ _ w=>w
theorem DS.lend1 {g:Aa Sl}{j:St}(l:g.length=j.length) (h:DS K B (g.zip j++R) H) (i:Nat):DS K B ((g.set i .n).zip j++((g[i]?).getD .n,(j[i]?).join)::R) H:=by
 by_cases d:i<g.length
 .obtain⟨b,y,c,f,_,t,a⟩:=sW l (aI d);rw[t] at h;have k:DS K B (b++(g[i],y)::(c++R)) H:=by simpa using h
  have m:=k.front;have q:DS K B (((g[i],y)::b)++(.n,y)::(c++R)) H:=DS.pushN (L1:=(g[i],y)::b) (by simpa using m) y;have e:=a .n y;rw[wT f] at e;rw[e,aI d,f];have s:DS K B ((g[i],y)::((b++(Sl.n,y)::c)++R)) H:=by simpa using q
  exact s.mid
 .rw[fU (by omega),dQ (by omega),dQ (by omega)];exact h.pushN _
theorem DS.back1 {g:Aa Sl}{l:St}{s:Sl}{y:Ab V}(o:g.length=l.length) (h:DS K B (g.zip l++(s,y)::R) H){i:Nat}(j:(l[i]?).join=y):DS K B ((g.set i s).zip l++R) H:=by
 by_cases q:i<g.length
 .obtain⟨d,a,f,c,_,t,b⟩:=sW o (aI q);rw[c] at j;have j:a=y:=j;subst j;have e:=b s a;rw[wT c] at e;rw[e];rw[t] at h;have k:DS K B (d++(f++(s,a)::R)) H:=DS.drop (L1:=d) (x:=(g[i],a)) (by simpa using h);have m:DS K B ((d++f)++(s,a)::R) H:=by simpa using k
  have n:DS K B ((s,a)::(d++(f++R))) H:=by simpa using m.front
  simpa using n.mid
 .rw[fU (by omega)];exact h.drop
def nA (g:Aa Nat) (j:Aa Sl):Aa Sl:=g.map λi=>(j[i]?).getD .n
def oH (g:Aa Nat) (j:St):St:=g.map λi=>(j[i]?).join
def mX (g:Aa Nat) (j:Aa Sl):Aa Sl:=g.foldl (λj i=>j.set i .n) j
def nP:Aa Nat->Aa Sl->Aa Sl->Aa Sl
 | i::a,s::c,b=>nP a c (b.set i s)
 | _,_,b=>b
theorem En:∀ (g:Aa Nat) (j:Aa Sl),(mX g j).length=j.length
 | [],_=>rfl
 | i::g,j=>by show (mX g (j.set i .n)).length=_;rw[En g,bH]
theorem Mq:∀ (g:Aa Nat) (l:Aa Sl) (j:Aa Sl),(nP g l j).length=j.length
 | [],_,_=>rfl
 | _::_,[],_=>rfl
 | i::g,s::l,j=>(Mq g l (j.set i s)).trans (bH ..)
theorem DS.lend:∀ {caps:Aa Nat}{g:Aa Sl}{R:lZ},caps.Nodup->g.length=l.length->DS K B (g.zip l++R) H->DS K B ((mX caps g).zip l++((nA caps g).zip (oH caps l)++R)) H
 | [],g,R,_,a,h=>h
 | i::caps,g,R,d,a,h=>by
  obtain⟨f,k⟩:=bU.mp d;have b:=DS.lend (caps:=caps) (R:=((g[i]?).getD .n,(l[i]?).join)::R) k (by rw[bH];exact a) (h.lend1 a i);have e:nA caps (g.set i .n)=nA caps g:=List.map_congr_left λj c=>by rw[dY (λz:i=j=>f (by rw[z];exact c))]
  rw[e] at b;show DS K B ((mX caps (g.set i .n)).zip l++((((g[i]?).getD .n,(l[i]?).join)::(nA caps g).zip (oH caps l))++R)) H;refine b.perm (jD _ ?_);rw[cL];exact jH
theorem DS.back:∀ {caps:Aa Nat}{cs:Aa Sl}{g:Aa Sl}{R:lZ},cs.length=caps.length->g.length=j.length->DS K B (g.zip j++(cs.zip (oH caps j)++R)) H->DS K B ((nP caps cs g).zip j++R) H
 | [],[],g,R,_,a,h=>h
 | [],_::_,_,_,e,_,_=>by simp at e
 | _::_,[],_,_,e,_,_=>by simp at e
 | i::caps,s::cs,g,R,e,a,h=>by
  have b:DS K B (g.zip j++(s,(j[i]?).join)::(cs.zip (oH caps j)++R)) H:=h;exact DS.back (caps:=caps) (cs:=cs) (by simpa using e) (by rw[bH];exact a) (b.back1 a rfl)
theorem Yu (g:Aa Nat):∀ (o:Aa Sl) (l:Aa Sl),o.length=g.length->g.Nodup->nP g o (mX g l)=nP g o l:=by
 have ext:∀ (g:Aa Nat) (o:Aa Sl) (l a:Aa Sl),o.length=g.length->l.length=a.length->(∀ j,j∉g->l[j]?=a[j]?)->nP g o l=nP g o a:=by
  intro g;induction g with
  | nil=>intro o l a _ _ h;cases o<;>exact jX λj=>h j bE
  | cons i g c =>
   intro o l a e d h;cases o with
   | nil=>simp at e
   | cons s o =>
    show nP g o (l.set i s)=nP g o (a.set i s);refine c o _ _ (by simpa using e) (by simp[d]) λj b=>?_
    by_cases z:j=i
    .subst z;rw[List.getElem?_set,List.getElem?_set,d,bA rfl,bA rfl]
    .rw[dY (eC z),dY (eC z)];exact h j λq=>(aF.mp q).elim z b
 intro o l e _;refine ext g o _ _ e (En g l) λj b=>?_
 have:∀ (g:Aa Nat) (l:Aa Sl),j∉g->(mX g l)[j]?=l[j]?:=by
  intro g;induction g with
  | nil=>intro l _;rfl
  | cons i g c =>
   intro l b;show (mX g (l.set i .n))[j]?=_;rw[c _ (λz=>b (aN _ z)),dY (λz=>b (by simp[z]))]
 exact this g l b
theorem Lh:∀ {g:Aa L2.D}{j:Aa V},g.length=j.length->(∀ p∈nB g j,qW K A H p.1 p.2)->Reps K A H g j
 | [],[],_,_=>.nil
 | [],_::_,e,_=>by simp at e
 | _::_,[],e,_=>by simp at e
 | c::g,y::j,e,key=>by
  obtain⟨u,b,r⟩:=key (.v c,some y) (by simp[nB]);cases b;exact .cons r (Lh (by simpa using e) λp a=>key p (by simp only[nB,fG,aW,aF] at a |-;exact .inr a))
theorem DS.forget {ρ:Aa Sl}(n:Nat) (g:ρ.length=σ.length) (j:n<=ρ.length) (h:DS K B (ρ.zip σ++R) H):DS K B ((List.replicate n Sl.n++ρ.drop n).zip σ++R) H:=by
 induction n generalizing ρ σ R with
 | zero=>simpa using h
 | succ n c =>
  cases ρ with
  | nil=>simp at j
  | cons r ρ =>
   cases σ with
   | nil=>simp at g
   | cons y σ =>
    have a:DS K B (ρ.zip σ++R) H:=DS.drop (L1:=[]) (x:=(r,y)) h;have b:=c (ρ:=ρ) (σ:=σ) (R:=R) (by simpa using g) (by simpa using j) a;rw[bV,cL,List.drop_succ_cons,fG];exact DS.pushN (L1:=[]) b y
end
def Pa:oZ:=λ_ b a=>a true b
def zU (n:Nat) (j:Aa Nat) (I:sN) (g:rS) (C:oZ) (p:lK):lK:=λk u t=>I k u λs f=>∃ Pv:Nat->Aa D->Aa Sl->Prop,Pv 0 [] (nA j f) /\
 (∀ i d e a,s[i]?=some d->a.length=j.length->Pv i e a->g d (List.replicate n Sl.n++a) λm=>C k m λb h=>if b=true then p k h λr q=>match sd r with
  | some c=>e.length<100000/\Pv (i+1) (e++[c]) (q.drop n)
  | none=>False
  else Pv (i+1) e (h.drop n)) /\
 ∀ e a,a.length=j.length->Pv s.length e a->t (.o (.l e)) (nP j a f)
section
variable {X:Cx}
theorem L4:tF X [] (rT X.K Pa):=λa s f H Q I b=>b.elim λB e T h c hd d k=>Bz a s f H Q I (k true e H c hd d)
theorem Ng (h:qA X c t):tF X [c] (rT X.K t):=I3 h
theorem Yj {T:Aa Af}{C:Aa Nat}{g:rS}{tt:oZ}{te:lK}{K:kG}(ac:C.Nodup){σ:St}{H1:Hp}{Q:VK}{B:Bs}{I:Aa Sl}{Tm:lZ}{Φ:Sl->Aa Sl->Prop}{J:It}{ds:Aa L2.D}{D:Ad}(l1:I.length=σ.length) (d1:DS K B (I.zip σ++Tm) H1)
  (hJ:∀ i U La M H,(∀ q∈Tm,q∈M)->DS K (lM B D U) (La++M) H->(i<ds.length->J.go i H)/\(i=ds.length->J.stop i H)/\∀ x H2,i<ds.length->J.yld i H x H2->∃ d,ds[i]?=some d/\DS K (lM B D U) (La++(.v d,some x)::M) H2)
  (ag:∃ Pv:Nat->Aa L2.D->Aa Sl->Prop,Pv 0 [] (nA C I) /\ (∀ i d U cs,ds[i]?=some d->cs.length=C.length->Pv i U cs->g d (List.replicate T.length Sl.n++cs) λaf=>tt B.dk af λb ab=>if b=true then te B.dk ab λr aa=>match sd r with
    | some c=>U.length<100000/\Pv (i+1) (U++[c]) (aa.drop T.length)
    | none=>False
    else Pv (i+1) U (ab.drop T.length)) /\
   ∀ U cs,cs.length=C.length->Pv ds.length U cs->Φ (.o (.l U)) (nP C cs I))
  (k:∀ r ae v H',ae.length=σ.length->DS K B (ae.zip σ++(r,some v)::Tm) H'->Φ r ae->Q v H') (hD:H1 D=none):yY T C J (dG K T.length g) (rT K tt) (dE K te) σ H1 Q D:=by
 obtain⟨Pv,p0,step,fin⟩:=ag;obtain⟨f1,f2,f3⟩:=d1.free hD;refine⟨λi m U s H'=>m=ds.length-i/\i<=ds.length/\s.length=T.length+C.length/\(∀ j,T.length<=j->s[j]?=(oU T C σ)[j]?)/\∃ (h:Aa L2.D) (cs:Aa Sl),cs.length=C.length/\h.length=U.length /\ DS K (lM B D U) ((List.replicate T.length Sl.n++cs).zip s++((mX C I).zip σ++(nB h U++Tm))) H'/\Pv i h cs,?_,?_⟩
 .refine⟨_,rfl,cU _,by simp[oU],λ_ _=>rfl,[],nA C I,by simp[nA],rfl,?_,p0⟩;have h2:=(d1.lend ac l1).pin hD;have e:(List.replicate T.length Sl.n++nA C I).zip (oU T C σ)=List.replicate T.length (Sl.n,none)++(nA C I).zip (oH C σ):=by
   have:∀ n,(List.replicate n Sl.n++nA C I).zip (List.replicate n none++oH C σ)=List.replicate n (Sl.n,none)++(nA C I).zip (oH C σ):=by
    intro n;induction n with
    | zero=>rfl
    | succ n ih=>simp only[bV,cL,fG,ih]
   have W:oU T C σ=List.replicate T.length none++oH C σ:=by unfold oU oH;rw[List.map_const']
   rw[W];exact this _
  rw[e];have h3:DS K (lM B D []) ((nA C I).zip (oH C σ)++((mX C I).zip σ++Tm)) (upd H1 D (.l [])):=h2.perm (by
   rw[<- bD,<- bD (as:=(nA C I).zip (oH C σ))];exact List.perm_append_comm.append_right _)
  have:∀ n,DS K (lM B D []) (List.replicate n (Sl.n,none)++((nA C I).zip (oH C σ)++((mX C I).zip σ++Tm))) (upd H1 D (.l [])):=by
   intro n;induction n with
   | zero=>exact h3
   | succ n ih=>rw[bV];exact DS.pushN (L1:=[]) ih none
  have e3:nB ([]:Aa L2.D) ([]:Aa V)=[]:=rfl;rw[e3]
  simpa using this T.length
 .rintro i m U s H' ⟨rfl,hi,ls,fs,h,cs,G,z,N,pv⟩;obtain⟨j1,j2,j3⟩:=hJ i U _ _ H' (λq hq=>by simp[hq]) N;by_cases w:i<ds.length
  .refine .inr ⟨j1 w,λf v R=>f.length=T.length+C.length/\(∀ j,T.length<=j->f[j]?=(oU T C σ)[j]?)/\U.length<100000/\∃ (c:L2.D) (aa:Aa Sl),aa.length=f.length/\DS K (lM B D U) (aa.zip f++(.v c,some v)::((mX C I).zip σ++(nB h U++Tm))) R/\Pv (i+1) (h++[c]) (aa.drop T.length),λf P=>f.length=T.length+C.length/\(∀ j,T.length<=j->f[j]?=(oU T C σ)[j]?)/\∃ aa:Aa Sl,aa.length=f.length/\DS K (lM B D U) (aa.zip f++((mX C I).zip σ++(nB h U++Tm))) P/\Pv (i+1) h (aa.drop T.length),?_,?_,λx H2 y=>?_⟩
   .rintro f v R ⟨q1,q2,q3,c,aa,A,t,q6⟩;refine⟨t.pinAt f2,aT q3 (by decide),ds.length-(i+1),by omega,rfl,w,q1,q2,h++[c],aa.drop T.length,by rw[eR];omega,by simp[z],?_,q6⟩;have w1:=(t.pinW (ys':=U++[v]) f2).forget T.length A (by omega);refine w1.perm (jD _ ?_);have ev:nB (h++[c]) (U++[v])=nB h U++[(.v c,some v)]:=by unfold nB;rw[List.zip_append z,List.map_append];rfl
    rw[ev];have p1:((Sl.v c,some v)::((mX C I).zip σ++(nB h U++Tm))).Perm ((mX C I).zip σ++(nB h U++((Sl.v c,some v)::Tm))):=by
     rw[<- bD,<- bD (as:=(mX C I).zip σ)];exact jH.symm
    simpa using p1
   .rintro f P ⟨q1,q2,aa,A,t,q6⟩;exact⟨ds.length-(i+1),by omega,rfl,w,q1,q2,h,aa.drop T.length,by rw[eR];omega,z,t.forget T.length A (by omega),q6⟩
   .obtain⟨d,Z,d2⟩:=j3 x H2 w y;refine⟨lM B D U,_,_,d,_,by simp[G,ls],d2,step i d h cs Z G pv,λaf f H3 n1 n2 fr d3 q3=>⟨lM B D U,af,_,_,n1,d3,q3,λb ab P m1 d4 A=>?_⟩⟩;have F:∀ j,T.length<=j->f[j]?=(oU T C σ)[j]?:=λj O=>(fr j O).trans (fs j O)
    cases b with
    | false=>exact wV ⟨by omega,F,ab,m1,d4,(bB (by decide)).mp A⟩
    | true =>
     refine (bA rfl).mpr ⟨lM B D U,ab,_,_,m1,d4,(bA rfl).mp A,λr aa v R m4 d5 t=>?_⟩;cases S:sd r with
     | none=>rw[S] at t;exact t.elim
     | some c =>
      rw[S] at t;exact⟨by omega,F,by rw[<- z];exact t.1,c,aa,m4,d5.thaw S,t.2⟩
  .have ei:i=ds.length:=by omega
   subst ei;refine .inl ⟨j2 rfl,?_⟩;have es:s=s.take T.length++oH C σ:=by
    apply jX;intro j;by_cases O:j<T.length
    .rw[cK (by rw[bQ];omega),dR O]
    .rw[bN (by rw[bQ];omega),bQ,fs j (by omega)];have W:oU T C σ=List.replicate T.length none++oH C σ:=by unfold oU oH;rw[List.map_const']
     rw[W,bN (by rw[eN];omega),eN]
     congr 1
     omega
   have ez:(List.replicate T.length Sl.n++cs).zip s=(List.replicate T.length Sl.n).zip (s.take T.length)++cs.zip (oH C σ):=by
    conv=>lhs;rw[es]
    exact kC (by rw[eN,bQ];omega)
   have rr:Reps K (Al (lM B D U) (dT ((nP C cs (mX C I)).zip σ++Tm))) H' h U/\DS K (lM B D U) ((nP C cs (mX C I)).zip σ++Tm) H':=by
    have g1:DS K (lM B D U) (cs.zip (oH C σ)++((mX C I).zip σ++(nB h U++Tm))) H':=by
     rw[ez,bD] at N;exact DS.rmE (L:=[]) (E:=(List.replicate T.length Sl.n).zip (s.take T.length)) N
    have g2:DS K (lM B D U) ((mX C I).zip σ++(cs.zip (oH C σ)++(nB h U++Tm))) H':=g1.perm (by
     rw[<- bD,<- bD (as:=(mX C I).zip σ)];exact List.perm_append_comm.append_right _)
    have g3:=g2.back G (by rw[En];exact l1);have Y:DS K (lM B D U) ((nP C cs (mX C I)).zip σ++(nB h U++Tm)) H':=g3;refine⟨?_,Y.rmE⟩;have er:dT ((nP C cs (mX C I)).zip σ++(nB h U++Tm))=dT ((nP C cs (mX C I)).zip σ++Tm):=by
     have:dT (nB h U)=[]:=by
      refine fZ.mpr λa ha=>?_
      obtain⟨q,hq,e⟩:=rN.mp ha;obtain⟨p,_,rfl⟩:=aJ.mp hq;cases e
     rw[oK,oK,oK,this,jN]
    have key:∀ p∈nB h U,qW K (Al (lM B D U) (dT ((nP C cs (mX C I)).zip σ++Tm))) H' p.1 p.2:=λp hp=>by
     have:=Y.ok p (by simp[hp]);rw[er] at this;exact this
    clear g1 g2 g3 Y er N ez es;revert key z;generalize Al (lM B D U) (dT ((nP C cs (mX C I)).zip σ++Tm))=AA;intro z key;exact Lh z key
   have u:=DS.unpin rr.2 rr.1 f1 f2;rw[Yu C cs I G ac] at u;exact k _ _ _ H' (by rw[Mq];exact l1) u.mid (fin h cs G pv)
theorem Ky {K:kG}(o:j.Nodup) (h:dE K (zU T.length j ι g U I) C H Q) :
  Bx T j (dI K ι) (dG K T.length g) (rT K U) (dE K I) C H Q:=by
 obtain⟨B,R,Tm,Φ,A,hd,G,k⟩:=h;refine⟨B,R,Tm,_,A,hd,G,λJ W S E V L d1 Y z D u=>Yj o (Tm:=E++Tm) L d1 (λi P s M H w d=>?_) z (λr c v m l d h=>k r c v m l (by
  have:DS K B ((c.zip C++[(r,some v)])++(E++Tm)) m:=by simpa using d
  simpa using this.rmE) h) u⟩
 have a:uQ K (Al (lM B D P) (dT (s++M))) H E:=λq F=>d.ok q (by simp[w q (by simp[F])])
 refine⟨λb=>Y.go i H _ b a,λb=>Y.stop i H _ b a,λx n b y=>?_⟩;obtain⟨t,e,alt⟩:=Y.yld i H _ x n b a y;refine⟨t,e,?_⟩;rcases alt with⟨rfl,O⟩ | ⟨p,Z,vs,f,rfl,rfl,rfl,N⟩
 .exact d.push O
 .exact d.tup f N
theorem nW {iter:Expr}(T o:Aa Af) (r:Aa Nat) (hi:uI X tg iter ι)
  (hg:∀ p l C I J,tW (rH X (T++o) j I C p l J) T.length tg g)
  (he:∀ p l C I J,PD (rH X (T++o) j I C p l J) aa te)
  (ht:∀ p l C I J,tF (rH X (T++o) j I C p l J) ab (rT X.K tt):=by exact λ_ _ _ _ _=>L4) (hc:X.calm=true:=by rfl) (hk:j.kind = .function:=by rfl) (ho:Be X.N X.env.kindOf j T o r=true:=by rfl) (U:r.Nodup:=by decide) (hs:∀ x,foldedSetIterable iter X.env x=pure x:=by intro _;rfl):PD X (.ListComp aa [⟨tg,iter,ab,0⟩] j pos) (zU T.length r ι g tt te) :=
 (Ai T o r hc hi hk ho hg ht he hs).mono λ_ _ _ h=>Ky U h
theorem Fi (i:Nat){iter:Expr}(T o:Aa Af) (I:Aa Nat) (hN:X.N.Nodup) (hi:uI X tg iter ι) (hg:∀ p l C J fp,tW (rH X (T++o) j J C p l fp) T.length tg g)
  (he:∀ p l C J fp,PD (rH X (T++o) j J C p l fp) U te)
  (ht:∀ p l C J fp,tF (rH X (T++o) j J C p l fp) ab (rT X.K tt):=by exact λ_ _ _ _ _=>L4) (hc:X.calm=true:=by rfl) (hk:j.kind = .function:=by rfl) (ho:Be X.N X.env.kindOf j T o I=true:=by rfl) (af:X.N[i]?=some x:=by rfl) (hx:sL X.env.scope x:=by first | exact Or.inl rfl | exact Or.inr rfl) (aa:I.Nodup:=by decide)
  (ag:swapsWith (.ListComp U [⟨tg,iter,ab,0⟩] j pos) (some (.Name x ac)) ae.line X.env=pure true:=by rfl)
  (hs:∀ x,foldedSetIterable iter X.env x=pure x:=by intro _;rfl)
  (hf:X.fn x=true\/X.env.scope.names.lookup x=some .local:=by first | exact .inl rfl | exact .inr rfl | assumption) :
  rG X (.Assign [.Name x ac] (.ListComp U [⟨tg,iter,ab,0⟩] j pos) ae) (rK i (zU T.length I ι g tt te)) :=
 (DR T o I hN af hx hc hi hk ho hg ht he ag hs hf).mono λn q H a=>a.elim λB h Tm m e hd ht f=>Ky aa ⟨B,h,Tm,_,e,hd,ht,λr k v c b d1 d=>(f.1 _ _ c (by rw[bH,bH];exact b) (bH ..) (d1.assign b i)).1 d⟩
end
section
variable {X:Cx}{K:kG}
theorem rM (h:Peeks K A H [d] g):∃ x,g=[x]/\lP K A H d x:=by
 cases h with | cons h r=>cases r;exact⟨_,rfl,h⟩
theorem zN (h:Peeks K A H [d,e] j):∃ x y,j=[x,y]/\lP K A H d x/\lP K A H e y:=by
 cases h with | cons h r=>cases r with | cons g r=>cases r;exact⟨_,_,rfl,h,g⟩
def EH:D->Ab Nat
 | .l a=>some a.length
 | .t a=>some a.length
 | .con a=>some a.length
 | .c a=>some a.length
 | .str z=>some z.length
 | .k b=>some b.length
 | _=>none
def Qq:OC:=λa b=>match a with
 | [d]=>Gk d=true/\∃ n,EH d=some n/\b (.v (.int n))
 | _=>False
def P1 (K:kG):Aa V->Hp->VK->Prop:=λc H Q=>(∃ p d,c=[.ref p]/\(eT K H p d\/lL K H p d)/\Q (.int d.length) H)\/(∃ z,c=[.str z]/\z.length<=sizeLine/\Q (.int z.length) H)\/∃ a b,c=[V.ref a]/\H a=some (.k b)/\Q (.int b.length) H
theorem rC:lX X (.builtin "len") (P1 X.K):=wM.or (Ol.or Rf)
theorem rD:pU K (P1 K) Qq:=by
 intro B L H m t u Q hd q i k;cases m with
 | nil=>exact False.elim i
 | cons d m =>
 cases m with
 | cons _ _=>exact False.elim i
 | nil =>
 obtain⟨x,rfl,f⟩:=rM q;obtain⟨s,n,c,i⟩:=i;have fin:Q (.int n) H:=k _ _ H i (hd.pushF (.int _));cases d<;>first | (cases c;done) | skip
 .cases c;have:=f.str_inv;subst this;exact .inr (.inl ⟨_,rfl,vP (eG s),fin⟩)
 .cases c;obtain⟨a,b,rfl,h,r⟩:=f.tup_inv;exact .inl ⟨a,b,rfl,.inr (lL.of h),by rw[<- r.length];exact fin⟩
 .cases c;obtain⟨a,b,rfl,h,r⟩:=f.lst_inv;exact .inl ⟨a,b,rfl,.inl (eT.of h),by rw[<- r.length];exact fin⟩
 .cases c;obtain⟨a,b,rfl,h,e,r⟩:=f.dK_inv;refine .inr (.inr ⟨a,b,rfl,h,?_⟩);have:=dF List.length e;rw[aB,aB] at this;rw[<- this];exact fin
 .cases c;obtain⟨a,b,rfl,h,r⟩:=f.scr_inv;exact .inl ⟨a,b,rfl,.inl h.sqL,by rw[<- r.length];exact fin⟩
 .cases c;obtain⟨a,b,rfl,h,r⟩:=f.con_inv;exact .inl ⟨a,b,rfl,.inr h.sqT,by rw[<- r.length];exact fin⟩
noncomputable def qE:Aa D->Ab (Aa Int)
 | []=>some []
 | .int i::a=>(qE a).map (i::·)
 | _=>none
theorem xH:∀ (g:Aa Int),qE (g.map D.int)=some g
 | []=>rfl
 | n::g=>by
  show (qE (g.map D.int)).map (n::·)=_;rw[xH g];rfl
theorem yD (h:qE j=some l) (g:Reps K A H j o):o=l.map V.int:=by
 induction j generalizing l o with
 | nil=>cases g;cases h;rfl
 | cons d j b =>
  cases g with
  | cons r g =>
  cases d with
  | int i =>
   obtain⟨c,a,rfl⟩:=cB.mp h;rw[r.int_inv,b a g];rfl
  | _=>cases h
def ER:OC:=λb d=>match b with
 | [.l c]=>∃ a,qE c=some a/\d (.v (.int a.sum))
 | _=>False
def Eb:OC:=λd c=>match d with
 | [.l e]=>∃ b,qE e=some b/\b≠[]/\∀ m:Int,m∈b->(∀ a∈b,m<=a)->c (.v (.int m))
 | [.int i,.int j]=>∀ m:Int,(m=i\/m=j)->m<=i->m<=j->c (.v (.int m))
 | _=>False
def Q9:OC:=λd c=>match d with
 | [.l e]=>∃ b,qE e=some b/\b≠[]/\∀ m:Int,m∈b->(∀ a∈b,a<=m)->c (.v (.int m))
 | [.int i,.int j]=>∀ m:Int,(m=i\/m=j)->i<=m->j<=m->c (.v (.int m))
 | _=>False
def Eu (K:kG):Aa V->Hp->VK->Prop:=λc H Q=>(∃ (p:Ad) (b:Aa Int),c=[.ref p]/\eT K H p (b.map V.int)/\b≠[]/\∀ m:Int,m∈b->(∀ a∈b,m<=a)->Q (.int m) H)\/∃ i j,c=[.int i,.int j]/\Q (.int (if j<i then j else i)) H
def Jx (K:kG):Aa V->Hp->VK->Prop:=λc H Q=>(∃ (p:Ad) (b:Aa Int),c=[.ref p]/\eT K H p (b.map V.int)/\b≠[]/\∀ m:Int,m∈b->(∀ a∈b,a<=m)->Q (.int m) H)\/∃ i j,c=[.int i,.int j]/\Q (.int (if j>i then j else i)) H
theorem Y6 (g:X.calm=true):lX X (.builtin "min") (Eu X.K):=(Yx g).or (V2 g)
theorem Du (g:X.calm=true):lX X (.builtin "max") (Jx X.K):=(Us g).or (Z6 g)
theorem Vr:pU K (Eu K) Eb:=by
 intro B L H c A D Q hd n b k;cases c with
 | nil=>exact False.elim b
 | cons d c =>
 cases d<;>first | exact False.elim b | skip
 .cases c with
  | nil=>exact False.elim b
  | cons e c =>
  cases e<;>first | exact False.elim b | skip
  cases c with
  | cons _ _=>exact False.elim b
  | nil =>
  obtain⟨x,y,rfl,f,py⟩:=zN n;have:=f.int_inv;have:=py.int_inv;subst_vars
  rename_i i j
  refine .inr ⟨_,_,rfl,?_⟩;by_cases z:j<i
  .rw[bA z];exact k _ _ H (b _ (.inr rfl) (by omega) (by omega)) (hd.pushF (.int _))
  .rw[bB z];exact k _ _ H (b _ (.inl rfl) (by omega) (by omega)) (hd.pushF (.int _))
 .cases c with
  | cons _ _=>exact False.elim b
  | nil =>
  obtain⟨x,rfl,f⟩:=rM n;obtain⟨v,u,q,b⟩:=b;obtain⟨a,w,rfl,h,r⟩:=f.lst_inv;rw[yD u r] at h;exact .inl ⟨a,v,rfl,eT.of h,q,λm s t=>k _ _ H (b m s t) (hd.pushF (.int _))⟩
theorem Cb:pU K (Jx K) Q9:=by
 intro B L H c A D Q hd n b k;cases c with
 | nil=>exact False.elim b
 | cons d c =>
 cases d<;>first | exact False.elim b | skip
 .cases c with
  | nil=>exact False.elim b
  | cons e c =>
  cases e<;>first | exact False.elim b | skip
  cases c with
  | cons _ _=>exact False.elim b
  | nil =>
  obtain⟨x,y,rfl,f,py⟩:=zN n;have:=f.int_inv;have:=py.int_inv;subst_vars
  rename_i i j
  refine .inr ⟨_,_,rfl,?_⟩;by_cases z:j>i
  .rw[bA z];exact k _ _ H (b _ (.inr rfl) (by omega) (by omega)) (hd.pushF (.int _))
  .rw[bB z];exact k _ _ H (b _ (.inl rfl) (by omega) (by omega)) (hd.pushF (.int _))
 .cases c with
  | cons _ _=>exact False.elim b
  | nil =>
  obtain⟨x,rfl,f⟩:=rM n;obtain⟨v,u,q,b⟩:=b;obtain⟨a,w,rfl,h,r⟩:=f.lst_inv;rw[yD u r] at h;exact .inl ⟨a,v,rfl,eT.of h,q,λm s t=>k _ _ H (b m s t) (hd.pushF (.int _))⟩
def Wy:OC:=λc b=>match c with
 | [.l a]=>b (.v (.t a))
 | [.t a]=>b (.v (.t a))
 | _=>False
theorem wZ:pU K (λj H Q=>∃ p g,j=[.ref p]/\((eT K H p g/\∀ l,H l=none->Q (.ref l) (upd H l (.t g)))\/(lL K H p g/\Q (.ref p) H))) Wy:=by
 intro B L H e j q Q hd m b k;cases e with
 | nil=>exact False.elim b
 | cons d e =>
 cases d<;>first | exact False.elim b | skip<;>cases e<;>first | exact False.elim b | skip
 .obtain⟨x,rfl,c⟩:=rM m;have f:=c;obtain⟨a,i,rfl,h,r⟩:=c.tup_inv;exact⟨a,i,rfl,.inr ⟨lL.of h,k _ _ _ b (hd.pushF f)⟩⟩
 .obtain⟨x,rfl,c⟩:=rM m;obtain⟨a,i,rfl,h,r⟩:=c.lst_inv;exact⟨a,i,rfl,.inl ⟨eT.of h,λl n=>k _ _ _ b (hd.tupF n r)⟩⟩
def tP:Aa D->Ab (Aa (hH×D))
 | []=>some []
 | .t [k,d]::a=>match pN k,tP a with
  | some k,some r=>some ((k,d)::r)
  | _,_=>none
 | _=>none
theorem Go {l:Type}{f:l->D}{g:l->hH×D}(h:∀ x,∃ k,f x = .t [k,(g x).2]/\pN k=some (g x).1):∀ j:Aa l,tP (j.map f)=some (j.map g)
 | []=>rfl
 | x::j=>by
  obtain⟨k,a,b⟩:=h x;rw[aW,a];show (match pN k,tP (j.map f) with | some k,some r=>some ((k,(g x).2)::r) | _,_=>none)=_;rw[b,Go h j];rfl
def tQ (g more:Aa (hH×D)):Aa (hH×D):=more.foldl (λa b=>qQ a b.1 b.2) g
theorem EI (h:tP l=some j) (o:Reps K A H l C):∃ (p:Aa Ad) (g:Aa (hH×V)),C=p.map V.ref/\Aj H p g/\j.map (·.1)=g.map (·.1)/\Reps K A H (j.map (·.2)) (g.map (·.2)):=by
 induction l generalizing j C with
 | nil=>cases o;cases h;exact⟨[],[],rfl,.nil,rfl,.nil⟩
 | cons d l t =>
  cases o with
  | cons r o =>
  cases d<;>first | (cases h;done) | skip
  rename_i x
  rcases x with _ | ⟨k,_ | ⟨e,_ | ⟨_,_⟩⟩⟩<;>first | (cases h;done) | skip
  .have h:=(show (match pN k,tP l with | some k,some r=>some ((k,e)::r) | _,_=>none)=some j from h);cases c:pN k with
   | none=>rw[c] at h;cases h
   | some u =>
    cases f:tP l with
    | none=>rw[c,f] at h;cases h
    | some y =>
     rw[c,f] at h;cases h;obtain⟨a,z,rfl,s,b⟩:=r.tup_inv;obtain⟨p,g,i,m,n,q⟩:=t f o;cases b with
     | cons v b =>
      cases b with
      | cons w b =>
       cases b;have:=yU c v.peek;subst this;exact⟨a::p,(u,_)::g,by rw[i];rfl,.cons s m,by rw[aW,aW,n],.cons w q⟩
theorem Ib:∀ {more:Aa (hH×D)}{mv:Aa (hH×V)}{kvs:Aa (hH×D)}{vs:Aa (hH×V)},more.map (·.1)=mv.map (·.1)->Reps K A H (more.map (·.2)) (mv.map (·.2))->kvs.map (·.1)=vs.map (·.1)->Reps K A H (kvs.map (·.2)) (vs.map (·.2)) ->
  (tQ kvs more).map (·.1)=(pM vs mv).map (·.1)/\Reps K A H ((tQ kvs more).map (·.2)) ((pM vs mv).map (·.2))
 | [],[],_,_,_,_,e,r=>⟨e,r⟩
 | [],_::_,_,_,e,_,_,_=>by simp at e
 | _::_,[],_,_,e,_,_,_=>by simp at e
 | (k,d)::more,(j,v)::mv,kvs,vs,a,b,e,r=>by
  simp only[aW,gL] at a;obtain⟨rfl,a⟩:=a;cases b with
  | cons h b =>
   obtain⟨c,f⟩:=Il e r (k:=k) h;exact Ib (more:=more) (mv:=mv) a b c f
def V0:OC:=λc b=>match c with
 | [.k a]=>b (.o (.k a))
 | [.l d]=>∃ a,tP d=some a/\a.length<=1000/\b (.o (.k (tQ [] a)))
 | _=>False
def N8 (K:kG):Aa V->Hp->VK->Prop:=λe H Q=>(∃ (a:Ad) (b:Aa (hH×V)),e=[.ref a]/\H a=some (.k b)/\∀ p,H p=none->Q (.ref p) (upd H p (.k b))) \/
 ∃ (p:Ad) (c:Aa Ad) (b:Aa (hH×V)),e=[.ref p]/\eT K H p (c.map V.ref)/\Aj H c b/\b.length<=1000/\∀ d,H d=none->Q (.ref d) (upd H d (.k (pM [] b)))
theorem Fc (g:X.calm=true):lX X (.type "dict") (N8 X.K):=T6.or (Yi g)
theorem Et:pU K (N8 K) V0:=by
 intro B L H i E F Q hd c b k;cases i with
 | nil=>exact False.elim b
 | cons d i =>
 cases d<;>first | exact False.elim b | skip<;>cases i<;>first | exact False.elim b | skip
 .obtain⟨x,rfl,n⟩:=rM c;obtain⟨w,v,D,b⟩:=b;obtain⟨a,s,rfl,h,r⟩:=n.lst_inv;obtain⟨A,f,rfl,t,q,u⟩:=EI v r;obtain⟨y,z⟩:=Ib (kvs:=[]) (vs:=[]) q u rfl .nil;have m:f.length<=1000:=by
   have:=dF List.length q;simp only[aB] at this;omega
  exact .inr ⟨a,A,f,rfl,eT.of h,t,m,λp c=>k _ _ _ b (hd.dKF c y z)⟩
 .obtain⟨x,rfl,n⟩:=rM c;obtain⟨a,s,rfl,h,e,r⟩:=n.dK_inv;exact .inl ⟨a,s,rfl,h,λp c=>k _ _ _ b (hd.dKF c e r)⟩
def Fz:OC:=λc a=>match c with
 | [.int i]=>a (.v (.int i))
 | [.b b]=>a (.v (.int (if b then 1 else 0)))
 | _=>False
theorem W3:pU K (λg H Q=>(∃ i,g=[.int i]/\Q (.int i) H)\/∃ k,g=[.b k]/\Q (.int (if k then 1 else 0)) H) Fz:=by
 intro B L H c g h Q hd f a k;cases c with
 | nil=>exact False.elim a
 | cons d c =>
 cases d<;>first | exact False.elim a | skip<;>cases c<;>first | exact False.elim a | skip
 .obtain⟨x,rfl,e⟩:=rM f;have:=e.bl_inv;subst this;exact .inr ⟨_,rfl,k _ _ H a (hd.pushF (.int _))⟩
 .obtain⟨x,rfl,e⟩:=rM f;have:=e.int_inv;subst this;exact .inl ⟨_,rfl,k _ _ H a (hd.pushF (.int _))⟩
noncomputable def uD:Aa D->Ab (Aa Bool)
 | []=>some []
 | .b b::a=>(uD a).map (b::·)
 | _=>none
theorem Ju:∀ (g:Aa Bool),uD (g.map D.b)=some g
 | []=>rfl
 | n::g=>by rw[aW,uD,Ju g];rfl
theorem Wn (h:uD g=some j) (r:Reps K A H g l):l=j.map V.b:=by
 induction g generalizing j l with
 | nil=>cases r;simp only[uD,iR] at h;subst h;rfl
 | cons d g c =>
  cases r with
  | cons r e =>
  cases d with
  | b i =>
   simp only[uD,cB] at h;obtain⟨f,a,rfl⟩:=h;rw[r.bl_inv,c a e];rfl
  | _=>simp[uD] at h
def Ub:OC:=λa d=>match a with
 | [.l c]=>∃ bs,uD c=some bs/\d (.v (.b (bs.all id)))
 | _=>False
theorem EF:pU K (Is K) Ub:=by
 intro B L H e s t Q hd i c k;cases e with
 | nil=>exact False.elim c
 | cons d e =>
  cases e with
  | cons _ _=>cases d<;>exact False.elim c
  | nil =>
   cases d<;>first | exact False.elim c | skip
   obtain⟨x,rfl,n⟩:=rM i;obtain⟨m,f,c⟩:=c;obtain⟨a,q,rfl,h,r⟩:=n.lst_inv;rw[Wn f r] at h;exact⟨a,m,rfl,eT.of h,k _ _ H c (hd.pushF (.b _))⟩
end
def E1 (T:String):D->Bool
 | .str _=>T == "str"
 | .l _=>T == "list"
 | .c _=>T == "list"
 | .k _=>T == "dict"
 | _=>false
section
variable {X:Cx}{K:kG}
theorem Q1 (h:E1 T d=true) (p:lP K A H d x):A8 K T x H:=by
 cases d<;>first | (cases h;done) | skip
 all_goals (have h:=eq_of_beq h;subst h)
 .have:=p.str_inv;subst this;rfl
 .obtain⟨a,b,rfl,h,r⟩:=p.lst_inv;exact .inl ⟨rfl,b,eT.of h⟩
 .obtain⟨a,b,rfl,h,e,r⟩:=p.dK_inv;exact .inr (.inr (.inl ⟨rfl,.inl ⟨b,h⟩⟩))
 .obtain⟨a,b,rfl,h,r⟩:=p.scr_inv;exact .inl ⟨rfl,b,h.sqL⟩
abbrev OM:=D->Aa D->(Sl->Prop)->Prop
abbrev RM:=V->Aa V->Hp->VK->Prop
def EO (T:String) (f:OM) (i:Nat) (g:pX):lK:=λc b h=>(match at? b i with | some d=>E1 T d=true | none=>False)/\g c b λas a=>match at? a i,sZ a as with
 | some d,some e=>f d e λs=>h s a
 | _,_=>False
variable {id:String}
abbrev OW:=D->Aa D->(D->D->Prop)->Prop
def Fh (K:kG) (r:RM) (f:OW):Prop:=∀ (A:Ad->Prop) (H:Hp) (a:Ad) (c:D) (h:Aa D) (i:Aa V) (k:D->D->Prop) (Q:VK),¬ A a->mW K A H a c->Reps K A H h i->f c h k ->
 (∀ d v o e,k d e->Rep K A H d v->(∀ b,Kp A b H (upd H a o)->mW K b (upd H a o) a e)->Q v (upd H a o))->r (.ref a) i H Q
def dW (T:String) (f:OW) (i:Nat) (g:pX):lK:=λh b m=>(match at? b i with | some d=>E1 T d=true | none=>False)/\g h b λas a=>match a[i]?,uJ as with
 | some (.o c),some k=>f c k λd e=>m (.v d) (a.set i (.o e))
 | _,_=>False
theorem DV {f:OW}(C:Fh X.K r f){g:St}{H:Hp}{Q:VK}(h:dE X.K (dW T f i ta) g H Q):oV i g H λx l=>A8 X.K T x l/\dA X.K ta g l λxs j=>r x xs j Q:=by
 obtain⟨B,Y,Tm,Φ,S,hd,⟨A,J⟩,k⟩:=h;cases F:at? Y i with
 | none=>rw[F] at A;exact A.elim
 | some d0 =>
  rw[F] at A;obtain⟨x,t,px⟩:=hd.peek S F;refine⟨x,t,Q1 A px,B,Y,Tm,_,S,hd,J,λas e vs j D ok d2 b=>?_⟩;cases m:e[i]? with
  | none=>rw[m] at b;exact b.elim
  | some s =>
   cases s with
   | n=>rw[m] at b;exact b.elim
   | v c=>rw[m] at b;exact b.elim
   | o c =>
    cases G:uJ as with
    | none=>rw[m,G] at b;exact b.elim
    | some P =>
     rw[m,G] at b;have O:=d2.temps ok P G;have Z:=d2.rmArgs;obtain⟨a,R,W,wr⟩:=Z.slotW D m;rw[t] at R;cases R;obtain⟨u,U,tu⟩:=W.some;have V:¬ Al B (dT (e.zip g++Tm)) a:=λz=>z.2.1 (by
      obtain⟨l1,y,N,w,_,L,_⟩:=sW D m;rw[t] at w;cases w;rw[L,bD,cL,oQ];exact aY _ aG)
     refine C _ j a c P vs _ Q V W O b λd v o E M rd I=>k _ _ v _ (by rw[bH];exact D) ?_ M
     refine (wr o E I).push ?_;have p:dT ((e.set i (.o E)).zip g++Tm)=dT (e.zip g++Tm):=by
      obtain⟨l1,y,N,w,_,L,q⟩:=sW D m;rw[t] at w;cases w;have:=q (.o E) (some (.ref a));rw[wT t] at this;rw[this,L,bD,bD,cL,cL,oQ,oQ];rfl
     rw[p];exact rd.mono (.write U tu V)
theorem vD {f:OW}(pa:PlainAttrs T) (slot:Slot T name id) (j:typeOf (.builtin id)=pure (.type "method_descriptor")) (J:zL X id r) (I:Fh X.K r f) (U:PE X o (oV i)) (p:pS X (e::l) ta)
  (C:MtB X o name apos e l g:=by exact {}) :
  PD X (.Call (.Attribute o name apos) (e::l) [] g) (dW T f i ta):=(yO pa slot j J U p C).mono λ_ _ _ h=>DV I h
noncomputable def Yd:OW:=λc b f=>match c,b with
 | .l a,[d]=>a.length<100000/\f .e (.l (a++[d]))
 | _,_=>False
theorem vC:Fh K Iv Yd:=by
 intro A H a c q s t Q _ i rd b k;cases c<;>first | exact False.elim b | skip
 cases rd with
 | nil=>exact False.elim b
 | cons f rd =>
 cases rd with
 | cons _ _=>exact False.elim b
 | nil =>
 .obtain⟨m,h,r⟩:=i
  .refine⟨a,m,_,rfl,rfl,h,aT (by rw[<- r.length];exact b.1) (by decide),k _ _ _ _ b.2 .e λn d=>⟨_,lB,(r.append (.cons f .nil)).mono d⟩⟩
def EC:D->Bool
 | .k _=>true
 | .T _=>true
 | _=>false
def W5 (i:Nat) (ty g:lK):lK:=λc e m=>(match at? e i with | some d=>EC d=true | none=>False)/\ty c e λf b=>g c b λh a=>match at? a i,sd f,sd h with
 | some d,some k,some x=>∃ o,uU d k=some o/\m (.v (o.getD x)) a
 | _,_,_=>False
theorem Oe (U:X.A.units+1<cLine) (l:PE X o (oV i)) (I:PD X k ty) (J:PD X x tx) (m:M2 X o "get" apos k x j:=by exact⟨rfl,rfl,rfl,rfl⟩):PD X (.Call (.Attribute o "get" apos) [k,x] [] j) (W5 i ty tx) :=
 (AM U l I J m).mono λσ H Q E=>E.elim λB W Tm Φ N hd ⟨t,T⟩ k=>by
  cases u:at? W i with
  | none=>rw[u] at t;exact t.elim
  | some Z =>
   rw[u] at t;obtain⟨x,O,R⟩:=hd.peek N u;obtain⟨a,rfl,F⟩:∃ a,x = .ref a/\Fp H a:=by
    cases Z<;>first | (cases t;done) | skip
    .obtain⟨a,L,rfl,h,e,r⟩:=R.dK_inv;exact⟨a,rfl,.inl ⟨L,.inl h⟩⟩
    .obtain⟨a,L,rfl,h,e,r⟩:=R.dT_inv;exact⟨a,rfl,.inr ⟨L,h⟩⟩
   refine⟨.ref a,O,a,rfl,F,B,W,Tm,_,N,hd,T,λV M y H1 l1 d1 C=>⟨B,M,(V,some y)::Tm,_,l1,d1,C,λrx q z Y P d2 b=>?_⟩⟩;cases f:at? q i with
   | none=>rw[f] at b;exact b.elim
   | some d =>
    cases s:sd V with
    | none=>rw[f,s] at b;exact b.elim
    | some kk =>
     cases D:sd rx with
     | none=>rw[f,s,D] at b;exact b.elim
     | some xx =>
      rw[f,s,D] at b;obtain⟨oo,l,b⟩:=b;obtain⟨S,q2,q3⟩:=d2.two s D;obtain⟨x',n,G⟩:=S.peek P f;rw[O] at n;cases n;obtain⟨a',w,p,g,g1,g2⟩:=Fy l G q2.peek;cases p;refine⟨w,g,k _ q _ Y P (S.push ?_) b⟩;cases oo with
      | none=>rw[g2 rfl];exact q3
      | some c=>obtain⟨v,rfl,rv⟩:=g1 c rfl;exact rv
theorem Kw:∀ (g:Aa Af),Reps K A H (g.map D.str) (g.map V.str)
 | []=>.nil
 | y::g=>.cons (.str y) (Kw g)
end
section
variable {X:Cx}
theorem lI (o:X.A.units+1<cLine) (i:Nat) (j:PD X b p) (g:PE X a (oV i):=by exact pv _) (l:Hq b:=by exact λ_ _=>rfl):PD X (.Subscript a b pos) (wS Ho i p) :=
 (pG (N9 o) g j l).mono λ_ _ _ h=>Az Mo h
end
section
variable {X:Cx}{K:kG}
theorem Ww (l:X.calm=true):lX X (.builtin "min") (λg H Q=>∃ i j k,g=[.int i,.int j,.int k]/\∀ m:Int,(m=i\/m=j\/m=k)->m<=i->m<=j->m<=k->Q (.int m) H):=by
 intro f s A H g F Q I r h;obtain⟨i,j,k,rfl,q⟩:=h;cases r with
 | cons y r =>
  obtain⟨v,u,rfl,⟨D,rfl⟩,⟨E,rfl⟩⟩:=zH r;obtain⟨B,rfl⟩:=y;refine min_three_ints (I.ok.hd l) λw z x=>?_
  have fin:∀ (m:Int) (t:Tok),(m=i\/m=j\/m=k)->m<=i->m<=j->m<=k->EP X f A Q (.int m t) { s with heap:=w,toks:=z }:=λm t a b c d=>⟨.int m,H,I.kept x,⟨t,rfl⟩,q m a b c d⟩
  by_cases n:j<i
  .rw[bA n];by_cases e:k<j
   .rw[bA e];exact fin _ _ (.inr (.inr rfl)) (by omega) (by omega) (by omega)
   .rw[bB e];exact fin _ _ (.inr (.inl rfl)) (by omega) (by omega) (by omega)
  .rw[bB n];by_cases e:k<i
   .rw[bA e];exact fin _ _ (.inr (.inr rfl)) (by omega) (by omega) (by omega)
   .rw[bB e];exact fin _ _ (.inl rfl) (by omega) (by omega) (by omega)
def E6 (K:kG):Aa V->Hp->VK->Prop:=λa H Q=>Eu K a H Q\/∃ i j k,a=[.int i,.int j,.int k]/\∀ m:Int,(m=i\/m=j\/m=k)->m<=i->m<=j->m<=k->Q (.int m) H
theorem R7 (g:X.calm=true):lX X (.builtin "min") (E6 X.K):=(Y6 g).or (Ww g)
def Ul:OC:=λa b=>match a with
 | [.int i,.int j,.int k]=>∀ m:Int,(m=i\/m=j\/m=k)->m<=i->m<=j->m<=k->b (.v (.int m))
 | a=>Eb a b
theorem Wr:pU K (E6 K) Ul:=by
 intro B L H i n q Q hd h f k;have two:Eb i q->E6 K n H Q:=λf=>.inl (Vr B L H _ n q Q hd h f k)
 rcases i with _ | ⟨d,_ | ⟨e,_ | ⟨g,_ | ⟨_,_⟩⟩⟩⟩
 .exact two f
 .cases d<;>exact two f
 .cases d<;>first | exact two f | (cases e<;>exact two f)
 .cases d<;>first | exact two f | skip
  cases e<;>first | exact two f | skip
  cases g<;>first | exact two f | skip
  cases h with
  | cons s h =>
   obtain⟨x,y,rfl,t,py⟩:=zN h;have:=s.int_inv;have:=t.int_inv;have:=py.int_inv;subst_vars;exact .inr ⟨_,_,_,rfl,λm a b c d=>k _ _ H (f m a b c d) (hd.pushF (.int _))⟩
 .cases d<;>first | exact two f | (cases e<;>first | exact two f | (cases g<;>exact two f))
noncomputable def Hs:D->Ab String
 | .e=>some "NoneType"
 | .b _=>some "bool"
 | .int _=>some "int"
 | .str _=>some "str"
 | .l _=>some "list"
 | .t _=>some "tuple"
 | .k _=>some "dict"
 | _=>none
theorem Ue (h:Hs d=some n) (p:lP K A H d x):TyOf K H x (.type n):=by
 cases d<;>simp only[Hs,reduceCtorEq,iR] at h<;>subst h
 .have:=p.non_inv;subst this;exact .e
 .have:=p.bl_inv;subst this;exact .b _
 .have:=p.int_inv;subst this;exact .int _
 .have:=p.str_inv;subst this;exact .str _
 .obtain⟨a,c,rfl,h,r⟩:=p.tup_inv;exact .t h
 .obtain⟨a,c,rfl,h,r⟩:=p.lst_inv;exact .l h
 .obtain⟨a,c,rfl,h,e,r⟩:=p.dK_inv;exact .k h
def Zg (K:kG):OC:=λa e=>match a with
 | [d,.r (.ty c)]=>∃ n b,Hs d=some n/\PySem.W.kitOne K (.type n) (.type c)=some b/\e (.v (.b b))
 | _=>False
theorem L6:pU K (Kb K) (Zg K):=by
 intro B L H c q s Q hd i a k;cases c with
 | nil=>exact False.elim a
 | cons d c =>
  cases c with
  | nil=>exact False.elim a
  | cons e c =>
   cases e<;>first | exact False.elim a | skip
   rename_i v
   cases v<;>first | exact False.elim a | skip
   cases c with
   | cons _ _=>exact False.elim a
   | nil =>
    obtain⟨x,y,rfl,m,py⟩:=zN i;obtain⟨n,b,f,h,a⟩:=a;have:=py.raw_inv;subst this;exact⟨x,_,_,_,b,rfl,rfl,Ue f m,h,k _ _ H a (hd.pushF (.b _))⟩
theorem J9 (g:Gl X x) (j:X.mg x=none) (o:bootBuiltins x=some (.type n)) (l:x ≠ "__name__" := by decide) (hd:(x == ("__debug__" : Af))=false:=by decide):PD X (.Name x pos) (cd (.r (.ty n))) :=
 zR (S0 (v:=.ty n) g j o rfl l hd) λ_ _ _=>.r _
end
end L2
namespace PySem
open PyProof.Rows L2
abbrev tZ (h:Ag) (z TI TO T:Ad) (f:Bool):Prop:=h.get? z=some { cls:=.type "zip",dict:=none,data:=.fields #[rawInt T,.bool f,.bool false,.ref TI,.ref TO],slots:=#[] }
section
theorem BA (j:s.heap.get? a=some o) (h:Q (some o) s):wpAny (model g w) A (loadIfAlive a) Q E s:=λ_ _ _=>by
 show Q (s.heap.get? a) s;rw[j];exact h
theorem EB {TI TO:Ad}(g:tZ s.heap z TI TO T f) (p:s.heap.get? T=some r) (l:∀ j,tZ j z TI TO T true->Heap.SameBut z s.heap j->Q false { s with heap:=j }) :
  wpAny (model o w) A (Builtin.SmallTypes.ownedTupleIsFree (.ref z)) Q E s:=by
 unfold Builtin.SmallTypes.ownedTupleIsFree;refine aA (dO g rfl (x:=rawInt T) rfl ?_);show wpAny _ _ (loadIfAlive ((T:Int).toNat) >>= _) _ _ _;rw[eD];refine aA (BA p ?_);simp only[Option.isNone_some,eS,eE];refine aA (dO g rfl (x:=.bool f) rfl ?_);cases f with
 | true =>
  rw[bB (show ¬ ((Value.bool true != Value.bool true)=true) from aU)];exact aD (l _ g (Heap.SameBut.refl _ _))
 | false =>
  rw[bA (show (Value.bool false != Value.bool true)=true from rfl)];exact aA (gH g (by simp) λc b a=>aD (l _ b a))
def Mg (g:Ah) (w:World) (A:Around) (a b:Ac) (Q:Fin->Ae->Prop) (E:Ac->Ae->Prop) (s:Ae):Prop :=
 wpAny (model g w) A (Builtin.SmallTypes.nextOf a) (λx c=>wpAny (model g w) A (Builtin.SmallTypes.nextOf b) (λy d=>wpAny (model g w) A (newTuple [x,y]) (λt e=>Q (.done (.ret t)) e) E d) E c) E s
theorem Ph {TI TO:Ad}(p:tZ s.heap z TI TO T f) (r:s.heap.get? T=some C) (o:IsPair s.heap TI a b)
  (go:∀ l,tZ l z TI TO T true->Heap.SameBut z s.heap l->Mg j w A a b Q E { s with heap:=l }) :
  wpAny (model j w) A (Builtin.«zip.__next__» ⟨[.ref z],[]⟩) Q E s:=by
 have c:wpAny (model j w) A (Builtin.SmallTypes.ownedTupleIsFree (.ref z)) (λx d=>x=false/\Mg j w A a b Q E d) E s :=
  EB p r λl e k=>⟨rfl,go l e k⟩
 unfold Builtin.«zip.__next__»;refine aA (aD (aA (dO p rfl (x:=.bool false) rfl (aA (dO p rfl (x:=.ref TI) rfl (aA (dU o rfl ?_)))))));refine aA (hO c ?_);rintro _ d ⟨rfl,g⟩;simp only[bB aU,<- Array.forIn_toList,jO,List.forIn_nil,bind_assoc];refine aA (bJ (aA (hO g λx h g1=>aD (aA (aD ?_)))));refine aA (aA (bJ (aA (hO g1 λy i g2=>aD (aA (aD (aD ?_)))))));exact aA (hO g2 λt m g3=>aD g3)
theorem Xn {z TI TO T j l r C:Ad}{I J:Nat}{f:Bool}{oT:Obj}{xs ys:Array Ac}{x y:Ac}{Q:Ac->Ae->Prop}(D:ZipApart z TI TO j l r C)
  (hz:tZ s.heap z TI TO T f) (hT:s.heap.get? T=some oT) (U:IsPair s.heap TI (.ref j) (.ref l))
  (h1:s.heap.IsListIter j r I) (h2:s.heap.IsListIter l C J) (aa:s.heap.IsList r xs) (ab:s.heap.IsList C ys) (hx:xs[I]?=some x) (hy:ys[J]?=some y)
  (hQ:∀ g,tZ g z TI TO T true->g.IsListIter j r (I+1)->g.IsListIter l C (J+1)->IsPair g s.heap.objs.size x y->g.objs.size=s.heap.objs.size+1 ->(∀ c o,c≠z->c≠j->c≠l->s.heap.get? c=some o->g.get? c=some o)->Q (.ref s.heap.objs.size) { s with heap:=g }) :
  wpAny (model ac w) A (Builtin.«zip.__next__» ⟨[.ref z],[]⟩) (λfin s'=>∃ v,fin = .done (.ret v)/\Q v s') E s:=by
 refine Ph hz hT U λd K m=>?_
 have up1:∀ c o,c≠z->s.heap.get? c=some o->d.get? c=some o:=λc o n e=>m.extBut _ _ n e
 have there:d.IsListIter j r I/\d.IsListIter l C J/\d.IsList r xs/\d.IsList C ys:=⟨h1.at λo e=>up1 _ o D.i1z e,h2.at λo e=>up1 _ o D.i2z e,aa.at λo e=>up1 _ o D.l1z e,ab.at λo e=>up1 _ o D.l2z e⟩;refine gI there.1 there.2.2.1 hx λk G q=>?_
 have a:∀ c o,c≠j->d.get? c=some o->k.get? c=some o:=λc o n e=>q.extBut _ _ n e
 refine gI (there.2.1.at λo e=>a _ o D.i12.symm e) (there.2.2.2.at λo e=>a _ o D.l2i1 e) hy λh H t=>?_
 have b:∀ c o,c≠l->k.get? c=some o->h.get? c=some o:=λc o n e=>t.extBut _ _ n e
 have i:h.objs.size=s.heap.objs.size:=t.1.trans (q.1.trans m.1);have more:∀ {c:Ad} {o p:Obj},h.get? c=some o->(h.push p).get? c=some o:=λe=>aE _ e
 refine wpAny_newTuple ⟨_,rfl,?_⟩ (hsz:=(show 2<=sizeLine by decide));have last:=hQ (h.push (seqObj "tuple" #[x,y] 0)) (more (b _ _ D.i2z.symm (a _ _ D.i1z.symm K))) (G.at λo e=>more (b _ o D.i12 e)) (H.at λo e=>more e) (i▸aR _ rfl) ((cR ..).trans (by rw[i]))
  λc o u B F e=>more (b _ _ F (a _ _ B (up1 _ _ u e)))
 rw[<- i] at last;exact last
theorem Vw {TI TO:Ad}(hh:A.handled=none) (D:ZipApart z TI TO j J l l2)
  (hz:tZ s.heap z TI TO T f) (hT:s.heap.get? T=some oT) (r:IsPair s.heap TI (.ref j) (.ref J))
  (h1:s.heap.IsListIter j l U) (h2:s.heap.IsListIter J l2 k2) (C:s.heap.IsList l xs) (I:s.heap.IsList l2 ys) (g:xs[U]?=none\/ys[k2]?=none)
  (hE:∀ p e,(∀ c o,c≠z->c≠j->c≠J->s.heap.get? c=some o->p.get? c=some o)->(∃ o,p.get? e=some o/\o.cls = .type "StopIteration")->E (.ref e) { s with heap:=p }) :
  wpAny (model aa w) A (Builtin.«zip.__next__» ⟨[.ref z],[]⟩) Q E s:=by
 refine Ph hz hT r λi M F=>?_
 have up1:∀ c o,c≠z->s.heap.get? c=some o->i.get? c=some o:=λc o n e=>F.extBut _ _ n e
 have there:i.IsListIter j l U/\i.IsList l xs:=⟨h1.at λo e=>up1 _ o D.i1z e,C.at λo e=>up1 _ o D.l1z e⟩;rcases Option.eq_none_or_eq_some xs[U]? with b | ⟨x,b⟩
 .exact jE hh there.1 there.2 b λk e t H=>hE k e (λc o d h _ q=>t c o h (up1 c o d q)) H
 .refine gI there.1 there.2 b λk L G=>?_
  have a:∀ c o,c≠z->c≠j->s.heap.get? c=some o->k.get? c=some o:=λc o n m e=>G.extBut _ _ m (up1 c o n e)
  have y:ys[k2]?=none:=g.elim (λn=>by rw[n] at b;cases b) id;exact jE hh (h2.at λo e=>a _ o D.i2z D.i12.symm e) (I.at λo e=>a _ o D.l2z D.l2i1 e) y λB e u K=>hE B e (λc o d h v q=>u c o v (a c o d h q)) K
def zJ (h:Ag) (z TI TO g j:Ad):Prop:=IsPair h TI (.ref g) (.ref j)/\(∃ a b,IsPair h TO a b)/\(IsZip h z TI TO .none\/∃ T f o,tZ h z TI TO T f/\h.get? T=some o/\T≠z/\T≠TO/\T≠g/\T≠j)
theorem X4 {TI TO:Ad}(D:ZipApart z TI TO r C U l2)
  (j:zJ s.heap z TI TO r C) (I:s.heap.IsListIter r U k) (J:s.heap.IsListIter C l2 k) (l:s.heap.IsList U xs) (p:s.heap.IsList l2 ys) (hx:xs[k]?=some x) (hy:ys[k]?=some y)
  (hQ:∀ g,zJ g z TI TO r C->g.IsListIter r U (k+1)->g.IsListIter C l2 (k+1)->IsPair g s.heap.objs.size x y->g.objs.size=s.heap.objs.size+1 ->(∀ c o,c≠z->c≠TO->c≠r->c≠C->s.heap.get? c=some o->g.get? c=some o)->Q (some (.ref s.heap.objs.size)) { s with heap:=g }) :
  wpAny (model aa w) A (pyNext (.ref z)) Q E s:=by
 obtain⟨d,⟨a,b,i⟩,j⟩:=j;obtain⟨V,P,_⟩:=id I;obtain⟨W,R,_⟩:=id J;have q:∀ {c o},s.heap.get? c=some o->s.heap.objs.size≠c:=λe=>(aX (aM e)).symm
 rcases j with j | ⟨T,f,o,j,F,G,S,H,K⟩
 .refine wpAny_pyNext_zip_item D j d i I J l p hx hy λg t L u v n B h=>?_
  exact hQ g ⟨h _ _ D.TIz D.TITO D.TIi1 D.TIi2 d,⟨_,_,L⟩,.inr ⟨_,false,_,t,n,q j,q i,q P,q R⟩⟩ u v n B h
 .have m:s.TypeIs (.ref z) "zip" := ⟨_,j,rfl⟩;unfold pyNext;refine aA (fS (cP (name:=Str.ofString "__next__") m fB (fE fB m jI (Xn D j F d I J l p hx hy λg t u v n B h=>aD ?_) (iS _))));exact hQ g ⟨h _ _ D.TIz D.TIi1 D.TIi2 d,⟨_,_,h _ _ D.TOz D.TOi1 D.TOi2 i⟩,.inr ⟨T,true,_,t,h _ _ G H K F,G,S,H,K⟩⟩ u v n B λc o M _ N O e=>h c o M N O e
theorem We {TI TO:Ad}(hh:A.handled=none) (D:ZipApart z TI TO C I l1 l2)
  (j:zJ s.heap z TI TO C I) (J:s.heap.IsListIter C l1 k) (U:s.heap.IsListIter I l2 k) (l:s.heap.IsList l1 xs) (p:s.heap.IsList l2 ys) (g:xs[k]?=none\/ys[k]?=none)
  (hQ:∀ r,(∀ c o,c≠z->c≠TO->c≠C->c≠I->s.heap.get? c=some o->r.get? c=some o)->Q none { s with heap:=r }):wpAny (model aa w) A (pyNext (.ref z)) Q E s:=by
 obtain⟨d,⟨a,b,i⟩,j⟩:=j;rcases j with j | ⟨T,f,o,j,t,B,F,G,H⟩
 .exact wpAny_pyNext_zip_end hh D j d i J U l p g hQ
 .have h:s.TypeIs (.ref z) "zip" := ⟨_,j,rfl⟩;unfold pyNext;refine aA (fS (cP (name:=Str.ofString "__next__") h fB (fE fB h jI (Vw hh D j t d J U l p g λr e x v=>?_) (iS _))));obtain⟨o,y,u⟩:=v;refine aA (dZ (T := "StopIteration") (b:=true) ⟨o,y,u⟩ isSubtype_stop ?_);exact aD (hQ _ λc o m _ n q e=>x c o m n q e)
end
theorem CB:typeLookup (.type "zip") "keys" = pure none:=am_miss_of_fast (by decide +kernel)
theorem EA:entryFor table "zip.__getattribute__" = some Builtin.«object.__getattribute__»:=entryFor_alias (id' := "object.__getattribute__") (by kernel_rfl) (by decide +kernel) (by decide +kernel) (by kernel_rfl)
theorem Uu:typeLookup (.type "zip") "__getattr__" = pure none:=am_miss_of_fast (by decide +kernel)
theorem Um
  (l:s.heap.get? a=some { cls:=.type "zip",dict:=none,data:=.fields fs,slots:=j }) (q:Q .missing s):wpAny (model g w) A (Builtin.ObjectAttr.find (.ref a) (.type "zip") "keys") Q E s:=by
 have own:wpAny (model g w) A (Builtin.ObjectAttr.inOwnDict "keys" (.ref a)) (λr b=>r=none/\b=s) E s :=
  aA (aA (wpAny_loadPart l (aA (wpAny_loadPart l (aD (aD ⟨rfl,rfl⟩))))))
 have guard:wpAny (model g w) A (Builtin.ObjectAttr.copiedAttributeGuard "keys" (.ref a)) (λ_ b=>b=s) E s:=by
  have no:¬ (([Str.ofString "__module__",Str.ofString "__name__",Str.ofString "__qualname__",Str.ofString "__doc__",Str.ofString "__annotations__"]:Aa Af).contains (Str.ofString "keys")=true):=by decide +kernel
  simp only[Builtin.ObjectAttr.copiedAttributeGuard,bB no];exact aD rfl
 unfold Builtin.ObjectAttr.find;rw[CB];refine aA (aD (aA (aD (aA (aD (aA (hO own ?_)))))));rintro _ _ ⟨rfl,rfl⟩;refine aA (hO guard ?_);rintro _ _ rfl;exact aA (jU (aD q))
theorem Yz (a:Ad) (fs:Array Ac) (g:Array (Ab Ac)) (u:Tok):Meets (Builtin.«object.__getattribute__» ⟨[.ref a,.str "keys" u],[]⟩) (λA R s=>s.heap.get? a=some { cls:=.type "zip",dict:=none,data:=.fields fs,slots:=g }/\raisesAttr (.ref a) "keys" A R s) :=
 Meets.of_wp λb w A R s f=>by
  obtain⟨l,calm,out⟩:=f;have d:s.TypeIs (.ref a) "zip" := ⟨_,l,rfl⟩;unfold Builtin.«object.__getattribute__»;refine aA (aD (aA (aD (aA (eW d (aA (Um l ?_)))))));have named:wpAny (model b w) A.in1 (typeNameOfCut 100 (.ref a)) (λn c=>n = "zip" /\ c=s) (λe c=>R (.error e) c) s :=
   aA (aA (eW d (aD (aD ⟨by decide +kernel,rfl⟩))))
  show wpAny _ _ (Builtin.ObjectAttr.noSuchAttribute (.ref a) "keys") _ _ _;unfold Builtin.ObjectAttr.noSuchAttribute;refine aA (hO named ?_);rintro _ _ ⟨rfl,rfl⟩;exact wpAny_raiseAttrError calm out (by decide +kernel)
section
theorem Ql
  (l:s.heap.get? a=some { cls:=.type "zip",dict:=none,data:=.fields fs,slots:=o }) (calm:A.handled=none) (out:∀ j p e,Heap.NewAttrErr s.heap j e (.ref a) "keys" -> E (.ref e) { s with heap:=j,toks:=p }) :
  wpAny (model g w) A (boundAndCalled (.builtin "zip.__getattribute__") (.ref a) (.str "keys" u)) Q E s:=by
 have ask:wpAny (model g w) A (call (.builtin "zip.__getattribute__") [.ref a,.str "keys" u]) Q E s :=
  jT iK ⟨_,l,rfl⟩ EA (F.args_zip_getattribute_2 _ _) (Yz a fs o u) ⟨l,calm,out⟩
 unfold boundAndCalled;rw[iK.bind (.ref a)];exact aA (aD ask)
theorem Y1 (t:s.TypeIs (.ref e) "AttributeError") (out:E (.ref e) s) :
  wpAny (model g w) A (getattributeRaised o name (.type "zip") (.ref e) none false false) Q E s:=by
 have last:wpAny (model g w) A (hookOrError o name (.ref e) false false none) Q E s:=aA (wpAny_throw out);have a:hookBehind (.type "zip") none=pure none:=Uu;unfold getattributeRaised;refine aA (dZ t iG ?_);rw[bA rfl,a];exact aA (aD last)
theorem Ts
  (l:s.heap.get? a=some { cls:=.type "zip",dict:=none,data:=.fields fs,slots:=C }) (calm:A.handled=none) (out:∀ j p e,Heap.NewExcOf s.heap j e "AttributeError" -> Q none { s with heap:=j,toks:=p }) :
  wpAny (model g w) A (getAttr? (.ref a) "keys") Q E s:=by
 have c:∀ j p e,Heap.NewAttrErr s.heap j e (.ref a) "keys" -> (∃ o,j.get? e=some o/\o.cls = .type "AttributeError")/\Q none { s with heap:=j,toks:=p }:=λj p e x=>by
  obtain⟨_,_,y⟩:=x.there;exact⟨⟨_,y,rfl⟩,out j p e x.of⟩
 let d:Ae:={ s with toks:=s.toks+1 };let b:Except Ac Ac->Ae->Prop:=λr i=>wpAny (model g w) A (match r with | .ok v=>pure (some v) | .error e=>do if <- isInstance e (.type "AttributeError") then pure none else throw e) Q E i
 have look:wpAny (model g w) A (getAttrBy (.ref a) (.str "keys" s.toks) false) (λv=>b (.ok v)) (λe=>b (.error e)) d:=by
  refine bJ (aA (eW (T := "zip") ⟨_,l,rfl⟩ (aA (iJ iK.lookup ?_))));have own:wpAny (model g w) A (getAttrByItsOwn (.ref a) (.str "keys" s.toks) (.type "zip") (.builtin "zip.__getattribute__") false false) (λv=>b (.ok v)) (λe=>b (.error e)) d:=by
   refine aA (aD (aA (fS (bJ (Ql (s:=d) l calm λj p e x=>?_)))));obtain⟨⟨o,f,h⟩,q⟩:=c j p e x;exact Y1 ⟨o,f,h⟩ (aA (dZ (T := "AttributeError") ⟨o,f,h⟩ iG (aD q)))
  exact own
 exact aA (wpAny_mkText (aA (fS look)))
end
section
variable {K:Type} [DecidableEq K] {knd:KeyKind prog w K}{A:Around}{R:Result->Ae->Prop}
theorem Ru {TI TO:Ad}(hh:A.handled=none) (D:ZipApart z TI TO l p r C) (hd:d∉[z,TI,TO,l,p,r,C]) (more:Aa (K×Ac)) (hn:more.length=min I.size J.size) (j:more.length<=sizeLine)
  (hT:∀ (i:Nat) x y,I[i]?=some x->J[i]?=some y->∃ k,knd.is k x=true/\more[i]?=some (k,y)) (h0:Ag) :
  ∀ (m i:Nat) (s:Ae),more.length-i=m->i<=more.length->zJ s.heap z TI TO l p->s.heap.IsListIter l r i->s.heap.IsListIter p C i->s.heap.IsList r I->s.heap.IsList C J->(∀ b o,b∉[z,TO,l,p,d]->h0.get? b=some o->s.heap.get? b=some o)->s.heap.DictOf knd d (merged [] (more.take i)) ->
   (∀ g tk,(∀ b o,b∉[z,TO,l,p,d]->h0.get? b=some o->g.get? b=some o)->g.DictOf knd d (merged [] more)->R (.ok (.ret .none)) { s with heap:=g,toks:=tk }) ->
   codeAny (model prog w) A (.builtin "dict.update.loop" ⟨[.ref d,.ref z,.int (i:Int) 0,.none],[]⟩) R s:=by
 simp only[aF,bE,eP,kF] at hd;obtain⟨d1,d2,W,X,Y,d6,d7⟩:=hd;have na:∀ {b:Ad},b∉[z,TO,l,p,d]->b≠z/\b≠TO/\b≠l/\b≠p/\b≠d:=λj=>by
  simpa only [aF,bE,eP,kF] using j
 intro m;induction m with
 | zero =>
  intro i s hm hi hz h1 h2 c h kp H hR;have ei:i=more.length:=by omega
  subst ei;rw[aO (aH _)] at H;refine eL Ct ?_;rw[dJ uL _];show wpAny _ A.in1 (pyNext (.ref z) >>= _) _ _ s;refine aA (We (by simpa using hh) D hz h1 h2 c h ?_ λg B=>?_)
  .rcases Nat.le_total I.size J.size with q | q
   .exact .inl (gG (by omega))
   .exact .inr (gG (by omega))
  .show wpAny _ A.in1 (Builtin.Dict.addKeywords d [] >>= _) _ _ _;refine aA (aD ?_);obtain⟨o,F,E,u,rest⟩:=H;exact aD (hR g _ (λb o j e=>let ⟨P,Q,S,V,b5⟩:=na j;B b o P Q S V (kp b o j e)) ⟨o,F,E,B d _ d1 W X Y u,rest⟩)
 | succ m ih =>
  intro i s hm hi hz h1 h2 c h kp H hR;have ab:i<more.length:=by omega
  obtain⟨x,hx⟩:∃ x,I[i]?=some x:=⟨_,fJ (by omega)⟩;obtain⟨y,hy⟩:∃ y,J[i]?=some y:=⟨_,fJ (by omega)⟩;obtain⟨ky,N,t⟩:=hT i x y hx hy;refine eL Ct ?_;rw[dJ uL _];show wpAny _ A.in1 (pyNext (.ref z) >>= _) _ _ s;refine aA (X4 D hz h1 h2 c h hx hy λg z' ac ae pr sz B=>?_);have aa:g.DictOf knd d (merged [] (more.take i)):=by
   obtain⟨o,F,E,u,rest⟩:=H;exact⟨o,F,E,B d _ d1 W X Y u,rest⟩
  have af:g.IsList r I:=c.at λo e=>B r o D.l1z D.l1TO D.l1i1 D.l1i2 e
  have ag:g.IsList C J:=h.at λo e=>B C o D.l2z D.l2TO D.l2i1 D.l2i2 e
  have pd:s.heap.objs.size≠d:=by
   obtain⟨o,F,E,u,rest⟩:=H;exact (aX (aM u)).symm
  show wpAny _ A.in1 (holding [Value.ref s.heap.objs.size] _ >>= _) _ _ _;refine aA (bJ ?_);refine aA (iQ ?_);unfold Builtin.Dict.pairItems;refine aA (eW (T := "tuple") ⟨_,pr,rfl⟩ ?_);rw[bA (by decide)];refine aA (dU pr rfl ?_);refine aD ?_;show wpAny _ A.in1 (holding [x,y] (dictSet d x y)) _ _ _;refine bJ ?_;have v:(merged [] (more.take i)).length<=sizeLine:=by
   have Z:=merged_length_le ([]:Aa (K×Ac)) (more.take i);rw[iB,bQ] at Z;omega
  refine wpAny_dictSet_pairs (hsz:=v) N aa λG n sb=>?_
  rw[<- merged_take_succ [] more i (ky,y) t] at n;refine aD ⟨hV uL _,?_⟩;have Z:(rawInt ((i:Int)+1))=Value.int ((i+1:Nat):Int) 0:=by rfl
  rw[Z];have up:∀ b o,b≠d->g.get? b=some o->G.get? b=some o:=λb o j e=>by rw[sb.2 b j];exact e
  have zz:zJ G z TI TO l p:=by
   obtain⟨p1,⟨a,b,p2⟩,p3⟩:=z';refine⟨up _ _ (eC d2) p1,⟨a,b,up _ _ (eC W) p2⟩,?_⟩;rcases p3 with p3 | ⟨T,f,o,q1,q2,q3,q4,q5,q6⟩
   .exact .inl (up _ _ (eC d1) p3)
   .by_cases M:T=d
    .subst M;obtain⟨o',F,E,u,rest⟩:=n;exact .inr ⟨T,f,_,up _ _ (eC d1) q1,u,q3,q4,q5,q6⟩
    .exact .inr ⟨T,f,o,up _ _ (eC d1) q1,up _ _ M q2,q3,q4,q5,q6⟩
  refine ih (i+1) _ (by omega) ab zz (ac.at λo e=>up _ o (eC X) e) (ae.at λo e=>up _ o (eC Y) e) (af.at λo e=>up _ o (eC d6) e) (ag.at λo e=>up _ o (eC d7) e) (λb o j e=>?_) n λU tk O L=>hR U tk O L
  obtain⟨P,Q,S,V,b5⟩:=na j;exact up b o b5 (B b o P Q S V (kp b o j e))
theorem AD {TI TO:Ad}(t:s.TypeIs (.ref d) "dict") (j:IsZip s.heap z TI TO .none) (calm:A.handled=none)
  (on:∀ g l e,Heap.NewExcOf s.heap g e "AttributeError" -> Q (.again (.builtin "dict.update.loop" ⟨[.ref d,.ref z,.int 0 0,.none],[]⟩)) { s with heap:=g,toks:=l }) :
  wpAny (model prog w) A (Builtin.«dict.__init__» ⟨[.ref d,.ref z],[]⟩) Q E s:=by
 have first:wpAny (model prog w) A (Builtin.Dict.selfAndRest "__init__" ⟨[.ref d,.ref z],[]⟩) (λp c=>p=(d,[Value.ref z])/\c=s) E s:=aA (wpAny_notOrdered_dict t (aD ⟨rfl,rfl⟩))
 have a:wpAny (model prog w) A (Builtin.Dict.updateFrom "dict.__init__" d (.ref z) [] .none) Q E s:=by
  refine aA (eW (T := "zip") ⟨_,j,rfl⟩ ?_);rw[bA (by decide)];refine aA (Ts j calm λg l e x=>?_);have b:IsZip g z TI TO .none:=x.keeps _ _ j;exact aA (jU (aA (wpAny_pyIter_zip b (aD (on g l e x)))))
 exact aA (dD first (λp c q=>by obtain⟨rfl,rfl⟩:=q;exact a) λ_ _ q=>q)
theorem V4 {TI TO:Ad}(hh:A.handled=none) (D:ZipApart z TI TO U i2 l1 l2)
  (T:IsZip s.heap z TI TO .none) (l:IsPair s.heap TI (.ref U) (.ref i2)) (C:IsPair s.heap TO .none .none) (h1:s.heap.IsListIter U l1 0) (h2:s.heap.IsListIter i2 l2 0) (I:s.heap.IsList l1 xs) (J:s.heap.IsList l2 ys)
  (hn:more.length=min xs.size ys.size) (g:more.length<=sizeLine) (hT:∀ (i:Nat) x y,xs[i]?=some x->ys[i]?=some y->∃ k,knd.is k x=true/\more[i]?=some (k,y))
  (h:∀ (j:Ag) (tk:Nat),j.DictOf knd s.heap.objs.size (merged [] more)->(∀ b o,b∉[z,TO,U,i2]->s.heap.get? b=some o->j.get? b=some o)->Q (.ref s.heap.objs.size) { s with heap:=j,toks:=tk }) :
  wpAny (model prog w) A (call (.type "dict") [.ref z]) Q E s:=by
 let d:=s.heap.objs.size;have made:(vQ s).heap.DictOf knd d []:=Heap.DictOf.new s.heap;have old:∀ b o,s.heap.get? b=some o->(vQ s).heap.get? b=some o:=λb o e=>aE _ e
 refine callType_codes F.kt_called_dict (F.kt_typeCall_dict_1 _) F.entry_dict_init (kt_code_dict_new _ (Q₁:=λv n=>v = .ref d/\n=vQ s) ⟨rfl,rfl⟩) λv n q=>?_
 obtain⟨rfl,rfl⟩:=q;refine⟨made.typeIs,F.args_dict_init_2 _ _,AD made.typeIs (old _ _ T) (by simp[hh]) λc tk e x=>⟨hV uL _,?_⟩⟩;have keeps:∀ b o,s.heap.get? b=some o->c.get? b=some o:=λb o e=>x.keeps _ _ (old b o e)
 obtain⟨N,G,_⟩:=id h1;obtain⟨O,H,_⟩:=id h2;obtain⟨P,L,_⟩:=id I;obtain⟨S,M,_⟩:=id J;have a:∀ {b o},s.heap.get? b=some o->d≠b:=λe=>(aX (aM e)).symm
 have f:c.DictOf knd d []:=by
  obtain⟨o,u,t,p,r⟩:=made;exact⟨o,u,t,x.keeps _ _ p,r⟩
 refine Ru (knd:=knd) (by simp[hh]) D ?_ more hn g hT s.heap more.length 0 _ rfl (cU _) ⟨keeps _ _ l,⟨_,_,keeps _ _ C⟩,.inl (keeps _ _ T)⟩ (h1.at λo e=>keeps _ o e) (h2.at λo e=>keeps _ o e) (I.at λo e=>keeps _ o e) (J.at λo e=>keeps _ o e) (λb o _ e=>keeps b o e) (by simpa [merged] using f) λj m B fin=>?_
 .simp only[aF,bE,eP,kF];exact⟨a T,a l,a C,a G,a H,a L,a M⟩
 .refine⟨rfl,h j m fin λb o g e=>B b o (λq=>?_) e⟩;simp only[aF,bE,eP,kF] at g q;rcases q with q | q | q | q | q
  .exact g.1 q
  .exact g.2.1 q
  .exact g.2.2.1 q
  .exact g.2.2.2 q
  .exact a e q.symm
end
end PySem
namespace L2
open PySem PySem.Spec PyProof.Rows Lw
section
variable {X:Cx}
def Y8 (K:kG) (g:TA):TE:=λf H Q=>g f H λe a=>∃ (l m:Ad) (b:Aa hH) (c:Aa V),e=[.ref l,.ref m]/\eT K a l (b.map kV)/\eT K a m c/\b.length<=1000/\∀ d,a d=none->Q (.ref d) (upd a d (.k (pM [] (b.zip c))))
theorem L9:∀ (g:Aa hH){j:Aa V}{l:Aa Ac},kJ j l->KV (g.zip j) (g.zip l)
 | [],_,_,_=>.nil
 | k::g,_,_,.nil=>.nil
 | k::g,_,_,.cons h r=>.cons ⟨rfl,h⟩ (L9 g r)
theorem R4 (j:X.calm=true) (hg:Gl X "dict") (hm:X.mg "dict" = none) (r:Gl X "zip") (C:X.mg "zip" = none) (ha:PA X [a,b] ta)
  (hs:starEach [a,b] X.env=(false,eval a X.env)::starEach [b] X.env:=by rfl) (J:(backTo g (starEach [b] X.env)).any (·.1)=false:=by rfl) :
  PE X (.Call (.Name "dict" p) [.Call (.Name "zip" p') [a,b] [] g] [] pos) (Y8 X.K ta):=by
 intro z s σ H Q I h;refine eQ (sQ I hg hm boot_dict ?_ (by decide) (by decide));refine cN ?_ rfl rfl;show wpAny _ _ (spliced ((false,eval (.Call (.Name "zip" p') [a,b] [] g) X.env)::backTo pos (starEach [] X.env))) _ _ s;refine iE ?_;refine eQ (sQ I r C boot_zip ?_ (by decide) (by decide));refine cN (hO (ha g z s σ H _ I h) λus B M=>?_) hs J;obtain⟨xs,H1,t,S,q1⟩:=M;obtain⟨l,m,c,E,rfl,hl,hv,hn,q⟩:=q1;obtain⟨Z,T,rfl,W,Y⟩:∃ Z T,us=[Z,T]/\kM (.ref l) Z/\kM (.ref m) T:=by
  cases S with | cons S V=>cases V with | cons V r3=>cases r3;exact⟨_,_,rfl,S,V⟩
 cases W;cases Y;obtain⟨N,r',R,_⟩:=t.list hl;obtain⟨f,A,n,_⟩:=t.list hv;refine call_zip_2 R.isList n.isList λD z1 z2 z3 z4 z5 z6 U=>?_
 refine Calls.spliced_nil ?_;have L1:=r'.length;have L2:=A.length;rw[aB] at L1;have F:=L9 c A;have O:l<B.heap.objs.size:=by obtain⟨_,e,_⟩:=R.isList;exact aM e
 have P:m<B.heap.objs.size:=by obtain⟨_,e,_⟩:=n.isList;exact aM e
 refine V4 (knd:=nY X.prog X.w) (more:=c.zip f) (s:={ B with heap:=D }) (t.ok.hd j) (zipApart_new O P) z1 z2 z3 z4 z5 (R.isList.at λo e=>U _ o e) (n.isList.at λo e=>U _ o e) ?_ ?_ ?_ λh2 tk hD hk=>?_
 .rw[iC,aP,aP];omega
 .rw[iC];exact gE (dH (show min c.length f.length<=1000 by omega) (by decide))
 .intro i x y v G;have v:N[i]?=some x:=by simpa using v
  have G:f[i]?=some y:=by simpa using G
  obtain⟨hi,_⟩:=aK.mp v;obtain⟨u,hu,ru⟩:=r'.get (i:=i) (x:=kV (c[i]'(by omega))) (by simp[show i<c.length by omega]);rw[hu] at v;cases v;refine⟨c[i]'(by omega),vW ru,?_⟩;rw[List.getElem?_zip_eq_some];exact⟨aI _,G⟩
 .have L:(pM [] (c.zip E)).length<=sizeLine:=by
   have h1:=Ic (c.zip E) [];rw[iB,iC] at h1;exact gE (dH (show (pM [] (c.zip E)).length<=1000 by omega) (by decide))
  have d:B.heap.objs.size<=D.objs.size:=by omega
  have kp:∀ b o,B.heap.get? b=some o->h2.get? b=some o:=λb o e=>hk b o (λq=>by
   have:=aM e;simp only[aF,bE,eP] at q;rcases q with q | q | q | q<;>rw[q] at this<;>first | exact absurd this (cW _) | exact absurd this (Nat.not_lt.mpr (eU _ _))) (U b o e)
  refine⟨.ref D.objs.size,_,t.laid (a:=D.objs.size) (o:=.k (pM [] (c.zip E))) (t':=tk) kp d ?_,rfl,q _ (t.hok.fresh d)⟩;exact At L (eI.mpr (eC (aX (aT t.big d)))) (F.merge .nil) hD
end
def uP:Aa D->Ab (Aa hH)
 | []=>some []
 | d::a=>match pN d,uP a with
  | some k,some b=>some (k::b)
  | _,_=>none
section
variable {X:Cx}{K:kG}
theorem U0 (h:uP g=some j) (l:Reps K A H g o):o=j.map kV:=by
 induction g generalizing j o with
 | nil=>cases l;cases h;rfl
 | cons d g c =>
  cases l with
  | cons r l =>
  have h:=(show (match pN d,uP g with | some k,some j=>some (k::j) | _,_=>none)=some j from h);cases a:pN d with
  | none=>rw[a] at h;cases h
  | some k =>
   cases b:uP g with
   | none=>rw[a,b] at h;cases h
   | some e =>
    rw[a,b] at h;cases h;rw[c b l,yU a r.peek];rfl
theorem Lu:∀ (g:Aa Af),uP (g.map D.str)=some (g.map Sum.inr)
 | []=>rfl
 | x::g=>by
  show (match some (Sum.inr x:hH),uP (g.map D.str) with | some k,some a=>some (k::a) | _,_=>none)=_;rw[Lu g];rfl
def Hh:OC:=λb e=>match b with
 | [.l c,.l d]=>∃ a,uP c=some a/\a.length<=1000/\e (.o (.k (tQ [] (a.zip d))))
 | _=>False
theorem Py:∀ (g:Aa hH){j:Aa D}{l:Aa V}{A:Ad->Prop}{H:Hp},Reps K A H j l->(g.zip j).map (·.1)=(g.zip l).map (·.1)/\Reps K A H ((g.zip j).map (·.2)) ((g.zip l).map (·.2))
 | [],_,_,_,_,_=>⟨rfl,.nil⟩
 | k::g,_,_,_,_,.nil=>⟨rfl,.nil⟩
 | k::g,_,_,_,_,.cons h r=>by
  obtain⟨a,b⟩:=Py g r;exact⟨by simp[a],.cons h b⟩
theorem Qv:pU K (λo H Q=>∃ (l m:Ad) (g:Aa hH) (j:Aa V),o=[.ref l,.ref m]/\eT K H l (g.map kV)/\eT K H m j/\g.length<=1000/\∀ d,H d=none->Q (.ref d) (upd H d (.k (pM [] (g.zip j))))) Hh:=by
 intro B L H D o F Q hd f c k;unfold Hh at c;split at c
 .obtain⟨x,y,rfl,s,py⟩:=zN f;obtain⟨g,n,q,c⟩:=c;obtain⟨a,E,rfl,h,v⟩:=s.lst_inv;obtain⟨b,j,rfl,i,w⟩:=py.lst_inv;have e:=U0 n v;subst e;obtain⟨z,A⟩:=Py g w;obtain⟨t,u⟩:=Ib (kvs:=[]) (vs:=[]) z A rfl .nil;exact⟨a,b,g,j,rfl,eT.of h,eT.of i,q,λp f=>k _ _ _ c (hd.dKF f t u)⟩
 .exact c.elim
theorem DH (g:X.calm=true) (I:Gl X "dict") (J:X.mg "dict" = none) (l:Gl X "zip") (o:X.mg "zip" = none) (C:pS X [a,b] U)
  (T:starEach [a,b] X.env=(false,eval a X.env)::starEach [b] X.env:=by rfl) (r:(backTo j (starEach [b] X.env)).any (·.1)=false:=by rfl) :
  PD X (.Call (.Name "dict" p) [.Call (.Name "zip" p') [a,b] [] j] [] pos) (dC Hh U):=(R4 g I J l o C T r).mono λ_ _ _ h=>Hr Qv h
end
end L2
namespace PySem
open PyProof.Rows L2
section
variable {R:Result->Ae->Prop}
def zC:Ab (Int×Tok)->Array Ac
 | none=>#[]
 | some (b,t)=>#[.int b t,.int b t]
def tH (o:Ab (Int×Tok)) (x:Int×Tok):Ab (Int×Tok) :=
 match o with
 | none=>some x
 | some b=>if b.1<x.1 then some x else some b
def yV (d:Ac):Ab (Int×Tok)->Ac
 | none=>d
 | some (b,t)=>.int b t
abbrev vE (I S:Ad) (d:Ac):Code:=.builtin "max.loop" ⟨[.ref I,.none,.ref S],[(Str.ofString "default",d)]⟩
def sP (h:Ag) (S:Ad) (o:Ab (Int×Tok)):Prop:=∃ c,h.get? S=some { cls:=.type "list",dict:=none,data:=.seq (zC o) c,slots:=#[] }
theorem sP.on {S:Ad}(k:sP h S o) (e:g.get? S=h.get? S):sP g S o:=k.imp λ_ q=>e.trans q
theorem G6 {S:Ad}(k:sP s.heap S o) (j:f (zC o)=zC o')
  (go:∀ g,sP g S o'->(∀ b,b≠S->g.get? b=s.heap.get? b)->Q () { s with heap:=g }):wpAny (model l w) A (updateSeq S f) Q E s:=by
 obtain⟨c,e⟩:=k;have a:∀ o,(zC o).size<=2:=λo=>by cases o<;>simp[zC]
 have line:2<=sizeLine:=by decide
 have d:=jB (Obj.mapSeq f) e rfl;simp only[Obj.mapSeq,j] at d;exact wpAny_updateSeq e rfl (go _ ⟨_,d⟩ λb n=>iO _ _ (eC n)) (bM (a _) line) (by rw[j];exact Nat.le_succ_of_le (bM (a _) line))
theorem Cg {S:Ad}(go:codeAny (model g w) A (vE I S d) R s):(vE I S d).quiet=true/\codeAny (model g w) A (vE I S d) R s:=⟨hV F.plain_max_loop _,go⟩
theorem Xo {S:Ad}(g:S≠I) (hit:s.heap.IsListIter I l j) (T:s.heap.IsList l items) (J:items[j]?=some (.int n t)) (C:sP s.heap S o)
  (go:∀ r,r.IsListIter I l (j+1)->sP r S (tH o (n,t))->(∀ b,b≠I->b≠S->r.get? b=s.heap.get? b)->codeAny (model p w) A (vE I S d) R { s with heap:=r }) :
  codeAny (model p w) A (vE I S d) R s:=by
 have name:(toString "max" ++ toString ".loop" : String) = "max.loop" := rfl;refine eL F.entry_max_loop ?_;rw[dJ F.plain_max_loop _];obtain⟨c,y⟩:=id C;show wpAny _ A.in1 (seqItems? (.ref S) >>= _) _ _ s;refine aA (dU y rfl ?_);refine aA (iQ (iL hit T J λz a m=>?_));have f:sP z S o:=C.on (m.2 S g);refine aA (aD ?_);cases o with
 | none =>
  refine aA (G6 (o':=some (n,t)) f rfl λv h k=>?_);rw[name];exact aD (Cg (go v (a.at λo e=>(k I (eC g)).trans e) h λb i q=>(k b q).trans (m.2 b i)))
 | some x =>
  obtain⟨b,u⟩:=x;refine aA (iQ (bJ (aA (richCompare_gives (op:=.Gt) (kA _ _ t) (kA _ _ u) F.slot_int_gt F.entry_int_gt (F.args_int_gt_2 _ _) (gives_int_gt _ _ t u) (λx=>nomatch x) ?_))));refine aA (bJ (iM (aA (jL (aD ?_)))));by_cases lt:b<n
  .have e:tH (some (b,u)) (n,t)=some (n,t):=bA lt;rw[e] at go;rw[bA (cV lt)];refine aA (G6 (o':=some (n,t)) f rfl λv h k=>aA (jL ?_));rw[name];exact aD (Cg (go v (a.at λo e=>(k I (eC g)).trans e) h λb i q=>(k b q).trans (m.2 b i)))
  .have e:tH (some (b,u)) (n,t)=some (b,u):=bB lt;rw[e] at go;rw[bB (by rw[jW];exact lt)];refine aA (jL ?_);rw[name];exact aD (Cg (go z a f λb i _=>m.2 b i))
theorem Ur {S:Ad}(calm:A.handled=none) (g:S≠I) (hit:s.heap.IsListIter I l j) (U:s.heap.IsList l items) (T:items[j]?=none) (J:sP s.heap S o)
  (out:∀ r,(∀ b p,b≠I->b≠S->s.heap.get? b=some p->r.get? b=some p)->R (.ok (.ret (yV d o))) { s with heap:=r }) :
  codeAny (model C w) A (vE I S d) R s:=by
 refine eL F.entry_max_loop ?_;rw[dJ F.plain_max_loop _];obtain⟨c,a⟩:=id J;show wpAny _ A.in1 (seqItems? (.ref S) >>= _) _ _ s;refine aA (dU a rfl ?_);refine aA (iQ (jA (A:=A.in1) calm hit U T λk h=>?_));cases o with
 | none=>exact aA (jU (aD (out k λb p f _ e=>h b p f e)))
 | some x=>exact aA (G6 (o':=none) ⟨c,h S _ g a⟩ rfl λm _ n=>aA (jL (aD (out m λb p f i e=>(n b i).trans (h b p f e)))))
theorem Qe {S:Ad}(calm:A.handled=none) (g:S≠I) (r:l≠I) (C:l≠S) (left:Aa (Int×Tok)) :
  ∀ (j:Nat) (o:Ab (Int×Tok)) (s:Ae),items.toList.drop j=left.map (λx=>.int x.1 x.2)->s.heap.IsListIter I l j->s.heap.IsList l items->sP s.heap S o ->
   (∀ J,(∀ b p,b≠I->b≠S->s.heap.get? b=some p->J.get? b=some p)->R (.ok (.ret (yV d (left.foldl tH o)))) { s with heap:=J })->codeAny (model T w) A (vE I S d) R s:=by
 induction left with
 | nil =>
  intro j o s hd hit f h out;have a:items[j]?=none:=by
   rw[<- eO,<- fR j,<- iH,hd];rfl
  exact Ur calm g hit f a h out
 | cons x left t =>
  intro j o s hd hit f h out;have this:items[j]?=some (.int x.1 x.2):=by
   rw[<- eO,<- fR j,<- iH,hd];rfl
  have rest:items.toList.drop (j+1)=left.map (λx=>.int x.1 x.2):=by
   rw[<- List.drop_drop,hd];rfl
  exact Xo g hit f this h λv c i n=>t (j+1) _ _ rest c (f.at λp e=>(n l r C).trans e) i λq u=>out q λb p k m e=>u b p k m ((n b k m).trans e)
theorem E9:∀ (left:Aa (Int×Tok)) (b:Int×Tok),∃ m,left.foldl tH (some b)=some m/\(m=b\/m∈left)/\b.1<=m.1/\∀ x∈left,x.1<=m.1
 | [],b=>⟨b,rfl,.inl rfl,cO _,λ_ h=>nomatch h⟩
 | x::left,b=>by
  rw[fO];show ∃ m,left.foldl tH (if b.1<x.1 then some x else some b)=some m/\_;by_cases lt:b.1<x.1
  .rw[bA lt];obtain⟨m,e,w,g,all⟩:=E9 left x;exact⟨m,e,.inr (w.elim (λq=>q▸aG) (aN _)),by omega,λy a=>(aF.mp a).elim (λq=>q▸g) (all y)⟩
  .rw[bB lt];obtain⟨m,e,w,g,all⟩:=E9 left b;exact⟨m,e,w.imp_right (aN _),g,λy a=>(aF.mp a).elim (λq=>by rw[q];omega) (all y)⟩
theorem Ry (a v:Ac):argsOk "max" ⟨[a],[(Str.ofString "default",v)]⟩:=by unfold argsOk;kernel_rfl
theorem BU {vs:Aa (Int×Tok)}(calm:A.handled=none) (g:s.heap.IsList l items) (C:items.toList=vs.map λx=>.int x.1 x.2)
  (out:∀ j,(∀ b o,s.heap.get? b=some o->j.get? b=some o)->Q (yV d (vs.foldl tH none)) { s with heap:=j }) :
  wpAny (model r w) A (call (.builtin "max") [.ref l] [(Str.ofString "default",d)]) Q E s:=by
 have name:(toString "max" ++ toString ".loop" : String) = "max.loop" := rfl;have bound:Builtin.Builtins.bindParams "max" ["key","default"] 0 ⟨[],[(Str.ofString "default",d)]⟩=pure [none,some d]:=rfl;have lt:l<s.heap.objs.size:=by
  obtain⟨_,e,_⟩:=g;exact aM e
 refine kmk_tree F.kind_max F.plain_max F.entry_max (Ry _ _) ?_;show wpAny _ A.in1 (Builtin.Builtins.bindParams "max" ["key","default"] 0 ⟨[],[(Str.ofString "default",d)]⟩ >>= _) _ _ s;rw[bound];refine aA (aD (aA (aD (aA (dN g (aA (wpAny_newList ?_ (cU _))))))));rw[name];have a:(s.heap.push { cls:=.type "list_iterator",data:=.fields #[.ref l,.int 0 0] }).objs.size=s.heap.objs.size+1:=cR ..;have same:∀ b p,s.heap.get? b=some p->((s.heap.push { cls:=.type "list_iterator",data:=.fields #[.ref l,.int 0 0] }).push (seqObj "list" #[] 0)).get? b=some p:=λb p e=>aE _ (aE _ e)
 have less:∀ b p,s.heap.get? b=some p->b<s.heap.objs.size:=λ_ _ e=>aM e
 refine aD (Cg (Qe (l:=l) (items:=items) calm ?_ (aX lt) ?_ vs 0 none _ C ⟨_,aE _ (aR _ rfl),rfl,rfl⟩ (g.at λp e=>same _ p e) ⟨0,aR _ rfl⟩ λc f=>?_))
 .rw[a];exact Nat.succ_ne_self _
 .rw[a];exact aX (iP lt)
 .exact out c λb p e=>f b p (aX (less b p e)) (by rw[a];exact aX (iP (less b p e))) (same b p e)
end
end PySem
namespace L2
open PySem PySem.Spec PyProof.Rows Lw
section
variable {X:Cx}{K:kG}
def Zm (K:kG) (j g:TE):TE:=λd H Q=>tL j uN d H λf e=>tL g uN d e λh c=>∃ (l:Ad) (b:Aa Int) (y:V),f=[.ref l]/\h=[y]/\eT K c l (b.map V.int)/\(b=[]->Q y c)/\∀ m:Int,m∈b->(∀ a∈b,a<=m)->Q (.int m) c
theorem DK (C:X.calm=true) (T:Gl X "max") (U:X.mg "max" = none) (J:PE X e r) (hd:PE X d o) (j:starEach [e] X.env=[(false,eval e X.env)]:=by rfl) :
  PE X (.Call (.Name "max" p) [e] [⟨some "default",d,kp⟩] pos) (Zm X.K r o):=by
 intro c s S H Q I h;refine eQ (sQ I T U boot_max ?_ (by decide) (by decide));have D:PK X [⟨some "default",d,kp⟩] (tL o uN):=Tw hd BM;have B:PA X [e] (tL r uN):=sR J lO j;refine callWith_kw (e:=e) (rest:=[]) (hO (B pos c s S H _ I h) λus s1 i=>?_) (by rw[j];rfl) (by rw[j];rfl) rfl rfl;obtain⟨xs,V,W,r1,q1⟩:=i;refine hO (D pos c s1 S V _ W q1) λws s2 i=>?_
 obtain⟨ys,F,z,A,q2⟩:=i;obtain⟨l,E,y,rfl,rfl,M,N,O⟩:=q2;obtain⟨u,rfl,ru⟩:=nM r1;obtain⟨v,rfl,rv⟩:=nM A;cases ru;obtain⟨w,R,P,hz⟩:=z.list M;have G:=R.length;rw[aB] at G;show wpAny _ _ (call (.builtin "max") [.ref l] [(Str.ofString "default",v)]) _ _ s2;have toks:∃ b:Aa (Int×Tok),w=(b.map λx=>Value.int x.1 x.2)/\b.map Prod.fst=E:=by
  clear P hz N O M;induction E generalizing w with
  | nil=>exact⟨[],List.length_eq_zero_iff.mp G.symm,rfl⟩
  | cons n E ih =>
   cases R with
   | cons q A =>
    obtain⟨t,rfl⟩:=q;obtain⟨b,rfl,e⟩:=ih _ A (by simpa using A.length);exact⟨(n,t)::b,rfl,by rw[<- e];rfl⟩
 obtain⟨b,rfl,f⟩:=toks;refine BU (vs:=b) (z.ok.hd C) P.isList rfl λh' k=>?_
 cases b with
 | nil=>exact⟨y,F,z.kept k,rv,N f.symm⟩
 | cons x b =>
  obtain⟨m,Y,wm,g,all⟩:=E9 b x;have e:yV v ((x::b).foldl tH none) = .int m.1 m.2:=by
   show yV v (b.foldl tH (some x))=_;rw[Y];rfl
  rw[e];refine⟨.int m.1,F,z.kept k,⟨m.2,rfl⟩,O m.1 ?_ λa L=>?_⟩
  .rw[<- f];exact aJ.mpr ⟨m,aF.mpr (wm.imp_left id),rfl⟩
  .rw[<- f] at L;obtain⟨p,Z,rfl⟩:=aJ.mp L;exact (aF.mp Z).elim (λq=>q▸g) (all p)
end
section
variable {X:Cx}
def Ee (j g:lK):lK:=λe k f=>j e k λr d=>g e d λh b=>match sd r,sd h with
 | some (.l i),some y=>∃ c,qE i=some c/\(c=[]->f (.v y) b)/\∀ m:Int,m∈c->(∀ a∈c,a<=m)->f (.v (.int m)) b
 | _,_=>False
theorem Ll (g:X.calm=true) (o:Gl X "max") (C:X.mg "max" = none) (j:PD X e U) (hd:PD X d J) (I:starEach [e] X.env=[(false,eval e X.env)]:=by rfl) :
  PD X (.Call (.Name "max" p) [e] [⟨some "default",d,kp⟩] pos) (Ee U J) :=
 (DK g o C j hd I).mono λσ H Q n=>n.elim λB V T Φ E hd G k=>⟨B,V,T,_,E,hd,G,λr q x W K d1 w=>⟨B,q,(r,some x)::T,_,K,d1,w,λR f y s u d2 b=>by
  cases h:sd r with
  | none=>rw[h] at b;exact b.elim
  | some c =>
   cases i:sd R with
   | none=>rw[h,i] at b;cases c<;>exact b.elim
   | some Y =>
    rw[h,i] at b;cases c with
    | l xs =>
     obtain⟨N,F,L,M⟩:=b;obtain⟨v,O,P⟩:=d2.two h i;obtain⟨a,Z,rfl,_,t,S⟩:=O.lst_inv;rw[yD F S] at t;exact⟨a,N,y,rfl,rfl,eT.of t,λz=>k _ f y s u (v.push P) (L z),λm A D=>k _ f _ s u (v.push (.int m)) (M m A D)⟩
    | _=>exact b.elim⟩⟩
end
def Fw (K:kG) (a:Ad):It :=
 ⟨λi H=>∃ b x,eT K H a b/\b[i]?=some x,λi H v c=>∃ p x,H p=none/\v = .ref p/\c=upd H p (.t [.int i,x])/\∀ b,eT K H a b->b[i]?=some x,λi H=>∃ b,eT K H a b/\b.length<=i⟩
def Si (a e g:Ad) (i:Nat) (h:Ag):Prop:=(∃ old,IsEnum h e g i old)/\h.IsListIter g a i
theorem Wm {P:Ah}{K:kG}(g:e≠it) :
  Turn P w K (.Tuple j x1 pos) (Fw K a) [e,it] e (Si a e it) where
 mem:=by simp
 obj:=λi h st c m=>by
  obtain⟨⟨old,d⟩,⟨o4,f,c4,p⟩⟩:=st;simp only[aF,bE,eP] at m;rcases m with e | e<;>subst e
  .exact⟨_,d,λv z=>nomatch z⟩
  .exact⟨_,f,λv z=>by rw[p] at z;cases z⟩
 keep:=λi h R st k=>by
  obtain⟨⟨old,d⟩,f⟩:=st;exact⟨⟨old,k e (by simp) _ d⟩,f.at λo q=>k it (by simp) o q⟩
 item:=by
  intro X B hw A m i n s σ H E I t st D;subst B hw A;obtain⟨⟨old,d⟩,f⟩:=st;obtain⟨xs,x,u,W⟩:=D;obtain⟨G,N,L,_⟩:=I.list u;obtain⟨Q,F,M⟩:=N.get W;refine wpAny_pyNext_enum_item d f L.isList (x:=Q) (by simpa using F) g λR T U Y n4 n5=>?_
  refine⟨_,rfl,wpAny_letOwnedTupleGo_enum T λS J y=>?_⟩;have C:∀ c o,c∉[e,it]->s.heap.get? c=some o->S.get? c=some o:=λc o b q=>by
   simp only[aF,bE,eP,kF] at b;exact y.extBut c o b.1 (n5 c o b.1 b.2 q)
  have Z:s.heap.objs.size≠e:=λq=>cW _ (by have:=aM d;rw[<- q] at this;exact this)
  have nt:tE S s.heap.objs.size [.int i s.toks,Q].toArray:=⟨⟨_,y.extBut _ _ Z Y,rfl,_,rfl⟩,_,y.extBut _ _ Z Y,rfl⟩;have l:=I.movedT (t':=s.toks+1) (ys:=[.int i,x]) t C nt (.cons ⟨_,rfl⟩ (.cons M .nil)) (by show 2<=sizeLine;decide);refine⟨.ref s.heap.objs.size,_,l,rfl,⟨_,x,I.fresh,rfl,rfl,λaa q'=>by rw[I.list_inj q' u];exact W⟩,⟨⟨Q,?_⟩,?_⟩,λc b=>?_⟩
  .have:((i+1:Nat):Int)=(i:Int)+1:=by omega
   rw[this];exact J
  .exact U.at λo q=>y.extBut _ o (eC g) q
  .rw[kK]
   .exact (t c b).1
   .intro q;obtain⟨o,r⟩:∃ o,s.heap.get? c=some o:=by
     obtain⟨o4,O,_⟩:=f;simp only[aF,bE,eP] at b;rcases b with q | q<;>rw[q]
     .exact⟨_,d⟩
     .exact⟨_,O⟩
    have:=aM r;rw[q] at this;exact cW _ this
 done:=by
  intro X B hw A m i n s σ H E I t st D;subst B hw A;obtain⟨⟨old,d⟩,f⟩:=st;obtain⟨xs,u,V⟩:=D;obtain⟨G,N,L,_⟩:=I.list u;have lx:=N.length;refine wpAny_pyNext_enum_end (I.ok.hd m) d f L.isList (by simp;omega) λR k=>⟨rfl,I.moved (t':=s.toks) t λc o b q=>?_⟩
  simp only[aF,bE,eP,kF] at b;exact k c o b.2 q
 self:=λ_ _ _ _ _ st h=>by
  obtain⟨⟨old,d⟩,f⟩:=st;exact wpAny_pyIter_enum d h
section
variable {X:Cx}{K:kG}
def S1 (K:kG) (g:TA):TI:=λe H R=>g e H λc b=>∃ a,c=[.ref a]/\(∃ d,eT K b a d)/\R (Fw K a) b
theorem U4 (l:Gl X "enumerate") (o:X.mg "enumerate" = none) (j:PA X [e] C) (r:starEach [e] X.env=[(false,eval e X.env)]:=by rfl) :
  PI X (.Tuple g T J) (.Call (.Name "enumerate" p) [e] [] pos) (S1 X.K C):=by
 intro b s t H R I h;refine Call_ (sQ I l o boot_enumerate (cN (hO (j pos b s t H _ I h) λM f i=>?_) r rfl));obtain⟨N,k,d,E,B⟩:=i;obtain⟨a,rfl,⟨O,D⟩,q⟩:=B;obtain⟨u,rfl,F⟩:=nM E;cases F;obtain⟨x,L,A,_⟩:=d.list D;refine call_enumerate_list A.isList λw n y G z=>?_
 have v:Inv X b t k { f with heap:=w }:=d.kept (t':=f.toks) z;refine wpAny_pyIter_enum n ⟨_,[_,_],_,_,k,rfl,v,Wm (a:=a) (e:=f.heap.objs.size+1) (it:=f.heap.objs.size) (Nat.succ_ne_self _),⟨⟨_,n⟩,y⟩,λc m=>?_,q⟩;simp only[aF,bE,eP] at m;rcases m with e | e<;>(subst e;exact d.fpOk (by omega) (d.hok.fresh (by omega)))
def uA (g:Aa D):Aa D:=(List.range g.length).zipWith (λi d=>D.t [.int (i:Nat),d]) g
theorem K9 {xs:Aa D}{i:Nat}{d:D}(h:xs[i]?=some d):(uA xs)[i]?=some (.t [.int i,d]):=by
 obtain⟨a,rfl⟩:=aK.mp h;unfold uA;simp[a]
theorem Ck:(uA g).length=g.length:=by simp[uA]
theorem BL:YD K (Fw K a) (uA g) [(.v (.l g),some (.ref a))]:=by
 have key:∀ A H,uQ K A H [(.v (.l g),some (.ref a))]->∃ b,eT K H a b/\Reps K A H g b:=λA H ok=>by
  obtain⟨v,e,r⟩:=ok _ aG;cases e;obtain⟨q,b,e,_,c,f⟩:=r.lst_inv;cases e;exact⟨b,eT.of c,f⟩
 refine⟨rfl,λi H A h ok=>?_,λi H A x n h ok y=>?_,λi H A h ok=>?_⟩
 .obtain⟨b,c,f⟩:=key A H ok;rw[Ck] at h;exact⟨b,b[i]'(by rw[<- f.length];exact h),c,aI _⟩
 .obtain⟨b,c,f⟩:=key A H ok;obtain⟨p,z,k,rfl,rfl,m⟩:=y;obtain⟨d,hd,rd⟩:=f.getV (m b c);exact⟨_,K9 hd,.inr ⟨p,_,_,k,rfl,rfl,rfl,.cons (.int _) (.cons rd .nil)⟩⟩
 .obtain⟨b,c,f⟩:=key A H ok;rw[Ck] at h;exact⟨b,c,by rw[<- f.length];omega⟩
def Z9 (g:lK):sN:=λb e d=>g b e λr a=>match sd r with
 | some (.l c)=>d (uA c) a
 | _=>False
theorem BN (o:Gl X "enumerate") (C:X.mg "enumerate" = none) (j:PD X e U) (J:starEach [e] X.env=[(false,eval e X.env)]:=by rfl) (I:uS e=true:=by rfl) :
  uI X (.Tuple g x1 ps) (.Call (.Name "enumerate" p) [e] [] pos) (Z9 U) :=
 (U4 o C (lC j lO I) J).mono λA H R f=>f.elim λB w T z n hd q k=>⟨B,w,T,_,n,hd,q,λr h v i s d1 b=>by
  cases c:sd r with
  | none=>rw[c] at b;exact b.elim
  | some d =>
   rw[c] at b;have d2:=d1.thaw c;have t:=d2.valAt;cases d with
   | l y=>obtain⟨a,u,rfl,_,m,x⟩:=t.lst_inv;exact⟨a,rfl,⟨u,eT.of m⟩,k _ _ h [_] i s d2 BL b⟩
   | _=>exact b.elim⟩
end
end L2
namespace Lw
open PySem L2
abbrev mQ:=Aa (Af×Int)
abbrev nZ:=Aa (Af×Af×Aa Af)
noncomputable def gV (t:mQ):Aa (hH×D):=t.map λp=>(Sum.inr p.1,D.int p.2)
noncomputable def look (t:mQ) (x:Af):Int:=match t.find? (λp=>decide (p.1=x)) with
 | some p=>p.2
 | none=>0
def mx:Aa Int->Int
 | []=>0
 | a::r=>if mx r<=a then a else mx r
theorem Ya:look [] x=0:=rfl
theorem qK:look (p::t) x=if p.1=x then p.2 else look t x:=by
 unfold look;rw[eK];by_cases h:p.1=x<;>simp[h]
theorem uR:∀ (t:mQ) (x:Af),(x∈t.map (·.1)->pD (gV t) (Sum.inr x)=some (.int (look t x)))/\(x∉t.map (·.1)->pD (gV t) (Sum.inr x)=none/\look t x=0)
 | [],x=>⟨λh=>by simp at h,λ_=>⟨rfl,rfl⟩⟩
 | p::t,x=>by
  have a:=uR t x;have e:gV (p::t)=(Sum.inr p.1,D.int p.2)::gV t:=rfl;rw[e,Fv,qK];by_cases h:p.1=x
  .subst h;exact⟨λ_=>by rw[bA rfl,bA rfl],λn=>absurd (by simp) n⟩
  .have b:(Sum.inr p.1:hH)≠Sum.inr x:=λq=>h (Sum.inr.inj q)
   rw[bB b,bB h];refine⟨λm=>a.1 ?_,λm=>a.2 λq=>m (by simp only[aW,aF];exact .inr q)⟩;simp only[aW,aF] at m;exact m.resolve_left λq=>h q.symm
theorem Pd (t:mQ) (x:Af):(pD (gV t) (Sum.inr x)).getD (.int 0) = .int (look t x):=by
 by_cases h:x∈t.map (·.1)
 .rw[(uR t x).1 h];rfl
 .rw[((uR t x).2 h).1,((uR t x).2 h).2];rfl
theorem Ig (h:x∉t.map (·.1)):qQ (gV t) (Sum.inr x) (.int n)=gV (t++[(x,n)]):=by
 unfold qQ;rw[O5,((uR t x).2 h).1];simp[gV]
theorem Mp:∀ (u t:mQ),((t++u).map (·.1)).Nodup->tQ (gV t) (gV u)=gV (t++u)
 | [],t,_=>by simp[tQ,gV]
 | p::u,t,h=>by
  have a:p.1∉t.map (·.1):=λq=>by
   rw[aZ] at h;exact (bL.mp h).2.2 p.1 q p.1 (by simp) rfl
  have e:tQ (gV t) (gV (p::u))=tQ (qQ (gV t) (Sum.inr p.1) (.int p.2)) (gV u):=rfl;rw[e,Ig a,Mp u (t++[p]) (by simpa using h)];simp
theorem Ax (h:(t.map (·.1)).Nodup):tQ [] (gV t)=gV t:=by
 have:=Mp t [] (by simpa using h)
 simpa [gV] using this
theorem Ih (h:x∈t.map (·.1)):look (t++u) x=look t x:=by
 induction t with
 | nil=>simp at h
 | cons p t a =>
  rw[cL,qK,qK];by_cases e:p.1=x
  .rw[bA e,bA e]
  .rw[bB e,bB e];simp only[aW,aF] at h;exact a (h.resolve_left λq=>e q.symm)
theorem AQ (h:x∉t.map (·.1)):look (t++[(x,n)]) x=n:=by
 induction t with
 | nil=>rw[jN,qK,bA rfl]
 | cons p t a =>
  simp only[aW,aF,kF] at h;rw[cL,qK,bB λq=>h.1 q.symm];exact a h.2
theorem sS:∀ g:Aa Int,0<=mx g
 | []=>cO _
 | a::r=>by
  have:=sS r;unfold mx;split<;>omega
theorem tO:∀ {g:Aa Int}{a:Int},a∈g->a<=mx g
 | b::r,a,h=>by
  unfold mx;rcases aF.mp h with rfl | h
  .split<;>omega
  .have:=tO h;split<;>omega
theorem wG:∀ g:Aa Int,mx g=0\/mx g∈g
 | []=>.inl rfl
 | a::r=>by
  unfold mx;split
  .exact .inr aG
  .exact (wG r).imp id λh=>aN _ h
theorem vZ (h:m=0\/m∈ns) (g:0<=m) (j:∀ a∈ns,a<=m):m=mx ns:=by
 have b:m<=mx ns:=h.elim (λe=>by rw[e];exact sS ns) tO;have c:mx ns<=m:=(wG ns).elim (λe=>by rw[e];exact g) (j _);omega
theorem Hv:∀ {xs:Aa j},(∀ x∈xs,f x<=g x)->mx (xs.map f)<=mx (xs.map g)
 | [],_=>cO _
 | x::xs,h=>by
  have b:=h x (by simp);have c:=Hv (xs:=xs) λy a=>h y (by simp[a])
  simp only[aW,mx];split<;>split<;>omega
def oD:mQ->mQ->Prop:=Paired λ(p q:Af×Int)=>p.1=q.1/\p.2<=q.2
theorem oD.look (h:oD t u) (x:Af):look t x<=Lw.look u x:=by
 unfold oD at h;induction h with
 | nil=>exact cO _
 | @cons p q t u h r a =>
  rw[qK,qK,<- h.1];split
  .exact h.2
  .exact a
def qT (t:mQ) (g:Af×Af×Aa Af):mQ:=t++[(g.1,mx (g.2.2.map λo=>1+look t o))]
def tbl (ins:Aa Af) (g:nZ) (pH:Af->Int):mQ:=g.foldl qT (ins.map λn=>(n,pH n))
theorem oD.snoc (h:oD t u) (g:m<=n):oD (t++[(x,m)]) (u++[(x,n)]):=by
 unfold oD at h |-;induction h with
 | nil=>exact .cons ⟨rfl,g⟩ .nil
 | cons h r a=>exact .cons h a
theorem oD.fold:∀ (j:nZ){t u:mQ},oD t u->oD (j.foldl qT t) (j.foldl qT u)
 | [],_,_,h=>h
 | g::j,t,u,h=>oD.fold j (h.snoc (Hv λo _=>by have:=h.look o;omega))
theorem oD.ins {f g:Af->Int}(h:∀ x,f x<=g x):∀ j:Aa Af,oD (j.map λn=>(n,f n)) (j.map λn=>(n,g n))
 | []=>.nil
 | x::j=>.cons ⟨rfl,h x⟩ (oD.ins h j)
theorem Ps (h:∀ x,f x<=g x) (x:Af):look (tbl ins j f) x<=look (tbl ins j g) x:=(oD.fold j (oD.ins h ins)).look x
theorem Hj (h:∀ p∈t,0<=p.2) (x:Af):0<=look t x:=by
 induction t with
 | nil=>exact cO _
 | cons p t b =>
  rw[qK];split
  .exact h p (by simp)
  .exact b λq a=>h q (by simp[a])
theorem Nb:∀ (j:nZ){t:mQ},(∀ p∈t,0<=p.2)->∀ p∈j.foldl qT t,0<=p.2
 | [],_,h=>h
 | g::j,t,h=>Nb j λp a=>by
  rcases aV.mp a with q | q
  .exact h p q
  .rw[aQ.mp q];exact sS _
theorem vM (h:∀ x,0<=f x) (x:Af):0<=look (tbl ins gs f) x:=Hj (Nb gs λp a=>by
 obtain⟨n,_,rfl⟩:=aJ.mp a;exact h n) x
theorem K4:∀ (j:nZ) (t:mQ),(j.foldl qT t).map (·.1)=t.map (·.1)++j.map (·.1)
 | [],t=>by simp
 | g::j,t=>by rw[fO,K4 j];simp[qT]
theorem xR (ins:Aa Af) (g:nZ) (f:Af->Int):(tbl ins g f).map (·.1)=ins++g.map (·.1):=by
 unfold tbl;rw[K4];simp[cG]
def pH (al:Aa (Af×Af)) (t:mQ):mQ:=al.map λp=>(p.2,look t p.1)
def Cr (ins:Aa Af) (g:nZ) (al:Aa (Af×Af)):Nat->mQ
 | 0=>al.map λp=>(p.2,0)
 | i+1=>pH al (tbl ins g (look (Cr ins g al i)))
def Tb (ins:Aa Af) (g:nZ) (al:Aa (Af×Af)) (i:Nat):mQ:=tbl ins g (look (Cr ins g al i))
section
theorem Nu (h:∀ x,look t x<=look u x):∀ al:Aa (Af×Af),oD (pH al t) (pH al u)
 | []=>.nil
 | p::al=>.cons ⟨rfl,h p.1⟩ (Nu h al)
theorem Nj (h:∀ x,0<=look t x):∀ al:Aa (Af×Af),oD (al.map λp=>(p.2,0)) (pH al t)
 | []=>.nil
 | p::al=>.cons ⟨rfl,h p.1⟩ (Nj h al)
theorem vO:∀ (i:Nat) (x:Af),0<=look (Cr ins gs al i) x
 | 0,x=>Hj (λp a=>by
  obtain⟨q,_,rfl⟩:=aJ.mp a;exact cO _) x
 | i+1,x=>Hj (λp a=>by
  obtain⟨q,_,rfl⟩:=aJ.mp a;exact vM (vO i) _) x
theorem Ug (i:Nat) (x:Af):0<=look (Tb ins g al i) x:=vM (vO i) x
theorem Mz:∀ (i:Nat) (x:Af),look (Cr ins g al i) x<=look (Cr ins g al (i+1)) x
 | 0,x=>(Nj (Ug 0) al).look x
 | i+1,x=>(Nu (λy=>Ps (Mz i) y) al).look x
theorem T9 (i:Nat) (x:Af):look (Tb ins g al i) x<=look (Tb ins g al (i+1)) x:=Ps (Mz i) x
theorem Br (i:Nat):(Cr ins gs al i).map (·.1)=al.map (·.2):=by
 cases i<;>simp[Cr,pH,cG]
def Mx (ins:Aa Af) (g:nZ) (al:Aa (Af×Af)) (os:Aa Af) (i:Nat):Int:=mx (os.map (look (Tb ins g al i)))
theorem Zd {os es ns:Aa Af}{f:Af->Int}(C:∀ x,0<=f x) (j:∀ x∈ns,x∈os) (l:∀ x∈es,x∈os) (o:∀ x∈os,x∈ns\/x∈es){m:Int}(g:m=mx (ns.map f)\/m∈es.map f) (p:mx (ns.map f)<=m) (r:∀ a∈es.map f,a<=m):m=mx (os.map f):=by
 have d:=sS (ns.map f);refine vZ ?_ (by omega) λa h=>?_
 .rcases g with rfl | g
  .rcases wG (ns.map f) with e | e
   .exact .inl e
   .obtain⟨x,b,c⟩:=aJ.mp e;exact .inr (by rw[<- c];exact aJ.mpr ⟨x,j x b,rfl⟩)
  .obtain⟨x,b,c⟩:=aJ.mp g;exact .inr (by rw[<- c];exact aJ.mpr ⟨x,l x b,rfl⟩)
 .obtain⟨x,b,rfl⟩:=aJ.mp h;rcases o x b with q | q
  .exact jR (tO (aJ.mpr ⟨x,q,rfl⟩)) p
  .exact r _ (aJ.mpr ⟨x,q,rfl⟩)
end
end Lw
namespace L2
open PySem PySem.Spec PyProof.Rows Lw
section
variable {X:Cx}{K:kG}
theorem W4:lX X (.type "int") (λg H Q=>∃ (x:Af) (n:Int),g=[.str x]/\intText? x=some n/\x.length<=640/\Q (.int n) H):=by
 intro a s k H g i Q I r h;obtain⟨x,n,rfl,c,d,q⟩:=h;obtain⟨u,rfl,f⟩:=nM r;obtain⟨t,rfl⟩:=f;exact PySem.W.KIN.call_text c d ⟨.int n,H,I.kept (t':=s.toks+1) λb o e=>e,⟨_,rfl⟩,q⟩
def Qo:OC:=λa b=>match a with
 | [.str x]=>∃ n,intText? x=some n/\x.length<=640/\b (.v (.int n))
 | a=>Fz a b
def Hn:Aa V->Hp->VK->Prop:=λa H Q=>((∃ i,a=[.int i]/\Q (.int i) H)\/∃ k,a=[.b k]/\Q (.int (if k then 1 else 0)) H)\/∃ (x:Af) (n:Int),a=[.str x]/\intText? x=some n/\x.length<=640/\Q (.int n) H
theorem Rs:lX X (.type "int") Hn:=AN.or W4
theorem Ut:pU K Hn Qo:=by
 intro B L H b e f Q hd c a k;have two:Fz b f->Hn e H Q:=λa=>.inl (W3 B L H b e f Q hd c a k)
 cases b with
 | nil=>exact two a
 | cons d b =>
 cases d<;>first | exact two a | skip
 cases b with
 | cons _ _=>exact two a
 | nil =>
 obtain⟨x,rfl,m⟩:=rM c;have:=m.str_inv;subst this;obtain⟨n,h,i,a⟩:=a;exact .inr ⟨_,n,rfl,h,i,k _ _ H a (hd.pushF (.int _))⟩
end
section
theorem Hi (J:Aa α) (T out:α->D) (p:α->Bool) (C:Aa Sl) (ab:∀ Ψ:Aa D->Aa Sl->Prop,Ψ (J.map T) C->ι dk ρ Ψ) (hl:J.length<=100000)
  (hs:∀ (i:Nat) x (I:Aa D) (Nx:Aa D->Aa Sl->Prop),J[i]?=some x->I.length<100000->(p x=true->Nx (I++[out x]) (nA j C))->(p x=false->Nx I (nA j C))->g (T x) (List.replicate n Sl.n++nA j C) λac=>tt dk ac λb U=>if b=true then te dk U λr ae=>match sd r with
   | some c=>I.length<100000/\Nx (I++[c]) (ae.drop n)
   | none=>False
   else Nx I (U.drop n))
  (aa:Φ (.o (.l ((J.filter p).map out))) (nP j (nA j C) C)):zU n j ι g tt te dk ρ Φ:=by
 refine ab _ ⟨λi I a=>I=((J.take i).filter p).map out/\a=nA j C,⟨by simp,rfl⟩,?_,?_⟩
 .rintro i d I a hd _ ⟨f,h⟩;rw[bG] at hd;cases e:J[i]? with
  | none=>rw[e] at hd;cases hd
  | some x =>
   rw[e] at hd;cases hd;obtain⟨s,_⟩:=aK.mp e;have k:(J.take (i+1)).filter p=(J.take i).filter p++(if p x=true then [x] else []):=by
    rw[bI,e,List.filter_append];by_cases q:p x=true<;>simp[q]
   have len:I.length<100000:=by
    rw[f,aB];have m:=List.length_filter_le p (J.take i);rw[bQ] at m;omega
   rw[h];refine hs i x I (λI a=>I=((J.take (i+1)).filter p).map out/\a=nA j C) e len (λq=>⟨?_,rfl⟩) λq=>⟨?_,rfl⟩
   .rw[k,bA q,f,aZ];rfl
   .rw[k,bB (by rw[q];decide),gJ];exact f
 .rintro I a _ ⟨f,h⟩;rw[f,h,aB,List.take_length];exact aa
theorem oB (I:Aa α) (C out:α->D) (p:Aa Sl) (aa:∀ Ψ:Aa D->Aa Sl->Prop,Ψ (I.map C) p->ι dk ρ Ψ) (hl:I.length<=100000)
  (hs:∀ (i:Nat) x (J:Aa D) (T:Aa D->Aa Sl->Prop),I[i]?=some x->J.length<100000->T (J++[out x]) (nA j p)->g (C x) (List.replicate n Sl.n++nA j p) λab=>te dk ab λr ac=>match sd r with
   | some c=>J.length<100000/\T (J++[c]) (ac.drop n)
   | none=>False)
  (U:Φ (.o (.l (I.map out))) (nP j (nA j p) p)):zU n j ι g Pa te dk ρ Φ:=by
 refine Hi I C out (λ_=>true) p aa hl (λi x J T e a b _=>hs i x J T e a (b rfl)) ?_;have:I.filter (λ_=>true)=I:=List.filter_eq_self.mpr λ_ _=>rfl
 rw[this];exact U
end
end L2
namespace Lw
open PySem L2
theorem yF:∀ {l:Aa g},l.Nodup->(∀ x∈l,∀ y∈l,f x=f y->x=y)->(l.map f).Nodup
 | [],_,_=>.nil
 | a::l,k,h=>by
  obtain⟨d,i⟩:=bU.mp k;refine bU.mpr ⟨λm=>?_,yF i λx c y b=>h x (aN _ c) y (aN _ b)⟩;obtain⟨y,b,e⟩:=aJ.mp m;have:=h a aG y (aN _ b) e.symm;subst this;exact d b
def mT (i:Nat):Stmt:=PySem.Challenge.pw_laidcells_k30_whole_ways_of_loops.main.body.getD i (.Pass ⟨0,0,0,0⟩)
abbrev Bk:Stmt:=mT 1
abbrev Bl:Stmt:=mT 3
abbrev Cs:Stmt:=mT 4
abbrev C1:Stmt:=mT 5
abbrev xW:Stmt:=mT 6
abbrev xV:Stmt:=mT 7
abbrev wN:Stmt:=mT 8
abbrev Cf:Stmt:=mT 9
abbrev A5:Stmt:=mT 10
abbrev Aw:Stmt:=mT 11
abbrev Dg:Stmt:=mT 12
abbrev Cq:Stmt:=mT 13
abbrev A2:Stmt:=mT 15
abbrev vA:Stmt:=mT 16
abbrev xS:Stmt:=mT 17
abbrev C0:Stmt:=mT 18
abbrev Bo:Stmt:=mT 19
abbrev C6:Stmt:=mT 20
abbrev Cz:Stmt:=mT 21
abbrev Bn:Stmt:=mT 22
abbrev Dv:Stmt:=mT 23
abbrev Ch:Stmt:=mT 24
abbrev N6:Stmt:=mT 25
abbrev yZ:Stmt:=mT 25
structure Txt (mg:Str->Option Value):Prop where
 len:mg "len" = none
 range:mg "range" = none
 sum:mg "sum" = none
 min:mg "min" = none
 max:mg "max" = none
 tuple:mg "tuple" = none
 list:mg "list" = none
 set:mg "set" = none
 dict:mg "dict" = none
 int:mg "int" = none
 str:mg "str" = none
 zip:mg "zip" = none
 enumerate:mg "enumerate" = none
 all:mg "all" = none
 any:mg "any" = none
 isinstance:mg "isinstance" = none
 sorted:mg "sorted" = none
 abs:mg "abs" = none
 reversed:mg "reversed" = none
 bool:mg "bool" = none
structure Gd (K:kG) (mg:Str->Option Value) (x:Str) (st:Stmt) (ps:List Str) (f:Addr) (fd:FuncData):Prop where
 F:Fun K x x st f fd
 m:mg x=some (.ref f)
 k:PySem.W.keepIn K (.ref f)=true
 b:tU K fd ps []
def Kn (P:Ah) (w:World) (K:kG) (g:Af->Ab Ac) (base:Ag) (k:Nat) (x:Af) (st:Stmt) (j:Aa Af) (R:RD):Prop:=∃ f fd,Gd K g x st j f fd/\FnOk P w K g base mH k f fd j (vX K R)
theorem mP {X:Cx}{st:Stmt}{R:RD}(G:Kn X.prog X.w X.K X.mg X.base k x st T R) (I:Room m X.A) (o:pS X (e::l) J) (C:k<=m:=by decide) (r:Gl X x:=by rfl) (g:(x == ("__debug__" : Af))=false:=by decide)
  (j:StB X e l pos:=by exact {}):PD X (.Call (.Name x p) (e::l) [] pos) (Hd R J):=G.elim λ_ h=>h.elim λ_ h=>Rx h.2 (I.mono C) r h.1.m h.1.k h.1.b o g j
def oJ (P:Ah) (w:World) (K:kG) (g:Af->Ab Ac) (base:Ag) (k:Nat) (x:Af) (st:Stmt) (j:Aa Af) (R:RD):Prop:=∀ f fd,Fun K x x st f fd->FnOk P w K g base mH k f fd j (vX K R)
theorem pF {P:Ah}{K:kG}{st:Stmt}{R:RD}(S:FnScope N J (lJ st))
  (j:∀ (f:Ad) (g:Ac) (A:Around) (l:Aa Env) (s:Ae) (H:Hp) (E:XK) (C:Aa Ad) (o:Aa D) (r:Sl->Prop),Room k (A.deeper (PyProof.Rows.envOfC x (lJ st) s.heap.objs.size f g))->(A.deeper (PyProof.Rows.envOfC x (lJ st) s.heap.objs.size f g)).units+1<cLine->R C o r ->∃ t,sM (uH mH P w K T base N x (lJ st) f g A l s H E).nox (pP st) t/\t C { nx:=λ_=>r (.v .e),rt:=r } (vJ N o)) (I:J.length<=N.length:=by decide) (p:∀ C o r,R C o r->o.length=J.length:=by rintro _ _ _ h;repeat' (rcases h with⟨i,h⟩;try (subst i;rfl))):oJ P w K T base (k+1) x st J R:=λ_ _ F=>F.okD S p I λ_ _ _ _ _ _ _ _ _ a=>j _ _ _ _ _ _ _ _ _ _ a (M5 a)
def Db:Sp:=λb H Q _=>∃ (d c:Ad) (m:Int),b=[.ref d,.int m]/\DeckAt H d c/\0<m/\m<4611686018427387904/\∀ (r:Int) (a:Hp),0<=r->r<m->DeckAt a d c->lS d c H a->Q (.int r) a
section
variable {P:Ah}{K:kG}
theorem Gq:FnScope ["deck","many","at","cell"] ["deck","many"] (lJ vA):=⟨rfl,rfl,rfl,by decide +kernel,rfl,by decide +kernel,by decide +kernel⟩
theorem G3 (F:Fun K "_law_take" "_law_take" vA f fd) (T:Txt g):FnOk P w K g base mH 1 f fd ["deck","many"] Db:=by
 refine F.ok Gq (λR H Q E h=>?_) (λG A x s H R Q E X h=>?_)
 .obtain⟨d,c,m,rfl,_⟩:=h;rfl
 .obtain⟨d,c,m,rfl,D,n,W,k⟩:=h;obtain⟨a,p,t,y,L,M⟩:=id D.ex;have q:=D.ne;refine⟨_,nC (nI (i:=2) Gq.nd rfl (Or.inl rfl) (lH pT (pG qZ (pv 0) lW (λ_ _=>rfl)) (sX wM (by rfl) T.len bP (sR (pG qZ (pv 0) lW (λ_ _=>rfl)) lO)))) (nC (zP (lH tJ (pG qZ (pv 0) lW (λ_ _=>rfl)) lW) (Cd (pv 0) lW C5)) (nC (nI (i:=3) Gq.nd rfl (Or.inl rfl) (pG qZ (pG qZ (pv 0) lW (λ_ _=>rfl)) (pv 2) (λ_ _=>rfl))) (nC (zP (lH Z5 (pv 3) (pv 1)) (Cd (pG qZ (pv 0) lW (λ_ _=>rfl)) (pv 2) C5)) (qG (uE (lH pT (pv 3) (pv 1))))))),?_⟩;refine⟨_,rfl,d,_,_,_,rfl,rfl,eT.of t,rfl,_,rfl,d,_,_,_,rfl,rfl,eT.of t,rfl,c,_,rfl,.inl (eT.of y),_,_,rfl,rfl,?_,?_⟩
  .rw[aB];omega
  .rw[aB];have B:=fP p (show (a.length:Int)≠0 by omega);have S:=eV p (show (0:Int)<a.length by omega);obtain⟨j,z⟩:=dB B;have v:j<a.length:=by omega
   have u:(a.map V.int)[j]?=some (V.int a[j]):=by simp[v]
   refine⟨_,rfl,d,_,_,_,rfl,rfl,eT.of t,rfl,_,_,rfl,rfl,_,rfl,d,_,_,1,rfl,rfl,t,rfl,?_⟩;have g1:upd H d (.l ([V.ref c,V.int p].set 1 (V.int (p+1)))) d=some (.l [.ref c,.int (p+1)]):=lB;have g2:upd H d (.l ([V.ref c,V.int p].set 1 (V.int (p+1)))) c=some (.l (a.map V.int)):=by rw[kK q.symm];exact y
   refine⟨_,rfl,d,_,_,_,rfl,rfl,eT.of g1,rfl,_,rfl,c,_,_,V.int a[j],rfl,rfl,eT.of g2,(by rw[z];exact pV u),?_⟩
   .refine⟨_,rfl,_,rfl,_,_,rfl,rfl,⟨n,by omega⟩,_,rfl,d,_,_,_,rfl,rfl,eT.of g1,rfl,_,rfl,c,_,_,j,rfl,rfl,g2,?_,?_⟩
    .rw[z,aB];unfold pW;rw[bA (by omega),bA (by omega)];simp
    .refine⟨_,rfl,_,rfl,_,_,rfl,rfl,n,?_⟩;refine k _ _ (fP _ (by omega)) (eV _ n) ⟨a.set j (a[j]/m),p+1,?_,?_,by rw[bH];exact L,by rw[bH];exact M⟩ ?_
     .rw[kK q];exact g1
     .rw[lB,List.map_set]
     .intro b o e N O;rw[kK O,kK N];exact e
end
theorem mZ.new (h:H p=none):mZ H (upd H p o):=λb u e=>by rw[kK (lE e h)];exact e
theorem AF (g:Aa Int) (lo j:Ab Int):∃ l:Aa Int,rV (g.map V.int) lo j=l.map V.int/\l.length<=g.length:=by
 refine⟨(g.drop (HT.sIx g.length 0 lo)).take (HT.sIx g.length g.length j-HT.sIx g.length 0 lo),?_,?_⟩
 .unfold rV;rw[List.length_map,List.map_take,List.map_drop]
 .rw[bQ,eR];omega
def K7 (K:kG):Sp:=λf H Q _=>∃ (a:Ad) (e:Aa Int),f=[.ref a]/\eT K H a (e.map V.int)/\e.length<=63/\∀ (d c:Ad) (b:Hp),DeckAt b d c->H d=none->H c=none->mZ H b->Q (.ref d) b
section
variable {P:Ah}{K:kG}
theorem yG:FnScope ["script","cells","k","mixed"] ["script"] (lJ A2):=⟨rfl,rfl,rfl,by decide +kernel,rfl,by decide +kernel,by decide +kernel⟩
theorem BF (F:Fun K "_law_deck" "_law_deck" A2 f fd) (T:Txt mg):FnOk P w K mg base mH 1 f fd ["script"] (K7 K):=by
 refine F.ok yG (λvs H Q E h=>?_) (λab A j s H vs Q E hr h=>?_)
 .obtain⟨a,t,rfl,_⟩:=h;rfl
 .obtain⟨a,t,rfl,W,aa,k⟩:=h;refine⟨_,nC (nI (i:=1) yG.nd rfl (Or.inl rfl) (lH zE (zT E7 (pv 0) yW (xY lW)) (rA (sR (sX wM (by rfl) T.len bP (sR (pv 0) lO)) lO)))) (nC (Dm (uW As (lH pT (sX (Tc rfl) (by rfl) T.sum PyProof.Rows.boot_sum (sR (zT E7 (pv 0) yW (xY lW)) lO)) lW) lW (tG _)) (qG (Au dX rfl (wF rfl T.range (sR (sX wM (by rfl) T.len bP (sR (pv 1) lO)) lO)) (uK (i:=2) yG.nd rfl (Or.inl rfl)) (nC (nI (i:=3) yG.nd rfl (Or.inl rfl) (lH pT (lH tR (lH tJ (lH tJ (lH pT (pG qZ (pv 1) (pv 2) (λ_ _=>rfl)) lW) (lH tR lW (pv 2))) lW) lW) lW)) (nC (nI (i:=3) yG.nd rfl (Or.inl rfl) (lH pT (lH tR (lH pT (lH tJ (lH tR (pv 3) (pv 3)) (lH tR lW (pv 2))) lW) lW) lW)) (qG (zP (lH tJ (lH tR (lH tR (pv 3) (pv 3)) lW) (lH pT (lH tR (pv 3) lW) lW)) (Cd (pv 1) (pv 2) C5))))))) Cp) (qG (uE (rA (sR (pv 1) (sR lW lO)))))),?_⟩;obtain⟨q,em,ac⟩:=AF t none (some 63);refine⟨_,rfl,_,rfl,a,_,rfl,W,λG n1=>?_⟩;have r:mZ H (upd H G (.l (rV (t.map V.int) none (some 63)))):=mZ.new n1;rw[em] at r |-;refine⟨_,rfl,a,_,rfl,.inl (r.seq W),(by show 1<=sizeLine;decide),λp n2=>?_⟩;have s2:=r.trans (mZ.new (o:=.l [V.int ((t.map V.int).length:Nat)]) n2);have q1:upd (upd H G (.l (q.map V.int))) p (.l [V.int ((t.map V.int).length:Nat)]) G=some (.l (q.map V.int)):=by rw[kK (lE lB n2)];exact lB
  refine⟨G,p,_,_,rfl,rfl,q1,lB,?_,λc nc=>?_⟩
  .rw[aB];exact bM (show q.length+1<=64 by omega) (by decide)
  have L:=s2.trans (mZ.new (o:=.l (q.map V.int++[V.int ((t.map V.int).length:Nat)])) nc);have ec:q.map V.int++[V.int ((t.map V.int).length:Nat)]=(q++[((t.map V.int).length:Int)]).map V.int:=by simp
  rw[ec] at L |-;generalize Y:q++[((t.map V.int).length:Int)]=u at L;have D:0<u.length/\u.length<=64:=by rw[<- Y,bC,dP];omega
  have B:H c=none:=s2.free nc;generalize S:upd (upd (upd H G (.l (q.map V.int))) p (.l [V.int ((t.map V.int).length:Nat)])) c (.l (u.map V.int))=J at L;have U:J c=some (.l (u.map V.int)):=by rw[<- S];exact lB
  have fin:∀ (m:Aa Int) (v x:Ab V) (O:Hp),mZ H O->O c=some (.l (m.map V.int))->0<m.length->m.length<=64 ->
    (Oz (Iu (tL (oV 1) (tL (tC (.int 0)) uN)))) { nx:=λ_ H'=>Q .e H',rt:=Q } [some (.ref a),some (.ref c),v,x] O:=by
   intro m v x O N y l1 l2;refine⟨_,rfl,(by show 2<=sizeLine;decide),λd g=>?_⟩;refine k d c _ ⟨m,0,lB,by rw[kK (lE y g)];exact y,l1,by omega⟩ (N.free g) B (N.trans (mZ.new g))
  refine⟨_,rfl,_,rfl,a,_,rfl,L.seq W,λp4 n4=>?_⟩;rw[em];have N:=L.trans (mZ.new (o:=.l (q.map V.int)) n4);have y:upd J p4 (.l (q.map V.int)) c=some (.l (u.map V.int)):=by rw[kK (lE U n4)];exact U
  refine⟨p4,q,rfl,eT.of lB,_,_,rfl,rfl,(by show (0:Int)<2;decide),rfl,_,rfl,?_⟩;refine zF (λ_=>?_) (λ_=>?_)
  .refine⟨_,rfl,c,_,rfl,.inl (eT.of y),_,rfl,by omega,by rw[aB];omega,?_⟩;rw[aB,eD];refine Ge (lo:=0) (n:=u.length) (λi I z=>∃ (m:Aa Int) (v x:Ab V),I=[some (.ref a),some (.ref c),v,x]/\mZ H z/\z c=some (.l (m.map V.int))/\m.length=u.length)
    ⟨u,none,none,rfl,N,y,rfl⟩ ?_ ?_
   .rintro i I z hi ⟨m,v,x,rfl,C,R,Z⟩;have X:(m.map V.int)[i]?=some (V.int (m[i]'(by omega))):=by simp[Z,hi]
    refine⟨_,rfl,_,rfl,c,_,_,V.int (m[i]'(by omega)),rfl,rfl,eT.of R,(by rw[Int.zero_add];exact pV X),_,_,rfl,rfl,(by show (0:Int)<2147483587;decide),_,rfl,_,_,rfl,rfl,.inl (by decide),_,_,rfl,rfl,_,_,rfl,rfl,_,_,rfl,rfl,.inr (by decide),_,_,rfl,rfl,(by show (0:Int)<2147483629;decide),?_⟩;refine⟨_,rfl,_,rfl,_,_,rfl,rfl,.inl ?_,_,rfl,_,_,rfl,rfl,.inl (by decide),_,_,rfl,rfl,_,_,rfl,rfl,(by show (0:Int)<2147483563;decide),_,_,rfl,rfl,.inr (by decide),_,_,rfl,rfl,(by show (0:Int)<2147483549;decide),?_⟩
    .have b0:=fP ((m[i]'(by omega)%2147483587+853*(0+(i:Int))+11)*69621) (show (2147483629:Int)≠0 by decide);have b1:=eV ((m[i]'(by omega)%2147483587+853*(0+(i:Int))+11)*69621) (show (0:Int)<2147483629 by decide);exact⟨by omega,by omega⟩
    generalize hM:((m[i]'(by omega)%2147483587+853*(0+(i:Int))+11)*69621%2147483629)=M;have b0:=fP ((M*M+31*(0+(i:Int)))%2147483563*16807) (show (2147483549:Int)≠0 by decide);have b1:=eV ((M*M+31*(0+(i:Int)))%2147483563*16807) (show (0:Int)<2147483549 by decide);refine⟨_,rfl,_,rfl,_,_,rfl,rfl,.inl ?_,_,_,rfl,rfl,.inr (by decide),_,rfl,_,_,rfl,rfl,.inl ?_,_,_,rfl,rfl,(by show (0:Int)<2147483579;decide),_,_,rfl,rfl,_,rfl,_,rfl,c,_,_,i,rfl,rfl,R,?_,?_⟩
    .exact⟨by omega,by omega⟩
    .exact⟨by omega,by omega⟩
    .rw[aB];unfold pW;rw[bA (by omega),bA (by omega)]
     congr 1
     omega
    .refine⟨m.set i _,_,_,rfl,?_,by rw[lB,List.map_set],by rw[bH];exact Z⟩;intro b o e;rw[kK (lE e B)];exact C b o e
   .rintro I z ⟨m,v,x,rfl,C,R,Z⟩;exact fin m v x z C R (by omega) (by omega)
  .exact fin u none none _ N y D.1 D.2
end
structure LS (n m:Nat) (x:Str):Prop where
 az:∀ c∈x.cps.toList,97<=c/\c<=122
 lo:n<=x.length
 hi:x.length<=m
theorem Yp (x y:Af):(x++y).cps.toList=x.cps.toList++y.cps.toList:=by
 show (x.cps++y.cps).toList=_;simp
theorem Nt (x y:Af):(x++y).length=x.length+y.length:=by
 show (x.cps++y.cps).size=_;simp[Str.length]
theorem LS.app (h:LS a b x) (g:LS c d y):LS (a+c) (b+d) (x++y) :=
 ⟨λz e=>by rw[Yp] at e;exact (aV.mp e).elim (h.az z) (g.az z),by rw[Nt];have:=h.lo;have:=g.lo;omega,by rw[Nt];have:=h.hi;have:=g.hi;omega⟩
theorem LS.weak (h:LS a b x) (g:c<=a) (j:b<=d):LS c d x:=⟨h.az,bM g h.lo,bM h.hi j⟩
noncomputable def A3 (n m:Nat) (x:Af):Bool:=x.cps.toList.all (λc=>decide (97<=c)&&decide (c<=122))&&decide (n<=x.length)&&decide (x.length<=m)
theorem LS.of (h:A3 n m x=true):LS n m x:=by
 unfold A3 at h;simp only[bX,eA,jW] at h;exact⟨h.1.1,h.1.2,h.2⟩
theorem LS.cutL (h:LS n n z) (g:k<=n):LS k k (qF z none (some (k:Int))):=by
 have e:z.length=n:=kD h.hi h.lo;have d:HT.sIx z.length z.length (some (k:Int))=k:=by rw[HT.sIx_nat];omega
 have a:(qF z none (some (k:Int))).cps.toList=z.cps.toList.take k:=by
  show ((z.cps.toList.drop (HT.sIx z.length 0 none)).take _).toArray.toList=_;rw[d,HT.sIx_none];simp
 have f:(qF z none (some (k:Int))).length=k:=by
  rw[<- uO,a,bQ,uO];omega
 exact⟨λc b=>by rw[a] at b;exact h.az c (List.mem_of_mem_take b),by omega,by omega⟩
theorem LS.cutR (h:LS n n z) (g:k<=n):LS (n-k) (n-k) (qF z (some (k:Int)) none):=by
 have e:z.length=n:=kD h.hi h.lo;have d:HT.sIx z.length 0 (some (k:Int))=k:=by rw[HT.sIx_nat];omega
 have a:(qF z (some (k:Int)) none).cps.toList=z.cps.toList.drop k:=by
  show ((z.cps.toList.drop (HT.sIx z.length 0 (some (k:Int)))).take _).toArray.toList=_;rw[d,HT.sIx_none];simp only[List.toList_toArray];rw[aO];rw[eR,uO];omega
 have f:(qF z (some (k:Int)) none).length=n-k:=by
  rw[<- uO,a,eR,uO];omega
 exact⟨λc b=>by rw[a] at b;exact h.az c (List.mem_of_mem_drop b),by omega,by omega⟩
theorem LS.sign (h:97<=c/\c<=122):LS 1 1 ⟨#[c]⟩:=⟨λd hd=>by simp at hd;subst hd;exact h,aH _,aH _⟩
theorem Kv:∀ (g:Aa Af),(∀ y∈g,LS 1 1 y)->LS g.length g.length (Str.join "" g)
 | [],_=>⟨λc e=>(nomatch e),aH _,aH _⟩
 | [x],h=>h x aG
 | x::y::r,h=>by
  have b:=h x aG;have d:=Kv (y::r) λz f=>h z (aN _ f)
  have a:LS 0 0 (Str.ofString ""):=LS.of (by decide +kernel);have:=(b.app a).app d;show LS _ _ (x++(Str.ofString "")++Str.join "" (y::r));exact this.weak (by simp;omega) (by simp;omega)
theorem DO (g:0<=i) (l:i<xs.length):∃ v,lQ xs i=some v/\v∈xs:=by
 obtain⟨j,rfl⟩:=dB g;have a:j<xs.length:=by omega
 exact⟨xs[j],pV (aI a),cQ a⟩
theorem Jk {xs:Aa Af}{i:Int}(g:0<=i) (l:i<xs.length):∃ x,lQ (xs.map V.str) i=some (V.str x)/\x∈xs:=by
 obtain⟨j,rfl⟩:=dB g;have a:j<xs.length:=by omega
 exact⟨xs[j],pV (by simp[a]),cQ a⟩
def mG:Af := "abcdefghijklmnopqrstuvwxyz"
theorem E5:mG.length=26:=by decide +kernel
theorem Hu (g:0<=i) (j:i<26):∃ c,lQ mG.cps.toList i=some c/\97<=c/\c<=122:=by
 obtain⟨c,e,m⟩:=DO (xs:=mG.cps.toList) g (by rw[uO,E5];exact j);have h:LS 26 26 mG:=LS.of (by decide +kernel);exact⟨c,e,h.az c m⟩
noncomputable def oO:Aa Af:=["and","or","odd","most","not","one","nil","in","out"]
theorem Tj (h:x∈oO):LS 2 4 x:=by
 have:oO.all (A3 2 4)=true:=by decide +kernel
 exact LS.of (eA.mp this x h)
structure GoodName (x:Str):Prop where
 ls:LS 1 8 x
 nk:x∉oO
def Gs:Sp:=λa H Q _=>a=[]/\∀ l,H l=none->Q (.ref l) (upd H l (.l (oO.map V.str)))
def Me:Sp:=λe H Q _=>∃ (d c:Ad) (m:Nat),e=[.ref d,.int m]/\DeckAt H d c/\m<=40/\∀ (l:Ad) (b:Aa Af) (a:Hp),H l=none->a l=some (.l (b.map V.str))->b.length=m->(∀ x∈b,LS 1 8 x) ->
 DeckAt a d c->lS d c H a->Q (.ref l) a
theorem lS.free (k:lS d c H g) (j:l≠d) (p:l≠c) (h:g l=none):H l=none:=by
 cases e:H l with
 | none=>rfl
 | some o=>rw[k l o e j p] at h;cases h
theorem V8 {g:Aa Af}{n m:Nat}(h:∀ y∈g,y.length<=m) (j:g.length<=n):(g.map (·.length)).sum<=n*m:=by
 have:∀ g:Aa Af,(∀ y∈g,y.length<=m)->(g.map (·.length)).sum<=g.length*m:=by
  intro g;induction g with
  | nil=>intro _;simp
  | cons a r c =>
   intro h;have d:=h a aG;have e:=c λy b=>h y (aN _ b)
   simp only[aW,List.sum_cons,cY,gB,gC];omega
 exact bM (this g h) (Nat.mul_le_mul_right m j)
theorem Hg (h:n<=1000):n<=sizeLine:=bM h (by decide)
section
variable {P:Ah}{K:kG}
theorem Rc:FnScope [] [] (lJ xS):=⟨rfl,rfl,rfl,by decide +kernel,rfl,by decide +kernel,by decide +kernel⟩
theorem N4 (F:Fun K "_law_kept" "_law_kept" xS f fd):FnOk P w K g base mH 1 f fd [] Gs:=by
 refine F.ok Rc (λd H Q E h=>?_) (λb A a s H d Q E e h=>?_)
 .obtain⟨rfl,_⟩:=h;rfl
 .obtain⟨rfl,k⟩:=h;refine⟨_,@qG _ _ _ (@uE _ _ _ _ (@rA _ _ _ _ (@yE _ [("and",_,_),("or",_,_),("odd",_,_),("most",_,_),("not",_,_),("one",_,_),("nil",_,_),("in",_,_),("out",_,_)]))),?_⟩;have c:9<=sizeLine:=by decide
  refine⟨c,?_⟩;exact k
theorem sB:FnScope ["deck","many","letters","base","at","shift","way","names","k","sign","word","name"] ["deck","many"] (lJ C0):=⟨rfl,rfl,rfl,by decide +kernel,rfl,by decide +kernel,by decide +kernel⟩
theorem U1:(["k","letters","deck"]:Aa Af).Nodup:=by decide +kernel
theorem Qa (j:0<=i) (l:i<2) (q:Af) (g:LS 0 1 q):∃ x,lQ [V.str "",V.str q] i=some (V.str x)/\LS 0 1 x:=by
 have:i=0\/i=1:=by omega
 rcases this with rfl | rfl
 .exact⟨"",rfl,LS.of (by decide +kernel)⟩
 .exact⟨q,rfl,g⟩
theorem W0 (F:Fun K "_law_made_names" "_law_made_names" C0 f fd) (T:Txt mg) (g:Gd K mg "_law_take" vA ["deck","many"] fT aw) (gK:Gd K mg "_law_kept" xS [] fK av) :
  FnOk P w K mg base mH 2 f fd ["deck","many"] Me:=by
 have GT:FnOk P w K mg base mH 1 fT aw ["deck","many"] Db:=G3 g.F T;have GK:FnOk P w K mg base mH 1 fK av [] Gs:=N4 gK.F;refine F.ok sB (λvs H Q E h=>?_) (λa8 A a7 s H vs Q E hr h=>?_)
 .obtain⟨d,c,m,rfl,_⟩:=h;rfl
 .obtain⟨d,c,m,rfl,D,hm,k⟩:=h;refine⟨_,nC (nI (i:=2) sB.nd rfl (Or.inr rfl) sT) (nC (nI (i:=3) sB.nd rfl (Or.inl rfl) (yO PySem.F.plainAttrs_str PySem.F.slot_str_join PySem.F.type_str_join Tx sT (lC (Ai ["k"] ["letters","deck"] [2,0] rfl (wF rfl T.range (lC (rQ GT hr rfl g.m g.k g.b .nil qS (lC (pv 0) (lC lW lO))) lO)) rfl rfl (λZ S C cl fp=>uK (i:=0) U1 rfl (Or.inl rfl)) (λZ S C cl fp=>Bz) (λZ S C cl fp=>pG Cy (pv 1) (rQ GT hr rfl g.m g.k g.b .nil qS (lC (pv 2) (lC lW lO))) (λ_ _=>rfl))) lO))) (nC (nI (i:=4) sB.nd rfl (Or.inl rfl) (rQ GT hr rfl g.m g.k g.b .nil qS (lC (pv 0) (lC (lH tJ (sX Ol (by rfl) T.len bP (lC (pv 3) lO)) lW) lO)))) (nC (nI (i:=5) sB.nd rfl (Or.inl rfl) (rQ GT hr rfl g.m g.k g.b .nil qS (lC (pv 0) (lC lW lO)))) (nC (nI (i:=6) sB.nd rfl (Or.inl rfl) (rQ GT hr rfl g.m g.k g.b .nil qS (lC (pv 0) (lC lW lO)))) (nC (nI (i:=7) sB.nd rfl (Or.inl rfl) (rA lO)) (nC (Au dX rfl (wF rfl T.range (lC (pv 1) lO)) (uK (i:=8) sB.nd rfl (Or.inl rfl)) (nC (nI (i:=9) sB.nd rfl (Or.inl rfl) (pG Cy (pv 2) (lH pT (lH tJ (pv 5) (pv 8)) lW) (λ_ _=>rfl))) (nC (nI (i:=10) sB.nd rfl (Or.inl rfl) (pG qZ (Lo GK hr rfl gK.m gK.k gK.b .nil qS) (lH pT (lH tJ (pv 5) (pv 8)) lW) (λ_ _=>rfl))) (nC (nI (i:=11) sB.nd rfl (Or.inl rfl) (lH tS (lH tS (lH tS (lH tS (zT Ik (pv 3) yW (xY (pv 4))) (pv 9)) (pG qZ (rA (lC sT (lC sT lO))) (lH pT (pv 8) lW) (λ_ _=>rfl))) (zT Ik (pv 3) (xY (pv 4)) yW)) (pG qZ (rA (lC sT (lC sT lO))) (lH Uk (pv 8) lW) (λ_ _=>rfl)))) (qG (Hf (yO bY cC cD sV (pv 7) (lC (pG qZ (rA (lC (pv 11) (lC (lH tS (pv 9) (pv 10)) (lC (lH tS (pv 10) (pv 9)) (lC (lH tS (lH tS (pv 9) (pv 10)) (pG Cy (pv 2) (lH pT (pv 8) lW) (λ_ _=>rfl))) lO))))) (pv 6) (λ_ _=>rfl)) lO)))))))) (qG (uE (pv 7))))))))),?_⟩;refine⟨rfl,_,rfl,d,c,6,rfl,D,by decide,by decide,λr1 H1 a0 a1 D1 k1=>⟨_,rfl,by omega,by omega,λD0 N=>?_⟩⟩;have u:=D1.ned N;have a2:H D0=none:=k1.free u.1 u.2 N;refine E2 P7 (λi ys H2=>∃ t:Aa Af,ys=t.map V.str/\t.length=i/\(∀ z∈t,LS 1 1 z)/\DeckAt H2 d c/\lS d c H H2/\H2 D0=some (.l ys))
   ⟨[],rfl,rfl,(λz Y=>nomatch Y),D1.new N,k1.trans (lS.new N),lB⟩ (λ_ _ _ _ _=>True.intro) ?_ ?_
  .rintro i x ys H2 hx ⟨t,rfl,hl,a6,D2,k2,hD⟩;have hi:i<6:=by
    have:=(aK.mp hx).1;simp at this;omega
   refine⟨_,rfl,_,rfl,d,c,26,rfl,D2,by decide,by decide,λr H3 b0 b1 D3 k3=>?_⟩;obtain⟨W,a3,I⟩:=Hu b0 b1;have az:=k3 D0 _ hD u.1 u.2;refine⟨mG,_,W,rfl,rfl,(by rw[E5];decide),a3,⟨_,rfl⟩,az,(by rw[aB];exact aT (show t.length<1000 by omega) (by decide)),t++[⟨#[W]⟩],by simp,by simp[hl],λz Y=>?_,D3.upd_other u.1 u.2,?_,lB⟩
   .rcases aV.mp Y with q | q
    .exact a6 z q
    .rw[aQ.mp q];exact LS.sign I
   .exact λb o e h1 h2=>by rw[kK (lE e a2)];exact k3 b o (k2 b o e h1 h2) h1 h2
  .rintro ys H2 ⟨t,rfl,hl,Y,D2,k2,hD⟩;rw[aB,cF] at hl;have hB:=Kv t Y;have ay:t.length<=5:=by omega
   refine⟨"",D0,t,rfl,rfl,.inl (eT.of hD),?_,?_⟩
   .have h1:=V8 (m:=1) (λy hy=>(Y y hy).hi) ay;have h2:(Str.ofString "").length=0:=by decide +kernel
    rw[h2];omega
   have ej:Txt.join (Str.ofString "") t=Str.join (Str.ofString "") t:=StrLaws.glued_eq_join _ _;rw[ej];generalize Str.join (Str.ofString "") t=B at hB;have eB:B.length=t.length:=kD hB.hi hB.lo;refine⟨_,rfl,_,rfl,B,rfl,Hg (by omega),_,_,rfl,rfl,d,c,_,rfl,D2,by omega,by omega,λr2 H3 b0 b1 D3 k3=>?_⟩;refine⟨_,rfl,d,c,26,rfl,D3,by decide,by decide,λr3 H4 c0 c1 D4 k4=>?_⟩;refine⟨_,rfl,d,c,4,rfl,D4,by decide,by decide,λr4 H5 d0 d1 D5 k5=>?_⟩;refine⟨(by show 0<=sizeLine;decide),λl nl=>?_⟩;have kk:lS d c H H5:=((k2.trans k3).trans k4).trans k5;have O:=D5.ned nl;have ae:H l=none:=kk.free O.1 O.2 nl;obtain⟨L,rfl⟩:=dB b0;refine⟨_,rfl,_,rfl,by omega,by omega,?_⟩;rw[eD];refine Ge (lo:=0) (n:=m) (λi σ G=>∃ (v:Aa Af) (v8 v9 v10 v11:Ab V),σ=[some (.ref d),some (.int m),some (.str mG),some (.str B),some (.int L),some (.int r3),some (.int r4),some (.ref l),v8,v9,v10,v11] /\ v.length=i/\(∀ x∈v,LS 1 8 x)/\G l=some (.l (v.map V.str))/\DeckAt G d c/\lS d c H G)
    ⟨[],none,none,none,none,rfl,rfl,(λz Y=>nomatch Y),lB,D5.new nl,kk.trans (lS.new nl)⟩ ?_ ?_
   .rintro i σ G hi ⟨v,v8,v9,v10,v11,rfl,J,U,h6,D6,k6⟩;have M:∀ z:Int,0<=z%26/\z%26<26:=λz=>⟨fP z (by decide),eV z (by decide)⟩
    have e9:∀ z:Int,0<=z%9/\z%9<9:=λz=>⟨fP z (by decide),eV z (by decide)⟩
    have e2:∀ z:Int,0<=z%2/\z%2<2:=λz=>⟨fP z (by decide),eV z (by decide)⟩
    obtain⟨W,af,I⟩:=Hu (M (r3+(0+(i:Int)))).1 (M _).2;obtain⟨wd,ag,a4⟩:=Jk (xs:=oO) (e9 (r3+(0+(i:Int)))).1 (by exact (e9 _).2);obtain⟨x1,ah,ao⟩:=Qa (e2 (0+(i:Int))).1 (e2 _).2 "q" (LS.of (by decide +kernel));obtain⟨x2,ai,aq⟩:=Qa (i:=(0+(i:Int))/26) (by omega) (by omega) "w" (LS.of (by decide +kernel));obtain⟨c5,aj,an⟩:=Hu (M (0+(i:Int))).1 (M _).2;have j:=LS.sign I;have hW:=Tj a4;have X:L<=t.length:=by omega
    have hP:=hB.cutL X;have hR:=hB.cutR X;have n1:=hP.app j;have n2:=n1.app ao;have n3:=n2.app hR;have n4:=n3.app aq;have w1:=j.app hW;have w2:=hW.app j;have w3:=w1.app (LS.sign an);have sz:∀ {a b c' d':Nat} {x y:Af},LS a b x->LS c' d' y->b+d'<=100->x.length+y.length<=sizeLine:=λg1 g2 hb=>Hg (by have:=g1.hi;have:=g2.hi;omega)
    have au:mG.length<=sizeLine:=by rw[E5];decide
    have ac:B.length<=sizeLine:=Hg (by omega);refine⟨_,rfl,_,rfl,_,rfl,_,_,rfl,rfl,_,_,rfl,rfl,(by show (0:Int)<26;decide),mG,_,W,rfl,rfl,au,af,?_⟩;refine⟨rfl,λp np=>?_⟩;have D7:DeckAt (upd G p (.l (oO.map V.str))) d c:=D6.new np;refine⟨_,rfl,_,rfl,_,_,rfl,rfl,_,_,rfl,rfl,(by show (0:Int)<9;decide),p,_,_,.str wd,rfl,rfl,eT.of lB,ag,?_⟩;have k7:lS d c H (upd G p (.l (oO.map V.str))):=k6.trans (lS.new np);have h7:upd G p (.l (oO.map V.str)) l=some (.l (v.map V.str)):=by rw[kK (lE h6 np)];exact h6
    generalize upd G p (.l (oO.map V.str))=H7 at D7 k7 h7 |-;refine⟨_,rfl,_,rfl,_,rfl,B,rfl,ac,_,rfl,_,_,rfl,rfl,sz hP j (by omega),(by show 2<=sizeLine;decide),λp2 aa=>?_⟩;have D8:=D7.new (o:=.l [V.str (Str.ofString ""),V.str (Str.ofString "q")]) aa;have k8:=k7.trans (lS.new (d:=d) (c:=c) (o:=.l [V.str (Str.ofString ""),V.str (Str.ofString "q")]) aa);have h8:upd H7 p2 (.l [V.str (Str.ofString ""),V.str (Str.ofString "q")]) l=some (.l (v.map V.str)):=by rw[kK (lE h7 aa)];exact h7
    refine⟨_,rfl,_,_,rfl,rfl,(by show (0:Int)<2;decide),p2,_,_,.str x1,rfl,rfl,eT.of lB,ah,_,_,rfl,rfl,sz n1 ao (by omega),_,rfl,_,rfl,_,rfl,B,rfl,ac,_,_,rfl,rfl,sz n2 hR (by omega),(by show 2<=sizeLine;decide),λp3 R=>?_⟩;generalize upd H7 p2 (.l [V.str (Str.ofString ""),V.str (Str.ofString "q")])=H8 at D8 k8 h8 R |-;have D9:=D8.new (o:=.l [V.str (Str.ofString ""),V.str (Str.ofString "w")]) R;have k9:=k8.trans (lS.new (d:=d) (c:=c) (o:=.l [V.str (Str.ofString ""),V.str (Str.ofString "w")]) R);have h9:upd H8 p3 (.l [V.str (Str.ofString ""),V.str (Str.ofString "w")]) l=some (.l (v.map V.str)):=by rw[kK (lE h8 R)];exact h8
    refine⟨_,rfl,_,_,rfl,rfl,⟨by decide,by decide⟩,p3,_,_,.str x2,rfl,rfl,eT.of lB,ai,_,_,rfl,rfl,sz n3 aq (by omega),?_⟩;generalize upd H8 p3 (.l [V.str (Str.ofString ""),V.str (Str.ofString "w")])=H9 at D9 k9 h9 |-;generalize a9:(qF B none (some (L:Int))++(⟨#[W]⟩:Af)++x1++qF B (some (L:Int)) none++x2)=nm at n4;refine⟨_,rfl,.inl ⟨rfl,_,eT.of h9⟩,_,rfl,_,rfl,_,rfl,_,_,rfl,rfl,sz j hW (by omega),_,rfl,_,rfl,_,_,rfl,rfl,sz hW j (by omega),_,rfl,_,rfl,_,_,rfl,rfl,sz j hW (by omega),_,rfl,_,rfl,_,_,rfl,rfl,(by show (0:Int)<26;decide),mG,_,c5,rfl,rfl,au,aj,_,_,rfl,rfl,sz w1 (LS.sign an) (by omega),(by show 4<=sizeLine;decide),λp4 ab=>?_⟩;obtain⟨z,ak,ar⟩:=Jk (xs:=[nm,(⟨#[W]⟩:Af)++wd,wd++(⟨#[W]⟩:Af),(⟨#[W]⟩:Af)++wd++(⟨#[c5]⟩:Af)]) d0 (by exact d1);have a5:LS 1 8 z:=by
     simp only[aF,bE,eP] at ar;rcases ar with rfl | rfl | rfl | rfl
     .exact n4.weak (by omega) (by omega)
     .exact w1.weak (by omega) (by omega)
     .exact w2.weak (by omega) (by omega)
     .exact w3.weak (by omega) (by omega)
    have ax:∀ o4,upd H9 p4 o4 l=some (.l (v.map V.str)):=λo4=>by rw[kK (lE h9 ab)];exact h9
    refine⟨_,rfl,p4,_,_,.str z,rfl,rfl,eT.of lB,ak,l,v.map V.str,.str z,rfl,rfl,?_,?_,v++[z],_,_,_,_,rfl,by simp[J],?_,?_,?_,?_⟩
    .exact ax _
    .rw[aB];exact aT (show v.length<1000 by omega) (by decide)
    .intro y hy;rcases aV.mp hy with q | q
     .exact U y q
     .rw[aQ.mp q];exact a5
    .rw[lB];simp
    .exact (D9.new ab).upd_other O.1 O.2
    .exact λb o e g1 g2=>by rw[kK (lE e ae)];exact (k9.trans (lS.new ab)) b o e g1 g2
   .rintro σ G ⟨v,v8,v9,v10,v11,rfl,J,U,h6,D6,k6⟩;exact⟨_,rfl,k l v G ae h6 J U D6 k6⟩
end
def rE:Aa Af:=["cell","along","lay","judge","late","gates","ways","show"]
noncomputable def tY:Aa Af:=["andx","orb","oddly","mosts","nots","ones","nila","inn","outer","aa","ab","ba"]
def A7:Aa Af:=["abcdefgh","abcdefgi","zzzzzzzz","names","judged","rowsofx"]
def pE (z:Af):Aa Af:=z.cps.toList.map λc=>(⟨#[c]⟩:Af)
def vY:Aa Af:=pE mG++rE++tY++A7
theorem Vy:vY.Nodup:=by decide +kernel
theorem AE:vY.length=52:=by decide +kernel
theorem Rn:∀ x∈vY,GoodName x:=by
 have h:vY.all (λx=>A3 1 8 x && !oO.contains x)=true:=by decide +kernel
 intro x b;have:=eA.mp h x b;rw[bX] at this;refine⟨LS.of this.1,λm=>?_⟩;have a:=this.2;rw[List.contains_iff_mem.mpr m] at a;cases a
def Oc:Sp:=λe H Q _=>∃ (d c:Ad) (m:Nat),e=[.ref d,.int m]/\DeckAt H d c/\m<=40/\∀ (l:Ad) (b:Aa Af) (a:Hp),H l=none->a l=some (.l (b.map V.str))->b.length=m->b.Nodup->(∀ x∈b,GoodName x) ->
 DeckAt a d c->lS d c H a->Q (.ref l) a
theorem Jr:∀ {g:Aa Af}{k:Nat}{y:Af},g[k]?=some y->(y::g.eraseIdx k).Perm g
 | [],k,y,h=>by simp at h
 | a::r,0,y,h=>by
  simp at h;subst h;exact List.Perm.refl _
 | a::r,k+1,y,h=>by
  have b:r[k]?=some y:=by simpa using h
  show (y::a::r.eraseIdx k).Perm (a::r);exact (List.Perm.swap a y _).trans ((Jr b).cons a)
theorem Ir (f:g->j):∀ (l:Aa g) (k:Nat),(l.map f).eraseIdx k=(l.eraseIdx k).map f
 | [],_=>rfl
 | _::_,0=>rfl
 | a::r,k+1=>by simp[Ir f r k]
theorem T2 (x:Af) (g:Aa Af):qU (.str x) (g.map V.str)=decide (x∈g):=by
 unfold qU;induction g with
 | nil=>rfl
 | cons y r b =>
  rw[aW,eX,b];have:oF (V.str y) (V.str x)=decide (y=x):=by
   simp only[oF];exact Bool.beq_eq_decide_eq y x
  rw[this];by_cases h:x=y
  .subst h;simp
  .have a:¬ y=x:=λe=>h e.symm
   simp[h,a]
theorem S6 (g:Aa Af):(g.map V.str).all oR=true:=by
 rw[eA];intro v a;obtain⟨y,_,rfl⟩:=aJ.mp a;rfl
section
variable {P:Ah}{K:kG}
theorem xB:FnScope ["deck","many","letters","names","spare"] ["deck","many"] (lJ Bo):=⟨rfl,rfl,rfl,by decide +kernel,rfl,by decide +kernel,by decide +kernel⟩
theorem Ly (x:Af):([x]:Aa Af).Nodup:=by simp
theorem CD:(["k","spare","deck"]:Aa Af).Nodup:=by decide +kernel
theorem Qt (F:Fun K "_law_names" "_law_names" Bo f fd) (T:Txt mg) (gT:Gd K mg "_law_take" vA ["deck","many"] fT a6) (gK:Gd K mg "_law_kept" xS [] fK a4)
  (gM:Gd K mg "_law_made_names" C0 ["deck","many"] fM a5):FnOk P w K mg base mH 3 f fd ["deck","many"] Oc:=by
 have GT:FnOk P w K mg base mH 1 fT a6 ["deck","many"] Db:=G3 gT.F T;have GK:FnOk P w K mg base mH 1 fK a4 [] Gs:=N4 gK.F;have GM:FnOk P w K mg base mH 2 fM a5 ["deck","many"] Me:=W0 gM.F T gT gK;refine F.ok xB (λvs H Q E h=>?_) (λbf A bd s H vs Q E hr h=>?_)
 .obtain⟨d,c,m,rfl,_⟩:=h;rfl
 .obtain⟨d,c,m,rfl,D,hm,k⟩:=h;have aj:Room 1 _:=hr.mono (by decide);have hu:=hr.units;refine Of _ (nI (i:=2) xB.nd rfl (Or.inl rfl) sT) ?_;refine B9 (λσ S=>∃ v3,σ=[some (.ref d),some (.int m),some (.str mG),v3,none]/\DeckAt S d c/\lS d c H S) (λu L=>?_) ?_
  .-- if _law_take(deck,2) == 1
   refine⟨_,Dm (uW As (rQ GT aj rfl gT.m gT.k gT.b .nil qS (lC (pv 0) (lC lW lO))) lW (tG _)) (nC (nI (i:=3) xB.nd rfl (Or.inl rfl) (rQ GM hr rfl gM.m gM.k gM.b .nil qS (lC (pv 0) (lC (pv 1) lO)))) (qG (Dm (PW.pt (O6 (uW As (sX DD (by rfl) T.len bP (lC (He (BW rfl) (by rfl) T.set PyProof.Rows.boot_set (lC (pv 3) lO)) lO)) (pv 1) (tG _)) (N5 (uW (Iz hu) (Ai ["name"] [] [] rfl (BG (pv 3)) rfl rfl (λB v C cl fp=>uK (i:=0) (Ly _) rfl (Or.inl rfl)) (λB v C cl fp=>I3 (uW (r:=B7 K false) Z1 (pv 0) (Lo GK aj rfl gK.m gK.k gK.b .nil qS) rfl)) (λB v C cl fp=>pv 0)) (rA lO) (tG _))))) (qG (uE (pv 3))) Cp))) Cp,?_⟩;refine⟨_,rfl,d,c,2,rfl,D,by decide,by decide,λr1 H1 a0 a1 D1 k1=>⟨rfl,_,rfl,?_⟩⟩;refine zF (λ_=>?_) (λ_=>L _ _ ⟨none,rfl,D1,k1⟩);refine⟨_,rfl,_,rfl,d,c,m,rfl,D1,hm,λl O H2 nl hl av ba D2 k2=>?_⟩;have kk:lS d c H H2:=k1.trans k2;have ax:=D1.ned nl;have a8:H l=none:=k1.free ax.1 ax.2 nl;refine⟨_,rfl,l,O,rfl,eT.of hl,by omega,λp np=>?_⟩;have k3:=kk.trans (lS.new (d:=d) (c:=c) (o:=wI P w p (mJ O).length) np);have D3:=D2.new (o:=wI P w p (mJ O).length) np;have ai:upd H2 p (wI P w p (mJ O).length) l=some (.l (O.map V.str)):=by rw[kK (lE hl np)];exact hl
   refine⟨p,_,rfl,lB,_,rfl,rfl,_,rfl,?_⟩;refine zF (λa9=>?_) (λ_=>wV (L _ _ ⟨_,rfl,D3,k3⟩));have J:O.Nodup:=by
    have:=eG a9;injection this with this;exact V7 (by omega)
   refine⟨_,rfl,l,rfl,⟨_,eT.of ai⟩,λR n=>?_⟩;have G:=D3.ned n;have ac:H R=none:=k3.free G.1 G.2 n;have lD:l≠R:=lE ai n;refine Kd Wj (λi ys S=>∃ t:Aa Af,ys=t.map V.str/\t.length<=i/\((∃ x∈O.take i,x∈oO)->t≠[])/\((∀ x∈O.take i,x∉oO)->t=[])/\DeckAt S d c/\lS d c H S/\S R=some (.l ys)/\S l=some (.l (O.map V.str)))
    ⟨[],rfl,aH _,(λ⟨x,N,_⟩=>by simp at N),(λ_=>rfl),D3.new n,k3.trans (lS.new n),lB,by rw[kK lD];exact ai⟩ (λi ys S _ ⟨_,_,_,_,_,_,_,_,h⟩=>eT.of h) ?_ ?_
   .rintro i x ys S N ⟨t,rfl,aw,U,af,D4,k4,g,I⟩;obtain⟨y,hy,rfl⟩:∃ y,O[i]?=some y/\V.str y=x:=by
     rw[bG] at N;cases e:O[i]? with
     | none=>rw[e] at N;cases N
     | some y=>rw[e] at N;exact⟨y,rfl,bT N⟩
    have hi:i<O.length:=(aK.mp hy).1;have et:O.take (i+1)=O.take i++[y]:=by rw[bI,hy];rfl
    refine⟨_,rfl,rfl,λq nq=>?_⟩;have bh:=D4.ned nq;refine⟨q,_,rfl,.inl (eT.of lB),rfl,S6 _,_,rfl,?_⟩;have D5:=D4.new (o:=.l (oO.map V.str)) nq;have k5:=k4.trans (lS.new (d:=d) (c:=c) (o:=.l (oO.map V.str)) nq);have ab:upd S q (.l (oO.map V.str)) R=some (.l (t.map V.str)):=by rw[kK (lE g nq)];exact g
    have ae:upd S q (.l (oO.map V.str)) l=some (.l (O.map V.str)):=by rw[kK (lE I nq)];exact I
    rw[T2];refine zF (λhk=>?_) (λhk=>?_)
    .have ah:y∈oO:=eG hk;refine⟨_,rfl,⟨_,rfl⟩,ab,?_,t++[y],by simp,by simp;omega,λ_=>by simp,λh=>absurd ah (h y (by rw[et];simp)),D5.upd_other G.1 G.2,?_,lB,?_⟩
     .rw[aB];exact aT (show t.length<1000 by omega) (by decide)
     .exact λb o e g1 g2=>by rw[kK (lE e ac)];exact k5 b o e g1 g2
     .rw[kK lD];exact ae
    .have ah:y∉oO:=λz=>hk (cV z)
     refine⟨⟨_,rfl⟩,t,rfl,by omega,?_,?_,D5,k5,ab,ae⟩
     .rintro ⟨z,hz,ak⟩;rw[et] at hz;rcases aV.mp hz with q' | q'
      .exact U ⟨z,q',ak⟩
      .rw[aQ.mp q'] at ak;exact absurd ak ah
     .exact λh=>af λz hz=>h z (by rw[et];exact bW _ hz)
   .rintro ys S ⟨t,rfl,aw,U,af,D4,k4,g,I⟩;rw[aB] at aw U af;rw[aO (aH _)] at U af;refine⟨(by show 0<=sizeLine;decide),λq nq=>?_⟩;have D5:=D4.new (o:=.l []) nq;have k5:=k4.trans (lS.new (d:=d) (c:=c) (o:=.l []) nq);have ab:upd S q (.l []) R=some (.l (t.map V.str)):=by rw[kK (lE g nq)];exact g
    have ae:upd S q (.l []) l=some (.l (O.map V.str)):=by rw[kK (lE I nq)];exact I
    refine⟨R,q,_,rfl,rfl,eT.of ab,eT.of lB,_,rfl,?_⟩;refine zF (λhe=>?_) (λ_=>L _ _ ⟨_,rfl,D5,k5⟩);have bc:t=[]:=by
     cases t with
     | nil=>rfl
     | cons a r=>simp at he
    refine⟨_,rfl,k l O _ a8 ae av J (λx N=>⟨ba x N,λhk=>U ⟨x,N,hk⟩ bc⟩) D5 k5⟩
  .rintro σ S ⟨v3,rfl,D4,k4⟩;refine B9 (λσ H7=>∃ p2,σ=[some (.ref d),some (.int m),some (.str mG),v3,some (.ref p2)]/\H7 p2=some (.l ((pE mG++rE).map V.str))/\DeckAt H7 d c/\lS d c H H7/\H p2=none) (λu L=>?_) ?_
   .refine⟨_,nI (i:=4) xB.nd rfl (Or.inr rfl) (lH zE (Ai ["sign"] [] [] rfl (Za (pv 2)) rfl rfl (λB v C cl fp=>uK (i:=0) (Ly _) rfl (Or.inl rfl)) (λB v C cl fp=>Bz) (λB v C cl fp=>pv 0)) (@rA _ _ _ _ (@yE _ [("cell",_,_),("along",_,_),("lay",_,_),("judge",_,_),("late",_,_),("gates",_,_),("ways",_,_),("show",_,_)]))),?_⟩;refine⟨_,rfl,mG,rfl,by decide +kernel,λR n=>?_⟩;refine Sr BZ id n (λ_ _=>True.intro) (by rw[show (uZ mG).length=26 by decide +kernel];decide) (λi x H5 kk N _ h=>⟨_,rfl,h⟩) ?_;have e1:(uZ mG).map id=(pE mG).map V.str:=by rw[List.map_id];unfold uZ pE;rw[List.map_map];rfl
    rw[e1];refine⟨(by show 8<=sizeLine;decide),λp1 n1=>?_⟩;have h0:upd (upd S R (.l ((pE mG).map V.str))) p1 (.l (rE.map V.str)) R=some (.l ((pE mG).map V.str)):=by rw[kK (lE lB n1)];exact lB
    refine⟨R,p1,_,_,rfl,rfl,h0,lB,(by rw[aB,show (pE mG).length=26 by decide +kernel];show 26+8<=sizeLine;decide),λp2 n2=>?_⟩;have D7:=((D4.new (o:=.l ((pE mG).map V.str)) n).new (o:=.l (rE.map V.str)) n1);have k7:=(k4.trans (lS.new (d:=d) (c:=c) (o:=.l ((pE mG).map V.str)) n)).trans (lS.new (d:=d) (c:=c) (o:=.l (rE.map V.str)) n1);have ay:=D7.ned n2;refine L _ _ ⟨p2,rfl,?_,D7.new n2,k7.trans (lS.new n2),k7.free ay.1 ay.2 n2⟩;rw[lB,aZ];rfl
   rintro σ H7 ⟨p2,rfl,h7,D7,k7,z7⟩;refine B9 (λσ H8=>∃ p3,σ=[some (.ref d),some (.int m),some (.str mG),v3,some (.ref p3)]/\H8 p3=some (.l ((pE mG++rE++tY).map V.str))/\DeckAt H8 d c/\lS d c H H8/\H p3=none) (λu L=>?_) ?_
   .refine⟨_,nI (i:=4) xB.nd rfl (Or.inr rfl) (lH zE (pv 4) (@rA _ _ _ _ (@yE _ [("andx",_,_),("orb",_,_),("oddly",_,_),("mosts",_,_),("nots",_,_),("ones",_,_),("nila",_,_),("inn",_,_),("outer",_,_),("aa",_,_),("ab",_,_),("ba",_,_)]))),?_⟩;refine⟨_,rfl,(by show 12<=sizeLine;decide),λp1 n1=>?_⟩;have h0:upd H7 p1 (.l (tY.map V.str)) p2=some (.l ((pE mG++rE).map V.str)):=by rw[kK (lE h7 n1)];exact h7
    refine⟨p2,p1,_,_,rfl,rfl,h0,lB,(by rw[aB,show (pE mG++rE).length=34 by decide +kernel];show 34+12<=sizeLine;decide),λp3 n3=>?_⟩;have D8:=D7.new (o:=.l (tY.map V.str)) n1;have k8:=k7.trans (lS.new (d:=d) (c:=c) (o:=.l (tY.map V.str)) n1);have az:=D8.ned n3;refine L _ _ ⟨p3,rfl,?_,D8.new n3,k8.trans (lS.new n3),k8.free az.1 az.2 n3⟩;rw[lB,aZ (l₁:=pE mG++rE)];rfl
   rintro σ H8 ⟨p3,rfl,h8,D8,k8,z8⟩;refine B9 (λσ H9=>∃ Y,σ=[some (.ref d),some (.int m),some (.str mG),v3,some (.ref Y)]/\H9 Y=some (.l (vY.map V.str))/\DeckAt H9 d c/\lS d c H H9/\H Y=none) (λu L=>?_) ?_
   .refine⟨_,nI (i:=4) xB.nd rfl (Or.inr rfl) (lH zE (pv 4) (@rA _ _ _ _ (@yE _ [("abcdefgh",_,_),("abcdefgi",_,_),("zzzzzzzz",_,_),("names",_,_),("judged",_,_),("rowsofx",_,_)]))),?_⟩;refine⟨_,rfl,(by show 6<=sizeLine;decide),λp1 n1=>?_⟩;have h0:upd H8 p1 (.l (A7.map V.str)) p3=some (.l ((pE mG++rE++tY).map V.str)):=by rw[kK (lE h8 n1)];exact h8
    refine⟨p3,p1,_,_,rfl,rfl,h0,lB,(by rw[aB,show (pE mG++rE++tY).length=46 by decide +kernel];show 46+6<=sizeLine;decide),λY n4=>?_⟩;have D9:=D8.new (o:=.l (A7.map V.str)) n1;have k9:=k8.trans (lS.new (d:=d) (c:=c) (o:=.l (A7.map V.str)) n1);have X:=D9.ned n4;refine L _ _ ⟨Y,rfl,?_,D9.new n4,k9.trans (lS.new n4),k9.free X.1 X.2 n4⟩;unfold vY;rw[lB,aZ (l₁:=pE mG++rE++tY)];rfl
   rintro σ H9 ⟨Y,rfl,h9,D9,k9,z9⟩;refine⟨_,qG (uE (Ai ["k"] ["spare","deck"] [4,0] rfl (wF rfl T.range (lC (pv 1) lO)) rfl rfl (λB v C cl fp=>uK (i:=0) CD rfl (Or.inl rfl)) (λB v C cl fp=>Bz) (λB v C cl fp=>CU K bY PySem.F.slot_list_pop PySem.F.type_list_pop Z0 (pv 1) (lC (rQ GT aj rfl gT.m gT.k gT.b .nil qS (lC (pv 2) (lC (sX (Zi K) (by rfl) T.len bP (lC (pv 1) lO)) lO))) lO)))),?_⟩;refine⟨_,rfl,_,rfl,by omega,by omega,λR n=>?_⟩;have G:=D9.ned n;have ac:H R=none:=k9.free G.1 G.2 n;have X:Y≠d/\Y≠c:=D.ned z9;have ar:Y≠R:=lE h9 n;refine E2 P7 (λi ys W=>∃ t M:Aa Af,ys=t.map V.str/\t.length=i/\M.length+i=52/\(t++M).Nodup/\(∀ x∈t++M,GoodName x)/\W Y=some (.l (M.map V.str))/\DeckAt W d c/\lS d c H W/\W R=some (.l ys))
    ⟨[],vY,rfl,rfl,AE,Vy,Rn,by rw[kK ar];exact h9,D9.new n,k9.trans (lS.new n),lB⟩ (λ_ _ _ _ _=>True.intro) ?_ ?_
   .rintro i x ys W N ⟨t,M,rfl,an,bb,J,hg,aa,ag,ao,Z⟩;have hi:i<40:=by
     have:=(aK.mp N).1;simp at this;omega
    refine⟨_,rfl,.inl ⟨rfl,_,eT.of aa⟩,_,rfl,_,rfl,Y,_,rfl,.inl (eT.of aa),d,c,_,rfl,ag,by rw[aB];omega,by rw[aB];omega,λr be b0 b1 a3 aq=>?_⟩;rw[aB] at b1;obtain⟨j,rfl⟩:=dB b0;have hj:j<M.length:=by omega
    have a7:=aq Y _ aa X.1 X.2;have au:=aq R _ Z G.1 G.2;have hy:M[j]?=some M[j]:=aI hj;have pm:=Jr hy;have a2:((t++[M[j]])++M.eraseIdx j).Perm (t++M):=by
     rw[bD];exact jD t pm
    have bg:(M.eraseIdx j).length+1=M.length:=by
     rw[List.length_eraseIdx,bA hj];omega
    refine⟨Y,_,_,j,.str M[j],rfl,rfl,a7,by omega,by omega,?_,by simp[hj],⟨_,rfl⟩,by rw[kK ar.symm];exact au,?_,t++[M[j]],M.eraseIdx j,by simp,by simp[an],by omega,a2.symm.nodup J,λx N=>hg x (a2.mem_iff.mp N),?_,?_,?_,lB⟩
    .rw[aB];exact PySem.StrLaws.seqIndex_nonneg (by omega) (by omega)
    .rw[aB];exact aT (show t.length<1000 by omega) (by decide)
    .rw[kK ar,lB,Ir]
    .exact (a3.upd_other X.1 X.2).upd_other G.1 G.2
    .exact λb o e g1 g2=>by rw[kK (lE e ac),kK (lE e z9)];exact aq b o (ao b o e g1 g2) g1 g2
   .rintro ys W ⟨t,M,rfl,an,bb,J,hg,aa,ag,ao,Z⟩;rw[aB,cF] at an;exact k R t W ac Z (by omega) (List.Nodup.sublist (List.sublist_append_left t M) J) (λx N=>hg x (bW _ N)) ag ao
end
noncomputable def Ze:Aa Af:=["and","or","odd"]
structure ArOk (w:Str) (n:Nat):Prop where
 ok:(w∈Ze/\(n=2\/n=3))\/(w = "most" /\ n=3)\/(w = "not" /\ n=1)\/(w = "one" /\ n=0)\/(w = "nil" /\ n=0)
structure Cel where
 ins:List Str
 gates:List (Str×Str×List Str)
 outs:List Str
def Cel.names (C:Cel):Aa Af:=C.ins++C.gates.map (·.1)
def Xi (H:Hp) (a:Ad) (g:Af×Af×Aa Af):Prop:=∃ q,H a=some (.t [.str g.1,.str g.2.1,.ref q])/\H q=some (.t (g.2.2.map V.str))
abbrev EQ (H:Hp):Aa Ad->Aa (Af×Af×Aa Af)->Prop:=Paired (Xi H)
def yK:Aa Af->Aa (Af×Af×Aa Af)->Prop
 | _,[]=>True
 | kn,g::r=>ArOk g.2.1 g.2.2.length/\(∀ p∈g.2.2,p∈kn)/\yK (kn++[g.1]) r
structure Good (C:Cel):Prop where
 nd:C.names.Nodup
 nm:∀ x∈C.names,GoodName x
 gt:yK C.ins C.gates
 os:∀ o∈C.outs,o∈C.names
 ond:C.outs.Nodup
 li:C.ins.length<=6
 lg:C.gates.length<=24
 lo:C.outs.length<=6
def Ep:RD:=λa b e=>∃ (d c:Ad) (m:Int),a=[d,c]/\b=[.r (.ref d),.int m]/\0<m/\m<4611686018427387904/\∀ r:Nat,(r:Int)<m->e (.v (.int r))
def Oh:RD:=λb e f=>∃ (d c:Ad) (m:Nat),b=[d,c]/\e=[.r (.ref d),.int m]/\m<=40/\∀ a:Aa Af,a.length=m->a.Nodup->(∀ x∈a,GoodName x)->f (.o (.l (a.map D.str)))
theorem G1 (h:Dk [d,c] H):DeckAt H d c:=by
 rcases h with h | ⟨b,a,e,h⟩
 .cases h
 .cases e;exact h
theorem Pw (k:lS d c H g):wO [d,c] H g:=λb o e n=>k b o e (λz=>n (by simp[z])) (λz=>n (by simp[z]))
theorem Qp (D:DeckAt H d c) (h:H l=none):l∉[d,c]:=λz=>by
 have:=D.ned h;rcases aF.mp z with q | q
 .exact this.1 q
 .exact this.2 (by simpa using q)
section
variable {P:Ah}{K:kG}
theorem Zt (F:FnOk P w K g base mH k f fd j Db):FnOk P w K g base mH k f fd j (vX K Ep):=F.imp λN H Q E y=>by
 obtain⟨G,A,L,O,e,M,r,⟨d,c,m,s,t,u,v,h⟩,x⟩:=y;subst s t;cases r with
 | cons B r =>
  cases r with
  | cons D r =>
   cases r;have:=B.raw_inv;have:=D.int_inv;subst_vars;refine⟨d,c,m,rfl,G1 e,u,v,λr q a b i z=>?_⟩;obtain⟨n,rfl⟩:=dB a;exact x _ _ q (h n b) (Pw z) (.inr ⟨d,c,rfl,i⟩) (.int _)
theorem DL (F:FnOk P w K g base mH k f fd j Oc):FnOk P w K g base mH k f fd j (vX K Oh):=F.imp λR H Q E z=>by
 obtain⟨M,A,N,S,a,O,r,⟨d,c,m,t,u,x,h⟩,y⟩:=z;subst t u;cases r with
 | cons G r =>
  cases r with
  | cons L r =>
   cases r;have:=G.raw_inv;have:=L.int_inv;subst_vars;exact⟨d,c,m,rfl,G1 a,x,λl n s i b e D v q B=>y _ _ s (h n e D v) (Pw B) (.inr ⟨d,c,rfl,q⟩) ⟨l,rfl,i,Qp (G1 a) i,_,b,Kw n⟩⟩
end
theorem Ny (f:j->D) (g:Aa j) (k:Nat):nK (g.map f) none (some (k:Int))=(g.take k).map f:=by
 unfold nK;rw[aB,HT.sIx_none,HT.sIx_nat,List.drop_zero,iT,List.map_take];by_cases h:k<=g.length
 .rw[kE h]
 .rw[Nat.min_eq_right (by omega),aO (by simp),aO (by simp;omega)]
noncomputable def qH (g:Af×Af×Aa Af):D:=.t [.str g.1,.str g.2.1,.t (g.2.2.map D.str)]
def tD (C:Cel):D:=.t [.t (C.ins.map D.str),.t (C.gates.map qH),.t (C.outs.map D.str)]
def nO (p:Af×Af):D:=.t [.str p.1,.str p.2]
def mE (C:Cel) (al:Aa (Af×Af)):D:=.t [tD C,.t (al.map nO)]
structure GoodRow (C:Cel) (al:List (Str×Str)):Prop where
 good:Good C
 og:∀ o∈C.outs,o∈C.gates.map (·.1)
 n1:(al.map (·.1)).Nodup
 n2:(al.map (·.2)).Nodup
 mem:∀ p∈al,p.1∈C.outs/\p.2∈C.ins
 la:al.length<=4
def Ls (k:Af) (i:Nat):D:=.t [.str k,.int i]
def wW (p:D) (n:Nat):Nat->D
 | 0=>p
 | m+1=>Ls "gate" (n+m)
def pY (p:D) (n:Nat):Nat->Aa D
 | 0=>[]
 | m+1=>pY p n m++[wW p n m]
theorem P8 (p:D) (n:Nat):∀ m,(pY p n m).length=m
 | 0=>rfl
 | m+1=>by rw[pY,bC,P8 p n m];rfl
def No:Ad->Prop:=λ_=>False
theorem Kp.no (h:∀ a o,vS o=true->H a=some o->g a=some o):Kp No A H g:=⟨λ_ _ z=>False.elim z,h⟩
def Ao (K:kG):Sp:=λh H Q _=>∃ (a:Ad) (u:V) (f:Aa V) (e:Aa D) (p:D) (m:Nat),h=[.ref a,u,.int m]/\H a=some (.l f)/\Reps K No H e f/\Rep K No H p u/\m<=100/\e.length<=1000 /\
 ∀ v c d,(∀ b o,H b=some o->b≠a->c b=some o)->c a=some (.l d)->Reps K No c (e++pY p e.length m) d->Rep K No c (wW p e.length m) v->Q v c
section
variable {P:Ah}{K:kG}
theorem Ef:FnScope ["rows","part","many","turn"] ["rows","part","many"] (lJ Bn):=⟨rfl,rfl,rfl,by decide +kernel,rfl,by decide +kernel,by decide +kernel⟩
theorem Qi (F:Fun K "_law_led" "_law_led" Bn f fd) (T:Txt r):FnOk P w K r base mH 1 f fd ["rows","part","many"] (Ao K):=by
 refine F.ok Ef (λU H Q E h=>?_) (λZ A N s H U Q E hr h=>?_)
 .obtain⟨a,u,Y,y,p,m,rfl,_⟩:=h;rfl
 .obtain⟨a,u,Y,y,p,m,rfl,j,J,I,hm,hx,k⟩:=h;refine⟨_,nC (Au dX rfl (wF rfl T.range (lC (pv 2) lO)) (uK (i:=3) Ef.nd rfl (Or.inl rfl)) (nC (Hf (yO bY cC cD sV (pv 0) (lC (pv 1) lO))) (qG (nI (i:=1) Ef.nd rfl (Or.inl rfl) (Po (lC sT (lC (lH oG (sX wM (by rfl) T.len bP (lC (pv 0) lO)) lW) lO))))))) (qG (uE (pv 1))),?_⟩;refine⟨_,rfl,_,rfl,by omega,by omega,?_⟩;rw[eD];refine Ge (lo:=0) (n:=m) (λi R x=>∃ (c:Aa V) (v t:Ab V) (d:V),v=some d/\R=[some (.ref a),v,some (.int m),t]/\(∀ b o,H b=some o->b≠a->x b=some o)/\x a=some (.l c)/\Reps K No x (y++pY p y.length i) c/\Rep K No x (wW p y.length i) d)
   ⟨Y,some u,none,u,rfl,rfl,λb o e _=>e,j,by simpa [pY] using J,I⟩ ?_ ?_
  .rintro i R x hi ⟨c,v,t,d,rfl,rfl,M,B,G,O⟩;have ul:c.length=y.length+i:=by rw[<- G.length,bC,P8]
   have L:upd x a (.l (c++[d])) a=some (.l (c++[d])):=lB;have W:∀ b o,vS o=true->x b=some o->upd x a (.l (c++[d])) b=some o:=λb o t e=>by
    rw[kK (λz=>?_)]
    .exact e
    .subst z;rw[B] at e;cases e;cases t
   refine⟨_,rfl,.inl ⟨rfl,_,eT.of B⟩,_,rfl,a,_,d,rfl,rfl,B,aT (show c.length<2000 by omega) (by decide),?_⟩;refine⟨_,rfl,a,_,rfl,.inl (eT.of L),_,_,rfl,rfl,by show 2<=sizeLine;decide,λq D=>?_⟩;have C:q≠a:=λz=>by subst z;rw[L] at D;cases D
   have X:∀ b o,vS o=true->x b=some o->upd (upd x a (.l (c++[d]))) q (.t [.str "gate",.int (((c++[d]).length:Nat)-1)]) b=some o:=λb o t e=>by
    rw[kK (lE (W b o t e) D)];exact W b o t e
   refine⟨c++[d],_,_,_,rfl,rfl,λb o e n=>?_,?_,?_,?_⟩
   .have g:=M b o e n;have S:upd x a (.l (c++[d])) b=some o:=by rw[kK n];exact g
    rw[kK (lE S D)];exact S
   .rw[kK C.symm];exact L
   .have:y++pY p y.length (i+1)=(y++pY p y.length i)++[wW p y.length i]:=by rw[pY,bD]
    rw[this];exact (G.mono (Kp.no X)).append (.cons (O.mono (Kp.no X)) .nil)
   .refine .t lB (.cons (.str _) (.cons ?_ .nil));have:((((c++[d]).length:Nat):Int)-1)=((y.length+i:Nat):Int):=by rw[bC,dP,ul];omega
    show Rep K No _ _ (V.int ((((c++[d]).length:Nat):Int)-1));rw[this];exact .int _
  .rintro R x ⟨c,v,t,d,rfl,rfl,M,B,G,O⟩;exact⟨_,rfl,k _ _ _ M B G O⟩
end
section
variable {K:kG}{L2:lZ}
theorem DS.writeF (h:DS K B (g++(.o d,some (.ref a))::L2) H) (f:∀ b o,H b=some o->b≠a->H' b=some o) (r:mW K (Al B (dT g++a::dT L2)) H' a d'):DS K B (g++(.o d',some (.ref a))::L2) H':=by
 have i:∀ d,dT (g++(Sl.o d,some (V.ref a))::L2)=dT g++a::dT L2:=λd=>oQ
 have D:=h.new a (by rw[i];simp);obtain⟨u,O,E⟩:=h.live (a:=a) (by rw[i];simp);have P:Kp (Al B (dT g++a::dT L2)) (Al B (dT g++a::dT L2)) H H':=by
  refine⟨λb o c e=>⟨c,f b o e λz=>?_⟩,λb o t e=>f b o e λz=>?_⟩
  .subst z;exact c.2.1 (by simp)
  .subst z;rw[O] at e;cases e;rw[t] at E;cases E
 have n:=h.nd;rw[i] at n;have S:∀ b,b∈dT g\/b∈dT L2->b≠a:=λb c z=>by
  subst z;obtain⟨X,Q,R⟩:=bL.mp n;rcases c with c | c
  .exact R b c b aG rfl
  .exact (bU.mp Q).1 c
 have s:Dk B.dk H':=by
  rcases h.dk with q | ⟨x,y,q,F⟩
  .exact .inl q
  .refine .inr ⟨x,y,q,?_⟩;obtain⟨W,p,G,L,M,N⟩:=F.ex;have v:=D.2;rw[q] at v;exact⟨W,p,f x _ G λz=>v (by simp[z]),f y _ L λz=>v (by simp[z]),M,N⟩
 refine⟨λb w q m=>?_,s,by rw[i];exact n,λb c=>h.new b (by rw[i] at c |-;exact c),λp k=>?_⟩
 .have:b≠a:=λz=>by subst z;rw[D.1] at q;cases q
  exact f b w (h.fr b w q m) this
 .rw[i];have old:∀ p,p∈g\/p∈L2->qW K (Al B (dT g++a::dT L2)) H' p.1 p.2:=λp A=>by
   have:=h.ok p (by simp only[aV,aF];rcases A with q | q;exact .inl q;exact .inr (.inr q));rw[i] at this;refine this.mono P λb c w q=>f b w q (S b ?_)
   rcases A with z | z
   .exact .inl (rN.mpr ⟨p,z,c⟩)
   .exact .inr (rN.mpr ⟨p,z,c⟩)
  simp only[aV,aF] at k;rcases k with q | q | q
  .exact old p (.inl q)
  .subst q;exact⟨a,rfl,r⟩
  .exact old p (.inr q)
def Mn (g:pX):lK:=λc e d=>g c e λas b=>∃ (i m:Nat) (p:D) (a:Aa D),as=[.al i,.t p,.t (.int m)]/\b[i]?=some (.o (.l a))/\qX a=true/\imm p=true/\m<=100/\a.length<=1000 /\
 d (.v (wW p a.length m)) (b.set i (.o (.l (a++pY p a.length m))))
variable {X:Cx}
theorem Xs (h:dE X.K (Mn ta) j H Q):dA X.K ta j H λC g=>Ao X.K (C++[]) g Q E0:=by
 obtain⟨B,ρ,T,Φ,I,hd,U,k⟩:=h;refine⟨B,ρ,T,_,I,hd,U,λas c C g O ok d1 W=>?_⟩;obtain⟨i,m,p,b,rfl,Z,ix,ip,J,hx,x⟩:=W;rw[gJ];cases ok with
 | al M ok =>
  cases ok with
  | t ok =>
   cases ok with
   | t ok =>
    cases ok
    rename_i v u w
    have d1:DS X.K B (c.zip j++((.v p,some u)::(.v (.int m),some w)::T)) g:=d1;obtain⟨y,q,rp⟩:=d1.ok (.v p,some u) (by simp);cases q;obtain⟨y,q,rm⟩:=d1.ok (.v (.int m),some w) (by simp);cases q;have:=rm.int_inv;subst this;have d2:DS X.K B (c.zip j++T) g:=(DS.rmE (E:=[(.v p,some u),(.v (.int m),some (V.int m))]) d1);obtain⟨z,y,l2,N,_,hz,d⟩:=sW O Z;rw[M] at N;cases N;have G:DS X.K B (z++(.o (.l b),some v)::(l2++T)) g:=by rw[hz] at d2;simpa using d2
    obtain⟨a,S,r⟩:=G.ownAt;cases S;obtain⟨us,Y,rx⟩:=r;refine⟨a,u,us,b,p,m,rfl,Y,rx.imm ix,rp.imm ip,J,hx,λv n F f s D A=>?_⟩;have P:=Lw.DS.writeF G (H':=n) (d':=.l (b++pY p b.length m)) f ⟨F,s,D.mono (Kp.no λ_ _ _ e=>e)⟩;have L:=d (.o (.l (b++pY p b.length m))) (some (.ref a));rw[wT M] at L;refine k _ _ v n (by rw[bH];exact O) ?_ x;have R:DS X.K B ((c.set i (.o (.l (b++pY p b.length m)))).zip j++T) n:=by rw[L];simpa using P
    exact (R.pushF (A.mono (Kp.no λ_ _ _ e=>e))).mid
theorem Pl (F:FnOk X.prog X.w X.K X.mg X.base mH k f fd U (Ao X.K)) (T:Room k X.A) (C:Gl X x) (J:X.mg x=some (.ref f)) (I:PySem.W.keepIn X.K (.ref f)=true) (r:tU X.K fd U [])
  (o:pS X (e::l) ta) (g:(x == ("__debug__" : Af))=false:=by decide) (j:StB X e l pos:=by exact {}) :
  PD X (.Call (.Name x p) (e::l) [] pos) (Mn ta):=(rQ F T C J I r .nil qS o g j).mono λ_ _ _ h=>Xs h
end
theorem kW (I:Aa Sl->Prop) (o:∀ N:Aa Sl->Prop,(∀ g,I g->N g)->t l { j with nx:=N } r) (p:∀ g,I g->u l j g):Bd t u l j r:=o _ p
theorem rP (p:Aa D) (l:Aa Sl) (r:∀ J:Aa D->Aa Sl->Prop,J p l->ι I ρ J) (Pv:Nat->Aa Sl->Prop) (T:Pv 0 l)
  (U:∀ (i:Nat) d j,p[i]?=some d->Pv i j->g d j λC=>tb I { nx:=Pv (i+1),ct:=Pv (i+1),bk:=o.nx,rt:=o.rt } C) (hd:∀ j,Pv p.length j->o.nx j):Gf ι g tb I o ρ:=r _ ⟨Pv,T,U,hd⟩
theorem yP {j:Type}{f:j->D}{g:Aa j}{i:Nat}{d:D}(h:(g.map f)[i]?=some d):∃ y,g[i]?=some y/\f y=d:=by
 rw[bG] at h;cases e:g[i]? with
 | none=>rw[e] at h;cases h
 | some y=>rw[e] at h;exact⟨y,rfl,bT h⟩
theorem xG {lo:Int}(h:(nH lo n)[i]?=some d):i<n/\d = .int (lo+i):=by
 unfold nH at h;rw[bG] at h;cases e:(List.range n)[i]? with
 | none=>rw[e] at h;cases h
 | some y =>
  rw[e] at h;obtain⟨a,b⟩:=aK.mp e;rw[cF] at a;rw[List.getElem_range] at b;subst b;exact⟨a,(bT h).symm⟩
end Lw
namespace PySem
open PyProof.Rows L2
section
variable {s:Ae}
theorem R5 (calm:A.handled=none) (out:∀ g e,(∀ b o,s.heap.get? b=some o->g.get? b=some o)->(∃ o,g.get? e=some o/\o.cls = .type "StopIteration")->E (.ref e) { s with heap:=g }) :
  wpAny (model j w) A (do raiseNew (<- newExc (.type "StopIteration") [])) Q E s:=by
 have c:firstArgMember (.type "StopIteration") []=pure Value.none:=by first | rfl | (simp only[firstArgMember];rfl)
 have made:wpAny (model j w) A (newExc (.type "StopIteration") []) (λv d=>∃ e g,v = .ref e/\d={ s with heap:=g }/\(∀ b o,s.heap.get? b=some o->g.get? b=some o)/\∃ o,g.get? e=some o/\o.cls = .type "StopIteration") E s:=by
  unfold newExc newTuple;refine aA (eZ ?_ (by size_fits));refine aA (iJ c ?_);exact eZ ⟨_,_,rfl,rfl,λb o z=>aE _ (aE _ z),_,aR _ rfl,rfl⟩ (by size_fits)
 refine aA (dD made (λv d a=>?_) λ_ _ z=>z);obtain⟨e,g,h,f,k,t⟩:=a;subst h f;unfold raiseNew;refine aA (wpAny_handled ?_);rw[calm];exact aA (aD (wpAny_throw (out g e k t)))
theorem Ja (x:s.heap.IsTupleIter g t i):∃ o,s.heap.get? g=some o/\o.data = .fields #[.ref t,.int i 0]/\s.TypeIs (.ref g) "tuple_iterator" /\ o.cls = .type "tuple_iterator" := by
 obtain⟨o,a,b,c⟩:=x;exact⟨o,a,c,⟨o,a,b⟩,b⟩
theorem AI {h:Ag}{g t:Ad}{i:Nat}{o:Obj}(a:h.get? g=some o) (b:o.cls = .type "tuple_iterator") (c:o.data = .fields #[.ref t,.int i 0]):(h.update g (Obj.mapFields (·.setIfInBounds 1 (rawInt ((i:Int)+1))))).IsTupleIter g t (i+1):=by
 refine⟨_,jB _ a (Obj.isFreed_of_fields (Obj.data_mapFields c _)),?_,?_⟩
 .rw[Obj.cls_mapFields];exact b
 .rw[Obj.data_mapFields c];simp[rawInt]
end
section
theorem Xx (I:s.heap.IsTupleIter j t i) (T:s.heap.IsTuple t C) (J:C[i]?=some x) (q:∀ g,g.IsTupleIter j t (i+1)->Heap.SameBut j s.heap g->Q x { s with heap:=g }) :
  wpAny (model l w) A (Builtin.SmallTypes.nextOf (.ref j)) Q E s:=by
 obtain⟨o,a,c,ty,b⟩:=Ja I;obtain⟨p,m,v,n,u⟩:=id T;have body:wpAny (model l w) A.in1 (Builtin.«tuple_iterator.__next__» ⟨[.ref j],[]⟩) (λr d=>∃ g,r = .done (.ret x)/\d={ s with heap:=g }/\g.IsTupleIter j t (i+1)/\Heap.SameBut j s.heap g) E s:=by
  show wpAny _ _ (field (.ref j) 0 >>= _) _ _ s;refine aA (dO a c (x:=.ref t) rfl ?_);refine (show wpAny _ _ (field (.ref j) 1 >>= _) _ _ s from aA (dO a c (x:=.int i 0) rfl (aA (dU m u ?_))));simp only[eD,J];exact aA (wpAny_setField a c (by simp) (aD ⟨_,rfl,rfl,AI a b c,Heap.SameBut.update ..⟩))
 unfold Builtin.SmallTypes.nextOf;refine aA (cP (name:=Str.ofString "__next__") ty fH (fE fH ty F.entry_tuple_iterator_next (dD body (λr d ⟨g,e,f,h,k⟩=>?_) λ_ _ z=>z) (F.args_tuple_iterator_next_1 _)));subst e f;exact⟨x,rfl,aD (q g h k)⟩
theorem Zk (calm:A.handled=none) (I:s.heap.IsTupleIter j t i) (T:s.heap.IsTuple t C) (r:C[i]?=none)
  (q:∀ g e,Heap.ExtBut j s.heap g->(∃ o,g.get? e=some o/\o.cls = .type "StopIteration")->E (.ref e) { s with heap:=g }):wpAny (model l w) A (Builtin.SmallTypes.nextOf (.ref j)) Q E s:=by
 obtain⟨o,a,c,ty,b⟩:=Ja I;obtain⟨p,d,h,n,f⟩:=id T;have body:wpAny (model l w) A.in1 (Builtin.«tuple_iterator.__next__» ⟨[.ref j],[]⟩) (λ_ _=>False) E s:=by
  show wpAny _ _ (field (.ref j) 0 >>= _) _ _ s;refine aA (dO a c (x:=.ref t) rfl ?_);refine (show wpAny _ _ (field (.ref j) 1 >>= _) _ _ s from aA (dO a c (x:=.int i 0) rfl (aA (dU d f ?_))));simp only[eD,r];refine aA (jU (aA (wpAny_setField a c (by simp) ?_)));exact R5 calm λg e k z=>q g e (λx o nx r=>k x o ((Heap.SameBut.update ..).extBut x o nx r)) z
 unfold Builtin.SmallTypes.nextOf;exact aA (cP (name:=Str.ofString "__next__") ty fH (fE fH ty F.entry_tuple_iterator_next (dD body (λ_ _ z=>z.elim) λ_ _ z=>z) (F.args_tuple_iterator_next_1 _)))
def Cj (z TI TO:Ad) (E:Ac->Ae->Prop):Ac->Ae->Prop:=λe a=>IsZip a.heap z TI TO .ellipsis/\∀ b,Heap.SameBut z a.heap b->E e { a with heap:=b }
theorem Nn {z TI TO:Ad}{a b p q:Ac}{Q:Ac->Ae->Prop}(J:IsZip s.heap z TI TO .none) (aa:IsPair s.heap TI a b)
  (go:∀ C,IsZip C z TI TO .ellipsis->Heap.SameBut z s.heap C->wpAny (model g w) A (Builtin.SmallTypes.nextOf a) (λx T=>IsPair T.heap TO p q/\∀ I,IsPair I TO x q->Heap.SameBut TO T.heap I ->wpAny (model g w) A (Builtin.SmallTypes.nextOf b) (λy U=>IsPair U.heap TO x q/\∀ j,IsPair j TO x y->Heap.SameBut TO U.heap j->IsZip j z TI TO .ellipsis /\ ∀ r,IsZip r z TI TO (rawInt j.objs.size)->IsPair r j.objs.size x y->r.objs.size=j.objs.size+1->(∀ c o,c≠z->j.get? c=some o->r.get? c=some o)->Q (.ref j.objs.size) { U with heap:=r }) (Cj z TI TO E) { T with heap:=I }) (Cj z TI TO E) { s with heap:=C }) :
  wpAny (model g w) A (Builtin.«zip.__next__» ⟨[.ref z],[]⟩) (λfin l=>∃ v,fin = .done (.ret v)/\Q v l) E s:=by
 have free:wpAny (model g w) A (Builtin.SmallTypes.ownedTupleIsFree (.ref z)) (λx l=>x=true/\l=s) E s:=aA (dO J rfl (x:=.none) rfl (aD ⟨rfl,rfl⟩));have back:∀ {i:Type} {m:Sem i} {R:i->Ae->Prop} {l:Ae},wpAny (model g w) A m R (Cj z TI TO E) l->wpAny (model g w) A (m.onRaise λ_=>setField (.ref z) 0 .none) R E l:=λ{i m R l} h =>
  wpAny_onRaise (dD h (λ_ _ z=>z) λe Y ⟨d,K⟩=>gH d (by simp) λr _ O=>K r O)
 unfold Builtin.«zip.__next__»;refine aA (aD (aA (dO J rfl (x:=.bool false) rfl (aA (dO J rfl (x:=.ref TI) rfl (aA (dU aa rfl ?_)))))));refine aA (hO free ?_);rintro _ l ⟨rfl,rfl⟩;simp only[eF];refine aA (jU (aA (dO J rfl (x:=.ref TO) rfl (aA (gH J (by simp) λC P d=>?_)))));simp only[List.zipIdx_cons,List.zipIdx_nil,jO,List.forIn_nil,bind_assoc];refine aA (back (aA (hO (go C P d) λx T ⟨B,g2⟩=>aD ?_)));refine aA (aA (dU B rfl (aA (wpAny_updateSeq_pair B λI N L=>aA (jL (aD ?_))))));refine aA (aA (back (aA (hO (g2 I N L) λy U ⟨D,H⟩=>aD ?_))));refine aA (aA (dU D rfl (aA (wpAny_updateSeq_pair D λj F M=>aA (jL (aD (aD ?_)))))));obtain⟨G,fin⟩:=H j F M;have f:z<j.objs.size:=aM G;refine aA (dU F rfl (aA (wpAny_newTuple ?_ (hsz:=(show 2<=sizeLine by decide)))));have S:IsZip (j.push (seqObj "tuple" #[x,y] 0)) z TI TO .ellipsis:=aE _ G;refine aA (show wpAny _ _ (setField (.ref z) 0 (rawInt j.objs.size) >>= λ_=>setField (.ref z) 1 (.bool false)) _ _ _ from aA (gH S (by simp) λX V t=>gH V (by simp) λk W u=>?_));have up:∀ c o,c≠z->(j.push (seqObj "tuple" #[x,y] 0)).get? c=some o->k.get? c=some o:=λc o n e=>u.extBut _ _ n (t.extBut _ _ n e)
 refine aD ⟨_,rfl,fin k W (up _ _ (gF f) (aR _ rfl)) (by rw[u.1,t.1,cR]) λc o n e=>up c o n (aE _ e)⟩
end
def xM (a b:Ac):Obj:={ cls:=.type "tuple",data:=.seq #[a,b] }
def M3 (a b:Ad):Obj:={ cls:=.type "zip",data:=.fields #[.none,.bool false,.bool false,.ref a,.ref b] }
section
theorem Tf (j:s.heap.IsList l items) (q:Q false s):wpAny (model g w) A (notIterableAtAll (.ref l)) Q E s:=by
 have has:wpAny (model g w) A (specialOf (.ref l) "__iter__") (λr a=>r.isSome=true/\a=s) E s :=
  aA (eW j.typeIs (iJ F.slot_list_iter.lookup ⟨rfl,rfl⟩))
 unfold notIterableAtAll;refine aA (hO has ?_);rintro r _ ⟨e,rfl⟩;rw[bA e];exact aD q
theorem Kc (g:l≠j):∀ (n i:Nat) (s:Ae) (Q:Aa Ac->Ae->Prop),s.heap.IsListIter j l i->s.heap.IsList l items->i+n<=items.size ->
  (∀ p,p.IsListIter j l (i+n)->(∀ b,b≠j->p.get? b=s.heap.get? b)->Q ((items.toList.drop i).take n) { s with heap:=p })->wpAny (model r w) A (draw (.ref j) n) Q E s
 | 0,i,s,Q,hit,_,_,q=>aD (q s.heap hit λ_ _=>rfl)
 | n+1,i,s,Q,hit,d,le,q=>by
  have lt:i<items.size:=by omega
  have this:items[i]?=some items[i]:=fJ lt;have parts:items.toList.drop i=items[i]::items.toList.drop (i+1):=by
   rw[List.drop_eq_getElem_cons (by simpa using lt)];simp
  unfold draw;refine aA (iL hit d this λm a f=>?_);refine aA (bJ (Kc g n (i+1) _ _ a (d.at λo e=>(f.2 l g).trans e) (by omega) λh c k=>aD ?_));have:=q h (by rw[show i+(n+1)=i+1+n by omega];exact c) λb nb=>(k b nb).trans (f.2 b nb)
  rw[parts] at this;exact this
theorem W7 (calm:A.handled=none) (j:s.heap.IsList l items) (C:p.length=items.size) (plain:p.findIdx? (·.1)=none)
  (go:∀ r,(∀ b o,s.heap.get? b=some o->r.get? b=some o)->wpAny (model g w) A (assignInOrder (p.map (·.2)) items.toList) Q E { s with heap:=r }):wpAny (model g w) A (unpack (.ref l) p) Q E s:=by
 have lt:l<s.heap.objs.size:=by
  obtain⟨_,e,_⟩:=j;exact aM e
 let a:=s.heap.push { cls:=.type "list_iterator",data:=.fields #[.ref l,.int 0 0] };have same:∀ b o,s.heap.get? b=some o->a.get? b=some o:=λb o e=>aE _ e
 have less:∀ b o,s.heap.get? b=some o->b≠s.heap.objs.size:=λb o e=>aX (aM e)
 have c:a.IsListIter s.heap.objs.size l 0:=⟨_,aR _ rfl,rfl,rfl⟩;have h:a.IsList l items:=j.at λo e=>same _ o e
 unfold unpack;rw[plain,C];refine aA (bJ ?_);unfold unpackItems;refine aA (Tf j ?_);rw[bB aU];refine aA (bJ (dN j ?_));refine aA (bJ (Kc (aX lt) items.size 0 _ _ c h (by omega) λi d f=>?_));have all:(items.toList.drop 0).take items.size=items.toList:=by rw[List.drop_zero];exact aO (by simp)
 have n:i.IsList l items:=h.at λo e=>(f l (aX lt)).trans e
 rw[all,bB (by simp)];refine aA (bJ (jA calm d n (gG (by omega)) λk m=>?_));simp only[Option.isSome_none,eS,eE];exact aD (go k λb o e=>m b o (less b o e) ((f b (less b o e)).trans (same b o e)))
end
end PySem
namespace L2
open PySem PySem.Spec PyProof.Rows
section
variable {X:Cx}
def Yb (K:kG) (n:Nat) (t:vN):TG:=λv c H Q=>∃ a b,v = .ref a/\eT K H a b/\b.length=n/\t b c H Q
theorem CQ (l:X.calm=true) (h:tV X g t)
  (o:(assignEach g X.env).length=n:=by rfl) (plain:(assignEach g X.env).findIdx? (·.1)=none:=by rfl) (j:∀ v,assign (.Tuple g k pos) X.env v=(do standAt pos;unpack v (assignEach g X.env)):=by intro _;rfl):PG X (.Tuple g k pos) (Yb X.K n t):=by
 intro b s q H v u Q I r hw;obtain⟨a,m,rfl,e,d,hw⟩:=hw;cases r;obtain⟨f,c,i,x⟩:=I.list e;rw[j];refine aA (jK (W7 (I.ok.hd l) i.isList (by rw[o,<- d,aP];exact c.length) plain λw k=>?_));exact h b _ q H m _ Q (I.kept (t':=s.toks) k) (by simpa using c) hw
end
end L2
namespace L2
open PySem PySem.Spec PyProof.Rows Lw
def Sn (n:Nat) (g:wC):rS:=λd c b=>match d with
 | .l a=>a.length=n/\g a c b
 | _=>False
section
variable {X:Cx}
theorem Kf (r:X.calm=true) (h:zK X m g o) (C:(assignEach g X.env).length=n:=by rfl) (j:(assignEach g X.env).findIdx? (·.1)=none:=by rfl) (p:∀ v,assign (.Tuple g k pos) X.env v=(do standAt pos;unpack v (assignEach g X.env)):=by intro _;rfl):tW X m (.Tuple g k pos) (Sn n o) :=
 (CQ r h C j p).mono λv w H Q b=>b.elim λB u T d t q hd c k=>by
  cases d with
  | l f =>
   obtain⟨a,s,rfl,_,i,e⟩:=hd.valAt.lst_inv;exact⟨a,s,rfl,eT.of i,by rw[<- e.length];exact c.1,B,u,T,f,t,q,e.length,hd.drop.pushs (A:=λ_=>True) e,c.2,k⟩
  | _=>exact c.elim
end
end L2
namespace Lw
open PySem L2
abbrev LP:=Aa (Aa Nat×Nat)
def tX (p:Aa Nat×Nat):D:=.l [.l (p.1.map λn=>D.int (n:Nat)),.int (p.2:Nat)]
def dK (g:LP):Nat:=(g.map λp=>p.1.length).sum
structure LpOk (lp:LP):Prop where
 some:lp≠[]
 sz:∀ p∈lp,p.1≠[]
 n4:dK lp<=4
 dl:∀ p∈lp,∀ n∈p.1,1<=n/\n<=3
 tl:∀ p∈lp,p.2<=19
def N0:RD:=λb e f=>∃ d c:Ad,b=[d,c]/\e=[.r (.ref d)]/\∀ a,LpOk a->f (.v (.l (a.map tX)))
theorem oM (a b:LP):dK (a++b)=dK a+dK b:=by unfold dK;rw[List.map_append,List.sum_append]
abbrev Pt:=Bool×Nat
def nU (p:Pt):D:=Ls (if p.1=true then "gate" else "in") p.2
def pA (p:Pt) (n:Nat):Nat->Pt
 | 0=>p
 | m+1=>(true,n+m)
def oI (p:Pt) (n:Nat):Nat->Aa Pt
 | 0=>[]
 | m+1=>oI p n m++[pA p n m]
theorem uM (p:Pt) (n:Nat):∀ m,(oI p n m).length=m
 | 0=>rfl
 | m+1=>by rw[oI,bC,uM p n m];rfl
theorem Gm (p:Pt) (n:Nat):∀ m,wW (nU p) n m=nU (pA p n m)
 | 0=>rfl
 | m+1=>rfl
theorem Ec (p:Pt) (n:Nat):∀ m,pY (nU p) n m=(oI p n m).map nU
 | 0=>rfl
 | m+1=>by rw[pY,oI,aZ,Ec p n m,Gm];rfl
theorem Mv (g:Aa Pt):qX (g.map nU)=true:=Jv λd hd=>by
 obtain⟨p,_,rfl⟩:=aJ.mp hd;rfl
abbrev yJ:=Aa Pt×Aa (Nat×Nat)
def lR (c:Nat) (g:Aa Nat) (s:yJ):Nat->yJ
 | 0=>s
 | k+1=>((lR c g s k).1++oI (false,c+k) (lR c g s k).1.length (g.getD k 0),(lR c g s k).2++[((pA (false,c+k) (lR c g s k).1.length (g.getD k 0)).2,c+(k+1)%g.length)])
theorem Ca (h:∀ n∈ds,n<=3):∀ k,(lR c ds s k).1.length<=s.1.length+3*k/\(lR c ds s k).2.length=s.2.length+k
 | 0=>⟨aH _,rfl⟩
 | k+1=>by
  obtain⟨a,b⟩:=Ca (c:=c) (s:=s) h k;have:ds.getD k 0<=3:=by
   rw[dL];cases e:ds[k]? with
   | none=>simp
   | some n=>exact h n (aL e)
  simp only[lR,bC,uM,dP];omega
def Do (st:yJ×Nat) (p:Aa Nat×Nat):yJ×Nat:=(lR st.2 p.1 st.1 p.1.length,st.2+p.1.length)
def lF (g:LP):yJ×Nat:=g.foldl Do (([],[]),0)
theorem Dw (g:LP) (p:Aa Nat×Nat):lF (g++[p])=Do (lF g) p:=by unfold lF;rw[List.foldl_append];rfl
theorem vF {lp:LP}(h:∀ p∈lp,∀ n∈p.1,n<=3):∀ i,(lF (lp.take i)).1.1.length<=3*dK (lp.take i)/\(lF (lp.take i)).1.2.length=dK (lp.take i)/\(lF (lp.take i)).2=dK (lp.take i)
 | 0=>by simp[lF,dK]
 | i+1=>by
  obtain⟨b,d,f⟩:=vF h i;rw[bI];cases e:lp[i]? with
  | none=>simpa using ⟨b,d,f⟩
  | some p =>
   simp only[fF];rw[Dw,oM];obtain⟨g1,g2⟩:=Ca (c:=(lF (lp.take i)).2) (ds:=p.1) (s:=(lF (lp.take i)).1) (h p (aL e)) p.1.length;have a:dK [p]=p.1.length:=by simp[dK]
   rw[a];unfold Do;simp only;omega
def qM (n:Nat) (st:(Aa Pt×Aa Nat)×Nat) (p:Aa Nat×Nat):(Aa Pt×Aa Nat)×Nat :=
 (if 0<min p.2 (24-st.1.1.length)/\n+st.1.2.length<6 then (st.1.1++oI (false,st.2) st.1.1.length (min p.2 (24-st.1.1.length)),st.1.2++[(pA (false,st.2) st.1.1.length (min p.2 (24-st.1.1.length))).2]) else st.1,st.2+p.1.length)
def lY (n:Nat) (rows:Aa Pt) (g:LP):(Aa Pt×Aa Nat)×Nat:=g.foldl (qM n) ((rows,[]),0)
theorem Ce (n:Nat) (rows:Aa Pt) (g:LP) (p:Aa Nat×Nat):lY n rows (g++[p])=qM n (lY n rows g) p:=by unfold lY;rw[List.foldl_append];rfl
theorem ED {st:(Aa Pt×Aa Nat)×Nat}(g:st.1.1.length<=24) (j:n+st.1.2.length<=6):(qM n st p).1.1.length<=24/\n+(qM n st p).1.2.length<=6:=by
 unfold qM;by_cases z:0<min p.2 (24-st.1.1.length)/\n+st.1.2.length<6
 .rw[bA z];simp only[bC,uM,dP];omega
 .rw[bB z];exact⟨g,j⟩
theorem Ob (j:rows.length<=24) (l:n<=6):∀ g:LP,(lY n rows g).1.1.length<=24/\n+(lY n rows g).1.2.length<=6:=by
 have go:∀ (g:LP) (st:(Aa Pt×Aa Nat)×Nat),st.1.1.length<=24->n+st.1.2.length<=6->(g.foldl (qM n) st).1.1.length<=24/\n+(g.foldl (qM n) st).1.2.length<=6:=by
  intro g;induction g with
  | nil=>exact λst a b=>⟨a,b⟩
  | cons p g e =>
   intro st a b;obtain⟨c,d⟩:=ED (p:=p) a b;exact e _ c d
 exact λg=>go g _ j (by simpa using l)
def kS (g:LP):Aa (Nat×Nat):=(lF g).1.2
def kL (g:LP):Aa Pt:=(lY (kS g).length (lF g).1.1 g).1.1
def mL (g:LP):Aa Nat:=(lY (kS g).length (lF g).1.1 g).1.2
def Bc (n:Nat) (g:Aa Pt):Prop:=∀ (i:Nat) (p:Pt),g[i]?=some p->if p.1=true then p.2<i else p.2<n
theorem Bc.led (h:Bc n g) (l:a<n):∀ m,Bc n (g++oI (false,a) g.length m)
 | 0=>by simpa [oI] using h
 | m+1=>by
  have b:=h.led l m;rw[oI,<- bD];intro i p e;by_cases z:i<(g++oI (false,a) g.length m).length
  .rw[cK z] at e;exact b i p e
  .rw[bN (by omega)] at e;have c:(g++oI (false,a) g.length m).length=g.length+m:=by rw[bC,uM]
   cases q:i-(g++oI (false,a) g.length m).length with
   | succ j=>rw[q] at e;simp at e
   | zero =>
    rw[q] at e;simp only[List.getElem?_cons_zero,iR] at e;subst e;cases m with
    | zero=>simpa [pA] using l
    | succ m=>simp only[pA,eF];omega
theorem Bg (h:1<=m):(pA p n m).2=n+m-1:=by
 cases m with
 | zero=>omega
 | succ m=>simp[pA]
structure LpW (n:Nat) (rs:List Pt) (os:List Nat):Prop where
 wf:Bc n rs
 inc:os.Pairwise (·<·)
 lt:∀ o∈os,o<rs.length
theorem LpW.led {os:Aa Nat}(h:LpW n g os) (l:a<n) (j:1<=m):LpW n (g++oI (false,a) g.length m) (os++[(pA (false,a) g.length m).2]):=by
 have b:(g++oI (false,a) g.length m).length=g.length+m:=by rw[bC,uM]
 refine⟨h.wf.led l m,List.pairwise_append.mpr ⟨h.inc,List.pairwise_singleton _ _,λx d y e=>?_⟩,λo c=>?_⟩
 .rw[aQ.mp e,Bg j];have:=h.lt x d;omega
 .rw[b];rcases aV.mp c with q | q
  .have:=h.lt o q;omega
  .rw[aQ.mp q,Bg j];omega
theorem yC {g:Aa Nat}{k:Nat}(h:k<g.length):g.getD k 0∈g:=by
 rw[dL,aI h];exact cQ h
theorem Kz (h:LpW n s.1 (s.2.map (·.1))) (hd:∀ m∈g,1<=m) (l:c+g.length<=n):∀ k,k<=g.length->LpW n (lR c g s k).1 ((lR c g s k).2.map (·.1))/\(lR c g s k).2.map (·.2)=s.2.map (·.2)++(List.range k).map λj=>c+(j+1)%g.length
 | 0,_=>⟨h,by simp[lR]⟩
 | k+1,d=>by
  obtain⟨a,b⟩:=Kz h hd l k (by omega);refine⟨?_,?_⟩
  .show LpW n ((lR c g s k).1++_) (((lR c g s k).2++[(_,_)]).map λq:Nat×Nat=>q.1);rw[aZ];exact a.led (by omega) (hd _ (yC (by omega)))
  .show (((lR c g s k).2++[(_,_)]).map λq:Nat×Nat=>q.2)=_;rw[aZ,b,gO,aZ,bD];rfl
theorem BR (g:i<l) (o:j<l) (e:(i+1)%l=(j+1)%l):i=j:=by
 by_cases a:i+1=l
 .by_cases b:j+1=l
  .omega
  .rw[a,Nat.mod_self,gW (show j+1<l by omega)] at e;omega
 .by_cases b:j+1=l
  .rw[b,Nat.mod_self,gW (show i+1<l by omega)] at e;omega
  .rw[gW (show i+1<l by omega),gW (show j+1<l by omega)] at e;omega
theorem Te (c l:Nat):((List.range l).map λj=>c+(j+1)%l).Nodup:=yF List.nodup_range λi a j b e=>BR (cH.mp a) (cH.mp b) (by omega)
theorem zO (l:∀ p∈g,∀ n∈p.1,1<=n) (o:∀ p∈g,∀ n∈p.1,n<=3):∀ i,i<=g.length->LpW (dK g) (lF (g.take i)).1.1 ((lF (g.take i)).1.2.map (·.1))/\((lF (g.take i)).1.2.map (·.2)).Nodup/\∀ x∈(lF (g.take i)).1.2.map (·.2),x<dK (g.take i)
 | 0,_=>⟨⟨λi p e=>by simp[lF] at e,by simp[lF],by simp[lF]⟩,by simp[lF],by simp[lF]⟩
 | i+1,u=>by
  obtain⟨w,s,lt⟩:=zO l o i (by omega);obtain⟨_,_,a⟩:=vF o i;have e:g[i]?=some g[i]:=aI (by omega);have f:g.take (i+1)=g.take i++[g[i]]:=by rw[bI,e];rfl
  have d:dK [g[i]]=g[i].1.length:=by simp[dK]
  have le:dK (g.take i)+g[i].1.length<=dK g:=by
   have:=oM (g.take (i+1)) (g.drop (i+1));rw[cI,f,oM,d] at this;omega
  rw[f,Dw,oM,d];obtain⟨t,h⟩:=Kz (c:=(lF (g.take i)).2) w (l _ (cQ _)) (by rw[a];exact le) g[i].1.length (aH _);refine⟨t,?_,?_⟩
  .show ((lR _ _ _ _).2.map (·.2)).Nodup;rw[h,a];refine bL.mpr ⟨s,Te _ _,λx b y m=>?_⟩;have:=lt x b;obtain⟨j,_,rfl⟩:=aJ.mp m;omega
  .show ∀ x∈(lR _ _ _ _).2.map (·.2),_;rw[h,a];intro x b;rcases aV.mp b with q | q
   .have:=lt x q;omega
   .obtain⟨j,k,rfl⟩:=aJ.mp q;have:=Nat.mod_lt (j+1) (show 0<g[i].1.length by have:=cH.mp k;omega);omega
theorem G7 (j:∀ p∈g,p.1≠[]) (h:LpW (dK g) rows as):∀ i,i<=g.length->LpW (dK g) (lY n rows (g.take i)).1.1 (as++(lY n rows (g.take i)).1.2)/\(lY n rows (g.take i)).2=dK (g.take i)
 | 0,_=>⟨by simpa [lY] using h,by simp[lY,dK]⟩
 | i+1,d=>by
  obtain⟨w,c⟩:=G7 j h i (by omega);have e:g[i]?=some g[i]:=aI (by omega);have b:g.take (i+1)=g.take i++[g[i]]:=by rw[bI,e];rfl
  have a:dK [g[i]]=g[i].1.length:=by simp[dK]
  have pos:=fX.mpr (j g[i] (cQ _));have le:dK (g.take i)+g[i].1.length<=dK g:=by
   have:=oM (g.take (i+1)) (g.drop (i+1));rw[cI,b,oM,a] at this;omega
  rw[b,Ce,oM,a];refine⟨?_,by show (lY n rows (g.take i)).2+g[i].1.length=_;rw[c]⟩;unfold qM;by_cases z:0<min g[i].2 (24-(lY n rows (g.take i)).1.1.length)/\n+(lY n rows (g.take i)).1.2.length<6
  .rw[bA z,<- bD];exact w.led (by rw[c];omega) z.1
  .rw[bB z];exact w
def kZ (g:Aa Af) (i:Nat):Af:=g.getD i ""
def xL (g:Aa Af) (n k:Nat) (p:Pt):Af×Af×Aa Af:=(kZ g (n+k),if k%2=0 then "and" else "or",[kZ g (p.2+if p.1=true then n else 0),kZ g (p.2+if p.1=true then n else 0)])
def mV (j:Aa Af) (n:Nat) (g:Aa Pt):nZ:=g.zipIdx.map λp=>xL j n p.2 p.1
def lN (j:Aa Af) (g:LP):Aa (Af×Af):=(kS g).map λp=>(kZ j (dK g+p.1),kZ j p.2)
def kQ (j:Aa Af) (g:LP):Cel:=⟨j.take (dK g),mV j (dK g) (kL g),(lN j g).map (·.1)++(mL g).map λo=>kZ j (dK g+o)⟩
def Oq:RD:=λe f h=>∃ (d c:Ad) (a:LP),e=[d,c]/\f=[.r (.ref d),.l (a.map tX)]/\LpOk a/\∀ b:Aa Af,b.length=dK a+(kL a).length->b.Nodup->(∀ x∈b,GoodName x)->h (.v (mE (kQ b a) (lN b a)))
theorem Ri:(["k","deck"]:Aa Af).Nodup:=by decide +kernel
theorem Kx:(["out","into","names","count"]:Aa Af).Nodup:=by decide +kernel
theorem CA:(["pair"]:Aa Af).Nodup:=by decide +kernel
theorem Ym:(["out","names","count"]:Aa Af).Nodup:=by decide +kernel
section
variable {P:Ah}{K:kG}
theorem oS {P:Aa Af}(a:j.kind = .function:=by rfl) (b:j.isCoroutine=false:=by rfl) (c:j.isGenerator=false:=by rfl) (d:N.Nodup:=by decide +kernel) (e:N.take P.length=P:=by rfl) (f:∀ x∈P,j.names.lookup x=some .local\/j.names.lookup x=some .cell:=by decide +kernel) (g:∀ y∈j.names,y.2 ≠ .free:=by decide +kernel):L2.FnScope N P j:=⟨a,b,c,d,e,f,g⟩
theorem yT:FnScope ["deck","left","loops","size"] ["deck"] (lJ Cz):=oS
theorem Va (T:Txt j) (g:Kn P w K j base 1 "_law_take" vA ["deck","many"] Ep):oJ P w K j base 2 "_law_loops" Cz ["deck"] N0:=by
 refine pF yT λf W A R s H E J U Φ k hu Y=>?_
 obtain⟨d,c,rfl,rfl,Q⟩:=Y;refine⟨_,(kR (lG 1 yT.nd (mR mB mC hI (mP g k (eH (eM 0) (eH hI gD))))) (kR (lG 2 yT.nd (oA gD)) (kR (wP dX (yR Dd Ds (pv 1) hI) (kR (lG 3 yT.nd (mR mB mC hI (mP g k (eH (eM 0) (eH (eM 1) gD))))) (kR (lG 1 yT.nd (mO oG oX 1 (eM 3))) (lU (vH (vD bY cC cD sV vC (pv 2) (eH (oA (eH (nW ["k"] ["deck"] [0] (yQ (by rfl) T.range (eM 3)) (λ_ _ _ _ _=>(kX 0 Ri)) (λ_ _ _ _ _=>(mR mB mC hI (mP g k (eH (eM 1) (eH hI gD)))))) (eH (mP g k (eH (eM 0) (eH hI gD))) gD))) gD))))))) (lU (nS (eM 2)))))),?_⟩;refine kW (λb=>∃ n:Nat,1<=n/\n<=4/\b=[.v (.r (.ref d)),.v (.int n),.n,.n]) (λN m=>?_) ?_
 .exact⟨d,c,4,rfl,rfl,by decide,by decide,λr k=>⟨.inl rfl,m _ ⟨r+1,by omega,by omega,by rw[show (((r+1:Nat)):Int)=1+(r:Int) by omega];rfl⟩⟩⟩
 rintro _ ⟨n,n1,n4,rfl⟩;refine kW (λb=>b=[.v (.r (.ref d)),.v (.int n),.o (.l []),.n]) (λN m=>⟨by show 0<=1000;decide,m _ rfl⟩) ?_;rintro _ rfl;refine kW (λb=>∃ (a:LP) (V u:Sl),LpOk a/\b=[.v (.r (.ref d)),V,.o (.l (a.map tX)),u]) (λN m=>?_) ?_
 .refine⟨λb=>∃ (a:LP) (left:Nat) (u:Sl),left+dK a=n/\(∀ p∈a,p.1≠[])/\(∀ p∈a,∀ n∈p.1,1<=n/\n<=3)/\(∀ p∈a,p.2<=19)/\b=[.v (.r (.ref d)),.v (.int left),.o (.l (a.map tX)),u],λb=>match b with | [_,.v (.int l),_,_]=>l.toNat | _=>0,⟨[],n,.n,by simp[dK],by simp,by simp,by simp,rfl⟩,?_⟩;rintro b ⟨a,left,u,B,y,G,L,rfl⟩;refine⟨rfl,?_⟩;show if decide ((0:Int)<(left:Int))=true then _ else _
  by_cases z:(0:Int)<(left:Int)
  .rw[cV z,bA rfl];refine⟨d,c,left,rfl,rfl,by omega,by omega,λr k=>⟨.inl rfl,rfl,?_⟩⟩;have X:(left:Int)-(1+(r:Int))=((left-(r+1):Nat):Int):=by omega
   have e2:(1+(r:Int)).toNat=r+1:=by omega
   refine⟨rfl,by omega,by omega,λi S F=>(∃ e:Aa Nat,S=e.map (λn=>D.int (n:Nat))/\e.length=i/\∀ n∈e,1<=n/\n<=3)/\F=[.v (.r (.ref d))],⟨⟨[],rfl,rfl,by simp⟩,rfl⟩,?_,?_⟩
   .rintro i x S F C _ ⟨⟨e,rfl,h,M⟩,rfl⟩;have hi:i<r+1:=by have:=(xG C).1;omega
    refine⟨d,c,3,rfl,rfl,by decide,by decide,λq O=>⟨.inl rfl,by rw[aB];omega,⟨e++[q+1],?_,by simp[h],λn B=>?_⟩,rfl⟩⟩
    .rw[aZ,show (1:Int)+(q:Int)=((q+1:Nat):Int) by omega];rfl
    .rcases aV.mp B with z | z
     .exact M n z
     .rw[aQ.mp z];omega
   .rintro S F _ ⟨⟨e,rfl,h,M⟩,rfl⟩;have h:e.length=r+1:=by rw[h];simp[nH];omega
    refine⟨d,c,20,rfl,rfl,by decide,by decide,λq O=>⟨.inl rfl,by show 2<=1000;decide,?_⟩⟩;have Z:a.length<=dK a:=by
     unfold dK;clear B G L;induction a with
     | nil=>simp
     | cons p a I =>
      have:=I λq O=>y q (aN _ O)
      have:=fX.mpr (y p aG);simp;omega
    refine⟨by show (a.map tX).length<100000;rw[aB];omega,⟨a++[(e,q)],left-(r+1),.v (.int (1+(r:Int))),?_,?_,?_,?_,?_⟩,?_⟩
    .rw[oM,show dK [(e,q)]=r+1 by simp[dK,h]];omega
    .intro p t;rcases aV.mp t with z | z
     .exact y p z
     .rw[aQ.mp z];intro z;simp only at z;rw[z] at h;simp at h
    .intro p t;rcases aV.mp t with z | z
     .exact G p z
     .rw[aQ.mp z];exact M
    .intro p t;rcases aV.mp t with z | z
     .exact L p z
     .rw[aQ.mp z];show q<=19;omega
    .rw[aZ,<- X];rfl
    .show ((left:Int)-(1+(r:Int))).toNat<((left:Nat):Int).toNat;omega
  .rw[bS z,bB (by decide)];have:left=0:=by omega
   refine m _ ⟨a,_,_,⟨?_,y,by omega,G,L⟩,rfl⟩;rintro rfl;simp[dK] at B;omega
 rintro _ ⟨a,V,u,ok,rfl⟩;exact Q a ok
def nF (g:Aa Pt):D:=.l (g.map nU)
def nL (g:Aa (Nat×Nat)):D:=.l (g.map λp=>D.t [.int (p.1:Nat),.int (p.2:Nat)])
def oY (g:Aa Nat):D:=.l (g.map λn=>D.int (n:Nat))
theorem Jt {p:Prop} [Decidable p] (h:p){a b:Prop}(g:a):if decide p=true then a else b:=by rw[cV h];exact g
theorem Ou {p:Prop} [Decidable p] (h:¬ p){a b:Prop}(g:b):if decide p=true then a else b:=by rw[bS h];exact g
theorem BI {g:Aa Pt}{i:Nat}{x:D}(h:(uA (g.map nU))[i]?=some x):∃ p,g[i]?=some p/\x = .t [.int i,nU p]:=by
 obtain⟨a,_⟩:=aK.mp h;rw[Ck,aB] at a;have:=K9 (xs:=g.map nU) (i:=i) (d:=nU g[i]) (by rw[bG,aI a];rfl);rw[this] at h;cases h;exact⟨_,aI a,rfl⟩
theorem yI {g:Aa Af}{i:Nat}(h:i<g.length):lQ (g.map D.str) (i:Int)=some (.str (kZ g i)):=pV (by rw[bG,aI h];simp[kZ,h])
abbrev mN (d:Ad) (J:LP) (rows along p count g tail k part first many names j kind I one o C:Sl):Aa Sl:=[.v (.r (.ref d)),.v (.l (J.map tX)),rows,along,p,count,g,tail,k,part,first,many,names,j,kind,I,one,o,C]
theorem nD:FnScope ["deck","loops","rows","along","outs","count","delays","tail","k","part","first","many","names","gates","kind","at","one","pairs","told"] ["deck","loops"] (lJ Dv):=oS
theorem S7 (T:Txt mg) (r:Gd K mg "_law_led" Bn ["rows","part","many"] fL ar) (I:FnOk P w K mg base mH 1 fL ar ["rows","part","many"] (Ao K)) (J:Kn P w K mg base 3 "_law_names" Bo ["deck","many"] Oh):oJ P w K mg base 4 "_law_looped" Dv ["deck","loops"] Oq:=by
 refine pF nD λf a4 A az s H E dk ds Φ hr hu hR=>?_
 obtain⟨d,c,u,rfl,rfl,ok,ax⟩:=hR;refine⟨_,(kR (lG 2 nD.nd (oA gD)) (kR (lG 3 nD.nd (oA gD)) (kR (lG 4 nD.nd (oA gD)) (kR (lG 5 nD.nd hI) (kR (rB (nG (eM 1)) (Kf (n:=2) rfl (mD (kX 6 nD.nd) (mD (kX 7 nD.nd) pQ))) (kR (rB (yQ (by rfl) T.range (nN rC rD T.len bP (eH (eM 6) gD))) (kX 8 nD.nd) (kR (lG 9 nD.nd (Pl I (hr.mono (by decide)) (by rfl) r.m r.k r.b (sO (pv 2) (eH (qL (eH xO (eH (mO mB mC 5 (eM 8)) gD))) (eH (lI hu 6 (eM 8)) gD))))) (lU (vH (vD bY cC cD sV vC (pv 3) (eH (qL (eH (lI hu 9 hI) (eH (mO mB mC 5 (mR pT Gy (mO mB mC 8 hI) (nN rC rD T.len bP (eH (eM 6) gD)))) gD))) gD)))))) (lU (lG 5 nD.nd (mO mB mC 5 (nN rC rD T.len bP (eH (eM 6) gD))))))) (kR (lG 10 nD.nd hI) (kR (rB (nG (eM 1)) (Kf (n:=2) rfl (mD (kX 6 nD.nd) (mD (kX 7 nD.nd) pQ))) (kR (lG 11 nD.nd (nN (R7 rfl) Wr T.min PyProof.Rows.boot_min (eH (eM 7) (eH (mR oG oX hI (nN rC rD T.len bP (sO (pv 2) gD))) gD)))) (kR (Dj (zD (Ft (yR Dd Ds (pv 11) hI) (Fb (uB Vi Tq (mR mB mC (nN rC rD T.len bP (sO (pv 3) gD)) (nN rC rD T.len bP (sO (pv 4) gD))) hI)))) (lU (vH (vD bY cC cD sV vC (pv 4) (eH (zX hu (Pl I (hr.mono (by decide)) (by rfl) r.m r.k r.b (sO (pv 2) (eH (qL (eH xO (eH (eM 10) gD))) (eH (eM 11) gD)))) hI) gD)))) Av) (lU (lG 10 nD.nd (mO mB mC 10 (nN rC rD T.len bP (eH (eM 6) gD)))))))) (kR (lG 12 nD.nd (mP J hr (eH (eM 0) (eH (mO mB mC 5 (nN rC rD T.len bP (sO (pv 2) gD))) gD)))) (kR (lG 13 nD.nd (oA gD)) (kR (rB (BN (by rfl) T.enumerate (eM 2)) (qR (n:=2) rfl (mD (kX 8 nD.nd) (mD (qR (n:=2) rfl (mD (kX 14 nD.nd) (mD (kX 15 nD.nd) pQ))) pQ))) (kR (lG 16 nD.nd (lI hu 12 (mO mB mC 15 (zX hu (oA (eH hI (eH (eM 5) gD))) (sI Rs Ut T.int PyProof.Rows.boot_int (eH (Vl (zB hr.units) (tT false) (pv 14) xO) gD)))))) (lU (vH (vD bY cC cD sV vC (pv 13) (eH (qL (eH (lI hu 12 (mO mB mC 5 (eM 8))) (eH (zX hu (oA (eH xO (eH xO gD))) (mO pT Gy 8 hI)) (eH (qL (eH (eM 16) (eH (eM 16) gD))) gD)))) gD)))))) (kR (lG 17 nD.nd (sI wX wZ T.tuple cT (eH (nW ["out","into"] ["names","count"] [12,5] (nG (eM 3)) (λ_ _ _ _ _=>(qR (n:=2) rfl (mD (kX 0 Kx) (mD (kX 1 Kx) pQ)))) (λ_ _ _ _ _=>(qL (eH (lI hu 2 (mO mB mC 3 (eM 0))) (eH (lI hu 2 (eM 1)) gD))))) gD))) (kR (lG 18 nD.nd (mR mB mC (nW ["pair"] [] [] (nG (eM 17)) (λ_ _ _ _ _=>(kX 0 CA)) (λ_ _ _ _ _=>(lI hu 0 hI))) (nW ["out"] ["names","count"] [12,5] (nG (eM 4)) (λ_ _ _ _ _=>(kX 0 Ym)) (λ_ _ _ _ _=>(lI hu 1 (mO mB mC 2 (eM 0))))))) (lU (nS (qL (eH (qL (eH (sI wX wZ T.tuple cT (eH (zZ zY yS (pv 12) Cw (wL (eM 5))) gD)) (eH (sI wX wZ T.tuple cT (sO (pv 13) gD)) (eH (sI wX wZ T.tuple cT (eH (eM 18) gD)) gD)))) (eH (eM 17) gD))))))))))))))))),?_⟩;refine kW (λz=>z=mN d u (.o (.l [])) .n .n .n .n .n .n .n .n .n .n .n .n .n .n .n .n) (λN B=>⟨by show 0<=1000;decide,B _ rfl⟩) ?_;rintro _ rfl;refine kW (λz=>z=mN d u (.o (.l [])) (.o (.l [])) .n .n .n .n .n .n .n .n .n .n .n .n .n .n .n) (λN B=>⟨by show 0<=1000;decide,B _ rfl⟩) ?_;rintro _ rfl;refine kW (λz=>z=mN d u (.o (.l [])) (.o (.l [])) (.o (.l [])) .n .n .n .n .n .n .n .n .n .n .n .n .n .n) (λN B=>⟨by show 0<=1000;decide,B _ rfl⟩) ?_;rintro _ rfl;refine kW (λz=>z=mN d u (.o (.l [])) (.o (.l [])) (.o (.l [])) (.v (.int 0)) .n .n .n .n .n .n .n .n .n .n .n .n .n) (λN B=>B _ rfl) ?_;rintro _ rfl;have n4:=ok.n4;have d3:∀ p∈u,∀ n∈p.1,n<=3:=λp U n hn=>(ok.dl p U n hn).2
 have ai:∀ i,dK (u.take i)<=4:=λi=>by
  have:=oM (u.take i) (u.drop i);rw[cI] at this;omega
 refine kW (λz=>∃ V X F Q,z=mN d u (.o (nF (lF u).1.1)) (.o (nL (kS u))) (.o (.l [])) (.v (.int (dK u:Nat))) V X F Q .n .n .n .n .n .n .n .n .n) (λN B=>?_) ?_
 .refine rP (u.map tX) (mN d u (.o (.l [])) (.o (.l [])) (.o (.l [])) (.v (.int 0)) .n .n .n .n .n .n .n .n .n .n .n .n .n) (λΨ h=>h)
   (λi z=>∃ V X F Q,z=mN d u (.o (nF (lF (u.take i)).1.1)) (.o (nL (lF (u.take i)).1.2)) (.o (.l [])) (.v (.int ((lF (u.take i)).2:Nat))) V X F Q .n .n .n .n .n .n .n .n .n) ⟨.n,.n,.n,.n,rfl⟩ ?_ ?_
  .rintro i x z hx ⟨V,X,F,Q,rfl⟩;obtain⟨p,U,rfl⟩:=yP hx;have ac:=aL U;obtain⟨b1,b2,b3⟩:=vF d3 i;have b4:=ai i;have b5:=ai (i+1);rw[bI,U,fF,oM,show dK [p]=p.1.length by simp[dK]] at b5;have st:lF (u.take (i+1))=Do (lF (u.take i)) p:=by rw[bI,U,fF,Dw]
   rw[st];generalize lF (u.take i)=S at b1 b2 b3 |-;obtain⟨S,cnt⟩:=S;refine⟨rfl,rfl,?_⟩;refine kW (λz=>∃ F Q,z=mN d u (.o (nF (lR cnt p.1 S p.1.length).1)) (.o (nL (lR cnt p.1 S p.1.length).2)) (.o (.l [])) (.v (.int (cnt:Nat))) (.v (.l (p.1.map λn=>D.int (n:Nat)))) (.v (.int (p.2:Nat))) F Q .n .n .n .n .n .n .n .n .n) (λN B=>?_) ?_
   .have len:(p.1.map λn=>D.int (n:Nat)).length=p.1.length:=by simp
    refine rP (nH 0 p.1.length) (mN d u (.o (nF S.1)) (.o (nL S.2)) (.o (.l [])) (.v (.int (cnt:Nat))) (.v (.l (p.1.map λn=>D.int (n:Nat)))) (.v (.int (p.2:Nat))) F Q .n .n .n .n .n .n .n .n .n) (λΨ h=>⟨rfl,_,rfl,by rw[len];omega,by rw[len];omega,by rw[len,eD];exact h⟩)
     (λk z=>∃ F Q,z=mN d u (.o (nF (lR cnt p.1 S k).1)) (.o (nL (lR cnt p.1 S k).2)) (.o (.l [])) (.v (.int (cnt:Nat))) (.v (.l (p.1.map λn=>D.int (n:Nat)))) (.v (.int (p.2:Nat))) F Q .n .n .n .n .n .n .n .n .n) ⟨F,Q,rfl⟩ ?_ ?_
    .rintro k x z hx ⟨F,Q,rfl⟩;obtain⟨hk,rfl⟩:=xG hx;obtain⟨g1,g2⟩:=Ca (c:=cnt) (s:=S) (d3 p ac) k;have gk:p.1[k]?=some (p.1.getD k 0):=by rw[dL,aI hk];rfl
     have m3:=d3 p ac _ (aL gk);have au:lQ (p.1.map λn=>D.int (n:Nat)) (0+(k:Int))=some (.int (p.1.getD k 0:Nat)):=by
      rw[Int.zero_add];exact pV (by rw[bG,gk];rfl)
     have e1:((cnt:Nat):Int)+(0+(k:Int))=((cnt+k:Nat):Int):=by omega
     simp only[] at b1 b2 b3;refine kW (λz=>z=mN d u (.o (nF (lR cnt p.1 S (k+1)).1)) (.o (nL (lR cnt p.1 S k).2)) (.o (.l [])) (.v (.int (cnt:Nat))) (.v (.l (p.1.map λn=>D.int (n:Nat)))) (.v (.int (p.2:Nat))) (.v (.int (0+(k:Int)))) (.v (nU (pA (false,cnt+k) (lR cnt p.1 S k).1.length (p.1.getD k 0)))) .n .n .n .n .n .n .n .n .n) (λN B=>?_) ?_
     .refine⟨rfl,rfl,by show 2<=1000;decide,rfl,_,au,2,p.1.getD k 0,nU (false,cnt+k),(lR cnt p.1 S k).1.map nU,?_,rfl,Mv _,rfl,by omega,by rw[aB];omega,B _ ?_⟩
      .show [Ar.al 2,.t (.t [.str "in",.int (((cnt:Nat):Int)+(0+(k:Int)))]),.t (.int (p.1.getD k 0:Nat))]=_;rw[e1];rfl
      .rw[aB,Gm,Ec,<- aZ];rfl
     rintro _ rfl;have e2:(0+(k:Int)+1)%(((p.1.map λn=>D.int (n:Nat)).length:Nat):Int)=(((k+1)%p.1.length:Nat):Int):=by
      rw[len,show (0:Int)+(k:Int)+1=((k+1:Nat):Int) by omega];simp
     refine⟨rfl,rfl,_,rfl,rfl,rfl,rfl,_,rfl,by rw[len];omega,by show 2<=1000;decide,?_⟩;refine⟨by show ((lR cnt p.1 S k).2.map _).length<100000;rw[aB];omega,.v (.int (0+(k:Int))),.v (nU (pA (false,cnt+k) (lR cnt p.1 S k).1.length (p.1.getD k 0))),?_⟩;have e3:nL (lR cnt p.1 S (k+1)).2 = .l (((lR cnt p.1 S k).2.map λp=>D.t [.int (p.1:Nat),.int (p.2:Nat)])++[.t [.int ((pA (false,cnt+k) (lR cnt p.1 S k).1.length (p.1.getD k 0)).2:Nat),.int (((cnt:Nat):Int)+(0+(k:Int)+1)%(((p.1.map λn=>D.int (n:Nat)).length:Nat):Int))]]):=by
      rw[e2];show D.l (List.map _ ((lR cnt p.1 S k).2++[((pA (false,cnt+k) (lR cnt p.1 S k).1.length (p.1.getD k 0)).2,cnt+(k+1)%p.1.length)]))=_;rw[aZ];rfl
     rw[e3];rfl
    .rintro z h;rw[show (nH 0 p.1.length).length=p.1.length by simp[nH]] at h;exact B _ h
   rintro _ ⟨F,Q,rfl⟩;refine⟨rfl,rfl,_,rfl,.v (.l (p.1.map λn=>D.int (n:Nat))),.v (.int (p.2:Nat)),F,Q,?_⟩;have e1:((cnt:Nat):Int)+(((p.1.map λn=>D.int (n:Nat)).length:Nat):Int)=((cnt+p.1.length:Nat):Int):=by rw[aB];omega
   show mN d u _ _ _ (.v (.int (((cnt:Nat):Int)+(((p.1.map λn=>D.int (n:Nat)).length:Nat):Int)))) _ _ _ _ _ _ _ _ _ _ _ _ _=_;rw[e1];rfl
  .rintro z ⟨V,X,F,Q,rfl⟩;refine B _ ⟨V,X,F,Q,?_⟩;rw[aB,aO (aH _)];have:=(vF d3 u.length).2.2;rw[aO (aH _)] at this;rw[this];rfl
 rintro _ ⟨V,X,F,Q,rfl⟩;have L:=vF d3 u.length;rw[aO (aH _)] at L;obtain⟨L1,L2,L3⟩:=L;have la:(kS u).length=dK u:=L2;have tl:=Ob (n:=(kS u).length) (rows:=(lF u).1.1) (by omega) (by omega);refine kW (λz=>z=mN d u (.o (nF (lF u).1.1)) (.o (nL (kS u))) (.o (.l [])) (.v (.int (dK u:Nat))) V X F Q (.v (.int 0)) .n .n .n .n .n .n .n .n) (λN B=>B _ rfl) ?_;rintro _ rfl;refine kW (λz=>∃ V X Y G,z=mN d u (.o (nF (kL u))) (.o (nL (kS u))) (.o (oY (mL u))) (.v (.int (dK u:Nat))) V X F Q Y G .n .n .n .n .n .n .n) (λN B=>?_) ?_
 .refine rP (u.map tX) (mN d u (.o (nF (lF u).1.1)) (.o (nL (kS u))) (.o (.l [])) (.v (.int (dK u:Nat))) V X F Q (.v (.int 0)) .n .n .n .n .n .n .n .n) (λΨ h=>h)
   (λi z=>∃ V X G,z=mN d u (.o (nF (lY (kS u).length (lF u).1.1 (u.take i)).1.1)) (.o (nL (kS u))) (.o (oY (lY (kS u).length (lF u).1.1 (u.take i)).1.2)) (.v (.int (dK u:Nat))) V X F Q (.v (.int ((lY (kS u).length (lF u).1.1 (u.take i)).2:Nat))) G .n .n .n .n .n .n .n) ⟨V,X,.n,rfl⟩ ?_ ?_
  .rintro i x z hx ⟨V,X,G,rfl⟩;obtain⟨p,U,rfl⟩:=yP hx;have ac:=aL U;have b:=tl (u.take i);have st:lY (kS u).length (lF u).1.1 (u.take (i+1))=qM (kS u).length (lY (kS u).length (lF u).1.1 (u.take i)) p:=by rw[bI,U,fF,Ce]
   rw[st];generalize lY (kS u).length (lF u).1.1 (u.take i)=S at b |-;obtain⟨⟨R,O⟩,fs⟩:=S;simp only[] at b;obtain⟨bR,bO⟩:=b;refine⟨rfl,rfl,?_⟩;obtain⟨m,hm⟩:∃ m,m=min p.2 (24-R.length):=⟨_,rfl⟩;have aa:(R.map nU).length=R.length:=by simp
   refine kW (λz=>z=mN d u (.o (nF R)) (.o (nL (kS u))) (.o (oY O)) (.v (.int (dK u:Nat))) (.v (.l (p.1.map λn=>D.int (n:Nat)))) (.v (.int (p.2:Nat))) F Q (.v (.int (fs:Nat))) (.v (.int (m:Nat))) .n .n .n .n .n .n .n) (λN B=>?_) ?_
   .refine⟨rfl,rfl,_,rfl,?_⟩;rintro v hv h1 h2;have:v=(m:Nat):=by
     rw[aa] at hv h2;rw[hm];omega
    subst this;exact B _ rfl
   rintro _ rfl;have af:((kS u).map λp=>D.t [.int (p.1:Nat),.int (p.2:Nat)]).length=(kS u).length:=by simp
   have ab:(O.map λn=>D.int (n:Nat)).length=O.length:=by simp
   refine kW (λz=>z=mN d u (.o (nF (qM (kS u).length ((R,O),fs) p).1.1)) (.o (nL (kS u))) (.o (oY (qM (kS u).length ((R,O),fs) p).1.2)) (.v (.int (dK u:Nat))) (.v (.l (p.1.map λn=>D.int (n:Nat)))) (.v (.int (p.2:Nat))) F Q (.v (.int (fs:Nat))) (.v (.int (m:Nat))) .n .n .n .n .n .n .n) (λN B=>?_) ?_
   .unfold qM at B;simp only[<- hm] at B;refine⟨rfl,?_⟩;show if decide ((0:Int)<(m:Int))=true then _ else _
    by_cases z1:(0:Int)<(m:Int)
    .refine Jt z1 ?_;refine⟨rfl,rfl,_,rfl,rfl,rfl,_,rfl,?_⟩;show if decide (((((kS u).map λp=>D.t [.int (p.1:Nat),.int (p.2:Nat)]).length:Nat):Int)+(((O.map λn=>D.int (n:Nat)).length:Nat):Int)<6)=true then _ else _
     rw[af,ab];by_cases z2:(((kS u).length:Nat):Int)+((O.length:Nat):Int)<6
     .refine Jt z2 ?_;rw[bA (show 0<m/\(kS u).length+O.length<6 by omega)] at B;refine⟨rfl,rfl,by show 2<=1000;decide,2,m,nU (false,fs),R.map nU,rfl,rfl,Mv _,rfl,by omega,by rw[aa];omega,?_⟩;rw[aa,Gm,Ec,<- aZ];refine⟨_,rfl,by show (O.map _).length<100000;rw[ab];omega,B _ ?_⟩;have e4:oY (O++[(pA (false,fs) R.length m).2]) = .l ((O.map λn=>D.int (n:Nat))++[.int ((pA (false,fs) R.length m).2:Nat)]):=by unfold oY;rw[List.map_append];rfl
      rw[e4];rfl
     .refine Ou z2 ?_;rw[bB (show ¬ (0<m/\(kS u).length+O.length<6) by omega)] at B;exact B _ rfl
    .refine Ou z1 ?_;rw[bB (show ¬ (0<m/\(kS u).length+O.length<6) by omega)] at B;exact B _ rfl
   rintro _ rfl;refine⟨rfl,rfl,_,rfl,.v (.l (p.1.map λn=>D.int (n:Nat))),.v (.int (p.2:Nat)),.v (.int (m:Nat)),?_⟩;have e1:((fs:Nat):Int)+(((p.1.map λn=>D.int (n:Nat)).length:Nat):Int)=((fs+p.1.length:Nat):Int):=by rw[aB];omega
   show mN d u _ _ _ _ _ _ _ _ (.v (.int (((fs:Nat):Int)+(((p.1.map λn=>D.int (n:Nat)).length:Nat):Int)))) _ _ _ _ _ _ _ _=_;rw[e1];rfl
  .rintro z ⟨V,X,G,rfl⟩;refine B _ ⟨V,X,.v (.int ((lY (kS u).length (lF u).1.1 u).2:Nat)),G,?_⟩;rw[aB,aO (aH _)];rfl
 rintro _ ⟨V,X,Y,G,rfl⟩;have lg:(kL u).length<=24:=(tl u).1;have lo:(kS u).length+(mL u).length<=6:=(tl u).2;have ag:((kL u).map nU).length=(kL u).length:=by simp
 have W:LpW (dK u) (kL u) ((kS u).map (·.1)++mL u):=by
  have a:=(zO (λp U n hn=>(ok.dl p U n hn).1) d3 u.length (aH _)).1;rw[aO (aH _)] at a;have:=(G7 (n:=(kS u).length) ok.sz a u.length (aH _)).1
  rwa [aO (aH _)] at this
 refine kW (λz=>∃ y:Aa Af,y.length=dK u+(kL u).length/\y.Nodup/\(∀ x∈y,GoodName x)/\z=mN d u (.o (nF (kL u))) (.o (nL (kS u))) (.o (oY (mL u))) (.v (.int (dK u:Nat))) V X F Q Y G (.o (.l (y.map D.str))) .n .n .n .n .n .n) (λN B=>?_) ?_
 .refine⟨rfl,rfl,rfl,_,rfl,d,c,dK u+(kL u).length,rfl,?_,by omega,λy hx nd gn=>⟨.inl rfl,B _ ⟨y,hx,nd,gn,rfl⟩⟩⟩;have:((dK u:Nat):Int)+((((kL u).map nU).length:Nat):Int)=((dK u+(kL u).length:Nat):Int):=by rw[ag];omega
  rw[<- this]
 rintro _ ⟨y,hx,a3,a0,rfl⟩;refine kW (λz=>z=mN d u (.o (nF (kL u))) (.o (nL (kS u))) (.o (oY (mL u))) (.v (.int (dK u:Nat))) V X F Q Y G (.o (.l (y.map D.str))) (.o (.l [])) .n .n .n .n .n) (λN B=>⟨by show 0<=1000;decide,B _ rfl⟩) ?_;rintro _ rfl;refine kW (λz=>∃ F M Z C,z=mN d u (.v (nF (kL u))) (.o (nL (kS u))) (.o (oY (mL u))) (.v (.int (dK u:Nat))) V X F Q Y G (.o (.l (y.map D.str))) (.o (.l ((mV y (dK u) (kL u)).map qH))) M Z C .n .n) (λN B=>?_) ?_
 .refine rP (uA ((kL u).map nU)) (mN d u (.v (nF (kL u))) (.o (nL (kS u))) (.o (oY (mL u))) (.v (.int (dK u:Nat))) V X F Q Y G (.o (.l (y.map D.str))) (.o (.l [])) .n .n .n .n .n) (λΨ h=>h)
   (λi z=>∃ F M Z C,z=mN d u (.v (nF (kL u))) (.o (nL (kS u))) (.o (oY (mL u))) (.v (.int (dK u:Nat))) V X F Q Y G (.o (.l (y.map D.str))) (.o (.l ((mV y (dK u) ((kL u).take i)).map qH))) M Z C .n .n) ⟨F,.n,.n,.n,rfl⟩ ?_ ?_
  .rintro i x z aw ⟨F,M,Z,C,rfl⟩;obtain⟨p,U,rfl⟩:=BI aw;have hi:i<(kL u).length:=(aK.mp U).1;have aj:=W.wf i p U;have st:mV y (dK u) ((kL u).take (i+1))=mV y (dK u) ((kL u).take i)++[xL y (dK u) i p]:=by
    rw[bI,U,fF];unfold mV;rw[List.zipIdx_append,aZ];simp[kE (gE hi)]
   have k1:decide (("in" : Af) = "gate")=false:=by decide +kernel
   have k2:decide (("gate" : Af) = "gate")=true:=by decide +kernel
   obtain⟨g,a⟩:=p;have av:a+(if g=true then dK u else 0)<y.length:=by
    cases g
    .simp only[eS,eE] at aj |-;omega
    .simp only[eF] at aj |-;omega
   refine⟨rfl,rfl,rfl,rfl,?_⟩;refine kW (λz=>∃ M,z=mN d u (.v (nF (kL u))) (.o (nL (kS u))) (.o (oY (mL u))) (.v (.int (dK u:Nat))) V X (.v (.int (i:Nat))) Q Y G (.o (.l (y.map D.str))) (.o (.l ((mV y (dK u) ((kL u).take i)).map qH))) M (.v (.int (a:Nat))) (.v (.str (kZ y (a+if g=true then dK u else 0)))) .n .n) (λN B=>?_) ?_
   .have ak:lQ [D.int 0,.int (dK u:Nat)] (if g=true then 1 else 0)=some (.int ((if g=true then dK u else 0:Nat):Int)):=by
     cases g
     .exact pV (j:=0) rfl
     .exact pV (j:=1) rfl
    have an:lQ (y.map D.str) ((a:Int)+((if g=true then dK u else 0:Nat):Int))=some (.str (kZ y (a+if g=true then dK u else 0))):=yI av;refine⟨rfl,rfl,by show 2<=1000;decide,rfl,?_⟩;have eb:(nb false (decide ((if g=true then ("gate" : Af) else "in") = "gate")))=g:=by
     cases g
     .exact k1
     .exact k2
    show ∃ x,lQ [D.int 0,.int (dK u:Nat)] (if (nb false (decide ((if g=true then ("gate" : Af) else "in") = "gate")))=true then 1 else 0)=some x/\_;rw[eb];refine⟨_,ak,_,an,B _ ⟨_,rfl⟩⟩
   rintro _ ⟨M,rfl⟩;have ao:lQ (y.map D.str) (((dK u:Nat):Int)+(i:Int))=some (.str (kZ y (dK u+i))):=yI (i:=dK u+i) (by omega);have aq:lQ [D.str "and",.str "or"] ((i:Int)%2)=some (.str (if i%2=0 then "and" else "or")):=by
    rcases (show i%2=0\/i%2=1 by omega) with q | q
    .rw[show (i:Int)%2=((0:Nat):Int) by omega,bA q];exact pV (j:=0) rfl
    .rw[show (i:Int)%2=((1:Nat):Int) by omega,bB (by omega)];exact pV (j:=1) rfl
   refine⟨rfl,rfl,rfl,_,ao,by show 2<=1000;decide,rfl,by show (0:Int)<2;decide,_,aq,by show 2<=1000;decide,by show 3<=1000;decide,by show ((mV y (dK u) ((kL u).take i)).map qH).length<100000;simp[mV];omega,.v (.int (i:Nat)),M,.v (.int (a:Nat)),.v (.str (kZ y (a+if g=true then dK u else 0))),?_⟩;rw[st,aZ];rfl
  .rintro z ⟨F,M,Z,C,rfl⟩;rw[Ck,aB,aO (aH _)];exact B _ ⟨F,M,Z,C,rfl⟩
 rintro _ ⟨F,M,Z,C,rfl⟩;have ah:∀ o∈(kS u).map (·.1)++mL u,dK u+o<y.length:=λo ho=>by have:=W.lt o ho;omega
 have S2:=(zO (λp U n hn=>(ok.dl p U n hn).1) d3 u.length (aH _)).2;rw[aO (aH _)] at S2;have ay:∀ p∈kS u,p.2<y.length:=λp U=>by have:=S2.2 p.2 (aJ.mpr ⟨p,U,rfl⟩);omega
 refine kW (λz=>∃ s3,z=mN d u (.v (nF (kL u))) s3 (.o (oY (mL u))) (.v (.int (dK u:Nat))) V X F Q Y G (.o (.l (y.map D.str))) (.o (.l ((mV y (dK u) (kL u)).map qH))) M Z C (.v (.t ((lN y u).map nO))) .n) (λN B=>?_) ?_
 .unfold rK dC aC;refine oB (kS u) (λp=>D.t [.int (p.1:Nat),.int (p.2:Nat)]) (λp=>nO (kZ y (dK u+p.1),kZ y p.2)) (mN d u (.v (nF (kL u))) (.v (nL (kS u))) (.o (oY (mL u))) (.v (.int (dK u:Nat))) V X F Q Y G (.o (.l (y.map D.str))) (.o (.l ((mV y (dK u) (kL u)).map qH))) M Z C .n .n) (λΨ h=>h) (by omega) (λj p ys Nx e h1 h2=>?_) ?_
  .have hm:=aL e;have a1:lQ (y.map D.str) (((dK u:Nat):Int)+(p.1:Int))=some (.str (kZ y (dK u+p.1))):=yI (i:=dK u+p.1) (ah p.1 (bW _ (aJ.mpr ⟨p,hm,rfl⟩)));have a2:lQ (y.map D.str) (p.2:Int)=some (.str (kZ y p.2)):=yI (ay p hm);exact⟨rfl,rfl,rfl,rfl,_,a1,rfl,_,a2,by show 2<=1000;decide,h1,h2⟩
  .refine B _ ⟨.v (nL (kS u)),?_⟩;have:(lN y u).map nO=(kS u).map λp=>nO (kZ y (dK u+p.1),kZ y p.2):=by unfold lN;rw[List.map_map];rfl
   rw[this];rfl
 rintro _ ⟨s3,rfl⟩;have a5:(lN y u).length=(kS u).length:=by simp[lN]
 refine kW (λz=>∃ s4 ae,(ae = .v (.t ((lN y u).map nO)))/\z=mN d u (.v (nF (kL u))) s3 s4 (.v (.int (dK u:Nat))) V X F Q Y G (.o (.l (y.map D.str))) (.o (.l ((mV y (dK u) (kL u)).map qH))) M Z C ae (.o (.l ((kQ y u).outs.map D.str)))) (λN B=>?_) ?_
 .unfold rK d2;refine oB (lN y u) nO (λp=>.str p.1) (mN d u (.v (nF (kL u))) s3 (.o (oY (mL u))) (.v (.int (dK u:Nat))) V X F Q Y G (.o (.l (y.map D.str))) (.o (.l ((mV y (dK u) (kL u)).map qH))) M Z C (.v (.t ((lN y u).map nO))) .n) (λΨ h=>h) (by omega) (λj p ys Nx e h1 h2=>⟨rfl,_,rfl,h1,h2⟩) ?_;refine oB (mL u) (λn=>D.int (n:Nat)) (λn=>.str (kZ y (dK u+n))) (mN d u (.v (nF (kL u))) s3 (.v (oY (mL u))) (.v (.int (dK u:Nat))) V X F Q Y G (.o (.l (y.map D.str))) (.o (.l ((mV y (dK u) (kL u)).map qH))) M Z C (.v (.t ((lN y u).map nO))) .n) (λΨ h=>h) (by omega) (λj o ys Nx e h1 h2=>?_) ?_
  .have a1:lQ (y.map D.str) (((dK u:Nat):Int)+(o:Int))=some (.str (kZ y (dK u+o))):=yI (i:=dK u+o) (ah o (aY _ (aL e)));exact⟨rfl,rfl,_,a1,h1,h2⟩
  .refine⟨by show ((lN y u).map _).length+((mL u).map _).length<=100000;rw[aB,aB];omega,B _ ⟨.v (oY (mL u)),_,rfl,?_⟩⟩;have:(kQ y u).outs.map D.str=((lN y u).map λp=>D.str p.1)++(mL u).map λn=>D.str (kZ y (dK u+n)):=by
    show (((lN y u).map (·.1)++(mL u).map λo=>kZ y (dK u+o))).map D.str=_;rw[aZ,bZ,bZ];rfl
   rw[this];rfl
 rintro _ ⟨s4,ae,rfl,rfl⟩;have ec:nK (y.map D.str) none (some ((dK u:Nat):Int))=(y.take (dK u)).map D.str:=Ny D.str y (dK u);refine⟨rfl,rfl,by show 3<=1000;decide,by show 2<=1000;decide,?_⟩;show Φ (.v (.t [.t [.t (nK (y.map D.str) none (some ((dK u:Nat):Int))),.t ((mV y (dK u) (kL u)).map qH),.t ((kQ y u).outs.map D.str)],.t ((lN y u).map nO)]));rw[ec];exact ax y hx a3 a0
end
section
theorem R9 (ok:LpOk g):LpW (dK g) (kL g) ((kS g).map (·.1)++mL g):=by
 have d:∀ p∈g,∀ n∈p.1,n<=3:=λp c n b=>(ok.dl p c n b).2
 have a:=(zO (λp c n b=>(ok.dl p c n b).1) d g.length (aH _)).1;rw[aO (aH _)] at a;have:=(G7 (n:=(kS g).length) ok.sz a g.length (aH _)).1
 rwa [aO (aH _)] at this
theorem Xp (ok:LpOk g):((kS g).map (·.2)).Nodup/\∀ x∈(kS g).map (·.2),x<dK g:=by
 have:=(zO (λp b n a=>(ok.dl p b n a).1) (λp b n a=>(ok.dl p b n a).2) g.length (aH _)).2
 rwa [aO (aH _)] at this
theorem Mm (ok:LpOk g):(kS g).length=dK g/\(kL g).length<=24/\(kS g).length+(mL g).length<=6:=by
 have L:=vF (lp:=g) (λp c n b=>(ok.dl p c n b).2) g.length;rw[aO (aH _)] at L;have e:=ok.n4;have d:(kS g).length=dK g:=L.2.1;have a:=Ob (n:=(kS g).length) (rows:=(lF g).1.1) (by omega) (by omega) g;exact⟨d,a.1,a.2⟩
theorem wA (h:i<g.length):g[i]?=some (kZ g i):=by simp[kZ,h]
theorem L7 (p:g.Nodup) (l:i<g.length) (o:j<g.length) (e:kZ g i=kZ g j):i=j:=by
 have a:=wA l;have b:=wA o;rw[e] at a;exact (List.getElem?_inj l p).mp (a.trans b.symm)
theorem Gi (n:Nat) (g:Aa Pt):(mV j n g).length=g.length:=by simp[mV]
theorem Ew (h:g[i]?=some p):(mV xs n g)[i]?=some (xL xs n i p):=by
 obtain⟨a,rfl⟩:=aK.mp h;unfold mV;rw[bG,List.getElem?_zipIdx,h];simp
theorem Hc (h:j.length=n+g.length):(mV j n g).map (·.1)=j.drop n:=by
 apply jX;intro i;rw[bG,iH];by_cases a:i<g.length
 .rw[Ew (aI a),wA (by omega)];rfl
 .rw[dQ (by rw[Gi];omega),dQ (by omega)];rfl
theorem Qb:∀ {j:nZ}{kn:Aa Af},(∀ i g,j[i]?=some g->ArOk g.2.1 g.2.2.length/\∀ p∈g.2.2,p∈kn++(j.take i).map (·.1))->yK kn j
 | [],_,_=>trivial
 | g::j,kn,h=>by
  have a:=h 0 g rfl;refine⟨a.1,by simpa using a.2,Qb λi b e=>?_⟩;have:=h (i+1) b (by simpa using e);refine⟨this.1,λp c=>?_⟩;have:=this.2 p c
  simpa using this
theorem C9 (ok:LpOk j) (r:l.length=dK j+(kL j).length) (C:l.Nodup) (I:∀ x∈l,GoodName x):GoodRow (kQ l j) (lN l j):=by
 have W:=R9 ok;obtain⟨H,u⟩:=Xp ok;obtain⟨K,G,lo⟩:=Mm ok;have L:=ok.n4;have v:(kQ l j).names=l:=by
  show l.take (dK j)++(mV l (dK j) (kL j)).map (·.1)=l;rw[Hc r,cI]
 have b:∀ o∈(kS j).map (·.1)++mL j,dK j+o<l.length:=λo a=>by have:=W.lt o a;omega
 have f:(kQ l j).outs=((kS j).map (·.1)++mL j).map λo=>kZ l (dK j+o):=by
  show (lN l j).map (·.1)++(mL j).map _=_;rw[aZ];unfold lN;rw[bZ,bZ];rfl
 have d:((kS j).map (·.1)++mL j).Nodup:=W.inc.imp λh e=>by subst e;exact cW _ h
 have inj:∀ o∈(kS j).map (·.1)++mL j,∀ m∈(kS j).map (·.1)++mL j,kZ l (dK j+o)=kZ l (dK j+m)->o=m:=λo a m s e=>by
  have:=L7 C (b o a) (b m s) e;omega
 have B:(lN l j).map (·.1)=((kS j).map (·.1)).map λo=>kZ l (dK j+o):=by unfold lN;rw[List.map_map,List.map_map];rfl
 have D:(lN l j).map (·.2)=((kS j).map (·.2)).map λo=>kZ l o:=by unfold lN;rw[List.map_map,List.map_map];rfl
 have A:∀ o∈(kQ l j).outs,o∈(kQ l j).gates.map (·.1):=λo a=>by
  rw[f] at a;obtain⟨q,k,rfl⟩:=aJ.mp a;show _∈(mV l (dK j) (kL j)).map (·.1);rw[Hc r];have:(l.drop (dK j))[q]?=some (kZ l (dK j+q)):=by rw[iH];exact wA (b q k)
  exact aL this
 refine⟨⟨by rw[v];exact C,by rw[v];exact I,?_,λo a=>aY _ (A o a),?_,?_,?_,?_⟩,A,?_,?_,λp c=>?_,?_⟩
 .refine Qb λi g e=>?_
  have w:i<(kL j).length:=by
   have:=(aK.mp e).1
   rwa [show (kQ l j).gates=mV l (dK j) (kL j) from rfl,Gi] at this
  have E:=Ew (xs:=l) (n:=dK j) (aI w);rw[show (kQ l j).gates=mV l (dK j) (kL j) from rfl,E] at e;cases e;refine⟨?_,λp c=>?_⟩
  .show ArOk (if i%2=0 then "and" else "or") 2;rcases (show i%2=0\/i%2=1 by omega) with q | q
   .rw[bA q];exact⟨.inl ⟨by decide +kernel,.inl rfl⟩⟩
   .rw[bB (by omega)];exact⟨.inl ⟨by decide +kernel,.inl rfl⟩⟩
  .have c:p=kZ l ((kL j)[i].2+if (kL j)[i].1=true then dK j else 0):=by
    have:p∈[kZ l ((kL j)[i].2+if (kL j)[i].1=true then dK j else 0),kZ l ((kL j)[i].2+if (kL j)[i].1=true then dK j else 0)]:=c
    simpa using this
   have wf:=W.wf i _ (aI w);have F:(kQ l j).ins++((kQ l j).gates.take i).map (·.1)=l.take (dK j+i):=by
    show l.take (dK j)++((mV l (dK j) (kL j)).take i).map (·.1)=_;rw[List.map_take,Hc r,List.take_add]
   rw[F,c];have lt:(kL j)[i].2+(if (kL j)[i].1=true then dK j else 0)<dK j+i:=by
    by_cases z:(kL j)[i].1=true
    .rw[bA z] at wf |-;omega
    .rw[bB z] at wf |-;omega
   have:(l.take (dK j+i))[(kL j)[i].2+(if (kL j)[i].1=true then dK j else 0)]?=some (kZ l ((kL j)[i].2+if (kL j)[i].1=true then dK j else 0)):=by
    rw[dR lt];exact wA (by omega)
   exact aL this
 .rw[f];exact yF d inj
 .show (l.take (dK j)).length<=6;rw[bQ];omega
 .show (mV l (dK j) (kL j)).length<=24;rw[Gi];exact G
 .rw[f,aB,bC,aB];exact lo
 .rw[B];exact yF (bL.mp d).1 λx r y t e=>inj x (bW _ r) y (bW _ t) e
 .rw[D];refine yF H λx r y t e=>L7 C ?_ ?_ e
  .have:=u x r;omega
  .have:=u y t;omega
 .obtain⟨q,k,rfl⟩:=aJ.mp c;refine⟨?_,?_⟩
  .rw[f];exact aJ.mpr ⟨q.1,bW _ (aJ.mpr ⟨q,k,rfl⟩),rfl⟩
  .have lt:=u q.2 (aJ.mpr ⟨q,k,rfl⟩);have:(l.take (dK j))[q.2]?=some (kZ l q.2):=by
    rw[dR lt];exact wA (by omega)
   exact aL this
 .show ((kS j).map _).length<=4;rw[aB];omega
end
def Jz:RD:=λc a b=>∃ C al,a=[mE C al]/\al.length<=100/\b (.o (.l (al.map λp=>D.str p.2)))
def Io:RD:=λc a b=>∃ C al,a=[mE C al]/\al.length<=100/\b (.o (.l (List.replicate (al.length+1) (D.int 0))))
def Kq:RD:=λc a b=>∃ (C:Cel) (cr:mQ),a=[tD C,.k (gV cr)]/\Good C/\(∀ x,0<=look cr x)/\b (.v (.k (gV (tbl C.ins C.gates (look cr)))))
def pC (cr:mQ) (e:Int):D:=.l ((cr.map λp=>D.int p.2)++[.int e])
def Ip:RD:=λc a b=>∃ (C:Cel) (al:Aa (Af×Af)) (cr:mQ) (e:Int),a=[mE C al,pC cr e]/\GoodRow C al/\cr.map (·.1)=al.map (·.2)/\(∀ x,0<=look cr x)/\b (.o (pC (pH al (tbl C.ins C.gates (look cr))) (mx (C.outs.map (look (tbl C.ins C.gates (look cr)))))))
def nV (C:Cel) (al:Aa (Af×Af)) (i:Nat):Int:=Mx C.ins C.gates al C.outs i
def lT (C:Cel) (al:Aa (Af×Af)):Nat->Int
 | 0=>0
 | i+1=>nV C al i
def F8:RD:=λc a b=>∃ (C:Cel) (al:Aa (Af×Af)) (w:Nat),a=[mE C al,.int w]/\GoodRow C al/\w<=20000/\b (.o (.l ((List.range (w+1)).map λi=>D.int (lT C al i))))
def Lj:RD:=λc a b=>∃ (C:Cel) (al:Aa (Af×Af)) (w:Nat),a=[mE C al,.int w]/\GoodRow C al/\w<=20000/\b (.v (.int (lT C al w)))
theorem Bh:∀ {gs:nZ}{kn:Aa Af}{i:Nat}{g:Af×Af×Aa Af},yK kn gs->gs[i]?=some g->ArOk g.2.1 g.2.2.length/\∀ p∈g.2.2,p∈kn++(gs.take i).map (·.1)
 | a::r,kn,0,g,h,e=>by
  simp at e;subst e;exact⟨h.1,by simpa using h.2.1⟩
 | a::r,kn,i+1,g,h,e=>by
  obtain⟨b,c⟩:=Bh (gs:=r) (i:=i) h.2.2 (by simpa using e);exact⟨b,λp d=>by have:=c p d;simpa using this⟩
theorem Nl (t:mQ) (g:Aa Af):qE (g.map λo=>D.int (look t o))=some (g.map (look t)):=by
 have:=xH (g.map (look t))
 rwa [bZ] at this
theorem Ld:(["output","name"]:Aa Af).Nodup:=by decide +kernel
theorem CH:(["name","carried"]:Aa Af).Nodup:=by decide +kernel
theorem Rb:(["other","lates"]:Aa Af).Nodup:=by decide +kernel
section
variable {P:Ah}{K:kG}
theorem EM:FnScope ["row"] ["row"] (lJ Bk):=oS
theorem BK (T:Txt g):oJ P w K g base 1 "carried_inputs" Bk ["row"] Jz:=by
 refine pF EM λf c A b s H E u x D z q m=>?_
 obtain⟨C,al,rfl,y,a⟩:=m;refine⟨_,(lU (nS (nW ["output","name"] [] [] (nG (lI q 0 hI)) (λ_ _ _ _ _=>(qR (n:=2) rfl (mD (kX 0 Ld) (mD (kX 1 Ld) pQ)))) (λ_ _ _ _ _=>(eM 1))))),?_⟩;exact oB al nO (λp=>.str p.2) [.v (mE C al)] (λF h=>⟨rfl,_,rfl,h⟩) (by omega) (λi p B t e d k=>⟨rfl,rfl,d,k⟩) a
theorem Xz:FnScope ["row"] ["row"] (lJ xV):=oS
theorem Vh (T:Txt g):oJ P w K g base 1 "at_edges" xV ["row"] Io:=by
 refine pF Xz λf c A b s H E k m u t h d=>?_
 obtain⟨C,al,rfl,q,a⟩:=d;refine⟨_,(lU (nS (mR Gr Hb (oA (eH hI gD)) (mR mB mC (nN rC rD T.len bP (eH (lI h 0 hI) gD)) hI)))),?_⟩;refine⟨(by show 1<=1000;decide),rfl,_,rfl,rfl,_,rfl,?_⟩;refine⟨by show (0:Int)<=((al.map nO).length:Nat)+1;omega,by show (((al.map nO).length:Nat):Int)+1<=1000;rw[aB];omega,by show 1<=100;decide,?_⟩;have e:(List.replicate ((((al.map nO).length:Nat):Int)+1).toNat [D.int 0]).flatten=List.replicate (al.length+1) (D.int 0):=by
  rw[aB,show ((al.length:Int)+1).toNat=al.length+1 by omega];generalize al.length+1=n;induction n with
  | zero=>rfl
  | succ n i=>rw[bV,fA,i];rfl
 rw[<- e] at a;exact a
theorem xQ:FnScope ["cell","carried","lates","name","word","names"] ["cell","carried"] (lJ Cf):=oS
theorem Xh (T:Txt mg):oJ P w K mg base 1 "told_lates" Cf ["cell","carried"] Kq:=by
 refine pF xQ λf r A W s H E dk ds Φ hr B U=>?_
 obtain⟨C,cr,rfl,c,J,V⟩:=U;refine⟨_,(kR (lG 2 xQ.nd (sI (Fc rfl) Et T.dict iU (eH (nW ["name"] ["carried"] [1] (nG (lI B 0 hI)) (λ_ _ _ _ _=>(kX 0 CH)) (λ_ _ _ _ _=>(qL (eH (eM 0) (eH (Oe B (pv 1) (eM 0) hI) gD))))) gD))) (kR (rB (nG (lI B 0 hI)) (qR (n:=3) rfl (mD (kX 3 xQ.nd) (mD (kX 4 xQ.nd) (mD (kX 5 xQ.nd) pQ)))) (lU (F1 (n:=2) B (mR mB mC hI (Ll rfl (by rfl) T.max (nW ["other"] ["lates"] [2] (nG (eM 5)) (λ_ _ _ _ _=>(kX 0 Rb)) (λ_ _ _ _ _=>(lI B 1 (eM 0)))) (tA hI))) (pv 2) (eM 3)))) (lU (nS (eM 2))))),?_⟩;unfold Bd rK dC aC;refine oB C.ins D.str (λn=>.t [.str n,.int (look cr n)]) [.v (tD C),.v (.k (gV cr)),.n,.n,.n,.n] (λl h=>⟨rfl,_,rfl,h⟩) (by have:=c.li;omega) (λi n ys p e M y=>?_) ?_
 .rw[<- Pd] at y;exact⟨rfl,_,rfl,by show 2<=1000;decide,M,y⟩
 have u:C.ins.Nodup:=(bL.mp c.nd).1;have I:tP (C.ins.map λn=>D.t [.str n,.int (look cr n)])=some (gV (C.ins.map λn=>(n,look cr n))):=by
  rw[Go (g:=λn=>((Sum.inr n:hH),D.int (look cr n))) (λn=>⟨.str n,rfl,rfl⟩)];simp[gV]
 refine⟨_,I,by simp[gV];have:=c.li;omega,?_⟩;rw[Ax (by simpa [cG] using u)];dsimp only;refine rP (C.gates.map qH) [.v (tD C),.v (.k (gV cr)),.o (.k (gV (C.ins.map λn=>(n,look cr n)))),.n,.n,.n] (λl h=>⟨rfl,_,rfl,h⟩)
  (λi X=>∃ F G L:Sl,X=[.v (tD C),.v (.k (gV cr)),.o (.k (gV (tbl C.ins (C.gates.take i) (look cr)))),F,G,L]) ⟨.n,.n,.n,by simp[tbl]⟩ ?_ ?_
 .rintro i x X hx ⟨F,G,L,rfl⟩;obtain⟨g,d,rfl⟩:=yP hx;obtain⟨O,S⟩:=Bh c.gt d;have N:=xR C.ins (C.gates.take i) (look cr);have z:=vM (ins:=C.ins) (gs:=C.gates.take i) J;have b:g.1∉(tbl C.ins (C.gates.take i) (look cr)).map (·.1):=by
   rw[N];have Z:(C.ins++C.gates.map (·.1)).Nodup:=c.nd;intro q;have e:C.gates=C.gates.take i++g::C.gates.drop (i+1):=by
    obtain⟨hi,rfl⟩:=aK.mp d;rw[iW,cI]
   rw[e,aZ,<- bD] at Z;exact (bL.mp Z).2.2 g.1 q g.1 (by simp) rfl
  have step:tbl C.ins (C.gates.take (i+1)) (look cr)=tbl C.ins (C.gates.take i) (look cr)++[(g.1,mx (g.2.2.map λo=>1+look (tbl C.ins (C.gates.take i) (look cr)) o))]:=by
   unfold tbl;rw[bI,d,fQ];rfl
  generalize hT:tbl C.ins (C.gates.take i) (look cr)=t at N z b step |-;refine⟨rfl,rfl,?_⟩;unfold Dz d2 cd Ee;dsimp only;refine oB g.2.2 D.str (λo=>.int (look t o)) [.v (tD C),.v (.k (gV cr)),.o (.k (gV t)),.v (.str g.1),.v (.str g.2.1),.v (.t (g.2.2.map D.str))] (λl h=>h) (by rcases O with q | q | q<;>omega) (λj o ys p e M y=>?_) ?_
  .refine⟨rfl,.int (look t o),?_,M,y⟩;have:=(uR t o).1 (by rw[N];exact S o (aL e));show some (pD (gV t) (Sum.inr o))=_;rw[this]
  .have fin:∀ m:Int,m=mx (g.2.2.map λo=>1+look t o)->∃ Y,vB (.k (gV t)) (.str g.1) (.int m)=some Y/\∃ F G L:Sl,[.v (tD C),.v (.k (gV cr)),.o Y,.v (.str g.1),.v (.str g.2.1),.v (.t (g.2.2.map D.str))]=[.v (tD C),.v (.k (gV cr)),.o (.k (gV (tbl C.ins (C.gates.take (i+1)) (look cr)))),F,G,L]:=λm Q=>by
    refine⟨.k (gV (t++[(g.1,m)])),?_,_,_,_,by rw[step,Q]⟩;have:(gV t).length<100000:=by
     have:=dF List.length N;simp only[aB,bC,bQ] at this;have M:=c.li;have y:=c.lg;simp[gV];omega
    simp only[vB,bA this];show some (D.k (qQ (gV t) (Sum.inr g.1) (.int m)))=_;rw[Ig b]
   refine⟨_,Nl t g.2.2,λe=>?_,λm Q hh=>?_⟩
   .refine⟨rfl,fin _ ?_⟩;rw[List.map_eq_nil_iff.mp e];rfl
   .refine⟨rfl,fin _ ?_⟩;obtain⟨o,ho,rfl⟩:=aJ.mp Q;have:=z o;refine vZ (.inr (aJ.mpr ⟨o,ho,rfl⟩)) (by omega) λa ha=>?_
    obtain⟨o',R,rfl⟩:=aJ.mp ha;have:=hh _ (aJ.mpr ⟨o',R,rfl⟩);omega
 .rintro X ⟨F,G,L,rfl⟩;rw[aB,aO (aH _)];exact V
end
theorem Wu (al:Aa (Af×Af)):uP (al.map λp=>D.str p.2)=some (al.map λp=>(Sum.inr p.2:hH)):=by
 have:=Lu (al.map (·.2))
 simpa [cG] using this
theorem Ln (e:Int):∀ cr:mQ,((cr.map λp=>(Sum.inr p.1:hH))).zip ((cr.map λp=>D.int p.2)++[.int e])=gV cr
 | []=>rfl
 | p::cr=>by
  rw[aW,aW,cL,fG,Ln e cr];rfl
theorem Y9 {al:Aa (Af×Af)}(e:Int) (h:cr.map (·.1)=al.map (·.2)):(al.map λp=>(Sum.inr p.2:hH)).zip ((cr.map λp=>D.int p.2)++[.int e])=gV cr:=by
 rw[<- Ln e cr]
 congr 1
 have:=dF (List.map (Sum.inr:Af->hH)) h
 simpa [cG] using this.symm
theorem Nq:lQ (g++[a]) (-1)=some a:=by
 have e:pW (g++[a]).length (-1)=some g.length:=by
  unfold pW;rw[bB (by decide),bC,dP,bA (by omega)]
  congr 1;omega
 unfold lQ;rw[e];simp
theorem xD (f:Nat->g) (i:Nat):lQ ((List.range (i+1)).map f) (-1)=some (f i):=by
 rw[gO,aZ];exact Nq
theorem Nd:(["output","name","lates"]:Aa Af).Nodup:=by decide +kernel
theorem Sf:(["name","lates"]:Aa Af).Nodup:=by decide +kernel
theorem Rk:(["state"]:Aa Af).Nodup:=by decide +kernel
section
variable {P:Ah}{K:kG}
theorem C7:FnScope ["row","state","carried","lates","onward"] ["row","state"] (lJ wN):=oS
theorem Wo (T:Txt r) (g:Kn P w K r base 1 "carried_inputs" Bk ["row"] Jz) (j:Kn P w K r base 1 "told_lates" Cf ["cell","carried"] Kq)
: oJ P w K r base 2 "one_cell_more" wN ["row","state"] Ip:=by
 refine pF C7 λf R A L s H E I J Y O d S=>?_
 obtain⟨C,al,cr,e,rfl,c,N,M,b⟩:=S;have W:=c.la;refine⟨_,(kR (lG 2 C7.nd (DH rfl (by rfl) T.dict (by rfl) T.zip (eH (mP g O (eH (eM 0) gD)) (eH (eM 1) gD)))) (kR (lG 3 C7.nd (mP j O (eH (lI d 0 hI) (eH (eM 2) gD)))) (kR (Fi 4 ["output","name"] ["lates"] [3] C7.nd (nG (lI d 0 hI)) (λ_ _ _ _ _=>(qR (n:=2) rfl (mD (kX 0 Nd) (mD (kX 1 Nd) pQ)))) (λ_ _ _ _ _=>(lI d 2 (eM 0)))) (lU (nS (mO mB mC 4 (oA (eH (Ll rfl (by rfl) T.max (nW ["name"] ["lates"] [3] (nG (zX d (lI d 0 hI) hI)) (λ_ _ _ _ _=>(kX 0 Sf)) (λ_ _ _ _ _=>(lI d 1 (eM 0)))) hI) gD)))))))),?_⟩;refine⟨C,al,rfl,by omega,.inl rfl,_,Wu al,by rw[aB];omega,?_⟩;rw[Y9 e N,Ax (by rw[N];exact c.n2)];refine⟨rfl,_,rfl,C,cr,rfl,c.good,M,.inl rfl,?_⟩;have a:=xR C.ins C.gates (look cr);have u:=vM (ins:=C.ins) (gs:=C.gates) M;generalize tbl C.ins C.gates (look cr)=t at a u b |-;have G:∀ o∈C.outs,o∈t.map (·.1):=λo y=>by rw[a];exact aY _ (c.og o y)
 have q:∀ o∈C.outs,uU (.k (gV t)) (.str o)=some (some (.int (look t o))):=λo y=>by
  show some (pD (gV t) (Sum.inr o))=_;rw[(uR t o).1 (G o y)]
 dsimp only;unfold Bd rK By wS Ee Bm aC;dsimp only;refine oB al nO (λp=>.int (look t p.1)) [.v (mE C al),.v (pC cr e),.v (.k (gV cr)),.v (.k (gV t)),.n] (λZ h=>⟨rfl,_,rfl,h⟩) (by omega) (λi p X Q e B F=>⟨rfl,rfl,rfl,_,q p.1 (c.mem p (aL e)).1,B,F⟩) ?_;refine⟨rfl,?_⟩;refine oB C.outs D.str (λo=>.int (look t o)) [.v (mE C al),.v (pC cr e),.v (.k (gV cr)),.v (.k (gV t)),.o (.l (al.map λ(p:Af×Af)=>.int (look t p.1)))] (λZ h=>⟨rfl,_,rfl,_,rfl,h⟩) (by have:=c.good.lo;omega) (λi o X Q e B F=>⟨rfl,_,q o (aL e),B,F⟩) ?_;have fin:∀ m:Int,m=mx (C.outs.map (look t))->[D.int m].length<=1000/\(al.map λp=>D.int (look t p.1)).length+[D.int m].length<=100000/\Y (.o (.l ((al.map λp=>D.int (look t p.1))++[D.int m]))):=λm x=>by
  refine⟨by show 1<=1000;decide,by rw[aB];show al.length+1<=100000;omega,?_⟩;rw[<- x] at b;unfold pC pH at b;rw[bZ] at b;exact b
 refine⟨_,Nl t C.outs,λz=>fin 0 (by rw[List.map_eq_nil_iff.mp z];rfl),λm x V=>fin m ?_⟩;have:0<=m:=by
  obtain⟨o,y,rfl⟩:=aJ.mp x;exact u o
 exact vZ (.inr x) this V
theorem Eo:FnScope ["row","width","states","place"] ["row","width"] (lJ xW):=oS
theorem X7 (T:Txt p) (j:Kn P w K p base 1 "at_edges" xV ["row"] Io) (g:Kn P w K p base 2 "one_cell_more" wN ["row","state"] Ip)
: oJ P w K p base 3 "lates_to" xW ["row","width"] F8:=by
 refine pF Eo λf u A d s H E R S X m q F=>?_
 obtain⟨C,al,w,rfl,k,hw,c⟩:=F;have G:=k.la;refine⟨_,(kR (lG 2 Eo.nd (oA (eH (mP j m (eH (eM 0) gD)) gD))) (kR (rB (yQ (by rfl) T.range (eM 1)) (kX 3 Eo.nd) (lU (vH (vD bY cC cD sV vC (pv 2) (eH (mP g m (eH (eM 0) (eH (lI q 2 (tA hI)) gD))) gD))))) (lU (nS (nW ["state"] [] [] (nG (eM 2)) (λ_ _ _ _ _=>(kX 0 Rk)) (λ_ _ _ _ _=>(lI q 0 (tA hI)))))))),?_⟩;refine⟨C,al,rfl,by omega,.inl rfl,by show 1<=1000;decide,?_⟩;dsimp only;refine kW (λb=>∃ a:Sl,b=[.v (mE C al),.v (.int w),.o (.l ((List.range (w+1)).map λi=>pC (Cr C.ins C.gates al i) (lT C al i))),a]) (λN B=>?_) ?_
 .refine rP (nH 0 w) [.v (mE C al),.v (.int w),.o (.l [.l (List.replicate (al.length+1) (D.int 0))]),.n] (λO h=>⟨by omega,by omega,h⟩)
   (λi b=>∃ a:Sl,b=[.v (mE C al),.v (.int w),.o (.l ((List.range (i+1)).map λi=>pC (Cr C.ins C.gates al i) (lT C al i))),a]) ⟨.n,?_⟩ ?_ ?_
  .have:D.l (List.replicate (al.length+1) (D.int 0))=pC (Cr C.ins C.gates al 0) (lT C al 0):=by
    unfold pC Cr lT;rw[bZ,List.replicate_succ']
    congr 2
    generalize al=t;induction t with
    | nil=>rfl
    | cons x t M=>rw[cY,bV,M];rfl
   rw[this];rfl
  .rintro i x b L ⟨a,rfl⟩;obtain⟨V,rfl⟩:=xG L;refine⟨rfl,rfl,_,xD _ i,C,al,_,_,rfl,k,Br i,vO i,.inl rfl,by show ((List.range (i+1)).map _).length<100000;simp;omega,.v (.int (0+(i:Int))),?_⟩;rw[gO (n:=i+1),aZ];rfl
  .rintro b ⟨a,rfl⟩;refine B _ ⟨a,?_⟩;simp[nH]
 .rintro b ⟨a,rfl⟩;unfold By;refine oB (List.range (w+1)) (λi=>pC (Cr C.ins C.gates al i) (lT C al i)) (λi=>.int (lT C al i)) _ (λO h=>h) (by rw[cF];omega) (λi o W Q e y z=>⟨rfl,_,Nq,y,z⟩) c
theorem Qm:FnScope ["row","width"] ["row","width"] (lJ Bl):=oS
theorem W9 (T:Txt j) (g:Kn P w K j base 3 "lates_to" xW ["row","width"] F8)
: oJ P w K j base 4 "latest" Bl ["row","width"] Lj:=by
 refine pF Qm λf c A b s H E k m n h i d=>?_
 obtain⟨C,al,w,rfl,e,hw,a⟩:=d;refine⟨_,(lU (nS (zX i (mP g h (eH (eM 0) (eH (eM 1) gD))) (tA hI)))),?_⟩;refine⟨C,al,w,rfl,e,hw,.inl rfl,.int (lT C al w),xD _ w,a⟩
end
end Lw
namespace Lw
section
variable {L:Nat->Int}{s W r:Nat}{a b:Int}
theorem uC (h:∀ k,s<=k->L (k+W)=L k+a):∀ (n k:Nat),s<=k->L (k+n*W)=L k+n*a
 | 0,k,_=>by simp
 | n+1,k,i=>by
  have e:=uC h n k i;have f:=h (k+n*W) (by omega);have c:k+(n+1)*W=k+n*W+W:=by rw[gB,gC];omega
  have d:((n+1:Nat):Int)*a=n*a+a:=by rw[gP,Int.add_mul];simp
  rw[c,f,e,d];omega
theorem Kh (g:0<W) (h:∀ k,s<=k->L (k+W)=L k+a) (j:∀ k,s<=k->k<s+W->L (k+r)-L k=b) (k:Nat) (l:s<=k):L (k+r)=L k+b:=by
 have e:=Nat.div_add_mod (k-s) W;have lt:=Nat.mod_lt (k-s) g;rw[jQ] at e;have c:=uC h ((k-s)/W) (s+(k-s)%W) (by omega);have d:=uC h ((k-s)/W) (s+(k-s)%W+r) (by omega);have f:=j (s+(k-s)%W) (by omega) (by omega);rw[show s+(k-s)%W+(k-s)/W*W=k by omega] at c;rw[show s+(k-s)%W+r+(k-s)/W*W=k+r by omega] at d;omega
theorem Nv {K:Nat}(j:0<W) (h:∀ k,s<=k->L (k+W)=L k+a) (p:0<t) (g:∀ k,K<=k->L (k+t)=L k+e) (o:∀ k,K<=k->k<K+t->L (k+q)-L k=c) (k:Nat) (l:s<=k):L (k+q)=L k+c:=by
 have f:=uC h K k l;have d:=uC h K (k+q) (by omega);have big:K<=k+K*W:=by have:=Nat.le_mul_of_pos_right K j;omega
 have i:=Kh p g o (k+K*W) big;rw[show k+q+K*W=k+K*W+q by omega] at d;omega
end
section
variable {F:(Nat->Int)->Nat->Int}
structure Gst (T:Nat->List (Nat×Int)) (F:(Nat->Int)->Nat->Int):Prop where
 le:∀ x i p,p∈T i->x p.1+p.2<=F x i
 hit:∀ x i,∃ p,p∈T i/\F x i=x p.1+p.2
theorem Gst.steady (G:Gst T F){x y:Nat->Int}{t:Int}{i:Nat}(g:∀ p∈T i,0<=x p.1+p.2) (l:F x i<t) (e:F (λj=>x j+t*y j) i=F x i+t*y i) (n:Nat):F (λj=>x j+n*y j) i=F x i+n*y i:=by
 have v:0<t:=by
  obtain⟨p,a,d⟩:=G.hit x i;have:=g p a;omega
 have low:∀ p∈T i,y p.1<=y i:=λp a=>cA λz=>by
  have b:=G.le (λj=>x j+t*y j) i p a;have k:=g p a;have f:t*(y i+1)<=t*y p.1:=bK (by omega) (by omega);rw[eY,Int.mul_one] at f;have b:x p.1+t*y p.1+p.2<=F (λj=>x j+t*y j) i:=b;omega
 obtain⟨p,a,d⟩:=G.hit (λj=>x j+t*y j) i;have d:F (λj=>x j+t*y j) i=x p.1+t*y p.1+p.2:=d;have s:=low p a;have u:=G.le x i p a;have eq:y p.1=y i:=cA λz=>by
  have f:t*(y p.1+1)<=t*y i:=bK (by omega) (by omega);rw[eY,Int.mul_one] at f;omega
 have m:x p.1+p.2=F x i:=by rw[eq] at d;omega
 refine Int.le_antisymm ?_ ?_
 .obtain⟨q,h,c⟩:=G.hit (λj=>x j+n*y j) i;have b:=G.le x i q h;have k:(n:Int)*y q.1<=n*y i:=bK (low q h) (by omega);have c:F (λj=>x j+n*y j) i=x q.1+n*y q.1+q.2:=c;omega
 .have b:=G.le (λj=>x j+n*y j) i p a;have b:x p.1+n*y p.1+p.2<=F (λj=>x j+n*y j) i:=b;rw[eq] at b;omega
end
theorem Yt {X:Nat->Nat->Int}{F:(Nat->Int)->Nat->Int}{y:Nat->Int}{s W:Nat}(st:∀ k,X (k+1)=F (X k)) (g:∀ i,X (s+W) i=X s i+y i)
  (h:∀ k,s<=k->k<s+W->∀ n:Nat,F (λj=>X k j+n*y j)=λi=>F (X k) i+n*y i):∀ k,s<=k->∀ i,X (k+W) i=X k i+y i:=by
 have go:∀ (j:Nat),j<=W->∀ n z:Nat,(X z=λi=>X s i+n*y i)->X (z+j)=λi=>X (s+j) i+n*y i:=by
  intro j;induction j with
  | zero=>exact λ_ n z e=>e
  | succ j b =>
   intro m n z e;have a:=b (by omega) n z e;rw[<- gQ,st,a,h (s+j) (by omega) (by omega) n,<- gQ,st]
 have c:∀ n:Nat,∀ i,((n+1:Nat):Int)*y i=n*y i+y i:=λn i=>by rw[gP,Int.add_mul];simp
 have all:∀ n:Nat,X (s+n*W)=λi=>X s i+n*y i:=by
  intro n;induction n with
  | zero=>funext i;simp
  | succ n b =>
   have:=go W (aH _) n _ b;rw[show s+(n+1)*W=s+n*W+W by rw[gB,gC];omega,this]
   funext i
   rw[g,c];omega
 intro k q i;by_cases f:W=0
 .subst f;have:=g i;rw[fR] at this;rw[fR];omega
 .have lt:=Nat.mod_lt (k-s) (show 0<W by omega);have e:=Nat.div_add_mod (k-s) W;rw[jQ] at e;have a:=go ((k-s)%W) (by omega) ((k-s)/W) _ (all _);have d:=go ((k-s)%W) (by omega) ((k-s)/W+1) _ (all _);rw[show s+(k-s)/W*W+(k-s)%W=k by omega] at a;rw[show s+((k-s)/W+1)*W+(k-s)%W=k+W by rw[gB,gC];omega] at d;rw[a,d];show X (s+(k-s)%W) i+(((k-s)/W+1:Nat):Int)*y i=X (s+(k-s)%W) i+(((k-s)/W:Nat):Int)*y i+y i;rw[c];omega
theorem AC {X:Nat->Nat->Int}{F:(Nat->Int)->Nat->Int}{y:Nat->Int}{s W:Nat}(st:∀ k,X (k+1)=F (X k)) (h:∀ k,s<=k->∀ i,X (k+W) i=X k i+y i) (k:Nat) (l:s<=k) (n:Nat):F (λj=>X k j+n*y j)=λi=>F (X k) i+n*y i:=by
 have g:∀ i k,s<=k->X (k+n*W) i=X k i+n*y i:=λi k l=>uC (L:=λk=>X k i) (λk l=>h k l i) n k l
 have e:(λj=>X k j+n*y j)=X (k+n*W):=funext λi=>(g i k l).symm
 rw[e,<- st,<- st]
 funext i
 rw[show k+n*W+1=k+1+n*W by omega];exact g i (k+1) (by omega)
structure Sys (T:Nat->List (Nat×Int)) (A:Int) (M c:Nat):Prop where
 pos:∀ i j a,(j,a)∈T i->0<=a/\a<=A
 a0:0<=A
 c1:1<=c
 pig:∀ u:Nat->Nat,(∀ t,t<M->∃ a,(u (t+1),a)∈T (u t))->∃ a b,a<b/\b<=M/\u a=u b/\(b-a) ∣ c
def kT (T:Nat->Aa (Nat×Int)) (Q:Nat->Prop) (i j k:Nat) (w:Int):Prop:=∃ (u:Nat->Nat) (s:Nat->Int),u 0=i/\s 0=0/\u k=j/\s k=w/\(∀ t,t<k->(u (t+1),s (t+1)-s t)∈T (u t))/\∀ t,t<=k->Q (u t)
section
theorem kT.app (o:kT T Q i j k w) (g:kT T Q j m l v):kT T Q i m (k+l) (w+v):=by
 obtain⟨u,s,x,y,b,c,z,A⟩:=o;obtain⟨E,a,d,e,f,n,q,B⟩:=g;refine⟨λt=>if t<=k then u t else E (t-k),λt=>if t<=k then s t else w+a (t-k),?_,?_,?_,?_,λt D=>?_,λt D=>?_⟩
 .simp[x]
 .simp[y]
 .by_cases h:l=0
  .subst h;simp[b,<- f,d]
  .simp[show ¬ (k+l<=k) by omega,f]
 .by_cases h:l=0
  .subst h;have:v=0:=by rw[<- n,e]
   simp[c,this]
  .simp[show ¬ (k+l<=k) by omega,n]
 .by_cases h:t<k
  .have:=z t h;simp only[show t<=k by omega,show t+1<=k by omega,eF];exact this
  .by_cases g:t=k
   .subst g;have:=q 0 (by omega);simp only[aH,eF,show ¬ (t+1<=t) by omega,eE,show t+1-t=1 by omega];rw[b,c];rw[d,e] at this
    simpa [show w+a 1-w=a 1-0 by omega] using this
   .have:=q (t-k) (by omega);simp only[show ¬ (t<=k) by omega,show ¬ (t+1<=k) by omega,eE];rw[show t+1-k=t-k+1 by omega,show w+a (t-k+1)-(w+a (t-k))=a (t-k+1)-a (t-k) by omega];exact this
 .by_cases h:t<=k
  .simp only[h,eF];exact A t h
  .simp only[h,eE];exact B (t-k) (by omega)
theorem kT.part {u:Nat->Nat}{s:Nat->Int}{k:Nat}(g:∀ t,t<k->(u (t+1),s (t+1)-s t)∈T (u t)) (j:∀ t,t<=k->Q (u t)){a b:Nat}(l:a<=b) (o:b<=k):kT T Q (u a) (u b) (b-a) (s b-s a):=by
 refine⟨λt=>u (a+t),λt=>s (a+t)-s a,rfl,by simp,by show u (a+(b-a))=_;rw[show a+(b-a)=b by omega],by show s (a+(b-a))-s a=_;rw[show a+(b-a)=b by omega],λt c=>?_,λt c=>j _ (by omega)⟩;have:=g (a+t) (by omega);show (u (a+(t+1)),s (a+(t+1))-s a-(s (a+t)-s a))∈T (u (a+t));rw[show a+(t+1)=a+t+1 by omega,show s (a+t+1)-s a-(s (a+t)-s a)=s (a+t+1)-s (a+t) by omega];exact this
theorem kT.weak (h:kT T Q i j k w) (l:∀ v,Q v->g v):kT T g i j k w:=by
 obtain⟨u,s,a,b,c,d,e,f⟩:=h;exact⟨u,s,a,b,c,d,e,λt m=>l _ (f t m)⟩
theorem kT.bound (S:Sys T A M c) (h:kT T Q i j k w):0<=w/\w<=A*k:=by
 obtain⟨u,s,m,a,n,b,d,q⟩:=h;have:∀ t,t<=k->0<=s t/\s t<=A*t:=by
  intro t;induction t with
  | zero=>intro _;rw[a];simp
  | succ t f =>
   intro y;have v:=f (by omega);have x:=S.pos _ _ _ (d t (by omega));have e:A*((t+1:Nat):Int)=A*t+A:=by rw[gP,eY];simp
   rw[e];omega
 rw[<- b];exact this k (aH _)
theorem kT.cut (S:Sys T A M c) (g:-1<=ρ) (o:∀ v l w m x,1<=l->l<=M->l ∣ c->kT T Q v v l w->kT T Q i v m x->c*w<=ρ*l) :
  ∀ k j w,kT T Q i j k w->c*w<=ρ*k+(c*(A*M)+M):=by
 intro k;induction k using Nat.strongRecOn with
 | ind k L =>
  intro j w h;have R:=h.bound S;by_cases V:k<M
  .have F:A*(k:Int)<=A*M:=bK (by omega) S.a0;have G:(c:Int)*w<=c*(A*M):=bK (by omega) (by omega);have P:-1*(k:Int)<=ρ*k:=cE g (by omega);omega
  .obtain⟨u,s,z,B,D,E,d,f⟩:=h;obtain⟨a,b,H,K,e,hd⟩:=S.pig u λt W=>⟨_,d t (by omega)⟩
   have y:=kT.part (Q:=Q) d f (a:=a) (b:=b) (by omega) (by omega);have q:=kT.part (Q:=Q) d f (a:=0) (b:=a) (by omega) (by omega);have n:=kT.part (Q:=Q) d f (a:=b) (b:=k) (by omega) (by omega);rw[<- e] at y n;rw[z,B,iT] at q;rw[D,E] at n;have F:=o (u a) (b-a) _ a _ (by omega) (by omega) hd y q;have G:=L (a+(k-b)) (by omega) j _ (q.app n);have N:(c:Int)*w=c*(s b-s a)+c*(s a-0+(w-s b)):=by rw[<- eY];congr 1;omega
   have O:ρ*(k:Int)=ρ*((b-a:Nat):Int)+ρ*((a+(k-b):Nat):Int):=by rw[<- eY];congr 1;omega
   omega
end
structure Run (T:Nat->List (Nat×Int)) (x:Nat->Nat->Int):Prop where
 z:∀ i,x 0 i=0
 ub:∀ k i j a,(j,a)∈T i->x k j+a<=x (k+1) i
 at':∀ k i,∃ j a,(j,a)∈T i/\x (k+1) i=x k j+a
section
def Tt:Nat->Prop:=λ_=>True
theorem Run.up (R:Run T x) (h:kT T Q i j l w) (k:Nat):x k j+w<=x (k+l) i:=by
 obtain⟨u,s,b,c,d,e,f,_⟩:=h;have:∀ t,t<=l->x k j+(s l-s (l-t))<=x (k+t) (u (l-t)):=by
  intro t;induction t with
  | zero=>intro _;rw[iT,d,fR];omega
  | succ t m =>
   intro v;have n:=m (by omega);have a:=f (l-(t+1)) (by omega);rw[show l-(t+1)+1=l-t by omega] at a;have q:=R.ub (k+t) _ _ _ a;rw[<- gQ];omega
 have:=this l (aH _);rw[iX,b,c,e] at this;omega
theorem Run.best (R:Run T x):∀ k i,∃ (u:Nat->Nat) (s:Nat->Int),u 0=i/\s 0=0/\(∀ t,t<k->(u (t+1),s (t+1)-s t)∈T (u t))/\∀ t,t<=k->x k i=x (k-t) (u t)+s t
 | 0,i=>⟨λ_=>i,λ_=>0,rfl,rfl,λt b=>by omega,λt b=>by
  have:t=0:=by omega
  subst this;simp⟩
 | k+1,i=>by
  obtain⟨j,a,m,e⟩:=R.at' k i;obtain⟨u,s,c,d,f,h⟩:=R.best k j;refine⟨λt=>match t with | 0=>i | t+1=>u t,λt=>match t with | 0=>0 | t+1=>a+s t,rfl,rfl,λt b=>?_,λt b=>?_⟩
  .cases t with
   | zero=>show (u 0,a+s 0-0)∈T i;rw[c,d];simpa using m
   | succ t =>
    have:=f t (by omega);show (u (t+1),a+s (t+1)-(a+s t))∈T (u t);rw[show a+s (t+1)-(a+s t)=s (t+1)-s t by omega];exact this
  .cases t with
   | zero=>show x (k+1) i=x (k+1-0) i+0;simp
   | succ t =>
    have:=h t (by omega);show x (k+1) i=x (k+1-(t+1)) (u t)+(a+s t);rw[show k+1-(t+1)=k-t by omega,e,this];omega
theorem Run.way (R:Run T x) (k i:Nat):∃ j,kT T Tt i j k (x k i):=by
 obtain⟨u,s,a,b,c,d⟩:=R.best k i;refine⟨u k,u,s,a,b,rfl,?_,c,λ_ _=>True.intro⟩;have:=d k (aH _);rw[iX,R.z] at this;omega
theorem Run.mono (S:Sys T A M c) (R:Run T x):∀ k i,x k i<=x (k+1) i
 | 0,i=>by
  obtain⟨j,a,b,e⟩:=R.at' 0 i;have:=(S.pos _ _ _ b).1;rw[e,R.z,R.z];omega
 | k+1,i=>by
  obtain⟨j,a,b,e⟩:=R.at' k i;have d:=R.mono S k j;have f:=R.ub (k+1) _ _ _ b;omega
theorem Run.monoN (S:Sys T A M c) (R:Run T x) (i:Nat) (h:k<=l):x k i<=x l i:=by
 obtain⟨m,rfl⟩:=Nat.le.dest h;induction m with
 | zero=>exact cO _
 | succ m a=>exact jR (a (by omega)) (R.mono S (k+m) i)
theorem kT.times (g:Q v) (h:kT T Q v v l w):∀ n:Nat,kT T Q v v (n*l) (n*w)
 | 0=>⟨λ_=>v,λ_=>0,rfl,rfl,rfl,by simp,λt a=>by omega,λ_ _=>g⟩
 | n+1=>by
  have:=(kT.times g h n).app h;rw[show (n+1)*l=n*l+l by rw[gB,gC],show ((n+1:Nat):Int)*w=n*w+w by rw[gP,Int.add_mul];simp];exact this
theorem Ma {P:Int->Prop}(B:Int) (g:∀ r,P r->r<=B):∀ (n:Nat) (r:Int),P r->(B-r).toNat<=n->∃ m,P m/\∀ r,P r->r<=m
 | n,r,b,c=>by
  by_cases h:∀ q,P q->q<=r
  .exact⟨r,b,h⟩
  .have:∃ q,P q/\r<q:=cA λz=>h λq a=>Int.not_lt.mp λy=>z ⟨q,a,y⟩
   obtain⟨q,a,lt⟩:=this;have:=g q a
   match n with
   | 0=>omega
   | n+1=>exact Ma B g n q a (by omega)
def Hw (T:Nat->Aa (Nat×Int)) (M c v l:Nat) (w r:Int):Prop:=1<=l/\l<=M/\l ∣ c/\kT T Tt v v l w/\r=w*((c/l:Nat):Int)
theorem Em (h:l ∣ c):w*((c/l:Nat):Int)*l=c*w:=by
 rw[Int.mul_assoc,<- iD,jV h,iY]
theorem Fq:∀ (n:Nat) (f:Nat->Nat),(∀ q,q<=n->f q<n)->∃ a b,a<b/\b<=n/\f a=f b
 | 0,f,h=>absurd (h 0 (aH _)) (by omega)
 | n+1,f,h=>by
  by_cases e:∃ a,a<=n/\f a=f (n+1)
  .obtain⟨a,m,e⟩:=e;exact⟨a,n+1,by omega,aH _,e⟩
  .have ne:∀ a,a<=n->f a≠f (n+1):=λa m z=>e ⟨a,m,z⟩
   have x:=h (n+1) (aH _);obtain⟨a,b,k,w,c⟩:=Fq n (λq=>if f q=n then f (n+1) else f q) λq s=>by
    have u:=h q (by omega);have v:=ne q s;by_cases z:f q=n
    .simp only[z,eF];omega
    .simp only[z,eE];omega
   refine⟨a,b,k,by omega,?_⟩;have t:=ne a (by omega);have nb:=ne b (by omega);by_cases d:f a=n<;>by_cases i:f b=n
   .rw[d,i]
   .simp only[d,i,eF,eE] at c;exact absurd c.symm nb
   .simp only[d,i,eF,eE] at c;exact absurd c t
   .simp only[d,i,eE] at c;exact c
theorem kT.short (S:Sys T A M c):∀ (m:Nat) (y:Int),kT T Tt i v m y->∃ g j,g<=M/\kT T Tt i v g j:=by
 intro m;induction m using Nat.strongRecOn with
 | ind m D =>
  intro y h;by_cases B:m<=M
  .exact⟨m,y,B,h⟩
  .obtain⟨u,s,q,E,w,F,d,f⟩:=h;obtain⟨a,b,x,z,e,hd⟩:=S.pig u λt G=>⟨_,d t (by omega)⟩
   have n:=kT.part (Q:=Tt) d f (a:=0) (b:=a) (by omega) (by omega);have k:=kT.part (Q:=Tt) d f (a:=b) (b:=m) (by omega) (by omega);rw[<- e,w] at k;rw[q] at n;exact D _ (by omega) _ (n.app k)
theorem kT.out (S:Sys T A M c) (hc:∀ v l w m y,1<=l->l<=M->l ∣ c->kT T Tt v v l w->kT T Tt i v m y->c*w<=d*l) (h:kT T Tt i j k w) (hk:c*M<=k) :
  ∃ (o k':Nat) (g:Int),1<=o/\k'+c*o=k/\kT T Tt i j k' g/\w<=g+d*o:=by
 obtain⟨u,s,a1,a2,a3,a4,D,F⟩:=h;have le:∀ q,q<=c->q*M<=k:=λq E=>bM (Nat.mul_le_mul_right M E) hk
 have B:∀ q,∃ a b:Nat,q<c->a<b/\b<=M/\u (q*M+a)=u (q*M+b)/\(b-a) ∣ c:=λq=>by
  by_cases E:q<c
  .obtain⟨a,b,K,X,U,h4⟩:=S.pig (λt=>u (q*M+t)) λt ht=>by
    have:=le (q+1) (by omega);rw[gB,gC] at this;exact⟨_,D (q*M+t) (by omega)⟩
   exact⟨a,b,λ_=>⟨K,X,U,h4⟩⟩
  .exact⟨0,0,λz=>absurd z E⟩
 let x:Nat->Nat:=λq=>Classical.choose (B q)
 let n:Nat->Nat:=λq=>Classical.choose (cJ (B q))
 have hw:∀ q,q<c->x q<n q/\n q<=M/\u (q*M+x q)=u (q*M+n q)/\(n q-x q) ∣ c:=λq E=>cJ (cJ (B q)) E
 let P:Nat->Nat:=λq=>Nat.rec 0 (λp r=>r+(n p-x p)) q
 have O:∀ q,P (q+1)=P q+(n q-x q):=λ_=>rfl
 have G:0<c:=by have:=S.c1;omega
 obtain⟨e,f,E,L,eq⟩:=Fq c (λq=>P q%c) λq _=>Nat.mod_lt _ G
 have mono:∀ p,P e<=P (e+p):=λp=>by
  induction p with
  | zero=>exact aH _
  | succ p Z=>exact bM Z (by rw[<- gQ,O];omega)
 have lt:P e<P f:=by
  have K:=mono (f-1-e);rw[show e+(f-1-e)=f-1 by omega] at K;have X:=O (f-1);rw[show f-1+1=f by omega] at X;have U:=(hw (f-1) (by omega)).1;omega
 have go:∀ p,e+p<=f->∃ (l:Nat) (g:Int),l+(P (e+p)-P e)=(e+p)*M/\kT T Tt i (u ((e+p)*M)) l g/\c*s ((e+p)*M)<=c*g+d*((P (e+p)-P e:Nat):Int):=by
  intro p;induction p with
  | zero =>
   intro _;have J:=kT.part (Q:=Tt) D F (a:=0) (b:=e*M) (by omega) (le e (by omega));rw[a1,a2,iT] at J;refine⟨e*M,_,by rw[fR];omega,by rw[fR];exact J,?_⟩;rw[fR,iX];have:s (e*M)-0=s (e*M):=by omega
   rw[this];simp
  | succ p Z =>
   intro hp;obtain⟨l,g,W,V,H⟩:=Z (by omega);obtain⟨c1,c2,c3,c4⟩:=hw (e+p) (by omega);have Y:=le (e+p+1) (by omega);have R:(e+p+1)*M=(e+p)*M+M:=by rw[gB,gC]
   rw[R] at Y;have x1:=kT.part (Q:=Tt) D F (a:=(e+p)*M) (b:=(e+p)*M+x (e+p)) (by omega) (by omega);have x2:=kT.part (Q:=Tt) D F (a:=(e+p)*M+x (e+p)) (b:=(e+p)*M+n (e+p)) (by omega) (by omega);have x3:=kT.part (Q:=Tt) D F (a:=(e+p)*M+n (e+p)) (b:=(e+p)*M+M) (by omega) (by omega);rw[<- c3] at x2 x3;have y1:=V.app x1;have K:=hc _ _ _ _ _ (by omega) (by omega) (by rw[show (e+p)*M+n (e+p)-((e+p)*M+x (e+p))=n (e+p)-x (e+p) by omega];exact c4) x2 y1;rw[show (e+p)*M+n (e+p)-((e+p)*M+x (e+p))=n (e+p)-x (e+p) by omega] at K;have m1:=mono p;refine⟨_,_,?_,by rw[<- gQ,R];exact y1.app x3,?_⟩
   .rw[<- gQ,O,R];omega
   .rw[<- gQ,O,R];have I:(c:Int)*s ((e+p)*M+M)=c*s ((e+p)*M)+c*(s ((e+p)*M+n (e+p))-s ((e+p)*M+x (e+p)))+c*((s ((e+p)*M+x (e+p))-s ((e+p)*M))+(s ((e+p)*M+M)-s ((e+p)*M+n (e+p)))):=by
     rw[<- eY,<- eY];congr 1;omega
    have e4:(c:Int)*(g+(s ((e+p)*M+x (e+p))-s ((e+p)*M))+(s ((e+p)*M+M)-s ((e+p)*M+n (e+p))))=c*g+c*((s ((e+p)*M+x (e+p))-s ((e+p)*M))+(s ((e+p)*M+M)-s ((e+p)*M+n (e+p)))):=by
     rw[<- eY];congr 1;omega
    have e5:d*((P (e+p)+(n (e+p)-x (e+p))-P e:Nat):Int)=d*((P (e+p)-P e:Nat):Int)+d*((n (e+p)-x (e+p):Nat):Int):=by
     rw[<- eY];congr 1;omega
    omega
 obtain⟨l,g,W,V,H⟩:=go (f-e) (by omega);rw[show e+(f-e)=f by omega] at W V H;have C:=kT.part (Q:=Tt) D F (a:=f*M) (b:=k) (le f L) (aH _);rw[a3,a4] at C;have dv:c ∣ P f-P e:=Nat.dvd_of_mod_eq_zero (Nat.sub_mod_eq_zero_of_mod_eq eq.symm);obtain⟨o,N⟩:=dv;have lk:=le f L;rw[N] at W H;refine⟨o,l+(k-f*M),g+(w-s (f*M)),?_,by omega,V.app C,?_⟩
 .rcases o with _ | o
  .rw[Nat.mul_zero] at N;omega
  .omega
 .have I:(c:Int)*s (f*M)<=c*(g+d*o):=by
   rw[eY,Int.mul_left_comm];have:((c*o:Nat):Int)=c*o:=iD c o;rw[this] at H;exact H
  have:=Int.le_of_mul_le_mul_left I (by omega);omega
theorem Run.epB (S:Sys T A M c) (R:Run T x) (i:Nat):∃ d:Int,0<=d/\∀ k:Nat,(c:Int)*(A*M)+M+A*c*(M+c)<k->2*(c*M)<=k+c->x (k+c) i=x k i+d:=by
 let I:Int->Prop:=λr=>∃ v l w m y,Hw T M c v l w r/\kT T Tt i v m y
 have hB:∀ r,I r->0<=r/\r<=A*c:=by
  rintro r ⟨v,l,w,m,y,⟨F,G,ld,hw,rfl⟩,_⟩;have hb:=hw.bound S;have h0:(0:Int)<=((c/l:Nat):Int):=Int.natCast_nonneg _;refine⟨iZ hb.1 h0,?_⟩;have:=cE hb.2 h0;have e:A*(l:Int)*((c/l:Nat):Int)=A*c:=by rw[Int.mul_assoc,<- iD,Nat.mul_div_cancel' ld]
  omega
 obtain⟨r0,ac⟩:∃ r,I r:=by
  obtain⟨u,s,N,W,D,O⟩:=R.best M i;obtain⟨a,b,ag,ab,e,hd⟩:=S.pig u λt E=>⟨_,D t E⟩
  have cy:=kT.part (Q:=Tt) D (λ_ _=>True.intro) (a:=a) (b:=b) (by omega) ab;have L:=kT.part (Q:=Tt) D (λ_ _=>True.intro) (a:=0) (b:=a) (by omega) (by omega);rw[<- e] at cy;rw[N] at L;exact⟨_,u a,b-a,_,_,_,⟨by omega,by omega,hd,cy,rfl⟩,L⟩
 obtain⟨d,⟨v,l,w,m,y,⟨F,G,ld,hw,J⟩,H⟩,K⟩:=Ma (P:=I) (A*c) (λr hr=>(hB r hr).2) _ r0 ac (aH _);have dA:=(hB d ⟨v,l,w,m,y,⟨F,G,ld,hw,J⟩,H⟩).2;obtain⟨q,y',mM,g⟩:=kT.short S m y H;have o:0<=d:=(hB d ⟨v,l,w,m,y,⟨F,G,ld,hw,J⟩,H⟩).1;have c0:(1:Int)<=c:=by have:=S.c1;omega
 let B:Int:=c*(A*M)+M;have B0:0<=B:=by
  have:=iZ (show (0:Int)<=c by omega) (iZ S.a0 (show (0:Int)<=M by omega));show 0<=(c:Int)*(A*M)+M;omega
 have U:∀ k,(c:Int)*x k i<=d*k+B:=λk=>by
  obtain⟨j,hj⟩:=R.way k i;refine kT.cut (Q:=Tt) S (by omega) (λv l w m y F G ld hw H=>?_) k j _ hj;have:=K _ ⟨v,l,w,m,y,⟨F,G,ld,hw,rfl⟩,H⟩;have:=cE this (show (0:Int)<=l by omega);rw[Em ld] at this;exact this
 have ring:∀ n:Nat,kT T Tt v v (n*c) (n*d):=λn=>by
  have h:=kT.times (n:=c/l) True.intro hw;rw[jV ld,iY,<- J] at h;exact kT.times True.intro h n
 have Lw:∀ k:Nat,d*(k-q-c)<=c*x k i:=λk=>by
  have x0:0<=x k i:=by have:=R.monoN S i (cU k);rw[R.z] at this;exact this
  by_cases C:k<q
  .have h:d*((k:Int)-q-c)<=d*0:=bK (by omega) o;have V:=iZ (show (0:Int)<=c by omega) x0;omega
  .let n:=(k-q)/c;have p:n*c<=k-q:=Nat.div_mul_le_self _ _;have e2:k-q<(n+1)*c:=by
    have:=Nat.lt_div_mul_add (a:=k-q) (b:=c) (by have:=S.c1;omega);rw[gB,gC];exact this
   have y0:=(g.bound S).1;have h:=R.up (g.app (ring n)) 0;rw[R.z,Nat.zero_add] at h;have V:=R.monoN S i (show q+n*c<=k by omega);have Y:(n:Int)*d<=x k i:=by omega
   have h4:=bK Y (show (0:Int)<=c by omega);have h5:d*((k:Int)-q-c)<=d*((n*c:Nat):Int):=bK (by rw[gB,gC] at e2;omega) o;have e3:d*((n*c:Nat):Int)=c*(n*d):=by rw[iD,iY d,iY (n:Int) c,Int.mul_assoc]
   omega
 have mb:d*((q:Int)+c)<=A*c*(M+c):=by
  have h:=bK (show (q:Int)+c<=M+c by omega) o;have V:=cE dA (show (0:Int)<=(M:Int)+c by omega);omega
 have X:∀ k:Nat,B+d*(q+c)<k->∀ (u:Nat->Nat) (s:Nat->Int),u 0=i->s 0=0->(∀ t,t<k->(u (t+1),s (t+1)-s t)∈T (u t))->(∀ t,t<=k->x k i=x (k-t) (u t)+s t)->∃ t,t<=k/\kT T Tt (u t) (u t) c d:=λk C u s N W D O=>by
  let Q:Nat->Prop:=λv=>¬ ∃ l w,Hw T M c v l w d
  by_cases av:∀ t,t<=k->Q (u t)
  .exfalso;have hQ:kT T Q i (u k) k (x k i):=⟨u,s,N,W,rfl,by have:=O k (aH _);rw[iX,R.z] at this;omega,D,av⟩;have h:=kT.cut (Q:=Q) (ρ:=d-1) S (by omega) (λv l w m y F G ld hw H=>by
    have h:=K _ ⟨v,l,w,m,y,⟨F,G,ld,hw.weak λ_ _=>True.intro,rfl⟩,H.weak λ_ _=>True.intro⟩;have hv:Q v:=by
     obtain⟨u,s,a1,_,_,_,_,a6⟩:=hw;rw[<- a1];exact a6 0 (cU _)
    have V:w*((c/l:Nat):Int)≠d:=λe=>hv ⟨l,w,F,G,ld,hw.weak λ_ _=>True.intro,e.symm⟩
    have:=cE (show w*((c/l:Nat):Int)<=d-1 by omega) (show (0:Int)<=l by omega);rw[Em ld] at this;exact this) k _ _ hQ
   have V:=Lw k;have p:(d-1)*(k:Int)=d*k-k:=by rw[Int.sub_mul,Int.one_mul]
   have e2:d*((k:Int)-q-c)=d*k-d*(q+c):=by rw[<- Int.mul_sub];congr 1;omega
   have:(c:Int)*(A*M)+M=B:=rfl;omega
  .have:∃ t,t<=k/\∃ l w,Hw T M c (u t) l w d:=cA λz=>av λt E y=>z ⟨t,E,y⟩
   obtain⟨t,E,l',w',ai,aj,af,ae,aa⟩:=this;have h:=kT.times (n:=c/l') True.intro ae;rw[jV af,iY,<- aa] at h;exact⟨t,E,h⟩
 have Z:∀ v l w m y,1<=l->l<=M->l ∣ c->kT T Tt v v l w->kT T Tt i v m y->c*w<=d*l:=λv l w m y F G ld hw H=>by
  have:=K _ ⟨v,l,w,m,y,⟨F,G,ld,hw,rfl⟩,H⟩;have:=cE this (show (0:Int)<=l by omega);rw[Em ld] at this;exact this
 refine⟨d,o,λk C ah=>?_⟩;have C:B+d*(q+c)<k:=by have:(c:Int)*(A*M)+M=B:=rfl;omega
 have ak:x k i+d<=x (k+c) i:=by
  obtain⟨u,s,N,W,D,O⟩:=R.best k i;obtain⟨t,E,h⟩:=X k C u s N W D O;have V:=R.up h (k-t);have L:=kT.part (Q:=Tt) D (λ_ _=>True.intro) (a:=0) (b:=t) (by omega) E;rw[N,W,iT] at L;have Y:=R.up L (k-t+c);have h4:=O t E;rw[show k-t+c+t=k+c by omega] at Y;omega
 have an:x (k+c) i<=x k i+d:=by
  obtain⟨u,s,N,W,D,O⟩:=R.best (k+c) i;obtain⟨t,E,h⟩:=X (k+c) (by omega) u s N W D O;have L:=kT.part (Q:=Tt) D (λ_ _=>True.intro) (a:=0) (b:=t) (by omega) E;rw[N,W,iT] at L;have p:∀ f:Nat,((f:Nat):Int)*d=d*((f+1:Nat):Int)-d:=λf=>by
   rw[gP,eY,iY];simp
  by_cases hc:c*M<=t
  .obtain⟨f,k',w',s1,e,wy,hw⟩:=kT.out S Z L hc;obtain⟨f,rfl⟩:∃ τ,f=τ+1:=⟨f-1,by omega⟩;have V:=R.up (wy.app (kT.times True.intro h f)) (k+c-t);rw[Nat.mul_add,Nat.mul_one,jQ] at e;rw[show k+c-t+(k'+f*c)=k by omega] at V;have:=O t E;have:=p f;omega
  .have bk:=kT.part (Q:=Tt) D (λ_ _=>True.intro) (a:=t) (b:=k+c) E (aH _);obtain⟨f,k',w',s1,e,wy,hw⟩:=kT.out S (λv l w m y F G ld hw H=>Z v l w _ _ F G ld hw (L.app H)) bk (by omega);obtain⟨f,rfl⟩:∃ τ,f=τ+1:=⟨f-1,by omega⟩;have V:=R.up ((L.app (kT.times True.intro h f)).app wy) 0;rw[Nat.mul_add,Nat.mul_one,jQ] at e;rw[show 0+(t+f*c+k')=k by omega,R.z] at V;have Y:=O (k+c) (aH _);rw[iX,R.z] at Y;have:=p f;omega
 omega
end
def kU (n:Nat):Nat:=if n=4 then 12 else if n=3 then 6 else if n=2 then 2 else 1
theorem yX (n:Nat):1<=kU n:=by unfold kU;split;omega;split;omega;split<;>omega
theorem uX (n:Nat):kU n<=12:=by unfold kU;split;omega;split;omega;split<;>omega
theorem Px (o:n<=4) (g:1<=l) (j:l<=n):l ∣ kU n :=
 have key:∀ n,n<5->∀ l,l<5->1<=l->l<=n->l ∣ kU n:=by decide
 key n (by omega) l (by omega) g j
theorem BE (o:n<=4) (j:1<=r) (g:r<kU n):∃ l,1<=l/\l<=n/\r%l≠0 :=
 have key:∀ n,n<5->∀ r,r<12->1<=r->r<kU n->([1,2,3,4].any λl=>decide (1<=l)&&(decide (l<=n)&&(r%l != 0)))=true:=by decide
 have lt:r<12:=aT g (uX n);let ⟨l,_,h⟩:=gA.mp (key n (by omega) r lt j g)
 ⟨l,eG (cM.mp h).1,eG (cM.mp (cM.mp h).2).1,bne_iff_ne.mp (cM.mp (cM.mp h).2).2⟩
theorem Uw {T:Nat->Aa (Nat×Int)}{n z c:Nat}(j:∀ l,1<=l->l<=n->l ∣ c) (o:∀ i p,p∈T i->p.1<n\/p.1=z) (r:∀ p,p∈T z->p.1=z)
  (u:Nat->Nat) (h:∀ t,t<n+2->∃ w,(u (t+1),w)∈T (u t)):∃ a b,a<b/\b<=n+2/\u a=u b/\(b-a) ∣ c:=by
 by_cases e:∃ t,t<n+2/\u t=z
 .obtain⟨t,lt,d⟩:=e;obtain⟨w,hw⟩:=h t lt;rw[d] at hw;exact⟨t,t+1,by omega,by omega,by rw[d];exact (r _ hw).symm,by rw[Nat.add_sub_cancel_left];exact Nat.one_dvd _⟩
 .have lt:∀ q,q<=n->u (q+1)<n:=λq s=>by
   obtain⟨w,hw⟩:=h q (by omega);rcases o _ _ hw with g | g
   .exact g
   .exact absurd ⟨q+1,by omega,g⟩ e
  obtain⟨a,b,k,m,f⟩:=Fq n (λq=>u (q+1)) lt;exact⟨a+1,b+1,by omega,by omega,f,j _ (by omega) (by omega)⟩
theorem Run.epAll (S:Sys T A M c) (R:Run T x) :
  ∃ y:Nat->Int,(∀ i,0<=y i)/\∀ k:Nat,(c:Int)*(A*M)+M+A*c*(M+c)<k->2*(c*M)<=k+c->∀ i,x (k+c) i=x k i+y i :=
 ⟨λi=>Classical.choose (R.epB S i),λi=>(cJ (R.epB S i)).1,λk a b i=>(cJ (R.epB S i)).2 k a b⟩
end Lw
namespace Lw
open PySem L2
abbrev qD:=Aa (Nat×Int)
abbrev wB:=Aa (Af×qD)
def Ev (x:Nat->Int) (g:qD) (v:Int):Prop:=(∀ p∈g,x p.1+p.2<=v)/\∃ p∈g,v=x p.1+p.2
theorem Ev.uniq (h:Ev x ts u) (g:Ev x ts v):u=v:=by
 obtain⟨a,p,b,rfl⟩:=h;obtain⟨g1,q,c,rfl⟩:=g;have:=a q c;have:=g1 p b;omega
def gm (x:Nat->Int):qD->Int
 | []=>0
 | [p]=>x p.1+p.2
 | p::q::r=>if gm x (q::r)<=x p.1+p.2 then x p.1+p.2 else gm x (q::r)
theorem B4 (x:Nat->Int):∀ g:qD,g≠[]->Ev x g (gm x g)
 | [],h=>absurd rfl h
 | [p],_=>⟨λq c=>by rw[aQ.mp c];exact cO _,p,aG,rfl⟩
 | p::q::r,_=>by
  obtain⟨b,z,d,e⟩:=B4 x (q::r) (by simp);unfold gm;split
  .rename_i h
   refine⟨λy a=>?_,p,aG,rfl⟩;rcases aF.mp a with rfl | a
   .exact cO _
   .exact jR (b y a) h
  .rename_i h
   refine⟨λy a=>?_,z,aN _ d,e⟩;rcases aF.mp a with rfl | a
   .omega
   .exact b y a
def rY (z:Nat) (t:wB) (x:Af):qD:=match t.find? (λp=>decide (p.1=x)) with
 | some p=>p.2
 | none=>[(z,0)]
theorem K5:rY z (p::t) x=if p.1=x then p.2 else rY z t x:=by
 unfold rY;rw[eK];by_cases h:p.1=x<;>simp[h]
noncomputable def Ea (g:qD):qD:=g.map λp=>(p.1,p.2+1)
def C2 (z:Nat) (t:wB) (g:Af×Af×Aa Af):wB:=t++[(g.1,(z,0)::g.2.2.flatMap λo=>Ea (rY z t o))]
def rJ:Aa (Af×Af)->Af->Nat
 | [],_=>1
 | p::al,x=>if p.2=x then 0 else rJ al x+1
theorem Pm:∀ (al:Aa (Af×Af)) (x:Af),rJ al x<al.length\/rJ al x=al.length+1
 | [],_=>.inr rfl
 | p::al,x=>by
  unfold rJ;split
  .exact .inl (by simp)
  .have:=Pm al x;simp only[cY];omega
def Bb (z:Nat) (ins:Aa Af) (g:nZ) (al:Aa (Af×Af)):wB:=g.foldl (C2 z) (ins.map λn=>(n,[(rJ al n,0)]))
def qB (x:Nat->Int):wB->mQ->Prop:=Paired λ(p:Af×qD) (q:Af×Int)=>p.1=q.1/\Ev x p.2 q.2
theorem Ev.zero (g:x z=0):Ev x [(z,0)] 0:=⟨λp a=>by rw[aQ.mp a];simp[g],_,aG,by simp[g]⟩
theorem qB.look (g:x z=0) (h:qB x t u) (n:Af):Ev x (rY z t n) (look u n):=by
 unfold qB at h;induction h with
 | nil=>exact Ev.zero g
 | @cons p q t u h r a =>
  rw[K5,qK,<- h.1];split
  .exact h.2
  .exact a
theorem qB.snoc (h:qB x t u) (e:Ev x g v):qB x (t++[(n,g)]) (u++[(n,v)]):=by
 unfold qB at h |-;induction h with
 | nil=>exact .cons ⟨rfl,e⟩ .nil
 | cons h r a=>exact .cons h a
theorem O7 (g:x z=0) (h:qB x t u) (c:Int) (f:qD->qD) (l:∀ r v,Ev x r v->Ev x (f r) (c+v)) (j:Aa Af):Ev x ((z,0)::j.flatMap λo=>f (rY z t o)) (mx (j.map λo=>c+look u o)):=by
 refine⟨λp a=>?_,?_⟩
 .rcases aF.mp a with rfl | a
  .have:=sS (j.map λo=>c+look u o);simp only[g];omega
  .obtain⟨o,b,a⟩:=jJ.mp a;exact jR ((l _ _ (h.look g o)).1 p a) (tO (aJ.mpr ⟨o,b,rfl⟩))
 .rcases wG (j.map λo=>c+look u o) with e | e
  .exact⟨(z,0),aG,by rw[e];simp[g]⟩
  .obtain⟨o,b,e⟩:=aJ.mp e;obtain⟨p,a,d⟩:=(l _ _ (h.look g o)).2;exact⟨p,aN _ (jJ.mpr ⟨o,b,a⟩),by rw[<- e,d]⟩
theorem Zy (g:qD) (v:Int) (h:Ev x g v):Ev x (Ea g) (1+v):=by
 obtain⟨a,p,b,e⟩:=h;refine⟨λq c=>?_,(p.1,p.2+1),aJ.mpr ⟨p,b,rfl⟩,by simp only;omega⟩;obtain⟨r,d,rfl⟩:=aJ.mp c;have:=a r d;simp only;omega
theorem qB.fold (l:x z=0):∀ (j:nZ){t:wB}{u:mQ},qB x t u->qB x (j.foldl (C2 z) t) (j.foldl qT u)
 | [],_,_,h=>h
 | g::j,t,u,h=>qB.fold l j (h.snoc (O7 l h 1 Ea Zy g.2.2))
def vL (g:Aa Int) (i:Nat):Int:=g.getD i 0
def nE (al:Aa (Af×Af)) (g:Aa Int):mQ:=(al.map (·.2)).zip g
theorem B5:∀ (al:Aa (Af×Af)) (g:Aa Int) (x:Af),g.length=al.length+1->look (nE al g) x=vL g (rJ al x)
 | [],g,x,h=>by
  have:g[1]?=none:=dQ (by simp at h;omega);simp[nE,Ya,rJ,vL,List.getD,this]
 | p::al,[],x,h=>by simp at h
 | p::al,a::g,x,h=>by
  have e:nE (p::al) (a::g)=(p.2,a)::nE al g:=rfl;have b:=B5 al g x (by simpa using h);rw[e,qK];unfold rJ;by_cases q:p.2=x
  .rw[bA q,bA q];rfl
  .rw[bB q,bB q,b];rfl
theorem Dx (h:g.length<=i):vL g i=0:=by simp[vL,List.getD,dQ h]
theorem AS (ins:Aa Af) (j:nZ) (al:Aa (Af×Af)) (h:g.length=al.length+1):qB (vL g) (Bb (al.length+1) ins j al) (tbl ins j (look (nE al g))):=by
 refine qB.fold (Dx (by omega)) j ?_;induction ins with
 | nil=>exact .nil
 | cons n ins b=>exact .cons ⟨rfl,⟨λp a=>by
   rw[aQ.mp a];show vL g (rJ al n)+0<=look (nE al g) n;rw[B5 al g n h];omega,_,aG,by
   show look (nE al g) n=vL g (rJ al n)+0;rw[B5 al g n h];omega⟩⟩ b
def sY (ins:Aa Af) (j:nZ) (g:Aa Af) (al:Aa (Af×Af)) (l:Aa Int):Aa Int :=
 (al.map λp=>look (tbl ins j (look (nE al l))) p.1)++[mx (g.map (look (tbl ins j (look (nE al l)))))]
def Tm (ins:Aa Af) (j:nZ) (g:Aa Af) (al:Aa (Af×Af)) (i:Nat):qD :=
 match al[i]? with
 | some p=>rY (al.length+1) (Bb (al.length+1) ins j al) p.1
 | none=>if i=al.length then (al.length+1,0)::g.flatMap λo=>rY (al.length+1) (Bb (al.length+1) ins j al) o else [(al.length+1,0)]
def Fm (ins:Aa Af) (j:nZ) (g:Aa Af) (al:Aa (Af×Af)) (x:Nat->Int) (i:Nat):Int:=gm x (Tm ins j g al i)
section
theorem N3 (j:Aa Int):(sY ins l g al j).length=al.length+1:=by simp[sY]
def tI (al:Aa (Af×Af)) (n:Nat) (g:qD):Prop:=g≠[]/\∀ p∈g,(p.1<al.length\/p.1=al.length+1)/\0<=p.2/\p.2<=n
theorem tI.mono (h:tI al n g) (j:n<=m):tI al m g:=⟨h.1,λp a=>by have:=h.2 p a;omega⟩
theorem Ek (h:∀ p∈t,tI al n p.2) (x:Af):tI al n (rY (al.length+1) t x):=by
 induction t with
 | nil=>exact⟨by simp[rY],λp a=>by
   have:p=(al.length+1,0):=by simpa [rY] using a
   subst this;simp⟩
 | cons q t b =>
  rw[K5];split
  .exact h q aG
  .exact b λp a=>h p (aN _ a)
theorem Qc:∀ (j:nZ){n:Nat}{t:wB},(∀ p∈t,tI al n p.2)->∀ p∈j.foldl (C2 (al.length+1)) t,tI al (n+j.length) p.2
 | [],n,t,h=>h
 | g::j,n,t,h=>by
  have:=Qc j (n:=n+1) (t:=C2 (al.length+1) t g) λp b=>by
   rcases aV.mp b with q | q
   .exact (h p q).mono (by omega)
   .rw[aQ.mp q];refine⟨by simp,λr a=>?_⟩;rcases aF.mp a with rfl | a
    .exact⟨.inr rfl,cO _,by show (0:Int)<=((n+1:Nat):Int);omega⟩
    .obtain⟨o,_,a⟩:=jJ.mp a;obtain⟨s,c,rfl⟩:=aJ.mp a;have:=(Ek h o).2 s c;simp only;omega
  intro p b;have:=this p b;rw[cY];exact this.mono (by omega)
theorem Oo:∀ p∈Bb (al.length+1) ins g al,tI al g.length p.2:=λp a=>by
 have:=Qc g (n:=0) (t:=ins.map λn=>(n,[(rJ al n,0)])) (λq b=>by
  obtain⟨n,_,rfl⟩:=aJ.mp b;refine⟨by simp,λr c=>?_⟩;rw[aQ.mp c];exact⟨Pm al n,by simp⟩) p a
 exact this.mono (by omega)
theorem wU (i:Nat):tI al gs.length (Tm ins gs outs al i):=by
 have b:(al.length+1<al.length\/al.length+1=al.length+1)/\(0:Int)<=0/\(0:Int)<=gs.length:=⟨.inr rfl,cO _,by omega⟩;unfold Tm;split
 .exact Ek Oo _
 .split
  .refine⟨by simp,λr a=>?_⟩;rcases aF.mp a with rfl | a
   .exact b
   .obtain⟨o,_,a⟩:=jJ.mp a;exact (Ek Oo o).2 r a
  .refine⟨by simp,λr a=>?_⟩;rw[aQ.mp a];exact b
theorem Zq:Tm ins j g al (al.length+1)=[(al.length+1,0)]:=by
 unfold Tm;rw[dQ (by omega)];simp
theorem Hx:Gst (Tm ins j g al) (Fm ins j g al):=⟨λx i p a=>(B4 x _ (wU i).1).1 p a,λx i=>(B4 x _ (wU i).1).2⟩
theorem Y0 (g:1<=c) (C:∀ l,1<=l->l<=al.length->l ∣ c):Sys (Tm ins r o al) r.length (al.length+2) c :=
 ⟨λi j a h=>((wU i).2 _ h).2,by omega,g,λu h=>Uw (z:=al.length+1) C (λi p b=>((wU i).2 p b).1) (λp b=>by rw[Zq] at b;rw[aQ.mp b]) u h⟩
theorem Up (h:j.length=al.length+1):vL (sY ins l g al j)=Fm ins l g al (vL j):=by
 have E:=AS ins l al h;have a:vL j (al.length+1)=0:=Dx (by omega)
 funext i
 refine Ev.uniq (x:=vL j) (ts:=Tm ins l g al i) ?_ (B4 _ _ (wU i).1);unfold Tm;cases e:al[i]? with
 | some p =>
  have b:i<al.length:=(aK.mp e).1;have:vL (sY ins l g al j) i=look (tbl ins l (look (nE al j))) p.1:=by
   simp[vL,sY,List.getD,cK (show i<(al.map λp=>look (tbl ins l (look (nE al j))) p.1).length by simpa using b),e]
  rw[this];exact E.look a p.1
 | none =>
  have b:al.length<=i:=List.getElem?_eq_none_iff.mp e;dsimp only;split
  .rename_i q
   have:vL (sY ins l g al j) i=mx (g.map λo=>0+look (tbl ins l (look (nE al j))) o):=by
    simp[vL,sY,List.getD,q]
   rw[this];exact O7 a E 0 (λc=>c) (λc v h=>by rw[Int.zero_add];exact h) g
  .rw[Dx (by rw[N3];omega)];exact Ev.zero a
end
def nx (C:Cel) (al:Aa (Af×Af)) (g:Aa Int):Aa Int:=sY C.ins C.gates C.outs al g
def SL (C:Cel) (al:Aa (Af×Af)) (k:Nat):Aa Int:=((Cr C.ins C.gates al k).map (·.2))++[lT C al k]
section
variable {C:Cel}
theorem Z8 (g:Aa Int):(nx C al g).length=al.length+1:=N3 g
theorem E8 (k:Nat):(Cr C.ins C.gates al k).length=al.length:=by
 have:=dF List.length (Br (ins:=C.ins) (gs:=C.gates) (al:=al) k)
 simpa using this
theorem nT (k:Nat):(SL C al k).length=al.length+1:=by simp[SL,E8]
theorem Pp:∀ (t:mQ) (e:Int),(t.map (·.1)).zip (t.map (·.2)++[e])=t
 | [],e=>rfl
 | p::t,e=>by
  show (p.1,p.2)::(t.map (·.1)).zip (t.map (·.2)++[e])=_;rw[Pp t e]
theorem Sj (k:Nat):nE al (SL C al k)=Cr C.ins C.gates al k:=by
 unfold nE SL;rw[<- Br (ins:=C.ins) (gs:=C.gates) (al:=al) k];exact Pp _ _
theorem F0 (k:Nat):nx C al (SL C al k)=SL C al (k+1):=by
 unfold nx sY;rw[Sj];simp[SL,Cr,pH,lT,nV,Mx,Tb,cG]
theorem Vf (h:a.length=b.length) (e:vL a=vL b):a=b:=by
 apply fY h;intro i p q;have:=congrFun e i
 simpa [vL,List.getD,p,q] using this
abbrev XL (C:Cel) (al:Aa (Af×Af)) (k:Nat):Nat->Int:=vL (SL C al k)
abbrev uT (C:Cel) (al:Aa (Af×Af)):=Fm C.ins C.gates C.outs al
abbrev G0 (C:Cel) (al:Aa (Af×Af)):=Tm C.ins C.gates C.outs al
theorem Mb (h:g.length=al.length+1):vL (nx C al g)=uT C al (vL g):=Up h
theorem xE (k:Nat):XL C al (k+1)=uT C al (XL C al k):=by
 show vL (SL C al (k+1))=_;rw[<- F0,Mb (nT k)]
theorem Nk (i:Nat):XL C al 0 i=0:=by
 have:∀ x∈SL C al 0,x=0:=λx b=>by
  rcases aV.mp b with q | q
  .obtain⟨p,a,rfl⟩:=aJ.mp q;obtain⟨r,_,rfl⟩:=aJ.mp a;rfl
  .rw[aQ.mp q];rfl
 show (SL C al 0).getD i 0=0;rw[dL];cases e:(SL C al 0)[i]? with
 | none=>rfl
 | some x=>exact this x (aL e)
theorem Bf (k:Nat):XL C al k al.length=lT C al k:=by
 have:(SL C al k)[al.length]?=some (lT C al k):=by
  unfold SL;rw[bN (by simp[E8])];simp[E8]
 simp[XL,vL,List.getD,this]
theorem Hy:Run (G0 C al) (XL C al) :=
 ⟨Nk,λk i j a h=>by rw[xE];exact Hx.le (XL C al k) i (j,a) h,λk i=>by
  obtain⟨p,b,e⟩:=Hx.hit (XL C al k) (i:=i);exact⟨p.1,p.2,b,by rw[xE];exact e⟩⟩
theorem Ia (h:al.length<=4):Sys (G0 C al) C.gates.length (al.length+2) (kU al.length):=Y0 (yX _) λl a b=>Px h a b
theorem Hm (h:al.length<=4) (i:Nat) (g:k<=l):XL C al k i<=XL C al l i:=Hy.monoN (Ia h) i g
theorem F5 (h:al.length<=4) (k i:Nat):0<=XL C al k i:=by
 have:=Hm (C:=C) h i (cU k)
 rwa [Nk] at this
theorem Gw (h:al.length<=4) (k:Nat):∀ x∈SL C al k,0<=x:=λx b=>by
 obtain⟨i,a,rfl⟩:=eJ b;have:=F5 (C:=C) h k i
 simpa [XL,vL,List.getD,a] using this
theorem Q7 (h:al.length<=4) (g:C.gates.length<=24):∃ y:Nat->Int,∀ k,7000<=k->∀ i,XL C al (k+kU al.length) i=XL C al k i+y i:=by
 obtain⟨y,_,d⟩:=Hy.epAll (Ia (C:=C) h);refine⟨y,λk n i=>d k ?_ ?_ i⟩
 .have a:=uX al.length;generalize kU al.length=c at a |-;generalize C.gates.length=A at g |-;have b:al.length+2<=6:=by omega
  generalize al.length+2=M at b |-;have f:c*(A*M)<=12*(24*6):=gU a (gU g b);have m:A*c*(M+c)<=24*12*18:=gU (gU g a) (by omega);have e:(c:Int)*((A:Int)*(M:Nat))+(M:Nat)+(A:Int)*c*((M:Nat)+c)=((c*(A*M)+M+A*c*(M+c):Nat):Int):=by simp only[gP,iD]
  have lt:c*(A*M)+M+A*c*(M+c)<k:=by omega
  have:(c:Int)*((A:Int)*(M:Nat))+(M:Nat)+(A:Int)*c*((M:Nat)+c)<k:=by rw[e];omega
  exact this
 .have a:=uX al.length;generalize kU al.length=c at a |-;have:c*(al.length+2)<=12*6:=gU a (by omega);omega
def pZ (g j:Aa Int) (t:Int):Aa Int:=List.zipWith (λa b=>a+t*b) g j
def zI (a b:Aa Int):Aa Int:=List.zipWith (λfirst last=>last-first) a b
theorem F6 (f:Int->Int->Int) (g:f 0 0=0):∀ (a b:Aa Int),a.length=b.length->∀ i,vL (List.zipWith f a b) i=f (vL a i) (vL b i)
 | [],[],_,i=>by simp[vL,g]
 | x::a,y::b,h,0=>rfl
 | x::a,y::b,h,i+1=>F6 f g a b (by simpa using h) i
 | [],_::_,h,_=>by simp at h
 | _::_,[],h,_=>by simp at h
theorem Fn (t:Int) (h:g.length=j.length) (i:Nat):vL (pZ g j t) i=vL g i+t*vL j i:=F6 (λa b=>a+t*b) (by simp) g j h i
theorem BB (h:a.length=b.length) (i:Nat):vL (zI a b) i=vL b i-vL a i:=F6 _ (by simp) a b h i
theorem Gv (h:g.length=j.length):(pZ g j t).length=g.length:=by simp[pZ,h]
theorem DE (h:a.length=b.length):(zI a b).length=a.length:=by simp[zI,h]
def mK (C:Cel) (al:Aa (Af×Af)) (s:Nat):Aa Int:=zI (SL C al s) (SL C al (s+kU al.length))
theorem Cn (s:Nat):(mK C al s).length=al.length+1:=by
 unfold mK;rw[DE (by rw[nT,nT]),nT]
theorem G9 (s i:Nat):vL (mK C al s) i=XL C al (s+kU al.length) i-XL C al s i:=BB (by rw[nT,nT]) i
theorem Qd (h:al.length<=4) (s i:Nat):0<=vL (mK C al s) i:=by
 rw[G9];have:=Hm (C:=C) h i (eU s (kU al.length));omega
def rZ (C:Cel) (al:Aa (Af×Af)) (s k:Nat) (t:Int):Prop:=nx C al (pZ (SL C al k) (mK C al s) t)=pZ (SL C al (k+1)) (mK C al s) t
theorem Mu:rZ C al s k t↔uT C al (λj=>XL C al k j+t*vL (mK C al s) j)=λi=>uT C al (XL C al k) i+t*vL (mK C al s) i:=by
 have c:(SL C al k).length=(mK C al s).length:=by rw[nT,Cn]
 have d:(SL C al (k+1)).length=(mK C al s).length:=by rw[nT,Cn]
 have a:vL (nx C al (pZ (SL C al k) (mK C al s) t))=uT C al (λj=>XL C al k j+t*vL (mK C al s) j):=by
  rw[Mb (by rw[Gv c,nT])]
  congr 1
  exact funext (Fn t c)
 have b:vL (pZ (SL C al (k+1)) (mK C al s) t)=λi=>uT C al (XL C al k) i+t*vL (mK C al s) i:=by
  funext i
  rw[Fn t d];show XL C al (k+1) i+_=_;rw[xE]
 unfold rZ;constructor
 .intro h;rw[<- a,<- b,h]
 .intro h;exact Vf (by rw[Z8,Gv d,nT]) (by rw[a,b,h])
theorem Qf (g:al.length<=4) (h:∀ k,s<=k->k<s+kU al.length->∃ t:Int,(∀ x∈SL C al (k+1),x<t)/\0<t/\rZ C al s k t):∀ k,s<=k->∀ i,XL C al (k+kU al.length) i=XL C al k i+vL (mK C al s) i:=by
 refine Yt (F:=uT C al) xE (λi=>by rw[G9];omega) λk c d n=>?_
 obtain⟨t,f,m,a⟩:=h k c d;have a:=Mu.mp a
 funext i
 refine Hx.steady (T:=G0 C al) (x:=XL C al k) (y:=vL (mK C al s)) (t:=t) (i:=i) (λp e=>?_) ?_ (congrFun a i) n
 .have:=F5 (C:=C) g k p.1;have:=((wU (ins:=C.ins) (gs:=C.gates) (outs:=C.outs) (al:=al) i).2 p e).2.1;omega
 .show uT C al (XL C al k) i<t;rw[<- xE];by_cases b:i<(SL C al (k+1)).length
  .have:XL C al (k+1) i=(SL C al (k+1))[i]:=by simp[XL,vL,List.getD,b]
   rw[this];exact f _ (cQ b)
  .rw[show XL C al (k+1) i=0 from Dx (by omega)];exact m
theorem DG (g:al.length<=4) (j:C.gates.length<=24) (l:7000<=s) (p:s<=k) (o:0<=t):rZ C al s k t:=by
 obtain⟨y,a⟩:=Q7 (C:=C) g j;have e:vL (mK C al s)=y:=funext λi=>by
  rw[G9];have:=a s l i;omega
 obtain⟨n,rfl⟩:=dB o;refine Mu.mpr ?_;rw[e];exact AC (s:=7000) xE a k (by omega) n
end
end Lw
namespace L2
open PySem PySem.Spec PyProof.Rows
section
variable {X:Cx}{K:kG}
theorem X1 {bs:Aa Int}{g:Aa Ac}(r:kJ (bs.map V.int) g){i:Nat}{v:Ac}(h:g[i]?=some v):∃ b t,bs[i]?=some b/\v = .int b t:=by
 have d:=r.length;rw[aB] at d;have f:i<g.length:=(aK.mp h).1;have a:bs[i]?=some (bs[i]'(by omega)):=aI (by omega);obtain⟨u,c,e⟩:=r.get (i:=i) (x:=V.int (bs[i]'(by omega))) (by rw[bG,a];rfl);rw[h] at c;cases c;obtain⟨t,rfl⟩:=e;exact⟨_,t,a,rfl⟩
theorem CN (bs:Aa Bool):((List.range bs.length).any λi=>(bs[i]?).getD true)=bs.any id:=by
 have e:(List.range bs.length).map (λi=>(bs[i]?).getD true)=bs:=by
  apply fY (by simp);intro i p q;simp[q]
 calc ((List.range bs.length).any λi=>(bs[i]?).getD true)=((List.range bs.length).map λi=>(bs[i]?).getD true).any id:=by rw[List.any_map];rfl
  _=bs.any id:=by rw[e]
def Jc (K:kG):Aa V->Hp->VK->Prop:=λc H Q=>∃ (p:Ad) (a:Aa Int),c=[.ref p]/\eT K H p (a.map V.int)/\Q (.b (a.any (· != 0))) H
theorem Xv (g:X.calm=true):lX X (.builtin "any") (Jc X.K):=by
 intro n s S H R P Q I r h;obtain⟨p,d,rfl,D,q⟩:=h;obtain⟨u,rfl,F⟩:=nM r;cases F;obtain⟨c,w,E,_⟩:=I.list D;have f:=E.isList;have a:=w.length;rw[aB] at a;have k:p<s.heap.objs.size:=by obtain⟨_,e,_⟩:=id f;exact aM e
 refine call_any_walk (dN f ?_);refine⟨s.heap.objs.size,[s.heap.objs.size,p],[s.heap.objs.size],c.toArray.size,_,_,λi=>((d.map (· != 0))[i]?).getD true,rfl,Walks.list (A:=X.A.in1) (I.ok.hd g) _ p (aX k) c.toArray,⟨⟨_,aR _ rfl,rfl,rfl⟩,f.push _⟩,λi v N L G y m=>?_,λM O z=>?_⟩
 .obtain⟨b,t,e,rfl⟩:=X1 w (by simpa using y);simp only[bG,e,Option.map_some,Option.getD_some] at m;exact truthy_int m
 .have e:((List.range c.toArray.size).any λi=>((d.map (· != 0))[i]?).getD true)=d.any (· != 0):=by
   have:=CN (d.map (· != 0));rw[aB,a] at this;rw[aP,this,List.any_map];rfl
  rw[e];exact⟨.b _,H,I.kept λb x e=>z b x (λB=>by rw[aQ.mp B] at e;exact cW _ (aM e)) (aE _ e),rfl,q⟩
def Vx:OC:=λc e=>match c with
 | [.l d]=>∃ a,qE d=some a/\e (.v (.b (a.any (· != 0))))
 | _=>False
theorem DI:pU K (Jc K) Vx:=by
 intro B L H e s t Q hd i c k;cases e with
 | nil=>exact False.elim c
 | cons d e =>
  cases e with
  | cons _ _=>cases d<;>exact False.elim c
  | nil =>
   cases d<;>first | exact False.elim c | skip
   obtain⟨x,rfl,n⟩:=rM i;obtain⟨m,f,c⟩:=c;obtain⟨a,q,rfl,h,r⟩:=n.lst_inv;rw[yD f r] at h;exact⟨a,m,rfl,eT.of h,k _ _ H c (hd.pushF (.b _))⟩
def B8 (P:Ah) (w:World) (a:Ad) (n:Nat):HO:=.ext λh=>∃ S,h.SetOf (intKind P w) a S n
def xK (g:Aa Int):Aa Int:=firstMet (λi=>g.getD i 0) g.length
theorem Ti (l:X.calm=true):lX X (.type "set") (λj H Q=>∃ (p:Ad) (g:Aa Int),j=[.ref p]/\eT X.K H p (g.map V.int)/\g.length<=4000/\∀ a,H a=none->Q (.ref a) (upd H a (B8 X.prog X.w a (xK g).length))):=by
 intro i s N H j M Q I r h;obtain⟨p,g,rfl,A,L,q⟩:=h;obtain⟨u,rfl,D⟩:=nM r;cases D;obtain⟨f,m,B,_⟩:=I.list A;have c:=m.length;rw[aB] at c;refine call_set_list (ns:=g) (I.ok.hd l) B.isList (by simpa using U9 m) (by rw[aP];unfold scanBound;omega) λx E d y=>?_
 rw[show f.toArray.size=g.length by rw[aP,c]] at d;have hex:∃ o,x.get? s.heap.objs.size=some o:=by obtain⟨o,_,_,_,e,_⟩:=d;exact⟨o,e⟩
 refine⟨.ref s.heap.objs.size,_,I.laid (a:=s.heap.objs.size) (o:=B8 X.prog X.w s.heap.objs.size (xK g).length) (t':=E) (λb o e=>y b o (aM e) e) (aH _) ?_,rfl,q _ I.fresh⟩;refine⟨⟨_,d⟩,hex,λF G ⟨S,z⟩ k=>⟨S,?_⟩⟩;obtain⟨o,v,n,t,e,rest⟩:=z;exact⟨o,v,n,t,k o e,rest⟩
theorem BS:lX X (.builtin "len") (λg H Q=>∃ (a:Ad) (n:Nat),g=[.ref a]/\H a=some (B8 X.prog X.w a n)/\Q (.int n) H):=by
 intro b s y H g x Q I r h;obtain⟨a,n,rfl,f,q⟩:=h;obtain⟨u,rfl,k⟩:=nM r;cases k;obtain⟨⟨S,o,c,m,t,e,d,hd,_,_,v,i,rfl⟩,_⟩:=I.hok a _ f;refine call_len_set e d hd i ?_ ⟨.int c.size,H,I.tok _,⟨_,rfl⟩,q⟩;have:scanBound=4096:=rfl;omega
def uV (g:Aa Int):Prop:=g≠[]/\∀ x∈g,∀ y∈g,x=y
theorem Pj:∀ n,(∀ i,i<n->f i=c)->0<n->firstMet f n=[c]
 | 0,_,h=>absurd h (by omega)
 | 1,h,_=>by rw[firstMet_succ,firstMet_zero,h 0 (by omega)];rfl
 | n+2,h,_=>by
  rw[firstMet_succ,Pj (n+1) (λi a=>h i (by omega)) (by omega),h (n+1) (by omega)];simp[step_dedup]
theorem Wg:∀ g:Aa Int,(List.range g.length).map (λi=>g.getD i 0)=g:=λg=>by
 apply fY (by simp);intro i p q;simp[List.getD,q]
theorem Qw (g:Aa Int):(xK g).length=1↔uV g:=by
 have key:=firstMet_any (λi=>g.getD i 0) g.length;rw[Wg] at key;constructor
 .intro h;obtain⟨z,n⟩:=List.length_eq_one_iff.mp h;have e:∀ x,x∈g↔x=z:=λx=>by
   have k:=key x;rw[show firstMet (λi=>g.getD i 0) g.length=[z] from n] at k;constructor
   .intro d;have:g.any (· == x)=true:=gA.mpr ⟨x,d,jG x⟩;rw[<- k] at this;obtain⟨y,a,b⟩:=gA.mp this;rw[aQ.mp a] at b;exact (eq_of_beq b).symm
   .rintro rfl;have:[x].any (· == x)=true:=gA.mpr ⟨x,aG,jG x⟩;rw[k] at this;obtain⟨y,a,b⟩:=gA.mp this;rw[<- eq_of_beq b];exact a
  refine⟨λq=>?_,λx d y a=>by rw[(e x).mp d,(e y).mp a]⟩;have:=(e z).mpr rfl;rw[q] at this;exact absurd this bE
 .rintro ⟨m,h⟩;cases g with
  | nil=>exact absurd rfl m
  | cons c r =>
   unfold xK;rw[Pj (c:=c) _ (λi f=>?_) (by simp)]
   .rfl
   .have:(c::r).getD i 0∈c::r:=by
     rw[dL,aI f];exact cQ f
    exact h _ this _ aG
def W2 (i:Nat):lK:=λ_ b c=>∃ a:Aa Int,at? b i=some (.l (a.map D.int))/\a.length<=4000/\∀ m:Nat,(m=1↔uV a)->c (.v (.int m)) b
theorem W1 (h:PE X e t) (l:∀ j H Q,(∃ v,j[i]?=some (some v)/\∃ (a:Ad) (g:Aa Int),v = .ref a/\eT X.K H a (g.map V.int)/\g.length<=4000/\∀ p,H p=none->Q (.int ((xK g).length:Nat)) (upd H p (B8 X.prog X.w p (xK g).length)))->t j H Q):PD X e (W2 i) :=
 h.mono λj H Q c=>c.elim λB x T z n hd d k=>by
  obtain⟨g,q,b,f⟩:=d;obtain⟨v,s,pv⟩:=hd.peek n q;obtain⟨a,y,rfl,m,u⟩:=pv;have e:qE (g.map D.int)=some g:=xH g;rw[yD e u] at m;exact l j H Q ⟨_,s,a,g,rfl,eT.of m,b,λp np=>k _ x _ _ n ((hd.laid np).push (.int _)) (f _ (Qw g))⟩
end
end L2
namespace PySem
open PyProof.Rows L2
def oE (b:Bool) (h:Ag) (g t:Ad) (i:Nat):Prop:=match b with
 | true=>h.IsTupleIter g t i
 | false=>h.IsListIter g t i
def oW (b:Bool) (h:Ag) (a:Ad) (g:Array Ac):Prop:=match b with
 | true=>h.IsTuple a g
 | false=>h.IsList a g
theorem sG (x:oE b h g t i) (k:∀ o,h.get? g=some o->j.get? g=some o):oE b j g t i:=by
 cases b
 .exact let ⟨o,e,r⟩:=(show h.IsListIter g t i from x);⟨o,k o e,r⟩
 .exact let ⟨o,e,r⟩:=(show h.IsTupleIter g t i from x);⟨o,k o e,r⟩
theorem xA (x:oW b h a g) (k:∀ o,h.get? a=some o->j.get? a=some o):oW b j a g:=by
 cases b
 .exact let ⟨o,e,r⟩:=(show h.IsList a g from x);⟨o,k o e,r⟩
 .exact let ⟨o,e,r⟩:=(show h.IsTuple a g from x);⟨o,k o e,r⟩
theorem P2 (x:oE b h g t i):∃ o,h.get? g=some o:=by
 cases b
 .exact let ⟨o,e,_⟩:=(show h.IsListIter g t i from x);⟨o,e⟩
 .exact let ⟨o,e,_⟩:=(show h.IsTupleIter g t i from x);⟨o,e⟩
theorem Oy (x:oW b h a g):∃ o,h.get? a=some o:=by
 cases b
 .exact let ⟨o,e,_⟩:=(show h.IsList a g from x);⟨o,e⟩
 .exact let ⟨o,e,_⟩:=(show h.IsTuple a g from x);⟨o,e⟩
section
theorem Er (I:oE b s.heap j t i) (T:oW b s.heap t l) (o:l[i]?=some x) (q:∀ g,oE b g j t (i+1)->Heap.SameBut j s.heap g->Q x { s with heap:=g }) :
  wpAny (model p w) A (Builtin.SmallTypes.nextOf (.ref j)) Q E s:=by
 cases b
 .exact gI I T o q
 .exact Xx I T o q
theorem Le (calm:A.handled=none) (I:oE b s.heap p t i) (T:oW b s.heap t j) (l:j[i]?=none)
  (q:∀ g e,Heap.ExtBut p s.heap g->(∃ o,g.get? e=some o/\o.cls = .type "StopIteration")->E (.ref e) { s with heap:=g }):wpAny (model r w) A (Builtin.SmallTypes.nextOf (.ref p)) Q E s:=by
 cases b
 .exact jE calm I T l q
 .exact Zk calm I T l q
theorem CJ {I J:Bool}{z TI TO j l r C:Ad}{k1 k2:Nat}{xs ys:Array Ac}{x y a b:Ac}{Q:Ab Ac->Ae->Prop}(D:ZipApart z TI TO j l r C) (hz:IsZip s.heap z TI TO .none) (T:IsPair s.heap TI (.ref j) (.ref l)) (U:IsPair s.heap TO a b)
  (h1:oE I s.heap j r k1) (h2:oE J s.heap l C k2) (aa:oW I s.heap r xs) (ab:oW J s.heap C ys) (hx:xs[k1]?=some x) (hy:ys[k2]?=some y)
  (out:∀ g,IsZip g z TI TO (rawInt s.heap.objs.size)->IsPair g TO x y->oE I g j r (k1+1)->oE J g l C (k2+1)->IsPair g s.heap.objs.size x y->g.objs.size=s.heap.objs.size+1 ->(∀ c o,c≠z->c≠TO->c≠j->c≠l->s.heap.get? c=some o->g.get? c=some o)->Q (some (.ref s.heap.objs.size)) { s with heap:=g }):wpAny (model ac w) A (pyNext (.ref z)) Q E s:=by
 have ty:s.TypeIs (.ref z) "zip" := ⟨_,hz,rfl⟩;unfold pyNext;refine aA (fS (cP (name:=Str.ofString "__next__") ty fB (fE fB ty jI (Nn (p:=a) (q:=b) hz T λg1 Y f=>?_) (iS _))));have d:∀ c o,c≠z->s.heap.get? c=some o->g1.get? c=some o:=λc o n e=>f.extBut _ _ n e
 refine Er (sG h1 λo e=>d _ o D.i1z e) (xA aa λo e=>d _ o D.l1z e) hx λg2 S h=>?_
 have i:∀ c o,c≠j->g1.get? c=some o->g2.get? c=some o:=λc o n e=>h.extBut _ _ n e
 refine⟨i _ _ D.TOi1 (d _ _ D.TOz U),λg3 W H=>?_⟩;have k:∀ c o,c≠TO->g2.get? c=some o->g3.get? c=some o:=λc o n e=>H.extBut _ _ n e
 refine Er (sG h2 λo e=>k _ o D.TOi2.symm (i _ o D.i12.symm (d _ o D.i2z e))) (xA ab λo e=>k _ o D.l2TO (i _ o D.l2i1 (d _ o D.l2z e))) hy λF V K=>?_
 have t:∀ c o,c≠l->g3.get? c=some o->F.get? c=some o:=λc o n e=>K.extBut _ _ n e
 refine⟨t _ _ D.TOi2 W,λG X L=>?_⟩;have u:∀ c o,c≠TO->F.get? c=some o->G.get? c=some o:=λc o n e=>L.extBut _ _ n e
 have sz:G.objs.size=s.heap.objs.size:=by rw[L.1,K.1,H.1,h.1,f.1]
 refine⟨u _ _ D.TOz.symm (t _ _ D.i2z.symm (k _ _ D.TOz.symm (i _ _ D.i1z.symm Y))),λg M N O m=>?_⟩;rw[sz] at M N O |-;refine aD (out g M (m _ _ D.TOz X) (sG S λo e=>m _ o D.i1z (u _ o D.TOi1.symm (t _ o D.i12 (k _ o D.TOi1.symm e)))) (sG V λo e=>m _ o D.i2z (u _ o D.TOi2.symm e)) N O λc o v B P R e=>?_);exact m c o v (u c o B (t c o R (k c o B (i c o P (d c o v e)))))
theorem Uh {b1 l:Bool}{z TI TO j I l1 l2:Ad}{k1 k2:Nat}{xs ys:Array Ac}{a b:Ac}{Q:Ab Ac->Ae->Prop}(calm:A.handled=none) (D:ZipApart z TI TO j I l1 l2) (hz:IsZip s.heap z TI TO .none) (aa:IsPair s.heap TI (.ref j) (.ref I)) (ab:IsPair s.heap TO a b)
  (h1:oE b1 s.heap j l1 k1) (h2:oE l s.heap I l2 k2) (C:oW b1 s.heap l1 xs) (ac:oW l s.heap l2 ys) (r:xs[k1]?=none\/ys[k2]?=none)
  (out:∀ U,(∀ c o,c≠z->c≠TO->c≠j->c≠I->s.heap.get? c=some o->U.get? c=some o)->Q none { s with heap:=U }):wpAny (model J w) A (pyNext (.ref z)) Q E s:=by
 have ty:s.TypeIs (.ref z) "zip" := ⟨_,hz,rfl⟩;have f:∀ (g:Ag) (e:Ad),(∀ c o,c≠z->c≠TO->c≠j->c≠I->s.heap.get? c=some o->g.get? c=some o)->(∃ o,g.get? e=some o/\o.cls = .type "StopIteration")->IsZip g z TI TO .ellipsis ->
   Cj z TI TO (λe V=>wpAny (model J w) A (do if <- isInstance e (.type "StopIteration") then pure none else throw e) Q E V) (.ref e) { s with heap:=g }:=λg e k ⟨o,H,L⟩ O=>by
  refine⟨O,λU M=>?_⟩;have ne:e≠z:=λq=>by
   rw[q,O] at H;cases H;injection L with y;exact absurd y (by decide)
  exact aA (dZ (T := "StopIteration") (b:=true) ⟨o,M.extBut _ _ ne H,L⟩ isSubtype_stop (aD (out U λc o h v i B q=>M.extBut _ _ h (k c o h v i B q))))
 unfold pyNext;refine aA (fS (cP (name:=Str.ofString "__next__") ty fB (fE fB ty jI (Nn (p:=a) (q:=b) hz aa λg1 N F=>?_) (iS _))));have d:∀ c o,c≠z->s.heap.get? c=some o->g1.get? c=some o:=λc o n e=>F.extBut _ _ n e
 rcases Option.eq_none_or_eq_some xs[k1]? with m | ⟨x,m⟩
 .exact Le calm (sG h1 λo e=>d _ o D.i1z e) (xA C λo e=>d _ o D.l1z e) m λg2 e l W=>f g2 e (λc o h _ i _ q=>l c o i (d c o h q)) W (l _ _ D.i1z.symm N)
 .refine Er (sG h1 λo e=>d _ o D.i1z e) (xA C λo e=>d _ o D.l1z e) m λg2 Y G=>?_
  have t:∀ c o,c≠j->g1.get? c=some o->g2.get? c=some o:=λc o n e=>G.extBut _ _ n e
  refine⟨t _ _ D.TOi1 (d _ _ D.TOz ab),λg3 Z S=>?_⟩;have u:∀ c o,c≠TO->g2.get? c=some o->g3.get? c=some o:=λc o n e=>S.extBut _ _ n e
  have P:ys[k2]?=none:=r.elim (λn=>by rw[n] at m;cases m) id;exact Le calm (sG h2 λo e=>u _ o D.TOi2.symm (t _ o D.i12.symm (d _ o D.i2z e))) (xA ac λo e=>u _ o D.l2TO (t _ o D.l2i1 (d _ o D.l2z e))) P λR e K X=>f R e (λc o h v i B q=>K c o B (u c o v (t c o i (d c o h q)))) X (K _ _ D.i2z.symm (u _ _ D.TOz.symm (t _ _ D.i1z.symm N)))
end
noncomputable def nQ (b:Bool) (t:Ad):Obj:={ cls:=.type (match b with | true => "tuple_iterator" | false => "list_iterator"),data:=.fields #[.ref t,.int 0 0] }
theorem M8 (b:Bool) (e:h.get? g=some (nQ b t)):oE b h g t 0:=by
 cases b
 .exact⟨_,e,rfl,rfl⟩
 .exact⟨_,e,rfl,rfl⟩
theorem Ix (T:oW b s.heap l j) (q:Q (.ref s.heap.objs.size) { s with heap:=s.heap.push (nQ b l) }):wpAny (model g w) A (pyIter (.ref l)) Q E s:=by
 cases b
 .exact dN T q
 .exact wpAny_pyIter_tuple T q
def O4 (g j:Bool) (h:Ag) (s t:Ad):Ag:=((((h.push (nQ g s)).push (nQ j t)).push (xM (.ref h.objs.size) (.ref (h.push (nQ g s)).objs.size))).push (xM .none .none)).push (M3 ((h.push (nQ g s)).push (nQ j t)).objs.size (((h.push (nQ g s)).push (nQ j t)).push (xM (.ref h.objs.size) (.ref (h.push (nQ g s)).objs.size))).objs.size)
theorem Y5 (j p:Bool) (l m:Ad) (C I:Array Ac):Meets (Builtin.«zip.__new__» ⟨[.type "zip",.ref l,.ref m],[]⟩) (λ_ R s=>oW j s.heap l C/\oW p s.heap m I /\ ∀ r,r=O4 j p s.heap l m->∀ n,n=s.heap.objs.size+4->R (.ok (.ret (.ref n))) { s with heap:=r }) :=
 .of_wp λf w A R s h=>by
  obtain⟨c,g,d,i,os⟩:=s;obtain⟨k,q,h⟩:=h;have under:=sub_zip;have a:oW j (Shared.heap ⟨c,g,d,i,os⟩) l C:=k;have b:oW p (Shared.heap ⟨c.push (nQ j l),g,d,i,os⟩) m I:=xA q λo e=>aE _ e
  wp_walk using Ix a,Ix b
  refine⟨_,rfl,h _ rfl _ ?_⟩;rw[cR,cR,cR,cR]
section
theorem Uj (J:oW r s.heap l U) (T:oW C s.heap m ys)
  (q:∀ j,IsZip j (s.heap.objs.size+4) (s.heap.objs.size+2) (s.heap.objs.size+3) .none->IsPair j (s.heap.objs.size+2) (.ref s.heap.objs.size) (.ref (s.heap.objs.size+1))->IsPair j (s.heap.objs.size+3) .none .none ->oE r j s.heap.objs.size l 0->oE C j (s.heap.objs.size+1) m 0->j.objs.size=s.heap.objs.size+5->(∀ c o,s.heap.get? c=some o->j.get? c=some o)->Q (.ref (s.heap.objs.size+4)) { s with heap:=j }) :
  wpAny (model I w) A (call (.type "zip") [.ref l,.ref m]) Q E s:=by
 refine callType_new F.called_zip (by decide) (F.typeCall_zip_2 _ _) (F.newCall_zip_2 _ _) (λobj=>F.args_object_init_3 obj _ _) F.entry_zip_new (Y5 r C l m U ys) ⟨J,T,λj e n k=>?_⟩;subst e k;have b:(s.heap.push (nQ r l)).objs.size=s.heap.objs.size+1:=cR ..;have d:((s.heap.push (nQ r l)).push (nQ C m)).objs.size=s.heap.objs.size+2:=by rw[cR,b]
 have h:∀ p,(((s.heap.push (nQ r l)).push (nQ C m)).push p).objs.size=s.heap.objs.size+3:=λp=>by rw[cR,d]
 have i:∀ p q,((((s.heap.push (nQ r l)).push (nQ C m)).push p).push q).objs.size=s.heap.objs.size+4:=λp q=>by rw[cR,h]
 have a:∀ (g:Ag) (o:Obj) (n:Nat),o.isFreed=false->g.objs.size=n->(g.push o).get? n=some o:=λg o n f e=>by rw[<- e];exact aR _ f
 have on:∀ {g:Ag} {o p:Obj} {c:Ad},g.get? c=some o->(g.push p).get? c=some o:=λe=>aE _ e
 unfold O4;rw[b,d,h];have z:=a ((((s.heap.push (nQ r l)).push (nQ C m)).push (xM (.ref s.heap.objs.size) (.ref (s.heap.objs.size+1)))).push (xM .none .none)) (M3 (s.heap.objs.size+2) (s.heap.objs.size+3)) _ rfl (i _ _);exact⟨⟨_,z,rfl⟩,q _ z (on (on (a _ _ _ rfl d))) (on (a _ _ _ rfl (h _))) (M8 r (on (on (on (on (aR _ rfl)))))) (M8 C (on (on (on (a _ _ _ rfl b))))) (by rw[cR,i]) λc o e=>on (on (on (on (on e))))⟩
end
end PySem
namespace L2
open PySem PySem.Spec PyProof.Rows
def qC (b:Bool) (K:kG) (H:Hp) (a:Ad) (g:Aa V):Prop:=match b with
 | true=>lL K H a g
 | false=>eT K H a g
section
variable {X:Cx}
theorem Inv.seqB (I:Inv X j o H s) (h:qC b X.K H a l):∃ g:Aa Ac,kJ l g/\oW b s.heap a g.toArray:=by
 cases b
 .obtain⟨g,r,p,_⟩:=I.list h;exact⟨g,r,p.isList⟩
 .obtain⟨g,r,p,_⟩:=I.tuple h;exact⟨g,r,p⟩
theorem Inv.seqB_inj (I:Inv X j p H s) (h:qC b X.K H a l) (g:qC b X.K H a o):l=o:=by
 cases b
 .exact I.list_inj h g
 .exact I.tuple_inj h g
theorem Lm (x:oE b h g t i):∃ o,h.get? g=some o/\∀ v,o.data ≠ .cell v:=by
 cases b
 .obtain⟨o,e,_,d⟩:=(show h.IsListIter g t i from x);exact⟨o,e,λv z=>by rw[d] at z;cases z⟩
 .obtain⟨o,e,_,d⟩:=(show h.IsTupleIter g t i from x);exact⟨o,e,λv z=>by rw[d] at z;cases z⟩
end
def Fu (g j:Bool) (K:kG) (a b:Ad):It :=
 ⟨λi H=>∃ c d x y,qC g K H a c/\qC j K H b d/\c[i]?=some x/\d[i]?=some y,λi H v e=>∃ p x y,H p=none/\v = .ref p/\e=upd H p (.t [x,y])/\(∀ c,qC g K H a c->c[i]?=some x)/\(∀ d,qC j K H b d->d[i]?=some y),λi H=>∃ c d,qC g K H a c/\qC j K H b d/\(c.length<=i\/d.length<=i)⟩
def Qn (l o:Bool) (a b z TI TO g j:Ad) (i:Nat) (h:Ag):Prop:=IsZip h z TI TO .none/\IsPair h TI (.ref g) (.ref j)/\(∃ u v,IsPair h TO u v)/\oE l h g a i/\oE o h j b i
theorem S4 {P:Ah}{K:kG}{TI TO:Ad}(D:ZipApart z TI TO i1 i2 a b) :
  Turn P w K (.Tuple ac x1 pos) (Fu b1 b2 K a b) [z,TI,TO,i1,i2] z (Qn b1 b2 a b z TI TO i1 i2) where
 mem:=by simp
 obj:=λi h st c F=>by
  obtain⟨n,t,⟨u,v,A⟩,f,m⟩:=st;obtain⟨o4,f,d4⟩:=Lm f;obtain⟨o5,m,d5⟩:=Lm m;simp only[aF,bE,eP] at F;rcases F with e | e | e | e | e<;>subst e
  .exact⟨_,n,λv z=>nomatch z⟩
  .exact⟨_,t,λv z=>nomatch z⟩
  .exact⟨_,A,λv z=>nomatch z⟩
  .exact⟨_,f,d4⟩
  .exact⟨_,m,d5⟩
 keep:=λi h h' st k=>by
  obtain⟨n,t,⟨u,v,A⟩,f,m⟩:=st;exact⟨k z (by simp) _ n,k TI (by simp) _ t,⟨u,v,k TO (by simp) _ A⟩,sG f λo e=>k i1 (by simp) o e,sG m λo e=>k i2 (by simp) o e⟩
 item:=by
  intro X Y hw W F i L s σ H E I N st Z;subst Y hw W;obtain⟨n,t,⟨u,v,A⟩,f,m⟩:=st;obtain⟨xs,ys,x,y,O,Q,hx,hy⟩:=Z;obtain⟨l,U,r⟩:=I.seqB O;obtain⟨p,ry,py⟩:=I.seqB Q;obtain⟨ux,g,J⟩:=U.get hx;obtain⟨uy,j,T⟩:=ry.get hy;refine CJ D n t A f m r py (x:=ux) (y:=uy) (by simpa using g) (by simpa using j) λh' n1 n2 n3 n4 n5 n6 n7=>?_
  refine⟨_,rfl,wpAny_letOwnedTupleGo_zip n1 λh2 m1 B=>?_⟩;have kp:∀ c o,c∉[z,TI,TO,i1,i2]->s.heap.get? c=some o->h2.get? c=some o:=λc o d e=>by
   simp only[aF,bE,eP,kF] at d;obtain⟨M,e2,R,S,V⟩:=d;exact B.extBut c o M (n7 c o M R S V e)
  have zs:s.heap.objs.size≠z:=λe=>cW _ (by have:=aM n;rw[<- e] at this;exact this)
  have nt:tE h2 s.heap.objs.size [ux,uy].toArray:=⟨⟨_,B.extBut _ _ zs n5,rfl,_,rfl⟩,_,B.extBut _ _ zs n5,rfl⟩;have I2:=I.movedT (t':=s.toks) (ys:=[x,y]) N kp nt (.cons J (.cons T .nil)) (by show 2<=sizeLine;decide);refine⟨.ref s.heap.objs.size,_,I2,rfl,⟨_,x,y,I.fresh,rfl,rfl,λae C=>by rw[I.seqB_inj C O];exact hx,λaf C=>by rw[I.seqB_inj C Q];exact hy⟩,⟨m1,?_,⟨ux,uy,?_⟩,?_,?_⟩,λc d=>?_⟩
  .exact B.extBut _ _ D.TIz (n7 TI _ D.TIz D.TITO D.TIi1 D.TIi2 t)
  .exact B.extBut _ _ D.TOz n2
  .exact sG n3 λo e=>B.extBut _ o D.i1z e
  .exact sG n4 λo e=>B.extBut _ o D.i2z e
  .rw[kK]
   .exact (N c d).1
   .intro e;obtain⟨o,ho⟩:∃ o,s.heap.get? c=some o:=by
     obtain⟨o4,aa⟩:=P2 f;obtain⟨o5,ab⟩:=P2 m;simp only[aF,bE,eP] at d;rcases d with q | q | q | q | q<;>rw[q]
     .exact⟨_,n⟩
     .exact⟨_,t⟩
     .exact⟨_,A⟩
     .exact⟨_,aa⟩
     .exact⟨_,ab⟩
    have:=aM ho;rw[e] at this;exact cW _ this
 done:=by
  intro X Y hw W F i L s σ H E I N st Z;subst Y hw W;obtain⟨n,t,⟨u,v,A⟩,f,m⟩:=st;obtain⟨xs,ys,O,Q,G⟩:=Z;obtain⟨l,U,r⟩:=I.seqB O;obtain⟨p,ry,py⟩:=I.seqB Q;have lx:=U.length;have ly:=ry.length;refine Uh (I.ok.hd F) D n t A f m r py ?_ λh' k=>⟨rfl,I.moved (t':=s.toks) N λc o d e=>?_⟩
  .rcases G with q | q
   .exact .inl (by simp;omega)
   .exact .inr (by simp;omega)
  .simp only[aF,bE,eP,kF] at d;obtain⟨M,e2,R,S,V⟩:=d;exact k c o M R S V e
 self:=λ_ _ _ _ _ st h=>wpAny_pyIter_zip st.1 h
section
variable {X:Cx}
def X8 (K:kG) (g:TA):TI:=λk H R=>g k H λf c=>∃ a b d e,f=[.ref a,.ref b]/\(∃ h,qC d K c a h)/\(∃ i,qC e K c b i)/\R (Fu d e K a b) c
theorem X6 (C:Gl X "zip") (J:X.mg "zip" = none) (r:PA X [j,g] U) (T:starEach [j,g] X.env=(false,eval j X.env)::starEach [g] X.env:=by rfl)
  (l:(backTo pos (starEach [g] X.env)).any (·.1)=false:=by rfl):PI X (.Tuple o x1 ps) (.Call (.Name "zip" p) [j,g] [] pos) (X8 X.K U):=by
 intro f s A H R I h;refine Call_ (sQ I C J boot_zip (cN (hO (r pos f s A H _ I h) λus d n=>?_) T l));obtain⟨vs,t,i,V,P⟩:=n;obtain⟨a,b,Z,b2,rfl,⟨xs,Q⟩,⟨ys,S⟩,q⟩:=P;obtain⟨u,v,rfl,W,Y⟩:=zH V;cases W;cases Y;obtain⟨E,rx,y⟩:=i.seqB Q;obtain⟨F,ry,py⟩:=i.seqB S;have k:a<d.heap.objs.size:=by obtain⟨_,e⟩:=Oy y;exact aM e
 have m:b<d.heap.objs.size:=by obtain⟨_,e⟩:=Oy py;exact aM e
 refine Uj y py λD x G L M N n6 O=>?_
 have B:Inv X f A t { d with heap:=D }:=i.kept (t':=d.toks) O;refine wpAny_pyIter_zip x ⟨_,[_,_,_,_,_],_,_,t,rfl,B,S4 (a:=a) (b:=b) (i1:=d.heap.objs.size) (i2:=d.heap.objs.size+1) (z:=d.heap.objs.size+4) (TI:=d.heap.objs.size+2) (TO:=d.heap.objs.size+3) ?_,⟨x,G,⟨_,_,L⟩,M,N⟩,λc w=>?_,q⟩
 .constructor<;>first | exact aX k | exact aX m | exact aX (aT k (eU _ _)) | exact aX (aT m (eU _ _)) | exact gF k | exact gF m | exact gF (aT k (eU _ _)) | exact gF (aT m (eU _ _)) | exact (by show (_:Nat)≠_;omega)
 .simp only[aF,bE,eP] at w;rcases w with e | e | e | e | e<;>(subst e;exact i.fpOk (by omega) (i.hok.fresh (by omega)))
variable {K:kG}
def zG:D->Ab (Bool×Aa D)
 | .l a=>some (false,a)
 | .t a=>some (true,a)
 | _=>none
theorem B3 (e:zG d=some (b,j)) (r:Rep K A H d v):∃ a g,v = .ref a/\qC b K H a g/\Reps K A H j g:=by
 cases d<;>first | cases e | skip
 .obtain⟨a,g,rfl,h,r⟩:=r.tup_inv;exact⟨a,g,rfl,lL.of h,r⟩
 .obtain⟨a,g,rfl,_,h,r⟩:=r.lst_inv;exact⟨a,g,rfl,eT.of h,r⟩
def vV (g j:Aa D):Aa D:=g.zipWith (λx y=>D.t [x,y]) j
theorem Kj (g j:Aa D):(vV g j).length=min g.length j.length:=List.length_zipWith
theorem Xg {g j:Aa D}{i:Nat}{x y:D}(l:g[i]?=some x) (o:j[i]?=some y):(vV g j)[i]?=some (.t [x,y]):=by
 unfold vV;rw[List.getElem?_zipWith,l,o]
theorem Qu {d1 d2:D}(r:zG d1=some (g,l)) (C:zG d2=some (j,o)):YD K (Fu g j K a b) (vV l o) [(.v d1,some (.ref a)),(.v d2,some (.ref b))]:=by
 have key:∀ A H,uQ K A H [(.v d1,some (.ref a)),(.v d2,some (.ref b))]->(∃ d,qC g K H a d/\Reps K A H l d)/\∃ c,qC j K H b c/\Reps K A H o c:=λA H ok=>by
  obtain⟨v,E,h⟩:=ok (.v d1,some (.ref a)) aG;obtain⟨u,F,k⟩:=ok (.v d2,some (.ref b)) (aN _ aG);cases E;cases F;obtain⟨N,d,G,e,s⟩:=B3 r h;obtain⟨O,c,L,f,t⟩:=B3 C k;cases G;cases L;exact⟨⟨d,e,s⟩,c,f,t⟩
 refine⟨rfl,λi H A m ok=>?_,λi H A x M m ok y=>?_,λi H A m ok=>?_⟩
 .obtain⟨⟨d,e,h⟩,c,f,k⟩:=key A H ok;rw[Kj,h.length,k.length] at m;exact⟨d,c,d[i]'(by omega),c[i]'(by omega),e,f,aI _,aI _⟩
 .obtain⟨⟨d,e,h⟩,c,f,k⟩:=key A H ok;obtain⟨p,R,S,w,rfl,rfl,z,B⟩:=y;obtain⟨P,n,s⟩:=h.getV (z d e);obtain⟨Q,q,t⟩:=k.getV (B c f);exact⟨_,Xg n q,.inr ⟨p,_,_,w,rfl,rfl,rfl,.cons s (.cons t .nil)⟩⟩
 .obtain⟨⟨d,e,h⟩,c,f,k⟩:=key A H ok;rw[Kj,h.length,k.length] at m;exact⟨d,c,e,f,by omega⟩
def T4 (g:pX):sN:=λf i h=>g f i λas a=>match as with
 | [.t d1,.t d2]=>∃ d e b c,zG d1=some (d,b)/\zG d2=some (e,c)/\h (vV b c) a
 | _=>False
theorem M0 (I:Gl X "zip") (J:X.mg "zip" = none) (C:pS X [j,g] ta) (U:starEach [j,g] X.env=(false,eval j X.env)::starEach [g] X.env:=by rfl)
  (l:(backTo pos (starEach [g] X.env)).any (·.1)=false:=by rfl):uI X (.Tuple o x1 ps) (.Call (.Name "zip" p) [j,g] [] pos) (T4 ta) :=
 (X6 I J C U l).mono λA H R d=>d.elim λB z T G q hd s k=>⟨B,z,T,_,q,hd,s,λas e D i u ok d1 c=>by
  cases ok with
  | nil=>exact False.elim c
  | al _ ok=>exact False.elim c
  | t ok =>
   cases ok with
   | nil=>exact False.elim c
   | al _ ok=>cases ok<;>exact False.elim c
   | t ok =>
    cases ok with
    | al _ ok=>exact False.elim c
    | t ok=>exact False.elim c
    | nil =>
     obtain⟨m,n,E,F,f,h,c⟩:=c;have r:=d1.temps (σ:=A) (.t (.t .nil)) _ rfl;cases r with
     | cons v r =>
      cases r with
      | cons w r =>
       obtain⟨a,x,rfl,g1,_⟩:=B3 f v;obtain⟨b,y,rfl,g2,_⟩:=B3 h w;exact⟨a,b,m,n,rfl,⟨x,g1⟩,⟨y,g2⟩,k _ _ e [_,_] i u d1 (Qu f h) c⟩⟩
end
end L2
namespace Lw
open PySem L2
abbrev kY (g:Aa Int):D:=.l (g.map D.int)
theorem yA:∀ g:Aa Int,oN (g.map D.int)=g.map PyData.int
 | []=>rfl
 | n::r=>by rw[aW,oN,yA r];rfl
theorem Ii:∀ g:Aa Int,oP (g.map D.int)=true
 | []=>rfl
 | n::r=>by rw[aW,oP,Ii r];rfl
theorem Ej:∀ g:Aa Int,PyData.depthAll (g.map PyData.int)=0
 | []=>rfl
 | n::r=>by
  show max 0 (PyData.depthAll (r.map PyData.int))=0;rw[Ej r];rfl
theorem M4:∀ j g:Aa Int,PyData.eqvAll (j.map PyData.int) (g.map PyData.int)=decide (j=g)
 | [],[]=>rfl
 | [],_::_=>rfl
 | _::_,[]=>rfl
 | n::r,m::q=>by
  show (n == m&&PyData.eqvAll (r.map PyData.int) (q.map PyData.int))=_;rw[M4 r q,iA];simp
theorem Sx (neg:Bool) (g j:Aa Int) (h:l (.v (.b (nb neg (decide (g=j)))))):xX neg (kY g) (kY j) l:=by
 cases j with
 | nil =>
  show l (.v (.b (nb neg (g.map D.int).isEmpty)));cases g<;>exact h
 | cons m r =>
  have e:PyData.eqv (py (kY g)) (py (kY (m::r)))=decide (g=m::r):=by
   show PyData.eqvAll (oN (g.map D.int)) (oN ((m::r).map D.int))=_;rw[yA,yA,M4]
  have d:(py (kY (m::r))).depth<=60:=by
   show PyData.depthAll (oN ((m::r).map D.int))+1<=60;rw[yA,Ej];decide
  have:lV (kY g)=true/\lV (kY (m::r))=true/\min (py (kY g)).depth (py (kY (m::r))).depth<=60/\l (.v (.b (nb neg (PyData.eqv (py (kY g)) (py (kY (m::r))))))):=by
   refine⟨Ii _,Ii _,bM (Nat.min_le_right _ _) d,?_⟩;rw[e];exact h
  exact this
theorem Kr (j g:Aa Int):vV (j.map D.int) (g.map D.int)=(j.zip g).map λp=>D.t [.int p.1,.int p.2]:=by
 unfold vV;rw[List.zipWith_map,List.zip,gX]
theorem Y2 (C:Cel) (al:Aa (Af×Af)) (k:Nat):pC (Cr C.ins C.gates al k) (lT C al k)=kY (SL C al k):=by
 simp[pC,kY,SL,cG]
def C8:RD:=λd b c=>∃ (C:Cel) (al:Aa (Af×Af)) (a:Aa Int),b=[mE C al,kY a]/\GoodRow C al/\a.length=al.length+1/\(∀ x∈a,0<=x)/\c (.o (kY (nx C al a)))
theorem Sq (h:C8 g j l):Ip g j l:=by
 obtain⟨C,al,a,rfl,i,b,f,d⟩:=h;have k:(nE al a).map (·.1)=al.map (·.2):=by
  unfold nE;exact List.map_fst_zip (by simp;omega)
 obtain⟨is,e,rfl⟩:∃ is e,a=is++[e]:=⟨a.dropLast,a.getLast (by intro q;simp[q] at b),(List.dropLast_concat_getLast _).symm⟩;have c:is.length=al.length:=by simpa using b
 have v:(nE al (is++[e])).map (·.2)=is:=by
  unfold nE;have:(al.map (·.2)).zip (is++[e])=(al.map (·.2)).zip is:=by
   have:=kC (l₁:=al.map (·.2)) (r₁:=[]) (l₂:=is) (r₂:=[e]) (by simp[c])
   simpa using this
  rw[this];exact List.map_snd_zip (by simp;omega)
 refine⟨C,al,nE al (is++[e]),e,?_,i,k,λx=>?_,?_⟩
 .have:pC (nE al (is++[e])) e=kY (is++[e]):=by
   unfold pC;have:(nE al (is++[e])).map (λp=>D.int p.2)=is.map D.int:=by
    have:=dF (List.map D.int) v
    rwa [bZ] at this
   rw[this];simp[kY]
  rw[this]
 .rw[B5 al _ x b];show 0<=(is++[e]).getD _ 0;rw[dL];cases q:(is++[e])[rJ al x]? with
  | none=>exact cO _
  | some y=>exact f y (aL q)
 .have:pC (pH al (tbl C.ins C.gates (look (nE al (is++[e]))))) (mx (C.outs.map (look (tbl C.ins C.gates (look (nE al (is++[e])))))))=kY (nx C al (is++[e])):=by
   simp[pC,kY,nx,sY,pH,cG]
  rw[this];exact d
theorem Zh (h:a.length=y.length) (g:∀ i,0<=vL a i) (l:∀ i,0<=vL y i) (j:0<=t):∀ x∈pZ a y t,0<=x:=λx c=>by
 obtain⟨i,b,rfl⟩:=eJ c;have e:=Fn t h i;have:vL (pZ a y t) i=(pZ a y t)[i]:=by simp[vL,List.getD,b]
 rw[<- this,e];have:=iZ j (l i);have:=g i;omega
theorem Q5 (h:al.length<=4) (g:C.gates.length<=24) (k i:Nat):XL C al k i<=24*k:=by
 obtain⟨j,hw⟩:=(Hy (C:=C) (al:=al)).way k i;have:=(hw.bound (Ia h)).2;have:(C.gates.length:Int)*k<=24*k:=cE (by omega) (by omega);omega
theorem DC (h:al.length<=4) (g:C.gates.length<=24) (k:Nat):∀ x∈SL C al k,x<=24*k:=λx b=>by
 obtain⟨i,a,rfl⟩:=eJ b;have:=Q5 (C:=C) h g k i
 simpa [XL,vL,List.getD,a] using this
theorem Kn.mono {P:Ah}{K:kG}{st:Stmt}{R:RD}(h:Kn P w K p base k x st C R) (o:∀ g j l,R' g j l->R g j l):Kn P w K p base k x st C R' :=
 h.elim λ_ h=>h.elim λ_ h=>⟨_,_,h.1,h.2.imp λe H Q E ⟨g,A,j,l,a,b,c,r,d⟩=>⟨g,A,j,l,a,b,c,o _ _ _ r,d⟩⟩
theorem EL (g:Aa D) (x:D):nK (g++[x]) none (some (-1))=g:=by
 unfold nK;have e:HT.sIx (g++[x]).length (g++[x]).length (some (-1))=g.length:=by
  show (if (-1:Int)<0 then ((-1:Int)+((g++[x]).length:Int)).toNat else min (-1:Int).toNat (g++[x]).length)=_;rw[bA (by decide),bC,dP];omega
 rw[HT.sIx_none,e];simp
theorem Z2 (f:Nat->D) (m c:Nat):nK ((List.range (m+c+1)).map f) (some (-1-(c:Int))) none=(List.range (c+1)).map λj=>f (m+j):=by
 unfold nK;have e:HT.sIx ((List.range (m+c+1)).map f).length 0 (some (-1-(c:Int)))=m:=by
  show (if (-1-(c:Int))<0 then ((-1-(c:Int))+(((List.range (m+c+1)).map f).length:Int)).toNat else _)=_;rw[bA (by omega),aB,cF];omega
 rw[e,HT.sIx_none];apply fY
 .simp;omega
 .intro i p q;simp
def Bw (C:Cel) (al:Aa (Af×Af)) (s:Nat):Prop:=∀ k,s<=k->∀ i,XL C al (k+kU al.length) i=XL C al k i+vL (mK C al s) i
instance {C:Cel} {al:Aa (Af×Af)} {s k:Nat} {t:Int}:Decidable (rZ C al s k t):=by unfold rZ;infer_instance
theorem Df (B:Nat) (m:Aa Sl->Nat) (Pv:Nat->Aa Sl->Prop) (p:∀ n g,Pv n g->m g=n) (I:Nat) (C:Pv I g)
  (step:∀ (n:Nat) (g:Aa Sl) (N:Aa Sl->Prop),Pv n g->(n<B->∀ j,Pv (n+1) j->N j)->c r g λb l=>if b=true then J r { nx:=N,ct:=N,bk:=o.nx,rt:=o.rt } l else o.nx l):J8 c J r o g :=
 ⟨λg=>Pv (m g) g,λg=>B-m g,by show Pv (m g) g;rw[p _ _ C];exact C,λg a=>step (m g) g _ a λlt j h=>⟨by show Pv (m j) j;rw[p _ _ h];exact h,by show B-m j<B-m g;rw[p _ _ h];omega⟩⟩
theorem Ey {p:Prop} [Decidable p] (h:p){a b:Prop}(g:a):if decide p=true then a else b:=by rw[cV h];exact g
theorem Es {p:Prop} [Decidable p] (h:¬ p){a b:Prop}(g:b):if decide p=true then a else b:=by rw[bS h];exact g
def Ms:RD:=λc a b=>∃ n:Nat,a=[.int n]/\n<=4/\b (.v (.int (kU n:Nat)))
def Mj:RD:=λe c d=>∃ (a b:Aa Int) (t:Int),c=[kY a,kY b,.int t]/\a.length<=100/\-(2 ^ 64)<t/\t<2 ^ 64/\d (.o (kY (pZ a b t)))
def Jm:RD:=λd a c=>∃ (C:Cel) (al:Aa (Af×Af)) (s k:Nat),a=[mE C al,kY (SL C al k),kY (mK C al s)]/\GoodRow C al/\k<=8000/\c (.v (.b (decide (rZ C al s k (1+mx (SL C al (k+1)))))))
def rX (C:Cel) (al:Aa (Af×Af)) (s n:Nat):D:=.l ((List.range n).map λj=>kY (SL C al (s+j)))
def Pg:RD:=λd a c=>∃ (C:Cel) (al:Aa (Af×Af)) (s:Nat),a=[mE C al,rX C al s (kU al.length+1)]/\GoodRow C al/\s<=7900/\∀ b:Bool,(b=true->Bw C al s)->(7000<=s->b=true)->c (.v (.b b))
def Mf:RD:=λc a b=>∃ (C:Cel) (al:Aa (Af×Af)),a=[mE C al,.int (kU al.length:Nat)]/\GoodRow C al/\∀ s:Nat,s<=7000->Bw C al s->b (.v (.int s))
theorem AJ:(["size","ring"]:Aa Af).Nodup:=by decide +kernel
theorem Mh:(["late","more","times"]:Aa Af).Nodup:=by decide +kernel
theorem J5:(["first","last"]:Aa Af).Nodup:=by decide +kernel
theorem Wl:(["state","row","added"]:Aa Af).Nodup:=by decide +kernel
section
variable {P:Ah}{K:kG}
theorem Ed:FnScope ["count","ring"] ["count"] (lJ C1):=oS
theorem DJ (T:Txt g):oJ P w K g base 1 "common_ring" C1 ["count"] Ms:=by
 refine pF Ed λf F A y s H E S V C W X M=>?_
 obtain⟨n,rfl,D,u⟩:=M;refine⟨_,(kR (lG 1 Ed.nd hI) (kR (wP dX (Ap (nN (Xv rfl) DI T.any PyProof.Rows.boot_any (eH (nW ["size"] ["ring"] [1] (Bp (by rfl) T.range hI (mO mB mC 0 hI)) (λ_ _ _ _ _=>(kX 0 AJ)) (λ_ _ _ _ _=>(mO pT Gy 1 (eM 0)))) gD))) (lU (F3 (n:=1) Ed.nd rfl (Or.inr rfl) hI Np))) (lU (nS (eM 1))))),?_⟩;have m:=yX n;have G:=uX n;refine kW (λb=>b=[.v (.int n),.v (.int 1)]) (λN t=>t _ rfl) ?_;rintro _ rfl;refine kW (λb=>b=[.v (.int n),.v (.int (kU n:Nat))]) (λN t=>?_) ?_
 .refine⟨λb=>∃ r:Nat,1<=r/\r<=kU n/\b=[.v (.int n),.v (.int r)],λb=>match b with | [_,.v (.int r)]=>(12-r).toNat | _=>0,⟨1,by omega,m,rfl⟩,?_⟩;rintro b ⟨r,Q,o,rfl⟩;unfold Jo dC aC;have e:(((n:Int)+1-1).toNat:Nat)=n:=by omega
  refine oB (List.range n) (λi=>.int (1+(i:Nat))) (λi=>.int ((r:Int)%(1+(i:Nat)))) [.v (.int n),.v (.int r)] (λI h=>⟨rfl,⟨by omega,by omega,by omega,by omega⟩,by rw[e];exact h⟩) (by rw[cF];omega) (λi x p R e m L=>⟨rfl,by show (0:Int)<1+(x:Nat);omega,m,L⟩) ?_;refine⟨(List.range n).map λi=>(r:Int)%(1+(i:Nat)),by have:=xH ((List.range n).map λ(i:Nat)=>(r:Int)%(1+(i:Nat)));rwa [bZ] at this,rfl,_,rfl,?_⟩;have a:∀ l:Nat,(r:Int)%((l:Nat):Int)=((r%l:Nat):Int):=λl=>by simp
  cases q:((List.range n).map λ(i:Nat)=>(r:Int)%(1+(i:Nat))).any (· != 0) with
  | true =>
   obtain⟨x,O,nx⟩:=gA.mp q;obtain⟨i,B,rfl⟩:=aJ.mp O;have B:=cH.mp B;have lt:r<kU n:=cA λz=>by
    have:r=kU n:=by omega
    have d:=Px D (show 1<=1+i by omega) (show 1+i<=n by omega);rw[<- this] at d;have:=Nat.mod_eq_zero_of_dvd d;have c:=a (1+i);rw[this] at c;simp only[bne_iff_ne,ne_eq] at nx;refine nx ?_;have k:((1+i:Nat):Int)=1+(i:Int):=by omega
    rw[k] at c;exact c
   refine⟨⟨r+1,by omega,by omega,rfl⟩,?_⟩;show ((12:Int)-((r:Int)+1)).toNat<((12:Int)-(r:Int)).toNat;omega
  | false =>
   have:r=kU n:=cA λz=>by
    obtain⟨l,Y,Z,j⟩:=BE D Q (by omega);have:=List.any_eq_false.mp q ((r:Int)%(1+((l-1:Nat):Nat))) (aJ.mpr ⟨l-1,cH.mpr (by omega),rfl⟩);have k:(1:Int)+((l-1:Nat):Int)=(l:Nat):=by omega
    rw[k,a] at this;simp at this;omega
   subst this;exact t _ rfl
 .rintro _ rfl;exact u
theorem Wk:FnScope ["state","added","times"] ["state","added","times"] (lJ Cq):=oS
theorem Zp (T:Txt g):oJ P w K g base 1 "more_by" Cq ["state","added","times"] Mj:=by
 refine pF Wk λf q A m s H E F G Q M N z=>?_
 obtain⟨a,b,t,rfl,L,c,d,k⟩:=z;refine⟨_,(lU (nS (nW ["late","more"] ["times"] [2] (M0 (by rfl) T.zip (eH (eM 0) (eH (eM 1) gD))) (λ_ _ _ _ _=>(qR (n:=2) rfl (mD (kX 0 Mh) (mD (kX 1 Mh) pQ)))) (λ_ _ _ _ _=>(mO mB mC 0 (mO Gr Hb 2 (eM 1))))))),?_⟩;refine oB (a.zip b) (λp=>.t [.int p.1,.int p.2]) (λp=>.int (p.1+t*p.2)) [.v (kY a),.v (kY b),.v (.int t)] (λR h=>⟨_,_,_,_,rfl,rfl,by rw[Kr];exact h⟩) (by rw[iC];omega) (λi x O B e u y=>⟨rfl,rfl,rfl,rfl,.inl ⟨c,d⟩,u,y⟩) ?_;have:(a.zip b).map (λp=>D.int (p.1+t*p.2))=(pZ a b t).map D.int:=by
  unfold pZ;rw[List.zip,gX,gX]
 rw[this];exact k
theorem Ff:FnScope ["row","state","added","after","times"] ["row","state","added"] (lJ Dg):=oS
theorem Vs (T:Txt l) (g:Kn P w K l base 2 "one_cell_more" wN ["row","state"] C8) (j:Kn P w K l base 1 "more_by" Cq ["state","added","times"] Mj) :
  oJ P w K l base 3 "adds_always" Dg ["row","state","added"] Jm:=by
 refine pF Ff λf t A i s H E y z L b D u=>?_
 obtain⟨C,al,s,k,rfl,c,B,h⟩:=u;refine⟨_,(kR (lG 3 Ff.nd (mP g b (eH (eM 0) (eH (eM 1) gD)))) (kR (lG 4 Ff.nd (mR mB mC hI (nN (Du rfl) Cb T.max gR (eH (eM 3) gD)))) (lU (nS (Xa (zB b.units) (tT false) (mP g b (eH (eM 0) (eH (mP j b (eH (eM 1) (eH (eM 2) (eH (eM 4) gD)))) gD))) (mP j b (eH (eM 3) (eH (eM 2) (eH (eM 4) gD))))))))),?_⟩;have a:=c.la;have d:=c.good.lg;refine⟨C,al,SL C al k,rfl,c,nT k,Gw a k,.inl rfl,?_⟩;rw[F0];dsimp only;refine⟨_,xH _,by intro q;have:=nT (C:=C) (al:=al) (k+1);rw[q] at this;simp at this,λm e v=>?_⟩;have G:=DC (C:=C) a d (k+1) m e;have x:=Gw (C:=C) a (k+1) m e;have n:(SL C al k).length=(mK C al s).length:=by rw[nT,Cn]
 have F:(SL C al (k+1)).length=(mK C al s).length:=by rw[nT,Cn]
 refine⟨SL C al k,mK C al s,1+m,rfl,by rw[nT];omega,by omega,by omega,.inl rfl,?_⟩;refine⟨C,al,pZ (SL C al k) (mK C al s) (1+m),rfl,c,by rw[Gv n,nT],Zh n (F5 a k) (Qd a s) (by omega),?_⟩;refine⟨.inl rfl,SL C al (k+1),mK C al s,1+m,rfl,by rw[nT];omega,by omega,by omega,.inl rfl,?_⟩;refine Sx false _ _ ?_;rw[vZ (ns:=SL C al (k+1)) (m:=m) (.inr e) x v];exact h
theorem Pb:FnScope ["row","states","added"] ["row","states"] (lJ Aw):=oS
theorem Uz (T:Txt l) (g:Kn P w K l base 3 "adds_always" Dg ["row","state","added"] Jm) :
  oJ P w K l base 4 "are_steady" Aw ["row","states"] Pg:=by
 refine pF Pb λf M A y s H E I J Φ W B S=>?_
 obtain⟨C,al,s,rfl,q,hs,u⟩:=S;refine⟨_,(kR (lG 2 Pb.nd (nW ["first","last"] [] [] (M0 (by rfl) T.zip (eH (lI B 1 hI) (eH (lI B 1 (tA hI)) gD))) (λ_ _ _ _ _=>(qR (n:=2) rfl (mD (kX 0 J5) (mD (kX 1 J5) pQ)))) (λ_ _ _ _ _=>(mO oG oX 1 (eM 0))))) (lU (nS (nN (Zu rfl) EF T.all PyProof.Rows.boot_all (eH (nW ["state"] ["row","added"] [0,2] (nG (zZ zY yS (pv 1) Cw (wL (tA hI)))) (λ_ _ _ _ _=>(kX 0 Wl)) (λ_ _ _ _ _=>(mP g W (eH (eM 1) (eH (eM 0) (sO (pv 2) gD)))))) gD))))),?_⟩;have z:=q.la;have m:=q.good.lg;have r:=yX al.length;have L:=uX al.length;refine kW (λZ=>Z=[.v (mE C al),.v (rX C al s (kU al.length+1)),.o (kY (mK C al s))]) (λN R=>?_) ?_
 .have G:lQ ((List.range (kU al.length+1)).map λj=>kY (SL C al (s+j))) 0=some (kY (SL C al (s+0))):=pV (j:=0) (by rw[bG,hG (by omega)];rfl);refine oB ((SL C al s).zip (SL C al (s+kU al.length))) (λp=>.t [.int p.1,.int p.2]) (λp=>.int (p.2-p.1)) [.v (mE C al),.v (rX C al s (kU al.length+1)),.n] (λY h=>⟨rfl,_,G,rfl,_,xD _ _,_,_,_,_,rfl,rfl,by rw[Kr];exact h⟩) (by rw[iC,nT];omega) (λi x X F e c d=>⟨rfl,rfl,rfl,c,d⟩) ?_;have:((SL C al s).zip (SL C al (s+kU al.length))).map (λp=>D.int (p.2-p.1))=(mK C al s).map D.int:=by
   unfold mK zI;rw[List.zip,gX,gX]
  rw[this];exact R _ rfl
 rintro _ rfl;unfold By dC aC;refine oB (List.range (kU al.length)) (λj=>kY (SL C al (s+j))) (λj=>.b (decide (rZ C al s (s+j) (1+mx (SL C al (s+j+1)))))) [.v (mE C al),.v (rX C al s (kU al.length+1)),.o (kY (mK C al s))] (λY h=>?_) (by rw[cF];omega) (λi x X F e c d=>?_) ?_
 .have O:nK ((List.range (kU al.length+1)).map λj=>kY (SL C al (s+j))) none (some (-1))=(List.range (kU al.length)).map λj=>kY (SL C al (s+j)):=by
   rw[gO,aZ];exact EL _ _
  rw[<- O] at h;exact⟨rfl,h⟩
 .have a:x<kU al.length:=cH.mp (aL e);exact⟨rfl,C,al,s,s+x,rfl,q,by omega,.inr rfl,c,d⟩
 .refine⟨(List.range (kU al.length)).map λj=>decide (rZ C al s (s+j) (1+mx (SL C al (s+j+1)))),by have:=Ju ((List.range (kU al.length)).map λj=>decide (rZ C al s (s+j) (1+mx (SL C al (s+j+1)))));rwa [bZ] at this,?_⟩;refine u _ (λV=>?_) λQ=>?_
  .refine Qf z λk k1 k2=>⟨1+mx (SL C al (k+1)),λx a=>by have:=tO a;omega,by have:=sS (SL C al (k+1));omega,?_⟩
   have:=eA.mp V (decide (rZ C al s (s+(k-s)) (1+mx (SL C al (s+(k-s)+1))))) (aJ.mpr ⟨k-s,cH.mpr (by omega),rfl⟩);rw[show s+(k-s)=k by omega] at this;exact eG this
  .refine eA.mpr λx a=>?_
   obtain⟨j,U,rfl⟩:=aJ.mp a;exact cV (DG z m Q (by omega) (by have:=sS (SL C al (s+j+1));omega))
theorem Jj:FnScope ["row","ring","states"] ["row","ring"] (lJ A5):=oS
theorem S9 (T:Txt I) (r:Kn P w K I base 1 "at_edges" xV ["row"] Io) (g:Kn P w K I base 2 "one_cell_more" wN ["row","state"] C8) (p:Kn P w K I base 4 "are_steady" Aw ["row","states"] Pg) :
  oJ P w K I base 5 "steady_from" A5 ["row","ring"] Mf:=by
 refine pF Jj λf M A G s H E U ds Y B W S=>?_
 obtain⟨C,al,rfl,d,F⟩:=S;refine⟨_,(kR (lG 2 Jj.nd (oA (eH (mP r B (eH (eM 0) gD)) gD))) (kR (wP dX (zD (Hz (uB Ud CK (nN rC rD T.len bP (sO (pv 2) gD)) (eM 1)) (Kg (Gg (Ap (mP p B (eH (eM 0) (eH (zZ zY yS (pv 2) (wL (mR oG oX (tA hI) (eM 1))) Cw) gD)))))))) (lU (vH (vD bY cC cD sV vC (pv 2) (eH (mP g B (eH (eM 0) (eH (lI W 2 (tA hI)) gD))) gD))))) (lU (nS (mR oG oX (mR oG oX (nN rC rD T.len bP (sO (pv 2) gD)) hI) (eM 1)))))),?_⟩;have R:=d.la;have Q:=d.good.lg;have J:=yX al.length;have L:=uX al.length;refine kW (λa=>a=[.v (mE C al),.v (.int (kU al.length:Nat)),.o (rX C al 0 1)]) (λN t=>?_) ?_
 .refine⟨C,al,rfl,by omega,.inl rfl,by show 1<=1000;decide,t _ ?_⟩;have:D.l (List.replicate (al.length+1) (D.int 0))=kY (SL C al 0):=by
   rw[<- Y2];unfold pC Cr lT;rw[bZ,List.replicate_succ']
   congr 2
   generalize al=q;induction q with
   | nil=>rfl
   | cons x q X=>rw[cY,bV,X];rfl
  rw[this];rfl
 rintro _ rfl;refine kW (λa=>∃ s:Nat,s<=7000/\Bw C al s/\a=[.v (mE C al),.v (.int (kU al.length:Nat)),.o (rX C al 0 (s+kU al.length+1))]) (λN t=>?_) ?_
 .refine Df 7900 (λa=>match a with | [_,_,.o (.l q)]=>q.length-1 | _=>0) (λn a=>n<=7000+kU al.length/\a=[.v (mE C al),.v (.int (kU al.length:Nat)),.o (rX C al 0 (n+1))]) (λn a h=>?_) 0 ⟨by omega,rfl⟩ λn a Z h c=>?_
  .rw[h.2];show ((List.range (n+1)).map _).length-1=n;simp
  obtain⟨hn,rfl⟩:=h;have app:rX C al 0 (n+1+1) = .l (((List.range (n+1)).map λj=>kY (SL C al (0+j)))++[kY (nx C al (SL C al (0+n)))]):=by
   unfold rX;rw[gO (n:=n+1),aZ,F0];simp
  have len:((List.range (n+1)).map λj=>kY (SL C al (0+j))).length=n+1:=by simp
  have k:=Gw (C:=C) (al:=al) R (0+n);refine⟨rfl,rfl,_,rfl,?_⟩;show if decide ((((List.range (n+1)).map λj=>kY (SL C al (0+j))).length:Int)<=((kU al.length:Nat):Int))=true then _ else _
  rw[len];by_cases i:((n+1:Nat):Int)<=((kU al.length:Nat):Int)
  .refine Ey i ?_;refine⟨rfl,rfl,_,xD _ n,C,al,_,rfl,d,nT _,k,.inl rfl,by show ((List.range (n+1)).map _).length<100000;simp;omega,?_⟩;exact c (by omega) _ ⟨by omega,by rw[app];rfl⟩
  .refine Es i ?_;obtain⟨m,rfl⟩:∃ m,n=m+kU al.length:=⟨n-kU al.length,by omega⟩;have O:D.l (nK ((List.range (m+kU al.length+1)).map λj=>kY (SL C al (0+j))) (some (-1-((kU al.length:Nat):Int))) none)=rX C al m (kU al.length+1):=by
    rw[Z2];simp[rX]
   refine⟨rfl,C,al,m,by rw[<- O],d,by omega,λb u y=>⟨.inl rfl,rfl,_,rfl,?_⟩⟩;cases b with
   | true=>exact t _ ⟨m,by omega,u rfl,rfl⟩
   | false =>
    have m7:m<7000:=cA λz=>by have:=y (by omega);cases this
    refine⟨rfl,rfl,_,xD _ (m+kU al.length),C,al,_,rfl,d,nT _,k,.inl rfl,by show ((List.range (m+kU al.length+1)).map _).length<100000;simp;omega,?_⟩;exact c (by omega) _ ⟨by omega,by rw[app];rfl⟩
 rintro _ ⟨s,V,st,rfl⟩;refine⟨rfl,rfl,_,rfl,?_⟩;have e:((((List.range (s+kU al.length+1)).map λj=>kY (SL C al (0+j))).length:Nat):Int)-1-((kU al.length:Nat):Int)=(s:Nat):=by
  rw[aB,cF];omega
 show Y (.v (.int (((((List.range (s+kU al.length+1)).map λj=>kY (SL C al (0+j))).length:Nat):Int)-1-((kU al.length:Nat):Int))));rw[e];exact F s V st
end
structure Told (L:Nat->Int) (count ring:Nat) (a:Int):Prop where
 r1:1<=ring
 rc:ring<=count
 a0:0<=a
 grow:∀ k,count<k->L k=L (k-ring)+a
 edge:ring<count->L count≠L (count-ring)+a
 least:∀ (q K:Nat) (c:Int),1<=q->q<ring->count<K+ring->(∀ k,K<=k->k<K+ring->L (k+q)-L k=c)->False
theorem Xd {W:Nat}(g:0<W) (l:∀ k,s<=k->L (k+W)=L k+y) (I:1<=r) (j:∀ k,s<=k->k<s+W->L (k+r)-L k=a)
  (min:∀ q,1<=q->q<r->∀ c,¬ ∀ k,s<=k->k<s+W->L (k+q)-L k=c) (mono:L s<=L (s+r)) (o:r<=count) (J:count<=s+r) (p:∀ k,count<k->k<=s+r->L k=L (k-r)+a) (C:r<count->L count≠L (count-r)+a):Told L count r a:=by
 have b:=Kh g l j;have grow:∀ k,count<k->L k=L (k-r)+a:=λk e=>by
  by_cases z:k<=s+r
  .exact p k e z
  .have:=b (k-r) (by omega)
   rwa [show k-r+r=k by omega] at this
 refine⟨I,o,?_,grow,C,λq K c i m n f=>?_⟩
 .have:=j s (aH _) (by omega);omega
 .have d:∀ k,K<=k->L (k+r)=L k+a:=λk e=>by
   have:=grow (k+r) (by omega)
   rwa [show k+r-r=k by omega] at this
  have:=Nv g l (show 0<r by omega) d f;exact min q i m c λk h _=>by have:=this k h;omega
def Op:RD:=λd b c=>∃ (C:Cel) (al:Aa (Af×Af)),b=[mE C al]/\GoodRow C al/\∀ (count ring:Nat) (a:Int),Told (lT C al) count ring a->count<=7012->ring<=12->c (.v (.t [.t ((List.range count).map λi=>D.int (lT C al (i+1))),.int ring,.int a]))
theorem Xl (h:Bw C al s) (k:Nat) (g:s<=k):lT C al (k+kU al.length)=lT C al k+vL (mK C al s) al.length:=by
 have:=h k g al.length
 rwa [Bf,Bf] at this
theorem EN (g:al.length<=4) (h:k<=l):lT C al k<=lT C al l:=by
 have:=Hm (C:=C) g al.length h
 rwa [Bf,Bf] at this
def nX (L:Nat->Int) (s W q:Nat):Aa Int:=if q=0 then [] else (List.range W).map λj=>L (s+j+q)-L (s+j)
theorem Gj {W:Nat}(g:0<W):uV (nX L s W q)↔q≠0/\∃ c,∀ k,s<=k->k<s+W->L (k+q)-L k=c:=by
 unfold nX uV;by_cases a:q=0
 .rw[bA a];exact⟨λh=>absurd rfl h.1,λh=>absurd a h.1⟩
 .rw[bB a];constructor
  .rintro ⟨_,h⟩;refine⟨a,L (s+0+q)-L (s+0),λk i m=>?_⟩;have:=h (L (s+(k-s)+q)-L (s+(k-s))) (aJ.mpr ⟨k-s,cH.mpr (by omega),rfl⟩) (L (s+0+q)-L (s+0)) (aJ.mpr ⟨0,cH.mpr g,rfl⟩)
   rwa [show s+(k-s)=k by omega] at this
  .rintro ⟨_,c,h⟩;have e:∀ x∈(List.range W).map λj=>L (s+j+q)-L (s+j),x=c:=λx b=>by
    obtain⟨j,d,rfl⟩:=aJ.mp b;have:=cH.mp d;exact h (s+j) (by omega) (by omega)
   refine⟨λz=>?_,λx b y f=>by rw[e x b,e y f]⟩;have:=dF List.length z;simp at this;omega
theorem Bi (f:Nat->D) (h:i<=w):lQ ((List.range (w+1)).map f) ((i:Nat):Int)=some (f i):=pV (by rw[bG,hG (by omega)];rfl)
theorem BV (f:Nat->D) (h:n<=m):nK ((List.range (m+1)).map f) (some 1) (some (((n:Nat):Int)+1))=(List.range n).map λi=>f (i+1):=by
 have a:HT.sIx ((List.range (m+1)).map f).length 0 (some 1)=1:=by
  have:=HT.sIx_nat ((List.range (m+1)).map f).length 0 1;rw[aB,cF] at this |-;rw[show ((1:Nat):Int)=1 from rfl] at this;rw[this];omega
 have b:HT.sIx ((List.range (m+1)).map f).length ((List.range (m+1)).map f).length (some (((n:Nat):Int)+1))=n+1:=by
  have:=HT.sIx_nat ((List.range (m+1)).map f).length ((List.range (m+1)).map f).length (n+1);rw[show (((n+1:Nat)):Int)=((n:Nat):Int)+1 by omega] at this;rw[this,aB,cF];omega
 unfold nK;rw[a,b];apply fY
 .simp;omega
 .intro i p q;simp
def pO (L:Nat->Int) (w:Nat):D:=.l ((List.range (w+1)).map λi=>D.int (L i))
abbrev sH (C:Cel) (al:Aa (Af×Af)) (st lt ad j g:Sl):Aa Sl:=[.v (mE C al),.v (.int (kU al.length:Nat)),st,lt,ad,j,g]
theorem Zz:(["at","lates","ring"]:Aa Af).Nodup:=by decide +kernel
section
variable {P:Ah}{K:kG}
theorem sJ:FnScope ["row","whole","start","lates","added","ring","count"] ["row"] (lJ Cs):=oS
theorem X9 (T:Txt U) (g:Kn P w K U base 1 "common_ring" C1 ["count"] Ms) (I:Kn P w K U base 5 "steady_from" A5 ["row","ring"] Mf) (J:Kn P w K U base 3 "lates_to" xW ["row","width"] F8) :
  oJ P w K U base 6 "ways" Cs ["row"] Op:=by
 refine pF sJ λf ab A aa s H E dk ds Φ M O hR=>?_
 obtain⟨C,al,rfl,X,S⟩:=hR;refine⟨_,(kR (lG 1 sJ.nd (mP g M (eH (nN rC rD T.len bP (eH (lI O 0 hI) gD)) gD))) (kR (lG 2 sJ.nd (mP I M (eH (eM 0) (eH (eM 1) gD)))) (kR (lG 3 sJ.nd (mP J M (eH (eM 0) (eH (mO mB mC 2 (mR Gr Hb hI (eM 1))) gD)))) (kR (lG 4 sJ.nd (oA gD)) (kR (lG 5 sJ.nd hI) (kR (wP dX (uB (B6 M.units) (tT true) (W1 (i:=4) (sX BS (by rfl) T.len bP (lC (He (Ti rfl) (by rfl) T.set PyProof.Rows.boot_set (lC (pv 4) lO)) lO)) (λ_ _ _ ⟨v,hv,a,ns,e1,e2,e3,e4⟩=>⟨v,hv,a,ns,by rw[e1],e2,e3,λp np=>⟨p,_,rfl,lB,e4 p np⟩⟩)) hI) (kR (F3 (n:=5) sJ.nd rfl (Or.inr rfl) hI Np) (lU (Fi 4 ["at"] ["lates","ring"] [3,5] sJ.nd (Bp (by rfl) T.range (eM 2) (mO mB mC 2 (eM 1))) (λ_ _ _ _ _=>(kX 0 Zz)) (λ_ _ _ _ _=>(mR oG oX (lI O 1 (mO mB mC 0 (eM 2))) (lI O 1 (eM 0)))))))) (kR (lG 6 sJ.nd (mO mB mC 2 (eM 5))) (kR (wP dX (zD (Ft (yR Dd Ds (pv 6) (eM 5)) (Fb (uB (zB M.units) (tT false) (lI O 3 (eM 6)) (mR mB mC (lI O 3 (mO oG oX 6 (eM 5))) (lI O 4 hI)))))) (lU (F3 (n:=6) sJ.nd rfl (Or.inl rfl) hI Vm))) (lU (nS (qL (eH (sI wX wZ T.tuple cT (eH (zZ zY yS (pv 3) (wL hI) (wL (mO mB mC 6 hI))) gD)) (eH (eM 5) (eH (lI O 4 hI) gD)))))))))))))),?_⟩;have h4:=X.la;have ac:=X.good.lg;have c1:=yX al.length;have Z:=uX al.length;refine kW (λd=>d=sH C al .n .n .n .n .n) (λN u=>?_) ?_
 .refine⟨rfl,_,rfl,rfl,_,rfl,al.length,by show [D.int ((al.map nO).length:Nat)]=_;rw[aB],by omega,.inl rfl,u _ rfl⟩
 rintro _ rfl;refine⟨C,al,rfl,X,λs hs st=>⟨.inl rfl,?_⟩⟩;have y:=Xl st;dsimp only;obtain⟨W,hW⟩:∃ W,W=kU al.length:=⟨_,rfl⟩;rw[<- hW] at c1 Z y;obtain⟨L,hL⟩:∃ L,L=lT C al:=⟨_,rfl⟩;have mono:∀ {k l:Nat},k<=l->L k<=L l:=λh=>by rw[hL];exact EN h4 h
 rw[<- hL] at y S;refine kW (λd=>d=sH C al (.v (.int s)) (.o (pO L (s+2*W))) .n .n .n) (λN u=>?_) ?_
 .refine⟨rfl,.inl ⟨by decide,by decide⟩,C,al,s+2*W,by rw[hW];rfl,X,by omega,.inl rfl,u _ (by rw[hL];rfl)⟩
 rintro _ rfl;refine kW (λd=>d=sH C al (.v (.int s)) (.o (pO L (s+2*W))) (.o (kY [])) .n .n) (λN u=>⟨by show 0<=1000;decide,u _ rfl⟩) ?_;rintro _ rfl;refine kW (λd=>d=sH C al (.v (.int s)) (.o (pO L (s+2*W))) (.o (kY [])) (.v (.int 0)) .n) (λN u=>u _ rfl) ?_;rintro _ rfl;refine kW (λd=>∃ r:Nat,r<=W/\uV (nX L s W r)/\(∀ q,q<r->¬ uV (nX L s W q))/\d=sH C al (.v (.int s)) (.o (pO L (s+2*W))) (.o (kY (nX L s W r))) (.v (.int r)) .n) (λN u=>?_) ?_
 .refine Df 13 (λd=>match d with | [_,_,_,_,_,.v (.int r),_]=>r.toNat | _=>0) (λr d=>r<=W/\(∀ q,q<r->¬ uV (nX L s W q))/\d=sH C al (.v (.int s)) (.o (pO L (s+2*W))) (.o (kY (nX L s W r))) (.v (.int r)) .n) (λr d h=>?_) 0 ⟨by omega,λq Y=>absurd Y (by omega),rfl⟩ λr d N2 h G=>?_
  .rw[h.2.2];show (((r:Nat):Int)).toNat=r;omega
  obtain⟨M,Y,rfl⟩:=h;refine⟨nX L s W r,rfl,?_,λm hm=>?_⟩
  .unfold nX;split
   .simp
   .simp;omega
  show if (nb true (decide ((m:Int)=1)))=true then _ else _
  by_cases h1:(m:Int)=1
  .rw[cV h1];exact u _ ⟨r,M,hm.mp (by omega),Y,rfl⟩
  .rw[bS h1];have B:¬ uV (nX L s W r):=λz=>h1 (by have:=hm.mpr z;omega)
   have rW:r<W:=cA λz=>B ((Gj (by omega)).mpr ⟨by omega,vL (mK C al s) al.length,λk k1 _=>by
    have:=y k k1;rw[show r=W by omega,this];omega⟩)
   rw[bA (show nb true false=true from rfl)];refine kW (λd=>d=sH C al (.v (.int s)) (.o (pO L (s+2*W))) (.o (kY (nX L s W r))) (.v (.int ((r+1:Nat):Int))) .n) (λN u=>u _ rfl) ?_;rintro _ rfl;have ew:(((s:Nat):Int)+((kU al.length:Nat):Int)-((s:Nat):Int)).toNat=W:=by rw[hW];omega
   unfold rK;refine oB (List.range W) (λj=>.int (((s:Nat):Int)+(j:Nat))) (λj=>.int (L (s+j+(r+1))-L (s+j))) (sH C al (.v (.int s)) (.o (pO L (s+2*W))) (.o (kY (nX L s W r))) (.v (.int ((r+1:Nat):Int))) .n) (λΨ h=>⟨rfl,⟨by omega,by omega,by omega,by omega⟩,by rw[ew];exact h⟩) (by rw[cF];omega) (λi x F Nx e g1 g2=>?_) ?_
   .have hx:x<W:=cH.mp (aL e);have V:=Bi (λi=>D.int (L i)) (w:=s+2*W) (i:=s+x+(r+1)) (by omega);have R:=Bi (λi=>D.int (L i)) (w:=s+2*W) (i:=s+x) (by omega);have q1:((s:Nat):Int)+(x:Nat)+((r+1:Nat):Int)=((s+x+(r+1):Nat):Int):=by omega
    have q2:((s:Nat):Int)+(x:Nat)=((s+x:Nat):Int):=by omega
    rw[<- q1] at V;rw[<- q2] at R;exact⟨rfl,rfl,_,V,rfl,_,R,g1,g2⟩
   .refine G (by omega) _ ⟨by omega,λq ae=>?_,?_⟩
    .by_cases z:q=r
     .rw[z];exact B
     .exact Y q (by omega)
    .have:nX L s W (r+1)=(List.range W).map λj=>L (s+j+(r+1))-L (s+j):=by
      unfold nX;rw[bB (by omega)]
     have e2:kY (nX L s W (r+1)) = .l ((List.range W).map λj=>D.int (L (s+j+(r+1))-L (s+j))):=by
      rw[this];show D.l (((List.range W).map λj=>L (s+j+(r+1))-L (s+j)).map D.int)=_;rw[bZ];rfl
     rw[e2];rfl
 rintro _ ⟨r,rW,one,Q,rfl⟩;obtain⟨r0,a,ha⟩:=(Gj (by omega)).mp one;obtain⟨F,hz⟩:∃ F,nX L s W r=a::F:=by
  cases e:nX L s W r with
  | nil=>rw[e] at one;exact absurd rfl one.1
  | cons b F =>
   refine⟨F,?_⟩;have:b∈nX L s W r:=by rw[e];exact aG
   unfold nX at this;rw[bB r0] at this;obtain⟨j,hj,rfl⟩:=aJ.mp this;have:=cH.mp hj;rw[ha (s+j) (by omega) (by omega)]
 rw[hz];refine kW (λd=>d=sH C al (.v (.int s)) (.o (pO L (s+2*W))) (.o (kY (a::F))) (.v (.int r)) (.v (.int ((s+r:Nat):Int)))) (λN u=>⟨rfl,u _ rfl⟩) ?_;rintro _ rfl;refine kW (λd=>∃ n:Nat,r<=n/\n<=s+r/\(∀ k,n<k->k<=s+r->L k=L (k-r)+a)/\(r<n->L n≠L (n-r)+a)/\d=sH C al (.v (.int s)) (.o (pO L (s+2*W))) (.o (kY (a::F))) (.v (.int r)) (.v (.int n))) (λN u=>?_) ?_
 .refine Df 8000 (λd=>match d with | [_,_,_,_,_,_,.v (.int c)]=>s+r-c.toNat | _=>0) (λi d=>i<=s/\(∀ k,s+r-i<k->k<=s+r->L k=L (k-r)+a)/\d=sH C al (.v (.int s)) (.o (pO L (s+2*W))) (.o (kY (a::F))) (.v (.int r)) (.v (.int ((s+r-i:Nat):Int)))) (λi d h=>?_) 0 ⟨by omega,λk k1 k2=>absurd k2 (by omega),by rfl⟩ λi d N2 h G=>?_
  .rw[h.2.2];show s+r-(((s+r-i:Nat):Int)).toNat=i;have:=h.1;omega
  obtain⟨hi,hk,rfl⟩:=h;refine⟨rfl,?_⟩;show if decide (((r:Nat):Int)<((s+r-i:Nat):Int))=true then _ else _
  by_cases lt:((r:Nat):Int)<((s+r-i:Nat):Int)
  .refine Ey lt ?_;have V:=Bi (λi=>D.int (L i)) (w:=s+2*W) (i:=s+r-i) (by omega);have R:=Bi (λi=>D.int (L i)) (w:=s+2*W) (i:=s+r-i-r) (by omega);rw[show ((s+r-i-r:Nat):Int)=((s+r-i:Nat):Int)-((r:Nat):Int) by omega] at R;refine⟨rfl,_,V,rfl,rfl,_,R,rfl,_,pV (j:=0) rfl,?_⟩;show if (nb false (decide (L (s+r-i)=L (s+r-i-r)+a)))=true then _ else _
   by_cases eq:L (s+r-i)=L (s+r-i-r)+a
   .rw[cV eq];refine G (by omega) _ ⟨by omega,λk k1 k2=>?_,?_⟩
    .by_cases z:k=s+r-i
     .rw[z];exact eq
     .exact hk k (by omega) k2
    .have:(((s+r-i:Nat):Int))-1=((s+r-(i+1):Nat):Int):=by omega
     rw[<- this];rfl
   .rw[bS eq];exact u _ ⟨s+r-i,by omega,by omega,hk,λ_=>eq,rfl⟩
  .refine Es lt ?_;exact u _ ⟨s+r-i,by omega,by omega,hk,λz=>absurd z (by omega),rfl⟩
 rintro _ ⟨n,n1,n2,n3,n4,rfl⟩;have T':Told L n r a:=Xd (show 0<W by omega) y (by omega) ha (λq q1 q2 c hc=>Q q q2 ((Gj (by omega)).mpr ⟨by omega,c,hc⟩)) (mono (by omega)) n1 n2 n3 n4;have ec:nK ((List.range (s+2*W+1)).map λi=>D.int (L i)) (some 1) (some (((n:Nat):Int)+1))=(List.range n).map λi=>D.int (L (i+1)):=BV _ (by omega)
 refine⟨rfl,rfl,?_⟩;refine⟨rfl,_,pV (j:=0) rfl,by show 3<=1000;decide,?_⟩;show Φ (.v (.t [.t (nK ((List.range (s+2*W+1)).map λi=>D.int (L i)) (some 1) (some (((n:Nat):Int)+1))),.int r,.int a]));rw[ec];exact S n r a T' (by omega) (by omega)
end
theorem Fg:∀ (j:nZ) (t:mQ),∃ u,j.foldl qT t=t++u
 | [],t=>⟨[],by simp⟩
 | g::j,t=>by
  obtain⟨u,a⟩:=Fg j (qT t g);exact⟨_,by rw[fO,a,qT,bD]⟩
theorem Kk {f:Af->Int}:∀ {g:Aa Af}{x:Af},x∈g->look (g.map λn=>(n,f n)) x=f x
 | y::g,x,h=>by
  rw[aW,qK];by_cases e:y=x
  .rw[bA e,e]
  .rw[bB e];rcases aF.mp h with q | q
   .exact absurd q.symm e
   .exact Kk q
theorem Th (h:x∈ins):look (tbl ins g c) x=c x:=by
 obtain⟨u,a⟩:=Fg g (ins.map λn=>(n,c n));unfold tbl;rw[a,Ih (by simpa [cG] using h),Kk h]
theorem Yg (l:(ins++j.map (·.1)).Nodup) (ok:yK ins j) (p:g∈j):look (tbl ins j c) g.1=mx (g.2.2.map λo=>1+look (tbl ins j c) o):=by
 obtain⟨i,h,rfl⟩:=eJ p;have e:j=j.take i++j[i]::j.drop (i+1):=by rw[iW,cI]
 obtain⟨_,d⟩:=Bh ok (aI h);have f:=xR ins (j.take i) c;obtain⟨u,k⟩:=Fg (j.drop (i+1)) (qT (tbl ins (j.take i) c) j[i]);have a:tbl ins j c=tbl ins (j.take i) c++[(j[i].1,mx (j[i].2.2.map λo=>1+look (tbl ins (j.take i) c) o))]++u:=by
  have:tbl ins j c=(j.drop (i+1)).foldl qT (qT (tbl ins (j.take i) c) j[i]):=by
   conv=>lhs;rw[e]
   unfold tbl;rw[fQ,fO]
  rw[this,k];rfl
 have new:j[i].1∉(tbl ins (j.take i) c).map (·.1):=by
  rw[f];intro q;rw[e,aZ,<- bD] at l;exact (bL.mp l).2.2 j[i].1 q j[i].1 (by rw[aW];exact aG) rfl
 have same:∀ o∈j[i].2.2,look (tbl ins j c) o=look (tbl ins (j.take i) c) o:=λo b=>by
  rw[a,bD,Ih (by rw[f];exact d o b)]
 rw[a,Ih (by simp),AQ new,<- a]
 congr 1
 exact List.map_congr_left λo b=>by rw[same o b]
theorem Tg (j:(al.map (·.2)).Nodup) (g:p∈al):look (pH al t) p.2=look t p.1:=by
 induction al with
 | nil=>cases g
 | cons q al a =>
  show look ((q.2,look t q.1)::pH al t) p.2=_;rw[qK];rcases aF.mp g with e | e
  .rw[e,bA rfl]
  .have:¬ q.2=p.2:=λz=>(bU.mp j).1 (by rw[show (λx:Af×Af=>x.2) q=q.2 from rfl,z];exact aJ.mpr ⟨p,e,rfl⟩)
   rw[bB this];exact a (bU.mp j).2 e
theorem Vz (al:Aa (Af×Af)) (x:Af):look (al.map λp=>(p.2,(0:Int))) x=0:=by
 induction al with
 | nil=>rfl
 | cons q al a =>
  rw[aW,qK];split
  .rfl
  .exact a
def pR (g:Aa Pt) (a n m:Nat):Prop:=∀ j,j<m->g[n+j]?=some (pA (false,a) n j)
theorem pR.app (h:pR l a n m) (g:Aa Pt):pR (l++g) a n m:=λj b=>by
 have:=h j b;rw[cK (aK.mp this).1];exact this
theorem Om (p:Pt) (n:Nat):∀ {m j:Nat},j<m->(oI p n m)[j]?=some (pA p n j)
 | 0,j,h=>absurd h (by omega)
 | m+1,j,h=>by
  rw[oI];by_cases z:j<m
  .rw[cK (by rw[uM];exact z)];exact Om p n z
  .have:j=m:=by omega
   subst this;rw[bN (by rw[uM];omega),uM];simp
theorem Pc (g:Aa Pt) (a m:Nat):pR (g++oI (false,a) g.length m) a g.length m:=λj b=>by
 rw[bN (by omega),Nat.add_sub_cancel_left];exact Om _ _ b
theorem Jp {j:Type}{g l:Aa j}{i:Nat}{x:j}(h:g[i]?=some x):(g++l)[i]?=some x:=by
 rw[cK (aK.mp h).1];exact h
theorem N7 (hd:∀ m∈ds,1<=m/\m<=3):∀ K,K<=ds.length->(∀ a n m,pR s.1 a n m->pR (lR c ds s K).1 a n m)/\(∀ (i:Nat) (x:Nat×Nat),s.2[i]?=some x->(lR c ds s K).2[i]?=some x) /\
  ∀ k,k<K->∃ n,pR (lR c ds s K).1 (c+k) n (ds.getD k 0)/\(lR c ds s K).2[s.2.length+k]?=some (n+ds.getD k 0-1,c+(k+1)%ds.length)
 | 0,_=>⟨λ_ _ _ h=>h,λ_ _ h=>h,λk b=>absurd b (by omega)⟩
 | K+1,u=>by
  obtain⟨d,e,f⟩:=N7 (c:=c) (s:=s) hd K (by omega);have q:=(Ca (c:=c) (s:=s) (λn t=>(hd n t).2) K).2;refine⟨λa n m h=>(d a n m h).app _,λi x h=>Jp (e i x h),λk b=>?_⟩;by_cases z:k<K
  .obtain⟨n,g1,g2⟩:=f k z;exact⟨n,g1.app _,Jp g2⟩
  .have:k=K:=by omega
   subst this;refine⟨(lR c ds s k).1.length,Pc _ _ _,?_⟩;show ((lR c ds s k).2++[_])[s.2.length+k]?=_;rw[bN (by omega),q,iX];have:=Bg (p:=(false,c+k)) (n:=(lR c ds s k).1.length) (hd _ (yC (show k<ds.length by omega))).1;rw[<- this];rfl
theorem M9 (ok:LpOk g):∀ i,i<=g.length->∀ b,b<i->∀ p,g[b]?=some p->∀ k,k<p.1.length ->
  ∃ n,pR (lF (g.take i)).1.1 (dK (g.take b)+k) n (p.1.getD k 0)/\(lF (g.take i)).1.2[dK (g.take b)+k]?=some (n+p.1.getD k 0-1,dK (g.take b)+(k+1)%p.1.length)
 | 0,_,b,f,_,_,_,_=>absurd f (by omega)
 | i+1,x,b,f,p,a,k,h=>by
  have e:g[i]?=some g[i]:=aI (by omega);have m:g.take (i+1)=g.take i++[g[i]]:=by rw[bI,e];rfl
  obtain⟨_,t,d⟩:=vF (lp:=g) (λp a n q=>(ok.dl p a n q).2) i;obtain⟨u,v,w⟩:=N7 (c:=(lF (g.take i)).2) (ds:=g[i].1) (s:=(lF (g.take i)).1) (ok.dl _ (cQ _)) g[i].1.length (aH _);rw[m,Dw];by_cases z:b<i
  .obtain⟨n,g1,g2⟩:=M9 ok i (by omega) b z p a k h;exact⟨n,u _ _ _ g1,v _ _ g2⟩
  .have:b=i:=by omega
   subst this;rw[e] at a;cases a;obtain⟨n,g1,g2⟩:=w k h;rw[d] at g1 g2;rw[t] at g2;exact⟨n,by show pR (lR _ _ _ _).1 _ _ _;rw[d];exact g1,by show (lR _ _ _ _).2[_]?=_;rw[d];exact g2⟩
theorem Fa (ok:LpOk g):∀ i,i<=g.length->(∀ a q m,pR rows a q m->pR (lY n rows (g.take i)).1.1 a q m)/\∀ o∈(lY n rows (g.take i)).1.2,∃ a q m,a<dK g/\1<=m/\m<=19/\pR (lY n rows (g.take i)).1.1 a q m/\o=q+m-1
 | 0,_=>⟨λ_ _ _ h=>by simpa [lY] using h,by simp[lY]⟩
 | i+1,s=>by
  obtain⟨c,d⟩:=Fa (n:=n) ok (rows:=rows) i (by omega);have e:g[i]?=some g[i]:=aI (by omega);have b:g.take (i+1)=g.take i++[g[i]]:=by rw[bI,e];rfl
  have fs:(lY n rows (g.take i)).2=dK (g.take i):=by
   have:∀ i,i<=g.length->(lY n rows (g.take i)).2=dK (g.take i):=by
    intro i;induction i with
    | zero=>intro _;simp[lY,dK]
    | succ i u =>
     intro s;have e:g[i]?=some g[i]:=aI (by omega);have b:g.take (i+1)=g.take i++[g[i]]:=by rw[bI,e];rfl
     rw[b,Ce,oM,show dK [g[i]]=g[i].1.length by simp[dK]];show (lY n rows (g.take i)).2+g[i].1.length=_;rw[u (by omega)]
   exact this i (by omega)
  have lt:dK (g.take i)<dK g:=by
   have:=oM (g.take (i+1)) (g.drop (i+1));rw[cI,b,oM,show dK [g[i]]=g[i].1.length by simp[dK]] at this;have:=fX.mpr (ok.sz g[i] (cQ _));omega
  have v:=ok.tl g[i] (cQ _);rw[b,Ce];unfold qM;by_cases z:0<min g[i].2 (24-(lY n rows (g.take i)).1.1.length)/\n+(lY n rows (g.take i)).1.2.length<6
  .rw[bA z];refine⟨λa q m h=>(c a q m h).app _,λo t=>?_⟩;rcases aV.mp t with w | w
   .obtain⟨a,q,m,g1,g2,g3,f,k⟩:=d o w;exact⟨a,q,m,g1,g2,g3,f.app _,k⟩
   .refine⟨(lY n rows (g.take i)).2,(lY n rows (g.take i)).1.1.length,min g[i].2 (24-(lY n rows (g.take i)).1.1.length),by rw[fs];exact lt,z.1,by omega,Pc _ _ _,?_⟩;rw[aQ.mp w];exact Bg z.1
  .rw[bB z];exact⟨c,d⟩
theorem Jw (ok:LpOk g) (j:g[b]?=some p) (l:k<p.1.length):∃ n,pR (kL g) (dK (g.take b)+k) n (p.1.getD k 0)/\(kS g)[dK (g.take b)+k]?=some (n+p.1.getD k 0-1,dK (g.take b)+(k+1)%p.1.length):=by
 obtain⟨n,g1,g2⟩:=M9 ok g.length (aH _) b (aK.mp j).1 p j k l;rw[aO (aH _)] at g1 g2;have:=(Fa (n:=(kS g).length) ok (rows:=(lF g).1.1) g.length (aH _)).1 _ _ _ g1;rw[aO (aH _)] at this;exact⟨n,this,g2⟩
theorem Xw (ok:LpOk g) (j:o∈mL g):∃ a q m,a<dK g/\1<=m/\m<=19/\pR (kL g) a q m/\o=q+m-1:=by
 have:=(Fa (n:=(kS g).length) ok (rows:=(lF g).1.1) g.length (aH _)).2;rw[aO (aH _)] at this;exact this o j
theorem Wc {p:Type}{os:Aa p}(l:os≠[]){F:p->Nat->Int}{sl:p->Int}(j:∀ o∈os,∀ t,F o (t+12)=F o t+sl o) (lo:∀ o∈os,∀ t:Nat,(t:Int)+1<=F o t) (C:∀ o∈os,∀ t:Nat,F o t<=3*t+19)
  (gap:∀ o∈os,∀ q∈os,sl o<sl q->sl o+4<=sl q):∃ y:Int,∀ t,132<=t->mx (os.map λo=>F o (t+12))=mx (os.map λo=>F o t)+y:=by
 have c:∀ t,∃ o∈os,mx (os.map λo=>F o t)=F o t:=λt=>by
  rcases wG (os.map λo=>F o t) with e | e
  .obtain⟨o,b⟩:=List.exists_mem_of_ne_nil _ l;have i:=tO (aJ.mpr ⟨o,b,rfl⟩:F o t∈os.map λo=>F o t);have A:=lo o b t;omega
  .obtain⟨o,b,e⟩:=aJ.mp e;exact⟨o,b,e.symm⟩
 obtain⟨m,d,mT⟩:∃ m∈os,∀ o∈os,sl o<=sl m:=by
  clear j lo C gap c;induction os with
  | nil=>exact absurd rfl l
  | cons a r B =>
   by_cases z:r=[]
   .exact⟨a,aG,λo b=>by rw[z] at b;rw[aQ.mp b];exact cO _⟩
   .obtain⟨m,d,h⟩:=B z;by_cases q:sl m<=sl a
    .exact⟨a,aG,λo b=>by
      rcases aF.mp b with w | w
      .rw[w];exact cO _
      .exact jR (h o w) q⟩
    .exact⟨m,aN _ d,λo b=>by
      rcases aF.mp b with w | w
      .rw[w];omega
      .exact h o w⟩
 have f:∀ o∈os,∀ (n r:Nat),F o (r+n*12)=F o r+n*sl o:=λo b n r=>uC (L:=F o) (s:=0) (W:=12) (a:=sl o) (λk _=>j o b k) n r (cU _)
 have best:∀ t,132<=t->∀ o∈os,mx (os.map λo=>F o t)=F o t->sl o=sl m:=λt v o b e=>cA λz=>by
  have lt:sl o<sl m:=by have:=mT o b;omega
  have g:=gap o b m d lt;have i:=tO (aJ.mpr ⟨m,d,rfl⟩:F m t∈os.map λo=>F o t);rw[e] at i;obtain⟨n,r,rfl,K,l⟩:∃ n r:Nat,t=r+n*12/\r<12/\11<=n:=⟨t/12,t%12,by omega,by omega,by omega⟩;have G:=f o b n r;have H:=f m d n r;have D:=C o b r;have E:=lo m d r;have mul:(n:Int)*(sl o+4)<=n*sl m:=bK g (by omega);rw[eY] at mul;omega
 refine⟨sl m,λt v=>?_⟩;obtain⟨o,b,x⟩:=c t;obtain⟨q,u,eq⟩:=c (t+12);have O:=best t v o b x;have P:=best (t+12) (by omega) q u eq;have i:=tO (aJ.mpr ⟨o,b,rfl⟩:F o (t+12)∈os.map λo=>F o (t+12));have A:=tO (aJ.mpr ⟨q,u,rfl⟩:F q t∈os.map λo=>F o t);have M:=j o b t;have N:=j q u t;omega
theorem Zv {l:Nat}{y:Nat->Nat->Int}{d:Nat->Nat}(j:1<=l) (g:l<=4) (h:∀ k,k<l->∀ t,y ((k+1)%l) (t+1)=y k t+d k):∃ s:Int,(∀ k,k<l->∀ t,y k (t+12)=y k t+((12/l:Nat):Int)*s):=by
 have one:∃ s:Int,∀ k,k<l->∀ t,y k (t+l)=y k t+s:=by
  rcases (show l=1\/l=2\/l=3\/l=4 by omega) with rfl | rfl | rfl | rfl
  .exact⟨d 0,λk f t=>by
    have b:y 0 (t+1)=y 0 t+d 0:=h 0 (by omega) t;obtain rfl:k=0:=by omega
    omega⟩
  .have b:∀ t,y 1 (t+1)=y 0 t+d 0:=h 0 (by omega);have c:∀ t,y 0 (t+1)=y 1 t+d 1:=h 1 (by omega);exact⟨d 0+d 1,λk f t=>by
    have m:=b t;have n:=c t;have q:=b (t+1);have u:=c (t+1);rcases (show k=0\/k=1 by omega) with rfl | rfl
    .show y 0 (t+1+1)=_;omega
    .show y 1 (t+1+1)=_;omega⟩
  .have b:∀ t,y 1 (t+1)=y 0 t+d 0:=h 0 (by omega);have c:∀ t,y 2 (t+1)=y 1 t+d 1:=h 1 (by omega);have e:∀ t,y 0 (t+1)=y 2 t+d 2:=h 2 (by omega);exact⟨d 0+d 1+d 2,λk f t=>by
    have m:=b t;have n:=c t;have v:=e t;have q:=b (t+1);have u:=c (t+1);have w:=e (t+1);have x:=b (t+1+1);have z:=c (t+1+1);have A:=e (t+1+1);rcases (show k=0\/k=1\/k=2 by omega) with rfl | rfl | rfl
    .show y 0 (t+1+1+1)=_;omega
    .show y 1 (t+1+1+1)=_;omega
    .show y 2 (t+1+1+1)=_;omega⟩
  .have b:∀ t,y 1 (t+1)=y 0 t+d 0:=h 0 (by omega);have c:∀ t,y 2 (t+1)=y 1 t+d 1:=h 1 (by omega);have e:∀ t,y 3 (t+1)=y 2 t+d 2:=h 2 (by omega);have i:∀ t,y 0 (t+1)=y 3 t+d 3:=h 3 (by omega);exact⟨d 0+d 1+d 2+d 3,λk f t=>by
    have m:=b t;have n:=c t;have v:=e t;have D:=i t;have q:=b (t+1);have u:=c (t+1);have w:=e (t+1);have E:=i (t+1);have x:=b (t+1+1);have z:=c (t+1+1);have A:=e (t+1+1);have F:=i (t+1+1);have G:=b (t+1+1+1);have d1:=c (t+1+1+1);have d2:=e (t+1+1+1);have H:=i (t+1+1+1);rcases (show k=0\/k=1\/k=2\/k=3 by omega) with rfl | rfl | rfl | rfl
    .show y 0 (t+1+1+1+1)=_;omega
    .show y 1 (t+1+1+1+1)=_;omega
    .show y 2 (t+1+1+1+1)=_;omega
    .show y 3 (t+1+1+1+1)=_;omega⟩
 obtain⟨s,B⟩:=one;refine⟨s,λk f t=>?_⟩;have:=uC (L:=y k) (s:=0) (W:=l) (a:=s) (λt _=>B k f t) (12/l) t (cU _)
 rwa [show 12/l*l=12 by rcases (show l=1\/l=2\/l=3\/l=4 by omega) with rfl | rfl | rfl | rfl<;>rfl] at this
theorem X3 (o:1<=l) (p:1<=g) (r:l+g<=4) (h:((12/l:Nat):Int)*s<((12/g:Nat):Int)*j):((12/l:Nat):Int)*s+4<=((12/g:Nat):Int)*j:=by
 have:(l=1\/l=2\/l=3)/\(g=1\/g=2\/g=3):=by omega
 rcases this with⟨rfl | rfl | rfl,rfl | rfl | rfl⟩<;>first | (exfalso;omega) | (simp at h |-;omega)
theorem A4:∀ {lp:LP}{J:Nat},J<dK lp->∃ b p k,lp[b]?=some p/\k<p.1.length/\J=dK (lp.take b)+k
 | [],J,h=>by simp[dK] at h
 | q::lp,J,h=>by
  have e:dK (q::lp)=q.1.length+dK lp:=by simp[dK]
  by_cases z:J<q.1.length
  .exact⟨0,q,J,rfl,z,by simp[dK]⟩
  .obtain⟨b,p,k,a,c,d⟩:=A4 (lp:=lp) (J:=J-q.1.length) (by omega);refine⟨b+1,p,k,by simpa using a,c,?_⟩;rw[List.take_succ_cons,show dK (q::lp.take b)=q.1.length+dK (lp.take b) by simp[dK]];omega
theorem AL {j:LP}{b g:Nat}{p l:Aa Nat×Nat}(h:j[b]?=some p) (o:j[g]?=some l) (ne:b≠g):p.1.length+l.1.length<=dK j:=by
 have key:∀ {b g:Nat} {p l:Aa Nat×Nat},j[b]?=some p->j[g]?=some l->b<g->p.1.length+l.1.length<=dK j:=λ{b g p l} h o lt=>by
  have a:j.take (g+1)=j.take g++[l]:=by rw[bI,o];rfl
  have c:p∈j.take g:=aL (i:=b) (by rw[dR lt];exact h);have d:=oM (j.take (g+1)) (j.drop (g+1));rw[cI,a,oM,show dK [l]=l.1.length by simp[dK]] at d;obtain⟨x,y,e⟩:=List.append_of_mem c;have f:dK (j.take g)=dK x+(p.1.length+dK y):=by rw[e,oM];congr 1
  omega
 rcases Nat.lt_or_gt_of_ne ne with z | z
 .exact key h o z
 .have:=key o h z;omega
section
abbrev xJ (j:LP) (g:Aa Af) (J t:Nat):Int:=look (Cr (kQ g j).ins (kQ g j).gates (lN g j) t) (kZ g J)
theorem Iw (ok:LpOk g) (C:j.length=dK g+(kL g).length) (I:j.Nodup) (l:∀ x∈j,GoodName x) (o:∀ x,0<=c x) (r:(kL g)[k]?=some p) :
  look (tbl (kQ j g).ins (kQ j g).gates c) (kZ j (dK g+k))=1+look (tbl (kQ j g).ins (kQ j g).gates c) (kZ j (p.2+if p.1=true then dK g else 0)):=by
 have G:=C9 ok C I l;have d:xL j (dK g) k p∈(kQ j g).gates:=aL (Ew r);have:=Yg (c:=c) G.good.nd G.good.gt d;have e:=vM (ins:=(kQ j g).ins) (gs:=(kQ j g).gates) o (kZ j (p.2+if p.1=true then dK g else 0));rw[show (xL j (dK g) k p).1=kZ j (dK g+k) from rfl] at this;rw[this];show mx [1+_,1+_]=_;exact (vZ (.inr aG) (by omega) λa b=>by
  simp only[aF,bE,eP] at b;rcases b with rfl | rfl<;>exact cO _).symm
theorem Cv (ok:LpOk l) (C:g.length=dK l+(kL l).length) (I:g.Nodup) (o:∀ x∈g,GoodName x) (p:∀ x,0<=c x) (J:a<dK l) (r:pR (kL l) a n m):∀ j,j<m->look (tbl (kQ g l).ins (kQ g l).gates c) (kZ g (dK l+(n+j)))=c (kZ g a)+j+1
 | 0,b=>by
  rw[Iw ok C I o p (r 0 b)];have:kZ g a∈(kQ g l).ins:=by
   have:(g.take (dK l))[a]?=some (kZ g a):=by rw[dR J];exact wA (by omega)
   exact aL this
  show 1+look _ (kZ g (a+0))=_;rw[fR,Th this];omega
 | j+1,b=>by
  rw[Iw ok C I o p (r (j+1) b)];have:=Cv ok C I o p J r j (by omega);show 1+look _ (kZ g (n+j+dK l))=_;rw[Nat.add_comm (n+j),this];omega
theorem wR (j:g[b]?=some p) (l:k<p.1.length):dK (g.take b)+k<dK g:=by
 have a:g.take (b+1)=g.take b++[p]:=by rw[bI,j];rfl
 have c:=oM (g.take (b+1)) (g.drop (b+1));rw[cI,a,oM,show dK [p]=p.1.length by simp[dK]] at c;omega
theorem G8 (ok:LpOk g) (I:j.length=dK g+(kL g).length) (J:j.Nodup) (C:∀ x∈j,GoodName x) (r:g[b]?=some p) (l:k<p.1.length) (t:Nat) :
  xJ g j (dK (g.take b)+(k+1)%p.1.length) (t+1)=xJ g j (dK (g.take b)+k) t+p.1.getD k 0/\∃ o∈(kQ j g).outs,∀ t,look (Tb (kQ j g).ins (kQ j g).gates (lN j g) t) o=xJ g j (dK (g.take b)+k) t+p.1.getD k 0:=by
 have G:=C9 ok I J C;obtain⟨n,g1,g2⟩:=Jw ok r l;have d1:=ok.dl p (aL r) _ (yC l);have d:∀ t,look (Tb (kQ j g).ins (kQ j g).gates (lN j g) t) (kZ j (dK g+(n+p.1.getD k 0-1)))=xJ g j (dK (g.take b)+k) t+p.1.getD k 0:=λt=>by
  have:=Cv ok I J C (c:=look (Cr (kQ j g).ins (kQ j g).gates (lN j g) t)) (vO t) (wR r l) g1 (p.1.getD k 0-1) (by omega);rw[show n+(p.1.getD k 0-1)=n+p.1.getD k 0-1 by omega] at this;show look (tbl _ _ _) _=_;rw[this];show xJ g j _ t+_+1=_;omega
 have a:(kZ j (dK g+(n+p.1.getD k 0-1)),kZ j (dK (g.take b)+(k+1)%p.1.length))∈lN j g:=aJ.mpr ⟨_,aL g2,rfl⟩;refine⟨?_,_,(G.mem _ a).1,d⟩;show look (pH (lN j g) (tbl _ _ _)) _=_;have:=Tg (t:=tbl (kQ j g).ins (kQ j g).gates (look (Cr (kQ j g).ins (kQ j g).gates (lN j g) t))) G.n2 a;rw[this];exact d t
theorem AU (J:Nat):xJ g j J 0=0:=Vz _ _
theorem Ro (g:k<l):∃ j,j<l/\(j+1)%l=k:=by
 by_cases z:k=0
 .exact⟨l-1,by omega,by rw[show l-1+1=l by omega,Nat.mod_self,z]⟩
 .exact⟨k-1,by omega,by rw[show k-1+1=k by omega,gW g]⟩
theorem Eg (ok:LpOk g) (r:l.length=dK g+(kL g).length) (C:l.Nodup) (o:∀ x∈l,GoodName x):∀ (t:Nat){J:Nat},J<dK g->(t:Int)<=xJ g l J t/\xJ g l J t<=3*t
 | 0,J,_=>by rw[AU];exact⟨cO _,cO _⟩
 | t+1,J,f=>by
  obtain⟨b,p,k,c,h,rfl⟩:=A4 f;obtain⟨j,a,e⟩:=Ro h;have s:=(G8 ok r C o c a t).1;rw[e] at s;have d:=ok.dl p (aL c) _ (yC a);have i:=Eg ok r C o t (wR c a);rw[s];omega
theorem Rl (ok:LpOk g) (C:j.length=dK g+(kL g).length) (I:j.Nodup) (l:∀ x∈j,GoodName x):∃ y:Int,∀ k,133<=k->lT (kQ j g) (lN j g) (k+12)=lT (kQ j g) (lN j g) k+y:=by
 have G:=C9 ok C I l;have ring:∀ b p,g[b]?=some p->∃ s:Int,∀ k,k<p.1.length->∀ t,xJ g j (dK (g.take b)+k) (t+12)=xJ g j (dK (g.take b)+k) t+((12/p.1.length:Nat):Int)*s:=λb p h=>by
  have Q:=fX.mpr (ok.sz p (aL h));have l4:p.1.length<=4:=by
   have:=wR (k:=p.1.length-1) h (by omega);have:=ok.n4;omega
  exact Zv (y:=λk t=>xJ g j (dK (g.take b)+k) t) (d:=λk=>p.1.getD k 0) Q l4 λk A t=>(G8 ok C I l h A t).1
 have out:∀ o∈(kQ j g).outs,∃ b p k e,g[b]?=some p/\k<p.1.length/\1<=e/\e<=19/\∀ t,look (Tb (kQ j g).ins (kQ j g).gates (lN j g) t) o=xJ g j (dK (g.take b)+k) t+(e:Nat):=λo f=>by
  rcases aV.mp (show o∈(lN j g).map (·.1)++(mL g).map λo=>kZ j (dK g+o) from f) with q | q
  .obtain⟨pr,O,rfl⟩:=aJ.mp q;obtain⟨q',P,rfl⟩:=aJ.mp O;obtain⟨J,V,e⟩:=eJ P;have L:J<dK g:=by rw[<- (Mm ok).1];exact V
   obtain⟨b,p,k,h,A,rfl⟩:=A4 L;obtain⟨n,g1,g2⟩:=Jw ok h A;have eq:q'=(n+p.1.getD k 0-1,dK (g.take b)+(k+1)%p.1.length):=by
    rw[aI V] at g2;rw[<- e];exact bT g2
   have d:=ok.dl p (aL h) _ (yC A);refine⟨b,p,k,p.1.getD k 0,h,A,d.1,by omega,λt=>?_⟩;rw[eq];have:=Cv ok C I l (c:=look (Cr (kQ j g).ins (kQ j g).gates (lN j g) t)) (vO t) (wR h A) g1 (p.1.getD k 0-1) (by omega);rw[show n+(p.1.getD k 0-1)=n+p.1.getD k 0-1 by omega] at this;show look (tbl _ _ _) _=_;rw[this];show xJ g j _ t+_+1=_;omega
  .obtain⟨o',N,rfl⟩:=aJ.mp q;obtain⟨a,n,m,W,m1,R,sg,rfl⟩:=Xw ok N;obtain⟨b,p,k,h,A,rfl⟩:=A4 W;refine⟨b,p,k,m,h,A,m1,R,λt=>?_⟩;have:=Cv ok C I l (c:=look (Cr (kQ j g).ins (kQ j g).gates (lN j g) t)) (vO t) W sg (m-1) (by omega);rw[show n+(m-1)=n+m-1 by omega] at this;show look (tbl _ _ _) _=_;rw[this];show xJ g j _ t+_+1=_;omega
 have i:∀ o:Af,∃ s:Int,o∈(kQ j g).outs->∃ b p k e,∃ D:Int,g[b]?=some p/\k<p.1.length/\1<=e/\e<=19/\(∀ t,look (Tb (kQ j g).ins (kQ j g).gates (lN j g) t) o=xJ g j (dK (g.take b)+k) t+(e:Nat))/\s=((12/p.1.length:Nat):Int)*D/\∀ k,k<p.1.length->∀ t,xJ g j (dK (g.take b)+k) (t+12)=xJ g j (dK (g.take b)+k) t+((12/p.1.length:Nat):Int)*D:=λo=>by
  by_cases f:o∈(kQ j g).outs
  .obtain⟨b,p,k,e,u,v,E,H,w⟩:=out o f;obtain⟨s,T⟩:=ring b p u;exact⟨_,λ_=>⟨b,p,k,e,s,u,v,E,H,w,rfl,T⟩⟩
  .exact⟨0,λz=>absurd z f⟩
 have M:(kQ j g).outs≠[]:=λz=>by
  obtain⟨a,r,e⟩:=List.exists_cons_of_ne_nil ok.some;have h:g[0]?=some a:=by rw[e];rfl
  have Q:=fX.mpr (ok.sz a (aL h));obtain⟨o,f,_⟩:=(G8 ok C I l h (k:=0) Q 0).2;rw[z] at f;exact absurd f bE
 have q1:∀ o∈(kQ j g).outs,∀ t,look (Tb (kQ j g).ins (kQ j g).gates (lN j g) (t+12)) o=look (Tb (kQ j g).ins (kQ j g).gates (lN j g) t) o+Classical.choose (i o):=λo f t=>by
  obtain⟨b,p,k,e,D,u,v,E,H,w,B,K⟩:=cJ (i o) f;rw[w,w,B,K k v t];omega
 have q2:∀ o∈(kQ j g).outs,∀ t:Nat,(t:Int)+1<=look (Tb (kQ j g).ins (kQ j g).gates (lN j g) t) o:=λo f t=>by
  obtain⟨b,p,k,e,D,u,v,E,H,w,B,K⟩:=cJ (i o) f;have:=(Eg ok C I l t (wR u v)).1;rw[w];omega
 have q3:∀ o∈(kQ j g).outs,∀ t:Nat,look (Tb (kQ j g).ins (kQ j g).gates (lN j g) t) o<=3*t+19:=λo f t=>by
  obtain⟨b,p,k,e,D,u,v,E,H,w,B,K⟩:=cJ (i o) f;have:=(Eg ok C I l t (wR u v)).2;rw[w];omega
 have q4:∀ o∈(kQ j g).outs,∀ q∈(kQ j g).outs,Classical.choose (i o)<Classical.choose (i q)->Classical.choose (i o)+4<=Classical.choose (i q):=λo f q Z lt=>by
  obtain⟨b,p,k,e,D,u,v,E,H,w,B,K⟩:=cJ (i o) f;obtain⟨X,p',k',e',aa,g1,g2,g3,g4,g5,S,Y⟩:=cJ (i q) Z;by_cases z:b=X
  .subst z;rw[u] at g1;cases g1;have a1:=K k v 0;have a2:=Y k v 0;rw[B,S] at lt;omega
  .have:=AL u g1 z;have:=ok.n4;rw[B,S] at lt |-;exact X3 (by omega) (by omega) (by omega) lt
 obtain⟨y,U⟩:=Wc M (F:=λo t=>look (Tb (kQ j g).ins (kQ j g).gates (lN j g) t) o) (sl:=λo=>Classical.choose (i o)) q1 q2 q3 q4;refine⟨y,λk A=>?_⟩;obtain⟨t,rfl⟩:∃ t,k=t+1:=⟨k-1,by omega⟩;exact U t (by omega)
end
def Je:RD:=λc a b=>∃ (C:Cel) (al:Aa (Af×Af)) (w:Nat),a=[mE C al,.int w]/\GoodRow C al/\w<=20000/\b (.v (.l ((List.range w).map λi=>D.int (nV C al i))))
def sK (C:Cel) (al:Aa (Af×Af)):Aa Af:=C.outs.filter λo=>!(qU (.str o) (al.map λp=>V.str p.1))
def mS (C:Cel) (al:Aa (Af×Af)):Nat->Int
 | 0=>0
 | i+1=>mx ((sK C al).map (look (Tb C.ins C.gates al i)))
theorem P9 (o:Af):∀ g:Aa Af,qU (.str o) (g.map V.str)=decide (o∈g)
 | []=>by simp[qU]
 | x::g=>by
  have a:=P9 o g;unfold qU at a |-;rw[aW,eX,a];by_cases h:o=x
  .subst h;simp[oF]
  .have:(oF (V.str x) (V.str o))=false:=by simp[oF];exact λz=>h z.symm
   simp[this,h]
theorem Dq (h:x∈t.map (·.1)):uU (.k (gV t)) (.str x)=some (some (.int (look t x))):=by
 show some (pD (gV t) (Sum.inr x))=_;rw[(uR t x).1 h]
theorem J6 (h:x∉t.map (·.1)) (g:t.length<100000):vB (.k (gV t)) (.str x) (.int n)=some (.k (gV (t++[(x,n)]))):=by
 simp only[vB,bA (show (gV t).length<100000 by simpa [gV] using g)];show some (D.k (qQ (gV t) (Sum.inr x) (.int n)))=_;rw[Ig h]
theorem El (m:Int) (t:mQ) (g:Aa Af) (f:Int->Int):qE ([D.int m]++g.map λo=>D.int (f (look t o)))=some (m::g.map λo=>f (look t o)):=by
 have:=xH (m::g.map λo=>f (look t o));rw[aW,bZ] at this;exact this
theorem Ks {j:Type}{g:Aa j}{f:j->Af}{i:Nat}{x:j}(l:(g.map f).Nodup) (h:g[i]?=some x):f x∉(g.take i).map f:=by
 obtain⟨a,rfl⟩:=aK.mp h;intro q;have e:g=g.take i++g[i]::g.drop (i+1):=by rw[iW,cI]
 rw[e,aZ] at l;exact (bL.mp l).2.2 _ q _ (aJ.mpr ⟨_,aG,rfl⟩) rfl
theorem Sc (C:Cel) (al:Aa (Af×Af)):∀ i,mS C al i<=mS C al (i+1)
 | 0=>sS _
 | i+1=>Hv λx _=>T9 i x
theorem Vc (C:Cel) (al:Aa (Af×Af)):∀ i,0<=mS C al i
 | 0=>cO _
 | i+1=>sS _
theorem Lb (al:Aa (Af×Af)) (f:Af×Af->Int):tP (al.map λp=>D.t [.str p.2,.int (f p)])=some (gV (al.map λp=>(p.2,f p))):=by
 rw[Go (g:=λp=>((Sum.inr p.2:hH),D.int (f p))) (λp=>⟨.str p.2,rfl,rfl⟩)];simp[gV]
def sF (al:Aa (Af×Af)):D:=.l (al.map λp=>D.str p.1)
abbrev pB (C:Cel) (al:Aa (Af×Af)) (w:Nat) (o c l f p t n j g e:Sl):Aa Sl :=
 [.v (mE C al),.v (.int w),.v (tD C),.v (.t (al.map nO)),o,c,l,f,p,t,n,j,g,e]
theorem C4:(["out","into"]:Aa Af).Nodup:=by decide +kernel
theorem AO:(["one","times"]:Aa Af).Nodup:=by decide +kernel
theorem EG:(["name","times"]:Aa Af).Nodup:=by decide +kernel
theorem Yf:(["name","times","outs"]:Aa Af).Nodup:=by decide +kernel
theorem Js:(["out","into","times"]:Aa Af).Nodup:=by decide +kernel
section
variable {P:Ah}{K:kG}
theorem pK:FnScope ["row","widths","cell","along","outs","carried","last","found","place","times","name","word","names","ends"] ["row","widths"] (lJ C6):=oS
theorem Tz (T:Txt mg):oJ P w K mg base 1 "_law_latest" C6 ["row","widths"] Je:=by
 refine pF pK λf aj A ai s H E dk ds Φ hr Q hR=>?_
 obtain⟨C,al,w,rfl,M,hw,ah⟩:=hR;have an:=M.la;refine⟨_,(kR (Uf (m:=99) (eM 0) (qR (n:=2) rfl (mD (kX 2 pK.nd) (mD (kX 3 pK.nd) pQ)))) (kR (lG 4 pK.nd (nW ["out","into"] [] [] (nG (eM 3)) (λ_ _ _ _ _=>(qR (n:=2) rfl (mD (kX 0 C4) (mD (kX 1 C4) pQ)))) (λ_ _ _ _ _=>(eM 0)))) (kR (lG 5 pK.nd (sI (Fc rfl) Et T.dict iU (eH (nW ["out","into"] [] [] (nG (eM 3)) (λ_ _ _ _ _=>(qR (n:=2) rfl (mD (kX 0 C4) (mD (kX 1 C4) pQ)))) (λ_ _ _ _ _=>(qL (eH (eM 1) (eH hI gD))))) gD))) (kR (lG 6 pK.nd hI) (kR (lG 7 pK.nd (oA gD)) (kR (rB (yQ (by rfl) T.range (eM 1)) (kX 8 pK.nd) (kR (lG 9 pK.nd BY) (kR (rB (nG (lI Q 2 hI)) (kX 10 pK.nd) (lU (F1 (n:=9) Q (Oe Q (pv 5) (eM 10) hI) (pv 9) (eM 10)))) (kR (rB (nG (lI Q 2 hI)) (qR (n:=3) rfl (mD (kX 10 pK.nd) (mD (kX 11 pK.nd) (mD (kX 12 pK.nd) pQ)))) (lU (F1 (n:=9) Q (nN (Du rfl) Cb T.max gR (eH (mR mB mC (oA (eH hI gD)) (nW ["one"] ["times"] [9] (nG (eM 12)) (λ_ _ _ _ _=>(kX 0 AO)) (λ_ _ _ _ _=>(mR mB mC hI (lI Q 1 (eM 0)))))) gD)) (pv 9) (eM 10)))) (kR (Fi 13 ["name"] ["times"] [9] pK.nd (nG (eM 4)) (λ_ _ _ _ _=>(kX 0 EG)) (λ_ _ _ _ _=>(lI Q 1 (eM 0)))) (kR (lG 6 pK.nd (nN (Du rfl) Cb T.max gR (eH (mR mB mC (oA (eH (eM 6) gD)) (nW ["name"] ["times","outs"] [9,4] (nG (lI Q 2 hI)) (λ_ _ _ _ _=>(kX 0 Yf)) (λ_ _ _ _ _=>(lI Q 1 (eM 0))) (ht:=λ_ _ _ _ _=>(Ng (Rg (AT Q) (Yq true) (eM 0) (pv 2)))))) gD))) (kR (vH (vD bY cC cD sV vC (pv 7) (eH (nN (Du rfl) Cb T.max gR (eH (mR mB mC (oA (eH (eM 6) gD)) (eM 13)) gD)) gD))) (lU (lG 5 pK.nd (sI (Fc rfl) Et T.dict iU (eH (nW ["out","into"] ["times"] [9] (nG (eM 3)) (λ_ _ _ _ _=>(qR (n:=2) rfl (mD (kX 0 Js) (mD (kX 1 Js) pQ)))) (λ_ _ _ _ _=>(qL (eH (eM 1) (eH (lI Q 2 (eM 0)) gD))))) gD))))))))))) (lU (nS (eM 7))))))))),?_⟩;refine⟨rfl,rfl,?_⟩;dsimp only;refine kW (λb=>b=pB C al w (.o (sF al)) .n .n .n .n .n .n .n .n .n) (λN B=>?_) ?_
 .unfold rK;exact oB al nO (λp=>.str p.1) _ (λZ h=>h) (by omega) (λi p ys Nx e F L=>⟨rfl,rfl,F,L⟩) (B _ rfl)
 rintro _ rfl;refine kW (λb=>b=pB C al w (.o (sF al)) (.o (.k (gV (Cr C.ins C.gates al 0)))) .n .n .n .n .n .n .n .n) (λN B=>?_) ?_
 .unfold rK dC aC;refine oB al nO (λp=>.t [.str p.2,.int 0]) _ (λZ h=>h) (by omega) (λi p ys Nx e F L=>⟨rfl,rfl,by show 2<=1000;decide,F,L⟩) ?_;refine⟨_,Lb al λ_=>0,by simp[gV];omega,?_⟩;rw[Ax (by simpa [cG] using M.n2)];exact B _ rfl
 rintro _ rfl;refine⟨by show 0<=1000;decide,?_⟩;dsimp only;refine kW (λb=>∃ o c p t n u d e:Sl,b=pB C al w o c (.v (.int (mS C al w))) (.o (.l ((List.range w).map λi=>D.int (nV C al i)))) p t n u d e) (λN B=>?_) ?_
 .refine rP (nH 0 w) (pB C al w (.o (sF al)) (.o (.k (gV (Cr C.ins C.gates al 0)))) (.v (.int 0)) (.o (.l [])) .n .n .n .n .n .n) (λZ h=>⟨by omega,by omega,h⟩)
   (λi b=>∃ o p t n u d e:Sl,(o = .o (sF al)\/o = .v (sF al))/\b=pB C al w o (.o (.k (gV (Cr C.ins C.gates al i)))) (.v (.int (mS C al i))) (.o (.l ((List.range i).map λi=>D.int (nV C al i)))) p t n u d e) ⟨_,.n,.n,.n,.n,.n,.n,.inl rfl,rfl⟩ ?_ ?_
  .rintro i x b G ⟨o,p,t,n,u,d,e,ho,rfl⟩;obtain⟨hi,rfl⟩:=xG G;have af:=Br (ins:=C.ins) (gs:=C.gates) (al:=al) i;have I:=vO (ins:=C.ins) (gs:=C.gates) (al:=al) i;generalize ae:Cr C.ins C.gates al i=cr at af I |-;have ak:0<=mS C al i:=by cases i with | zero=>exact cO _ | succ i=>exact sS _
   have U:C.ins.Nodup:=(bL.mp M.good.nd).1;have li:=M.good.li;have lg:=M.good.lg;have lo:=M.good.lo;refine kW (λb=>∃ n:Sl,b=pB C al w o (.o (.k (gV cr))) (.v (.int (mS C al i))) (.o (.l ((List.range i).map λi=>D.int (nV C al i)))) (.v (.int (0+(i:Int)))) (.o (.k (gV []))) n u d e) (λN B=>B _ ⟨n,rfl⟩) ?_;rintro b ⟨n,rfl⟩;refine kW (λb=>∃ n:Sl,b=pB C al w o (.o (.k (gV cr))) (.v (.int (mS C al i))) (.o (.l ((List.range i).map λi=>D.int (nV C al i)))) (.v (.int (0+(i:Int)))) (.o (.k (gV (C.ins.map λx=>(x,look cr x))))) n u d e) (λN B=>?_) ?_
   .refine rP (C.ins.map D.str) _ (λZ h=>⟨rfl,_,rfl,h⟩) (λj b=>∃ n:Sl,b=pB C al w o (.o (.k (gV cr))) (.v (.int (mS C al i))) (.o (.l ((List.range i).map λi=>D.int (nV C al i)))) (.v (.int (0+(i:Int)))) (.o (.k (gV ((C.ins.take j).map λx=>(x,look cr x))))) n u d e) ⟨n,rfl⟩ ?_ ?_
    .rintro j x b G ⟨n,rfl⟩;obtain⟨y,hy,rfl⟩:=yP G;have nb:y∉((C.ins.take j).map λx=>(x,look cr x)).map (·.1):=by
      have:=Ks (f:=id) (by simpa using U) hy
      simpa [cG] using this
     refine⟨rfl,_,rfl,rfl,?_⟩;show ∃ c',vB (.k (gV ((C.ins.take j).map λx=>(x,look cr x)))) (.str y) ((pD (gV cr) (Sum.inr y)).getD (.int 0))=some c'/\_;rw[Pd];refine⟨_,J6 nb (by simp;omega),.v (.str y),?_⟩;rw[bI,hy,aZ];rfl
    .rintro b ⟨n,rfl⟩;rw[aB,aO (aH _)];exact B _ ⟨n,rfl⟩
   rintro b ⟨n,rfl⟩;refine kW (λb=>∃ n u d:Sl,b=pB C al w o (.o (.k (gV cr))) (.v (.int (mS C al i))) (.o (.l ((List.range i).map λi=>D.int (nV C al i)))) (.v (.int (0+(i:Int)))) (.o (.k (gV (tbl C.ins C.gates (look cr))))) n u d e) (λN B=>?_) ?_
   .refine rP (C.gates.map qH) _ (λZ h=>⟨rfl,_,rfl,h⟩) (λj b=>∃ n u d:Sl,b=pB C al w o (.o (.k (gV cr))) (.v (.int (mS C al i))) (.o (.l ((List.range i).map λi=>D.int (nV C al i)))) (.v (.int (0+(i:Int)))) (.o (.k (gV (tbl C.ins (C.gates.take j) (look cr))))) n u d e) ⟨n,u,d,rfl⟩ ?_ ?_
    .rintro j x b G ⟨n,u,d,rfl⟩;obtain⟨g,R,rfl⟩:=yP G;obtain⟨aa,ag⟩:=Bh M.good.gt R;have J:=xR C.ins (C.gates.take j) (look cr);have W:=vM (ins:=C.ins) (gs:=C.gates.take j) I;have Y:g.1∉(tbl C.ins (C.gates.take j) (look cr)).map (·.1):=by
      rw[J];have nd:(C.ins++C.gates.map (·.1)).Nodup:=M.good.nd;intro q;obtain⟨_,n2,n3⟩:=bL.mp nd;rcases aV.mp q with q | q
      .exact n3 _ q _ (aJ.mpr ⟨g,aL R,rfl⟩) rfl
      .exact Ks n2 R q
     have X:(tbl C.ins (C.gates.take j) (look cr)).length<100000:=by
      have:=dF List.length J;simp only[aB,bC,bQ] at this;omega
     have step:tbl C.ins (C.gates.take (j+1)) (look cr)=tbl C.ins (C.gates.take j) (look cr)++[(g.1,mx (g.2.2.map λo=>1+look (tbl C.ins (C.gates.take j) (look cr)) o))]:=by
      unfold tbl;rw[bI,R,fQ];rfl
     generalize hT:tbl C.ins (C.gates.take j) (look cr)=t at J W Y X step |-;refine⟨rfl,rfl,?_⟩;unfold Dz dC aC d2 Bm cd;dsimp only;refine⟨by show 1<=1000;decide,?_⟩;refine oB g.2.2 D.str (λo=>.int (1+look t o)) (pB C al w o (.o (.k (gV cr))) (.v (.int (mS C al i))) (.o (.l ((List.range i).map λi=>D.int (nV C al i)))) (.v (.int (0+(i:Int)))) (.o (.k (gV t))) (.v (.str g.1)) (.v (.str g.2.1)) (.v (.t (g.2.2.map D.str))) e) (λZ h=>h) (by rcases aa with q | q | q<;>omega) (λk o ys Nx r F L=>⟨rfl,_,Dq (by rw[J];exact ag o (aL r)),F,L⟩) ?_;refine⟨by show 1+(g.2.2.map _).length<=100000;rw[aB];rcases aa with q | q | q<;>omega,_,El 0 t g.2.2 (1+·),by simp,λm hm S=>⟨rfl,_,J6 Y X,.v (.str g.1),.v (.str g.2.1),.v (.t (g.2.2.map D.str)),?_⟩⟩;have:m=mx (g.2.2.map λo=>1+look t o):=vZ (by simpa using hm) (S 0 (by simp)) λa ha=>S a (aN _ ha)
     rw[step,<- this];rfl
    .rintro b ⟨n,u,d,rfl⟩;rw[aB,aO (aH _)];exact B _ ⟨n,u,d,rfl⟩
   rintro b ⟨n,u,d,rfl⟩;have J:=xR C.ins C.gates (look cr);have W:=vM (ins:=C.ins) (gs:=C.gates) I;have O:Tb C.ins C.gates al i=tbl C.ins C.gates (look cr):=by unfold Tb;rw[ae]
   generalize tbl C.ins C.gates (look cr)=t at J W O |-;have ac:∀ o∈C.outs,o∈t.map (·.1):=λo ho=>by rw[J];exact aY _ (M.og o ho)
   have ab:∀ p∈al,p.1∈t.map (·.1):=λp hp=>ac _ (M.mem p hp).1
   refine kW (λb=>b=pB C al w (.v (sF al)) (.o (.k (gV cr))) (.v (.int (mS C al i))) (.o (.l ((List.range i).map λi=>D.int (nV C al i)))) (.v (.int (0+(i:Int)))) (.o (.k (gV t))) n u d (.o (.l (al.map λ(p:Af×Af)=>D.int (look t p.1))))) (λN B=>?_) ?_
   .unfold rK;refine oB al (λp=>.str p.1) (λp=>.int (look t p.1)) (pB C al w (.v (sF al)) (.o (.k (gV cr))) (.v (.int (mS C al i))) (.o (.l ((List.range i).map λi=>D.int (nV C al i)))) (.v (.int (0+(i:Int)))) (.o (.k (gV t))) n u d e) (λZ h=>?_) (by omega) (λk p ys Nx r F L=>⟨rfl,_,Dq (ab p (aL r)),F,L⟩) (B _ rfl);rcases ho with rfl | rfl<;>exact h
   rintro _ rfl;refine kW (λb=>b=pB C al w (.v (sF al)) (.o (.k (gV cr))) (.v (.int (mS C al (i+1)))) (.o (.l ((List.range i).map λi=>D.int (nV C al i)))) (.v (.int (0+(i:Int)))) (.o (.k (gV t))) n u d (.o (.l (al.map λ(p:Af×Af)=>D.int (look t p.1))))) (λN B=>?_) ?_
   .unfold rK dC aC d2 Bm;refine⟨by show 1<=1000;decide,?_⟩;refine Hi C.outs D.str (λo=>.int (look t o)) (λo=>!(qU (.str o) (al.map λp=>V.str p.1))) (pB C al w (.v (sF al)) (.o (.k (gV cr))) (.v (.int (mS C al i))) (.o (.l ((List.range i).map λi=>D.int (nV C al i)))) (.v (.int (0+(i:Int)))) (.o (.k (gV t))) n u d (.o (.l (al.map λ(p:Af×Af)=>D.int (look t p.1))))) (λZ h=>⟨rfl,_,rfl,h⟩) (by omega) (λk x ys Nx r F L h3=>⟨_,_,rfl,Oi (λp=>rfl) al,?_⟩) ?_
    .have G:x∈C.outs:=aL r;cases q:qU (V.str x) (al.map λp=>V.str p.1) with
     | true=>exact h3 (by rw[q];rfl)
     | false=>exact⟨rfl,_,Dq (ac x G),F,L (by rw[q];rfl)⟩
    .refine⟨by show 1+((C.outs.filter _).map _).length<=100000;have:=List.length_filter_le (λo=>!(qU (.str o) (al.map λp=>V.str p.1))) C.outs;rw[aB];omega,_,El (mS C al i) t (sK C al) id,by simp,λm hm S=>?_⟩;have e1:m=mS C al (i+1):=by
      have F:=Sc C al i;have L:=Vc C al i;have h3:=S _ aG;have el:mS C al (i+1)=mx ((sK C al).map (look t)):=by rw[<- O];rfl
      rw[el] at F |-;refine vZ ?_ (by omega) λa ha=>S a (aN _ ha)
      rcases aF.mp hm with q | q
      .rcases wG ((sK C al).map (look t)) with z | z
       .left;have:mx ((sK C al).map (look t))=m\/True:=.inr trivial;have:mS C al i<=0:=by rw[<- z];exact F
        omega
       .right;have:mx ((sK C al).map (look t))<=m:=S _ (aN _ z);have:m=mx ((sK C al).map (look t)):=by
         have:m<=mx ((sK C al).map (look t)):=by rw[q];exact F
         omega
        rw[this];exact z
      .exact .inr q
     rw[<- e1] at B;exact B _ rfl
   rintro _ rfl;refine kW (λb=>b=pB C al w (.v (sF al)) (.o (.k (gV cr))) (.v (.int (mS C al (i+1)))) (.o (.l ((List.range (i+1)).map λi=>D.int (nV C al i)))) (.v (.int (0+(i:Int)))) (.o (.k (gV t))) n u d (.v (.l (al.map λ(p:Af×Af)=>D.int (look t p.1))))) (λN B=>?_) ?_
   .have ie:qE ([D.int (mS C al (i+1))]++al.map λp=>D.int (look t p.1))=some (mS C al (i+1)::(al.map (·.1)).map (look t)):=by
     have:=El (mS C al (i+1)) t (al.map (·.1)) id
     simpa [cG] using this
    refine⟨rfl,by show 1<=1000;decide,by show 1+(al.map _).length<=100000;rw[aB];omega,_,ie,by simp,λm hm S=>⟨by show ((List.range i).map _).length<100000;simp;omega,?_⟩⟩;have el:mS C al (i+1)=mx ((sK C al).map (look t)):=by rw[<- O];rfl
    have e1:m=nV C al i:=by
     unfold nV Mx;rw[O];refine Zd (ns:=sK C al) (es:=al.map (·.1)) W (λx G=>(hZ.mp G).1) (λx G=>?_) (λx G=>?_) ?_ ?_ λa ha=>S a (aN _ ha)
     .obtain⟨p,hp,rfl⟩:=aJ.mp G;exact (M.mem p hp).1
     .by_cases q:x∈al.map (·.1)
      .exact .inr q
      .refine .inl (hZ.mpr ⟨G,?_⟩);have:=P9 x (al.map (·.1));rw[bZ] at this;have e2:qU (V.str x) (al.map λp=>V.str p.1)=decide (x∈al.map (·.1)):=this;rw[e2,bS q];rfl
     .rw[<- el];exact aF.mp hm
     .rw[<- el];exact S _ aG
    subst e1;refine B _ ?_;rw[gO,aZ];rfl
   rintro _ rfl;unfold rK dC aC;refine oB al nO (λp=>.t [.str p.2,.int (look t p.1)]) (pB C al w (.v (sF al)) (.o (.k (gV cr))) (.v (.int (mS C al (i+1)))) (.o (.l ((List.range (i+1)).map λi=>D.int (nV C al i)))) (.v (.int (0+(i:Int)))) (.o (.k (gV t))) n u d (.v (.l (al.map λ(p:Af×Af)=>D.int (look t p.1))))) (λZ h=>h) (by omega) (λk p ys Nx r F L=>⟨rfl,rfl,rfl,_,Dq (ab p (aL r)),by show 2<=1000;decide,F,L⟩) ?_;refine⟨_,Lb al λp=>look t p.1,by simp[gV];omega,?_⟩;rw[Ax (by simpa [cG] using M.n2)];have:Cr C.ins C.gates al (i+1)=al.map λp=>(p.2,look t p.1):=by
    show pH al (tbl C.ins C.gates (look (Cr C.ins C.gates al i)))=_;rw[show tbl C.ins C.gates (look (Cr C.ins C.gates al i))=t from O];rfl
   rw[<- this];exact⟨_,_,_,_,_,_,_,.inr rfl,rfl⟩
  .rintro b ⟨o,p,t,n,u,d,e,_,rfl⟩;rw[show (nH 0 w).length=w by simp[nH]];exact B _ ⟨o,_,p,t,n,u,d,e,rfl⟩
 .rintro b ⟨o,c,p,t,n,u,d,e,rfl⟩;exact ah
end
def pI (L:Nat->Int) (count ring:Nat) (a:Int):D:=.t [.t ((List.range count).map λi=>D.int (L (i+1))),.int ring,.int a]
theorem F7 (L:Nat->Int) (count ring:Nat) (a:Int):lV (pI L count ring a)=true:=by
 have:oP ((List.range count).map λi=>D.int (L (i+1)))=true:=Lq λy b=>by
  obtain⟨x,_,rfl⟩:=aJ.mp b;rfl
 show (oP ((List.range count).map λi=>D.int (L (i+1)))&&true)=true;rw[this];rfl
theorem Qy (L:Nat->Int) (count ring:Nat) (a:Int):(py (pI L count ring a)).depth<=60:=by
 have e:oN ((List.range count).map λi=>D.int (L (i+1)))=((List.range count).map λi=>L (i+1)).map PyData.int:=by
  have:=yA ((List.range count).map λi=>L (i+1))
  rwa [bZ] at this
 show max (PyData.depthAll (oN ((List.range count).map λi=>D.int (L (i+1))))+1) (max 0 (max 0 0))+1<=60;rw[e,Ej];decide
theorem W8 (neg:Bool) (L:Nat->Int) (count ring:Nat) (a:Int) (h:g (.v (.b (nb neg true)))):xX neg (pI L count ring a) (pI L count ring a) g:=by
 have:lV (pI L count ring a)=true/\lV (pI L count ring a)=true/\min (py (pI L count ring a)).depth (py (pI L count ring a)).depth<=60/\g (.v (.b (nb neg (PyData.eqv (py (pI L count ring a)) (py (pI L count ring a)))))) :=
  ⟨F7 ..,F7 ..,bM (Nat.min_le_left _ _) (Qy ..),by rw[J0 (F7 ..)];exact h⟩
 exact this
theorem Told.count_le {W:Nat}(h:Told L count ring a) (j:0<W) (l:∀ k,s<=k->L (k+W)=L k+y):count<=s+ring:=Nat.le_of_not_lt λz=>by
 have f:=h.r1;have g:∀ k,count<=k->L (k+ring)=L k+a:=λk d=>by
  have:=h.grow (k+ring) (by omega)
  rwa [show k+ring-ring=k by omega] at this
 have:=Nv j l (K:=count) (t:=ring) (q:=ring) (e:=a) (c:=a) (by omega) g (λk b _=>by have:=g k b;omega) (count-ring) (by omega);rw[show count-ring+ring=count by omega] at this;exact h.edge (by omega) this
def Mr:RD:=λd b c=>∃ (L:Nat->Int) (count ring:Nat) (a:Int),b=[.l ((List.range 400).map λi=>D.int (L (i+1)))]/\Told L count ring a/\count<=150/\ring<=12/\c (.v (pI L count ring a))
def C3 (K:kG):Sp:=λe H Q _=>∃ (a:Ad) (c:Aa Int),e=[.ref a]/\eT K H a (c.map V.int)/\c.length<=63/\∀ d,Q (.b true) d
abbrev rR (L:Nat->Int):D:=.l ((List.range 400).map λi=>D.int (L (i+1)))
theorem yL (L:Nat->Int){i:Nat}(h:i<400):lQ ((List.range 400).map λi=>D.int (L (i+1))) (i:Int)=some (.int (L (i+1))):=pV (by rw[bG,hG h];rfl)
theorem Xb (f:Nat->D) (h:j<n):lQ ((List.range n).map f) (-1-(j:Int))=some (f (n-1-j)):=by
 have e:pW ((List.range n).map f).length (-1-(j:Int))=some (n-1-j):=by
  unfold pW;rw[bB (by omega),aB,cF,bA (by omega)]
  congr 1;omega
 unfold lQ;rw[e];show ((List.range n).map f)[n-1-j]?=_;rw[bG,hG (by omega)];rfl
theorem DW:(["k","numbers","ring","more"]:Aa Af).Nodup:=by decide +kernel
section
variable {P:Ah}{K:kG}
theorem zV:FnScope ["numbers","ring","more","many"] ["numbers"] (lJ Ch):=oS
theorem Wh (T:Txt mg):oJ P w K mg base 1 "_law_due" Ch ["numbers"] Mr:=by
 refine pF zV λf l A V s H E dk ds Φ Q F hR=>?_
 obtain⟨L,count,ring,a,rfl,y,hc,Y,S⟩:=hR;refine⟨_,(kR (rB (Bp (by rfl) T.range hI hI) (kX 1 zV.nd) (kR (lG 2 zV.nd (mR oG oX (lI F 0 (tA hI)) (lI F 0 (mR oG oX (tA hI) (eM 1))))) (lU (Dj (uB (zB Q.units) (tT false) (nW ["k"] ["numbers","ring","more"] [0,1,2] (Bp (by rfl) T.range hI hI) (λ_ _ _ _ _=>(kX 0 DW)) (λ_ _ _ _ _=>(eM 0)) (ht:=λ_ _ _ _ _=>(Ng (uB (B6 Q.units) (tT true) (mR oG oX (lI F 1 (eM 0)) (lI F 1 (mO oG oX 0 (eM 2)))) (eM 3))))) (oA gD)) (kR (lG 3 zV.nd hI) (kR (wP dX (zD (Ft (yR Dd Ds (pv 3) (eM 1)) (Fb (uB (zB Q.units) (tT false) (lI F 0 (mO oG oX 3 hI)) (mR mB mC (lI F 0 (mR oG oX (mO oG oX 3 hI) (eM 1))) (eM 2)))))) (lU (lG 3 zV.nd (mO oG oX 3 hI)))) (lU (nS (qL (eH (sI wX wZ T.tuple cT (eH (zZ zY yS (pv 0) Cw (wL (eM 3))) gD)) (eH (eM 1) (eH (eM 2) gD)))))))) Av)))) (lU (nS Wa))),?_⟩;have q1:=y.r1;have q2:=y.rc;refine kW (λd=>False) (λN u=>?_) (λ_ h=>h.elim);refine rP (nH 1 12) [.v (rR L),.n,.n,.n] (λΨ h=>⟨⟨by decide,by decide,by decide,by decide⟩,h⟩) (λi d=>i+1<=ring/\∃ Z g M,d=[.v (rR L),Z,g,M]) ⟨by omega,.n,.n,.n,rfl⟩ ?_ (λd h=>by
  have:=h.1;rw[show (nH 1 12).length=12 by simp[nH]] at this;omega)
 rintro i x d R ⟨hi,Z,g,M,rfl⟩;obtain⟨ac,rfl⟩:=xG R;have W:(1:Int)+(i:Nat)=((i+1:Nat):Int):=by omega
 rw[W];generalize aa:i+1=r at hi W;have r1:1<=r:=by omega
 have ae:r<=12:=by omega
 obtain⟨m,X⟩:∃ m,m=L 400-L (400-r):=⟨_,rfl⟩;refine kW (λd=>d=[.v (rR L),.v (.int (r:Nat)),.v (.int m),M]) (λN u=>?_) ?_
 .have G:=xD (λi=>D.int (L (i+1))) 399;have B:=Xb (λi=>D.int (L (i+1))) (n:=400) (j:=r) (by omega);rw[show 400-1-r+1=400-r by omega] at B;refine⟨rfl,_,G,rfl,_,B,u _ ?_⟩;rw[X];rfl
 rintro _ rfl;have pass:ring=r->∀ k,160<=k->k<400->L (k+1)-L (k+1-r)=m:=λe k k1 k2=>by
  subst e;have g1:=y.grow (k+1) (by omega);have g2:=y.grow 400 (by omega);omega
 unfold Nm xN d2;refine Hi (List.range 240) (λx=>.int (160+(x:Nat))) (λx=>.int (160+(x:Nat))) (λx=>decide (L (160+x+1)-L (160+x+1-r)≠m)) [.v (rR L),.v (.int (r:Nat)),.v (.int m),M] (λΨ h=>⟨⟨by decide,by decide,by decide,by decide⟩,h⟩) (by decide) (λj x ys Nx e I J U=>?_) ?_
 .have ab:x<240:=cH.mp (aL e);have G:lQ ((List.range 400).map λi=>D.int (L (i+1))) ((160:Int)+(x:Nat))=some (.int (L (160+x+1))):=yL L (i:=160+x) (by omega);have B:lQ ((List.range 400).map λi=>D.int (L (i+1))) ((160:Int)+(x:Nat)-(r:Nat))=some (.int (L (160+x+1-r))):=by
   have:=yL L (i:=160+x-r) (by omega);rw[show ((160+x-r:Nat):Int)=(160:Int)+(x:Nat)-(r:Nat) by omega,show 160+x-r+1=160+x+1-r by omega] at this;exact this
  refine⟨rfl,_,G,rfl,rfl,_,B,?_⟩;show if (nb true (decide (L (160+x+1)-L (160+x+1-r)=m)))=true then _ else _
  by_cases z:L (160+x+1)-L (160+x+1-r)=m
  .rw[cV z];exact U (by simp[z])
  .rw[bS z];exact⟨I,J (by simp[z])⟩
 .refine⟨by show 0<=1000;decide,?_⟩;show if (nb false (((List.range 240).filter λx=>decide (L (160+x+1)-L (160+x+1-r)≠m)).map λx=>D.int (160+(x:Nat))).isEmpty)=true then _ else _
  by_cases z:ring=r
  .subst z;have C:((List.range 240).filter λx=>decide (L (160+x+1)-L (160+x+1-ring)≠m))=[]:=List.filter_eq_nil_iff.mpr λx R=>by
    have:=pass rfl (160+x) (by omega) (by have:=cH.mp R;omega);simp[this]
   rw[C];have o:m=a:=by
    have:=y.grow 400 (by omega);rw[X];omega
   subst o;rw[bA (show nb false (List.map (λx:Nat=>D.int (160+(x:Nat))) []).isEmpty=true from rfl)];refine kW (λd=>d=[.v (rR L),.v (.int (ring:Nat)),.v (.int m),.v (.int ((160:Nat):Int))]) (λN u=>u _ rfl) ?_;rintro _ rfl;refine kW (λd=>d=[.v (rR L),.v (.int (ring:Nat)),.v (.int m),.v (.int (count:Nat))]) (λN u=>?_) ?_
   .refine Df 200 (λd=>match d with | [_,_,_,.v (.int c)]=>160-c.toNat | _=>0) (λn d=>count+n<=160/\d=[.v (rR L),.v (.int (ring:Nat)),.v (.int m),.v (.int ((160-n:Nat):Int))]) (λn d h=>?_) 0 ⟨by omega,rfl⟩ λn d N2 h O=>?_
    .rw[h.2];show 160-(((160-n:Nat):Int)).toNat=n;have:=h.1;omega
    obtain⟨hn,rfl⟩:=h;refine⟨rfl,?_⟩;show if decide (((ring:Nat):Int)<((160-n:Nat):Int))=true then _ else _
    by_cases lt:((ring:Nat):Int)<((160-n:Nat):Int)
    .refine Ey lt ?_;have G:lQ ((List.range 400).map λi=>D.int (L (i+1))) (((160-n:Nat):Int)-1)=some (.int (L (160-n))):=by
      have:=yL L (i:=160-n-1) (by omega);rw[show ((160-n-1:Nat):Int)=((160-n:Nat):Int)-1 by omega,show 160-n-1+1=160-n by omega] at this;exact this
     have B:lQ ((List.range 400).map λi=>D.int (L (i+1))) (((160-n:Nat):Int)-1-(ring:Nat))=some (.int (L (160-n-ring))):=by
      have:=yL L (i:=160-n-1-ring) (by omega);rw[show ((160-n-1-ring:Nat):Int)=((160-n:Nat):Int)-1-(ring:Nat) by omega,show 160-n-1-ring+1=160-n-ring by omega] at this;exact this
     refine⟨rfl,rfl,_,G,rfl,rfl,_,B,?_⟩;show if (nb false (decide (L (160-n)=L (160-n-ring)+m)))=true then _ else _
     by_cases z:count=160-n
     .have:=y.edge (by omega);rw[<- z,bS this];exact u _ rfl
     .have:=y.grow (160-n) (by omega);rw[cV this];refine⟨rfl,O (by omega) _ ⟨by omega,?_⟩⟩;rw[show ((160-(n+1):Nat):Int)=((160-n:Nat):Int)-1 by omega];rfl
    .refine Es lt ?_;have:count=160-n:=by omega
     rw[this] at u;exact u _ rfl
   rintro _ rfl;have p:nK ((List.range 400).map λi=>D.int (L (i+1))) none (some ((count:Nat):Int))=(List.range count).map λi=>D.int (L (i+1)):=by
    rw[Ny,List.take_range,kE (by omega)]
   refine⟨rfl,by show 3<=1000;decide,?_⟩;show Φ (.v (.t [.t (nK ((List.range 400).map λi=>D.int (L (i+1))) none (some ((count:Nat):Int))),.int (ring:Nat),.int m]));rw[p];exact S
  .have ne:((List.range 240).filter λx=>decide (L (160+x+1)-L (160+x+1-r)≠m))≠[]:=λq=>by
    refine y.least r (161-r) m r1 (by omega) (by omega) λk k1 k2=>?_
    have:=List.filter_eq_nil_iff.mp q (k+r-161) (cH.mpr (by omega));simp at this;rw[show 160+(k+r-161)+1=k+r by omega,show k+r-r=k by omega] at this;exact this
   have:(((List.range 240).filter λx=>decide (L (160+x+1)-L (160+x+1-r)≠m)).map λx=>D.int (160+(x:Nat))).isEmpty=false:=by
    cases q:((List.range 240).filter λx=>decide (L (160+x+1)-L (160+x+1-r)≠m)) with
    | nil=>exact absurd q ne
    | cons a b=>rfl
   rw[this];exact⟨by omega,_,_,_,rfl⟩
theorem vR:FnScope ["script","deck","turn","row","numbers","found","width"] ["script"] (lJ N6):=oS
theorem Q3 (F:Fun K "law" "law" N6 f fd) (T:Txt mg) (g:Gd K mg "_law_deck" A2 ["script"] fD af)
  (l:Kn P w K mg base 1 "_law_take" vA ["deck","many"] Ep) (U:Kn P w K mg base 2 "_law_loops" Cz ["deck"] N0) (J:Kn P w K mg base 4 "_law_looped" Dv ["deck","loops"] Oq) (I:Kn P w K mg base 1 "_law_latest" C6 ["row","widths"] Je) (ae:Kn P w K mg base 6 "ways" Cs ["row"] Op) (ab:Kn P w K mg base 1 "_law_due" Ch ["numbers"] Mr) (ac:Kn P w K mg base 4 "latest" Bl ["row","width"] Lj)
  (aa:FnOk P w K mg base mH 1 fD af ["script"] (K7 K)) :
  FnOk P w K mg base mH 7 f fd ["script"] (C3 K):=by
 refine F.ok vR (λvs H Q E h=>?_) (λak A ah s H vs Q E z h=>?_)
 .obtain⟨a,ns,rfl,_⟩:=h;rfl
 .obtain⟨a,ns,rfl,hS,Y,hQ⟩:=h;have hu:=M5 z;have ag:Room 1 _:=z.mono (by decide);refine Of _ (nI (i:=1) vR.nd rfl (Or.inl rfl) (rQ aa ag rfl g.m g.k g.b .nil qS (lC (pv 0) lO))) ?_;refine⟨_,rfl,a,ns,rfl,hS,Y,λd c H1 D1 _ _ _=>?_⟩;refine⟨_,(kR (rB (yQ (by rfl) T.range hI) (kX 2 vR.nd) (kR (lG 3 vR.nd (mP J z (eH (eM 1) (eH (mP U z (eH (eM 1) gD)) gD)))) (kR (lG 4 vR.nd (mP I z (eH (eM 3) (eH hI gD)))) (kR (lG 5 vR.nd (mP ae z (eH (eM 3) gD))) (kR (Dj (zD (Hz (Gg (Ap (nN (Li _) L6 T.isinstance jP (eH (eM 5) (eH (J9 (by rfl) T.tuple cT) gD))))) (Hz (yR (B6 z.units) (tT true) (pv 5) (mP ab z (eH (eM 4) gD))) (Kg (Gg (Ap (nN (Li _) L6 T.isinstance jP (eH (lI hu 5 hI) (eH (J9 (by rfl) T.tuple cT) gD))))))))) (lU (nS Fl)) Av) (lU (rB (nG (oA (eH (mR mB mC hI (mP l z (eH (eM 1) (eH hI gD)))) (eH (mR mB mC hI (mP l z (eH (eM 1) (eH hI gD)))) gD)))) (kX 6 vR.nd) (lU (Dj (uB (B6 z.units) (tT true) (mP ac z (eH (eM 3) (eH (eM 6) gD))) (lI hu 4 (mO oG oX 6 hI))) (lU (nS Fl)) Av))))))))) (lU (nS Fl))),⟨[d,c],λ_=>False,H1⟩,[.n,.v (.r (.ref d)),.n,.n,.n,.n,.n],[],{ nx:=λ_=>False,rt:=λr=>r = .v (.b true) },rfl,?_,?_,?_,?_⟩
  .refine⟨λb o e _=>e,.inr ⟨d,c,rfl,D1⟩,List.nodup_nil,λb hb=>absurd hb bE,λp hp=>?_⟩;have hp:p∈[((Sl.n:Sl),some (V.ref a)),(.v (.r (.ref d)),some (V.ref d)),(.n,none),(.n,none),(.n,none),(.n,none),(.n,none)]:=hp;simp only[aF,bE,eP] at hp;rcases hp with rfl | rfl | rfl | rfl | rfl | rfl | rfl<;>first | trivial | exact⟨_,rfl,.r _⟩
  .refine kW (λq=>∃ Z s3 S O u,q=[.n,.v (.r (.ref d)),Z,s3,S,O,u]) (λN M=>?_) ?_
   .refine rP (nH 0 2) [.n,.v (.r (.ref d)),.n,.n,.n,.n,.n] (λΨ h=>⟨by decide,by decide,h⟩) (λi q=>∃ Z s3 S O u,q=[.n,.v (.r (.ref d)),Z,s3,S,O,u]) ⟨_,_,_,_,_,rfl⟩ ?_ (λq h=>M q h);rintro i x q t ⟨Z,s3,S,O,u,rfl⟩;obtain⟨i2,rfl⟩:=xG t;refine kW (λq=>∃ (G:LP) (L:Aa Af),LpOk G/\L.length=dK G+(kL G).length/\L.Nodup/\(∀ x∈L,GoodName x)/\q=[.n,.v (.r (.ref d)),.v (.int (0+(i:Nat))),.v (mE (kQ L G) (lN L G)),S,O,u]) (λN M=>⟨d,c,rfl,rfl,λG ok=>⟨.inl rfl,d,c,G,rfl,rfl,ok,λL lx nd gn=>⟨.inl rfl,M _ ⟨G,L,ok,lx,nd,gn,rfl⟩⟩⟩⟩) ?_;rintro _ ⟨G,L,ok,lx,nd,gn,rfl⟩;have X:=C9 ok lx nd gn;obtain⟨y,hy⟩:=Rl ok lx nd gn;generalize kQ L G=C at X hy |-;generalize lN L G=al at X hy |-;refine kW (λq=>q=[.n,.v (.r (.ref d)),.v (.int (0+(i:Nat))),.v (mE C al),.v (rR (lT C al)),O,u]) (λN M=>⟨C,al,400,rfl,X,by decide,.inl rfl,M _ rfl⟩) ?_;rintro _ rfl;refine kW (λq=>∃ (count ring:Nat) (a:Int),Told (lT C al) count ring a/\ring<=12/\q=[.n,.v (.r (.ref d)),.v (.int (0+(i:Nat))),.v (mE C al),.v (rR (lT C al)),.v (pI (lT C al) count ring a),u]) (λN M=>⟨C,al,rfl,X,λcount ring a hT hc B=>⟨.inl rfl,M _ ⟨count,ring,a,hT,B,rfl⟩⟩⟩) ?_;rintro _ ⟨count,ring,a,hT,B,rfl⟩;have an:=hT.count_le (W:=12) (by decide) hy;have key:∀ R:Sl->Prop,R (.v (.b false))->xX true (pI (lT C al) count ring a) (pI (lT C al) count ring a) R:=λR h=>W8 true _ _ _ _ h
    refine kW (λq=>q=[.n,.v (.r (.ref d)),.v (.int (0+(i:Nat))),.v (mE C al),.v (rR (lT C al)),.v (pI (lT C al) count ring a),u]) (λN M=>?_) ?_
    .refine⟨"tuple",true,rfl,rfl,rfl,_,rfl,rfl,lT C al,count,ring,a,rfl,hT,by omega,B,.inl rfl,?_⟩;refine key _ ?_;refine⟨rfl,_,rfl,"tuple",true,rfl,rfl,rfl,_,rfl,?_⟩;exact M _ rfl
    rintro _ rfl;unfold Gf iV;refine⟨d,c,40,rfl,rfl,by decide,by decide,λr1 q1=>⟨.inl rfl,d,c,40,rfl,rfl,by decide,by decide,λr2 q2=>⟨.inl rfl,by show 2<=1000;decide,?_⟩⟩⟩;refine⟨λj q=>∃ u,q=[.n,.v (.r (.ref d)),.v (.int (0+(i:Nat))),.v (mE C al),.v (rR (lT C al)),.v (pI (lT C al) count ring a),u],⟨_,rfl⟩,?_,?_⟩
    .rintro j x q t ⟨u,rfl⟩;obtain⟨v,hv,rfl⟩:∃ v:Nat,v<40/\x = .int (1+(v:Int)):=by
      have t:[D.int (1+(r1:Int)),.int (1+(r2:Int))][j]?=some x:=t
      match j,t with
      | 0,t=>simp at t;exact⟨r1,by omega,t.symm⟩
      | 1,t=>simp at t;exact⟨r2,by omega,t.symm⟩
      | j+2,t=>simp at t
     have a1:lQ ((List.range 400).map λi=>D.int (lT C al (i+1))) (1+(v:Int)-1)=some (.int (lT C al (v+1))):=by
      rw[show (1+(v:Int)-1)=((v:Nat):Int) by omega];exact yL _ (by omega)
     have ev:(1+(v:Int))=((v+1:Nat):Int):=by omega
     rw[ev] at a1 |-;refine⟨C,al,v+1,rfl,X,by omega,.inl rfl,rfl,rfl,_,a1,?_⟩;show if (nb true (decide (lT C al (v+1)=lT C al (v+1))))=true then _ else _
     rw[cV rfl];exact⟨_,rfl⟩
    .rintro q ⟨u,rfl⟩;exact⟨_,_,_,_,_,rfl⟩
   rintro _ ⟨Z,s3,S,O,u,rfl⟩;exact rfl
  .intro ai aj H' _ _ _;exact⟨False.elim,False.elim,False.elim⟩
  .rintro r v ai aj H' _ d1 rfl;obtain rfl:=d1.valAt.bl_inv;exact hQ H'
end
def DF (K:kG) (x:Af) (st:Stmt):Prop:=∃ (f:Ad) (e a:Ab Ad) (h:Array (Ab Ac)) (d kV c pm cd b:Ac),PySem.W.nsIn K mainGlobals x=some (some (.ref f))/\K.lookup f=some ⟨d,e,.func (PySem.W.fnOf x x (rF st) (pP st) (lJ st) .none kV c pm a cd b),h⟩/\PySem.W.codeIn K cd x=true/\PySem.W.keepIn K (.ref f)=true
def NZ (K:kG) (x:Af):Prop:=PySem.W.nsIn K mainGlobals x=some none
theorem df_mk {K:kG}{st:Stmt}{kV cd:Ac}(a:PySem.W.nsIn K mainGlobals x=some (some (.ref f))) (l:K.lookup f=some ⟨p,r,.func (PySem.W.fnOf x x (rF st) (pP st) (lJ st) .none kV o pm g cd j),C⟩) (c:PySem.W.codeIn K cd x=true) (k:PySem.W.keepIn K (.ref f)=true):DF K x st:=⟨f,r,g,C,p,kV,o,pm,cd,j,a,l,c,k⟩
theorem Ay {K:kG}{st:Stmt}(o:Aa Af) (X:K.In h) (G:h.Ns mainGlobals J) (d:DF K x st)
  (I:∀ (kV j pm:Ac) (r:Ab Ad) (g C:Ac) (p:Aa Ac),p.length=o.length->bindArgs (PySem.W.fnOf x x (rF st) (pP st) (lJ st) .none kV j pm r g C) ⟨p,[]⟩=pure (o.zip p)):∃ f fd,Gd K J x st o f fd:=by
 obtain⟨f,i,r,m,e,kV,b,pm,cd,C,a,l,c,k⟩:=d;have F:=Ov (st:=st) l c k;exact⟨f,_,F,PySem.W.mg_of X G a,k,F.binds I⟩
theorem Xr {K:kG}{st:Stmt}(X:K.In h) (G:h.Ns mainGlobals j) (d:DF K x st) (g:∀ a b c d e f,bindArgs (PySem.W.fnOf x x (rF st) (pP st) (lJ st) .none a b c d e f) ⟨[],[]⟩=pure []:=by intros;rfl):∃ f fd,Gd K j x st [] f fd :=
 Ay [] X G d λa b c d e f k i=>by rcases k with _ | _<;>first | exact g a b c d e f | cases i
theorem wE {K:kG}{st:Stmt}(j:Af) (X:K.In h) (G:h.Ns mainGlobals o) (d:DF K x st) (l:∀ a b c d e f g,bindArgs (PySem.W.fnOf x x (rF st) (pP st) (lJ st) .none a b c d e f) ⟨[g],[]⟩=pure [(j,g)]:=by intros;rfl):∃ f fd,Gd K o x st [j] f fd :=
 Ay [j] X G d λa b c d e f k i=>by rcases k with _ | ⟨g,_ | _⟩<;>first | exact l a b c d e f g | cases i
theorem sA {K:kG}{st:Stmt}(l o:Af) (X:K.In h) (G:h.Ns mainGlobals r) (d:DF K x st) (p:∀ a b c d e f g j,bindArgs (PySem.W.fnOf x x (rF st) (pP st) (lJ st) .none a b c d e f) ⟨[g,j],[]⟩=pure [(l,g),(o,j)]:=by intros;rfl):∃ f fd,Gd K r x st [l,o] f fd :=
 Ay [l,o] X G d λa b c d e f k i=>by rcases k with _ | ⟨g,_ | ⟨j,_ | _⟩⟩<;>first | exact p a b c d e f g j | cases i
theorem Gz {K:kG}{st:Stmt}(o p r:Af) (X:K.In h) (G:h.Ns mainGlobals I) (d:DF K x st) (C:∀ a b c d e f g j l,bindArgs (PySem.W.fnOf x x (rF st) (pP st) (lJ st) .none a b c d e f) ⟨[g,j,l],[]⟩=pure [(o,g),(p,j),(r,l)]:=by intros;rfl):∃ f fd,Gd K I x st [o,p,r] f fd :=
 Ay [o,p,r] X G d λa b c d e f k i=>by rcases k with _ | ⟨g,_ | ⟨j,_ | ⟨l,_ | _⟩⟩⟩<;>first | exact C a b c d e f g j l | cases i
theorem all_mk {l:PySem.W.OpenLaw}{K:kG}(X:K.In h) (G:h.Ns mainGlobals mg) (a4:mg "law" = some (.ref fa))
  (d1:DF K "carried_inputs" Bk)
  (d2:DF K "latest" Bl)
  (d3:DF K "ways" Cs)
  (d4:DF K "common_ring" C1)
  (d5:DF K "lates_to" xW)
  (d6:DF K "at_edges" xV)
  (d7:DF K "one_cell_more" wN)
  (d8:DF K "told_lates" Cf)
  (d9:DF K "steady_from" A5)
  (ak:DF K "are_steady" Aw)
  (ao:DF K "adds_always" Dg)
  (aq:DF K "more_by" Cq)
  (ar:DF K "_law_deck" A2)
  (au:DF K "_law_take" vA)
  (av:DF K "_law_kept" xS)
  (aw:DF K "_law_made_names" C0)
  (ax:DF K "_law_names" Bo)
  (ay:DF K "_law_latest" C6)
  (az:DF K "_law_loops" Cz)
  (a0:DF K "_law_led" Bn)
  (a1:DF K "_law_looped" Dv)
  (a2:DF K "_law_due" Ch)
  (a3:DF K "law" yZ)
  (z1:NZ K "len")
  (z2:NZ K "range")
  (z3:NZ K "sum")
  (z4:NZ K "min")
  (z5:NZ K "max")
  (z6:NZ K "tuple")
  (z7:NZ K "list")
  (z8:NZ K "set")
  (z9:NZ K "dict")
  (a5:NZ K "int")
  (a6:NZ K "str")
  (a7:NZ K "zip")
  (a8:NZ K "enumerate")
  (a9:NZ K "all")
  (ba:NZ K "any")
  (bb:NZ K "isinstance")
  (bc:NZ K "sorted")
  (bd:NZ K "abs")
  (be:NZ K "reversed")
  (bf:NZ K "bool")
  : ∃ fd:FuncData,(∀ (s:Ae) (v:Ac),BindsTo s fd ⟨[v],[]⟩ [("script",v)])/\∀ base:Ag,K.In base->base.Ns mainGlobals mg->FnOk l.prog w K mg base mH 7 fa fd ["script"] (C3 K):=by
 obtain⟨f1,e1,d⟩:=wE "row" X G d1;obtain⟨f2,e2,ag⟩:=sA "row" "width" X G d2;obtain⟨f3,e3,ai⟩:=wE "row" X G d3;obtain⟨f4,e4,A⟩:=wE "count" X G d4;obtain⟨f5,e5,J⟩:=sA "row" "width" X G d5;obtain⟨f6,e6,I⟩:=wE "row" X G d6;obtain⟨f7,e7,m⟩:=sA "row" "state" X G d7;obtain⟨f8,e8,P⟩:=sA "cell" "carried" X G d8;obtain⟨f9,e9,D⟩:=sA "row" "ring" X G d9;obtain⟨bw,bg,M⟩:=sA "row" "states" X G ak;obtain⟨bx,bh,z⟩:=Gz "row" "state" "added" X G ao;obtain⟨bz,bi,ab⟩:=Gz "state" "added" "times" X G aq;obtain⟨b0,bj,n⟩:=wE "script" X G ar;obtain⟨b1,bm,q⟩:=sA "deck" "many" X G au;obtain⟨b2,bn,U⟩:=Xr X G av;obtain⟨b3,bo,e⟩:=sA "deck" "many" X G aw;obtain⟨b4,bp,j⟩:=sA "deck" "many" X G ax;obtain⟨b5,bq,N⟩:=sA "row" "widths" X G ay;obtain⟨b6,br,Z⟩:=wE "deck" X G az;obtain⟨b7,bt,B⟩:=Gz "rows" "part" "many" X G a0;obtain⟨b8,bu,O⟩:=sA "deck" "loops" X G a1;obtain⟨b9,bv,aa⟩:=wE "numbers" X G a2;obtain⟨f,od,an,sl,oc,kV,dc,pm,cd,ct,a,lk,c,k⟩:=a3;cases a4.symm.trans (PySem.W.mg_of X G a);have FL:=Ov (st:=yZ) lk c k;refine⟨PySem.W.fnOf "law" "law" (rF yZ) (pP yZ) (lJ yZ) .none kV dc pm an cd ct,λs v=>.of_eq rfl,λbase _ _=>?_⟩;have T:Txt mg:=⟨bF X G z1,bF X G z2,bF X G z3,bF X G z4,bF X G z5,bF X G z6,bF X G z7,bF X G z8,bF X G z9,bF X G a5,bF X G a6,bF X G a7,bF X G a8,bF X G a9,bF X G ba,bF X G bb,bF X G bc,bF X G bd,bF X G be,bF X G bf⟩;have C:∀ {k x st ps R f fd},Gd K mg x st ps f fd->oJ l.prog w K mg base k x st ps R->Kn l.prog w K mg base k x st ps R:=λg o=>⟨_,_,g,o _ _ g.F⟩
 have y:=C q λ_ _ F=>Zt (G3 F T)
 have r:=C j λ_ _ F=>DL (Qt F T q U e)
 have i:=C d (BK T);have t:=C I (Vh T);have Y:=C P (Xh T);have b:=C m (Wo T i Y);have u:=C J (X7 T t b);have ah:=C ag (W9 T u);have af:=b.mono (R':=C8) λ_ _ _=>Sq
 have H:=C A (DJ T);have ae:=C ab (Zp T);have E:=C z (Vs T af ae);have Q:=C M (Uz T E);have L:=C D (S9 T t af Q);have aj:=C ai (X9 T H L u);have p:=C Z (Va T y);have V:=C O (S7 T B (Qi B.F T) r);have S:=C N (Tz T);have ac:=C aa (Wh T);exact Q3 FL T n y p V S aj ac ah (BF n.F T)
theorem walk {l:PySem.W.OpenLaw}{q:Ah}{g:Aa Af}{C:(Af->Ab Ac)->Ag->Prop}{p:World->Ag->Prop}{d:DefRec}{K:Params->kG}(J:l.most=some 63) (o:d.params.defaults=[])
  (I:∀ (w:World) (h:Ag),p w h->(K w.params).In h)
  (F:∀ (w:World) (j:Af->Ab Ac) (r:Ad) (h:Ag),(K w.params).In h->h.Ns mainGlobals j->j d.name=some (.ref r) ->∃ fd:FuncData,(∀ (s:Ae) (u:Ac),BindsTo s fd ⟨[u],[]⟩ [("script",u)])/\∀ base:Ag,(K w.params).In base->base.Ns mainGlobals j->FnOk l.prog w (K w.params) j base mH 7 r fd ["script"] (C3 (K w.params))) :
  PySem.W.WalkO q g C p l.row.toRowW d [] (λf T=>PySem.call f T) :=
 L2.walk_of (n:=63) (k:=7) (x := "script") (CX:=λ_=>mH) (sp:=λw=>C3 (K w.params)) J (by decide) o ⟨rfl,by decide,by decide⟩ I F (λ_ _ a e c _ b=>⟨a,e,rfl,b,c,λ_=>rfl⟩) λ_ _ _ _ _ z=>z
end Lw
namespace PySem.W.Fast
theorem tw14041247299846235897:True:=⟨⟩
theorem tw6108598802791729072:True:=⟨⟩
theorem tw4802501658477586092:True:=⟨⟩
theorem tw9483104325051742734:True:=⟨⟩
theorem tw8222497942285409954:True:=⟨⟩
theorem tw2379222636021170403:True:=⟨⟩
theorem tw10690050294413143216:True:=⟨⟩
theorem tw9788718926918832936:True:=⟨⟩
theorem tw11770083207720360804:True:=⟨⟩
theorem tw8932789512540080727:True:=⟨⟩
theorem tw2995990341822818657:True:=⟨⟩
theorem tw16943395635281533124:True:=⟨⟩
theorem tw7446524343250943517:True:=⟨⟩
theorem tw11671983542152528161:True:=⟨⟩
theorem tw11613041114452919245:True:=⟨⟩
theorem tw10098831865353067002:True:=⟨⟩
theorem tw8153094307379690110:True:=⟨⟩
theorem tw5109890877503226889:True:=⟨⟩
theorem tw8010554544133605241:True:=⟨⟩
theorem tw4358181071422594391:True:=⟨⟩
theorem tw8373617121462165706:True:=⟨⟩
theorem tw13929082809279495825:True:=⟨⟩
theorem tw16201077981696527324:True:=⟨⟩
theorem tw10598418945967104400:True:=⟨⟩
theorem tw415943657512762612:True:=⟨⟩
theorem tw3437137767504208407:True:=⟨⟩
theorem tw15091787168587771845:True:=⟨⟩
theorem tw12455939632467803655:True:=⟨⟩
theorem tw2253910093220394245:True:=⟨⟩
theorem tw8794102127261303340:True:=⟨⟩
theorem tw4162803421253244051:True:=⟨⟩
theorem tw10499198338290255732:True:=⟨⟩
theorem tw13984010122645241588:True:=⟨⟩
theorem tw12612296590657459080:True:=⟨⟩
theorem tw14948503254310309449:True:=⟨⟩
theorem tw8344235096631136344:True:=⟨⟩
theorem tw7240629188302598895:True:=⟨⟩
theorem tw5297131623611510627:True:=⟨⟩
theorem tw4755496567960916839:True:=⟨⟩
theorem tw13469562376318185548:True:=⟨⟩
theorem tw5935162683196184840:True:=⟨⟩
theorem tw4925393898033692190:True:=⟨⟩
theorem tw10892462227818248830:True:=⟨⟩
theorem tw534180636366893204:True:=⟨⟩
theorem tw1800525628351557831:True:=⟨⟩
theorem tw10268702778297377353:True:=⟨⟩
theorem tw8347540477223801579:True:=⟨⟩
theorem tw17143014282495962682:True:=⟨⟩
theorem tw5074064906020065325:True:=⟨⟩
theorem tw2070049441766519737:True:=⟨⟩
theorem tw2511880394185375009:True:=⟨⟩
theorem tw18157203336591237778:True:=⟨⟩
theorem tw15659260074465481935:True:=⟨⟩
theorem tw4167208890593479968:True:=⟨⟩
theorem tw2918809091230408786:True:=⟨⟩
end PySem.W.Fast
open PySem PySem.W PyProof.Rows
set_option maxRecDepth 100000 in
set_option maxHeartbeats 0 in
theorem PySem.Challenge.cw_laidcells_k30_whole_ways_of_loops_holds : PySem.Challenge.rw_laidcells_k30_whole_ways_of_loops.Holds := by
 w_on;o_law;k_head;(case hw=>w_witness2)
 k_fill
 refine Lw.walk (l:=PySem.Challenge.rw_laidcells_k30_whole_ways_of_loops) rfl rfl (fun w h Y=>PySem.W.kIn_of Y) ?F
 case F =>
  intro w mg fa h KX G hmg;refine' Lw.all_mk KX G hmg ?_ ?_ ?_ ?_ ?_ ?_ ?_ ?_ ?_ ?_ ?_ ?_ ?_ ?_ ?_ ?_ ?_ ?_ ?_ ?_ ?_ ?_ ?_ ?_ ?_ ?_ ?_ ?_ ?_ ?_ ?_ ?_ ?_ ?_ ?_ ?_ ?_ ?_ ?_ ?_ ?_ ?_ ?_
  all_goals try refine' Lw.df_mk ?_ ?_ ?_ ?_
  all_goals try unfold Lw.NZ
  all_goals try first | k_is | (dsimp only;k_is)
