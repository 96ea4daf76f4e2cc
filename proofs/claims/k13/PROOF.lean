import PyProof.Rows.All
import Wide.All
import OpenK.AllK
import Wide.FinOn
import Lean
import PyProof.EqAt
import PyProof.EqKinds
import PyProof.TupleCall
import PyProof.StationsW
import PyProof.Commute
import PyProof.ExcClass3
import PyProof.ExcInit
import OpenK.KCls
import OpenK.KMake
import PyProof.ExcArgsOwn
import PyProof.InstStoreFacts
import PyProof.MaxThree
import KE.KMinKey
import KE.KIntText
import PyProof.DictUpdate
import PyProof.Draws
import PyProof.EnumMake
import PyProof.DictIter
import KE.KDictSum
import KE.KRevSl
import PyProof.Rows.SortStr
import PyProof.Rows.SortWalk
import PyProof.DictValues
import PyProof.DictWalks
import PyProof.MeetsDictList
import KE.KSortTup
import PySem.Challenge.RW_laidcells_k13_whole_rows_laid_in_parts
set_option Elab.async false
set_option linter.all false
set_option compiler.extract_closed false
set_option maxRecDepth 100000
set_option maxHeartbeats 20000000
noncomputable section
abbrev Aa:=@List
abbrev Ab:=@Option
abbrev Ac:=@PySem.Value
abbrev Ad:=@PySem.Addr
abbrev Ae:=@PySem.Shared
abbrev Af:=@PySem.Str
abbrev Ag:=@PySem.Heap
abbrev Ah:=@PySem.Program
abbrev lL:=PySem.W.Frag
abbrev aA:=@List.length_map
abbrev aB:=@PySem.wpAny_bind
abbrev aE:=@List.mem_map
abbrev aF:=@List.map_map
abbrev aG:=@PySem.wpAny_pure
abbrev aH:=@List.mem_cons_self
abbrev aI:=@List.mem_cons
abbrev aJ:=@List.mem_append_right
abbrev aK:=@PySem.Heap.get?_push_of_some
abbrev aL:=@List.mem_append_left
abbrev aM:=@List.mem_cons_of_mem
abbrev aN:=@if_neg
abbrev aO:=@List.mem_of_getElem?
abbrev aP:=@List.map_cons
abbrev aQ:=@List.getElem?_eq_getElem
abbrev aR:=@List.map_append
abbrev aT:=@if_pos
abbrev aU:=@List.getElem?_eq_some_iff
abbrev aV:=@List.mem_append
abbrev aW:=@Nat.le_refl
abbrev aX:=@List.size_toArray
abbrev aY:=@PySem.Heap.lt_size
abbrev aZ:=@List.mem_singleton
abbrev bA:=@PySem.Heap.get?_push_size
abbrev bB:=@List.nodup_append
abbrev bC:=@List.getElem?_map
abbrev bD:=@Nat.lt_of_lt_of_le
abbrev bF:=@PySem.F.plainAttrs_list
abbrev bG:=@Bool.false_ne_true
abbrev bH:=@Nat.ne_of_lt
abbrev bI:=@List.take_of_length_le
abbrev bJ:=@List.not_mem_nil
abbrev bK:=@List.length_append
abbrev bL:=@List.map_congr_left
abbrev bM:=@List.append_assoc
abbrev bN:=@Option.some.inj
abbrev bO:=@PySem.F.slot_list_append
abbrev bP:=@PySem.F.type_list_append
abbrev bQ:=@PyProof.Rows.boot_tuple
abbrev bR:=@decide_eq_false
abbrev bS:=@List.length_cons
abbrev bT:=@List.mem_filter
abbrev bU:=@List.length_set
abbrev bV:=@PyProof.Rows.boot_dict
abbrev bW:=@PySem.W.mg_none_of
abbrev bX:=@PySem.wpAny_holding
abbrev bY:=@congrArg
abbrev bZ:=@List.length_take
abbrev cA:=@PySem.wpAny_callSpecial?_slot
abbrev cB:=@decide_eq_true
abbrev cC:=@PySem.boot_len
abbrev cD:=@List.nodup_cons
abbrev cE:=@PySem.Heap.size_push
abbrev cF:=@Int.toNat_natCast
abbrev cG:=@List.all_eq_true
abbrev cH:=@Nat.lt_of_le_of_lt
abbrev cI:=@Function.comp_def
abbrev cJ:=@List.length_filter_le
abbrev cK:=@Nat.le_trans
abbrev cL:=@List.take_add_one
abbrev cM:=@PySem.wpAny_call_entry
abbrev cN:=@Bool.and_eq_true
abbrev cO:=@beq_eq_false_iff_ne
abbrev cP:=@Option.map_eq_some_iff
abbrev cQ:=@PySem.F.slot_zip_next
abbrev cR:=@Array.getElem?_eq_getElem
abbrev cS:=@PySem.wpAny_mono
abbrev cT:=@PyProof.Rows.callWith_type1
abbrev cU:=@PySem.wpAny_isInstance
abbrev cV:=@List.cons_append
abbrev cW:=@of_decide_eq_true
abbrev cX:=@List.zip_cons_cons
abbrev cY:=@Ne.symm
abbrev cZ:=@List.find?_cons
abbrev dB:=@List.length_range
abbrev dD:=@Option.isSome_iff_exists
abbrev dF:=@Int.emod_lt_of_pos
abbrev dH:=@List.replicate_succ
abbrev dJ:=@List.lookup_cons
abbrev dL:=@Nat.zero_le
abbrev dM:=@List.append_nil
abbrev dN:=@PySem.wpAny_attempt
abbrev dO:=@PySem.mem_of_lookup
abbrev dP:=@Int.eq_ofNat_of_zero_le
abbrev dQ:=@PySem.Around.under_plainId
abbrev dR:=@Bool.false_eq_true
abbrev dU:=@Int.emod_nonneg
abbrev dX:=@List.sum_cons
abbrev dY:=@List.length_drop
abbrev dZ:=@Array.getElem?_eq_none
abbrev eA:=@PySem.wpAny_field
abbrev eC:=@List.length_replicate
abbrev eD:=@List.take_append_drop
abbrev eF:=@List.mem_range
abbrev eI:=@List.cons.inj
abbrev eJ:=@PySem.F.slot_dict_keyiterator_next
abbrev eK:=@PySem.wpAny_Call_Name_kw
abbrev eL:=@List.getElem?_set_ne
abbrev eM:=@or_false
abbrev eO:=@Nat.lt_irrefl
abbrev eP:=@Nat.le_of_lt
abbrev eQ:=@PySem.wpAny_truthy_bool
abbrev eR:=@List.getElem?_append_right
abbrev eS:=@PySem.wpAny_typeOf
abbrev eT:=@PySem.wpAny_newObj_type
abbrev eU:=@PySem.wpAny_seqItems
abbrev eV:=@decide_eq_true_eq
abbrev eX:=@PySem.F.args_zip_next_1
abbrev eY:=@List.mem_map_of_mem
abbrev eZ:=@List.length_nil
abbrev fA:=@PySem.codeAny_builtin
abbrev fB:=@Array.getElem?_toList
abbrev fC:=@Nat.le_add_right
abbrev fE:=@PySem.F.entry_zip_next
abbrev fF:=@List.any_cons
abbrev fG:=@PySem.wpAny_pyIter_list
abbrev fH:=@Array.length_toList
abbrev fJ:=@List.getElem_of_mem
abbrev fL:=@PyProof.Rows.F.plain_set_update_loop
abbrev fN:=@PySem.Paired.length
abbrev fO:=@List.map_id
abbrev fP:=@List.getElem_mem
abbrev fQ:=@List.take_length
abbrev fR:=@if_false
abbrev fS:=@PySem.F.slot_tuple_iterator_next
abbrev fU:=@PySem.F.slot_list_pop
abbrev fV:=@PySem.F.type_list_pop
abbrev fW:=@Option.eq_none_or_eq_some
abbrev fX:=@PySem.wpAny_passesOwn
abbrev fY:=@List.nil_append
abbrev fZ:=@List.cons.injEq
abbrev gA:=@PySem.PassesOwn.never
abbrev gB:=@List.length_zip
abbrev gC:=@Sum.inr.inj
abbrev gE:=@if_true
abbrev gF:=@List.flatten_cons
abbrev gG:=@Int.mul_left_comm
abbrev gI:=@List.set_eq_of_length_le
abbrev gJ:=@PyProof.Rows.slot_tuple_getitem
abbrev gL:=@List.filterMap_cons
abbrev gO:=@beq_self_eq_true
abbrev gQ:=@List.perm_middle
abbrev gR:=@List.eq_nil_iff_forall_not_mem
abbrev gS:=@PySem.wpAny_of_eq
abbrev gU:=@Nat.ne_of_gt
abbrev gW:=@PySem.Calls.spliced_cons
abbrev gX:=@PySem.call_meets
abbrev gY:=@PySem.F.slot_str_split
abbrev gZ:=@PySem.wpAny_setField_rec
abbrev hU:=@Int.add_zero
abbrev hV:=@Bool.eq_iff_iff
abbrev hX:=@PySem.plainId_quiet
abbrev hZ:=@List.getElem?_eq_none
abbrev iA:=@PyProof.Rows.boot_sum
abbrev iB:=@PyProof.Rows.boot_min
abbrev iC:=@Int.emod_add_mul_ediv
abbrev iD:=@Int.fdiv_eq_ediv_of_nonneg
abbrev iE:=@Nat.le_succ
abbrev iF:=@List.nodup_nil
abbrev iG:=@beq_iff_eq
abbrev iH:=@Bool.and_eq_true_iff
abbrev iJ:=@List.mem_of_mem_take
abbrev iK:=@Nat.pow_le_pow_right
abbrev iL:=@List.any_eq_true
abbrev iM:=@List.getElem?_append_left
abbrev iN:=@List.getElem?_zip_eq_some
abbrev iP:=@List.drop_eq_getElem_cons
abbrev iQ:=@PyProof.Rows.F.entry_set_update_loop
abbrev iR:=@PySem.Heap.SameBut.update
abbrev iS:=@PySem.F.args_tuple_add_2
abbrev iT:=@PySem.F.slot_list_getattribute
abbrev iU:=@PySem.F.args_str_split_2
abbrev iW:=@Int.mul_assoc
abbrev iX:=@List.foldl_cons
abbrev iY:=@List.filterMap_map
abbrev iZ:=@PySem.tupleKind_room_in1
abbrev jA:=@PySem.sub_AttributeError
abbrev jB:=@PySem.wpAny_pyIter_tuple
abbrev jC:=@List.getElem_range
abbrev jD:=@PySem.Obj.data_mapFields
abbrev jE:=@PySem.wpAny_tupleItemsOf
abbrev jF:=@PySem.F.entry_tuple_add
abbrev jG:=@PySem.F.plainAttrs_dict
abbrev jH:=@PySem.F.entry_str_split
abbrev jI:=@PySem.F.slot_zip_getattribute
abbrev jJ:=@List.eraseIdx_cons_succ
abbrev jK:=@Int.mul_add
abbrev jL:=@PySem.Calls.spliced_nil
abbrev jM:=@PySem.F.slot_tuple_add
abbrev jN:=@List.drop_zero
abbrev jO:=@PyProof.Rows.boot_list
abbrev jP:=@PySem.isSubtype_stop
abbrev jQ:=@Int.mul_comm
abbrev jR:=@PySem.Heap.get?_update_self
abbrev jS:=@List.length_singleton
abbrev jT:=@PySem.F.slot_dict_get
abbrev jU:=@PySem.wpAny_notOrdered_dict
abbrev jV:=@List.filterMap_append
abbrev jW:=@List.Perm.append_left
abbrev jX:=@PySem.Around.in1_units
abbrev jY:=@PySem.F.kt_typeCall_dict_1
abbrev jZ:=@Int.pow_pos
abbrev kA:=@PySem.wpAny_execs_nil
abbrev kB:=@List.of_mem_zip
abbrev kC:=@PySem.Heap.DictOf.new
abbrev kE:=@List.forIn_cons
abbrev kF:=@List.range_succ
abbrev kJ:=@List.Perm.of_eq
abbrev kK:=@PySem.wpAny_dictSet_pairs
abbrev kL:=@ne_true_of_eq_false
abbrev kM:=@Int.mul_zero
abbrev kQ:=@List.mem_filterMap
abbrev kR:=@PySem.typeIs_str
abbrev kS:=@Option.isSome_some
abbrev kT:=@PySem.F.args_dict_init_2
abbrev kU:=@List.take_zero
abbrev kW:=@PySem.wpAny_setField
abbrev kX:=@PySem.sizeLine_eq
abbrev kY:=@List.ext_getElem?
abbrev kZ:=@PySem.wpAny_standAt
abbrev lA:=@not_or
abbrev lB:=@List.map_nil
abbrev lC:=@Nat.le_of_eq
abbrev lE:=@PySem.wpAny_rule
abbrev lF:=@Nat.not_lt
abbrev lG:=@Int.pow_succ
abbrev lH:=@List.zip_append
abbrev lI:=@Bool.or_eq_true
abbrev lJ:=@Nat.le_antisymm
abbrev lK:=@List.sum_append
namespace L2
open PySem PySem.Spec PyProof.Rows
abbrev hI:=Sum Int Af
noncomputable def yM:hI->Ac->Bool
 | .inl k,v=>Value.isInt k v
 | .inr x,v=>Value.isStrOf x v
def Wv (w:World):hI->Int
 | .inl k=>hashInt k
 | .inr x=>hashStr w x
theorem vE:∀ {k:hI}{v:Ac},yM k v=true->(∃ i t,k=Sum.inl i/\v=Value.int i t)\/(∃ x t,k=Sum.inr x/\v=Value.str x t)
 | .inl i,v,h=>by
  obtain⟨t,e⟩:=Value.isInt_shape (k:=i) (v:=v) h;exact .inl ⟨i,t,rfl,e⟩
 | .inr x,v,h=>by
  obtain⟨t,e⟩:=Value.isStrOf_shape (x:=x) (v:=v) h;exact .inr ⟨x,t,rfl,e⟩
theorem DV (i:Int) (t:Tok):yM (.inl i) (.int i t)=true:=by simp[yM,Value.isInt]
theorem JZ (x:Af) (t:Tok):yM (.inr x) (.str x t)=true:=by simp[yM,Value.isStrOf]
theorem LO (a b:Int):decide ((Sum.inl a:hI)=Sum.inl b)=(a == b):=by
 by_cases e:a=b
 .subst e;simp
 .have h:¬ (Sum.inl a:hI)=Sum.inl b:=λq=>e (Sum.inl.inj q)
  rw[bR h];exact (cO.mpr e).symm
theorem AU (a b:Af):decide ((Sum.inr a:hI)=Sum.inr b)=decide (a=b):=by
 by_cases e:a=b
 .subst e;simp
 .have h:¬ (Sum.inr a:hI)=Sum.inr b:=λq=>e (gC q)
  rw[bR h,bR e]
theorem AQ (a:Int) (b:Af):decide ((Sum.inl a:hI)=Sum.inr b)=false:=bR (λq=>nomatch q)
theorem V4 (a:Af) (b:Int):decide ((Sum.inr a:hI)=Sum.inl b)=false:=bR (λq=>nomatch q)
def pC (g:Ah) (w:World):PySem.KeyKind g w hI where
 is:=yM
 hash:=Wv w
 inj:=λv a b m f=>by
  rcases vE m with⟨i,t,rfl,rfl⟩ | ⟨x,t,rfl,rfl⟩
  .rcases vE f with⟨j,u,rfl,e⟩ | ⟨y,u,rfl,e⟩
   .injection e with c _;rw[c]
   .exact nomatch e
  .rcases vE f with⟨j,u,rfl,e⟩ | ⟨y,u,rfl,e⟩
   .exact nomatch e
   .injection e with c _;rw[c]
 byValue:=λk v h=>by
  rcases vE h with⟨i,t,rfl,rfl⟩ | ⟨x,t,rfl,rfl⟩<;>rfl
 pyHash:=λd h=>by
  rcases vE d with⟨i,t,rfl,rfl⟩ | ⟨x,t,rfl,rfl⟩
  .exact wpAny_pyHash_int h
  .exact wpAny_pyHash_str h
 eqBool:=λn d h=>by
  rcases vE n with⟨i,t,rfl,rfl⟩ | ⟨x,t,rfl,rfl⟩
  .rcases vE d with⟨j,u,rfl,rfl⟩ | ⟨y,u,rfl,rfl⟩
   .rw[LO] at h;exact wpAny_eqBool_int h
   .rw[AQ] at h;exact SeqAt.EqAt.int_str i t y u _ _ _ _ h
  .rcases vE d with⟨j,u,rfl,rfl⟩ | ⟨y,u,rfl,rfl⟩
   .rw[V4] at h;exact SeqAt.EqAt.str_int x t j u _ _ _ _ h
   .rw[AU] at h;exact wpAny_eqBool_str h
 «strs»:=λk x t v h=>by
  rcases vE h with⟨i,u,rfl,e⟩ | ⟨y,u,rfl,e⟩
  .exact nomatch e
  .injection e with c _;subst c;cases v<;>rfl
theorem JT (g:Ah) (w:World) (i:Int) (t:Tok):(pC g w).is (.inl i) (.int i t)=true:=DV i t
theorem ES (g:Ah) (w:World) (x:Af) (t:Tok):(pC g w).is (.inr x) (.str x t)=true:=JZ x t
inductive V where
 | e | b (b:Bool) | int (i:Int) | str (x:Str) | byt (b:Array UInt8) | flt (b:UInt64) | ref (a:Addr) | ty (n:String)
 deriving DecidableEq
def mC:V->Ac->Prop
 | .e,u=>u=Value.none
 | .b b,u=>u=Value.bool b
 | .int i,u=>∃ t,u=Value.int i t
 | .str x,u=>∃ t,u=Value.str x t
 | .byt b,u=>∃ t,u=Value.bytes b t
 | .flt b,u=>∃ t,u=Value.float b t
 | .ref a,u=>u=Value.ref a
 | .ty n,u=>u=Value.type n
abbrev mB:Aa V->Aa Ac->Prop:=Paired mC
theorem mB.length (r:mB j g):j.length=g.length:=fN r
theorem mB.get:∀ {j:Aa V}{g:Aa Ac}{i:Nat}{x:V},mB j g->j[i]?=some x->∃ u,g[i]?=some u/\mC x u
 | _,_,_,_,.nil,e=>by simp at e
 | _,_,0,_,.cons r _,e=>by simp at e;subst e;exact⟨_,rfl,r⟩
 | _,_,i+1,x,.cons _ t,e=>by
  obtain⟨u,a,b⟩:=mB.get (i:=i) (x:=x) t (by simpa using e);exact⟨u,by simpa using a,b⟩
theorem mB.set (r:mC x u):∀ {j:Aa V}{g:Aa Ac}(i:Nat),mB j g->mB (j.set i x) (g.set i u)
 | _,_,_,.nil=>.nil
 | _,_,0,.cons _ t=>.cons r t
 | _,_,i+1,.cons q t=>.cons q (mB.set r i t)
theorem mB.append:∀ {l o:Aa V}{g j:Aa Ac},mB l g->mB o j->mB (l++o) (g++j)
 | _,_,_,_,.nil,s=>s
 | _,_,_,_,.cons r t,s=>.cons r (mB.append t s)
theorem mB.take:∀ {j:Aa V}{g:Aa Ac}(n:Nat),mB j g->mB (j.take n) (g.take n)
 | _,_,0,_=>.nil
 | _,_,_+1,.nil=>.nil
 | _,_,n+1,.cons r t=>.cons r (mB.take n t)
theorem mB.drop:∀ {j:Aa V}{g:Aa Ac}(n:Nat),mB j g->mB (j.drop n) (g.drop n)
 | _,_,0,r=>r
 | _,_,_+1,.nil=>.nil
 | _,_,n+1,.cons _ t=>mB.drop n t
def tZ:Ab V->Ab Ac->Prop
 | some v,some u=>mC v u
 | none,none=>True
 | _,_=>False
def KV {g:Type}:Aa (g×V)->Aa (g×Ac)->Prop:=Paired λ(p:g×V) (q:g×Ac)=>p.1=q.1/\mC p.2 q.2
def kV:hI->V
 | .inl i=>.int i
 | .inr x=>.str x
inductive HO where
 | l (xs:List V)
 | t (xs:List V)
 | k (kvs:List (hI×V)) | T (kvs:List (List hI×V))
 | set (S:Int->Bool) (n:Nat)
 | ins (C dx:Addr) (fs:List (Str×V))
 | o (x:Addr)
 | xd (fs:List (Str×V))
 | met (f x:Addr)
 | rng (lo hi:Int)
 | frz (o:Obj) (u:HO)
 | tbl (ps:Array Value)
 | ext (φ:Heap->Prop)
abbrev Hp:=Ad->Ab HO
def upd (H:Hp) (a:Ad) (o:HO):Hp:=λb=>if b=a then some o else H b
theorem lR:upd H a o a=some o:=by unfold upd;rw[if_pos rfl]
theorem lS (h:b≠a):upd H a o b=H b:=by unfold upd;rw[if_neg h]
theorem KI:upd (upd H a o) a u=upd H a u:=by
 funext b;unfold upd;split<;>rfl
theorem DY {H:Hp}{a b:Ad}{o u:HO}(h:H a=some o) (g:H b=some u) (d:o≠u):a≠b:=by
 intro e;subst e;rw[h] at g;exact d (bN g)
theorem mR {H:Hp}{a b:Ad}{o:HO}(h:H a=some o) (g:H b=none):a≠b:=by
 intro e;subst e;rw[h] at g;cases g
section
variable (P:Ah) (w:World)
def xG (h:Ag) (a:Ad) (items:Array Ac):Prop:=IsTup h a items/\∃ o,h.get? a=some o/\o.dict=none
theorem xG.new (h:Ag) (items:Array Ac):xG (h.push { cls:=.type "tuple",data:=.seq items }) h.objs.size items:=⟨IsTup.new _ _,_,bA _ rfl,rfl⟩
def nV (H:Hp) (h:Ag) (a:Ad):HO->Prop
 | .l d=>d.length<=sizeLine/\∃ (b:Aa Ac) (n:Nat),mB d b/\h.get? a=some { cls:=.type "list",data:=.seq b.toArray n }
 | .t d=>d.length<=sizeLine/\∃ b:Aa Ac,mB d b/\xG h a b.toArray
 | .k c=>c.length<=sizeLine/\(a == sysModules)=false/\∃ A,KV c A/\h.DictOf (pC P w) a A
 | .T c=>c.length<=sizeLine/\(a == sysModules)=false/\∃ d:Aa (Aa hI×Ad×Ac),
   Paired (λ(p:Aa hI×V) (q:Aa hI×Ad×Ac)=>p.1=q.1/\H q.2.1=some (.t (p.1.map kV))/\mC p.2 q.2.2) c d /\
   ∃ o s B,h.get? a=some o/\o.ExactDict/\o.data = .dict s B/\s.toList=d.map (entryOfKey (tupleKind (pC P w)))/\(d.map (·.1)).Nodup
 | .set S n=>h.SetOf (intKind P w) a S n
 | .ins C i fs=>H i=some (.o a)/\fs.length<=1000/\i≠a/\h.get? a=some (PySem.W.instObj C i) /\
   ∃ e,h.Ns1 i e/\(∀ f,tZ (fs.lookup f) (e f))/\PySem.Within e (fs.map (·.1))
 | .o _=>∃ o,h.get? a=some o
 | .xd fs=>∃ e,h.Ns1 a e/\∀ f,tZ (fs.lookup f) (e f)
 | .rng lo D=>∃ t u v,h.get? a=some { cls:=.type "range",data:=.fields #[.int lo t,.int D u,.int 1 v] }
 | .frz o u=>h.get? a=some o/\nV H h a u
 | .tbl E=>h.get? a=some { cls:=.none,data:=.fields E }
 | .met f x=>h.get? a=some (PySem.W.methodObj (.ref f) (.ref x))
 | .ext m=>m h/\(∃ o,h.get? a=some o)/\∀ y z:Ag,m y->(∀ o,y.get? a=some o->z.get? a=some o)->m z
def nP (H:Hp) (h:Ag):Prop:=∀ a o,H a=some o->nV P w H h a o
end
section
variable {P:Ah}
theorem nV.lt (x:nV P w H h a o):a<h.objs.size:=by
 cases o with
 | l c=>obtain⟨_,_,_,_,e⟩:=x;exact aY e
 | t c=>obtain⟨_,_,_,p,_⟩:=x;exact p.lt
 | k b=>obtain⟨_,_,_,_,o,_,_,e,_⟩:=x;exact aY e
 | T b=>obtain⟨_,_,_,_,o,_,_,e,_⟩:=x;exact aY e
 | set S n=>obtain⟨o,_,_,_,e,_⟩:=x;exact aY e
 | ins C d fs=>obtain⟨_,_,_,e,_⟩:=x;exact aY e
 | o y=>obtain⟨_,e⟩:=x;exact aY e
 | xd fs=>obtain⟨_,⟨_,_,_,e,_⟩,_⟩:=x;exact aY e
 | rng lo i=>obtain⟨_,_,_,e⟩:=x;exact aY e
 | frz m u=>obtain⟨e,_⟩:=x;exact aY e
 | tbl q=>exact aY (show h.get? a=some _ from x)
 | met f y=>exact aY (show h.get? a=some _ from x)
 | ext s=>obtain⟨_,⟨_,e⟩,_⟩:=x;exact aY e
theorem Paired.mapP {F:l->o->Prop}:∀ {g:Aa l}{j:Aa o},Paired F g j->(∀ a b,F a b->G a b)->Paired G g j
 | _,_,.nil,_=>.nil
 | _,_,.cons r t,f=>.cons (f _ _ r) (Paired.mapP t f)
theorem nV.stay (x:nV P w H h a o) (k:∀ b u,(b=a\/H b=some (.o a))->h.get? b=some u->j.get? b=some u)
  (J:∀ b,H b=some (.o a)->I b=some (.o a)) (U:∀ b g,H b=some (.t g)->I b=some (.t g)):nV P w I j a o:=by
 induction o with
 | l g=>obtain⟨z,A,n,r,e⟩:=x;exact⟨z,A,n,r,k _ _ (.inl rfl) e⟩
 | t g=>obtain⟨z,A,r,⟨i,e,c⟩,M,B,K⟩:=x;exact⟨z,A,r,⟨i,k _ _ (.inl rfl) e,c⟩,M,k _ _ (.inl rfl) B,K⟩
 | k D=>obtain⟨z,y,N,r,i,s,m,e,c⟩:=x;exact⟨z,y,N,r,i,s,m,k _ _ (.inl rfl) e,c⟩
 | T D =>
  obtain⟨z,y,g,r,i,s,m,e,c⟩:=x;exact⟨z,y,g,Paired.mapP r λp q z=>⟨z.1,U _ _ z.2.1,z.2.2⟩,i,s,m,k _ _ (.inl rfl) e,c⟩
 | set S n=>obtain⟨i,s,m,t,e,c⟩:=x;exact⟨i,s,m,t,k _ _ (.inl rfl) e,c⟩
 | ins C O fs =>
  obtain⟨d,z,ne,e,E,⟨F,s,m,B,c⟩,r⟩:=x;exact⟨J _ d,z,ne,k _ _ (.inl rfl) e,E,⟨F,s,m,k _ _ (.inr d) B,c⟩,r⟩
 | o y=>obtain⟨i,e⟩:=x;exact⟨i,k _ _ (.inl rfl) e⟩
 | xd fs=>obtain⟨E,⟨F,s,m,e,c⟩,r⟩:=x;exact⟨E,⟨F,s,m,k _ _ (.inl rfl) e,c⟩,r⟩
 | rng lo Q=>obtain⟨t,u,v,e⟩:=x;exact⟨t,u,v,k _ _ (.inl rfl) e⟩
 | frz i u L=>obtain⟨e,q⟩:=x;exact⟨k _ _ (.inl rfl) e,L q⟩
 | tbl G =>
  have e:h.get? a=some { cls:=.none,data:=.fields G }:=x;show j.get? a=some { cls:=.none,data:=.fields G };exact k a _ (.inl rfl) e
 | met f y =>
  have e:h.get? a=some (PySem.W.methodObj (.ref f) (.ref y)):=x;show j.get? a=some (PySem.W.methodObj (.ref f) (.ref y));exact k a _ (.inl rfl) e
 | ext R=>obtain⟨p,⟨o,e⟩,st⟩:=x;exact⟨st _ _ p λo q=>k _ _ (.inl rfl) q,⟨o,k _ _ (.inl rfl) e⟩,st⟩
theorem nP.lt (x:nP P w H h) (e:H a=some o):a<h.objs.size:=(x a o e).lt
theorem nP.fresh (x:nP P w H h) (e:h.objs.size<=a):H a=none:=by
 cases q:H a with
 | none=>rfl
 | some u=>exact absurd (bD (x.lt q) e) (eO _)
theorem nP.kept (x:nP P w H h) (k:∀ b u,h.get? b=some u->g.get? b=some u):nP P w H g:=λa o e =>
 (x a o e).stay (λb u _ q=>k b u q) (λ_ q=>q) λ_ _ q=>q
theorem nP.laid (x:nP P w H h) (k:∀ b u,h.get? b=some u->g.get? b=some u) (j:h.objs.size<=a) (new:nV P w (upd H a o) g a o):nP P w (upd H a o) g:=λb u e=>by
 have f:=x.fresh j;by_cases d:b=a
 .subst d;rw[lR] at e;cases e;exact new
 .rw[lS d] at e;exact (x b u e).stay (λc v _ q=>k c v q) (λc q=>by rw[lS (mR q f)];exact q) λc i q=>by rw[lS (mR q f)];exact q
end
def Rd (H:Hp) (a:Ad) (u:HO):Prop:=H a=some u\/∃ o,H a=some (.frz o u)
theorem Rd.ok {P:Ah}(r:Rd H a u) (x:nP P w H h):nV P w H h a u:=by
 rcases r with r | ⟨o,r⟩
 .exact x a u r
 .obtain⟨_,q⟩:=x a _ r;exact q
def Dy:Ab HO->Prop
 | some (.l _)=>True
 | some (.k _)=>True
 | some (.T _)=>True
 | some (.set _ _)=>True
 | some (.ins _ _ _)=>True
 | some (.ext _)=>True
 | _=>False
section
variable {P:Ah}
theorem nP.write (ok:nP P w H h) (g:Dy (H x)) (p:e=x\/H e=some (.o x)) (k:∀ b u,b≠e->h.get? b=some u->j.get? b=some u) (l:∃ u,j.get? e=some u)
  (new:nV P w (upd H x C) j x C):nP P w (upd H x C) j:=λb u q=>by
 have d:∀ c y,H c=some (.o y)->c≠x:=λc y r z=>by subst z;rw[r] at g;exact g
 have f:∀ c n,H c=some (.t n)->c≠x:=λc n r z=>by subst z;rw[r] at g;exact g
 by_cases i:b=x
 .subst i;rw[lR] at q;cases q;exact new
 .rw[lS i] at q;by_cases a:b=e
  .have s:H b=some (.o x):=by
    rcases p with z | z
    .exact absurd (a.trans z) i
    .rw[a];exact z
   rw[q] at s;cases s;obtain⟨v,A⟩:=l;exact⟨v,by rw[a];exact A⟩
  .refine (ok b u q).stay (λc v m r=>k c v ?_ r) (λc r=>by rw[lS (d c b r)];exact r) λc n r=>by rw[lS (f c n r)];exact r
   rcases m with rfl | m
   .exact a
   .rintro rfl;rcases p with z | z
    .exact d c b m z
    .rw[m] at z;cases z;exact i rfl
end
structure Un (fs ex:List Addr) (H H':Hp) (h h':Heap):Prop where
 keep:∀ b o,h.get? b=some o->H b=none->b∉fs->b∉ex->h'.get? b=some o
 slot:∀ b o,h.get? b=some o->H b=none->b∈fs->b∉ex->∃ sl,h'.get? b=some { o with slots:=sl }
 free:∀ b o,h.get? b=some o->H b=none->b∉ex->H' b=none
 there:∀ b o,h.get? b=some o->b∉ex->∃ o',h'.get? b=some o'
 tups:∀ b xs,H b=some (.t xs)->H' b=some (.t xs)
 frzs:∀ b o u,H b=some (.frz o u)->H' b=some (.frz o u)
 tbls:∀ b ps,H b=some (.tbl ps)->∃ more,H' b=some (.tbl (ps++more))
section
theorem Un.any (u:Un fs ex H o h l) (q:h.get? b=some g) (n:H b=none) (j:b∉ex):∃ sl,l.get? b=some { g with slots:=sl }:=by
 by_cases a:b∈fs
 .exact u.slot b g q n a j
 .exact⟨g.slots,u.keep b g q n a j⟩
theorem Un.kept (k:∀ b u,h.get? b=some u->g.get? b=some u):Un fs ex H H h g :=
 ⟨λb a q _ _ _=>k b a q,λb a q _ _ _=>⟨a.slots,k b a q⟩,λ_ _ _ n _=>n,λb a q _=>⟨a,k b a q⟩,λ_ _ q=>q,λ_ _ _ q=>q,λ_ c q=>⟨#[],by rw[q];simp⟩⟩
theorem Un.refl:Un fs ex H H h h:=Un.kept λ_ _ q=>q
theorem Un.laid (k:∀ b u,h.get? b=some u->j.get? b=some u) (l:h.objs.size<=a) (g:H a=none):Un fs ex H (upd H a o) h j where
 keep:=λb u q _ _ _=>k b u q
 slot:=λb u q _ _ _=>⟨u.slots,k b u q⟩
 free:=λb u q n _=>by rw[lS (bH (bD (aY q) l))];exact n
 there:=λb u q _=>⟨u,k b u q⟩
 tups:=λb c q=>by rw[lS (mR q g)];exact q
 frzs:=λb u c q=>by rw[lS (mR q g)];exact q
 tbls:=λb d q=>⟨#[],by rw[lS (mR q g),q];simp⟩
theorem Un.write (g:Dy (H x)) (p:e=x\/H e=some (.o x)) (k:∀ b u,b≠e->h.get? b=some u->l.get? b=some u) (j:∃ u,l.get? e=some u):Un fs ex H (upd H x o) h l:=by
 have f:∀ b,H b=none->b≠x:=λb n z=>by subst z;rw[n] at g;exact g
 have d:∀ b,H b=none->b≠e:=λb n z=>by
  subst z;rcases p with r | r
  .exact f b n r
  .rw[n] at r;cases r
 have c:∀ b u,H b=some u->¬ Dy (some u)->b≠x:=λb u q i z=>by subst z;rw[q] at g;exact i g
 refine⟨λb u q n _ _=>k b u (d b n) q,λb u q n _ _=>⟨u.slots,k b u (d b n) q⟩,λb u q n _=>by rw[lS (f b n)];exact n,λb u q _=>?_,
  λb m q=>by rw[lS (c b _ q λz=>z)];exact q,λb u m q=>by rw[lS (c b _ q λz=>z)];exact q,λb s q=>⟨#[],by rw[lS (c b _ q λz=>z),q];simp⟩⟩
 by_cases a:b=e
 .subst a;exact j
 .exact⟨u,k b u a q⟩
end
noncomputable def Ep (h:Ag) (H:Hp):Aa Ad:=(List.range h.objs.size).filter λa=>(H a).isSome
def wV (h:Ag) (H:Hp):Ag:=PySem.W.hideAll h (Ep h H)
theorem NV (h:Ag) (H:Hp):(wV h H).objs.size=h.objs.size:=PySem.W.hideAll_size _ _
theorem LH (e:h.get? b=some o) (n:H b=none):(wV h H).get? b=some o :=
 PySem.W.hideAll_get _ e λa=>by
  have q:(H b).isSome=true:=(bT.mp a).2;rw[n] at q;simp at q
theorem X3 (e:(wV h H).get? b=some o):h.get? b=some o/\H b=none:=by
 have a:h.get? b=some o:=PySem.W.of_hideAll (Ep h H) e;refine⟨a,?_⟩;cases q:H b with
 | none=>rfl
 | some x =>
  have c:b∈Ep h H:=bT.mpr ⟨eF.mpr (aY a),by simp[q]⟩;have z:(wV h H).get? b=none:=PySem.W.hideAll_none (Ep h H) c;rw[z] at e;cases e
structure Mod (K:lL) (mg:Str->Option Value) (base:Heap):Prop where
 kin:K.In base
 glob:base.Ns mainGlobals mg
 blt:∃ mb,base.Ns builtinsNs mb/\∀ x:Str,x ≠ "__name__" -> mb x=bootBuiltins x
 nolimit:base.NoLimit
/-- the context: a def's body (or a comprehension's block) running. base: fixed through the whole law;s₀,H₀: the entry;outer: the frames whose slots others may change (a def's callers);stack: all frames that run;
 ex: iterators that were made ahead of the entry and are walked here (a comprehension's);fn: the names whose cells were made at the entry (a def: all;a comprehension's block: its own);calm: not within an except suite;pn: pins that every state bears;xe: what is wanted of an exception that leaves the code -/
structure Cx where
 prog:Program
 w:World
 K:lL
 mg:Str->Option Value
 base:Heap
 A:Around
 N:List Str
 s₀:Shared
 H₀:Hp
 env:Env
 outer:List Env
 stack:List Env
 ex:List Addr
 fn:Str->Bool
 calm:Bool
 pn:List (Addr×Obj)
 xe:Value->Shared->Prop
noncomputable def tX (l:Aa Env):Aa Ad:=l.filterMap (·.frame)
abbrev Cx.fs (X:Cx):Aa Ad:=tX X.outer
def Gm (g:Scope) (x:Af):Prop:=g.names.lookup x=some .local\/g.names.lookup x=some .cell\/g.names.lookup x=some .free
def vL (g:Scope) (x:Af):Prop:=g.names.lookup x=some .local\/g.names.lookup x=some .cell
def Zh (g:Env) (h:Ag) (m:Af->Ab Ac) (x:Af) (u:Ac):Prop :=
 (g.kindOf x=some .local/\m x=some u)\/((g.kindOf x=some .cell\/g.kindOf x=some .free)/\∃ c,g.cells.lookup x=some c/\h.IsCell c (some u))
structure Cx.Ok (X:Cx):Prop where
 mod:Mod X.K X.mg X.base
 kind:X.env.scope.kind = .function
 glob:X.env.globals=mainGlobals
 blt:X.env.builtins=builtinsNs
 above:X.s₀.heap.objs.size<=X.env.locals
 inj:∀ x y c,X.env.cells.lookup x=some c->X.env.cells.lookup y=some c->x=y
 has:∀ x,(X.env.kindOf x=some .cell\/X.env.kindOf x=some .free)->∃ c,X.env.cells.lookup x=some c
 cab:∀ x c,X.fn x=true->X.env.cells.lookup x=some c->X.s₀.heap.objs.size<=c
 hd:X.calm=true->X.A.handled=none
 frames:X.A.frames=some X.stack
 stk:X.stack=X.outer\/(X.stack=X.env::X.outer/\X.env.frame=some X.env.locals)
 exf:∀ b∈X.ex,b≠X.env.locals/\∀ x c,X.env.cells.lookup x=some c->c≠b
 bs:∀ b o,X.base.get? b=some o->X.s₀.heap.get? b=some o/\X.H₀ b=none
 bsz:X.base.objs.size<=X.s₀.heap.objs.size
 noex:∀ b o,X.base.get? b=some o->b∉X.ex
 exfs:∀ b∈X.ex,b∉X.fs
 funs:X.s₀.heap.FunFrames X.base X.outer
 frf:∀ b∈X.fs,X.H₀ b=none
structure Inv (X:Cx) (pins:List (Addr×Obj)) (σ:List (Option V)) (H:Hp) (s:Shared):Prop where
 ok:X.Ok
 os:s.os=X.s₀.os
 bare:AllBare s.gens
 base:Un X.fs X.ex X.H₀ H X.s₀.heap s.heap
 loc:∃ m,s.heap.Ns X.env.locals m/\∀ (i:Nat) (x:Str) (v:V),X.N[i]?=some x->σ[i]?=some (some v)->Gm X.env.scope x->∃ u,mC v u/\Zh X.env s.heap m x u
 cell:∀ x c,X.env.cells.lookup x=some c->∃ v,s.heap.IsCell c v
 free:H X.env.locals=none
 freeC:∀ x c,X.env.cells.lookup x=some c->H c=none
 pin:∀ p∈X.pn++pins,s.heap.get? p.1=some p.2/\H p.1=none/\p.1≠X.env.locals/\p.1∉X.fs/\∀ v,p.2.data ≠ .cell v
 hok:nP X.prog X.w H s.heap
 len:σ.length=X.N.length
section
variable {X:Cx}
theorem Cx.Ok.nofr (ok:X.Ok) (e:X.base.get? b=some o):b∉X.fs:=λa=>by
 have:=(ok.funs.mem a).1;rw[e] at this;cases this
theorem Inv.bs (I:Inv X g j H s):∀ b o,X.base.get? b=some o->s.heap.get? b=some o/\H b=none:=λb o e =>
 ⟨I.base.keep b o (I.ok.bs b o e).1 (I.ok.bs b o e).2 (I.ok.nofr e) (I.ok.noex b o e),I.base.free b o (I.ok.bs b o e).1 (I.ok.bs b o e).2 (I.ok.noex b o e)⟩
theorem Inv.bk (I:Inv X g j H s):∀ b o,X.base.get? b=some o->s.heap.get? b=some o:=λb o e=>(I.bs b o e).1
theorem Inv.mod (I:Inv X g j H s):Mod X.K X.mg X.base:=I.ok.mod
theorem Inv.kIn (I:Inv X g j H s):X.K.In s.heap:=I.ok.mod.kin.keeps I.bk
theorem Inv.lt (I:Inv X g j H s):X.env.locals<s.heap.objs.size:=let ⟨_,a,_⟩:=I.loc;a.lt
theorem Inv.sz (I:Inv X g j H s):X.s₀.heap.objs.size<=s.heap.objs.size:=cK I.ok.above (eP I.lt)
theorem Inv.nofs (I:Inv X g j H s) (h:s.heap.objs.size<=a):a∉X.fs:=λb=>by
 obtain⟨_,o,c,_⟩:=I.ok.funs.mem b;exact absurd (bD (aY c) (cK I.sz h)) (eO _)
theorem Inv.cne (I:Inv X g j H s):∀ x c,X.env.cells.lookup x=some c->c≠X.env.locals:=λx c e z=>by
 obtain⟨v,o,d,hd⟩:=I.cell x c e;obtain⟨m,⟨i,h,f,b,a,_⟩,_⟩:=I.loc;rw[z,b] at d;cases d;rw[a] at hd;cases hd
theorem Inv.funs (I:Inv X g j H s):s.heap.FunFrames X.base X.outer:=by
 have all:∀ (l:Aa Env),(∀ b∈tX l,b∈X.fs)->X.s₀.heap.FunFrames X.base l->s.heap.FunFrames X.base l:=by
  intro l;induction l with
  | nil=>intro _ _;trivial
  | cons h r t =>
   intro f k;obtain⟨i,⟨L,o,d,m,n,hd⟩,q⟩:=k;have a:L∈X.fs:=f L (by unfold tX;rw[List.filterMap_cons,d];exact aH);obtain⟨sl,e⟩:=I.base.slot L o n (I.ok.frf L a) a λz=>I.ok.exfs L z a
   exact⟨i,⟨L,_,d,m,e,hd⟩,t (λb c=>f b (by unfold tX;rw[List.filterMap_cons,d];exact aM _ c)) q⟩
 exact all X.outer (λ_ c=>c) I.ok.funs
theorem Inv.stack (I:Inv X g j H s):s.heap.FunFrames X.base X.stack:=by
 rcases I.ok.stk with e | ⟨e,a⟩
 .rw[e];exact I.funs
 .rw[e];obtain⟨m,b,_⟩:=I.loc;refine .cons (by rw[I.ok.kind];decide) a b ?_ I.funs;exact Heap.get?_none_of_le (cK I.ok.bsz I.ok.above)
theorem Inv.stkSub (I:Inv X g j H s):∀ b∈tX X.stack,b∈X.env.locals::X.fs:=λb a=>by
 rcases I.ok.stk with e | ⟨e,c⟩
 .rw[e] at a;exact aM _ a
 .rw[e] at a;unfold tX at a;rw[gL,c] at a;exact a
theorem Inv.stkFree (I:Inv X g j H s):∀ b∈tX X.stack,H b=none:=λb a=>by
 rcases aI.mp (I.stkSub b a) with e | a
 .rw[e];exact I.free
 .obtain⟨_,o,c,_⟩:=I.ok.funs.mem a;exact I.base.free b o c (I.ok.frf b a) λz=>I.ok.exfs b z a
theorem Inv.step {g':Array GenState}{t':Nat}{d':Drawn}{ch:Aa Ad}(I:Inv X j σ H s)
  (g:∀ b∈ch,(b∈X.ex\/X.s₀.heap.objs.size<=b)/\b≠X.env.locals/\(∀ x c,X.env.cells.lookup x=some c->c≠b)/\∀ p∈X.pn++j,p.1≠b)
  (keep:∀ b o,b≠X.env.locals->b∉X.fs->b∉ch->s.heap.get? b=some o->H b=none->J.get? b=some o)
  (slot:∀ b o,b≠X.env.locals->b∈X.fs->b∉ch->s.heap.get? b=some o->H b=none->∃ sl,J.get? b=some { o with slots:=sl }) (free:∀ b o,b∉ch->s.heap.get? b=some o->H b=none->T b=none)
  (there:∀ b o,b∉ch->s.heap.get? b=some o->∃ o',J.get? b=some o')
  (ab:∀ b C,H b=some (.t C)->T b=some (.t C)) (U:∀ b o u,H b=some (.frz o u)->T b=some (.frz o u)) (aa:∀ b ps,H b=some (.tbl ps)->∃ more,T b=some (.tbl (ps++more)))
  (ns:∀ m,s.heap.Ns X.env.locals m->J.Ns X.env.locals m) (ac:nP X.prog X.w T J) (hg:AllBare g') :
  Inv X j σ T { s with heap:=J,gens:=g',drawn:=d',toks:=t' }:=by
 have F:∀ b o,X.s₀.heap.get? b=some o->b≠X.env.locals:=λb o e=>bH (bD (aY e) I.ok.above)
 have A:∀ b o,X.s₀.heap.get? b=some o->b∉X.ex->b∉ch:=λb o e a B=>by
  rcases (g b B).1 with z | z
  .exact a z
  .exact absurd (bD (aY e) z) (eO _)
 have f:∀ x c,X.env.cells.lookup x=some c->∀ v,s.heap.IsCell c v->J.IsCell c v:=λx c e v G=>by
  obtain⟨o,D,hd⟩:=G;have h:c∉ch:=λz=>(g c z).2.2.1 x c e rfl
  by_cases L:c∈X.fs
  .obtain⟨sl,q⟩:=slot c o (I.cne x c e) L h D (I.freeC x c e);exact⟨_,q,hd⟩
  .exact⟨o,keep c o (I.cne x c e) L h D (I.freeC x c e),hd⟩
 refine⟨I.ok,I.os,hg,⟨λb o e n B a=>?_,λb o e n B a=>?_,λb o e n a=>?_,λb o e a=>?_,λb C e=>ab b C (I.base.tups b C e),λb o C e=>U b o C (I.base.frzs b o C e),λb ps e=>?_⟩,?_,λx c e=>?_,?_,λx c e=>?_,λp M=>?_,ac,I.len⟩
 .exact keep b o (F b o e) B (A b o e a) (I.base.keep b o e n B a) (I.base.free b o e n a)
 .obtain⟨sl,y⟩:=I.base.slot b o e n B a;obtain⟨K,E⟩:=slot b _ (F b o e) B (A b o e a) y (I.base.free b o e n a);exact⟨K,E⟩
 .obtain⟨o',y⟩:=I.base.there b o e a;exact free b o' (A b o e a) y (I.base.free b o e n a)
 .obtain⟨o',y⟩:=I.base.there b o e a;exact there b o' (A b o e a) y
 .obtain⟨R,y⟩:=I.base.tbls b ps e;obtain⟨S,E⟩:=aa b _ y;exact⟨R++S,by rw[E,Array.append_assoc]⟩
 .obtain⟨m,Q,P⟩:=I.loc;refine⟨m,ns m Q,λi x v y E O=>?_⟩;obtain⟨u,r,l⟩:=P i x v y E O;refine⟨u,r,?_⟩;rcases l with l | ⟨k,c,e,z⟩
  .exact .inl l
  .exact .inr ⟨k,c,e,f x c e _ z⟩
 .obtain⟨v,z⟩:=I.cell x c e;exact⟨v,f x c e v z⟩
 .obtain⟨m,⟨o,_,_,D,_⟩,_⟩:=I.loc;exact free _ o (λz=>(g _ z).2.1 rfl) D I.free
 .obtain⟨v,o,D,hd⟩:=I.cell x c e;exact free c o (λz=>(g c z).2.2.1 x c e rfl) D (I.freeC x c e)
 .obtain⟨e,n,ne,N,d⟩:=I.pin p M;have h:p.1∉ch:=λz=>(g p.1 z).2.2.2 p M rfl
  exact⟨keep p.1 p.2 ne N h e n,free p.1 p.2 h e n,ne,N,d⟩
theorem Inv.un (I:Inv X g p H s) (u:Un X.fs [] H l s.heap h') (j:nP X.prog X.w l h'):Inv X g p l { s with heap:=h',toks:=t' }:=by
 obtain⟨m,⟨o,v,t,h,r⟩,_⟩:=id I.loc;obtain⟨sl,i⟩:=u.any h I.free (by simp);exact I.step (g':=s.gens) (d':=s.drawn) (ch:=[]) (λ_ z=>nomatch z) (λb o _ f _ e n=>u.keep b o e n f (by simp)) (λb o _ f _ e n=>u.slot b o e n f (by simp)) (λb o _ e n=>u.free b o e n (by simp)) (λb o _ e=>u.there b o e (by simp)) u.tups u.frzs u.tbls (λx k=>by
  obtain⟨y,d,c,a,q⟩:=k;rw[h] at a;cases a;exact⟨_,d,c,i,q⟩) j I.bare
theorem Inv.call (I:Inv X g T H s) (u:Un (tX X.stack) ch H C s.heap h') (l:nP X.prog X.w C h') (J:AllBare g')
  (j:∀ b∈ch,(b∈X.ex\/X.s₀.heap.objs.size<=b)/\b≠X.env.locals/\(∀ x c,X.env.cells.lookup x=some c->c≠b)/\∀ p∈X.pn++g,p.1≠b) :
  Inv X g T C { s with heap:=h',gens:=g',drawn:=d',toks:=t' }:=by
 obtain⟨m,⟨o,A,y,k,r⟩,_⟩:=id I.loc;obtain⟨sl,i⟩:=u.any k I.free λz=>(j _ z).2.1 rfl
 exact I.step (ch:=ch) j (λb o i q a e n=>u.keep b o e n (λz=>(aI.mp (I.stkSub b z)).elim i q) a) (λb o _ _ a e n=>u.any e n a) (λb o a e n=>u.free b o e n a) (λb o a e=>u.there b o e a) u.tups u.frzs u.tbls (λB t=>by
  obtain⟨D,h,f,d,v⟩:=t;rw[k] at d;cases d;exact⟨_,h,f,i,v⟩) l J
theorem Inv.turned (I:Inv X j σ H s) (k:∀ b o,b≠g->s.heap.get? b=some o->C.get? b=some o) (hn:H g=none) (l:g≠X.env.locals)
  (J:g∈X.ex\/X.s₀.heap.objs.size<=g) (T:∀ x c,X.env.cells.lookup x=some c->c≠g) (U:∀ p∈X.pn++j,p.1≠g):Inv X j σ H { s with heap:=C,toks:=t' }:=by
 have d:∀ b u,H b=some u->b≠g:=λb u e z=>by rw[z,hn] at e;cases e
 refine I.step (g':=s.gens) (d':=s.drawn) (ch:=[g]) (λb i=>?_) (λb o _ _ a e _=>k b o (λz=>a (by simp[z])) e) (λb o _ _ a e _=>⟨o.slots,k b o (λz=>a (by simp[z])) e⟩) (λ_ _ _ _ n=>n)
  (λb o a e=>⟨o,k b o (λz=>a (by simp[z])) e⟩) (λ_ _ e=>e) (λ_ _ _ e=>e) (λb y e=>⟨#[],by rw[e];simp⟩) (λm t=>?_) (λb u e=>?_) I.bare
 .have e:b=g:=by simpa using i
  subst e;exact⟨J,l,T,U⟩
 .obtain⟨o,h,f,w,r⟩:=t;exact⟨o,h,f,k _ o (cY l) w,r⟩
 .refine (I.hok b u e).stay (λc v a q=>k c v ?_ q) (λ_ q=>q) λ_ _ q=>q
  rcases a with z | z
  .rw[z];exact d b u e
  .exact d c _ z
theorem Inv.tok (I:Inv X g j H s) (t:Nat):Inv X g j H { s with toks:=t }:=I.un (h':=s.heap) (t':=t) Un.refl I.hok
theorem Inv.kept (I:Inv X g l H s) (k:∀ b u,s.heap.get? b=some u->j.get? b=some u):Inv X g l H { s with heap:=j,toks:=t' }:=I.un (Un.kept k) (I.hok.kept k)
theorem Inv.laid (I:Inv X g p H s) (k:∀ b u,s.heap.get? b=some u->l.get? b=some u) (j:s.heap.objs.size<=a) (new:nV X.prog X.w (upd H a o) l a o) :
  Inv X g p (upd H a o) { s with heap:=l,toks:=t' }:=I.un (Un.laid k j (I.hok.fresh j)) (I.hok.laid k j new)
theorem Inv.write (I:Inv X j C H s) (r:Dy (H x)) (p:e=x\/H e=some (.o x)) (k:∀ b u,b≠e->s.heap.get? b=some u->l.get? b=some u) (g:∃ u,l.get? e=some u)
  (new:nV X.prog X.w (upd H x o) l x o):Inv X j C (upd H x o) { s with heap:=l,toks:=J }:=I.un (Un.write r p k g) (I.hok.write r p k g new)
theorem Inv.pins_of (I:Inv X j l H s) (h:∀ p∈g,s.heap.get? p.1=some p.2/\H p.1=none/\p.1≠X.env.locals/\p.1∉X.fs/\∀ v,p.2.data ≠ .cell v):Inv X g l H s :=
 ⟨I.ok,I.os,I.bare,I.base,I.loc,I.cell,I.free,I.freeC,λp a=>(aV.mp a).elim (λz=>I.pin p (aL _ z)) (h p),I.hok,I.len⟩
theorem Vn {N:Aa Af}(g:N.Nodup){i j:Nat}{x:Af}(a:N[i]?=some x) (b:N[j]?=some x):i=j:=by
 obtain⟨e,c⟩:=aU.mp a;obtain⟨f,d⟩:=aU.mp b;exact (List.getElem_inj g).mp (c.trans d.symm)
theorem Td (I:Inv X J σ H s) (hN:X.N.Nodup) (l:X.N[i]?=some x) (g:vL X.env.scope x) (r:mC v u)
  (h:∀ s',Inv X J (σ.set i (some v)) H s'->(∃ a,Heap.SameBut a s.heap s'.heap/\(a=X.env.locals\/X.env.cells.lookup x=some a))->Q () s') (hf:X.fn x=true\/X.env.scope.names.lookup x=some .local:=by first | exact .inl rfl | exact .inr rfl | assumption):wpAny M A (storeName X.env x u) Q E s:=by
 obtain⟨m,hn,hl⟩:=id I.loc;have Y:(X.env.scope.kind == .class||(X.env.scope.kind == .module&&X.env.locals != X.env.globals))=false:=by rw[I.ok.kind];rfl
 have K:i<σ.length:=by rw[I.len];exact (aU.mp l).1
 have cne:=I.cne;have B:∀ {a:Ad} {S:Ag},(∃ o,s.heap.get? a=some o/\H a=none)->Heap.SameBut a s.heap S->nP X.prog X.w H S:=λ{a S} ha f b ob e=>by
  obtain⟨_,_,F⟩:=ha;refine (I.hok b ob e).stay (λc U D q=>(f.2 c ?_).trans q) (λ_ q=>q) λ_ _ q=>q
  rintro rfl;rcases D with rfl | D
  .rw[F] at e;cases e
  .rw[F] at D;cases D
 rcases g with L | L
 .refine wpAny_storeName_local L hn (λS aa f=>?_) Y;obtain⟨oL,_,_,ab,_⟩:=id hn;refine h _ ⟨I.ok,I.os,I.bare,⟨λb o e n O g=>?_,λb o e n O g=>?_,I.base.free,λb o e g=>?_,I.base.tups,I.base.frzs,I.base.tbls⟩,⟨_,aa,λj y v' t G e3=>?_⟩,λy c e=>?_,I.free,I.freeC,λp hp=>?_,B ⟨oL,ab,I.free⟩ f,by simpa using I.len⟩ ⟨_,f,.inl rfl⟩
  .exact (f.2 b (bH (bD (aY e) I.ok.above))).trans (I.base.keep b o e n O g)
  .obtain⟨sl,t⟩:=I.base.slot b o e n O g;exact⟨sl,(f.2 b (bH (bD (aY e) I.ok.above))).trans t⟩
  .obtain⟨o',t⟩:=I.base.there b o e g;exact⟨o',(f.2 b (bH (bD (aY e) I.ok.above))).trans t⟩
  .by_cases R:j=i
   .subst R;rw[l] at t;cases t;rw[List.getElem?_set_self K] at G;cases G;exact⟨u,r,.inl ⟨L,by simp⟩⟩
   .rw[eL (cY R)] at G;obtain⟨u',r',q⟩:=hl j y v' t G e3;refine⟨u',r',?_⟩;rcases q with⟨k,e⟩ | ⟨k,c,e,z⟩
    .refine .inl ⟨k,?_⟩;have:y≠x:=λe=>R (Vn hN t (e▸l))
     simp[this,e]
    .exact .inr ⟨k,c,e,z.sameBut f (cne y c e)⟩
  .obtain⟨U,z⟩:=I.cell y c e;exact⟨U,z.sameBut f (cne y c e)⟩
  .obtain⟨e,n,ne,nf,d⟩:=I.pin p hp;exact⟨(f.2 p.1 ne).trans e,n,ne,nf,d⟩
 .have P:X.fn x=true:=by
   rcases hf with z | z
   .exact z
   .rw[z] at L;cases L
  obtain⟨c,D⟩:=I.ok.has x (.inl L);obtain⟨U,z⟩:=I.cell x c D;refine wpAny_storeName_cell I.ok.kind L D z (λS V f=>?_);obtain⟨oc,Z,C⟩:=id z;refine h { s with heap:=S } ⟨I.ok,I.os,I.bare,⟨λb o e n O g=>?_,λb o e n O g=>?_,I.base.free,λb o e g=>?_,I.base.tups,I.base.frzs,I.base.tbls⟩,⟨m,hn.sameBut f (cY (cne x c D)),λj y v' t G e3=>?_⟩,λy T e=>?_,I.free,I.freeC,λp hp=>?_,B ⟨oc,Z,I.freeC x c D⟩ f,by simpa using I.len⟩ ⟨c,f,.inr D⟩
  .exact (f.2 b (bH (bD (aY e) (I.ok.cab x c P D)))).trans (I.base.keep b o e n O g)
  .obtain⟨sl,t⟩:=I.base.slot b o e n O g;exact⟨sl,(f.2 b (bH (bD (aY e) (I.ok.cab x c P D)))).trans t⟩
  .obtain⟨o',t⟩:=I.base.there b o e g;exact⟨o',(f.2 b (bH (bD (aY e) (I.ok.cab x c P D)))).trans t⟩
  .by_cases R:j=i
   .subst R;rw[l] at t;cases t;rw[List.getElem?_set_self K] at G;cases G;exact⟨u,r,.inr ⟨.inl L,c,D,V⟩⟩
   .rw[eL (cY R)] at G;obtain⟨u',r',q⟩:=hl j y v' t G e3;refine⟨u',r',?_⟩;rcases q with q | ⟨k,T,e,z'⟩
    .exact .inl q
    .refine .inr ⟨k,T,e,z'.sameBut f ?_⟩;rintro rfl;exact R (Vn hN t (I.ok.inj _ _ _ e D▸l))
  .by_cases W:T=c
   .subst W;exact⟨_,V⟩
   .obtain⟨w2,z2⟩:=I.cell y T e;exact⟨w2,z2.sameBut f W⟩
  .obtain⟨e,n,ne,nf,d⟩:=I.pin p hp;refine⟨(f.2 p.1 ?_).trans e,n,ne,nf,d⟩;intro q;rw[q,Z] at e;have q':oc=p.2:=bN e;exact d U (by rw[<- q'];exact C)
theorem Im (I:Inv X g J H s) (l:X.N.Nodup) (p:X.N[i]?=some x) (C:vL X.env.scope x) (r:mC v u)
  (h:∀ j,Inv X g (J.set i (some v)) H j->Q () j) (o:X.fn x=true\/X.env.scope.names.lookup x=some .local:=by first | exact .inl rfl | exact .inr rfl | assumption):wpAny M A (storeName X.env x u) Q E s :=
 Td I l p C r (λj a _=>h j a) o
theorem Inv.call' (I:Inv X g J H s) (C:s'.os=s.os) (u:Un (tX X.stack) ch H o s.heap s'.heap) (l:nP X.prog X.w o s'.heap) (r:AllBare s'.gens)
  (j:∀ b∈ch,(b∈X.ex\/X.s₀.heap.objs.size<=b)/\b≠X.env.locals/\(∀ x c,X.env.cells.lookup x=some c->c≠b)/\∀ p∈X.pn++g,p.1≠b):Inv X g J o s':=by
 obtain⟨i,d,a,h,f⟩:=s';have e:f=s.os:=C;subst e;exact I.call (g':=d) (t':=h) (d':=a) u l r j
end
abbrev XK:=Ac->Ab Ad->Hp->Prop
abbrev St:=Aa (Ab V)
abbrev VK:=V->Hp->Prop
abbrev TE:=St->Hp->VK->Prop
abbrev TT:=St->Hp->(Bool->Hp->Prop)->Prop
abbrev TA:=St->Hp->(Aa V->Hp->Prop)->Prop
structure Ends where
 nx:St->Hp->Prop
 rt:VK
 bk:St->Hp->Prop:=λ_ _=>False
 ct:St->Hp->Prop:=λ_ _=>False
abbrev TS:=Ends->St->Hp->Prop
def EP (X:Cx) (g:Aa (Ad×Obj)) (l:St) (Q:VK) (u:Ac) (j:Ae):Prop:=∃ v a,Inv X g l a j/\mC v u/\Q v a
def TP (X:Cx) (g:Aa (Ad×Obj)) (l:St) (Q:Bool->Hp->Prop) (b:Bool) (j:Ae):Prop:=∃ a,Inv X g l a j/\Q b a
def AP (X:Cx) (g:Aa (Ad×Obj)) (o:St) (Q:Aa V->Hp->Prop) (l:Aa Ac) (j:Ae):Prop:=∃ b a,Inv X g o a j/\mB b l/\Q b a
def SP (X:Cx) (g:Aa (Ad×Obj)) (D:Ends) (f:Flow) (j:Ae):Prop :=
 match f with
 | .next=>∃ a b,Inv X g a b j/\D.nx a b
 | .brk=>∃ a b,Inv X g a b j/\D.bk a b
 | .cont=>∃ a b,Inv X g a b j/\D.ct a b
 | .ret u=>∃ v a b,Inv X g a b j/\mC v u/\D.rt v b
def PE (X:Cx) (e:Expr) (t:TE):Prop :=
 ∀ (a:Aa (Ad×Obj)) (s:Ae) (b:St) (H:Hp) (Q:VK),Inv X a b H s->t b H Q->wpAny (model X.prog X.w) X.A (eval e X.env) (EP X a b Q) X.xe s
def PT (X:Cx) (e:Expr) (t:TT):Prop :=
 ∀ (a:Aa (Ad×Obj)) (s:Ae) (b:St) (H:Hp) (Q:Bool->Hp->Prop),Inv X a b H s->t b H Q->wpAny (model X.prog X.w) X.A (isTrue e X.env (eval e X.env)) (TP X a b Q) X.xe s
def PW (X:Cx) (e:Expr) (t:TT):Prop :=
 ∀ (whole:Sem Ac) (a:Aa (Ad×Obj)) (s:Ae) (b:St) (H:Hp) (Q:Bool->Hp->Prop),Inv X a b H s->t b H Q->wpAny (model X.prog X.w) X.A (isTrue e X.env whole) (TP X a b Q) X.xe s
theorem PW.pt {X:Cx}(h:PW X e t):PT X e t:=h _
def PA (X:Cx) (g:Aa Expr) (t:TA):Prop :=
 ∀ (pos:Pos) (a:Aa (Ad×Obj)) (s:Ae) (b:St) (H:Hp) (Q:Aa V->Hp->Prop),Inv X a b H s->t b H Q->wpAny (model X.prog X.w) X.A (spliced (backTo pos (starEach g X.env))) (AP X a b Q) X.xe s
def PS (X:Cx) (st:Stmt) (t:TS):Prop :=
 ∀ (a:Aa (Ad×Obj)) (s:Ae) (b:St) (H:Hp) (D:Ends),Inv X a b H s->t D b H->wpAny (model X.prog X.w) X.A (exec st X.env) (SP X a D) X.xe s
def pE (X:Cx) (st:Aa Stmt) (t:TS):Prop :=
 ∀ (a:Aa (Ad×Obj)) (s:Ae) (b:St) (H:Hp) (D:Ends),Inv X a b H s->t D b H->wpAny (model X.prog X.w) X.A (execs st X.env) (SP X a D) X.xe s
theorem lQ (h:wpAny M A t Q E s) (j:∀ a s,Q a s->g a s):wpAny M A t g E s:=cS h j λ_ _ x=>x
section
variable {X:Cx}
def oY (i:Nat):TE:=λa H Q=>∃ v,a[i]?=some (some v)/\Q v H
def tC (v:V):TE:=λ_ H Q=>Q v H
theorem IE (j:X.N[i]?=some x) (o:Gm X.env.scope x) (hd:(x == ("__debug__" : Af))=false:=by decide) (g:(x == ("__classdict__" : Af))=false:=by decide):PE X (.Name x pos) (oY i):=by
 intro d s t H Q I h;obtain⟨v,e,h⟩:=h;obtain⟨m,q,k⟩:=I.loc;obtain⟨u,r,l⟩:=k i x v j e o;have fin:EP X d t Q u s:=⟨v,H,I,r,h⟩;rcases l with⟨b,n⟩ | ⟨b,c,f,a⟩
 .exact wpAny_Name (wpAny_loadName_local I.ok.kind b q n fin) hd
 .rcases b with b | b
  .exact wpAny_Name (wpAny_loadName_cell I.ok.kind b f a fin) hd
  .exact wpAny_Name (wpAny_loadName_free I.ok.kind b f a fin g) hd
theorem mT {i j pos}:PE X (.Constant (.int i) j pos) (tC (.int i)):=λ_ _ _ H _ I h=>wpAny_Constant_int ⟨.int i,H,I.tok _,⟨_,rfl⟩,h⟩
theorem Yn {b j pos}:PE X (.Constant (.bool b) j pos) (tC (.b b)):=λ_ _ _ H _ I h=>Constant_bool ⟨.b b,H,I,rfl,h⟩
theorem N6 {j pos}:PE X (.Constant .none j pos) (tC .e):=λ_ _ _ H _ I h=>Constant_none ⟨.e,H,I,rfl,h⟩
theorem uZ {x j pos}:PE X (.Constant (.str x) j pos) (tC (.str x)):=λ_ _ _ H _ I h=>Calls.Constant_str ⟨.str x,H,I.tok _,⟨_,rfl⟩,h⟩
def Gl (X:Cx) (x:Af):Prop:=X.env.kindOf x=some .globalImplicit
theorem P0 (I:Inv X g o H s) (j:Gl X x) (l:X.mg x=some u) (h:Q u s)
  (hd:(x == ("__debug__" : Af))=false:=by decide):wpAny (model X.prog X.w) X.A (eval (.Name x pos) X.env) Q E s :=
 Calls.Name_function_global I.ok.kind j (Calls.loadGlobal_global (by rw[I.ok.glob];exact I.mod.glob.keeps I.bk) l h) hd
theorem xA (I:Inv X g r H s) (j:Gl X x) (l:X.mg x=none) (p:bootBuiltins x=some u) (h:Q u s)
  (o:x ≠ "__name__" := by decide) (hd:(x == ("__debug__" : Af))=false:=by decide):wpAny (model X.prog X.w) X.A (eval (.Name x pos) X.env) Q E s:=by
 obtain⟨c,a,b⟩:=I.mod.blt;exact Calls.Name_function_global I.ok.kind j (Calls.loadGlobal_builtin (by rw[I.ok.glob];exact I.mod.glob.keeps I.bk) l (by rw[I.ok.blt];exact a.keeps I.bk) ((b x o).trans p) h) hd
def PC (X:Cx) (op:CmpOp) (a b:Expr) (t:TE):Prop :=
 ∀ (c:Aa (Ad×Obj)) (s:Ae) (f:St) (H:Hp) (Q:VK),Inv X c f H s->t f H Q ->
  wpAny (model X.prog X.w) X.A (eval a X.env) (λv d=>wpAny (model X.prog X.w) X.A (eval b X.env) (λu e=>wpAny (model X.prog X.w) X.A (compareOp op v u) (EP X c f Q) X.xe e) X.xe d) X.xe s
def tB (t:TE):TT:=λd H Q=>t d H λx a=>∃ c,x = .b c/\Q c a
theorem MR (h:PC X op a b t) (g:behindInMarks op b=false:=by first | exact nobehind _ (by decide) (by decide) | rfl):PT X (.Compare a [op] [b] pos) (tB t):=by
 intro e s y H Q I hw;refine wpAny_isTrue_Compare1 (lQ (h e s y H _ I hw) λv z g=>lQ g λu A m=>lQ m λc B f=>?_) g;obtain⟨x,i,k,w,n⟩:=f;obtain⟨d,rfl,q⟩:=n;cases w;exact eQ ⟨i,k,q⟩
variable {rest:Aa Expr}
def W8 (t u:TT):TT:=λb H Q=>t b H λc a=>if c=true then u b a Q else Q false a
def MV (t u:TT):TT:=λb H Q=>t b H λc a=>if c=true then Q true a else u b a Q
def ON (t:TT):TT:=λb H Q=>t b H λc a=>Q (!c) a
theorem Np (g:PT X a j):PW X (.BoolOp .And [a] pos) j:=by
 intro i b s d H Q I h;refine isTrue_and (lQ (g b s d H Q I h) λc f e=>?_);cases c with
 | true=>exact isTrue_and_nil e
 | false=>exact e
theorem Zr (g:PT X a j):PW X (.BoolOp .Or [a] pos) j:=by
 intro i b s d H Q I h;refine isTrue_or (lQ (g b s d H Q I h) λc f e=>?_);cases c with
 | false=>exact isTrue_or_nil e
 | true=>exact e
theorem U8 (j:PT X a o) (l:PW X (.BoolOp .And (b::rest) pos) g):PW X (.BoolOp .And (a::b::rest) pos) (W8 o g):=by
 intro q d s m H Q I h;refine isTrue_and (lQ (j d s m H _ I h) λc n e=>?_);obtain⟨f,i,k⟩:=e;cases c with
 | true=>exact l q d n m f Q i k
 | false=>exact⟨f,i,k⟩
theorem OS (j:PT X a o) (l:PW X (.BoolOp .Or (b::rest) pos) g):PW X (.BoolOp .Or (a::b::rest) pos) (MV o g):=by
 intro q d s m H Q I h;refine isTrue_or (lQ (j d s m H _ I h) λc n e=>?_);obtain⟨f,i,k⟩:=e;cases c with
 | true=>exact⟨f,i,k⟩
 | false=>exact l q d n m f Q i k
theorem FJ (g:PT X a j):PT X (.UnaryOp .Not a pos) (ON j):=by
 intro b s e H Q I h;exact isTrue_not (g b s e H (λc d=>Q (!c) d) I h)
def Wi (g j:TE):TE:=λd H Q=>g d H λx a=>∃ c,x = .b c/\if c=true then j d a Q else Q (.b false) a
def Y4 (g j:TE):TE:=λd H Q=>g d H λx a=>∃ c,x = .b c/\if c=true then Q (.b true) a else j d a Q
theorem DH {op}(h:PE X a t):PE X (.BoolOp op [a] pos) t:=λb s c H Q I hw=>BoolOp_one (h b s c H Q I hw)
theorem Xi (g:PE X a l) (j:PE X (.BoolOp .And (b::rest) pos) o):PE X (.BoolOp .And (a::b::rest) pos) (Wi l o):=by
 intro d s m H Q I h;refine BoolOp_and (lQ (g d s m H _ I h) λv q f=>?_);obtain⟨x,i,k,n,e⟩:=f;obtain⟨c,rfl,e⟩:=e;cases n;refine eQ ?_;cases c with
 | true=>exact j d q m i Q k e
 | false=>exact⟨.b false,i,k,rfl,e⟩
theorem Wf (g:PE X a l) (j:PE X (.BoolOp .Or (b::rest) pos) o):PE X (.BoolOp .Or (a::b::rest) pos) (Y4 l o):=by
 intro d s m H Q I h;refine BoolOp_or (lQ (g d s m H _ I h) λv q f=>?_);obtain⟨x,i,k,n,e⟩:=f;obtain⟨c,rfl,e⟩:=e;cases n;refine eQ ?_;cases c with
 | false=>exact j d q m i Q k e
 | true=>exact⟨.b true,i,k,rfl,e⟩
def DE (t:TT) (g j:TE):TE:=λa H Q=>t a H λc b=>if c=true then g a b Q else j a b Q
theorem Z2 (l:PT X c o) (g:PE X a p) (j:PE X b r):PE X (.IfExp c a b pos) (DE o p r):=by
 intro e s i H Q I h;refine wpAny_IfExp (lQ (l e s i H _ I h) λd q f=>?_);obtain⟨k,m,n⟩:=f;cases d with
 | true=>exact g e q i k Q m n
 | false=>exact j e q i k Q m n
end
def lO (K:lL) (H:Hp) (a:Ad) (g:Aa V):Prop :=
 Rd H a (.l g) \/
  ∃ (o:Obj) (b:Array Ac) (n:Nat),K.lookup a=some o/\o.cls = .type "list" /\ o.dict=none/\o.data = .seq b n/\b.size<=sizeLine/\mB g b.toList
def mF (K:lL) (H:Hp) (a:Ad) (g:Aa V):Prop :=
 Rd H a (.t g) \/
  ∃ (o:Obj) (b:Array Ac) (n:Nat),K.lookup a=some o/\o.cls = .type "tuple" /\ o.data = .seq b n/\b.size<=sizeLine/\mB g b.toList
noncomputable def HQ:Ac->Ab V
 | .none=>some .e
 | .bool b=>some (.b b)
 | .int i _=>some (.int i)
 | .str x _=>some (.str x)
 | .bytes b _=>some (.byt b)
 | .float b _=>some (.flt b)
 | .ref a=>some (.ref a)
 | .type n=>some (.ty n)
 | _=>none
theorem mC.abs (r:mC x u):HQ u=some x:=by
 cases x with
 | e=>cases r;rfl
 | b _=>cases r;rfl
 | int _=>obtain⟨t,rfl⟩:=r;rfl
 | str _=>obtain⟨t,rfl⟩:=r;rfl
 | byt _=>obtain⟨t,rfl⟩:=r;rfl
 | flt _=>obtain⟨t,rfl⟩:=r;rfl
 | ref _=>cases r;rfl
 | ty _=>cases r;rfl
theorem mC.inj (r:mC x u) (q:mC y u):x=y:=bN (r.abs.symm.trans q.abs)
theorem mB.inj:∀ {j l:Aa V}{g:Aa Ac},mB j g->mB l g->j=l
 | _,_,_,.nil,.nil=>rfl
 | _,_,_,.cons r t,.cons a b=>by rw[r.inj a,mB.inj t b]
section
variable {X:Cx}
theorem lO.of {K:lL}(h:H a=some (.l g)):lO K H a g:=.inl (.inl h)
theorem mF.of {K:lL}(h:H a=some (.t g)):mF K H a g:=.inl (.inl h)
theorem Inv.list (I:Inv X j p H s) (h:lO X.K H a l):∃ g:Aa Ac,mB l g/\PlainL s.heap a g.toArray/\l.length<=sizeLine:=by
 rcases h with h | ⟨o,g,n,c,b,hd,d,f,r⟩
 .obtain⟨z,g,n,r,e⟩:=h.ok I.hok;exact⟨g,r,⟨_,n,e,rfl,rfl,rfl⟩,z⟩
 .refine⟨g.toList,r,⟨o,n,I.kIn a o c,b,hd,by simpa using d⟩,?_⟩;have e:=r.length;simp only[fH] at e;omega
theorem Inv.tuple (I:Inv X j C H s) (h:mF X.K H a l):∃ g:Aa Ac,mB l g/\IsTup s.heap a g.toArray/\l.length<=sizeLine:=by
 rcases h with h | ⟨o,g,n,c,b,d,f,r⟩
 .obtain⟨z,g,r,p,_⟩:=h.ok I.hok;exact⟨g,r,p,z⟩
 .refine⟨g.toList,r,⟨o,I.kIn a o c,b,n,by simpa using d⟩,?_⟩;have e:=r.length;simp only[fH] at e;omega
theorem Inv.list_inj (I:Inv X g C H s) (h:lO X.K H a l) (j:lO X.K H a p):l=p:=by
 obtain⟨c,r,⟨o,n,e,_,_,d⟩,_⟩:=I.list h;obtain⟨b,k,⟨q,m,i,_,_,f⟩,_⟩:=I.list j;rw[e] at i;cases i;rw[d] at f;injection f with d1 _;have:c=b:=by simpa using bY Array.toList d1
 subst this;exact r.inj k
theorem Inv.tuple_inj (I:Inv X g C H s) (h:mF X.K H a l) (j:mF X.K H a p):l=p:=by
 obtain⟨c,r,⟨o,e,_,n,d⟩,_⟩:=I.tuple h;obtain⟨b,k,⟨q,i,_,m,f⟩,_⟩:=I.tuple j;rw[e] at i;cases i;rw[d] at f;injection f with d1 _;have:c=b:=by simpa using bY Array.toList d1
 subst this;exact r.inj k
end
noncomputable abbrev Cx.wish (X:Cx) (E:Ac->Ae->Prop):Cx:={ X with xe:=E }
abbrev Cx.nox (X:Cx):Cx:=X.wish λ_ _=>False
theorem Cx.Ok.wish {X:Cx}(ok:X.Ok) (E:Ac->Ae->Prop):(X.wish E).Ok :=
 ⟨ok.mod,ok.kind,ok.glob,ok.blt,ok.above,ok.inj,ok.has,ok.cab,ok.hd,ok.frames,ok.stk,ok.exf,ok.bs,ok.bsz,ok.noex,ok.exfs,ok.funs,ok.frf⟩
theorem Cx.Ok.unwish {X:Cx}(ok:(X.wish E).Ok):X.Ok :=
 ⟨ok.mod,ok.kind,ok.glob,ok.blt,ok.above,ok.inj,ok.has,ok.cab,ok.hd,ok.frames,ok.stk,ok.exf,ok.bs,ok.bsz,ok.noex,ok.exfs,ok.funs,ok.frf⟩
section
variable {X:Cx}
theorem Inv.wish (I:Inv X g j H s) (E:Ac->Ae->Prop):Inv (X.wish E) g j H s:=⟨I.ok.wish E,I.os,I.bare,I.base,I.loc,I.cell,I.free,I.freeC,I.pin,I.hok,I.len⟩
theorem Inv.unwish (I:Inv (X.wish E) g j H s):Inv X g j H s:=⟨I.ok.unwish,I.os,I.bare,I.base,I.loc,I.cell,I.free,I.freeC,I.pin,I.hok,I.len⟩
theorem SP.unwish {D:Ends}(h:SP (X.wish E) g D f j):SP X g D f j:=by
 cases f with
 | next=>obtain⟨a,b,I,q⟩:=h;exact⟨a,b,I.unwish,q⟩
 | brk=>obtain⟨a,b,I,q⟩:=h;exact⟨a,b,I.unwish,q⟩
 | cont=>obtain⟨a,b,I,q⟩:=h;exact⟨a,b,I.unwish,q⟩
 | ret u=>obtain⟨v,a,b,I,r,q⟩:=h;exact⟨v,a,b,I.unwish,r,q⟩
theorem pE.nox {st:Aa Stmt}(h:pE X.nox st t):pE X st t:=λa s b H D I hw =>
 cS (h a s b H D (I.wish _) hw) (λ_ _ q=>q.unwish) λ_ _ z=>False.elim z
end
section
variable {X:Cx}{st:Stmt}{rest:Aa Stmt}
def Zc:TS:=λD a H=>D.nx a H
def Ki (t u:TS):TS:=λD a H=>t { D with nx:=u D } a H
theorem Bu:pE X [] Zc:=λ_ _ a H _ I h=>kA ⟨a,H,I,h⟩
theorem pD (g:PS X st t) (j:pE X rest u):pE X (st::rest) (Ki t u):=by
 intro a s i H D I h;refine wpAny_execs_cons (lQ (g a s i H { D with nx:=u D } I h) λf e q=>?_);cases f with
 | next =>
  obtain⟨b,c,d,q⟩:=q;exact j a e b c D d q
 | ret v=>exact q
 | brk=>exact q
 | cont=>exact q
theorem qJ (g:PS X st t):pE X [st] t:=by
 intro a s b H D I h;refine wpAny_execs_cons (lQ (g a s b H D I h) λf c q=>?_);cases f with
 | next=>exact kA q
 | ret v=>exact q
 | brk=>exact q
 | cont=>exact q
theorem Inv.quiet (I:Inv X g j H s):interactive X.env=false:=by simp[interactive,I.ok.kind]
def Oj (g:TE):TS:=λD a H=>g a H λ_ b=>D.nx a b
theorem Ju (g:PE X e l) (j:swapsWith e none pos.line X.env=pure false:=by rfl):PS X (.Expr e pos) (Oj l):=by
 intro a s b H D I h;exact wpAny_Expr_any (lQ (g a s b H _ I h) λv k ⟨x,c,d,i,f⟩=>⟨b,c,d,f⟩) I.quiet j
def Qu (g:TE):TS:=λD a H=>g a H D.rt
theorem wZ (g:PE X e j):PS X (.Return (some e) pos) (Qu j):=by
 intro a s b H D I h;exact wpAny_Return_some (lQ (g a s b H _ I h) λv k ⟨x,c,d,i,f⟩=>⟨x,b,c,d,i,f⟩)
def IQ (c:TT) (t u:TS):TS:=λD a H=>c a H λb d=>if b=true then t D a d else u D a d
theorem zI (l:PT X c o) (g:pE X a t) (j:pE X b u):PS X (.If c a b pos) (IQ o t u):=by
 intro e s i H D I h;refine wpAny_If (lQ (l e s i H _ I h) λd q f=>?_);obtain⟨k,m,n⟩:=f;cases d with
 | true=>exact g e q i k D m n
 | false=>exact j e q i k D m n
def W3:TS:=λ_ _ _=>False
theorem AX:PS X st W3:=λ_ _ _ _ _ _ h=>h.elim
end
abbrev TG:=V->St->Hp->(St->Hp->Prop)->Prop
abbrev yS:=Aa V->St->Hp->(St->Hp->Prop)->Prop
def PG (X:Cx) (target:Expr) (t:TG):Prop :=
 ∀ (a:Aa (Ad×Obj)) (s:Ae) (d:St) (H:Hp) (v:V) (u:Ac) (Q:St->Hp->Prop),Inv X a d H s->mC v u->t v d H Q ->
  wpAny (model X.prog X.w) X.A (assign target X.env u) (λ_ e=>∃ b c,Inv X a b c e/\Q b c) X.xe s
def wY (X:Cx) (g:Aa Expr) (t:yS):Prop :=
 ∀ (a:Aa (Ad×Obj)) (s:Ae) (f:St) (H:Hp) (e:Aa V) (d:Aa Ac) (Q:St->Hp->Prop),Inv X a f H s->mB e d->t e f H Q ->
  wpAny (model X.prog X.w) X.A (assignInOrder ((assignEach g X.env).map (·.2)) d) (λ_ h=>∃ b c,Inv X a b c h/\Q b c) X.xe s
abbrev Lh:=V->V->V->Hp->(Hp->Prop)->Prop
def J5 (X:Cx) (t:Lh):Prop :=
 ∀ (a:Aa (Ad×Obj)) (s:Ae) (e:St) (H:Hp) (o i v:V) (d c u:Ac) (Q:Hp->Prop),Inv X a e H s->mC o d->mC i c->mC v u->t o i v H Q ->
  wpAny (model X.prog X.w) X.A (setItem d c u) (λ_ f=>∃ b,Inv X a e b f/\Q b) X.xe s
abbrev Km:=V->V->Hp->VK->Prop
def Ml (X:Cx) (op:Operator) (t:Km):Prop :=
 ∀ (a:Aa (Ad×Obj)) (s:Ae) (b:St) (H:Hp) (x y:V) (v u:Ac) (Q:VK),Inv X a b H s->mC x v->mC y u->t x y H Q ->
  wpAny (model X.prog X.w) X.A (inplaceOp op v u) (EP X a b Q) X.xe s
section
variable {X:Cx}
def vY (i:Nat):TG:=λv a H Q=>Q (a.set i (some v)) H
theorem sD (g:X.N.Nodup) (l:X.N[i]?=some x) (o:vL X.env.scope x) (j:X.fn x=true\/X.env.scope.names.lookup x=some .local:=by first | exact .inl rfl | exact .inr rfl | assumption):PG X (.Name x pos) (vY i):=by
 intro a s d H v u Q I r h;exact wpAny_assign_Name (Im I g l o r (λc b=>⟨_,H,b,h⟩) j)
def BW:yS:=λa b H Q=>a=[]/\Q b H
def ME (t:TG) (u:yS):yS:=λc d H Q=>∃ v r,c=v::r/\t v d H λa b=>u r a b Q
theorem KN:wY X [] BW:=by
 intro a s b H d c Q I r h;obtain⟨e,h⟩:=h;subst e;cases r;exact assignInOrder_nil ⟨b,H,I,h⟩
theorem Zd (j:PG X e t) (l:wY X g u)
  (o:(assignEach (e::g) X.env).map (·.2)=assign e X.env::(assignEach g X.env).map (·.2):=by rfl):wY X (e::g) (ME t u):=by
 intro a s q H y w Q I r h;obtain⟨v,x,i,h⟩:=h;subst i;cases r with
 | cons r m =>
  rw[o];refine assignInOrder_cons (lQ (j a s q H _ _ _ I r h) λ_ n b=>?_);obtain⟨c,d,f,k⟩:=b;exact l a n c d _ _ Q f m k
def KY (K:lL) (n:Nat) (t:yS):TG:=λv c H Q=>∃ a b,v = .ref a/\mF K H a b/\b.length=n/\t b c H Q
theorem IJ (l:X.calm=true) (h:wY X g t)
  (p:(assignEach g X.env).length=n:=by rfl) (j:(assignEach g X.env).findIdx? (·.1)=none:=by rfl):PG X (.Tuple g k pos) (KY X.K n t):=by
 intro c s f H v u Q I r hw;obtain⟨a,B,m,x,w,hw⟩:=hw;subst m;cases r;obtain⟨A,d,y,D⟩:=I.tuple x;refine assign_Tuple_tuple (I.ok.hd l) y (by simp[p,<- w,d.length]) j λq z=>?_
 have i:Inv X c f H { s with heap:=q }:=I.kept (t':=s.toks) λb o e=>z b o (bH (aY e)) e
 exact h c _ f H B _ Q i (by simpa using d) hw
def Yh (j g:TE) (t:Lh):TG:=λv a H Q=>j a H λo b=>g a b λi c=>t o i v c λd=>Q a d
theorem G8 (C:PE X o U) (p:PE X i T) (J:J5 X t)
  (l:∀ v,assign (.Subscript o i pos) X.env v=(do
   let g <- holding [v] (eval o X.env);let j <- holding [v,g] (eval i X.env)
   standAt pos
   holding [v,g,j] (setItem g j v)
   release [v,g,j] []):=by intro _;rfl):PG X (.Subscript o i pos) (Yh U T t):=by
 intro b s c H v u Q I r h;rw[l];refine aB (bX (lQ (C b s c H _ I h) λg D a=>?_));obtain⟨x,d,k,A,q⟩:=a;refine aB (bX (lQ (p b D c d _ k q) λj E a=>?_));obtain⟨y,e,m,B,w⟩:=a;refine aB (kZ (aB (bX (lQ (J b E c e x y v g j u _ m A B r w) λ_ F a=>?_))));obtain⟨f,n,z⟩:=a;exact wpAny_release ⟨c,f,n,z⟩
def Mn (j:TE) (g:TG):TS:=λD a H=>j a H λx b=>g x a b D.nx
theorem Ch (o:PE X e C) (p:PG X j g) (r:swapsWithSole [j] e pos.line X.env=pure false:=by rfl) (hw:swappedStores [j] e X.env=pure none:=by rfl)
  (l:(assignEach [j] X.env).map (·.2)=[assign j X.env]:=by rfl):PS X (.Assign [j] e pos) (Mn C g):=by
 intro a s c H D I h;refine wpAny_Assign_stores (lQ (o a s c H _ I h) λv m b=>?_) r hw;obtain⟨x,d,f,k,i⟩:=b;rw[l];exact lQ (p a m c d x v _ f k i) λ_ n q=>q
theorem oQ {i:Nat}{x:Af}{e:Expr}{j:TE}{g:Pos}(l:X.N.Nodup) (r:X.N[i]?=some x) (J:vL X.env.scope x) (o:PE X e j) (C:swapsWith e (some (.Name x g)) pos.line X.env=pure false:=by rfl) (p:X.fn x=true\/X.env.scope.names.lookup x=some .local:=by first | exact .inl rfl | exact .inr rfl | assumption) :
  PS X (.Assign [.Name x g] e pos) (Mn j (vY i)):=by
 intro a s n H D I h;refine wpAny_Assign_Name (lQ (o a s n H _ I h) λv q b=>?_) C;obtain⟨y,c,d,m,k⟩:=b;exact Im d l r J m (λt f=>⟨_,c,f,k⟩) p
def AS (i:Nat) (g:TE) (j:Km):TS:=λD a H=>∃ x,a[i]?=some (some x)/\g a H λy b=>j x y b λz c=>D.nx (a.set i (some z)) c
theorem MD (p:X.N.Nodup) (j:X.N[i]?=some x) (g:vL X.env.scope x) (C:PE X e U) (T:Ml X op ti) (J:X.fn x=true\/X.env.scope.names.lookup x=some .local:=by first | exact .inl rfl | exact .inr rfl | assumption) :
  PS X (.AugAssign (.Name x o) op e pos) (AS i U ti):=by
 intro a s B H D I h;obtain⟨v,M,h⟩:=h;obtain⟨m,R,P⟩:=I.loc;have t:Gm X.env.scope x:=by rcases g with k | k;exact .inl k;exact .inr (.inl k)
 obtain⟨u,r,l⟩:=P i x v j M t;refine wpAny_AugAssign_Name ?_;have go:wpAny (model X.prog X.w) X.A (eval e X.env) (λw n=>wpAny (model X.prog X.w) X.A (inplaceOp op u w) (λr q=>wpAny (model X.prog X.w) X.A (storeName X.env x r) (λ_=>SP X a D .next) X.xe q) X.xe n) X.xe s:=by
  refine lQ (C a s B H _ I h) λw Z f=>?_
  obtain⟨y,E,G,W,S⟩:=f;refine lQ (T a Z B E v y u w _ G r W S) λz s2 f=>?_
  obtain⟨zv,F,K,Y,V⟩:=f;exact Im K p j g Y (λs3 L=>⟨_,F,L,V⟩) J
 rcases l with⟨b,Q⟩ | ⟨b,c,O,d⟩
 .exact wpAny_loadName_local I.ok.kind b R Q go
 .rcases b with b | b
  .exact wpAny_loadName_cell I.ok.kind b O d go
  .rcases g with k | k
   .have:X.env.scope.names.lookup x=some .free:=b;rw[k] at this;cases this
   .have:X.env.scope.names.lookup x=some .free:=b;rw[k] at this;cases this
def P2 (f:Int->Int->Int):Km:=λx y H Q=>∃ i j,x = .int i/\y = .int j/\Q (.int (f i j)) H
theorem Pd:Ml X .Add (P2 λi j=>i+j):=by
 intro a s k H x y v u Q I d e h;obtain⟨i,j,b,c,q⟩:=h;subst b;subst c;obtain⟨t,rfl⟩:=d;obtain⟨f,rfl⟩:=e;exact iadd_int ⟨.int _,H,I.tok _,⟨_,rfl⟩,q⟩
end
section
variable {X:Cx}
def DQ (c:TT) (g:TS):TS:=λD a H=>∃ W:Nat->St->Hp->Prop,(∃ m,W m a H)/\∀ m a H,W m a H ->
 c a H λb f=>if b=true then ∃ N:St->Hp->Prop,(∀ d e,N d e->∃ h,h<m/\W h d e)/\g { D with nx:=N,ct:=N,bk:=D.nx } a f else D.nx a f
theorem NW (g:PassesOwn (model X.prog X.w) X.A X.env X.xe) (l:PT X c p) (j:pE X body o):PS X (.While c body [] pos) (DQ p o):=by
 intro a s Z H D I h;obtain⟨W,⟨P,V⟩,k⟩:=h;refine wpAny_While (codeAny_whileLoop (λn Q=>∃ m F,Inv X a m F Q/\W n m F) ?_ P ⟨Z,H,I,V⟩);rintro n R ⟨e,G,O,Y⟩;refine fX g (lQ (l a R e G _ O (k n e G Y)) λb S y=>?_);obtain⟨K,L,q⟩:=y;cases b with
 | true =>
  obtain⟨N,M,q⟩:=q;rw[aT rfl];refine fX g (lQ (j a S e K _ L q) λf r t=>?_);cases f with
  | next =>
   obtain⟨d,i,u,B⟩:=t;obtain⟨z,x,E⟩:=M d i B;exact⟨z,x,d,i,u,E⟩
  | cont =>
   obtain⟨d,i,u,B⟩:=t;obtain⟨z,x,E⟩:=M d i B;exact⟨z,x,d,i,u,E⟩
  | brk=>exact t
  | ret v=>exact t
 | false =>
  rw[aN bG];exact kA ⟨e,K,L,q⟩
end
structure It where
 go:Nat->Hp->Prop
 yld:Nat->Hp->V->Hp->Prop
 stop:Nat->Hp->Prop
def sR (X:Cx) (g:Aa (Ad×Obj)) (H:Hp) (b:Ad):Prop :=
 H b=none/\b≠X.env.locals/\b∉X.fs/\(b∈X.ex\/X.s₀.heap.objs.size<=b)/\(∀ x c,X.env.cells.lookup x=some c->c≠b)/\∀ p∈X.pn++g,p.1≠b
theorem Inv.fpOk {X:Cx}(I:Inv X j r H s) (g:s.heap.objs.size<=b) (o:l b=none):sR X j l b:=by
 refine⟨o,gU (bD I.lt g),I.nofs g,.inr (cK I.sz g),λx c e z=>?_,λp a z=>?_⟩
 .obtain⟨v,q⟩:=I.cell x c e;exact absurd (bD q.lt (by rw[z];exact g)) (eO _)
 .exact absurd (bD (aY (I.pin p a).1) (by rw[z];exact g)) (eO _)
structure Turn (P:Program) (w:World) (K:lL) (tg:Expr) (J:It) (fp:List Addr) (it:Addr) (tn:Nat->Heap->Prop):Prop where
 mem:it∈fp
 obj:∀ i h,tn i h->∀ b∈fp,∃ o,h.get? b=some o/\∀ v,o.data ≠ .cell v
 keep:∀ i h h',tn i h->(∀ b∈fp,∀ o,h.get? b=some o->h'.get? b=some o)->tn i h'
 item:∀ (X:Cx),X.prog=P->X.w=w->X.K=K->X.calm=true->∀ (i:Nat) (pins:List (Addr×Obj)) (s:Shared) (σ:St) (H:Hp) (E:Value->Shared->Prop),Inv X pins σ H s->(∀ b∈fp,sR X pins H b)->tn i s.heap->J.go i H ->
  wpAny (model P w) X.A (pyNext (.ref it)) (λr s1=>∃ u,r=some u /\ wpAny (model P w) X.A (letOwnedTupleGo tg (.ref it) u) (λ_ s2=>∃ x H',Inv X pins σ H' s2/\mC x u/\J.yld i H x H'/\tn (i+1) s2.heap/\∀ b∈fp,H' b=none) E s1) E s
 done:∀ (X:Cx),X.prog=P->X.w=w->X.K=K->X.calm=true->∀ (i:Nat) (pins:List (Addr×Obj)) (s:Shared) (σ:St) (H:Hp) (E:Value->Shared->Prop),Inv X pins σ H s->(∀ b∈fp,sR X pins H b)->tn i s.heap->J.stop i H ->
  wpAny (model P w) X.A (pyNext (.ref it)) (λr s1=>r=none/\Inv X pins σ H s1) E s
 self:∀ (A:Around) (i:Nat) (s:Shared) (Q:Value->Shared->Prop) (E:Value->Shared->Prop),tn i s.heap->Q (.ref it) s->wpAny (model P w) A (pyIter (.ref it)) Q E s
abbrev TI:=St->Hp->(It->Hp->Prop)->Prop
def Qe (X:Cx) (g:Aa (Ad×Obj)) (p:St) (o:Expr) (R:It->Hp->Prop) (j:Ac) (l:Ae):Prop :=
 ∃ (d:Ad) (c:Aa Ad) (e:Nat->Ag->Prop) (J:It) (a:Hp),j = .ref d/\Inv X g p a l/\Turn X.prog X.w X.K o J c d e/\e 0 l.heap/\(∀ b∈c,sR X g a b)/\R J a
def PI (X:Cx) (g iter:Expr) (j:TI):Prop :=
 ∀ (a:Aa (Ad×Obj)) (s:Ae) (b:St) (H:Hp) (R:It->Hp->Prop),Inv X a b H s->j b H R ->
  wpAny (model X.prog X.w) X.A (eval iter X.env) (λv c=>wpAny (model X.prog X.w) X.A (pyIter v) (Qe X a b g R) X.xe c) X.xe s
theorem zH (p:s.heap.get? r=some o) (j:o.cls = .type n) (hd:o.data = .fields I)
  (l:["enumerate","zip","dict_itemiterator","dict_reverseitemiterator","odict_iterator","itertools.zip_longest","itertools.pairwise"].contains n=false) (g:Q () s):wpAny M A (letOwnedTupleGo C (.ref r) u) Q E s:=by
 unfold letOwnedTupleGo;cases C<;>first
  | exact aG g
  | (cases u<;>first
    | exact aG g
    | (refine aB (wpAny_load p ?_);rw[j,hd];show wpAny M A (if (["enumerate","zip","dict_itemiterator","dict_reverseitemiterator","odict_iterator","itertools.zip_longest","itertools.pairwise"].contains n&&I[0]? == some (rawInt _))=true then _ else _) Q E s;rw[aN (by intro h;rw[l,Bool.false_and] at h;cases h)];exact aG g))
def wK (K:lL) (a:Ad):It :=
 ⟨λi H=>∃ b x,lO K H a b/\b[i]?=some x,λi H x c=>c=H/\∀ b,lO K H a b->b[i]?=some x,λi H=>∃ b,lO K H a b/\b.length<=i⟩
def Bp (K:lL) (a:Ad):It :=
 ⟨λi H=>∃ b x,mF K H a b/\b[i]?=some x,λi H x c=>c=H/\∀ b,mF K H a b->b[i]?=some x,λi H=>∃ b,mF K H a b/\b.length<=i⟩
def tU (lo:Int) (n:Nat):It:=⟨λi _=>i<n,λi H x a=>a=H/\x = .int (lo+i),λi _=>n<=i⟩
theorem Rh {P:Ah}{K:lL}(a g:Ad):Turn P w K J (wK K a) [g] g (λi h=>h.IsListIter g a i) where
 mem:=by simp
 obj:=λi h st b m=>by
  have e:b=g:=by simpa using m
  subst e;obtain⟨o,e,c,d⟩:=st;exact⟨o,e,λv z=>by rw[d] at z;cases z⟩
 keep:=λi h q st k=>st.at λo e=>k g (by simp) o e
 item:=by
  intro X G hw F Q i f s R H E I t st L;subst G hw F;obtain⟨r,x,y,M⟩:=L;obtain⟨N,O,p,Z⟩:=I.list y;obtain⟨u,W,j⟩:=O.get M;obtain⟨f0,f1,f2,A,B,D⟩:=t g (by simp);refine wpAny_pyNext_list_item st p.isList (x:=u) (by simpa using W) λq n l=>?_
  have S:Inv X f R H { s with heap:=q }:=I.turned (t':=s.toks) (λb o m e=>(l.2 b m).trans e) f0 f1 A B D;obtain⟨o,e,c,d⟩:=id n;exact⟨u,rfl,zH (s:={ s with heap:=q }) e c d (by decide) ⟨x,H,S,j,⟨rfl,λT Y=>by rw[I.list_inj Y y];exact M⟩,n,λb m=>(t b m).1⟩⟩
 done:=by
  intro X G hw F Q i f s R H E I t st L;subst G hw F;obtain⟨r,y,M⟩:=L;obtain⟨N,O,p,Z⟩:=I.list y;obtain⟨f0,f1,f2,A,B,D⟩:=t g (by simp);have C:=O.length;exact wpAny_pyNext_list_end (I.ok.hd Q) st p.isList (by simp;omega) λq V=>⟨rfl,I.turned (t':=s.toks) (λb o m e=>V b o m e) f0 f1 A B D⟩
 self:=λ_ _ _ _ _ st h=>wpAny_pyIter_listiter st h
theorem Ym {P:Ah}{K:lL}(a g:Ad):Turn P w K J (Bp K a) [g] g (λi h=>h.IsTupleIter g a i) where
 mem:=by simp
 obj:=λi h st b m=>by
  have e:b=g:=by simpa using m
  subst e;obtain⟨o,e,c,d⟩:=st;exact⟨o,e,λv z=>by rw[d] at z;cases z⟩
 keep:=λi h t st k=>st.at λo e=>k g (by simp) o e
 item:=by
  intro X L hw G Q i f s R H E I y st M;subst L hw G;obtain⟨r,x,A,N⟩:=M;obtain⟨n,O,p,Z⟩:=I.tuple A;obtain⟨u,W,j⟩:=O.get N;obtain⟨f0,f1,f2,B,D,F⟩:=y g (by simp);refine wpAny_pyNext_tuple_item st (show s.heap.IsTuple a n.toArray from p) (x:=u) (by simpa using W) λt q l=>?_
  have S:Inv X f R H { s with heap:=t }:=I.turned (t':=s.toks) (λb o m e=>(l.2 b m).trans e) f0 f1 B D F;obtain⟨o,e,c,d⟩:=id q;exact⟨u,rfl,zH (s:={ s with heap:=t }) e c d (by decide) ⟨x,H,S,j,⟨rfl,λT Y=>by rw[I.tuple_inj Y A];exact N⟩,q,λb m=>(y b m).1⟩⟩
 done:=by
  intro X L hw G Q i f s R H E I y st M;subst L hw G;obtain⟨r,A,N⟩:=M;obtain⟨n,O,p,Z⟩:=I.tuple A;obtain⟨f0,f1,f2,B,D,F⟩:=y g (by simp);have C:=O.length;exact wpAny_pyNext_tuple_end (I.ok.hd Q) st (show s.heap.IsTuple a n.toArray from p) (by simp;omega) λt V=>⟨rfl,I.turned (t':=s.toks) (λb o m e=>V b o m e) f0 f1 B D F⟩
 self:=λ_ _ _ _ _ st h=>wpAny_pyIter_tupleiter st h
theorem KO {P:Ah}{K:lL}(g:Ad) (lo:Int) (n:Nat):Turn P w K j (tU lo n) [g] g (λi h=>IsRangeIter h g (lo+(i:Nat)*1) ((n:Int)-(i:Nat)) 1) where
 mem:=by simp
 obj:=λi h st b c=>by
  have e:b=g:=by simpa using c
  subst e;exact⟨_,st,λv z=>by
   have Q:Data.fields _=Data.cell v:=z;cases Q⟩
 keep:=λi h f st k=>k g (by simp) _ st
 item:=by
  intro X A hw y B i a s G H E I m st D;subst A hw y;obtain⟨f0,f1,f2,q,u,x⟩:=m g (by simp);have W:=Walks.range (prog:=X.prog) (w:=X.w) (I.ok.hd B) g lo 1 n;refine W.item i s _ _ D st λv f F N d O=>?_
  obtain⟨t,rfl⟩:=N;have L:Inv X a G H { s with heap:=f,toks:=F }:=I.turned (λb o c e=>O b o (by simpa using c) e) f0 f1 q u x;refine⟨_,rfl,zH (s:={ s with heap:=f,toks:=F }) (n := "range_iterator") d rfl rfl (by decide) ⟨.int (lo+i),H,L,⟨t,?_⟩,⟨rfl,rfl⟩,d,λb c=>(m b c).1⟩⟩;rw[Int.mul_one]
 done:=by
  intro X A hw y B i a s G H E I m st D;subst A hw y;obtain⟨f0,f1,f2,q,u,x⟩:=m g (by simp);exact wpAny_pyNext_range_end (I.ok.hd B) st (by have:n<=i:=D;omega) λf M=>⟨rfl,I.turned (t':=s.toks) (λb o c e=>M b o c e) f0 f1 q u x⟩
 self:=λ_ _ _ _ _ st h=>wpAny_pyIter_rangeiter st h
section
variable {X:Cx}
def DO (K:lL) (g:TE):TI:=λd H R=>g d H λx b=>∃ a,x = .ref a/\(∃ c,lO K b a c)/\R (wK K a) b
theorem FN (g:PE X l j):PI X r l (DO X.K j):=by
 intro c s y H R I h;refine lQ (g c s y H _ I h) λv f i=>?_
 obtain⟨x,k,d,w,u⟩:=i;obtain⟨a,e,⟨B,n⟩,q⟩:=u;subst e;cases w;obtain⟨t,A,p,z⟩:=d.list n;refine fG p.isList ?_;refine⟨f.heap.objs.size,[f.heap.objs.size],_,_,k,rfl,d.kept (t':=f.toks) λb o e=>aK _ e,Rh a _,⟨_,bA _ rfl,rfl,rfl⟩,λb m=>?_,q⟩;have e:b=f.heap.objs.size:=by simpa using m
 subst e;exact d.fpOk (aW _) (d.hok.fresh (aW _))
theorem Zb {R:It->Hp->Prop}{lo:Int}(I:Inv X j p H s) (r:-(2 ^ 62)<=lo) (C:lo<2 ^ 62) (J:-(2 ^ 62)<=g) (T:g<2 ^ 62)
  (q:R (tU lo (g-lo).toNat) H):wpAny (model X.prog X.w) X.A (pyIter (.ref s.heap.objs.size)) (Qe X j p U R) E { s with heap:=s.heap.push { cls:=.type "range",data:=.fields #[.int lo t,.int g u,.int 1 v] },toks:=l }:=by
 refine wpAny_pyIter_range (IsRange.new ..) (small_one r C J T) ?_;have a:Inv X j p H { s with heap:=s.heap.push { cls:=.type "range",data:=.fields #[.int lo t,.int g u,.int 1 v] },toks:=l }:=I.kept λb o e=>aK _ e
 refine⟨(s.heap.push { cls:=.type "range",data:=.fields #[.int lo t,.int g u,.int 1 v] }).objs.size,[(s.heap.push { cls:=.type "range",data:=.fields #[.int lo t,.int g u,.int 1 v] }).objs.size],_,_,H,rfl,
  a.kept (t':=l) λb o e=>aK _ e,KO _ lo (g-lo).toNat,?_,λb f=>?_,q⟩
 .have c:lo+((0:Nat):Int)*1=lo:=by simp
  have d:(((g-lo).toNat:Nat):Int)-((0:Nat):Int)=Builtin.Range.rangeSize lo g 1:=by rw[rangeSize_one];split<;>omega
  show IsRangeIter _ _ (lo+((0:Nat):Int)*1) ((((g-lo).toNat:Nat):Int)-((0:Nat):Int)) 1;rw[c,d];exact bA _ rfl
 .have e:b=(s.heap.push { cls:=.type "range",data:=.fields #[.int lo t,.int g u,.int 1 v] }).objs.size:=by simpa using f
  subst e;exact a.fpOk (aW _) (a.hok.fresh (aW _))
def X8 (g:TA):TI:=λc H R=>g c H λb a=>∃ j:Int,b=[.int j]/\-(2 ^ 62)<=j/\j<2 ^ 62/\R (tU 0 j.toNat) a
theorem Aj (l:Gl X "range") (o:X.mg "range" = none) (g:PA X [a] J) (C:starEach [a] X.env=[(false,eval a X.env)]:=by rfl):PI X T (.Call (.Name "range" p) [a] [] pos) (X8 J):=by
 intro b s n H R I h;refine Call_ (xA I l o boot_range (cT (lQ (g pos b s n H _ I h) λw v c=>?_) C rfl));obtain⟨x,u,f,k,d⟩:=c;obtain⟨j,e,d,i,q⟩:=d;subst e;cases k with
 | cons r m =>
  cases m;obtain⟨t,rfl⟩:=r;exact call_range_1 (Zb f (by omega) (by omega) d i (by simpa using q))
def MS (l:TI) (g:TG) (j:TS):TS:=λD a H=>l a H λJ f=>∃ W:Nat->Nat->St->Hp->Prop,(∃ m,W 0 m a f)/\∀ i m a H,W i m a H ->
 (J.stop i H/\D.nx a H)\/(J.go i H/\∃ N:St->Hp->Prop,(∀ c b,N c b->∃ e,e<m/\W (i+1) e c b)/\∀ x b,J.yld i H x b->g x a b λd h=>j { D with nx:=N,ct:=N,bk:=D.nx } d h)
def Dh (g:Aa Ad) (h:Ag):Aa (Ad×Obj):=g.filterMap λb=>(h.get? b).map λo=>(b,o)
theorem Fe (j:b∈g) (e:h.get? b=some o):(b,o)∈Dh g h:=kQ.mpr ⟨b,j,by rw[e];rfl⟩
theorem Xt (j:p∈Dh g h):p.1∈g/\h.get? p.1=some p.2:=by
 obtain⟨b,c,e⟩:=kQ.mp j;cases q:h.get? b with
 | none=>rw[q] at e;cases e
 | some o =>
  rw[q] at e;have a:(b,o)=p:=bN e;subst a;exact⟨c,q⟩
theorem Inv.pinned (I:Inv X g C H s) (l:∀ b∈j,sR X g H b) (r:∀ b∈j,∃ o,s.heap.get? b=some o/\∀ v,o.data ≠ .cell v):Inv X (g++Dh j s.heap) C H s :=
 I.pins_of λp f=>(aV.mp f).elim (λz=>I.pin p (aJ _ z)) λz=>by
  obtain⟨c,e⟩:=Xt z;obtain⟨f0,f1,f2,_⟩:=l p.1 c;obtain⟨o,a,d⟩:=r p.1 c;rw[e] at a;cases a;exact⟨e,f0,f1,f2,d⟩
theorem Inv.unpinned (I:Inv X (g++l) j H s):Inv X g j H s:=I.pins_of λp a=>I.pin p (aJ _ (aL _ a))
theorem Bt {iter:Expr}(l:PassesOwn (model X.prog X.w) X.A X.env X.xe) (hc:X.calm=true) (hi:PI X tg iter wi) (hg:PG X tg g) (j:pE X body tb)
  (hs:∀ x,foldedSetIterable iter X.env x=pure x:=by intro _;rfl):PS X (.For tg iter body [] pos) (MS wi g tb):=by
 intro a s σ H D I h;refine wpAny_For (lQ (hi a s σ H _ I h) λv s1 h1=>lQ h1 λaa s2 h2=>?_) hs;obtain⟨it,K,tn,J,H2,e,I2,T,Z,f2,W,⟨m0,w0⟩,P⟩:=h2;subst e;have y:∀ {E:Hp},(∀ b∈K,E b=none)->∀ b∈K,sR X a E b:=λhn b j=>⟨hn b j,(f2 b j).2⟩
 refine codeAny_forLoop_any (λn s'=>∃ i z E,Inv X a z E s'/\tn i s'.heap/\(∀ b∈K,E b=none)/\W i n z E) ?_ m0 ⟨0,σ,H2,I2,Z,λb j=>(f2 b j).1,w0⟩;rintro n s3 ⟨i,B,Q,U,O,L,w3⟩;rcases P i n B Q w3 with⟨stop,qn⟩ | ⟨go,N,hN,step⟩
 .refine fX l (lQ (T.done X rfl rfl rfl hc i a s3 B Q X.xe U (y L) O stop) λr s4 k=>?_);obtain⟨V,I4⟩:=k;subst V;exact kA ⟨B,Q,I4,qn⟩
 .refine fX l (lQ (T.item X rfl rfl rfl hc i a s3 B Q X.xe U (y L) O go) λr s4 k=>?_);obtain⟨u,V,h4⟩:=k;subst V;refine fX l (lQ h4 λ_ s5 k=>?_);obtain⟨x,C,I5,r5,y5,G,S⟩:=k;have R:=I5.pinned (y S) (T.obj _ _ G);refine fX l (lQ (hg _ s5 B C x u _ R r5 (step x C y5)) λ_ s6 k=>?_);obtain⟨p,H6,I6,q6⟩:=k;refine fX l (lQ (j _ s6 p H6 _ I6 q6) λf Y F=>?_);have again:∀ {c:St} {q:Hp},Inv X (a++Dh K s5.heap) c q Y->N c q->∃ m,m<n/\∃ i z E,Inv X a z E Y/\tn i Y.heap/\(∀ b∈K,E b=none)/\W i m z E:=λ{c q} t M=>by
   obtain⟨m',hm,w7⟩:=hN c q M;refine⟨m',hm,i+1,c,q,t.unpinned,T.keep _ _ _ G λb j o e=>(t.pin (b,o) (aJ _ (aJ _ (Fe j e)))).1,λb j=>?_,w7⟩;obtain⟨o,e,d⟩:=T.obj _ _ G b j;exact (t.pin (b,o) (aJ _ (aJ _ (Fe j e)))).2.1
  cases f with
  | next=>obtain⟨c,q,t,M⟩:=F;exact again t M
  | cont=>obtain⟨c,q,t,M⟩:=F;exact again t M
  | brk=>obtain⟨c,q,t,F⟩:=F;exact⟨c,q,t.unpinned,F⟩
  | ret v=>obtain⟨x7,c,q,t,r7,F⟩:=F;exact⟨x7,c,q,t.unpinned,r7,F⟩
end
theorem KG {K:lL}{a:Ad}{xs:Aa V}{g:TG}{J:TS}{D:Ends}{j:St}{H:Hp}(Pv:Nat->St->Hp->Prop) (T:Pv 0 j H) (U:∀ i j H,i<=xs.length->Pv i j H->lO K H a xs)
  (hs:∀ i x j H,xs[i]?=some x->Pv i j H->g x j H λr C=>J { D with nx:=Pv (i+1),ct:=Pv (i+1),bk:=D.nx } r C) (hd:∀ j H,Pv xs.length j H->D.nx j H) :
  ∃ W:Nat->Nat->St->Hp->Prop,(∃ m,W 0 m j H)/\∀ i m j H,W i m j H ->
   ((wK K a).stop i H/\D.nx j H)\/((wK K a).go i H/\∃ N:St->Hp->Prop,(∀ o l,N o l->∃ I,I<m/\W (i+1) I o l)/\∀ x l,(wK K a).yld i H x l->g x j l λr C=>J { D with nx:=N,ct:=N,bk:=D.nx } r C):=by
 refine⟨λi m j H=>m=xs.length-i/\i<=xs.length/\Pv i j H,⟨xs.length,by simp,dL _,T⟩,?_⟩;rintro i m j H ⟨rfl,c,p⟩;have q:=U i j H c p;by_cases b:i<xs.length
 .refine .inr ⟨⟨xs,xs[i],q,by simp[b]⟩,Pv (i+1),λo l d=>⟨xs.length-(i+1),by omega,rfl,b,d⟩,λx l y=>?_⟩;obtain⟨e,y⟩:=y;subst e;exact hs i x j _ (y xs q) p
 .have e:i=xs.length:=by omega
  subst e;exact .inl ⟨⟨xs,q,aW _⟩,hd j H p⟩
theorem CD {K:lL}{a:Ad}{xs:Aa V}{g:TG}{J:TS}{D:Ends}{j:St}{H:Hp}(Pv:Nat->St->Hp->Prop) (T:Pv 0 j H) (U:∀ i j H,i<=xs.length->Pv i j H->mF K H a xs)
  (hs:∀ i x j H,xs[i]?=some x->Pv i j H->g x j H λr C=>J { D with nx:=Pv (i+1),ct:=Pv (i+1),bk:=D.nx } r C) (hd:∀ j H,Pv xs.length j H->D.nx j H) :
  ∃ W:Nat->Nat->St->Hp->Prop,(∃ m,W 0 m j H)/\∀ i m j H,W i m j H ->
   ((Bp K a).stop i H/\D.nx j H)\/((Bp K a).go i H/\∃ N:St->Hp->Prop,(∀ o l,N o l->∃ I,I<m/\W (i+1) I o l)/\∀ x l,(Bp K a).yld i H x l->g x j l λr C=>J { D with nx:=N,ct:=N,bk:=D.nx } r C):=by
 refine⟨λi m j H=>m=xs.length-i/\i<=xs.length/\Pv i j H,⟨xs.length,by simp,dL _,T⟩,?_⟩;rintro i m j H ⟨rfl,c,p⟩;have q:=U i j H c p;by_cases b:i<xs.length
 .refine .inr ⟨⟨xs,xs[i],q,by simp[b]⟩,Pv (i+1),λo l d=>⟨xs.length-(i+1),by omega,rfl,b,d⟩,λx l y=>?_⟩;obtain⟨e,y⟩:=y;subst e;exact hs i x j _ (y xs q) p
 .have e:i=xs.length:=by omega
  subst e;exact .inl ⟨⟨xs,q,aW _⟩,hd j H p⟩
theorem J9 {lo:Int}{n:Nat}{g:TG}{J:TS}{D:Ends}{j:St}{H:Hp}(Pv:Nat->St->Hp->Prop) (T:Pv 0 j H)
  (U:∀ i j H,i<n->Pv i j H->g (.int (lo+i)) j H λr C=>J { D with nx:=Pv (i+1),ct:=Pv (i+1),bk:=D.nx } r C) (hd:∀ j H,Pv n j H->D.nx j H) :
  ∃ W:Nat->Nat->St->Hp->Prop,(∃ m,W 0 m j H)/\∀ i m j H,W i m j H ->
   ((tU lo n).stop i H/\D.nx j H)\/((tU lo n).go i H/\∃ N:St->Hp->Prop,(∀ o l,N o l->∃ I,I<m/\W (i+1) I o l)/\∀ x l,(tU lo n).yld i H x l->g x j l λr C=>J { D with nx:=N,ct:=N,bk:=D.nx } r C):=by
 refine⟨λi m j H=>m=n-i/\i<=n/\Pv i j H,⟨n,by simp,dL _,T⟩,?_⟩;rintro i m j H ⟨rfl,c,p⟩;by_cases a:i<n
 .refine .inr ⟨a,Pv (i+1),λo l b=>⟨n-(i+1),by omega,rfl,a,b⟩,λx l y=>?_⟩;obtain⟨e,y⟩:=y;subst e y;exact U i j _ a p
 .have e:i=n:=by omega
  subst e;exact .inl ⟨aW _,hd j H p⟩
abbrev R2:=V->V->Hp->VK->Prop
def mO (X:Cx) (f:Ac->Ac->Sem Ac) (r:R2):Prop :=
 ∀ (a:Aa (Ad×Obj)) (s:Ae) (b:St) (H:Hp) (x y:V) (v u:Ac) (Q:VK),Inv X a b H s->mC x v->mC y u->r x y H Q ->
  wpAny (model X.prog X.w) X.A (f v u) (EP X a b Q) X.xe s
def Kq (X:Cx) (f:Ac->Sem Ac) (r:V->Hp->VK->Prop):Prop :=
 ∀ (a:Aa (Ad×Obj)) (s:Ae) (b:St) (H:Hp) (x:V) (v:Ac) (Q:VK),Inv X a b H s->mC x v->r x H Q ->
  wpAny (model X.prog X.w) X.A (f v) (EP X a b Q) X.xe s
def nK (X:Cx) (f:Ac) (r:Aa V->Hp->VK->Prop):Prop :=
 ∀ (a:Aa (Ad×Obj)) (s:Ae) (d:St) (H:Hp) (c:Aa V) (b:Aa Ac) (Q:VK),Inv X a d H s->mB c b->r c H Q ->
  wpAny (model X.prog X.w) X.A (call f b) (EP X a d Q) X.xe s
def BV (X:Cx) (r:V->Hp->(Bool->Hp->Prop)->Prop):Prop :=
 ∀ (a:Aa (Ad×Obj)) (s:Ae) (b:St) (H:Hp) (x:V) (v:Ac) (Q:Bool->Hp->Prop),Inv X a b H s->mC x v->r x H Q ->
  wpAny (model X.prog X.w) X.A (truthy v) (TP X a b Q) X.xe s
def Bn (r:R2) (g j:TE):TE:=λa H Q=>g a H λx b=>j a b λy c=>r x y c Q
def AB (r:V->Hp->VK->Prop) (g:TE):TE:=λb H Q=>g b H λx a=>r x a Q
def rI (C:Int->Int->Prop) (g:Int->Int->V):R2:=λx y H Q=>∃ i j,x = .int i/\y = .int j/\C i j/\Q (g i j) H
def uK (g:Int->Int->V):R2:=λx y H Q=>∃ i j,x = .int i/\y = .int j/\Q (g i j) H
def rU (g:Int->V):V->Hp->VK->Prop:=λx H Q=>∃ i,x = .int i/\Q (g i) H
section
variable {X:Cx}
theorem Jg (J:PE X a ta) (T:PE X b tb){g:Aa (Ad×Obj)}{s:Ae}{l:St}{H:Hp}{R:V->V->Hp->Prop}(I:Inv X g l H s)
  (h:ta l H λx C=>tb l C λy j=>R x y j){Q:Ac->Ae->Prop}{f:Ac->Ac->Sem Ac}
  (U:∀ v u r x y j,Inv X g l j r->mC x v->mC y u->R x y j->wpAny (model X.prog X.w) X.A (f v u) Q X.xe r) :
  wpAny (model X.prog X.w) X.A (eval a X.env) (λv o=>wpAny (model X.prog X.w) X.A (eval b X.env) (λu p=>wpAny (model X.prog X.w) X.A (f v u) Q X.xe p) X.xe o) X.xe s:=by
 refine lQ (J g s l H _ I h) λv q c=>?_
 obtain⟨x,C,d,m,i⟩:=c;refine lQ (T g q l C _ d i) λu r c=>?_
 obtain⟨y,j,e,n,k⟩:=c;exact U v u r x y j e m n k
theorem mQ (l:mO X (binaryOp op) r) (g:PE X a o) (j:PE X b p):PE X (.BinOp a op b pos) (Bn r o p):=by
 intro c s m H Q I h;exact wpAny_BinOp (Jg g j I h λv u k x y d e f i q=>l c k m d x y v u Q e f i q)
theorem LC (j:Kq X (unaryOp op) r) (g:PE X a l):PE X (.UnaryOp op a pos) (AB r l):=by
 intro b s c H Q I h;exact UnaryOp_ (lQ (g b s c H _ I h) λv k ⟨x,d,e,i,f⟩=>j b k c d x v Q e i f)
theorem Ap {f:Ac->Ac->Sem Ac}{C:Int->Int->Prop}{g:Int->Int->Int}
  (rule:∀ (i j:Int) (t u:Tok) (s:Ae) (Q:Ac->Ae->Prop) (E:Ac->Ae->Prop),C i j->Q (.int (g i j) s.toks) { s with toks:=s.toks+1 }->wpAny (model X.prog X.w) X.A (f (.int i t) (.int j u)) Q E s) :
  mO X f (rI C λi j=>.int (g i j)):=by
 intro a s k H x y v u Q I c d h;obtain⟨i,j,rfl,rfl,b,q⟩:=h;obtain⟨t,rfl⟩:=c;obtain⟨e,rfl⟩:=d;exact rule i j t e s _ _ b ⟨.int (g i j),H,I.tok _,⟨_,rfl⟩,q⟩
theorem R6 {f:Ac->Ac->Sem Ac}{g:Int->Int->Int}
  (rule:∀ (i j:Int) (t u:Tok) (s:Ae) (Q:Ac->Ae->Prop) (E:Ac->Ae->Prop),Q (.int (g i j) s.toks) { s with toks:=s.toks+1 }->wpAny (model X.prog X.w) X.A (f (.int i t) (.int j u)) Q E s) :
  mO X f (uK λi j=>.int (g i j)):=by
 intro a s e H x y v u Q I b c h;obtain⟨i,j,rfl,rfl,q⟩:=h;obtain⟨t,rfl⟩:=b;obtain⟨d,rfl⟩:=c;exact rule i j t d s _ _ ⟨.int (g i j),H,I.tok _,⟨_,rfl⟩,q⟩
theorem Pt {f:Ac->Ac->Sem Ac}{g:Int->Int->Bool}
  (rule:∀ (i j:Int) (t u:Tok) (s:Ae) (Q:Ac->Ae->Prop) (E:Ac->Ae->Prop),Q (.bool (g i j)) s->wpAny (model X.prog X.w) X.A (f (.int i t) (.int j u)) Q E s) :
  mO X f (uK λi j=>.b (g i j)):=by
 intro a s k H x y v u Q I c d h;obtain⟨i,j,rfl,rfl,q⟩:=h;obtain⟨t,rfl⟩:=c;obtain⟨e,rfl⟩:=d;exact rule i j t e s _ _ ⟨.b (g i j),H,I,rfl,q⟩
def JE (i j:Int):Prop:=0<j/\j<1073741824
def Vr (i j:Int):Prop:=0<=j/\j<=1000000/\i.natAbs<2 ^ 64
def G4 (i j:Int):Prop:=(-(2 ^ 64)<i/\i<2 ^ 64)\/(-(2 ^ 64)<j/\j<2 ^ 64)
theorem G4.ok (h:G4 i j):IntMulOk i j:=by
 rcases h with⟨a,b⟩ | ⟨a,b⟩
 .exact .of_left (intBits_le_64 a b)
 .exact .of_right (intBits_le_64 a b)
theorem GI (k:Nat):(0:Int)<=2 ^ k:=by
 rw[two_pow_cast];exact Int.natCast_nonneg _
theorem wH:mO X (binaryOp .Add) (uK λi j=>.int (i+j)):=R6 λ_ _ _ _ _ _ _ q=>add_int q
theorem vM:mO X (binaryOp .Sub) (uK λi j=>.int (i-j)):=R6 λ_ _ _ _ _ _ _ q=>sub_int q
theorem vC:mO X (binaryOp .Mult) (rI G4 λi j=>.int (i*j)):=Ap λ_ _ _ _ _ _ _ a q=>mul_int q a.ok
theorem LP:mO X (binaryOp .FloorDiv) (rI JE λi j=>.int (i/j)):=Ap λi j _ _ _ _ _ a q=>by
 have b:(0:Int)<j:=a.1;have c:j<1073741824:=a.2;exact floordiv_int (by omega) (by rw[iD i (by omega)];exact q) (.inl (PyProof.noPylong_small (by omega)))
theorem rF:mO X (binaryOp .Mod) (rI (λ_ j=>0<j) λi j=>.int (i%j)):=Ap λi j _ _ _ _ _ a q=>by
 have b:(0:Int)<j:=a;exact mod_int' (by omega) (by rw[Int.fmod_eq_emod_of_nonneg i (by omega)];exact q)
theorem zQ:mO X (binaryOp .LShift) (rI Vr λi j=>.int (i*2 ^ j.toNat)):=Ap λ_ _ _ _ _ _ _ a q=>lshift_int_small a.1 a.2.1 a.2.2 q
theorem V5:mO X (binaryOp .RShift) (rI (λ_ j=>0<=j) λi j=>.int (i/2 ^ j.toNat)):=Ap λi j _ _ _ _ _ a q =>
 rshift_int a (by rw[iD i (GI _)];exact q)
theorem DP {f:Ac->Sem Ac}{g:Int->Int}
  (rule:∀ (i:Int) (t:Tok) (s:Ae) (Q:Ac->Ae->Prop) (E:Ac->Ae->Prop),Q (.int (g i) s.toks) { s with toks:=s.toks+1 }->wpAny (model X.prog X.w) X.A (f (.int i t)) Q E s) :
  Kq X f (rU λi=>.int (g i)):=by
 intro a s c H x v Q I b h;obtain⟨i,rfl,q⟩:=h;obtain⟨t,rfl⟩:=b;exact rule i t s _ _ ⟨.int (g i),H,I.tok _,⟨_,rfl⟩,q⟩
theorem LV:Kq X (unaryOp .USub) (rU λi=>.int (-i)):=DP λ_ _ _ _ _ q=>neg_int q
end
noncomputable def Jp:V->V->Bool
 | .e,.e=>true | .e,.int _=>true | .int _,.e=>true | .e,.b _=>true | .b _,.e=>true | .e,.str _=>true | .str _,.e=>true
 | .int _,.int _=>true | .b _,.b _=>true | .str _,.str _=>true | .byt _,.byt _=>true
 | .int _,.str _=>true | .str _,.int _=>true | .b _,.str _=>true | .str _,.b _=>true
 | _,_=>false
def Y9:R2:=λx y H Q=>Jp x y=true/\Q (.b (decide (x=y))) H
def HL:R2:=λx y H Q=>Jp x y=true/\Q (.b (!decide (x=y))) H
theorem Tt:decide (V.int i=V.int j)=(i == j):=by
 rw[hV];simp
theorem Vm:decide (V.b i=V.b j)=(i == j):=by
 rw[hV];simp
theorem N5:decide (V.str i=V.str j)=(i == j):=by
 rw[hV];simp
theorem Uw:decide (V.byt i=V.byt j)=(i.toList == j.toList):=by
 rw[hV];cases i;cases j;simp
section
variable {X:Cx}
theorem nQ (I:Inv X g l H s) (q:Q (.b k) H) (e:k=j):EP X g l Q (.bool j) s:=by
 subst e;exact⟨.b k,H,I,rfl,q⟩
theorem Ff:mO X (compareOp .Eq) Y9:=by
 intro k s m H x y v u Q I f a h;obtain⟨d,q⟩:=h;cases x with
 | e =>
  cases f;cases y with
  | e=>cases a;exact PySem.EqNone.eq_none_none (nQ I q (by simp))
  | b j=>cases a;exact PySem.EqNone.eq_none_bool (nQ I q (by simp))
  | int j=>obtain⟨c,rfl⟩:=a;exact PySem.EqNone.eq_none_int (nQ I q (by simp))
  | str j=>obtain⟨c,rfl⟩:=a;exact PySem.EqNone.eq_none_str (nQ I q (by simp))
  | _=>exact absurd (show false=true from d) bG
 | b i =>
  cases f;cases y with
  | e=>cases a;exact PySem.EqNone.eq_bool_none (nQ I q (by simp))
  | b j=>cases a;exact eq_bool (nQ I q Vm)
  | str j=>obtain⟨c,rfl⟩:=a;exact PySem.EqMixed.eq_bool_str (nQ I q (by simp))
  | _=>exact absurd (show false=true from d) bG
 | int i =>
  obtain⟨t,rfl⟩:=f;cases y with
  | e=>cases a;exact PySem.EqNone.eq_int_none (nQ I q (by simp))
  | int j=>obtain⟨c,rfl⟩:=a;exact eq_int (nQ I q Tt)
  | str j=>obtain⟨c,rfl⟩:=a;exact PySem.EqMixed.eq_int_str (nQ I q (by simp))
  | _=>exact absurd (show false=true from d) bG
 | str i =>
  obtain⟨t,rfl⟩:=f;cases y with
  | e=>cases a;exact PySem.EqNone.eq_str_none (nQ I q (by simp))
  | b j=>cases a;exact PySem.EqMixed.eq_str_bool (nQ I q (by simp))
  | int j=>obtain⟨c,rfl⟩:=a;exact PySem.EqMixed.eq_str_int (nQ I q (by simp))
  | str j=>obtain⟨c,rfl⟩:=a;exact eq_str (nQ I q N5)
  | _=>exact absurd (show false=true from d) bG
 | byt i =>
  obtain⟨t,rfl⟩:=f;cases y with
  | byt j=>obtain⟨c,rfl⟩:=a;exact PySem.W.eq_bytes (nQ I q Uw)
  | _=>exact absurd (show false=true from d) bG
 | _=>cases y<;>exact absurd (show false=true from d) bG
theorem AY:mO X (compareOp .NotEq) HL:=by
 intro k s m H x y v u Q I f a h;obtain⟨d,q⟩:=h;cases x with
 | e =>
  cases f;cases y with
  | e=>cases a;exact PySem.EqNone.ne_none_none (nQ I q (by simp))
  | b j=>cases a;exact PySem.EqNone.ne_none_bool (nQ I q (by simp))
  | int j=>obtain⟨c,rfl⟩:=a;exact PySem.EqNone.ne_none_int (nQ I q (by simp))
  | str j=>obtain⟨c,rfl⟩:=a;exact PySem.EqNone.ne_none_str (nQ I q (by simp))
  | _=>exact absurd (show false=true from d) bG
 | b i =>
  cases f;cases y with
  | e=>cases a;exact PySem.EqNone.ne_bool_none (nQ I q (by simp))
  | b j=>cases a;exact ne_bool (nQ I q (bY not Vm))
  | str j=>obtain⟨c,rfl⟩:=a;exact PySem.EqMixed.ne_bool_str (nQ I q (by simp))
  | _=>exact absurd (show false=true from d) bG
 | int i =>
  obtain⟨t,rfl⟩:=f;cases y with
  | e=>cases a;exact PySem.EqNone.ne_int_none (nQ I q (by simp))
  | int j=>obtain⟨c,rfl⟩:=a;exact ne_int (nQ I q (bY not Tt))
  | str j=>obtain⟨c,rfl⟩:=a;exact PySem.EqMixed.ne_int_str (nQ I q (by simp))
  | _=>exact absurd (show false=true from d) bG
 | str i =>
  obtain⟨t,rfl⟩:=f;cases y with
  | e=>cases a;exact PySem.EqNone.ne_str_none (nQ I q (by simp))
  | b j=>cases a;exact PySem.EqMixed.ne_str_bool (nQ I q (by simp))
  | int j=>obtain⟨c,rfl⟩:=a;exact PySem.EqMixed.ne_str_int (nQ I q (by simp))
  | str j=>obtain⟨c,rfl⟩:=a;exact ne_str (nQ I q (bY not N5))
  | _=>exact absurd (show false=true from d) bG
 | byt i =>
  obtain⟨t,rfl⟩:=f;cases y with
  | byt j=>obtain⟨c,rfl⟩:=a;exact PySem.W.ne_bytes (nQ I q (bY not Uw))
  | _=>exact absurd (show false=true from d) bG
 | _=>cases y<;>exact absurd (show false=true from d) bG
theorem AG:mO X (compareOp .Gt) (uK λi j=>.b (decide (j<i))):=Pt λ_ _ _ _ _ _ _ q=>gt_int q
theorem LM:mO X (compareOp .GtE) (uK λi j=>.b (decide (j<=i))):=Pt λ_ _ _ _ _ _ _ q=>ge_int q
theorem BA:mO X (compareOp .Is) (λx y H Q=>y = .e/\Q (.b (decide (x = .e))) H):=by
 intro a s f H x y v u Q I c d h;obtain⟨rfl,q⟩:=h;cases d;refine is_none_gen (nQ I q ?_);cases x<;>first
  | (cases c;rfl)
  | (obtain⟨t,rfl⟩:=c;rfl)
theorem JN:mO X (compareOp .IsNot) (λx y H Q=>y = .e/\Q (.b (!decide (x = .e))) H):=by
 intro a s f H x y v u Q I c d h;obtain⟨rfl,q⟩:=h;cases d;refine isnot_none_gen (nQ I q ?_);cases x<;>first
  | (cases c;rfl)
  | (obtain⟨t,rfl⟩:=c;rfl)
theorem Xm:mO X (compareOp .NotIn) (λx y H Q=>∃ i j,x = .str i/\y = .str j/\Q (.b (!(!(Builtin.Str.occurrences j i 0 j.length 1).isEmpty))) H):=by
 intro a s f H x y v u Q I c d h;obtain⟨i,j,rfl,rfl,q⟩:=h;obtain⟨t,rfl⟩:=c;obtain⟨e,rfl⟩:=d;exact notIn_str (nQ I q rfl)
theorem mO.or (h:mO X f r) (g:mO X f j):mO X f (λx y H Q=>r x y H Q\/j x y H Q):=by
 intro a s d H x y v u Q I b c q;rcases q with q | q
 .exact h a s d H x y v u Q I b c q
 .exact g a s d H x y v u Q I b c q
theorem wD (b:Expr) (h:op ≠ .In:=by decide) (g:op ≠ .NotIn:=by decide):behindInMarks op b=false:=by
 have a:(op == CmpOp.In)=false:=by cases op<;>first | rfl | exact absurd rfl h
 have c:(op == CmpOp.NotIn)=false:=by cases op<;>first | rfl | exact absurd rfl g
 cases b<;>simp[behindInMarks,a,c]
theorem Q6 (o:mO X (compareOp op) r) (g:PE X a p) (j:PE X b C) (l:behindInMarks op b=false):PE X (.Compare a [op] [b] pos) (Bn r p C):=by
 intro c s m H Q I h;exact wpAny_Compare1 (Jg g j I h λv u k x y d e f i q=>o c k m d x y v u Q e f i q) l
def HU (t:TE):TT:=λc H Q=>t c H λx a=>∃ k,x = .b k/\Q k a
theorem vR (o:mO X (compareOp op) r) (g:PE X a p) (j:PE X b C) (l:behindInMarks op b=false):PT X (.Compare a [op] [b] pos) (HU (Bn r p C)):=by
 intro d s f H Q I h;refine wpAny_isTrue_Compare1 (lQ (g d s f H _ I h) λv K ⟨x,i,q,E,A⟩=>lQ (j d K f i _ q A) λu L ⟨y,m,t,F,B⟩ =>lQ (o d L f m x y v u _ t E F B) λc M ⟨z,n,w,G,k,e,D⟩=>?_) l;subst e;cases G;exact eQ ⟨n,w,D⟩
def Iy (K:lL) (x:V) (H:Hp) (k:Bool):Prop :=
 match x with
 | .e=>k=false
 | .b b=>k=b
 | .int i=>k=(i != 0)
 | .str y=>y.length<=sizeLine/\k=((y.length:Int) != 0)
 | .byt y=>y.size<=sizeLine/\k=((y.size:Int) != 0)
 | .ref p=>(∃ c,lO K H p c/\k = !c.isEmpty)\/(∃ c,mF K H p c/\k = !c.isEmpty)\/∃ a,H p=some (.k a)/\k = !a.isEmpty
 | _=>False
theorem KS (r:KV g j):(!j.isEmpty) = !g.isEmpty:=by
 cases r<;>rfl
theorem Rc (r:mB j g):(!g.toArray.isEmpty) = !j.isEmpty:=by
 cases r<;>simp
theorem yU:(sizeLine:Nat)<2 ^ 63:=by rw[kX];decide
theorem W2:BV X (λx H Q=>∃ k,Iy X.K x H k/\Q k H):=by
 intro E s N H x v Q I n h;obtain⟨k,e,q⟩:=h;have L:=yU;have M:sizeLine=16777216:=kX;cases x with
 | e =>
  cases n;have a:k=false:=e;subst a;exact truthy_none ⟨H,I,q⟩
 | b b =>
  cases n;have a:k=b:=e;subst a;exact eQ ⟨H,I,q⟩
 | int i =>
  obtain⟨t,rfl⟩:=n;have a:k=(i != 0):=e;subst a;exact PySem.P.truthy_int ⟨H,I,q⟩
 | str y =>
  obtain⟨t,rfl⟩:=n;obtain⟨G,a⟩:y.length<=sizeLine/\k=((y.length:Int) != 0):=e;subst a;exact PySem.P.truthy_str (by omega) ⟨H,I.tok _,q⟩
 | byt y =>
  obtain⟨t,rfl⟩:=n;obtain⟨G,a⟩:y.size<=sizeLine/\k=((y.size:Int) != 0):=e;subst a;exact PySem.W.truthy_bytes (by omega) ⟨H,I.tok _,q⟩
 | ref p =>
  cases n;have a:(∃ f,lO X.K H p f/\k = !f.isEmpty)\/(∃ f,mF X.K H p f/\k = !f.isEmpty)\/∃ c,H p=some (.k c)/\k = !c.isEmpty:=e;rcases a with⟨f,u,a⟩ | ⟨f,u,a⟩ | ⟨c,u,a⟩
  .subst a;obtain⟨A,r,B,D⟩:=I.list u;have d:=r.length;exact wpAny_truthy_list B.isList (by simp only[aX];omega) ⟨H,I.tok _,by rw[Rc r];exact q⟩
  .subst a;obtain⟨A,r,B,D⟩:=I.tuple u;have d:=r.length;exact truthy_tuple B (by simp only[aX];omega) ⟨H,I.tok _,by rw[Rc r];exact q⟩
  .subst a;obtain⟨D,F,z,r,m⟩:c.length<=sizeLine/\(p == sysModules)=false/\∃ z,KV c z/\s.heap.DictOf (pC X.prog X.w) p z:=I.hok p _ u;have d:c.length=z.length:=fN r;exact wpAny_truthy_dict F m (by omega) ⟨H,I.tok _,by rw[KS r];exact q⟩
 | _=>exact (show False from e).elim
theorem Xa (l:PE X a p) (o:∀ whole,isTrue a X.env whole=(do let v <- whole;standAt a.pos;holding [v] (truthy v))) :
  PT X a (λg H Q=>p g H λx j=>∃ k,Iy X.K x j k/\Q k j):=by
 intro b s g H Q I h;exact isTrue_plain (lQ (l b s g H _ I h) λv i ⟨x,c,d,f,e⟩=>W2 b i g c x v Q d f e) (o _)
theorem wW:mO X (binaryOp .Add) (λx y H Q=>∃ i j,x = .str i/\y = .str j/\i.length+j.length<=sizeLine/\Q (.str (i++j)) H):=by
 intro a s k H x y v u Q I c d h;obtain⟨i,j,rfl,rfl,b,q⟩:=h;obtain⟨t,rfl⟩:=c;obtain⟨e,rfl⟩:=d;exact add_str (λe f=>⟨.str (i++j),H,I.tok _,⟨_,rfl⟩,q⟩) b
theorem qM (r:mB [x] g):∃ u,g=[u]/\mC x u:=by
 cases r with
 | cons a b=>cases b;exact⟨_,rfl,a⟩
theorem yI (r:mB [x,y] j):∃ u g,j=[u,g]/\mC x u/\mC y g:=by
 cases r with
 | cons a b =>
  cases b with
  | cons c d=>cases d;exact⟨_,_,rfl,a,c⟩
theorem OX (l:X.calm=true):nK X (.builtin "max") (λg H Q=>∃ i j,g=[.int i,.int j]/\Q (.int (if j>i then j else i)) H):=by
 intro b s n H g f Q I r h;obtain⟨i,j,rfl,q⟩:=h;obtain⟨u,m,rfl,⟨t,rfl⟩,⟨d,rfl⟩⟩:=yI r;refine max_two_ints (I.ok.hd l) λc e k=>⟨_,H,I.kept k,?_,q⟩
 by_cases a:j>i
 .rw[aT a,aT a];exact⟨_,rfl⟩
 .rw[aN a,aN a];exact⟨_,rfl⟩
theorem Rx (l:X.calm=true):nK X (.builtin "min") (λg H Q=>∃ i j,g=[.int i,.int j]/\Q (.int (if j<i then j else i)) H):=by
 intro b s n H g f Q I r h;obtain⟨i,j,rfl,q⟩:=h;obtain⟨u,m,rfl,⟨t,rfl⟩,⟨d,rfl⟩⟩:=yI r;refine min_two_ints (I.ok.hd l) λc e k=>⟨_,H,I.kept k,?_,q⟩
 by_cases a:j<i
 .rw[aT a,aT a];exact⟨_,rfl⟩
 .rw[aN a,aN a];exact⟨_,rfl⟩
theorem KD:nK X (.type "int") (λg H Q=>(∃ i,g=[.int i]/\Q (.int i) H)\/∃ k,g=[.b k]/\Q (.int (if k then 1 else 0)) H):=by
 intro a s e H g d Q I r h;rcases h with⟨i,rfl,q⟩ | ⟨k,rfl,q⟩
 .obtain⟨u,rfl,t,rfl⟩:=qM r;exact call_int_int ⟨.int i,H,I,⟨_,rfl⟩,q⟩
 .obtain⟨u,rfl,c⟩:=qM r;cases c;exact call_int_bool ⟨.int (if k then 1 else 0),H,I.tok _,⟨_,rfl⟩,q⟩
theorem EH:nK X (.type "str") (λg H Q=>∃ i,g=[.int i]/\i.natAbs.log2<1920/\Q (.str (toString i)) H):=by
 intro a s d H g c Q I r h;obtain⟨i,rfl,b,q⟩:=h;obtain⟨u,rfl,t,rfl⟩:=qM r;exact PySem.P.str_of_int b ⟨.str _,H,I.tok _,⟨_,rfl⟩,q⟩
end
theorem tZ.some_of (r:tZ (some v) o):∃ u,o=some u/\mC v u:=by
 cases o with
 | none=>exact (show False from r).elim
 | some u=>exact⟨u,rfl,r⟩
def Uo (X:Cx) (op:Operator) (rd:V->V->Hp->VK->Prop):Prop :=
 ∀ (a:Aa (Ad×Obj)) (s:Ae) (b:St) (H:Hp) (x y:V) (u v:Ac) (Q:VK),Inv X a b H s->mC x u->mC y v->rd x y H Q->wpAny (model X.prog X.w) X.A (inplaceOp op u v) (EP X a b Q) X.xe s
section
variable {X:Cx}
def CQ:V->V->Hp->VK->Prop:=λx y H Q=>∃ i j,x = .int i/\y = .int j/\Q (.int (i+j)) H
theorem LI:Uo X .Add CQ:=by
 rintro a s e H x y u v Q I c d ⟨i,j,rfl,rfl,q⟩;obtain⟨t,rfl⟩:=(show ∃ t,u=Value.int i t from c);obtain⟨b,rfl⟩:=(show ∃ b,v=Value.int j b from d);exact PyProof.Rows.iadd_int ⟨.int (i+j),H,I.tok _,⟨_,rfl⟩,q⟩
end
structure Room (k:Nat) (A:Around):Prop where
 hd:A.handled=none
 dp:A.depth+3*k+5<recursionLimit
 un:A.units+16*k+200<cLine
theorem Room.mono (r:Room k A) (h:j<=k):Room j A:=⟨r.hd,by have:=r.dp;omega,by have:=r.un;omega⟩
theorem Room.deeper (r:Room (k+1) A) (g:Env):Room k (A.deeper g) :=
 ⟨r.hd,by have:=r.dp;show A.depth+1+3*k+5<_;omega,by have:=r.un;show A.units+3+16*k+200<_;omega⟩
theorem Room.depth (r:Room k A):A.depth<recursionLimit:=by have:=r.dp;omega
theorem Room.units (r:Room k A):A.units+64<cLine:=by have:=r.un;omega
def Hu:TA:=λ_ H Q=>Q [] H
def Cq (g:TE) (j:TA):TA:=λa H Q=>g a H λx b=>j a b λd c=>Q (x::d) c
section
variable {X:Cx}
theorem mJ:PA X [] Hu:=λ_ _ _ _ H Q I h=>jL ⟨[],H,I,.nil,h⟩
theorem wU (j:PE X e p) (l:PA X g t) (o:starEach (e::g) X.env=(false,eval e X.env)::starEach g X.env:=by rfl):PA X (e::g) (Cq p t):=by
 intro pos a s c H Q I h;rw[o];show wpAny _ _ (spliced ((false,eval e X.env)::backTo pos (starEach g X.env))) _ _ s;refine gW (lQ (j a s c H _ I h) λu w b=>?_);obtain⟨x,d,i,q,m⟩:=b;exact lQ (l pos a w c d _ i m) λA z ⟨y,f,k,v,n⟩=>⟨x::y,f,k,.cons q v,n⟩
def AW (t:TA):TE:=λc H Q=>t c H λb a=>b.length<=sizeLine/\∀ p,a p=none->Q (.ref p) (upd a p (.t b))
def U0 (t:TA):TE:=λc H Q=>t c H λb a=>b.length<=sizeLine/\∀ p,a p=none->Q (.ref p) (upd a p (.l b))
theorem xD {j}(h:PA X g t):PE X (.Tuple g j pos) (AW t):=by
 intro a s v H Q I k;refine wpAny_Tuple_spliced (lQ (h pos a s v H _ I k) λm c ⟨n,d,f,r,z,q⟩=>⟨by rw[<- r.length];exact z,?_⟩);have i:d c.heap.objs.size=none:=f.hok.fresh (aW _);refine⟨.ref c.heap.objs.size,upd d c.heap.objs.size (.t n),f.laid (t':=c.toks) (λb u e=>aK _ e) (aW _) ?_,rfl,q _ i⟩;exact⟨z,m,r,⟨_,bA _ rfl,rfl,_,rfl⟩,_,bA _ rfl,rfl⟩
theorem pQ (h:PA X g t):PE X (.List g pos) (U0 t):=by
 intro a s v H Q I k;refine wpAny_List_spliced (lQ (h pos a s v H _ I k) λm c ⟨n,d,f,r,z,q⟩=>⟨by rw[<- r.length];exact z,?_⟩);have i:d c.heap.objs.size=none:=f.hok.fresh (aW _);refine⟨.ref c.heap.objs.size,upd d c.heap.objs.size (.l n),f.laid (t':=c.toks) (λb u e=>aK _ e) (aW _) ?_,rfl,q _ i⟩;exact⟨z,m,0,r,bA _ rfl⟩
end
abbrev Sp:=Aa V->Hp->VK->XK->Prop
abbrev An:=Aa Env->Hp->Ae->XK->Ac->Ae->Prop
structure Env0 (P:Program) (w:World) (K:lL) (mg:Str->Option Value) (base:Heap) (A:Around) (outer:List Env) (s:Shared) (H:Hp):Prop where
 frames:A.frames=some outer
 mod:Mod K mg base
 bs:∀ b o,base.get? b=some o->s.heap.get? b=some o/\H b=none
 bsz:base.objs.size<=s.heap.objs.size
 funs:s.heap.FunFrames base outer
 frf:∀ b∈tX outer,H b=none
 hok:nP P w H s.heap
 bare:AllBare s.gens
def CE (g:Aa Env) (P:Ah) (w:World) (H:Hp) (s:Ae) (Q:VK) (u:Ac) (j:Ae):Prop :=
 ∃ v a,j.os=s.os/\AllBare j.gens/\Un (tX g) [] H a s.heap j.heap/\nP P w a j.heap/\mC v u/\Q v a
def CR (l:An) (g:Aa Env) (P:Ah) (w:World) (H:Hp) (s:Ae) (Q:VK) (E:XK) (r:Result) (j:Ae):Prop :=
 match r with
 | .ok (.ret u)=>CE g P w H s Q u j
 | .ok _=>False
 | .error e=>l g H s E e j
structure FnOk (P:Program) (w:World) (K:lL) (mg:Str->Option Value) (base:Heap) (CX:An) (k:Nat) (f:Addr) (fd:FuncData) (ps:List Str) (sp:Sp):Prop where
 len:∀ vs H Q E,sp vs H Q E->vs.length=ps.length
 run:∀ (A:Around) (outer:List Env) (s:Shared) (H:Hp) (args:Args) (us:List Value) (vs:List V) (Q:VK) (E:XK),Room k A->Env0 P w K mg base A outer s H->BindsTo s fd args (ps.zip us)->mB vs us->sp vs H Q E ->
  codeAny (model P w) A (.call (.ref f) args) (CR CX outer P w H s Q E) s
theorem FnOk.imp {P:Ah}{K:lL}(F:FnOk P w K o base l k f fd p r)
  (h:∀ g H Q E,j g H Q E->r g H Q E):FnOk P w K o base l k f fd p j :=
 ⟨λg H Q E q=>F.len g H Q E (h _ _ _ _ q),λA a s H args m g Q E d c b i e=>F.run A a s H args m g Q E d c b i (h _ _ _ _ e)⟩
section
variable {X:Cx}
theorem Inv.env0 (I:Inv X g j H s):Env0 X.prog X.w X.K X.mg X.base X.A X.stack s H :=
 ⟨I.ok.frames,I.ok.mod,I.bs,cK I.ok.bsz I.sz,I.stack,I.stkFree,I.hok,I.bare⟩
theorem Inv.after (I:Inv X j o H s) (h:CE X.stack X.prog X.w H s Q u l):EP X j o Q u l:=by
 obtain⟨v,e,os,bare,un,a,r,q⟩:=h;obtain⟨f,g,d,t,c⟩:=l;obtain rfl:c=s.os:=os;exact⟨v,e,I.call (h':=f) (g':=g) (d':=d) (t':=t) (ch:=[]) un a bare (λb z=>absurd z (by simp)),r,q⟩
end
def Pf (j:Sp) (g:Aa V) (E:XK) (t:TA):TE:=λc H Q=>t c H λb a=>j (b++g) a Q E
def yL (K:lL) (fd:FuncData) (j:Aa Af) (g:Aa Ac):Prop :=
 ∀ (s:Ae) (a:Aa Ac),K.In s.heap->(a++g).length=j.length->BindsTo s fd ⟨a,[]⟩ (j.zip (a++g))
theorem yL.all {K:lL}(h:∀ g:Aa Ac,g.length=j.length->bindArgs fd ⟨g,[]⟩=pure (j.zip g)):yL K fd j []:=λs g _ a=>by
 rw[dM] at a |-;exact .of_eq (h g a)
def Fj (g:An) (X:Cx) (E:XK):Prop:=∀ (a:Aa (Ad×Obj)) (c:St) (H:Hp) (s:Ae) (e:Ac) (b:Ae),Inv X a c H s->g X.stack H s E e b->X.xe e b
section
variable {X:Cx}
theorem T7 (F:FnOk X.prog X.w X.K X.mg X.base J k f fd p sp) (U:Room k X.A) (T:yL X.K fd p l) (hd:mB j l) (hx:Fj J X E)
  (I:Inv X g C H s) (r:mB o us) (h:sp (o++j) H Q E):wpAny (model X.prog X.w) X.A (call (.ref f) us) (EP X g C Q) X.xe s:=by
 have b:mB (o++j) (us++l):=r.append hd;have d:(us++l).length=p.length:=by rw[<- b.length];exact F.len _ _ _ _ h
 refine wpAny_call (codeAny_mono (F.run X.A X.stack s H ⟨us,[]⟩ (us++l) (o++j) Q E U I.env0 (T s us I.kIn d) b h) λr i a=>?_);cases r with
 | error e=>exact hx g C H s e i I a
 | ok c =>
  cases c with
  | ret u=>exact I.after a
  | next=>exact False.elim a
  | brk=>exact False.elim a
  | cont=>exact False.elim a
structure StB (X:Cx) (e:Expr) (es:List Expr) (pos:Pos):Prop where
 a:starEach (e::es) X.env=(false,eval e X.env)::starEach es X.env:=by rfl
 b:(backTo pos (starEach es X.env)).any (·.1)=false:=by rfl
theorem sL (F:FnOk X.prog X.w X.K X.mg X.base C k f fd ps sp) (hr:Room k X.A) (hg:Gl X x) (hm:X.mg x=some (.ref f)) (hk:PySem.W.keepIn X.K (.ref f)=true) (U:yL X.K fd ps J) (hd:mB j J) (hx:Fj C X E)
  (T:PA X (e::o) t) (l:(x == ("__debug__" : Af))=false:=by decide) (g:StB X e o pos:=by exact {}) :
  PE X (.Call (.Name x p) (e::o) [] pos) (Pf sp j E t):=by
 intro c s i H Q I h;refine eK (P0 I hg hm ?_ l);refine PySem.W.callWith_K (h₀:=X.base) I.ok.mod.kin hk (lQ (T pos c s i H _ I h) λu n ⟨v,m,d,r,q⟩=>⟨d.kIn,?_⟩) g.a g.b;exact T7 F hr U hd hx d r q
theorem M6 (F:FnOk X.prog X.w X.K X.mg X.base l k f fd ps sp) (U:Room k X.A) (C:Gl X x) (T:X.mg x=some (.ref f)) (J:PySem.W.keepIn X.K (.ref f)=true) (r:yL X.K fd ps o) (hd:mB g o) (hx:Fj l X E)
  (j:(x == ("__debug__" : Af))=false:=by decide):PE X (.Call (.Name x p) [] [] pos) (Pf sp g E Hu):=by
 intro a s b H Q I h;refine eK (P0 I C T ?_ j);exact PySem.W.callWith_K0 I.kIn J (T7 (us:=[]) F U r hd hx I .nil h)
end
structure FnScope (N P:List Str) (sc:Scope):Prop where
 kind:sc.kind = .function
 co:sc.isCoroutine=false
 gen:sc.isGenerator=false
 nd:N.Nodup
 pre:N.take P.length=P
 par:∀ x∈P,sc.names.lookup x=some .local\/sc.names.lookup x=some .cell
 nofree:∀ y∈sc.names,y.2 ≠ .free
theorem Qz {kindOf:Af->Ab NameKind}:∀ {binds:Aa (Af×Ac)}{m:Af->Ab Ac},(∀ v,(x,v)∉binds)->bindL kindOf binds m x=m x
 | [],_,_=>rfl
 | (n,v)::r,m,h=>by
  unfold bindL;rw[Qz λw hw=>h w (aM _ hw)];split
  .have:x≠n:=by rintro rfl;exact h v aH
   simp[this]
  .rfl
theorem V1 {kindOf:Af->Ab NameKind}:∀ {binds:Aa (Af×Ac)}{m:Af->Ab Ac},(∀ v,(x,v)∉binds)->bindC kindOf binds m x=m x
 | [],_,_=>rfl
 | (n,v)::r,m,h=>by
  unfold bindC;rw[V1 λw hw=>h w (aM _ hw)];split
  .rfl
  .have:x≠n:=by rintro rfl;exact h v aH
   simp[this]
theorem Ro {kindOf:Af->Ab NameKind}:∀ {P:Aa Af}{g:Aa Ac}{i:Nat}{m:Af->Ab Ac},P.Nodup->P[i]?=some x->g[i]?=some v->kindOf x=some .local ->
  bindL kindOf (P.zip g) m x=some v
 | [],_,_,_,_,h,_,_=>by simp at h
 | _::_,[],_,_,_,_,h,_=>by simp at h
 | p::P,w::g,0,m,d,a,b,c=>by
  simp at a b;subst a;subst b;show bindL kindOf ((p,w)::P.zip g) m p=_;unfold bindL;rw[Qz λv e=>(cD.mp d).1 (kB e).1,aT c];simp
 | p::P,w::g,i+1,m,d,a,b,c=>by
  show bindL kindOf ((p,w)::P.zip g) m x=_;unfold bindL;exact Ro (i:=i) (cD.mp d).2 (by simpa using a) (by simpa using b) c
theorem Tw {kindOf:Af->Ab NameKind}:∀ {P:Aa Af}{g:Aa Ac}{i:Nat}{m:Af->Ab Ac},P.Nodup->P[i]?=some x->g[i]?=some v->kindOf x≠some .local ->
  bindC kindOf (P.zip g) m x=some v
 | [],_,_,_,_,h,_,_=>by simp at h
 | _::_,[],_,_,_,_,h,_=>by simp at h
 | p::P,w::g,0,m,d,a,b,c=>by
  simp at a b;subst a;subst b;show bindC kindOf ((p,w)::P.zip g) m p=_;unfold bindC;rw[V1 λv e=>(cD.mp d).1 (kB e).1,aN c];simp
 | p::P,w::g,i+1,m,d,a,b,c=>by
  show bindC kindOf ((p,w)::P.zip g) m x=_;unfold bindC;exact Tw (i:=i) (cD.mp d).2 (by simpa using a) (by simpa using b) c
def uA (N:Aa Af) (g:Aa V):St:=g.map some++List.replicate (N.length-g.length) none
noncomputable def xH (o:An) (P:Ah) (w:World) (K:lL) (p:Af->Ab Ac) (base:Ag) (N:Aa Af) (l:Af) (g:Scope) (f:Ad) (cd:Ac) (A:Around) (j:Aa Env) (s:Ae) (H:Hp) (E:XK):Cx where
 prog:=P
 w:=w
 K:=K
 mg:=p
 base:=base
 A:=A.deeper (envOfC l g s.heap.objs.size f cd)
 N:=N
 s₀:=s
 H₀:=H
 env:=envOfC l g s.heap.objs.size f cd
 outer:=j
 stack:=envOfC l g s.heap.objs.size f cd::j
 ex:=[]
 calm:=true
 fn:=λ_=>true
 pn:=[]
 xe:=λe c=>wpAny (model P w) (A.deeper (envOfC l g s.heap.objs.size f cd)) (leaving (envOfC l g s.heap.objs.size f cd) e) (λ_ a=>o j H s E e a) (λb a=>o j H s E b a) c
theorem Oo {g:Scope}{n:Nat}{x:Af}(h:g.names.lookup x=some .cell):∃ c,(cellsFrom n g.names []).lookup x=some c:=by
 have q:=PySem.W.cellsFrom_some g.names n [] (.inl h);exact dD.mp q
theorem MX {P:Ah}{K:lL}{cd:Ac}
  (S:FnScope N C g) (hd:A.handled=none) (o:Env0 P w K J base A j s H) (hl:I.length=C.length) (r:mB I T)
  (x:InCallC s s.heap.objs.size (bindL (envOfC l g s.heap.objs.size f cd).kindOf (C.zip T) λ_=>none) (cellsFrom (s.heap.objs.size+1) g.names []) (bindC (envOfC l g s.heap.objs.size f cd).kindOf (C.zip T) λ_=>none) s1) :
  Inv (xH U P w K J base N l g f cd A j s H E) [] (uA N I) H s1:=by
 have Q:C.length<=N.length:=by have:=bY List.length S.pre;rw[bZ] at this;omega
 obtain⟨F,W,rfl,L⟩:=x.done;have t:∀ b:Ad,b∉(xH U P w K J base N l g f cd A j s H E).ex:=λb z=>absurd (show b∈([]:Aa Ad) from z) (by simp)
 refine⟨⟨o.mod,S.kind,rfl,rfl,aW _,λy z c F d=>?_,λy m=>?_,λy c _ h=>?_,λ_=>hd,Around.frames_deeper o.frames,.inr ⟨rfl,rfl⟩,λb z=>absurd z (t b),o.bs,o.bsz,λb _ _=>t b,λb z=>absurd z (t b),o.funs,o.frf⟩,
  rfl,o.bare,Un.kept L,⟨_,x.toInCall.ns,λi y v F d V=>?_⟩,λy c h=>⟨_,x.cell y c h⟩,o.hok.fresh (aW _),λy c h=>?_,λp B=>absurd (show p∈([]:Aa (Ad×Obj)) from B) (by simp),o.hok.kept L,?_⟩
 .exact name_of_addr x.apart (dO F) (dO d)
 .have m:g.names.lookup y=some .cell\/g.names.lookup y=some .free:=m;rcases m with m | m
  .exact Oo m
  .exact absurd rfl (S.nofree _ (dO m))
 .exact eP (x.above y c (dO h))
 .have G:i<I.length:=by
   unfold uA at d;by_cases G:i<I.length
   .exact G
   .rw[eR (by simpa using G)] at d;rw[List.getElem?_replicate] at d;split at d<;>cases d
  have O:I[i]?=some v:=by
   unfold uA at d;rw[iM (by simpa using G),bC] at d;cases e:I[i]? with
   | none=>rw[e] at d;cases d
   | some a=>rw[e] at d;cases d;rfl
  obtain⟨u,M,R⟩:=r.get O;have B:C[i]?=some y:=by
   rw[<- S.pre,List.getElem?_take_of_lt (by omega)];exact F
  have D:C.Nodup:=by rw[<- S.pre];exact S.nd.sublist (List.take_sublist _ _)
  refine⟨u,R,?_⟩;rcases S.par y (aO B) with k | k
  .exact .inl ⟨k,Ro D B M k⟩
  .obtain⟨c,e⟩:=Oo (n:=s.heap.objs.size+1) k;refine .inr ⟨.inl k,c,e,?_⟩;have q:=x.cell y c e;rw[Tw D B M (by show g.names.lookup y≠_;rw[k];decide)] at q;exact q
 .exact o.hok.fresh (eP (x.above y c (dO h)))
 .unfold uA;show _=N.length;rw[bK,aA,eC];omega
theorem DI {P:Ah}{K:lL}{kV:Ac}
(lk:K.lookup f=some ⟨oc,od,.func (PySem.W.fnOf name l C body g dV kV ab pm an p ct),ae⟩) (ac:PySem.W.codeIn K p l=true) (S:FnScope N ps g)
  (len:∀ T H Q E,sp T H Q E->T.length=ps.length)
  (aa:∀ (A:Around) (j:Aa Env) (s:Ae) (H:Hp) (T:Aa V) (Q:VK) (E:XK),Room k (A.deeper (envOfC l g s.heap.objs.size f p))->sp T H Q E ->∃ t,pE (xH CX P w K mg base N l g f p A j s H E) body t/\t { nx:=λ_ U=>Q .e U,rt:=Q } (uA N T) H) :
  FnOk P w K mg base CX (k+1) f (PySem.W.fnOf name l C body g dV kV ab pm an p ct) ps sp:=by
 refine⟨len,λA j s H args us T Q E m h O r i=>?_⟩;have X:=len _ _ _ _ i;have F:K.In s.heap:=h.mod.kin.keeps λb o e=>(h.bs b o e).1
 have z:s.heap.NoLimit:=h.mod.nolimit.keeps λb o e=>(h.bs b o e).1
 have c:∀ y∈ps.zip us,g.names.lookup y.1=some .local\/(g.names.lookup y.1=some .cell/\((cellsFrom (s.heap.objs.size+1) g.names []).lookup y.1).isSome=true):=λ⟨n,v⟩ hy=>by
  rcases S.par n (kB hy).1 with q | q
  .exact .inl q
  .exact .inr ⟨q,PySem.W.cellsFrom_some _ _ _ (.inl q)⟩
 refine codeAny_call_function m.depth (F _ _ lk) rfl S.co S.gen rfl (PySem.W.codeRec_of F ac) (O _ _ _ _ ?_);refine wpAny_newFunctionEnv_cells S.kind c λL R G x=>?_
 subst R;refine⟨z.keeps x.toInCall.keep,codeAny_func ?_⟩;obtain⟨t,Z,Y⟩:=aa A j s H T Q E (m.deeper _) i;have I:Inv (xH CX P w K mg base N l g f p A j s H E) [] (uA N T) H G:=MX S m.hd h X r x;refine cS (Z [] G (uA N T) H _ I Y) (λM D d=>?_) λe D d=>d
 have fin:∀ {a:St} {U:Hp} {v:V} {u:Ac},Inv (xH CX P w K mg base N l g f p A j s H E) [] a U D->mC v u->Q v U->CE j P w H s Q u D :=
  λ{a U v u} J B q=>⟨v,U,J.os,J.bare,J.base,J.hok,B,q⟩
 cases M with
 | ret u =>
  obtain⟨v,a,U,J,B,q⟩:=d;exact fin J B q
 | next =>
  obtain⟨a,U,J,q⟩:=d;exact fin (v:=V.e) (u:=Value.none) J rfl q
 | brk =>
  obtain⟨_,_,_,q⟩:=d;exact False.elim q
 | cont =>
  obtain⟨_,_,_,q⟩:=d;exact False.elim q
section
variable {X:Cx}{id:String}
def Rk (r:Aa V->Hp->VK->Prop) (t:TA):TE:=λc H Q=>t c H λb a=>r b a Q
theorem uG (C:nK X (.builtin id) r) (J:Gl X x) (T:X.mg x=none) (hv:bootBuiltins x=some (.builtin id)) (o:PA X (e::l) t) (U:x ≠ "__name__" := by decide) (j:(x == ("__debug__" : Af))=false:=by decide)
  (g:StB X e l pos:=by exact {}):PE X (.Call (.Name x p) (e::l) [] pos) (Rk r t):=by
 intro c s d H Q I h;refine eK (xA I J T hv ?_ U j);exact PyProof.Rows.callWith_builtin1 (lQ (o pos c s d H _ I h) λq n ⟨u,f,i,m,k⟩=>C c n d f u q Q i m k) g.a g.b
theorem K9 (C:nK X (.type T) r) (J:Gl X x) (U:X.mg x=none) (hv:bootBuiltins x=some (.type T)) (o:PA X (e::l) t) (hn:x ≠ "__name__" := by decide) (j:(x == ("__debug__" : Af))=false:=by decide)
  (g:StB X e l pos:=by exact {}):PE X (.Call (.Name x p) (e::l) [] pos) (Rk r t):=by
 intro c s d H Q I h;refine eK (xA I J U hv ?_ hn j);exact cT (lQ (o pos c s d H _ I h) λq n ⟨u,f,i,m,k⟩=>C c n d f u q Q i m k) g.a g.b
end
end L2
namespace HT
open PySem PyProof.Rows
section
theorem cat_tup (J:IsTup s.heap t j.toArray) (I:IsTup s.heap b g.toArray) (o:j≠[])
  (r:g=[]->Q (.ref t) s) (C:g≠[]->Q (.ref s.heap.objs.size) { s with heap:=s.heap.push { cls:=.type "tuple",data:=.seq (j++g).toArray } })
  (l:j.length+g.length<=sizeLine):wpAny (model p w) A (binaryOp .Add (.ref t) (.ref b)) Q E s:=by
 obtain⟨⟨cls,m,data,sl⟩,i,q,n,hd⟩:=id J;obtain⟨⟨k,c,data2,h⟩,a,d,u,f⟩:=id I;simp only at q hd d f;subst q hd d f;have e:j.toArray++g.toArray=(j++g).toArray:=by simp
 by_cases hw:g=[]
 .exact concat_meets ⟨_,i,rfl⟩ ⟨_,a,rfl⟩ noFill_tuple_add seq_tuple_add jM jF (iS _ _)
   (tuple_addW1 t b j.toArray g.toArray n u m c sl h (by simpa using o) (by simp[hw])) ⟨i,a,r hw⟩
 .refine concat_meets ⟨_,i,rfl⟩ ⟨_,a,rfl⟩ noFill_tuple_add seq_tuple_add jM jF (iS _ _)
   (tuple_addW2 t b j.toArray g.toArray n u m c sl h (by simpa using o) (by simpa using hw) (by rw[aX,aX];exact l)) ⟨i,a,?_⟩
  rw[e];exact C hw
noncomputable def sIx (n d:Nat):Ab Int->Nat
 | none=>d
 | some v=>if v<0 then (v+(n:Int)).toNat else min v.toNat n
theorem sIx_none (n d:Nat):sIx n d none=d:=rfl
theorem sIx_nat (n d k:Nat):sIx n d (some (k:Int))=min k n:=by
 show (if (k:Int)<0 then ((k:Int)+(n:Int)).toNat else min (k:Int).toNat n)=min k n;rw[aN (by omega),cF]
theorem sIx_le (n d:Nat) (hd:d<=n) (o:Ab Int):sIx n d o<=n:=by
 cases o with
 | none=>exact hd
 | some v =>
  show (if v<0 then (v+(n:Int)).toNat else min v.toNat n)<=n;by_cases a:v<0
  .rw[aT a];omega
  .rw[aN a];exact Nat.min_le_right _ _
theorem Vb (v:Int) (n d:Nat):(if v<0 then max (v+(n:Int)) 0 else min v (n:Int))=((sIx n d (some v):Nat):Int):=by
 show (if v<0 then max (v+(n:Int)) 0 else min v (n:Int))=(((if v<0 then (v+(n:Int)).toNat else min v.toNat n):Nat):Int);by_cases a:v<0
 .simp only[aT a];omega
 .simp only[aN a];omega
theorem W7 (lo g:Ab Int) (n:Nat):Builtin.Slice.sliceAdjust lo g 1 (n:Int)=(((sIx n 0 lo:Nat):Int),((sIx n n g:Nat):Int)):=by
 have a:¬ ((1:Int)<0):=by omega
 unfold Builtin.Slice.sliceAdjust;simp only[a,fR];refine Prod.ext ?_ ?_
 .cases lo with
  | none=>rfl
  | some v=>exact Vb v n 0
 .cases g with
  | none=>rfl
  | some v=>exact Vb v n n
theorem Yv (i j:Nat):Builtin.Slice.slicePlaces (i:Int) (j:Int) 1=j-i:=by
 unfold Builtin.Slice.slicePlaces;have a:(1:Int)>0:=by omega
 simp only[a,gE,Int.ediv_one];split<;>omega
theorem Tl (p:IsPart v o) (h:Q o s):wpAny (model g w) A (Builtin.Slice.slicePartIndex v) Q E s:=by
 cases p with
 | none=>exact slicePart_none h
 | int i t=>exact slicePart_int h
theorem Yt {sl:Ad}{j l:Ac}{lo g:Ab Int}{n:Nat}{Q:Int×Int×Nat->Ae->Prop}(p:s.heap.IsSliceOf sl j l .none) (r:IsPart j lo) (C:IsPart l g)
  (h:Q (((sIx n 0 lo:Nat):Int),1,sIx n n g-sIx n 0 lo) s):wpAny (model o w) A (Builtin.Slice.sliceApplied (.ref sl) (pure (n:Int))) Q E s:=by
 obtain⟨os,b,c,a⟩:=id p;unfold Builtin.Slice.sliceApplied Builtin.Slice.sliceFields;refine aB (aB (eA b a (x:=j) rfl (aB (eA b a (x:=l) rfl (aB (eA b a (x:=.none) rfl (aG ?_)))))));refine aB (slicePart_none ?_);show wpAny _ _ (if ((1:Int) == 0)=true then _ else _) _ _ s;rw[aN (by decide)];refine aB (Tl r (aB (Tl C (aB (aG ?_)))));show wpAny _ _ (match Builtin.Slice.sliceAdjust lo g 1 (n:Int) with | (lo,g)=>pure (lo,(1:Int),Builtin.Slice.slicePlaces lo g 1)) _ _ s;rw[W7 lo g n];show wpAny _ _ (pure (((sIx n 0 lo:Nat):Int),(1:Int),Builtin.Slice.slicePlaces ((sIx n 0 lo:Nat):Int) ((sIx n n g:Nat):Int) 1)) _ _ s;rw[Yv];exact aG h
theorem GP (g:Array Ac) (i k:Nat):((List.range k).filterMap λ(m:Nat)=>g[((i:Int)+(m:Int)*1).toNat]?).toArray=((g.toList.drop i).take k).toArray:=by
 have e:(λ(m:Nat)=>g[((i:Int)+(m:Int)*1).toNat]?)=λm=>g[i+m]?:=by
  funext m
  have:((i:Int)+(m:Int)*1).toNat=i+m:=by omega
  rw[this]
 rw[e];have:=pick_run g i k;rw[iY] at this;have a:((λx=>g[x]?)∘λx=>i+x)=λm=>g[i+m]?:=rfl
 rw[a] at this;rw[this]
theorem getItem_tuple_cut {sl:Ad}{lo:Ab Int}(j:IsTup s.heap t items) (l:s.heap.IsSliceOf sl I J .none) (r:IsPart I lo) (C:IsPart J g)
  (hw:¬ (sIx items.size 0 lo=0/\sIx items.size items.size g=items.size))
  (h:Q (.ref s.heap.objs.size) { s with heap:=s.heap.push { cls:=.type "tuple",data:=.seq ((items.toList.drop (sIx items.size 0 lo)).take (sIx items.size items.size g-sIx items.size 0 lo)).toArray } })
  (p:items.size<=sizeLine):wpAny (model o w) A (getItem (.ref t) (.ref sl)) Q E s:=by
 have a:sizeOk (.seq ((items.toList.drop (sIx items.size 0 lo)).take (sIx items.size items.size g-sIx items.size 0 lo)).toArray):=by
  show ((items.toList.drop (sIx items.size 0 lo)).take (sIx items.size items.size g-sIx items.size 0 lo)).toArray.size<=sizeLine;rw[aX,bZ,dY,fH];omega
 have i:sIx items.size items.size g<=items.size:=sIx_le _ _ (aW _) g;obtain⟨os,e,c,f⟩:=id l;have b:s.TypeIs (.ref sl) "slice" := ⟨os,e,c⟩;unfold getItem
 try with_reducible refine bX ?_
 first | refine aB (aG ?_) | skip
 refine aB (wpAny_sequenceKey j.typeIs (by decide) ?_);refine aB (cA (name:=Str.ofString "__getitem__") j.typeIs gJ (cM gJ j.typeIs entry_tuple_getitem ?_ (args_tuple_getitem _ _)));show wpAny _ _ (Builtin.Tuple.tupleItemsOf (.ref t) >>= _) _ _ s;refine aB (tupleItemsOf_ j ?_);refine aB (eS b ?_);rw[aT (by decide)];refine aB (Yt l r C ?_);have d:¬ ((((sIx items.size 0 lo:Nat):Int) == 0&&(1:Int) == 1&&(sIx items.size items.size g-sIx items.size 0 lo) == items.size)=true):=by
  intro q;rw[cN,cN] at q;have k:((sIx items.size 0 lo:Nat):Int)=0:=eq_of_beq q.1.1;have n:sIx items.size items.size g-sIx items.size 0 lo=items.size:=eq_of_beq q.2;exact hw ⟨by omega,by omega⟩
 show wpAny _ _ (if (((sIx items.size 0 lo:Nat):Int) == 0&&(1:Int) == 1&&(sIx items.size items.size g-sIx items.size 0 lo) == items.size)=true then _ else _) _ _ s;rw[aN d,GP]
 first
  | exact aB (m:=Builtin.Tuple.tupleExact _) (eT (aG ⟨_,rfl,aG h⟩) a)
  | exact aB (m:=Builtin.Tuple.tupleExact _) (eT (aB (aG (aG ⟨_,rfl,aG h⟩))) a)
  | exact aB (aB (m:=Builtin.Tuple.tupleExact _) (eT (aG (aG ⟨_,rfl,aG h⟩)) a))
  | exact aB (aB (m:=Builtin.Tuple.tupleExact _) (eT (aG ⟨_,rfl,aG h⟩) a))
end
end HT
namespace L2
open PySem PySem.Spec PyProof.Rows
abbrev TO:=St->Hp->(Ab Int->Hp->Prop)->Prop
def PO (X:Cx) (e:Ab Expr) (t:TO):Prop :=
 ∀ (a:Aa (Ad×Obj)) (s:Ae) (b:St) (H:Hp) (Q:Ab Int->Hp->Prop),Inv X a b H s->t b H Q ->
  wpAny (model X.prog X.w) X.A (evalPart e X.env) (λu d=>∃ o c,Inv X a b c d/\IsPart u o/\Q o c) X.xe s
def Mt:TO:=λ_ H Q=>Q none H
def M7 (t:TE):TO:=λb H Q=>t b H λx a=>∃ i,x = .int i/\Q (some i) a
section
variable {X:Cx}{lo:Ab Expr}
theorem Du:PO X none Mt:=by
 intro a s b H Q I h;rw[evalPart_none];exact aG ⟨none,H,I,.none,h⟩
theorem Ct (h:PE X e g):PO X (some e) (M7 g):=by
 intro a s m H Q I hw;rw[evalPart_some];refine lQ (h a s m H _ I hw) λu n b=>?_
 obtain⟨x,c,d,k,f⟩:=b;obtain⟨i,rfl,q⟩:=f;obtain⟨t,rfl⟩:=k;exact⟨some i,c,d,.int i t,q⟩
def vP (X:Cx) (r:V->Ab Int->Ab Int->Hp->VK->Prop):Prop :=
 ∀ (a:Aa (Ad×Obj)) (s:Ae) (e:St) (H:Hp) (x:V) (v c d:Ac) (lo b:Ab Int) (sl:Ad) (Q:VK),Inv X a e H s->mC x v->s.heap.IsSliceOf sl c d .none->IsPart c lo->IsPart d b->r x lo b H Q ->
  ∃ T id,typeLookup (.type T) "__getitem__" = pure (some (.builtin id))/\s.TypeIs v T/\wpAny (model X.prog X.w) X.A (getItem v (.ref sl)) (EP X a e Q) X.xe s
theorem vP.or (h:vP X r) (j:vP X l):vP X (λx lo g H Q=>r x lo g H Q\/l x lo g H Q):=by
 intro a s k H x v f i lo g sl Q I e b c d q;rcases q with q | q
 .exact h a s k H x v f i lo g sl Q I e b c d q
 .exact j a s k H x v f i lo g sl Q I e b c d q
def Yw (r:V->Ab Int->Ab Int->Hp->VK->Prop) (g:TE) (j th:TO):TE:=λa H Q=>g a H λx b=>j a b λl c=>th a c λu d=>r x l u d Q
theorem C0 (p:vP X r) (j:PE X e U) (o:PO X lo tl) (C:PO X g th):PE X (.Subscript e (.Slice lo g none J) pos) (Yw r U tl th):=by
 intro a s f H Q I h;refine Subscript_ (lQ (j a s f H _ I h) λv R d=>?_);obtain⟨x,n,y,P,M⟩:=d;refine wpAny_Slice (lQ (o a R f n _ y M) λi S ⟨l,t,z,K,N⟩=>lQ (C a S f t _ z N) λk c d=>?_);obtain⟨u,m,B,L,O⟩:=d;rw[evalPart_none];refine aG ?_;have D:Inv X a f m { c with heap:=c.heap.push { cls:=.type "slice",data:=.fields #[i,k,.none] } }:=B.kept (t':=c.toks) λb V q=>aK _ q
 obtain⟨T,id,E,G,F⟩:=p a { c with heap:=c.heap.push { cls:=.type "slice",data:=.fields #[i,k,.none] } } f m x v i k l u c.heap.objs.size Q D P (Heap.IsSliceOf.new ..) K L O;show wpAny (model X.prog X.w) X.A (subscriptTail e (.Slice lo g none J) v (.ref c.heap.objs.size)) (EP X a f Q) X.xe { c with heap:=c.heap.push { cls:=.type "slice",data:=.fields #[i,k,.none] } };exact tail_any (ops:=[.ref c.heap.objs.size,v]) G E F (by with_unfolding_all rfl)
def uH (g:Aa V) (lo j:Ab Int):Aa V:=(g.drop (HT.sIx g.length 0 lo)).take (HT.sIx g.length g.length j-HT.sIx g.length 0 lo)
theorem Od (g:Aa V) (lo j:Ab Int):(uH g lo j).length<=g.length:=by
 unfold uH;rw[bZ,dY];omega
def T5 (K:lL):V->Ab Int->Ab Int->Hp->VK->Prop:=λx lo c H Q=>∃ a b,x = .ref a/\mF K H a b /\
 ¬ (HT.sIx b.length 0 lo=0/\HT.sIx b.length b.length c=b.length)/\∀ p,H p=none->Q (.ref p) (upd H p (.t (uH b lo c)))
theorem HZ:vP X (T5 X.K):=by
 intro m s E H x v B D lo e sl Q I z n w y h;obtain⟨a,d,rfl,u,hw,q⟩:=h;cases z;obtain⟨f,r,i,k⟩:=I.tuple u;have c:f.toArray.size=d.length:=by rw[aX];exact r.length.symm
 refine⟨"tuple",_,gJ.lookup,i.typeIs,?_⟩;refine HT.getItem_tuple_cut i n w y (by rw[c];exact hw) ?_ (by rw[c];exact k);rw[c];refine⟨.ref s.heap.objs.size,_,I.laid (t':=s.toks) (o:=.t (uH d lo e)) (λb A q=>aK _ q) (aW _) ?_,rfl,q _ (I.hok.fresh (aW _))⟩;exact⟨cK (Od d lo e) k,_,(r.drop (HT.sIx d.length 0 lo)).take (HT.sIx d.length d.length e-HT.sIx d.length 0 lo),xG.new _ _⟩
def S4 (K:lL):R2:=λx y H Q=>∃ a b d c,x = .ref a/\y = .ref b/\mF K H a d/\mF K H b c/\d≠[]/\d.length+c.length<=sizeLine /\
 (c=[]->Q (.ref a) H)/\(c≠[]->∀ p,H p=none->Q (.ref p) (upd H p (.t (d++c))))
theorem mB.nil_iff (r:mB j g):g=[]↔j=[]:=by
 cases r with
 | nil=>simp
 | cons _ _=>simp
theorem CO:mO X (binaryOp .Add) (S4 X.K):=by
 intro i s P H x y v u Q I G L h;obtain⟨a,b,M,N,rfl,rfl,k,m,n,e,E,F⟩:=h;cases G;cases L;obtain⟨A,d,B,_⟩:=I.tuple k;obtain⟨f,c,D,_⟩:=I.tuple m;refine HT.cat_tup B D (λz=>n (d.nil_iff.mp z)) (λz=>⟨.ref a,H,I,rfl,E (c.nil_iff.mp z)⟩) (λz=>?_) (by rw[<- d.length,<- c.length];exact e);refine⟨.ref s.heap.objs.size,_,I.laid (t':=s.toks) (o:=.t (M++N)) (λb O q=>aK _ q) (aW _) ?_,rfl,F (λw=>z (c.nil_iff.mpr w)) _ (I.hok.fresh (aW _))⟩;exact⟨by rw[bK];exact e,_,d.append c,xG.new _ _⟩
end
noncomputable def uS (n:Nat) (i:Int):Ab Nat:=if 0<=i then (if i<n then some i.toNat else none) else if -(n:Int)<=i then some (i+n).toNat else none
def nT {l:Type}(g:Aa l) (i:Int):Ab l:=(uS g.length i).bind λj=>g[j]?
theorem Rj (h:uS n i=some j):seqIndex? i n=some j/\j<n/\-(n:Int)<=i/\i<n:=by
 unfold uS at h;by_cases b:0<=i
 .rw[aT b] at h;by_cases a:i<n
  .rw[aT a] at h;have e:i.toNat=j:=bN h;exact⟨by rw[seqIndex_of b a,e],by omega,by omega,a⟩
  .rw[aN a] at h;cases h
 .rw[aN b] at h;by_cases a:-(n:Int)<=i
  .rw[aT a] at h;have e:(i+n).toNat=j:=bN h;exact⟨by rw[seqIndex_neg (by omega) a,e],by omega,a,by omega⟩
  .rw[aN a] at h;cases h
theorem Ld (h:nT g i=some v):∃ j,seqIndex? i g.length=some j/\g[j]?=some v/\j<g.length/\-(g.length:Int)<=i/\i<g.length:=by
 unfold nT at h;cases e:uS g.length i with
 | none=>rw[e] at h;cases h
 | some j =>
  rw[e] at h;obtain⟨a,b,c,d⟩:=Rj e;exact⟨j,a,h,b,c,d⟩
theorem pJ {l:Type}{g:Aa l}{j:Nat}{v:l}(h:g[j]?=some v):nT g (j:Int)=some v:=by
 have a:j<g.length:=(aU.mp h).1;have e:uS g.length (j:Int)=some j:=by
  unfold uS;rw[aT (by omega),aT (by omega)];simp
 unfold nT;rw[e];exact h
def Lt (b:Expr):Prop:=∀ o i,subscripted b false o i=operate [o,i] (getItem o i)
def tW (X:Cx) (r:R2):Prop :=
 ∀ (value slice:Expr) (a:Aa (Ad×Obj)) (s:Ae) (b:St) (H:Hp) (x y:V) (v u:Ac) (Q:VK),Inv X a b H s->mC x v->mC y u->r x y H Q ->
  subscripted slice false v u=operate [v,u] (getItem v u)->wpAny (model X.prog X.w) X.A (subscriptTail value slice v u) (EP X a b Q) X.xe s
def wN (X:Cx) (id:String) (r:V->Aa V->Hp->VK->Prop):Prop :=
 ∀ (a:Aa (Ad×Obj)) (s:Ae) (d:St) (H:Hp) (x:V) (c:Aa V) (v:Ac) (b:Aa Ac) (Q:VK),Inv X a d H s->mC x v->mB c b->r x c H Q ->
  wpAny (model X.prog X.w) X.A (call (.builtin id) (v::b)) (EP X a d Q) X.xe s
section
variable {X:Cx}
theorem tW.or (h:tW X r) (g:tW X j):tW X (λx y H Q=>r x y H Q\/j x y H Q):=by
 intro value slice a s e H x y v u Q I c d q b;rcases q with q | q
 .exact h value slice a s e H x y v u Q I c d q b
 .exact g value slice a s e H x y v u Q I c d q b
theorem oZ {r:R2}(l:tW X r) (g:PE X a p) (j:PE X b C) (o:Lt b):PE X (.Subscript a b pos) (Bn r p C):=by
 intro c s m H Q I h;exact Subscript_ (Jg g j I h λv u k x y d e f i q=>l a b c k m d x y v u Q e f i q (o _ _))
def Fq (K:lL):R2:=λx y H Q=>∃ p a i v,x = .ref p/\y = .int i/\lO K H p a/\nT a i=some v/\Q v H
def E3 (K:lL):R2:=λx y H Q=>∃ p a i v,x = .ref p/\y = .int i/\mF K H p a/\nT a i=some v/\Q v H
def Nl:R2:=λx y H Q=>∃ z i c,x = .str z/\y = .int i/\z.length<=sizeLine/\nT z.cps.toList i=some c/\Q (.str ⟨#[c]⟩) H
theorem qQ:tW X (Fq X.K):=by
 intro value slice a s A H x y v u Q I M N h n;obtain⟨p,V,i,z,rfl,rfl,L,F,q⟩:=h;cases M;obtain⟨t,rfl⟩:=N;obtain⟨d,r,e,S⟩:=I.list L;obtain⟨j,b,B,P,D,E⟩:=Ld F;obtain⟨w,k,f⟩:=r.get B;have G:=r.length;have R:=yU;have fin:EP X a A Q w s:=⟨z,H,I,f,q⟩;by_cases m:0<=i
 .have c:i.toNat=j:=by
   rw[seqIndex_of m E] at b;exact bN b
  exact item_listR e.isList m (by omega) (by rw[c];simpa using k) fin n
 .have c:(i+(d.toArray.size:Int)).toNat=j:=by
   rw[seqIndex_neg (by omega) D] at b;rw[aX,<- G];exact bN b
  exact subscriptTail_builtinR (x:=w) e.isList.typeIs slot_list_getitem.lookup
   (wpAny_getItem_list_neg (Q:=λr O=>r=w/\EP X a A Q r O) e.isList (by omega) (by rw[aX]<;>omega) (by omega) (by rw[c];simpa using k) ⟨rfl,fin⟩) n
theorem Kl:tW X (E3 X.K):=by
 intro value slice a s d H x y v u Q I E F h B;obtain⟨p,R,i,z,rfl,rfl,A,m,q⟩:=h;cases E;obtain⟨t,rfl⟩:=F;obtain⟨D,r,c,P⟩:=I.tuple A;obtain⟨j,f,k,L,M,N⟩:=Ld m;obtain⟨w,e,b⟩:=r.get k;have n:=r.length;have O:=yU;have fin:EP X a d Q w s:=⟨z,H,I,b,q⟩;exact subscriptTail_builtinR (x:=w) c.typeIs slot_tuple_getitem.lookup
  (getItem_tuple (j:=j) (Q:=λr G=>r=w/\EP X a d Q r G) c (by omega) (by omega) (by rw[aX,<- n];exact f) (by simpa using e) ⟨rfl,fin⟩) B
theorem He:tW X Nl:=by
 intro value slice b s L H x y v u Q I B D h A;obtain⟨z,i,c,rfl,rfl,G,n,q⟩:=h;obtain⟨t,rfl⟩:=B;obtain⟨K,rfl⟩:=D;obtain⟨j,a,f,E,k,m⟩:=Ld n;have w:z.cps.toList.length=z.length:=by simp[Str.length]
 rw[w] at a k m;have F:=yU;exact tail_any (kR s z t) slot_str_getitem.lookup (getItem_str (c:=c) (by
  have d:decide (i < -(2 ^ 63:Int))=false:=bR (by omega);have e:decide (i>=2 ^ 63)=false:=bR (by omega);rw[d,e,Bool.or_false]) (by rw[a];simpa using f) ⟨.str ⟨#[c]⟩,H,I.tok _,⟨_,rfl⟩,q⟩) A
def Ve (K:lL):R2:=λx y H Q=>Fq K x y H Q\/E3 K x y H Q\/Nl x y H Q
theorem IS:tW X (Ve X.K):=qQ.or (Kl.or He)
theorem OG (g:Aa Ac) (n j:Nat) (u:Ac):Obj.mapSeq (·.setIfInBounds j u) { cls:=.type "list",data:=.seq g.toArray n }={ cls:=.type "list",data:=.seq (g.set j u).toArray n }:=by
 simp[Obj.mapSeq]
theorem Inv.lst (I:Inv X j C H s) (h:H p=some (.l o)) :
  ∃ (g:Aa Ac) (n:Nat),mB o g/\s.heap.get? p=some { cls:=.type "list",data:=.seq g.toArray n }/\o.length<=sizeLine:=by
 obtain⟨z,g,n,r,e⟩:=I.hok p _ h;exact⟨g,n,r,e,z⟩
theorem Inv.lstUpd {j:Aa Ac}(I:Inv X o σ H s) (h:H p=some (.l xs))
  (U:s.heap.get? p=some { cls:=.type "list",data:=.seq j.toArray n }) (C:f { cls:=.type "list",data:=.seq j.toArray n }={ cls:=.type "list",data:=.seq g.toArray J }) (r:mB T g) (hz:T.length<=sizeLine) (t:Nat) :
  Inv X o σ (upd H p (.l T)) { s with heap:=s.heap.update p f,toks:=t }:=by
 have e:(s.heap.update p f).get? p=some { cls:=.type "list",data:=.seq g.toArray J }:=by
  rw[jR f U (by rw[C]<;>rfl),C]
 refine I.write (x:=p) (e:=p) (by rw[h];trivial) (.inl rfl) (λb u a q=>(Heap.get?_update_other _ _ (cY a)).trans q) ⟨_,e⟩ ?_;exact⟨hz,g,J,r,e⟩
def S7:V->V->V->Hp->(Hp->Prop)->Prop:=λo i v H Q=>∃ p a k j,o = .ref p/\i = .int k/\H p=some (.l a)/\uS a.length k=some j/\Q (upd H p (.l (a.set j v)))
theorem Ia:J5 X S7:=by
 intro b s K H o i v O N u Q I E D F h;obtain⟨p,G,k,j,rfl,rfl,z,A,q⟩:=h;cases E;obtain⟨t,rfl⟩:=D;obtain⟨a,n,r,f,B⟩:=I.lst z;obtain⟨c,L,x,y⟩:=Rj A;have e:=r.length;have M:=yU;have m:Inv X b K (upd H p (.l (G.set j v))) { s with heap:=s.heap.update p (Obj.mapSeq (·.setIfInBounds j u)) } :=
  I.lstUpd z f (OG a n j u) (r.set F j) (by rw[bU];exact B) s.toks
 by_cases w:0<=k
 .have d:k.toNat=j:=by
   rw[seqIndex_of w y] at c;exact bN c
  exact PySem.W.ki_setAt f w (by omega) (by rw[aX,<- e];exact y) (by rw[d];exact⟨_,m,q⟩)
 .have d:(k+(a.toArray.size:Int)).toNat=j:=by
   rw[seqIndex_neg (by omega) x] at c;rw[aX,<- e];exact bN c
  exact PySem.W.ki_setBack f (by omega) (by rw[aX,<- e];exact x) (by omega) (by rw[d];exact⟨_,m,q⟩)
theorem Y3 (lo g:Ab Int) (n:Nat):(sliceBounds lo g none n).1=((HT.sIx n 0 lo:Nat):Int)/\(sliceBounds lo g none n).2.1=((HT.sIx n n g:Nat):Int)/\(sliceBounds lo g none n).2.2=1:=by
 refine⟨?_,?_,rfl⟩
 .cases lo with
  | none=>simp[sliceBounds,HT.sIx]
  | some i =>
   simp only[sliceBounds,HT.sIx,Option.getD_none,show (1:Int)>0 by decide,gE];by_cases h:i<0
   .simp only[h,gE]<;>omega
   .simp only[h,fR]<;>omega
 .cases g with
  | none=>simp[sliceBounds,HT.sIx]
  | some i =>
   simp only[sliceBounds,HT.sIx,Option.getD_none,show (1:Int)>0 by decide,gE];by_cases h:i<0
   .simp only[h,gE]<;>omega
   .simp only[h,fR]<;>omega
theorem V3 (g:Aa Ac) (lo j:Ab Int):slicePick g.toArray lo j none=((g.drop (HT.sIx g.length 0 lo)).take (HT.sIx g.length g.length j-HT.sIx g.length 0 lo)).toArray:=by
 obtain⟨a,b,c⟩:=Y3 lo j g.toArray.size;unfold slicePick;rw[a,b,c];simp only[sliceRange_one,pick_run,aX]<;>rfl
def Uh (K:lL):V->Ab Int->Ab Int->Hp->VK->Prop:=λx lo c H Q=>∃ a b,x = .ref a/\lO K H a b/\∀ p,H p=none->Q (.ref p) (upd H p (.l (uH b lo c)))
theorem Jb:vP X (Uh X.K):=by
 intro i s D H x v A B lo e sl Q I y k u w h;obtain⟨a,c,rfl,m,q⟩:=h;cases y;obtain⟨t,r,f,n⟩:=I.list m;have d:=r.length;refine⟨"list",_,slot_list_getitem.lookup,f.isList.typeIs,?_⟩;refine wpAny_getItem_list_slice f.isList k u w .none (by simp) ?_ (by rw[aX]<;>omega);rw[V3,<- d];refine⟨.ref s.heap.objs.size,_,I.laid (t':=s.toks) (o:=.l (uH c lo e)) (λb z q=>aK _ q) (aW _) ?_,rfl,q _ (I.hok.fresh (aW _))⟩;exact⟨cK (Od c lo e) n,_,0,(r.drop (HT.sIx c.length 0 lo)).take (HT.sIx c.length c.length e-HT.sIx c.length 0 lo),bA _ rfl⟩
def pZ:V->Bool
 | .e=>true
 | .b _=>true
 | .int _=>true
 | .str _=>true
 | _=>false
noncomputable def oS:V->V->Bool
 | .e,.e=>true
 | .b a,.b b=>a == b
 | .b a,.int b=>(if a then 1 else 0) == b
 | .int a,.b b=>a == (if b then 1 else 0)
 | .int a,.int b=>a == b
 | .str a,.str b=>a == b
 | _,_=>false
theorem Kw (l:mC y u) (g:mC x v) (o:pZ y=true) (j:pZ x=true):SeqAt.EqAt A s u v (oS y x):=by
 cases y with
 | e =>
  cases l;cases x with
  | e=>cases g;exact SeqAt.EqAt.same _
  | b b=>cases g;exact SeqAt.EqAt.none_bool b
  | int b=>obtain⟨t,rfl⟩:=g;exact SeqAt.EqAt.none_int b t
  | str b=>obtain⟨t,rfl⟩:=g;exact SeqAt.EqAt.none_str b t
  | _=>exact absurd (show false=true from j) bG
 | b a =>
  cases l;cases x with
  | e=>cases g;exact SeqAt.EqAt.bool_none a
  | b b=>cases g;exact SeqAt.EqAt.bool_bool a b
  | int b=>obtain⟨t,rfl⟩:=g;exact SeqAt.EqAt.bool_int a b t
  | str b=>obtain⟨t,rfl⟩:=g;exact SeqAt.EqAt.bool_str a b t
  | _=>exact absurd (show false=true from j) bG
 | int a =>
  obtain⟨c,rfl⟩:=l;cases x with
  | e=>cases g;exact SeqAt.EqAt.int_none a c
  | b b=>cases g;exact SeqAt.EqAt.int_bool a c b
  | int b=>obtain⟨t,rfl⟩:=g;exact SeqAt.EqAt.int_int a c b t
  | str b=>obtain⟨t,rfl⟩:=g;exact SeqAt.EqAt.int_str a c b t
  | _=>exact absurd (show false=true from j) bG
 | str a =>
  obtain⟨c,rfl⟩:=l;cases x with
  | e=>cases g;exact SeqAt.EqAt.str_none a c
  | b b=>cases g;exact SeqAt.EqAt.str_bool a c b
  | int b=>obtain⟨t,rfl⟩:=g;exact SeqAt.EqAt.str_int a c b t
  | str b=>obtain⟨t,rfl⟩:=g;exact SeqAt.EqAt.str_str a c b t
  | _=>exact absurd (show false=true from j) bG
 | _=>exact absurd (show false=true from o) bG
def qP (x:V) (u:Ac):Bool:=match u with
 | .none=>oS .e x
 | .bool b=>oS (.b b) x
 | .int i _=>oS (.int i) x
 | .str z _=>oS (.str z) x
 | _=>false
theorem Ja (r:mC y u) (f:pZ y=true):qP x u=oS y x:=by
 cases y with
 | e=>cases r;rfl
 | b b=>cases r;rfl
 | int i=>obtain⟨t,rfl⟩:=r;rfl
 | str z=>obtain⟨t,rfl⟩:=r;rfl
 | _=>exact absurd (show false=true from f) bG
theorem Eb:∀ {g:Aa V}{j:Aa Ac},mB g j->g.all pZ=true->j.any (qP x)=g.any λy=>oS y x
 | _,_,.nil,_=>rfl
 | y::g,u::j,.cons r t,f=>by
  rw[List.all_cons,cN] at f;rw[fF,fF,Ja r f.1,Eb t f.2]
theorem A9 (o:mC x v) (l:pZ x=true):∀ {j:Aa V}{g:Aa Ac},mB j g->j.all pZ=true->∀ u∈g,SeqAt.EqAt A s u v (qP x u)
 | _,_,.nil,_=>λu a=>by cases a
 | y::j,u::g,.cons r t,f=>λb a=>by
  rw[List.all_cons,cN] at f;rcases aI.mp a with rfl | a
  .rw[Ja r f.1];exact Kw r o f.1 l
  .exact A9 o l t f.2 b a
def xY (x:V) (g:Aa V):Bool:=g.any λy=>oS y x
def Es (K:lL) (neg:Bool):R2:=λx y H Q=>∃ p a,y = .ref p/\(lO K H p a\/mF K H p a)/\pZ x=true/\a.all pZ=true/\Q (.b (if neg then !xY x a else xY x a)) H
theorem Sq:mO X (compareOp .In) (Es X.K false):=by
 intro f s t H x y v u Q I i m h;obtain⟨p,n,rfl,c,e,fs,q⟩:=h;cases m;rcases c with c | c
 .obtain⟨a,r,d,k⟩:=I.list c;refine SeqAt.in_listAt (qP x) d.isList (λw hw=>A9 i e r fs w (by simpa using hw)) ⟨.b _,H,I,rfl,?_⟩;rw[show a.toArray.any (qP x)=a.any (qP x) by simp,Eb r fs];exact q
 .obtain⟨a,r,d,k⟩:=I.tuple c;refine SeqAt.in_tupleAt (qP x) d (λw hw=>A9 i e r fs w (by simpa using hw)) ⟨.b _,H,I,rfl,?_⟩;rw[show a.toArray.any (qP x)=a.any (qP x) by simp,Eb r fs];exact q
theorem V9:mO X (compareOp .NotIn) (Es X.K true):=by
 intro f s t H x y v u Q I i m h;obtain⟨p,n,rfl,c,e,fs,q⟩:=h;cases m;rcases c with c | c
 .obtain⟨a,r,d,k⟩:=I.list c;refine SeqAt.notIn_listAt (qP x) d.isList (λw hw=>A9 i e r fs w (by simpa using hw)) ⟨.b _,H,I,rfl,?_⟩;rw[show a.toArray.any (qP x)=a.any (qP x) by simp,Eb r fs];exact q
 .obtain⟨a,r,d,k⟩:=I.tuple c;refine SeqAt.notIn_tupleAt (qP x) d (λw hw=>A9 i e r fs w (by simpa using hw)) ⟨.b _,H,I,rfl,?_⟩;rw[show a.toArray.any (qP x)=a.any (qP x) by simp,Eb r fs];exact q
theorem yA:nK X (.builtin "len") (λj H Q=>∃ p g,j=[.ref p]/\(lO X.K H p g\/mF X.K H p g)/\Q (.int g.length) H):=by
 intro f s t H j n Q I r h;obtain⟨p,g,rfl,b,q⟩:=h;obtain⟨u,rfl,k⟩:=qM r;cases k;have m:=yU;rcases b with b | b
 .obtain⟨c,e,d,i⟩:=I.list b;have a:=e.length;exact Calls.call_len_list d.isList (by simp only[aX]<;>omega) ⟨.int g.length,H,I.tok _,⟨s.toks+1,by rw[aX,a]⟩,q⟩
 .obtain⟨c,e,d,i⟩:=I.tuple b;have a:=e.length;exact len_tuple d (by simp only[aX]<;>omega) ⟨.int g.length,H,I.tok _,⟨s.toks+1,by rw[aX,a]⟩,q⟩
theorem Px:nK X (.builtin "len") (λg H Q=>∃ z,g=[.str z]/\z.length<=sizeLine/\Q (.int z.length) H):=by
 intro a s e H g d Q I r h;obtain⟨z,rfl,c,q⟩:=h;obtain⟨u,rfl,t,rfl⟩:=qM r;have b:=yU;exact len_str (by omega) ⟨.int z.length,H,I.tok _,⟨_,rfl⟩,q⟩
theorem nK.or (h:nK X f r) (j:nK X f l):nK X f (λg H Q=>r g H Q\/l g H Q):=by
 intro a s d H g c Q I b q;rcases q with q | q
 .exact h a s d H g c Q I b q
 .exact j a s d H g c Q I b q
theorem Lb:nK X (.type "list") (λj H Q=>∃ p g,j=[.ref p]/\(lO X.K H p g\/mF X.K H p g)/\∀ l,H l=none->Q (.ref l) (upd H l (.l g))):=by
 intro v s D H j E Q I r h;obtain⟨p,g,rfl,k,q⟩:=h;obtain⟨u,rfl,B⟩:=qM r;cases B;have fin:∀ (a:Aa Ac),mB g a->g.length<=sizeLine->∀ (c:Ag) (d:Nat),(∀ b A,s.heap.get? b=some A->c.get? b=some A) ->
   c.get? s.heap.objs.size=some { cls:=.type "list",dict:=none,data:=.seq a.toArray d,slots:=#[] }->EP X v D Q (.ref s.heap.objs.size) { s with heap:=c }:=λa f m c d t e =>
  ⟨.ref s.heap.objs.size,_,I.laid (t':=s.toks) t (aW _) (show nV X.prog X.w _ c _ (.l g) from ⟨m,a,d,f,e⟩),rfl,q _ (I.hok.fresh (aW _))⟩
 rcases k with k | k
 .obtain⟨a,f,z,m⟩:=I.list k;have i:=f.length;obtain⟨o,y,x,n,hd⟩:=z.isList;exact call_list_seq p (.inl rfl) y x hd (λc d t e=>fin a f m c d t e) (by simp only[aX]<;>omega)
 .obtain⟨a,f,z,m⟩:=I.tuple k;have i:=f.length;obtain⟨o,y,x,n,hd⟩:=z;exact call_list_seq p (.inr rfl) y x hd (λc d t e=>fin a f m c d t e) (by simp only[aX]<;>omega)
theorem rL:nK X (.type "tuple") (λj H Q=>∃ p g,j=[.ref p]/\((lO X.K H p g/\∀ l,H l=none->Q (.ref l) (upd H l (.t g)))\/(mF X.K H p g/\Q (.ref p) H))):=by
 intro a s x H j B Q I r h;obtain⟨p,g,rfl,h⟩:=h;obtain⟨u,rfl,A⟩:=qM r;cases A;rcases h with⟨f,q⟩ | ⟨f,q⟩
 .obtain⟨c,k,i,v⟩:=I.list f;have n:=k.length;refine call_tuple_list i.isList (λd z=>?_) (by simp only[aX]<;>omega);have m:Inv X a x H { s with heap:=d }:=I.kept (t':=s.toks) z;have y:Inv X a x (upd H d.objs.size (.t g)) { s with heap:=d.push { cls:=.type "tuple",data:=.seq c.toArray } } :=
   m.laid (t':=s.toks) (λb o e=>aK _ e) (aW _) (show nV X.prog X.w _ _ _ (.t g) from ⟨v,c,k,xG.new _ _⟩)
  exact⟨.ref d.objs.size,_,y,rfl,q _ (m.hok.fresh (aW _))⟩
 .obtain⟨c,k,i,v⟩:=I.tuple f;exact call_tuple_same i ⟨.ref p,H,I,rfl,q⟩
def G5 (K:lL) (T:String) (x:V) (H:Hp):Prop:=match x with
 | .str _=>T = "str"
 | .int _=>T = "int"
 | .ref p=>(T = "list" /\ ∃ b,lO K H p b)\/(T = "tuple" /\ ∃ o,K.lookup p=some o/\o.cls = .type "tuple" /\ o.dict=none) \/
   (T = "dict" /\ ((∃ a,H p=some (.k a))\/∃ a,H p=some (.T a)))\/(T = "set" /\ ∃ S n,H p=some (.set S n))
 | _=>False
theorem BY (I:Inv X j l H s) (r:mC x v) (ty:G5 X.K T x H) :
  s.TypeIs v T/\∀ a,v = .ref a->∃ g,s.heap.get? a=some g/\g.dict=none:=by
 cases x with
 | str z =>
  obtain⟨t,rfl⟩:=r;cases (show T = "str" from ty);exact⟨kR s z t,λ_ e=>nomatch e⟩
 | int i =>
  obtain⟨t,rfl⟩:=r;cases (show T = "int" from ty);exact⟨typeIs_int s i t,λ_ e=>nomatch e⟩
 | ref p =>
  cases r;rcases ty with⟨rfl,u,m⟩ | ⟨rfl,o,b,k,hd⟩ | ⟨rfl,b⟩ | ⟨rfl,S,n,b⟩
  .obtain⟨q,_,h,_⟩:=I.list m;refine⟨h.isList.typeIs,λa e=>?_⟩;cases e;obtain⟨o,n,e,c,hd,_⟩:=h;exact⟨o,e,hd⟩
  .refine⟨⟨o,I.kIn p o b,k⟩,λa e=>?_⟩;cases e;exact⟨o,I.kIn _ o b,hd⟩
  .have z:∃ o,s.heap.get? p=some o/\o.ExactDict:=by
    rcases b with⟨f,b⟩ | ⟨f,b⟩
    .obtain⟨_,_,_,_,o,_,_,e,ex,_⟩:=I.hok p _ b;exact⟨o,e,ex⟩
    .obtain⟨_,_,_,_,o,_,_,e,ex,_⟩:=I.hok p _ b;exact⟨o,e,ex⟩
   obtain⟨o,e,ex⟩:=z;refine⟨⟨o,e,ex.1⟩,λa d=>?_⟩;cases d;exact⟨o,e,ex.2.1⟩
  .obtain⟨o,_,_,_,e,ex,_⟩:=I.hok p _ b;refine⟨⟨o,e,ex.1⟩,λa d=>?_⟩;cases d;exact⟨o,e,ex.2.1⟩
 | _=>exact False.elim ty
def Ir (K:lL) (T:String) (r:V->Aa V->Hp->VK->Prop) (g:TE) (t:TA):TE:=λb H Q=>g b H λx a=>G5 K T x a/\t b a λd c=>r x d c Q
variable {id:String}
structure MtB (X:Cx) (o:Expr) (name:Str) (apos:Pos) (e:Expr) (es:List Expr) (cpos:Pos):Prop extends StB X e es cpos where
 c:attributeBase o name X.env (eval o X.env)=eval o X.env:=by rfl
 d:((backTo cpos (starEach (e::es) X.env)).all (λx=>!x.1)&&(backToKw cpos (keywordEach [] X.env)).all (λx=>x.1.isSome)&&decide ((e::es).length+([]:List Keyword).length+(if ([]:List Keyword).isEmpty then 0 else 1)<30))=true:=by rfl
 f:(apos.endLine == cpos.line)=true:=by rfl
theorem zC (pa:PlainAttrs T) (slot:Slot T name id) (p:typeOf (.builtin id)=pure (.type "method_descriptor")) (J:wN X id r) (U:PE X o to) (C:PA X (e::l) t)
  (j:MtB X o name apos e l g:=by exact {}) :
  PE X (.Call (.Attribute o name apos) (e::l) [] g) (Ir X.K T r to t):=by
 intro i s m H Q I h;refine wpAny_Call_method_late j.c j.d j.f rfl (lQ (U i s m H _ I h) λv G k=>?_);obtain⟨x,w,n,u,ty,D⟩:=k;obtain⟨A,B⟩:=BY n u ty;refine⟨T,id,pa,slot,p,A,B,?_⟩;have q:=C g i G m w _ n D;rw[j.a] at q |-;refine Calls.callWith_builtin (by show (false||(backTo g (starEach l X.env)).any (·.1))=false;rw[j.b]<;>rfl) (Calls.evalArgs_plain ?_);exact lQ q λM L ⟨N,y,z,F,E⟩=>J i L m y x N v M Q z u F E
/- xs.append(e),list.index on a module's tuple .. are wN facts of 06m -/
end
def T1 (X:Cx) (id:String) (r:V->Aa V->Hp->VK->Prop):Prop :=
 ∀ (a:Aa (Ad×Obj)) (s:Ae) (d:St) (H:Hp) (x:V) (c:Aa V) (v:Ac) (b:Aa Ac) (Q:VK),Inv X a d H s->mC x v->mB c b->r x c H Q ->
  wpAny (model X.prog X.w) X.A (call (.builtin id) (v::b)) (EP X a d Q) X.xe s
theorem mB.one:∀ {x:V}{g:Aa Ac},mB [x] g->∃ u,g=[u]/\mC x u
 | _,_,.cons r .nil=>⟨_,rfl,r⟩
theorem mB.eraseIdx:∀ {j:Aa V}{g:Aa Ac}(i:Nat),mB j g->mB (j.eraseIdx i) (g.eraseIdx i)
 | _,_,_,.nil=>.nil
 | _,_,0,.cons _ t=>t
 | _,_,i+1,.cons r t=>.cons r (mB.eraseIdx i t)
theorem mB.rep (h:mB j g):∀ k:Nat,mB (List.replicate k j).flatten (List.replicate k g).flatten
 | 0=>.nil
 | k+1=>by
  rw[dH,dH,gF,gF];exact mB.append h (mB.rep h k)
theorem Py:∀ (l:Aa g) (i:Nat),(l.eraseIdx i).length<=l.length
 | [],_=>aW _
 | _::_,0=>iE _
 | _::r,i+1=>Nat.succ_le_succ (Py r i)
theorem Q9 (j:Aa Ac):∀ (k:Nat) (g:Aa Ac),
  List.foldl (λl o=>l++o) g.toArray (List.replicate k j.toArray)=(g++(List.replicate k j).flatten).toArray
 | 0,g=>by simp
 | k+1,g=>by
  have e:g.toArray++j.toArray=(g++j).toArray:=by simp
  have a:(g++j)++(List.replicate k j).flatten=g++(List.replicate (k+1) j).flatten:=by
   rw[dH,gF,bM]
  rw[<- a,<- Q9 j k (g++j),<- e,dH,iX]
section
variable {X:Cx}
theorem Inv.lset {g:Aa Ac}(I:Inv X j T H s) (p:H l=some (.l xs))
  (e:s.heap.get? l=some { cls:=.type "list",data:=.seq g.toArray n }) (r:f g.toArray=its'.toArray) (C:mB o its') (J:o.length<=sizeLine) :
  Inv X j T (upd H l (.l o)) { s with heap:=s.heap.update l (Obj.mapSeq f),toks:=U }:=by
 have q:=PySem.IsL.update e f;rw[r] at q;refine I.write (x:=l) (e:=l) (by rw[p];exact trivial) (.inl rfl) (λc u a b=>(Heap.get?_update_other s.heap (Obj.mapSeq f) (cY a)).trans b) ⟨_,q⟩ ?_;exact⟨J,its',_,C,q⟩
theorem Inv.lnew (I:Inv X g p H s) (j:mB ys its) (o:ys.length<=sizeLine) :
  Inv X g p (upd H s.heap.objs.size (.l ys)) { s with heap:=s.heap.push { cls:=.type "list",data:=.seq its.toArray },toks:=t' } :=
 I.laid (λ_ _ q=>aK _ q) (aW _) ⟨o,its,0,j,bA _ rfl⟩
theorem Inv.fresh (I:Inv X g j H s):H s.heap.objs.size=none:=I.hok.fresh (aW _)
theorem Inv.lstM (I:Inv X o C H s) (p:H l=some (.l j)):j.length<=sizeLine/\∃ (g:Aa Ac) (n:Nat),mB j g/\j.length=g.length/\s.heap.get? l=some { cls:=.type "list",data:=.seq g.toArray n }:=by
 obtain⟨z,g,n,r,e⟩:=I.hok l _ p;exact⟨z,g,n,r,r.length,e⟩
theorem Wr (h:n<=sizeLine):Builtin.List.listTooLong n=false:=by
 unfold Builtin.List.listTooLong;exact bR (by omega)
end
section
variable {X:Cx}
def Jl:V->Aa V->Hp->VK->Prop:=λx b H Q=>∃ l a y,x = .ref l/\b=[y]/\H l=some (.l a)/\a.length<sizeLine/\Q .e (upd H l (.l (a++[y])))
theorem rA:T1 X "list.append" Jl:=by
 intro c s B H x w v t Q I i f h;obtain⟨l,A,y,rfl,rfl,b,m,q⟩:=h;cases i;obtain⟨u,rfl,d⟩:=f.one;obtain⟨z,a,n,r,k,e⟩:=I.lstM b;refine gX F.slot_list_append ⟨_,e,rfl⟩ F.entry_list_append (F.args_list_append_2 _ _) (PySem.list_append l a.toArray n u (by rw[aX];omega)) ⟨e,?_⟩;refine⟨.e,_,I.lset (its':=a++[u]) b e (by simp) (r.append (.cons d .nil)) ?_,rfl,q⟩;rw[bK,jS];omega
def OZ:V->Aa V->Hp->VK->Prop:=λx d H Q=>∃ l b a c,x = .ref l/\d=[.ref b]/\H l=some (.l a)/\H b=some (.l c)/\a.length+c.length<=sizeLine/\Q .e (upd H l (.l (a++c)))
def Tc:V->Aa V->Hp->VK->Prop:=λx b H Q=>∃ l a i k y,x = .ref l/\b=[.int i]/\H l=some (.l a)/\-(2 ^ 63)<=i/\i<2 ^ 63/\seqIndex? i a.length=some k/\a[k]?=some y/\Q y (upd H l (.l (a.eraseIdx k)))
theorem Dm:T1 X "list.pop" Tc:=by
 intro d s O H x N v M Q I K G h;obtain⟨l,L,i,k,y,rfl,rfl,c,f,m,A,D,q⟩:=h;cases K;obtain⟨u,rfl,E⟩:=G.one;obtain⟨t,rfl⟩:=E;obtain⟨z,a,n,r,B,e⟩:=I.lstM c;obtain⟨w,hw,b⟩:=r.get D;refine gX F.slot_list_pop ⟨_,e,rfl⟩ F.entry_list_pop (F.args_list_pop_2 _ _)
  (MeetsSeq.list_pop_at l a.toArray n i t k w (fitsIndex_both f m) (by rw[aX,<- B];exact A) (by rw[<- fB];exact hw) (by rw[aX];omega)) ⟨e,?_⟩
 refine⟨y,_,I.lset (its':=a.eraseIdx k) c e ?_ (r.eraseIdx k) ?_,b,q⟩
 .show a.toArray.eraseIdxIfInBounds k=(a.eraseIdx k).toArray;rw[List.eraseIdxIfInBounds_toArray]
 .have:=Py L k;omega
def Sf:R2:=λx y H Q=>∃ l b a c,x = .ref l/\y = .ref b/\H l=some (.l a)/\H b=some (.l c)/\a.length+c.length<=sizeLine/\∀ p,H p=none->Q (.ref p) (upd H p (.l (a++c)))
theorem B4:mO X (binaryOp .Add) Sf:=by
 intro d s M H x y v u Q I A B h;obtain⟨l,b,G,L,rfl,rfl,m,k,E,q⟩:=h;cases A;cases B;obtain⟨z,c,n,r,D,e⟩:=I.lstM m;obtain⟨K,a,F,w,t,f⟩:=I.lstM k;refine PySem.P.add_list e f ?_ (by rw[aX,aX];omega);have i:c.toArray++a.toArray=(c++a).toArray:=by simp
 rw[i];exact⟨.ref _,_,I.lnew (t':=s.toks) (r.append w) (by rw[bK];omega),rfl,q _ I.fresh⟩
def O4:R2:=λx y H Q=>∃ l k a,x = .ref l/\y = .int k/\H l=some (.l a)/\-(2 ^ 63)<=k/\k<2 ^ 63/\a.length*k.toNat<=sizeLine /\
 ∀ p,H p=none->Q (.ref p) (upd H p (.l (List.replicate k.toNat a).flatten))
theorem FE (g:Aa j) (k:Nat):(List.replicate k g).flatten.length=k*g.length:=by
 induction k with
 | zero=>simp
 | succ k a=>rw[dH,gF,bK,a,Nat.succ_mul,Nat.add_comm]
theorem GY:mO X (binaryOp .Mult) O4:=by
 intro E s V H x y v u Q I N O h;obtain⟨l,k,S,rfl,rfl,L,G,K,D,q⟩:=h;cases N;obtain⟨t,rfl⟩:=O;obtain⟨z,b,n,r,M,e⟩:=I.lstM L;have i:b.toArray.size*k.toNat<=sizeLine:=by rw[aX,<- M];exact D
 have d:¬ b.toArray.size*k.toNat>(2 ^ 63-1)/8:=by
  have:(sizeLine:Nat)<=(2 ^ 63-1)/8:=by decide
  omega
 have f:¬ (!Builtin.List.listFitsIndex k)=true:=by
  rw[fitsIndex_both G K];exact bG
 have c:¬ Builtin.List.listTooLong (b.toArray.size*k.toNat)=true:=by
  rw[Wr i];exact bG
 have w:List.foldl (λA B=>A++B) #[] (List.replicate (if b.toArray.isEmpty=true then 0 else k.toNat) b.toArray)=(List.replicate k.toNat b).flatten.toArray:=by
  have f0:∀ m:Nat,List.foldl (λA B=>A++B) #[] (List.replicate m b.toArray)=(List.replicate m b).flatten.toArray:=λm=>by
   have:=Q9 b m [];rw[fY] at this;exact this
  rw[f0];cases b with
  | nil=>simp
  | cons a R=>rw[aN (by simp)]
 refine wpAny_binaryOp_repeat_ref (T := "list") (U := "int") (by decide) ⟨_,e,rfl⟩ (λP=>typeIs_int P k t) noFill_list_mul F.fills_int_mul F.slot_int_rmul repeat_list F.slot_int_index.lookup
  (gX F.slot_int_rmul (typeIs_int s k t) F.entry_int_rmul (F.args_int_rmul_2 _ _) (int___rmul___int_list k t l b.toArray n) ⟨e,rfl,⟨_,e,rfl⟩,gX F.slot_list_mul ⟨_,e,rfl⟩ F.entry_list_mul (F.args_list_mul_2 _ _) (AutoListH.list___mul___list_int_3 l b.toArray n k t f d c) ⟨e,?_⟩⟩)
 rw[w];exact⟨.ref _,_,I.lnew (t':=s.toks) (r.rep k.toNat) (by rw[FE,Nat.mul_comm];exact D),rfl,q _ I.fresh⟩
end
section
variable [DecidableEq κ]
noncomputable def oV (g:Aa (κ×V)) (k:κ):Ab V:=(g.find? λa=>decide (a.1=k)).map (·.2)
noncomputable def nY (g:Aa (κ×V)) (k:κ) (v:V):Aa (κ×V) :=
 if (g.any λa=>decide (a.1=k))=true then g.map (λa=>if a.1=k then (a.1,v) else a) else g++[(k,v)]
theorem B6 {p:κ×V}{r:Aa (κ×V)}{k:κ}(e:p.1=k):oV (p::r) k=some p.2:=by simp[oV,cZ,e]
theorem Bf {p:κ×V}{r:Aa (κ×V)}{k:κ}(e:¬ p.1=k):oV (p::r) k=oV r k:=by simp[oV,cZ,e]
theorem Nz (k:κ):∀ g:Aa (κ×V),(g.any λj=>decide (j.1=k))=(oV g k).isSome
 | []=>rfl
 | p::r=>by
  rw[fF];by_cases e:p.1=k
  .simp only[B6 e,cB e,Bool.true_or,kS]
  .rw[Bf e,bR e,Bool.false_or];exact Nz k r
theorem Gn (g:Aa (κ×V)) (k:κ) (v:V):(nY g k v).length<=g.length+1:=by
 unfold nY;split
 .rw[aA];omega
 .rw[bK,bS,eZ];omega
theorem tZ.isSome_eq (r:tZ o u):o.isSome=u.isSome:=by
 cases o with
 | none=>cases u with
  | none=>rfl
  | some _=>exact (show False from r).elim
 | some _=>cases u with
  | none=>exact (show False from r).elim
  | some _=>rfl
theorem tZ.getD (r:tZ o u) (rd:mC d g):mC (o.getD d) (u.getD g):=by
 cases o with
 | none=>cases u with
  | none=>exact rd
  | some _=>exact (show False from r).elim
 | some _=>cases u with
  | none=>exact (show False from r).elim
  | some _=>exact r
theorem KV.val (r:KV g j) (k:κ):tZ (oV g k) (valueAt j k):=by
 unfold KV at r;induction r with
 | nil=>exact True.intro
 | @cons p q m c h t i =>
  obtain⟨d,f⟩:=h;by_cases e:p.1=k
  .have a:q.1=k:=d.symm.trans e;have b:valueAt (q::c) k=some q.2:=by simp[valueAt,cZ,a]
   rw[B6 e,b];exact f
  .have a:¬ q.1=k:=λz=>e (d.trans z)
   have b:valueAt (q::c) k=valueAt c k:=by simp[valueAt,cZ,a]
   rw[Bf e,b];exact i
theorem KV.any (r:KV j l) (k:κ):(j.any λg=>decide (g.1=k))=l.any λg=>decide (g.1=k):=by
 unfold KV at r;induction r with
 | nil=>rfl
 | cons h t a=>rw[fF,fF,a,h.1]
theorem KV.repl (r:KV j o) (k:κ) (l:mC y u) :
  KV (j.map λg=>if g.1=k then (g.1,y) else g) (o.map λg=>if g.1=k then (g.1,u) else g):=by
 unfold KV at r |-;induction r with
 | nil=>exact .nil
 | @cons p q d f h t c =>
  rw[aP,aP];refine .cons ?_ c;obtain⟨a,b⟩:=h;by_cases e:p.1=k
  .rw[aT e,aT (a.symm.trans e)];exact⟨a,l⟩
  .rw[aN e,aN (λz=>e (a.trans z))];exact⟨a,b⟩
theorem KV.put (r:KV g l) (k:κ) (j:mC y u):KV (nY g k y) (stored l k u):=by
 unfold nY stored;rw[r.any k];by_cases e:(l.any λa=>decide (a.1=k))=true
 .rw[aT e,aT e];exact r.repl k j
 .rw[aN e,aN e];exact Paired.snoc r ⟨rfl,j⟩
theorem KV.length (r:KV g j):g.length=j.length:=fN r
end
theorem yD {P:Ah}(r:mC (kV k) u):(pC P w).is k u=true:=by
 cases k with
 | inl i=>obtain⟨t,e⟩:=(show ∃ t,u=Value.int i t from r);subst e;exact JT P w i t
 | inr x=>obtain⟨t,e⟩:=(show ∃ t,u=Value.str x t from r);subst e;exact ES P w x t
theorem So {P:Ah}:∀ {g:Aa hI}{j:Aa Ac},mB (g.map kV) j->ItemsAre (pC P w) g j
 | [],_,r=>by rw[lB] at r;cases r;exact .nil
 | k::g,_,r=>by
  rw[aP] at r;cases r with
  | cons h t=>exact .cons (yD h) (So t)
abbrev KT (H:Hp):Aa (Aa hI×V)->Aa (Aa hI×Ad×Ac)->Prop:=Paired λp q=>p.1=q.1/\H q.2.1=some (.t (p.1.map kV))/\mC p.2 q.2.2
theorem KT.val (r:KT H g j) (k:Aa hI):tZ (oV g k) ((atKey j k).map (·.2)):=by
 induction r with
 | nil=>exact True.intro
 | @cons p q m c h t i =>
  obtain⟨d,_,f⟩:=h;by_cases e:p.1=k
  .have a:q.1=k:=d.symm.trans e;have b:atKey (q::c) k=some q.2:=by simp[atKey,cZ,a]
   rw[B6 e,b];exact f
  .have a:¬ q.1=k:=λz=>e (d.trans z)
   have b:atKey (q::c) k=atKey c k:=by simp[atKey,cZ,a]
   rw[Bf e,b];exact i
theorem KT.repl (r:KT H j o) (k:Aa hI) (l:mC y u) :
  KT H (j.map λg=>if g.1=k then (g.1,y) else g) (o.map (putAt k u)):=by
 induction r with
 | nil=>exact .nil
 | @cons p q f i h t d =>
  rw[aP,aP];refine .cons ?_ d;obtain⟨a,b,c⟩:=h;unfold putAt;by_cases e:p.1=k
  .rw[aT e,aT (a.symm.trans e)];exact⟨a,b,l⟩
  .rw[aN e,aN (λz=>e (a.trans z))];exact⟨a,b,c⟩
theorem KT.put (r:KT H g j) (k:Aa hI) (o:H b=some (.t (k.map kV))) (l:mC y u) :
  KT H (nY g k y) (storedH j k b u):=by
 have e:(g.any λa=>decide (a.1=k))=(atKey j k).isSome:=by
  rw[Nz,(r.val k).isSome_eq,Option.isSome_map]
 unfold nY storedH;rw[e];by_cases q:(atKey j k).isSome=true
 .rw[aT q,aT q];exact r.repl k l
 .rw[aN q,aN q];exact Paired.snoc r ⟨rfl,o,l⟩
theorem KT.keeps (r:KT H g p) (o:∀ b j,H b=some (.t j)->l b=some (.t j)):KT l g p :=
 Paired.mapP r λ_ _ z=>⟨z.1,o _ _ z.2.1,z.2.2⟩
section
variable {P:Ah}
theorem Mz (ok:nP P w H h) (e:Rd H a u):nV P w H h a u:=e.ok ok
theorem yG (ok:nP P w H h) (e:Rd H a (.k g)):g.length<=sizeLine/\(a == sysModules)=false/\∃ j,KV g j/\h.DictOf (pC P w) a j :=
 show nV P w H h a (.k g) from Mz ok e
theorem zO (ok:nP P w H h) (e:H a=some (.k g)):g.length<=sizeLine/\(a == sysModules)=false/\∃ j,KV g j/\h.DictOf (pC P w) a j:=yG ok (.inl e)
theorem Ak (ok:nP P w H h) (e:H a=some (.t (g.map kV))):(tupleKind (pC P w)).is h g a:=by
 obtain⟨_,b,r,⟨o,c,d,n,f⟩,_⟩:=(show nV P w H h a (.t (g.map kV)) from ok a _ e);exact⟨o,b.toArray,n,c,d,f,by simpa using So r⟩
theorem Ba (ok:nP P w H h) (e:Rd H a (.T g)):g.length<=sizeLine/\(a == sysModules)=false /\
  ∃ j,KT H g j/\h.DictOfH (tupleKind (pC P w)) a j:=by
 obtain⟨z,y,j,r,o,f,d,i,k,n,s,u⟩:=(show nV P w H h a (.T g) from Mz ok e);refine⟨z,y,j,r,o,f,d,i,k,n,s,λx b=>?_,u⟩;have all:∀ {l:Aa (Aa hI×V)} {m:Aa (Aa hI×Ad×Ac)},KT H l m->∀ x∈m,(tupleKind (pC P w)).is h x.1 x.2.1:=by
  intro l m q;induction q with
  | nil=>intro x b;exact nomatch b
  | @cons p q A B c t v =>
   intro x b;rcases aI.mp b with e | b
   .subst e;exact Ak ok (by rw[<- c.1];exact c.2.1)
   .exact v x b
 exact all r x b
theorem JQ (ok:nP P w H h) (e:H a=some (.T g)):g.length<=sizeLine/\(a == sysModules)=false /\
  ∃ j,KT H g j/\h.DictOfH (tupleKind (pC P w)) a j:=Ba ok (.inl e)
end
def qD (H:Hp) (a:Ad) (y:V) (r:Ab V):Prop :=
 (∃ c k,Rd H a (.k c)/\y=kV k/\r=oV c k)\/∃ c k b,Rd H a (.T c)/\y = .ref b/\H b=some (.t (k.map kV))/\r=oV c k
def wB (H:Hp) (a:Ad) (y v:V) (g:Hp):Prop :=
 (∃ c k,H a=some (.k c)/\y=kV k/\c.length<sizeLine/\g=upd H a (.k (nY c k v))) \/
 ∃ c k b,H a=some (.T c)/\y = .ref b/\H b=some (.t (k.map kV))/\c.length<sizeLine/\g=upd H a (.T (nY c k v))
theorem qD.k {k:hI}(e:H a=some (.k g)):qD H a (kV k) (oV g k):=.inl ⟨g,k,.inl e,rfl,rfl⟩
theorem wB.k {k:hI}(e:H a=some (.k g)) (j:g.length<sizeLine):wB H a (kV k) v (upd H a (.k (nY g k v))):=.inl ⟨g,k,e,rfl,j,rfl⟩
theorem wB.t {H:Hp}{a b:Ad}{g:Aa (Aa hI×V)}{k:Aa hI}{v:V}(e:H a=some (.T g)) (j:H b=some (.t (k.map kV))) (l:g.length<sizeLine) :
  wB H a (.ref b) v (upd H a (.T (nY g k v))):=.inr ⟨g,k,b,e,rfl,j,l,rfl⟩
section
variable {X:Cx}
theorem Inv.big (I:Inv X g j H s):sysModules<s.heap.objs.size:=by
 have h:mainGlobals<s.heap.objs.size:=(I.mod.glob.keeps I.bk).lt;exact Nat.lt_trans (by decide) h
theorem Jk (T:A.units+1<cLine) (I:Inv X r U H s) (g:qD H a y (some v)) (C:mC y u) (h:∀ j J,Inv X r U H J->mC v j->Q j J) :
  wpAny (model X.prog X.w) A (getItem (.ref a) u) Q E s:=by
 rcases g with⟨m,k,e,f,l⟩ | ⟨m,k,b,e,f,n,l⟩
 .subst f;obtain⟨z,hd,t,rel,d⟩:=yG I.hok e;obtain⟨j,hw,c⟩:=tZ.some_of (v:=v) (o:=valueAt t k) (by rw[l];exact rel.val k);exact wpAny_getItem_of (yD C) d.mapOf hw (h j _ (I.tok _) c)
 .subst f;cases (show u=Value.ref b from C);obtain⟨z,hd,x,rel,d⟩:=Ba I.hok e;obtain⟨j,hw,c⟩:=tZ.some_of (v:=v) (o:=(atKey x k).map (·.2)) (by rw[l];exact rel.val k);obtain⟨p,q,i⟩:=cP.mp hw;refine wpAny_getItem_heap (iZ T) (Ak I.hok n) d q ?_;rw[i];exact h j _ (I.tok _) c
theorem Nc (C:A.units+1<cLine) (I:Inv X j J H s) (g:qD H a y o) (p:mC y u) (h:∀ r,Inv X j J H r->Q (.bool (!o.isSome)) r) :
  wpAny (model X.prog X.w) A (compareOp .NotIn u (.ref a)) Q E s:=by
 rcases g with⟨f,k,e,d,l⟩ | ⟨f,k,b,e,d,i,l⟩
 .subst d;obtain⟨z,hd,m,rel,c⟩:=yG I.hok e;refine wpAny_notIn_of (yD p) hd c.mapOf ?_;rw[<- (rel.val k).isSome_eq,<- l];exact h _ (I.tok _)
 .subst d;cases (show u=Value.ref b from p);obtain⟨z,hd,n,rel,c⟩:=Ba I.hok e;refine wpAny_notIn_heap (iZ C) (Ak I.hok i) hd c ?_;have q:=(rel.val k).isSome_eq;rw[Option.isSome_map] at q;rw[<- q,<- l];exact h _ (I.tok _)
theorem Kf (I:Inv X g C H s) (r:Dy (H a)) (p:Heap.SameBut a s.heap j) (o:∃ q,j.get? a=some q) (new:nV X.prog X.w (upd H a l) j a l) :
  Inv X g C (upd H a l) { s with heap:=j,toks:=J } :=
 I.write (x:=a) (e:=a) r (.inl rfl) (λb q c z=>(p.2 b c).trans z) o new
theorem Bo {P:Ah}(z:g.length<=sizeLine) (hd:(a == sysModules)=false) (rel:KV g j) (l:o.DictOf (pC P w) a j) :
  nV P w p o a (.k g):=⟨z,hd,j,rel,l⟩
theorem Qd (T:A.units+1<cLine) (I:Inv X j U H s) (g:wB H a y v J) (p:mC y u) (o:mC v r) (h:∀ C,Inv X j U J C->Q () C) :
  wpAny (model X.prog X.w) A (setItem (.ref a) u r) Q E s:=by
 rcases g with⟨d,k,e,t,l,n⟩ | ⟨d,k,b,e,t,F,l,n⟩
 .subst t n;obtain⟨z,hd,V,rel,m⟩:=zO I.hok e;have D:V.length<=sizeLine:=by rw[<- rel.length];exact z
  have x:(nY d k v).length<=sizeLine:=by have:=Gn d k v;omega
  refine wpAny_setItem_pairs (hsz:=D) (yD p) m λK f B=>h _ ?_
  have S:∃ q,K.get? a=some q:=let ⟨q,_,_,i,_⟩:=f;⟨q,i⟩;exact Kf I (by rw[e];exact True.intro) B S (Bo x hd (rel.put k o) f)
 .subst t n;cases (show u=Value.ref b from p);obtain⟨z,hd,W,rel,m⟩:=JQ I.hok e;have D:W.length<=sizeLine:=by rw[<- fN rel];exact z
  have x:(nY d k v).length<=sizeLine:=by have:=Gn d k v;omega
  refine wpAny_setItem_heap (hsz:=D) (iZ T) (Ak I.hok F) m λK f B=>h _ ?_
  obtain⟨q,M,L,i,N,O,P,_,R⟩:=f;refine Kf I (by rw[e];exact True.intro) B ⟨q,i⟩ ⟨x,hd,_,(rel.put k F o).keeps λc Y G=>?_,q,M,L,i,N,O,P,R⟩;rw[lS (DY G e (λz=>nomatch z))];exact G
end
section
variable {X:Cx}
theorem MN (I:Inv X g o H s) (e:Rd H a (.k j)) (h:∀ t l,Inv X g o H l->Q (.int j.length t) l):wpAny (model X.prog X.w) A (call (.builtin "len") [.ref a]) Q E s:=by
 obtain⟨z,hd,c,rel,b⟩:=yG I.hok e;refine call_len_dict hd b (by rw[<- rel.length];rw[kX] at z;omega) ?_;rw[<- rel.length];exact h _ _ (I.tok _)
end
def R0 (i:Expr):Prop:=∀ b a,subscripted i false b a=operate [b,a] (getItem b a)
theorem IF {id:String}
  (C:typeLookup (.type T) "__getitem__" = pure (some (.builtin id))) (I:R0 slice)
  (h:wpAny (model g w) A (eval value p) (λo l=>wpAny (model g w) A (eval slice p) (λi j=>j.TypeIs o T/\wpAny (model g w) A (getItem o i) Q E j) E l) E s) :
  wpAny (model g w) A (eval (.Subscript value slice pos) p) Q E s:=by
 refine Subscript_ (cS h (λo l c=>cS c (λi j a=>?_) λ_ _ x=>x) λ_ _ x=>x);obtain⟨e,a⟩:=a;unfold subscriptTail;refine aB ?_;rw[getitemInPython_of_ne e.not_modules];refine aB (wpAny_specialOf e C ?_);have fin:wpAny (model g w) A (subscripted slice false o i) (λr b=>wpAny (model g w) A (letTemporaryGo value o r >>= λ_=>pure r) Q E b) E j:=by
  rw[I o i];exact wpAny_operating (cS a (λr b d=>aB (wpAny_letTemporaryGo (aG d))) λ_ _ x=>x)
 first
  | exact aG (aB fin)
  | exact aB (aG (aB fin))
  | exact aB fin
theorem Kz {X:Cx}(I:Inv X j l H s) (g:qD H a y o):s.TypeIs (.ref a) "dict" := by
 rcases g with⟨d,k,e,_,_⟩ | ⟨d,k,b,e,_,_,_⟩
 .obtain⟨_,_,f,_,c⟩:=yG I.hok e;exact c.typeIs
 .obtain⟨_,_,h,_,c⟩:=Ba I.hok e;exact c.typeIs
def FZ (g ty:TE):TE:=λc H Q=>g c H λx d=>ty c d λy b=>∃ a v,x = .ref a/\qD b a y (some v)/\Q v b
def MT (ty g:TE):TE:=λd H Q=>ty d H λy e=>g d e λx c=>∃ a o,x = .ref a/\qD c a y o/\Q (.b (!o.isSome)) c
def OR (g ty j:TE) (rd:V->V->Hp->VK->Prop):TS:=λD b H=>g b H λx e=>ty b e λy c=>∃ a v,x = .ref a/\qD c a y (some v) /\
 j b c λi f=>rd v i f λz h=>∃ d,wB h a y z d/\D.nx b d
section
variable {X:Cx}
theorem zJ (r:X.A.units+1<cLine) (l:PE X o C) (j:PE X i ty) (p:R0 i):PE X (.Subscript o i pos) (FZ C ty):=by
 intro b s f H Q I h;refine IF PySem.F.slot_dict_getitem.lookup p (lQ (l b s f H _ I h) λu D ⟨x,k,n,z,t⟩=>lQ (j b D f k _ n t) λE G c=>?_);obtain⟨y,m,e,B,a,v,ex,g,w⟩:=c;subst ex;obtain rfl:u=Value.ref a:=z;exact⟨Kz e g,Jk r e g B λL K q d=>⟨v,m,q,d,w⟩⟩
theorem Zq (p:X.A.units+1<cLine) (j:PE X i ty) (l:PE X o r):PC X .NotIn i o (MT ty r):=by
 intro c s e H Q I h;refine lQ (j c s e H _ I h) λE D ⟨y,f,m,B,v⟩=>lQ (l c D e f _ m v) λu F d=>?_
 obtain⟨x,k,n,z,a,t,ex,g,w⟩:=d;subst ex;obtain rfl:u=Value.ref a:=z;exact Nc p n g B λG q=>⟨.b (!t.isSome),k,q,rfl,w⟩
theorem OE (r:X.A.units+1<cLine) (U:PE X o td) (T:PE X i ty) (hv:PE X value tv) (p:Uo X op rd)
  (J:∀ l j new,augStore i l j new=(do holding [new,l,j] (setItem l j new);release [new,l,j] [];pure .next)):PS X (.AugAssign (.Subscript o i C) op value pos) (OR td ty tv rd):=by
 intro b s d H D I h;refine wpAny_AugAssign_SubscriptAny (lQ (U b s d H _ I h) λu S ⟨x,m,w,Q,M⟩=>lQ (T b S d m _ w M) λj s2 c=>?_) J;obtain⟨y,n,B,k,a,v,ex,g,N⟩:=c;subst ex;obtain rfl:u=Value.ref a:=Q;refine Jk r B g k λY V E e=>lQ (hv b V d n _ E N) λZ W ⟨y2,q,F,f,O⟩=>lQ (p b W d q v y2 Y Z _ F e f O) λw3 s5 c=>?_
 obtain⟨z,H4,G,R,t,L,P⟩:=c;exact Qd r G L k R λs6 K=>⟨d,t,K,P⟩
end
theorem BI {P:Ah}(h:Ag) (g:sysModules<h.objs.size):nV P w H (h.push { cls:=.type "dict",data:=.dict #[] }) h.objs.size (.k []) :=
 ⟨dL _,cO.mpr (cY (bH g)),[],.nil,kC h⟩
theorem FT {P:Ah}(h:Ag) (g:sysModules<h.objs.size):nV P w H (h.push { cls:=.type "dict",data:=.dict #[] }) h.objs.size (.T []) :=
 ⟨dL _,cO.mpr (cY (bH g)),[],.nil,_,#[],0,bA _ rfl,⟨rfl,rfl,rfl⟩,rfl,rfl,iF⟩
def IR:TE:=λ_ H Q=>∀ p,H p=none->Q (.ref p) (upd H p (.k []))
def NQ:TE:=λ_ H Q=>∀ p,H p=none->Q (.ref p) (upd H p (.T []))
section
variable {X:Cx}
theorem X1:PE X (.Dict [] [] pos) IR:=λb s c H Q I h =>
 wpAny_Dict_empty ⟨.ref s.heap.objs.size,_,I.laid (a:=s.heap.objs.size) (o:=.k []) (t':=s.toks) (λ_ _ q=>aK _ q) (aW _) (BI s.heap I.big),rfl,h _ (I.hok.fresh (aW _))⟩
theorem X2:PE X (.Dict [] [] pos) NQ:=λb s c H Q I h =>
 wpAny_Dict_empty ⟨.ref s.heap.objs.size,_,I.laid (a:=s.heap.objs.size) (o:=.T []) (t':=s.toks) (λ_ _ q=>aK _ q) (aW _) (FT s.heap I.big),rfl,h _ (I.hok.fresh (aW _))⟩
end
def pL (g more:Aa (hI×V)):Aa (hI×V):=more.foldl (λa b=>nY a b.1 b.2) g
theorem KV.merge:∀ {more:Aa (hI×V)}{l:Aa (hI×Ac)}{g:Aa (hI×V)}{j:Aa (hI×Ac)},KV more l->KV g j->KV (pL g more) (merged j l):=by
 intro more l g j r;unfold KV at r;induction r generalizing g j with
 | nil=>intro q;exact q
 | @cons p q c d h t a =>
  intro b;have e:KV (nY g p.1 p.2) (stored j q.1 q.2):=by
   have:=b.put p.1 h.2;rw[<- h.1];exact this
  exact a e
theorem Bz:∀ (more g:Aa (hI×V)),(pL g more).length<=g.length+more.length
 | [],g=>by show g.length<=g.length+0;omega
 | p::r,g=>by
  have a:=Bz r (nY g p.1 p.2);have b:=Gn g p.1 p.2;show (pL (nY g p.1 p.2) r).length<=_;rw[bS];omega
structure M2 (X:Cx) (o:Expr) (m:Str) (apos:Pos) (e f:Expr) (cpos:Pos):Prop where
 base:attributeBase o m X.env (eval o X.env)=eval o X.env
 few:((backTo cpos (starEach [e,f] X.env)).all (λx=>!x.1)&&(backToKw cpos (keywordEach [] X.env)).all (λx=>x.1.isSome) && decide (([e,f]:List Expr).length+([]:List Keyword).length+(if ([]:List Keyword).isEmpty then 0 else 1)<30))=true
 line:(apos.endLine == cpos.line)=true
 trees:backTo cpos (starEach [e,f] X.env)=[(false,eval e X.env),(false,eval f X.env)]
def Fi (H:Hp) (a:Ad):Prop:=(∃ b,Rd H a (.k b))\/∃ b,Rd H a (.T b)
theorem NL {X:Cx}(I:Inv X j l H s) (d:Fi H a) :
  s.TypeIs (.ref a) "dict" /\ (∀ b,Value.ref a = .ref b->∃ g,s.heap.get? b=some g/\g.dict=none)/\(a == sysModules)=false:=by
 rcases d with⟨i,e⟩ | ⟨i,e⟩
 .obtain⟨_,hd,k,_,c⟩:=yG I.hok e;refine⟨c.typeIs,λb q=>?_,hd⟩;cases q;obtain⟨g,_,_,f,h,_⟩:=c;exact⟨g,f,h.2.1⟩
 .obtain⟨_,hd,m,_,c⟩:=Ba I.hok e;refine⟨c.typeIs,λb q=>?_,hd⟩;cases q;obtain⟨g,_,_,f,h,_⟩:=c;exact⟨g,f,h.2.1⟩
section
variable {X:Cx}
theorem FG (T:A.units+1<cLine) (I:Inv X j U H s) (g:qD H a y o) (p:mC y u) (rd:mC d r) (h:∀ J C,Inv X j U H C->mC (o.getD d) J->Q J C) :
  wpAny (model X.prog X.w) A (call (.builtin "dict.get") [.ref a,u,r]) Q E s:=by
 rcases g with⟨i,k,e,f,l⟩ | ⟨i,k,b,e,f,m,l⟩
 .subst f;obtain⟨z,hd,q,rel,c⟩:=yG I.hok e;refine call_meetsIn jT c.typeIs PySem.F.entry_dict_get (PySem.F.args_dict_get_3 _ _ _) (meets_dict_get_default (pC X.prog X.w) a (yD p) hd r) ⟨_,c.mapOf,h _ _ (I.tok _) ?_⟩;rw[l];exact (rel.val k).getD rd
 .subst f;cases (show u=Value.ref b from p);obtain⟨z,hd,n,rel,c⟩:=Ba I.hok e;refine call_meetsIn jT c.typeIs PySem.F.entry_dict_get (PySem.F.args_dict_get_3 _ _ _) (meetsH_dict_get_default (tupleKind (pC X.prog X.w)) a b hd r) ⟨iZ T,k,n,Ak I.hok m,c,h _ _ (I.tok _) ?_⟩;rw[l];exact (rel.val k).getD rd
end
def NK (g ty j:TE):TE:=λb H Q=>g b H λx c=>∃ a,x = .ref a/\Fi c a/\ty b c λy e=>j b e λz d=>∃ o,qD d a y o/\Q (o.getD z) d
section
variable {X:Cx}
theorem U4 (C:X.A.units+1<cLine) (r:PE X o J) (l:PE X e ty) (p:PE X f T) (m:M2 X o "get" apos e f j):PE X (.Call (.Attribute o "get" apos) [e,f] [] j) (NK J ty T):=by
 intro b s k H Q I h;refine wpAny_Call_method m.base m.few m.line jG jT PySem.F.type_dict_get (lQ (r b s k H _ I h) λu O c=>?_);obtain⟨x,q,n,L,a,ex,d,E⟩:=c;subst ex;obtain rfl:u=Value.ref a:=L;obtain⟨R,S,_⟩:=NL n d;refine⟨R,S,?_⟩;rw[m.trees];refine Calls.callWith_builtin rfl (Calls.evalArgs_plain (gW (lQ (l b O k q _ n E) λW P ⟨y,t,w,M,G⟩ =>gW (lQ (p b P k t _ w G) λV Z ⟨z,v,B,N,Y,g,K⟩=>jL ?_))));exact FG C B g M N λw' U D i=>⟨_,v,D,i,K⟩
end
section
variable {X:Cx}
theorem EV (I:Inv X j r H s) (e:Rd H a (.k g)) (h:∀ p l,H p=none->Inv X j r (upd H p (.k g)) l->Q (.ref p) l):wpAny (model X.prog X.w) A (call (.type "dict") [.ref a]) Q E s:=by
 obtain⟨z,hd,n,rel,f⟩:=yG I.hok e;refine kt_call_dict hd f (by rw[<- rel.length];exact z) λm c i=>?_
 refine h _ _ (I.hok.fresh (aW _)) (I.laid (a:=s.heap.objs.size) (o:=.k g) (t':=s.toks) (λb q d=>?_) (aW _) (Bo z (cO.mpr (cY (bH I.big))) rel c));exact (i.2 b (bH (aY d))).trans (aK _ d)
end
end L2
namespace Att
open PySem PySem.W PySem.Calls PyProof.Rows
theorem GB {P:Params}:∀ (g:Aa Int) (j:Aa Ac),WellAll P h j (g.map WData.int)->IntsAre j g:=by
 intro g;induction g with
 | nil =>
  intro j w;rw[lB] at w;cases w;exact .nil
 | cons n g c =>
  intro j w;rw[aP] at w;cases w with
  | cons a b =>
   cases a;exact .cons _ _ (c _ b)
theorem Xy {l:OpenLaw}(I:l.most=some n){P:Params}
  (j:l.row.toRowW.claim.pre args=true) (p:WellAll P h o args) :
  ∃ a C g,o=[Value.ref a]/\args=[WData.list (g.map WData.int)]/\h.get? a=some { cls:=.type "list",data:=.seq C.toArray }/\IntsAre C g/\g.length<=n:=by
 have i:WShape.hasAll [] args [.list .int]=true:=(pre_splitW j).1;have k:l.pre.holds [] { args:=args }=true:=(pre_splitW j).2;obtain⟨d,r,rfl,m,s⟩:=hasAllW_cons i;obtain rfl:=hasAllW_nil s;obtain⟨y,rfl,t⟩:=hasW_list m;obtain⟨g,rfl⟩:=items_int t;have c:g.length<=n:=by
  unfold OpenLaw.pre at k;have e:(WTm.not (.lt (.lit (.int (n:Int))) (.len (.arg 0)))).holds [] { args:=[.list (g.map .int)] }=true:=by
   have e:=(holds_andW k).1;rw[I] at e;exact e
  have f:=condW_of e (w_not (w_lt w_lit (w_len_list (w_arg rfl))));rw[aA] at f;refine Nat.le_of_not_lt λq=>?_
  have v:(n:Int)<((g.length:Nat):Int):=by omega
  first
   | (rw[cB v] at f;exact absurd f (by decide))
   | (simp at f;omega)
 cases p with
 | cons w x =>
  cases x;cases w with
  | list u b=>exact⟨_,_,g,rfl,rfl,u,GB g _ b,c⟩
theorem GV (l:OpenLaw) (args:Aa WData):l.row.toRowW.claim.post args (.bool true) args=true :=
 postW_of (r:=l.row.toRowW) (X:=(true == true))
  (show WShape.has [] (.bool true) .bool=true by first | rfl | decide | simp[WShape.has,WShape.arms,WShape.armsAll])
  (show (WTm.eq .res (.lit (.bool true))).value [] { args:=args,res:=some (.bool true),after:=args }=some (.bool (true == true)) from w_eq_bool (w_res rfl) w_lit) rfl
theorem attach_call {l:OpenLaw}
  (hn:l.most=some n) (aa:d.params.defaults=[])
  (call:∀ (w:World) (j g:Ae) (T mb:Af->Ab Ac) (J:Ad) (o:Obj) (pm cd p:Ac) (a:Ad) (I:Aa Ac) (U:Aa Int),Ground q C [] XP w j T mb g.heap->YP w g.heap ->g.heap.get? J=some o->o.data = .func (docDef d.name d.params d.body d.scope pm cd p)->g.heap.CodeRec cd d.name->T d.name=some (.ref J) ->g.heap.get? a=some { cls:=.type "list",data:=.seq I.toArray }->IntsAre I U->U.length<=n->g.gens=#[] ->
   codeAny (model l.prog w) callerA (.call (.ref J) ⟨[.ref a],[]⟩) (λr s'=>r = .ok (.ret (.bool true))/\OldK g.heap s'.heap/\s'.os=g.os/\AllBare s'.gens) g) :
  WalkO q C XP YP l.row.toRowW d [] (λf I=>PySem.call f I):=by
 intro w j g T mb G Y J o pm cd p v kV E hd i s k A args u as h t H m B;obtain rfl:v = .none:=Dflts.none s aa;obtain rfl:kV = .none:=Dflts.noKw s;obtain⟨a,I,U,rfl,rfl,e,b,c⟩:=Xy hn h m;refine enter_call (codeAny_mono (call w j g T mb J o pm cd p a I U G Y E (fd_plain hd) i k e b c A) λr s' F=>?_);obtain⟨rfl,x,y,z⟩:=F;exact⟨.inl ⟨.bool true,.bool true,[],rfl,λ_=>rfl,.bool true,GV l _,λ_=>⟨List.Pairwise.nil,λ_ D=>(nomatch D)⟩⟩,x,y,z⟩
end Att
namespace L2
open PySem PySem.Spec PyProof.Rows
theorem Vu:∀ {j:Aa Ac}{g:Aa Int},IntsAre j g->mB (g.map V.int) j
 | _,_,.nil=>.nil
 | _,_,.cons n t h=>.cons ⟨t,rfl⟩ (Vu h)
def Ky (H:Hp):Prop:=∀ b,H b=none\/∃ o a,H b=some (.frz o (.l a))
theorem Xw {P:Ah}{K:lL}
  (KX:K.In g.heap) (T:g.heap.Ns mainGlobals mg) (j:g.heap.Ns builtinsNs mb) (ab:∀ x:Af,x ≠ "__name__" -> mb x=bootBuiltins x) (J:g.heap.NoLimit) (hg:g.gens=#[])
  (U:g.heap.get? a=some { cls:=.type "list",data:=.seq I.toArray }) (hi:IntsAre I ns) (hl:ns.length<=sizeLine) (hr:Room k callerA)
  (F:∀ base:Ag,K.In base->base.Ns mainGlobals mg->FnOk P w K mg base CX k fa fd [x] sp) (C:∀ (s:Ae) (u:Ac),BindsTo s fd ⟨[u],[]⟩ [(x,u)])
  (ac:∀ H:Hp,Ky H->lO K H a (ns.map V.int)->sp [.ref a] H (λv _=>v = .b true) λ_ _ _=>False)
  (aa:∀ H e p,CX [] H g (λ_ _ _=>False) e p->False) :
  codeAny (model P w) callerA (.call (.ref fa) ⟨[.ref a],[]⟩) (λr p=>r = .ok (.ret (.bool true))/\OldK g.heap p.heap/\p.os=g.os/\AllBare p.gens) g:=by
 have R:=Vu hi;have D:=hi.length;have core:∀ H:Hp,Ky H->lO K H a (ns.map V.int)->nP P w H g.heap->(∀ b,H b≠none->b=a)->(H a≠none->K.lookup a=none) ->
   codeAny (model P w) callerA (.call (.ref fa) ⟨[.ref a],[]⟩) (λr p=>r = .ok (.ret (.bool true))/\OldK g.heap p.heap/\p.os=g.os/\AllBare p.gens) g:=by
  intro H Q hS A O hK;have c:∀ {b:Ad} {o:Obj},g.heap.get? b=some o->H b=none->(wV g.heap H).get? b=some o:=λe n=>LH e n
  have M:∀ {b:Ad} {o:Obj} {t:Array DictEntry} {i:Nat},g.heap.get? b=some o->o.data = .dict t i->H b=none:=λ{b o t i} e d=>by
   cases q:H b with
   | none=>rfl
   | some u =>
    have G:b=a:=O b (by rw[q];simp);subst G;rw[U] at e;cases e;have S:Data.seq I.toArray _=Data.dict t i:=d;cases S
  have f:∀ {b:Ad} {m:Af->Ab Ac},g.heap.Ns b m->(wV g.heap H).Ns b m:=λ{b m} ⟨o,t,i,e,d,r⟩=>⟨o,t,i,c e (M e d),d,r⟩
  have y:K.In (wV g.heap H):=λb o e=>c (KX b o e) (by
   cases q:H b with
   | none=>rfl
   | some u =>
    have G:b=a:=O b (by rw[q];simp);subst G;rw[hK (by rw[q];simp)] at e;cases e)
  have hM:Mod K mg (wV g.heap H):=⟨y,f T,⟨mb,f j,ab⟩,let ⟨mc,Z,h2⟩:=J;⟨mc,f Z,h2⟩⟩;have W:Env0 P w K mg (wV g.heap H) callerA [] g H:=⟨rfl,hM,λb o e=>X3 e,lC (NV _ _),trivial,λb j=>absurd (show b∈([]:Aa Ad) from j) (by simp),A,.of_eq hg⟩;refine codeAny_mono ((F _ y (f T)).run callerA [] g H ⟨[.ref a],[]⟩ [.ref a] [.ref a] _ _ hr W (C g (.ref a)) (.cons rfl .nil) (ac H Q hS)) λr p h=>?_
  cases r with
  | error e=>exact (aa H e p h).elim
  | ok Y =>
   cases Y with
   | next=>exact False.elim h
   | brk=>exact False.elim h
   | cont=>exact False.elim h
   | ret u =>
    obtain⟨v,H',os,bare,un,B,r',q⟩:=h;have q':v = .b true:=q;subst q';obtain rfl:u=Value.bool true:=r';refine⟨rfl,OldK.of_keep λb o e=>?_,os,bare⟩;cases q:H b with
    | none=>exact un.keep b o e q (by intro z;exact absurd (show b∈([]:Aa Ad) from z) (by simp)) (by simp)
    | some u =>
     rcases Q b with z | ⟨ob,xs,z⟩
     .rw[q] at z;cases z
     .have z2:=un.frzs b ob _ z;obtain⟨N,_⟩:=A b _ z;obtain⟨X,_⟩:=B b _ z2;rw[e] at N;cases N;exact X
 cases L:K.lookup a with
 | some o =>
  have e:=KX a o L;rw[U] at e;cases e;refine core (λ_=>none) (λ_=>.inl rfl) (.inr ⟨_,I.toArray,_,L,rfl,rfl,rfl,by rw[aX,D];exact hl,by simpa using R⟩) (λb u z=>by have E:(none:Ab HO)=some u:=z;cases E) (λb z=>absurd rfl z) λz=>absurd rfl z
 | none =>
  refine core (λb=>if b=a then some (.frz { cls:=.type "list",data:=.seq I.toArray } (.l (ns.map V.int))) else none) (λb=>?_) (.inl (.inr ⟨{ cls:=.type "list",data:=.seq I.toArray },aT rfl⟩)) (λb u z=>?_) (λb z=>?_) λ_=>L
  .by_cases j:b=a
   .exact .inr ⟨_,_,aT j⟩
   .exact .inl (aN j)
  .by_cases j:b=a
   .have E:=(aT j).symm.trans z;cases E;subst j;exact⟨U,by rw[aA];exact hl,I,_,R,U⟩
   .have E:=(aN j).symm.trans z;cases E
  .by_cases j:b=a
   .exact j
   .exact absurd (aN j) z
theorem walk_of {l:PySem.W.OpenLaw}{n k:Nat}{q:Ah}{j:Aa Af}{XP:(Af->Ab Ac)->Ag->Prop}{YP:World->Ag->Prop}{d:DefRec}{K:Params->lL}{CX:World->An}{sp:World->Sp}{x:Af}
  (hn:l.most=some n) (U:n<=sizeLine) (J:d.params.defaults=[]) (hr:Room k callerA)
  (hY:∀ (w:World) (h:Ag),YP w h->(K w.params).In h)
  (F:∀ (w:World) (p:Af->Ab Ac) (r:Ad) (h:Ag),(K w.params).In h->h.Ns mainGlobals p->p d.name=some (.ref r) ->∃ fd:FuncData,(∀ (s:Ae) (u:Ac),BindsTo s fd ⟨[u],[]⟩ [(x,u)]) /\ ∀ base:Ag,(K w.params).In base->base.Ns mainGlobals p->FnOk l.prog w (K w.params) p base (CX w) k r fd [x] (sp w))
  (aa:∀ (w:World) (H:Hp) (a:Ad) (C:Aa Int),C.length<=n->Ky H->lO (K w.params) H a (C.map V.int)->sp w [.ref a] H (λv _=>v = .b true) λ_ _ _=>False)
  (I:∀ (w:World) (H:Hp) (s:Ae) (e:Ac) (s':Ae),CX w [] H s (λ_ _ _=>False) e s'->False) :
  PySem.W.WalkO q j XP YP l.row.toRowW d [] (λf vs=>PySem.call f vs):=by
 refine Att.attach_call hn J λw A t p Q r o pm cd B a vs C G Y P hd N y m i c O=>?_
 have z:=hY w _ Y;obtain⟨fd,M,D⟩:=F w p r _ z G.T.g y;exact Xw z G.T.g G.T.b G.T.builtins G.T.nolimit O m i (cK c U) hr D M (λH E L=>aa w H a C c E L) λH e s'=>I w H t e s'
def tD (s:Stmt):Arguments:=match s with
 | .FunctionDef _ a _ _ _ _ _ _ _ _=>a
 | _=>{ posonlyargs:=[],args:=[],vararg:=none,kwonlyargs:=[],kw_defaults:=[],kwarg:=none,defaults:=[] }
def rH (s:Stmt):Aa Stmt:=match s with
 | .FunctionDef _ _ b _ _ _ _ _ _ _=>b
 | _=>[]
def mI (s:Stmt):Scope:=match s with
 | .FunctionDef _ _ _ _ _ _ a _ _ _=>a
 | _=>{ kind:=.function,names:=[],isGenerator:=false,isCoroutine:=false }
abbrev nR:An:=λ_ _ _ _ _ _=>False
abbrev E0:XK:=λ_ _ _=>False
theorem rE {X:Cx}:Fj nR X E0:=λ_ _ _ _ _ _ _ h=>h.elim
structure Fun (K:lL) (x qual:Str) (st:Stmt) (f:Addr) (fd:FuncData):Prop where
 ex:∃ (oc:Value) (od:Option Addr) (kV doc pm:Value) (an:Option Addr) (cdv ct:Value) (osl:Array (Option Value)),
  fd=PySem.W.fnOf x qual (tD st) (rH st) (mI st) .none kV doc pm an cdv ct/\K.lookup f=some ⟨oc,od,.func fd,osl⟩/\PySem.W.codeIn K cdv qual=true
 kp:PySem.W.keepIn K (.ref f)=true
section
variable {P:Ah}{K:lL}
theorem Fun.ok {st:Stmt}(F:Fun K x l st f fd) (S:FnScope N r (mI st)) (len:∀ p H Q E,C p H Q E->p.length=r.length)
  (o:∀ (j:Ac) (A:Around) (g:Aa Env) (s:Ae) (H:Hp) (p:Aa V) (Q:VK) (E:XK),Room k (A.deeper (envOfC l (mI st) s.heap.objs.size f j))->C p H Q E ->∃ t,pE (xH nR P w K J base N l (mI st) f j A g s H E).nox (rH st) t/\t { nx:=λ_ I=>Q .e I,rt:=Q } (uA N p) H):FnOk P w K J base nR (k+1) f fd r C:=by
 obtain⟨v,y,kV,c,pm,n,j,u,m,rfl,i,a⟩:=F.ex;refine DI i a S len λA g s H p Q E d b=>?_
 obtain⟨t,h,q⟩:=o j A g s H p Q E d b;exact⟨t,h.nox,q⟩
theorem Fun.binds {st:Stmt}(F:Fun K x l st f fd)
  (h:∀ (kV j pm:Ac) (o:Ab Ad) (g p:Ac) (r:Aa Ac),r.length=C.length->bindArgs (PySem.W.fnOf x l (tD st) (rH st) (mI st) .none kV j pm o g p) ⟨r,[]⟩=pure (C.zip r)):yL K fd C []:=by
 obtain⟨d,e,kV,j,pm,o,g,p,b,rfl,c,a⟩:=F.ex;exact .all (h kV j pm o g p)
theorem Sn {st:Stmt}{kV:Ac}(l:K.lookup f=some ⟨I,J,.func (PySem.W.fnOf x g (tD st) (rH st) (mI st) .none kV o pm r j C),p⟩)
  (c:PySem.W.codeIn K j g=true) (k:PySem.W.keepIn K (.ref f)=true):Fun K x g st f (PySem.W.fnOf x g (tD st) (rH st) (mI st) .none kV o pm r j C):=⟨⟨I,J,kV,o,pm,r,j,C,p,rfl,l,c⟩,k⟩
end
theorem Jd (g:Room k A):A.units+1<cLine:=cH (Nat.add_le_add_left (by decide:1<=64) _) g.units
section
variable {X:Cx}
theorem pv (i:Nat) (j:X.N[i]?=some x:=by rfl) (l:Gm X.env.scope x:=by first | exact Or.inl rfl | exact Or.inr (Or.inl rfl) | exact Or.inr (Or.inr rfl)) (hd:(x == ("__debug__" : Af))=false:=by decide)
  (g:(x == ("__classdict__" : Af))=false:=by decide):PE X (.Name x pos) (oY i):=IE j l hd g
theorem FC:nK X (.builtin "len") (λj H Q=>∃ a g,j=[V.ref a]/\H a=some (.k g)/\Q (.int g.length) H):=by
 intro b s m H j i Q I r h;obtain⟨a,g,rfl,d,q⟩:=h;obtain⟨u,rfl,e⟩:=qM r;cases e;exact MN I (.inl d) λt f c=>⟨.int g.length,H,c,⟨t,rfl⟩,q⟩
end
theorem tS {A B:Prop}(h:B):if false=true then A else B:=by
 rw[aN bG];exact h
theorem zA {c A B:Prop} [Decidable c] (g:c->A) (j:¬ c->B):if c then A else B:=by
 by_cases h:c
 .rw[aT h];exact g h
 .rw[aN h];exact j h
def nW (H g:Hp):Prop:=∀ b o,H b=some o->g b=some o
theorem nW.trans (a:nW H g) (b:nW g j):nW H j:=λc o h=>b c o (a c o h)
theorem nW.free (e:nW H g) (h:g l=Option.none):H l=Option.none:=by
 cases q:H l with
 | none=>rfl
 | some o =>
  rw[e l o q] at h;cases h
theorem nW.seq {K:lL}(e:nW H g) (h:lO K H a j):lO K g a j:=by
 rcases h with (h | ⟨o,h⟩) | h
 .exact .inl (.inl (e _ _ h))
 .exact .inl (.inr ⟨o,e _ _ h⟩)
 .exact .inr h
section
variable [DecidableEq κ]
theorem Ow:∀ {l:Aa κ}{k:κ},l.Nodup->¬ k∈l->(l++[k]).Nodup
 | [],k,_,_=>by simp
 | a::r,k,h,b=>by
  obtain⟨c,d⟩:=cD.mp h;show (a::(r++[k])).Nodup;refine cD.mpr ⟨λm=>?_,Ow d λm=>b (aI.mpr (Or.inr m))⟩;rcases aV.mp m with q | q
  .exact c q
  .exact b (aI.mpr (Or.inl (aZ.mp q).symm))
end
section
variable {X:Cx}
theorem E1 {K:lL}:∀ {j:Aa Int}{g:Aa Ac},mB (j.map V.int) g->∃ xs:Array (Int×Tok),g.toArray=intItems xs/\j=xs.toList.map (·.1)
 | [],_,.nil=>⟨#[],by simp[intItems],rfl⟩
 | n::j,_,.cons r c=>by
  obtain⟨t,rfl⟩:=r;obtain⟨xs,a,b⟩:=E1 (K:=K) c;refine⟨(⟨(n,t)::xs.toList⟩:Array (Int×Tok)),?_,by rw[b];rfl⟩;have:(intItems xs).toList=_:=(bY Array.toList a).symm;unfold intItems at this |-;refine Array.toList_inj.mp ?_;simp only[Array.toList_map] at this |-;rw[aP,this]
theorem Hb (p:l=o.toList.map (·.1)) (g:j<o.size):∃ h:j<l.length,numAt o j=l[j]:=by
 subst p;refine⟨by simpa using g,?_⟩;simp[numAt,g]
theorem Hw (l:X.calm=true):nK X (.builtin "sum") (λj H Q=>∃ (p:Ad) (g:Aa Int),j=[.ref p]/\lO X.K H p (g.map V.int)/\Q (.int g.sum) H):=by
 intro a s z H j y Q I r h;obtain⟨p,g,rfl,d,q⟩:=h;obtain⟨u,rfl,m⟩:=qM r;cases m;obtain⟨f,k,i,w⟩:=I.list d;obtain⟨t,e,b⟩:=E1 (K:=X.K) k;refine sum_intListG (xs:=t) (I.ok.hd l) (e▸i.isList) λv x n c=>⟨.int g.sum,H,I.kept c,⟨n,?_⟩,q⟩
 rw[preSum_eq,bI (by simp),b]
theorem Wq (l:X.calm=true):nK X (.builtin "min") (λxs H Q=>∃ (p:Ad) (g:Aa Int),xs=[.ref p]/\lO X.K H p (g.map V.int)/\g≠[]/\∀ m:Int,m∈g->(∀ a∈g,m<=a)->Q (.int m) H):=by
 intro n s Y H xs W Q I r h;obtain⟨p,g,rfl,B,f,q⟩:=h;obtain⟨u,rfl,N⟩:=qM r;cases N;obtain⟨E,M,L,P⟩:=I.list B;obtain⟨b,e,d⟩:=E1 (K:=X.K) M;have i:0<b.size:=by
  rcases Nat.eq_zero_or_pos b.size with z | z
  .exfalso;apply f;rw[d];simp[Array.size_eq_zero_iff.mp z]
  .exact z
 refine min_intList (xs:=b) (I.ok.hd l) (e▸L.isList) i λv O S D A=>?_
 obtain⟨t,rfl⟩:=intItems_at (xs:=b) D;have c:=argBest_lt (numAt b) (b.size-1);obtain⟨G,w⟩:=Hb d (cH c.1 (show b.size-1<b.size by omega));refine⟨.int _,H,I.kept A,⟨t,rfl⟩,q _ (w▸fP G) λa y=>?_⟩;obtain⟨j,k,rfl⟩:=fJ y;have F:j<b.size:=by rw[d] at k;simpa using k
 obtain⟨R,x⟩:=Hb d F;exact x▸c.2 j (by omega)
theorem BJ (l:X.calm=true):nK X (.builtin "max") (λxs H Q=>∃ (p:Ad) (g:Aa Int),xs=[.ref p]/\lO X.K H p (g.map V.int)/\g≠[]/\∀ m:Int,m∈g->(∀ a∈g,a<=m)->Q (.int m) H):=by
 intro n s Y H xs W Q I r h;obtain⟨p,g,rfl,B,f,q⟩:=h;obtain⟨u,rfl,N⟩:=qM r;cases N;obtain⟨E,M,L,P⟩:=I.list B;obtain⟨b,e,d⟩:=E1 (K:=X.K) M;have i:0<b.size:=by
  rcases Nat.eq_zero_or_pos b.size with z | z
  .exfalso;apply f;rw[d];simp[Array.size_eq_zero_iff.mp z]
  .exact z
 refine max_intList (xs:=b) (I.ok.hd l) (e▸L.isList) i λv O S D A=>?_
 obtain⟨t,rfl⟩:=intItems_at (xs:=b) D;have c:=argBest_gt (numAt b) (b.size-1);obtain⟨G,w⟩:=Hb d (cH c.1 (show b.size-1<b.size by omega));refine⟨.int _,H,I.kept A,⟨t,rfl⟩,q _ (w▸fP G) λa y=>?_⟩;obtain⟨j,k,rfl⟩:=fJ y;have F:j<b.size:=by rw[d] at k;simpa using k
 obtain⟨R,x⟩:=Hb d F;exact x▸c.2 j (by omega)
def BU (K:lL):V->Aa V->Hp->VK->Prop:=λx b H Q=>∃ (l:Ad) (a:Aa V) (y:V) (j:Nat),x = .ref l/\b=[y]/\lO K H l a/\a.all pZ=true/\pZ y=true/\j<a.length /\
 (∀ z,a[j]?=some z->oS z y=true)/\(∀ (m:Nat) z,m<j->a[m]?=some z->oS z y=false)/\Q (.int j) H
theorem ID:wN X "list.index" (BU X.K):=by
 intro P s σ H x vs v U Q I C p h;obtain⟨l,D,y,j,rfl,rfl,Z,E,S,J,V,W,q⟩:=h;cases C;obtain⟨u,rfl,o⟩:=p.one;obtain⟨a,r,g,T⟩:=I.list Z;have M:=r.length;obtain⟨⟨cls,R,data,sl⟩,N,G,n,hd⟩:=g.isList;simp only at G hd;subst G hd;have O:∀ (i:Nat) (L:i<a.toArray.size),∃ z,D[i]?=some z/\qP y a.toArray[i]=oS z y:=λi L=>by
  have f:i<a.length:=by simpa using L
  have w:D[i]?=some (D[i]'(by omega)):=aQ (by omega);obtain⟨B,hw,A⟩:=r.get w;have e:a.toArray[i]=B:=by
   rw[aQ f] at hw
   simpa using bN hw
  refine⟨_,w,?_⟩;rw[e];exact Ja A (cG.mp E _ (aO w))
 have c:j<a.toArray.size:=by rw[aX];omega
 have k:sizeLine<2 ^ 63-1:=by decide
 refine gX PySem.F.slot_list_index ⟨_,N,rfl⟩ PySem.F.entry_list_index (PySem.F.args_list_index_2 _ _)
  (SeqAt.list_indexAt l a.toArray n R sl u (qP y) j c (by omega) ?_ ?_) ⟨N,λB hw=>A9 o S r E B (by simpa using hw),⟨.int j,H,I.tok _,⟨_,rfl⟩,q⟩⟩
 .obtain⟨z,b,d⟩:=O j c;show qP y a.toArray[j]=true;rw[d];exact V z b
 .intro m Y t;obtain⟨z,b,d⟩:=O m Y;show qP y a.toArray[m]=false;rw[d];exact W m z t b
theorem L9:∀ {j:Aa Af}{g:Aa Ac},mB (j.map V.str) g->StrsAre g j:=by
 intro j;induction j with
 | nil=>intro g r;cases r;exact .nil
 | cons y r c =>
  intro g h;cases h with
  | cons a b =>
   obtain⟨t,rfl⟩:=a;exact .cons _ _ (c b)
def JS (K:lL):V->Aa V->Hp->VK->Prop:=λx b H Q=>∃ (z:Af) (l:Ad) (a:Aa Af),x = .str z/\b=[.ref l]/\(lO K H l (a.map V.str)\/mF K H l (a.map V.str)) /\
 (a.map (·.length)).sum+a.length*z.length<=16777216/\Q (.str (Txt.join z a)) H
theorem AC:wN X "str.join" (JS X.K):=by
 intro e s B H x y v w Q I m i h;obtain⟨z,l,A,rfl,rfl,a,d,q⟩:=h;obtain⟨t,rfl⟩:=m;obtain⟨u,rfl,f⟩:=i.one;cases f;rcases a with a | a
 .obtain⟨b,r,c,_⟩:=I.list a;exact join_list c.isList (by simpa using L9 r) d λn k=>⟨.str _,H,I.tok _,⟨_,rfl⟩,q⟩
 .obtain⟨b,r,c,_⟩:=I.tuple a;exact join_tuple c (by simpa using L9 r) d λn k=>⟨.str _,H,I.tok _,⟨_,rfl⟩,q⟩
end
section
variable {X:Cx}
def Mq (K:lL) (neg:Bool):R2:=λx y H Q=>∃ (a b:Ad) (c:Aa V),x = .ref a/\y = .ref b/\lO K H a c/\lO K H b []/\Q (.b (if neg then !c.isEmpty else c.isEmpty)) H
theorem Ik (g:X.A.units+64<cLine):mO X (compareOp .Eq) (Mq X.K false):=by
 intro c s M H x y v u Q I F G h;obtain⟨a,b,L,rfl,rfl,f,z,q⟩:=h;cases F;cases G;obtain⟨B,D,m,_⟩:=I.list f;obtain⟨k,E,n,_⟩:=I.list z;cases E;have t:∀ d,d=L.isEmpty->EP X c M Q (.bool d) s:=λd e=>⟨.b d,H,I,rfl,by subst e;exact q⟩
 cases D with
 | nil=>exact SeqAt.RcAt.lists (e:=λ_=>true) m.isList n.isList rfl (by omega) (λi f _=>by simp at f) X.prog X.w _ _ (t _ (by simp))
 | cons r N=>exact SeqAt.RcAt.lists_lengths m.isList n.isList (by simp) (by omega) X.prog X.w _ _ (t _ rfl)
end
section
variable {X:Cx}
def tP (z:Af) (lo g:Ab Int):Af:=⟨((z.cps.toList.drop (HT.sIx z.length 0 lo)).take (HT.sIx z.length z.length g-HT.sIx z.length 0 lo)).toArray⟩
theorem HN (lo g:Ab Int) (n:Nat):Builtin.Str.strSliceIndices lo g 1 n=(List.range (HT.sIx n n g-HT.sIx n 0 lo)).map (HT.sIx n 0 lo+·):=by
 unfold Builtin.Str.strSliceIndices;rw[<- sliceRange_one];have c:∀ (v:Ab Int) (d:Nat),d<=n->(match v with | none=>((d:Nat):Int) | some i=>if (1:Int)>0 then max 0 (min (if i<0 then i+(n:Int) else i) (n:Int)) else max (-1) (min (if i<0 then i+(n:Int) else i) ((n:Int)-1)))=((HT.sIx n d v:Nat):Int):=by
  intro v d hd;cases v with
  | none=>rfl
  | some i =>
   simp only[HT.sIx,show (1:Int)>0 by decide,gE];by_cases h:i<0
   .simp only[h,gE]<;>omega
   .simp only[h,fR]<;>omega
 have a:=c lo 0 (dL _);have b:=c g n (aW _);simp only[show (1:Int)>0 by decide,gE] at a b |-;rw[<- a,<- b];cases lo<;>cases g<;>rfl
def Sh:V->Ab Int->Ab Int->Hp->VK->Prop:=λx lo a H Q=>∃ z:Af,x = .str z/\z.length<=sizeLine/\Q (.str (tP z lo a)) H
theorem Rp (p:IsPart v o):∃ l:Ab (Int×Tok),v=partValue l/\o=l.map (·.1):=by
 cases p with
 | none=>exact⟨none,rfl,rfl⟩
 | int i t=>exact⟨some (i,t),rfl,rfl⟩
theorem xV (z:Af):z.cps.toList.length=z.length:=by
 rw[fH];rfl
theorem Wo {a b:Af}(h:a.cps.toList=b.cps.toList):a=b:=by
 obtain⟨a⟩:=a;obtain⟨b⟩:=b
 congr
 exact Array.toList_inj.mp h
theorem Lv:vP X Sh:=by
 intro c s K H x v E G lo B sl Q I A n w y h;obtain⟨z,rfl,D,q⟩:=h;obtain⟨t,rfl⟩:=A;obtain⟨l,rfl,rfl⟩:=Rp w;obtain⟨u,rfl,rfl⟩:=Rp y;refine⟨"str",_,PySem.F.slot_str_getitem.lookup,kR _ z t,?_⟩;refine wpAny_getItem_str_slice (l:=l) (u:=u) (st:=none) n rfl ?_;have e:slicePicked z l u none=(List.range (HT.sIx z.length z.length (u.map (·.1))-HT.sIx z.length 0 (l.map (·.1)))).map (HT.sIx z.length 0 (l.map (·.1))+·):=HN _ _ _;have d:(⟨((slicePicked z l u none).filterMap (z.cps[·]?)).toArray⟩:Af)=tP z (l.map (·.1)) (u.map (·.1)):=by
  rw[e,pick_run];rfl
 have m:=HT.sIx_le z.length z.length (aW _) (u.map (·.1));have b:=HT.sIx_le z.length 0 (dL _) (l.map (·.1));unfold sliceMade;split
 .rename_i k
  have a:(slicePicked z l u none).length=z.length:=by
   have:=(cN _ _).mp k;exact eq_of_beq this.2
  have f:tP z (l.map (·.1)) (u.map (·.1))=z:=by
   rw[e,aA,dB] at a;apply Wo;show ((z.cps.toList.drop _).take _)=z.cps.toList;have i:HT.sIx z.length 0 (l.map (·.1))=0:=by omega
   rw[i] at a |-;rw[jN,bI];rw[xV];omega
  rw[f] at q;exact⟨.str z,H,I,⟨t,rfl⟩,q⟩
 .rw[d];refine⟨?_,.str _,H,I.tok _,⟨_,rfl⟩,q⟩;have:(tP z (l.map (·.1)) (u.map (·.1))).length<=z.length:=by
   show ((z.cps.toList.drop _).take _).toArray.size<=_;rw[aX,bZ,dY,xV];omega
  omega
theorem Zz:nK X (.type "dict") (λj H Q=>∃ (a:Ad) (g:Aa (hI×V)),j=[.ref a]/\H a=some (.k g)/\∀ p,H p=none->Q (.ref p) (upd H p (.k g))):=by
 intro b s n H j m Q I r h;obtain⟨a,g,rfl,d,q⟩:=h;obtain⟨u,rfl,f⟩:=qM r;cases f;exact EV I (.inl d) λp i e c=>⟨.ref p,_,c,rfl,q p e⟩
theorem MB (I:KV g C) (j:(g.map (·.1)).Nodup) :
  ∀ (r:Aa (hI×V)) (o:Aa (hI×Ac)),KV r o->(∀ p∈r,p∈g)->(∀ p∈r,pZ p.2=true/\oS p.2 p.2=true)->PySem.W.KeqHits A s C o true:=by
 intro r;induction r with
 | nil=>intro o h _ _;cases h;exact .nil
 | cons p r x =>
  intro o h c i;cases h with
  | cons t u =>
   rename_i q d
   obtain⟨k,v⟩:=p;obtain⟨D,K⟩:=q;obtain⟨e,G⟩:=t;have e:k=D:=e;subst e;have w:oV g k=some v:=by
    have b:=c (k,v) aH;have:∀ (l:Aa (hI×V)),(l.map (·.1)).Nodup->(k,v)∈l->oV l k=some v:=by
     intro l;induction l with
     | nil=>intro _ h;cases h
     | cons a l B =>
      intro j c;have j:(a.1::l.map (·.1)).Nodup:=j;obtain⟨E,F⟩:=cD.mp j;rcases aI.mp c with z | z
      .subst z;exact B6 rfl
      .rw[Bf (λe=>E (by rw[e];exact aE.mpr ⟨_,z,rfl⟩))];exact B F z
    exact this g j b
   have m:=I.val k;rw[w] at m;obtain⟨y,n,H⟩:=m.some_of;obtain⟨f1,f2⟩:=i (k,v) aH;have f:SeqAt.EqAt A s K y (oS v v):=Kw G H f1 f1;rw[f2] at f;have:=PySem.W.KeqHits.hit n f (x d u (λp b=>c p (aM _ b)) λp b=>i p (aM _ b))
   simpa using this
end
def uQ (z:Af):It:=⟨λi _=>i<z.length,λi H x a=>a=H/\∃ c,z.cps[i]?=some c/\x = .str ⟨#[c]⟩,λi _=>z.length<=i⟩
theorem S3 {P:Ah}{K:lL}(z:Af) (t:Tok) (it:Ad):Turn P w K tg (uQ z) [it] it (λi h=>h.IsStrIter it "str_ascii_iterator" z t i) where
 mem:=by simp
 obj:=λi h st b hb=>by
  have e:b=it:=by simpa using hb
  subst e;obtain⟨o,e,c,d⟩:=st;exact⟨o,e,λv z=>by rw[d] at z;cases z⟩
 keep:=λi h h' st k=>by
  obtain⟨o,e,r⟩:=st;exact⟨o,k it (by simp) o e,r⟩
 item:=by
  intro X hP hw hK hc i pins s σ H E I hf st hg;subst hP hw hK;have hg:i<z.length:=hg;obtain⟨f0,f1,f2,f3,f4,f5⟩:=hf it (by simp);have hz:z.cps[i]?=some (z.cps[i]'hg):=cR hg;refine wpAny_pyNext_ascii_item st hz λh' st' sb=>?_
  have I1:Inv X pins σ H { s with heap:=h',toks:=s.toks+1 }:=I.turned (t':=s.toks+1) (λb o hb e=>(sb.2 b hb).trans e) f0 f1 f3 f4 f5;obtain⟨o,e,c,d⟩:=id st';exact⟨_,rfl,zH (s:={ s with heap:=h',toks:=s.toks+1 }) e c d (by decide) ⟨.str ⟨#[z.cps[i]'hg]⟩,H,I1,⟨_,rfl⟩,⟨rfl,_,hz,rfl⟩,st',λb hb=>(hf b hb).1⟩⟩
 done:=by
  intro X hP hw hK hc i pins s σ H E I hf st hg;subst hP hw hK;have hg:z.length<=i:=hg;obtain⟨f0,f1,f2,f3,f4,f5⟩:=hf it (by simp);exact wpAny_pyNext_ascii_end (I.ok.hd hc) st (dZ (by exact hg)) λh' eb=>⟨rfl,I.turned (t':=s.toks) (λb o hb e=>eb b o hb e) f0 f1 f3 f4 f5⟩
 self:=λ_ _ _ _ _ st h=>wpAny_pyIter_striter_ascii st h
section
variable {X:Cx}
def Zy (g:TE):TI:=λb H R=>g b H λx a=>∃ z:Af,x = .str z/\z.cps.all (·<128)=true/\R (uQ z) a
theorem HJ (g:PE X l j):PI X o l (Zy j):=by
 intro a s k H R I h;refine lQ (g a s k H _ I h) λv c f=>?_
 obtain⟨x,i,d,y,z,n,u,q⟩:=f;subst n;obtain⟨t,rfl⟩:=y;refine wpAny_pyIter_ascii u ?_;have m:Inv X a k i { c with heap:=c.heap.push { cls:=.type "str_ascii_iterator",data:=.fields #[.str z t,.int 0 0] } }:=d.kept (t':=c.toks) λb A q=>aK _ q
 refine⟨c.heap.objs.size,[c.heap.objs.size],_,uQ z,i,rfl,m,S3 z t _,⟨_,bA _ rfl,rfl,rfl⟩,λb w=>?_,q⟩;have e:b=c.heap.objs.size:=by simpa using w
 subst e;exact d.fpOk (aW _) (d.hok.fresh (aW _))
end
def tI (g:Aa Af) (x:Af):Aa Af:=if x∈g then g else g++[x]
def oF (l:Aa Af):Aa Af:=l.foldl tI []
theorem Kh (l:Aa Af) (x:Af):oF (l++[x])=tI (oF l) x:=by unfold oF;rw[List.foldl_append];rfl
theorem Ya (g:Aa Af) (x y:Af):y∈tI g x↔y∈g\/y=x:=by
 unfold tI;split
 .rename_i h
  constructor
  .exact .inl
  .rintro (q | q)
   .exact q
   .rw[q];exact h
 .simp[aV]
theorem Gf (g:Aa Af) (x:Af):(tI g x).length=if x∈g then g.length else g.length+1:=by
 unfold tI;split<;>simp
theorem JP (l:Aa Af):∀ k,(oF (l.take k)).length<=k:=by
 intro k;induction k with
 | zero=>simp[oF]
 | succ k a =>
  rw[cL];cases e:l[k]? with
  | none=>simp;omega
  | some x =>
   simp only[Option.toList_some];rw[Kh,Gf];split<;>omega
theorem MW (r:Aa Af):∀ g,g.length<=(r.foldl tI g).length/\(r.foldl tI g).length<=g.length+r.length:=by
 induction r with
 | nil=>intro g;simp
 | cons x r a =>
  intro g;have h:=a (tI g x);rw[Gf] at h;simp only[iX,bS];split at h<;>omega
theorem Z3:∀ (r g:Aa Af),g.Nodup->(r.foldl tI g).length=g.length+r.length->(g++r).Nodup:=by
 intro r;induction r with
 | nil=>intro g h _;simpa using h
 | cons x r d =>
  intro g h e;simp only[iX,bS] at e;have b:=MW r (tI g x);rw[Gf] at b;by_cases a:x∈g
  .rw[aT a] at b;omega
  .have c:tI g x=g++[x]:=by unfold tI;rw[if_neg a]
   rw[c] at e;have:=d (g++[x]) (Ow h a) (by rw[e];simp;omega)
   simpa using this
theorem HW (h:(oF l).length=l.length):l.Nodup:=by
 have:=Z3 l [] iF (by simpa [oF] using h)
 simpa using this
theorem Pe {P:Ah}{w:World}{h:Ag}{a:Ad}{S g:Af->Bool}{n j:Nat}(z:h.SetOf (PySem.strKind P w) a S n) (e:∀ k,S k=g k) (l:n=j):h.SetOf (PySem.strKind P w) a g j:=by
 have:S=g:=funext e;subst this l;exact z
section
variable {R:Result->Ae->Prop}{P:Nat->Ac->Prop}{St:Nat->Ae->Prop}
theorem Wm (W:WalksS g w A.in1 J I C G n P St) (a:Ad) (p:a∉I) (j:Aa Af) (aa:j.length=n) (hp:∀ i v,P i v->∃ x t,j[i]?=some x/\v = .str x t) (r:n+1<scanBound) :
  ∀ (k i:Nat) (s:Ae),n-i=k->i<=n->St i s->s.heap.SetOf (PySem.strKind g w) a (λx=>decide (x∈oF (j.take i))) (oF (j.take i)).length ->
   (∀ l,Moved (a::C) G s l->l.heap.SetOf (PySem.strKind g w) a (λx=>decide (x∈oF j)) (oF j).length->R (.ok (.ret .none)) l) ->
   codeAny (model g w) A (.builtin "set.update.loop" ⟨[.ref a,.ref J],[]⟩) R s:=by
 have h:a∉C:=λz=>p (W.sub _ z)
 have c:∀ b∈C,b∈a::C:=λb z=>aM _ z
 intro k;induction k with
 | zero =>
  intro i s hk U st E L;have Z:i=n:=by omega
  subst Z;rw[bI (by omega)] at E;refine fA iQ ?_;rw[dQ fL _];show wpAny _ A.in1 (pyNext (.ref J) >>= _) _ _ s;refine aB (W.done s _ _ st λl u=>?_);show wpAny _ A.in1 (ret Value.none) _ _ l;obtain⟨o,H,F,t,Q,rest⟩:=E;exact aG (L l (u.mono c) ⟨o,H,F,t,u.heap a _ h Q,rest⟩)
 | succ k ih =>
  intro i s hk U st E L;have q:i<n:=by omega
  refine fA iQ ?_;rw[dQ fL _];show wpAny _ A.in1 (pyNext (.ref J) >>= _) _ _ s;refine aB (W.item i s _ _ q st λv l hv V u=>?_);obtain⟨x,t,hx,rfl⟩:=hp i v hv;have M:l.heap.SetOf (PySem.strKind g w) a (λx=>decide (x∈oF (j.take i))) (oF (j.take i)).length:=by
   obtain⟨o,H,F,tb,Q,rest⟩:=E;exact⟨o,H,F,tb,u.heap a _ h Q,rest⟩
  show wpAny _ A.in1 (holding [Value.str x t] (setAdd a (.str x t)) >>= _) _ _ l;refine aB (bX ?_);unfold setAdd;refine bX ?_;have m:(PySem.strKind g w).is x (.str x t)=true:=by simp[PySem.strKind,Value.isStrOf]
  refine aB ((PySem.strKind g w).pyHash (k:=x) m ?_);have d:(oF (j.take i)).length+1<scanBound:=by have:=JP j i;omega
  refine wpAny_setAddHashed_of (knd:=strKind g w) (s:={ l with toks:=l.toks+1 }) m rfl M d λT Y N=>?_
  have X:j.take (i+1)=j.take i++[x]:=by rw[cL,hx];rfl
  have O:T.SetOf (PySem.strKind g w) a (λx=>decide (x∈oF (j.take (i+1)))) (oF (j.take (i+1))).length:=by
   refine Pe N (λy=>?_) ?_
   .rw[X,Kh];have:=Ya (oF (j.take i)) x y;by_cases D:y∈oF (j.take i)<;>by_cases K:y=x<;>simp only[D,K,true_or,or_true,eM,false_or] at this<;>simp[this,D,K]
    all_goals (subst K;simp[this])
   .rw[X,Kh,Gf];by_cases D:x∈oF (j.take i)<;>simp[D]
  refine aG ⟨hX fL _,ih (i+1) _ (by omega) q (W.frame _ l _ _ V (iE _) λb r o e=>?_) O λS B f=>?_⟩
  .rw[Y.2 b (λz:b=a=>p (by rw[<- z];exact r))];exact e
  .refine L S (Moved.trans W.gtrans ((u.mono c).then_heap (iE _) λb o r e=>?_) B) f;rw[Y.2 b (λz:b=a=>r (by rw[z];exact aH))];exact e
end
end L2
namespace PySem
open PyProof.Rows L2
section
theorem HH
  (fill:∀ g,wpAny (model j w) A.in1.in1 (Builtin.«set.__init__» ⟨[.ref s.heap.objs.size,x],[]⟩) (λf l=>f = .done (.ret .none)/\Q (.ref s.heap.objs.size) l) E { s with heap:=s.heap.push { cls:=.type "set",dict:=none,data:=.set #[] 0 (.fresh 0 0 g) } }) :
  wpAny (model j w) A (call (.type "set") [x]) Q E s:=by
 obtain⟨c,r,d⟩:=F.called_set.mro;refine wpAny_call (codeAny_of_tree (aG ⟨Code.quiet_builtin _ (by decide +kernel),fA F.entry_type_call ?_⟩));have b:=F.called_set;have body:wpAny (model j w) A.in1 (Builtin.«type.__call__» ⟨[.type "set",x],[]⟩) (λf l=>match f with | .done f=>wants Q E (.ok f) l | .again h=>h.quiet=true/\codeAny (model j w) A h (wants Q E) l) (λe l=>wants Q E (.error e) l) s:=by
  unfold Builtin.«type.__call__»;dsimp only;rw[b.notType];simp only[dR,fR,b.canCreate];refine aB (gS (F.typeCall_set_1 x) (aB (gS d ?_)));rw[aN (show ¬ (c::r).isEmpty=true from bG)];refine aB (gS b.made (aB (aG (aB (bX (wpAny_call (code_set_new_1 x λg=>?_)))))));have a:Shared.TypeIs { s with heap:=s.heap.push { cls:=.type "set",dict:=none,data:=.set #[] 0 (.fresh 0 0 g) } } (.ref s.heap.objs.size) "set" := ⟨_,bA _ rfl,rfl⟩;refine aB (cU a b.sub ?_);rw[aN (show ¬ (!true)=true from bG)];refine aB (bX (cA a b.init (wpAny_call (codeAny_call_builtin b.init.plain F.entry_set_init (check_set_init_1 a ?_)))));refine cS (fill g) (λf l q=>?_) λ_ _ q=>q
  obtain⟨rfl,q⟩:=q;exact aG q
 exact body
theorem OK {S:Ad}(p:s.heap.IsList l C)
  (o:codeAny (model g w) A (.builtin "set.update.loop" ⟨[.ref S,.ref s.heap.objs.size],[]⟩) (λr j=>match r with | .ok (.ret _)=>Q () j | .ok _=>False | .error e=>E e j) { s with heap:=s.heap.push { cls:=.type "list_iterator",data:=.fields #[.ref l,.int 0 0] } }) :
  wpAny (model g w) A (Builtin.Frozenset.updateFrom "set.__init__" S (.ref l)) Q E s:=by
 have a:wpAny (model g w) A (Builtin.Frozenset.isAnySet (.ref l)) (λb j=>b=false/\j=s) E s :=
  aB (cU p.typeIs F.sub_list_set (cU p.typeIs F.sub_list_frozenset ⟨rfl,rfl⟩))
 refine aB (cS a (λb j q=>?_) λ_ _ q=>q);obtain⟨rfl,rfl⟩:=q;refine aB (eS p.typeIs (aB (fG p (aB (wpAny_runValue ?_)))));exact codeAny_mono o λr j q=>by
  match r,q with
  | .ok (.ret v),q=>exact aG q
  | .error e,q=>exact q
abbrev C6 (g:Bool):Obj:={ cls:=.type "set",dict:=none,data:=.set #[] 0 (.fresh 0 0 g) }
theorem JH {S:Ad}(o:s.heap.get? S=some (C6 g))
  (fill:wpAny (model j w) A (Builtin.Frozenset.updateFrom "set.__init__" S x) (λ_ l=>Q (.done (.ret .none)) l) E s) :
  wpAny (model j w) A (Builtin.«set.__init__» ⟨[.ref S,x],[]⟩) Q E s:=by
 unfold Builtin.«set.__init__»;generalize Builtin.Frozenset.updateFrom=up at fill |-
 wp_walk
 exact cS fill (λ_ _ q=>aG q) λ_ _ q=>q
theorem BE (z:StrsAre g j):j.length=g.length:=by
 induction z with
 | nil=>rfl
 | cons _ _ _ a=>rw[bS,bS,a]
theorem OL (z:StrsAre g j):∀ {i:Nat}{v:Ac},g[i]?=some v->∃ x t,j[i]?=some x/\v = .str x t:=by
 induction z with
 | nil=>intro i v e;cases e
 | cons x t _ a =>
  intro i v e
  match i,e with
  | 0,e=>exact⟨x,t,rfl,(bN e).symm⟩
  | i+1,e=>exact a (i:=i) e
theorem Tr {s g:Ae}(a:g.gens=s.gens) (b:g.drawn=s.drawn) (c:g.os=s.os):g={ s with heap:=g.heap,toks:=g.toks }:=by
 cases s;cases g;cases a;cases b;cases c;rfl
theorem Wu (T:A.handled=none) (C:s.heap.IsList l items) (I:StrsAre items.toList p) (J:items.size+1<scanBound)
  (h:∀ (r:Ag) (U:Nat),r.SetOf (PySem.strKind j w) s.heap.objs.size (λx=>decide (x∈oF p)) (oF p).length->(∀ b o,b<s.heap.objs.size->s.heap.get? b=some o->r.get? b=some o) ->Q (.ref s.heap.objs.size) { s with heap:=r,toks:=U }):wpAny (model j w) A (call (.type "set") [.ref l]) Q E s:=by
 refine HH λg=>JH (bA _ rfl) (OK (C.push _) ?_)
 have two:(s.heap.push (C6 g)).objs.size=s.heap.objs.size+1:=cE ..;have lt:l<s.heap.objs.size:=by
  obtain⟨o,e,_⟩:=C;exact aY e
 have d:l≠(s.heap.push (C6 g)).objs.size:=by
  rw[two];exact bH (Nat.lt_succ_of_lt lt)
 have f:s.heap.objs.size∉[(s.heap.push (C6 g)).objs.size,l]:=λz=>by
  rw[two] at z;rcases aI.mp z with q | q
  .exact bH (Nat.lt_succ_self _) q
  .exact gU lt (aZ.mp q)
 have len:p.length=items.size:=by rw[BE I,fH]
 have item:∀ (i:Nat) (v:Ac),items[i]?=some v->∃ x t,p[i]?=some x/\v = .str x t:=λi v e=>OL I (by rw[fB];exact e)
 have empty:((s.heap.push (C6 g)).push { cls:=.type "list_iterator",data:=.fields #[.ref l,.int 0 0] }).SetOf (PySem.strKind j w) s.heap.objs.size (λx=>decide (x∈oF (p.take 0))) (oF (p.take 0)).length :=
  Pe ((setObjOf_fresh (knd:=PySem.strKind j w) g).setOf (aK _ (bA _ rfl)) (by unfold scanBound;omega)) (λ_=>by simp[oF]) (by simp[oF])
 refine Wm ((Walks.list (by simp[T]) _ l d items).toS) s.heap.objs.size f p len item J items.size 0 _ (by omega) (dL _) ⟨⟨_,bA _ rfl,rfl,rfl⟩,(C.push _).push _⟩ empty λa c fin=>?_
 have res:=h a.heap a.toks fin λb o k e=>c.heap b o (λz=>?_) (aK _ (aK _ e))
 .rw[show a={ s with heap:=a.heap,toks:=a.toks } from Tr c.gens c.drawn c.os];exact⟨rfl,res⟩
 .rcases aI.mp z with q | q
  .exact bH k q
  .have q:=aZ.mp q;rw[two] at q;exact bH (Nat.lt_succ_of_lt k) q
end
end PySem
namespace L2
open PySem PySem.Spec PyProof.Rows
section
variable {X:Cx}
def Be (P:Ah) (w:World) (a:Ad) (n:Nat):HO:=.ext λh=>∃ S,h.SetOf (PySem.strKind P w) a S n
theorem Yk (l:X.calm=true):nK X (.type "set") (λj H Q=>∃ (p:Ad) (g:Aa Af),j=[.ref p]/\lO X.K H p (g.map V.str)/\g.length<=4000/\∀ a,H a=none->Q (.ref a) (upd H a (Be X.prog X.w a (oF g).length))):=by
 intro f s N H j M Q I r h;obtain⟨p,g,rfl,y,L,q⟩:=h;obtain⟨u,rfl,D⟩:=qM r;cases D;obtain⟨A,i,B,_⟩:=I.list y;have c:=i.length;rw[aA] at c;refine Wu (I.ok.hd l) B.isList (by simpa using L9 i) (by rw[aX];unfold scanBound;omega) λv E d x=>?_
 have hex:∃ o,v.get? s.heap.objs.size=some o:=by obtain⟨o,_,_,_,e,_⟩:=d;exact⟨o,e⟩
 refine⟨.ref s.heap.objs.size,_,I.laid (a:=s.heap.objs.size) (o:=Be X.prog X.w s.heap.objs.size (oF g).length) (t':=E) (λb o e=>x b o (aY e) e) (aW _) ?_,rfl,q _ I.fresh⟩;refine⟨⟨_,d⟩,hex,λF G ⟨S,z⟩ k=>⟨S,?_⟩⟩;obtain⟨o,n,m,t,e,rest⟩:=z;exact⟨o,n,m,t,k o e,rest⟩
theorem LA:nK X (.builtin "len") (λg H Q=>∃ (a:Ad) (n:Nat),g=[.ref a]/\H a=some (Be X.prog X.w a n)/\Q (.int n) H):=by
 intro b s x H g v Q I r h;obtain⟨a,n,rfl,d,q⟩:=h;obtain⟨u,rfl,i⟩:=qM r;cases i;obtain⟨⟨S,o,c,k,t,e,ex,hd,_,_,m,f,rfl⟩,_⟩:=I.hok a _ d;refine call_len_set e ex hd f ?_ ⟨.int c.size,H,I.tok _,⟨_,rfl⟩,q⟩;have:scanBound=4096:=rfl;omega
end
end L2
namespace PySem
open PyProof.Rows L2
theorem Ao:entryFor table "dict.update.loop" = some Builtin.«dict.update.loop»:=entryFor_of_tree (by kernel_rfl)
theorem uC:plainId "dict.update.loop" = true:=by decide +kernel
theorem MK:typeLookup (.type "list") "keys" = pure none:=am_miss_of_fast (by decide +kernel)
section
theorem MF {sl:Array (Ab Ac)}
  (l:s.heap.get? a=some { cls:=.type "list",dict:=none,data:=.seq j n,slots:=sl }) (calm:A.handled=none) (o:∀ p r e,Heap.NewAttrErr s.heap p e (.ref a) "keys" -> E (.ref e) { s with heap:=p,toks:=r }) :
  wpAny (model g w) A (boundAndCalled (.builtin "list.__getattribute__") (.ref a) (.str "keys" u)) Q E s:=by
 have ask:wpAny (model g w) A (call (.builtin "list.__getattribute__") [.ref a,.str "keys" u]) Q E s :=
  gX iT ⟨_,l,rfl⟩ am_entry_list_getattribute (F.args_list_getattribute_2 _ _) (meets_getattribute_miss_list a j n sl "keys" u MK (by decide +kernel)) ⟨l,calm,o⟩
 unfold boundAndCalled;rw[iT.bind (.ref a)];exact aB (aG ask)
theorem AV (t:s.TypeIs (.ref e) "AttributeError") (j:E (.ref e) s) :
  wpAny (model g w) A (getattributeRaised o name (.type "list") (.ref e) none false false) Q E s:=by
 have last:wpAny (model g w) A (hookOrError o name (.ref e) false false none) Q E s:=aB (wpAny_throw j);have a:hookBehind (.type "list") none=pure none:=am_list_getattr_none;unfold getattributeRaised;refine aB (cU t jA ?_);rw[aT rfl,a];exact aB (aG last)
theorem Z7 {sl:Array (Ab Ac)}
  (l:s.heap.get? a=some { cls:=.type "list",dict:=none,data:=.seq I n,slots:=sl }) (calm:A.handled=none) (C:∀ j p e,Heap.NewExcOf s.heap j e "AttributeError" -> Q none { s with heap:=j,toks:=p }) :
  wpAny (model g w) A (getAttr? (.ref a) "keys") Q E s:=by
 have c:∀ j p e,Heap.NewAttrErr s.heap j e (.ref a) "keys" -> (∃ o,j.get? e=some o/\o.cls = .type "AttributeError")/\Q none { s with heap:=j,toks:=p }:=λj p e x=>by
  obtain⟨_,_,y⟩:=x.there;exact⟨⟨_,y,rfl⟩,C j p e x.of⟩
 let d:Ae:={ s with toks:=s.toks+1 };let b:Except Ac Ac->Ae->Prop:=λr i=>wpAny (model g w) A (match r with | .ok v=>pure (some v) | .error e=>do if <- isInstance e (.type "AttributeError") then pure none else throw e) Q E i
 have gD:wpAny (model g w) A (getAttrBy (.ref a) (.str "keys" s.toks) false) (λv=>b (.ok v)) (λe=>b (.error e)) d:=by
  refine bX (aB (eS (T := "list") ⟨_,l,rfl⟩ (aB (gS iT.lookup ?_))));have own:wpAny (model g w) A (getAttrByItsOwn (.ref a) (.str "keys" s.toks) (.type "list") (.builtin "list.__getattribute__") false false) (λv=>b (.ok v)) (λe=>b (.error e)) d:=by
   refine aB (aG (aB (dN (bX (MF (s:=d) l calm λj p e x=>?_)))));obtain⟨⟨o,f,h⟩,q⟩:=c j p e x;exact AV ⟨o,f,h⟩ (aB (cU (T := "AttributeError") ⟨o,f,h⟩ jA (aG q)))
  exact own
 exact aB (wpAny_mkText (aB (dN gD)))
end
section
variable {R:Result->Ae->Prop}{P:Nat->Ac->Prop}{St:Nat->Ae->Prop}
theorem DM (W:WalksS j w A.in1 J fp l G n P St) (d:Ad) (I:d∉fp) (C:Ag) (M:Nat->Ag->Prop) (U:∀ i h p,(∀ b o,b∉l->h.get? b=some o->p.get? b=some o)->M i h->M i p)
  (hT:∀ i v,i<n->P i v->∃ (t:Ad) (o:Obj) (m:Nat) (r x:Ac),v = .ref t/\t∉d::l/\C.get? t=some o/\o.cls = .type "tuple" /\ o.data = .seq #[r,x] m /\ ∀ (s:Ae) (Q:Unit->Ae->Prop) (E:Ac->Ae->Prop),(∀ b o,b∉d::l->C.get? b=some o->s.heap.get? b=some o)->M i s.heap ->(∀ p c,M (i+1) p->Heap.SameBut d s.heap p->Q () { s with heap:=p,toks:=s.toks+c })->wpAny (model j w) A.in1 (dictSet d r x) Q E s) :
  ∀ (k i:Nat) (s:Ae),n-i=k->i<=n->St i s->(∀ b o,b∉d::l->C.get? b=some o->s.heap.get? b=some o)->M i s.heap ->
   (∀ g,Moved (d::l) G s g->M n g.heap->R (.ok (.ret .none)) g) ->
   codeAny (model j w) A (.builtin "dict.update.loop" ⟨[.ref d,.ref J,.int (i:Int) 0,.none],[]⟩) R s:=by
 have q:∀ b∈l,b∈d::l:=λb z=>aM _ z
 intro k;induction k with
 | zero =>
  intro i s hk hi st f L K;have ei:i=n:=by omega
  subst ei;refine fA Ao ?_;rw[dQ uC _];show wpAny _ A.in1 (pyNext (.ref J) >>= _) _ _ s;refine aB (W.done s _ _ st λg D=>?_);show wpAny _ A.in1 (Builtin.Dict.addKeywords d [] >>= _) _ _ g;exact aB (aG (aG (K g (D.mono q) (U _ _ _ D.heap L))))
 | succ k ih =>
  intro i s hk hi st f L K;have B:i<n:=by omega
  refine fA Ao ?_;rw[dQ uC _];show wpAny _ A.in1 (pyNext (.ref J) >>= _) _ _ s;refine aB (W.item i s _ _ B st λv g hv Z D=>?_);obtain⟨t,o,m,r,x,rfl,ht,V,O,S,put⟩:=hT i v B hv;have a:∀ b o,b∉d::l->C.get? b=some o->g.heap.get? b=some o:=λb o u e=>D.heap b o (λz=>u (q _ z)) (f b o u e)
  have y:=a t o ht V;show wpAny _ A.in1 (holding [Value.ref t] _ >>= _) _ _ g;refine aB (bX ?_);refine aB (wpAny_tryCatch ?_);unfold Builtin.Dict.pairItems;refine aB (eS (T := "tuple") ⟨o,y,O⟩ ?_);rw[aT (by decide)];refine aB (eU y S ?_);refine aG ?_;show wpAny _ A.in1 (holding [r,x] (dictSet d r x)) _ _ g;refine bX (put g _ _ a (U _ _ _ D.heap L) λp c N Y=>?_);refine aG ⟨hX uC _,?_⟩;have e1:(rawInt ((i:Int)+1))=Value.int ((i+1:Nat):Int) 0:=by rfl
  rw[e1];refine ih (i+1) _ (by omega) B (W.frame _ g _ _ Z (fC _ _) λb u o e=>?_) (λb o u e=>?_) N λX H F=>?_
  .rw[Y.2 b (λz:b=d=>I (by rw[<- z];exact u))];exact e
  .rw[Y.2 b (λz:b=d=>u (by rw[z];exact aH))];exact a b o u e
  .refine K X (Moved.trans W.gtrans ((D.mono q).then_heap (fC _ _) λb o u e=>?_) H) F;rw[Y.2 b (λz:b=d=>u (by rw[z];exact aH))];exact e
end
section
variable {K:Type} [DecidableEq K] {knd:KeyKind prog w K}{A:Around}
abbrev Lf (l:Ad):Obj:={ cls:=.type "list_iterator",data:=.fields #[.ref l,.int 0 0] }
abbrev JI (g:Array Ac) (n:Nat) (sl:Array (Ab Ac)):Obj:={ cls:=.type "list",dict:=none,data:=.seq g n,slots:=sl }
theorem KP {sl:Array (Ab Ac)}(t:s.TypeIs (.ref d) "dict") (j:s.heap.get? l=some (JI r n sl)) (calm:A.handled=none)
  (C:∀ g o e,Heap.NewExcOf s.heap g e "AttributeError" -> Q (.again (.builtin "dict.update.loop" ⟨[.ref d,.ref g.objs.size,.int 0 0,.none],[]⟩)) { s with heap:=g.push (Lf l),toks:=o }) :
  wpAny (model prog w) A (Builtin.«dict.__init__» ⟨[.ref d,.ref l],[]⟩) Q E s:=by
 have first:wpAny (model prog w) A (Builtin.Dict.selfAndRest "__init__" ⟨[.ref d,.ref l],[]⟩) (λp b=>p=(d,[Value.ref l])/\b=s) E s:=aB (jU t (aG ⟨rfl,rfl⟩))
 have a:wpAny (model prog w) A (Builtin.Dict.updateFrom "dict.__init__" d (.ref l) [] .none) Q E s:=by
  refine aB (eS (T := "list") ⟨_,j,rfl⟩ ?_);rw[aT (by decide)];refine aB (Z7 j calm λg o e x=>?_);exact aB (lE (aB (fG ⟨_,x.keeps _ _ j,rfl,n,rfl⟩ (aG (C g o e x)))))
 exact aB (cS first (λp b q=>by obtain⟨rfl,rfl⟩:=q;exact a) λ_ _ q=>q)
def vI (s:Ae):Ae:={ s with heap:=s.heap.push { cls:=.type "dict",data:=.dict #[] } }
theorem T2 (M:Nat->Ag->Prop) (I:A.handled=none) (C:s.heap.get? l=some o) (hc:o.cls = .type "list") (hd:o.dict=none) (r:o.data = .seq items nl)
  (m0:∀ h:Ag,h.get? s.heap.objs.size=some { cls:=.type "dict",data:=.dict #[] }->M 0 h) (T:∀ i h g,(∀ b o,b<=s.heap.objs.size->h.get? b=some o->g.get? b=some o)->M i h->M i g)
  (U:∀ (i:Nat) v,items[i]?=some v->∃ (t:Ad) (o:Obj) (m:Nat) (p x:Ac),v = .ref t/\s.heap.get? t=some o/\o.cls = .type "tuple" /\ o.data = .seq #[p,x] m /\ ∀ (B:Around) (j:Ae) (Q:Unit->Ae->Prop) (E:Ac->Ae->Prop),(A.units+2<cLine->B.units<cLine)->(∀ b o,s.heap.get? b=some o->j.heap.get? b=some o)->M i j.heap ->(∀ g c,M (i+1) g->Heap.SameBut s.heap.objs.size j.heap g->Q () { j with heap:=g,toks:=j.toks+c })->wpAny (model prog w) B (dictSet s.heap.objs.size p x) Q E j)
  (h:∀ (g:Ag) (J:Nat),M items.size g->(∀ b o,s.heap.get? b=some o->g.get? b=some o)->Q (.ref s.heap.objs.size) { s with heap:=g,toks:=J }) :
  wpAny (model prog w) A (call (.type "dict") [.ref l]) Q E s:=by
 obtain⟨oc,od,Z,aa⟩:=o;cases hc;cases hd;cases r;let D:=s.heap.objs.size;have O:(vI s).heap.get? D=some { cls:=.type "dict",data:=.dict #[] }:=bA _ rfl;have ty:(vI s).TypeIs (.ref D) "dict" := ⟨_,O,rfl⟩;have old:∀ b o,s.heap.get? b=some o->(vI s).heap.get? b=some o:=λb o e=>aK _ e
 refine callType_codes F.kt_called_dict (jY _) F.entry_dict_init (kt_code_dict_new _ (Q₁:=λv N=>v = .ref D/\N=vI s) ⟨rfl,rfl⟩) λv N q=>?_
 obtain⟨rfl,rfl⟩:=q;refine⟨ty,kT _ _,KP ty (old _ _ C) (by simp[I]) λu J e x=>⟨hX uC _,?_⟩⟩;have d:D<u.objs.size:=aY (x.keeps _ _ O);have H:l<D:=aY C;have keeps:∀ b o,s.heap.get? b=some o->(u.push (Lf l)).get? b=some o:=λb o e=>aK _ (x.keeps _ _ (old b o e))
 have a:∀ {b:Ad},b<D->b∉[D,u.objs.size]:=λ{b} G z=>by
  rcases aI.mp z with q | q
  .exact bH G q
  .exact bH (Nat.lt_trans G d) (aZ.mp q)
 have n:D∉[u.objs.size,l]:=λz=>by
  rcases aI.mp z with q | q
  .exact bH d q
  .exact gU H (aZ.mp q)
 have f:(u.push (Lf l)).IsList l items:=⟨_,keeps _ _ C,rfl,nl,rfl⟩;refine DM ((Walks.list (by simp[I]) u.objs.size l (bH (Nat.lt_trans H d)) items).toS) D n s.heap M (λi h g k m=>T i h g (λb o V e=>k b o (λz=>bH (cH V d) (aZ.mp z)) e) m) (λi v _ X=>?_) items.size 0 _ (by omega) (dL _) ⟨⟨_,bA _ rfl,rfl,rfl⟩,f⟩ (λb o _ e=>keeps b o e) (m0 _ (aK _ (x.keeps _ _ O))) λj L fin=>?_
 .obtain⟨t,ot,m,p,y,rfl,P,r1,r2,put⟩:=U i v X;exact⟨t,ot,m,p,y,rfl,a (aY P),P,r1,r2,λN S R Y=>put _ N S R (λW=>by simpa using W) λb o e=>Y b o (a (aY e)) e⟩
 .have res:=h j.heap j.toks fin λb o e=>L.heap b o (a (aY e)) (keeps b o e)
  rw[show j={ s with heap:=j.heap,toks:=j.toks } from Tr L.gens L.drawn L.os];exact⟨rfl,res⟩
theorem V7 (J:A.handled=none) (T:s.heap.get? l=some o) (I:o.cls = .type "list") (hd:o.dict=none) (p:o.data = .seq items nl)
  (hn:more.length=items.size)
  (C:∀ (i:Nat) v,items[i]?=some v->∃ (t:Ad) (o:Obj) (m:Nat) (k:K) (j x:Ac),v = .ref t/\s.heap.get? t=some o/\o.cls = .type "tuple" /\ o.data = .seq #[j,x] m/\knd.is k j=true/\more[i]?=some (k,x)) (U:items.size<=sizeLine)
  (h:∀ (g:Ag) (r:Nat),g.DictOf knd s.heap.objs.size (merged [] more)->(∀ b o,s.heap.get? b=some o->g.get? b=some o)->Q (.ref s.heap.objs.size) { s with heap:=g,toks:=r }) :
  wpAny (model prog w) A (call (.type "dict") [.ref l]) Q E s:=by
 refine T2 (λi g=>g.DictOf knd s.heap.objs.size (merged [] (more.take i))) J T I hd p (λn e=>?_) (λi n y k m=>?_) (λi v H=>?_) λg r m=>h g r (by rw[bI (by omega)] at m;exact m)
 .obtain⟨z,f,d,u,rest⟩:=kC (knd:=knd) s.heap;cases u.symm.trans (bA _ rfl);exact⟨_,f,d,e,rest⟩
 .obtain⟨z,f,d,u,rest⟩:=m;exact⟨z,f,d,k _ _ (aW _) u,rest⟩
 .obtain⟨t,M,m,L,j,x,rfl,n,y,F,c,a⟩:=C i v H;refine⟨t,M,m,j,x,rfl,n,y,F,λB O Q E _ _ G k=>kK (hsz:=?_) c G λg q N=>k g 1 (by rw[merged_take_succ [] more i (L,x) a];exact q) N⟩;have D:=merged_length_le ([]:Aa (K×Ac)) (more.take i);rw[eZ,bZ] at D;omega
end
end PySem
namespace L2
open PySem PySem.Spec PyProof.Rows
section
variable {X:Cx}
def Cg (H:Hp) (j:Aa Ad) (g:Aa (hI×V)):Prop:=Paired (λt (a:hI×V)=>H t=some (.t [kV a.1,a.2])) j g
theorem MG {P:Ah}(p:nP P w H h):∀ {l:Aa Ad}{g:Aa (hI×V)},Cg H l g->∃ more:Aa (hI×Ac),KV g more /\
  ∀ (i:Nat) t,l[i]?=some t->∃ (o:Obj) (m:Nat) (k:hI) (j x:Ac),h.get? t=some o/\o.cls = .type "tuple" /\ o.data = .seq #[j,x] m/\(pC P w).is k j=true/\more[i]?=some (k,x):=by
 intro l g r;unfold Cg at r;induction r with
 | nil=>exact⟨[],.nil,λi t e=>by simp at e⟩
 | @cons t j l g d G u =>
  obtain⟨more,B,q⟩:=u;obtain⟨z,v,a,⟨o,s,f,n,b⟩,_⟩:=p t _ d;cases a with
  | @cons _ E _ K y a =>
   cases a with
   | @cons _ c _ F A a =>
    cases a;refine⟨(j.1,c)::more,.cons ⟨rfl,A⟩ B,λi D e=>?_⟩;cases i with
    | zero =>
     simp at e;subst e;exact⟨o,n,j.1,E,c,s,f,b,yD y,rfl⟩
    | succ i=>simpa using q i D (by simpa using e)
theorem Yl (l:X.calm=true):nK X (.type "dict") (λC H Q=>∃ (p:Ad) (j:Aa Ad) (g:Aa (hI×V)),C=[.ref p]/\lO X.K H p (j.map V.ref)/\Cg H j g/\g.length<=1000/\∀ d,H d=none->Q (.ref d) (upd H d (.k (pL [] g)))):=by
 intro E s σ H C us Q I r h;obtain⟨p,j,g,rfl,U,D,hz,q⟩:=h;obtain⟨u,rfl,B⟩:=qM r;cases B;obtain⟨c,F,⟨o,n,e,L,M,N⟩,_⟩:=I.list U;have f:=F.length;rw[aA] at f;have Z:j.length=g.length:=D.length;obtain⟨more,G,J⟩:=MG I.hok D;have T:=G.length;have b:∀ (i:Nat) v,c[i]?=some v->∃ t,j[i]?=some t/\v = .ref t:=by
  intro i v y;have hi:i<c.length:=(aU.mp y).1;have:i<j.length:=by omega
  obtain⟨u,hu,B⟩:=F.get (i:=i) (x:=V.ref j[i]) (by simp[this]);rw[hu] at y;cases y;cases B;exact⟨j[i],by simp[this],rfl⟩
 refine V7 (knd:=pC X.prog X.w) (more:=more) (I.ok.hd l) e L M N (by rw[aX];omega) ?_ (by rw[aX];exact eP (cH (show c.length<=1000 by omega) (by decide))) λh' tk W Y=>?_
 .intro i v y;obtain⟨t,ht,rfl⟩:=b i v (by simpa using y);obtain⟨o,m,k,kv,x,z,O,P,R,S⟩:=J i t ht;exact⟨t,o,m,k,kv,x,rfl,z,O,P,R,S⟩
 .have A:(pL [] g).length<=sizeLine:=by
   have z:=Bz g [];rw[eZ] at z;exact eP (cH (show (pL [] g).length<=1000 by omega) (by decide))
  refine⟨.ref s.heap.objs.size,_,I.laid (a:=s.heap.objs.size) (o:=.k (pL [] g)) (t':=tk) Y (aW _) ?_,rfl,q _ I.fresh⟩;exact Bo A (cO.mpr (cY (bH I.big))) (G.merge .nil) W
end
noncomputable def Kb (o:Ab Af) (N:Aa Af) (kind:Af->Ab NameKind) (g:Scope) (T j:Aa Af) (l:Aa Nat):Bool :=
 decide (g.names.filter (λp=>p.2 == .cell)=o.toList.map λn=>(n,NameKind.cell))&&o.all (λa=>g.names.lookup a == some .cell)&&g.names.all (λp=>p.2 != .free||kind p.1 == some .cell) &&
 g.names.all (λp=>p.2 != .local||g.names.lookup p.1 == some .local) &&
 (j.zip l).all (λp=>decide (N[p.2]?=some p.1)&&g.names.lookup p.1 == some .free)&&j.length == l.length
abbrev Cz:=Kb none
noncomputable def rO (T:Aa Af) (g:Aa Nat) (j:St):St:=T.map (λ_=>none)++g.map (λi=>(j[i]?).join)
noncomputable def sF (X:Cx) (p:Aa Af) (g:Scope) (o:Aa (Af×Ad)) (C:Ad) (l:Ae) (j:Hp) (r:Aa Ad):Cx :=
 { prog:=X.prog,w:=X.w,K:=X.K,mg:=X.mg,base:=X.base,A:=X.A,N:=p,s₀:=l,H₀:=j,env:=compEnvC g o C X.env,outer:=X.stack,stack:=X.stack,ex:=r, fn:=λx=>(o.lookup x).isNone,calm:=X.calm,pn:=[],xe:=λ_ _=>False }
def vU (X:Cx) (g:Aa Expr) (t:TT):Prop :=
 ∀ (a:Aa (Ad×Obj)) (s:Ae) (b:St) (H:Hp) (Q:Bool->Hp->Prop),Inv X a b H s->t b H Q ->
  wpAny (model X.prog X.w) X.A (forIn g true λc r=>if r=true then do let ok <- isTrue c X.env (eval c X.env);pure (ForInStep.yield ok) else pure (ForInStep.yield r)) (TP X a b Q) X.xe s
def wE:TT:=λ_ H Q=>Q true H
theorem vK {X:Cx}:vU X [] wE:=λa s b H Q I h=>wpAny_tests_nil ⟨H,I,h⟩
theorem T8 {X:Cx}(h:PT X c t):vU X [c] t:=λa s b H Q I hw=>wpAny_tests_one (h a s b H Q I hw)
def Ax (T:Aa Af) (j:Aa Nat) (J:It) (g:TG) (r:TT) (p:TE) (C:St) (o:Hp) (Q:VK) (D:Ad):Prop :=
 ∃ W:Nat->Nat->Aa V->St->Hp->Prop,(∃ m,W 0 m [] (rO T j C) (upd o D (.l [])))/\∀ i m c h d,W i m c h d ->
  (J.stop i d/\Q (.ref D) d)\/(J.go i d/\∃ (N:St->V->Hp->Prop) (F:St->Hp->Prop),(∀ a v k,N a v k->k D=some (.l c)/\c.length<sizeLine/\∃ f,f<m/\W (i+1) f (c++[v]) a (upd k D (.l (c++[v]))))/\(∀ a e,F a e->∃ f,f<m/\W (i+1) f c a e) /\ ∀ x n,J.yld i d x n->g x h n λa q=>r a q λb e=>if b=true then p a e (N a) else F a e)
def xR (T:Aa Af) (j:Aa Nat) (p:TI) (g:TG) (o:TT) (l:TE):TE:=λb H Q=>p b H λJ a=>∀ D,a D=none->Ax T j J g o l b a Q D
theorem Lq:∀ (names:Aa (Af×NameKind)) (g:Aa (Af×Ad)),(∀ p∈names,p.2 = .free->∃ c,env.cells.lookup p.1=some c) ->
  (∀ x c,g.lookup x=some c->env.cells.lookup x=some c) ->
  ∃ j,(forIn names g λx r=>if (x.2 == NameKind.free)=true then (cellOf env x.1 >>= λa=>pure (ForInStep.yield ((x.1,a)::r))) else pure (ForInStep.yield r):Sem (Aa (Af×Ad)))=pure j /\
   (∀ x c,j.lookup x=some c->env.cells.lookup x=some c)/\(∀ x,(x,NameKind.free)∈names->(j.lookup x).isSome=true)/\(∀ x,(g.lookup x).isSome=true->(j.lookup x).isSome=true)
 | [],g,_,i=>⟨g,rfl,i,λx h=>by simp at h,λ_ h=>h⟩
 | (n,k)::r,g,v,i=>by
  by_cases w:k = .free
  .subst w;obtain⟨c,z⟩:=v (n,.free) aH rfl;have u:∀ x d,((n,c)::g).lookup x=some d->env.cells.lookup x=some d:=by
    intro x d h;rw[dJ] at h;cases e:x == n with
    | true=>rw[e] at h;have:=iG.mp e;subst this;cases h;exact z
    | false=>rw[e] at h;exact i x d h
   obtain⟨j,m,s,t,f⟩:=Lq r ((n,c)::g) (λp y=>v p (aM _ y)) u;have A:(((n,c)::g).lookup n).isSome=true:=by rw[dJ];simp
   refine⟨j,?_,s,λx b=>?_,λx b=>f x ?_⟩
   .rw[kE];simp only[gO,gE];have:cellOf env n=pure c:=by unfold cellOf;rw[z]
    rw[this];exact m
   .rcases aI.mp b with q | q
    .cases q;exact f _ A
    .exact t x q
   .rw[dJ];cases e:x == n with
    | true=>rfl
    | false=>exact b
  .obtain⟨j,m,s,t,f⟩:=Lq r g (λp y=>v p (aM _ y)) i;refine⟨j,?_,s,λx b=>?_,f⟩
   .rw[kE];have:(k == NameKind.free)=false:=by simpa using w
    simp only[this,dR,fR];exact m
   .rcases aI.mp b with q | q
    .cases q;exact absurd rfl w
    .exact t x q
theorem Wh (o:∀ p∈g.names,p.2 = .free->∃ c,j.cells.lookup p.1=some c) :
  ∃ l,closureFor g j=pure l/\(∀ x c,l.lookup x=some c->j.cells.lookup x=some c)/\(∀ x,(x,NameKind.free)∈g.names->(l.lookup x).isSome=true):=by
 obtain⟨l,e,d,f,_⟩:=Lq (env:=j) g.names [] o (λx c h=>by simp at h);refine⟨l,?_,d,f⟩;simp only[closureFor];have b:(forIn g.names [] λx r=>if (x.2 == NameKind.free)=true then (cellOf j x.1 >>= λa=>pure (ForInStep.yield ((x.1,a)::r))) else pure (ForInStep.yield r):Sem (Aa (Af×Ad)))=pure l:=e
 first
  | exact b
  | (simp only[bind_pure];exact b)
theorem MZ (h:g.names.lookup x=some k):∃ j,(relabel g env).names.lookup x=some j/\(j=k\/(k = .free/\j = .cell)):=by
 have:∀ names:Aa (Af×NameKind),names.lookup x=some k->∃ j,(names.map λ(p:Af×NameKind)=>match p with | (n,k)=>if (k == NameKind.free&&env.scope.kind == .function&&env.kindOf n == some .cell) then (n,NameKind.cell) else (n,k)).lookup x=some j/\(j=k\/(k = .free/\j = .cell)):=by
  intro names;induction names with
  | nil=>intro h;simp at h
  | cons p r b =>
   obtain⟨n,c⟩:=p;intro h;rw[aP];by_cases a:(c == NameKind.free&&env.scope.kind == .function&&env.kindOf n == some .cell)=true
   .simp only[a,gE];rw[dJ] at h |-;cases e:x == n with
    | true =>
     rw[e] at h;cases h;have:k=NameKind.free:=by
      have:=(cN _ _).mp ((cN _ _).mp a).1;exact iG.mp this.1
     exact⟨_,rfl,.inr ⟨this,rfl⟩⟩
    | false=>rw[e] at h;exact b h
   .simp only[a,fR];rw[aN (by simp)];rw[dJ] at h |-;cases e:x == n with
    | true=>rw[e] at h;cases h;exact⟨_,rfl,.inl rfl⟩
    | false=>rw[e] at h;exact b h
 exact this g.names h
theorem KR {R:Result->Ae->Prop}{iter:Expr}(I:Nat->Ae->Prop)
  (ae:∀ n s,I n s->wpAny (model g w) A (pyNext it) (λr l=>match r with
   | none=>R (.ok .next) l
   | some v=>wpAny (model g w) A (letOwnedTupleGo target it v) (λ_ o=>wpAny (model g w) A (assign target j v) (λ_ C =>
     wpAny (model g w) A (forIn ac true λc r=>if r=true then do let ok <- isTrue c j (eval c j);pure (ForInStep.yield ok) else pure (ForInStep.yield r)) (λok p =>if ok=true then wpAny (model g w) A (eval ab j) (λx J =>wpAny (model g w) A (call (.builtin "list.append") [aa,x]) (λ_ T=>∃ m,m<n/\I m T) (λ_ _=>False) J) (λ_ _=>False) p else ∃ m,m<n/\I m p) (λ_ _=>False) C) (λ_ _=>False) o) (λ_ _=>False) l) (λ_ _=>False) s)
  (n:Nat) (h:I n s) :
  codeAny (model g w) A (.compLoop (.ListComp ab [⟨target,iter,ac,0⟩] U pos) 0 it aa j) R s:=by
 refine codeAny_loop rfl I (λn s q=>?_) n h;show wpAny _ A ((compTurn (.ListComp ab [⟨target,iter,ac,0⟩] U pos) 0 it aa j).onRaise (λx=>do noteFrame x j;theTreesLotGoes x)) _ _ s;refine wpAny_noted ?_;rw[compTurn_list];refine aB (kZ (aB (cS (ae n s q) (λr l b=>?_) λ_ _ a=>a.elim)));cases r with
 | none=>exact aG b
 | some v =>
  refine aB (cS b (λ_ o e=>?_) λ_ _ a=>a.elim);refine aB (cS e (λ_ C f=>aB (cS f (λok p d=>?_) λ_ _ a=>a.elim)) λ_ _ a=>a.elim);cases ok with
  | false=>exact aG ⟨rfl,d⟩
  | true =>
   exact aB (aB (cS d (λx J i=>aB (cS i (λ_ T k=>aG (aG ⟨rfl,k⟩)) λ_ _ a=>a.elim)) λ_ _ a=>a.elim))
structure LcO (nw:Option Str) (N:List Str) (kind:Str->Option NameKind) (scope:Scope) (capN:List Str) (caps:List Nat):Prop where
 one:scope.names.filter (λp=>p.2 == .cell)=nw.toList.map λn=>(n,NameKind.cell)
 cel:∀ nm,nw=some nm->scope.names.lookup nm=some .cell
 free:∀ p∈scope.names,p.2 = .free->kind p.1=some .cell
 loc:∀ p∈scope.names,p.2 = .local->scope.names.lookup p.1=some .local
 cap:∀ (j:Nat) (x:Str),capN[j]?=some x->∃ i:Nat,caps[j]?=some i/\N[i]?=some x/\scope.names.lookup x=some .free
 len:capN.length=caps.length
theorem Te (h:Kb r N kind o T l g=true):LcO r N kind o l g:=by
 unfold Kb at h;simp only[cN] at h;obtain⟨⟨⟨⟨⟨d,c⟩,f⟩,k⟩,m⟩,n⟩:=h;have q:l.length=g.length:=iG.mp n;refine⟨cW d,λu e=>?_,λp a e=>?_,λp a e=>?_,λj x e=>?_,q⟩
 .rw[e] at c;exact iG.mp c
 .have:=cG.mp f p a;rw[e] at this
  simpa using this
 .have:=cG.mp k p a;rw[e] at this
  simpa using this
 .have t:j<l.length:=(aU.mp e).1;have b:g[j]?=some (g[j]'(by omega)):=aQ (by omega);have s:(x,g[j]'(by omega))∈l.zip g:=aO (i:=j) (by rw[iN];exact⟨e,b⟩);have:=cG.mp m _ s;simp only[cN,eV,iG] at this;exact⟨_,b,this.1,this.2⟩
theorem LcO.only (h:LcO o N kind g j l) (x:Af) (e:g.names.lookup x=some .cell):o=some x:=by
 have a:(x,NameKind.cell)∈g.names.filter (λp=>p.2 == .cell):=bT.mpr ⟨dO e,rfl⟩;rw[h.one] at a;cases o with
 | none=>cases a
 | some n=>rw[(Prod.mk.inj (aZ.mp a)).1]
theorem Pq:∀ {g:Scope},(relabel g j).names.lookup x=some k->(k = .cell\/k = .free)->g.names.lookup x=some .cell\/g.names.lookup x=some .free:=by
 intro g;unfold relabel;have all:∀ names:Aa (Af×NameKind),(names.map λ(n,k)=>if (k == NameKind.free&&j.scope.kind == .function&&j.kindOf n == some .cell) then (n,NameKind.cell) else (n,k)).lookup x=some k->(k = .cell\/k = .free)->names.lookup x=some .cell\/names.lookup x=some .free:=by
  intro names;induction names with
  | nil=>intro h _;simp at h
  | cons p r d =>
   intro h b;obtain⟨n,e⟩:=p;rw[aP] at h;rw[dJ];cases c:x == n with
   | true =>
    by_cases a:(e == NameKind.free&&j.scope.kind == .function&&j.kindOf n == some .cell)=true
    .simp only[cN,iG] at a;exact .inr (by rw[a.1.1])
    .simp only[a,dR,fR,dJ,c] at h;cases h;rcases b with q | q
     .exact .inl (by rw[q])
     .exact .inr (by rw[q])
   | false =>
    by_cases a:(e == NameKind.free&&j.scope.kind == .function&&j.kindOf n == some .cell)=true
    .simp only[a,gE,dJ,c] at h;exact d h b
    .simp only[a,dR,fR,dJ,c] at h;exact d h b
 exact all g.names
theorem L3:∀ (names:Aa (Af×NameKind)) (n:Nat) (g:Aa (Af×Ad)) (h:Ag),names.filter (λp=>p.2 == .cell)=[]->cellsFrom n names g=g/\pushCells h names=h
 | [],_,_,_,_=>⟨rfl,rfl⟩
 | (y,k)::r,n,g,h,e=>by
  unfold cellsFrom pushCells;by_cases a:(k == NameKind.cell)=true
  .rw[List.filter_cons_of_pos (by exact a)] at e;cases e
  .rw[List.filter_cons_of_neg (by exact a)] at e;rw[aN a,aN a];exact L3 r n g h e
theorem Qk:∀ (names:Aa (Af×NameKind)) (n:Nat) (g:Aa (Af×Ad)) (h:Ag),names.filter (λp=>p.2 == .cell)=[(j,.cell)]->cellsFrom n names g=(j,n)::g/\pushCells h names=h.push { cls:=.type "cell",data:=.cell none }
 | [],_,_,_,e=>by cases e
 | (y,k)::r,n,g,h,e=>by
  unfold cellsFrom pushCells;by_cases a:(k == NameKind.cell)=true
  .rw[List.filter_cons_of_pos (by exact a)] at e;have b:=(eI e).1;have c:=(eI e).2;rw[aT a,aT a];have:=L3 r (n+1) ((y,n)::g) (h.push { cls:=.type "cell",data:=.cell none }) c;rw[this.1,this.2,(Prod.mk.inj b).1];exact⟨rfl,rfl⟩
  .rw[List.filter_cons_of_neg (by exact a)] at e;rw[aN a,aN a];exact Qk r n g h e
def zN (g:Ab Af) (C:Ad):Aa (Af×Ad):=match g with
 | none=>[]
 | some a=>[(a,C+1)]
theorem GQ {globals:Ad}(one:g.names.filter (λp=>p.2 == .cell)=T.toList.map λn=>(n,NameKind.cell))
  (h:∀ j,j.Ns s.heap.objs.size (λ_=>none)->(∀ J,T=some J->j.IsCell (s.heap.objs.size+1) none)->(∀ b o,s.heap.get? b=some o->j.get? b=some o) ->Q { scope:=g,locals:=s.heap.objs.size,globals:=globals,cells:=zN T s.heap.objs.size++r,qual:=C,func:=none,code:=l.code,frame:=l.frame,builtins:=l.builtins } { s with heap:=j }) :
  wpAny M A (newFunctionEnv g globals r [] C none .none (some l)) Q E s:=by
 simp only[newFunctionEnv,kS,gE];refine aB (wpAny_alloc ?_);refine aB (wpAny_layCells _ (λname kind I=>by cases i:kind == NameKind.cell<;>simp[i]) _ _ _ _ ?_);have z:(s.heap.push { cls:=.type "dict",data:=.dict #[] }).objs.size=s.heap.objs.size+1:=cE ..;have a:=Heap.Ns.new s.heap (.type "dict");show wpAny M A _ Q E _;cases T with
 | none =>
  obtain⟨c,f⟩:=L3 g.names (s.heap.push { cls:=.type "dict",data:=.dict #[] }).objs.size r (s.heap.push { cls:=.type "dict",data:=.dict #[] }) one;rw[c,f];exact aB (aG (aG (h _ a (λ_ e=>nomatch e) λb o e=>aK _ e)))
 | some J =>
  obtain⟨c,f⟩:=Qk g.names (s.heap.push { cls:=.type "dict",data:=.dict #[] }).objs.size r (s.heap.push { cls:=.type "dict",data:=.dict #[] }) one;have d:cellsFrom ({ s with heap:=s.heap.push { cls:=.type "dict",data:=.dict #[] } }:Ae).heap.objs.size g.names r=(J,s.heap.objs.size+1)::r:=by rw[<- z];exact c
  rw[d,f];refine aB (aG (aG (h _ (a.keeps λb o e=>aK _ e) (λ_ _=>?_) λb o e=>aK _ (aK _ e))));exact⟨_,by rw[<- z];exact bA _ rfl,rfl⟩
noncomputable def KU (j:Ab Af) (g:Aa (Af×Ad)):Af->Bool:=match j with
 | none=>λx=>(g.lookup x).isNone
 | some a=>λx=>x == a||(g.lookup x).isNone
def uM (p:Ab Af) (X:Cx) (r:Aa Af) (g:Scope) (o:Aa (Af×Ad)) (C:Ad) (l:Ae) (j:Hp) (I:Aa Ad):Cx :=
 { prog:=X.prog,w:=X.w,K:=X.K,mg:=X.mg,base:=X.base,A:=X.A,N:=r,s₀:=l,H₀:=j,env:=compEnvC g (zN p C++o) C X.env,outer:=X.stack,stack:=X.stack,ex:=I, fn:=KU p o,calm:=X.calm,pn:=[],xe:=λ_ _=>False }
section
variable {X:Cx}
theorem Inv.moved {t':Nat}{fp:Aa Ad}(I:Inv X g p H s) (j:∀ b∈fp,sR X g H b) (k:∀ b o,b∉fp->s.heap.get? b=some o->l.get? b=some o):Inv X g p H { s with heap:=l,toks:=t' }:=by
 have d:∀ b u,H b=some u->b∉fp:=λb u e z=>by rw[(j b z).1] at e;cases e
 refine I.step (g':=s.gens) (d':=s.drawn) (ch:=fp) (λb f=>⟨(j b f).2.2.2.1,(j b f).2.1,(j b f).2.2.2.2.1,(j b f).2.2.2.2.2⟩) (λb o _ _ a e _=>k b o a e) (λb o _ _ a e _=>⟨o.slots,k b o a e⟩) (λ_ _ _ _ n=>n)
  (λb o a e=>⟨o,k b o a e⟩) (λ_ _ e=>e) (λ_ _ _ e=>e) (λb x e=>⟨#[],by rw[e];simp⟩) (λm t=>?_) (λb u e=>?_) I.bare
 .obtain⟨o,i,h,w,r⟩:=t;exact⟨o,i,h,k _ o (λz=>(j _ z).2.1 rfl) w,r⟩
 .refine (I.hok b u e).stay (λc v a q=>k c v ?_ q) (λ_ q=>q) λ_ _ q=>q
  rcases a with z | z
  .rw[z];exact d b u e
  .exact d c _ z
end
section
variable {X:Cx}
theorem Oe {iter:Expr}(T U:Aa Af) (aa:Aa Nat) (hc:X.calm=true) (hi:PI X tg iter wi)
  (hk:j.kind = .function) (O:LcO nw X.N X.env.kindOf j U aa)
  (hg:∀ ae ab C cl fp,PG (uM nw X (T++U) j cl C ae ab fp) tg g)
  (ht:∀ ae ab C cl fp,vU (uM nw X (T++U) j cl C ae ab fp) af tt)
  (he:∀ ae ab C cl fp,PE (uM nw X (T++U) j cl C ae ab fp) a4 te)
  (hs:∀ x,foldedSetIterable iter X.env x=pure x)
(I:Inv X ac σ H s) (h:xR T aa wi g tt te σ H Q)
  (fin:∀ (C D:Ad) (s6:Ae) (H5:Hp),Inv X ac σ H5 s6->Q (.ref D) H5->sR X ac H5 C->(∃ m,s6.heap.Ns C m)->compPost (model X.prog X.w) X.A X.xe a2 Qs (.ref D) C (.ok .next) s6) :
  wpAny (model X.prog X.w) X.A (comprehension (.ListComp a4 [⟨tg,iter,af,0⟩] j pos) j X.env (firstIterPos [⟨tg,iter,af,0⟩] pos) (newList []) (firstAsync [⟨tg,iter,af,0⟩]) (firstIter [⟨tg,iter,af,0⟩] X.env) a2) Qs X.xe s:=by
 have ax:∀ p∈j.names,p.2 = .free->∃ c,X.env.cells.lookup p.1=some c:=λp hp e=>I.ok.has p.1 (.inl (O.free p hp e))
 obtain⟨cl,aw,P,a3⟩:=Wh ax;refine wpAny_comprehension_free (use:=a2) rfl hs aw hk O.loc (lQ (hi ac s σ H _ I h) λv s1 h1=>lQ h1 λb4 s2 h2=>?_);obtain⟨it,fp,tn,J,H2,rfl,I2,B,bb,f2,hD⟩:=h2;refine eT ?_;have f:Inv X ac σ (upd H2 s2.heap.objs.size (.l [])) { s2 with heap:=s2.heap.push { cls:=.type "list",data:=.seq ([]:Aa Ac).toArray } }:=I2.lnew (t':=s2.toks) (its:=[]) (ys:=[]) .nil (dL _);have fD:H2 s2.heap.objs.size=none:=I2.fresh;obtain⟨W,⟨m0,w0⟩,ao⟩:=hD s2.heap.objs.size fD;generalize bo:s2.heap.objs.size=D at f fD w0 ao |-;have bz:tn 0 (s2.heap.push { cls:=.type "list",data:=.seq ([]:Aa Ac).toArray }):=B.keep _ _ _ bb λb _ o e=>aK _ e
 have a9:∀ b∈fp,b<D:=λb a=>by
  obtain⟨o,e,_⟩:=B.obj _ _ bb b a;rw[<- bo];exact aY e
 generalize bt:({ s2 with heap:=s2.heap.push { cls:=.type "list",data:=.seq ([]:Aa Ac).toArray } }:Ae)=K at f |-;have ag:tn 0 K.heap:=by rw[<- bt];exact bz
 generalize bp:upd H2 D (.l [])=M at f w0;have f3:∀ b∈fp,sR X ac M b:=λb a=>by
  obtain⟨z0,z⟩:=f2 b a;exact⟨by rw[<- bp,lS (bH (a9 b a))];exact z0,z⟩
 refine GQ O.one (λZ V S old=>?_);have av:M K.heap.objs.size=none:=f.fresh;have ak:M (K.heap.objs.size+1)=none:=f.hok.fresh (iE _);generalize hC:K.heap.objs.size=C at V S av ak |-;have ba:∀ b o,K.heap.get? b=some o->b≠C:=λb o e=>by rw[<- hC];exact bH (aY e)
 have a5:∀ b∈fp,b≠C:=λb a=>by
  obtain⟨o,e,_⟩:=B.obj _ _ ag b a;exact ba b o e
 have a6:∀ b∈fp,b∉tX X.stack:=λb a z=>by
  rcases aI.mp (f.stkSub b z) with q | q
  .exact (f3 b a).2.1 q
  .exact (f3 b a).2.2.1 q
 have bm:∀ b∈fp,b<C:=λb a=>by
  obtain⟨o,e,_⟩:=B.obj _ _ ag b a;rw[<- hC];exact aY e
 have gD:∀ x c,(zN nw C++cl).lookup x=some c->(nw=some x/\c=C+1)\/(nw≠some x/\cl.lookup x=some c):=λx c e=>by
  cases nw with
  | none=>exact .inr ⟨(λz=>nomatch z),e⟩
  | some nm =>
   have e:((nm,C+1)::cl).lookup x=some c:=e;rw[dJ] at e;cases a:x == nm with
   | true=>rw[a] at e;cases e;exact .inl ⟨by rw[iG.mp a],rfl⟩
   | false=>rw[a] at e;exact .inr ⟨(λz=>by cases z;simp at a),e⟩
 have lift:∀ x c,nw≠some x->cl.lookup x=some c->(zN nw C++cl).lookup x=some c:=λx c n e=>by
  cases nw with
  | none=>exact e
  | some nm =>
   show ((nm,C+1)::cl).lookup x=some c;rw[dJ,show (x == nm)=false from cO.mpr λz=>n (by rw[z])];exact e
 have ai:∀ x c,cl.lookup x=some c->c<C:=λx c e=>by
  obtain⟨v,o,ho,_⟩:=f.cell x c (P x c e);rw[<- hC];exact aY ho
 have aj:∀ b∈fp,∀ x c,(zN nw C++cl).lookup x=some c->c≠b:=λb a x c e=>by
  rcases gD x c e with⟨_,q⟩ | ⟨_,q⟩
  .exact λz=>absurd (bm b a) (by rw[<- z,q];exact lF.mpr (iE C))
  .exact (f3 b a).2.2.2.2.1 x c (P x c q)
 have a8:(uM nw X (T++U) j cl C K M fp).Ok:=by
  refine⟨f.ok.mod,hk,f.ok.glob,f.ok.blt,lC hC,λx y c R E=>?_,λx hx=>?_,λx c R E=>?_,f.ok.hd,f.ok.frames,.inl rfl,λb a=>⟨a5 b a,λx c e=>aj b a x c e⟩,λb o e=>f.bs b o e,?_,λb o e z=>?_,λb a=>a6 b a,f.stack,f.stkFree⟩
  .rcases gD x c R with⟨q1,r1⟩ | ⟨q1,r1⟩
   .rcases gD y c E with⟨q2,r2⟩ | ⟨q2,r2⟩
    .exact bN (q1.symm.trans q2)
    .exact absurd (ai y c r2) (by rw[r1];exact lF.mpr (iE C))
   .rcases gD y c E with⟨q2,r2⟩ | ⟨q2,r2⟩
    .exact absurd (ai x c r1) (by rw[r2];exact lF.mpr (iE C))
    .exact f.ok.inj x y c (P x c r1) (P y c r2)
  .have bu:(relabel j X.env).names.lookup x=some .cell\/(relabel j X.env).names.lookup x=some .free:=hx;have hf:j.names.lookup x=some .cell\/j.names.lookup x=some .free:=by
    rcases bu with q | q
    .exact Pq q (.inl rfl)
    .exact Pq q (.inr rfl)
   show ∃ c,(zN nw C++cl).lookup x=some c;by_cases a:nw=some x
   .subst a;exact⟨C+1,by show ((x,C+1)::cl).lookup x=_;rw[dJ,gO]⟩
   .rcases hf with q | q
    .exact absurd (O.only x q) a
    .obtain⟨c,e⟩:=dD.mp (a3 x (dO q));exact⟨c,lift x c a e⟩
  .rcases gD x c E with⟨q,r⟩ | ⟨q,r⟩
   .show K.heap.objs.size<=c;rw[r,hC];exact iE C
   .cases nw with
    | none =>
     have R:(cl.lookup x).isNone=true:=R;rw[r] at R;cases R
    | some nm =>
     have R:(x == nm||(cl.lookup x).isNone)=true:=R;rw[r,show (x == nm)=false from cO.mpr λz=>q (by rw[z])] at R;cases R
  .exact cK f.ok.bsz f.sz
  .obtain⟨z0,z1,z2,z3,_⟩:=f3 b z;rcases z3 with q | q
   .exact f.ok.noex b o e q
   .exact absurd (bD (aY e) (cK f.ok.bsz q)) (eO _)
 have I4:Inv (uM nw X (T++U) j cl C K M fp) [] (rO T aa σ) M { K with heap:=Z }:=by
  refine⟨a8,rfl,f.bare,Un.kept old,⟨_,V,λi x v R E e3=>?_⟩,λx c e=>?_,av,λx c e=>?_,λp hp=>absurd (show p∈([]:Aa (Ad×Obj)) from hp) (by simp),f.hok.kept old,?_⟩
  .have R:(T++U)[i]?=some x:=R;unfold rO at E;by_cases hi:i<T.length
   .rw[iM (by simpa using hi),bC] at E;cases q:T[i]? with
    | none=>rw[q] at E;cases E
    | some z=>rw[q] at E;cases E
   .rw[eR (by omega)] at R;rw[eR (by simpa using hi),bC,aA] at E;obtain⟨k,k1,k2,k3⟩:=O.cap _ x R;rw[k1] at E;have E:(σ[k]?).join=some v:=bN E;have bj:σ[k]?=some (some v):=by
     cases q:σ[k]? with
     | none=>rw[q] at E;cases E
     | some z=>rw[q] at E;exact bY some E
    have Y:X.env.kindOf x=some .cell:=O.free (x,.free) (dO k3) rfl;obtain⟨m,hn,hl⟩:=f.loc;obtain⟨u,r,l⟩:=hl k x v k2 bj (.inr (.inl Y));refine⟨u,r,.inr ⟨?_,?_⟩⟩
    .obtain⟨k',e5,e6⟩:=MZ (env:=X.env) k3;rcases e6 with z | ⟨_,z⟩
     .subst z;exact .inr e5
     .subst z;exact .inl e5
    .rcases l with⟨l1,_⟩ | ⟨_,c,e7,o,ay,az⟩
     .rw[Y] at l1;cases l1
     .obtain⟨c',e8⟩:=dD.mp (a3 x (dO k3));have:=P x c' e8;rw[e7] at this;cases this;exact⟨c,lift x c (λz=>by rw[O.cel x z] at k3;cases k3) e8,o,old c o ay,az⟩
  .rcases gD x c e with⟨n,q⟩ | ⟨_,q⟩
   .exact⟨none,q▸S x n⟩
   .obtain⟨v,o,ay,az⟩:=f.cell x c (P x c q);exact⟨v,o,old c o ay,az⟩
  .rcases gD x c e with⟨_,q⟩ | ⟨_,q⟩
   .exact q▸ak
   .exact f.freeC x c (P x c q)
  .show (rO T aa σ).length=(T++U).length;unfold rO;rw[bK,bK,aA,aA,O.len]
 have au:∀ {H':Hp},(∀ b∈fp,H' b=none)->∀ b∈fp,sR (uM nw X (T++U) j cl C K M fp) [] H' b:=λhn b a =>
  ⟨hn b a,a5 b a,a6 b a,.inl a,λx c e=>aj b a x c e,λp hp=>absurd (show p∈([]:Aa (Ad×Obj)) from hp) (by simp)⟩
 have bc:tn 0 Z:=B.keep _ _ _ ag λb _ o e=>old b o e
 have b0:W 0 m0 [] (rO T aa σ) M:=w0;have an:codeAny (model X.prog X.w) X.A (.compLoop (.ListComp a4 [⟨tg,iter,af,0⟩] j pos) 0 (.ref it) (.ref D) (compEnvC j (zN nw C++cl) C X.env))
   (compPost (model X.prog X.w) X.A X.xe a2 Qs (.ref D) C) { K with heap:=Z }:=by
  refine KR (λn s'=>∃ i ys be H',Inv (uM nw X (T++U) j cl C K M fp) [] be H' s'/\tn i s'.heap/\(∀ b∈fp,H' b=none)/\W i n ys be H') ?_ m0 ⟨0,[],rO T aa σ,M,I4,bc,λb a=>(f3 b a).1,b0⟩;rintro n s5 ⟨i,ys,ah,H5,I5,bd,a7,w5⟩;rcases ao i n ys ah H5 w5 with⟨stop,qn⟩ | ⟨go,N,F,hN,hF,step⟩
  .refine lQ (B.done (uM nw X (T++U) j cl C K M fp) rfl rfl rfl hc i [] s5 ah H5 _ I5 (au a7) bd stop) λr s6 t=>?_
   obtain⟨hr,I6⟩:=t;subst hr;obtain⟨m6,br,_⟩:=I6.loc;have bq:H5 C=none:=I6.free;have ub:=I6.base;have a0:=f.fpOk (lC hC) av;refine fin C D s6 H5 (Inv.call' (s':=s6) (ch:=fp) f I6.os ?_ I6.hok I6.bare (λb a=>⟨(f3 b a).2.2.2.1,(f3 b a).2.1,(f3 b a).2.2.2.2.1,(f3 b a).2.2.2.2.2⟩)) qn ⟨bq,a0.2⟩ ⟨m6,br⟩;exact⟨λb o q n a hx=>ub.keep b o q n a hx,λb o q n a hx=>ub.slot b o q n a hx,ub.free,λb o q hx=>ub.there b o q hx,ub.tups,ub.frzs,ub.tbls⟩
  .refine lQ (B.item (uM nw X (T++U) j cl C K M fp) rfl rfl rfl hc i [] s5 ah H5 _ I5 (au a7) bd go) λr s6 t=>?_
   obtain⟨u,hr,h6⟩:=t;subst hr;refine lQ h6 λ_ s7 t=>?_
   obtain⟨x,H7,I7,r7,y7,a1,bn⟩:=t;have bh:=I7.pinned (au bn) (B.obj _ _ a1);have G:∀ {L:St} {H8:Hp} {s8:Ae},Inv (uM nw X (T++U) j cl C K M fp) ([]++Dh fp s7.heap) L H8 s8->tn (i+1) s8.heap/\(∀ b∈fp,H8 b=none):=λ{L H8 s8} I8=>by
    refine⟨B.keep _ _ _ a1 λb a o e=>(I8.pin (b,o) (aJ _ (aJ _ (Fe a e)))).1,λb a=>?_⟩;obtain⟨o,e,d⟩:=B.obj _ _ a1 b a;exact (I8.pin (b,o) (aJ _ (aJ _ (Fe a e)))).2.1
   refine lQ (hg K M C cl fp _ s7 ah H7 x u _ bh r7 (step x H7 y7)) λ_ s8 t=>?_
   obtain⟨L,H8,I8,q8⟩:=t;refine lQ (ht K M C cl fp _ s8 L H8 _ I8 q8) λok s9 t=>?_
   obtain⟨H9,I9,q9⟩:=t;cases ok with
   | false =>
    rw[aN (by simp)] at q9;rw[aN (by simp)];obtain⟨m',hm,w9⟩:=hF _ _ q9;exact⟨m',hm,i+1,ys,L,H9,I9.unpinned,(G I9).1,(G I9).2,w9⟩
   | true =>
    rw[aT rfl] at q9;rw[aT rfl];refine lQ (he K M C cl fp _ s9 L H9 _ I9 q9) λvv bx t=>?_
    obtain⟨v,bf,bg,bw,bv⟩:=t;obtain⟨bi,b3,m',hm,b1⟩:=hN _ _ _ bv;refine lQ (rA (X:=uM nw X (T++U) j cl C K M fp) _ bx L bf (.ref D) [v] (.ref D) [vv] (λ_ aq=>W (i+1) m' (ys++[v]) L aq) bg rfl (.cons bw .nil) ⟨D,ys,v,rfl,rfl,bi,b3,b1⟩) λ_ b5 t=>?_
    obtain⟨_,aq,ar,_,b2⟩:=t;exact⟨m',hm,i+1,ys++[v],L,aq,ar.unpinned,(G ar).1,(G ar).2,b2⟩
 exact codeAny_compStart_list an (B.self _ 0 _ _ _ bc an)
theorem GS {D:Ad}(I:Inv X g J j p) (q:Q (.ref D) j) (r:sR X g j C) (l:∃ m,p.heap.Ns C m):compPost (model X.prog X.w) X.A X.xe none (EP X g J Q) (.ref D) C (.ok .next) p:=by
 obtain⟨m,l⟩:=l;refine⟨m,l,λd c=>⟨.ref D,j,I.moved (t':=p.toks) (fp:=[C]) (λb a=>?_) (λb o a e=>?_),rfl,q⟩⟩
 .rw[aZ.mp a];exact r
 .exact c.extBut b o (λz=>a (aZ.mpr z)) e
theorem tV {iter:Expr}(T o:Aa Af) (r:Aa Nat) (hc:X.calm=true) (hi:PI X tg iter wi)
  (hk:j.kind = .function) (ho:Cz X.N X.env.kindOf j T o r=true)
  (hg:∀ p l C U J,PG (sF X (T++o) j U C p l J) tg g)
  (ht:∀ p l C U J,vU (sF X (T++o) j U C p l J) ab tt)
  (he:∀ p l C U J,PE (sF X (T++o) j U C p l J) aa te)
  (hs:∀ x,foldedSetIterable iter X.env x=pure x:=by intro _;rfl) :
  PE X (.ListComp aa [⟨tg,iter,ab,0⟩] j pos) (xR T r wi g tt te):=by
 intro a s e H Q I h;rw[eval_ListComp];exact Oe (nw:=none) T o r hc hi hk (Te ho) hg ht he hs I h λC D d c I q J b=>GS I q J b
end
structure Yields (J:It) (xs:List V) (R:Hp->Prop):Prop where
 go:∀ i H,i<xs.length->R H->J.go i H
 yld:∀ i H x H',i<xs.length->R H->J.yld i H x H'->H'=H/\xs[i]?=some x
 stop:∀ i H,i=xs.length->R H->J.stop i H
theorem LY {K:lL}:Yields (wK K a) g (λH=>lO K H a g) :=
 ⟨λi H b r=>⟨g,g[i],r,aQ b⟩,λi H x c b r y=>⟨y.1,y.2 g r⟩,λi H e r=>⟨g,r,by omega⟩⟩
theorem M9 {lo:Int}:Yields (tU lo n) ((List.range n).map λ(i:Nat)=>V.int (lo+(i:Int))) (λ_=>True) :=
 ⟨λi H a _=>by simpa [tU] using a,λi H x b a _ y=>⟨y.1,by rw[y.2];simp at a;simp[a]⟩,λi H e _=>by simp[tU,e]⟩
def zT (z:Af):Aa V:=z.cps.toList.map λc=>V.str ⟨#[c]⟩
theorem BC:Yields (uQ z) (zT z) (λ_=>True) :=
 ⟨λi H a _=>by simpa [uQ,zT,Str.length] using a,
  λi H x d a _ y=>by
   obtain⟨e,c,b,rfl⟩:=y;refine⟨e,?_⟩;unfold zT;rw[bC,fB,b];rfl,
  λi H e _=>by simp[uQ,e,zT,Str.length]⟩
def Lg (o:St) (D:Ad) (Pv:Nat->Aa V->Hp->Prop) (i:Nat) (g:Aa V) (j:St):VK:=λv a=>(∃ t,j=t::o)/\a D=some (.l g)/\g.length<sizeLine/\Pv (i+1) (g++[v]) (upd a D (.l (g++[v])))
def R9 (l:St) (Pv:Nat->Aa V->Hp->Prop) (i:Nat) (o:Aa V) (g:St) (j:Hp):Prop:=(∃ t,g=t::l)/\Pv (i+1) o j
theorem Lu {R:Hp->Prop}{D:Ad}(Y:Yields J o R) (Pv:Nat->Aa V->Hp->Prop)
  (U:Pv 0 [] (upd T D (.l []))) (I:∀ i j H,i<=o.length->Pv i j H->R H)
  (hs:∀ i x j H,o[i]?=some x->Pv i j H->tt (some x::g.map (λi=>(r[i]?).join)) H λb C =>if b=true then te (some x::g.map (λi=>(r[i]?).join)) C (Lg (g.map (λi=>(r[i]?).join)) D Pv i j (some x::g.map (λi=>(r[i]?).join))) else R9 (g.map (λi=>(r[i]?).join)) Pv i j (some x::g.map (λi=>(r[i]?).join)) C)
  (hd:∀ j H,Pv o.length j H->Q (.ref D) H):Ax [nm] g J (vY 0) tt te r T Q D:=by
 refine⟨λi m j d H=>m=o.length-i/\i<=o.length/\(∃ t,d=t::g.map (λi=>(r[i]?).join))/\Pv i j H,⟨o.length,by simp,dL _,⟨none,rfl⟩,U⟩,?_⟩;rintro i m j d c ⟨rfl,h,⟨t,rfl⟩,p⟩;by_cases a:i<o.length
 .refine .inr ⟨Y.go i c a (I i j c h p),Lg (g.map (λi=>(r[i]?).join)) D Pv i j,R9 (g.map (λi=>(r[i]?).join)) Pv i j,?_,?_,λx q y=>?_⟩
  .rintro n v z ⟨k,s,u,f⟩;exact⟨s,u,o.length-(i+1),by omega,rfl,a,k,f⟩
  .rintro n C ⟨k,f⟩;exact⟨o.length-(i+1),by omega,rfl,a,k,f⟩
  .obtain⟨rfl,w⟩:=Y.yld i c x q a (I i j c h p) y;exact hs i x j q w p
 .have e:i=o.length:=by omega
  subst e;exact .inl ⟨Y.stop _ _ rfl (I _ j c h p),hd j c p⟩
def yK:Expr->Bool
 | .Starred _ _=>false
 | _=>true
theorem EC (h:yK e=true):starEach (e::j) g=(false,eval e g)::starEach j g:=by
 cases e<;>first | rfl | (cases h;done)
section
variable {X:Cx}
theorem mA (j:PE X e o) (l:PA X g t) (h:yK e=true:=by rfl):PA X (e::g) (Cq o t):=wU j l (EC h)
def Ws (g:Aa Af):TA:=λ_ H Q=>Q (g.map V.str) H
theorem xO:∀ (l:Aa (Af×Nat×Pos)),PA X (l.map λp=>.Constant (.str p.1) p.2.1 p.2.2) (Ws (l.map (·.1)))
 | []=>mJ
 | a::r=>λpos b s c H Q I h=>mA (uZ (x:=a.1) (j:=a.2.1) (pos:=a.2.2)) (xO r) (by rfl) pos b s c H Q I h
end
theorem Jz {R:Hp->Prop}{D:Ad}(Y:Yields J o R) (Pv:Nat->Aa V->Hp->Prop)
  (I:Pv 0 [] (upd C D (.l []))) (T:∀ i j H,i<=o.length->Pv i j H->R H)
  (U:∀ i x j H,o[i]?=some x->Pv i j H->te (some x::g.map (λi=>(r[i]?).join)) H (Lg (g.map (λi=>(r[i]?).join)) D Pv i j (some x::g.map (λi=>(r[i]?).join))))
  (hd:∀ j H,Pv o.length j H->Q (.ref D) H):Ax [nm] g J (vY 0) wE te r C Q D:=by
 refine Lu Y Pv I T (λi x j H a p=>?_) hd;unfold wE;dsimp only;rw[aT rfl];exact U i x j H a p
theorem BZ {R:Hp->Prop}{D:Ad}(Y:Yields J g R) (f:V->V) (T:j D=none) (C:∀ H,nW j H->R H) (hl:g.length<=1000)
  (I:∀ (i:Nat) x H (k:VK),g[i]?=some x->nW j H->k (f x) H->U (some x::r.map (λi=>(σ[i]?).join)) H k)
  (hd:Q (.ref D) (upd j D (.l (g.map f)))):Ax [nm] r J (vY 0) wE U σ j Q D:=by
 have sm:∀ o,nW j (upd j D o):=λo b u e=>by rw[lS (mR e T)];exact e
 refine Jz Y (λi a H=>i<=g.length/\a=(g.take i).map f/\H=upd j D (.l a)) ⟨dL _,by simp,rfl⟩ (λi a H _ p=>C H (by rw[p.2.2];exact sm _)) ?_ ?_
 .rintro i x a H d ⟨m,rfl,rfl⟩;have c:=(aU.mp d).1;have h:g.take (i+1)=g.take i++[x]:=by rw[cL,d];rfl
  refine I i x _ _ d (sm _) ⟨⟨_,rfl⟩,lR,?_,c,?_,?_⟩
  .rw[aA,bZ];exact cH (show min i g.length<=1000 by omega) (by decide)
  .rw[h,aR];rfl
  .rw[KI]
 .rintro a H ⟨_,rfl,rfl⟩;rw[bI (aW _)];exact hd
theorem xF {X:Cx}{st:Stmt}{rest:Aa Stmt}{D:Ends}(I:St->Hp->Prop) (g:∀ u:TS,(∀ j l,I j l->u D j l)->∃ t,PS X st t/\t { D with nx:=u D } o H)
  (h:∀ j l,I j l->∃ u,pE X rest u/\u D j l):∃ t,pE X (st::rest) t/\t D o H:=by
 let u:TS:=λb j l=>∃ c,pE X rest c/\c b j l
 have k:pE X rest u:=λa s j l b d ⟨c,i,e⟩=>i a s j l b d e
 obtain⟨t,pt,f⟩:=g u h;exact⟨Ki t u,pD pt k,f⟩
theorem M4 {X:Cx}{st:Stmt}{rest:Aa Stmt}{D:Ends}(t:TS) (p:PS X st t) (h:t { D with nx:=λg j=>∃ u,pE X rest u/\u D g j } l H):∃ t,pE X (st::rest) t/\t D l H:=by
 let u:TS:=λb g j=>∃ c,pE X rest c/\c b g j
 have i:pE X rest u:=λa s g j b d ⟨c,f,e⟩=>f a s g j b d e
 exact⟨Ki t u,pD p i,h⟩
section
variable {X:Cx}{id:String}
def MA (K:lL):Aa V->Hp->VK->Prop:=λb H Q=>∃ p a,b=[.ref p]/\(lO K H p a\/mF K H p a)/\Q (.int a.length) H
theorem DJ (K:lL) (g:X.K=K:=by rfl):nK X (.builtin "len") (MA K):=by subst g;exact yA
theorem Of (K:lL) (g:X.K=K:=by rfl):tW X (E3 K):=by subst g;exact Kl
theorem Ww (K:lL) (pa:PlainAttrs T) (slot:Slot T name id) (j:typeOf (.builtin id)=pure (.type "method_descriptor")) (J:wN X id r) (U:PE X o to) (C:PA X (e::l) t) (p:X.K=K:=by rfl)
  (I:MtB X o name apos e l g:=by exact {}) :
  PE X (.Call (.Attribute o name apos) (e::l) [] g) (Ir K T r to t):=by
 subst p;exact zC pa slot j J U C I
end
section
variable {X:Cx}
def FO (g:Aa Int):TA:=λ_ H Q=>Q (g.map V.int) H
theorem Ef:∀ (l:Aa (Int×Nat×Pos)),PA X (l.map λp=>.Constant (.int p.1) p.2.1 p.2.2) (FO (l.map (·.1)))
 | []=>mJ
 | a::r=>λpos b s c H Q I h=>mA (mT (i:=a.1) (j:=a.2.1) (pos:=a.2.2)) (Ef r) (by rfl) pos b s c H Q I h
end
section
variable {X:Cx}
theorem OI (g:X.A.units+64<cLine):mO X (compareOp .NotEq) (Mq X.K true):=by
 intro c s M H x y v u Q I F G h;obtain⟨a,b,L,rfl,rfl,f,z,q⟩:=h;cases F;cases G;obtain⟨B,D,m,_⟩:=I.list f;obtain⟨k,E,n,_⟩:=I.list z;cases E;have t:∀ d,d = !L.isEmpty->EP X c M Q (.bool d) s:=λd e=>⟨.b d,H,I,rfl,by subst e;exact q⟩
 cases D with
 | nil=>exact SeqAt.RcNeAt.lists (e:=λ_=>true) m.isList n.isList rfl (by omega) (λi f _=>by simp at f) X.prog X.w _ _ (t _ (by simp))
 | cons r N=>exact SeqAt.RcNeAt.lists_lengths m.isList n.isList (by simp) (by omega) X.prog X.w _ _ (t _ rfl)
end
section
variable {X:Cx}
theorem EY {bs:Aa Bool}{g:Aa Ac}(r:mB (bs.map V.b) g){i:Nat}{v:Ac}(h:g[i]?=some v):∃ b,bs[i]?=some b/\v = .bool b:=by
 have d:=r.length;rw[aA] at d;have f:i<g.length:=(aU.mp h).1;have a:bs[i]?=some (bs[i]'(by omega)):=aQ (by omega);obtain⟨u,c,e⟩:=r.get (i:=i) (x:=V.b (bs[i]'(by omega))) (by rw[bC,a];rfl);rw[h] at c;cases c;exact⟨_,a,e⟩
theorem DT (bs:Aa Bool):((List.range bs.length).all λi=>(bs[i]?).getD true)=bs.all id:=by
 have e:(List.range bs.length).map (λi=>(bs[i]?).getD true)=bs:=by
  apply List.ext_getElem (by simp);intro i p q;simp[q]
 calc ((List.range bs.length).all λi=>(bs[i]?).getD true)=((List.range bs.length).map λi=>(bs[i]?).getD true).all id:=by rw[List.all_map];rfl
  _=bs.all id:=by rw[e]
def Tf (K:lL):Aa V->Hp->VK->Prop:=λa H Q=>∃ (p:Ad) (bs:Aa Bool),a=[.ref p]/\lO K H p (bs.map V.b)/\Q (.b (bs.all id)) H
theorem Oq (g:X.calm=true):nK X (.builtin "all") (Tf X.K):=by
 intro m s P H O N Q I r h;obtain⟨p,bs,rfl,z,q⟩:=h;obtain⟨u,rfl,D⟩:=qM r;cases D;obtain⟨c,n,B,_⟩:=I.list z;have d:=B.isList;have a:=n.length;rw[aA] at a;have f:p<s.heap.objs.size:=by obtain⟨_,e,_⟩:=id d;exact aY e
 refine call_all_walk (fG d ?_);refine⟨s.heap.objs.size,[s.heap.objs.size,p],[s.heap.objs.size],c.toArray.size,_,_,λi=>(bs[i]?).getD true,rfl,Walks.list (A:=X.A.in1) (I.ok.hd g) _ p (bH f) c.toArray,⟨⟨_,bA _ rfl,rfl,rfl⟩,d.push _⟩,λi v L F E t k=>?_,λG M w=>?_⟩
 .obtain⟨b,e,rfl⟩:=EY n (by simpa using t);simp only[e,Option.getD_some] at k;exact eQ k
 .have e:((List.range c.toArray.size).all λi=>(bs[i]?).getD true)=bs.all id:=by
   rw[aX,<- a];exact DT bs
  rw[e];exact⟨.b _,H,I.kept λb x e=>w b x (λy=>by rw[aZ.mp y] at e;exact eO _ (aY e)) (aK _ e),rfl,q⟩
def Ta:V->Aa V->Hp->VK->Prop:=λx a H Q=>∃ (z y:Af),x = .str z/\a=[.str y]/\y.length≠0/\z.length<=1000000/\∀ p,H p=none->Q (.ref p) (upd H p (.l ((Txt.split z y).map V.str)))
theorem Ov:∀ (l:Aa (Af×Tok)),mB ((l.map (·.1)).map V.str) (strValues l)
 | []=>.nil
 | a::r=>.cons ⟨a.2,rfl⟩ (Ov r)
theorem FY:wN X "str.split" Ta:=by
 intro b s A H x F v E Q I w n h;obtain⟨z,y,rfl,rfl,m,D,q⟩:=h;obtain⟨t,rfl⟩:=w;obtain⟨u,rfl,c,rfl⟩:=n.one;have a:(y.length == 0)=false:=by simpa using m
 have fin:∀ (l:Aa (Af×Tok)) (d:Nat),l.map (·.1)=Txt.split z y->l.length<=sizeLine->EP X b A Q (.ref s.heap.objs.size) { s with heap:=s.heap.push { cls:=.type "list",data:=.seq (strValues l).toArray },toks:=d }:=by
  intro l d e k;refine⟨.ref _,_,I.lnew (its:=strValues l) (ys:=(Txt.split z y).map V.str) (t':=d) (by rw[<- e];exact Ov l) ?_,rfl,q _ I.fresh⟩;rw[aA,<- e,aA];exact k
 have f:(Builtin.Str.partsBetween z (Builtin.Str.occurrences z y 0 z.length (z.length+1)) y.length).length<=sizeLine:=by
  have B:=StrLaws.occ_length_le z y 0 z.length (z.length+1);rw[length_partsBetween,kX];omega
 cases g1:(decide (z.length<y.length)||decide (Builtin.Str.strKind z<Builtin.Str.strKind y)) with
 | false =>
  cases g2:(Builtin.Str.occurrences z y 0 z.length (z.length+1)).isEmpty with
  | false =>
   refine gX gY (kR _ _ _) jH (iU _ _) (meets_str_split_sep z y t c g1 a g2 (by rw[kX];omega) f) ?_;show wants _ _ _ { s with toks:=_,heap:=s.heap.push { cls:=.type "list",data:=.seq (strsFrom s.toks (Builtin.Str.partsBetween z (Builtin.Str.occurrences z y 0 z.length (z.length+1)) y.length)).toArray } };rw[strsFrom_eq];have i:(numbered s.toks (Builtin.Str.partsBetween z (Builtin.Str.occurrences z y 0 z.length (z.length+1)) y.length)).map (·.1)=Txt.split z y:=(numbered_texts _ _).trans ((aN (kL g1)).trans (aN (kL g2))).symm;refine fin _ _ i ?_;have:=bY List.length (numbered_texts s.toks (Builtin.Str.partsBetween z (Builtin.Str.occurrences z y 0 z.length (z.length+1)) y.length));rw[aA] at this;rw[this];exact f
  | true =>
   exact gX gY (kR _ _ _) jH (iU _ _) (meets_str_split_not_found z y t c g1 a g2)
    (fin [(z,t)] s.toks ((aN (kL g1)).trans (aT g2)).symm (by show 1<=sizeLine;decide))
 | true =>
  exact gX gY (kR _ _ _) jH (iU _ _) (meets_str_split_cannot_occur z y t c g1)
   (fin [(z,t)] s.toks (aT g1).symm (by show 1<=sizeLine;decide))
end
section
variable {X:Cx}
theorem Inv.movedT {t':Nat}{p:Aa Ad}{ys:Aa V}{j:Aa Ac}(I:Inv X g U H s) (l:∀ b∈p,sR X g H b) (k:∀ b o,b∉p->s.heap.get? b=some o->C.get? b=some o)
  (new:xG C s.heap.objs.size j.toArray) (T:mB ys j) (J:ys.length<=sizeLine):Inv X g U (upd H s.heap.objs.size (.t ys)) { s with heap:=C,toks:=t' }:=by
 have f:=I.fresh;have h:∀ b u,H b=some u->b∉p:=λb u e z=>by rw[(l b z).1] at e;cases e
 have lt:∀ b o,s.heap.get? b=some o->b≠s.heap.objs.size:=λb o e=>bH (aY e)
 refine I.step (g':=s.gens) (d':=s.drawn) (ch:=p) (λb a=>⟨(l b a).2.2.2.1,(l b a).2.1,(l b a).2.2.2.2.1,(l b a).2.2.2.2.2⟩) (λb o _ _ d e _=>k b o d e) (λb o _ _ d e _=>⟨o.slots,k b o d e⟩) (λb o _ e n=>by rw[lS (lt b o e)];exact n)
  (λb o d e=>⟨o,k b o d e⟩) (λb A e=>by rw[lS (mR e f)];exact e) (λb o u e=>by rw[lS (mR e f)];exact e) (λb B e=>⟨#[],by rw[lS (mR e f),e];simp⟩) (λm x=>?_) (λb u e=>?_) I.bare
 .obtain⟨o,w,i,y,r⟩:=x;exact⟨o,w,i,k _ o (λz=>(l _ z).2.1 rfl) y,r⟩
 .by_cases a:b=s.heap.objs.size
  .subst a;rw[lR] at e;cases e;exact⟨J,j,T,new⟩
  .rw[lS a] at e;refine (I.hok b u e).stay (λc v d q=>k c v ?_ q) (λc q=>by rw[lS (mR q f)];exact q) λc A q=>by rw[lS (mR q f)];exact q
   rcases d with z | z
   .rw[z];exact h b u e
   .exact h c _ z
end
section
variable {X:Cx}
theorem EF {iter:Expr}(T p:Aa Af) (J:Aa Nat) (hN:X.N.Nodup) (af:X.N[i]?=some x) (hx:vL X.env.scope x)
  (hc:X.calm=true) (hi:PI X tg iter wi) (hk:j.kind = .function) (ho:Cz X.N X.env.kindOf j T p J=true)
  (hg:∀ r l C cl U,PG (sF X (T++p) j cl C r l U) tg g)
  (ht:∀ r l C cl U,vU (sF X (T++p) j cl C r l U) ac tt)
  (he:∀ r l C cl U,PE (sF X (T++p) j cl C r l U) ab te)
  (ag:swapsWith (.ListComp ab [⟨tg,iter,ac,0⟩] j pos) (some (.Name x aa)) ae.line X.env=pure true:=by rfl)
  (hs:∀ x,foldedSetIterable iter X.env x=pure x:=by intro _;rfl)
  (hf:X.fn x=true\/X.env.scope.names.lookup x=some .local:=by first | exact .inl rfl | exact .inr rfl | assumption) :
  PS X (.Assign [.Name x aa] (.ListComp ab [⟨tg,iter,ac,0⟩] j pos) ae) (Mn (xR T J wi g tt te) (vY i)):=by
 intro u s M H D I h;rw[exec_Assign_Name_used _ _ _ _ ag];refine aB (kZ (aB ?_));show wpAny _ _ (comprehension _ _ _ _ _ _ _ _ >>= λ_=>pure ()) _ _ _;refine aB (Oe (nw:=none) T p J hc hi hk (Te ho) hg ht he hs I h λC t L w A q U k=>?_);obtain⟨m,E⟩:=k;show wpAny _ _ (assign (.Name x aa) X.env (.ref t)) _ _ _;refine wpAny_assign_Name (Td A hN af hx (v:=.ref t) rfl (λF y f=>?_) hf);obtain⟨a,G,B⟩:=f;have c:C≠a:=by
  rcases B with z | z
  .rw[z];exact U.2.1
  .exact (U.2.2.2.2.1 x a z).symm
 refine⟨m,E.sameBut G c,λK n=>aG (aG ⟨_,w,y.moved (t':=F.toks) (fp:=[C]) (λb d=>?_) (λb o d e=>?_),q⟩)⟩
 .rw[aZ.mp d];exact U
 .exact n.extBut b o (λz=>d (aZ.mpr z)) e
end
inductive D where
 | e | b (b:Bool) | int (i:Int) | str (x:Str) | r (v:V)
 | t (xs:List D) | l (xs:List D)
 | k (kvs:List (hI×D)) | T (kvs:List (List hI×D))
 | c (xs:List D)
 | con (xs:List D)
def Dc (K:lL) (a:Ad) (g:Aa V):Prop:=∃ (o:Obj) (b:Array Ac) (n:Nat),K.lookup a=some o/\o.cls = .type "tuple" /\ o.data = .seq b n/\b.size<=sizeLine/\mB g b.toList
theorem Dc.sqT {K:lL}(h:Dc K a g):mF K H a g:=.inr h
def wJ (K:lL) (H:Hp) (a:Ad) (g:Aa V):Prop:=(∃ o,H a=some (.frz o (.l g))) \/
 ∃ (o:Obj) (b:Array Ac) (n:Nat),K.lookup a=some o/\o.cls = .type "list" /\ o.dict=none/\o.data = .seq b n/\b.size<=sizeLine/\mB g b.toList
theorem wJ.sqL {K:lL}(h:wJ K H a g):lO K H a g:=h.elim (λh=>.inl (.inr h)) .inr
mutual
inductive Rep (K:lL) (A:Addr->Prop) (H:Hp):D->V->Prop where
 | e:Rep K A H .e .e
 | b (b:Bool):Rep K A H (.b b) (.b b)
 | int (i:Int):Rep K A H (.int i) (.int i)
 | str (x:Str):Rep K A H (.str x) (.str x)
 | r (v:V):Rep K A H (.r v) v
 | t {a:Addr} {vs:List V} {ds:List D}:H a=some (.t vs)->Reps K A H ds vs->Rep K A H (.t ds) (.ref a)
 | con {a:Addr} {vs:List V} {ds:List D}:Dc K a vs->Reps K A H ds vs->Rep K A H (.con ds) (.ref a)
 | l {a:Addr} {vs:List V} {ds:List D}:A a->H a=some (.l vs)->Reps K A H ds vs->Rep K A H (.l ds) (.ref a)
 | c {a:Addr} {vs:List V} {ds:List D}:wJ K H a vs->Reps K A H ds vs->Rep K A H (.c ds) (.ref a)
 | k {a:Addr} {kvs:List (hI×V)} {ds:List (hI×D)}:A a->H a=some (.k kvs)->ds.map (·.1)=kvs.map (·.1)->Reps K A H (ds.map (·.2)) (kvs.map (·.2))->Rep K A H (.k ds) (.ref a)
 | T {a:Addr} {kvs:List (List hI×V)} {ds:List (List hI×D)}:A a->Rd H a (.T kvs)->ds.map (·.1)=kvs.map (·.1)->Reps K A H (ds.map (·.2)) (kvs.map (·.2))->Rep K A H (.T ds) (.ref a)
inductive Reps (K:lL) (A:Addr->Prop) (H:Hp):List D->List V->Prop where
 | nil:Reps K A H [] []
 | cons {d:D} {v:V} {ds:List D} {vs:List V}:Rep K A H d v->Reps K A H ds vs->Reps K A H (d::ds) (v::vs)
end
def Eo:HO->Bool
 | .t _=>true
 | .frz _ _=>true
 | _=>false
def Kp (A j:Ad->Prop) (H g:Hp):Prop:=(∀ a o,A a->H a=some o->j a/\g a=some o)/\∀ a o,Eo o=true->H a=some o->g a=some o
section
variable {K:lL}
theorem Kp.sqF (k:Kp A l H g) (h:wJ K H a j):wJ K g a j:=by
 rcases h with⟨o,h⟩ | h
 .exact .inl ⟨o,k.2 _ _ rfl h⟩
 .exact .inr h
theorem Kp.rd (k:Kp A j H l) (g:A a) (h:Rd H a u):j a/\Rd l a u:=by
 rcases h with h | ⟨o,h⟩
 .exact⟨(k.1 _ _ g h).1,.inl (k.1 _ _ g h).2⟩
 .exact⟨(k.1 _ _ g h).1,.inr ⟨o,(k.1 _ _ g h).2⟩⟩
theorem Rep.mono (k:Kp A g H j) (h:Rep K A H d v):Rep K g j d v :=
 Rep.rec (motive_1:=λd v _=>Rep K g j d v) (motive_2:=λf i _=>Reps K g j f i) .e .b .int .str .r (λh _ r=>.t (k.2 _ _ rfl h) r) (λh _ r=>.con h r)
  (λa h _ r=>.l (k.1 _ _ a h).1 (k.1 _ _ a h).2 r) (λh _ r=>.c (k.sqF h) r) (λa h e _ r=>.k (k.1 _ _ a h).1 (k.1 _ _ a h).2 e r) (λa h e _ r=>.T (k.rd a h).1 (k.rd a h).2 e r) .nil (λ_ _ h r=>.cons h r) h
theorem Reps.mono (k:Kp A o H p) (h:Reps K A H j l):Reps K o p j l:=by
 induction j generalizing l with
 | nil=>cases h;exact .nil
 | cons d j a=>cases h with | cons g r=>exact .cons (g.mono k) (a r)
theorem Kp.all (h:∀ a,A a->g a):Kp A g H H:=⟨λa o b e=>⟨h a b,e⟩,λ_ _ _ e=>e⟩
theorem Kp.trans (a:Kp A l H r) (b:Kp l g r j):Kp A g H j:=⟨λx o c e=>let ⟨p,q⟩:=a.1 x o c e;b.1 x o p q,λx o t e=>b.2 x o t (a.2 x o t e)⟩
theorem Kp.laid (g:H p=none) (h:∀ a,A a->a≠p->j a):Kp A j H (upd H p o) :=
 ⟨λa u b e=>⟨h a b (mR e g),by rw[lS (mR e g)];exact e⟩,λa u _ e=>by rw[lS (mR e g)];exact e⟩
theorem Kp.same (s:nW H j) (h:∀ a,A a->g a):Kp A g H j:=⟨λa o b e=>⟨h a b,s a o e⟩,λa o _ e=>s a o e⟩
theorem Kp.write (l:H p=some u) (g:Eo u=false) (j:¬ A p):Kp A A H (upd H p o):=by
 refine⟨λa w b e=>⟨b,?_⟩,λa w t e=>?_⟩
 .rw[lS (λz:a=p=>j (by rw[<- z];exact b))];exact e
 .rw[lS (λz=>?_)]
  .exact e
  .subst z;rw[l] at e;cases e;rw[t] at g;cases g
theorem Reps.length (h:Reps K A H j l):j.length=l.length:=by
 induction j generalizing l with
 | nil=>cases h;rfl
 | cons d j a=>cases h with | cons g r=>exact bY (·+1) (a r)
theorem Reps.get {j:Aa D}{l:Aa V}{i:Nat}{d:D}(h:Reps K A H j l) (e:j[i]?=some d):∃ v,l[i]?=some v/\Rep K A H d v:=by
 induction j generalizing l i with
 | nil=>cases e
 | cons c j a =>
  cases h with
  | cons g r =>
   cases i with
   | zero=>cases e;exact⟨_,rfl,g⟩
   | succ i=>exact a r (i:=i) e
theorem Reps.getV {j:Aa D}{l:Aa V}{i:Nat}{v:V}(h:Reps K A H j l) (e:l[i]?=some v):∃ d,j[i]?=some d/\Rep K A H d v:=by
 induction j generalizing l i with
 | nil=>cases h;cases e
 | cons c j a =>
  cases h with
  | cons g r =>
   cases i with
   | zero=>cases e;exact⟨_,rfl,g⟩
   | succ i=>exact a r (i:=i) e
theorem Reps.append (h:Reps K A H j l) (s:Reps K A H o p):Reps K A H (j++o) (l++p):=by
 induction j generalizing l with
 | nil=>cases h;exact s
 | cons d j a=>cases h with | cons g r=>exact .cons g (a r)
theorem Reps.take:∀ {g:Aa D}{j:Aa V}(n:Nat),Reps K A H g j->Reps K A H (g.take n) (j.take n)
 | _,_,0,_=>by rw[kU,kU];exact .nil
 | _,_,n+1,.nil=>.nil
 | _,_,n+1,.cons h r=>.cons h (Reps.take n r)
theorem Reps.drop:∀ {g:Aa D}{j:Aa V}(n:Nat),Reps K A H g j->Reps K A H (g.drop n) (j.drop n)
 | _,_,0,h=>h
 | _,_,n+1,.nil=>.nil
 | _,_,n+1,.cons h r=>Reps.drop n r
theorem Reps.set (h:Rep K A H d v):∀ {j:Aa D}{l:Aa V}(i:Nat),Reps K A H j l->Reps K A H (j.set i d) (l.set i v)
 | _,_,_,.nil=>.nil
 | _,_,0,.cons _ r=>.cons h r
 | _,_,i+1,.cons g r=>.cons g (Reps.set h i r)
theorem Reps.erase:∀ {j:Aa D}{l:Aa V}(i:Nat),Reps K A H j l->Reps K A H (j.eraseIdx i) (l.eraseIdx i)
 | _,_,_,.nil=>.nil
 | _,_,0,.cons _ r=>r
 | _,_,i+1,.cons g r=>.cons g (Reps.erase i r)
theorem Reps.nil_iff (h:Reps K A H g j):j=[]↔g=[]:=by
 cases h<;>simp
theorem Rep.int_inv (h:Rep K A H (.int i) v):v = .int i:=by cases h;rfl
theorem Rep.str_inv (h:Rep K A H (.str i) v):v = .str i:=by cases h;rfl
theorem Rep.bl_inv (h:Rep K A H (.b i) v):v = .b i:=by cases h;rfl
theorem Rep.non_inv (h:Rep K A H .e v):v = .e:=by cases h;rfl
theorem Rep.raw_inv (h:Rep K A H (.r u) v):v=u:=by cases h;rfl
theorem Rep.tup_inv (h:Rep K A H (.t j) v):∃ a g,v = .ref a/\H a=some (.t g)/\Reps K A H j g:=by
 cases h with | t h r=>exact⟨_,_,rfl,h,r⟩
theorem Rep.lst_inv (h:Rep K A H (.l j) v):∃ a g,v = .ref a/\A a/\H a=some (.l g)/\Reps K A H j g:=by
 cases h with | l d h r=>exact⟨_,_,rfl,d,h,r⟩
theorem Rep.con_inv (h:Rep K A H (.con j) v):∃ a g,v = .ref a/\Dc K a g/\Reps K A H j g:=by
 cases h with | con h r=>exact⟨_,_,rfl,h,r⟩
theorem Rep.scr_inv (h:Rep K A H (.c j) v):∃ a g,v = .ref a/\wJ K H a g/\Reps K A H j g:=by
 cases h with | c h r=>exact⟨_,_,rfl,h,r⟩
theorem Rep.dK_inv (h:Rep K A H (.k j) v):∃ a g,v = .ref a/\A a/\H a=some (.k g)/\j.map (·.1)=g.map (·.1)/\Reps K A H (j.map (·.2)) (g.map (·.2)):=by
 cases h with | k d h e r=>exact⟨_,_,rfl,d,h,e,r⟩
theorem Rep.dT_inv (h:Rep K A H (.T j) v):∃ a g,v = .ref a/\A a/\Rd H a (.T g)/\j.map (·.1)=g.map (·.1)/\Reps K A H (j.map (·.2)) (g.map (·.2)):=by
 cases h with | T d h e r=>exact⟨_,_,rfl,d,h,e,r⟩
end
mutual
def imm:D->Bool
 | .t a=>vF a
 | .c a=>vF a
 | .con a=>vF a
 | .l _=>false
 | .k _=>false
 | .T _=>false
 | _=>true
def vF:Aa D->Bool
 | []=>true
 | d::a=>imm d&&vF a
end
section
variable {K:lL}
theorem Rep.imm (h:Rep K A H d v):imm d=true->Rep K g H d v :=
 Rep.rec (motive_1:=λd v _=>L2.imm d=true->Rep K g H d v) (motive_2:=λa f _=>vF a=true->Reps K g H a f) (λ_=>.e) (λb _=>.b b) (λi _=>.int i) (λx _=>.str x) (λv _=>.r v) (λh _ r e=>.t h (r e)) (λh _ r e=>.con h (r e))
  (λ_ _ _ _ e=>Bool.noConfusion (show false=true from e)) (λh _ r e=>.c h (r e)) (λ_ _ _ _ _ e=>Bool.noConfusion (show false=true from e)) (λ_ _ _ _ _ e=>Bool.noConfusion (show false=true from e)) (λ_=>.nil) (λ_ _ h r e=>.cons (h (iH.mp e).1) (r (iH.mp e).2)) h
theorem Reps.imm (h:Reps K A H j l) (e:vF j=true):Reps K o H j l:=by
 induction j generalizing l with
 | nil=>cases h;exact .nil
 | cons d j a=>cases h with | cons g r=>exact .cons (g.imm (iH.mp e).1) (a r (iH.mp e).2)
end
end L2
namespace Lw
open PySem L2
structure DeckAt (H:Hp) (d c:Addr):Prop where
 ex:∃ (ns:List Int) (p:Int),H d=some (.l [.ref c,.int p])/\H c=some (.l (ns.map V.int))/\0<ns.length/\ns.length<=100
def mG (d c:Ad) (H g:Hp):Prop:=∀ b o,H b=some o->b≠d->b≠c->g b=some o
theorem mG.trans (a:mG d c H g) (b:mG d c g j):mG d c H j:=λx o e f h=>b x o (a x o e f h) f h
theorem mG.new (h:H p=none):mG d c H (upd H p o):=λb u e _ _=>by rw[lS (mR e h)];exact e
theorem DeckAt.ne (D:DeckAt H d c):d≠c:=by
 obtain⟨i,p,f,b,h,_⟩:=D.ex;intro e;subst e;rw[f] at b;injection b with b;injection b with b;cases i with
 | nil=>simp at h
 | cons a r=>simp at b
theorem DeckAt.upd_other (D:DeckAt H d c) (hd:p≠d) (g:p≠c):DeckAt (upd H p o) d c:=by
 obtain⟨h,q,a,b,e,f⟩:=D.ex;exact⟨h,q,by rw[lS hd.symm];exact a,by rw[lS g.symm];exact b,e,f⟩
theorem DeckAt.ned (D:DeckAt H d c) (h:H p=none):p≠d/\p≠c:=by
 obtain⟨e,q,a,b,_⟩:=D.ex;exact⟨(mR a h).symm,(mR b h).symm⟩
theorem DeckAt.new (D:DeckAt H d c) (h:H p=none):DeckAt (upd H p o) d c:=D.upd_other (D.ned h).1 (D.ned h).2
end Lw
namespace L2
open PySem PySem.Spec PyProof.Rows Lw
inductive Sl where
 | n | v (d:D) | o (d:D)
abbrev nD:=Aa (Sl×Ab V)
def Dk (g:Aa Ad) (H:Hp):Prop:=g=[]\/∃ d c,g=[d,c]/\DeckAt H d c
theorem Dk.some (h:Dk j H) (g:a∈j):∃ o,H a=some (.l o):=by
 rcases h with rfl | ⟨d,c,rfl,h⟩
 .cases g
 .obtain⟨f,p,b,e,_⟩:=h.ex;rcases aI.mp g with rfl | g
  .exact⟨_,b⟩
  .rcases aI.mp g with rfl | g
   .exact⟨_,e⟩
   .cases g
theorem Dk.keep (h:Dk g H) (k:∀ a∈g,j a=H a):Dk g j:=by
 rcases h with rfl | ⟨d,c,rfl,h⟩
 .exact .inl rfl
 .refine .inr ⟨d,c,rfl,?_⟩;obtain⟨i,p,b,e,f⟩:=h.ex;exact⟨i,p,by rw[k d (by simp)];exact b,by rw[k c (by simp)];exact e,f⟩
theorem Dk.upd (h:Dk g H) (j:p∉g):Dk g (upd H p o):=h.keep λa b=>lS λz=>j (z▸b)
noncomputable def zD:Sl×Ab V->Ab Ad
 | (.o _,some (.ref a))=>some a
 | _=>none
def hO (L:nD):Aa Ad:=L.filterMap zD
structure Bs where
 dk:List Addr
 A0:Addr->Prop
 H0:Hp
def Al (B:Bs) (R:Aa Ad) (a:Ad):Prop:=a∉B.dk/\a∉R/\(B.A0 a\/B.H0 a=none)
def oO (K:lL) (A:Ad->Prop) (H:Hp) (a:Ad):D->Prop
 | .l c=>∃ d,H a=some (.l d)/\Reps K A H c d
 | .k c=>∃ b,H a=some (.k b)/\c.map (·.1)=b.map (·.1)/\Reps K A H (c.map (·.2)) (b.map (·.2))
 | .T c=>∃ b,H a=some (.T b)/\c.map (·.1)=b.map (·.1)/\Reps K A H (c.map (·.2)) (b.map (·.2))
 | _=>False
def sC (K:lL) (A:Ad->Prop) (H:Hp):Sl->Ab V->Prop
 | .n,_=>True
 | .v d,x=>∃ v,x=some v/\Rep K A H d v
 | .o d,x=>∃ a,x=some (.ref a)/\oO K A H a d
structure DS (K:lL) (B:Bs) (L:nD) (H:Hp):Prop where
 fr:∀ b o,B.H0 b=some o->b∉B.dk->H b=some o
 dk:Dk B.dk H
 nd:(hO L).Nodup
 new:∀ a∈hO L,B.H0 a=none/\a∉B.dk
 ok:∀ p∈L,sC K (Al B (hO L)) H p.1 p.2
section
variable {K:lL}{L2:nD}
theorem oO.mono (k:Kp A p H j) (g:∀ o,H a=some o->j a=some o) (h:oO K A H a d):oO K p j a d:=by
 cases d with
 | l _=>obtain⟨b,h,r⟩:=h;exact⟨b,g _ h,r.mono k⟩
 | k _=>obtain⟨b,h,e,r⟩:=h;exact⟨b,g _ h,e,r.mono k⟩
 | T _=>obtain⟨b,h,e,r⟩:=h;exact⟨b,g _ h,e,r.mono k⟩
 | _=>exact False.elim h
theorem oO.some:∀ {d:D},oO K A H a d->∃ o,H a=some o/\Eo o=false
 | .l _,⟨b,h,r⟩=>⟨_,h,rfl⟩
 | .k _,⟨b,h,e,r⟩=>⟨_,h,rfl⟩
 | .T _,⟨b,h,e,r⟩=>⟨_,h,rfl⟩
theorem oO.rep (g:∀ b,A b->o b) (j:o a):∀ {d:D},oO K A H a d->Rep K o H d (.ref a)
 | .l _,⟨c,h,r⟩=>.l j h (r.mono (.all g))
 | .k _,⟨c,h,e,r⟩=>.k j h e (r.mono (.all g))
 | .T _,⟨c,h,e,r⟩=>.T j (.inl h) e (r.mono (.all g))
theorem sC.mono (k:Kp A j H g) (h:sC K A H s y) (l:∀ a,zD (s,y)=some a->∀ o,H a=some o->g a=some o):sC K j g s y:=by
 cases s with
 | n=>trivial
 | v d=>obtain⟨v,e,r⟩:=h;exact⟨v,e,r.mono k⟩
 | o d=>obtain⟨a,rfl,r⟩:=h;exact⟨a,rfl,r.mono k (l a rfl)⟩
theorem qS:hO (g++L2)=hO g++hO L2:=jV
theorem tT:a∈hO L↔∃ p∈L,zD p=some a:=kQ
theorem rR:hO (L1++x::L2)=hO L1++((zD x).toList++hO L2):=by
 unfold hO;rw[List.filterMap_append,List.filterMap_cons];cases zD x<;>rfl
theorem DS.live (h:DS K B L H) (g:a∈hO L):∃ o,H a=some o/\Eo o=false:=by
 obtain⟨p,c,e⟩:=tT.mp g;have:=h.ok p c;obtain⟨s,y⟩:=p;cases s with
 | n=>cases e
 | v d=>cases e
 | o d =>
  obtain⟨b,rfl,r⟩:=this;cases e;exact r.some
theorem DS.drop (h:DS K B (L1++x::L2) H):DS K B (L1++L2) H:=by
 have e:=rR (L1:=L1) (x:=x) (L2:=L2);have d:∀ a,a∈hO (L1++L2)->a∈hO (L1++x::L2):=λa c=>by
  rw[qS] at c;rw[e];simp only[aV] at c |-;rcases c with q | q
  .exact .inl q
  .exact .inr (.inr q)
 refine⟨h.fr,h.dk,?_,λa c=>h.new a (d a c),λp f=>?_⟩
 .have n:=h.nd;rw[e] at n;rw[qS];obtain⟨k,m,s⟩:=bB.mp n;exact bB.mpr ⟨k,(bB.mp m).2.1,λa c b i=>s a c b (aJ _ i)⟩
 .refine (h.ok p (by simp only[aV,aI] at f |-;rcases f with q | q;exact .inl q;exact .inr (.inr q))).mono (.all λa z=>⟨z.1,λq=>z.2.1 (d a q),z.2.2⟩) (λ_ _ _ q=>q)
theorem DS.at (h:DS K B (g++x::L2) H):sC K (Al B (hO (g++x::L2))) H x.1 x.2:=h.ok x (aJ _ aH)
theorem DS.valAt (h:DS K B (g++(.v d,some v)::L2) H):Rep K (Al B (hO (g++L2))) H d v:=by
 obtain⟨u,e,r⟩:=h.at;cases e;have:hO (g++(Sl.v d,some v)::L2)=hO (g++L2):=by rw[rR,qS];rfl
 rw[this] at r;exact r
theorem DS.push (h:DS K B (L1++L2) H) (r:Rep K (Al B (hO (L1++L2))) H d v):DS K B (L1++(.v d,some v)::L2) H:=by
 have e:hO (L1++(Sl.v d,some v)::L2)=hO (L1++L2):=by rw[rR,qS];rfl
 refine⟨h.fr,h.dk,by rw[e];exact h.nd,by rw[e];exact h.new,λp a=>?_⟩;rw[e];simp only[aV,aI] at a;rcases a with q | q | q
 .exact h.ok p (aL _ q)
 .subst q;exact⟨v,rfl,r⟩
 .exact h.ok p (aJ _ q)
theorem DS.pushN (h:DS K B (L1++L2) H) (y:Ab V):DS K B (L1++(.n,y)::L2) H:=by
 have e:hO (L1++(Sl.n,y)::L2)=hO (L1++L2):=by rw[rR,qS];rfl
 refine⟨h.fr,h.dk,by rw[e];exact h.nd,by rw[e];exact h.new,λp a=>?_⟩;rw[e];simp only[aV,aI] at a;rcases a with q | q | q
 .exact h.ok p (aL _ q)
 .subst q;trivial
 .exact h.ok p (aJ _ q)
theorem DS.grow (h:DS K B L H) (s:nW H g) (j:Dk B.dk g):DS K B L g :=
 ⟨λb o e n=>s b o (h.fr b o e n),j,h.nd,h.new,λp a=>(h.ok p a).mono (.same s λ_ z=>z) (λ_ _ o q=>s _ o q)⟩
theorem DS.free (h:DS K B L H) (g:H a=none):B.H0 a=none/\a∉B.dk/\a∉hO L:=by
 have n:a∉B.dk:=λz=>by obtain⟨b,e⟩:=h.dk.some z;rw[e] at g;cases g
 refine⟨?_,n,λz=>by obtain⟨o,e,_⟩:=h.live z;rw[e] at g;cases g⟩;cases e:B.H0 a with
 | none=>rfl
 | some o=>rw[h.fr a o e n] at g;cases g
theorem DS.laid (h:DS K B L H) (g:H a=none):DS K B L (upd H a o) :=
 h.grow (λb u e=>by rw[lS (mR e g)];exact e) (h.dk.upd (h.free g).2.1)
theorem DS.tup (h:DS K B (L1++L2) H) (g:H a=none) (r:Reps K (Al B (hO (L1++L2))) H j l):DS K B (L1++(.v (.t j),some (.ref a))::L2) (upd H a (.t l)) :=
 (h.laid g).push (.t lR (r.mono (.laid g λ_ z _=>z)))
theorem DS.make (h:DS K B (L1++L2) H) (g:H a=none) (r:∀ j,Kp (Al B (hO (L1++L2))) j H (upd H a o)->oO K j (upd H a o) a d):DS K B (L1++(.o d,some (.ref a))::L2) (upd H a o):=by
 obtain⟨f1,f2,k⟩:=h.free g;have e:hO (L1++(Sl.o d,some (.ref a))::L2)=hO L1++a::hO L2:=rR;have m:∀ b,b∈hO L1++a::hO L2↔b=a\/b∈hO (L1++L2):=λb=>by
  rw[qS];simp only[aV,aI];constructor
  .rintro (q | q | q)
   .exact .inr (.inl q)
   .exact .inl q
   .exact .inr (.inr q)
  .rintro (q | q | q)
   .exact .inr (.inl q)
   .exact .inl q
   .exact .inr (.inr q)
 have s:Kp (Al B (hO (L1++L2))) (Al B (hO L1++a::hO L2)) H (upd H a o):=.laid g λb z n=>⟨z.1,λq=>(m b).mp q |>.elim n z.2.1,z.2.2⟩
 refine⟨λb u q n=>by rw[lS (mR (h.fr b u q n) g)];exact h.fr b u q n,h.dk.upd f2,?_,λb i=>?_,λp f=>?_⟩
 .rw[e];have n:=h.nd;rw[qS] at n k;obtain⟨v,x,y⟩:=bB.mp n;refine bB.mpr ⟨v,cD.mpr ⟨λz=>k (aJ _ z),x⟩,λb i c t=>?_⟩;rcases aI.mp t with q | q
  .intro z;subst z;subst q;exact k (aL _ i)
  .exact y b i c q
 .rw[e] at i;rcases (m b).mp i with q | q
  .subst q;exact⟨f1,f2⟩
  .exact h.new b q
 .rw[e];simp only[aV,aI] at f;have old:∀ p∈L1++L2,sC K (Al B (hO L1++a::hO L2)) (upd H a o) p.1 p.2:=λp f=>(h.ok p f).mono s λb i w q=>by rw[lS (mR q g)];exact q
  rcases f with q | q | q
  .exact old p (aL _ q)
  .subst q;exact⟨a,rfl,r _ s⟩
  .exact old p (aJ _ q)
theorem DS.freeze (h:DS K B (g++(.o d,some v)::L2) H):DS K B (g++(.v d,some v)::L2) H:=by
 obtain⟨a,e,r⟩:=h.at;cases e;have c:hO (g++(Sl.o d,some (V.ref a))::L2)=hO g++a::hO L2:=rR;have hd:=h.drop;have f:=h.new a (by rw[c];simp);refine hd.push (r.rep (λb z=>⟨z.1,λq=>z.2.1 ?_,z.2.2⟩) ⟨f.2,λq=>?_,.inr f.1⟩)
 .rw[c];rw[qS] at q;simp only[aV,aI] at q |-;rcases q with q | q
  .exact .inl q
  .exact .inr (.inr q)
 .have n:=h.nd;rw[c] at n;rw[qS] at q;obtain⟨m,i,k⟩:=bB.mp n;rcases aV.mp q with q | q
  .exact k a q a aH rfl
  .exact (cD.mp i).1 q
theorem DS.write (h:DS K B (g++(.o d,some (.ref a))::L2) H) (r:∀ j,Kp (Al B (hO g++a::hO L2)) j H (upd H a o)->oO K j (upd H a o) a d'):DS K B (g++(.o d',some (.ref a))::L2) (upd H a o):=by
 have e:∀ d,hO (g++(Sl.o d,some (V.ref a))::L2)=hO g++a::hO L2:=λd=>rR
 have s:=h.new a (by rw[e];simp);obtain⟨u,t,A⟩:=h.live (a:=a) (by rw[e];simp);have k:Kp (Al B (hO g++a::hO L2)) (Al B (hO g++a::hO L2)) H (upd H a o):=.write t A λz=>z.2.1 (by simp)
 have n:=h.nd;rw[e] at n;have y:∀ b,b∈hO g\/b∈hO L2->b≠a:=λb c z=>by
  subst z;obtain⟨D,v,x⟩:=bB.mp n;rcases c with c | c
  .exact x b c b aH rfl
  .exact (cD.mp v).1 c
 refine⟨λb w q m=>?_,h.dk.upd s.2,by rw[e];exact n,λb c=>h.new b (by rw[e] at c |-;exact c),λp f=>?_⟩
 .have:b≠a:=λz=>by subst z;rw[s.1] at q;cases q
  rw[lS this];exact h.fr b w q m
 .rw[e];have old:∀ p,p∈g\/p∈L2->sC K (Al B (hO g++a::hO L2)) (upd H a o) p.1 p.2:=λp i=>by
   have:=h.ok p (by simp only[aV,aI];rcases i with q | q;exact .inl q;exact .inr (.inr q));rw[e] at this;refine this.mono k λb c w q=>?_
   rw[lS (y b ?_)]
   .exact q
   .rcases i with z | z
    .exact .inl (tT.mpr ⟨p,z,c⟩)
    .exact .inr (tT.mpr ⟨p,z,c⟩)
  simp only[aV,aI] at f;rcases f with q | q | q
  .exact old p (.inl q)
  .subst q;exact⟨a,rfl,r _ k⟩
  .exact old p (.inr q)
theorem DS.ownAt (h:DS K B (g++(.o d,some v)::L2) H):∃ a,v = .ref a/\oO K (Al B (hO g++a::hO L2)) H a d:=by
 obtain⟨a,e,r⟩:=h.at;cases e;rw[show hO (g++(Sl.o d,some (V.ref a))::L2)=hO g++a::hO L2 from rR] at r;exact⟨a,rfl,r⟩
theorem DS.perm (h:DS K B L H) (p:L.Perm M):DS K B M H:=by
 have e:(hO L).Perm (hO M):=p.filterMap zD;refine⟨h.fr,h.dk,e.nodup_iff.mp h.nd,λa b=>h.new a (e.mem_iff.mpr b),λq c=>(h.ok q (p.mem_iff.mpr c)).mono (.all λa z=>⟨z.1,λw=>z.2.1 (e.mem_iff.mpr w),z.2.2⟩) λ_ _ _ w=>w⟩
end
section
theorem vW {g:Aa Sl}{σ:St}(C:g.length=σ.length){i:Nat}{s:Sl}(h:g[i]?=some s):∃ j y l,σ[i]?=some y/\j.length=i/\g.zip σ=j++(s,y)::l/\∀ o p,(g.set i o).zip (σ.set i p)=j++(o,p)::l:=by
 induction g generalizing σ i with
 | nil=>simp at h
 | cons r g e =>
  cases σ with
  | nil=>simp at C
  | cons z σ =>
   cases i with
   | zero=>simp at h;subst h;exact⟨[],z,g.zip σ,rfl,rfl,rfl,λ_ _=>rfl⟩
   | succ i =>
    obtain⟨j,y,l,a,b,c,d⟩:=e (σ:=σ) (by simpa using C) (i:=i) (by simpa using h);exact⟨(r,z)::j,y,l,by simpa using a,by simp[b],by simp[c],λo p=>by simp[d]⟩
theorem Bx {g:St}{i:Nat}{y:Ab V}(h:g[i]?=some y):g.set i y=g:=by
 obtain⟨a,rfl⟩:=aU.mp h;exact List.set_getElem_self a
end
abbrev mP:=Aa Ad->Aa Sl->(Sl->Aa Sl->Prop)->Prop
abbrev qN:=Aa Ad->Aa Sl->(Bool->Aa Sl->Prop)->Prop
def dE (K:lL) (g:mP):TE:=λb H Q=>∃ (B:Bs) (c:Aa Sl) (T:nD) (e:Sl->Aa Sl->Prop),c.length=b.length/\DS K B (c.zip b++T) H/\g B.dk c e /\
 ∀ r a v d,a.length=b.length->DS K B (a.zip b++(r,some v)::T) d->e r a->Q v d
def sT (K:lL) (g:qN):TT:=λc H Q=>∃ (B:Bs) (d:Aa Sl) (T:nD) (f:Bool->Aa Sl->Prop),d.length=c.length/\DS K B (d.zip c++T) H/\g B.dk d f /\
 ∀ b a e,a.length=c.length->DS K B (a.zip c++T) e->f b a->Q b e
theorem dE.elim {K:lL}{P:Prop}(h:dE K C o H Q) (f:∀ (B:Bs) (j:Aa Sl) (T:nD) (l:Sl->Aa Sl->Prop),j.length=o.length->DS K B (j.zip o++T) H->C B.dk j l ->(∀ r g v p,g.length=o.length->DS K B (g.zip o++(r,some v)::T) p->l r g->Q v p)->P):P:=by
 obtain⟨B,j,T,l,a,hd,b,k⟩:=h;exact f B j T l a hd b k
theorem sT.elim {K:lL}{P:Prop}(h:sT K r o H Q) (f:∀ (B:Bs) (j:Aa Sl) (T:nD) (l:Bool->Aa Sl->Prop),j.length=o.length->DS K B (j.zip o++T) H->r B.dk j l ->(∀ b g p,g.length=o.length->DS K B (g.zip o++T) p->l b g->Q b p)->P):P:=by
 obtain⟨B,j,T,l,a,hd,c,k⟩:=h;exact f B j T l a hd c k
abbrev PD (X:Cx) (e:Expr) (g:mP):Prop:=PE X e (dE X.K g)
abbrev sG (X:Cx) (e:Expr) (g:qN):Prop:=PT X e (sT X.K g)
abbrev yP (X:Cx) (e:Expr) (g:qN):Prop:=PW X e (sT X.K g)
theorem PE.mono {X:Cx}(h:PE X e t) (k:∀ g H Q,j g H Q->t g H Q):PE X e j:=λa s g H Q I q=>h a s g H Q I (k g H Q q)
theorem PT.mono {X:Cx}(h:PT X e t) (k:∀ g H Q,j g H Q->t g H Q):PT X e j:=λa s g H Q I q=>h a s g H Q I (k g H Q q)
theorem PW.mono {X:Cx}(h:PW X e t) (k:∀ g H Q,j g H Q->t g H Q):PW X e j:=λb a s g H Q I q=>h b a s g H Q I (k g H Q q)
def sd:Sl->Ab D
 | .v d=>some d
 | .o d=>some d
 | .n=>none
section
variable {K:lL}{L2:nD}
theorem Mf:hO (g++(Sl.v d,y)::L2)=hO (g++L2):=by rw[rR,qS];rfl
theorem DS.thaw (h:DS K B (g++(r,some v)::L2) H) (e:sd r=some d):DS K B (g++(.v d,some v)::L2) H:=by
 cases r with
 | n=>cases e
 | v c=>cases e;exact h
 | o c=>cases e;exact h.freeze
theorem DS.one (h:DS K B (L++(r,some v)::T) H) (e:sd r=some d):DS K B (L++T) H/\Rep K (Al B (hO (L++T))) H d v:=by
 have a:=h.thaw e;exact⟨a.drop,a.valAt⟩
theorem DS.two (h:DS K B (L++(l,some u)::(r,some v)::T) H) (g:sd r=some d) (j:sd l=some e):DS K B (L++T) H/\Rep K (Al B (hO (L++T))) H d v/\Rep K (Al B (hO (L++T))) H e u:=by
 have m:=h.thaw j;have n:DS K B ((L++[(Sl.v e,some u)])++(r,some v)::T) H:=by simpa using m
 have a:=n.thaw g;have b:DS K B (L++(Sl.v e,some u)::(.v d,some v)::T) H:=by simpa using a
 have c:=b.valAt;have f:=a.valAt;have i:hO (L++(Sl.v d,some v)::T)=hO (L++T):=by rw[rR,qS];rfl
 have k:hO ((L++[(Sl.v e,some u)])++T)=hO (L++T):=by
  rw[bM];show hO (L++(Sl.v e,some u)::T)=_;rw[rR,qS];rfl
 rw[i] at c;rw[k] at f;exact⟨b.drop.drop,f,c⟩
theorem DS.mid (h:DS K B (x::(L++T)) H):DS K B (L++x::T) H:=h.perm gQ.symm
theorem DS.front (h:DS K B (L++x::T) H):DS K B (x::(L++T)) H:=h.perm gQ
theorem DS.pushF (h:DS K B L H) (r:Rep K (Al B (hO L)) H d v):DS K B ((.v d,some v)::L) H:=DS.push (L1:=[]) h r
theorem DS.tupF (h:DS K B L H) (j:H a=none) (r:Reps K (Al B (hO L)) H g l):DS K B ((.v (.t g),some (.ref a))::L) (upd H a (.t l)):=DS.tup (L1:=[]) h j r
theorem DS.lstF (h:DS K B L H) (p:H a=none) (r:Reps K (Al B (hO L)) H j g):DS K B ((.o (.l j),some (.ref a))::L) (upd H a (.l g)) :=
 DS.make (L1:=[]) h p λb k=>⟨g,lR,r.mono k⟩
theorem DS.dKF (h:DS K B L H) (g:H a=none) (e:ds.map (·.1)=kvs.map (·.1)) (r:Reps K (Al B (hO L)) H (ds.map (·.2)) (kvs.map (·.2))):DS K B ((.o (.k ds),some (.ref a))::L) (upd H a (.k kvs)) :=
 DS.make (L1:=[]) h g λb k=>⟨kvs,lR,e,r.mono k⟩
theorem DS.dTF (h:DS K B L H) (g:H a=none) (e:ds.map (·.1)=kvs.map (·.1)) (r:Reps K (Al B (hO L)) H (ds.map (·.2)) (kvs.map (·.2))):DS K B ((.o (.T ds),some (.ref a))::L) (upd H a (.T kvs)) :=
 DS.make (L1:=[]) h g λb k=>⟨kvs,lR,e,r.mono k⟩
end
def mU (K:lL) (A:Ad->Prop) (H:Hp):D->V->Prop
 | .l f,v=>∃ a h,v = .ref a/\H a=some (.l h)/\Reps K A H f h
 | .k f,v=>∃ a d,v = .ref a/\H a=some (.k d)/\f.map (·.1)=d.map (·.1)/\Reps K A H (f.map (·.2)) (d.map (·.2))
 | .T f,v=>∃ a d,v = .ref a/\Rd H a (.T d)/\f.map (·.1)=d.map (·.1)/\Reps K A H (f.map (·.2)) (d.map (·.2))
 | .e,v=>Rep K A H .e v
 | .b b,v=>Rep K A H (.b b) v
 | .int b,v=>Rep K A H (.int b) v
 | .str b,v=>Rep K A H (.str b) v
 | .r b,v=>Rep K A H (.r b) v
 | .t b,v=>Rep K A H (.t b) v
 | .con b,v=>Rep K A H (.con b) v
 | .c b,v=>Rep K A H (.c b) v
section
variable {K:lL}
theorem Rep.peek (h:Rep K A H d v):mU K A H d v:=by
 cases h with
 | l _ h r=>exact⟨_,_,rfl,h,r⟩
 | k _ h e r=>exact⟨_,_,rfl,h,e,r⟩
 | T _ h e r=>exact⟨_,_,rfl,h,e,r⟩
 | e=>exact .e
 | b=>exact .b _
 | int=>exact .int _
 | str=>exact .str _
 | r=>exact .r _
 | t h r=>exact .t h r
 | con h r=>exact .con h r
 | c h r=>exact .c h r
theorem oO.peek:∀ {d:D},oO K A H a d->mU K A H d (.ref a)
 | .l _,⟨b,h,r⟩=>⟨_,b,rfl,h,r⟩
 | .k _,⟨b,h,e,r⟩=>⟨_,b,rfl,h,e,r⟩
 | .T _,⟨b,h,e,r⟩=>⟨_,b,rfl,.inl h,e,r⟩
theorem mU.lst_inv (h:mU K A H (.l j) v):∃ a g,v = .ref a/\H a=some (.l g)/\Reps K A H j g:=h
theorem mU.dK_inv (h:mU K A H (.k j) v):∃ a g,v = .ref a/\H a=some (.k g)/\j.map (·.1)=g.map (·.1)/\Reps K A H (j.map (·.2)) (g.map (·.2)):=h
theorem mU.dT_inv (h:mU K A H (.T j) v):∃ a g,v = .ref a/\Rd H a (.T g)/\j.map (·.1)=g.map (·.1)/\Reps K A H (j.map (·.2)) (g.map (·.2)):=h
theorem mU.tup_inv (h:mU K A H (.t j) v):∃ a g,v = .ref a/\H a=some (.t g)/\Reps K A H j g:=Rep.tup_inv h
theorem mU.con_inv (h:mU K A H (.con j) v):∃ a g,v = .ref a/\Dc K a g/\Reps K A H j g:=Rep.con_inv h
theorem mU.scr_inv (h:mU K A H (.c j) v):∃ a g,v = .ref a/\wJ K H a g/\Reps K A H j g:=Rep.scr_inv h
theorem mU.int_inv (h:mU K A H (.int i) v):v = .int i:=Rep.int_inv h
theorem mU.str_inv (h:mU K A H (.str i) v):v = .str i:=Rep.str_inv h
theorem mU.bl_inv (h:mU K A H (.b i) v):v = .b i:=Rep.bl_inv h
theorem mU.non_inv (h:mU K A H .e v):v = .e:=Rep.non_inv h
theorem mU.raw_inv (h:mU K A H (.r u) v):v=u:=Rep.raw_inv h
def at? (g:Aa Sl) (i:Nat):Ab D:=(g[i]?).bind sd
theorem DS.peek (l:g.length=j.length) (h:DS K B (g.zip j++T) H) (e:at? g i=some d):∃ v,j[i]?=some (some v)/\mU K (Al B (hO (g.zip j++T))) H d v:=by
 unfold at? at e;cases f:g[i]? with
 | none=>rw[f] at e;cases e
 | some s =>
  rw[f] at e;obtain⟨q,y,t,k,_,m,_⟩:=vW l f;have b:=h;rw[m] at b;have:=b.ok (s,y) (by simp);rw[<- m] at this;cases s with
  | n=>cases e
  | v c=>cases e;obtain⟨v,rfl,r⟩:=this;exact⟨v,k,r.peek⟩
  | o c=>cases e;obtain⟨a,rfl,r⟩:=this;exact⟨_,k,r.peek⟩
end
noncomputable def vd (i:Nat):mP:=λ_ a b=>match a[i]? with
 | some (.v d)=>b (.v d) a
 | some (.o d)=>b (.v d) (a.set i (.v d))
 | _=>False
def cd (d:D):mP:=λ_ b a=>a (.v d) b
section
variable {X:Cx}
theorem dT (i:Nat) (h:PE X (.Name x pos) (oY i):=by exact pv _):PD X (.Name x pos) (vd i):=h.mono λL H Q z=>z.elim λB D T M w hd c k=>by
 unfold vd at c;cases e:D[i]? with
 | none=>rw[e] at c;exact c.elim
 | some s =>
  rw[e] at c;obtain⟨f,y,m,A,_,G,q⟩:=vW w e;have b:DS X.K B (f++(s,y)::(m++T)) H:=by rw[G] at hd;simpa using hd
  cases s with
  | n=>exact c.elim
  | v d =>
   obtain⟨v,rfl,_⟩:=b.at;refine⟨v,A,k _ _ v H w ?_ c⟩;refine hd.push ?_;have:=b.valAt;rw[G];have t:hO ((f++(Sl.v d,some v)::m)++T)=hO (f++(m++T)):=by
    rw[bM,cV,Mf]
   rw[t];exact this
  | o d =>
   obtain⟨a,rfl,_⟩:=b.at;have E:=b.freeze;have F:(D.set i (.v d)).zip L=f++(.v d,some (.ref a))::m:=by
    have:=q (.v d) (some (.ref a));rw[Bx A] at this;exact this
   have u:DS X.K B ((D.set i (.v d)).zip L++T) H:=by rw[F];simpa using E
   refine⟨.ref a,A,k _ _ _ H (by rw[bU];exact w) ?_ c⟩;refine u.push ?_;have:=E.valAt;rw[F];have t:hO ((f++(Sl.v d,some (V.ref a))::m)++T)=hO (f++(m++T)):=by
    rw[bM,cV,Mf]
   rw[t];exact this
theorem Em (h:PE X e (tC v)) (r:∀ K A H,Rep K A H d v):PD X e (cd d):=h.mono λm H Q a=>a.elim λB f T i b hd c k=>k _ f v H b (hd.push (r _ _ _)) c
theorem lN:PD X (.Constant (.int i) j pos) (cd (.int i)):=Em mT λ_ _ _=>.int i
theorem lY:PD X (.Constant (.str x) j pos) (cd (.str x)):=Em uZ λ_ _ _=>.str x
theorem J8:PD X (.Constant (.bool x) j pos) (cd (.b x)):=Em Yn λ_ _ _=>.b x
theorem As:PD X (.Constant .none j pos) (cd .e):=Em N6 λ_ _ _=>.e
abbrev O2:=D->D->(Sl->Prop)->Prop
def oU (K:lL) (r:R2) (f:O2):Prop:=∀ (B:Bs) (L:nD) (H:Hp) (d e:D) (x y:V) (b:Sl->Prop) (Q:VK),DS K B L H->mU K (Al B (hO L)) H d x->mU K (Al B (hO L)) H e y->f d e b ->
 (∀ s v a,b s->DS K B ((s,some v)::L) a->Q v a)->r x y H Q
def d2 (f:O2) (g j:mP):mP:=λc m k=>g c m λh a=>j c a λi b=>match sd h,sd i with
 | some d,some e=>f d e λr=>k r b
 | _,_=>False
theorem Hr (o:oU X.K r f) (h:dE X.K (d2 f p C) l H Q):dE X.K p l H λx j=>dE X.K C l j λy g=>r x y g Q:=by
 obtain⟨B,N,T,O,w,hd,A,k⟩:=h;refine⟨B,N,T,_,w,hd,A,λq m x j D d1 u=>⟨B,m,(q,some x)::T,_,D,d1,u,λM n y g E d2 a=>?_⟩⟩;cases b:sd q with
 | none=>rw[b] at a;exact a.elim
 | some d =>
  cases c:sd M with
  | none=>rw[b,c] at a;exact a.elim
  | some e =>
   rw[b,c] at a;obtain⟨F,G,L⟩:=d2.two b c;exact o B _ g d e x y _ Q F G.peek L.peek a λs v t z i=>k s n v t E i.mid z
def uI (f:O2) (i:Nat) (g:mP):mP:=λc b k=>(at? b i).isSome=true/\g c b λh a=>match at? a i,sd h with
 | some d,some e=>f d e λr=>k r a
 | _,_=>False
def T3 (f:O2) (g:mP) (i:Nat):mP:=λb k h=>g b k λc a=>match sd c,at? a i with
 | some d,some e=>f d e λr=>h r a
 | _,_=>False
theorem Eg (o:oU X.K r f) (h:dE X.K (uI f i p) j H Q):oY i j H λx l=>dE X.K p j l λy g=>r x y g Q:=by
 obtain⟨B,O,T,S,t,hd,⟨E,G⟩,k⟩:=h;obtain⟨P,D⟩:=dD.mp E;obtain⟨x,u,_⟩:=hd.peek t D;refine⟨x,u,B,O,T,_,t,hd,G,λN c y g w d2 a=>?_⟩;cases m:at? c i with
 | none=>rw[m] at a;exact a.elim
 | some d =>
  cases n:sd N with
  | none=>rw[m,n] at a;exact a.elim
  | some e =>
   rw[m,n] at a;obtain⟨z,M⟩:=d2.one n;obtain⟨R,b,L⟩:=z.peek w m;rw[u] at b;cases b;exact o B _ g d e x y _ Q z L M.peek a λs v A F q=>k s c v A w q.mid F
theorem BD (o:oU X.K r f) (h:dE X.K (T3 f p i) j H Q):dE X.K p j H λx g=>oY i j g λy l=>r x y l Q:=by
 obtain⟨B,G,T,L,w,hd,A,k⟩:=h;refine⟨B,G,T,_,w,hd,A,λF b x g q d1 a=>?_⟩;cases c:sd F with
 | none=>rw[c] at a;exact a.elim
 | some d =>
  cases m:at? b i with
  | none=>rw[c,m] at a;exact a.elim
  | some e =>
   rw[c,m] at a;obtain⟨t,E⟩:=d1.one c;obtain⟨y,D,py⟩:=t.peek q m;exact⟨y,D,o B _ g d e x y _ Q t E.peek py a λs v u z n=>k s b v u q n.mid z⟩
theorem qY (o:mO X (binaryOp op) r) (l:oU X.K r f) (i:Nat) (j:PD X b p) (g:PE X a (oY i):=by exact pv _):PD X (.BinOp a op b pos) (uI f i p):=(mQ o g j).mono λ_ _ _ h=>Eg l h
theorem F2 (p:mO X (compareOp op) r) (l:oU X.K r f) (g:PE X a (oY i)) (j:PD X b C) (o:behindInMarks op b=false:=by first | exact wD _ | (with_unfolding_all rfl)):PD X (.Compare a [op] [b] pos) (uI f i C) :=
 (Q6 p g j o).mono λ_ _ _ h=>Eg l h
theorem nG (o:mO X (binaryOp op) r) (l:oU X.K r f) (g:PD X a p) (j:PD X b C):PD X (.BinOp a op b pos) (d2 f p C):=(mQ o g j).mono λ_ _ _ h=>Hr l h
theorem Kd (p:mO X (compareOp op) r) (l:oU X.K r f) (g:PD X a C) (j:PD X b I) (o:behindInMarks op b=false:=by first | exact wD _ | (with_unfolding_all rfl)):PD X (.Compare a [op] [b] pos) (d2 f C I) :=
 (Q6 p g j o).mono λ_ _ _ h=>Hr l h
def Dg (t:mP):qN:=λc e d=>t c e λr a=>match r with
 | .v (.b b)=>d b a
 | _=>False
theorem L7 (h:sT X.K (Dg t) j H Q):dE X.K t j H λx g=>∃ k,x = .b k/\Q k g:=by
 obtain⟨B,m,T,q,e,hd,f,k⟩:=h;refine⟨B,m,T,_,e,hd,f,λr c v g i d1 a=>?_⟩;cases r with
 | n=>exact a.elim
 | o d=>exact a.elim
 | v d =>
  cases d with
  | b b=>exact⟨b,d1.valAt.bl_inv,k b c g i d1.drop a⟩
  | _=>exact a.elim
theorem tY (p:mO X (compareOp op) r) (l:oU X.K r f) (g:PE X a (oY i)) (j:PD X b C) (o:behindInMarks op b=false:=by first | exact wD _ | (with_unfolding_all rfl)):sG X (.Compare a [op] [b] pos) (Dg (uI f i C)) :=
 (vR p g j o).mono λc H Q h=>Eg l (L7 h)
theorem Ft (p:mO X (compareOp op) r) (l:oU X.K r f) (g:PD X a C) (j:PE X b (oY i)) (o:behindInMarks op b=false:=by first | exact wD _ | (with_unfolding_all rfl)):sG X (.Compare a [op] [b] pos) (Dg (T3 f C i)) :=
 (vR p g j o).mono λc H Q h=>BD l (L7 h)
theorem CK (p:mO X (compareOp op) r) (l:oU X.K r f) (g:PD X a C) (j:PD X b I) (o:behindInMarks op b=false:=by first | exact wD _ | (with_unfolding_all rfl)):sG X (.Compare a [op] [b] pos) (Dg (d2 f C I)) :=
 (vR p g j o).mono λc H Q h=>by
  have:=L7 h;exact Hr l this
end
section
variable [DecidableEq κ]
noncomputable def lW (g:Aa (κ×D)) (k:κ):Ab D:=(g.find? λa=>decide (a.1=k)).map (·.2)
noncomputable def mY (g:Aa (κ×D)) (k:κ) (d:D):Aa (κ×D):=if g.any (λa=>decide (a.1=k)) then g.map (λa=>if a.1=k then (a.1,d) else a) else g++[(k,d)]
theorem Jy:lW ([]:Aa (κ×D)) k=none:=rfl
theorem vV {k j:κ}{d:D}{r:Aa (κ×D)}:lW ((j,d)::r) k=if j=k then some d else lW r k:=by
 unfold lW;rw[List.find?_cons];by_cases h:j=k<;>simp[h]
theorem G6 (k:κ):∀ g:Aa (κ×D),(g.any λl=>decide (l.1=k))=(lW g k).isSome
 | []=>rfl
 | (j,d)::r=>by
  rw[vV,fF,G6 k r];by_cases h:j=k<;>simp[h]
theorem O6 (g:Aa (κ×D)) (k j:κ) (d:D):lW (mY g k d) j=if k=j then some d else lW g j:=by
 unfold mY;rw[G6];have a:∀ r:Aa (κ×D),lW (r.map λf=>if f.1=k then (f.1,d) else f) j=if k=j then (lW r j).map (λ_=>d) else lW r j:=by
  intro r;induction r with
  | nil=>simp[Jy]
  | cons p r b =>
   obtain⟨i,e⟩:=p;rw[aP];by_cases h:i=k
   .subst h;simp only[gE,vV,b];by_cases z:i=j<;>simp[z]
   .simp only[h,fR,vV,b];by_cases z:i=j
    .subst z;simp[cY h]
    .simp[z]
 have c:∀ r:Aa (κ×D),lW r k=none->lW (r++[(k,d)]) j=if k=j then some d else lW r j:=by
  intro r;induction r with
  | nil=>intro _;rw[fY,vV,Jy]
  | cons p r b =>
   obtain⟨i,e⟩:=p;rw[vV];by_cases h:i=k
   .simp[h]
   .rw[aN h];intro m;rw[cV,vV,b m,vV];by_cases z:i=j
    .subst z;simp[cY h]
    .simp[z]
 cases e:lW g k with
 | none=>simp only[Option.isSome_none,dR,fR];exact c g e
 | some w =>
  simp only[kS,gE,a];by_cases z:k=j
  .subst z;simp[e]
  .simp[z]
theorem Wa (g:Aa (κ×D)) (k:κ) (d:D):(mY g k d).length<=g.length+1:=by
 unfold mY;split<;>simp
end
section
variable [DecidableEq κ] {K:lL}
theorem Ic:∀ {l:Aa (κ×D)}{g:Aa (κ×V)},l.map (·.1)=g.map (·.1)->Reps K A H (l.map (·.2)) (g.map (·.2))->∀ k,(∀ d,lW l k=some d->∃ v,oV g k=some v/\Rep K A H d v)/\(lW l k=none->oV g k=none)
 | [],[],_,_,k=>⟨λd h=>by simp[Jy] at h,λ_=>rfl⟩
 | [],_::_,e,_,_=>by simp at e
 | _::_,[],e,_,_=>by simp at e
 | (i,d)::l,(j,v)::g,e,r,k=>by
  simp only[aP,fZ] at e;obtain⟨a,b⟩:=e;subst a;cases r with
  | cons h r =>
   have c:=Ic b r k;rw[vV];by_cases z:i=k
   .rw[aT z,B6 z];exact⟨λf q=>by cases q;exact⟨v,rfl,h⟩,λq=>by cases q⟩
   .rw[aN z,Bf z];exact c
theorem Fn {o:Aa (κ×D)}{l:Aa (κ×V)}(e:o.map (·.1)=l.map (·.1)) (r:Reps K A H (o.map (·.2)) (l.map (·.2))){k:κ}{d:D}{v:V}(h:Rep K A H d v) :
  (mY o k d).map (·.1)=(nY l k v).map (·.1)/\Reps K A H ((mY o k d).map (·.2)) ((nY l k v).map (·.2)):=by
 have m:∀ (o:Aa (κ×D)) (l:Aa (κ×V)),o.map (·.1)=l.map (·.1)->(o.any λa=>decide (a.1=k))=l.any λa=>decide (a.1=k):=by
  intro o;induction o with
  | nil=>intro l e;cases l with
   | nil=>rfl
   | cons _ _=>simp at e
  | cons p o b=>intro l e;cases l with
   | nil=>simp at e
   | cons q l =>
    simp only[aP,fZ] at e;rw[fF,fF,b l e.2,e.1]
 have n:∀ (o:Aa (κ×D)) (l:Aa (κ×V)),o.map (·.1)=l.map (·.1)->Reps K A H (o.map (·.2)) (l.map (·.2)) ->
   (o.map λa=>if a.1=k then (a.1,d) else a).map (·.1)=(l.map λa=>if a.1=k then (a.1,v) else a).map (·.1) /\
   Reps K A H ((o.map λa=>if a.1=k then (a.1,d) else a).map (·.2)) ((l.map λa=>if a.1=k then (a.1,v) else a).map (·.2)):=by
  intro o;induction o with
  | nil=>intro l e r;cases l with
   | nil=>exact⟨rfl,.nil⟩
   | cons _ _=>simp at e
  | cons p o b=>intro l e r;cases l with
   | nil=>simp at e
   | cons q l =>
    simp only[aP,fZ] at e;cases r with
    | cons g r =>
     obtain⟨c,f⟩:=b l e.2 r;obtain⟨i,s⟩:=p;obtain⟨j,v0⟩:=q;obtain⟨rfl,t⟩:=e;by_cases z:i=k
     .simp only[aP,z,gE];exact⟨by rw[c],.cons h f⟩
     .simp only[aP,z,fR];exact⟨by rw[c],.cons g f⟩
 unfold mY nY;rw[m o l e];by_cases z:(l.any λa=>decide (a.1=k))=true
 .rw[aT z,aT z];exact n o l e r
 .rw[aN z,aN z];simp only[aR,aP,lB];exact⟨by rw[e],r.append (.cons h .nil)⟩
end
section
variable {X:Cx}{K:lL}
def Rn (K:lL):R2:=λx y H Q=>∃ a b c,x = .ref a/\y = .ref b/\mF K H a []/\mF K H b c/\Q (.ref b) H
theorem Xn:mO X (binaryOp .Add) (Rn X.K):=by
 intro w s Y H x y v u Q I N O h;obtain⟨a,b,W,rfl,rfl,B,D,q⟩:=h;cases N;cases O;obtain⟨E,M,G,_⟩:=I.tuple B;obtain⟨t,V,L,_⟩:=I.tuple D;cases M;obtain⟨⟨P,A,S,sl⟩,m,k,n,hd⟩:=id G;obtain⟨⟨R,f,z,i⟩,e,c,F,d⟩:=id L;simp only at k hd c d;subst k hd c d;exact concat_meets ⟨_,m,rfl⟩ ⟨_,e,rfl⟩ noFill_tuple_add seq_tuple_add jM jF (iS _ _)
  (tuple_addW0 a b _ _ n F A f sl i (by simp)) ⟨m,e,⟨.ref b,H,I,rfl,q⟩⟩
def Ru (K:lL):R2:=λx y H Q=>(uK λi j=>.int (i+j)) x y H Q\/(∃ i j,x = .str i/\y = .str j/\i.length+j.length<=sizeLine/\Q (.str (i++j)) H)\/Sf x y H Q\/S4 K x y H Q\/Rn K x y H Q
theorem oG:mO X (binaryOp .Add) (Ru X.K):=wH.or (wW.or (B4.or (CO.or Xn)))
theorem zL (h:n<=100000):n<=sizeLine:=cK h (by decide)
def Hk:O2
 | .int i,.int j,a=>a (.v (.int (i+j)))
 | .str i,.str j,a=>i.length+j.length<=100000/\a (.v (.str (i++j)))
 | .l b,.l c,a=>b.length+c.length<=100000/\a (.o (.l (b++c)))
 | .t b,.t c,a=>b.length+c.length<=100000/\a (.v (.t (b++c)))
 | _,_,_=>False
theorem oE:oU K (Ru K) Hk:=by
 intro B L H d e x y A Q hd n s c k;cases d<;>first | exact False.elim c | skip<;>cases e<;>first | exact False.elim c | skip
 .cases n;cases s;exact .inl ⟨_,_,rfl,rfl,k _ _ H c (hd.pushF (.int _))⟩
 .cases n;cases s;exact .inr (.inl ⟨_,_,rfl,rfl,zL c.1,k _ _ H c.2 (hd.pushF (.str _))⟩)
 .obtain⟨a,m,rfl,t,f⟩:=n.tup_inv;obtain⟨b,i,rfl,u,h⟩:=s.tup_inv;have v:m.length+i.length<=100000:=by rw[<- f.length,<- h.length];exact c.1
  by_cases z:m=[]
  .subst z;have:=f.nil_iff.mp rfl;subst this;exact .inr (.inr (.inr (.inr ⟨a,b,i,rfl,rfl,mF.of t,mF.of u,k _ _ H c.2 (hd.pushF s)⟩)))
  .refine .inr (.inr (.inr (.inl ⟨a,b,m,i,rfl,rfl,mF.of t,mF.of u,z,zL v,λq=>?_,λ_ p w=>k _ _ _ c.2 (hd.tupF w (f.append h))⟩)));subst q;have:=h.nil_iff.mp rfl;subst this;exact k _ _ H c.2 (by rw[dM];exact hd.pushF n)
 .obtain⟨a,m,rfl,t,f⟩:=n.lst_inv;obtain⟨b,i,rfl,u,h⟩:=s.lst_inv;have v:m.length+i.length<=100000:=by rw[<- f.length,<- h.length];exact c.1
  exact .inr (.inr (.inl ⟨a,b,m,i,rfl,rfl,t,u,zL v,λp w=>k _ _ _ c.2 (hd.lstF w (f.append h))⟩))
def fI (C:Int->Int->Prop) (g:Int->Int->D):O2
 | .int i,.int j,a=>C i j/\a (.v (g i j))
 | _,_,_=>False
theorem Ij (p:∀ i j,C i j->l i j) (r:∀ A H i j,Rep K A H (g i j) (o i j)):oU K (rI l o) (fI C g):=by
 intro B L H d e x y f Q hd b c a k;cases d<;>first | exact False.elim a | skip<;>cases e<;>first | exact False.elim a | skip
 cases b;cases c;exact⟨_,_,rfl,rfl,p _ _ a.1,k _ _ H a.2 (hd.pushF (r _ _ _ _))⟩
def Fl (g:Int->Int->D):O2
 | .int i,.int j,a=>a (.v (g i j))
 | _,_,_=>False
theorem Il (o:∀ A H i j,Rep K A H (g i j) (l i j)):oU K (uK l) (Fl g):=by
 intro B L H d e x y f Q hd b c a k;cases d<;>first | exact False.elim a | skip<;>cases e<;>first | exact False.elim a | skip
 cases b;cases c;exact⟨_,_,rfl,rfl,k _ _ H a (hd.pushF (o _ _ _ _))⟩
abbrev LB:O2:=Fl λi j=>.int (i-j)
theorem xW:oU K (uK λi j=>.int (i-j)) LB:=Il λ_ _ _ _=>.int _
def Um:R2:=λx y H Q=>(rI G4 λi j=>.int (i*j)) x y H Q\/O4 x y H Q
theorem xB:mO X (binaryOp .Mult) Um:=vC.or GY
def Dw:O2
 | .int i,.int j,a=>((-(2 ^ 64)<i/\i<2 ^ 64)\/(-(2 ^ 64)<j/\j<2 ^ 64))/\a (.v (.int (i*j)))
 | .l b,.int k,a=>0<=k/\k<=1000/\b.length<=100/\a (.o (.l (List.replicate k.toNat b).flatten))
 | _,_,_=>False
theorem Si (r:Reps K A H g j):∀ k:Nat,Reps K A H (List.replicate k g).flatten (List.replicate k j).flatten
 | 0=>.nil
 | k+1=>by rw[dH,dH,gF,gF];exact r.append (Si r k)
theorem xE:oU K Um Dw:=by
 intro B L H d e x y w Q hd h i b k;cases d<;>first | exact False.elim b | skip<;>cases e<;>first | exact False.elim b | skip
 .cases h;cases i;exact .inl ⟨_,_,rfl,rfl,b.1,k _ _ H b.2 (hd.pushF (.int _))⟩
 .cases i
  rename_i n
  obtain⟨a,m,rfl,q,f⟩:=h.lst_inv;obtain⟨u,v,s,b⟩:=b;have c:m.length<=100:=by rw[<- f.length];exact s
  refine .inr ⟨a,n,m,rfl,rfl,q,by omega,by omega,cK (Nat.mul_le_mul c (show n.toNat<=1000 by omega)) (by decide),λp t=>?_⟩;exact k _ _ _ b (hd.lstF t (Si f _))
theorem Zi {j:Int}(g:0<j) (h:j<2 ^ 64):j.natAbs.log2<9000:=by
 have:j.natAbs<2 ^ 64:=by omega
 exact bD ((Nat.log2_lt (by omega)).mpr this) (by decide)
theorem Qr:mO X (binaryOp .FloorDiv) (rI (λ_ j=>0<j/\j<2 ^ 64) λi j=>.int (i/j)):=Ap λi j _ _ _ _ _ a q=>by
 refine floordiv_int (by omega) ?_ (.inl (PyProof.noPylong_of_log2 (Zi a.1 a.2)));rw[iD _ (by omega)];exact q
abbrev HI:O2:=fI (λ_ j=>0<j/\j<2 ^ 64) λi j=>.int (i/j)
theorem CL:oU K (rI (λ_ j=>0<j/\j<2 ^ 64) λi j=>.int (i/j)) HI:=Ij (λ_ _ h=>h) λ_ _ _ _=>.int _
abbrev Zg:O2:=fI (λ_ j=>0<j) λi j=>.int (i%j)
theorem Ub:oU K (rI (λ_ j=>0<j) λi j=>.int (i%j)) Zg:=Ij (λ_ _ h=>h) λ_ _ _ _=>.int _
abbrev OQ:O2:=fI (λi j=>0<=j/\j<=1000000/\i.natAbs<2 ^ 64) λi j=>.int (i*2 ^ j.toNat)
theorem Cy:oU K (rI Vr λi j=>.int (i*2 ^ j.toNat)) OQ:=Ij (λ_ _ h=>h) λ_ _ _ _=>.int _
abbrev MM:O2:=Fl λi j=>.b (decide (j<i))
theorem OA:oU K (uK λi j=>.b (decide (j<i))) MM:=Il λ_ _ _ _=>.b _
abbrev JB:O2:=Fl λi j=>.b (decide (j<=i))
theorem LD:oU K (uK λi j=>.b (decide (j<=i))) JB:=Il λ_ _ _ _=>.b _
def NH (neg:Bool):O2
 | .e,.e,a=>a (.v (.b (!neg)))
 | .r v,.e,a=>v ≠ .e/\a (.v (.b neg))
 | _,.e,a=>a (.v (.b neg))
 | _,_,_=>False
theorem IP (r:mU K A H d x):(d = .e/\x = .e)\/(∃ v,d = .r v/\x=v)\/(x ≠ .e/\d ≠ .e/\∀ v,d ≠ .r v):=by
 cases d with
 | e=>exact .inl ⟨rfl,r.non_inv⟩
 | r v=>exact .inr (.inl ⟨_,rfl,r.raw_inv⟩)
 | l _=>obtain⟨a,f,rfl,_⟩:=r.lst_inv;exact .inr (.inr ⟨by simp,by simp,by simp⟩)
 | k _=>obtain⟨a,f,rfl,_⟩:=r.dK_inv;exact .inr (.inr ⟨by simp,by simp,by simp⟩)
 | T _=>obtain⟨a,f,rfl,_⟩:=r.dT_inv;exact .inr (.inr ⟨by simp,by simp,by simp⟩)
 | t _=>obtain⟨a,f,rfl,_⟩:=r.tup_inv;exact .inr (.inr ⟨by simp,by simp,by simp⟩)
 | con _=>obtain⟨a,f,rfl,_⟩:=r.con_inv;exact .inr (.inr ⟨by simp,by simp,by simp⟩)
 | c _=>obtain⟨a,f,rfl,_⟩:=r.scr_inv;exact .inr (.inr ⟨by simp,by simp,by simp⟩)
 | b _=>have:=r.bl_inv;subst this;exact .inr (.inr ⟨by simp,by simp,by simp⟩)
 | int _=>have:=r.int_inv;subst this;exact .inr (.inr ⟨by simp,by simp,by simp⟩)
 | str _=>have:=r.str_inv;subst this;exact .inr (.inr ⟨by simp,by simp,by simp⟩)
theorem Ls (neg:Bool):oU K (λx y H Q=>y = .e/\Q (.b (if neg then !decide (x = .e) else decide (x = .e))) H) (NH neg):=by
 intro B L H d e x y w Q hd t u a k;have n:e = .e:=by
  cases e<;>first | rfl | (exfalso;cases d<;>exact a)
 subst n;have s:=u.non_inv;subst s;refine⟨rfl,?_⟩;rcases IP t with⟨rfl,rfl⟩ | ⟨v,rfl,rfl⟩ | ⟨h,i,m⟩
 .have c:(if neg then !decide ((V.e) = .e) else decide (V.e = .e)) = !neg:=by cases neg<;>rfl
  rw[c];exact k _ _ H a (hd.pushF (.b _))
 .obtain⟨q,a⟩:=a;have c:(if neg then !decide (x=V.e) else decide (x = .e))=neg:=by cases neg<;>simp[q]
  rw[c];exact k _ _ H a (hd.pushF (.b _))
 .have c:(if neg then !decide (x=V.e) else decide (x = .e))=neg:=by cases neg<;>simp[h]
  rw[c];have f:w (.v (.b neg)):=by
   cases d with
   | e=>exact absurd rfl i
   | r v=>exact absurd rfl (m v)
   | _=>exact a
  exact k _ _ H f (hd.pushF (.b _))
theorem Pm:mO X (compareOp .Is) (λx y H Q=>y = .e/\Q (.b (if false then !decide (x = .e) else decide (x = .e))) H):=BA
theorem Yg:mO X (compareOp .IsNot) (λx y H Q=>y = .e/\Q (.b (if true then !decide (x = .e) else decide (x = .e))) H):=JN
end
noncomputable def sK:D->Ab hI
 | .int i=>some (.inl i)
 | .str x=>some (.inr x)
 | _=>none
def uO:Aa D->Ab (Aa hI)
 | []=>some []
 | d::a=>match sK d,uO a with
  | some k,some b=>some (k::b)
  | _,_=>none
noncomputable def nb (neg b:Bool):Bool:=if neg then !b else b
section
variable {X:Cx}{K:lL}
theorem B8 (h:sK d=some k) (r:mU K A H d v):v=kV k:=by
 cases d<;>cases h
 .exact r.int_inv
 .exact r.str_inv
theorem Vt (h:uO g=some j) (l:Reps K A H g o):o=j.map kV:=by
 induction g generalizing j o with
 | nil=>cases l;cases h;rfl
 | cons d g c =>
  cases l with
  | cons r l =>
  have h:=(show (match sK d,uO g with | some k,some j=>some (k::j) | _,_=>none)=some j from h);cases a:sK d with
  | none=>rw[a] at h;cases h
  | some k =>
   cases b:uO g with
   | none=>rw[a,b] at h;cases h
   | some e =>
    rw[a,b] at h;cases h;rw[B8 a r.peek,c b l];rfl
def yN:D->D->Ab (Ab D)
 | .k a,d=>(sK d).map (lW a)
 | .T a,.t b=>(uO b).map (lW a)
 | _,_=>none
theorem Jn (h:yN d e=some o) (g:mU K A H d x) (j:mU K A H e y):∃ a w,x = .ref a/\qD H a y w/\(∀ c,o=some c->∃ v,w=some v/\Rep K A H c v)/\(o=none->w=none):=by
 cases d with
 | k q =>
  obtain⟨a,D,rfl,i,f,z⟩:=g.dK_inv;obtain⟨k,n,rfl⟩:=cP.mp h;rw[B8 n j];obtain⟨s,u⟩:=Ic f z k;exact⟨a,_,rfl,qD.k i,λc m=>s c m,u⟩
 | T q =>
  obtain⟨a,D,rfl,i,f,z⟩:=g.dT_inv;cases e with
  | t G =>
   obtain⟨b,F,rfl,B,E⟩:=j.tup_inv;obtain⟨k,n,rfl⟩:=cP.mp h;rw[Vt n E] at B;obtain⟨s,u⟩:=Ic f z k;exact⟨a,_,rfl,.inr ⟨D,k,b,i,rfl,B,rfl⟩,λc m=>s c m,u⟩
  | _=>cases h
 | _=>cases h
def Ti:R2:=λx y H Q=>∃ a v,x = .ref a/\qD H a y (some v)/\Q v H
theorem GD (j:X.A.units+1<cLine):tW X Ti:=by
 intro value slice b s m H x y v u Q I i k h f;obtain⟨a,w,rfl,g,q⟩:=h;cases i;unfold subscriptTail;refine aB ?_;rw[getitemInPython_of_ne (Kz I g).not_modules];refine aB (wpAny_specialOf (Kz I g) PySem.F.slot_dict_getitem.lookup ?_);have fin:wpAny (model X.prog X.w) X.A (subscripted slice false (.ref a) u) (λr c=>wpAny (model X.prog X.w) X.A (letTemporaryGo value (.ref a) r >>= λ_=>pure r) (EP X b m Q) X.xe c) X.xe s:=by
  rw[f];exact wpAny_operating (Jk j I g k λt n e d=>aB (wpAny_letTemporaryGo (aG ⟨w,H,e,d,q⟩)))
 first
  | exact aG (aB fin)
  | exact aB (aG (aB fin))
  | exact aB fin
def Kj (K:lL):R2:=λx y H Q=>Ve K x y H Q\/Ti x y H Q
theorem Tz (g:X.A.units+1<cLine):tW X (Kj X.K):=IS.or (GD g)
def Mi:O2:=λd e b=>match d,e with
 | .l a,.int i=>∃ c,nT a i=some c/\b (.v c)
 | .t a,.int i=>∃ c,nT a i=some c/\b (.v c)
 | .con a,.int i=>∃ c,nT a i=some c/\b (.v c)
 | .c a,.int i=>∃ c,nT a i=some c/\b (.v c)
 | .str z,.int i=>z.length<=100000/\∃ c,nT z.cps.toList i=some c/\b (.v (.str ⟨#[c]⟩))
 | d,e=>∃ c,yN d e=some (some c)/\b (.v c)
theorem Gu (r:Reps K A H g l) (h:nT g i=some c):∃ v,nT l i=some v/\Rep K A H c v:=by
 unfold nT at h |-;rw[<- r.length];cases e:uS g.length i with
 | none=>rw[e] at h;cases h
 | some j =>
  rw[e] at h;obtain⟨v,a,b⟩:=r.get (i:=j) h;exact⟨v,a,b⟩
theorem Qy:oU K (Kj K) Mi:=by
 intro B L H d e x y D Q hd t u b k;have f:(∃ c,yN d e=some (some c)/\D (.v c))->Kj K x y H Q:=λz=>by
  obtain⟨c,h,b⟩:=z;obtain⟨a,w,rfl,g,i,_⟩:=Jn h t u;obtain⟨v,rfl,m⟩:=i c rfl;exact .inr ⟨a,v,rfl,g,k _ _ H b (hd.pushF m)⟩
 cases d<;>first | exact f b | skip
 .cases e<;>first | exact f b | skip
  cases u;cases t;obtain⟨A,c,h,b⟩:=b;exact .inl (.inr (.inr ⟨_,_,c,rfl,rfl,zL A,h,k _ _ H b (hd.pushF (.str _))⟩))
 .obtain⟨a,s,rfl,i,q⟩:=t.tup_inv;cases e<;>first | exact f b | skip
  cases u;obtain⟨c,h,b⟩:=b;obtain⟨v,n,m⟩:=Gu q h;exact .inl (.inr (.inl ⟨a,s,_,v,rfl,rfl,mF.of i,n,k _ _ H b (hd.pushF m)⟩))
 .obtain⟨a,s,rfl,i,q⟩:=t.lst_inv;cases e<;>first | exact f b | skip
  cases u;obtain⟨c,h,b⟩:=b;obtain⟨v,n,m⟩:=Gu q h;exact .inl (.inl ⟨a,s,_,v,rfl,rfl,lO.of i,n,k _ _ H b (hd.pushF m)⟩)
 .obtain⟨a,s,rfl,i,q⟩:=t.scr_inv;cases e<;>first | exact f b | skip
  cases u;obtain⟨c,h,b⟩:=b;obtain⟨v,n,m⟩:=Gu q h;exact .inl (.inl ⟨a,s,_,v,rfl,rfl,i.sqL,n,k _ _ H b (hd.pushF m)⟩)
 .obtain⟨a,s,rfl,i,q⟩:=t.con_inv;cases e<;>first | exact f b | skip
  cases u;obtain⟨c,h,b⟩:=b;obtain⟨v,n,m⟩:=Gu q h;exact .inl (.inr (.inl ⟨a,s,_,v,rfl,rfl,i.sqT,n,k _ _ H b (hd.pushF m)⟩))
theorem tJ (o:X.A.units+1<cLine) (g:PD X a p) (j:PD X b r) (l:Lt b:=by exact λ_ _=>rfl):PD X (.Subscript a b pos) (d2 Mi p r) :=
 (oZ (Tz o) g j l).mono λ_ _ _ h=>Hr Qy h
def Uu (neg:Bool):R2:=λy x H Q=>∃ a o,x = .ref a/\qD H a y o/\Q (.b (nb neg o.isSome)) H
theorem NX (j:X.A.units+1<cLine):mO X (compareOp .NotIn) (Uu true):=by
 intro c s k H x y v u Q I e f h;obtain⟨a,o,rfl,g,q⟩:=h;cases f;exact Nc j I g e λi d=>⟨.b (!o.isSome),H,d,rfl,q⟩
def Us (neg:Bool):R2:=λx y H Q=>∃ i j,x = .str i/\y = .str j/\Q (.b (nb neg (!(Builtin.Str.occurrences j i 0 j.length 1).isEmpty))) H
def Gq (K:lL) (neg:Bool):R2:=λx y H Q=>Es K neg x y H Q\/Us neg x y H Q\/Uu neg x y H Q
theorem Gi (g:X.A.units+1<cLine):mO X (compareOp .NotIn) (Gq X.K true):=V9.or ((show mO X (compareOp .NotIn) (Us true) from Xm).or (NX g))
noncomputable def qE:D->Ab V
 | .e=>some .e
 | .b b=>some (.b b)
 | .int i=>some (.int i)
 | .str x=>some (.str x)
 | _=>none
def qI:Aa D->Ab (Aa V)
 | []=>some []
 | d::a=>match qE d,qI a with
  | some v,some b=>some (v::b)
  | _,_=>none
theorem Dj {l:Type}{f:l->D}{g:l->V}(h:∀ x,qE (f x)=some (g x)):∀ j:Aa l,qI (j.map f)=some (j.map g)
 | []=>rfl
 | x::j=>by
  show (match qE (f x),qI (j.map f) with | some v,some a=>some (v::a) | _,_=>none)=_;rw[h x,Dj h j];rfl
theorem L5 (h:qE d=some u) (r:mU K A H d v):v=u/\pZ u=true:=by
 cases d<;>cases h<;>cases r<;>exact⟨rfl,rfl⟩
theorem Jc (h:qI g=some l) (j:Reps K A H g o):o=l/\l.all pZ=true:=by
 induction g generalizing l o with
 | nil=>cases j;cases h;exact⟨rfl,rfl⟩
 | cons d g m =>
  cases j with
  | cons r j =>
  have h:=(show (match qE d,qI g with | some v,some o=>some (v::o) | _,_=>none)=some l from h);cases a:qE d with
  | none=>rw[a] at h;cases h
  | some k =>
   cases b:qI g with
   | none=>rw[a,b] at h;cases h
   | some n =>
    rw[a,b] at h;cases h;obtain⟨c,e⟩:=L5 a r.peek;obtain⟨f,i⟩:=m b j;exact⟨by rw[c,f],by rw[List.all_cons,e,i];rfl⟩
def Gg (neg:Bool) (d:D) (g:Aa D) (j:Sl->Prop):Prop:=∃ v a,qE d=some v/\qI g=some a/\j (.v (.b (nb neg (xY v a))))
def OJ (neg:Bool):O2:=λd e c=>match e with
 | .l a=>Gg neg d a c
 | .t a=>Gg neg d a c
 | .con a=>Gg neg d a c
 | .str j=>∃ i,d = .str i/\c (.v (.b (nb neg (!(Builtin.Str.occurrences j i 0 j.length 1).isEmpty))))
 | e=>∃ o,yN e d=some o/\c (.v (.b (nb neg o.isSome)))
theorem Hm (neg:Bool):oU K (Gq K neg) (OJ neg):=by
 intro B L H d e x y G Q hd E s h k;have seq:∀ (a:Ad) (F:Aa D) (t:Aa V),Gg neg d F G->y = .ref a->(lO K H a t\/mF K H a t)->Reps K (Al B (hO L)) H F t->Gq K neg x y H Q:=by
  rintro a F t ⟨v,m,f,z,M⟩ rfl O r;obtain⟨P,R⟩:=L5 f E;obtain⟨S,W⟩:=Jc z r;subst P S;exact .inl ⟨a,t,rfl,O,R,W,k _ _ H M (hd.pushF (.b _))⟩
 have u:(∃ o,yN e d=some o/\G (.v (.b (nb neg o.isSome))))->Gq K neg x y H Q:=λA=>by
  obtain⟨o,N,h⟩:=A;obtain⟨a,w,rfl,g,f,z⟩:=Jn N s E;have e:o.isSome=w.isSome:=by
   cases o with
   | none=>rw[z rfl];rfl
   | some c=>obtain⟨v,rfl,_⟩:=f c rfl;rfl
  exact .inr (.inr ⟨a,w,rfl,g,by rw[<- e];exact k _ _ H h (hd.pushF (.b _))⟩)
 cases e<;>first | exact u h | skip
 .obtain⟨i,rfl,h⟩:=h;cases E;cases s;exact .inr (.inl ⟨_,_,rfl,rfl,k _ _ H h (hd.pushF (.b _))⟩)
 .obtain⟨a,m,n,f,q⟩:=s.tup_inv;exact seq a _ m h n (.inr (mF.of f)) q
 .obtain⟨a,m,n,f,q⟩:=s.lst_inv;exact seq a _ m h n (.inl (lO.of f)) q
 .obtain⟨a,m,n,f,q⟩:=s.con_inv;exact seq a _ m h n (.inr f.sqT) q
end
section
variable {X:Cx}{K:lL}
theorem NF {A:Around}{s:Ae}{g:Aa (hI×V)}{o:Aa (hI×Ac)}(C:KV g o) (r:Aa (hI×V)) (j:Aa (hI×Ac)) (h:KV r j)
  (l:∀ p∈r,∃ w,oV g p.1=some w/\pZ p.2=true/\pZ w=true/\oS p.2 w=true):PySem.W.KeqHits A s o j true:=by
 induction h with
 | nil=>exact .nil
 | @cons a b r j m B q =>
  obtain⟨k,v⟩:=a;obtain⟨t,z⟩:=b;obtain⟨e,u⟩:=m;have e:k=t:=e;subst e;obtain⟨w,hw,f1,f2,i⟩:=l (k,v) aH;have d:=C.val k;rw[hw] at d;obtain⟨y,f,x⟩:=d.some_of;have c:SeqAt.EqAt A s z y (oS v w):=Kw u x f1 f2;rw[i] at c;have:=PySem.W.KeqHits.hit f c (q λp n=>l p (aM _ n));rw[Bool.true_and] at this;exact this
def J6 (neg:Bool):R2:=λx y H Q=>Jp x y=true/\Q (.b (nb neg (decide (x=y)))) H
end
def rD (g:Aa D) (lo j:Ab Int):Aa D:=(g.drop (HT.sIx g.length 0 lo)).take (HT.sIx g.length g.length j-HT.sIx g.length 0 lo)
def pt (o:Ab mP):Aa Ad->Aa Sl->(Ab Int->Aa Sl->Prop)->Prop:=λc b k=>match o with
 | none=>k none b
 | some t=>t c b λr a=>match r with
  | .v (.int i)=>k (some i) a
  | _=>False
def Ck (K:lL):Ab mP->TO
 | none=>Mt
 | some t=>M7 (dE K t)
abbrev O3:=D->Ab Int->Ab Int->(Sl->Prop)->Prop
def NR (f:O3) (i:Nat) (lo g:Ab mP):mP:=λc e h=>(at? e i).isSome=true/\pt lo c e λl b=>pt g c b λu a=>match at? a i with
 | some d=>f d l u λr=>h r a
 | none=>False
abbrev R3:=V->Ab Int->Ab Int->Hp->VK->Prop
def Ue (K:lL) (r:R3) (f:O3):Prop:=∀ (B:Bs) (L:nD) (H:Hp) (d:D) (lo b:Ab Int) (x:V) (c:Sl->Prop) (Q:VK),DS K B L H->mU K (Al B (hO L)) H d x->f d lo b c ->
 (∀ s v a,c s->DS K B ((s,some v)::L) a->Q v a)->r x lo b H Q
section
variable {X:Cx}{K:lL}{lo:Ab Expr}
theorem N0 (I:l.length=p.length) (hd:DS K B (l.zip p++T) H) (h:pt o B.dk l k)
  (C:∀ i g j,g.length=p.length->DS K B (g.zip p++T) j->k i g->Q i j):Ck K o p H Q:=by
 cases o with
 | none=>exact C none l H I hd h
 | some t =>
  refine⟨B,l,T,_,I,hd,h,λr g v j b d1 a=>?_⟩;cases r with
  | n=>exact a.elim
  | o d=>exact a.elim
  | v d =>
   cases d with
   | int i=>exact⟨i,d1.valAt.int_inv,C (some i) g j b d1.drop a⟩
   | _=>exact a.elim
theorem yE:PO X none (Ck X.K none):=Du
theorem xN (h:PD X e t):PO X (some e) (Ck X.K (some t)):=Ct h
theorem xJ (I:vP X r) (p:Ue X.K r f) (o:PE X a (oY i)) (g:PO X lo (Ck X.K ol)) (j:PO X C (Ck X.K J)):PD X (.Subscript a (.Slice lo C none U) pos) (NR f i ol J) :=
 (C0 I o g j).mono λY H Q q=>q.elim λB W T V w hd ⟨n,G⟩ k=>by
  obtain⟨R,E⟩:=dD.mp n;obtain⟨x,y,_⟩:=hd.peek w E;refine⟨x,y,N0 w hd G λl O P L d2 N=>N0 L d2 N λu c D z t e=>?_⟩;cases h:at? c i with
  | none=>rw[h] at e;exact e.elim
  | some d =>
   rw[h] at e;obtain⟨S,b,M⟩:=t.peek z h;rw[y] at b;cases b;exact p B _ D d l u x _ Q t M e λs v A F m=>k s c v A z m.mid F
def Ny (K:lL):R3:=λx lo a H Q=>Uh K x lo a H Q\/T5 K x lo a H Q\/Sh x lo a H Q
theorem yO:vP X (Ny X.K):=Jb.or (HZ.or Lv)
def Z4:O3
 | .l a,lo,b,d=>d (.o (.l (rD a lo b)))
 | .c a,lo,b,d=>d (.o (.l (rD a lo b)))
 | .t a,lo,b,d=>¬ (HT.sIx a.length 0 lo=0/\HT.sIx a.length a.length b=a.length)/\d (.v (.t (rD a lo b)))
 | .str z,lo,b,d=>z.length<=100000/\d (.v (.str (tP z lo b)))
 | _,_,_,_=>False
theorem Jv (r:Reps K A H j l) (lo g:Ab Int):Reps K A H (rD j lo g) (uH l lo g):=by
 unfold rD uH;rw[r.length];exact (r.drop _).take _
theorem xL:Ue K (Ny K) Z4:=by
 intro B L H d lo m x n Q hd i b k;cases d<;>first | exact False.elim b | skip
 .cases i;exact .inr (.inr ⟨_,rfl,zL b.1,k _ _ _ b.2 (hd.pushF (.str _))⟩)
 .obtain⟨a,h,rfl,e,c⟩:=i.tup_inv;exact .inr (.inl ⟨a,h,rfl,mF.of e,by rw[<- c.length];exact b.1,λp f=>k _ _ _ b.2 (hd.tupF f (Jv c lo m))⟩)
 .obtain⟨a,h,rfl,e,c⟩:=i.lst_inv;exact .inl ⟨a,h,rfl,lO.of e,λp f=>k _ _ _ b (hd.lstF f (Jv c lo m))⟩
 .obtain⟨a,h,rfl,e,c⟩:=i.scr_inv;exact .inl ⟨a,h,rfl,e.sqL,λp f=>k _ _ _ b (hd.lstF f (Jv c lo m))⟩
abbrev O1:=D->(Sl->Prop)->Prop
abbrev R1:=V->Hp->VK->Prop
def Wp (K:lL) (r:R1) (f:O1):Prop:=∀ (B:Bs) (L:nD) (H:Hp) (d:D) (x:V) (b:Sl->Prop) (Q:VK),DS K B L H->mU K (Al B (hO L)) H d x->f d b->(∀ s v a,b s->DS K B ((s,some v)::L) a->Q v a)->r x H Q
def d1 (f:O1) (g:mP):mP:=λb h e=>g b h λc a=>match sd c with
 | some d=>f d λr=>e r a
 | none=>False
theorem BR (j:Wp X.K r f) (h:dE X.K (d1 f l) o H Q):dE X.K l o H λx g=>r x g Q:=by
 obtain⟨B,z,T,A,m,hd,q,k⟩:=h;refine⟨B,z,T,_,m,hd,q,λy e x g t d1 a=>?_⟩;cases b:sd y with
 | none=>rw[b] at a;exact a.elim
 | some d =>
  rw[b] at a;obtain⟨u,w⟩:=d1.one b;exact j B _ g d x _ Q u w.peek a λs v i n c=>k s e v i t c.mid n
def Ts:O1
 | .int i,a=>a (.v (.int (-i)))
 | _,_=>False
theorem MU (g:PD X a j):PD X (.UnaryOp .USub a pos) (d1 Ts j):=(LC LV g).mono λ_ _ _ h=>BR (f:=Ts) (λB L H d x e Q hd c b k=>by
 cases d<;>first | exact False.elim b | skip
 cases c;exact⟨_,rfl,k _ _ H b (hd.pushF (.int _))⟩) h
noncomputable def Iz:D->Ab Bool
 | .e=>some false
 | .b b=>some b
 | .int i=>some (i != 0)
 | .str x=>some ((x.length:Int) != 0)
 | .l a=>some (!a.isEmpty)
 | .t a=>some (!a.isEmpty)
 | .k a=>some (!a.isEmpty)
 | _=>none
noncomputable def Ig:D->Bool
 | .str x=>decide (x.length<=100000)
 | _=>true
theorem W4 (h:mU K A H d x) (e:Iz d=some k) (g:Ig d=true):Iy K x H k:=by
 cases d<;>simp only[Iz,reduceCtorEq,Option.some.injEq] at e<;>subst e
 .have:=h.non_inv;subst this;rfl
 .have:=h.bl_inv;subst this;rfl
 .have:=h.int_inv;subst this;rfl
 .have:=h.str_inv;subst this;exact⟨zL (cW g),rfl⟩
 .obtain⟨a,b,rfl,h,r⟩:=h.tup_inv;exact .inr (.inl ⟨b,mF.of h,by cases r<;>rfl⟩)
 .obtain⟨a,b,rfl,h,r⟩:=h.lst_inv;exact .inl ⟨b,lO.of h,by cases r<;>rfl⟩
 .rename_i c
  obtain⟨a,b,rfl,h,e,r⟩:=h.dK_inv;refine .inr (.inr ⟨b,h,?_⟩);cases c<;>cases b<;>simp at e |-
def BK (t:mP):qN:=λc f e=>t c f λr a=>match sd r with
 | some d=>Ig d=true/\∃ b,Iz d=some b/\e b a
 | none=>False
theorem Lm (g:PD X a l) (j:∀ whole,isTrue a X.env whole=(do let v <- whole;standAt a.pos;holding [v] (truthy v)):=by intro _;rfl):sG X a (BK l) :=
 (Xa g j).mono λz H Q f=>f.elim λB x T y n hd s k=>⟨B,x,T,_,n,hd,s,λr h v i t d1 c=>by
  cases e:sd r with
  | none=>rw[e] at c;exact c.elim
  | some d =>
   rw[e] at c;obtain⟨q,b,m,c⟩:=c;obtain⟨u,w⟩:=d1.one e;exact⟨b,W4 w.peek m q,k b h i t u c⟩⟩
def CC (t u:qN):qN:=λb e d=>t b e λc a=>if c=true then u b a d else d false a
def Xl (t u:qN):qN:=λb e d=>t b e λc a=>if c=true then d true a else u b a d
def Zv (t:qN):qN:=λb e d=>t b e λc a=>d (!c) a
variable {rest:Aa Expr}
theorem Xj (h:sG X a g):yP X (.BoolOp .And [a] pos) g:=Np h
theorem Z5 (h:sG X a g):yP X (.BoolOp .Or [a] pos) g:=Zr h
theorem LW (j:sG X a o) (l:yP X (.BoolOp .And (b::rest) pos) g):yP X (.BoolOp .And (a::b::rest) pos) (CC o g) :=
 (U8 j l).mono λt H Q e=>e.elim λB s T q m hd n k=>⟨B,s,T,_,m,hd,n,λc d i h d1 f=>by
  cases c with
  | true=>exact (aT rfl).mpr ⟨B,d,T,q,h,d1,(aT rfl).mp f,k⟩
  | false=>exact tS (k false d i h d1 ((aN (by decide)).mp f))⟩
theorem Zo (j:sG X a o) (l:yP X (.BoolOp .Or (b::rest) pos) g):yP X (.BoolOp .Or (a::b::rest) pos) (Xl o g) :=
 (OS j l).mono λt H Q e=>e.elim λB s T q m hd n k=>⟨B,s,T,_,m,hd,n,λc d i h d1 f=>by
  cases c with
  | true=>exact (aT rfl).mpr (k true d i h d1 ((aT rfl).mp f))
  | false=>exact tS ⟨B,d,T,q,h,d1,(aN (by decide)).mp f,k⟩⟩
theorem Ph (h:yP X a g):sG X a g:=PW.pt h
theorem Sy (h:sG X a g):sG X (.UnaryOp .Not a pos) (Zv g):=(FJ h).mono λt H Q b=>b.elim λB q T s i hd m k=>⟨B,q,T,_,i,hd,m,λc d e n d1 f=>k _ d e n d1 f⟩
def Zs (t u:mP):mP:=λc e d=>t c e λr a=>match r with
 | .v (.b true)=>u c a d
 | .v (.b false)=>d (.v (.b false)) a
 | _=>False
def CY (t u:mP):mP:=λc e d=>t c e λr a=>match r with
 | .v (.b true)=>d (.v (.b true)) a
 | .v (.b false)=>u c a d
 | _=>False
theorem Pu (h:PD X a g):PD X (.BoolOp op [a] pos) g:=DH h
theorem LK (g:PD X a l) (j:PD X (.BoolOp .And (b::rest) pos) p):PD X (.BoolOp .And (a::b::rest) pos) (Zs l p) :=
 (Xi g j).mono λw H Q h=>h.elim λB u T t q hd s k=>⟨B,u,T,_,q,hd,s,λr f v m i d1 e=>by
  cases r with
  | n=>exact e.elim
  | o d=>exact e.elim
  | v d =>
   cases d with
   | b c =>
    have:=d1.valAt.bl_inv;subst this;refine⟨c,rfl,?_⟩;cases c with
    | true=>exact (aT rfl).mpr ⟨B,f,T,t,i,d1.drop,e,k⟩
    | false=>exact tS (k _ f _ m i (d1.drop.push (.b _)) e)
   | _=>exact e.elim⟩
theorem DX (g:PD X a l) (j:PD X (.BoolOp .Or (b::rest) pos) p):PD X (.BoolOp .Or (a::b::rest) pos) (CY l p) :=
 (Wf g j).mono λw H Q h=>h.elim λB u T t q hd s k=>⟨B,u,T,_,q,hd,s,λr f v m i d1 e=>by
  cases r with
  | n=>exact e.elim
  | o d=>exact e.elim
  | v d =>
   cases d with
   | b c =>
    have:=d1.valAt.bl_inv;subst this;refine⟨c,rfl,?_⟩;cases c with
    | true=>exact (aT rfl).mpr (k _ f _ m i (d1.drop.push (.b _)) e)
    | false=>exact tS ⟨B,f,T,t,i,d1.drop,e,k⟩
   | _=>exact e.elim⟩
def W0 (t:qN) (u w:mP):mP:=λb e d=>t b e λc a=>if c=true then u b a d else w b a d
theorem O9 (l:sG X c o) (g:PD X a p) (j:PD X b r):PD X (.IfExp c a b pos) (W0 o p r) :=
 (Z2 l g j).mono λt H Q e=>e.elim λB q T i m hd n k=>⟨B,q,T,_,m,hd,n,λc d s h d1 f=>by
  cases c with
  | true=>exact (aT rfl).mpr ⟨B,d,T,i,h,d1,(aT rfl).mp f,k⟩
  | false=>exact tS ⟨B,d,T,i,h,d1,(aN (by decide)).mp f,k⟩⟩
end
inductive Ar where
 | t (d:D) | al (i:Nat)
abbrev sY:=Aa Ad->Aa Sl->(Aa Ar->Aa Sl->Prop)->Prop
def tL:Aa Ar->Aa V->nD
 | .t d::as,v::a=>(.v d,some v)::tL as a
 | .al _::as,_::a=>tL as a
 | _,_=>[]
inductive ArOk (σ:St):List Ar->List V->Prop where
 | nil:ArOk σ [] []
 | t {d:D} {v:V} {as:List Ar} {vs:List V}:ArOk σ as vs->ArOk σ (.t d::as) (v::vs)
 | al {i:Nat} {v:V} {as:List Ar} {vs:List V}:σ[i]?=some (some v)->ArOk σ as vs->ArOk σ (.al i::as) (v::vs)
noncomputable def uY (g:Aa Sl):Aa Ar->Ab (Aa D)
 | []=>some []
 | .t d::as=>(uY g as).map (d::·)
 | .al i::as=>match at? g i,uY g as with
  | some d,some a=>some (d::a)
  | _,_=>none
noncomputable def xP:Aa Ar->Ab (Aa D)
 | []=>some []
 | .t d::as=>(xP as).map (d::·)
 | .al _::_=>none
def Db:Aa Ar->Bool
 | []=>true
 | .t _::as=>Db as
 | .al _::_=>false
def dA (K:lL) (g:sY):TA:=λb H Q=>∃ (B:Bs) (d:Aa Sl) (T:nD) (f:Aa Ar->Aa Sl->Prop),d.length=b.length/\DS K B (d.zip b++T) H/\g B.dk d f /\
 ∀ as a c e,a.length=b.length->ArOk b as c->DS K B (a.zip b++(tL as c++T)) e->f as a->Q c e
theorem dA.elim {K:lL}{P:Prop}(h:dA K C l H Q) (f:∀ (B:Bs) (j:Aa Sl) (T:nD) (o:Aa Ar->Aa Sl->Prop),j.length=l.length->DS K B (j.zip l++T) H->C B.dk j o ->(∀ as g p r,g.length=l.length->ArOk l as p->DS K B (g.zip l++(tL as p++T)) r->o as g->Q p r)->P):P:=by
 obtain⟨B,j,T,o,a,hd,b,k⟩:=h;exact f B j T o a hd b k
abbrev rT (X:Cx) (g:Aa Expr) (j:sY):Prop:=PA X g (dA X.K j)
def zR:sY:=λ_ b a=>a [] b
def aC (g:mP) (j:sY):sY:=λc f e=>g c f λr a=>j c a λas b=>match sd r with
 | some d=>e (.t d::as) b
 | none=>False
def aS (i:Nat) (g:sY):sY:=λc b d=>(at? b i).isSome=true/\g c b λas a=>d (.al i::as) a
theorem PA.mono {X:Cx}(h:PA X j t) (k:∀ g H Q,l g H Q->t g H Q):PA X j l:=λp a s g H Q I q=>h p a s g H Q I (k g H Q q)
def Am (B:Bs) (a:Ad):Prop:=a∉B.dk/\(B.A0 a\/B.H0 a=none)
inductive Peeks (K:lL) (A:Addr->Prop) (H:Hp):List D->List V->Prop where
 | nil:Peeks K A H [] []
 | cons {d:D} {v:V} {ds:List D} {vs:List V}:mU K A H d v->Peeks K A H ds vs->Peeks K A H (d::ds) (v::vs)
section
variable {X:Cx}{K:lL}
theorem gV:rT X [] zR:=mJ.mono λf H Q a=>a.elim λB d T e b hd c k=>k [] d [] H b .nil hd c
theorem aD (j:PD X e p) (l:rT X g o) (h:yK e=true:=by rfl):rT X (e::g) (aC p o):=(mA j l h).mono λD H Q f=>f.elim λB A T F v hd w k =>
 ⟨B,A,T,_,v,hd,w,λr i x E y d1 u=>⟨B,i,(r,some x)::T,_,y,d1,u,λas a n m z ok d2 b=>by
  cases c:sd r with
  | none=>rw[c] at b;exact b.elim
  | some d =>
   rw[c] at b;refine k (.t d::as) a (x::n) m z (.t ok) ?_ b;have q:DS X.K B ((a.zip D++tL as n)++(r,some x)::T) m:=by simpa using d2
   have s:=(q.thaw c).front;exact DS.mid (by simpa using s)⟩⟩
theorem tN (j:PE X e (oY i)) (l:rT X g o) (h:yK e=true:=by rfl):rT X (e::g) (aS i o):=(mA j l h).mono λz H Q a=>a.elim λB v T y c hd ⟨q,s⟩ k=>by
 obtain⟨w,m⟩:=dD.mp q;obtain⟨x,d,_⟩:=hd.peek c m;exact⟨x,d,B,v,T,_,c,hd,s,λas b u f t ok d2 n=>k (.al i::as) b (x::u) f t (.al d ok) d2 n⟩
theorem DS.rmArgs:∀ {as:Aa Ar}{vs:Aa V},DS K B (L++(tL as vs++T)) H->DS K B (L++T) H
 | [],_,h=>h
 | .t d::as,[],h=>h
 | .al _::as,[],h=>h
 | .t d::as,v::vs,h=>DS.rmArgs (as:=as) (vs:=vs) (DS.drop (L1:=L) (L2:=tL as vs++T) h)
 | .al _::as,v::vs,h=>DS.rmArgs (as:=as) (vs:=vs) h
theorem E5:∀ {as:Aa Ar}{vs:Aa V},hO (L++(tL as vs++T))=hO (L++T)
 | [],_=>rfl
 | .t d::as,[]=>rfl
 | .al _::as,[]=>rfl
 | .t d::as,v::vs=>(show hO (L++(Sl.v d,some v)::(tL as vs++T))=_ from Mf).trans (E5 (as:=as) (vs:=vs))
 | .al _::as,v::vs=>E5 (as:=as) (vs:=vs)
theorem DS.temps (h:DS K B (L++(tL as j++T)) H) (ok:ArOk σ as j):∀ g,xP as=some g->Reps K (Al B (hO (L++T))) H g j:=by
 have key:∀ p∈tL as j,sC K (Al B (hO (L++T))) H p.1 p.2:=λp b=>by
  have:=h.ok p (by simp[b]);rw[E5] at this;exact this
 clear h;induction ok with
 | nil=>intro g e;cases e;exact .nil
 | @t d v as j ok i =>
  intro g e;obtain⟨a,c,rfl⟩:=cP.mp e;obtain⟨u,f,r⟩:=key (.v d,some v) aH;cases f;exact .cons r (i (λp b=>key p (aM _ b)) a c)
 | al _ _ _=>intro g e;cases e
theorem DS.argsP (I:g.length=C.length) (h:DS K B (g.zip C++(tL as l++T)) H) (ok:ArOk C as l):∀ j,uY g as=some j ->
  Peeks K (Al B (hO (g.zip C++T))) H j l/\Reps K (Am B) H j l/\(Db as=true->Reps K (Al B (hO (g.zip C++T))) H j l):=by
 have key:∀ p∈tL as l,sC K (Al B (hO (g.zip C++T))) H p.1 p.2:=λp m=>by
  have:=h.ok p (by simp[m]);rw[E5] at this;exact this
 have A:=h.rmArgs;have am:∀ a,Al B (hO (g.zip C++T)) a->Am B a:=λa z=>⟨z.1,z.2.2⟩
 clear h;induction ok with
 | nil=>intro j e;cases e;exact⟨.nil,.nil,λ_=>.nil⟩
 | @t d v as l ok D =>
  intro j e;obtain⟨f,b,rfl⟩:=cP.mp e;obtain⟨u,k,r⟩:=key (.v d,some v) aH;cases k;obtain⟨E,F,O⟩:=D (λp m=>key p (aM _ m)) f b;exact⟨.cons r.peek E,.cons (r.mono (.all am)) F,λn=>.cons r (O n)⟩
 | @al i v as l G ok D =>
  intro j e;have e:=(show (match at? g i,uY g as with | some d,some j=>some (d::j) | _,_=>none)=some j from e);cases b:at? g i with
  | none=>rw[b] at e;cases e
  | some d =>
   cases k:uY g as with
   | none=>rw[b,k] at e;cases e
   | some f =>
    rw[b,k] at e;cases e;obtain⟨E,F,O⟩:=D (λp m=>key p m) f k;obtain⟨V,q,pv⟩:=A.peek I b;rw[G] at q;cases q;have Q:Rep K (Am B) H d v:=by
     unfold at? at b;cases w:g[i]? with
     | none=>rw[w] at b;cases b
     | some s =>
      rw[w] at b;obtain⟨R,y,S,M,_,P,_⟩:=vW I w;rw[G] at M;cases M;have L:(s,some v)∈g.zip C++T:=by rw[P];simp
      have:=A.ok _ L;cases s with
      | n=>cases b
      | v c=>cases b;obtain⟨u,x,r⟩:=this;cases x;exact r.mono (.all am)
      | o c =>
       cases b;obtain⟨a,x,r⟩:=this;cases x;have N:=A.new a (tT.mpr ⟨_,L,rfl⟩);exact r.rep am ⟨N.2,.inr N.1⟩
    exact⟨.cons pv E,.cons Q F,λn=>by simp[Db] at n⟩
def Rz (g:sY):mP:=λc e d=>g c e λas a=>match xP as with
 | some b=>b.length<=1000/\d (.v (.t b)) a
 | none=>False
def O5 (g:sY):mP:=λc e d=>g c e λas a=>match xP as with
 | some b=>b.length<=1000/\d (.o (.l b)) a
 | none=>False
theorem Vs (h:n<=1000):n<=sizeLine:=cK h (by decide)
theorem mZ (h:rT X g j):PD X (.Tuple g l pos) (Rz j):=(xD h).mono λv H Q c=>c.elim λB q T u f hd m k=>⟨B,q,T,_,f,hd,m,λas d t s n ok d1 a=>by
 cases b:xP as with
 | none=>rw[b] at a;exact a.elim
 | some e =>
  rw[b] at a;have r:=d1.temps ok e b;exact⟨Vs (by rw[<- r.length];exact a.1),λp i=>k _ d _ _ n (d1.rmArgs.tup i r) a.2⟩⟩
theorem oJ (h:rT X g j):PD X (.List g pos) (O5 j):=(pQ h).mono λv H Q c=>c.elim λB q T u f hd m k=>⟨B,q,T,_,f,hd,m,λas d t s n ok d1 a=>by
 cases b:xP as with
 | none=>rw[b] at a;exact a.elim
 | some e =>
  rw[b] at a;have r:=d1.temps ok e b;exact⟨Vs (by rw[<- r.length];exact a.1),λp i=>k _ d _ _ n (d1.rmArgs.lstF i r).mid a.2⟩⟩
def FI:mP:=λ_ b a=>a (.o (.k [])) b
def Yb:mP:=λ_ b a=>a (.o (.T [])) b
theorem Vj:PD X (.Dict [] [] pos) FI:=X1.mono λh H Q a=>a.elim λB e T f b hd d k p c=>k _ e _ _ b (hd.dKF (ds:=[]) (kvs:=[]) c rfl .nil).mid d
theorem Ri:PD X (.Dict [] [] pos) Yb:=X2.mono λh H Q a=>a.elim λB e T f b hd d k p c=>k _ e _ _ b (hd.dTF (ds:=[]) (kvs:=[]) c rfl .nil).mid d
abbrev OC:=Aa D->(Sl->Prop)->Prop
def qX (K:lL) (r:Aa V->Hp->VK->Prop) (f:OC):Prop:=∀ (B:Bs) (L:nD) (H:Hp) (b:Aa D) (c:Aa V) (d:Sl->Prop) (Q:VK),DS K B L H->Peeks K (Al B (hO L)) H b c->f b d ->
 (∀ s v a,d s->DS K B ((s,some v)::L) a->Q v a)->r c H Q
def dC (f:OC) (g:sY):mP:=λb e d=>g b e λas a=>match uY a as with
 | some c=>f c λr=>d r a
 | none=>False
theorem Hh (l:qX X.K r f) (h:dE X.K (dC f o) p H Q):dA X.K o p H λj g=>r j g Q:=by
 obtain⟨B,u,T,w,n,hd,t,k⟩:=h;refine⟨B,u,T,_,n,hd,t,λas a j g i ok d1 b=>?_⟩;cases c:uY a as with
 | none=>rw[c] at b;exact b.elim
 | some e =>
  rw[c] at b;exact l B _ g e j _ Q d1.rmArgs (d1.argsP i ok e c).1 b λs v m q d=>k s a v m i d.mid q
variable {id:String}
theorem pH (C:nK X (.builtin id) r) (I:qX X.K r f) (T:X.mg x=none) (hv:bootBuiltins x=some (.builtin id)) (o:rT X (e::l) ta) (J:Gl X x:=by rfl) (U:x ≠ "__name__" := by decide) (g:(x == ("__debug__" : Af))=false:=by decide)
  (j:StB X e l pos:=by exact {}):PD X (.Call (.Name x p) (e::l) [] pos) (dC f ta) :=
 (uG C J T hv o U g j).mono λ_ _ _ h=>Hh I h
theorem nE (C:nK X (.type id) r) (I:qX X.K r f) (T:X.mg x=none) (hv:bootBuiltins x=some (.type id)) (o:rT X (e::l) ta) (J:Gl X x:=by rfl) (U:x ≠ "__name__" := by decide) (g:(x == ("__debug__" : Af))=false:=by decide)
  (j:StB X e l pos:=by exact {}):PD X (.Call (.Name x p) (e::l) [] pos) (dC f ta) :=
 (K9 C J T hv o U g j).mono λ_ _ _ h=>Hh I h
end
def Gh:Sl->Bool
 | .v d=>imm d
 | .o (.l b)=>vF b
 | .o (.k a)=>vF (a.map (·.2))
 | .o (.T a)=>vF (a.map (·.2))
 | _=>false
def RV (K:lL) (g:Aa Ad) (A:Ad->Prop) (H:Hp) (s:Sl) (v:V) (j:Hp):Prop:=match s with
 | .n=>True
 | .v d=>Rep K (λa=>a∉g/\(A a\/H a=none)) j d v
 | .o d=>∃ a,v = .ref a/\H a=none/\a∉g/\oO K (λb=>b∉g/\b≠a/\(A b\/H b=none)) j a d
def A4 (j:Aa Ad) (H g:Hp):Prop:=∀ b o,H b=some o->b∉j->g b=some o
abbrev RD:=Aa Ad->Aa D->(Sl->Prop)->Prop
def wR (K:lL) (R:RD):Sp:=λf H Q _=>∃ (b:Aa Ad) (A:Ad->Prop) (d:Aa D) (e:Sl->Prop),Dk b H/\(∀ a,A a->a∉b)/\Reps K A H d f/\R b d e /\
 ∀ s v c,e s->A4 b H c->Dk b c->RV K b A H s v c->Q v c
section
variable {K:lL}
theorem oO.immR (h:oO K A H a d) (e:Gh (.o d)=true):oO K g H a d:=by
 cases d with
 | l _=>obtain⟨b,h,r⟩:=h;exact⟨b,h,r.imm e⟩
 | k _=>obtain⟨b,h,k,r⟩:=h;exact⟨b,h,k,r.imm e⟩
 | T _=>obtain⟨b,h,k,r⟩:=h;exact⟨b,h,k,r.imm e⟩
 | _=>exact False.elim h
theorem Kp.frm (f:A4 g H l) (p:Dk g H) (h:∀ a,A a->a∉g/\j a):Kp A j H l:=by
 refine⟨λa o b e=>⟨(h a b).2,f a o e (h a b).1⟩,λa o t e=>f a o e λz=>?_⟩;obtain⟨c,q⟩:=p.some z;rw[e] at q;cases q;cases t
theorem DS.call (h:DS K B L H) (f:A4 B.dk H g) (j:Dk B.dk g):DS K B L g :=
 ⟨λb o e n=>f b o (h.fr b o e n) n,j,h.nd,h.new,λp c=>(h.ok p c).mono (.frm f h.dk λa z=>⟨z.1,z⟩) λb d o q=>f b o q (h.new b (tT.mpr ⟨p,c,d⟩)).2⟩
theorem DS.adopt (h:DS K B L H) (f:A4 B.dk H H') (j:Dk B.dk H') (g:H a=none) (r:oO K (Al B (a::hO L)) H' a d):DS K B ((.o d,some (.ref a))::L) H':=by
 obtain⟨f1,f2,k⟩:=h.free g;have s:Kp (Al B (hO L)) (Al B (a::hO L)) H H':=by
  refine⟨λb o c e=>⟨⟨c.1,λz=>?_,c.2.2⟩,f b o e c.1⟩,λb o t e=>f b o e λz=>?_⟩
  .rcases aI.mp z with q | q
   .subst q;rw[g] at e;cases e
   .exact c.2.1 q
  .obtain⟨u,q⟩:=h.dk.some z;rw[e] at q;cases q;cases t
 have i:hO ((Sl.o d,some (V.ref a))::L)=a::hO L:=rfl;refine⟨λb o e n=>f b o (h.fr b o e n) n,j,by rw[i];exact cD.mpr ⟨k,h.nd⟩,λb c=>?_,λp m=>?_⟩
 .rw[i] at c;rcases aI.mp c with q | q
  .subst q;exact⟨f1,f2⟩
  .exact h.new b q
 .rw[i];rcases aI.mp m with q | q
  .subst q;exact⟨a,rfl,r⟩
  .exact (h.ok p q).mono s λb c o w=>f b o w (h.new b (tT.mpr ⟨p,q,c⟩)).2
theorem DS.result (h:DS K B L H) (f:A4 B.dk H j) (l:Dk B.dk j) (r:RV K B.dk p H s v j) (g:(∀ a,p a->Al B (hO L) a)\/Gh s=true):DS K B ((s,some v)::L) j:=by
 have fresh:∀ b,b∉B.dk->H b=none->Al B (hO L) b:=λb n e=>⟨n,(h.free e).2.2,.inr (h.free e).1⟩
 cases s with
 | n=>exact (h.call f l).pushN (L1:=[]) _
 | v d =>
  refine (h.call f l).pushF ?_;rcases g with g | g
  .exact (show Rep K _ j d v from r).mono (.all λb z=>z.2.elim (g b) (fresh b z.1))
  .exact (show Rep K _ j d v from r).imm g
 | o d =>
  obtain⟨a,rfl,c,hd,r⟩:=r;refine h.adopt f l c ?_;rcases g with g | g
  .refine r.mono (.all λb z=>?_) λ_ q=>q
   have:=z.2.2.elim (g b) (fresh b z.1);exact⟨this.1,λq=>(aI.mp q).elim z.2.1 this.2.1,this.2.2⟩
  .exact r.immR g
end
def Ib (R:RD) (g:sY):mP:=λb e d=>g b e λas a=>match uY a as with
 | some c=>R b c λs=>(Db as=true\/Gh s=true)/\d s a
 | none=>False
section
variable {X:Cx}{R:RD}
theorem DK (h:dE X.K (Ib R l) o H Q):dA X.K l o H λj g=>wR X.K R (j++[]) g Q E0:=by
 obtain⟨B,A,T,D,u,hd,w,k⟩:=h;refine⟨B,A,T,_,u,hd,w,λas b j g q ok d1 c=>?_⟩;cases m:uY b as with
 | none=>rw[m] at c;exact c.elim
 | some i =>
  rw[m] at c;obtain⟨_,x,y⟩:=d1.argsP q ok i m;have d2:=d1.rmArgs;rw[dM];by_cases t:Db as=true
  .exact⟨B.dk,_,i,_,d2.dk,λa z=>z.1,y t,c,λs v e d f n r=>k s b v e q (d2.result f n r (.inl λa z=>z)).mid d.2⟩
  .exact⟨B.dk,_,i,_,d2.dk,λa z=>z.1,x,c,λs v e d f n r=>k s b v e q (d2.result f n r (.inr (d.1.resolve_left t))).mid d.2⟩
theorem EO (F:FnOk X.prog X.w X.K X.mg X.base nR k f fd U (wR X.K R)) (T:Room k X.A) (C:Gl X x) (J:X.mg x=some (.ref f)) (I:PySem.W.keepIn X.K (.ref f)=true) (r:yL X.K fd U [])
  (o:rT X (e::l) ta) (g:(x == ("__debug__" : Af))=false:=by decide) (j:StB X e l pos:=by exact {}) :
  PD X (.Call (.Name x p) (e::l) [] pos) (Ib R ta):=(sL F T C J I r .nil rE o g j).mono λ_ _ _ h=>DK h
end
structure DEnds where
 nx:List Sl->Prop
 rt:Sl->Prop
 bk:List Sl->Prop:=λ_=>False
 ct:List Sl->Prop:=λ_=>False
abbrev pP:=Aa Ad->DEnds->Aa Sl->Prop
def Ed (K:lL) (B:Bs) (T:nD) (n:Nat) (g:DEnds) (j:Ends):Prop :=
 (∀ b a c,b.length=a.length->a.length=n->DS K B (b.zip a++T) c->(g.nx b->j.nx a c)/\(g.bk b->j.bk a c)/\(g.ct b->j.ct a c)) /\
 ∀ (r:Sl) (v:V) (b:Aa Sl) (a:St) (c:Hp),b.length=a.length->DS K B (b.zip a++(r,some v)::T) c->g.rt r->j.rt v c
def dS (K:lL) (g:pP):TS:=λd b H=>∃ (B:Bs) (a:Aa Sl) (T:nD) (c:DEnds),a.length=b.length/\DS K B (a.zip b++T) H/\g B.dk c a/\Ed K B T b.length c d
theorem dS.elim {K:lL}{P:Prop}(h:dS K p o j H) (f:∀ (B:Bs) (g:Aa Sl) (T:nD) (l:DEnds),g.length=j.length->DS K B (g.zip j++T) H->p B.dk l g->Ed K B T j.length l o->P):P:=by
 obtain⟨B,g,T,c,a,hd,b,k⟩:=h;exact f B g T c a hd b k
abbrev sW (X:Cx) (st:Stmt) (g:pP):Prop:=PS X st (dS X.K g)
abbrev uW (X:Cx) (st:Aa Stmt) (g:pP):Prop:=pE X st (dS X.K g)
theorem PS.mono {X:Cx}{st:Stmt}(h:PS X st t) (k:∀ D g H,j D g H->t D g H):PS X st j:=λa s g H D I q=>h a s g H D I (k D g H q)
theorem pE.mono {X:Cx}{st:Aa Stmt}(h:pE X st t) (k:∀ D g H,j D g H->t D g H):pE X st j:=λa s g H D I q=>h a s g H D I (k D g H q)
def Vd:pP:=λ_ a b=>a.nx b
def K2 (t u:pP):pP:=λb a c=>t b { a with nx:=u b a } c
def rC (g:mP):pP:=λb a c=>g b c λr _=>a.rt r
def LN (g:mP):pP:=λc b d=>g c d λ_ a=>b.nx a
def O8 (c:qN) (t u:pP):pP:=λd e f=>c d f λb a=>if b=true then t d e a else u d e a
def oD (i:Nat) (g:mP):pP:=λc b d=>g c d λr a=>b.nx (a.set i r)
section
variable {X:Cx}{K:lL}{st:Stmt}{rest:Aa Stmt}
theorem Ed.seq (h:Ed K B T n o p){P:Aa Sl->Prop}(k:∀ j g l,j.length=g.length->g.length=n->DS K B (j.zip g++T) l->P j->N g l):Ed K B T n { o with nx:=P } { p with nx:=N } :=
 ⟨λj g l a b d=>⟨k j g l a b d,(h.1 j g l a b d).2⟩,h.2⟩
theorem wM:uW X [] Vd:=Bu.mono λi f H a=>a.elim λB e T h b hd c d=>(d.1 e f H b rfl hd).1 c
theorem lM (g:sW X st t) (j:uW X rest u):uW X (st::rest) (K2 t u):=(pD g j).mono λs w H a=>a.elim λB m T e f hd h c =>
 ⟨B,m,T,_,f,hd,h,c.seq λb n v i k d q=>⟨B,b,T,e,i,d,q,by rw[k];exact c⟩⟩
theorem mL (h:sW X st t):uW X [st] t:=qJ h
theorem nA (h:PD X e g):sW X (.Return (some e) pos) (rC g):=(wZ h).mono λt q H a=>a.elim λB n T s f hd i m=>⟨B,n,T,_,f,hd,i,λr b v c k d1 d=>m.2 r v b q c k d1 d⟩
theorem pW (h:PD X e j) (g:swapsWith e none pos.line X.env=pure false:=by rfl):sW X (.Expr e pos) (LN j):=(Ju h g).mono λt q H a=>a.elim λB n T s f hd i m=>⟨B,n,T,_,f,hd,i,λr b v c k d1 d=>(m.1 b q c k rfl d1.drop).1 d⟩
theorem wP (l:sG X c o) (g:uW X a t) (j:uW X b u):sW X (.If c a b pos) (O8 o t u):=(zI l g j).mono λs w H e=>e.elim λB q T f m hd n k=>⟨B,q,T,_,m,hd,n,λc d v i d1 h=>by
 cases c with
 | true=>exact (aT rfl).mpr ⟨B,d,T,f,i,d1,(aT rfl).mp h,k⟩
 | false=>exact tS ⟨B,d,T,f,i,d1,(aN (by decide)).mp h,k⟩⟩
theorem DS.assign {g:Aa Sl}{j:St}(l:g.length=j.length) (h:DS K B (g.zip j++(r,some v)::T) H) (i:Nat):DS K B ((g.set i r).zip (j.set i (some v))++T) H:=by
 by_cases m:i<g.length
 .obtain⟨b,y,c,_,_,n,a⟩:=vW l (aQ m);rw[a r (some v)];rw[n] at h;have d:DS K B (b++(c++(r,some v)::T)) H:=DS.drop (L1:=b) (x:=(g[i],y)) (by simpa using h);have e:DS K B ((b++c)++(r,some v)::T) H:=by simpa using d
  have f:=e.front;have k:DS K B ((r,some v)::(b++(c++T))) H:=by simpa using f
  simpa using k.mid
 .rw[gI (by omega),gI (by omega)];exact h.drop
theorem lV (i:Nat) (j:X.N.Nodup) (l:PD X e J) (p:X.N[i]?=some x:=by rfl) (I:vL X.env.scope x:=by first | exact Or.inl rfl | exact Or.inr rfl) (C:swapsWith e (some (.Name x g)) pos.line X.env=pure false:=by rfl)
  (o:X.fn x=true\/X.env.scope.names.lookup x=some .local:=by first | exact .inl rfl | exact .inr rfl | assumption):sW X (.Assign [.Name x g] e pos) (oD i J) :=
 (oQ j p I l C o).mono λs t H a=>a.elim λB m T q f hd h k=>⟨B,m,T,_,f,hd,h,λr n v c b d1 d=>(k.1 _ _ c (by rw[bU,bU];exact b) (bU ..) (d1.assign b i)).1 d⟩
end
def yV (N:Aa Af) (g:Aa D):Aa Sl:=g.map .v++List.replicate (N.length-g.length) .n
section
variable {P:Ah}{K:lL}
theorem N4:∀ {g:Aa D}{j:Aa V}(n:Nat),g.length=j.length->(g.map Sl.v++List.replicate n Sl.n).zip (j.map some++List.replicate n none)=(g.zip j).map (λp=>(Sl.v p.1,some p.2))++List.replicate n (Sl.n,none)
 | [],[],n,_=>by simp
 | [],_::_,_,e=>by simp at e
 | _::_,[],_,e=>by simp at e
 | d::g,v::j,n,e=>by
  simp only[aP,cV,cX,fZ,true_and];exact N4 n (by simpa using e)
theorem Zj (l:Reps K A H g j):∀ p∈g.zip j,Rep K A H p.1 p.2:=by
 induction g generalizing j with
 | nil=>intro p a;cases a
 | cons d g b =>
  cases l with
  | cons h r =>
  intro p a;rw[cX] at a;rcases aI.mp a with rfl | q
  .exact h
  .exact b r p q
theorem Fun.okD {st:Stmt}{R:RD}(F:Fun K x J st f fd) (S:FnScope N ps (mI st)) (I:∀ C g T,R C g T->g.length=ps.length) (aa:ps.length<=N.length)
  (U:∀ (l:Ac) (A:Around) (j:Aa Env) (s:Ae) (H:Hp) (E:XK) (C:Aa Ad) (g:Aa D) (T:Sl->Prop),Room k (A.deeper (envOfC J (mI st) s.heap.objs.size f l))->R C g T ->∃ t,uW (xH nR P w K mg base N J (mI st) f l A j s H E).nox (rH st) t/\t C { nx:=λ_=>T (.v .e),rt:=T } (yV N g)):FnOk P w K mg base nR (k+1) f fd ps (wR K R):=by
 refine F.ok S (λm H Q E M=>by obtain⟨C,A,g,T,_,_,r,u,_⟩:=M;rw[<- r.length];exact I _ _ _ u) λl A j s H m Q E hr M=>?_
 obtain⟨C,A1,g,T,L,hA,r,u,X⟩:=M;obtain⟨t,ht,hb⟩:=U l A j s H E C g T hr u;have G:g.length=m.length:=r.length;have dl:g.length=ps.length:=I _ _ _ u;refine⟨_,ht,⟨C,A1,H⟩,yV N g,[],_,?_,?_,hb,?_,?_⟩
 .unfold yV uA;rw[List.length_append,List.length_append,List.length_map,List.length_map,List.length_replicate,List.length_replicate,G]
 .have W:(yV N g).zip (uA N m)=(g.zip m).map (λp=>(Sl.v p.1,some p.2))++List.replicate (N.length-g.length) (Sl.n,none):=by
   unfold yV uA;rw[<- G];exact N4 _ G
  have B:hO ((yV N g).zip (uA N m))=[]:=by
   rw[W];refine gR.mpr λa i=>?_
   obtain⟨q,c,e⟩:=tT.mp i;rcases aV.mp c with z | z
   .obtain⟨p,_,rfl⟩:=aE.mp z;cases e
   .rw[(List.mem_replicate.mp z).2] at e;cases e
  rw[dM];refine⟨λb o e _=>e,L,by rw[B];exact iF,(λa i=>by rw[B] at i;exact absurd i bJ),λq c=>?_⟩;rw[B];rw[W] at c;rcases aV.mp c with z | z
  .obtain⟨p,hp,rfl⟩:=aE.mp z;exact⟨p.2,rfl,(Zj r p hp).mono (.all λa i=>⟨hA a i,bJ,.inl i⟩)⟩
  .rw[(List.mem_replicate.mp z).2];trivial
 .intro O V y l1 l2 d1;refine⟨λh=>X _ _ y h d1.fr d1.dk .e,λh=>h.elim,λh=>h.elim⟩
 .intro Z v O V y l1 d1 h;refine X Z v y h d1.fr d1.dk ?_;cases Z with
  | n=>trivial
  | v d=>exact d1.valAt.mono (.all λa z=>⟨z.1,z.2.2⟩)
  | o d =>
   obtain⟨a,rfl,r'⟩:=d1.ownAt;have Y:=d1.new a (by rw[rR];exact aJ _ aH);exact⟨a,rfl,Y.1,Y.2,r'.mono (.all λb z=>⟨z.1,λq=>z.2.1 (by simp[q]),z.2.2⟩) λ_ q=>q⟩
end
abbrev tF:=D->Aa Sl->(Aa Sl->Prop)->Prop
abbrev yZ:=Aa D->Aa Sl->(Aa Sl->Prop)->Prop
noncomputable def pK (g:Aa D) (j:Aa V):nD:=(g.zip j).map λp=>(Sl.v p.1,some p.2)
def dG (K:lL) (n:Nat) (g:tF):TG:=λv c H Q=>∃ (B:Bs) (e:Aa Sl) (T:nD) (d:D) (h:Aa Sl->Prop),e.length=c.length/\DS K B (e.zip c++(.v d,some v)::T) H/\g d e h /\
 ∀ (b:Aa Sl) (a:St) (f:Hp),b.length=a.length->a.length=c.length->(∀ j,n<=j->a[j]?=c[j]?)->DS K B (b.zip a++T) f->h b->Q a f
def Mh (K:lL) (n:Nat) (g:yZ):yS:=λh c H Q=>∃ (B:Bs) (e:Aa Sl) (T:nD) (d:Aa D) (i:Aa Sl->Prop),e.length=c.length/\d.length=h.length/\DS K B (e.zip c++(pK d h++T)) H/\g d e i /\
 ∀ (b:Aa Sl) (a:St) (f:Hp),b.length=a.length->a.length=c.length->(∀ j,n<=j->a[j]?=c[j]?)->DS K B (b.zip a++T) f->i b->Q a f
theorem dG.elim {K:lL}{P:Prop}(h:dG K n I v r H Q) (f:∀ (B:Bs) (o:Aa Sl) (T:nD) (d:D) (p:Aa Sl->Prop),o.length=r.length->DS K B (o.zip r++(.v d,some v)::T) H->I d o p ->(∀ (l:Aa Sl) (g:St) (C:Hp),l.length=g.length->g.length=r.length->(∀ j,n<=j->g[j]?=r[j]?)->DS K B (l.zip g++T) C->p l->Q g C)->P):P:=by
 obtain⟨B,o,T,d,p,a,hd,b,k⟩:=h;exact f B o T d p a hd b k
theorem Mh.elim {K:lL}{P:Prop}(h:Mh K n U J C H Q) (f:∀ (B:Bs) (p:Aa Sl) (T:nD) (o:Aa D) (r:Aa Sl->Prop),p.length=C.length->o.length=J.length->DS K B (p.zip C++(pK o J++T)) H->U o p r ->(∀ (l:Aa Sl) (g:St) (I:Hp),l.length=g.length->g.length=C.length->(∀ j,n<=j->g[j]?=C[j]?)->DS K B (l.zip g++T) I->r l->Q g I)->P):P:=by
 obtain⟨B,p,T,o,r,a,c,hd,b,k⟩:=h;exact f B p T o r a c hd b k
abbrev wA (X:Cx) (n:Nat) (e:Expr) (g:tF):Prop:=PG X e (dG X.K n g)
abbrev By (X:Cx) (n:Nat) (g:Aa Expr) (j:yZ):Prop:=wY X g (Mh X.K n j)
theorem PG.mono {X:Cx}(h:PG X e t) (k:∀ v g H Q,j v g H Q->t v g H Q):PG X e j:=λa s g H v u Q I r q=>h a s g H v u Q I r (k v g H Q q)
theorem wY.mono {X:Cx}(h:wY X j t) (k:∀ v g H Q,l v g H Q->t v g H Q):wY X j l:=λa s g H v u Q I r q=>h a s g H v u Q I r (k v g H Q q)
def gN (i:Nat):tF:=λd b a=>a (b.set i (.v d))
def AR:yZ:=λa c b=>a=[]/\b c
def BM (g:tF) (j:yZ):yZ:=λa e c=>match a with
 | d::a=>g d e λb=>j a b c
 | []=>False
def KA (n:Nat) (g:yZ):tF:=λd c b=>match d with
 | .t a=>a.length=n/\g a c b
 | _=>False
section
variable {X:Cx}{K:lL}
theorem DS.pushs {A:Ad->Prop}:∀ {g:Aa D}{j:Aa V},DS K B (L++T) H->Reps K (Al B (hO (L++T))) H g j->DS K B (L++(pK g j++T)) H
 | _,_,h,.nil=>h
 | _,_,h,.cons (ds:=g) (vs:=j) r i=>by
  have c:=DS.pushs (A:=A) h i;have b:hO (L++(pK g j++T))=hO (L++T):=by
   have:∀ (g:Aa D) (j:Aa V),hO (pK g j)=[]:=λg j=>by
    refine gR.mpr λa d=>?_
    obtain⟨q,f,e⟩:=tT.mp d;obtain⟨p,_,rfl⟩:=aE.mp f;cases e
   rw[qS,qS,qS,this,fY]
  exact c.push (by rw[b];exact r)
theorem lX (i:Nat) (g:X.N.Nodup) (o:X.N[i]?=some x:=by rfl) (p:vL X.env.scope x:=by first | exact Or.inl rfl | exact Or.inr rfl) (r:i<m:=by decide) (l:X.fn x=true\/X.env.scope.names.lookup x=some .local:=by first | exact .inl rfl | exact .inr rfl | assumption):wA X m (.Name x pos) (gN i) :=
 (sD g o p l).mono λv n H Q a=>a.elim λB h T d f b hd c k=>k _ _ H (by rw[bU,bU];exact b) (bU ..) (λj e=>eL (by omega)) (hd.assign b i) c
theorem rK:By X m [] AR:=KN.mono λf i H Q a=>a.elim λB h T n q c e hd ⟨b,d⟩ k=>by
 subst b;cases f with
 | nil=>exact⟨rfl,k h i H c rfl (λ_ _=>rfl) hd d⟩
 | cons _ _=>simp at e
theorem nL (p:wA X m e g) (r:By X m l o) (C:(assignEach (e::l) X.env).map (·.2)=assign e X.env::(assignEach l X.env).map (·.2):=by rfl):By X m (e::l) (BM g o) :=
 (Zd p r C).mono λb M H Q c=>c.elim λB F T a E w t hd s k=>by
  cases a with
  | nil=>exact s.elim
  | cons d a =>
   cases b with
   | nil=>simp at t
   | cons v b =>
    refine⟨v,b,rfl,B,F,pK a b++T,d,_,w,hd,s,λf G L x y f1 d1 q=>⟨B,f,T,a,E,x,by simpa using t,d1,q,λh i u z A f2 d2 D=>k h i u z (A.trans y) (λj n=>(f2 j n).trans (f1 j n)) d2 D⟩⟩
theorem sB (o:X.calm=true) (h:By X m g l) (p:(assignEach g X.env).length=n:=by rfl) (j:(assignEach g X.env).findIdx? (·.1)=none:=by rfl):wA X m (.Tuple g k pos) (KA n l) :=
 (IJ o h p j).mono λv x H Q b=>b.elim λB w T d u q hd c k=>by
  cases d with
  | t f =>
   obtain⟨a,s,rfl,i,e⟩:=hd.valAt.tup_inv;exact⟨a,s,rfl,mF.of i,by rw[<- e.length];exact c.1,B,w,T,f,u,q,e.length,hd.drop.pushs (A:=λ_=>True) e,c.2,k⟩
  | _=>exact c.elim
end
def HD (j:mP) (g:tF):pP:=λc b e=>j c e λr a=>match sd r with
 | some d=>g d a b.nx
 | none=>False
def yF:D->D->D->Ab D
 | .l b,.int i,d=>(uS b.length i).map λj=>.l (b.set j d)
 | .k a,k,d=>if a.length<100000 then (sK k).map λk=>.k (mY a k d) else none
 | .T a,.t c,d=>if a.length<100000 then (uO c).map λk=>.T (mY a k d) else none
 | _,_,_=>none
def Rr (i:Nat) (g j:mP):pP:=λf h q=>j f q λn a=>(at? a i).isSome=true/\g f a λm b=>match sd n,sd m,b[i]? with
 | some d,some k,some (.o c)=>∃ e,yF c k d=some e/\h.nx (b.set i (.o e))
 | _,_,_=>False
section
variable {X:Cx}{K:lL}
theorem J2 (o:PD X e I) (p:wA X m l g) (C:swapsWithSole [l] e pos.line X.env=pure false:=by rfl) (hw:swappedStores [l] e X.env=pure none:=by rfl)
  (j:(assignEach [l] X.env).map (·.2)=[assign l X.env]:=by rfl):sW X (.Assign [l] e pos) (HD I g):=(Ch o p C hw j).mono λz D H b=>b.elim λB x T y k hd n s=>⟨B,x,T,_,k,hd,n,λr c v A q d1 j=>by
 cases a:sd r with
 | none=>rw[a] at j;exact j.elim
 | some d =>
  rw[a] at j;exact⟨B,c,T,d,_,q,d1.thaw a,j,λf h i t u _ d2 w=>(s.1 f h i t u d2).1 w⟩⟩
def Oa:Lh:=λo i v H Q=>S7 o i v H Q\/∃ a b,o = .ref a/\wB H a i v b/\Q b
theorem Xs (j:X.A.units+1<cLine):J5 X Oa:=by
 intro b s t H o i v n m u Q I d c e h;rcases h with h | ⟨a,f,rfl,g,q⟩
 .exact Ia b s t H o i v n m u Q I d c e h
 .cases d;exact Qd j I g c e λw k=>⟨f,k,q⟩
theorem DS.slotW {g:Aa Sl}{j:St}(C:g.length=j.length) (h:DS K B (g.zip j++T) H){i:Nat}{c:D}(e:g[i]?=some (.o c)):∃ a,j[i]?=some (some (.ref a))/\oO K (Al B (hO (g.zip j++T))) H a c /\
  ∀ (o:HO) (l:D),(∀ p,Kp (Al B (hO (g.zip j++T))) p H (upd H a o)->oO K p (upd H a o) a l)->DS K B ((g.set i (.o l)).zip j++T) (upd H a o):=by
 obtain⟨q,y,s,m,_,n,b⟩:=vW C e;have d:DS K B (q++(.o c,y)::(s++T)) H:=by rw[n] at h;simpa using h
 obtain⟨a,rfl,_⟩:=d.at;have f:hO (g.zip j++T)=hO q++a::hO (s++T):=by rw[n,bM,cV,rR];rfl
 obtain⟨v,t,r⟩:=d.ownAt;cases t;refine⟨a,m,by rw[f];exact r,λo l k=>?_⟩;rw[f] at k;have u:=d.write (o:=o) (d':=l) k;have:=b (.o l) (some (.ref a));rw[Bx m] at this;rw[this]
 simpa using u
theorem ML (h:yF c k d=some p) (r:oO K A H a c) (J:mU K A H k y) (I:Rep K A H d v)
  (C:∀ o,(∀ g,Kp A g H (upd H a o)->oO K g (upd H a o) a p)->Q (upd H a o)):Oa (.ref a) y v H Q:=by
 cases c with
 | l M =>
  cases k with
  | int i =>
   obtain⟨m,s,n⟩:=r;obtain⟨j,u,rfl⟩:=cP.mp h;have:=J.int_inv;subst this;exact .inl ⟨a,m,i,j,rfl,rfl,s,by rw[<- n.length];exact u,C _ λg w=>⟨_,lR,(n.set I j).mono w⟩⟩
  | _=>cases h
 | k e =>
  obtain⟨m,s,q,n⟩:=r;have h:=(show (if e.length<100000 then (sK k).map λj=>D.k (mY e j d) else none)=some p from h);by_cases f:e.length<100000
  .rw[aT f] at h;obtain⟨j,u,rfl⟩:=cP.mp h;rw[B8 u J];obtain⟨z,B⟩:=Fn q n (k:=j) I;have x:m.length<sizeLine:=by
    have:=bY List.length q;simp only[aA] at this;exact bD (show m.length<100000 by omega) (by decide)
   exact .inr ⟨a,_,rfl,wB.k s x,C _ λg w=>⟨_,lR,z,B.mono w⟩⟩
  .rw[aN f] at h;cases h
 | T e =>
  cases k with
  | t F =>
   obtain⟨m,s,q,n⟩:=r;have h:=(show (if e.length<100000 then (uO F).map λj=>D.T (mY e j d) else none)=some p from h);by_cases f:e.length<100000
   .rw[aT f] at h;obtain⟨j,u,rfl⟩:=cP.mp h;obtain⟨b,L,rfl,E,G⟩:=J.tup_inv;rw[Vt u G] at E;obtain⟨z,B⟩:=Fn q n (k:=j) I;have x:m.length<sizeLine:=by
     have:=bY List.length q;simp only[aA] at this;exact bD (show m.length<100000 by omega) (by decide)
    exact .inr ⟨a,_,rfl,wB.t s E x,C _ λg w=>⟨_,lR,z,B.mono w⟩⟩
   .rw[aN f] at h;cases h
  | _=>cases h
 | _=>cases h
theorem A7 (U:X.A.units+1<cLine) (hv:PD X e tv) (I:PE X o (oY n)) (r:PD X i ti)
  (j:∀ v,assign (.Subscript o i g) X.env v=(do
   let l <- holding [v] (eval o X.env);let C <- holding [v,l] (eval i X.env)
   standAt g
   holding [v,l,C] (setItem l C v)
   release [v,l,C] []):=by intro _;rfl)
  (J:swapsWithSole [.Subscript o i g] e pos.line X.env=pure false:=by rfl) (hw:swappedStores [.Subscript o i g] e X.env=pure none:=by rfl)
  (p:(assignEach [.Subscript o i g] X.env).map (·.2)=[assign (.Subscript o i g) X.env]:=by rfl):sW X (.Assign [.Subscript o i g] e pos) (Rr n ti tv) :=
 (Ch hv (G8 I r (Xs U) j) J hw p).mono λDn σ H q=>q.elim λB ρ T De N hd P Q=>⟨B,ρ,T,_,N,hd,P,λF u v H1 D d1 t=>by
  obtain⟨r,p⟩:=t;obtain⟨d0,L⟩:=dD.mp r;obtain⟨x,z,_⟩:=d1.peek D L;refine⟨x,z,B,u,(F,some v)::T,_,D,d1,p,λY w y H2 E d2 b=>?_⟩;cases f:sd F with
  | none=>rw[f] at b;exact b.elim
  | some d =>
   cases h:sd Y with
   | none=>rw[f,h] at b;exact b.elim
   | some k =>
    cases m:w[n]? with
    | none=>rw[f,h,m] at b;exact b.elim
    | some s =>
     cases s with
     | n=>rw[f,h,m] at b;exact b.elim
     | v c=>rw[f,h,m] at b;exact b.elim
     | o c =>
      rw[f,h,m] at b;obtain⟨G,M,b⟩:=b;obtain⟨R,S,V⟩:=d2.two f h;obtain⟨a,j,W,Z⟩:=R.slotW E m;rw[z] at j;cases j;exact ML M W V.peek S λo O=>(Q.1 _ _ _ (by rw[bU];exact E) rfl (Z o G O)).1 b⟩
def Pl (n:Nat) (f:Int->Int->Int) (g:mP):pP:=λd c b=>match at? b n with
 | some (.int i)=>g d b λr a=>match r with
  | .v (.int j)=>c.nx (a.set n (.v (.int (f i j))))
  | _=>False
 | _=>False
theorem O7 (j:X.N.Nodup) (p:X.N[n]?=some x) (I:vL X.env.scope x) (l:PD X e J) (C:Ml X op (P2 f)) (o:X.fn x=true\/X.env.scope.names.lookup x=some .local:=by first | exact .inl rfl | exact .inr rfl | assumption) :
  sW X (.AugAssign (.Name x g) op e pos) (Pl n f J):=(MD j p I l C o).mono λz A H h=>h.elim λB m T w i hd a t=>by
 unfold Pl at a;cases b:at? m n with
 | none=>rw[b] at a;exact False.elim a
 | some d =>
 rw[b] at a;cases d<;>first | exact False.elim a | skip
 .obtain⟨v,s,pv⟩:=hd.peek i b;have:=pv.int_inv;subst this;refine⟨_,s,B,m,T,_,i,hd,a,λr u y q k d1 c=>?_⟩;cases r<;>first | exact False.elim c | skip
  rename_i d
  cases d<;>first | exact False.elim c | skip
  have:=d1.valAt.int_inv;subst this;exact⟨_,_,rfl,rfl,(t.1 _ _ q (by rw[bU,bU];exact k) (bU ..) ((d1.drop.push (.int _)).assign k n)).1 c⟩
end
section
variable {X:Cx}
def Xe (K:lL) (R:It->Hp->Prop) (x:V) (H:Hp):Prop:=(∃ a,x = .ref a/\(∃ b,lO K H a b)/\R (wK K a) H)\/(∃ a,x = .ref a/\(∃ b,mF K H a b)/\R (Bp K a) H)\/∃ z:Af,x = .str z/\z.cps.all (·<128)=true/\R (uQ z) H
def OH (K:lL) (g:TE):TI:=λb H R=>g b H λx a=>Xe K R x a
theorem Oh (g:PE X l j):PI X r l (OH X.K j):=by
 intro d s G H R I h;refine lQ (g d s G H _ I h) λv c u=>?_
 obtain⟨x,k,f,w,D⟩:=u;have m:∀ b∈[c.heap.objs.size],sR X d k b:=λb A=>by
  have e:b=c.heap.objs.size:=by simpa using A
  subst e;exact f.fpOk (aW _) (f.hok.fresh (aW _))
 rcases D with⟨a,rfl,⟨F,n⟩,q⟩ | ⟨a,rfl,⟨F,n⟩,q⟩ | ⟨z,rfl,y,q⟩
 .cases w;obtain⟨i,E,p,B⟩:=f.list n;exact fG p.isList ⟨c.heap.objs.size,[c.heap.objs.size],_,_,k,rfl,f.kept (t':=c.toks) λb o e=>aK _ e,Rh a _,⟨_,bA _ rfl,rfl,rfl⟩,m,q⟩
 .cases w;obtain⟨i,E,p,B⟩:=f.tuple n;exact jB (show c.heap.IsTuple a i.toArray from p) ⟨c.heap.objs.size,[c.heap.objs.size],_,_,k,rfl,f.kept (t':=c.toks) λb o e=>aK _ e,Ym a _,⟨_,bA _ rfl,rfl,rfl⟩,m,q⟩
 .obtain⟨t,rfl⟩:=w;exact wpAny_pyIter_ascii y ⟨c.heap.objs.size,[c.heap.objs.size],_,uQ z,k,rfl,f.kept (t':=c.toks) λb L q=>aK _ q,S3 z t _,⟨_,bA _ rfl,rfl,rfl⟩,m,q⟩
end
def zB (K:lL) (A:Ad->Prop) (H:Hp) (E:nD):Prop:=∀ p∈E,sC K A H p.1 p.2
structure YD (K:lL) (J:It) (ds:List D) (E:nD):Prop where
 vals:hO E=[]
 go:∀ i H A,i<ds.length->zB K A H E->J.go i H
 yld:∀ i H A x H',i<ds.length->zB K A H E->J.yld i H x H'->∃ d,ds[i]?=some d/\((H'=H/\Rep K A H d x)\/∃ p es vs,H p=none/\x = .ref p/\H'=upd H p (.t vs)/\d = .t es/\Reps K A H es vs)
 stop:∀ i H A,i=ds.length->zB K A H E->J.stop i H
abbrev wG:=Aa Ad->Aa Sl->(Aa D->Aa Sl->Prop)->Prop
def dI (K:lL) (g:wG):TI:=λb H R=>∃ (B:Bs) (c:Aa Sl) (T:nD) (f:Aa D->Aa Sl->Prop),c.length=b.length/\DS K B (c.zip b++T) H/\g B.dk c f /\
 ∀ (J:It) (e:Aa D) (a:Aa Sl) (E:nD) (d:Hp),a.length=b.length->DS K B (a.zip b++(E++T)) d->YD K J e E->f e a->R J d
theorem dI.elim {K:lL}{R:It->Hp->Prop}{P:Prop}(h:dI K C o H R) (f:∀ (B:Bs) (j:Aa Sl) (T:nD) (l:Aa D->Aa Sl->Prop),j.length=o.length->DS K B (j.zip o++T) H->C B.dk j l ->(∀ (J:It) (r:Aa D) (g:Aa Sl) (E:nD) (p:Hp),g.length=o.length->DS K B (g.zip o++(E++T)) p->YD K J r E->l r g->R J p)->P):P:=by
 obtain⟨B,j,T,l,a,hd,b,k⟩:=h;exact f B j T l a hd b k
abbrev Ai (X:Cx) (g iter:Expr) (j:wG):Prop:=PI X g iter (dI X.K j)
theorem PI.mono {X:Cx}{iter:Expr}(h:PI X j iter w) (k:∀ g H R,l g H R->w g H R):PI X j iter l:=λa s g H R I q=>h a s g H R I (k g H R q)
noncomputable def Br (z:Af):Aa D:=z.cps.toList.map λc=>D.str ⟨#[c]⟩
def FV:D->Ab (Aa D)
 | .l a=>some a
 | .t a=>some a
 | .con a=>some a
 | .c a=>some a
 | .str z=>if z.cps.all (·<128) then some (Br z) else none
 | _=>none
def iV (g:mP):wG:=λb e d=>g b e λr a=>match (sd r).bind FV with
 | some c=>d c a
 | none=>False
noncomputable def qH (lo:Int) (n:Nat):Aa D:=(List.range n).map λ(i:Nat)=>D.int (lo+i)
def N7 (g:mP):wG:=λb d c=>g b d λr a=>match r with
 | .v (.int j)=>-(2 ^ 62)<=j/\j<2 ^ 62/\c (qH 0 j.toNat) a
 | _=>False
section
variable {X:Cx}{K:lL}
theorem MY {a:Ad}{g:Aa D}:YD K (wK K a) g [(.v (.l g),some (.ref a))] where
 vals:=rfl
 go:=λi H A h ok=>by
  obtain⟨v,e,r⟩:=ok _ aH;cases e;obtain⟨k,b,e,_,c,f⟩:=r.lst_inv;cases e;exact⟨b,b[i]'(by rw[<- f.length];exact h),lO.of c,aQ _⟩
 yld:=λi H A x m h ok y=>by
  obtain⟨v,e,r⟩:=ok _ aH;cases e;obtain⟨k,b,e,_,c,f⟩:=r.lst_inv;cases e;obtain⟨d,hd,rd⟩:=f.getV (y.2 b (lO.of c));exact⟨d,hd,.inl ⟨y.1,rd⟩⟩
 stop:=λi H A h ok=>by
  obtain⟨v,e,r⟩:=ok _ aH;cases e;obtain⟨k,b,e,_,c,f⟩:=r.lst_inv;cases e;exact⟨b,lO.of c,by rw[<- f.length];omega⟩
theorem AN {a:Ad}{g:Aa D}:YD K (wK K a) g [(.v (.c g),some (.ref a))] where
 vals:=rfl
 go:=λi H A k ok=>by
  obtain⟨v,e,r⟩:=ok _ aH;cases e;obtain⟨m,b,e,f,h⟩:=r.scr_inv;cases e;exact⟨b,b[i]'(by rw[<- h.length];exact k),f.sqL,aQ _⟩
 yld:=λi H A x n k ok y=>by
  obtain⟨v,e,r⟩:=ok _ aH;cases e;obtain⟨m,b,e,f,h⟩:=r.scr_inv;cases e;obtain⟨d,hd,rd⟩:=h.getV (y.2 b f.sqL);exact⟨d,hd,.inl ⟨y.1,rd⟩⟩
 stop:=λi H A k ok=>by
  obtain⟨v,e,r⟩:=ok _ aH;cases e;obtain⟨m,b,e,f,h⟩:=r.scr_inv;cases e;exact⟨b,f.sqL,by rw[<- h.length];omega⟩
theorem N8 {a:Ad}{d:D}{g:Aa D}(hd:d = .t g\/d = .con g):YD K (Bp K a) g [(.v d,some (.ref a))]:=by
 have key:∀ A H,zB K A H [(.v d,some (.ref a))]->∃ b,mF K H a b/\Reps K A H g b:=λA H ok=>by
  obtain⟨v,e,r⟩:=ok _ aH;cases e;rcases hd with rfl | rfl
  .obtain⟨k,b,e,c,f⟩:=r.tup_inv;cases e;exact⟨b,mF.of c,f⟩
  .obtain⟨k,b,e,c,f⟩:=r.con_inv;cases e;exact⟨b,c.sqT,f⟩
 refine⟨rfl,λi H A h ok=>?_,λi H A x m h ok y=>?_,λi H A h ok=>?_⟩
 .obtain⟨b,c,f⟩:=key A H ok;exact⟨b,b[i]'(by rw[<- f.length];exact h),c,aQ _⟩
 .obtain⟨b,c,f⟩:=key A H ok;obtain⟨d,hd,rd⟩:=f.getV (y.2 b c);exact⟨d,hd,.inl ⟨y.1,rd⟩⟩
 .obtain⟨b,c,f⟩:=key A H ok;exact⟨b,c,by rw[<- f.length];omega⟩
theorem EQ:YD K (uQ z) (Br z) [] where
 vals:=rfl
 go:=λi H A a _=>by simpa [uQ,Br,Str.length] using a
 yld:=λi H A x d a _ y=>by
  obtain⟨e,c,b,rfl⟩:=y;refine⟨.str ⟨#[c]⟩,?_,.inl ⟨e,.str _⟩⟩;unfold Br;rw[bC,fB,b];rfl
 stop:=λi H A a _=>by simp[uQ,a,Br,Str.length]
theorem AE {lo:Int}:YD K (tU lo n) (qH lo n) [] where
 vals:=rfl
 go:=λi H A a _=>by simpa [tU,qH] using a
 yld:=λi H A x c a _ y=>by
  have b:i<n:=by simpa [qH] using a
  refine⟨.int (lo+i),by simp[qH,b],.inl ⟨y.1,?_⟩⟩;rw[y.2];exact .int _
 stop:=λi H A a _=>by simp[tU,qH,a]
theorem mW (g:PD X e j):Ai X o e (iV j):=(Oh g).mono λM H R w=>w.elim λB L T G E hd F k=>⟨B,L,T,_,E,hd,F,λr f v n q d1 b=>by
 cases u:sd r with
 | none=>rw[u] at b;exact b.elim
 | some d =>
  rw[u] at b;have d2:=d1.thaw u;have s:=d2.valAt;cases d with
  | l m=>obtain⟨a,i,rfl,_,h,y⟩:=s.lst_inv;exact .inl ⟨a,rfl,⟨i,lO.of h⟩,k _ m f [_] n q d2 MY b⟩
  | c m=>obtain⟨a,i,rfl,h,y⟩:=s.scr_inv;exact .inl ⟨a,rfl,⟨i,h.sqL⟩,k _ m f [_] n q d2 AN b⟩
  | t m=>obtain⟨a,i,rfl,h,y⟩:=s.tup_inv;exact .inr (.inl ⟨a,rfl,⟨i,mF.of h⟩,k _ m f [_] n q d2 (N8 (.inl rfl)) b⟩)
  | con m=>obtain⟨a,i,rfl,h,y⟩:=s.con_inv;exact .inr (.inl ⟨a,rfl,⟨i,h.sqT⟩,k _ m f [_] n q d2 (N8 (.inr rfl)) b⟩)
  | str z =>
   have:=s.str_inv;subst this;have b:=(show (match (if z.cps.all (·<128)=true then some (Br z) else none:Ab (Aa D)) with | some A=>G A f | none=>False) from b);by_cases x:z.cps.all (·<128)=true
   .rw[aT x] at b;exact .inr (.inr ⟨z,rfl,x,k _ _ f [] n q d2.drop EQ b⟩)
   .rw[aN x] at b;exact b.elim
  | _=>exact b.elim⟩
theorem Aq (j:Gl X "range") (l:X.mg "range" = none) (g:PD X a I) (C:starEach [a] X.env=[(false,eval a X.env)]:=by rfl) (o:yK a=true:=by rfl):Ai X J (.Call (.Name "range" p) [a] [] pos) (N7 I) :=
 (Aj j l (mA g mJ o) C).mono λs H R c=>c.elim λB n T q h hd i k=>⟨B,n,T,_,h,hd,i,λr e v f m d1 b=>by
  cases r<;>first | exact False.elim b | skip
  rename_i d
  cases d<;>first | exact False.elim b | skip
  have:=d1.valAt.int_inv;subst this;exact⟨_,rfl,b.1,b.2.1,k _ _ e [] f m d1.drop AE b.2.2⟩⟩
def Iv (l:wG) (g:tF) (j:pP):pP:=λf b k=>l f k λh c=>∃ Pv:Nat->Aa Sl->Prop,Pv 0 c /\
 (∀ i d a,h[i]?=some d->Pv i a->g d a λe=>j f { nx:=Pv (i+1),ct:=Pv (i+1),bk:=b.nx,rt:=b.rt } e)/\∀ a,Pv h.length a->b.nx a
theorem DS.rmE:∀ {E:nD},DS K B (L++(E++T)) H->DS K B (L++T) H
 | [],h=>h
 | x::E,h=>DS.rmE (E:=E) (DS.drop (L1:=L) (x:=x) (by simpa using h))
theorem qV {iter:Expr}{body:Aa Stmt}{o:wG}{g:tF}{j:pP}(hi:Ai X l iter o) (hg:wA X 99 l g) (I:uW X body j) (hp:PassesOwn (model X.prog X.w) X.A X.env X.xe:=by exact gA) (U:X.calm=true:=by rfl)
  (hs:∀ x,foldedSetIterable iter X.env x=pure x:=by intro _;rfl):sW X (.For l iter body [] pos) (Iv o g j) :=
 (Bt hp U hi hg I hs).mono λDn W H O=>O.elim λB ρ T De hl hd ht Q=>⟨B,ρ,T,_,hl,hd,ht,λJ F S E H1 l1 d1 Y P=>by
  obtain⟨Pv,p0,step,fin⟩:=P;refine⟨λi m c k=>m=F.length-i/\i<=F.length/\∃ a,a.length=c.length/\c.length=W.length/\DS X.K B (a.zip c++(E++T)) k/\Pv i a,⟨_,rfl,dL _,S,l1,rfl,d1,p0⟩,?_⟩;rintro i m c k ⟨rfl,aa,a,V,m2,L,pv⟩;have n:zB X.K (Al B (hO (a.zip c++(E++T)))) k E:=λq hq=>L.ok q (by simp[hq])
  by_cases s:i<F.length
  .refine .inr ⟨Y.go i k _ s n,λf t=>∃ b,b.length=f.length/\f.length=W.length/\DS X.K B (b.zip f++(E++T)) t/\Pv (i+1) b,λf t ⟨b,q1,q2,R,q4⟩=>⟨_,(by omega:F.length-(i+1)<_),rfl,s,b,q1,q2,R,q4⟩,λx t y=>?_⟩;obtain⟨d,M,alt⟩:=Y.yld i k _ x t s n y;have d2:DS X.K B (a.zip c++(.v d,some x)::(E++T)) t:=by
    rcases alt with⟨rfl,rx⟩ | ⟨p,es,vs,N,rfl,rfl,rfl,rr⟩
    .exact L.push rx
    .exact L.tup N rr
   refine⟨B,a,E++T,d,_,V,d2,step i d a M pv,λb f H3 n1 n2 _ Z R=>⟨B,b,E++T,_,n1,Z,R,?_,?_⟩⟩
   .intro e h G u a2 D;refine⟨λz=>⟨e,u,by omega,D,z⟩,λz=>?_,λz=>⟨e,u,by omega,D,z⟩⟩;exact (Q.1 e h G u (by omega) D.rmE).1 z
   .intro r v e h G u D z;refine Q.2 r v e h G u ?_ z;have:DS X.K B ((e.zip h++[(r,some v)])++(E++T)) G:=by simpa using D
    simpa using this.rmE
  .have C:i=F.length:=by omega
   subst C;exact .inl ⟨Y.stop _ k _ rfl n,(Q.1 a c k V m2 L.rmE).1 (fin a pv)⟩⟩
def Yf (c:qN) (g:pP):pP:=λi h d=>∃ (Pv:Aa Sl->Prop) (f:Aa Sl->Nat),Pv d/\∀ d,Pv d->c i d λb e =>
 if b=true then g i { nx:=λa=>Pv a/\f a<f d,ct:=λa=>Pv a/\f a<f d,bk:=h.nx,rt:=h.rt } e else h.nx e
theorem EB {c:Expr}{body:Aa Stmt}{j:qN}{g:pP}(p:PassesOwn (model X.prog X.w) X.A X.env X.xe) (o:sG X c j) (l:uW X body g):sW X (.While c body [] pos) (Yf j g) :=
 (NW p o l).mono λI G H t=>t.elim λB Z T C N hd ⟨Pv,x,Q,step⟩ u=>by
  refine⟨λm f y=>∃ a,m=x a/\a.length=f.length/\f.length=G.length/\DS X.K B (a.zip f++T) y/\Pv a,⟨_,Z,rfl,N,rfl,hd,Q⟩,?_⟩;rintro m f y ⟨a,rfl,O,P,M,pv⟩;refine⟨B,a,T,_,O,M,step a pv,λb q L F d1 E=>?_⟩;cases b with
  | true =>
   refine (aT rfl).mpr ⟨λh D=>∃ d,d.length=h.length/\h.length=G.length/\DS X.K B (d.zip h++T) D/\Pv d/\x d<x a,λh D ⟨d,R,S,V,W,Y⟩=>⟨_,Y,d,rfl,R,S,V,W⟩,B,q,T,_,F,d1,(aT rfl).mp E,?_,?_⟩
   .intro e i s k J n;exact⟨λz=>⟨e,k,by omega,n,z⟩,λz=>(u.1 e i s k (by omega) n).1 z,λz=>⟨e,k,by omega,n,z⟩⟩
   .exact λr v e i s k n z=>u.2 r v e i s k n z
  | false=>exact tS ((u.1 q f L F P d1).1 ((aN (by decide)).mp E))
end
def mX (B:Bs) (D:Ad) (g:Aa V):Bs:=⟨B.dk,λa=>(B.A0 a\/B.H0 a=none)/\a≠D,λa=>if a=D then some (.l g) else B.H0 a⟩
section
variable {K:lL}{R:nD}{D:Ad}
theorem C5 {R:Aa Ad}:Al (mX B D g) R a↔Al B R a/\a≠D:=by
 unfold Al mX;constructor
 .rintro ⟨c,d,b | b⟩
  .exact⟨⟨c,d,b.1⟩,b.2⟩
  .dsimp only at b;by_cases z:a=D
   .rw[aT z] at b;cases b
   .rw[aN z] at b;exact⟨⟨c,d,.inr b⟩,z⟩
 .rintro ⟨⟨c,d,b⟩,e⟩;exact⟨c,d,.inl ⟨b,e⟩⟩
theorem DS.pin (h:DS K B L H) (g:H D=none):DS K (mX B D []) L (upd H D (.l [])):=by
 obtain⟨f1,f2,d⟩:=h.free g;refine⟨λb o e n=>?_,h.dk.upd f2,h.nd,λa c=>?_,λp f=>(h.ok p f).mono (.laid g λa z n=>C5.mpr ⟨z,n⟩) λb i o q=>by rw[lS (mR q g)];exact q⟩
 .by_cases z:b=D
  .subst z;simp only[mX,gE] at e;cases e;exact lR
  .simp only[mX,aN z] at e;rw[lS z];exact h.fr b o e n
 .have:=h.new a c;have z:a≠D:=λq=>d (q▸c)
  exact⟨by simp only[mX,aN z];exact this.1,this.2⟩
theorem DS.pinAt (h:DS K (mX B D j) L H) (g:D∉B.dk):H D=some (.l j):=h.fr D _ (by simp[mX]) g
theorem DS.pinW (h:DS K (mX B D j) L H) (g:D∉B.dk):DS K (mX B D ys') L (upd H D (.l ys')):=by
 have d:=h.pinAt g;have k:Kp (Al (mX B D j) (hO L)) (Al (mX B D ys') (hO L)) H (upd H D (.l ys')) :=
  (Kp.write (A:=Al (mX B D j) (hO L)) d rfl λz=>(C5.mp z).2 rfl).trans (.all λa z=>C5.mpr (C5.mp z))
 refine⟨λb o e n=>?_,h.dk.upd g,h.nd,λa f=>?_,λp c=>(h.ok p c).mono k λb i o q=>?_⟩
 .by_cases z:b=D
  .subst z;simp only[mX,gE] at e;cases e;exact lR
  .simp only[mX,aN z] at e;rw[lS z];exact h.fr b o (by simp only[mX,aN z];exact e) n
 .have:=h.new a f;have z:a≠D:=λq=>by subst q;simp[mX] at this
  simp only[mX,aN z] at this |-;exact this
 .have:=(h.new b (tT.mpr ⟨p,c,i⟩)).1;have z:b≠D:=λw=>by subst w;simp[mX] at this
  rw[lS z];exact q
theorem DS.unpin (h:DS K (mX B D g) L H) (r:Reps K (Al (mX B D g) (hO L)) H I g) (j:B.H0 D=none) (C:D∉B.dk):DS K B ((.o (.l I),some (.ref D))::L) H:=by
 have k:=h.pinAt C;have i:D∉hO L:=λz=>by have:=(h.new D z).1;simp[mX] at this
 have c:hO ((Sl.o (.l I),some (V.ref D))::L)=D::hO L:=rfl;have al:∀ a,Al (mX B D g) (hO L) a->Al B (D::hO L) a:=λa z=>by
  obtain⟨d,s⟩:=C5.mp z;exact⟨d.1,λq=>(aI.mp q).elim s d.2.1,d.2.2⟩
 refine⟨λb o e n=>?_,h.dk,by rw[c];exact cD.mpr ⟨i,h.nd⟩,λa f=>?_,λp m=>?_⟩
 .have z:b≠D:=λq=>by subst q;rw[j] at e;cases e
  exact h.fr b o (by simp only[mX,aN z];exact e) n
 .rw[c] at f;rcases aI.mp f with q | q
  .subst q;exact⟨j,C⟩
  .have:=h.new a q;have z:a≠D:=λw=>i (w▸q)
   simp only[mX,aN z] at this;exact this
 .rw[c];rcases aI.mp m with q | q
  .subst q;exact⟨D,rfl,g,k,r.mono (.all al)⟩
  .exact (h.ok p q).mono (.all al) λ_ _ _ w=>w
theorem DS.lend1 {g:Aa Sl}{j:St}(l:g.length=j.length) (h:DS K B (g.zip j++R) H) (i:Nat):DS K B ((g.set i .n).zip j++((g[i]?).getD .n,(j[i]?).join)::R) H:=by
 by_cases d:i<g.length
 .obtain⟨b,y,c,f,_,t,a⟩:=vW l (aQ d);rw[t] at h;have k:DS K B (b++(g[i],y)::(c++R)) H:=by simpa using h
  have m:=k.front;have q:DS K B (((g[i],y)::b)++(.n,y)::(c++R)) H:=DS.pushN (L1:=(g[i],y)::b) (by simpa using m) y;have e:=a .n y;rw[Bx f] at e;rw[e,aQ d,f];have s:DS K B ((g[i],y)::((b++(Sl.n,y)::c)++R)) H:=by simpa using q
  exact s.mid
 .rw[gI (by omega),hZ (by omega),hZ (by omega)];exact h.pushN _
theorem DS.back1 {g:Aa Sl}{l:St}{s:Sl}{y:Ab V}(o:g.length=l.length) (h:DS K B (g.zip l++(s,y)::R) H){i:Nat}(j:(l[i]?).join=y):DS K B ((g.set i s).zip l++R) H:=by
 by_cases q:i<g.length
 .obtain⟨d,a,f,c,_,t,b⟩:=vW o (aQ q);rw[c] at j;have j:a=y:=j;subst j;have e:=b s a;rw[Bx c] at e;rw[e];rw[t] at h;have k:DS K B (d++(f++(s,a)::R)) H:=DS.drop (L1:=d) (x:=(g[i],a)) (by simpa using h);have m:DS K B ((d++f)++(s,a)::R) H:=by simpa using k
  have n:DS K B ((s,a)::(d++(f++R))) H:=by simpa using m.front
  simpa using n.mid
 .rw[gI (by omega)];exact h.drop
def oK (g:Aa Nat) (j:Aa Sl):Aa Sl:=g.map λi=>(j[i]?).getD .n
def qZ (g:Aa Nat) (j:St):St:=g.map λi=>(j[i]?).join
def pF (g:Aa Nat) (j:Aa Sl):Aa Sl:=g.foldl (λj i=>j.set i .n) j
def pM:Aa Nat->Aa Sl->Aa Sl->Aa Sl
 | i::a,s::c,b=>pM a c (b.set i s)
 | _,_,b=>b
theorem Ih:∀ (g:Aa Nat) (j:Aa Sl),(pF g j).length=j.length
 | [],_=>rfl
 | i::g,j=>by show (pF g (j.set i .n)).length=_;rw[Ih g,bU]
theorem Nb:∀ (g:Aa Nat) (l:Aa Sl) (j:Aa Sl),(pM g l j).length=j.length
 | [],_,_=>rfl
 | _::_,[],_=>rfl
 | i::g,s::l,j=>(Nb g l (j.set i s)).trans (bU ..)
theorem DS.lend:∀ {caps:Aa Nat}{g:Aa Sl}{R:nD},caps.Nodup->g.length=l.length->DS K B (g.zip l++R) H->DS K B ((pF caps g).zip l++((oK caps g).zip (qZ caps l)++R)) H
 | [],g,R,_,a,h=>h
 | i::caps,g,R,d,a,h=>by
  obtain⟨f,k⟩:=cD.mp d;have b:=DS.lend (caps:=caps) (R:=((g[i]?).getD .n,(l[i]?).join)::R) k (by rw[bU];exact a) (h.lend1 a i);have e:oK caps (g.set i .n)=oK caps g:=bL λj c=>by rw[eL (λz:i=j=>f (by rw[z];exact c))]
  rw[e] at b;show DS K B ((pF caps (g.set i .n)).zip l++((((g[i]?).getD .n,(l[i]?).join)::(oK caps g).zip (qZ caps l))++R)) H;refine b.perm (jW _ ?_);rw[cV];exact gQ
theorem DS.back:∀ {caps:Aa Nat}{cs:Aa Sl}{g:Aa Sl}{R:nD},cs.length=caps.length->g.length=j.length->DS K B (g.zip j++(cs.zip (qZ caps j)++R)) H->DS K B ((pM caps cs g).zip j++R) H
 | [],[],g,R,_,a,h=>h
 | [],_::_,_,_,e,_,_=>by simp at e
 | _::_,[],_,_,e,_,_=>by simp at e
 | i::caps,s::cs,g,R,e,a,h=>by
  have b:DS K B (g.zip j++(s,(j[i]?).join)::(cs.zip (qZ caps j)++R)) H:=h;exact DS.back (caps:=caps) (cs:=cs) (by simpa using e) (by rw[bU];exact a) (b.back1 a rfl)
theorem MJ (g:Aa Nat):∀ (o:Aa Sl) (l:Aa Sl),o.length=g.length->g.Nodup->pM g o (pF g l)=pM g o l:=by
 have ext:∀ (g:Aa Nat) (o:Aa Sl) (l a:Aa Sl),o.length=g.length->l.length=a.length->(∀ j,j∉g->l[j]?=a[j]?)->pM g o l=pM g o a:=by
  intro g;induction g with
  | nil=>intro o l a _ _ h;cases o<;>exact kY λj=>h j bJ
  | cons i g c =>
   intro o l a e d h;cases o with
   | nil=>simp at e
   | cons s o =>
    show pM g o (l.set i s)=pM g o (a.set i s);refine c o _ _ (by simpa using e) (by simp[d]) λj b=>?_
    by_cases z:j=i
    .subst z;rw[List.getElem?_set,List.getElem?_set,d,aT rfl,aT rfl]
    .rw[eL (cY z),eL (cY z)];exact h j λq=>(aI.mp q).elim z b
 intro o l e _;refine ext g o _ _ e (Ih g l) λj b=>?_
 have:∀ (g:Aa Nat) (l:Aa Sl),j∉g->(pF g l)[j]?=l[j]?:=by
  intro g;induction g with
  | nil=>intro l _;rfl
  | cons i g c =>
   intro l b;show (pF g (l.set i .n))[j]?=_;rw[c _ (λz=>b (aM _ z)),eL (λz=>b (by simp[z]))]
 exact this g l b
theorem Ss:∀ {g:Aa L2.D}{j:Aa V},g.length=j.length->(∀ p∈pK g j,sC K A H p.1 p.2)->Reps K A H g j
 | [],[],_,_=>.nil
 | [],_::_,e,_=>by simp at e
 | _::_,[],e,_=>by simp at e
 | c::g,y::j,e,key=>by
  obtain⟨u,b,r⟩:=key (.v c,some y) (by simp[pK]);cases b;exact .cons r (Ss (by simpa using e) λp a=>key p (by simp only[pK,cX,aP,aI] at a |-;exact .inr a))
theorem DS.forget {ρ:Aa Sl}(n:Nat) (g:ρ.length=σ.length) (j:n<=ρ.length) (h:DS K B (ρ.zip σ++R) H):DS K B ((List.replicate n Sl.n++ρ.drop n).zip σ++R) H:=by
 induction n generalizing ρ σ R with
 | zero=>simpa using h
 | succ n c =>
  cases ρ with
  | nil=>simp at j
  | cons r ρ =>
   cases σ with
   | nil=>simp at g
   | cons y σ =>
    have a:DS K B (ρ.zip σ++R) H:=DS.drop (L1:=[]) (x:=(r,y)) h;have b:=c (ρ:=ρ) (σ:=σ) (R:=R) (by simpa using g) (by simpa using j) a;rw[dH,cV,List.drop_succ_cons,cX];exact DS.pushN (L1:=[]) b y
end
def Lx:qN:=λ_ b a=>a true b
def sQ (n:Nat) (j:Aa Nat) (I:wG) (g:tF) (C:qN) (p:mP):mP:=λk u t=>I k u λs f=>∃ Pv:Nat->Aa D->Aa Sl->Prop,Pv 0 [] (oK j f) /\
 (∀ i d e a,s[i]?=some d->a.length=j.length->Pv i e a->g d (List.replicate n Sl.n++a) λm=>C k m λb h=>if b=true then p k h λr q=>match sd r with
  | some c=>e.length<100000/\Pv (i+1) (e++[c]) (q.drop n)
  | none=>False
  else Pv (i+1) e (h.drop n)) /\
 ∀ e a,a.length=j.length->Pv s.length e a->t (.o (.l e)) (pM j a f)
section
variable {X:Cx}
theorem Hq:vU X [] (sT X.K Lx):=λa s f H Q I b=>b.elim λB e T h c hd d k=>vK a s f H Q I (k true e H c hd d)
theorem A5 (h:sG X c t):vU X [c] (sT X.K t):=T8 h
theorem Rb {T:Aa Af}{C:Aa Nat}{g:tF}{tt:qN}{te:mP}{K:lL}(ac:C.Nodup){σ:St}{H1:Hp}{Q:VK}{B:Bs}{I:Aa Sl}{Tm:nD}{Φ:Sl->Aa Sl->Prop}{J:It}{ds:Aa L2.D}{D:Ad}(l1:I.length=σ.length) (d1:DS K B (I.zip σ++Tm) H1)
  (hJ:∀ i U La M H,(∀ q∈Tm,q∈M)->DS K (mX B D U) (La++M) H->(i<ds.length->J.go i H)/\(i=ds.length->J.stop i H)/\∀ x H2,i<ds.length->J.yld i H x H2->∃ d,ds[i]?=some d/\DS K (mX B D U) (La++(.v d,some x)::M) H2)
  (ag:∃ Pv:Nat->Aa L2.D->Aa Sl->Prop,Pv 0 [] (oK C I) /\ (∀ i d U cs,ds[i]?=some d->cs.length=C.length->Pv i U cs->g d (List.replicate T.length Sl.n++cs) λaf=>tt B.dk af λb ab=>if b=true then te B.dk ab λr aa=>match sd r with
    | some c=>U.length<100000/\Pv (i+1) (U++[c]) (aa.drop T.length)
    | none=>False
    else Pv (i+1) U (ab.drop T.length)) /\
   ∀ U cs,cs.length=C.length->Pv ds.length U cs->Φ (.o (.l U)) (pM C cs I))
  (k:∀ r ae v H',ae.length=σ.length->DS K B (ae.zip σ++(r,some v)::Tm) H'->Φ r ae->Q v H') (hD:H1 D=none):Ax T C J (dG K T.length g) (sT K tt) (dE K te) σ H1 Q D:=by
 obtain⟨Pv,p0,step,fin⟩:=ag;obtain⟨f1,f2,f3⟩:=d1.free hD;refine⟨λi m U s H'=>m=ds.length-i/\i<=ds.length/\s.length=T.length+C.length/\(∀ j,T.length<=j->s[j]?=(rO T C σ)[j]?)/\∃ (h:Aa L2.D) (cs:Aa Sl),cs.length=C.length/\h.length=U.length /\ DS K (mX B D U) ((List.replicate T.length Sl.n++cs).zip s++((pF C I).zip σ++(pK h U++Tm))) H'/\Pv i h cs,?_,?_⟩
 .refine⟨_,rfl,dL _,by simp[rO],λ_ _=>rfl,[],oK C I,by simp[oK],rfl,?_,p0⟩;have h2:=(d1.lend ac l1).pin hD;have e:(List.replicate T.length Sl.n++oK C I).zip (rO T C σ)=List.replicate T.length (Sl.n,none)++(oK C I).zip (qZ C σ):=by
   have:∀ n,(List.replicate n Sl.n++oK C I).zip (List.replicate n none++qZ C σ)=List.replicate n (Sl.n,none)++(oK C I).zip (qZ C σ):=by
    intro n;induction n with
    | zero=>rfl
    | succ n ih=>simp only[dH,cV,cX,ih]
   have W:rO T C σ=List.replicate T.length none++qZ C σ:=by unfold rO qZ;rw[List.map_const']
   rw[W];exact this _
  rw[e];have h3:DS K (mX B D []) ((oK C I).zip (qZ C σ)++((pF C I).zip σ++Tm)) (upd H1 D (.l [])):=h2.perm (by
   rw[<- bM,<- bM (as:=(oK C I).zip (qZ C σ))];exact List.perm_append_comm.append_right _)
  have:∀ n,DS K (mX B D []) (List.replicate n (Sl.n,none)++((oK C I).zip (qZ C σ)++((pF C I).zip σ++Tm))) (upd H1 D (.l [])):=by
   intro n;induction n with
   | zero=>exact h3
   | succ n ih=>rw[dH];exact DS.pushN (L1:=[]) ih none
  have e3:pK ([]:Aa L2.D) ([]:Aa V)=[]:=rfl;rw[e3]
  simpa using this T.length
 .rintro i m U s H' ⟨rfl,hi,ls,fs,h,cs,G,z,N,pv⟩;obtain⟨j1,j2,j3⟩:=hJ i U _ _ H' (λq hq=>by simp[hq]) N;by_cases w:i<ds.length
  .refine .inr ⟨j1 w,λf v R=>f.length=T.length+C.length/\(∀ j,T.length<=j->f[j]?=(rO T C σ)[j]?)/\U.length<100000/\∃ (c:L2.D) (aa:Aa Sl),aa.length=f.length/\DS K (mX B D U) (aa.zip f++(.v c,some v)::((pF C I).zip σ++(pK h U++Tm))) R/\Pv (i+1) (h++[c]) (aa.drop T.length),λf P=>f.length=T.length+C.length/\(∀ j,T.length<=j->f[j]?=(rO T C σ)[j]?)/\∃ aa:Aa Sl,aa.length=f.length/\DS K (mX B D U) (aa.zip f++((pF C I).zip σ++(pK h U++Tm))) P/\Pv (i+1) h (aa.drop T.length),?_,?_,λx H2 y=>?_⟩
   .rintro f v R ⟨q1,q2,q3,c,aa,A,t,q6⟩;refine⟨t.pinAt f2,bD q3 (by decide),ds.length-(i+1),by omega,rfl,w,q1,q2,h++[c],aa.drop T.length,by rw[dY];omega,by simp[z],?_,q6⟩;have w1:=(t.pinW (ys':=U++[v]) f2).forget T.length A (by omega);refine w1.perm (jW _ ?_);have ev:pK (h++[c]) (U++[v])=pK h U++[(.v c,some v)]:=by unfold pK;rw[List.zip_append z,List.map_append];rfl
    rw[ev];have p1:((Sl.v c,some v)::((pF C I).zip σ++(pK h U++Tm))).Perm ((pF C I).zip σ++(pK h U++((Sl.v c,some v)::Tm))):=by
     rw[<- bM,<- bM (as:=(pF C I).zip σ)];exact gQ.symm
    simpa using p1
   .rintro f P ⟨q1,q2,aa,A,t,q6⟩;exact⟨ds.length-(i+1),by omega,rfl,w,q1,q2,h,aa.drop T.length,by rw[dY];omega,z,t.forget T.length A (by omega),q6⟩
   .obtain⟨d,Z,d2⟩:=j3 x H2 w y;refine⟨mX B D U,_,_,d,_,by simp[G,ls],d2,step i d h cs Z G pv,λaf f H3 n1 n2 fr d3 q3=>⟨mX B D U,af,_,_,n1,d3,q3,λb ab P m1 d4 A=>?_⟩⟩;have F:∀ j,T.length<=j->f[j]?=(rO T C σ)[j]?:=λj O=>(fr j O).trans (fs j O)
    cases b with
    | false=>exact tS ⟨by omega,F,ab,m1,d4,(aN (by decide)).mp A⟩
    | true =>
     refine (aT rfl).mpr ⟨mX B D U,ab,_,_,m1,d4,(aT rfl).mp A,λr aa v R m4 d5 t=>?_⟩;cases S:sd r with
     | none=>rw[S] at t;exact t.elim
     | some c =>
      rw[S] at t;exact⟨by omega,F,by rw[<- z];exact t.1,c,aa,m4,d5.thaw S,t.2⟩
  .have ei:i=ds.length:=by omega
   subst ei;refine .inl ⟨j2 rfl,?_⟩;have es:s=s.take T.length++qZ C σ:=by
    apply kY;intro j;by_cases O:j<T.length
    .rw[iM (by rw[bZ];omega),List.getElem?_take_of_lt O]
    .rw[eR (by rw[bZ];omega),bZ,fs j (by omega)];have W:rO T C σ=List.replicate T.length none++qZ C σ:=by unfold rO qZ;rw[List.map_const']
     rw[W,eR (by rw[eC];omega),eC]
     congr 1
     omega
   have ez:(List.replicate T.length Sl.n++cs).zip s=(List.replicate T.length Sl.n).zip (s.take T.length)++cs.zip (qZ C σ):=by
    conv=>lhs;rw[es]
    exact lH (by rw[eC,bZ];omega)
   have rr:Reps K (Al (mX B D U) (hO ((pM C cs (pF C I)).zip σ++Tm))) H' h U/\DS K (mX B D U) ((pM C cs (pF C I)).zip σ++Tm) H':=by
    have g1:DS K (mX B D U) (cs.zip (qZ C σ)++((pF C I).zip σ++(pK h U++Tm))) H':=by
     rw[ez,bM] at N;exact DS.rmE (L:=[]) (E:=(List.replicate T.length Sl.n).zip (s.take T.length)) N
    have g2:DS K (mX B D U) ((pF C I).zip σ++(cs.zip (qZ C σ)++(pK h U++Tm))) H':=g1.perm (by
     rw[<- bM,<- bM (as:=(pF C I).zip σ)];exact List.perm_append_comm.append_right _)
    have g3:=g2.back G (by rw[Ih];exact l1);have Y:DS K (mX B D U) ((pM C cs (pF C I)).zip σ++(pK h U++Tm)) H':=g3;refine⟨?_,Y.rmE⟩;have er:hO ((pM C cs (pF C I)).zip σ++(pK h U++Tm))=hO ((pM C cs (pF C I)).zip σ++Tm):=by
     have:hO (pK h U)=[]:=by
      refine gR.mpr λa ha=>?_
      obtain⟨q,hq,e⟩:=tT.mp ha;obtain⟨p,_,rfl⟩:=aE.mp hq;cases e
     rw[qS,qS,qS,this,fY]
    have key:∀ p∈pK h U,sC K (Al (mX B D U) (hO ((pM C cs (pF C I)).zip σ++Tm))) H' p.1 p.2:=λp hp=>by
     have:=Y.ok p (by simp[hp]);rw[er] at this;exact this
    clear g1 g2 g3 Y er N ez es;revert key z;generalize Al (mX B D U) (hO ((pM C cs (pF C I)).zip σ++Tm))=AA;intro z key;exact Ss z key
   have u:=DS.unpin rr.2 rr.1 f1 f2;rw[MJ C cs I G ac] at u;exact k _ _ _ H' (by rw[Nb];exact l1) u.mid (fin h cs G pv)
theorem Rt {K:lL}(o:j.Nodup) (h:dE K (sQ T.length j ι g U I) C H Q) :
  xR T j (dI K ι) (dG K T.length g) (sT K U) (dE K I) C H Q:=by
 obtain⟨B,R,Tm,Φ,A,hd,G,k⟩:=h;refine⟨B,R,Tm,_,A,hd,G,λJ W S E V L d1 Y z D u=>Rb o (Tm:=E++Tm) L d1 (λi P s M H w d=>?_) z (λr c v m l d h=>k r c v m l (by
  have:DS K B ((c.zip C++[(r,some v)])++(E++Tm)) m:=by simpa using d
  simpa using this.rmE) h) u⟩
 have a:zB K (Al (mX B D P) (hO (s++M))) H E:=λq F=>d.ok q (by simp[w q (by simp[F])])
 refine⟨λb=>Y.go i H _ b a,λb=>Y.stop i H _ b a,λx n b y=>?_⟩;obtain⟨t,e,alt⟩:=Y.yld i H _ x n b a y;refine⟨t,e,?_⟩;rcases alt with⟨rfl,O⟩ | ⟨p,Z,vs,f,rfl,rfl,rfl,N⟩
 .exact d.push O
 .exact d.tup f N
theorem nJ {iter:Expr}(T o:Aa Af) (r:Aa Nat) (hi:Ai X tg iter ι)
  (hg:∀ p l C I J,wA (sF X (T++o) j I C p l J) T.length tg g)
  (he:∀ p l C I J,PD (sF X (T++o) j I C p l J) aa te)
  (ht:∀ p l C I J,vU (sF X (T++o) j I C p l J) ab (sT X.K tt):=by exact λ_ _ _ _ _=>Hq) (hc:X.calm=true:=by rfl) (hk:j.kind = .function:=by rfl) (ho:Cz X.N X.env.kindOf j T o r=true:=by rfl) (U:r.Nodup:=by decide) (hs:∀ x,foldedSetIterable iter X.env x=pure x:=by intro _;rfl):PD X (.ListComp aa [⟨tg,iter,ab,0⟩] j pos) (sQ T.length r ι g tt te) :=
 (tV T o r hc hi hk ho hg ht he hs).mono λ_ _ _ h=>Rt U h
theorem Ci (i:Nat){iter:Expr}(T o:Aa Af) (I:Aa Nat) (hN:X.N.Nodup) (hi:Ai X tg iter ι) (hg:∀ p l C J fp,wA (sF X (T++o) j J C p l fp) T.length tg g)
  (he:∀ p l C J fp,PD (sF X (T++o) j J C p l fp) U te)
  (ht:∀ p l C J fp,vU (sF X (T++o) j J C p l fp) ab (sT X.K tt):=by exact λ_ _ _ _ _=>Hq) (hc:X.calm=true:=by rfl) (hk:j.kind = .function:=by rfl) (ho:Cz X.N X.env.kindOf j T o I=true:=by rfl) (af:X.N[i]?=some x:=by rfl) (hx:vL X.env.scope x:=by first | exact Or.inl rfl | exact Or.inr rfl) (aa:I.Nodup:=by decide)
  (ag:swapsWith (.ListComp U [⟨tg,iter,ab,0⟩] j pos) (some (.Name x ac)) ae.line X.env=pure true:=by rfl)
  (hs:∀ x,foldedSetIterable iter X.env x=pure x:=by intro _;rfl)
  (hf:X.fn x=true\/X.env.scope.names.lookup x=some .local:=by first | exact .inl rfl | exact .inr rfl | assumption) :
  sW X (.Assign [.Name x ac] (.ListComp U [⟨tg,iter,ab,0⟩] j pos) ae) (oD i (sQ T.length I ι g tt te)) :=
 (EF T o I hN af hx hc hi hk ho hg ht he ag hs hf).mono λn q H a=>a.elim λB h Tm m e hd ht f=>Rt aa ⟨B,h,Tm,_,e,hd,ht,λr k v c b d1 d=>(f.1 _ _ c (by rw[bU,bU];exact b) (bU ..) (d1.assign b i)).1 d⟩
end
section
variable {X:Cx}{K:lL}
theorem rP (h:Peeks K A H [d] g):∃ x,g=[x]/\mU K A H d x:=by
 cases h with | cons h r=>cases r;exact⟨_,rfl,h⟩
theorem C1 (h:Peeks K A H [d,e] j):∃ x y,j=[x,y]/\mU K A H d x/\mU K A H e y:=by
 cases h with | cons h r=>cases r with | cons g r=>cases r;exact⟨_,_,rfl,h,g⟩
def EI:D->Ab Nat
 | .l a=>some a.length
 | .t a=>some a.length
 | .con a=>some a.length
 | .c a=>some a.length
 | .str z=>some z.length
 | .k b=>some b.length
 | _=>none
def Yd:OC:=λa b=>match a with
 | [d]=>Ig d=true/\∃ n,EI d=some n/\b (.v (.int n))
 | _=>False
def U1 (K:lL):Aa V->Hp->VK->Prop:=λc H Q=>(∃ p d,c=[.ref p]/\(lO K H p d\/mF K H p d)/\Q (.int d.length) H)\/(∃ z,c=[.str z]/\z.length<=sizeLine/\Q (.int z.length) H)\/∃ a b,c=[V.ref a]/\H a=some (.k b)/\Q (.int b.length) H
theorem sO:nK X (.builtin "len") (U1 X.K):=yA.or (Px.or FC)
theorem sJ:qX K (U1 K) Yd:=by
 intro B L H m t u Q hd q i k;cases m with
 | nil=>exact False.elim i
 | cons d m =>
 cases m with
 | cons _ _=>exact False.elim i
 | nil =>
 obtain⟨x,rfl,f⟩:=rP q;obtain⟨s,n,c,i⟩:=i;have fin:Q (.int n) H:=k _ _ H i (hd.pushF (.int _));cases d<;>first | (cases c;done) | skip
 .cases c;have:=f.str_inv;subst this;exact .inr (.inl ⟨_,rfl,zL (cW s),fin⟩)
 .cases c;obtain⟨a,b,rfl,h,r⟩:=f.tup_inv;exact .inl ⟨a,b,rfl,.inr (mF.of h),by rw[<- r.length];exact fin⟩
 .cases c;obtain⟨a,b,rfl,h,r⟩:=f.lst_inv;exact .inl ⟨a,b,rfl,.inl (lO.of h),by rw[<- r.length];exact fin⟩
 .cases c;obtain⟨a,b,rfl,h,e,r⟩:=f.dK_inv;refine .inr (.inr ⟨a,b,rfl,h,?_⟩);have:=bY List.length e;rw[aA,aA] at this;rw[<- this];exact fin
 .cases c;obtain⟨a,b,rfl,h,r⟩:=f.scr_inv;exact .inl ⟨a,b,rfl,.inl h.sqL,by rw[<- r.length];exact fin⟩
 .cases c;obtain⟨a,b,rfl,h,r⟩:=f.con_inv;exact .inl ⟨a,b,rfl,.inr h.sqT,by rw[<- r.length];exact fin⟩
noncomputable def yQ:Aa D->Ab (Aa Int)
 | []=>some []
 | .int i::a=>(yQ a).map (i::·)
 | _=>none
theorem Jq:∀ (g:Aa Int),yQ (g.map D.int)=some g
 | []=>rfl
 | n::g=>by
  show (yQ (g.map D.int)).map (n::·)=_;rw[Jq g];rfl
theorem Lc (h:yQ j=some l) (g:Reps K A H j o):o=l.map V.int:=by
 induction j generalizing l o with
 | nil=>cases g;cases h;rfl
 | cons d j b =>
  cases g with
  | cons r g =>
  cases d with
  | int i =>
   obtain⟨c,a,rfl⟩:=cP.mp h;rw[r.int_inv,b a g];rfl
  | _=>cases h
def Fb:OC:=λb d=>match b with
 | [.l c]=>∃ a,yQ c=some a/\d (.v (.int a.sum))
 | _=>False
theorem Lr:qX K (λj H Q=>∃ (p:Ad) (g:Aa Int),j=[.ref p]/\lO K H p (g.map V.int)/\Q (.int g.sum) H) Fb:=by
 intro B L H c j n Q hd f b k;cases c with
 | nil=>exact False.elim b
 | cons d c =>
 cases d<;>first | exact False.elim b | skip
 cases c with
 | cons _ _=>exact False.elim b
 | nil =>
 obtain⟨x,rfl,i⟩:=rP f;obtain⟨g,e,b⟩:=b;obtain⟨a,m,rfl,h,r⟩:=i.lst_inv;rw[Lc e r] at h;exact⟨a,g,rfl,lO.of h,k _ _ H b (hd.pushF (.int _))⟩
def Mg:OC:=λd c=>match d with
 | [.l e]=>∃ b,yQ e=some b/\b≠[]/\∀ m:Int,m∈b->(∀ a∈b,m<=a)->c (.v (.int m))
 | [.int i,.int j]=>∀ m:Int,(m=i\/m=j)->m<=i->m<=j->c (.v (.int m))
 | _=>False
def Ze:OC:=λd c=>match d with
 | [.l e]=>∃ b,yQ e=some b/\b≠[]/\∀ m:Int,m∈b->(∀ a∈b,a<=m)->c (.v (.int m))
 | [.int i,.int j]=>∀ m:Int,(m=i\/m=j)->i<=m->j<=m->c (.v (.int m))
 | _=>False
def K1 (K:lL):Aa V->Hp->VK->Prop:=λc H Q=>(∃ (p:Ad) (b:Aa Int),c=[.ref p]/\lO K H p (b.map V.int)/\b≠[]/\∀ m:Int,m∈b->(∀ a∈b,m<=a)->Q (.int m) H)\/∃ i j,c=[.int i,.int j]/\Q (.int (if j<i then j else i)) H
def Tx (K:lL):Aa V->Hp->VK->Prop:=λc H Q=>(∃ (p:Ad) (b:Aa Int),c=[.ref p]/\lO K H p (b.map V.int)/\b≠[]/\∀ m:Int,m∈b->(∀ a∈b,a<=m)->Q (.int m) H)\/∃ i j,c=[.int i,.int j]/\Q (.int (if j>i then j else i)) H
theorem LG (g:X.calm=true):nK X (.builtin "min") (K1 X.K):=(Wq g).or (Rx g)
theorem BO (g:X.calm=true):nK X (.builtin "max") (Tx X.K):=(BJ g).or (OX g)
theorem IG:qX K (K1 K) Mg:=by
 intro B L H c A D Q hd n b k;cases c with
 | nil=>exact False.elim b
 | cons d c =>
 cases d<;>first | exact False.elim b | skip
 .cases c with
  | nil=>exact False.elim b
  | cons e c =>
  cases e<;>first | exact False.elim b | skip
  cases c with
  | cons _ _=>exact False.elim b
  | nil =>
  obtain⟨x,y,rfl,f,py⟩:=C1 n;have:=f.int_inv;have:=py.int_inv;subst_vars
  rename_i i j
  refine .inr ⟨_,_,rfl,?_⟩;by_cases z:j<i
  .rw[aT z];exact k _ _ H (b _ (.inr rfl) (by omega) (by omega)) (hd.pushF (.int _))
  .rw[aN z];exact k _ _ H (b _ (.inl rfl) (by omega) (by omega)) (hd.pushF (.int _))
 .cases c with
  | cons _ _=>exact False.elim b
  | nil =>
  obtain⟨x,rfl,f⟩:=rP n;obtain⟨v,u,q,b⟩:=b;obtain⟨a,w,rfl,h,r⟩:=f.lst_inv;rw[Lc u r] at h;exact .inl ⟨a,v,rfl,lO.of h,q,λm s t=>k _ _ H (b m s t) (hd.pushF (.int _))⟩
theorem Za:qX K (Tx K) Ze:=by
 intro B L H c A D Q hd n b k;cases c with
 | nil=>exact False.elim b
 | cons d c =>
 cases d<;>first | exact False.elim b | skip
 .cases c with
  | nil=>exact False.elim b
  | cons e c =>
  cases e<;>first | exact False.elim b | skip
  cases c with
  | cons _ _=>exact False.elim b
  | nil =>
  obtain⟨x,y,rfl,f,py⟩:=C1 n;have:=f.int_inv;have:=py.int_inv;subst_vars
  rename_i i j
  refine .inr ⟨_,_,rfl,?_⟩;by_cases z:j>i
  .rw[aT z];exact k _ _ H (b _ (.inr rfl) (by omega) (by omega)) (hd.pushF (.int _))
  .rw[aN z];exact k _ _ H (b _ (.inl rfl) (by omega) (by omega)) (hd.pushF (.int _))
 .cases c with
  | cons _ _=>exact False.elim b
  | nil =>
  obtain⟨x,rfl,f⟩:=rP n;obtain⟨v,u,q,b⟩:=b;obtain⟨a,w,rfl,h,r⟩:=f.lst_inv;rw[Lc u r] at h;exact .inl ⟨a,v,rfl,lO.of h,q,λm s t=>k _ _ H (b m s t) (hd.pushF (.int _))⟩
def Sr:D->Ab (Aa D)
 | .l a=>some a
 | .t a=>some a
 | .con a=>some a
 | .c a=>some a
 | _=>none
theorem We (h:Sr d=some j) (p:mU K A H d x):∃ a g,x = .ref a/\(lO K H a g\/mF K H a g)/\Reps K A H j g:=by
 cases d<;>cases h
 .obtain⟨a,g,rfl,h,r⟩:=p.tup_inv;exact⟨a,g,rfl,.inr (mF.of h),r⟩
 .obtain⟨a,g,rfl,h,r⟩:=p.lst_inv;exact⟨a,g,rfl,.inl (lO.of h),r⟩
 .obtain⟨a,g,rfl,h,r⟩:=p.scr_inv;exact⟨a,g,rfl,.inl h.sqL,r⟩
 .obtain⟨a,g,rfl,h,r⟩:=p.con_inv;exact⟨a,g,rfl,.inr h.sqT,r⟩
def JV:OC:=λb c=>match b with
 | [d]=>∃ a,Sr d=some a/\c (.o (.l a))
 | _=>False
theorem L8:qX K (λg H Q=>∃ p j,g=[.ref p]/\(lO K H p j\/mF K H p j)/\∀ l,H l=none->Q (.ref l) (upd H l (.l j))) JV:=by
 intro B L H c g q Q hd f b k;cases c with
 | nil=>exact False.elim b
 | cons d c =>
 cases c with
 | cons _ _=>exact False.elim b
 | nil =>
 obtain⟨x,rfl,m⟩:=rP f;obtain⟨g,i,b⟩:=b;obtain⟨a,n,rfl,h,r⟩:=We i m;exact⟨a,n,rfl,h,λl e=>k _ _ _ b (hd.lstF e r)⟩
def Hz:OC:=λc b=>match c with
 | [.l a]=>b (.v (.t a))
 | [.t a]=>b (.v (.t a))
 | _=>False
theorem rV:qX K (λj H Q=>∃ p g,j=[.ref p]/\((lO K H p g/\∀ l,H l=none->Q (.ref l) (upd H l (.t g)))\/(mF K H p g/\Q (.ref p) H))) Hz:=by
 intro B L H e j q Q hd m b k;cases e with
 | nil=>exact False.elim b
 | cons d e =>
 cases d<;>first | exact False.elim b | skip<;>cases e<;>first | exact False.elim b | skip
 .obtain⟨x,rfl,c⟩:=rP m;have f:=c;obtain⟨a,i,rfl,h,r⟩:=c.tup_inv;exact⟨a,i,rfl,.inr ⟨mF.of h,k _ _ _ b (hd.pushF f)⟩⟩
 .obtain⟨x,rfl,c⟩:=rP m;obtain⟨a,i,rfl,h,r⟩:=c.lst_inv;exact⟨a,i,rfl,.inl ⟨lO.of h,λl n=>k _ _ _ b (hd.tupF n r)⟩⟩
def pU:Aa D->Ab (Aa (hI×D))
 | []=>some []
 | .t [k,d]::a=>match sK k,pU a with
  | some k,some r=>some ((k,d)::r)
  | _,_=>none
 | _=>none
theorem uP {l:Type}{f:l->D}{g:l->hI×D}(h:∀ x,∃ k,f x = .t [k,(g x).2]/\sK k=some (g x).1):∀ j:Aa l,pU (j.map f)=some (j.map g)
 | []=>rfl
 | x::j=>by
  obtain⟨k,a,b⟩:=h x;rw[aP,a];show (match sK k,pU (j.map f) with | some k,some r=>some ((k,(g x).2)::r) | _,_=>none)=_;rw[b,uP h j];rfl
def oW (g more:Aa (hI×D)):Aa (hI×D):=more.foldl (λa b=>mY a b.1 b.2) g
theorem JX (h:pU l=some j) (o:Reps K A H l C):∃ (p:Aa Ad) (g:Aa (hI×V)),C=p.map V.ref/\Cg H p g/\j.map (·.1)=g.map (·.1)/\Reps K A H (j.map (·.2)) (g.map (·.2)):=by
 induction l generalizing j C with
 | nil=>cases o;cases h;exact⟨[],[],rfl,.nil,rfl,.nil⟩
 | cons d l t =>
  cases o with
  | cons r o =>
  cases d<;>first | (cases h;done) | skip
  rename_i x
  rcases x with _ | ⟨k,_ | ⟨e,_ | ⟨_,_⟩⟩⟩<;>first | (cases h;done) | skip
  .have h:=(show (match sK k,pU l with | some k,some r=>some ((k,e)::r) | _,_=>none)=some j from h);cases c:sK k with
   | none=>rw[c] at h;cases h
   | some u =>
    cases f:pU l with
    | none=>rw[c,f] at h;cases h
    | some y =>
     rw[c,f] at h;cases h;obtain⟨a,z,rfl,s,b⟩:=r.tup_inv;obtain⟨p,g,i,m,n,q⟩:=t f o;cases b with
     | cons v b =>
      cases b with
      | cons w b =>
       cases b;have:=B8 c v.peek;subst this;exact⟨a::p,(u,_)::g,by rw[i];rfl,.cons s m,by rw[aP,aP,n],.cons w q⟩
theorem Ca:∀ {more:Aa (hI×D)}{mv:Aa (hI×V)}{kvs:Aa (hI×D)}{vs:Aa (hI×V)},more.map (·.1)=mv.map (·.1)->Reps K A H (more.map (·.2)) (mv.map (·.2))->kvs.map (·.1)=vs.map (·.1)->Reps K A H (kvs.map (·.2)) (vs.map (·.2)) ->
  (oW kvs more).map (·.1)=(pL vs mv).map (·.1)/\Reps K A H ((oW kvs more).map (·.2)) ((pL vs mv).map (·.2))
 | [],[],_,_,_,_,e,r=>⟨e,r⟩
 | [],_::_,_,_,e,_,_,_=>by simp at e
 | _::_,[],_,_,e,_,_,_=>by simp at e
 | (k,d)::more,(j,v)::mv,kvs,vs,a,b,e,r=>by
  simp only[aP,fZ] at a;obtain⟨rfl,a⟩:=a;cases b with
  | cons h b =>
   obtain⟨c,f⟩:=Fn e r (k:=k) h;exact Ca (more:=more) (mv:=mv) a b c f
def Xq:OC:=λc b=>match c with
 | [.k a]=>b (.o (.k a))
 | [.l d]=>∃ a,pU d=some a/\a.length<=1000/\b (.o (.k (oW [] a)))
 | _=>False
def Uc (K:lL):Aa V->Hp->VK->Prop:=λe H Q=>(∃ (a:Ad) (b:Aa (hI×V)),e=[.ref a]/\H a=some (.k b)/\∀ p,H p=none->Q (.ref p) (upd H p (.k b))) \/
 ∃ (p:Ad) (c:Aa Ad) (b:Aa (hI×V)),e=[.ref p]/\lO K H p (c.map V.ref)/\Cg H c b/\b.length<=1000/\∀ d,H d=none->Q (.ref d) (upd H d (.k (pL [] b)))
theorem sX (g:X.calm=true):nK X (.type "dict") (Uc X.K):=Zz.or (Yl g)
theorem tA:qX K (Uc K) Xq:=by
 intro B L H i E F Q hd c b k;cases i with
 | nil=>exact False.elim b
 | cons d i =>
 cases d<;>first | exact False.elim b | skip<;>cases i<;>first | exact False.elim b | skip
 .obtain⟨x,rfl,n⟩:=rP c;obtain⟨w,v,D,b⟩:=b;obtain⟨a,s,rfl,h,r⟩:=n.lst_inv;obtain⟨A,f,rfl,t,q,u⟩:=JX v r;obtain⟨y,z⟩:=Ca (kvs:=[]) (vs:=[]) q u rfl .nil;have m:f.length<=1000:=by
   have:=bY List.length q;simp only[aA] at this;omega
  exact .inr ⟨a,A,f,rfl,lO.of h,t,m,λp c=>k _ _ _ b (hd.dKF c y z)⟩
 .obtain⟨x,rfl,n⟩:=rP c;obtain⟨a,s,rfl,h,e,r⟩:=n.dK_inv;exact .inl ⟨a,s,rfl,h,λp c=>k _ _ _ b (hd.dKF c e r)⟩
def Ke:OC:=λc a=>match c with
 | [.int i]=>a (.v (.int i))
 | [.b b]=>a (.v (.int (if b then 1 else 0)))
 | _=>False
theorem X4:qX K (λg H Q=>(∃ i,g=[.int i]/\Q (.int i) H)\/∃ k,g=[.b k]/\Q (.int (if k then 1 else 0)) H) Ke:=by
 intro B L H c g h Q hd f a k;cases c with
 | nil=>exact False.elim a
 | cons d c =>
 cases d<;>first | exact False.elim a | skip<;>cases c<;>first | exact False.elim a | skip
 .obtain⟨x,rfl,e⟩:=rP f;have:=e.bl_inv;subst this;exact .inr ⟨_,rfl,k _ _ H a (hd.pushF (.int _))⟩
 .obtain⟨x,rfl,e⟩:=rP f;have:=e.int_inv;subst this;exact .inl ⟨_,rfl,k _ _ H a (hd.pushF (.int _))⟩
def Z8:OC:=λa b=>match a with
 | [.int i]=>i.natAbs.log2<1920/\b (.v (.str (toString i)))
 | _=>False
theorem Wj:qX K (λg H Q=>∃ i,g=[.int i]/\i.natAbs.log2<1920/\Q (.str (toString i)) H) Z8:=by
 intro B L H b g f Q hd c a k;cases b with
 | nil=>exact False.elim a
 | cons d b =>
 cases d<;>first | exact False.elim a | skip<;>cases b<;>first | exact False.elim a | skip
 obtain⟨x,rfl,e⟩:=rP c;have:=e.int_inv;subst this;exact⟨_,rfl,a.1,k _ _ H a.2 (hd.pushF (.str _))⟩
noncomputable def xS:Aa D->Ab (Aa Bool)
 | []=>some []
 | .b b::a=>(xS a).map (b::·)
 | _=>none
theorem K6:∀ (g:Aa Bool),xS (g.map D.b)=some g
 | []=>rfl
 | n::g=>by rw[aP,xS,K6 g];rfl
theorem EK (h:xS g=some j) (r:Reps K A H g l):l=j.map V.b:=by
 induction g generalizing j l with
 | nil=>cases r;simp only[xS,Option.some.injEq] at h;subst h;rfl
 | cons d g c =>
  cases r with
  | cons r e =>
  cases d with
  | b i =>
   simp only[xS,cP] at h;obtain⟨f,a,rfl⟩:=h;rw[r.bl_inv,c a e];rfl
  | _=>simp[xS] at h
def Xf:OC:=λa d=>match a with
 | [.l c]=>∃ bs,xS c=some bs/\d (.v (.b (bs.all id)))
 | _=>False
theorem O0:qX K (Tf K) Xf:=by
 intro B L H e s t Q hd i c k;cases e with
 | nil=>exact False.elim c
 | cons d e =>
  cases e with
  | cons _ _=>cases d<;>exact False.elim c
  | nil =>
   cases d<;>first | exact False.elim c | skip
   obtain⟨x,rfl,n⟩:=rP i;obtain⟨m,f,c⟩:=c;obtain⟨a,q,rfl,h,r⟩:=n.lst_inv;rw[EK f r] at h;exact⟨a,m,rfl,lO.of h,k _ _ H c (hd.pushF (.b _))⟩
end
def Li (T:String):D->Bool
 | .str _=>T == "str"
 | .l _=>T == "list"
 | .c _=>T == "list"
 | .k _=>T == "dict"
 | _=>false
section
variable {X:Cx}{K:lL}
theorem P4 (h:Li T d=true) (p:mU K A H d x):G5 K T x H:=by
 cases d<;>first | (cases h;done) | skip
 all_goals (have h:=eq_of_beq h;subst h)
 .have:=p.str_inv;subst this;rfl
 .obtain⟨a,b,rfl,h,r⟩:=p.lst_inv;exact .inl ⟨rfl,b,lO.of h⟩
 .obtain⟨a,b,rfl,h,e,r⟩:=p.dK_inv;exact .inr (.inr (.inl ⟨rfl,.inl ⟨b,h⟩⟩))
 .obtain⟨a,b,rfl,h,r⟩:=p.scr_inv;exact .inl ⟨rfl,b,h.sqL⟩
abbrev OM:=D->Aa D->(Sl->Prop)->Prop
abbrev RM:=V->Aa V->Hp->VK->Prop
def Og (K:lL) (r:RM) (f:OM):Prop:=∀ (B:Bs) (L:nD) (H:Hp) (d:D) (b:Aa D) (x:V) (c:Aa V) (e:Sl->Prop) (Q:VK),DS K B L H->mU K (Al B (hO L)) H d x->Peeks K (Al B (hO L)) H b c->f d b e ->
 (∀ s v a,e s->DS K B ((s,some v)::L) a->Q v a)->r x c H Q
def MI (T:String) (f:OM) (i:Nat) (g:sY):mP:=λc b h=>(match at? b i with | some d=>Li T d=true | none=>False)/\g c b λas a=>match at? a i,uY a as with
 | some d,some e=>f d e λs=>h s a
 | _,_=>False
variable {id:String}
theorem MO (pa:PlainAttrs T) (slot:Slot T name id) (j:typeOf (.builtin id)=pure (.type "method_descriptor")) (J:wN X id r) (I:Og X.K r f) (U:PE X o (oY i)) (p:rT X (e::l) ta)
  (C:MtB X o name apos e l g:=by exact {}) :
  PD X (.Call (.Attribute o name apos) (e::l) [] g) (MI T f i ta) :=
 (zC pa slot j J U p C).mono λW H Q u=>u.elim λB F Tm V D hd ⟨m,N⟩ k=>by
  cases n:at? F i with
  | none=>rw[n] at m;exact m.elim
  | some R =>
   rw[n] at m;obtain⟨x,E,O⟩:=hd.peek D n;refine⟨x,E,P4 m O,B,F,Tm,_,D,hd,N,λas a P L w ok d2 b=>?_⟩;cases h:at? a i with
   | none=>rw[h] at b;exact b.elim
   | some d =>
    cases q:uY a as with
    | none=>rw[h,q] at b;exact b.elim
    | some A =>
     rw[h,q] at b;have z:=d2.rmArgs;obtain⟨S,c,y⟩:=z.peek w h;rw[E] at c;cases c;exact I B _ L d A x P _ Q z y (d2.argsP w ok A q).1 b λs v G M t=>k s a v G w t.mid M
abbrev OW:=D->Aa D->(D->D->Prop)->Prop
def B2 (K:lL) (r:RM) (f:OW):Prop:=∀ (A:Ad->Prop) (H:Hp) (a:Ad) (c:D) (h:Aa D) (i:Aa V) (k:D->D->Prop) (Q:VK),¬ A a->oO K A H a c->Reps K A H h i->f c h k ->
 (∀ d v o e,k d e->Rep K A H d v->(∀ b,Kp A b H (upd H a o)->oO K b (upd H a o) a e)->Q v (upd H a o))->r (.ref a) i H Q
def dW (T:String) (f:OW) (i:Nat) (g:sY):mP:=λh b m=>(match at? b i with | some d=>Li T d=true | none=>False)/\g h b λas a=>match a[i]?,xP as with
 | some (.o c),some k=>f c k λd e=>m (.v d) (a.set i (.o e))
 | _,_=>False
theorem CP {f:OW}(C:B2 X.K r f){g:St}{H:Hp}{Q:VK}(h:dE X.K (dW T f i ta) g H Q):oY i g H λx l=>G5 X.K T x l/\dA X.K ta g l λxs j=>r x xs j Q:=by
 obtain⟨B,Y,Tm,Φ,S,hd,⟨A,J⟩,k⟩:=h;cases F:at? Y i with
 | none=>rw[F] at A;exact A.elim
 | some d0 =>
  rw[F] at A;obtain⟨x,t,px⟩:=hd.peek S F;refine⟨x,t,P4 A px,B,Y,Tm,_,S,hd,J,λas e vs j D ok d2 b=>?_⟩;cases m:e[i]? with
  | none=>rw[m] at b;exact b.elim
  | some s =>
   cases s with
   | n=>rw[m] at b;exact b.elim
   | v c=>rw[m] at b;exact b.elim
   | o c =>
    cases G:xP as with
    | none=>rw[m,G] at b;exact b.elim
    | some P =>
     rw[m,G] at b;have O:=d2.temps ok P G;have Z:=d2.rmArgs;obtain⟨a,R,W,wr⟩:=Z.slotW D m;rw[t] at R;cases R;obtain⟨u,U,tu⟩:=W.some;have V:¬ Al B (hO (e.zip g++Tm)) a:=λz=>z.2.1 (by
      obtain⟨l1,y,N,w,_,L,_⟩:=vW D m;rw[t] at w;cases w;rw[L,bM,cV,rR];exact aJ _ aH)
     refine C _ j a c P vs _ Q V W O b λd v o E M rd I=>k _ _ v _ (by rw[bU];exact D) ?_ M
     refine (wr o E I).push ?_;have p:hO ((e.set i (.o E)).zip g++Tm)=hO (e.zip g++Tm):=by
      obtain⟨l1,y,N,w,_,L,q⟩:=vW D m;rw[t] at w;cases w;have:=q (.o E) (some (.ref a));rw[Bx t] at this;rw[this,L,bM,bM,cV,cV,rR,rR];rfl
     rw[p];exact rd.mono (.write U tu V)
theorem pS {f:OW}(pa:PlainAttrs T) (slot:Slot T name id) (j:typeOf (.builtin id)=pure (.type "method_descriptor")) (J:wN X id r) (I:B2 X.K r f) (U:PE X o (oY i)) (p:rT X (e::l) ta)
  (C:MtB X o name apos e l g:=by exact {}) :
  PD X (.Call (.Attribute o name apos) (e::l) [] g) (dW T f i ta):=(zC pa slot j J U p C).mono λ_ _ _ h=>CP I h
noncomputable def KZ:OW:=λc b f=>match c,b with
 | .l a,[d]=>a.length<100000/\f .e (.l (a++[d]))
 | _,_=>False
theorem sA:B2 K Jl KZ:=by
 intro A H a c q s t Q _ i rd b k;cases c<;>first | exact False.elim b | skip
 cases rd with
 | nil=>exact False.elim b
 | cons f rd =>
 cases rd with
 | cons _ _=>exact False.elim b
 | nil =>
 .obtain⟨m,h,r⟩:=i
  .refine⟨a,m,_,rfl,rfl,h,bD (by rw[<- r.length];exact b.1) (by decide),k _ _ _ _ b.2 .e λn d=>⟨_,lR,(r.append (.cons f .nil)).mono d⟩⟩
def Zf:OW:=λc b d=>match c,b with
 | .l a,[.int i]=>∃ k y,-(2 ^ 63)<=i/\i<2 ^ 63/\seqIndex? i a.length=some k/\a[k]?=some y/\d y (.l (a.eraseIdx k))
 | _,_=>False
theorem Fk:B2 K Tc Zf:=by
 intro A H a c z B D Q _ t rd b k;cases c<;>first | exact False.elim b | skip
 cases rd with
 | nil=>exact False.elim b
 | cons s rd =>
 rename_i d _ _ _
 cases d<;>first | exact False.elim b | skip
 cases rd with
 | cons _ _=>exact False.elim b
 | nil =>
 .obtain⟨w,h,r⟩:=t
  .have:=s.int_inv;subst this;obtain⟨j,y,e,f,i,m,b⟩:=b;obtain⟨v,n,u⟩:=r.get m;exact⟨a,w,_,j,v,rfl,rfl,h,e,f,by rw[<- r.length];exact i,n,k _ _ _ _ b u λx q=>⟨_,lR,(r.erase j).mono q⟩⟩
def GX:D->Bool
 | .k _=>true
 | .T _=>true
 | _=>false
def Zk (i:Nat) (ty g:mP):mP:=λc e m=>(match at? e i with | some d=>GX d=true | none=>False)/\ty c e λf b=>g c b λh a=>match at? a i,sd f,sd h with
 | some d,some k,some x=>∃ o,yN d k=some o/\m (.v (o.getD x)) a
 | _,_,_=>False
theorem C9 (U:X.A.units+1<cLine) (l:PE X o (oY i)) (I:PD X k ty) (J:PD X x tx) (m:M2 X o "get" apos k x j:=by exact⟨rfl,rfl,rfl,rfl⟩):PD X (.Call (.Attribute o "get" apos) [k,x] [] j) (Zk i ty tx) :=
 (U4 U l I J m).mono λσ H Q E=>E.elim λB W Tm Φ N hd ⟨t,T⟩ k=>by
  cases u:at? W i with
  | none=>rw[u] at t;exact t.elim
  | some Z =>
   rw[u] at t;obtain⟨x,O,R⟩:=hd.peek N u;obtain⟨a,rfl,F⟩:∃ a,x = .ref a/\Fi H a:=by
    cases Z<;>first | (cases t;done) | skip
    .obtain⟨a,L,rfl,h,e,r⟩:=R.dK_inv;exact⟨a,rfl,.inl ⟨L,.inl h⟩⟩
    .obtain⟨a,L,rfl,h,e,r⟩:=R.dT_inv;exact⟨a,rfl,.inr ⟨L,h⟩⟩
   refine⟨.ref a,O,a,rfl,F,B,W,Tm,_,N,hd,T,λV M y H1 l1 d1 C=>⟨B,M,(V,some y)::Tm,_,l1,d1,C,λrx q z Y P d2 b=>?_⟩⟩;cases f:at? q i with
   | none=>rw[f] at b;exact b.elim
   | some d =>
    cases s:sd V with
    | none=>rw[f,s] at b;exact b.elim
    | some kk =>
     cases D:sd rx with
     | none=>rw[f,s,D] at b;exact b.elim
     | some xx =>
      rw[f,s,D] at b;obtain⟨oo,l,b⟩:=b;obtain⟨S,q2,q3⟩:=d2.two s D;obtain⟨x',n,G⟩:=S.peek P f;rw[O] at n;cases n;obtain⟨a',w,p,g,g1,g2⟩:=Jn l G q2.peek;cases p;refine⟨w,g,k _ q _ Y P (S.push ?_) b⟩;cases oo with
      | none=>rw[g2 rfl];exact q3
      | some c=>obtain⟨v,rfl,rv⟩:=g1 c rfl;exact rv
def F4:Aa D->Ab (Aa Af)
 | []=>some []
 | .str b::a=>(F4 a).map (b::·)
 | _=>none
theorem F5:∀ (g:Aa Af),F4 (g.map D.str)=some g
 | []=>rfl
 | n::g=>by
  show (F4 (g.map D.str)).map (n::·)=_;rw[F5 g];rfl
theorem Jw (h:F4 j=some l) (g:Reps K A H j o):o=l.map V.str:=by
 induction j generalizing l o with
 | nil=>cases g;cases h;rfl
 | cons d j b =>
  cases g with
  | cons r g =>
  cases d with
  | str i =>
   obtain⟨c,a,rfl⟩:=cP.mp h;rw[r.str_inv,b a g];rfl
  | _=>cases h
noncomputable def Yj:OM:=λd a b=>match d,a with
 | .str z,[.str y]=>y.length≠0/\z.length<=1000000/\b (.o (.l ((Txt.split z y).map D.str)))
 | _,_=>False
theorem Gw:∀ (g:Aa Af),Reps K A H (g.map D.str) (g.map V.str)
 | []=>.nil
 | y::g=>.cons (.str y) (Gw g)
theorem DC:Og K Ta Yj:=by
 intro B L H d b x i m Q hd h f a k;cases d<;>first | exact False.elim a | skip
 cases b with
 | nil=>exact False.elim a
 | cons e b =>
  cases b with
  | cons _ _=>cases e<;>exact False.elim a
  | nil =>
   cases e<;>first | exact False.elim a | skip
   obtain⟨y,rfl,py⟩:=rP f;have:=h.str_inv;have:=py.str_inv;subst_vars;exact⟨_,_,rfl,rfl,a.1,a.2.1,λp c=>k _ _ _ a.2.2 (hd.lstF c (Gw _))⟩
end
section
variable {X:Cx}
theorem lT (o:X.A.units+1<cLine) (i:Nat) (j:PD X b p) (g:PE X a (oY i):=by exact pv _) (l:Lt b:=by exact λ_ _=>rfl):PD X (.Subscript a b pos) (uI Mi i p) :=
 (oZ (Tz o) g j l).mono λ_ _ _ h=>Eg Qy h
end
section
variable {X:Cx}{K:lL}
theorem W9 (l:X.calm=true):nK X (.builtin "min") (λg H Q=>∃ i j k,g=[.int i,.int j,.int k]/\∀ m:Int,(m=i\/m=j\/m=k)->m<=i->m<=j->m<=k->Q (.int m) H):=by
 intro f s A H g F Q I r h;obtain⟨i,j,k,rfl,q⟩:=h;cases r with
 | cons y r =>
  obtain⟨v,u,rfl,⟨D,rfl⟩,⟨E,rfl⟩⟩:=yI r;obtain⟨B,rfl⟩:=y;refine min_three_ints (I.ok.hd l) λw z x=>?_
  have fin:∀ (m:Int) (t:Tok),(m=i\/m=j\/m=k)->m<=i->m<=j->m<=k->EP X f A Q (.int m t) { s with heap:=w,toks:=z }:=λm t a b c d=>⟨.int m,H,I.kept x,⟨t,rfl⟩,q m a b c d⟩
  by_cases n:j<i
  .rw[aT n];by_cases e:k<j
   .rw[aT e];exact fin _ _ (.inr (.inr rfl)) (by omega) (by omega) (by omega)
   .rw[aN e];exact fin _ _ (.inr (.inl rfl)) (by omega) (by omega) (by omega)
  .rw[aN n];by_cases e:k<i
   .rw[aT e];exact fin _ _ (.inr (.inr rfl)) (by omega) (by omega) (by omega)
   .rw[aN e];exact fin _ _ (.inl rfl) (by omega) (by omega) (by omega)
def Kr (K:lL):Aa V->Hp->VK->Prop:=λa H Q=>K1 K a H Q\/∃ i j k,a=[.int i,.int j,.int k]/\∀ m:Int,(m=i\/m=j\/m=k)->m<=i->m<=j->m<=k->Q (.int m) H
theorem Mb (g:X.calm=true):nK X (.builtin "min") (Kr X.K):=(LG g).or (W9 g)
def LX:OC:=λa b=>match a with
 | [.int i,.int j,.int k]=>∀ m:Int,(m=i\/m=j\/m=k)->m<=i->m<=j->m<=k->b (.v (.int m))
 | a=>Mg a b
theorem Ks:qX K (Kr K) LX:=by
 intro B L H i n q Q hd h f k;have two:Mg i q->Kr K n H Q:=λf=>.inl (IG B L H _ n q Q hd h f k)
 rcases i with _ | ⟨d,_ | ⟨e,_ | ⟨g,_ | ⟨_,_⟩⟩⟩⟩
 .exact two f
 .cases d<;>exact two f
 .cases d<;>first | exact two f | (cases e<;>exact two f)
 .cases d<;>first | exact two f | skip
  cases e<;>first | exact two f | skip
  cases g<;>first | exact two f | skip
  cases h with
  | cons s h =>
   obtain⟨x,y,rfl,t,py⟩:=C1 h;have:=s.int_inv;have:=t.int_inv;have:=py.int_inv;subst_vars;exact .inr ⟨_,_,_,rfl,λm a b c d=>k _ _ H (f m a b c d) (hd.pushF (.int _))⟩
 .cases d<;>first | exact two f | (cases e<;>first | exact two f | (cases g<;>exact two f))
end
end L2
namespace PySem
open PyProof.Rows L2
abbrev uV (h:Ag) (z TI TO T:Ad) (f:Bool):Prop:=h.get? z=some { cls:=.type "zip",dict:=none,data:=.fields #[rawInt T,.bool f,.bool false,.ref TI,.ref TO],slots:=#[] }
section
theorem NC (j:s.heap.get? a=some o) (h:Q (some o) s):wpAny (model g w) A (loadIfAlive a) Q E s:=λ_ _ _=>by
 show Q (s.heap.get? a) s;rw[j];exact h
theorem Xv {TI TO:Ad}(g:uV s.heap z TI TO T f) (p:s.heap.get? T=some r) (l:∀ j,uV j z TI TO T true->Heap.SameBut z s.heap j->Q false { s with heap:=j }) :
  wpAny (model o w) A (Builtin.SmallTypes.ownedTupleIsFree (.ref z)) Q E s:=by
 unfold Builtin.SmallTypes.ownedTupleIsFree;refine aB (eA g rfl (x:=rawInt T) rfl ?_);show wpAny _ _ (loadIfAlive ((T:Int).toNat) >>= _) _ _ _;rw[cF];refine aB (NC p ?_);simp only[Option.isNone_some,dR,fR];refine aB (eA g rfl (x:=.bool f) rfl ?_);cases f with
 | true =>
  rw[aN (show ¬ ((Value.bool true != Value.bool true)=true) from bG)];exact aG (l _ g (Heap.SameBut.refl _ _))
 | false =>
  rw[aT (show (Value.bool false != Value.bool true)=true from rfl)];exact aB (gZ g (by simp) λc b a=>aG (l _ b a))
def V0 (g:Ah) (w:World) (A:Around) (a b:Ac) (Q:Fin->Ae->Prop) (E:Ac->Ae->Prop) (s:Ae):Prop :=
 wpAny (model g w) A (Builtin.SmallTypes.nextOf a) (λx c=>wpAny (model g w) A (Builtin.SmallTypes.nextOf b) (λy d=>wpAny (model g w) A (newTuple [x,y]) (λt e=>Q (.done (.ret t)) e) E d) E c) E s
theorem Gz {TI TO:Ad}(p:uV s.heap z TI TO T f) (r:s.heap.get? T=some C) (o:IsPair s.heap TI a b)
  (go:∀ l,uV l z TI TO T true->Heap.SameBut z s.heap l->V0 j w A a b Q E { s with heap:=l }) :
  wpAny (model j w) A (Builtin.«zip.__next__» ⟨[.ref z],[]⟩) Q E s:=by
 have c:wpAny (model j w) A (Builtin.SmallTypes.ownedTupleIsFree (.ref z)) (λx d=>x=false/\V0 j w A a b Q E d) E s :=
  Xv p r λl e k=>⟨rfl,go l e k⟩
 unfold Builtin.«zip.__next__»;refine aB (aG (aB (eA p rfl (x:=.bool false) rfl (aB (eA p rfl (x:=.ref TI) rfl (aB (eU o rfl ?_)))))));refine aB (lQ c ?_);rintro _ d ⟨rfl,g⟩;simp only[aN bG,<- Array.forIn_toList,kE,List.forIn_nil,bind_assoc];refine aB (bX (aB (lQ g λx h g1=>aG (aB (aG ?_)))));refine aB (aB (bX (aB (lQ g1 λy i g2=>aG (aB (aG (aG ?_)))))));exact aB (lQ g2 λt m g3=>aG g3)
def wF (h:Ag) (z TI TO g j:Ad):Prop:=IsPair h TI (.ref g) (.ref j)/\(∃ a b,IsPair h TO a b)/\(IsZip h z TI TO .none\/∃ T f o,uV h z TI TO T f/\h.get? T=some o/\T≠z/\T≠TO/\T≠g/\T≠j)
end
theorem CG:typeLookup (.type "zip") "keys" = pure none:=am_miss_of_fast (by decide +kernel)
theorem Yz:entryFor table "zip.__getattribute__" = some Builtin.«object.__getattribute__»:=entryFor_alias (id' := "object.__getattribute__") (by kernel_rfl) (by decide +kernel) (by decide +kernel) (by kernel_rfl)
theorem Wx:typeLookup (.type "zip") "__getattr__" = pure none:=am_miss_of_fast (by decide +kernel)
theorem GZ {sl:Array (Ab Ac)}
  (l:s.heap.get? a=some { cls:=.type "zip",dict:=none,data:=.fields fs,slots:=sl }) (q:Q .missing s):wpAny (model g w) A (Builtin.ObjectAttr.find (.ref a) (.type "zip") "keys") Q E s:=by
 have own:wpAny (model g w) A (Builtin.ObjectAttr.inOwnDict "keys" (.ref a)) (λr b=>r=none/\b=s) E s :=
  aB (aB (wpAny_loadPart l (aB (wpAny_loadPart l (aG (aG ⟨rfl,rfl⟩))))))
 have guard:wpAny (model g w) A (Builtin.ObjectAttr.copiedAttributeGuard "keys" (.ref a)) (λ_ b=>b=s) E s:=by
  have no:¬ (([Str.ofString "__module__",Str.ofString "__name__",Str.ofString "__qualname__",Str.ofString "__doc__",Str.ofString "__annotations__"]:Aa Af).contains (Str.ofString "keys")=true):=by decide +kernel
  simp only[Builtin.ObjectAttr.copiedAttributeGuard,aN no];exact aG rfl
 unfold Builtin.ObjectAttr.find;rw[CG];refine aB (aG (aB (aG (aB (aG (aB (lQ own ?_)))))));rintro _ _ ⟨rfl,rfl⟩;refine aB (lQ guard ?_);rintro _ _ rfl;exact aB (lE (aG q))
theorem Yo (a:Ad) (fs:Array Ac) (sl:Array (Ab Ac)) (u:Tok):Meets (Builtin.«object.__getattribute__» ⟨[.ref a,.str "keys" u],[]⟩) (λA R s=>s.heap.get? a=some { cls:=.type "zip",dict:=none,data:=.fields fs,slots:=sl }/\raisesAttr (.ref a) "keys" A R s) :=
 Meets.of_wp λb w A R s h=>by
  obtain⟨l,calm,c⟩:=h;have f:s.TypeIs (.ref a) "zip" := ⟨_,l,rfl⟩;unfold Builtin.«object.__getattribute__»;refine aB (aG (aB (aG (aB (eS f (aB (GZ l ?_)))))));have named:wpAny (model b w) A.in1 (typeNameOfCut 100 (.ref a)) (λn d=>n = "zip" /\ d=s) (λe d=>R (.error e) d) s :=
   aB (aB (eS f (aG (aG ⟨by decide +kernel,rfl⟩))))
  show wpAny _ _ (Builtin.ObjectAttr.noSuchAttribute (.ref a) "keys") _ _ _;unfold Builtin.ObjectAttr.noSuchAttribute;refine aB (lQ named ?_);rintro _ _ ⟨rfl,rfl⟩;exact wpAny_raiseAttrError calm c (by decide +kernel)
section
theorem JJ {sl:Array (Ab Ac)}
  (l:s.heap.get? a=some { cls:=.type "zip",dict:=none,data:=.fields fs,slots:=sl }) (calm:A.handled=none) (j:∀ o p e,Heap.NewAttrErr s.heap o e (.ref a) "keys" -> E (.ref e) { s with heap:=o,toks:=p }) :
  wpAny (model g w) A (boundAndCalled (.builtin "zip.__getattribute__") (.ref a) (.str "keys" u)) Q E s:=by
 have ask:wpAny (model g w) A (call (.builtin "zip.__getattribute__") [.ref a,.str "keys" u]) Q E s :=
  gX jI ⟨_,l,rfl⟩ Yz (F.args_zip_getattribute_2 _ _) (Yo a fs sl u) ⟨l,calm,j⟩
 unfold boundAndCalled;rw[jI.bind (.ref a)];exact aB (aG ask)
theorem Xr (t:s.TypeIs (.ref e) "AttributeError") (j:E (.ref e) s) :
  wpAny (model g w) A (getattributeRaised o name (.type "zip") (.ref e) none false false) Q E s:=by
 have last:wpAny (model g w) A (hookOrError o name (.ref e) false false none) Q E s:=aB (wpAny_throw j);have a:hookBehind (.type "zip") none=pure none:=Wx;unfold getattributeRaised;refine aB (cU t jA ?_);rw[aT rfl,a];exact aB (aG last)
theorem FU {sl:Array (Ab Ac)}
  (l:s.heap.get? a=some { cls:=.type "zip",dict:=none,data:=.fields fs,slots:=sl }) (calm:A.handled=none) (C:∀ j p e,Heap.NewExcOf s.heap j e "AttributeError" -> Q none { s with heap:=j,toks:=p }) :
  wpAny (model g w) A (getAttr? (.ref a) "keys") Q E s:=by
 have c:∀ j p e,Heap.NewAttrErr s.heap j e (.ref a) "keys" -> (∃ o,j.get? e=some o/\o.cls = .type "AttributeError")/\Q none { s with heap:=j,toks:=p }:=λj p e x=>by
  obtain⟨_,_,y⟩:=x.there;exact⟨⟨_,y,rfl⟩,C j p e x.of⟩
 let d:Ae:={ s with toks:=s.toks+1 };let b:Except Ac Ac->Ae->Prop:=λr i=>wpAny (model g w) A (match r with | .ok v=>pure (some v) | .error e=>do if <- isInstance e (.type "AttributeError") then pure none else throw e) Q E i
 have gD:wpAny (model g w) A (getAttrBy (.ref a) (.str "keys" s.toks) false) (λv=>b (.ok v)) (λe=>b (.error e)) d:=by
  refine bX (aB (eS (T := "zip") ⟨_,l,rfl⟩ (aB (gS jI.lookup ?_))));have own:wpAny (model g w) A (getAttrByItsOwn (.ref a) (.str "keys" s.toks) (.type "zip") (.builtin "zip.__getattribute__") false false) (λv=>b (.ok v)) (λe=>b (.error e)) d:=by
   refine aB (aG (aB (dN (bX (JJ (s:=d) l calm λj p e x=>?_)))));obtain⟨⟨o,f,h⟩,q⟩:=c j p e x;exact Xr ⟨o,f,h⟩ (aB (cU (T := "AttributeError") ⟨o,f,h⟩ jA (aG q)))
  exact own
 exact aB (wpAny_mkText (aB (dN gD)))
end
section
variable {K:Type} [DecidableEq K] {R:Result->Ae->Prop}
theorem Ul {TI TO:Ad}(t:s.TypeIs (.ref d) "dict") (l:IsZip s.heap z TI TO .none) (calm:A.handled=none)
  (r:∀ j o e,Heap.NewExcOf s.heap j e "AttributeError" -> Q (.again (.builtin "dict.update.loop" ⟨[.ref d,.ref z,.int 0 0,.none],[]⟩)) { s with heap:=j,toks:=o }) :
  wpAny (model g w) A (Builtin.«dict.__init__» ⟨[.ref d,.ref z],[]⟩) Q E s:=by
 have first:wpAny (model g w) A (Builtin.Dict.selfAndRest "__init__" ⟨[.ref d,.ref z],[]⟩) (λp c=>p=(d,[Value.ref z])/\c=s) E s:=aB (jU t (aG ⟨rfl,rfl⟩))
 have a:wpAny (model g w) A (Builtin.Dict.updateFrom "dict.__init__" d (.ref z) [] .none) Q E s:=by
  refine aB (eS (T := "zip") ⟨_,l,rfl⟩ ?_);rw[aT (by decide)];refine aB (FU l calm λj o e x=>?_);have b:IsZip j z TI TO .none:=x.keeps _ _ l;exact aB (lE (aB (wpAny_pyIter_zip b (aG (r j o e x)))))
 exact aB (cS first (λp c q=>by obtain⟨rfl,rfl⟩:=q;exact a) λ_ _ q=>q)
end
end PySem
namespace L2
open PySem PySem.Spec PyProof.Rows Lw
section
variable {X:Cx}
theorem K3:∀ (g:Aa hI){j:Aa V}{l:Aa Ac},mB j l->KV (g.zip j) (g.zip l)
 | [],_,_,_=>.nil
 | k::g,_,_,.nil=>.nil
 | k::g,_,_,.cons h r=>.cons ⟨rfl,h⟩ (K3 g r)
end
def wC:Aa D->Ab (Aa hI)
 | []=>some []
 | d::a=>match sK d,wC a with
  | some k,some b=>some (k::b)
  | _,_=>none
section
variable {X:Cx}{K:lL}
theorem Ry (h:wC g=some j) (l:Reps K A H g o):o=j.map kV:=by
 induction g generalizing j o with
 | nil=>cases l;cases h;rfl
 | cons d g c =>
  cases l with
  | cons r l =>
  have h:=(show (match sK d,wC g with | some k,some j=>some (k::j) | _,_=>none)=some j from h);cases a:sK d with
  | none=>rw[a] at h;cases h
  | some k =>
   cases b:wC g with
   | none=>rw[a,b] at h;cases h
   | some e =>
    rw[a,b] at h;cases h;rw[c b l,B8 a r.peek];rfl
theorem keysL_strs:∀ (g:Aa Af),wC (g.map D.str)=some (g.map Sum.inr)
 | []=>rfl
 | x::g=>by
  show (match some (Sum.inr x:hI),wC (g.map D.str) with | some k,some a=>some (k::a) | _,_=>none)=_;rw[keysL_strs g];rfl
theorem Ku:∀ (g:Aa hI){j:Aa D}{l:Aa V}{A:Ad->Prop}{H:Hp},Reps K A H j l->(g.zip j).map (·.1)=(g.zip l).map (·.1)/\Reps K A H ((g.zip j).map (·.2)) ((g.zip l).map (·.2))
 | [],_,_,_,_,_=>⟨rfl,.nil⟩
 | k::g,_,_,_,_,.nil=>⟨rfl,.nil⟩
 | k::g,_,_,_,_,.cons h r=>by
  obtain⟨a,b⟩:=Ku g r;exact⟨by simp[a],.cons h b⟩
end
def Do (lo c:Int) (n:Nat):It:=⟨λi _=>i<n,λi H x a=>a=H/\x = .int (lo+i*c),λi _=>n<=i⟩
theorem Xp {P:Ah}{K:lL}(g:Ad) (lo c:Int) (n:Nat):Turn P w K j (Do lo c n) [g] g (λi h=>IsRangeIter h g (lo+(i:Nat)*c) ((n:Int)-(i:Nat)) c) where
 mem:=by simp
 obj:=λi h st b d=>by
  have e:b=g:=by simpa using d
  subst e;exact⟨_,st,λv z=>by
   have R:Data.fields _=Data.cell v:=z;cases R⟩
 keep:=λi h m st k=>k g (by simp) _ st
 item:=by
  intro X B hw A D i a s L H E I q st F;subst B hw A;obtain⟨f0,f1,f2,u,x,y⟩:=q g (by simp);have W:=Walks.range (prog:=X.prog) (w:=X.w) (I.ok.hd D) g lo c n;refine W.item i s _ _ F st λv m G O f Q=>?_
  obtain⟨t,rfl⟩:=O;have M:Inv X a L H { s with heap:=m,toks:=G }:=I.turned (λb o d e=>Q b o (by simpa using d) e) f0 f1 u x y;exact⟨_,rfl,zH (s:={ s with heap:=m,toks:=G }) (n := "range_iterator") f rfl rfl (by decide) ⟨.int (lo+i*c),H,M,⟨t,rfl⟩,⟨rfl,rfl⟩,f,λb d=>(q b d).1⟩⟩
 done:=by
  intro X B hw A D i a s L H E I q st F;subst B hw A;obtain⟨f0,f1,f2,u,x,y⟩:=q g (by simp);exact wpAny_pyNext_range_end (I.ok.hd D) st (by have:n<=i:=F;omega) λm N=>⟨rfl,I.turned (t':=s.toks) (λb o d e=>N b o d e) f0 f1 u x y⟩
 self:=λ_ _ _ _ _ st h=>wpAny_pyIter_rangeiter st h
section
variable {X:Cx}
def vH (lo g c:Int):Nat:=if lo<g then ((g-lo-1)/c+1).toNat else 0
def OP (g:TA):TI:=λd H R=>g d H λb a=>∃ i j c:Int,b=[.int i,.int j,.int c]/\(0<=i/\i<=100000/\0<=j/\j<=100000/\0<c/\c<=100000)/\R (Do i c (vH i j c)) a
theorem GF (l:Gl X "range") (r:X.mg "range" = none) (j:PA X [a,b,c] J) (C:starEach [a,b,c] X.env=(false,eval a X.env)::starEach [b,c] X.env:=by rfl) (g:(backTo pos (starEach [b,c] X.env)).any (·.1)=false:=by rfl) :
  PI X T (.Call (.Name "range" p) [a,b,c] [] pos) (OP J):=by
 intro f s y H R I h;refine Call_ (xA I l r boot_range (cT (lQ (j pos f s y H _ I h) λV i w=>?_) C g));obtain⟨W,x,z,F,E⟩:=w;obtain⟨lo,d,c,rfl,⟨M,N,O,P,n,Q⟩,q⟩:=E;cases F with
 | cons G k =>
  cases k with
  | cons K k =>
   cases k with
   | cons L k =>
    cases k;obtain⟨t,rfl⟩:=G;obtain⟨u,rfl⟩:=K;obtain⟨v,rfl⟩:=L;refine call_range_3 (by omega) ?_ (.inl (PyProof.noPylong_small (by omega)));refine wpAny_pyIter_range (IsRange.new ..) ?_ ?_
    .have S:0<=Builtin.Range.rangeSize lo d c/\Builtin.Range.rangeSize lo d c<=100001:=by
      unfold Builtin.Range.rangeSize;rw[aT (show c>0 from n)];split
      .have Y:=Int.ediv_nonneg (show 0<=d-lo-1 by omega) (show 0<=c by omega);have Z:=Int.ediv_le_self c (show 0<=d-lo-1 by omega);omega
      .omega
     unfold Builtin.Range.small;simp only[Builtin.Range.rangeFitsLong,cN,lI,eV,iG,aT (show c>0 from n)];omega
    .have m:Inv X f y x { i with heap:=i.heap.push { cls:=.type "range",data:=.fields #[.int lo t,.int d u,.int c v] },toks:=i.toks }:=z.kept λb o e=>aK _ e
     refine⟨(i.heap.push { cls:=.type "range",data:=.fields #[.int lo t,.int d u,.int c v] }).objs.size,[(i.heap.push { cls:=.type "range",data:=.fields #[.int lo t,.int d u,.int c v] }).objs.size],_,_,x,rfl,
      m.kept (t':=i.toks) λb o e=>aK _ e,Xp _ lo c (vH lo d c),?_,λb D=>?_,q⟩
     .have A:lo+((0:Nat):Int)*c=lo:=by simp
      have B:((vH lo d c:Nat):Int)-((0:Nat):Int)=Builtin.Range.rangeSize lo d c:=by
       unfold vH Builtin.Range.rangeSize;rw[aT (show c>0 from n)];split
       .have:=Int.ediv_nonneg (show 0<=d-lo-1 by omega) (show 0<=c by omega);omega
       .rfl
      show IsRangeIter _ _ (lo+((0:Nat):Int)*c) (((vH lo d c:Nat):Int)-((0:Nat):Int)) c;rw[A,B];exact bA _ rfl
     .have e:b=(i.heap.push { cls:=.type "range",data:=.fields #[.int lo t,.int d u,.int c v] }).objs.size:=by simpa using D
      subst e;exact m.fpOk (aW _) (m.hok.fresh (aW _))
end
section
variable {X:Cx}{K:lL}
noncomputable def wI (lo c:Int) (n:Nat):Aa D:=(List.range n).map λ(i:Nat)=>D.int (lo+i*c)
theorem JA {lo c:Int}{n:Nat}:YD K (Do lo c n) (wI lo c n) [] where
 vals:=rfl
 go:=λi H A a _=>by simpa [Do,wI] using a
 yld:=λi H A x d a _ y=>by
  have b:i<n:=by simpa [wI] using a
  refine⟨.int (lo+i*c),by simp[wI,b],.inl ⟨y.1,?_⟩⟩;rw[y.2];exact .int _
 stop:=λi H A a _=>by simp[Do,wI,a]
def P6 (g l o:mP):wG:=λa m k=>g a m λr d=>l a d λh e=>o a e λb f=>match r,h,b with
 | .v (.int i),.v (.int j),.v (.int c)=>(0<=i/\i<=100000/\0<=j/\j<=100000/\0<c/\c<=100000)/\k (wI i c (vH i j c)) f
 | _,_,_=>False
theorem Mu (J:Gl X "range") (U:X.mg "range" = none) (o:PD X a ta) (C:PD X b tb) (I:PD X c tc) (hs:starEach [a,b,c] X.env=(false,eval a X.env)::starEach [b,c] X.env:=by rfl) (l:(backTo pos (starEach [b,c] X.env)).any (·.1)=false:=by rfl)
  (hn:yK a=true:=by rfl) (g:yK b=true:=by rfl) (j:yK c=true:=by rfl):Ai X tg (.Call (.Name "range" p) [a,b,c] [] pos) (P6 ta tb tc) :=
 (GF J U (mA o (mA C (mA I mJ j) g) hn) hs l).mono λσ H R e=>e.elim λB V T Z F hd G k=>⟨B,V,T,_,F,hd,G,λr h v W L d1 D=>⟨B,h,(r,some v)::T,_,L,d1,D,λq i u Y M d2 E=>⟨B,i,(q,some u)::(r,some v)::T,_,M,d2,E,λf m w s N n d=>by
  cases r<;>first | exact False.elim d | skip
  rename_i x
  cases x<;>first | exact False.elim d | skip
  cases q<;>first | exact False.elim d | skip
  rename_i x
  cases x<;>first | exact False.elim d | skip
  cases f<;>first | exact False.elim d | skip
  rename_i x
  cases x<;>first | exact False.elim d | skip
  have O:=n.valAt;have t:=n.drop;obtain⟨P,Q,S⟩:=t.two rfl rfl;have y:=O.int_inv;have z:=Q.int_inv;have A:=S.int_inv;subst y z A;exact⟨_,_,_,rfl,d.1,k _ _ m [] s N P JA d.2⟩⟩⟩⟩
end
end L2
namespace Lw
open PySem L2
abbrev lZ:=Aa (Af×Int)
abbrev yT:=Aa (Af×Af×Aa Af)
noncomputable def dK (t:lZ):Aa (hI×D):=t.map λp=>(Sum.inr p.1,D.int p.2)
noncomputable def gD (t:lZ) (x:Af):Int:=match t.find? (λp=>decide (p.1=x)) with
 | some p=>p.2
 | none=>0
theorem qC:gD (p::t) x=if p.1=x then p.2 else gD t x:=by
 unfold gD;rw[cZ];by_cases h:p.1=x<;>simp[h]
theorem nI:∀ (t:lZ) (x:Af),(x∈t.map (·.1)->lW (dK t) (Sum.inr x)=some (.int (gD t x)))/\(x∉t.map (·.1)->lW (dK t) (Sum.inr x)=none/\gD t x=0)
 | [],x=>⟨λh=>by simp at h,λ_=>⟨rfl,rfl⟩⟩
 | p::t,x=>by
  have a:=nI t x;have e:dK (p::t)=(Sum.inr p.1,D.int p.2)::dK t:=rfl;rw[e,vV,qC];by_cases h:p.1=x
  .subst h;exact⟨λ_=>by rw[aT rfl,aT rfl],λn=>absurd (by simp) n⟩
  .have b:(Sum.inr p.1:hI)≠Sum.inr x:=λq=>h (gC q)
   rw[aN b,aN h];refine⟨λm=>a.1 ?_,λm=>a.2 λq=>m (by simp only[aP,aI];exact .inr q)⟩;simp only[aP,aI] at m;exact m.resolve_left λq=>h q.symm
theorem Cj (t:lZ) (x:Af):(lW (dK t) (Sum.inr x)).getD (.int 0) = .int (gD t x):=by
 by_cases h:x∈t.map (·.1)
 .rw[(nI t x).1 h];rfl
 .rw[((nI t x).2 h).1,((nI t x).2 h).2];rfl
theorem Xd (h:x∉t.map (·.1)):mY (dK t) (Sum.inr x) (.int n)=dK (t++[(x,n)]):=by
 unfold mY;rw[G6,((nI t x).2 h).1];simp[dK]
theorem Ka:∀ (u t:lZ),((t++u).map (·.1)).Nodup->oW (dK t) (dK u)=dK (t++u)
 | [],t,_=>by simp[oW,dK]
 | p::u,t,h=>by
  have a:p.1∉t.map (·.1):=λq=>by
   rw[aR] at h;exact (bB.mp h).2.2 p.1 q p.1 (by simp) rfl
  have e:oW (dK t) (dK (p::u))=oW (mY (dK t) (Sum.inr p.1) (.int p.2)) (dK u):=rfl;rw[e,Xd a,Ka u (t++[p]) (by simpa using h)];simp
theorem sS (h:(t.map (·.1)).Nodup):oW [] (dK t)=dK t:=by
 have:=Ka t [] (by simpa using h)
 simpa [dK] using this
end Lw
namespace L2
open PySem PySem.Spec PyProof.Rows Lw
section
variable {X:Cx}{K:lL}
theorem CS:nK X (.type "int") (λg H Q=>∃ (x:Af) (n:Int),g=[.str x]/\intText? x=some n/\x.length<=640/\Q (.int n) H):=by
 intro a s k H g i Q I r h;obtain⟨x,n,rfl,c,d,q⟩:=h;obtain⟨u,rfl,f⟩:=qM r;obtain⟨t,rfl⟩:=f;exact PySem.W.KIN.call_text c d ⟨.int n,H,I.kept (t':=s.toks+1) λb o e=>e,⟨_,rfl⟩,q⟩
def HV:OC:=λa b=>match a with
 | [.str x]=>∃ n,intText? x=some n/\x.length<=640/\b (.v (.int n))
 | a=>Ke a b
def Mj:Aa V->Hp->VK->Prop:=λa H Q=>((∃ i,a=[.int i]/\Q (.int i) H)\/∃ k,a=[.b k]/\Q (.int (if k then 1 else 0)) H)\/∃ (x:Af) (n:Int),a=[.str x]/\intText? x=some n/\x.length<=640/\Q (.int n) H
theorem Su:nK X (.type "int") Mj:=KD.or CS
theorem U6:qX K Mj HV:=by
 intro B L H b e f Q hd c a k;have two:Ke b f->Mj e H Q:=λa=>.inl (X4 B L H b e f Q hd c a k)
 cases b with
 | nil=>exact two a
 | cons d b =>
 cases d<;>first | exact two a | skip
 cases b with
 | cons _ _=>exact two a
 | nil =>
 obtain⟨x,rfl,m⟩:=rP c;have:=m.str_inv;subst this;obtain⟨n,h,i,a⟩:=a;exact .inr ⟨_,n,rfl,h,i,k _ _ H a (hd.pushF (.int _))⟩
end
section
theorem zE (J:Aa α) (U T:α->D) (p:α->Bool) (C:Aa Sl) (ac:∀ Ψ:Aa D->Aa Sl->Prop,Ψ (J.map U) C->ι dk ρ Ψ) (hl:J.length<=100000)
  (hs:∀ (i:Nat) x (I:Aa D) (Nx:Aa D->Aa Sl->Prop),J[i]?=some x->I.length<100000->(p x=true->Nx (I++[T x]) (oK j C))->(p x=false->Nx I (oK j C))->g (U x) (List.replicate n Sl.n++oK j C) λae=>tt dk ae λb aa=>if b=true then te dk aa λr af=>match sd r with
   | some c=>I.length<100000/\Nx (I++[c]) (af.drop n)
   | none=>False
   else Nx I (aa.drop n))
  (ab:Φ (.o (.l ((J.filter p).map T))) (pM j (oK j C) C)):sQ n j ι g tt te dk ρ Φ:=by
 refine ac _ ⟨λi I a=>I=((J.take i).filter p).map T/\a=oK j C,⟨by simp,rfl⟩,?_,?_⟩
 .rintro i d I a hd _ ⟨f,h⟩;rw[bC] at hd;cases e:J[i]? with
  | none=>rw[e] at hd;cases hd
  | some x =>
   rw[e] at hd;cases hd;obtain⟨s,_⟩:=aU.mp e;have k:(J.take (i+1)).filter p=(J.take i).filter p++(if p x=true then [x] else []):=by
    rw[cL,e,List.filter_append];by_cases q:p x=true<;>simp[q]
   have len:I.length<100000:=by
    rw[f,aA];have m:=cJ p (J.take i);rw[bZ] at m;omega
   rw[h];refine hs i x I (λI a=>I=((J.take (i+1)).filter p).map T/\a=oK j C) e len (λq=>⟨?_,rfl⟩) λq=>⟨?_,rfl⟩
   .rw[k,aT q,f,aR];rfl
   .rw[k,aN (by rw[q];decide),dM];exact f
 .rintro I a _ ⟨f,h⟩;rw[f,h,aA,fQ];exact ab
theorem oM (J:Aa α) (C I:α->D) (p:Aa Sl) (ab:∀ Ψ:Aa D->Aa Sl->Prop,Ψ (J.map C) p->ι dk ρ Ψ) (hl:J.length<=100000)
  (hs:∀ (i:Nat) x (T:Aa D) (U:Aa D->Aa Sl->Prop),J[i]?=some x->T.length<100000->U (T++[I x]) (oK j p)->g (C x) (List.replicate n Sl.n++oK j p) λac=>te dk ac λr ae=>match sd r with
   | some c=>T.length<100000/\U (T++[c]) (ae.drop n)
   | none=>False)
  (aa:Φ (.o (.l (J.map I))) (pM j (oK j p) p)):sQ n j ι g Lx te dk ρ Φ:=by
 refine zE J C I (λ_=>true) p ab hl (λi x T U e a b _=>hs i x T U e a (b rfl)) ?_;have:J.filter (λ_=>true)=J:=List.filter_eq_self.mpr λ_ _=>rfl
 rw[this];exact aa
end
end L2
namespace Lw
open PySem L2
abbrev vQ:=Aa (Af×Af)
noncomputable def mM (t:vQ):Aa (hI×D):=t.map λp=>(Sum.inr p.1,D.str p.2)
noncomputable def hL (t:vQ) (x:Af):Af:=match t.find? (λp=>decide (p.1=x)) with
 | some p=>p.2
 | none => ""
theorem Hc:hL (p::t) x=if p.1=x then p.2 else hL t x:=by
 unfold hL;rw[cZ];by_cases h:p.1=x<;>simp[h]
theorem Bk:∀ (t:vQ) (x:Af),(x∈t.map (·.1)->lW (mM t) (Sum.inr x)=some (.str (hL t x)))/\(x∉t.map (·.1)->lW (mM t) (Sum.inr x)=none)
 | [],x=>⟨λh=>by simp at h,λ_=>rfl⟩
 | p::t,x=>by
  have a:=Bk t x;have e:mM (p::t)=(Sum.inr p.1,D.str p.2)::mM t:=rfl;rw[e,vV,Hc];by_cases h:p.1=x
  .subst h;exact⟨λ_=>by rw[aT rfl,aT rfl],λn=>absurd (by simp) n⟩
  .have b:(Sum.inr p.1:hI)≠Sum.inr x:=λq=>h (gC q)
   rw[aN b,aN h];refine⟨λm=>a.1 ?_,λm=>a.2 λq=>m (by simp only[aP,aI];exact .inr q)⟩;simp only[aP,aI] at m;exact m.resolve_left λq=>h q.symm
theorem Vo (h:x∉t.map (·.1)):mY (mM t) (Sum.inr x) (.str n)=mM (t++[(x,n)]):=by
 unfold mY;rw[G6,(Bk t x).2 h];simp[mM]
theorem Pp:∀ (u t:vQ),((t++u).map (·.1)).Nodup->oW (mM t) (mM u)=mM (t++u)
 | [],t,_=>by simp[oW,mM]
 | p::u,t,h=>by
  have a:p.1∉t.map (·.1):=λq=>by
   rw[aR] at h;exact (bB.mp h).2.2 p.1 q p.1 (by simp) rfl
  have e:oW (mM t) (mM (p::u))=oW (mY (mM t) (Sum.inr p.1) (.str p.2)) (mM u):=rfl;rw[e,Vo a,Pp u (t++[p]) (by simpa using h)];simp
theorem Sx (h:(t.map (·.1)).Nodup):oW [] (mM t)=mM t:=by
 have:=Pp t [] (by simpa using h)
 simpa [mM] using this
theorem Ma:∀ (own g:Aa Af),(own.map λo=>(Sum.inr o:hI)).zip (g.map D.str)=mM (own.zip g)
 | [],_=>rfl
 | _::_,[]=>rfl
 | o::own,x::g=>by simp only[aP,cX,Ma own g];rfl
theorem Dl:∀ (own g:Aa Af),own.length=g.length->(own.zip g).map (·.1)=own
 | [],_,_=>rfl
 | _::_,[],h=>by simp at h
 | o::own,x::g,h=>by simp only[cX,aP,Dl own g (by simpa using h)]
theorem Ce:∀ {own g:Aa Af}{o:Af},own.length=g.length->o∈own->hL (own.zip g) o∈g
 | [],_,_,_,h=>by cases h
 | _::_,[],_,h,_=>by simp at h
 | a::own,x::g,o,h,m=>by
  rw[cX,Hc];split
  .exact aH
  .rename_i e
   exact aM _ (Ce (by simpa using h) ((aI.mp m).resolve_left λq=>e q.symm))
theorem Io:∀ {own j:Aa Af}{o g:Af},own.length=j.length->j.Nodup->o∈own->g∈own->hL (own.zip j) o=hL (own.zip j) g->o=g
 | [],_,_,_,_,_,h,_,_=>by cases h
 | _::_,[],_,_,h,_,_,_,_=>by simp at h
 | a::own,x::j,o,g,h,k,m,d,e=>by
  rw[cX,Hc,Hc] at e;obtain⟨f,i⟩:=cD.mp k;have c:own.length=j.length:=by simpa using h
  by_cases q:a=o
  .by_cases b:a=g
   .rw[<- q,<- b]
   .rw[aT q,aN b] at e;have:=Ce c ((aI.mp d).resolve_left λz=>b z.symm);dsimp only at e;rw[<- e] at this;exact absurd this f
  .by_cases b:a=g
   .rw[aN q,aT b] at e;have:=Ce c ((aI.mp m).resolve_left λz=>q z.symm);dsimp only at e;rw[e] at this;exact absurd this f
   .rw[aN q,aN b] at e;exact Io c i ((aI.mp m).resolve_left λz=>q z.symm) ((aI.mp d).resolve_left λz=>b z.symm) e
theorem uL:∀ {l:Aa g},l.Nodup->(∀ x∈l,∀ y∈l,f x=f y->x=y)->(l.map f).Nodup
 | [],_,_=>.nil
 | a::l,k,h=>by
  obtain⟨d,i⟩:=cD.mp k;refine cD.mpr ⟨λm=>?_,uL i λx c y b=>h x (aM _ c) y (aM _ b)⟩;obtain⟨y,b,e⟩:=aE.mp m;have:=h a aH y (aM _ b) e.symm;subst this;exact d b
noncomputable def mS:Aa Af->Aa (Af×Af)
 | a::b::r=>(a,b)::mS r
 | _=>[]
theorem pairs_at:∀ {ws:Aa Af}{i:Nat}{p:Af×Af},(mS ws)[i]?=some p->ws[2*i]?=some p.1/\ws[2*i+1]?=some p.2
 | [],i,p,h=>by simp[mS] at h
 | [a],i,p,h=>by simp[mS] at h
 | a::b::r,0,p,h=>by simp[mS] at h;subst h;exact⟨rfl,rfl⟩
 | a::b::r,i+1,p,h=>by
  have:=pairs_at (ws:=r) (i:=i) (p:=p) (by simpa [mS] using h);rw[show 2*(i+1)=(2*i)+1+1 by omega]
  simpa using this
theorem Hs:∀ (g:Aa Af),g.length%2=0->2*(mS g).length=g.length
 | [],_=>rfl
 | [a],h=>by simp at h
 | a::b::r,h=>by
  have:=Hs r (by simp only[bS] at h;omega);simp only[mS,bS];omega
theorem Rl (n:Nat):vH 0 ((2*n:Nat):Int) 2=n:=by
 unfold vH;split
 .omega
 .omega
def nB (i:Nat):Stmt:=PySem.Challenge.pw_laidcells_k13_whole_rows_laid_in_parts.main.body.getD i (.Pass ⟨0,0,0,0⟩)
abbrev C7:Stmt:=nB 4
abbrev C4:Stmt:=nB 6
abbrev Gy:Stmt:=nB 7
abbrev F9:Stmt:=nB 8
abbrev Bh:Stmt:=nB 9
abbrev G3:Stmt:=nB 10
abbrev zK:Stmt:=nB 12
abbrev Bc:Stmt:=nB 13
abbrev Dx:Stmt:=nB 14
abbrev Ex:Stmt:=nB 15
abbrev Fy:Stmt:=nB 16
abbrev Hg:Stmt:=nB 17
abbrev F8:Stmt:=nB 18
abbrev Ie:Stmt:=nB 19
abbrev Ay:Stmt:=nB 21
abbrev Hy:Stmt:=nB 22
abbrev Ev:Stmt:=nB 23
abbrev Ez:Stmt:=nB 24
abbrev Ej:Stmt:=nB 26
abbrev sZ:Stmt:=nB 27
abbrev C3:Stmt:=nB 28
abbrev E8:Stmt:=nB 29
abbrev Bi:Stmt:=nB 30
abbrev Fo:Stmt:=nB 31
abbrev Ei:Stmt:=nB 32
abbrev Cb:Stmt:=nB 33
abbrev Ge:Stmt:=nB 34
abbrev Ec:Stmt:=nB 35
abbrev Ew:Stmt:=nB 36
abbrev F6:Stmt:=nB 37
abbrev Ea:Stmt:=nB 39
abbrev Cf:Stmt:=nB 40
abbrev Fw:Stmt:=nB 41
abbrev Ho:Stmt:=nB 42
abbrev E6:Stmt:=nB 43
abbrev Fv:Stmt:=nB 44
abbrev En:Stmt:=nB 45
abbrev S6:Stmt:=nB 46
abbrev C2:Stmt:=nB 46
structure Txt (mg:Str->Option Value):Prop where
 len:mg "len" = none
 range:mg "range" = none
 sum:mg "sum" = none
 min:mg "min" = none
 max:mg "max" = none
 tuple:mg "tuple" = none
 list:mg "list" = none
 set:mg "set" = none
 dict:mg "dict" = none
 int:mg "int" = none
 str:mg "str" = none
 zip:mg "zip" = none
 enumerate:mg "enumerate" = none
 all:mg "all" = none
 any:mg "any" = none
 isinstance:mg "isinstance" = none
 sorted:mg "sorted" = none
 abs:mg "abs" = none
 reversed:mg "reversed" = none
 bool:mg "bool" = none
structure Gd (K:lL) (mg:Str->Option Value) (x:Str) (st:Stmt) (ps:List Str) (f:Addr) (fd:FuncData):Prop where
 F:Fun K x x st f fd
 m:mg x=some (.ref f)
 k:PySem.W.keepIn K (.ref f)=true
 b:yL K fd ps []
def Kn (P:Ah) (w:World) (K:lL) (g:Af->Ab Ac) (base:Ag) (k:Nat) (x:Af) (st:Stmt) (j:Aa Af) (R:RD):Prop:=∃ f fd,Gd K g x st j f fd/\FnOk P w K g base nR k f fd j (wR K R)
theorem lU {X:Cx}{st:Stmt}{R:RD}(G:Kn X.prog X.w X.K X.mg X.base k x st T R) (I:Room m X.A) (o:rT X (e::l) J) (C:k<=m:=by decide) (r:Gl X x:=by rfl) (g:(x == ("__debug__" : Af))=false:=by decide)
  (j:StB X e l pos:=by exact {}):PD X (.Call (.Name x p) (e::l) [] pos) (Ib R J):=G.elim λ_ h=>h.elim λ_ h=>EO h.2 (I.mono C) r h.1.m h.1.k h.1.b o g j
def nZ (P:Ah) (w:World) (K:lL) (g:Af->Ab Ac) (base:Ag) (k:Nat) (x:Af) (st:Stmt) (j:Aa Af) (R:RD):Prop:=∀ f fd,Fun K x x st f fd->FnOk P w K g base nR k f fd j (wR K R)
theorem oI {P:Ah}{K:lL}{st:Stmt}{R:RD}(S:FnScope N I (mI st))
  (j:∀ (f:Ad) (g:Ac) (A:Around) (l:Aa Env) (s:Ae) (H:Hp) (E:XK) (r:Aa Ad) (o:Aa D) (p:Sl->Prop),Room k (A.deeper (PyProof.Rows.envOfC x (mI st) s.heap.objs.size f g))->(A.deeper (PyProof.Rows.envOfC x (mI st) s.heap.objs.size f g)).units+1<cLine->R r o p ->∃ t,uW (xH nR P w K J base N x (mI st) f g A l s H E).nox (rH st) t/\t r { nx:=λ_=>p (.v .e),rt:=p } (yV N o)) (C:I.length<=N.length:=by decide) (hlen:∀ r o p,R r o p->o.length=I.length:=by rintro _ _ _ h;repeat' (rcases h with⟨i,h⟩;try (subst i;rfl))):nZ P w K J base (k+1) x st I R:=λ_ _ F=>F.okD S hlen C λ_ _ _ _ _ _ _ _ _ a=>j _ _ _ _ _ _ _ _ _ _ a (Jd a)
def Dv:Sp:=λb H Q _=>∃ (d c:Ad) (m:Int),b=[.ref d,.int m]/\DeckAt H d c/\0<m/\m<4611686018427387904/\∀ (r:Int) (a:Hp),0<=r->r<m->DeckAt a d c->mG d c H a->Q (.int r) a
section
variable {P:Ah}{K:lL}
theorem Kv:FnScope ["deck","many","at","cell"] ["deck","many"] (mI sZ):=⟨rfl,rfl,rfl,by decide +kernel,rfl,by decide +kernel,by decide +kernel⟩
theorem Fd (F:Fun K "_law_take" "_law_take" sZ f fd) (T:Txt g):FnOk P w K g base nR 1 f fd ["deck","many"] Dv:=by
 refine F.ok Kv (λR H Q E h=>?_) (λG A x s H R Q E X h=>?_)
 .obtain⟨d,c,m,rfl,_⟩:=h;rfl
 .obtain⟨d,c,m,rfl,D,n,W,k⟩:=h;obtain⟨a,p,t,y,L,M⟩:=id D.ex;have q:=D.ne;refine⟨_,pD (oQ (i:=2) Kv.nd rfl (Or.inl rfl) (mQ rF (oZ qQ (pv 0) mT (λ_ _=>rfl)) (uG yA (by rfl) T.len cC (wU (oZ qQ (pv 0) mT (λ_ _=>rfl)) mJ)))) (pD (Ch (mQ wH (oZ qQ (pv 0) mT (λ_ _=>rfl)) mT) (G8 (pv 0) mT Ia)) (pD (oQ (i:=3) Kv.nd rfl (Or.inl rfl) (oZ qQ (oZ qQ (pv 0) mT (λ_ _=>rfl)) (pv 2) (λ_ _=>rfl))) (pD (Ch (mQ Qr (pv 3) (pv 1)) (G8 (oZ qQ (pv 0) mT (λ_ _=>rfl)) (pv 2) Ia)) (qJ (wZ (mQ rF (pv 3) (pv 1))))))),?_⟩;refine⟨_,rfl,d,_,_,_,rfl,rfl,lO.of t,rfl,_,rfl,d,_,_,_,rfl,rfl,lO.of t,rfl,c,_,rfl,.inl (lO.of y),_,_,rfl,rfl,?_,?_⟩
  .rw[aA];omega
  .rw[aA];have B:=dU p (show (a.length:Int)≠0 by omega);have S:=dF p (show (0:Int)<a.length by omega);obtain⟨j,z⟩:=dP B;have v:j<a.length:=by omega
   have u:(a.map V.int)[j]?=some (V.int a[j]):=by simp[v]
   refine⟨_,rfl,d,_,_,_,rfl,rfl,lO.of t,rfl,_,_,rfl,rfl,_,rfl,d,_,_,1,rfl,rfl,t,rfl,?_⟩;have g1:upd H d (.l ([V.ref c,V.int p].set 1 (V.int (p+1)))) d=some (.l [.ref c,.int (p+1)]):=lR;have g2:upd H d (.l ([V.ref c,V.int p].set 1 (V.int (p+1)))) c=some (.l (a.map V.int)):=by rw[lS q.symm];exact y
   refine⟨_,rfl,d,_,_,_,rfl,rfl,lO.of g1,rfl,_,rfl,c,_,_,V.int a[j],rfl,rfl,lO.of g2,(by rw[z];exact pJ u),?_⟩
   .refine⟨_,rfl,_,rfl,_,_,rfl,rfl,⟨n,by omega⟩,_,rfl,d,_,_,_,rfl,rfl,lO.of g1,rfl,_,rfl,c,_,_,j,rfl,rfl,g2,?_,?_⟩
    .rw[z,aA];unfold uS;rw[aT (by omega),aT (by omega)];simp
    .refine⟨_,rfl,_,rfl,_,_,rfl,rfl,n,?_⟩;refine k _ _ (dU _ (by omega)) (dF _ n) ⟨a.set j (a[j]/m),p+1,?_,?_,by rw[bU];exact L,by rw[bU];exact M⟩ ?_
     .rw[lS q];exact g1
     .rw[lR,List.map_set]
     .intro b o e N O;rw[lS O,lS N];exact e
end
theorem nW.new (h:H p=none):nW H (upd H p o):=λb u e=>by rw[lS (mR e h)];exact e
theorem Zt (g:Aa Int) (lo j:Ab Int):∃ l:Aa Int,uH (g.map V.int) lo j=l.map V.int/\l.length<=g.length:=by
 refine⟨(g.drop (HT.sIx g.length 0 lo)).take (HT.sIx g.length g.length j-HT.sIx g.length 0 lo),?_,?_⟩
 .unfold uH;rw[List.length_map,List.map_take,List.map_drop]
 .rw[bZ,dY];omega
def Mw (K:lL):Sp:=λf H Q _=>∃ (a:Ad) (e:Aa Int),f=[.ref a]/\lO K H a (e.map V.int)/\e.length<=63/\∀ (d c:Ad) (b:Hp),DeckAt b d c->H d=none->H c=none->nW H b->Q (.ref d) b
section
variable {P:Ah}{K:lL}
theorem B5:FnScope ["script","cells","k","mixed"] ["script"] (mI Ej):=⟨rfl,rfl,rfl,by decide +kernel,rfl,by decide +kernel,by decide +kernel⟩
theorem EX (F:Fun K "_law_deck" "_law_deck" Ej f fd) (T:Txt mg):FnOk P w K mg base nR 1 f fd ["script"] (Mw K):=by
 refine F.ok B5 (λvs H Q E h=>?_) (λab A j s H vs Q E hr h=>?_)
 .obtain⟨a,t,rfl,_⟩:=h;rfl
 .obtain⟨a,t,rfl,W,aa,k⟩:=h;refine⟨_,pD (oQ (i:=1) B5.nd rfl (Or.inl rfl) (mQ B4 (C0 Jb (pv 0) Du (Ct mT)) (pQ (wU (uG yA (by rfl) T.len cC (wU (pv 0) mJ)) mJ)))) (pD (zI (vR Ff (mQ rF (uG (Hw rfl) (by rfl) T.sum iA (wU (C0 Jb (pv 0) Du (Ct mT)) mJ)) mT) mT (wD _)) (qJ (Bt gA rfl (Aj rfl T.range (wU (uG yA (by rfl) T.len cC (wU (pv 1) mJ)) mJ)) (sD (i:=2) B5.nd rfl (Or.inl rfl)) (pD (oQ (i:=3) B5.nd rfl (Or.inl rfl) (mQ rF (mQ vC (mQ wH (mQ wH (mQ rF (oZ qQ (pv 1) (pv 2) (λ_ _=>rfl)) mT) (mQ vC mT (pv 2))) mT) mT) mT)) (pD (oQ (i:=3) B5.nd rfl (Or.inl rfl) (mQ rF (mQ vC (mQ rF (mQ wH (mQ vC (pv 3) (pv 3)) (mQ vC mT (pv 2))) mT) mT) mT)) (qJ (Ch (mQ wH (mQ vC (mQ vC (pv 3) (pv 3)) mT) (mQ rF (mQ vC (pv 3) mT) mT)) (G8 (pv 1) (pv 2) Ia))))))) Bu) (qJ (wZ (pQ (wU (pv 1) (wU mT mJ)))))),?_⟩;obtain⟨q,em,ac⟩:=Zt t none (some 63);refine⟨_,rfl,_,rfl,a,_,rfl,W,λG n1=>?_⟩;have r:nW H (upd H G (.l (uH (t.map V.int) none (some 63)))):=nW.new n1;rw[em] at r |-;refine⟨_,rfl,a,_,rfl,.inl (r.seq W),(by show 1<=sizeLine;decide),λp n2=>?_⟩;have s2:=r.trans (nW.new (o:=.l [V.int ((t.map V.int).length:Nat)]) n2);have q1:upd (upd H G (.l (q.map V.int))) p (.l [V.int ((t.map V.int).length:Nat)]) G=some (.l (q.map V.int)):=by rw[lS (mR lR n2)];exact lR
  refine⟨G,p,_,_,rfl,rfl,q1,lR,?_,λc nc=>?_⟩
  .rw[aA];exact cK (show q.length+1<=64 by omega) (by decide)
  have L:=s2.trans (nW.new (o:=.l (q.map V.int++[V.int ((t.map V.int).length:Nat)])) nc);have ec:q.map V.int++[V.int ((t.map V.int).length:Nat)]=(q++[((t.map V.int).length:Int)]).map V.int:=by simp
  rw[ec] at L |-;generalize Y:q++[((t.map V.int).length:Int)]=u at L;have D:0<u.length/\u.length<=64:=by rw[<- Y,bK,jS];omega
  have B:H c=none:=s2.free nc;generalize S:upd (upd (upd H G (.l (q.map V.int))) p (.l [V.int ((t.map V.int).length:Nat)])) c (.l (u.map V.int))=J at L;have U:J c=some (.l (u.map V.int)):=by rw[<- S];exact lR
  have fin:∀ (m:Aa Int) (v x:Ab V) (O:Hp),nW H O->O c=some (.l (m.map V.int))->0<m.length->m.length<=64 ->
    (Qu (U0 (Cq (oY 1) (Cq (tC (.int 0)) Hu)))) { nx:=λ_ H'=>Q .e H',rt:=Q } [some (.ref a),some (.ref c),v,x] O:=by
   intro m v x O N y l1 l2;refine⟨_,rfl,(by show 2<=sizeLine;decide),λd g=>?_⟩;refine k d c _ ⟨m,0,lR,by rw[lS (mR y g)];exact y,l1,by omega⟩ (N.free g) B (N.trans (nW.new g))
  refine⟨_,rfl,_,rfl,a,_,rfl,L.seq W,λp4 n4=>?_⟩;rw[em];have N:=L.trans (nW.new (o:=.l (q.map V.int)) n4);have y:upd J p4 (.l (q.map V.int)) c=some (.l (u.map V.int)):=by rw[lS (mR U n4)];exact U
  refine⟨p4,q,rfl,lO.of lR,_,_,rfl,rfl,(by show (0:Int)<2;decide),rfl,_,rfl,?_⟩;refine zA (λ_=>?_) (λ_=>?_)
  .refine⟨_,rfl,c,_,rfl,.inl (lO.of y),_,rfl,by omega,by rw[aA];omega,?_⟩;rw[aA,cF];refine J9 (lo:=0) (n:=u.length) (λi I z=>∃ (m:Aa Int) (v x:Ab V),I=[some (.ref a),some (.ref c),v,x]/\nW H z/\z c=some (.l (m.map V.int))/\m.length=u.length)
    ⟨u,none,none,rfl,N,y,rfl⟩ ?_ ?_
   .rintro i I z hi ⟨m,v,x,rfl,C,R,Z⟩;have X:(m.map V.int)[i]?=some (V.int (m[i]'(by omega))):=by simp[Z,hi]
    refine⟨_,rfl,_,rfl,c,_,_,V.int (m[i]'(by omega)),rfl,rfl,lO.of R,(by rw[Int.zero_add];exact pJ X),_,_,rfl,rfl,(by show (0:Int)<2147483587;decide),_,rfl,_,_,rfl,rfl,.inl (by decide),_,_,rfl,rfl,_,_,rfl,rfl,_,_,rfl,rfl,.inr (by decide),_,_,rfl,rfl,(by show (0:Int)<2147483629;decide),?_⟩;refine⟨_,rfl,_,rfl,_,_,rfl,rfl,.inl ?_,_,rfl,_,_,rfl,rfl,.inl (by decide),_,_,rfl,rfl,_,_,rfl,rfl,(by show (0:Int)<2147483563;decide),_,_,rfl,rfl,.inr (by decide),_,_,rfl,rfl,(by show (0:Int)<2147483549;decide),?_⟩
    .have b0:=dU ((m[i]'(by omega)%2147483587+853*(0+(i:Int))+11)*69621) (show (2147483629:Int)≠0 by decide);have b1:=dF ((m[i]'(by omega)%2147483587+853*(0+(i:Int))+11)*69621) (show (0:Int)<2147483629 by decide);exact⟨by omega,by omega⟩
    generalize hM:((m[i]'(by omega)%2147483587+853*(0+(i:Int))+11)*69621%2147483629)=M;have b0:=dU ((M*M+31*(0+(i:Int)))%2147483563*16807) (show (2147483549:Int)≠0 by decide);have b1:=dF ((M*M+31*(0+(i:Int)))%2147483563*16807) (show (0:Int)<2147483549 by decide);refine⟨_,rfl,_,rfl,_,_,rfl,rfl,.inl ?_,_,_,rfl,rfl,.inr (by decide),_,rfl,_,_,rfl,rfl,.inl ?_,_,_,rfl,rfl,(by show (0:Int)<2147483579;decide),_,_,rfl,rfl,_,rfl,_,rfl,c,_,_,i,rfl,rfl,R,?_,?_⟩
    .exact⟨by omega,by omega⟩
    .exact⟨by omega,by omega⟩
    .rw[aA];unfold uS;rw[aT (by omega),aT (by omega)]
     congr 1
     omega
    .refine⟨m.set i _,_,_,rfl,?_,by rw[lR,List.map_set],by rw[bU];exact Z⟩;intro b o e;rw[lS (mR e B)];exact C b o e
   .rintro I z ⟨m,v,x,rfl,C,R,Z⟩;exact fin m v x z C R (by omega) (by omega)
  .exact fin u none none _ N y D.1 D.2
end
structure LS (n m:Nat) (x:Str):Prop where
 az:∀ c∈x.cps.toList,97<=c/\c<=122
 lo:n<=x.length
 hi:x.length<=m
theorem Y7 (x y:Af):(x++y).cps.toList=x.cps.toList++y.cps.toList:=by
 show (x.cps++y.cps).toList=_;simp
theorem Vx (x y:Af):(x++y).length=x.length+y.length:=by
 show (x.cps++y.cps).size=_;simp[Str.length]
theorem LS.app (h:LS a b x) (g:LS c d y):LS (a+c) (b+d) (x++y) :=
 ⟨λz e=>by rw[Y7] at e;exact (aV.mp e).elim (h.az z) (g.az z),by rw[Vx];have:=h.lo;have:=g.lo;omega,by rw[Vx];have:=h.hi;have:=g.hi;omega⟩
theorem LS.weak (h:LS a b x) (g:c<=a) (j:b<=d):LS c d x:=⟨h.az,cK g h.lo,cK h.hi j⟩
noncomputable def Gv (n m:Nat) (x:Af):Bool:=x.cps.toList.all (λc=>decide (97<=c)&&decide (c<=122))&&decide (n<=x.length)&&decide (x.length<=m)
theorem LS.of (h:Gv n m x=true):LS n m x:=by
 unfold Gv at h;simp only[cN,cG,eV] at h;exact⟨h.1.1,h.1.2,h.2⟩
theorem LS.cutL (h:LS n n z) (g:k<=n):LS k k (tP z none (some (k:Int))):=by
 have e:z.length=n:=lJ h.hi h.lo;have d:HT.sIx z.length z.length (some (k:Int))=k:=by rw[HT.sIx_nat];omega
 have a:(tP z none (some (k:Int))).cps.toList=z.cps.toList.take k:=by
  show ((z.cps.toList.drop (HT.sIx z.length 0 none)).take _).toArray.toList=_;rw[d,HT.sIx_none];simp
 have f:(tP z none (some (k:Int))).length=k:=by
  rw[<- xV,a,bZ,xV];omega
 exact⟨λc b=>by rw[a] at b;exact h.az c (iJ b),by omega,by omega⟩
theorem LS.cutR (h:LS n n z) (g:k<=n):LS (n-k) (n-k) (tP z (some (k:Int)) none):=by
 have e:z.length=n:=lJ h.hi h.lo;have d:HT.sIx z.length 0 (some (k:Int))=k:=by rw[HT.sIx_nat];omega
 have a:(tP z (some (k:Int)) none).cps.toList=z.cps.toList.drop k:=by
  show ((z.cps.toList.drop (HT.sIx z.length 0 (some (k:Int)))).take _).toArray.toList=_;rw[d,HT.sIx_none];simp only[List.toList_toArray];rw[bI];rw[dY,xV];omega
 have f:(tP z (some (k:Int)) none).length=n-k:=by
  rw[<- xV,a,dY,xV];omega
 exact⟨λc b=>by rw[a] at b;exact h.az c (List.mem_of_mem_drop b),by omega,by omega⟩
theorem LS.sign (h:97<=c/\c<=122):LS 1 1 ⟨#[c]⟩:=⟨λd hd=>by simp at hd;subst hd;exact h,aW _,aW _⟩
theorem Tq:∀ (g:Aa Af),(∀ y∈g,LS 1 1 y)->LS g.length g.length (Str.join "" g)
 | [],_=>⟨λc e=>(nomatch e),aW _,aW _⟩
 | [x],h=>h x aH
 | x::y::r,h=>by
  have b:=h x aH;have d:=Tq (y::r) λz f=>h z (aM _ f)
  have a:LS 0 0 (Str.ofString ""):=LS.of (by decide +kernel);have:=(b.app a).app d;show LS _ _ (x++(Str.ofString "")++Str.join "" (y::r));exact this.weak (by simp;omega) (by simp;omega)
theorem AH (g:0<=i) (l:i<xs.length):∃ v,nT xs i=some v/\v∈xs:=by
 obtain⟨j,rfl⟩:=dP g;have a:j<xs.length:=by omega
 exact⟨xs[j],pJ (aQ a),fP a⟩
theorem Gs {xs:Aa Af}{i:Int}(g:0<=i) (l:i<xs.length):∃ x,nT (xs.map V.str) i=some (V.str x)/\x∈xs:=by
 obtain⟨j,rfl⟩:=dP g;have a:j<xs.length:=by omega
 exact⟨xs[j],pJ (by simp[a]),fP a⟩
def oA:Af := "abcdefghijklmnopqrstuvwxyz"
theorem Lo:oA.length=26:=by decide +kernel
theorem Ly (g:0<=i) (j:i<26):∃ c,nT oA.cps.toList i=some c/\97<=c/\c<=122:=by
 obtain⟨c,e,m⟩:=AH (xs:=oA.cps.toList) g (by rw[xV,Lo];exact j);have h:LS 26 26 oA:=LS.of (by decide +kernel);exact⟨c,e,h.az c m⟩
noncomputable def qT:Aa Af:=["and","or","odd","most","not","one","nil","in","out"]
theorem IY (h:x∈qT):LS 2 4 x:=by
 have:qT.all (Gv 2 4)=true:=by decide +kernel
 exact LS.of (cG.mp this x h)
structure GoodName (x:Str):Prop where
 ls:LS 1 8 x
 nk:x∉qT
def J7:Sp:=λa H Q _=>a=[]/\∀ l,H l=none->Q (.ref l) (upd H l (.l (qT.map V.str)))
def Rs:Sp:=λe H Q _=>∃ (d c:Ad) (m:Nat),e=[.ref d,.int m]/\DeckAt H d c/\m<=40/\∀ (l:Ad) (b:Aa Af) (a:Hp),H l=none->a l=some (.l (b.map V.str))->b.length=m->(∀ x∈b,LS 1 8 x) ->
 DeckAt a d c->mG d c H a->Q (.ref l) a
theorem mG.free (k:mG d c H g) (j:l≠d) (p:l≠c) (h:g l=none):H l=none:=by
 cases e:H l with
 | none=>rfl
 | some o=>rw[k l o e j p] at h;cases h
theorem Yr {g:Aa Af}{n m:Nat}(h:∀ y∈g,y.length<=m) (j:g.length<=n):(g.map (·.length)).sum<=n*m:=by
 have:∀ g:Aa Af,(∀ y∈g,y.length<=m)->(g.map (·.length)).sum<=g.length*m:=by
  intro g;induction g with
  | nil=>intro _;simp
  | cons a r c =>
   intro h;have d:=h a aH;have e:=c λy b=>h y (aM _ b)
   simp only[aP,dX,bS,Nat.add_mul,Nat.one_mul];omega
 exact cK (this g h) (Nat.mul_le_mul_right m j)
theorem Mo (h:n<=1000):n<=sizeLine:=cK h (by decide)
section
variable {P:Ah}{K:lL}
theorem CB:FnScope [] [] (mI C3):=⟨rfl,rfl,rfl,by decide +kernel,rfl,by decide +kernel,by decide +kernel⟩
theorem Ox (F:Fun K "_law_kept" "_law_kept" C3 f fd):FnOk P w K g base nR 1 f fd [] J7:=by
 refine F.ok CB (λd H Q E h=>?_) (λb A a s H d Q E e h=>?_)
 .obtain⟨rfl,_⟩:=h;rfl
 .obtain⟨rfl,k⟩:=h;refine⟨_,@qJ _ _ _ (@wZ _ _ _ _ (@pQ _ _ _ _ (@xO _ [("and",_,_),("or",_,_),("odd",_,_),("most",_,_),("not",_,_),("one",_,_),("nil",_,_),("in",_,_),("out",_,_)]))),?_⟩;have c:9<=sizeLine:=by decide
  refine⟨c,?_⟩;exact k
theorem uT:FnScope ["deck","many","letters","base","at","shift","way","names","k","sign","word","name"] ["deck","many"] (mI E8):=⟨rfl,rfl,rfl,by decide +kernel,rfl,by decide +kernel,by decide +kernel⟩
theorem CH:(["k","letters","deck"]:Aa Af).Nodup:=by decide +kernel
theorem S0 (j:0<=i) (l:i<2) (q:Af) (g:LS 0 1 q):∃ x,nT [V.str "",V.str q] i=some (V.str x)/\LS 0 1 x:=by
 have:i=0\/i=1:=by omega
 rcases this with rfl | rfl
 .exact⟨"",rfl,LS.of (by decide +kernel)⟩
 .exact⟨q,rfl,g⟩
theorem HB (F:Fun K "_law_made_names" "_law_made_names" E8 f fd) (T:Txt mg) (gT:Gd K mg "_law_take" sZ ["deck","many"] fT av) (gK:Gd K mg "_law_kept" C3 [] fK au) :
  FnOk P w K mg base nR 2 f fd ["deck","many"] Rs:=by
 have GT:FnOk P w K mg base nR 1 fT av ["deck","many"] Dv:=Fd gT.F T;have GK:FnOk P w K mg base nR 1 fK au [] J7:=Ox gK.F;refine F.ok uT (λvs H Q E h=>?_) (λa7 A a6 s H vs Q E hr h=>?_)
 .obtain⟨d,c,m,rfl,_⟩:=h;rfl
 .obtain⟨d,c,m,rfl,D,hm,k⟩:=h;refine⟨_,pD (oQ (i:=2) uT.nd rfl (Or.inr rfl) uZ) (pD (oQ (i:=3) uT.nd rfl (Or.inl rfl) (zC PySem.F.plainAttrs_str PySem.F.slot_str_join PySem.F.type_str_join AC uZ (mA (tV ["k"] ["letters","deck"] [2,0] rfl (Aj rfl T.range (mA (sL GT hr rfl gT.m gT.k gT.b .nil rE (mA (pv 0) (mA mT mJ))) mJ)) rfl rfl (λZ S C cl fp=>sD (i:=0) CH rfl (Or.inl rfl)) (λZ S C cl fp=>vK) (λZ S C cl fp=>oZ He (pv 1) (sL GT hr rfl gT.m gT.k gT.b .nil rE (mA (pv 2) (mA mT mJ))) (λ_ _=>rfl))) mJ))) (pD (oQ (i:=4) uT.nd rfl (Or.inl rfl) (sL GT hr rfl gT.m gT.k gT.b .nil rE (mA (pv 0) (mA (mQ wH (uG Px (by rfl) T.len cC (mA (pv 3) mJ)) mT) mJ)))) (pD (oQ (i:=5) uT.nd rfl (Or.inl rfl) (sL GT hr rfl gT.m gT.k gT.b .nil rE (mA (pv 0) (mA mT mJ)))) (pD (oQ (i:=6) uT.nd rfl (Or.inl rfl) (sL GT hr rfl gT.m gT.k gT.b .nil rE (mA (pv 0) (mA mT mJ)))) (pD (oQ (i:=7) uT.nd rfl (Or.inl rfl) (pQ mJ)) (pD (Bt gA rfl (Aj rfl T.range (mA (pv 1) mJ)) (sD (i:=8) uT.nd rfl (Or.inl rfl)) (pD (oQ (i:=9) uT.nd rfl (Or.inl rfl) (oZ He (pv 2) (mQ rF (mQ wH (pv 5) (pv 8)) mT) (λ_ _=>rfl))) (pD (oQ (i:=10) uT.nd rfl (Or.inl rfl) (oZ qQ (M6 GK hr rfl gK.m gK.k gK.b .nil rE) (mQ rF (mQ wH (pv 5) (pv 8)) mT) (λ_ _=>rfl))) (pD (oQ (i:=11) uT.nd rfl (Or.inl rfl) (mQ wW (mQ wW (mQ wW (mQ wW (C0 Lv (pv 3) Du (Ct (pv 4))) (pv 9)) (oZ qQ (pQ (mA uZ (mA uZ mJ))) (mQ rF (pv 8) mT) (λ_ _=>rfl))) (C0 Lv (pv 3) (Ct (pv 4)) Du)) (oZ qQ (pQ (mA uZ (mA uZ mJ))) (mQ LP (pv 8) mT) (λ_ _=>rfl)))) (qJ (Ju (zC bF bO bP rA (pv 7) (mA (oZ qQ (pQ (mA (pv 11) (mA (mQ wW (pv 9) (pv 10)) (mA (mQ wW (pv 10) (pv 9)) (mA (mQ wW (mQ wW (pv 9) (pv 10)) (oZ He (pv 2) (mQ rF (pv 8) mT) (λ_ _=>rfl))) mJ))))) (pv 6) (λ_ _=>rfl)) mJ)))))))) (qJ (wZ (pv 7))))))))),?_⟩;refine⟨rfl,_,rfl,d,c,6,rfl,D,by decide,by decide,λr1 H1 a0 a1 D1 k1=>⟨_,rfl,by omega,by omega,λD0 N=>?_⟩⟩;have u:=D1.ned N;have az:H D0=none:=k1.free u.1 u.2 N;refine Jz M9 (λi ys H2=>∃ t:Aa Af,ys=t.map V.str/\t.length=i/\(∀ z∈t,LS 1 1 z)/\DeckAt H2 d c/\mG d c H H2/\H2 D0=some (.l ys))
   ⟨[],rfl,rfl,(λz Y=>nomatch Y),D1.new N,k1.trans (mG.new N),lR⟩ (λ_ _ _ _ _=>True.intro) ?_ ?_
  .rintro i x ys H2 hx ⟨t,rfl,hl,a5,D2,k2,hD⟩;have hi:i<6:=by
    have:=(aU.mp hx).1;simp at this;omega
   refine⟨_,rfl,_,rfl,d,c,26,rfl,D2,by decide,by decide,λr H3 b0 b1 D3 k3=>?_⟩;obtain⟨W,a2,j⟩:=Ly b0 b1;have ay:=k3 D0 _ hD u.1 u.2;refine⟨oA,_,W,rfl,rfl,(by rw[Lo];decide),a2,⟨_,rfl⟩,ay,(by rw[aA];exact bD (show t.length<1000 by omega) (by decide)),t++[⟨#[W]⟩],by simp,by simp[hl],λz Y=>?_,D3.upd_other u.1 u.2,?_,lR⟩
   .rcases aV.mp Y with q | q
    .exact a5 z q
    .rw[aZ.mp q];exact LS.sign j
   .exact λb o e h1 h2=>by rw[lS (mR e az)];exact k3 b o (k2 b o e h1 h2) h1 h2
  .rintro ys H2 ⟨t,rfl,hl,Y,D2,k2,hD⟩;rw[aA,dB] at hl;have hB:=Tq t Y;have ax:t.length<=5:=by omega
   refine⟨"",D0,t,rfl,rfl,.inl (lO.of hD),?_,?_⟩
   .have h1:=Yr (m:=1) (λy hy=>(Y y hy).hi) ax;have h2:(Str.ofString "").length=0:=by decide +kernel
    rw[h2];omega
   have ej:Txt.join (Str.ofString "") t=Str.join (Str.ofString "") t:=StrLaws.glued_eq_join _ _;rw[ej];generalize Str.join (Str.ofString "") t=B at hB;have eB:B.length=t.length:=lJ hB.hi hB.lo;refine⟨_,rfl,_,rfl,B,rfl,Mo (by omega),_,_,rfl,rfl,d,c,_,rfl,D2,by omega,by omega,λr2 H3 b0 b1 D3 k3=>?_⟩;refine⟨_,rfl,d,c,26,rfl,D3,by decide,by decide,λr3 H4 c0 c1 D4 k4=>?_⟩;refine⟨_,rfl,d,c,4,rfl,D4,by decide,by decide,λr4 H5 d0 d1 D5 k5=>?_⟩;refine⟨(by show 0<=sizeLine;decide),λl nl=>?_⟩;have kk:mG d c H H5:=((k2.trans k3).trans k4).trans k5;have O:=D5.ned nl;have ac:H l=none:=kk.free O.1 O.2 nl;obtain⟨L,rfl⟩:=dP b0;refine⟨_,rfl,_,rfl,by omega,by omega,?_⟩;rw[cF];refine J9 (lo:=0) (n:=m) (λi σ G=>∃ (v:Aa Af) (v8 v9 v10 v11:Ab V),σ=[some (.ref d),some (.int m),some (.str oA),some (.str B),some (.int L),some (.int r3),some (.int r4),some (.ref l),v8,v9,v10,v11] /\ v.length=i/\(∀ x∈v,LS 1 8 x)/\G l=some (.l (v.map V.str))/\DeckAt G d c/\mG d c H G)
    ⟨[],none,none,none,none,rfl,rfl,(λz Y=>nomatch Y),lR,D5.new nl,kk.trans (mG.new nl)⟩ ?_ ?_
   .rintro i σ G hi ⟨v,v8,v9,v10,v11,rfl,I,J,h6,D6,k6⟩;have M:∀ z:Int,0<=z%26/\z%26<26:=λz=>⟨dU z (by decide),dF z (by decide)⟩
    have e9:∀ z:Int,0<=z%9/\z%9<9:=λz=>⟨dU z (by decide),dF z (by decide)⟩
    have e2:∀ z:Int,0<=z%2/\z%2<2:=λz=>⟨dU z (by decide),dF z (by decide)⟩
    obtain⟨W,ae,j⟩:=Ly (M (r3+(0+(i:Int)))).1 (M _).2;obtain⟨wd,af,a3⟩:=Gs (xs:=qT) (e9 (r3+(0+(i:Int)))).1 (by exact (e9 _).2);obtain⟨x1,ag,an⟩:=S0 (e2 (0+(i:Int))).1 (e2 _).2 "q" (LS.of (by decide +kernel));obtain⟨x2,ah,ao⟩:=S0 (i:=(0+(i:Int))/26) (by omega) (by omega) "w" (LS.of (by decide +kernel));obtain⟨c5,ai,ak⟩:=Ly (M (0+(i:Int))).1 (M _).2;have g:=LS.sign j;have hW:=IY a3;have X:L<=t.length:=by omega
    have hP:=hB.cutL X;have hR:=hB.cutR X;have n1:=hP.app g;have n2:=n1.app an;have n3:=n2.app hR;have n4:=n3.app ao;have w1:=g.app hW;have w2:=hW.app g;have w3:=w1.app (LS.sign ak);have sz:∀ {a b c' d':Nat} {x y:Af},LS a b x->LS c' d' y->b+d'<=100->x.length+y.length<=sizeLine:=λg1 g2 hb=>Mo (by have:=g1.hi;have:=g2.hi;omega)
    have ar:oA.length<=sizeLine:=by rw[Lo];decide
    have ab:B.length<=sizeLine:=Mo (by omega);refine⟨_,rfl,_,rfl,_,rfl,_,_,rfl,rfl,_,_,rfl,rfl,(by show (0:Int)<26;decide),oA,_,W,rfl,rfl,ar,ae,?_⟩;refine⟨rfl,λp np=>?_⟩;have D7:DeckAt (upd G p (.l (qT.map V.str))) d c:=D6.new np;refine⟨_,rfl,_,rfl,_,_,rfl,rfl,_,_,rfl,rfl,(by show (0:Int)<9;decide),p,_,_,.str wd,rfl,rfl,lO.of lR,af,?_⟩;have k7:mG d c H (upd G p (.l (qT.map V.str))):=k6.trans (mG.new np);have h7:upd G p (.l (qT.map V.str)) l=some (.l (v.map V.str)):=by rw[lS (mR h6 np)];exact h6
    generalize upd G p (.l (qT.map V.str))=H7 at D7 k7 h7 |-;refine⟨_,rfl,_,rfl,_,rfl,B,rfl,ab,_,rfl,_,_,rfl,rfl,sz hP g (by omega),(by show 2<=sizeLine;decide),λp2 U=>?_⟩;have D8:=D7.new (o:=.l [V.str (Str.ofString ""),V.str (Str.ofString "q")]) U;have k8:=k7.trans (mG.new (d:=d) (c:=c) (o:=.l [V.str (Str.ofString ""),V.str (Str.ofString "q")]) U);have h8:upd H7 p2 (.l [V.str (Str.ofString ""),V.str (Str.ofString "q")]) l=some (.l (v.map V.str)):=by rw[lS (mR h7 U)];exact h7
    refine⟨_,rfl,_,_,rfl,rfl,(by show (0:Int)<2;decide),p2,_,_,.str x1,rfl,rfl,lO.of lR,ag,_,_,rfl,rfl,sz n1 an (by omega),_,rfl,_,rfl,_,rfl,B,rfl,ab,_,_,rfl,rfl,sz n2 hR (by omega),(by show 2<=sizeLine;decide),λp3 R=>?_⟩;generalize upd H7 p2 (.l [V.str (Str.ofString ""),V.str (Str.ofString "q")])=H8 at D8 k8 h8 R |-;have D9:=D8.new (o:=.l [V.str (Str.ofString ""),V.str (Str.ofString "w")]) R;have k9:=k8.trans (mG.new (d:=d) (c:=c) (o:=.l [V.str (Str.ofString ""),V.str (Str.ofString "w")]) R);have h9:upd H8 p3 (.l [V.str (Str.ofString ""),V.str (Str.ofString "w")]) l=some (.l (v.map V.str)):=by rw[lS (mR h8 R)];exact h8
    refine⟨_,rfl,_,_,rfl,rfl,⟨by decide,by decide⟩,p3,_,_,.str x2,rfl,rfl,lO.of lR,ah,_,_,rfl,rfl,sz n3 ao (by omega),?_⟩;generalize upd H8 p3 (.l [V.str (Str.ofString ""),V.str (Str.ofString "w")])=H9 at D9 k9 h9 |-;generalize a8:(tP B none (some (L:Int))++(⟨#[W]⟩:Af)++x1++tP B (some (L:Int)) none++x2)=nm at n4;refine⟨_,rfl,.inl ⟨rfl,_,lO.of h9⟩,_,rfl,_,rfl,_,rfl,_,_,rfl,rfl,sz g hW (by omega),_,rfl,_,rfl,_,_,rfl,rfl,sz hW g (by omega),_,rfl,_,rfl,_,_,rfl,rfl,sz g hW (by omega),_,rfl,_,rfl,_,_,rfl,rfl,(by show (0:Int)<26;decide),oA,_,c5,rfl,rfl,ar,ai,_,_,rfl,rfl,sz w1 (LS.sign ak) (by omega),(by show 4<=sizeLine;decide),λp4 aa=>?_⟩;obtain⟨z,aj,aq⟩:=Gs (xs:=[nm,(⟨#[W]⟩:Af)++wd,wd++(⟨#[W]⟩:Af),(⟨#[W]⟩:Af)++wd++(⟨#[c5]⟩:Af)]) d0 (by exact d1);have a4:LS 1 8 z:=by
     simp only[aI,bJ,eM] at aq;rcases aq with rfl | rfl | rfl | rfl
     .exact n4.weak (by omega) (by omega)
     .exact w1.weak (by omega) (by omega)
     .exact w2.weak (by omega) (by omega)
     .exact w3.weak (by omega) (by omega)
    have aw:∀ o4,upd H9 p4 o4 l=some (.l (v.map V.str)):=λo4=>by rw[lS (mR h9 aa)];exact h9
    refine⟨_,rfl,p4,_,_,.str z,rfl,rfl,lO.of lR,aj,l,v.map V.str,.str z,rfl,rfl,?_,?_,v++[z],_,_,_,_,rfl,by simp[I],?_,?_,?_,?_⟩
    .exact aw _
    .rw[aA];exact bD (show v.length<1000 by omega) (by decide)
    .intro y hy;rcases aV.mp hy with q | q
     .exact J y q
     .rw[aZ.mp q];exact a4
    .rw[lR];simp
    .exact (D9.new aa).upd_other O.1 O.2
    .exact λb o e g1 g2=>by rw[lS (mR e ac)];exact (k9.trans (mG.new aa)) b o e g1 g2
   .rintro σ G ⟨v,v8,v9,v10,v11,rfl,I,J,h6,D6,k6⟩;exact⟨_,rfl,k l v G ac h6 I J D6 k6⟩
end
def tR:Aa Af:=["cell","along","lay","judge","late","gates","ways","show"]
noncomputable def yJ:Aa Af:=["andx","orb","oddly","mosts","nots","ones","nila","inn","outer","aa","ab","ba"]
def Er:Aa Af:=["abcdefgh","abcdefgi","zzzzzzzz","names","judged","rowsofx"]
def rX (z:Af):Aa Af:=z.cps.toList.map λc=>(⟨#[c]⟩:Af)
def yR:Aa Af:=rX oA++tR++yJ++Er
theorem Wn:yR.Nodup:=by decide +kernel
theorem JU:yR.length=52:=by decide +kernel
theorem FX:∀ x∈yR,GoodName x:=by
 have h:yR.all (λx=>Gv 1 8 x && !qT.contains x)=true:=by decide +kernel
 intro x b;have:=cG.mp h x b;rw[cN] at this;refine⟨LS.of this.1,λm=>?_⟩;have a:=this.2;rw[List.contains_iff_mem.mpr m] at a;cases a
def Om:Sp:=λe H Q _=>∃ (d c:Ad) (m:Nat),e=[.ref d,.int m]/\DeckAt H d c/\m<=40/\∀ (l:Ad) (b:Aa Af) (a:Hp),H l=none->a l=some (.l (b.map V.str))->b.length=m->b.Nodup->(∀ x∈b,GoodName x) ->
 DeckAt a d c->mG d c H a->Q (.ref l) a
theorem S1:∀ {g:Aa Af}{k:Nat}{y:Af},g[k]?=some y->(y::g.eraseIdx k).Perm g
 | [],k,y,h=>by simp at h
 | a::r,0,y,h=>by
  simp at h;subst h;exact List.Perm.refl _
 | a::r,k+1,y,h=>by
  have b:r[k]?=some y:=by simpa using h
  show (y::a::r.eraseIdx k).Perm (a::r);exact (List.Perm.swap a y _).trans ((S1 b).cons a)
theorem Qf (f:g->j):∀ (l:Aa g) (k:Nat),(l.map f).eraseIdx k=(l.eraseIdx k).map f
 | [],_=>rfl
 | _::_,0=>rfl
 | a::r,k+1=>by simp[Qf f r k]
theorem Nh (x:Af) (g:Aa Af):xY (.str x) (g.map V.str)=decide (x∈g):=by
 unfold xY;induction g with
 | nil=>rfl
 | cons y r b =>
  rw[aP,fF,b];have:oS (V.str y) (V.str x)=decide (y=x):=by
   simp only[oS];exact Bool.beq_eq_decide_eq y x
  rw[this];by_cases h:x=y
  .subst h;simp
  .have a:¬ y=x:=λe=>h e.symm
   simp[h,a]
theorem L4 (g:Aa Af):(g.map V.str).all pZ=true:=by
 rw[cG];intro v a;obtain⟨y,_,rfl⟩:=aE.mp a;rfl
section
variable {P:Ah}{K:lL}
theorem Bg:FnScope ["deck","many","letters","names","spare"] ["deck","many"] (mI Bi):=⟨rfl,rfl,rfl,by decide +kernel,rfl,by decide +kernel,by decide +kernel⟩
theorem Tp (x:Af):([x]:Aa Af).Nodup:=by simp
theorem LL:(["k","spare","deck"]:Aa Af).Nodup:=by decide +kernel
theorem JC (F:Fun K "_law_names" "_law_names" Bi f fd) (T:Txt mg) (gT:Gd K mg "_law_take" sZ ["deck","many"] fT a6) (gK:Gd K mg "_law_kept" C3 [] fK a4)
  (gM:Gd K mg "_law_made_names" E8 ["deck","many"] fM a5):FnOk P w K mg base nR 3 f fd ["deck","many"] Om:=by
 have GT:FnOk P w K mg base nR 1 fT a6 ["deck","many"] Dv:=Fd gT.F T;have GK:FnOk P w K mg base nR 1 fK a4 [] J7:=Ox gK.F;have GM:FnOk P w K mg base nR 2 fM a5 ["deck","many"] Rs:=HB gM.F T gT gK;refine F.ok Bg (λvs H Q E h=>?_) (λbf A bd s H vs Q E hr h=>?_)
 .obtain⟨d,c,m,rfl,_⟩:=h;rfl
 .obtain⟨d,c,m,rfl,D,hm,k⟩:=h;have aj:Room 1 _:=hr.mono (by decide);have hu:=hr.units;refine M4 _ (oQ (i:=2) Bg.nd rfl (Or.inl rfl) uZ) ?_;refine xF (λσ S=>∃ v3,σ=[some (.ref d),some (.int m),some (.str oA),v3,none]/\DeckAt S d c/\mG d c H S) (λu L=>?_) ?_
  .-- if _law_take(deck,2) == 1
   refine⟨_,zI (vR Ff (sL GT aj rfl gT.m gT.k gT.b .nil rE (mA (pv 0) (mA mT mJ))) mT (wD _)) (pD (oQ (i:=3) Bg.nd rfl (Or.inl rfl) (sL GM hr rfl gM.m gM.k gM.b .nil rE (mA (pv 0) (mA (pv 1) mJ)))) (qJ (zI (PW.pt (U8 (vR Ff (uG LA (by rfl) T.len cC (mA (K9 (Yk rfl) (by rfl) T.set PyProof.Rows.boot_set (mA (pv 3) mJ)) mJ)) (pv 1) (wD _)) (Np (vR (Ik hu) (tV ["name"] [] [] rfl (FN (pv 3)) rfl rfl (λB v C cl fp=>sD (i:=0) (Tp _) rfl (Or.inl rfl)) (λB v C cl fp=>T8 (vR (r:=Es K false) Sq (pv 0) (M6 GK aj rfl gK.m gK.k gK.b .nil rE) rfl)) (λB v C cl fp=>pv 0)) (pQ mJ) (wD _))))) (qJ (wZ (pv 3))) Bu))) Bu,?_⟩;refine⟨_,rfl,d,c,2,rfl,D,by decide,by decide,λr1 H1 a0 a1 D1 k1=>⟨rfl,_,rfl,?_⟩⟩;refine zA (λ_=>?_) (λ_=>L _ _ ⟨none,rfl,D1,k1⟩);refine⟨_,rfl,_,rfl,d,c,m,rfl,D1,hm,λl O H2 nl hl av ba D2 k2=>?_⟩;have kk:mG d c H H2:=k1.trans k2;have ax:=D1.ned nl;have a8:H l=none:=k1.free ax.1 ax.2 nl;refine⟨_,rfl,l,O,rfl,lO.of hl,by omega,λp np=>?_⟩;have k3:=kk.trans (mG.new (d:=d) (c:=c) (o:=Be P w p (oF O).length) np);have D3:=D2.new (o:=Be P w p (oF O).length) np;have ai:upd H2 p (Be P w p (oF O).length) l=some (.l (O.map V.str)):=by rw[lS (mR hl np)];exact hl
   refine⟨p,_,rfl,lR,_,rfl,rfl,_,rfl,?_⟩;refine zA (λa9=>?_) (λ_=>tS (L _ _ ⟨_,rfl,D3,k3⟩));have J:O.Nodup:=by
    have:=cW a9;injection this with this;exact HW (by omega)
   refine⟨_,rfl,l,rfl,⟨_,lO.of ai⟩,λR n=>?_⟩;have G:=D3.ned n;have ac:H R=none:=k3.free G.1 G.2 n;have lD:l≠R:=mR ai n;refine Lu LY (λi ys S=>∃ t:Aa Af,ys=t.map V.str/\t.length<=i/\((∃ x∈O.take i,x∈qT)->t≠[])/\((∀ x∈O.take i,x∉qT)->t=[])/\DeckAt S d c/\mG d c H S/\S R=some (.l ys)/\S l=some (.l (O.map V.str)))
    ⟨[],rfl,aW _,(λ⟨x,N,_⟩=>by simp at N),(λ_=>rfl),D3.new n,k3.trans (mG.new n),lR,by rw[lS lD];exact ai⟩ (λi ys S _ ⟨_,_,_,_,_,_,_,_,h⟩=>lO.of h) ?_ ?_
   .rintro i x ys S N ⟨t,rfl,aw,U,af,D4,k4,g,I⟩;obtain⟨y,hy,rfl⟩:∃ y,O[i]?=some y/\V.str y=x:=by
     rw[bC] at N;cases e:O[i]? with
     | none=>rw[e] at N;cases N
     | some y=>rw[e] at N;exact⟨y,rfl,bN N⟩
    have hi:i<O.length:=(aU.mp hy).1;have et:O.take (i+1)=O.take i++[y]:=by rw[cL,hy];rfl
    refine⟨_,rfl,rfl,λq nq=>?_⟩;have bh:=D4.ned nq;refine⟨q,_,rfl,.inl (lO.of lR),rfl,L4 _,_,rfl,?_⟩;have D5:=D4.new (o:=.l (qT.map V.str)) nq;have k5:=k4.trans (mG.new (d:=d) (c:=c) (o:=.l (qT.map V.str)) nq);have ab:upd S q (.l (qT.map V.str)) R=some (.l (t.map V.str)):=by rw[lS (mR g nq)];exact g
    have ae:upd S q (.l (qT.map V.str)) l=some (.l (O.map V.str)):=by rw[lS (mR I nq)];exact I
    rw[Nh];refine zA (λhk=>?_) (λhk=>?_)
    .have ah:y∈qT:=cW hk;refine⟨_,rfl,⟨_,rfl⟩,ab,?_,t++[y],by simp,by simp;omega,λ_=>by simp,λh=>absurd ah (h y (by rw[et];simp)),D5.upd_other G.1 G.2,?_,lR,?_⟩
     .rw[aA];exact bD (show t.length<1000 by omega) (by decide)
     .exact λb o e g1 g2=>by rw[lS (mR e ac)];exact k5 b o e g1 g2
     .rw[lS lD];exact ae
    .have ah:y∉qT:=λz=>hk (cB z)
     refine⟨⟨_,rfl⟩,t,rfl,by omega,?_,?_,D5,k5,ab,ae⟩
     .rintro ⟨z,hz,ak⟩;rw[et] at hz;rcases aV.mp hz with q' | q'
      .exact U ⟨z,q',ak⟩
      .rw[aZ.mp q'] at ak;exact absurd ak ah
     .exact λh=>af λz hz=>h z (by rw[et];exact aL _ hz)
   .rintro ys S ⟨t,rfl,aw,U,af,D4,k4,g,I⟩;rw[aA] at aw U af;rw[bI (aW _)] at U af;refine⟨(by show 0<=sizeLine;decide),λq nq=>?_⟩;have D5:=D4.new (o:=.l []) nq;have k5:=k4.trans (mG.new (d:=d) (c:=c) (o:=.l []) nq);have ab:upd S q (.l []) R=some (.l (t.map V.str)):=by rw[lS (mR g nq)];exact g
    have ae:upd S q (.l []) l=some (.l (O.map V.str)):=by rw[lS (mR I nq)];exact I
    refine⟨R,q,_,rfl,rfl,lO.of ab,lO.of lR,_,rfl,?_⟩;refine zA (λhe=>?_) (λ_=>L _ _ ⟨_,rfl,D5,k5⟩);have bc:t=[]:=by
     cases t with
     | nil=>rfl
     | cons a r=>simp at he
    refine⟨_,rfl,k l O _ a8 ae av J (λx N=>⟨ba x N,λhk=>U ⟨x,N,hk⟩ bc⟩) D5 k5⟩
  .rintro σ S ⟨v3,rfl,D4,k4⟩;refine xF (λσ H7=>∃ p2,σ=[some (.ref d),some (.int m),some (.str oA),v3,some (.ref p2)]/\H7 p2=some (.l ((rX oA++tR).map V.str))/\DeckAt H7 d c/\mG d c H H7/\H p2=none) (λu L=>?_) ?_
   .refine⟨_,oQ (i:=4) Bg.nd rfl (Or.inr rfl) (mQ B4 (tV ["sign"] [] [] rfl (HJ (pv 2)) rfl rfl (λB v C cl fp=>sD (i:=0) (Tp _) rfl (Or.inl rfl)) (λB v C cl fp=>vK) (λB v C cl fp=>pv 0)) (@pQ _ _ _ _ (@xO _ [("cell",_,_),("along",_,_),("lay",_,_),("judge",_,_),("late",_,_),("gates",_,_),("ways",_,_),("show",_,_)]))),?_⟩;refine⟨_,rfl,oA,rfl,by decide +kernel,λR n=>?_⟩;refine BZ BC id n (λ_ _=>True.intro) (by rw[show (zT oA).length=26 by decide +kernel];decide) (λi x H5 kk N _ h=>⟨_,rfl,h⟩) ?_;have e1:(zT oA).map id=(rX oA).map V.str:=by rw[fO];unfold zT rX;rw[List.map_map];rfl
    rw[e1];refine⟨(by show 8<=sizeLine;decide),λp1 n1=>?_⟩;have h0:upd (upd S R (.l ((rX oA).map V.str))) p1 (.l (tR.map V.str)) R=some (.l ((rX oA).map V.str)):=by rw[lS (mR lR n1)];exact lR
    refine⟨R,p1,_,_,rfl,rfl,h0,lR,(by rw[aA,show (rX oA).length=26 by decide +kernel];show 26+8<=sizeLine;decide),λp2 n2=>?_⟩;have D7:=((D4.new (o:=.l ((rX oA).map V.str)) n).new (o:=.l (tR.map V.str)) n1);have k7:=(k4.trans (mG.new (d:=d) (c:=c) (o:=.l ((rX oA).map V.str)) n)).trans (mG.new (d:=d) (c:=c) (o:=.l (tR.map V.str)) n1);have ay:=D7.ned n2;refine L _ _ ⟨p2,rfl,?_,D7.new n2,k7.trans (mG.new n2),k7.free ay.1 ay.2 n2⟩;rw[lR,aR];rfl
   rintro σ H7 ⟨p2,rfl,h7,D7,k7,z7⟩;refine xF (λσ H8=>∃ p3,σ=[some (.ref d),some (.int m),some (.str oA),v3,some (.ref p3)]/\H8 p3=some (.l ((rX oA++tR++yJ).map V.str))/\DeckAt H8 d c/\mG d c H H8/\H p3=none) (λu L=>?_) ?_
   .refine⟨_,oQ (i:=4) Bg.nd rfl (Or.inr rfl) (mQ B4 (pv 4) (@pQ _ _ _ _ (@xO _ [("andx",_,_),("orb",_,_),("oddly",_,_),("mosts",_,_),("nots",_,_),("ones",_,_),("nila",_,_),("inn",_,_),("outer",_,_),("aa",_,_),("ab",_,_),("ba",_,_)]))),?_⟩;refine⟨_,rfl,(by show 12<=sizeLine;decide),λp1 n1=>?_⟩;have h0:upd H7 p1 (.l (yJ.map V.str)) p2=some (.l ((rX oA++tR).map V.str)):=by rw[lS (mR h7 n1)];exact h7
    refine⟨p2,p1,_,_,rfl,rfl,h0,lR,(by rw[aA,show (rX oA++tR).length=34 by decide +kernel];show 34+12<=sizeLine;decide),λp3 n3=>?_⟩;have D8:=D7.new (o:=.l (yJ.map V.str)) n1;have k8:=k7.trans (mG.new (d:=d) (c:=c) (o:=.l (yJ.map V.str)) n1);have az:=D8.ned n3;refine L _ _ ⟨p3,rfl,?_,D8.new n3,k8.trans (mG.new n3),k8.free az.1 az.2 n3⟩;rw[lR,aR (l₁:=rX oA++tR)];rfl
   rintro σ H8 ⟨p3,rfl,h8,D8,k8,z8⟩;refine xF (λσ H9=>∃ Y,σ=[some (.ref d),some (.int m),some (.str oA),v3,some (.ref Y)]/\H9 Y=some (.l (yR.map V.str))/\DeckAt H9 d c/\mG d c H H9/\H Y=none) (λu L=>?_) ?_
   .refine⟨_,oQ (i:=4) Bg.nd rfl (Or.inr rfl) (mQ B4 (pv 4) (@pQ _ _ _ _ (@xO _ [("abcdefgh",_,_),("abcdefgi",_,_),("zzzzzzzz",_,_),("names",_,_),("judged",_,_),("rowsofx",_,_)]))),?_⟩;refine⟨_,rfl,(by show 6<=sizeLine;decide),λp1 n1=>?_⟩;have h0:upd H8 p1 (.l (Er.map V.str)) p3=some (.l ((rX oA++tR++yJ).map V.str)):=by rw[lS (mR h8 n1)];exact h8
    refine⟨p3,p1,_,_,rfl,rfl,h0,lR,(by rw[aA,show (rX oA++tR++yJ).length=46 by decide +kernel];show 46+6<=sizeLine;decide),λY n4=>?_⟩;have D9:=D8.new (o:=.l (Er.map V.str)) n1;have k9:=k8.trans (mG.new (d:=d) (c:=c) (o:=.l (Er.map V.str)) n1);have X:=D9.ned n4;refine L _ _ ⟨Y,rfl,?_,D9.new n4,k9.trans (mG.new n4),k9.free X.1 X.2 n4⟩;unfold yR;rw[lR,aR (l₁:=rX oA++tR++yJ)];rfl
   rintro σ H9 ⟨Y,rfl,h9,D9,k9,z9⟩;refine⟨_,qJ (wZ (tV ["k"] ["spare","deck"] [4,0] rfl (Aj rfl T.range (mA (pv 1) mJ)) rfl rfl (λB v C cl fp=>sD (i:=0) LL rfl (Or.inl rfl)) (λB v C cl fp=>vK) (λB v C cl fp=>Ww K bF fU fV Dm (pv 1) (mA (sL GT aj rfl gT.m gT.k gT.b .nil rE (mA (pv 2) (mA (uG (DJ K) (by rfl) T.len cC (mA (pv 1) mJ)) mJ))) mJ)))),?_⟩;refine⟨_,rfl,_,rfl,by omega,by omega,λR n=>?_⟩;have G:=D9.ned n;have ac:H R=none:=k9.free G.1 G.2 n;have X:Y≠d/\Y≠c:=D.ned z9;have ar:Y≠R:=mR h9 n;refine Jz M9 (λi ys W=>∃ t M:Aa Af,ys=t.map V.str/\t.length=i/\M.length+i=52/\(t++M).Nodup/\(∀ x∈t++M,GoodName x)/\W Y=some (.l (M.map V.str))/\DeckAt W d c/\mG d c H W/\W R=some (.l ys))
    ⟨[],yR,rfl,rfl,JU,Wn,FX,by rw[lS ar];exact h9,D9.new n,k9.trans (mG.new n),lR⟩ (λ_ _ _ _ _=>True.intro) ?_ ?_
   .rintro i x ys W N ⟨t,M,rfl,an,bb,J,hg,aa,ag,ao,Z⟩;have hi:i<40:=by
     have:=(aU.mp N).1;simp at this;omega
    refine⟨_,rfl,.inl ⟨rfl,_,lO.of aa⟩,_,rfl,_,rfl,Y,_,rfl,.inl (lO.of aa),d,c,_,rfl,ag,by rw[aA];omega,by rw[aA];omega,λr be b0 b1 a3 aq=>?_⟩;rw[aA] at b1;obtain⟨j,rfl⟩:=dP b0;have hj:j<M.length:=by omega
    have a7:=aq Y _ aa X.1 X.2;have au:=aq R _ Z G.1 G.2;have hy:M[j]?=some M[j]:=aQ hj;have pm:=S1 hy;have a2:((t++[M[j]])++M.eraseIdx j).Perm (t++M):=by
     rw[bM];exact jW t pm
    have bg:(M.eraseIdx j).length+1=M.length:=by
     rw[List.length_eraseIdx,aT hj];omega
    refine⟨Y,_,_,j,.str M[j],rfl,rfl,a7,by omega,by omega,?_,by simp[hj],⟨_,rfl⟩,by rw[lS ar.symm];exact au,?_,t++[M[j]],M.eraseIdx j,by simp,by simp[an],by omega,a2.symm.nodup J,λx N=>hg x (a2.mem_iff.mp N),?_,?_,?_,lR⟩
    .rw[aA];exact PySem.StrLaws.seqIndex_nonneg (by omega) (by omega)
    .rw[aA];exact bD (show t.length<1000 by omega) (by decide)
    .rw[lS ar,lR,Qf]
    .exact (a3.upd_other X.1 X.2).upd_other G.1 G.2
    .exact λb o e g1 g2=>by rw[lS (mR e ac),lS (mR e z9)];exact aq b o (ao b o e g1 g2) g1 g2
   .rintro ys W ⟨t,M,rfl,an,bb,J,hg,aa,ag,ao,Z⟩;rw[aA,dB] at an;exact k R t W ac Z (by omega) (List.Nodup.sublist (List.sublist_append_left t M) J) (λx N=>hg x (aL _ N)) ag ao
end
noncomputable def vS:Aa Af:=["and","or","odd"]
structure ArOk (w:Str) (n:Nat):Prop where
 ok:(w∈vS/\(n=2\/n=3))\/(w = "most" /\ n=3)\/(w = "not" /\ n=1)\/(w = "one" /\ n=0)\/(w = "nil" /\ n=0)
def Fm:Aa Af:=["and","or","odd","most","not","one","nil","and","odd","most"]
def uU:Aa Af:=["most","not","one","nil"]
def xK:Aa Int:=[3,1,0,0]
theorem DG (h:w∈Fm) (g:w∉vS):w = "most" \/ w = "not" \/ w = "one" \/ w = "nil" := by
 unfold Fm at h;unfold vS at g;simp only[aI,bJ,eM,lA] at h g;obtain⟨g1,g2,g3⟩:=g;rcases h with q | q | q | q | q | q | q | q | q | q
 .exact absurd q g1
 .exact absurd q g2
 .exact absurd q g3
 .exact .inl q
 .exact .inr (.inl q)
 .exact .inr (.inr (.inl q))
 .exact .inr (.inr (.inr q))
 .exact absurd q g1
 .exact absurd q g3
 .exact .inl q
theorem GH {w:Af}(h:w = "most" \/ w = "not" \/ w = "one" \/ w = "nil"):∃ (j:Nat) (n:Nat),j<4/\(∀ z,(uU.map V.str)[j]?=some z->oS z (.str w)=true)/\(∀ (m:Nat) z,m<j->(uU.map V.str)[m]?=some z->oS z (.str w)=false) /\
  nT (xK.map V.int) (j:Int)=some (.int n)/\ArOk w n:=by
 have go:∀ (j:Nat) (n:Nat),j<4->uU[j]?=some w->nT (xK.map V.int) (j:Int)=some (.int n)->(∀ m,m<j->∀ y,uU[m]?=some y->¬ y=w)->ArOk w n->∃ (j:Nat) (n:Nat),j<4/\(∀ z,(uU.map V.str)[j]?=some z->oS z (.str w)=true)/\(∀ (m:Nat) z,m<j->(uU.map V.str)[m]?=some z->oS z (.str w)=false) /\
   nT (xK.map V.int) (j:Int)=some (.int n)/\ArOk w n:=by
  intro j n k hw i q s;refine⟨j,n,k,λz c=>?_,λm z d c=>?_,i,s⟩
  .rw[bC,hw] at c;cases c;show (w == w)=true;exact gO w
  .rw[bC] at c;cases e:uU[m]? with
   | none=>rw[e] at c;cases c
   | some y =>
    rw[e] at c;cases c;show (y == w)=false;exact cO.mpr (q m d y e)
 have t:∀ {a b:Nat},a<b->b<=4->a=0\/a=1\/a=2\/a=3:=λu v=>by omega
 rcases h with rfl | rfl | rfl | rfl
 .exact go 0 3 (by decide) rfl rfl (λm d=>absurd d (Nat.not_lt_zero _)) ⟨.inr (.inl ⟨rfl,rfl⟩)⟩
 .refine go 1 1 (by decide) rfl rfl (λm d y f=>?_) ⟨.inr (.inr (.inl ⟨rfl,rfl⟩))⟩;obtain rfl:m=0:=by omega
  cases f;decide +kernel
 .refine go 2 0 (by decide) rfl rfl (λm d y f=>?_) ⟨.inr (.inr (.inr (.inl ⟨rfl,rfl⟩)))⟩;rcases (show m=0\/m=1 by omega) with rfl | rfl<;>(cases f;decide +kernel)
 .refine go 3 0 (by decide) rfl rfl (λm d y f=>?_) ⟨.inr (.inr (.inr (.inr ⟨rfl,rfl⟩)))⟩;rcases (show m=0\/m=1\/m=2 by omega) with rfl | rfl | rfl<;>(cases f;decide +kernel)
def R5:Sp:=λh H Q _=>∃ (d c kn:Ad) (b:Aa Af),h=[.ref d,.ref kn]/\DeckAt H d c/\H kn=some (.l (b.map V.str))/\kn≠d/\kn≠c/\b.length<=100 /\
 ∀ (t q:Ad) (f:Af) (e:Aa Af) (a:Hp),H t=none->H q=none->a t=some (.t [.str f,.ref q])->a q=some (.t (e.map V.str))->ArOk f e.length->(∀ p∈e,p∈b)->DeckAt a d c->mG d c H a->Q (.ref t) a
section
variable {P:Ah}{K:lL}
theorem xU:FnScope ["deck","known","word","many","parts","k","at"] ["deck","known"] (mI Fo):=⟨rfl,rfl,rfl,by decide +kernel,rfl,by decide +kernel,by decide +kernel⟩
theorem ET (F:Fun K "_law_gate" "_law_gate" Fo f fd) (T:Txt mg) (gT:Gd K mg "_law_take" sZ ["deck","many"] fT av):FnOk P w K mg base nR 2 f fd ["deck","known"] R5:=by
 have GT:FnOk P w K mg base nR 1 fT av ["deck","many"] Dv:=Fd gT.F T;refine F.ok xU (λvs H Q E h=>?_) (λa2 A ax s H vs Q E hr h=>?_)
 .obtain⟨d,c,kn,B,rfl,_⟩:=h;rfl
 .obtain⟨d,c,kn,B,rfl,D,ag,ab,aa,a4,k⟩:=h;have hu:=hr.units;refine xF (λN H1=>∃ M,N=[some (.ref d),some (.ref kn),some (.str M),none,none,none,none]/\M∈Fm/\DeckAt H1 d c/\mG d c H H1) (λu v=>?_) ?_
  .refine⟨_,@oQ _ _ 2 _ _ _ _ xU.nd rfl (Or.inl rfl) (@oZ _ _ _ _ _ _ _ qQ (@pQ _ _ _ _ (@xO _ [("and",_,_),("or",_,_),("odd",_,_),("most",_,_),("not",_,_),("one",_,_),("nil",_,_),("and",_,_),("odd",_,_),("most",_,_)])) (sL GT hr rfl gT.m gT.k gT.b .nil rE (mA (pv 0) (mA mT mJ))) (λ_ _=>rfl)) (by rfl) (.inl rfl),?_⟩;refine⟨(by show 10<=sizeLine;decide),λp np=>⟨_,rfl,d,c,10,rfl,D.new np,by decide,by decide,λr H1 a0 a1 D1 k1=>?_⟩⟩;have G:=D.ned np;have h1:=k1 p _ lR G.1 G.2;obtain⟨M,O,hw⟩:=Gs (xs:=Fm) a0 (by exact a1);exact⟨p,_,_,.str M,rfl,rfl,lO.of h1,O,v _ _ ⟨M,rfl,hw,D1,(mG.new np).trans k1⟩⟩
  rintro N H1 ⟨M,rfl,hw,D1,k1⟩;refine xF (λN H2=>∃ n:Int,N=[some (.ref d),some (.ref kn),some (.str M),some (.int n),none,none,none]/\DeckAt H2 d c/\mG d c H H2) (λu v=>?_) ?_
  .refine⟨_,@oQ _ _ 3 _ _ _ _ xU.nd rfl (Or.inl rfl) (@oZ _ _ _ _ _ _ _ qQ (@pQ _ _ _ _ (@Ef _ [(2,_,_),(2,_,_),(2,_,_),(3,_,_),(1,_,_),(0,_,_),(0,_,_),(3,_,_),(3,_,_),(3,_,_)])) (sL GT hr rfl gT.m gT.k gT.b .nil rE (mA (pv 0) (mA mT mJ))) (λ_ _=>rfl)) (by rfl) (.inl rfl),?_⟩;refine⟨(by show 10<=sizeLine;decide),λp np=>⟨_,rfl,d,c,10,rfl,D1.new np,by decide,by decide,λr H2 a0 a1 D2 k2=>?_⟩⟩;have G:=D1.ned np;have h2:=k2 p _ lR G.1 G.2;obtain⟨j,rfl⟩:=dP a0;have hj:j<([2,2,2,3,1,0,0,3,3,3]:Aa Int).length:=by show j<10;omega
   have O:nT (([2,2,2,3,1,0,0,3,3,3]:Aa Int).map V.int) ((j:Nat):Int)=some (V.int ([2,2,2,3,1,0,0,3,3,3]:Aa Int)[j]):=pJ (by rw[bC,aQ hj];rfl);exact⟨p,_,_,_,rfl,rfl,lO.of h2,O,v _ _ ⟨_,rfl,D2,k1.trans ((mG.new np).trans k2)⟩⟩
  rintro N H2 ⟨n0,rfl,D2,k2⟩;refine xF (λN H3=>∃ n:Nat,N=[some (.ref d),some (.ref kn),some (.str M),some (.int n),none,none,none]/\ArOk M n/\n<=3/\DeckAt H3 d c/\mG d c H H3) (λu v=>?_) ?_
  .refine⟨_,zI (vR Sq (pv 2) (@pQ _ _ _ _ (@xO _ [("and",_,_),("or",_,_),("odd",_,_)])) rfl) (qJ (@oQ _ _ 3 _ _ _ _ xU.nd rfl (Or.inl rfl) (@oZ _ _ _ _ _ _ _ qQ (@pQ _ _ _ _ (@Ef _ [(2,_,_),(3,_,_)])) (mQ rF (pv 3) mT) (λ_ _=>rfl)) (by rfl) (.inl rfl))) (qJ (@oQ _ _ 3 _ _ _ _ xU.nd rfl (Or.inl rfl) (@oZ _ _ _ _ _ _ _ qQ (@pQ _ _ _ _ (@Ef _ [(3,_,_),(1,_,_),(0,_,_),(0,_,_)])) (zC bF PySem.F.slot_list_index PySem.F.type_list_index ID (@pQ _ _ _ _ (@xO _ [("most",_,_),("not",_,_),("one",_,_),("nil",_,_)])) (mA (pv 2) mJ)) (λ_ _=>rfl)) (by rfl) (.inl rfl))),?_⟩;refine⟨_,rfl,(by show 3<=sizeLine;decide),λp np=>⟨p,vS.map V.str,rfl,.inl (lO.of lR),rfl,L4 _,_,rfl,?_⟩⟩;have D3:=D2.new (o:=.l (vS.map V.str)) np;have k3:=k2.trans (mG.new (d:=d) (c:=c) (o:=.l (vS.map V.str)) np);rw[Nh];refine zA (λhk=>?_) (λhk=>?_)
   .have U:M∈vS:=cW hk;refine⟨(by show 2<=sizeLine;decide),λX L=>⟨_,rfl,_,_,rfl,rfl,(by show (0:Int)<2;decide),?_⟩⟩;have b0:=dU n0 (show (2:Int)≠0 by decide);have b1:=dF n0 (show (0:Int)<2 by decide);have C:=D3.new (o:=.l [V.int 2,V.int 3]) L;have J:=k3.trans (mG.new (d:=d) (c:=c) (o:=.l [V.int 2,V.int 3]) L);rcases (show n0%2=0\/n0%2=1 by omega) with e | e
    .exact⟨X,_,_,.int 2,rfl,rfl,lO.of lR,by rw[e];rfl,v _ _ ⟨2,rfl,⟨.inl ⟨U,.inl rfl⟩⟩,by decide,C,J⟩⟩
    .exact⟨X,_,_,.int 3,rfl,rfl,lO.of lR,by rw[e];rfl,v _ _ ⟨3,rfl,⟨.inl ⟨U,.inr rfl⟩⟩,by decide,C,J⟩⟩
   .have U:M∉vS:=λz=>hk (cB z)
    obtain⟨j,n,hj,i1,i2,O,ho⟩:=GH (DG hw U);refine⟨(by show 4<=sizeLine;decide),λX L=>⟨(by show 4<=sizeLine;decide),λp3 an=>⟨.inl ⟨rfl,_,lO.of lR⟩,_,rfl,?_⟩⟩⟩;have C:=(D3.new (o:=.l (xK.map V.int)) L).new (o:=.l (uU.map V.str)) an;have J:=(k3.trans (mG.new (d:=d) (c:=c) (o:=.l (xK.map V.int)) L)).trans (mG.new (d:=d) (c:=c) (o:=.l (uU.map V.str)) an);refine⟨p3,uU.map V.str,.str M,j,rfl,rfl,lO.of lR,L4 _,rfl,hj,i1,i2,?_⟩;have h2:upd (upd (upd H2 p (.l (vS.map V.str))) X (.l (xK.map V.int))) p3 (.l (uU.map V.str)) X=some (.l (xK.map V.int)):=by rw[lS (mR lR an)];exact lR
    refine⟨X,xK.map V.int,_,.int n,rfl,rfl,lO.of h2,O,v _ _ ⟨n,rfl,ho,?_,C,J⟩⟩;rcases ho.ok with⟨_,q | q⟩ | ⟨_,q⟩ | ⟨_,q⟩ | ⟨_,q⟩ | ⟨_,q⟩<;>omega
  rintro N H3 ⟨n,rfl,ho,hn,D3,k3⟩;have ae:=k3 kn _ ag ab aa;refine xF (λN H4=>∃ a:Nat,N=[some (.ref d),some (.ref kn),some (.str M),some (.int n),none,none,none]/\0<B.length/\DeckAt H4 d c/\mG d c H H4) (λu v=>?_) ?_
  .refine⟨_,zI (vR (Ik hu) (pv 1) (pQ mJ) (wD _)) (qJ (wZ (xD (mA (oZ qQ (pQ (mA uZ (mA uZ mJ))) (mQ rF (pv 3) mT) (λ_ _=>rfl)) (mA (xD mJ) mJ))))) Bu,?_⟩;refine⟨_,rfl,(by show 0<=sizeLine;decide),λp np=>?_⟩;have C:=D3.new (o:=.l []) np;have J:=k3.trans (mG.new (d:=d) (c:=c) (o:=.l []) np);have aq:upd H3 p (.l []) kn=some (.l (B.map V.str)):=by rw[lS (mR ae np)];exact ae
   refine⟨kn,p,_,rfl,rfl,lO.of aq,lO.of lR,_,rfl,?_⟩;refine zA (λhe=>?_) (λhe=>v _ _ ⟨0,rfl,?_,C,J⟩)
   .refine⟨(by show 2<=sizeLine;decide),λX L=>⟨_,rfl,_,_,rfl,rfl,(by show (0:Int)<2;decide),?_⟩⟩;have b0:=dU (n:Int) (show (2:Int)≠0 by decide);have b1:=dF (n:Int) (show (0:Int)<2 by decide);have D5:=C.new (o:=.l [V.str (Str.ofString "one"),V.str (Str.ofString "nil")]) L;have k5:=J.trans (mG.new (d:=d) (c:=c) (o:=.l [V.str (Str.ofString "one"),V.str (Str.ofString "nil")]) L);have fin:∀ w2:Af,ArOk w2 0->∀ q,upd (upd H3 p (.l [])) X (.l [V.str (Str.ofString "one"),V.str (Str.ofString "nil")]) q=none ->
      ∀ t,upd (upd (upd H3 p (.l [])) X (.l [V.str (Str.ofString "one"),V.str (Str.ofString "nil")])) q (.t []) t=none ->
      Q (.ref t) (upd (upd (upd (upd H3 p (.l [])) X (.l [V.str (Str.ofString "one"),V.str (Str.ofString "nil")])) q (.t [])) t (.t [.str w2,.ref q])):=by
     intro w2 aw q W t R;have D6:=D5.new (o:=.t []) W;have k6:=k5.trans (mG.new (d:=d) (c:=c) (o:=.t []) W);have Z:=D5.ned W;have g:=D6.ned R;exact k t q w2 [] _ (k6.free g.1 g.2 R) (k5.free Z.1 Z.2 W) lR (by rw[lS (mR lR R)];exact lR) aw (λp hp=>nomatch hp) (D6.new R) (k6.trans (mG.new R))
    rcases (show (n:Int)%2=0\/(n:Int)%2=1 by omega) with e | e
    .refine⟨X,_,_,.str "one",rfl,rfl,lO.of lR,by rw[e];rfl,(by show 0<=sizeLine;decide),λq W=>⟨(by show 2<=sizeLine;decide),λt R=>?_⟩⟩;exact fin "one" ⟨.inr (.inr (.inr (.inl ⟨rfl,rfl⟩)))⟩ q W t R
    .refine⟨X,_,_,.str "nil",rfl,rfl,lO.of lR,by rw[e];rfl,(by show 0<=sizeLine;decide),λq W=>⟨(by show 2<=sizeLine;decide),λt R=>?_⟩⟩;exact fin "nil" ⟨.inr (.inr (.inr (.inr ⟨rfl,rfl⟩)))⟩ q W t R
   .cases B with
    | nil=>simp at he
    | cons a r=>simp
  rintro N H4 ⟨_,rfl,a3,C,J⟩;refine⟨_,pD (oQ (i:=4) xU.nd rfl (Or.inl rfl) (pQ mJ)) (pD (Bt gA rfl (Aj rfl T.range (mA (pv 3) mJ)) (sD (i:=5) xU.nd rfl (Or.inl rfl)) (pD (oQ (i:=6) xU.nd rfl (Or.inl rfl) (oZ qQ (pQ (mA (sL GT hr rfl gT.m gT.k gT.b .nil rE (mA (pv 0) (mA (uG yA (by rfl) T.len cC (mA (pv 1) mJ)) mJ))) (mA (mQ vM (mQ vM (uG yA (by rfl) T.len cC (mA (pv 1) mJ)) mT) (sL GT hr rfl gT.m gT.k gT.b .nil rE (mA (pv 0) (mA (uG (Rx rfl) (by rfl) T.min iB (mA mT (mA (uG yA (by rfl) T.len cC (mA (pv 1) mJ)) mJ))) mJ)))) mJ))) (sL GT hr rfl gT.m gT.k gT.b .nil rE (mA (pv 0) (mA mT mJ))) (λ_ _=>rfl))) (qJ (Ju (zC bF bO bP rA (pv 4) (mA (oZ qQ (pv 1) (pv 6) (λ_ _=>rfl)) mJ)))))) (qJ (wZ (xD (mA (pv 2) (mA (K9 rL (by rfl) T.tuple bQ (mA (pv 4) mJ)) mJ)))))),?_⟩;refine⟨(by show 0<=sizeLine;decide),λl nl=>?_⟩;have ak:=C.ned nl;have ao:H l=none:=J.free ak.1 ak.2 nl;have lk:l≠kn:=(mR ag ao).symm;refine⟨_,rfl,_,rfl,by omega,by omega,?_⟩;rw[cF];refine J9 (lo:=0) (n:=n) (λi N I=>∃ (S:Aa Af) (v5 v6:Ab V),N=[some (.ref d),some (.ref kn),some (.str M),some (.int n),some (.ref l),v5,v6]/\S.length=i/\(∀ p∈S,p∈B)/\I l=some (.l (S.map V.str))/\DeckAt I d c/\mG d c H I)
   ⟨[],none,none,rfl,rfl,(λp hp=>nomatch hp),lR,C.new nl,J.trans (mG.new nl)⟩ ?_ ?_
  .rintro i N I hi ⟨S,v5,v6,rfl,ah,aj,h5,D5,k5⟩;have Y:=k5 kn _ ag ab aa;have ai:(if ((B.map V.str).length:Int)<4 then ((B.map V.str).length:Int) else 4)=(if (B.length:Int)<4 then (B.length:Int) else 4):=by rw[aA]
   refine⟨_,rfl,_,rfl,kn,_,rfl,.inl (lO.of Y),d,c,_,rfl,D5,by rw[aA];omega,by rw[aA];omega,λr1 H6 a0 a1 D6 k6=>?_⟩;have af:=k6 kn _ Y ab aa;refine⟨_,rfl,kn,_,rfl,.inl (lO.of af),_,_,rfl,rfl,_,rfl,_,rfl,kn,_,rfl,.inl (lO.of af),_,_,rfl,d,c,_,rfl,D6,?_,?_,λr2 H7 b0 b1 D7 k7=>?_⟩
   .rw[ai];split<;>omega
   .rw[ai];split<;>omega
   have az:r2<B.length:=by
    rw[ai] at b1;split at b1<;>omega
   refine⟨_,_,rfl,rfl,(by show 2<=sizeLine;decide),λp np=>?_⟩;have D8:=D7.new (o:=.l [V.int r1,V.int (((B.map V.str).length:Int)-1-r2)]) np;refine⟨_,rfl,d,c,2,rfl,D8,by decide,by decide,λr3 H9 c0 c1 D9 k9=>?_⟩;have G:=D7.ned np;have h9:=k9 p _ lR G.1 G.2;have k8:mG d c I H9:=((k6.trans k7).trans (mG.new np)).trans k9;have ar:=k8 kn _ Y ab aa;have ac:l≠d/\l≠c:=ak;have au:=k8 l _ h5 ac.1 ac.2;rw[aA] at a1;have fin:∀ a:Int,0<=a->a<B.length->∃ x,nT (B.map V.str) a=some (V.str x)/\x∈B:=λa g0 g1=>Gs g0 g1
   have go:∀ a:Int,0<=a->a<B.length->nT [V.int r1,V.int (((B.map V.str).length:Int)-1-r2)] r3=some (V.int a)->Fq K (.ref p) (.int r3) H9 λx H1=>vY 6 x [some (.ref d),some (.ref kn),some (.str M),some (.int n),some (.ref l),some (.int (0+i)),v6] H1 λay H' =>
     (Oj (Ir K "list" Jl (oY 4) (Cq (Bn (Fq K) (oY 1) (oY 6)) Hu))) { nx:=λN I=>∃ (S:Aa Af) (v5 v6:Ab V),N=[some (.ref d),some (.ref kn),some (.str M),some (.int n),some (.ref l),v5,v6]/\S.length=i+1/\(∀ p∈S,p∈B)/\I l=some (.l (S.map V.str))/\DeckAt I d c/\mG d c H I,rt:=Q } ay H':=by
    intro a g0 g1 O;obtain⟨x,hx,hm⟩:=fin a g0 g1;refine⟨p,_,_,.int a,rfl,rfl,lO.of h9,O,_,rfl,.inl ⟨rfl,_,lO.of au⟩,_,rfl,_,rfl,kn,_,_,.str x,rfl,rfl,lO.of ar,hx,l,_,.str x,rfl,rfl,au,?_,S++[x],_,_,rfl,by simp[ah],?_,?_,D9.upd_other ac.1 ac.2,?_⟩
    .rw[aA];exact bD (show S.length<1000 by omega) (by decide)
    .intro y hy;rcases aV.mp hy with q | q
     .exact aj y q
     .rw[aZ.mp q];exact hm
    .rw[lR];simp
    .exact λb o e g1 g2=>by rw[lS (mR e ao)];exact (k5.trans k8) b o e g1 g2
   rcases (show r3=0\/r3=1 by omega) with e | e
   .exact go r1 a0 a1 (by rw[e];rfl)
   .exact go (((B.map V.str).length:Int)-1-r2) (by rw[aA];omega) (by rw[aA];omega) (by rw[e];rfl)
  .rintro N I ⟨S,v5,v6,rfl,ah,aj,h5,D5,k5⟩;refine⟨_,rfl,_,rfl,l,_,rfl,.inl ⟨lO.of h5,λq W=>⟨(by show 2<=sizeLine;decide),λt R=>?_⟩⟩⟩;have Z:=D5.ned W;have D6:=D5.new (o:=.t (S.map V.str)) W;have k6:=k5.trans (mG.new (d:=d) (c:=c) (o:=.t (S.map V.str)) W);have g:=D6.ned R;exact k t q M S _ (k6.free g.1 g.2 R) (k5.free Z.1 Z.2 W) lR (by rw[lS (mR lR R)];exact lR) (by rw[ah];exact ho) aj (D6.new R) (k6.trans (mG.new R))
end
structure Cel where
 ins:List Str
 gates:List (Str×Str×List Str)
 outs:List Str
def Cel.names (C:Cel):Aa Af:=C.ins++C.gates.map (·.1)
def JY (H:Hp) (a:Ad) (g:Af×Af×Aa Af):Prop:=∃ q,H a=some (.t [.str g.1,.str g.2.1,.ref q])/\H q=some (.t (g.2.2.map V.str))
abbrev PB (H:Hp):Aa Ad->Aa (Af×Af×Aa Af)->Prop:=Paired (JY H)
def nC:Aa Af->Aa (Af×Af×Aa Af)->Prop
 | _,[]=>True
 | kn,g::r=>ArOk g.2.1 g.2.2.length/\(∀ p∈g.2.2,p∈kn)/\nC (kn++[g.1]) r
theorem nC.snoc:∀ {j:Aa (Af×Af×Aa Af)}{kn:Aa Af}{g:Af×Af×Aa Af},nC kn j->ArOk g.2.1 g.2.2.length->(∀ p∈g.2.2,p∈kn++j.map (·.1))->nC kn (j++[g])
 | [],kn,g,_,b,c=>⟨b,by simpa using c,True.intro⟩
 | a::r,kn,g,h,b,c=>⟨h.1,h.2.1,nC.snoc h.2.2 b (by simpa using c)⟩
structure Good (C:Cel):Prop where
 nd:C.names.Nodup
 nm:∀ x∈C.names,GoodName x
 gt:nC C.ins C.gates
 os:∀ o∈C.outs,o∈C.names
 ond:C.outs.Nodup
 li:C.ins.length<=6
 lg:C.gates.length<=24
 lo:C.outs.length<=6
def wX:RD:=λa b e=>∃ (d c:Ad) (m:Int),a=[d,c]/\b=[.r (.ref d),.int m]/\0<m/\m<4611686018427387904/\∀ r:Nat,(r:Int)<m->e (.v (.int r))
def Hf:RD:=λb e f=>∃ (d c:Ad) (m:Nat),b=[d,c]/\e=[.r (.ref d),.int m]/\m<=40/\∀ a:Aa Af,a.length=m->a.Nodup->(∀ x∈a,GoodName x)->f (.o (.l (a.map D.str)))
def Ra:RD:=λf h i=>∃ (d c:Ad) (a:Aa Af),f=[d,c]/\h=[.r (.ref d),.l (a.map D.str)]/\a.length<=100/\∀ (e:Af) (b:Aa Af),ArOk e b.length->(∀ p∈b,p∈a)->i (.v (.t [.str e,.t (b.map D.str)]))
theorem Fc (h:Dk [d,c] H):DeckAt H d c:=by
 rcases h with h | ⟨b,a,e,h⟩
 .cases h
 .cases e;exact h
theorem Kg (k:mG d c H g):A4 [d,c] H g:=λb o e n=>k b o e (λz=>n (by simp[z])) (λz=>n (by simp[z]))
theorem FQ (D:DeckAt H d c) (h:H l=none):l∉[d,c]:=λz=>by
 have:=D.ned h;rcases aI.mp z with q | q
 .exact this.1 q
 .exact this.2 (by simpa using q)
section
variable {P:Ah}{K:lL}
theorem EZ (F:FnOk P w K g base nR k f fd j Dv):FnOk P w K g base nR k f fd j (wR K wX):=F.imp λN H Q E y=>by
 obtain⟨G,A,L,O,e,M,r,⟨d,c,m,s,t,u,v,h⟩,x⟩:=y;subst s t;cases r with
 | cons B r =>
  cases r with
  | cons D r =>
   cases r;have:=B.raw_inv;have:=D.int_inv;subst_vars;refine⟨d,c,m,rfl,Fc e,u,v,λr q a b i z=>?_⟩;obtain⟨n,rfl⟩:=dP a;exact x _ _ q (h n b) (Kg z) (.inr ⟨d,c,rfl,i⟩) (.int _)
theorem Ye (F:FnOk P w K g base nR k f fd j Om):FnOk P w K g base nR k f fd j (wR K Hf):=F.imp λR H Q E z=>by
 obtain⟨M,A,N,S,a,O,r,⟨d,c,m,t,u,x,h⟩,y⟩:=z;subst t u;cases r with
 | cons G r =>
  cases r with
  | cons L r =>
   cases r;have:=G.raw_inv;have:=L.int_inv;subst_vars;exact⟨d,c,m,rfl,Fc a,x,λl n s i b e D v q B=>y _ _ s (h n e D v) (Kg B) (.inr ⟨d,c,rfl,q⟩) ⟨l,rfl,i,FQ (Fc a) i,_,b,Gw n⟩⟩
theorem AT (F:FnOk P w K j base nR k f fd g R5):FnOk P w K j base nR k f fd g (wR K Ra):=F.imp λo H Q E O=>by
 obtain⟨X,A,Y,p,a,B,r,⟨d,c,e,s,u,v,b⟩,M⟩:=O;subst s u;cases r with
 | cons S r =>
  cases r with
  | cons V r =>
   cases r;have:=S.raw_inv;subst this;obtain⟨kn,l,rfl,D,G,W⟩:=V.lst_inv;have:=Jw (F5 e) W;subst this;have h:=B kn D;refine⟨d,c,kn,e,rfl,Fc a,G,λz=>h (by simp[z]),λz=>h (by simp[z]),v,λt q i g n Z N x y ok L m R=>M _ _ n (b i g ok L) (Kg R) (.inr ⟨d,c,rfl,m⟩) ?_⟩;exact .t x (.cons (.str i) (.cons (.t y (Gw g)) .nil))
end
theorem Fu (f:j->D) (g:Aa j) (k:Nat):rD (g.map f) none (some (k:Int))=(g.take k).map f:=by
 unfold rD;rw[aA,HT.sIx_none,HT.sIx_nat,jN,Nat.sub_zero,List.map_take];by_cases h:k<=g.length
 .rw[Nat.min_eq_left h]
 .rw[Nat.min_eq_right (by omega),bI (by simp),bI (by simp;omega)]
theorem Lp (f:j->D) (g:Aa j) (k:Nat):rD (g.map f) (some (k:Int)) none=(g.drop k).map f:=by
 unfold rD;rw[aA,HT.sIx_nat,HT.sIx_none,List.map_drop,bI (by simp)];by_cases h:k<=g.length
 .rw[Nat.min_eq_left h]
 .rw[Nat.min_eq_right (by omega),List.drop_eq_nil_of_le (by simp),List.drop_eq_nil_of_le (by simp;omega)]
noncomputable def nS (g:Af×Af×Aa Af):D:=.t [.str g.1,.str g.2.1,.t (g.2.2.map D.str)]
def tK (C:Cel):D:=.t [.t (C.ins.map D.str),.t (C.gates.map nS),.t (C.outs.map D.str)]
def qB (p:Af×Af):D:=.t [.str p.1,.str p.2]
def At (C:Cel) (al:Aa (Af×Af)):D:=.t [tK C,.t (al.map qB)]
structure GoodRow (C:Cel) (al:List (Str×Str)):Prop where
 good:Good C
 og:∀ o∈C.outs,o∈C.gates.map (·.1)
 n1:(al.map (·.1)).Nodup
 n2:(al.map (·.2)).Nodup
 mem:∀ p∈al,p.1∈C.outs/\p.2∈C.ins
 la:al.length<=4
def Pg:RD:=λe f h=>∃ (d c:Ad) (a b m:Nat),e=[d,c]/\f=[.r (.ref d),.int a,.int b,.int m]/\a<=6/\b<=24/\m<=4/\∀ C al,GoodRow C al->h (.v (At C al))
theorem lP (I:Aa Sl->Prop) (o:∀ N:Aa Sl->Prop,(∀ g,I g->N g)->t l { j with nx:=N } r) (p:∀ g,I g->u l j g):K2 t u l j r:=o _ p
theorem rG (p:Aa D) (l:Aa Sl) (r:∀ J:Aa D->Aa Sl->Prop,J p l->ι I ρ J) (Pv:Nat->Aa Sl->Prop) (T:Pv 0 l)
  (U:∀ (i:Nat) d j,p[i]?=some d->Pv i j->g d j λC=>tb I { nx:=Pv (i+1),ct:=Pv (i+1),bk:=o.nx,rt:=o.rt } C) (hd:∀ j,Pv p.length j->o.nx j):Iv ι g tb I o ρ:=r _ ⟨Pv,T,U,hd⟩
theorem sU {j:Type}{f:j->D}{g:Aa j}{i:Nat}{d:D}(h:(g.map f)[i]?=some d):∃ y,g[i]?=some y/\f y=d:=by
 rw[bC] at h;cases e:g[i]? with
 | none=>rw[e] at h;cases h
 | some y=>rw[e] at h;exact⟨y,rfl,bN h⟩
theorem Fs {lo:Int}(h:(qH lo n)[i]?=some d):i<n/\d = .int (lo+i):=by
 unfold qH at h;rw[bC] at h;cases e:(List.range n)[i]? with
 | none=>rw[e] at h;cases h
 | some y =>
  rw[e] at h;obtain⟨a,b⟩:=aU.mp e;rw[dB] at a;rw[jC] at b;subst b;exact⟨a,(bN h).symm⟩
theorem Md:∀ {l:Aa g}{n:Nat}{y:g},l[n]?=some y->l.Perm (y::l.eraseIdx n)
 | a::l,0,y,h=>by simp at h;subst h;exact .refl _
 | a::l,n+1,y,h=>by
  have:=Md (l:=l) (n:=n) (y:=y) (by simpa using h);rw[jJ];exact (this.cons a).trans (.swap y a _)
theorem Jr (j:left[n]?=some y) (l:(g++left).Nodup):((g++[y])++left.eraseIdx n).Nodup/\(∀ z,z∈(g++[y])++left.eraseIdx n->z∈g++left)/\(left.eraseIdx n).length+1=left.length:=by
 obtain⟨a,c⟩:=aU.mp j;have p:(g++left).Perm ((g++[y])++left.eraseIdx n):=by
  have q:left.Perm (y::left.eraseIdx n):=Md j;rw[bM];exact q.append_left g
 refine⟨p.nodup_iff.mp l,λz b=>p.mem_iff.mpr b,?_⟩;rw[List.length_eraseIdx_of_lt a];omega
theorem Lz (f:g->j):∀ (l:Aa g) (n:Nat),(l.map f).eraseIdx n=(l.eraseIdx n).map f
 | [],_=>by simp
 | a::l,0=>rfl
 | a::l,n+1=>by rw[aP,jJ,jJ,aP,Lz f l n]
theorem G9 {n k:Nat}(h:k<n):seqIndex? (k:Int) n=some k:=by
 unfold seqIndex?;have:¬ ((k:Int)<0):=by omega
 simp[this,h]
section
variable {P:Ah}{K:lL}
theorem nU {P:Aa Af}(a:j.kind = .function:=by rfl) (b:j.isCoroutine=false:=by rfl) (c:j.isGenerator=false:=by rfl) (d:N.Nodup:=by decide +kernel) (e:N.take P.length=P:=by rfl) (f:∀ x∈P,j.names.lookup x=some .local\/j.names.lookup x=some .cell:=by decide +kernel) (g:∀ y∈j.names,y.2 ≠ .free:=by decide +kernel):L2.FnScope N P j:=⟨a,b,c,d,e,f,g⟩
theorem sE:FnScope ["deck","inputs","gates","most","many","count","names","known","rows","name","left","outputs","k","outs","ins","along"] ["deck","inputs","gates","most"] (mI Ei):=nU
theorem NE (T:Txt mg) (g:Kn P w K mg base 1 "_law_take" sZ ["deck","many"] wX) (C:Kn P w K mg base 3 "_law_names" Bi ["deck","many"] Hf) (I:Kn P w K mg base 2 "_law_gate" Fo ["deck","known"] Ra) :
  nZ P w K mg base 4 "_law_row" Ei ["deck","inputs","gates","most"] Pg:=by
 refine oI sE λf ar A ao s H E dk ds Φ Y hu hR=>?_
 obtain⟨d,c,a,b,m,rfl,rfl,ha,hb,hm,an⟩:=hR;refine⟨_,(lM (lV 4 sE.nd (lU g Y (aD (dT 0) (aD (qY oG oE 1 lN) gV)))) (lM (lV 5 sE.nd (lU g Y (aD (dT 0) (aD (qY oG oE 2 lN) gV)))) (lM (lV 6 sE.nd (lU C Y (aD (dT 0) (aD (qY oG oE 4 (dT 5)) gV)))) (lM (lV 7 sE.nd (xJ yO xL (pv 6) yE (xN (dT 4)))) (lM (lV 8 sE.nd (oJ gV)) (lM (qV (mW (xJ yO xL (pv 6) (xN (dT 4)) yE)) (lX 9 sE.nd) (lM (pW (pS bF bO bP rA sA (pv 8) (aD (nG oG oE (mZ (aD (dT 9) gV)) (lU I Y (aD (dT 0) (aD (dT 7) gV)))) gV))) (mL (lV 7 sE.nd (qY oG oE 7 (oJ (aD (dT 9) gV))))))) (lM (lV 10 sE.nd (xJ yO xL (pv 6) (xN (dT 4)) yE)) (lM (lV 11 sE.nd (oJ gV)) (lM (qV (Aq (by rfl) T.range (pH (Mb rfl) Ks T.min iB (aD (lU g Y (aD (dT 0) (aD lN gV))) (aD (pH sO sJ T.len cC (tN (pv 10) gV)) gV)))) (lX 12 sE.nd) (mL (pW (pS bF bO bP rA sA (pv 11) (aD (pS bF fU fV Dm Fk (pv 10) (aD (lU g Y (aD (dT 0) (aD (pH sO sJ T.len cC (tN (pv 10) gV)) gV))) gV)) gV))))) (lM (lV 13 sE.nd (nE Lb L8 T.list jO (tN (pv 11) gV))) (lM (lV 14 sE.nd (xJ yO xL (pv 6) yE (xN (dT 4)))) (lM (lV 15 sE.nd (oJ gV)) (lM (qV (Aq (by rfl) T.range (pH (Mb rfl) Ks T.min iB (aD (lU g Y (aD (dT 0) (aD (qY oG oE 3 lN) gV))) (aD (pH sO sJ T.len cC (tN (pv 13) gV)) (aD (pH sO sJ T.len cC (tN (pv 14) gV)) gV))))) (lX 12 sE.nd) (mL (pW (pS bF bO bP rA sA (pv 15) (aD (mZ (aD (pS bF fU fV Dm Fk (pv 13) (aD (lU g Y (aD (dT 0) (aD (pH sO sJ T.len cC (tN (pv 13) gV)) gV))) gV)) (aD (pS bF fU fV Dm Fk (pv 14) (aD (lU g Y (aD (dT 0) (aD (pH sO sJ T.len cC (tN (pv 14) gV)) gV))) gV)) gV))) gV))))) (mL (nA (mZ (aD (mZ (aD (nE rL rV T.tuple bQ (aD (xJ yO xL (pv 6) yE (xN (dT 4))) gV)) (aD (nE rL rV T.tuple bQ (tN (pv 8) gV)) (aD (nE rL rV T.tuple bQ (tN (pv 11) gV)) gV)))) (aD (nE rL rV T.tuple bQ (tN (pv 15) gV)) gV)))))))))))))))))),?_⟩;refine⟨rfl,d,c,_,rfl,rfl,by omega,by omega,λk h1=>⟨.inl rfl,?_⟩⟩;refine⟨rfl,d,c,_,rfl,rfl,by omega,by omega,λZ h2=>⟨.inl rfl,?_⟩⟩;refine⟨rfl,d,c,k+Z,rfl,rfl,by omega,λu lx nd gn=>⟨.inl rfl,?_⟩⟩;refine⟨rfl,by decide,?_⟩;dsimp only;refine lP (λB=>∃ (e:Aa (Af×Af×Aa Af)) (s7 V:Sl),B=[.v (.r (.ref d)),.v (.int a),.v (.int b),.v (.int m),.v (.int k),.v (.int Z),.o (.l (u.map D.str)),s7,.o (.l (e.map nS)),V,.n,.n,.n,.n,.n,.n] /\ e.map (·.1)=u.drop k/\nC (u.take k) e) (λN hN=>?_) ?_
 .refine rG ((u.drop k).map D.str) [.v (.r (.ref d)),.v (.int a),.v (.int b),.v (.int m),.v (.int k),.v (.int Z),.o (.l (u.map D.str)),.o (.l ((u.take k).map D.str)),.o (.l []),.n,.n,.n,.n,.n,.n,.n] (λΨ h=>?_)
   (λi B=>∃ (e:Aa (Af×Af×Aa Af)) (V:Sl),B=[.v (.r (.ref d)),.v (.int a),.v (.int b),.v (.int m),.v (.int k),.v (.int Z),.o (.l (u.map D.str)),.o (.l ((u.take k++e.map (·.1)).map D.str)),.o (.l (e.map nS)),V,.n,.n,.n,.n,.n,.n] /\ e.map (·.1)=(u.drop k).take i/\nC (u.take k) e) ⟨[],.n,by simp,by simp,trivial⟩ ?_ ?_
  .rw[<- Fu,<- Lp] at h;exact⟨rfl,h⟩
  .rintro i x B W ⟨e,V,rfl,O,ok⟩;obtain⟨y,hy,rfl⟩:=sU W;have ah:e.length<=40:=by have:=bY List.length O;simp only[aA,bZ,dY] at this;omega
   refine⟨rfl,(by show 1<=1000;decide),d,c,u.take k++e.map (·.1),rfl,rfl,by simp;omega,λwd ps ak hp=>⟨.inl rfl,(by show 1+2<=100000;decide),(by show (e.map nS).length<100000;simp;omega),rfl,(by show 1<=1000;decide),(by show ((u.take k++e.map (·.1)).map D.str).length+1<=100000;simp;omega),e++[(y,wd,ps)],.v (.str y),?_,?_,ok.snoc ak hp⟩⟩
   .simp[nS]
   .rw[aR,O,cL,hy];rfl
  .rintro B ⟨e,V,rfl,O,ok⟩;rw[aA,bI (aW _)] at O;exact hN _ ⟨e,_,V,rfl,O,ok⟩
 rintro B ⟨e,s7,V,rfl,O,ok⟩;have ah:e.length=Z:=by have:=bY List.length O;simp only[aA,dY] at this;omega
 have ag:(e.map (·.1)).Nodup:=by rw[O];exact nd.sublist (List.drop_sublist _ _)
 refine⟨rfl,by decide,?_⟩;dsimp only;refine lP (λB=>∃ (os:Aa Af) (U t:Sl),B=[.v (.r (.ref d)),.v (.int a),.v (.int b),.v (.int m),.v (.int k),.v (.int Z),.o (.l (u.map D.str)),s7,.o (.l (e.map nS)),V,U,.o (.l (os.map D.str)),t,.n,.n,.n] /\ os.Nodup/\(∀ o∈os,o∈e.map (·.1))/\os.length<=6) (λN hN=>?_) ?_
 .refine⟨d,c,7,rfl,rfl,by decide,by decide,λk7 aj=>⟨.inl rfl,rfl,rfl,_,rfl,λq hq q1 q2=>?_⟩⟩;have J:q<=((rD (u.map D.str) (some (k:Int)) none).length:Nat):=q2;rw[Lp,<- O] at J |-;simp only[aA] at J;obtain⟨q,rfl⟩:∃ n:Nat,q=n:=⟨q.toNat,by rcases hq with z | z<;>omega⟩;obtain⟨G0,X⟩:∃ G0:Aa Af,G0=e.map (·.1):=⟨_,rfl⟩;refine⟨by omega,by omega,λi B=>∃ (os left:Aa Af) (t:Sl),B=[.v (.r (.ref d)),.v (.int a),.v (.int b),.v (.int m),.v (.int k),.v (.int Z),.o (.l (u.map D.str)),s7,.o (.l (e.map nS)),V,.o (.l (left.map D.str)),.o (.l (os.map D.str)),t,.n,.n,.n] /\
   (os++left).Nodup/\(∀ o∈os++left,o∈G0)/\os.length=i/\left.length+i=e.length,⟨[],G0,.n,by rw[X];rfl,by rw[X];exact ag,λo F=>F,rfl,by rw[X];simp⟩,?_,?_⟩
  .rintro i x B W ⟨os,left,t,rfl,M,L,ol,ll⟩;obtain⟨hi,rfl⟩:=Fs W;rw[cF] at hi;refine⟨rfl,rfl,rfl,rfl,_,rfl,d,c,_,rfl,rfl,(by show (0:Int)<((left.map D.str).length:Nat);simp;omega),(by show ((left.map D.str).length:Int)<4611686018427387904;simp;omega),λj hj=>⟨.inr rfl,?_⟩⟩;have Q:j<left.length:=by have:(j:Int)<((left.map D.str).length:Nat):=hj;simp at this;omega
   obtain⟨y,hy⟩:∃ y,left[j]?=some y:=⟨_,aQ Q⟩;obtain⟨p1,p2,p3⟩:=Jr hy M;refine⟨j,.str y,by omega,by omega,(by show seqIndex? _ (left.map D.str).length=_;rw[aA];exact G9 Q),(by show (left.map D.str)[j]?=_;rw[bC,hy];rfl),(by show (os.map D.str).length<100000;simp;omega),os++[y],left.eraseIdx j,.v (.int (0+(i:Int))),?_,p1,λo F=>L o (p2 o F),by simp[ol],by omega⟩;simp[Lz]
  .rintro B ⟨os,left,t,rfl,M,L,ol,ll⟩;exact hN _ ⟨os,_,t,rfl,(bB.mp M).1,λo F=>by have:=L o (aL _ F);rw[X] at this;exact this,by rw[ol];simp[qH];omega⟩
 rintro B ⟨os,U,t,rfl,M,L,ol⟩;refine⟨rfl,_,rfl,rfl,by decide,?_⟩;dsimp only;have aq:(u.take k).Nodup:=nd.sublist (List.take_sublist _ _);have tl:(u.take k).length=k:=by simp;omega
 refine lP (λB=>∃ (al:Aa (Af×Af)) (t ae af:Sl),B=[.v (.r (.ref d)),.v (.int a),.v (.int b),.v (.int m),.v (.int k),.v (.int Z),.o (.l (u.map D.str)),s7,.o (.l (e.map nS)),V,U,.o (.l (os.map D.str)),t,ae,af,.o (.l (al.map qB))] /\ (al.map λp=>p.1).Nodup/\(al.map λp=>p.2).Nodup/\(∀ p∈al,p.1∈os/\p.2∈u.take k)/\al.length<=4) (λN hN=>?_) ?_
 .refine⟨rfl,d,c,_,rfl,rfl,by omega,by omega,λk7 aj=>⟨.inl rfl,rfl,rfl,_,rfl,rfl,rfl,_,rfl,λq hq q1 q2 q3=>?_⟩⟩;have ac:q<=((rD (u.map D.str) none (some (k:Int))).length:Nat):=q3;have J:q<=((os.map D.str).length:Nat):=q2;rw[Fu] at ac |-;rw[aA] at ac J;obtain⟨q,rfl⟩:∃ n:Nat,q=n:=⟨q.toNat,by rcases hq with z | z | z<;>omega⟩;refine⟨by omega,by omega,λi B=>∃ (al:Aa (Af×Af)) (ol G:Aa Af) (t:Sl),B=[.v (.r (.ref d)),.v (.int a),.v (.int b),.v (.int m),.v (.int k),.v (.int Z),.o (.l (u.map D.str)),s7,.o (.l (e.map nS)),V,U,.o (.l (os.map D.str)),t,.o (.l (ol.map D.str)),.o (.l (G.map D.str)),.o (.l (al.map qB))] /\
   ((al.map λp=>p.1)++ol).Nodup/\((al.map λp=>p.2)++G).Nodup/\(∀ o∈(al.map λp=>p.1)++ol,o∈os)/\(∀ o∈(al.map λp=>p.2)++G,o∈u.take k)/\al.length=i/\ol.length+i=os.length/\G.length+i=(u.take k).length,
   ⟨[],os,u.take k,_,rfl,M,aq,λo F=>F,λo F=>F,rfl,by simp,by simp⟩,?_,?_⟩
  .rintro i x B W ⟨al,ol,G,t,rfl,R,S,m1,m2,la,lo,li⟩;obtain⟨hi,rfl⟩:=Fs W;rw[cF] at hi;refine⟨rfl,rfl,rfl,rfl,_,rfl,d,c,_,rfl,rfl,(by show (0:Int)<((ol.map D.str).length:Nat);simp;omega),(by show ((ol.map D.str).length:Int)<4611686018427387904;simp;omega),λj hj=>⟨.inr rfl,?_⟩⟩;have Q:j<ol.length:=by have:(j:Int)<((ol.map D.str).length:Nat):=hj;simp at this;omega
   obtain⟨y,hy⟩:∃ y,ol[j]?=some y:=⟨_,aQ Q⟩;obtain⟨p1,p2,p3⟩:=Jr hy R;refine⟨j,.str y,by omega,by omega,(by show seqIndex? _ (ol.map D.str).length=_;rw[aA];exact G9 Q),(by show (ol.map D.str)[j]?=_;rw[bC,hy];rfl),?_⟩;refine⟨rfl,rfl,rfl,_,rfl,d,c,_,rfl,rfl,(by show (0:Int)<((G.map D.str).length:Nat);simp;omega),(by show ((G.map D.str).length:Int)<4611686018427387904;simp;omega),λj2 ai=>⟨.inr rfl,?_⟩⟩;have aa:j2<G.length:=by have:(j2:Int)<((G.map D.str).length:Nat):=ai;simp at this;omega
   obtain⟨y2,ab⟩:∃ y,G[j2]?=some y:=⟨_,aQ aa⟩;obtain⟨p4,p5,p6⟩:=Jr ab S;refine⟨j2,.str y2,by omega,by omega,(by show seqIndex? _ (G.map D.str).length=_;rw[aA];exact G9 aa),(by show (G.map D.str)[j2]?=_;rw[bC,ab];rfl),(by show 2<=1000;decide),(by show (al.map qB).length<100000;simp;omega),al++[(y,y2)],ol.eraseIdx j,G.eraseIdx j2,.v (.int (0+(i:Int))),?_,by simpa using p1,by simpa using p4,λo F=>m1 o (p2 o (by simpa using F)),λo F=>m2 o (p5 o (by simpa using F)),by simp[la],by omega,by omega⟩;simp[qB,Lz]
  .rintro B ⟨al,ol,G,t,rfl,R,S,m1,m2,la,lo,li⟩;refine hN _ ⟨al,_,_,_,rfl,(bB.mp R).1,(bB.mp S).1,λp hp=>⟨m1 _ (aL _ (aE.mpr ⟨p,hp,rfl⟩)),m2 _ (aL _ (aE.mpr ⟨p,hp,rfl⟩))⟩,?_⟩;rw[la];simp[qH];omega
 rintro B ⟨al,t,ae,af,rfl,R,S,am,la⟩;have fin:=an ⟨u.take k,e,os⟩ al ⟨⟨?_,?_,ok,λo F=>?_,M,?_,?_,ol⟩,L,R,S,am,la⟩
 .unfold At tK at fin;dsimp only at fin;rw[<- Fu] at fin;exact⟨rfl,rfl,rfl,(by show 3<=1000;decide),rfl,(by show 2<=1000;decide),fin⟩
 .show (u.take k++e.map (·.1)).Nodup;rw[O,eD];exact nd
 .intro x W;have W:x∈u.take k++e.map (·.1):=W;rw[O,eD] at W;exact gn x W
 .exact aJ _ (L o F)
 .show (u.take k).length<=6;omega
 .show e.length<=24;omega
end
end Lw
namespace L2
open PySem PySem.Spec PyProof.Rows Lw
section
variable {X:Cx}{K:lL}
def Le (K:lL) (neg:Bool):R2:=λx y H Q=>J6 neg x y H Q\/Mq K neg x y H Q
theorem wL (g:X.A.units+64<cLine):mO X (compareOp .Eq) (Le X.K false):=(show mO X (compareOp .Eq) (J6 false) from Ff).or (Ik g)
theorem I3 (g:X.A.units+64<cLine):mO X (compareOp .NotEq) (Le X.K true):=(show mO X (compareOp .NotEq) (J6 true) from AY).or (OI g)
def Tk (neg:Bool):O2:=λd e a=>match d,e with
 | .int i,.int j=>a (.v (.b (nb neg (decide (i=j)))))
 | .str i,.str j=>a (.v (.b (nb neg (decide (i=j)))))
 | .b i,.b j=>a (.v (.b (nb neg (decide (i=j)))))
 | .e,.int _=>a (.v (.b (nb neg false)))
 | .l c,.l []=>a (.v (.b (nb neg c.isEmpty)))
 | _,_=>False
theorem uE (neg:Bool):oU K (Le K neg) (Tk neg):=by
 intro B L H d e x y A Q hd h m f k;cases d<;>first | exact False.elim f | skip<;>cases e<;>first | exact False.elim f | skip
 .cases h;cases m
  rename_i j
  have c:decide (V.e=V.int j)=false:=by simp
  exact .inl ⟨rfl,by rw[c];exact k _ _ H f (hd.pushF (.b _))⟩
 .cases h;cases m
  rename_i i j
  have c:decide (V.b i=V.b j)=decide (i=j):=by simp
  exact .inl ⟨rfl,by rw[c];exact k _ _ H f (hd.pushF (.b _))⟩
 .cases h;cases m
  rename_i i j
  have c:decide (V.int i=V.int j)=decide (i=j):=by simp
  exact .inl ⟨rfl,by rw[c];exact k _ _ H f (hd.pushF (.b _))⟩
 .cases h;cases m
  rename_i i j
  have c:decide (V.str i=V.str j)=decide (i=j):=by simp
  exact .inl ⟨rfl,by rw[c];exact k _ _ H f (hd.pushF (.b _))⟩
 .rename_i v w
  cases w with
  | cons _ _=>exact False.elim f
  | nil =>
  obtain⟨a,n,rfl,q,t⟩:=h.lst_inv;obtain⟨b,z,rfl,s,u⟩:=m.lst_inv;cases u;have c:v.isEmpty=n.isEmpty:=by cases t<;>rfl
  refine .inr ⟨a,b,n,rfl,rfl,lO.of q,lO.of s,?_⟩;rw[<- c];exact k _ _ H f (hd.pushF (.b _))
end
end L2
namespace Lw
open PySem L2
theorem Cc:∀ {gs:yT}{kn:Aa Af}{i:Nat}{g:Af×Af×Aa Af},nC kn gs->gs[i]?=some g->ArOk g.2.1 g.2.2.length/\∀ p∈g.2.2,p∈kn++(gs.take i).map (·.1)
 | a::r,kn,0,g,h,e=>by
  simp at e;subst e;exact⟨h.1,by simpa using h.2.1⟩
 | a::r,kn,i+1,g,h,e=>by
  obtain⟨b,c⟩:=Cc (gs:=r) (i:=i) h.2.2 (by simpa using e);exact⟨b,λp d=>by have:=c p d;simpa using this⟩
def Iw:RD:=λf b h=>∃ (d c:Ad) (a:Aa D),f=[d,c]/\(b=[.r (.ref d),.l a]\/b=[.r (.ref d),.t a])/\a.length<=1000/\∀ e,e.Perm a->h (.v (.l e))
def yB (z:Af):Aa Af:=(Txt.split z " ").filter λx=>nb true (decide (x = ""))
def Mv:RD:=λc a b=>∃ z:Af,a=[.str z]/\z.length<=1000/\(Txt.split z " ").length<=1000/\b (.o (.l ((yB z).map D.str)))
structure Kit where
 ins:Str
 gates:List Str
 outs:Str
 pairs:Str
 nums:Str
noncomputable def rZ (k:Kit):D:=.t [.str k.ins,.l (k.gates.map D.str),.str k.outs,.str k.pairs,.str k.nums]
noncomputable def oN:Aa Kit:=[⟨"a b c",[("s " : Af) ++ "odd a b c",("t " : Af) ++ "most a b c"],"s t","t c","a 1 b 1 s -1 c 1"⟩,⟨"a b c",["n not a","s odd a b c","t most n b c"],"s t","t c","a 1 b -1 s -1 c -1"⟩,⟨"a c",["s odd a c","t and a c"],"s t","t c","a 1 s -1 c 1"⟩,⟨"a c",["s and c c","t and a a"],"s t","t c","a 2 s -1 c 1"⟩,⟨"a",["s not a"],"s","","a 1 s 1 - -1"⟩,⟨"a b c",[("s " : Af) ++ "odd a b c",("t " : Af) ++ "most a b c"],"s t","","a 1 b 1 c 1 s -1 t -2"⟩,⟨"a c d",["s odd a d c","t most a d c","e and a a"],"s t e","t c e d","a 3 s -1 c 1 d 1"⟩,⟨"a b x c d",["s odd a b c","t most a b c","z odd s x d","u most s x d"],"z t u","t c u d","a 1 b 1 x 1 z -1 c 1 d 1"⟩,⟨"a",["s nil","t or a s"],"s t","","s 5 a -2 t 2"⟩,⟨"a b",["s and a b","t or a b"],"s t","","a 1 b 1 s -1 t -1"⟩]
def tO:D:=.t [.str "odd a b c",.str "most a b c"]
def Nu:RD:=λa b e=>∃ d c:Ad,a=[d,c]/\b=[.r (.ref d)]/\∀ k∈oN,e (.v (rZ k))
theorem GU:(["word"]:Aa Af).Nodup:=by decide +kernel
section
variable {P:Ah}{K:lL}
theorem Mm:FnScope ["deck","some","left","found"] ["deck","some"] (mI Ec):=nU
theorem AD (T:Txt p) (g:Kn P w K p base 1 "_law_take" sZ ["deck","many"] wX) :
  nZ P w K p base 2 "_law_shuffled" Ec ["deck","some"] Iw:=by
 refine oI (hlen:=λM B V ⟨_,_,_,_,e,_⟩=>by rcases e with e | e<;>(rw[e];rfl)) Mm λf L A z s H E M B V F X O=>?_
 obtain⟨d,c,i,rfl,e,W,u⟩:=O;obtain⟨x,rfl,S⟩:∃ x,B=[.r (.ref d),x]/\(x = .l i\/x = .t i):=by
  rcases e with e | e
  .exact⟨_,e,.inl rfl⟩
  .exact⟨_,e,.inr rfl⟩
 refine⟨_,(lM (lV 2 Mm.nd (nE Lb L8 T.list jO (aD (dT 1) gV))) (lM (lV 3 Mm.nd (oJ gV)) (lM (EB gA (tY (I3 F.units) (uE true) (pv 2) (oJ gV)) (mL (pW (pS bF bO bP rA sA (pv 3) (aD (pS bF fU fV Dm Fk (pv 2) (aD (lU g F (aD (dT 0) (aD (pH sO sJ T.len cC (tN (pv 2) gV)) gV))) gV)) gV))))) (mL (nA (dT 3)))))),?_⟩;refine lP (λb=>b=[.v (.r (.ref d)),.v x,.o (.l i),.n]) (λN m=>?_) ?_
 .rcases S with rfl | rfl
  .exact⟨_,rfl,m _ rfl⟩
  .exact⟨_,rfl,m _ rfl⟩
 rintro _ rfl;refine⟨by show 0<=1000;decide,?_⟩;dsimp only;refine lP (λb=>∃ (q:Aa D),b=[.v (.r (.ref d)),.v x,.o (.l []),.o (.l q)]/\q.Perm i) (λN m=>?_) ?_
 .refine⟨λb=>∃ left found:Aa D,b=[.v (.r (.ref d)),.v x,.o (.l left),.o (.l found)]/\(found++left).Perm i,λ(b:Aa Sl)=>match b[2]? with | some (Sl.o (D.l l))=>l.length | _=>0,⟨i,[],rfl,.refl _⟩,?_⟩;rintro b ⟨left,found,rfl,k⟩;have h:=k.length_eq;rw[bK] at h;refine⟨rfl,by show 0<=1000;decide,?_⟩;cases left with
  | nil=>exact m _ ⟨found,rfl,by simpa using k⟩
  | cons x left =>
   rw[bS] at h;refine⟨rfl,rfl,rfl,rfl,_,rfl,d,c,_,rfl,rfl,by show (0:Int)<((x::left).length:Nat);simp only[bS];omega,by show ((x::left).length:Int)<4611686018427387904;simp only[bS];omega,λj Q=>⟨.inr rfl,?_⟩⟩;have a:j<(x::left).length:=by have:(j:Int)<((x::left).length:Nat):=Q;omega
   obtain⟨y,G⟩:∃ y,(x::left)[j]?=some y:=⟨_,aQ a⟩;have R:=List.length_eraseIdx_of_lt a;refine⟨j,y,by simp only[bS] at a;omega,by simp only[bS] at a;omega,G9 a,G,by show found.length<100000;omega,⟨(x::left).eraseIdx j,found++[y],rfl,?_⟩,?_⟩
   .rw[bM];exact ((Md G).symm.append_left found).trans k
   .show ((x::left).eraseIdx j).length<(x::left).length;omega
 .rintro b ⟨q,rfl,k⟩;exact u q k
theorem NO:FnScope ["text"] ["text"] (mI Ew):=nU
theorem FA (T:Txt g):nZ P w K g base 1 "_law_words" Ew ["text"] Mv:=by
 refine oI NO λf c A b s H E B G O u M n=>?_
 obtain⟨z,rfl,L,t,a⟩:=n;refine⟨_,(mL (nA (nJ ["word"] [] [] (mW (MO PySem.F.plainAttrs_str gY PySem.F.type_str_split FY DC (pv 0) (aD lY gV))) (λ_ _ _ _ _=>(lX 0 GU)) (λ_ _ _ _ _=>(dT 0)) (ht:=λ_ _ _ _ _=>(A5 (tY (I3 u.units) (uE true) (pv 0) lY)))))),?_⟩;refine zE (Txt.split z " ") D.str D.str (λx=>nb true (decide (x = ""))) [.v (.str z)] (λQ h=>⟨rfl,by decide,by omega,h⟩) ?_ (λi x N y e d k m=>⟨rfl,?_⟩) a
 .omega
 .show if (nb true (decide (x = "")))=true then _ else _
  cases q:decide (x = "") with
  | true=>exact m (by rw[q];rfl)
  | false=>exact⟨d,k (by rw[q];rfl)⟩
theorem Ee:FnScope ["deck","adder","some","more"] ["deck"] (mI Ge):=nU
theorem CW (T:Txt j) (g:Kn P w K j base 1 "_law_take" sZ ["deck","many"] wX) :
  nZ P w K j base 2 "_law_kit" Ge ["deck"] Nu:=by
 refine oI Ee λf t A m s H E z B D x e u=>?_
 obtain⟨d,c,rfl,rfl,i⟩:=u;refine⟨_,(lM (lV 1 Ee.nd (mZ (aD lY (aD lY gV)))) (lM (lV 2 Ee.nd (oJ (aD (mZ (aD lY (aD (oJ (aD (nG oG oE lY (lT e 1 lN)) (aD (nG oG oE lY (lT e 1 lN)) gV))) (aD lY (aD lY (aD lY gV)))))) gV))) (lM (pW (pS bF bO bP rA sA (pv 2) (aD (mZ (aD lY (aD (oJ (aD lY (aD lY (aD lY gV)))) (aD lY (aD lY (aD lY gV)))))) gV))) (lM (pW (pS bF bO bP rA sA (pv 2) (aD (mZ (aD lY (aD (oJ (aD lY (aD lY gV))) (aD lY (aD lY (aD lY gV)))))) gV))) (lM (pW (pS bF bO bP rA sA (pv 2) (aD (mZ (aD lY (aD (oJ (aD lY (aD lY gV))) (aD lY (aD lY (aD lY gV)))))) gV))) (lM (pW (pS bF bO bP rA sA (pv 2) (aD (mZ (aD lY (aD (oJ (aD lY gV)) (aD lY (aD lY (aD lY gV)))))) gV))) (lM (pW (pS bF bO bP rA sA (pv 2) (aD (mZ (aD lY (aD (oJ (aD (nG oG oE lY (lT e 1 lN)) (aD (nG oG oE lY (lT e 1 lN)) gV))) (aD lY (aD lY (aD lY gV)))))) gV))) (lM (lV 3 Ee.nd (oJ (aD lY (aD lY (aD lY gV))))) (lM (pW (pS bF bO bP rA sA (pv 2) (aD (mZ (aD lY (aD (dT 3) (aD lY (aD lY (aD lY gV)))))) gV))) (lM (lV 3 Ee.nd (oJ (aD lY (aD lY (aD lY (aD lY gV)))))) (lM (pW (pS bF bO bP rA sA (pv 2) (aD (mZ (aD lY (aD (dT 3) (aD lY (aD lY (aD lY gV)))))) gV))) (lM (pW (pS bF bO bP rA sA (pv 2) (aD (mZ (aD lY (aD (oJ (aD lY (aD lY gV))) (aD lY (aD lY (aD lY gV)))))) gV))) (lM (pW (pS bF bO bP rA sA (pv 2) (aD (mZ (aD lY (aD (oJ (aD lY (aD lY gV))) (aD lY (aD lY (aD lY gV)))))) gV))) (mL (nA (lT e 2 (lU g x (aD (dT 0) (aD lN gV))))))))))))))))))),?_⟩;refine lP (λb=>b=[.v (.r (.ref d)),.v tO,.n,.n]) (λN a=>⟨(by show 2<=1000;decide),a _ rfl⟩) ?_;rintro _ rfl;refine lP (λb=>b=[.v (.r (.ref d)),.v tO,.o (.l ((oN.take 1).map rZ)),.n]) (λN a=>⟨rfl,_,rfl,(by decide +kernel),rfl,_,rfl,(by decide +kernel),(by show 2<=1000;decide),(by show 5<=1000;decide),(by show 1<=1000;decide),a _ rfl⟩) ?_;rintro _ rfl;refine lP (λb=>b=[.v (.r (.ref d)),.v tO,.o (.l ((oN.take 2).map rZ)),.n]) (λN a=>⟨rfl,(by show 3<=1000;decide),(by show 5<=1000;decide),(by show 1<100000;decide),a _ rfl⟩) ?_;rintro _ rfl;refine lP (λb=>b=[.v (.r (.ref d)),.v tO,.o (.l ((oN.take 3).map rZ)),.n]) (λN a=>⟨rfl,(by show 2<=1000;decide),(by show 5<=1000;decide),(by show 2<100000;decide),a _ rfl⟩) ?_;rintro _ rfl;refine lP (λb=>b=[.v (.r (.ref d)),.v tO,.o (.l ((oN.take 4).map rZ)),.n]) (λN a=>⟨rfl,(by show 2<=1000;decide),(by show 5<=1000;decide),(by show 3<100000;decide),a _ rfl⟩) ?_;rintro _ rfl;refine lP (λb=>b=[.v (.r (.ref d)),.v tO,.o (.l ((oN.take 5).map rZ)),.n]) (λN a=>⟨rfl,(by show 1<=1000;decide),(by show 5<=1000;decide),(by show 4<100000;decide),a _ rfl⟩) ?_;rintro _ rfl;refine lP (λb=>b=[.v (.r (.ref d)),.v tO,.o (.l ((oN.take 6).map rZ)),.n]) (λN a=>⟨rfl,rfl,_,rfl,(by decide +kernel),rfl,_,rfl,(by decide +kernel),(by show 2<=1000;decide),(by show 5<=1000;decide),(by show 5<100000;decide),a _ rfl⟩) ?_;rintro _ rfl;refine lP (λb=>b=[.v (.r (.ref d)),.v tO,.o (.l ((oN.take 6).map rZ)),.o (.l [.str "s odd a d c",.str "t most a d c",.str "e and a a"])]) (λN a=>⟨(by show 3<=1000;decide),a _ rfl⟩) ?_;rintro _ rfl;refine lP (λb=>b=[.v (.r (.ref d)),.v tO,.o (.l ((oN.take 7).map rZ)),.v (.l [.str "s odd a d c",.str "t most a d c",.str "e and a a"])]) (λN a=>⟨rfl,(by show 5<=1000;decide),(by show 6<100000;decide),a _ rfl⟩) ?_;rintro _ rfl;refine lP (λb=>b=[.v (.r (.ref d)),.v tO,.o (.l ((oN.take 7).map rZ)),.o (.l [.str "s odd a b c",.str "t most a b c",.str "z odd s x d",.str "u most s x d"])]) (λN a=>⟨(by show 4<=1000;decide),a _ rfl⟩) ?_;rintro _ rfl;refine lP (λb=>b=[.v (.r (.ref d)),.v tO,.o (.l ((oN.take 8).map rZ)),.v (.l [.str "s odd a b c",.str "t most a b c",.str "z odd s x d",.str "u most s x d"])]) (λN a=>⟨rfl,(by show 5<=1000;decide),(by show 7<100000;decide),a _ rfl⟩) ?_;rintro _ rfl;refine lP (λb=>b=[.v (.r (.ref d)),.v tO,.o (.l ((oN.take 9).map rZ)),.v (.l [.str "s odd a b c",.str "t most a b c",.str "z odd s x d",.str "u most s x d"])]) (λN a=>⟨rfl,(by show 2<=1000;decide),(by show 5<=1000;decide),(by show 8<100000;decide),a _ rfl⟩) ?_;rintro _ rfl;refine lP (λb=>b=[.v (.r (.ref d)),.v tO,.o (.l ((oN.take 10).map rZ)),.v (.l [.str "s odd a b c",.str "t most a b c",.str "z odd s x d",.str "u most s x d"])]) (λN a=>⟨rfl,(by show 2<=1000;decide),(by show 5<=1000;decide),(by show 9<100000;decide),a _ rfl⟩) ?_;rintro _ rfl;refine⟨rfl,d,c,10,rfl,rfl,by decide,by decide,λr y=>⟨.inl rfl,?_⟩⟩;have h:r<10:=by omega
 obtain⟨k,q⟩:∃ k,oN[r]?=some k:=⟨_,aQ (by show r<10;exact h)⟩;refine⟨rZ k,?_,i k (aO q)⟩;exact pJ (by rw[bC,bI (by decide),q];rfl)
end
def mE (l:Aa Af):Af×Af×Aa Af:=(l.headD "",(l.drop 1).headD "",l.drop 2)
def Lk (w:Af) (n:Nat):Bool:=(decide (w∈vS)&&(n == 2||n == 3))||((w == "most")&&(n == 3))||((w == "not")&&(n == 1))||((w == "one")&&(n == 0))||((w == "nil")&&(n == 0))
theorem IX (h:Lk w n=true):ArOk w n:=by
 unfold Lk at h;simp only[lI,cN,eV,iG] at h;rcases h with (((h | h) | h) | h) | h
 .exact⟨.inl h⟩
 .exact⟨.inr (.inl h)⟩
 .exact⟨.inr (.inr (.inl h))⟩
 .exact⟨.inr (.inr (.inr (.inl h)))⟩
 .exact⟨.inr (.inr (.inr (.inr h)))⟩
def Eu:Aa Af->yT->Bool
 | _,[]=>true
 | kn,g::r=>Lk g.2.1 g.2.2.length&&(g.2.2.all (λp=>decide (p∈kn))&&Eu (kn++[g.1]) r)
theorem Nf:∀ {j:yT}{kn:Aa Af},Eu kn j=true->nC kn j
 | [],_,_=>trivial
 | g::r,kn,h=>by
  unfold Eu at h;simp only[cN,cG,eV] at h;exact⟨IX h.1,h.2.1,Nf h.2.2⟩
theorem nC.more:∀ {l:yT}{kn j:Aa Af},(∀ x∈kn,x∈j)->nC kn l->nC j l
 | [],_,_,_,_=>trivial
 | g::r,kn,j,h,ok=>⟨ok.1,λp a=>h p (ok.2.1 p a),nC.more (λx b=>by
  rcases aV.mp b with q | q
  .exact aL _ (h x q)
  .exact aJ _ q) ok.2.2⟩
noncomputable def ren (f:Af->Af) (g:Af×Af×Aa Af):Af×Af×Aa Af:=(f g.1,g.2.1,g.2.2.map f)
theorem nC.ren (f:Af->Af):∀ {j:yT}{kn:Aa Af},nC kn j->nC (kn.map f) (j.map (Lw.ren f))
 | [],_,_=>trivial
 | g::r,kn,ok=>by
  refine⟨by show ArOk g.2.1 (g.2.2.map f).length;rw[aA];exact ok.1,λp a=>?_,?_⟩
  .obtain⟨q,b,rfl⟩:=aE.mp a;exact aE.mpr ⟨q,ok.2.1 q b,rfl⟩
  .have:=nC.ren f ok.2.2;rw[aR] at this;exact this
theorem nC.app:∀ {l j:yT}{kn:Aa Af},nC kn l->nC (kn++l.map (·.1)) j->nC kn (l++j)
 | [],j,kn,_,h=>by simpa using h
 | g::r,j,kn,ok,h=>⟨ok.1,ok.2.1,nC.app ok.2.2 (by simpa using h)⟩
def kI (k:Kit):Aa Af:=yB k.ins
def kO (k:Kit):Aa Af:=yB k.outs
def kP (k:Kit):Aa Af:=yB k.pairs
def kN (k:Kit):Aa Af:=yB k.nums
def kG (k:Kit):Aa (Aa Af):=k.gates.map yB
def kH (k:Kit):Aa Af:=(kG k).map λl=>(mE l).1
def P9 (k:Kit):Bool :=
 (k.ins::k.outs::k.pairs::k.nums::k.gates).all (λz=>decide (z.length<=1000)&&decide ((Txt.split z " ").length<=1000)) &&
 ((kG k).all (λl=>decide (2<=l.length)) && (decide ((kI k++kH k).Nodup) && ((kI k++kH k).all (λx=>decide (x.length=1)&&decide (x ≠ "-")) && (Eu (kI k) ((kG k).map mE) && ((kO k).all (λo=>decide (o∈kH k)) && (decide (kO k).Nodup && (decide ((kP k).length%2=0) && ((mS (kP k)).all (λp=>decide (p.1∈kO k)&&decide (p.2∈kI k)) && (decide ((mS (kP k)).map (·.1)).Nodup && (decide ((mS (kP k)).map (·.2)).Nodup && (decide ((kN k).length%2=0) && ((mS (kN k)).all (λp=>(decide (p.1∈kI k++kH k)||decide (p.1 = "-"))&&((intText? p.2).isSome&&decide (p.2.length<=640))) && (decide ((kI k).length<=5)&&(decide ((kG k).length<=4)&&(decide ((kO k).length<=3)&&(decide ((kP k).length<=8)&&decide ((kN k).length<=100)))))))))))))))))
structure KitOk (k:Kit):Prop where
 tx:∀ z∈k.ins::k.outs::k.pairs::k.nums::k.gates,z.length<=1000/\(Txt.split z " ").length<=1000
 g2:∀ l∈kG k,2<=l.length
 nd:(kI k++kH k).Nodup
 one:∀ x∈kI k++kH k,x.length=1/\x ≠ "-"
 gt:nC (kI k) ((kG k).map mE)
 oh:∀ o∈kO k,o∈kH k
 ond:(kO k).Nodup
 pe:(kP k).length%2=0
 pm:∀ p∈mS (kP k),p.1∈kO k/\p.2∈kI k
 p1:((mS (kP k)).map (·.1)).Nodup
 p2:((mS (kP k)).map (·.2)).Nodup
 ne:(kN k).length%2=0
 nm:∀ p∈mS (kN k),(p.1∈kI k++kH k\/p.1 = "-")/\(intText? p.2).isSome=true/\p.2.length<=640
 li:(kI k).length<=5
 lg:(kG k).length<=4
 lo:(kO k).length<=3
 lp:(kP k).length<=8
 ln:(kN k).length<=100
theorem OD:oN.all P9=true:=by decide +kernel
theorem Bv (h:k∈oN):KitOk k:=by
 have:=cG.mp OD k h;unfold P9 at this;simp only[cN,cG,eV,lI] at this;obtain⟨a,b,c,d,e,f,i,m,n,q,s,t,u,v,w,x,y,z⟩:=this;exact⟨a,b,c,d,Nf e,f,i,m,n,q,s,t,u,v,w,x,y,z⟩
noncomputable def nM (i:Nat):Af:=("i" : Af)++((toString ((0:Int)+(i:Int)):String):Af)
def pG (g:Af) (i:Nat):Aa Af:=if i=0 then [nM 0,g] else [nM i,"not",nM 0]
theorem Dd:∀ i<19,(nM i).length≠1/\nM i ≠ "-" /\ ∀ j<19,nM i=nM j->i=j:=by decide +kernel
theorem Jh (g:Af) (i:Nat):(mE (pG g i)).1=nM i:=by
 unfold pG;split
 .subst_vars;rfl
 .rfl
theorem Z9 (g:Af) (i:Nat):2<=(pG g i).length:=by unfold pG;split<;>simp
theorem Sz {g:Af}(h:g = "one" \/ g = "nil") (kn:Aa Af):∀ n,nC kn (((List.range n).map (pG g)).map mE)
 | 0=>trivial
 | n+1=>by
  rw[kF,aR,aR];refine nC.snoc (Sz h kn n) ?_ ?_
  .by_cases e:n=0
   .subst e;rcases h with rfl | rfl
    .exact⟨.inr (.inr (.inr (.inl ⟨rfl,rfl⟩)))⟩
    .exact⟨.inr (.inr (.inr (.inr ⟨rfl,rfl⟩)))⟩
   .unfold pG;rw[aN e];exact⟨.inr (.inr (.inl ⟨rfl,rfl⟩))⟩
  .intro p a;by_cases e:n=0
   .subst e;simp[mE,pG] at a
   .have b:p=nM 0:=by
     unfold pG at a;rw[aN e] at a
     simpa [mE] using a
    subst b;refine aJ _ ?_;rw[aF,aF];refine aE.mpr ⟨0,eF.mpr (by omega),Jh g 0⟩
def pN (l:Aa Af):D:=.l (l.map D.str)
theorem tH (h:x∈t.map (·.1)):yN (.k (mM t)) (.str x)=some (some (.str (hL t x))):=by
 show some (lW (mM t) (Sum.inr x))=_;rw[(Bk t x).1 h]
theorem Ix {l:Aa Af}(h:2<=l.length):nT (l.map D.str) 0=some (.str (mE l).1)/\nT (l.map D.str) 1=some (.str (mE l).2.1):=by
 match l,h with
 | a::b::r,_ =>
  constructor
  .exact pJ (j:=0) rfl
  .exact pJ (j:=1) rfl
theorem Fa:∀ {l:Aa Af}{g:Aa D},g.Perm (l.map D.str)->∃ j:Aa Af,j.Perm l/\g=j.map D.str:=by
 intro l g h;have key:∀ (g:Aa D),(∀ y∈g,∃ x:Af,y=D.str x)->∃ j:Aa Af,g=j.map D.str:=by
  intro g;induction g with
  | nil=>exact λ_=>⟨[],rfl⟩
  | cons y g c =>
   intro h;obtain⟨x,rfl⟩:=h y aH;obtain⟨j,rfl⟩:=c λz b=>h z (aM _ b)
   exact⟨x::j,rfl⟩
 obtain⟨j,rfl⟩:=key g λy a=>by
  obtain⟨x,_,rfl⟩:=aE.mp (h.mem_iff.mp a);exact⟨x,rfl⟩
 refine⟨j,?_,rfl⟩;have:=h.map (λd=>match d with | D.str x=>x | _=>("" : Af))
 simpa [cI] using this
theorem Pb (h:ys.Perm (xs.map qB)):∃ g:Aa (Af×Af),g.Perm xs/\ys=g.map qB:=by
 have key:∀ (ys:Aa D),(∀ y∈ys,∃ x:Af×Af,y=qB x)->∃ g:Aa (Af×Af),ys=g.map qB:=by
  intro ys;induction ys with
  | nil=>exact λ_=>⟨[],rfl⟩
  | cons y ys c =>
   intro h;obtain⟨x,rfl⟩:=h y aH;obtain⟨g,rfl⟩:=c λz b=>h z (aM _ b)
   exact⟨x::g,rfl⟩
 obtain⟨g,rfl⟩:=key ys λy a=>by
  obtain⟨x,_,rfl⟩:=aE.mp (h.mem_iff.mp a);exact⟨x,rfl⟩
 refine⟨g,?_,rfl⟩;have:=h.map (λd=>match d with | D.t [D.str x,D.str y]=>(x,y) | _=>(("" : Af),("" : Af)))
 simpa [cI,qB] using this
theorem GG (l:Aa g) (d:g) (h:g->j):(List.range l.length).map (λi=>h (l.getD i d))=l.map h:=by
 apply kY;intro i;rw[bC,bC];by_cases a:i<l.length
 .rw[List.getElem?_range a,aQ a];simp[List.getD,aQ a]
 .rw[hZ (by simpa using a),hZ (by omega)];rfl
theorem Xg (f:Nat->D) (n:Nat):rD ((List.range n).map f) (some (-1)) none=if n=0 then [] else [f (n-1)]:=by
 unfold rD;rw[HT.sIx_none,aA,dB];have e:HT.sIx n 0 (some (-1))=n-1:=by
  show (if (-1:Int)<0 then ((-1:Int)+(n:Int)).toNat else min (-1:Int).toNat n)=n-1;rw[aT (by decide)];omega
 rw[e];split
 .subst_vars;rfl
 .obtain⟨m,rfl⟩:∃ m,n=m+1:=⟨n-1,by omega⟩;rw[kF,aR,Nat.add_sub_cancel,List.drop_left' (by simp)];simp
theorem Q2:∀ i<19,((0:Int)+(i:Nat)).natAbs.log2<1920/\("i" : Af).length+((toString ((0:Int)+(i:Nat)):String):Af).length<=100000:=by decide +kernel
theorem yX {n:Nat}{j:Aa Nat}{g:tF}{te:mP}{dk:Aa Ad}{Φ:Sl->Aa Sl->Prop}{α:Type}(U:Aa α) (I T:α->D) (p:Aa Sl) (hl:U.length<=100000)
  (hs:∀ (i:Nat) x (C:Aa D) (Nx:Aa D->Aa Sl->Prop),U[i]?=some x->C.length<100000->Nx (C++[T x]) (oK j p)->g (I x) (List.replicate n Sl.n++oK j p) λaa=>te dk aa λr ab=>match sd r with
   | some c=>C.length<100000/\Nx (C++[c]) (ab.drop n)
   | none=>False)
  (ae:Φ (.o (.l (U.map T))) (pM j (oK j p) p)):∃ Pv:Nat->Aa D->Aa Sl->Prop,Pv 0 [] (oK j p) /\
   (∀ i d C J,(U.map I)[i]?=some d->J.length=j.length->Pv i C J->g d (List.replicate n Sl.n++J) λaa=>Lx dk aa λb ac=>if b=true then te dk ac λr ab=>match sd r with
    | some c=>C.length<100000/\Pv (i+1) (C++[c]) (ab.drop n)
    | none=>False
    else Pv (i+1) C (ac.drop n)) /\
   ∀ C J,J.length=j.length->Pv (U.map I).length C J->Φ (.o (.l C)) (pM j J p) :=
 oM (ι:=λ_ _ a=>a (U.map I) p) (dk:=dk) (ρ:=[]) U I T p (λa h=>h) hl hs ae
end Lw
namespace L2
open PySem PySem.Spec PyProof.Rows Lw
def M0:RM:=λx d H Q=>∃ (a b:Ad) (c more:Aa (hI×V)),x = .ref a/\d=[.ref b]/\a≠b/\H a=some (.k c)/\H b=some (.k more)/\c.length+more.length<=1000/\Q .e (upd H a (.k (pL c more)))
section
variable {X:Cx}{K:lL}
theorem Vc:wN X "dict.update" M0:=by
 intro n s Z H x V v S Q I G E h;obtain⟨a,b,c,more,rfl,rfl,ne,m,B,O,q⟩:=h;cases G;obtain⟨u,rfl,D⟩:=qM E;cases D;obtain⟨W,L,i,t,k⟩:=zO I.hok m;obtain⟨Y,M,f,y,z⟩:=zO I.hok B;have P:c.length=i.length:=fN t;have R:more.length=f.length:=fN y;have d:i.length+f.length<=sizeLine:=cK (show _<=1000 by omega) (by decide);refine call_meetsIn F.slot_dict_update k.typeIs F.entry_dict_update (F.args_dict_update_2 _ _) (meets_dict_update (pC X.prog X.w) a b ne M) ⟨i,f,k,z,d,λA d1 _ sm=>?_⟩;have N:(pL c more).length<=sizeLine:=by
  have:=Bz more c;exact cK (show (pL c more).length<=1000 by omega) (by decide)
 have there:∃ o,A.get? a=some o:=let ⟨o,_,_,e,_⟩:=d1;⟨o,e⟩;exact⟨.e,_,Kf I (by rw[m];exact True.intro) sm there (Bo N L (y.merge t) d1),rfl,q⟩
def FF:OW:=λc d f=>match c,d with
 | .k a,[.k b]=>a.length+b.length<=1000/\f .e (.k (oW a b))
 | _,_=>False
theorem Vz:B2 K M0 FF:=by
 intro A H a c G L M Q w E rd f k;cases c<;>first | exact False.elim f | skip
 cases rd with
 | nil=>exact False.elim f
 | cons B rd =>
 rename_i d _ _ _
 cases d<;>first | exact False.elim f | skip
 cases rd with
 | cons _ _=>exact False.elim f
 | nil =>
 .obtain⟨i,h,e,r⟩:=E
  .obtain⟨b,m,rfl,s,q,n,D⟩:=B.dK_inv;have u:=bY List.length e;have v:=bY List.length n;simp only[aA] at u v;refine⟨a,b,i,m,rfl,rfl,λz=>w (z▸s),h,q,by have:=f.1;omega,k _ _ _ _ f.2 .e λF t=>?_⟩;obtain⟨x,y⟩:=Ca n D e r;exact⟨_,lR,x,y.mono t⟩
end
end L2
namespace PySem
open PyProof.Rows L2
section
variable {s:Ae}
theorem Q7 (calm:A.handled=none) (l:∀ g e,(∀ b o,s.heap.get? b=some o->g.get? b=some o)->(∃ o,g.get? e=some o/\o.cls = .type "StopIteration")->E (.ref e) { s with heap:=g }) :
  wpAny (model j w) A (do raiseNew (<- newExc (.type "StopIteration") [])) Q E s:=by
 have c:firstArgMember (.type "StopIteration") []=pure Value.none:=by first | rfl | (simp only[firstArgMember];rfl)
 have made:wpAny (model j w) A (newExc (.type "StopIteration") []) (λv d=>∃ e g,v = .ref e/\d={ s with heap:=g }/\(∀ b o,s.heap.get? b=some o->g.get? b=some o)/\∃ o,g.get? e=some o/\o.cls = .type "StopIteration") E s:=by
  unfold newExc newTuple;refine aB (eT ?_ (by size_fits));refine aB (gS c ?_);exact eT ⟨_,_,rfl,rfl,λb o z=>aK _ (aK _ z),_,bA _ rfl,rfl⟩ (by size_fits)
 refine aB (cS made (λv d a=>?_) λ_ _ z=>z);obtain⟨e,g,h,f,k,t⟩:=a;subst h f;unfold raiseNew;refine aB (wpAny_handled ?_);rw[calm];exact aB (aG (wpAny_throw (l g e k t)))
theorem Pa (x:s.heap.IsTupleIter g t i):∃ o,s.heap.get? g=some o/\o.data = .fields #[.ref t,.int i 0]/\s.TypeIs (.ref g) "tuple_iterator" /\ o.cls = .type "tuple_iterator" := by
 obtain⟨o,a,b,c⟩:=x;exact⟨o,a,c,⟨o,a,b⟩,b⟩
theorem EN {h:Ag}{g t:Ad}{i:Nat}{o:Obj}(a:h.get? g=some o) (b:o.cls = .type "tuple_iterator") (c:o.data = .fields #[.ref t,.int i 0]):(h.update g (Obj.mapFields (·.setIfInBounds 1 (rawInt ((i:Int)+1))))).IsTupleIter g t (i+1):=by
 refine⟨_,jR _ a (Obj.isFreed_of_fields (jD c _)),?_,?_⟩
 .rw[Obj.cls_mapFields];exact b
 .rw[jD c];simp[rawInt]
end
structure RawD (h:Heap) (d:Addr) (o:Obj) (es:Array DictEntry) (ep:Nat):Prop where
 low:(d == sysModules)=false
 get:h.get? d=some o
 ex:o.ExactDict
 dat:o.data = .dict es ep
section
variable {s:Ae}
theorem RawD.ty (r:RawD s.heap d o j g):s.TypeIs (.ref d) "dict" := ⟨o,r.get,r.ex.1⟩
theorem Vq (r:RawD s.heap d o l j) (q:Q (.ref s.heap.objs.size) { s with heap:=s.heap.push { cls:=.type "dict_keyiterator",data:=.fields #[.ref d,.int 0 0,.int l.size 0,.int j 0] } }) :
  wpAny (model g w) A (pyIter (.ref d)) Q E s:=by
 have fresh:∀ h:Ag,h=s.heap.push { cls:=.type "dict_keyiterator",data:=.fields #[.ref d,rawInt 0,rawInt l.size,rawInt j] }->Shared.TypeIs { s with heap:=h } (.ref s.heap.objs.size) "dict_keyiterator" := λh e=>by
  subst e;exact⟨_,bA _ rfl,rfl⟩
 have body:wpAny (model g w) A.in1 (Builtin.«dict.__iter__» ⟨[.ref d],[]⟩) (λr c=>r = .done (.ret (.ref s.heap.objs.size))/\c={ s with heap:=s.heap.push { cls:=.type "dict_keyiterator",data:=.fields #[.ref d,rawInt 0,rawInt l.size,rawInt j] } }) E s:=by
  have self:wpAny (model g w) A.in1 (Builtin.Dict.dictSlotNone "__iter__" ⟨[.ref d],[]⟩) (λv c=>v = .ref d/\c=s) E s:=aB (jU r.ty (aG ⟨rfl,rfl⟩));refine aB (cS self (λv c a=>?_) λ_ _ z=>z);obtain⟨f,i⟩:=a;subst f i;have b:Builtin.Dict.showsAll d=pure ():=by unfold Builtin.Dict.showsAll;simp[r.low]
  refine aB (gS (show Builtin.Dict.addrOf (.ref d)=pure d from rfl) (aB (gS b ?_)));exact aB (wpAny_dictEntries r.get r.dat (aB (wpAny_dictEpoch r.get r.dat (aB (eT (aG ⟨rfl,rfl⟩))))))
 refine wpAny_pyIter_slot r.ty F.slot_dict_iter (cM F.slot_dict_iter r.ty F.entry_dict_iter (cS body (λv c a=>?_) λ_ _ z=>z) (F.args_dict_iter_1 _));obtain⟨f,i⟩:=a;subst f i;refine⟨_,rfl,"dict_keyiterator",_,fresh _ rfl,eJ.lookup,?_⟩;exact q
theorem T6 (r:RawD s.heap d o j p) (I:s.heap.IsKeyIter g d i j.size p) (J:i<j.size) (q:∀ C,C.IsKeyIter g d (i+1) j.size p->Heap.SameBut g s.heap C->Q (some j[i].key) { s with heap:=C }) :
  wpAny (model l w) A (pyNext (.ref g)) Q E s:=by
 obtain⟨u,f,n,h⟩:=id I;have ty:s.TypeIs (.ref g) "dict_keyiterator" := ⟨u,f,n⟩;have plain:Builtin.Dict_items.ownsTuple "dict_keyiterator" = false:=by decide
 have c:∀ {E:Ac->Ae->Prop} {b:Ae} {k:Nat->Ae->Prop},b.TypeIs (.ref g) "dict_keyiterator" -> k 0 b->wpAny (model l w) A.in1 (do return if Builtin.Dict_items.ownsTuple (<- typeNameOfWhole (.ref g)) then 2 else 0) k E b:=λt z =>
  aB (wpAny_typeNameOfWhole_keyiter t (by rw[plain];exact aG z))
 let e:=s.heap.update g (Obj.mapFields (·.setIfInBounds 1 (rawInt ((i:Int)+1))));have m:e.IsKeyIter g d (i+1) j.size p:=by
  refine⟨_,jR _ f (Obj.isFreed_of_fields (jD h _)),?_,?_⟩
  .rw[Obj.cls_mapFields];exact n
  .rw[jD h];simp[rawInt]
 have body:wpAny (model l w) A.in1 (Builtin.«dict_keyiterator.__next__» ⟨[.ref g],[]⟩) (λx b=>x = .done (.ret j[i].key)/\b={ s with heap:=e }) (λ_ _=>False) s:=by
  refine aB (aG ?_);refine aB (aB (c ty ?_));refine aB (wpAny_fieldsOf f h ?_);have a:¬ ((Value.ref d == Value.none)=true):=bG;show wpAny _ _ (if (Value.ref d == Value.none)=true then _ else _) _ _ s;rw[aN a];refine aB (aG (aB (wpAny_dictEntries r.get r.dat ?_)));rw[aN (by simp)];refine aB (aG (aB (wpAny_dictEpoch r.get r.dat ?_)));rw[aN (by simp)];refine aG ?_;have row:(if (i:Int)<0 then none else j[(i:Int).toNat]?)=some j[i]:=by
   rw[aN (by omega),cF,cR J]
  dsimp only;rw[row];refine aB (c ty ?_);refine aB (wpAny_isOneOf_keyiter ty ?_);change wpAny _ _ (setField (.ref g) 1 (rawInt ((i:Int)+1)) >>= _) _ _ s;refine aB (kW f h (by simp) ?_);refine aB (bX (aB (wpAny_isOneOf_keyiter (s:={ s with heap:=e }) m.typeIs ?_)));exact aG (aG ⟨rfl,rfl⟩)
 unfold pyNext;refine aB (dN (cA (name:=Str.ofString "__next__") ty eJ (cM eJ ty F.entry_dict_keyiterator_next (cS body (λx b ⟨v,y⟩=>?_) λ_ _ z=>z.elim) (F.args_dict_keyiterator_next_1 _))));subst v y;exact⟨_,rfl,aG (q e m (iR ..))⟩
theorem Rw (calm:A.handled=none) (r:RawD s.heap d o p C) (I:s.heap.IsKeyIter l d p.size p.size C) (q:∀ g,Heap.ExtBut l s.heap g->Q none { s with heap:=g }) :
  wpAny (model j w) A (pyNext (.ref l)) Q E s:=by
 obtain⟨u,h,M,m⟩:=id I;have ty:s.TypeIs (.ref l) "dict_keyiterator" := ⟨u,h,M⟩;have plain:Builtin.Dict_items.ownsTuple "dict_keyiterator" = false:=by decide
 have f:∀ {n:Ac->Ae->Prop} {c:Ae} {i:Nat->Ae->Prop},c.TypeIs (.ref l) "dict_keyiterator" -> i 0 c->wpAny (model j w) A.in1 (do return if Builtin.Dict_items.ownsTuple (<- typeNameOfWhole (.ref l)) then 2 else 0) i n c:=λt z =>
  aB (wpAny_typeNameOfWhole_keyiter t (by rw[plain];exact aG z))
 have body:wpAny (model j w) A.in1 (Builtin.«dict_keyiterator.__next__» ⟨[.ref l],[]⟩) (λ_ _=>False) (λv c=>∃ e g,v = .ref e/\c={ s with heap:=g }/\Heap.ExtBut l s.heap g/\∃ o,g.get? e=some o/\o.cls = .type "StopIteration") s:=by
  refine aB (aG ?_);refine aB (aB (f ty ?_));refine aB (wpAny_fieldsOf h m ?_);have a:¬ ((Value.ref d == Value.none)=true):=bG;show wpAny _ _ (if (Value.ref d == Value.none)=true then _ else _) _ _ s;rw[aN a];refine aB (aG (aB (wpAny_dictEntries r.get r.dat ?_)));rw[aN (by simp)];refine aB (aG (aB (wpAny_dictEpoch r.get r.dat ?_)));rw[aN (by simp)];refine aG ?_;have row:(if ((p.size:Nat):Int)<0 then none else p[((p.size:Nat):Int).toNat]?)=none:=by
   rw[aN (by omega),cF,dZ (aW _)]
  dsimp only;rw[row];refine aB (f ty (aB (kW h m (by simp) ?_)));exact Q7 calm λg e k z=>⟨e,g,rfl,rfl,λx o L K=>k x o ((iR ..).extBut x o L K),z⟩
 unfold pyNext;refine aB (dN (cA (name:=Str.ofString "__next__") ty eJ (cM eJ ty F.entry_dict_keyiterator_next (cS body (λ_ _ z=>z.elim) λv c ⟨e,g,y,B,D,o,G,H⟩=>?_) (F.args_dict_keyiterator_next_1 _))));subst y B;exact aB (cU (T := "StopIteration") (b:=true) ⟨o,G,H⟩ jP (aG (q g D)))
end
end PySem
namespace L2
open PySem PySem.Spec PyProof.Rows Lw
structure Sw (H H':Hp) (a:Addr) (kvs:List (List hI×V)):Prop where
 out:∀ b,b≠a->H' b=H b
 l:Rd H a (.T kvs)
 r:Rd H' a (.T kvs)
section
theorem Sw.ne (s:Sw H I a j) (h:H b=some u) (p:∀ g,u ≠ .T g) (C:∀ o g,u ≠ .frz o (.T g)):b≠a:=λz=>by
 subst z;rcases s.l with q | ⟨o,q⟩<;>rw[q] at h<;>cases h
 .exact p _ rfl
 .exact C _ _ rfl
theorem Sw.get (s:Sw H j a p) (h:H b=some u) (C:∀ g,u ≠ .T g) (I:∀ o g,u ≠ .frz o (.T g)):j b=some u:=by rw[s.out b (s.ne h C I)];exact h
theorem Sw.rd (s:Sw H p a g) (h:Rd H b (.T j)):Rd p b (.T j):=by
 by_cases e:b=a
 .subst e;have:j=g:=by
   rcases h with h | ⟨o,h⟩<;>rcases s.l with q | ⟨c,q⟩<;>rw[q] at h<;>cases h<;>rfl
  rw[this];exact s.r
 .rcases h with h | ⟨o,h⟩
  .exact .inl (by rw[s.out b e];exact h)
  .exact .inr ⟨o,by rw[s.out b e];exact h⟩
theorem Sw.sqF {K:lL}(s:Sw H g a j) (h:wJ K H b p):wJ K g b p:=by
 rcases h with⟨o,h⟩ | h
 .exact .inl ⟨o,s.get h (λ_ z=>nomatch z) (λ_ _ z=>nomatch z)⟩
 .exact .inr h
variable {K:lL}
theorem Rep.sw (s:Sw H j a p) (o:∀ b,A b->g b) (h:Rep K A H d v):Rep K g j d v :=
 Rep.rec (motive_1:=λd v _=>Rep K g j d v) (motive_2:=λi m _=>Reps K g j i m) .e .b .int .str .r (λh _ r=>.t (s.get h (λ_ z=>nomatch z) (λ_ _ z=>nomatch z)) r) (λh _ r=>.con h r)
  (λf h _ r=>.l (o _ f) (s.get h (λ_ z=>nomatch z) (λ_ _ z=>nomatch z)) r) (λh _ r=>.c (s.sqF h) r) (λf h e _ r=>.k (o _ f) (s.get h (λ_ z=>nomatch z) (λ_ _ z=>nomatch z)) e r) (λf h e _ r=>.T (o _ f) (s.rd h) e r) .nil (λ_ _ h r=>.cons h r) h
theorem Reps.sw (s:Sw H p a I) (C:∀ b,A b->o b) (h:Reps K A H j l):Reps K o p j l:=by
 induction j generalizing l with
 | nil=>cases h;exact .nil
 | cons d j c=>cases h with | cons g r=>exact .cons (g.sw s C) (c r)
theorem oO.sw (s:Sw H o a p) (g:∀ b,A b->j b) (ne:b≠a) (h:oO K A H b d):oO K j o b d:=by
 cases d with
 | l _=>obtain⟨c,h,r⟩:=h;exact⟨c,by rw[s.out b ne];exact h,r.sw s g⟩
 | k _=>obtain⟨c,h,e,r⟩:=h;exact⟨c,by rw[s.out b ne];exact h,e,r.sw s g⟩
 | T _=>obtain⟨c,h,e,r⟩:=h;exact⟨c,by rw[s.out b ne];exact h,e,r.sw s g⟩
 | _=>exact False.elim h
theorem sC.sw (s:Sw H l a p) (g:∀ b,A b->j b) (ne:∀ b,zD (x,y)=some b->b≠a) (h:sC K A H x y):sC K j l x y:=by
 cases x with
 | n=>trivial
 | v d=>obtain⟨v,e,r⟩:=h;exact⟨v,e,r.sw s g⟩
 | o d=>obtain⟨b,e,r⟩:=h;subst e;exact⟨b,rfl,r.sw s g (ne b rfl)⟩
noncomputable def pB (B:Bs) (a:Ad) (o:Obj) (g:Aa (Aa hI×V)):Bs:=⟨B.dk,λb=>B.A0 b\/b=a,λb=>if b=a then some (.frz o (.T g)) else B.H0 b⟩
theorem DS.fz (h:DS K B L H) (s:Sw H j a g) (l:j a=some (.frz o (.T g))) (al:Al B (hO L) a):DS K (pB B a o g) L j:=by
 refine⟨λb u e n=>?_,h.dk.keep λb c=>s.out b λz=>al.1 (z▸c),h.nd,λb c=>?_,λp d=>?_⟩
 .by_cases z:b=a
  .subst z;rw[show (pB B b o g).H0 b=some (.frz o (.T g)) from aT rfl] at e;rw[l];exact e
  .rw[show (pB B a o g).H0 b=B.H0 b from aN z] at e;rw[s.out b z];exact h.fr b u e n
 .have z:b≠a:=λz=>al.2.1 (z▸c)
  rw[show (pB B a o g).H0 b=B.H0 b from aN z];exact h.new b c
 .refine (h.ok p d).sw s (λb ⟨f,i,k⟩=>⟨f,i,?_⟩) λb c z=>al.2.1 (tT.mpr ⟨p,d,z▸c⟩)
  by_cases z:b=a
  .exact .inl (.inr z)
  .refine k.elim (λq=>.inl (.inl q)) λq=>.inr ?_
   rw[show (pB B a o g).H0 b=B.H0 b from aN z];exact q
theorem DS.known (h:DS K (pB B a o g) L H) (j:a∉B.dk):H a=some (.frz o (.T g)):=h.fr a _ (aT rfl) j
theorem DS.th (h:DS K (pB B a o g) L H) (s:Sw H j a g) (C:a∉B.dk) (l:∀ u,B.H0 a=some u->j a=some u) (r:B.A0 a\/B.H0 a=none):DS K B L j:=by
 have f:∀ b∈hO L,b≠a:=λb c z=>by
  have:=(h.new b c).1;rw[z,show (pB B a o g).H0 a=some (.frz o (.T g)) from aT rfl] at this;cases this
 refine⟨λb u e n=>?_,h.dk.keep λb c=>s.out b λz=>C (z▸c),h.nd,λb c=>?_,λp d=>?_⟩
 .by_cases z:b=a
  .subst z;exact l u e
  .rw[s.out b z];exact h.fr b u (by rw[show (pB B a o g).H0 b=B.H0 b from aN z];exact e) n
 .have:=h.new b c;rw[show (pB B a o g).H0 b=B.H0 b from aN (f b c)] at this;exact this
 .refine (h.ok p d).sw s (λb ⟨i,k,m⟩=>⟨i,k,?_⟩) λb c z=>f b (tT.mpr ⟨p,d,c⟩) z
  by_cases z:b=a
  .rw[z];exact r
  .refine m.elim (λq=>.inl (q.resolve_right z)) λq=>.inr ?_
   rw[show (pB B a o g).H0 b=B.H0 b from aN z] at q;exact q
end
section
variable {X:Cx}
theorem Inv.swapped (I:Inv X r J H s) (sw:Sw H g a j) (C:∀ o u,X.H₀ a≠some (.frz o u)) (ok:nV X.prog X.w g s.heap a (.T j)->∀ u,g a=some u->nV X.prog X.w g s.heap a u):Inv X r J g s:=by
 have d:∀ b,H b=none->g b=none:=λb e=>by
  rw[sw.out b λz=>by subst z;rcases sw.l with q | ⟨o,q⟩<;>rw[q] at e<;>cases e];exact e
 have oP:∀ b h,H b=some (.t h)->g b=some (.t h):=λb h e=>sw.get e (λ_ z=>nomatch z) (λ_ _ z=>nomatch z)
 have f:∀ b y,H b=some (.o y)->g b=some (.o y):=λb h e=>sw.get e (λ_ z=>nomatch z) (λ_ _ z=>nomatch z)
 refine⟨I.ok,I.os,I.bare,⟨I.base.keep,I.base.slot,λb u e n x=>d b (I.base.free b u e n x),I.base.there,λb h e=>oP b h (I.base.tups b h e),λb i u e=>?_,λb m e=>?_⟩,I.loc,I.cell,d _ I.free,λx c e=>d c (I.freeC x c e),λp k=>?_,λb u e=>?_,I.len⟩
 .have ne:b≠a:=λz=>C i u (z▸e)
  rw[sw.out b ne];exact I.base.frzs b i u e
 .obtain⟨more,q⟩:=I.base.tbls b m e;exact⟨more,sw.get q (λ_ z=>nomatch z) (λ_ _ z=>nomatch z)⟩
 .obtain⟨v,A,B⟩:=I.pin p k;exact⟨v,d _ A,B⟩
 .by_cases z:b=a
  .subst z;have base:nV X.prog X.w H s.heap b (.T j):=sw.l.ok I.hok;exact ok (base.stay (λ_ _ _ q=>q) (λc q=>f c _ q) oP) u e
  .rw[sw.out b z] at e;exact (I.hok b u e).stay (λ_ _ _ q=>q) (λc q=>f c _ q) oP
theorem Inv.frozen (I:Inv X g r H s) (l:H a=some (.T j)) (p:s.heap.get? a=some o):Inv X g r (upd H a (.frz o (.T j))) s:=by
 refine I.swapped ⟨λb n=>lS n,.inl l,.inr ⟨o,lR⟩⟩ (λc u e=>?_) λq u e=>?_
 .have:=I.base.frzs a c u e;rw[l] at this;cases this
 .rw[lR] at e;cases e;exact⟨p,q⟩
theorem Inv.thawed (I:Inv X g r H s) (p:H a=some (.frz o (.T j))) (l:∀ o u,X.H₀ a≠some (.frz o u)):Inv X g r (upd H a (.T j)) s:=by
 refine I.swapped ⟨λb n=>lS n,.inr ⟨o,p⟩,.inl lR⟩ l λq u e=>?_
 rw[lR] at e;cases e;exact q
end
def xC (a:Ad) (o:Obj) (g:Aa (Aa hI×V)):It :=
 ⟨λi H=>H a=some (.frz o (.T g))/\i<g.length,λi H x b=>b=H/\∃ k v p,g[i]?=some (k,v)/\x = .ref p/\H p=some (.t (k.map kV)),λi H=>H a=some (.frz o (.T g))/\i=g.length⟩
theorem Jj {F:l->o->Prop}:∀ {g:Aa l}{j:Aa o}{i:Nat}{a:l},Paired F g j->g[i]?=some a->∃ b,j[i]?=some b/\F a b
 | _,_,_,_,.nil,h=>by simp at h
 | _,_,0,_,.cons x r,h=>by simp at h;subst h;exact⟨_,by simp,x⟩
 | _,_,i+1,a,.cons x r,h=>by
  obtain⟨b,c,d⟩:=Jj (i:=i) r (by simpa using h);exact⟨b,by simpa using c,d⟩
theorem K5 {P:Ah}(ok:nP P w H h) (I:H a=some (.frz o (.T g))) :
  ∃ j l,RawD h a o j l/\j.size=g.length/\∀ (i:Nat) (C:i<j.size),∃ k v p,g[i]?=some (k,v)/\j[i].key = .ref p/\H p=some (.t (k.map kV)):=by
 obtain⟨b,z,lo,m,r,D,j,l,c,n,s,d,_⟩:=(show nV P w H h a (.frz o (.T g)) from ok a _ I);rw[b] at c;cases c;have A:g.length=m.length:=fN r;have B:j.size=m.length:=by
  have:=bY List.length d
  simpa using this
 refine⟨j,l,⟨lo,b,n,s⟩,by omega,λi C=>?_⟩;have f:i<g.length:=by omega
 obtain⟨q,x,E,y,F⟩:=Jj r (aQ f);refine⟨g[i].1,g[i].2,q.2.1,aQ f,?_,y⟩;have e:j.toList[i]?=some (entryOfKey (tupleKind (pC P w)) q):=by rw[d,bC,x];rfl
 have u:j[i]=entryOfKey (tupleKind (pC P w)) q:=by
  have:j.toList[i]?=some j[i]:=by rw[fB,cR C]
  rw[this] at e;exact bN e
 rw[u];rfl
theorem DZ {P:Ah}{K:lL}(a j:Ad) (o:Obj) (l:Aa (Aa hI×V)):Turn P w K tg (xC a o l) [j] j (λi h=>∃ g,(∃ C,o.data = .dict C g)/\h.IsKeyIter j a i l.length g) where
 mem:=by simp
 obj:=λi h st b n=>by
  have e:b=j:=by simpa using n
  subst e;obtain⟨_,_,o,e,c,d⟩:=st;exact⟨o,e,λv z=>by rw[d] at z;cases z⟩
 keep:=λi h x ⟨g,q,o,e,r⟩ k=>⟨g,q,o,k j (by simp) o e,r⟩
 item:=by
  intro X L hw G Q i m s R H E I y st N;subst L hw G;obtain⟨g,⟨A,t⟩,st⟩:=st;obtain⟨M,O⟩:=N;obtain⟨C,f,raw,sz,rows⟩:=K5 I.hok M;have:f=g:=by have:=raw.dat;rw[t] at this;cases this;rfl
  subst this;rw[<- sz] at st O;obtain⟨k,v,p,Y,Z,J⟩:=rows i O;obtain⟨f0,f1,f2,B,D,F⟩:=y j (by simp);refine T6 raw st O λx u T=>?_
  have S:Inv X m R H { s with heap:=x }:=I.turned (t':=s.toks) (λb o n e=>(T.2 b n).trans e) f0 f1 B D F;rw[sz] at u;obtain⟨U,e,c,d⟩:=id u;exact⟨_,rfl,zH (s:={ s with heap:=x }) e c d (by decide) ⟨.ref p,H,S,Z,⟨rfl,k,v,p,Y,rfl,J⟩,⟨f,⟨C,raw.dat⟩,u⟩,λb n=>(y b n).1⟩⟩
 done:=by
  intro X L hw G Q i m s R H E I y st N;subst L hw G;obtain⟨g,⟨A,t⟩,st⟩:=st;obtain⟨M,rfl⟩:=N;obtain⟨C,f,raw,sz,rows⟩:=K5 I.hok M;have:f=g:=by have:=raw.dat;rw[t] at this;cases this;rfl
  subst this;rw[<- sz] at st;obtain⟨f0,f1,f2,B,D,F⟩:=y j (by simp);exact Rw (I.ok.hd Q) raw st λx W=>⟨rfl,I.turned (t':=s.toks) (λb o n e=>W b o n e) f0 f1 B D F⟩
 self:=λ_ _ _ _ _ ⟨_,_,st⟩ h=>wpAny_pyIter_keyiter st h
section
variable {X:Cx}
noncomputable def Gx:hI->D
 | .inl i=>.int i
 | .inr x=>.str x
theorem K4 {K:lL}:∀ k:Aa hI,Reps K A H (k.map Gx) (k.map kV)
 | []=>.nil
 | .inl i::k=>.cons (.int i) (K4 k)
 | .inr x::k=>.cons (.str x) (K4 k)
def sM (g:Aa (Aa hI×D)):Aa D:=g.map λp=>.t (p.1.map Gx)
end
end L2
namespace PySem
open PyProof.Rows L2
theorem oP {h j:Ag}(x:h.IsTuple a g) (k:∀ o,h.get? a=some o->j.get? a=some o):j.IsTuple a g:=let ⟨o,e,r⟩:=x;⟨o,k o e,r⟩
section
theorem zW (I:s.heap.IsTupleIter j t i) (T:s.heap.IsTuple t C) (J:C[i]?=some x) (q:∀ g,g.IsTupleIter j t (i+1)->Heap.SameBut j s.heap g->Q x { s with heap:=g }) :
  wpAny (model l w) A (Builtin.SmallTypes.nextOf (.ref j)) Q E s:=by
 obtain⟨o,a,c,ty,b⟩:=Pa I;obtain⟨p,m,v,n,u⟩:=id T;have body:wpAny (model l w) A.in1 (Builtin.«tuple_iterator.__next__» ⟨[.ref j],[]⟩) (λr d=>∃ g,r = .done (.ret x)/\d={ s with heap:=g }/\g.IsTupleIter j t (i+1)/\Heap.SameBut j s.heap g) E s:=by
  show wpAny _ _ (field (.ref j) 0 >>= _) _ _ s;refine aB (eA a c (x:=.ref t) rfl ?_);refine (show wpAny _ _ (field (.ref j) 1 >>= _) _ _ s from aB (eA a c (x:=.int i 0) rfl (aB (eU m u ?_))));simp only[cF,J];exact aB (kW a c (by simp) (aG ⟨_,rfl,rfl,EN a b c,iR ..⟩))
 unfold Builtin.SmallTypes.nextOf;refine aB (cA (name:=Str.ofString "__next__") ty fS (cM fS ty F.entry_tuple_iterator_next (cS body (λr d ⟨g,e,f,h,k⟩=>?_) λ_ _ z=>z) (F.args_tuple_iterator_next_1 _)));subst e f;exact⟨x,rfl,aG (q g h k)⟩
theorem Dt (calm:A.handled=none) (I:s.heap.IsTupleIter j t i) (T:s.heap.IsTuple t C) (r:C[i]?=none)
  (q:∀ g e,Heap.ExtBut j s.heap g->(∃ o,g.get? e=some o/\o.cls = .type "StopIteration")->E (.ref e) { s with heap:=g }):wpAny (model l w) A (Builtin.SmallTypes.nextOf (.ref j)) Q E s:=by
 obtain⟨o,a,c,ty,b⟩:=Pa I;obtain⟨p,f,m,n,h⟩:=id T;have body:wpAny (model l w) A.in1 (Builtin.«tuple_iterator.__next__» ⟨[.ref j],[]⟩) (λ_ _=>False) E s:=by
  show wpAny _ _ (field (.ref j) 0 >>= _) _ _ s;refine aB (eA a c (x:=.ref t) rfl ?_);refine (show wpAny _ _ (field (.ref j) 1 >>= _) _ _ s from aB (eA a c (x:=.int i 0) rfl (aB (eU f h ?_))));simp only[cF,r];refine aB (lE (aB (kW a c (by simp) ?_)));exact Q7 calm λg e k z=>q g e (λx o d r=>k x o ((iR ..).extBut x o d r)) z
 unfold Builtin.SmallTypes.nextOf;exact aB (cA (name:=Str.ofString "__next__") ty fS (cM fS ty F.entry_tuple_iterator_next (cS body (λ_ _ z=>z.elim) λ_ _ z=>z) (F.args_tuple_iterator_next_1 _)))
def B3 (z TI TO:Ad) (E:Ac->Ae->Prop):Ac->Ae->Prop:=λe a=>IsZip a.heap z TI TO .ellipsis/\∀ b,Heap.SameBut z a.heap b->E e { a with heap:=b }
theorem El {z TI TO:Ad}{a b p q:Ac}{Q:Ac->Ae->Prop}(J:IsZip s.heap z TI TO .none) (aa:IsPair s.heap TI a b)
  (go:∀ C,IsZip C z TI TO .ellipsis->Heap.SameBut z s.heap C->wpAny (model g w) A (Builtin.SmallTypes.nextOf a) (λx T=>IsPair T.heap TO p q/\∀ I,IsPair I TO x q->Heap.SameBut TO T.heap I ->wpAny (model g w) A (Builtin.SmallTypes.nextOf b) (λy U=>IsPair U.heap TO x q/\∀ j,IsPair j TO x y->Heap.SameBut TO U.heap j->IsZip j z TI TO .ellipsis /\ ∀ r,IsZip r z TI TO (rawInt j.objs.size)->IsPair r j.objs.size x y->r.objs.size=j.objs.size+1->(∀ c o,c≠z->j.get? c=some o->r.get? c=some o)->Q (.ref j.objs.size) { U with heap:=r }) (B3 z TI TO E) { T with heap:=I }) (B3 z TI TO E) { s with heap:=C }) :
  wpAny (model g w) A (Builtin.«zip.__next__» ⟨[.ref z],[]⟩) (λfin l=>∃ v,fin = .done (.ret v)/\Q v l) E s:=by
 have free:wpAny (model g w) A (Builtin.SmallTypes.ownedTupleIsFree (.ref z)) (λx l=>x=true/\l=s) E s:=aB (eA J rfl (x:=.none) rfl (aG ⟨rfl,rfl⟩));have back:∀ {i:Type} {m:Sem i} {R:i->Ae->Prop} {l:Ae},wpAny (model g w) A m R (B3 z TI TO E) l->wpAny (model g w) A (m.onRaise λ_=>setField (.ref z) 0 .none) R E l:=λ{i m R l} h =>
  wpAny_onRaise (cS h (λ_ _ z=>z) λe Y ⟨d,K⟩=>gZ d (by simp) λr _ O=>K r O)
 unfold Builtin.«zip.__next__»;refine aB (aG (aB (eA J rfl (x:=.bool false) rfl (aB (eA J rfl (x:=.ref TI) rfl (aB (eU aa rfl ?_)))))));refine aB (lQ free ?_);rintro _ l ⟨rfl,rfl⟩;simp only[gE];refine aB (lE (aB (eA J rfl (x:=.ref TO) rfl (aB (gZ J (by simp) λC P d=>?_)))));simp only[List.zipIdx_cons,List.zipIdx_nil,kE,List.forIn_nil,bind_assoc];refine aB (back (aB (lQ (go C P d) λx T ⟨B,g2⟩=>aG ?_)));refine aB (aB (eU B rfl (aB (wpAny_updateSeq_pair B λI N L=>aB (wpAny_letGo (aG ?_))))));refine aB (aB (back (aB (lQ (g2 I N L) λy U ⟨D,H⟩=>aG ?_))));refine aB (aB (eU D rfl (aB (wpAny_updateSeq_pair D λj F M=>aB (wpAny_letGo (aG (aG ?_)))))));obtain⟨G,fin⟩:=H j F M;have f:z<j.objs.size:=aY G;refine aB (eU F rfl (aB (wpAny_newTuple ?_ (hsz:=(show 2<=sizeLine by decide)))));have S:IsZip (j.push (seqObj "tuple" #[x,y] 0)) z TI TO .ellipsis:=aK _ G;refine aB (show wpAny _ _ (setField (.ref z) 0 (rawInt j.objs.size) >>= λ_=>setField (.ref z) 1 (.bool false)) _ _ _ from aB (gZ S (by simp) λX V t=>gZ V (by simp) λk W u=>?_));have up:∀ c o,c≠z->(j.push (seqObj "tuple" #[x,y] 0)).get? c=some o->k.get? c=some o:=λc o n e=>u.extBut _ _ n (t.extBut _ _ n e)
 refine aG ⟨_,rfl,fin k W (up _ _ (gU f) (bA _ rfl)) (by rw[u.1,t.1,cE]) λc o n e=>up c o n (aK _ e)⟩
theorem qU {h j:Ag}(x:h.IsTupleIter g t i) (k:∀ o,h.get? g=some o->j.get? g=some o):j.IsTupleIter g t i:=let ⟨o,e,r⟩:=x;⟨o,k o e,r⟩
theorem JR {TI TO:Ad}(D:ZipApart z TI TO j l T U) (hz:IsZip s.heap z TI TO .none) (r:IsPair s.heap TI (.ref j) (.ref l)) (C:IsPair s.heap TO a b)
  (h1:s.heap.IsTupleIter j T k1) (h2:s.heap.IsTupleIter l U k2) (I:s.heap.IsTuple T xs) (J:s.heap.IsTuple U ys) (hx:xs[k1]?=some x) (hy:ys[k2]?=some y)
  (aa:∀ g,IsZip g z TI TO (rawInt s.heap.objs.size)->IsPair g TO x y->g.IsTupleIter j T (k1+1)->g.IsTupleIter l U (k2+1)->IsPair g s.heap.objs.size x y->g.objs.size=s.heap.objs.size+1 ->(∀ c o,c≠z->c≠TO->c≠j->c≠l->s.heap.get? c=some o->g.get? c=some o)->Q (some (.ref s.heap.objs.size)) { s with heap:=g }):wpAny (model ab w) A (pyNext (.ref z)) Q E s:=by
 have ty:s.TypeIs (.ref z) "zip" := ⟨_,hz,rfl⟩;unfold pyNext;refine aB (dN (cA (name:=Str.ofString "__next__") ty cQ (cM cQ ty fE (El (p:=a) (q:=b) hz r λg1 Y f=>?_) (eX _))));have d:∀ c o,c≠z->s.heap.get? c=some o->g1.get? c=some o:=λc o n e=>f.extBut _ _ n e
 refine zW (qU h1 λo e=>d _ o D.i1z e) (oP I λo e=>d _ o D.l1z e) hx λg2 S h=>?_
 have i:∀ c o,c≠j->g1.get? c=some o->g2.get? c=some o:=λc o n e=>h.extBut _ _ n e
 refine⟨i _ _ D.TOi1 (d _ _ D.TOz C),λg3 W H=>?_⟩;have k:∀ c o,c≠TO->g2.get? c=some o->g3.get? c=some o:=λc o n e=>H.extBut _ _ n e
 refine zW (qU h2 λo e=>k _ o D.TOi2.symm (i _ o D.i12.symm (d _ o D.i2z e))) (oP J λo e=>k _ o D.l2TO (i _ o D.l2i1 (d _ o D.l2z e))) hy λF V K=>?_
 have t:∀ c o,c≠l->g3.get? c=some o->F.get? c=some o:=λc o n e=>K.extBut _ _ n e
 refine⟨t _ _ D.TOi2 W,λG X L=>?_⟩;have u:∀ c o,c≠TO->F.get? c=some o->G.get? c=some o:=λc o n e=>L.extBut _ _ n e
 have sz:G.objs.size=s.heap.objs.size:=by rw[L.1,K.1,H.1,h.1,f.1]
 refine⟨u _ _ D.TOz.symm (t _ _ D.i2z.symm (k _ _ D.TOz.symm (i _ _ D.i1z.symm Y))),λg M N O m=>?_⟩;rw[sz] at M N O |-;refine aG (aa g M (m _ _ D.TOz X) (qU S λo e=>m _ o D.i1z (u _ o D.TOi1.symm (t _ o D.i12 (k _ o D.TOi1.symm e)))) (qU V λo e=>m _ o D.i2z (u _ o D.TOi2.symm e)) N O λc o v B P R e=>?_);exact m c o v (u c o B (t c o R (k c o B (i c o P (d c o v e)))))
theorem IZ {TI TO:Ad}(calm:A.handled=none) (D:ZipApart z TI TO r J l1 l2) (hz:IsZip s.heap z TI TO .none) (U:IsPair s.heap TI (.ref r) (.ref J)) (aa:IsPair s.heap TO a b)
  (h1:s.heap.IsTupleIter r l1 k1) (h2:s.heap.IsTupleIter J l2 k2) (l:s.heap.IsTuple l1 xs) (ab:s.heap.IsTuple l2 ys) (j:xs[k1]?=none\/ys[k2]?=none)
  (ac:∀ I,(∀ c o,c≠z->c≠TO->c≠r->c≠J->s.heap.get? c=some o->I.get? c=some o)->Q none { s with heap:=I }):wpAny (model C w) A (pyNext (.ref z)) Q E s:=by
 have ty:s.TypeIs (.ref z) "zip" := ⟨_,hz,rfl⟩;have f:∀ (g:Ag) (e:Ad),(∀ c o,c≠z->c≠TO->c≠r->c≠J->s.heap.get? c=some o->g.get? c=some o)->(∃ o,g.get? e=some o/\o.cls = .type "StopIteration")->IsZip g z TI TO .ellipsis ->
   B3 z TI TO (λe W=>wpAny (model C w) A (do if <- isInstance e (.type "StopIteration") then pure none else throw e) Q E W) (.ref e) { s with heap:=g }:=λg e k ⟨o,H,M⟩ P=>by
  refine⟨P,λI N=>?_⟩;have ne:e≠z:=λq=>by
   rw[q,P] at H;cases H;injection M with y;exact absurd y (by decide)
  exact aB (cU (T := "StopIteration") (b:=true) ⟨o,N.extBut _ _ ne H,M⟩ jP (aG (ac I λc o h v i B q=>N.extBut _ _ h (k c o h v i B q))))
 unfold pyNext;refine aB (dN (cA (name:=Str.ofString "__next__") ty cQ (cM cQ ty fE (El (p:=a) (q:=b) hz U λg1 O F=>?_) (eX _))));have d:∀ c o,c≠z->s.heap.get? c=some o->g1.get? c=some o:=λc o n e=>F.extBut _ _ n e
 rcases fW xs[k1]? with m | ⟨x,m⟩
 .exact Dt calm (qU h1 λo e=>d _ o D.i1z e) (oP l λo e=>d _ o D.l1z e) m λg2 e K X=>f g2 e (λc o h _ i _ q=>K c o i (d c o h q)) X (K _ _ D.i1z.symm O)
 .refine zW (qU h1 λo e=>d _ o D.i1z e) (oP l λo e=>d _ o D.l1z e) m λg2 Z G=>?_
  have t:∀ c o,c≠r->g1.get? c=some o->g2.get? c=some o:=λc o n e=>G.extBut _ _ n e
  refine⟨t _ _ D.TOi1 (d _ _ D.TOz aa),λg3 o3 V=>?_⟩;have u:∀ c o,c≠TO->g2.get? c=some o->g3.get? c=some o:=λc o n e=>V.extBut _ _ n e
  have R:ys[k2]?=none:=j.elim (λn=>by rw[n] at m;cases m) id;exact Dt calm (qU h2 λo e=>u _ o D.TOi2.symm (t _ o D.i12.symm (d _ o D.i2z e))) (oP ab λo e=>u _ o D.l2TO (t _ o D.l2i1 (d _ o D.l2z e))) R λS e L Y=>f S e (λc o h v i B q=>L c o B (u c o v (t c o i (d c o h q)))) Y (L _ _ D.i2z.symm (u _ _ D.TOz.symm (t _ _ D.i1z.symm O)))
end
section
theorem GL {z TI TO T j l r C:Ad}{I J:Nat}{f:Bool}{oT:Obj}{xs ys:Array Ac}{x y:Ac}{Q:Ac->Ae->Prop}(D:ZipApart z TI TO j l r C)
  (hz:uV s.heap z TI TO T f) (hT:s.heap.get? T=some oT) (U:IsPair s.heap TI (.ref j) (.ref l))
  (h1:s.heap.IsTupleIter j r I) (h2:s.heap.IsTupleIter l C J) (aa:s.heap.IsTuple r xs) (ab:s.heap.IsTuple C ys) (hx:xs[I]?=some x) (hy:ys[J]?=some y)
  (hQ:∀ g,uV g z TI TO T true->g.IsTupleIter j r (I+1)->g.IsTupleIter l C (J+1)->IsPair g s.heap.objs.size x y->g.objs.size=s.heap.objs.size+1 ->(∀ c o,c≠z->c≠j->c≠l->s.heap.get? c=some o->g.get? c=some o)->Q (.ref s.heap.objs.size) { s with heap:=g }) :
  wpAny (model ac w) A (Builtin.«zip.__next__» ⟨[.ref z],[]⟩) (λfin s'=>∃ v,fin = .done (.ret v)/\Q v s') E s:=by
 refine Gz hz hT U λd K m=>?_
 have up1:∀ c o,c≠z->s.heap.get? c=some o->d.get? c=some o:=λc o n e=>m.extBut _ _ n e
 have there:d.IsTupleIter j r I/\d.IsTupleIter l C J/\d.IsTuple r xs/\d.IsTuple C ys:=⟨qU h1 λo e=>up1 _ o D.i1z e,qU h2 λo e=>up1 _ o D.i2z e,oP aa λo e=>up1 _ o D.l1z e,oP ab λo e=>up1 _ o D.l2z e⟩;refine zW there.1 there.2.2.1 hx λk G q=>?_
 have a:∀ c o,c≠j->d.get? c=some o->k.get? c=some o:=λc o n e=>q.extBut _ _ n e
 refine zW (qU there.2.1 λo e=>a _ o D.i12.symm e) (oP there.2.2.2 λo e=>a _ o D.l2i1 e) hy λh H t=>?_
 have b:∀ c o,c≠l->k.get? c=some o->h.get? c=some o:=λc o n e=>t.extBut _ _ n e
 have i:h.objs.size=s.heap.objs.size:=t.1.trans (q.1.trans m.1);have more:∀ {c:Ad} {o p:Obj},h.get? c=some o->(h.push p).get? c=some o:=λe=>aK _ e
 refine wpAny_newTuple ⟨_,rfl,?_⟩ (hsz:=(show 2<=sizeLine by decide));have last:=hQ (h.push (seqObj "tuple" #[x,y] 0)) (more (b _ _ D.i2z.symm (a _ _ D.i1z.symm K))) (qU G λo e=>more (b _ o D.i12 e)) (qU H λo e=>more e) (i▸bA _ rfl) ((cE ..).trans (by rw[i]))
  λc o u B F e=>more (b _ _ F (a _ _ B (up1 _ _ u e)))
 rw[<- i] at last;exact last
theorem MQ {TI TO:Ad}(hh:A.handled=none) (D:ZipApart z TI TO j J l l2)
  (hz:uV s.heap z TI TO T f) (hT:s.heap.get? T=some oT) (r:IsPair s.heap TI (.ref j) (.ref J))
  (h1:s.heap.IsTupleIter j l U) (h2:s.heap.IsTupleIter J l2 k2) (C:s.heap.IsTuple l xs) (I:s.heap.IsTuple l2 ys) (g:xs[U]?=none\/ys[k2]?=none)
  (hE:∀ p e,(∀ c o,c≠z->c≠j->c≠J->s.heap.get? c=some o->p.get? c=some o)->(∃ o,p.get? e=some o/\o.cls = .type "StopIteration")->E (.ref e) { s with heap:=p }) :
  wpAny (model aa w) A (Builtin.«zip.__next__» ⟨[.ref z],[]⟩) Q E s:=by
 refine Gz hz hT r λi M F=>?_
 have up1:∀ c o,c≠z->s.heap.get? c=some o->i.get? c=some o:=λc o n e=>F.extBut _ _ n e
 have there:i.IsTupleIter j l U/\i.IsTuple l xs:=⟨qU h1 λo e=>up1 _ o D.i1z e,oP C λo e=>up1 _ o D.l1z e⟩;rcases fW xs[U]? with b | ⟨x,b⟩
 .exact Dt hh there.1 there.2 b λk e t H=>hE k e (λc o d h _ q=>t c o h (up1 c o d q)) H
 .refine zW there.1 there.2 b λk L G=>?_
  have a:∀ c o,c≠z->c≠j->s.heap.get? c=some o->k.get? c=some o:=λc o n m e=>G.extBut _ _ m (up1 c o n e)
  have y:ys[k2]?=none:=g.elim (λn=>by rw[n] at b;cases b) id;exact Dt hh (qU h2 λo e=>a _ o D.i2z D.i12.symm e) (oP I λo e=>a _ o D.l2z D.l2i1 e) y λB e u K=>hE B e (λc o d h v q=>u c o v (a c o d h q)) K
theorem CI {TI TO:Ad}(D:ZipApart z TI TO r C U l2)
  (j:wF s.heap z TI TO r C) (I:s.heap.IsTupleIter r U k) (J:s.heap.IsTupleIter C l2 k) (l:s.heap.IsTuple U xs) (p:s.heap.IsTuple l2 ys) (hx:xs[k]?=some x) (hy:ys[k]?=some y)
  (hQ:∀ g,wF g z TI TO r C->g.IsTupleIter r U (k+1)->g.IsTupleIter C l2 (k+1)->IsPair g s.heap.objs.size x y->g.objs.size=s.heap.objs.size+1 ->(∀ c o,c≠z->c≠TO->c≠r->c≠C->s.heap.get? c=some o->g.get? c=some o)->Q (some (.ref s.heap.objs.size)) { s with heap:=g }) :
  wpAny (model aa w) A (pyNext (.ref z)) Q E s:=by
 obtain⟨d,⟨a,b,i⟩,j⟩:=j;obtain⟨V,P,_⟩:=id I;obtain⟨W,R,_⟩:=id J;have q:∀ {c o},s.heap.get? c=some o->s.heap.objs.size≠c:=λe=>(bH (aY e)).symm
 rcases j with j | ⟨T,f,o,j,F,G,S,H,K⟩
 .refine JR D j d i I J l p hx hy λg t L u v n B h=>?_
  exact hQ g ⟨h _ _ D.TIz D.TITO D.TIi1 D.TIi2 d,⟨_,_,L⟩,.inr ⟨_,false,_,t,n,q j,q i,q P,q R⟩⟩ u v n B h
 .have m:s.TypeIs (.ref z) "zip" := ⟨_,j,rfl⟩;unfold pyNext;refine aB (dN (cA (name:=Str.ofString "__next__") m cQ (cM cQ m fE (GL D j F d I J l p hx hy λg t u v n B h=>aG ?_) (eX _))));exact hQ g ⟨h _ _ D.TIz D.TIi1 D.TIi2 d,⟨_,_,h _ _ D.TOz D.TOi1 D.TOi2 i⟩,.inr ⟨T,true,_,t,h _ _ G H K F,G,S,H,K⟩⟩ u v n B λc o M _ N O e=>h c o M N O e
theorem HA {TI TO:Ad}(hh:A.handled=none) (D:ZipApart z TI TO C I l1 l2)
  (j:wF s.heap z TI TO C I) (J:s.heap.IsTupleIter C l1 k) (U:s.heap.IsTupleIter I l2 k) (l:s.heap.IsTuple l1 xs) (p:s.heap.IsTuple l2 ys) (g:xs[k]?=none\/ys[k]?=none)
  (hQ:∀ r,(∀ c o,c≠z->c≠TO->c≠C->c≠I->s.heap.get? c=some o->r.get? c=some o)->Q none { s with heap:=r }):wpAny (model aa w) A (pyNext (.ref z)) Q E s:=by
 obtain⟨d,⟨a,b,i⟩,j⟩:=j;rcases j with j | ⟨T,f,o,j,t,B,F,G,H⟩
 .exact IZ hh D j d i J U l p g hQ
 .have h:s.TypeIs (.ref z) "zip" := ⟨_,j,rfl⟩;unfold pyNext;refine aB (dN (cA (name:=Str.ofString "__next__") h cQ (cM cQ h fE (MQ hh D j t d J U l p g λr e x v=>?_) (eX _))));obtain⟨o,y,u⟩:=v;refine aB (cU (T := "StopIteration") (b:=true) ⟨o,y,u⟩ jP ?_);exact aG (hQ _ λc o m _ n q e=>x c o m n q e)
end
section
variable {K:Type} [DecidableEq K] {knd:KeyKind prog w K}{A:Around}{R:Result->Ae->Prop}
theorem BF {TI TO:Ad}(hh:A.handled=none) (D:ZipApart z TI TO l p r C) (hd:d∉[z,TI,TO,l,p,r,C]) (more:Aa (K×Ac)) (hn:more.length=min I.size J.size) (j:more.length<=sizeLine)
  (hT:∀ (i:Nat) x y,I[i]?=some x->J[i]?=some y->∃ k,knd.is k x=true/\more[i]?=some (k,y)) (h0:Ag) :
  ∀ (m i:Nat) (s:Ae),more.length-i=m->i<=more.length->wF s.heap z TI TO l p->s.heap.IsTupleIter l r i->s.heap.IsTupleIter p C i->s.heap.IsTuple r I->s.heap.IsTuple C J->(∀ b o,b∉[z,TO,l,p,d]->h0.get? b=some o->s.heap.get? b=some o)->s.heap.DictOf knd d (merged [] (more.take i)) ->
   (∀ g tk,(∀ b o,b∉[z,TO,l,p,d]->h0.get? b=some o->g.get? b=some o)->g.DictOf knd d (merged [] more)->R (.ok (.ret .none)) { s with heap:=g,toks:=tk }) ->
   codeAny (model prog w) A (.builtin "dict.update.loop" ⟨[.ref d,.ref z,.int (i:Int) 0,.none],[]⟩) R s:=by
 simp only[aI,bJ,eM,lA] at hd;obtain⟨d1,d2,W,X,Y,d6,d7⟩:=hd;have na:∀ {b:Ad},b∉[z,TO,l,p,d]->b≠z/\b≠TO/\b≠l/\b≠p/\b≠d:=λj=>by
  simpa only [aI,bJ,eM,lA] using j
 intro m;induction m with
 | zero =>
  intro i s hm hi hz h1 h2 c h kp H hR;have ei:i=more.length:=by omega
  subst ei;rw[bI (aW _)] at H;refine fA Ao ?_;rw[dQ uC _];show wpAny _ A.in1 (pyNext (.ref z) >>= _) _ _ s;refine aB (HA (by simpa using hh) D hz h1 h2 c h ?_ λg B=>?_)
  .rcases Nat.le_total I.size J.size with q | q
   .exact .inl (dZ (by omega))
   .exact .inr (dZ (by omega))
  .show wpAny _ A.in1 (Builtin.Dict.addKeywords d [] >>= _) _ _ _;refine aB (aG ?_);obtain⟨o,F,E,u,rest⟩:=H;exact aG (hR g _ (λb o j e=>let ⟨P,Q,S,V,b5⟩:=na j;B b o P Q S V (kp b o j e)) ⟨o,F,E,B d _ d1 W X Y u,rest⟩)
 | succ m ih =>
  intro i s hm hi hz h1 h2 c h kp H hR;have ab:i<more.length:=by omega
  obtain⟨x,hx⟩:∃ x,I[i]?=some x:=⟨_,cR (by omega)⟩;obtain⟨y,hy⟩:∃ y,J[i]?=some y:=⟨_,cR (by omega)⟩;obtain⟨ky,N,t⟩:=hT i x y hx hy;refine fA Ao ?_;rw[dQ uC _];show wpAny _ A.in1 (pyNext (.ref z) >>= _) _ _ s;refine aB (CI D hz h1 h2 c h hx hy λg z' ac ae pr sz B=>?_);have aa:g.DictOf knd d (merged [] (more.take i)):=by
   obtain⟨o,F,E,u,rest⟩:=H;exact⟨o,F,E,B d _ d1 W X Y u,rest⟩
  have af:g.IsTuple r I:=oP c λo e=>B r o D.l1z D.l1TO D.l1i1 D.l1i2 e
  have ag:g.IsTuple C J:=oP h λo e=>B C o D.l2z D.l2TO D.l2i1 D.l2i2 e
  have pd:s.heap.objs.size≠d:=by
   obtain⟨o,F,E,u,rest⟩:=H;exact (bH (aY u)).symm
  show wpAny _ A.in1 (holding [Value.ref s.heap.objs.size] _ >>= _) _ _ _;refine aB (bX ?_);refine aB (wpAny_tryCatch ?_);unfold Builtin.Dict.pairItems;refine aB (eS (T := "tuple") ⟨_,pr,rfl⟩ ?_);rw[aT (by decide)];refine aB (eU pr rfl ?_);refine aG ?_;show wpAny _ A.in1 (holding [x,y] (dictSet d x y)) _ _ _;refine bX ?_;have v:(merged [] (more.take i)).length<=sizeLine:=by
   have Z:=merged_length_le ([]:Aa (K×Ac)) (more.take i);rw[eZ,bZ] at Z;omega
  refine kK (hsz:=v) N aa λG n sb=>?_
  rw[<- merged_take_succ [] more i (ky,y) t] at n;refine aG ⟨hX uC _,?_⟩;have Z:(rawInt ((i:Int)+1))=Value.int ((i+1:Nat):Int) 0:=by rfl
  rw[Z];have up:∀ b o,b≠d->g.get? b=some o->G.get? b=some o:=λb o j e=>by rw[sb.2 b j];exact e
  have zz:wF G z TI TO l p:=by
   obtain⟨p1,⟨a,b,p2⟩,p3⟩:=z';refine⟨up _ _ (cY d2) p1,⟨a,b,up _ _ (cY W) p2⟩,?_⟩;rcases p3 with p3 | ⟨T,f,o,q1,q2,q3,q4,q5,q6⟩
   .exact .inl (up _ _ (cY d1) p3)
   .by_cases M:T=d
    .subst M;obtain⟨o',F,E,u,rest⟩:=n;exact .inr ⟨T,f,_,up _ _ (cY d1) q1,u,q3,q4,q5,q6⟩
    .exact .inr ⟨T,f,o,up _ _ (cY d1) q1,up _ _ M q2,q3,q4,q5,q6⟩
  refine ih (i+1) _ (by omega) ab zz (qU ac λo e=>up _ o (cY X) e) (qU ae λo e=>up _ o (cY Y) e) (oP af λo e=>up _ o (cY d6) e) (oP ag λo e=>up _ o (cY d7) e) (λb o j e=>?_) n λU tk O L=>hR U tk O L
  obtain⟨P,Q,S,V,b5⟩:=na j;exact up b o b5 (B b o P Q S V (kp b o j e))
theorem OT {TI TO:Ad}(hh:A.handled=none) (D:ZipApart z TI TO U i2 l1 l2)
  (T:IsZip s.heap z TI TO .none) (l:IsPair s.heap TI (.ref U) (.ref i2)) (C:IsPair s.heap TO .none .none) (h1:s.heap.IsTupleIter U l1 0) (h2:s.heap.IsTupleIter i2 l2 0) (I:s.heap.IsTuple l1 xs) (J:s.heap.IsTuple l2 ys)
  (hn:more.length=min xs.size ys.size) (g:more.length<=sizeLine) (hT:∀ (i:Nat) x y,xs[i]?=some x->ys[i]?=some y->∃ k,knd.is k x=true/\more[i]?=some (k,y))
  (h:∀ (j:Ag) (tk:Nat),j.DictOf knd s.heap.objs.size (merged [] more)->(∀ b o,b∉[z,TO,U,i2]->s.heap.get? b=some o->j.get? b=some o)->Q (.ref s.heap.objs.size) { s with heap:=j,toks:=tk }) :
  wpAny (model prog w) A (call (.type "dict") [.ref z]) Q E s:=by
 let d:=s.heap.objs.size;have made:(vI s).heap.DictOf knd d []:=kC s.heap;have old:∀ b o,s.heap.get? b=some o->(vI s).heap.get? b=some o:=λb o e=>aK _ e
 refine callType_codes F.kt_called_dict (jY _) F.entry_dict_init (kt_code_dict_new _ (Q₁:=λv n=>v = .ref d/\n=vI s) ⟨rfl,rfl⟩) λv n q=>?_
 obtain⟨rfl,rfl⟩:=q;refine⟨made.typeIs,kT _ _,Ul made.typeIs (old _ _ T) (by simp[hh]) λc tk e x=>⟨hX uC _,?_⟩⟩;have keeps:∀ b o,s.heap.get? b=some o->c.get? b=some o:=λb o e=>x.keeps _ _ (old b o e)
 obtain⟨N,G,_⟩:=id h1;obtain⟨O,H,_⟩:=id h2;obtain⟨P,L,_⟩:=id I;obtain⟨S,M,_⟩:=id J;have a:∀ {b o},s.heap.get? b=some o->d≠b:=λe=>(bH (aY e)).symm
 have f:c.DictOf knd d []:=by
  obtain⟨o,u,t,p,r⟩:=made;exact⟨o,u,t,x.keeps _ _ p,r⟩
 refine BF (knd:=knd) (by simp[hh]) D ?_ more hn g hT s.heap more.length 0 _ rfl (dL _) ⟨keeps _ _ l,⟨_,_,keeps _ _ C⟩,.inl (keeps _ _ T)⟩ (qU h1 λo e=>keeps _ o e) (qU h2 λo e=>keeps _ o e) (oP I λo e=>keeps _ o e) (oP J λo e=>keeps _ o e) (λb o _ e=>keeps b o e) (by simpa [merged] using f) λj m B fin=>?_
 .simp only[aI,bJ,eM,lA];exact⟨a T,a l,a C,a G,a H,a L,a M⟩
 .refine⟨rfl,h j m fin λb o g e=>B b o (λq=>?_) e⟩;simp only[aI,bJ,eM,lA] at g q;rcases q with q | q | q | q | q
  .exact g.1 q
  .exact g.2.1 q
  .exact g.2.2.1 q
  .exact g.2.2.2 q
  .exact a e q.symm
end
structure ZipMade (h h':Heap) (s t:Addr):Prop where
 z:IsZip h' (h.objs.size+4) (h.objs.size+2) (h.objs.size+3) .none
 ti:IsPair h' (h.objs.size+2) (.ref h.objs.size) (.ref (h.objs.size+1))
 to:IsPair h' (h.objs.size+3) .none .none
 i1:h'.IsTupleIter h.objs.size s 0
 i2:h'.IsTupleIter (h.objs.size+1) t 0
 sz:h'.objs.size=h.objs.size+5
 kp:∀ c o,h.get? c=some o->h'.get? c=some o
def sH (t:Ad):Obj:={ cls:=.type "tuple_iterator",data:=.fields #[.ref t,.int 0 0] }
def yC (a b:Ac):Obj:={ cls:=.type "tuple",data:=.seq #[a,b] }
def K0 (a b:Ad):Obj:={ cls:=.type "zip",data:=.fields #[.none,.bool false,.bool false,.ref a,.ref b] }
def Ko (h:Ag) (s t:Ad):Ag:=((((h.push (sH s)).push (sH t)).push (yC (.ref h.objs.size) (.ref (h.push (sH s)).objs.size))).push (yC .none .none)).push (K0 ((h.push (sH s)).push (sH t)).objs.size (((h.push (sH s)).push (sH t)).push (yC (.ref h.objs.size) (.ref (h.push (sH s)).objs.size))).objs.size)
theorem NJ (h:Ag) (s t:Ad):ZipMade h (Ko h s t) s t:=by
 have d:(h.push (sH s)).objs.size=h.objs.size+1:=cE ..;have i:((h.push (sH s)).push (sH t)).objs.size=h.objs.size+2:=by rw[cE,d]
 have k:∀ p,(((h.push (sH s)).push (sH t)).push p).objs.size=h.objs.size+3:=λp=>by rw[cE,i]
 have m:∀ p q,((((h.push (sH s)).push (sH t)).push p).push q).objs.size=h.objs.size+4:=λp q=>by rw[cE,k]
 have b:∀ (g:Ag) (o:Obj) (n:Nat),o.isFreed=false->g.objs.size=n->(g.push o).get? n=some o:=λg o n f e=>by rw[<- e];exact bA _ f
 have a:∀ {g:Ag} {o p:Obj} {c:Ad},g.get? c=some o->(g.push p).get? c=some o:=λe=>aK _ e
 unfold Ko;rw[d,i,k];exact {
  z:=b _ _ _ rfl (m _ _)
  ti:=a (a (b _ _ _ rfl i))
  to:=a (b _ _ _ rfl (k _))
  i1:=⟨_,a (a (a (a (bA _ rfl)))),rfl,rfl⟩
  i2:=⟨_,a (a (a (b _ _ _ rfl d))),rfl,rfl⟩
  sz:=by rw[cE,m]
  kp:=λc o e=>a (a (a (a (a e)))) }
theorem AF (l m:Ad) (p r:Array Ac):Meets (Builtin.«zip.__new__» ⟨[.type "zip",.ref l,.ref m],[]⟩) (λ_ R s=>s.heap.IsTuple l p/\s.heap.IsTuple m r /\ ∀ j,j=Ko s.heap l m->∀ n,n=s.heap.objs.size+4->R (.ok (.ret (.ref n))) { s with heap:=j }) :=
 .of_wp λf w A R s h=>by
  obtain⟨c,g,d,i,os⟩:=s;obtain⟨k,q,h⟩:=h;have under:=sub_zip;have a:Heap.IsTuple (Shared.heap ⟨c,g,d,i,os⟩) l p:=k;have b:Heap.IsTuple (Shared.heap ⟨c.push { cls:=.type "tuple_iterator",data:=.fields #[.ref l,.int 0 0] },g,d,i,os⟩) m r:=oP q λo e=>aK _ e
  wp_walk using jB a,jB b
  refine⟨_,rfl,h _ rfl _ ?_⟩;rw[cE,cE,cE,cE]
section
theorem JW (p:s.heap.IsTuple l C) (r:s.heap.IsTuple m I)
  (q:∀ g,IsZip g (s.heap.objs.size+4) (s.heap.objs.size+2) (s.heap.objs.size+3) .none->IsPair g (s.heap.objs.size+2) (.ref s.heap.objs.size) (.ref (s.heap.objs.size+1))->IsPair g (s.heap.objs.size+3) .none .none ->g.IsTupleIter s.heap.objs.size l 0->g.IsTupleIter (s.heap.objs.size+1) m 0->g.objs.size=s.heap.objs.size+5->(∀ c o,s.heap.get? c=some o->g.get? c=some o)->Q (.ref (s.heap.objs.size+4)) { s with heap:=g }) :
  wpAny (model j w) A (call (.type "zip") [.ref l,.ref m]) Q E s:=by
 refine callType_new F.called_zip (by decide) (F.typeCall_zip_2 _ _) (F.newCall_zip_2 _ _) (λobj=>F.args_object_init_3 obj _ _) F.entry_zip_new (AF l m C I) ⟨p,r,λg e n a=>?_⟩;subst e a;have M:=NJ s.heap l m;exact⟨⟨_,M.z,rfl⟩,q _ M.z M.ti M.to M.i1 M.i2 M.sz M.kp⟩
end
end PySem
namespace L2
open PySem PySem.Spec PyProof.Rows Lw
section
variable {X:Cx}
def CZ (K:lL) (g:TA):TE:=λf H Q=>g f H λe a=>∃ (l m:Ad) (b:Aa hI) (c:Aa V),e=[.ref l,.ref m]/\mF K a l (b.map kV)/\mF K a m c/\b.length<=1000/\∀ d,a d=none->Q (.ref d) (upd a d (.k (pL [] (b.zip c))))
theorem EM (j:X.calm=true) (hg:Gl X "dict") (hm:X.mg "dict" = none) (r:Gl X "zip") (C:X.mg "zip" = none) (ha:PA X [a,b] ta)
  (hs:starEach [a,b] X.env=(false,eval a X.env)::starEach [b] X.env:=by rfl) (J:(backTo g (starEach [b] X.env)).any (·.1)=false:=by rfl) :
  PE X (.Call (.Name "dict" p) [.Call (.Name "zip" p') [a,b] [] g] [] pos) (CZ X.K ta):=by
 intro B s σ H Q I h;refine eK (xA I hg hm boot_dict ?_ (by decide) (by decide));refine cT ?_ rfl rfl;show wpAny _ _ (spliced ((false,eval (.Call (.Name "zip" p') [a,b] [] g) X.env)::backTo pos (starEach [] X.env))) _ _ s;refine gW ?_;refine eK (xA I r C boot_zip ?_ (by decide) (by decide));refine cT (lQ (ha g B s σ H _ I h) λus d N=>?_) hs J;obtain⟨xs,H1,z,S,q1⟩:=N;obtain⟨l,m,f,F,rfl,hl,hv,hn,q⟩:=q1;obtain⟨Z,T,rfl,W,Y⟩:∃ Z T,us=[Z,T]/\mC (.ref l) Z/\mC (.ref m) T:=by
  cases S with | cons S V=>cases V with | cons V r3=>cases r3;exact⟨_,_,rfl,S,V⟩
 cases W;cases Y;obtain⟨n,r',R,_⟩:=z.tuple hl;obtain⟨c,D,v,_⟩:=z.tuple hv;refine JW (show d.heap.IsTuple l n.toArray from R) (show d.heap.IsTuple m c.toArray from v) λE z1 z2 z3 z4 z5 z6 U=>?_
 refine jL ?_;have L1:=r'.length;have L2:=D.length;rw[aA] at L1;have G:=K3 f D;have O:l<d.heap.objs.size:=by obtain⟨_,e,_⟩:=(show d.heap.IsTuple l n.toArray from R);exact aY e
 have P:m<d.heap.objs.size:=by obtain⟨_,e,_⟩:=(show d.heap.IsTuple m c.toArray from v);exact aY e
 refine OT (knd:=pC X.prog X.w) (more:=f.zip c) (s:={ d with heap:=E }) (z.ok.hd j) (zipApart_new O P) z1 z2 z3 z4 z5 (oP (show d.heap.IsTuple l n.toArray from R) λo e=>U _ o e) (oP (show d.heap.IsTuple m c.toArray from v) λo e=>U _ o e) ?_ ?_ ?_ λh2 tk hD hk=>?_
 .rw[gB,aX,aX];omega
 .rw[gB];exact eP (cH (show min f.length c.length<=1000 by omega) (by decide))
 .intro i x y A L;have A:n[i]?=some x:=by simpa using A
  have L:c[i]?=some y:=by simpa using L
  obtain⟨hi,_⟩:=aU.mp A;obtain⟨u,hu,ru⟩:=r'.get (i:=i) (x:=kV (f[i]'(by omega))) (by simp[show i<f.length by omega]);rw[hu] at A;cases A;refine⟨f[i]'(by omega),yD ru,?_⟩;rw[iN];exact⟨aQ _,L⟩
 .have M:(pL [] (f.zip F)).length<=sizeLine:=by
   have h1:=Bz (f.zip F) [];rw[eZ,gB] at h1;exact eP (cH (show (pL [] (f.zip F)).length<=1000 by omega) (by decide))
  have t:d.heap.objs.size<=E.objs.size:=by omega
  have kp:∀ b o,d.heap.get? b=some o->h2.get? b=some o:=λb o e=>hk b o (λq=>by
   have:=aY e;simp only[aI,bJ,eM] at q;rcases q with q | q | q | q<;>rw[q] at this<;>first | exact absurd this (eO _) | exact absurd this (lF.mpr (fC _ _))) (U b o e)
  refine⟨.ref E.objs.size,_,z.laid (a:=E.objs.size) (o:=.k (pL [] (f.zip F))) (t':=tk) kp t ?_,rfl,q _ (z.hok.fresh t)⟩;exact Bo M (cO.mpr (cY (bH (bD z.big t)))) (G.merge .nil) hD
end
section
variable {X:Cx}{K:lL}
def U9:OC:=λb e=>match b with
 | [.t c,.t d]=>∃ a,wC c=some a/\a.length<=1000/\e (.o (.k (oW [] (a.zip d))))
 | _=>False
theorem JL:qX K (λo H Q=>∃ (l m:Ad) (g:Aa hI) (j:Aa V),o=[.ref l,.ref m]/\mF K H l (g.map kV)/\mF K H m j/\g.length<=1000/\∀ d,H d=none->Q (.ref d) (upd H d (.k (pL [] (g.zip j))))) U9:=by
 intro B L H f o F Q hd h c k;cases f with
 | nil=>exact False.elim c
 | cons d f =>
 cases d<;>first | exact False.elim c | skip
 cases f with
 | nil=>exact False.elim c
 | cons e f =>
 cases e<;>first | exact False.elim c | skip
 cases f with
 | cons _ _=>exact False.elim c
 | nil =>
 .obtain⟨x,y,rfl,t,py⟩:=C1 h;obtain⟨g,q,s,c⟩:=c;obtain⟨a,E,rfl,i,w⟩:=t.tup_inv;obtain⟨b,j,rfl,n,z⟩:=py.tup_inv;have e:=Ry q w;subst e;obtain⟨A,D⟩:=Ku g z;obtain⟨u,v⟩:=Ca (kvs:=[]) (vs:=[]) A D rfl .nil;exact⟨a,b,g,j,rfl,mF.of i,mF.of n,s,λp h=>k _ _ _ c (hd.dKF h u v)⟩
theorem DA (g:X.calm=true) (I:Gl X "dict") (J:X.mg "dict" = none) (l:Gl X "zip") (o:X.mg "zip" = none) (C:rT X [a,b] U)
  (T:starEach [a,b] X.env=(false,eval a X.env)::starEach [b] X.env:=by rfl) (r:(backTo j (starEach [b] X.env)).any (·.1)=false:=by rfl) :
  PD X (.Call (.Name "dict" p) [.Call (.Name "zip" p') [a,b] [] j] [] pos) (dC U9 U):=(EM g I J l o C T r).mono λ_ _ _ h=>Hh JL h
def vo (i:Nat):mP:=λ_ a b=>match a[i]? with
 | some (.o d)=>b (.o d) (a.set i .n)
 | _=>False
theorem B1 (i:Nat) (h:PE X (.Name x pos) (oY i)):PD X (.Name x pos) (vo i):=h.mono λG H Q q=>q.elim λB E T F m hd c k=>by
 unfold vo at c;cases f:E[i]? with
 | none=>rw[f] at c;exact False.elim c
 | some s =>
 rw[f] at c;cases s<;>first | exact False.elim c | skip
 .rename_i d
  obtain⟨a,y,b,t,_,z,e⟩:=vW m f;have u:=e .n y;rw[Bx t] at u;obtain⟨v,w,_⟩:=hd.peek m (d:=d) (i:=i) (by unfold at?;rw[f];rfl);rw[t] at w;cases w;refine⟨v,t,k _ _ v H (by rw[bU];exact m) ?_ c⟩;rw[z,bM,cV] at hd;rw[u,bM,cV];have d1:DS X.K B ((.o d,some v)::(a++(b++T))) H:=hd.perm gQ;have d2:DS X.K B (((.o d,some v)::a)++(Sl.n,some v)::(b++T)) H:=DS.pushN (L1:=(.o d,some v)::a) (L2:=b++T) d1 (some v);refine d2.perm ?_;have A:(((Sl.o d,some v)::a)++(Sl.n,some v)::(b++T)).Perm ((Sl.o d,some v)::(a++(Sl.n,some v)::b++T)):=by simp
  refine A.trans ?_;have D:((Sl.o d,some v)::(a++(Sl.n,some v)::b++T)).Perm ((a++(Sl.n,some v)::b)++(Sl.o d,some v)::T):=gQ.symm;refine D.trans (by simp)
end
structure SwK (H H':Hp) (a:Addr) (kvs:List (hI×V)):Prop where
 out:∀ b,b≠a->H' b=H b
 l:Rd H a (.k kvs)
 r:Rd H' a (.k kvs)
section
theorem SwK.ne (s:SwK H I a j) (h:H b=some u) (p:∀ g,u ≠ .k g) (C:∀ o g,u ≠ .frz o (.k g)):b≠a:=λz=>by
 subst z;rcases s.l with q | ⟨o,q⟩<;>rw[q] at h<;>cases h
 .exact p _ rfl
 .exact C _ _ rfl
theorem SwK.get (s:SwK H j a p) (h:H b=some u) (C:∀ g,u ≠ .k g) (I:∀ o g,u ≠ .frz o (.k g)):j b=some u:=by rw[s.out b (s.ne h C I)];exact h
end
section
variable {X:Cx}
theorem Inv.swappedK (I:Inv X r J H s) (sw:SwK H g a j) (C:∀ o u,X.H₀ a≠some (.frz o u)) (ok:nV X.prog X.w g s.heap a (.k j)->∀ u,g a=some u->nV X.prog X.w g s.heap a u):Inv X r J g s:=by
 have d:∀ b,H b=none->g b=none:=λb e=>by
  rw[sw.out b λz=>by subst z;rcases sw.l with q | ⟨o,q⟩<;>rw[q] at e<;>cases e];exact e
 have oP:∀ b h,H b=some (.t h)->g b=some (.t h):=λb h e=>sw.get e (λ_ z=>nomatch z) (λ_ _ z=>nomatch z)
 have f:∀ b y,H b=some (.o y)->g b=some (.o y):=λb h e=>sw.get e (λ_ z=>nomatch z) (λ_ _ z=>nomatch z)
 refine⟨I.ok,I.os,I.bare,⟨I.base.keep,I.base.slot,λb u e n x=>d b (I.base.free b u e n x),I.base.there,λb h e=>oP b h (I.base.tups b h e),λb i u e=>?_,λb v e=>?_⟩,I.loc,I.cell,d _ I.free,λx c e=>d c (I.freeC x c e),λp m=>?_,λb u e=>?_,I.len⟩
 .have ne:b≠a:=λz=>C i u (z▸e)
  rw[sw.out b ne];exact I.base.frzs b i u e
 .obtain⟨more,q⟩:=I.base.tbls b v e;exact⟨more,sw.get q (λ_ z=>nomatch z) (λ_ _ z=>nomatch z)⟩
 .obtain⟨A,B,D⟩:=I.pin p m;exact⟨A,d _ B,D⟩
 .by_cases z:b=a
  .subst z;have base:nV X.prog X.w H s.heap b (.k j):=sw.l.ok I.hok;exact ok (base.stay (λ_ _ _ q=>q) (λc q=>f c _ q) oP) u e
  .rw[sw.out b z] at e;exact (I.hok b u e).stay (λ_ _ _ q=>q) (λc q=>f c _ q) oP
theorem Inv.frozenK (I:Inv X g r H s) (l:H a=some (.k j)) (p:s.heap.get? a=some o):Inv X g r (upd H a (.frz o (.k j))) s:=by
 refine I.swappedK ⟨λb n=>lS n,.inl l,.inr ⟨o,lR⟩⟩ (λc u e=>?_) λq u e=>?_
 .have:=I.base.frzs a c u e;rw[l] at this;cases this
 .rw[lR] at e;cases e;exact⟨p,q⟩
theorem Inv.thawedK (I:Inv X g r H s) (p:H a=some (.frz o (.k j))) (l:∀ o u,X.H₀ a≠some (.frz o u)):Inv X g r (upd H a (.k j)) s:=by
 refine I.swappedK ⟨λb n=>lS n,.inr ⟨o,p⟩,.inl lR⟩ l λq u e=>?_
 rw[lR] at e;cases e;exact q
end
def Gr (a:Ad) (o:Obj) (g:Aa (hI×V)):It :=
 ⟨λi H=>H a=some (.frz o (.k g))/\i<g.length,λi H x b=>b=H/\∃ k v,g[i]?=some (k,v)/\x=kV k,λi H=>H a=some (.frz o (.k g))/\i=g.length⟩
theorem Xh (h:yM k v=true):mC (kV k) v:=by
 rcases vE h with⟨i,t,rfl,rfl⟩ | ⟨x,t,rfl,rfl⟩
 .exact⟨t,rfl⟩
 .exact⟨t,rfl⟩
theorem pairs_at {P:Ah}:∀ {g:Aa DictEntry}{j:Aa (hI×Ac)},Pairs (pC P w) g j->g.length=j.length/\∀ (i:Nat) e q,g[i]?=some e->j[i]?=some q->yM q.1 e.key=true/\e.val=q.2:=by
 intro g;induction g with
 | nil=>intro j h;cases h;exact⟨rfl,λi e q h=>by cases h⟩
 | cons a g m =>
  intro j h;cases h with
  | cons d f k =>
   obtain⟨n,s⟩:=m k;refine⟨bY (·+1) n,λi e q b c=>?_⟩;cases i with
   | zero=>cases b;cases c;exact⟨d,f⟩
   | succ i=>exact s i e q b c
theorem Kk {P:Ah}(ok:nP P w H h) (C:H a=some (.frz o (.k g))) :
  ∃ j l,RawD h a o j l/\j.size=g.length/\∀ (i:Nat) (p:i<j.size),∃ k v,g[i]?=some (k,v)/\mC (kV k) j[i].key:=by
 obtain⟨c,z,lo,y,r,D,j,l,d,f,m,A,n,_⟩:=(show nV P w H h a (.frz o (.k g)) from ok a _ C);rw[c] at d;cases d;have B:g.length=y.length:=fN r;obtain⟨u,b⟩:=pairs_at n;rw[fH] at u;refine⟨j,l,⟨lo,c,f,m⟩,by omega,λi p=>?_⟩;have e:i<g.length:=by omega
 obtain⟨q,s,x,_⟩:=Jj r (aQ e);obtain⟨t,_⟩:=b i j[i] q (by rw[fB,cR p]) s;exact⟨g[i].1,g[i].2,aQ e,by rw[x];exact Xh t⟩
theorem CV {P:Ah}{K:lL}(a j:Ad) (o:Obj) (l:Aa (hI×V)):Turn P w K T (Gr a o l) [j] j (λi h=>∃ g,(∃ p,o.data = .dict p g)/\h.IsKeyIter j a i l.length g) where
 mem:=aH
 obj:=λi h st b n=>by
  obtain rfl:=aZ.mp n;obtain⟨_,_,o,e,c,d⟩:=st;exact⟨o,e,λv z=>by rw[d] at z;cases z⟩
 keep:=λi h x ⟨g,q,o,e,r⟩ k=>⟨g,q,o,k j aH o e,r⟩
 item:=by
  intro X L hw G Q i m s R H E I y st N;subst L hw G;obtain⟨g,⟨A,t⟩,st⟩:=st;obtain⟨M,O⟩:=N;obtain⟨p,f,raw,sz,rows⟩:=Kk I.hok M;have:f=g:=by have:=raw.dat;rw[t] at this;cases this;rfl
  subst this;rw[<- sz] at st O;obtain⟨k,v,Y,Z⟩:=rows i O;obtain⟨f0,f1,f2,B,D,F⟩:=y j aH;refine T6 raw st O λx u C=>?_
  have S:Inv X m R H { s with heap:=x }:=I.turned (t':=s.toks) (λb o n e=>(C.2 b n).trans e) f0 f1 B D F;rw[sz] at u;obtain⟨J,e,c,d⟩:=id u;exact⟨_,rfl,zH (s:={ s with heap:=x }) e c d (by decide) ⟨kV k,H,S,Z,⟨rfl,k,v,Y,rfl⟩,⟨f,⟨p,raw.dat⟩,u⟩,λb n=>(y b n).1⟩⟩
 done:=by
  intro X L hw G Q i m s R H E I y st N;subst L hw G;obtain⟨g,⟨A,t⟩,st⟩:=st;obtain⟨M,rfl⟩:=N;obtain⟨p,f,raw,sz,rows⟩:=Kk I.hok M;have:f=g:=by have:=raw.dat;rw[t] at this;cases this;rfl
  subst this;rw[<- sz] at st;obtain⟨f0,f1,f2,B,D,F⟩:=y j aH;exact Rw (I.ok.hd Q) raw st λx W=>⟨rfl,I.turned (t':=s.toks) (λb o n e=>W b o n e) f0 f1 B D F⟩
 self:=λ_ _ _ _ _ ⟨_,_,st⟩ h=>wpAny_pyIter_keyiter st h
def Ht (g:TE):TI:=λd H R=>g d H λx c=>∃ a o b,x = .ref a/\c a=some (.frz o (.k b))/\R (Gr a o b) c
theorem Bd {X:Cx}(g:PE X l j):PI X p l (Ht j):=by
 intro c s A H R I h;refine lQ (g c s A H _ I h) λv i k=>?_
 obtain⟨x,m,f,z,a,o,d,e,w,q⟩:=k;subst e;cases z;obtain⟨t,n,raw,sz,_⟩:=Kk f.hok w;have u:∀ b∈[i.heap.objs.size],sR X c m b:=λb y=>by
  obtain rfl:=aZ.mp y;exact f.fpOk (aW _) (f.hok.fresh (aW _))
 refine Vq raw ⟨i.heap.objs.size,[i.heap.objs.size],_,Gr a o d,m,rfl,f.kept (t':=i.toks) λb B q=>aK _ q,CV a _ o d,⟨n,⟨t,raw.dat⟩,?_⟩,u,q⟩;exact⟨_,bA _ rfl,rfl,by rw[sz];rfl⟩
theorem Xz:Yields (Gr a o g) (g.map λp=>kV p.1) (λH=>H a=some (.frz o (.k g))) :=
 ⟨λi H b r=>⟨r,by rw[aA] at b;exact b⟩,λi H x d b r y=>by
  obtain⟨e,k,v,c,rfl⟩:=y;exact⟨e,by rw[bC,c];rfl⟩,λi H e r=>⟨r,by rw[aA] at e;exact e⟩⟩
end L2
namespace Lw
open PySem L2
def vT (t:lZ):Aa (hI×V):=t.map λp=>(Sum.inr p.1,V.int p.2)
noncomputable def qA (t:lZ) (x:Af) (i:Int):lZ:=if x∈t.map (·.1) then t.map (λp=>if p.1=x then (p.1,i) else p) else t++[(x,i)]
theorem JK (t:lZ) (x:Af) (i:Int):nY (vT t) (Sum.inr x) (.int i)=vT (qA t x i):=by
 unfold nY qA;have e:((vT t).any λa=>decide (a.1=(Sum.inr x:hI)))=decide (x∈t.map (·.1)):=by
  rw[hV];simp only[vT,List.any_map,iL,cI,eV,aE,Sum.inr.injEq]
 rw[e];by_cases h:x∈t.map (·.1)
 .rw[aT (cB h),aT h];unfold vT;rw[aF,aF];refine bL λp _=>?_
  show (if (Sum.inr p.1:hI)=Sum.inr x then ((Sum.inr p.1:hI),V.int i) else (Sum.inr p.1,V.int p.2))=(Sum.inr (if p.1=x then (p.1,i) else p).1,V.int (if p.1=x then (p.1,i) else p).2);by_cases q:p.1=x
  .rw[aT (by rw[q]),aT q]
  .rw[aN (λz=>q (gC z)),aN q]
 .rw[aN (by simp[h]),aN h];unfold vT;rw[List.map_append];rfl
theorem To (t:lZ) (x:Af) (i:Int):mY (dK t) (Sum.inr x) (.int i)=dK (qA t x i):=by
 unfold mY qA;have e:((dK t).any λa=>decide (a.1=(Sum.inr x:hI)))=decide (x∈t.map (·.1)):=by
  rw[hV];simp only[dK,List.any_map,iL,cI,eV,aE,Sum.inr.injEq]
 rw[e];by_cases h:x∈t.map (·.1)
 .rw[aT (cB h),aT h];unfold dK;rw[aF,aF];refine bL λp _=>?_
  show (if (Sum.inr p.1:hI)=Sum.inr x then ((Sum.inr p.1:hI),D.int i) else (Sum.inr p.1,D.int p.2))=(Sum.inr (if p.1=x then (p.1,i) else p).1,D.int (if p.1=x then (p.1,i) else p).2);by_cases q:p.1=x
  .rw[aT (by rw[q]),aT q]
  .rw[aN (λz=>q (gC z)),aN q]
 .rw[aN (by simp[h]),aN h];unfold dK;rw[List.map_append];rfl
theorem B7 (t u:lZ) (x:Af):gD (t++u) x=if x∈t.map (·.1) then gD t x else gD u x:=by
 induction t with
 | nil=>rw[fY,aN (by simp)]
 | cons p t a =>
  rw[cV,qC,qC];by_cases e:p.1=x
  .rw[aT e,aT e,aT (by rw[<- e];exact aH)]
  .rw[aN e,aN e,a,aP];by_cases q:x∈t.map (·.1)
   .rw[aT q,aT (aM _ q)]
   .rw[aN q,aN (λz=>(aI.mp z).elim (λz=>e z.symm) q)]
theorem CN (t:lZ) (x y:Af) (i:Int):gD (qA t x i) y=if y=x then i else gD t y:=by
 unfold qA;by_cases h:x∈t.map (·.1)
 .rw[aT h];induction t with
  | nil=>simp at h
  | cons p t c =>
   rw[aP,qC,qC];by_cases e:p.1=x
   .rw[aT e];by_cases q:p.1=y
    .rw[aT q,aT (by rw[<- q,e])]
    .rw[aN q];by_cases a:x∈t.map (·.1)
     .rw[c a,aN q]
     .have:t.map (λp=>if p.1=x then (p.1,i) else p)=t:=by
       conv=>rhs;rw[<- fO t]
       exact bL λr d=>aN λz=>a (by rw[<- z];exact eY (f:=λp:Af×Int=>p.1) d)
      rw[this,aN (λz=>q (by rw[e,z])),aN q]
   .rw[aN e];have a:x∈t.map (·.1):=(aI.mp h).resolve_left λz=>e z.symm
    by_cases q:p.1=y
    .rw[aT q,aN (λz=>e (by rw[q,z])),aT q]
    .rw[aN q,c a,aN q]
 .rw[aN h,B7];by_cases q:y=x
  .rw[aT q,aN (by rw[q];exact h),qC,aT q.symm]
  .rw[aN q];by_cases b:y∈t.map (·.1)
   .rw[aT b]
   .rw[aN b,qC,aN (λz=>q z.symm),(nI t y).2 b |>.2];rfl
theorem Me {K:lL}:∀ (t:lZ) (g:Aa (hI×V)),(dK t).map (·.1)=g.map (·.1)->Reps K A H ((dK t).map (·.2)) (g.map (·.2))->g=vT t:=λt=>by
 induction t with
 | nil =>
  intro g k r;cases g with
  | nil=>rfl
  | cons p q=>simp[dK] at k
 | cons p t d =>
  intro g k r;cases g with
  | nil=>simp[dK] at k
  | cons q g =>
   obtain⟨e,i⟩:=q;simp only[dK,aP,fZ] at k r;cases r with
   | cons f h =>
    have a:=d g k.2 h;have b:=f.int_inv;have c:Sum.inr p.1=e:=k.1;subst a b c;rfl
theorem Hn {K:lL}(h:Rep K A H (.k (dK t)) v):∃ a,v = .ref a/\A a/\H a=some (.k (vT t)):=by
 obtain⟨a,b,rfl,c,e,k,r⟩:=h.dK_inv;exact⟨a,rfl,c,by rw[e,Me t b k r]⟩
theorem Yi (t:lZ):(dK t).map (·.1)=(vT t).map (·.1):=by simp[dK,vT,cI]
theorem Tn {K:lL}:∀ t:lZ,Reps K A H ((dK t).map (·.2)) ((vT t).map (·.2))
 | []=>.nil
 | _::t=>.cons (.int _) (Tn t)
theorem DN {K:lL}(h:H a=some (.k (vT t))):oO K A H a (.k (dK t)):=⟨vT t,h,Yi t,Tn t⟩
theorem P8 (g:(t.map (·.1)).Nodup) (h:p∈t):oV (vT t) (Sum.inr p.1)=some (.int p.2):=by
 induction t with
 | nil=>cases h
 | cons q t a =>
  obtain⟨c,d⟩:=cD.mp g;show ((((Sum.inr q.1:hI),V.int q.2)::vT t).find? λb=>decide (b.1=Sum.inr p.1)).map (·.2)=_;rw[cZ];rcases aI.mp h with z | z
  .subst z;rw[cB rfl];rfl
  .have:¬ (Sum.inr q.1:hI)=Sum.inr p.1:=λe=>c (by show q.1∈t.map (·.1);rw[gC e];exact eY (f:=λp:Af×Int=>p.1) z)
   rw[bR this];exact a d z
theorem Cs:∀ {x:Af},x∈t.map (·.1)->(x,gD t x)∈t:=by
 induction t with
 | nil=>intro x h;simp at h
 | cons p t a =>
  intro x h;rw[qC];by_cases e:p.1=x
  .rw[aT e,<- e];exact aH
  .rw[aN e];exact aM _ (a ((aI.mp h).resolve_left λz=>e z.symm))
theorem rM (g:(t.map (·.1)).Nodup) (h:p∈t):gD t p.1=p.2:=by
 induction t with
 | nil=>cases h
 | cons q t a =>
  obtain⟨b,c⟩:=cD.mp g;rw[qC];rcases aI.mp h with z | z
  .subst z;rw[aT rfl]
  .rw[aN (λe=>b (by show q.1∈t.map (·.1);rw[e];exact eY (f:=λp:Af×Int=>p.1) z)),a c z]
theorem W1 (g:(t.map (·.1)).Nodup) (h:x∈t.map (·.1)):oV (vT t) (Sum.inr x)=some (.int (gD t x)):=P8 g (p:=(x,gD t x)) (Cs h)
end Lw
namespace L2
open PySem PySem.Spec PyProof.Rows Lw
def Z0 (n m:Nat) (g:mP):pP:=λd c b=>∃ (t:lZ) (x:Af),b[n]?=some (.o (.k (dK t)))/\b[m]?=some (.v (.str x))/\x∈t.map (·.1)/\(t.map (·.1)).Nodup/\t.length<=1000/\g d b λr a=>match r with
 | .v (.int j)=>a[n]?=some (.o (.k (dK t)))/\c.nx (a.set n (.o (.k (dK (qA t x (gD t x+j))))))
 | _=>False
section
variable {X:Cx}
theorem OV (hu:X.A.units+1<cLine) (U:PE X o (oY n)) (J:PE X i (oY m)) (I:PD X e te) (C:∀ l g new,augStore i l g new=(do holding [new,l,g] (setItem l g new);release [new,l,g] [];pure .next):=by intros;rfl) :
  sW X (.AugAssign (.Subscript o i p) .Add e pos) (Z0 n m te) :=
 (OE hu U J I LI C).mono λDn σ H u=>u.elim λB ρ T De s hd w S=>by
  obtain⟨t,x,P,O,R,V,lt,w⟩:=w;obtain⟨b,G,Y,_⟩:=hd.slotW s P;obtain⟨v,Q,pv⟩:=hd.peek s (d:=.str x) (i:=m) (by unfold at?;rw[O];rfl);have:=pv.str_inv;subst this;obtain⟨D,K,M,W⟩:=Y;rw[Me t D M W] at K;refine⟨_,G,_,Q,b,.int (gD t x),rfl,?_,B,ρ,T,_,s,hd,w,λr aa y H' L d1 a=>?_⟩
  .have:=qD.k (k:=(Sum.inr x:hI)) K;rw[W1 V R] at this;exact this
  cases r<;>first | exact False.elim a | skip
  rename_i d
  cases d<;>first | exact False.elim a | skip
  rename_i j
  have:=d1.valAt.int_inv;subst this;obtain⟨N,a⟩:=a;obtain⟨b',c,F,Z⟩:=d1.drop.slotW L N;rw[G] at c;cases c;obtain⟨h,f,q,E⟩:=F;rw[Me t h q E] at f;have z:(vT t).length<sizeLine:=by unfold vT;rw[List.length_map];exact cH lt (by decide)
  refine⟨_,_,rfl,rfl,_,wB.k (k:=Sum.inr x) f z,?_⟩;rw[JK];exact (S.1 _ _ _ (by rw[bU];exact L) rfl (Z _ (.k (dK (qA t x (gD t x+j)))) λA' kp=>DN lR)).1 a
end
end L2
namespace PySem
open PyProof.Rows L2
def nH (b:Bool) (h:Ag) (g t:Ad) (i:Nat):Prop:=match b with
 | true=>h.IsTupleIter g t i
 | false=>h.IsListIter g t i
def nO (b:Bool) (h:Ag) (a:Ad) (g:Array Ac):Prop:=match b with
 | true=>h.IsTuple a g
 | false=>h.IsList a g
theorem pR (x:nH b h g t i) (k:∀ o,h.get? g=some o->j.get? g=some o):nH b j g t i:=by
 cases b
 .exact let ⟨o,e,r⟩:=(show h.IsListIter g t i from x);⟨o,k o e,r⟩
 .exact let ⟨o,e,r⟩:=(show h.IsTupleIter g t i from x);⟨o,k o e,r⟩
theorem qG (x:nO b h a g) (k:∀ o,h.get? a=some o->j.get? a=some o):nO b j a g:=by
 cases b
 .exact let ⟨o,e,r⟩:=(show h.IsList a g from x);⟨o,k o e,r⟩
 .exact let ⟨o,e,r⟩:=(show h.IsTuple a g from x);⟨o,k o e,r⟩
theorem Aw (x:nH b h g t i):∃ o,h.get? g=some o:=by
 cases b
 .exact let ⟨o,e,_⟩:=(show h.IsListIter g t i from x);⟨o,e⟩
 .exact let ⟨o,e,_⟩:=(show h.IsTupleIter g t i from x);⟨o,e⟩
theorem Bb (x:nO b h a g):∃ o,h.get? a=some o:=by
 cases b
 .exact let ⟨o,e,_⟩:=(show h.IsList a g from x);⟨o,e⟩
 .exact let ⟨o,e,_⟩:=(show h.IsTuple a g from x);⟨o,e⟩
section
theorem Bw (I:nH b s.heap j t i) (T:nO b s.heap t l) (o:l[i]?=some x) (q:∀ g,nH b g j t (i+1)->Heap.SameBut j s.heap g->Q x { s with heap:=g }) :
  wpAny (model p w) A (Builtin.SmallTypes.nextOf (.ref j)) Q E s:=by
 cases b
 .exact wpAny_nextOf_list_item I T o q
 .exact zW I T o q
theorem Hi (calm:A.handled=none) (I:nH b s.heap p t i) (T:nO b s.heap t j) (l:j[i]?=none)
  (q:∀ g e,Heap.ExtBut p s.heap g->(∃ o,g.get? e=some o/\o.cls = .type "StopIteration")->E (.ref e) { s with heap:=g }):wpAny (model r w) A (Builtin.SmallTypes.nextOf (.ref p)) Q E s:=by
 cases b
 .exact wpAny_nextOf_list_end calm I T l q
 .exact Dt calm I T l q
theorem Nm {I J:Bool}{z TI TO j l r C:Ad}{k1 k2:Nat}{xs ys:Array Ac}{x y a b:Ac}{Q:Ab Ac->Ae->Prop}(D:ZipApart z TI TO j l r C) (hz:IsZip s.heap z TI TO .none) (T:IsPair s.heap TI (.ref j) (.ref l)) (U:IsPair s.heap TO a b)
  (h1:nH I s.heap j r k1) (h2:nH J s.heap l C k2) (aa:nO I s.heap r xs) (ab:nO J s.heap C ys) (hx:xs[k1]?=some x) (hy:ys[k2]?=some y)
  (ac:∀ g,IsZip g z TI TO (rawInt s.heap.objs.size)->IsPair g TO x y->nH I g j r (k1+1)->nH J g l C (k2+1)->IsPair g s.heap.objs.size x y->g.objs.size=s.heap.objs.size+1 ->(∀ c o,c≠z->c≠TO->c≠j->c≠l->s.heap.get? c=some o->g.get? c=some o)->Q (some (.ref s.heap.objs.size)) { s with heap:=g }):wpAny (model ae w) A (pyNext (.ref z)) Q E s:=by
 have ty:s.TypeIs (.ref z) "zip" := ⟨_,hz,rfl⟩;unfold pyNext;refine aB (dN (cA (name:=Str.ofString "__next__") ty cQ (cM cQ ty fE (El (p:=a) (q:=b) hz T λg1 Y f=>?_) (eX _))));have d:∀ c o,c≠z->s.heap.get? c=some o->g1.get? c=some o:=λc o n e=>f.extBut _ _ n e
 refine Bw (pR h1 λo e=>d _ o D.i1z e) (qG aa λo e=>d _ o D.l1z e) hx λg2 S h=>?_
 have i:∀ c o,c≠j->g1.get? c=some o->g2.get? c=some o:=λc o n e=>h.extBut _ _ n e
 refine⟨i _ _ D.TOi1 (d _ _ D.TOz U),λg3 W H=>?_⟩;have k:∀ c o,c≠TO->g2.get? c=some o->g3.get? c=some o:=λc o n e=>H.extBut _ _ n e
 refine Bw (pR h2 λo e=>k _ o D.TOi2.symm (i _ o D.i12.symm (d _ o D.i2z e))) (qG ab λo e=>k _ o D.l2TO (i _ o D.l2i1 (d _ o D.l2z e))) hy λF V K=>?_
 have t:∀ c o,c≠l->g3.get? c=some o->F.get? c=some o:=λc o n e=>K.extBut _ _ n e
 refine⟨t _ _ D.TOi2 W,λG X L=>?_⟩;have u:∀ c o,c≠TO->F.get? c=some o->G.get? c=some o:=λc o n e=>L.extBut _ _ n e
 have sz:G.objs.size=s.heap.objs.size:=by rw[L.1,K.1,H.1,h.1,f.1]
 refine⟨u _ _ D.TOz.symm (t _ _ D.i2z.symm (k _ _ D.TOz.symm (i _ _ D.i1z.symm Y))),λg M N O m=>?_⟩;rw[sz] at M N O |-;refine aG (ac g M (m _ _ D.TOz X) (pR S λo e=>m _ o D.i1z (u _ o D.TOi1.symm (t _ o D.i12 (k _ o D.TOi1.symm e)))) (pR V λo e=>m _ o D.i2z (u _ o D.TOi2.symm e)) N O λc o v B P R e=>?_);exact m c o v (u c o B (t c o R (k c o B (i c o P (d c o v e)))))
theorem Ut {b1 l:Bool}{z TI TO j I l1 l2:Ad}{k1 k2:Nat}{xs ys:Array Ac}{a b:Ac}{Q:Ab Ac->Ae->Prop}(calm:A.handled=none) (D:ZipApart z TI TO j I l1 l2) (hz:IsZip s.heap z TI TO .none) (aa:IsPair s.heap TI (.ref j) (.ref I)) (ab:IsPair s.heap TO a b)
  (h1:nH b1 s.heap j l1 k1) (h2:nH l s.heap I l2 k2) (C:nO b1 s.heap l1 xs) (ac:nO l s.heap l2 ys) (r:xs[k1]?=none\/ys[k2]?=none)
  (ae:∀ U,(∀ c o,c≠z->c≠TO->c≠j->c≠I->s.heap.get? c=some o->U.get? c=some o)->Q none { s with heap:=U }):wpAny (model J w) A (pyNext (.ref z)) Q E s:=by
 have ty:s.TypeIs (.ref z) "zip" := ⟨_,hz,rfl⟩;have f:∀ (g:Ag) (e:Ad),(∀ c o,c≠z->c≠TO->c≠j->c≠I->s.heap.get? c=some o->g.get? c=some o)->(∃ o,g.get? e=some o/\o.cls = .type "StopIteration")->IsZip g z TI TO .ellipsis ->
   B3 z TI TO (λe V=>wpAny (model J w) A (do if <- isInstance e (.type "StopIteration") then pure none else throw e) Q E V) (.ref e) { s with heap:=g }:=λg e k ⟨o,H,L⟩ O=>by
  refine⟨O,λU M=>?_⟩;have ne:e≠z:=λq=>by
   rw[q,O] at H;cases H;injection L with y;exact absurd y (by decide)
  exact aB (cU (T := "StopIteration") (b:=true) ⟨o,M.extBut _ _ ne H,L⟩ jP (aG (ae U λc o h v i B q=>M.extBut _ _ h (k c o h v i B q))))
 unfold pyNext;refine aB (dN (cA (name:=Str.ofString "__next__") ty cQ (cM cQ ty fE (El (p:=a) (q:=b) hz aa λg1 N F=>?_) (eX _))));have d:∀ c o,c≠z->s.heap.get? c=some o->g1.get? c=some o:=λc o n e=>F.extBut _ _ n e
 rcases fW xs[k1]? with m | ⟨x,m⟩
 .exact Hi calm (pR h1 λo e=>d _ o D.i1z e) (qG C λo e=>d _ o D.l1z e) m λg2 e l W=>f g2 e (λc o h _ i _ q=>l c o i (d c o h q)) W (l _ _ D.i1z.symm N)
 .refine Bw (pR h1 λo e=>d _ o D.i1z e) (qG C λo e=>d _ o D.l1z e) m λg2 Y G=>?_
  have t:∀ c o,c≠j->g1.get? c=some o->g2.get? c=some o:=λc o n e=>G.extBut _ _ n e
  refine⟨t _ _ D.TOi1 (d _ _ D.TOz ab),λg3 Z S=>?_⟩;have u:∀ c o,c≠TO->g2.get? c=some o->g3.get? c=some o:=λc o n e=>S.extBut _ _ n e
  have P:ys[k2]?=none:=r.elim (λn=>by rw[n] at m;cases m) id;exact Hi calm (pR h2 λo e=>u _ o D.TOi2.symm (t _ o D.i12.symm (d _ o D.i2z e))) (qG ac λo e=>u _ o D.l2TO (t _ o D.l2i1 (d _ o D.l2z e))) P λR e K X=>f R e (λc o h v i B q=>K c o B (u c o v (t c o i (d c o h q)))) X (K _ _ D.i2z.symm (u _ _ D.TOz.symm (t _ _ D.i1z.symm N)))
end
section
theorem Z1 {I J:Bool}{z TI TO T j l r C:Ad}{U k2:Nat}{f:Bool}{oT:Obj}{xs ys:Array Ac}{x y:Ac}{Q:Ac->Ae->Prop}(D:ZipApart z TI TO j l r C)
  (hz:uV s.heap z TI TO T f) (hT:s.heap.get? T=some oT) (aa:IsPair s.heap TI (.ref j) (.ref l))
  (h1:nH I s.heap j r U) (h2:nH J s.heap l C k2) (ab:nO I s.heap r xs) (ac:nO J s.heap C ys) (hx:xs[U]?=some x) (hy:ys[k2]?=some y)
  (hQ:∀ g,uV g z TI TO T true->nH I g j r (U+1)->nH J g l C (k2+1)->IsPair g s.heap.objs.size x y->g.objs.size=s.heap.objs.size+1 ->(∀ c o,c≠z->c≠j->c≠l->s.heap.get? c=some o->g.get? c=some o)->Q (.ref s.heap.objs.size) { s with heap:=g }) :
  wpAny (model ae w) A (Builtin.«zip.__next__» ⟨[.ref z],[]⟩) (λfin s'=>∃ v,fin = .done (.ret v)/\Q v s') E s:=by
 refine Gz hz hT aa λd K m=>?_
 have up1:∀ c o,c≠z->s.heap.get? c=some o->d.get? c=some o:=λc o n e=>m.extBut _ _ n e
 have there:nH I d j r U/\nH J d l C k2/\nO I d r xs/\nO J d C ys:=⟨pR h1 λo e=>up1 _ o D.i1z e,pR h2 λo e=>up1 _ o D.i2z e,qG ab λo e=>up1 _ o D.l1z e,qG ac λo e=>up1 _ o D.l2z e⟩;refine Bw there.1 there.2.2.1 hx λk G q=>?_
 have a:∀ c o,c≠j->d.get? c=some o->k.get? c=some o:=λc o n e=>q.extBut _ _ n e
 refine Bw (pR there.2.1 λo e=>a _ o D.i12.symm e) (qG there.2.2.2 λo e=>a _ o D.l2i1 e) hy λh H t=>?_
 have b:∀ c o,c≠l->k.get? c=some o->h.get? c=some o:=λc o n e=>t.extBut _ _ n e
 have i:h.objs.size=s.heap.objs.size:=t.1.trans (q.1.trans m.1);have more:∀ {c:Ad} {o p:Obj},h.get? c=some o->(h.push p).get? c=some o:=λe=>aK _ e
 refine wpAny_newTuple ⟨_,rfl,?_⟩ (hsz:=(show 2<=sizeLine by decide));have last:=hQ (h.push (seqObj "tuple" #[x,y] 0)) (more (b _ _ D.i2z.symm (a _ _ D.i1z.symm K))) (pR G λo e=>more (b _ o D.i12 e)) (pR H λo e=>more e) (i▸bA _ rfl) ((cE ..).trans (by rw[i]))
  λc o u B F e=>more (b _ _ F (a _ _ B (up1 _ _ u e)))
 rw[<- i] at last;exact last
theorem GN {TI TO:Ad}(hh:A.handled=none) (D:ZipApart z TI TO j U l l2)
  (hz:uV s.heap z TI TO T f) (hT:s.heap.get? T=some oT) (C:IsPair s.heap TI (.ref j) (.ref U))
  (h1:nH p s.heap j l k1) (h2:nH b2 s.heap U l2 k2) (I:nO p s.heap l xs) (J:nO b2 s.heap l2 ys) (g:xs[k1]?=none\/ys[k2]?=none)
  (hE:∀ r e,(∀ c o,c≠z->c≠j->c≠U->s.heap.get? c=some o->r.get? c=some o)->(∃ o,r.get? e=some o/\o.cls = .type "StopIteration")->E (.ref e) { s with heap:=r }) :
  wpAny (model aa w) A (Builtin.«zip.__next__» ⟨[.ref z],[]⟩) Q E s:=by
 refine Gz hz hT C λi M F=>?_
 have up1:∀ c o,c≠z->s.heap.get? c=some o->i.get? c=some o:=λc o n e=>F.extBut _ _ n e
 have there:nH p i j l k1/\nO p i l xs:=⟨pR h1 λo e=>up1 _ o D.i1z e,qG I λo e=>up1 _ o D.l1z e⟩;rcases fW xs[k1]? with b | ⟨x,b⟩
 .exact Hi hh there.1 there.2 b λk e t H=>hE k e (λc o d h _ q=>t c o h (up1 c o d q)) H
 .refine Bw there.1 there.2 b λk L G=>?_
  have a:∀ c o,c≠z->c≠j->s.heap.get? c=some o->k.get? c=some o:=λc o n m e=>G.extBut _ _ m (up1 c o n e)
  have y:ys[k2]?=none:=g.elim (λn=>by rw[n] at b;cases b) id;exact Hi hh (pR h2 λo e=>a _ o D.i2z D.i12.symm e) (qG J λo e=>a _ o D.l2z D.l2i1 e) y λB e u K=>hE B e (λc o d h v q=>u c o v (a c o d h q)) K
theorem HX {TI TO:Ad}(D:ZipApart z TI TO r C U l2)
  (j:wF s.heap z TI TO r C) (I:nH b1 s.heap r U k) (J:nH b2 s.heap C l2 k) (l:nO b1 s.heap U xs) (p:nO b2 s.heap l2 ys) (hx:xs[k]?=some x) (hy:ys[k]?=some y)
  (hQ:∀ g,wF g z TI TO r C->nH b1 g r U (k+1)->nH b2 g C l2 (k+1)->IsPair g s.heap.objs.size x y->g.objs.size=s.heap.objs.size+1 ->(∀ c o,c≠z->c≠TO->c≠r->c≠C->s.heap.get? c=some o->g.get? c=some o)->Q (some (.ref s.heap.objs.size)) { s with heap:=g }) :
  wpAny (model aa w) A (pyNext (.ref z)) Q E s:=by
 obtain⟨d,⟨a,b,i⟩,j⟩:=j;obtain⟨V,P⟩:=Aw I;obtain⟨W,R⟩:=Aw J;have q:∀ {c o},s.heap.get? c=some o->s.heap.objs.size≠c:=λe=>(bH (aY e)).symm
 rcases j with j | ⟨T,f,o,j,F,G,S,H,K⟩
 .refine Nm D j d i I J l p hx hy λg t L u v n B h=>?_
  exact hQ g ⟨h _ _ D.TIz D.TITO D.TIi1 D.TIi2 d,⟨_,_,L⟩,.inr ⟨_,false,_,t,n,q j,q i,q P,q R⟩⟩ u v n B h
 .have m:s.TypeIs (.ref z) "zip" := ⟨_,j,rfl⟩;unfold pyNext;refine aB (dN (cA (name:=Str.ofString "__next__") m cQ (cM cQ m fE (Z1 D j F d I J l p hx hy λg t u v n B h=>aG ?_) (eX _))));exact hQ g ⟨h _ _ D.TIz D.TIi1 D.TIi2 d,⟨_,_,h _ _ D.TOz D.TOi1 D.TOi2 i⟩,.inr ⟨T,true,_,t,h _ _ G H K F,G,S,H,K⟩⟩ u v n B λc o M _ N O e=>h c o M N O e
theorem Ys {TI TO:Ad}(hh:A.handled=none) (D:ZipApart z TI TO C I l1 l2)
  (j:wF s.heap z TI TO C I) (J:nH b1 s.heap C l1 k) (U:nH b2 s.heap I l2 k) (l:nO b1 s.heap l1 xs) (p:nO b2 s.heap l2 ys) (g:xs[k]?=none\/ys[k]?=none)
  (hQ:∀ r,(∀ c o,c≠z->c≠TO->c≠C->c≠I->s.heap.get? c=some o->r.get? c=some o)->Q none { s with heap:=r }):wpAny (model aa w) A (pyNext (.ref z)) Q E s:=by
 obtain⟨d,⟨a,b,i⟩,j⟩:=j;rcases j with j | ⟨T,f,o,j,t,B,F,G,H⟩
 .exact Ut hh D j d i J U l p g hQ
 .have h:s.TypeIs (.ref z) "zip" := ⟨_,j,rfl⟩;unfold pyNext;refine aB (dN (cA (name:=Str.ofString "__next__") h cQ (cM cQ h fE (GN hh D j t d J U l p g λr e x v=>?_) (eX _))));obtain⟨o,y,u⟩:=v;refine aB (cU (T := "StopIteration") (b:=true) ⟨o,y,u⟩ jP ?_);exact aG (hQ _ λc o m _ n q e=>x c o m n q e)
end
section
variable {K:Type} [DecidableEq K] {knd:KeyKind prog w K}{A:Around}{R:Result->Ae->Prop}
theorem Wk {TI TO:Ad}(hh:A.handled=none) (D:ZipApart z TI TO l p I J) (hd:d∉[z,TI,TO,l,p,I,J]) (more:Aa (K×Ac)) (hn:more.length=min U.size ys.size) (j:more.length<=sizeLine)
  (hT:∀ (i:Nat) x y,U[i]?=some x->ys[i]?=some y->∃ k,knd.is k x=true/\more[i]?=some (k,y)) (h0:Ag) :
  ∀ (m i:Nat) (s:Ae),more.length-i=m->i<=more.length->wF s.heap z TI TO l p->nH r s.heap l I i->nH C s.heap p J i->nO r s.heap I U->nO C s.heap J ys->(∀ b o,b∉[z,TO,l,p,d]->h0.get? b=some o->s.heap.get? b=some o)->s.heap.DictOf knd d (merged [] (more.take i)) ->
   (∀ g tk,(∀ b o,b∉[z,TO,l,p,d]->h0.get? b=some o->g.get? b=some o)->g.DictOf knd d (merged [] more)->R (.ok (.ret .none)) { s with heap:=g,toks:=tk }) ->
   codeAny (model prog w) A (.builtin "dict.update.loop" ⟨[.ref d,.ref z,.int (i:Int) 0,.none],[]⟩) R s:=by
 simp only[aI,bJ,eM,lA] at hd;obtain⟨d1,d2,S,V,W,d6,d7⟩:=hd;have na:∀ {b:Ad},b∉[z,TO,l,p,d]->b≠z/\b≠TO/\b≠l/\b≠p/\b≠d:=λj=>by
  simpa only [aI,bJ,eM,lA] using j
 intro m;induction m with
 | zero =>
  intro i s hm hi hz Z h2 c h kp H hR;have ei:i=more.length:=by omega
  subst ei;rw[bI (aW _)] at H;refine fA Ao ?_;rw[dQ uC _];show wpAny _ A.in1 (pyNext (.ref z) >>= _) _ _ s;refine aB (Ys (by simpa using hh) D hz Z h2 c h ?_ λg B=>?_)
  .rcases Nat.le_total U.size ys.size with q | q
   .exact .inl (dZ (by omega))
   .exact .inr (dZ (by omega))
  .show wpAny _ A.in1 (Builtin.Dict.addKeywords d [] >>= _) _ _ _;refine aB (aG ?_);obtain⟨o,F,E,u,rest⟩:=H;exact aG (hR g _ (λb o j e=>let ⟨r,C,P,Q,b5⟩:=na j;B b o r C P Q (kp b o j e)) ⟨o,F,E,B d _ d1 S V W u,rest⟩)
 | succ m ih =>
  intro i s hm hi hz Z h2 c h kp H hR;have ab:i<more.length:=by omega
  obtain⟨x,hx⟩:∃ x,U[i]?=some x:=⟨_,cR (by omega)⟩;obtain⟨y,hy⟩:∃ y,ys[i]?=some y:=⟨_,cR (by omega)⟩;obtain⟨ky,N,t⟩:=hT i x y hx hy;refine fA Ao ?_;rw[dQ uC _];show wpAny _ A.in1 (pyNext (.ref z) >>= _) _ _ s;refine aB (HX D hz Z h2 c h hx hy λg z' ac ae pr sz B=>?_);have aa:g.DictOf knd d (merged [] (more.take i)):=by
   obtain⟨o,F,E,u,rest⟩:=H;exact⟨o,F,E,B d _ d1 S V W u,rest⟩
  have af:nO r g I U:=qG c λo e=>B I o D.l1z D.l1TO D.l1i1 D.l1i2 e
  have ag:nO C g J ys:=qG h λo e=>B J o D.l2z D.l2TO D.l2i1 D.l2i2 e
  have pd:s.heap.objs.size≠d:=by
   obtain⟨o,F,E,u,rest⟩:=H;exact (bH (aY u)).symm
  show wpAny _ A.in1 (holding [Value.ref s.heap.objs.size] _ >>= _) _ _ _;refine aB (bX ?_);refine aB (wpAny_tryCatch ?_);unfold Builtin.Dict.pairItems;refine aB (eS (T := "tuple") ⟨_,pr,rfl⟩ ?_);rw[aT (by decide)];refine aB (eU pr rfl ?_);refine aG ?_;show wpAny _ A.in1 (holding [x,y] (dictSet d x y)) _ _ _;refine bX ?_;have v:(merged [] (more.take i)).length<=sizeLine:=by
   have X:=merged_length_le ([]:Aa (K×Ac)) (more.take i);rw[eZ,bZ] at X;omega
  refine kK (hsz:=v) N aa λG n sb=>?_
  rw[<- merged_take_succ [] more i (ky,y) t] at n;refine aG ⟨hX uC _,?_⟩;have X:(rawInt ((i:Int)+1))=Value.int ((i+1:Nat):Int) 0:=by rfl
  rw[X];have up:∀ b o,b≠d->g.get? b=some o->G.get? b=some o:=λb o j e=>by rw[sb.2 b j];exact e
  have zz:wF G z TI TO l p:=by
   obtain⟨p1,⟨a,b,p2⟩,p3⟩:=z';refine⟨up _ _ (cY d2) p1,⟨a,b,up _ _ (cY S) p2⟩,?_⟩;rcases p3 with p3 | ⟨T,f,o,q1,q2,q3,q4,q5,q6⟩
   .exact .inl (up _ _ (cY d1) p3)
   .by_cases M:T=d
    .subst M;obtain⟨o',F,E,u,rest⟩:=n;exact .inr ⟨T,f,_,up _ _ (cY d1) q1,u,q3,q4,q5,q6⟩
    .exact .inr ⟨T,f,o,up _ _ (cY d1) q1,up _ _ M q2,q3,q4,q5,q6⟩
  refine ih (i+1) _ (by omega) ab zz (pR ac λo e=>up _ o (cY V) e) (pR ae λo e=>up _ o (cY W) e) (qG af λo e=>up _ o (cY d6) e) (qG ag λo e=>up _ o (cY d7) e) (λb o j e=>?_) n λY tk O L=>hR Y tk O L
  obtain⟨r,C,P,Q,b5⟩:=na j;exact up b o b5 (B b o r C P Q (kp b o j e))
theorem KL {TI TO:Ad}(hh:A.handled=none) (D:ZipApart z TI TO U i2 l1 l2)
  (T:IsZip s.heap z TI TO .none) (l:IsPair s.heap TI (.ref U) (.ref i2)) (C:IsPair s.heap TO .none .none) (h1:nH b1 s.heap U l1 0) (h2:nH b2 s.heap i2 l2 0) (I:nO b1 s.heap l1 xs) (J:nO b2 s.heap l2 ys)
  (hn:more.length=min xs.size ys.size) (g:more.length<=sizeLine) (hT:∀ (i:Nat) x y,xs[i]?=some x->ys[i]?=some y->∃ k,knd.is k x=true/\more[i]?=some (k,y))
  (h:∀ (j:Ag) (tk:Nat),j.DictOf knd s.heap.objs.size (merged [] more)->(∀ b o,b∉[z,TO,U,i2]->s.heap.get? b=some o->j.get? b=some o)->Q (.ref s.heap.objs.size) { s with heap:=j,toks:=tk }) :
  wpAny (model prog w) A (call (.type "dict") [.ref z]) Q E s:=by
 let d:=s.heap.objs.size;have made:(vI s).heap.DictOf knd d []:=kC s.heap;have old:∀ b o,s.heap.get? b=some o->(vI s).heap.get? b=some o:=λb o e=>aK _ e
 refine callType_codes F.kt_called_dict (jY _) F.entry_dict_init (kt_code_dict_new _ (Q₁:=λv n=>v = .ref d/\n=vI s) ⟨rfl,rfl⟩) λv n q=>?_
 obtain⟨rfl,rfl⟩:=q;refine⟨made.typeIs,kT _ _,Ul made.typeIs (old _ _ T) (by simp[hh]) λc tk e x=>⟨hX uC _,?_⟩⟩;have keeps:∀ b o,s.heap.get? b=some o->c.get? b=some o:=λb o e=>x.keeps _ _ (old b o e)
 obtain⟨N,G⟩:=Aw h1;obtain⟨O,H⟩:=Aw h2;obtain⟨P,L⟩:=Bb I;obtain⟨S,M⟩:=Bb J;have a:∀ {b o},s.heap.get? b=some o->d≠b:=λe=>(bH (aY e)).symm
 have f:c.DictOf knd d []:=by
  obtain⟨o,u,t,p,r⟩:=made;exact⟨o,u,t,x.keeps _ _ p,r⟩
 refine Wk (knd:=knd) (by simp[hh]) D ?_ more hn g hT s.heap more.length 0 _ rfl (dL _) ⟨keeps _ _ l,⟨_,_,keeps _ _ C⟩,.inl (keeps _ _ T)⟩ (pR h1 λo e=>keeps _ o e) (pR h2 λo e=>keeps _ o e) (qG I λo e=>keeps _ o e) (qG J λo e=>keeps _ o e) (λb o _ e=>keeps b o e) (by simpa [merged] using f) λj m B fin=>?_
 .simp only[aI,bJ,eM,lA];exact⟨a T,a l,a C,a G,a H,a L,a M⟩
 .refine⟨rfl,h j m fin λb o g e=>B b o (λq=>?_) e⟩;simp only[aI,bJ,eM,lA] at g q;rcases q with q | q | q | q | q
  .exact g.1 q
  .exact g.2.1 q
  .exact g.2.2.1 q
  .exact g.2.2.2 q
  .exact a e q.symm
end
noncomputable def pX (b:Bool) (t:Ad):Obj:={ cls:=.type (match b with | true => "tuple_iterator" | false => "list_iterator"),data:=.fields #[.ref t,.int 0 0] }
theorem Qn (b:Bool) (e:h.get? g=some (pX b t)):nH b h g t 0:=by
 cases b
 .exact⟨_,e,rfl,rfl⟩
 .exact⟨_,e,rfl,rfl⟩
theorem Vk (T:nO b s.heap l j) (q:Q (.ref s.heap.objs.size) { s with heap:=s.heap.push (pX b l) }):wpAny (model g w) A (pyIter (.ref l)) Q E s:=by
 cases b
 .exact fG T q
 .exact jB T q
def Se (g j:Bool) (h:Ag) (s t:Ad):Ag:=((((h.push (pX g s)).push (pX j t)).push (yC (.ref h.objs.size) (.ref (h.push (pX g s)).objs.size))).push (yC .none .none)).push (K0 ((h.push (pX g s)).push (pX j t)).objs.size (((h.push (pX g s)).push (pX j t)).push (yC (.ref h.objs.size) (.ref (h.push (pX g s)).objs.size))).objs.size)
theorem DR (j p:Bool) (l m:Ad) (C I:Array Ac):Meets (Builtin.«zip.__new__» ⟨[.type "zip",.ref l,.ref m],[]⟩) (λ_ R s=>nO j s.heap l C/\nO p s.heap m I /\ ∀ r,r=Se j p s.heap l m->∀ n,n=s.heap.objs.size+4->R (.ok (.ret (.ref n))) { s with heap:=r }) :=
 .of_wp λf w A R s h=>by
  obtain⟨c,g,d,i,os⟩:=s;obtain⟨k,q,h⟩:=h;have under:=sub_zip;have a:nO j (Shared.heap ⟨c,g,d,i,os⟩) l C:=k;have b:nO p (Shared.heap ⟨c.push (pX j l),g,d,i,os⟩) m I:=qG q λo e=>aK _ e
  wp_walk using Vk a,Vk b
  refine⟨_,rfl,h _ rfl _ ?_⟩;rw[cE,cE,cE,cE]
section
theorem Nr (J:nO r s.heap l U) (T:nO C s.heap m ys)
  (q:∀ j,IsZip j (s.heap.objs.size+4) (s.heap.objs.size+2) (s.heap.objs.size+3) .none->IsPair j (s.heap.objs.size+2) (.ref s.heap.objs.size) (.ref (s.heap.objs.size+1))->IsPair j (s.heap.objs.size+3) .none .none ->nH r j s.heap.objs.size l 0->nH C j (s.heap.objs.size+1) m 0->j.objs.size=s.heap.objs.size+5->(∀ c o,s.heap.get? c=some o->j.get? c=some o)->Q (.ref (s.heap.objs.size+4)) { s with heap:=j }) :
  wpAny (model I w) A (call (.type "zip") [.ref l,.ref m]) Q E s:=by
 refine callType_new F.called_zip (by decide) (F.typeCall_zip_2 _ _) (F.newCall_zip_2 _ _) (λobj=>F.args_object_init_3 obj _ _) F.entry_zip_new (DR r C l m U ys) ⟨J,T,λj e n t=>?_⟩;subst e t;have d:(s.heap.push (pX r l)).objs.size=s.heap.objs.size+1:=cE ..;have h:((s.heap.push (pX r l)).push (pX C m)).objs.size=s.heap.objs.size+2:=by rw[cE,d]
 have i:∀ p,(((s.heap.push (pX r l)).push (pX C m)).push p).objs.size=s.heap.objs.size+3:=λp=>by rw[cE,h]
 have k:∀ p q,((((s.heap.push (pX r l)).push (pX C m)).push p).push q).objs.size=s.heap.objs.size+4:=λp q=>by rw[cE,i]
 have b:∀ (g:Ag) (o:Obj) (n:Nat),o.isFreed=false->g.objs.size=n->(g.push o).get? n=some o:=λg o n f e=>by rw[<- e];exact bA _ f
 have a:∀ {g:Ag} {o p:Obj} {c:Ad},g.get? c=some o->(g.push p).get? c=some o:=λe=>aK _ e
 unfold Se;rw[d,h,i];have z:=b ((((s.heap.push (pX r l)).push (pX C m)).push (yC (.ref s.heap.objs.size) (.ref (s.heap.objs.size+1)))).push (yC .none .none)) (K0 (s.heap.objs.size+2) (s.heap.objs.size+3)) _ rfl (k _ _);exact⟨⟨_,z,rfl⟩,q _ z (a (a (b _ _ _ rfl h))) (a (b _ _ _ rfl (i _))) (Qn r (a (a (a (a (bA _ rfl)))))) (Qn C (a (a (a (b _ _ _ rfl d))))) (by rw[cE,k]) λc o e=>a (a (a (a (a e))))⟩
end
end PySem
namespace L2
open PySem PySem.Spec PyProof.Rows
def qO (b:Bool) (K:lL) (H:Hp) (a:Ad) (g:Aa V):Prop:=match b with
 | true=>mF K H a g
 | false=>lO K H a g
section
variable {X:Cx}
theorem Inv.seqB (I:Inv X j o H s) (h:qO b X.K H a l):∃ g:Aa Ac,mB l g/\nO b s.heap a g.toArray:=by
 cases b
 .obtain⟨g,r,p,_⟩:=I.list h;exact⟨g,r,p.isList⟩
 .obtain⟨g,r,p,_⟩:=I.tuple h;exact⟨g,r,p⟩
theorem Inv.seqB_inj (I:Inv X j p H s) (h:qO b X.K H a l) (g:qO b X.K H a o):l=o:=by
 cases b
 .exact I.list_inj h g
 .exact I.tuple_inj h g
theorem Qp (x:nH b h g t i):∃ o,h.get? g=some o/\∀ v,o.data ≠ .cell v:=by
 cases b
 .obtain⟨o,e,_,d⟩:=(show h.IsListIter g t i from x);exact⟨o,e,λv z=>by rw[d] at z;cases z⟩
 .obtain⟨o,e,_,d⟩:=(show h.IsTupleIter g t i from x);exact⟨o,e,λv z=>by rw[d] at z;cases z⟩
end
def Jt (g j:Bool) (K:lL) (a b:Ad):It :=
 ⟨λi H=>∃ c d x y,qO g K H a c/\qO j K H b d/\c[i]?=some x/\d[i]?=some y,λi H v e=>∃ p x y,H p=none/\v = .ref p/\e=upd H p (.t [x,y])/\(∀ c,qO g K H a c->c[i]?=some x)/\(∀ d,qO j K H b d->d[i]?=some y),λi H=>∃ c d,qO g K H a c/\qO j K H b d/\(c.length<=i\/d.length<=i)⟩
def Yp (l o:Bool) (a b z TI TO g j:Ad) (i:Nat) (h:Ag):Prop:=IsZip h z TI TO .none/\IsPair h TI (.ref g) (.ref j)/\(∃ u v,IsPair h TO u v)/\nH l h g a i/\nH o h j b i
theorem Wb {P:Ah}{K:lL}{TI TO:Ad}(D:ZipApart z TI TO i1 i2 a b) :
  Turn P w K (.Tuple ac x1 pos) (Jt b1 b2 K a b) [z,TI,TO,i1,i2] z (Yp b1 b2 a b z TI TO i1 i2) where
 mem:=by simp
 obj:=λi h st c F=>by
  obtain⟨n,t,⟨u,v,A⟩,f,m⟩:=st;obtain⟨o4,f,d4⟩:=Qp f;obtain⟨o5,m,d5⟩:=Qp m;simp only[aI,bJ,eM] at F;rcases F with e | e | e | e | e<;>subst e
  .exact⟨_,n,λv z=>nomatch z⟩
  .exact⟨_,t,λv z=>nomatch z⟩
  .exact⟨_,A,λv z=>nomatch z⟩
  .exact⟨_,f,d4⟩
  .exact⟨_,m,d5⟩
 keep:=λi h h' st k=>by
  obtain⟨n,t,⟨u,v,A⟩,f,m⟩:=st;exact⟨k z (by simp) _ n,k TI (by simp) _ t,⟨u,v,k TO (by simp) _ A⟩,pR f λo e=>k i1 (by simp) o e,pR m λo e=>k i2 (by simp) o e⟩
 item:=by
  intro X Y hw W F i L s σ H E I N st Z;subst Y hw W;obtain⟨n,t,⟨u,v,A⟩,f,m⟩:=st;obtain⟨xs,ys,x,y,O,Q,hx,hy⟩:=Z;obtain⟨l,U,r⟩:=I.seqB O;obtain⟨p,ry,py⟩:=I.seqB Q;obtain⟨ux,g,J⟩:=U.get hx;obtain⟨uy,j,T⟩:=ry.get hy;refine Nm D n t A f m r py (x:=ux) (y:=uy) (by simpa using g) (by simpa using j) λh' n1 n2 n3 n4 n5 n6 n7=>?_
  refine⟨_,rfl,wpAny_letOwnedTupleGo_zip n1 λh2 m1 B=>?_⟩;have kp:∀ c o,c∉[z,TI,TO,i1,i2]->s.heap.get? c=some o->h2.get? c=some o:=λc o d e=>by
   simp only[aI,bJ,eM,lA] at d;obtain⟨M,e2,R,S,V⟩:=d;exact B.extBut c o M (n7 c o M R S V e)
  have zs:s.heap.objs.size≠z:=λe=>eO _ (by have:=aY n;rw[<- e] at this;exact this)
  have nt:xG h2 s.heap.objs.size [ux,uy].toArray:=⟨⟨_,B.extBut _ _ zs n5,rfl,_,rfl⟩,_,B.extBut _ _ zs n5,rfl⟩;have I2:=I.movedT (t':=s.toks) (ys:=[x,y]) N kp nt (.cons J (.cons T .nil)) (by show 2<=sizeLine;decide);refine⟨.ref s.heap.objs.size,_,I2,rfl,⟨_,x,y,I.fresh,rfl,rfl,λae C=>by rw[I.seqB_inj C O];exact hx,λaf C=>by rw[I.seqB_inj C Q];exact hy⟩,⟨m1,?_,⟨ux,uy,?_⟩,?_,?_⟩,λc d=>?_⟩
  .exact B.extBut _ _ D.TIz (n7 TI _ D.TIz D.TITO D.TIi1 D.TIi2 t)
  .exact B.extBut _ _ D.TOz n2
  .exact pR n3 λo e=>B.extBut _ o D.i1z e
  .exact pR n4 λo e=>B.extBut _ o D.i2z e
  .rw[lS]
   .exact (N c d).1
   .intro e;obtain⟨o,ho⟩:∃ o,s.heap.get? c=some o:=by
     obtain⟨o4,aa⟩:=Aw f;obtain⟨o5,ab⟩:=Aw m;simp only[aI,bJ,eM] at d;rcases d with q | q | q | q | q<;>rw[q]
     .exact⟨_,n⟩
     .exact⟨_,t⟩
     .exact⟨_,A⟩
     .exact⟨_,aa⟩
     .exact⟨_,ab⟩
    have:=aY ho;rw[e] at this;exact eO _ this
 done:=by
  intro X Y hw W F i L s σ H E I N st Z;subst Y hw W;obtain⟨n,t,⟨u,v,A⟩,f,m⟩:=st;obtain⟨xs,ys,O,Q,G⟩:=Z;obtain⟨l,U,r⟩:=I.seqB O;obtain⟨p,ry,py⟩:=I.seqB Q;have lx:=U.length;have ly:=ry.length;refine Ut (I.ok.hd F) D n t A f m r py ?_ λh' k=>⟨rfl,I.moved (t':=s.toks) N λc o d e=>?_⟩
  .rcases G with q | q
   .exact .inl (by simp;omega)
   .exact .inr (by simp;omega)
  .simp only[aI,bJ,eM,lA] at d;obtain⟨M,e2,R,S,V⟩:=d;exact k c o M R S V e
 self:=λ_ _ _ _ _ st h=>wpAny_pyIter_zip st.1 h
section
variable {X:Cx}
def Xo (K:lL) (g:TA):TI:=λk H R=>g k H λf c=>∃ a b d e,f=[.ref a,.ref b]/\(∃ h,qO d K c a h)/\(∃ i,qO e K c b i)/\R (Jt d e K a b) c
theorem BL (C:Gl X "zip") (J:X.mg "zip" = none) (r:PA X [j,g] U) (T:starEach [j,g] X.env=(false,eval j X.env)::starEach [g] X.env:=by rfl)
  (l:(backTo pos (starEach [g] X.env)).any (·.1)=false:=by rfl):PI X (.Tuple o x1 ps) (.Call (.Name "zip" p) [j,g] [] pos) (Xo X.K U):=by
 intro f s A H R I h;refine Call_ (xA I C J boot_zip (cT (lQ (r pos f s A H _ I h) λus d n=>?_) T l));obtain⟨vs,t,i,V,P⟩:=n;obtain⟨a,b,Z,b2,rfl,⟨xs,Q⟩,⟨ys,S⟩,q⟩:=P;obtain⟨u,v,rfl,W,Y⟩:=yI V;cases W;cases Y;obtain⟨E,rx,y⟩:=i.seqB Q;obtain⟨F,ry,py⟩:=i.seqB S;have k:a<d.heap.objs.size:=by obtain⟨_,e⟩:=Bb y;exact aY e
 have m:b<d.heap.objs.size:=by obtain⟨_,e⟩:=Bb py;exact aY e
 refine Nr y py λD x G L M N n6 O=>?_
 have B:Inv X f A t { d with heap:=D }:=i.kept (t':=d.toks) O;refine wpAny_pyIter_zip x ⟨_,[_,_,_,_,_],_,_,t,rfl,B,Wb (a:=a) (b:=b) (i1:=d.heap.objs.size) (i2:=d.heap.objs.size+1) (z:=d.heap.objs.size+4) (TI:=d.heap.objs.size+2) (TO:=d.heap.objs.size+3) ?_,⟨x,G,⟨_,_,L⟩,M,N⟩,λc w=>?_,q⟩
 .constructor<;>first | exact bH k | exact bH m | exact bH (bD k (fC _ _)) | exact bH (bD m (fC _ _)) | exact gU k | exact gU m | exact gU (bD k (fC _ _)) | exact gU (bD m (fC _ _)) | exact (by show (_:Nat)≠_;omega)
 .simp only[aI,bJ,eM] at w;rcases w with e | e | e | e | e<;>(subst e;exact i.fpOk (by omega) (i.hok.fresh (by omega)))
variable {K:lL}
def xQ:D->Ab (Bool×Aa D)
 | .l a=>some (false,a)
 | .t a=>some (true,a)
 | _=>none
theorem E7 (e:xQ d=some (b,j)) (r:Rep K A H d v):∃ a g,v = .ref a/\qO b K H a g/\Reps K A H j g:=by
 cases d<;>first | cases e | skip
 .obtain⟨a,g,rfl,h,r⟩:=r.tup_inv;exact⟨a,g,rfl,mF.of h,r⟩
 .obtain⟨a,g,rfl,_,h,r⟩:=r.lst_inv;exact⟨a,g,rfl,lO.of h,r⟩
def yW (g j:Aa D):Aa D:=g.zipWith (λx y=>D.t [x,y]) j
theorem Pj (g j:Aa D):(yW g j).length=min g.length j.length:=List.length_zipWith
theorem Yx {g j:Aa D}{i:Nat}{x y:D}(l:g[i]?=some x) (o:j[i]?=some y):(yW g j)[i]?=some (.t [x,y]):=by
 unfold yW;rw[List.getElem?_zipWith,l,o]
theorem Xu {d1 d2:D}(r:xQ d1=some (g,l)) (C:xQ d2=some (j,o)):YD K (Jt g j K a b) (yW l o) [(.v d1,some (.ref a)),(.v d2,some (.ref b))]:=by
 have key:∀ A H,zB K A H [(.v d1,some (.ref a)),(.v d2,some (.ref b))]->(∃ d,qO g K H a d/\Reps K A H l d)/\∃ c,qO j K H b c/\Reps K A H o c:=λA H ok=>by
  obtain⟨v,E,h⟩:=ok (.v d1,some (.ref a)) aH;obtain⟨u,F,k⟩:=ok (.v d2,some (.ref b)) (aM _ aH);cases E;cases F;obtain⟨N,d,G,e,s⟩:=E7 r h;obtain⟨O,c,L,f,t⟩:=E7 C k;cases G;cases L;exact⟨⟨d,e,s⟩,c,f,t⟩
 refine⟨rfl,λi H A m ok=>?_,λi H A x M m ok y=>?_,λi H A m ok=>?_⟩
 .obtain⟨⟨d,e,h⟩,c,f,k⟩:=key A H ok;rw[Pj,h.length,k.length] at m;exact⟨d,c,d[i]'(by omega),c[i]'(by omega),e,f,aQ _,aQ _⟩
 .obtain⟨⟨d,e,h⟩,c,f,k⟩:=key A H ok;obtain⟨p,R,S,w,rfl,rfl,z,B⟩:=y;obtain⟨P,n,s⟩:=h.getV (z d e);obtain⟨Q,q,t⟩:=k.getV (B c f);exact⟨_,Yx n q,.inr ⟨p,_,_,w,rfl,rfl,rfl,.cons s (.cons t .nil)⟩⟩
 .obtain⟨⟨d,e,h⟩,c,f,k⟩:=key A H ok;rw[Pj,h.length,k.length] at m;exact⟨d,c,e,f,by omega⟩
def Wg (g:sY):wG:=λf i h=>g f i λas a=>match as with
 | [.t d1,.t d2]=>∃ d e b c,xQ d1=some (d,b)/\xQ d2=some (e,c)/\h (yW b c) a
 | _=>False
theorem DW (I:Gl X "zip") (J:X.mg "zip" = none) (C:rT X [j,g] ta) (U:starEach [j,g] X.env=(false,eval j X.env)::starEach [g] X.env:=by rfl)
  (l:(backTo pos (starEach [g] X.env)).any (·.1)=false:=by rfl):Ai X (.Tuple o x1 ps) (.Call (.Name "zip" p) [j,g] [] pos) (Wg ta) :=
 (BL I J C U l).mono λA H R d=>d.elim λB z T G q hd s k=>⟨B,z,T,_,q,hd,s,λas e D i u ok d1 c=>by
  cases ok with
  | nil=>exact False.elim c
  | al _ ok=>exact False.elim c
  | t ok =>
   cases ok with
   | nil=>exact False.elim c
   | al _ ok=>cases ok<;>exact False.elim c
   | t ok =>
    cases ok with
    | al _ ok=>exact False.elim c
    | t ok=>exact False.elim c
    | nil =>
     obtain⟨m,n,E,F,f,h,c⟩:=c;have r:=d1.temps (σ:=A) (.t (.t .nil)) _ rfl;cases r with
     | cons v r =>
      cases r with
      | cons w r =>
       obtain⟨a,x,rfl,g1,_⟩:=E7 f v;obtain⟨b,y,rfl,g2,_⟩:=E7 h w;exact⟨a,b,m,n,rfl,⟨x,g1⟩,⟨y,g2⟩,k _ _ e [_,_] i u d1 (Xu f h) c⟩⟩
end
end L2
namespace L2
open PySem PySem.Spec PyProof.Rows Lw
section
variable {X:Cx}
def OU (K:lL) (g:TA):TE:=λi H Q=>g i H λh a=>∃ (e f:Bool) (l m:Ad) (b:Aa hI) (c:Aa V),h=[.ref l,.ref m]/\qO e K a l (b.map kV)/\qO f K a m c/\b.length<=1000/\∀ d,a d=none->Q (.ref d) (upd a d (.k (pL [] (b.zip c))))
theorem Y2 (j:X.calm=true) (hg:Gl X "dict") (hm:X.mg "dict" = none) (r:Gl X "zip") (C:X.mg "zip" = none) (ha:PA X [a,b] ta)
  (hs:starEach [a,b] X.env=(false,eval a X.env)::starEach [b] X.env:=by rfl) (J:(backTo g (starEach [b] X.env)).any (·.1)=false:=by rfl) :
  PE X (.Call (.Name "dict" p) [.Call (.Name "zip" p') [a,b] [] g] [] pos) (OU X.K ta):=by
 intro z s σ H Q I h;refine eK (xA I hg hm boot_dict ?_ (by decide) (by decide));refine cT ?_ rfl rfl;show wpAny _ _ (spliced ((false,eval (.Call (.Name "zip" p') [a,b] [] g) X.env)::backTo pos (starEach [] X.env))) _ _ s;refine gW ?_;refine eK (xA I r C boot_zip ?_ (by decide) (by decide));refine cT (lQ (ha g z s σ H _ I h) λus B M=>?_) hs J;obtain⟨xs,H1,t,S,q1⟩:=M;obtain⟨b1,b2,l,m,c,E,rfl,hl,hv,hn,q⟩:=q1;obtain⟨Z,T,rfl,W,Y⟩:∃ Z T,us=[Z,T]/\mC (.ref l) Z/\mC (.ref m) T:=by
  cases S with | cons S V=>cases V with | cons V r3=>cases r3;exact⟨_,_,rfl,S,V⟩
 cases W;cases Y;obtain⟨N,r',R⟩:=t.seqB hl;obtain⟨f,A,n⟩:=t.seqB hv;refine Nr R n λD z1 z2 z3 z4 z5 z6 U=>?_
 refine jL ?_;have L1:=r'.length;have L2:=A.length;rw[aA] at L1;have F:=K3 c A;have O:l<B.heap.objs.size:=by obtain⟨_,e⟩:=Bb R;exact aY e
 have P:m<B.heap.objs.size:=by obtain⟨_,e⟩:=Bb n;exact aY e
 refine KL (knd:=pC X.prog X.w) (more:=c.zip f) (s:={ B with heap:=D }) (t.ok.hd j) (zipApart_new O P) z1 z2 z3 z4 z5 (qG R λo e=>U _ o e) (qG n λo e=>U _ o e) ?_ ?_ ?_ λh2 tk hD hk=>?_
 .rw[gB,aX,aX];omega
 .rw[gB];exact eP (cH (show min c.length f.length<=1000 by omega) (by decide))
 .intro i x y v G;have v:N[i]?=some x:=by simpa using v
  have G:f[i]?=some y:=by simpa using G
  obtain⟨hi,_⟩:=aU.mp v;obtain⟨u,hu,ru⟩:=r'.get (i:=i) (x:=kV (c[i]'(by omega))) (by simp[show i<c.length by omega]);rw[hu] at v;cases v;refine⟨c[i]'(by omega),yD ru,?_⟩;rw[iN];exact⟨aQ _,G⟩
 .have L:(pL [] (c.zip E)).length<=sizeLine:=by
   have h1:=Bz (c.zip E) [];rw[eZ,gB] at h1;exact eP (cH (show (pL [] (c.zip E)).length<=1000 by omega) (by decide))
  have d:B.heap.objs.size<=D.objs.size:=by omega
  have kp:∀ b o,B.heap.get? b=some o->h2.get? b=some o:=λb o e=>hk b o (λq=>by
   have:=aY e;simp only[aI,bJ,eM] at q;rcases q with q | q | q | q<;>rw[q] at this<;>first | exact absurd this (eO _) | exact absurd this (lF.mpr (fC _ _))) (U b o e)
  refine⟨.ref D.objs.size,_,t.laid (a:=D.objs.size) (o:=.k (pL [] (c.zip E))) (t':=tk) kp d ?_,rfl,q _ (t.hok.fresh d)⟩;exact Bo L (cO.mpr (cY (bH (bD t.big d)))) (F.merge .nil) hD
end
section
variable {X:Cx}{K:lL}
def Qt:OC:=λf h=>match f with
 | [d1,d2]=>∃ d e b c a,xQ d1=some (d,b)/\xQ d2=some (e,c)/\wC b=some a/\a.length<=1000/\h (.o (.k (oW [] (a.zip c))))
 | _=>False
theorem Up (e:xQ d=some (b,j)) (r:mU K A H d v):∃ a g,v = .ref a/\qO b K H a g/\Reps K A H j g:=by
 cases d<;>first | cases e | skip
 .obtain⟨a,g,rfl,h,r⟩:=Rep.tup_inv r;exact⟨a,g,rfl,mF.of h,r⟩
 .obtain⟨a,g,rfl,h,r⟩:=r.lst_inv;exact⟨a,g,rfl,lO.of h,r⟩
theorem CM:qX K (λC H Q=>∃ (o r:Bool) (l m:Ad) (g:Aa hI) (j:Aa V),C=[.ref l,.ref m]/\qO o K H l (g.map kV)/\qO r K H m j/\g.length<=1000/\∀ d,H d=none->Q (.ref d) (upd H d (.k (pL [] (g.zip j))))) Qt:=by
 intro B L H h C N Q hd f c k
 match h,c with
 | [d1,d2],c =>
  obtain⟨x,y,rfl,v,py⟩:=C1 f;obtain⟨o,r,C,M,g,i,n,t,u,c⟩:=c;obtain⟨a,G,rfl,q,A⟩:=Up i v;obtain⟨b,j,rfl,s,D⟩:=Up n py;have e:=Ry t A;subst e;obtain⟨E,F⟩:=Ku g D;obtain⟨w,z⟩:=Ca (kvs:=[]) (vs:=[]) E F rfl .nil;exact⟨o,r,a,b,g,j,rfl,q,s,u,λp f=>k _ _ _ c (hd.dKF f w z)⟩
theorem Eh (g:X.calm=true) (I:Gl X "dict") (J:X.mg "dict" = none) (l:Gl X "zip") (o:X.mg "zip" = none) (C:rT X [a,b] U)
  (T:starEach [a,b] X.env=(false,eval a X.env)::starEach [b] X.env:=by rfl) (r:(backTo j (starEach [b] X.env)).any (·.1)=false:=by rfl) :
  PD X (.Call (.Name "dict" p) [.Call (.Name "zip" p') [a,b] [] j] [] pos) (dC Qt U):=(Y2 g I J l o C T r).mono λ_ _ _ h=>Hh CM h
end
end L2
namespace Lw
open PySem L2
structure WtOk (b:Int) (t:lZ):Prop where
 nd:(t.map (·.1)).Nodup
 l:t.length<=60
 bd:∀ p∈t,-b<=p.2/\p.2<=b
theorem Nd (t:lZ) (x:Af) (i:Int):(qA t x i).map (·.1)=if x∈t.map (·.1) then t.map (·.1) else t.map (·.1)++[x]:=by
 unfold qA;by_cases h:x∈t.map (·.1)
 .rw[aT h,aT h,aF];refine bL λp _=>?_
  show (if p.1=x then (p.1,i) else p).1=p.1;by_cases q:p.1=x
  .rw[aT q]
  .rw[aN q]
 .rw[aN h,aN h,aR];rfl
theorem IU (h:p∈qA t x i):p∈t\/p=(x,i):=by
 unfold qA at h;by_cases a:x∈t.map (·.1)
 .rw[aT a] at h;obtain⟨q,b,e⟩:=aE.mp h;by_cases z:q.1=x
  .rw[aT z] at e;exact .inr (by rw[<- e,z])
  .rw[aN z] at e;exact .inl (e▸b)
 .rw[aN a] at h;rcases aV.mp h with h | h
  .exact .inl h
  .exact .inr (aZ.mp h)
theorem AO (h:(t.map (·.1)).Nodup):((qA t x i).map (·.1)).Nodup:=by
 rw[Nd];by_cases c:x∈t.map (·.1)
 .rw[aT c];exact h
 .rw[aN c];exact bB.mpr ⟨h,by simp,λa d b f e=>by rw[aZ.mp f] at e;exact c (e▸d)⟩
theorem LJ (t:lZ) (x:Af) (i:Int):(qA t x i).length<=t.length+1:=by
 have:=bY List.length (Nd t x i);rw[aA] at this;by_cases a:x∈t.map (·.1)
 .rw[aT a,aA] at this;omega
 .rw[aN a,bK,aA] at this;simp at this;omega
theorem EU:(oN.all λk=>(mS (kN k)).all λp=>match intText? p.2 with | some v=>decide (-9<=v)&&decide (v<=9) | none=>true)=true:=by decide +kernel
theorem BG (g:k∈oN) (j:p∈mS (kN k)) (l:intText? p.2=some v):-9<=v/\v<=9:=by
 have:=cG.mp (cG.mp EU k g) p j;rw[l] at this
 simpa using this
def qF (k:Kit):lZ:=(mS (kN k)).map λp=>(p.1,(intText? p.2).getD 0)
theorem V8:(oN.all λk=>decide (((qF k).map (·.1)).Nodup))=true:=by decide +kernel
theorem FP (g:k∈oN):((qF k).map (·.1)).Nodup:=cW (cG.mp V8 k g)
theorem BX (h:x∈t.map (·.1)):hL (t++u) x=hL t x:=by
 have:=(Bk (t++u) x).1 (by rw[aR];exact aL _ h);have b:=(Bk t x).1 h;unfold hL;rw[List.find?_append];cases e:t.find? (λp=>decide (p.1=x)) with
 | some p=>rfl
 | none =>
  obtain⟨p,a,rfl⟩:=aE.mp h;exact absurd (cB rfl) (List.find?_eq_none.mp e p a)
def E9 (k:Kit) (C:Cel) (al:Aa (Af×Af)) (g:lZ):Prop:=∃ (a:yT) (ex:Aa Af) (r:Af->Af),(kI k++(a++(kG k).map mE).map (·.1)).Nodup/\nC (kI k) (a++(kG k).map mE)/\(∀ e∈ex,e∈a.map (·.1))/\(kO k++ex).Nodup/\ex.length<=1/\a.length<=18 /\
 (∀ x∈kI k++(a++(kG k).map mE).map (·.1),∀ y∈kI k++(a++(kG k).map mE).map (·.1),r x=r y->x=y)/\C.ins.Perm ((kI k).map r)/\C.gates=(a++(kG k).map mE).map (ren r)/\C.outs.Perm ((kO k++ex).map r)/\al.Perm ((mS (kP k)).map λp=>(r p.1,r p.2)) /\
 (∀ x∈kI k++(a++(kG k).map mE).map (·.1),x ≠ "-" /\ x ≠ "") /\
 gD g "" = gD (qF k) "-" /\ ∀ x∈kI k++(a++(kG k).map mE).map (·.1),gD g (r x)=gD (qF k) x
theorem NN:∀ i<19,nM i ≠ "" := by decide +kernel
def Ux:RD:=λb e f=>∃ (d c:Ad) (k:Kit),b=[d,c]/\e=[.r (.ref d),rZ k]/\k∈oN/\∀ C al a,GoodRow C al->WtOk 9 a->E9 k C al a->f (.o (.l [At C al,.k (dK a)]))
abbrev uD (d:Ad) (k:Kit) (C I J T U s7 s8 s9 g j l o p:Sl):Aa Sl:=[.v (.r (.ref d)),.v (rZ k),C,I,J,T,U,s7,s8,s9,g,j,l,o,p]
theorem HF (h:x∉t.map (·.1)) (g:t.length<100000):yF (.k (mM t)) (.str x) (.str n)=some (.k (mM (t++[(x,n)]))):=by
 simp only[yF,aT (show (mM t).length<100000 by simpa [mM] using g)];show some (D.k (mY (mM t) (Sum.inr x) (.str n)))=_;rw[Vo h]
abbrev sl (g:Aa Af):D:=.l (g.map D.str)
def oC (n:Nat):Aa D:=(List.range n).map λi=>D.str (nM i)
abbrev vX (d:Ad) (k:Kit) (a g j l:Sl):Aa Sl:=uD d k (.o (sl (kI k))) a (.o (sl (kP k))) (.o (sl (kN k))) g j l .n .n .n .n .n .n
abbrev zV (d:Ad) (k:Kit) (n:Nat) (G:Aa (Aa Af)) (j:Sl) (g:Aa Af) (a b c e:Sl):Aa Sl:=uD d k a b (.o (sl (kP k))) (.o (sl (kN k))) (.v (.l (oC n))) (.v (.l (G.map pN))) j (.v (sl (kI k++g))) c e .n .n .n
abbrev zS (d:Ad) (k:Kit) (n:Nat) (G:Aa (Aa Af)) (r:Sl) (g:Aa Af) (t:Aa (Af×Af)) (j p:Aa Af) (a b c e f:Sl):Aa Sl:=uD d k (.o (sl (j.map (hL t)))) (.o (sl (p.map (hL t)))) (.v (sl (kP k))) a (.v (.l (oC n))) (.v (.l (G.map pN))) r (.v (sl (kI k++g))) b (.o (.l (G.map λl=>nS (ren (hL t) (mE l))))) c e f
theorem KW:(["k"]:Aa Af).Nodup:=by decide +kernel
theorem HR:(["text"]:Aa Af).Nodup:=by decide +kernel
theorem X9:(["gate"]:Aa Af).Nodup:=by decide +kernel
theorem EE:(["gate","names"]:Aa Af).Nodup:=by decide +kernel
theorem Je:(["one","names"]:Aa Af).Nodup:=by decide +kernel
theorem NA:(["k","names","pairs"]:Aa Af).Nodup:=by decide +kernel
section
variable {P:Ah}{K:lL}
theorem qW:FnScope ["deck","kit","ins","outs","pairs","numbers","idle","gates","name","own","names","rows","along","weights","k"] ["deck","kit"] (mI F6):=nU
theorem BS (T:Txt mg) (J:Kn P w K mg base 1 "_law_take" sZ ["deck","many"] wX) (U:Kn P w K mg base 3 "_law_names" Bi ["deck","many"] Hf)
  (I:Kn P w K mg base 2 "_law_shuffled" Ec ["deck","some"] Iw) (C:Kn P w K mg base 1 "_law_words" Ew ["text"] Mv) :
  nZ P w K mg base 4 "_law_made" F6 ["deck","kit"] Ux:=by
 refine oI qW λf bt A bn s H E dk ds Φ hr V hR=>?_
 obtain⟨d,c,k,rfl,rfl,hk,bj⟩:=hR;have O:=Bv hk;have tx:=O.tx;refine⟨_,(lM (lV 2 qW.nd (lU C hr (aD (lT V 1 lN) gV))) (lM (lV 3 qW.nd (lU C hr (aD (lT V 1 lN) gV))) (lM (lV 4 qW.nd (lU C hr (aD (lT V 1 lN) gV))) (lM (lV 5 qW.nd (lU C hr (aD (lT V 1 lN) gV))) (lM (Ci 6 ["k"] [] [] qW.nd (Aq (by rfl) T.range (tJ V (oJ (aD lN (aD lN (aD lN (aD (lU J hr (aD (dT 0) (aD lN gV))) gV))))) (lU J hr (aD (dT 0) (aD lN gV))))) (λ_ _ _ _ _=>(lX 0 KW)) (λ_ _ _ _ _=>(nG oG oE lY (nE EH Wj T.str PyProof.Rows.boot_str (aD (dT 0) gV))))) (lM (lV 7 qW.nd (oJ gV)) (lM (qV (mW (dT 6)) (lX 8 qW.nd) (mL (pW (pS bF bO bP rA sA (pv 7) (aD (tJ V (oJ (aD (oJ (aD (dT 8) (aD (tJ V (oJ (aD lY (aD lY gV))) (lU J hr (aD (dT 0) (aD lN gV)))) gV))) (aD (nG oG oE (oJ (aD (dT 8) (aD lY gV))) (xJ yO xL (pv 6) yE (xN lN))) gV))) (nE Su U6 T.int PyProof.Rows.boot_int (aD (Kd AG OA (pH sO sJ T.len cC (tN (pv 7) gV)) lN) gV))) gV))))) (lM (lV 3 qW.nd (qY oG oE 3 (nG xB xE (xJ yO xL (pv 6) (xN (MU lN)) yE) (lU J hr (aD (dT 0) (aD lN gV)))))) (lM (lV 7 qW.nd (qY oG oE 7 (nJ ["text"] [] [] (mW (lT V 1 lN)) (λ_ _ _ _ _=>(lX 0 HR)) (λ_ _ _ _ _=>(lU C hr (aD (dT 0) gV)))))) (lM (lV 9 qW.nd (qY oG oE 2 (nJ ["gate"] [] [] (mW (dT 7)) (λ_ _ _ _ _=>(lX 0 X9)) (λ_ _ _ _ _=>(lT V 0 lN))))) (lM (lV 10 qW.nd (Eh rfl (by rfl) T.dict (by rfl) T.zip (aD (dT 9) (aD (lU U hr (aD (dT 0) (aD (pH sO sJ T.len cC (aD (dT 9) gV)) gV))) gV)))) (lM (Ci 11 ["gate"] ["names"] [10] qW.nd (mW (dT 7)) (λ_ _ _ _ _=>(lX 0 EE)) (λ_ _ _ _ _=>(mZ (aD (lT V 1 (lT V 0 lN)) (aD (lT V 0 lN) (aD (nE rL rV T.tuple bQ (aD (nJ ["one"] ["names"] [1] (mW (xJ yO xL (pv 0) (xN lN) yE)) (λ_ _ _ _ _=>(lX 0 Je)) (λ_ _ _ _ _=>(lT V 1 (dT 0)))) gV)) gV)))))) (lM (Ci 2 ["one"] ["names"] [10] qW.nd (mW (lU I hr (aD (dT 0) (aD (dT 2) gV)))) (λ_ _ _ _ _=>(lX 0 Je)) (λ_ _ _ _ _=>(lT V 1 (dT 0)))) (lM (Ci 3 ["one"] ["names"] [10] qW.nd (mW (lU I hr (aD (dT 0) (aD (dT 3) gV)))) (λ_ _ _ _ _=>(lX 0 Je)) (λ_ _ _ _ _=>(lT V 1 (dT 0)))) (lM (Ci 12 ["k"] ["names","pairs"] [10,4] qW.nd (Mu (by rfl) T.range lN (pH sO sJ T.len cC (aD (dT 4) gV)) lN) (λ_ _ _ _ _=>(lX 0 NA)) (λ_ _ _ _ _=>(mZ (aD (lT V 1 (lT V 2 (dT 0))) (aD (lT V 1 (lT V 2 (qY oG oE 0 lN))) gV))))) (lM (A7 (n:=10) V lY (pv 10) lY) (lM (lV 13 qW.nd Vj) (lM (qV (Mu (by rfl) T.range lN (pH sO sJ T.len cC (aD (dT 5) gV)) lN) (lX 14 qW.nd) (mL (A7 (n:=13) V (nE Su U6 T.int PyProof.Rows.boot_int (aD (lT V 5 (qY oG oE 14 lN)) gV)) (pv 13) (lT V 10 (lT V 5 (dT 14)))))) (mL (nA (oJ (aD (mZ (aD (mZ (aD (nE rL rV T.tuple bQ (aD (dT 2) gV)) (aD (nE rL rV T.tuple bQ (aD (dT 11) gV)) (aD (nE rL rV T.tuple bQ (aD (dT 3) gV)) gV)))) (aD (nE rL rV T.tuple bQ (aD (lU I hr (aD (dT 0) (aD (dT 12) gV))) gV)) gV))) (aD (dT 13) gV))))))))))))))))))))))),?_⟩;refine lP (λB=>B=uD d k (.o (sl (kI k))) .n .n .n .n .n .n .n .n .n .n .n .n) (λN L=>⟨rfl,_,rfl,k.ins,rfl,(tx _ (by simp)).1,(tx _ (by simp)).2,.inl rfl,L _ rfl⟩) ?_;rintro _ rfl;refine lP (λB=>B=uD d k (.o (sl (kI k))) (.o (sl (kO k))) .n .n .n .n .n .n .n .n .n .n .n) (λN L=>⟨rfl,_,rfl,k.outs,rfl,(tx _ (by simp)).1,(tx _ (by simp)).2,.inl rfl,L _ rfl⟩) ?_;rintro _ rfl;refine lP (λB=>B=uD d k (.o (sl (kI k))) (.o (sl (kO k))) (.o (sl (kP k))) .n .n .n .n .n .n .n .n .n .n) (λN L=>⟨rfl,_,rfl,k.pairs,rfl,(tx _ (by simp)).1,(tx _ (by simp)).2,.inl rfl,L _ rfl⟩) ?_;rintro _ rfl;refine lP (λB=>B=vX d k (.o (sl (kO k))) .n .n .n) (λN L=>⟨rfl,_,rfl,k.nums,rfl,(tx _ (by simp)).1,(tx _ (by simp)).2,.inl rfl,L _ rfl⟩) ?_;rintro _ rfl;refine lP (λB=>∃ n,n<19/\B=vX d k (.o (sl (kO k))) (.o (.l (oC n))) .n .n) (λN L=>?_) ?_
 .unfold oD sQ N7;refine⟨d,c,19,rfl,rfl,by decide,by decide,λr1 W=>⟨.inl rfl,by show 4<=1000;decide,d,c,4,rfl,rfl,by decide,by decide,λr2 Z=>⟨.inl rfl,?_⟩⟩⟩;obtain⟨m,hm,an⟩:∃ m:Nat,m<19/\nT [D.int 0,.int 0,.int 1,.int (r1:Int)] (r2:Int)=some (.int (m:Int)):=by
   have:r2=0\/r2=1\/r2=2\/r2=3:=by omega
   rcases this with rfl | rfl | rfl | rfl
   .exact⟨0,by decide,pJ rfl⟩
   .exact⟨0,by decide,pJ rfl⟩
   .exact⟨1,by decide,pJ rfl⟩
   .exact⟨r1,by omega,pJ rfl⟩
  refine⟨_,an,by omega,by omega,?_⟩;rw[cF];refine yX (Φ:=λr ae=>N (ae.set 6 r)) (List.range m) (λ(i:Nat)=>D.int (0+(i:Int))) (λi=>.str (nM i)) (vX d k (.o (sl (kO k))) .n .n .n) (by rw[dB];omega) (λj i ys Nx e W Z=>?_) (L _ ⟨m,hm,rfl⟩);have hi:i<19:=by have:=eF.mp (aO e);omega
  exact⟨(Q2 i hi).1,(Q2 i hi).2,W,Z⟩
 rintro B ⟨n,hn,rfl⟩;refine lP (λB=>B=vX d k (.o (sl (kO k))) (.o (.l (oC n))) (.o (.l [])) .n) (λN L=>⟨by show 0<=1000;decide,L _ rfl⟩) ?_;rintro _ rfl;refine lP (λB=>∃ (R:Af) (S:Sl),(R = "one" \/ R = "nil")/\B=vX d k (.o (sl (kO k))) (.v (.l (oC n))) (.o (.l (((List.range n).map (pG R)).map pN))) S) (λN L=>?_) ?_
 .refine rG (oC n) (vX d k (.o (sl (kO k))) (.v (.l (oC n))) (.o (.l [])) .n) (λΨ h=>h)
   (λj B=>∃ (R:Af) (S:Sl),(R = "one" \/ R = "nil")/\B=vX d k (.o (sl (kO k))) (.v (.l (oC n))) (.o (.l (((List.range j).map (pG R)).map pN))) S) ⟨"one",.n,.inl rfl,rfl⟩ ?_ ?_
  .rintro j x B F ⟨R,S,hw,rfl⟩;obtain⟨j',ao,rfl⟩:=sU F;obtain⟨hj,e⟩:=aU.mp ao;rw[dB] at hj;rw[jC] at e;subst e;refine⟨rfl,by show 2<=1000;decide,d,c,2,rfl,rfl,by decide,by decide,λr hr=>⟨.inl rfl,?_⟩⟩;obtain⟨w1,bh,an⟩:∃ w1:Af,(w1 = "one" \/ w1 = "nil")/\nT [D.str "one",.str "nil"] (r:Int)=some (.str w1):=by
    have:r=0\/r=1:=by omega
    rcases this with rfl | rfl
    .exact⟨_,.inl rfl,pJ rfl⟩
    .exact⟨_,.inr rfl,pJ rfl⟩
   have ec:rD (oC n) none (some 1)=[D.str (nM 0)]:=by
    have:=Fu (λi=>D.str (nM i)) (List.range n) 1;obtain⟨m,rfl⟩:∃ m,n=m+1:=⟨n-1,by omega⟩;have e2:(List.range (m+1)).take 1=[0]:=by rw[List.range_succ_eq_map];rfl
    rw[e2] at this;exact this
   refine⟨_,an,by show 2<=1000;decide,by show 2<=1000;decide,rfl,?_⟩;show (2+(rD (oC n) none (some 1)).length<=100000)/\_;rw[ec];refine⟨by show 2+1<=100000;decide,by show 2<=1000;decide,rfl,rfl,_,rfl,?_⟩;have len:((((List.range j).map (pG R)).map pN).length:Nat)=j:=by simp
   show ∃ c',nT [D.l [.str (nM j),.str w1],.l [.str (nM j),.str "not",.str (nM 0)]] (if decide ((((((List.range j).map (pG R)).map pN).length:Nat):Int)>0)=true then 1 else 0)=some c'/\(((List.range j).map (pG R)).map pN).length<100000/\_;rw[len];by_cases h0:j=0
   .subst h0;refine⟨D.l [.str (nM 0),.str w1],rfl,by decide,w1,.v (.str (nM 0)),bh,rfl⟩
   .refine⟨D.l [.str (nM j),.str "not",.str (nM 0)],?_,by omega,R,.v (.str (nM j)),hw,?_⟩
    .rw[aT (by simp;omega)];exact pJ (j:=1) rfl
    .rw[kF,aR,aR];have:pN (pG R j)=D.l [.str (nM j),.str "not",.str (nM 0)]:=by unfold pG;rw[if_neg h0];rfl
     show _=uD d k _ _ _ _ _ (.o (.l (((List.range j).map (pG R)).map pN++[pN (pG R j)]))) _ _ _ _ _ _ _;rw[this];rfl
  .rintro B ⟨R,S,hw,rfl⟩;rw[show (oC n).length=n by simp[oC]];exact L _ ⟨R,S,hw,rfl⟩
 rintro B ⟨R,S,hw,rfl⟩;refine lP (λB=>∃ ex:Aa Af,(ex=[]\/(1<=n/\ex=[nM (n-1)]))/\B=vX d k (.o (sl (kO k++ex))) (.v (.l (oC n))) (.o (.l (((List.range n).map (pG R)).map pN))) S) (λN L=>?_) ?_
 .refine⟨rfl,rfl,d,c,2,rfl,rfl,by decide,by decide,λr hr=>⟨.inl rfl,?_⟩⟩;show (0:Int)<=(r:Int)/\(r:Int)<=1000/\(rD (oC n) (some (-1)) none).length<=100/\_;have ec:rD (oC n) (some (-1)) none=(if n=0 then [] else [nM (n-1)]).map D.str:=by
   have:=Xg (λi=>D.str (nM i)) n;rw[show oC n=(List.range n).map λi=>D.str (nM i) from rfl,this];split<;>rfl
  rw[ec];refine⟨by omega,by omega,by split<;>simp,?_⟩;show ((kO k).map D.str).length+_<=100000/\_;have bd:=O.lo;have:r=0\/r=1:=by omega
  rcases this with rfl | rfl
  .refine⟨by show ((kO k).map D.str).length+0<=100000;rw[aA];omega,L _ ⟨[],.inl rfl,?_⟩⟩;rw[dM];show uD d k _ (.o (.l ((kO k).map D.str++[]))) _ _ _ _ _ _ _ _ _ _ _=_;rw[dM]
  .by_cases h0:n=0
   .rw[aT h0];refine⟨by show ((kO k).map D.str).length+0<=100000;rw[aA];omega,L _ ⟨[],.inl rfl,?_⟩⟩;rw[dM];show uD d k _ (.o (.l ((kO k).map D.str++[]))) _ _ _ _ _ _ _ _ _ _ _=_;rw[dM]
   .rw[aN h0];refine⟨by show ((kO k).map D.str).length+1<=100000;rw[aA];omega,L _ ⟨[nM (n-1)],.inr ⟨by omega,rfl⟩,?_⟩⟩;show uD d k _ (.o (.l ((kO k).map D.str++[D.str (nM (n-1))]))) _ _ _ _ _ _ _ _ _ _ _=_;rw[show sl (kO k++[nM (n-1)])=D.l ((kO k).map D.str++[D.str (nM (n-1))]) by simp[sl]]
 rintro B ⟨ex,hex,rfl⟩;have bu:(kG k).length=k.gates.length:=by unfold kG;simp
 have bw:=O.lg;have bx:=O.li;have bd:=O.lo;obtain⟨G,hG⟩:∃ G,G=(List.range n).map (pG R)++kG k:=⟨_,rfl⟩;have G2:∀ l∈G,2<=l.length:=λl hl=>by
  rw[hG] at hl;rcases aV.mp hl with q | q
  .obtain⟨i,_,rfl⟩:=aE.mp q;exact Z9 R i
  .exact O.g2 l q
 have Gl:G.length<=22:=by rw[hG];simp;omega
 refine lP (λB=>B=vX d k (.o (sl (kO k++ex))) (.v (.l (oC n))) (.o (.l (G.map pN))) S) (λN L=>?_) ?_
 .unfold oD uI;refine⟨rfl,?_⟩;refine oM k.gates D.str (λz=>pN (yB z)) _ (λΨ h=>⟨rfl,_,rfl,h⟩) (by omega) (λj z ys Nx e W Z=>⟨z,rfl,(tx z (by simp[aO e])).1,(tx z (by simp[aO e])).2,.inl rfl,W,Z⟩) ?_;refine⟨by show (((List.range n).map (pG R)).map pN).length+(k.gates.map _).length<=100000;simp;omega,L _ ?_⟩;have eG:G.map pN=((List.range n).map (pG R)).map pN++k.gates.map (λz=>pN (yB z)):=by
   rw[hG,aR]
   congr 1
   unfold kG;rw[aF];rfl
  rw[eG];rfl
 rintro _ rfl;obtain⟨u,hH⟩:∃ u,u=G.map λl=>(mE l).1:=⟨_,rfl⟩
 have eH:u=(List.range n).map nM++kH k:=by
  rw[hH,hG,aR,aF]
  congr 1
  exact bL λi _=>Jh R i
 have ah:(kI k++u).Nodup:=by
  have ax:∀ i∈List.range n,nM i∉kI k++kH k:=λi hi q=>(Dd i (by have:=eF.mp hi;omega)).1 (O.one _ q).1
  have aq:=O.nd;obtain⟨n1,n2,n3⟩:=bB.mp aq;rw[eH];refine bB.mpr ⟨n1,bB.mpr ⟨uL List.nodup_range λi hi j hj e=>(Dd i (by have:=eF.mp hi;omega)).2.2 j (by have:=eF.mp hj;omega) e,n2,λa ha b hb e=>?_⟩,λa ha b hb e=>?_⟩
  .obtain⟨i,hi,rfl⟩:=aE.mp ha;exact ax i hi (by rw[e];exact aJ _ hb)
  .rcases aV.mp hb with q | q
   .obtain⟨i,hi,rfl⟩:=aE.mp q;exact ax i hi (by rw[<- e];exact aL _ ha)
   .exact n3 a ha b q e
 have aa:("-" : Af)∉kI k++u:=λq=>by
  rw[eH] at q;rcases aV.mp q with q | q
  .exact (O.one _ (aL _ q)).2 rfl
  .rcases aV.mp q with q | q
   .obtain⟨i,hi,e⟩:=aE.mp q;exact (Dd i (by have:=eF.mp hi;omega)).2.1 e
   .exact (O.one _ (aJ _ q)).2 rfl
 have Hl:u.length=G.length:=by rw[hH];simp
 refine lP (λB=>B=uD d k (.o (sl (kI k))) (.o (sl (kO k++ex))) (.o (sl (kP k))) (.o (sl (kN k))) (.v (.l (oC n))) (.v (.l (G.map pN))) S (.o (sl (kI k++u))) .n .n .n .n .n) (λN L=>?_) ?_
 .unfold oD uI;refine⟨rfl,?_⟩;refine oM G pN (λl=>.str (mE l).1) (vX d k (.o (sl (kO k++ex))) (.v (.l (oC n))) (.v (.l (G.map pN))) S) (λΨ h=>h) (by omega) (λj l ys Nx e W Z=>⟨rfl,_,(Ix (G2 l (aO e))).1,W,Z⟩) ?_;refine⟨by show ((kI k).map D.str).length+(G.map _).length<=100000;simp;omega,L _ ?_⟩;show uD d k _ _ _ _ _ _ _ (.o (.l ((kI k).map D.str++G.map λl=>D.str (mE l).1))) _ _ _ _ _=_;rw[show sl (kI k++u)=D.l ((kI k).map D.str++G.map λl=>D.str (mE l).1) by unfold sl;rw[List.map_append,hH,List.map_map];rfl]
 rintro _ rfl;refine lP (λB=>∃ xs:Aa Af,xs.length=(kI k++u).length/\xs.Nodup/\(∀ x∈xs,GoodName x)/\B=zV d k n G S u (.o (sl (kI k))) (.o (sl (kO k++ex))) (.o (.k (mM ((kI k++u).zip xs)))) .n) (λN L=>?_) ?_
 .refine⟨rfl,_,rfl,d,c,((kI k++u).map D.str).length,rfl,rfl,by simp;omega,λxs lx nd gn=>⟨.inl rfl,false,false,_,_,_,rfl,rfl,keysL_strs (kI k++u),by simp;omega,?_⟩⟩;have a3:xs.length=(kI k++u).length:=by rw[lx,aA]
  rw[Ma,Sx (by rw[Dl _ _ a3.symm];exact ah)];exact L _ ⟨xs,a3,nd,gn,rfl⟩
 rintro B ⟨xs,lx,bq,a8,rfl⟩;have tk:((kI k++u).zip xs).map (·.1)=kI k++u:=Dl _ _ lx.symm;have ag:∀ o∈kI k++u,hL ((kI k++u).zip xs) o∈xs:=λo ho=>Ce lx.symm ho
 have X:∀ o∈kI k++u,∀ o'∈kI k++u,hL ((kI k++u).zip xs) o=hL ((kI k++u).zip xs) o'->o=o':=λo ho o' bf e=>Io lx.symm bq ho bf e
 generalize ht:(kI k++u).zip xs=t at tk ag X |-;have a7:t.length<100000:=by
  have:=bY List.length tk;simp only[aA,bK] at this;omega
 have gk:nC (kI k) (G.map mE):=by
  rw[hG,aR];exact nC.app (Sz hw _ n) (nC.more (λx F=>aL _ F) O.gt)
 have gH:∀ l∈G,(mE l).1∈u:=λl hl=>by rw[hH];exact aE.mpr ⟨l,hl,rfl⟩
 have gP:∀ l∈G,∀ p∈l.drop 2,p∈kI k++u:=λl hl p M=>by
  obtain⟨j,hj,rfl⟩:=fJ hl;have W:=(Cc gk (i:=j) (g:=mE G[j]) (by rw[bC,aQ hj];rfl)).2 p M;rcases aV.mp W with q | q
  .exact aL _ q
  .refine aJ _ ?_;rw[hH];obtain⟨g,hg,rfl⟩:=aE.mp q;obtain⟨l',bc,rfl⟩:=aE.mp (iJ hg);exact aE.mpr ⟨l',bc,rfl⟩
 have oH:∀ o∈kO k++ex,o∈u:=λo ho=>by
  rw[eH];rcases aV.mp ho with q | q
  .exact aJ _ (O.oh o q)
  .rcases hex with rfl | ⟨W,rfl⟩
   .cases q
   .rw[aZ.mp q];exact aL _ (aE.mpr ⟨n-1,eF.mpr (by omega),rfl⟩)
 have a2:∀ o∈kI k,o∈t.map (·.1):=λo ho=>by rw[tk];exact aL _ ho
 have ar:∀ o∈u,o∈t.map (·.1):=λo ho=>by rw[tk];exact aJ _ ho
 refine lP (λB=>B=zV d k n G S u (.o (sl (kI k))) (.o (sl (kO k++ex))) (.o (.k (mM t))) (.o (.l (G.map λl=>nS (ren (hL t) (mE l)))))) (λN L=>?_) ?_
 .unfold oD;refine oM G pN (λl=>nS (ren (hL t) (mE l))) (zV d k n G S u (.o (sl (kI k))) (.o (sl (kO k++ex))) (.o (.k (mM t))) .n) (λΨ h=>h) (by omega) (λj l ys Nx e W Z=>?_) (L _ rfl);have hl:=aO e;refine⟨rfl,rfl,_,(Ix (G2 l hl)).1,_,tH (ar _ (gH l hl)),rfl,_,(Ix (G2 l hl)).2,?_⟩;unfold dC aC;have aw:=(Cc gk (i:=j) (g:=mE l) (by rw[bC,e];rfl)).1.ok;have br:(l.drop 2).length<=3:=by
   have e2:(mE l).2.2.length=(l.drop 2).length:=rfl;rw[e2] at aw;rcases aw with q | q | q | q | q<;>omega
  refine oM (l.drop 2) D.str (λp=>.str (hL t p)) [.v (pN l),.o (.k (mM t))] (λΨ h=>⟨rfl,by rw[<- Lp] at h;exact h⟩) (by omega) (λj p ys Nx e W Z=>⟨rfl,_,tH (by rw[tk];exact gP l hl p (aO e)),W,Z⟩) ?_;refine⟨by show 3<=1000;decide,W,?_⟩;have eE:nS (ren (hL t) (mE l))=D.t [.str (hL t (mE l).1),.str (mE l).2.1,.t ((l.drop 2).map λp=>D.str (hL t p))]:=by
   unfold nS ren;rw[aF];rfl
  rw[eE] at Z;exact Z
 rintro _ rfl;refine lP (λB=>∃ Y:Aa Af,Y.Perm (kI k)/\B=zV d k n G S u (.o (sl (Y.map (hL t)))) (.o (sl (kO k++ex))) (.o (.k (mM t))) (.o (.l (G.map λl=>nS (ren (hL t) (mE l)))))) (λN L=>?_) ?_
 .unfold oD sQ iV;refine⟨d,c,(kI k).map D.str,rfl,.inl rfl,by simp;omega,λys M=>⟨.inl rfl,?_⟩⟩;obtain⟨Y,pI,rfl⟩:=Fa M;refine yX (Φ:=λr ae=>N (ae.set 2 r)) Y D.str (λo=>.str (hL t o)) (zV d k n G S u (.v (sl (kI k))) (.o (sl (kO k++ex))) (.o (.k (mM t))) (.o (.l (G.map λl=>nS (ren (hL t) (mE l)))))) (by rw[pI.length_eq];omega) (λj o ys Nx e W Z=>⟨rfl,_,tH (a2 o (pI.mem_iff.mp (aO e))),W,Z⟩) (L _ ⟨Y,pI,?_⟩);unfold sl;rw[aF];rfl
 rintro B ⟨Y,pI,rfl⟩;refine lP (λB=>∃ O':Aa Af,O'.Perm (kO k++ex)/\B=zV d k n G S u (.o (sl (Y.map (hL t)))) (.o (sl (O'.map (hL t)))) (.o (.k (mM t))) (.o (.l (G.map λl=>nS (ren (hL t) (mE l)))))) (λN L=>?_) ?_
 .unfold oD sQ iV;have a9:ex.length<=1:=by rcases hex with rfl | ⟨_,rfl⟩<;>simp
  refine⟨d,c,(kO k++ex).map D.str,rfl,.inl rfl,by simp;omega,λys M=>⟨.inl rfl,?_⟩⟩;obtain⟨O',pO,rfl⟩:=Fa M;refine yX (Φ:=λr ae=>N (ae.set 3 r)) O' D.str (λo=>.str (hL t o)) (zV d k n G S u (.o (sl (Y.map (hL t)))) (.v (sl (kO k++ex))) (.o (.k (mM t))) (.o (.l (G.map λl=>nS (ren (hL t) (mE l)))))) (by rw[pO.length_eq,bK];omega) (λj o ys Nx e W Z=>⟨rfl,_,tH (ar o (oH o (pO.mem_iff.mp (aO e)))),W,Z⟩) (L _ ⟨O',pO,?_⟩);unfold sl;rw[aF (g:=D.str) (f:=hL t) (l:=O')];rfl
 rintro B ⟨O',pO,rfl⟩;have b0:=O.lp;have ay:=Hs (kP k) O.pe;obtain⟨Q,ab⟩:∃ Q,Q=mS (kP k):=⟨_,rfl⟩;rw[<- ab] at ay;refine lP (λB=>B=zS d k n G S u t Y O' (.o (sl (kN k))) (.o (.k (mM t))) (.o (.l (Q.map λp=>qB (hL t p.1,hL t p.2)))) .n .n) (λN L=>?_) ?_
 .unfold oD sQ P6;refine⟨rfl,_,rfl,⟨by omega,by omega,by show (0:Int)<=(((kP k).map D.str).length:Nat);omega,by show ((((kP k).map D.str).length:Nat):Int)<=100000;simp;omega,by omega,by omega⟩,?_⟩;have em:vH 0 ((((kP k).map D.str).length:Nat):Int) 2=Q.length:=by
   rw[aA,<- ay];exact Rl _
  rw[em];refine yX (Φ:=λr ae=>N (ae.set 12 r)) (List.range Q.length) (λ(i:Nat)=>D.int (0+(i:Int)*2)) (λi=>(λp:Af×Af=>qB (hL t p.1,hL t p.2)) (Q.getD i ("",""))) (zS d k n G S u t Y O' (.o (sl (kN k))) (.o (.k (mM t))) .n .n .n) (by rw[dB];omega) (λj i ys Nx e W Z=>?_) ?_
  .have hi:=eF.mp (aO e);have M:Q[i]?=some Q[i]:=aQ hi;have bb:Q.getD i ("","")=Q[i]:=by simp[List.getD,M]
   rw[bb] at Z;obtain⟨q1,q2⟩:=pairs_at (by rw[<- ab];exact M);have hm:=O.pm Q[i] (by rw[<- ab];exact fP hi);refine⟨rfl,rfl,.str Q[i].1,?_,_,tH (ar _ (oH _ (aL _ hm.1))),rfl,rfl,rfl,.str Q[i].2,?_,_,tH (a2 _ hm.2),by show 2<=1000;decide,W,Z⟩
   .rw[show (0+(i:Int)*2)=((2*i:Nat):Int) by omega];exact pJ (by rw[bC,q1];rfl)
   .rw[show (0+(i:Int)*2+1)=((2*i+1:Nat):Int) by omega];exact pJ (by rw[bC,q2];rfl)
  .rw[GG Q ("","") (λp:Af×Af=>qB (hL t p.1,hL t p.2))];exact L _ rfl
 rintro _ rfl;refine lP (λB=>B=zS d k n G S u t Y O' (.o (sl (kN k))) (.o (.k (mM (t++[(("-" : Af),("" : Af))])))) (.o (.l (Q.map λp=>qB (hL t p.1,hL t p.2)))) .n .n) (λN L=>⟨rfl,_,HF (by rw[tk];exact aa) a7,L _ rfl⟩) ?_;rintro _ rfl;refine lP (λB=>B=zS d k n G S u t Y O' (.o (sl (kN k))) (.o (.k (mM (t++[(("-" : Af),("" : Af))])))) (.o (.l (Q.map λp=>qB (hL t p.1,hL t p.2)))) (.o (.k [])) .n) (λN L=>L _ rfl) ?_;rintro _ rfl;have bz:=O.ln;have be:=Hs (kN k) O.ne;have a5:(t++[(("-" : Af),("" : Af))]).map (·.1)=(kI k++u)++[("-" : Af)]:=by rw[aR,tk];rfl
 have af:∀ x∈kI k++u,hL (t++[(("-" : Af),("" : Af))]) x=hL t x:=λx F=>BX (by rw[tk];exact F)
 have au:hL (t++[(("-" : Af),("" : Af))]) "-" = "" := by
  unfold hL;rw[List.find?_append,List.find?_eq_none.mpr λp M=>by
   have:p.1∈kI k++u:=by rw[<- tk];exact aE.mpr ⟨p,M,rfl⟩
   exact λz=>aa (by rw[<- cW z];exact this)]
  rfl
 have az:∀ x y,(x∈kI k++u\/x = "-")->(y∈kI k++u\/y = "-")->hL (t++[(("-" : Af),("" : Af))]) x=hL (t++[(("-" : Af),("" : Af))]) y->x=y:=by
  have ne:∀ x∈kI k++u,hL t x ≠ "" := λx F e=>by have:=(a8 _ (ag x F)).ls.lo;rw[e] at this;exact absurd this (by decide)
  rintro x y (F | rfl) (hy | rfl) e
  .rw[af x F,af y hy] at e;exact X x F y hy e
  .rw[af x F,au] at e;exact absurd e (ne x F)
  .rw[af y hy,au] at e;exact absurd e.symm (ne y hy)
  .rfl
 refine lP (λB=>∃ (wt:lZ) (ac:Sl),(WtOk 9 wt/\∀ x,(x∈kI k++u\/x = "-")->gD wt (hL (t++[(("-" : Af),("" : Af))]) x)=gD (qF k) x)/\B=zS d k n G S u t Y O' (.v (sl (kN k))) (.o (.k (mM (t++[(("-" : Af),("" : Af))])))) (.o (.l (Q.map λp=>qB (hL t p.1,hL t p.2)))) (.o (.k (dK wt))) ac) (λN L=>?_) ?_
 .have em:vH 0 ((((kN k).map D.str).length:Nat):Int) 2=(mS (kN k)).length:=by
   rw[aA,<- be];exact Rl _
  refine rG (wI 0 2 (mS (kN k)).length) (zS d k n G S u t Y O' (.v (sl (kN k))) (.o (.k (mM (t++[(("-" : Af),("" : Af))])))) (.o (.l (Q.map λp=>qB (hL t p.1,hL t p.2)))) (.o (.k [])) .n) (λΨ h=>⟨rfl,_,rfl,⟨by omega,by omega,by show (0:Int)<=(((kN k).map D.str).length:Nat);omega,by show ((((kN k).map D.str).length:Nat):Int)<=100000;simp;omega,by omega,by omega⟩,by rw[em];exact h⟩)
   (λj B=>∃ (wt:lZ) (ac:Sl),(wt.length<=j/\(wt.map (·.1)).Nodup/\(∀ p∈wt,-9<=p.2/\p.2<=9)/\∀ x,(x∈kI k++u\/x = "-")->gD wt (hL (t++[(("-" : Af),("" : Af))]) x)=gD ((qF k).take j) x)/\B=zS d k n G S u t Y O' (.v (sl (kN k))) (.o (.k (mM (t++[(("-" : Af),("" : Af))])))) (.o (.l (Q.map λp=>qB (hL t p.1,hL t p.2)))) (.o (.k (dK wt))) ac) ⟨[],.n,⟨by simp,by simp,by simp,λx _=>rfl⟩,rfl⟩ ?_ ?_
  .rintro j x B F ⟨wt,ac,⟨bv,aq,ba,ak⟩,rfl⟩;obtain⟨j',ao,rfl⟩:=sU F;obtain⟨hj,e⟩:=aU.mp ao;rw[dB] at hj;rw[jC] at e;subst e;have M:(mS (kN k))[j]?=some (mS (kN k))[j]:=aQ hj;obtain⟨q1,q2⟩:=pairs_at M;obtain⟨m1,m2,m3⟩:=O.nm _ (fP hj);obtain⟨v,hv⟩:=dD.mp m2;have a1:nT ((kN k).map D.str) (0+(j:Int)*2+1)=some (.str (mS (kN k))[j].2):=by
    rw[show (0+(j:Int)*2+1)=((2*j+1:Nat):Int) by omega];exact pJ (by rw[bC,q2];rfl)
   have a0:nT ((kN k).map D.str) (0+(j:Int)*2)=some (.str (mS (kN k))[j].1):=by
    rw[show (0+(j:Int)*2)=((2*j:Nat):Int) by omega];exact pJ (by rw[bC,q1];rfl)
   have ky:(mS (kN k))[j].1∈(t++[(("-" : Af),("" : Af))]).map (·.1):=by
    rw[a5];rcases m1 with q | q
    .refine aL _ ?_;rcases aV.mp q with z | z
     .exact aL _ z
     .exact aJ _ (by rw[eH];exact aJ _ z)
    .rw[q];exact aJ _ (by simp)
   have jl:j<100:=by omega
   have bg:=BG hk (fP hj) hv;have e3:=To wt (hL (t++[(("-" : Af),("" : Af))]) (mS (kN k))[j].1) v;refine⟨rfl,rfl,_,a1,v,hv,m3,rfl,rfl,rfl,_,a0,_,tH ky,.k (mY (dK wt) (Sum.inr (hL (t++[(("-" : Af),("" : Af))]) (mS (kN k))[j].1)) (.int v)),?_,qA wt (hL (t++[(("-" : Af),("" : Af))]) (mS (kN k))[j].1) v,.v (.int (0+(j:Int)*2)),⟨?_,AO aq,λp M=>?_,λx F=>?_⟩,?_⟩
   .have:(dK wt).length<100000:=by unfold dK;rw[List.length_map];omega
    simp only[yF,aT this];rfl
   .exact cK (LJ _ _ _) (by omega)
   .rcases IU M with q | q
    .exact ba p q
    .rw[q];exact bg
   .have hT:(qF k)[j]?=some ((mS (kN k))[j].1,v):=by
     unfold qF;rw[bC,M];show some (_,(intText? _).getD 0)=_;rw[hv];rfl
    have hq:(mS (kN k))[j].1∈kI k++u\/(mS (kN k))[j].1 = "-" := by
     rw[a5] at ky;rcases aV.mp ky with q | q
     .exact .inl q
     .exact .inr (aZ.mp q)
    have a6:(qF k).take (j+1)=(qF k).take j++[((mS (kN k))[j].1,v)]:=by rw[cL,hT];rfl
    rw[CN,a6,B7,ak x F];have nj:(mS (kN k))[j].1∉((qF k).take j).map (·.1):=λz=>by
     have a4:=FP hk;rw[<- eD (j+1) (qF k),a6,aR,aR] at a4;exact (bB.mp (bB.mp a4).1).2.2 _ z _ (by simp) rfl
    by_cases z:x=(mS (kN k))[j].1
    .subst z;rw[aT rfl,aN nj];show v=gD [((mS (kN k))[j].1,v)] (mS (kN k))[j].1;rw[qC,aT rfl]
    .rw[aN λq=>z (az _ _ F hq q)];by_cases m:x∈((qF k).take j).map (·.1)
     .rw[aT m]
     .rw[aN m,qC,aN (λq=>z q.symm),((nI _ x).2 m).2];rfl
   .rw[<- e3];rfl
  .rintro B ⟨wt,ac,⟨W,Z,h3,h4⟩,rfl⟩;have e4:(wI 0 2 (mS (kN k)).length).length=(mS (kN k)).length:=by unfold wI;simp
   rw[e4,bI (by unfold qF;rw[List.length_map];exact aW _)] at h4;exact L _ ⟨wt,ac,⟨⟨Z,by omega,h3⟩,h4⟩,rfl⟩
 rintro B ⟨wt,ac,⟨bi,ak⟩,rfl⟩;refine⟨by show 3<=1000;decide,d,c,_,rfl,.inl rfl,by show (Q.map _).length<=1000;simp;omega,λys M=>⟨.inl rfl,by show 2<=1000;decide,by show 2<=1000;decide,?_⟩⟩;obtain⟨al,pA,e⟩:=Pb (xs:=Q.map λp=>(hL t p.1,hL t p.2)) (ys:=ys) (by rw[aF];exact M);subst e;have fin:=bj ⟨Y.map (hL t),G.map λl=>ren (hL t) (mE l),O'.map (hL t)⟩ al wt ?_ bi ?made
 .unfold At tK at fin;dsimp only at fin;rw[aF (g:=nS)] at fin;exact fin
 have iO:∀ o∈O',o∈kI k++u:=λo ho=>aJ _ (oH o (pO.mem_iff.mp ho))
 have iI:∀ o∈Y,o∈kI k++u:=λo ho=>aL _ (pI.mem_iff.mp ho)
 have a9:ex.length<=1:=by rcases hex with rfl | ⟨_,rfl⟩<;>simp
 have eN:(G.map λl=>ren (hL t) (mE l)).map (·.1)=u.map (hL t):=by
  rw[hH,aF,aF];rfl
 have pm:∀ p∈Q,p.1∈kO k/\p.2∈kI k:=λp M=>O.pm p (by rw[<- ab];exact M)
 have bo:(Q.map (·.1)).Nodup:=by rw[ab];exact O.p1
 have bp:(Q.map (·.2)).Nodup:=by rw[ab];exact O.p2
 have bm:(kO k++ex).Nodup:=by
  refine bB.mpr ⟨O.ond,?_,λa ha b hb e=>?_⟩
  .rcases hex with rfl | ⟨_,rfl⟩<;>simp
  .rcases hex with rfl | ⟨W,rfl⟩
   .cases hb
   .rw[aZ.mp hb] at e;exact (Dd (n-1) (by omega)).1 (by rw[<- e];exact (O.one a (aJ _ (O.oh a ha))).1)
 refine⟨⟨?_,?_,?_,?_,?_,?_,?_,?_⟩,?_,?_,?_,?_,?_⟩
 .show (Y.map (hL t)++(G.map λl=>ren (hL t) (mE l)).map (·.1)).Nodup;rw[eN,<- aR];have ai:(Y++u).Perm (kI k++u):=pI.append_right u;exact uL (ai.nodup_iff.mpr ah) λx F y hy e=>X x (ai.mem_iff.mp F) y (ai.mem_iff.mp hy) e
 .intro x F;have F:x∈Y.map (hL t)++(G.map λl=>ren (hL t) (mE l)).map (·.1):=F;rw[eN,<- aR] at F;obtain⟨o,ho,rfl⟩:=aE.mp F;refine a8 _ (ag o ?_);rcases aV.mp ho with q | q
  .exact iI o q
  .exact aJ _ q
 .have g1:nC Y (G.map mE):=nC.more (λx F=>pI.mem_iff.mpr F) gk;have:=g1.ren (hL t);rw[aF] at this;exact this
 .intro o ho;obtain⟨q,hq,rfl⟩:=aE.mp ho;refine aJ _ ?_;rw[eN];exact aE.mpr ⟨q,oH q (pO.mem_iff.mp hq),rfl⟩
 .exact uL (pO.nodup_iff.mpr bm) λx F y hy e=>X x (iO x F) y (iO y hy) e
 .show (Y.map (hL t)).length<=6;rw[aA,pI.length_eq];omega
 .show (G.map _).length<=24;rw[aA];omega
 .show (O'.map (hL t)).length<=6;rw[aA,pO.length_eq,bK];omega
 .intro o ho;obtain⟨q,hq,rfl⟩:=aE.mp ho;show _∈(G.map λl=>ren (hL t) (mE l)).map (·.1);rw[eN];exact aE.mpr ⟨q,oH q (pO.mem_iff.mp hq),rfl⟩
 .refine (pA.map (·.1)).nodup_iff.mpr ?_;rw[aF];have:(Q.map (·.1)).map (hL t)=Q.map ((·.1)∘λp:Af×Af=>(hL t p.1,hL t p.2)):=by rw[aF];rfl
  rw[<- this];refine uL bo λx F y hy e=>X x ?_ y ?_ e
  .obtain⟨p,M,rfl⟩:=aE.mp F;exact aJ _ (oH _ (aL _ (pm p M).1))
  .obtain⟨p,M,rfl⟩:=aE.mp hy;exact aJ _ (oH _ (aL _ (pm p M).1))
 .refine (pA.map (·.2)).nodup_iff.mpr ?_;rw[aF];have:(Q.map (·.2)).map (hL t)=Q.map ((·.2)∘λp:Af×Af=>(hL t p.1,hL t p.2)):=by rw[aF];rfl
  rw[<- this];refine uL bp λx F y hy e=>X x ?_ y ?_ e
  .obtain⟨p,M,rfl⟩:=aE.mp F;exact aL _ (pm p M).2
  .obtain⟨p,M,rfl⟩:=aE.mp hy;exact aL _ (pm p M).2
 .intro p M;obtain⟨q,hq,rfl⟩:=aE.mp (pA.mem_iff.mp M);exact⟨aE.mpr ⟨q.1,pO.mem_iff.mpr (aL _ (pm q hq).1),rfl⟩,aE.mpr ⟨q.2,pI.mem_iff.mpr (pm q hq).2,rfl⟩⟩
 .rw[pA.length_eq,aA];omega
 case made =>
  have aj:(((List.range n).map (pG R)).map mE++(kG k).map mE).map (·.1)=u:=by
   rw[hH,hG,<- aR,aF];rfl
  have av:G.map mE=((List.range n).map (pG R)).map mE++(kG k).map mE:=by rw[hG,aR]
  refine⟨((List.range n).map (pG R)).map mE,ex,hL t,?_,?_,?_,?_,?_,?_,?_,pI.map _,?_,pO.map _,?_,?_,?_,?_⟩
  .rw[aj];exact ah
  .rw[<- av];exact gk
  .intro e he;rcases hex with rfl | ⟨W,rfl⟩
   .cases he
   .rw[aZ.mp he,aF,aF];exact aE.mpr ⟨n-1,eF.mpr (by omega),Jh R (n-1)⟩
  .refine bB.mpr ⟨O.ond,?_,λa ha b hb e=>?_⟩
   .rcases hex with rfl | ⟨_,rfl⟩<;>simp
   .rcases hex with rfl | ⟨W,rfl⟩
    .cases hb
    .rw[aZ.mp hb] at e;exact (Dd (n-1) (by omega)).1 (by rw[<- e];exact (O.one a (aJ _ (O.oh a ha))).1)
  .rcases hex with rfl | ⟨_,rfl⟩<;>simp
  .simp;omega
  .rw[aj];exact X
  .show (G.map λl=>ren (hL t) (mE l))=_;rw[<- av,aF];rfl
  .rw[<- ab];exact pA
  .intro x F;rw[aj] at F;refine⟨λz=>aa (by rw[<- z];exact F),λz=>?_⟩;rw[eH] at F;have one:∀ y∈kI k++kH k,y ≠ "" := λy hy z=>by have:=(O.one y hy).1;rw[z] at this;exact absurd this (by decide)
   rcases aV.mp F with q | q
   .exact one x (aL _ q) z
   .rcases aV.mp q with q | q
    .obtain⟨i,hi,e⟩:=aE.mp q;exact NN i (by have:=eF.mp hi;omega) (e.trans z)
    .exact one x (aJ _ q) z
  .rw[<- ak "-" (.inr rfl),au]
  .intro x F;rw[aj] at F;rw[<- ak x (.inl F),af x F]
end
noncomputable def rN (w:Af) (bs:Aa Int):Int :=
 if w = "and" then (if bs.sum=bs.length then 1 else 0)
 else if w = "or" then (if bs.sum>0 then 1 else 0)
 else if w = "odd" then bs.sum%2
 else if w = "most" then (if bs.sum>=2 then 1 else 0)
 else if w = "not" then (if bs.sum=0 then 1 else 0)
 else if w = "one" then 1 else 0
def mH (i:Int):Prop:=i=0\/i=1
theorem Uv (w:Af) (bs:Aa Int):mH (rN w bs):=by
 unfold rN mH;have:=dU bs.sum (show (2:Int)≠0 by decide);have:=dF bs.sum (show (0:Int)<2 by decide)
 repeat' split
 all_goals omega
theorem Iq:∀ {bs:Aa Int},(∀ b∈bs,mH b)->0<=bs.sum/\bs.sum<=bs.length
 | [],_=>by simp
 | b::r,h=>by
  have a:=h b aH;have d:=Iq λx c=>h x (aM _ c)
  simp only[dX,bS];unfold mH at a;omega
theorem Qb:∀ {bs:Aa Int},(∀ b∈bs,b=1)->bs.sum=bs.length
 | [],_=>by simp
 | b::r,h=>by
  have c:=h b aH;have d:=Qb λx a=>h x (aM _ a)
  simp only[dX,bS];omega
theorem Uj:∀ {bs:Aa Int},(∀ b∈bs,mH b)->(0:Int)∈bs->bs.sum<bs.length
 | [],_,h=>by simp at h
 | b::r,h,d=>by
  have c:=h b aH;have a:∀ x∈r,mH x:=λx f=>h x (aM _ f)
  have i:=Iq a;simp only[dX,bS];unfold mH at c;rcases aI.mp d with e | e
  .omega
  .have:=Uj a e;omega
theorem Nk:∀ {bs:Aa Int},(∀ b∈bs,mH b)->(1:Int)∈bs->0<bs.sum
 | [],_,h=>by simp at h
 | b::r,h,d=>by
  have c:=h b aH;have a:∀ x∈r,mH x:=λx f=>h x (aM _ f)
  have i:=Iq a;simp only[dX];unfold mH at c;rcases aI.mp d with e | e
  .omega
  .have:=Nk a e;omega
theorem M8:∀ {bs:Aa Int},(∀ b∈bs,b=0)->bs.sum=0
 | [],_=>by simp
 | b::r,h=>by
  have c:=h b aH;have d:=M8 λx a=>h x (aM _ a)
  simp only[dX];omega
theorem NB {bs:Aa Int}{m:Int}(g:∀ b∈bs,mH b) (j:m∈bs) (l:∀ a∈bs,m<=a):m=if bs.sum=bs.length then 1 else 0:=by
 rcases g m j with e | e
 .subst e;have:=Uj g j;rw[aN (by omega)]
 .subst e;have:∀ b∈bs,b=1:=λb c=>by
   have:=l b c;rcases g b c with q | q<;>omega
  rw[aT (Qb this)]
theorem BP {bs:Aa Int}{m:Int}(g:∀ b∈bs,mH b) (j:m∈bs) (l:∀ a∈bs,a<=m):m=if bs.sum>0 then 1 else 0:=by
 rcases g m j with e | e
 .subst e;have:∀ b∈bs,b=0:=λb c=>by
   have:=l b c;rcases g b c with q | q<;>omega
  have:=M8 this;rw[aN (by omega)]
 .subst e;have:=Nk g j;rw[aT (by omega)]
def pV (j:Af->Int):Aa (Af×Af×Aa Af)->Af->Int
 | []=>j
 | g::r=>pV (λx=>if x=g.1 then rN g.2.1 (g.2.2.map j) else j x) r
def Di (j:Af->Int) (g:Af×Af×Aa Af):Af->Int:=λx=>if x=g.1 then rN g.2.1 (g.2.2.map j) else j x
theorem Ot:∀ (l:Aa (Af×Af×Aa Af)) (j:Af->Int) (g:Af×Af×Aa Af),pV j (l++[g])=Di (pV j l) g
 | [],j,g=>rfl
 | a::r,j,g=>Ot r _ g
def oX (C:Cel) (g:Af->Int):Af->Int:=pV g C.gates
theorem nC.at:∀ {kn:Aa Af}{i:Nat}{g:Af×Af×Aa Af},nC kn j->j[i]?=some g->ArOk g.2.1 g.2.2.length/\∀ p∈g.2.2,p∈kn++(j.take i).map (·.1):=by
 induction j with
 | nil=>intro kn i g _ h;simp at h
 | cons a r c =>
  intro kn i g h e;cases i with
  | zero=>simp at e;subst e;exact⟨h.1,by simpa using h.2.1⟩
  | succ i =>
   have:=c (kn:=kn++[a.1]) (i:=i) (g:=g) h.2.2 (by simpa using e);refine⟨this.1,λp b=>?_⟩;have q:=this.2 p b
   simpa using q
theorem Ni (h:ArOk w n) (g:w = "and" \/ w = "or"):2<=n:=by
 rcases h.ok with⟨_,q | q⟩ | ⟨q,_⟩ | ⟨q,_⟩ | ⟨q,_⟩ | ⟨q,_⟩
 .omega
 .omega
 all_goals (rcases g with e | e<;>(rw[e] at q;exact absurd q (by decide +kernel)))
theorem JF (h:ArOk "not" n):n=1:=by
 rcases h.ok with⟨q,_⟩ | ⟨q,_⟩ | ⟨_,q⟩ | ⟨q,_⟩ | ⟨q,_⟩
 .exact absurd q (by decide +kernel)
 .exact absurd q (by decide +kernel)
 .exact q
 .exact absurd q (by decide +kernel)
 .exact absurd q (by decide +kernel)
structure GC (C:Cel):Prop where
 nd:C.names.Nodup
 gt:nC C.ins C.gates
 os:∀ o∈C.outs,o∈C.names
 ond:C.outs.Nodup
 li:C.ins.length<=40
 lg:C.gates.length<=40
 lo:C.outs.length<=40
def vN (g:Aa (hI×D)) (l:Aa Af) (j:Af->Int):Prop:=∀ x∈l,lW g (Sum.inr x)=some (.int (j x))/\mH (j x)
theorem vN.step (h:vN g j o) (l:mH v) (p:n∉j):vN (mY g (Sum.inr n) (.int v)) (j++[n]) (λx=>if x=n then v else o x):=by
 intro x a;dsimp only;rw[O6];by_cases e:x=n
 .subst e;rw[aT rfl,aT rfl];exact⟨rfl,l⟩
 .rw[aN (λz=>e (gC z).symm),aN e];rcases aV.mp a with q | q
  .exact h x q
  .exact absurd (aZ.mp q) e
def Ng:RD:=λe c d=>∃ (a:Af) (bs:Aa Int),c=[.str a,.l (bs.map D.int)]/\(∀ b∈bs,mH b)/\ArOk a bs.length/\d (.v (.int (rN a bs)))
def JG (g:Aa (hI×D)) (j:Aa Af):Prop:=∀ x∈j,∃ d,lW g (Sum.inr x)=some d
def Mr:RD:=λf c d=>∃ (b:Aa Af) (a:Aa (hI×D)),(c=[.t (b.map D.str),.k a]\/c=[.l (b.map D.str),.k a])/\JG a b/\d (.v .e)
def J0:RD:=λe c d=>∃ (C:Cel) (a:Aa (hI×D)) (b:Af->Int),c=[tK C,.k a]/\GC C/\vN a C.ins b/\d (.v (.t (C.outs.map λo=>D.int (oX C b o))))
theorem Qg {g:Type} [DecidableEq g] {a b:g}{p q:Prop}(j:a=b->p) (l:¬ a=b->q):if (nb false (decide (a=b)))=true then p else q:=by
 by_cases e:a=b
 .rw[aT (by simp[nb,e])];exact j e
 .rw[aN (by simp[nb,e])];exact l e
theorem MH {c:Prop} [Decidable c] {p q:Prop}(g:c->p) (j:¬ c->q):if (decide c)=true then p else q:=by
 by_cases e:c
 .rw[aT (cB e)];exact g e
 .rw[aN (by simp[e])];exact j e
theorem Op (h:g.length<100000):yF (.k g) (.str x) d=some (.k (mY g (Sum.inr x) d)):=by
 simp only[yF,aT h];rfl
theorem tE (t:lZ):(dK t).length=t.length:=by simp[dK]
theorem AL (h:i<=60):(0:Int)<2 ^ i/\(2:Int) ^ i<2 ^ 64:=by
 have a:(2:Int) ^ i=((2 ^ i:Nat):Int):=by norm_cast
 have b:2 ^ i<2 ^ 64:=Nat.pow_lt_pow_right (by decide) (by omega);have c:0<2 ^ i:=Nat.two_pow_pos i;rw[a];omega
theorem FM:(["name","bits"]:Aa Af).Nodup:=by decide +kernel
theorem IN:(["known","told"]:Aa Af).Nodup:=by decide +kernel
theorem Wt:(["name","told"]:Aa Af).Nodup:=by decide +kernel
section
variable {P:Ah}{K:lL}
theorem OO:FnScope ["word","bits"] ["word","bits"] (mI F9):=nU
theorem LZ (T:Txt j):nZ P w K j base 1 "gate_bit" F9 ["word","bits"] Ng:=by
 refine oI OO λf S A M s H E n p c h Z Y=>?_
 obtain⟨k,bs,rfl,B,ok,G⟩:=Y;have fin:∀ z:Int,z=rN k bs->c (.v (.int z)):=λz e=>by rw[e];exact G
 have a:=Jq bs;have st:∀ (e:Af) (t u:pP),(k=e->t n { nx:=λ_=>c (.v .e),rt:=c } [.v (.str k),.v (.l (bs.map D.int))])->(¬ k=e->u n { nx:=λ_=>c (.v .e),rt:=c } [.v (.str k),.v (.l (bs.map D.int))]) ->
   (∀ N O R,N.rt=O.rt->t n N R->t n O R)->K2 (O8 (Dg (uI (Tk false) 0 (cd (.str e)))) t Vd) u n { nx:=λ_=>c (.v .e),rt:=c } [.v (.str k),.v (.l (bs.map D.int))]:=λe t u V W X =>
  ⟨rfl,Qg (λz=>X { nx:=λ_=>c (.v .e),rt:=c } _ _ rfl (V z)) λz=>W z⟩
 refine⟨_,(lM (wP (tY (wL h.units) (uE false) (pv 0) lY) (mL (nA (pH (Mb rfl) Ks T.min iB (aD (dT 1) gV)))) wM) (lM (wP (tY (wL h.units) (uE false) (pv 0) lY) (mL (nA (pH (BO rfl) Za T.max PyProof.Rows.boot_max (aD (dT 1) gV)))) wM) (lM (wP (tY (wL h.units) (uE false) (pv 0) lY) (mL (nA (nG rF Ub (pH (Hw rfl) Lr T.sum iA (aD (dT 1) gV)) lN))) wM) (lM (wP (tY (wL h.units) (uE false) (pv 0) lY) (mL (nA (O9 (CK LM LD (pH (Hw rfl) Lr T.sum iA (aD (dT 1) gV)) lN) lN lN))) wM) (lM (wP (tY (wL h.units) (uE false) (pv 0) lY) (mL (nA (nG vM xW lN (lT Z 1 lN)))) wM) (mL (nA (O9 (tY (wL h.units) (uE false) (pv 0) lY) lN lN)))))))),?_⟩;refine st _ _ _ (λe=>⟨bs,a,?_,λm F y=>fin m ?_⟩) (λd=>?_) (λ_ _ _ e=>by unfold rC;rw[e];exact id)
 .have:=Ni ok (.inl e);intro z;rw[z] at this;simp at this
 .rw[NB B F y];unfold rN;rw[if_pos e]
 refine st _ _ _ (λe=>⟨bs,a,?_,λm F y=>fin m ?_⟩) (λi=>?_) (λ_ _ _ e=>by unfold rC;rw[e];exact id)
 .have:=Ni ok (.inr e);intro z;rw[z] at this;simp at this
 .rw[BP B F y];unfold rN;rw[if_neg d,if_pos e]
 refine st _ _ _ (λe=>⟨bs,a,by show (0:Int)<2;decide,fin _ ?_⟩) (λx=>?_) (λ_ _ _ e=>by unfold rC;rw[e];exact id)
 .unfold rN;rw[if_neg d,if_neg i,if_pos e]
 refine st _ _ _ (λe=>⟨bs,a,MH (λz=>fin _ ?_) (λz=>fin _ ?_)⟩) (λL=>?_) (λ_ _ _ e=>by unfold rC;rw[e];exact id)
 .unfold rN;rw[if_neg d,if_neg i,if_neg x,if_pos e,if_pos z]
 .unfold rN;rw[if_neg d,if_neg i,if_neg x,if_pos e,if_neg z]
 refine st _ _ _ (λe=>?_) (λQ=>?_) (λ_ _ _ e=>by unfold rC;rw[e];exact id)
 .subst e;have g:=JF ok;obtain⟨b,rfl⟩:∃ b,bs=[b]:=by
   match bs,g with
   | [b],_=>exact⟨b,rfl⟩
  refine⟨rfl,.int b,rfl,fin _ ?_⟩;have:=B b (by simp);unfold rN;rw[aN d,aN i,aN x,aN L,aT rfl];rcases this with q | q<;>subst q<;>simp
 refine⟨rfl,Qg (λe=>fin _ ?_) λo=>fin _ ?_⟩
 .unfold rN;rw[if_neg d,if_neg i,if_neg x,if_neg L,if_neg Q,if_pos e]
 .unfold rN;rw[if_neg d,if_neg i,if_neg x,if_neg L,if_neg Q,if_neg o]
theorem Rv:FnScope ["names","given","name"] ["names","given"] (mI C7):=nU
theorem Sj (j:H b=some (.k g)) (l:oV g (Sum.inr x)=some v):qD H b (.str x) (some v):=by
 have:=qD.k (k:=(Sum.inr x:hI)) j
 rwa [l] at this
theorem P7 {g:Aa Af}{i:Nat}{x:V}(h:(g.map V.str)[i]?=some x):∃ y,g[i]?=some y/\V.str y=x:=by
 rw[bC] at h;cases e:g[i]? with
 | none=>rw[e] at h;cases h
 | some y=>rw[e] at h;exact⟨y,rfl,bN h⟩
theorem OB (F:Fun K "check_there" "check_there" C7 f fd):FnOk P w K mg base nR 1 f fd ["names","given"] (wR K Mr):=by
 refine F.ok Rv (λg H Q E O=>by obtain⟨l,A,o,Φ,D,C,r,⟨m,S,e,_⟩,Y⟩:=O;rw[<- r.length];rcases e with e | e<;>rw[e]<;>rfl) (λj A W s H g Q E I O=>?_);obtain⟨l,A1,o,Φ,D,C,r,⟨m,S,e,J,R⟩,Y⟩:=O;have T:=Jd I;obtain⟨c,b,u,rfl,q,B,G⟩:∃ c b u,g=[.ref c,.ref b]/\(lO K H c (m.map V.str)\/mF K H c (m.map V.str))/\H b=some (.k u)/\∀ x∈m,∃ v,oV u (Sum.inr x)=some v:=by
  rcases e with e | e<;>subst e
  all_goals (
   cases r with
   | cons Z r =>
    cases r with
    | cons U r =>
     cases r;obtain⟨b,u,rfl,_,B,p,r3⟩:=U.dK_inv;have G:∀ x∈m,∃ v,oV u (Sum.inr x)=some v:=λx L=>by
      obtain⟨d,hd⟩:=J x L;obtain⟨v,z,_⟩:=(Ic p r3 (Sum.inr x)).1 d hd;exact⟨v,z⟩
     first
     | (obtain⟨c,us,rfl,z,X⟩:=Z.tup_inv;have:=Jw (F5 m) X;subst this;exact⟨c,b,u,rfl,.inr (mF.of z),B,G⟩)
     | (obtain⟨c,us,rfl,_,z,X⟩:=Z.lst_inv;have:=Jw (F5 m) X;subst this;exact⟨c,b,u,rfl,.inl (lO.of z),B,G⟩))
 have fin:Q .e H:=Y (.v .e) .e H R (λ_ _ e _=>e) D .e;refine⟨_,qJ (Bt gA rfl (Oh (pv 0)) (sD (i:=2) Rv.nd rfl (Or.inl rfl)) (qJ (zI (MR (Zq T (pv 2) (pv 1))) (qJ AX) Bu))),?_⟩;refine⟨_,rfl,?_⟩;rcases q with q | q
 .refine .inl ⟨c,rfl,⟨_,q⟩,?_⟩;refine KG (K:=K) (a:=c) (xs:=m.map V.str) (λi n h=>h=H/\∃ M,n=[some (.ref c),some (.ref b),M]) ⟨rfl,none,rfl⟩ (λi n h _ ⟨e,_⟩=>by rw[e];exact q) ?_ ?_
  .rintro i x n h L ⟨rfl,M,rfl⟩;obtain⟨y,N,rfl⟩:=P7 L;obtain⟨v,t⟩:=G y (aO N);exact⟨_,rfl,_,rfl,b,_,rfl,Sj B t,_,rfl,tS ⟨rfl,_,rfl⟩⟩
  .rintro n h ⟨rfl,_⟩;exact fin
 .refine .inr (.inl ⟨c,rfl,⟨_,q⟩,?_⟩);refine CD (K:=K) (a:=c) (xs:=m.map V.str) (λi n h=>h=H/\∃ M,n=[some (.ref c),some (.ref b),M]) ⟨rfl,none,rfl⟩ (λi n h _ ⟨e,_⟩=>by rw[e];exact q) ?_ ?_
  .rintro i x n h L ⟨rfl,M,rfl⟩;obtain⟨y,N,rfl⟩:=P7 L;obtain⟨v,t⟩:=G y (aO N);exact⟨_,rfl,_,rfl,b,_,rfl,Sj B t,_,rfl,tS ⟨rfl,_,rfl⟩⟩
  .rintro n h ⟨rfl,_⟩;exact fin
theorem Cn:FnScope ["cell","bits","told","name","word","names"] ["cell","bits"] (mI C4):=nU
theorem IA (T:Txt mg) (l:Kn P w K mg base 1 "check_there" C7 ["names","given"] Mr) (I:Kn P w K mg base 1 "gate_bit" F9 ["word","bits"] Ng)
: nZ P w K mg base 2 "told_by" C4 ["cell","bits"] J0:=by
 refine oI Cn λf ae A ac s H E dk ds Φ hr G hR=>?_
 obtain⟨C,y,m,rfl,L,U,aa⟩:=hR;have li:=L.li;have lg:=L.lg;have O:C.ins.Nodup:=(bB.mp L.nd).1;refine⟨_,(lM (pW (lU l hr (aD (lT G 0 lN) (aD (dT 1) gV)))) (lM (lV 2 Cn.nd (nE (sX rfl) tA T.dict bV (aD (nJ ["name"] ["bits"] [1] (mW (lT G 0 lN)) (λ_ _ _ _ _=>(lX 0 FM)) (λ_ _ _ _ _=>(mZ (aD (dT 0) (aD (lT G 1 (dT 0)) gV))))) gV))) (lM (qV (mW (lT G 0 lN)) (sB (n:=3) rfl (nL (lX 3 Cn.nd) (nL (lX 4 Cn.nd) (nL (lX 5 Cn.nd) rK)))) (mL (A7 (n:=2) G (lU I hr (aD (dT 4) (aD (nJ ["known"] ["told"] [2] (mW (dT 5)) (λ_ _ _ _ _=>(lX 0 IN)) (λ_ _ _ _ _=>(lT G 1 (dT 0)))) gV))) (pv 2) (dT 3)))) (mL (nA (nE rL rV T.tuple bQ (aD (nJ ["name"] ["told"] [2] (mW (lT G 0 lN)) (λ_ _ _ _ _=>(lX 0 Wt)) (λ_ _ _ _ _=>(lT G 1 (dT 0)))) gV))))))),?_⟩;refine⟨rfl,_,rfl,C.ins,y,.inl rfl,λx M=>⟨_,(U x M).1⟩,.inl rfl,?_⟩;dsimp only;refine lP (λc=>c=[.v (tK C),.v (.k y),.o (.k (dK (C.ins.map λn=>(n,m n)))),.n,.n,.n]) (λN hN=>?_) ?_
 .unfold oD dC aC;refine oM C.ins D.str (λn=>.t [.str n,.int (m n)]) _ (λΨ h=>⟨rfl,_,rfl,h⟩) (by omega) (λi n ys Nx e V W=>?_) ?_
  .refine⟨rfl,.int (m n),?_,by show 2<=1000;decide,V,W⟩;show some (lW y (Sum.inr n))=_;rw[(U n (aO e)).1]
  have e0:pU (C.ins.map λn=>D.t [.str n,.int (m n)])=some (dK (C.ins.map λn=>(n,m n))):=by
   rw[uP (g:=λn=>((Sum.inr n:hI),D.int (m n))) (λn=>⟨.str n,rfl,rfl⟩)];simp[dK]
  refine⟨_,e0,by simp[dK];omega,?_⟩;rw[sS (by simpa [cI] using O)];exact hN _ rfl
 rintro _ rfl;have h0:vN (dK (C.ins.map λn=>(n,m n))) C.ins m:=λx M=>by
  refine⟨?_,(U x M).2⟩;have hm:x∈(C.ins.map λn=>(n,m n)).map (·.1):=by simpa [cI] using M
  rw[(nI _ x).1 hm]
  congr 2
  clear hm;revert M;generalize C.ins=xs;induction xs with
  | nil=>intro h;simp at h
  | cons a r ih =>
   intro h;rw[aP,qC];by_cases q:a=x
   .rw[aT q,q]
   .rw[aN q];rcases aI.mp h with z | z
    .exact absurd z.symm q
    .exact ih z
 refine lP (λc=>∃ (d:Aa (hI×D)) (Q R S:Sl),c=[.v (tK C),.v (.k y),.o (.k d),Q,R,S]/\vN d C.names (oX C m)) (λN hN=>?_) ?_
 .refine rG (C.gates.map nS) _ (λΨ h=>⟨rfl,_,rfl,h⟩)
   (λi c=>∃ (d:Aa (hI×D)) (Q R S:Sl),c=[.v (tK C),.v (.k y),.o (.k d),Q,R,S]/\vN d (C.ins++(C.gates.take i).map (·.1)) (pV m (C.gates.take i))/\d.length<=40+i) ⟨_,.n,.n,.n,rfl,by simpa [pV] using h0,by rw[tE,aA];omega⟩ ?_ ?_
  .rintro i x c M ⟨d,Q,R,S,rfl,F,hl⟩;obtain⟨g,B,rfl⟩:=sU M;obtain⟨X,J⟩:=L.gt.at B;have hi:i<C.gates.length:=(aU.mp B).1;have Z:g.1∉C.ins++(C.gates.take i).map (·.1):=λq=>by
    have nd:(C.ins++C.gates.map (·.1)).Nodup:=L.nd;have e:C.gates=C.gates.take i++g::C.gates.drop (i+1):=by
     obtain⟨hi,rfl⟩:=aU.mp B;rw[List.getElem_cons_drop,eD]
    rw[e,aR,<- bM] at nd;exact (bB.mp nd).2.2 g.1 q g.1 (by simp) rfl
   have tk:C.gates.take (i+1)=C.gates.take i++[g]:=by rw[cL,B];rfl
   generalize ab:pV m (C.gates.take i)=u at F;have Y:∀ p∈g.2.2,mH (u p):=λp hp=>(F p (J p hp)).2
   refine⟨rfl,rfl,?_⟩;unfold Rr Ib aC vd;simp only[List.set_cons_succ,List.set_cons_zero,List.getElem?_cons_succ,List.getElem?_cons_zero];refine oM g.2.2 D.str (λo=>.int (u o)) _ (λΨ h=>h) (by rcases X.ok with⟨_,q | q⟩ | ⟨_,q⟩ | ⟨_,q⟩ | ⟨_,q⟩ | ⟨_,q⟩<;>omega) (λj o ys Nx e V W=>?_) ?_
   .refine⟨rfl,.int (u o),?_,V,W⟩;show some (lW d (Sum.inr o))=_;rw[(F o (J o (aO e))).1]
   refine⟨g.2.1,g.2.2.map u,by rw[aF];rfl,(λb hb=>by obtain⟨p,hp,rfl⟩:=aE.mp hb;exact Y p hp),by rw[aA];exact X,.inl rfl,rfl,_,Op (by omega),mY d (Sum.inr g.1) (.int (rN g.2.1 (g.2.2.map u))),_,_,_,rfl,?_,?_⟩
   .rw[tk,Ot,ab,aR,<- bM];exact F.step (Uv _ _) Z
   .have:=Wa d (Sum.inr g.1:hI) (.int (rN g.2.1 (g.2.2.map u)));omega
  .rintro c ⟨d,Q,R,S,rfl,F,hl⟩;rw[aA,bI (aW _)] at F;exact hN _ ⟨d,Q,R,S,rfl,F⟩
 rintro _ ⟨d,Q,R,S,rfl,F⟩;unfold rC dC aC;have lo:=L.lo;refine oM C.outs D.str (λo=>.int (oX C m o)) _ (λΨ h=>⟨rfl,_,rfl,h⟩) (by omega) (λj o ys Nx e V W=>?_) aa;refine⟨rfl,.int (oX C m o),?_,V,W⟩;show some (lW d (Sum.inr o))=_;rw[(F o (L.os o (aO e))).1]
end
theorem Go (g:Aa Af):qI (g.map D.str)=some (g.map V.str):=Dj (λ_=>rfl) g
theorem Cv:∀ g:Aa Af,xY (.str x) (g.map V.str)=decide (x∈g)
 | []=>by simp[xY]
 | y::g=>by
  have a:=Cv (x:=x) g;unfold xY at a |-;rw[aP,fF,a];by_cases e:x=y
  .subst e;have:oS (V.str x) (V.str x)=true:=gO x;simp[this]
  .have:oS (V.str y) (V.str x)=false:=by
    show (y == x)=false;exact cO.mpr λz=>e z.symm
   have:oS (V.str x) (V.str y)=false:=by
    show (x == y)=false;exact cO.mpr e
   simp[*]
theorem Jx {v:Af->Int}{o:Af}:∀ {os:Aa Af},o∈os->gD (os.map λx=>(x,v x)) o=v o
 | [],h=>by simp at h
 | a::r,h=>by
  rw[aP,qC];by_cases q:a=o
  .rw[aT q,q]
  .rw[aN q];rcases aI.mp h with z | z
   .exact absurd z.symm q
   .exact Jx z
theorem U5 {v:Af->Int}{o:Af}{os:Aa Af}(h:o∈os):lW (dK (os.map λx=>(x,v x))) (Sum.inr o)=some (.int (v o)):=by
 rw[(nI _ o).1 (by simpa [cI] using h),Jx h]
theorem zY {p q:Prop}{c:Bool}(h:c=false) (g:q):if c=true then p else q:=by rw[aN (by rw[h];decide)];exact g
theorem G1 {p q:Prop}{c:Bool}(h:c=true) (g:p):if c=true then p else q:=by rw[aT h];exact g
theorem Vi:∀ (j:Aa (Af×Af×Aa Af)) (kn:Aa Af) (l:Af->Int),(∀ x∈kn,mH (l x))->∀ x∈kn++j.map (·.1),mH (pV l j x)
 | [],kn,l,h,x,a=>h x (by simpa using a)
 | g::j,kn,l,h,x,a=>by
  refine Vi j (kn++[g.1]) _ (λy b=>?_) x (by simpa using a);by_cases e:y=g.1
  .show mH (if y=g.1 then _ else _);rw[aT e];exact Uv _ _
  .show mH (if y=g.1 then _ else _);rw[aN e];rcases aV.mp b with z | z
   .exact h y z
   .exact absurd (aZ.mp z) e
theorem FH (g:Aa Af) (v:Af->Int):(g.map (Sum.inr:Af->hI)).zip (g.map λo=>D.int (v o))=dK (g.map λo=>(o,v o)):=by
 induction g with
 | nil=>rfl
 | cons a r b=>rw[aP,aP,cX,b];rfl
theorem Fh (g:GC C) (h:∀ x∈C.ins,mH (j x)):∀ o∈C.outs,mH (oX C j o):=λo a=>Vi C.gates C.ins j h o (g.os o a)
theorem GJ (g:Aa Af) (v:Af->Int):Gh (.v (.t (g.map λo=>D.int (v o))))=true:=by
 show vF (g.map λo=>D.int (v o))=true;induction g with
 | nil=>rfl
 | cons p t a=>exact a
noncomputable def sN (f:Nat->Int):Nat->Int
 | 0=>0
 | n+1=>sN f n+f n
theorem Bl:∀ n,(∀ i,i<n->f i=g i)->sN f n=sN g n
 | 0,_=>rfl
 | n+1,h=>by
  show sN f n+f n=sN g n+g n;rw[Bl n λi a=>h i (by omega),h n (by omega)]
theorem T0:∀ n,sN (λ_=>0) n=0
 | 0=>rfl
 | n+1=>by show sN (λ_=>0) n+0=0;rw[T0 n];rfl
theorem Gb:(["output","name"]:Aa Af).Nodup:=by decide +kernel
theorem V2:(["name","carried"]:Aa Af).Nodup:=by decide +kernel
def mN (C:Cel) (g:Aa (Af×Af)):D:=.t [tK C,.t (g.map λp=>D.t [.str p.1,.str p.2])]
noncomputable def wIns (C:Cel) (g:Aa (Af×Af)):Aa Af:=C.ins.filter λx=>!decide (x∈g.map (·.2))
noncomputable def wOuts (C:Cel) (g:Aa (Af×Af)):Aa Af:=C.outs.filter λx=>!decide (x∈g.map (·.1))
def B0:RD:=λd b c=>∃ C a,b=[mN C a]/\a.length<=100/\c (.o (.l (a.map λp=>D.str p.2)))
def Ek:RD:=λd b c=>∃ C a,b=[mN C a]/\a.length<=100/\C.ins.length<=100/\c (.o (.l ((wIns C a).map D.str)))
def Ll:RD:=λd b c=>∃ C a,b=[mN C a]/\a.length<=100/\C.outs.length<=100/\c (.o (.l ((wOuts C a).map D.str)))
section
variable {P:Ah}{K:lL}
theorem Y0:FnScope ["row"] ["row"] (mI zK):=nU
theorem Sd:FnScope ["row","carried"] ["row"] (mI Bc):=nU
theorem Rq:FnScope ["row","carried"] ["row"] (mI Dx):=nU
theorem FS:nZ P w K g base 1 "carried_inputs" zK ["row"] B0:=by
 refine oI Y0 λf d A b s H E x y G z u q=>?_
 obtain⟨C,c,rfl,B,a⟩:=q;refine⟨_,(mL (nA (nJ ["output","name"] [] [] (mW (lT u 0 lN)) (λ_ _ _ _ _=>(sB (n:=2) rfl (nL (lX 0 Gb) (nL (lX 1 Gb) rK)))) (λ_ _ _ _ _=>(dT 1))))),?_⟩;unfold rC;exact oM c (λp=>D.t [.str p.1,.str p.2]) (λp=>D.str p.2) _ (λL h=>⟨rfl,_,rfl,h⟩) (by omega) (λi p F v e k m=>⟨rfl,rfl,k,m⟩) a
theorem W5 (g:Kn P w K j base 1 "carried_inputs" zK ["row"] B0):nZ P w K j base 2 "word_inputs" Bc ["row"] Ek:=by
 refine oI Sd λf k A d s H E L M R z b y=>?_
 obtain⟨C,a,rfl,B,O,c⟩:=y;refine⟨_,(lM (lV 1 Sd.nd (lU g z (aD (dT 0) gV))) (mL (nA (nJ ["name"] ["carried"] [1] (mW (tJ b (lT b 0 lN) lN)) (λ_ _ _ _ _=>(lX 0 V2)) (λ_ _ _ _ _=>(dT 0)) (ht:=λ_ _ _ _ _=>(A5 (Ft (Gi b) (Hm true) (dT 0) (pv 1)))))))),?_⟩;refine lP (λF=>F=_) (λN v=>⟨C,a,rfl,B,.inl rfl,v _ rfl⟩) ?_;rintro _ rfl;unfold rC;refine zE C.ins D.str D.str (λx=>!decide (x∈a.map λp:Af×Af=>p.2)) _ (λS h=>⟨rfl,_,rfl,_,rfl,h⟩) (by omega) (λi x Q G e n t u=>?_) c;have m:(a.map λp=>D.str p.2)=(a.map (·.2)).map D.str:=by rw[aF];rfl
 refine⟨.str x,(a.map (·.2)).map V.str,rfl,by rw[m];exact Go _,?_⟩;rw[Cv];show if (!decide (x∈a.map (·.2)))=true then _ else _
 by_cases q:x∈a.map (·.2)
 .exact zY (by rw[cB q];rfl) (u (by rw[cB q];rfl))
 .exact G1 (by rw[bR q];rfl) ⟨n,t (by rw[bR q];rfl)⟩
theorem X5:nZ P w K g base 1 "word_outputs" Dx ["row"] Ll:=by
 refine oI Rq λf y A m s H E Q R Y S b G=>?_
 obtain⟨C,a,rfl,X,W,k⟩:=G;refine⟨_,(lM (lV 1 Rq.nd (nJ ["output","name"] [] [] (mW (lT b 0 lN)) (λ_ _ _ _ _=>(sB (n:=2) rfl (nL (lX 0 Gb) (nL (lX 1 Gb) rK)))) (λ_ _ _ _ _=>(dT 0)))) (mL (nA (nJ ["name"] ["carried"] [1] (mW (tJ b (lT b 0 lN) lN)) (λ_ _ _ _ _=>(lX 0 V2)) (λ_ _ _ _ _=>(dT 0)) (ht:=λ_ _ _ _ _=>(A5 (Ft (Gi b) (Hm true) (dT 0) (pv 1)))))))),?_⟩;refine lP (λO=>O=[.v (mN C a),.o (.l (a.map λp=>D.str p.1))]) (λN F=>?_) ?_
 .unfold oD;exact oM a (λp=>D.t [.str p.1,.str p.2]) (λp=>D.str p.1) _ (λM h=>⟨rfl,_,rfl,h⟩) (by omega) (λi p L u e c d=>⟨rfl,rfl,c,d⟩) (F _ rfl)
 rintro _ rfl;unfold rC;refine zE C.outs D.str D.str (λx=>!decide (x∈a.map λp:Af×Af=>p.1)) _ (λM h=>⟨rfl,_,rfl,_,rfl,h⟩) (by omega) (λi x L u e c d B=>?_) k;have z:(a.map λp=>D.str p.1)=(a.map (·.1)).map D.str:=by rw[aF];rfl
 refine⟨.str x,(a.map (·.1)).map V.str,rfl,by rw[z];exact Go _,?_⟩;rw[Cv];show if (!decide (x∈a.map (·.1)))=true then _ else _
 by_cases q:x∈a.map (·.1)
 .exact zY (by rw[cB q];rfl) (B (by rw[cB q];rfl))
 .exact G1 (by rw[bR q];rfl) ⟨c,d (by rw[bR q];rfl)⟩
end
end Lw
namespace PySem
open PyProof.Rows L2
section
theorem GA (j:s.heap.IsList l items) (q:Q false s):wpAny (model g w) A (notIterableAtAll (.ref l)) Q E s:=by
 have has:wpAny (model g w) A (specialOf (.ref l) "__iter__") (λr a=>r.isSome=true/\a=s) E s :=
  aB (eS j.typeIs (gS F.slot_list_iter.lookup ⟨rfl,rfl⟩))
 unfold notIterableAtAll;refine aB (lQ has ?_);rintro r _ ⟨e,rfl⟩;rw[aT e];exact aG q
theorem Pw (g:l≠j):∀ (n i:Nat) (s:Ae) (Q:Aa Ac->Ae->Prop),s.heap.IsListIter j l i->s.heap.IsList l items->i+n<=items.size ->
  (∀ p,p.IsListIter j l (i+n)->(∀ b,b≠j->p.get? b=s.heap.get? b)->Q ((items.toList.drop i).take n) { s with heap:=p })->wpAny (model r w) A (draw (.ref j) n) Q E s
 | 0,i,s,Q,hit,_,_,q=>aG (q s.heap hit λ_ _=>rfl)
 | n+1,i,s,Q,hit,d,le,q=>by
  have lt:i<items.size:=by omega
  have this:items[i]?=some items[i]:=cR lt;have parts:items.toList.drop i=items[i]::items.toList.drop (i+1):=by
   rw[iP (by simpa using lt)];simp
  unfold draw;refine aB (wpAny_pyNext_list_item hit d this λm a f=>?_);refine aB (bX (Pw g n (i+1) _ _ a (d.at λo e=>(f.2 l g).trans e) (by omega) λh c k=>aG ?_));have:=q h (by rw[show i+(n+1)=i+1+n by omega];exact c) λb nb=>(k b nb).trans (f.2 b nb)
  rw[parts] at this;exact this
theorem IK (calm:A.handled=none) (j:s.heap.IsList l items) (C:p.length=items.size) (plain:p.findIdx? (·.1)=none)
  (go:∀ r,(∀ b o,s.heap.get? b=some o->r.get? b=some o)->wpAny (model g w) A (assignInOrder (p.map (·.2)) items.toList) Q E { s with heap:=r }):wpAny (model g w) A (unpack (.ref l) p) Q E s:=by
 have lt:l<s.heap.objs.size:=by
  obtain⟨_,e,_⟩:=j;exact aY e
 let a:=s.heap.push { cls:=.type "list_iterator",data:=.fields #[.ref l,.int 0 0] };have same:∀ b o,s.heap.get? b=some o->a.get? b=some o:=λb o e=>aK _ e
 have less:∀ b o,s.heap.get? b=some o->b≠s.heap.objs.size:=λb o e=>bH (aY e)
 have c:a.IsListIter s.heap.objs.size l 0:=⟨_,bA _ rfl,rfl,rfl⟩;have h:a.IsList l items:=j.at λo e=>same _ o e
 unfold unpack;rw[plain,C];refine aB (bX ?_);unfold unpackItems;refine aB (GA j ?_);rw[aN bG];refine aB (bX (fG j ?_));refine aB (bX (Pw (bH lt) items.size 0 _ _ c h (by omega) λi d f=>?_));have all:(items.toList.drop 0).take items.size=items.toList:=by rw[jN];exact bI (by simp)
 have n:i.IsList l items:=h.at λo e=>(f l (bH lt)).trans e
 rw[all,aN (by simp)];refine aB (bX (wpAny_pyNext_list_end calm d n (dZ (by omega)) λk m=>?_));simp only[Option.isSome_none,dR,fR];exact aG (go k λb o e=>m b o (less b o e) ((f b (less b o e)).trans (same b o e)))
end
end PySem
namespace L2
open PySem PySem.Spec PyProof.Rows
section
variable {X:Cx}
def DB (K:lL) (n:Nat) (t:yS):TG:=λv c H Q=>∃ a b,v = .ref a/\lO K H a b/\b.length=n/\t b c H Q
theorem Yy (l:X.calm=true) (h:wY X g t)
  (o:(assignEach g X.env).length=n:=by rfl) (plain:(assignEach g X.env).findIdx? (·.1)=none:=by rfl) (j:∀ v,assign (.Tuple g k pos) X.env v=(do standAt pos;unpack v (assignEach g X.env)):=by intro _;rfl):PG X (.Tuple g k pos) (DB X.K n t):=by
 intro b s q H v u Q I r hw;obtain⟨a,m,rfl,e,d,hw⟩:=hw;cases r;obtain⟨f,c,i,x⟩:=I.list e;rw[j];refine aB (kZ (IK (I.ok.hd l) i.isList (by rw[o,<- d,aX];exact c.length) plain λw k=>?_));exact h b _ q H m _ Q (I.kept (t':=s.toks) k) (by simpa using c) hw
end
end L2
namespace L2
open PySem PySem.Spec PyProof.Rows Lw
section
def xZ (g:Ah) (w:World) (A:Around) (s:Ae) (x y:Ac):Prop:=∀ (E:Ac->Ae->Prop) (Q:Bool->Ae->Prop),Q true s->wpAny (model g w) A (eqBool x y) Q E s
end
section
variable {X:Cx}
def Cm (H:Hp) (x y:V):Prop:=∃ (a b:Ad) (c:Aa (hI×V)),x = .ref a/\y = .ref b/\H a=some (.k c)/\H b=some (.k c)/\(c.map (·.1)).Nodup/\∀ p∈c,pZ p.2=true/\oS p.2 p.2=true
theorem Cm.now (I:Inv X g p H s) (h:Cm H x y) (l:mC x u) (o:mC y v) (j:A.units<cLine):xZ X.prog X.w A s u v:=by
 obtain⟨a,b,c,rfl,rfl,n,t,F,B⟩:=h;cases l;cases o;by_cases e:a=b
 .subst e;exact λE Q q=>SeqAt.EqAt.same _ X.prog X.w E Q q
 intro E Q q;obtain⟨K,d1,i,d,k⟩:=zO I.hok n;obtain⟨L,d2,G,f,m⟩:=zO I.hok t;have D:i.length=G.length:=by rw[<- d.length,<- f.length]
 unfold eqBool;refine bX (wpAny_ite_split (λz=>absurd (Value.ref.inj (eq_of_beq z)) e) λ_=>aB ?_);refine PySem.W.keq_eq d1 d2 k m j (λ_=>MB f F c i d (λ_ h=>h) B) (eQ ?_);rw[D];simpa using q
end
def ED (n:Nat) (g:yZ):tF:=λd c b=>match d with
 | .l a=>a.length=n/\g a c b
 | _=>False
section
variable {X:Cx}
theorem Sk (r:X.calm=true) (h:By X m g o) (C:(assignEach g X.env).length=n:=by rfl) (j:(assignEach g X.env).findIdx? (·.1)=none:=by rfl) (p:∀ v,assign (.Tuple g k pos) X.env v=(do standAt pos;unpack v (assignEach g X.env)):=by intro _;rfl):wA X m (.Tuple g k pos) (ED n o) :=
 (Yy r h C j p).mono λv w H Q b=>b.elim λB u T d t q hd c k=>by
  cases d with
  | l f =>
   obtain⟨a,s,rfl,_,i,e⟩:=hd.valAt.lst_inv;exact⟨a,s,rfl,lO.of i,by rw[<- e.length];exact c.1,B,u,T,f,t,q,e.length,hd.drop.pushs (A:=λ_=>True) e,c.2,k⟩
  | _=>exact c.elim
end
section
theorem Y6 (hl:IsTup s.heap l #[j,o]) (hm:IsTup s.heap m #[C,I]) (hu:A.units<cLine)
  (J:xZ g w A.in1 s j C) (T:xZ g w A.in1 s o I) (U:Q (.bool true) s):wpAny (model g w) A (compareOp .Eq (.ref l) (.ref m)) Q E s:=by
 obtain⟨t,g1,i,n,d1⟩:=id hl;obtain⟨x,g2,k,q,d2⟩:=id hm;have f:s.TypeIs (.ref l) "tuple" := ⟨_,g1,i⟩;have h:s.TypeIs (.ref m) "tuple" := ⟨_,g2,k⟩;refine wpAny_richCompare_same_room (op:=.Eq) f h F.slot_tuple_eq ?_ hu;refine cM F.slot_tuple_eq f F.entry_tuple_eq ?_ (F.args_tuple_eq_2 _ _);show wpAny _ _ (isInstance (.ref m) (.type "tuple") >>= _) _ _ s;refine aB (cU h isSubtype_tuple_tuple ?_);simp only[Bool.not_true,dR,fR];refine aB (jE g1 d1 ?_);refine aB (jE g2 d2 ?_);refine aB ?_;refine wpAny_forIn_list _ (λrest r c=>r.1=none/\c=s/\∀ p∈rest,xZ g w A.in1 s p.1 p.2) _ ?_ ?_ _ _ ⟨rfl,rfl,λp a=>?_⟩
 .rintro ⟨u,v⟩ rest r c ⟨b,rfl,d⟩;refine aB (d (u,v) aH _ _ ?_);exact aG ⟨rfl,rfl,λp a=>d p (aM _ a)⟩
 .rintro ⟨y,z⟩ c ⟨b,rfl,_⟩;simp only at b;subst b;exact aG ⟨_,rfl,(λe=>nomatch e),U⟩
 .have a:p∈[(j,C),(o,I)]:=a;simp only[aI,bJ,eM] at a;rcases a with rfl | rfl
  .exact J
  .exact T
end
end L2
namespace Lw
open PySem L2
def K8:RD:=λd b c=>∃ C a,b=[mN C a]/\a.length<=100/\C.ins.length<=100/\C.outs.length<=100/\c (.o (.l [.l ((wIns C a).map D.str),.l ((wOuts C a).map D.str)]))
theorem Gk:(["out","into"]:Aa Af).Nodup:=by decide +kernel
theorem CA:(["name","ins"]:Aa Af).Nodup:=by decide +kernel
theorem X0:(["name","outs"]:Aa Af).Nodup:=by decide +kernel
section
variable {P:Ah}{K:lL}
theorem Mc:FnScope ["row","ins","outs"] ["row"] (mI Cb):=nU
theorem AK:nZ P w K g base 1 "_law_words_of" Cb ["row"] K8:=by
 refine oI Mc λf M A B s H E Q R Y S b O=>?_
 obtain⟨C,a,rfl,X,W,lo,z⟩:=O;refine⟨_,(lM (lV 1 Mc.nd (nJ ["out","into"] [] [] (mW (lT b 0 lN)) (λ_ _ _ _ _=>(sB (n:=2) rfl (nL (lX 0 Gk) (nL (lX 1 Gk) rK)))) (λ_ _ _ _ _=>(dT 1)))) (lM (lV 2 Mc.nd (nJ ["out","into"] [] [] (mW (lT b 0 lN)) (λ_ _ _ _ _=>(sB (n:=2) rfl (nL (lX 0 Gk) (nL (lX 1 Gk) rK)))) (λ_ _ _ _ _=>(dT 0)))) (mL (nA (oJ (aD (nJ ["name"] ["ins"] [1] (mW (tJ b (lT b 0 lN) lN)) (λ_ _ _ _ _=>(lX 0 CA)) (λ_ _ _ _ _=>(dT 0)) (ht:=λ_ _ _ _ _=>(A5 (Ft (Gi b) (Hm true) (dT 0) (pv 1))))) (aD (nJ ["name"] ["outs"] [2] (mW (tJ b (lT b 0 lN) lN)) (λ_ _ _ _ _=>(lX 0 X0)) (λ_ _ _ _ _=>(dT 0)) (ht:=λ_ _ _ _ _=>(A5 (Ft (Gi b) (Hm true) (dT 0) (pv 1))))) gV))))))),?_⟩;refine lP (λL=>L=[.v (mN C a),.o (.l (a.map λp:Af×Af=>D.str p.2)),.n]) (λN y=>?_) ?_
 .unfold oD;exact oM a (λp=>D.t [.str p.1,.str p.2]) (λp=>D.str p.2) [.v (mN C a),.n,.n] (λG h=>⟨rfl,_,rfl,h⟩) (by omega) (λi p F k e c d=>⟨rfl,rfl,c,d⟩) (y _ rfl)
 rintro _ rfl;refine lP (λL=>L=[.v (mN C a),.o (.l (a.map λp:Af×Af=>D.str p.2)),.o (.l (a.map λp:Af×Af=>D.str p.1))]) (λN y=>?_) ?_
 .unfold oD;exact oM a (λp=>D.t [.str p.1,.str p.2]) (λp=>D.str p.1) _ (λG h=>⟨rfl,_,rfl,h⟩) (by omega) (λi p F k e c d=>⟨rfl,rfl,c,d⟩) (y _ rfl)
 rintro _ rfl;unfold rC O5 aC;refine zE C.ins D.str D.str (λx=>!decide (x∈a.map λp:Af×Af=>p.2)) _ (λG h=>⟨rfl,_,rfl,_,rfl,h⟩) (by omega) (λi x F k e c d u=>?_) ?_
 .have m:(a.map λp:Af×Af=>D.str p.2)=(a.map (·.2)).map D.str:=by rw[aF];rfl
  refine⟨.str x,(a.map (·.2)).map V.str,rfl,by rw[m];exact Go _,?_⟩;rw[Cv];show if (!decide (x∈a.map (·.2)))=true then _ else _
  by_cases q:x∈a.map (·.2)
  .exact zY (by rw[cB q];rfl) (u (by rw[cB q];rfl))
  .exact G1 (by rw[bR q];rfl) ⟨c,d (by rw[bR q];rfl)⟩
 refine zE C.outs D.str D.str (λx=>!decide (x∈a.map λp:Af×Af=>p.1)) _ (λG h=>⟨rfl,_,rfl,_,rfl,h⟩) (by omega) (λi x F k e c d u=>?_) ?_
 .have m:(a.map λp:Af×Af=>D.str p.1)=(a.map (·.1)).map D.str:=by rw[aF];rfl
  refine⟨.str x,(a.map (·.1)).map V.str,rfl,by rw[m];exact Go _,?_⟩;rw[Cv];show if (!decide (x∈a.map (·.1)))=true then _ else _
  by_cases q:x∈a.map (·.1)
  .exact zY (by rw[cB q];rfl) (u (by rw[cB q];rfl))
  .exact G1 (by rw[bR q];rfl) ⟨c,d (by rw[bR q];rfl)⟩
 exact⟨by show 2<=1000;decide,z⟩
end
theorem Sm:(["bits"]:Aa Af).Nodup:=by decide +kernel
noncomputable def mD:Nat->Aa (Aa Int)
 | 0=>[[]]
 | n+1=>(mD n).map (0::·)++(mD n).map (1::·)
def nF (b:Aa Int):D:=.t (b.map D.int)
theorem xT:∀ n,(mD n).length=2 ^ n
 | 0=>rfl
 | n+1=>by unfold mD;rw[List.length_append,List.length_map,List.length_map,xT n,Nat.pow_succ];omega
theorem vJ:∀ {n:Nat}{b:Aa Int},b∈mD n->b.length=n/\∀ x∈b,x=0\/x=1
 | 0,b,h=>by rw[aZ.mp h];exact⟨rfl,λ_ z=>nomatch z⟩
 | n+1,b,h=>by
  unfold mD at h;rcases aV.mp h with h | h
  all_goals
   obtain⟨c,e,rfl⟩:=aE.mp h;obtain⟨a,d⟩:=vJ e;refine⟨by rw[bS,a],λx f=>?_⟩;rcases aI.mp f with q | q
   .first | exact .inl q | exact .inr q
   .exact d x q
theorem A2 (h:n<=6):2 ^ n<=64:=iK (by decide) h
def Gc:RD:=λc a b=>∃ n:Nat,a=[.int n]/\n<=6/\b (.o (.l ((mD n).map nF)))
section
variable {P:Ah}{K:lL}
theorem Fp:FnScope ["count","found","step"] ["count"] (mI Bh):=nU
theorem GR (T:Txt g):nZ P w K g base 1 "all_bits" Bh ["count"] Gc:=by
 refine oI Fp λf z A t s H E O Q Y W X F=>?_
 obtain⟨n,rfl,V,q⟩:=F;refine⟨_,(lM (lV 1 Fp.nd (oJ (aD (mZ gV) gV))) (lM (qV (Aq (by rfl) T.range (dT 0)) (lX 2 Fp.nd) (mL (lV 1 Fp.nd (nG oG oE (nJ ["bits"] [] [] (mW (dT 1)) (λ_ _ _ _ _=>(lX 0 Sm)) (λ_ _ _ _ _=>(nG oG oE (mZ (aD lN gV)) (dT 0)))) (nJ ["bits"] [] [] (mW (dT 1)) (λ_ _ _ _ _=>(lX 0 Sm)) (λ_ _ _ _ _=>(nG oG oE (mZ (aD lN gV)) (dT 0)))))))) (mL (nA (B1 1 (pv 1)))))),?_⟩;refine lP (λc=>c=[.v (.int n),.o (.l ((mD 0).map nF)),.n]) (λN m=>?_) ?_
 .exact⟨by show 0<=1000;decide,by show 1<=1000;decide,m _ rfl⟩
 rintro _ rfl;refine lP (λc=>∃ a,c=[.v (.int n),.o (.l ((mD n).map nF)),a]) (λN m=>?_) ?_
 .refine rG (qH 0 n) _ (λu h=>⟨by omega,by omega,h⟩) (λi c=>∃ a,c=[.v (.int n),.o (.l ((mD i).map nF)),a]) ⟨_,rfl⟩ ?_ ?_
  .rintro i x c L ⟨a,rfl⟩;obtain⟨R,rfl⟩:=Fs L;have B:=A2 (show i<=6 by omega);have S:=xT i;unfold gN oD d2;refine oM (mD i) nF (λb=>nF (0::b)) _ (λu h=>h) (by omega) (λj b M y e d k=>?_) ?_
   .have G:=(vJ (aO e)).1;refine⟨by show 1<=1000;decide,?_,d,k⟩;show [D.int 0].length+(b.map D.int).length<=100000;rw[aA];show 1+b.length<=100000;omega
   refine oM (mD i) nF (λb=>nF (1::b)) _ (λu h=>h) (by omega) (λj b M y e d k=>?_) ?_
   .have G:=(vJ (aO e)).1;refine⟨by show 1<=1000;decide,?_,d,k⟩;show [D.int 1].length+(b.map D.int).length<=100000;rw[aA];show 1+b.length<=100000;omega
   refine⟨by rw[aA,aA];omega,.v (.int (0+(i:Int))),?_⟩
   .show _=[_,Sl.o (.l ((mD (i+1)).map nF)),_];rw[show mD (i+1)=(mD i).map (0::·)++(mD i).map (1::·) from rfl,aR,aF,aF];rfl
  .rintro c ⟨a,rfl⟩;have e:(qH 0 n).length=n:=by simp[qH]
   rw[e];exact m _ ⟨a,rfl⟩
 rintro _ ⟨a,rfl⟩;exact q
end
theorem keysL_strs:∀ g:Aa Af,wC (g.map D.str)=some (g.map Sum.inr)
 | []=>rfl
 | x::r=>by rw[aP];unfold wC;rw[keysL_strs r];rfl
theorem Sv (f:Af->Int) (x:Af):∀ (j:Aa Af) (g:Aa (hI×D)),lW (oW g (j.map λo=>((Sum.inr o:hI),D.int (f o)))) (Sum.inr x)=if x∈j then some (.int (f x)) else lW g (Sum.inr x)
 | [],g=>by rw[aN bJ];rfl
 | o::r,g=>by
  show lW (oW (mY g (Sum.inr o) (D.int (f o))) (r.map λo=>((Sum.inr o:hI),D.int (f o)))) (Sum.inr x)=_;rw[Sv f x r,O6];by_cases h:x∈r
  .rw[aT h,aT (aM _ h)]
  .rw[aN h];by_cases e:o=x
   .rw[aT (by rw[e]),aT (by rw[e];exact aH),e]
   .rw[aN (λz=>e (gC z)),aN (λz=>(aI.mp z).elim (λq=>e q.symm) h)]
theorem Ms (f:l->o) (g:l->p):∀ j:Aa l,(j.map f).zip (j.map g)=j.map λx=>(f x,g x)
 | []=>rfl
 | x::r=>by rw[aP,aP,aP,cX,Ms f g r]
theorem Nj:∀ (j:Aa (Af×Af×Aa Af)) (l:Af->Int) (x:Af),x∉j.map (·.1)->pV l j x=l x
 | [],_,_,_=>rfl
 | g::j,l,x,h=>by
  show pV (Di l g) j x=l x;rw[Nj j _ x λz=>h (aM _ z)];exact aN λz=>h (by rw[z];exact aH)
theorem E4 (j:GC C) (g:Af->Int) (l:x∈C.ins):oX C g x=g x :=
 Nj C.gates g x λz=>(bB.mp j.nd).2.2 x l x z rfl
def Rf:RD:=λf d e=>∃ (C:Cel) (a:Aa (hI×D)) (c:Af->Int),d=[tK C,.k a]/\GC C/\vN a C.ins c/\a.length<=100/\∀ b,(∀ x∈C.ins++C.outs,lW b (Sum.inr x)=some (.int (oX C c x)))->e (.o (.k b))
section
variable {P:Ah}{K:lL}
theorem Qi:FnScope ["cell","bits","known"] ["cell","bits"] (mI Gy):=nU
theorem FK (T:Txt j) (g:Kn P w K j base 2 "told_by" C4 ["cell","bits"] J0):nZ P w K j base 3 "side_bits" Gy ["cell","bits"] Rf:=by
 refine oI Qi λf y A n s H E S V X O Q L=>?_
 obtain⟨C,b,a,rfl,c,t,W,i⟩:=L;refine⟨_,(lM (lV 2 Qi.nd (nE (sX rfl) tA T.dict bV (aD (dT 1) gV))) (lM (pW (pS jG PySem.F.slot_dict_update PySem.F.type_dict_update Vc Vz (pv 2) (aD (Eh rfl (by rfl) T.dict (by rfl) T.zip (aD (lT Q 0 lN) (aD (lU g O (aD (dT 0) (aD (dT 1) gV))) gV))) gV))) (mL (nA (B1 2 (pv 2)))))),?_⟩;refine lP (λq=>q=[.v (tK C),.v (.k b),.o (.k b)]) (λN d=>?_) ?_
 .exact d _ rfl
 rintro _ rfl;refine lP (λq=>∃ m,(∀ x∈C.ins++C.outs,lW m (Sum.inr x)=some (.int (oX C a x)))/\q=[.v (tK C),.v (.k b),.o (.k m)]) (λN d=>?_) ?_
 .have M:=c.lo;refine⟨rfl,rfl,_,rfl,C,b,a,rfl,c,t,.inl rfl,true,true,_,_,C.outs.map Sum.inr,rfl,rfl,keysL_strs C.outs,by rw[aA];omega,?_⟩;have G:(C.outs.map (Sum.inr:Af->hI)).zip (C.outs.map λo=>D.int (oX C a o))=dK (C.outs.map λo=>(o,oX C a o)):=by
   rw[Ms];unfold dK;rw[List.map_map];rfl
  have B:oW [] (dK (C.outs.map λo=>(o,oX C a o)))=dK (C.outs.map λo=>(o,oX C a o)):=sS (by rw[aF];simpa [cI] using c.ond);have z:dK (C.outs.map λo=>(o,oX C a o))=C.outs.map λo=>((Sum.inr o:hI),D.int (oX C a o)):=by unfold dK;rw[List.map_map];rfl
  rw[G,B];refine⟨?_,d _ ⟨_,λx R=>?_,rfl⟩⟩
  .unfold dK;rw[List.length_map,List.length_map];omega
  .rw[z,Sv];by_cases h:x∈C.outs
   .rw[aT h]
   .rw[aN h];have u:x∈C.ins:=(aV.mp R).resolve_right h;rw[E4 c a u];exact (t x u).1
 rintro _ ⟨m,e,rfl⟩;exact i _ e
end
theorem J1 {j:Type}(f:j->Int){g:Aa j}{i:Nat}{x:j}(h:g[i]?=some x):((g.take (i+1)).map f).sum=((g.take i).map f).sum+f x:=by
 rw[cL,h,aR,lK];simp
theorem Q3 (h:mH v):-(2 ^ 64)<v/\v<2 ^ 64:=by
 rcases h with rfl | rfl<;>exact⟨by decide,by decide⟩
theorem ER (h:mH v) (g:mH u):-(2 ^ 64)<v-2*u/\v-2*u<2 ^ 64:=by
 rcases h with rfl | rfl<;>rcases g with rfl | rfl<;>exact⟨by decide,by decide⟩
def qR (C:Cel) (g:Aa (Af×Af)) (t:lZ) (u:Af->Int):Int:=gD t "" + ((wIns C g++wOuts C g).map λx=>gD t x*u x).sum+(g.map λp=>gD t p.2*(u p.2-2*u p.1)).sum
structure RwOk (C:Cel) (prs:List (Str×Str)):Prop where
 gc:GC C
 n1:(prs.map (·.1)).Nodup
 n2:(prs.map (·.2)).Nodup
 m:∀ p∈prs,p.1∈C.outs/\p.2∈C.ins
 li:C.ins.length<=6
 lp:prs.length<=6
def Ps:RD:=λe c d=>∃ (C:Cel) (a:Aa (Af×Af)) (t:lZ) (b:Aa (hI×D)) (u:Af->Int),c=[mN C a,.k (dK t),.k b]/\RwOk C a/\(∀ x∈C.ins++C.outs,lW b (Sum.inr x)=some (.int (u x))/\mH (u x))/\d (.v (.int (qR C a t u)))
section
variable {P:Ah}{K:lL}
theorem zF:FnScope ["row","weights","known","part","name","output"] ["row","weights","known"] (mI Ie):=nU
theorem Wl (T:Txt l) (j:Kn P w K l base 2 "word_inputs" Bc ["row"] Ek) (g:Kn P w K l base 1 "word_outputs" Dx ["row"] Ll):nZ P w K l base 3 "cell_part" Ie ["row","weights","known"] Ps:=by
 refine oI zF λf V A R s H E dk ds Φ S q W=>?_
 obtain⟨C,a,t,e,u,rfl,F,L,O⟩:=W;refine⟨_,(lM (lV 3 zF.nd (C9 q (pv 1) lY lN)) (lM (qV (mW (nG oG oE (lU j S (aD (dT 0) gV)) (lU g S (aD (dT 0) gV)))) (lX 4 zF.nd) (mL (O7 (n:=3) zF.nd rfl (Or.inl rfl) (nG xB xE (C9 q (pv 1) (dT 4) lN) (lT q 2 (dT 4))) Pd))) (lM (qV (mW (lT q 0 lN)) (sB (n:=2) rfl (nL (lX 5 zF.nd) (nL (lX 4 zF.nd) rK))) (mL (O7 (n:=3) zF.nd rfl (Or.inl rfl) (nG xB xE (C9 q (pv 1) (dT 4) lN) (nG vM xW (lT q 2 (dT 4)) (nG xB xE lN (lT q 2 (dT 5))))) Pd))) (mL (nA (dT 3)))))),?_⟩;have Z:=F.lp;have X:=F.li;have Y:=F.gc.lo;refine lP (λd=>d=[.v (mN C a),.v (.k (dK t)),.v (.k e),.v (.int (gD t "")),.n,.n]) (λN B=>?_) ?_
 .refine⟨rfl,_,rfl,?_⟩;show N [_,_,_,Sl.v ((lW (dK t) (Sum.inr (Str.ofString ""))).getD (D.int 0)),_,_];rw[Cj];exact B _ rfl
 rintro _ rfl;have U:∀ y∈wIns C a++wOuts C a,y∈C.ins++C.outs:=λy z=>(aV.mp z).elim (λh=>aL _ ((bT.mp h).1)) λh=>aJ _ ((bT.mp h).1)
 have l1:(wIns C a).length<=C.ins.length:=cJ _ _;have l2:(wOuts C a).length<=C.outs.length:=cJ _ _;refine lP (λd=>∃ c b,d=[.v (mN C a),.v (.k (dK t)),.v (.k e),.v (.int (gD t "" + ((wIns C a++wOuts C a).map λx=>gD t x*u x).sum)),c,b]) (λN B=>?_) ?_
 .refine rG ((wIns C a++wOuts C a).map D.str) [.v (mN C a),.v (.k (dK t)),.v (.k e),.v (.int (gD t "")),.n,.n] (λΨ h=>?_) (λi d=>∃ c b,d=[.v (mN C a),.v (.k (dK t)),.v (.k e),.v (.int (gD t "" + (((wIns C a++wOuts C a).take i).map λx=>gD t x*u x).sum)),c,b]) ⟨.n,.n,by simp⟩ ?_ ?_
  .rw[aR] at h;exact⟨C,a,rfl,by omega,by omega,.inl rfl,C,a,rfl,by omega,by omega,.inl rfl,by rw[aA,aA];omega,h⟩
  .rintro i x d M ⟨c,b,rfl⟩;obtain⟨y,z,rfl⟩:=sU M;obtain⟨Q,G⟩:=L y (U y (aO z));refine⟨rfl,_,rfl,rfl,D.int (u y),?_,?_⟩
   .show some (lW e (Sum.inr y))=_;rw[Q]
   .show Dw ((lW (dK t) (Sum.inr y)).getD (D.int 0)) (D.int (u y)) _;rw[Cj];refine⟨.inr (Q3 G),.v (.str y),b,?_⟩;rw[J1 (λx=>gD t x*u x) z,<- Int.add_assoc];rfl
  .rintro d ⟨c,b,rfl⟩;rw[aA,fQ];exact B _ ⟨c,b,rfl⟩
 rintro _ ⟨c,b,rfl⟩;refine lP (λd=>∃ c b,d=[.v (mN C a),.v (.k (dK t)),.v (.k e),.v (.int (qR C a t u)),c,b]) (λN B=>?_) ?_
 .refine rG (a.map λp=>D.t [.str p.1,.str p.2]) [.v (mN C a),.v (.k (dK t)),.v (.k e),.v (.int (gD t "" + ((wIns C a++wOuts C a).map λx=>gD t x*u x).sum)),c,b] (λΨ h=>?_) (λi d=>∃ c b,d=[.v (mN C a),.v (.k (dK t)),.v (.k e),.v (.int (gD t "" + ((wIns C a++wOuts C a).map λx=>gD t x*u x).sum+((a.take i).map λp=>gD t p.2*(u p.2-2*u p.1)).sum)),c,b]) ⟨c,b,by simp⟩ ?_ ?_
  .exact⟨rfl,_,rfl,h⟩
  .rintro i x d M ⟨c,b,rfl⟩;obtain⟨y,z,rfl⟩:=sU M;obtain⟨I,J⟩:=F.m y (aO z);obtain⟨Q,G⟩:=L y.1 (aJ _ I);obtain⟨o,r⟩:=L y.2 (aL _ J);have b1:=Q3 G;refine⟨rfl,rfl,rfl,_,rfl,rfl,D.int (u y.2),?_,rfl,D.int (u y.1),?_,?_⟩
   .show some (lW e (Sum.inr y.2))=_;rw[o]
   .show some (lW e (Sum.inr y.1))=_;rw[Q]
   .refine⟨.inl ⟨by decide,by decide⟩,?_⟩;show Dw ((lW (dK t) (Sum.inr y.2)).getD (D.int 0)) (D.int (u y.2-2*u y.1)) _;rw[Cj];refine⟨.inr (ER r G),.v (.str y.2),.v (.str y.1),?_⟩;rw[J1 (λp:Af×Af=>gD t p.2*(u p.2-2*u p.1)) z,<- Int.add_assoc];rfl
  .rintro d ⟨c,b,rfl⟩;rw[aA,fQ];exact B _ ⟨c,b,rfl⟩
 rintro _ ⟨c,b,rfl⟩;exact O
end
theorem Uf:(["output","name","known"]:Aa Af).Nodup:=by decide +kernel
def rY (C:Cel) (g:Aa (Af×Af)) (c l:Aa Int):lZ:=(g.map (·.2)++wIns C g).zip (c++l)
def rW (C:Cel) (g:Aa (Af×Af)) (c l:Aa Int):Af->Int:=oX C (gD (rY C g c l))
def Bj (C:Cel) (g:Aa (Af×Af)) (t:lZ) (c l:Aa Int):D:=.t [nF (g.map λp=>rW C g c l p.1),.int (qR C g t (rW C g c l))]
def sV (C:Cel) (g:Aa (Af×Af)) (t:lZ) (c:Aa Int):D:=.T ((mD (wIns C g).length).map λl=>(l.map (Sum.inl:Int->hI),Bj C g t c l))
def vB (C:Cel) (g:Aa (Af×Af)) (t:lZ):D:=.T ((mD g.length).map λc=>(c.map (Sum.inl:Int->hI),sV C g t c))
theorem KC {j:Type} [DecidableEq j] {g:Aa (j×D)}{k:j}{d:D}(h:k∉g.map (·.1)):mY g k d=g++[(k,d)]:=by
 unfold mY;rw[aN];intro z;obtain⟨q,a,e⟩:=iL.mp z;exact h (aE.mpr ⟨q,a,cW e⟩)
theorem Ii:∀ b:Aa Int,uO (b.map D.int)=some (b.map Sum.inl)
 | []=>rfl
 | x::r=>by rw[aP];unfold uO;rw[Ii r];rfl
theorem I0:∀ n,(mD n).Nodup
 | 0=>by unfold mD;simp
 | n+1=>by
  unfold mD;have inj:∀ a:Int,((mD n).map (a::·)).Nodup:=λa=>List.Pairwise.map (a::·) (λx y h e=>h (eI e).2) (I0 n)
  refine bB.mpr ⟨inj 0,inj 1,λx b y c e=>?_⟩;obtain⟨p,_,rfl⟩:=aE.mp b;obtain⟨q,_,rfl⟩:=aE.mp c;exact absurd (eI e).1 (by decide)
theorem L0:∀ {a b:Aa Int},a.map (Sum.inl:Int->hI)=b.map Sum.inl->a=b
 | [],[],_=>rfl
 | [],_::_,e=>by cases e
 | _::_,[],e=>by cases e
 | x::a,y::b,e=>by
  rw[aP,aP] at e;obtain⟨c,d⟩:=eI e;rw[Sum.inl.inj c,L0 d]
theorem KJ (h:(mD n)[i]?=some b) (f:Aa Int->D):mY (((mD n).take i).map λl=>(l.map (Sum.inl:Int->hI),f l)) (b.map Sum.inl) (f b)=((mD n).take (i+1)).map λl=>(l.map (Sum.inl:Int->hI),f l):=by
 rw[KC]
 .rw[cL,h,aR];rfl
 .intro z;rw[aF] at z;obtain⟨c,m,e⟩:=aE.mp z;have e:c=b:=L0 e;subst e;obtain⟨j,q,d⟩:=fJ m;rw[bZ] at q;have k:(mD n)[j]?=some c:=by rw[List.getElem_take] at d;exact aU.mpr ⟨by omega,d⟩
  have a:j<(mD n).length:=by omega
  have:=(List.getElem?_inj a (I0 n)).mp (k.trans h.symm);omega
theorem Lj (h:RwOk C g) (o:c.length=g.length) (r:l.length=(wIns C g).length) (j:∀ x∈c,mH x) (bl:∀ x∈l,mH x) :
  (rY C g c l).map (·.1)=g.map (·.2)++wIns C g/\((rY C g c l).map (·.1)).Nodup/\vN (dK (rY C g c l)) C.ins (gD (rY C g c l)):=by
 have n:(g.map (·.2)++wIns C g).Nodup:=by
  refine bB.mpr ⟨h.n2,(bB.mp h.gc.nd).1.filter _,λx f y t e=>?_⟩;subst e;have:=(bT.mp t).2;simp only[Bool.not_eq_true',decide_eq_false_iff_not] at this;exact this f
 have a:(g.map (·.2)++wIns C g).length=(c++l).length:=by rw[bK,bK,aA,o,r]
 have b:(rY C g c l).map (·.1)=g.map (·.2)++wIns C g:=List.map_fst_zip (lC a);refine⟨b,by rw[b];exact n,λx f=>?_⟩;have i:x∈(rY C g c l).map (·.1):=by
  rw[b];by_cases d:x∈g.map (·.2)
  .exact aL _ d
  .exact aJ _ (bT.mpr ⟨f,by simpa using d⟩)
 refine⟨(nI _ x).1 i,?_⟩;obtain⟨p,d,e⟩:=aE.mp i;have m:∀ q∈rY C g c l,mH q.2:=λq s=>by
  have:=(kB s).2;exact (aV.mp this).elim (j _) (bl _)
 unfold gD;cases k:(rY C g c l).find? (λp=>decide (p.1=x)) with
 | none=>exact .inl rfl
 | some q=>exact m q (List.mem_of_find?_eq_some k)
theorem Ur (h:(mD n)[i]?=some b) (f:Aa Int->D) (g:(mD n).length<=64):yF (.T (((mD n).take i).map λl=>(l.map (Sum.inl:Int->hI),f l))) (nF b) (f b)=some (.T (((mD n).take (i+1)).map λl=>(l.map (Sum.inl:Int->hI),f l))):=by
 have a:(((mD n).take i).map λl=>(l.map (Sum.inl:Int->hI),f l)).length<100000:=by rw[aA,bZ];omega
 show (if (((mD n).take i).map λl=>(l.map (Sum.inl:Int->hI),f l)).length<100000 then (uO (b.map D.int)).map (λk=>D.T (mY (((mD n).take i).map λl=>(l.map (Sum.inl:Int->hI),f l)) k (f b))) else none)=_;rw[aT a,Ii,Option.map_some,KJ h]
def Ou:RD:=λe b d=>∃ (C:Cel) (a:Aa (Af×Af)) (t:lZ) (c:Aa Int),b=[mN C a,.k (dK t),nF c]/\RwOk C a/\c.length=a.length/\(∀ x∈c,mH x)/\d (.o (sV C a t c))
def Uk:RD:=λd b c=>∃ (C:Cel) (a:Aa (Af×Af)) (t:lZ),b=[mN C a,.k (dK t)]/\RwOk C a/\c (.o (vB C a t))
section
variable {P:Ah}{K:lL}
theorem Cw:FnScope ["row","weights","carried","found","bits","known","onward"] ["row","weights","carried"] (mI F8):=nU
theorem Jf:FnScope ["row","weights","table","carried"] ["row","weights"] (mI Hg):=nU
theorem NP (T:Txt mg) (U:Kn P w K mg base 1 "all_bits" Bh ["count"] Gc) (g:Kn P w K mg base 2 "word_inputs" Bc ["row"] Ek) (r:Kn P w K mg base 1 "carried_inputs" zK ["row"] B0) (J:Kn P w K mg base 3 "side_bits" Gy ["cell","bits"] Rf) (I:Kn P w K mg base 3 "cell_part" Ie ["row","weights","known"] Ps)
: nZ P w K mg base 4 "steps_from" F8 ["row","weights","carried"] Ou:=by
 refine oI Cw λf aa A Z s H E dk ds Φ O S hR=>?_
 obtain⟨C,a,t,c,rfl,d,Q,W,Y⟩:=hR;refine⟨_,(lM (lV 3 Cw.nd Ri) (lM (qV (mW (lU U O (aD (pH sO sJ T.len cC (aD (lU g O (aD (dT 0) gV)) gV)) gV))) (lX 4 Cw.nd) (lM (lV 5 Cw.nd (lU J O (aD (lT S 0 lN) (aD (Eh rfl (by rfl) T.dict (by rfl) T.zip (aD (nG oG oE (lU r O (aD (dT 0) gV)) (lU g O (aD (dT 0) gV))) (aD (qY oG oE 2 (dT 4)) gV))) gV)))) (lM (lV 6 Cw.nd (nE rL rV T.tuple bQ (aD (nJ ["output","name"] ["known"] [5] (mW (lT S 0 lN)) (λ_ _ _ _ _=>(sB (n:=2) rfl (nL (lX 0 Uf) (nL (lX 1 Uf) rK)))) (λ_ _ _ _ _=>(lT S 2 (dT 0)))) gV))) (mL (A7 (n:=3) S (mZ (aD (dT 6) (aD (lU I O (aD (dT 0) (aD (dT 1) (aD (dT 5) gV)))) gV))) (pv 3) (dT 4)))))) (mL (nA (B1 3 (pv 3)))))),?_⟩;have af:=d.lp;have ae:=d.li;have l1:(wIns C a).length<=C.ins.length:=cJ _ _;have ab:=A2 (show (wIns C a).length<=6 by omega);have ac:=xT (wIns C a).length;refine lP (λb=>b=_) (λN F=>F _ rfl) ?_;rintro _ rfl;refine lP (λb=>∃ L M B,b=[.v (mN C a),.v (.k (dK t)),.v (nF c),.o (sV C a t c),L,M,B]) (λN F=>?_) ?_
 .refine rG ((mD (wIns C a).length).map nF) _ (λΨ h=>?_) (λi b=>∃ L M B,b=[.v (mN C a),.v (.k (dK t)),.v (nF c),.o (.T (((mD (wIns C a).length).take i).map λl=>(l.map (Sum.inl:Int->hI),Bj C a t c l))),L,M,B]) ⟨.n,.n,.n,rfl⟩ ?_ ?_
  .exact⟨C,a,rfl,by omega,by omega,.inl rfl,rfl,_,rfl,(wIns C a).length,by rw[aA],by omega,.inl rfl,h⟩
  .rintro i x b u ⟨L,M,B,rfl⟩;obtain⟨l,hl,rfl⟩:=sU u;obtain⟨ll,lb⟩:=vJ (aO hl);obtain⟨ek,nd,R⟩:=Lj d Q ll W lb;refine lP (λb=>∃ z,(∀ x∈C.ins++C.outs,lW z (Sum.inr x)=some (.int (rW C a c l x)))/\b=[.v (mN C a),.v (.k (dK t)),.v (nF c),.o (.T (((mD (wIns C a).length).take i).map λl=>(l.map (Sum.inl:Int->hI),Bj C a t c l))),.v (nF l),.o (.k z),B]) (λN F=>?_) ?_
   .have ez:((a.map λp=>D.str p.2)++(wIns C a).map D.str)=(a.map (·.2)++wIns C a).map D.str:=by rw[aR,aF];rfl
    have ev:(c.map D.int++l.map D.int)=(c++l).map D.int:=(aR ..).symm;refine⟨rfl,_,rfl,C,a,rfl,by omega,.inl rfl,C,a,rfl,by omega,by omega,.inl rfl,by rw[aA,aA];omega,rfl,by rw[aA,aA,Q,ll];omega,false,true,_,_,(a.map (·.2)++wIns C a).map Sum.inr,rfl,rfl,by rw[ez];exact keysL_strs _,by rw[aA,bK,aA];omega,?_⟩;have V:oW [] (((a.map (·.2)++wIns C a).map (Sum.inr:Af->hI)).zip (c.map D.int++l.map D.int))=dK (rY C a c l):=by
     rw[ev];have e3:((a.map (·.2)++wIns C a).map (Sum.inr:Af->hI)).zip ((c++l).map D.int)=dK (rY C a c l):=by
      unfold dK rY;rw[List.zip_map];rfl
     rw[e3];exact sS nd
    rw[V];have le:(dK (rY C a c l)).length<=100:=by
     have:=bY List.length ek;rw[aA,bK,aA] at this;unfold dK;rw[aA];omega
    exact⟨C,_,_,rfl,d.gc,R,le,λz q=>⟨.inl rfl,F _ ⟨z,q,rfl⟩⟩⟩
   rintro _ ⟨z,q,rfl⟩;refine lP (λb=>b=[.v (mN C a),.v (.k (dK t)),.v (nF c),.o (.T (((mD (wIns C a).length).take i).map λl=>(l.map (Sum.inl:Int->hI),Bj C a t c l))),.v (nF l),.o (.k z),.v (nF (a.map λp=>rW C a c l p.1))]) (λN F=>?_) ?_
   .have hb:∀ x∈C.ins++C.outs,mH (rW C a c l x):=λx u=>by
     by_cases G:x∈C.ins
     .unfold rW;rw[E4 d.gc _ G];exact (R x G).2
     .exact Fh d.gc (λy X=>(R y X).2) x ((aV.mp u).resolve_left G)
    unfold oD dC aC;refine oM a (λp=>D.t [.str p.1,.str p.2]) (λp=>D.int (rW C a c l p.1)) _ (λΨ h=>⟨rfl,_,rfl,h⟩) (by omega) (λj y ys Nx e h1 h2=>?_) ?_
    .refine⟨rfl,rfl,rfl,D.int (rW C a c l y.1),?_,h1,h2⟩;show some (lW z (Sum.inr y.1))=_;rw[q y.1 (aJ _ (d.m y (aO e)).1)]
    .have e4:nF (a.map λp=>rW C a c l p.1)=D.t (a.map λp=>D.int (rW C a c l p.1)):=by unfold nF;rw[List.map_map];rfl
     have k:=F _ rfl;rw[e4] at k;exact k
   rintro _ rfl;have hb:∀ x∈C.ins++C.outs,mH (rW C a c l x):=λx u=>by
     by_cases G:x∈C.ins
     .unfold rW;rw[E4 d.gc _ G];exact (R x G).2
     .exact Fh d.gc (λy X=>(R y X).2) x ((aV.mp u).resolve_left G)
   refine⟨C,a,t,z,rW C a c l,rfl,d,λx u=>⟨q x u,hb x u⟩,.inl rfl,by show 2<=1000;decide,rfl,?_⟩;exact⟨_,Ur hl (Bj C a t c) (by omega),_,_,_,rfl⟩
  .rintro b ⟨L,M,B,rfl⟩;rw[aA,fQ];exact F _ ⟨L,M,B,rfl⟩
 rintro _ ⟨L,M,B,rfl⟩;exact Y
theorem Zl (T:Txt l) (j:Kn P w K l base 1 "all_bits" Bh ["count"] Gc) (g:Kn P w K l base 4 "steps_from" F8 ["row","weights","carried"] Ou)
: nZ P w K l base 5 "step_table" Hg ["row","weights"] Uk:=by
 refine oI Jf λf G A u s H E S V W B D O=>?_
 obtain⟨C,a,t,rfl,y,q⟩:=O;refine⟨_,(lM (lV 2 Jf.nd Ri) (lM (qV (mW (lU j B (aD (pH sO sJ T.len cC (aD (lT D 0 lN) gV)) gV))) (lX 3 Jf.nd) (mL (A7 (n:=2) D (lU g B (aD (dT 0) (aD (dT 1) (aD (dT 3) gV)))) (pv 2) (dT 3)))) (mL (nA (B1 2 (pv 2)))))),?_⟩;have m:=y.lp;have M:=A2 m;have Q:=xT a.length;refine lP (λd=>d=_) (λN e=>e _ rfl) ?_;rintro _ rfl;refine lP (λd=>∃ b,d=[.v (mN C a),.v (.k (dK t)),.o (vB C a t),b]) (λN e=>?_) ?_
 .refine rG ((mD a.length).map nF) _ (λX h=>?_) (λi d=>∃ b,d=[.v (mN C a),.v (.k (dK t)),.o (.T (((mD a.length).take i).map λc=>(c.map (Sum.inl:Int->hI),sV C a t c))),b]) ⟨.n,rfl⟩ ?_ ?_
  .exact⟨rfl,_,rfl,rfl,_,rfl,a.length,by rw[aA],by omega,.inl rfl,h⟩
  .rintro i x d R ⟨b,rfl⟩;obtain⟨c,z,rfl⟩:=sU R;obtain⟨L,F⟩:=vJ (aO z);exact⟨C,a,t,c,rfl,y,L,F,.inl rfl,rfl,_,Ur z (sV C a t) (by omega),_,rfl⟩
  .rintro d ⟨b,rfl⟩;rw[aA,fQ];exact e _ ⟨b,rfl⟩
 rintro _ ⟨b,rfl⟩;exact q
end
theorem T9:(["bit","want"]:Aa Af).Nodup:=by decide +kernel
theorem ND:(["name","edges"]:Aa Af).Nodup:=by decide +kernel
theorem KH:(["bits","asked"]:Aa Af).Nodup:=by decide +kernel
noncomputable def oB:Ab Int->D
 | none=>.e
 | some i=>.int i
noncomputable def Hj (b:Int) (o:Ab Int):Bool:=match o with
 | none=>true
 | some i=>decide (i=b)
def F7 (bs:Aa Int) (os:Aa (Ab Int)):Bool:=(bs.zip os).all λp=>Hj p.1 p.2
def vG (g:Aa (Af×Af)) (j:Af->Ab Int):Aa (Ab Int):=g.map λp=>j p.2
def Ds (g:Aa (Af×Af)) (j:Af->Ab Int):Aa (Aa Int):=(mD g.length).filter λb=>F7 b (vG g j)
theorem S5 (f:o->D) (g:r->D):∀ (j:Aa o) (l:Aa r),yW (j.map f) (l.map g)=(j.zip l).map λp=>D.t [f p.1,g p.2]
 | [],_=>rfl
 | _::_,[]=>rfl
 | x::j,y::l=>by
  show D.t [f x,g y]::yW (j.map f) (l.map g)=_;rw[S5 f g j l];rfl
def Oi:RD:=λd a c=>∃ (bs:Aa Int) (os:Aa (Ab Int)),a=[nF bs,.l (os.map oB)]/\bs.length<=100/\os.length<=100/\c (.v (.b (F7 bs os)))
def Uz:RD:=λf d e=>∃ (C:Cel) (a:Aa (Af×Af)) (b:Aa (hI×D)) (c:Af->Ab Int),d=[mN C a,.k b]/\a.length<=6/\(∀ p∈a,lW b (Sum.inr p.2)=some (oB (c p.2)))/\e (.o (.l ((Ds a c).map nF)))
section
variable {P:Ah}{K:lL}
theorem Zm:FnScope ["bits","asked"] ["bits","asked"] (mI Fy):=nU
theorem Oz:FnScope ["row","edges","asked"] ["row","edges"] (mI Ex):=nU
theorem BN (T:Txt g):nZ P w K g base 1 "are_let" Fy ["bits","asked"] Oi:=by
 refine oI Zm λf m A c s H E B F x u M q=>?_
 obtain⟨bs,os,rfl,G,L,a⟩:=q;refine⟨_,(mL (nA (pH (Oq rfl) O0 T.all PyProof.Rows.boot_all (aD (nJ ["bit","want"] [] [] (DW (by rfl) T.zip (aD (dT 0) (aD (dT 1) gV))) (λ_ _ _ _ _=>(sB (n:=2) rfl (nL (lX 0 T9) (nL (lX 1 T9) rK)))) (λ_ _ _ _ _=>(DX (F2 Pm (Ls false) (pv 1) As) (Pu (F2 (wL u.units) (uE false) (pv 1) (dT 0)))))) gV)))),?_⟩;have N:(bs.zip os).length<=100:=by rw[gB];omega
 unfold rC dC aC;refine oM (bs.zip os) (λp=>D.t [.int p.1,oB p.2]) (λp=>D.b (Hj p.1 p.2)) [.v (nF bs),.v (.l (os.map oB))] (λQ h=>⟨true,false,_,_,rfl,rfl,?_⟩) (by omega) (λj y O z e d k=>?_) ?_
 .rw[S5];exact h
 .obtain⟨b,o⟩:=y;cases o with
  | none=>exact⟨rfl,rfl,rfl,d,k⟩
  | some i=>exact⟨rfl,rfl,rfl,rfl,d,k⟩
 .refine⟨(bs.zip os).map λp=>Hj p.1 p.2,?_,?_⟩
  .rw[<- K6,aF];rfl
  .show x (.v (.b (((bs.zip os).map λp=>Hj p.1 p.2).all id)));rw[List.all_map];exact a
theorem Xx (T:Txt J) (g:Kn P w K J base 1 "carried_inputs" zK ["row"] B0) (r:Kn P w K J base 1 "all_bits" Bh ["count"] Gc) (I:Kn P w K J base 1 "are_let" Fy ["bits","asked"] Oi)
: nZ P w K J base 2 "let_edges" Ex ["row","edges"] Uz:=by
 refine oI Oz λf F A z s H E Y Z Φ u S O=>?_
 obtain⟨C,a,d,c,rfl,m,R,x⟩:=O;refine⟨_,(lM (lV 2 Oz.nd (nJ ["name"] ["edges"] [1] (mW (lU g u (aD (dT 0) gV))) (λ_ _ _ _ _=>(lX 0 ND)) (λ_ _ _ _ _=>(lT S 1 (dT 0))))) (mL (nA (nJ ["bits"] ["asked"] [2] (mW (lU r u (aD (pH sO sJ T.len cC (aD (dT 2) gV)) gV))) (λ_ _ _ _ _=>(lX 0 KH)) (λ_ _ _ _ _=>(dT 0)) (ht:=λ_ _ _ _ _=>(A5 (Lm (lU I u (aD (dT 0) (aD (dT 1) gV)))))))))),?_⟩;have L:=A2 m;have Q:=xT a.length;refine lP (λX=>X=[.v (mN C a),.v (.k d),.o (.l ((vG a c).map oB))]) (λN M=>?_) ?_
 .unfold oD;have k:=M _ rfl;rw[show (vG a c).map oB=a.map (λp=>oB (c p.2)) by unfold vG;rw[List.map_map];rfl] at k;refine oM a (λp=>D.str p.2) (λp=>oB (c p.2)) [.v (mN C a),.v (.k d),.n] (λW h=>⟨C,a,rfl,by omega,.inl rfl,h⟩) (by omega) (λj y V B e q t=>?_) k;refine⟨rfl,oB (c y.2),?_,q,t⟩;show some (lW d (Sum.inr y.2))=_;rw[R y (aO e)]
 rintro _ rfl;unfold rC;refine zE (mD a.length) nF nF (λb=>F7 b (vG a c)) [.v (mN C a),.v (.k d),.v (.l ((vG a c).map oB))] (λW h=>?_) (by omega) (λj b V B e q t G=>?_) ?_
 .exact⟨rfl,_,rfl,a.length,by unfold vG;rw[List.length_map,List.length_map],m,.inl rfl,h⟩
 .have U:=(vJ (aO e)).1;refine⟨b,vG a c,rfl,by omega,by unfold vG;rw[List.length_map];omega,.inl rfl,rfl,_,rfl,?_⟩;cases i:F7 b (vG a c) with
  | true=>exact (aT rfl).mpr ⟨q,t i⟩
  | false=>exact (aN bG).mpr (G i)
 .exact x
end
theorem S2:∀ {ks:Aa Af}{vs:Aa Int},ks.Nodup->ks.length=vs.length->ks.map (gD (ks.zip vs))=vs
 | [],[],_,_=>rfl
 | [],_::_,_,e=>by cases e
 | _::_,[],_,e=>by cases e
 | k::ks,v::vs,d,e=>by
  obtain⟨b,c⟩:=cD.mp d;rw[aP,cX,qC,aT rfl];have:ks.map (gD ((k,v)::ks.zip vs))=ks.map (gD (ks.zip vs)):=bL λx a=>by
   rw[qC,aN];intro z;have z:k=x:=z;exact b (z▸a)
  rw[this,S2 c (by simpa using e)]
end Lw
namespace L2
open PySem PySem.Spec PyProof.Rows Lw
structure YS (K:lL) (J:It) (ds:List D) (S:Hp->Prop):Prop where
 go:∀ i H,i<ds.length->S H->J.go i H
 yld:∀ i H x H',i<ds.length->S H->J.yld i H x H'->∃ d,ds[i]?=some d/\H'=H/\∀ A,Rep K A H d x
 stop:∀ i H,i=ds.length->S H->J.stop i H
def Jo (g:mP):wG:=λc e d=>g c e λr b=>match r with
 | .v (.T a)=>d (sM a) b
 | _=>False
def P1 (X:Cx) (g:TE):TI:=λe H R=>g e H λx c=>∃ a b,x = .ref a/\((c a=some (.T b)/\∀ o,(∀ d u,X.H₀ a≠some (.frz d u))->R (xC a o b) (upd c a (.frz o (.T b))))\/∃ o,c a=some (.frz o (.T b))/\R (xC a o b) c)
section
variable {X:Cx}
theorem Qq (g:PE X l j):PI X p l (P1 X j):=by
 intro d s z H R I h;refine lQ (g d s z H _ I h) λv f t=>?_
 obtain⟨x,A,m,K,a,c,e,alt⟩:=t;subst e;cases K;obtain⟨o,k,n,i,q⟩:∃ o k,Inv X d z k f/\k a=some (.frz o (.T c))/\R (xC a o c) k:=by
  rcases alt with⟨i,q⟩ | ⟨o,i,q⟩
  .obtain⟨o,G⟩:∃ o,f.heap.get? a=some o:=by
    obtain⟨_,_,_,_,o,_,_,e,_⟩:=(show nV X.prog X.w A f.heap a (.T c) from m.hok a _ i);exact⟨o,e⟩
   exact⟨o,_,m.frozen i G,lR,q o λy u e=>by
    have:=m.base.frzs a y u e;rw[i] at this;cases this⟩
  .exact⟨o,_,m,i,q⟩
 obtain⟨D,B,raw,sz,_⟩:=K5 n.hok i;have E:∀ b∈[f.heap.objs.size],sR X d k b:=λb F=>by
  have e:b=f.heap.objs.size:=by simpa using F
  subst e;exact n.fpOk (aW _) (n.hok.fresh (aW _))
 refine Vq raw ⟨f.heap.objs.size,[f.heap.objs.size],_,xC a o c,k,rfl,n.kept (t':=f.toks) λb y q=>aK _ q,DZ a _ o c,⟨B,⟨D,raw.dat⟩,?_⟩,E,q⟩;exact⟨_,bA _ rfl,rfl,by rw[sz];rfl⟩
def thawQ (X:Cx) (Q:Hp->Prop) (H:Hp):Prop:=Q H\/∃ a o b,H a=some (.frz o (.T b))/\(∀ c u,X.H₀ a≠some (.frz c u))/\Q (upd H a (.T b))
theorem Inv.thawQ (I:Inv X g l H s) (h:L2.thawQ X Q H):∃ j,Inv X g l j s/\Q j:=by
 rcases h with h | ⟨a,o,d,c,b,h⟩
 .exact⟨H,I,h⟩
 .exact⟨_,I.thawed c b,h⟩
theorem HY (h:PE X e t):PE X e (λg H Q=>t g H λv=>thawQ X (Q v)):=λa s g H Q I q=>by
 refine lQ (h a s g H _ I q) λv u b=>?_
 obtain⟨x,n,d,m,i⟩:=b;obtain⟨c,f,k⟩:=d.thawQ i;exact⟨x,c,f,m,k⟩
def Ends.thawQ (X:Cx) (D:Ends):Ends where
 nx:=λa=>L2.thawQ X (D.nx a)
 rt:=λv=>L2.thawQ X (D.rt v)
 bk:=λa=>L2.thawQ X (D.bk a)
 ct:=λa=>L2.thawQ X (D.ct a)
theorem II {st:Stmt}(h:PS X st t):PS X st (λD g H=>t (D.thawQ X) g H):=λi s g H D I q=>by
 refine lQ (h i s g H _ I q) λf n q=>?_
 cases f with
 | next=>obtain⟨a,k,b,d⟩:=q;obtain⟨m,c,e⟩:=b.thawQ d;exact⟨a,_,c,e⟩
 | brk=>obtain⟨a,k,b,d⟩:=q;obtain⟨m,c,e⟩:=b.thawQ d;exact⟨a,_,c,e⟩
 | cont=>obtain⟨a,k,b,d⟩:=q;obtain⟨m,c,e⟩:=b.thawQ d;exact⟨a,_,c,e⟩
 | ret u=>obtain⟨v,a,k,b,r,d⟩:=q;obtain⟨m,c,e⟩:=b.thawQ d;exact⟨v,a,_,c,r,e⟩
theorem Jm {K:lL}(l:j.map (·.1)=g.map (·.1)):YS K (xC a o g) (sM j) λH=>H a=some (.frz o (.T g)):=by
 have f:(sM j).length=g.length:=by
  have:=bY List.length l;unfold sM
  simpa using this
 refine⟨λi H d c=>⟨c,by rw[<- f];exact d⟩,?_,λi H d c=>⟨c,by rw[d,f]⟩⟩;rintro i H x n d c ⟨rfl,k,w,p,h,rfl,m⟩;refine⟨.t (k.map Gx),?_,rfl,λA=>.t m (K4 k)⟩;have b:(g.map (·.1))[i]?=some k:=by rw[bC,h];rfl
 rw[<- l,bC] at b;unfold sM;rw[bC];cases e:j[i]? with
 | none=>rw[e] at b;cases b
 | some p=>rw[e] at b;cases b;rfl
theorem Vp {T:Aa Af}{j:Aa Nat}{g:tF}{tt:qN}{te:mP}{K:lL}(aa:j.Nodup){σ:St}{H1:Hp}{Q:VK}{B:Bs}{C:Aa Sl}{Tm:nD}{Φ:Sl->Aa Sl->Prop}{J:It}{ds:Aa L2.D}{S:Hp->Prop}{D:Ad}(l1:C.length=σ.length) (d1:DS K B (C.zip σ++Tm) H1) (Y:YS K J ds S)
  (hS:∀ D,H1 D=none->∀ p L H,DS K (mX B D p) L H->S H)
  (ac:∃ Pv:Nat->Aa L2.D->Aa Sl->Prop,Pv 0 [] (oK j C) /\ (∀ i d p I,ds[i]?=some d->I.length=j.length->Pv i p I->g d (List.replicate T.length Sl.n++I) λae=>tt B.dk ae λb ab=>if b=true then te B.dk ab λr af=>match sd r with
    | some c=>p.length<100000/\Pv (i+1) (p++[c]) (af.drop T.length)
    | none=>False
    else Pv (i+1) p (ab.drop T.length)) /\
   ∀ p I,I.length=j.length->Pv ds.length p I->Φ (.o (.l p)) (pM j I C))
  (k:∀ r U v H',U.length=σ.length->DS K B (U.zip σ++(r,some v)::Tm) H'->Φ r U->Q v H') (hD:H1 D=none):Ax T j J (dG K T.length g) (sT K tt) (dE K te) σ H1 Q D :=
 Rb aa l1 d1 (λi p q M H _ d=>⟨λa=>Y.go i H a (hS D hD _ _ _ d),λa=>Y.stop i H a (hS D hD _ _ _ d),λx f a y=>by obtain⟨h,e,rfl,m⟩:=Y.yld i H x f a (hS D hD _ _ _ d) y;exact⟨h,e,d.push (m _)⟩⟩) ac k hD
end
section
variable {X:Cx}
theorem DS.known2 {K:lL}(d:DS K B (L++(.v (.T p),some v)::T) H) :
  ∃ a g,v = .ref a/\p.map (·.1)=g.map (·.1)/\a∉B.dk /\
   ((H a=some (.T g)/\∀ o,DS K (pB B a o g) (L++T) (upd H a (.frz o (.T g)))/\∀ l j,DS K (pB B a o g) l j->DS K B l (upd j a (.T g))) \/ ∃ o,H a=some (.frz o (.T g))/\DS K (pB B a o g) (L++T) H/\∀ l j,DS K (pB B a o g) l j->DS K B l j):=by
 have hd:=d.drop;have rep:=d.valAt;obtain⟨a,g,rfl,al,rd,k,m⟩:=rep.dT_inv;have c:=al.1;refine⟨a,g,rfl,k,c,?_⟩;rcases rd with f | ⟨i,f⟩
 .refine .inl ⟨f,λo=>⟨hd.fz (o:=o) ⟨λb n=>lS n,.inl f,.inr ⟨o,lR⟩⟩ lR al,λl j h=>h.th ⟨λb n=>lS n,.inr ⟨o,h.known c⟩,.inl lR⟩ c (λu e=>?_) al.2.2⟩⟩;have:=hd.fr a u e c;rw[f] at this;rw[lR];exact this
 .refine .inr ⟨i,f,hd.fz ⟨λ_ _=>rfl,.inr ⟨i,f⟩,.inr ⟨i,f⟩⟩ f al,λl j h=>h.th ⟨λ_ _=>rfl,.inr ⟨i,h.known c⟩,.inr ⟨i,h.known c⟩⟩ c (λu e=>?_) al.2.2⟩;have:=hd.fr a u e c;rw[f] at this;rw[h.known c];exact this
theorem Pc {K:lL}{B:Bs}{a D:Ad}{o:Obj}{g:Aa (Aa hI×V)}{r:Aa V}{L:nD}{H j:Hp}(C:a∉B.dk) (p:j a=some (.frz o (.T g))) (I:j D=none) (d:DS K (mX (pB B a o g) D r) L H):H a=some (.frz o (.T g)):=by
 have ne:a≠D:=λz=>by rw[z,I] at p;cases p
 refine d.fr a _ ?_ C;show (if a=D then some (.l r) else if a=a then some (HO.frz o (.T g)) else B.H0 a)=_;rw[aN ne,aT rfl]
theorem NY (l:j.Nodup) (h:dE X.K (sQ T.length j (Jo C) g I p) J H Q) :
  xR T j (P1 X (dE X.K C)) (dG X.K T.length g) (sT X.K I) (dE X.K p) J H λv=>thawQ X (Q v):=by
 obtain⟨B,G,Tm,O,y,hd,A,k⟩:=h;refine⟨B,G,Tm,_,y,hd,A,λr M v N t d1 f=>?_⟩;cases r<;>first | exact False.elim f | skip
 rename_i d
 cases d<;>first | exact False.elim f | skip
 rename_i E
 obtain⟨a,b,rfl,s,n,alt⟩:=d1.known2;refine⟨a,b,rfl,?_⟩;rcases alt with⟨i,x⟩ | ⟨o,i,d2,back⟩
 .refine .inl ⟨i,λo w D c=>?_⟩;obtain⟨d2,back⟩:=x o;exact Vp (B:=pB B a o b) l t d2 (Jm s) (λD c F L H d=>Pc n lR c d) f (λr e v u q m z=>.inr ⟨a,o,b,m.known n,w,k r e v _ q (back _ _ m) z⟩) c
 .refine .inr ⟨o,i,λD c=>?_⟩;exact Vp (B:=pB B a o b) l t d2 (Jm s) (λD c F L H d=>Pc n i c d) f (λr e v u q m z=>.inl (k r e v _ q (back _ _ m) z)) c
theorem Tu {iter:Expr}(T o:Aa Af) (r:Aa Nat) (hc:X.calm=true) (hi:PD X iter ti)
  (hk:j.kind = .function) (ho:Cz X.N X.env.kindOf j T o r=true)
  (hg:∀ p l C I J,wA (sF X (T++o) j I C p l J) T.length tg g)
  (ht:∀ p l C I J,vU (sF X (T++o) j I C p l J) ab (sT X.K tt))
  (he:∀ p l C I J,PD (sF X (T++o) j I C p l J) aa te)
  (U:r.Nodup:=by decide) (hs:∀ x,foldedSetIterable iter X.env x=pure x:=by intro _;rfl):PD X (.ListComp aa [⟨tg,iter,ab,0⟩] j pos) (sQ T.length r (Jo ti) g tt te) :=
 (HY (tV T o r hc (Qq hi) hk ho hg ht he hs)).mono λ_ _ _ h=>NY U h
theorem OF {iter:Expr}(hp:PassesOwn (model X.prog X.w) X.A X.env X.xe) (hc:X.calm=true) (hi:PD X iter ti) (hg:wA X m tg g) (hb:uW X body tb)
  (hs:∀ x,foldedSetIterable iter X.env x=pure x:=by intro _;rfl):sW X (.For tg iter body [] pos) (Iv (Jo ti) g tb) :=
 (II (Bt hp hc (Qq hi) hg hb hs)).mono λDn R H aa=>aa.elim λB ρ T De hl hd ht Z=>by
  refine⟨B,ρ,T,_,hl,hd,ht,λr Q v H1 l1 d1 C=>?_⟩;cases r<;>first | exact False.elim C | skip
  rename_i d
  cases d<;>first | exact False.elim C | skip
  rename_i u
  obtain⟨Pv,p0,step,fin⟩:=C;obtain⟨a,e,rfl,ek,p,alt⟩:=d1.known2;have Y:∀ o,_:=λo=>Jm (K:=X.K) (a:=a) (o:=o) ek
  have F:∀ (o:Obj) (q:Ends) (E:Hp),DS X.K (pB B a o e) (Q.zip R++T) E->(∀ (c:Aa Sl) (b:St) (f:Hp),c.length=b.length->b.length=R.length->DS X.K (pB B a o e) (c.zip b++T) f->De.nx c->q.nx b f) ->
    (∀ (r:Sl) (v:V) (c:Aa Sl) (b:St) (f:Hp),c.length=b.length->DS X.K (pB B a o e) (c.zip b++(r,some v)::T) f->De.rt r->q.rt v f) ->
    ∃ W:Nat->Nat->St->Hp->Prop,(∃ m,W 0 m R E)/\∀ i n b f,W i n b f->((xC a o e).stop i f/\q.nx b f)\/((xC a o e).go i f/\∃ N:St->Hp->Prop,(∀ G t,N G t->∃ m',m'<n/\W (i+1) m' G t)/\∀ x t,(xC a o e).yld i f x t->dG X.K m g x b t λk H3=>dS X.K tb { nx:=N,ct:=N,bk:=q.nx,rt:=q.rt } k H3):=λo q E d0 P ab=>by
   refine⟨λi m b f=>m=(sM u).length-i/\i<=(sM u).length/\∃ c,c.length=b.length/\b.length=R.length/\DS X.K (pB B a o e) (c.zip b++T) f/\Pv i c,⟨_,rfl,dL _,Q,l1,rfl,d0,p0⟩,?_⟩;rintro i m b f ⟨rfl,ac,c,m1,m2,l,pv⟩;have U:=l.known p;by_cases L:i<(sM u).length
   .refine .inr ⟨(Y o).go i f L U,λk E=>∃ h,h.length=k.length/\k.length=R.length/\DS X.K (pB B a o e) (h.zip k++T) E/\Pv (i+1) h,λk E ⟨h,q1,q2,q3,q4⟩=>⟨_,(by omega:(sM u).length-(i+1)<_),rfl,L,h,q1,q2,q3,q4⟩,λx E y=>?_⟩;obtain⟨d,J,rfl,rx⟩:=(Y o).yld i f x E L U y;refine⟨pB B a o e,c,T,d,_,m1,l.push (rx _),step i d c J pv,λh k H3 n1 n2 _ d3 q3=>⟨pB B a o e,h,T,_,n1,d3,q3,?_,?_⟩⟩
    .intro D M j s S O;exact⟨λz=>⟨D,s,by omega,O,z⟩,λz=>P D M j s (by omega) O z,λz=>⟨D,s,by omega,O,z⟩⟩
    .exact λr v D M j s O z=>ab r v D M j s O z
   .have ei:i=(sM u).length:=by omega
    subst ei;exact .inl ⟨(Y o).stop _ f rfl U,P c b f m1 m2 l (fin c pv)⟩
  refine⟨a,e,rfl,?_⟩;rcases alt with⟨I,hh⟩ | ⟨o,I,d2,back⟩
  .refine .inl ⟨I,λo h0=>?_⟩;obtain⟨d2,back⟩:=hh o;exact F o _ _ d2 (λc b f s S d z=>.inr ⟨a,o,e,d.known p,h0,(Z.1 c b _ s S (back _ _ d)).1 z⟩) λr v c b f s d z=>.inr ⟨a,o,e,d.known p,h0,Z.2 r v c b _ s (back _ _ d) z⟩
  .exact .inr ⟨o,I,F o _ _ d2 (λc b f s S d z=>.inl ((Z.1 c b _ s S (back _ _ d)).1 z)) λr v c b f s d z=>.inl (Z.2 r v c b _ s (back _ _ d) z)⟩
end
end L2
namespace L2
open PySem PySem.W PySem.Spec PyProof.Rows Lw
noncomputable def Dp (b:Aa Int):D:=.t (b.map D.int)
section
variable {K:lL}
theorem R7:∀ {b:Aa Int}{g:Aa V},Reps K A H (b.map D.int) g->g=b.map V.int
 | [],_,.nil=>rfl
 | x::b,_,.cons h r=>by rw[h.int_inv,R7 r];rfl
theorem FR (h:Rep K A H (Dp b) v):∃ a,v = .ref a/\H a=some (.t (b.map V.int)):=by
 obtain⟨a,c,rfl,h,r⟩:=Rep.tup_inv h;rw[R7 r] at h;exact⟨a,rfl,h⟩
end
end L2
namespace PySem
open PyProof.Rows L2
section
variable {R:Result->Ae->Prop}{P:Nat->Ac->Prop}{St:Nat->Ae->Prop}
abbrev Au (g:Ah) (w:World):=tupleKind (pC g w)
noncomputable def zP (more:Aa (Aa hI×Ad×Ac)):Aa (Aa hI×Ad×Ac):=more.foldl (λa q=>storedH a q.1 q.2.1 q.2.2) []
theorem Zn (g:Aa (Aa hI×Ad×Ac)) (k:Aa hI) (a:Ad) (v:Ac):(storedH g k a v).length<=g.length+1:=by
 unfold storedH;by_cases h:(atKey g k).isSome=true
 .rw[aT h,aA];omega
 .rw[aN h,bK];exact aW _
theorem KQ (more:Aa (Aa hI×Ad×Ac)):(zP more).length<=more.length:=by
 have:∀ (more a:Aa (Aa hI×Ad×Ac)),(more.foldl (λa q=>storedH a q.1 q.2.1 q.2.2) a).length<=a.length+more.length:=λmore=>by
  induction more with
  | nil=>intro a;simp
  | cons q more b =>
   intro a;rw[iX];have:=b (storedH a q.1 q.2.1 q.2.2);have:=Zn a q.1 q.2.1 q.2.2;rw[bS];omega
 have:=this more [];rw[eZ,Nat.zero_add] at this;exact this
theorem DD {more:Aa (Aa hI×Ad×Ac)}{i:Nat}{q:Aa hI×Ad×Ac}(h:more[i]?=some q):zP (more.take (i+1))=storedH (zP (more.take i)) q.1 q.2.1 q.2.2:=by
 unfold zP;rw[cL,h,List.foldl_append];rfl
theorem W6 {h j:Ag}(D:h.DictOfH (Au g w) d l) (hd:∀ o,h.get? d=some o->j.get? d=some o) (p:∀ x∈l,∀ o,h.get? x.2.1=some o->j.get? x.2.1=some o):j.DictOfH (Au g w) d l:=by
 obtain⟨o,f,e,i,k,n,q,s,t⟩:=D;refine⟨o,f,e,hd o i,k,n,q,λx b=>?_,t⟩;obtain⟨c,a,m,g1,g2⟩:=s x b;exact⟨c,a,m,p x b c g1,g2⟩
theorem DL {g:Aa (Aa hI×Ad×Ac)}{k:Aa hI}{a:Ad}{v:Ac}{x:Aa hI×Ad×Ac}(h:x∈storedH g k a v):(∃ y∈g,y.2.1=x.2.1)\/x.2.1=a:=by
 unfold storedH at h;by_cases e:(atKey g k).isSome=true
 .rw[aT e] at h;obtain⟨y,b,rfl⟩:=aE.mp h;refine .inl ⟨y,b,?_⟩;unfold putAt;by_cases z:y.1=k
  .rw[aT z]
  .rw[aN z]
 .rw[aN e] at h;rcases aV.mp h with h | h
  .exact .inl ⟨x,h,rfl⟩
  .rw[aZ.mp h];exact .inr rfl
theorem JM (h:x∈zP more):∃ y∈more,y.2.1=x.2.1:=by
 have:∀ (more a:Aa (Aa hI×Ad×Ac)),x∈more.foldl (λa q=>storedH a q.1 q.2.1 q.2.2) a->(∃ y∈a,y.2.1=x.2.1)\/∃ y∈more,y.2.1=x.2.1:=λmore=>by
  induction more with
  | nil=>intro a h;exact .inl ⟨x,h,rfl⟩
  | cons q more f =>
   intro a h;rw[iX] at h;rcases f _ h with⟨y,b,e⟩ | ⟨y,b,e⟩
   .rcases DL b with⟨z,d,c⟩ | c
    .exact .inl ⟨z,d,c.trans e⟩
    .exact .inr ⟨q,aH,c.symm.trans e⟩
   .exact .inr ⟨y,aM _ b,e⟩
 rcases this more [] h with⟨y,b,_⟩ | h
 .exact (bJ b).elim
 .exact h
theorem LQ (T:A.handled=none) (hu:A.units+2<cLine) (U:s.heap.get? l=some o) (J:o.cls = .type "list") (hd:o.dict=none) (p:o.data = .seq items nl)
  (hn:more.length=items.size)
  (I:∀ (i:Nat) v,items[i]?=some v->∃ (t:Ad) (o:Obj) (m:Nat) (q:Aa hI×Ad×Ac),v = .ref t/\s.heap.get? t=some o/\o.cls = .type "tuple" /\ o.data = .seq #[.ref q.2.1,q.2.2] m/\more[i]?=some q)
  (C:∀ q∈more,(Au g w).is s.heap q.1 q.2.1) (hb:items.size<=sizeLine)
  (h:∀ (j:Ag) (r:Nat),j.DictOfH (Au g w) s.heap.objs.size (zP more)->(∀ b o,s.heap.get? b=some o->j.get? b=some o)->Q (.ref s.heap.objs.size) { s with heap:=j,toks:=r }) :
  wpAny (model g w) A (call (.type "dict") [.ref l]) Q E s:=by
 refine T2 (λi j=>j.DictOfH (Au g w) s.heap.objs.size (zP (more.take i))) T U J hd p (λc e=>⟨_,#[],0,e,⟨rfl,rfl,rfl⟩,rfl,rfl,λ_ h=>(bJ h).elim,iF⟩) (λi c n k m=>?_) (λi v K=>?_) λj r m=>h j r (by rw[bI (by omega)] at m;exact m)
 .refine W6 m (λo e=>k _ _ (aW _) e) λx L o e=>k _ _ ?_ e
  obtain⟨y,M,D⟩:=JM L;obtain⟨u,_,_,g1,_⟩:=C y (iJ M);rw[<- D];exact eP (aY g1)
 .obtain⟨t,S,m,q,rfl,c,n,F,a⟩:=I i v K;refine⟨t,S,m,_,_,rfl,c,n,F,λB W Q E G N H k=>?_⟩;obtain⟨u,f,O,g1,g2⟩:=C q (aO a);refine wpAny_dictSet_heap (hsz:=?_) (knd:=Au g w) (G hu) ⟨u,f,O,N _ _ g1,g2⟩ H λj d V=>k j _ (by rw[DD a];exact d) V
  have z:=KQ (more.take i);rw[bZ] at z;omega
end
end PySem
namespace L2
open PySem PySem.W PySem.Spec PyProof.Rows Lw
def Fx (H:Hp):Aa Ad->Aa (Aa Int×Ad×V)->Prop:=Paired λt m=>H t=some (.t [.ref m.2.1,m.2.2])/\H m.2.1=some (.t (m.1.map V.int))
noncomputable def rJ {j:Type}(put:Aa (Aa hI×j)->Aa hI->j->Aa (Aa hI×j)) (g:Aa (Aa hI×j)) (l:Aa (Aa Int×j)):Aa (Aa hI×j):=l.foldl (λg m=>put g (m.1.map Sum.inl) m.2) g
theorem IC {P:Ah}(l:nP P w H h) (r:Fx H J p):∃ more:Aa (Aa hI×Ad×Ac),more.length=p.length /\
  (∀ (i:Nat) t,J[i]?=some t->∃ (o:Obj) (m:Nat) (q:Aa hI×Ad×Ac),h.get? t=some o/\o.cls = .type "tuple" /\ o.data = .seq #[.ref q.2.1,q.2.2] m/\more[i]?=some q) /\
  (∀ q∈more,∃ I,q.1=I/\H q.2.1=some (.t (I.map kV)))/\∀ g C,KT H g C->KT H (rJ nY g (p.map λm=>(m.1,m.2.2))) (more.foldl (λj q=>storedH j q.1 q.2.1 q.2.2) C):=by
 unfold Fx at r;induction r with
 | nil=>exact⟨[],rfl,λi t e=>by simp at e,λq a=>(bJ a).elim,λ_ _ k=>k⟩
 | @cons t m J p u Q D =>
  obtain⟨more,F,A,y,x⟩:=D;obtain⟨f,s⟩:=u;obtain⟨z,E,b,⟨o,B,v,n,c⟩,_⟩:=l t _ f;cases b with
  | @cons _ M _ R G b =>
   cases b with
   | @cons _ N _ O K b =>
    cases b;cases (show M=Value.ref m.2.1 from G);have d:H m.2.1=some (.t ((m.1.map (Sum.inl:Int->hI)).map kV)):=by rw[s,aF];rfl
    refine⟨(m.1.map Sum.inl,m.2.1,N)::more,by rw[bS,bS,F],λi L e=>?_,λq a=>?_,λg C k=>?_⟩
    .cases i with
     | zero =>
      simp at e;subst e;exact⟨o,n,_,B,v,c,rfl⟩
     | succ i=>simpa using A i L (by simpa using e)
    .rcases aI.mp a with rfl | a
     .exact⟨_,rfl,d⟩
     .exact y q a
    .exact x _ _ (k.put _ d K)
def Qh (K:lL):Aa V->Hp->VK->Prop:=λc H Q=>∃ (p:Ad) (b:Aa Ad) (a:Aa (Aa Int×Ad×V)),c=[.ref p]/\lO K H p (b.map V.ref)/\Fx H b a/\a.length<=1000/\∀ d,H d=none->Q (.ref d) (upd H d (.T (rJ nY [] (a.map λm=>(m.1,m.2.2)))))
theorem Vg:∀ (j:Aa (Aa Int×V)) (g:Aa (Aa hI×V)),(rJ nY g j).length<=g.length+j.length
 | [],g=>by simp[rJ]
 | m::j,g=>by
  have a:=Vg j (nY g (m.1.map Sum.inl) m.2);have b:=Gn g (m.1.map Sum.inl) m.2;show (rJ nY (nY g (m.1.map Sum.inl) m.2) j).length<=_;rw[bS];omega
section
variable {X:Cx}
theorem M5 (g:X.calm=true) (j:X.A.units+2<cLine):nK X (.type "dict") (Qh X.K):=by
 intro M s σ H xs us Q I r h;obtain⟨p,z,y,rfl,D,L,hz,q⟩:=h;obtain⟨u,rfl,F⟩:=qM r;cases F;obtain⟨f,N,⟨o,n,e,S,W,Y⟩,_⟩:=I.list D;have k:=N.length;rw[aA] at k;have aa:z.length=y.length:=fN L;obtain⟨more,ml,hm,hk,hf⟩:=IC I.hok L;have d:∀ (i:Nat) v,f[i]?=some v->∃ t,z[i]?=some t/\v = .ref t:=by
  intro i v w;have hi:i<f.length:=(aU.mp w).1;have:i<z.length:=by omega
  obtain⟨u,j,F⟩:=N.get (i:=i) (x:=V.ref z[i]) (by simp[this]);rw[j] at w;cases w;cases F;exact⟨z[i],by simp[this],rfl⟩
 refine LQ (more:=more) (I.ok.hd g) j e S W Y (by rw[aX];omega) ?_ (λq D=>?_) (by rw[aX];exact eP (cH (show f.length<=1000 by omega) (by decide))) λh' tk hD c=>?_
 .intro i v w;obtain⟨t,ht,rfl⟩:=d i v (by simpa using w);obtain⟨o,m,q,B,C,J,U⟩:=hm i t ht;exact⟨t,o,m,q,rfl,B,C,J,U⟩
 .obtain⟨ks,k1,k2⟩:=hk q D;rw[k1];exact Ak I.hok k2
 .have E:(rJ nY [] (y.map λm=>(m.1,m.2.2))).length<=sizeLine:=by
   have B:=Vg (y.map λm=>(m.1,m.2.2)) [];rw[eZ,aA] at B;exact eP (cH (show (rJ nY [] (y.map λm=>(m.1,m.2.2))).length<=1000 by omega) (by decide))
  obtain⟨ob,l,Z,d1,d2,O,P,_,R⟩:=hD;have kt:=hf [] [] .nil;have fr:=I.fresh;refine⟨.ref s.heap.objs.size,_,I.laid (a:=s.heap.objs.size) (o:=.T (rJ nY [] (y.map λm=>(m.1,m.2.2)))) (t':=tk) c (aW _) ?_,rfl,q _ I.fresh⟩;refine⟨E,cO.mpr (cY (bH I.big)),_,kt.keeps λb ys G=>?_,ob,l,Z,d1,d2,O,P,R⟩;rw[lS (mR G I.fresh)];exact G
end
section
variable {K:lL}
theorem Nq:∀ {j:Aa (Aa Int×D)}{o:Aa V},Reps K A H (j.map λm=>D.t [Dp m.1,m.2]) o->∃ (l:Aa Ad) (g:Aa (Aa Int×Ad×V)),o=l.map V.ref/\Fx H l g/\g.map (·.1)=j.map (·.1)/\Reps K A H (j.map (·.2)) (g.map (·.2.2))
 | [],_,.nil=>⟨[],[],rfl,.nil,rfl,.nil⟩
 | m::j,_,.cons h r=>by
  obtain⟨l,g,rfl,d,e,f⟩:=Nq r;obtain⟨a,s,rfl,i,c⟩:=h.tup_inv;cases c with
  | cons n c =>
   cases c with
   | cons q c =>
    cases c;obtain⟨b,rfl,k⟩:=FR n;exact⟨a::l,(m.1,b,_)::g,rfl,.cons ⟨i,k⟩ d,by rw[aP,aP,e],.cons q f⟩
theorem R8:∀ {ms:Aa (Aa Int×D)}{mv:Aa (Aa Int×V)}{kvs:Aa (Aa hI×D)}{vs:Aa (Aa hI×V)},ms.map (·.1)=mv.map (·.1)->Reps K A H (ms.map (·.2)) (mv.map (·.2))->kvs.map (·.1)=vs.map (·.1)->Reps K A H (kvs.map (·.2)) (vs.map (·.2)) ->
  (rJ mY kvs ms).map (·.1)=(rJ nY vs mv).map (·.1)/\Reps K A H ((rJ mY kvs ms).map (·.2)) ((rJ nY vs mv).map (·.2))
 | [],[],_,_,_,_,e,r=>⟨e,r⟩
 | [],_::_,_,_,e,_,_,_=>by simp at e
 | _::_,[],_,_,e,_,_,_=>by simp at e
 | (k,d)::ms,(j,v)::mv,kvs,vs,a,b,e,r=>by
  simp only[aP,fZ] at a;obtain⟨rfl,a⟩:=a;cases b with
  | cons h b =>
   obtain⟨c,f⟩:=Fn e r (k:=k.map Sum.inl) h;exact R8 (ms:=ms) (mv:=mv) a b c f
def Yq:OC:=λb d=>match b with
 | [.l c]=>∃ a:Aa (Aa Int×D),c=a.map (λm=>D.t [Dp m.1,m.2])/\a.length<=1000/\d (.o (.T (rJ mY [] a)))
 | _=>False
theorem Qj:qX K (Qh K) Yq:=by
 intro B L H c F G Q hd u b k;cases c with
 | nil=>exact False.elim b
 | cons d c =>
 cases c with
 | cons _ _=>cases d<;>exact False.elim b
 | nil =>
 cases d<;>first | exact False.elim b | skip
 obtain⟨x,rfl,v⟩:=rP u;obtain⟨n,rfl,D,b⟩:=b;obtain⟨a,E,rfl,h,r⟩:=v.lst_inv;obtain⟨A,f,rfl,s,i,t⟩:=Nq r;have q:n.map (·.1)=(f.map λm=>(m.1,m.2.2)).map (·.1):=by rw[aF,<- i];rfl
 have z:Reps K (Al B (hO L)) H (n.map (·.2)) ((f.map λm=>(m.1,m.2.2)).map (·.2)):=by rw[aF];exact t
 obtain⟨w,y⟩:=R8 (kvs:=[]) (vs:=[]) q z rfl .nil;refine⟨a,A,f,rfl,lO.of h,s,?_,λd e=>k _ _ _ b (hd.dTF e w y)⟩;have:=bY List.length i;rw[aA,aA] at this;omega
end
end L2
namespace Lw
open PySem L2
theorem Q8 (g:Room k A):A.units+2<cLine:=cH (Nat.add_le_add_left (by decide:2<=64) _) g.units
def Az (C:Cel) (g:Aa (Af×Af)) (c l:Aa Int):Aa Int:=g.map λp=>rW C g c l p.1
theorem Et (f:Aa Int->D):∀ bs:Aa (Aa Int),sM (bs.map λl=>(l.map (Sum.inl:Int->hI),f l))=bs.map nF
 | []=>rfl
 | b::bs=>by
  show D.t ((b.map (Sum.inl:Int->hI)).map Gx)::sM (bs.map λl=>(l.map (Sum.inl:Int->hI),f l))=_;rw[Et f bs,aF];rfl
theorem Vy (f:Aa Int->D):∀ {bs:Aa (Aa Int)},b∈bs->lW (bs.map λl=>(l.map (Sum.inl:Int->hI),f l)) (b.map Sum.inl)=some (f b)
 | [],h=>(bJ h).elim
 | c::bs,h=>by
  unfold lW;rw[aP,cZ];by_cases e:c=b
  .subst e;simp
  .have:¬ c.map (Sum.inl:Int->hI)=b.map Sum.inl:=λz=>e (L0 z)
   rw[bR this];exact Vy f ((aI.mp h).resolve_left λz=>e z.symm)
theorem Gj (f:Aa Int->D){b:Aa Int}{bs:Aa (Aa Int)}(h:b∈bs):yN (.T (bs.map λl=>(l.map (Sum.inl:Int->hI),f l))) (nF b)=some (some (f b)):=by
 show (uO (b.map D.int)).map _=_;rw[Ii,Option.map_some,Vy f h]
theorem J4:∀ {n:Nat}{b:Aa Int},b.length=n->(∀ x∈b,x=0\/x=1)->b∈mD n
 | 0,[],_,_=>aZ.mpr rfl
 | 0,_::_,e,_=>by cases e
 | n+1,[],e,_=>by cases e
 | n+1,x::b,e,h=>by
  have a:=J4 (n:=n) (b:=b) (by simpa using e) λy c=>h y (aM _ c)
  unfold mD;rcases h x aH with rfl | rfl
  .exact aL _ (eY a)
  .exact aJ _ (eY a)
theorem Tg (j:RwOk C g) (o:c∈mD g.length) (r:l∈mD (wIns C g).length):Az C g c l∈mD g.length:=by
 obtain⟨a,b⟩:=vJ o;obtain⟨i,k⟩:=vJ r;obtain⟨_,_,d⟩:=Lj j a i b k;refine J4 (by unfold Az;rw[List.length_map]) λx f=>?_
 obtain⟨p,e,rfl⟩:=aE.mp f;exact Fh j.gc (λy h=>(d y h).2) p.1 (j.m p e).1
abbrev sI (C:Cel) (g:Aa (Af×Af)) (c l:Aa Int):Aa Int:=Az C g c l
def pY (C:Cel) (g:Aa (Af×Af)) (t:lZ) (c l:Aa Int):Int:=qR C g t (rW C g c l)
def xM (C:Cel) (g:Aa (Af×Af)) (t:lZ):Aa Int->Aa (Aa Int)->Int
 | _,[]=>0
 | c,l::a=>pY C g t c l+2*xM C g t (sI C g c l) a
def pT:Ab Int->Aa (Ab Int)->Ab Int
 | f,[]=>f
 | _,none::_=>none
 | none,some w::r=>pT (some w) r
 | some v,some w::r=>if v=w then pT (some w) r else none
theorem Q4:∀ (j:Aa (Ab Int)) (v g:Int),pT (some v) j=some g↔g=v/\∀ x∈j,x=some v
 | [],v,g=>by
  show some v=some g↔_;constructor
  .intro h;exact⟨(bN h).symm,λx a=>absurd a (by simp)⟩
  .rintro ⟨rfl,_⟩;rfl
 | none::r,v,g=>by
  show none=some g↔_;constructor
  .intro h;cases h
  .rintro ⟨_,h⟩;have:=h none aH;cases this
 | some w::r,v,g=>by
  show (if v=w then pT (some w) r else none)=some g↔_;by_cases e:v=w
  .subst e;rw[aT rfl,Q4 r v g];constructor
   .rintro ⟨b,c⟩;exact⟨b,λx a=>(aI.mp a).elim id (c x)⟩
   .rintro ⟨b,c⟩;exact⟨b,λx a=>c x (aM _ a)⟩
  .rw[aN e];constructor
   .intro h;cases h
   .rintro ⟨_,h⟩;have:=bN (h (some w) aH);exact absurd this.symm e
theorem NS (j:g≠[]) (v:Int):pT none g=some v↔∀ x∈g,x=some v:=by
 cases g with
 | nil=>exact absurd rfl j
 | cons a r =>
  cases a with
  | none =>
   show none=some v↔_;constructor
   .intro h;cases h
   .intro h;have:=h none aH;cases this
  | some w =>
   show pT (some w) r=some v↔_;rw[Q4];constructor
   .rintro ⟨rfl,h⟩ x b;exact (aI.mp b).elim id (h x)
   .intro h;have e:=bN (h (some w) aH);exact⟨e.symm,λx b=>by rw[h x (aM _ b),e]⟩
def sm (C:Cel) (g:Aa (Af×Af)) (t:lZ):Nat->Aa Int->Ab Int
 | 0,_=>some 0
 | n+1,c=>pT none ((mD (wIns C g).length).map λl=>(sm C g t n (sI C g c l)).map λb=>pY C g t c l+2*b)
theorem Na (n:Nat):mD n≠[]:=λz=>by
 have:=xT n;rw[z] at this;have p:0<2 ^ n:=Nat.pow_pos (by decide);simp at this;omega
def wT (C:Cel) (g:Aa (Af×Af)) (n:Nat) (j:Aa (Aa Int)):Prop:=j.length=n/\∀ l∈j,l∈mD (wIns C g).length
theorem wT.cons {C:Cel}{g:Aa (Af×Af)}{n:Nat}{l:Aa Int}{j:Aa (Aa Int)}(h:wT C g (n+1) (l::j)):l∈mD (wIns C g).length/\wT C g n j:=⟨h.2 l aH,by have:=h.1;rw[bS] at this;omega,λx a=>h.2 x (aM _ a)⟩
theorem wT.ex (C:Cel) (g:Aa (Af×Af)) (n:Nat):∃ j,wT C g n j:=by
 obtain⟨a,b⟩:∃ a,a∈mD (wIns C g).length:=List.exists_mem_of_ne_nil _ (Na _);exact⟨List.replicate n a,eC,λl c=>by rw[List.eq_of_mem_replicate c];exact b⟩
theorem Mp (C:Cel) (g:Aa (Af×Af)) (t:lZ):∀ (n:Nat) (c:Aa Int) (v:Int),sm C g t n c=some v↔∀ j,wT C g n j->xM C g t c j=v
 | 0,c,v=>by
  show some 0=some v↔_;constructor
  .intro h j hw;have:j=[]:=List.length_eq_zero_iff.mp hw.1;subst this;exact bN h
  .intro h;have:=h [] ⟨rfl,λ_ z=>absurd z (by simp)⟩;exact bY some this
 | n+1,c,v=>by
  show pT none _=some v↔_;rw[NS (by rw[Ne,List.map_eq_nil_iff];exact Na _)];constructor
  .intro h j hw;cases j with
   | nil=>have:=hw.1;simp at this
   | cons l j =>
    obtain⟨d,f⟩:=hw.cons;have e:=h _ (aE.mpr ⟨l,d,rfl⟩);cases a:sm C g t n (sI C g c l) with
    | none=>rw[a] at e;cases e
    | some b =>
     rw[a] at e;have e:pY C g t c l+2*b=v:=bN e;show pY C g t c l+2*xM C g t (sI C g c l) j=v;rw[(Mp C g t n _ b).mp a j f,e]
  .intro h x k;obtain⟨l,d,rfl⟩:=aE.mp k;obtain⟨m,i⟩:=wT.ex C g n;have cons:∀ j,wT C g n j->wT C g (n+1) (l::j):=λj hw=>⟨by rw[bS,hw.1],λx k=>(aI.mp k).elim (λz=>z▸d) (hw.2 x)⟩
   have v0:pY C g t c l+2*xM C g t (sI C g c l) m=v:=h _ (cons m i);have a:sm C g t n (sI C g c l)=some (xM C g t (sI C g c l) m):=(Mp C g t n _ _).mpr λj hw=>by
    have v1:pY C g t c l+2*xM C g t (sI C g c l) j=v:=h _ (cons j hw);omega
   rw[a];exact bY some v0
noncomputable def mK (g:Af->Int) (u:Nat->Af->Int):Nat->Af×Af->Int
 | 0,p=>g p.2
 | j+1,p=>u j p.1
def mV (C:Cel) (g:Aa (Af×Af)) (u:Nat->Af->Int) (W:Nat):lZ:=(wOuts C g).map λo=>(o,sN (λj=>2 ^ j*u j o) W)
def nX (g:Aa (Af×Af)) (l:Af->Int) (u:Nat->Af->Int) (j:Nat):lZ:=g.map λp=>(p.2,mK l u j p)
structure RowOk (C:Cel) (prs:List (Str×Str)):Prop where
 gc:GC C
 n1:(prs.map (·.1)).Nodup
 n2:(prs.map (·.2)).Nodup
 o:∀ p∈prs,p.1∈C.outs
 lp:prs.length<=100
structure RunOk (C:Cel) (prs:List (Str×Str)) (W:Nat) (wf ef:Str->Int) (u:Nat->Str->Int) (ρ:Nat->Str->Int):Prop where
 e:∀ p∈prs,mH (ef p.2)
 uu:∀ j,j<W->u j=oX C (ρ j)
 w:∀ j,j<W->∀ x∈wIns C prs,ρ j x=wf x/2 ^ j%2
 c:∀ j,j<W->∀ p∈prs,ρ j p.2=mK ef u j p
theorem RunOk.bits {W:Nat}(R:RowOk C g) (h:RunOk C g W wf r u l):∀ j,j<W->(∀ x∈C.ins,mH (l j x))/\∀ o∈C.outs,mH (u j o)
 | j,a=>by
  have key:∀ x∈C.ins,mH (l j x):=λx f=>by
   by_cases q:x∈g.map (·.2)
   .obtain⟨p,b,rfl⟩:=aE.mp q;rw[h.c j a p b];cases j with
    | zero=>exact h.e p b
    | succ j=>exact (h.bits R j (by omega)).2 p.1 (R.o p b)
   .rw[h.w j a x (bT.mpr ⟨f,by rw[bR q];rfl⟩)];have:=dU (wf x/2 ^ j) (show (2:Int)≠0 by decide);have:=dF (wf x/2 ^ j) (show (0:Int)<2 by decide);unfold mH;omega
  refine⟨key,λo d=>?_⟩;rw[h.uu j a];exact Fh R.gc key o d
theorem yY (g:GC C):(wIns C j).Nodup:=(bB.mp g.nd).1.filter _
theorem Bq (g:GC C):(wOuts C prs).Nodup:=g.ond.filter _
theorem A8 {g:Aa Af}{v:Af->Int}:(g.map λx=>(x,v x)).map (·.1)=g:=by simp[cI]
theorem EJ (h:g[i]?=some (.o d)) (k:j (.v d) (g.set i (.v d))):vd i l g j:=by
 unfold vd;rw[h];exact k
noncomputable def uF (os:Aa Af) (a b:Af->Int) (n:Nat):lZ:=(os.take n).map (λo=>(o,b o))++(os.drop n).map λo=>(o,a o)
theorem Ha (os:Aa Af) (a b:Af->Int) (n:Nat):(uF os a b n).map (·.1)=os:=by
 unfold uF;rw[aR,A8,A8,eD]
theorem Yc {os:Aa Af}(g:os.Nodup) (h:os[n]?=some o):gD (uF os a b n) o=a o/\qA (uF os a b n) o (b o)=uF os a b (n+1):=by
 obtain⟨t,q⟩:=aU.mp h;have e:os.drop n=o::os.drop (n+1):=by rw[iP t,q]
 have k:os.take (n+1)=os.take n++[o]:=by rw[cL,h];rfl
 have i:os=os.take n++o::os.drop (n+1):=by rw[<- e,eD]
 have c:=g;rw[i] at c;have f:o∉os.take n:=λz=>(bB.mp c).2.2 o z o aH rfl
 have m:o∉os.drop (n+1):=(cD.mp (bB.mp c).2.1).1;constructor
 .unfold uF;rw[B7,A8,aN f,e,aP,qC,aT rfl]
 .unfold qA;rw[aT (by rw[Ha];exact aO h)];unfold uF;rw[k,e,aR,aR,aP,aP,bM];have same:∀ (d:Aa Af) (v:Af->Int),o∉d->(d.map λx=>(x,v x)).map (λp=>if p.1=o then (p.1,b o) else p)=d.map λx=>(x,v x):=λd v u=>by
   rw[aF];refine bL λx s=>?_
   have ne:¬ x=o:=λz=>u (by rw[<- z];exact s)
   show (if x=o then (x,b o) else (x,v x))=_;rw[aN ne]
  rw[same _ _ f,same _ _ m];show _++(if o=o then _ else _)::_=_;rw[aT rfl];rfl
def sP (C:Cel) (g:Aa (Af×Af)) (wf:Af->Int) (j:Nat):Aa Int:=(wIns C g).map λx=>wf x/2 ^ j%2
def vZ (C:Cel) (g:Aa (Af×Af)) (wf l:Af->Int):Nat->Aa Int
 | 0=>g.map λp=>l p.2
 | j+1=>Az C g (vZ C g wf l j) (sP C g wf j)
def uB (C:Cel) (g:Aa (Af×Af)) (wf l:Af->Int) (j:Nat):Af->Int:=rW C g (vZ C g wf l j) (sP C g wf j)
def rB (C:Cel) (g:Aa (Af×Af)) (wf l:Af->Int) (j:Nat):Af->Int:=gD (rY C g (vZ C g wf l j) (sP C g wf j))
theorem Kx (C:Cel) (g:Aa (Af×Af)) (wf l:Af->Int):∀ j,vZ C g wf l j=g.map λp=>mK l (uB C g wf l) j p
 | 0=>rfl
 | j+1=>rfl
theorem Tv (C:Cel) (j:Aa (Af×Af)) (f:Af×Af->Int) (g:Af->Int):rY C j (j.map f) ((wIns C j).map g)=(j.map λp=>(p.2,f p))++(wIns C j).map λx=>(x,g x):=by
 unfold rY;rw[lH (by simp),List.zip_map',<- fO (wIns C j),aF,List.zip_map'];simp
theorem T4 (r:(g.map (·.2)).Nodup) (o:p∈g):rB C g wf l j p.2=mK l (uB C g wf l) j p:=by
 unfold rB;have a:(g.map λp=>(p.2,mK l (uB C g wf l) j p)).map (·.1)=g.map (·.2):=by simp[cI]
 rw[Kx,show sP C g wf j=(wIns C g).map λx=>wf x/2 ^ j%2 from rfl,Tv,B7,a,aT (aE.mpr ⟨p,o,rfl⟩)];exact rM (p:=(p.2,mK l (uB C g wf l) j p)) (by rw[a];exact r) (aE.mpr ⟨p,o,rfl⟩)
theorem Vf (o:x∈wIns C g):rB C g wf l j x=wf x/2 ^ j%2:=by
 unfold rB;have a:(g.map λp=>(p.2,mK l (uB C g wf l) j p)).map (·.1)=g.map (·.2):=by simp[cI]
 have b:x∉g.map (·.2):=λz=>by
  have:=(bT.mp o).2;rw[cB z] at this;cases this
 rw[Kx,show sP C g wf j=(wIns C g).map λx=>wf x/2 ^ j%2 from rfl,Tv,B7,a,aN b];exact Jx o
theorem vA (h:RwOk C g) (o:∀ p∈g,mH (l p.2)) (W:Nat):RunOk C g W wf l (uB C g wf l) (rB C g wf l):=⟨o,λj _=>rfl,λj _ x b=>Vf b,λj _ p a=>T4 h.n2 a⟩
theorem Hv {j:Type}{f g h:j->Int}{k:Int}:∀ {xs:Aa j},(∀ x∈xs,f x=g x+k*h x)->(xs.map f).sum=(xs.map g).sum+k*(xs.map h).sum
 | [],_=>by simp
 | x::r,e=>by
  rw[aP,aP,aP,dX,dX,dX,Hv λy a=>e y (aM _ a),e x aH,jK];omega
theorem Cp {g:Type}{f:g->Int}:∀ {xs:Aa g},(∀ x∈xs,f x=0)->(xs.map f).sum=0
 | [],_=>rfl
 | x::r,h=>by rw[aP,dX,h x aH,Cp λy a=>h y (aM _ a)];rfl
theorem Q5 (a:Int) (g:0<=a):∀ W,sN (λj=>2 ^ j*(a/2 ^ j%2)) W=a%2 ^ W
 | 0=>by show (0:Int)=a%2 ^ 0;rw[Int.pow_zero,Int.emod_one]
 | W+1=>by
  show sN (λj=>2 ^ j*(a/2 ^ j%2)) W+2 ^ W*(a/2 ^ W%2)=_;rw[Q5 a g W,lG];have e:(0:Int)<2 ^ W:=jZ (by decide);have f:=iC a (2 ^ W);have b:=iC (a/2 ^ W) 2;have c:a/(2 ^ W*2)=a/2 ^ W/2:=(Int.ediv_ediv_of_nonneg (Int.le_of_lt e)).symm;have d:=iC a (2 ^ W*2);rw[c] at d;have h:(2:Int) ^ W*(a/2 ^ W)=2 ^ W*(a/2 ^ W%2)+2 ^ W*2*(a/2 ^ W/2):=by
   rw[iW,<- jK,b]
  omega
def zZ (C:Cel) (g:Aa (Af×Af)) (t:lZ) (wf l:Af->Int) (u:Nat->Af->Int) (W:Nat):Int:=gD t "" * (2 ^ W-1)+((wIns C g).map λx=>gD t x*sN (λj=>2 ^ j*(wf x/2 ^ j%2)) W).sum+((wOuts C g).map λo=>gD t o*sN (λj=>2 ^ j*u j o) W).sum+(g.map λp=>gD t p.2*(l p.2-mK l u W p*2 ^ W)).sum
theorem BB (h:RwOk C l) (t:lZ) (wf r:Af->Int) (W:Nat):zZ C l t wf r (uB C l wf r) (W+1)=zZ C l t wf r (uB C l wf r) W+2 ^ W*qR C l t (uB C l wf r W):=by
 have n:∀ x∈C.ins,uB C l wf r W x=rB C l wf r W x:=λx e=>E4 h.gc _ e
 have i:(2:Int) ^ (W+1)=2 ^ W*2:=lG _ _;unfold zZ qR;rw[aR,lK,Hv (k:=2 ^ W) (g:=λx=>gD t x*sN (λj=>2 ^ j*(wf x/2 ^ j%2)) W) (h:=λx=>gD t x*uB C l wf r W x) (xs:=wIns C l) (λx e=>?_),Hv (k:=2 ^ W) (g:=λo=>gD t o*sN (λj=>2 ^ j*uB C l wf r j o) W) (h:=λx=>gD t x*uB C l wf r W x) (xs:=wOuts C l) (λx e=>?_),Hv (k:=2 ^ W) (g:=λp=>gD t p.2*(r p.2-mK r (uB C l wf r) W p*2 ^ W)) (h:=λp=>gD t p.2*(uB C l wf r W p.2-2*uB C l wf r W p.1)) (xs:=l) (λp f=>?_),i]
 .simp only[jK,Int.mul_sub,Int.mul_one];rw[show gD t "" * (2 ^ W*2)=gD t "" * 2 ^ W+2 ^ W*gD t "" by rw[jQ (2 ^ W) (gD t ""),<- iW];omega];omega
 .rw[n _ (h.m p f).2,T4 h.n2 f,i];show gD t p.2*(r p.2-uB C l wf r W p.1*(2 ^ W*2))=_;generalize uB C l wf r W p.1=a;generalize mK r (uB C l wf r) W p=b;generalize r p.2=c;generalize gD t p.2=d;generalize (2:Int) ^ W=k;have:k*(d*(b-2*a))=d*(b*k-a*(k*2)):=by
   rw[gG,Int.mul_sub,jQ k b,gG k 2 a,jQ k a,gG a k 2,jQ 2 (a*k),iW a k 2,gG k a 2]
  rw[this,<- jK]
  congr 1
  omega
 .show gD t x*(sN (λj=>2 ^ j*uB C l wf r j x) W+2 ^ W*uB C l wf r W x)=_;rw[jK,gG]
 .show gD t x*(sN (λj=>2 ^ j*(wf x/2 ^ j%2)) W+2 ^ W*(wf x/2 ^ W%2))=_;rw[jK,gG,n x (bT.mp e).1,Vf e]
theorem Ob (h:RwOk C g) (t:lZ) (wf l:Af->Int):∀ W,zZ C g t wf l (uB C g wf l) W=sN (λj=>2 ^ j*qR C g t (uB C g wf l j)) W
 | 0=>by
  unfold zZ;have a:((wIns C g).map λx=>gD t x*sN (λj=>2 ^ j*(wf x/2 ^ j%2)) 0).sum=0:=Cp λx _=>kM _
  have b:((wOuts C g).map λo=>gD t o*sN (λj=>2 ^ j*uB C g wf l j o) 0).sum=0:=Cp λx _=>kM _
  have c:(g.map λp=>gD t p.2*(l p.2-mK l (uB C g wf l) 0 p*2 ^ 0)).sum=0:=Cp λp _=>by
   show _*(l p.2-l p.2*2 ^ 0)=0;rw[Int.pow_zero,Int.mul_one,Int.sub_self,kM]
  rw[a,b,c];show gD t "" * (2 ^ 0-1)+0+0+0=0;rw[Int.pow_zero];simp
 | W+1=>by rw[BB h,Ob h t wf l W];rfl
theorem NM (a:Int) (h:j<low):a%2 ^ low/2 ^ j%2=a/2 ^ j%2:=by
 obtain⟨m,rfl⟩:∃ m,low=j+(m+1):=⟨low-j-1,by omega⟩;have d:(2:Int) ^ j≠0:=Int.ne_of_gt (jZ (by decide));have e:a%2 ^ (j+(m+1))=a+2 ^ j*(2*(-(2 ^ m*(a/2 ^ (j+(m+1)))))):=by
  have f:=iC a (2 ^ (j+(m+1)));have b:(2:Int) ^ (j+(m+1))=2 ^ j*(2*2 ^ m):=by rw[Int.pow_add,lG,jQ (2 ^ m) 2]
  have c:(2:Int) ^ j*(2*(-(2 ^ m*(a/2 ^ (j+(m+1)))))) = -(2 ^ j*(2*2 ^ m)*(a/2 ^ (j+(m+1)))):=by
   rw[Int.mul_neg,Int.mul_neg,iW,iW]
  rw[c,<- b];omega
 rw[e,Int.add_mul_ediv_left _ _ d,Int.add_mul_emod_self_left]
theorem CF (a:Int) (j low:Nat):a/2 ^ low/2 ^ j=a/2 ^ (low+j):=by
 rw[Int.ediv_ediv_of_nonneg (Int.le_of_lt (jZ (by decide))),Int.pow_add]
section
theorem Q0 (h:∀ x∈wIns C g,l x=wf x%2 ^ low) (o:j<low):sP C g l j=sP C g wf j:=by
 unfold sP;exact bL λx a=>by rw[h x a,NM _ o]
theorem Ol (h:∀ x∈wIns C g,l x=wf x%2 ^ low):∀ j,j<=low->vZ C g l o j=vZ C g wf o j
 | 0,_=>rfl
 | j+1,a=>by
  show Az C g (vZ C g l o j) (sP C g l j)=_;rw[Ol h j (by omega),Q0 h (by omega)];rfl
theorem Uq (h:∀ x∈wIns C g,l x=wf x%2 ^ low) (p:j<low):uB C g l o j=uB C g wf o j:=by
 unfold uB;rw[Ol h j (by omega),Q0 h p]
theorem AZ (h:∀ x∈wIns C g,o x=wf x%2 ^ low) (p:Af×Af):mK l (uB C g o l) low p=mK l (uB C g wf l) low p:=by
 cases low with
 | zero=>rfl
 | succ j=>show uB C g o l j p.1=uB C g wf l j p.1;rw[Uq h (by omega)]
theorem EL (h:∀ x∈wIns C g,l x=wf x/2 ^ low) (I:∀ p∈g,o p.2=mK r (uB C g wf r) low p):∀ j,vZ C g l o j=vZ C g wf r (low+j)/\sP C g l j=sP C g wf (low+j):=by
 have a:∀ j,sP C g l j=sP C g wf (low+j):=λj=>by
  unfold sP;exact bL λx b=>by rw[h x b,CF]
 intro j;refine⟨?_,a j⟩;induction j with
 | zero=>rw[Nat.add_zero,Kx C g wf r low];exact bL I
 | succ j c =>
  show Az C g (vZ C g l o j) (sP C g l j)=_;rw[c,a j];rfl
theorem Nv (h:∀ x∈wIns C g,o x=wf x/2 ^ low) (I:∀ p∈g,l p.2=mK r (uB C g wf r) low p) (j:Nat):uB C g o l j=uB C g wf r (low+j):=by
 obtain⟨a,b⟩:=EL h I j;unfold uB;rw[a,b]
theorem NU (h:∀ x∈wIns C g,l x=wf x/2 ^ low) (r:∀ p∈g,j p.2=mK o (uB C g wf o) low p) (I:p∈g):∀ m,mK j (uB C g l j) m p=mK o (uB C g wf o) (low+m) p
 | 0=>r p I
 | m+1=>by show uB C g l j m p.1=uB C g wf o (low+m) p.1;rw[Nv h r]
end
theorem Oy (f:Nat->Int) (low:Nat):∀ m,sN f (low+m)=sN f low+sN (λj=>f (low+j)) m
 | 0=>(hU _).symm
 | m+1=>by
  show sN f (low+m)+f (low+m)=_;rw[Oy f low m];show _=sN f low+(sN (λj=>f (low+j)) m+f (low+m));omega
theorem Qm (k:Int) (f:Nat->Int):∀ n,sN (λj=>k*f j) n=k*sN f n
 | 0=>(kM _).symm
 | n+1=>by
  show sN (λj=>k*f j) n+k*f n=k*(sN f n+f n);rw[Qm k f n,jK]
theorem EG {f:Nat->Int}(low m:Nat):sN (λj=>2 ^ j*f j) low+sN (λj=>2 ^ j*f (low+j)) m*2 ^ low=sN (λj=>2 ^ j*f j) (low+m):=by
 rw[Oy,jQ _ (2 ^ low),<- Qm]
 congr 1
 refine Bl m λi _=>?_
 rw[Int.pow_add,iW]
def L6 (r:Af->Af) (g:Aa Af):Prop:=∀ x∈g,∀ y∈g,r x=r y->x=y
theorem Ji:∀ (l:Aa (Af×Af×Aa Af)) (kn:Aa Af) (o j:Af->Int),nC kn l->L6 r (kn++l.map (·.1))->(∀ x∈kn,j (r x)=o x)->∀ x∈kn++l.map (·.1),pV j (l.map (ren r)) (r x)=pV o l x
 | [],kn,o,j,_,_,h,x,a=>by simpa [pV] using h x (by simpa using a)
 | g::l,kn,o,j,ok,inj,h,x,a=>by
  have c:kn++(g::l).map (·.1)=(kn++[g.1])++l.map (·.1):=by simp
  rw[c] at inj a;have i:=Ji l (kn++[g.1]) (Di o g) (Di j (ren r g)) ok.2.2 inj (λy b=>?_) x a
  .exact i
  .unfold Di;have d:((ren r g).2.2.map j)=g.2.2.map o:=by
    show (g.2.2.map r).map j=_;rw[aF];exact bL λz f=>h z (ok.2.1 z f)
   by_cases z:y=g.1
   .subst z;rw[aT (show r g.1=(ren r g).1 from rfl),aT rfl,d];rfl
   .have e:¬ r y=(ren r g).1:=λq=>z (inj y (aL _ b) g.1 (by simp) q)
    rw[aN e,aN z];rcases aV.mp b with q | q
    .exact h y q
    .exact absurd (aZ.mp q) z
structure Rnd (C C':Cel) (prs prs':List (Str×Str)) (r:Str->Str):Prop where
 inj:L6 r C.names
 ins:C'.ins.Perm (C.ins.map r)
 gates:C'.gates=C.gates.map (ren r)
 outs:C'.outs.Perm (C.outs.map r)
 prs:prs'.Perm (prs.map λp=>(r p.1,r p.2))
section
variable {C C':Cel}{prs prs':Aa (Af×Af)}{r:Af->Af}
theorem Rnd.eval (h:Rnd C C' prs prs' r) (R:RwOk C prs) (e:∀ x∈C.ins,ρ' (r x)=ρ x):∀ x∈C.names,oX C' ρ' (r x)=oX C ρ x:=λx a=>by
 unfold oX;rw[h.gates];exact Ji C.gates C.ins ρ ρ' R.gc.gt h.inj e x a
theorem Rnd.inN (R:RwOk C prs) (g:x∈C.ins):x∈C.names:=aL _ g
theorem Rnd.snd (h:Rnd C C' prs prs' r) (R:RwOk C prs) (g:x∈C.ins):r x∈prs'.map (·.2)↔x∈prs.map (·.2):=by
 constructor
 .intro z;obtain⟨p,b,e⟩:=aE.mp z;obtain⟨q,a,rfl⟩:=aE.mp (h.prs.mem_iff.mp b);have:=h.inj q.2 (Rnd.inN R (R.m q a).2) x (Rnd.inN R g) e;exact aE.mpr ⟨q,a,this⟩
 .intro z;obtain⟨q,a,rfl⟩:=aE.mp z;exact aE.mpr ⟨(r q.1,r q.2),h.prs.mem_iff.mpr (aE.mpr ⟨q,a,rfl⟩),rfl⟩
theorem Rnd.fst (h:Rnd C C' prs prs' r) (R:RwOk C prs) (g:x∈C.outs):r x∈prs'.map (·.1)↔x∈prs.map (·.1):=by
 constructor
 .intro z;obtain⟨p,b,e⟩:=aE.mp z;obtain⟨q,a,rfl⟩:=aE.mp (h.prs.mem_iff.mp b);have:=h.inj q.1 (R.gc.os _ (R.m q a).1) x (R.gc.os _ g) e;exact aE.mpr ⟨q,a,this⟩
 .intro z;obtain⟨q,a,rfl⟩:=aE.mp z;exact aE.mpr ⟨(r q.1,r q.2),h.prs.mem_iff.mpr (aE.mpr ⟨q,a,rfl⟩),rfl⟩
theorem Rnd.wIns (h:Rnd C C' prs prs' r) (R:RwOk C prs):(wIns C' prs').Perm ((wIns C prs).map r):=by
 unfold Lw.wIns;refine (h.ins.filter _).trans (kJ ?_);rw[List.filter_map];refine bY (List.map r) (List.filter_congr λx a=>?_);simp only[Function.comp,h.snd R a]
theorem Rnd.wOuts (h:Rnd C C' prs prs' r) (R:RwOk C prs):(wOuts C' prs').Perm ((wOuts C prs).map r):=by
 unfold Lw.wOuts;refine (h.outs.filter _).trans (kJ ?_);rw[List.filter_map];refine bY (List.map r) (List.filter_congr λx a=>?_);simp only[Function.comp,h.fst R a]
theorem Rnd.run (h:Rnd C C' prs prs' r) (R:RwOk C prs) (T:RwOk C' prs') (hw:∀ x∈Lw.wIns C prs,l (r x)=wf x) (I:∀ p∈prs,g (r p.2)=o p.2) (J:∀ p∈prs,mH (o p.2)) :
  ∀ j,(∀ p∈prs,mK g (uB C' prs' l g) j (r p.1,r p.2)=mK o (uB C prs wf o) j p)/\∀ x∈C.names,uB C' prs' l g j (r x)=uB C prs wf o j x:=by
 have e:∀ p∈prs',mH (g p.2):=λp a=>by
  obtain⟨q,b,rfl⟩:=aE.mp (h.prs.mem_iff.mp a);show mH (g (r q.2));rw[I q b];exact J q b
 have step:∀ j,(∀ p∈prs,mK g (uB C' prs' l g) j (r p.1,r p.2)=mK o (uB C prs wf o) j p)->∀ x∈C.names,uB C' prs' l g j (r x)=uB C prs wf o j x:=λj d=>by
  have i:=vA R (wf:=wf) J (j+1);have k:=vA T (wf:=l) e (j+1);rw[i.uu j (by omega),k.uu j (by omega)];refine h.eval R λx n=>?_
  by_cases a:x∈prs.map (·.2)
  .obtain⟨p,b,rfl⟩:=aE.mp a;have t:(r p.1,r p.2)∈prs':=h.prs.mem_iff.mpr (aE.mpr ⟨p,b,rfl⟩);rw[i.c j (by omega) p b,k.c j (by omega) _ t,d p b]
  .have f:x∈Lw.wIns C prs:=bT.mpr ⟨n,by simpa using a⟩;rw[i.w j (by omega) x f,k.w j (by omega) (r x) ((h.wIns R).mem_iff.mpr (aE.mpr ⟨x,f,rfl⟩)),hw x f]
 intro j;induction j with
 | zero=>exact⟨I,step 0 I⟩
 | succ j s =>
  have d:∀ p∈prs,mK g (uB C' prs' l g) (j+1) (r p.1,r p.2)=mK o (uB C prs wf o) (j+1) p:=λp a=>s.2 p.1 (R.gc.os _ (R.m p a).1)
  exact⟨d,step (j+1) d⟩
end
section
variable {C C':Cel}{prs prs':Aa (Af×Af)}{r:Af->Af}{wf ef wf' ef':Af->Int}
theorem Rnd.outs_are (h:Rnd C C' prs prs' r) (R:RwOk C prs) (g:RwOk C' prs') (hw:∀ x∈Lw.wIns C prs,wf' (r x)=wf x) (I:∀ p∈prs,ef' (r p.2)=ef p.2) (l:∀ p∈prs,mH (ef p.2)) (W:Nat) :
  (mV C' prs' (uB C' prs' wf' ef') W).Perm ((mV C prs (uB C prs wf ef) W).map λp=>(r p.1,p.2)):=by
 unfold mV;refine ((h.wOuts R).map _).trans (kJ ?_);rw[aF,aF];refine bL λo a=>?_
 show (r o,_)=(r o,_);rw[Bl W λj _=>by rw[(h.run R g hw I l j).2 o (R.gc.os _ (bT.mp a).1)]]
theorem Rnd.ends_are (h:Rnd C C' prs prs' r) (R:RwOk C prs) (g:RwOk C' prs') (hw:∀ x∈Lw.wIns C prs,wf' (r x)=wf x) (l:∀ p∈prs,ef' (r p.2)=ef p.2) (j:∀ p∈prs,mH (ef p.2)) (W:Nat) :
  (prs'.map λp=>(p.1,mK ef' (uB C' prs' wf' ef') W p)).Perm ((prs.map λp=>(p.1,mK ef (uB C prs wf ef) W p)).map λp=>(r p.1,p.2)):=by
 refine (h.prs.map _).trans (kJ ?_);rw[aF,aF];refine bL λp a=>?_
 show (r p.1,_)=(r p.1,_);rw[(h.run R g hw l j W).1 p a]
end
def zG (x:Af):Af:=if x = "-" then "" else x
def zX (k:Kit):lZ:=(qF k).map λp=>(zG p.1,p.2)
def vD (k:Kit):Cel:=⟨kI k,(kG k).map mE,kO k⟩
theorem Zw:(oN.all λk=>(mD (kI k).length).all λb=>decide (qR (vD k) (mS (kP k)) (zX k) (oX (vD k) (gD ((kI k).zip b)))=0))=true:=by decide +kernel
theorem LF (j:Aa (Af×Af×Aa Af)):j.map (ren id)=j:=by
 rw[show (ren id)=id from funext λg=>by unfold ren;rw[List.map_id];rfl,fO]
theorem U2 {kn:Aa Af}(ok:nC kn j) (h:∀ x∈kn,g x=l x):∀ x∈kn++j.map (·.1),pV g j x=pV l j x:=λx a=>by
 have:=Ji (r:=id) j kn l g ok (λx _ y _ e=>e) h x a;rw[LF] at this;exact this
theorem Oc (g:∀ x∈C.ins,o x=u x) (j:∀ x∈C.outs,o x=u x) (l:∀ p∈prs,p.1∈C.outs/\p.2∈C.ins):qR C prs t o=qR C prs t u:=by
 unfold qR
 congr 1
 .congr 1
  refine bY List.sum (bL λx a=>?_);rcases aV.mp a with q | q
  .rw[g x (bT.mp q).1]
  .rw[j x (bT.mp q).1]
 .refine bY List.sum (bL λp h=>?_);rw[g _ (l p h).2,j _ (l p h).1]
theorem Ug {l m:Aa Int}(h:l.Perm m):l.sum=m.sum:=by
 induction h with
 | nil=>rfl
 | cons x _ c=>rw[dX,dX,c]
 | swap x y l=>simp only[dX];omega
 | trans _ _ a b=>exact a.trans b
theorem MP (h:Rnd C I j g r) (R:RwOk C j) (U:gD o "" = gD t "") (T:∀ x∈C.names,gD o (r x)=gD t x) (J:∀ x∈C.names,l (r x)=u x):qR I g o l=qR C j t u:=by
 unfold qR;rw[U];have c:((wIns I g++wOuts I g).map λx=>gD o x*l x).Perm (((wIns C j++wOuts C j).map r).map λx=>gD o x*l x):=by
  rw[aR (f:=r)];exact ((h.wIns R).append (h.wOuts R)).map _
 have d:=h.prs.map λp=>gD o p.2*(l p.2-2*l p.1)
 rw[Ug c,Ug d,aF,aF]
 congr 1
 .congr 1
  refine bY List.sum (bL λx q=>?_);have:x∈C.names:=by
   rcases aV.mp q with q | q
   .exact aL _ (bT.mp q).1
   .exact R.gc.os _ (bT.mp q).1
  show gD o (r x)*l (r x)=_;rw[T x this,J x this]
 .refine bY List.sum (bL λp q=>?_);have a:=R.gc.os _ (R.m p q).1;have b:p.2∈C.names:=aL _ (R.m p q).2;show gD o (r p.2)*(l (r p.2)-2*l (r p.1))=_;rw[T _ b,J _ b,J _ a]
theorem Sg (g:k∈oN):nC (kI k) ((kG k).map mE):=(Bv g).gt
theorem HE (g:k∈oN) (j:∀ x∈kI k,mH (ρ x)):qR (vD k) (mS (kP k)) (zX k) (oX (vD k) ρ)=0:=by
 have b:=Bv g;have f:=cG.mp (cG.mp Zw k g) ((kI k).map ρ) (J4 (by simp) λx a=>by
  obtain⟨y,m,rfl⟩:=aE.mp a;exact j y m)
 have h:=cW f;have n:(kI k).Nodup:=(bB.mp b.nd).1;have e:∀ x∈kI k,ρ x=gD ((kI k).zip ((kI k).map ρ)) x:=λx a=>by
  have z:=S2 (ks:=kI k) (vs:=(kI k).map ρ) n (by simp);exact (List.map_inj_left.mp z x a).symm
 have c:∀ x∈kI k++((kG k).map mE).map (·.1),oX (vD k) ρ x=oX (vD k) (gD ((kI k).zip ((kI k).map ρ))) x:=U2 (Sg g) e;have d:((kG k).map mE).map (·.1)=kH k:=by rw[aF];rfl
 rw[d] at c;rw[<- h];refine Oc (λx a=>c x (aL _ a)) (λx a=>c x (aJ _ (b.oh x a))) λp i=>b.pm p i
theorem Vw:∀ (g j:Aa (Af×Af×Aa Af)) (l:Af->Int),pV l (g++j)=pV (pV l g) j
 | [],_,_=>rfl
 | _::g,j,_=>Vw g j _
theorem Pz:∀ (l:Aa (Af×Af×Aa Af)) (j:Af->Int),x∉l.map (·.1)->pV j l x=j x
 | [],_,_=>rfl
 | g::l,j,h=>by
  show pV (λy=>if y=g.1 then rN g.2.1 (g.2.2.map j) else j y) l x=j x;rw[Pz l _ λz=>h (aM _ z)];exact aN λz=>h (by rw[z];exact aH)
def Bm (C:Cel) (g:Aa (Af×Af)) (t:lZ):Prop:=∀ a:Af->Int,(∀ x∈C.ins,mH (a x))->qR C g t (oX C a)=0
theorem AM (g:k∈oN){oC:Aa (Af×Af×Aa Af)}(R:RwOk ⟨kI k,oC++(kG k).map mE,kO k++ex⟩ (mS (kP k)))
  (h:Rnd ⟨kI k,oC++(kG k).map mE,kO k++ex⟩ l (mS (kP k)) al r) (I:∀ e∈ex,gD (zX k) e=0) (J:gD j "" = gD (zX k) "") (T:∀ x∈kI k++(oC++(kG k).map mE).map (·.1),gD j (r x)=gD (zX k) x):Bm l al j:=λb q=>by
 have c:=Bv g;have n:=h.eval R (ρ:=λx=>b (r x)) (ρ':=b) λ_ _=>rfl
 rw[MP h R J T n];have A:(kI k++(oC++(kG k).map mE).map (·.1)).Nodup:=R.gc.nd;have B:∀ x∈kI k,x∉oC.map (·.1):=λx a z=>(bB.mp A).2.2 x a x (by rw[aR];exact aL _ z) rfl
 have f:((kG k).map mE).map (·.1)=kH k:=by rw[aF];rfl
 have d:∀ x∈kI k++kH k,oX ⟨kI k,oC++(kG k).map mE,kO k++ex⟩ (λx=>b (r x)) x=oX (vD k) (λx=>b (r x)) x:=λx a=>by
  show pV _ (oC++(kG k).map mE) x=_;rw[Vw];exact U2 (Sg g) (λy v=>Pz oC _ (B y v)) x (by rw[f];exact a)
 have bits:∀ x∈kI k,mH (b (r x)):=λx a=>q _ (h.ins.mem_iff.mpr (aE.mpr ⟨x,a,rfl⟩))
 have w:=HE g (ρ:=λx=>b (r x)) bits;rw[<- w,<- Oc (C:=vD k) (prs:=mS (kP k)) (t:=zX k) (λx a=>d x (aL _ a)) (λx a=>d x (aJ _ (c.oh x a))) λp u=>c.pm p u];unfold qR;have i:wIns ⟨kI k,oC++(kG k).map mE,kO k++ex⟩ (mS (kP k))=wIns (vD k) (mS (kP k)):=rfl;have m:wOuts ⟨kI k,oC++(kG k).map mE,kO k++ex⟩ (mS (kP k))=wOuts (vD k) (mS (kP k))++ex.filter (λo=>!decide (o∈(mS (kP k)).map (·.1))):=by
  unfold wOuts;exact List.filter_append ..
 rw[i,m,<- bM,aR,lK,Cp (xs:=ex.filter _) λe s=>by rw[I e (bT.mp s).1,Int.zero_mul],hU]
theorem Qo {x:Af}(g:x ≠ "-") (j:x ≠ ""):∀ t:lZ,gD (t.map λp=>(zG p.1,p.2)) x=gD t x
 | []=>rfl
 | p::t=>by
  rw[aP,qC,qC,Qo g j t];show (if zG p.1=x then p.2 else _)=_;unfold zG;by_cases z:p.1 = "-"
  .rw[aT z,aN (λq=>j q.symm),aN (λq=>g (by rw[<- q];exact z))]
  .rw[aN z]
theorem N1:∀ t:lZ,(∀ p∈t,p.1 ≠ "")->gD (t.map λp=>(zG p.1,p.2)) "" = gD t "-"
 | [],_=>rfl
 | p::t,h=>by
  rw[aP,qC,qC,N1 t λq a=>h q (aM _ a)];show (if zG p.1 = "" then p.2 else _)=_;unfold zG;by_cases z:p.1 = "-"
  .rw[aT z,aT rfl,aT z]
  .rw[aN z,aN (h p aH),aN z]
theorem Pr (g:k∈oN):∀ p∈qF k,p.1∈kI k++kH k\/p.1 = "-" := λp a=>by
 obtain⟨q,b,rfl⟩:=aE.mp a;exact ((Bv g).nm q b).1
theorem E9.hold (g:k∈oN) (h:E9 k C al j):Bm C al j:=by
 obtain⟨d,ex,r,m,gt,f,n,S,D,inj,K,v,L,H,i,M,N⟩:=h;have a:=Bv g;have s:((kG k).map mE).map (·.1)=kH k:=by rw[aF];rfl
 have E:=Hs (kP k) a.pe;have Q:=a.lp;have P:=a.li;have O:=a.lg;have lo:=a.lo;have R:RwOk ⟨kI k,d++(kG k).map mE,kO k++ex⟩ (mS (kP k)):=by
  refine⟨⟨m,gt,λo w=>?_,n,?_,?_,?_⟩,a.p1,a.p2,λp c=>⟨aL _ (a.pm p c).1,(a.pm p c).2⟩,?_,by omega⟩
  .refine aJ _ ?_;show o∈(d++(kG k).map mE).map (·.1);rw[aR,s];rcases aV.mp w with q | q
   .exact aJ _ (a.oh o q)
   .exact aL _ (f o q)
  .show (kI k).length<=40;omega
  .show (d++(kG k).map mE).length<=40;rw[bK,aA];omega
  .show (kO k++ex).length<=40;rw[bK];omega
  .show (kI k).length<=6;omega
 have one:∀ y∈kI k++kH k,y ≠ "" := λy A z=>by have:=(a.one y A).1;rw[z] at this;exact absurd this (by decide)
 have B:∀ p∈qF k,p.1 ≠ "" := λp c z=>by
  rcases Pr g p c with q | q
  .exact one _ q z
  .rw[z] at q;exact absurd q (by decide)
 have u:∀ x∈kI k++(d++(kG k).map mE).map (·.1),gD (zX k) x=gD (qF k) x:=λx b=>Qo (i x b).1 (i x b).2 _
 refine AM g R ⟨inj,K,v,L,H⟩ (λe b=>?_) (M.trans (N1 _ B).symm) λx b=>(N x b).trans (u x b).symm
 have t:e∈kI k++(d++(kG k).map mE).map (·.1):=aJ _ (by rw[aR];exact aL _ (f e b));rw[u e t];refine ((nI (qF k) e).2 λz=>?_).2;obtain⟨p,c,rfl⟩:=aE.mp z;rw[aR,s] at m;obtain⟨V,F,G⟩:=bB.mp m;rcases Pr g p c with q | q
 .rcases aV.mp q with q | q
  .exact G _ q _ (aL _ (f _ b)) rfl
  .exact (bB.mp F).2.2 _ (f _ b) _ q rfl
 .exact (i _ t).1 q
end Lw
namespace L2
open PySem PySem.Spec PyProof.Rows Lw
def F3 (t:TE):TE:=λd H Q=>∃ a b,H a=some (.k b)/\∀ o,t d (upd H a (.frz o (.k b))) λv c=>c a=some (.frz o (.k b))/\Q v (upd c a (.k b))
section
variable {X:Cx}
theorem A6 (h:PE X e t):PE X e (F3 t):=λc s A H Q I b=>by
 obtain⟨a,f,d,k⟩:=b;obtain⟨o,q⟩:∃ o,s.heap.get? a=some o:=by
  obtain⟨_,_,E,_,o,_,_,e,_⟩:=(show nV X.prog X.w H s.heap a (.k f) from I.hok a _ d);exact⟨o,e⟩
 have n:∀ i u,X.H₀ a≠some (.frz i u):=λi u e=>by
  have:=I.base.frzs a i u e;rw[d] at this;cases this
 refine lQ (h c s A _ _ (I.frozenK d q) (k o)) λv D b=>?_
 obtain⟨x,B,m,r,y,z⟩:=b;exact⟨x,_,m.thawedK y n,r,z⟩
end
def F0 (H:Hp) (d:D) (v:V):Prop:=qE d=some v\/∃ (a:Aa (hI×D)) (c:Aa (hI×V)) (b:Ad),d = .k a/\qI (a.map (·.2))=some (c.map (·.2))/\a.map (·.1)=c.map (·.1)/\v = .ref b/\Rd H b (.k c)
def F1 (H:Hp) (d:D) (v:V):Prop:=F0 H d v\/∃ (a:Aa D) (c:Aa V) (b:Ad),d = .t a/\v = .ref b/\H b=some (.t c)/\Paired (F0 H) a c
def zU (d:D):Prop:=(∃ v,qE d=some v)\/∃ a b,d = .k a/\qI (a.map (·.2))=some b
def wO (d:D):Prop:=zU d\/∃ a,d = .t a/\∀ c∈a,zU c
def Fz (H g:Hp):Prop:=(∀ b c,H b=some (.t c)->g b=some (.t c))/\∀ b a,H b=some (.k a)->Rd g b (.k a)
section
variable {K:lL}
theorem mU.f0 (z:Fz H g) (o:zU d) (h:mU K A H d v):F0 g d v:=by
 rcases o with⟨u,b⟩ | ⟨c,k,rfl,b⟩
 .obtain⟨rfl,_⟩:=L5 b h;exact .inl b
 .obtain⟨a,f,rfl,i,e,r⟩:=h.dK_inv;obtain⟨q,_⟩:=Jc b r;exact .inr ⟨c,f,a,rfl,by rw[q];exact b,e,rfl,z.2 a f i⟩
theorem mU.f1 (z:Fz H g) (o:wO d) (h:mU K A H d v):F1 g d v:=by
 rcases o with o | ⟨b,rfl,o⟩
 .exact .inl (h.f0 z o)
 .obtain⟨a,e,rfl,f,r⟩:=h.tup_inv;refine .inr ⟨b,e,a,rfl,rfl,z.1 a e f,?_⟩;have go:∀ (b:Aa D) (e:Aa V),(∀ c∈b,zU c)->Reps K A H b e->Paired (F0 g) b e:=by
   intro b;induction b with
   | nil=>intro e _ r;cases r;exact .nil
   | cons c b k =>
    intro e o r;cases r with
    | cons m n=>exact .cons (m.peek.f0 z (o c aH)) (k _ (λx i=>o x (aM _ i)) n)
  exact go b e o r
theorem Js:∀ (g:Aa (hI×D)) (j:Aa (hI×V)),qI (g.map (·.2))=some (j.map (·.2))->g.map (·.1)=j.map (·.1)->∀ (k:hI) (d:D) (u:V),lW g k=some d->qE d=some u->oV j k=some u
 | [],_,_,_,_,_,_,h,_=>by cases h
 | p::g,[],_,e,_,_,_,_,_=>by cases e
 | p::g,q::j,a,e,k,d,u,h,c=>by
  obtain⟨b,f⟩:=eI e;have b:p.1=q.1:=b;have a:(match qE p.2,qI (g.map (·.2)) with | some v,some j=>some (v::j) | _,_=>none)=some (q.2::j.map (·.2)):=a;cases f1:qE p.2 with
  | none=>rw[f1] at a;cases a
  | some v1 =>
   cases f2:qI (g.map (·.2)) with
   | none=>rw[f1,f2] at a;cases a
   | some i =>
    rw[f1,f2] at a;obtain⟨g1,g2⟩:=eI (bN a);unfold lW at h;unfold oV;rw[cZ] at h |-;by_cases z:p.1=k
    .rw[cB z] at h;rw[cB (b▸z)];have h:p.2=d:=bN h;rw[h,c] at f1;show some q.2=some u;rw[<- g1];exact f1.symm
    .rw[bR z] at h;rw[bR (λy=>z (b.trans y))];exact Js g j (by rw[f2,g2]) f k d u h c
theorem F0.get (h:F0 H (.k g) v) (l:lW g (Sum.inr x)=some d) (j:qE d=some u):∃ b,v = .ref b/\qD H b (.str x) (some u):=by
 rcases h with h | ⟨a,i,b,e,f,c,rfl,rd⟩
 .cases h
 .cases e;exact⟨b,rfl,.inl ⟨i,Sum.inr x,rd,rfl,(Js _ _ f c _ _ _ l j).symm⟩⟩
theorem F1.get (h:F1 H (.k g) v) (l:lW g (Sum.inr x)=some d) (j:qE d=some u):∃ b,v = .ref b/\qD H b (.str x) (some u):=by
 rcases h with h | ⟨_,_,_,e,_⟩
 .exact h.get l j
 .cases e
theorem F1.flat (h:F1 H d v) (g:qE d=some u):v=u:=by
 rcases h with (h | ⟨_,_,_,e,_⟩) | ⟨_,_,_,e,_⟩
 .rw[g] at h;exact (bN h).symm
 .subst e;cases g
 .subst e;cases g
def yH (H:Hp) (d:D) (v:V):Prop:=qE d=some v\/∃ (a:Aa D) (b:Aa V) (p:Ad),d = .t a/\qI a=some b/\v = .ref p/\H p=some (.t b)
theorem Ud:∀ {d:D}{v:V},qE d=some v->Rep K A H d v:=λ{d v} h=>by
 cases d<;>cases h
 .exact .e
 .exact .b _
 .exact .int _
 .exact .str _
theorem Po:∀ (g:Aa D) (j:Aa V),qI g=some j->Reps K A H g j
 | [],j,h=>by cases h;exact .nil
 | d::g,j,h=>by
  have h:(match qE d,qI g with | some v,some b=>some (v::b) | _,_=>none)=some j:=h;cases f1:qE d with
  | none=>rw[f1] at h;cases h
  | some v1 =>
   cases f2:qI g with
   | none=>rw[f1,f2] at h;cases h
   | some a=>rw[f1,f2] at h;cases h;exact .cons (Ud f1) (Po g a f2)
theorem yH.rep (h:yH H d v):Rep K A H d v:=by
 rcases h with h | ⟨a,e,p,rfl,b,rfl,c⟩
 .exact Ud h
 .exact .t c (Po a e b)
theorem yH.keep (h:yH H d v) (k:∀ p g,H p=some (.t g)->j p=some (.t g)):yH j d v:=by
 rcases h with h | ⟨b,a,p,e,f,c,i⟩
 .exact .inl h
 .exact .inr ⟨b,a,p,e,f,c,k p a i⟩
end
section
variable {X:Cx}
def Hd (i:Nat) (g:Aa Nat) (P:Aa D->Af->Ab D->Prop):mP:=λm f h=>∃ (a:Aa (hI×D)) (d:Aa Af) (e:Aa D) (b:Af->Ab D),at? f i=some (.k a)/\zU (.k a)/\a.map (·.1)=d.map Sum.inr/\d.length<=1000/\g.map (at? f)=e.map some/\(∀ c∈e,wO c)/\(∀ x∈d,P e x (b x))/\h (.o (.l (d.filterMap b))) f
def Ln (P:Aa D->Af->Ab D->Prop) (j:TT) (g:TE):Prop:=∀ (h:Aa D) (e:Aa V) (x:Af) (c:Ab D) (H:Hp) (N:VK) (F:Hp->Prop),P h x c->Paired (F1 H) h e->(∀ d v a,c=some d->nW H a->yH a d v->N v a)->(∀ a,c=none->nW H a->F a) ->
 j (some (.str x)::e.map some) H λb f=>if b=true then g (some (.str x)::e.map some) f N else F f
theorem N3 {σ:St}{H:Hp}{Q:VK}{B:Bs}{ρ:Aa Sl}{T:nD}{Φ:Sl->Aa Sl->Prop}{nm:Af}{g:Aa Nat}{tt:TT}{te:TE}{P:Aa D->Af->Ab D->Prop}{ti:TE}{a:Ad}{C:Aa (hI×V)}{ac:Aa (hI×D)}{xs:Aa Af}{U:Aa D}{I:Af->Ab D}(ht:Ln P tt te)
  (hl:ρ.length=σ.length) (hd:DS X.K B (ρ.zip σ++T) H) (ek:ac.map (·.1)=xs.map Sum.inr) (lx:xs.length<=1000) (ec:g.map (at? ρ)=U.map some) (oc:∀ c∈U,wO c) (hP:∀ x∈xs,P U x (I x)) (af:Φ (.o (.l (xs.filterMap I))) ρ)
  (k:∀ r aa v J,aa.length=σ.length->DS X.K B (aa.zip σ++(r,some v)::T) J->Φ r aa->Q v J) (ha:H a=some (.k C)) (ab:ac.map (·.1)=C.map (·.1))
  (ae:∀ o (K':VK),K' (.ref a) (upd H a (.frz o (.k C)))->ti σ (upd H a (.frz o (.k C))) K'):F3 (xR [nm] g (Ht ti) (vY 0) tt te) σ H Q:=by
 have O:∃ i:Aa V,g.map (λj=>(σ[j]?).join)=i.map some/\Paired (λc v=>wO c/\mU X.K (Al B (hO (ρ.zip σ++T))) H c v) U i:=by
  have go:∀ (g:Aa Nat) (U:Aa D),g.map (at? ρ)=U.map some->(∀ c∈U,wO c)->∃ i:Aa V,g.map (λj=>(σ[j]?).join)=i.map some/\Paired (λc v=>wO c/\mU X.K (Al B (hO (ρ.zip σ++T))) H c v) U i:=by
   intro g;induction g with
   | nil =>
    intro U ec _;cases U with
    | nil=>exact⟨[],rfl,.nil⟩
    | cons _ _=>cases ec
   | cons j g ih =>
    intro U ec oc;cases U with
    | nil=>cases ec
    | cons c U =>
     rw[aP,aP] at ec;obtain⟨e1,e2⟩:=eI ec;obtain⟨v,hv,pv⟩:=hd.peek hl e1;obtain⟨i,g1,g2⟩:=ih U e2 λx n=>oc x (aM _ n)
     exact⟨v::i,by rw[aP,aP,g1,hv];rfl,.cons ⟨oc c aH,pv⟩ g2⟩
  exact go g U ec oc
 obtain⟨i,ev,pr⟩:=O;refine⟨a,C,ha,λo=>ae o _ ⟨a,o,C,rfl,lR,λF Z=>?_⟩⟩;have Y:a≠F:=λz=>by rw[z,lR] at Z;cases Z
 have G:H F=none:=by rw[lS (cY Y)] at Z;exact Z
 have lk:C.length=xs.length:=by
  have:=bY List.length (ab.symm.trans ek)
  simpa using this
 have ah:∀ j x,(C.map λp=>kV p.1)[j]?=some x->∃ y:Af,xs[j]?=some y/\x=V.str y:=λj x n=>by
  have e1:C.map (·.1)=xs.map Sum.inr:=ab.symm.trans ek;have e2:(C.map λp=>kV p.1)=xs.map V.str:=by
   have:=bY (List.map kV) e1;rw[aF,aF] at this;exact this
  rw[e2,bC] at n;cases e3:xs[j]? with
  | none=>rw[e3] at n;cases n
  | some y=>rw[e3] at n;cases n;exact⟨y,e3,rfl⟩
 refine Lu Xz (λj s J=>j<=xs.length/\J a=some (.frz o (.k C))/\J F=some (.l s)/\(∀ b u,H b=some u->b≠a->J b=some u)/\s.length<=j/\Paired (yH J) ((xs.take j).filterMap I) s) ?_ (λj s J _ p=>p.2.1) ?_ ?_
 .refine⟨dL _,by rw[lS Y,lR],lR,λb u f S=>?_,aW _,by rw[kU];exact .nil⟩;rw[lS (λz:b=F=>by rw[z,G] at f;cases f),lS S];exact f
 .rintro j x s J n ⟨hj,M,kD,N,hy,m⟩;obtain⟨y,L,rfl⟩:=ah j x n;have R:j<xs.length:=(aU.mp L).1;have ym:=aO L;have fz:Fz H J:=by
   refine⟨λb E e=>N b _ e λz=>?_,λb E e=>?_⟩
   .rw[z,ha] at e;cases e
   .by_cases z:b=a
    .rw[z] at e |-;rw[ha] at e;cases e;exact .inr ⟨o,M⟩
    .exact .inl (N b _ e z)
  have cf:Paired (F1 J) U i:=Paired.mapP pr λc v q=>q.2.f1 fz q.1
  have tk:(xs.take (j+1)).filterMap I=(xs.take j).filterMap I++(match I y with | some d=>[d] | none=>[]):=by
   rw[cL,L,jV];show _++[y].filterMap I=_;cases e:I y<;>simp[e]
  rw[ev];refine ht U i y (I y) J _ _ (hP y ym) cf (λd v H5 eo sm ai=>?_) λH5 eo sm=>?_
  .have W:=sm _ _ kD;have ag:=sm _ _ M;have kt:∀ p E,H5 p=some (.t E)->upd H5 F (.l (s++[v])) p=some (.t E):=λp E e=>by
    rw[lS (λz:p=F=>by rw[z,W] at e;cases e)];exact e
   refine⟨⟨_,rfl⟩,W,cH (show s.length<=1000 by omega) (by decide),R,by rw[lS Y];exact ag,lR,λb u f S=>?_,by rw[bK,jS];omega,?_⟩
   .rw[lS (λz:b=F=>by rw[z,G] at f;cases f)];exact sm _ _ (N b u f S)
   .rw[tk,eo];exact Paired.snoc (Paired.mapP m λc w q=>(q.keep λp E e=>sm _ _ e).keep kt) (ai.keep kt)
  .refine⟨⟨_,rfl⟩,R,sm _ _ M,sm _ _ kD,λb u f S=>sm _ _ (N b u f S),by omega,?_⟩;rw[tk,eo,dM];exact Paired.mapP m λc w q=>q.keep λp E e=>sm _ _ e
 .rintro s J ⟨_,M,kD,N,hy,m⟩;rw[aA,lk,fQ] at m;refine⟨M,?_⟩;have same:nW H (upd J a (.k C)):=λb u f=>by
   by_cases z:b=a
   .subst z;rw[lR,<- ha];exact f
   .rw[lS z];exact N b u f z
  have rp:∀ (A:Ad->Prop) (ds:Aa D) (i:Aa V),Paired (yH J) ds i->Reps X.K A (upd J a (.k C)) ds i:=λA ds i pr=>by
   induction pr with
   | nil=>exact .nil
   | cons h _ ih=>exact .cons (h.keep λp E e=>by rw[lS (λz:p=a=>by rw[z,M] at e;cases e)];exact e).rep ih
  have d2:=hd.adopt (a:=F) (d:=.l (xs.filterMap I)) (H':=upd J a (.k C)) (λb u f _=>same b u f) (hd.dk.keep λb f=>by
   obtain⟨E,q⟩:=hd.dk.some f;rw[same b _ q,q]) G ⟨s,by rw[lS (cY Y)];exact kD,rp _ _ _ m⟩
  exact k _ ρ _ _ hl d2.mid af
theorem Df {P:Aa D->Af->Ab D->Prop}(h:PE X e (F3 (xR [r] g (Ht (oY i)) (vY 0) p l))) (j:Ln P p l):PD X e (Hd i g P):=h.mono λO H Q c=>c.elim λB N T M m hd ⟨v,L,F,z,n,G,s,x,q,y,t,f⟩ k=>by
 obtain⟨v0,d,A⟩:=hd.peek m n;obtain⟨a,w,rfl,u,b,K⟩:=A.dK_inv;exact N3 j m hd s x q y t f k u b λo E h=>⟨_,d,h⟩
end
section
theorem IL (hl:IsTup s.heap l #[j,o]) (hm:IsTup s.heap m #[C,I]) (hu:A.units<cLine)
  (J:xZ g w A.in1 s j C) (T:xZ g w A.in1 s o I) (U:Q (.bool false) s):wpAny (model g w) A (compareOp .NotEq (.ref l) (.ref m)) Q E s:=by
 obtain⟨t,g1,i,n,d1⟩:=id hl;obtain⟨x,g2,k,q,d2⟩:=id hm;have f:s.TypeIs (.ref l) "tuple" := ⟨_,g1,i⟩;have h:s.TypeIs (.ref m) "tuple" := ⟨_,g2,k⟩;refine wpAny_richCompare_same_room (op:=.NotEq) f h F.slot_tuple_ne ?_ hu;refine cM F.slot_tuple_ne f F.entry_tuple_ne ?_ (F.args_tuple_ne_2 _ _);show wpAny _ _ (isInstance (.ref m) (.type "tuple") >>= _) _ _ s;refine aB (cU h isSubtype_tuple_tuple ?_);simp only[Bool.not_true,dR,fR];refine aB (jE g1 d1 ?_);refine aB (jE g2 d2 ?_);refine aB ?_;refine wpAny_forIn_list _ (λrest r c=>r.1=none/\c=s/\∀ p∈rest,xZ g w A.in1 s p.1 p.2) _ ?_ ?_ _ _ ⟨rfl,rfl,λp a=>?_⟩
 .rintro ⟨u,v⟩ rest r c ⟨b,rfl,d⟩;refine aB (d (u,v) aH _ _ ?_);exact aG ⟨rfl,rfl,λp a=>d p (aM _ a)⟩
 .rintro ⟨y,z⟩ c ⟨b,rfl,_⟩;simp only at b;subst b;exact aG ⟨_,rfl,(λe=>nomatch e),U⟩
 .have a:p∈[(j,C),(o,I)]:=a;simp only[aI,bJ,eM] at a;rcases a with rfl | rfl
  .exact J
  .exact T
end
section
variable {X:Cx}
def Qa:R2:=λx y H Q=>∃ (l m:Ad) (p q a c:V),x = .ref l/\y = .ref m/\H l=some (.t [p,q])/\H m=some (.t [a,c])/\Cm H p a/\Cm H q c/\Q (.b false) H
theorem IV (g:X.A.units+64<cLine):mO X (compareOp .NotEq) Qa:=by
 intro i s Z H x y v u Q I L M h;obtain⟨l,m,p,q,W,Y,rfl,rfl,w,z,N,O,k⟩:=h;cases L;cases M;obtain⟨B,F,D,_⟩:=I.tuple (mF.of (K:=X.K) w);obtain⟨f,G,E,_⟩:=I.tuple (mF.of (K:=X.K) z);obtain⟨P,R,n,a,c⟩:=yI F;obtain⟨S,V,t,d,e⟩:=yI G;subst n t;exact IL D E (by omega) (N.now I a d (by rw[jX];omega)) (O.now I c e (by rw[jX];omega)) ⟨.b false,H,I,rfl,k⟩
def Dr (g:Aa (hI×D)):Prop:=(g.map (·.1)).Nodup/\∃ a:Aa V,qI (g.map (·.2))=some a/\∀ v∈a,oS v v=true
theorem Vl {K:lL}(f:Dr g) (h:Rep K A H (.k g) v):∃ a j,v = .ref a/\H a=some (.k j)/\j.map (·.1)=g.map (·.1)/\qI (g.map (·.2))=some (j.map (·.2))/\(j.map (·.2)).all pZ=true:=by
 obtain⟨a,j,rfl,_,h,e,r⟩:=h.dK_inv;obtain⟨_,i,b,_⟩:=f;obtain⟨c,d⟩:=Jc b r;exact⟨a,j,rfl,h,e.symm,by rw[b,c],by rw[c];exact d⟩
theorem N2:∀ {g j:Aa (l×o)},g.map (·.1)=j.map (·.1)->g.map (·.2)=j.map (·.2)->g=j
 | [],[],_,_=>rfl
 | [],_::_,e,_=>by cases e
 | _::_,[],e,_=>by cases e
 | (a,b)::g,(c,d)::j,i,k=>by
  rw[aP,aP] at i k;obtain⟨f,m⟩:=eI i;obtain⟨h,n⟩:=eI k;have f:a=c:=f;have h:b=d:=h;rw[f,h,N2 m n]
theorem No {K:lL}(f:Dr g) (j:Rep K A H (.k g) x) (l:Rep K A H (.k g) y):Cm H x y:=by
 obtain⟨a,s,rfl,n,d,h,q⟩:=Vl f j;obtain⟨b,m,rfl,g1,g2,g3,u⟩:=Vl f l;have e:m=s:=N2 (g2.trans d.symm) (by rw[h] at g3;exact (bN g3).symm);subst e;refine⟨a,b,m,rfl,rfl,n,g1,by rw[d];exact f.1,λp i=>?_⟩;obtain⟨v,c,t⟩:=f.2;rw[h] at c;have c:=bN c;exact⟨cG.mp q p.2 (eY i),t p.2 (by rw[<- c];exact eY i)⟩
def NI:O2:=λd e f=>∃ a c:Aa (hI×D),d = .t [.k a,.k c]/\e = .t [.k a,.k c]/\Dr a/\Dr c/\f (.v (.b false))
theorem HG {K:lL}:oU K Qa NI:=by
 intro B L H d e x y M Q hd z A s k;obtain⟨D,E,rfl,rfl,v,w,f⟩:=s;obtain⟨l,G,rfl,t,a⟩:=z.tup_inv;obtain⟨m,F,rfl,u,c⟩:=A.tup_inv;cases a with
 | cons h a =>
 cases a with
 | cons i a =>
 cases a;cases c with
 | cons n c =>
 cases c with
 | cons q c =>
 cases c;exact⟨l,m,_,_,_,_,rfl,rfl,t,u,No v h n,No w i q,k _ _ H f (hd.pushF (.b _))⟩
end
end L2
namespace Lw
open PySem L2
theorem Ip:∀ t:lZ,pU (t.map λp=>D.t [.str p.1,.int p.2])=some (dK t):=λt=>uP (g:=λp:Af×Int=>((Sum.inr p.1:hI),D.int p.2)) (λp=>⟨.str p.1,rfl,rfl⟩) t
def tG (g:Aa (Af×Ab Int)):Aa (hI×D):=g.map λp=>((Sum.inr p.1:hI),oB p.2)
theorem Y5:∀ j:Aa (Af×Ab Int),pU (j.map λp=>D.t [.str p.1,oB p.2])=some (tG j):=λj=>uP (g:=λp:Af×Ab Int=>((Sum.inr p.1:hI),oB p.2)) (λp=>⟨.str p.1,rfl,rfl⟩) j
theorem DU (g:Aa (Af×Ab Int)):(tG g).map (·.1)=(g.map (·.1)).map Sum.inr:=by unfold tG;rw[List.map_map,List.map_map];rfl
noncomputable def Cd (g:Aa (Af×Ab Int)) (x:Af):Ab Int:=match g.find? λp=>decide (p.1=x) with
 | some p=>p.2
 | none=>none
theorem Qv:∀ {es:Aa (Af×Ab Int)}{x:Af},x∈es.map (·.1)->lW (tG es) (Sum.inr x)=some (oB (Cd es x))
 | [],_,h=>absurd h (by simp)
 | q::es,x,h=>by
  unfold lW Cd tG;rw[aP,cZ,cZ];by_cases e:q.1=x
  .subst e;rw[cB rfl,cB rfl];rfl
  .have ne:¬ ((Sum.inr q.1:hI)=Sum.inr x):=λz=>e (gC z)
   rw[bR e,bR ne];have:=Qv (es:=es) (x:=x) (by
    rw[aP] at h;exact (aI.mp h).resolve_left λz=>e z.symm)
   unfold lW Cd tG at this;exact this
theorem K7:∀ {g:Aa Af},g.Nodup->(g.map (Sum.inr:Af->hI)).Nodup
 | [],_=>iF
 | x::r,h=>by
  obtain⟨b,c⟩:=cD.mp h;refine cD.mpr ⟨λm=>?_,K7 c⟩;obtain⟨y,a,e⟩:=aE.mp m;rw[gC e] at a;exact b a
theorem P5 (h:(t.map (·.1)).Nodup):Dr (dK t):=by
 refine⟨?_,t.map λp=>V.int p.2,?_,?_⟩
 .have:(dK t).map (·.1)=(t.map (·.1)).map Sum.inr:=by unfold dK;rw[List.map_map,List.map_map];rfl
  rw[this];exact K7 h
 .unfold dK;rw[aF];exact Dj (f:=λp:Af×Int=>D.int p.2) (λ_=>rfl) t
 .intro v a;obtain⟨p,_,rfl⟩:=aE.mp a;exact gO (α:=Int) p.2
theorem Zu {j:Type} [DecidableEq j] {g:Aa (j×D)}{k:j}{d:D}(h:k∉g.map (·.1)):mY g k d=g++[(k,d)]:=by
 unfold mY;rw[aN];intro z;rw[iL] at z;obtain⟨p,a,e⟩:=z;exact h (aE.mpr ⟨p,a,cW e⟩)
theorem Ui:∀ (b a:Aa (hI×D)),((a++b).map (·.1)).Nodup->oW a b=a++b
 | [],a,_=>by simp[oW]
 | p::b,a,h=>by
  have c:p.1∉a.map (·.1):=λq=>by
   rw[aR] at h;exact (bB.mp h).2.2 p.1 q p.1 (by simp) rfl
  have e:oW a (p::b)=oW (mY a p.1 p.2) b:=rfl;rw[e,Zu c,Ui b (a++[p]) (by simpa using h)];simp
theorem Dz (l:Aa j) (h:∀ x∈l,f x=some (g x)):l.filterMap f=l.map g:=by
 induction l with
 | nil=>rfl
 | cons a l c=>rw[gL,h a (by simp),c λx b=>h x (by simp[b])];rfl
theorem uR (t:lZ):zU (.k (dK t)):=.inr ⟨_,t.map λp=>V.int p.2,rfl,by
 unfold dK;rw[aF];exact Dj (f:=λp:Af×Int=>D.int p.2) (λ_=>rfl) t⟩
end Lw
namespace L2
open PySem PySem.Spec PyProof.Rows Lw
section
variable {X:Cx}
def Yu (i k:Nat) (g:Aa Nat) (P:Aa D->Af->Ab D->Prop):mP:=λn f m=>∃ (h:Aa D) (a:Aa (hI×D)) (d:Aa Af) (e:Aa D) (b:Af->Ab D),at? f i=some (.t h)/\h[k]?=some (.k a)/\a.map (·.1)=d.map Sum.inr/\d.length<=1000/\g.map (at? f)=e.map some/\(∀ c∈e,wO c)/\(∀ x∈d,P e x (b x))/\m (.o (.l (d.filterMap b))) f
theorem Wc {e:Expr}{i k:Nat}{C:Af}{g:Aa Nat}{l:TT}{j:TE}{P:Aa D->Af->Ab D->Prop}(h:PE X e (F3 (xR [C] g (Ht (Bn (E3 X.K) (oY i) (tC (.int k)))) (vY 0) l j))) (p:Ln P l j):PD X e (Yu i k g P):=h.mono λσ H Q d=>d.elim λB ρ T U q hd E F=>by
 obtain⟨Z,G,J,Y,O,s,u,x,M,w,N,y,m⟩:=E;obtain⟨v0,f,R⟩:=hd.peek q s;obtain⟨t,V,rfl,c,r⟩:=R.tup_inv;obtain⟨v,A,S⟩:=r.get u;obtain⟨a,L,rfl,_,n,b,I⟩:=S.dK_inv;have ne:t≠a:=λz=>by rw[z,n] at c;cases c
 exact N3 p q hd x M w N y m F n b λo W h=>⟨_,f,t,V,k,.ref a,rfl,rfl,mF.of (by rw[lS ne];exact c),pJ A,h⟩
end
end L2
namespace Lw
open PySem L2
theorem MC:(["name","names","some"]:Aa Af).Nodup:=by decide +kernel
def oR (t:vQ) (s:lZ):lZ:=s.map λp=>(hL t p.1,p.2)
def LR:Aa D->Af->Ab D->Prop:=λc x d=>∃ (a b:Aa (hI×D)) (y:Af) (v:Int),c=[.k a,.k b]/\lW a (Sum.inr x)=some (.str y)/\lW b (Sum.inr x)=some (.int v)/\d=some (.t [.str y,.int v])
theorem V6 (t:vQ):zU (.k (mM t)):=.inr ⟨_,t.map λp=>V.str p.2,rfl,by
 unfold mM;rw[aF];exact Dj (f:=λp:Af×Af=>D.str p.2) (λ_=>rfl) t⟩
def Nn:RD:=λc a b=>∃ (t:vQ) (s:lZ),a=[.k (mM t),.k (dK s)]/\(∀ p∈s,p.1∈t.map (·.1))/\(s.map (·.1)).Nodup/\((oR t s).map (·.1)).Nodup/\s.length<=1000/\b (.o (.k (dK (oR t s))))
section
variable {P:Ah}{K:lL}
theorem HS:FnScope ["names","some"] ["names","some"] (mI E6):=nU
theorem BH (T:Txt g):nZ P w K g base 1 "_law_by" E6 ["names","some"] Nn:=by
 refine oI HS λf R A B s H E r I Φ U L V=>?_
 obtain⟨t,s,rfl,W,j,z,M,u⟩:=V;refine⟨_,(mL (nA (nE (sX rfl) tA T.dict bV (aD (Df (P:=LR) (i:=1) (A6 (tV ["name"] ["names","some"] [0,1] rfl (Bd (pv 1)) rfl rfl (λe d C D G=>sD (i:=0) MC rfl (Or.inl rfl)) (λe d C D G=>vK) (λe d C D G=>xD (mA (zJ L (pv 1) (pv 0) (λ_ _=>rfl)) (mA (zJ L (pv 2) (pv 0) (λ_ _=>rfl)) mJ))))) ?q) gV)))),?_⟩
 case q =>
  rintro _ vs x _ H N F ⟨l,o,y,v,rfl,Z,X,rfl⟩ m S J;cases m with
  | cons a m =>
   cases m with
   | cons b m =>
    cases m;obtain⟨O,rfl,g1⟩:=a.get Z rfl;obtain⟨Q,rfl,g2⟩:=b.get X rfl;unfold wE;refine (aT rfl).mpr ?_;exact⟨_,rfl,_,rfl,O,_,rfl,g1,_,rfl,_,rfl,Q,_,rfl,g2,by show 2<=sizeLine;decide,λp h=>S _ _ _ rfl (nW.new h) (.inr ⟨_,_,p,rfl,rfl,rfl,lR⟩)⟩
 refine⟨dK s,s.map (·.1),[.k (mM t),.k (dK s)],λx=>some (.t [.str (hL t x),.int (gD s x)]),rfl,uR s,by unfold dK;rw[List.map_map,List.map_map];rfl,by rw[aA];exact M,rfl,λc n=>?_,λx Y=>?_,dK (oR t s),?_,?_,?_⟩
 .rcases aI.mp n with rfl | n
  .exact .inl (V6 t)
  .rw[aZ.mp n];exact .inl (uR s)
 .obtain⟨p,h,rfl⟩:=aE.mp Y;exact⟨_,_,_,_,rfl,(Bk t _).1 (W p h),(nI s _).1 (aE.mpr ⟨p,h,rfl⟩),rfl⟩
 .rw[iY,<- Ip];unfold oR;rw[List.map_map];refine bY pU (Dz s λp h=>?_);simp only[Function.comp,rM j h]
 .unfold dK oR;rw[List.length_map,List.length_map];exact M
 .rw[sS z];exact u
end
def Qc:RD:=λc a b=>∃ n:Nat,a=[.int n]/\n<=1000/\b (.v (.l ((List.range n).map λi=>D.int (2 ^ i))))
section
variable {P:Ah}{K:lL}
theorem Cu:FnScope ["count","found","worth","place"] ["count"] (mI G3):=nU
theorem HP (T:Txt g):nZ P w K g base 1 "place_worths" G3 ["count"] Qc:=by
 refine oI Cu λf k A e s H E t u G B F m=>?_
 obtain⟨n,rfl,z,d⟩:=m;refine⟨_,(lM (lV 1 Cu.nd (oJ gV)) (lM (lV 2 Cu.nd lN) (lM (qV (Aq (by rfl) T.range (dT 0)) (lX 3 Cu.nd) (lM (pW (pS bF bO bP rA sA (pv 1) (aD (dT 2) gV))) (mL (lV 2 Cu.nd (qY xB xE 2 lN))))) (mL (nA (dT 1)))))),?_⟩;refine⟨by show 0<=1000;decide,?_⟩;dsimp only;refine lP (λb=>b=[.v (.int n),.o (.l []),.v (.int 1),.n]) (λN c=>c _ rfl) ?_;rintro _ rfl;refine lP (λb=>∃ a:Sl,b=[.v (.int n),.o (.l ((List.range n).map λi=>D.int (2 ^ i))),.v (.int (2 ^ n)),a]) (λN c=>?_) ?_
 .refine rG (qH 0 n) [.v (.int n),.o (.l []),.v (.int 1),.n] (λL h=>⟨by omega,by omega,h⟩) (λi b=>∃ a:Sl,b=[.v (.int n),.o (.l ((List.range i).map λi=>D.int (2 ^ i))),.v (.int (2 ^ i)),a]) ⟨.n,rfl⟩ ?_ ?_
  .rintro i x b q ⟨a,rfl⟩;obtain⟨y,rfl⟩:=Fs q;refine⟨rfl,by show ((List.range i).map λi=>D.int (2 ^ i)).length<100000;rw[aA,dB];omega,rfl,.inr ⟨by decide,by decide⟩,.v (.int (0+(i:Int))),?_⟩;rw[kF,aR];rfl
  .rintro b ⟨a,rfl⟩;have:(qH 0 n).length=n:=by simp[qH]
   rw[this];exact c _ ⟨a,rfl⟩
 rintro _ ⟨a,rfl⟩;exact d
end
theorem NT:(["name","edges"]:Aa Af).Nodup:=by decide +kernel
theorem Wy:(["name"]:Aa Af).Nodup:=by decide +kernel
theorem LU:(["name","words","worth"]:Aa Af).Nodup:=by decide +kernel
theorem U7:(["output","name","after"]:Aa Af).Nodup:=by decide +kernel
theorem U3:(["output","name","carried"]:Aa Af).Nodup:=by decide +kernel
def E2:RD:=λi e f=>∃ (C:Cel) (a:Aa (Af×Af)) (W:Nat) (c b:Aa (hI×D)) (wf d:Af->Int) (u h:Nat->Af->Int),e=[mN C a,.int W,.k c,.k b]/\RowOk C a/\RunOk C a W wf d u h/\W<=60/\(∀ x∈wIns C a,lW c (Sum.inr x)=some (.int (wf x)))/\(∀ p∈a,lW b (Sum.inr p.2)=some (.int (d p.2))) /\
 f (.v (.t [.k (dK (mV C a u W)),.k (dK (a.map λp=>(p.1,mK d u W p)))]))
section
variable {P:Ah}{K:lL}
theorem uX:FnScope ["row","width","words","edges","cell","inputs","carried","outputs","told","worth","bits","after","name"] ["row","width","words","edges"] (mI Ay):=nU
abbrev rS (C:Cel) (j:Aa (Af×Af)) (W:Nat) (l g:Aa (hI×D)) (r cr J T U p o I:Sl):Aa Sl:=[.v (mN C j),.v (.int W),.v (.k l),.v (.k g),.v (tK C),r,cr,J,T,U,p,o,I]
theorem JD (T:Txt mg) (I:Kn P w K mg base 1 "check_there" C7 ["names","given"] Mr) (r:Kn P w K mg base 1 "carried_inputs" zK ["row"] B0) (aa:Kn P w K mg base 2 "word_inputs" Bc ["row"] Ek) (U:Kn P w K mg base 1 "word_outputs" Dx ["row"] Ll) (J:Kn P w K mg base 1 "place_worths" G3 ["count"] Qc) (ab:Kn P w K mg base 2 "told_by" C4 ["cell","bits"] J0) :
  nZ P w K mg base 3 "laid" Ay ["row","width","words","edges"] E2:=by
 refine oI uX λf ak A aj s H E dk ds Φ hr hu hR=>?_
 obtain⟨C,d,W,G,B,wf,L,u,ah,rfl,R,ac,hW,hw,he,ai⟩:=hR;have lp:=R.lp;have li:=R.gc.li;have lo:=R.gc.lo;have an:(wIns C d).length<=40:=cK (cJ ..) li;have ao:(wOuts C d).length<=40:=cK (cJ ..) lo;refine⟨_,(lM (lV 4 uX.nd (lT hu 0 lN)) (lM (lV 5 uX.nd (lU aa hr (aD (dT 0) gV))) (lM (pW (lU I hr (aD (dT 5) (aD (dT 2) gV)))) (lM (pW (lU I hr (aD (lU r hr (aD (dT 0) gV)) (aD (dT 3) gV)))) (lM (lV 6 uX.nd (nE (sX rfl) tA T.dict bV (aD (nJ ["name"] ["edges"] [3] (mW (lU r hr (aD (dT 0) gV))) (λ_ _ _ _ _=>(lX 0 NT)) (λ_ _ _ _ _=>(mZ (aD (dT 0) (aD (lT hu 1 (dT 0)) gV))))) gV))) (lM (lV 7 uX.nd (lU U hr (aD (dT 0) gV))) (lM (lV 8 uX.nd (nE (sX rfl) tA T.dict bV (aD (nJ ["name"] [] [] (mW (dT 7)) (λ_ _ _ _ _=>(lX 0 Wy)) (λ_ _ _ _ _=>(mZ (aD (dT 0) (aD lN gV))))) gV))) (lM (qV (mW (lU J hr (aD (dT 1) gV))) (lX 9 uX.nd) (lM (lV 10 uX.nd (nE (sX rfl) tA T.dict bV (aD (nJ ["name"] ["words","worth"] [2,9] (mW (dT 5)) (λ_ _ _ _ _=>(lX 0 LU)) (λ_ _ _ _ _=>(mZ (aD (dT 0) (aD (nG rF Ub (nG Qr CL (lT hu 1 (dT 0)) (dT 2)) lN) gV))))) gV))) (lM (pW (pS jG PySem.F.slot_dict_update PySem.F.type_dict_update Vc Vz (pv 10) (aD (dT 6) gV))) (lM (lV 11 uX.nd (DA rfl (by rfl) T.dict (by rfl) T.zip (aD (lT hu 4 lN) (aD (lU ab hr (aD (dT 4) (tN (pv 10) gV))) gV)))) (lM (qV (mW (dT 7)) (lX 12 uX.nd) (mL (OV (n:=8) (m:=12) hu (pv 8) (pv 12) (qY xB xE 9 (lT hu 11 (dT 12)))))) (mL (lV 6 uX.nd (nE (sX rfl) tA T.dict bV (aD (nJ ["output","name"] ["after"] [11] (mW (lT hu 0 lN)) (λ_ _ _ _ _=>(sB (n:=2) rfl (nL (lX 0 U7) (nL (lX 1 U7) rK)))) (λ_ _ _ _ _=>(mZ (aD (dT 1) (aD (lT hu 2 (dT 0)) gV))))) gV))))))))) (mL (nA (mZ (aD (dT 8) (aD (nE (sX rfl) tA T.dict bV (aD (nJ ["output","name"] ["carried"] [6] (mW (lT hu 0 lN)) (λ_ _ _ _ _=>(sB (n:=2) rfl (nL (lX 0 U3) (nL (lX 1 U3) rK)))) (λ_ _ _ _ _=>(mZ (aD (dT 0) (aD (lT hu 2 (dT 1)) gV))))) gV)) gV))))))))))))),?_⟩;refine lP (λM=>M=rS C d W G B .n .n .n .n .n .n .n .n) (λN S=>⟨rfl,_,rfl,S _ rfl⟩) ?_;rintro _ rfl;refine lP (λM=>M=rS C d W G B (.o (.l ((wIns C d).map D.str))) .n .n .n .n .n .n .n) (λN S=>⟨C,d,rfl,lp,by omega,.inl rfl,S _ rfl⟩) ?_;rintro _ rfl;refine lP (λM=>M=rS C d W G B (.v (.l ((wIns C d).map D.str))) .n .n .n .n .n .n .n) (λN S=>?_) ?_
 .exact⟨wIns C d,G,.inr rfl,λx hx=>⟨_,hw x hx⟩,.inl rfl,S _ rfl⟩
 rintro _ rfl;refine lP (λM=>M=rS C d W G B (.v (.l ((wIns C d).map D.str))) .n .n .n .n .n .n .n) (λN S=>?_) ?_
 .refine⟨C,d,rfl,lp,.inl rfl,d.map (·.2),B,.inr (by rw[aF];rfl),λx hx=>?_,.inl rfl,S _ rfl⟩;obtain⟨p,hp,rfl⟩:=aE.mp hx;exact⟨_,he p hp⟩
 rintro _ rfl;refine lP (λM=>M=rS C d W G B (.v (.l ((wIns C d).map D.str))) (.o (.k (dK (nX d L u 0)))) .n .n .n .n .n .n) (λN S=>?_) ?_
 .unfold oD dC aC;refine oM d (λp=>D.str p.2) (λp=>.t [.str p.2,.int (L p.2)]) (rS C d W G B (.v (.l ((wIns C d).map D.str))) .n .n .n .n .n .n .n) (λΨ h=>⟨C,d,rfl,lp,.inl rfl,h⟩) (by omega) (λi p ys Nx e X Y=>⟨rfl,_,?_,by show 2<=1000;decide,X,Y⟩) ?_
  .show some (lW B (Sum.inr p.2))=_;rw[he p (aO e)]
  have e0:pU (d.map λp=>D.t [.str p.2,.int (L p.2)])=some (dK (nX d L u 0)):=by
   rw[uP (g:=λp:Af×Af=>((Sum.inr p.2:hI),D.int (L p.2))) (λp=>⟨.str p.2,rfl,rfl⟩)];simp[dK,nX,mK]
  refine⟨_,e0,by rw[tE];unfold nX;rw[List.length_map];omega,?_⟩;rw[sS (by simpa [nX,cI] using R.n2)];exact S _ rfl
 rintro _ rfl;refine lP (λM=>M=rS C d W G B (.v (.l ((wIns C d).map D.str))) (.o (.k (dK (nX d L u 0)))) (.o (.l ((wOuts C d).map D.str))) .n .n .n .n .n) (λN S=>⟨C,d,rfl,lp,by omega,.inl rfl,S _ rfl⟩) ?_;rintro _ rfl;refine lP (λM=>M=rS C d W G B (.v (.l ((wIns C d).map D.str))) (.o (.k (dK (nX d L u 0)))) (.v (.l ((wOuts C d).map D.str))) (.o (.k (dK (mV C d u 0)))) .n .n .n .n) (λN S=>?_) ?_
 .unfold oD dC aC;refine oM (wOuts C d) D.str (λo=>.t [.str o,.int 0]) (rS C d W G B (.v (.l ((wIns C d).map D.str))) (.o (.k (dK (nX d L u 0)))) (.v (.l ((wOuts C d).map D.str))) .n .n .n .n .n) (λΨ h=>h) (by omega) (λi p ys Nx e X Y=>⟨by show 2<=1000;decide,X,Y⟩) ?_;have e0:pU ((wOuts C d).map λo=>D.t [.str o,.int 0])=some (dK (mV C d u 0)):=by
   rw[uP (g:=λo:Af=>((Sum.inr o:hI),D.int 0)) (λp=>⟨.str p,rfl,rfl⟩)];simp[dK,mV,sN]
  refine⟨_,e0,by rw[tE];unfold mV;rw[List.length_map];omega,?_⟩;rw[sS (by unfold mV;rw[A8];exact Bq R.gc)];exact S _ rfl
 rintro _ rfl;refine lP (λM=>∃ wo Q Z O:Sl,M=rS C d W G B (.v (.l ((wIns C d).map D.str))) (.o (.k (dK (nX d L u W)))) (.v (.l ((wOuts C d).map D.str))) (.o (.k (dK (mV C d u W)))) wo Q Z O) (λN S=>?_) ?_
 .refine rG ((List.range W).map λi=>D.int (2 ^ i)) _ (λΨ h=>⟨W,rfl,by omega,.inl rfl,h⟩) (λj M=>∃ wo Q Z O:Sl,M=rS C d W G B (.v (.l ((wIns C d).map D.str))) (.o (.k (dK (nX d L u j)))) (.v (.l ((wOuts C d).map D.str))) (.o (.k (dK (mV C d u j)))) wo Q Z O) ⟨.n,.n,.n,.n,rfl⟩ ?_ ?_
  .rintro j x M hd ⟨wo,Q,Z,O,rfl⟩;obtain⟨y,hy,rfl⟩:=sU hd;obtain⟨hj,rfl⟩:j<W/\j=y:=by
    obtain⟨X,Y⟩:=aU.mp hy;rw[dB] at X;rw[jC] at Y;exact⟨X,Y⟩
   have p2:=AL (i:=j) (by omega);refine lP (λM=>M=rS C d W G B (.v (.l ((wIns C d).map D.str))) (.o (.k (dK (nX d L u j)))) (.v (.l ((wOuts C d).map D.str))) (.o (.k (dK (mV C d u j)))) (.v (.int (2 ^ j))) (.o (.k (dK ((wIns C d).map λx=>(x,wf x/2 ^ j%2))))) Z O) (λN' V=>?_) ?_
   .unfold oD dC aC;refine oM (wIns C d) D.str (λx=>.t [.str x,.int (wf x/2 ^ j%2)]) (rS C d W G B (.v (.l ((wIns C d).map D.str))) (.o (.k (dK (nX d L u j)))) (.v (.l ((wOuts C d).map D.str))) (.o (.k (dK (mV C d u j)))) (.v (.int (2 ^ j))) Q Z O) (λΨ h=>h) (by omega) (λi p ys Nx e X Y=>⟨rfl,.int (wf p),?_,p2,by show (0:Int)<2;decide,by show 2<=1000;decide,X,Y⟩) ?_
    .show some (lW G (Sum.inr p))=_;rw[hw p (aO e)]
    have e0:pU ((wIns C d).map λx=>D.t [.str x,.int (wf x/2 ^ j%2)])=some (dK ((wIns C d).map λx=>(x,wf x/2 ^ j%2))):=by
     rw[uP (g:=λx:Af=>((Sum.inr x:hI),D.int (wf x/2 ^ j%2))) (λp=>⟨.str p,rfl,rfl⟩)];simp[dK]
    refine⟨_,e0,by rw[tE,aA];omega,?_⟩;rw[sS (by rw[A8];exact yY R.gc)];exact V _ rfl
   rintro _ rfl;have ck:∀ j,(nX d L u j).map (·.1)=d.map (·.2):=λj=>by simp[nX,cI]
   have ae:(((wIns C d).map λx=>(x,wf x/2 ^ j%2))++nX d L u j).map (·.1) |>.Nodup:=by
    rw[aR,A8,ck];refine bB.mpr ⟨yY R.gc,R.n2,λa ha b hb z=>?_⟩;have:=(bT.mp ha).2;rw[cB (z▸hb)] at this;cases this
   refine lP (λM=>M=rS C d W G B (.v (.l ((wIns C d).map D.str))) (.v (.k (dK (nX d L u j)))) (.v (.l ((wOuts C d).map D.str))) (.o (.k (dK (mV C d u j)))) (.v (.int (2 ^ j))) (.o (.k (dK (((wIns C d).map λx=>(x,wf x/2 ^ j%2))++nX d L u j)))) Z O) (λN' V=>?_) ?_
   .refine⟨rfl,?_,?_⟩
    .rw[tE,tE,aA];unfold nX;rw[List.length_map];omega
    .rw[Ka _ _ ae];exact V _ rfl
   rintro _ rfl;have has:vN (dK (((wIns C d).map λx=>(x,wf x/2 ^ j%2))++nX d L u j)) C.ins (ah j):=λx hx=>by
    refine⟨?_,(ac.bits R j hj).1 x hx⟩;by_cases q:x∈d.map (·.2)
    .obtain⟨p,hp,rfl⟩:=aE.mp q;have hm:(p.2,mK L u j p)∈((wIns C d).map λx=>(x,wf x/2 ^ j%2))++nX d L u j:=aJ _ (aE.mpr ⟨p,hp,rfl⟩);rw[(nI _ p.2).1 (aE.mpr ⟨_,hm,rfl⟩),rM ae hm,ac.c j hj p hp]
    .have ag:x∈wIns C d:=bT.mpr ⟨hx,by rw[bR q];rfl⟩;have hm:(x,wf x/2 ^ j%2)∈((wIns C d).map λx=>(x,wf x/2 ^ j%2))++nX d L u j:=aL _ (aE.mpr ⟨x,ag,rfl⟩);rw[(nI _ x).1 (aE.mpr ⟨_,hm,rfl⟩),rM ae hm,ac.w j hj x ag]
   refine lP (λM=>∃ Q:Sl,M=rS C d W G B (.v (.l ((wIns C d).map D.str))) (.v (.k (dK (nX d L u j)))) (.v (.l ((wOuts C d).map D.str))) (.o (.k (dK (mV C d u j)))) (.v (.int (2 ^ j))) Q (.o (.k (dK (C.outs.map λo=>(o,u j o))))) O) (λN' V=>?_) ?_
   .refine⟨rfl,_,rfl,rfl,C,_,ah j,rfl,R.gc,has,.inr (GJ _ _),_,keysL_strs _,by rw[aA];omega,?_⟩;rw[FH,sS (by simpa [cI] using R.gc.ond),<- ac.uu j hj];exact V _ ⟨_,rfl⟩
   rintro _ ⟨Q,rfl⟩;refine lP (λM=>∃ O:Sl,M=rS C d W G B (.v (.l ((wIns C d).map D.str))) (.v (.k (dK (nX d L u j)))) (.v (.l ((wOuts C d).map D.str))) (.o (.k (dK (mV C d u (j+1))))) (.v (.int (2 ^ j))) Q (.o (.k (dK (C.outs.map λo=>(o,u j o))))) O) (λN' V=>?_) ?_
   .have u0:uF (wOuts C d) (λo=>sN (λj=>2 ^ j*u j o) j) (λo=>sN (λj=>2 ^ j*u j o) (j+1)) 0=mV C d u j:=by unfold uF mV;rw[List.take_zero,List.drop_zero];rfl
    have uN:uF (wOuts C d) (λo=>sN (λj=>2 ^ j*u j o) j) (λo=>sN (λj=>2 ^ j*u j o) (j+1)) (wOuts C d).length=mV C d u (j+1):=by unfold uF mV;rw[List.take_of_length_le (Nat.le_refl _),List.drop_of_length_le (Nat.le_refl _),List.map_nil,List.append_nil]
    refine rG ((wOuts C d).map D.str) _ (λΨ h=>h) (λm M=>∃ O:Sl,M=rS C d W G B (.v (.l ((wIns C d).map D.str))) (.v (.k (dK (nX d L u j)))) (.v (.l ((wOuts C d).map D.str))) (.o (.k (dK (uF (wOuts C d) (λo=>sN (λj=>2 ^ j*u j o) j) (λo=>sN (λj=>2 ^ j*u j o) (j+1)) m)))) (.v (.int (2 ^ j))) Q (.o (.k (dK (C.outs.map λo=>(o,u j o))))) O) ⟨O,by rw[u0]⟩ ?_ ?_
    .rintro m x M hx ⟨O,rfl⟩;obtain⟨o,ho,rfl⟩:=sU hx;obtain⟨q1,q2⟩:=Yc (Bq (prs:=d) R.gc) (a:=λo=>sN (λj=>2 ^ j*u j o) j) (b:=λo=>sN (λj=>2 ^ j*u j o) (j+1)) ho;have om:=aO ho;refine⟨_,o,rfl,rfl,by rw[Ha];exact om,by rw[Ha];exact Bq R.gc,?_,rfl,rfl,.int (u j o),?_,.inl ⟨by omega,by omega⟩,rfl,.v (.str o),?_⟩
     .have:=bY List.length (Ha (wOuts C d) (λo=>sN (λj=>2 ^ j*u j o) j) (λo=>sN (λj=>2 ^ j*u j o) (j+1)) m);rw[aA] at this;omega
     .show some (lW (dK (C.outs.map λo=>(o,u j o))) (Sum.inr o))=_;rw[U5 ((bT.mp om).1)]
     .rw[q1];show rS _ _ _ _ _ _ _ _ (.o (.k (dK (qA _ o (sN (λj=>2 ^ j*u j o) (j+1)))))) _ _ _ _=_;rw[q2]
    .rintro M ⟨O,rfl⟩;rw[aA,uN];exact V _ ⟨O,rfl⟩
   rintro _ ⟨O,rfl⟩;unfold oD dC aC;refine oM d (λp=>D.t [.str p.1,.str p.2]) (λp=>.t [.str p.2,.int (u j p.1)]) (rS C d W G B (.v (.l ((wIns C d).map D.str))) (.v (.k (dK (nX d L u j)))) (.v (.l ((wOuts C d).map D.str))) (.o (.k (dK (mV C d u (j+1))))) (.v (.int (2 ^ j))) Q (.o (.k (dK (C.outs.map λo=>(o,u j o))))) O) (λΨ h=>⟨rfl,_,rfl,h⟩) (by omega) (λi p ys Nx e X Y=>⟨rfl,rfl,rfl,.int (u j p.1),?_,by show 2<=1000;decide,X,Y⟩) ?_
   .show some (lW (dK (C.outs.map λo=>(o,u j o))) (Sum.inr p.1))=_;rw[U5 (R.o p (aO e))]
   have e0:pU (d.map λp=>D.t [.str p.2,.int (u j p.1)])=some (dK (nX d L u (j+1))):=by
    rw[uP (g:=λp:Af×Af=>((Sum.inr p.2:hI),D.int (u j p.1))) (λp=>⟨.str p.2,rfl,rfl⟩)];simp[dK,nX,mK]
   refine⟨_,e0,by rw[tE];unfold nX;rw[List.length_map];omega,?_⟩;rw[sS (by rw[ck];exact R.n2)];exact⟨_,_,_,_,rfl⟩
  .rintro M ⟨wo,Q,Z,O,rfl⟩;rw[aA,dB];exact S _ ⟨wo,Q,Z,O,rfl⟩
 rintro _ ⟨wo,Q,Z,O,rfl⟩;unfold rC Rz aC dC;refine EJ rfl ?_;refine oM d (λp=>D.t [.str p.1,.str p.2]) (λp=>.t [.str p.1,.int (mK L u W p)]) (rS C d W G B (.v (.l ((wIns C d).map D.str))) (.o (.k (dK (nX d L u W)))) (.v (.l ((wOuts C d).map D.str))) (.v (.k (dK (mV C d u W)))) wo Q Z O) (λΨ h=>⟨rfl,_,rfl,h⟩) (by omega) (λi p ys Nx e X Y=>⟨rfl,rfl,rfl,.int (mK L u W p),?_,by show 2<=1000;decide,X,Y⟩) ?_
 .have pm:=aO e;show some (lW (dK (nX d L u W)) (Sum.inr p.2))=_;have hm:(p.2,mK L u W p)∈nX d L u W:=aE.mpr ⟨p,pm,rfl⟩;rw[(nI _ p.2).1 (aE.mpr ⟨_,hm,rfl⟩),rM (by simpa [nX,cI] using R.n2) hm]
 have e0:pU (d.map λp=>D.t [.str p.1,.int (mK L u W p)])=some (dK (d.map λp=>(p.1,mK L u W p))):=by
  rw[uP (g:=λp:Af×Af=>((Sum.inr p.1:hI),D.int (mK L u W p))) (λp=>⟨.str p.1,rfl,rfl⟩)];simp[dK]
 refine⟨_,e0,by rw[tE,aA];omega,?_⟩;rw[sS (by simpa [cI] using R.n1)];exact⟨by show 2<=1000;decide,ai⟩
end
theorem Nw:(["out","into","deck"]:Aa Af).Nodup:=by decide +kernel
def Iu:RD:=λb e f=>∃ (d c:Ad) (a:Aa Af) (W:Nat),b=[d,c]/\e=[.r (.ref d),.l (a.map D.str),.int W]/\a.Nodup/\a.length<=100/\W<=40/\∀ t:lZ,t.map (·.1)=a->(∀ p∈t,0<=p.2/\p.2<2 ^ W)->f (.o (.k (dK t)))
def Kc:RD:=λb e f=>∃ (d c:Ad) (C:Cel) (a:Aa (Af×Af)),b=[d,c]/\e=[.r (.ref d),mN C a]/\(a.map (·.2)).Nodup/\a.length<=100/\∀ t:lZ,t.map (·.1)=a.map (·.2)->(∀ p∈t,mH p.2)->f (.o (.k (dK t)))
theorem uJ (W:Nat):(1:Int)*2 ^ ((W:Int)).toNat=2 ^ W:=by rw[cF,Int.one_mul]
theorem GW (W:Nat) (h:W<=40):(0:Int)<2 ^ W/\(2:Int) ^ W<4611686018427387904:=by
 refine⟨jZ (by decide),?_⟩;have:(2:Int) ^ W<=2 ^ 40:=by
  have:=iK (show 0<2 by decide) h
  exact_mod_cast this
 exact Int.lt_of_le_of_lt this (by decide)
theorem AI (h:x∉t.map (·.1)):qA t x i=t++[(x,i)]:=by unfold qA;rw[if_neg h]
section
variable {P:Ah}{K:lL}
theorem Ey:FnScope ["deck","names","width","found","name","full"] ["deck","names","width"] (mI Ea):=nU
theorem BQ:FnScope ["deck","row"] ["deck","row"] (mI Cf):=nU
theorem IH (g:Kn P w K mg base 1 "_law_take" sZ ["deck","many"] wX) :
  nZ P w K mg base 2 "_law_drawn_words" Ea ["deck","names","width"] Iu:=by
 refine oI Ey λf U A V s H E dk ds Φ Q I hR=>?_
 obtain⟨d,c,a,W,rfl,rfl,nd,hl,hW,S⟩:=hR;obtain⟨Y,J⟩:=GW W hW;refine⟨_,(lM (lV 3 Ey.nd Vj) (lM (qV (mW (dT 1)) (lX 4 Ey.nd) (lM (lV 5 Ey.nd (nG vM xW (nG zQ Cy lN (dT 2)) lN)) (mL (A7 (n:=3) I (tJ I (oJ (aD (lU g Q (aD (dT 0) (aD (nG zQ Cy lN (dT 2)) gV))) (aD (dT 5) (aD lN (aD (qY vM xW 5 (lU g Q (aD (dT 0) (aD (nG zQ Cy lN (dT 2)) gV)))) gV))))) (lU g Q (aD (dT 0) (aD lN gV)))) (pv 3) (dT 4))))) (mL (nA (B1 3 (pv 3)))))),?_⟩;refine lP (λB=>B=[.v (.r (.ref d)),.v (.l (a.map D.str)),.v (.int W),.o (.k []),.n,.n]) (λN M=>M _ rfl) ?_;rintro _ rfl;refine lP (λB=>∃ (t:lZ) (m u:Sl),B=[.v (.r (.ref d)),.v (.l (a.map D.str)),.v (.int W),.o (.k (dK t)),m,u]/\t.map (·.1)=a/\∀ p∈t,0<=p.2/\p.2<2 ^ W) (λN M=>?_) ?_
 .refine rG (a.map D.str) _ (λΨ h=>h) (λi B=>∃ (t:lZ) (m u:Sl),B=[.v (.r (.ref d)),.v (.l (a.map D.str)),.v (.int W),.o (.k (dK t)),m,u]/\t.map (·.1)=a.take i/\∀ p∈t,0<=p.2/\p.2<2 ^ W) ⟨[],.n,.n,rfl,by simp,by simp⟩ ?_ ?_
  .rintro i x B hx ⟨t,m,u,rfl,F,b⟩;obtain⟨y,R,rfl⟩:=sU hx;have hi:i<a.length:=(aU.mp R).1;have tl:t.length<=100:=by have:=bY List.length F;rw[aA,bZ] at this;omega
   have tk:a.take (i+1)=a.take i++[y]:=by rw[cL,R];rfl
   have hn:y∉t.map (·.1):=λq=>by
    rw[F] at q;have e:a=a.take i++y::a.drop (i+1):=by
     obtain⟨hi,rfl⟩:=aU.mp R;rw[List.getElem_cons_drop,eD]
    have G:=nd;rw[e] at G;exact (bB.mp G).2.2 y q y (by simp) rfl
   have fin:∀ z:Int,0<=z->z<2 ^ W->∃ (X:lZ) (m u:Sl),([.v (.r (.ref d)),.v (.l (a.map D.str)),.v (.int W),.o (.k (mY (dK t) (Sum.inr y) (.int z))),.v (.str y),.v (.int (1*2 ^ ((W:Int)).toNat-1))]:Aa Sl)=[.v (.r (.ref d)),.v (.l (a.map D.str)),.v (.int W),.o (.k (dK X)),m,u]/\X.map (·.1)=a.take (i+1)/\∀ p∈X,0<=p.2/\p.2<2 ^ W:=λz Z j=>by
    refine⟨t++[(y,z)],_,_,by rw[To,AI hn],?_,λp hp=>?_⟩
    .rw[aR,F,tk];rfl
    .rcases aV.mp hp with q | q
     .exact b p q
     .rw[aZ.mp q];exact⟨Z,j⟩
   refine lP (λB=>B=[.v (.r (.ref d)),.v (.l (a.map D.str)),.v (.int W),.o (.k (dK t)),.v (.str y),.v (.int (1*2 ^ ((W:Int)).toNat-1))]) (λN' O=>⟨⟨by omega,by omega,by decide⟩,O _ rfl⟩) ?_;rintro _ rfl;refine⟨⟨by omega,by omega,by decide⟩,d,c,_,rfl,rfl,by rw[uJ];exact Y,by rw[uJ];exact J,λr1 C=>⟨.inl rfl,rfl,⟨by omega,by omega,by decide⟩,d,c,_,rfl,rfl,by rw[uJ];exact Y,by rw[uJ];exact J,λr2 T=>⟨.inl rfl,by show 4<=1000;decide,d,c,4,rfl,rfl,by decide,by decide,λL h3=>⟨.inl rfl,?_⟩⟩⟩⟩;rw[uJ] at C T;obtain⟨z,Z,j,hz⟩:∃ z:Int,0<=z/\z<2 ^ W/\nT [D.int r1,D.int (1*2 ^ ((W:Int)).toNat-1),D.int 0,D.int (1*2 ^ ((W:Int)).toNat-1-r2)] (L:Int)=some (.int z):=by
    have:L=0\/L=1\/L=2\/L=3:=by omega
    rcases this with rfl | rfl | rfl | rfl
    .exact⟨_,by omega,C,pJ rfl⟩
    .exact⟨_,by rw[uJ];omega,by rw[uJ];omega,pJ rfl⟩
    .exact⟨_,by omega,Y,pJ rfl⟩
    .exact⟨_,by rw[uJ];omega,by rw[uJ];omega,pJ rfl⟩
   exact⟨_,hz,rfl,_,Op (by rw[tE];omega),fin z Z j⟩
  .rintro B ⟨t,m,u,rfl,F,b⟩;rw[aA,bI (aW _)] at F;exact M _ ⟨t,m,u,rfl,F,b⟩
 rintro _ ⟨t,m,u,rfl,F,b⟩;exact S t F b
theorem Xk (T:Txt l) (j:Kn P w K l base 1 "_law_take" sZ ["deck","many"] wX) :
  nZ P w K l base 2 "_law_drawn_edges" Cf ["deck","row"] Kc:=by
 refine oI BQ λf F A u s H E V W Z B N L=>?_
 obtain⟨d,c,C,a,rfl,rfl,Q,Y,m⟩:=L;refine⟨_,(mL (nA (nE (sX rfl) tA T.dict bV (aD (nJ ["out","into"] ["deck"] [0] (mW (lT N 1 lN)) (λ_ _ _ _ _=>(sB (n:=2) rfl (nL (lX 0 Nw) (nL (lX 1 Nw) rK)))) (λ_ _ _ _ _=>(mZ (aD (dT 1) (aD (lU j B (aD (dT 2) (aD lN gV))) gV))))) gV)))),?_⟩;unfold rC dC aC sQ;refine⟨rfl,_,rfl,λi y h=>∃ t:lZ,y=t.map (λp=>D.t [.str p.1,.int p.2])/\t.map (·.1)=(a.take i).map (·.2)/\(∀ p∈t,mH p.2)/\h=[.v (.r (.ref d))],⟨[],rfl,by simp,λp e=>(nomatch e),rfl⟩,?_,?_⟩
 .rintro i x y h O _ ⟨t,rfl,b,k,rfl⟩;obtain⟨p,e,rfl⟩:=sU O;have X:i<a.length:=(aU.mp e).1;have S:t.length<=100:=by have:=bY List.length b;rw[aA,aA,bZ] at this;omega
  have R:a.take (i+1)=a.take i++[p]:=by rw[cL,e];rfl
  refine⟨rfl,rfl,d,c,2,rfl,rfl,by decide,by decide,λr B=>⟨.inl rfl,by show 2<=1000;decide,by rw[aA];omega,t++[(p.2,(r:Int))],by rw[aR];rfl,?_,λq M=>?_,rfl⟩⟩
  .rw[aR,b,R,aR];rfl
  .rcases aV.mp M with z | z
   .exact k q z
   .rw[aZ.mp z];show mH (r:Int);unfold mH;omega
 .rintro y h _ ⟨t,rfl,b,k,rfl⟩;rw[aA,bI (aW _)] at b;have G:pU (t.map λp=>D.t [.str p.1,.int p.2])=some (dK t):=by
   rw[uP (g:=λp:Af×Int=>((Sum.inr p.1:hI),D.int p.2)) (λp=>⟨.str p.1,rfl,rfl⟩)];rfl
  have S:t.length<=100:=by have:=bY List.length b;rw[aA,aA] at this;omega
  refine⟨_,G,by rw[tE];omega,?_⟩;rw[sS (by rw[b];exact Q)];exact m t b k
end
theorem Qx:(["name","low","words"]:Aa Af).Nodup:=by decide +kernel
theorem EA:(["name","behind","low","told"]:Aa Af).Nodup:=by decide +kernel
theorem Vh:(["out","into","told"]:Aa Af).Nodup:=by decide +kernel
theorem Rm {f:Nat->Int}:∀ W,(∀ j,j<W->mH (f j))->0<=sN (λj=>2 ^ j*f j) W/\sN (λj=>2 ^ j*f j) W<2 ^ W
 | 0,_=>⟨Int.le_refl _,by show (0:Int)<2 ^ 0;decide⟩
 | W+1,h=>by
  obtain⟨a,b⟩:=Rm W λj c=>h j (by omega)
  have e:sN (λj=>2 ^ j*f j) (W+1)=sN (λj=>2 ^ j*f j) W+2 ^ W*f W:=rfl;have p:(2:Int) ^ (W+1)=2*2 ^ W:=by rw[lG];omega
  rw[e,p];rcases h W (by omega) with q | q
  .rw[q];omega
  .rw[q];omega
def gT (g:Int->Int) (t:lZ):lZ:=t.map λp=>(p.1,g p.2)
theorem Fg (g:Int->Int) (t:lZ):(gT g t).map (·.1)=t.map (·.1):=by unfold gT;rw[List.map_map];rfl
theorem Dq (t:lZ):(dK t).map (·.1)=(t.map (·.1)).map Sum.inr:=by unfold dK;rw[List.map_map,List.map_map];rfl
theorem Sc (j:(t.map (·.1)).Nodup) (g:Int->Int):pU ((t.map (·.1)).filterMap λx=>some (D.t [.str x,.int (g (gD t x))]))=some (dK (gT g t)):=by
 rw[iY,<- Ip];unfold gT;rw[List.map_map];refine bY pU (Dz t λp a=>?_);simp only[Function.comp,rM j a]
theorem Nt (j:(t.map (·.1)).Nodup) (h:x∈t.map (·.1)):gD (gT g t) x=g (gD t x):=by
 obtain⟨p,a,rfl⟩:=aE.mp h;rw[rM j a];exact rM (p:=(p.1,g p.2)) (by rw[Fg];exact j) (aE.mpr ⟨p,a,rfl⟩)
def Ql (low:Nat) (g:Int->Int):Aa D->Af->Ab D->Prop:=λb x c=>∃ (a:Aa (hI×D)) (v:Int),b=[.int low,.k a]/\lW a (Sum.inr x)=some (.int v)/\c=some (.t [.str x,.int (g v)])
def FD (low:Nat):Aa D->Af->Ab D->Prop:=λd x e=>∃ (a c b f:Aa (hI×D)) (v u:Int),d=[.t [.k a,.k c],.int low,.t [.k b,.k f]]/\lW b (Sum.inr x)=some (.int v)/\lW a (Sum.inr x)=some (.int u)/\u.natAbs<2 ^ 64/\e=some (.t [.str x,.int (v+u*2 ^ low)])
def Pk:RD:=λf d e=>∃ (C:Cel) (a:Aa (Af×Af)) (W low:Nat) (c b:lZ),d=[mN C a,.int W,.int low,.k (dK c),.k (dK b)]/\RwOk C a/\c.map (·.1)=wIns C a/\b.map (·.1)=a.map (·.2)/\(∀ p∈b,mH p.2)/\low<W/\W<=60 /\
 e (.v (.t [.k (dK (mV C a (uB C a (gD c) (gD b)) W)),.k (dK (a.map λp=>(p.1,mK (gD b) (uB C a (gD c) (gD b)) W p)))]))
theorem RwOk.row (h:RwOk C g):RowOk C g:=⟨h.gc,h.n1,h.n2,λp a=>(h.m p a).1,by have:=h.lp;omega⟩
theorem Va (h:F1 H (.t [.k a,.k b]) v):∃ p g j,v = .ref p/\H p=some (.t [g,j])/\F0 H (.k a) g/\F0 H (.k b) j:=by
 rcases h with (h | ⟨_,_,_,e,_⟩) | ⟨n,q,d,e,rfl,f,c⟩
 .cases h
 .cases e
 cases e;cases c with
 | cons i c =>
 cases c with
 | cons m c =>
 cases c;exact⟨d,_,_,rfl,f,i,m⟩
section
variable {P:Ah}{K:lL}
theorem zM:FnScope ["row","width","low","words","edges","first","second","told","later","behind","whole"] ["row","width","low","words","edges"] (mI Fw):=nU
theorem Zx (T:Txt mg) (l:Kn P w K mg base 3 "laid" Ay ["row","width","words","edges"] E2):nZ P w K mg base 4 "_law_parted" Fw ["row","width","low","words","edges"] Pk:=by
 refine oI zM λf ay A aw s H E dk ds Φ hr hu hR=>?_
 obtain⟨C,d,W,low,q,y,rfl,M,kw,ke,hb,ax,hW,av⟩:=hR;refine⟨_,(lM (lV 5 zM.nd (nE (sX rfl) tA T.dict bV (aD (Df (P:=Ql low λv=>v%(1*2 ^ (low:Int).toNat)) (i:=3) (A6 (tV ["name"] ["low","words"] [2,3] rfl (Bd (pv 3)) rfl rfl (λG z C cl fp=>sD (i:=0) Qx rfl (Or.inl rfl)) (λG z C cl fp=>vK) (λG z C cl fp=>xD (mA (pv 0) (mA (mQ rF (zJ hu (pv 2) (pv 0) (λ_ _=>rfl)) (mQ zQ mT (pv 1))) mJ))))) ?h1) gV))) (lM (lV 6 zM.nd (nE (sX rfl) tA T.dict bV (aD (Df (P:=Ql low λv=>v/2 ^ (low:Int).toNat) (i:=3) (A6 (tV ["name"] ["low","words"] [2,3] rfl (Bd (pv 3)) rfl rfl (λG z C cl fp=>sD (i:=0) Qx rfl (Or.inl rfl)) (λG z C cl fp=>vK) (λG z C cl fp=>xD (mA (pv 0) (mA (mQ V5 (zJ hu (pv 2) (pv 0) (λ_ _=>rfl)) (pv 1)) mJ))))) ?h2) gV))) (lM (lV 7 zM.nd (lU l hr (aD (dT 0) (aD (dT 2) (aD (dT 5) (aD (dT 4) gV)))))) (lM (lV 8 zM.nd (nE (sX rfl) tA T.dict bV (aD (nJ ["out","into"] ["told"] [7] (mW (lT hu 0 lN)) (λ_ _ _ _ _=>(sB (n:=2) rfl (nL (lX 0 Vh) (nL (lX 1 Vh) rK)))) (λ_ _ _ _ _=>(mZ (aD (dT 1) (aD (tJ hu (lT hu 2 lN) (dT 0)) gV))))) gV))) (lM (lV 9 zM.nd (lU l hr (aD (dT 0) (aD (qY vM xW 1 (dT 2)) (aD (dT 6) (aD (dT 8) gV)))))) (lM (lV 10 zM.nd (nE (sX rfl) tA T.dict bV (aD (Wc (P:=FD low) (i:=7) (k:=0) (A6 (tV ["name"] ["behind","low","told"] [9,2,7] rfl (Bd (oZ Kl (pv 7) mT (λ_ _=>rfl))) rfl rfl (λG z C cl fp=>sD (i:=0) EA rfl (Or.inl rfl)) (λG z C cl fp=>vK) (λG z C cl fp=>xD (mA (pv 0) (mA (mQ wH (zJ hu (oZ (Of K) (pv 3) mT (λ_ _=>rfl)) (pv 0) (λ_ _=>rfl)) (mQ zQ (zJ hu (oZ (Of K) (pv 1) mT (λ_ _=>rfl)) (pv 0) (λ_ _=>rfl)) (pv 2))) mJ))))) ?h3) gV))) (mL (nA (mZ (aD (dT 10) (aD (lT hu 9 lN) gV))))))))))),?_⟩
 case h1 =>
  rintro _ vs x _ H N F ⟨kv,v,rfl,hv,rfl⟩ L O hF;cases L with
  | cons a L =>
   cases L with
   | cons b L =>
    cases L;cases a.flat rfl;obtain⟨c,rfl,hg⟩:=b.get hv rfl;unfold wE;refine (aT rfl).mpr ?_;exact⟨_,rfl,_,rfl,_,rfl,c,_,rfl,hg,_,rfl,1,low,rfl,rfl,⟨by omega,by omega,by decide⟩,v,_,rfl,rfl,by rw[uJ];exact jZ (by decide),by show 2<=sizeLine;decide,λp B=>O _ _ _ rfl (nW.new B) (.inr ⟨_,_,p,rfl,rfl,rfl,lR⟩)⟩
 case h2 =>
  rintro _ vs x _ H N F ⟨kv,v,rfl,hv,rfl⟩ L O hF;cases L with
  | cons a L =>
   cases L with
   | cons b L =>
    cases L;cases a.flat rfl;obtain⟨c,rfl,hg⟩:=b.get hv rfl;unfold wE;refine (aT rfl).mpr ?_;exact⟨_,rfl,_,rfl,_,rfl,c,_,rfl,hg,_,rfl,v,low,rfl,rfl,by omega,by show 2<=sizeLine;decide,λp B=>O _ _ _ rfl (nW.new B) (.inr ⟨_,_,p,rfl,rfl,rfl,lR⟩)⟩
 case h3 =>
  rintro _ vs x _ H N F ⟨b0,b1,t0,t1,v,u,rfl,hv,hw,hz,rfl⟩ L O hF;cases L with
  | cons a L =>
   cases L with
   | cons b L =>
    cases L with
    | cons c L =>
     cases L;obtain⟨p1,x1,x2,rfl,g1,f1,_⟩:=Va a;cases b.flat rfl;obtain⟨p2,y1,y2,rfl,g2,f2,_⟩:=Va c;obtain⟨c1,rfl,d1⟩:=f2.get hv rfl;obtain⟨c2,rfl,d2⟩:=f1.get hw rfl;unfold wE;refine (aT rfl).mpr ?_;refine⟨_,rfl,_,rfl,p2,_,0,.ref c1,rfl,rfl,mF.of g2,rfl,_,rfl,c1,_,rfl,d1,_,rfl,p1,_,0,.ref c2,rfl,rfl,mF.of g1,rfl,_,rfl,c2,_,rfl,d2,_,rfl,u,low,rfl,rfl,⟨by omega,by omega,hz⟩,v,_,rfl,rfl,by show 2<=sizeLine;decide,λp B=>O (.t [.str x,.int (v+u*2 ^ low)]) _ _ rfl (nW.new B) (.inr ⟨_,_,p,rfl,?_,rfl,lR⟩)⟩;show some [V.str x,V.int (v+u*2 ^ low)]=_;rw[cF]
 have J:(q.map (·.1)).Nodup:=by rw[kw];exact yY M.gc
 have a1:(y.map (·.1)).Nodup:=by rw[ke];exact M.n2
 have li:=M.li;have lp:=M.lp;have lo:=M.gc.lo;have az:q.length<=6:=by
  have h1:=bY List.length kw;have h2:(wIns C d).length<=C.ins.length:=cJ ..;rw[aA] at h1;omega
 have vw:∀ x∈wIns C d,x∈q.map (·.1):=λx R=>by rw[kw];exact R
 have ve:∀ p∈d,p.2∈y.map (·.1):=λp B=>by rw[ke];exact aE.mpr ⟨p,B,rfl⟩
 have be:∀ p∈d,mH (gD y p.2):=λp B=>hb _ (Cs (ve p B))
 obtain⟨u,Q⟩:∃ u,u=uB C d (gD q) (gD y):=⟨_,rfl⟩;obtain⟨S,af⟩:∃ t1,t1=gT (λv=>v%(1*2 ^ (low:Int).toNat)) q:=⟨_,rfl⟩;obtain⟨X,ag⟩:∃ t2,t2=gT (λv=>v/2 ^ (low:Int).toNat) q:=⟨_,rfl⟩;have e1:∀ x∈wIns C d,gD S x=gD q x%2 ^ low:=λx R=>by rw[af,Nt J (vw x R),uJ]
 have e2:∀ x∈wIns C d,gD X x=gD q x/2 ^ low:=λx R=>by rw[ag,Nt J (vw x R),cF]
 have lg:∀ g:Int->Int,(dK (gT g q)).length<=1000:=λg=>by rw[tE];unfold gT;rw[List.length_map];omega
 have ar:∀ g:Int->Int,oW [] (dK (gT g q))=dK (gT g q):=λg=>sS (by rw[Fg];exact J)
 have oc:∀ c∈[D.int low,.k (dK q)],wO c:=λc r=>by
  rcases aI.mp r with rfl | r
  .exact .inl (.inl ⟨_,rfl⟩)
  .rw[aZ.mp r];exact .inl (uR q)
 refine lP (λU=>U=[.v (mN C d),.v (.int W),.v (.int low),.v (.k (dK q)),.v (.k (dK y)),.o (.k (dK S)),.n,.n,.n,.n,.n]) (λN O=>?_) ?_
 .exact⟨dK q,q.map (·.1),[.int low,.k (dK q)],λx=>some (.t [.str x,.int (gD q x%(1*2 ^ (low:Int).toNat))]),rfl,uR q,Dq q,by rw[aA];omega,rfl,oc,λx R=>⟨_,_,rfl,(nI q x).1 R,rfl⟩,_,Sc J (λv=>v%(1*2 ^ (low:Int).toNat)),lg _,by rw[ar,<- af];exact O _ rfl⟩
 rintro _ rfl;refine lP (λU=>U=[.v (mN C d),.v (.int W),.v (.int low),.v (.k (dK q)),.v (.k (dK y)),.o (.k (dK S)),.o (.k (dK X)),.n,.n,.n,.n]) (λN O=>?_) ?_
 .exact⟨dK q,q.map (·.1),[.int low,.k (dK q)],λx=>some (.t [.str x,.int (gD q x/2 ^ (low:Int).toNat)]),rfl,uR q,Dq q,by rw[aA];omega,rfl,oc,λx R=>⟨_,_,rfl,(nI q x).1 R,rfl⟩,_,Sc J (λv=>v/2 ^ (low:Int).toNat),lg _,by rw[ar,<- ag];exact O _ rfl⟩
 rintro _ rfl;obtain⟨Z,ae⟩:∃ Z,Z=d.map λp=>(p.1,mK (gD y) u low p):=⟨_,rfl⟩
 have kl:∀ x∈wIns C d,x∈S.map (·.1)/\x∈X.map (·.1):=λx R=>by rw[af,ag,Fg,Fg];exact⟨vw x R,vw x R⟩
 refine lP (λU=>U=[.v (mN C d),.v (.int W),.v (.int low),.v (.k (dK q)),.v (.k (dK y)),.v (.k (dK S)),.o (.k (dK X)),.v (.t [.k (dK (mV C d u low)),.k (dK Z)]),.n,.n,.n]) (λN O=>?_) ?_
 .refine⟨C,d,low,dK S,dK y,gD S,gD y,uB C d (gD S) (gD y),rB C d (gD S) (gD y),rfl,M.row,vA M be low,by omega,λx R=>(nI S x).1 (kl x R).1,λp B=>(nI y p.2).1 (ve p B),.inl rfl,?_⟩;have o1:mV C d (uB C d (gD S) (gD y)) low=mV C d u low:=by
   unfold mV;refine bL λo _=>?_
   rw[Q,Bl low λj hj=>by rw[Uq e1 hj]]
  have o2:(d.map λp=>(p.1,mK (gD y) (uB C d (gD S) (gD y)) low p))=Z:=by
   rw[ae,Q];exact bL λp _=>by rw[AZ e1]
  rw[o1,o2];exact O _ rfl
 rintro _ rfl;obtain⟨le,aa⟩:∃ le,le=d.map λp=>(p.2,mK (gD y) u low p):=⟨_,rfl⟩
 have ah:le.map (·.1)=d.map (·.2):=by rw[aa,aF];rfl
 have an:Z.map (·.1)=d.map (·.1):=by rw[ae,aF];rfl
 have ao:∀ p∈d,gD le p.2=mK (gD y) u low p:=λp B=>rM (p:=(p.2,mK (gD y) u low p)) (by rw[ah];exact M.n2) (by rw[aa];exact aE.mpr ⟨p,B,rfl⟩)
 refine lP (λU=>U=[.v (mN C d),.v (.int W),.v (.int low),.v (.k (dK q)),.v (.k (dK y)),.v (.k (dK S)),.o (.k (dK X)),.v (.t [.k (dK (mV C d u low)),.k (dK Z)]),.o (.k (dK le)),.n,.n]) (λN O=>?_) ?_
 .unfold oD dC aC;refine oM d (λp=>D.t [.str p.1,.str p.2]) (λp=>.t [.str p.2,.int (mK (gD y) u low p)]) [.v (mN C d),.v (.int W),.v (.int low),.v (.k (dK q)),.v (.k (dK y)),.v (.k (dK S)),.o (.k (dK X)),.v (.t [.k (dK (mV C d u low)),.k (dK Z)]),.n,.n,.n] (λΨ h=>⟨rfl,_,rfl,h⟩) (by omega) (λi p ys Nx e h1 h2=>⟨rfl,rfl,rfl,_,rfl,.int (mK (gD y) u low p),?_,by show 2<=1000;decide,h1,h2⟩) ?_
  .have B:=aO e;show some (lW (dK Z) (Sum.inr p.1))=_;rw[(nI Z p.1).1 (by rw[an];exact aE.mpr ⟨p,B,rfl⟩),rM (p:=(p.1,mK (gD y) u low p)) (by rw[an];exact M.n1) (by rw[ae];exact aE.mpr ⟨p,B,rfl⟩)]
  have e0:pU (d.map λp=>D.t [.str p.2,.int (mK (gD y) u low p)])=some (dK le):=by
   rw[uP (g:=λp:Af×Af=>((Sum.inr p.2:hI),D.int (mK (gD y) u low p))) (λp=>⟨.str p.2,rfl,rfl⟩),aa];simp[dK]
  refine⟨_,e0,by rw[tE,aa,aA];omega,?_⟩;rw[sS (by rw[ah];exact M.n2)];exact O _ rfl
 rintro _ rfl;have eW:((W:Int)-(low:Int))=((W-low:Nat):Int):=by omega
 obtain⟨m,hm⟩:∃ m,W=low+m:=⟨W-low,by omega⟩;have em:W-low=m:=by omega
 obtain⟨I,ac⟩:∃ I:lZ,I=(wOuts C d).map λo=>(o,sN (λj=>2 ^ j*u (low+j) o) m):=⟨_,rfl⟩
 obtain⟨bt,ak⟩:∃ bt:lZ,bt=d.map λp=>(p.1,mK (gD y) u W p):=⟨_,rfl⟩
 have ab:∀ p∈d,gD le p.2=mK (gD y) (uB C d (gD q) (gD y)) low p:=λp B=>by rw[<- Q];exact ao p B
 have bl:∀ p∈d,mH (gD le p.2):=λp B=>by
  rw[ao p B];cases low with
  | zero=>exact be p B
  | succ j=>rw[Q];exact ((vA M be W).bits M.row j (by omega)).2 p.1 (M.m p B).1
 refine lP (λU=>U=[.v (mN C d),.v (.int W),.v (.int low),.v (.k (dK q)),.v (.k (dK y)),.v (.k (dK S)),.v (.k (dK X)),.v (.t [.k (dK (mV C d u low)),.k (dK Z)]),.v (.k (dK le)),.v (.t [.k (dK I),.k (dK bt)]),.n]) (λN O=>?_) ?_
 .refine⟨rfl,C,d,m,dK X,dK le,gD X,gD le,uB C d (gD X) (gD le),rB C d (gD X) (gD le),?_,M.row,vA M bl m,by omega,λx R=>(nI X x).1 (kl x R).2,λp B=>(nI le p.2).1 (by rw[ah];exact aE.mpr ⟨p,B,rfl⟩),.inl rfl,?_⟩
  .show [mN C d,D.int ((W:Int)-(low:Int)),.k (dK X),.k (dK le)]=_;rw[eW,em]
  have o1:mV C d (uB C d (gD X) (gD le)) m=I:=by
   rw[ac];unfold mV;refine bL λo _=>?_
   rw[Q,Bl m λj hj=>by rw[Nv e2 ab j]]
  have o2:(d.map λp=>(p.1,mK (gD le) (uB C d (gD X) (gD le)) m p))=bt:=by
   rw[ak,Q,hm];exact bL λp B=>by rw[NU e2 ab B m]
  rw[o1,o2];exact O _ rfl
 rintro _ rfl;have ai:(wOuts C d).Nodup:=Bq M.gc;have ko:(mV C d u low).map (·.1)=wOuts C d:=by unfold mV;rw[List.map_map];exact fO _
 have kb:I.map (·.1)=wOuts C d:=by rw[ac,aF];exact fO _
 have a0:(wOuts C d).length<=C.outs.length:=cJ ..;have ub:∀ o∈wOuts C d,∀ j,j<W->mH (u j o):=λo Y j hj=>by
  rw[Q];exact ((vA M be W).bits M.row j hj).2 o (bT.mp Y).1
 have lo1:∀ o∈wOuts C d,gD (mV C d u low) o=sN (λj=>2 ^ j*u j o) low:=λo Y=>rM (p:=(o,sN (λj=>2 ^ j*u j o) low)) (by rw[ko];exact ai) (aE.mpr ⟨o,Y,rfl⟩)
 have aq:∀ o∈wOuts C d,gD I o=sN (λj=>2 ^ j*u (low+j) o) m:=λo Y=>rM (p:=(o,sN (λj=>2 ^ j*u (low+j) o) m)) (by rw[kb];exact ai) (by rw[ac];exact aE.mpr ⟨o,Y,rfl⟩)
 have aj:∀ o∈wOuts C d,(gD I o).natAbs<2 ^ 64:=λo Y=>by
  obtain⟨q1,q2⟩:=Rm (f:=λj=>u (low+j) o) m λj hj=>ub o Y (low+j) (by omega)
  rw[aq o Y];have q3:(2:Int) ^ m<=2 ^ 60:=by
   have:=iK (show 0<2 by decide) (show m<=60 by omega)
   exact_mod_cast this
  have q4:(2:Int) ^ 60<2 ^ 64:=by decide
  omega
 have au:∀ a b:lZ,wO (.t [.k (dK a),.k (dK b)]):=λa b=>.inr ⟨_,rfl,λc r=>by
  rcases aI.mp r with rfl | r
  .exact uR a
  .rw[aZ.mp r];exact uR b⟩
 refine lP (λU=>U=[.v (mN C d),.v (.int W),.v (.int low),.v (.k (dK q)),.v (.k (dK y)),.v (.k (dK S)),.v (.k (dK X)),.v (.t [.k (dK (mV C d u low)),.k (dK Z)]),.v (.k (dK le)),.v (.t [.k (dK I),.k (dK bt)]),.o (.k (dK (mV C d u W)))]) (λN O=>?_) ?_
 .refine⟨[.k (dK (mV C d u low)),.k (dK Z)],dK (mV C d u low),wOuts C d,[.t [.k (dK I),.k (dK bt)],.int low,.t [.k (dK (mV C d u low)),.k (dK Z)]],λo=>some (.t [.str o,.int (sN (λj=>2 ^ j*u j o) low+sN (λj=>2 ^ j*u (low+j) o) m*2 ^ low)]),rfl,rfl,by rw[Dq,ko],by omega,rfl,λc r=>?_,λo Y=>?_,dK (mV C d u W),?_,?_,?_⟩
  .rcases aI.mp r with rfl | r
   .exact au I bt
   rcases aI.mp r with rfl | r
   .exact .inl (.inl ⟨_,rfl⟩)
   .rw[aZ.mp r];exact au _ Z
  .refine⟨_,_,_,_,_,_,rfl,(nI _ o).1 (by rw[ko];exact Y),(nI I o).1 (by rw[kb];exact Y),aj o Y,?_⟩;rw[lo1 o Y,aq o Y]
  .rw[<- Ip,hm];refine bY pU ?_;unfold mV;rw[aF];refine Dz _ λo Y=>?_
   rw[EG];rfl
  .rw[tE];unfold mV;rw[List.length_map];omega
  .rw[sS (by unfold mV;rw[List.map_map];exact (fO _).symm▸ai)];exact O _ rfl
 rintro _ rfl;rw[Q,ak] at *;exact⟨rfl,_,rfl,by show 2<=1000;decide,av⟩
end
theorem Y1:(["gate"]:Aa Af).Nodup:=by decide +kernel
theorem Xb:(["gate","names"]:Aa Af).Nodup:=by decide +kernel
theorem Kt:(["one","names"]:Aa Af).Nodup:=by decide +kernel
theorem Vv:(["out","into","names"]:Aa Af).Nodup:=by decide +kernel
def R4:RD:=λf h i=>∃ (d c:Ad) (C:Cel) (b:Aa (Af×Af)),f=[d,c]/\h=[.r (.ref d),mN C b]/\RwOk C b/\C.names.length<=40/\C.outs.length<=40 /\
 ∀ (t:vQ) (e:Cel) (a:Aa (Af×Af)),Rnd C e b a (hL t)->RwOk e a->t.map (·.1)=C.names->i (.o (.l [mN e a,.k (mM t)]))
abbrev tQ (d:Ad) (C:Cel) (g:Aa (Af×Af)) (j l o p I J:Sl):Aa Sl:=[.v (.r (.ref d)),.v (mN C g),.v (tK C),j,l,o,p,I,J]
section
variable {P:Ah}{K:lL}
theorem xX:FnScope ["deck","row","cell","own","names","gates","ins","outs","along"] ["deck","row"] (mI Ho):=nU
theorem CU (T:Txt mg) (J:Kn P w K mg base 3 "_law_names" Bi ["deck","many"] Hf) (I:Kn P w K mg base 2 "_law_shuffled" Ec ["deck","some"] Iw)
: nZ P w K mg base 4 "_law_renamed" Ho ["deck","row"] R4:=by
 refine oI xX λf ao A ak s H E dk ds Φ hr G hR=>?_
 obtain⟨d,c,C,a,rfl,rfl,u,ln,lo,aj⟩:=hR;refine⟨_,(lM (lV 2 xX.nd (lT G 1 lN)) (lM (lV 3 xX.nd (nG oG oE (nE Lb L8 T.list jO (aD (lT G 2 lN) gV)) (nJ ["gate"] [] [] (mW (lT G 2 lN)) (λ_ _ _ _ _=>(lX 0 Y1)) (λ_ _ _ _ _=>(lT G 0 lN))))) (lM (lV 4 xX.nd (Eh rfl (by rfl) T.dict (by rfl) T.zip (aD (dT 3) (aD (lU J hr (aD (dT 0) (aD (pH sO sJ T.len cC (aD (dT 3) gV)) gV))) gV)))) (lM (lV 5 xX.nd (nE rL rV T.tuple bQ (aD (nJ ["gate"] ["names"] [4] (mW (lT G 2 lN)) (λ_ _ _ _ _=>(lX 0 Xb)) (λ_ _ _ _ _=>(mZ (aD (lT G 1 (lT G 0 lN)) (aD (lT G 0 lN) (aD (nE rL rV T.tuple bQ (aD (nJ ["one"] ["names"] [1] (mW (lT G 0 lN)) (λ_ _ _ _ _=>(lX 0 Kt)) (λ_ _ _ _ _=>(lT G 1 (dT 0)))) gV)) gV)))))) gV))) (lM (lV 6 xX.nd (nE rL rV T.tuple bQ (aD (nJ ["one"] ["names"] [4] (mW (lU I hr (aD (dT 0) (aD (lT G 2 lN) gV)))) (λ_ _ _ _ _=>(lX 0 Kt)) (λ_ _ _ _ _=>(lT G 1 (dT 0)))) gV))) (lM (lV 7 xX.nd (nE rL rV T.tuple bQ (aD (nJ ["one"] ["names"] [4] (mW (lU I hr (aD (dT 0) (aD (lT G 2 lN) gV)))) (λ_ _ _ _ _=>(lX 0 Kt)) (λ_ _ _ _ _=>(lT G 1 (dT 0)))) gV))) (lM (lV 8 xX.nd (nE rL rV T.tuple bQ (aD (nJ ["out","into"] ["names"] [4] (mW (lU I hr (aD (dT 0) (aD (lT G 1 lN) gV)))) (λ_ _ _ _ _=>(sB (n:=2) rfl (nL (lX 0 Vv) (nL (lX 1 Vv) rK)))) (λ_ _ _ _ _=>(mZ (aD (lT G 2 (dT 0)) (aD (lT G 2 (dT 1)) gV))))) gV))) (mL (nA (oJ (aD (mZ (aD (mZ (aD (dT 6) (aD (dT 5) (aD (dT 7) gV)))) (aD (dT 8) gV))) (aD (dT 4) gV)))))))))))),?_⟩;have li:=u.li;have lp:=u.lp;have lg:=u.gc.lg;have en:C.names=C.ins++C.gates.map (·.1):=rfl;refine lP (λb=>b=tQ d C a .n .n .n .n .n .n) (λN R=>⟨rfl,_,rfl,R _ rfl⟩) ?_;rintro _ rfl;refine lP (λb=>b=tQ d C a (.o (sl C.names)) .n .n .n .n .n) (λN R=>?_) ?_
 .unfold oD d2 dC aC;refine⟨rfl,_,rfl,_,rfl,?_⟩;refine oM C.gates nS (λg=>.str g.1) (tQ d C a .n .n .n .n .n .n) (λΨ h=>⟨rfl,_,rfl,h⟩) (by omega) (λj g ys Nx e Q X=>⟨rfl,_,rfl,Q,X⟩) ?_;refine⟨by show (C.ins.map D.str).length+(C.gates.map _).length<=100000;simp;omega,R _ ?_⟩;show tQ d C a (.o (.l (C.ins.map D.str++C.gates.map λg=>D.str g.1))) _ _ _ _ _=_;rw[show sl C.names=D.l (C.ins.map D.str++C.gates.map λg=>D.str g.1) by unfold sl;rw[en,List.map_append,List.map_map];rfl]
 rintro _ rfl;refine lP (λb=>∃ M:Aa Af,M.length=C.names.length/\M.Nodup/\(∀ x∈M,GoodName x)/\b=tQ d C a (.v (sl C.names)) (.o (.k (mM (C.names.zip M)))) .n .n .n .n) (λN R=>?_) ?_
 .refine⟨rfl,_,rfl,d,c,(C.names.map D.str).length,rfl,rfl,by rw[aA];exact ln,λM lx nd gn=>⟨.inl rfl,false,false,_,_,_,rfl,rfl,keysL_strs C.names,by rw[aA];omega,?_⟩⟩;have ac:M.length=C.names.length:=by rw[lx,aA]
  rw[Ma,Sx (by rw[Dl _ _ ac.symm];exact u.gc.nd)];exact R _ ⟨M,ac,nd,gn,rfl⟩
 rintro b ⟨M,lx,an,aq,rfl⟩;have tk:(C.names.zip M).map (·.1)=C.names:=Dl _ _ lx.symm;have ae:∀ o∈C.names,hL (C.names.zip M) o∈M:=λo S=>Ce lx.symm S
 have z:∀ o∈C.names,∀ o'∈C.names,hL (C.names.zip M) o=hL (C.names.zip M) o'->o=o':=λo S o' ai e=>Io lx.symm an S ai e
 generalize ht:C.names.zip M=t at tk ae z |-;have ky:∀ o∈C.names,o∈t.map (·.1):=λo S=>by rw[tk];exact S
 have aa:∀ o∈C.ins,o∈t.map (·.1):=λo S=>ky o (aL _ S)
 have ab:∀ o∈C.outs,o∈t.map (·.1):=λo S=>ky o (u.gc.os o S)
 have gP:∀ g∈C.gates,g.1∈C.names/\∀ p∈g.2.2,p∈C.names:=λg hg=>by
  refine⟨aJ _ (aE.mpr ⟨g,hg,rfl⟩),λp F=>?_⟩;obtain⟨j,hj,rfl⟩:=fJ hg;have Q:=(Cc u.gc.gt (i:=j) (g:=C.gates[j]) (aQ hj)).2 p F;rcases aV.mp Q with q | q
  .exact aL _ q
  .obtain⟨g',ah,rfl⟩:=aE.mp q;exact aJ _ (aE.mpr ⟨g',iJ ah,rfl⟩)
 have af:∀ g∈C.gates,g.2.2.length<=3:=λg hg=>by
  obtain⟨j,hj,rfl⟩:=fJ hg;have ag:=(Cc u.gc.gt (i:=j) (g:=C.gates[j]) (aQ hj)).1.ok;rcases ag with q | q | q | q | q<;>omega
 refine lP (λb=>b=tQ d C a (.v (sl C.names)) (.o (.k (mM t))) (.v (.t ((C.gates.map (ren (hL t))).map nS))) .n .n .n) (λN R=>?_) ?_
 .unfold oD dC aC;refine oM C.gates nS (λg=>nS (ren (hL t) g)) (tQ d C a (.v (sl C.names)) (.o (.k (mM t))) .n .n .n .n) (λΨ h=>⟨rfl,_,rfl,h⟩) (by omega) (λj g ys Nx e Q X=>?_) ?_
  .have hg:=aO e;refine⟨rfl,rfl,_,rfl,_,tH (ky _ (gP g hg).1),rfl,_,rfl,?_⟩;refine oM g.2.2 D.str (λp=>.str (hL t p)) [.v (nS g),.o (.k (mM t))] (λΨ h=>⟨rfl,_,rfl,h⟩) (by have:=af g hg;omega) (λj p ys Nx e Q X=>⟨rfl,_,tH (ky _ ((gP g hg).2 p (aO e))),Q,X⟩) ?_;refine⟨by show 3<=1000;decide,Q,?_⟩;have eE:nS (ren (hL t) g)=D.t [.str (hL t g.1),.str g.2.1,.t (g.2.2.map λp=>D.str (hL t p))]:=by
    unfold nS ren;rw[aF];rfl
   rw[eE] at X;exact X
  refine R _ ?_;rw[aF];rfl
 rintro _ rfl;refine lP (λb=>∃ B:Aa Af,B.Perm C.ins/\b=tQ d C a (.v (sl C.names)) (.o (.k (mM t))) (.v (.t ((C.gates.map (ren (hL t))).map nS))) (.v (.t ((B.map (hL t)).map D.str))) .n .n) (λN R=>?_) ?_
 .unfold oD dC aC sQ iV;refine⟨rfl,_,rfl,d,c,C.ins.map D.str,rfl,.inr rfl,by rw[aA];omega,λys F=>⟨.inl rfl,?_⟩⟩;obtain⟨B,U,rfl⟩:=Fa F;show ∃ Pv:Nat->Aa D->Aa Sl->Prop,_;refine yX (Φ:=λr Z=>dC Hz (aC (λ_ b k=>k r b) zR) [d,c] Z λr Y=>N (Y.set 6 r)) B D.str (λo=>.str (hL t o)) (tQ d C a (.v (sl C.names)) (.o (.k (mM t))) (.v (.t ((C.gates.map (ren (hL t))).map nS))) .n .n .n) (by rw[U.length_eq];omega) (λj o ys Nx e Q X=>⟨rfl,_,tH (aa o (U.mem_iff.mp (aO e))),Q,X⟩) ?_;refine R _ ⟨B,U,?_⟩;rw[aF (l:=B)];rfl
 rintro b ⟨B,U,rfl⟩;refine lP (λb=>∃ O:Aa Af,O.Perm C.outs/\b=tQ d C a (.v (sl C.names)) (.o (.k (mM t))) (.v (.t ((C.gates.map (ren (hL t))).map nS))) (.v (.t ((B.map (hL t)).map D.str))) (.v (.t ((O.map (hL t)).map D.str))) .n) (λN R=>?_) ?_
 .unfold oD dC aC sQ iV;refine⟨rfl,_,rfl,d,c,C.outs.map D.str,rfl,.inr rfl,by rw[aA];omega,λys F=>⟨.inl rfl,?_⟩⟩;obtain⟨O,pO,rfl⟩:=Fa F;show ∃ Pv:Nat->Aa D->Aa Sl->Prop,_;refine yX (Φ:=λr Z=>dC Hz (aC (λ_ b k=>k r b) zR) [d,c] Z λr Y=>N (Y.set 7 r)) O D.str (λo=>.str (hL t o)) (tQ d C a (.v (sl C.names)) (.o (.k (mM t))) (.v (.t ((C.gates.map (ren (hL t))).map nS))) (.v (.t ((B.map (hL t)).map D.str))) .n .n) (by rw[pO.length_eq];omega) (λj o ys Nx e Q X=>⟨rfl,_,tH (ab o (pO.mem_iff.mp (aO e))),Q,X⟩) ?_;refine R _ ⟨O,pO,?_⟩;rw[aF (l:=O)];rfl
 rintro b ⟨O,pO,rfl⟩;refine lP (λb=>∃ W:Aa (Af×Af),W.Perm a/\b=tQ d C a (.v (sl C.names)) (.o (.k (mM t))) (.v (.t ((C.gates.map (ren (hL t))).map nS))) (.v (.t ((B.map (hL t)).map D.str))) (.v (.t ((O.map (hL t)).map D.str))) (.v (.t ((W.map λp=>(hL t p.1,hL t p.2)).map λp=>D.t [.str p.1,.str p.2])))) (λN R=>?_) ?_
 .unfold oD dC aC sQ iV;refine⟨rfl,_,rfl,d,c,a.map qB,rfl,.inr rfl,by rw[aA];omega,λys F=>⟨.inl rfl,?_⟩⟩;obtain⟨W,V,rfl⟩:=Pb F;show ∃ Pv:Nat->Aa D->Aa Sl->Prop,_;refine yX (Φ:=λr Z=>dC Hz (aC (λ_ b k=>k r b) zR) [d,c] Z λr Y=>N (Y.set 8 r)) W qB (λp=>.t [.str (hL t p.1),.str (hL t p.2)]) (tQ d C a (.v (sl C.names)) (.o (.k (mM t))) (.v (.t ((C.gates.map (ren (hL t))).map nS))) (.v (.t ((B.map (hL t)).map D.str))) (.v (.t ((O.map (hL t)).map D.str))) .n) (by rw[V.length_eq];omega) (λj p ys Nx e Q X=>?_) ?_
  .have hm:=u.m p (V.mem_iff.mp (aO e));exact⟨rfl,rfl,rfl,_,tH (ab _ hm.1),rfl,_,tH (aa _ hm.2),by show 2<=1000;decide,Q,X⟩
  refine R _ ⟨W,V,?_⟩;rw[aF (l:=W)];rfl
 rintro b ⟨W,V,rfl⟩;have fin:=aj t ⟨B.map (hL t),C.gates.map (ren (hL t)),O.map (hL t)⟩ (W.map λp=>(hL t p.1,hL t p.2)) ?_ ?_ tk
 .exact⟨by show 3<=1000;decide,by show 2<=1000;decide,by show 2<=1000;decide,fin⟩
 .exact⟨z,U.map _,rfl,pO.map _,V.map _⟩
 have eN:(C.gates.map (ren (hL t))).map (·.1)=(C.gates.map (·.1)).map (hL t):=by rw[aF,aF];rfl
 have L:(B++C.gates.map (·.1)).Perm C.names:=U.append_right _;have iO:∀ o∈O,o∈C.names:=λo S=>u.gc.os o (pO.mem_iff.mp S)
 have nN:(Cel.mk (B.map (hL t)) (C.gates.map (ren (hL t))) (O.map (hL t))).names=(B++C.gates.map (·.1)).map (hL t):=by
  show B.map (hL t)++(C.gates.map (ren (hL t))).map (·.1)=_;rw[eN,<- aR]
 refine⟨⟨?_,?_,?_,?_,?_,?_,?_⟩,?_,?_,?_,?_,?_⟩
 .rw[nN];exact uL (L.nodup_iff.mpr u.gc.nd) λx hx y hy e=>z x (L.mem_iff.mp hx) y (L.mem_iff.mp hy) e
 .exact (nC.more (λx hx=>U.mem_iff.mpr hx) u.gc.gt).ren (hL t)
 .intro o S;obtain⟨q,hq,rfl⟩:=aE.mp S;rw[nN];exact aE.mpr ⟨q,L.mem_iff.mpr (iO q hq),rfl⟩
 .exact uL (pO.nodup_iff.mpr u.gc.ond) λx hx y hy e=>z x (iO x hx) y (iO y hy) e
 .show (B.map (hL t)).length<=40;rw[aA,U.length_eq];omega
 .show (C.gates.map _).length<=40;rw[aA];exact lg
 .show (O.map (hL t)).length<=40;rw[aA,pO.length_eq];exact lo
 .rw[aF];have:(W.map (·.1)).map (hL t)=W.map ((·.1)∘λp:Af×Af=>(hL t p.1,hL t p.2)):=by rw[aF];rfl
  rw[<- this];refine uL ((V.map _).nodup_iff.mpr u.n1) λx hx y hy e=>z x ?_ y ?_ e
  .obtain⟨p,F,rfl⟩:=aE.mp hx;exact u.gc.os _ (u.m p (V.mem_iff.mp F)).1
  .obtain⟨p,F,rfl⟩:=aE.mp hy;exact u.gc.os _ (u.m p (V.mem_iff.mp F)).1
 .rw[aF];have:(W.map (·.2)).map (hL t)=W.map ((·.2)∘λp:Af×Af=>(hL t p.1,hL t p.2)):=by rw[aF];rfl
  rw[<- this];refine uL ((V.map _).nodup_iff.mpr u.n2) λx hx y hy e=>z x ?_ y ?_ e
  .obtain⟨p,F,rfl⟩:=aE.mp hx;exact aL _ (u.m p (V.mem_iff.mp F)).2
  .obtain⟨p,F,rfl⟩:=aE.mp hy;exact aL _ (u.m p (V.mem_iff.mp F)).2
 .intro p F;obtain⟨q,hq,rfl⟩:=aE.mp F;have hm:=u.m q (V.mem_iff.mp hq);exact⟨aE.mpr ⟨q.1,pO.mem_iff.mpr hm.1,rfl⟩,aE.mpr ⟨q.2,U.mem_iff.mpr hm.2,rfl⟩⟩
 .show (B.map (hL t)).length<=6;rw[aA,U.length_eq];exact li
 .rw[aA,V.length_eq];exact lp
end
end Lw
namespace L2
open PySem PySem.Spec PyProof.Rows Lw
section
variable {X:Cx}
def Co (H:Hp) (x y:V):Prop:=∃ (a b:Ad) (c d:Aa (hI×V)),x = .ref a/\y = .ref b/\H a=some (.k c)/\H b=some (.k d)/\c.length=d.length/\∀ p∈c,∃ w,oV d p.1=some w/\pZ p.2=true/\pZ w=true/\oS p.2 w=true
theorem Co.now (I:Inv X g p H s) (h:Co H x y) (l:mC x u) (o:mC y v) (j:A.units<cLine):xZ X.prog X.w A s u v:=by
 obtain⟨a,b,c,G,rfl,rfl,n,t,F,B⟩:=h;cases l;cases o;by_cases e:a=b
 .subst e;exact λE Q q=>SeqAt.EqAt.same _ X.prog X.w E Q q
 intro E Q q;obtain⟨L,d1,i,d,k⟩:=zO I.hok n;obtain⟨M,d2,K,f,m⟩:=zO I.hok t;have D:i.length=K.length:=by rw[<- d.length,<- f.length];exact F
 unfold eqBool;refine bX (wpAny_ite_split (λz=>absurd (Value.ref.inj (eq_of_beq z)) e) λ_=>aB ?_);refine PySem.W.keq_eq d1 d2 k m j (λ_=>NF f c i d B) (eQ ?_);rw[D];simpa using q
def Sa:R2:=λx y H Q=>∃ (l m:Ad) (p q a c:V),x = .ref l/\y = .ref m/\H l=some (.t [p,q])/\H m=some (.t [a,c])/\Co H p a/\Co H q c/\Q (.b true) H
theorem IB (g:X.A.units+64<cLine):mO X (compareOp .Eq) Sa:=by
 intro i s Z H x y v u Q I L M h;obtain⟨l,m,p,q,W,Y,rfl,rfl,w,z,N,O,k⟩:=h;cases L;cases M;obtain⟨B,F,D,_⟩:=I.tuple (mF.of (K:=X.K) w);obtain⟨f,G,E,_⟩:=I.tuple (mF.of (K:=X.K) z);obtain⟨P,R,n,a,c⟩:=yI F;obtain⟨S,V,t,d,e⟩:=yI G;subst n t;exact Y6 D E (by omega) (N.now I a d (by rw[jX];omega)) (O.now I c e (by rw[jX];omega)) ⟨.b true,H,I,rfl,k⟩
end
def GO:O2:=λd e i=>∃ f h a c:lZ,d = .t [.k (dK f),.k (dK h)]/\e = .t [.k (dK a),.k (dK c)]/\f.Perm a/\h.Perm c/\(a.map (·.1)).Nodup/\(c.map (·.1)).Nodup/\i (.v (.b true))
theorem Uy (g:H a=some (.k (vT t))) (j:H b=some (.k (vT s))) (p:t.Perm s) (l:(s.map (·.1)).Nodup):Co H (.ref a) (.ref b):=by
 refine⟨a,b,_,_,rfl,rfl,g,j,by unfold vT;rw[List.length_map,List.length_map,p.length_eq],λq c=>?_⟩;obtain⟨r,d,rfl⟩:=aE.mp c;exact⟨_,P8 l (p:=r) (p.mem_iff.mp d),rfl,rfl,gO (α:=Int) r.2⟩
theorem IM {K:lL}:oU K Sa GO:=by
 intro B L H d e x y Z Q hd F G s k;obtain⟨V,W,R,S,rfl,rfl,D,E,z,A,f⟩:=s;obtain⟨l,Y,rfl,t,a⟩:=F.tup_inv;obtain⟨m,X,rfl,u,c⟩:=G.tup_inv;cases a with
 | cons h a =>
 cases a with
 | cons i a =>
 cases a;cases c with
 | cons n c =>
 cases c with
 | cons q c =>
 cases c;obtain⟨M,rfl,_,g1⟩:=Hn h;obtain⟨N,rfl,_,g2⟩:=Hn i;obtain⟨O,rfl,_,v⟩:=Hn n;obtain⟨P,rfl,_,w⟩:=Hn q;exact⟨l,m,_,_,_,_,rfl,rfl,t,u,Uy g1 v D z,Uy g2 w E A,k _ _ H f (hd.pushF (.b _))⟩
end L2
namespace Lw
open PySem L2
def N9:RD:=λe f h=>∃ (d c:Ad) (C:Cel) (a:Aa (Af×Af)),e=[d,c]/\f=[.r (.ref d),mN C a]/\RwOk C a/\C.names.length<=40/\C.outs.length<=40/\h (.v (.b true))
theorem J3 (t:vQ) (s:lZ):(oR t s).map (·.1)=(s.map (·.1)).map (hL t):=by unfold oR;rw[List.map_map,List.map_map];rfl
theorem Gp (inj:L6 (hL t) l) (g:∀ x∈s.map (·.1),x∈l) (j:(s.map (·.1)).Nodup):((oR t s).map (·.1)).Nodup:=by
 rw[J3];exact uL j λx h y k e=>inj x (g x h) y (g y k) e
theorem S8 (j:((oR t s).map (·.1)).Nodup) (h:x∈s.map (·.1)) (g:(s.map (·.1)).Nodup):gD (oR t s) (hL t x)=gD s x:=by
 obtain⟨p,a,rfl⟩:=aE.mp h;rw[rM g a];exact rM (p:=(hL t p.1,p.2)) j (aE.mpr ⟨p,a,rfl⟩)
abbrev xI (d:Ad) (C:Cel) (g:Aa (Af×Af)) (j l o p I J T U:Sl):Aa Sl:=[.v (.r (.ref d)),.v (mN C g),j,l,o,p,I,J,T,U]
section
variable {P:Ah}{K:lL}
theorem wQ:FnScope ["deck","row","width","low","words","edges","found","other","names","again"] ["deck","row"] (mI Fv):=nU
theorem X7 (T:Txt mg) (I:Kn P w K mg base 1 "_law_take" sZ ["deck","many"] wX) (l:Kn P w K mg base 2 "_law_drawn_words" Ea ["deck","names","width"] Iu) (j:Kn P w K mg base 2 "_law_drawn_edges" Cf ["deck","row"] Kc) (J:Kn P w K mg base 1 "_law_words_of" Cb ["row"] K8) (ab:Kn P w K mg base 3 "laid" Ay ["row","width","words","edges"] E2) (aa:Kn P w K mg base 4 "_law_parted" Fw ["row","width","low","words","edges"] Pk) (U:Kn P w K mg base 4 "_law_renamed" Ho ["deck","row"] R4) (g:Kn P w K mg base 1 "_law_by" E6 ["names","some"] Nn)
: nZ P w K mg base 5 "_law_right" Fv ["deck","row"] N9:=by
 refine oI wQ λf a6 A a4 s H E dk ds Φ G hu R=>?_
 obtain⟨d,c,C,a,rfl,rfl,z,ln,lo,a0⟩:=R;refine⟨_,(lM (lV 2 wQ.nd (nG oG oE lN (lU I G (aD (dT 0) (aD lN gV))))) (lM (lV 3 wQ.nd (nG oG oE lN (lU I G (aD (dT 0) (aD (qY vM xW 2 lN) gV))))) (lM (lV 4 wQ.nd (lU l G (aD (dT 0) (aD (tJ hu (lU J G (aD (dT 1) gV)) lN) (aD (dT 2) gV))))) (lM (lV 5 wQ.nd (lU j G (aD (dT 0) (aD (dT 1) gV)))) (lM (lV 6 wQ.nd (lU ab G (aD (dT 1) (aD (dT 2) (aD (dT 4) (aD (dT 5) gV)))))) (lM (wP (tY (IV G.units) HG (pv 6) (lU aa G (aD (dT 1) (aD (dT 2) (aD (dT 3) (aD (dT 4) (aD (dT 5) gV))))))) (mL (nA J8)) wM) (lM (J2 (m:=99) (lU U G (aD (dT 0) (aD (dT 1) gV))) (Sk (n:=2) rfl (nL (lX 7 wQ.nd) (nL (lX 8 wQ.nd) rK)))) (lM (lV 9 wQ.nd (lU ab G (aD (dT 7) (aD (dT 2) (aD (lU g G (aD (dT 8) (aD (dT 4) gV))) (aD (lU g G (aD (dT 8) (aD (dT 5) gV))) gV)))))) (mL (nA (F2 (IB G.units) IM (pv 9) (mZ (aD (lU g G (aD (dT 8) (aD (lT hu 6 lN) gV))) (aD (lU g G (aD (dT 8) (aD (lT hu 6 lN) gV))) gV)))))))))))))),?_⟩;have li:=z.li;have lp:=z.lp;refine lP (λL=>∃ W:Nat,2<=W/\W<=40/\L=xI d C a (.v (.int W)) .n .n .n .n .n .n .n) (λN F=>?_) ?_
 .exact⟨d,c,39,rfl,rfl,by decide,by decide,λr k=>⟨.inl rfl,F _ ⟨2+r,by omega,by omega,by push_cast;rfl⟩⟩⟩
 rintro _ ⟨W,w2,a5,rfl⟩;refine lP (λL=>∃ low:Nat,low<W/\L=xI d C a (.v (.int W)) (.v (.int low)) .n .n .n .n .n .n) (λN F=>?_) ?_
 .refine⟨rfl,d,c,W-1,rfl,?_,by omega,by omega,λr k=>⟨.inl rfl,F _ ⟨1+r,by omega,by push_cast;rfl⟩⟩⟩;show [D.r (.ref d),.int ((W:Int)-1)]=_;rw[show ((W:Int)-1)=((W-1:Nat):Int) by omega]
 rintro _ ⟨low,aq,rfl⟩;have a7:(wIns C a).length<=C.ins.length:=cJ ..;refine lP (λL=>∃ i:lZ,i.map (·.1)=wIns C a/\L=xI d C a (.v (.int W)) (.v (.int low)) (.o (.k (dK i))) .n .n .n .n .n) (λN F=>?_) ?_
 .exact⟨C,a,rfl,by omega,by omega,by omega,.inl rfl,_,rfl,d,c,wIns C a,W,rfl,rfl,yY z.gc,by omega,a5,λi hk _=>⟨.inl rfl,F _ ⟨i,hk,rfl⟩⟩⟩
 rintro _ ⟨i,kw,rfl⟩;refine lP (λL=>∃ e:lZ,e.map (·.1)=a.map (·.2)/\(∀ p∈e,mH p.2)/\L=xI d C a (.v (.int W)) (.v (.int low)) (.o (.k (dK i))) (.o (.k (dK e))) .n .n .n .n) (λN F=>?_) ?_
 .exact⟨d,c,C,a,rfl,rfl,z.n2,by omega,λe hk hb=>⟨.inl rfl,F _ ⟨e,hk,hb,rfl⟩⟩⟩
 rintro _ ⟨e,ke,hb,rfl⟩;have ah:(i.map (·.1)).Nodup:=by rw[kw];exact yY z.gc
 have ag:(e.map (·.1)).Nodup:=by rw[ke];exact z.n2
 have vw:∀ x∈wIns C a,x∈i.map (·.1):=λx y=>by rw[kw];exact y
 have ve:∀ p∈a,p.2∈e.map (·.1):=λp B=>by rw[ke];exact aE.mpr ⟨p,B,rfl⟩
 have be:∀ p∈a,mH (gD e p.2):=λp B=>hb _ (Cs (ve p B))
 obtain⟨u,Y⟩:∃ u,u=uB C a (gD i) (gD e):=⟨_,rfl⟩;obtain⟨O,X⟩:∃ O,O=mV C a u W:=⟨_,rfl⟩;obtain⟨M,V⟩:∃ M,M=a.map λp=>(p.1,mK (gD e) u W p):=⟨_,rfl⟩
 have af:O.map (·.1)=wOuts C a:=by rw[X];unfold mV;rw[List.map_map];exact fO _
 have ac:M.map (·.1)=a.map (·.1):=by rw[V,aF];rfl
 have aj:(O.map (·.1)).Nodup:=by rw[af];exact Bq z.gc
 have ai:(M.map (·.1)).Nodup:=by rw[ac];exact z.n1
 refine lP (λL=>L=xI d C a (.v (.int W)) (.v (.int low)) (.v (.k (dK i))) (.v (.k (dK e))) (.v (.t [.k (dK O),.k (dK M)])) .n .n .n) (λN F=>?_) ?_
 .refine⟨C,a,W,dK i,dK e,gD i,gD e,u,rB C a (gD i) (gD e),rfl,z.row,by rw[Y];exact vA z be W,by omega,λx y=>(nI i x).1 (vw x y),λp B=>(nI e p.2).1 (ve p B),.inl rfl,?_⟩;rw[<- X,<- V];exact F _ rfl
 rintro _ rfl;refine lP (λL=>L=xI d C a (.v (.int W)) (.v (.int low)) (.v (.k (dK i))) (.v (.k (dK e))) (.v (.t [.k (dK O),.k (dK M)])) .n .n .n) (λN F=>?_) ?_
 .refine⟨rfl,C,a,W,low,i,e,rfl,z,kw,ke,hb,aq,by omega,.inl rfl,?_⟩;rw[<- Y,<- X,<- V];exact⟨_,_,rfl,rfl,P5 aj,P5 ai,zY rfl (F _ rfl)⟩
 rintro _ rfl;refine lP (λL=>∃ (t:vQ) (Q:Cel) (b:Aa (Af×Af)),Rnd C Q a b (hL t)/\RwOk Q b/\t.map (·.1)=C.names/\L=xI d C a (.v (.int W)) (.v (.int low)) (.v (.k (dK i))) (.v (.k (dK e))) (.v (.t [.k (dK O),.k (dK M)])) (.v (mN Q b)) (.v (.k (mM t))) .n) (λN F=>?_) ?_
 .exact⟨d,c,C,a,rfl,rfl,z,ln,lo,λt Q b h1 h2 h3=>⟨.inl rfl,rfl,rfl,F _ ⟨t,Q,b,h1,h2,h3,rfl⟩⟩⟩
 rintro _ ⟨t,Q,b,R,S,kt,rfl⟩;have aw:∀ x∈C.ins,x∈C.names:=λx y=>aL _ y
 have ay:∀ x∈i.map (·.1),x∈C.names:=λx y=>by rw[kw] at y;exact aw x (bT.mp y).1
 have au:∀ x∈e.map (·.1),x∈C.names:=λx y=>by
  rw[ke] at y;obtain⟨p,B,rfl⟩:=aE.mp y;exact aw _ (z.m p B).2
 have ax:∀ x∈O.map (·.1),x∈C.names:=λx y=>by rw[af] at y;exact z.gc.os _ (bT.mp y).1
 have av:∀ x∈M.map (·.1),x∈C.names:=λx y=>by
  rw[ac] at y;obtain⟨p,B,rfl⟩:=aE.mp y;exact z.gc.os _ (z.m p B).1
 have kk:∀ s:lZ,(∀ x∈s.map (·.1),x∈C.names)->∀ p∈s,p.1∈t.map (·.1):=λs h p B=>by rw[kt];exact h _ (aE.mpr ⟨p,B,rfl⟩)
 have bw:=Gp R.inj ay ah;have bE:=Gp R.inj au ag;have bo:=Gp R.inj ax aj;have bf:=Gp R.inj av ai;have lw:i.length<=1000:=by have:=bY List.length kw;rw[aA] at this;omega
 have a1:e.length<=1000:=by have:=bY List.length ke;rw[aA,aA] at this;omega
 have a3:O.length<=1000:=by
  have:=bY List.length af;have h2:(wOuts C a).length<=C.outs.length:=cJ ..;rw[aA] at this;omega
 have a2:M.length<=1000:=by have:=bY List.length ac;rw[aA,aA] at this;omega
 have ar:∀ x∈wIns C a,gD (oR t i) (hL t x)=gD i x:=λx y=>S8 bw (vw x y) ah
 have Z:∀ p∈a,gD (oR t e) (hL t p.2)=gD e p.2:=λp B=>S8 bE (ve p B) ag
 have az:∀ p∈b,mH (gD (oR t e) p.2):=λp B=>by
  obtain⟨q,hq,rfl⟩:=aE.mp (R.prs.mem_iff.mp B);show mH (gD (oR t e) (hL t q.2));rw[Z q hq];exact be q hq
 obtain⟨ao,an⟩:∃ ao,ao=mV Q b (uB Q b (gD (oR t i)) (gD (oR t e))) W:=⟨_,rfl⟩;obtain⟨ae,ak⟩:∃ ae,ae=b.map λp=>(p.1,mK (gD (oR t e)) (uB Q b (gD (oR t i)) (gD (oR t e))) W p):=⟨_,rfl⟩
 refine lP (λL=>L=xI d C a (.v (.int W)) (.v (.int low)) (.v (.k (dK i))) (.v (.k (dK e))) (.v (.t [.k (dK O),.k (dK M)])) (.v (mN Q b)) (.v (.k (mM t))) (.v (.t [.k (dK ao),.k (dK ae)]))) (λN F=>?_) ?_
 .refine⟨t,i,rfl,kk i ay,ah,bw,lw,.inl rfl,t,e,rfl,kk e au,ag,bE,a1,.inl rfl,Q,b,W,dK (oR t i),dK (oR t e),gD (oR t i),gD (oR t e),_,_,rfl,S.row,vA S az W,by omega,λx y=>(nI _ x).1 ?_,λp B=>(nI _ p.2).1 ?_,.inl rfl,?_⟩
  .rw[J3,kw];exact (R.wIns z).mem_iff.mp y
  .rw[J3,ke];obtain⟨q,hq,rfl⟩:=aE.mp (R.prs.mem_iff.mp B);exact aE.mpr ⟨q.2,aE.mpr ⟨q,hq,rfl⟩,rfl⟩
  rw[<- an,<- ak];exact F _ rfl
 rintro _ rfl;have p1:ao.Perm (oR t O):=by
  rw[an,X,Y];exact R.outs_are z S ar Z be W
 have p2:ae.Perm (oR t M):=by
  rw[ak,V,Y];exact R.ends_are z S ar Z be W
 exact⟨rfl,rfl,_,rfl,t,O,rfl,kk O ax,aj,bo,a3,.inl rfl,rfl,_,rfl,t,M,rfl,kk M av,ai,bf,a2,.inl rfl,by show 2<=1000;decide,ao,ae,oR t O,oR t M,rfl,rfl,p1,p2,bo,bf,a0⟩
end
theorem NG (R:RwOk C g) (h:Bm C g t) (o:∀ p∈g,mH (l p.2)) (W:Nat):zZ C g t wf l (uB C g wf l) W=0:=by
 rw[Ob R];have e:∀ j,qR C g t (uB C g wf l j)=0:=λj=>by
  have r:=vA R (wf:=wf) o (j+1);rw[r.uu j (by omega)];exact h _ (r.bits R.row j (by omega)).1
 rw[Bl W λj _=>by rw[e j,kM]];exact T0 W
theorem Qw (R:RwOk C g) (h:Bm C g t):∀ (j:Aa (Aa Int)) (c:Aa Int),(∀ l∈j,l∈mD (wIns C g).length)->c∈mD g.length->xM C g t c j=0
 | [],_,_,_=>rfl
 | l::j,c,e,d=>by
  have b:=e l aH;obtain⟨f,i⟩:=vJ d;obtain⟨m,n⟩:=vJ b;obtain⟨_,_,k⟩:=Lj R f m i n;show pY C g t c l+2*xM C g t (sI C g c l) j=0;rw[Qw R h j _ (λx a=>e x (aM _ a)) (Tg R d b)];have:pY C g t c l=0:=h _ λx a=>(k x a).2
  rw[this];rfl
theorem IW (R:RwOk C g) (h:Bm C g t) (j:c∈mD g.length) (W:Nat):sm C g t W c=some 0:=(Mp C g t W c 0).mpr λa hw=>Qw R h a c hw.2 j
theorem AJ:(["carried","table","sums"]:Aa Af).Nodup:=by decide +kernel
theorem Wz:(["carried"]:Aa Af).Nodup:=by decide +kernel
theorem HK:(["edges","sums"]:Aa Af).Nodup:=by decide +kernel
def rQ (C:Cel) (g:Aa (Af×Af)) (t:lZ) (n:Nat):D:=.T ((mD g.length).map λc=>(c.map (Sum.inl:Int->hI),oB (sm C g t n c)))
theorem Q1 (f:Aa Int->D):∀ (bs as:Aa (Aa Int)),(as++bs).Nodup->rJ mY (as.map λc=>(c.map (Sum.inl:Int->hI),f c)) (bs.map λc=>(c,f c))=(as++bs).map λc=>(c.map (Sum.inl:Int->hI),f c)
 | [],as,_=>by rw[dM];rfl
 | b::bs,as,h=>by
  have n:b∉as:=λq=>(bB.mp h).2.2 b q b (by simp) rfl
  have e:rJ mY (as.map λc=>(c.map (Sum.inl:Int->hI),f c)) ((b::bs).map λc=>(c,f c))=rJ mY (mY (as.map λc=>(c.map (Sum.inl:Int->hI),f c)) (b.map Sum.inl) (f b)) (bs.map λc=>(c,f c)):=rfl;have d:mY (as.map λc=>(c.map (Sum.inl:Int->hI),f c)) (b.map Sum.inl) (f b)=(as++[b]).map λc=>(c.map (Sum.inl:Int->hI),f c):=by
   unfold mY;rw[aN,aR]
   .rfl
   .intro z;rw[iL] at z;obtain⟨p,s,e⟩:=z;obtain⟨c,m,rfl⟩:=aE.mp s;have e:c.map (Sum.inl:Int->hI)=b.map Sum.inl:=cW e;have:c=b:=by
     have inj:∀ x y:Aa Int,x.map (Sum.inl:Int->hI)=y.map Sum.inl->x=y:=by
      intro x;induction x with
      | nil=>intro y h;cases y with
       | nil=>rfl
       | cons _ _=>cases h
      | cons a x t=>intro y h;cases y with
       | nil=>cases h
       | cons b y =>
        obtain⟨i,k⟩:=eI h;rw[Sum.inl.inj i,t y k]
     exact inj _ _ e
    exact n (this▸m)
  rw[e,d,Q1 f bs (as++[b]) (by rw[bM];exact h),bM];rfl
theorem M3 (f:Aa Int->D) (n:Nat):rJ mY [] ((mD n).map λc=>(c,f c))=(mD n).map λc=>(c.map (Sum.inl:Int->hI),f c):=Q1 f (mD n) [] (by rw[fY];exact I0 n)
def Th:RD:=λe b d=>∃ (C:Cel) (a:Aa (Af×Af)) (t:lZ) (c:Aa Int) (n:Nat),b=[sV C a t c,rQ C a t n]/\RwOk C a/\c∈mD a.length/\d (.v (oB (sm C a t (n+1) c)))
def Tj:RD:=λd b c=>∃ (C:Cel) (a:Aa (Af×Af)) (t:lZ) (n:Nat),b=[vB C a t,rQ C a t n]/\RwOk C a/\c (.o (rQ C a t (n+1)))
def My:RD:=λi f h=>∃ (C:Cel) (a:Aa (Af×Af)) (t:lZ) (c:Aa (hI×D)) (d:Af->Ab Int) (W:Nat),f=[mN C a,.t [.k c,.k (dK t)],.int W]/\RwOk C a/\(∀ p∈a,lW c (Sum.inr p.2)=some (oB (d p.2)))/\W<=60/\∀ b:Bool,(b=true↔∀ e∈Ds a d,sm C a t W e=some 0)->h (.v (.b b))
section
variable {P:Ah}{K:lL}
theorem A3:FnScope ["steps","sums","found","bits","behind","whole"] ["steps","sums"] (mI Ez):=nU
theorem CJ:FnScope ["table","sums"] ["table","sums"] (mI Ev):=nU
theorem C8:FnScope ["row","claim","width","table","sums","place"] ["row","claim","width"] (mI Hy):=nU
theorem IT (T:Txt mg):nZ P w K mg base 1 "only_sum" Ez ["steps","sums"] Th:=by
 refine oI A3 λf p A Y s H E dk ds Φ U G I=>?_
 obtain⟨C,a,t,c,n,rfl,r,J,k⟩:=I;refine⟨_,(lM (lV 2 A3.nd As) (lM (OF (m:=99) gA rfl (dT 0) (lX 3 A3.nd) (lM (lV 4 A3.nd (lT G 1 (tJ G (lT G 0 (dT 3)) lN))) (lM (wP (tY Pm (Ls false) (pv 4) As) (mL (nA As)) wM) (lM (lV 5 A3.nd (nG oG oE (tJ G (lT G 0 (dT 3)) lN) (nG xB xE lN (dT 4)))) (lM (wP (Ph (LW (tY Yg (Ls true) (pv 2) As) (Xj (tY (I3 U.units) (uE true) (pv 2) (dT 5))))) (mL (nA As)) wM) (mL (lV 2 A3.nd (dT 5)))))))) (mL (nA (dT 2))))),?_⟩;obtain⟨L,Q⟩:∃ L,L=(mD (wIns C a).length).map λl=>(sm C a t n (sI C a c l)).map λb=>pY C a t c l+2*b:=⟨_,rfl⟩
 have W:sm C a t (n+1) c=pT none L:=by rw[Q];rfl
 rw[W] at k;refine lP (λq=>q=_) (λN R=>R _ rfl) ?_;rintro _ rfl;refine lP (λq=>∃ B D y,q=[.v (sV C a t c),.v (rQ C a t n),.v (oB (pT none L)),B,D,y]) (λN R=>?_) ?_
 .refine rG ((mD (wIns C a).length).map nF) _ (λΨ h=>?_) (λi q=>∃ (e:Ab Int) (B D y:Sl),pT e (L.drop i)=pT none L/\q=[.v (sV C a t c),.v (rQ C a t n),.v (oB e),B,D,y]) ⟨none,.n,.n,.n,by rw[jN],rfl⟩ ?_ ?_
  .show Ψ (sM _) _;rw[Et];exact h
  .rintro i x q hx ⟨e,B,D,y,d,rfl⟩;obtain⟨l,g,rfl⟩:=sU hx;have o:=aO g;have j:=Gj (Bj C a t c) o;have X:=Gj (λc=>oB (sm C a t n c)) (Tg r J o);have F:L[i]?=some ((sm C a t n (sI C a c l)).map λb=>pY C a t c l+2*b):=by rw[Q,bC,g];rfl
   have S:L.drop i=((sm C a t n (sI C a c l)).map λb=>pY C a t c l+2*b)::L.drop (i+1):=by
    rw[iP (aU.mp F).1];rw[(aU.mp F).2]
   rw[S] at d;refine lP (λq=>q=[.v (sV C a t c),.v (rQ C a t n),.v (oB e),.v (nF l),.v (oB (sm C a t n (sI C a c l))),y]) (λZ u=>?_) ?_
   .exact⟨rfl,rfl,_,j,_,rfl,_,X,u _ rfl⟩
   rintro _ rfl;refine lP (λq=>∃ b:Int,sm C a t n (sI C a c l)=some b/\q=[.v (sV C a t c),.v (rQ C a t n),.v (oB e),.v (nF l),.v (.int b),y]) (λZ u=>?_) ?_
   .refine⟨rfl,?_⟩;cases M:sm C a t n (sI C a c l) with
    | none =>
     rw[M] at d;have z:pT none L=none:=by
      rw[<- d];cases e<;>rfl
     rw[z] at k;exact k
    | some b=>exact u _ ⟨b,M,rfl⟩
   rintro _ ⟨b,M,rfl⟩
   .rw[M] at d;refine lP (λq=>q=[.v (sV C a t c),.v (rQ C a t n),.v (oB e),.v (nF l),.v (.int b),.v (.int (pY C a t c l+2*b))]) (λZ u=>?_) ?_
    .exact⟨rfl,_,j,_,rfl,.inl ⟨by decide,by decide⟩,u _ rfl⟩
    rintro _ rfl;have d:pT e (some (pY C a t c l+2*b)::L.drop (i+1))=pT none L:=d;have last:pT (some (pY C a t c l+2*b)) (L.drop (i+1))=pT none L->∃ (e:Ab Int) (B D y:Sl),pT e (L.drop (i+1))=pT none L/\([.v (sV C a t c),.v (rQ C a t n),.v (.int (pY C a t c l+2*b)),.v (nF l),.v (.int b),.v (.int (pY C a t c l+2*b))]:Aa Sl)=[.v (sV C a t c),.v (rQ C a t n),.v (oB e),B,D,y]:=λh=>⟨_,_,_,_,h,rfl⟩
    cases e with
    | none=>exact⟨rfl,last d⟩
    | some v =>
     have d:(if v=pY C a t c l+2*b then pT (some (pY C a t c l+2*b)) (L.drop (i+1)) else none)=pT none L:=d;refine⟨rfl,rfl,?_⟩;show if (!decide (v=pY C a t c l+2*b))=true then _ else _
     by_cases O:v=pY C a t c l+2*b
     .rw[aT O] at d;rw[cB O];exact tS (last d)
     .rw[aN O] at d;rw[<- d] at k;rw[bR O];exact (aT rfl).mpr k
  .rintro q ⟨e,B,D,y,d,rfl⟩;have V:L.length=(mD (wIns C a).length).length:=by rw[Q,aA]
   rw[aA,<- V,List.drop_length] at d;refine R _ ⟨B,D,y,?_⟩;rw[<- d];rfl
 rintro _ ⟨B,D,y,rfl⟩;exact k
theorem Wd (T:Txt l) (g:Kn P w K l base 1 "only_sum" Ez ["steps","sums"] Th):nZ P w K l base 2 "sums_with_one_more" Ev ["table","sums"] Tj:=by
 refine oI CJ λf q A d s H E M N Q m F z=>?_
 obtain⟨C,a,t,n,rfl,k,b⟩:=z;refine⟨_,(mL (nA (nE (M5 rfl (Q8 m)) Qj T.dict bV (aD (Tu ["carried"] ["table","sums"] [0,1] rfl (dT 0) rfl rfl (λ_ _ _ _ _=>(lX 0 AJ)) (λ_ _ _ _ _=>Hq) (λ_ _ _ _ _=>(mZ (aD (dT 0) (aD (lU g m (aD (lT F 1 (dT 0)) (aD (dT 2) gV))) gV))))) gV)))),?_⟩;have y:=A2 k.lp;have B:=xT a.length;unfold rC dC aC;refine oM (mD a.length) nF (λc=>D.t [Dp c,oB (sm C a t (n+1) c)]) [.v (vB C a t),.v (rQ C a t n)] (λG h=>?_) (by omega) (λj c O L e u x=>?_) ?_
 .show G (sM _) _;rw[Et];exact h
 .have i:=aO e;exact⟨rfl,_,Gj (sV C a t) i,C,a,t,c,n,rfl,k,i,.inl rfl,by show 2<=1000;decide,u,x⟩
 .refine⟨(mD a.length).map λc=>(c,oB (sm C a t (n+1) c)),by rw[aF];rfl,by rw[aA];omega,?_⟩;rw[M3 (λc=>oB (sm C a t (n+1) c))];exact b
theorem HM (T:Txt r) (l:Kn P w K r base 5 "step_table" Hg ["row","weights"] Uk)
  (p:Kn P w K r base 2 "let_edges" Ex ["row","edges"] Uz) (g:Kn P w K r base 2 "sums_with_one_more" Ev ["table","sums"] Tj):nZ P w K r base 6 "claim_holds" Hy ["row","claim","width"] My:=by
 refine oI C8 λf I A X s H E dk ds Φ G S hR=>?_
 obtain⟨C,a,t,d,M,W,rfl,Q,he,hW,V⟩:=hR;refine⟨_,(lM (lV 3 C8.nd (lU l G (aD (dT 0) (aD (lT S 1 lN) gV)))) (lM (lV 4 C8.nd (nE (M5 rfl (Q8 G)) Qj T.dict bV (aD (Tu ["carried"] [] [] rfl (dT 3) rfl rfl (λ_ _ _ _ _=>(lX 0 Wz)) (λ_ _ _ _ _=>Hq) (λ_ _ _ _ _=>(mZ (aD (dT 0) (aD lN gV))))) gV))) (lM (qV (Aq (by rfl) T.range (dT 2)) (lX 5 C8.nd) (mL (lV 4 C8.nd (lU g G (aD (dT 3) (aD (dT 4) gV)))))) (mL (nA (pH (Oq rfl) O0 T.all PyProof.Rows.boot_all (aD (nJ ["edges"] ["sums"] [4] (mW (lU p G (aD (dT 0) (aD (lT S 1 lN) gV)))) (λ_ _ _ _ _=>(lX 0 HK)) (λ_ _ _ _ _=>(Kd (wL G.units) (uE false) (lT S 1 (dT 0)) lN))) gV))))))),?_⟩;have aa:=A2 Q.lp;have ab:=xT a.length;refine lP (λm=>m=[.v (mN C a),.v (.t [.k d,.k (dK t)]),.v (.int W),.o (vB C a t),.n,.n]) (λN B=>?_) ?_
 .exact⟨rfl,_,rfl,C,a,t,rfl,Q,.inl rfl,B _ rfl⟩
 rintro _ rfl;refine lP (λm=>m=[.v (mN C a),.v (.t [.k d,.k (dK t)]),.v (.int W),.v (vB C a t),.o (rQ C a t 0),.n]) (λN B=>?_) ?_
 .unfold oD dC aC;refine oM (mD a.length) nF (λc=>D.t [Dp c,.int 0]) [.v (mN C a),.v (.t [.k d,.k (dK t)]),.v (.int W),.v (vB C a t),.n,.n] (λY h=>?_) (by omega) (λj c ys Z e O z=>⟨by show 2<=1000;decide,O,z⟩) ?_
  .show Y (sM _) _;rw[Et];exact h
  .refine⟨(mD a.length).map λc=>(c,oB (sm C a t 0 c)),by rw[aF];rfl,by rw[aA];omega,?_⟩;rw[M3 (λc=>oB (sm C a t 0 c))];exact B _ rfl
 rintro _ rfl;refine lP (λm=>∃ q,m=[.v (mN C a),.v (.t [.k d,.k (dK t)]),.v (.int W),.v (vB C a t),.o (rQ C a t W),q]) (λN B=>?_) ?_
 .refine rG (qH 0 W) [.v (mN C a),.v (.t [.k d,.k (dK t)]),.v (.int W),.v (vB C a t),.o (rQ C a t 0),.n] (λY h=>⟨by omega,by omega,by rw[cF];exact h⟩) (λi m=>∃ q,m=[.v (mN C a),.v (.t [.k d,.k (dK t)]),.v (.int W),.v (vB C a t),.o (rQ C a t i),q]) ⟨.n,rfl⟩ ?_ ?_
  .rintro i x m hx ⟨q,rfl⟩;exact⟨C,a,t,i,rfl,Q,.inl rfl,_,rfl⟩
  .rintro m ⟨q,rfl⟩;have hz:(qH 0 W).length=W:=by unfold qH;simp
   rw[hz];exact B _ ⟨q,rfl⟩
 rintro _ ⟨q,rfl⟩;obtain⟨u,F,y⟩:∃ u:Aa Int->Bool,(∀ e,sm C a t W e=none->u e=false)/\∀ e v,sm C a t W e=some v->u e=decide (v=0):=⟨λe=>match sm C a t W e with | none=>false | some v=>decide (v=0),λe h=>by dsimp only;rw[h],λe v h=>by dsimp only;rw[h]⟩;have ll:(Ds a M).length<=64:=cK (cJ _ _) (by omega);unfold rC dC aC;refine oM (Ds a M) nF (λe=>D.b (u e)) [.v (mN C a),.v (.t [.k d,.k (dK t)]),.v (.int W),.v (vB C a t),.o (rQ C a t W),q] (λY h=>?_) (by omega) (λj e ys Z J O z=>?_) ?_
 .exact⟨rfl,_,rfl,C,a,d,M,rfl,Q.lp,he,.inl rfl,h⟩
 .have U:=(bT.mp (aO J)).1;refine⟨rfl,_,Gj (λc=>oB (sm C a t W c)) U,?_⟩;cases L:sm C a t W e with
  | none=>rw[F e L] at z;exact⟨O,z⟩
  | some v=>rw[y e v L] at z;exact⟨O,z⟩
 .refine⟨(Ds a M).map u,by rw[<- K6,aF];rfl,?_⟩;refine V _ ?_;rw[List.all_map];constructor
  .intro h e R;have:=cG.mp h e R;have this:u e=true:=this;cases L:sm C a t W e with
   | none=>rw[F e L] at this;cases this
   | some v=>rw[y e v L] at this;rw[cW this]
  .intro h;refine cG.mpr λe R=>?_
   show u e=true;rw[y e 0 (h e R)];rfl
end
end Lw
namespace L2
open PySem PySem.Spec PyProof.Rows Lw
section
variable {X:Cx}{K:lL}
def Ua:R2:=λx y H Q=>∃ b c,x = .b b/\y = .b c/\Q (.b (b == c)) H
theorem X6:mO X (compareOp .Is) Ua:=by
 intro a s f H x y v u Q I d e h;obtain⟨b,c,rfl,rfl,q⟩:=h;cases d;cases e;show wpAny _ _ (compareOp .Is (.bool b) (.bool c)) _ _ s;unfold compareOp;exact aG ⟨.b (b == c),H,I,by cases b<;>cases c<;>rfl,q⟩
def HC:O2:=λd e a=>∃ b c,d = .b b/\e = .b c/\a (.v (.b (b == c)))
theorem Zp:oU K Ua HC:=by
 intro B L H d e x y m Q hd h i f k;obtain⟨b,c,rfl,rfl,a⟩:=f;have:=h.bl_inv;have:=i.bl_inv
 subst_vars
 exact⟨b,c,rfl,rfl,k _ _ H a (hd.pushF (.b _))⟩
end
section
theorem Sb:∀ (g:Aa (hI×D)) (j:Aa (hI×V)),g.map (·.1)=j.map (·.1)->∀ k:hI,lW g k=none->oV j k=none
 | [],[],_,_,_=>rfl
 | [],_::_,e,_,_=>by cases e
 | _::_,[],e,_,_=>by cases e
 | p::g,q::j,e,k,h=>by
  obtain⟨a,b⟩:=eI e;by_cases z:p.1=k
  .exfalso;unfold lW at h;rw[List.find?_cons_of_pos (by simpa using z)] at h;cases h
  .have c:lW g k=none:=by
    unfold lW at h |-;rw[List.find?_cons_of_neg (by simpa using z)] at h;exact h
   rw[Bf (λw=>z (Eq.trans (show p.1=q.1 from a) w))];exact Sb g j b k c
theorem F1.get0 (h:F1 H (.k g) v) (j:lW g (Sum.inr x)=some (.int m)\/(lW g (Sum.inr x)=none/\m=0)):∃ b o,v = .ref b/\Fi H b/\qD H b (.str x) o/\o.getD (.int 0) = .int m:=by
 rcases h with (h | ⟨d,a,b,e,f,c,rfl,rd⟩) | ⟨_,_,_,e,_⟩
 .cases h
 .cases e;refine⟨b,oV a (Sum.inr x),rfl,.inl ⟨a,rd⟩,.inl ⟨a,Sum.inr x,rd,rfl,rfl⟩,?_⟩;rcases j with q | ⟨q,rfl⟩
  .rw[Js _ _ f c _ _ _ q rfl];rfl
  .rw[Sb _ _ c _ q];rfl
 .cases e
end
end L2
namespace Lw
open PySem L2
theorem EW:(["into"]:Aa Af).Nodup:=by decide +kernel
theorem OY:(["name","some","weights"]:Aa Af).Nodup:=by decide +kernel
def G7:Aa D->Af->Ab D->Prop:=λc x d=>∃ (b a:Aa (hI×D)) (v m:Int),c=[.k b,.k a]/\lW b (Sum.inr x)=some (.int v)/\(lW a (Sum.inr x)=some (.int m)\/(lW a (Sum.inr x)=none/\m=0))/\-9<=m/\m<=9/\d=some (.int (m*v))
def FW:Aa D->Af->Ab D->Prop:=λa x b=>a=[]/\b=some (.t [.str x,.e])
def S9:RD:=λe f h=>∃ (d c:Ad) (C:Cel) (a:Aa (Af×Af)) (t:lZ),e=[d,c]/\f=[.r (.ref d),mN C a,.k (dK t)]/\RwOk C a/\Bm C a t/\(t.map (·.1)).Nodup/\t.length<=100/\(∀ p∈t,-9<=p.2/\p.2<=9)/\h (.v (.b true))
abbrev qL (d:Ad) (C:Cel) (g:Aa (Af×Af)) (t:lZ) (p I J T U s8 s9 j l o:Sl):Aa Sl:=[.v (.r (.ref d)),.v (mN C g),.v (.k (dK t)),p,I,J,T,U,s8,s9,j,l,o]
section
variable {P:Ah}{K:lL}
theorem tM:FnScope ["deck","row","weights","width","words","edges","told","ends","total","some","out","into","loose"] ["deck","row","weights"] (mI En):=nU
theorem Xc (T:Txt mg) (ab:Kn P w K mg base 1 "_law_take" sZ ["deck","many"] wX) (J:Kn P w K mg base 2 "_law_drawn_words" Ea ["deck","names","width"] Iu) (I:Kn P w K mg base 2 "_law_drawn_edges" Cf ["deck","row"] Kc) (U:Kn P w K mg base 1 "_law_words_of" Cb ["row"] K8) (ac:Kn P w K mg base 3 "laid" Ay ["row","width","words","edges"] E2) (aa:Kn P w K mg base 6 "claim_holds" Hy ["row","claim","width"] My)
: nZ P w K mg base 7 "_law_nought" En ["deck","row","weights"] S9:=by
 refine oI tM λf a4 A a2 s H E dk ds Φ hr hu hR=>?_
 obtain⟨d,c,C,z,t,rfl,rfl,S,hH,nd,tl,tb,au⟩:=hR;refine⟨_,(lM (lV 3 tM.nd (nG oG oE lN (lU ab hr (aD (dT 0) (aD lN gV))))) (lM (lV 4 tM.nd (lU J hr (aD (dT 0) (aD (tJ hu (lU U hr (aD (dT 1) gV)) lN) (aD (dT 3) gV))))) (lM (lV 5 tM.nd (lU I hr (aD (dT 0) (aD (dT 1) gV)))) (lM (J2 (m:=99) (lU ac hr (aD (dT 1) (aD (dT 3) (aD (dT 4) (aD (dT 5) gV))))) (sB (n:=2) rfl (nL (lX 6 tM.nd) (nL (lX 7 tM.nd) rK)))) (lM (lV 8 tM.nd (nG xB xE (C9 hu (pv 2) lY lN) (nG vM xW (nG zQ Cy lN (dT 3)) lN))) (lM (qV (mW (mZ (aD (dT 4) (aD (dT 6) gV)))) (lX 9 tM.nd) (mL (lV 8 tM.nd (qY oG oE 8 (pH (Hw rfl) Lr T.sum iA (aD (Df (P:=G7) (i:=9) (A6 (tV ["name"] ["some","weights"] [9,2] rfl (Bd (pv 9)) rfl rfl (λY R C cl fp=>sD (i:=0) OY rfl (Or.inl rfl)) (λY R C cl fp=>vK) (λY R C cl fp=>mQ vC (U4 hu (pv 2) (pv 0) mT ⟨rfl,rfl,rfl,rfl⟩) (zJ hu (pv 1) (pv 0) (λ_ _=>rfl))))) ?h1) gV)))))) (lM (qV (mW (lT hu 1 lN)) (sB (n:=2) rfl (nL (lX 10 tM.nd) (nL (lX 11 tM.nd) rK))) (mL (lV 8 tM.nd (qY oG oE 8 (nG xB xE (C9 hu (pv 2) (dT 11) lN) (nG vM xW (lT hu 5 (dT 11)) (nG zQ Cy (lT hu 7 (dT 10)) (dT 3)))))))) (lM (lV 12 tM.nd (nE (sX rfl) tA T.dict bV (aD (Df (P:=FW) (i:=5) (A6 (tV ["into"] [] [] rfl (Bd (pv 5)) rfl rfl (λY R C cl fp=>sD (i:=0) EW rfl (Or.inl rfl)) (λY R C cl fp=>vK) (λY R C cl fp=>xD (mA (pv 0) (mA N6 mJ))))) ?h2) gV))) (mL (nA (LK (F2 (wL hr.units) (uE false) (pv 8) lN) (Pu (Kd X6 Zp (lU aa hr (aD (dT 1) (aD (mZ (aD (dT 12) (aD (dT 2) gV))) (aD (dT 3) gV)))) J8))))))))))))),?_⟩
 case h1 =>
  rintro _ vs x _ H N F ⟨sv,wv,v,m,rfl,hv,hm,m1,m2,rfl⟩ pr Q hF;cases pr with
  | cons a pr =>
   cases pr with
   | cons b pr =>
    cases pr;obtain⟨b1,rfl,g1⟩:=a.get hv rfl;obtain⟨b2,o,rfl,av,g2,eo⟩:=b.get0 hm;unfold wE;refine (aT rfl).mpr ?_;exact⟨_,rfl,b2,rfl,av,_,rfl,o,g2,_,rfl,_,rfl,b1,_,rfl,g1,m,v,eo,rfl,.inl ⟨by omega,by omega⟩,Q _ _ _ rfl (λ_ _ h=>h) (.inl rfl)⟩
 case h2 =>
  rintro _ vs x _ H N F ⟨rfl,rfl⟩ pr Q hF;cases pr;unfold wE;refine (aT rfl).mpr ?_;exact⟨_,rfl,by show 2<=sizeLine;decide,λp Z=>Q _ _ _ rfl (nW.new Z) (.inr ⟨_,_,p,rfl,rfl,rfl,lR⟩)⟩
 have li:=S.li;have lp:=S.lp;have a5:(wIns C z).length<=C.ins.length:=cJ ..;refine lP (λM=>∃ W:Nat,1<=W/\W<=40/\M=qL d C z t (.v (.int W)) .n .n .n .n .n .n .n .n .n) (λN Q=>?_) ?_
 .exact⟨d,c,40,rfl,rfl,by decide,by decide,λr k=>⟨.inl rfl,Q _ ⟨1+r,by omega,by omega,by push_cast;rfl⟩⟩⟩
 rintro _ ⟨W,w1,a3,rfl⟩;have lo:=S.gc.lo;refine lP (λM=>∃ G:lZ,G.map (·.1)=wIns C z/\(∀ p∈G,0<=p.2/\p.2<2 ^ W)/\M=qL d C z t (.v (.int W)) (.o (.k (dK G))) .n .n .n .n .n .n .n .n) (λN Q=>?_) ?_
 .exact⟨C,z,rfl,by omega,by omega,by omega,.inl rfl,_,rfl,d,c,wIns C z,W,rfl,rfl,yY S.gc,by omega,a3,λG hk hz=>⟨.inl rfl,Q _ ⟨G,hk,hz,rfl⟩⟩⟩
 rintro _ ⟨G,kw,hz,rfl⟩;refine lP (λM=>∃ B:lZ,B.map (·.1)=z.map (·.2)/\(∀ p∈B,mH p.2)/\M=qL d C z t (.v (.int W)) (.o (.k (dK G))) (.o (.k (dK B))) .n .n .n .n .n .n .n) (λN Q=>?_) ?_
 .exact⟨d,c,C,z,rfl,rfl,S.n2,by omega,λB hk hb=>⟨.inl rfl,Q _ ⟨B,hk,hb,rfl⟩⟩⟩
 rintro _ ⟨B,ke,hb,rfl⟩;have ar:(G.map (·.1)).Nodup:=by rw[kw];exact yY S.gc
 have ay:(B.map (·.1)).Nodup:=by rw[ke];exact S.n2
 have vw:∀ x∈wIns C z,x∈G.map (·.1):=λx hx=>by rw[kw];exact hx
 have ve:∀ p∈z,p.2∈B.map (·.1):=λp Z=>by rw[ke];exact aE.mpr ⟨p,Z,rfl⟩
 have be:∀ p∈z,mH (gD B p.2):=λp Z=>hb _ (Cs (ve p Z))
 obtain⟨u,ah⟩:∃ u,u=uB C z (gD G) (gD B):=⟨_,rfl⟩;obtain⟨L,ag⟩:∃ L,L=mV C z u W:=⟨_,rfl⟩;obtain⟨fe,af⟩:∃ fe,fe=z.map λp=>(p.1,mK (gD B) u W p):=⟨_,rfl⟩
 have an:L.map (·.1)=wOuts C z:=by rw[ag];unfold mV;rw[List.map_map];exact fO _
 have aw:fe.map (·.1)=z.map (·.1):=by rw[af,aF];rfl
 have a1:(L.map (·.1)).Nodup:=by rw[an];exact Bq S.gc
 have a0:(fe.map (·.1)).Nodup:=by rw[aw];exact S.n1
 have a6:(2:Int) ^ W<=2 ^ 60:=by exact_mod_cast iK (show 0<2 by decide) (show W<=60 by omega)
 have p0:(0:Int)<2 ^ W:=jZ (by decide);refine lP (λM=>M=qL d C z t (.v (.int W)) (.v (.k (dK G))) (.v (.k (dK B))) (.v (.k (dK L))) (.v (.k (dK fe))) .n .n .n .n .n) (λN Q=>?_) ?_
 .refine⟨C,z,W,dK G,dK B,gD G,gD B,u,rB C z (gD G) (gD B),rfl,S.row,by rw[ah];exact vA S be W,by omega,λx hx=>(nI G x).1 (vw x hx),λp Z=>(nI B p.2).1 (ve p Z),.inl rfl,?_⟩;rw[<- ag,<- af];exact⟨rfl,rfl,Q _ rfl⟩
 rintro _ rfl;refine lP (λM=>M=qL d C z t (.v (.int W)) (.v (.k (dK G))) (.v (.k (dK B))) (.v (.k (dK L))) (.v (.k (dK fe))) (.v (.int (gD t "" * (2 ^ W-1)))) .n .n .n .n) (λN Q=>?_) ?_
 .refine⟨rfl,_,rfl,⟨by omega,by omega,by decide⟩,?_⟩;show Dw ((lW (dK t) (Sum.inr (Str.ofString ""))).getD (D.int 0)) (D.int (1*2 ^ ((W:Int)).toNat-1)) _;rw[Cj,cF,Int.one_mul];exact⟨.inr ⟨by omega,by omega⟩,Q _ rfl⟩
 rintro _ rfl;have ao:∀ x,-9<=gD t x/\gD t x<=9:=λx=>by
  by_cases m:x∈t.map (·.1)
  .exact tb _ (Cs m)
  .rw[((nI t x).2 m).2];decide
 have alt:∀ x,lW (dK t) (Sum.inr x)=some (.int (gD t x))\/(lW (dK t) (Sum.inr x)=none/\gD t x=0):=λx=>by
  by_cases m:x∈t.map (·.1)
  .exact .inl ((nI t x).1 m)
  .exact .inr ((nI t x).2 m)
 have lw:G.length<=1000:=by have:=bY List.length kw;rw[aA] at this;omega
 have ax:L.length<=1000:=by
  have:=bY List.length an;have h2:(wOuts C z).length<=C.outs.length:=cJ ..;rw[aA] at this;omega
 have one:∀ (s:lZ) (i:Int) (O:Sl),(s.map (·.1)).Nodup->s.length<=1000->∀ De:DEnds,De.nx (qL d C z t (.v (.int W)) (.v (.k (dK G))) (.v (.k (dK B))) (.v (.k (dK L))) (.v (.k (dK fe))) (.v (.int (i+(s.map λp=>gD t p.1*p.2).sum))) (.v (.k (dK s))) .n .n .n) ->
   oD 8 (uI Hk 8 (dC Fb (aC (Hd 9 [9,2] G7) zR))) [d,c] De (qL d C z t (.v (.int W)) (.v (.k (dK G))) (.v (.k (dK B))) (.v (.k (dK L))) (.v (.k (dK fe))) (.v (.int i)) (.v (.k (dK s))) .n .n .n):=λs i O az ls De hQ=>by
  refine⟨rfl,dK s,s.map (·.1),[.k (dK s),.k (dK t)],λx=>some (.int (gD t x*gD s x)),rfl,uR s,Dq s,by rw[aA];exact ls,rfl,λc hc=>?_,λx hx=>⟨_,_,_,_,rfl,(nI s x).1 hx,alt x,(ao x).1,(ao x).2,rfl⟩,s.map λp=>gD t p.1*p.2,?_,?_⟩
  .rcases aI.mp hc with rfl | hc
   .exact .inl (uR s)
   .rw[aZ.mp hc];exact .inl (uR t)
  .rw[iY,Dz (g:=λp:Af×Int=>D.int (gD t p.1*p.2)) s λp Z=>by simp only[Function.comp,rM az Z]];rw[<- Jq,aF];rfl
  .exact hQ
 refine lP (λM=>∃ O,M=qL d C z t (.v (.int W)) (.v (.k (dK G))) (.v (.k (dK B))) (.v (.k (dK L))) (.v (.k (dK fe))) (.v (.int (gD t "" * (2 ^ W-1)+(G.map λp=>gD t p.1*p.2).sum+(L.map λp=>gD t p.1*p.2).sum))) O .n .n .n) (λN Q=>?_) ?_
 .refine rG [.k (dK G),.k (dK L)] _ (λΨ h=>⟨by show 2<=1000;decide,h⟩) (λi M=>∃ O,M=qL d C z t (.v (.int W)) (.v (.k (dK G))) (.v (.k (dK B))) (.v (.k (dK L))) (.v (.k (dK fe))) (.v (.int (gD t "" * (2 ^ W-1)+(if 0<i then (G.map λp=>gD t p.1*p.2).sum else 0)+(if 1<i then (L.map λp=>gD t p.1*p.2).sum else 0)))) O .n .n .n) ⟨.n,?_⟩ ?_ ?_
  .show _=qL d C z t _ _ _ _ _ (.v (.int (gD t "" * (2 ^ W-1)+0+0))) _ _ _ _;rw[hU,hU]
  .rintro i x M hx ⟨O,rfl⟩;cases i with
   | zero =>
    cases hx;show oD 8 (uI Hk 8 (dC Fb (aC (Hd 9 [9,2] G7) zR))) [d,c] _ (qL d C z t _ _ _ _ _ (.v (.int _)) (.v (.k (dK G))) .n .n .n);refine one G _ O ar lw _ ?_;refine⟨.v (.k (dK G)),?_⟩
    .show qL d C z t _ _ _ _ _ (.v (.int (gD t "" * (2 ^ W-1)+0+0+(G.map λp=>gD t p.1*p.2).sum))) _ _ _ _=qL d C z t _ _ _ _ _ (.v (.int (gD t "" * (2 ^ W-1)+(G.map λp=>gD t p.1*p.2).sum+0))) _ _ _ _;rw[hU,hU,hU]
   | succ i =>
    cases i with
    | zero =>
     cases hx;show oD 8 (uI Hk 8 (dC Fb (aC (Hd 9 [9,2] G7) zR))) [d,c] _ (qL d C z t _ _ _ _ _ (.v (.int _)) (.v (.k (dK L))) .n .n .n);refine one L _ O a1 ax _ ?_;refine⟨.v (.k (dK L)),?_⟩
     .show qL d C z t _ _ _ _ _ (.v (.int (gD t "" * (2 ^ W-1)+(G.map λp=>gD t p.1*p.2).sum+0+(L.map λp=>gD t p.1*p.2).sum))) _ _ _ _=qL d C z t _ _ _ _ _ (.v (.int (gD t "" * (2 ^ W-1)+(G.map λp=>gD t p.1*p.2).sum+(L.map λp=>gD t p.1*p.2).sum))) _ _ _ _;rw[hU]
    | succ i=>cases hx
  .rintro M ⟨O,rfl⟩;exact Q _ ⟨O,rfl⟩
 rintro _ ⟨O,rfl⟩;have ai:∀ p∈z,mH (mK (gD B) u W p):=λp Z=>by
  obtain⟨W',rfl⟩:∃ W',W=W'+1:=⟨W-1,by omega⟩;rw[ah];exact ((vA S be (W'+1)).bits S.row W' (by omega)).2 p.1 (S.row.o p Z)
 have aj:gD t "" * (2 ^ W-1)+(G.map λp=>gD t p.1*p.2).sum+(L.map λp=>gD t p.1*p.2).sum+(z.map λp=>gD t p.2*(gD B p.2-mK (gD B) u W p*2 ^ W)).sum=0:=by
  have h0:=NG S hH (wf:=gD G) be W;rw[<- ah] at h0;unfold zZ at h0;rw[<- h0,<- kw,aF,ag];unfold mV;rw[aF,bL (l:=G) (f:=λp:Af×Int=>gD t p.1*p.2) (λp Z=>?_)]
  .rfl
  .obtain⟨z0,z1⟩:=hz p Z;show gD t p.1*p.2=gD t p.1*sN (λj=>2 ^ j*(gD G p.1/2 ^ j%2)) W;rw[rM ar Z,Q5 p.2 z0 W,Int.emod_eq_of_lt z0 z1]
 refine lP (λM=>∃ O V X,M=qL d C z t (.v (.int W)) (.v (.k (dK G))) (.v (.k (dK B))) (.v (.k (dK L))) (.v (.k (dK fe))) (.v (.int 0)) O V X .n) (λN Q=>?_) ?_
 .refine rG (z.map λp:Af×Af=>D.t [.str p.1,.str p.2]) _ (λΨ h=>⟨rfl,_,rfl,h⟩) (λi M=>∃ O V X,M=qL d C z t (.v (.int W)) (.v (.k (dK G))) (.v (.k (dK B))) (.v (.k (dK L))) (.v (.k (dK fe))) (.v (.int (gD t "" * (2 ^ W-1)+(G.map λp=>gD t p.1*p.2).sum+(L.map λp=>gD t p.1*p.2).sum+((z.take i).map λp=>gD t p.2*(gD B p.2-mK (gD B) u W p*2 ^ W)).sum))) O V X .n) ⟨O,.n,.n,by simp⟩ ?_ ?_
  .rintro i x M hx ⟨O,V,X,rfl⟩;obtain⟨y,hy,rfl⟩:=sU hx;have ym:=aO hy;have hm:(y.1,mK (gD B) u W y)∈fe:=by rw[af];exact aE.mpr ⟨y,ym,rfl⟩
   refine⟨rfl,rfl,rfl,rfl,_,rfl,rfl,D.int (gD B y.2),?_,rfl,D.int (mK (gD B) u W y),?_,⟨by omega,by omega,by rcases ai y ym with q | q<;>rw[q]<;>decide⟩,?_⟩
   .show some (lW (dK B) (Sum.inr y.2))=_;rw[(nI B y.2).1 (ve y ym)]
   .show some (lW (dK fe) (Sum.inr y.1))=_;rw[(nI _ y.1).1 (aE.mpr ⟨_,hm,rfl⟩),rM a0 hm]
   .show Dw ((lW (dK t) (Sum.inr y.2)).getD (D.int 0)) (D.int (gD B y.2-mK (gD B) u W y*2 ^ ((W:Int)).toNat)) _;rw[Cj,cF];refine⟨.inr (by rcases be y ym with q | q<;>rcases ai y ym with q' | q'<;>rw[q,q']<;>exact⟨by omega,by omega⟩),O,.v (.str y.1),.v (.str y.2),?_⟩;rw[J1 (λp:Af×Af=>gD t p.2*(gD B p.2-mK (gD B) u W p*2 ^ W)) hy,<- Int.add_assoc];rfl
  .rintro M ⟨O,V,X,rfl⟩;rw[aA,fQ,aj];exact Q _ ⟨O,V,X,rfl⟩
 rintro _ ⟨O,V,X,rfl⟩;obtain⟨es,ae⟩:∃ es,es=(B.map (·.1)).map λx=>(x,(none:Ab Int)):=⟨_,rfl⟩
 have ak:es.map (·.1)=B.map (·.1):=by rw[ae,aF];exact fO _
 have aq:B.length<=1000:=by have:=bY List.length ke;rw[aA,aA] at this;omega
 refine lP (λM=>M=qL d C z t (.v (.int W)) (.v (.k (dK G))) (.v (.k (dK B))) (.v (.k (dK L))) (.v (.k (dK fe))) (.v (.int 0)) O V X (.o (.k (tG es)))) (λN Q=>?_) ?_
 .refine⟨dK B,B.map (·.1),[],λx=>some (.t [.str x,.e]),rfl,uR B,Dq B,by rw[aA];exact aq,rfl,λc hc=>absurd hc bJ,λx hx=>⟨rfl,rfl⟩,tG es,?_,?_,?_⟩
  .rw[<- Y5,ae,aF];rw[Dz (g:=λx:Af=>D.t [.str x,.e]) _ λx _=>rfl];rfl
  .rw[ae];unfold tG;rw[List.length_map,List.length_map,List.length_map];exact aq
  .have e:oW [] (tG es)=tG es:=Ui (tG es) [] (by
    rw[fY,DU,ak];exact K7 ay)
   rw[e];exact Q _ rfl
 rintro _ rfl;refine⟨rfl,?_⟩;refine⟨by show 2<=1000;decide,C,z,t,tG es,λ_=>none,W,rfl,S,λp Z=>?_,by omega,λb hb=>⟨.inl rfl,?_⟩⟩
 .rw[Qv (by rw[ak];exact ve p Z)];have:Cd es p.2=none:=by
   unfold Cd;cases e:es.find? λq=>decide (q.1=p.2) with
   | none=>rfl
   | some q =>
    have:=List.mem_of_find?_eq_some e;rw[ae] at this;obtain⟨x,_,rfl⟩:=aE.mp this;rfl
  rw[this]
 .have:b=true:=hb.mpr λe he=>IW S hH (bT.mp he).1 W
  subst this;exact⟨true,true,rfl,rfl,au⟩
end
def Ga (K:lL):Sp:=λe H Q _=>∃ (a:Ad) (c:Aa Int),e=[.ref a]/\lO K H a (c.map V.int)/\c.length<=63/\∀ d,Q (.b true) d
theorem GoodRow.rw (h:GoodRow C al):RwOk C al:=⟨⟨h.good.nd,h.good.gt,h.good.os,h.good.ond,by have:=h.good.li;omega,by have:=h.good.lg;omega,by have:=h.good.lo;omega⟩,h.n1,h.n2,h.mem,h.good.li,by have:=h.la;omega⟩
theorem GoodRow.l40 (h:GoodRow C al):C.names.length<=40/\C.outs.length<=40:=by
 have a:=h.good.li;have b:=h.good.lg;have c:=h.good.lo;unfold Cel.names;rw[bK,aA];omega
section
variable {P:Ah}{K:lL}
theorem Hx:FnScope ["script","deck","row","weights"] ["script"] (mI S6):=nU
theorem Y8 (F:Fun K "law" "law" S6 f fd) (T:Txt mg) (g:Gd K mg "_law_deck" Ej ["script"] fD ac)
  (U:Kn P w K mg base 4 "_law_made" F6 ["deck","kit"] Ux) (aa:Kn P w K mg base 2 "_law_kit" Ge ["deck"] Nu) (ab:Kn P w K mg base 4 "_law_row" Ei ["deck","inputs","gates","most"] Pg) (j:Kn P w K mg base 5 "_law_right" Fv ["deck","row"] N9) (I:Kn P w K mg base 7 "_law_nought" En ["deck","row","weights"] S9)
  (J:FnOk P w K mg base nR 1 fD ac ["script"] (Mw K)) :
  FnOk P w K mg base nR 8 f fd ["script"] (Ga K):=by
 refine F.ok Hx (λvs H Q E h=>?_) (λae A M s H vs Q E q h=>?_)
 .obtain⟨a,X,rfl,_⟩:=h;rfl
 .obtain⟨a,X,rfl,hS,x,hQ⟩:=h;have hu:=Jd q;have L:Room 1 _:=q.mono (by decide);refine M4 _ (oQ (i:=1) Hx.nd rfl (Or.inl rfl) (sL J L rfl g.m g.k g.b .nil rE (mA (pv 0) mJ))) ?_;refine⟨_,rfl,a,X,rfl,hS,x,λd c H1 Z _ _ _=>?_⟩;refine⟨_,(lM (J2 (m:=99) (lU U q (aD (dT 1) (aD (lU aa q (aD (dT 1) gV)) gV))) (Sk (n:=2) rfl (nL (lX 2 Hx.nd) (nL (lX 3 Hx.nd) rK)))) (lM (wP (Ph (Zo (Sy (Lm (lU j q (aD (dT 1) (aD (lU ab q (aD (dT 1) (aD lN (aD lN (aD lN gV))))) gV))))) (Z5 (Sy (Lm (lU j q (aD (dT 1) (aD (dT 2) gV)))))))) (mL (nA J8)) wM) (mL (nA (lU I q (aD (dT 1) (aD (dT 2) (aD (dT 3) gV)))))))),⟨[d,c],λ_=>False,H1⟩,[.n,.v (.r (.ref d)),.n,.n],[],{ nx:=λ_=>False,rt:=λr=>r = .v (.b true) },rfl,?_,?_,?_,?_⟩
  .refine⟨λb o e _=>e,.inr ⟨d,c,rfl,Z⟩,iF,λb hb=>absurd hb bJ,λp B=>?_⟩;have B:p∈[((Sl.n:Sl),some (V.ref a)),(.v (.r (.ref d)),some (V.ref d)),(.n,none),(.n,none)]:=B;simp only[aI,bJ,eM] at B;rcases B with rfl | rfl | rfl | rfl<;>first | trivial | exact⟨_,rfl,.r _⟩
  .refine lP (λO=>∃ (k:Kit) (C:Cel) (al:Aa (Af×Af)) (t:lZ),k∈oN/\GoodRow C al/\WtOk 9 t/\E9 k C al t/\O=[.n,.v (.r (.ref d)),.v (At C al),.v (.k (dK t))]) (λN G=>?_) ?_
   .exact⟨d,c,rfl,rfl,λk z=>⟨.inl rfl,d,c,k,rfl,rfl,z,λC al t h1 u h3=>⟨.inl rfl,rfl,rfl,G _ ⟨k,C,al,t,z,h1,u,h3,rfl⟩⟩⟩⟩
   rintro _ ⟨k,C,al,t,z,y,hw,hm,rfl⟩;refine lP (λO=>O=[.n,.v (.r (.ref d)),.v (At C al),.v (.k (dK t))]) (λN G=>?_) ?_
   .refine⟨d,c,6,10,4,rfl,rfl,by decide,by decide,by decide,λY D u=>⟨.inl rfl,d,c,Y,D,rfl,rfl,u.rw,u.l40.1,u.l40.2,.inl rfl,rfl,true,rfl,zY rfl ⟨d,c,C,al,rfl,rfl,y.rw,y.l40.1,y.l40.2,.inl rfl,rfl,true,rfl,zY rfl (G _ rfl)⟩⟩⟩
   rintro _ rfl;exact⟨d,c,C,al,t,rfl,rfl,y.rw,hm.hold z,hw.nd,by have:=hw.l;omega,hw.bd,.inl rfl,rfl⟩
  .intro R S W _ _ _;exact⟨False.elim,False.elim,False.elim⟩
  .rintro r v R S W _ d1 rfl;obtain rfl:=d1.valAt.bl_inv;exact hQ W
end
def DF (K:lL) (x:Af) (st:Stmt):Prop:=∃ (f:Ad) (e a:Ab Ad) (sl:Array (Ab Ac)) (d kV c pm cd b:Ac),PySem.W.nsIn K mainGlobals x=some (some (.ref f))/\K.lookup f=some ⟨d,e,.func (PySem.W.fnOf x x (tD st) (rH st) (mI st) .none kV c pm a cd b),sl⟩/\PySem.W.codeIn K cd x=true/\PySem.W.keepIn K (.ref f)=true
def NZ (K:lL) (x:Af):Prop:=PySem.W.nsIn K mainGlobals x=some none
theorem df_mk {K:lL}{st:Stmt}{sl:Array (Ab Ac)}{kV cd:Ac}(a:PySem.W.nsIn K mainGlobals x=some (some (.ref f))) (l:K.lookup f=some ⟨p,r,.func (PySem.W.fnOf x x (tD st) (rH st) (mI st) .none kV o pm g cd j),sl⟩) (c:PySem.W.codeIn K cd x=true) (k:PySem.W.keepIn K (.ref f)=true):DF K x st:=⟨f,r,g,sl,p,kV,o,pm,cd,j,a,l,c,k⟩
theorem Av {K:lL}{st:Stmt}(o:Aa Af) (X:K.In h) (G:h.Ns mainGlobals J) (d:DF K x st)
  (I:∀ (kV j pm:Ac) (r:Ab Ad) (g C:Ac) (p:Aa Ac),p.length=o.length->bindArgs (PySem.W.fnOf x x (tD st) (rH st) (mI st) .none kV j pm r g C) ⟨p,[]⟩=pure (o.zip p)):∃ f fd,Gd K J x st o f fd:=by
 obtain⟨f,i,r,sl,e,kV,b,pm,cd,C,a,l,c,k⟩:=d;have F:=Sn (st:=st) l c k;exact⟨f,_,F,PySem.W.mg_of X G a,k,F.binds I⟩
theorem JO {K:lL}{st:Stmt}(X:K.In h) (G:h.Ns mainGlobals j) (d:DF K x st) (g:∀ a b c d e f,bindArgs (PySem.W.fnOf x x (tD st) (rH st) (mI st) .none a b c d e f) ⟨[],[]⟩=pure []:=by intros;rfl):∃ f fd,Gd K j x st [] f fd :=
 Av [] X G d λa b c d e f k i=>by rcases k with _ | _<;>first | exact g a b c d e f | cases i
theorem wS {K:lL}{st:Stmt}(j:Af) (X:K.In h) (G:h.Ns mainGlobals o) (d:DF K x st) (l:∀ a b c d e f g,bindArgs (PySem.W.fnOf x x (tD st) (rH st) (mI st) .none a b c d e f) ⟨[g],[]⟩=pure [(j,g)]:=by intros;rfl):∃ f fd,Gd K o x st [j] f fd :=
 Av [j] X G d λa b c d e f k i=>by rcases k with _ | ⟨g,_ | _⟩<;>first | exact l a b c d e f g | cases i
theorem qK {K:lL}{st:Stmt}(l o:Af) (X:K.In h) (G:h.Ns mainGlobals r) (d:DF K x st) (p:∀ a b c d e f g j,bindArgs (PySem.W.fnOf x x (tD st) (rH st) (mI st) .none a b c d e f) ⟨[g,j],[]⟩=pure [(l,g),(o,j)]:=by intros;rfl):∃ f fd,Gd K r x st [l,o] f fd :=
 Av [l,o] X G d λa b c d e f k i=>by rcases k with _ | ⟨g,_ | ⟨j,_ | _⟩⟩<;>first | exact p a b c d e f g j | cases i
theorem B9 {K:lL}{st:Stmt}(o p r:Af) (X:K.In h) (G:h.Ns mainGlobals I) (d:DF K x st) (C:∀ a b c d e f g j l,bindArgs (PySem.W.fnOf x x (tD st) (rH st) (mI st) .none a b c d e f) ⟨[g,j,l],[]⟩=pure [(o,g),(p,j),(r,l)]:=by intros;rfl):∃ f fd,Gd K I x st [o,p,r] f fd :=
 Av [o,p,r] X G d λa b c d e f k i=>by rcases k with _ | ⟨g,_ | ⟨j,_ | ⟨l,_ | _⟩⟩⟩<;>first | exact C a b c d e f g j l | cases i
theorem Pn {K:lL}{st:Stmt}(p r C I:Af) (X:K.In h) (G:h.Ns mainGlobals T) (d:DF K x st) (J:∀ a b c d e f g j l o,bindArgs (PySem.W.fnOf x x (tD st) (rH st) (mI st) .none a b c d e f) ⟨[g,j,l,o],[]⟩=pure [(p,g),(r,j),(C,l),(I,o)]:=by intros;rfl):∃ f fd,Gd K T x st [p,r,C,I] f fd :=
 Av [p,r,C,I] X G d λa b c d e f k i=>by rcases k with _ | ⟨g,_ | ⟨j,_ | ⟨l,_ | ⟨o,_ | _⟩⟩⟩⟩<;>first | exact J a b c d e f g j l o | cases i
theorem Z6 {K:lL}{st:Stmt}(r C I J T:Af) (X:K.In h) (G:h.Ns mainGlobals mg) (d:DF K x st) (U:∀ a b c d e f g j l o p,bindArgs (PySem.W.fnOf x x (tD st) (rH st) (mI st) .none a b c d e f) ⟨[g,j,l,o,p],[]⟩=pure [(r,g),(C,j),(I,l),(J,o),(T,p)]:=by intros;rfl):∃ f fd,Gd K mg x st [r,C,I,J,T] f fd :=
 Av [r,C,I,J,T] X G d λa b c d e f k i=>by rcases k with _ | ⟨g,_ | ⟨j,_ | ⟨l,_ | ⟨o,_ | ⟨p,_ | _⟩⟩⟩⟩⟩<;>first | exact U a b c d e f g j l o p | cases i
theorem all_mk {l:PySem.W.OpenLaw}{K:lL}(X:K.In h) (G:h.Ns mainGlobals mg) (ck:mg "law" = some (.ref fa))
  (d1:DF K "check_there" C7)
  (d2:DF K "told_by" C4)
  (d3:DF K "side_bits" Gy)
  (d4:DF K "gate_bit" F9)
  (d5:DF K "all_bits" Bh)
  (d6:DF K "place_worths" G3)
  (d7:DF K "carried_inputs" zK)
  (d8:DF K "word_inputs" Bc)
  (d9:DF K "word_outputs" Dx)
  (bm:DF K "let_edges" Ex)
  (bn:DF K "are_let" Fy)
  (bo:DF K "step_table" Hg)
  (bp:DF K "steps_from" F8)
  (bq:DF K "cell_part" Ie)
  (br:DF K "laid" Ay)
  (bt:DF K "claim_holds" Hy)
  (bu:DF K "sums_with_one_more" Ev)
  (bv:DF K "only_sum" Ez)
  (bw:DF K "_law_deck" Ej)
  (bx:DF K "_law_take" sZ)
  (bz:DF K "_law_kept" C3)
  (b0:DF K "_law_made_names" E8)
  (b1:DF K "_law_names" Bi)
  (b2:DF K "_law_gate" Fo)
  (b3:DF K "_law_row" Ei)
  (b4:DF K "_law_words_of" Cb)
  (b5:DF K "_law_kit" Ge)
  (b6:DF K "_law_shuffled" Ec)
  (b7:DF K "_law_words" Ew)
  (b8:DF K "_law_made" F6)
  (b9:DF K "_law_drawn_words" Ea)
  (ca:DF K "_law_drawn_edges" Cf)
  (cb:DF K "_law_parted" Fw)
  (cc:DF K "_law_renamed" Ho)
  (cf:DF K "_law_by" E6)
  (cg:DF K "_law_right" Fv)
  (ch:DF K "_law_nought" En)
  (cj:DF K "law" C2)
  (z1:NZ K "len")
  (z2:NZ K "range")
  (z3:NZ K "sum")
  (z4:NZ K "min")
  (z5:NZ K "max")
  (z6:NZ K "tuple")
  (z7:NZ K "list")
  (z8:NZ K "set")
  (z9:NZ K "dict")
  (cl:NZ K "int")
  (cm:NZ K "str")
  (cn:NZ K "zip")
  (cp:NZ K "enumerate")
  (cq:NZ K "all")
  (cs:NZ K "any")
  (cu:NZ K "isinstance")
  (cv:NZ K "sorted")
  (cw:NZ K "abs")
  (cx:NZ K "reversed")
  (cy:NZ K "bool")
  : ∃ fd:FuncData,(∀ (s:Ae) (v:Ac),BindsTo s fd ⟨[v],[]⟩ [("script",v)])/\∀ base:Ag,K.In base->base.Ns mainGlobals mg->FnOk l.prog w K mg base nR 8 fa fd ["script"] (Ga K):=by
 obtain⟨f1,e1,Z⟩:=qK "names" "given" X G d1;obtain⟨f2,e2,bd⟩:=qK "cell" "bits" X G d2;obtain⟨f3,e3,ar⟩:=qK "cell" "bits" X G d3;obtain⟨f4,e4,a1⟩:=qK "word" "bits" X G d4;obtain⟨f5,e5,a0⟩:=wS "count" X G d5;obtain⟨f6,e6,S⟩:=wS "count" X G d6;obtain⟨f7,e7,M⟩:=wS "row" X G d7;obtain⟨f8,e8,r⟩:=wS "row" X G d8;obtain⟨f9,e9,V⟩:=wS "row" X G d9;obtain⟨du,cz,aq⟩:=qK "row" "edges" X G bm;obtain⟨dv,c0,ba⟩:=qK "bits" "asked" X G bn;obtain⟨dw,c1,ab⟩:=qK "row" "weights" X G bo;obtain⟨dx,c2,ac⟩:=B9 "row" "weights" "carried" X G bp;obtain⟨dy,c3,ai⟩:=B9 "row" "weights" "known" X G bq;obtain⟨dz,c4,bj⟩:=Pn "row" "width" "words" "edges" X G br;obtain⟨d0,c5,j⟩:=B9 "row" "claim" "width" X G bt;obtain⟨ea,c6,y⟩:=qK "table" "sums" X G bu;obtain⟨eb,c7,a5⟩:=qK "steps" "sums" X G bv;obtain⟨ec,c8,O⟩:=wS "script" X G bw;obtain⟨ed,c9,A⟩:=qK "deck" "many" X G bx;obtain⟨ee,da,a3⟩:=JO X G bz;obtain⟨ef,db,N⟩:=qK "deck" "many" X G b0;obtain⟨eg,dd,aj⟩:=qK "deck" "many" X G b1;obtain⟨eh,de,a2⟩:=qK "deck" "known" X G b2;obtain⟨ei,df,bc⟩:=Pn "deck" "inputs" "gates" "most" X G b3;obtain⟨ej,dg,Q⟩:=wS "row" X G b4;obtain⟨ek,dh,bb⟩:=wS "deck" X G b5;obtain⟨el,di,P⟩:=qK "deck" "some" X G b6;obtain⟨em,dj,ao⟩:=wS "text" X G b7;obtain⟨en,dk,a4⟩:=qK "deck" "kit" X G b8;obtain⟨eo,dm,L⟩:=B9 "deck" "names" "width" X G b9;obtain⟨ep,dn,H⟩:=qK "deck" "row" X G ca;obtain⟨er,dp,aa⟩:=Z6 "row" "width" "low" "words" "edges" X G cb;obtain⟨es,dq,p⟩:=qK "deck" "row" X G cc;obtain⟨et,dr,bh⟩:=qK "names" "some" X G cf;obtain⟨eu,ds,ak⟩:=qK "deck" "row" X G cg;obtain⟨ev,dt,U⟩:=B9 "deck" "row" "weights" X G ch;obtain⟨f,od,an,sl,oc,kV,dc,pm,cd,ct,a,lk,c,k⟩:=cj;cases ck.symm.trans (PySem.W.mg_of X G a);have FL:=Sn (st:=C2) lk c k;refine⟨PySem.W.fnOf "law" "law" (tD C2) (rH C2) (mI C2) .none kV dc pm an cd ct,λs v=>.of_eq rfl,λbase _ _=>?_⟩;have T:Txt mg:=⟨bW X G z1,bW X G z2,bW X G z3,bW X G z4,bW X G z5,bW X G z6,bW X G z7,bW X G z8,bW X G z9,bW X G cl,bW X G cm,bW X G cn,bW X G cp,bW X G cq,bW X G cs,bW X G cu,bW X G cv,bW X G cw,bW X G cx,bW X G cy⟩;have E:∀ {k x st ps R f fd},Gd K mg x st ps f fd->nZ l.prog w K mg base k x st ps R->Kn l.prog w K mg base k x st ps R:=λg o=>⟨_,_,g,o _ _ g.F⟩
 have b:=E A λ_ _ F=>EZ (Fd F T)
 have n:=E aj λ_ _ F=>Ye (JC F T A a3 N)
 have a7:=E a2 λ_ _ F=>AT (ET F T A)
 have bg:=E bc (NE T b n a7);have q:=E P (AD T b);have ax:=E ao (FA T);have bf:=E bb (CW T b);have a8:=E a4 (BS T b n q ax);have D:=E Z λ_ _=>OB
 have a6:=E a1 (LZ T);have J:=E bd (IA T D a6);have Y:=E S (HP T);have d:=E M FS;have m:=E r (W5 d);have u:=E V X5;have t:=E Q AK;have B:=E a0 (GR T);have az:=E ar (FK T J);have au:=E ai (Wl T m u);have ah:=E ac (NP T B m d az au);have ag:=E ab (Zl T B ah);have be:=E ba (BN T);have ay:=E aq (Xx T d B be);have a9:=E a5 (IT T);have z:=E y (Wd T a9);have C:=E j (HM T ag ay z);have av:=E bj (JD T D d m u Y J);have i:=E L (IH b);have e:=E H (Xk T b);have af:=E aa (Zx T av);have I:=E p (CU T n q);have bi:=E bh (BH T);have aw:=E ak (X7 T b i e t av af I bi);have ae:=E U (Xc T b i e t av C);exact Y8 FL T O a8 bf bg aw ae (EX O.F T)
theorem walk {l:PySem.W.OpenLaw}{q:Ah}{g:Aa Af}{C:(Af->Ab Ac)->Ag->Prop}{p:World->Ag->Prop}{d:DefRec}{K:Params->lL}(J:l.most=some 63) (o:d.params.defaults=[])
  (I:∀ (w:World) (h:Ag),p w h->(K w.params).In h)
  (F:∀ (w:World) (j:Af->Ab Ac) (r:Ad) (h:Ag),(K w.params).In h->h.Ns mainGlobals j->j d.name=some (.ref r) ->∃ fd:FuncData,(∀ (s:Ae) (u:Ac),BindsTo s fd ⟨[u],[]⟩ [("script",u)])/\∀ base:Ag,(K w.params).In base->base.Ns mainGlobals j->FnOk l.prog w (K w.params) j base nR 8 r fd ["script"] (Ga (K w.params))) :
  PySem.W.WalkO q g C p l.row.toRowW d [] (λf T=>PySem.call f T) :=
 L2.walk_of (n:=63) (k:=8) (x := "script") (CX:=λ_=>nR) (sp:=λw=>Ga (K w.params)) J (by decide) o ⟨rfl,by decide,by decide⟩ I F (λ_ _ a e c _ b=>⟨a,e,rfl,b,c,λ_=>rfl⟩) λ_ _ _ _ _ z=>z
end Lw
namespace PySem.W.Fast
theorem tw13793423594279241142:True:=⟨⟩
theorem tw11630652517189300074:True:=⟨⟩
theorem tw4517328760068759602:True:=⟨⟩
theorem tw8983855871127783015:True:=⟨⟩
theorem tw16593449756154820501:True:=⟨⟩
theorem tw1783325802931944577:True:=⟨⟩
theorem tw12096150913345312476:True:=⟨⟩
theorem tw12366538984914480517:True:=⟨⟩
theorem tw8415640104509915214:True:=⟨⟩
theorem tw7230798866075925343:True:=⟨⟩
theorem tw16955191042141760129:True:=⟨⟩
theorem tw11800963799321074811:True:=⟨⟩
theorem tw8798898478937685673:True:=⟨⟩
theorem tw15142960920110529667:True:=⟨⟩
theorem tw9883972509533296781:True:=⟨⟩
theorem tw4935551512949900590:True:=⟨⟩
theorem tw15303231752895093217:True:=⟨⟩
theorem tw3417579402399228421:True:=⟨⟩
theorem tw1614082781398482606:True:=⟨⟩
theorem tw8852063633163904657:True:=⟨⟩
theorem tw8506132491246489435:True:=⟨⟩
theorem tw15039553414494341121:True:=⟨⟩
theorem tw3053263693996065622:True:=⟨⟩
theorem tw4720916586195464022:True:=⟨⟩
theorem tw15994052314059557415:True:=⟨⟩
theorem tw455932067548075262:True:=⟨⟩
theorem tw1681330881280111354:True:=⟨⟩
theorem tw9523308020675997529:True:=⟨⟩
theorem tw14845793881339435878:True:=⟨⟩
theorem tw1746769617709441241:True:=⟨⟩
theorem tw4415148149733962384:True:=⟨⟩
theorem tw3509237002115688761:True:=⟨⟩
theorem tw14225286177451511418:True:=⟨⟩
theorem tw11584801315425156723:True:=⟨⟩
theorem tw775898562869925292:True:=⟨⟩
theorem tw524572960573716910:True:=⟨⟩
theorem tw3179735371738998847:True:=⟨⟩
theorem tw12414969674418997093:True:=⟨⟩
theorem tw8824231586976829639:True:=⟨⟩
theorem tw6658469603592674610:True:=⟨⟩
theorem tw15589210624767012941:True:=⟨⟩
theorem tw13902623164747361588:True:=⟨⟩
theorem tw11381427819516509895:True:=⟨⟩
theorem tw8982668694416399998:True:=⟨⟩
theorem tw17275416055233649569:True:=⟨⟩
theorem tw13507953159758085589:True:=⟨⟩
theorem tw13542454893084734894:True:=⟨⟩
theorem tw11612595081735069171:True:=⟨⟩
theorem tw10201178040707198671:True:=⟨⟩
theorem tw9865458908819813863:True:=⟨⟩
theorem tw2389624719589863791:True:=⟨⟩
theorem tw7067208328919335455:True:=⟨⟩
theorem tw8291314339769466132:True:=⟨⟩
theorem tw16242138569980795592:True:=⟨⟩
theorem tw382564391719994759:True:=⟨⟩
theorem tw1947941516922523882:True:=⟨⟩
theorem tw12814502687184850556:True:=⟨⟩
theorem tw13316091677664323456:True:=⟨⟩
theorem tw11257644857125141346:True:=⟨⟩
theorem tw4986427159396331434:True:=⟨⟩
theorem tw2676117493348803367:True:=⟨⟩
theorem tw2253766030066950191:True:=⟨⟩
theorem tw12332516000790407820:True:=⟨⟩
theorem tw7947451139596137230:True:=⟨⟩
theorem tw12243148505625116701:True:=⟨⟩
theorem tw3880571107605003944:True:=⟨⟩
theorem tw14429203170526648081:True:=⟨⟩
theorem tw4775790433621557300:True:=⟨⟩
theorem tw10659374002732372847:True:=⟨⟩
theorem tw3691199721035189767:True:=⟨⟩
theorem tw2329387065676574460:True:=⟨⟩
theorem tw16505087074828586454:True:=⟨⟩
theorem tw5345027791868678257:True:=⟨⟩
theorem tw8359786434385120309:True:=⟨⟩
theorem tw14302658190237927042:True:=⟨⟩
theorem tw8260153670562286557:True:=⟨⟩
theorem tw16817253752169677063:True:=⟨⟩
theorem tw3368818613003015683:True:=⟨⟩
theorem tw14232397377231325170:True:=⟨⟩
theorem tw15998741814880674722:True:=⟨⟩
theorem tw6064277099621336090:True:=⟨⟩
theorem tw9367864422493766992:True:=⟨⟩
theorem tw2528309029110984385:True:=⟨⟩
theorem tw7412305634598772942:True:=⟨⟩
theorem tw15819718115892932679:True:=⟨⟩
theorem tw2274043026584206381:True:=⟨⟩
theorem tw4469883725663852242:True:=⟨⟩
theorem tw9310693544506744969:True:=⟨⟩
theorem tw17293949092549700124:True:=⟨⟩
theorem tw8343892968600724031:True:=⟨⟩
theorem tw17410624442078140772:True:=⟨⟩
theorem tw15958641194343359069:True:=⟨⟩
theorem tw15583453048545429704:True:=⟨⟩
theorem tw1825469963961209692:True:=⟨⟩
theorem tw5945952819823783020:True:=⟨⟩
theorem tw3990383128320846390:True:=⟨⟩
theorem tw15516090684890918181:True:=⟨⟩
theorem tw9441102266657925980:True:=⟨⟩
theorem tw5158491202584687082:True:=⟨⟩
theorem tw116447344027277859:True:=⟨⟩
theorem tw16451129076703551880:True:=⟨⟩
end PySem.W.Fast
open PySem PySem.W PyProof.Rows
set_option maxRecDepth 100000 in
set_option maxHeartbeats 0 in
theorem PySem.Challenge.cw_laidcells_k13_whole_rows_laid_in_parts_holds : PySem.Challenge.rw_laidcells_k13_whole_rows_laid_in_parts.Holds := by
 w_on;o_law;k_head;(case hw=>w_witness2)
 k_fill
 refine Lw.walk (l:=PySem.Challenge.rw_laidcells_k13_whole_rows_laid_in_parts) rfl rfl (fun w h Y=>PySem.W.kIn_of Y) ?F
 case F =>
  intro w mg fa h KX G hmg;refine' Lw.all_mk KX G hmg ?_ ?_ ?_ ?_ ?_ ?_ ?_ ?_ ?_ ?_ ?_ ?_ ?_ ?_ ?_ ?_ ?_ ?_ ?_ ?_ ?_ ?_ ?_ ?_ ?_ ?_ ?_ ?_ ?_ ?_ ?_ ?_ ?_ ?_ ?_ ?_ ?_ ?_ ?_ ?_ ?_ ?_ ?_ ?_ ?_ ?_ ?_ ?_ ?_ ?_ ?_ ?_ ?_ ?_ ?_ ?_ ?_ ?_
  all_goals try refine' Lw.df_mk ?_ ?_ ?_ ?_
  all_goals try unfold Lw.NZ
  all_goals try first | k_is | (dsimp only;k_is)
