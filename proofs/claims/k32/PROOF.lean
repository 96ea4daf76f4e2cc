import PyProof.Rows.All
import Wide.All
import OpenK.AllK
import Wide.FinOn
import Lean
import PyProof.EqAt
import PyProof.EqKinds
import PyProof.TupleCall
import PyProof.StationsW
import PyProof.Commute
import PyProof.ExcClass3
import PyProof.ExcInit
import OpenK.KCls
import OpenK.KMake
import PyProof.ExcArgsOwn
import PyProof.InstStoreFacts
import PyProof.MaxThree
import KE.KMinKey
import KE.KIntText
import PyProof.DictUpdate
import PyProof.Draws
import PyProof.EnumMake
import PyProof.DictIter
import PyProof.StrBlock2
import PyProof.P3Eq
import KE.KDictSum
import KE.KRevSl
import PyProof.Rows.SortStr
import PyProof.Rows.SortWalk
import PyProof.DictValues
import PyProof.DictWalks
import PyProof.MeetsDictList
import PySem.Challenge.RW_laidcells_k32_rows_laid_together
set_option Elab.async false
set_option linter.all false
set_option compiler.extract_closed false
set_option maxRecDepth 100000
set_option maxHeartbeats 20000000
noncomputable section
abbrev Aa:=@List
abbrev Ab:=@Option
abbrev Ac:=@PySem.Value
abbrev Ad:=@PySem.Addr
abbrev Ae:=@PySem.Shared
abbrev Af:=@PySem.Str
abbrev Ag:=@PySem.Heap
abbrev Ah:=@PySem.Program
abbrev kQ:=PySem.W.Frag
abbrev aA:=@List.length_map
abbrev aB:=@PySem.wpAny_bind
abbrev aD:=@List.mem_map
abbrev aE:=@List.mem_of_getElem?
abbrev aF:=@List.map_append
abbrev aG:=@List.map_map
abbrev aH:=@PySem.wpAny_pure
abbrev aI:=@List.mem_cons
abbrev aJ:=@List.mem_append_right
abbrev aK:=@if_neg
abbrev aL:=@List.getElem?_eq_some_iff
abbrev aM:=@List.mem_append_left
abbrev aO:=@List.length_append
abbrev aP:=@decide_eq_false
abbrev aQ:=@PySem.Heap.get?_push_of_some
abbrev aR:=@List.getElem?_eq_getElem
abbrev aT:=@List.mem_cons_self
abbrev aU:=@List.mem_map_of_mem
abbrev aV:=@decide_eq_true
abbrev aW:=@List.mem_singleton
abbrev aX:=@List.mem_filter
abbrev aY:=@List.mem_append
abbrev aZ:=@if_pos
abbrev bB:=@List.append_assoc
abbrev bC:=@List.nodup_append
abbrev bD:=@List.mem_cons_of_mem
abbrev bE:=@List.size_toArray
abbrev bF:=@Nat.le_refl
abbrev bH:=@List.map_cons
abbrev bJ:=@List.not_mem_nil
abbrev bK:=@PySem.Heap.lt_size
abbrev bL:=@PySem.Heap.get?_push_size
abbrev bM:=@List.getElem?_map
abbrev bN:=@PyProof.Rows.boot_tuple
abbrev bP:=@Bool.false_ne_true
abbrev bQ:=@PyProof.Rows.boot_dict
abbrev bR:=@Nat.lt_of_lt_of_le
abbrev bS:=@Nat.le_trans
abbrev bT:=@Option.some.inj
abbrev bU:=@List.length_filter_le
abbrev bV:=@PySem.W.mg_none_of
abbrev bW:=@PySem.F.plainAttrs_list
abbrev bX:=@List.nodup_cons
abbrev bY:=@List.length_set
abbrev bZ:=@List.map_congr_left
abbrev cA:=@List.take_add_one
abbrev cB:=@Nat.ne_of_lt
abbrev cC:=@List.length_take
abbrev cD:=@List.append_nil
abbrev cE:=@PySem.F.slot_list_append
abbrev cF:=@PySem.F.type_list_append
abbrev cG:=@List.take_of_length_le
abbrev cH:=@PySem.boot_len
abbrev cI:=@PySem.wpAny_callSpecial?_slot
abbrev cJ:=@Bool.and_eq_true
abbrev cK:=@Option.map_eq_some_iff
abbrev cL:=@congrArg
abbrev cM:=@List.length_range
abbrev cN:=@List.take_length
abbrev cO:=@List.length_replicate
abbrev cP:=@Option.isSome_iff_exists
abbrev cQ:=@List.cons_append
abbrev cR:=@of_decide_eq_true
abbrev cS:=@Function.comp_def
abbrev cT:=@PySem.F.slot_tuple_iterator_next
abbrev cU:=@List.replicate_succ
abbrev cV:=@Nat.mod_lt
abbrev cW:=@PySem.wpAny_call_entry
abbrev cX:=@List.find?_cons
abbrev cY:=@Int.toNat_natCast
abbrev cZ:=@List.nodup_nil
abbrev dB:=@PySem.wpAny_holding
abbrev dD:=@Sum.inr.inj
abbrev dF:=@PySem.wpAny_field
abbrev dH:=@PySem.wpAny_mono
abbrev dJ:=@List.lookup_cons
abbrev dL:=@Array.getElem?_eq_getElem
abbrev dM:=@Nat.lt_of_le_of_lt
abbrev dN:=@PySem.Heap.size_push
abbrev dO:=@List.length_cons
abbrev dP:=@beq_eq_false_iff_ne
abbrev dQ:=@PySem.mem_of_lookup
abbrev dR:=@Nat.zero_le
abbrev dU:=@List.getElem?_append_right
abbrev dX:=@PySem.W.kia_one
abbrev dY:=@PyProof.Rows.boot_list
abbrev dZ:=@or_false
abbrev eC:=@PySem.wpAny_truthy_bool
abbrev eD:=@decide_eq_true_eq
abbrev eF:=@PySem.wpAny_seqItems
abbrev eG:=@List.length_nil
abbrev eK:=@PySem.F.slot_dict_keyiterator_next
abbrev eM:=@List.getElem?_set_ne
abbrev eP:=@List.eraseIdx_cons_succ
abbrev eQ:=@PyProof.Rows.callWith_type1
abbrev eR:=@Ne.symm
abbrev eT:=@PySem.wpAny_newObj_type
abbrev eU:=@Array.length_toList
abbrev eV:=@List.cons.injEq
abbrev eX:=@Array.getElem?_toList
abbrev eY:=@PySem.wpAny_isInstance
abbrev eZ:=@List.all_eq_true
abbrev fC:=@Nat.lt_irrefl
abbrev fE:=@PySem.wpAny_attempt
abbrev fF:=@PySem.W.mg_of
abbrev fG:=@List.take_sublist
abbrev fH:=@PySem.F.args_tuple_iterator_next_1
abbrev fJ:=@PySem.F.slot_zip_next
abbrev fK:=@PySem.Heap.SameBut.update
abbrev fL:=@Array.getElem?_eq_none
abbrev fM:=@PySem.F.entry_tuple_iterator_next
abbrev fN:=@PySem.Paired.length
abbrev fO:=@List.any_cons
abbrev fP:=@List.getElem_mem
abbrev fQ:=@Bool.false_eq_true
abbrev fR:=@List.zip_cons_cons
abbrev fT:=@List.take_append_drop
abbrev fU:=@List.getElem?_append_left
abbrev fV:=@List.mem_of_find?_eq_some
abbrev fW:=@List.nil_append
abbrev fX:=@if_true
abbrev fY:=@PySem.wpAny_typeOf
abbrev fZ:=@List.flatten_cons
abbrev gA:=@Bool.and_eq_true_iff
abbrev gB:=@List.set_eq_of_length_le
abbrev gC:=@PyProof.Rows.slot_tuple_getitem
abbrev gE:=@List.perm_middle
abbrev gF:=@List.eq_nil_iff_forall_not_mem
abbrev gG:=@PySem.wpAny_Call_Name_kw
abbrev gH:=@List.map_nil
abbrev gI:=@PySem.tupleKind_room_in1
abbrev gJ:=@PySem.wpAny_setField_rec
abbrev gK:=@List.find?_eq_none
abbrev gL:=@Bool.eq_iff_iff
abbrev gM:=@if_false
abbrev gO:=@PySem.PassesOwn.never
abbrev gP:=@Int.emod_nonneg
abbrev gQ:=@List.prefix_append_right_inj
abbrev gR:=@List.Perm.append_left
abbrev gS:=@PyProof.Rows.boot_sum
abbrev gT:=@List.Pairwise.map
abbrev gU:=@List.IsPrefix.map
abbrev gW:=@List.mem_range
abbrev gX:=@PySem.Around.under_plainId
abbrev gY:=@beq_iff_eq
abbrev gZ:=@PySem.wpAny_setField
abbrev hG:=@List.mem_of_mem_take
abbrev hU:=@Nat.le_of_lt
abbrev hV:=@List.length_drop
abbrev hX:=@List.any_eq_true
abbrev hZ:=@List.filterMap_cons
abbrev iB:=@List.length_pos_iff
abbrev iC:=@PySem.F.args_tuple_add_2
abbrev iD:=@PySem.F.slot_list_getattribute
abbrev iE:=@PySem.AutoSeq1.wpAny_loadPart'
abbrev iF:=@PySem.wpAny_passesOwn
abbrev iH:=@PySem.Calls.spliced_cons
abbrev iJ:=@PySem.sub_AttributeError
abbrev iK:=@PySem.wpAny_pyIter_tuple
abbrev iL:=@List.filter_append
abbrev iM:=@Int.emod_lt_of_pos
abbrev iN:=@PySem.Obj.data_mapFields
abbrev iP:=@PySem.F.entry_tuple_add
abbrev iQ:=@PySem.F.plainAttrs_dict
abbrev iR:=@PySem.F.slot_zip_getattribute
abbrev iS:=@PySem.F.slot_tuple_add
abbrev iT:=@PySem.wpAny_pyIter_list
abbrev iU:=@List.take_zero
abbrev iW:=@List.getElem_cons_drop
abbrev iX:=@List.filter_congr
abbrev iY:=@PySem.F.args_zip_next_1
abbrev iZ:=@List.eraseIdxIfInBounds_toArray
abbrev jA:=@PySem.Heap.get?_update_self
abbrev jB:=@PySem.F.slot_dict_get
abbrev jD:=@PySem.wpAny_notOrdered_dict
abbrev jE:=@List.perm_append_comm
abbrev jF:=@PyProof.Rows.boot_min
abbrev jG:=@PyProof.Rows.boot_max
abbrev jH:=@Nat.succ_le_succ
abbrev jI:=@PySem.call_meets
abbrev jJ:=@beq_self_eq_true
abbrev jK:=@PySem.F.entry_zip_next
abbrev jL:=@List.all_cons
abbrev jM:=@List.sum_cons
abbrev jN:=@Nat.le_succ
abbrev jO:=@PySem.codeAny_builtin
abbrev jQ:=@List.forIn_cons
abbrev jR:=@Bool.or_eq_true
abbrev jS:=@List.range_succ
abbrev jT:=@List.find?_some
abbrev jU:=@List.filter_map
abbrev jV:=@List.getElem_of_mem
abbrev jW:=@List.filter_eq_self
abbrev jX:=@List.flatMap_append
abbrev jY:=@List.mem_filterMap
abbrev jZ:=@Option.isSome_some
abbrev kA:=@List.drop_zero
abbrev kB:=@PySem.wpAny_rule
abbrev kC:=@List.mem_replicate
abbrev kD:=@List.filter_filter
abbrev kE:=@Option.isSome_map
abbrev kF:=@PySem.wpAny_of_eq
abbrev kG:=@Option.some.injEq
abbrev kH:=@PySem.plainId_quiet
abbrev kI:=@List.cons.inj
abbrev kJ:=@Nat.le_add_right
abbrev kK:=@List.nodup_range
abbrev kL:=@List.take_prefix
abbrev kM:=@Nat.not_lt
abbrev kN:=@List.of_mem_zip
abbrev kO:=@List.length_zip
abbrev kP:=@Int.pow_pos
namespace L2
open PySem PySem.Spec PyProof.Rows
abbrev fS:=Sum Int Af
noncomputable def uW:fS->Ac->Bool
 | .inl k,v=>Value.isInt k v
 | .inr x,v=>Value.isStrOf x v
def Wl (w:World):fS->Int
 | .inl k=>hashInt k
 | .inr x=>hashStr w x
theorem tT:∀ {k:fS}{v:Ac},uW k v=true->(∃ i t,k=Sum.inl i/\v=Value.int i t)\/(∃ x t,k=Sum.inr x/\v=Value.str x t)
 | .inl i,v,h=>by
  obtain⟨t,e⟩:=Value.isInt_shape (k:=i) (v:=v) h;exact .inl ⟨i,t,rfl,e⟩
 | .inr x,v,h=>by
  obtain⟨t,e⟩:=Value.isStrOf_shape (x:=x) (v:=v) h;exact .inr ⟨x,t,rfl,e⟩
theorem Zv (i:Int) (t:Tok):uW (.inl i) (.int i t)=true:=by simp[uW,Value.isInt]
theorem FH (x:Af) (t:Tok):uW (.inr x) (.str x t)=true:=by simp[uW,Value.isStrOf]
theorem FQ (a b:Int):decide ((Sum.inl a:fS)=Sum.inl b)=(a == b):=by
 by_cases e:a=b
 .subst e;simp
 .have h:¬ (Sum.inl a:fS)=Sum.inl b:=λq=>e (Sum.inl.inj q)
  rw[aP h];exact (dP.mpr e).symm
theorem AV (a b:Af):decide ((Sum.inr a:fS)=Sum.inr b)=decide (a=b):=by
 by_cases e:a=b
 .subst e;simp
 .have h:¬ (Sum.inr a:fS)=Sum.inr b:=λq=>e (dD q)
  rw[aP h,aP e]
theorem Y5 (a:Int) (b:Af):decide ((Sum.inl a:fS)=Sum.inr b)=false:=aP (λq=>nomatch q)
theorem Y0 (a:Af) (b:Int):decide ((Sum.inr a:fS)=Sum.inl b)=false:=aP (λq=>nomatch q)
def nG (g:Ah) (w:World):PySem.KeyKind g w fS where
 is:=uW
 hash:=Wl w
 inj:=λv a b m f=>by
  rcases tT m with⟨i,t,rfl,rfl⟩ | ⟨x,t,rfl,rfl⟩
  .rcases tT f with⟨j,u,rfl,e⟩ | ⟨y,u,rfl,e⟩
   .injection e with c _;rw[c]
   .exact nomatch e
  .rcases tT f with⟨j,u,rfl,e⟩ | ⟨y,u,rfl,e⟩
   .exact nomatch e
   .injection e with c _;rw[c]
 byValue:=λk v h=>by
  rcases tT h with⟨i,t,rfl,rfl⟩ | ⟨x,t,rfl,rfl⟩<;>rfl
 pyHash:=λd h=>by
  rcases tT d with⟨i,t,rfl,rfl⟩ | ⟨x,t,rfl,rfl⟩
  .exact wpAny_pyHash_int h
  .exact wpAny_pyHash_str h
 eqBool:=λn d h=>by
  rcases tT n with⟨i,t,rfl,rfl⟩ | ⟨x,t,rfl,rfl⟩
  .rcases tT d with⟨j,u,rfl,rfl⟩ | ⟨y,u,rfl,rfl⟩
   .rw[FQ] at h;exact wpAny_eqBool_int h
   .rw[Y5] at h;exact SeqAt.EqAt.int_str i t y u _ _ _ _ h
  .rcases tT d with⟨j,u,rfl,rfl⟩ | ⟨y,u,rfl,rfl⟩
   .rw[Y0] at h;exact SeqAt.EqAt.str_int x t j u _ _ _ _ h
   .rw[AV] at h;exact wpAny_eqBool_str h
 «strs»:=λk x t v h=>by
  rcases tT h with⟨i,u,rfl,e⟩ | ⟨y,u,rfl,e⟩
  .exact nomatch e
  .injection e with c _;subst c;cases v<;>rfl
theorem BF (g:Ah) (w:World) (i:Int) (t:Tok):(nG g w).is (.inl i) (.int i t)=true:=Zv i t
theorem Nw (g:Ah) (w:World) (x:Af) (t:Tok):(nG g w).is (.inr x) (.str x t)=true:=FH x t
inductive V where
 | e | b (b:Bool) | int (i:Int) | str (x:Str) | byt (b:Array UInt8) | flt (b:UInt64) | ref (a:Addr) | ty (n:String)
 deriving DecidableEq
def lA:V->Ac->Prop
 | .e,u=>u=Value.none
 | .b b,u=>u=Value.bool b
 | .int i,u=>∃ t,u=Value.int i t
 | .str x,u=>∃ t,u=Value.str x t
 | .byt b,u=>∃ t,u=Value.bytes b t
 | .flt b,u=>∃ t,u=Value.float b t
 | .ref a,u=>u=Value.ref a
 | .ty n,u=>u=Value.type n
abbrev lC:Aa V->Aa Ac->Prop:=Paired lA
theorem lC.length (r:lC j g):j.length=g.length:=fN r
theorem lC.get:∀ {j:Aa V}{g:Aa Ac}{i:Nat}{x:V},lC j g->j[i]?=some x->∃ u,g[i]?=some u/\lA x u
 | _,_,_,_,.nil,e=>by simp at e
 | _,_,0,_,.cons r _,e=>by simp at e;subst e;exact⟨_,rfl,r⟩
 | _,_,i+1,x,.cons _ t,e=>by
  obtain⟨u,a,b⟩:=lC.get (i:=i) (x:=x) t (by simpa using e);exact⟨u,by simpa using a,b⟩
theorem lC.set (r:lA x u):∀ {j:Aa V}{g:Aa Ac}(i:Nat),lC j g->lC (j.set i x) (g.set i u)
 | _,_,_,.nil=>.nil
 | _,_,0,.cons _ t=>.cons r t
 | _,_,i+1,.cons q t=>.cons q (lC.set r i t)
theorem lC.append:∀ {l o:Aa V}{g j:Aa Ac},lC l g->lC o j->lC (l++o) (g++j)
 | _,_,_,_,.nil,s=>s
 | _,_,_,_,.cons r t,s=>.cons r (lC.append t s)
theorem lC.take:∀ {j:Aa V}{g:Aa Ac}(n:Nat),lC j g->lC (j.take n) (g.take n)
 | _,_,0,_=>.nil
 | _,_,_+1,.nil=>.nil
 | _,_,n+1,.cons r t=>.cons r (lC.take n t)
theorem lC.drop:∀ {j:Aa V}{g:Aa Ac}(n:Nat),lC j g->lC (j.drop n) (g.drop n)
 | _,_,0,r=>r
 | _,_,_+1,.nil=>.nil
 | _,_,n+1,.cons _ t=>lC.drop n t
def sC:Ab V->Ab Ac->Prop
 | some v,some u=>lA v u
 | none,none=>True
 | _,_=>False
def KV {g:Type}:Aa (g×V)->Aa (g×Ac)->Prop:=Paired λ(p:g×V) (q:g×Ac)=>p.1=q.1/\lA p.2 q.2
def kV:fS->V
 | .inl i=>.int i
 | .inr x=>.str x
inductive HO where
 | l (xs:List V)
 | t (xs:List V)
 | k (kvs:List (fS×V)) | T (kvs:List (List fS×V))
 | set (S:Int->Bool) (n:Nat)
 | ins (C dx:Addr) (fs:List (Str×V))
 | o (x:Addr)
 | xd (fs:List (Str×V))
 | met (f x:Addr)
 | rng (lo hi:Int)
 | frz (o:Obj) (u:HO)
 | tbl (ps:Array Value)
 | ext (φ:Heap->Prop)
abbrev Hp:=Ad->Ab HO
def upd (H:Hp) (a:Ad) (o:HO):Hp:=λb=>if b=a then some o else H b
theorem nM:upd H a o a=some o:=by unfold upd;rw[if_pos rfl]
theorem mD (h:b≠a):upd H a o b=H b:=by unfold upd;rw[if_neg h]
theorem FT:upd (upd H a o) a u=upd H a u:=by
 funext b;unfold upd;split<;>rfl
theorem CG {H:Hp}{a b:Ad}{o u:HO}(h:H a=some o) (g:H b=some u) (d:o≠u):a≠b:=by
 intro e;subst e;rw[h] at g;exact d (bT g)
theorem pP {H:Hp}{a b:Ad}{o:HO}(h:H a=some o) (g:H b=none):a≠b:=by
 intro e;subst e;rw[h] at g;cases g
section
variable (P:Ah) (w:World)
def vW (h:Ag) (a:Ad) (items:Array Ac):Prop:=IsTup h a items/\∃ o,h.get? a=some o/\o.dict=none
theorem vW.new (h:Ag) (items:Array Ac):vW (h.push { cls:=.type "tuple",data:=.seq items }) h.objs.size items:=⟨IsTup.new _ _,_,bL _ rfl,rfl⟩
def mW (H:Hp) (h:Ag) (a:Ad):HO->Prop
 | .l d=>d.length<=sizeLine/\∃ (b:Aa Ac) (n:Nat),lC d b/\h.get? a=some { cls:=.type "list",data:=.seq b.toArray n }
 | .t d=>d.length<=sizeLine/\∃ b:Aa Ac,lC d b/\vW h a b.toArray
 | .k c=>c.length<=sizeLine/\(a == sysModules)=false/\∃ A,KV c A/\h.DictOf (nG P w) a A
 | .T c=>c.length<=sizeLine/\(a == sysModules)=false/\∃ d:Aa (Aa fS×Ad×Ac),
   Paired (λ(p:Aa fS×V) (q:Aa fS×Ad×Ac)=>p.1=q.1/\H q.2.1=some (.t (p.1.map kV))/\lA p.2 q.2.2) c d /\
   ∃ o s B,h.get? a=some o/\o.ExactDict/\o.data = .dict s B/\s.toList=d.map (entryOfKey (tupleKind (nG P w)))/\(d.map (·.1)).Nodup
 | .set S n=>h.SetOf (intKind P w) a S n
 | .ins C i fs=>H i=some (.o a)/\fs.length<=1000/\i≠a/\h.get? a=some (PySem.W.instObj C i) /\
   ∃ e,h.Ns1 i e/\(∀ f,sC (fs.lookup f) (e f))/\PySem.Within e (fs.map (·.1))
 | .o _=>∃ o,h.get? a=some o
 | .xd fs=>∃ e,h.Ns1 a e/\∀ f,sC (fs.lookup f) (e f)
 | .rng lo D=>∃ t u v,h.get? a=some { cls:=.type "range",data:=.fields #[.int lo t,.int D u,.int 1 v] }
 | .frz o u=>h.get? a=some o/\mW H h a u
 | .tbl E=>h.get? a=some { cls:=.none,data:=.fields E }
 | .met f x=>h.get? a=some (PySem.W.methodObj (.ref f) (.ref x))
 | .ext m=>m h/\(∃ o,h.get? a=some o)/\∀ y z:Ag,m y->(∀ o,y.get? a=some o->z.get? a=some o)->m z
def nA (H:Hp) (h:Ag):Prop:=∀ a o,H a=some o->mW P w H h a o
end
section
variable {P:Ah}
theorem mW.lt (x:mW P w H h a o):a<h.objs.size:=by
 cases o with
 | l c=>obtain⟨_,_,_,_,e⟩:=x;exact bK e
 | t c=>obtain⟨_,_,_,p,_⟩:=x;exact p.lt
 | k b=>obtain⟨_,_,_,_,o,_,_,e,_⟩:=x;exact bK e
 | T b=>obtain⟨_,_,_,_,o,_,_,e,_⟩:=x;exact bK e
 | set S n=>obtain⟨o,_,_,_,e,_⟩:=x;exact bK e
 | ins C d fs=>obtain⟨_,_,_,e,_⟩:=x;exact bK e
 | o y=>obtain⟨_,e⟩:=x;exact bK e
 | xd fs=>obtain⟨_,⟨_,_,_,e,_⟩,_⟩:=x;exact bK e
 | rng lo i=>obtain⟨_,_,_,e⟩:=x;exact bK e
 | frz m u=>obtain⟨e,_⟩:=x;exact bK e
 | tbl q=>exact bK (show h.get? a=some _ from x)
 | met f y=>exact bK (show h.get? a=some _ from x)
 | ext s=>obtain⟨_,⟨_,e⟩,_⟩:=x;exact bK e
theorem Paired.mapP {F:l->o->Prop}:∀ {g:Aa l}{j:Aa o},Paired F g j->(∀ a b,F a b->G a b)->Paired G g j
 | _,_,.nil,_=>.nil
 | _,_,.cons r t,f=>.cons (f _ _ r) (Paired.mapP t f)
theorem mW.stay (x:mW P w H h a o) (k:∀ b u,(b=a\/H b=some (.o a))->h.get? b=some u->j.get? b=some u)
  (J:∀ b,H b=some (.o a)->I b=some (.o a)) (U:∀ b g,H b=some (.t g)->I b=some (.t g)):mW P w I j a o:=by
 induction o with
 | l g=>obtain⟨z,A,n,r,e⟩:=x;exact⟨z,A,n,r,k _ _ (.inl rfl) e⟩
 | t g=>obtain⟨z,A,r,⟨i,e,c⟩,M,B,K⟩:=x;exact⟨z,A,r,⟨i,k _ _ (.inl rfl) e,c⟩,M,k _ _ (.inl rfl) B,K⟩
 | k D=>obtain⟨z,y,N,r,i,s,m,e,c⟩:=x;exact⟨z,y,N,r,i,s,m,k _ _ (.inl rfl) e,c⟩
 | T D =>
  obtain⟨z,y,g,r,i,s,m,e,c⟩:=x;exact⟨z,y,g,Paired.mapP r λp q z=>⟨z.1,U _ _ z.2.1,z.2.2⟩,i,s,m,k _ _ (.inl rfl) e,c⟩
 | set S n=>obtain⟨i,s,m,t,e,c⟩:=x;exact⟨i,s,m,t,k _ _ (.inl rfl) e,c⟩
 | ins C O fs =>
  obtain⟨d,z,ne,e,E,⟨F,s,m,B,c⟩,r⟩:=x;exact⟨J _ d,z,ne,k _ _ (.inl rfl) e,E,⟨F,s,m,k _ _ (.inr d) B,c⟩,r⟩
 | o y=>obtain⟨i,e⟩:=x;exact⟨i,k _ _ (.inl rfl) e⟩
 | xd fs=>obtain⟨E,⟨F,s,m,e,c⟩,r⟩:=x;exact⟨E,⟨F,s,m,k _ _ (.inl rfl) e,c⟩,r⟩
 | rng lo Q=>obtain⟨t,u,v,e⟩:=x;exact⟨t,u,v,k _ _ (.inl rfl) e⟩
 | frz i u L=>obtain⟨e,q⟩:=x;exact⟨k _ _ (.inl rfl) e,L q⟩
 | tbl G =>
  have e:h.get? a=some { cls:=.none,data:=.fields G }:=x;show j.get? a=some { cls:=.none,data:=.fields G };exact k a _ (.inl rfl) e
 | met f y =>
  have e:h.get? a=some (PySem.W.methodObj (.ref f) (.ref y)):=x;show j.get? a=some (PySem.W.methodObj (.ref f) (.ref y));exact k a _ (.inl rfl) e
 | ext R=>obtain⟨p,⟨o,e⟩,st⟩:=x;exact⟨st _ _ p λo q=>k _ _ (.inl rfl) q,⟨o,k _ _ (.inl rfl) e⟩,st⟩
theorem nA.lt (x:nA P w H h) (e:H a=some o):a<h.objs.size:=(x a o e).lt
theorem nA.fresh (x:nA P w H h) (e:h.objs.size<=a):H a=none:=by
 cases q:H a with
 | none=>rfl
 | some u=>exact absurd (bR (x.lt q) e) (fC _)
theorem nA.kept (x:nA P w H h) (k:∀ b u,h.get? b=some u->g.get? b=some u):nA P w H g:=λa o e =>
 (x a o e).stay (λb u _ q=>k b u q) (λ_ q=>q) λ_ _ q=>q
theorem nA.laid (x:nA P w H h) (k:∀ b u,h.get? b=some u->h'.get? b=some u) (g:h.objs.size<=a) (new:mW P w (upd H a o) h' a o):nA P w (upd H a o) h':=λb u e=>by
 have f:=x.fresh g;by_cases d:b=a
 .subst d;rw[nM] at e;cases e;exact new
 .rw[mD d] at e;exact (x b u e).stay (λc v _ q=>k c v q) (λc q=>by rw[mD (pP q f)];exact q) λc i q=>by rw[mD (pP q f)];exact q
end
def Rd (H:Hp) (a:Ad) (u:HO):Prop:=H a=some u\/∃ o,H a=some (.frz o u)
theorem Rd.ok {P:Ah}(r:Rd H a u) (x:nA P w H h):mW P w H h a u:=by
 rcases r with r | ⟨o,r⟩
 .exact x a u r
 .obtain⟨_,q⟩:=x a _ r;exact q
def Bl:Ab HO->Prop
 | some (.l _)=>True
 | some (.k _)=>True
 | some (.T _)=>True
 | some (.set _ _)=>True
 | some (.ins _ _ _)=>True
 | some (.ext _)=>True
 | _=>False
section
variable {P:Ah}
theorem nA.write (ok:nA P w H h) (g:Bl (H x)) (p:e=x\/H e=some (.o x)) (k:∀ b u,b≠e->h.get? b=some u->j.get? b=some u) (l:∃ u,j.get? e=some u)
  (new:mW P w (upd H x C) j x C):nA P w (upd H x C) j:=λb u q=>by
 have d:∀ c y,H c=some (.o y)->c≠x:=λc y r z=>by subst z;rw[r] at g;exact g
 have f:∀ c n,H c=some (.t n)->c≠x:=λc n r z=>by subst z;rw[r] at g;exact g
 by_cases i:b=x
 .subst i;rw[nM] at q;cases q;exact new
 .rw[mD i] at q;by_cases a:b=e
  .have s:H b=some (.o x):=by
    rcases p with z | z
    .exact absurd (a.trans z) i
    .rw[a];exact z
   rw[q] at s;cases s;obtain⟨v,A⟩:=l;exact⟨v,by rw[a];exact A⟩
  .refine (ok b u q).stay (λc v m r=>k c v ?_ r) (λc r=>by rw[mD (d c b r)];exact r) λc n r=>by rw[mD (f c n r)];exact r
   rcases m with rfl | m
   .exact a
   .rintro rfl;rcases p with z | z
    .exact d c b m z
    .rw[m] at z;cases z;exact i rfl
end
structure Un (fs ex:List Addr) (H H':Hp) (h h':Heap):Prop where
 keep:∀ b o,h.get? b=some o->H b=none->b∉fs->b∉ex->h'.get? b=some o
 slot:∀ b o,h.get? b=some o->H b=none->b∈fs->b∉ex->∃ sl,h'.get? b=some { o with slots:=sl }
 free:∀ b o,h.get? b=some o->H b=none->b∉ex->H' b=none
 there:∀ b o,h.get? b=some o->b∉ex->∃ o',h'.get? b=some o'
 tups:∀ b xs,H b=some (.t xs)->H' b=some (.t xs)
 frzs:∀ b o u,H b=some (.frz o u)->H' b=some (.frz o u)
 tbls:∀ b ps,H b=some (.tbl ps)->∃ more,H' b=some (.tbl (ps++more))
section
theorem Un.any (u:Un fs l H r h o) (q:h.get? b=some g) (n:H b=none) (j:b∉l):∃ p,o.get? b=some { g with slots:=p }:=by
 by_cases a:b∈fs
 .exact u.slot b g q n a j
 .exact⟨g.slots,u.keep b g q n a j⟩
theorem Un.kept (k:∀ b u,h.get? b=some u->g.get? b=some u):Un fs j H H h g :=
 ⟨λb a q _ _ _=>k b a q,λb a q _ _ _=>⟨a.slots,k b a q⟩,λ_ _ _ n _=>n,λb a q _=>⟨a,k b a q⟩,λ_ _ q=>q,λ_ _ _ q=>q,λ_ c q=>⟨#[],by rw[q];simp⟩⟩
theorem Un.refl:Un fs g H H h h:=Un.kept λ_ _ q=>q
theorem Un.laid (k:∀ b u,h.get? b=some u->h'.get? b=some u) (j:h.objs.size<=a) (g:H a=none):Un fs l H (upd H a o) h h' where
 keep:=λb u q _ _ _=>k b u q
 slot:=λb u q _ _ _=>⟨u.slots,k b u q⟩
 free:=λb u q n _=>by rw[mD (cB (bR (bK q) j))];exact n
 there:=λb u q _=>⟨u,k b u q⟩
 tups:=λb c q=>by rw[mD (pP q g)];exact q
 frzs:=λb u c q=>by rw[mD (pP q g)];exact q
 tbls:=λb d q=>⟨#[],by rw[mD (pP q g),q];simp⟩
theorem Un.write (g:Bl (H x)) (p:e=x\/H e=some (.o x)) (k:∀ b u,b≠e->h.get? b=some u->l.get? b=some u) (j:∃ u,l.get? e=some u):Un fs C H (upd H x o) h l:=by
 have f:∀ b,H b=none->b≠x:=λb n z=>by subst z;rw[n] at g;exact g
 have d:∀ b,H b=none->b≠e:=λb n z=>by
  subst z;rcases p with r | r
  .exact f b n r
  .rw[n] at r;cases r
 have c:∀ b u,H b=some u->¬ Bl (some u)->b≠x:=λb u q i z=>by subst z;rw[q] at g;exact i g
 refine⟨λb u q n _ _=>k b u (d b n) q,λb u q n _ _=>⟨u.slots,k b u (d b n) q⟩,λb u q n _=>by rw[mD (f b n)];exact n,λb u q _=>?_,
  λb m q=>by rw[mD (c b _ q λz=>z)];exact q,λb u m q=>by rw[mD (c b _ q λz=>z)];exact q,λb s q=>⟨#[],by rw[mD (c b _ q λz=>z),q];simp⟩⟩
 by_cases a:b=e
 .subst a;exact j
 .exact⟨u,k b u a q⟩
end
noncomputable def C7 (h:Ag) (H:Hp):Aa Ad:=(List.range h.objs.size).filter λa=>(H a).isSome
def vM (h:Ag) (H:Hp):Ag:=PySem.W.hideAll h (C7 h H)
theorem CW (h:Ag) (H:Hp):(vM h H).objs.size=h.objs.size:=PySem.W.hideAll_size _ _
theorem Z1 (e:h.get? b=some o) (n:H b=none):(vM h H).get? b=some o :=
 PySem.W.hideAll_get _ e λa=>by
  have q:(H b).isSome=true:=(aX.mp a).2;rw[n] at q;simp at q
theorem Uz (e:(vM h H).get? b=some o):h.get? b=some o/\H b=none:=by
 have a:h.get? b=some o:=PySem.W.of_hideAll (C7 h H) e;refine⟨a,?_⟩;cases q:H b with
 | none=>rfl
 | some x =>
  have c:b∈C7 h H:=aX.mpr ⟨gW.mpr (bK a),by simp[q]⟩;have z:(vM h H).get? b=none:=PySem.W.hideAll_none (C7 h H) c;rw[z] at e;cases e
structure Mod (K:kQ) (mg:Str->Option Value) (base:Heap):Prop where
 kin:K.In base
 glob:base.Ns mainGlobals mg
 blt:∃ mb,base.Ns builtinsNs mb/\∀ x:Str,x ≠ "__name__" -> mb x=bootBuiltins x
 nolimit:base.NoLimit
/-- the context: a def's body (or a comprehension's block) running. base: fixed through the whole law;s₀,H₀: the entry;outer: the frames whose slots others may change (a def's callers);stack: all frames that run;
 ex: iterators that were made ahead of the entry and are walked here (a comprehension's);fn: the names whose cells were made at the entry (a def: all;a comprehension's block: its own);calm: not within an except suite;pn: pins that every state bears;xe: what is wanted of an exception that leaves the code -/
structure Cx where
 prog:Program
 w:World
 K:kQ
 mg:Str->Option Value
 base:Heap
 A:Around
 N:List Str
 s₀:Shared
 H₀:Hp
 env:Env
 outer:List Env
 stack:List Env
 ex:List Addr
 fn:Str->Bool
 calm:Bool
 pn:List (Addr×Obj)
 xe:Value->Shared->Prop
noncomputable def sT (l:Aa Env):Aa Ad:=l.filterMap (·.frame)
abbrev Cx.fs (X:Cx):Aa Ad:=sT X.outer
def Ha (g:Scope) (x:Af):Prop:=g.names.lookup x=some .local\/g.names.lookup x=some .cell\/g.names.lookup x=some .free
def rG (g:Scope) (x:Af):Prop:=g.names.lookup x=some .local\/g.names.lookup x=some .cell
def FP (g:Env) (h:Ag) (m:Af->Ab Ac) (x:Af) (u:Ac):Prop :=
 (g.kindOf x=some .local/\m x=some u)\/((g.kindOf x=some .cell\/g.kindOf x=some .free)/\∃ c,g.cells.lookup x=some c/\h.IsCell c (some u))
structure Cx.Ok (X:Cx):Prop where
 mod:Mod X.K X.mg X.base
 kind:X.env.scope.kind = .function
 glob:X.env.globals=mainGlobals
 blt:X.env.builtins=builtinsNs
 above:X.s₀.heap.objs.size<=X.env.locals
 inj:∀ x y c,X.env.cells.lookup x=some c->X.env.cells.lookup y=some c->x=y
 has:∀ x,(X.env.kindOf x=some .cell\/X.env.kindOf x=some .free)->∃ c,X.env.cells.lookup x=some c
 cab:∀ x c,X.fn x=true->X.env.cells.lookup x=some c->X.s₀.heap.objs.size<=c
 hd:X.calm=true->X.A.handled=none
 frames:X.A.frames=some X.stack
 stk:X.stack=X.outer\/(X.stack=X.env::X.outer/\X.env.frame=some X.env.locals)
 exf:∀ b∈X.ex,b≠X.env.locals/\∀ x c,X.env.cells.lookup x=some c->c≠b
 bs:∀ b o,X.base.get? b=some o->X.s₀.heap.get? b=some o/\X.H₀ b=none
 bsz:X.base.objs.size<=X.s₀.heap.objs.size
 noex:∀ b o,X.base.get? b=some o->b∉X.ex
 exfs:∀ b∈X.ex,b∉X.fs
 funs:X.s₀.heap.FunFrames X.base X.outer
 frf:∀ b∈X.fs,X.H₀ b=none
structure Inv (X:Cx) (pins:List (Addr×Obj)) (σ:List (Option V)) (H:Hp) (s:Shared):Prop where
 ok:X.Ok
 os:s.os=X.s₀.os
 bare:AllBare s.gens
 base:Un X.fs X.ex X.H₀ H X.s₀.heap s.heap
 loc:∃ m,s.heap.Ns X.env.locals m/\∀ (i:Nat) (x:Str) (v:V),X.N[i]?=some x->σ[i]?=some (some v)->Ha X.env.scope x->∃ u,lA v u/\FP X.env s.heap m x u
 cell:∀ x c,X.env.cells.lookup x=some c->∃ v,s.heap.IsCell c v
 free:H X.env.locals=none
 freeC:∀ x c,X.env.cells.lookup x=some c->H c=none
 pin:∀ p∈X.pn++pins,s.heap.get? p.1=some p.2/\H p.1=none/\p.1≠X.env.locals/\p.1∉X.fs/\∀ v,p.2.data ≠ .cell v
 hok:nA X.prog X.w H s.heap
 len:σ.length=X.N.length
section
variable {X:Cx}
theorem Cx.Ok.nofr (ok:X.Ok) (e:X.base.get? b=some o):b∉X.fs:=λa=>by
 have:=(ok.funs.mem a).1;rw[e] at this;cases this
theorem Inv.bs (I:Inv X g j H s):∀ b o,X.base.get? b=some o->s.heap.get? b=some o/\H b=none:=λb o e =>
 ⟨I.base.keep b o (I.ok.bs b o e).1 (I.ok.bs b o e).2 (I.ok.nofr e) (I.ok.noex b o e),I.base.free b o (I.ok.bs b o e).1 (I.ok.bs b o e).2 (I.ok.noex b o e)⟩
theorem Inv.bk (I:Inv X g j H s):∀ b o,X.base.get? b=some o->s.heap.get? b=some o:=λb o e=>(I.bs b o e).1
theorem Inv.mod (I:Inv X g j H s):Mod X.K X.mg X.base:=I.ok.mod
theorem Inv.kIn (I:Inv X g j H s):X.K.In s.heap:=I.ok.mod.kin.keeps I.bk
theorem Inv.lt (I:Inv X g j H s):X.env.locals<s.heap.objs.size:=let ⟨_,a,_⟩:=I.loc;a.lt
theorem Inv.sz (I:Inv X g j H s):X.s₀.heap.objs.size<=s.heap.objs.size:=bS I.ok.above (hU I.lt)
theorem Inv.nofs (I:Inv X g j H s) (h:s.heap.objs.size<=a):a∉X.fs:=λb=>by
 obtain⟨_,o,c,_⟩:=I.ok.funs.mem b;exact absurd (bR (bK c) (bS I.sz h)) (fC _)
theorem Inv.cne (I:Inv X g j H s):∀ x c,X.env.cells.lookup x=some c->c≠X.env.locals:=λx c e z=>by
 obtain⟨v,o,d,hd⟩:=I.cell x c e;obtain⟨m,⟨i,h,f,b,a,_⟩,_⟩:=I.loc;rw[z,b] at d;cases d;rw[a] at hd;cases hd
theorem Inv.funs (I:Inv X g j H s):s.heap.FunFrames X.base X.outer:=by
 have all:∀ (l:Aa Env),(∀ b∈sT l,b∈X.fs)->X.s₀.heap.FunFrames X.base l->s.heap.FunFrames X.base l:=by
  intro l;induction l with
  | nil=>intro _ _;trivial
  | cons h r t =>
   intro f k;obtain⟨i,⟨L,o,d,m,n,hd⟩,q⟩:=k;have a:L∈X.fs:=f L (by unfold sT;rw[List.filterMap_cons,d];exact aT);obtain⟨u,e⟩:=I.base.slot L o n (I.ok.frf L a) a λz=>I.ok.exfs L z a
   exact⟨i,⟨L,_,d,m,e,hd⟩,t (λb c=>f b (by unfold sT;rw[List.filterMap_cons,d];exact bD _ c)) q⟩
 exact all X.outer (λ_ c=>c) I.ok.funs
theorem Inv.stack (I:Inv X g j H s):s.heap.FunFrames X.base X.stack:=by
 rcases I.ok.stk with e | ⟨e,a⟩
 .rw[e];exact I.funs
 .rw[e];obtain⟨m,b,_⟩:=I.loc;refine .cons (by rw[I.ok.kind];decide) a b ?_ I.funs;exact Heap.get?_none_of_le (bS I.ok.bsz I.ok.above)
theorem Inv.stkSub (I:Inv X g j H s):∀ b∈sT X.stack,b∈X.env.locals::X.fs:=λb a=>by
 rcases I.ok.stk with e | ⟨e,c⟩
 .rw[e] at a;exact bD _ a
 .rw[e] at a;unfold sT at a;rw[hZ,c] at a;exact a
theorem Inv.stkFree (I:Inv X g j H s):∀ b∈sT X.stack,H b=none:=λb a=>by
 rcases aI.mp (I.stkSub b a) with e | a
 .rw[e];exact I.free
 .obtain⟨_,o,c,_⟩:=I.ok.funs.mem a;exact I.base.free b o c (I.ok.frf b a) λz=>I.ok.exfs b z a
theorem Inv.step {g':Array GenState}{t':Nat}{d':Drawn}{ch:Aa Ad}(I:Inv X j σ H s)
  (g:∀ b∈ch,(b∈X.ex\/X.s₀.heap.objs.size<=b)/\b≠X.env.locals/\(∀ x c,X.env.cells.lookup x=some c->c≠b)/\∀ p∈X.pn++j,p.1≠b)
  (keep:∀ b o,b≠X.env.locals->b∉X.fs->b∉ch->s.heap.get? b=some o->H b=none->J.get? b=some o)
  (slot:∀ b o,b≠X.env.locals->b∈X.fs->b∉ch->s.heap.get? b=some o->H b=none->∃ sl,J.get? b=some { o with slots:=sl }) (free:∀ b o,b∉ch->s.heap.get? b=some o->H b=none->T b=none)
  (there:∀ b o,b∉ch->s.heap.get? b=some o->∃ o',J.get? b=some o')
  (ab:∀ b C,H b=some (.t C)->T b=some (.t C)) (U:∀ b o u,H b=some (.frz o u)->T b=some (.frz o u)) (aa:∀ b ps,H b=some (.tbl ps)->∃ more,T b=some (.tbl (ps++more)))
  (ns:∀ m,s.heap.Ns X.env.locals m->J.Ns X.env.locals m) (ac:nA X.prog X.w T J) (hg:AllBare g') :
  Inv X j σ T { s with heap:=J,gens:=g',drawn:=d',toks:=t' }:=by
 have F:∀ b o,X.s₀.heap.get? b=some o->b≠X.env.locals:=λb o e=>cB (bR (bK e) I.ok.above)
 have A:∀ b o,X.s₀.heap.get? b=some o->b∉X.ex->b∉ch:=λb o e a B=>by
  rcases (g b B).1 with z | z
  .exact a z
  .exact absurd (bR (bK e) z) (fC _)
 have f:∀ x c,X.env.cells.lookup x=some c->∀ v,s.heap.IsCell c v->J.IsCell c v:=λx c e v G=>by
  obtain⟨o,D,hd⟩:=G;have h:c∉ch:=λz=>(g c z).2.2.1 x c e rfl
  by_cases L:c∈X.fs
  .obtain⟨sl,q⟩:=slot c o (I.cne x c e) L h D (I.freeC x c e);exact⟨_,q,hd⟩
  .exact⟨o,keep c o (I.cne x c e) L h D (I.freeC x c e),hd⟩
 refine⟨I.ok,I.os,hg,⟨λb o e n B a=>?_,λb o e n B a=>?_,λb o e n a=>?_,λb o e a=>?_,λb C e=>ab b C (I.base.tups b C e),λb o C e=>U b o C (I.base.frzs b o C e),λb ps e=>?_⟩,?_,λx c e=>?_,?_,λx c e=>?_,λp M=>?_,ac,I.len⟩
 .exact keep b o (F b o e) B (A b o e a) (I.base.keep b o e n B a) (I.base.free b o e n a)
 .obtain⟨sl,y⟩:=I.base.slot b o e n B a;obtain⟨K,E⟩:=slot b _ (F b o e) B (A b o e a) y (I.base.free b o e n a);exact⟨K,E⟩
 .obtain⟨o',y⟩:=I.base.there b o e a;exact free b o' (A b o e a) y (I.base.free b o e n a)
 .obtain⟨o',y⟩:=I.base.there b o e a;exact there b o' (A b o e a) y
 .obtain⟨R,y⟩:=I.base.tbls b ps e;obtain⟨S,E⟩:=aa b _ y;exact⟨R++S,by rw[E,Array.append_assoc]⟩
 .obtain⟨m,Q,P⟩:=I.loc;refine⟨m,ns m Q,λi x v y E O=>?_⟩;obtain⟨u,r,l⟩:=P i x v y E O;refine⟨u,r,?_⟩;rcases l with l | ⟨k,c,e,z⟩
  .exact .inl l
  .exact .inr ⟨k,c,e,f x c e _ z⟩
 .obtain⟨v,z⟩:=I.cell x c e;exact⟨v,f x c e v z⟩
 .obtain⟨m,⟨o,_,_,D,_⟩,_⟩:=I.loc;exact free _ o (λz=>(g _ z).2.1 rfl) D I.free
 .obtain⟨v,o,D,hd⟩:=I.cell x c e;exact free c o (λz=>(g c z).2.2.1 x c e rfl) D (I.freeC x c e)
 .obtain⟨e,n,ne,N,d⟩:=I.pin p M;have h:p.1∉ch:=λz=>(g p.1 z).2.2.2 p M rfl
  exact⟨keep p.1 p.2 ne N h e n,free p.1 p.2 h e n,ne,N,d⟩
theorem Inv.un (I:Inv X g p H s) (u:Un X.fs [] H l s.heap h') (j:nA X.prog X.w l h'):Inv X g p l { s with heap:=h',toks:=t' }:=by
 obtain⟨m,⟨o,v,t,h,r⟩,_⟩:=id I.loc;obtain⟨A,i⟩:=u.any h I.free (by simp);exact I.step (g':=s.gens) (d':=s.drawn) (ch:=[]) (λ_ z=>nomatch z) (λb o _ f _ e n=>u.keep b o e n f (by simp)) (λb o _ f _ e n=>u.slot b o e n f (by simp)) (λb o _ e n=>u.free b o e n (by simp)) (λb o _ e=>u.there b o e (by simp)) u.tups u.frzs u.tbls (λx k=>by
  obtain⟨y,d,c,a,q⟩:=k;rw[h] at a;cases a;exact⟨_,d,c,i,q⟩) j I.bare
theorem Inv.call (I:Inv X g T H s) (u:Un (sT X.stack) ch H C s.heap h') (l:nA X.prog X.w C h') (J:AllBare g')
  (j:∀ b∈ch,(b∈X.ex\/X.s₀.heap.objs.size<=b)/\b≠X.env.locals/\(∀ x c,X.env.cells.lookup x=some c->c≠b)/\∀ p∈X.pn++g,p.1≠b) :
  Inv X g T C { s with heap:=h',gens:=g',drawn:=d',toks:=t' }:=by
 obtain⟨m,⟨o,A,y,k,r⟩,_⟩:=id I.loc;obtain⟨E,i⟩:=u.any k I.free λz=>(j _ z).2.1 rfl
 exact I.step (ch:=ch) j (λb o i q a e n=>u.keep b o e n (λz=>(aI.mp (I.stkSub b z)).elim i q) a) (λb o _ _ a e n=>u.any e n a) (λb o a e n=>u.free b o e n a) (λb o a e=>u.there b o e a) u.tups u.frzs u.tbls (λB t=>by
  obtain⟨D,h,f,d,v⟩:=t;rw[k] at d;cases d;exact⟨_,h,f,i,v⟩) l J
theorem Inv.turned (I:Inv X j σ H s) (k:∀ b o,b≠g->s.heap.get? b=some o->C.get? b=some o) (hn:H g=none) (l:g≠X.env.locals)
  (J:g∈X.ex\/X.s₀.heap.objs.size<=g) (T:∀ x c,X.env.cells.lookup x=some c->c≠g) (U:∀ p∈X.pn++j,p.1≠g):Inv X j σ H { s with heap:=C,toks:=t' }:=by
 have d:∀ b u,H b=some u->b≠g:=λb u e z=>by rw[z,hn] at e;cases e
 refine I.step (g':=s.gens) (d':=s.drawn) (ch:=[g]) (λb i=>?_) (λb o _ _ a e _=>k b o (λz=>a (by simp[z])) e) (λb o _ _ a e _=>⟨o.slots,k b o (λz=>a (by simp[z])) e⟩) (λ_ _ _ _ n=>n)
  (λb o a e=>⟨o,k b o (λz=>a (by simp[z])) e⟩) (λ_ _ e=>e) (λ_ _ _ e=>e) (λb y e=>⟨#[],by rw[e];simp⟩) (λm t=>?_) (λb u e=>?_) I.bare
 .have e:b=g:=by simpa using i
  subst e;exact⟨J,l,T,U⟩
 .obtain⟨o,h,f,w,r⟩:=t;exact⟨o,h,f,k _ o (eR l) w,r⟩
 .refine (I.hok b u e).stay (λc v a q=>k c v ?_ q) (λ_ q=>q) λ_ _ q=>q
  rcases a with z | z
  .rw[z];exact d b u e
  .exact d c _ z
theorem Inv.tok (I:Inv X g j H s) (t:Nat):Inv X g j H { s with toks:=t }:=I.un (h':=s.heap) (t':=t) Un.refl I.hok
theorem Inv.kept (I:Inv X g l H s) (k:∀ b u,s.heap.get? b=some u->j.get? b=some u):Inv X g l H { s with heap:=j,toks:=t' }:=I.un (Un.kept k) (I.hok.kept k)
theorem Inv.laid (I:Inv X g l H s) (k:∀ b u,s.heap.get? b=some u->h'.get? b=some u) (j:s.heap.objs.size<=a) (new:mW X.prog X.w (upd H a o) h' a o) :
  Inv X g l (upd H a o) { s with heap:=h',toks:=t' }:=I.un (Un.laid k j (I.hok.fresh j)) (I.hok.laid k j new)
theorem Inv.write (I:Inv X j C H s) (r:Bl (H x)) (p:e=x\/H e=some (.o x)) (k:∀ b u,b≠e->s.heap.get? b=some u->l.get? b=some u) (g:∃ u,l.get? e=some u)
  (new:mW X.prog X.w (upd H x o) l x o):Inv X j C (upd H x o) { s with heap:=l,toks:=J }:=I.un (Un.write r p k g) (I.hok.write r p k g new)
theorem Inv.pins_of (I:Inv X j l H s) (h:∀ p∈g,s.heap.get? p.1=some p.2/\H p.1=none/\p.1≠X.env.locals/\p.1∉X.fs/\∀ v,p.2.data ≠ .cell v):Inv X g l H s :=
 ⟨I.ok,I.os,I.bare,I.base,I.loc,I.cell,I.free,I.freeC,λp a=>(aY.mp a).elim (λz=>I.pin p (aM _ z)) (h p),I.hok,I.len⟩
theorem Qd {N:Aa Af}(g:N.Nodup){i j:Nat}{x:Af}(a:N[i]?=some x) (b:N[j]?=some x):i=j:=by
 obtain⟨e,c⟩:=aL.mp a;obtain⟨f,d⟩:=aL.mp b;exact (List.getElem_inj g).mp (c.trans d.symm)
theorem Ri (I:Inv X J σ H s) (hN:X.N.Nodup) (l:X.N[i]?=some x) (g:rG X.env.scope x) (r:lA v u)
  (h:∀ s',Inv X J (σ.set i (some v)) H s'->(∃ a,Heap.SameBut a s.heap s'.heap/\(a=X.env.locals\/X.env.cells.lookup x=some a))->Q () s') (hf:X.fn x=true\/X.env.scope.names.lookup x=some .local:=by first | exact .inl rfl | exact .inr rfl | assumption):wpAny M A (storeName X.env x u) Q E s:=by
 obtain⟨m,hn,hl⟩:=id I.loc;have Y:(X.env.scope.kind == .class||(X.env.scope.kind == .module&&X.env.locals != X.env.globals))=false:=by rw[I.ok.kind];rfl
 have K:i<σ.length:=by rw[I.len];exact (aL.mp l).1
 have cne:=I.cne;have B:∀ {a:Ad} {S:Ag},(∃ o,s.heap.get? a=some o/\H a=none)->Heap.SameBut a s.heap S->nA X.prog X.w H S:=λ{a S} ha f b ob e=>by
  obtain⟨_,_,F⟩:=ha;refine (I.hok b ob e).stay (λc U D q=>(f.2 c ?_).trans q) (λ_ q=>q) λ_ _ q=>q
  rintro rfl;rcases D with rfl | D
  .rw[F] at e;cases e
  .rw[F] at D;cases D
 rcases g with L | L
 .refine wpAny_storeName_local L hn (λS aa f=>?_) Y;obtain⟨oL,_,_,ab,_⟩:=id hn;refine h _ ⟨I.ok,I.os,I.bare,⟨λb o e n O g=>?_,λb o e n O g=>?_,I.base.free,λb o e g=>?_,I.base.tups,I.base.frzs,I.base.tbls⟩,⟨_,aa,λj y v' t G e3=>?_⟩,λy c e=>?_,I.free,I.freeC,λp hp=>?_,B ⟨oL,ab,I.free⟩ f,by simpa using I.len⟩ ⟨_,f,.inl rfl⟩
  .exact (f.2 b (cB (bR (bK e) I.ok.above))).trans (I.base.keep b o e n O g)
  .obtain⟨sl,t⟩:=I.base.slot b o e n O g;exact⟨sl,(f.2 b (cB (bR (bK e) I.ok.above))).trans t⟩
  .obtain⟨o',t⟩:=I.base.there b o e g;exact⟨o',(f.2 b (cB (bR (bK e) I.ok.above))).trans t⟩
  .by_cases R:j=i
   .subst R;rw[l] at t;cases t;rw[List.getElem?_set_self K] at G;cases G;exact⟨u,r,.inl ⟨L,by simp⟩⟩
   .rw[eM (eR R)] at G;obtain⟨u',r',q⟩:=hl j y v' t G e3;refine⟨u',r',?_⟩;rcases q with⟨k,e⟩ | ⟨k,c,e,z⟩
    .refine .inl ⟨k,?_⟩;have:y≠x:=λe=>R (Qd hN t (e▸l))
     simp[this,e]
    .exact .inr ⟨k,c,e,z.sameBut f (cne y c e)⟩
  .obtain⟨U,z⟩:=I.cell y c e;exact⟨U,z.sameBut f (cne y c e)⟩
  .obtain⟨e,n,ne,nf,d⟩:=I.pin p hp;exact⟨(f.2 p.1 ne).trans e,n,ne,nf,d⟩
 .have P:X.fn x=true:=by
   rcases hf with z | z
   .exact z
   .rw[z] at L;cases L
  obtain⟨c,D⟩:=I.ok.has x (.inl L);obtain⟨U,z⟩:=I.cell x c D;refine wpAny_storeName_cell I.ok.kind L D z (λS V f=>?_);obtain⟨oc,Z,C⟩:=id z;refine h { s with heap:=S } ⟨I.ok,I.os,I.bare,⟨λb o e n O g=>?_,λb o e n O g=>?_,I.base.free,λb o e g=>?_,I.base.tups,I.base.frzs,I.base.tbls⟩,⟨m,hn.sameBut f (eR (cne x c D)),λj y v' t G e3=>?_⟩,λy T e=>?_,I.free,I.freeC,λp hp=>?_,B ⟨oc,Z,I.freeC x c D⟩ f,by simpa using I.len⟩ ⟨c,f,.inr D⟩
  .exact (f.2 b (cB (bR (bK e) (I.ok.cab x c P D)))).trans (I.base.keep b o e n O g)
  .obtain⟨sl,t⟩:=I.base.slot b o e n O g;exact⟨sl,(f.2 b (cB (bR (bK e) (I.ok.cab x c P D)))).trans t⟩
  .obtain⟨o',t⟩:=I.base.there b o e g;exact⟨o',(f.2 b (cB (bR (bK e) (I.ok.cab x c P D)))).trans t⟩
  .by_cases R:j=i
   .subst R;rw[l] at t;cases t;rw[List.getElem?_set_self K] at G;cases G;exact⟨u,r,.inr ⟨.inl L,c,D,V⟩⟩
   .rw[eM (eR R)] at G;obtain⟨u',r',q⟩:=hl j y v' t G e3;refine⟨u',r',?_⟩;rcases q with q | ⟨k,T,e,z'⟩
    .exact .inl q
    .refine .inr ⟨k,T,e,z'.sameBut f ?_⟩;rintro rfl;exact R (Qd hN t (I.ok.inj _ _ _ e D▸l))
  .by_cases W:T=c
   .subst W;exact⟨_,V⟩
   .obtain⟨w2,z2⟩:=I.cell y T e;exact⟨w2,z2.sameBut f W⟩
  .obtain⟨e,n,ne,nf,d⟩:=I.pin p hp;refine⟨(f.2 p.1 ?_).trans e,n,ne,nf,d⟩;intro q;rw[q,Z] at e;have q':oc=p.2:=bT e;exact d U (by rw[<- q'];exact C)
theorem Og (I:Inv X g J H s) (l:X.N.Nodup) (p:X.N[i]?=some x) (C:rG X.env.scope x) (r:lA v u)
  (h:∀ j,Inv X g (J.set i (some v)) H j->Q () j) (o:X.fn x=true\/X.env.scope.names.lookup x=some .local:=by first | exact .inl rfl | exact .inr rfl | assumption):wpAny M A (storeName X.env x u) Q E s :=
 Ri I l p C r (λj a _=>h j a) o
theorem Inv.call' (I:Inv X g J H s) (C:s'.os=s.os) (u:Un (sT X.stack) ch H o s.heap s'.heap) (l:nA X.prog X.w o s'.heap) (r:AllBare s'.gens)
  (j:∀ b∈ch,(b∈X.ex\/X.s₀.heap.objs.size<=b)/\b≠X.env.locals/\(∀ x c,X.env.cells.lookup x=some c->c≠b)/\∀ p∈X.pn++g,p.1≠b):Inv X g J o s':=by
 obtain⟨i,d,a,h,f⟩:=s';have e:f=s.os:=C;subst e;exact I.call (g':=d) (t':=h) (d':=a) u l r j
end
abbrev XK:=Ac->Ab Ad->Hp->Prop
abbrev St:=Aa (Ab V)
abbrev VK:=V->Hp->Prop
abbrev TE:=St->Hp->VK->Prop
abbrev TT:=St->Hp->(Bool->Hp->Prop)->Prop
abbrev TA:=St->Hp->(Aa V->Hp->Prop)->Prop
structure Ends where
 nx:St->Hp->Prop
 rt:VK
 bk:St->Hp->Prop:=λ_ _=>False
 ct:St->Hp->Prop:=λ_ _=>False
abbrev TS:=Ends->St->Hp->Prop
def EP (X:Cx) (g:Aa (Ad×Obj)) (l:St) (Q:VK) (u:Ac) (j:Ae):Prop:=∃ v a,Inv X g l a j/\lA v u/\Q v a
def TP (X:Cx) (g:Aa (Ad×Obj)) (l:St) (Q:Bool->Hp->Prop) (b:Bool) (j:Ae):Prop:=∃ a,Inv X g l a j/\Q b a
def AP (X:Cx) (g:Aa (Ad×Obj)) (o:St) (Q:Aa V->Hp->Prop) (l:Aa Ac) (j:Ae):Prop:=∃ b a,Inv X g o a j/\lC b l/\Q b a
def SP (X:Cx) (g:Aa (Ad×Obj)) (D:Ends) (f:Flow) (j:Ae):Prop :=
 match f with
 | .next=>∃ a b,Inv X g a b j/\D.nx a b
 | .brk=>∃ a b,Inv X g a b j/\D.bk a b
 | .cont=>∃ a b,Inv X g a b j/\D.ct a b
 | .ret u=>∃ v a b,Inv X g a b j/\lA v u/\D.rt v b
def PE (X:Cx) (e:Expr) (t:TE):Prop :=
 ∀ (a:Aa (Ad×Obj)) (s:Ae) (b:St) (H:Hp) (Q:VK),Inv X a b H s->t b H Q->wpAny (model X.prog X.w) X.A (eval e X.env) (EP X a b Q) X.xe s
def PT (X:Cx) (e:Expr) (t:TT):Prop :=
 ∀ (a:Aa (Ad×Obj)) (s:Ae) (b:St) (H:Hp) (Q:Bool->Hp->Prop),Inv X a b H s->t b H Q->wpAny (model X.prog X.w) X.A (isTrue e X.env (eval e X.env)) (TP X a b Q) X.xe s
def PW (X:Cx) (e:Expr) (t:TT):Prop :=
 ∀ (whole:Sem Ac) (a:Aa (Ad×Obj)) (s:Ae) (b:St) (H:Hp) (Q:Bool->Hp->Prop),Inv X a b H s->t b H Q->wpAny (model X.prog X.w) X.A (isTrue e X.env whole) (TP X a b Q) X.xe s
theorem PW.pt {X:Cx}(h:PW X e t):PT X e t:=h _
def PA (X:Cx) (g:Aa Expr) (t:TA):Prop :=
 ∀ (pos:Pos) (a:Aa (Ad×Obj)) (s:Ae) (b:St) (H:Hp) (Q:Aa V->Hp->Prop),Inv X a b H s->t b H Q->wpAny (model X.prog X.w) X.A (spliced (backTo pos (starEach g X.env))) (AP X a b Q) X.xe s
def PS (X:Cx) (st:Stmt) (t:TS):Prop :=
 ∀ (a:Aa (Ad×Obj)) (s:Ae) (b:St) (H:Hp) (D:Ends),Inv X a b H s->t D b H->wpAny (model X.prog X.w) X.A (exec st X.env) (SP X a D) X.xe s
def qO (X:Cx) (st:Aa Stmt) (t:TS):Prop :=
 ∀ (a:Aa (Ad×Obj)) (s:Ae) (b:St) (H:Hp) (D:Ends),Inv X a b H s->t D b H->wpAny (model X.prog X.w) X.A (execs st X.env) (SP X a D) X.xe s
theorem kY (h:wpAny M A t Q E s) (j:∀ a s,Q a s->g a s):wpAny M A t g E s:=dH h j λ_ _ x=>x
section
variable {X:Cx}
def pA (i:Nat):TE:=λa H Q=>∃ v,a[i]?=some (some v)/\Q v H
def tC (v:V):TE:=λ_ H Q=>Q v H
theorem GJ (j:X.N[i]?=some x) (o:Ha X.env.scope x) (hd:(x == ("__debug__" : Af))=false:=by decide) (g:(x == ("__classdict__" : Af))=false:=by decide):PE X (.Name x pos) (pA i):=by
 intro d s t H Q I h;obtain⟨v,e,h⟩:=h;obtain⟨m,q,k⟩:=I.loc;obtain⟨u,r,l⟩:=k i x v j e o;have fin:EP X d t Q u s:=⟨v,H,I,r,h⟩;rcases l with⟨b,n⟩ | ⟨b,c,f,a⟩
 .exact wpAny_Name (wpAny_loadName_local I.ok.kind b q n fin) hd
 .rcases b with b | b
  .exact wpAny_Name (wpAny_loadName_cell I.ok.kind b f a fin) hd
  .exact wpAny_Name (wpAny_loadName_free I.ok.kind b f a fin g) hd
theorem Jm {i j pos}:PE X (.Constant (.int i) j pos) (tC (.int i)):=λ_ _ _ H _ I h=>wpAny_Constant_int ⟨.int i,H,I.tok _,⟨_,rfl⟩,h⟩
theorem Q5 {b j pos}:PE X (.Constant (.bool b) j pos) (tC (.b b)):=λ_ _ _ H _ I h=>Constant_bool ⟨.b b,H,I,rfl,h⟩
theorem xJ {x j pos}:PE X (.Constant (.str x) j pos) (tC (.str x)):=λ_ _ _ H _ I h=>Calls.Constant_str ⟨.str x,H,I.tok _,⟨_,rfl⟩,h⟩
def Gl (X:Cx) (x:Af):Prop:=X.env.kindOf x=some .globalImplicit
theorem Pd (I:Inv X g o H s) (j:Gl X x) (l:X.mg x=some u) (h:Q u s)
  (hd:(x == ("__debug__" : Af))=false:=by decide):wpAny (model X.prog X.w) X.A (eval (.Name x pos) X.env) Q E s :=
 Calls.Name_function_global I.ok.kind j (Calls.loadGlobal_global (by rw[I.ok.glob];exact I.mod.glob.keeps I.bk) l h) hd
theorem xG (I:Inv X g r H s) (j:Gl X x) (l:X.mg x=none) (p:bootBuiltins x=some u) (h:Q u s)
  (o:x ≠ "__name__" := by decide) (hd:(x == ("__debug__" : Af))=false:=by decide):wpAny (model X.prog X.w) X.A (eval (.Name x pos) X.env) Q E s:=by
 obtain⟨c,a,b⟩:=I.mod.blt;exact Calls.Name_function_global I.ok.kind j (Calls.loadGlobal_builtin (by rw[I.ok.glob];exact I.mod.glob.keeps I.bk) l (by rw[I.ok.blt];exact a.keeps I.bk) ((b x o).trans p) h) hd
theorem B5 (g:Gl X x) (j:X.mg x=some u) (r:lA v u) (hd:(x == ("__debug__" : Af))=false:=by decide):PE X (.Name x pos) (tC v) :=
 λ_ _ _ H _ I h=>Pd I g j ⟨v,H,I,r,h⟩ hd
theorem BL (g:Gl X x) (j:X.mg x=none) (o:bootBuiltins x=some u) (r:lA v u) (l:x ≠ "__name__" := by decide) (hd:(x == ("__debug__" : Af))=false:=by decide):PE X (.Name x pos) (tC v) :=
 λ_ _ _ H _ I h=>xG I g j o ⟨v,H,I,r,h⟩ l hd
def PC (X:Cx) (op:CmpOp) (a b:Expr) (t:TE):Prop :=
 ∀ (c:Aa (Ad×Obj)) (s:Ae) (f:St) (H:Hp) (Q:VK),Inv X c f H s->t f H Q ->
  wpAny (model X.prog X.w) X.A (eval a X.env) (λv d=>wpAny (model X.prog X.w) X.A (eval b X.env) (λu e=>wpAny (model X.prog X.w) X.A (compareOp op v u) (EP X c f Q) X.xe e) X.xe d) X.xe s
def tB (t:TE):TT:=λd H Q=>t d H λx a=>∃ c,x = .b c/\Q c a
theorem AS (h:PC X op a b t) (g:behindInMarks op b=false:=by first | exact nobehind _ (by decide) (by decide) | rfl):PT X (.Compare a [op] [b] pos) (tB t):=by
 intro e s y H Q I hw;refine wpAny_isTrue_Compare1 (kY (h e s y H _ I hw) λv z g=>kY g λu A m=>kY m λc B f=>?_) g;obtain⟨x,i,k,w,n⟩:=f;obtain⟨d,rfl,q⟩:=n;cases w;exact eC ⟨i,k,q⟩
theorem AR (h:PE X e t) (g:∀ whole,isTrue e X.env whole=(do let v <- whole;standAt e.pos;holding [v] (truthy v)):=by intro _;rfl):PT X e (tB t):=by
 intro a s m H Q I hw;refine isTrue_plain (kY (h a s m H _ I hw) λv n b=>?_) (g _);obtain⟨x,c,f,k,i⟩:=b;obtain⟨d,rfl,q⟩:=i;cases k;exact eC ⟨c,f,q⟩
variable {rest:Aa Expr}
def IP (t u:TT):TT:=λb H Q=>t b H λc a=>if c=true then u b a Q else Q false a
def Sj (t u:TT):TT:=λb H Q=>t b H λc a=>if c=true then Q true a else u b a Q
def BM (t:TT):TT:=λb H Q=>t b H λc a=>Q (!c) a
theorem Vo (g:PT X a j):PW X (.BoolOp .And [a] pos) j:=by
 intro i b s d H Q I h;refine isTrue_and (kY (g b s d H Q I h) λc f e=>?_);cases c with
 | true=>exact isTrue_and_nil e
 | false=>exact e
theorem Vr (g:PT X a j):PW X (.BoolOp .Or [a] pos) j:=by
 intro i b s d H Q I h;refine isTrue_or (kY (g b s d H Q I h) λc f e=>?_);cases c with
 | false=>exact isTrue_or_nil e
 | true=>exact e
theorem Ye (j:PT X a o) (l:PW X (.BoolOp .And (b::rest) pos) g):PW X (.BoolOp .And (a::b::rest) pos) (IP o g):=by
 intro q d s m H Q I h;refine isTrue_and (kY (j d s m H _ I h) λc n e=>?_);obtain⟨f,i,k⟩:=e;cases c with
 | true=>exact l q d n m f Q i k
 | false=>exact⟨f,i,k⟩
theorem Ze (j:PT X a o) (l:PW X (.BoolOp .Or (b::rest) pos) g):PW X (.BoolOp .Or (a::b::rest) pos) (Sj o g):=by
 intro q d s m H Q I h;refine isTrue_or (kY (j d s m H _ I h) λc n e=>?_);obtain⟨f,i,k⟩:=e;cases c with
 | true=>exact⟨f,i,k⟩
 | false=>exact l q d n m f Q i k
theorem Ll (g:PT X a j):PT X (.UnaryOp .Not a pos) (BM j):=by
 intro b s e H Q I h;exact isTrue_not (g b s e H (λc d=>Q (!c) d) I h)
def Rl (g j:TE):TE:=λd H Q=>g d H λx a=>∃ c,x = .b c/\if c=true then j d a Q else Q (.b false) a
def EW (g j:TE):TE:=λd H Q=>g d H λx a=>∃ c,x = .b c/\if c=true then Q (.b true) a else j d a Q
theorem Rm {op}(h:PE X a t):PE X (.BoolOp op [a] pos) t:=λb s c H Q I hw=>BoolOp_one (h b s c H Q I hw)
theorem Mv (g:PE X a l) (j:PE X (.BoolOp .And (b::rest) pos) o):PE X (.BoolOp .And (a::b::rest) pos) (Rl l o):=by
 intro d s m H Q I h;refine BoolOp_and (kY (g d s m H _ I h) λv q f=>?_);obtain⟨x,i,k,n,e⟩:=f;obtain⟨c,rfl,e⟩:=e;cases n;refine eC ?_;cases c with
 | true=>exact j d q m i Q k e
 | false=>exact⟨.b false,i,k,rfl,e⟩
theorem W2 (g:PE X a l) (j:PE X (.BoolOp .Or (b::rest) pos) o):PE X (.BoolOp .Or (a::b::rest) pos) (EW l o):=by
 intro d s m H Q I h;refine BoolOp_or (kY (g d s m H _ I h) λv q f=>?_);obtain⟨x,i,k,n,e⟩:=f;obtain⟨c,rfl,e⟩:=e;cases n;refine eC ?_;cases c with
 | false=>exact j d q m i Q k e
 | true=>exact⟨.b true,i,k,rfl,e⟩
def AI (t:TT) (g j:TE):TE:=λa H Q=>t a H λc b=>if c=true then g a b Q else j a b Q
theorem V2 (l:PT X c o) (g:PE X a p) (j:PE X b r):PE X (.IfExp c a b pos) (AI o p r):=by
 intro e s i H Q I h;refine wpAny_IfExp (kY (l e s i H _ I h) λd q f=>?_);obtain⟨k,m,n⟩:=f;cases d with
 | true=>exact g e q i k Q m n
 | false=>exact j e q i k Q m n
end
def lG (K:kQ) (H:Hp) (a:Ad) (g:Aa V):Prop :=
 Rd H a (.l g) \/
  ∃ (o:Obj) (b:Array Ac) (n:Nat),K.lookup a=some o/\o.cls = .type "list" /\ o.dict=none/\o.data = .seq b n/\b.size<=sizeLine/\lC g b.toList
def lR (K:kQ) (H:Hp) (a:Ad) (g:Aa V):Prop :=
 Rd H a (.t g) \/
  ∃ (o:Obj) (b:Array Ac) (n:Nat),K.lookup a=some o/\o.cls = .type "tuple" /\ o.data = .seq b n/\b.size<=sizeLine/\lC g b.toList
noncomputable def AY:Ac->Ab V
 | .none=>some .e
 | .bool b=>some (.b b)
 | .int i _=>some (.int i)
 | .str x _=>some (.str x)
 | .bytes b _=>some (.byt b)
 | .float b _=>some (.flt b)
 | .ref a=>some (.ref a)
 | .type n=>some (.ty n)
 | _=>none
theorem lA.abs (r:lA x u):AY u=some x:=by
 cases x with
 | e=>cases r;rfl
 | b _=>cases r;rfl
 | int _=>obtain⟨t,rfl⟩:=r;rfl
 | str _=>obtain⟨t,rfl⟩:=r;rfl
 | byt _=>obtain⟨t,rfl⟩:=r;rfl
 | flt _=>obtain⟨t,rfl⟩:=r;rfl
 | ref _=>cases r;rfl
 | ty _=>cases r;rfl
theorem lA.inj (r:lA x u) (q:lA y u):x=y:=bT (r.abs.symm.trans q.abs)
theorem lC.inj:∀ {j l:Aa V}{g:Aa Ac},lC j g->lC l g->j=l
 | _,_,_,.nil,.nil=>rfl
 | _,_,_,.cons r t,.cons a b=>by rw[r.inj a,lC.inj t b]
section
variable {X:Cx}
theorem lG.of {K:kQ}(h:H a=some (.l g)):lG K H a g:=.inl (.inl h)
theorem lR.of {K:kQ}(h:H a=some (.t g)):lR K H a g:=.inl (.inl h)
theorem Inv.list (I:Inv X j p H s) (h:lG X.K H a l):∃ g:Aa Ac,lC l g/\PlainL s.heap a g.toArray/\l.length<=sizeLine:=by
 rcases h with h | ⟨o,g,n,c,b,hd,d,f,r⟩
 .obtain⟨z,g,n,r,e⟩:=h.ok I.hok;exact⟨g,r,⟨_,n,e,rfl,rfl,rfl⟩,z⟩
 .refine⟨g.toList,r,⟨o,n,I.kIn a o c,b,hd,by simpa using d⟩,?_⟩;have e:=r.length;simp only[eU] at e;omega
theorem Inv.tuple (I:Inv X j C H s) (h:lR X.K H a l):∃ g:Aa Ac,lC l g/\IsTup s.heap a g.toArray/\l.length<=sizeLine:=by
 rcases h with h | ⟨o,g,n,c,b,d,f,r⟩
 .obtain⟨z,g,r,p,_⟩:=h.ok I.hok;exact⟨g,r,p,z⟩
 .refine⟨g.toList,r,⟨o,I.kIn a o c,b,n,by simpa using d⟩,?_⟩;have e:=r.length;simp only[eU] at e;omega
theorem Inv.list_inj (I:Inv X g C H s) (h:lG X.K H a l) (j:lG X.K H a p):l=p:=by
 obtain⟨c,r,⟨o,n,e,_,_,d⟩,_⟩:=I.list h;obtain⟨b,k,⟨q,m,i,_,_,f⟩,_⟩:=I.list j;rw[e] at i;cases i;rw[d] at f;injection f with d1 _;have:c=b:=by simpa using cL Array.toList d1
 subst this;exact r.inj k
theorem Inv.tuple_inj (I:Inv X g C H s) (h:lR X.K H a l) (j:lR X.K H a p):l=p:=by
 obtain⟨c,r,⟨o,e,_,n,d⟩,_⟩:=I.tuple h;obtain⟨b,k,⟨q,i,_,m,f⟩,_⟩:=I.tuple j;rw[e] at i;cases i;rw[d] at f;injection f with d1 _;have:c=b:=by simpa using cL Array.toList d1
 subst this;exact r.inj k
end
noncomputable abbrev Cx.wish (X:Cx) (E:Ac->Ae->Prop):Cx:={ X with xe:=E }
abbrev Cx.nox (X:Cx):Cx:=X.wish λ_ _=>False
theorem Cx.Ok.wish {X:Cx}(ok:X.Ok) (E:Ac->Ae->Prop):(X.wish E).Ok :=
 ⟨ok.mod,ok.kind,ok.glob,ok.blt,ok.above,ok.inj,ok.has,ok.cab,ok.hd,ok.frames,ok.stk,ok.exf,ok.bs,ok.bsz,ok.noex,ok.exfs,ok.funs,ok.frf⟩
theorem Cx.Ok.unwish {X:Cx}(ok:(X.wish E).Ok):X.Ok :=
 ⟨ok.mod,ok.kind,ok.glob,ok.blt,ok.above,ok.inj,ok.has,ok.cab,ok.hd,ok.frames,ok.stk,ok.exf,ok.bs,ok.bsz,ok.noex,ok.exfs,ok.funs,ok.frf⟩
section
variable {X:Cx}
theorem Inv.wish (I:Inv X g j H s) (E:Ac->Ae->Prop):Inv (X.wish E) g j H s:=⟨I.ok.wish E,I.os,I.bare,I.base,I.loc,I.cell,I.free,I.freeC,I.pin,I.hok,I.len⟩
theorem Inv.unwish (I:Inv (X.wish E) g j H s):Inv X g j H s:=⟨I.ok.unwish,I.os,I.bare,I.base,I.loc,I.cell,I.free,I.freeC,I.pin,I.hok,I.len⟩
theorem SP.unwish {D:Ends}(h:SP (X.wish E) g D f j):SP X g D f j:=by
 cases f with
 | next=>obtain⟨a,b,I,q⟩:=h;exact⟨a,b,I.unwish,q⟩
 | brk=>obtain⟨a,b,I,q⟩:=h;exact⟨a,b,I.unwish,q⟩
 | cont=>obtain⟨a,b,I,q⟩:=h;exact⟨a,b,I.unwish,q⟩
 | ret u=>obtain⟨v,a,b,I,r,q⟩:=h;exact⟨v,a,b,I.unwish,r,q⟩
theorem qO.nox {st:Aa Stmt}(h:qO X.nox st t):qO X st t:=λa s b H D I hw =>
 dH (h a s b H D (I.wish _) hw) (λ_ _ q=>q.unwish) λ_ _ z=>False.elim z
end
section
variable {X:Cx}{st:Stmt}{rest:Aa Stmt}
def Wr:TS:=λD a H=>D.nx a H
def EU (t u:TS):TS:=λD a H=>t { D with nx:=u D } a H
theorem Hk:qO X [] Wr:=λ_ _ a H _ I h=>wpAny_execs_nil ⟨a,H,I,h⟩
theorem L6 (g:PS X st t) (j:qO X rest u):qO X (st::rest) (EU t u):=by
 intro a s i H D I h;refine wpAny_execs_cons (kY (g a s i H { D with nx:=u D } I h) λf e q=>?_);cases f with
 | next =>
  obtain⟨b,c,d,q⟩:=q;exact j a e b c D d q
 | ret v=>exact q
 | brk=>exact q
 | cont=>exact q
theorem yX (g:PS X st t):qO X [st] t:=by
 intro a s b H D I h;refine wpAny_execs_cons (kY (g a s b H D I h) λf c q=>?_);cases f with
 | next=>exact wpAny_execs_nil q
 | ret v=>exact q
 | brk=>exact q
 | cont=>exact q
theorem Inv.quiet (I:Inv X g j H s):interactive X.env=false:=by simp[interactive,I.ok.kind]
def HC (g:TE):TS:=λD a H=>g a H λ_ b=>D.nx a b
theorem BV (g:PE X e l) (j:swapsWith e none pos.line X.env=pure false:=by rfl):PS X (.Expr e pos) (HC l):=by
 intro a s b H D I h;exact wpAny_Expr_any (kY (g a s b H _ I h) λv k ⟨x,c,d,i,f⟩=>⟨b,c,d,f⟩) I.quiet j
def Tx (g:TE):TS:=λD a H=>g a H D.rt
theorem Gc (g:PE X e j):PS X (.Return (some e) pos) (Tx j):=by
 intro a s b H D I h;exact wpAny_Return_some (kY (g a s b H _ I h) λv k ⟨x,c,d,i,f⟩=>⟨x,b,c,d,i,f⟩)
def EN (c:TT) (t u:TS):TS:=λD a H=>c a H λb d=>if b=true then t D a d else u D a d
theorem Gx (l:PT X c o) (g:qO X a t) (j:qO X b u):PS X (.If c a b pos) (EN o t u):=by
 intro e s i H D I h;refine wpAny_If (kY (l e s i H _ I h) λd q f=>?_);obtain⟨k,m,n⟩:=f;cases d with
 | true=>exact g e q i k D m n
 | false=>exact j e q i k D m n
def Y6:TS:=λ_ _ _=>False
theorem GB:PS X st Y6:=λ_ _ _ _ _ _ h=>h.elim
end
abbrev TG:=V->St->Hp->(St->Hp->Prop)->Prop
abbrev zA:=Aa V->St->Hp->(St->Hp->Prop)->Prop
def PG (X:Cx) (target:Expr) (t:TG):Prop :=
 ∀ (a:Aa (Ad×Obj)) (s:Ae) (d:St) (H:Hp) (v:V) (u:Ac) (Q:St->Hp->Prop),Inv X a d H s->lA v u->t v d H Q ->
  wpAny (model X.prog X.w) X.A (assign target X.env u) (λ_ e=>∃ b c,Inv X a b c e/\Q b c) X.xe s
def vX (X:Cx) (g:Aa Expr) (t:zA):Prop :=
 ∀ (a:Aa (Ad×Obj)) (s:Ae) (f:St) (H:Hp) (e:Aa V) (d:Aa Ac) (Q:St->Hp->Prop),Inv X a f H s->lC e d->t e f H Q ->
  wpAny (model X.prog X.w) X.A (assignInOrder ((assignEach g X.env).map (·.2)) d) (λ_ h=>∃ b c,Inv X a b c h/\Q b c) X.xe s
abbrev F8:=V->V->V->Hp->(Hp->Prop)->Prop
def Ju (X:Cx) (t:F8):Prop :=
 ∀ (a:Aa (Ad×Obj)) (s:Ae) (e:St) (H:Hp) (o i v:V) (d c u:Ac) (Q:Hp->Prop),Inv X a e H s->lA o d->lA i c->lA v u->t o i v H Q ->
  wpAny (model X.prog X.w) X.A (setItem d c u) (λ_ f=>∃ b,Inv X a e b f/\Q b) X.xe s
section
variable {X:Cx}
def yW (i:Nat):TG:=λv a H Q=>Q (a.set i (some v)) H
theorem Gr (g:X.N.Nodup) (l:X.N[i]?=some x) (o:rG X.env.scope x) (j:X.fn x=true\/X.env.scope.names.lookup x=some .local:=by first | exact .inl rfl | exact .inr rfl | assumption):PG X (.Name x pos) (yW i):=by
 intro a s d H v u Q I r h;exact wpAny_assign_Name (Og I g l o r (λc b=>⟨_,H,b,h⟩) j)
def Vd:zA:=λa b H Q=>a=[]/\Q b H
def FU (t:TG) (u:zA):zA:=λc d H Q=>∃ v r,c=v::r/\t v d H λa b=>u r a b Q
theorem BC:vX X [] Vd:=by
 intro a s b H d c Q I r h;obtain⟨e,h⟩:=h;subst e;cases r;exact assignInOrder_nil ⟨b,H,I,h⟩
theorem U8 (j:PG X e t) (l:vX X g u)
  (o:(assignEach (e::g) X.env).map (·.2)=assign e X.env::(assignEach g X.env).map (·.2):=by rfl):vX X (e::g) (FU t u):=by
 intro a s q H y w Q I r h;obtain⟨v,x,i,h⟩:=h;subst i;cases r with
 | cons r m =>
  rw[o];refine assignInOrder_cons (kY (j a s q H _ _ _ I r h) λ_ n b=>?_);obtain⟨c,d,f,k⟩:=b;exact l a n c d _ _ Q f m k
def Tv (K:kQ) (n:Nat) (t:zA):TG:=λv c H Q=>∃ a b,v = .ref a/\lR K H a b/\b.length=n/\t b c H Q
theorem EA (l:X.calm=true) (h:vX X g t)
  (p:(assignEach g X.env).length=n:=by rfl) (j:(assignEach g X.env).findIdx? (·.1)=none:=by rfl):PG X (.Tuple g k pos) (Tv X.K n t):=by
 intro c s f H v u Q I r hw;obtain⟨a,B,m,x,w,hw⟩:=hw;subst m;cases r;obtain⟨A,d,y,D⟩:=I.tuple x;refine assign_Tuple_tuple (I.ok.hd l) y (by simp[p,<- w,d.length]) j λq z=>?_
 have i:Inv X c f H { s with heap:=q }:=I.kept (t':=s.toks) λb o e=>z b o (cB (bK e)) e
 exact h c _ f H B _ Q i (by simpa using d) hw
def BZ (j g:TE) (t:F8):TG:=λv a H Q=>j a H λo b=>g a b λi c=>t o i v c λd=>Q a d
theorem T6 (C:PE X o U) (p:PE X i T) (J:Ju X t)
  (l:∀ v,assign (.Subscript o i pos) X.env v=(do
   let g <- holding [v] (eval o X.env);let j <- holding [v,g] (eval i X.env)
   standAt pos
   holding [v,g,j] (setItem g j v)
   release [v,g,j] []):=by intro _;rfl):PG X (.Subscript o i pos) (BZ U T t):=by
 intro b s c H v u Q I r h;rw[l];refine aB (dB (kY (C b s c H _ I h) λg D a=>?_));obtain⟨x,d,k,A,q⟩:=a;refine aB (dB (kY (p b D c d _ k q) λj E a=>?_));obtain⟨y,e,m,B,w⟩:=a;refine aB (wpAny_standAt (aB (dB (kY (J b E c e x y v g j u _ m A B r w) λ_ F a=>?_))));obtain⟨f,n,z⟩:=a;exact wpAny_release ⟨c,f,n,z⟩
def G7 (j:TE) (g:TG):TS:=λD a H=>j a H λx b=>g x a b D.nx
theorem P1 (o:PE X e C) (p:PG X j g) (r:swapsWithSole [j] e pos.line X.env=pure false:=by rfl) (hw:swappedStores [j] e X.env=pure none:=by rfl)
  (l:(assignEach [j] X.env).map (·.2)=[assign j X.env]:=by rfl):PS X (.Assign [j] e pos) (G7 C g):=by
 intro a s c H D I h;refine wpAny_Assign_stores (kY (o a s c H _ I h) λv m b=>?_) r hw;obtain⟨x,d,f,k,i⟩:=b;rw[l];exact kY (p a m c d x v _ f k i) λ_ n q=>q
theorem BH (j:X.N.Nodup) (p:X.N[i]?=some x) (C:rG X.env.scope x) (l:PE X e J) (r:swapsWith e (some (.Name x g)) pos.line X.env=pure false:=by rfl) (o:X.fn x=true\/X.env.scope.names.lookup x=some .local:=by first | exact .inl rfl | exact .inr rfl | assumption) :
  PS X (.Assign [.Name x g] e pos) (G7 J (yW i)):=by
 intro a s n H D I h;refine wpAny_Assign_Name (kY (l a s n H _ I h) λv q b=>?_) r;obtain⟨y,c,d,m,k⟩:=b;exact Og d j p C m (λt f=>⟨_,c,f,k⟩) o
end
structure It where
 go:Nat->Hp->Prop
 yld:Nat->Hp->V->Hp->Prop
 stop:Nat->Hp->Prop
def rL (X:Cx) (g:Aa (Ad×Obj)) (H:Hp) (b:Ad):Prop :=
 H b=none/\b≠X.env.locals/\b∉X.fs/\(b∈X.ex\/X.s₀.heap.objs.size<=b)/\(∀ x c,X.env.cells.lookup x=some c->c≠b)/\∀ p∈X.pn++g,p.1≠b
theorem Inv.fpOk {X:Cx}(I:Inv X j r H s) (g:s.heap.objs.size<=b) (o:l b=none):rL X j l b:=by
 refine⟨o,Nat.ne_of_gt (bR I.lt g),I.nofs g,.inr (bS I.sz g),λx c e z=>?_,λp a z=>?_⟩
 .obtain⟨v,q⟩:=I.cell x c e;exact absurd (bR q.lt (by rw[z];exact g)) (fC _)
 .exact absurd (bR (bK (I.pin p a).1) (by rw[z];exact g)) (fC _)
structure Turn (P:Program) (w:World) (K:kQ) (tg:Expr) (J:It) (fp:List Addr) (it:Addr) (tn:Nat->Heap->Prop):Prop where
 mem:it∈fp
 obj:∀ i h,tn i h->∀ b∈fp,∃ o,h.get? b=some o/\∀ v,o.data ≠ .cell v
 keep:∀ i h h',tn i h->(∀ b∈fp,∀ o,h.get? b=some o->h'.get? b=some o)->tn i h'
 item:∀ (X:Cx),X.prog=P->X.w=w->X.K=K->X.calm=true->∀ (i:Nat) (pins:List (Addr×Obj)) (s:Shared) (σ:St) (H:Hp) (E:Value->Shared->Prop),Inv X pins σ H s->(∀ b∈fp,rL X pins H b)->tn i s.heap->J.go i H ->
  wpAny (model P w) X.A (pyNext (.ref it)) (λr s1=>∃ u,r=some u /\ wpAny (model P w) X.A (letOwnedTupleGo tg (.ref it) u) (λ_ s2=>∃ x H',Inv X pins σ H' s2/\lA x u/\J.yld i H x H'/\tn (i+1) s2.heap/\∀ b∈fp,H' b=none) E s1) E s
 done:∀ (X:Cx),X.prog=P->X.w=w->X.K=K->X.calm=true->∀ (i:Nat) (pins:List (Addr×Obj)) (s:Shared) (σ:St) (H:Hp) (E:Value->Shared->Prop),Inv X pins σ H s->(∀ b∈fp,rL X pins H b)->tn i s.heap->J.stop i H ->
  wpAny (model P w) X.A (pyNext (.ref it)) (λr s1=>r=none/\Inv X pins σ H s1) E s
 self:∀ (A:Around) (i:Nat) (s:Shared) (Q:Value->Shared->Prop) (E:Value->Shared->Prop),tn i s.heap->Q (.ref it) s->wpAny (model P w) A (pyIter (.ref it)) Q E s
abbrev TI:=St->Hp->(It->Hp->Prop)->Prop
def Ql (X:Cx) (g:Aa (Ad×Obj)) (p:St) (o:Expr) (R:It->Hp->Prop) (j:Ac) (l:Ae):Prop :=
 ∃ (d:Ad) (c:Aa Ad) (tn:Nat->Ag->Prop) (J:It) (a:Hp),j = .ref d/\Inv X g p a l/\Turn X.prog X.w X.K o J c d tn/\tn 0 l.heap/\(∀ b∈c,rL X g a b)/\R J a
def PI (X:Cx) (g iter:Expr) (j:TI):Prop :=
 ∀ (a:Aa (Ad×Obj)) (s:Ae) (b:St) (H:Hp) (R:It->Hp->Prop),Inv X a b H s->j b H R ->
  wpAny (model X.prog X.w) X.A (eval iter X.env) (λv c=>wpAny (model X.prog X.w) X.A (pyIter v) (Ql X a b g R) X.xe c) X.xe s
theorem Bj (p:s.heap.get? r=some o) (j:o.cls = .type n) (hd:o.data = .fields I)
  (l:["enumerate","zip","dict_itemiterator","dict_reverseitemiterator","odict_iterator","itertools.zip_longest","itertools.pairwise"].contains n=false) (g:Q () s):wpAny M A (letOwnedTupleGo C (.ref r) u) Q E s:=by
 unfold letOwnedTupleGo;cases C<;>first
  | exact aH g
  | (cases u<;>first
    | exact aH g
    | (refine aB (wpAny_load p ?_);rw[j,hd];show wpAny M A (if (["enumerate","zip","dict_itemiterator","dict_reverseitemiterator","odict_iterator","itertools.zip_longest","itertools.pairwise"].contains n&&I[0]? == some (rawInt _))=true then _ else _) Q E s;rw[aK (by intro h;rw[l,Bool.false_and] at h;cases h)];exact aH g))
def wW (K:kQ) (a:Ad):It :=
 ⟨λi H=>∃ b x,lG K H a b/\b[i]?=some x,λi H x c=>c=H/\∀ b,lG K H a b->b[i]?=some x,λi H=>∃ b,lG K H a b/\b.length<=i⟩
def Aj (K:kQ) (a:Ad):It :=
 ⟨λi H=>∃ b x,lR K H a b/\b[i]?=some x,λi H x c=>c=H/\∀ b,lR K H a b->b[i]?=some x,λi H=>∃ b,lR K H a b/\b.length<=i⟩
def zB (lo:Int) (n:Nat):It:=⟨λi _=>i<n,λi H x a=>a=H/\x = .int (lo+i),λi _=>n<=i⟩
theorem U0 {P:Ah}{K:kQ}(a g:Ad):Turn P w K T (wW K a) [g] g (λi h=>h.IsListIter g a i) where
 mem:=by simp
 obj:=λi h st b m=>by
  have e:b=g:=by simpa using m
  subst e;obtain⟨o,e,c,d⟩:=st;exact⟨o,e,λv z=>by rw[d] at z;cases z⟩
 keep:=λi h q st k=>st.at λo e=>k g (by simp) o e
 item:=by
  intro X L hw G R i f s S H E I t st M;subst L hw G;obtain⟨C,x,y,N⟩:=M;obtain⟨O,Q,p,j⟩:=I.list y;obtain⟨u,Y,l⟩:=Q.get N;obtain⟨A,f1,f2,B,D,F⟩:=t g (by simp);refine wpAny_pyNext_list_item st p.isList (x:=u) (by simpa using Y) λq n r=>?_
  have V:Inv X f S H { s with heap:=q }:=I.turned (t':=s.toks) (λb o m e=>(r.2 b m).trans e) A f1 B D F;obtain⟨o,e,c,d⟩:=id n;exact⟨u,rfl,Bj (s:={ s with heap:=q }) e c d (by decide) ⟨x,H,V,l,⟨rfl,λU Z=>by rw[I.list_inj Z y];exact N⟩,n,λb m=>(t b m).1⟩⟩
 done:=by
  intro X L hw G R i f s S H E I t st M;subst L hw G;obtain⟨C,y,N⟩:=M;obtain⟨O,Q,p,j⟩:=I.list y;obtain⟨A,f1,f2,B,D,F⟩:=t g (by simp);have J:=Q.length;exact wpAny_pyNext_list_end (I.ok.hd R) st p.isList (by simp;omega) λq W=>⟨rfl,I.turned (t':=s.toks) (λb o m e=>W b o m e) A f1 B D F⟩
 self:=λ_ _ _ _ _ st h=>wpAny_pyIter_listiter st h
theorem Wa {P:Ah}{K:kQ}(a g:Ad):Turn P w K T (Aj K a) [g] g (λi h=>h.IsTupleIter g a i) where
 mem:=by simp
 obj:=λi h st b m=>by
  have e:b=g:=by simpa using m
  subst e;obtain⟨o,e,c,d⟩:=st;exact⟨o,e,λv z=>by rw[d] at z;cases z⟩
 keep:=λi h t st k=>st.at λo e=>k g (by simp) o e
 item:=by
  intro X M hw L R i f s S H E I y st N;subst M hw L;obtain⟨C,x,A,O⟩:=N;obtain⟨n,Q,p,j⟩:=I.tuple A;obtain⟨u,Y,l⟩:=Q.get O;obtain⟨B,f1,f2,D,F,G⟩:=y g (by simp);refine wpAny_pyNext_tuple_item st (show s.heap.IsTuple a n.toArray from p) (x:=u) (by simpa using Y) λt q r=>?_
  have V:Inv X f S H { s with heap:=t }:=I.turned (t':=s.toks) (λb o m e=>(r.2 b m).trans e) B f1 D F G;obtain⟨o,e,c,d⟩:=id q;exact⟨u,rfl,Bj (s:={ s with heap:=t }) e c d (by decide) ⟨x,H,V,l,⟨rfl,λU Z=>by rw[I.tuple_inj Z A];exact O⟩,q,λb m=>(y b m).1⟩⟩
 done:=by
  intro X M hw L R i f s S H E I y st N;subst M hw L;obtain⟨C,A,O⟩:=N;obtain⟨n,Q,p,j⟩:=I.tuple A;obtain⟨B,f1,f2,D,F,G⟩:=y g (by simp);have J:=Q.length;exact wpAny_pyNext_tuple_end (I.ok.hd R) st (show s.heap.IsTuple a n.toArray from p) (by simp;omega) λt W=>⟨rfl,I.turned (t':=s.toks) (λb o m e=>W b o m e) B f1 D F G⟩
 self:=λ_ _ _ _ _ st h=>wpAny_pyIter_tupleiter st h
theorem Ww {P:Ah}{K:kQ}(g:Ad) (lo:Int) (n:Nat):Turn P w K j (zB lo n) [g] g (λi h=>IsRangeIter h g (lo+(i:Nat)*1) ((n:Int)-(i:Nat)) 1) where
 mem:=by simp
 obj:=λi h st b c=>by
  have e:b=g:=by simpa using c
  subst e;exact⟨_,st,λv z=>by
   have R:Data.fields _=Data.cell v:=z;cases R⟩
 keep:=λi h f st k=>k g (by simp) _ st
 item:=by
  intro X B hw A D i a s L H E I m st F;subst B hw A;obtain⟨q,f1,f2,u,x,y⟩:=m g (by simp);have W:=Walks.range (prog:=X.prog) (w:=X.w) (I.ok.hd D) g lo 1 n;refine W.item i s _ _ F st λv f G O d Q=>?_
  obtain⟨t,rfl⟩:=O;have M:Inv X a L H { s with heap:=f,toks:=G }:=I.turned (λb o c e=>Q b o (by simpa using c) e) q f1 u x y;refine⟨_,rfl,Bj (s:={ s with heap:=f,toks:=G }) (n := "range_iterator") d rfl rfl (by decide) ⟨.int (lo+i),H,M,⟨t,?_⟩,⟨rfl,rfl⟩,d,λb c=>(m b c).1⟩⟩;rw[Int.mul_one]
 done:=by
  intro X B hw A D i a s L H E I m st F;subst B hw A;obtain⟨q,f1,f2,u,x,y⟩:=m g (by simp);exact wpAny_pyNext_range_end (I.ok.hd D) st (by have:n<=i:=F;omega) λf N=>⟨rfl,I.turned (t':=s.toks) (λb o c e=>N b o c e) q f1 u x y⟩
 self:=λ_ _ _ _ _ st h=>wpAny_pyIter_rangeiter st h
section
variable {X:Cx}
theorem Xu {R:It->Hp->Prop}{lo:Int}(I:Inv X j p H s) (r:-(2 ^ 62)<=lo) (C:lo<2 ^ 62) (J:-(2 ^ 62)<=g) (T:g<2 ^ 62)
  (q:R (zB lo (g-lo).toNat) H):wpAny (model X.prog X.w) X.A (pyIter (.ref s.heap.objs.size)) (Ql X j p U R) E { s with heap:=s.heap.push { cls:=.type "range",data:=.fields #[.int lo t,.int g u,.int 1 v] },toks:=l }:=by
 refine wpAny_pyIter_range (IsRange.new ..) (small_one r C J T) ?_;have a:Inv X j p H { s with heap:=s.heap.push { cls:=.type "range",data:=.fields #[.int lo t,.int g u,.int 1 v] },toks:=l }:=I.kept λb o e=>aQ _ e
 refine⟨(s.heap.push { cls:=.type "range",data:=.fields #[.int lo t,.int g u,.int 1 v] }).objs.size,[(s.heap.push { cls:=.type "range",data:=.fields #[.int lo t,.int g u,.int 1 v] }).objs.size],_,_,H,rfl,
  a.kept (t':=l) λb o e=>aQ _ e,Ww _ lo (g-lo).toNat,?_,λb f=>?_,q⟩
 .have c:lo+((0:Nat):Int)*1=lo:=by simp
  have d:(((g-lo).toNat:Nat):Int)-((0:Nat):Int)=Builtin.Range.rangeSize lo g 1:=by rw[rangeSize_one];split<;>omega
  show IsRangeIter _ _ (lo+((0:Nat):Int)*1) ((((g-lo).toNat:Nat):Int)-((0:Nat):Int)) 1;rw[c,d];exact bL _ rfl
 .have e:b=(s.heap.push { cls:=.type "range",data:=.fields #[.int lo t,.int g u,.int 1 v] }).objs.size:=by simpa using f
  subst e;exact a.fpOk (bF _) (a.hok.fresh (bF _))
def Ui (g:TA):TI:=λc H R=>g c H λb a=>∃ j:Int,b=[.int j]/\-(2 ^ 62)<=j/\j<2 ^ 62/\R (zB 0 j.toNat) a
theorem Up (l:Gl X "range") (o:X.mg "range" = none) (g:PA X [a] J) (C:starEach [a] X.env=[(false,eval a X.env)]:=by rfl):PI X T (.Call (.Name "range" p) [a] [] pos) (Ui J):=by
 intro b s n H R I h;refine Call_ (xG I l o boot_range (eQ (kY (g pos b s n H _ I h) λw v c=>?_) C rfl));obtain⟨x,u,f,k,d⟩:=c;obtain⟨j,e,d,i,q⟩:=d;subst e;cases k with
 | cons r m =>
  cases m;obtain⟨t,rfl⟩:=r;exact call_range_1 (Xu f (by omega) (by omega) d i (by simpa using q))
def Yo (l:TI) (g:TG) (j:TS):TS:=λD a H=>l a H λJ f=>∃ W:Nat->Nat->St->Hp->Prop,(∃ m,W 0 m a f)/\∀ i m a H,W i m a H ->
 (J.stop i H/\D.nx a H)\/(J.go i H/\∃ N:St->Hp->Prop,(∀ c b,N c b->∃ e,e<m/\W (i+1) e c b)/\∀ x b,J.yld i H x b->g x a b λd h=>j { D with nx:=N,ct:=N,bk:=D.nx } d h)
def Ao (g:Aa Ad) (h:Ag):Aa (Ad×Obj):=g.filterMap λb=>(h.get? b).map λo=>(b,o)
theorem C6 (j:b∈g) (e:h.get? b=some o):(b,o)∈Ao g h:=jY.mpr ⟨b,j,by rw[e];rfl⟩
theorem Vp (j:p∈Ao g h):p.1∈g/\h.get? p.1=some p.2:=by
 obtain⟨b,c,e⟩:=jY.mp j;cases q:h.get? b with
 | none=>rw[q] at e;cases e
 | some o =>
  rw[q] at e;have a:(b,o)=p:=bT e;subst a;exact⟨c,q⟩
theorem Inv.pinned (I:Inv X g C H s) (l:∀ b∈j,rL X g H b) (r:∀ b∈j,∃ o,s.heap.get? b=some o/\∀ v,o.data ≠ .cell v):Inv X (g++Ao j s.heap) C H s :=
 I.pins_of λp h=>(aY.mp h).elim (λz=>I.pin p (aJ _ z)) λz=>by
  obtain⟨c,e⟩:=Vp z;obtain⟨f,f1,f2,_⟩:=l p.1 c;obtain⟨o,a,d⟩:=r p.1 c;rw[e] at a;cases a;exact⟨e,f,f1,f2,d⟩
theorem Inv.unpinned (I:Inv X (g++l) j H s):Inv X g j H s:=I.pins_of λp a=>I.pin p (aJ _ (aM _ a))
theorem F6 {iter:Expr}(l:PassesOwn (model X.prog X.w) X.A X.env X.xe) (hc:X.calm=true) (hi:PI X tg iter wi) (hg:PG X tg g) (j:qO X body tb)
  (hs:∀ x,foldedSetIterable iter X.env x=pure x:=by intro _;rfl):PS X (.For tg iter body [] pos) (Yo wi g tb):=by
 intro a s σ H D I h;refine wpAny_For (kY (hi a s σ H _ I h) λv s1 h1=>kY h1 λaa s2 h2=>?_) hs;obtain⟨it,K,tn,J,H2,e,I2,T,Z,f2,W,⟨m0,w0⟩,P⟩:=h2;subst e;have y:∀ {E:Hp},(∀ b∈K,E b=none)->∀ b∈K,rL X a E b:=λhn b j=>⟨hn b j,(f2 b j).2⟩
 refine codeAny_forLoop_any (λn s'=>∃ i z E,Inv X a z E s'/\tn i s'.heap/\(∀ b∈K,E b=none)/\W i n z E) ?_ m0 ⟨0,σ,H2,I2,Z,λb j=>(f2 b j).1,w0⟩;rintro n s3 ⟨i,B,Q,U,O,L,w3⟩;rcases P i n B Q w3 with⟨stop,qn⟩ | ⟨go,N,hN,step⟩
 .refine iF l (kY (T.done X rfl rfl rfl hc i a s3 B Q X.xe U (y L) O stop) λr s4 k=>?_);obtain⟨V,I4⟩:=k;subst V;exact wpAny_execs_nil ⟨B,Q,I4,qn⟩
 .refine iF l (kY (T.item X rfl rfl rfl hc i a s3 B Q X.xe U (y L) O go) λr s4 k=>?_);obtain⟨u,V,h4⟩:=k;subst V;refine iF l (kY h4 λ_ s5 k=>?_);obtain⟨x,C,I5,r5,y5,G,S⟩:=k;have R:=I5.pinned (y S) (T.obj _ _ G);refine iF l (kY (hg _ s5 B C x u _ R r5 (step x C y5)) λ_ s6 k=>?_);obtain⟨p,H6,I6,q6⟩:=k;refine iF l (kY (j _ s6 p H6 _ I6 q6) λf Y F=>?_);have again:∀ {c:St} {q:Hp},Inv X (a++Ao K s5.heap) c q Y->N c q->∃ m,m<n/\∃ i z E,Inv X a z E Y/\tn i Y.heap/\(∀ b∈K,E b=none)/\W i m z E:=λ{c q} t M=>by
   obtain⟨m',hm,w7⟩:=hN c q M;refine⟨m',hm,i+1,c,q,t.unpinned,T.keep _ _ _ G λb j o e=>(t.pin (b,o) (aJ _ (aJ _ (C6 j e)))).1,λb j=>?_,w7⟩;obtain⟨o,e,d⟩:=T.obj _ _ G b j;exact (t.pin (b,o) (aJ _ (aJ _ (C6 j e)))).2.1
  cases f with
  | next=>obtain⟨c,q,t,M⟩:=F;exact again t M
  | cont=>obtain⟨c,q,t,M⟩:=F;exact again t M
  | brk=>obtain⟨c,q,t,F⟩:=F;exact⟨c,q,t.unpinned,F⟩
  | ret v=>obtain⟨x7,c,q,t,r7,F⟩:=F;exact⟨x7,c,q,t.unpinned,r7,F⟩
end
theorem Vz {K:kQ}{a:Ad}{xs:Aa V}{g:TG}{J:TS}{D:Ends}{j:St}{H:Hp}(Pv:Nat->St->Hp->Prop) (T:Pv 0 j H) (U:∀ i j H,i<=xs.length->Pv i j H->lG K H a xs)
  (hs:∀ i x j H,xs[i]?=some x->Pv i j H->g x j H λr C=>J { D with nx:=Pv (i+1),ct:=Pv (i+1),bk:=D.nx } r C) (hd:∀ j H,Pv xs.length j H->D.nx j H) :
  ∃ W:Nat->Nat->St->Hp->Prop,(∃ m,W 0 m j H)/\∀ i m j H,W i m j H ->
   ((wW K a).stop i H/\D.nx j H)\/((wW K a).go i H/\∃ N:St->Hp->Prop,(∀ o l,N o l->∃ I,I<m/\W (i+1) I o l)/\∀ x l,(wW K a).yld i H x l->g x j l λr C=>J { D with nx:=N,ct:=N,bk:=D.nx } r C):=by
 refine⟨λi m j H=>m=xs.length-i/\i<=xs.length/\Pv i j H,⟨xs.length,by simp,dR _,T⟩,?_⟩;rintro i m j H ⟨rfl,c,p⟩;have q:=U i j H c p;by_cases b:i<xs.length
 .refine .inr ⟨⟨xs,xs[i],q,by simp[b]⟩,Pv (i+1),λo l d=>⟨xs.length-(i+1),by omega,rfl,b,d⟩,λx l y=>?_⟩;obtain⟨e,y⟩:=y;subst e;exact hs i x j _ (y xs q) p
 .have e:i=xs.length:=by omega
  subst e;exact .inl ⟨⟨xs,q,bF _⟩,hd j H p⟩
theorem Sc {K:kQ}{a:Ad}{xs:Aa V}{g:TG}{J:TS}{D:Ends}{j:St}{H:Hp}(Pv:Nat->St->Hp->Prop) (T:Pv 0 j H) (U:∀ i j H,i<=xs.length->Pv i j H->lR K H a xs)
  (hs:∀ i x j H,xs[i]?=some x->Pv i j H->g x j H λr C=>J { D with nx:=Pv (i+1),ct:=Pv (i+1),bk:=D.nx } r C) (hd:∀ j H,Pv xs.length j H->D.nx j H) :
  ∃ W:Nat->Nat->St->Hp->Prop,(∃ m,W 0 m j H)/\∀ i m j H,W i m j H ->
   ((Aj K a).stop i H/\D.nx j H)\/((Aj K a).go i H/\∃ N:St->Hp->Prop,(∀ o l,N o l->∃ I,I<m/\W (i+1) I o l)/\∀ x l,(Aj K a).yld i H x l->g x j l λr C=>J { D with nx:=N,ct:=N,bk:=D.nx } r C):=by
 refine⟨λi m j H=>m=xs.length-i/\i<=xs.length/\Pv i j H,⟨xs.length,by simp,dR _,T⟩,?_⟩;rintro i m j H ⟨rfl,c,p⟩;have q:=U i j H c p;by_cases b:i<xs.length
 .refine .inr ⟨⟨xs,xs[i],q,by simp[b]⟩,Pv (i+1),λo l d=>⟨xs.length-(i+1),by omega,rfl,b,d⟩,λx l y=>?_⟩;obtain⟨e,y⟩:=y;subst e;exact hs i x j _ (y xs q) p
 .have e:i=xs.length:=by omega
  subst e;exact .inl ⟨⟨xs,q,bF _⟩,hd j H p⟩
abbrev R2:=V->V->Hp->VK->Prop
def lH (X:Cx) (f:Ac->Ac->Sem Ac) (r:R2):Prop :=
 ∀ (a:Aa (Ad×Obj)) (s:Ae) (b:St) (H:Hp) (x y:V) (v u:Ac) (Q:VK),Inv X a b H s->lA x v->lA y u->r x y H Q ->
  wpAny (model X.prog X.w) X.A (f v u) (EP X a b Q) X.xe s
def Gb (X:Cx) (f:Ac->Sem Ac) (r:V->Hp->VK->Prop):Prop :=
 ∀ (a:Aa (Ad×Obj)) (s:Ae) (b:St) (H:Hp) (x:V) (v:Ac) (Q:VK),Inv X a b H s->lA x v->r x H Q ->
  wpAny (model X.prog X.w) X.A (f v) (EP X a b Q) X.xe s
def mZ (X:Cx) (f:Ac) (r:Aa V->Hp->VK->Prop):Prop :=
 ∀ (a:Aa (Ad×Obj)) (s:Ae) (d:St) (H:Hp) (c:Aa V) (b:Aa Ac) (Q:VK),Inv X a d H s->lC c b->r c H Q ->
  wpAny (model X.prog X.w) X.A (call f b) (EP X a d Q) X.xe s
def R8 (X:Cx) (r:V->Hp->(Bool->Hp->Prop)->Prop):Prop :=
 ∀ (a:Aa (Ad×Obj)) (s:Ae) (b:St) (H:Hp) (x:V) (v:Ac) (Q:Bool->Hp->Prop),Inv X a b H s->lA x v->r x H Q ->
  wpAny (model X.prog X.w) X.A (truthy v) (TP X a b Q) X.xe s
def yZ (r:R2) (g j:TE):TE:=λa H Q=>g a H λx b=>j a b λy c=>r x y c Q
def CZ (r:V->Hp->VK->Prop) (g:TE):TE:=λb H Q=>g b H λx a=>r x a Q
def rI (C:Int->Int->Prop) (g:Int->Int->V):R2:=λx y H Q=>∃ i j,x = .int i/\y = .int j/\C i j/\Q (g i j) H
def qG (g:Int->Int->V):R2:=λx y H Q=>∃ i j,x = .int i/\y = .int j/\Q (g i j) H
def rU (g:Int->V):V->Hp->VK->Prop:=λx H Q=>∃ i,x = .int i/\Q (g i) H
section
variable {X:Cx}
theorem F5 (J:PE X a ta) (T:PE X b tb){g:Aa (Ad×Obj)}{s:Ae}{l:St}{H:Hp}{R:V->V->Hp->Prop}(I:Inv X g l H s)
  (h:ta l H λx C=>tb l C λy j=>R x y j){Q:Ac->Ae->Prop}{f:Ac->Ac->Sem Ac}
  (U:∀ v u r x y j,Inv X g l j r->lA x v->lA y u->R x y j->wpAny (model X.prog X.w) X.A (f v u) Q X.xe r) :
  wpAny (model X.prog X.w) X.A (eval a X.env) (λv o=>wpAny (model X.prog X.w) X.A (eval b X.env) (λu p=>wpAny (model X.prog X.w) X.A (f v u) Q X.xe p) X.xe o) X.xe s:=by
 refine kY (J g s l H _ I h) λv q c=>?_
 obtain⟨x,C,d,m,i⟩:=c;refine kY (T g q l C _ d i) λu r c=>?_
 obtain⟨y,j,e,n,k⟩:=c;exact U v u r x y j e m n k
theorem Ma (l:lH X (binaryOp op) r) (g:PE X a o) (j:PE X b p):PE X (.BinOp a op b pos) (yZ r o p):=by
 intro c s m H Q I h;exact wpAny_BinOp (F5 g j I h λv u k x y d e f i q=>l c k m d x y v u Q e f i q)
theorem EH (j:Gb X (unaryOp op) r) (g:PE X a l):PE X (.UnaryOp op a pos) (CZ r l):=by
 intro b s c H Q I h;exact UnaryOp_ (kY (g b s c H _ I h) λv k ⟨x,d,e,i,f⟩=>j b k c d x v Q e i f)
theorem yR {f:Ac->Ac->Sem Ac}{C:Int->Int->Prop}{g:Int->Int->Int}
  (rule:∀ (i j:Int) (t u:Tok) (s:Ae) (Q:Ac->Ae->Prop) (E:Ac->Ae->Prop),C i j->Q (.int (g i j) s.toks) { s with toks:=s.toks+1 }->wpAny (model X.prog X.w) X.A (f (.int i t) (.int j u)) Q E s) :
  lH X f (rI C λi j=>.int (g i j)):=by
 intro a s k H x y v u Q I c d h;obtain⟨i,j,rfl,rfl,b,q⟩:=h;obtain⟨t,rfl⟩:=c;obtain⟨e,rfl⟩:=d;exact rule i j t e s _ _ b ⟨.int (g i j),H,I.tok _,⟨_,rfl⟩,q⟩
theorem Jn {f:Ac->Ac->Sem Ac}{g:Int->Int->Int}
  (rule:∀ (i j:Int) (t u:Tok) (s:Ae) (Q:Ac->Ae->Prop) (E:Ac->Ae->Prop),Q (.int (g i j) s.toks) { s with toks:=s.toks+1 }->wpAny (model X.prog X.w) X.A (f (.int i t) (.int j u)) Q E s) :
  lH X f (qG λi j=>.int (g i j)):=by
 intro a s e H x y v u Q I b c h;obtain⟨i,j,rfl,rfl,q⟩:=h;obtain⟨t,rfl⟩:=b;obtain⟨d,rfl⟩:=c;exact rule i j t d s _ _ ⟨.int (g i j),H,I.tok _,⟨_,rfl⟩,q⟩
theorem Fk {f:Ac->Ac->Sem Ac}{g:Int->Int->Bool}
  (rule:∀ (i j:Int) (t u:Tok) (s:Ae) (Q:Ac->Ae->Prop) (E:Ac->Ae->Prop),Q (.bool (g i j)) s->wpAny (model X.prog X.w) X.A (f (.int i t) (.int j u)) Q E s) :
  lH X f (qG λi j=>.b (g i j)):=by
 intro a s k H x y v u Q I c d h;obtain⟨i,j,rfl,rfl,q⟩:=h;obtain⟨t,rfl⟩:=c;obtain⟨e,rfl⟩:=d;exact rule i j t e s _ _ ⟨.b (g i j),H,I,rfl,q⟩
def Fm (i j:Int):Prop:=0<=j/\j<=1000000/\i.natAbs<2 ^ 64
def En (i j:Int):Prop:=(-(2 ^ 64)<i/\i<2 ^ 64)\/(-(2 ^ 64)<j/\j<2 ^ 64)
theorem En.ok (h:En i j):IntMulOk i j:=by
 rcases h with⟨a,b⟩ | ⟨a,b⟩
 .exact .of_left (intBits_le_64 a b)
 .exact .of_right (intBits_le_64 a b)
theorem IV (k:Nat):(0:Int)<=2 ^ k:=by
 rw[two_pow_cast];exact Int.natCast_nonneg _
theorem W8:lH X (binaryOp .Add) (qG λi j=>.int (i+j)):=Jn λ_ _ _ _ _ _ _ q=>add_int q
theorem wA:lH X (binaryOp .Sub) (qG λi j=>.int (i-j)):=Jn λ_ _ _ _ _ _ _ q=>sub_int q
theorem Zn:lH X (binaryOp .Mult) (rI En λi j=>.int (i*j)):=yR λ_ _ _ _ _ _ _ a q=>mul_int q a.ok
theorem mQ:lH X (binaryOp .Mod) (rI (λ_ j=>0<j) λi j=>.int (i%j)):=yR λi j _ _ _ _ _ a q=>by
 have b:(0:Int)<j:=a;exact mod_int' (by omega) (by rw[Int.fmod_eq_emod_of_nonneg i (by omega)];exact q)
theorem Rh:lH X (binaryOp .Pow) (rI Fm λi j=>.int (i ^ j.toNat)):=yR λ_ _ _ _ _ _ _ a q=>pow_int_small a.1 a.2.1 a.2.2 q
theorem D2:lH X (binaryOp .LShift) (rI Fm λi j=>.int (i*2 ^ j.toNat)):=yR λ_ _ _ _ _ _ _ a q=>lshift_int_small a.1 a.2.1 a.2.2 q
theorem Vv:lH X (binaryOp .RShift) (rI (λ_ j=>0<=j) λi j=>.int (i/2 ^ j.toNat)):=yR λi j _ _ _ _ _ a q =>
 rshift_int a (by rw[Int.fdiv_eq_ediv_of_nonneg i (IV _)];exact q)
theorem Tp:lH X (binaryOp .BitAnd) (qG λi j=>.int (Builtin.bitAnd i j)):=Jn λ_ _ _ _ _ _ _ q=>and_int q
theorem Sg {f:Ac->Sem Ac}{g:Int->Int}
  (rule:∀ (i:Int) (t:Tok) (s:Ae) (Q:Ac->Ae->Prop) (E:Ac->Ae->Prop),Q (.int (g i) s.toks) { s with toks:=s.toks+1 }->wpAny (model X.prog X.w) X.A (f (.int i t)) Q E s) :
  Gb X f (rU λi=>.int (g i)):=by
 intro a s c H x v Q I b h;obtain⟨i,rfl,q⟩:=h;obtain⟨t,rfl⟩:=b;exact rule i t s _ _ ⟨.int (g i),H,I.tok _,⟨_,rfl⟩,q⟩
theorem GQ:Gb X (unaryOp .USub) (rU λi=>.int (-i)):=Sg λ_ _ _ _ _ q=>neg_int q
end
noncomputable def Gn:V->V->Bool
 | .e,.e=>true | .e,.int _=>true | .int _,.e=>true | .e,.b _=>true | .b _,.e=>true | .e,.str _=>true | .str _,.e=>true
 | .int _,.int _=>true | .b _,.b _=>true | .str _,.str _=>true | .byt _,.byt _=>true
 | .int _,.str _=>true | .str _,.int _=>true | .b _,.str _=>true | .str _,.b _=>true
 | _,_=>false
def Uy:R2:=λx y H Q=>Gn x y=true/\Q (.b (decide (x=y))) H
def Yr:R2:=λx y H Q=>Gn x y=true/\Q (.b (!decide (x=y))) H
theorem R4:decide (V.int i=V.int j)=(i == j):=by
 rw[gL];simp
theorem Oh:decide (V.b i=V.b j)=(i == j):=by
 rw[gL];simp
theorem Lh:decide (V.str i=V.str j)=(i == j):=by
 rw[gL];simp
theorem Nz:decide (V.byt i=V.byt j)=(i.toList == j.toList):=by
 rw[gL];cases i;cases j;simp
section
variable {X:Cx}
theorem nC (I:Inv X g l H s) (q:Q (.b k) H) (e:k=j):EP X g l Q (.bool j) s:=by
 subst e;exact⟨.b k,H,I,rfl,q⟩
theorem K4:lH X (compareOp .Eq) Uy:=by
 intro k s m H x y v u Q I f a h;obtain⟨d,q⟩:=h;cases x with
 | e =>
  cases f;cases y with
  | e=>cases a;exact PySem.EqNone.eq_none_none (nC I q (by simp))
  | b j=>cases a;exact PySem.EqNone.eq_none_bool (nC I q (by simp))
  | int j=>obtain⟨c,rfl⟩:=a;exact PySem.EqNone.eq_none_int (nC I q (by simp))
  | str j=>obtain⟨c,rfl⟩:=a;exact PySem.EqNone.eq_none_str (nC I q (by simp))
  | _=>exact absurd (show false=true from d) bP
 | b i =>
  cases f;cases y with
  | e=>cases a;exact PySem.EqNone.eq_bool_none (nC I q (by simp))
  | b j=>cases a;exact eq_bool (nC I q Oh)
  | str j=>obtain⟨c,rfl⟩:=a;exact PySem.EqMixed.eq_bool_str (nC I q (by simp))
  | _=>exact absurd (show false=true from d) bP
 | int i =>
  obtain⟨t,rfl⟩:=f;cases y with
  | e=>cases a;exact PySem.EqNone.eq_int_none (nC I q (by simp))
  | int j=>obtain⟨c,rfl⟩:=a;exact eq_int (nC I q R4)
  | str j=>obtain⟨c,rfl⟩:=a;exact PySem.EqMixed.eq_int_str (nC I q (by simp))
  | _=>exact absurd (show false=true from d) bP
 | str i =>
  obtain⟨t,rfl⟩:=f;cases y with
  | e=>cases a;exact PySem.EqNone.eq_str_none (nC I q (by simp))
  | b j=>cases a;exact PySem.EqMixed.eq_str_bool (nC I q (by simp))
  | int j=>obtain⟨c,rfl⟩:=a;exact PySem.EqMixed.eq_str_int (nC I q (by simp))
  | str j=>obtain⟨c,rfl⟩:=a;exact eq_str (nC I q Lh)
  | _=>exact absurd (show false=true from d) bP
 | byt i =>
  obtain⟨t,rfl⟩:=f;cases y with
  | byt j=>obtain⟨c,rfl⟩:=a;exact PySem.W.eq_bytes (nC I q Nz)
  | _=>exact absurd (show false=true from d) bP
 | _=>cases y<;>exact absurd (show false=true from d) bP
theorem Qn:lH X (compareOp .NotEq) Yr:=by
 intro k s m H x y v u Q I f a h;obtain⟨d,q⟩:=h;cases x with
 | e =>
  cases f;cases y with
  | e=>cases a;exact PySem.EqNone.ne_none_none (nC I q (by simp))
  | b j=>cases a;exact PySem.EqNone.ne_none_bool (nC I q (by simp))
  | int j=>obtain⟨c,rfl⟩:=a;exact PySem.EqNone.ne_none_int (nC I q (by simp))
  | str j=>obtain⟨c,rfl⟩:=a;exact PySem.EqNone.ne_none_str (nC I q (by simp))
  | _=>exact absurd (show false=true from d) bP
 | b i =>
  cases f;cases y with
  | e=>cases a;exact PySem.EqNone.ne_bool_none (nC I q (by simp))
  | b j=>cases a;exact ne_bool (nC I q (cL not Oh))
  | str j=>obtain⟨c,rfl⟩:=a;exact PySem.EqMixed.ne_bool_str (nC I q (by simp))
  | _=>exact absurd (show false=true from d) bP
 | int i =>
  obtain⟨t,rfl⟩:=f;cases y with
  | e=>cases a;exact PySem.EqNone.ne_int_none (nC I q (by simp))
  | int j=>obtain⟨c,rfl⟩:=a;exact ne_int (nC I q (cL not R4))
  | str j=>obtain⟨c,rfl⟩:=a;exact PySem.EqMixed.ne_int_str (nC I q (by simp))
  | _=>exact absurd (show false=true from d) bP
 | str i =>
  obtain⟨t,rfl⟩:=f;cases y with
  | e=>cases a;exact PySem.EqNone.ne_str_none (nC I q (by simp))
  | b j=>cases a;exact PySem.EqMixed.ne_str_bool (nC I q (by simp))
  | int j=>obtain⟨c,rfl⟩:=a;exact PySem.EqMixed.ne_str_int (nC I q (by simp))
  | str j=>obtain⟨c,rfl⟩:=a;exact ne_str (nC I q (cL not Lh))
  | _=>exact absurd (show false=true from d) bP
 | byt i =>
  obtain⟨t,rfl⟩:=f;cases y with
  | byt j=>obtain⟨c,rfl⟩:=a;exact PySem.W.ne_bytes (nC I q (cL not Nz))
  | _=>exact absurd (show false=true from d) bP
 | _=>cases y<;>exact absurd (show false=true from d) bP
theorem AE:lH X (compareOp .Lt) (qG λi j=>.b (decide (i<j))):=Fk λ_ _ _ _ _ _ _ q=>lt_int q
theorem Ix:lH X (compareOp .LtE) (qG λi j=>.b (decide (i<=j))):=Fk λ_ _ _ _ _ _ _ q=>le_int q
theorem uT:lH X (compareOp .Gt) (qG λi j=>.b (decide (j<i))):=Fk λ_ _ _ _ _ _ _ q=>gt_int q
theorem Oa:lH X (compareOp .GtE) (qG λi j=>.b (decide (j<=i))):=Fk λ_ _ _ _ _ _ _ q=>ge_int q
theorem Rv:lH X (compareOp .In) (λx y H Q=>∃ i j,x = .str i/\y = .str j/\Q (.b (!(Builtin.Str.occurrences j i 0 j.length 1).isEmpty)) H):=by
 intro a s f H x y v u Q I c d h;obtain⟨i,j,rfl,rfl,q⟩:=h;obtain⟨t,rfl⟩:=c;obtain⟨e,rfl⟩:=d;exact in_str (nC I q rfl)
theorem IQ:lH X (compareOp .NotIn) (λx y H Q=>∃ i j,x = .str i/\y = .str j/\Q (.b (!(!(Builtin.Str.occurrences j i 0 j.length 1).isEmpty))) H):=by
 intro a s f H x y v u Q I c d h;obtain⟨i,j,rfl,rfl,q⟩:=h;obtain⟨t,rfl⟩:=c;obtain⟨e,rfl⟩:=d;exact notIn_str (nC I q rfl)
theorem lH.or (h:lH X f r) (g:lH X f j):lH X f (λx y H Q=>r x y H Q\/j x y H Q):=by
 intro a s d H x y v u Q I b c q;rcases q with q | q
 .exact h a s d H x y v u Q I b c q
 .exact g a s d H x y v u Q I b c q
theorem Cd (b:Expr) (h:op ≠ .In:=by decide) (g:op ≠ .NotIn:=by decide):behindInMarks op b=false:=by
 have a:(op == CmpOp.In)=false:=by cases op<;>first | rfl | exact absurd rfl h
 have c:(op == CmpOp.NotIn)=false:=by cases op<;>first | rfl | exact absurd rfl g
 cases b<;>simp[behindInMarks,a,c]
theorem Bo (o:lH X (compareOp op) r) (g:PE X a p) (j:PE X b C) (l:behindInMarks op b=false):PE X (.Compare a [op] [b] pos) (yZ r p C):=by
 intro c s m H Q I h;exact wpAny_Compare1 (F5 g j I h λv u k x y d e f i q=>o c k m d x y v u Q e f i q) l
def Th (t:TE):TT:=λc H Q=>t c H λx a=>∃ k,x = .b k/\Q k a
theorem Jb (o:lH X (compareOp op) r) (g:PE X a p) (j:PE X b C) (l:behindInMarks op b=false):PT X (.Compare a [op] [b] pos) (Th (yZ r p C)):=by
 intro d s f H Q I h;refine wpAny_isTrue_Compare1 (kY (g d s f H _ I h) λv K ⟨x,i,q,E,A⟩=>kY (j d K f i _ q A) λu L ⟨y,m,t,F,B⟩ =>kY (o d L f m x y v u _ t E F B) λc M ⟨z,n,w,G,k,e,D⟩=>?_) l;subst e;cases G;exact eC ⟨n,w,D⟩
def Zo (r g:R2) (j l o:TE):TE:=λa H Q=>j a H λx d=>l a d λy e=>r x y e λz c=>∃ k,z = .b k /\
 (if k=true then o a c λh f=>g y h f Q else Q (.b false) c)
theorem BA (J:lH X (compareOp op) r) (j:lH X (compareOp g) T) (l:PE X a U) (o:PE X b tb) (p:PE X c tc)
  (C:lastMarks [op,g] [b,c]=false:=by with_unfolding_all rfl):PE X (.Compare a [op,g] [b,c] pos) (Zo r T U tb tc):=by
 intro f s i H Q I h;refine Compare_chain (kY (l f s i H _ I h) λv P ⟨x,w,D,M,G⟩=>chain_link (kY (o f P i w _ D G) λu R ⟨y,A,E,t,K⟩ =>kY (J f R i A x y v u _ E M t K) λd S ⟨z,m,n,N,k,e,q⟩=>?_)) C;subst e;cases N;refine eC ?_;cases k with
 | false=>exact ite_ff ⟨.b false,m,n,rfl,q⟩
 | true=>exact ite_tt (chain_last (kY (p f S i m _ n q) λW V ⟨Y,B,F,O,L⟩=>j f V i B y Y u W Q F t O L))
def I0 (K:kQ) (x:V) (H:Hp) (k:Bool):Prop :=
 match x with
 | .e=>k=false
 | .b b=>k=b
 | .int i=>k=(i != 0)
 | .str y=>y.length<=sizeLine/\k=((y.length:Int) != 0)
 | .byt y=>y.size<=sizeLine/\k=((y.size:Int) != 0)
 | .ref p=>(∃ c,lG K H p c/\k = !c.isEmpty)\/(∃ c,lR K H p c/\k = !c.isEmpty)\/∃ a,Rd H p (.k a)/\k = !a.isEmpty
 | _=>False
theorem Vg (r:KV g j):(!j.isEmpty) = !g.isEmpty:=by
 cases r<;>rfl
theorem Py (r:lC j g):(!g.toArray.isEmpty) = !j.isEmpty:=by
 cases r<;>simp
theorem wP:(sizeLine:Nat)<2 ^ 63:=by rw[sizeLine_eq];decide
theorem AO:R8 X (λx H Q=>∃ k,I0 X.K x H k/\Q k H):=by
 intro E s N H x v Q I n h;obtain⟨k,e,q⟩:=h;have L:=wP;have M:sizeLine=16777216:=sizeLine_eq;cases x with
 | e =>
  cases n;have a:k=false:=e;subst a;exact truthy_none ⟨H,I,q⟩
 | b b =>
  cases n;have a:k=b:=e;subst a;exact eC ⟨H,I,q⟩
 | int i =>
  obtain⟨t,rfl⟩:=n;have a:k=(i != 0):=e;subst a;exact PySem.P.truthy_int ⟨H,I,q⟩
 | str y =>
  obtain⟨t,rfl⟩:=n;obtain⟨G,a⟩:y.length<=sizeLine/\k=((y.length:Int) != 0):=e;subst a;exact PySem.P.truthy_str (by omega) ⟨H,I.tok _,q⟩
 | byt y =>
  obtain⟨t,rfl⟩:=n;obtain⟨G,a⟩:y.size<=sizeLine/\k=((y.size:Int) != 0):=e;subst a;exact PySem.W.truthy_bytes (by omega) ⟨H,I.tok _,q⟩
 | ref p =>
  cases n;have a:(∃ f,lG X.K H p f/\k = !f.isEmpty)\/(∃ f,lR X.K H p f/\k = !f.isEmpty)\/∃ c,Rd H p (.k c)/\k = !c.isEmpty:=e;rcases a with⟨f,u,a⟩ | ⟨f,u,a⟩ | ⟨c,u,a⟩
  .subst a;obtain⟨A,r,B,D⟩:=I.list u;have d:=r.length;exact wpAny_truthy_list B.isList (by simp only[bE];omega) ⟨H,I.tok _,by rw[Py r];exact q⟩
  .subst a;obtain⟨A,r,B,D⟩:=I.tuple u;have d:=r.length;exact truthy_tuple B (by simp only[bE];omega) ⟨H,I.tok _,by rw[Py r];exact q⟩
  .subst a;obtain⟨D,F,z,r,m⟩:c.length<=sizeLine/\(p == sysModules)=false/\∃ z,KV c z/\s.heap.DictOf (nG X.prog X.w) p z:=Rd.ok u I.hok;have d:c.length=z.length:=fN r;exact wpAny_truthy_dict F m (by omega) ⟨H,I.tok _,by rw[Vg r];exact q⟩
 | _=>exact (show False from e).elim
theorem II (l:PE X a p) (o:∀ whole,isTrue a X.env whole=(do let v <- whole;standAt a.pos;holding [v] (truthy v))) :
  PT X a (λg H Q=>p g H λx j=>∃ k,I0 X.K x j k/\Q k j):=by
 intro b s g H Q I h;exact isTrue_plain (kY (l b s g H _ I h) λv i ⟨x,c,d,f,e⟩=>AO b i g c x v Q d f e) (o _)
theorem V4:lH X (binaryOp .Add) (λx y H Q=>∃ i j,x = .str i/\y = .str j/\i.length+j.length<=sizeLine/\Q (.str (i++j)) H):=by
 intro a s k H x y v u Q I c d h;obtain⟨i,j,rfl,rfl,b,q⟩:=h;obtain⟨t,rfl⟩:=c;obtain⟨e,rfl⟩:=d;exact add_str (λe f=>⟨.str (i++j),H,I.tok _,⟨_,rfl⟩,q⟩) b
theorem qH (r:lC [x] g):∃ u,g=[u]/\lA x u:=by
 cases r with
 | cons a b=>cases b;exact⟨_,rfl,a⟩
theorem yV (r:lC [x,y] j):∃ u g,j=[u,g]/\lA x u/\lA y g:=by
 cases r with
 | cons a b =>
  cases b with
  | cons c d=>cases d;exact⟨_,_,rfl,a,c⟩
theorem Vh (l:X.calm=true):mZ X (.builtin "max") (λg H Q=>∃ i j,g=[.int i,.int j]/\Q (.int (if j>i then j else i)) H):=by
 intro b s n H g f Q I r h;obtain⟨i,j,rfl,q⟩:=h;obtain⟨u,m,rfl,⟨t,rfl⟩,⟨d,rfl⟩⟩:=yV r;refine max_two_ints (I.ok.hd l) λc e k=>⟨_,H,I.kept k,?_,q⟩
 by_cases a:j>i
 .rw[aZ a,aZ a];exact⟨_,rfl⟩
 .rw[aK a,aK a];exact⟨_,rfl⟩
theorem DA (l:X.calm=true):mZ X (.builtin "min") (λg H Q=>∃ i j,g=[.int i,.int j]/\Q (.int (if j<i then j else i)) H):=by
 intro b s n H g f Q I r h;obtain⟨i,j,rfl,q⟩:=h;obtain⟨u,m,rfl,⟨t,rfl⟩,⟨d,rfl⟩⟩:=yV r;refine min_two_ints (I.ok.hd l) λc e k=>⟨_,H,I.kept k,?_,q⟩
 by_cases a:j<i
 .rw[aZ a,aZ a];exact⟨_,rfl⟩
 .rw[aK a,aK a];exact⟨_,rfl⟩
theorem X6:mZ X (.type "int") (λg H Q=>(∃ i,g=[.int i]/\Q (.int i) H)\/∃ k,g=[.b k]/\Q (.int (if k then 1 else 0)) H):=by
 intro a s e H g d Q I r h;rcases h with⟨i,rfl,q⟩ | ⟨k,rfl,q⟩
 .obtain⟨u,rfl,t,rfl⟩:=qH r;exact call_int_int ⟨.int i,H,I,⟨_,rfl⟩,q⟩
 .obtain⟨u,rfl,c⟩:=qH r;cases c;exact call_int_bool ⟨.int (if k then 1 else 0),H,I.tok _,⟨_,rfl⟩,q⟩
end
structure ObjM (h:Heap) (x dx C:Addr) (mA:Str->Option Value):Prop where
 obj:h.get? x=some (PySem.W.instObj C dx)
 ns:h.Ns1 dx mA
 ne:dx≠x
theorem FK {h:Ag}{g:Ad}{j:Af->Ab Ac}(n:h.Ns1 g j):∃ l,h.get? g=some l/\∀ name,PySem.W.lookIn name l=some (j name):=by
 obtain⟨o,c,s,k,hd,f,_,i⟩:=n;refine⟨o,k,λname=>?_⟩;have e:=i name;unfold nsFind findBy at e;rw[<- Array.find?_toList] at e;unfold PySem.W.lookIn;rw[hd];dsimp only;split
 .rename_i y q
  rw[q] at e;exact cL some e
 .rename_i q
  rw[q] at e;have a:c.toList.any (·.refKey)=false:=by
   rw[List.any_eq_false];intro y m;obtain⟨z,t,b⟩:=f y (Array.mem_toList_iff.mp m);simp[DictEntry.refKey,b]
  have d:¬ c.toList.any (·.refKey)=true:=by rw[a];exact bP
  rw[aK d];exact cL some e
theorem ObjM.look (I:ObjM h x j C l):∃ g,PySem.W.InstAt h x (PySem.W.instObj C j) C (some g)/\∀ name,PySem.W.lookIn name g=some (l name) :=
 let ⟨g,b,a⟩:=FK I.ns
 ⟨g,⟨I.obj,rfl,rfl,b⟩,a⟩
theorem sC.some_of (r:sC (some v) o):∃ u,o=some u/\lA v u:=by
 cases o with
 | none=>exact (show False from r).elim
 | some u=>exact⟨u,rfl,r⟩
section
variable {P:Ah}
theorem HE (l:nA P w H h) (e:H a=some (.ins C j fs)):∃ g,ObjM h a j C g/\(∀ f,sC (fs.lookup f) (g f))/\PySem.Within g (fs.map (·.1))/\fs.length<=1000/\H j=some (.o a):=by
 obtain⟨d,z,ne,b,g,n,r,q⟩:=(show mW P w H h a (.ins C j fs) from l a _ e);exact⟨g,⟨b,n,ne⟩,r,q,z,d⟩
end
structure Cls (K:kQ) (C:Addr):Prop where
 pg:PySem.W.plainGet K C Str.empty=true
 hd:PySem.W.hasDictIn K C=true
 po:PySem.W.plainOver K C=true
 sa:PySem.W.findIn K (.ref C) "__setattr__" = some (some (.builtin "object.__setattr__"))
theorem Cls.get {K:kQ}(c:Cls K C) (f:Af):PySem.W.plainGet K C f=true:=c.pg
def Qt (X:Cx) (op:Operator) (rd:V->V->Hp->VK->Prop):Prop :=
 ∀ (a:Aa (Ad×Obj)) (s:Ae) (b:St) (H:Hp) (x y:V) (u v:Ac) (Q:VK),Inv X a b H s->lA x u->lA y v->rd x y H Q->wpAny (model X.prog X.w) X.A (inplaceOp op u v) (EP X a b Q) X.xe s
section
variable {X:Cx}
def R7:V->V->Hp->VK->Prop:=λx y H Q=>∃ i j,x = .int i/\y = .int j/\Q (.int (i+j)) H
theorem Yg:Qt X .Add R7:=by
 rintro a s e H x y u v Q I c d ⟨i,j,rfl,rfl,q⟩;obtain⟨t,rfl⟩:=(show ∃ t,u=Value.int i t from c);obtain⟨b,rfl⟩:=(show ∃ b,v=Value.int j b from d);exact PyProof.Rows.iadd_int ⟨.int (i+j),H,I.tok _,⟨_,rfl⟩,q⟩
end
section
variable {X:Cx}
inductive TyOf (K:kQ) (H:Hp):V->Value->Prop where
 | e:TyOf K H .e (.type "NoneType")
 | b (x:Bool):TyOf K H (.b x) (.type "bool")
 | int (i:Int):TyOf K H (.int i) (.type "int")
 | str (x:Str):TyOf K H (.str x) (.type "str")
 | flt (x:UInt64):TyOf K H (.flt x) (.type "float")
 | l {a:Addr} {xs:List V} (e:H a=some (.l xs)):TyOf K H (.ref a) (.type "list")
 | frz {a:Addr} {o:Obj} {xs:List V} (e:H a=some (.frz o (.l xs))):TyOf K H (.ref a) (.type "list")
 | t {a:Addr} {xs:List V} (e:H a=some (.t xs)):TyOf K H (.ref a) (.type "tuple")
 | k {a:Addr} {kvs:List (fS×V)} (e:Rd H a (.k kvs)):TyOf K H (.ref a) (.type "dict")
 | T {a:Addr} {kvs:List (List fS×V)} (e:H a=some (.T kvs)):TyOf K H (.ref a) (.type "dict")
 | ins {a C dx:Addr} {fs:List (Str×V)} (e:H a=some (.ins C dx fs)) (cl:Cls K C) (ha:PySem.W.findIn K (.ref C) "__class__" = some (some (.builtin "object.__class__")))
   (hn:PySem.W.specialIn K (.builtin "object.__class__") "__get__" = some (some (.builtin "getset_descriptor.__get__"))) (htk:PySem.W.takesIn K (.builtin "object.__class__")=some true)
   (hm:PySem.W.mroIn K C (.type "object")=some true):TyOf K H (.ref a) (.ref C)
theorem Xi (I:Inv X j U H s) (g:lA x u) (ty:TyOf X.K H x t) (e:PySem.W.kitOne X.K t c=some b) (h:∀ r,Q (.bool b) { s with toks:=r }) :
  wpAny (model X.prog X.w) A (call (.builtin "isinstance") [u,c]) Q E s:=by
 cases ty with
 | e=>cases (show u=Value.none from g);exact dX PySem.W.kitx_none I.kIn True.intro e (λz=>nomatch z) h
 | b y=>cases (show u=Value.bool y from g);exact dX PySem.W.kitx_bool I.kIn True.intro e (λz=>nomatch z) h
 | int i=>obtain⟨t,q⟩:=(show ∃ t,u=Value.int i t from g);cases q;exact dX PySem.W.kitx_int I.kIn True.intro e (λz=>nomatch z) h
 | str y=>obtain⟨t,q⟩:=(show ∃ t,u=Value.str y t from g);cases q;exact dX PySem.W.kitx_str I.kIn True.intro e (λz=>nomatch z) h
 | flt y=>obtain⟨t,q⟩:=(show ∃ t,u=Value.float y t from g);cases q;exact dX PySem.W.kitx_float I.kIn True.intro e (λz=>nomatch z) h
 | @l a v d =>
  cases (show u=Value.ref a from g);obtain⟨_,_,n,_,f⟩:=(show mW X.prog X.w H s.heap a (.l v) from I.hok a _ d);exact dX PySem.W.kitx_list I.kIn ⟨_,f,rfl⟩ e (λz=>nomatch z) h
 | @frz a R v d =>
  cases (show u=Value.ref a from g);obtain⟨_,_,_,n,_,f⟩:=(show mW X.prog X.w H s.heap a (.frz R (.l v)) from I.hok a _ d);exact dX PySem.W.kitx_list I.kIn ⟨_,f,rfl⟩ e (λz=>nomatch z) h
 | @t a v d =>
  cases (show u=Value.ref a from g);obtain⟨_,_,_,p,_⟩:=(show mW X.prog X.w H s.heap a (.t v) from I.hok a _ d);obtain⟨o,f,B,_⟩:=p;exact dX PySem.W.kitx_tuple I.kIn ⟨o,f,B⟩ e (λz=>nomatch z) h
 | @k a m d =>
  cases (show u=Value.ref a from g);obtain⟨_,_,Z,_,p⟩:=(show mW X.prog X.w H s.heap a (.k m) from Rd.ok d I.hok);obtain⟨o,L,G,f,B,_⟩:=p;exact dX PySem.W.kitx_dict I.kIn ⟨o,f,B.1⟩ e (λz=>nomatch z) h
 | @T a m d =>
  cases (show u=Value.ref a from g);obtain⟨_,_,v,_,o,L,G,f,B,_⟩:=(show mW X.prog X.w H s.heap a (.T m) from I.hok a _ d);exact dX PySem.W.kitx_dict I.kIn ⟨o,f,B.1⟩ e (λz=>nomatch z) h
 | @ins a C S fs d F M P D N =>
  cases (show u=Value.ref a from g);obtain⟨V,O,_⟩:=HE I.hok d;obtain⟨Y,J,_⟩:=O.look;exact dX (PySem.W.kitx_own (F.get _) F.hd M P D N) I.kIn J e (λz=>nomatch z) h
end
structure Room (k:Nat) (A:Around):Prop where
 hd:A.handled=none
 dp:A.depth+3*k+5<recursionLimit
 un:A.units+16*k+200<cLine
theorem Room.mono (r:Room k A) (h:j<=k):Room j A:=⟨r.hd,by have:=r.dp;omega,by have:=r.un;omega⟩
theorem Room.deeper (r:Room (k+1) A) (g:Env):Room k (A.deeper g) :=
 ⟨r.hd,by have:=r.dp;show A.depth+1+3*k+5<_;omega,by have:=r.un;show A.units+3+16*k+200<_;omega⟩
theorem Room.depth (r:Room k A):A.depth<recursionLimit:=by have:=r.dp;omega
theorem Room.units (r:Room k A):A.units+64<cLine:=by have:=r.un;omega
def AF:TA:=λ_ H Q=>Q [] H
def Ms (g:TE) (j:TA):TA:=λa H Q=>g a H λx b=>j a b λd c=>Q (x::d) c
section
variable {X:Cx}
theorem xE:PA X [] AF:=λ_ _ _ _ H Q I h=>Calls.spliced_nil ⟨[],H,I,.nil,h⟩
theorem V8 (j:PE X e p) (l:PA X g t) (o:starEach (e::g) X.env=(false,eval e X.env)::starEach g X.env:=by rfl):PA X (e::g) (Ms p t):=by
 intro pos a s c H Q I h;rw[o];show wpAny _ _ (spliced ((false,eval e X.env)::backTo pos (starEach g X.env))) _ _ s;refine iH (kY (j a s c H _ I h) λu w b=>?_);obtain⟨x,d,i,q,m⟩:=b;exact kY (l pos a w c d _ i m) λA z ⟨y,f,k,v,n⟩=>⟨x::y,f,k,.cons q v,n⟩
def EJ (t:TA):TE:=λc H Q=>t c H λb a=>b.length<=sizeLine/\∀ p,a p=none->Q (.ref p) (upd a p (.t b))
def DQ (t:TA):TE:=λc H Q=>t c H λb a=>b.length<=sizeLine/\∀ p,a p=none->Q (.ref p) (upd a p (.l b))
theorem Hr {j}(h:PA X g t):PE X (.Tuple g j pos) (EJ t):=by
 intro a s v H Q I k;refine wpAny_Tuple_spliced (kY (h pos a s v H _ I k) λm c ⟨n,d,f,r,z,q⟩=>⟨by rw[<- r.length];exact z,?_⟩);have i:d c.heap.objs.size=none:=f.hok.fresh (bF _);refine⟨.ref c.heap.objs.size,upd d c.heap.objs.size (.t n),f.laid (t':=c.toks) (λb u e=>aQ _ e) (bF _) ?_,rfl,q _ i⟩;exact⟨z,m,r,⟨_,bL _ rfl,rfl,_,rfl⟩,_,bL _ rfl,rfl⟩
theorem Sa (h:PA X g t):PE X (.List g pos) (DQ t):=by
 intro a s v H Q I k;refine wpAny_List_spliced (kY (h pos a s v H _ I k) λm c ⟨n,d,f,r,z,q⟩=>⟨by rw[<- r.length];exact z,?_⟩);have i:d c.heap.objs.size=none:=f.hok.fresh (bF _);refine⟨.ref c.heap.objs.size,upd d c.heap.objs.size (.l n),f.laid (t':=c.toks) (λb u e=>aQ _ e) (bF _) ?_,rfl,q _ i⟩;exact⟨z,m,0,r,bL _ rfl⟩
end
abbrev Sp:=Aa V->Hp->VK->XK->Prop
abbrev zF:=Aa Env->Hp->Ae->XK->Ac->Ae->Prop
structure Env0 (P:Program) (w:World) (K:kQ) (mg:Str->Option Value) (base:Heap) (A:Around) (outer:List Env) (s:Shared) (H:Hp):Prop where
 frames:A.frames=some outer
 mod:Mod K mg base
 bs:∀ b o,base.get? b=some o->s.heap.get? b=some o/\H b=none
 bsz:base.objs.size<=s.heap.objs.size
 funs:s.heap.FunFrames base outer
 frf:∀ b∈sT outer,H b=none
 hok:nA P w H s.heap
 bare:AllBare s.gens
def CE (g:Aa Env) (P:Ah) (w:World) (H:Hp) (s:Ae) (Q:VK) (u:Ac) (j:Ae):Prop :=
 ∃ v a,j.os=s.os/\AllBare j.gens/\Un (sT g) [] H a s.heap j.heap/\nA P w a j.heap/\lA v u/\Q v a
def CR (l:zF) (g:Aa Env) (P:Ah) (w:World) (H:Hp) (s:Ae) (Q:VK) (E:XK) (r:Result) (j:Ae):Prop :=
 match r with
 | .ok (.ret u)=>CE g P w H s Q u j
 | .ok _=>False
 | .error e=>l g H s E e j
structure FnOk (P:Program) (w:World) (K:kQ) (mg:Str->Option Value) (base:Heap) (CX:zF) (k:Nat) (f:Addr) (fd:FuncData) (ps:List Str) (sp:Sp):Prop where
 len:∀ vs H Q E,sp vs H Q E->vs.length=ps.length
 run:∀ (A:Around) (outer:List Env) (s:Shared) (H:Hp) (args:Args) (us:List Value) (vs:List V) (Q:VK) (E:XK),Room k A->Env0 P w K mg base A outer s H->BindsTo s fd args (ps.zip us)->lC vs us->sp vs H Q E ->
  codeAny (model P w) A (.call (.ref f) args) (CR CX outer P w H s Q E) s
theorem FnOk.imp {P:Ah}{K:kQ}(F:FnOk P w K o base l k f fd p r)
  (h:∀ g H Q E,j g H Q E->r g H Q E):FnOk P w K o base l k f fd p j :=
 ⟨λg H Q E q=>F.len g H Q E (h _ _ _ _ q),λA a s H args m g Q E d c b i e=>F.run A a s H args m g Q E d c b i (h _ _ _ _ e)⟩
section
variable {X:Cx}
theorem Inv.env0 (I:Inv X g j H s):Env0 X.prog X.w X.K X.mg X.base X.A X.stack s H :=
 ⟨I.ok.frames,I.ok.mod,I.bs,bS I.ok.bsz I.sz,I.stack,I.stkFree,I.hok,I.bare⟩
theorem Inv.after (I:Inv X j o H s) (h:CE X.stack X.prog X.w H s Q u l):EP X j o Q u l:=by
 obtain⟨v,e,os,bare,un,a,r,q⟩:=h;obtain⟨f,g,d,t,c⟩:=l;obtain rfl:c=s.os:=os;exact⟨v,e,I.call (h':=f) (g':=g) (d':=d) (t':=t) (ch:=[]) un a bare (λb z=>absurd z (by simp)),r,q⟩
end
def DE (j:Sp) (g:Aa V) (E:XK) (t:TA):TE:=λc H Q=>t c H λb a=>j (b++g) a Q E
def wR (K:kQ) (fd:FuncData) (j:Aa Af) (g:Aa Ac):Prop :=
 ∀ (s:Ae) (a:Aa Ac),K.In s.heap->(a++g).length=j.length->BindsTo s fd ⟨a,[]⟩ (j.zip (a++g))
theorem wR.all {K:kQ}(h:∀ g:Aa Ac,g.length=j.length->bindArgs fd ⟨g,[]⟩=pure (j.zip g)):wR K fd j []:=λs g _ a=>by
 rw[cD] at a |-;exact .of_eq (h g a)
def F1 (g:zF) (X:Cx) (E:XK):Prop:=∀ (a:Aa (Ad×Obj)) (c:St) (H:Hp) (s:Ae) (e:Ac) (b:Ae),Inv X a c H s->g X.stack H s E e b->X.xe e b
section
variable {X:Cx}
theorem JC (F:FnOk X.prog X.w X.K X.mg X.base T k f fd C sp) (hr:Room k X.A) (U:wR X.K fd C o) (hd:lC j o) (hx:F1 T X E)
  (I:Inv X g J H s) (r:lC p l) (h:sp (p++j) H Q E):wpAny (model X.prog X.w) X.A (call (.ref f) l) (EP X g J Q) X.xe s:=by
 have b:lC (p++j) (l++o):=r.append hd;have d:(l++o).length=C.length:=by rw[<- b.length];exact F.len _ _ _ _ h
 refine wpAny_call (codeAny_mono (F.run X.A X.stack s H ⟨l,[]⟩ (l++o) (p++j) Q E hr I.env0 (U s l I.kIn d) b h) λr i a=>?_);cases r with
 | error e=>exact hx g J H s e i I a
 | ok c =>
  cases c with
  | ret u=>exact I.after a
  | next=>exact False.elim a
  | brk=>exact False.elim a
  | cont=>exact False.elim a
structure StB (X:Cx) (e:Expr) (es:List Expr) (pos:Pos):Prop where
 a:starEach (e::es) X.env=(false,eval e X.env)::starEach es X.env:=by rfl
 b:(backTo pos (starEach es X.env)).any (·.1)=false:=by rfl
theorem BE (F:FnOk X.prog X.w X.K X.mg X.base C k f fd ps sp) (hr:Room k X.A) (hg:Gl X x) (hm:X.mg x=some (.ref f)) (hk:PySem.W.keepIn X.K (.ref f)=true) (U:wR X.K fd ps J) (hd:lC j J) (hx:F1 C X E)
  (T:PA X (e::o) t) (l:(x == ("__debug__" : Af))=false:=by decide) (g:StB X e o pos:=by exact {}) :
  PE X (.Call (.Name x p) (e::o) [] pos) (DE sp j E t):=by
 intro c s i H Q I h;refine gG (Pd I hg hm ?_ l);refine PySem.W.callWith_K (h₀:=X.base) I.ok.mod.kin hk (kY (T pos c s i H _ I h) λu n ⟨v,m,d,r,q⟩=>⟨d.kIn,?_⟩) g.a g.b;exact JC F hr U hd hx d r q
end
structure FnScope (N P:List Str) (sc:Scope):Prop where
 kind:sc.kind = .function
 co:sc.isCoroutine=false
 gen:sc.isGenerator=false
 nd:N.Nodup
 pre:N.take P.length=P
 par:∀ x∈P,sc.names.lookup x=some .local\/sc.names.lookup x=some .cell
 nofree:∀ y∈sc.names,y.2 ≠ .free
theorem Ln {kindOf:Af->Ab NameKind}:∀ {binds:Aa (Af×Ac)}{m:Af->Ab Ac},(∀ v,(x,v)∉binds)->bindL kindOf binds m x=m x
 | [],_,_=>rfl
 | (n,v)::r,m,h=>by
  unfold bindL;rw[Ln λw hw=>h w (bD _ hw)];split
  .have:x≠n:=by rintro rfl;exact h v aT
   simp[this]
  .rfl
theorem Ka {kindOf:Af->Ab NameKind}:∀ {binds:Aa (Af×Ac)}{m:Af->Ab Ac},(∀ v,(x,v)∉binds)->bindC kindOf binds m x=m x
 | [],_,_=>rfl
 | (n,v)::r,m,h=>by
  unfold bindC;rw[Ka λw hw=>h w (bD _ hw)];split
  .rfl
  .have:x≠n:=by rintro rfl;exact h v aT
   simp[this]
theorem Kt {kindOf:Af->Ab NameKind}:∀ {P:Aa Af}{g:Aa Ac}{i:Nat}{m:Af->Ab Ac},P.Nodup->P[i]?=some x->g[i]?=some v->kindOf x=some .local ->
  bindL kindOf (P.zip g) m x=some v
 | [],_,_,_,_,h,_,_=>by simp at h
 | _::_,[],_,_,_,_,h,_=>by simp at h
 | p::P,w::g,0,m,d,a,b,c=>by
  simp at a b;subst a;subst b;show bindL kindOf ((p,w)::P.zip g) m p=_;unfold bindL;rw[Ln λv e=>(bX.mp d).1 (kN e).1,aZ c];simp
 | p::P,w::g,i+1,m,d,a,b,c=>by
  show bindL kindOf ((p,w)::P.zip g) m x=_;unfold bindL;exact Kt (i:=i) (bX.mp d).2 (by simpa using a) (by simpa using b) c
theorem Ru {kindOf:Af->Ab NameKind}:∀ {P:Aa Af}{g:Aa Ac}{i:Nat}{m:Af->Ab Ac},P.Nodup->P[i]?=some x->g[i]?=some v->kindOf x≠some .local ->
  bindC kindOf (P.zip g) m x=some v
 | [],_,_,_,_,h,_,_=>by simp at h
 | _::_,[],_,_,_,_,h,_=>by simp at h
 | p::P,w::g,0,m,d,a,b,c=>by
  simp at a b;subst a;subst b;show bindC kindOf ((p,w)::P.zip g) m p=_;unfold bindC;rw[Ka λv e=>(bX.mp d).1 (kN e).1,aK c];simp
 | p::P,w::g,i+1,m,d,a,b,c=>by
  show bindC kindOf ((p,w)::P.zip g) m x=_;unfold bindC;exact Ru (i:=i) (bX.mp d).2 (by simpa using a) (by simpa using b) c
def start (N:Aa Af) (g:Aa V):St:=g.map some++List.replicate (N.length-g.length) none
noncomputable def wE (o:zF) (P:Ah) (w:World) (K:kQ) (p:Af->Ab Ac) (base:Ag) (N:Aa Af) (l:Af) (g:Scope) (f:Ad) (cd:Ac) (A:Around) (j:Aa Env) (s:Ae) (H:Hp) (E:XK):Cx where
 prog:=P
 w:=w
 K:=K
 mg:=p
 base:=base
 A:=A.deeper (envOfC l g s.heap.objs.size f cd)
 N:=N
 s₀:=s
 H₀:=H
 env:=envOfC l g s.heap.objs.size f cd
 outer:=j
 stack:=envOfC l g s.heap.objs.size f cd::j
 ex:=[]
 calm:=true
 fn:=λ_=>true
 pn:=[]
 xe:=λe c=>wpAny (model P w) (A.deeper (envOfC l g s.heap.objs.size f cd)) (leaving (envOfC l g s.heap.objs.size f cd) e) (λ_ a=>o j H s E e a) (λb a=>o j H s E b a) c
theorem Ki {g:Scope}{n:Nat}{x:Af}(h:g.names.lookup x=some .cell):∃ c,(cellsFrom n g.names []).lookup x=some c:=by
 have q:=PySem.W.cellsFrom_some g.names n [] (.inl h);exact cP.mp q
theorem BX {P:Ah}{K:kQ}{cd:Ac}
  (S:FnScope N C g) (hd:A.handled=none) (o:Env0 P w K J base A j s H) (hl:I.length=C.length) (r:lC I T)
  (x:InCallC s s.heap.objs.size (bindL (envOfC l g s.heap.objs.size f cd).kindOf (C.zip T) λ_=>none) (cellsFrom (s.heap.objs.size+1) g.names []) (bindC (envOfC l g s.heap.objs.size f cd).kindOf (C.zip T) λ_=>none) s1) :
  Inv (wE U P w K J base N l g f cd A j s H E) [] (start N I) H s1:=by
 have Q:C.length<=N.length:=by have:=cL List.length S.pre;rw[cC] at this;omega
 obtain⟨F,W,rfl,L⟩:=x.done;have t:∀ b:Ad,b∉(wE U P w K J base N l g f cd A j s H E).ex:=λb z=>absurd (show b∈([]:Aa Ad) from z) (by simp)
 refine⟨⟨o.mod,S.kind,rfl,rfl,bF _,λy z c F d=>?_,λy m=>?_,λy c _ h=>?_,λ_=>hd,Around.frames_deeper o.frames,.inr ⟨rfl,rfl⟩,λb z=>absurd z (t b),o.bs,o.bsz,λb _ _=>t b,λb z=>absurd z (t b),o.funs,o.frf⟩,
  rfl,o.bare,Un.kept L,⟨_,x.toInCall.ns,λi y v F d V=>?_⟩,λy c h=>⟨_,x.cell y c h⟩,o.hok.fresh (bF _),λy c h=>?_,λp B=>absurd (show p∈([]:Aa (Ad×Obj)) from B) (by simp),o.hok.kept L,?_⟩
 .exact name_of_addr x.apart (dQ F) (dQ d)
 .have m:g.names.lookup y=some .cell\/g.names.lookup y=some .free:=m;rcases m with m | m
  .exact Ki m
  .exact absurd rfl (S.nofree _ (dQ m))
 .exact hU (x.above y c (dQ h))
 .have G:i<I.length:=by
   unfold start at d;by_cases G:i<I.length
   .exact G
   .rw[dU (by simpa using G)] at d;rw[List.getElem?_replicate] at d;split at d<;>cases d
  have O:I[i]?=some v:=by
   unfold start at d;rw[fU (by simpa using G),bM] at d;cases e:I[i]? with
   | none=>rw[e] at d;cases d
   | some a=>rw[e] at d;cases d;rfl
  obtain⟨u,M,R⟩:=r.get O;have B:C[i]?=some y:=by
   rw[<- S.pre,List.getElem?_take_of_lt (by omega)];exact F
  have D:C.Nodup:=by rw[<- S.pre];exact S.nd.sublist (fG _ _)
  refine⟨u,R,?_⟩;rcases S.par y (aE B) with k | k
  .exact .inl ⟨k,Kt D B M k⟩
  .obtain⟨c,e⟩:=Ki (n:=s.heap.objs.size+1) k;refine .inr ⟨.inl k,c,e,?_⟩;have q:=x.cell y c e;rw[Ru D B M (by show g.names.lookup y≠_;rw[k];decide)] at q;exact q
 .exact o.hok.fresh (hU (x.above y c (dQ h)))
 .unfold start;show _=N.length;rw[aO,aA,cO];omega
theorem EX {P:Ah}{K:kQ}{kV:Ac}
(lk:K.lookup f=some ⟨oc,od,.func (PySem.W.fnOf name l C body g dV kV ab pm an p ct),ae⟩) (ac:PySem.W.codeIn K p l=true) (S:FnScope N ps g)
  (len:∀ T H Q E,sp T H Q E->T.length=ps.length)
  (aa:∀ (A:Around) (j:Aa Env) (s:Ae) (H:Hp) (T:Aa V) (Q:VK) (E:XK),Room k (A.deeper (envOfC l g s.heap.objs.size f p))->sp T H Q E ->∃ t,qO (wE CX P w K mg base N l g f p A j s H E) body t/\t { nx:=λ_ U=>Q .e U,rt:=Q } (start N T) H) :
  FnOk P w K mg base CX (k+1) f (PySem.W.fnOf name l C body g dV kV ab pm an p ct) ps sp:=by
 refine⟨len,λA j s H args us T Q E m h O r i=>?_⟩;have X:=len _ _ _ _ i;have F:K.In s.heap:=h.mod.kin.keeps λb o e=>(h.bs b o e).1
 have z:s.heap.NoLimit:=h.mod.nolimit.keeps λb o e=>(h.bs b o e).1
 have c:∀ y∈ps.zip us,g.names.lookup y.1=some .local\/(g.names.lookup y.1=some .cell/\((cellsFrom (s.heap.objs.size+1) g.names []).lookup y.1).isSome=true):=λ⟨n,v⟩ hy=>by
  rcases S.par n (kN hy).1 with q | q
  .exact .inl q
  .exact .inr ⟨q,PySem.W.cellsFrom_some _ _ _ (.inl q)⟩
 refine codeAny_call_function m.depth (F _ _ lk) rfl S.co S.gen rfl (PySem.W.codeRec_of F ac) (O _ _ _ _ ?_);refine wpAny_newFunctionEnv_cells S.kind c λL R G x=>?_
 subst R;refine⟨z.keeps x.toInCall.keep,codeAny_func ?_⟩;obtain⟨t,Z,Y⟩:=aa A j s H T Q E (m.deeper _) i;have I:Inv (wE CX P w K mg base N l g f p A j s H E) [] (start N T) H G:=BX S m.hd h X r x;refine dH (Z [] G (start N T) H _ I Y) (λM D d=>?_) λe D d=>d
 have fin:∀ {a:St} {U:Hp} {v:V} {u:Ac},Inv (wE CX P w K mg base N l g f p A j s H E) [] a U D->lA v u->Q v U->CE j P w H s Q u D :=
  λ{a U v u} J B q=>⟨v,U,J.os,J.bare,J.base,J.hok,B,q⟩
 cases M with
 | ret u =>
  obtain⟨v,a,U,J,B,q⟩:=d;exact fin J B q
 | next =>
  obtain⟨a,U,J,q⟩:=d;exact fin (v:=V.e) (u:=Value.none) J rfl q
 | brk =>
  obtain⟨_,_,_,q⟩:=d;exact False.elim q
 | cont =>
  obtain⟨_,_,_,q⟩:=d;exact False.elim q
section
variable {X:Cx}{id:String}
def Ld (r:Aa V->Hp->VK->Prop) (t:TA):TE:=λc H Q=>t c H λb a=>r b a Q
theorem G6 (C:mZ X (.builtin id) r) (J:Gl X x) (T:X.mg x=none) (hv:bootBuiltins x=some (.builtin id)) (o:PA X (e::l) t) (U:x ≠ "__name__" := by decide) (j:(x == ("__debug__" : Af))=false:=by decide)
  (g:StB X e l pos:=by exact {}):PE X (.Call (.Name x p) (e::l) [] pos) (Ld r t):=by
 intro c s d H Q I h;refine gG (xG I J T hv ?_ U j);exact PyProof.Rows.callWith_builtin1 (kY (o pos c s d H _ I h) λq n ⟨u,f,i,m,k⟩=>C c n d f u q Q i m k) g.a g.b
theorem Xc (C:mZ X (.type T) r) (J:Gl X x) (U:X.mg x=none) (hv:bootBuiltins x=some (.type T)) (o:PA X (e::l) t) (hn:x ≠ "__name__" := by decide) (j:(x == ("__debug__" : Af))=false:=by decide)
  (g:StB X e l pos:=by exact {}):PE X (.Call (.Name x p) (e::l) [] pos) (Ld r t):=by
 intro c s d H Q I h;refine gG (xG I J U hv ?_ hn j);exact eQ (kY (o pos c s d H _ I h) λq n ⟨u,f,i,m,k⟩=>C c n d f u q Q i m k) g.a g.b
end
end L2
namespace HT
open PySem PyProof.Rows
section
theorem cat_tup (J:IsTup s.heap t j.toArray) (I:IsTup s.heap b g.toArray) (o:j≠[])
  (r:g=[]->Q (.ref t) s) (C:g≠[]->Q (.ref s.heap.objs.size) { s with heap:=s.heap.push { cls:=.type "tuple",data:=.seq (j++g).toArray } })
  (l:j.length+g.length<=sizeLine):wpAny (model p w) A (binaryOp .Add (.ref t) (.ref b)) Q E s:=by
 obtain⟨⟨cls,m,data,v⟩,i,q,n,hd⟩:=id J;obtain⟨⟨k,c,data2,h⟩,a,d,u,f⟩:=id I;simp only at q hd d f;subst q hd d f;have e:j.toArray++g.toArray=(j++g).toArray:=by simp
 by_cases hw:g=[]
 .exact concat_meets ⟨_,i,rfl⟩ ⟨_,a,rfl⟩ noFill_tuple_add seq_tuple_add iS iP (iC _ _)
   (tuple_addW1 t b j.toArray g.toArray n u m c v h (by simpa using o) (by simp[hw])) ⟨i,a,r hw⟩
 .refine concat_meets ⟨_,i,rfl⟩ ⟨_,a,rfl⟩ noFill_tuple_add seq_tuple_add iS iP (iC _ _)
   (tuple_addW2 t b j.toArray g.toArray n u m c v h (by simpa using o) (by simpa using hw) (by rw[bE,bE];exact l)) ⟨i,a,?_⟩
  rw[e];exact C hw
noncomputable def sIx (n d:Nat):Ab Int->Nat
 | none=>d
 | some v=>if v<0 then (v+(n:Int)).toNat else min v.toNat n
theorem sIx_none (n d:Nat):sIx n d none=d:=rfl
theorem sIx_nat (n d k:Nat):sIx n d (some (k:Int))=min k n:=by
 show (if (k:Int)<0 then ((k:Int)+(n:Int)).toNat else min (k:Int).toNat n)=min k n;rw[aK (by omega),cY]
theorem sIx_le (n d:Nat) (hd:d<=n) (o:Ab Int):sIx n d o<=n:=by
 cases o with
 | none=>exact hd
 | some v =>
  show (if v<0 then (v+(n:Int)).toNat else min v.toNat n)<=n;by_cases a:v<0
  .rw[aZ a];omega
  .rw[aK a];exact Nat.min_le_right _ _
theorem Kl (v:Int) (n d:Nat):(if v<0 then max (v+(n:Int)) 0 else min v (n:Int))=((sIx n d (some v):Nat):Int):=by
 show (if v<0 then max (v+(n:Int)) 0 else min v (n:Int))=(((if v<0 then (v+(n:Int)).toNat else min v.toNat n):Nat):Int);by_cases a:v<0
 .simp only[aZ a];omega
 .simp only[aK a];omega
theorem Sf (lo g:Ab Int) (n:Nat):Builtin.Slice.sliceAdjust lo g 1 (n:Int)=(((sIx n 0 lo:Nat):Int),((sIx n n g:Nat):Int)):=by
 have a:¬ ((1:Int)<0):=by omega
 unfold Builtin.Slice.sliceAdjust;simp only[a,gM];refine Prod.ext ?_ ?_
 .cases lo with
  | none=>rfl
  | some v=>exact Kl v n 0
 .cases g with
  | none=>rfl
  | some v=>exact Kl v n n
theorem IR (i j:Nat):Builtin.Slice.slicePlaces (i:Int) (j:Int) 1=j-i:=by
 unfold Builtin.Slice.slicePlaces;have a:(1:Int)>0:=by omega
 simp only[a,fX,Int.ediv_one];split<;>omega
theorem J1 (p:IsPart v o) (h:Q o s):wpAny (model g w) A (Builtin.Slice.slicePartIndex v) Q E s:=by
 cases p with
 | none=>exact slicePart_none h
 | int i t=>exact slicePart_int h
theorem Y9 {p:Ad}{j l:Ac}{lo g:Ab Int}{n:Nat}{Q:Int×Int×Nat->Ae->Prop}(r:s.heap.IsSliceOf p j l .none) (C:IsPart j lo) (I:IsPart l g)
  (h:Q (((sIx n 0 lo:Nat):Int),1,sIx n n g-sIx n 0 lo) s):wpAny (model o w) A (Builtin.Slice.sliceApplied (.ref p) (pure (n:Int))) Q E s:=by
 obtain⟨os,b,c,a⟩:=id r;unfold Builtin.Slice.sliceApplied Builtin.Slice.sliceFields;refine aB (aB (dF b a (x:=j) rfl (aB (dF b a (x:=l) rfl (aB (dF b a (x:=.none) rfl (aH ?_)))))));refine aB (slicePart_none ?_);show wpAny _ _ (if ((1:Int) == 0)=true then _ else _) _ _ s;rw[aK (by decide)];refine aB (J1 C (aB (J1 I (aB (aH ?_)))));show wpAny _ _ (match Builtin.Slice.sliceAdjust lo g 1 (n:Int) with | (lo,g)=>pure (lo,(1:Int),Builtin.Slice.slicePlaces lo g 1)) _ _ s;rw[Sf lo g n];show wpAny _ _ (pure (((sIx n 0 lo:Nat):Int),(1:Int),Builtin.Slice.slicePlaces ((sIx n 0 lo:Nat):Int) ((sIx n n g:Nat):Int) 1)) _ _ s;rw[IR];exact aH h
theorem Sy (g:Array Ac) (i k:Nat):((List.range k).filterMap λ(m:Nat)=>g[((i:Int)+(m:Int)*1).toNat]?).toArray=((g.toList.drop i).take k).toArray:=by
 have e:(λ(m:Nat)=>g[((i:Int)+(m:Int)*1).toNat]?)=λm=>g[i+m]?:=by
  funext m
  have:((i:Int)+(m:Int)*1).toNat=i+m:=by omega
  rw[this]
 rw[e];have:=pick_run g i k;rw[List.filterMap_map] at this;have a:((λx=>g[x]?)∘λx=>i+x)=λm=>g[i+m]?:=rfl
 rw[a] at this;rw[this]
theorem getItem_tuple_cut {lo:Ab Int}(j:IsTup s.heap t items) (l:s.heap.IsSliceOf p J T .none) (C:IsPart J lo) (I:IsPart T g)
  (hw:¬ (sIx items.size 0 lo=0/\sIx items.size items.size g=items.size))
  (h:Q (.ref s.heap.objs.size) { s with heap:=s.heap.push { cls:=.type "tuple",data:=.seq ((items.toList.drop (sIx items.size 0 lo)).take (sIx items.size items.size g-sIx items.size 0 lo)).toArray } })
  (r:items.size<=sizeLine):wpAny (model o w) A (getItem (.ref t) (.ref p)) Q E s:=by
 have a:sizeOk (.seq ((items.toList.drop (sIx items.size 0 lo)).take (sIx items.size items.size g-sIx items.size 0 lo)).toArray):=by
  show ((items.toList.drop (sIx items.size 0 lo)).take (sIx items.size items.size g-sIx items.size 0 lo)).toArray.size<=sizeLine;rw[bE,cC,hV,eU];omega
 have i:sIx items.size items.size g<=items.size:=sIx_le _ _ (bF _) g;obtain⟨os,e,c,f⟩:=id l;have b:s.TypeIs (.ref p) "slice" := ⟨os,e,c⟩;unfold getItem
 try with_reducible refine dB ?_
 first | refine aB (aH ?_) | skip
 refine aB (wpAny_sequenceKey j.typeIs (by decide) ?_);refine aB (cI (name:=Str.ofString "__getitem__") j.typeIs gC (cW gC j.typeIs entry_tuple_getitem ?_ (args_tuple_getitem _ _)));show wpAny _ _ (Builtin.Tuple.tupleItemsOf (.ref t) >>= _) _ _ s;refine aB (tupleItemsOf_ j ?_);refine aB (fY b ?_);rw[aZ (by decide)];refine aB (Y9 l C I ?_);have d:¬ ((((sIx items.size 0 lo:Nat):Int) == 0&&(1:Int) == 1&&(sIx items.size items.size g-sIx items.size 0 lo) == items.size)=true):=by
  intro q;rw[cJ,cJ] at q;have k:((sIx items.size 0 lo:Nat):Int)=0:=eq_of_beq q.1.1;have n:sIx items.size items.size g-sIx items.size 0 lo=items.size:=eq_of_beq q.2;exact hw ⟨by omega,by omega⟩
 show wpAny _ _ (if (((sIx items.size 0 lo:Nat):Int) == 0&&(1:Int) == 1&&(sIx items.size items.size g-sIx items.size 0 lo) == items.size)=true then _ else _) _ _ s;rw[aK d,Sy]
 first
  | exact aB (m:=Builtin.Tuple.tupleExact _) (eT (aH ⟨_,rfl,aH h⟩) a)
  | exact aB (m:=Builtin.Tuple.tupleExact _) (eT (aB (aH (aH ⟨_,rfl,aH h⟩))) a)
  | exact aB (aB (m:=Builtin.Tuple.tupleExact _) (eT (aH (aH ⟨_,rfl,aH h⟩)) a))
  | exact aB (aB (m:=Builtin.Tuple.tupleExact _) (eT (aH ⟨_,rfl,aH h⟩) a))
end
end HT
namespace L2
open PySem PySem.Spec PyProof.Rows
abbrev TO:=St->Hp->(Ab Int->Hp->Prop)->Prop
def PO (X:Cx) (e:Ab Expr) (t:TO):Prop :=
 ∀ (a:Aa (Ad×Obj)) (s:Ae) (b:St) (H:Hp) (Q:Ab Int->Hp->Prop),Inv X a b H s->t b H Q ->
  wpAny (model X.prog X.w) X.A (evalPart e X.env) (λu d=>∃ o c,Inv X a b c d/\IsPart u o/\Q o c) X.xe s
def Q9:TO:=λ_ H Q=>Q none H
def K0 (t:TE):TO:=λb H Q=>t b H λx a=>∃ i,x = .int i/\Q (some i) a
section
variable {X:Cx}{lo:Ab Expr}
theorem Zq:PO X none Q9:=by
 intro a s b H Q I h;rw[evalPart_none];exact aH ⟨none,H,I,.none,h⟩
theorem V6 (h:PE X e g):PO X (some e) (K0 g):=by
 intro a s m H Q I hw;rw[evalPart_some];refine kY (h a s m H _ I hw) λu n b=>?_
 obtain⟨x,c,d,k,f⟩:=b;obtain⟨i,rfl,q⟩:=f;obtain⟨t,rfl⟩:=k;exact⟨some i,c,d,.int i t,q⟩
def uC (X:Cx) (r:V->Ab Int->Ab Int->Hp->VK->Prop):Prop :=
 ∀ (a:Aa (Ad×Obj)) (s:Ae) (f:St) (H:Hp) (x:V) (v d e:Ac) (lo b:Ab Int) (c:Ad) (Q:VK),Inv X a f H s->lA x v->s.heap.IsSliceOf c d e .none->IsPart d lo->IsPart e b->r x lo b H Q ->
  ∃ T id,typeLookup (.type T) "__getitem__" = pure (some (.builtin id))/\s.TypeIs v T/\wpAny (model X.prog X.w) X.A (getItem v (.ref c)) (EP X a f Q) X.xe s
theorem uC.or (h:uC X r) (j:uC X l):uC X (λx lo g H Q=>r x lo g H Q\/l x lo g H Q):=by
 intro a s m H x v i k lo g f Q I e b c d q;rcases q with q | q
 .exact h a s m H x v i k lo g f Q I e b c d q
 .exact j a s m H x v i k lo g f Q I e b c d q
def Tg (r:V->Ab Int->Ab Int->Hp->VK->Prop) (g:TE) (j th:TO):TE:=λa H Q=>g a H λx b=>j a b λl c=>th a c λu d=>r x l u d Q
theorem BN (p:uC X r) (j:PE X e U) (o:PO X lo tl) (C:PO X g th):PE X (.Subscript e (.Slice lo g none J) pos) (Tg r U tl th):=by
 intro a s f H Q I h;refine Subscript_ (kY (j a s f H _ I h) λv R d=>?_);obtain⟨x,n,y,P,M⟩:=d;refine wpAny_Slice (kY (o a R f n _ y M) λi S ⟨l,t,z,K,N⟩=>kY (C a S f t _ z N) λk c d=>?_);obtain⟨u,m,B,L,O⟩:=d;rw[evalPart_none];refine aH ?_;have D:Inv X a f m { c with heap:=c.heap.push { cls:=.type "slice",data:=.fields #[i,k,.none] } }:=B.kept (t':=c.toks) λb V q=>aQ _ q
 obtain⟨T,id,E,G,F⟩:=p a { c with heap:=c.heap.push { cls:=.type "slice",data:=.fields #[i,k,.none] } } f m x v i k l u c.heap.objs.size Q D P (Heap.IsSliceOf.new ..) K L O;show wpAny (model X.prog X.w) X.A (subscriptTail e (.Slice lo g none J) v (.ref c.heap.objs.size)) (EP X a f Q) X.xe { c with heap:=c.heap.push { cls:=.type "slice",data:=.fields #[i,k,.none] } };exact tail_any (ops:=[.ref c.heap.objs.size,v]) G E F (by with_unfolding_all rfl)
def wC (g:Aa V) (lo j:Ab Int):Aa V:=(g.drop (HT.sIx g.length 0 lo)).take (HT.sIx g.length g.length j-HT.sIx g.length 0 lo)
theorem Qy (g:Aa V) (lo j:Ab Int):(wC g lo j).length<=g.length:=by
 unfold wC;rw[cC,hV];omega
def Rw (K:kQ):V->Ab Int->Ab Int->Hp->VK->Prop:=λx lo c H Q=>∃ a b,x = .ref a/\lR K H a b /\
 ¬ (HT.sIx b.length 0 lo=0/\HT.sIx b.length b.length c=b.length)/\∀ p,H p=none->Q (.ref p) (upd H p (.t (wC b lo c)))
theorem EZ:uC X (Rw X.K):=by
 intro m s F H x v D E lo e B Q I z n w y h;obtain⟨a,d,rfl,u,hw,q⟩:=h;cases z;obtain⟨f,r,i,k⟩:=I.tuple u;have c:f.toArray.size=d.length:=by rw[bE];exact r.length.symm
 refine⟨"tuple",_,gC.lookup,i.typeIs,?_⟩;refine HT.getItem_tuple_cut i n w y (by rw[c];exact hw) ?_ (by rw[c];exact k);rw[c];refine⟨.ref s.heap.objs.size,_,I.laid (t':=s.toks) (o:=.t (wC d lo e)) (λb A q=>aQ _ q) (bF _) ?_,rfl,q _ (I.hok.fresh (bF _))⟩;exact⟨bS (Qy d lo e) k,_,(r.drop (HT.sIx d.length 0 lo)).take (HT.sIx d.length d.length e-HT.sIx d.length 0 lo),vW.new _ _⟩
def Mz (K:kQ):R2:=λx y H Q=>∃ a b d c,x = .ref a/\y = .ref b/\lR K H a d/\lR K H b c/\d≠[]/\d.length+c.length<=sizeLine /\
 (c=[]->Q (.ref a) H)/\(c≠[]->∀ p,H p=none->Q (.ref p) (upd H p (.t (d++c))))
theorem lC.nil_iff (r:lC j g):g=[]↔j=[]:=by
 cases r with
 | nil=>simp
 | cons _ _=>simp
theorem Sh:lH X (binaryOp .Add) (Mz X.K):=by
 intro i s P H x y v u Q I G L h;obtain⟨a,b,M,N,rfl,rfl,k,m,n,e,E,F⟩:=h;cases G;cases L;obtain⟨A,d,B,_⟩:=I.tuple k;obtain⟨f,c,D,_⟩:=I.tuple m;refine HT.cat_tup B D (λz=>n (d.nil_iff.mp z)) (λz=>⟨.ref a,H,I,rfl,E (c.nil_iff.mp z)⟩) (λz=>?_) (by rw[<- d.length,<- c.length];exact e);refine⟨.ref s.heap.objs.size,_,I.laid (t':=s.toks) (o:=.t (M++N)) (λb O q=>aQ _ q) (bF _) ?_,rfl,F (λw=>z (c.nil_iff.mpr w)) _ (I.hok.fresh (bF _))⟩;exact⟨by rw[aO];exact e,_,d.append c,vW.new _ _⟩
end
noncomputable def rW (n:Nat) (i:Int):Ab Nat:=if 0<=i then (if i<n then some i.toNat else none) else if -(n:Int)<=i then some (i+n).toNat else none
def nH {l:Type}(g:Aa l) (i:Int):Ab l:=(rW g.length i).bind λj=>g[j]?
theorem Ph (h:rW n i=some j):seqIndex? i n=some j/\j<n/\-(n:Int)<=i/\i<n:=by
 unfold rW at h;by_cases b:0<=i
 .rw[aZ b] at h;by_cases a:i<n
  .rw[aZ a] at h;have e:i.toNat=j:=bT h;exact⟨by rw[seqIndex_of b a,e],by omega,by omega,a⟩
  .rw[aK a] at h;cases h
 .rw[aK b] at h;by_cases a:-(n:Int)<=i
  .rw[aZ a] at h;have e:(i+n).toNat=j:=bT h;exact⟨by rw[seqIndex_neg (by omega) a,e],by omega,a,by omega⟩
  .rw[aK a] at h;cases h
theorem Io (h:nH g i=some v):∃ j,seqIndex? i g.length=some j/\g[j]?=some v/\j<g.length/\-(g.length:Int)<=i/\i<g.length:=by
 unfold nH at h;cases e:rW g.length i with
 | none=>rw[e] at h;cases h
 | some j =>
  rw[e] at h;obtain⟨a,b,c,d⟩:=Ph e;exact⟨j,a,h,b,c,d⟩
theorem pL {l:Type}{g:Aa l}{j:Nat}{v:l}(h:g[j]?=some v):nH g (j:Int)=some v:=by
 have a:j<g.length:=(aL.mp h).1;have e:rW g.length (j:Int)=some j:=by
  unfold rW;rw[aZ (by omega),aZ (by omega)];simp
 unfold nH;rw[e];exact h
theorem GP (g:Aa j) (v:j):nH (g++[v]) (-1)=some v:=by
 have a:(g++[v]).length=g.length+1:=by simp
 have e:rW (g++[v]).length (-1)=some g.length:=by
  unfold rW;rw[a,aK (by decide),aZ (by omega)]
  congr 1
  omega
 unfold nH;rw[e];show (g++[v])[g.length]?=some v;simp
def xI (b:Expr):Prop:=∀ o i,subscripted b false o i=operate [o,i] (getItem o i)
def tH (X:Cx) (r:R2):Prop :=
 ∀ (value slice:Expr) (a:Aa (Ad×Obj)) (s:Ae) (b:St) (H:Hp) (x y:V) (v u:Ac) (Q:VK),Inv X a b H s->lA x v->lA y u->r x y H Q ->
  subscripted slice false v u=operate [v,u] (getItem v u)->wpAny (model X.prog X.w) X.A (subscriptTail value slice v u) (EP X a b Q) X.xe s
def Fl (X:Cx) (id:String) (r:V->Aa V->Hp->VK->Prop):Prop :=
 ∀ (a:Aa (Ad×Obj)) (s:Ae) (d:St) (H:Hp) (x:V) (c:Aa V) (v:Ac) (b:Aa Ac) (Q:VK),Inv X a d H s->lA x v->lC c b->r x c H Q ->
  wpAny (model X.prog X.w) X.A (call (.builtin id) (v::b)) (EP X a d Q) X.xe s
section
variable {X:Cx}
theorem tH.or (h:tH X r) (g:tH X j):tH X (λx y H Q=>r x y H Q\/j x y H Q):=by
 intro value slice a s e H x y v u Q I c d q b;rcases q with q | q
 .exact h value slice a s e H x y v u Q I c d q b
 .exact g value slice a s e H x y v u Q I c d q b
theorem Nb (l:tH X r) (g:PE X a p) (j:PE X b C) (o:xI b):PE X (.Subscript a b pos) (yZ r p C):=by
 intro c s m H Q I h;exact Subscript_ (F5 g j I h λv u k x y d e f i q=>l a b c k m d x y v u Q e f i q (o _ _))
def Oe (K:kQ):R2:=λx y H Q=>∃ p a i v,x = .ref p/\y = .int i/\lG K H p a/\nH a i=some v/\Q v H
def J7 (K:kQ):R2:=λx y H Q=>∃ p a i v,x = .ref p/\y = .int i/\lR K H p a/\nH a i=some v/\Q v H
def M7:R2:=λx y H Q=>∃ z i c,x = .str z/\y = .int i/\z.length<=sizeLine/\nH z.cps.toList i=some c/\Q (.str ⟨#[c]⟩) H
theorem GS:tH X (Oe X.K):=by
 intro value slice a s A H x y v u Q I M N h n;obtain⟨p,V,i,z,rfl,rfl,L,F,q⟩:=h;cases M;obtain⟨t,rfl⟩:=N;obtain⟨d,r,e,S⟩:=I.list L;obtain⟨j,b,B,P,D,E⟩:=Io F;obtain⟨w,k,f⟩:=r.get B;have G:=r.length;have R:=wP;have fin:EP X a A Q w s:=⟨z,H,I,f,q⟩;by_cases m:0<=i
 .have c:i.toNat=j:=by
   rw[seqIndex_of m E] at b;exact bT b
  exact item_listR e.isList m (by omega) (by rw[c];simpa using k) fin n
 .have c:(i+(d.toArray.size:Int)).toNat=j:=by
   rw[seqIndex_neg (by omega) D] at b;rw[bE,<- G];exact bT b
  exact subscriptTail_builtinR (x:=w) e.isList.typeIs slot_list_getitem.lookup
   (wpAny_getItem_list_neg (Q:=λr O=>r=w/\EP X a A Q r O) e.isList (by omega) (by rw[bE]<;>omega) (by omega) (by rw[c];simpa using k) ⟨rfl,fin⟩) n
theorem Y7:tH X (J7 X.K):=by
 intro value slice a s d H x y v u Q I E F h B;obtain⟨p,R,i,z,rfl,rfl,A,m,q⟩:=h;cases E;obtain⟨t,rfl⟩:=F;obtain⟨D,r,c,P⟩:=I.tuple A;obtain⟨j,f,k,L,M,N⟩:=Io m;obtain⟨w,e,b⟩:=r.get k;have n:=r.length;have O:=wP;have fin:EP X a d Q w s:=⟨z,H,I,b,q⟩;exact subscriptTail_builtinR (x:=w) c.typeIs slot_tuple_getitem.lookup
  (getItem_tuple (j:=j) (Q:=λr G=>r=w/\EP X a d Q r G) c (by omega) (by omega) (by rw[bE,<- n];exact f) (by simpa using e) ⟨rfl,fin⟩) B
theorem IN:tH X M7:=by
 intro value slice b s L H x y v u Q I B D h A;obtain⟨z,i,c,rfl,rfl,G,n,q⟩:=h;obtain⟨t,rfl⟩:=B;obtain⟨K,rfl⟩:=D;obtain⟨j,a,f,E,k,m⟩:=Io n;have w:z.cps.toList.length=z.length:=by simp[Str.length]
 rw[w] at a k m;have F:=wP;exact tail_any (typeIs_str s z t) slot_str_getitem.lookup (getItem_str (c:=c) (by
  have d:decide (i < -(2 ^ 63:Int))=false:=aP (by omega);have e:decide (i>=2 ^ 63)=false:=aP (by omega);rw[d,e,Bool.or_false]) (by rw[a];simpa using f) ⟨.str ⟨#[c]⟩,H,I.tok _,⟨_,rfl⟩,q⟩) A
def Qm (K:kQ):R2:=λx y H Q=>Oe K x y H Q\/J7 K x y H Q\/M7 x y H Q
theorem EY:tH X (Qm X.K):=GS.or (Y7.or IN)
theorem HR (g:Aa Ac) (n j:Nat) (u:Ac):Obj.mapSeq (·.setIfInBounds j u) { cls:=.type "list",data:=.seq g.toArray n }={ cls:=.type "list",data:=.seq (g.set j u).toArray n }:=by
 simp[Obj.mapSeq]
theorem Inv.lst {j:Aa (Ad×Obj)}{C:St}{H:Hp}{s:Ae}{p:Ad}{o:Aa V}(I:Inv X j C H s) (h:H p=some (.l o)) :
  ∃ (g:Aa Ac) (n:Nat),lC o g/\s.heap.get? p=some { cls:=.type "list",data:=.seq g.toArray n }/\o.length<=sizeLine:=by
 obtain⟨z,g,n,r,e⟩:=I.hok p _ h;exact⟨g,n,r,e,z⟩
theorem Inv.lstUpd {j:Aa Ac}(I:Inv X o σ H s) (h:H p=some (.l xs))
  (U:s.heap.get? p=some { cls:=.type "list",data:=.seq j.toArray n }) (C:f { cls:=.type "list",data:=.seq j.toArray n }={ cls:=.type "list",data:=.seq g.toArray J }) (r:lC T g) (hz:T.length<=sizeLine) (t:Nat) :
  Inv X o σ (upd H p (.l T)) { s with heap:=s.heap.update p f,toks:=t }:=by
 have e:(s.heap.update p f).get? p=some { cls:=.type "list",data:=.seq g.toArray J }:=by
  rw[jA f U (by rw[C]<;>rfl),C]
 refine I.write (x:=p) (e:=p) (by rw[h];trivial) (.inl rfl) (λb u a q=>(Heap.get?_update_other _ _ (eR a)).trans q) ⟨_,e⟩ ?_;exact⟨hz,g,J,r,e⟩
def Mi:V->V->V->Hp->(Hp->Prop)->Prop:=λo i v H Q=>∃ p a k j,o = .ref p/\i = .int k/\H p=some (.l a)/\rW a.length k=some j/\Q (upd H p (.l (a.set j v)))
theorem HB:Ju X Mi:=by
 intro b s K H o i v O N u Q I E D F h;obtain⟨p,G,k,j,rfl,rfl,z,A,q⟩:=h;cases E;obtain⟨t,rfl⟩:=D;obtain⟨a,n,r,f,B⟩:=I.lst z;obtain⟨c,L,x,y⟩:=Ph A;have e:=r.length;have M:=wP;have m:Inv X b K (upd H p (.l (G.set j v))) { s with heap:=s.heap.update p (Obj.mapSeq (·.setIfInBounds j u)) } :=
  I.lstUpd z f (HR a n j u) (r.set F j) (by rw[bY];exact B) s.toks
 by_cases w:0<=k
 .have d:k.toNat=j:=by
   rw[seqIndex_of w y] at c;exact bT c
  exact PySem.W.ki_setAt f w (by omega) (by rw[bE,<- e];exact y) (by rw[d];exact⟨_,m,q⟩)
 .have d:(k+(a.toArray.size:Int)).toNat=j:=by
   rw[seqIndex_neg (by omega) x] at c;rw[bE,<- e];exact bT c
  exact PySem.W.ki_setBack f (by omega) (by rw[bE,<- e];exact x) (by omega) (by rw[d];exact⟨_,m,q⟩)
theorem T4 (lo g:Ab Int) (n:Nat):(sliceBounds lo g none n).1=((HT.sIx n 0 lo:Nat):Int)/\(sliceBounds lo g none n).2.1=((HT.sIx n n g:Nat):Int)/\(sliceBounds lo g none n).2.2=1:=by
 refine⟨?_,?_,rfl⟩
 .cases lo with
  | none=>simp[sliceBounds,HT.sIx]
  | some i =>
   simp only[sliceBounds,HT.sIx,Option.getD_none,show (1:Int)>0 by decide,fX];by_cases h:i<0
   .simp only[h,fX]<;>omega
   .simp only[h,gM]<;>omega
 .cases g with
  | none=>simp[sliceBounds,HT.sIx]
  | some i =>
   simp only[sliceBounds,HT.sIx,Option.getD_none,show (1:Int)>0 by decide,fX];by_cases h:i<0
   .simp only[h,fX]<;>omega
   .simp only[h,gM]<;>omega
theorem Zu (g:Aa Ac) (lo j:Ab Int):slicePick g.toArray lo j none=((g.drop (HT.sIx g.length 0 lo)).take (HT.sIx g.length g.length j-HT.sIx g.length 0 lo)).toArray:=by
 obtain⟨a,b,c⟩:=T4 lo j g.toArray.size;unfold slicePick;rw[a,b,c];simp only[sliceRange_one,pick_run,bE]<;>rfl
def J8 (K:kQ):V->Ab Int->Ab Int->Hp->VK->Prop:=λx lo c H Q=>∃ a b,x = .ref a/\lG K H a b/\∀ p,H p=none->Q (.ref p) (upd H p (.l (wC b lo c)))
theorem BS:uC X (J8 X.K):=by
 intro i s E H x v B D lo e A Q I y k u w h;obtain⟨a,c,rfl,m,q⟩:=h;cases y;obtain⟨t,r,f,n⟩:=I.list m;have d:=r.length;refine⟨"list",_,slot_list_getitem.lookup,f.isList.typeIs,?_⟩;refine wpAny_getItem_list_slice f.isList k u w .none (by simp) ?_ (by rw[bE]<;>omega);rw[Zu,<- d];refine⟨.ref s.heap.objs.size,_,I.laid (t':=s.toks) (o:=.l (wC c lo e)) (λb z q=>aQ _ q) (bF _) ?_,rfl,q _ (I.hok.fresh (bF _))⟩;exact⟨bS (Qy c lo e) n,_,0,(r.drop (HT.sIx c.length 0 lo)).take (HT.sIx c.length c.length e-HT.sIx c.length 0 lo),bL _ rfl⟩
def pF:V->Bool
 | .e=>true
 | .b _=>true
 | .int _=>true
 | .str _=>true
 | _=>false
noncomputable def pH:V->V->Bool
 | .e,.e=>true
 | .b a,.b b=>a == b
 | .b a,.int b=>(if a then 1 else 0) == b
 | .int a,.b b=>a == (if b then 1 else 0)
 | .int a,.int b=>a == b
 | .str a,.str b=>a == b
 | _,_=>false
theorem Jh (l:lA y u) (g:lA x v) (o:pF y=true) (j:pF x=true):SeqAt.EqAt A s u v (pH y x):=by
 cases y with
 | e =>
  cases l;cases x with
  | e=>cases g;exact SeqAt.EqAt.same _
  | b b=>cases g;exact SeqAt.EqAt.none_bool b
  | int b=>obtain⟨t,rfl⟩:=g;exact SeqAt.EqAt.none_int b t
  | str b=>obtain⟨t,rfl⟩:=g;exact SeqAt.EqAt.none_str b t
  | _=>exact absurd (show false=true from j) bP
 | b a =>
  cases l;cases x with
  | e=>cases g;exact SeqAt.EqAt.bool_none a
  | b b=>cases g;exact SeqAt.EqAt.bool_bool a b
  | int b=>obtain⟨t,rfl⟩:=g;exact SeqAt.EqAt.bool_int a b t
  | str b=>obtain⟨t,rfl⟩:=g;exact SeqAt.EqAt.bool_str a b t
  | _=>exact absurd (show false=true from j) bP
 | int a =>
  obtain⟨c,rfl⟩:=l;cases x with
  | e=>cases g;exact SeqAt.EqAt.int_none a c
  | b b=>cases g;exact SeqAt.EqAt.int_bool a c b
  | int b=>obtain⟨t,rfl⟩:=g;exact SeqAt.EqAt.int_int a c b t
  | str b=>obtain⟨t,rfl⟩:=g;exact SeqAt.EqAt.int_str a c b t
  | _=>exact absurd (show false=true from j) bP
 | str a =>
  obtain⟨c,rfl⟩:=l;cases x with
  | e=>cases g;exact SeqAt.EqAt.str_none a c
  | b b=>cases g;exact SeqAt.EqAt.str_bool a c b
  | int b=>obtain⟨t,rfl⟩:=g;exact SeqAt.EqAt.str_int a c b t
  | str b=>obtain⟨t,rfl⟩:=g;exact SeqAt.EqAt.str_str a c b t
  | _=>exact absurd (show false=true from j) bP
 | _=>exact absurd (show false=true from o) bP
def qY (x:V) (u:Ac):Bool:=match u with
 | .none=>pH .e x
 | .bool b=>pH (.b b) x
 | .int i _=>pH (.int i) x
 | .str z _=>pH (.str z) x
 | _=>false
theorem Kg (r:lA y u) (f:pF y=true):qY x u=pH y x:=by
 cases y with
 | e=>cases r;rfl
 | b b=>cases r;rfl
 | int i=>obtain⟨t,rfl⟩:=r;rfl
 | str z=>obtain⟨t,rfl⟩:=r;rfl
 | _=>exact absurd (show false=true from f) bP
theorem A6:∀ {g:Aa V}{j:Aa Ac},lC g j->g.all pF=true->j.any (qY x)=g.any λy=>pH y x
 | _,_,.nil,_=>rfl
 | y::g,u::j,.cons r t,f=>by
  rw[jL,cJ] at f;rw[fO,fO,Kg r f.1,A6 t f.2]
theorem Bn (o:lA x v) (l:pF x=true):∀ {j:Aa V}{g:Aa Ac},lC j g->j.all pF=true->∀ u∈g,SeqAt.EqAt A s u v (qY x u)
 | _,_,.nil,_=>λu a=>by cases a
 | y::j,u::g,.cons r t,f=>λb a=>by
  rw[jL,cJ] at f;rcases aI.mp a with rfl | a
  .rw[Kg r f.1];exact Jh r o f.1 l
  .exact Bn o l t f.2 b a
def zD (x:V) (g:Aa V):Bool:=g.any λy=>pH y x
def Em (K:kQ) (neg:Bool):R2:=λx y H Q=>∃ p a,y = .ref p/\(lG K H p a\/lR K H p a)/\pF x=true/\a.all pF=true/\Q (.b (if neg then !zD x a else zD x a)) H
theorem Tn:lH X (compareOp .In) (Em X.K false):=by
 intro f s t H x y v u Q I i m h;obtain⟨p,n,rfl,c,e,fs,q⟩:=h;cases m;rcases c with c | c
 .obtain⟨a,r,d,k⟩:=I.list c;refine SeqAt.in_listAt (qY x) d.isList (λw hw=>Bn i e r fs w (by simpa using hw)) ⟨.b _,H,I,rfl,?_⟩;rw[show a.toArray.any (qY x)=a.any (qY x) by simp,A6 r fs];exact q
 .obtain⟨a,r,d,k⟩:=I.tuple c;refine SeqAt.in_tupleAt (qY x) d (λw hw=>Bn i e r fs w (by simpa using hw)) ⟨.b _,H,I,rfl,?_⟩;rw[show a.toArray.any (qY x)=a.any (qY x) by simp,A6 r fs];exact q
theorem K5:lH X (compareOp .NotIn) (Em X.K true):=by
 intro f s t H x y v u Q I i m h;obtain⟨p,n,rfl,c,e,fs,q⟩:=h;cases m;rcases c with c | c
 .obtain⟨a,r,d,k⟩:=I.list c;refine SeqAt.notIn_listAt (qY x) d.isList (λw hw=>Bn i e r fs w (by simpa using hw)) ⟨.b _,H,I,rfl,?_⟩;rw[show a.toArray.any (qY x)=a.any (qY x) by simp,A6 r fs];exact q
 .obtain⟨a,r,d,k⟩:=I.tuple c;refine SeqAt.notIn_tupleAt (qY x) d (λw hw=>Bn i e r fs w (by simpa using hw)) ⟨.b _,H,I,rfl,?_⟩;rw[show a.toArray.any (qY x)=a.any (qY x) by simp,A6 r fs];exact q
theorem AG:mZ X (.builtin "len") (λj H Q=>∃ p g,j=[.ref p]/\(lG X.K H p g\/lR X.K H p g)/\Q (.int g.length) H):=by
 intro f s t H j n Q I r h;obtain⟨p,g,rfl,b,q⟩:=h;obtain⟨u,rfl,k⟩:=qH r;cases k;have m:=wP;rcases b with b | b
 .obtain⟨c,e,d,i⟩:=I.list b;have a:=e.length;exact Calls.call_len_list d.isList (by simp only[bE]<;>omega) ⟨.int g.length,H,I.tok _,⟨s.toks+1,by rw[bE,a]⟩,q⟩
 .obtain⟨c,e,d,i⟩:=I.tuple b;have a:=e.length;exact len_tuple d (by simp only[bE]<;>omega) ⟨.int g.length,H,I.tok _,⟨s.toks+1,by rw[bE,a]⟩,q⟩
theorem Kz:mZ X (.builtin "len") (λg H Q=>∃ z,g=[.str z]/\z.length<=sizeLine/\Q (.int z.length) H):=by
 intro a s e H g d Q I r h;obtain⟨z,rfl,c,q⟩:=h;obtain⟨u,rfl,t,rfl⟩:=qH r;have b:=wP;exact len_str (by omega) ⟨.int z.length,H,I.tok _,⟨_,rfl⟩,q⟩
theorem mZ.or (h:mZ X f r) (j:mZ X f l):mZ X f (λg H Q=>r g H Q\/l g H Q):=by
 intro a s d H g c Q I b q;rcases q with q | q
 .exact h a s d H g c Q I b q
 .exact j a s d H g c Q I b q
theorem yP:mZ X (.type "list") (λj H Q=>∃ p g,j=[.ref p]/\(lG X.K H p g\/lR X.K H p g)/\∀ l,H l=none->Q (.ref l) (upd H l (.l g))):=by
 intro v s D H j E Q I r h;obtain⟨p,g,rfl,k,q⟩:=h;obtain⟨u,rfl,B⟩:=qH r;cases B;have fin:∀ (a:Aa Ac),lC g a->g.length<=sizeLine->∀ (c:Ag) (d:Nat),(∀ b A,s.heap.get? b=some A->c.get? b=some A) ->
   c.get? s.heap.objs.size=some { cls:=.type "list",dict:=none,data:=.seq a.toArray d,slots:=#[] }->EP X v D Q (.ref s.heap.objs.size) { s with heap:=c }:=λa f m c d t e =>
  ⟨.ref s.heap.objs.size,_,I.laid (t':=s.toks) t (bF _) (show mW X.prog X.w _ c _ (.l g) from ⟨m,a,d,f,e⟩),rfl,q _ (I.hok.fresh (bF _))⟩
 rcases k with k | k
 .obtain⟨a,f,z,m⟩:=I.list k;have i:=f.length;obtain⟨o,y,x,n,hd⟩:=z.isList;exact call_list_seq p (.inl rfl) y x hd (λc d t e=>fin a f m c d t e) (by simp only[bE]<;>omega)
 .obtain⟨a,f,z,m⟩:=I.tuple k;have i:=f.length;obtain⟨o,y,x,n,hd⟩:=z;exact call_list_seq p (.inr rfl) y x hd (λc d t e=>fin a f m c d t e) (by simp only[bE]<;>omega)
theorem pT:mZ X (.type "tuple") (λj H Q=>∃ p g,j=[.ref p]/\((lG X.K H p g/\∀ l,H l=none->Q (.ref l) (upd H l (.t g)))\/(lR X.K H p g/\Q (.ref p) H))):=by
 intro a s x H j B Q I r h;obtain⟨p,g,rfl,h⟩:=h;obtain⟨u,rfl,A⟩:=qH r;cases A;rcases h with⟨f,q⟩ | ⟨f,q⟩
 .obtain⟨c,k,i,v⟩:=I.list f;have n:=k.length;refine call_tuple_list i.isList (λd z=>?_) (by simp only[bE]<;>omega);have m:Inv X a x H { s with heap:=d }:=I.kept (t':=s.toks) z;have y:Inv X a x (upd H d.objs.size (.t g)) { s with heap:=d.push { cls:=.type "tuple",data:=.seq c.toArray } } :=
   m.laid (t':=s.toks) (λb o e=>aQ _ e) (bF _) (show mW X.prog X.w _ _ _ (.t g) from ⟨v,c,k,vW.new _ _⟩)
  exact⟨.ref d.objs.size,_,y,rfl,q _ (m.hok.fresh (bF _))⟩
 .obtain⟨c,k,i,v⟩:=I.tuple f;exact call_tuple_same i ⟨.ref p,H,I,rfl,q⟩
def Cv (K:kQ) (T:String) (x:V) (H:Hp):Prop:=match x with
 | .str _=>T = "str"
 | .int _=>T = "int"
 | .ref p=>(T = "list" /\ ∃ b,lG K H p b)\/(T = "tuple" /\ ∃ o,K.lookup p=some o/\o.cls = .type "tuple" /\ o.dict=none) \/
   (T = "dict" /\ ((∃ a,Rd H p (.k a))\/∃ a,H p=some (.T a)))\/(T = "set" /\ ∃ S n,H p=some (.set S n))
 | _=>False
theorem FN (I:Inv X j l H s) (r:lA x v) (ty:Cv X.K T x H) :
  s.TypeIs v T/\∀ a,v = .ref a->∃ g,s.heap.get? a=some g/\g.dict=none:=by
 cases x with
 | str z =>
  obtain⟨t,rfl⟩:=r;cases (show T = "str" from ty);exact⟨typeIs_str s z t,λ_ e=>nomatch e⟩
 | int i =>
  obtain⟨t,rfl⟩:=r;cases (show T = "int" from ty);exact⟨typeIs_int s i t,λ_ e=>nomatch e⟩
 | ref p =>
  cases r;rcases ty with⟨rfl,A,u⟩ | ⟨rfl,o,b,q,hd⟩ | ⟨rfl,b⟩ | ⟨rfl,S,n,b⟩
  .obtain⟨y,_,m,_⟩:=I.list u;refine⟨m.isList.typeIs,λa e=>?_⟩;cases e;obtain⟨o,n,e,c,hd,_⟩:=m;exact⟨o,e,hd⟩
  .refine⟨⟨o,I.kIn p o b,q⟩,λa e=>?_⟩;cases e;exact⟨o,I.kIn _ o b,hd⟩
  .have z:∃ o,s.heap.get? p=some o/\o.ExactDict:=by
    rcases b with⟨f,b⟩ | ⟨f,b⟩
    .obtain⟨_,_,_,_,o,_,_,e,d,_⟩:=(show mW X.prog X.w H s.heap p (.k f) from Rd.ok b I.hok);exact⟨o,e,d⟩
    .obtain⟨_,_,_,_,o,_,_,e,d,_⟩:=I.hok p _ b;exact⟨o,e,d⟩
   obtain⟨o,e,d⟩:=z;refine⟨⟨o,e,d.1⟩,λa h=>?_⟩;cases h;exact⟨o,e,d.2.1⟩
  .obtain⟨o,_,_,_,e,d,_⟩:=I.hok p _ b;refine⟨⟨o,e,d.1⟩,λa h=>?_⟩;cases h;exact⟨o,e,d.2.1⟩
 | _=>exact False.elim ty
def S0 (K:kQ) (T:String) (r:V->Aa V->Hp->VK->Prop) (g:TE) (t:TA):TE:=λb H Q=>g b H λx a=>Cv K T x a/\t b a λd c=>r x d c Q
variable {id:String}
structure MtB (X:Cx) (o:Expr) (name:Str) (apos:Pos) (e:Expr) (es:List Expr) (cpos:Pos):Prop extends StB X e es cpos where
 c:attributeBase o name X.env (eval o X.env)=eval o X.env:=by rfl
 d:((backTo cpos (starEach (e::es) X.env)).all (λx=>!x.1)&&(backToKw cpos (keywordEach [] X.env)).all (λx=>x.1.isSome)&&decide ((e::es).length+([]:List Keyword).length+(if ([]:List Keyword).isEmpty then 0 else 1)<30))=true:=by rfl
 f:(apos.endLine == cpos.line)=true:=by rfl
theorem U3 (pa:PlainAttrs T) (slot:Slot T name id) (p:typeOf (.builtin id)=pure (.type "method_descriptor")) (J:Fl X id r) (U:PE X o to) (C:PA X (e::l) t)
  (j:MtB X o name apos e l g:=by exact {}) :
  PE X (.Call (.Attribute o name apos) (e::l) [] g) (S0 X.K T r to t):=by
 intro i s m H Q I h;refine wpAny_Call_method_late j.c j.d j.f rfl (kY (U i s m H _ I h) λv G k=>?_);obtain⟨x,w,n,u,ty,D⟩:=k;obtain⟨A,B⟩:=FN n u ty;refine⟨T,id,pa,slot,p,A,B,?_⟩;have q:=C g i G m w _ n D;rw[j.a] at q |-;refine Calls.callWith_builtin (by show (false||(backTo g (starEach l X.env)).any (·.1))=false;rw[j.b]<;>rfl) (Calls.evalArgs_plain ?_);exact kY q λM L ⟨N,y,z,F,E⟩=>J i L m y x N v M Q z u F E
/- xs.append(e),list.index on a module's tuple .. are Fl facts of 06m -/
end
def Is (X:Cx) (id:String) (r:V->Aa V->Hp->VK->Prop):Prop :=
 ∀ (a:Aa (Ad×Obj)) (s:Ae) (d:St) (H:Hp) (x:V) (c:Aa V) (v:Ac) (b:Aa Ac) (Q:VK),Inv X a d H s->lA x v->lC c b->r x c H Q ->
  wpAny (model X.prog X.w) X.A (call (.builtin id) (v::b)) (EP X a d Q) X.xe s
theorem lC.one:∀ {x:V}{g:Aa Ac},lC [x] g->∃ u,g=[u]/\lA x u
 | _,_,.cons r .nil=>⟨_,rfl,r⟩
theorem lC.eraseIdx:∀ {j:Aa V}{g:Aa Ac}(i:Nat),lC j g->lC (j.eraseIdx i) (g.eraseIdx i)
 | _,_,_,.nil=>.nil
 | _,_,0,.cons _ t=>t
 | _,_,i+1,.cons r t=>.cons r (lC.eraseIdx i t)
theorem lC.rep (h:lC j g):∀ k:Nat,lC (List.replicate k j).flatten (List.replicate k g).flatten
 | 0=>.nil
 | k+1=>by
  rw[cU,cU,fZ,fZ];exact lC.append h (lC.rep h k)
theorem Fn:∀ (l:Aa g) (i:Nat),(l.eraseIdx i).length<=l.length
 | [],_=>bF _
 | _::_,0=>jN _
 | _::r,i+1=>jH (Fn r i)
theorem L7 (j:Aa Ac):∀ (k:Nat) (g:Aa Ac),
  List.foldl (λl o=>l++o) g.toArray (List.replicate k j.toArray)=(g++(List.replicate k j).flatten).toArray
 | 0,g=>by simp
 | k+1,g=>by
  have e:g.toArray++j.toArray=(g++j).toArray:=by simp
  have a:(g++j)++(List.replicate k j).flatten=g++(List.replicate (k+1) j).flatten:=by
   rw[cU,fZ,bB]
  rw[<- a,<- L7 j k (g++j),<- e,cU,List.foldl_cons]
section
variable {X:Cx}
theorem Inv.lset {g:Aa Ac}(I:Inv X j T H s) (p:H l=some (.l xs))
  (e:s.heap.get? l=some { cls:=.type "list",data:=.seq g.toArray n }) (r:f g.toArray=its'.toArray) (C:lC o its') (J:o.length<=sizeLine) :
  Inv X j T (upd H l (.l o)) { s with heap:=s.heap.update l (Obj.mapSeq f),toks:=U }:=by
 have q:=PySem.IsL.update e f;rw[r] at q;refine I.write (x:=l) (e:=l) (by rw[p];exact trivial) (.inl rfl) (λc u a b=>(Heap.get?_update_other s.heap (Obj.mapSeq f) (eR a)).trans b) ⟨_,q⟩ ?_;exact⟨J,its',_,C,q⟩
theorem Inv.lnew (I:Inv X g p H s) (j:lC ys its) (o:ys.length<=sizeLine) :
  Inv X g p (upd H s.heap.objs.size (.l ys)) { s with heap:=s.heap.push { cls:=.type "list",data:=.seq its.toArray },toks:=t' } :=
 I.laid (λ_ _ q=>aQ _ q) (bF _) ⟨o,its,0,j,bL _ rfl⟩
theorem Inv.fresh (I:Inv X g j H s):H s.heap.objs.size=none:=I.hok.fresh (bF _)
theorem Inv.lstM (I:Inv X o C H s) (p:H l=some (.l j)):j.length<=sizeLine/\∃ (g:Aa Ac) (n:Nat),lC j g/\j.length=g.length/\s.heap.get? l=some { cls:=.type "list",data:=.seq g.toArray n }:=by
 obtain⟨z,g,n,r,e⟩:=I.hok l _ p;exact⟨z,g,n,r,r.length,e⟩
theorem Tt (h:n<=sizeLine):Builtin.List.listTooLong n=false:=by
 unfold Builtin.List.listTooLong;exact aP (by omega)
end
section
variable {X:Cx}
def Np:V->Aa V->Hp->VK->Prop:=λx b H Q=>∃ l a y,x = .ref l/\b=[y]/\H l=some (.l a)/\a.length<sizeLine/\Q .e (upd H l (.l (a++[y])))
theorem sO:Is X "list.append" Np:=by
 intro c s B H x w v t Q I i f h;obtain⟨l,A,y,rfl,rfl,b,m,q⟩:=h;cases i;obtain⟨u,rfl,d⟩:=f.one;obtain⟨z,a,n,r,k,e⟩:=I.lstM b;refine jI F.slot_list_append ⟨_,e,rfl⟩ F.entry_list_append (F.args_list_append_2 _ _) (PySem.list_append l a.toArray n u (by rw[bE];omega)) ⟨e,?_⟩;refine⟨.e,_,I.lset (its':=a++[u]) b e (by simp) (r.append (.cons d .nil)) ?_,rfl,q⟩;rw[aO,List.length_singleton];omega
def JL:V->Aa V->Hp->VK->Prop:=λx d H Q=>∃ l b a c,x = .ref l/\d=[.ref b]/\H l=some (.l a)/\H b=some (.l c)/\a.length+c.length<=sizeLine/\Q .e (upd H l (.l (a++c)))
def L3:V->Aa V->Hp->VK->Prop:=λx b H Q=>∃ l a i k y,x = .ref l/\b=[.int i]/\H l=some (.l a)/\-(2 ^ 63)<=i/\i<2 ^ 63/\seqIndex? i a.length=some k/\a[k]?=some y/\Q y (upd H l (.l (a.eraseIdx k)))
theorem Ra:Is X "list.pop" L3:=by
 intro d s O H x N v M Q I K G h;obtain⟨l,L,i,k,y,rfl,rfl,c,f,m,A,D,q⟩:=h;cases K;obtain⟨u,rfl,E⟩:=G.one;obtain⟨t,rfl⟩:=E;obtain⟨z,a,n,r,B,e⟩:=I.lstM c;obtain⟨w,hw,b⟩:=r.get D;refine jI F.slot_list_pop ⟨_,e,rfl⟩ F.entry_list_pop (F.args_list_pop_2 _ _)
  (MeetsSeq.list_pop_at l a.toArray n i t k w (fitsIndex_both f m) (by rw[bE,<- B];exact A) (by rw[<- eX];exact hw) (by rw[bE];omega)) ⟨e,?_⟩
 refine⟨y,_,I.lset (its':=a.eraseIdx k) c e ?_ (r.eraseIdx k) ?_,b,q⟩
 .show a.toArray.eraseIdxIfInBounds k=(a.eraseIdx k).toArray;rw[iZ]
 .have:=Fn L k;omega
def K7:R2:=λx y H Q=>∃ l b a c,x = .ref l/\y = .ref b/\H l=some (.l a)/\H b=some (.l c)/\a.length+c.length<=sizeLine/\∀ p,H p=none->Q (.ref p) (upd H p (.l (a++c)))
theorem HI:lH X (binaryOp .Add) K7:=by
 intro d s M H x y v u Q I A B h;obtain⟨l,b,G,L,rfl,rfl,m,k,E,q⟩:=h;cases A;cases B;obtain⟨z,c,n,r,D,e⟩:=I.lstM m;obtain⟨K,a,F,w,t,f⟩:=I.lstM k;refine PySem.P.add_list e f ?_ (by rw[bE,bE];omega);have i:c.toArray++a.toArray=(c++a).toArray:=by simp
 rw[i];exact⟨.ref _,_,I.lnew (t':=s.toks) (r.append w) (by rw[aO];omega),rfl,q _ I.fresh⟩
def Lk:R2:=λx y H Q=>∃ l k a,x = .ref l/\y = .int k/\H l=some (.l a)/\-(2 ^ 63)<=k/\k<2 ^ 63/\a.length*k.toNat<=sizeLine /\
 ∀ p,H p=none->Q (.ref p) (upd H p (.l (List.replicate k.toNat a).flatten))
theorem Zm (g:Aa j) (k:Nat):(List.replicate k g).flatten.length=k*g.length:=by
 induction k with
 | zero=>simp
 | succ k a=>rw[cU,fZ,aO,a,Nat.succ_mul,Nat.add_comm]
theorem EB:lH X (binaryOp .Mult) Lk:=by
 intro E s W H x y v u Q I O P h;obtain⟨l,k,V,rfl,rfl,M,K,L,D,q⟩:=h;cases O;obtain⟨t,rfl⟩:=P;obtain⟨z,b,n,r,N,e⟩:=I.lstM M;have i:b.toArray.size*k.toNat<=sizeLine:=by rw[bE,<- N];exact D
 have d:¬ b.toArray.size*k.toNat>(2 ^ 63-1)/8:=by
  have:(sizeLine:Nat)<=(2 ^ 63-1)/8:=by decide
  omega
 have f:¬ (!Builtin.List.listFitsIndex k)=true:=by
  rw[fitsIndex_both K L];exact bP
 have c:¬ Builtin.List.listTooLong (b.toArray.size*k.toNat)=true:=by
  rw[Tt i];exact bP
 have w:List.foldl (λA B=>A++B) #[] (List.replicate (if b.toArray.isEmpty=true then 0 else k.toNat) b.toArray)=(List.replicate k.toNat b).flatten.toArray:=by
  have G:∀ m:Nat,List.foldl (λA B=>A++B) #[] (List.replicate m b.toArray)=(List.replicate m b).flatten.toArray:=λm=>by
   have:=L7 b m [];rw[fW] at this;exact this
  rw[G];cases b with
  | nil=>simp
  | cons a S=>rw[aK (by simp)]
 refine wpAny_binaryOp_repeat_ref (T := "list") (U := "int") (by decide) ⟨_,e,rfl⟩ (λR=>typeIs_int R k t) noFill_list_mul F.fills_int_mul F.slot_int_rmul repeat_list F.slot_int_index.lookup
  (jI F.slot_int_rmul (typeIs_int s k t) F.entry_int_rmul (F.args_int_rmul_2 _ _) (int___rmul___int_list k t l b.toArray n) ⟨e,rfl,⟨_,e,rfl⟩,jI F.slot_list_mul ⟨_,e,rfl⟩ F.entry_list_mul (F.args_list_mul_2 _ _) (AutoListH.list___mul___list_int_3 l b.toArray n k t f d c) ⟨e,?_⟩⟩)
 rw[w];exact⟨.ref _,_,I.lnew (t':=s.toks) (r.rep k.toNat) (by rw[Zm,Nat.mul_comm];exact D),rfl,q _ I.fresh⟩
end
section
variable [DecidableEq κ]
noncomputable def nV (g:Aa (κ×V)) (k:κ):Ab V:=(g.find? λa=>decide (a.1=k)).map (·.2)
noncomputable def pC (g:Aa (κ×V)) (k:κ) (v:V):Aa (κ×V) :=
 if (g.any λa=>decide (a.1=k))=true then g.map (λa=>if a.1=k then (a.1,v) else a) else g++[(k,v)]
theorem sL {p:κ×V}{r:Aa (κ×V)}{k:κ}(e:p.1=k):nV (p::r) k=some p.2:=by simp[nV,cX,e]
theorem sJ {p:κ×V}{r:Aa (κ×V)}{k:κ}(e:¬ p.1=k):nV (p::r) k=nV r k:=by simp[nV,cX,e]
theorem Le (k:κ):∀ g:Aa (κ×V),(g.any λj=>decide (j.1=k))=(nV g k).isSome
 | []=>rfl
 | p::r=>by
  rw[fO];by_cases e:p.1=k
  .simp only[sL e,aV e,Bool.true_or,jZ]
  .rw[sJ e,aP e,Bool.false_or];exact Le k r
theorem Gv (g:Aa (κ×V)) (k:κ) (v:V):(pC g k v).length<=g.length+1:=by
 unfold pC;split
 .rw[aA];omega
 .rw[aO,dO,eG];omega
theorem sC.isSome_eq (r:sC o u):o.isSome=u.isSome:=by
 cases o with
 | none=>cases u with
  | none=>rfl
  | some _=>exact (show False from r).elim
 | some _=>cases u with
  | none=>exact (show False from r).elim
  | some _=>rfl
theorem sC.getD (r:sC o u) (rd:lA d g):lA (o.getD d) (u.getD g):=by
 cases o with
 | none=>cases u with
  | none=>exact rd
  | some _=>exact (show False from r).elim
 | some _=>cases u with
  | none=>exact (show False from r).elim
  | some _=>exact r
theorem KV.val (r:KV g j) (k:κ):sC (nV g k) (valueAt j k):=by
 unfold KV at r;induction r with
 | nil=>exact True.intro
 | @cons p q m c h t i =>
  obtain⟨d,f⟩:=h;by_cases e:p.1=k
  .have a:q.1=k:=d.symm.trans e;have b:valueAt (q::c) k=some q.2:=by simp[valueAt,cX,a]
   rw[sL e,b];exact f
  .have a:¬ q.1=k:=λz=>e (d.trans z)
   have b:valueAt (q::c) k=valueAt c k:=by simp[valueAt,cX,a]
   rw[sJ e,b];exact i
theorem KV.any (r:KV j l) (k:κ):(j.any λg=>decide (g.1=k))=l.any λg=>decide (g.1=k):=by
 unfold KV at r;induction r with
 | nil=>rfl
 | cons h t a=>rw[fO,fO,a,h.1]
theorem KV.repl (r:KV j o) (k:κ) (l:lA y u) :
  KV (j.map λg=>if g.1=k then (g.1,y) else g) (o.map λg=>if g.1=k then (g.1,u) else g):=by
 unfold KV at r |-;induction r with
 | nil=>exact .nil
 | @cons p q d f h t c =>
  rw[bH,bH];refine .cons ?_ c;obtain⟨a,b⟩:=h;by_cases e:p.1=k
  .rw[aZ e,aZ (a.symm.trans e)];exact⟨a,l⟩
  .rw[aK e,aK (λz=>e (a.trans z))];exact⟨a,b⟩
theorem KV.put (r:KV g l) (k:κ) (j:lA y u):KV (pC g k y) (stored l k u):=by
 unfold pC stored;rw[r.any k];by_cases e:(l.any λa=>decide (a.1=k))=true
 .rw[aZ e,aZ e];exact r.repl k j
 .rw[aK e,aK e];exact Paired.snoc r ⟨rfl,j⟩
theorem KV.length (r:KV g j):g.length=j.length:=fN r
end
theorem uG {P:Ah}(r:lA (kV k) u):(nG P w).is k u=true:=by
 cases k with
 | inl i=>obtain⟨t,e⟩:=(show ∃ t,u=Value.int i t from r);subst e;exact BF P w i t
 | inr x=>obtain⟨t,e⟩:=(show ∃ t,u=Value.str x t from r);subst e;exact Nw P w x t
theorem Pm {P:Ah}:∀ {g:Aa fS}{j:Aa Ac},lC (g.map kV) j->ItemsAre (nG P w) g j
 | [],_,r=>by rw[gH] at r;cases r;exact .nil
 | k::g,_,r=>by
  rw[bH] at r;cases r with
  | cons h t=>exact .cons (uG h) (Pm t)
abbrev KT (H:Hp):Aa (Aa fS×V)->Aa (Aa fS×Ad×Ac)->Prop:=Paired λp q=>p.1=q.1/\H q.2.1=some (.t (p.1.map kV))/\lA p.2 q.2.2
theorem KT.val (r:KT H g j) (k:Aa fS):sC (nV g k) ((atKey j k).map (·.2)):=by
 induction r with
 | nil=>exact True.intro
 | @cons p q m c h t i =>
  obtain⟨d,_,f⟩:=h;by_cases e:p.1=k
  .have a:q.1=k:=d.symm.trans e;have b:atKey (q::c) k=some q.2:=by simp[atKey,cX,a]
   rw[sL e,b];exact f
  .have a:¬ q.1=k:=λz=>e (d.trans z)
   have b:atKey (q::c) k=atKey c k:=by simp[atKey,cX,a]
   rw[sJ e,b];exact i
theorem KT.repl (r:KT H j o) (k:Aa fS) (l:lA y u) :
  KT H (j.map λg=>if g.1=k then (g.1,y) else g) (o.map (putAt k u)):=by
 induction r with
 | nil=>exact .nil
 | @cons p q f i h t d =>
  rw[bH,bH];refine .cons ?_ d;obtain⟨a,b,c⟩:=h;unfold putAt;by_cases e:p.1=k
  .rw[aZ e,aZ (a.symm.trans e)];exact⟨a,b,l⟩
  .rw[aK e,aK (λz=>e (a.trans z))];exact⟨a,b,c⟩
theorem KT.put (r:KT H g j) (k:Aa fS) (o:H b=some (.t (k.map kV))) (l:lA y u) :
  KT H (pC g k y) (storedH j k b u):=by
 have e:(g.any λa=>decide (a.1=k))=(atKey j k).isSome:=by
  rw[Le,(r.val k).isSome_eq,kE]
 unfold pC storedH;rw[e];by_cases q:(atKey j k).isSome=true
 .rw[aZ q,aZ q];exact r.repl k l
 .rw[aK q,aK q];exact Paired.snoc r ⟨rfl,o,l⟩
theorem KT.keeps (r:KT H g p) (o:∀ b j,H b=some (.t j)->l b=some (.t j)):KT l g p :=
 Paired.mapP r λ_ _ z=>⟨z.1,o _ _ z.2.1,z.2.2⟩
section
variable {P:Ah}
theorem Kf (ok:nA P w H h) (e:Rd H a u):mW P w H h a u:=e.ok ok
theorem qJ (ok:nA P w H h) (e:Rd H a (.k g)):g.length<=sizeLine/\(a == sysModules)=false/\∃ j,KV g j/\h.DictOf (nG P w) a j :=
 show mW P w H h a (.k g) from Kf ok e
theorem Fx (ok:nA P w H h) (e:H a=some (.k g)):g.length<=sizeLine/\(a == sysModules)=false/\∃ j,KV g j/\h.DictOf (nG P w) a j:=qJ ok (.inl e)
theorem zH (ok:nA P w H h) (e:H a=some (.t (g.map kV))):(tupleKind (nG P w)).is h g a:=by
 obtain⟨_,b,r,⟨o,c,d,n,f⟩,_⟩:=(show mW P w H h a (.t (g.map kV)) from ok a _ e);exact⟨o,b.toArray,n,c,d,f,by simpa using Pm r⟩
theorem xY (ok:nA P w H h) (e:Rd H a (.T g)):g.length<=sizeLine/\(a == sysModules)=false /\
  ∃ j,KT H g j/\h.DictOfH (tupleKind (nG P w)) a j:=by
 obtain⟨z,y,j,r,o,f,d,i,k,n,s,u⟩:=(show mW P w H h a (.T g) from Kf ok e);refine⟨z,y,j,r,o,f,d,i,k,n,s,λx b=>?_,u⟩;have all:∀ {l:Aa (Aa fS×V)} {m:Aa (Aa fS×Ad×Ac)},KT H l m->∀ x∈m,(tupleKind (nG P w)).is h x.1 x.2.1:=by
  intro l m q;induction q with
  | nil=>intro x b;exact nomatch b
  | @cons p q A B c t v =>
   intro x b;rcases aI.mp b with e | b
   .subst e;exact zH ok (by rw[<- c.1];exact c.2.1)
   .exact v x b
 exact all r x b
theorem CC (ok:nA P w H h) (e:H a=some (.T g)):g.length<=sizeLine/\(a == sysModules)=false /\
  ∃ j,KT H g j/\h.DictOfH (tupleKind (nG P w)) a j:=xY ok (.inl e)
end
def rB (H:Hp) (a:Ad) (y:V) (r:Ab V):Prop :=
 (∃ c k,Rd H a (.k c)/\y=kV k/\r=nV c k)\/∃ c k b,Rd H a (.T c)/\y = .ref b/\H b=some (.t (k.map kV))/\r=nV c k
def uK (H:Hp) (a:Ad) (y v:V) (g:Hp):Prop :=
 (∃ c k,H a=some (.k c)/\y=kV k/\c.length<sizeLine/\g=upd H a (.k (pC c k v))) \/
 ∃ c k b,H a=some (.T c)/\y = .ref b/\H b=some (.t (k.map kV))/\c.length<sizeLine/\g=upd H a (.T (pC c k v))
theorem rB.k {k:fS}(e:H a=some (.k g)):rB H a (kV k) (nV g k):=.inl ⟨g,k,.inl e,rfl,rfl⟩
theorem uK.k {k:fS}(e:H a=some (.k g)) (j:g.length<sizeLine):uK H a (kV k) v (upd H a (.k (pC g k v))):=.inl ⟨g,k,e,rfl,j,rfl⟩
theorem uK.t {H:Hp}{a b:Ad}{g:Aa (Aa fS×V)}{k:Aa fS}{v:V}(e:H a=some (.T g)) (j:H b=some (.t (k.map kV))) (l:g.length<sizeLine) :
  uK H a (.ref b) v (upd H a (.T (pC g k v))):=.inr ⟨g,k,b,e,rfl,j,l,rfl⟩
section
variable {X:Cx}
theorem Inv.big (I:Inv X g j H s):sysModules<s.heap.objs.size:=by
 have h:mainGlobals<s.heap.objs.size:=(I.mod.glob.keeps I.bk).lt;exact Nat.lt_trans (by decide) h
theorem Mr (T:A.units+1<cLine) (I:Inv X r U H s) (g:rB H a y (some v)) (C:lA y u) (h:∀ j J,Inv X r U H J->lA v j->Q j J) :
  wpAny (model X.prog X.w) A (getItem (.ref a) u) Q E s:=by
 rcases g with⟨m,k,e,f,l⟩ | ⟨m,k,b,e,f,n,l⟩
 .subst f;obtain⟨z,hd,t,rel,d⟩:=qJ I.hok e;obtain⟨j,hw,c⟩:=sC.some_of (v:=v) (o:=valueAt t k) (by rw[l];exact rel.val k);exact wpAny_getItem_of (uG C) d.mapOf hw (h j _ (I.tok _) c)
 .subst f;cases (show u=Value.ref b from C);obtain⟨z,hd,x,rel,d⟩:=xY I.hok e;obtain⟨j,hw,c⟩:=sC.some_of (v:=v) (o:=(atKey x k).map (·.2)) (by rw[l];exact rel.val k);obtain⟨p,q,i⟩:=cK.mp hw;refine wpAny_getItem_heap (gI T) (zH I.hok n) d q ?_;rw[i];exact h j _ (I.tok _) c
theorem Vq (C:A.units+1<cLine) (I:Inv X j J H s) (g:rB H a y o) (p:lA y u) (h:∀ r,Inv X j J H r->Q (.bool o.isSome) r) :
  wpAny (model X.prog X.w) A (compareOp .In u (.ref a)) Q E s:=by
 rcases g with⟨f,k,e,d,l⟩ | ⟨f,k,b,e,d,i,l⟩
 .subst d;obtain⟨z,hd,m,rel,c⟩:=qJ I.hok e;refine wpAny_in_of (uG p) hd c.mapOf ?_;rw[<- (rel.val k).isSome_eq,<- l];exact h _ (I.tok _)
 .subst d;cases (show u=Value.ref b from p);obtain⟨z,hd,n,rel,c⟩:=xY I.hok e;refine wpAny_in_heap (gI C) (zH I.hok i) hd c ?_;have q:=(rel.val k).isSome_eq;rw[kE] at q;rw[<- q,<- l];exact h _ (I.tok _)
theorem No (C:A.units+1<cLine) (I:Inv X j J H s) (g:rB H a y o) (p:lA y u) (h:∀ r,Inv X j J H r->Q (.bool (!o.isSome)) r) :
  wpAny (model X.prog X.w) A (compareOp .NotIn u (.ref a)) Q E s:=by
 rcases g with⟨f,k,e,d,l⟩ | ⟨f,k,b,e,d,i,l⟩
 .subst d;obtain⟨z,hd,m,rel,c⟩:=qJ I.hok e;refine wpAny_notIn_of (uG p) hd c.mapOf ?_;rw[<- (rel.val k).isSome_eq,<- l];exact h _ (I.tok _)
 .subst d;cases (show u=Value.ref b from p);obtain⟨z,hd,n,rel,c⟩:=xY I.hok e;refine wpAny_notIn_heap (gI C) (zH I.hok i) hd c ?_;have q:=(rel.val k).isSome_eq;rw[kE] at q;rw[<- q,<- l];exact h _ (I.tok _)
theorem Ey (I:Inv X g C H s) (r:Bl (H a)) (p:Heap.SameBut a s.heap j) (o:∃ q,j.get? a=some q) (new:mW X.prog X.w (upd H a l) j a l) :
  Inv X g C (upd H a l) { s with heap:=j,toks:=J } :=
 I.write (x:=a) (e:=a) r (.inl rfl) (λb q c z=>(p.2 b c).trans z) o new
theorem yQ {P:Ah}(z:g.length<=sizeLine) (hd:(a == sysModules)=false) (rel:KV g j) (l:o.DictOf (nG P w) a j) :
  mW P w p o a (.k g):=⟨z,hd,j,rel,l⟩
theorem Pq (T:A.units+1<cLine) (I:Inv X j U H s) (g:uK H a y v J) (p:lA y u) (o:lA v r) (h:∀ C,Inv X j U J C->Q () C) :
  wpAny (model X.prog X.w) A (setItem (.ref a) u r) Q E s:=by
 rcases g with⟨d,k,e,t,l,n⟩ | ⟨d,k,b,e,t,F,l,n⟩
 .subst t n;obtain⟨z,hd,V,rel,m⟩:=Fx I.hok e;have D:V.length<=sizeLine:=by rw[<- rel.length];exact z
  have x:(pC d k v).length<=sizeLine:=by have:=Gv d k v;omega
  refine wpAny_setItem_pairs (hsz:=D) (uG p) m λK f B=>h _ ?_
  have S:∃ q,K.get? a=some q:=let ⟨q,_,_,i,_⟩:=f;⟨q,i⟩;exact Ey I (by rw[e];exact True.intro) B S (yQ x hd (rel.put k o) f)
 .subst t n;cases (show u=Value.ref b from p);obtain⟨z,hd,W,rel,m⟩:=CC I.hok e;have D:W.length<=sizeLine:=by rw[<- fN rel];exact z
  have x:(pC d k v).length<=sizeLine:=by have:=Gv d k v;omega
  refine wpAny_setItem_heap (hsz:=D) (gI T) (zH I.hok F) m λK f B=>h _ ?_
  obtain⟨q,M,L,i,N,O,P,_,R⟩:=f;refine Ey I (by rw[e];exact True.intro) B ⟨q,i⟩ ⟨x,hd,_,(rel.put k F o).keeps λc Y G=>?_,q,M,L,i,N,O,P,R⟩;rw[mD (CG G e (λz=>nomatch z))];exact G
end
section
variable {X:Cx}
theorem GA (I:Inv X g o H s) (e:Rd H a (.k j)) (h:∀ t l,Inv X g o H l->Q (.int j.length t) l):wpAny (model X.prog X.w) A (call (.builtin "len") [.ref a]) Q E s:=by
 obtain⟨z,hd,c,rel,b⟩:=qJ I.hok e;refine call_len_dict hd b (by rw[<- rel.length];rw[sizeLine_eq] at z;omega) ?_;rw[<- rel.length];exact h _ _ (I.tok _)
end
theorem L0 {X:Cx}(I:Inv X j l H s) (g:rB H a y o):s.TypeIs (.ref a) "dict" := by
 rcases g with⟨d,k,e,_,_⟩ | ⟨d,k,b,e,_,_,_⟩
 .obtain⟨_,_,f,_,c⟩:=qJ I.hok e;exact c.typeIs
 .obtain⟨_,_,h,_,c⟩:=xY I.hok e;exact c.typeIs
def Zr (ty g:TE):TE:=λd H Q=>ty d H λy e=>g d e λx c=>∃ a o,x = .ref a/\rB c a y o/\Q (.b (!o.isSome)) c
def DH (g ty j:TE) (rd:V->V->Hp->VK->Prop):TS:=λD b H=>g b H λx e=>ty b e λy c=>∃ a v,x = .ref a/\rB c a y (some v) /\
 j b c λi f=>rd v i f λz h=>∃ d,uK h a y z d/\D.nx b d
section
variable {X:Cx}
theorem Ud (p:X.A.units+1<cLine) (j:PE X i ty) (l:PE X o r):PC X .NotIn i o (Zr ty r):=by
 intro c s e H Q I h;refine kY (j c s e H _ I h) λF E ⟨y,f,m,D,w⟩=>kY (l c E e f _ m w) λu G d=>?_
 obtain⟨x,k,n,B,a,v,t,g,z⟩:=d;subst t;obtain rfl:u=Value.ref a:=B;exact No p n g D λK q=>⟨.b (!v.isSome),k,q,rfl,z⟩
theorem W5 (r:X.A.units+1<cLine) (U:PE X o td) (T:PE X i ty) (hv:PE X value tv) (p:Qt X op rd)
  (J:∀ l j new,augStore i l j new=(do holding [new,l,j] (setItem l j new);release [new,l,j] [];pure .next)):PS X (.AugAssign (.Subscript o i C) op value pos) (DH td ty tv rd):=by
 intro b s d H D I h;refine wpAny_AugAssign_SubscriptAny (kY (U b s d H _ I h) λu V ⟨x,m,w,R,N⟩=>kY (T b V d m _ w N) λj s2 c=>?_) J;obtain⟨y,n,B,k,a,v,L,g,O⟩:=c;subst L;obtain rfl:u=Value.ref a:=R;refine Mr r B g k λZ W E e=>kY (hv b W d n _ E O) λw2 Y ⟨y2,q,F,f,P⟩=>kY (p b Y d q v y2 Z w2 _ F e f P) λw3 s5 c=>?_
 obtain⟨z,H4,G,S,t,M,Q⟩:=c;exact Pq r G M k S λs6 K=>⟨d,t,K,Q⟩
end
theorem Ke {P:Ah}(h:Ag) (g:sysModules<h.objs.size):mW P w H (h.push { cls:=.type "dict",data:=.dict #[] }) h.objs.size (.k []) :=
 ⟨dR _,dP.mpr (eR (cB g)),[],.nil,Heap.DictOf.new h⟩
def Yf:TE:=λ_ H Q=>∀ p,H p=none->Q (.ref p) (upd H p (.k []))
section
variable {X:Cx}
theorem Ua:PE X (.Dict [] [] pos) Yf:=λb s c H Q I h =>
 wpAny_Dict_empty ⟨.ref s.heap.objs.size,_,I.laid (a:=s.heap.objs.size) (o:=.k []) (t':=s.toks) (λ_ _ q=>aQ _ q) (bF _) (Ke s.heap I.big),rfl,h _ (I.hok.fresh (bF _))⟩
end
def Co:Aa (TE×TE)->St->Hp->(Aa (V×V)->Hp->Prop)->Prop
 | [],_,H,Q=>Q [] H
 | (f,h)::r,a,H,Q=>f a H λx b=>h a b λy c=>Co r a c λe d=>Q ((x,y)::e) d
abbrev VV:Aa (V×V)->Aa (Ac×Ac)->Prop:=Paired λp q=>lA p.1 q.1/\lA p.2 q.2
def At (X:Cx) (pos:Pos) (keys:Aa (Ab Expr)) (values:Aa Expr) (g:Aa (TE×TE)):Prop :=
 ∀ (a:Aa (Ad×Obj)) (s:Ae) (b:St) (H:Hp) (Q:Aa (V×V)->Hp->Prop),Inv X a b H s->Co g b H Q ->
  wpAny (model X.prog X.w) X.A (evalPairs (pairTrees keys values X.env pos)) (λf e=>∃ d c,Inv X a b c e/\VV d f/\Q d c) X.xe s
theorem X0 {X:Cx}:At X pos [] [] []:=λa s b H Q I h=>pairTrees_nil_walk ⟨[],H,I,.nil,h⟩
theorem A4 {X:Cx}(j:PE X k r) (o:PE X v C) (l:At X pos p J g) :
  At X pos (some k::p) (v::J) ((r,C)::g):=λa s b H Q I h =>
 pairTrees_cons_walk (kY (j a s b H _ I h) λu B ⟨x,c,f,z,q⟩=>kY (o a B b c _ f q) λF D ⟨y,d,i,A,t⟩ =>kY (l a D b d _ i t) λG E ⟨n,e,m,rel,w⟩=>⟨(x,y)::n,e,m,.cons ⟨z,A⟩ rel,w⟩)
def pD (g more:Aa (fS×V)):Aa (fS×V):=more.foldl (λa b=>pC a b.1 b.2) g
theorem KV.merge:∀ {more:Aa (fS×V)}{l:Aa (fS×Ac)}{g:Aa (fS×V)}{j:Aa (fS×Ac)},KV more l->KV g j->KV (pD g more) (merged j l):=by
 intro more l g j r;unfold KV at r;induction r generalizing g j with
 | nil=>intro q;exact q
 | @cons p q c d h t a =>
  intro b;have e:KV (pC g p.1 p.2) (stored j q.1 q.2):=by
   have:=b.put p.1 h.2;rw[<- h.1];exact this
  exact a e
theorem B1:∀ (more g:Aa (fS×V)),(pD g more).length<=g.length+more.length
 | [],g=>by show g.length<=g.length+0;omega
 | p::r,g=>by
  have a:=B1 r (pC g p.1 p.2);have b:=Gv g p.1 p.2;show (pD (pC g p.1 p.2) r).length<=_;rw[dO];omega
theorem M8 {P:Ah}:∀ {g:Aa (fS×V)}{o:Aa (Ac×Ac)},VV (g.map λl=>(kV l.1,l.2)) o->∃ j,Carries (nG P w) o j/\KV g j
 | [],_,r=>by rw[gH] at r;cases r;exact⟨[],True.intro,.nil⟩
 | p::g,_,r=>by
  rw[bH] at r;cases r with
  | @cons a b as bs h t =>
   obtain⟨j,c,q⟩:=M8 (P:=P) (w:=w) t;obtain⟨e,d⟩:=b;exact⟨(p.1,d)::j,⟨uG h.1,rfl,c⟩,.cons ⟨rfl,h.2⟩ q⟩
def HZ (g:Aa (TE×TE)):TE:=λe H Q=>∀ p,H p=none->Co g e (upd H p (.k [])) λd b=>b p=some (.k [])/\∃ a:Aa (fS×V),d=a.map (λc=>(kV c.1,c.2))/\a.length<=15/\Q (.ref p) (upd b p (.k (pD [] a)))
theorem AL {X:Cx}(h:At X pos keys values l) (g:keys.all (·.isSome)=true) (r:keys.length=values.length) (p:keys≠[])
  (j:keys.length<=15):PE X (.Dict keys values pos) (HZ l):=by
 intro f s N H Q I q;have A:=I.hok.fresh (bF s.heap.objs.size);have n:=I.laid (a:=s.heap.objs.size) (o:=.k []) (h':=s.heap.push { cls:=.type "dict",data:=.dict #[] }) (t':=s.toks) (λ_ _ q=>aQ _ q) (bF _) (Ke s.heap I.big);refine wpAny_Dict_walk (knd:=nG X.prog X.w) g r p j (kY (h f _ N _ _ n (q _ A)) λW V i=>?_);obtain⟨S,O,m,rel,e,d,u,R,F⟩:=i;subst u;obtain⟨L,c,K⟩:=M8 (P:=X.prog) (w:=X.w) rel;obtain⟨z,hd,M,G,t⟩:=Fx m.hok e;cases G;refine⟨L,c,t,λv b D=>⟨.ref s.heap.objs.size,_,?_,rfl,F⟩⟩;have E:(pD [] d).length<=sizeLine:=by
  have x:=B1 d [];rw[eG] at x;rw[sizeLine_eq];omega
 have y:∃ q,v.get? s.heap.objs.size=some q:=let ⟨q,_,_,B,_⟩:=b;⟨q,B⟩;exact Ey m (by rw[e];exact True.intro) D y (yQ E hd (K.merge .nil) b)
structure M2 (X:Cx) (o:Expr) (m:Str) (apos:Pos) (e f:Expr) (cpos:Pos):Prop where
 base:attributeBase o m X.env (eval o X.env)=eval o X.env
 few:((backTo cpos (starEach [e,f] X.env)).all (λx=>!x.1)&&(backToKw cpos (keywordEach [] X.env)).all (λx=>x.1.isSome) && decide (([e,f]:List Expr).length+([]:List Keyword).length+(if ([]:List Keyword).isEmpty then 0 else 1)<30))=true
 line:(apos.endLine == cpos.line)=true
 trees:backTo cpos (starEach [e,f] X.env)=[(false,eval e X.env),(false,eval f X.env)]
def Hb (H:Hp) (a:Ad):Prop:=(∃ b,Rd H a (.k b))\/∃ b,Rd H a (.T b)
theorem Zf {X:Cx}(I:Inv X j l H s) (d:Hb H a) :
  s.TypeIs (.ref a) "dict" /\ (∀ b,Value.ref a = .ref b->∃ g,s.heap.get? b=some g/\g.dict=none)/\(a == sysModules)=false:=by
 rcases d with⟨i,e⟩ | ⟨i,e⟩
 .obtain⟨_,hd,k,_,c⟩:=qJ I.hok e;refine⟨c.typeIs,λb q=>?_,hd⟩;cases q;obtain⟨g,_,_,f,h,_⟩:=c;exact⟨g,f,h.2.1⟩
 .obtain⟨_,hd,m,_,c⟩:=xY I.hok e;refine⟨c.typeIs,λb q=>?_,hd⟩;cases q;obtain⟨g,_,_,f,h,_⟩:=c;exact⟨g,f,h.2.1⟩
section
variable {X:Cx}
theorem BO (T:A.units+1<cLine) (I:Inv X j U H s) (g:rB H a y o) (p:lA y u) (rd:lA d r) (h:∀ J C,Inv X j U H C->lA (o.getD d) J->Q J C) :
  wpAny (model X.prog X.w) A (call (.builtin "dict.get") [.ref a,u,r]) Q E s:=by
 rcases g with⟨i,k,e,f,l⟩ | ⟨i,k,b,e,f,m,l⟩
 .subst f;obtain⟨z,hd,q,rel,c⟩:=qJ I.hok e;refine call_meetsIn jB c.typeIs PySem.F.entry_dict_get (PySem.F.args_dict_get_3 _ _ _) (meets_dict_get_default (nG X.prog X.w) a (uG p) hd r) ⟨_,c.mapOf,h _ _ (I.tok _) ?_⟩;rw[l];exact (rel.val k).getD rd
 .subst f;cases (show u=Value.ref b from p);obtain⟨z,hd,n,rel,c⟩:=xY I.hok e;refine call_meetsIn jB c.typeIs PySem.F.entry_dict_get (PySem.F.args_dict_get_3 _ _ _) (meetsH_dict_get_default (tupleKind (nG X.prog X.w)) a b hd r) ⟨gI T,k,n,zH I.hok m,c,h _ _ (I.tok _) ?_⟩;rw[l];exact (rel.val k).getD rd
end
def Wq (g ty j:TE):TE:=λb H Q=>g b H λx c=>∃ a,x = .ref a/\Hb c a/\ty b c λy e=>j b e λz d=>∃ o,rB d a y o/\Q (o.getD z) d
section
variable {X:Cx}
theorem Uu (C:X.A.units+1<cLine) (r:PE X o J) (l:PE X e ty) (p:PE X f T) (m:M2 X o "get" apos e f j):PE X (.Call (.Attribute o "get" apos) [e,f] [] j) (Wq J ty T):=by
 intro b s k H Q I h;refine wpAny_Call_method m.base m.few m.line iQ jB PySem.F.type_dict_get (kY (r b s k H _ I h) λu P c=>?_);obtain⟨x,q,n,M,a,E,d,G⟩:=c;subst E;obtain rfl:u=Value.ref a:=M;obtain⟨S,V,_⟩:=Zf n d;refine⟨S,V,?_⟩;rw[m.trees];refine Calls.callWith_builtin rfl (Calls.evalArgs_plain (iH (kY (l b P k q _ n G) λY R ⟨y,t,w,N,K⟩ =>iH (kY (p b R k t _ w K) λW U ⟨z,v,B,O,Z,g,L⟩=>Calls.spliced_nil ?_))));exact BO C B g N O λw' s4 D i=>⟨_,v,D,i,L⟩
end
section
variable {X:Cx}
theorem Sq (I:Inv X j r H s) (e:Rd H a (.k g)) (h:∀ p l,H p=none->Inv X j r (upd H p (.k g)) l->Q (.ref p) l):wpAny (model X.prog X.w) A (call (.type "dict") [.ref a]) Q E s:=by
 obtain⟨z,hd,n,rel,f⟩:=qJ I.hok e;refine kt_call_dict hd f (by rw[<- rel.length];exact z) λm c i=>?_
 refine h _ _ (I.hok.fresh (bF _)) (I.laid (a:=s.heap.objs.size) (o:=.k g) (t':=s.toks) (λb q d=>?_) (bF _) (yQ z (dP.mpr (eR (cB I.big))) rel c));exact (i.2 b (cB (bK d))).trans (aQ _ d)
end
end L2
namespace Att
open PySem PySem.W PySem.Calls PyProof.Rows
theorem Z9 {P:Params}:∀ (g:Aa Int) (j:Aa Ac),WellAll P h j (g.map WData.int)->IntsAre j g:=by
 intro g;induction g with
 | nil =>
  intro j w;rw[gH] at w;cases w;exact .nil
 | cons n g c =>
  intro j w;rw[bH] at w;cases w with
  | cons a b =>
   cases a;exact .cons _ _ (c _ b)
theorem CJ {l:OpenLaw}(I:l.most=some n){P:Params}
  (j:l.row.toRowW.claim.pre args=true) (p:WellAll P h o args) :
  ∃ a C g,o=[Value.ref a]/\args=[WData.list (g.map WData.int)]/\h.get? a=some { cls:=.type "list",data:=.seq C.toArray }/\IntsAre C g/\g.length<=n:=by
 have i:WShape.hasAll [] args [.list .int]=true:=(pre_splitW j).1;have k:l.pre.holds [] { args:=args }=true:=(pre_splitW j).2;obtain⟨d,r,rfl,m,s⟩:=hasAllW_cons i;obtain rfl:=hasAllW_nil s;obtain⟨y,rfl,t⟩:=hasW_list m;obtain⟨g,rfl⟩:=items_int t;have c:g.length<=n:=by
  unfold OpenLaw.pre at k;have e:(WTm.not (.lt (.lit (.int (n:Int))) (.len (.arg 0)))).holds [] { args:=[.list (g.map .int)] }=true:=by
   have e:=(holds_andW k).1;rw[I] at e;exact e
  have f:=condW_of e (w_not (w_lt w_lit (w_len_list (w_arg rfl))));rw[aA] at f;refine Nat.le_of_not_lt λq=>?_
  have v:(n:Int)<((g.length:Nat):Int):=by omega
  first
   | (rw[aV v] at f;exact absurd f (by decide))
   | (simp at f;omega)
 cases p with
 | cons w x =>
  cases x;cases w with
  | list u b=>exact⟨_,_,g,rfl,rfl,u,Z9 g _ b,c⟩
theorem Z3 (l:OpenLaw) (args:Aa WData):l.row.toRowW.claim.post args (.bool true) args=true :=
 postW_of (r:=l.row.toRowW) (X:=(true == true))
  (show WShape.has [] (.bool true) .bool=true by first | rfl | decide | simp[WShape.has,WShape.arms,WShape.armsAll])
  (show (WTm.eq .res (.lit (.bool true))).value [] { args:=args,res:=some (.bool true),after:=args }=some (.bool (true == true)) from w_eq_bool (w_res rfl) w_lit) rfl
theorem attach_call {l:OpenLaw}
  (hn:l.most=some n) (aa:d.params.defaults=[])
  (call:∀ (w:World) (j g:Ae) (T mb:Af->Ab Ac) (J:Ad) (o:Obj) (pm cd p:Ac) (a:Ad) (I:Aa Ac) (U:Aa Int),Ground q C [] XP w j T mb g.heap->YP w g.heap ->g.heap.get? J=some o->o.data = .func (docDef d.name d.params d.body d.scope pm cd p)->g.heap.CodeRec cd d.name->T d.name=some (.ref J) ->g.heap.get? a=some { cls:=.type "list",data:=.seq I.toArray }->IntsAre I U->U.length<=n->g.gens=#[] ->
   codeAny (model l.prog w) callerA (.call (.ref J) ⟨[.ref a],[]⟩) (λr s'=>r = .ok (.ret (.bool true))/\OldK g.heap s'.heap/\s'.os=g.os/\AllBare s'.gens) g) :
  WalkO q C XP YP l.row.toRowW d [] (λf I=>PySem.call f I):=by
 intro w j g T mb G Y J o pm cd p v kV E hd i s k A args u as h t H m B;obtain rfl:v = .none:=Dflts.none s aa;obtain rfl:kV = .none:=Dflts.noKw s;obtain⟨a,I,U,rfl,rfl,e,b,c⟩:=CJ hn h m;refine enter_call (codeAny_mono (call w j g T mb J o pm cd p a I U G Y E (fd_plain hd) i k e b c A) λr s' F=>?_);obtain⟨rfl,x,y,z⟩:=F;exact⟨.inl ⟨.bool true,.bool true,[],rfl,λ_=>rfl,.bool true,Z3 l _,λ_=>⟨List.Pairwise.nil,λ_ D=>(nomatch D)⟩⟩,x,y,z⟩
end Att
namespace L2
open PySem PySem.Spec PyProof.Rows
theorem Rf:∀ {j:Aa Ac}{g:Aa Int},IntsAre j g->lC (g.map V.int) j
 | _,_,.nil=>.nil
 | _,_,.cons n t h=>.cons ⟨t,rfl⟩ (Rf h)
def Ex (H:Hp):Prop:=∀ b,H b=none\/∃ o a,H b=some (.frz o (.l a))
theorem Xg {P:Ah}{K:kQ}
  (KX:K.In g.heap) (T:g.heap.Ns mainGlobals mg) (j:g.heap.Ns builtinsNs mb) (ab:∀ x:Af,x ≠ "__name__" -> mb x=bootBuiltins x) (J:g.heap.NoLimit) (hg:g.gens=#[])
  (U:g.heap.get? a=some { cls:=.type "list",data:=.seq I.toArray }) (hi:IntsAre I ns) (hl:ns.length<=sizeLine) (hr:Room k callerA)
  (F:∀ base:Ag,K.In base->base.Ns mainGlobals mg->FnOk P w K mg base CX k fa fd [x] sp) (C:∀ (s:Ae) (u:Ac),BindsTo s fd ⟨[u],[]⟩ [(x,u)])
  (ac:∀ H:Hp,Ex H->lG K H a (ns.map V.int)->sp [.ref a] H (λv _=>v = .b true) λ_ _ _=>False)
  (aa:∀ H e p,CX [] H g (λ_ _ _=>False) e p->False) :
  codeAny (model P w) callerA (.call (.ref fa) ⟨[.ref a],[]⟩) (λr p=>r = .ok (.ret (.bool true))/\OldK g.heap p.heap/\p.os=g.os/\AllBare p.gens) g:=by
 have R:=Rf hi;have D:=hi.length;have core:∀ H:Hp,Ex H->lG K H a (ns.map V.int)->nA P w H g.heap->(∀ b,H b≠none->b=a)->(H a≠none->K.lookup a=none) ->
   codeAny (model P w) callerA (.call (.ref fa) ⟨[.ref a],[]⟩) (λr p=>r = .ok (.ret (.bool true))/\OldK g.heap p.heap/\p.os=g.os/\AllBare p.gens) g:=by
  intro H Q hS A O hK;have c:∀ {b:Ad} {o:Obj},g.heap.get? b=some o->H b=none->(vM g.heap H).get? b=some o:=λe n=>Z1 e n
  have M:∀ {b:Ad} {o:Obj} {t:Array DictEntry} {i:Nat},g.heap.get? b=some o->o.data = .dict t i->H b=none:=λ{b o t i} e d=>by
   cases q:H b with
   | none=>rfl
   | some u =>
    have G:b=a:=O b (by rw[q];simp);subst G;rw[U] at e;cases e;have S:Data.seq I.toArray _=Data.dict t i:=d;cases S
  have f:∀ {b:Ad} {m:Af->Ab Ac},g.heap.Ns b m->(vM g.heap H).Ns b m:=λ{b m} ⟨o,t,i,e,d,r⟩=>⟨o,t,i,c e (M e d),d,r⟩
  have y:K.In (vM g.heap H):=λb o e=>c (KX b o e) (by
   cases q:H b with
   | none=>rfl
   | some u =>
    have G:b=a:=O b (by rw[q];simp);subst G;rw[hK (by rw[q];simp)] at e;cases e)
  have hM:Mod K mg (vM g.heap H):=⟨y,f T,⟨mb,f j,ab⟩,let ⟨mc,Z,h2⟩:=J;⟨mc,f Z,h2⟩⟩;have W:Env0 P w K mg (vM g.heap H) callerA [] g H:=⟨rfl,hM,λb o e=>Uz e,Nat.le_of_eq (CW _ _),trivial,λb j=>absurd (show b∈([]:Aa Ad) from j) (by simp),A,.of_eq hg⟩;refine codeAny_mono ((F _ y (f T)).run callerA [] g H ⟨[.ref a],[]⟩ [.ref a] [.ref a] _ _ hr W (C g (.ref a)) (.cons rfl .nil) (ac H Q hS)) λr p h=>?_
  cases r with
  | error e=>exact (aa H e p h).elim
  | ok Y =>
   cases Y with
   | next=>exact False.elim h
   | brk=>exact False.elim h
   | cont=>exact False.elim h
   | ret u =>
    obtain⟨v,H',os,bare,un,B,r',q⟩:=h;have q':v = .b true:=q;subst q';obtain rfl:u=Value.bool true:=r';refine⟨rfl,OldK.of_keep λb o e=>?_,os,bare⟩;cases q:H b with
    | none=>exact un.keep b o e q (by intro z;exact absurd (show b∈([]:Aa Ad) from z) (by simp)) (by simp)
    | some u =>
     rcases Q b with z | ⟨ob,xs,z⟩
     .rw[q] at z;cases z
     .have z2:=un.frzs b ob _ z;obtain⟨N,_⟩:=A b _ z;obtain⟨X,_⟩:=B b _ z2;rw[e] at N;cases N;exact X
 cases L:K.lookup a with
 | some o =>
  have e:=KX a o L;rw[U] at e;cases e;refine core (λ_=>none) (λ_=>.inl rfl) (.inr ⟨_,I.toArray,_,L,rfl,rfl,rfl,by rw[bE,D];exact hl,by simpa using R⟩) (λb u z=>by have E:(none:Ab HO)=some u:=z;cases E) (λb z=>absurd rfl z) λz=>absurd rfl z
 | none =>
  refine core (λb=>if b=a then some (.frz { cls:=.type "list",data:=.seq I.toArray } (.l (ns.map V.int))) else none) (λb=>?_) (.inl (.inr ⟨{ cls:=.type "list",data:=.seq I.toArray },aZ rfl⟩)) (λb u z=>?_) (λb z=>?_) λ_=>L
  .by_cases j:b=a
   .exact .inr ⟨_,_,aZ j⟩
   .exact .inl (aK j)
  .by_cases j:b=a
   .have E:=(aZ j).symm.trans z;cases E;subst j;exact⟨U,by rw[aA];exact hl,I,_,R,U⟩
   .have E:=(aK j).symm.trans z;cases E
  .by_cases j:b=a
   .exact j
   .exact absurd (aK j) z
theorem walk_of {l:PySem.W.OpenLaw}{n k:Nat}{q:Ah}{j:Aa Af}{XP:(Af->Ab Ac)->Ag->Prop}{YP:World->Ag->Prop}{d:DefRec}{K:Params->kQ}{CX:World->zF}{sp:World->Sp}{x:Af}
  (hn:l.most=some n) (U:n<=sizeLine) (J:d.params.defaults=[]) (hr:Room k callerA)
  (hY:∀ (w:World) (h:Ag),YP w h->(K w.params).In h)
  (F:∀ (w:World) (p:Af->Ab Ac) (r:Ad) (h:Ag),(K w.params).In h->h.Ns mainGlobals p->p d.name=some (.ref r) ->∃ fd:FuncData,(∀ (s:Ae) (u:Ac),BindsTo s fd ⟨[u],[]⟩ [(x,u)]) /\ ∀ base:Ag,(K w.params).In base->base.Ns mainGlobals p->FnOk l.prog w (K w.params) p base (CX w) k r fd [x] (sp w))
  (aa:∀ (w:World) (H:Hp) (a:Ad) (C:Aa Int),C.length<=n->Ex H->lG (K w.params) H a (C.map V.int)->sp w [.ref a] H (λv _=>v = .b true) λ_ _ _=>False)
  (I:∀ (w:World) (H:Hp) (s:Ae) (e:Ac) (s':Ae),CX w [] H s (λ_ _ _=>False) e s'->False) :
  PySem.W.WalkO q j XP YP l.row.toRowW d [] (λf vs=>PySem.call f vs):=by
 refine Att.attach_call hn J λw A t p Q r o pm cd B a vs C G Y P hd N y m i c O=>?_
 have z:=hY w _ Y;obtain⟨fd,M,D⟩:=F w p r _ z G.T.g y;exact Xg z G.T.g G.T.b G.T.builtins G.T.nolimit O m i (bS c U) hr D M (λH E L=>aa w H a C c E L) λH e s'=>I w H t e s'
def sA (s:Stmt):Arguments:=match s with
 | .FunctionDef _ a _ _ _ _ _ _ _ _=>a
 | _=>{ posonlyargs:=[],args:=[],vararg:=none,kwonlyargs:=[],kw_defaults:=[],kwarg:=none,defaults:=[] }
def qM (s:Stmt):Aa Stmt:=match s with
 | .FunctionDef _ _ b _ _ _ _ _ _ _=>b
 | _=>[]
def lQ (s:Stmt):Scope:=match s with
 | .FunctionDef _ _ _ _ _ _ a _ _ _=>a
 | _=>{ kind:=.function,names:=[],isGenerator:=false,isCoroutine:=false }
abbrev rN:zF:=λ_ _ _ _ _ _=>False
abbrev E0:XK:=λ_ _ _=>False
theorem Wz {X:Cx}:F1 rN X E0:=λ_ _ _ _ _ _ _ h=>h.elim
structure Fun (K:kQ) (x qual:Str) (st:Stmt) (f:Addr) (fd:FuncData):Prop where
 ex:∃ (oc:Value) (od:Option Addr) (kV doc pm:Value) (an:Option Addr) (cdv ct:Value) (osl:Array (Option Value)),
  fd=PySem.W.fnOf x qual (sA st) (qM st) (lQ st) .none kV doc pm an cdv ct/\K.lookup f=some ⟨oc,od,.func fd,osl⟩/\PySem.W.codeIn K cdv qual=true
 kp:PySem.W.keepIn K (.ref f)=true
section
variable {P:Ah}{K:kQ}
theorem Fun.ok {st:Stmt}(F:Fun K x l st f fd) (S:FnScope N r (lQ st)) (len:∀ p H Q E,C p H Q E->p.length=r.length)
  (o:∀ (j:Ac) (A:Around) (g:Aa Env) (s:Ae) (H:Hp) (p:Aa V) (Q:VK) (E:XK),Room k (A.deeper (envOfC l (lQ st) s.heap.objs.size f j))->C p H Q E ->∃ t,qO (wE rN P w K J base N l (lQ st) f j A g s H E).nox (qM st) t/\t { nx:=λ_ I=>Q .e I,rt:=Q } (start N p) H):FnOk P w K J base rN (k+1) f fd r C:=by
 obtain⟨v,y,kV,c,pm,n,j,u,m,rfl,i,a⟩:=F.ex;refine EX i a S len λA g s H p Q E d b=>?_
 obtain⟨t,h,q⟩:=o j A g s H p Q E d b;exact⟨t,h.nox,q⟩
theorem Fun.binds {st:Stmt}(F:Fun K x l st f fd)
  (h:∀ (kV j pm:Ac) (o:Ab Ad) (g p:Ac) (r:Aa Ac),r.length=C.length->bindArgs (PySem.W.fnOf x l (sA st) (qM st) (lQ st) .none kV j pm o g p) ⟨r,[]⟩=pure (C.zip r)):wR K fd C []:=by
 obtain⟨d,e,kV,j,pm,o,g,p,b,rfl,c,a⟩:=F.ex;exact .all (h kV j pm o g p)
theorem Ny {st:Stmt}{kV:Ac}(l:K.lookup f=some ⟨I,J,.func (PySem.W.fnOf x g (sA st) (qM st) (lQ st) .none kV o pm r j C),p⟩)
  (c:PySem.W.codeIn K j g=true) (k:PySem.W.keepIn K (.ref f)=true):Fun K x g st f (PySem.W.fnOf x g (sA st) (qM st) (lQ st) .none kV o pm r j C):=⟨⟨I,J,kV,o,pm,r,j,C,p,rfl,l,c⟩,k⟩
end
theorem Kj (g:Room k A):A.units+1<cLine:=dM (Nat.add_le_add_left (by decide:1<=64) _) g.units
section
variable {X:Cx}
theorem pv (i:Nat) (j:X.N[i]?=some x:=by rfl) (l:Ha X.env.scope x:=by first | exact Or.inl rfl | exact Or.inr (Or.inl rfl) | exact Or.inr (Or.inr rfl)) (hd:(x == ("__debug__" : Af))=false:=by decide)
  (g:(x == ("__classdict__" : Af))=false:=by decide):PE X (.Name x pos) (pA i):=GJ j l hd g
theorem Xh:mZ X (.builtin "len") (λj H Q=>∃ a g,j=[V.ref a]/\Rd H a (.k g)/\Q (.int g.length) H):=by
 intro b s m H j i Q I r h;obtain⟨a,g,rfl,d,q⟩:=h;obtain⟨u,rfl,e⟩:=qH r;cases e;exact GA I d λt f c=>⟨.int g.length,H,c,⟨t,rfl⟩,q⟩
end
theorem wH {A B:Prop}(h:B):if false=true then A else B:=by
 rw[aK bP];exact h
theorem C4 {c A B:Prop} [Decidable c] (g:c->A) (j:¬ c->B):if c then A else B:=by
 by_cases h:c
 .rw[aZ h];exact g h
 .rw[aK h];exact j h
def vZ (H g:Hp):Prop:=∀ b o,H b=some o->g b=some o
section
variable {X:Cx}
theorem Ct {K:kQ}:∀ {j:Aa Int}{g:Aa Ac},lC (j.map V.int) g->∃ xs:Array (Int×Tok),g.toArray=intItems xs/\j=xs.toList.map (·.1)
 | [],_,.nil=>⟨#[],by simp[intItems],rfl⟩
 | n::j,_,.cons r c=>by
  obtain⟨t,rfl⟩:=r;obtain⟨xs,a,b⟩:=Ct (K:=K) c;refine⟨(⟨(n,t)::xs.toList⟩:Array (Int×Tok)),?_,by rw[b];rfl⟩;have:(intItems xs).toList=_:=(cL Array.toList a).symm;unfold intItems at this |-;refine Array.toList_inj.mp ?_;simp only[Array.toList_map] at this |-;rw[bH,this]
theorem Ez (p:l=o.toList.map (·.1)) (g:j<o.size):∃ h:j<l.length,numAt o j=l[j]:=by
 subst p;refine⟨by simpa using g,?_⟩;simp[numAt,g]
theorem Dr (l:X.calm=true):mZ X (.builtin "sum") (λj H Q=>∃ (p:Ad) (g:Aa Int),j=[.ref p]/\lG X.K H p (g.map V.int)/\Q (.int g.sum) H):=by
 intro a s z H j y Q I r h;obtain⟨p,g,rfl,d,q⟩:=h;obtain⟨u,rfl,m⟩:=qH r;cases m;obtain⟨f,k,i,w⟩:=I.list d;obtain⟨t,e,b⟩:=Ct (K:=X.K) k;refine sum_intListG (xs:=t) (I.ok.hd l) (e▸i.isList) λv x n c=>⟨.int g.sum,H,I.kept c,⟨n,?_⟩,q⟩
 rw[preSum_eq,cG (by simp),b]
theorem Yk (l:X.calm=true):mZ X (.builtin "min") (λxs H Q=>∃ (p:Ad) (g:Aa Int),xs=[.ref p]/\lG X.K H p (g.map V.int)/\g≠[]/\∀ m:Int,m∈g->(∀ a∈g,m<=a)->Q (.int m) H):=by
 intro n s Y H xs W Q I r h;obtain⟨p,g,rfl,B,f,q⟩:=h;obtain⟨u,rfl,N⟩:=qH r;cases N;obtain⟨E,M,L,P⟩:=I.list B;obtain⟨b,e,d⟩:=Ct (K:=X.K) M;have i:0<b.size:=by
  rcases Nat.eq_zero_or_pos b.size with z | z
  .exfalso;apply f;rw[d];simp[Array.size_eq_zero_iff.mp z]
  .exact z
 refine min_intList (xs:=b) (I.ok.hd l) (e▸L.isList) i λv O S D A=>?_
 obtain⟨t,rfl⟩:=intItems_at (xs:=b) D;have c:=argBest_lt (numAt b) (b.size-1);obtain⟨G,w⟩:=Ez d (dM c.1 (show b.size-1<b.size by omega));refine⟨.int _,H,I.kept A,⟨t,rfl⟩,q _ (w▸fP G) λa y=>?_⟩;obtain⟨j,k,rfl⟩:=jV y;have F:j<b.size:=by rw[d] at k;simpa using k
 obtain⟨R,x⟩:=Ez d F;exact x▸c.2 j (by omega)
theorem Ya (l:X.calm=true):mZ X (.builtin "max") (λxs H Q=>∃ (p:Ad) (g:Aa Int),xs=[.ref p]/\lG X.K H p (g.map V.int)/\g≠[]/\∀ m:Int,m∈g->(∀ a∈g,a<=m)->Q (.int m) H):=by
 intro n s Y H xs W Q I r h;obtain⟨p,g,rfl,B,f,q⟩:=h;obtain⟨u,rfl,N⟩:=qH r;cases N;obtain⟨E,M,L,P⟩:=I.list B;obtain⟨b,e,d⟩:=Ct (K:=X.K) M;have i:0<b.size:=by
  rcases Nat.eq_zero_or_pos b.size with z | z
  .exfalso;apply f;rw[d];simp[Array.size_eq_zero_iff.mp z]
  .exact z
 refine max_intList (xs:=b) (I.ok.hd l) (e▸L.isList) i λv O S D A=>?_
 obtain⟨t,rfl⟩:=intItems_at (xs:=b) D;have c:=argBest_gt (numAt b) (b.size-1);obtain⟨G,w⟩:=Ez d (dM c.1 (show b.size-1<b.size by omega));refine⟨.int _,H,I.kept A,⟨t,rfl⟩,q _ (w▸fP G) λa y=>?_⟩;obtain⟨j,k,rfl⟩:=jV y;have F:j<b.size:=by rw[d] at k;simpa using k
 obtain⟨R,x⟩:=Ez d F;exact x▸c.2 j (by omega)
theorem EI:∀ {j:Aa Af}{g:Aa Ac},lC (j.map V.str) g->StrsAre g j:=by
 intro j;induction j with
 | nil=>intro g r;cases r;exact .nil
 | cons y r c =>
  intro g h;cases h with
  | cons a b =>
   obtain⟨t,rfl⟩:=a;exact .cons _ _ (c b)
end
mutual
inductive DatV (K:kQ) (H:Hp):V->PyData->Prop where
 | e:DatV K H .e .none
 | b (b:Bool):DatV K H (.b b) (.bool b)
 | int (i:Int):DatV K H (.int i) (.int i)
 | str (x:Str):DatV K H (.str x) (.str x)
 | l {a:Addr} {xs:List V} {ds:List PyData}:lG K H a xs->DatVs K H xs ds->DatV K H (.ref a) (.list ds)
 | t {a:Addr} {xs:List V} {ds:List PyData}:lR K H a xs->DatVs K H xs ds->DatV K H (.ref a) (.tuple ds)
inductive DatVs (K:kQ) (H:Hp):List V->List PyData->Prop where
 | nil:DatVs K H [] []
 | cons {x:V} {d:PyData} {xs:List V} {ds:List PyData}:DatV K H x d->DatVs K H xs ds->DatVs K H (x::xs) (d::ds)
end
section
variable {X:Cx}
mutual
theorem DatV.reads (I:Inv X g j H s):∀ {x:V}{d:PyData}{u:Ac},DatV X.K H x d->lA x u->∃ as,Reads s.heap u d as
 | _,_,_,.e,r=>by cases r;exact⟨_,.none⟩
 | _,_,_,.b b,r=>by cases r;exact⟨_,.bool b⟩
 | _,_,_,.int i,r=>by obtain⟨t,rfl⟩:=r;exact⟨_,.int i t⟩
 | _,_,_,.str x,r=>by obtain⟨t,rfl⟩:=r;exact⟨_,.str x t⟩
 | _,_,_,.l a f,r=>by
  cases r;obtain⟨k,m,⟨o,n,e,c,_,d⟩,_⟩:=I.list a;obtain⟨as,h⟩:=DatVs.reads I f m;exact⟨_,.list e c d (by simpa using h)⟩
 | _,_,_,.t a f,r=>by
  cases r;obtain⟨k,m,⟨o,e,c,n,d⟩,_⟩:=I.tuple a;obtain⟨as,h⟩:=DatVs.reads I f m;exact⟨_,.tuple e c d (by simpa using h)⟩
theorem DatVs.reads (I:Inv X j p H s):∀ {o:Aa V}{g:Aa PyData}{l:Aa Ac},DatVs X.K H o g->lC o l->∃ as,ReadsAll s.heap l g as
 | _,_,_,.nil,.nil=>⟨_,.nil⟩
 | _,_,_,.cons h c,.cons r d=>by
  obtain⟨as,a⟩:=DatV.reads I h r;obtain⟨bs,b⟩:=DatVs.reads I c d;exact⟨_,.cons a b⟩
end
end
section
variable {X:Cx}
def Hn (K:kQ) (neg:Bool):R2:=λx y H Q=>∃ a c,DatV K H x a/\DatV K H y c/\a.canLay0=true/\c.canLay0=true/\min a.depth c.depth<=60/\Q (.b (if neg then !PyData.eqv a c else PyData.eqv a c)) H
theorem EK (g:X.A.units+64<cLine):lH X (compareOp .Eq) (Hn X.K false):=by
 intro a s B H x y v u Q I m n h;obtain⟨t,w,c,d,e,f,z,q⟩:=h;obtain⟨as,i⟩:=c.reads I m;obtain⟨bs,k⟩:=d.reads I n;exact SeqAt.compareEq_reads i k e f (by omega) ⟨.b _,H,I,rfl,q⟩
theorem Vs (g:X.A.units+64<cLine):lH X (compareOp .NotEq) (Hn X.K true):=by
 intro a s B H x y v u Q I m n h;obtain⟨t,w,c,d,e,f,z,q⟩:=h;obtain⟨as,i⟩:=c.reads I m;obtain⟨bs,k⟩:=d.reads I n;exact SeqAt.compareNe_reads i k e f (by omega) ⟨.b _,H,I,rfl,q⟩
def Dm (K:kQ) (neg:Bool):R2:=λx y H Q=>∃ (a b:Ad) (c:Aa V),x = .ref a/\y = .ref b/\lG K H a c/\lG K H b []/\Q (.b (if neg then !c.isEmpty else c.isEmpty)) H
theorem M9 (g:X.A.units+64<cLine):lH X (compareOp .Eq) (Dm X.K false):=by
 intro c s M H x y v u Q I F G h;obtain⟨a,b,L,rfl,rfl,f,z,q⟩:=h;cases F;cases G;obtain⟨B,D,m,_⟩:=I.list f;obtain⟨k,E,n,_⟩:=I.list z;cases E;have t:∀ d,d=L.isEmpty->EP X c M Q (.bool d) s:=λd e=>⟨.b d,H,I,rfl,by subst e;exact q⟩
 cases D with
 | nil=>exact SeqAt.RcAt.lists (e:=λ_=>true) m.isList n.isList rfl (by omega) (λi f _=>by simp at f) X.prog X.w _ _ (t _ (by simp))
 | cons r N=>exact SeqAt.RcAt.lists_lengths m.isList n.isList (by simp) (by omega) X.prog X.w _ _ (t _ rfl)
end
end L2
namespace L2
open PySem PySem.Spec PyProof.Rows
section
variable {X:Cx}
def Cc (z:Af) (lo g:Ab Int):Af:=⟨((z.cps.toList.drop (HT.sIx z.length 0 lo)).take (HT.sIx z.length z.length g-HT.sIx z.length 0 lo)).toArray⟩
theorem X1 (lo g:Ab Int) (n:Nat):Builtin.Str.strSliceIndices lo g 1 n=(List.range (HT.sIx n n g-HT.sIx n 0 lo)).map (HT.sIx n 0 lo+·):=by
 unfold Builtin.Str.strSliceIndices;rw[<- sliceRange_one];have c:∀ (v:Ab Int) (d:Nat),d<=n->(match v with | none=>((d:Nat):Int) | some i=>if (1:Int)>0 then max 0 (min (if i<0 then i+(n:Int) else i) (n:Int)) else max (-1) (min (if i<0 then i+(n:Int) else i) ((n:Int)-1)))=((HT.sIx n d v:Nat):Int):=by
  intro v d hd;cases v with
  | none=>rfl
  | some i =>
   simp only[HT.sIx,show (1:Int)>0 by decide,fX];by_cases h:i<0
   .simp only[h,fX]<;>omega
   .simp only[h,gM]<;>omega
 have a:=c lo 0 (dR _);have b:=c g n (bF _);simp only[show (1:Int)>0 by decide,fX] at a b |-;rw[<- a,<- b];cases lo<;>cases g<;>rfl
def Pp:V->Ab Int->Ab Int->Hp->VK->Prop:=λx lo a H Q=>∃ z:Af,x = .str z/\z.length<=sizeLine/\Q (.str (Cc z lo a)) H
theorem Qx (p:IsPart v o):∃ l:Ab (Int×Tok),v=partValue l/\o=l.map (·.1):=by
 cases p with
 | none=>exact⟨none,rfl,rfl⟩
 | int i t=>exact⟨some (i,t),rfl,rfl⟩
theorem Gs (z:Af):z.cps.toList.length=z.length:=by
 rw[eU];rfl
theorem str_ext {a b:Af}(h:a.cps.toList=b.cps.toList):a=b:=by
 obtain⟨a⟩:=a;obtain⟨b⟩:=b
 congr
 exact Array.toList_inj.mp h
theorem Ti:uC X Pp:=by
 intro c s L H x v G K lo B E Q I A n w y h;obtain⟨z,rfl,D,q⟩:=h;obtain⟨t,rfl⟩:=A;obtain⟨l,rfl,rfl⟩:=Qx w;obtain⟨u,rfl,rfl⟩:=Qx y;refine⟨"str",_,PySem.F.slot_str_getitem.lookup,typeIs_str _ z t,?_⟩;refine wpAny_getItem_str_slice (l:=l) (u:=u) (st:=none) n rfl ?_;have e:slicePicked z l u none=(List.range (HT.sIx z.length z.length (u.map (·.1))-HT.sIx z.length 0 (l.map (·.1)))).map (HT.sIx z.length 0 (l.map (·.1))+·):=X1 _ _ _;have d:(⟨((slicePicked z l u none).filterMap (z.cps[·]?)).toArray⟩:Af)=Cc z (l.map (·.1)) (u.map (·.1)):=by
  rw[e,pick_run];rfl
 have m:=HT.sIx_le z.length z.length (bF _) (u.map (·.1));have b:=HT.sIx_le z.length 0 (dR _) (l.map (·.1));unfold sliceMade;split
 .rename_i k
  have a:(slicePicked z l u none).length=z.length:=by
   have:=(cJ _ _).mp k;exact eq_of_beq this.2
  have f:Cc z (l.map (·.1)) (u.map (·.1))=z:=by
   rw[e,aA,cM] at a;apply str_ext;show ((z.cps.toList.drop _).take _)=z.cps.toList;have i:HT.sIx z.length 0 (l.map (·.1))=0:=by omega
   rw[i] at a |-;rw[kA,cG];rw[Gs];omega
  rw[f] at q;exact⟨.str z,H,I,⟨t,rfl⟩,q⟩
 .rw[d];refine⟨?_,.str _,H,I.tok _,⟨_,rfl⟩,q⟩;have:(Cc z (l.map (·.1)) (u.map (·.1))).length<=z.length:=by
   show ((z.cps.toList.drop _).take _).toArray.size<=_;rw[bE,cC,hV,Gs];omega
  omega
theorem Wd:mZ X (.type "dict") (λj H Q=>∃ (a:Ad) (g:Aa (fS×V)),j=[.ref a]/\Rd H a (.k g)/\∀ p,H p=none->Q (.ref p) (upd H p (.k g))):=by
 intro b s n H j m Q I r h;obtain⟨a,g,rfl,d,q⟩:=h;obtain⟨u,rfl,f⟩:=qH r;cases f;exact Sq I d λp i e c=>⟨.ref p,_,c,rfl,q p e⟩
theorem Zl (I:KV g C) (j:(g.map (·.1)).Nodup) :
  ∀ (r:Aa (fS×V)) (o:Aa (fS×Ac)),KV r o->(∀ p∈r,p∈g)->(∀ p∈r,pF p.2=true/\pH p.2 p.2=true)->PySem.W.KeqHits A s C o true:=by
 intro r;induction r with
 | nil=>intro o h _ _;cases h;exact .nil
 | cons p r x =>
  intro o h c i;cases h with
  | cons t u =>
   rename_i q d
   obtain⟨k,v⟩:=p;obtain⟨D,K⟩:=q;obtain⟨e,G⟩:=t;have e:k=D:=e;subst e;have w:nV g k=some v:=by
    have b:=c (k,v) aT;have:∀ (l:Aa (fS×V)),(l.map (·.1)).Nodup->(k,v)∈l->nV l k=some v:=by
     intro l;induction l with
     | nil=>intro _ h;cases h
     | cons a l B =>
      intro j c;have j:(a.1::l.map (·.1)).Nodup:=j;obtain⟨E,F⟩:=bX.mp j;rcases aI.mp c with z | z
      .subst z;exact sL rfl
      .rw[sJ (λe=>E (by rw[e];exact aD.mpr ⟨_,z,rfl⟩))];exact B F z
    exact this g j b
   have m:=I.val k;rw[w] at m;obtain⟨y,n,H⟩:=m.some_of;obtain⟨f1,f2⟩:=i (k,v) aT;have f:SeqAt.EqAt A s K y (pH v v):=Jh G H f1 f1;rw[f2] at f;have:=PySem.W.KeqHits.hit n f (x d u (λp b=>c p (bD _ b)) λp b=>i p (bD _ b))
   simpa using this
theorem GN:mZ X (.builtin "isinstance") (λj H Q=>∃ (x c:V) (t g:Ac) (b:Bool),j=[x,c]/\lA c g/\TyOf X.K H x t/\PySem.W.kitOne X.K t g=some b/\Q (.b b) H):=by
 intro k s A H j y Q I r h;obtain⟨x,c,t,g,b,rfl,d,ty,e,q⟩:=h;obtain⟨u,v,rfl,m,f⟩:=yV r;have:v=g:=by
  cases c with
  | ref a=>cases d;cases f;rfl
  | ty n=>cases d;cases f;rfl
  | e=>cases d;cases f;rfl
  | b b=>cases d;cases f;rfl
  | int i=>obtain⟨z,rfl⟩:=d;exact absurd e (by unfold PySem.W.kitOne PySem.W.kitCls;cases ty<;>simp)
  | str i=>obtain⟨z,rfl⟩:=d;exact absurd e (by unfold PySem.W.kitOne PySem.W.kitCls;cases ty<;>simp)
  | byt i=>obtain⟨z,rfl⟩:=d;exact absurd e (by unfold PySem.W.kitOne PySem.W.kitCls;cases ty<;>simp)
  | flt i=>obtain⟨z,rfl⟩:=d;exact absurd e (by unfold PySem.W.kitOne PySem.W.kitCls;cases ty<;>simp)
 subst this;exact Xi I m ty e λw=>⟨.b b,H,I.tok _,rfl,q⟩
end
def sW (z:Af):It:=⟨λi _=>i<z.length,λi H x a=>a=H/\∃ c,z.cps[i]?=some c/\x = .str ⟨#[c]⟩,λi _=>z.length<=i⟩
theorem R0 {P:Ah}{K:kQ}(z:Af) (t:Tok) (it:Ad):Turn P w K tg (sW z) [it] it (λi h=>h.IsStrIter it "str_ascii_iterator" z t i) where
 mem:=by simp
 obj:=λi h st b hb=>by
  have e:b=it:=by simpa using hb
  subst e;obtain⟨o,e,c,d⟩:=st;exact⟨o,e,λv z=>by rw[d] at z;cases z⟩
 keep:=λi h h' st k=>by
  obtain⟨o,e,r⟩:=st;exact⟨o,k it (by simp) o e,r⟩
 item:=by
  intro X hP hw hK hc i pins s σ H E I hf st hg;subst hP hw hK;have hg:i<z.length:=hg;obtain⟨f0,f1,f2,f3,f4,f5⟩:=hf it (by simp);have hz:z.cps[i]?=some (z.cps[i]'hg):=dL hg;refine wpAny_pyNext_ascii_item st hz λh' st' sb=>?_
  have I1:Inv X pins σ H { s with heap:=h',toks:=s.toks+1 }:=I.turned (t':=s.toks+1) (λb o hb e=>(sb.2 b hb).trans e) f0 f1 f3 f4 f5;obtain⟨o,e,c,d⟩:=id st';exact⟨_,rfl,Bj (s:={ s with heap:=h',toks:=s.toks+1 }) e c d (by decide) ⟨.str ⟨#[z.cps[i]'hg]⟩,H,I1,⟨_,rfl⟩,⟨rfl,_,hz,rfl⟩,st',λb hb=>(hf b hb).1⟩⟩
 done:=by
  intro X hP hw hK hc i pins s σ H E I hf st hg;subst hP hw hK;have hg:z.length<=i:=hg;obtain⟨f0,f1,f2,f3,f4,f5⟩:=hf it (by simp);exact wpAny_pyNext_ascii_end (I.ok.hd hc) st (fL (by exact hg)) λh' eb=>⟨rfl,I.turned (t':=s.toks) (λb o hb e=>eb b o hb e) f0 f1 f3 f4 f5⟩
 self:=λ_ _ _ _ _ st h=>wpAny_pyIter_striter_ascii st h
section
variable {X:Cx}
def DT (g:TE):TI:=λb H R=>g b H λx a=>∃ z:Af,x = .str z/\z.cps.all (·<128)=true/\R (sW z) a
theorem DP (g:PE X l j):PI X o l (DT j):=by
 intro a s k H R I h;refine kY (g a s k H _ I h) λv c f=>?_
 obtain⟨x,i,d,y,z,n,u,q⟩:=f;subst n;obtain⟨t,rfl⟩:=y;refine wpAny_pyIter_ascii u ?_;have m:Inv X a k i { c with heap:=c.heap.push { cls:=.type "str_ascii_iterator",data:=.fields #[.str z t,.int 0 0] } }:=d.kept (t':=c.toks) λb A q=>aQ _ q
 refine⟨c.heap.objs.size,[c.heap.objs.size],_,sW z,i,rfl,m,R0 z t _,⟨_,bL _ rfl,rfl,rfl⟩,λb w=>?_,q⟩;have e:b=c.heap.objs.size:=by simpa using w
 subst e;exact d.fpOk (bF _) (d.hok.fresh (bF _))
end
end L2
namespace PySem
open PyProof.Rows L2
section
theorem Zz {s g:Ae}(a:g.gens=s.gens) (b:g.drawn=s.drawn) (c:g.os=s.os):g={ s with heap:=g.heap,toks:=g.toks }:=by
 cases s;cases g;cases a;cases b;cases c;rfl
end
theorem Ds:entryFor table "dict.update.loop" = some Builtin.«dict.update.loop»:=entryFor_of_tree (by kernel_rfl)
theorem wD:plainId "dict.update.loop" = true:=by decide +kernel
theorem Wu:typeLookup (.type "list") "keys" = pure none:=am_miss_of_fast (by decide +kernel)
section
theorem W3
  (l:s.heap.get? a=some { cls:=.type "list",dict:=none,data:=.seq j n,slots:=r }) (calm:A.handled=none) (o:∀ p C e,Heap.NewAttrErr s.heap p e (.ref a) "keys" -> E (.ref e) { s with heap:=p,toks:=C }) :
  wpAny (model g w) A (boundAndCalled (.builtin "list.__getattribute__") (.ref a) (.str "keys" u)) Q E s:=by
 have ask:wpAny (model g w) A (call (.builtin "list.__getattribute__") [.ref a,.str "keys" u]) Q E s :=
  jI iD ⟨_,l,rfl⟩ am_entry_list_getattribute (F.args_list_getattribute_2 _ _) (meets_getattribute_miss_list a j n r "keys" u Wu (by decide +kernel)) ⟨l,calm,o⟩
 unfold boundAndCalled;rw[iD.bind (.ref a)];exact aB (aH ask)
theorem DI (t:s.TypeIs (.ref e) "AttributeError") (j:E (.ref e) s) :
  wpAny (model g w) A (getattributeRaised o name (.type "list") (.ref e) none false false) Q E s:=by
 have last:wpAny (model g w) A (hookOrError o name (.ref e) false false none) Q E s:=aB (wpAny_throw j);have a:hookBehind (.type "list") none=pure none:=am_list_getattr_none;unfold getattributeRaised;refine aB (eY t iJ ?_);rw[aZ rfl,a];exact aB (aH last)
theorem IX
  (l:s.heap.get? a=some { cls:=.type "list",dict:=none,data:=.seq I n,slots:=J }) (calm:A.handled=none) (C:∀ j p e,Heap.NewExcOf s.heap j e "AttributeError" -> Q none { s with heap:=j,toks:=p }) :
  wpAny (model g w) A (getAttr? (.ref a) "keys") Q E s:=by
 have c:∀ j p e,Heap.NewAttrErr s.heap j e (.ref a) "keys" -> (∃ o,j.get? e=some o/\o.cls = .type "AttributeError")/\Q none { s with heap:=j,toks:=p }:=λj p e x=>by
  obtain⟨_,_,y⟩:=x.there;exact⟨⟨_,y,rfl⟩,C j p e x.of⟩
 let d:Ae:={ s with toks:=s.toks+1 };let b:Except Ac Ac->Ae->Prop:=λr i=>wpAny (model g w) A (match r with | .ok v=>pure (some v) | .error e=>do if <- isInstance e (.type "AttributeError") then pure none else throw e) Q E i
 have look:wpAny (model g w) A (getAttrBy (.ref a) (.str "keys" s.toks) false) (λv=>b (.ok v)) (λe=>b (.error e)) d:=by
  refine dB (aB (fY (T := "list") ⟨_,l,rfl⟩ (aB (kF iD.lookup ?_))));have own:wpAny (model g w) A (getAttrByItsOwn (.ref a) (.str "keys" s.toks) (.type "list") (.builtin "list.__getattribute__") false false) (λv=>b (.ok v)) (λe=>b (.error e)) d:=by
   refine aB (aH (aB (fE (dB (W3 (s:=d) l calm λj p e x=>?_)))));obtain⟨⟨o,f,h⟩,q⟩:=c j p e x;exact DI ⟨o,f,h⟩ (aB (eY (T := "AttributeError") ⟨o,f,h⟩ iJ (aH q)))
  exact own
 exact aB (wpAny_mkText (aB (fE look)))
end
section
variable {R:Result->Ae->Prop}{P:Nat->Ac->Prop}{St:Nat->Ae->Prop}
theorem JG (W:WalksS j w A.in1 J fp l G n P St) (d:Ad) (I:d∉fp) (C:Ag) (M:Nat->Ag->Prop) (U:∀ i h p,(∀ b o,b∉l->h.get? b=some o->p.get? b=some o)->M i h->M i p)
  (hT:∀ i v,i<n->P i v->∃ (t:Ad) (o:Obj) (m:Nat) (r x:Ac),v = .ref t/\t∉d::l/\C.get? t=some o/\o.cls = .type "tuple" /\ o.data = .seq #[r,x] m /\ ∀ (s:Ae) (Q:Unit->Ae->Prop) (E:Ac->Ae->Prop),(∀ b o,b∉d::l->C.get? b=some o->s.heap.get? b=some o)->M i s.heap ->(∀ p c,M (i+1) p->Heap.SameBut d s.heap p->Q () { s with heap:=p,toks:=s.toks+c })->wpAny (model j w) A.in1 (dictSet d r x) Q E s) :
  ∀ (k i:Nat) (s:Ae),n-i=k->i<=n->St i s->(∀ b o,b∉d::l->C.get? b=some o->s.heap.get? b=some o)->M i s.heap ->
   (∀ g,Moved (d::l) G s g->M n g.heap->R (.ok (.ret .none)) g) ->
   codeAny (model j w) A (.builtin "dict.update.loop" ⟨[.ref d,.ref J,.int (i:Int) 0,.none],[]⟩) R s:=by
 have q:∀ b∈l,b∈d::l:=λb z=>bD _ z
 intro k;induction k with
 | zero =>
  intro i s hk hi st f L K;have ei:i=n:=by omega
  subst ei;refine jO Ds ?_;rw[gX wD _];show wpAny _ A.in1 (pyNext (.ref J) >>= _) _ _ s;refine aB (W.done s _ _ st λg D=>?_);show wpAny _ A.in1 (Builtin.Dict.addKeywords d [] >>= _) _ _ g;exact aB (aH (aH (K g (D.mono q) (U _ _ _ D.heap L))))
 | succ k ih =>
  intro i s hk hi st f L K;have B:i<n:=by omega
  refine jO Ds ?_;rw[gX wD _];show wpAny _ A.in1 (pyNext (.ref J) >>= _) _ _ s;refine aB (W.item i s _ _ B st λv g hv Z D=>?_);obtain⟨t,o,m,r,x,rfl,ht,V,O,S,put⟩:=hT i v B hv;have a:∀ b o,b∉d::l->C.get? b=some o->g.heap.get? b=some o:=λb o u e=>D.heap b o (λz=>u (q _ z)) (f b o u e)
  have y:=a t o ht V;show wpAny _ A.in1 (holding [Value.ref t] _ >>= _) _ _ g;refine aB (dB ?_);refine aB (wpAny_tryCatch ?_);unfold Builtin.Dict.pairItems;refine aB (fY (T := "tuple") ⟨o,y,O⟩ ?_);rw[aZ (by decide)];refine aB (eF y S ?_);refine aH ?_;show wpAny _ A.in1 (holding [r,x] (dictSet d r x)) _ _ g;refine dB (put g _ _ a (U _ _ _ D.heap L) λp c N Y=>?_);refine aH ⟨kH wD _,?_⟩;have e1:(rawInt ((i:Int)+1))=Value.int ((i+1:Nat):Int) 0:=by rfl
  rw[e1];refine ih (i+1) _ (by omega) B (W.frame _ g _ _ Z (kJ _ _) λb u o e=>?_) (λb o u e=>?_) N λX H F=>?_
  .rw[Y.2 b (λz:b=d=>I (by rw[<- z];exact u))];exact e
  .rw[Y.2 b (λz:b=d=>u (by rw[z];exact aT))];exact a b o u e
  .refine K X (Moved.trans W.gtrans ((D.mono q).then_heap (kJ _ _) λb o u e=>?_) H) F;rw[Y.2 b (λz:b=d=>u (by rw[z];exact aT))];exact e
end
section
variable {K:Type} [DecidableEq K] {knd:KeyKind prog w K}{A:Around}
abbrev Jf (l:Ad):Obj:={ cls:=.type "list_iterator",data:=.fields #[.ref l,.int 0 0] }
abbrev Se (g:Array Ac) (n:Nat) (j:Array (Ab Ac)):Obj:={ cls:=.type "list",dict:=none,data:=.seq g n,slots:=j }
theorem JI (t:s.TypeIs (.ref d) "dict") (j:s.heap.get? l=some (Se r n I)) (calm:A.handled=none)
  (C:∀ g o e,Heap.NewExcOf s.heap g e "AttributeError" -> Q (.again (.builtin "dict.update.loop" ⟨[.ref d,.ref g.objs.size,.int 0 0,.none],[]⟩)) { s with heap:=g.push (Jf l),toks:=o }) :
  wpAny (model prog w) A (Builtin.«dict.__init__» ⟨[.ref d,.ref l],[]⟩) Q E s:=by
 have first:wpAny (model prog w) A (Builtin.Dict.selfAndRest "__init__" ⟨[.ref d,.ref l],[]⟩) (λp b=>p=(d,[Value.ref l])/\b=s) E s:=aB (jD t (aH ⟨rfl,rfl⟩))
 have a:wpAny (model prog w) A (Builtin.Dict.updateFrom "dict.__init__" d (.ref l) [] .none) Q E s:=by
  refine aB (fY (T := "list") ⟨_,j,rfl⟩ ?_);rw[aZ (by decide)];refine aB (IX j calm λg o e x=>?_);exact aB (kB (aB (iT ⟨_,x.keeps _ _ j,rfl,n,rfl⟩ (aH (C g o e x)))))
 exact aB (dH first (λp b q=>by obtain⟨rfl,rfl⟩:=q;exact a) λ_ _ q=>q)
def xU (s:Ae):Ae:={ s with heap:=s.heap.push { cls:=.type "dict",data:=.dict #[] } }
theorem Wi (M:Nat->Ag->Prop) (I:A.handled=none) (C:s.heap.get? l=some o) (hc:o.cls = .type "list") (hd:o.dict=none) (r:o.data = .seq items nl)
  (m0:∀ h:Ag,h.get? s.heap.objs.size=some { cls:=.type "dict",data:=.dict #[] }->M 0 h) (T:∀ i h g,(∀ b o,b<=s.heap.objs.size->h.get? b=some o->g.get? b=some o)->M i h->M i g)
  (U:∀ (i:Nat) v,items[i]?=some v->∃ (t:Ad) (o:Obj) (m:Nat) (p x:Ac),v = .ref t/\s.heap.get? t=some o/\o.cls = .type "tuple" /\ o.data = .seq #[p,x] m /\ ∀ (B:Around) (j:Ae) (Q:Unit->Ae->Prop) (E:Ac->Ae->Prop),(A.units+2<cLine->B.units<cLine)->(∀ b o,s.heap.get? b=some o->j.heap.get? b=some o)->M i j.heap ->(∀ g c,M (i+1) g->Heap.SameBut s.heap.objs.size j.heap g->Q () { j with heap:=g,toks:=j.toks+c })->wpAny (model prog w) B (dictSet s.heap.objs.size p x) Q E j)
  (h:∀ (g:Ag) (J:Nat),M items.size g->(∀ b o,s.heap.get? b=some o->g.get? b=some o)->Q (.ref s.heap.objs.size) { s with heap:=g,toks:=J }) :
  wpAny (model prog w) A (call (.type "dict") [.ref l]) Q E s:=by
 obtain⟨oc,od,Z,aa⟩:=o;cases hc;cases hd;cases r;let D:=s.heap.objs.size;have O:(xU s).heap.get? D=some { cls:=.type "dict",data:=.dict #[] }:=bL _ rfl;have ty:(xU s).TypeIs (.ref D) "dict" := ⟨_,O,rfl⟩;have old:∀ b o,s.heap.get? b=some o->(xU s).heap.get? b=some o:=λb o e=>aQ _ e
 refine callType_codes F.kt_called_dict (F.kt_typeCall_dict_1 _) F.entry_dict_init (kt_code_dict_new _ (Q₁:=λv N=>v = .ref D/\N=xU s) ⟨rfl,rfl⟩) λv N q=>?_
 obtain⟨rfl,rfl⟩:=q;refine⟨ty,F.args_dict_init_2 _ _,JI ty (old _ _ C) (by simp[I]) λu J e x=>⟨kH wD _,?_⟩⟩;have d:D<u.objs.size:=bK (x.keeps _ _ O);have H:l<D:=bK C;have keeps:∀ b o,s.heap.get? b=some o->(u.push (Jf l)).get? b=some o:=λb o e=>aQ _ (x.keeps _ _ (old b o e))
 have a:∀ {b:Ad},b<D->b∉[D,u.objs.size]:=λ{b} G z=>by
  rcases aI.mp z with q | q
  .exact cB G q
  .exact cB (Nat.lt_trans G d) (aW.mp q)
 have n:D∉[u.objs.size,l]:=λz=>by
  rcases aI.mp z with q | q
  .exact cB d q
  .exact Nat.ne_of_gt H (aW.mp q)
 have f:(u.push (Jf l)).IsList l items:=⟨_,keeps _ _ C,rfl,nl,rfl⟩;refine JG ((Walks.list (by simp[I]) u.objs.size l (cB (Nat.lt_trans H d)) items).toS) D n s.heap M (λi h g k m=>T i h g (λb o V e=>k b o (λz=>cB (dM V d) (aW.mp z)) e) m) (λi v _ X=>?_) items.size 0 _ (by omega) (dR _) ⟨⟨_,bL _ rfl,rfl,rfl⟩,f⟩ (λb o _ e=>keeps b o e) (m0 _ (aQ _ (x.keeps _ _ O))) λj L fin=>?_
 .obtain⟨t,ot,m,p,y,rfl,P,r1,r2,put⟩:=U i v X;exact⟨t,ot,m,p,y,rfl,a (bK P),P,r1,r2,λN S R Y=>put _ N S R (λW=>by simpa using W) λb o e=>Y b o (a (bK e)) e⟩
 .have res:=h j.heap j.toks fin λb o e=>L.heap b o (a (bK e)) (keeps b o e)
  rw[show j={ s with heap:=j.heap,toks:=j.toks } from Zz L.gens L.drawn L.os];exact⟨rfl,res⟩
theorem Tf (J:A.handled=none) (T:s.heap.get? l=some o) (I:o.cls = .type "list") (hd:o.dict=none) (p:o.data = .seq items nl)
  (hn:more.length=items.size)
  (C:∀ (i:Nat) v,items[i]?=some v->∃ (t:Ad) (o:Obj) (m:Nat) (k:K) (j x:Ac),v = .ref t/\s.heap.get? t=some o/\o.cls = .type "tuple" /\ o.data = .seq #[j,x] m/\knd.is k j=true/\more[i]?=some (k,x)) (U:items.size<=sizeLine)
  (h:∀ (g:Ag) (r:Nat),g.DictOf knd s.heap.objs.size (merged [] more)->(∀ b o,s.heap.get? b=some o->g.get? b=some o)->Q (.ref s.heap.objs.size) { s with heap:=g,toks:=r }) :
  wpAny (model prog w) A (call (.type "dict") [.ref l]) Q E s:=by
 refine Wi (λi g=>g.DictOf knd s.heap.objs.size (merged [] (more.take i))) J T I hd p (λn e=>?_) (λi n y k m=>?_) (λi v H=>?_) λg r m=>h g r (by rw[cG (by omega)] at m;exact m)
 .obtain⟨z,f,d,u,rest⟩:=Heap.DictOf.new (knd:=knd) s.heap;cases u.symm.trans (bL _ rfl);exact⟨_,f,d,e,rest⟩
 .obtain⟨z,f,d,u,rest⟩:=m;exact⟨z,f,d,k _ _ (bF _) u,rest⟩
 .obtain⟨t,M,m,L,j,x,rfl,n,y,F,c,a⟩:=C i v H;refine⟨t,M,m,j,x,rfl,n,y,F,λB O Q E _ _ G k=>wpAny_dictSet_pairs (hsz:=?_) c G λg q N=>k g 1 (by rw[merged_take_succ [] more i (L,x) a];exact q) N⟩;have D:=merged_length_le ([]:Aa (K×Ac)) (more.take i);rw[eG,cC] at D;omega
end
end PySem
namespace L2
open PySem PySem.Spec PyProof.Rows
section
variable {X:Cx}
def B7 (H:Hp) (j:Aa Ad) (g:Aa (fS×V)):Prop:=Paired (λt (a:fS×V)=>H t=some (.t [kV a.1,a.2])) j g
theorem GY {P:Ah}(p:nA P w H h):∀ {l:Aa Ad}{g:Aa (fS×V)},B7 H l g->∃ more:Aa (fS×Ac),KV g more /\
  ∀ (i:Nat) t,l[i]?=some t->∃ (o:Obj) (m:Nat) (k:fS) (j x:Ac),h.get? t=some o/\o.cls = .type "tuple" /\ o.data = .seq #[j,x] m/\(nG P w).is k j=true/\more[i]?=some (k,x):=by
 intro l g r;unfold B7 at r;induction r with
 | nil=>exact⟨[],.nil,λi t e=>by simp at e⟩
 | @cons t j l g d G u =>
  obtain⟨more,B,q⟩:=u;obtain⟨z,v,a,⟨o,s,f,n,b⟩,_⟩:=p t _ d;cases a with
  | @cons _ E _ K y a =>
   cases a with
   | @cons _ c _ F A a =>
    cases a;refine⟨(j.1,c)::more,.cons ⟨rfl,A⟩ B,λi D e=>?_⟩;cases i with
    | zero =>
     simp at e;subst e;exact⟨o,n,j.1,E,c,s,f,b,uG y,rfl⟩
    | succ i=>simpa using q i D (by simpa using e)
theorem DR (l:X.calm=true):mZ X (.type "dict") (λC H Q=>∃ (p:Ad) (j:Aa Ad) (g:Aa (fS×V)),C=[.ref p]/\lG X.K H p (j.map V.ref)/\B7 H j g/\g.length<=1000/\∀ d,H d=none->Q (.ref d) (upd H d (.k (pD [] g)))):=by
 intro E s σ H C us Q I r h;obtain⟨p,j,g,rfl,U,D,hz,q⟩:=h;obtain⟨u,rfl,B⟩:=qH r;cases B;obtain⟨c,F,⟨o,n,e,L,M,N⟩,_⟩:=I.list U;have f:=F.length;rw[aA] at f;have Z:j.length=g.length:=D.length;obtain⟨more,G,J⟩:=GY I.hok D;have T:=G.length;have b:∀ (i:Nat) v,c[i]?=some v->∃ t,j[i]?=some t/\v = .ref t:=by
  intro i v y;have hi:i<c.length:=(aL.mp y).1;have:i<j.length:=by omega
  obtain⟨u,hu,B⟩:=F.get (i:=i) (x:=V.ref j[i]) (by simp[this]);rw[hu] at y;cases y;cases B;exact⟨j[i],by simp[this],rfl⟩
 refine Tf (knd:=nG X.prog X.w) (more:=more) (I.ok.hd l) e L M N (by rw[bE];omega) ?_ (by rw[bE];exact hU (dM (show c.length<=1000 by omega) (by decide))) λh' tk W Y=>?_
 .intro i v y;obtain⟨t,ht,rfl⟩:=b i v (by simpa using y);obtain⟨o,m,k,kv,x,z,O,P,R,S⟩:=J i t ht;exact⟨t,o,m,k,kv,x,rfl,z,O,P,R,S⟩
 .have A:(pD [] g).length<=sizeLine:=by
   have z:=B1 g [];rw[eG] at z;exact hU (dM (show (pD [] g).length<=1000 by omega) (by decide))
  refine⟨.ref s.heap.objs.size,_,I.laid (a:=s.heap.objs.size) (o:=.k (pD [] g)) (t':=tk) Y (bF _) ?_,rfl,q _ I.fresh⟩;exact yQ A (dP.mpr (eR (cB I.big))) (G.merge .nil) W
end
noncomputable def Jc (o:Ab Af) (N:Aa Af) (kind:Af->Ab NameKind) (g:Scope) (T j:Aa Af) (l:Aa Nat):Bool :=
 decide (g.names.filter (λp=>p.2 == .cell)=o.toList.map λn=>(n,NameKind.cell))&&o.all (λa=>g.names.lookup a == some .cell)&&g.names.all (λp=>p.2 != .free||kind p.1 == some .cell) &&
 g.names.all (λp=>p.2 != .local||g.names.lookup p.1 == some .local) &&
 (j.zip l).all (λp=>decide (N[p.2]?=some p.1)&&g.names.lookup p.1 == some .free)&&j.length == l.length
abbrev zX:=Jc none
noncomputable def qF (T:Aa Af) (g:Aa Nat) (j:St):St:=T.map (λ_=>none)++g.map (λi=>(j[i]?).join)
noncomputable def qA (X:Cx) (p:Aa Af) (g:Scope) (o:Aa (Af×Ad)) (C:Ad) (l:Ae) (j:Hp) (r:Aa Ad):Cx :=
 { prog:=X.prog,w:=X.w,K:=X.K,mg:=X.mg,base:=X.base,A:=X.A,N:=p,s₀:=l,H₀:=j,env:=compEnvC g o C X.env,outer:=X.stack,stack:=X.stack,ex:=r, fn:=λx=>(o.lookup x).isNone,calm:=X.calm,pn:=[],xe:=λ_ _=>False }
def tN (X:Cx) (g:Aa Expr) (t:TT):Prop :=
 ∀ (a:Aa (Ad×Obj)) (s:Ae) (b:St) (H:Hp) (Q:Bool->Hp->Prop),Inv X a b H s->t b H Q ->
  wpAny (model X.prog X.w) X.A (forIn g true λc r=>if r=true then do let ok <- isTrue c X.env (eval c X.env);pure (ForInStep.yield ok) else pure (ForInStep.yield r)) (TP X a b Q) X.xe s
def Fi:TT:=λ_ H Q=>Q true H
theorem P8 {X:Cx}:tN X [] Fi:=λa s b H Q I h=>wpAny_tests_nil ⟨H,I,h⟩
theorem GX {X:Cx}(h:PT X c t):tN X [c] t:=λa s b H Q I hw=>wpAny_tests_one (h a s b H Q I hw)
def zR (T:Aa Af) (j:Aa Nat) (J:It) (g:TG) (r:TT) (p:TE) (C:St) (o:Hp) (Q:VK) (D:Ad):Prop :=
 ∃ W:Nat->Nat->Aa V->St->Hp->Prop,(∃ m,W 0 m [] (qF T j C) (upd o D (.l [])))/\∀ i m c h d,W i m c h d ->
  (J.stop i d/\Q (.ref D) d)\/(J.go i d/\∃ (N:St->V->Hp->Prop) (F:St->Hp->Prop),(∀ a v k,N a v k->k D=some (.l c)/\c.length<sizeLine/\∃ f,f<m/\W (i+1) f (c++[v]) a (upd k D (.l (c++[v]))))/\(∀ a e,F a e->∃ f,f<m/\W (i+1) f c a e) /\ ∀ x n,J.yld i d x n->g x h n λa q=>r a q λb e=>if b=true then p a e (N a) else F a e)
def Bw (T:Aa Af) (j:Aa Nat) (p:TI) (g:TG) (o:TT) (l:TE):TE:=λb H Q=>p b H λJ a=>∀ D,a D=none->zR T j J g o l b a Q D
theorem Gu:∀ (names:Aa (Af×NameKind)) (g:Aa (Af×Ad)),(∀ p∈names,p.2 = .free->∃ c,env.cells.lookup p.1=some c) ->
  (∀ x c,g.lookup x=some c->env.cells.lookup x=some c) ->
  ∃ j,(forIn names g λx r=>if (x.2 == NameKind.free)=true then (cellOf env x.1 >>= λa=>pure (ForInStep.yield ((x.1,a)::r))) else pure (ForInStep.yield r):Sem (Aa (Af×Ad)))=pure j /\
   (∀ x c,j.lookup x=some c->env.cells.lookup x=some c)/\(∀ x,(x,NameKind.free)∈names->(j.lookup x).isSome=true)/\(∀ x,(g.lookup x).isSome=true->(j.lookup x).isSome=true)
 | [],g,_,i=>⟨g,rfl,i,λx h=>by simp at h,λ_ h=>h⟩
 | (n,k)::r,g,v,i=>by
  by_cases w:k = .free
  .subst w;obtain⟨c,z⟩:=v (n,.free) aT rfl;have u:∀ x d,((n,c)::g).lookup x=some d->env.cells.lookup x=some d:=by
    intro x d h;rw[dJ] at h;cases e:x == n with
    | true=>rw[e] at h;have:=gY.mp e;subst this;cases h;exact z
    | false=>rw[e] at h;exact i x d h
   obtain⟨j,m,s,t,f⟩:=Gu r ((n,c)::g) (λp y=>v p (bD _ y)) u;have A:(((n,c)::g).lookup n).isSome=true:=by rw[dJ];simp
   refine⟨j,?_,s,λx b=>?_,λx b=>f x ?_⟩
   .rw[jQ];simp only[jJ,fX];have:cellOf env n=pure c:=by unfold cellOf;rw[z]
    rw[this];exact m
   .rcases aI.mp b with q | q
    .cases q;exact f _ A
    .exact t x q
   .rw[dJ];cases e:x == n with
    | true=>rfl
    | false=>exact b
  .obtain⟨j,m,s,t,f⟩:=Gu r g (λp y=>v p (bD _ y)) i;refine⟨j,?_,s,λx b=>?_,f⟩
   .rw[jQ];have:(k == NameKind.free)=false:=by simpa using w
    simp only[this,fQ,gM];exact m
   .rcases aI.mp b with q | q
    .cases q;exact absurd rfl w
    .exact t x q
theorem HD (o:∀ p∈g.names,p.2 = .free->∃ c,j.cells.lookup p.1=some c) :
  ∃ l,closureFor g j=pure l/\(∀ x c,l.lookup x=some c->j.cells.lookup x=some c)/\(∀ x,(x,NameKind.free)∈g.names->(l.lookup x).isSome=true):=by
 obtain⟨l,e,d,f,_⟩:=Gu (env:=j) g.names [] o (λx c h=>by simp at h);refine⟨l,?_,d,f⟩;simp only[closureFor];have b:(forIn g.names [] λx r=>if (x.2 == NameKind.free)=true then (cellOf j x.1 >>= λa=>pure (ForInStep.yield ((x.1,a)::r))) else pure (ForInStep.yield r):Sem (Aa (Af×Ad)))=pure l:=e
 first
  | exact b
  | (simp only[bind_pure];exact b)
theorem FJ (h:g.names.lookup x=some k):∃ j,(relabel g env).names.lookup x=some j/\(j=k\/(k = .free/\j = .cell)):=by
 have:∀ names:Aa (Af×NameKind),names.lookup x=some k->∃ j,(names.map λ(p:Af×NameKind)=>match p with | (n,k)=>if (k == NameKind.free&&env.scope.kind == .function&&env.kindOf n == some .cell) then (n,NameKind.cell) else (n,k)).lookup x=some j/\(j=k\/(k = .free/\j = .cell)):=by
  intro names;induction names with
  | nil=>intro h;simp at h
  | cons p r b =>
   obtain⟨n,c⟩:=p;intro h;rw[bH];by_cases a:(c == NameKind.free&&env.scope.kind == .function&&env.kindOf n == some .cell)=true
   .simp only[a,fX];rw[dJ] at h |-;cases e:x == n with
    | true =>
     rw[e] at h;cases h;have:k=NameKind.free:=by
      have:=(cJ _ _).mp ((cJ _ _).mp a).1;exact gY.mp this.1
     exact⟨_,rfl,.inr ⟨this,rfl⟩⟩
    | false=>rw[e] at h;exact b h
   .simp only[a,gM];rw[aK (by simp)];rw[dJ] at h |-;cases e:x == n with
    | true=>rw[e] at h;cases h;exact⟨_,rfl,.inl rfl⟩
    | false=>rw[e] at h;exact b h
 exact this g.names h
theorem FR {R:Result->Ae->Prop}{iter:Expr}(I:Nat->Ae->Prop)
  (ae:∀ n s,I n s->wpAny (model g w) A (pyNext it) (λr l=>match r with
   | none=>R (.ok .next) l
   | some v=>wpAny (model g w) A (letOwnedTupleGo target it v) (λ_ o=>wpAny (model g w) A (assign target j v) (λ_ C =>
     wpAny (model g w) A (forIn ac true λc r=>if r=true then do let ok <- isTrue c j (eval c j);pure (ForInStep.yield ok) else pure (ForInStep.yield r)) (λok p =>if ok=true then wpAny (model g w) A (eval ab j) (λx J =>wpAny (model g w) A (call (.builtin "list.append") [aa,x]) (λ_ T=>∃ m,m<n/\I m T) (λ_ _=>False) J) (λ_ _=>False) p else ∃ m,m<n/\I m p) (λ_ _=>False) C) (λ_ _=>False) o) (λ_ _=>False) l) (λ_ _=>False) s)
  (n:Nat) (h:I n s) :
  codeAny (model g w) A (.compLoop (.ListComp ab [⟨target,iter,ac,0⟩] U pos) 0 it aa j) R s:=by
 refine codeAny_loop rfl I (λn s q=>?_) n h;show wpAny _ A ((compTurn (.ListComp ab [⟨target,iter,ac,0⟩] U pos) 0 it aa j).onRaise (λx=>do noteFrame x j;theTreesLotGoes x)) _ _ s;refine wpAny_noted ?_;rw[compTurn_list];refine aB (wpAny_standAt (aB (dH (ae n s q) (λr l b=>?_) λ_ _ a=>a.elim)));cases r with
 | none=>exact aH b
 | some v =>
  refine aB (dH b (λ_ o e=>?_) λ_ _ a=>a.elim);refine aB (dH e (λ_ C f=>aB (dH f (λok p d=>?_) λ_ _ a=>a.elim)) λ_ _ a=>a.elim);cases ok with
  | false=>exact aH ⟨rfl,d⟩
  | true =>
   exact aB (aB (dH d (λx J i=>aB (dH i (λ_ T k=>aH (aH ⟨rfl,k⟩)) λ_ _ a=>a.elim)) λ_ _ a=>a.elim))
structure LcO (nw:Option Str) (N:List Str) (kind:Str->Option NameKind) (scope:Scope) (capN:List Str) (caps:List Nat):Prop where
 one:scope.names.filter (λp=>p.2 == .cell)=nw.toList.map λn=>(n,NameKind.cell)
 cel:∀ nm,nw=some nm->scope.names.lookup nm=some .cell
 free:∀ p∈scope.names,p.2 = .free->kind p.1=some .cell
 loc:∀ p∈scope.names,p.2 = .local->scope.names.lookup p.1=some .local
 cap:∀ (j:Nat) (x:Str),capN[j]?=some x->∃ i:Nat,caps[j]?=some i/\N[i]?=some x/\scope.names.lookup x=some .free
 len:capN.length=caps.length
theorem Qr (h:Jc r N kind o T l g=true):LcO r N kind o l g:=by
 unfold Jc at h;simp only[cJ] at h;obtain⟨⟨⟨⟨⟨d,c⟩,f⟩,k⟩,m⟩,n⟩:=h;have q:l.length=g.length:=gY.mp n;refine⟨cR d,λu e=>?_,λp a e=>?_,λp a e=>?_,λj x e=>?_,q⟩
 .rw[e] at c;exact gY.mp c
 .have:=eZ.mp f p a;rw[e] at this
  simpa using this
 .have:=eZ.mp k p a;rw[e] at this
  simpa using this
 .have t:j<l.length:=(aL.mp e).1;have b:g[j]?=some (g[j]'(by omega)):=aR (by omega);have s:(x,g[j]'(by omega))∈l.zip g:=aE (i:=j) (by rw[List.getElem?_zip_eq_some];exact⟨e,b⟩);have:=eZ.mp m _ s;simp only[cJ,eD,gY] at this;exact⟨_,b,this.1,this.2⟩
theorem LcO.only (h:LcO o N kind g j l) (x:Af) (e:g.names.lookup x=some .cell):o=some x:=by
 have a:(x,NameKind.cell)∈g.names.filter (λp=>p.2 == .cell):=aX.mpr ⟨dQ e,rfl⟩;rw[h.one] at a;cases o with
 | none=>cases a
 | some n=>rw[(Prod.mk.inj (aW.mp a)).1]
theorem P4:∀ {g:Scope},(relabel g j).names.lookup x=some k->(k = .cell\/k = .free)->g.names.lookup x=some .cell\/g.names.lookup x=some .free:=by
 intro g;unfold relabel;have all:∀ names:Aa (Af×NameKind),(names.map λ(n,k)=>if (k == NameKind.free&&j.scope.kind == .function&&j.kindOf n == some .cell) then (n,NameKind.cell) else (n,k)).lookup x=some k->(k = .cell\/k = .free)->names.lookup x=some .cell\/names.lookup x=some .free:=by
  intro names;induction names with
  | nil=>intro h _;simp at h
  | cons p r d =>
   intro h b;obtain⟨n,e⟩:=p;rw[bH] at h;rw[dJ];cases c:x == n with
   | true =>
    by_cases a:(e == NameKind.free&&j.scope.kind == .function&&j.kindOf n == some .cell)=true
    .simp only[cJ,gY] at a;exact .inr (by rw[a.1.1])
    .simp only[a,fQ,gM,dJ,c] at h;cases h;rcases b with q | q
     .exact .inl (by rw[q])
     .exact .inr (by rw[q])
   | false =>
    by_cases a:(e == NameKind.free&&j.scope.kind == .function&&j.kindOf n == some .cell)=true
    .simp only[a,fX,dJ,c] at h;exact d h b
    .simp only[a,fQ,gM,dJ,c] at h;exact d h b
 exact all g.names
theorem Ft:∀ (names:Aa (Af×NameKind)) (n:Nat) (g:Aa (Af×Ad)) (h:Ag),names.filter (λp=>p.2 == .cell)=[]->cellsFrom n names g=g/\pushCells h names=h
 | [],_,_,_,_=>⟨rfl,rfl⟩
 | (y,k)::r,n,g,h,e=>by
  unfold cellsFrom pushCells;by_cases a:(k == NameKind.cell)=true
  .rw[List.filter_cons_of_pos (by exact a)] at e;cases e
  .rw[List.filter_cons_of_neg (by exact a)] at e;rw[aK a,aK a];exact Ft r n g h e
theorem Ks:∀ (names:Aa (Af×NameKind)) (n:Nat) (g:Aa (Af×Ad)) (h:Ag),names.filter (λp=>p.2 == .cell)=[(j,.cell)]->cellsFrom n names g=(j,n)::g/\pushCells h names=h.push { cls:=.type "cell",data:=.cell none }
 | [],_,_,_,e=>by cases e
 | (y,k)::r,n,g,h,e=>by
  unfold cellsFrom pushCells;by_cases a:(k == NameKind.cell)=true
  .rw[List.filter_cons_of_pos (by exact a)] at e;have b:=(kI e).1;have c:=(kI e).2;rw[aZ a,aZ a];have:=Ft r (n+1) ((y,n)::g) (h.push { cls:=.type "cell",data:=.cell none }) c;rw[this.1,this.2,(Prod.mk.inj b).1];exact⟨rfl,rfl⟩
  .rw[List.filter_cons_of_neg (by exact a)] at e;rw[aK a,aK a];exact Ks r n g h e
def wU (g:Ab Af) (C:Ad):Aa (Af×Ad):=match g with
 | none=>[]
 | some a=>[(a,C+1)]
theorem FG {globals:Ad}(one:g.names.filter (λp=>p.2 == .cell)=T.toList.map λn=>(n,NameKind.cell))
  (h:∀ j,j.Ns s.heap.objs.size (λ_=>none)->(∀ J,T=some J->j.IsCell (s.heap.objs.size+1) none)->(∀ b o,s.heap.get? b=some o->j.get? b=some o) ->Q { scope:=g,locals:=s.heap.objs.size,globals:=globals,cells:=wU T s.heap.objs.size++r,qual:=C,func:=none,code:=l.code,frame:=l.frame,builtins:=l.builtins } { s with heap:=j }) :
  wpAny M A (newFunctionEnv g globals r [] C none .none (some l)) Q E s:=by
 simp only[newFunctionEnv,jZ,fX];refine aB (wpAny_alloc ?_);refine aB (wpAny_layCells _ (λname kind I=>by cases i:kind == NameKind.cell<;>simp[i]) _ _ _ _ ?_);have z:(s.heap.push { cls:=.type "dict",data:=.dict #[] }).objs.size=s.heap.objs.size+1:=dN ..;have a:=Heap.Ns.new s.heap (.type "dict");show wpAny M A _ Q E _;cases T with
 | none =>
  obtain⟨c,f⟩:=Ft g.names (s.heap.push { cls:=.type "dict",data:=.dict #[] }).objs.size r (s.heap.push { cls:=.type "dict",data:=.dict #[] }) one;rw[c,f];exact aB (aH (aH (h _ a (λ_ e=>nomatch e) λb o e=>aQ _ e)))
 | some J =>
  obtain⟨c,f⟩:=Ks g.names (s.heap.push { cls:=.type "dict",data:=.dict #[] }).objs.size r (s.heap.push { cls:=.type "dict",data:=.dict #[] }) one;have d:cellsFrom ({ s with heap:=s.heap.push { cls:=.type "dict",data:=.dict #[] } }:Ae).heap.objs.size g.names r=(J,s.heap.objs.size+1)::r:=by rw[<- z];exact c
  rw[d,f];refine aB (aH (aH (h _ (a.keeps λb o e=>aQ _ e) (λ_ _=>?_) λb o e=>aQ _ (aQ _ e))));exact⟨_,by rw[<- z];exact bL _ rfl,rfl⟩
noncomputable def EF (j:Ab Af) (g:Aa (Af×Ad)):Af->Bool:=match j with
 | none=>λx=>(g.lookup x).isNone
 | some a=>λx=>x == a||(g.lookup x).isNone
def tD (p:Ab Af) (X:Cx) (r:Aa Af) (g:Scope) (o:Aa (Af×Ad)) (C:Ad) (l:Ae) (j:Hp) (I:Aa Ad):Cx :=
 { prog:=X.prog,w:=X.w,K:=X.K,mg:=X.mg,base:=X.base,A:=X.A,N:=r,s₀:=l,H₀:=j,env:=compEnvC g (wU p C++o) C X.env,outer:=X.stack,stack:=X.stack,ex:=I, fn:=EF p o,calm:=X.calm,pn:=[],xe:=λ_ _=>False }
section
variable {X:Cx}
theorem Inv.moved {t':Nat}{fp:Aa Ad}(I:Inv X g p H s) (j:∀ b∈fp,rL X g H b) (k:∀ b o,b∉fp->s.heap.get? b=some o->l.get? b=some o):Inv X g p H { s with heap:=l,toks:=t' }:=by
 have d:∀ b u,H b=some u->b∉fp:=λb u e z=>by rw[(j b z).1] at e;cases e
 refine I.step (g':=s.gens) (d':=s.drawn) (ch:=fp) (λb f=>⟨(j b f).2.2.2.1,(j b f).2.1,(j b f).2.2.2.2.1,(j b f).2.2.2.2.2⟩) (λb o _ _ a e _=>k b o a e) (λb o _ _ a e _=>⟨o.slots,k b o a e⟩) (λ_ _ _ _ n=>n)
  (λb o a e=>⟨o,k b o a e⟩) (λ_ _ e=>e) (λ_ _ _ e=>e) (λb x e=>⟨#[],by rw[e];simp⟩) (λm t=>?_) (λb u e=>?_) I.bare
 .obtain⟨o,i,h,w,r⟩:=t;exact⟨o,i,h,k _ o (λz=>(j _ z).2.1 rfl) w,r⟩
 .refine (I.hok b u e).stay (λc v a q=>k c v ?_ q) (λ_ q=>q) λ_ _ q=>q
  rcases a with z | z
  .rw[z];exact d b u e
  .exact d c _ z
end
section
variable {X:Cx}
theorem Qc {iter:Expr}(T U:Aa Af) (aa:Aa Nat) (hc:X.calm=true) (hi:PI X tg iter wi)
  (hk:j.kind = .function) (O:LcO nw X.N X.env.kindOf j U aa)
  (hg:∀ ae ab C cl fp,PG (tD nw X (T++U) j cl C ae ab fp) tg g)
  (ht:∀ ae ab C cl fp,tN (tD nw X (T++U) j cl C ae ab fp) af tt)
  (he:∀ ae ab C cl fp,PE (tD nw X (T++U) j cl C ae ab fp) a4 te)
  (hs:∀ x,foldedSetIterable iter X.env x=pure x)
(I:Inv X ac σ H s) (h:Bw T aa wi g tt te σ H Q)
  (fin:∀ (C D:Ad) (s6:Ae) (H5:Hp),Inv X ac σ H5 s6->Q (.ref D) H5->rL X ac H5 C->(∃ m,s6.heap.Ns C m)->compPost (model X.prog X.w) X.A X.xe a2 Qs (.ref D) C (.ok .next) s6) :
  wpAny (model X.prog X.w) X.A (comprehension (.ListComp a4 [⟨tg,iter,af,0⟩] j pos) j X.env (firstIterPos [⟨tg,iter,af,0⟩] pos) (newList []) (firstAsync [⟨tg,iter,af,0⟩]) (firstIter [⟨tg,iter,af,0⟩] X.env) a2) Qs X.xe s:=by
 have ax:∀ p∈j.names,p.2 = .free->∃ c,X.env.cells.lookup p.1=some c:=λp hp e=>I.ok.has p.1 (.inl (O.free p hp e))
 obtain⟨cl,aw,P,a3⟩:=HD ax;refine wpAny_comprehension_free (use:=a2) rfl hs aw hk O.loc (kY (hi ac s σ H _ I h) λv s1 h1=>kY h1 λb4 s2 h2=>?_);obtain⟨it,fp,tn,J,H2,rfl,I2,B,bb,f2,hD⟩:=h2;refine eT ?_;have f:Inv X ac σ (upd H2 s2.heap.objs.size (.l [])) { s2 with heap:=s2.heap.push { cls:=.type "list",data:=.seq ([]:Aa Ac).toArray } }:=I2.lnew (t':=s2.toks) (its:=[]) (ys:=[]) .nil (dR _);have fD:H2 s2.heap.objs.size=none:=I2.fresh;obtain⟨W,⟨m0,w0⟩,ao⟩:=hD s2.heap.objs.size fD;generalize bo:s2.heap.objs.size=D at f fD w0 ao |-;have bz:tn 0 (s2.heap.push { cls:=.type "list",data:=.seq ([]:Aa Ac).toArray }):=B.keep _ _ _ bb λb _ o e=>aQ _ e
 have a9:∀ b∈fp,b<D:=λb a=>by
  obtain⟨o,e,_⟩:=B.obj _ _ bb b a;rw[<- bo];exact bK e
 generalize bt:({ s2 with heap:=s2.heap.push { cls:=.type "list",data:=.seq ([]:Aa Ac).toArray } }:Ae)=K at f |-;have ag:tn 0 K.heap:=by rw[<- bt];exact bz
 generalize bp:upd H2 D (.l [])=M at f w0;have f3:∀ b∈fp,rL X ac M b:=λb a=>by
  obtain⟨z0,z⟩:=f2 b a;exact⟨by rw[<- bp,mD (cB (a9 b a))];exact z0,z⟩
 refine FG O.one (λZ V S old=>?_);have av:M K.heap.objs.size=none:=f.fresh;have ak:M (K.heap.objs.size+1)=none:=f.hok.fresh (jN _);generalize hC:K.heap.objs.size=C at V S av ak |-;have ba:∀ b o,K.heap.get? b=some o->b≠C:=λb o e=>by rw[<- hC];exact cB (bK e)
 have a5:∀ b∈fp,b≠C:=λb a=>by
  obtain⟨o,e,_⟩:=B.obj _ _ ag b a;exact ba b o e
 have a6:∀ b∈fp,b∉sT X.stack:=λb a z=>by
  rcases aI.mp (f.stkSub b z) with q | q
  .exact (f3 b a).2.1 q
  .exact (f3 b a).2.2.1 q
 have bm:∀ b∈fp,b<C:=λb a=>by
  obtain⟨o,e,_⟩:=B.obj _ _ ag b a;rw[<- hC];exact bK e
 have look:∀ x c,(wU nw C++cl).lookup x=some c->(nw=some x/\c=C+1)\/(nw≠some x/\cl.lookup x=some c):=λx c e=>by
  cases nw with
  | none=>exact .inr ⟨(λz=>nomatch z),e⟩
  | some nm =>
   have e:((nm,C+1)::cl).lookup x=some c:=e;rw[dJ] at e;cases a:x == nm with
   | true=>rw[a] at e;cases e;exact .inl ⟨by rw[gY.mp a],rfl⟩
   | false=>rw[a] at e;exact .inr ⟨(λz=>by cases z;simp at a),e⟩
 have lift:∀ x c,nw≠some x->cl.lookup x=some c->(wU nw C++cl).lookup x=some c:=λx c n e=>by
  cases nw with
  | none=>exact e
  | some nm =>
   show ((nm,C+1)::cl).lookup x=some c;rw[dJ,show (x == nm)=false from dP.mpr λz=>n (by rw[z])];exact e
 have ai:∀ x c,cl.lookup x=some c->c<C:=λx c e=>by
  obtain⟨v,o,ho,_⟩:=f.cell x c (P x c e);rw[<- hC];exact bK ho
 have aj:∀ b∈fp,∀ x c,(wU nw C++cl).lookup x=some c->c≠b:=λb a x c e=>by
  rcases look x c e with⟨_,q⟩ | ⟨_,q⟩
  .exact λz=>absurd (bm b a) (by rw[<- z,q];exact kM.mpr (jN C))
  .exact (f3 b a).2.2.2.2.1 x c (P x c q)
 have a8:(tD nw X (T++U) j cl C K M fp).Ok:=by
  refine⟨f.ok.mod,hk,f.ok.glob,f.ok.blt,Nat.le_of_eq hC,λx y c R E=>?_,λx hx=>?_,λx c R E=>?_,f.ok.hd,f.ok.frames,.inl rfl,λb a=>⟨a5 b a,λx c e=>aj b a x c e⟩,λb o e=>f.bs b o e,?_,λb o e z=>?_,λb a=>a6 b a,f.stack,f.stkFree⟩
  .rcases look x c R with⟨q1,r1⟩ | ⟨q1,r1⟩
   .rcases look y c E with⟨q2,r2⟩ | ⟨q2,r2⟩
    .exact bT (q1.symm.trans q2)
    .exact absurd (ai y c r2) (by rw[r1];exact kM.mpr (jN C))
   .rcases look y c E with⟨q2,r2⟩ | ⟨q2,r2⟩
    .exact absurd (ai x c r1) (by rw[r2];exact kM.mpr (jN C))
    .exact f.ok.inj x y c (P x c r1) (P y c r2)
  .have bu:(relabel j X.env).names.lookup x=some .cell\/(relabel j X.env).names.lookup x=some .free:=hx;have hf:j.names.lookup x=some .cell\/j.names.lookup x=some .free:=by
    rcases bu with q | q
    .exact P4 q (.inl rfl)
    .exact P4 q (.inr rfl)
   show ∃ c,(wU nw C++cl).lookup x=some c;by_cases a:nw=some x
   .subst a;exact⟨C+1,by show ((x,C+1)::cl).lookup x=_;rw[dJ,jJ]⟩
   .rcases hf with q | q
    .exact absurd (O.only x q) a
    .obtain⟨c,e⟩:=cP.mp (a3 x (dQ q));exact⟨c,lift x c a e⟩
  .rcases look x c E with⟨q,r⟩ | ⟨q,r⟩
   .show K.heap.objs.size<=c;rw[r,hC];exact jN C
   .cases nw with
    | none =>
     have R:(cl.lookup x).isNone=true:=R;rw[r] at R;cases R
    | some nm =>
     have R:(x == nm||(cl.lookup x).isNone)=true:=R;rw[r,show (x == nm)=false from dP.mpr λz=>q (by rw[z])] at R;cases R
  .exact bS f.ok.bsz f.sz
  .obtain⟨z0,z1,z2,z3,_⟩:=f3 b z;rcases z3 with q | q
   .exact f.ok.noex b o e q
   .exact absurd (bR (bK e) (bS f.ok.bsz q)) (fC _)
 have I4:Inv (tD nw X (T++U) j cl C K M fp) [] (qF T aa σ) M { K with heap:=Z }:=by
  refine⟨a8,rfl,f.bare,Un.kept old,⟨_,V,λi x v R E e3=>?_⟩,λx c e=>?_,av,λx c e=>?_,λp hp=>absurd (show p∈([]:Aa (Ad×Obj)) from hp) (by simp),f.hok.kept old,?_⟩
  .have R:(T++U)[i]?=some x:=R;unfold qF at E;by_cases hi:i<T.length
   .rw[fU (by simpa using hi),bM] at E;cases q:T[i]? with
    | none=>rw[q] at E;cases E
    | some z=>rw[q] at E;cases E
   .rw[dU (by omega)] at R;rw[dU (by simpa using hi),bM,aA] at E;obtain⟨k,k1,k2,k3⟩:=O.cap _ x R;rw[k1] at E;have E:(σ[k]?).join=some v:=bT E;have bj:σ[k]?=some (some v):=by
     cases q:σ[k]? with
     | none=>rw[q] at E;cases E
     | some z=>rw[q] at E;exact cL some E
    have Y:X.env.kindOf x=some .cell:=O.free (x,.free) (dQ k3) rfl;obtain⟨m,hn,hl⟩:=f.loc;obtain⟨u,r,l⟩:=hl k x v k2 bj (.inr (.inl Y));refine⟨u,r,.inr ⟨?_,?_⟩⟩
    .obtain⟨k',e5,e6⟩:=FJ (env:=X.env) k3;rcases e6 with z | ⟨_,z⟩
     .subst z;exact .inr e5
     .subst z;exact .inl e5
    .rcases l with⟨l1,_⟩ | ⟨_,c,e7,o,ay,az⟩
     .rw[Y] at l1;cases l1
     .obtain⟨c',e8⟩:=cP.mp (a3 x (dQ k3));have:=P x c' e8;rw[e7] at this;cases this;exact⟨c,lift x c (λz=>by rw[O.cel x z] at k3;cases k3) e8,o,old c o ay,az⟩
  .rcases look x c e with⟨n,q⟩ | ⟨_,q⟩
   .exact⟨none,q▸S x n⟩
   .obtain⟨v,o,ay,az⟩:=f.cell x c (P x c q);exact⟨v,o,old c o ay,az⟩
  .rcases look x c e with⟨_,q⟩ | ⟨_,q⟩
   .exact q▸ak
   .exact f.freeC x c (P x c q)
  .show (qF T aa σ).length=(T++U).length;unfold qF;rw[aO,aO,aA,aA,O.len]
 have au:∀ {H':Hp},(∀ b∈fp,H' b=none)->∀ b∈fp,rL (tD nw X (T++U) j cl C K M fp) [] H' b:=λhn b a =>
  ⟨hn b a,a5 b a,a6 b a,.inl a,λx c e=>aj b a x c e,λp hp=>absurd (show p∈([]:Aa (Ad×Obj)) from hp) (by simp)⟩
 have bc:tn 0 Z:=B.keep _ _ _ ag λb _ o e=>old b o e
 have b0:W 0 m0 [] (qF T aa σ) M:=w0;have an:codeAny (model X.prog X.w) X.A (.compLoop (.ListComp a4 [⟨tg,iter,af,0⟩] j pos) 0 (.ref it) (.ref D) (compEnvC j (wU nw C++cl) C X.env))
   (compPost (model X.prog X.w) X.A X.xe a2 Qs (.ref D) C) { K with heap:=Z }:=by
  refine FR (λn s'=>∃ i ys be H',Inv (tD nw X (T++U) j cl C K M fp) [] be H' s'/\tn i s'.heap/\(∀ b∈fp,H' b=none)/\W i n ys be H') ?_ m0 ⟨0,[],qF T aa σ,M,I4,bc,λb a=>(f3 b a).1,b0⟩;rintro n s5 ⟨i,ys,ah,H5,I5,bd,a7,w5⟩;rcases ao i n ys ah H5 w5 with⟨stop,qn⟩ | ⟨go,N,F,hN,hF,step⟩
  .refine kY (B.done (tD nw X (T++U) j cl C K M fp) rfl rfl rfl hc i [] s5 ah H5 _ I5 (au a7) bd stop) λr s6 t=>?_
   obtain⟨hr,I6⟩:=t;subst hr;obtain⟨m6,br,_⟩:=I6.loc;have bq:H5 C=none:=I6.free;have ub:=I6.base;have a0:=f.fpOk (Nat.le_of_eq hC) av;refine fin C D s6 H5 (Inv.call' (s':=s6) (ch:=fp) f I6.os ?_ I6.hok I6.bare (λb a=>⟨(f3 b a).2.2.2.1,(f3 b a).2.1,(f3 b a).2.2.2.2.1,(f3 b a).2.2.2.2.2⟩)) qn ⟨bq,a0.2⟩ ⟨m6,br⟩;exact⟨λb o q n a hx=>ub.keep b o q n a hx,λb o q n a hx=>ub.slot b o q n a hx,ub.free,λb o q hx=>ub.there b o q hx,ub.tups,ub.frzs,ub.tbls⟩
  .refine kY (B.item (tD nw X (T++U) j cl C K M fp) rfl rfl rfl hc i [] s5 ah H5 _ I5 (au a7) bd go) λr s6 t=>?_
   obtain⟨u,hr,h6⟩:=t;subst hr;refine kY h6 λ_ s7 t=>?_
   obtain⟨x,H7,I7,r7,y7,a1,bn⟩:=t;have bh:=I7.pinned (au bn) (B.obj _ _ a1);have G:∀ {L:St} {H8:Hp} {s8:Ae},Inv (tD nw X (T++U) j cl C K M fp) ([]++Ao fp s7.heap) L H8 s8->tn (i+1) s8.heap/\(∀ b∈fp,H8 b=none):=λ{L H8 s8} I8=>by
    refine⟨B.keep _ _ _ a1 λb a o e=>(I8.pin (b,o) (aJ _ (aJ _ (C6 a e)))).1,λb a=>?_⟩;obtain⟨o,e,d⟩:=B.obj _ _ a1 b a;exact (I8.pin (b,o) (aJ _ (aJ _ (C6 a e)))).2.1
   refine kY (hg K M C cl fp _ s7 ah H7 x u _ bh r7 (step x H7 y7)) λ_ s8 t=>?_
   obtain⟨L,H8,I8,q8⟩:=t;refine kY (ht K M C cl fp _ s8 L H8 _ I8 q8) λok s9 t=>?_
   obtain⟨H9,I9,q9⟩:=t;cases ok with
   | false =>
    rw[aK (by simp)] at q9;rw[aK (by simp)];obtain⟨m',hm,w9⟩:=hF _ _ q9;exact⟨m',hm,i+1,ys,L,H9,I9.unpinned,(G I9).1,(G I9).2,w9⟩
   | true =>
    rw[aZ rfl] at q9;rw[aZ rfl];refine kY (he K M C cl fp _ s9 L H9 _ I9 q9) λvv bx t=>?_
    obtain⟨v,bf,bg,bw,bv⟩:=t;obtain⟨bi,b3,m',hm,b1⟩:=hN _ _ _ bv;refine kY (sO (X:=tD nw X (T++U) j cl C K M fp) _ bx L bf (.ref D) [v] (.ref D) [vv] (λ_ aq=>W (i+1) m' (ys++[v]) L aq) bg rfl (.cons bw .nil) ⟨D,ys,v,rfl,rfl,bi,b3,b1⟩) λ_ b5 t=>?_
    obtain⟨_,aq,ar,_,b2⟩:=t;exact⟨m',hm,i+1,ys++[v],L,aq,ar.unpinned,(G ar).1,(G ar).2,b2⟩
 exact codeAny_compStart_list an (B.self _ 0 _ _ _ bc an)
theorem X8 {D:Ad}(I:Inv X g J j p) (q:Q (.ref D) j) (r:rL X g j C) (l:∃ m,p.heap.Ns C m):compPost (model X.prog X.w) X.A X.xe none (EP X g J Q) (.ref D) C (.ok .next) p:=by
 obtain⟨m,l⟩:=l;refine⟨m,l,λd c=>⟨.ref D,j,I.moved (t':=p.toks) (fp:=[C]) (λb a=>?_) (λb o a e=>?_),rfl,q⟩⟩
 .rw[aW.mp a];exact r
 .exact c.extBut b o (λz=>a (aW.mpr z)) e
theorem C8 {iter:Expr}(T o:Aa Af) (r:Aa Nat) (hc:X.calm=true) (hi:PI X tg iter wi)
  (hk:j.kind = .function) (ho:zX X.N X.env.kindOf j T o r=true)
  (hg:∀ p l C U J,PG (qA X (T++o) j U C p l J) tg g)
  (ht:∀ p l C U J,tN (qA X (T++o) j U C p l J) ab tt)
  (he:∀ p l C U J,PE (qA X (T++o) j U C p l J) aa te)
  (hs:∀ x,foldedSetIterable iter X.env x=pure x:=by intro _;rfl) :
  PE X (.ListComp aa [⟨tg,iter,ab,0⟩] j pos) (Bw T r wi g tt te):=by
 intro a s e H Q I h;rw[eval_ListComp];exact Qc (nw:=none) T o r hc hi hk (Qr ho) hg ht he hs I h λC D d c I q J b=>X8 I q J b
end
structure Yields (J:It) (xs:List V) (R:Hp->Prop):Prop where
 go:∀ i H,i<xs.length->R H->J.go i H
 yld:∀ i H x H',i<xs.length->R H->J.yld i H x H'->H'=H/\xs[i]?=some x
 stop:∀ i H,i=xs.length->R H->J.stop i H
def sQ (z:Af):Aa V:=z.cps.toList.map λc=>V.str ⟨#[c]⟩
theorem HA:Yields (sW z) (sQ z) (λ_=>True) :=
 ⟨λi H a _=>by simpa [sW,sQ,Str.length] using a,
  λi H x d a _ y=>by
   obtain⟨e,c,b,rfl⟩:=y;refine⟨e,?_⟩;unfold sQ;rw[bM,eX,b];rfl,
  λi H e _=>by simp[sW,e,sQ,Str.length]⟩
def Gz (o:St) (D:Ad) (Pv:Nat->Aa V->Hp->Prop) (i:Nat) (g:Aa V) (j:St):VK:=λv a=>(∃ t,j=t::o)/\a D=some (.l g)/\g.length<sizeLine/\Pv (i+1) (g++[v]) (upd a D (.l (g++[v])))
def Kx (l:St) (Pv:Nat->Aa V->Hp->Prop) (i:Nat) (o:Aa V) (g:St) (j:Hp):Prop:=(∃ t,g=t::l)/\Pv (i+1) o j
theorem IT {R:Hp->Prop}{D:Ad}(Y:Yields J o R) (Pv:Nat->Aa V->Hp->Prop)
  (U:Pv 0 [] (upd T D (.l []))) (I:∀ i j H,i<=o.length->Pv i j H->R H)
  (hs:∀ i x j H,o[i]?=some x->Pv i j H->tt (some x::g.map (λi=>(r[i]?).join)) H λb C =>if b=true then te (some x::g.map (λi=>(r[i]?).join)) C (Gz (g.map (λi=>(r[i]?).join)) D Pv i j (some x::g.map (λi=>(r[i]?).join))) else Kx (g.map (λi=>(r[i]?).join)) Pv i j (some x::g.map (λi=>(r[i]?).join)) C)
  (hd:∀ j H,Pv o.length j H->Q (.ref D) H):zR [nm] g J (yW 0) tt te r T Q D:=by
 refine⟨λi m j d H=>m=o.length-i/\i<=o.length/\(∃ t,d=t::g.map (λi=>(r[i]?).join))/\Pv i j H,⟨o.length,by simp,dR _,⟨none,rfl⟩,U⟩,?_⟩;rintro i m j d c ⟨rfl,h,⟨t,rfl⟩,p⟩;by_cases a:i<o.length
 .refine .inr ⟨Y.go i c a (I i j c h p),Gz (g.map (λi=>(r[i]?).join)) D Pv i j,Kx (g.map (λi=>(r[i]?).join)) Pv i j,?_,?_,λx q y=>?_⟩
  .rintro n v z ⟨k,s,u,f⟩;exact⟨s,u,o.length-(i+1),by omega,rfl,a,k,f⟩
  .rintro n C ⟨k,f⟩;exact⟨o.length-(i+1),by omega,rfl,a,k,f⟩
  .obtain⟨rfl,w⟩:=Y.yld i c x q a (I i j c h p) y;exact hs i x j q w p
 .have e:i=o.length:=by omega
  subst e;exact .inl ⟨Y.stop _ _ rfl (I _ j c h p),hd j c p⟩
def wF:Expr->Bool
 | .Starred _ _=>false
 | _=>true
theorem IS (h:wF e=true):starEach (e::j) g=(false,eval e g)::starEach j g:=by
 cases e<;>first | rfl | (cases h;done)
section
variable {X:Cx}
theorem vU (j:PE X e o) (l:PA X g t) (h:wF e=true:=by rfl):PA X (e::g) (Ms o t):=V8 j l (IS h)
def Y1 (g:Aa Af):TA:=λ_ H Q=>Q (g.map V.str) H
theorem J5:∀ (l:Aa (Af×Nat×Pos)),PA X (l.map λp=>.Constant (.str p.1) p.2.1 p.2.2) (Y1 (l.map (·.1)))
 | []=>xE
 | a::r=>λpos b s c H Q I h=>vU (xJ (x:=a.1) (j:=a.2.1) (pos:=a.2.2)) (J5 r) (by rfl) pos b s c H Q I h
end
theorem Sm {R:Hp->Prop}{D:Ad}(Y:Yields J o R) (Pv:Nat->Aa V->Hp->Prop)
  (I:Pv 0 [] (upd C D (.l []))) (T:∀ i j H,i<=o.length->Pv i j H->R H)
  (U:∀ i x j H,o[i]?=some x->Pv i j H->te (some x::g.map (λi=>(r[i]?).join)) H (Gz (g.map (λi=>(r[i]?).join)) D Pv i j (some x::g.map (λi=>(r[i]?).join))))
  (hd:∀ j H,Pv o.length j H->Q (.ref D) H):zR [nm] g J (yW 0) Fi te r C Q D:=by
 refine IT Y Pv I T (λi x j H a p=>?_) hd;unfold Fi;dsimp only;rw[aZ rfl];exact U i x j H a p
theorem Uv {R:Hp->Prop}{D:Ad}(Y:Yields J g R) (f:V->V) (T:j D=none) (C:∀ H,vZ j H->R H) (hl:g.length<=1000)
  (I:∀ (i:Nat) x H (k:VK),g[i]?=some x->vZ j H->k (f x) H->U (some x::r.map (λi=>(σ[i]?).join)) H k)
  (hd:Q (.ref D) (upd j D (.l (g.map f)))):zR [nm] r J (yW 0) Fi U σ j Q D:=by
 have h:∀ o,vZ j (upd j D o):=λo b u e=>by rw[mD (pP e T)];exact e
 refine Sm Y (λi a H=>i<=g.length/\a=(g.take i).map f/\H=upd j D (.l a)) ⟨dR _,by simp,rfl⟩ (λi a H _ p=>C H (by rw[p.2.2];exact h _)) ?_ ?_
 .rintro i x a H d ⟨n,rfl,rfl⟩;have c:=(aL.mp d).1;have m:g.take (i+1)=g.take i++[x]:=by rw[cA,d];rfl
  refine I i x _ _ d (h _) ⟨⟨_,rfl⟩,nM,?_,c,?_,?_⟩
  .rw[aA,cC];exact dM (show min i g.length<=1000 by omega) (by decide)
  .rw[m,aF];rfl
  .rw[FT]
 .rintro a H ⟨_,rfl,rfl⟩;rw[cG (bF _)];exact hd
section
variable {X:Cx}
def Vn (g:Aa Int):TA:=λ_ H Q=>Q (g.map V.int) H
theorem J9:∀ (l:Aa (Int×Nat×Pos)),PA X (l.map λp=>.Constant (.int p.1) p.2.1 p.2.2) (Vn (l.map (·.1)))
 | []=>xE
 | a::r=>λpos b s c H Q I h=>vU (Jm (i:=a.1) (j:=a.2.1) (pos:=a.2.2)) (J9 r) (by rfl) pos b s c H Q I h
end
section
variable {X:Cx}
theorem Lg (g:X.A.units+64<cLine):lH X (compareOp .NotEq) (Dm X.K true):=by
 intro c s M H x y v u Q I F G h;obtain⟨a,b,L,rfl,rfl,f,z,q⟩:=h;cases F;cases G;obtain⟨B,D,m,_⟩:=I.list f;obtain⟨k,E,n,_⟩:=I.list z;cases E;have t:∀ d,d = !L.isEmpty->EP X c M Q (.bool d) s:=λd e=>⟨.b d,H,I,rfl,by subst e;exact q⟩
 cases D with
 | nil=>exact SeqAt.RcNeAt.lists (e:=λ_=>true) m.isList n.isList rfl (by omega) (λi f _=>by simp at f) X.prog X.w _ _ (t _ (by simp))
 | cons r N=>exact SeqAt.RcNeAt.lists_lengths m.isList n.isList (by simp) (by omega) X.prog X.w _ _ (t _ rfl)
def Md (K:kQ):Aa V->Hp->VK->Prop:=λd H Q=>∃ (x c:V) (t a:Ac) (b:Bool),d=[x,c]/\lA c a/\TyOf K H x t/\PySem.W.kitOne K t a=some b/\Q (.b b) H
theorem GH (K:kQ) (g:X.K=K:=by rfl):mZ X (.builtin "isinstance") (Md K):=by subst g;exact GN
end
section
variable {X:Cx}
theorem Ta {bs:Aa Bool}{g:Aa Ac}(r:lC (bs.map V.b) g){i:Nat}{v:Ac}(h:g[i]?=some v):∃ b,bs[i]?=some b/\v = .bool b:=by
 have d:=r.length;rw[aA] at d;have f:i<g.length:=(aL.mp h).1;have a:bs[i]?=some (bs[i]'(by omega)):=aR (by omega);obtain⟨u,c,e⟩:=r.get (i:=i) (x:=V.b (bs[i]'(by omega))) (by rw[bM,a];rfl);rw[h] at c;cases c;exact⟨_,a,e⟩
theorem T3 (bs:Aa Bool):((List.range bs.length).all λi=>(bs[i]?).getD true)=bs.all id:=by
 have e:(List.range bs.length).map (λi=>(bs[i]?).getD true)=bs:=by
  apply List.ext_getElem (by simp);intro i p q;simp[q]
 calc ((List.range bs.length).all λi=>(bs[i]?).getD true)=((List.range bs.length).map λi=>(bs[i]?).getD true).all id:=by rw[List.all_map];rfl
  _=bs.all id:=by rw[e]
def P2 (K:kQ):Aa V->Hp->VK->Prop:=λa H Q=>∃ (p:Ad) (bs:Aa Bool),a=[.ref p]/\lG K H p (bs.map V.b)/\Q (.b (bs.all id)) H
theorem Ob (g:X.calm=true):mZ X (.builtin "all") (P2 X.K):=by
 intro m s P H O N Q I r h;obtain⟨p,bs,rfl,z,q⟩:=h;obtain⟨u,rfl,D⟩:=qH r;cases D;obtain⟨c,n,B,_⟩:=I.list z;have d:=B.isList;have a:=n.length;rw[aA] at a;have f:p<s.heap.objs.size:=by obtain⟨_,e,_⟩:=id d;exact bK e
 refine call_all_walk (iT d ?_);refine⟨s.heap.objs.size,[s.heap.objs.size,p],[s.heap.objs.size],c.toArray.size,_,_,λi=>(bs[i]?).getD true,rfl,Walks.list (A:=X.A.in1) (I.ok.hd g) _ p (cB f) c.toArray,⟨⟨_,bL _ rfl,rfl,rfl⟩,d.push _⟩,λi v L F E t k=>?_,λG M w=>?_⟩
 .obtain⟨b,e,rfl⟩:=Ta n (by simpa using t);simp only[e,Option.getD_some] at k;exact eC k
 .have e:((List.range c.toArray.size).all λi=>(bs[i]?).getD true)=bs.all id:=by
   rw[bE,<- a];exact T3 bs
  rw[e];exact⟨.b _,H,I.kept λb x e=>w b x (λy=>by rw[aW.mp y] at e;exact fC _ (bK e)) (aQ _ e),rfl,q⟩
end
section
variable {X:Cx}
theorem Inv.movedT {t':Nat}{p:Aa Ad}{ys:Aa V}{j:Aa Ac}(I:Inv X g U H s) (l:∀ b∈p,rL X g H b) (k:∀ b o,b∉p->s.heap.get? b=some o->C.get? b=some o)
  (new:vW C s.heap.objs.size j.toArray) (T:lC ys j) (J:ys.length<=sizeLine):Inv X g U (upd H s.heap.objs.size (.t ys)) { s with heap:=C,toks:=t' }:=by
 have f:=I.fresh;have h:∀ b u,H b=some u->b∉p:=λb u e z=>by rw[(l b z).1] at e;cases e
 have lt:∀ b o,s.heap.get? b=some o->b≠s.heap.objs.size:=λb o e=>cB (bK e)
 refine I.step (g':=s.gens) (d':=s.drawn) (ch:=p) (λb a=>⟨(l b a).2.2.2.1,(l b a).2.1,(l b a).2.2.2.2.1,(l b a).2.2.2.2.2⟩) (λb o _ _ d e _=>k b o d e) (λb o _ _ d e _=>⟨o.slots,k b o d e⟩) (λb o _ e n=>by rw[mD (lt b o e)];exact n)
  (λb o d e=>⟨o,k b o d e⟩) (λb A e=>by rw[mD (pP e f)];exact e) (λb o u e=>by rw[mD (pP e f)];exact e) (λb B e=>⟨#[],by rw[mD (pP e f),e];simp⟩) (λm x=>?_) (λb u e=>?_) I.bare
 .obtain⟨o,w,i,y,r⟩:=x;exact⟨o,w,i,k _ o (λz=>(l _ z).2.1 rfl) y,r⟩
 .by_cases a:b=s.heap.objs.size
  .subst a;rw[nM] at e;cases e;exact⟨J,j,T,new⟩
  .rw[mD a] at e;refine (I.hok b u e).stay (λc v d q=>k c v ?_ q) (λc q=>by rw[mD (pP q f)];exact q) λc A q=>by rw[mD (pP q f)];exact q
   rcases d with z | z
   .rw[z];exact h b u e
   .exact h c _ z
end
def Ip (K:kQ) (w:World) (a:Ad) (g:Aa (fS×V)):Prop:=(a == sysModules)=false/\∀ (P:Ah) (h:Ag),K.In h->∃ b,KV g b/\h.DictOf (nG P w) a b
theorem Xz (P:Ah) (w:World){D:Aa (Af×V×Ac)}(h:KTD.Rows (λ(d:V×Ac) v=>v=d.2) g D) (j:∀ p∈D,lA p.2.1 p.2.2):g.map (·.hash)=D.map (λp=>hashStr w p.1) ->
  (∀ e∈g,∃ k,(nG P w).is k e.key=true/\e.hash=(nG P w).hash k)/\Pairs (nG P w) g (D.map λp=>((.inr p.1:fS),p.2.2))/\KV (D.map λp=>((.inr p.1:fS),p.2.1)) (D.map λp=>((.inr p.1:fS),p.2.2)):=by
 induction h with
 | nil=>exact λ_=>⟨(λ_ h=>nomatch h),.nil,.nil⟩
 | @cons e x t d g D b u _ y =>
  intro c;simp only[bH,eV] at c;obtain⟨m,n,q⟩:=y (λp s=>j p (bD _ s)) c.2;have f:(nG P w).is (.inr x:fS) e.key=true:=by rw[b];exact Nw P w x t
  refine⟨λi a=>?_,.cons f u n,.cons ⟨rfl,j (x,d) (aT ..)⟩ q⟩;rcases aI.mp a with a | a
  .rw[a];exact⟨.inr x,f,c.1⟩
  .exact m i a
theorem IM {K:kQ}{D:Aa (Af×V×Ac)}(r:∀ p∈D,lA p.2.1 p.2.2) (g:KTD.tabLook (λ(d:V×Ac) v=>v == d.2) (λb=>K.lookup b) a D=true) (l:(D.map (·.1)).Nodup)
  (j:KTD.hashesOf (λb=>K.lookup b) a=D.map λp=>hashStr w p.1):Ip K w a (D.map λp=>(.inr p.1,p.2.1)):=by
 simp only[KTD.tabLook,cJ] at g;obtain⟨u,g⟩:=g;refine⟨by simpa using u,λP h y=>?_⟩;split at g
 .rename_i o m
  simp only[cJ] at g;obtain⟨⟨⟨n,q⟩,s⟩,c⟩:=g;split at c
  .rename_i k t hd
   have i:k.toList.map (·.hash)=D.map λp=>hashStr w p.1:=by
    rw[<- j];unfold KTD.hashesOf;simp only[m,hd]
   obtain⟨B,E,A⟩:=Xz P w (KTD.rows_of_look (R:=λ(d:V×Ac) v=>v=d.2) (λd v e=>gY.mp e) c) r i;refine⟨_,A,o,k,t,y _ _ m,⟨gY.mp n,by simpa using q,by simpa using s⟩,hd,λe z=>B e (by simpa using z),E,?_⟩;rw[aG];have:(D.map ((λ(x:fS×Ac)=>x.1)∘λp=>((.inr p.1:fS),p.2.2)))=(D.map (·.1)).map (Sum.inr:Af->fS):=by rw[aG];rfl
   rw[this];exact l.map _ (λa b f e=>f (dD e))
  .cases c
 .cases g
section
variable {X:Cx}
def Lu (K:kQ) (w:World) (neg:Bool):R2:=λx y H Q=>∃ (z:Af) (a:Ad) (c:Aa (fS×V)),x = .str z/\y = .ref a/\Ip K w a c/\Q (.b (if neg then !(nV c (.inr z)).isSome else (nV c (.inr z)).isSome)) H
theorem Xr:lH X (compareOp .NotIn) (Lu X.K X.w true):=by
 intro c s t H x y v u Q I i m h;obtain⟨z,a,f,rfl,rfl,⟨hd,e⟩,q⟩:=h;cases m;obtain⟨n,rel,d⟩:=e X.prog s.heap I.kIn;refine wpAny_notIn_of (uG (k:=.inr z) i) hd d.mapOf ?_;rw[<- (rel.val (.inr z)).isSome_eq];exact⟨.b _,H,I.tok _,rfl,q⟩
end
section
variable {X:Cx}
theorem Ue {iter:Expr}(T p:Aa Af) (J:Aa Nat) (hN:X.N.Nodup) (af:X.N[i]?=some x) (hx:rG X.env.scope x)
  (hc:X.calm=true) (hi:PI X tg iter wi) (hk:j.kind = .function) (ho:zX X.N X.env.kindOf j T p J=true)
  (hg:∀ r l C cl U,PG (qA X (T++p) j cl C r l U) tg g)
  (ht:∀ r l C cl U,tN (qA X (T++p) j cl C r l U) ac tt)
  (he:∀ r l C cl U,PE (qA X (T++p) j cl C r l U) ab te)
  (ag:swapsWith (.ListComp ab [⟨tg,iter,ac,0⟩] j pos) (some (.Name x aa)) ae.line X.env=pure true:=by rfl)
  (hs:∀ x,foldedSetIterable iter X.env x=pure x:=by intro _;rfl)
  (hf:X.fn x=true\/X.env.scope.names.lookup x=some .local:=by first | exact .inl rfl | exact .inr rfl | assumption) :
  PS X (.Assign [.Name x aa] (.ListComp ab [⟨tg,iter,ac,0⟩] j pos) ae) (G7 (Bw T J wi g tt te) (yW i)):=by
 intro u s M H D I h;rw[exec_Assign_Name_used _ _ _ _ ag];refine aB (wpAny_standAt (aB ?_));show wpAny _ _ (comprehension _ _ _ _ _ _ _ _ >>= λ_=>pure ()) _ _ _;refine aB (Qc (nw:=none) T p J hc hi hk (Qr ho) hg ht he hs I h λC t L w A q U k=>?_);obtain⟨m,E⟩:=k;show wpAny _ _ (assign (.Name x aa) X.env (.ref t)) _ _ _;refine wpAny_assign_Name (Ri A hN af hx (v:=.ref t) rfl (λF y f=>?_) hf);obtain⟨a,G,B⟩:=f;have c:C≠a:=by
  rcases B with z | z
  .rw[z];exact U.2.1
  .exact (U.2.2.2.2.1 x a z).symm
 refine⟨m,E.sameBut G c,λK n=>aH (aH ⟨_,w,y.moved (t':=F.toks) (fp:=[C]) (λb d=>?_) (λb o d e=>?_),q⟩)⟩
 .rw[aW.mp d];exact U
 .exact n.extBut b o (λz=>d (aW.mpr z)) e
end
inductive D where
 | e | b (b:Bool) | int (i:Int) | str (x:Str) | r (v:V)
 | t (xs:List D) | l (xs:List D)
 | k (kvs:List (fS×D)) | T (kvs:List (List fS×D))
 | c (xs:List D)
 | con (xs:List D)
def Az (K:kQ) (a:Ad) (g:Aa V):Prop:=∃ (o:Obj) (b:Array Ac) (n:Nat),K.lookup a=some o/\o.cls = .type "tuple" /\ o.data = .seq b n/\b.size<=sizeLine/\lC g b.toList
theorem Az.sqT {K:kQ}(h:Az K a g):lR K H a g:=.inr h
def uP (K:kQ) (H:Hp) (a:Ad) (g:Aa V):Prop:=(∃ o,H a=some (.frz o (.l g))) \/
 ∃ (o:Obj) (b:Array Ac) (n:Nat),K.lookup a=some o/\o.cls = .type "list" /\ o.dict=none/\o.data = .seq b n/\b.size<=sizeLine/\lC g b.toList
theorem uP.sqL {K:kQ}(h:uP K H a g):lG K H a g:=h.elim (λh=>.inl (.inr h)) .inr
mutual
inductive Rep (K:kQ) (A:Addr->Prop) (H:Hp):D->V->Prop where
 | e:Rep K A H .e .e
 | b (b:Bool):Rep K A H (.b b) (.b b)
 | int (i:Int):Rep K A H (.int i) (.int i)
 | str (x:Str):Rep K A H (.str x) (.str x)
 | r (v:V):Rep K A H (.r v) v
 | t {a:Addr} {vs:List V} {ds:List D}:H a=some (.t vs)->Reps K A H ds vs->Rep K A H (.t ds) (.ref a)
 | con {a:Addr} {vs:List V} {ds:List D}:Az K a vs->Reps K A H ds vs->Rep K A H (.con ds) (.ref a)
 | l {a:Addr} {vs:List V} {ds:List D}:A a->H a=some (.l vs)->Reps K A H ds vs->Rep K A H (.l ds) (.ref a)
 | c {a:Addr} {vs:List V} {ds:List D}:uP K H a vs->Reps K A H ds vs->Rep K A H (.c ds) (.ref a)
 | k {a:Addr} {kvs:List (fS×V)} {ds:List (fS×D)}:A a->Rd H a (.k kvs)->ds.map (·.1)=kvs.map (·.1)->Reps K A H (ds.map (·.2)) (kvs.map (·.2))->Rep K A H (.k ds) (.ref a)
 | T {a:Addr} {kvs:List (List fS×V)} {ds:List (List fS×D)}:A a->Rd H a (.T kvs)->ds.map (·.1)=kvs.map (·.1)->Reps K A H (ds.map (·.2)) (kvs.map (·.2))->Rep K A H (.T ds) (.ref a)
inductive Reps (K:kQ) (A:Addr->Prop) (H:Hp):List D->List V->Prop where
 | nil:Reps K A H [] []
 | cons {d:D} {v:V} {ds:List D} {vs:List V}:Rep K A H d v->Reps K A H ds vs->Reps K A H (d::ds) (v::vs)
end
def C9:HO->Bool
 | .t _=>true
 | .frz _ _=>true
 | _=>false
def Kp (A j:Ad->Prop) (H g:Hp):Prop:=(∀ a o,A a->H a=some o->j a/\g a=some o)/\∀ a o,C9 o=true->H a=some o->g a=some o
section
variable {K:kQ}
theorem Kp.sqF (k:Kp A l H g) (h:uP K H a j):uP K g a j:=by
 rcases h with⟨o,h⟩ | h
 .exact .inl ⟨o,k.2 _ _ rfl h⟩
 .exact .inr h
theorem Kp.rd (k:Kp A j H l) (g:A a) (h:Rd H a u):j a/\Rd l a u:=by
 rcases h with h | ⟨o,h⟩
 .exact⟨(k.1 _ _ g h).1,.inl (k.1 _ _ g h).2⟩
 .exact⟨(k.1 _ _ g h).1,.inr ⟨o,(k.1 _ _ g h).2⟩⟩
theorem Rep.mono (k:Kp A g H j) (h:Rep K A H d v):Rep K g j d v :=
 Rep.rec (motive_1:=λd v _=>Rep K g j d v) (motive_2:=λf i _=>Reps K g j f i) .e .b .int .str .r (λh _ r=>.t (k.2 _ _ rfl h) r) (λh _ r=>.con h r)
  (λa h _ r=>.l (k.1 _ _ a h).1 (k.1 _ _ a h).2 r) (λh _ r=>.c (k.sqF h) r) (λa h e _ r=>.k (k.rd a h).1 (k.rd a h).2 e r) (λa h e _ r=>.T (k.rd a h).1 (k.rd a h).2 e r) .nil (λ_ _ h r=>.cons h r) h
theorem Reps.mono (k:Kp A o H p) (h:Reps K A H j l):Reps K o p j l:=by
 induction j generalizing l with
 | nil=>cases h;exact .nil
 | cons d j a=>cases h with | cons g r=>exact .cons (g.mono k) (a r)
theorem Kp.all (h:∀ a,A a->g a):Kp A g H H:=⟨λa o b e=>⟨h a b,e⟩,λ_ _ _ e=>e⟩
theorem Kp.trans (a:Kp A l H r) (b:Kp l g r j):Kp A g H j:=⟨λx o c e=>let ⟨p,q⟩:=a.1 x o c e;b.1 x o p q,λx o t e=>b.2 x o t (a.2 x o t e)⟩
theorem Kp.laid (g:H p=none) (h:∀ a,A a->a≠p->j a):Kp A j H (upd H p o) :=
 ⟨λa u b e=>⟨h a b (pP e g),by rw[mD (pP e g)];exact e⟩,λa u _ e=>by rw[mD (pP e g)];exact e⟩
theorem Kp.same (s:vZ H j) (h:∀ a,A a->g a):Kp A g H j:=⟨λa o b e=>⟨h a b,s a o e⟩,λa o _ e=>s a o e⟩
theorem Kp.write (l:H p=some u) (g:C9 u=false) (j:¬ A p):Kp A A H (upd H p o):=by
 refine⟨λa w b e=>⟨b,?_⟩,λa w t e=>?_⟩
 .rw[mD (λz:a=p=>j (by rw[<- z];exact b))];exact e
 .rw[mD (λz=>?_)]
  .exact e
  .subst z;rw[l] at e;cases e;rw[t] at g;cases g
theorem Reps.length (h:Reps K A H j l):j.length=l.length:=by
 induction j generalizing l with
 | nil=>cases h;rfl
 | cons d j a=>cases h with | cons g r=>exact cL (·+1) (a r)
theorem Reps.get {j:Aa D}{l:Aa V}{i:Nat}{d:D}(h:Reps K A H j l) (e:j[i]?=some d):∃ v,l[i]?=some v/\Rep K A H d v:=by
 induction j generalizing l i with
 | nil=>cases e
 | cons c j a =>
  cases h with
  | cons g r =>
   cases i with
   | zero=>cases e;exact⟨_,rfl,g⟩
   | succ i=>exact a r (i:=i) e
theorem Reps.getV {j:Aa D}{l:Aa V}{i:Nat}{v:V}(h:Reps K A H j l) (e:l[i]?=some v):∃ d,j[i]?=some d/\Rep K A H d v:=by
 induction j generalizing l i with
 | nil=>cases h;cases e
 | cons c j a =>
  cases h with
  | cons g r =>
   cases i with
   | zero=>cases e;exact⟨_,rfl,g⟩
   | succ i=>exact a r (i:=i) e
theorem Reps.append (h:Reps K A H j l) (s:Reps K A H o p):Reps K A H (j++o) (l++p):=by
 induction j generalizing l with
 | nil=>cases h;exact s
 | cons d j a=>cases h with | cons g r=>exact .cons g (a r)
theorem Reps.take:∀ {g:Aa D}{j:Aa V}(n:Nat),Reps K A H g j->Reps K A H (g.take n) (j.take n)
 | _,_,0,_=>by rw[iU,iU];exact .nil
 | _,_,n+1,.nil=>.nil
 | _,_,n+1,.cons h r=>.cons h (Reps.take n r)
theorem Reps.drop:∀ {g:Aa D}{j:Aa V}(n:Nat),Reps K A H g j->Reps K A H (g.drop n) (j.drop n)
 | _,_,0,h=>h
 | _,_,n+1,.nil=>.nil
 | _,_,n+1,.cons h r=>Reps.drop n r
theorem Reps.set (h:Rep K A H d v):∀ {j:Aa D}{l:Aa V}(i:Nat),Reps K A H j l->Reps K A H (j.set i d) (l.set i v)
 | _,_,_,.nil=>.nil
 | _,_,0,.cons _ r=>.cons h r
 | _,_,i+1,.cons g r=>.cons g (Reps.set h i r)
theorem Reps.erase:∀ {j:Aa D}{l:Aa V}(i:Nat),Reps K A H j l->Reps K A H (j.eraseIdx i) (l.eraseIdx i)
 | _,_,_,.nil=>.nil
 | _,_,0,.cons _ r=>r
 | _,_,i+1,.cons g r=>.cons g (Reps.erase i r)
theorem Reps.nil_iff (h:Reps K A H g j):j=[]↔g=[]:=by
 cases h<;>simp
theorem Rep.int_inv (h:Rep K A H (.int i) v):v = .int i:=by cases h;rfl
theorem Rep.str_inv (h:Rep K A H (.str i) v):v = .str i:=by cases h;rfl
theorem Rep.bl_inv (h:Rep K A H (.b i) v):v = .b i:=by cases h;rfl
theorem Rep.non_inv (h:Rep K A H .e v):v = .e:=by cases h;rfl
theorem Rep.raw_inv (h:Rep K A H (.r u) v):v=u:=by cases h;rfl
theorem Rep.tup_inv (h:Rep K A H (.t j) v):∃ a g,v = .ref a/\H a=some (.t g)/\Reps K A H j g:=by
 cases h with | t h r=>exact⟨_,_,rfl,h,r⟩
theorem Rep.lst_inv (h:Rep K A H (.l j) v):∃ a g,v = .ref a/\A a/\H a=some (.l g)/\Reps K A H j g:=by
 cases h with | l d h r=>exact⟨_,_,rfl,d,h,r⟩
theorem Rep.con_inv (h:Rep K A H (.con j) v):∃ a g,v = .ref a/\Az K a g/\Reps K A H j g:=by
 cases h with | con h r=>exact⟨_,_,rfl,h,r⟩
theorem Rep.scr_inv (h:Rep K A H (.c j) v):∃ a g,v = .ref a/\uP K H a g/\Reps K A H j g:=by
 cases h with | c h r=>exact⟨_,_,rfl,h,r⟩
theorem Rep.dK_inv (h:Rep K A H (.k j) v):∃ a g,v = .ref a/\A a/\Rd H a (.k g)/\j.map (·.1)=g.map (·.1)/\Reps K A H (j.map (·.2)) (g.map (·.2)):=by
 cases h with | k d h e r=>exact⟨_,_,rfl,d,h,e,r⟩
theorem Rep.dT_inv (h:Rep K A H (.T j) v):∃ a g,v = .ref a/\A a/\Rd H a (.T g)/\j.map (·.1)=g.map (·.1)/\Reps K A H (j.map (·.2)) (g.map (·.2)):=by
 cases h with | T d h e r=>exact⟨_,_,rfl,d,h,e,r⟩
end
mutual
def imm:D->Bool
 | .t a=>sB a
 | .c a=>sB a
 | .con a=>sB a
 | .l _=>false
 | .k _=>false
 | .T _=>false
 | _=>true
def sB:Aa D->Bool
 | []=>true
 | d::a=>imm d&&sB a
end
section
variable {K:kQ}
theorem Rep.imm (h:Rep K A H d v):imm d=true->Rep K g H d v :=
 Rep.rec (motive_1:=λd v _=>L2.imm d=true->Rep K g H d v) (motive_2:=λa f _=>sB a=true->Reps K g H a f) (λ_=>.e) (λb _=>.b b) (λi _=>.int i) (λx _=>.str x) (λv _=>.r v) (λh _ r e=>.t h (r e)) (λh _ r e=>.con h (r e))
  (λ_ _ _ _ e=>Bool.noConfusion (show false=true from e)) (λh _ r e=>.c h (r e)) (λ_ _ _ _ _ e=>Bool.noConfusion (show false=true from e)) (λ_ _ _ _ _ e=>Bool.noConfusion (show false=true from e)) (λ_=>.nil) (λ_ _ h r e=>.cons (h (gA.mp e).1) (r (gA.mp e).2)) h
theorem Reps.imm (h:Reps K A H j l) (e:sB j=true):Reps K o H j l:=by
 induction j generalizing l with
 | nil=>cases h;exact .nil
 | cons d j a=>cases h with | cons g r=>exact .cons (g.imm (gA.mp e).1) (a r (gA.mp e).2)
theorem Qp:∀ {g:Aa D},(∀ d∈g,L2.imm d=true)->sB g=true
 | [],_=>rfl
 | d::g,h=>gA.mpr ⟨h d aT,Qp λe a=>h e (bD _ a)⟩
theorem W1 {g:Type}{f:g->D}(h:∀ x,L2.imm (f x)=true) (j:Aa g):sB (j.map f)=true:=Qp λd hd=>by
 obtain⟨x,_,rfl⟩:=aD.mp hd;exact h x
end
end L2
namespace Lw
open PySem L2
structure DeckAt (H:Hp) (d c:Addr):Prop where
 ex:∃ (ns:List Int) (p:Int),H d=some (.l [.ref c,.int p])/\H c=some (.l (ns.map V.int))/\0<ns.length/\ns.length<=100
end Lw
namespace L2
open PySem PySem.Spec PyProof.Rows Lw
inductive Sl where
 | n | v (d:D) | o (d:D)
abbrev mU:=Aa (Sl×Ab V)
def Dk (g:Aa Ad) (H:Hp):Prop:=g=[]\/∃ d c,g=[d,c]/\DeckAt H d c
theorem Dk.some (h:Dk j H) (g:a∈j):∃ o,H a=some (.l o):=by
 rcases h with rfl | ⟨d,c,rfl,h⟩
 .cases g
 .obtain⟨f,p,b,e,_⟩:=h.ex;rcases aI.mp g with rfl | g
  .exact⟨_,b⟩
  .rcases aI.mp g with rfl | g
   .exact⟨_,e⟩
   .cases g
theorem Dk.keep (h:Dk g H) (k:∀ a∈g,j a=H a):Dk g j:=by
 rcases h with rfl | ⟨d,c,rfl,h⟩
 .exact .inl rfl
 .refine .inr ⟨d,c,rfl,?_⟩;obtain⟨i,p,b,e,f⟩:=h.ex;exact⟨i,p,by rw[k d (by simp)];exact b,by rw[k c (by simp)];exact e,f⟩
theorem Dk.upd (h:Dk g H) (j:p∉g):Dk g (upd H p o):=h.keep λa b=>mD λz=>j (z▸b)
noncomputable def wX:Sl×Ab V->Ab Ad
 | (.o _,some (.ref a))=>some a
 | _=>none
def hH (L:mU):Aa Ad:=L.filterMap wX
structure Bs where
 dk:List Addr
 A0:Addr->Prop
 H0:Hp
def Al (B:Bs) (R:Aa Ad) (a:Ad):Prop:=a∉B.dk/\a∉R/\(B.A0 a\/B.H0 a=none)
def nU (K:kQ) (A:Ad->Prop) (H:Hp) (a:Ad):D->Prop
 | .l c=>∃ d,H a=some (.l d)/\Reps K A H c d
 | .k c=>∃ b,H a=some (.k b)/\c.map (·.1)=b.map (·.1)/\Reps K A H (c.map (·.2)) (b.map (·.2))
 | .T c=>∃ b,H a=some (.T b)/\c.map (·.1)=b.map (·.1)/\Reps K A H (c.map (·.2)) (b.map (·.2))
 | _=>False
def qV (K:kQ) (A:Ad->Prop) (H:Hp):Sl->Ab V->Prop
 | .n,_=>True
 | .v d,x=>∃ v,x=some v/\Rep K A H d v
 | .o d,x=>∃ a,x=some (.ref a)/\nU K A H a d
structure DS (K:kQ) (B:Bs) (L:mU) (H:Hp):Prop where
 fr:∀ b o,B.H0 b=some o->b∉B.dk->H b=some o
 dk:Dk B.dk H
 nd:(hH L).Nodup
 new:∀ a∈hH L,B.H0 a=none/\a∉B.dk
 ok:∀ p∈L,qV K (Al B (hH L)) H p.1 p.2
section
variable {K:kQ}{L2:mU}
theorem nU.mono (k:Kp A p H j) (g:∀ o,H a=some o->j a=some o) (h:nU K A H a d):nU K p j a d:=by
 cases d with
 | l _=>obtain⟨b,h,r⟩:=h;exact⟨b,g _ h,r.mono k⟩
 | k _=>obtain⟨b,h,e,r⟩:=h;exact⟨b,g _ h,e,r.mono k⟩
 | T _=>obtain⟨b,h,e,r⟩:=h;exact⟨b,g _ h,e,r.mono k⟩
 | _=>exact False.elim h
theorem nU.some:∀ {d:D},nU K A H a d->∃ o,H a=some o/\C9 o=false
 | .l _,⟨b,h,r⟩=>⟨_,h,rfl⟩
 | .k _,⟨b,h,e,r⟩=>⟨_,h,rfl⟩
 | .T _,⟨b,h,e,r⟩=>⟨_,h,rfl⟩
theorem nU.rep (g:∀ b,A b->o b) (j:o a):∀ {d:D},nU K A H a d->Rep K o H d (.ref a)
 | .l _,⟨c,h,r⟩=>.l j h (r.mono (.all g))
 | .k _,⟨c,h,e,r⟩=>.k j (.inl h) e (r.mono (.all g))
 | .T _,⟨c,h,e,r⟩=>.T j (.inl h) e (r.mono (.all g))
theorem qV.mono (k:Kp A j H g) (h:qV K A H s y) (l:∀ a,wX (s,y)=some a->∀ o,H a=some o->g a=some o):qV K j g s y:=by
 cases s with
 | n=>trivial
 | v d=>obtain⟨v,e,r⟩:=h;exact⟨v,e,r.mono k⟩
 | o d=>obtain⟨a,rfl,r⟩:=h;exact⟨a,rfl,r.mono k (l a rfl)⟩
theorem pV:hH (g++L2)=hH g++hH L2:=List.filterMap_append
theorem sP:a∈hH L↔∃ p∈L,wX p=some a:=jY
theorem qP:hH (L1++x::L2)=hH L1++((wX x).toList++hH L2):=by
 unfold hH;rw[List.filterMap_append,List.filterMap_cons];cases wX x<;>rfl
theorem DS.live (h:DS K B L H) (g:a∈hH L):∃ o,H a=some o/\C9 o=false:=by
 obtain⟨p,c,e⟩:=sP.mp g;have:=h.ok p c;obtain⟨s,y⟩:=p;cases s with
 | n=>cases e
 | v d=>cases e
 | o d =>
  obtain⟨b,rfl,r⟩:=this;cases e;exact r.some
theorem DS.drop (h:DS K B (L1++x::L2) H):DS K B (L1++L2) H:=by
 have e:=qP (L1:=L1) (x:=x) (L2:=L2);have d:∀ a,a∈hH (L1++L2)->a∈hH (L1++x::L2):=λa c=>by
  rw[pV] at c;rw[e];simp only[aY] at c |-;rcases c with q | q
  .exact .inl q
  .exact .inr (.inr q)
 refine⟨h.fr,h.dk,?_,λa c=>h.new a (d a c),λp f=>?_⟩
 .have n:=h.nd;rw[e] at n;rw[pV];obtain⟨k,m,s⟩:=bC.mp n;exact bC.mpr ⟨k,(bC.mp m).2.1,λa c b i=>s a c b (aJ _ i)⟩
 .refine (h.ok p (by simp only[aY,aI] at f |-;rcases f with q | q;exact .inl q;exact .inr (.inr q))).mono (.all λa z=>⟨z.1,λq=>z.2.1 (d a q),z.2.2⟩) (λ_ _ _ q=>q)
theorem DS.at (h:DS K B (g++x::L2) H):qV K (Al B (hH (g++x::L2))) H x.1 x.2:=h.ok x (aJ _ aT)
theorem DS.valAt (h:DS K B (g++(.v d,some v)::L2) H):Rep K (Al B (hH (g++L2))) H d v:=by
 obtain⟨u,e,r⟩:=h.at;cases e;have:hH (g++(Sl.v d,some v)::L2)=hH (g++L2):=by rw[qP,pV];rfl
 rw[this] at r;exact r
theorem DS.push (h:DS K B (L1++L2) H) (r:Rep K (Al B (hH (L1++L2))) H d v):DS K B (L1++(.v d,some v)::L2) H:=by
 have e:hH (L1++(Sl.v d,some v)::L2)=hH (L1++L2):=by rw[qP,pV];rfl
 refine⟨h.fr,h.dk,by rw[e];exact h.nd,by rw[e];exact h.new,λp a=>?_⟩;rw[e];simp only[aY,aI] at a;rcases a with q | q | q
 .exact h.ok p (aM _ q)
 .subst q;exact⟨v,rfl,r⟩
 .exact h.ok p (aJ _ q)
theorem DS.pushN (h:DS K B (L1++L2) H) (y:Ab V):DS K B (L1++(.n,y)::L2) H:=by
 have e:hH (L1++(Sl.n,y)::L2)=hH (L1++L2):=by rw[qP,pV];rfl
 refine⟨h.fr,h.dk,by rw[e];exact h.nd,by rw[e];exact h.new,λp a=>?_⟩;rw[e];simp only[aY,aI] at a;rcases a with q | q | q
 .exact h.ok p (aM _ q)
 .subst q;trivial
 .exact h.ok p (aJ _ q)
theorem DS.grow (h:DS K B L H) (s:vZ H g) (j:Dk B.dk g):DS K B L g :=
 ⟨λb o e n=>s b o (h.fr b o e n),j,h.nd,h.new,λp a=>(h.ok p a).mono (.same s λ_ z=>z) (λ_ _ o q=>s _ o q)⟩
theorem DS.free (h:DS K B L H) (g:H a=none):B.H0 a=none/\a∉B.dk/\a∉hH L:=by
 have n:a∉B.dk:=λz=>by obtain⟨b,e⟩:=h.dk.some z;rw[e] at g;cases g
 refine⟨?_,n,λz=>by obtain⟨o,e,_⟩:=h.live z;rw[e] at g;cases g⟩;cases e:B.H0 a with
 | none=>rfl
 | some o=>rw[h.fr a o e n] at g;cases g
theorem DS.laid (h:DS K B L H) (g:H a=none):DS K B L (upd H a o) :=
 h.grow (λb u e=>by rw[mD (pP e g)];exact e) (h.dk.upd (h.free g).2.1)
theorem DS.tup (h:DS K B (L1++L2) H){g:Aa D}{l:Aa V}(j:H a=none) (r:Reps K (Al B (hH (L1++L2))) H g l):DS K B (L1++(.v (.t g),some (.ref a))::L2) (upd H a (.t l)) :=
 (h.laid j).push (.t nM (r.mono (.laid j λ_ z _=>z)))
theorem DS.make (h:DS K B (L1++L2) H) (g:H a=none) (r:∀ j,Kp (Al B (hH (L1++L2))) j H (upd H a o)->nU K j (upd H a o) a d):DS K B (L1++(.o d,some (.ref a))::L2) (upd H a o):=by
 obtain⟨f1,f2,k⟩:=h.free g;have e:hH (L1++(Sl.o d,some (.ref a))::L2)=hH L1++a::hH L2:=qP;have m:∀ b,b∈hH L1++a::hH L2↔b=a\/b∈hH (L1++L2):=λb=>by
  rw[pV];simp only[aY,aI];constructor
  .rintro (q | q | q)
   .exact .inr (.inl q)
   .exact .inl q
   .exact .inr (.inr q)
  .rintro (q | q | q)
   .exact .inr (.inl q)
   .exact .inl q
   .exact .inr (.inr q)
 have s:Kp (Al B (hH (L1++L2))) (Al B (hH L1++a::hH L2)) H (upd H a o):=.laid g λb z n=>⟨z.1,λq=>(m b).mp q |>.elim n z.2.1,z.2.2⟩
 refine⟨λb u q n=>by rw[mD (pP (h.fr b u q n) g)];exact h.fr b u q n,h.dk.upd f2,?_,λb i=>?_,λp f=>?_⟩
 .rw[e];have n:=h.nd;rw[pV] at n k;obtain⟨v,x,y⟩:=bC.mp n;refine bC.mpr ⟨v,bX.mpr ⟨λz=>k (aJ _ z),x⟩,λb i c t=>?_⟩;rcases aI.mp t with q | q
  .intro z;subst z;subst q;exact k (aM _ i)
  .exact y b i c q
 .rw[e] at i;rcases (m b).mp i with q | q
  .subst q;exact⟨f1,f2⟩
  .exact h.new b q
 .rw[e];simp only[aY,aI] at f;have old:∀ p∈L1++L2,qV K (Al B (hH L1++a::hH L2)) (upd H a o) p.1 p.2:=λp f=>(h.ok p f).mono s λb i w q=>by rw[mD (pP q g)];exact q
  rcases f with q | q | q
  .exact old p (aM _ q)
  .subst q;exact⟨a,rfl,r _ s⟩
  .exact old p (aJ _ q)
theorem DS.freeze (h:DS K B (g++(.o d,some v)::L2) H):DS K B (g++(.v d,some v)::L2) H:=by
 obtain⟨a,e,r⟩:=h.at;cases e;have c:hH (g++(Sl.o d,some (V.ref a))::L2)=hH g++a::hH L2:=qP;have hd:=h.drop;have f:=h.new a (by rw[c];simp);refine hd.push (r.rep (λb z=>⟨z.1,λq=>z.2.1 ?_,z.2.2⟩) ⟨f.2,λq=>?_,.inr f.1⟩)
 .rw[c];rw[pV] at q;simp only[aY,aI] at q |-;rcases q with q | q
  .exact .inl q
  .exact .inr (.inr q)
 .have n:=h.nd;rw[c] at n;rw[pV] at q;obtain⟨m,i,k⟩:=bC.mp n;rcases aY.mp q with q | q
  .exact k a q a aT rfl
  .exact (bX.mp i).1 q
theorem DS.write (h:DS K B (g++(.o d,some (.ref a))::L2) H) (r:∀ j,Kp (Al B (hH g++a::hH L2)) j H (upd H a o)->nU K j (upd H a o) a d'):DS K B (g++(.o d',some (.ref a))::L2) (upd H a o):=by
 have e:∀ d,hH (g++(Sl.o d,some (V.ref a))::L2)=hH g++a::hH L2:=λd=>qP
 have s:=h.new a (by rw[e];simp);obtain⟨u,t,A⟩:=h.live (a:=a) (by rw[e];simp);have k:Kp (Al B (hH g++a::hH L2)) (Al B (hH g++a::hH L2)) H (upd H a o):=.write t A λz=>z.2.1 (by simp)
 have n:=h.nd;rw[e] at n;have y:∀ b,b∈hH g\/b∈hH L2->b≠a:=λb c z=>by
  subst z;obtain⟨D,v,x⟩:=bC.mp n;rcases c with c | c
  .exact x b c b aT rfl
  .exact (bX.mp v).1 c
 refine⟨λb w q m=>?_,h.dk.upd s.2,by rw[e];exact n,λb c=>h.new b (by rw[e] at c |-;exact c),λp f=>?_⟩
 .have:b≠a:=λz=>by subst z;rw[s.1] at q;cases q
  rw[mD this];exact h.fr b w q m
 .rw[e];have old:∀ p,p∈g\/p∈L2->qV K (Al B (hH g++a::hH L2)) (upd H a o) p.1 p.2:=λp i=>by
   have:=h.ok p (by simp only[aY,aI];rcases i with q | q;exact .inl q;exact .inr (.inr q));rw[e] at this;refine this.mono k λb c w q=>?_
   rw[mD (y b ?_)]
   .exact q
   .rcases i with z | z
    .exact .inl (sP.mpr ⟨p,z,c⟩)
    .exact .inr (sP.mpr ⟨p,z,c⟩)
  simp only[aY,aI] at f;rcases f with q | q | q
  .exact old p (.inl q)
  .subst q;exact⟨a,rfl,r _ k⟩
  .exact old p (.inr q)
theorem DS.ownAt (h:DS K B (g++(.o d,some v)::L2) H):∃ a,v = .ref a/\nU K (Al B (hH g++a::hH L2)) H a d:=by
 obtain⟨a,e,r⟩:=h.at;cases e;rw[show hH (g++(Sl.o d,some (V.ref a))::L2)=hH g++a::hH L2 from qP] at r;exact⟨a,rfl,r⟩
theorem DS.perm (h:DS K B L H) (p:L.Perm M):DS K B M H:=by
 have e:(hH L).Perm (hH M):=p.filterMap wX;refine⟨h.fr,h.dk,e.nodup_iff.mp h.nd,λa b=>h.new a (e.mem_iff.mpr b),λq c=>(h.ok q (p.mem_iff.mpr c)).mono (.all λa z=>⟨z.1,λw=>z.2.1 (e.mem_iff.mpr w),z.2.2⟩) λ_ _ _ w=>w⟩
end
section
theorem uA {g:Aa Sl}{σ:St}(C:g.length=σ.length){i:Nat}{s:Sl}(h:g[i]?=some s):∃ j y l,σ[i]?=some y/\j.length=i/\g.zip σ=j++(s,y)::l/\∀ o p,(g.set i o).zip (σ.set i p)=j++(o,p)::l:=by
 induction g generalizing σ i with
 | nil=>simp at h
 | cons r g e =>
  cases σ with
  | nil=>simp at C
  | cons z σ =>
   cases i with
   | zero=>simp at h;subst h;exact⟨[],z,g.zip σ,rfl,rfl,rfl,λ_ _=>rfl⟩
   | succ i =>
    obtain⟨j,y,l,a,b,c,d⟩:=e (σ:=σ) (by simpa using C) (i:=i) (by simpa using h);exact⟨(r,z)::j,y,l,by simpa using a,by simp[b],by simp[c],λo p=>by simp[d]⟩
theorem Ak {g:St}{i:Nat}{y:Ab V}(h:g[i]?=some y):g.set i y=g:=by
 obtain⟨a,rfl⟩:=aL.mp h;exact List.set_getElem_self a
end
abbrev lP:=Aa Ad->Aa Sl->(Sl->Aa Sl->Prop)->Prop
abbrev pE:=Aa Ad->Aa Sl->(Bool->Aa Sl->Prop)->Prop
def dE (K:kQ) (g:lP):TE:=λb H Q=>∃ (B:Bs) (c:Aa Sl) (T:mU) (e:Sl->Aa Sl->Prop),c.length=b.length/\DS K B (c.zip b++T) H/\g B.dk c e /\
 ∀ r a v d,a.length=b.length->DS K B (a.zip b++(r,some v)::T) d->e r a->Q v d
def rC (K:kQ) (g:pE):TT:=λc H Q=>∃ (B:Bs) (d:Aa Sl) (T:mU) (f:Bool->Aa Sl->Prop),d.length=c.length/\DS K B (d.zip c++T) H/\g B.dk d f /\
 ∀ b a e,a.length=c.length->DS K B (a.zip c++T) e->f b a->Q b e
theorem dE.elim {K:kQ}{P:Prop}(h:dE K C o H Q) (f:∀ (B:Bs) (j:Aa Sl) (T:mU) (l:Sl->Aa Sl->Prop),j.length=o.length->DS K B (j.zip o++T) H->C B.dk j l ->(∀ r g v p,g.length=o.length->DS K B (g.zip o++(r,some v)::T) p->l r g->Q v p)->P):P:=by
 obtain⟨B,j,T,l,a,hd,b,k⟩:=h;exact f B j T l a hd b k
theorem rC.elim {K:kQ}{P:Prop}(h:rC K r o H Q) (f:∀ (B:Bs) (j:Aa Sl) (T:mU) (l:Bool->Aa Sl->Prop),j.length=o.length->DS K B (j.zip o++T) H->r B.dk j l ->(∀ b g p,g.length=o.length->DS K B (g.zip o++T) p->l b g->Q b p)->P):P:=by
 obtain⟨B,j,T,l,a,hd,c,k⟩:=h;exact f B j T l a hd c k
abbrev PD (X:Cx) (e:Expr) (g:lP):Prop:=PE X e (dE X.K g)
abbrev qN (X:Cx) (e:Expr) (g:pE):Prop:=PT X e (rC X.K g)
abbrev xV (X:Cx) (e:Expr) (g:pE):Prop:=PW X e (rC X.K g)
theorem PE.mono {X:Cx}(h:PE X e t) (k:∀ g H Q,j g H Q->t g H Q):PE X e j:=λa s g H Q I q=>h a s g H Q I (k g H Q q)
theorem PT.mono {X:Cx}(h:PT X e t) (k:∀ g H Q,j g H Q->t g H Q):PT X e j:=λa s g H Q I q=>h a s g H Q I (k g H Q q)
theorem PW.mono {X:Cx}(h:PW X e t) (k:∀ g H Q,j g H Q->t g H Q):PW X e j:=λb a s g H Q I q=>h b a s g H Q I (k g H Q q)
def sd:Sl->Ab D
 | .v d=>some d
 | .o d=>some d
 | .n=>none
section
variable {K:kQ}{L2:mU}
theorem Fy:hH (g++(Sl.v d,y)::L2)=hH (g++L2):=by rw[qP,pV];rfl
theorem DS.thaw (h:DS K B (g++(r,some v)::L2) H) (e:sd r=some d):DS K B (g++(.v d,some v)::L2) H:=by
 cases r with
 | n=>cases e
 | v c=>cases e;exact h
 | o c=>cases e;exact h.freeze
theorem DS.one (h:DS K B (L++(r,some v)::T) H) (e:sd r=some d):DS K B (L++T) H/\Rep K (Al B (hH (L++T))) H d v:=by
 have a:=h.thaw e;exact⟨a.drop,a.valAt⟩
theorem DS.two (h:DS K B (L++(l,some u)::(r,some v)::T) H) (g:sd r=some d) (j:sd l=some e):DS K B (L++T) H/\Rep K (Al B (hH (L++T))) H d v/\Rep K (Al B (hH (L++T))) H e u:=by
 have m:=h.thaw j;have n:DS K B ((L++[(Sl.v e,some u)])++(r,some v)::T) H:=by simpa using m
 have a:=n.thaw g;have b:DS K B (L++(Sl.v e,some u)::(.v d,some v)::T) H:=by simpa using a
 have c:=b.valAt;have f:=a.valAt;have i:hH (L++(Sl.v d,some v)::T)=hH (L++T):=by rw[qP,pV];rfl
 have k:hH ((L++[(Sl.v e,some u)])++T)=hH (L++T):=by
  rw[bB];show hH (L++(Sl.v e,some u)::T)=_;rw[qP,pV];rfl
 rw[i] at c;rw[k] at f;exact⟨b.drop.drop,f,c⟩
theorem DS.mid (h:DS K B (x::(L++T)) H):DS K B (L++x::T) H:=h.perm gE.symm
theorem DS.front (h:DS K B (L++x::T) H):DS K B (x::(L++T)) H:=h.perm gE
theorem DS.pushF (h:DS K B L H) (r:Rep K (Al B (hH L)) H d v):DS K B ((.v d,some v)::L) H:=DS.push (L1:=[]) h r
theorem DS.tupF (h:DS K B L H) (j:H a=none) (r:Reps K (Al B (hH L)) H g l):DS K B ((.v (.t g),some (.ref a))::L) (upd H a (.t l)):=DS.tup (L1:=[]) h j r
theorem DS.lstF (h:DS K B L H) (p:H a=none) (r:Reps K (Al B (hH L)) H j g):DS K B ((.o (.l j),some (.ref a))::L) (upd H a (.l g)) :=
 DS.make (L1:=[]) h p λb k=>⟨g,nM,r.mono k⟩
theorem DS.dKF (h:DS K B L H) (g:H a=none) (e:ds.map (·.1)=kvs.map (·.1)) (r:Reps K (Al B (hH L)) H (ds.map (·.2)) (kvs.map (·.2))):DS K B ((.o (.k ds),some (.ref a))::L) (upd H a (.k kvs)) :=
 DS.make (L1:=[]) h g λb k=>⟨kvs,nM,e,r.mono k⟩
end
def mE (K:kQ) (A:Ad->Prop) (H:Hp):D->V->Prop
 | .l f,v=>∃ a h,v = .ref a/\H a=some (.l h)/\Reps K A H f h
 | .k f,v=>∃ a d,v = .ref a/\Rd H a (.k d)/\f.map (·.1)=d.map (·.1)/\Reps K A H (f.map (·.2)) (d.map (·.2))
 | .T f,v=>∃ a d,v = .ref a/\Rd H a (.T d)/\f.map (·.1)=d.map (·.1)/\Reps K A H (f.map (·.2)) (d.map (·.2))
 | .e,v=>Rep K A H .e v
 | .b b,v=>Rep K A H (.b b) v
 | .int b,v=>Rep K A H (.int b) v
 | .str b,v=>Rep K A H (.str b) v
 | .r b,v=>Rep K A H (.r b) v
 | .t b,v=>Rep K A H (.t b) v
 | .con b,v=>Rep K A H (.con b) v
 | .c b,v=>Rep K A H (.c b) v
section
variable {K:kQ}
theorem Rep.peek (h:Rep K A H d v):mE K A H d v:=by
 cases h with
 | l _ h r=>exact⟨_,_,rfl,h,r⟩
 | k _ h e r=>exact⟨_,_,rfl,h,e,r⟩
 | T _ h e r=>exact⟨_,_,rfl,h,e,r⟩
 | e=>exact .e
 | b=>exact .b _
 | int=>exact .int _
 | str=>exact .str _
 | r=>exact .r _
 | t h r=>exact .t h r
 | con h r=>exact .con h r
 | c h r=>exact .c h r
theorem nU.peek:∀ {d:D},nU K A H a d->mE K A H d (.ref a)
 | .l _,⟨b,h,r⟩=>⟨_,b,rfl,h,r⟩
 | .k _,⟨b,h,e,r⟩=>⟨_,b,rfl,.inl h,e,r⟩
 | .T _,⟨b,h,e,r⟩=>⟨_,b,rfl,.inl h,e,r⟩
theorem mE.lst_inv (h:mE K A H (.l j) v):∃ a g,v = .ref a/\H a=some (.l g)/\Reps K A H j g:=h
theorem mE.dK_inv (h:mE K A H (.k j) v):∃ a g,v = .ref a/\Rd H a (.k g)/\j.map (·.1)=g.map (·.1)/\Reps K A H (j.map (·.2)) (g.map (·.2)):=h
theorem mE.dT_inv (h:mE K A H (.T j) v):∃ a g,v = .ref a/\Rd H a (.T g)/\j.map (·.1)=g.map (·.1)/\Reps K A H (j.map (·.2)) (g.map (·.2)):=h
theorem mE.tup_inv (h:mE K A H (.t j) v):∃ a g,v = .ref a/\H a=some (.t g)/\Reps K A H j g:=Rep.tup_inv h
theorem mE.con_inv (h:mE K A H (.con j) v):∃ a g,v = .ref a/\Az K a g/\Reps K A H j g:=Rep.con_inv h
theorem mE.scr_inv (h:mE K A H (.c j) v):∃ a g,v = .ref a/\uP K H a g/\Reps K A H j g:=Rep.scr_inv h
theorem mE.int_inv (h:mE K A H (.int i) v):v = .int i:=Rep.int_inv h
theorem mE.str_inv (h:mE K A H (.str i) v):v = .str i:=Rep.str_inv h
theorem mE.bl_inv (h:mE K A H (.b i) v):v = .b i:=Rep.bl_inv h
theorem mE.non_inv (h:mE K A H .e v):v = .e:=Rep.non_inv h
theorem mE.raw_inv (h:mE K A H (.r u) v):v=u:=Rep.raw_inv h
def at? (g:Aa Sl) (i:Nat):Ab D:=(g[i]?).bind sd
theorem DS.peek (l:g.length=j.length) (h:DS K B (g.zip j++T) H) (e:at? g i=some d):∃ v,j[i]?=some (some v)/\mE K (Al B (hH (g.zip j++T))) H d v:=by
 unfold at? at e;cases f:g[i]? with
 | none=>rw[f] at e;cases e
 | some s =>
  rw[f] at e;obtain⟨q,y,t,k,_,m,_⟩:=uA l f;have b:=h;rw[m] at b;have:=b.ok (s,y) (by simp);rw[<- m] at this;cases s with
  | n=>cases e
  | v c=>cases e;obtain⟨v,rfl,r⟩:=this;exact⟨v,k,r.peek⟩
  | o c=>cases e;obtain⟨a,rfl,r⟩:=this;exact⟨_,k,r.peek⟩
end
noncomputable def vd (i:Nat):lP:=λ_ a b=>match a[i]? with
 | some (.v d)=>b (.v d) a
 | some (.o d)=>b (.v d) (a.set i (.v d))
 | _=>False
def cd (d:D):lP:=λ_ b a=>a (.v d) b
section
variable {X:Cx}
theorem eH (i:Nat) (h:PE X (.Name x pos) (pA i):=by exact pv _):PD X (.Name x pos) (vd i):=h.mono λL H Q z=>z.elim λB D T M w hd c k=>by
 unfold vd at c;cases e:D[i]? with
 | none=>rw[e] at c;exact c.elim
 | some s =>
  rw[e] at c;obtain⟨f,y,m,A,_,G,q⟩:=uA w e;have b:DS X.K B (f++(s,y)::(m++T)) H:=by rw[G] at hd;simpa using hd
  cases s with
  | n=>exact c.elim
  | v d =>
   obtain⟨v,rfl,_⟩:=b.at;refine⟨v,A,k _ _ v H w ?_ c⟩;refine hd.push ?_;have:=b.valAt;rw[G];have t:hH ((f++(Sl.v d,some v)::m)++T)=hH (f++(m++T)):=by
    rw[bB,cQ,Fy]
   rw[t];exact this
  | o d =>
   obtain⟨a,rfl,_⟩:=b.at;have E:=b.freeze;have F:(D.set i (.v d)).zip L=f++(.v d,some (.ref a))::m:=by
    have:=q (.v d) (some (.ref a));rw[Ak A] at this;exact this
   have u:DS X.K B ((D.set i (.v d)).zip L++T) H:=by rw[F];simpa using E
   refine⟨.ref a,A,k _ _ _ H (by rw[bY];exact w) ?_ c⟩;refine u.push ?_;have:=E.valAt;rw[F];have t:hH ((f++(Sl.v d,some (V.ref a))::m)++T)=hH (f++(m++T)):=by
    rw[bB,cQ,Fy]
   rw[t];exact this
theorem A3 (h:PE X e (tC v)) (r:∀ K A H,Rep K A H d v):PD X e (cd d):=h.mono λm H Q a=>a.elim λB f T i b hd c k=>k _ f v H b (hd.push (r _ _ _)) c
theorem eI:PD X (.Constant (.int i) j pos) (cd (.int i)):=A3 Jm λ_ _ _=>.int i
theorem mJ {x:Af}{j:Nat}:PD X (.Constant (.str x) j pos) (cd (.str x)):=A3 xJ λ_ _ _=>.str x
theorem yY:PD X (.Constant (.bool x) j pos) (cd (.b x)):=A3 Q5 λ_ _ _=>.b x
abbrev O2:=D->D->(Sl->Prop)->Prop
def nD (K:kQ) (r:R2) (f:O2):Prop:=∀ (B:Bs) (L:mU) (H:Hp) (d e:D) (x y:V) (b:Sl->Prop) (Q:VK),DS K B L H->mE K (Al B (hH L)) H d x->mE K (Al B (hH L)) H e y->f d e b ->
 (∀ s v a,b s->DS K B ((s,some v)::L) a->Q v a)->r x y H Q
def d2 (f:O2) (g j:lP):lP:=λc m k=>g c m λh a=>j c a λi b=>match sd h,sd i with
 | some d,some e=>f d e λr=>k r b
 | _,_=>False
theorem E4 (o:nD X.K r f) (h:dE X.K (d2 f p C) l H Q):dE X.K p l H λx j=>dE X.K C l j λy g=>r x y g Q:=by
 obtain⟨B,N,T,O,w,hd,A,k⟩:=h;refine⟨B,N,T,_,w,hd,A,λq m x j D d1 u=>⟨B,m,(q,some x)::T,_,D,d1,u,λM n y g E d2 a=>?_⟩⟩;cases b:sd q with
 | none=>rw[b] at a;exact a.elim
 | some d =>
  cases c:sd M with
  | none=>rw[b,c] at a;exact a.elim
  | some e =>
   rw[b,c] at a;obtain⟨F,G,L⟩:=d2.two b c;exact o B _ g d e x y _ Q F G.peek L.peek a λs v t z i=>k s n v t E i.mid z
def xA (f:O2) (i:Nat) (g:lP):lP:=λc b k=>(at? b i).isSome=true/\g c b λh a=>match at? a i,sd h with
 | some d,some e=>f d e λr=>k r a
 | _,_=>False
def Mm (f:O2) (g:lP) (i:Nat):lP:=λb k h=>g b k λc a=>match sd c,at? a i with
 | some d,some e=>f d e λr=>h r a
 | _,_=>False
theorem Fg (o:nD X.K r f) (h:dE X.K (xA f i p) j H Q):pA i j H λx l=>dE X.K p j l λy g=>r x y g Q:=by
 obtain⟨B,O,T,S,t,hd,⟨E,G⟩,k⟩:=h;obtain⟨P,D⟩:=cP.mp E;obtain⟨x,u,_⟩:=hd.peek t D;refine⟨x,u,B,O,T,_,t,hd,G,λN c y g w d2 a=>?_⟩;cases m:at? c i with
 | none=>rw[m] at a;exact a.elim
 | some d =>
  cases n:sd N with
  | none=>rw[m,n] at a;exact a.elim
  | some e =>
   rw[m,n] at a;obtain⟨z,M⟩:=d2.one n;obtain⟨R,b,L⟩:=z.peek w m;rw[u] at b;cases b;exact o B _ g d e x y _ Q z L M.peek a λs v A F q=>k s c v A w q.mid F
theorem BK (o:nD X.K r f) (h:dE X.K (Mm f p i) j H Q):dE X.K p j H λx g=>pA i j g λy l=>r x y l Q:=by
 obtain⟨B,G,T,L,w,hd,A,k⟩:=h;refine⟨B,G,T,_,w,hd,A,λF b x g q d1 a=>?_⟩;cases c:sd F with
 | none=>rw[c] at a;exact a.elim
 | some d =>
  cases m:at? b i with
  | none=>rw[c,m] at a;exact a.elim
  | some e =>
   rw[c,m] at a;obtain⟨t,E⟩:=d1.one c;obtain⟨y,D,py⟩:=t.peek q m;exact⟨y,D,o B _ g d e x y _ Q t E.peek py a λs v u z n=>k s b v u q n.mid z⟩
theorem mK (o:lH X (binaryOp op) r) (l:nD X.K r f) (i:Nat) (j:PD X b p) (g:PE X a (pA i):=by exact pv _):PD X (.BinOp a op b pos) (xA f i p):=(Ma o g j).mono λ_ _ _ h=>Fg l h
theorem BB (p:lH X (compareOp op) r) (l:nD X.K r f) (g:PE X a (pA i)) (j:PD X b C) (o:behindInMarks op b=false:=by first | exact Cd _ | (with_unfolding_all rfl)):PD X (.Compare a [op] [b] pos) (xA f i C) :=
 (Bo p g j o).mono λ_ _ _ h=>Fg l h
theorem kT (o:lH X (binaryOp op) r) (l:nD X.K r f) (g:PD X a p) (j:PD X b C):PD X (.BinOp a op b pos) (d2 f p C):=(Ma o g j).mono λ_ _ _ h=>E4 l h
theorem xZ (p:lH X (compareOp op) r) (l:nD X.K r f) (g:PD X a C) (j:PD X b I) (o:behindInMarks op b=false:=by first | exact Cd _ | (with_unfolding_all rfl)):PD X (.Compare a [op] [b] pos) (d2 f C I) :=
 (Bo p g j o).mono λ_ _ _ h=>E4 l h
def wO (t:lP):pE:=λc e d=>t c e λr a=>match r with
 | .v (.b b)=>d b a
 | _=>False
theorem Je (h:rC X.K (wO t) j H Q):dE X.K t j H λx g=>∃ k,x = .b k/\Q k g:=by
 obtain⟨B,m,T,q,e,hd,f,k⟩:=h;refine⟨B,m,T,_,e,hd,f,λr c v g i d1 a=>?_⟩;cases r with
 | n=>exact a.elim
 | o d=>exact a.elim
 | v d =>
  cases d with
  | b b=>exact⟨b,d1.valAt.bl_inv,k b c g i d1.drop a⟩
  | _=>exact a.elim
theorem oO (p:lH X (compareOp op) r) (l:nD X.K r f) (g:PE X a (pA i)) (j:PD X b C) (o:behindInMarks op b=false:=by first | exact Cd _ | (with_unfolding_all rfl)):qN X (.Compare a [op] [b] pos) (wO (xA f i C)) :=
 (Jb p g j o).mono λc H Q h=>Fg l (Je h)
theorem vK (p:lH X (compareOp op) r) (l:nD X.K r f) (g:PD X a C) (j:PE X b (pA i)) (o:behindInMarks op b=false:=by first | exact Cd _ | (with_unfolding_all rfl)):qN X (.Compare a [op] [b] pos) (wO (Mm f C i)) :=
 (Jb p g j o).mono λc H Q h=>BK l (Je h)
theorem rY (p:lH X (compareOp op) r) (l:nD X.K r f) (g:PD X a C) (j:PD X b I) (o:behindInMarks op b=false:=by first | exact Cd _ | (with_unfolding_all rfl)):qN X (.Compare a [op] [b] pos) (wO (d2 f C I)) :=
 (Jb p g j o).mono λc H Q h=>by
  have:=Je h;exact E4 l this
end
section
variable [DecidableEq κ]
noncomputable def kR (g:Aa (κ×D)) (k:κ):Ab D:=(g.find? λa=>decide (a.1=k)).map (·.2)
noncomputable def nN (g:Aa (κ×D)) (k:κ) (d:D):Aa (κ×D):=if g.any (λa=>decide (a.1=k)) then g.map (λa=>if a.1=k then (a.1,d) else a) else g++[(k,d)]
theorem Ce:kR ([]:Aa (κ×D)) k=none:=rfl
theorem sU {k j:κ}{d:D}{r:Aa (κ×D)}:kR ((j,d)::r) k=if j=k then some d else kR r k:=by
 unfold kR;rw[List.find?_cons];by_cases h:j=k<;>simp[h]
theorem Bi (k:κ):∀ g:Aa (κ×D),(g.any λl=>decide (l.1=k))=(kR g k).isSome
 | []=>rfl
 | (j,d)::r=>by
  rw[sU,fO,Bi k r];by_cases h:j=k<;>simp[h]
theorem xB (g:Aa (κ×D)) (k j:κ) (d:D):kR (nN g k d) j=if k=j then some d else kR g j:=by
 unfold nN;rw[Bi];have a:∀ r:Aa (κ×D),kR (r.map λf=>if f.1=k then (f.1,d) else f) j=if k=j then (kR r j).map (λ_=>d) else kR r j:=by
  intro r;induction r with
  | nil=>simp[Ce]
  | cons p r b =>
   obtain⟨i,e⟩:=p;rw[bH];by_cases h:i=k
   .subst h;simp only[fX,sU,b];by_cases z:i=j<;>simp[z]
   .simp only[h,gM,sU,b];by_cases z:i=j
    .subst z;simp[eR h]
    .simp[z]
 have c:∀ r:Aa (κ×D),kR r k=none->kR (r++[(k,d)]) j=if k=j then some d else kR r j:=by
  intro r;induction r with
  | nil=>intro _;rw[fW,sU,Ce]
  | cons p r b =>
   obtain⟨i,e⟩:=p;rw[sU];by_cases h:i=k
   .simp[h]
   .rw[aK h];intro m;rw[cQ,sU,b m,sU];by_cases z:i=j
    .subst z;simp[eR h]
    .simp[z]
 cases e:kR g k with
 | none=>simp only[Option.isSome_none,fQ,gM];exact c g e
 | some w =>
  simp only[jZ,fX,a];by_cases z:k=j
  .subst z;simp[e]
  .simp[z]
theorem xH (g:Aa (κ×D)) (k:κ) (d:D):(nN g k d).length<=g.length+1:=by
 unfold nN;split<;>simp
end
section
variable [DecidableEq κ] {K:kQ}
theorem Bb:∀ {l:Aa (κ×D)}{g:Aa (κ×V)},l.map (·.1)=g.map (·.1)->Reps K A H (l.map (·.2)) (g.map (·.2))->∀ k,(∀ d,kR l k=some d->∃ v,nV g k=some v/\Rep K A H d v)/\(kR l k=none->nV g k=none)
 | [],[],_,_,k=>⟨λd h=>by simp[Ce] at h,λ_=>rfl⟩
 | [],_::_,e,_,_=>by simp at e
 | _::_,[],e,_,_=>by simp at e
 | (i,d)::l,(j,v)::g,e,r,k=>by
  simp only[bH,eV] at e;obtain⟨a,b⟩:=e;subst a;cases r with
  | cons h r =>
   have c:=Bb b r k;rw[sU];by_cases z:i=k
   .rw[aZ z,sL z];exact⟨λf q=>by cases q;exact⟨v,rfl,h⟩,λq=>by cases q⟩
   .rw[aK z,sJ z];exact c
theorem Iv {o:Aa (κ×D)}{l:Aa (κ×V)}(e:o.map (·.1)=l.map (·.1)) (r:Reps K A H (o.map (·.2)) (l.map (·.2))){k:κ}{d:D}{v:V}(h:Rep K A H d v) :
  (nN o k d).map (·.1)=(pC l k v).map (·.1)/\Reps K A H ((nN o k d).map (·.2)) ((pC l k v).map (·.2)):=by
 have m:∀ (o:Aa (κ×D)) (l:Aa (κ×V)),o.map (·.1)=l.map (·.1)->(o.any λa=>decide (a.1=k))=l.any λa=>decide (a.1=k):=by
  intro o;induction o with
  | nil=>intro l e;cases l with
   | nil=>rfl
   | cons _ _=>simp at e
  | cons p o b=>intro l e;cases l with
   | nil=>simp at e
   | cons q l =>
    simp only[bH,eV] at e;rw[fO,fO,b l e.2,e.1]
 have n:∀ (o:Aa (κ×D)) (l:Aa (κ×V)),o.map (·.1)=l.map (·.1)->Reps K A H (o.map (·.2)) (l.map (·.2)) ->
   (o.map λa=>if a.1=k then (a.1,d) else a).map (·.1)=(l.map λa=>if a.1=k then (a.1,v) else a).map (·.1) /\
   Reps K A H ((o.map λa=>if a.1=k then (a.1,d) else a).map (·.2)) ((l.map λa=>if a.1=k then (a.1,v) else a).map (·.2)):=by
  intro o;induction o with
  | nil=>intro l e r;cases l with
   | nil=>exact⟨rfl,.nil⟩
   | cons _ _=>simp at e
  | cons p o b=>intro l e r;cases l with
   | nil=>simp at e
   | cons q l =>
    simp only[bH,eV] at e;cases r with
    | cons g r =>
     obtain⟨c,f⟩:=b l e.2 r;obtain⟨i,s⟩:=p;obtain⟨j,v0⟩:=q;obtain⟨rfl,t⟩:=e;by_cases z:i=k
     .simp only[bH,z,fX];exact⟨by rw[c],.cons h f⟩
     .simp only[bH,z,gM];exact⟨by rw[c],.cons g f⟩
 unfold nN pC;rw[m o l e];by_cases z:(l.any λa=>decide (a.1=k))=true
 .rw[aZ z,aZ z];exact n o l e r
 .rw[aK z,aK z];simp only[aF,bH,gH];exact⟨by rw[e],r.append (.cons h .nil)⟩
end
section
variable {X:Cx}{K:kQ}
def N6 (K:kQ):R2:=λx y H Q=>∃ a b c,x = .ref a/\y = .ref b/\lR K H a []/\lR K H b c/\Q (.ref b) H
theorem Yu:lH X (binaryOp .Add) (N6 X.K):=by
 intro w s Z H x y v u Q I N O h;obtain⟨a,b,Y,rfl,rfl,B,D,q⟩:=h;cases N;cases O;obtain⟨E,M,G,_⟩:=I.tuple B;obtain⟨t,W,L,_⟩:=I.tuple D;cases M;obtain⟨⟨R,A,V,P⟩,m,k,n,hd⟩:=id G;obtain⟨⟨S,f,z,i⟩,e,c,F,d⟩:=id L;simp only at k hd c d;subst k hd c d;exact concat_meets ⟨_,m,rfl⟩ ⟨_,e,rfl⟩ noFill_tuple_add seq_tuple_add iS iP (iC _ _)
  (tuple_addW0 a b _ _ n F A f P i (by simp)) ⟨m,e,⟨.ref b,H,I,rfl,q⟩⟩
def Qh (K:kQ):R2:=λx y H Q=>(qG λi j=>.int (i+j)) x y H Q\/(∃ i j,x = .str i/\y = .str j/\i.length+j.length<=sizeLine/\Q (.str (i++j)) H)\/K7 x y H Q\/Mz K x y H Q\/N6 K x y H Q
theorem lO:lH X (binaryOp .Add) (Qh X.K):=W8.or (V4.or (HI.or (Sh.or Yu)))
theorem wM (h:n<=100000):n<=sizeLine:=bS h (by decide)
def U1:O2
 | .int i,.int j,a=>a (.v (.int (i+j)))
 | .str i,.str j,a=>i.length+j.length<=100000/\a (.v (.str (i++j)))
 | .l b,.l c,a=>b.length+c.length<=100000/\a (.o (.l (b++c)))
 | .t b,.t c,a=>b.length+c.length<=100000/\a (.v (.t (b++c)))
 | _,_,_=>False
theorem lM:nD K (Qh K) U1:=by
 intro B L H d e x y A Q hd n s c k;cases d<;>first | exact False.elim c | skip<;>cases e<;>first | exact False.elim c | skip
 .cases n;cases s;exact .inl ⟨_,_,rfl,rfl,k _ _ H c (hd.pushF (.int _))⟩
 .cases n;cases s;exact .inr (.inl ⟨_,_,rfl,rfl,wM c.1,k _ _ H c.2 (hd.pushF (.str _))⟩)
 .obtain⟨a,m,rfl,t,f⟩:=n.tup_inv;obtain⟨b,i,rfl,u,h⟩:=s.tup_inv;have v:m.length+i.length<=100000:=by rw[<- f.length,<- h.length];exact c.1
  by_cases z:m=[]
  .subst z;have:=f.nil_iff.mp rfl;subst this;exact .inr (.inr (.inr (.inr ⟨a,b,i,rfl,rfl,lR.of t,lR.of u,k _ _ H c.2 (hd.pushF s)⟩)))
  .refine .inr (.inr (.inr (.inl ⟨a,b,m,i,rfl,rfl,lR.of t,lR.of u,z,wM v,λq=>?_,λ_ p w=>k _ _ _ c.2 (hd.tupF w (f.append h))⟩)));subst q;have:=h.nil_iff.mp rfl;subst this;exact k _ _ H c.2 (by rw[cD];exact hd.pushF n)
 .obtain⟨a,m,rfl,t,f⟩:=n.lst_inv;obtain⟨b,i,rfl,u,h⟩:=s.lst_inv;have v:m.length+i.length<=100000:=by rw[<- f.length,<- h.length];exact c.1
  exact .inr (.inr (.inl ⟨a,b,m,i,rfl,rfl,t,u,wM v,λp w=>k _ _ _ c.2 (hd.lstF w (f.append h))⟩))
def fI (C:Int->Int->Prop) (g:Int->Int->D):O2
 | .int i,.int j,a=>C i j/\a (.v (g i j))
 | _,_,_=>False
theorem Cg (p:∀ i j,C i j->l i j) (r:∀ A H i j,Rep K A H (g i j) (o i j)):nD K (rI l o) (fI C g):=by
 intro B L H d e x y f Q hd b c a k;cases d<;>first | exact False.elim a | skip<;>cases e<;>first | exact False.elim a | skip
 cases b;cases c;exact⟨_,_,rfl,rfl,p _ _ a.1,k _ _ H a.2 (hd.pushF (r _ _ _ _))⟩
def xT (g:Int->Int->D):O2
 | .int i,.int j,a=>a (.v (g i j))
 | _,_,_=>False
theorem zO (o:∀ A H i j,Rep K A H (g i j) (l i j)):nD K (qG l) (xT g):=by
 intro B L H d e x y f Q hd b c a k;cases d<;>first | exact False.elim a | skip<;>cases e<;>first | exact False.elim a | skip
 cases b;cases c;exact⟨_,_,rfl,rfl,k _ _ H a (hd.pushF (o _ _ _ _))⟩
abbrev Vc:O2:=xT λi j=>.int (i-j)
theorem vR:nD K (qG λi j=>.int (i-j)) Vc:=zO λ_ _ _ _=>.int _
def Ol:R2:=λx y H Q=>(rI En λi j=>.int (i*j)) x y H Q\/Lk x y H Q
theorem tJ:lH X (binaryOp .Mult) Ol:=Zn.or EB
def S6:O2
 | .int i,.int j,a=>((-(2 ^ 64)<i/\i<2 ^ 64)\/(-(2 ^ 64)<j/\j<2 ^ 64))/\a (.v (.int (i*j)))
 | .l b,.int k,a=>0<=k/\k<=1000/\b.length<=100/\a (.o (.l (List.replicate k.toNat b).flatten))
 | _,_,_=>False
theorem Q7 (r:Reps K A H g j):∀ k:Nat,Reps K A H (List.replicate k g).flatten (List.replicate k j).flatten
 | 0=>.nil
 | k+1=>by rw[cU,cU,fZ,fZ];exact r.append (Q7 r k)
theorem tM:nD K Ol S6:=by
 intro B L H d e x y w Q hd h i b k;cases d<;>first | exact False.elim b | skip<;>cases e<;>first | exact False.elim b | skip
 .cases h;cases i;exact .inl ⟨_,_,rfl,rfl,b.1,k _ _ H b.2 (hd.pushF (.int _))⟩
 .cases i
  rename_i n
  obtain⟨a,m,rfl,q,f⟩:=h.lst_inv;obtain⟨u,v,s,b⟩:=b;have c:m.length<=100:=by rw[<- f.length];exact s
  refine .inr ⟨a,n,m,rfl,rfl,q,by omega,by omega,bS (Nat.mul_le_mul c (show n.toNat<=1000 by omega)) (by decide),λp t=>?_⟩;exact k _ _ _ b (hd.lstF t (Q7 f _))
theorem BQ {j:Int}(g:0<j) (h:j<2 ^ 64):j.natAbs.log2<9000:=by
 have:j.natAbs<2 ^ 64:=by omega
 exact bR ((Nat.log2_lt (by omega)).mpr this) (by decide)
theorem uV:lH X (binaryOp .FloorDiv) (rI (λ_ j=>0<j/\j<2 ^ 64) λi j=>.int (i/j)):=yR λi j _ _ _ _ _ a q=>by
 refine floordiv_int (by omega) ?_ (.inl (PyProof.noPylong_of_log2 (BQ a.1 a.2)));rw[Int.fdiv_eq_ediv_of_nonneg _ (by omega)];exact q
abbrev IB:O2:=fI (λ_ j=>0<j/\j<2 ^ 64) λi j=>.int (i/j)
theorem vA:nD K (rI (λ_ j=>0<j/\j<2 ^ 64) λi j=>.int (i/j)) IB:=Cg (λ_ _ h=>h) λ_ _ _ _=>.int _
abbrev X9:O2:=fI (λ_ j=>0<j) λi j=>.int (i%j)
theorem mR:nD K (rI (λ_ j=>0<j) λi j=>.int (i%j)) X9:=Cg (λ_ _ h=>h) λ_ _ _ _=>.int _
abbrev Xe:O2:=fI (λi j=>0<=j/\j<=1000000/\i.natAbs<2 ^ 64) λi j=>.int (i*2 ^ j.toNat)
theorem Cz:nD K (rI Fm λi j=>.int (i*2 ^ j.toNat)) Xe:=Cg (λ_ _ h=>h) λ_ _ _ _=>.int _
abbrev DB:O2:=fI (λi j=>0<=j/\j<=1000000/\i.natAbs<2 ^ 64) λi j=>.int (i ^ j.toNat)
theorem Nt:nD K (rI Fm λi j=>.int (i ^ j.toNat)) DB:=Cg (λ_ _ h=>h) λ_ _ _ _=>.int _
abbrev CH:O2:=fI (λ_ j=>0<=j) λi j=>.int (i/2 ^ j.toNat)
theorem Uw:nD K (rI (λ_ j=>0<=j) λi j=>.int (i/2 ^ j.toNat)) CH:=Cg (λ_ _ h=>h) λ_ _ _ _=>.int _
abbrev Zj:O2:=xT λi j=>.int (Builtin.bitAnd i j)
theorem W6:nD K (qG λi j=>.int (Builtin.bitAnd i j)) Zj:=zO λ_ _ _ _=>.int _
abbrev AB:O2:=xT λi j=>.b (decide (i<j))
theorem Yy:nD K (qG λi j=>.b (decide (i<j))) AB:=zO λ_ _ _ _=>.b _
abbrev DX:O2:=xT λi j=>.b (decide (i<=j))
theorem JA:nD K (qG λi j=>.b (decide (i<=j))) DX:=zO λ_ _ _ _=>.b _
abbrev GI:O2:=xT λi j=>.b (decide (j<i))
theorem uO:nD K (qG λi j=>.b (decide (j<i))) GI:=zO λ_ _ _ _=>.b _
abbrev T5:O2:=xT λi j=>.b (decide (j<=i))
theorem O0:nD K (qG λi j=>.b (decide (j<=i))) T5:=zO λ_ _ _ _=>.b _
end
noncomputable def qW:D->Ab fS
 | .int i=>some (.inl i)
 | .str x=>some (.inr x)
 | _=>none
def wV:Aa D->Ab (Aa fS)
 | []=>some []
 | d::a=>match qW d,wV a with
  | some k,some b=>some (k::b)
  | _,_=>none
noncomputable def nb (neg b:Bool):Bool:=if neg then !b else b
section
variable {X:Cx}{K:kQ}
theorem Bt (h:qW d=some k) (r:mE K A H d v):v=kV k:=by
 cases d<;>cases h
 .exact r.int_inv
 .exact r.str_inv
theorem Ko (h:wV g=some j) (l:Reps K A H g o):o=j.map kV:=by
 induction g generalizing j o with
 | nil=>cases l;cases h;rfl
 | cons d g c =>
  cases l with
  | cons r l =>
  have h:=(show (match qW d,wV g with | some k,some j=>some (k::j) | _,_=>none)=some j from h);cases a:qW d with
  | none=>rw[a] at h;cases h
  | some k =>
   cases b:wV g with
   | none=>rw[a,b] at h;cases h
   | some e =>
    rw[a,b] at h;cases h;rw[Bt a r.peek,c b l];rfl
def wY:D->D->Ab (Ab D)
 | .k a,d=>(qW d).map (kR a)
 | .T a,.t b=>(wV b).map (kR a)
 | _,_=>none
theorem Hj (h:wY d e=some o) (g:mE K A H d x) (j:mE K A H e y):∃ a w,x = .ref a/\rB H a y w/\(∀ c,o=some c->∃ v,w=some v/\Rep K A H c v)/\(o=none->w=none):=by
 cases d with
 | k q =>
  obtain⟨a,B,rfl,i,f,z⟩:=g.dK_inv;obtain⟨k,n,rfl⟩:=cK.mp h;rw[Bt n j];obtain⟨s,u⟩:=Bb f z k;exact⟨a,_,rfl,.inl ⟨B,k,i,rfl,rfl⟩,λc m=>s c m,u⟩
 | T q =>
  obtain⟨a,B,rfl,i,f,z⟩:=g.dT_inv;cases e with
  | t G =>
   obtain⟨b,F,rfl,D,E⟩:=j.tup_inv;obtain⟨k,n,rfl⟩:=cK.mp h;rw[Ko n E] at D;obtain⟨s,u⟩:=Bb f z k;exact⟨a,_,rfl,.inr ⟨B,k,b,i,rfl,D,rfl⟩,λc m=>s c m,u⟩
  | _=>cases h
 | _=>cases h
def Lp:R2:=λx y H Q=>∃ a v,x = .ref a/\rB H a y (some v)/\Q v H
theorem ED (j:X.A.units+1<cLine):tH X Lp:=by
 intro value slice b s m H x y v u Q I i k h f;obtain⟨a,w,rfl,g,q⟩:=h;cases i;unfold subscriptTail;refine aB ?_;rw[getitemInPython_of_ne (L0 I g).not_modules];refine aB (wpAny_specialOf (L0 I g) PySem.F.slot_dict_getitem.lookup ?_);have fin:wpAny (model X.prog X.w) X.A (subscripted slice false (.ref a) u) (λr c=>wpAny (model X.prog X.w) X.A (letTemporaryGo value (.ref a) r >>= λ_=>pure r) (EP X b m Q) X.xe c) X.xe s:=by
  rw[f];exact wpAny_operating (Mr j I g k λt n e d=>aB (wpAny_letTemporaryGo (aH ⟨w,H,e,d,q⟩)))
 first
  | exact aH (aB fin)
  | exact aB (aH (aB fin))
  | exact aB fin
def Jw (K:kQ):R2:=λx y H Q=>Qm K x y H Q\/Lp x y H Q
theorem Of (g:X.A.units+1<cLine):tH X (Jw X.K):=EY.or (ED g)
def wT:O2:=λd e b=>match d,e with
 | .l a,.int i=>∃ c,nH a i=some c/\b (.v c)
 | .t a,.int i=>∃ c,nH a i=some c/\b (.v c)
 | .con a,.int i=>∃ c,nH a i=some c/\b (.v c)
 | .c a,.int i=>∃ c,nH a i=some c/\b (.v c)
 | .str z,.int i=>z.length<=100000/\∃ c,nH z.cps.toList i=some c/\b (.v (.str ⟨#[c]⟩))
 | d,e=>∃ c,wY d e=some (some c)/\b (.v c)
theorem Eo (r:Reps K A H g l) (h:nH g i=some c):∃ v,nH l i=some v/\Rep K A H c v:=by
 unfold nH at h |-;rw[<- r.length];cases e:rW g.length i with
 | none=>rw[e] at h;cases h
 | some j =>
  rw[e] at h;obtain⟨v,a,b⟩:=r.get (i:=j) h;exact⟨v,a,b⟩
theorem Ml:nD K (Jw K) wT:=by
 intro B L H d e x y D Q hd t u b k;have f:(∃ c,wY d e=some (some c)/\D (.v c))->Jw K x y H Q:=λz=>by
  obtain⟨c,h,b⟩:=z;obtain⟨a,w,rfl,g,i,_⟩:=Hj h t u;obtain⟨v,rfl,m⟩:=i c rfl;exact .inr ⟨a,v,rfl,g,k _ _ H b (hd.pushF m)⟩
 cases d<;>first | exact f b | skip
 .cases e<;>first | exact f b | skip
  cases u;cases t;obtain⟨A,c,h,b⟩:=b;exact .inl (.inr (.inr ⟨_,_,c,rfl,rfl,wM A,h,k _ _ H b (hd.pushF (.str _))⟩))
 .obtain⟨a,s,rfl,i,q⟩:=t.tup_inv;cases e<;>first | exact f b | skip
  cases u;obtain⟨c,h,b⟩:=b;obtain⟨v,n,m⟩:=Eo q h;exact .inl (.inr (.inl ⟨a,s,_,v,rfl,rfl,lR.of i,n,k _ _ H b (hd.pushF m)⟩))
 .obtain⟨a,s,rfl,i,q⟩:=t.lst_inv;cases e<;>first | exact f b | skip
  cases u;obtain⟨c,h,b⟩:=b;obtain⟨v,n,m⟩:=Eo q h;exact .inl (.inl ⟨a,s,_,v,rfl,rfl,lG.of i,n,k _ _ H b (hd.pushF m)⟩)
 .obtain⟨a,s,rfl,i,q⟩:=t.scr_inv;cases e<;>first | exact f b | skip
  cases u;obtain⟨c,h,b⟩:=b;obtain⟨v,n,m⟩:=Eo q h;exact .inl (.inl ⟨a,s,_,v,rfl,rfl,i.sqL,n,k _ _ H b (hd.pushF m)⟩)
 .obtain⟨a,s,rfl,i,q⟩:=t.con_inv;cases e<;>first | exact f b | skip
  cases u;obtain⟨c,h,b⟩:=b;obtain⟨v,n,m⟩:=Eo q h;exact .inl (.inr (.inl ⟨a,s,_,v,rfl,rfl,i.sqT,n,k _ _ H b (hd.pushF m)⟩))
theorem lV (o:X.A.units+1<cLine) (g:PD X a p) (j:PD X b r) (l:xI b:=by exact λ_ _=>rfl):PD X (.Subscript a b pos) (d2 wT p r) :=
 (Nb (Of o) g j l).mono λ_ _ _ h=>E4 Ml h
def Go (neg:Bool):R2:=λy x H Q=>∃ a o,x = .ref a/\rB H a y o/\Q (.b (nb neg o.isSome)) H
theorem Xa (j:X.A.units+1<cLine):lH X (compareOp .In) (Go false):=by
 intro c s k H x y v u Q I e f h;obtain⟨a,o,rfl,g,q⟩:=h;cases f;exact Vq j I g e λi d=>⟨.b o.isSome,H,d,rfl,q⟩
theorem U4 (j:X.A.units+1<cLine):lH X (compareOp .NotIn) (Go true):=by
 intro c s k H x y v u Q I e f h;obtain⟨a,o,rfl,g,q⟩:=h;cases f;exact No j I g e λi d=>⟨.b (!o.isSome),H,d,rfl,q⟩
def F2 (neg:Bool):R2:=λx y H Q=>∃ i j,x = .str i/\y = .str j/\Q (.b (nb neg (!(Builtin.Str.occurrences j i 0 j.length 1).isEmpty))) H
def B2 (K:kQ) (neg:Bool):R2:=λx y H Q=>Em K neg x y H Q\/F2 neg x y H Q\/Go neg x y H Q
theorem J2 (g:X.A.units+1<cLine):lH X (compareOp .In) (B2 X.K false):=Tn.or ((show lH X (compareOp .In) (F2 false) from Rv).or (Xa g))
theorem rF (g:X.A.units+1<cLine):lH X (compareOp .NotIn) (B2 X.K true):=K5.or ((show lH X (compareOp .NotIn) (F2 true) from IQ).or (U4 g))
noncomputable def uZ:D->Ab V
 | .e=>some .e
 | .b b=>some (.b b)
 | .int i=>some (.int i)
 | .str x=>some (.str x)
 | _=>none
def uB:Aa D->Ab (Aa V)
 | []=>some []
 | d::a=>match uZ d,uB a with
  | some v,some b=>some (v::b)
  | _,_=>none
theorem Fq {l:Type}{f:l->D}{g:l->V}(h:∀ x,uZ (f x)=some (g x)):∀ j:Aa l,uB (j.map f)=some (j.map g)
 | []=>rfl
 | x::j=>by
  show (match uZ (f x),uB (j.map f) with | some v,some a=>some (v::a) | _,_=>none)=_;rw[h x,Fq h j];rfl
theorem Dd (h:uZ d=some u) (r:mE K A H d v):v=u/\pF u=true:=by
 cases d<;>cases h<;>cases r<;>exact⟨rfl,rfl⟩
theorem Oi (h:uB g=some l) (j:Reps K A H g o):o=l/\l.all pF=true:=by
 induction g generalizing l o with
 | nil=>cases j;cases h;exact⟨rfl,rfl⟩
 | cons d g m =>
  cases j with
  | cons r j =>
  have h:=(show (match uZ d,uB g with | some v,some o=>some (v::o) | _,_=>none)=some l from h);cases a:uZ d with
  | none=>rw[a] at h;cases h
  | some k =>
   cases b:uB g with
   | none=>rw[a,b] at h;cases h
   | some n =>
    rw[a,b] at h;cases h;obtain⟨c,e⟩:=Dd a r.peek;obtain⟨f,i⟩:=m b j;exact⟨by rw[c,f],by rw[jL,e,i];rfl⟩
def Fa (neg:Bool) (d:D) (g:Aa D) (j:Sl->Prop):Prop:=∃ v a,uZ d=some v/\uB g=some a/\j (.v (.b (nb neg (zD v a))))
def W0 (neg:Bool):O2:=λd e c=>match e with
 | .l a=>Fa neg d a c
 | .t a=>Fa neg d a c
 | .con a=>Fa neg d a c
 | .str j=>∃ i,d = .str i/\c (.v (.b (nb neg (!(Builtin.Str.occurrences j i 0 j.length 1).isEmpty))))
 | e=>∃ o,wY e d=some o/\c (.v (.b (nb neg o.isSome)))
theorem qQ (neg:Bool):nD K (B2 K neg) (W0 neg):=by
 intro B L H d e x y G Q hd E s h k;have seq:∀ (a:Ad) (F:Aa D) (t:Aa V),Fa neg d F G->y = .ref a->(lG K H a t\/lR K H a t)->Reps K (Al B (hH L)) H F t->B2 K neg x y H Q:=by
  rintro a F t ⟨v,m,f,z,M⟩ rfl O r;obtain⟨P,R⟩:=Dd f E;obtain⟨S,W⟩:=Oi z r;subst P S;exact .inl ⟨a,t,rfl,O,R,W,k _ _ H M (hd.pushF (.b _))⟩
 have u:(∃ o,wY e d=some o/\G (.v (.b (nb neg o.isSome))))->B2 K neg x y H Q:=λA=>by
  obtain⟨o,N,h⟩:=A;obtain⟨a,w,rfl,g,f,z⟩:=Hj N s E;have e:o.isSome=w.isSome:=by
   cases o with
   | none=>rw[z rfl];rfl
   | some c=>obtain⟨v,rfl,_⟩:=f c rfl;rfl
  exact .inr (.inr ⟨a,w,rfl,g,by rw[<- e];exact k _ _ H h (hd.pushF (.b _))⟩)
 cases e<;>first | exact u h | skip
 .obtain⟨i,rfl,h⟩:=h;cases E;cases s;exact .inr (.inl ⟨_,_,rfl,rfl,k _ _ H h (hd.pushF (.b _))⟩)
 .obtain⟨a,m,n,f,q⟩:=s.tup_inv;exact seq a _ m h n (.inr (lR.of f)) q
 .obtain⟨a,m,n,f,q⟩:=s.lst_inv;exact seq a _ m h n (.inl (lG.of f)) q
 .obtain⟨a,m,n,f,q⟩:=s.con_inv;exact seq a _ m h n (.inr f.sqT) q
end
mutual
def py:D->PyData
 | .e=>.none
 | .b b=>.bool b
 | .int i=>.int i
 | .str x=>.str x
 | .t a=>.tuple (uQ a)
 | .l a=>.list (uQ a)
 | .con a=>.tuple (uQ a)
 | .c a=>.list (uQ a)
 | _=>.none
def uQ:Aa D->Aa PyData
 | []=>[]
 | d::a=>py d::uQ a
end
mutual
def nX:D->Bool
 | .e=>true
 | .b _=>true
 | .int _=>true
 | .str x=>PyData.strOk x
 | .t a=>tY a
 | .l a=>tY a
 | .con a=>tY a
 | .c a=>tY a
 | _=>false
def tY:Aa D->Bool
 | []=>true
 | d::a=>nX d&&tY a
end
section
variable {X:Cx}{K:kQ}
mutual
theorem Oc:∀ {d:D}{v:V},Rep K A H d v->nX d=true->DatV K H v (py d)
 | _,_,.e,_=>.e
 | _,_,.b b,_=>.b b
 | _,_,.int i,_=>.int i
 | _,_,.str x,_=>.str x
 | _,_,.r v,e=>by simp[nX] at e
 | _,_,.t h r,e=>.t (lR.of h) (zV r (by simpa [nX] using e))
 | _,_,.con h r,e=>.t h.sqT (zV r (by simpa [nX] using e))
 | _,_,.l _ h r,e=>.l (lG.of h) (zV r (by simpa [nX] using e))
 | _,_,.c h r,e=>.l h.sqL (zV r (by simpa [nX] using e))
 | _,_,.k _ _ _ _,e=>by simp[nX] at e
 | _,_,.T _ _ _ _,e=>by simp[nX] at e
theorem zV:∀ {g:Aa D}{j:Aa V},Reps K A H g j->tY g=true->DatVs K H j (uQ g)
 | _,_,.nil,_=>.nil
 | _,_,.cons h r,e=>by
  rw[tY,cJ] at e;exact .cons (Oc h e.1) (zV r e.2)
end
theorem Ky (h:mE K A H d v) (e:nX d=true):DatV K H v (py d):=by
 cases d with
 | l _=>obtain⟨a,b,rfl,h,r⟩:=h.lst_inv;exact .l (lG.of h) (zV r (by simpa [nX] using e))
 | k _=>simp[nX] at e
 | T _=>simp[nX] at e
 | _=>exact Oc h e
mutual
theorem Dc:∀ {d:D},nX d=true->(py d).canLay0=true
 | .e,_=>rfl
 | .b _,_=>rfl
 | .int _,_=>rfl
 | .str x,e=>by simpa [py,PyData.canLay0,nX] using e
 | .t a,e=>by simp only[py,PyData.canLay0];exact Bg (by simpa [nX] using e)
 | .con a,e=>by simp only[py,PyData.canLay0];exact Bg (by simpa [nX] using e)
 | .l a,e=>by simp only[py,PyData.canLay0];exact Bg (by simpa [nX] using e)
 | .c a,e=>by simp only[py,PyData.canLay0];exact Bg (by simpa [nX] using e)
 | .r _,e=>by simp[nX] at e
 | .k _,e=>by simp[nX] at e
 | .T _,e=>by simp[nX] at e
theorem Bg:∀ {g:Aa D},tY g=true->PyData.canLayAll0 (uQ g)=true
 | [],_=>rfl
 | d::g,e=>by
  rw[tY,cJ] at e;simp only[uQ,PyData.canLayAll0,Dc e.1,Bg e.2,Bool.and_self]
end
def Ho (v:Bool):R2:=λx y H Q=>∃ (a b:Ad) (c d:Aa (fS×V)),x = .ref a/\y = .ref b/\Rd H a (.k c)/\Rd H b (.k d)/\c.length=d.length /\
 (∀ p∈c,∃ w,nV d p.1=some w/\pF p.2=true/\pF w=true/\pH p.2 w=true)/\Q (.b v) H
theorem Qz {A:Around}{s:Ae}{g:Aa (fS×V)}{o:Aa (fS×Ac)}(C:KV g o) (r:Aa (fS×V)) (j:Aa (fS×Ac)) (h:KV r j)
  (l:∀ p∈r,∃ w,nV g p.1=some w/\pF p.2=true/\pF w=true/\pH p.2 w=true):PySem.W.KeqHits A s o j true:=by
 induction h with
 | nil=>exact .nil
 | @cons a b r j m B q =>
  obtain⟨k,v⟩:=a;obtain⟨t,z⟩:=b;obtain⟨e,u⟩:=m;have e:k=t:=e;subst e;obtain⟨w,hw,f1,f2,i⟩:=l (k,v) aT;have d:=C.val k;rw[hw] at d;obtain⟨y,f,x⟩:=d.some_of;have c:SeqAt.EqAt A s z y (pH v w):=Jh u x f1 f2;rw[i] at c;have:=PySem.W.KeqHits.hit f c (q λp n=>l p (bD _ n));rw[Bool.true_and] at this;exact this
theorem DU (g:X.A.units<cLine):lH X (compareOp .Eq) (Ho true):=by
 intro e s L H x y v u Q I D E h;obtain⟨a,b,d,B,rfl,rfl,t,w,c,z,q⟩:=h;cases D;cases E;obtain⟨G,d1,k,f,m⟩:=qJ I.hok t;obtain⟨K,d2,F,i,n⟩:=qJ I.hok w;have c:k.length=F.length:=by rw[<- f.length,<- i.length];exact c
 refine PySem.W.keq_eq d1 d2 m n g (λ_=>Qz i d k f z) ⟨.b _,H,I,rfl,?_⟩;rw[c];simpa using q
theorem CA (g:X.A.units<cLine):lH X (compareOp .NotEq) (Ho false):=by
 intro e s L H x y v u Q I D E h;obtain⟨a,b,d,B,rfl,rfl,t,w,c,z,q⟩:=h;cases D;cases E;obtain⟨G,d1,k,f,m⟩:=qJ I.hok t;obtain⟨K,d2,F,i,n⟩:=qJ I.hok w;have c:k.length=F.length:=by rw[<- f.length,<- i.length];exact c
 refine PySem.W.keq_ne d1 d2 m n g (λ_=>Qz i d k f z) ⟨.b _,H,I,rfl,?_⟩;rw[c];simpa using q
def zI (neg:Bool):R2:=λx y H Q=>Gn x y=true/\Q (.b (nb neg (decide (x=y)))) H
def Gi (K:kQ) (neg:Bool):R2:=λx y H Q=>zI neg x y H Q\/Dm K neg x y H Q\/Ho (!neg) x y H Q\/Hn K neg x y H Q
theorem xK (g:X.A.units+64<cLine):lH X (compareOp .Eq) (Gi X.K false):=(show lH X (compareOp .Eq) (zI false) from K4).or ((M9 g).or ((DU (by omega)).or (EK g)))
theorem IF (g:X.A.units+64<cLine):lH X (compareOp .NotEq) (Gi X.K true):=(show lH X (compareOp .NotEq) (zI true) from Qn).or ((Lg g).or ((CA (by omega)).or (Vs g)))
def M0 (g j:Aa (fS×D)):Prop:=g.length=j.length/\∀ p∈g,∃ e v w,kR j p.1=some e/\uZ p.2=some v/\uZ e=some w/\pH v w=true
def Gg (neg:Bool):O2:=λd e a=>match d,e with
 | .int i,.int j=>a (.v (.b (nb neg (decide (i=j)))))
 | .str i,.str j=>a (.v (.b (nb neg (decide (i=j)))))
 | .b i,.b j=>a (.v (.b (nb neg (decide (i=j)))))
 | .l c,.l []=>a (.v (.b (nb neg c.isEmpty)))
 | .k c,.k f=>M0 c f/\a (.v (.b (!neg)))
 | d,e=>nX d=true/\nX e=true/\min (py d).depth (py e).depth<=60/\a (.v (.b (nb neg (PyData.eqv (py d) (py e)))))
theorem V1 {l C:Aa (fS×D)}{j o:Aa (fS×V)}(h:M0 l C) (I:l.map (·.1)=j.map (·.1)) (T:Reps K A H (l.map (·.2)) (j.map (·.2))) (J:C.map (·.1)=o.map (·.1)) (U:Reps K A H (C.map (·.2)) (o.map (·.2))) :
  j.length=o.length/\∀ p∈j,∃ w,nV o p.1=some w/\pF p.2=true/\pF w=true/\pH p.2 w=true:=by
 refine⟨by have a:=cL List.length I;have b:=cL List.length J;have c:=h.1;simp only[aA] at a b;omega,λp d=>?_⟩;have:∀ (l:Aa (fS×D)) (j:Aa (fS×V)),l.map (·.1)=j.map (·.1)->Reps K A H (l.map (·.2)) (j.map (·.2))->p∈j->∃ q∈l,q.1=p.1/\Rep K A H q.2 p.2:=by
  intro l;induction l with
  | nil=>intro j e _ d;cases j with
   | nil=>cases d
   | cons _ _=>simp at e
  | cons q l x=>intro j e r d;cases j with
   | nil=>cases d
   | cons k j =>
    simp only[bH,eV] at e;cases r with
    | cons g r =>
     rcases aI.mp d with z | z
     .subst z;exact⟨q,aT,e.1,g⟩
     .obtain⟨y,f,m⟩:=x j e.2 r z;exact⟨y,bD _ f,m⟩
 obtain⟨q,u,i,B⟩:=this l j I T d;obtain⟨e,v,w,f,m,s,t⟩:=h.2 q u;rw[i] at f;obtain⟨E,hw,n⟩:=(Bb J U p.1).1 e f;obtain⟨F,G⟩:=Dd m B.peek;obtain⟨L,M⟩:=Dd s n.peek;subst F L;exact⟨E,hw,G,M,t⟩
theorem wG (neg:Bool):nD K (Gi K neg) (Gg neg):=by
 intro B L H d e x y O Q hd h m c k;unfold Gg at c;split at c
 .cases h;cases m
  rename_i i j
  have f:decide (V.int i=V.int j)=decide (i=j):=by simp
  exact .inl ⟨rfl,by rw[f];exact k _ _ H c (hd.pushF (.b _))⟩
 .cases h;cases m
  rename_i i j
  have f:decide (V.str i=V.str j)=decide (i=j):=by simp
  exact .inl ⟨rfl,by rw[f];exact k _ _ H c (hd.pushF (.b _))⟩
 .cases h;cases m
  rename_i i j
  have f:decide (V.b i=V.b j)=decide (i=j):=by simp
  exact .inl ⟨rfl,by rw[f];exact k _ _ H c (hd.pushF (.b _))⟩
 .rename_i M
  obtain⟨a,A,rfl,n,u⟩:=h.lst_inv;obtain⟨b,N,rfl,q,v⟩:=m.lst_inv;cases v;have f:M.isEmpty=A.isEmpty:=by cases u<;>rfl
  refine .inr (.inl ⟨a,b,A,rfl,rfl,lG.of n,lG.of q,?_⟩);rw[<- f];exact k _ _ H c (hd.pushF (.b _))
 .obtain⟨a,s,rfl,n,f,u⟩:=h.dK_inv;obtain⟨b,t,rfl,q,E,v⟩:=m.dK_inv;obtain⟨F,G⟩:=V1 c.1 f u E v;exact .inr (.inr (.inl ⟨a,b,s,t,rfl,rfl,n,q,F,G,k _ _ H c.2 (hd.pushF (.b _))⟩))
 .obtain⟨w,z,D,c⟩:=c;exact .inr (.inr (.inr ⟨_,_,Ky h w,Ky m z,Dc w,Dc z,D,k _ _ H c (hd.pushF (.b _))⟩))
end
end L2
namespace L2
open PySem PySem.Spec PyProof.Rows Lw
def xQ (g:Aa D) (lo j:Ab Int):Aa D:=(g.drop (HT.sIx g.length 0 lo)).take (HT.sIx g.length g.length j-HT.sIx g.length 0 lo)
def pt (o:Ab lP):Aa Ad->Aa Sl->(Ab Int->Aa Sl->Prop)->Prop:=λc b k=>match o with
 | none=>k none b
 | some t=>t c b λr a=>match r with
  | .v (.int i)=>k (some i) a
  | _=>False
def Ba (K:kQ):Ab lP->TO
 | none=>Q9
 | some t=>K0 (dE K t)
abbrev O3:=D->Ab Int->Ab Int->(Sl->Prop)->Prop
def So (f:O3) (i:Nat) (lo g:Ab lP):lP:=λc e h=>(at? e i).isSome=true/\pt lo c e λl b=>pt g c b λu a=>match at? a i with
 | some d=>f d l u λr=>h r a
 | none=>False
abbrev R3:=V->Ab Int->Ab Int->Hp->VK->Prop
def Lf (K:kQ) (r:R3) (f:O3):Prop:=∀ (B:Bs) (L:mU) (H:Hp) (d:D) (lo b:Ab Int) (x:V) (c:Sl->Prop) (Q:VK),DS K B L H->mE K (Al B (hH L)) H d x->f d lo b c ->
 (∀ s v a,c s->DS K B ((s,some v)::L) a->Q v a)->r x lo b H Q
section
variable {X:Cx}{K:kQ}{lo:Ab Expr}
theorem Px (I:l.length=p.length) (hd:DS K B (l.zip p++T) H) (h:pt o B.dk l k)
  (C:∀ i g j,g.length=p.length->DS K B (g.zip p++T) j->k i g->Q i j):Ba K o p H Q:=by
 cases o with
 | none=>exact C none l H I hd h
 | some t =>
  refine⟨B,l,T,_,I,hd,h,λr g v j b d1 a=>?_⟩;cases r with
  | n=>exact a.elim
  | o d=>exact a.elim
  | v d =>
   cases d with
   | int i=>exact⟨i,d1.valAt.int_inv,C (some i) g j b d1.drop a⟩
   | _=>exact a.elim
theorem Zy:PO X none (Ba X.K none):=Zq
theorem HV (h:PD X e t):PO X (some e) (Ba X.K (some t)):=V6 h
theorem Vy (I:uC X r) (p:Lf X.K r f) (o:PE X a (pA i)) (g:PO X lo (Ba X.K ol)) (j:PO X C (Ba X.K J)):PD X (.Subscript a (.Slice lo C none U) pos) (So f i ol J) :=
 (BN I o g j).mono λY H Q q=>q.elim λB W T V w hd ⟨n,G⟩ k=>by
  obtain⟨R,E⟩:=cP.mp n;obtain⟨x,y,_⟩:=hd.peek w E;refine⟨x,y,Px w hd G λl O P L d2 N=>Px L d2 N λu c D z t e=>?_⟩;cases h:at? c i with
  | none=>rw[h] at e;exact e.elim
  | some d =>
   rw[h] at e;obtain⟨S,b,M⟩:=t.peek z h;rw[y] at b;cases b;exact p B _ D d l u x _ Q t M e λs v A F m=>k s c v A z m.mid F
def Nv (K:kQ):R3:=λx lo a H Q=>J8 K x lo a H Q\/Rw K x lo a H Q\/Pp x lo a H Q
theorem Sd:uC X (Nv X.K):=BS.or (EZ.or Ti)
def Tu:O3
 | .l a,lo,b,d=>d (.o (.l (xQ a lo b)))
 | .c a,lo,b,d=>d (.o (.l (xQ a lo b)))
 | .t a,lo,b,d=>¬ (HT.sIx a.length 0 lo=0/\HT.sIx a.length a.length b=a.length)/\d (.v (.t (xQ a lo b)))
 | .str z,lo,b,d=>z.length<=100000/\d (.v (.str (Cc z lo b)))
 | _,_,_,_=>False
theorem Fz (r:Reps K A H j l) (lo g:Ab Int):Reps K A H (xQ j lo g) (wC l lo g):=by
 unfold xQ wC;rw[r.length];exact (r.drop _).take _
theorem U7:Lf K (Nv K) Tu:=by
 intro B L H d lo m x n Q hd i b k;cases d<;>first | exact False.elim b | skip
 .cases i;exact .inr (.inr ⟨_,rfl,wM b.1,k _ _ _ b.2 (hd.pushF (.str _))⟩)
 .obtain⟨a,h,rfl,e,c⟩:=i.tup_inv;exact .inr (.inl ⟨a,h,rfl,lR.of e,by rw[<- c.length];exact b.1,λp f=>k _ _ _ b.2 (hd.tupF f (Fz c lo m))⟩)
 .obtain⟨a,h,rfl,e,c⟩:=i.lst_inv;exact .inl ⟨a,h,rfl,lG.of e,λp f=>k _ _ _ b (hd.lstF f (Fz c lo m))⟩
 .obtain⟨a,h,rfl,e,c⟩:=i.scr_inv;exact .inl ⟨a,h,rfl,e.sqL,λp f=>k _ _ _ b (hd.lstF f (Fz c lo m))⟩
abbrev O1:=D->(Sl->Prop)->Prop
abbrev R1:=V->Hp->VK->Prop
def Yi (K:kQ) (r:R1) (f:O1):Prop:=∀ (B:Bs) (L:mU) (H:Hp) (d:D) (x:V) (b:Sl->Prop) (Q:VK),DS K B L H->mE K (Al B (hH L)) H d x->f d b->(∀ s v a,b s->DS K B ((s,some v)::L) a->Q v a)->r x H Q
def d1 (f:O1) (g:lP):lP:=λb h e=>g b h λc a=>match sd c with
 | some d=>f d λr=>e r a
 | none=>False
theorem ER (j:Yi X.K r f) (h:dE X.K (d1 f l) o H Q):dE X.K l o H λx g=>r x g Q:=by
 obtain⟨B,z,T,A,m,hd,q,k⟩:=h;refine⟨B,z,T,_,m,hd,q,λy e x g t d1 a=>?_⟩;cases b:sd y with
 | none=>rw[b] at a;exact a.elim
 | some d =>
  rw[b] at a;obtain⟨u,w⟩:=d1.one b;exact j B _ g d x _ Q u w.peek a λs v i n c=>k s e v i t c.mid n
def K3:O1
 | .int i,a=>a (.v (.int (-i)))
 | _,_=>False
theorem Ie (g:PD X a j):PD X (.UnaryOp .USub a pos) (d1 K3 j):=(EH GQ g).mono λ_ _ _ h=>ER (f:=K3) (λB L H d x e Q hd c b k=>by
 cases d<;>first | exact False.elim b | skip
 cases c;exact⟨_,rfl,k _ _ H b (hd.pushF (.int _))⟩) h
noncomputable def Iq:D->Ab Bool
 | .e=>some false
 | .b b=>some b
 | .int i=>some (i != 0)
 | .str x=>some ((x.length:Int) != 0)
 | .l a=>some (!a.isEmpty)
 | .t a=>some (!a.isEmpty)
 | .k a=>some (!a.isEmpty)
 | _=>none
noncomputable def Hh:D->Bool
 | .str x=>decide (x.length<=100000)
 | _=>true
theorem Zp (h:mE K A H d x) (e:Iq d=some k) (g:Hh d=true):I0 K x H k:=by
 cases d<;>simp only[Iq,reduceCtorEq,kG] at e<;>subst e
 .have:=h.non_inv;subst this;rfl
 .have:=h.bl_inv;subst this;rfl
 .have:=h.int_inv;subst this;rfl
 .have:=h.str_inv;subst this;exact⟨wM (cR g),rfl⟩
 .obtain⟨a,b,rfl,h,r⟩:=h.tup_inv;exact .inr (.inl ⟨b,lR.of h,by cases r<;>rfl⟩)
 .obtain⟨a,b,rfl,h,r⟩:=h.lst_inv;exact .inl ⟨b,lG.of h,by cases r<;>rfl⟩
 .rename_i c
  obtain⟨a,b,rfl,h,e,r⟩:=h.dK_inv;refine .inr (.inr ⟨b,h,?_⟩);cases c<;>cases b<;>simp at e |-
def P6 (t:lP):pE:=λc f e=>t c f λr a=>match sd r with
 | some d=>Hh d=true/\∃ b,Iq d=some b/\e b a
 | none=>False
theorem Bk (g:PD X a l) (j:∀ whole,isTrue a X.env whole=(do let v <- whole;standAt a.pos;holding [v] (truthy v)):=by intro _;rfl):qN X a (P6 l) :=
 (II g j).mono λz H Q f=>f.elim λB x T y n hd s k=>⟨B,x,T,_,n,hd,s,λr h v i t d1 c=>by
  cases e:sd r with
  | none=>rw[e] at c;exact c.elim
  | some d =>
   rw[e] at c;obtain⟨q,b,m,c⟩:=c;obtain⟨u,w⟩:=d1.one e;exact⟨b,Zp w.peek m q,k b h i t u c⟩⟩
def F9 (t u:pE):pE:=λb e d=>t b e λc a=>if c=true then u b a d else d false a
def Bx (t u:pE):pE:=λb e d=>t b e λc a=>if c=true then d true a else u b a d
def Nd (t:pE):pE:=λb e d=>t b e λc a=>d (!c) a
variable {rest:Aa Expr}
theorem Hz (h:qN X a g):xV X (.BoolOp .And [a] pos) g:=Vo h
theorem B4 (h:qN X a g):xV X (.BoolOp .Or [a] pos) g:=Vr h
theorem G8 (j:qN X a o) (l:xV X (.BoolOp .And (b::rest) pos) g):xV X (.BoolOp .And (a::b::rest) pos) (F9 o g) :=
 (Ye j l).mono λt H Q e=>e.elim λB s T q m hd n k=>⟨B,s,T,_,m,hd,n,λc d i h d1 f=>by
  cases c with
  | true=>exact (aZ rfl).mpr ⟨B,d,T,q,h,d1,(aZ rfl).mp f,k⟩
  | false=>exact wH (k false d i h d1 ((aK (by decide)).mp f))⟩
theorem yK (j:qN X a o) (l:xV X (.BoolOp .Or (b::rest) pos) g):xV X (.BoolOp .Or (a::b::rest) pos) (Bx o g) :=
 (Ze j l).mono λt H Q e=>e.elim λB s T q m hd n k=>⟨B,s,T,_,m,hd,n,λc d i h d1 f=>by
  cases c with
  | true=>exact (aZ rfl).mpr (k true d i h d1 ((aZ rfl).mp f))
  | false=>exact wH ⟨B,d,T,q,h,d1,(aK (by decide)).mp f,k⟩⟩
theorem vO (h:xV X a g):qN X a g:=PW.pt h
theorem Gq (h:qN X a g):qN X (.UnaryOp .Not a pos) (Nd g):=(Ll h).mono λt H Q b=>b.elim λB q T s i hd m k=>⟨B,q,T,_,i,hd,m,λc d e n d1 f=>k _ d e n d1 f⟩
def JK (t u:lP):lP:=λc e d=>t c e λr a=>match r with
 | .v (.b true)=>u c a d
 | .v (.b false)=>d (.v (.b false)) a
 | _=>False
def G3 (t u:lP):lP:=λc e d=>t c e λr a=>match r with
 | .v (.b true)=>d (.v (.b true)) a
 | .v (.b false)=>u c a d
 | _=>False
theorem W9 (h:PD X a g):PD X (.BoolOp op [a] pos) g:=Rm h
theorem F0 (g:PD X a l) (j:PD X (.BoolOp .Or (b::rest) pos) p):PD X (.BoolOp .Or (a::b::rest) pos) (G3 l p) :=
 (W2 g j).mono λw H Q h=>h.elim λB u T t q hd s k=>⟨B,u,T,_,q,hd,s,λr f v m i d1 e=>by
  cases r with
  | n=>exact e.elim
  | o d=>exact e.elim
  | v d =>
   cases d with
   | b c =>
    have:=d1.valAt.bl_inv;subst this;refine⟨c,rfl,?_⟩;cases c with
    | true=>exact (aZ rfl).mpr (k _ f _ m i (d1.drop.push (.b _)) e)
    | false=>exact wH ⟨B,f,T,t,i,d1.drop,e,k⟩
   | _=>exact e.elim⟩
def Op (t:pE) (u w:lP):lP:=λb e d=>t b e λc a=>if c=true then u b a d else w b a d
theorem Hm (l:qN X c o) (g:PD X a p) (j:PD X b r):PD X (.IfExp c a b pos) (Op o p r) :=
 (V2 l g j).mono λt H Q e=>e.elim λB q T i m hd n k=>⟨B,q,T,_,m,hd,n,λc d s h d1 f=>by
  cases c with
  | true=>exact (aZ rfl).mpr ⟨B,d,T,i,h,d1,(aZ rfl).mp f,k⟩
  | false=>exact wH ⟨B,d,T,i,h,d1,(aK (by decide)).mp f,k⟩⟩
end
inductive Ar where
 | t (d:D) | al (i:Nat)
abbrev rT:=Aa Ad->Aa Sl->(Aa Ar->Aa Sl->Prop)->Prop
def sD:Aa Ar->Aa V->mU
 | .t d::as,v::a=>(.v d,some v)::sD as a
 | .al _::as,_::a=>sD as a
 | _,_=>[]
inductive ArOk (σ:St):List Ar->List V->Prop where
 | nil:ArOk σ [] []
 | t {d:D} {v:V} {as:List Ar} {vs:List V}:ArOk σ as vs->ArOk σ (.t d::as) (v::vs)
 | al {i:Nat} {v:V} {as:List Ar} {vs:List V}:σ[i]?=some (some v)->ArOk σ as vs->ArOk σ (.al i::as) (v::vs)
noncomputable def uM (g:Aa Sl):Aa Ar->Ab (Aa D)
 | []=>some []
 | .t d::as=>(uM g as).map (d::·)
 | .al i::as=>match at? g i,uM g as with
  | some d,some a=>some (d::a)
  | _,_=>none
noncomputable def vY:Aa Ar->Ab (Aa D)
 | []=>some []
 | .t d::as=>(vY as).map (d::·)
 | .al _::_=>none
def Av:Aa Ar->Bool
 | []=>true
 | .t _::as=>Av as
 | .al _::_=>false
def dA (K:kQ) (g:rT):TA:=λb H Q=>∃ (B:Bs) (d:Aa Sl) (T:mU) (f:Aa Ar->Aa Sl->Prop),d.length=b.length/\DS K B (d.zip b++T) H/\g B.dk d f /\
 ∀ as a c e,a.length=b.length->ArOk b as c->DS K B (a.zip b++(sD as c++T)) e->f as a->Q c e
theorem dA.elim {K:kQ}{P:Prop}(h:dA K C l H Q) (f:∀ (B:Bs) (j:Aa Sl) (T:mU) (o:Aa Ar->Aa Sl->Prop),j.length=l.length->DS K B (j.zip l++T) H->C B.dk j o ->(∀ as g p r,g.length=l.length->ArOk l as p->DS K B (g.zip l++(sD as p++T)) r->o as g->Q p r)->P):P:=by
 obtain⟨B,j,T,o,a,hd,b,k⟩:=h;exact f B j T o a hd b k
abbrev rQ (X:Cx) (g:Aa Expr) (j:rT):Prop:=PA X g (dA X.K j)
def mH:rT:=λ_ b a=>a [] b
def aC (g:lP) (j:rT):rT:=λc f e=>g c f λr a=>j c a λas b=>match sd r with
 | some d=>e (.t d::as) b
 | none=>False
def aS (i:Nat) (g:rT):rT:=λc b d=>(at? b i).isSome=true/\g c b λas a=>d (.al i::as) a
theorem PA.mono {X:Cx}(h:PA X j t) (k:∀ g H Q,l g H Q->t g H Q):PA X j l:=λp a s g H Q I q=>h p a s g H Q I (k g H Q q)
def Am (B:Bs) (a:Ad):Prop:=a∉B.dk/\(B.A0 a\/B.H0 a=none)
inductive Peeks (K:kQ) (A:Addr->Prop) (H:Hp):List D->List V->Prop where
 | nil:Peeks K A H [] []
 | cons {d:D} {v:V} {ds:List D} {vs:List V}:mE K A H d v->Peeks K A H ds vs->Peeks K A H (d::ds) (v::vs)
section
variable {X:Cx}{K:kQ}
theorem eJ:rQ X [] mH:=xE.mono λf H Q a=>a.elim λB d T e b hd c k=>k [] d [] H b .nil hd c
theorem dK (j:PD X e p) (l:rQ X g o) (h:wF e=true:=by rfl):rQ X (e::g) (aC p o):=(vU j l h).mono λD H Q f=>f.elim λB A T F v hd w k =>
 ⟨B,A,T,_,v,hd,w,λr i x E y d1 u=>⟨B,i,(r,some x)::T,_,y,d1,u,λas a n m z ok d2 b=>by
  cases c:sd r with
  | none=>rw[c] at b;exact b.elim
  | some d =>
   rw[c] at b;refine k (.t d::as) a (x::n) m z (.t ok) ?_ b;have q:DS X.K B ((a.zip D++sD as n)++(r,some x)::T) m:=by simpa using d2
   have s:=(q.thaw c).front;exact DS.mid (by simpa using s)⟩⟩
theorem rA (j:PE X e (pA i)) (l:rQ X g o) (h:wF e=true:=by rfl):rQ X (e::g) (aS i o):=(vU j l h).mono λz H Q a=>a.elim λB v T y c hd ⟨q,s⟩ k=>by
 obtain⟨w,m⟩:=cP.mp q;obtain⟨x,d,_⟩:=hd.peek c m;exact⟨x,d,B,v,T,_,c,hd,s,λas b u f t ok d2 n=>k (.al i::as) b (x::u) f t (.al d ok) d2 n⟩
theorem DS.rmArgs:∀ {as:Aa Ar}{vs:Aa V},DS K B (L++(sD as vs++T)) H->DS K B (L++T) H
 | [],_,h=>h
 | .t d::as,[],h=>h
 | .al _::as,[],h=>h
 | .t d::as,v::vs,h=>DS.rmArgs (as:=as) (vs:=vs) (DS.drop (L1:=L) (L2:=sD as vs++T) h)
 | .al _::as,v::vs,h=>DS.rmArgs (as:=as) (vs:=vs) h
theorem Do:∀ {as:Aa Ar}{vs:Aa V},hH (L++(sD as vs++T))=hH (L++T)
 | [],_=>rfl
 | .t d::as,[]=>rfl
 | .al _::as,[]=>rfl
 | .t d::as,v::vs=>(show hH (L++(Sl.v d,some v)::(sD as vs++T))=_ from Fy).trans (Do (as:=as) (vs:=vs))
 | .al _::as,v::vs=>Do (as:=as) (vs:=vs)
theorem DS.temps (h:DS K B (L++(sD as j++T)) H) (ok:ArOk l as j):∀ g,vY as=some g->Reps K (Al B (hH (L++T))) H g j:=by
 have key:∀ p∈sD as j,qV K (Al B (hH (L++T))) H p.1 p.2:=λp b=>by
  have:=h.ok p (by simp[b]);rw[Do] at this;exact this
 clear h;induction ok with
 | nil=>intro g e;cases e;exact .nil
 | @t d v as j ok i =>
  intro g e;obtain⟨a,c,rfl⟩:=cK.mp e;obtain⟨u,f,r⟩:=key (.v d,some v) aT;cases f;exact .cons r (i (λp b=>key p (bD _ b)) a c)
 | al _ _ _=>intro g e;cases e
theorem DS.argsP (I:g.length=C.length) (h:DS K B (g.zip C++(sD as l++T)) H) (ok:ArOk C as l):∀ j,uM g as=some j ->
  Peeks K (Al B (hH (g.zip C++T))) H j l/\Reps K (Am B) H j l/\(Av as=true->Reps K (Al B (hH (g.zip C++T))) H j l):=by
 have key:∀ p∈sD as l,qV K (Al B (hH (g.zip C++T))) H p.1 p.2:=λp m=>by
  have:=h.ok p (by simp[m]);rw[Do] at this;exact this
 have A:=h.rmArgs;have am:∀ a,Al B (hH (g.zip C++T)) a->Am B a:=λa z=>⟨z.1,z.2.2⟩
 clear h;induction ok with
 | nil=>intro j e;cases e;exact⟨.nil,.nil,λ_=>.nil⟩
 | @t d v as l ok D =>
  intro j e;obtain⟨f,b,rfl⟩:=cK.mp e;obtain⟨u,k,r⟩:=key (.v d,some v) aT;cases k;obtain⟨E,F,O⟩:=D (λp m=>key p (bD _ m)) f b;exact⟨.cons r.peek E,.cons (r.mono (.all am)) F,λn=>.cons r (O n)⟩
 | @al i v as l G ok D =>
  intro j e;have e:=(show (match at? g i,uM g as with | some d,some j=>some (d::j) | _,_=>none)=some j from e);cases b:at? g i with
  | none=>rw[b] at e;cases e
  | some d =>
   cases k:uM g as with
   | none=>rw[b,k] at e;cases e
   | some f =>
    rw[b,k] at e;cases e;obtain⟨E,F,O⟩:=D (λp m=>key p m) f k;obtain⟨V,q,pv⟩:=A.peek I b;rw[G] at q;cases q;have Q:Rep K (Am B) H d v:=by
     unfold at? at b;cases w:g[i]? with
     | none=>rw[w] at b;cases b
     | some s =>
      rw[w] at b;obtain⟨R,y,S,M,_,P,_⟩:=uA I w;rw[G] at M;cases M;have L:(s,some v)∈g.zip C++T:=by rw[P];simp
      have:=A.ok _ L;cases s with
      | n=>cases b
      | v c=>cases b;obtain⟨u,x,r⟩:=this;cases x;exact r.mono (.all am)
      | o c =>
       cases b;obtain⟨a,x,r⟩:=this;cases x;have N:=A.new a (sP.mpr ⟨_,L,rfl⟩);exact r.rep am ⟨N.2,.inr N.1⟩
    exact⟨.cons pv E,.cons Q F,λn=>by simp[Av] at n⟩
def mG (g:rT):lP:=λc e d=>g c e λas a=>match vY as with
 | some b=>b.length<=1000/\d (.v (.t b)) a
 | none=>False
def N1 (g:rT):lP:=λc e d=>g c e λas a=>match vY as with
 | some b=>b.length<=1000/\d (.o (.l b)) a
 | none=>False
theorem Ls (h:n<=1000):n<=sizeLine:=bS h (by decide)
theorem lI {l:Nat}(h:rQ X g j):PD X (.Tuple g l pos) (mG j):=(Hr h).mono λv H Q c=>c.elim λB q T u f hd m k=>⟨B,q,T,_,f,hd,m,λas d t s n ok d1 a=>by
 cases b:vY as with
 | none=>rw[b] at a;exact a.elim
 | some e =>
  rw[b] at a;have r:=d1.temps ok e b;exact⟨Ls (by rw[<- r.length];exact a.1),λp i=>k _ d _ _ n (d1.rmArgs.tup i r) a.2⟩⟩
theorem qR (h:rQ X g j):PD X (.List g pos) (N1 j):=(Sa h).mono λv H Q c=>c.elim λB q T u f hd m k=>⟨B,q,T,_,f,hd,m,λas d t s n ok d1 a=>by
 cases b:vY as with
 | none=>rw[b] at a;exact a.elim
 | some e =>
  rw[b] at a;have r:=d1.temps ok e b;exact⟨Ls (by rw[<- r.length];exact a.1),λp i=>k _ d _ _ n (d1.rmArgs.lstF i r).mid a.2⟩⟩
def W7:lP:=λ_ b a=>a (.o (.k [])) b
theorem yG:PD X (.Dict [] [] pos) W7:=Ua.mono λh H Q a=>a.elim λB e T f b hd d k p c=>k _ e _ _ b (hd.dKF (ds:=[]) (kvs:=[]) c rfl .nil).mid d
abbrev OC:=Aa D->(Sl->Prop)->Prop
def qD (K:kQ) (r:Aa V->Hp->VK->Prop) (f:OC):Prop:=∀ (B:Bs) (L:mU) (H:Hp) (b:Aa D) (c:Aa V) (d:Sl->Prop) (Q:VK),DS K B L H->Peeks K (Al B (hH L)) H b c->f b d ->
 (∀ s v a,d s->DS K B ((s,some v)::L) a->Q v a)->r c H Q
def dC (f:OC) (g:rT):lP:=λb e d=>g b e λas a=>match uM a as with
 | some c=>f c λr=>d r a
 | none=>False
theorem Hq (l:qD X.K r f) (h:dE X.K (dC f o) p H Q):dA X.K o p H λj g=>r j g Q:=by
 obtain⟨B,u,T,w,n,hd,t,k⟩:=h;refine⟨B,u,T,_,n,hd,t,λas a j g i ok d1 b=>?_⟩;cases c:uM a as with
 | none=>rw[c] at b;exact b.elim
 | some e =>
  rw[c] at b;exact l B _ g e j _ Q d1.rmArgs (d1.argsP i ok e c).1 b λs v m q d=>k s a v m i d.mid q
variable {id:String}
theorem nF (C:mZ X (.builtin id) r) (I:qD X.K r f) (T:X.mg x=none) (hv:bootBuiltins x=some (.builtin id)) (o:rQ X (e::l) ta) (J:Gl X x:=by rfl) (U:x ≠ "__name__" := by decide) (g:(x == ("__debug__" : Af))=false:=by decide)
  (j:StB X e l pos:=by exact {}):PD X (.Call (.Name x p) (e::l) [] pos) (dC f ta) :=
 (G6 C J T hv o U g j).mono λ_ _ _ h=>Hq I h
theorem lZ (C:mZ X (.type id) r) (I:qD X.K r f) (T:X.mg x=none) (hv:bootBuiltins x=some (.type id)) (o:rQ X (e::l) ta) (J:Gl X x:=by rfl) (U:x ≠ "__name__" := by decide) (g:(x == ("__debug__" : Af))=false:=by decide)
  (j:StB X e l pos:=by exact {}):PD X (.Call (.Name x p) (e::l) [] pos) (dC f ta) :=
 (Xc C J T hv o U g j).mono λ_ _ _ h=>Hq I h
end
def Bf:Sl->Bool
 | .v d=>imm d
 | .o (.l b)=>sB b
 | .o (.k a)=>sB (a.map (·.2))
 | .o (.T a)=>sB (a.map (·.2))
 | _=>false
def RV (K:kQ) (g:Aa Ad) (A:Ad->Prop) (H:Hp) (s:Sl) (v:V) (j:Hp):Prop:=match s with
 | .n=>True
 | .v d=>Rep K (λa=>a∉g/\(A a\/H a=none)) j d v
 | .o d=>∃ a,v = .ref a/\H a=none/\a∉g/\nU K (λb=>b∉g/\b≠a/\(A b\/H b=none)) j a d
def Bq (j:Aa Ad) (H g:Hp):Prop:=∀ b o,H b=some o->b∉j->g b=some o
abbrev RD:=Aa Ad->Aa D->(Sl->Prop)->Prop
def wN (K:kQ) (R:RD):Sp:=λf H Q _=>∃ (b:Aa Ad) (A:Ad->Prop) (d:Aa D) (e:Sl->Prop),Dk b H/\(∀ a,A a->a∉b)/\Reps K A H d f/\R b d e /\
 ∀ s v c,e s->Bq b H c->Dk b c->RV K b A H s v c->Q v c
section
variable {K:kQ}
theorem nU.immR (h:nU K A H a d) (e:Bf (.o d)=true):nU K g H a d:=by
 cases d with
 | l _=>obtain⟨b,h,r⟩:=h;exact⟨b,h,r.imm e⟩
 | k _=>obtain⟨b,h,k,r⟩:=h;exact⟨b,h,k,r.imm e⟩
 | T _=>obtain⟨b,h,k,r⟩:=h;exact⟨b,h,k,r.imm e⟩
 | _=>exact False.elim h
theorem Kp.frm (f:Bq g H l) (p:Dk g H) (h:∀ a,A a->a∉g/\j a):Kp A j H l:=by
 refine⟨λa o b e=>⟨(h a b).2,f a o e (h a b).1⟩,λa o t e=>f a o e λz=>?_⟩;obtain⟨c,q⟩:=p.some z;rw[e] at q;cases q;cases t
theorem DS.call (h:DS K B L H) (f:Bq B.dk H g) (j:Dk B.dk g):DS K B L g :=
 ⟨λb o e n=>f b o (h.fr b o e n) n,j,h.nd,h.new,λp c=>(h.ok p c).mono (.frm f h.dk λa z=>⟨z.1,z⟩) λb d o q=>f b o q (h.new b (sP.mpr ⟨p,c,d⟩)).2⟩
theorem DS.adopt (h:DS K B L H) (f:Bq B.dk H g) (l:Dk B.dk g) (j:H a=none) (r:nU K (Al B (a::hH L)) g a d):DS K B ((.o d,some (.ref a))::L) g:=by
 obtain⟨f1,f2,k⟩:=h.free j;have s:Kp (Al B (hH L)) (Al B (a::hH L)) H g:=by
  refine⟨λb o c e=>⟨⟨c.1,λz=>?_,c.2.2⟩,f b o e c.1⟩,λb o t e=>f b o e λz=>?_⟩
  .rcases aI.mp z with q | q
   .subst q;rw[j] at e;cases e
   .exact c.2.1 q
  .obtain⟨u,q⟩:=h.dk.some z;rw[e] at q;cases q;cases t
 have i:hH ((Sl.o d,some (V.ref a))::L)=a::hH L:=rfl;refine⟨λb o e n=>f b o (h.fr b o e n) n,l,by rw[i];exact bX.mpr ⟨k,h.nd⟩,λb c=>?_,λp m=>?_⟩
 .rw[i] at c;rcases aI.mp c with q | q
  .subst q;exact⟨f1,f2⟩
  .exact h.new b q
 .rw[i];rcases aI.mp m with q | q
  .subst q;exact⟨a,rfl,r⟩
  .exact (h.ok p q).mono s λb c o w=>f b o w (h.new b (sP.mpr ⟨p,q,c⟩)).2
theorem DS.result (h:DS K B L H) (f:Bq B.dk H j) (l:Dk B.dk j) (r:RV K B.dk p H s v j) (g:(∀ a,p a->Al B (hH L) a)\/Bf s=true):DS K B ((s,some v)::L) j:=by
 have fresh:∀ b,b∉B.dk->H b=none->Al B (hH L) b:=λb n e=>⟨n,(h.free e).2.2,.inr (h.free e).1⟩
 cases s with
 | n=>exact (h.call f l).pushN (L1:=[]) _
 | v d =>
  refine (h.call f l).pushF ?_;rcases g with g | g
  .exact (show Rep K _ j d v from r).mono (.all λb z=>z.2.elim (g b) (fresh b z.1))
  .exact (show Rep K _ j d v from r).imm g
 | o d =>
  obtain⟨a,rfl,c,hd,r⟩:=r;refine h.adopt f l c ?_;rcases g with g | g
  .refine r.mono (.all λb z=>?_) λ_ q=>q
   have:=z.2.2.elim (g b) (fresh b z.1);exact⟨this.1,λq=>(aI.mp q).elim z.2.1 this.2.1,this.2.2⟩
  .exact r.immR g
end
def Be (R:RD) (g:rT):lP:=λb e d=>g b e λas a=>match uM a as with
 | some c=>R b c λs=>(Av as=true\/Bf s=true)/\d s a
 | none=>False
section
variable {X:Cx}{R:RD}
theorem EM (h:dE X.K (Be R l) o H Q):dA X.K l o H λj g=>wN X.K R (j++[]) g Q E0:=by
 obtain⟨B,A,T,D,u,hd,w,k⟩:=h;refine⟨B,A,T,_,u,hd,w,λas b j g q ok d1 c=>?_⟩;cases m:uM b as with
 | none=>rw[m] at c;exact c.elim
 | some i =>
  rw[m] at c;obtain⟨_,x,y⟩:=d1.argsP q ok i m;have d2:=d1.rmArgs;rw[cD];by_cases t:Av as=true
  .exact⟨B.dk,_,i,_,d2.dk,λa z=>z.1,y t,c,λs v e d f n r=>k s b v e q (d2.result f n r (.inl λa z=>z)).mid d.2⟩
  .exact⟨B.dk,_,i,_,d2.dk,λa z=>z.1,x,c,λs v e d f n r=>k s b v e q (d2.result f n r (.inr (d.1.resolve_left t))).mid d.2⟩
theorem AC (F:FnOk X.prog X.w X.K X.mg X.base rN k f fd U (wN X.K R)) (T:Room k X.A) (C:Gl X x) (J:X.mg x=some (.ref f)) (I:PySem.W.keepIn X.K (.ref f)=true) (r:wR X.K fd U [])
  (o:rQ X (e::l) ta) (g:(x == ("__debug__" : Af))=false:=by decide) (j:StB X e l pos:=by exact {}) :
  PD X (.Call (.Name x p) (e::l) [] pos) (Be R ta):=(BE F T C J I r .nil Wz o g j).mono λ_ _ _ h=>EM h
end
structure DEnds where
 nx:List Sl->Prop
 rt:Sl->Prop
 bk:List Sl->Prop:=λ_=>False
 ct:List Sl->Prop:=λ_=>False
abbrev oB:=Aa Ad->DEnds->Aa Sl->Prop
def Cj (K:kQ) (B:Bs) (T:mU) (n:Nat) (g:DEnds) (j:Ends):Prop :=
 (∀ b a c,b.length=a.length->a.length=n->DS K B (b.zip a++T) c->(g.nx b->j.nx a c)/\(g.bk b->j.bk a c)/\(g.ct b->j.ct a c)) /\
 ∀ (r:Sl) (v:V) (b:Aa Sl) (a:St) (c:Hp),b.length=a.length->DS K B (b.zip a++(r,some v)::T) c->g.rt r->j.rt v c
def dS (K:kQ) (g:oB):TS:=λd b H=>∃ (B:Bs) (a:Aa Sl) (T:mU) (c:DEnds),a.length=b.length/\DS K B (a.zip b++T) H/\g B.dk c a/\Cj K B T b.length c d
theorem dS.elim {K:kQ}{P:Prop}(h:dS K p o j H) (f:∀ (B:Bs) (g:Aa Sl) (T:mU) (l:DEnds),g.length=j.length->DS K B (g.zip j++T) H->p B.dk l g->Cj K B T j.length l o->P):P:=by
 obtain⟨B,g,T,c,a,hd,b,k⟩:=h;exact f B g T c a hd b k
abbrev rE (X:Cx) (st:Stmt) (g:oB):Prop:=PS X st (dS X.K g)
abbrev oM (X:Cx) (st:Aa Stmt) (g:oB):Prop:=qO X st (dS X.K g)
theorem PS.mono {X:Cx}{st:Stmt}(h:PS X st t) (k:∀ D g H,j D g H->t D g H):PS X st j:=λa s g H D I q=>h a s g H D I (k D g H q)
theorem qO.mono {X:Cx}{st:Aa Stmt}(h:qO X st t) (k:∀ D g H,j D g H->t D g H):qO X st j:=λa s g H D I q=>h a s g H D I (k D g H q)
def A9:oB:=λ_ a b=>a.nx b
def tV (t u:oB):oB:=λb a c=>t b { a with nx:=u b a } c
def oS (g:lP):oB:=λb a c=>g b c λr _=>a.rt r
def Km (g:lP):oB:=λc b d=>g c d λ_ a=>b.nx a
def vP (c:pE) (t u:oB):oB:=λd e f=>c d f λb a=>if b=true then t d e a else u d e a
def mV (i:Nat) (g:lP):oB:=λc b d=>g c d λr a=>b.nx (a.set i r)
section
variable {X:Cx}{K:kQ}{st:Stmt}{rest:Aa Stmt}
theorem Cj.seq (h:Cj K B T n o p){P:Aa Sl->Prop}(k:∀ j g l,j.length=g.length->g.length=n->DS K B (j.zip g++T) l->P j->N g l):Cj K B T n { o with nx:=P } { p with nx:=N } :=
 ⟨λj g l a b d=>⟨k j g l a b d,(h.1 j g l a b d).2⟩,h.2⟩
theorem nT:oM X [] A9:=Hk.mono λi f H a=>a.elim λB e T h b hd c d=>(d.1 e f H b rfl hd).1 c
theorem gD (g:rE X st t) (j:oM X rest u):oM X (st::rest) (tV t u):=(L6 g j).mono λs w H a=>a.elim λB m T e f hd h c =>
 ⟨B,m,T,_,f,hd,h,c.seq λb n v i k d q=>⟨B,b,T,e,i,d,q,by rw[k];exact c⟩⟩
theorem kX (h:rE X st t):oM X [st] t:=yX h
theorem lX (h:PD X e g):rE X (.Return (some e) pos) (oS g):=(Gc h).mono λt q H a=>a.elim λB n T s f hd i m=>⟨B,n,T,_,f,hd,i,λr b v c k d1 d=>m.2 r v b q c k d1 d⟩
theorem oV (h:PD X e j) (g:swapsWith e none pos.line X.env=pure false:=by rfl):rE X (.Expr e pos) (Km j):=(BV h g).mono λt q H a=>a.elim λB n T s f hd i m=>⟨B,n,T,_,f,hd,i,λr b v c k d1 d=>(m.1 b q c k rfl d1.drop).1 d⟩
theorem nW (l:qN X c o) (g:oM X a t) (j:oM X b u):rE X (.If c a b pos) (vP o t u):=(Gx l g j).mono λs w H e=>e.elim λB q T f m hd n k=>⟨B,q,T,_,m,hd,n,λc d v i d1 h=>by
 cases c with
 | true=>exact (aZ rfl).mpr ⟨B,d,T,f,i,d1,(aZ rfl).mp h,k⟩
 | false=>exact wH ⟨B,d,T,f,i,d1,(aK (by decide)).mp h,k⟩⟩
theorem DS.assign {g:Aa Sl}{j:St}(l:g.length=j.length) (h:DS K B (g.zip j++(r,some v)::T) H) (i:Nat):DS K B ((g.set i r).zip (j.set i (some v))++T) H:=by
 by_cases m:i<g.length
 .obtain⟨b,y,c,_,_,n,a⟩:=uA l (aR m);rw[a r (some v)];rw[n] at h;have d:DS K B (b++(c++(r,some v)::T)) H:=DS.drop (L1:=b) (x:=(g[i],y)) (by simpa using h);have e:DS K B ((b++c)++(r,some v)::T) H:=by simpa using d
  have f:=e.front;have k:DS K B ((r,some v)::(b++(c++T))) H:=by simpa using f
  simpa using k.mid
 .rw[gB (by omega),gB (by omega)];exact h.drop
theorem kZ (i:Nat) (j:X.N.Nodup) (l:PD X e J) (p:X.N[i]?=some x:=by rfl) (I:rG X.env.scope x:=by first | exact Or.inl rfl | exact Or.inr rfl) (C:swapsWith e (some (.Name x g)) pos.line X.env=pure false:=by rfl)
  (o:X.fn x=true\/X.env.scope.names.lookup x=some .local:=by first | exact .inl rfl | exact .inr rfl | assumption):rE X (.Assign [.Name x g] e pos) (mV i J) :=
 (BH j p I l C o).mono λs t H a=>a.elim λB m T q f hd h k=>⟨B,m,T,_,f,hd,h,λr n v c b d1 d=>(k.1 _ _ c (by rw[bY,bY];exact b) (bY ..) (d1.assign b i)).1 d⟩
end
def wK (N:Aa Af) (g:Aa D):Aa Sl:=g.map .v++List.replicate (N.length-g.length) .n
section
variable {P:Ah}{K:kQ}
theorem Pb:∀ {g:Aa D}{j:Aa V}(n:Nat),g.length=j.length->(g.map Sl.v++List.replicate n Sl.n).zip (j.map some++List.replicate n none)=(g.zip j).map (λp=>(Sl.v p.1,some p.2))++List.replicate n (Sl.n,none)
 | [],[],n,_=>by simp
 | [],_::_,_,e=>by simp at e
 | _::_,[],_,e=>by simp at e
 | d::g,v::j,n,e=>by
  simp only[bH,cQ,fR,eV,true_and];exact Pb n (by simpa using e)
theorem Zg (l:Reps K A H g j):∀ p∈g.zip j,Rep K A H p.1 p.2:=by
 induction g generalizing j with
 | nil=>intro p a;cases a
 | cons d g b =>
  cases l with
  | cons h r =>
  intro p a;rw[fR] at a;rcases aI.mp a with rfl | q
  .exact h
  .exact b r p q
theorem Fun.okD {st:Stmt}{R:RD}(F:Fun K x J st f fd) (S:FnScope N ps (lQ st)) (I:∀ C g T,R C g T->g.length=ps.length) (aa:ps.length<=N.length)
  (U:∀ (l:Ac) (A:Around) (j:Aa Env) (s:Ae) (H:Hp) (E:XK) (C:Aa Ad) (g:Aa D) (T:Sl->Prop),Room k (A.deeper (envOfC J (lQ st) s.heap.objs.size f l))->R C g T ->∃ t,oM (wE rN P w K mg base N J (lQ st) f l A j s H E).nox (qM st) t/\t C { nx:=λ_=>T (.v .e),rt:=T } (wK N g)):FnOk P w K mg base rN (k+1) f fd ps (wN K R):=by
 refine F.ok S (λm H Q E M=>by obtain⟨C,A,g,T,_,_,r,u,_⟩:=M;rw[<- r.length];exact I _ _ _ u) λl A j s H m Q E hr M=>?_
 obtain⟨C,A1,g,T,L,hA,r,u,X⟩:=M;obtain⟨t,ht,hb⟩:=U l A j s H E C g T hr u;have G:g.length=m.length:=r.length;have dl:g.length=ps.length:=I _ _ _ u;refine⟨_,ht,⟨C,A1,H⟩,wK N g,[],_,?_,?_,hb,?_,?_⟩
 .unfold wK start;rw[List.length_append,List.length_append,List.length_map,List.length_map,List.length_replicate,List.length_replicate,G]
 .have W:(wK N g).zip (start N m)=(g.zip m).map (λp=>(Sl.v p.1,some p.2))++List.replicate (N.length-g.length) (Sl.n,none):=by
   unfold wK start;rw[<- G];exact Pb _ G
  have B:hH ((wK N g).zip (start N m))=[]:=by
   rw[W];refine gF.mpr λa i=>?_
   obtain⟨q,c,e⟩:=sP.mp i;rcases aY.mp c with z | z
   .obtain⟨p,_,rfl⟩:=aD.mp z;cases e
   .rw[(kC.mp z).2] at e;cases e
  rw[cD];refine⟨λb o e _=>e,L,by rw[B];exact cZ,(λa i=>by rw[B] at i;exact absurd i bJ),λq c=>?_⟩;rw[B];rw[W] at c;rcases aY.mp c with z | z
  .obtain⟨p,hp,rfl⟩:=aD.mp z;exact⟨p.2,rfl,(Zg r p hp).mono (.all λa i=>⟨hA a i,bJ,.inl i⟩)⟩
  .rw[(kC.mp z).2];trivial
 .intro O V y l1 l2 d1;refine⟨λh=>X _ _ y h d1.fr d1.dk .e,λh=>h.elim,λh=>h.elim⟩
 .intro Z v O V y l1 d1 h;refine X Z v y h d1.fr d1.dk ?_;cases Z with
  | n=>trivial
  | v d=>exact d1.valAt.mono (.all λa z=>⟨z.1,z.2.2⟩)
  | o d =>
   obtain⟨a,rfl,r'⟩:=d1.ownAt;have Y:=d1.new a (by rw[qP];exact aJ _ aT);exact⟨a,rfl,Y.1,Y.2,r'.mono (.all λb z=>⟨z.1,λq=>z.2.1 (by simp[q]),z.2.2⟩) λ_ q=>q⟩
end
abbrev sG:=D->Aa Sl->(Aa Sl->Prop)->Prop
abbrev zT:=Aa D->Aa Sl->(Aa Sl->Prop)->Prop
noncomputable def oJ (g:Aa D) (j:Aa V):mU:=(g.zip j).map λp=>(Sl.v p.1,some p.2)
def dG (K:kQ) (n:Nat) (g:sG):TG:=λv c H Q=>∃ (B:Bs) (e:Aa Sl) (T:mU) (d:D) (h:Aa Sl->Prop),e.length=c.length/\DS K B (e.zip c++(.v d,some v)::T) H/\g d e h /\
 ∀ (b:Aa Sl) (a:St) (f:Hp),b.length=a.length->a.length=c.length->(∀ j,n<=j->a[j]?=c[j]?)->DS K B (b.zip a++T) f->h b->Q a f
def F4 (K:kQ) (n:Nat) (g:zT):zA:=λh c H Q=>∃ (B:Bs) (e:Aa Sl) (T:mU) (d:Aa D) (i:Aa Sl->Prop),e.length=c.length/\d.length=h.length/\DS K B (e.zip c++(oJ d h++T)) H/\g d e i /\
 ∀ (b:Aa Sl) (a:St) (f:Hp),b.length=a.length->a.length=c.length->(∀ j,n<=j->a[j]?=c[j]?)->DS K B (b.zip a++T) f->i b->Q a f
theorem dG.elim {K:kQ}{P:Prop}(h:dG K n I v r H Q) (f:∀ (B:Bs) (o:Aa Sl) (T:mU) (d:D) (p:Aa Sl->Prop),o.length=r.length->DS K B (o.zip r++(.v d,some v)::T) H->I d o p ->(∀ (l:Aa Sl) (g:St) (C:Hp),l.length=g.length->g.length=r.length->(∀ j,n<=j->g[j]?=r[j]?)->DS K B (l.zip g++T) C->p l->Q g C)->P):P:=by
 obtain⟨B,o,T,d,p,a,hd,b,k⟩:=h;exact f B o T d p a hd b k
theorem F4.elim {K:kQ}{P:Prop}(h:F4 K n U J C H Q) (f:∀ (B:Bs) (p:Aa Sl) (T:mU) (o:Aa D) (r:Aa Sl->Prop),p.length=C.length->o.length=J.length->DS K B (p.zip C++(oJ o J++T)) H->U o p r ->(∀ (l:Aa Sl) (g:St) (I:Hp),l.length=g.length->g.length=C.length->(∀ j,n<=j->g[j]?=C[j]?)->DS K B (l.zip g++T) I->r l->Q g I)->P):P:=by
 obtain⟨B,p,T,o,r,a,c,hd,b,k⟩:=h;exact f B p T o r a c hd b k
abbrev uH (X:Cx) (n:Nat) (e:Expr) (g:sG):Prop:=PG X e (dG X.K n g)
abbrev C2 (X:Cx) (n:Nat) (g:Aa Expr) (j:zT):Prop:=vX X g (F4 X.K n j)
theorem PG.mono {X:Cx}(h:PG X e t) (k:∀ v g H Q,j v g H Q->t v g H Q):PG X e j:=λa s g H v u Q I r q=>h a s g H v u Q I r (k v g H Q q)
theorem vX.mono {X:Cx}(h:vX X j t) (k:∀ v g H Q,l v g H Q->t v g H Q):vX X j l:=λa s g H v u Q I r q=>h a s g H v u Q I r (k v g H Q q)
def gN (i:Nat):sG:=λd b a=>a (b.set i (.v d))
def BJ:zT:=λa c b=>a=[]/\b c
def IK (g:sG) (j:zT):zT:=λa e c=>match a with
 | d::a=>g d e λb=>j a b c
 | []=>False
def Wk (n:Nat) (g:zT):sG:=λd c b=>match d with
 | .t a=>a.length=n/\g a c b
 | _=>False
section
variable {X:Cx}{K:kQ}
theorem DS.pushs {A:Ad->Prop}:∀ {ds:Aa D}{vs:Aa V},DS K B (L++T) H->Reps K (Al B (hH (L++T))) H ds vs->DS K B (L++(oJ ds vs++T)) H
 | _,_,h,.nil=>h
 | _,_,h,.cons (ds:=ds) (vs:=vs) r i=>by
  have c:=DS.pushs (A:=A) h i;have b:hH (L++(oJ ds vs++T))=hH (L++T):=by
   have:∀ (ds:Aa D) (vs:Aa V),hH (oJ ds vs)=[]:=λds vs=>by
    refine gF.mpr λa d=>?_
    obtain⟨q,f,e⟩:=sP.mp d;obtain⟨p,_,rfl⟩:=aD.mp f;cases e
   rw[pV,pV,pV,this,fW]
  exact c.push (by rw[b];exact r)
theorem hO (i:Nat) (g:X.N.Nodup) (o:X.N[i]?=some x:=by rfl) (p:rG X.env.scope x:=by first | exact Or.inl rfl | exact Or.inr rfl) (r:i<m:=by decide) (l:X.fn x=true\/X.env.scope.names.lookup x=some .local:=by first | exact .inl rfl | exact .inr rfl | assumption):uH X m (.Name x pos) (gN i) :=
 (Gr g o p l).mono λv n H Q a=>a.elim λB h T d f b hd c k=>k _ _ H (by rw[bY,bY];exact b) (bY ..) (λj e=>eM (by omega)) (hd.assign b i) c
theorem nJ:C2 X m [] BJ:=BC.mono λf i H Q a=>a.elim λB h T n q c e hd ⟨b,d⟩ k=>by
 subst b;cases f with
 | nil=>exact⟨rfl,k h i H c rfl (λ_ _=>rfl) hd d⟩
 | cons _ _=>simp at e
theorem lL (p:uH X m e g) (r:C2 X m l o) (C:(assignEach (e::l) X.env).map (·.2)=assign e X.env::(assignEach l X.env).map (·.2):=by rfl):C2 X m (e::l) (IK g o) :=
 (U8 p r C).mono λb M H Q c=>c.elim λB F T a E w t hd s k=>by
  cases a with
  | nil=>exact s.elim
  | cons d a =>
   cases b with
   | nil=>simp at t
   | cons v b =>
    refine⟨v,b,rfl,B,F,oJ a b++T,d,_,w,hd,s,λf G L x y f1 d1 q=>⟨B,f,T,a,E,x,by simpa using t,d1,q,λh i u z A f2 d2 D=>k h i u z (A.trans y) (λj n=>(f2 j n).trans (f1 j n)) d2 D⟩⟩
theorem nK (o:X.calm=true) (h:C2 X m g l) (p:(assignEach g X.env).length=n:=by rfl) (j:(assignEach g X.env).findIdx? (·.1)=none:=by rfl):uH X m (.Tuple g k pos) (Wk n l) :=
 (EA o h p j).mono λv x H Q b=>b.elim λB w T d u q hd c k=>by
  cases d with
  | t f =>
   obtain⟨a,s,rfl,i,e⟩:=hd.valAt.tup_inv;exact⟨a,s,rfl,lR.of i,by rw[<- e.length];exact c.1,B,w,T,f,u,q,e.length,hd.drop.pushs (A:=λ_=>True) e,c.2,k⟩
  | _=>exact c.elim
end
def EC (j:lP) (g:sG):oB:=λc b e=>j c e λr a=>match sd r with
 | some d=>g d a b.nx
 | none=>False
def Dg:D->D->D->Ab D
 | .l b,.int i,d=>(rW b.length i).map λj=>.l (b.set j d)
 | .k a,k,d=>if a.length<100000 then (qW k).map λk=>.k (nN a k d) else none
 | .T a,.t c,d=>if a.length<100000 then (wV c).map λk=>.T (nN a k d) else none
 | _,_,_=>none
def Et (i:Nat) (g j:lP):oB:=λf h q=>j f q λn a=>(at? a i).isSome=true/\g f a λm b=>match sd n,sd m,b[i]? with
 | some d,some k,some (.o c)=>∃ e,Dg c k d=some e/\h.nx (b.set i (.o e))
 | _,_,_=>False
section
variable {X:Cx}{K:kQ}
theorem Q8 (o:PD X e I) (p:uH X m l g) (C:swapsWithSole [l] e pos.line X.env=pure false:=by rfl) (hw:swappedStores [l] e X.env=pure none:=by rfl)
  (j:(assignEach [l] X.env).map (·.2)=[assign l X.env]:=by rfl):rE X (.Assign [l] e pos) (EC I g):=(P1 o p C hw j).mono λz D H b=>b.elim λB x T y k hd n s=>⟨B,x,T,_,k,hd,n,λr c v A q d1 j=>by
 cases a:sd r with
 | none=>rw[a] at j;exact j.elim
 | some d =>
  rw[a] at j;exact⟨B,c,T,d,_,q,d1.thaw a,j,λf h i t u _ d2 w=>(s.1 f h i t u d2).1 w⟩⟩
def Pn:F8:=λo i v H Q=>Mi o i v H Q\/∃ a b,o = .ref a/\uK H a i v b/\Q b
theorem IW (j:X.A.units+1<cLine):Ju X Pn:=by
 intro b s t H o i v n m u Q I d c e h;rcases h with h | ⟨a,f,rfl,g,q⟩
 .exact HB b s t H o i v n m u Q I d c e h
 .cases d;exact Pq j I g c e λw k=>⟨f,k,q⟩
theorem DS.slotW {g:Aa Sl}{j:St}(C:g.length=j.length) (h:DS K B (g.zip j++T) H){i:Nat}{c:D}(e:g[i]?=some (.o c)):∃ a,j[i]?=some (some (.ref a))/\nU K (Al B (hH (g.zip j++T))) H a c /\
  ∀ (o:HO) (l:D),(∀ p,Kp (Al B (hH (g.zip j++T))) p H (upd H a o)->nU K p (upd H a o) a l)->DS K B ((g.set i (.o l)).zip j++T) (upd H a o):=by
 obtain⟨q,y,s,m,_,n,b⟩:=uA C e;have d:DS K B (q++(.o c,y)::(s++T)) H:=by rw[n] at h;simpa using h
 obtain⟨a,rfl,_⟩:=d.at;have f:hH (g.zip j++T)=hH q++a::hH (s++T):=by rw[n,bB,cQ,qP];rfl
 obtain⟨v,t,r⟩:=d.ownAt;cases t;refine⟨a,m,by rw[f];exact r,λo l k=>?_⟩;rw[f] at k;have u:=d.write (o:=o) (d':=l) k;have:=b (.o l) (some (.ref a));rw[Ak m] at this;rw[this]
 simpa using u
theorem Wp (h:Dg c k d=some p) (r:nU K A H a c) (J:mE K A H k y) (I:Rep K A H d v)
  (C:∀ o,(∀ g,Kp A g H (upd H a o)->nU K g (upd H a o) a p)->Q (upd H a o)):Pn (.ref a) y v H Q:=by
 cases c with
 | l M =>
  cases k with
  | int i =>
   obtain⟨m,s,n⟩:=r;obtain⟨j,u,rfl⟩:=cK.mp h;have:=J.int_inv;subst this;exact .inl ⟨a,m,i,j,rfl,rfl,s,by rw[<- n.length];exact u,C _ λg w=>⟨_,nM,(n.set I j).mono w⟩⟩
  | _=>cases h
 | k e =>
  obtain⟨m,s,q,n⟩:=r;have h:=(show (if e.length<100000 then (qW k).map λj=>D.k (nN e j d) else none)=some p from h);by_cases f:e.length<100000
  .rw[aZ f] at h;obtain⟨j,u,rfl⟩:=cK.mp h;rw[Bt u J];obtain⟨z,B⟩:=Iv q n (k:=j) I;have x:m.length<sizeLine:=by
    have:=cL List.length q;simp only[aA] at this;exact bR (show m.length<100000 by omega) (by decide)
   exact .inr ⟨a,_,rfl,uK.k s x,C _ λg w=>⟨_,nM,z,B.mono w⟩⟩
  .rw[aK f] at h;cases h
 | T e =>
  cases k with
  | t F =>
   obtain⟨m,s,q,n⟩:=r;have h:=(show (if e.length<100000 then (wV F).map λj=>D.T (nN e j d) else none)=some p from h);by_cases f:e.length<100000
   .rw[aZ f] at h;obtain⟨j,u,rfl⟩:=cK.mp h;obtain⟨b,L,rfl,E,G⟩:=J.tup_inv;rw[Ko u G] at E;obtain⟨z,B⟩:=Iv q n (k:=j) I;have x:m.length<sizeLine:=by
     have:=cL List.length q;simp only[aA] at this;exact bR (show m.length<100000 by omega) (by decide)
    exact .inr ⟨a,_,rfl,uK.t s E x,C _ λg w=>⟨_,nM,z,B.mono w⟩⟩
   .rw[aK f] at h;cases h
  | _=>cases h
 | _=>cases h
theorem sF (U:X.A.units+1<cLine) (hv:PD X e tv) (I:PE X o (pA n)) (r:PD X i ti)
  (j:∀ v,assign (.Subscript o i g) X.env v=(do
   let l <- holding [v] (eval o X.env);let C <- holding [v,l] (eval i X.env)
   standAt g
   holding [v,l,C] (setItem l C v)
   release [v,l,C] []):=by intro _;rfl)
  (J:swapsWithSole [.Subscript o i g] e pos.line X.env=pure false:=by rfl) (hw:swappedStores [.Subscript o i g] e X.env=pure none:=by rfl)
  (p:(assignEach [.Subscript o i g] X.env).map (·.2)=[assign (.Subscript o i g) X.env]:=by rfl):rE X (.Assign [.Subscript o i g] e pos) (Et n ti tv) :=
 (P1 hv (T6 I r (IW U) j) J hw p).mono λDn σ H q=>q.elim λB ρ T De N hd P Q=>⟨B,ρ,T,_,N,hd,P,λF u v H1 D d1 t=>by
  obtain⟨r,p⟩:=t;obtain⟨d0,L⟩:=cP.mp r;obtain⟨x,z,_⟩:=d1.peek D L;refine⟨x,z,B,u,(F,some v)::T,_,D,d1,p,λY w y H2 E d2 b=>?_⟩;cases f:sd F with
  | none=>rw[f] at b;exact b.elim
  | some d =>
   cases h:sd Y with
   | none=>rw[f,h] at b;exact b.elim
   | some k =>
    cases m:w[n]? with
    | none=>rw[f,h,m] at b;exact b.elim
    | some s =>
     cases s with
     | n=>rw[f,h,m] at b;exact b.elim
     | v c=>rw[f,h,m] at b;exact b.elim
     | o c =>
      rw[f,h,m] at b;obtain⟨G,M,b⟩:=b;obtain⟨R,S,V⟩:=d2.two f h;obtain⟨a,j,W,Z⟩:=R.slotW E m;rw[z] at j;cases j;exact Wp M W V.peek S λo O=>(Q.1 _ _ _ (by rw[bY];exact E) rfl (Z o G O)).1 b⟩
end
section
variable {X:Cx}
def Sx (K:kQ) (R:It->Hp->Prop) (x:V) (H:Hp):Prop:=(∃ a,x = .ref a/\(∃ b,lG K H a b)/\R (wW K a) H)\/(∃ a,x = .ref a/\(∃ b,lR K H a b)/\R (Aj K a) H)\/∃ z:Af,x = .str z/\z.cps.all (·<128)=true/\R (sW z) H
def Ut (K:kQ) (g:TE):TI:=λb H R=>g b H λx a=>Sx K R x a
theorem G0 (g:PE X l j):PI X r l (Ut X.K j):=by
 intro d s G H R I h;refine kY (g d s G H _ I h) λv c u=>?_
 obtain⟨x,k,f,w,D⟩:=u;have m:∀ b∈[c.heap.objs.size],rL X d k b:=λb A=>by
  have e:b=c.heap.objs.size:=by simpa using A
  subst e;exact f.fpOk (bF _) (f.hok.fresh (bF _))
 rcases D with⟨a,rfl,⟨F,n⟩,q⟩ | ⟨a,rfl,⟨F,n⟩,q⟩ | ⟨z,rfl,y,q⟩
 .cases w;obtain⟨i,E,p,B⟩:=f.list n;exact iT p.isList ⟨c.heap.objs.size,[c.heap.objs.size],_,_,k,rfl,f.kept (t':=c.toks) λb o e=>aQ _ e,U0 a _,⟨_,bL _ rfl,rfl,rfl⟩,m,q⟩
 .cases w;obtain⟨i,E,p,B⟩:=f.tuple n;exact iK (show c.heap.IsTuple a i.toArray from p) ⟨c.heap.objs.size,[c.heap.objs.size],_,_,k,rfl,f.kept (t':=c.toks) λb o e=>aQ _ e,Wa a _,⟨_,bL _ rfl,rfl,rfl⟩,m,q⟩
 .obtain⟨t,rfl⟩:=w;exact wpAny_pyIter_ascii y ⟨c.heap.objs.size,[c.heap.objs.size],_,sW z,k,rfl,f.kept (t':=c.toks) λb L q=>aQ _ q,R0 z t _,⟨_,bL _ rfl,rfl,rfl⟩,m,q⟩
end
def xR (K:kQ) (A:Ad->Prop) (H:Hp) (E:mU):Prop:=∀ p∈E,qV K A H p.1 p.2
structure YD (K:kQ) (J:It) (ds:List D) (E:mU):Prop where
 vals:hH E=[]
 go:∀ i H A,i<ds.length->xR K A H E->J.go i H
 yld:∀ i H A x H',i<ds.length->xR K A H E->J.yld i H x H'->∃ d,ds[i]?=some d/\((H'=H/\Rep K A H d x)\/∃ p es vs,H p=none/\x = .ref p/\H'=upd H p (.t vs)/\d = .t es/\Reps K A H es vs)
 stop:∀ i H A,i=ds.length->xR K A H E->J.stop i H
abbrev vG:=Aa Ad->Aa Sl->(Aa D->Aa Sl->Prop)->Prop
def dI (K:kQ) (g:vG):TI:=λb H R=>∃ (B:Bs) (c:Aa Sl) (T:mU) (f:Aa D->Aa Sl->Prop),c.length=b.length/\DS K B (c.zip b++T) H/\g B.dk c f /\
 ∀ (J:It) (e:Aa D) (a:Aa Sl) (E:mU) (d:Hp),a.length=b.length->DS K B (a.zip b++(E++T)) d->YD K J e E->f e a->R J d
theorem dI.elim {K:kQ}{R:It->Hp->Prop}{P:Prop}(h:dI K C o H R) (f:∀ (B:Bs) (j:Aa Sl) (T:mU) (l:Aa D->Aa Sl->Prop),j.length=o.length->DS K B (j.zip o++T) H->C B.dk j l ->(∀ (J:It) (r:Aa D) (g:Aa Sl) (E:mU) (p:Hp),g.length=o.length->DS K B (g.zip o++(E++T)) p->YD K J r E->l r g->R J p)->P):P:=by
 obtain⟨B,j,T,l,a,hd,b,k⟩:=h;exact f B j T l a hd b k
abbrev zJ (X:Cx) (g iter:Expr) (j:vG):Prop:=PI X g iter (dI X.K j)
theorem PI.mono {X:Cx}{iter:Expr}(h:PI X j iter w) (k:∀ g H R,l g H R->w g H R):PI X j iter l:=λa s g H R I q=>h a s g H R I (k g H R q)
noncomputable def yT (z:Af):Aa D:=z.cps.toList.map λc=>D.str ⟨#[c]⟩
def IA:D->Ab (Aa D)
 | .l a=>some a
 | .t a=>some a
 | .con a=>some a
 | .c a=>some a
 | .str z=>if z.cps.all (·<128) then some (yT z) else none
 | _=>none
def iV (g:lP):vG:=λb e d=>g b e λr a=>match (sd r).bind IA with
 | some c=>d c a
 | none=>False
noncomputable def nL (lo:Int) (n:Nat):Aa D:=(List.range n).map λ(i:Nat)=>D.int (lo+i)
def Vm (g:lP):vG:=λb d c=>g b d λr a=>match r with
 | .v (.int j)=>-(2 ^ 62)<=j/\j<2 ^ 62/\c (nL 0 j.toNat) a
 | _=>False
section
variable {X:Cx}{K:kQ}
theorem Xk {a:Ad}{g:Aa D}:YD K (wW K a) g [(.v (.l g),some (.ref a))] where
 vals:=rfl
 go:=λi H A h ok=>by
  obtain⟨v,e,r⟩:=ok _ aT;cases e;obtain⟨k,b,e,_,c,f⟩:=r.lst_inv;cases e;exact⟨b,b[i]'(by rw[<- f.length];exact h),lG.of c,aR _⟩
 yld:=λi H A x m h ok y=>by
  obtain⟨v,e,r⟩:=ok _ aT;cases e;obtain⟨k,b,e,_,c,f⟩:=r.lst_inv;cases e;obtain⟨d,hd,rd⟩:=f.getV (y.2 b (lG.of c));exact⟨d,hd,.inl ⟨y.1,rd⟩⟩
 stop:=λi H A h ok=>by
  obtain⟨v,e,r⟩:=ok _ aT;cases e;obtain⟨k,b,e,_,c,f⟩:=r.lst_inv;cases e;exact⟨b,lG.of c,by rw[<- f.length];omega⟩
theorem S4 {a:Ad}{g:Aa D}:YD K (wW K a) g [(.v (.c g),some (.ref a))] where
 vals:=rfl
 go:=λi H A k ok=>by
  obtain⟨v,e,r⟩:=ok _ aT;cases e;obtain⟨m,b,e,f,h⟩:=r.scr_inv;cases e;exact⟨b,b[i]'(by rw[<- h.length];exact k),f.sqL,aR _⟩
 yld:=λi H A x n k ok y=>by
  obtain⟨v,e,r⟩:=ok _ aT;cases e;obtain⟨m,b,e,f,h⟩:=r.scr_inv;cases e;obtain⟨d,hd,rd⟩:=h.getV (y.2 b f.sqL);exact⟨d,hd,.inl ⟨y.1,rd⟩⟩
 stop:=λi H A k ok=>by
  obtain⟨v,e,r⟩:=ok _ aT;cases e;obtain⟨m,b,e,f,h⟩:=r.scr_inv;cases e;exact⟨b,f.sqL,by rw[<- h.length];omega⟩
theorem O8 {a:Ad}{d:D}{g:Aa D}(hd:d = .t g\/d = .con g):YD K (Aj K a) g [(.v d,some (.ref a))]:=by
 have key:∀ A H,xR K A H [(.v d,some (.ref a))]->∃ b,lR K H a b/\Reps K A H g b:=λA H ok=>by
  obtain⟨v,e,r⟩:=ok _ aT;cases e;rcases hd with rfl | rfl
  .obtain⟨k,b,e,c,f⟩:=r.tup_inv;cases e;exact⟨b,lR.of c,f⟩
  .obtain⟨k,b,e,c,f⟩:=r.con_inv;cases e;exact⟨b,c.sqT,f⟩
 refine⟨rfl,λi H A h ok=>?_,λi H A x m h ok y=>?_,λi H A h ok=>?_⟩
 .obtain⟨b,c,f⟩:=key A H ok;exact⟨b,b[i]'(by rw[<- f.length];exact h),c,aR _⟩
 .obtain⟨b,c,f⟩:=key A H ok;obtain⟨d,hd,rd⟩:=f.getV (y.2 b c);exact⟨d,hd,.inl ⟨y.1,rd⟩⟩
 .obtain⟨b,c,f⟩:=key A H ok;exact⟨b,c,by rw[<- f.length];omega⟩
theorem Tj:YD K (sW z) (yT z) [] where
 vals:=rfl
 go:=λi H A a _=>by simpa [sW,yT,Str.length] using a
 yld:=λi H A x d a _ y=>by
  obtain⟨e,c,b,rfl⟩:=y;refine⟨.str ⟨#[c]⟩,?_,.inl ⟨e,.str _⟩⟩;unfold yT;rw[bM,eX,b];rfl
 stop:=λi H A a _=>by simp[sW,a,yT,Str.length]
theorem FY {lo:Int}:YD K (zB lo n) (nL lo n) [] where
 vals:=rfl
 go:=λi H A a _=>by simpa [zB,nL] using a
 yld:=λi H A x c a _ y=>by
  have b:i<n:=by simpa [nL] using a
  refine⟨.int (lo+i),by simp[nL,b],.inl ⟨y.1,?_⟩⟩;rw[y.2];exact .int _
 stop:=λi H A a _=>by simp[zB,nL,a]
theorem lK (g:PD X e j):zJ X o e (iV j):=(G0 g).mono λM H R w=>w.elim λB L T G E hd F k=>⟨B,L,T,_,E,hd,F,λr f v n q d1 b=>by
 cases u:sd r with
 | none=>rw[u] at b;exact b.elim
 | some d =>
  rw[u] at b;have d2:=d1.thaw u;have s:=d2.valAt;cases d with
  | l m=>obtain⟨a,i,rfl,_,h,y⟩:=s.lst_inv;exact .inl ⟨a,rfl,⟨i,lG.of h⟩,k _ m f [_] n q d2 Xk b⟩
  | c m=>obtain⟨a,i,rfl,h,y⟩:=s.scr_inv;exact .inl ⟨a,rfl,⟨i,h.sqL⟩,k _ m f [_] n q d2 S4 b⟩
  | t m=>obtain⟨a,i,rfl,h,y⟩:=s.tup_inv;exact .inr (.inl ⟨a,rfl,⟨i,lR.of h⟩,k _ m f [_] n q d2 (O8 (.inl rfl)) b⟩)
  | con m=>obtain⟨a,i,rfl,h,y⟩:=s.con_inv;exact .inr (.inl ⟨a,rfl,⟨i,h.sqT⟩,k _ m f [_] n q d2 (O8 (.inr rfl)) b⟩)
  | str z =>
   have:=s.str_inv;subst this;have b:=(show (match (if z.cps.all (·<128)=true then some (yT z) else none:Ab (Aa D)) with | some A=>G A f | none=>False) from b);by_cases x:z.cps.all (·<128)=true
   .rw[aZ x] at b;exact .inr (.inr ⟨z,rfl,x,k _ _ f [] n q d2.drop Tj b⟩)
   .rw[aK x] at b;exact b.elim
  | _=>exact b.elim⟩
theorem tU (j:Gl X "range") (l:X.mg "range" = none) (g:PD X a I) (C:starEach [a] X.env=[(false,eval a X.env)]:=by rfl) (o:wF a=true:=by rfl):zJ X J (.Call (.Name "range" p) [a] [] pos) (Vm I) :=
 (Up j l (vU g xE o) C).mono λs H R c=>c.elim λB n T q h hd i k=>⟨B,n,T,_,h,hd,i,λr e v f m d1 b=>by
  cases r<;>first | exact False.elim b | skip
  rename_i d
  cases d<;>first | exact False.elim b | skip
  have:=d1.valAt.int_inv;subst this;exact⟨_,rfl,b.1,b.2.1,k _ _ e [] f m d1.drop FY b.2.2⟩⟩
def Hv (l:vG) (g:sG) (j:oB):oB:=λf b k=>l f k λh c=>∃ Pv:Nat->Aa Sl->Prop,Pv 0 c /\
 (∀ i d a,h[i]?=some d->Pv i a->g d a λe=>j f { nx:=Pv (i+1),ct:=Pv (i+1),bk:=b.nx,rt:=b.rt } e)/\∀ a,Pv h.length a->b.nx a
theorem DS.rmE:∀ {E:mU},DS K B (L++(E++T)) H->DS K B (L++T) H
 | [],h=>h
 | x::E,h=>DS.rmE (E:=E) (DS.drop (L1:=L) (x:=x) (by simpa using h))
theorem oE {iter:Expr}{body:Aa Stmt}{o:vG}{g:sG}{j:oB}(hi:zJ X l iter o) (hg:uH X 99 l g) (I:oM X body j) (hp:PassesOwn (model X.prog X.w) X.A X.env X.xe:=by exact gO) (U:X.calm=true:=by rfl)
  (hs:∀ x,foldedSetIterable iter X.env x=pure x:=by intro _;rfl):rE X (.For l iter body [] pos) (Hv o g j) :=
 (F6 hp U hi hg I hs).mono λDn W H O=>O.elim λB ρ T De hl hd ht Q=>⟨B,ρ,T,_,hl,hd,ht,λJ F S E H1 l1 d1 Y P=>by
  obtain⟨Pv,p0,step,fin⟩:=P;refine⟨λi m c k=>m=F.length-i/\i<=F.length/\∃ a,a.length=c.length/\c.length=W.length/\DS X.K B (a.zip c++(E++T)) k/\Pv i a,⟨_,rfl,dR _,S,l1,rfl,d1,p0⟩,?_⟩;rintro i m c k ⟨rfl,aa,a,V,m2,L,pv⟩;have n:xR X.K (Al B (hH (a.zip c++(E++T)))) k E:=λq hq=>L.ok q (by simp[hq])
  by_cases s:i<F.length
  .refine .inr ⟨Y.go i k _ s n,λf t=>∃ b,b.length=f.length/\f.length=W.length/\DS X.K B (b.zip f++(E++T)) t/\Pv (i+1) b,λf t ⟨b,q1,q2,R,q4⟩=>⟨_,(by omega:F.length-(i+1)<_),rfl,s,b,q1,q2,R,q4⟩,λx t y=>?_⟩;obtain⟨d,M,alt⟩:=Y.yld i k _ x t s n y;have d2:DS X.K B (a.zip c++(.v d,some x)::(E++T)) t:=by
    rcases alt with⟨rfl,rx⟩ | ⟨p,es,vs,N,rfl,rfl,rfl,rr⟩
    .exact L.push rx
    .exact L.tup N rr
   refine⟨B,a,E++T,d,_,V,d2,step i d a M pv,λb f H3 n1 n2 _ Z R=>⟨B,b,E++T,_,n1,Z,R,?_,?_⟩⟩
   .intro e h G u a2 D;refine⟨λz=>⟨e,u,by omega,D,z⟩,λz=>?_,λz=>⟨e,u,by omega,D,z⟩⟩;exact (Q.1 e h G u (by omega) D.rmE).1 z
   .intro r v e h G u D z;refine Q.2 r v e h G u ?_ z;have:DS X.K B ((e.zip h++[(r,some v)])++(E++T)) G:=by simpa using D
    simpa using this.rmE
  .have C:i=F.length:=by omega
   subst C;exact .inl ⟨Y.stop _ k _ rfl n,(Q.1 a c k V m2 L.rmE).1 (fin a pv)⟩⟩
end
def mB (B:Bs) (D:Ad) (g:Aa V):Bs:=⟨B.dk,λa=>(B.A0 a\/B.H0 a=none)/\a≠D,λa=>if a=D then some (.l g) else B.H0 a⟩
section
variable {K:kQ}{R:mU}{D:Ad}
theorem Bm {R:Aa Ad}:Al (mB B D g) R a↔Al B R a/\a≠D:=by
 unfold Al mB;constructor
 .rintro ⟨c,d,b | b⟩
  .exact⟨⟨c,d,b.1⟩,b.2⟩
  .dsimp only at b;by_cases z:a=D
   .rw[aZ z] at b;cases b
   .rw[aK z] at b;exact⟨⟨c,d,.inr b⟩,z⟩
 .rintro ⟨⟨c,d,b⟩,e⟩;exact⟨c,d,.inl ⟨b,e⟩⟩
theorem DS.pin (h:DS K B L H) (g:H D=none):DS K (mB B D []) L (upd H D (.l [])):=by
 obtain⟨f1,f2,d⟩:=h.free g;refine⟨λb o e n=>?_,h.dk.upd f2,h.nd,λa c=>?_,λp f=>(h.ok p f).mono (.laid g λa z n=>Bm.mpr ⟨z,n⟩) λb i o q=>by rw[mD (pP q g)];exact q⟩
 .by_cases z:b=D
  .subst z;simp only[mB,fX] at e;cases e;exact nM
  .simp only[mB,aK z] at e;rw[mD z];exact h.fr b o e n
 .have:=h.new a c;have z:a≠D:=λq=>d (q▸c)
  exact⟨by simp only[mB,aK z];exact this.1,this.2⟩
theorem DS.pinAt (h:DS K (mB B D j) L H) (g:D∉B.dk):H D=some (.l j):=h.fr D _ (by simp[mB]) g
theorem DS.pinW (h:DS K (mB B D j) L H) (g:D∉B.dk):DS K (mB B D ys') L (upd H D (.l ys')):=by
 have d:=h.pinAt g;have k:Kp (Al (mB B D j) (hH L)) (Al (mB B D ys') (hH L)) H (upd H D (.l ys')) :=
  (Kp.write (A:=Al (mB B D j) (hH L)) d rfl λz=>(Bm.mp z).2 rfl).trans (.all λa z=>Bm.mpr (Bm.mp z))
 refine⟨λb o e n=>?_,h.dk.upd g,h.nd,λa f=>?_,λp c=>(h.ok p c).mono k λb i o q=>?_⟩
 .by_cases z:b=D
  .subst z;simp only[mB,fX] at e;cases e;exact nM
  .simp only[mB,aK z] at e;rw[mD z];exact h.fr b o (by simp only[mB,aK z];exact e) n
 .have:=h.new a f;have z:a≠D:=λq=>by subst q;simp[mB] at this
  simp only[mB,aK z] at this |-;exact this
 .have:=(h.new b (sP.mpr ⟨p,c,i⟩)).1;have z:b≠D:=λw=>by subst w;simp[mB] at this
  rw[mD z];exact q
theorem DS.unpin (h:DS K (mB B D g) L H) (r:Reps K (Al (mB B D g) (hH L)) H I g) (j:B.H0 D=none) (C:D∉B.dk):DS K B ((.o (.l I),some (.ref D))::L) H:=by
 have k:=h.pinAt C;have i:D∉hH L:=λz=>by have:=(h.new D z).1;simp[mB] at this
 have c:hH ((Sl.o (.l I),some (V.ref D))::L)=D::hH L:=rfl;have al:∀ a,Al (mB B D g) (hH L) a->Al B (D::hH L) a:=λa z=>by
  obtain⟨d,s⟩:=Bm.mp z;exact⟨d.1,λq=>(aI.mp q).elim s d.2.1,d.2.2⟩
 refine⟨λb o e n=>?_,h.dk,by rw[c];exact bX.mpr ⟨i,h.nd⟩,λa f=>?_,λp m=>?_⟩
 .have z:b≠D:=λq=>by subst q;rw[j] at e;cases e
  exact h.fr b o (by simp only[mB,aK z];exact e) n
 .rw[c] at f;rcases aI.mp f with q | q
  .subst q;exact⟨j,C⟩
  .have:=h.new a q;have z:a≠D:=λw=>i (w▸q)
   simp only[mB,aK z] at this;exact this
 .rw[c];rcases aI.mp m with q | q
  .subst q;exact⟨D,rfl,g,k,r.mono (.all al)⟩
  .exact (h.ok p q).mono (.all al) λ_ _ _ w=>w
theorem DS.lend1 {g:Aa Sl}{j:St}(l:g.length=j.length) (h:DS K B (g.zip j++R) H) (i:Nat):DS K B ((g.set i .n).zip j++((g[i]?).getD .n,(j[i]?).join)::R) H:=by
 by_cases d:i<g.length
 .obtain⟨b,y,c,f,_,t,a⟩:=uA l (aR d);rw[t] at h;have k:DS K B (b++(g[i],y)::(c++R)) H:=by simpa using h
  have m:=k.front;have q:DS K B (((g[i],y)::b)++(.n,y)::(c++R)) H:=DS.pushN (L1:=(g[i],y)::b) (by simpa using m) y;have e:=a .n y;rw[Ak f] at e;rw[e,aR d,f];have s:DS K B ((g[i],y)::((b++(Sl.n,y)::c)++R)) H:=by simpa using q
  exact s.mid
 .rw[gB (by omega),List.getElem?_eq_none (by omega),List.getElem?_eq_none (by omega)];exact h.pushN _
theorem DS.back1 {g:Aa Sl}{l:St}{s:Sl}{y:Ab V}(o:g.length=l.length) (h:DS K B (g.zip l++(s,y)::R) H){i:Nat}(j:(l[i]?).join=y):DS K B ((g.set i s).zip l++R) H:=by
 by_cases q:i<g.length
 .obtain⟨d,a,f,c,_,t,b⟩:=uA o (aR q);rw[c] at j;have j:a=y:=j;subst j;have e:=b s a;rw[Ak c] at e;rw[e];rw[t] at h;have k:DS K B (d++(f++(s,a)::R)) H:=DS.drop (L1:=d) (x:=(g[i],a)) (by simpa using h);have m:DS K B ((d++f)++(s,a)::R) H:=by simpa using k
  have n:DS K B ((s,a)::(d++(f++R))) H:=by simpa using m.front
  simpa using n.mid
 .rw[gB (by omega)];exact h.drop
def oH (g:Aa Nat) (j:Aa Sl):Aa Sl:=g.map λi=>(j[i]?).getD .n
def pW (g:Aa Nat) (j:St):St:=g.map λi=>(j[i]?).join
def oF (g:Aa Nat) (j:Aa Sl):Aa Sl:=g.foldl (λj i=>j.set i .n) j
def oU:Aa Nat->Aa Sl->Aa Sl->Aa Sl
 | i::a,s::c,b=>oU a c (b.set i s)
 | _,_,b=>b
theorem G2:∀ (g:Aa Nat) (j:Aa Sl),(oF g j).length=j.length
 | [],_=>rfl
 | i::g,j=>by show (oF g (j.set i .n)).length=_;rw[G2 g,bY]
theorem Mp:∀ (g:Aa Nat) (l:Aa Sl) (j:Aa Sl),(oU g l j).length=j.length
 | [],_,_=>rfl
 | _::_,[],_=>rfl
 | i::g,s::l,j=>(Mp g l (j.set i s)).trans (bY ..)
theorem DS.lend:∀ {caps:Aa Nat}{g:Aa Sl}{R:mU},caps.Nodup->g.length=l.length->DS K B (g.zip l++R) H->DS K B ((oF caps g).zip l++((oH caps g).zip (pW caps l)++R)) H
 | [],g,R,_,a,h=>h
 | i::caps,g,R,d,a,h=>by
  obtain⟨f,k⟩:=bX.mp d;have b:=DS.lend (caps:=caps) (R:=((g[i]?).getD .n,(l[i]?).join)::R) k (by rw[bY];exact a) (h.lend1 a i);have e:oH caps (g.set i .n)=oH caps g:=bZ λj c=>by rw[eM (λz:i=j=>f (by rw[z];exact c))]
  rw[e] at b;show DS K B ((oF caps (g.set i .n)).zip l++((((g[i]?).getD .n,(l[i]?).join)::(oH caps g).zip (pW caps l))++R)) H;refine b.perm (gR _ ?_);rw[cQ];exact gE
theorem DS.back:∀ {caps:Aa Nat}{cs:Aa Sl}{g:Aa Sl}{R:mU},cs.length=caps.length->g.length=j.length->DS K B (g.zip j++(cs.zip (pW caps j)++R)) H->DS K B ((oU caps cs g).zip j++R) H
 | [],[],g,R,_,a,h=>h
 | [],_::_,_,_,e,_,_=>by simp at e
 | _::_,[],_,_,e,_,_=>by simp at e
 | i::caps,s::cs,g,R,e,a,h=>by
  have b:DS K B (g.zip j++(s,(j[i]?).join)::(cs.zip (pW caps j)++R)) H:=h;exact DS.back (caps:=caps) (cs:=cs) (by simpa using e) (by rw[bY];exact a) (b.back1 a rfl)
theorem Zk (g:Aa Nat):∀ (o:Aa Sl) (l:Aa Sl),o.length=g.length->g.Nodup->oU g o (oF g l)=oU g o l:=by
 have ext:∀ (g:Aa Nat) (o:Aa Sl) (l a:Aa Sl),o.length=g.length->l.length=a.length->(∀ j,j∉g->l[j]?=a[j]?)->oU g o l=oU g o a:=by
  intro g;induction g with
  | nil=>intro o l a _ _ h;cases o<;>exact List.ext_getElem? λj=>h j bJ
  | cons i g c =>
   intro o l a e d h;cases o with
   | nil=>simp at e
   | cons s o =>
    show oU g o (l.set i s)=oU g o (a.set i s);refine c o _ _ (by simpa using e) (by simp[d]) λj b=>?_
    by_cases z:j=i
    .subst z;rw[List.getElem?_set,List.getElem?_set,d,aZ rfl,aZ rfl]
    .rw[eM (eR z),eM (eR z)];exact h j λq=>(aI.mp q).elim z b
 intro o l e _;refine ext g o _ _ e (G2 g l) λj b=>?_
 have:∀ (g:Aa Nat) (l:Aa Sl),j∉g->(oF g l)[j]?=l[j]?:=by
  intro g;induction g with
  | nil=>intro l _;rfl
  | cons i g c =>
   intro l b;show (oF g (l.set i .n))[j]?=_;rw[c _ (λz=>b (bD _ z)),eM (λz=>b (by simp[z]))]
 exact this g l b
theorem Rs:∀ {g:Aa L2.D}{j:Aa V},g.length=j.length->(∀ p∈oJ g j,qV K A H p.1 p.2)->Reps K A H g j
 | [],[],_,_=>.nil
 | [],_::_,e,_=>by simp at e
 | _::_,[],e,_=>by simp at e
 | c::g,y::j,e,key=>by
  obtain⟨u,b,r⟩:=key (.v c,some y) (by simp[oJ]);cases b;exact .cons r (Rs (by simpa using e) λp a=>key p (by simp only[oJ,fR,bH,aI] at a |-;exact .inr a))
theorem DS.forget {ρ:Aa Sl}(n:Nat) (g:ρ.length=σ.length) (j:n<=ρ.length) (h:DS K B (ρ.zip σ++R) H):DS K B ((List.replicate n Sl.n++ρ.drop n).zip σ++R) H:=by
 induction n generalizing ρ σ R with
 | zero=>simpa using h
 | succ n c =>
  cases ρ with
  | nil=>simp at j
  | cons r ρ =>
   cases σ with
   | nil=>simp at g
   | cons y σ =>
    have a:DS K B (ρ.zip σ++R) H:=DS.drop (L1:=[]) (x:=(r,y)) h;have b:=c (ρ:=ρ) (σ:=σ) (R:=R) (by simpa using g) (by simpa using j) a;rw[cU,cQ,List.drop_succ_cons,fR];exact DS.pushN (L1:=[]) b y
end
def Fw:pE:=λ_ b a=>a true b
def wS (n:Nat) (j:Aa Nat) (I:vG) (g:sG) (C:pE) (p:lP):lP:=λk u t=>I k u λs f=>∃ Pv:Nat->Aa D->Aa Sl->Prop,Pv 0 [] (oH j f) /\
 (∀ i d e a,s[i]?=some d->a.length=j.length->Pv i e a->g d (List.replicate n Sl.n++a) λm=>C k m λb h=>if b=true then p k h λr q=>match sd r with
  | some c=>e.length<100000/\Pv (i+1) (e++[c]) (q.drop n)
  | none=>False
  else Pv (i+1) e (h.drop n)) /\
 ∀ e a,a.length=j.length->Pv s.length e a->t (.o (.l e)) (oU j a f)
section
variable {X:Cx}
theorem Bu:tN X [] (rC X.K Fw):=λa s f H Q I b=>b.elim λB e T h c hd d k=>P8 a s f H Q I (k true e H c hd d)
theorem uI (h:qN X c t):tN X [c] (rC X.K t):=GX h
theorem I3 {T:Aa Af}{caps:Aa Nat}{g:sG}{tt:pE}{te:lP}{K:kQ}(ac:caps.Nodup){U:St}{H1:Hp}{Q:VK}{B:Bs}{C:Aa Sl}{Tm:mU}{Φ:Sl->Aa Sl->Prop}{J:It}{ds:Aa L2.D}{D:Ad}(l1:C.length=U.length) (d1:DS K B (C.zip U++Tm) H1)
  (hJ:∀ i I La M H,(∀ q∈Tm,q∈M)->DS K (mB B D I) (La++M) H->(i<ds.length->J.go i H)/\(i=ds.length->J.stop i H)/\∀ x H2,i<ds.length->J.yld i H x H2->∃ d,ds[i]?=some d/\DS K (mB B D I) (La++(.v d,some x)::M) H2)
  (ag:∃ Pv:Nat->Aa L2.D->Aa Sl->Prop,Pv 0 [] (oH caps C) /\ (∀ i d I cs,ds[i]?=some d->cs.length=caps.length->Pv i I cs->g d (List.replicate T.length Sl.n++cs) λaf=>tt B.dk af λb ab=>if b=true then te B.dk ab λr aa=>match sd r with
    | some c=>I.length<100000/\Pv (i+1) (I++[c]) (aa.drop T.length)
    | none=>False
    else Pv (i+1) I (ab.drop T.length)) /\
   ∀ I cs,cs.length=caps.length->Pv ds.length I cs->Φ (.o (.l I)) (oU caps cs C))
  (k:∀ r ae v H',ae.length=U.length->DS K B (ae.zip U++(r,some v)::Tm) H'->Φ r ae->Q v H') (hD:H1 D=none):zR T caps J (dG K T.length g) (rC K tt) (dE K te) U H1 Q D:=by
 obtain⟨Pv,p0,step,fin⟩:=ag;obtain⟨f1,f2,f3⟩:=d1.free hD;refine⟨λi m I s H'=>m=ds.length-i/\i<=ds.length/\s.length=T.length+caps.length/\(∀ j,T.length<=j->s[j]?=(qF T caps U)[j]?)/\∃ (h:Aa L2.D) (cs:Aa Sl),cs.length=caps.length/\h.length=I.length /\ DS K (mB B D I) ((List.replicate T.length Sl.n++cs).zip s++((oF caps C).zip U++(oJ h I++Tm))) H'/\Pv i h cs,?_,?_⟩
 .refine⟨_,rfl,dR _,by simp[qF],λ_ _=>rfl,[],oH caps C,by simp[oH],rfl,?_,p0⟩;have h2:=(d1.lend ac l1).pin hD;have e:(List.replicate T.length Sl.n++oH caps C).zip (qF T caps U)=List.replicate T.length (Sl.n,none)++(oH caps C).zip (pW caps U):=by
   have:∀ n,(List.replicate n Sl.n++oH caps C).zip (List.replicate n none++pW caps U)=List.replicate n (Sl.n,none)++(oH caps C).zip (pW caps U):=by
    intro n;induction n with
    | zero=>rfl
    | succ n ih=>simp only[cU,cQ,fR,ih]
   have W:qF T caps U=List.replicate T.length none++pW caps U:=by unfold qF pW;rw[List.map_const']
   rw[W];exact this _
  rw[e];have h3:DS K (mB B D []) ((oH caps C).zip (pW caps U)++((oF caps C).zip U++Tm)) (upd H1 D (.l [])):=h2.perm (by
   rw[<- bB,<- bB (as:=(oH caps C).zip (pW caps U))];exact jE.append_right _)
  have:∀ n,DS K (mB B D []) (List.replicate n (Sl.n,none)++((oH caps C).zip (pW caps U)++((oF caps C).zip U++Tm))) (upd H1 D (.l [])):=by
   intro n;induction n with
   | zero=>exact h3
   | succ n ih=>rw[cU];exact DS.pushN (L1:=[]) ih none
  have e3:oJ ([]:Aa L2.D) ([]:Aa V)=[]:=rfl;rw[e3]
  simpa using this T.length
 .rintro i m I s H' ⟨rfl,hi,ls,fs,h,cs,G,z,N,pv⟩;obtain⟨j1,j2,j3⟩:=hJ i I _ _ H' (λq hq=>by simp[hq]) N;by_cases w:i<ds.length
  .refine .inr ⟨j1 w,λf v R=>f.length=T.length+caps.length/\(∀ j,T.length<=j->f[j]?=(qF T caps U)[j]?)/\I.length<100000/\∃ (c:L2.D) (aa:Aa Sl),aa.length=f.length/\DS K (mB B D I) (aa.zip f++(.v c,some v)::((oF caps C).zip U++(oJ h I++Tm))) R/\Pv (i+1) (h++[c]) (aa.drop T.length),λf P=>f.length=T.length+caps.length/\(∀ j,T.length<=j->f[j]?=(qF T caps U)[j]?)/\∃ aa:Aa Sl,aa.length=f.length/\DS K (mB B D I) (aa.zip f++((oF caps C).zip U++(oJ h I++Tm))) P/\Pv (i+1) h (aa.drop T.length),?_,?_,λx H2 y=>?_⟩
   .rintro f v R ⟨q1,q2,q3,c,aa,A,t,q6⟩;refine⟨t.pinAt f2,bR q3 (by decide),ds.length-(i+1),by omega,rfl,w,q1,q2,h++[c],aa.drop T.length,by rw[hV];omega,by simp[z],?_,q6⟩;have w1:=(t.pinW (ys':=I++[v]) f2).forget T.length A (by omega);refine w1.perm (gR _ ?_);have ev:oJ (h++[c]) (I++[v])=oJ h I++[(.v c,some v)]:=by unfold oJ;rw[List.zip_append z,List.map_append];rfl
    rw[ev];have p1:((Sl.v c,some v)::((oF caps C).zip U++(oJ h I++Tm))).Perm ((oF caps C).zip U++(oJ h I++((Sl.v c,some v)::Tm))):=by
     rw[<- bB,<- bB (as:=(oF caps C).zip U)];exact gE.symm
    simpa using p1
   .rintro f P ⟨q1,q2,aa,A,t,q6⟩;exact⟨ds.length-(i+1),by omega,rfl,w,q1,q2,h,aa.drop T.length,by rw[hV];omega,z,t.forget T.length A (by omega),q6⟩
   .obtain⟨d,Z,d2⟩:=j3 x H2 w y;refine⟨mB B D I,_,_,d,_,by simp[G,ls],d2,step i d h cs Z G pv,λaf f H3 n1 n2 fr d3 q3=>⟨mB B D I,af,_,_,n1,d3,q3,λb ab P m1 d4 A=>?_⟩⟩;have F:∀ j,T.length<=j->f[j]?=(qF T caps U)[j]?:=λj O=>(fr j O).trans (fs j O)
    cases b with
    | false=>exact wH ⟨by omega,F,ab,m1,d4,(aK (by decide)).mp A⟩
    | true =>
     refine (aZ rfl).mpr ⟨mB B D I,ab,_,_,m1,d4,(aZ rfl).mp A,λr aa v R m4 d5 t=>?_⟩;cases S:sd r with
     | none=>rw[S] at t;exact t.elim
     | some c =>
      rw[S] at t;exact⟨by omega,F,by rw[<- z];exact t.1,c,aa,m4,d5.thaw S,t.2⟩
  .have ei:i=ds.length:=by omega
   subst ei;refine .inl ⟨j2 rfl,?_⟩;have es:s=s.take T.length++pW caps U:=by
    apply List.ext_getElem?;intro j;by_cases O:j<T.length
    .rw[fU (by rw[cC];omega),List.getElem?_take_of_lt O]
    .rw[dU (by rw[cC];omega),cC,fs j (by omega)];have W:qF T caps U=List.replicate T.length none++pW caps U:=by unfold qF pW;rw[List.map_const']
     rw[W,dU (by rw[cO];omega),cO]
     congr 1
     omega
   have ez:(List.replicate T.length Sl.n++cs).zip s=(List.replicate T.length Sl.n).zip (s.take T.length)++cs.zip (pW caps U):=by
    conv=>lhs;rw[es]
    exact List.zip_append (by rw[cO,cC];omega)
   have rr:Reps K (Al (mB B D I) (hH ((oU caps cs (oF caps C)).zip U++Tm))) H' h I/\DS K (mB B D I) ((oU caps cs (oF caps C)).zip U++Tm) H':=by
    have g1:DS K (mB B D I) (cs.zip (pW caps U)++((oF caps C).zip U++(oJ h I++Tm))) H':=by
     rw[ez,bB] at N;exact DS.rmE (L:=[]) (E:=(List.replicate T.length Sl.n).zip (s.take T.length)) N
    have g2:DS K (mB B D I) ((oF caps C).zip U++(cs.zip (pW caps U)++(oJ h I++Tm))) H':=g1.perm (by
     rw[<- bB,<- bB (as:=(oF caps C).zip U)];exact jE.append_right _)
    have g3:=g2.back G (by rw[G2];exact l1);have Y:DS K (mB B D I) ((oU caps cs (oF caps C)).zip U++(oJ h I++Tm)) H':=g3;refine⟨?_,Y.rmE⟩;have er:hH ((oU caps cs (oF caps C)).zip U++(oJ h I++Tm))=hH ((oU caps cs (oF caps C)).zip U++Tm):=by
     have:hH (oJ h I)=[]:=by
      refine gF.mpr λa ha=>?_
      obtain⟨q,hq,e⟩:=sP.mp ha;obtain⟨p,_,rfl⟩:=aD.mp hq;cases e
     rw[pV,pV,pV,this,fW]
    have key:∀ p∈oJ h I,qV K (Al (mB B D I) (hH ((oU caps cs (oF caps C)).zip U++Tm))) H' p.1 p.2:=λp hp=>by
     have:=Y.ok p (by simp[hp]);rw[er] at this;exact this
    clear g1 g2 g3 Y er N ez es;revert key z;generalize Al (mB B D I) (hH ((oU caps cs (oF caps C)).zip U++Tm))=AA;intro z key;exact Rs z key
   have u:=DS.unpin rr.2 rr.1 f1 f2;rw[Zk caps cs C G ac] at u;exact k _ _ _ H' (by rw[Mp];exact l1) u.mid (fin h cs G pv)
theorem K6 {K:kQ}(o:j.Nodup) (h:dE K (wS T.length j ι g U I) C H Q) :
  Bw T j (dI K ι) (dG K T.length g) (rC K U) (dE K I) C H Q:=by
 obtain⟨B,R,Tm,Φ,A,hd,G,k⟩:=h;refine⟨B,R,Tm,_,A,hd,G,λJ W S E V L d1 Y z D u=>I3 o (Tm:=E++Tm) L d1 (λi P s M H w d=>?_) z (λr c v m l d h=>k r c v m l (by
  have:DS K B ((c.zip C++[(r,some v)])++(E++Tm)) m:=by simpa using d
  simpa using this.rmE) h) u⟩
 have a:xR K (Al (mB B D P) (hH (s++M))) H E:=λq F=>d.ok q (by simp[w q (by simp[F])])
 refine⟨λb=>Y.go i H _ b a,λb=>Y.stop i H _ b a,λx n b y=>?_⟩;obtain⟨t,e,alt⟩:=Y.yld i H _ x n b a y;refine⟨t,e,?_⟩;rcases alt with⟨rfl,O⟩ | ⟨p,Z,vs,f,rfl,rfl,rfl,N⟩
 .exact d.push O
 .exact d.tup f N
theorem mF {iter:Expr}(T o:Aa Af) (r:Aa Nat) (hi:zJ X tg iter ι)
  (hg:∀ p l C I J,uH (qA X (T++o) j I C p l J) T.length tg g)
  (he:∀ p l C I J,PD (qA X (T++o) j I C p l J) aa te)
  (ht:∀ p l C I J,tN (qA X (T++o) j I C p l J) ab (rC X.K tt):=by exact λ_ _ _ _ _=>Bu) (hc:X.calm=true:=by rfl) (hk:j.kind = .function:=by rfl) (ho:zX X.N X.env.kindOf j T o r=true:=by rfl) (U:r.Nodup:=by decide) (hs:∀ x,foldedSetIterable iter X.env x=pure x:=by intro _;rfl):PD X (.ListComp aa [⟨tg,iter,ab,0⟩] j pos) (wS T.length r ι g tt te) :=
 (C8 T o r hc hi hk ho hg ht he hs).mono λ_ _ _ h=>K6 U h
theorem vJ (i:Nat){iter:Expr}(T o:Aa Af) (I:Aa Nat) (hN:X.N.Nodup) (hi:zJ X tg iter ι) (hg:∀ p l C J fp,uH (qA X (T++o) j J C p l fp) T.length tg g)
  (he:∀ p l C J fp,PD (qA X (T++o) j J C p l fp) U te)
  (ht:∀ p l C J fp,tN (qA X (T++o) j J C p l fp) ab (rC X.K tt):=by exact λ_ _ _ _ _=>Bu) (hc:X.calm=true:=by rfl) (hk:j.kind = .function:=by rfl) (ho:zX X.N X.env.kindOf j T o I=true:=by rfl) (af:X.N[i]?=some x:=by rfl) (hx:rG X.env.scope x:=by first | exact Or.inl rfl | exact Or.inr rfl) (aa:I.Nodup:=by decide)
  (ag:swapsWith (.ListComp U [⟨tg,iter,ab,0⟩] j pos) (some (.Name x ac)) ae.line X.env=pure true:=by rfl)
  (hs:∀ x,foldedSetIterable iter X.env x=pure x:=by intro _;rfl)
  (hf:X.fn x=true\/X.env.scope.names.lookup x=some .local:=by first | exact .inl rfl | exact .inr rfl | assumption) :
  rE X (.Assign [.Name x ac] (.ListComp U [⟨tg,iter,ab,0⟩] j pos) ae) (mV i (wS T.length I ι g tt te)) :=
 (Ue T o I hN af hx hc hi hk ho hg ht he ag hs hf).mono λn q H a=>a.elim λB h Tm m e hd ht f=>K6 aa ⟨B,h,Tm,_,e,hd,ht,λr k v c b d1 d=>(f.1 _ _ c (by rw[bY,bY];exact b) (bY ..) (d1.assign b i)).1 d⟩
end
section
variable {X:Cx}{K:kQ}
theorem rK (h:Peeks K A H [d] g):∃ x,g=[x]/\mE K A H d x:=by
 cases h with | cons h r=>cases r;exact⟨_,rfl,h⟩
theorem Bp (h:Peeks K A H [d,e] j):∃ x y,j=[x,y]/\mE K A H d x/\mE K A H e y:=by
 cases h with | cons h r=>cases r with | cons g r=>cases r;exact⟨_,_,rfl,h,g⟩
def GR:D->Ab Nat
 | .l a=>some a.length
 | .t a=>some a.length
 | .con a=>some a.length
 | .c a=>some a.length
 | .str z=>some z.length
 | .k b=>some b.length
 | _=>none
def FF:OC:=λa b=>match a with
 | [d]=>Hh d=true/\∃ n,GR d=some n/\b (.v (.int n))
 | _=>False
def Pl (K:kQ):Aa V->Hp->VK->Prop:=λc H Q=>(∃ p d,c=[.ref p]/\(lG K H p d\/lR K H p d)/\Q (.int d.length) H)\/(∃ z,c=[.str z]/\z.length<=sizeLine/\Q (.int z.length) H)\/∃ a b,c=[V.ref a]/\Rd H a (.k b)/\Q (.int b.length) H
theorem pJ:mZ X (.builtin "len") (Pl X.K):=AG.or (Kz.or Xh)
theorem pN:qD K (Pl K) FF:=by
 intro B L H m t u Q hd q i k;cases m with
 | nil=>exact False.elim i
 | cons d m =>
 cases m with
 | cons _ _=>exact False.elim i
 | nil =>
 obtain⟨x,rfl,f⟩:=rK q;obtain⟨s,n,c,i⟩:=i;have fin:Q (.int n) H:=k _ _ H i (hd.pushF (.int _));cases d<;>first | (cases c;done) | skip
 .cases c;have:=f.str_inv;subst this;exact .inr (.inl ⟨_,rfl,wM (cR s),fin⟩)
 .cases c;obtain⟨a,b,rfl,h,r⟩:=f.tup_inv;exact .inl ⟨a,b,rfl,.inr (lR.of h),by rw[<- r.length];exact fin⟩
 .cases c;obtain⟨a,b,rfl,h,r⟩:=f.lst_inv;exact .inl ⟨a,b,rfl,.inl (lG.of h),by rw[<- r.length];exact fin⟩
 .cases c;obtain⟨a,b,rfl,h,e,r⟩:=f.dK_inv;refine .inr (.inr ⟨a,b,rfl,h,?_⟩);have:=cL List.length e;rw[aA,aA] at this;rw[<- this];exact fin
 .cases c;obtain⟨a,b,rfl,h,r⟩:=f.scr_inv;exact .inl ⟨a,b,rfl,.inl h.sqL,by rw[<- r.length];exact fin⟩
 .cases c;obtain⟨a,b,rfl,h,r⟩:=f.con_inv;exact .inl ⟨a,b,rfl,.inr h.sqT,by rw[<- r.length];exact fin⟩
noncomputable def xF:Aa D->Ab (Aa Int)
 | []=>some []
 | .int i::a=>(xF a).map (i::·)
 | _=>none
theorem Jr:∀ (g:Aa Int),xF (g.map D.int)=some g
 | []=>rfl
 | n::g=>by
  show (xF (g.map D.int)).map (n::·)=_;rw[Jr g];rfl
theorem J0 (h:xF j=some l) (g:Reps K A H j o):o=l.map V.int:=by
 induction j generalizing l o with
 | nil=>cases g;cases h;rfl
 | cons d j b =>
  cases g with
  | cons r g =>
  cases d with
  | int i =>
   obtain⟨c,a,rfl⟩:=cK.mp h;rw[r.int_inv,b a g];rfl
  | _=>cases h
def AJ:OC:=λb d=>match b with
 | [.l c]=>∃ a,xF c=some a/\d (.v (.int a.sum))
 | _=>False
theorem C0:qD K (λj H Q=>∃ (p:Ad) (g:Aa Int),j=[.ref p]/\lG K H p (g.map V.int)/\Q (.int g.sum) H) AJ:=by
 intro B L H c j n Q hd f b k;cases c with
 | nil=>exact False.elim b
 | cons d c =>
 cases d<;>first | exact False.elim b | skip
 cases c with
 | cons _ _=>exact False.elim b
 | nil =>
 obtain⟨x,rfl,i⟩:=rK f;obtain⟨g,e,b⟩:=b;obtain⟨a,m,rfl,h,r⟩:=i.lst_inv;rw[J0 e r] at h;exact⟨a,g,rfl,lG.of h,k _ _ H b (hd.pushF (.int _))⟩
def G9:OC:=λd c=>match d with
 | [.l e]=>∃ b,xF e=some b/\b≠[]/\∀ m:Int,m∈b->(∀ a∈b,m<=a)->c (.v (.int m))
 | [.int i,.int j]=>∀ m:Int,(m=i\/m=j)->m<=i->m<=j->c (.v (.int m))
 | _=>False
def Xt:OC:=λd c=>match d with
 | [.l e]=>∃ b,xF e=some b/\b≠[]/\∀ m:Int,m∈b->(∀ a∈b,a<=m)->c (.v (.int m))
 | [.int i,.int j]=>∀ m:Int,(m=i\/m=j)->i<=m->j<=m->c (.v (.int m))
 | _=>False
def Gy (K:kQ):Aa V->Hp->VK->Prop:=λc H Q=>(∃ (p:Ad) (b:Aa Int),c=[.ref p]/\lG K H p (b.map V.int)/\b≠[]/\∀ m:Int,m∈b->(∀ a∈b,m<=a)->Q (.int m) H)\/∃ i j,c=[.int i,.int j]/\Q (.int (if j<i then j else i)) H
def Qg (K:kQ):Aa V->Hp->VK->Prop:=λc H Q=>(∃ (p:Ad) (b:Aa Int),c=[.ref p]/\lG K H p (b.map V.int)/\b≠[]/\∀ m:Int,m∈b->(∀ a∈b,a<=m)->Q (.int m) H)\/∃ i j,c=[.int i,.int j]/\Q (.int (if j>i then j else i)) H
theorem AN (g:X.calm=true):mZ X (.builtin "min") (Gy X.K):=(Yk g).or (DA g)
theorem Iw (g:X.calm=true):mZ X (.builtin "max") (Qg X.K):=(Ya g).or (Vh g)
theorem DJ:qD K (Gy K) G9:=by
 intro B L H c A D Q hd n b k;cases c with
 | nil=>exact False.elim b
 | cons d c =>
 cases d<;>first | exact False.elim b | skip
 .cases c with
  | nil=>exact False.elim b
  | cons e c =>
  cases e<;>first | exact False.elim b | skip
  cases c with
  | cons _ _=>exact False.elim b
  | nil =>
  obtain⟨x,y,rfl,f,py⟩:=Bp n;have:=f.int_inv;have:=py.int_inv;subst_vars
  rename_i i j
  refine .inr ⟨_,_,rfl,?_⟩;by_cases z:j<i
  .rw[aZ z];exact k _ _ H (b _ (.inr rfl) (by omega) (by omega)) (hd.pushF (.int _))
  .rw[aK z];exact k _ _ H (b _ (.inl rfl) (by omega) (by omega)) (hd.pushF (.int _))
 .cases c with
  | cons _ _=>exact False.elim b
  | nil =>
  obtain⟨x,rfl,f⟩:=rK n;obtain⟨v,u,q,b⟩:=b;obtain⟨a,w,rfl,h,r⟩:=f.lst_inv;rw[J0 u r] at h;exact .inl ⟨a,v,rfl,lG.of h,q,λm s t=>k _ _ H (b m s t) (hd.pushF (.int _))⟩
theorem Hu:qD K (Qg K) Xt:=by
 intro B L H c A D Q hd n b k;cases c with
 | nil=>exact False.elim b
 | cons d c =>
 cases d<;>first | exact False.elim b | skip
 .cases c with
  | nil=>exact False.elim b
  | cons e c =>
  cases e<;>first | exact False.elim b | skip
  cases c with
  | cons _ _=>exact False.elim b
  | nil =>
  obtain⟨x,y,rfl,f,py⟩:=Bp n;have:=f.int_inv;have:=py.int_inv;subst_vars
  rename_i i j
  refine .inr ⟨_,_,rfl,?_⟩;by_cases z:j>i
  .rw[aZ z];exact k _ _ H (b _ (.inr rfl) (by omega) (by omega)) (hd.pushF (.int _))
  .rw[aK z];exact k _ _ H (b _ (.inl rfl) (by omega) (by omega)) (hd.pushF (.int _))
 .cases c with
  | cons _ _=>exact False.elim b
  | nil =>
  obtain⟨x,rfl,f⟩:=rK n;obtain⟨v,u,q,b⟩:=b;obtain⟨a,w,rfl,h,r⟩:=f.lst_inv;rw[J0 u r] at h;exact .inl ⟨a,v,rfl,lG.of h,q,λm s t=>k _ _ H (b m s t) (hd.pushF (.int _))⟩
def M6:D->Ab (Aa D)
 | .l a=>some a
 | .t a=>some a
 | .con a=>some a
 | .c a=>some a
 | _=>none
theorem Xx (h:M6 d=some j) (p:mE K A H d x):∃ a g,x = .ref a/\(lG K H a g\/lR K H a g)/\Reps K A H j g:=by
 cases d<;>cases h
 .obtain⟨a,g,rfl,h,r⟩:=p.tup_inv;exact⟨a,g,rfl,.inr (lR.of h),r⟩
 .obtain⟨a,g,rfl,h,r⟩:=p.lst_inv;exact⟨a,g,rfl,.inl (lG.of h),r⟩
 .obtain⟨a,g,rfl,h,r⟩:=p.scr_inv;exact⟨a,g,rfl,.inl h.sqL,r⟩
 .obtain⟨a,g,rfl,h,r⟩:=p.con_inv;exact⟨a,g,rfl,.inr h.sqT,r⟩
def Uk:OC:=λb c=>match b with
 | [d]=>∃ a,M6 d=some a/\c (.o (.l a))
 | _=>False
theorem zU:qD K (λg H Q=>∃ p j,g=[.ref p]/\(lG K H p j\/lR K H p j)/\∀ l,H l=none->Q (.ref l) (upd H l (.l j))) Uk:=by
 intro B L H c g q Q hd f b k;cases c with
 | nil=>exact False.elim b
 | cons d c =>
 cases c with
 | cons _ _=>exact False.elim b
 | nil =>
 obtain⟨x,rfl,m⟩:=rK f;obtain⟨g,i,b⟩:=b;obtain⟨a,n,rfl,h,r⟩:=Xx i m;exact⟨a,n,rfl,h,λl e=>k _ _ _ b (hd.lstF e r)⟩
def Wh:OC:=λc b=>match c with
 | [.l a]=>b (.v (.t a))
 | [.t a]=>b (.v (.t a))
 | _=>False
theorem pM:qD K (λj H Q=>∃ p g,j=[.ref p]/\((lG K H p g/\∀ l,H l=none->Q (.ref l) (upd H l (.t g)))\/(lR K H p g/\Q (.ref p) H))) Wh:=by
 intro B L H e j q Q hd m b k;cases e with
 | nil=>exact False.elim b
 | cons d e =>
 cases d<;>first | exact False.elim b | skip<;>cases e<;>first | exact False.elim b | skip
 .obtain⟨x,rfl,c⟩:=rK m;have f:=c;obtain⟨a,i,rfl,h,r⟩:=c.tup_inv;exact⟨a,i,rfl,.inr ⟨lR.of h,k _ _ _ b (hd.pushF f)⟩⟩
 .obtain⟨x,rfl,c⟩:=rK m;obtain⟨a,i,rfl,h,r⟩:=c.lst_inv;exact⟨a,i,rfl,.inl ⟨lG.of h,λl n=>k _ _ _ b (hd.tupF n r)⟩⟩
def oK:Aa D->Ab (Aa (fS×D))
 | []=>some []
 | .t [k,d]::a=>match qW k,oK a with
  | some k,some r=>some ((k,d)::r)
  | _,_=>none
 | _=>none
theorem qB {l:Type}{f:l->D}{g:l->fS×D}(h:∀ x,∃ k,f x = .t [k,(g x).2]/\qW k=some (g x).1):∀ j:Aa l,oK (j.map f)=some (j.map g)
 | []=>rfl
 | x::j=>by
  obtain⟨k,a,b⟩:=h x;rw[bH,a];show (match qW k,oK (j.map f) with | some k,some r=>some ((k,(g x).2)::r) | _,_=>none)=_;rw[b,qB h j];rfl
def oY (g more:Aa (fS×D)):Aa (fS×D):=more.foldl (λa b=>nN a b.1 b.2) g
theorem EV (h:oK l=some j) (o:Reps K A H l C):∃ (p:Aa Ad) (g:Aa (fS×V)),C=p.map V.ref/\B7 H p g/\j.map (·.1)=g.map (·.1)/\Reps K A H (j.map (·.2)) (g.map (·.2)):=by
 induction l generalizing j C with
 | nil=>cases o;cases h;exact⟨[],[],rfl,.nil,rfl,.nil⟩
 | cons d l t =>
  cases o with
  | cons r o =>
  cases d<;>first | (cases h;done) | skip
  rename_i x
  rcases x with _ | ⟨k,_ | ⟨e,_ | ⟨_,_⟩⟩⟩<;>first | (cases h;done) | skip
  .have h:=(show (match qW k,oK l with | some k,some r=>some ((k,e)::r) | _,_=>none)=some j from h);cases c:qW k with
   | none=>rw[c] at h;cases h
   | some u =>
    cases f:oK l with
    | none=>rw[c,f] at h;cases h
    | some y =>
     rw[c,f] at h;cases h;obtain⟨a,z,rfl,s,b⟩:=r.tup_inv;obtain⟨p,g,i,m,n,q⟩:=t f o;cases b with
     | cons v b =>
      cases b with
      | cons w b =>
       cases b;have:=Bt c v.peek;subst this;exact⟨a::p,(u,_)::g,by rw[i];rfl,.cons s m,by rw[bH,bH,n],.cons w q⟩
theorem Ap:∀ {more:Aa (fS×D)}{mv:Aa (fS×V)}{kvs:Aa (fS×D)}{vs:Aa (fS×V)},more.map (·.1)=mv.map (·.1)->Reps K A H (more.map (·.2)) (mv.map (·.2))->kvs.map (·.1)=vs.map (·.1)->Reps K A H (kvs.map (·.2)) (vs.map (·.2)) ->
  (oY kvs more).map (·.1)=(pD vs mv).map (·.1)/\Reps K A H ((oY kvs more).map (·.2)) ((pD vs mv).map (·.2))
 | [],[],_,_,_,_,e,r=>⟨e,r⟩
 | [],_::_,_,_,e,_,_,_=>by simp at e
 | _::_,[],_,_,e,_,_,_=>by simp at e
 | (k,d)::more,(j,v)::mv,kvs,vs,a,b,e,r=>by
  simp only[bH,eV] at a;obtain⟨rfl,a⟩:=a;cases b with
  | cons h b =>
   obtain⟨c,f⟩:=Iv e r (k:=k) h;exact Ap (more:=more) (mv:=mv) a b c f
def S9:OC:=λc b=>match c with
 | [.k a]=>b (.o (.k a))
 | [.l d]=>∃ a,oK d=some a/\a.length<=1000/\b (.o (.k (oY [] a)))
 | _=>False
def K9 (K:kQ):Aa V->Hp->VK->Prop:=λe H Q=>(∃ (a:Ad) (b:Aa (fS×V)),e=[.ref a]/\Rd H a (.k b)/\∀ p,H p=none->Q (.ref p) (upd H p (.k b))) \/
 ∃ (p:Ad) (c:Aa Ad) (b:Aa (fS×V)),e=[.ref p]/\lG K H p (c.map V.ref)/\B7 H c b/\b.length<=1000/\∀ d,H d=none->Q (.ref d) (upd H d (.k (pD [] b)))
theorem pU (g:X.calm=true):mZ X (.type "dict") (K9 X.K):=Wd.or (DR g)
theorem pR:qD K (K9 K) S9:=by
 intro B L H i E F Q hd c b k;cases i with
 | nil=>exact False.elim b
 | cons d i =>
 cases d<;>first | exact False.elim b | skip<;>cases i<;>first | exact False.elim b | skip
 .obtain⟨x,rfl,n⟩:=rK c;obtain⟨w,v,D,b⟩:=b;obtain⟨a,s,rfl,h,r⟩:=n.lst_inv;obtain⟨A,f,rfl,t,q,u⟩:=EV v r;obtain⟨y,z⟩:=Ap (kvs:=[]) (vs:=[]) q u rfl .nil;have m:f.length<=1000:=by
   have:=cL List.length q;simp only[aA] at this;omega
  exact .inr ⟨a,A,f,rfl,lG.of h,t,m,λp c=>k _ _ _ b (hd.dKF c y z)⟩
 .obtain⟨x,rfl,n⟩:=rK c;obtain⟨a,s,rfl,h,e,r⟩:=n.dK_inv;exact .inl ⟨a,s,rfl,h,λp c=>k _ _ _ b (hd.dKF c e r)⟩
def Gh:OC:=λc a=>match c with
 | [.int i]=>a (.v (.int i))
 | [.b b]=>a (.v (.int (if b then 1 else 0)))
 | _=>False
theorem HP:qD K (λg H Q=>(∃ i,g=[.int i]/\Q (.int i) H)\/∃ k,g=[.b k]/\Q (.int (if k then 1 else 0)) H) Gh:=by
 intro B L H c g h Q hd f a k;cases c with
 | nil=>exact False.elim a
 | cons d c =>
 cases d<;>first | exact False.elim a | skip<;>cases c<;>first | exact False.elim a | skip
 .obtain⟨x,rfl,e⟩:=rK f;have:=e.bl_inv;subst this;exact .inr ⟨_,rfl,k _ _ H a (hd.pushF (.int _))⟩
 .obtain⟨x,rfl,e⟩:=rK f;have:=e.int_inv;subst this;exact .inl ⟨_,rfl,k _ _ H a (hd.pushF (.int _))⟩
noncomputable def uX:Aa D->Ab (Aa Bool)
 | []=>some []
 | .b b::a=>(uX a).map (b::·)
 | _=>none
theorem Nr:∀ (g:Aa Bool),uX (g.map D.b)=some g
 | []=>rfl
 | n::g=>by rw[bH,uX,Nr g];rfl
theorem Z0 (h:uX g=some j) (r:Reps K A H g l):l=j.map V.b:=by
 induction g generalizing j l with
 | nil=>cases r;simp only[uX,kG] at h;subst h;rfl
 | cons d g c =>
  cases r with
  | cons r e =>
  cases d with
  | b i =>
   simp only[uX,cK] at h;obtain⟨f,a,rfl⟩:=h;rw[r.bl_inv,c a e];rfl
  | _=>simp[uX] at h
def Uq:OC:=λa d=>match a with
 | [.l c]=>∃ bs,uX c=some bs/\d (.v (.b (bs.all id)))
 | _=>False
theorem V3:qD K (P2 K) Uq:=by
 intro B L H e s t Q hd i c k;cases e with
 | nil=>exact False.elim c
 | cons d e =>
  cases e with
  | cons _ _=>cases d<;>exact False.elim c
  | nil =>
   cases d<;>first | exact False.elim c | skip
   obtain⟨x,rfl,n⟩:=rK i;obtain⟨m,f,c⟩:=c;obtain⟨a,q,rfl,h,r⟩:=n.lst_inv;rw[Z0 f r] at h;exact⟨a,m,rfl,lG.of h,k _ _ H c (hd.pushF (.b _))⟩
end
def Hy (T:String):D->Bool
 | .str _=>T == "str"
 | .l _=>T == "list"
 | .c _=>T == "list"
 | .k _=>T == "dict"
 | _=>false
section
variable {X:Cx}{K:kQ}
theorem Ub (h:Hy T d=true) (p:mE K A H d x):Cv K T x H:=by
 cases d<;>first | (cases h;done) | skip
 all_goals (have h:=eq_of_beq h;subst h)
 .have:=p.str_inv;subst this;rfl
 .obtain⟨a,b,rfl,h,r⟩:=p.lst_inv;exact .inl ⟨rfl,b,lG.of h⟩
 .obtain⟨a,b,rfl,h,e,r⟩:=p.dK_inv;exact .inr (.inr (.inl ⟨rfl,.inl ⟨b,h⟩⟩))
 .obtain⟨a,b,rfl,h,r⟩:=p.scr_inv;exact .inl ⟨rfl,b,h.sqL⟩
abbrev OM:=D->Aa D->(Sl->Prop)->Prop
abbrev RM:=V->Aa V->Hp->VK->Prop
def JM (T:String) (f:OM) (i:Nat) (g:rT):lP:=λc b h=>(match at? b i with | some d=>Hy T d=true | none=>False)/\g c b λas a=>match at? a i,uM a as with
 | some d,some e=>f d e λs=>h s a
 | _,_=>False
variable {id:String}
abbrev OW:=D->Aa D->(D->D->Prop)->Prop
def yN (K:kQ) (r:RM) (f:OW):Prop:=∀ (A:Ad->Prop) (H:Hp) (a:Ad) (c:D) (h:Aa D) (i:Aa V) (k:D->D->Prop) (Q:VK),¬ A a->nU K A H a c->Reps K A H h i->f c h k ->
 (∀ d v o e,k d e->Rep K A H d v->(∀ b,Kp A b H (upd H a o)->nU K b (upd H a o) a e)->Q v (upd H a o))->r (.ref a) i H Q
def dW (T:String) (f:OW) (i:Nat) (g:rT):lP:=λh b m=>(match at? b i with | some d=>Hy T d=true | none=>False)/\g h b λas a=>match a[i]?,vY as with
 | some (.o c),some k=>f c k λd e=>m (.v d) (a.set i (.o e))
 | _,_=>False
theorem S2 {f:OW}(C:yN X.K r f){g:St}{H:Hp}{Q:VK}(h:dE X.K (dW T f i ta) g H Q):pA i g H λx l=>Cv X.K T x l/\dA X.K ta g l λxs j=>r x xs j Q:=by
 obtain⟨B,Y,Tm,Φ,S,hd,⟨A,J⟩,k⟩:=h;cases F:at? Y i with
 | none=>rw[F] at A;exact A.elim
 | some d0 =>
  rw[F] at A;obtain⟨x,t,px⟩:=hd.peek S F;refine⟨x,t,Ub A px,B,Y,Tm,_,S,hd,J,λas e vs j D ok d2 b=>?_⟩;cases m:e[i]? with
  | none=>rw[m] at b;exact b.elim
  | some s =>
   cases s with
   | n=>rw[m] at b;exact b.elim
   | v c=>rw[m] at b;exact b.elim
   | o c =>
    cases G:vY as with
    | none=>rw[m,G] at b;exact b.elim
    | some P =>
     rw[m,G] at b;have O:=d2.temps ok P G;have Z:=d2.rmArgs;obtain⟨a,R,W,wr⟩:=Z.slotW D m;rw[t] at R;cases R;obtain⟨u,U,tu⟩:=W.some;have V:¬ Al B (hH (e.zip g++Tm)) a:=λz=>z.2.1 (by
      obtain⟨l1,y,N,w,_,L,_⟩:=uA D m;rw[t] at w;cases w;rw[L,bB,cQ,qP];exact aJ _ aT)
     refine C _ j a c P vs _ Q V W O b λd v o E M rd I=>k _ _ v _ (by rw[bY];exact D) ?_ M
     refine (wr o E I).push ?_;have p:hH ((e.set i (.o E)).zip g++Tm)=hH (e.zip g++Tm):=by
      obtain⟨l1,y,N,w,_,L,q⟩:=uA D m;rw[t] at w;cases w;have:=q (.o E) (some (.ref a));rw[Ak t] at this;rw[this,L,bB,bB,cQ,cQ,qP,qP];rfl
     rw[p];exact rd.mono (.write U tu V)
theorem qE {f:OW}(pa:PlainAttrs T) (slot:Slot T name id) (j:typeOf (.builtin id)=pure (.type "method_descriptor")) (J:Fl X id r) (I:yN X.K r f) (U:PE X o (pA i)) (p:rQ X (e::l) ta)
  (C:MtB X o name apos e l g:=by exact {}) :
  PD X (.Call (.Attribute o name apos) (e::l) [] g) (dW T f i ta):=(U3 pa slot j J U p C).mono λ_ _ _ h=>S2 I h
noncomputable def AW:OW:=λc b f=>match c,b with
 | .l a,[d]=>a.length<100000/\f .e (.l (a++[d]))
 | _,_=>False
theorem tX:yN K Np AW:=by
 intro A H a c q s t Q _ i rd b k;cases c<;>first | exact False.elim b | skip
 cases rd with
 | nil=>exact False.elim b
 | cons f rd =>
 cases rd with
 | cons _ _=>exact False.elim b
 | nil =>
 .obtain⟨m,h,r⟩:=i
  .refine⟨a,m,_,rfl,rfl,h,bR (by rw[<- r.length];exact b.1) (by decide),k _ _ _ _ b.2 .e λn d=>⟨_,nM,(r.append (.cons f .nil)).mono d⟩⟩
def Sr:OW:=λc b d=>match c,b with
 | .l a,[.int i]=>∃ k y,-(2 ^ 63)<=i/\i<2 ^ 63/\seqIndex? i a.length=some k/\a[k]?=some y/\d y (.l (a.eraseIdx k))
 | _,_=>False
theorem Mc:yN K L3 Sr:=by
 intro A H a c z B D Q _ t rd b k;cases c<;>first | exact False.elim b | skip
 cases rd with
 | nil=>exact False.elim b
 | cons s rd =>
 rename_i d _ _ _
 cases d<;>first | exact False.elim b | skip
 cases rd with
 | cons _ _=>exact False.elim b
 | nil =>
 .obtain⟨w,h,r⟩:=t
  .have:=s.int_inv;subst this;obtain⟨j,y,e,f,i,m,b⟩:=b;obtain⟨v,n,u⟩:=r.get m;exact⟨a,w,_,j,v,rfl,rfl,h,e,f,by rw[<- r.length];exact i,n,k _ _ _ _ b u λx q=>⟨_,nM,(r.erase j).mono q⟩⟩
def Z7:D->Bool
 | .k _=>true
 | .T _=>true
 | _=>false
def To (i:Nat) (ty g:lP):lP:=λc e m=>(match at? e i with | some d=>Z7 d=true | none=>False)/\ty c e λf b=>g c b λh a=>match at? a i,sd f,sd h with
 | some d,some k,some x=>∃ o,wY d k=some o/\m (.v (o.getD x)) a
 | _,_,_=>False
theorem Ot (U:X.A.units+1<cLine) (l:PE X o (pA i)) (I:PD X k ty) (J:PD X x tx) (m:M2 X o "get" apos k x j:=by exact⟨rfl,rfl,rfl,rfl⟩):PD X (.Call (.Attribute o "get" apos) [k,x] [] j) (To i ty tx) :=
 (Uu U l I J m).mono λσ H Q E=>E.elim λB W Tm Φ N hd ⟨t,T⟩ k=>by
  cases u:at? W i with
  | none=>rw[u] at t;exact t.elim
  | some Z =>
   rw[u] at t;obtain⟨x,O,R⟩:=hd.peek N u;obtain⟨a,rfl,F⟩:∃ a,x = .ref a/\Hb H a:=by
    cases Z<;>first | (cases t;done) | skip
    .obtain⟨a,L,rfl,h,e,r⟩:=R.dK_inv;exact⟨a,rfl,.inl ⟨L,h⟩⟩
    .obtain⟨a,L,rfl,h,e,r⟩:=R.dT_inv;exact⟨a,rfl,.inr ⟨L,h⟩⟩
   refine⟨.ref a,O,a,rfl,F,B,W,Tm,_,N,hd,T,λV M y H1 l1 d1 C=>⟨B,M,(V,some y)::Tm,_,l1,d1,C,λrx q z Y P d2 b=>?_⟩⟩;cases f:at? q i with
   | none=>rw[f] at b;exact b.elim
   | some d =>
    cases s:sd V with
    | none=>rw[f,s] at b;exact b.elim
    | some kk =>
     cases D:sd rx with
     | none=>rw[f,s,D] at b;exact b.elim
     | some xx =>
      rw[f,s,D] at b;obtain⟨oo,l,b⟩:=b;obtain⟨S,q2,q3⟩:=d2.two s D;obtain⟨x',n,G⟩:=S.peek P f;rw[O] at n;cases n;obtain⟨a',w,p,g,g1,g2⟩:=Hj l G q2.peek;cases p;refine⟨w,g,k _ q _ Y P (S.push ?_) b⟩;cases oo with
      | none=>rw[g2 rfl];exact q3
      | some c=>obtain⟨v,rfl,rv⟩:=g1 c rfl;exact rv
def Cp:Aa D->Ab (Aa Af)
 | []=>some []
 | .str b::a=>(Cp a).map (b::·)
 | _=>none
theorem Fp:∀ (g:Aa Af),Cp (g.map D.str)=some g
 | []=>rfl
 | n::g=>by
  show (Cp (g.map D.str)).map (n::·)=_;rw[Fp g];rfl
theorem Ou (h:Cp j=some l) (g:Reps K A H j o):o=l.map V.str:=by
 induction j generalizing l o with
 | nil=>cases g;cases h;rfl
 | cons d j b =>
  cases g with
  | cons r g =>
  cases d with
  | str i =>
   obtain⟨c,a,rfl⟩:=cK.mp h;rw[r.str_inv,b a g];rfl
  | _=>cases h
theorem Pu:∀ (g:Aa Int),Reps K A H (g.map D.int) (g.map V.int)
 | []=>.nil
 | y::g=>.cons (.int y) (Pu g)
end
section
variable {X:Cx}
theorem hB (o:X.A.units+1<cLine) (i:Nat) (j:PD X b p) (g:PE X a (pA i):=by exact pv _) (l:xI b:=by exact λ_ _=>rfl):PD X (.Subscript a b pos) (xA wT i p) :=
 (Nb (Of o) g j l).mono λ_ _ _ h=>Fg Ml h
end
section
variable {X:Cx}{K:kQ}
theorem FZ (l:X.calm=true):mZ X (.builtin "min") (λg H Q=>∃ i j k,g=[.int i,.int j,.int k]/\∀ m:Int,(m=i\/m=j\/m=k)->m<=i->m<=j->m<=k->Q (.int m) H):=by
 intro f s A H g F Q I r h;obtain⟨i,j,k,rfl,q⟩:=h;cases r with
 | cons y r =>
  obtain⟨v,u,rfl,⟨D,rfl⟩,⟨E,rfl⟩⟩:=yV r;obtain⟨B,rfl⟩:=y;refine min_three_ints (I.ok.hd l) λw z x=>?_
  have fin:∀ (m:Int) (t:Tok),(m=i\/m=j\/m=k)->m<=i->m<=j->m<=k->EP X f A Q (.int m t) { s with heap:=w,toks:=z }:=λm t a b c d=>⟨.int m,H,I.kept x,⟨t,rfl⟩,q m a b c d⟩
  by_cases n:j<i
  .rw[aZ n];by_cases e:k<j
   .rw[aZ e];exact fin _ _ (.inr (.inr rfl)) (by omega) (by omega) (by omega)
   .rw[aK e];exact fin _ _ (.inr (.inl rfl)) (by omega) (by omega) (by omega)
  .rw[aK n];by_cases e:k<i
   .rw[aZ e];exact fin _ _ (.inr (.inr rfl)) (by omega) (by omega) (by omega)
   .rw[aK e];exact fin _ _ (.inl rfl) (by omega) (by omega) (by omega)
def Il (K:kQ):Aa V->Hp->VK->Prop:=λa H Q=>Gy K a H Q\/∃ i j k,a=[.int i,.int j,.int k]/\∀ m:Int,(m=i\/m=j\/m=k)->m<=i->m<=j->m<=k->Q (.int m) H
theorem Hd (g:X.calm=true):mZ X (.builtin "min") (Il X.K):=(AN g).or (FZ g)
def FV:OC:=λa b=>match a with
 | [.int i,.int j,.int k]=>∀ m:Int,(m=i\/m=j\/m=k)->m<=i->m<=j->m<=k->b (.v (.int m))
 | a=>G9 a b
theorem Jl:qD K (Il K) FV:=by
 intro B L H i n q Q hd h f k;have two:G9 i q->Il K n H Q:=λf=>.inl (DJ B L H _ n q Q hd h f k)
 rcases i with _ | ⟨d,_ | ⟨e,_ | ⟨g,_ | ⟨_,_⟩⟩⟩⟩
 .exact two f
 .cases d<;>exact two f
 .cases d<;>first | exact two f | (cases e<;>exact two f)
 .cases d<;>first | exact two f | skip
  cases e<;>first | exact two f | skip
  cases g<;>first | exact two f | skip
  cases h with
  | cons s h =>
   obtain⟨x,y,rfl,t,py⟩:=Bp h;have:=s.int_inv;have:=t.int_inv;have:=py.int_inv;subst_vars;exact .inr ⟨_,_,_,rfl,λm a b c d=>k _ _ H (f m a b c d) (hd.pushF (.int _))⟩
 .cases d<;>first | exact two f | (cases e<;>first | exact two f | (cases g<;>exact two f))
noncomputable def Ik:D->Ab String
 | .e=>some "NoneType"
 | .b _=>some "bool"
 | .int _=>some "int"
 | .str _=>some "str"
 | .l _=>some "list"
 | .t _=>some "tuple"
 | .k _=>some "dict"
 | _=>none
theorem HJ (h:Ik d=some n) (p:mE K A H d x):TyOf K H x (.type n):=by
 cases d<;>simp only[Ik,reduceCtorEq,kG] at h<;>subst h
 .have:=p.non_inv;subst this;exact .e
 .have:=p.bl_inv;subst this;exact .b _
 .have:=p.int_inv;subst this;exact .int _
 .have:=p.str_inv;subst this;exact .str _
 .obtain⟨a,c,rfl,h,r⟩:=p.tup_inv;exact .t h
 .obtain⟨a,c,rfl,h,r⟩:=p.lst_inv;exact .l h
 .obtain⟨a,c,rfl,h,e,r⟩:=p.dK_inv;exact .k h
def HX (K:kQ):OC:=λa e=>match a with
 | [d,.r (.ty c)]=>∃ n b,Ik d=some n/\PySem.W.kitOne K (.type n) (.type c)=some b/\e (.v (.b b))
 | _=>False
theorem IU:qD K (Md K) (HX K):=by
 intro B L H c q s Q hd i a k;cases c with
 | nil=>exact False.elim a
 | cons d c =>
  cases c with
  | nil=>exact False.elim a
  | cons e c =>
   cases e<;>first | exact False.elim a | skip
   rename_i v
   cases v<;>first | exact False.elim a | skip
   cases c with
   | cons _ _=>exact False.elim a
   | nil =>
    obtain⟨x,y,rfl,m,py⟩:=Bp i;obtain⟨n,b,f,h,a⟩:=a;have:=py.raw_inv;subst this;exact⟨x,_,_,_,b,rfl,rfl,HJ f m,h,k _ _ H a (hd.pushF (.b _))⟩
theorem IC (g:Gl X x) (j:X.mg x=none) (o:bootBuiltins x=some (.type n)) (l:x ≠ "__name__" := by decide) (hd:(x == ("__debug__" : Af))=false:=by decide):PD X (.Name x pos) (cd (.r (.ty n))) :=
 A3 (BL (v:=.ty n) g j o rfl l hd) λ_ _ _=>.r _
end
end L2
namespace PySem
open PyProof.Rows L2
abbrev vQ (h:Ag) (z TI TO T:Ad) (f:Bool):Prop:=h.get? z=some { cls:=.type "zip",dict:=none,data:=.fields #[rawInt T,.bool f,.bool false,.ref TI,.ref TO],slots:=#[] }
section
theorem GF (j:s.heap.get? a=some o) (h:Q (some o) s):wpAny (model g w) A (loadIfAlive a) Q E s:=λ_ _ _=>by
 show Q (s.heap.get? a) s;rw[j];exact h
theorem HW {TI TO:Ad}(g:vQ s.heap z TI TO T f) (p:s.heap.get? T=some r) (l:∀ j,vQ j z TI TO T true->Heap.SameBut z s.heap j->Q false { s with heap:=j }) :
  wpAny (model o w) A (Builtin.SmallTypes.ownedTupleIsFree (.ref z)) Q E s:=by
 unfold Builtin.SmallTypes.ownedTupleIsFree;refine aB (dF g rfl (x:=rawInt T) rfl ?_);show wpAny _ _ (loadIfAlive ((T:Int).toNat) >>= _) _ _ _;rw[cY];refine aB (GF p ?_);simp only[Option.isNone_some,fQ,gM];refine aB (dF g rfl (x:=.bool f) rfl ?_);cases f with
 | true =>
  rw[aK (show ¬ ((Value.bool true != Value.bool true)=true) from bP)];exact aH (l _ g (Heap.SameBut.refl _ _))
 | false =>
  rw[aZ (show (Value.bool false != Value.bool true)=true from rfl)];exact aB (gJ g (by simp) λc b a=>aH (l _ b a))
def L8 (g:Ah) (w:World) (A:Around) (a b:Ac) (Q:Fin->Ae->Prop) (E:Ac->Ae->Prop) (s:Ae):Prop :=
 wpAny (model g w) A (Builtin.SmallTypes.nextOf a) (λx c=>wpAny (model g w) A (Builtin.SmallTypes.nextOf b) (λy d=>wpAny (model g w) A (newTuple [x,y]) (λt e=>Q (.done (.ret t)) e) E d) E c) E s
theorem P5 {TI TO:Ad}(p:vQ s.heap z TI TO T f) (r:s.heap.get? T=some C) (o:IsPair s.heap TI a b)
  (go:∀ l,vQ l z TI TO T true->Heap.SameBut z s.heap l->L8 j w A a b Q E { s with heap:=l }) :
  wpAny (model j w) A (Builtin.«zip.__next__» ⟨[.ref z],[]⟩) Q E s:=by
 have c:wpAny (model j w) A (Builtin.SmallTypes.ownedTupleIsFree (.ref z)) (λx d=>x=false/\L8 j w A a b Q E d) E s :=
  HW p r λl e k=>⟨rfl,go l e k⟩
 unfold Builtin.«zip.__next__»;refine aB (aH (aB (dF p rfl (x:=.bool false) rfl (aB (dF p rfl (x:=.ref TI) rfl (aB (eF o rfl ?_)))))));refine aB (kY c ?_);rintro _ d ⟨rfl,g⟩;simp only[aK bP,<- Array.forIn_toList,jQ,List.forIn_nil,bind_assoc];refine aB (dB (aB (kY g λx h g1=>aH (aB (aH ?_)))));refine aB (aB (dB (aB (kY g1 λy i g2=>aH (aB (aH (aH ?_)))))));exact aB (kY g2 λt m g3=>aH g3)
def Bc (h:Ag) (z TI TO g j:Ad):Prop:=IsPair h TI (.ref g) (.ref j)/\(∃ a b,IsPair h TO a b)/\(IsZip h z TI TO .none\/∃ T f o,vQ h z TI TO T f/\h.get? T=some o/\T≠z/\T≠TO/\T≠g/\T≠j)
end
theorem HG:typeLookup (.type "zip") "keys" = pure none:=am_miss_of_fast (by decide +kernel)
theorem BD:entryFor table "zip.__getattribute__" = some Builtin.«object.__getattribute__»:=entryFor_alias (id' := "object.__getattribute__") (by kernel_rfl) (by decide +kernel) (by decide +kernel) (by kernel_rfl)
theorem HN:typeLookup (.type "zip") "__getattr__" = pure none:=am_miss_of_fast (by decide +kernel)
theorem T9
  (l:s.heap.get? a=some { cls:=.type "zip",dict:=none,data:=.fields fs,slots:=j }) (q:Q .missing s):wpAny (model g w) A (Builtin.ObjectAttr.find (.ref a) (.type "zip") "keys") Q E s:=by
 have own:wpAny (model g w) A (Builtin.ObjectAttr.inOwnDict "keys" (.ref a)) (λr b=>r=none/\b=s) E s :=
  aB (aB (wpAny_loadPart l (aB (wpAny_loadPart l (aH (aH ⟨rfl,rfl⟩))))))
 have guard:wpAny (model g w) A (Builtin.ObjectAttr.copiedAttributeGuard "keys" (.ref a)) (λ_ b=>b=s) E s:=by
  have no:¬ (([Str.ofString "__module__",Str.ofString "__name__",Str.ofString "__qualname__",Str.ofString "__doc__",Str.ofString "__annotations__"]:Aa Af).contains (Str.ofString "keys")=true):=by decide +kernel
  simp only[Builtin.ObjectAttr.copiedAttributeGuard,aK no];exact aH rfl
 unfold Builtin.ObjectAttr.find;rw[HG];refine aB (aH (aB (aH (aB (aH (aB (kY own ?_)))))));rintro _ _ ⟨rfl,rfl⟩;refine aB (kY guard ?_);rintro _ _ rfl;exact aB (kB (aH q))
theorem Vb (a:Ad) (fs:Array Ac) (g:Array (Ab Ac)) (u:Tok):Meets (Builtin.«object.__getattribute__» ⟨[.ref a,.str "keys" u],[]⟩) (λA R s=>s.heap.get? a=some { cls:=.type "zip",dict:=none,data:=.fields fs,slots:=g }/\raisesAttr (.ref a) "keys" A R s) :=
 Meets.of_wp λb w A R s h=>by
  obtain⟨l,calm,c⟩:=h;have f:s.TypeIs (.ref a) "zip" := ⟨_,l,rfl⟩;unfold Builtin.«object.__getattribute__»;refine aB (aH (aB (aH (aB (fY f (aB (T9 l ?_)))))));have named:wpAny (model b w) A.in1 (typeNameOfCut 100 (.ref a)) (λn d=>n = "zip" /\ d=s) (λe d=>R (.error e) d) s :=
   aB (aB (fY f (aH (aH ⟨by decide +kernel,rfl⟩))))
  show wpAny _ _ (Builtin.ObjectAttr.noSuchAttribute (.ref a) "keys") _ _ _;unfold Builtin.ObjectAttr.noSuchAttribute;refine aB (kY named ?_);rintro _ _ ⟨rfl,rfl⟩;exact wpAny_raiseAttrError calm c (by decide +kernel)
section
theorem Sk
  (l:s.heap.get? a=some { cls:=.type "zip",dict:=none,data:=.fields fs,slots:=p }) (calm:A.handled=none) (j:∀ o r e,Heap.NewAttrErr s.heap o e (.ref a) "keys" -> E (.ref e) { s with heap:=o,toks:=r }) :
  wpAny (model g w) A (boundAndCalled (.builtin "zip.__getattribute__") (.ref a) (.str "keys" u)) Q E s:=by
 have ask:wpAny (model g w) A (call (.builtin "zip.__getattribute__") [.ref a,.str "keys" u]) Q E s :=
  jI iR ⟨_,l,rfl⟩ BD (F.args_zip_getattribute_2 _ _) (Vb a fs p u) ⟨l,calm,j⟩
 unfold boundAndCalled;rw[iR.bind (.ref a)];exact aB (aH ask)
theorem AQ (t:s.TypeIs (.ref e) "AttributeError") (j:E (.ref e) s) :
  wpAny (model g w) A (getattributeRaised o name (.type "zip") (.ref e) none false false) Q E s:=by
 have last:wpAny (model g w) A (hookOrError o name (.ref e) false false none) Q E s:=aB (wpAny_throw j);have a:hookBehind (.type "zip") none=pure none:=HN;unfold getattributeRaised;refine aB (eY t iJ ?_);rw[aZ rfl,a];exact aB (aH last)
theorem Zb
  (l:s.heap.get? a=some { cls:=.type "zip",dict:=none,data:=.fields fs,slots:=I }) (calm:A.handled=none) (C:∀ j p e,Heap.NewExcOf s.heap j e "AttributeError" -> Q none { s with heap:=j,toks:=p }) :
  wpAny (model g w) A (getAttr? (.ref a) "keys") Q E s:=by
 have c:∀ j p e,Heap.NewAttrErr s.heap j e (.ref a) "keys" -> (∃ o,j.get? e=some o/\o.cls = .type "AttributeError")/\Q none { s with heap:=j,toks:=p }:=λj p e x=>by
  obtain⟨_,_,y⟩:=x.there;exact⟨⟨_,y,rfl⟩,C j p e x.of⟩
 let d:Ae:={ s with toks:=s.toks+1 };let b:Except Ac Ac->Ae->Prop:=λr i=>wpAny (model g w) A (match r with | .ok v=>pure (some v) | .error e=>do if <- isInstance e (.type "AttributeError") then pure none else throw e) Q E i
 have look:wpAny (model g w) A (getAttrBy (.ref a) (.str "keys" s.toks) false) (λv=>b (.ok v)) (λe=>b (.error e)) d:=by
  refine dB (aB (fY (T := "zip") ⟨_,l,rfl⟩ (aB (kF iR.lookup ?_))));have own:wpAny (model g w) A (getAttrByItsOwn (.ref a) (.str "keys" s.toks) (.type "zip") (.builtin "zip.__getattribute__") false false) (λv=>b (.ok v)) (λe=>b (.error e)) d:=by
   refine aB (aH (aB (fE (dB (Sk (s:=d) l calm λj p e x=>?_)))));obtain⟨⟨o,f,h⟩,q⟩:=c j p e x;exact AQ ⟨o,f,h⟩ (aB (eY (T := "AttributeError") ⟨o,f,h⟩ iJ (aH q)))
  exact own
 exact aB (wpAny_mkText (aB (fE look)))
end
section
variable {K:Type} [DecidableEq K] {R:Result->Ae->Prop}
theorem S3 {TI TO:Ad}(t:s.TypeIs (.ref d) "dict") (l:IsZip s.heap z TI TO .none) (calm:A.handled=none)
  (r:∀ j o e,Heap.NewExcOf s.heap j e "AttributeError" -> Q (.again (.builtin "dict.update.loop" ⟨[.ref d,.ref z,.int 0 0,.none],[]⟩)) { s with heap:=j,toks:=o }) :
  wpAny (model g w) A (Builtin.«dict.__init__» ⟨[.ref d,.ref z],[]⟩) Q E s:=by
 have first:wpAny (model g w) A (Builtin.Dict.selfAndRest "__init__" ⟨[.ref d,.ref z],[]⟩) (λp c=>p=(d,[Value.ref z])/\c=s) E s:=aB (jD t (aH ⟨rfl,rfl⟩))
 have a:wpAny (model g w) A (Builtin.Dict.updateFrom "dict.__init__" d (.ref z) [] .none) Q E s:=by
  refine aB (fY (T := "zip") ⟨_,l,rfl⟩ ?_);rw[aZ (by decide)];refine aB (Zb l calm λj o e x=>?_);have b:IsZip j z TI TO .none:=x.keeps _ _ l;exact aB (kB (aB (wpAny_pyIter_zip b (aH (r j o e x)))))
 exact aB (dH first (λp c q=>by obtain⟨rfl,rfl⟩:=q;exact a) λ_ _ q=>q)
end
end PySem
namespace L2
open PySem PySem.Spec PyProof.Rows Lw
section
variable {X:Cx}
theorem Oq:∀ (g:Aa fS){j:Aa V}{l:Aa Ac},lC j l->KV (g.zip j) (g.zip l)
 | [],_,_,_=>.nil
 | k::g,_,_,.nil=>.nil
 | k::g,_,_,.cons h r=>.cons ⟨rfl,h⟩ (Oq g r)
end
def wZ:Aa D->Ab (Aa fS)
 | []=>some []
 | d::a=>match qW d,wZ a with
  | some k,some b=>some (k::b)
  | _,_=>none
section
variable {X:Cx}{K:kQ}
theorem Td (h:wZ g=some j) (l:Reps K A H g o):o=j.map kV:=by
 induction g generalizing j o with
 | nil=>cases l;cases h;rfl
 | cons d g c =>
  cases l with
  | cons r l =>
  have h:=(show (match qW d,wZ g with | some k,some j=>some (k::j) | _,_=>none)=some j from h);cases a:qW d with
  | none=>rw[a] at h;cases h
  | some k =>
   cases b:wZ g with
   | none=>rw[a,b] at h;cases h
   | some e =>
    rw[a,b] at h;cases h;rw[c b l,Bt a r.peek];rfl
theorem M4:∀ (g:Aa Af),wZ (g.map D.str)=some (g.map Sum.inr)
 | []=>rfl
 | x::g=>by
  show (match some (Sum.inr x:fS),wZ (g.map D.str) with | some k,some a=>some (k::a) | _,_=>none)=_;rw[M4 g];rfl
theorem Me:∀ (g:Aa fS){j:Aa D}{l:Aa V}{A:Ad->Prop}{H:Hp},Reps K A H j l->(g.zip j).map (·.1)=(g.zip l).map (·.1)/\Reps K A H ((g.zip j).map (·.2)) ((g.zip l).map (·.2))
 | [],_,_,_,_,_=>⟨rfl,.nil⟩
 | k::g,_,_,_,_,.nil=>⟨rfl,.nil⟩
 | k::g,_,_,_,_,.cons h r=>by
  obtain⟨a,b⟩:=Me g r;exact⟨by simp[a],.cons h b⟩
end
section
variable {X:Cx}{K:kQ}
def vF (g:Aa D):Aa D:=(List.range g.length).zipWith (λi d=>D.t [.int (i:Nat),d]) g
theorem Li {xs:Aa D}{i:Nat}{d:D}(h:xs[i]?=some d):(vF xs)[i]?=some (.t [.int i,d]):=by
 obtain⟨a,rfl⟩:=aL.mp h;unfold vF;simp[a]
theorem Eu:(vF g).length=g.length:=by simp[vF]
end
end L2
namespace Lw
open PySem L2
abbrev mS:=Aa (Af×Int)
noncomputable def eW (t:mS):Aa (fS×D):=t.map λp=>(Sum.inr p.1,D.int p.2)
noncomputable def look (t:mS) (x:Af):Int:=match t.find? (λp=>decide (p.1=x)) with
 | some p=>p.2
 | none=>0
theorem vS:look (p::t) x=if p.1=x then p.2 else look t x:=by
 unfold look;rw[cX];by_cases h:p.1=x<;>simp[h]
theorem rJ:∀ (t:mS) (x:Af),(x∈t.map (·.1)->kR (eW t) (Sum.inr x)=some (.int (look t x)))/\(x∉t.map (·.1)->kR (eW t) (Sum.inr x)=none/\look t x=0)
 | [],x=>⟨λh=>by simp at h,λ_=>⟨rfl,rfl⟩⟩
 | p::t,x=>by
  have a:=rJ t x;have e:eW (p::t)=(Sum.inr p.1,D.int p.2)::eW t:=rfl;rw[e,sU,vS];by_cases h:p.1=x
  .subst h;exact⟨λ_=>by rw[aZ rfl,aZ rfl],λn=>absurd (by simp) n⟩
  .have b:(Sum.inr p.1:fS)≠Sum.inr x:=λq=>h (dD q)
   rw[aK b,aK h];refine⟨λm=>a.1 ?_,λm=>a.2 λq=>m (by simp only[bH,aI];exact .inr q)⟩;simp only[bH,aI] at m;exact m.resolve_left λq=>h q.symm
theorem FA (h:x∉t.map (·.1)):nN (eW t) (Sum.inr x) (.int n)=eW (t++[(x,n)]):=by
 unfold nN;rw[Bi,((rJ t x).2 h).1];simp[eW]
theorem Ji:∀ (u t:mS),((t++u).map (·.1)).Nodup->oY (eW t) (eW u)=eW (t++u)
 | [],t,_=>by simp[oY,eW]
 | p::u,t,h=>by
  have a:p.1∉t.map (·.1):=λq=>by
   rw[aF] at h;exact (bC.mp h).2.2 p.1 q p.1 (by simp) rfl
  have e:oY (eW t) (eW (p::u))=oY (nN (eW t) (Sum.inr p.1) (.int p.2)) (eW u):=rfl;rw[e,FA a,Ji u (t++[p]) (by simpa using h)];simp
theorem sH (h:(t.map (·.1)).Nodup):oY [] (eW t)=eW t:=by
 have:=Ji t [] (by simpa using h)
 simpa [eW] using this
end Lw
namespace L2
open PySem PySem.Spec PyProof.Rows Lw
section
variable {X:Cx}{K:kQ}
theorem AM:mZ X (.type "int") (λg H Q=>∃ (x:Af) (n:Int),g=[.str x]/\intText? x=some n/\x.length<=640/\Q (.int n) H):=by
 intro a s k H g i Q I r h;obtain⟨x,n,rfl,c,d,q⟩:=h;obtain⟨u,rfl,f⟩:=qH r;obtain⟨t,rfl⟩:=f;exact PySem.W.KIN.call_text c d ⟨.int n,H,I.kept (t':=s.toks+1) λb o e=>e,⟨_,rfl⟩,q⟩
def EO:OC:=λa b=>match a with
 | [.str x]=>∃ n,intText? x=some n/\x.length<=640/\b (.v (.int n))
 | a=>Gh a b
def Fs:Aa V->Hp->VK->Prop:=λa H Q=>((∃ i,a=[.int i]/\Q (.int i) H)\/∃ k,a=[.b k]/\Q (.int (if k then 1 else 0)) H)\/∃ (x:Af) (n:Int),a=[.str x]/\intText? x=some n/\x.length<=640/\Q (.int n) H
theorem N3:mZ X (.type "int") Fs:=X6.or AM
theorem Ly:qD K Fs EO:=by
 intro B L H b e f Q hd c a k;have two:Gh b f->Fs e H Q:=λa=>.inl (HP B L H b e f Q hd c a k)
 cases b with
 | nil=>exact two a
 | cons d b =>
 cases d<;>first | exact two a | skip
 cases b with
 | cons _ _=>exact two a
 | nil =>
 obtain⟨x,rfl,m⟩:=rK c;have:=m.str_inv;subst this;obtain⟨n,h,i,a⟩:=a;exact .inr ⟨_,n,rfl,h,i,k _ _ H a (hd.pushF (.int _))⟩
end
section
theorem sV (J:Aa α) (U T:α->D) (p:α->Bool) (C:Aa Sl) (ac:∀ Ψ:Aa D->Aa Sl->Prop,Ψ (J.map U) C->ι dk ρ Ψ) (hl:J.length<=100000)
  (hs:∀ (i:Nat) x (I:Aa D) (Nx:Aa D->Aa Sl->Prop),J[i]?=some x->I.length<100000->(p x=true->Nx (I++[T x]) (oH j C))->(p x=false->Nx I (oH j C))->g (U x) (List.replicate n Sl.n++oH j C) λae=>tt dk ae λb aa=>if b=true then te dk aa λr af=>match sd r with
   | some c=>I.length<100000/\Nx (I++[c]) (af.drop n)
   | none=>False
   else Nx I (aa.drop n))
  (ab:Φ (.o (.l ((J.filter p).map T))) (oU j (oH j C) C)):wS n j ι g tt te dk ρ Φ:=by
 refine ac _ ⟨λi I a=>I=((J.take i).filter p).map T/\a=oH j C,⟨by simp,rfl⟩,?_,?_⟩
 .rintro i d I a hd _ ⟨f,h⟩;rw[bM] at hd;cases e:J[i]? with
  | none=>rw[e] at hd;cases hd
  | some x =>
   rw[e] at hd;cases hd;obtain⟨s,_⟩:=aL.mp e;have k:(J.take (i+1)).filter p=(J.take i).filter p++(if p x=true then [x] else []):=by
    rw[cA,e,iL];by_cases q:p x=true<;>simp[q]
   have len:I.length<100000:=by
    rw[f,aA];have m:=bU p (J.take i);rw[cC] at m;omega
   rw[h];refine hs i x I (λI a=>I=((J.take (i+1)).filter p).map T/\a=oH j C) e len (λq=>⟨?_,rfl⟩) λq=>⟨?_,rfl⟩
   .rw[k,aZ q,f,aF];rfl
   .rw[k,aK (by rw[q];decide),cD];exact f
 .rintro I a _ ⟨f,h⟩;rw[f,h,aA,cN];exact ab
theorem mC (J:Aa α) (C I:α->D) (p:Aa Sl) (ab:∀ Ψ:Aa D->Aa Sl->Prop,Ψ (J.map C) p->ι dk ρ Ψ) (hl:J.length<=100000)
  (hs:∀ (i:Nat) x (T:Aa D) (U:Aa D->Aa Sl->Prop),J[i]?=some x->T.length<100000->U (T++[I x]) (oH j p)->g (C x) (List.replicate n Sl.n++oH j p) λac=>te dk ac λr ae=>match sd r with
   | some c=>T.length<100000/\U (T++[c]) (ae.drop n)
   | none=>False)
  (aa:Φ (.o (.l (J.map I))) (oU j (oH j p) p)):wS n j ι g Fw te dk ρ Φ:=by
 refine sV J C I (λ_=>true) p ab hl (λi x T U e a b _=>hs i x T U e a (b rfl)) ?_;have:J.filter (λ_=>true)=J:=jW.mpr λ_ _=>rfl
 rw[this];exact aa
end
end L2
namespace Lw
open PySem L2
def mL (i:Nat):Stmt:=PySem.Challenge.pw_laidcells_k32_rows_laid_together.main.body.getD i (.Pass ⟨0,0,0,0⟩)
abbrev Hg:Stmt:=mL 9
abbrev Ku:Stmt:=mL 9
abbrev A5:Stmt:=mL 10
abbrev Fb:Stmt:=mL 12
abbrev Er:Stmt:=mL 13
abbrev Ee:Stmt:=mL 14
abbrev Aw:Stmt:=mL 16
abbrev By:Stmt:=mL 17
abbrev As:Stmt:=mL 18
abbrev Cn:Stmt:=mL 24
abbrev Cu:Stmt:=mL 25
abbrev D9:Stmt:=mL 26
abbrev Db:Stmt:=mL 27
abbrev Dv:Stmt:=mL 28
abbrev yO:Stmt:=mL 29
abbrev Dt:Stmt:=mL 30
abbrev Cw:Stmt:=mL 31
abbrev Dq:Stmt:=mL 32
abbrev Ea:Stmt:=mL 33
abbrev Ff:Stmt:=mL 34
abbrev Cq:Stmt:=mL 36
abbrev tS:Stmt:=mL 38
abbrev B6:Stmt:=mL 39
abbrev Es:Stmt:=mL 40
abbrev Ej:Stmt:=mL 41
abbrev D1:Stmt:=mL 42
abbrev Ev:Stmt:=mL 43
abbrev Fd:Stmt:=mL 44
abbrev Ep:Stmt:=mL 45
abbrev Fe:Stmt:=mL 46
abbrev Ec:Stmt:=mL 47
abbrev Dz:Stmt:=mL 48
abbrev yI:Stmt:=mL 49
abbrev Ay:Stmt:=mL 50
abbrev Cy:Stmt:=mL 51
abbrev E6:Stmt:=mL 52
abbrev Di:Stmt:=mL 53
abbrev Du:Stmt:=mL 54
abbrev E5:Stmt:=mL 55
abbrev xP:Stmt:=mL 56
structure Txt (mg:Str->Option Value):Prop where
 len:mg "len" = none
 range:mg "range" = none
 sum:mg "sum" = none
 min:mg "min" = none
 max:mg "max" = none
 tuple:mg "tuple" = none
 list:mg "list" = none
 set:mg "set" = none
 dict:mg "dict" = none
 int:mg "int" = none
 str:mg "str" = none
 zip:mg "zip" = none
 enumerate:mg "enumerate" = none
 all:mg "all" = none
 any:mg "any" = none
 isinstance:mg "isinstance" = none
 sorted:mg "sorted" = none
 abs:mg "abs" = none
 reversed:mg "reversed" = none
 bool:mg "bool" = none
structure Gd (K:kQ) (mg:Str->Option Value) (x:Str) (st:Stmt) (ps:List Str) (f:Addr) (fd:FuncData):Prop where
 F:Fun K x x st f fd
 m:mg x=some (.ref f)
 k:PySem.W.keepIn K (.ref f)=true
 b:wR K fd ps []
def Kn (P:Ah) (w:World) (K:kQ) (g:Af->Ab Ac) (base:Ag) (k:Nat) (x:Af) (st:Stmt) (j:Aa Af) (R:RD):Prop:=∃ f fd,Gd K g x st j f fd/\FnOk P w K g base rN k f fd j (wN K R)
theorem lD {X:Cx}{st:Stmt}{R:RD}(G:Kn X.prog X.w X.K X.mg X.base k x st T R) (I:Room m X.A) (o:rQ X (e::l) J) (C:k<=m:=by decide) (r:Gl X x:=by rfl) (g:(x == ("__debug__" : Af))=false:=by decide)
  (j:StB X e l pos:=by exact {}):PD X (.Call (.Name x p) (e::l) [] pos) (Be R J):=G.elim λ_ h=>h.elim λ_ h=>AC h.2 (I.mono C) r h.1.m h.1.k h.1.b o g j
def mM (P:Ah) (w:World) (K:kQ) (g:Af->Ab Ac) (base:Ag) (k:Nat) (x:Af) (st:Stmt) (j:Aa Af) (R:RD):Prop:=∀ f fd,Fun K x x st f fd->FnOk P w K g base rN k f fd j (wN K R)
theorem mT {P:Ah}{K:kQ}{st:Stmt}{R:RD}(S:FnScope N J (lQ st))
  (j:∀ (f:Ad) (g:Ac) (A:Around) (l:Aa Env) (s:Ae) (H:Hp) (E:XK) (C:Aa Ad) (o:Aa D) (r:Sl->Prop),Room k (A.deeper (PyProof.Rows.envOfC x (lQ st) s.heap.objs.size f g))->(A.deeper (PyProof.Rows.envOfC x (lQ st) s.heap.objs.size f g)).units+1<cLine->R C o r ->∃ t,oM (wE rN P w K T base N x (lQ st) f g A l s H E).nox (qM st) t/\t C { nx:=λ_=>r (.v .e),rt:=r } (wK N o)) (I:J.length<=N.length:=by decide) (p:∀ C o r,R C o r->o.length=J.length:=by rintro _ _ _ h;repeat' (rcases h with⟨i,h⟩;try (subst i;rfl))):mM P w K T base (k+1) x st J R:=λ_ _ F=>F.okD S p I λ_ _ _ _ _ _ _ _ _ a=>j _ _ _ _ _ _ _ _ _ _ a (Kj a)
noncomputable def O6:Aa Af:=["and","or","odd"]
structure ArOk (w:Str) (n:Nat):Prop where
 ok:(w∈O6/\(n=2\/n=3))\/(w = "most" /\ n=3)\/(w = "not" /\ n=1)\/(w = "one" /\ n=0)\/(w = "nil" /\ n=0)
structure Cel where
 ins:List Str
 gates:List (Str×Str×List Str)
 outs:List Str
def Cel.names (C:Cel):Aa Af:=C.ins++C.gates.map (·.1)
def oA:Aa Af->Aa (Af×Af×Aa Af)->Prop
 | _,[]=>True
 | kn,g::r=>ArOk g.2.1 g.2.2.length/\(∀ p∈g.2.2,p∈kn)/\oA (kn++[g.1]) r
theorem oA.snoc:∀ {j:Aa (Af×Af×Aa Af)}{kn:Aa Af}{g:Af×Af×Aa Af},oA kn j->ArOk g.2.1 g.2.2.length->(∀ p∈g.2.2,p∈kn++j.map (·.1))->oA kn (j++[g])
 | [],kn,g,_,b,c=>⟨b,by simpa using c,True.intro⟩
 | a::r,kn,g,h,b,c=>⟨h.1,h.2.1,oA.snoc h.2.2 b (by simpa using c)⟩
noncomputable def oC (w:Af) (bs:Aa Int):Int :=
 if w = "and" then (if bs.sum=bs.length then 1 else 0)
 else if w = "or" then (if bs.sum>0 then 1 else 0)
 else if w = "odd" then bs.sum%2
 else if w = "most" then (if bs.sum>=2 then 1 else 0)
 else if w = "not" then (if bs.sum=0 then 1 else 0)
 else if w = "one" then 1 else 0
def mI (i:Int):Prop:=i=0\/i=1
theorem Im (w:Af) (bs:Aa Int):mI (oC w bs):=by
 unfold oC mI;have:=gP bs.sum (show (2:Int)≠0 by decide);have:=iM bs.sum (show (0:Int)<2 by decide)
 repeat' split
 all_goals omega
theorem G1:∀ {bs:Aa Int},(∀ b∈bs,mI b)->0<=bs.sum/\bs.sum<=bs.length
 | [],_=>by simp
 | b::r,h=>by
  have a:=h b aT;have d:=G1 λx c=>h x (bD _ c)
  simp only[jM,dO];unfold mI at a;omega
theorem Lq:∀ {bs:Aa Int},(∀ b∈bs,b=1)->bs.sum=bs.length
 | [],_=>by simp
 | b::r,h=>by
  have c:=h b aT;have d:=Lq λx a=>h x (bD _ a)
  simp only[jM,dO];omega
theorem Rq:∀ {bs:Aa Int},(∀ b∈bs,mI b)->(0:Int)∈bs->bs.sum<bs.length
 | [],_,h=>by simp at h
 | b::r,h,d=>by
  have c:=h b aT;have a:∀ x∈r,mI x:=λx f=>h x (bD _ f)
  have i:=G1 a;simp only[jM,dO];unfold mI at c;rcases aI.mp d with e | e
  .omega
  .have:=Rq a e;omega
theorem Pz:∀ {bs:Aa Int},(∀ b∈bs,mI b)->(1:Int)∈bs->0<bs.sum
 | [],_,h=>by simp at h
 | b::r,h,d=>by
  have c:=h b aT;have a:∀ x∈r,mI x:=λx f=>h x (bD _ f)
  have i:=G1 a;simp only[jM];unfold mI at c;rcases aI.mp d with e | e
  .omega
  .have:=Pz a e;omega
theorem O5:∀ {bs:Aa Int},(∀ b∈bs,b=0)->bs.sum=0
 | [],_=>by simp
 | b::r,h=>by
  have c:=h b aT;have d:=O5 λx a=>h x (bD _ a)
  simp only[jM];omega
theorem N2 {bs:Aa Int}{m:Int}(g:∀ b∈bs,mI b) (j:m∈bs) (l:∀ a∈bs,m<=a):m=if bs.sum=bs.length then 1 else 0:=by
 rcases g m j with e | e
 .subst e;have:=Rq g j;rw[aK (by omega)]
 .subst e;have:∀ b∈bs,b=1:=λb c=>by
   have:=l b c;rcases g b c with q | q<;>omega
  rw[aZ (Lq this)]
theorem Kw {bs:Aa Int}{m:Int}(g:∀ b∈bs,mI b) (j:m∈bs) (l:∀ a∈bs,a<=m):m=if bs.sum>0 then 1 else 0:=by
 rcases g m j with e | e
 .subst e;have:∀ b∈bs,b=0:=λb c=>by
   have:=l b c;rcases g b c with q | q<;>omega
  have:=O5 this;rw[aK (by omega)]
 .subst e;have:=Pz g j;rw[aZ (by omega)]
def oZ (j:Af->Int):Aa (Af×Af×Aa Af)->Af->Int
 | []=>j
 | g::r=>oZ (λx=>if x=g.1 then oC g.2.1 (g.2.2.map j) else j x) r
def yU (j:Af->Int) (g:Af×Af×Aa Af):Af->Int:=λx=>if x=g.1 then oC g.2.1 (g.2.2.map j) else j x
theorem Hf:∀ (l:Aa (Af×Af×Aa Af)) (j:Af->Int) (g:Af×Af×Aa Af),oZ j (l++[g])=yU (oZ j l) g
 | [],j,g=>rfl
 | a::r,j,g=>Hf r _ g
def tW (C:Cel) (g:Af->Int):Af->Int:=oZ g C.gates
theorem oA.at:∀ {kn:Aa Af}{i:Nat}{g:Af×Af×Aa Af},oA kn j->j[i]?=some g->ArOk g.2.1 g.2.2.length/\∀ p∈g.2.2,p∈kn++(j.take i).map (·.1):=by
 induction j with
 | nil=>intro kn i g _ h;simp at h
 | cons a r c =>
  intro kn i g h e;cases i with
  | zero=>simp at e;subst e;exact⟨h.1,by simpa using h.2.1⟩
  | succ i =>
   have:=c (kn:=kn++[a.1]) (i:=i) (g:=g) h.2.2 (by simpa using e);refine⟨this.1,λp b=>?_⟩;have q:=this.2 p b
   simpa using q
theorem Ew (h:ArOk w n) (g:w = "and" \/ w = "or"):2<=n:=by
 rcases h.ok with⟨_,q | q⟩ | ⟨q,_⟩ | ⟨q,_⟩ | ⟨q,_⟩ | ⟨q,_⟩
 .omega
 .omega
 all_goals (rcases g with e | e<;>(rw[e] at q;exact absurd q (by decide +kernel)))
theorem Lx (h:ArOk "not" n):n=1:=by
 rcases h.ok with⟨q,_⟩ | ⟨q,_⟩ | ⟨_,q⟩ | ⟨q,_⟩ | ⟨q,_⟩
 .exact absurd q (by decide +kernel)
 .exact absurd q (by decide +kernel)
 .exact q
 .exact absurd q (by decide +kernel)
 .exact absurd q (by decide +kernel)
noncomputable def lY (g:Af×Af×Aa Af):D:=.t [.str g.1,.str g.2.1,.t (g.2.2.map D.str)]
def oW (C:Cel):D:=.t [.t (C.ins.map D.str),.t (C.gates.map lY),.t (C.outs.map D.str)]
structure GC (C:Cel):Prop where
 nd:C.names.Nodup
 gt:oA C.ins C.gates
 os:∀ o∈C.outs,o∈C.names
 ond:C.outs.Nodup
 li:C.ins.length<=40
 lg:C.gates.length<=40
 lo:C.outs.length<=40
def rV (g:Aa (fS×D)) (l:Aa Af) (j:Af->Int):Prop:=∀ x∈l,kR g (Sum.inr x)=some (.int (j x))/\mI (j x)
theorem rV.step (h:rV g j o) (l:mI v) (p:n∉j):rV (nN g (Sum.inr n) (.int v)) (j++[n]) (λx=>if x=n then v else o x):=by
 intro x a;dsimp only;rw[xB];by_cases e:x=n
 .subst e;rw[aZ rfl,aZ rfl];exact⟨rfl,l⟩
 .rw[aK (λz=>e (dD z).symm),aK e];rcases aY.mp a with q | q
  .exact h x q
  .exact absurd (aW.mp q) e
theorem gV (I:Aa Sl->Prop) (o:∀ N:Aa Sl->Prop,(∀ g,I g->N g)->t l { j with nx:=N } r) (p:∀ g,I g->u l j g):tV t u l j r:=o _ p
theorem nR (p:Aa D) (l:Aa Sl) (r:∀ J:Aa D->Aa Sl->Prop,J p l->ι I ρ J) (Pv:Nat->Aa Sl->Prop) (T:Pv 0 l)
  (U:∀ (i:Nat) d j,p[i]?=some d->Pv i j->g d j λC=>tb I { nx:=Pv (i+1),ct:=Pv (i+1),bk:=o.nx,rt:=o.rt } C) (hd:∀ j,Pv p.length j->o.nx j):Hv ι g tb I o ρ:=r _ ⟨Pv,T,U,hd⟩
theorem qI {j:Type}{f:j->D}{g:Aa j}{i:Nat}{d:D}(h:(g.map f)[i]?=some d):∃ y,g[i]?=some y/\f y=d:=by
 rw[bM] at h;cases e:g[i]? with
 | none=>rw[e] at h;cases h
 | some y=>rw[e] at h;exact⟨y,rfl,bT h⟩
theorem vH {lo:Int}(h:(nL lo n)[i]?=some d):i<n/\d = .int (lo+i):=by
 unfold nL at h;rw[bM] at h;cases e:(List.range n)[i]? with
 | none=>rw[e] at h;cases h
 | some y =>
  rw[e] at h;obtain⟨a,b⟩:=aL.mp e;rw[cM] at a;rw[List.getElem_range] at b;subst b;exact⟨a,(bT h).symm⟩
theorem Fv:∀ {l:Aa g}{n:Nat}{y:g},l[n]?=some y->l.Perm (y::l.eraseIdx n)
 | a::l,0,y,h=>by simp at h;subst h;exact .refl _
 | a::l,n+1,y,h=>by
  have:=Fv (l:=l) (n:=n) (y:=y) (by simpa using h);rw[eP];exact (this.cons a).trans (.swap y a _)
theorem Jz (f:g->j):∀ (l:Aa g) (n:Nat),(l.map f).eraseIdx n=(l.eraseIdx n).map f
 | [],_=>by simp
 | a::l,0=>rfl
 | a::l,n+1=>by rw[bH,eP,eP,bH,Jz f l n]
theorem Lb {n k:Nat}(h:k<n):seqIndex? (k:Int) n=some k:=by
 unfold seqIndex?;have:¬ ((k:Int)<0):=by omega
 simp[this,h]
theorem JD (f:j->D) (g:Aa j) (k:Nat):xQ (g.map f) none (some (k:Int))=(g.take k).map f:=by
 unfold xQ;rw[aA,HT.sIx_none,HT.sIx_nat,kA,Nat.sub_zero,List.map_take];by_cases h:k<=g.length
 .rw[Nat.min_eq_left h]
 .rw[Nat.min_eq_right (by omega),cG (by simp),cG (by simp;omega)]
end Lw
namespace L2
open PySem PySem.Spec PyProof.Rows Lw
section
variable {X:Cx}{K:kQ}
def He (K:kQ) (neg:Bool):R2:=λx y H Q=>zI neg x y H Q\/Dm K neg x y H Q
theorem tZ (g:X.A.units+64<cLine):lH X (compareOp .Eq) (He X.K false):=(show lH X (compareOp .Eq) (zI false) from K4).or (M9 g)
theorem G5 (g:X.A.units+64<cLine):lH X (compareOp .NotEq) (He X.K true):=(show lH X (compareOp .NotEq) (zI true) from Qn).or (Lg g)
def Hw (neg:Bool):O2:=λd e a=>match d,e with
 | .int i,.int j=>a (.v (.b (nb neg (decide (i=j)))))
 | .str i,.str j=>a (.v (.b (nb neg (decide (i=j)))))
 | .b i,.b j=>a (.v (.b (nb neg (decide (i=j)))))
 | .e,.int _=>a (.v (.b (nb neg false)))
 | .l c,.l []=>a (.v (.b (nb neg c.isEmpty)))
 | _,_=>False
theorem rZ (neg:Bool):nD K (He K neg) (Hw neg):=by
 intro B L H d e x y A Q hd h m f k;cases d<;>first | exact False.elim f | skip<;>cases e<;>first | exact False.elim f | skip
 .cases h;cases m
  rename_i j
  have c:decide (V.e=V.int j)=false:=by simp
  exact .inl ⟨rfl,by rw[c];exact k _ _ H f (hd.pushF (.b _))⟩
 .cases h;cases m
  rename_i i j
  have c:decide (V.b i=V.b j)=decide (i=j):=by simp
  exact .inl ⟨rfl,by rw[c];exact k _ _ H f (hd.pushF (.b _))⟩
 .cases h;cases m
  rename_i i j
  have c:decide (V.int i=V.int j)=decide (i=j):=by simp
  exact .inl ⟨rfl,by rw[c];exact k _ _ H f (hd.pushF (.b _))⟩
 .cases h;cases m
  rename_i i j
  have c:decide (V.str i=V.str j)=decide (i=j):=by simp
  exact .inl ⟨rfl,by rw[c];exact k _ _ H f (hd.pushF (.b _))⟩
 .rename_i v w
  cases w with
  | cons _ _=>exact False.elim f
  | nil =>
  obtain⟨a,n,rfl,q,t⟩:=h.lst_inv;obtain⟨b,z,rfl,s,u⟩:=m.lst_inv;cases u;have c:v.isEmpty=n.isEmpty:=by cases t<;>rfl
  refine .inr ⟨a,b,n,rfl,rfl,lG.of q,lG.of s,?_⟩;rw[<- c];exact k _ _ H f (hd.pushF (.b _))
end
end L2
namespace Lw
open PySem L2
def Eh:RD:=λe c d=>∃ (a:Af) (bs:Aa Int),c=[.str a,.l (bs.map D.int)]/\(∀ b∈bs,mI b)/\ArOk a bs.length/\d (.v (.int (oC a bs)))
def BP (g:Aa (fS×D)) (j:Aa Af):Prop:=∀ x∈j,∃ d,kR g (Sum.inr x)=some d
def Ia:RD:=λf c d=>∃ (b:Aa Af) (a:Aa (fS×D)),(c=[.t (b.map D.str),.k a]\/c=[.l (b.map D.str),.k a])/\BP a b/\d (.v .e)
def Qb:RD:=λe c d=>∃ (C:Cel) (a:Aa (fS×D)) (b:Af->Int),c=[oW C,.k a]/\GC C/\rV a C.ins b/\d (.v (.t (C.outs.map λo=>D.int (tW C b o))))
theorem Hx {g:Type} [DecidableEq g] {a b:g}{p q:Prop}(j:a=b->p) (l:¬ a=b->q):if (nb false (decide (a=b)))=true then p else q:=by
 by_cases e:a=b
 .rw[aZ (by simp[nb,e])];exact j e
 .rw[aK (by simp[nb,e])];exact l e
theorem DY {c:Prop} [Decidable c] {p q:Prop}(g:c->p) (j:¬ c->q):if (decide c)=true then p else q:=by
 by_cases e:c
 .rw[aZ (aV e)];exact g e
 .rw[aK (by simp[e])];exact j e
theorem rO (h:g.length<100000):Dg (.k g) (.str x) d=some (.k (nN g (Sum.inr x) d)):=by
 simp only[Dg,aZ h];rfl
theorem pB (t:mS):(eW t).length=t.length:=by simp[eW]
theorem AD (h:i<=60):(0:Int)<2 ^ i/\(2:Int) ^ i<2 ^ 64:=by
 have a:(2:Int) ^ i=((2 ^ i:Nat):Int):=by norm_cast
 have b:2 ^ i<2 ^ 64:=Nat.pow_lt_pow_right (by decide) (by omega);have c:0<2 ^ i:=Nat.two_pow_pos i;rw[a];omega
theorem HK:(["name","bits"]:Aa Af).Nodup:=by decide +kernel
theorem Xj:(["known","told"]:Aa Af).Nodup:=by decide +kernel
theorem EQ:(["name","told"]:Aa Af).Nodup:=by decide +kernel
section
variable {P:Ah}{K:kQ}
theorem mO {P:Aa Af}(a:j.kind = .function:=by rfl) (b:j.isCoroutine=false:=by rfl) (c:j.isGenerator=false:=by rfl) (d:N.Nodup:=by decide +kernel) (e:N.take P.length=P:=by rfl) (f:∀ x∈P,j.names.lookup x=some .local\/j.names.lookup x=some .cell:=by decide +kernel) (g:∀ y∈j.names,y.2 ≠ .free:=by decide +kernel):L2.FnScope N P j:=⟨a,b,c,d,e,f,g⟩
theorem Xq:FnScope ["word","bits"] ["word","bits"] (lQ Er):=mO
theorem Y2 (T:Txt j):mM P w K j base 1 "gate_bit" Er ["word","bits"] Eh:=by
 refine mT Xq λf S A M s H E n p c h Z Y=>?_
 obtain⟨k,bs,rfl,B,ok,G⟩:=Y;have fin:∀ z:Int,z=oC k bs->c (.v (.int z)):=λz e=>by rw[e];exact G
 have a:=Jr bs;have st:∀ (e:Af) (t u:oB),(k=e->t n { nx:=λ_=>c (.v .e),rt:=c } [.v (.str k),.v (.l (bs.map D.int))])->(¬ k=e->u n { nx:=λ_=>c (.v .e),rt:=c } [.v (.str k),.v (.l (bs.map D.int))]) ->
   (∀ N O R,N.rt=O.rt->t n N R->t n O R)->tV (vP (wO (xA (Hw false) 0 (cd (.str e)))) t A9) u n { nx:=λ_=>c (.v .e),rt:=c } [.v (.str k),.v (.l (bs.map D.int))]:=λe t u V W X =>
  ⟨rfl,Hx (λz=>X { nx:=λ_=>c (.v .e),rt:=c } _ _ rfl (V z)) λz=>W z⟩
 refine⟨_,(gD (nW (oO (tZ h.units) (rZ false) (pv 0) mJ) (kX (lX (nF (Hd rfl) Jl T.min jF (dK (eH 1) eJ)))) nT) (gD (nW (oO (tZ h.units) (rZ false) (pv 0) mJ) (kX (lX (nF (Iw rfl) Hu T.max jG (dK (eH 1) eJ)))) nT) (gD (nW (oO (tZ h.units) (rZ false) (pv 0) mJ) (kX (lX (kT mQ mR (nF (Dr rfl) C0 T.sum gS (dK (eH 1) eJ)) eI))) nT) (gD (nW (oO (tZ h.units) (rZ false) (pv 0) mJ) (kX (lX (Hm (rY Oa O0 (nF (Dr rfl) C0 T.sum gS (dK (eH 1) eJ)) eI) eI eI))) nT) (gD (nW (oO (tZ h.units) (rZ false) (pv 0) mJ) (kX (lX (kT wA vR eI (hB Z 1 eI)))) nT) (kX (lX (Hm (oO (tZ h.units) (rZ false) (pv 0) mJ) eI eI)))))))),?_⟩;refine st _ _ _ (λe=>⟨bs,a,?_,λm F y=>fin m ?_⟩) (λd=>?_) (λ_ _ _ e=>by unfold oS;rw[e];exact id)
 .have:=Ew ok (.inl e);intro z;rw[z] at this;simp at this
 .rw[N2 B F y];unfold oC;rw[if_pos e]
 refine st _ _ _ (λe=>⟨bs,a,?_,λm F y=>fin m ?_⟩) (λi=>?_) (λ_ _ _ e=>by unfold oS;rw[e];exact id)
 .have:=Ew ok (.inr e);intro z;rw[z] at this;simp at this
 .rw[Kw B F y];unfold oC;rw[if_neg d,if_pos e]
 refine st _ _ _ (λe=>⟨bs,a,by show (0:Int)<2;decide,fin _ ?_⟩) (λx=>?_) (λ_ _ _ e=>by unfold oS;rw[e];exact id)
 .unfold oC;rw[if_neg d,if_neg i,if_pos e]
 refine st _ _ _ (λe=>⟨bs,a,DY (λz=>fin _ ?_) (λz=>fin _ ?_)⟩) (λL=>?_) (λ_ _ _ e=>by unfold oS;rw[e];exact id)
 .unfold oC;rw[if_neg d,if_neg i,if_neg x,if_pos e,if_pos z]
 .unfold oC;rw[if_neg d,if_neg i,if_neg x,if_pos e,if_neg z]
 refine st _ _ _ (λe=>?_) (λQ=>?_) (λ_ _ _ e=>by unfold oS;rw[e];exact id)
 .subst e;have g:=Lx ok;obtain⟨b,rfl⟩:∃ b,bs=[b]:=by
   match bs,g with
   | [b],_=>exact⟨b,rfl⟩
  refine⟨rfl,.int b,rfl,fin _ ?_⟩;have:=B b (by simp);unfold oC;rw[aK d,aK i,aK x,aK L,aZ rfl];rcases this with q | q<;>subst q<;>simp
 refine⟨rfl,Hx (λe=>fin _ ?_) λo=>fin _ ?_⟩
 .unfold oC;rw[if_neg d,if_neg i,if_neg x,if_neg L,if_neg Q,if_pos e]
 .unfold oC;rw[if_neg d,if_neg i,if_neg x,if_neg L,if_neg Q,if_neg o]
theorem Pe:FnScope ["names","given","name"] ["names","given"] (lQ A5):=mO
theorem Mb (j:Rd H b (.k g)) (l:nV g (Sum.inr x)=some v):rB H b (.str x) (some v):=.inl ⟨g,Sum.inr x,j,rfl,l.symm⟩
theorem Mf {g:Aa Af}{i:Nat}{x:V}(h:(g.map V.str)[i]?=some x):∃ y,g[i]?=some y/\V.str y=x:=by
 rw[bM] at h;cases e:g[i]? with
 | none=>rw[e] at h;cases h
 | some y=>rw[e] at h;exact⟨y,rfl,bT h⟩
theorem Yb (F:Fun K "check_there" "check_there" A5 f fd):FnOk P w K mg base rN 1 f fd ["names","given"] (wN K Ia):=by
 refine F.ok Pe (λg H Q E O=>by obtain⟨l,A,o,Φ,D,C,r,⟨m,S,e,_⟩,Y⟩:=O;rw[<- r.length];rcases e with e | e<;>rw[e]<;>rfl) (λj A W s H g Q E I O=>?_);obtain⟨l,A1,o,Φ,D,C,r,⟨m,S,e,J,R⟩,Y⟩:=O;have T:=Kj I;obtain⟨c,b,u,rfl,q,B,G⟩:∃ c b u,g=[.ref c,.ref b]/\(lG K H c (m.map V.str)\/lR K H c (m.map V.str))/\Rd H b (.k u)/\∀ x∈m,∃ v,nV u (Sum.inr x)=some v:=by
  rcases e with e | e<;>subst e
  all_goals (
   cases r with
   | cons Z r =>
    cases r with
    | cons U r =>
     cases r;obtain⟨b,u,rfl,_,B,p,r3⟩:=U.dK_inv;have G:∀ x∈m,∃ v,nV u (Sum.inr x)=some v:=λx L=>by
      obtain⟨d,hd⟩:=J x L;obtain⟨v,z,_⟩:=(Bb p r3 (Sum.inr x)).1 d hd;exact⟨v,z⟩
     first
     | (obtain⟨c,us,rfl,z,X⟩:=Z.tup_inv;have:=Ou (Fp m) X;subst this;exact⟨c,b,u,rfl,.inr (lR.of z),B,G⟩)
     | (obtain⟨c,us,rfl,_,z,X⟩:=Z.lst_inv;have:=Ou (Fp m) X;subst this;exact⟨c,b,u,rfl,.inl (lG.of z),B,G⟩))
 have fin:Q .e H:=Y (.v .e) .e H R (λ_ _ e _=>e) D .e;refine⟨_,yX (F6 gO rfl (G0 (pv 0)) (Gr (i:=2) Pe.nd rfl (Or.inl rfl)) (yX (Gx (AS (Ud T (pv 2) (pv 1))) (yX GB) Hk))),?_⟩;refine⟨_,rfl,?_⟩;rcases q with q | q
 .refine .inl ⟨c,rfl,⟨_,q⟩,?_⟩;refine Vz (K:=K) (a:=c) (xs:=m.map V.str) (λi n h=>h=H/\∃ M,n=[some (.ref c),some (.ref b),M]) ⟨rfl,none,rfl⟩ (λi n h _ ⟨e,_⟩=>by rw[e];exact q) ?_ ?_
  .rintro i x n h L ⟨rfl,M,rfl⟩;obtain⟨y,N,rfl⟩:=Mf L;obtain⟨v,t⟩:=G y (aE N);exact⟨_,rfl,_,rfl,b,_,rfl,Mb B t,_,rfl,wH ⟨rfl,_,rfl⟩⟩
  .rintro n h ⟨rfl,_⟩;exact fin
 .refine .inr (.inl ⟨c,rfl,⟨_,q⟩,?_⟩);refine Sc (K:=K) (a:=c) (xs:=m.map V.str) (λi n h=>h=H/\∃ M,n=[some (.ref c),some (.ref b),M]) ⟨rfl,none,rfl⟩ (λi n h _ ⟨e,_⟩=>by rw[e];exact q) ?_ ?_
  .rintro i x n h L ⟨rfl,M,rfl⟩;obtain⟨y,N,rfl⟩:=Mf L;obtain⟨v,t⟩:=G y (aE N);exact⟨_,rfl,_,rfl,b,_,rfl,Mb B t,_,rfl,wH ⟨rfl,_,rfl⟩⟩
  .rintro n h ⟨rfl,_⟩;exact fin
theorem Br:FnScope ["cell","bits","told","name","word","names"] ["cell","bits"] (lQ Fb):=mO
theorem IY (T:Txt mg) (l:Kn P w K mg base 1 "check_there" A5 ["names","given"] Ia) (I:Kn P w K mg base 1 "gate_bit" Er ["word","bits"] Eh)
: mM P w K mg base 2 "told_by" Fb ["cell","bits"] Qb:=by
 refine mT Br λf ae A ac s H E dk ds Φ hr G hR=>?_
 obtain⟨C,y,m,rfl,L,U,aa⟩:=hR;have li:=L.li;have lg:=L.lg;have O:C.ins.Nodup:=(bC.mp L.nd).1;refine⟨_,(gD (oV (lD l hr (dK (hB G 0 eI) (dK (eH 1) eJ)))) (gD (kZ 2 Br.nd (lZ (pU rfl) pR T.dict bQ (dK (mF ["name"] ["bits"] [1] (lK (hB G 0 eI)) (λ_ _ _ _ _=>(hO 0 HK)) (λ_ _ _ _ _=>(lI (dK (eH 0) (dK (hB G 1 (eH 0)) eJ))))) eJ))) (gD (oE (lK (hB G 0 eI)) (nK (n:=3) rfl (lL (hO 3 Br.nd) (lL (hO 4 Br.nd) (lL (hO 5 Br.nd) nJ)))) (kX (sF (n:=2) G (lD I hr (dK (eH 4) (dK (mF ["known"] ["told"] [2] (lK (eH 5)) (λ_ _ _ _ _=>(hO 0 Xj)) (λ_ _ _ _ _=>(hB G 1 (eH 0)))) eJ))) (pv 2) (eH 3)))) (kX (lX (lZ pT pM T.tuple bN (dK (mF ["name"] ["told"] [2] (lK (hB G 0 eI)) (λ_ _ _ _ _=>(hO 0 EQ)) (λ_ _ _ _ _=>(hB G 1 (eH 0)))) eJ))))))),?_⟩;refine⟨rfl,_,rfl,C.ins,y,.inl rfl,λx M=>⟨_,(U x M).1⟩,.inl rfl,?_⟩;dsimp only;refine gV (λc=>c=[.v (oW C),.v (.k y),.o (.k (eW (C.ins.map λn=>(n,m n)))),.n,.n,.n]) (λN hN=>?_) ?_
 .unfold mV dC aC;refine mC C.ins D.str (λn=>.t [.str n,.int (m n)]) _ (λΨ h=>⟨rfl,_,rfl,h⟩) (by omega) (λi n ys Nx e V W=>?_) ?_
  .refine⟨rfl,.int (m n),?_,by show 2<=1000;decide,V,W⟩;show some (kR y (Sum.inr n))=_;rw[(U n (aE e)).1]
  have e0:oK (C.ins.map λn=>D.t [.str n,.int (m n)])=some (eW (C.ins.map λn=>(n,m n))):=by
   rw[qB (g:=λn=>((Sum.inr n:fS),D.int (m n))) (λn=>⟨.str n,rfl,rfl⟩)];simp[eW]
  refine⟨_,e0,by simp[eW];omega,?_⟩;rw[sH (by simpa [cS] using O)];exact hN _ rfl
 rintro _ rfl;have h0:rV (eW (C.ins.map λn=>(n,m n))) C.ins m:=λx M=>by
  refine⟨?_,(U x M).2⟩;have hm:x∈(C.ins.map λn=>(n,m n)).map (·.1):=by simpa [cS] using M
  rw[(rJ _ x).1 hm]
  congr 2
  clear hm;revert M;generalize C.ins=xs;induction xs with
  | nil=>intro h;simp at h
  | cons a r ih =>
   intro h;rw[bH,vS];by_cases q:a=x
   .rw[aZ q,q]
   .rw[aK q];rcases aI.mp h with z | z
    .exact absurd z.symm q
    .exact ih z
 refine gV (λc=>∃ (d:Aa (fS×D)) (Q R S:Sl),c=[.v (oW C),.v (.k y),.o (.k d),Q,R,S]/\rV d C.names (tW C m)) (λN hN=>?_) ?_
 .refine nR (C.gates.map lY) _ (λΨ h=>⟨rfl,_,rfl,h⟩)
   (λi c=>∃ (d:Aa (fS×D)) (Q R S:Sl),c=[.v (oW C),.v (.k y),.o (.k d),Q,R,S]/\rV d (C.ins++(C.gates.take i).map (·.1)) (oZ m (C.gates.take i))/\d.length<=40+i) ⟨_,.n,.n,.n,rfl,by simpa [oZ] using h0,by rw[pB,aA];omega⟩ ?_ ?_
  .rintro i x c M ⟨d,Q,R,S,rfl,F,hl⟩;obtain⟨g,B,rfl⟩:=qI M;obtain⟨X,J⟩:=L.gt.at B;have hi:i<C.gates.length:=(aL.mp B).1;have Z:g.1∉C.ins++(C.gates.take i).map (·.1):=λq=>by
    have nd:(C.ins++C.gates.map (·.1)).Nodup:=L.nd;have e:C.gates=C.gates.take i++g::C.gates.drop (i+1):=by
     obtain⟨hi,rfl⟩:=aL.mp B;rw[iW,fT]
    rw[e,aF,<- bB] at nd;exact (bC.mp nd).2.2 g.1 q g.1 (by simp) rfl
   have tk:C.gates.take (i+1)=C.gates.take i++[g]:=by rw[cA,B];rfl
   generalize ab:oZ m (C.gates.take i)=u at F;have Y:∀ p∈g.2.2,mI (u p):=λp hp=>(F p (J p hp)).2
   refine⟨rfl,rfl,?_⟩;unfold Et Be aC vd;simp only[List.set_cons_succ,List.set_cons_zero,List.getElem?_cons_succ,List.getElem?_cons_zero];refine mC g.2.2 D.str (λo=>.int (u o)) _ (λΨ h=>h) (by rcases X.ok with⟨_,q | q⟩ | ⟨_,q⟩ | ⟨_,q⟩ | ⟨_,q⟩ | ⟨_,q⟩<;>omega) (λj o ys Nx e V W=>?_) ?_
   .refine⟨rfl,.int (u o),?_,V,W⟩;show some (kR d (Sum.inr o))=_;rw[(F o (J o (aE e))).1]
   refine⟨g.2.1,g.2.2.map u,by rw[aG];rfl,(λb hb=>by obtain⟨p,hp,rfl⟩:=aD.mp hb;exact Y p hp),by rw[aA];exact X,.inl rfl,rfl,_,rO (by omega),nN d (Sum.inr g.1) (.int (oC g.2.1 (g.2.2.map u))),_,_,_,rfl,?_,?_⟩
   .rw[tk,Hf,ab,aF,<- bB];exact F.step (Im _ _) Z
   .have:=xH d (Sum.inr g.1:fS) (.int (oC g.2.1 (g.2.2.map u)));omega
  .rintro c ⟨d,Q,R,S,rfl,F,hl⟩;rw[aA,cG (bF _)] at F;exact hN _ ⟨d,Q,R,S,rfl,F⟩
 rintro _ ⟨d,Q,R,S,rfl,F⟩;unfold oS dC aC;have lo:=L.lo;refine mC C.outs D.str (λo=>.int (tW C m o)) _ (λΨ h=>⟨rfl,_,rfl,h⟩) (by omega) (λj o ys Nx e V W=>?_) aa;refine⟨rfl,.int (tW C m o),?_,V,W⟩;show some (kR d (Sum.inr o))=_;rw[(F o (L.os o (aE e))).1]
end
end Lw
namespace L2
open PySem PySem.Spec PyProof.Rows Lw
def Mg:RM:=λx d H Q=>∃ (a b:Ad) (c more:Aa (fS×V)),x = .ref a/\d=[.ref b]/\a≠b/\H a=some (.k c)/\Rd H b (.k more)/\c.length+more.length<=1000/\Q .e (upd H a (.k (pD c more)))
section
variable {X:Cx}{K:kQ}
theorem P7:Fl X "dict.update" Mg:=by
 intro n s g H x W v V Q I G E h;obtain⟨a,b,c,more,rfl,rfl,ne,m,B,P,q⟩:=h;cases G;obtain⟨u,rfl,D⟩:=qH E;cases D;obtain⟨Y,L,i,t,k⟩:=Fx I.hok m;obtain⟨Z,M,f,y,z⟩:=qJ I.hok B;have R:c.length=i.length:=fN t;have S:more.length=f.length:=fN y;have d:i.length+f.length<=sizeLine:=bS (show _<=1000 by omega) (by decide);refine call_meetsIn F.slot_dict_update k.typeIs F.entry_dict_update (F.args_dict_update_2 _ _) (meets_dict_update (nG X.prog X.w) a b ne M) ⟨i,f,k,z,d,λA d1 _ N=>?_⟩;have O:(pD c more).length<=sizeLine:=by
  have:=B1 more c;exact bS (show (pD c more).length<=1000 by omega) (by decide)
 have there:∃ o,A.get? a=some o:=let ⟨o,_,_,e,_⟩:=d1;⟨o,e⟩;exact⟨.e,_,Ey I (by rw[m];exact True.intro) N there (yQ O L (y.merge t) d1),rfl,q⟩
def Wx:OW:=λc d f=>match c,d with
 | .k a,[.k b]=>a.length+b.length<=1000/\f .e (.k (oY a b))
 | _,_=>False
theorem Qu:yN K Mg Wx:=by
 intro A H a c G L M Q w E rd f k;cases c<;>first | exact False.elim f | skip
 cases rd with
 | nil=>exact False.elim f
 | cons B rd =>
 rename_i d _ _ _
 cases d<;>first | exact False.elim f | skip
 cases rd with
 | cons _ _=>exact False.elim f
 | nil =>
 .obtain⟨i,h,e,r⟩:=E
  .obtain⟨b,m,rfl,s,q,n,D⟩:=B.dK_inv;have u:=cL List.length e;have v:=cL List.length n;simp only[aA] at u v;refine⟨a,b,i,m,rfl,rfl,λz=>w (z▸s),h,q,by have:=f.1;omega,k _ _ _ _ f.2 .e λF t=>?_⟩;obtain⟨x,y⟩:=Ap n D e r;exact⟨_,nM,x,y.mono t⟩
theorem Pk:∀ g:Aa (Af×Int),Reps K A H ((g.map λc=>((Sum.inr c.1:fS),D.int c.2)).map (·.2)) ((g.map λc=>((Sum.inr c.1:fS),V.int c.2)).map (·.2))
 | []=>.nil
 | _::g=>.cons (.int _) (Pk g)
theorem Qj:∀ g:Aa Af,Reps K A H (g.map D.str) (g.map V.str)
 | []=>.nil
 | x::g=>.cons (.str x) (Qj g)
end
end L2
namespace PySem
open PyProof.Rows L2
section
variable {s:Ae}
theorem Hl (calm:A.handled=none) (l:∀ g e,(∀ b o,s.heap.get? b=some o->g.get? b=some o)->(∃ o,g.get? e=some o/\o.cls = .type "StopIteration")->E (.ref e) { s with heap:=g }) :
  wpAny (model j w) A (do raiseNew (<- newExc (.type "StopIteration") [])) Q E s:=by
 have c:firstArgMember (.type "StopIteration") []=pure Value.none:=by first | rfl | (simp only[firstArgMember];rfl)
 have made:wpAny (model j w) A (newExc (.type "StopIteration") []) (λv d=>∃ e g,v = .ref e/\d={ s with heap:=g }/\(∀ b o,s.heap.get? b=some o->g.get? b=some o)/\∃ o,g.get? e=some o/\o.cls = .type "StopIteration") E s:=by
  unfold newExc newTuple;refine aB (eT ?_ (by size_fits));refine aB (kF c ?_);exact eT ⟨_,_,rfl,rfl,λb o z=>aQ _ (aQ _ z),_,bL _ rfl,rfl⟩ (by size_fits)
 refine aB (dH made (λv d a=>?_) λ_ _ z=>z);obtain⟨e,g,h,f,k,t⟩:=a;subst h f;unfold raiseNew;refine aB (wpAny_handled ?_);rw[calm];exact aB (aH (wpAny_throw (l g e k t)))
theorem Fj (x:s.heap.IsTupleIter g t i):∃ o,s.heap.get? g=some o/\o.data = .fields #[.ref t,.int i 0]/\s.TypeIs (.ref g) "tuple_iterator" /\ o.cls = .type "tuple_iterator" := by
 obtain⟨o,a,b,c⟩:=x;exact⟨o,a,c,⟨o,a,b⟩,b⟩
theorem Q3 {h:Ag}{g t:Ad}{i:Nat}{o:Obj}(a:h.get? g=some o) (b:o.cls = .type "tuple_iterator") (c:o.data = .fields #[.ref t,.int i 0]):(h.update g (Obj.mapFields (·.setIfInBounds 1 (rawInt ((i:Int)+1))))).IsTupleIter g t (i+1):=by
 refine⟨_,jA _ a (Obj.isFreed_of_fields (iN c _)),?_,?_⟩
 .rw[Obj.cls_mapFields];exact b
 .rw[iN c];simp[rawInt]
theorem Mh (calm:A.handled=none) (C:t≠j):Draws l w A j [j,t] g.size (λi x=>g[i]?=some x) (λi h=>h.IsTupleIter j t i/\h.IsTuple t g) where
 live:=λi h ⟨⟨o,a,_⟩,_⟩=>⟨o,a⟩
 frame:=λi h f ⟨⟨o,a,b⟩,⟨p,c,d⟩⟩ k=>⟨⟨o,k j (by simp) o a,b⟩,⟨p,k t (by simp) p c,d⟩⟩
 item:=λi s Q E M ⟨I,T⟩ q=>by
  obtain⟨o,a,c,ty,b⟩:=Fj I;obtain⟨p,y,L,n,B⟩:=id T;have m:g[i]?=some g[i]:=dL M;have body:wpAny (model l w) A.in1 (Builtin.«tuple_iterator.__next__» ⟨[.ref j],[]⟩) (λr u=>∃ x f,r = .done (.ret x)/\u={ s with heap:=f }/\g[i]?=some x/\f.IsTupleIter j t (i+1)/\Heap.SameBut j s.heap f) E s:=by
   show wpAny _ _ (field (.ref j) 0 >>= _) _ _ s;refine aB (dF a c (x:=.ref t) rfl ?_);refine (show wpAny _ _ (field (.ref j) 1 >>= _) _ _ s from aB (dF a c (x:=.int i 0) rfl (aB (eF y B ?_))));simp only[cY,m];exact aB (gZ a c (by simp) (aH ⟨_,_,rfl,rfl,rfl,Q3 a b c,fK ..⟩))
  unfold Builtin.SmallTypes.nextOf;refine aB (cI (name:=Str.ofString "__next__") ty cT (cW cT ty fM (dH body (λr u ⟨x,f,D,F,G,H,K⟩=>?_) λ_ _ z=>z) (fH _)));subst D F;refine⟨x,rfl,aH (q x f s.toks G ⟨H,?_⟩ K)⟩;exact⟨p,(K.2 t C).trans y,L,n,B⟩
 done:=λs Q E ⟨I,T⟩ q=>by
  obtain⟨o,a,c,ty,b⟩:=Fj I;obtain⟨p,y,L,n,B⟩:=id T;have m:g[g.size]?=none:=fL (bF _);have body:wpAny (model l w) A.in1 (Builtin.«tuple_iterator.__next__» ⟨[.ref j],[]⟩) (λ_ _=>False) (λv u=>∃ e f,v = .ref e/\u={ s with heap:=f }/\Heap.ExtBut j s.heap f/\∃ o,f.get? e=some o/\o.cls = .type "StopIteration") s:=by
   show wpAny _ _ (field (.ref j) 0 >>= _) _ _ s;refine aB (dF a c (x:=.ref t) rfl ?_);refine (show wpAny _ _ (field (.ref j) 1 >>= _) _ _ s from aB (dF a c (x:=.int (g.size:Nat) 0) rfl (aB (eF y B ?_))));simp only[cY,m];refine aB (kB (aB (gZ a c (by simp) ?_)));refine Hl calm λf e k z=>⟨e,f,rfl,rfl,λx o N m=>k x o ((fK ..).extBut x o N m),z⟩
  unfold Builtin.SmallTypes.nextOf;refine aB (cI (name:=Str.ofString "__next__") ty cT (cW cT ty fM (dH body (λ_ _ z=>z.elim) λv u ⟨e,f,D,F,G,H⟩=>?_) (fH _)));subst D F;exact q f e G H
theorem V5 (t:Ad) (j:Array Ac) (n:Nat) (l:Ab Ad) (o:Array (Ab Ac)) :
  Meets (Builtin.«enumerate.__new__» ⟨[.type "enumerate",.ref t],[]⟩) (λ_ R s=>s.heap.get? t=some { cls:=.type "tuple",dict:=l,data:=.seq j n,slots:=o } /\
   ∀ I:Ag,I=s.heap.push { cls:=.type "tuple_iterator",data:=.fields #[.ref t,.int 0 0] }->R (.ok (.ret (.ref I.objs.size))) { s with heap:=I.push { cls:=.type "enumerate",data:=.fields #[.none,.bool false,.ref s.heap.objs.size,rawInt 0,.none,.none] } }) :=
 .of_wp λa w A R s h=>by
  obtain⟨b,g,d,e,os⟩:=s;obtain⟨lt,h⟩:=h;have under:=sub_enumerate;have T:Heap.IsTuple (Shared.heap ⟨b,g,d,e,os⟩) t j:=⟨_,lt,rfl,n,rfl⟩
  wp_walk using iE lt
  refine wpAny_stack_any λst=>aH ?_
  split
  .rename_i c _ _ _ _ _
   cases (c == Value.type "enumerate")<;>(wp_walk using iE lt,iK T;exact⟨_,rfl,h _ rfl⟩)
  .wp_walk using iE lt,iK T
   exact⟨_,rfl,h _ rfl⟩
theorem Xm (T:s.heap.IsTuple t j)
  (q:∀ g,IsEnum g (s.heap.objs.size+1) s.heap.objs.size 0 .none->g.IsTupleIter s.heap.objs.size t 0->(∀ b o,s.heap.get? b=some o->g.get? b=some o)->Q (.ref (s.heap.objs.size+1)) { s with heap:=g }) :
  wpAny (model l w) A (call (.type "enumerate") [.ref t]) Q E s:=by
 obtain⟨o,a,b,n,c⟩:=T;obtain⟨m,i,k,e⟩:=o;simp only at b c;subst b c;refine callType_new F.called_enumerate (by decide) (F.typeCall_enumerate_1 _) (F.newCall_enumerate_1 _) (λobj=>F.args_object_init_2 obj _) F.entry_enumerate_new (V5 t j n i e) ⟨a,λI d=>?_⟩;have z:I.objs.size=s.heap.objs.size+1:=by rw[d];exact dN ..
 have hit:I.get? s.heap.objs.size=some { cls:=.type "tuple_iterator",data:=.fields #[.ref t,.int 0 0] }:=by rw[d];exact bL _ rfl
 have h:∀ O:Obj,O.isFreed=false->(I.push O).get? (s.heap.objs.size+1)=some O:=λO f=>by rw[<- z];exact bL _ f
 have keep:∀ b o,s.heap.get? b=some o->I.get? b=some o:=λb o x=>by rw[d];exact aQ _ x
 rw[z];exact⟨⟨_,h _ rfl,rfl⟩,q _ (h _ rfl) ⟨_,aQ _ hit,rfl,rfl⟩ λb o x=>aQ _ (keep b o x)⟩
end
end PySem
namespace L2
open PySem PySem.Spec PyProof.Rows Lw
def F7 (K:kQ) (a:Ad):It :=
 ⟨λi H=>∃ b x,lR K H a b/\b[i]?=some x,λi H v c=>∃ p x,H p=none/\v = .ref p/\c=upd H p (.t [.int i,x])/\∀ b,lR K H a b->b[i]?=some x,λi H=>∃ b,lR K H a b/\b.length=i⟩
def Tz (a e g:Ad) (i:Nat) (h:Ag):Prop:=(∃ old,IsEnum h e g i old)/\h.IsTupleIter g a i
theorem S1 {P:Ah}{K:kQ}(g:e≠it) :
  Turn P w K (.Tuple p x1 pos) (F7 K a) [e,it] e (Tz a e it) where
 mem:=by simp
 obj:=λi h st c u=>by
  obtain⟨⟨old,d⟩,⟨L,n,c4,d4⟩⟩:=st;simp only[aI,bJ,dZ] at u;rcases u with q | q<;>subst q
  .exact⟨_,d,λv z=>nomatch z⟩
  .exact⟨_,n,λv z=>by rw[d4] at z;cases z⟩
 keep:=λi h C st k=>by
  obtain⟨⟨old,d⟩,⟨L,n,r⟩⟩:=st;exact⟨⟨old,k e (by simp) _ d⟩,⟨L,k it (by simp) _ n,r⟩⟩
 item:=by
  intro X R hw Q u i F s σ H E I G st S;subst R hw Q;obtain⟨⟨old,d⟩,n⟩:=st;obtain⟨xs,x,M,U⟩:=S;obtain⟨f,j,Y,_⟩:=I.tuple M;have m:s.heap.IsTuple a f.toArray:=Y;obtain⟨ux,D,Z⟩:=j.get U;have V:i<f.toArray.size:=by rw[bE];exact (aL.mp D).1
  obtain⟨p0,t,B,_⟩:=id m;obtain⟨L,O,l,_⟩:=id n;have ea:e≠a:=λz=>by rw[<- z,d] at t;cases t;injection B with y;exact absurd y (by decide)
  have W:a≠it:=λz=>by rw[z,O] at t;cases t;rw[l] at B;injection B with y;exact absurd y (by decide)
  refine wpAny_pyNext_enum_itemD (Mh (A:=X.A.in1) (I.ok.hd u) W) d ⟨n,m⟩ V g (by simp[g,ea]) λy C tk n0 n1 n2 n3 n4 n5=>?_
  have ey:y=ux:=by
   rw[List.getElem?_toArray,D] at n0;exact (bT n0).symm
  subst ey;refine⟨_,rfl,wpAny_letOwnedTupleGo_enum n1 λJ m1 N=>?_⟩;have kp:∀ c o,c∉[e,it]->s.heap.get? c=some o->J.get? c=some o:=λc o b q=>by
   simp only[aI,bJ,dZ,not_or] at b;exact N.extBut c o b.1 (n5 c o b.1 b.2 q)
  have zs:s.heap.objs.size≠e:=λq=>fC _ (by have:=bK d;rw[<- q] at this;exact this)
  have nt:vW J s.heap.objs.size [.int i tk,y].toArray:=⟨⟨_,N.extBut _ _ zs n3,rfl,_,rfl⟩,_,N.extBut _ _ zs n3,rfl⟩;have I2:=I.movedT (t':=tk+1) (ys:=[.int i,x]) G kp nt (.cons ⟨_,rfl⟩ (.cons Z .nil)) (by show 2<=sizeLine;decide);refine⟨.ref s.heap.objs.size,_,I2,rfl,⟨_,x,I.fresh,rfl,rfl,λaa q'=>by rw[I.tuple_inj q' M];exact U⟩,⟨⟨y,?_⟩,?_⟩,λc b=>?_⟩
  .have:((i+1:Nat):Int)=(i:Int)+1:=by omega
   rw[this];exact m1
  .obtain⟨o5,r1,r2⟩:=n2.1;exact⟨o5,N.extBut _ o5 (eR g) r1,r2⟩
  .rw[mD]
   .exact (G c b).1
   .intro q;obtain⟨o,ho⟩:∃ o,s.heap.get? c=some o:=by
     simp only[aI,bJ,dZ] at b;rcases b with q | q<;>rw[q]
     .exact⟨_,d⟩
     .exact⟨_,O⟩
    have:=bK ho;rw[q] at this;exact fC _ this
 done:=by
  intro X R hw Q u i F s σ H E I G st S;subst R hw Q;obtain⟨⟨old,d⟩,n⟩:=st;obtain⟨xs,M,T⟩:=S;obtain⟨f,j,Y,_⟩:=I.tuple M;have m:s.heap.IsTuple a f.toArray:=Y;have lx:=j.length;have hi:i=f.toArray.size:=by rw[bE];omega
  subst hi;obtain⟨p0,t,B,_⟩:=id m;obtain⟨L,O,l,_⟩:=id n;have W:a≠it:=λz=>by rw[z,O] at t;cases t;rw[l] at B;injection B with y;exact absurd y (by decide)
  refine wpAny_pyNext_enum_endD (Mh (A:=X.A.in1) (I.ok.hd u) W) d ⟨n,m⟩ λC k=>⟨rfl,I.moved (t':=s.toks) G λc o b q=>?_⟩
  simp only[aI,bJ,dZ,not_or] at b;exact k c o b.2 q
 self:=λ_ _ _ _ _ st h=>by
  obtain⟨⟨old,d⟩,n⟩:=st;exact wpAny_pyIter_enum d h
section
variable {X:Cx}{K:kQ}
def Us (K:kQ) (g:TA):TI:=λe H R=>g e H λc b=>∃ a,c=[.ref a]/\(∃ d,lR K b a d)/\R (F7 K a) b
theorem Ss (l:Gl X "enumerate") (o:X.mg "enumerate" = none) (j:PA X [e] C) (r:starEach [e] X.env=[(false,eval e X.env)]:=by rfl) :
  PI X (.Tuple g T J) (.Call (.Name "enumerate" p) [e] [] pos) (Us X.K C):=by
 intro b s v H R I h;refine Call_ (xG I l o boot_enumerate (eQ (kY (j pos b s v H _ I h) λL d i=>?_) r rfl));obtain⟨M,m,f,E,B⟩:=i;obtain⟨a,rfl,⟨N,D⟩,q⟩:=B;obtain⟨u,rfl,F⟩:=qH E;cases F;obtain⟨k,G,A,_⟩:=f.tuple D;refine Xm (show d.heap.IsTuple a k.toArray from A) λx t y z=>?_
 have w:Inv X b v m { d with heap:=x }:=f.kept (t':=d.toks) z;refine wpAny_pyIter_enum t ⟨_,[_,_],_,_,m,rfl,w,S1 (a:=a) (e:=d.heap.objs.size+1) (it:=d.heap.objs.size) (Nat.succ_ne_self _),⟨⟨_,t⟩,y⟩,λc n=>?_,q⟩;simp only[aI,bJ,dZ] at n;rcases n with e | e<;>(subst e;exact f.fpOk (by omega) (f.hok.fresh (by omega)))
theorem V9:YD K (F7 K a) (vF g) [(.v (.t g),some (.ref a))]:=by
 have key:∀ A H,xR K A H [(.v (.t g),some (.ref a))]->∃ b,lR K H a b/\Reps K A H g b:=λA H ok=>by
  obtain⟨v,e,r⟩:=ok _ aT;cases e;obtain⟨q,b,e,c,f⟩:=r.tup_inv;cases e;exact⟨b,lR.of c,f⟩
 refine⟨rfl,λi H A h ok=>?_,λi H A x n h ok y=>?_,λi H A h ok=>?_⟩
 .obtain⟨b,c,f⟩:=key A H ok;rw[Eu] at h;exact⟨b,b[i]'(by rw[<- f.length];exact h),c,aR _⟩
 .obtain⟨b,c,f⟩:=key A H ok;obtain⟨p,z,k,rfl,rfl,m⟩:=y;obtain⟨d,hd,rd⟩:=f.getV (m b c);exact⟨_,Li hd,.inr ⟨p,_,_,k,rfl,rfl,rfl,.cons (.int _) (.cons rd .nil)⟩⟩
 .obtain⟨b,c,f⟩:=key A H ok;rw[Eu] at h;exact⟨b,c,by rw[<- f.length];omega⟩
def Zd (g:lP):vG:=λb e d=>g b e λr a=>match sd r with
 | some (.t c)=>d (vF c) a
 | _=>False
theorem Nl (l:Gl X "enumerate") (o:X.mg "enumerate" = none) (j:PD X e J) (I:starEach [e] X.env=[(false,eval e X.env)]:=by rfl) (C:wF e=true:=by rfl) :
  zJ X (.Tuple g x1 U) (.Call (.Name "enumerate" p) [e] [] pos) (Zd J) :=
 (Ss l o (vU j xE C) I).mono λD H R f=>f.elim λB x T A n hd q k=>⟨B,x,T,_,n,hd,q,λr h v i s d1 b=>by
  cases c:sd r with
  | none=>rw[c] at b;exact b.elim
  | some d =>
   rw[c] at b;have d2:=d1.thaw c;have u:=d2.valAt;cases d with
   | t z=>obtain⟨a,w,rfl,m,y⟩:=u.tup_inv;exact⟨a,rfl,⟨w,lR.of m⟩,k _ _ h [_] i s d2 V9 b⟩
   | _=>exact b.elim⟩
end
end L2
namespace PySem
open PyProof.Rows L2
structure RawD (h:Heap) (d:Addr) (o:Obj) (es:Array DictEntry) (ep:Nat):Prop where
 low:(d == sysModules)=false
 get:h.get? d=some o
 ex:o.ExactDict
 dat:o.data = .dict es ep
section
variable {s:Ae}
theorem RawD.ty (r:RawD s.heap d o j g):s.TypeIs (.ref d) "dict" := ⟨o,r.get,r.ex.1⟩
theorem Sb (r:RawD s.heap d o l j) (q:Q (.ref s.heap.objs.size) { s with heap:=s.heap.push { cls:=.type "dict_keyiterator",data:=.fields #[.ref d,.int 0 0,.int l.size 0,.int j 0] } }) :
  wpAny (model g w) A (pyIter (.ref d)) Q E s:=by
 have fresh:∀ h:Ag,h=s.heap.push { cls:=.type "dict_keyiterator",data:=.fields #[.ref d,rawInt 0,rawInt l.size,rawInt j] }->Shared.TypeIs { s with heap:=h } (.ref s.heap.objs.size) "dict_keyiterator" := λh e=>by
  subst e;exact⟨_,bL _ rfl,rfl⟩
 have body:wpAny (model g w) A.in1 (Builtin.«dict.__iter__» ⟨[.ref d],[]⟩) (λr c=>r = .done (.ret (.ref s.heap.objs.size))/\c={ s with heap:=s.heap.push { cls:=.type "dict_keyiterator",data:=.fields #[.ref d,rawInt 0,rawInt l.size,rawInt j] } }) E s:=by
  have self:wpAny (model g w) A.in1 (Builtin.Dict.dictSlotNone "__iter__" ⟨[.ref d],[]⟩) (λv c=>v = .ref d/\c=s) E s:=aB (jD r.ty (aH ⟨rfl,rfl⟩));refine aB (dH self (λv c a=>?_) λ_ _ z=>z);obtain⟨f,i⟩:=a;subst f i;have b:Builtin.Dict.showsAll d=pure ():=by unfold Builtin.Dict.showsAll;simp[r.low]
  refine aB (kF (show Builtin.Dict.addrOf (.ref d)=pure d from rfl) (aB (kF b ?_)));exact aB (wpAny_dictEntries r.get r.dat (aB (wpAny_dictEpoch r.get r.dat (aB (eT (aH ⟨rfl,rfl⟩))))))
 refine wpAny_pyIter_slot r.ty F.slot_dict_iter (cW F.slot_dict_iter r.ty F.entry_dict_iter (dH body (λv c a=>?_) λ_ _ z=>z) (F.args_dict_iter_1 _));obtain⟨f,i⟩:=a;subst f i;refine⟨_,rfl,"dict_keyiterator",_,fresh _ rfl,eK.lookup,?_⟩;exact q
theorem Vi (r:RawD s.heap d o j p) (I:s.heap.IsKeyIter g d i j.size p) (J:i<j.size) (q:∀ C,C.IsKeyIter g d (i+1) j.size p->Heap.SameBut g s.heap C->Q (some j[i].key) { s with heap:=C }) :
  wpAny (model l w) A (pyNext (.ref g)) Q E s:=by
 obtain⟨u,f,n,h⟩:=id I;have ty:s.TypeIs (.ref g) "dict_keyiterator" := ⟨u,f,n⟩;have plain:Builtin.Dict_items.ownsTuple "dict_keyiterator" = false:=by decide
 have c:∀ {E:Ac->Ae->Prop} {b:Ae} {k:Nat->Ae->Prop},b.TypeIs (.ref g) "dict_keyiterator" -> k 0 b->wpAny (model l w) A.in1 (do return if Builtin.Dict_items.ownsTuple (<- typeNameOfWhole (.ref g)) then 2 else 0) k E b:=λt z =>
  aB (wpAny_typeNameOfWhole_keyiter t (by rw[plain];exact aH z))
 let e:=s.heap.update g (Obj.mapFields (·.setIfInBounds 1 (rawInt ((i:Int)+1))));have m:e.IsKeyIter g d (i+1) j.size p:=by
  refine⟨_,jA _ f (Obj.isFreed_of_fields (iN h _)),?_,?_⟩
  .rw[Obj.cls_mapFields];exact n
  .rw[iN h];simp[rawInt]
 have body:wpAny (model l w) A.in1 (Builtin.«dict_keyiterator.__next__» ⟨[.ref g],[]⟩) (λx b=>x = .done (.ret j[i].key)/\b={ s with heap:=e }) (λ_ _=>False) s:=by
  refine aB (aH ?_);refine aB (aB (c ty ?_));refine aB (wpAny_fieldsOf f h ?_);have a:¬ ((Value.ref d == Value.none)=true):=bP;show wpAny _ _ (if (Value.ref d == Value.none)=true then _ else _) _ _ s;rw[aK a];refine aB (aH (aB (wpAny_dictEntries r.get r.dat ?_)));rw[aK (by simp)];refine aB (aH (aB (wpAny_dictEpoch r.get r.dat ?_)));rw[aK (by simp)];refine aH ?_;have row:(if (i:Int)<0 then none else j[(i:Int).toNat]?)=some j[i]:=by
   rw[aK (by omega),cY,dL J]
  dsimp only;rw[row];refine aB (c ty ?_);refine aB (wpAny_isOneOf_keyiter ty ?_);change wpAny _ _ (setField (.ref g) 1 (rawInt ((i:Int)+1)) >>= _) _ _ s;refine aB (gZ f h (by simp) ?_);refine aB (dB (aB (wpAny_isOneOf_keyiter (s:={ s with heap:=e }) m.typeIs ?_)));exact aH (aH ⟨rfl,rfl⟩)
 unfold pyNext;refine aB (fE (cI (name:=Str.ofString "__next__") ty eK (cW eK ty F.entry_dict_keyiterator_next (dH body (λx b ⟨v,y⟩=>?_) λ_ _ z=>z.elim) (F.args_dict_keyiterator_next_1 _))));subst v y;exact⟨_,rfl,aH (q e m (fK ..))⟩
theorem CY (calm:A.handled=none) (r:RawD s.heap d o p C) (I:s.heap.IsKeyIter l d p.size p.size C) (q:∀ g,Heap.ExtBut l s.heap g->Q none { s with heap:=g }) :
  wpAny (model j w) A (pyNext (.ref l)) Q E s:=by
 obtain⟨u,h,M,m⟩:=id I;have ty:s.TypeIs (.ref l) "dict_keyiterator" := ⟨u,h,M⟩;have plain:Builtin.Dict_items.ownsTuple "dict_keyiterator" = false:=by decide
 have f:∀ {n:Ac->Ae->Prop} {c:Ae} {i:Nat->Ae->Prop},c.TypeIs (.ref l) "dict_keyiterator" -> i 0 c->wpAny (model j w) A.in1 (do return if Builtin.Dict_items.ownsTuple (<- typeNameOfWhole (.ref l)) then 2 else 0) i n c:=λt z =>
  aB (wpAny_typeNameOfWhole_keyiter t (by rw[plain];exact aH z))
 have body:wpAny (model j w) A.in1 (Builtin.«dict_keyiterator.__next__» ⟨[.ref l],[]⟩) (λ_ _=>False) (λv c=>∃ e g,v = .ref e/\c={ s with heap:=g }/\Heap.ExtBut l s.heap g/\∃ o,g.get? e=some o/\o.cls = .type "StopIteration") s:=by
  refine aB (aH ?_);refine aB (aB (f ty ?_));refine aB (wpAny_fieldsOf h m ?_);have a:¬ ((Value.ref d == Value.none)=true):=bP;show wpAny _ _ (if (Value.ref d == Value.none)=true then _ else _) _ _ s;rw[aK a];refine aB (aH (aB (wpAny_dictEntries r.get r.dat ?_)));rw[aK (by simp)];refine aB (aH (aB (wpAny_dictEpoch r.get r.dat ?_)));rw[aK (by simp)];refine aH ?_;have row:(if ((p.size:Nat):Int)<0 then none else p[((p.size:Nat):Int).toNat]?)=none:=by
   rw[aK (by omega),cY,fL (bF _)]
  dsimp only;rw[row];refine aB (f ty (aB (gZ h m (by simp) ?_)));exact Hl calm λg e k z=>⟨e,g,rfl,rfl,λx o L K=>k x o ((fK ..).extBut x o L K),z⟩
 unfold pyNext;refine aB (fE (cI (name:=Str.ofString "__next__") ty eK (cW eK ty F.entry_dict_keyiterator_next (dH body (λ_ _ z=>z.elim) λv c ⟨e,g,y,B,D,o,G,H⟩=>?_) (F.args_dict_keyiterator_next_1 _))));subst y B;exact aB (eY (T := "StopIteration") (b:=true) ⟨o,G,H⟩ isSubtype_stop (aH (q g D)))
end
end PySem
namespace L2
open PySem PySem.Spec PyProof.Rows Lw
abbrev MK:=fS ⊕ Aa fS
def Js (H:Hp):MK->V->Prop
 | .inl k,y=>y=kV k
 | .inr a,y=>∃ b,y = .ref b/\H b=some (.t (a.map kV))
def Rk (H:Hp):MK->Ac->Prop
 | .inl k,u=>lA (kV k) u
 | .inr a,u=>∃ b,u = .ref b/\H b=some (.t (a.map kV))
def qL:HO->Ab (Aa MK)
 | .T a=>some (a.map λp=>Sum.inr p.1)
 | .k a=>some (a.map λp=>Sum.inl p.1)
 | _=>none
def Yt:HO->Bool
 | .T _=>true
 | .k _=>true
 | .frz _ (.T _)=>true
 | .frz _ (.k _)=>true
 | _=>false
structure Sw (H H':Hp) (a:Addr) (u:HO):Prop where
 out:∀ b,b≠a->H' b=H b
 k:(qL u).isSome=true
 l:Rd H a u
 r:Rd H' a u
section
theorem Sw.get (s:Sw H j a u) (h:H b=some g) (n:Yt g=false:=by rfl):j b=some g:=by
 have ne:b≠a:=λz=>by
  subst z;have k:=s.k;rcases s.l with q | ⟨o,q⟩<;>rw[q] at h<;>cases h<;>cases u<;>first | (cases n;done) | (cases k;done)
 rw[s.out b ne];exact h
theorem Sw.rd (s:Sw H g a u) (j:(qL x).isSome=true) (h:Rd H b x):Rd g b x:=by
 by_cases e:b=a
 .subst e;have:x=u:=by
   have k:=s.k;rcases h with h | ⟨o,h⟩<;>rcases s.l with q | ⟨c,q⟩<;>rw[q] at h<;>cases h<;>first | rfl | (cases j;done) | (cases k;done)
  rw[this];exact s.r
 .rcases h with h | ⟨o,h⟩
  .exact .inl (by rw[s.out b e];exact h)
  .exact .inr ⟨o,by rw[s.out b e];exact h⟩
theorem Sw.sqF {K:kQ}(s:Sw H g a u) (h:uP K H b j):uP K g b j:=by
 rcases h with⟨o,h⟩ | h
 .exact .inl ⟨o,s.get h⟩
 .exact .inr h
variable {K:kQ}
theorem Rep.sw (s:Sw H j a u) (o:∀ b,A b->g b) (h:Rep K A H d v):Rep K g j d v :=
 Rep.rec (motive_1:=λd v _=>Rep K g j d v) (motive_2:=λi m _=>Reps K g j i m) .e .b .int .str .r (λh _ r=>.t (s.get h) r) (λh _ r=>.con h r)
  (λf h _ r=>.l (o _ f) (s.get h) r) (λh _ r=>.c (s.sqF h) r) (λf h e _ r=>.k (o _ f) (s.rd rfl h) e r) (λf h e _ r=>.T (o _ f) (s.rd rfl h) e r) .nil (λ_ _ h r=>.cons h r) h
theorem Reps.sw (s:Sw H p a u) (C:∀ b,A b->o b) (h:Reps K A H j l):Reps K o p j l:=by
 induction j generalizing l with
 | nil=>cases h;exact .nil
 | cons d j c=>cases h with | cons g r=>exact .cons (g.sw s C) (c r)
theorem nU.sw (s:Sw H o a u) (g:∀ b,A b->j b) (ne:b≠a) (h:nU K A H b d):nU K j o b d:=by
 cases d with
 | l _=>obtain⟨c,h,r⟩:=h;exact⟨c,by rw[s.out b ne];exact h,r.sw s g⟩
 | k _=>obtain⟨c,h,e,r⟩:=h;exact⟨c,by rw[s.out b ne];exact h,e,r.sw s g⟩
 | T _=>obtain⟨c,h,e,r⟩:=h;exact⟨c,by rw[s.out b ne];exact h,e,r.sw s g⟩
 | _=>exact False.elim h
theorem qV.sw (s:Sw H l a u) (g:∀ b,A b->j b) (ne:∀ b,wX (x,y)=some b->b≠a) (h:qV K A H x y):qV K j l x y:=by
 cases x with
 | n=>trivial
 | v d=>obtain⟨v,e,r⟩:=h;exact⟨v,e,r.sw s g⟩
 | o d=>obtain⟨b,e,r⟩:=h;subst e;exact⟨b,rfl,r.sw s g (ne b rfl)⟩
noncomputable def oD (B:Bs) (a:Ad) (o:Obj) (u:HO):Bs:=⟨B.dk,λb=>B.A0 b\/b=a,λb=>if b=a then some (.frz o u) else B.H0 b⟩
theorem DS.fz (h:DS K B L H) (s:Sw H g a u) (j:g a=some (.frz o u)) (al:Al B (hH L) a):DS K (oD B a o u) L g:=by
 refine⟨λb m e n=>?_,h.dk.keep λb c=>s.out b λz=>al.1 (z▸c),h.nd,λb c=>?_,λp d=>?_⟩
 .by_cases z:b=a
  .subst z;rw[show (oD B b o u).H0 b=some (.frz o u) from aZ rfl] at e;rw[j];exact e
  .rw[show (oD B a o u).H0 b=B.H0 b from aK z] at e;rw[s.out b z];exact h.fr b m e n
 .have z:b≠a:=λz=>al.2.1 (z▸c)
  rw[show (oD B a o u).H0 b=B.H0 b from aK z];exact h.new b c
 .refine (h.ok p d).sw s (λb ⟨f,i,k⟩=>⟨f,i,?_⟩) λb c z=>al.2.1 (sP.mpr ⟨p,d,z▸c⟩)
  by_cases z:b=a
  .exact .inl (.inr z)
  .refine k.elim (λq=>.inl (.inl q)) λq=>.inr ?_
   rw[show (oD B a o u).H0 b=B.H0 b from aK z];exact q
theorem DS.known (h:DS K (oD B a o u) L H) (g:a∉B.dk):H a=some (.frz o u):=h.fr a _ (aZ rfl) g
theorem DS.th (h:DS K (oD B a o u) L H) (s:Sw H j a u) (C:a∉B.dk) (l:∀ g,B.H0 a=some g->j a=some g) (r:B.A0 a\/B.H0 a=none):DS K B L j:=by
 have f:∀ b∈hH L,b≠a:=λb c z=>by
  have:=(h.new b c).1;rw[z,show (oD B a o u).H0 a=some (.frz o u) from aZ rfl] at this;cases this
 refine⟨λb g e n=>?_,h.dk.keep λb c=>s.out b λz=>C (z▸c),h.nd,λb c=>?_,λp d=>?_⟩
 .by_cases z:b=a
  .subst z;exact l g e
  .rw[s.out b z];exact h.fr b g (by rw[show (oD B a o u).H0 b=B.H0 b from aK z];exact e) n
 .have:=h.new b c;rw[show (oD B a o u).H0 b=B.H0 b from aK (f b c)] at this;exact this
 .refine (h.ok p d).sw s (λb ⟨i,k,m⟩=>⟨i,k,?_⟩) λb c z=>f b (sP.mpr ⟨p,d,c⟩) z
  by_cases z:b=a
  .rw[z];exact r
  .refine m.elim (λq=>.inl (q.resolve_right z)) λq=>.inr ?_
   rw[show (oD B a o u).H0 b=B.H0 b from aK z] at q;exact q
end
section
variable {X:Cx}
theorem Inv.swapped (I:Inv X j C H s) (sw:Sw H g a u) (r:∀ o u,X.H₀ a≠some (.frz o u)) (ok:mW X.prog X.w g s.heap a u->∀ v,g a=some v->mW X.prog X.w g s.heap a v):Inv X j C g s:=by
 have d:∀ b,H b=none->g b=none:=λb e=>by
  rw[sw.out b λz=>by subst z;rcases sw.l with q | ⟨o,q⟩<;>rw[q] at e<;>cases e];exact e
 have tup_at:∀ b h,H b=some (.t h)->g b=some (.t h):=λb h e=>sw.get e
 have f:∀ b y,H b=some (.o y)->g b=some (.o y):=λb h e=>sw.get e
 refine⟨I.ok,I.os,I.bare,⟨I.base.keep,I.base.slot,λb u e n x=>d b (I.base.free b u e n x),I.base.there,λb h e=>tup_at b h (I.base.tups b h e),λb i u e=>?_,λb m e=>?_⟩,I.loc,I.cell,d _ I.free,λx c e=>d c (I.freeC x c e),λp k=>?_,λb v e=>?_,I.len⟩
 .have ne:b≠a:=λz=>r i u (z▸e)
  rw[sw.out b ne];exact I.base.frzs b i u e
 .obtain⟨more,q⟩:=I.base.tbls b m e;exact⟨more,sw.get q⟩
 .obtain⟨A,B,D⟩:=I.pin p k;exact⟨A,d _ B,D⟩
 .by_cases z:b=a
  .subst z;have base:mW X.prog X.w H s.heap b u:=sw.l.ok I.hok;exact ok (base.stay (λ_ _ _ q=>q) (λc q=>f c _ q) tup_at) v e
  .rw[sw.out b z] at e;exact (I.hok b v e).stay (λ_ _ _ q=>q) (λc q=>f c _ q) tup_at
theorem Inv.no_frz (I:Inv X j p H s) (o:(qL u).isSome=true) (l:H a=some u):∀ g v,X.H₀ a≠some (.frz g v):=λg v e=>by
 have:=I.base.frzs a g v e;rw[l] at this;cases this;cases o
theorem Inv.frozen (I:Inv X g r H s) (l:(qL u).isSome=true) (j:H a=some u) (p:s.heap.get? a=some o):Inv X g r (upd H a (.frz o u)) s:=by
 refine I.swapped ⟨λb n=>mD n,l,.inl j,.inr ⟨o,nM⟩⟩ (I.no_frz l j) λq v e=>?_
 rw[nM] at e;cases e;exact⟨p,q⟩
theorem Inv.thawed (I:Inv X g r H s) (p:(qL u).isSome=true) (l:H a=some (.frz o u)) (j:∀ o u,X.H₀ a≠some (.frz o u)):Inv X g r (upd H a u) s:=by
 refine I.swapped ⟨λb n=>mD n,p,.inr ⟨o,l⟩,.inl nM⟩ j λq v e=>?_
 rw[nM] at e;cases e;exact q
end
theorem Zt {P:Ah}(g:(qL u).isSome=true) (ok:mW P w H h a u):∃ o,h.get? a=some o:=by
 cases u<;>first | (cases g;done) | (obtain⟨_,_,_,_,o,_,_,e,_⟩:=ok;exact⟨o,e⟩)
def vB (a:Ad) (o:Obj) (u:HO) (g:Aa MK):It :=
 ⟨λi H=>H a=some (.frz o u)/\i<g.length,λi H x b=>b=H/\∃ k,g[i]?=some k/\Js H k x,λi H=>H a=some (.frz o u)/\i=g.length⟩
theorem Jq {F:l->o->Prop}:∀ {g:Aa l}{j:Aa o}{i:Nat}{a:l},Paired F g j->g[i]?=some a->∃ b,j[i]?=some b/\F a b
 | _,_,_,_,.nil,h=>by simp at h
 | _,_,0,_,.cons x r,h=>by simp at h;subst h;exact⟨_,by simp,x⟩
 | _,_,i+1,a,.cons x r,h=>by
  obtain⟨b,c,d⟩:=Jq (i:=i) r (by simpa using h);exact⟨b,by simpa using c,d⟩
theorem Z2 (h:Rk H k u):∃ y,Js H k y/\lA y u:=by
 rcases k with k | c
 .exact⟨kV k,rfl,h⟩
 .obtain⟨b,rfl,a⟩:=h;exact⟨.ref b,⟨b,rfl,a⟩,rfl⟩
theorem Wf (h:uW k v=true):lA (kV k) v:=by
 rcases tT h with⟨i,t,rfl,rfl⟩ | ⟨x,t,rfl,rfl⟩
 .exact⟨t,rfl⟩
 .exact⟨t,rfl⟩
theorem Su {P:Ah}:∀ {g:Aa DictEntry}{j:Aa (fS×Ac)},Pairs (nG P w) g j->g.length=j.length/\∀ (i:Nat) e q,g[i]?=some e->j[i]?=some q->uW q.1 e.key=true/\e.val=q.2:=by
 intro g;induction g with
 | nil=>intro j h;cases h;exact⟨rfl,λi e q h=>by cases h⟩
 | cons a g m =>
  intro j h;cases h with
  | cons d f k =>
   obtain⟨n,s⟩:=m k;refine⟨cL (·+1) n,λi e q b c=>?_⟩;cases i with
   | zero=>cases b;cases c;exact⟨d,f⟩
   | succ i=>exact s i e q b c
theorem Ig {P:Ah}(ok:nA P w H h) (l:qL u=some I) (C:H a=some (.frz o u)) :
  ∃ g p,RawD h a o g p/\g.size=I.length/\∀ (i:Nat) (j:i<g.size),∃ k,I[i]?=some k/\Rk H k g[i].key:=by
 have f:∀ {g:Array DictEntry} {i:Nat} {e:DictEntry} (j:i<g.size),g.toList[i]?=some e->g[i]=e:=λ{g i e} j h=>by
  rw[eX,dL j] at h;exact bT h
 cases u with
 | T b =>
  cases l;obtain⟨c,z,lo,K,r,E,g,p,d,m,n,s,_⟩:=(show mW P w H h a (.frz o (.T _)) from ok a _ C);rw[c] at d;cases d;have D:=fN r;have x:g.size=K.length:=by simpa using cL List.length s
  refine⟨g,p,⟨lo,c,m,n⟩,by rw[aA];omega,λi j=>?_⟩;obtain⟨q,t,y,F,L⟩:=Jq r (aR (show i<_ by omega));refine⟨_,by rw[bM,aR (show i<_ by omega)];rfl,?_⟩;rw[f j (by rw[s,bM,t];rfl)];exact⟨_,rfl,F⟩
 | k b =>
  cases l;obtain⟨c,z,lo,G,r,E,g,p,d,m,n,s,A,_⟩:=(show mW P w H h a (.frz o (.k b)) from ok a _ C);rw[c] at d;cases d;have D:b.length=G.length:=fN r;obtain⟨x,v⟩:=Su A;rw[eU] at x;refine⟨g,p,⟨lo,c,m,n⟩,by rw[aA];omega,λi j=>?_⟩;have l:i<b.length:=by omega
  obtain⟨q,t,y,_⟩:=Jq r (aR l);obtain⟨B,_⟩:=v i g[i] q (by rw[eX,dL j]) t;refine⟨Sum.inl b[i].1,by rw[bM,aR l];rfl,?_⟩;show lA (kV b[i].1) g[i].key;rw[y];exact Wf B
 | _=>cases l
theorem CQ {P:Ah}{K:kQ}(a j:Ad) (o:Obj) (p:qL u=some C):Turn P w K tg (vB a o u C) [j] j (λi h=>∃ g,(∃ l,o.data = .dict l g)/\h.IsKeyIter j a i C.length g) where
 mem:=by simp
 obj:=λi h st b n=>by
  have e:b=j:=by simpa using n
  subst e;obtain⟨_,_,o,e,c,d⟩:=st;exact⟨o,e,λv z=>by rw[d] at z;cases z⟩
 keep:=λi h A ⟨g,q,o,e,r⟩ k=>⟨g,q,o,k j (by simp) o e,r⟩
 item:=by
  intro X O hw N V i m s W H E I B st R;subst O hw N;obtain⟨g,⟨D,t⟩,st⟩:=st;obtain⟨Q,S⟩:=R;obtain⟨l,f,raw,sz,rows⟩:=Ig I.hok p Q;have:f=g:=by have:=raw.dat;rw[t] at this;cases this;rfl
  subst this;rw[<- sz] at st S;obtain⟨k,J,T⟩:=rows i S;obtain⟨y,U,k4⟩:=Z2 T;obtain⟨F,f1,f2,G,L,M⟩:=B j (by simp);refine Vi raw st S λA x sb=>?_
  have Y:Inv X m W H { s with heap:=A }:=I.turned (t':=s.toks) (λb o n e=>(sb.2 b n).trans e) F f1 G L M;rw[sz] at x;obtain⟨oi,e,c,d⟩:=id x;exact⟨_,rfl,Bj (s:={ s with heap:=A }) e c d (by decide) ⟨y,H,Y,k4,⟨rfl,k,J,U⟩,⟨f,⟨l,raw.dat⟩,x⟩,λb n=>(B b n).1⟩⟩
 done:=by
  intro X O hw N V i m s W H E I B st R;subst O hw N;obtain⟨g,⟨D,t⟩,st⟩:=st;obtain⟨Q,rfl⟩:=R;obtain⟨l,f,raw,sz,rows⟩:=Ig I.hok p Q;have:f=g:=by have:=raw.dat;rw[t] at this;cases this;rfl
  subst this;rw[<- sz] at st;obtain⟨F,f1,f2,G,L,M⟩:=B j (by simp);exact CY (I.ok.hd V) raw st λA Z=>⟨rfl,I.turned (t':=s.toks) (λb o n e=>Z b o n e) F f1 G L M⟩
 self:=λ_ _ _ _ _ ⟨_,_,st⟩ h=>wpAny_pyIter_keyiter st h
noncomputable def sK:fS->D
 | .inl i=>.int i
 | .inr x=>.str x
theorem Df {K:kQ}:∀ k:Aa fS,Reps K A H (k.map sK) (k.map kV)
 | []=>.nil
 | .inl i::k=>.cons (.int i) (Df k)
 | .inr x::k=>.cons (.str x) (Df k)
def Hs (g:Aa (Aa fS×D)):Aa D:=g.map λp=>.t (p.1.map sK)
def uD:MK->D
 | .inl k=>sK k
 | .inr a=>.t (a.map sK)
theorem Zh {K:kQ}:∀ {k:MK}{y:V},Js H k y->Rep K A H (uD k) y
 | .inl (.inl i),_,rfl=>.int i
 | .inl (.inr x),_,rfl=>.str x
 | .inr c,_,⟨b,rfl,a⟩=>.t a (Df c)
def tK (g:Aa (fS×D)):Aa D:=g.map λp=>sK p.1
def Dw:D->Ab (Aa D)
 | .T a=>some (Hs a)
 | .k a=>some (tK a)
 | _=>none
structure YS (K:kQ) (J:It) (ds:List D) (S:Hp->Prop):Prop where
 go:∀ i H,i<ds.length->S H->J.go i H
 yld:∀ i H x H',i<ds.length->S H->J.yld i H x H'->∃ d,ds[i]?=some d/\H'=H/\∀ A,Rep K A H d x
 stop:∀ i H,i=ds.length->S H->J.stop i H
def F3 (g:lP):vG:=λb f e=>g b f λr a=>match r with
 | .v d=>match Dw d with
  | some c=>e c a
  | none=>False
 | _=>False
def Nn (X:Cx) (g:TE):TI:=λe H R=>g e H λx b=>∃ a u c,qL u=some c/\x = .ref a/\((b a=some u/\∀ o,(∀ d u,X.H₀ a≠some (.frz d u))->R (vB a o u c) (upd b a (.frz o u)))\/∃ o,b a=some (.frz o u)/\R (vB a o u c) b)
section
variable {X:Cx}
theorem Pt (g:PE X l j):PI X p l (Nn X j):=by
 intro c s z H R I h;refine kY (g c s z H _ I h) λv i w=>?_
 obtain⟨x,K,k,G,a,u,y,n,e,alt⟩:=w;subst e;cases G;have t:(qL u).isSome=true:=by rw[n];rfl
 obtain⟨o,f,m,d,q⟩:∃ o f,Inv X c z f i/\f a=some (.frz o u)/\R (vB a o u y) f:=by
  rcases alt with⟨d,q⟩ | ⟨o,d,q⟩
  .obtain⟨o,F⟩:=Zt t (k.hok a _ d);exact⟨o,_,k.frozen t d F,nM,q o (k.no_frz t d)⟩
  .exact⟨o,_,k,d,q⟩
 obtain⟨B,A,raw,sz,_⟩:=Ig m.hok n d;have D:∀ b∈[i.heap.objs.size],rL X c f b:=λb E=>by
  have e:b=i.heap.objs.size:=by simpa using E
  subst e;exact m.fpOk (bF _) (m.hok.fresh (bF _))
 refine Sb raw ⟨i.heap.objs.size,[i.heap.objs.size],_,vB a o u y,f,rfl,m.kept (t':=i.toks) λb L q=>aQ _ q,CQ a _ o n,⟨A,⟨B,raw.dat⟩,?_⟩,D,q⟩;exact⟨_,bL _ rfl,rfl,by rw[sz];rfl⟩
def thawQ (X:Cx) (Q:Hp->Prop) (H:Hp):Prop:=Q H\/∃ a o u,(qL u).isSome=true/\H a=some (.frz o u)/\(∀ b u,X.H₀ a≠some (.frz b u))/\Q (upd H a u)
theorem Inv.thawQ (I:Inv X g l H s) (h:L2.thawQ X Q H):∃ j,Inv X g l j s/\Q j:=by
 rcases h with h | ⟨a,o,u,d,c,b,h⟩
 .exact⟨H,I,h⟩
 .exact⟨_,I.thawed d c b,h⟩
theorem X7 (h:PE X e t):PE X e (λg H Q=>t g H λv=>thawQ X (Q v)):=λa s g H Q I q=>by
 refine kY (h a s g H _ I q) λv u b=>?_
 obtain⟨x,n,d,m,i⟩:=b;obtain⟨c,f,k⟩:=d.thawQ i;exact⟨x,c,f,m,k⟩
def Ends.thawQ (X:Cx) (D:Ends):Ends where
 nx:=λa=>L2.thawQ X (D.nx a)
 rt:=λv=>L2.thawQ X (D.rt v)
 bk:=λa=>L2.thawQ X (D.bk a)
 ct:=λa=>L2.thawQ X (D.ct a)
theorem GU {st:Stmt}(h:PS X st t):PS X st (λD g H=>t (D.thawQ X) g H):=λi s g H D I q=>by
 refine kY (h i s g H _ I q) λf n q=>?_
 cases f with
 | next=>obtain⟨a,k,b,d⟩:=q;obtain⟨m,c,e⟩:=b.thawQ d;exact⟨a,_,c,e⟩
 | brk=>obtain⟨a,k,b,d⟩:=q;obtain⟨m,c,e⟩:=b.thawQ d;exact⟨a,_,c,e⟩
 | cont=>obtain⟨a,k,b,d⟩:=q;obtain⟨m,c,e⟩:=b.thawQ d;exact⟨a,_,c,e⟩
 | ret u=>obtain⟨v,a,k,b,r,d⟩:=q;obtain⟨m,c,e⟩:=b.thawQ d;exact⟨v,a,_,c,r,e⟩
theorem Ga {K:kQ}:YS K (vB a o u ks) (ks.map uD) λH=>H a=some (.frz o u):=by
 refine⟨λi H b c=>⟨c,by rw[aA] at b;exact b⟩,?_,λi H b c=>⟨c,by rw[b,aA]⟩⟩;rintro i H x f b c ⟨rfl,k,d,e⟩;exact⟨uD k,by rw[bM,d];rfl,rfl,λA=>Zh e⟩
theorem Pc {T:Aa Af}{j:Aa Nat}{g:sG}{tt:pE}{te:lP}{K:kQ}(aa:j.Nodup){σ:St}{H1:Hp}{Q:VK}{B:Bs}{C:Aa Sl}{Tm:mU}{Φ:Sl->Aa Sl->Prop}{J:It}{ds:Aa L2.D}{S:Hp->Prop}{D:Ad}(l1:C.length=σ.length) (d1:DS K B (C.zip σ++Tm) H1) (Y:YS K J ds S)
  (hS:∀ D,H1 D=none->∀ p L H,DS K (mB B D p) L H->S H)
  (ac:∃ Pv:Nat->Aa L2.D->Aa Sl->Prop,Pv 0 [] (oH j C) /\ (∀ i d p I,ds[i]?=some d->I.length=j.length->Pv i p I->g d (List.replicate T.length Sl.n++I) λae=>tt B.dk ae λb ab=>if b=true then te B.dk ab λr af=>match sd r with
    | some c=>p.length<100000/\Pv (i+1) (p++[c]) (af.drop T.length)
    | none=>False
    else Pv (i+1) p (ab.drop T.length)) /\
   ∀ p I,I.length=j.length->Pv ds.length p I->Φ (.o (.l p)) (oU j I C))
  (k:∀ r U v H',U.length=σ.length->DS K B (U.zip σ++(r,some v)::Tm) H'->Φ r U->Q v H') (hD:H1 D=none):zR T j J (dG K T.length g) (rC K tt) (dE K te) σ H1 Q D :=
 I3 aa l1 d1 (λi p q M H _ d=>⟨λa=>Y.go i H a (hS D hD _ _ _ d),λa=>Y.stop i H a (hS D hD _ _ _ d),λx f a y=>by obtain⟨h,e,rfl,m⟩:=Y.yld i H x f a (hS D hD _ _ _ d) y;exact⟨h,e,d.push (m _)⟩⟩) ac k hD
theorem DS.known2 {K:kQ}(d:DS K B (L++(.v c,some v)::T) H) (p:Dw c=some r) :
  ∃ a u l,v = .ref a/\qL u=some l/\r=l.map uD/\a∉B.dk /\
   ((H a=some u/\∀ o,DS K (oD B a o u) (L++T) (upd H a (.frz o u))/\∀ j g,DS K (oD B a o u) j g->DS K B j (upd g a u)) \/ ∃ o,H a=some (.frz o u)/\DS K (oD B a o u) (L++T) H/\∀ j g,DS K (oD B a o u) j g->DS K B j g):=by
 have hd:=d.drop;have rep:=d.valAt;obtain⟨a,u,l,rfl,al,rd,y,q⟩:∃ a u l,v = .ref a/\Al B (hH (L++T)) a/\Rd H a u/\qL u=some l/\r=l.map uD:=by
  cases c with
  | T f =>
   cases p;obtain⟨a,x,rfl,al,rd,q,_⟩:=rep.dT_inv;refine⟨a,_,_,rfl,al,rd,rfl,?_⟩;have e:Hs f=(f.map (·.1)).map λk=>D.t (k.map sK):=by unfold Hs;rw[List.map_map];rfl
   rw[e,q,aG,aG];rfl
  | k f =>
   cases p;obtain⟨a,x,rfl,al,rd,q,_⟩:=rep.dK_inv;refine⟨a,_,_,rfl,al,rd,rfl,?_⟩;have e:tK f=(f.map (·.1)).map sK:=by unfold tK;rw[List.map_map];rfl
   rw[e,q,aG,aG];rfl
  | _=>cases p
 have h:=al.1;have w:(qL u).isSome=true:=by rw[y];rfl
 refine⟨a,u,l,rfl,y,q,h,?_⟩;rcases rd with i | ⟨s,i⟩
 .refine .inl ⟨i,λo=>⟨hd.fz (o:=o) ⟨λb n=>mD n,w,.inl i,.inr ⟨o,nM⟩⟩ nM al,λj g m=>m.th ⟨λb n=>mD n,w,.inr ⟨o,m.known h⟩,.inl nM⟩ h (λu e=>?_) al.2.2⟩⟩;have:=hd.fr a u e h;rw[i] at this;rw[nM];exact this
 .refine .inr ⟨s,i,hd.fz ⟨λ_ _=>rfl,w,.inr ⟨s,i⟩,.inr ⟨s,i⟩⟩ i al,λj g m=>m.th ⟨λ_ _=>rfl,w,.inr ⟨s,m.known h⟩,.inr ⟨s,m.known h⟩⟩ h (λu e=>?_) al.2.2⟩;have:=hd.fr a u e h;rw[i] at this;rw[m.known h];exact this
theorem Mj {K:kQ}{B:Bs}{a D:Ad}{o:Obj}{u:HO}{p:Aa V}{L:mU}{H g:Hp}(r:a∉B.dk) (j:g a=some (.frz o u)) (C:g D=none) (d:DS K (mB (oD B a o u) D p) L H):H a=some (.frz o u):=by
 have ne:a≠D:=λz=>by rw[z,C] at j;cases j
 refine d.fr a _ ?_ r;show (if a=D then some (.l p) else if a=a then some (HO.frz o u) else B.H0 a)=_;rw[aK ne,aZ rfl]
theorem Vl (l:j.Nodup) (h:dE X.K (wS T.length j (F3 C) g I p) J H Q) :
  Bw T j (Nn X (dE X.K C)) (dG X.K T.length g) (rC X.K I) (dE X.K p) J H λv=>thawQ X (Q v):=by
 obtain⟨B,N,Tm,S,A,hd,F,k⟩:=h;refine⟨B,N,Tm,_,A,hd,F,λr O v P t d1 b=>?_⟩;cases r<;>first | exact False.elim b | skip
 rename_i d
 dsimp only at b;cases n:Dw d with
 | none=>rw[n] at b;exact False.elim b
 | some R =>
  rw[n] at b;obtain⟨a,u,G,rfl,s,rfl,m,alt⟩:=d1.known2 n;have E:(qL u).isSome=true:=by rw[s];rfl
  refine⟨a,u,G,s,rfl,?_⟩;rcases alt with⟨f,y⟩ | ⟨o,f,d2,back⟩
  .refine .inl ⟨f,λo x D c=>?_⟩;obtain⟨d2,back⟩:=y o;exact Pc (B:=oD B a o u) l t d2 Ga (λD c M L H d=>Mj m nM c d) b (λr e v w q i z=>.inr ⟨a,o,u,E,i.known m,x,k r e v _ q (back _ _ i) z⟩) c
  .refine .inr ⟨o,f,λD c=>?_⟩;exact Pc (B:=oD B a o u) l t d2 Ga (λD c M L H d=>Mj m f c d) b (λr e v w q i z=>.inl (k r e v _ q (back _ _ i) z)) c
theorem Pj {iter:Expr}(T o:Aa Af) (r:Aa Nat) (hc:X.calm=true) (hi:PD X iter ti)
  (hk:j.kind = .function) (ho:zX X.N X.env.kindOf j T o r=true)
  (hg:∀ p l C I J,uH (qA X (T++o) j I C p l J) T.length tg g)
  (ht:∀ p l C I J,tN (qA X (T++o) j I C p l J) ab (rC X.K tt))
  (he:∀ p l C I J,PD (qA X (T++o) j I C p l J) aa te)
  (U:r.Nodup:=by decide) (hs:∀ x,foldedSetIterable iter X.env x=pure x:=by intro _;rfl):PD X (.ListComp aa [⟨tg,iter,ab,0⟩] j pos) (wS T.length r (F3 ti) g tt te) :=
 (X7 (C8 T o r hc (Pt hi) hk ho hg ht he hs)).mono λ_ _ _ h=>Vl U h
theorem D5 {iter:Expr}(hp:PassesOwn (model X.prog X.w) X.A X.env X.xe) (j:X.calm=true) (hi:PD X iter ti) (hg:uH X m tg g) (hb:oM X body tb)
  (C:∀ x,foldedSetIterable iter X.env x=pure x:=by intro _;rfl):rE X (.For tg iter body [] pos) (Hv (F3 ti) g tb) :=
 (GU (F6 hp j (Pt hi) hg hb C)).mono λDn l H ab=>ab.elim λB ρ T De hl hd ht I=>by
  refine⟨B,ρ,T,_,hl,hd,ht,λr Z v H1 l1 d1 P=>?_⟩;cases r<;>first | exact False.elim P | skip
  rename_i c
  dsimp only at P;cases j:Dw c with
  | none=>rw[j] at P;exact False.elim P
  | some kd =>
   rw[j] at P;obtain⟨Pv,p0,step,fin⟩:=P;obtain⟨a,u,E,rfl,Q,rfl,dn,alt⟩:=d1.known2 j;have C:(qL u).isSome=true:=by rw[Q];rfl
   have Y:∀ o,_:=λo=>Ga (K:=X.K) (a:=a) (o:=o) (u:=u) (ks:=E)
   have G:∀ (o:Obj) (q:Ends) (F:Hp),DS X.K (oD B a o u) (Z.zip l++T) F->(∀ (e:Aa Sl) (b:St) (f:Hp),e.length=b.length->b.length=l.length->DS X.K (oD B a o u) (e.zip b++T) f->De.nx e->q.nx b f) ->
     (∀ (r:Sl) (v:V) (e:Aa Sl) (b:St) (f:Hp),e.length=b.length->DS X.K (oD B a o u) (e.zip b++(r,some v)::T) f->De.rt r->q.rt v f) ->
     ∃ W:Nat->Nat->St->Hp->Prop,(∃ m,W 0 m l F)/\∀ i n b f,W i n b f->((vB a o u E).stop i f/\q.nx b f)\/((vB a o u E).go i f/\∃ N:St->Hp->Prop,(∀ L t,N L t->∃ m',m'<n/\W (i+1) m' L t)/\∀ x t,(vB a o u E).yld i f x t->dG X.K m g x b t λk H3=>dS X.K tb { nx:=N,ct:=N,bk:=q.nx,rt:=q.rt } k H3):=λo q F d0 S ac=>by
    refine⟨λi m b f=>m=(E.map uD).length-i/\i<=(E.map uD).length/\∃ e,e.length=b.length/\b.length=l.length/\DS X.K (oD B a o u) (e.zip b++T) f/\Pv i e,⟨_,rfl,dR _,Z,l1,rfl,d0,p0⟩,?_⟩;rintro i m b f ⟨rfl,ae,e,m1,m2,U,pv⟩;have Q:=U.known dn;by_cases M:i<(E.map uD).length
    .refine .inr ⟨(Y o).go i f M Q,λk F=>∃ h,h.length=k.length/\k.length=l.length/\DS X.K (oD B a o u) (h.zip k++T) F/\Pv (i+1) h,λk F ⟨h,q1,q2,q3,q4⟩=>⟨_,(by omega:(E.map uD).length-(i+1)<_),rfl,M,h,q1,q2,q3,q4⟩,λx F y=>?_⟩;obtain⟨d,aa,rfl,rx⟩:=(Y o).yld i f x F M Q y;refine⟨oD B a o u,e,T,d,_,m1,U.push (rx _),step i d e aa pv,λh k H3 n1 n2 _ d3 q3=>⟨oD B a o u,h,T,_,n1,d3,q3,?_,?_⟩⟩
     .intro D O J s p R;exact⟨λz=>⟨D,s,by omega,R,z⟩,λz=>S D O J s (by omega) R z,λz=>⟨D,s,by omega,R,z⟩⟩
     .exact λr v D O J s R z=>ac r v D O J s R z
    .have ei:i=(E.map uD).length:=by omega
     subst ei;exact .inl ⟨(Y o).stop _ f rfl Q,S e b f m1 m2 U (fin e pv)⟩
   refine⟨a,u,E,Q,rfl,?_⟩;rcases alt with⟨ha,hh⟩ | ⟨o,ha,d2,back⟩
   .refine .inl ⟨ha,λo h0=>?_⟩;obtain⟨d2,back⟩:=hh o;exact G o _ _ d2 (λe b f s p d z=>.inr ⟨a,o,u,C,d.known dn,h0,(I.1 e b _ s p (back _ _ d)).1 z⟩) λr v e b f s d z=>.inr ⟨a,o,u,C,d.known dn,h0,I.2 r v e b _ s (back _ _ d) z⟩
   .exact .inr ⟨o,ha,G o _ _ d2 (λe b f s p d z=>.inl ((I.1 e b _ s p (back _ _ d)).1 z)) λr v e b f s d z=>.inl (I.2 r v e b _ s (back _ _ d) z)⟩
end
end L2
namespace PySem
open PyProof.Rows L2
section
theorem DK (I:s.heap.IsTupleIter j t i) (T:s.heap.IsTuple t C) (J:C[i]?=some x) (q:∀ g,g.IsTupleIter j t (i+1)->Heap.SameBut j s.heap g->Q x { s with heap:=g }) :
  wpAny (model l w) A (Builtin.SmallTypes.nextOf (.ref j)) Q E s:=by
 obtain⟨o,a,c,ty,b⟩:=Fj I;obtain⟨p,m,v,n,u⟩:=id T;have body:wpAny (model l w) A.in1 (Builtin.«tuple_iterator.__next__» ⟨[.ref j],[]⟩) (λr d=>∃ g,r = .done (.ret x)/\d={ s with heap:=g }/\g.IsTupleIter j t (i+1)/\Heap.SameBut j s.heap g) E s:=by
  show wpAny _ _ (field (.ref j) 0 >>= _) _ _ s;refine aB (dF a c (x:=.ref t) rfl ?_);refine (show wpAny _ _ (field (.ref j) 1 >>= _) _ _ s from aB (dF a c (x:=.int i 0) rfl (aB (eF m u ?_))));simp only[cY,J];exact aB (gZ a c (by simp) (aH ⟨_,rfl,rfl,Q3 a b c,fK ..⟩))
 unfold Builtin.SmallTypes.nextOf;refine aB (cI (name:=Str.ofString "__next__") ty cT (cW cT ty fM (dH body (λr d ⟨g,e,f,h,k⟩=>?_) λ_ _ z=>z) (fH _)));subst e f;exact⟨x,rfl,aH (q g h k)⟩
theorem Y4 (calm:A.handled=none) (I:s.heap.IsTupleIter j t i) (T:s.heap.IsTuple t C) (r:C[i]?=none)
  (q:∀ g e,Heap.ExtBut j s.heap g->(∃ o,g.get? e=some o/\o.cls = .type "StopIteration")->E (.ref e) { s with heap:=g }):wpAny (model l w) A (Builtin.SmallTypes.nextOf (.ref j)) Q E s:=by
 obtain⟨o,a,c,ty,b⟩:=Fj I;obtain⟨p,f,m,n,h⟩:=id T;have body:wpAny (model l w) A.in1 (Builtin.«tuple_iterator.__next__» ⟨[.ref j],[]⟩) (λ_ _=>False) E s:=by
  show wpAny _ _ (field (.ref j) 0 >>= _) _ _ s;refine aB (dF a c (x:=.ref t) rfl ?_);refine (show wpAny _ _ (field (.ref j) 1 >>= _) _ _ s from aB (dF a c (x:=.int i 0) rfl (aB (eF f h ?_))));simp only[cY,r];refine aB (kB (aB (gZ a c (by simp) ?_)));exact Hl calm λg e k z=>q g e (λx o d r=>k x o ((fK ..).extBut x o d r)) z
 unfold Builtin.SmallTypes.nextOf;exact aB (cI (name:=Str.ofString "__next__") ty cT (cW cT ty fM (dH body (λ_ _ z=>z.elim) λ_ _ z=>z) (fH _)))
def El (z TI TO:Ad) (E:Ac->Ae->Prop):Ac->Ae->Prop:=λe a=>IsZip a.heap z TI TO .ellipsis/\∀ b,Heap.SameBut z a.heap b->E e { a with heap:=b }
theorem Pa {z TI TO:Ad}{a b p q:Ac}{Q:Ac->Ae->Prop}(J:IsZip s.heap z TI TO .none) (aa:IsPair s.heap TI a b)
  (go:∀ C,IsZip C z TI TO .ellipsis->Heap.SameBut z s.heap C->wpAny (model g w) A (Builtin.SmallTypes.nextOf a) (λx T=>IsPair T.heap TO p q/\∀ I,IsPair I TO x q->Heap.SameBut TO T.heap I ->wpAny (model g w) A (Builtin.SmallTypes.nextOf b) (λy U=>IsPair U.heap TO x q/\∀ j,IsPair j TO x y->Heap.SameBut TO U.heap j->IsZip j z TI TO .ellipsis /\ ∀ r,IsZip r z TI TO (rawInt j.objs.size)->IsPair r j.objs.size x y->r.objs.size=j.objs.size+1->(∀ c o,c≠z->j.get? c=some o->r.get? c=some o)->Q (.ref j.objs.size) { U with heap:=r }) (El z TI TO E) { T with heap:=I }) (El z TI TO E) { s with heap:=C }) :
  wpAny (model g w) A (Builtin.«zip.__next__» ⟨[.ref z],[]⟩) (λfin l=>∃ v,fin = .done (.ret v)/\Q v l) E s:=by
 have free:wpAny (model g w) A (Builtin.SmallTypes.ownedTupleIsFree (.ref z)) (λx l=>x=true/\l=s) E s:=aB (dF J rfl (x:=.none) rfl (aH ⟨rfl,rfl⟩));have back:∀ {i:Type} {m:Sem i} {R:i->Ae->Prop} {l:Ae},wpAny (model g w) A m R (El z TI TO E) l->wpAny (model g w) A (m.onRaise λ_=>setField (.ref z) 0 .none) R E l:=λ{i m R l} h =>
  wpAny_onRaise (dH h (λ_ _ z=>z) λe Y ⟨d,K⟩=>gJ d (by simp) λr _ O=>K r O)
 unfold Builtin.«zip.__next__»;refine aB (aH (aB (dF J rfl (x:=.bool false) rfl (aB (dF J rfl (x:=.ref TI) rfl (aB (eF aa rfl ?_)))))));refine aB (kY free ?_);rintro _ l ⟨rfl,rfl⟩;simp only[fX];refine aB (kB (aB (dF J rfl (x:=.ref TO) rfl (aB (gJ J (by simp) λC P d=>?_)))));simp only[List.zipIdx_cons,List.zipIdx_nil,jQ,List.forIn_nil,bind_assoc];refine aB (back (aB (kY (go C P d) λx T ⟨B,g2⟩=>aH ?_)));refine aB (aB (eF B rfl (aB (wpAny_updateSeq_pair B λI N L=>aB (wpAny_letGo (aH ?_))))));refine aB (aB (back (aB (kY (g2 I N L) λy U ⟨D,H⟩=>aH ?_))));refine aB (aB (eF D rfl (aB (wpAny_updateSeq_pair D λj F M=>aB (wpAny_letGo (aH (aH ?_)))))));obtain⟨G,fin⟩:=H j F M;have f:z<j.objs.size:=bK G;refine aB (eF F rfl (aB (wpAny_newTuple ?_ (hsz:=(show 2<=sizeLine by decide)))));have S:IsZip (j.push (seqObj "tuple" #[x,y] 0)) z TI TO .ellipsis:=aQ _ G;refine aB (show wpAny _ _ (setField (.ref z) 0 (rawInt j.objs.size) >>= λ_=>setField (.ref z) 1 (.bool false)) _ _ _ from aB (gJ S (by simp) λX V t=>gJ V (by simp) λk W u=>?_));have up:∀ c o,c≠z->(j.push (seqObj "tuple" #[x,y] 0)).get? c=some o->k.get? c=some o:=λc o n e=>u.extBut _ _ n (t.extBut _ _ n e)
 refine aH ⟨_,rfl,fin k W (up _ _ (Nat.ne_of_gt f) (bL _ rfl)) (by rw[u.1,t.1,dN]) λc o n e=>up c o n (aQ _ e)⟩
end
def B9 (a b:Ac):Obj:={ cls:=.type "tuple",data:=.seq #[a,b] }
def Q6 (a b:Ad):Obj:={ cls:=.type "zip",data:=.fields #[.none,.bool false,.bool false,.ref a,.ref b] }
end PySem
namespace L2
open PySem PySem.Spec PyProof.Rows Lw
section
variable {X:Cx}{K:kQ}
def vo (i:Nat):lP:=λ_ a b=>match a[i]? with
 | some (.o d)=>b (.o d) (a.set i .n)
 | _=>False
theorem Hi (i:Nat) (h:PE X (.Name x pos) (pA i)):PD X (.Name x pos) (vo i):=h.mono λG H Q q=>q.elim λB E T F m hd c k=>by
 unfold vo at c;cases f:E[i]? with
 | none=>rw[f] at c;exact False.elim c
 | some s =>
 rw[f] at c;cases s<;>first | exact False.elim c | skip
 .rename_i d
  obtain⟨a,y,b,t,_,z,e⟩:=uA m f;have u:=e .n y;rw[Ak t] at u;obtain⟨v,w,_⟩:=hd.peek m (d:=d) (i:=i) (by unfold at?;rw[f];rfl);rw[t] at w;cases w;refine⟨v,t,k _ _ v H (by rw[bY];exact m) ?_ c⟩;rw[z,bB,cQ] at hd;rw[u,bB,cQ];have d1:DS X.K B ((.o d,some v)::(a++(b++T))) H:=hd.perm gE;have d2:DS X.K B (((.o d,some v)::a)++(Sl.n,some v)::(b++T)) H:=DS.pushN (L1:=(.o d,some v)::a) (L2:=b++T) d1 (some v);refine d2.perm ?_;have A:(((Sl.o d,some v)::a)++(Sl.n,some v)::(b++T)).Perm ((Sl.o d,some v)::(a++(Sl.n,some v)::b++T)):=by simp
  refine A.trans ?_;have D:((Sl.o d,some v)::(a++(Sl.n,some v)::b++T)).Perm ((a++(Sl.n,some v)::b)++(Sl.o d,some v)::T):=gE.symm;refine D.trans (by simp)
end
theorem Uf (h:uW k v=true):lA (kV k) v:=by
 rcases tT h with⟨i,t,rfl,rfl⟩ | ⟨x,t,rfl,rfl⟩
 .exact⟨t,rfl⟩
 .exact⟨t,rfl⟩
end L2
namespace Lw
open PySem L2
def vT (t:mS):Aa (fS×V):=t.map λp=>(Sum.inr p.1,V.int p.2)
noncomputable def sR (t:mS) (x:Af) (i:Int):mS:=if x∈t.map (·.1) then t.map (λp=>if p.1=x then (p.1,i) else p) else t++[(x,i)]
theorem Y3 (t:mS) (x:Af) (i:Int):pC (vT t) (Sum.inr x) (.int i)=vT (sR t x i):=by
 unfold pC sR;have e:((vT t).any λa=>decide (a.1=(Sum.inr x:fS)))=decide (x∈t.map (·.1)):=by
  rw[gL];simp only[vT,List.any_map,hX,cS,eD,aD,Sum.inr.injEq]
 rw[e];by_cases h:x∈t.map (·.1)
 .rw[aZ (aV h),aZ h];unfold vT;rw[aG,aG];refine bZ λp _=>?_
  show (if (Sum.inr p.1:fS)=Sum.inr x then ((Sum.inr p.1:fS),V.int i) else (Sum.inr p.1,V.int p.2))=(Sum.inr (if p.1=x then (p.1,i) else p).1,V.int (if p.1=x then (p.1,i) else p).2);by_cases q:p.1=x
  .rw[aZ (by rw[q]),aZ q]
  .rw[aK (λz=>q (dD z)),aK q]
 .rw[aK (by simp[h]),aK h];unfold vT;rw[List.map_append];rfl
theorem Jk (t:mS) (x:Af) (i:Int):nN (eW t) (Sum.inr x) (.int i)=eW (sR t x i):=by
 unfold nN sR;have e:((eW t).any λa=>decide (a.1=(Sum.inr x:fS)))=decide (x∈t.map (·.1)):=by
  rw[gL];simp only[eW,List.any_map,hX,cS,eD,aD,Sum.inr.injEq]
 rw[e];by_cases h:x∈t.map (·.1)
 .rw[aZ (aV h),aZ h];unfold eW;rw[aG,aG];refine bZ λp _=>?_
  show (if (Sum.inr p.1:fS)=Sum.inr x then ((Sum.inr p.1:fS),D.int i) else (Sum.inr p.1,D.int p.2))=(Sum.inr (if p.1=x then (p.1,i) else p).1,D.int (if p.1=x then (p.1,i) else p).2);by_cases q:p.1=x
  .rw[aZ (by rw[q]),aZ q]
  .rw[aK (λz=>q (dD z)),aK q]
 .rw[aK (by simp[h]),aK h];unfold eW;rw[List.map_append];rfl
theorem S8 (t u:mS) (x:Af):look (t++u) x=if x∈t.map (·.1) then look t x else look u x:=by
 induction t with
 | nil=>rw[fW,aK (by simp)]
 | cons p t a =>
  rw[cQ,vS,vS];by_cases e:p.1=x
  .rw[aZ e,aZ e,aZ (by rw[<- e];exact aT)]
  .rw[aK e,aK e,a,bH];by_cases q:x∈t.map (·.1)
   .rw[aZ q,aZ (bD _ q)]
   .rw[aK q,aK (λz=>(aI.mp z).elim (λz=>e z.symm) q)]
theorem Qo {K:kQ}:∀ (t:mS) (g:Aa (fS×V)),(eW t).map (·.1)=g.map (·.1)->Reps K A H ((eW t).map (·.2)) (g.map (·.2))->g=vT t:=λt=>by
 induction t with
 | nil =>
  intro g k r;cases g with
  | nil=>rfl
  | cons p q=>simp[eW] at k
 | cons p t d =>
  intro g k r;cases g with
  | nil=>simp[eW] at k
  | cons q g =>
   obtain⟨e,i⟩:=q;simp only[eW,bH,eV] at k r;cases r with
   | cons f h =>
    have a:=d g k.2 h;have b:=f.int_inv;have c:Sum.inr p.1=e:=k.1;subst a b c;rfl
theorem Ys (t:mS):(eW t).map (·.1)=(vT t).map (·.1):=by simp[eW,vT,cS]
theorem Nq {K:kQ}:∀ t:mS,Reps K A H ((eW t).map (·.2)) ((vT t).map (·.2))
 | []=>.nil
 | _::t=>.cons (.int _) (Nq t)
theorem Wj {K:kQ}(h:H a=some (.k (vT t))):nU K A H a (.k (eW t)):=⟨vT t,h,Ys t,Nq t⟩
theorem Yj (g:(t.map (·.1)).Nodup) (h:p∈t):nV (vT t) (Sum.inr p.1)=some (.int p.2):=by
 induction t with
 | nil=>cases h
 | cons q t a =>
  obtain⟨c,d⟩:=bX.mp g;show ((((Sum.inr q.1:fS),V.int q.2)::vT t).find? λb=>decide (b.1=Sum.inr p.1)).map (·.2)=_;rw[cX];rcases aI.mp h with z | z
  .subst z;rw[aV rfl];rfl
  .have:¬ (Sum.inr q.1:fS)=Sum.inr p.1:=λe=>c (by show q.1∈t.map (·.1);rw[dD e];exact aU (f:=λp:Af×Int=>p.1) z)
   rw[aP this];exact a d z
theorem FI:∀ {x:Af},x∈t.map (·.1)->(x,look t x)∈t:=by
 induction t with
 | nil=>intro x h;simp at h
 | cons p t a =>
  intro x h;rw[vS];by_cases e:p.1=x
  .rw[aZ e,<- e];exact aT
  .rw[aK e];exact bD _ (a ((aI.mp h).resolve_left λz=>e z.symm))
theorem xC (g:(t.map (·.1)).Nodup) (h:p∈t):look t p.1=p.2:=by
 induction t with
 | nil=>cases h
 | cons q t a =>
  obtain⟨b,c⟩:=bX.mp g;rw[vS];rcases aI.mp h with z | z
  .subst z;rw[aZ rfl]
  .rw[aK (λe=>b (by show q.1∈t.map (·.1);rw[e];exact aU (f:=λp:Af×Int=>p.1) z)),a c z]
theorem Ux (g:(t.map (·.1)).Nodup) (h:x∈t.map (·.1)):nV (vT t) (Sum.inr x)=some (.int (look t x)):=Yj g (p:=(x,look t x)) (FI h)
end Lw
namespace L2
open PySem PySem.Spec PyProof.Rows Lw
def S5 (n m:Nat) (g:lP):oB:=λd c b=>∃ (t:mS) (x:Af),b[n]?=some (.o (.k (eW t)))/\b[m]?=some (.v (.str x))/\x∈t.map (·.1)/\(t.map (·.1)).Nodup/\t.length<=1000/\g d b λr a=>match r with
 | .v (.int j)=>a[n]?=some (.o (.k (eW t)))/\c.nx (a.set n (.o (.k (eW (sR t x (look t x+j))))))
 | _=>False
section
variable {X:Cx}
theorem U9 (hu:X.A.units+1<cLine) (U:PE X o (pA n)) (J:PE X i (pA m)) (I:PD X e te) (C:∀ l g new,augStore i l g new=(do holding [new,l,g] (setItem l g new);release [new,l,g] [];pure .next):=by intros;rfl) :
  rE X (.AugAssign (.Subscript o i p) .Add e pos) (S5 n m te) :=
 (W5 hu U J I Yg C).mono λDn σ H u=>u.elim λB ρ T De s hd w S=>by
  obtain⟨t,x,P,O,R,V,lt,w⟩:=w;obtain⟨b,G,Y,_⟩:=hd.slotW s P;obtain⟨v,Q,pv⟩:=hd.peek s (d:=.str x) (i:=m) (by unfold at?;rw[O];rfl);have:=pv.str_inv;subst this;obtain⟨D,K,M,W⟩:=Y;rw[Qo t D M W] at K;refine⟨_,G,_,Q,b,.int (look t x),rfl,?_,B,ρ,T,_,s,hd,w,λr aa y H' L d1 a=>?_⟩
  .have:=rB.k (k:=(Sum.inr x:fS)) K;rw[Ux V R] at this;exact this
  cases r<;>first | exact False.elim a | skip
  rename_i d
  cases d<;>first | exact False.elim a | skip
  rename_i j
  have:=d1.valAt.int_inv;subst this;obtain⟨N,a⟩:=a;obtain⟨b',c,F,Z⟩:=d1.drop.slotW L N;rw[G] at c;cases c;obtain⟨h,f,q,E⟩:=F;rw[Qo t h q E] at f;have z:(vT t).length<sizeLine:=by unfold vT;rw[List.length_map];exact dM lt (by decide)
  refine⟨_,_,rfl,rfl,_,uK.k (k:=Sum.inr x) f z,?_⟩;rw[Y3];exact (S.1 _ _ _ (by rw[bY];exact L) rfl (Z _ (.k (eW (sR t x (look t x+j)))) λA' kp=>Wj nM)).1 a
end
end L2
namespace Lw
open PySem L2
theorem qU (g:Aa Af):uB (g.map D.str)=some (g.map V.str):=Fq (λ_=>rfl) g
theorem qC:∀ g:Aa Af,zD (.str x) (g.map V.str)=decide (x∈g)
 | []=>by simp[zD]
 | y::g=>by
  have a:=qC (x:=x) g;unfold zD at a |-;rw[bH,fO,a];by_cases e:x=y
  .subst e;have:pH (V.str x) (V.str x)=true:=jJ x;simp[this]
  .have:pH (V.str y) (V.str x)=false:=by
    show (y == x)=false;exact dP.mpr λz=>e z.symm
   have:pH (V.str x) (V.str y)=false:=by
    show (x == y)=false;exact dP.mpr e
   simp[*]
theorem Gj {v:Af->Int}{o:Af}:∀ {os:Aa Af},o∈os->look (os.map λx=>(x,v x)) o=v o
 | [],h=>by simp at h
 | a::r,h=>by
  rw[bH,vS];by_cases q:a=o
  .rw[aZ q,q]
  .rw[aK q];rcases aI.mp h with z | z
   .exact absurd z.symm q
   .exact Gj z
theorem Kk {v:Af->Int}{o:Af}{os:Aa Af}(h:o∈os):kR (eW (os.map λx=>(x,v x))) (Sum.inr o)=some (.int (v o)):=by
 rw[(rJ _ o).1 (by simpa [cS] using h),Gj h]
theorem nI {p q:Prop}{c:Bool}(h:c=false) (g:q):if c=true then p else q:=by rw[aK (by rw[h];decide)];exact g
theorem oI {p q:Prop}{c:Bool}(h:c=true) (g:p):if c=true then p else q:=by rw[aZ h];exact g
theorem Kd:∀ (j:Aa (Af×Af×Aa Af)) (kn:Aa Af) (l:Af->Int),(∀ x∈kn,mI (l x))->∀ x∈kn++j.map (·.1),mI (oZ l j x)
 | [],kn,l,h,x,a=>h x (by simpa using a)
 | g::j,kn,l,h,x,a=>by
  refine Kd j (kn++[g.1]) _ (λy b=>?_) x (by simpa using a);by_cases e:y=g.1
  .show mI (if y=g.1 then _ else _);rw[aZ e];exact Im _ _
  .show mI (if y=g.1 then _ else _);rw[aK e];rcases aY.mp b with z | z
   .exact h y z
   .exact absurd (aW.mp z) e
theorem Tr (g:Aa Af) (v:Af->Int):(g.map (Sum.inr:Af->fS)).zip (g.map λo=>D.int (v o))=eW (g.map λo=>(o,v o)):=by
 induction g with
 | nil=>rfl
 | cons a r b=>rw[bH,bH,fR,b];rfl
theorem CN (g:GC C) (h:∀ x∈C.ins,mI (j x)):∀ o∈C.outs,mI (tW C j o):=λo a=>Kd C.gates C.ins j h o (g.os o a)
theorem Va (g:Aa Af) (v:Af->Int):Bf (.v (.t (g.map λo=>D.int (v o))))=true:=by
 show sB (g.map λo=>D.int (v o))=true;induction g with
 | nil=>rfl
 | cons p t a=>exact a
noncomputable def sN (f:Nat->Int):Nat->Int
 | 0=>0
 | n+1=>sN f n+f n
theorem Jj:∀ n,(∀ i,i<n->f i=g i)->sN f n=sN g n
 | 0,_=>rfl
 | n+1,h=>by
  show sN f n+f n=sN g n+g n;rw[Jj n λi a=>h i (by omega),h n (by omega)]
theorem E9:(["output","name"]:Aa Af).Nodup:=by decide +kernel
theorem Na:(["name","carried"]:Aa Af).Nodup:=by decide +kernel
def kS (C:Cel) (g:Aa (Af×Af)):D:=.t [oW C,.t (g.map λp=>D.t [.str p.1,.str p.2])]
noncomputable def lJ (C:Cel) (g:Aa (Af×Af)):Aa Af:=C.ins.filter λx=>!decide (x∈g.map (·.2))
noncomputable def hI (C:Cel) (g:Aa (Af×Af)):Aa Af:=C.outs.filter λx=>!decide (x∈g.map (·.1))
def A8:RD:=λd b c=>∃ C a,b=[kS C a]/\a.length<=100/\c (.o (.l (a.map λp=>D.str p.2)))
def Bz:RD:=λd b c=>∃ C a,b=[kS C a]/\a.length<=100/\C.ins.length<=100/\c (.o (.l ((lJ C a).map D.str)))
def Gm:RD:=λd b c=>∃ C a,b=[kS C a]/\a.length<=100/\C.outs.length<=100/\c (.o (.l ((hI C a).map D.str)))
section
variable {P:Ah}{K:kQ}
theorem Te:FnScope ["row"] ["row"] (lQ Aw):=mO
theorem Lc:FnScope ["row","carried"] ["row"] (lQ By):=mO
theorem Mw:FnScope ["row","carried"] ["row"] (lQ As):=mO
theorem Tc:mM P w K g base 1 "carried_inputs" Aw ["row"] A8:=by
 refine mT Te λf d A b s H E x y G z u q=>?_
 obtain⟨C,c,rfl,B,a⟩:=q;refine⟨_,(kX (lX (mF ["output","name"] [] [] (lK (hB u 0 eI)) (λ_ _ _ _ _=>(nK (n:=2) rfl (lL (hO 0 E9) (lL (hO 1 E9) nJ)))) (λ_ _ _ _ _=>(eH 1))))),?_⟩;unfold oS;exact mC c (λp=>D.t [.str p.1,.str p.2]) (λp=>D.str p.2) _ (λL h=>⟨rfl,_,rfl,h⟩) (by omega) (λi p F v e k m=>⟨rfl,rfl,k,m⟩) a
theorem DL (g:Kn P w K j base 1 "carried_inputs" Aw ["row"] A8):mM P w K j base 2 "word_inputs" By ["row"] Bz:=by
 refine mT Lc λf k A d s H E L M R z b y=>?_
 obtain⟨C,a,rfl,B,O,c⟩:=y;refine⟨_,(gD (kZ 1 Lc.nd (lD g z (dK (eH 0) eJ))) (kX (lX (mF ["name"] ["carried"] [1] (lK (lV b (hB b 0 eI) eI)) (λ_ _ _ _ _=>(hO 0 Na)) (λ_ _ _ _ _=>(eH 0)) (ht:=λ_ _ _ _ _=>(uI (vK (rF b) (qQ true) (eH 0) (pv 1)))))))),?_⟩;refine gV (λF=>F=_) (λN v=>⟨C,a,rfl,B,.inl rfl,v _ rfl⟩) ?_;rintro _ rfl;unfold oS;refine sV C.ins D.str D.str (λx=>!decide (x∈a.map λp:Af×Af=>p.2)) _ (λS h=>⟨rfl,_,rfl,_,rfl,h⟩) (by omega) (λi x Q G e n t u=>?_) c;have m:(a.map λp=>D.str p.2)=(a.map (·.2)).map D.str:=by rw[aG];rfl
 refine⟨.str x,(a.map (·.2)).map V.str,rfl,by rw[m];exact qU _,?_⟩;rw[qC];show if (!decide (x∈a.map (·.2)))=true then _ else _
 by_cases q:x∈a.map (·.2)
 .exact nI (by rw[aV q];rfl) (u (by rw[aV q];rfl))
 .exact oI (by rw[aP q];rfl) ⟨n,t (by rw[aP q];rfl)⟩
theorem Ul:mM P w K g base 1 "word_outputs" As ["row"] Gm:=by
 refine mT Mw λf y A m s H E Q R Y S b G=>?_
 obtain⟨C,a,rfl,X,W,k⟩:=G;refine⟨_,(gD (kZ 1 Mw.nd (mF ["output","name"] [] [] (lK (hB b 0 eI)) (λ_ _ _ _ _=>(nK (n:=2) rfl (lL (hO 0 E9) (lL (hO 1 E9) nJ)))) (λ_ _ _ _ _=>(eH 0)))) (kX (lX (mF ["name"] ["carried"] [1] (lK (lV b (hB b 0 eI) eI)) (λ_ _ _ _ _=>(hO 0 Na)) (λ_ _ _ _ _=>(eH 0)) (ht:=λ_ _ _ _ _=>(uI (vK (rF b) (qQ true) (eH 0) (pv 1)))))))),?_⟩;refine gV (λO=>O=[.v (kS C a),.o (.l (a.map λp=>D.str p.1))]) (λN F=>?_) ?_
 .unfold mV;exact mC a (λp=>D.t [.str p.1,.str p.2]) (λp=>D.str p.1) _ (λM h=>⟨rfl,_,rfl,h⟩) (by omega) (λi p L u e c d=>⟨rfl,rfl,c,d⟩) (F _ rfl)
 rintro _ rfl;unfold oS;refine sV C.outs D.str D.str (λx=>!decide (x∈a.map λp:Af×Af=>p.1)) _ (λM h=>⟨rfl,_,rfl,_,rfl,h⟩) (by omega) (λi x L u e c d B=>?_) k;have z:(a.map λp=>D.str p.1)=(a.map (·.1)).map D.str:=by rw[aG];rfl
 refine⟨.str x,(a.map (·.1)).map V.str,rfl,by rw[z];exact qU _,?_⟩;rw[qC];show if (!decide (x∈a.map (·.1)))=true then _ else _
 by_cases q:x∈a.map (·.1)
 .exact nI (by rw[aV q];rfl) (B (by rw[aV q];rfl))
 .exact oI (by rw[aP q];rfl) ⟨c,d (by rw[aP q];rfl)⟩
end
def nQ (g:Aa Int):Nat:=max 1 g.length
def pX (g:Aa Int) (k:Nat):Int:=((g++[0])[k%nQ g]?).getD 0
def D4 (c:Int):Nat->Int
 | 0=>c
 | t+1=>D4 c t/1000003
def wI (g:Aa Int) (k:Nat):Int:=(pX g k%2147483629+17+68209*((k/nQ g:Nat):Int))*47791%2147483629
def yE (g:Aa Int) (k:Nat):Int:=if 10 ^ 18<=pX g k\/pX g k <= -(10 ^ 18) then D4 (pX g k) (min (k/nQ g) 60)%1000003 else wI g k*wI g k%2147483587*38839%2147483579
def kW (g:Aa Int) (k:Nat):Nat:=(yE g k).toNat
theorem Uh (g:Aa Int) (k:Nat):yE g k=(kW g k:Int):=by
 have h:0<=yE g k:=by
  unfold yE;split
  .exact gP _ (by decide)
  .exact gP _ (by decide)
 unfold kW;omega
def vD:RD:=λe b d=>∃ (a:Aa Int) (k:Nat),b=[.c (a.map D.int),.int k]/\a.length<=63/\k<=1000/\d (.v (.int (kW a k)))
theorem Bh (a b:Bool) (o:∀ g:Bool->Aa Sl->Prop,g a j->t l j g) (p:∀ g:Bool->Aa Sl->Prop,g b j->u l j g) (k:r (a||b) j):Bx t u l j r:=by
 unfold Bx;refine o _ ?_;cases a
 .exact p _ k
 .exact k
section
variable {P:Ah}{K:kQ}
theorem wQ:FnScope ["script","k","many","cell","turn","mixed"] ["script","k"] (lQ tS):=mO
theorem Xf (T:Txt r):mM P w K r base 1 "_law_draw" tS ["script","k"] vD:=by
 refine mT wQ λf V A R s H E J U Φ hr p W=>?_
 obtain⟨a,k,rfl,g,Z,b⟩:=W;rw[<- Uh] at b;refine⟨_,(gD (kZ 2 wQ.nd (nF (Iw rfl) Hu T.max jG (dK eI (dK (nF pJ pN T.len cH (dK (eH 0) eJ)) eJ)))) (gD (kZ 3 wQ.nd (lV p (kT lO lM (lZ yP zU T.list dY (dK (eH 0) eJ)) (qR (dK eI eJ))) (mK mQ mR 1 (eH 2)))) (gD (nW (vO (yK (oO Oa O0 (pv 3) (kT Rh Nt eI eI)) (B4 (oO Ix JA (pv 3) (Ie (kT Rh Nt eI eI)))))) (gD (oE (tU (by rfl) T.range (nF (Hd rfl) Jl T.min jF (dK (mK uV vA 1 (eH 2)) (dK eI eJ)))) (hO 4 wQ.nd) (kX (kZ 3 wQ.nd (mK uV vA 3 eI)))) (kX (lX (mK mQ mR 3 eI)))) nT) (gD (kZ 5 wQ.nd (kT mQ mR (kT tJ tM (kT lO lM (kT lO lM (mK mQ mR 3 eI) eI) (kT tJ tM eI (mK uV vA 1 (eH 2)))) eI) eI)) (gD (kZ 5 wQ.nd (kT mQ mR (mK tJ tM 5 (eH 5)) eI)) (kX (lX (kT mQ mR (mK tJ tM 5 eI) eI)))))))),?_⟩;have M:1<=nQ a:=Nat.le_max_left _ _;have l:nQ a<=63:=Nat.max_le.mpr ⟨by decide,g⟩;refine gV (λu=>u=[.v (.c (a.map D.int)),.v (.int k),.v (.int (nQ a)),.n,.n,.n]) (λN x=>?_) ?_
 .refine⟨rfl,_,rfl,λm j G S=>?_⟩;have e:(a.map D.int).length=a.length:=aA ..;rw[e] at j S;have:m=(nQ a:Int):=by unfold nQ;omega
  rw[this];exact x _ rfl
 rintro _ rfl;have X:nH (a.map D.int++[D.int 0]) ((k:Int)%(nQ a:Int))=some (.int (pX a k)):=by
  have Y:k%nQ a<(a++[0]).length:=by
   rw[aO,List.length_singleton];have:=cV k M;unfold nQ at this |-;omega
  have e:a.map D.int++[D.int 0]=(a++[0]).map D.int:=by rw[aF];rfl
  rw[e,show (k:Int)%(nQ a:Int)=((k%nQ a:Nat):Int) by norm_cast];refine pL ?_;unfold pX;rw[bM,aR Y];rfl
 refine gV (λu=>u=[.v (.c (a.map D.int)),.v (.int k),.v (.int (nQ a)),.v (.int (pX a k)),.n,.n]) (λN x=>?_) ?_
 .exact⟨_,rfl,by show 1<=1000;decide,by show (a.map D.int).length+1<=100000;rw[aA];omega,rfl,by show (0:Int)<nQ a;omega,_,X,x _ rfl⟩
 rintro _ rfl;have O:(k:Int)/(nQ a:Int)=((k/nQ a:Nat):Int):=by norm_cast
 have Q:k/nQ a<=1000:=bS (Nat.div_le_self _ _) Z;generalize B:k/nQ a=t at O Q;refine gV (λu=>¬ (10 ^ 18<=pX a k\/pX a k <= -(10 ^ 18))/\u=[.v (.c (a.map D.int)),.v (.int k),.v (.int (nQ a)),.v (.int (pX a k)),.n,.n]) (λN x=>?_) ?_
 .unfold vP;refine Bh (decide (10 ^ 18<=pX a k)) (decide (pX a k <= -(10 ^ 18))) (λC h=>⟨rfl,⟨by decide,by decide,by decide⟩,h⟩) (λC h=>⟨rfl,⟨by decide,by decide,by decide⟩,h⟩) ?_;by_cases y:10 ^ 18<=pX a k\/pX a k <= -(10 ^ 18)
  .refine oI (by rw[jR,eD,eD];exact y) ?_;unfold yE at b;rw[aZ y,B] at b;refine gV (λu=>∃ F,u=[.v (.c (a.map D.int)),.v (.int k),.v (.int (nQ a)),.v (.int (D4 (pX a k) (min t 60))),F,.n]) (λI L=>?_) ?_
   .refine⟨rfl,⟨by show (0:Int)<nQ a;omega,by show (nQ a:Int)<2 ^ 64;omega⟩,?_⟩;refine λq o G S=>?_
    rw[O] at o G;obtain rfl:q=((min t 60:Nat):Int):=by omega
    refine⟨by omega,by omega,λi u=>∃ F,u=[.v (.c (a.map D.int)),.v (.int k),.v (.int (nQ a)),.v (.int (D4 (pX a k) i)),F,.n],⟨.n,rfl⟩,?_,λu h=>L _ ?_⟩
    .rintro i d u hd ⟨F,rfl⟩;exact⟨rfl,⟨by show (0:Int)<1000003;decide,by show (1000003:Int)<2 ^ 64;decide⟩,_,rfl⟩
    .have e:(nL 0 ((min t 60:Nat):Int).toNat).length=min t 60:=by rw[cY];simp[nL]
     rw[e] at h;exact h
   rintro _ ⟨F,rfl⟩;exact⟨rfl,by show (0:Int)<1000003;decide,b⟩
  .exact nI (by rw[Bool.eq_false_iff,ne_eq,jR,eD,eD];exact y) (x _ ⟨y,rfl⟩)
 rintro _ ⟨y,rfl⟩;unfold yE at b;rw[aK y] at b;have big:∀ z:Int,0<=z->z<2147483648->-(2 ^ 64:Int)<z/\z<2 ^ 64:=λz h0 G=>by omega
 have mx:0<=wI a k/\wI a k<2147483648:=⟨gP _ (by decide),Int.lt_trans (iM _ (by decide)) (by decide)⟩;refine gV (λu=>u=[.v (.c (a.map D.int)),.v (.int k),.v (.int (nQ a)),.v (.int (pX a k)),.n,.v (.int (wI a k))]) (λN x=>?_) ?_
 .refine⟨rfl,by show (0:Int)<2147483629;decide,rfl,⟨by show (0:Int)<nQ a;omega,by show (nQ a:Int)<2 ^ 64;omega⟩,.inl ⟨by decide,by decide⟩,.inr ⟨by decide,by decide⟩,by show (0:Int)<2147483629;decide,x _ ?_⟩;unfold wI;rw[B,<- O];rfl
 rintro _ rfl;refine gV (λu=>u=[.v (.c (a.map D.int)),.v (.int k),.v (.int (nQ a)),.v (.int (pX a k)),.n,.v (.int (wI a k*wI a k%2147483587))]) (λN x=>?_) ?_
 .exact⟨rfl,.inl (big _ mx.1 mx.2),by show (0:Int)<2147483587;decide,x _ rfl⟩
 rintro _ rfl;exact⟨rfl,.inr ⟨by decide,by decide⟩,by show (0:Int)<2147483579;decide,b⟩
end
end Lw
namespace L2
open PySem PySem.Spec PyProof.Rows
def O7:R2:=λx y H Q=>∃ (z:Af) (n:Int),x = .str z/\y = .int n/\0<=n/\n<=100/\z.length<=100/\Q (.str (Txt.mul z n)) H
section
variable {X:Cx}{K:kQ}
theorem L9:lH X (binaryOp .Mult) O7:=by
 intro b s A H x y v u Q I d e h;obtain⟨z,n,rfl,rfl,f,i,c,q⟩:=h;obtain⟨t,rfl⟩:=d;obtain⟨w,rfl⟩:=e;refine SB.mul ⟨?_,λm _=>?_,λ_ _=>?_⟩ λt k=>⟨.str _,H,I.tok _,⟨_,rfl⟩,q⟩
 .rw[aP (by omega),aP (by omega)];rfl
 .have a:(100:Int)<=(2 ^ 63-1)/n:=Int.le_ediv_of_mul_le (by omega) (by omega);omega
 .have a:z.length*n.toNat<=100*100:=Nat.mul_le_mul c (by omega);exact aP (kM.mpr (bS a (by decide)))
def CS:O2
 | .str z,.int n,a=>0<=n/\n<=100/\z.length<=100/\a (.v (.str (Txt.mul z n)))
 | _,_,_=>False
theorem Qq:nD K O7 CS:=by
 intro B L H d e x y f Q hd b c a k;cases d<;>first | exact False.elim a | skip<;>cases e<;>first | exact False.elim a | skip
 cases b;cases c;exact⟨_,_,rfl,rfl,a.1,a.2.1,a.2.2.1,k _ _ H a.2.2.2 (hd.pushF (.str _))⟩
end
end L2
namespace Lw
open PySem L2
def Fh (c:Nat):Af:=⟨#[97+c]⟩
def oP (g:Aa Int):Af:=Fh (kW g 0%26)
def nZ (g:Aa Int):Nat:=kW g 1%7
def pQ (g:Aa Int):Nat:=kW g 2%(7-nZ g)
def Ek (g:Aa Int) (i:Nat):Af:=Fh ((i+kW g 3)%26)
def nP (g:Aa Int) (i:Nat):Af:=Txt.mul (oP g) (nZ g:Int)++Ek g i++Txt.mul (oP g) (pQ g:Int)
def mN (g:Aa Int) (i:Nat):Af:=if kW g 8%4=1 then Ek g i else (if i%2=1/\(nP g i).length<7 then nP g i++oP g else nP g i) ++ "x"
def B0:Af := "abcdefghijklmnopqrstuvwxyz"
theorem V7 {k:Nat}(h:k<26):nH B0.cps.toList (k:Int)=some (97+k):=by
 have a:∀ k:Fin 26,B0.cps.toList[k.val]?=some (97+k.val):=by decide +kernel
 exact pL (a ⟨k,h⟩)
theorem Kq (z:Nat):nH B0.cps.toList ((z:Int)%26)=some (97+z%26):=by
 rw[show (z:Int)%26=((z%26:Nat):Int) by omega];exact V7 (cV _ (by decide))
theorem pI (x y:Af):(x++y).cps.toList=x.cps.toList++y.cps.toList:=by
 show (x.cps++y.cps).toList=_;rw[Array.toList_append]
theorem oX (x:Af):x.length=x.cps.toList.length:=eU.symm
theorem yD (c:Nat) (n:Nat):(Txt.mul (Fh c) (n:Int)).cps.toList=List.replicate n (97+c):=by
 have f:∀ m (a:Array Nat),((List.replicate m (#[97+c]:Array Nat)).foldl (·++·) a).toList=a.toList++List.replicate m (97+c):=λm=>by
  induction m with
  | zero=>intro a;simp
  | succ m b=>intro a;rw[cU,List.foldl_cons,b,Array.toList_append,bB];rfl
 unfold Txt.mul
 match n with
 | 0=>rw[aZ (by decide)];rfl
 | 1=>rw[aK (by decide),aZ (by simp)];rfl
 | n+2 =>
  rw[aK (by omega),aK (by simp[Fh,Str.length];omega)];rw[show (((n+2:Nat):Int)).toNat=n+2 from cY _];exact (f (n+2) #[]).trans (fW _)
theorem Ir (a b:Bool) (o:∀ g:Bool->Aa Sl->Prop,g a j->t l j g) (p:∀ g:Bool->Aa Sl->Prop,g b j->u l j g) (k:r (a&&b) j):F9 t u l j r:=by
 unfold F9;refine o _ ?_;cases a
 .exact k
 .exact p _ k
def Gk:RD:=λe b d=>∃ (a:Aa Int) (i:Nat),b=[.c (a.map D.int),.int i]/\a.length<=63/\i<=1000/\d (.v (.str (mN a i)))
theorem Ih (g:Aa Int) (i:Nat):(nP g i).length=nZ g+1+pQ g:=by
 rw[oX];unfold nP oP;rw[pI,pI,yD,yD,aO,aO,cO,cO];rfl
section
variable {P:Ah}{K:kQ}
theorem xX:FnScope ["script","i","letters","pad","place","tail","word"] ["script","i"] (lQ B6):=mO
theorem R6 (T:Txt j) (g:Kn P w K j base 1 "_law_draw" tS ["script","k"] vD):mM P w K j base 2 "_law_word" B6 ["script","i"] Gk:=by
 refine mT xX λf O A G s H E Z l I q B V=>?_
 obtain⟨b,i,rfl,t,r,m⟩:=V;refine⟨_,(gD (kZ 2 xX.nd mJ) (gD (kZ 3 xX.nd (hB B 2 (kT mQ mR (lD g q (dK (eH 0) (dK eI eJ))) eI))) (gD (kZ 4 xX.nd (kT mQ mR (lD g q (dK (eH 0) (dK eI eJ))) eI)) (gD (kZ 5 xX.nd (kT mQ mR (lD g q (dK (eH 0) (dK eI eJ))) (kT wA vR eI (eH 4)))) (gD (nW (rY (tZ q.units) (rZ false) (kT mQ mR (lD g q (dK (eH 0) (dK eI eJ))) eI) eI) (kX (lX (hB B 2 (kT mQ mR (mK lO lM 1 (lD g q (dK (eH 0) (dK eI eJ)))) eI)))) nT) (gD (kZ 6 xX.nd (kT lO lM (kT lO lM (mK L9 Qq 3 (eH 4)) (hB B 2 (kT mQ mR (mK lO lM 1 (lD g q (dK (eH 0) (dK eI eJ)))) eI))) (mK L9 Qq 3 (eH 5)))) (gD (nW (vO (G8 (rY (tZ q.units) (rZ false) (mK mQ mR 1 eI) eI) (Hz (rY AE Yy (nF pJ pN T.len cH (dK (eH 6) eJ)) eI)))) (kX (kZ 6 xX.nd (mK lO lM 6 (eH 3)))) nT) (kX (lX (mK lO lM 6 mJ)))))))))),?_⟩;let a:Aa Sl:=[.v (.c (b.map D.int)),.v (.int i),.v (.str B0)];refine gV (λe=>e=a++[.n,.n,.n,.n]) (λN d=>d _ rfl) ?_;rintro _ rfl;refine gV (λe=>e=a++[.v (.str (oP b)),.n,.n,.n]) (λN d=>?_) ?_
 .exact⟨rfl,b,0,rfl,t,by decide,.inl rfl,by show (0:Int)<26;decide,by decide,_,Kq _,d _ rfl⟩
 rintro _ rfl;refine gV (λe=>e=a++[.v (.str (oP b)),.v (.int (nZ b)),.n,.n]) (λN d=>?_) ?_
 .exact⟨b,1,rfl,t,by decide,.inl rfl,by show (0:Int)<7;decide,d _ rfl⟩
 rintro _ rfl;have o:nZ b<7:=cV _ (by decide);refine gV (λe=>e=a++[.v (.str (oP b)),.v (.int (nZ b)),.v (.int (pQ b)),.n]) (λN d=>?_) ?_
 .refine⟨b,2,rfl,t,by decide,.inl rfl,by show (0:Int)<7-(nZ b:Int);omega,d _ ?_⟩;unfold pQ;rw[show (7:Int)-(nZ b:Int)=((7-nZ b:Nat):Int) by omega];rfl
 rintro _ rfl;have Q:(i:Int)+(kW b 3:Int)=((i+kW b 3:Nat):Int):=by omega
 have u:nH B0.cps.toList (((i:Int)+(kW b 3:Int))%26)=some (97+(i+kW b 3)%26):=by rw[Q];exact Kq _
 have M:decide ((kW b 8:Int)%4=1)=decide (kW b 8%4=1):=by
  by_cases h:kW b 8%4=1
  .rw[aV h,aV (by omega)]
  .rw[aP h,aP (by omega)]
 have W:pQ b<7:=bR (cV _ (by omega)) (Nat.sub_le _ _);refine gV (λe=>¬ kW b 8%4=1/\e=a++[.v (.str (oP b)),.v (.int (nZ b)),.v (.int (pQ b)),.n]) (λN d=>?_) ?_
 .refine⟨b,8,rfl,t,by decide,.inl rfl,by show (0:Int)<4;decide,?_⟩;by_cases h:kW b 8%4=1
  .refine oI (M.trans (aV h)) ⟨rfl,rfl,b,3,rfl,t,by decide,.inl rfl,by show (0:Int)<26;decide,by decide,_,u,?_⟩;have k:=m;unfold mN at k;rw[aZ h] at k;exact k
  .exact nI (M.trans (aP h)) (d _ ⟨h,rfl⟩)
 rintro _ ⟨S,rfl⟩;unfold mN at m;rw[aK S] at m;have x:=Ih b i;have X:∀ z:Af,z.length<=100->z.length<=100000:=λz h=>by omega
 have F:∀ n:Nat,(Txt.mul (oP b) (n:Int)).length=n:=λn=>by
  rw[oX];unfold oP;rw[yD,cO]
 refine gV (λe=>e=a++[.v (.str (oP b)),.v (.int (nZ b)),.v (.int (pQ b)),.v (.str (nP b i))]) (λN d=>?_) ?_
 .refine⟨rfl,by omega,by omega,by show 1<=100;decide,rfl,rfl,b,3,rfl,t,by decide,.inl rfl,by show (0:Int)<26;decide,by decide,_,u,?_,rfl,by omega,by omega,by show 1<=100;decide,?_,d _ rfl⟩
  .rw[F];show nZ b+1<=100000;omega
  .rw[F,oX,pI,aO,<- oX,F];show nZ b+1+pQ b<=100000;omega
 rintro _ rfl;let L:Af:=if i%2=1/\(nP b i).length<7 then nP b i++oP b else nP b i
 have C:L.length<=100:=by
  show (if i%2=1/\(nP b i).length<7 then nP b i++oP b else nP b i).length<=100;split
  .rw[oX,pI,aO,<- oX,x];show nZ b+1+pQ b+1<=100;omega
  .rw[x];omega
 refine gV (λe=>e=a++[.v (.str (oP b)),.v (.int (nZ b)),.v (.int (pQ b)),.v (.str L)]) (λN d=>?_) ?_
 .unfold vP;refine Ir (decide ((i:Int)%2=1)) (decide (((nP b i).length:Int)<7)) (λY h=>⟨rfl,by show (0:Int)<2;decide,h⟩) (λY h=>⟨aV (by rw[x];omega),_,rfl,h⟩) ?_;by_cases y:i%2=1/\(nP b i).length<7
  .refine oI (by rw[aV (by omega),aV (by omega)];rfl) ⟨rfl,?_,d _ ?_⟩
   .rw[x];show nZ b+1+pQ b+1<=100000;omega
   .show _=a++[.v (.str (oP b)),.v (.int (nZ b)),.v (.int (pQ b)),.v (.str (if i%2=1/\(nP b i).length<7 then nP b i++oP b else nP b i))];rw[aZ y];rfl
  .refine nI ?_ (d _ ?_)
   .by_cases R:i%2=1
    .rw[aP (p:=((nP b i).length:Int)<7) (λz=>y ⟨R,by omega⟩),Bool.and_false]
    .rw[aP (p:=(i:Int)%2=1) (by omega),Bool.false_and]
   .show _=a++[.v (.str (oP b)),.v (.int (nZ b)),.v (.int (pQ b)),.v (.str (if i%2=1/\(nP b i).length<7 then nP b i++oP b else nP b i))];rw[aK y]
 rintro _ rfl;exact⟨rfl,by show L.length+1<=100000;omega,m⟩
end
end Lw
namespace L2
open PySem PySem.Spec PyProof.Rows Lw
def Hc:Aa (Af×lP)->Aa Ad->Aa Sl->(Aa (Af×Int)->Aa Sl->Prop)->Prop
 | [],_,b,a=>a [] b
 | (x,t)::r,e,b,a=>t e b λh c=>match h with
  | .v (.int i)=>Hc r e c λf d=>a ((x,i)::f) d
  | _=>False
def X2 (g:Aa (Af×lP)):lP:=λd f e=>Hc g d f λb a=>b.length<=15/\e (.o (.k (oY [] (b.map λc=>((Sum.inr c.1:fS),D.int c.2))))) a
section
variable {X:Cx}{K:kQ}
theorem Ng:∀ (J:Aa (Af×lP)){j:Aa Sl}{H:Hp}{I:Aa (Af×Int)->Aa Sl->Prop}{Q:Aa (V×V)->Hp->Prop},j.length=l.length->DS K B (j.zip l++T) H->Hc J B.dk j I ->
  (∀ C g o,g.length=l.length->DS K B (g.zip l++T) o->I C g->Q (C.map λc=>(V.str c.1,V.int c.2)) o)->Co (J.map λp=>(tC (.str p.1),dE K p.2)) l H Q
 | [],j,H,I,Q,f,hd,h,k=>k [] j H f hd h
 | (x,t)::r,j,H,I,Q,f,hd,h,k=>by
  show tC (.str x) l H λx n=>dE K t l n λy m=>Co (r.map λp=>(tC (.str p.1),dE K p.2)) l m λu q=>Q ((x,y)::u) q
  refine⟨B,j,T,_,f,hd,h,λz A y m s d1 e=>?_⟩;cases z<;>first | exact False.elim e | skip
  rename_i d
  cases d<;>first | exact False.elim e | skip
  rename_i i
  obtain⟨v,w⟩:=d1.one (d:=.int i) rfl;cases w.int_inv;exact Ng r s v e λC g o a b c=>k ((x,i)::C) g o a b c
theorem CF (r:Aa (Af×lP)) (h:At X pos keys values (r.map λp=>(tC (.str p.1),dE X.K p.2))) (g:keys.all (·.isSome)=true:=by rfl) (l:keys.length=values.length:=by rfl) (C:keys≠[]:=by simp) (j:keys.length<=15:=by decide) :
  PD X (.Dict keys values pos) (X2 r):=(AL h g l C j).mono λG H Q f=>f.elim λB F T M l hd w k p v=>by
  have d:DS X.K B (F.zip G++(.o (.k []),some (.ref p))::T) (upd H p (.k [])):=DS.mid (DS.dKF hd v rfl .nil);refine Ng r l d w λb i s y d2 m=>?_
  obtain⟨a,t,n,x,u,_⟩:=d2.ownAt;cases t;have:n=[]:=by
   cases n with
   | nil=>rfl
   | cons _ _=>cases u
  subst this;refine⟨x,b.map λc=>((Sum.inr c.1:fS),V.int c.2),by rw[aG];rfl,by rw[aA];exact m.1,k _ i _ _ y (d2.write λq L=>?_) m.2⟩;have e:(b.map λc=>((Sum.inr c.1:fS),D.int c.2)).map (·.1)=(b.map λc=>((Sum.inr c.1:fS),V.int c.2)).map (·.1):=by rw[aG,aG];rfl
  obtain⟨z,E⟩:=Ap (kvs:=[]) (vs:=[]) e (Pk (K:=X.K) (A:=q) (H:=upd s p (.k (pD [] (b.map λc=>((Sum.inr c.1:fS),V.int c.2))))) b) rfl .nil;exact⟨_,nM,z,E⟩
end
end L2
namespace L2
open PySem PySem.Spec PyProof.Rows
def zW:Expr->Ab (Af×Nat×Pos)
 | .Constant (.str x) j p=>some (x,j,p)
 | _=>none
theorem DN (h:zW e=some q):e = .Constant (.str q.1) q.2.1 q.2.2:=by
 unfold zW at h;split at h
 .cases h;rfl
 .cases h
def yJ (g:Aa Expr):Aa (Af×Nat×Pos):=g.filterMap zW
theorem Nj:∀ {g:Aa Expr},(g.all λe=>(zW e).isSome)=true->g=(yJ g).map λp=>.Constant (.str p.1) p.2.1 p.2.2
 | [],_=>rfl
 | e::g,h=>by
  rw[jL,cJ] at h;obtain⟨q,a⟩:=cP.mp h.1;have b:=Nj h.2;unfold yJ at b |-;rw[List.filterMap_cons_some a,bH,<- b,<- DN a]
def Ij (g:Aa Af):lP:=λ_ b a=>a (.v (.t (g.map D.str))) b
section
variable {X:Cx}
theorem Yz (l:Aa (Af×Nat×Pos)) (g:l.length<=1000):PD X (.Tuple (l.map λp=>.Constant (.str p.1) p.2.1 p.2.2) x1 pos) (Ij (l.map (·.1))) :=
 (Hr (J5 l)).mono λh H Q b=>b.elim λB e T f a hd d k=>⟨by rw[aA,aA];exact bS g (by decide),λp c=>k _ e _ _ a (hd.tupF c (Qj _)).mid d⟩
theorem BY (j:Aa Af) (h:(g.all λe=>(zW e).isSome)=true:=by rfl) (hw:(yJ g).map (·.1)=j:=by rfl) (l:g.length<=1000:=by decide):PD X (.Tuple g o pos) (Ij j):=by
 have e:=Nj h;have a:(yJ g).length<=1000:=bS (List.length_filterMap_le _ _) l;have:=Yz (X:=X) (pos:=pos) (x1:=o) (yJ g) a;rw[<- e,hw] at this;exact this
end
section
variable {X:Cx}
theorem Au {st:Stmt}{rest:Aa Stmt}{g:oB}{C:oB->Prop}(j:rE X st g) (k:∃ t,oM X rest t/\C (tV g t)):∃ t,oM X (st::rest) t/\C t:=by
 obtain⟨t,a,b⟩:=k;exact⟨_,gD j a,b⟩
theorem DV {i:Nat}{x:Af}{p p' p2 pos:Pos}{x1:Nat}{g:Aa Expr}{e:Expr}{l:lP}{rest:Aa Stmt}{C:oB->Prop}(j:Aa Af) (hu:X.A.units+1<cLine) (o:X.N.Nodup) (J:X.N[i]?=some x) (hx:rG X.env.scope x) (I:X.fn x=true) (h:(g.all λe=>(zW e).isSome)=true) (hw:(yJ g).map (·.1)=j) (T:g.length<=1000) (r:PD X e l) (U:xI e)
  (k:∃ t,oM X rest t/\C (tV (mV i (d2 wT (Ij j) l)) t)):∃ t,oM X (.Assign [.Name x p'] (.Subscript (.Tuple g x1 p) e p2) pos::rest) t/\C t:=by
 obtain⟨t,a,b⟩:=k;exact⟨_,gD (kZ i o (lV hu (BY j h hw T) r U) J hx rfl (.inl I)) a,b⟩
end
end L2
namespace Lw
open PySem L2
def xD:Aa Af:=["and","or","odd","most","not","odd","and","one","nil","odd","most","or"]
def uF (a b:Int):Aa (fS×D):=oY [] ([("and",2+a),("or",2),("odd",2+b),("most",3),("not",1)].map λc=>((Sum.inr c.1:fS),D.int c.2))
theorem Uo (hw:w∈xD) (g:a=0\/a=1) (j:b=0\/b=1):∃ m:Nat,(kR (uF a b) (Sum.inr w)).getD (.int 0) = .int m/\m<=3/\ArOk w m:=by
 unfold xD at hw;simp only[aI,bJ,dZ] at hw;have fin:∀ (w:Af) (m:Nat),(kR (uF a b) (Sum.inr w)).getD (.int 0) = .int (m:Nat)->m<=3->ArOk w m->∃ m:Nat,(kR (uF a b) (Sum.inr w)).getD (.int 0) = .int m/\m<=3/\ArOk w m:=λw m c d e=>⟨m,c,d,e⟩
 rcases g with rfl | rfl<;>rcases j with rfl | rfl<;>rcases hw with rfl | rfl | rfl | rfl | rfl | rfl | rfl | rfl | rfl | rfl | rfl | rfl<;>first | exact⟨2,rfl,by decide,⟨by decide⟩⟩ | exact⟨3,rfl,by decide,⟨by decide⟩⟩ | exact⟨1,rfl,by decide,⟨by decide⟩⟩ | exact⟨0,rfl,by decide,⟨by decide⟩⟩
def N8:RD:=λm h i=>∃ (d:Aa Int) (a k:Nat) (b:Aa Af),h=[.c (d.map D.int),.int a,.int k,.l (b.map D.str)]/\d.length<=63/\a<=500/\k<=50/\b≠[]/\b.length<=100/\∀ (f:Af) (e:Aa Af),ArOk f e.length->(∀ p∈e,p∈b)->i (.v (.t [.str (mN d (6+k)),.str f,.t (e.map D.str)]))
section
variable {P:Ah}{K:kQ}
theorem xM:FnScope ["script","at","k","names","draw","word","sizes","many","some","place"] ["script","at","k","names"] (lQ Es):=mO
theorem Wv (T:Txt C) (g:Kn P w K C base 1 "_law_draw" tS ["script","k"] vD) (j:Kn P w K C base 2 "_law_word" B6 ["script","i"] Gk):mM P w K C base 3 "_law_gate" Es ["script","at","k","names"] N8:=by
 refine mT xM λf aa A I s H E dk ds Φ V W hR=>?_
 obtain⟨O,a,k,x,rfl,R,ha,hk,hx,ac,r⟩:=hR;refine Au (kZ 4 xM.nd (lD g V (dK (eH 0) (dK (kT lO lM (mK lO lM 1 eI) (eH 2)) eJ)))) ?_;refine DV (i:=5) xD W xM.nd rfl (Or.inl rfl) rfl rfl rfl (by decide) (mK mQ mR 4 eI) (λ_ _=>rfl) ?_;refine⟨_,(gD (kZ 6 xM.nd (CF [("and",_),("or",_),("odd",_),("most",_),("not",_)] (A4 xJ (kT lO lM eI (kT mQ mR (mK uV vA 4 eI) eI)) (A4 xJ eI (A4 xJ (kT lO lM eI (kT mQ mR (mK uV vA 4 eI) eI)) (A4 xJ eI (A4 xJ eI X0))))))) (gD (kZ 7 xM.nd (Ot W (pv 6) (eH 5) eI)) (gD (kZ 8 xM.nd (qR eJ)) (gD (oE (tU (by rfl) T.range (eH 7)) (hO 9 xM.nd) (kX (oV (qE bW cE cF sO tX (pv 8) (dK (hB W 3 (kT mQ mR (lD g V (dK (eH 0) (dK (kT lO lM (kT lO lM (mK lO lM 1 eI) (kT tJ tM eI (eH 2))) (eH 9)) eJ))) (nF pJ pN T.len cH (dK (eH 3) eJ)))) eJ))))) (kX (lX (lI (dK (lD j V (dK (eH 0) (dK (kT lO lM eI (eH 2)) eJ))) (dK (eH 5) (dK (lZ pT pM T.tuple bN (rA (pv 8) eJ)) eJ)))))))))),?_⟩;let b:Aa Sl:=[.v (.c (O.map D.int)),.v (.int a),.v (.int k),.v (.l (x.map D.str))];refine gV (λq=>∃ d:Nat,q=b++[.v (.int d),.n,.n,.n,.n,.n]) (λN y=>?_) ?_
 .exact⟨rfl,O,a+40+k,by simp,R,by omega,.inl rfl,y _ ⟨_,rfl⟩⟩
 rintro _ ⟨d,rfl⟩;refine gV (λq=>∃ F∈xD,q=b++[.v (.int d),.v (.str F),.n,.n,.n,.n]) (λN y=>?_) ?_
 .have J:d%12<xD.length:=cV _ (by decide);refine⟨rfl,by show (0:Int)<12;decide,.str xD[d%12],?_,y _ ⟨_,fP J,rfl⟩⟩;show nH (xD.map D.str) ((d:Int)%12)=_;rw[show (d:Int)%12=((d%12:Nat):Int) by omega];exact pL (by rw[bM,aR J];rfl)
 rintro _ ⟨F,Z,rfl⟩;have L:∀ z:Int,z%2=0\/z%2=1:=λz=>by omega
 refine gV (λq=>∃ u v:Int,(u=0\/u=1)/\(v=0\/v=1)/\q=b++[.v (.int d),.v (.str F),.o (.k (uF u v)),.n,.n,.n]) (λN y=>?_) ?_
 .exact⟨rfl,⟨by decide,by decide⟩,by show (0:Int)<2;decide,rfl,⟨by decide,by decide⟩,by show (0:Int)<2;decide,by show 5<=15;decide,y _ ⟨_,_,L _,L _,rfl⟩⟩
 rintro _ ⟨u,v,X,Y,rfl⟩;obtain⟨m,hm,ab,U⟩:=Uo Z X Y;refine gV (λq=>q=b++[.v (.int d),.v (.str F),.o (.k (uF u v)),.v (.int m),.n,.n]) (λN y=>?_) ?_
 .refine⟨rfl,_,rfl,y _ ?_⟩;show b++[.v (.int d),.v (.str F),.o (.k (uF u v)),.v ((kR (uF u v) (Sum.inr F)).getD (.int 0)),.n,.n]=_;rw[hm]
 rintro _ rfl;refine gV (λq=>q=b++[.v (.int d),.v (.str F),.o (.k (uF u v)),.v (.int m),.o (.l []),.n]) (λN y=>⟨by show 0<=1000;decide,y _ rfl⟩) ?_;rintro _ rfl;refine gV (λq=>∃ (t:Aa Af) (G:Sl),t.length=m/\(∀ p∈t,p∈x)/\q=b++[.v (.int d),.v (.str F),.o (.k (uF u v)),.v (.int m),.o (.l (t.map D.str)),G]) (λN y=>?_) ?_
 .refine nR (nL 0 m) _ (λΨ h=>⟨by omega,by omega,h⟩) (λi q=>∃ (t:Aa Af) (G:Sl),t.length=i/\(∀ p∈t,p∈x)/\q=b++[.v (.int d),.v (.str F),.o (.k (uF u v)),.v (.int m),.o (.l (t.map D.str)),G]) ⟨[],.n,rfl,λp h=>(nomatch h),rfl⟩ ?_ ?_
  .rintro i e q he ⟨t,G,M,B,rfl⟩;obtain⟨hi,rfl⟩:=vH he;have S:0<x.length:=iB.mpr hx;have Q:∀ z:Nat,nH (x.map D.str) ((z:Int)%((x.map D.str).length:Int))=some (.str (x[z%x.length]'(cV _ S))):=λz=>by
    rw[aA,show (z:Int)%(x.length:Int)=((z%x.length:Nat):Int) by norm_cast];exact pL (by rw[bM,aR (cV _ S)];rfl)
   refine⟨rfl,rfl,rfl,.inl ⟨by decide,by decide⟩,O,a+50+3*k+i,by simp,R,by omega,.inl rfl,rfl,_,rfl,by show (0:Int)<((x.map D.str).length:Int);rw[aA];omega,_,Q _,by rw[aA];omega,t++[x[kW O (a+50+3*k+i)%x.length]'(cV _ S)],.v (.int (0+(i:Int))),by rw[aO,M];rfl,λp h=>?_,?_⟩
   .rcases aY.mp h with h | h
    .exact B p h
    .rw[aW.mp h];exact fP _
   .rw[aF];rfl
  .rintro q ⟨t,G,M,B,rfl⟩;exact y _ ⟨t,G,by rw[M];simp[nL],B,rfl⟩
 rintro _ ⟨t,G,M,B,rfl⟩;subst M;exact⟨O,6+k,by simp,R,by omega,.inl rfl,rfl,by show 3<=1000;decide,r F t U B⟩
end
def Oz (g:Aa Int):Nat:=if kW g 8%4=1 then 0 else nZ g
theorem Rg (g:Aa Int) (i:Nat):(mN g i).cps.toList[Oz g]?=some (97+(i+kW g 3)%26):=by
 unfold mN Oz;by_cases h:kW g 8%4=1
 .rw[aZ h,aZ h];rfl
 .rw[aK h,aK h];have w:∀ u:Af,(nP g i++u).cps.toList[nZ g]?=some (97+(i+kW g 3)%26):=λu=>by
   unfold nP oP;rw[pI,pI,pI,yD,yD,bB,bB,dU (by rw[cO];exact bF _),cO,Nat.sub_self];rfl
  by_cases q:i%2=1/\(nP g i).length<7
  .rw[aZ q,pI,fU,w];rw[<- oX,oX,pI,aO,<- oX,Ih];omega
  .rw[aK q,w]
theorem Wb (l:i<26) (o:j<26) (h:mN g i=mN g j):i=j:=by
 have a:=Rg g i;rw[h,Rg g j] at a;have:=bT a;omega
theorem IJ (g:Aa Int) (i:Nat):1<=(mN g i).length/\(mN g i).length<=9:=by
 have a:=Ih g i;have b:nZ g<7:=cV _ (by decide);have c:nZ g+pQ g<7:=by
  have:pQ g<7-nZ g:=cV _ (by omega);omega
 unfold mN;by_cases h:kW g 8%4=1
 .rw[aZ h];exact⟨bF _,by show 1<=9;decide⟩
 .rw[aK h];by_cases q:i%2=1/\(nP g i).length<7
  .rw[aZ q,oX,pI,pI,aO,aO,<- oX,a];show 1<=nZ g+1+pQ g+1+1/\nZ g+1+pQ g+1+1<=9;omega
  .rw[aK q,oX,pI,aO,<- oX,a];show 1<=nZ g+1+pQ g+1/\nZ g+1+pQ g+1<=9;omega
theorem DW (l:Aa Int){is:Aa Nat}(g:is.Nodup) (h:∀ i∈is,i<26):(is.map (mN l)).Nodup:=by
 induction is with
 | nil=>exact cZ
 | cons i is b =>
  obtain⟨c,d⟩:=bX.mp g;rw[bH,bX];refine⟨λz=>?_,b d λj a=>h j (bD _ a)⟩;obtain⟨j,a,e⟩:=aD.mp z;exact c (Wb (h j (bD _ a)) (h i aT) e▸a)
end Lw
namespace L2
open PySem PySem.Spec PyProof.Rows
def zQ:Expr->Ab (Int×Nat×Pos)
 | .Constant (.int x) j p=>some (x,j,p)
 | _=>none
theorem Xl (h:zQ e=some q):e = .Constant (.int q.1) q.2.1 q.2.2:=by
 unfold zQ at h;split at h
 .cases h;rfl
 .cases h
def zY (g:Aa Expr):Aa (Int×Nat×Pos):=g.filterMap zQ
theorem Lj:∀ {g:Aa Expr},(g.all λe=>(zQ e).isSome)=true->g=(zY g).map λp=>.Constant (.int p.1) p.2.1 p.2.2
 | [],_=>rfl
 | e::g,h=>by
  rw[jL,cJ] at h;obtain⟨q,a⟩:=cP.mp h.1;have b:=Lj h.2;unfold zY at b |-;rw[List.filterMap_cons_some a,bH,<- b,<- Xl a]
def Fu (g:Aa Int):lP:=λ_ b a=>a (.v (.t (g.map D.int))) b
section
variable {X:Cx}
theorem AH (l:Aa (Int×Nat×Pos)) (g:l.length<=1000):PD X (.Tuple (l.map λp=>.Constant (.int p.1) p.2.1 p.2.2) x1 pos) (Fu (l.map (·.1))) :=
 (Hr (J9 l)).mono λh H Q b=>b.elim λB e T f a hd d k=>⟨by rw[aA,aA];exact bS g (by decide),λp c=>k _ e _ _ a (hd.tupF c (Pu _)).mid d⟩
theorem Yl (j:Aa Int) (h:(g.all λe=>(zQ e).isSome)=true:=by rfl) (hw:(zY g).map (·.1)=j:=by rfl) (l:g.length<=1000:=by decide):PD X (.Tuple g o pos) (Fu j):=by
 have e:=Lj h;have a:(zY g).length<=1000:=bS (List.length_filterMap_le _ _) l;have:=AH (X:=X) (pos:=pos) (x1:=o) (zY g) a;rw[<- e,hw] at this;exact this
theorem BG {i:Nat}{x:Af}{p p' p2 pos:Pos}{x1:Nat}{g:Aa Expr}{e:Expr}{l:lP}{rest:Aa Stmt}{C:oB->Prop}(j:Aa Int) (hu:X.A.units+1<cLine) (o:X.N.Nodup) (J:X.N[i]?=some x) (hx:rG X.env.scope x) (I:X.fn x=true) (h:(g.all λe=>(zQ e).isSome)=true) (hw:(zY g).map (·.1)=j) (T:g.length<=1000) (r:PD X e l) (U:xI e)
  (k:∃ t,oM X rest t/\C (tV (mV i (d2 wT (Fu j) l)) t)):∃ t,oM X (.Assign [.Name x p'] (.Subscript (.Tuple g x1 p) e p2) pos::rest) t/\C t:=by
 obtain⟨t,a,b⟩:=k;exact⟨_,gD (kZ i o (lV hu (Yl j h hw T) r U) J hx rfl (.inl I)) a,b⟩
end
end L2
namespace Lw
open PySem L2
theorem JH:(["k","script"]:Aa Af).Nodup:=by decide +kernel
theorem Vx (n j:Af) (g:Aa Af):Bf (.v (.t [.str n,.str j,.t (g.map D.str)]))=true:=by
 show (true&&(true&&(sB (g.map D.str)&&true)))=true;rw[W1 (λ_=>rfl) g];rfl
theorem DD {g:Type}{xs:Aa g}{i:Int}{j:Nat}(l:i<0) (o:i+xs.length=j){v:g}(h:xs[j]?=some v):nH xs i=some v:=by
 have e:rW xs.length i=some j:=by
  unfold rW;rw[aK (by omega),aZ (by omega)];congr 1;omega
 unfold nH;rw[e];exact h
def Rc:RD:=λf d e=>∃ (b:Aa Int) (a:Nat),d=[.c (b.map D.int),.int a]/\b.length<=63/\a<=300/\∀ (m g:Nat) (C:Cel),1<=m->m<=6->1<=g->g<=6->C.ins=(List.range m).map (mN b)->C.gates.map (·.1)=(List.range g).map (λk=>mN b (6+k))->GC C->C.outs≠[]->C.outs.length<=4->(∀ o∈C.outs,o∈C.gates.map (·.1))->e (.v (oW C))
section
variable {P:Ah}{K:kQ}
theorem vE:FnScope ["script","begin","many","inputs","names","gates","k","outputs","name"] ["script","begin"] (lQ Ej):=mO
theorem Xn (T:Txt mg) (r:Kn P w K mg base 1 "_law_draw" tS ["script","k"] vD) (I:Kn P w K mg base 2 "_law_word" B6 ["script","i"] Gk) (C:Kn P w K mg base 3 "_law_gate" Es ["script","at","k","names"] N8):mM P w K mg base 4 "_law_cell" Ej ["script","begin"] Rc:=by
 refine mT vE λf ah A ag s H E dk ds Φ J U hR=>?_
 obtain⟨d,a,rfl,Z,ha,af⟩:=hR;refine BG (i:=2) [1,2,3,4,2,3,5,6] U vE.nd rfl (Or.inl rfl) rfl rfl rfl (by decide) (kT mQ mR (lD r J (dK (eH 0) (dK (eH 1) eJ))) eI) (λ_ _=>rfl) ?_;refine⟨_,(gD (vJ 3 ["k"] ["script"] [0] vE.nd (tU (by rfl) T.range (eH 2)) (λ_ _ _ _ _=>(hO 0 JH)) (λ_ _ _ _ _=>(lD I J (dK (eH 1) (dK (eH 0) eJ))))) (gD (kZ 4 vE.nd (lZ yP zU T.list dY (dK (eH 3) eJ))) (gD (kZ 5 vE.nd (qR eJ)) (gD (oE (tU (by rfl) T.range (kT lO lM eI (kT mQ mR (lD r J (dK (eH 0) (dK (mK lO lM 1 eI) eJ))) eI))) (hO 6 vE.nd) (gD (oV (qE bW cE cF sO tX (pv 5) (dK (lD C J (dK (eH 0) (dK (eH 1) (dK (eH 6) (rA (pv 4) eJ))))) eJ))) (kX (oV (qE bW cE cF sO tX (pv 4) (dK (lV U (hB U 5 (Ie eI)) eI) eJ)))))) (gD (kZ 7 vE.nd (qR eJ)) (gD (oE (tU (by rfl) T.range (kT lO lM eI (kT mQ mR (lD r J (dK (eH 0) (dK (mK lO lM 1 eI) eJ))) eI))) (hO 6 vE.nd) (gD (kZ 8 vE.nd (lV U (hB U 5 (kT wA vR (Ie eI) (kT mQ mR (lD r J (dK (eH 0) (dK (kT lO lM (mK lO lM 1 eI) (eH 6)) eJ))) (nF pJ pN T.len cH (rA (pv 5) eJ))))) eI)) (kX (nW (vK (rF U) (qQ true) (eH 8) (pv 7)) (kX (oV (qE bW cE cF sO tX (pv 7) (dK (eH 8) eJ)))) nT)))) (kX (lX (lI (dK (lZ pT pM T.tuple bN (dK (eH 3) eJ)) (dK (lZ pT pM T.tuple bN (rA (pv 5) eJ)) (dK (lZ pT pM T.tuple bN (rA (pv 7) eJ)) eJ)))))))))))),?_⟩;let b:Aa Sl:=[.v (.c (d.map D.int)),.v (.int a)];refine gV (λu=>∃ m:Nat,1<=m/\m<=6/\u=b++[.v (.int m),.n,.n,.n,.n,.n,.n]) (λN F=>?_) ?_
 .obtain⟨m,Q,R,h3⟩:∃ m:Nat,1<=m/\m<=6/\nH ([1,2,3,4,2,3,5,6].map D.int) ((kW d a:Int)%8)=some (.int m):=by
   have h8:kW d a%8<8:=cV _ (by decide);have key:∀ j:Fin 8,∃ m:Nat,1<=m/\m<=6/\([1,2,3,4,2,3,5,6].map D.int)[j.val]?=some (.int m):=λj=>by
    match j with
    | 0=>exact⟨1,by decide,by decide,rfl⟩
    | 1=>exact⟨2,by decide,by decide,rfl⟩
    | 2=>exact⟨3,by decide,by decide,rfl⟩
    | 3=>exact⟨4,by decide,by decide,rfl⟩
    | 4=>exact⟨2,by decide,by decide,rfl⟩
    | 5=>exact⟨3,by decide,by decide,rfl⟩
    | 6=>exact⟨5,by decide,by decide,rfl⟩
    | 7=>exact⟨6,by decide,by decide,rfl⟩
   obtain⟨m,Q,R,h3⟩:=key ⟨kW d a%8,h8⟩;exact⟨m,Q,R,by rw[show (kW d a:Int)%8=((kW d a%8:Nat):Int) by omega];exact pL h3⟩
  exact⟨d,a,rfl,Z,by omega,.inl rfl,by show (0:Int)<8;decide,_,h3,F _ ⟨m,Q,R,rfl⟩⟩
 rintro _ ⟨m,ac,ae,rfl⟩;let ins:Aa Af:=(List.range m).map (mN d);have O:ins.length=m:=by show ((List.range m).map (mN d)).length=m;rw[aA,cM]
 refine gV (λu=>u=b++[.v (.int m),.o (.l (ins.map D.str)),.n,.n,.n,.n,.n]) (λN F=>?_) ?_
 .unfold mV;refine mC (List.range m) (λi:Nat=>.int (0+(i:Int))) (λi=>.str (mN d i)) (b++[.v (.int m),.n,.n,.n,.n,.n,.n]) (λΨ h=>⟨by omega,by omega,by rw[cY];exact h⟩) (by rw[cM];omega) (λi x ys Nx e Q R=>?_) (F _ ?_)
  .have hx:=gW.mp (aE e);exact⟨d,x,by simp,Z,by omega,.inl rfl,Q,R⟩
  .show _=b++[.v (.int m),.o (.l (((List.range m).map (mN d)).map D.str)),.n,.n,.n,.n,.n];rw[aG];rfl
 rintro _ rfl;refine gV (λu=>u=b++[.v (.int m),.v (.l (ins.map D.str)),.o (.l (ins.map D.str)),.n,.n,.n,.n]) (λN F=>⟨_,rfl,F _ rfl⟩) ?_;rintro _ rfl;refine gV (λu=>u=b++[.v (.int m),.v (.l (ins.map D.str)),.o (.l (ins.map D.str)),.o (.l []),.n,.n,.n]) (λN F=>⟨by show 0<=1000;decide,F _ rfl⟩) ?_;rintro _ rfl;let st (t:Aa (Af×Af×Aa Af)) (B s7 W:Sl):Aa Sl:=b++[.v (.int m),.v (.l (ins.map D.str)),.o (.l ((ins++t.map (·.1)).map D.str)),.o (.l (t.map lY)),B,s7,W];refine gV (λu=>∃ (g:Nat) (t:Aa (Af×Af×Aa Af)) (B:Sl),1<=g/\g<=6/\t.map (·.1)=(List.range g).map (λk=>mN d (6+k))/\oA ins t/\u=st t B .n .n) (λN F=>?_) ?_
 .have hg:1+kW d (a+1)%6<=6:=by have:=cV (kW d (a+1)) (show 0<6 by decide);omega
  have eg:((1:Int)+(kW d (a+1):Int)%6).toNat=1+kW d (a+1)%6:=by omega
  refine nR (nL 0 (1+kW d (a+1)%6)) _ (λΨ h=>⟨rfl,d,a+1,by simp,Z,by omega,.inl rfl,by show (0:Int)<6;decide,by omega,by omega,by rw[eg];exact h⟩) (λk u=>∃ (t:Aa (Af×Af×Aa Af)) (B:Sl),t.map (·.1)=(List.range k).map (λk=>mN d (6+k))/\oA ins t/\u=st t B .n .n) ⟨[],.n,rfl,True.intro,by simp[st]⟩ ?_ ?_
  .rintro k e u he ⟨t,B,G,M,rfl⟩;obtain⟨hk,rfl⟩:=vH he;have S:t.length=k:=by have:=cL List.length G;rw[aA,aA,cM] at this;exact this
   refine gV (λu=>∃ (X:Af) (V:Aa Af),ArOk X V.length/\(∀ p∈V,p∈ins++t.map (·.1))/\u=b++[.v (.int m),.v (.l (ins.map D.str)),.o (.l ((ins++t.map (·.1)).map D.str)),.o (.l ((t++[(mN d (6+k),X,V)]).map lY)),.v (.int (0+(k:Int))),.n,.n]) (λN F=>?_) ?_
   .refine⟨rfl,rfl,d,a,k,ins++t.map (·.1),by simp,Z,by omega,by omega,?_,by rw[aO,O,aA];omega,λX V Q R=>⟨.inr (Vx _ _ _),by rw[aA];omega,F _ ⟨X,V,Q,R,?_⟩⟩⟩
    .intro z;have:=cL List.length z;rw[aO,O,eG] at this;omega
    .rw[aF (f:=lY)];rfl
   rintro _ ⟨X,V,Q,R,rfl⟩;refine⟨rfl,rfl,lY (mN d (6+k),X,V),by rw[aF];exact GP _ _,.str (mN d (6+k)),pL (j:=0) rfl,by rw[aA,aO,O,aA];omega,t++[(mN d (6+k),X,V)],.v (.int (0+(k:Int))),?_,M.snoc Q R,?_⟩
   .rw[aF,G,jS,aF];rfl
   .show _=st (t++[(mN d (6+k),X,V)]) _ .n .n;simp only[st,aF,bB];rfl
  .rintro u ⟨t,B,G,M,rfl⟩;refine F _ ⟨1+kW d (a+1)%6,t,B,by omega,hg,?_,M,rfl⟩;rw[G];simp[nL]
 rintro _ ⟨g,t,B,aa,ab,G,M,rfl⟩;have S:t.length=g:=by have:=cL List.length G;rw[aA,aA,cM] at this;exact this
 refine gV (λu=>u=st t B (.o (.l [])) .n) (λN F=>⟨by show 0<=1000;decide,F _ rfl⟩) ?_;rintro _ rfl;refine gV (λu=>∃ (os:Aa Af) (B W:Sl),os≠[]/\os.length<=4/\os.Nodup/\(∀ o∈os,o∈t.map (·.1))/\u=st t B (.o (.l (os.map D.str))) W) (λN F=>?_) ?_
 .have hg:1+kW d (a+2)%4<=4:=by have:=cV (kW d (a+2)) (show 0<4 by decide);omega
  have eg:((1:Int)+(kW d (a+2):Int)%4).toNat=1+kW d (a+2)%4:=by omega
  refine nR (nL 0 (1+kW d (a+2)%4)) (st t B (.o (.l [])) .n) (λΨ h=>⟨rfl,d,a+2,by simp,Z,by omega,.inl rfl,by show (0:Int)<4;decide,by omega,by omega,by rw[eg];exact h⟩) (λk u=>∃ (os:Aa Af) (B W:Sl),(0<k->os≠[])/\os.length<=k/\os.Nodup/\(∀ o∈os,o∈t.map (·.1))/\u=st t B (.o (.l (os.map D.str))) W) ⟨[],B,.n,λh=>absurd h (by decide),bF _,cZ,λ_ h=>absurd h bJ,rfl⟩ ?_ ?_
  .rintro k e u he ⟨os,B,W,on,ol,L,Y,rfl⟩;obtain⟨hk,rfl⟩:=vH he;refine gV (λu=>∃ x∈t.map (·.1),u=st t (.v (.int (0+(k:Int)))) (.o (.l (os.map D.str))) (.v (.str x))) (λN F=>?_) ?_
   .have hj:=cV (kW d (a+20+k)) (show 0<g by omega);have hq:g-1-kW d (a+20+k)%g<t.length:=by omega
    refine⟨rfl,rfl,d,a+20+k,by simp,Z,by omega,.inl rfl,rfl,rfl,(t.map lY).length,rfl,by show (0:Int)<((t.map lY).length:Int);rw[aA];omega,lY t[g-1-kW d (a+20+k)%g],DD (xs:=t.map lY) (j:=g-1-kW d (a+20+k)%g) ?_ ?_ (by rw[bM,aR hq];rfl),.str t[g-1-kW d (a+20+k)%g].1,pL (j:=0) rfl,F _ ⟨_,aU (fP hq),rfl⟩⟩
    .have:(kW d (a+20+k):Int)%((t.map lY).length:Int)=((kW d (a+20+k)%g:Nat):Int):=by rw[aA,S];omega
     show -1-(kW d (a+20+k):Int)%((t.map lY).length:Int)<0;rw[this];omega
    .have:(kW d (a+20+k):Int)%((t.map lY).length:Int)=((kW d (a+20+k)%g:Nat):Int):=by rw[aA,S];omega
     show -1-(kW d (a+20+k):Int)%((t.map lY).length:Int)+((t.map lY).length:Int)=_;rw[this,aA,S];omega
   rintro _ ⟨x,hx,rfl⟩;refine⟨_,_,rfl,qU _,?_⟩;rw[qC];by_cases hm:x∈os
   .refine nI (by simp[nb,hm]) ?_;exact⟨os,_,_,λ_ z=>absurd hm (by rw[z];exact bJ),by omega,L,Y,rfl⟩
   .refine oI (by simp[nb,hm]) ?_;refine⟨rfl,by rw[aA];omega,os++[x],.v (.int (0+(k:Int))),.v (.str x),λ_ z=>absurd z (by simp),by rw[aO];exact jH ol,?_,?_,?_⟩
    .rw[bC];exact⟨L,bX.mpr ⟨bJ,cZ⟩,λy hy z hz e=>hm (by rw[<- aW.mp hz,<- e];exact hy)⟩
    .intro o ho;rcases aY.mp ho with q | q
     .exact Y o q
     .rw[aW.mp q];exact hx
    .rw[aF];rfl
  .rintro u ⟨os,B,W,on,ol,L,Y,rfl⟩;rw[show (nL 0 (1+kW d (a+2)%4)).length=1+kW d (a+2)%4 by simp[nL]] at on ol;exact F _ ⟨os,B,W,on (by omega),by omega,L,Y,rfl⟩
 rintro _ ⟨os,B,W,on,ol,L,Y,rfl⟩;refine⟨rfl,rfl,?_⟩;show 3<=1000/\Φ (.v (oW ⟨ins,t,os⟩));have nd:(ins++t.map (·.1)).Nodup:=by
  have e:ins++t.map (·.1)=(List.range m++(List.range g).map (6+·)).map (mN d):=by rw[G,aF,aG];rfl
  rw[e];refine DW d ?_ ?_
  .rw[bC];refine⟨kK,gT _ (λx y h e=>h (by have e2:6+x=6+y:=e;omega)) (kK (n:=g)),λx hx y hy e=>?_⟩;obtain⟨z,_,rfl⟩:=aD.mp hy;have:=gW.mp hx;omega
  .intro i hi;rcases aY.mp hi with q | q
   .have:=gW.mp q;omega
   .obtain⟨z,hz,rfl⟩:=aD.mp q;have:=gW.mp hz;omega
 exact⟨by decide,af m g ⟨ins,t,os⟩ ac ae aa ab rfl G ⟨nd,M,λo ho=>aJ _ (Y o ho),L,by show ins.length<=40;omega,by show t.length<=40;omega,by show os.length<=40;omega⟩ on ol Y⟩
end
end Lw
namespace L2
open PySem PySem.Spec PyProof.Rows Lw
def Oj (n i:Nat) (g:sG) (C:pE) (p:lP):lP:=λk m q=>∃ e:Aa D,m[i]?=some (.o (.l e))/\∃ Pv:Nat->Aa D->Prop,Pv 0 [] /\
 (∀ j d a,e[j]?=some d->Pv j a->g d (List.replicate n Sl.n) λf=>C k f λb h=>if b=true then p k h λr s=>match sd r with
  | some c=>a.length<100000/\Pv (j+1) (a++[c])
  | none=>False
  else Pv (j+1) a) /\
 ∀ a,Pv e.length a->q (.o (.l a)) m
theorem EE:oU [] g j=j:=by cases g<;>rfl
section
variable {X:Cx}
theorem Ni (T:Aa Af) (i:Nat)
  (hg:∀ U J C cl fp,uH (qA X (T++[]) I cl C U J fp) T.length tg g)
  (he:∀ U J C cl fp,PD (qA X (T++[]) I cl C U J fp) aa te)
  (ht:∀ U J C cl fp,tN (qA X (T++[]) I cl C U J fp) ab (rC X.K tt):=by exact λ_ _ _ _ _=>Bu) (hi:PE X (.Name x p) (pA i):=by exact pv _) (hc:X.calm=true:=by rfl) (hk:I.kind = .function:=by rfl) (ho:zX X.N X.env.kindOf I T [] []=true:=by rfl) (hs:∀ y,foldedSetIterable (.Name x p) X.env y=pure y:=by intro _;rfl):PD X (.ListComp aa [⟨tg,.Name x p,ab,0⟩] I pos) (Oj T.length i g tt te) :=
 (C8 (g:=dG X.K T.length g) (te:=dE X.K te) T [] [] hc (G0 hi) hk ho hg ht he hs).mono λu H Q R=>R.elim λB m Tm Φ E hd ⟨w,W,Pv,p0,step,fin⟩ k=>by
  have b:=hd.lend1 E i;rw[W] at b;have b:DS X.K B ((m.set i .n).zip u++(.o (.l w),(u[i]?).join)::Tm) H:=b;obtain⟨a,f,vs,h1,r1⟩:=b.at;have f:(u[i]?).join=some (.ref a):=f;have es:u[i]?=some (some (.ref a)):=by
   cases q:u[i]? with
   | none=>rw[q] at f;cases f
   | some y=>rw[q] at f;rw[show y=some (V.ref a) from f]
  rw[f] at b;refine⟨.ref a,es,.inl ⟨a,rfl,⟨vs,lG.of h1⟩,λdd hD=>?_⟩⟩;refine I3 (g:=g) (te:=te) (caps:=[]) (ds:=w) (Tm:=(.o (.l w),some (.ref a))::Tm) (Φ:=λr D=>D=m.set i .n/\Φ r m) (B:=B) cZ (by rw[bY];exact E) b (λj z La M H2 hM d=>?_) ⟨λj z G=>Pv j z,p0,λj d z G hj A P=>?_,λz G A P=>⟨EE,fin z P⟩⟩ (λr D v F l d h=>?_) hD
  .obtain⟨a',L,e,s,t⟩:=d.ok _ (aJ _ (hM _ aT));cases L;refine⟨λhi=>⟨e,e[j]'(by rw[<- t.length];exact hi),lG.of s,aR _⟩,λhi=>⟨e,lG.of s,by rw[<- t.length];omega⟩,λx H3 hi y=>?_⟩;obtain⟨y1,y2⟩:=y;subst y1;obtain⟨c,hc,rc⟩:=t.getV (y2 e (lG.of s));exact⟨c,hc,d.push rc⟩
  .cases G with
   | nil=>rw[cD];exact step j d z hj P
   | cons _ _=>cases A
  .obtain⟨rfl,h⟩:=h;have d2:DS X.K B (((m.set i .n).zip u++[(r,some v)])++(.o (.l w),some (.ref a))::Tm) F:=by simpa using d
   have Y:DS X.K B ((m.set i .n).zip u++(.o (.l w),some (.ref a))::(r,some v)::Tm) F:=d2.perm (by
    rw[bB];exact gR _ (List.Perm.swap ..))
   have S:=Y.back1 (by rw[bY];exact E) f;have e4:(m.set i Sl.n).set i (.o (.l w))=m:=by
    rw[List.set_set];obtain⟨O,Z⟩:=aL.mp W;rw[<- Z];exact List.set_getElem_self O
   rw[e4] at S;exact k r m v F E S h
theorem Q0 (p:Aa α) (f h:α->D) (T:I[i]?=some (.o (.l (p.map f)))) (hl:p.length<=1000)
  (step:∀ x∈p,∀ N:Sl->Prop,N (.v (h x))->g (f x) (List.replicate n Sl.n) λC=>U J C λr _=>N r) (fin:Φ (.o (.l (p.map h))) I):Oj n i g Fw U J I Φ:=by
 refine⟨_,T,λj b=>b=(p.take j).map h,rfl,λj d b a e=>?_,λb e=>?_⟩
 .rw[bM] at a;cases q:p[j]? with
  | none=>rw[q] at a;cases a
  | some x =>
   rw[q] at a;cases a;have k:=(aL.mp q).1;refine step x (aE q) (λr=>match sd r with | some c=>b.length<100000/\b++[c]=(p.take (j+1)).map h | none=>False) ?_;subst e;exact⟨by rw[aA,cC];omega,by rw[cA,q,aF];rfl⟩
 .subst e;rw[aA,cN];exact fin
end
end L2
namespace Lw
open PySem L2
theorem J6:(["pair"]:Aa Af).Nodup:=by decide +kernel
def mP (p:Af×Af):D:=.t [.str p.1,.str p.2]
structure Alg (C:Cel) (prs:List (Str×Str)):Prop where
 o:∀ p∈prs,p.1∈C.outs/\p.2∈C.ins
 n1:(prs.map (·.1)).Nodup
 n2:(prs.map (·.2)).Nodup
 l:prs.length<=4
theorem Kr (h:g.Nodup) (q:x∉g):(g++[x]).Nodup:=by
 rw[bC];exact⟨h,bX.mpr ⟨bJ,cZ⟩,λy a z b e=>q (by rw[<- aW.mp b,<- e];exact a)⟩
def Lz:RD:=λh e f=>∃ (d:Aa Int) (a:Nat),e=[.c (d.map D.int),.int a]/\d.length<=63/\a<=300/\∀ (m g:Nat) (C:Cel) (b:Aa (Af×Af)),1<=m->m<=6->1<=g->g<=6->C.ins=(List.range m).map (mN d)->C.gates.map (·.1)=(List.range g).map (λk=>mN d (6+k))->GC C->C.outs≠[]->C.outs.length<=4->(∀ o∈C.outs,o∈C.gates.map (·.1))->Alg C b->f (.v (kS C b))
section
variable {P:Ah}{K:kQ}
theorem yL:FnScope ["script","begin","cell","along","k","output","name"] ["script","begin"] (lQ D1):=mO
theorem CP (T:Txt mg) (j:Kn P w K mg base 1 "_law_draw" tS ["script","k"] vD) (r:Kn P w K mg base 4 "_law_cell" Ej ["script","begin"] Rc):mM P w K mg base 5 "_law_row" D1 ["script","begin"] Lz:=by
 refine mT yL λf ac A ab s H E dk ds Φ W B hR=>?_
 obtain⟨i,a,rfl,S,ha,aa⟩:=hR;refine⟨_,(gD (kZ 2 yL.nd (lD r W (dK (eH 0) (dK (eH 1) eJ)))) (gD (kZ 3 yL.nd (qR eJ)) (gD (oE (tU (by rfl) T.range (kT mQ mR (lD j W (dK (eH 0) (dK (mK lO lM 1 eI) eJ))) eI)) (hO 4 yL.nd) (gD (kZ 5 yL.nd (lV B (hB B 2 eI) (kT mQ mR (lD j W (dK (eH 0) (dK (kT lO lM (mK lO lM 1 eI) (eH 4)) eJ))) (nF pJ pN T.len cH (dK (hB B 2 eI) eJ))))) (gD (kZ 6 yL.nd (lV B (hB B 2 eI) (kT mQ mR (lD j W (dK (eH 0) (dK (kT lO lM (mK lO lM 1 eI) (eH 4)) eJ))) (nF pJ pN T.len cH (dK (hB B 2 eI) eJ))))) (kX (nW (vO (G8 (oO (rF B) (qQ true) (pv 5) (Ni ["pair"] 3 (λ_ _ _ _ _=>(hO 0 J6)) (λ_ _ _ _ _=>(hB B 0 eI)))) (Hz (oO (rF B) (qQ true) (pv 6) (Ni ["pair"] 3 (λ_ _ _ _ _=>(hO 0 J6)) (λ_ _ _ _ _=>(hB B 0 eI))))))) (kX (oV (qE bW cE cF sO tX (pv 3) (dK (lI (dK (eH 5) (dK (eH 6) eJ))) eJ)))) nT))))) (kX (lX (lI (dK (eH 2) (dK (lZ pT pM T.tuple bN (rA (pv 3) eJ)) eJ)))))))),?_⟩;let b:Aa Sl:=[.v (.c (i.map D.int)),.v (.int a)];refine gV (λz=>∃ (m g:Nat) (C:Cel),1<=m/\m<=6/\1<=g/\g<=6/\C.ins=(List.range m).map (mN i)/\C.gates.map (·.1)=(List.range g).map (λk=>mN i (6+k))/\GC C/\C.outs≠[]/\C.outs.length<=4/\(∀ o∈C.outs,o∈C.gates.map (·.1))/\z=b++[.v (oW C),.n,.n,.n,.n]) (λN u=>?_) ?_
 .exact⟨i,a,rfl,S,ha,λm g C X Y Z I Q J U R h9 M=>⟨.inl rfl,u _ ⟨m,g,C,X,Y,Z,I,Q,J,U,R,h9,M,rfl⟩⟩⟩
 rintro _ ⟨m,g,C,X,Y,Z,I,Q,J,U,R,h9,M,rfl⟩;refine gV (λz=>z=b++[.v (oW C),.o (.l []),.n,.n,.n]) (λN u=>⟨by show 0<=1000;decide,u _ rfl⟩) ?_;rintro _ rfl;let st (d:Aa (Af×Af)) (G L F:Sl):Aa Sl:=b++[.v (oW C),.o (.l (d.map mP)),G,L,F];refine gV (λz=>∃ (d:Aa (Af×Af)) (G L F:Sl),Alg C d/\z=st d G L F) (λN u=>?_) ?_
 .have hg:kW i (a+3)%5<=4:=by have:=cV (kW i (a+3)) (show 0<5 by decide);omega
  have eg:((kW i (a+3):Int)%5).toNat=kW i (a+3)%5:=by omega
  refine nR (nL 0 (kW i (a+3)%5)) (st [] .n .n .n) (λΨ h=>⟨rfl,i,a+3,by simp,S,by omega,.inl rfl,by show (0:Int)<5;decide,by omega,by omega,by rw[eg];exact h⟩) (λk z=>∃ (d:Aa (Af×Af)) (G L F:Sl),(Alg C d/\d.length<=k)/\z=st d G L F) ⟨[],.n,.n,.n,⟨⟨λ_ h=>absurd h bJ,cZ,cZ,by decide⟩,bF _⟩,rfl⟩ ?_ ?_
  .rintro k e z he ⟨d,G,L,F,⟨al,pl⟩,rfl⟩;obtain⟨hk,rfl⟩:=vH he;let s0:Sl:=.v (.int (0+(k:Int)));refine gV (λz=>∃ x∈C.outs,z=st d s0 (.v (.str x)) F) (λN u=>?_) ?_
   .have O:=cV (kW i (a+30+k)) (show 0<C.outs.length from iB.mpr R);refine⟨rfl,.t (C.outs.map D.str),rfl,rfl,i,a+30+k,by simp,S,by omega,.inl rfl,rfl,.t (C.outs.map D.str),rfl,rfl,(C.outs.map D.str).length,rfl,by show (0:Int)<((C.outs.map D.str).length:Int);rw[aA];omega,.str C.outs[kW i (a+30+k)%C.outs.length],?_,u _ ⟨_,fP O,rfl⟩⟩;rw[aA,show (kW i (a+30+k):Int)%(C.outs.length:Int)=((kW i (a+30+k)%C.outs.length:Nat):Int) by omega];exact pL (by rw[bM,aR O];rfl)
   rintro _ ⟨x,hx,rfl⟩;refine gV (λz=>∃ y∈C.ins,z=st d s0 (.v (.str x)) (.v (.str y))) (λN u=>?_) ?_
   .have li:C.ins.length=m:=by rw[Q,aA,cM]
    have O:=cV (kW i (a+35+k)) (show 0<C.ins.length by omega);refine⟨rfl,.t (C.ins.map D.str),rfl,rfl,i,a+35+k,by simp,S,by omega,.inl rfl,rfl,.t (C.ins.map D.str),rfl,rfl,(C.ins.map D.str).length,rfl,by show (0:Int)<((C.ins.map D.str).length:Int);rw[aA];omega,.str C.ins[kW i (a+35+k)%C.ins.length],?_,u _ ⟨_,fP O,rfl⟩⟩;rw[aA,show (kW i (a+35+k):Int)%(C.ins.length:Int)=((kW i (a+35+k)%C.ins.length:Nat):Int) by omega];exact pL (by rw[bM,aR O];rfl)
   rintro _ ⟨y,hy,rfl⟩;refine Ir (!decide (x∈d.map (·.1))) (!decide (y∈d.map (·.2))) (λΨ h=>?_) (λΨ h=>?_) ?_
   .refine⟨rfl,?_⟩;refine Q0 d mP (λp=>.str p.1) rfl (by omega) (λp hp N u=>⟨rfl,_,rfl,u⟩) ?_;refine⟨.str x,(d.map (·.1)).map V.str,rfl,?_,?_⟩
    .rw[show (d.map λp=>D.str p.1)=(d.map (·.1)).map D.str by rw[aG];rfl];exact qU _
    .rw[qC];exact h
   .refine⟨rfl,?_⟩;refine Q0 d mP (λp=>.str p.2) rfl (by omega) (λp hp N u=>⟨rfl,_,rfl,u⟩) ?_;refine⟨.str y,(d.map (·.2)).map V.str,rfl,?_,?_⟩
    .rw[show (d.map λp=>D.str p.2)=(d.map (·.2)).map D.str by rw[aG];rfl];exact qU _
    .rw[qC];exact h
   by_cases q1:x∈d.map (·.1)
   .exact nI (by simp[q1]) ⟨d,_,_,_,⟨al,by omega⟩,rfl⟩
   by_cases q2:y∈d.map (·.2)
   .exact nI (by simp[q2]) ⟨d,_,_,_,⟨al,by omega⟩,rfl⟩
   refine oI (by simp[q1,q2]) ⟨rfl,by show 2<=1000;decide,by rw[aA];omega,d++[(x,y)],s0,.v (.str x),.v (.str y),⟨⟨λp hp=>?_,?_,?_,by rw[aO];show _+1<=4;omega⟩,by rw[aO];exact jH pl⟩,?_⟩
   .rcases aY.mp hp with q | q
    .exact al.o p q
    .rw[aW.mp q];exact⟨hx,hy⟩
   .rw[aF];exact Kr al.n1 q1
   .rw[aF];exact Kr al.n2 q2
   .show _=st (d++[(x,y)]) _ _ _;simp only[st,aF];rfl
  .rintro z ⟨d,G,L,F,⟨al,pl⟩,rfl⟩;exact u _ ⟨d,G,L,F,al,rfl⟩
 rintro _ ⟨d,G,L,F,al,rfl⟩;refine⟨rfl,by show 2<=1000;decide,?_⟩;exact aa m g C d X Y Z I Q J U R h9 M al
end
def lettersS:Af := "abcdefghijklmnopqrstuvwxyz"
def A2:Aa Af:=["in","out"]
def uE (z:Af):Ab (Aa Int) :=
 if z = "and" \/ z = "or" \/ z = "odd" then some [2,3] else if z = "most" then some [3] else if z = "not" then some [1] else if z = "one" \/ z = "nil" then some [0] else none
structure Tops (K:kQ) (w:World) (mg:Str->Option Value):Prop where
 lets:∃ t,mg "LETTERS" = some (.str lettersS t)
 long:∃ t,mg "LONGEST_NAME" = some (.int 8 t)
 side:∃ a,mg "SIDE_WORDS" = some (.ref a)/\∀ H,lR K H a (A2.map V.str)
 cnt:∃ a kvs,mg "NAME_COUNTS" = some (.ref a)/\Ip K w a kvs/\∀ z:Str,(nV kvs (Sum.inr z)=none/\uE z=none)\/∃ t ns,nV kvs (Sum.inr z)=some (.ref t)/\uE z=some ns/\∀ H,lR K H t (ns.map V.int)
 all:mg "all" = none
def sY (c:Nat):Bool:=!(Builtin.Str.occurrences lettersS ⟨#[c]⟩ 0 lettersS.length 1).isEmpty
def rH (z:Af):Bool:=z.cps.toList.all sY&&(decide ((1:Int)<=z.length)&&decide ((z.length:Int)<=8)) && !(uE z).isSome && !decide (z∈A2)
def Tk:Sp:=λc H Q _=>∃ z:Af,c=[.str z]/\z.cps.all (·<128)=true/\z.length<=1000/\∀ a,vZ H a->Q (.b (rH z)) a
theorem Wm (z:Af):∀ (f:V->V),(∀ c,f (.str ⟨#[c]⟩) = .b (sY c))->(sQ z).map f=(z.cps.toList.map sY).map V.b:=by
 intro f a;unfold sQ;rw[aG,aG];refine bZ λc _=>a c
def yA:V->V
 | .str x=>.b (!(Builtin.Str.occurrences lettersS x 0 lettersS.length 1).isEmpty)
 | v=>v
theorem B8 (x:Af):([x]:Aa Af).Nodup:=by simp
theorem DZ (h:H p=none):vZ H (upd H p o):=λb u e=>by rw[mD (pP e h)];exact e
theorem Tw (g:Aa Af):(g.map V.str).all pF=true:=by
 rw[eZ];intro v a;obtain⟨y,_,rfl⟩:=aD.mp a;rfl
section
variable {P:Ah}{K:kQ}
theorem BU:FnScope ["text"] ["text"] (lQ Ku):=mO
theorem AT (F:Fun K "is_name" "is_name" Ku f fd) (T:Txt o) (O:Tops K w o):FnOk P w K o base rN 1 f fd ["text"] Tk:=by
 refine F.ok BU (λvs H Q E h=>?_) (λJ A W s H vs Q E hr h=>?_)
 .obtain⟨z,rfl,_⟩:=h;rfl
 .obtain⟨z,rfl,ha,j,k⟩:=h;obtain⟨I,el⟩:=O.lets;obtain⟨r,U⟩:=O.long;obtain⟨M,es,hs⟩:=O.side;obtain⟨G,B,L,kd,hc⟩:=O.cnt;have rl:lA (.str lettersS) (.str lettersS I):=⟨I,rfl⟩;have r8:lA (.int 8) (.int 8 r):=⟨r,rfl⟩;have rs:lA (.ref M) (.ref M):=rfl;have rc:lA (.ref G) (.ref G):=rfl;refine⟨_,L6 (Gx (Ll (AR (G6 (Ob rfl) (by rfl) O.all PyProof.Rows.boot_all (vU (C8 ["sign"] [] [] rfl (DP (pv 0)) rfl rfl (λd a C X g=>Gr (i:=0) (B8 _) rfl (Or.inl rfl)) (λd a C X g=>P8) (λd a C X g=>Bo Rv (pv 0) (B5 (by rfl) el rl) rfl)) xE)))) (yX (Gc Q5)) Hk) (yX (Gc (Mv (BA Ix Ix Jm (G6 Kz (by rfl) T.len cH (vU (pv 0) xE)) (B5 (by rfl) U r8)) (Mv (Bo Xr (pv 0) (B5 (by rfl) L rc) rfl) (Rm (Bo K5 (pv 0) (B5 (by rfl) es rs) rfl)))))),?_⟩;refine⟨_,rfl,z,rfl,ha,λv D=>?_⟩;have p:vZ H (upd H v (.l ((sQ z).map yA))):=DZ D;refine Uv HA yA D (λ_ _=>True.intro) ?_ ?_ ?_
  .unfold sQ;rw[List.length_map,Gs];exact j
  .rintro i x H2 kk u sm q;obtain⟨c,rfl⟩:∃ c,x=V.str ⟨#[c]⟩:=by
    unfold sQ at u;rw[bM] at u;cases e:z.cps.toList[i]? with
    | none=>rw[e] at u;cases u
    | some c=>rw[e] at u;exact⟨c,(bT u).symm⟩
   exact⟨_,rfl,_,_,rfl,rfl,q⟩
  .have em:=Wm z yA λc=>rfl
   refine⟨v,z.cps.toList.map sY,rfl,lG.of (by rw[nM,em]),_,rfl,?_⟩;have y:(z.cps.toList.map sY).all id=z.cps.toList.all sY:=by rw[List.all_map];rfl
   rw[y];refine C4 (λh=>?_) (λh=>?_)
   .have N:z.cps.toList.all sY=false:=by simpa using h
    refine (?_:Q _ _);have:=k _ p;unfold rH at this;rw[N] at this
    simpa using this
   .have N:z.cps.toList.all sY=true:=by simpa using h
    have hz:z.length<=sizeLine:=bS j (by decide);have fin:∀ b,b=((decide ((1:Int)<=z.length)&&decide ((z.length:Int)<=8)) && !(uE z).isSome && !decide (z∈A2))->Q (.b b) (upd H v (.l ((sQ z).map yA))):=by
     intro b eb;have:=k _ p;unfold rH at this;rw[N,Bool.true_and] at this;rw[eb];exact this
    have S:(nV B (Sum.inr z)).isSome=(uE z).isSome:=by
     rcases hc z with⟨Y,Z⟩ | ⟨t,ns,Y,Z,_⟩<;>rw[Y,Z]<;>rfl
    refine⟨_,rfl,z,rfl,hz,_,_,rfl,rfl,_,rfl,?_⟩;have tail:∀ c:Bool,c=(decide ((1:Int)<=z.length)&&decide ((z.length:Int)<=8))->(if c=true then Rl (yZ (Lu K w true) (pA 0) (tC (V.ref G))) (yZ (Em K true) (pA 0) (tC (V.ref M))) (L2.start ["text"] [V.str z]) (upd H v (.l ((sQ z).map yA))) Q else Q (.b false) (upd H v (.l ((sQ z).map yA)))):=by
     intro c L;refine C4 (λm=>?_) (λm=>?_)
     .refine⟨_,rfl,z,G,B,rfl,rfl,kd,_,rfl,?_⟩;rw[S];refine C4 (λR=>?_) (λR=>?_)
      .refine⟨_,rfl,M,_,rfl,.inr (hs _),rfl,Tw _,?_⟩;refine fin _ ?_;rw[qC,<- L,m];have n:(!(uE z).isSome)=true:=R;rw[n];rfl
      .refine fin _ ?_;have n:(!(uE z).isSome)=false:=Bool.eq_false_iff.mpr R;rw[n];simp
     .refine fin _ ?_;rw[<- L];have:c=false:=by simpa using m
      rw[this];simp
    refine C4 (λm=>?_) (λm=>?_)
    .refine⟨_,_,rfl,rfl,_,rfl,tail _ ?_⟩;rw[m,Bool.true_and]
    .refine⟨_,rfl,tail _ ?_⟩;have:decide ((1:Int)<=(z.length:Int))=false:=by simpa using m
     rw[this];rfl
def Mo:RD:=λd a c=>∃ z:Af,a=[.str z]/\z.cps.all (·<128)=true/\z.length<=1000/\c (.v (.b (rH z)))
theorem Xs (T:Txt g) (O:Tops K w g):mM P w K g base 1 "is_name" Hg ["text"] Mo:=λf fd F=>(AT F T O).imp λD H Q E h=>by
 obtain⟨x,A,y,L,c,B,r,⟨z,rfl,m,n,s⟩,k⟩:=h;cases r with
 | cons u v =>
  cases v;have:=u.str_inv;subst this;exact⟨z,rfl,m,n,λi d=>k _ _ i s (λb o e _=>d b o e) (c.keep λa t=>by
   obtain⟨G,q⟩:=c.some t;rw[d a _ q,q]) (Rep.b _)⟩
end
section
variable {P:Ah}{K:kQ}
theorem Uc:FnScope ["word","some"] ["word","some"] (lQ Ev):=mO
theorem Ug (T:Txt j):mM P w K j base 1 "_law_worth" Ev ["word","some"] Eh:=by
 refine mT Uc λf S A M s H E k o c h Z Y=>?_
 obtain⟨d,bs,rfl,B,ok,G⟩:=Y;have fin:∀ z:Int,z=oC d bs->c (.v (.int z)):=λz e=>by rw[e];exact G
 have a:=Jr bs;have st:∀ (e:Af) (t u:oB),(d=e->t k { nx:=λ_=>c (.v .e),rt:=c } [.v (.str d),.v (.l (bs.map D.int))])->(¬ d=e->u k { nx:=λ_=>c (.v .e),rt:=c } [.v (.str d),.v (.l (bs.map D.int))]) ->
   (∀ N O R,N.rt=O.rt->t k N R->t k O R)->tV (vP (wO (xA (Hw false) 0 (cd (.str e)))) t A9) u k { nx:=λ_=>c (.v .e),rt:=c } [.v (.str d),.v (.l (bs.map D.int))]:=λe t u V W X =>
  ⟨rfl,Hx (λz=>X { nx:=λ_=>c (.v .e),rt:=c } _ _ rfl (V z)) λz=>W z⟩
 refine⟨_,(gD (nW (oO (xK h.units) (wG false) (pv 0) mJ) (kX (lX (nF (Hd rfl) Jl T.min jF (dK (eH 1) eJ)))) nT) (gD (nW (oO (xK h.units) (wG false) (pv 0) mJ) (kX (lX (nF (Iw rfl) Hu T.max jG (dK (eH 1) eJ)))) nT) (gD (nW (oO (xK h.units) (wG false) (pv 0) mJ) (kX (lX (kT mQ mR (nF (Dr rfl) C0 T.sum gS (dK (eH 1) eJ)) eI))) nT) (gD (nW (oO (xK h.units) (wG false) (pv 0) mJ) (kX (lX (lZ N3 Ly T.int PyProof.Rows.boot_int (dK (xZ uT uO (nF (Dr rfl) C0 T.sum gS (dK (eH 1) eJ)) eI) eJ)))) nT) (gD (nW (oO (xK h.units) (wG false) (pv 0) mJ) (kX (lX (kT wA vR eI (hB Z 1 eI)))) nT) (kX (lX (lZ N3 Ly T.int PyProof.Rows.boot_int (dK (BB (xK h.units) (wG false) (pv 0) mJ) eJ))))))))),?_⟩;refine st _ _ _ (λe=>⟨bs,a,?_,λm F y=>fin m ?_⟩) (λi=>?_) (λ_ _ _ e=>by unfold oS;rw[e];exact id)
 .have:=Ew ok (.inl e);intro z;rw[z] at this;simp at this
 .rw[N2 B F y];unfold oC;rw[if_pos e]
 refine st _ _ _ (λe=>⟨bs,a,?_,λm F y=>fin m ?_⟩) (λn=>?_) (λ_ _ _ e=>by unfold oS;rw[e];exact id)
 .have:=Ew ok (.inr e);intro z;rw[z] at this;simp at this
 .rw[Kw B F y];unfold oC;rw[if_neg i,if_pos e]
 refine st _ _ _ (λe=>⟨bs,a,by show (0:Int)<2;decide,fin _ ?_⟩) (λx=>?_) (λ_ _ _ e=>by unfold oS;rw[e];exact id)
 .unfold oC;rw[if_neg i,if_neg n,if_pos e]
 refine st _ _ _ (λe=>⟨bs,a,fin _ ?_⟩) (λL=>?_) (λ_ _ _ e=>by unfold oS;rw[e];exact id)
 .unfold oC;rw[if_neg i,if_neg n,if_neg x,if_pos e];by_cases z:bs.sum>=2
  .rw[aZ z,aZ (aV (show (1:Int)<bs.sum by omega))]
  .rw[aK z,aK (by rw[decide_eq_true_iff];omega)]
 refine st _ _ _ (λe=>?_) (λQ=>?_) (λ_ _ _ e=>by unfold oS;rw[e];exact id)
 .subst e;have g:=Lx ok;obtain⟨b,rfl⟩:∃ b,bs=[b]:=by
   match bs,g with
   | [b],_=>exact⟨b,rfl⟩
  refine⟨rfl,.int b,rfl,fin _ ?_⟩;have:=B b (by simp);unfold oC;rw[aK i,aK n,aK x,aK L,aZ rfl];rcases this with q | q<;>subst q<;>simp
 refine⟨rfl,fin _ ?_⟩;by_cases e:d = "one"
 .unfold oC;rw[if_neg i,if_neg n,if_neg x,if_neg L,if_neg Q,if_pos e,if_pos (by simp[nb,e])]
 .unfold oC;rw[if_neg i,if_neg n,if_neg x,if_neg L,if_neg Q,if_neg e,if_neg (by simp[nb,e])]
end
theorem Ve:(["one","values"]:Aa Af).Nodup:=by decide +kernel
def Rx:RD:=λf d e=>∃ (C:Cel) (a:Aa (fS×D)) (c:Af->Int),d=[oW C,.k a]/\GC C/\a.length<=40/\rV a C.ins c/\∀ b,rV b C.names (tW C c)->e (.o (.k b))
section
variable {P:Ah}{K:kQ}
theorem Cf:FnScope ["cell","bits","values","name","word","named"] ["cell","bits"] (lQ Fd):=mO
theorem HQ (T:Txt I) (l:Kn P w K I base 1 "_law_worth" Ev ["word","some"] Eh):mM P w K I base 2 "_law_values" Fd ["cell","bits"] Rx:=by
 refine mT Cf λf U A Z s H E dk ds Φ hr W hR=>?_
 obtain⟨C,m,r,rfl,Q,aa,h0,X⟩:=hR;have li:=Q.li;have lg:=Q.lg;refine⟨_,(gD (kZ 2 Cf.nd (lZ (pU rfl) pR T.dict bQ (dK (eH 1) eJ))) (gD (oE (lK (hB W 0 eI)) (nK (n:=3) rfl (lL (hO 3 Cf.nd) (lL (hO 4 Cf.nd) (lL (hO 5 Cf.nd) nJ)))) (kX (sF (n:=2) W (lD l hr (dK (eH 4) (dK (mF ["one"] ["values"] [2] (lK (eH 5)) (λ_ _ _ _ _=>(hO 0 Ve)) (λ_ _ _ _ _=>(hB W 1 (eH 0)))) eJ))) (pv 2) (eH 3)))) (kX (lX (Hi 2 (pv 2)))))),?_⟩;refine gV (λc=>c=[.v (oW C),.v (.k m),.o (.k m),.n,.n,.n]) (λN S=>?_) ?_
 .exact S _ rfl
 rintro _ rfl;have R:=h0;refine gV (λc=>∃ (a:Aa (fS×D)) (z B F:Sl),c=[.v (oW C),.v (.k m),.o (.k a),z,B,F]/\rV a C.names (tW C r)) (λN S=>?_) ?_
 .refine nR (C.gates.map lY) _ (λΨ h=>⟨rfl,_,rfl,h⟩)
   (λi c=>∃ (a:Aa (fS×D)) (z B F:Sl),c=[.v (oW C),.v (.k m),.o (.k a),z,B,F]/\rV a (C.ins++(C.gates.take i).map (·.1)) (oZ r (C.gates.take i))/\a.length<=100+i) ⟨_,.n,.n,.n,rfl,by simpa [oZ] using R,by omega⟩ ?_ ?_
  .rintro i x c hx ⟨a,z,B,F,rfl,y,hl⟩;obtain⟨g,u,rfl⟩:=qI hx;obtain⟨G,O⟩:=Q.gt.at u;have hi:i<C.gates.length:=(aL.mp u).1;have M:g.1∉C.ins++(C.gates.take i).map (·.1):=λq=>by
    have J:(C.ins++C.gates.map (·.1)).Nodup:=Q.nd;have e:C.gates=C.gates.take i++g::C.gates.drop (i+1):=by
     obtain⟨hi,rfl⟩:=aL.mp u;rw[iW,fT]
    rw[e,aF,<- bB] at J;exact (bC.mp J).2.2 g.1 q g.1 (by simp) rfl
   have tk:C.gates.take (i+1)=C.gates.take i++[g]:=by rw[cA,u];rfl
   generalize Y:oZ r (C.gates.take i)=d at y;have L:∀ p∈g.2.2,mI (d p):=λp V=>(y p (O p V)).2
   refine⟨rfl,rfl,?_⟩;unfold Et Be aC vd;simp only[List.set_cons_succ,List.set_cons_zero,List.getElem?_cons_succ,List.getElem?_cons_zero];refine mC g.2.2 D.str (λo=>.int (d o)) [.v (oW C),.v (.k m),.o (.k a),.v (.str g.1),.v (.str g.2.1),.v (.t (g.2.2.map D.str))] (λΨ h=>h) (by rcases G.ok with⟨_,q | q⟩ | ⟨_,q⟩ | ⟨_,q⟩ | ⟨_,q⟩ | ⟨_,q⟩<;>rw[q]<;>decide) (λj o ys Nx e R h2=>?_) ?_
   .refine⟨rfl,.int (d o),?_,R,h2⟩;show some (kR a (Sum.inr o))=_;rw[(y o (O o (aE e))).1]
   refine⟨g.2.1,g.2.2.map d,by rw[aG];rfl,(λb hb=>by obtain⟨p,V,rfl⟩:=aD.mp hb;exact L p V),by rw[aA];exact G,.inl rfl,rfl,_,rO (by omega),nN a (Sum.inr g.1) (.int (oC g.2.1 (g.2.2.map d))),_,_,_,rfl,?_,?_⟩
   .rw[tk,Hf,Y,aF,<- bB];exact y.step (Im _ _) M
   .have:=xH a (Sum.inr g.1:fS) (.int (oC g.2.1 (g.2.2.map d)));omega
  .rintro c ⟨a,z,B,F,rfl,y,hl⟩;rw[aA,cG (bF _)] at y;exact S _ ⟨a,z,B,F,rfl,y⟩
 rintro _ ⟨a,z,B,F,rfl,y⟩;exact X a y
end
theorem Ry:(["output","name"]:Aa Af).Nodup:=by decide +kernel
theorem EG:(["name","row"]:Aa Af).Nodup:=by decide +kernel
section
variable {P:Ah}{K:kQ}
theorem Zx:FnScope ["row"] ["row"] (lQ Fe):=mO
theorem IZ:FnScope ["row"] ["row"] (lQ Ec):=mO
theorem DM:mM P w K g base 1 "_law_carried" Fe ["row"] A8:=by
 refine mT Zx λf d A b s H E x y G z u q=>?_
 obtain⟨C,c,rfl,B,a⟩:=q;refine⟨_,(kX (lX (mF ["output","name"] [] [] (lK (hB u 0 eI)) (λ_ _ _ _ _=>(nK (n:=2) rfl (lL (hO 0 Ry) (lL (hO 1 Ry) nJ)))) (λ_ _ _ _ _=>(eH 1))))),?_⟩;unfold oS;exact mC c (λp=>D.t [.str p.1,.str p.2]) (λp=>D.str p.2) _ (λL h=>⟨rfl,_,rfl,h⟩) (by omega) (λi p F v e k m=>⟨rfl,rfl,k,m⟩) a
theorem Vu (g:Kn P w K j base 1 "_law_carried" Fe ["row"] A8):mM P w K j base 2 "_law_wordly" Ec ["row"] Bz:=by
 refine mT IZ λf k A d s H E F G N y b v=>?_
 obtain⟨C,a,rfl,z,L,c⟩:=v;refine⟨_,(kX (lX (mF ["name"] ["row"] [0] (lK (lV b (hB b 0 eI) eI)) (λ_ _ _ _ _=>(hO 0 EG)) (λ_ _ _ _ _=>(eH 0)) (ht:=λ_ _ _ _ _=>(uI (oO (rF b) (qQ true) (pv 0) (lD g y (dK (eH 1) eJ)))))))),?_⟩;unfold oS;refine sV C.ins D.str D.str (λx=>!decide (x∈a.map λp:Af×Af=>p.2)) _ (λO h=>⟨rfl,_,rfl,_,rfl,h⟩) (by omega) (λi x M B e n t u=>?_) c;have m:(a.map λp=>D.str p.2)=(a.map (·.2)).map D.str:=by rw[aG];rfl
 refine⟨rfl,C,a,rfl,z,.inl rfl,.str x,(a.map (·.2)).map V.str,rfl,by rw[m];exact qU _,?_⟩;rw[qC];show if (!decide (x∈a.map (·.2)))=true then _ else _
 by_cases q:x∈a.map (·.2)
 .exact nI (by rw[aV q];rfl) (u (by rw[aV q];rfl))
 .exact oI (by rw[aP q];rfl) ⟨n,t (by rw[aP q];rfl)⟩
end
theorem BW:(["name","turned"]:Aa Af).Nodup:=by decide +kernel
theorem Xo:(["name","gone"]:Aa Af).Nodup:=by decide +kernel
theorem G4:(["name","word","names"]:Aa Af).Nodup:=by decide +kernel
def Ps:RD:=λe c d=>∃ (b:Aa Af) (a:Aa (fS×D)) (f:Af->Af),c=[.t (b.map D.str),.k a]/\b.length<=100/\(∀ x∈b,kR a (Sum.inr x)=some (.str (f x)))/\d (.v (.t ((b.map f).map D.str)))
def Rj:RD:=λe c d=>∃ (a b:Aa Af),c=[.t (a.map D.str),.l (b.map D.str)]/\a.length<=100/\d (.v (.t ((a.filter λx=>!decide (x∈b)).map D.str)))
def Dh:RD:=λd b c=>∃ C a,b=[kS C a]/\C.gates.length<=100/\C.ins.length<=100/\c (.v (.t (C.names.map D.str)))
section
variable {P:Ah}{K:kQ}
theorem ES:FnScope ["names","turned"] ["names","turned"] (lQ Cw):=mO
theorem GZ:FnScope ["names","gone"] ["names","gone"] (lQ Ea):=mO
theorem HF:FnScope ["row"] ["row"] (lQ yO):=mO
theorem Xw (T:Txt g):mM P w K g base 1 "all_turned" Cw ["names","turned"] Ps:=by
 refine mT ES λf d A c s H E y z L B q n=>?_
 obtain⟨u,b,f,rfl,F,t,a⟩:=n;refine⟨_,(kX (lX (lZ pT pM T.tuple bN (dK (mF ["name"] ["turned"] [1] (lK (eH 0)) (λ_ _ _ _ _=>(hO 0 BW)) (λ_ _ _ _ _=>(hB q 1 (eH 0)))) eJ)))),?_⟩;unfold oS dC aC;refine mC u D.str (λx=>D.str (f x)) _ (λM h=>h) (by omega) (λi x G v e k m=>⟨rfl,.str (f x),?_,k,m⟩) ?_
 .show some (kR b (Sum.inr x))=_;rw[t x (aE e)]
 .rw[aG] at a;exact a
theorem FC (T:Txt g):mM P w K g base 1 "without" Ea ["names","gone"] Rj:=by
 refine mT GZ λf d A c s H E z B M F u t=>?_
 obtain⟨v,a,rfl,G,b⟩:=t;refine⟨_,(kX (lX (lZ pT pM T.tuple bN (dK (mF ["name"] ["gone"] [1] (lK (eH 0)) (λ_ _ _ _ _=>(hO 0 Xo)) (λ_ _ _ _ _=>(eH 0)) (ht:=λ_ _ _ _ _=>(uI (vK (rF u) (qQ true) (eH 0) (pv 1))))) eJ)))),?_⟩;unfold oS dC aC;refine sV v D.str D.str (λx=>!decide (x∈a)) _ (λN h=>h) (by omega) (λi x L y e k m n=>?_) b;refine⟨.str x,a.map V.str,rfl,qU _,?_⟩;rw[qC];show if (!decide (x∈a))=true then _ else _
 by_cases q:x∈a
 .exact nI (by rw[aV q];rfl) (n (by rw[aV q];rfl))
 .exact oI (by rw[aP q];rfl) ⟨k,m (by rw[aP q];rfl)⟩
theorem HH (T:Txt j):mM P w K j base 1 "cell_names" yO ["row"] Dh:=by
 refine mT HF λf d A c s H E v y L z b q=>?_
 obtain⟨C,t,rfl,B,F,a⟩:=q;refine⟨_,(kX (lX (kT lO lM (lV b (hB b 0 eI) eI) (lZ pT pM T.tuple bN (dK (mF ["name","word","names"] [] [] (lK (lV b (hB b 0 eI) eI)) (λ_ _ _ _ _=>(nK (n:=3) rfl (lL (hO 0 G4) (lL (hO 1 G4) (lL (hO 2 G4) nJ))))) (λ_ _ _ _ _=>(eH 0))) eJ))))),?_⟩;refine⟨rfl,_,rfl,_,rfl,?_⟩;unfold dC aC;refine mC C.gates lY (λg=>D.str g.1) _ (λM h=>⟨rfl,_,rfl,_,rfl,h⟩) (by omega) (λi x G u e k m=>⟨rfl,rfl,k,m⟩) ?_;have e:C.ins.map D.str++C.gates.map (λg=>D.str g.1)=C.names.map D.str:=by unfold Cel.names;rw[List.map_append,List.map_map];rfl
 rw[<- e] at a;exact⟨by simp;omega,a⟩
end
theorem Q1:(["name"]:Aa Af).Nodup:=by decide +kernel
theorem Pw:(["output","name"]:Aa Af).Nodup:=by decide +kernel
def oG (c:Af) (g:Aa Af):Aa (fS×D):=g.map λx=>((Sum.inr x:fS),D.str (c++x))
theorem vV:∀ (b a:Aa (fS×D)),(b.map (·.1)).Nodup->kR (oY a b) k=(kR b k).or (kR a k)
 | [],a,_=>by rw[Ce];rfl
 | (j,d)::b,a,h=>by
  obtain⟨i,m⟩:=bX.mp h;have e:oY a ((j,d)::b)=oY (nN a j d) b:=rfl;rw[e,vV b _ m,xB,sU];by_cases q:j=k
  .rw[aZ q,aZ q];have:kR b k=none:=by
    cases z:kR b k with
    | none=>rfl
    | some c =>
     refine absurd ?_ i;have t:(b.any λf=>decide (f.1=k))=true:=by rw[Bi,z];rfl
     obtain⟨f,n,s⟩:=hX.mp t;exact aD.mpr ⟨f,n,by rw[q];exact cR s⟩
   rw[this];rfl
  .rw[aK q,aK q]
theorem Nf:∀ (b a:Aa (fS×D)),((a++b).map (·.1)).Nodup->oY a b=a++b
 | [],a,_=>by rw[cD];rfl
 | p::b,a,h=>by
  have d:p.1∉a.map (·.1):=λq=>by
   rw[aF] at h;exact (bC.mp h).2.2 p.1 q p.1 (by simp) rfl
  have e:oY a (p::b)=oY (nN a p.1 p.2) b:=rfl;have c:nN a p.1 p.2=a++[p]:=by
   unfold nN;rw[aK λz=>by
    obtain⟨f,i,k⟩:=hX.mp z;exact d (aD.mpr ⟨f,i,cR k⟩)]
  rw[e,c,Nf b (a++[p]) (by simpa using h)];simp
theorem Aq:∀ (b a:Aa (fS×D)),(oY a b).length<=a.length+b.length
 | [],a=>bF _
 | p::b,a=>by
  have e:oY a (p::b)=oY (nN a p.1 p.2) b:=rfl;have c:=Aq b (nN a p.1 p.2);have d:=xH a p.1 p.2;rw[e,dO];omega
theorem yS:∀ {g:Aa Af},x∈g->kR (oG c g) (Sum.inr x)=some (.str (c++x))
 | y::g,h=>by
  show kR (((Sum.inr y:fS),D.str (c++y))::oG c g) (Sum.inr x)=_;rw[sU];by_cases q:y=x
  .subst q;rw[aZ rfl]
  .rw[aK λz=>q (dD z)];rcases aI.mp h with z | z
   .exact absurd z.symm q
   .exact yS z
theorem Cm (g:j.Nodup):((oG c j).map (·.1)).Nodup:=by
 unfold oG;rw[aG];exact gT _ (λx y h e=>h (dD e)) g
def Rt:RD:=λe c d=>∃ C a,c=[kS C a]/\C.names.Nodup/\C.gates.length<=100/\C.ins.length<=100/\(∀ x∈C.names,x.length<=1000)/\∀ b,(∀ x∈C.names,kR b (Sum.inr x)=some (.str ("a" ++ x)))->d (.o (.k b))
def kU (g:Aa (Af×Af)) (x:Af):Af:=match g.find? λp=>decide (p.2=x) with
 | some p => "a" ++ p.1
 | none => "b" ++ x
def vI (g:Aa (Af×Af)):Aa (fS×D):=g.map λp=>((Sum.inr p.2:fS),D.str ("a" ++ p.1))
theorem Qk:∀ (g:Aa (Af×Af)) (d:Ab D),(d=some (.str ("b" ++ x)))->(kR (vI g) (Sum.inr x)).or d=some (.str (kU g x))
 | [],d,h=>h
 | p::g,d,h=>by
  show (kR (((Sum.inr p.2:fS),D.str ("a" ++ p.1))::vI g) (Sum.inr x)).or d=_;rw[sU];unfold kU;rw[cX];by_cases q:p.2=x
  .rw[aZ (by rw[q]),aV q];rfl
  .rw[aK λz=>q (dD z),aP q];exact Qk g d h
def Po:RD:=λf d e=>∃ C b a,d=[kS C b,.t (a.map λp=>D.t [.str p.1,.str p.2])]/\C.names.Nodup/\C.gates.length<=100/\C.ins.length<=100/\(∀ x∈C.names,x.length<=1000)/\(a.map (·.2)).Nodup/\a.length<=100/\(∀ p∈a,p.1.length<=1000)/\∀ c,(∀ x∈C.names,kR c (Sum.inr x)=some (.str (kU a x)))->e (.o (.k c))
section
variable {P:Ah}{K:kQ}
theorem ID:FnScope ["row"] ["row"] (lQ Db):=mO
theorem Ro:FnScope ["row","pairs","turned"] ["row","pairs"] (lQ Dv):=mO
theorem Ws (T:Txt l) (j:Kn P w K l base 1 "cell_names" yO ["row"] Dh):mM P w K l base 2 "first_names" Db ["row"] Rt:=by
 refine mT ID λf k A c s H E L M R y N v=>?_
 obtain⟨C,d,rfl,F,z,B,a,b⟩:=v;have O:C.names.length<=200:=by unfold Cel.names;rw[List.length_append,List.length_map];omega
 refine⟨_,(kX (lX (lZ (pU rfl) pR T.dict bQ (dK (mF ["name"] [] [] (lK (lD j y (dK (eH 0) eJ))) (λ_ _ _ _ _=>(hO 0 Q1)) (λ_ _ _ _ _=>(lI (dK (eH 0) (dK (kT lO lM mJ (eH 0)) eJ))))) eJ)))),?_⟩;unfold oS dC aC;refine mC C.names D.str (λn=>.t [.str n,.str ("a" ++ n)]) _ (λS h=>⟨C,d,rfl,z,B,.inl rfl,h⟩) (by omega) (λi n Q G e q u=>?_) ?_
 .have:=a n (aE e);exact⟨by show 1+n.length<=100000;omega,by show 2<=1000;decide,q,u⟩
 have m:oK (C.names.map λn=>D.t [.str n,.str ("a" ++ n)])=some (oG "a" C.names):=by
  rw[qB (g:=λn=>((Sum.inr n:fS),D.str ("a" ++ n))) (λn=>⟨.str n,rfl,rfl⟩)];rfl
 refine⟨_,m,by unfold oG;rw[List.length_map];omega,?_⟩;refine b _ λx a=>?_
 rw[vV _ _ (Cm F),yS a];rfl
theorem CV (T:Txt l) (j:Kn P w K l base 1 "cell_names" yO ["row"] Dh):mM P w K l base 2 "second_names" Dv ["row","pairs"] Po:=by
 refine mT Ro λf R A L s H E dk ds Φ W hu S=>?_
 obtain⟨C,c,a,rfl,nd,I,J,B,M,U,V,G⟩:=S;have r:C.names.length<=200:=by unfold Cel.names;rw[List.length_append,List.length_map];omega
 refine⟨_,(gD (kZ 2 Ro.nd (lZ (pU rfl) pR T.dict bQ (dK (mF ["name"] [] [] (lK (lD j W (dK (eH 0) eJ))) (λ_ _ _ _ _=>(hO 0 Q1)) (λ_ _ _ _ _=>(lI (dK (eH 0) (dK (kT lO lM mJ (eH 0)) eJ))))) eJ))) (gD (oV (qE iQ PySem.F.slot_dict_update PySem.F.type_dict_update P7 Qu (pv 2) (dK (lZ (pU rfl) pR T.dict bQ (dK (mF ["output","name"] [] [] (lK (eH 1)) (λ_ _ _ _ _=>(nK (n:=2) rfl (lL (hO 0 Pw) (lL (hO 1 Pw) nJ)))) (λ_ _ _ _ _=>(lI (dK (eH 1) (dK (kT lO lM mJ (eH 0)) eJ))))) eJ)) eJ))) (kX (lX (Hi 2 (pv 2)))))),?_⟩;refine gV (λO=>O=[.v (kS C c),.v (.t (a.map λp=>D.t [.str p.1,.str p.2])),.o (.k (oY [] (oG "b" C.names)))]) (λN z=>?_) ?_
 .unfold mV dC aC;refine mC C.names D.str (λn=>.t [.str n,.str ("b" ++ n)]) _ (λΨ h=>⟨C,c,rfl,I,J,.inl rfl,h⟩) (by omega) (λi n ys Q e q u=>?_) ?_
  .have:=B n (aE e);exact⟨by show 1+n.length<=100000;omega,by show 2<=1000;decide,q,u⟩
  have m:oK (C.names.map λn=>D.t [.str n,.str ("b" ++ n)])=some (oG "b" C.names):=by
   rw[qB (g:=λn=>((Sum.inr n:fS),D.str ("b" ++ n))) (λn=>⟨.str n,rfl,rfl⟩)];rfl
  exact⟨_,m,by unfold oG;rw[List.length_map];omega,z _ rfl⟩
 rintro _ rfl;have Y:=Aq (oG "b" C.names) [];have Z:=Aq (vI a) [];have l3:(oG "b" C.names).length<=200:=by unfold oG;rw[List.length_map];exact r
 have l4:(vI a).length<=100:=by unfold vI;rw[List.length_map];exact U
 rw[eG] at Y Z;have b:((vI a).map (·.1)).Nodup:=by
  unfold vI;rw[aG];have:((a.map (·.2)).map (Sum.inr:Af->fS)).Nodup:=gT _ (λx y h e=>h (dD e)) M;rw[aG] at this;exact this
 refine gV (λO=>∃ d,(∀ x∈C.names,kR d (Sum.inr x)=some (.str (kU a x)))/\O=[.v (kS C c),.v (.t (a.map λp=>D.t [.str p.1,.str p.2])),.o (.k d)]) (λN z=>?_) ?_
 .unfold Km dW aC dC;refine⟨rfl,?_⟩;refine mC a (λp=>D.t [.str p.1,.str p.2]) (λp=>.t [.str p.2,.str ("a" ++ p.1)]) _ (λΨ h=>h) (by omega) (λi p ys Q e q u=>?_) ?_
  .have:=V p (aE e);exact⟨rfl,rfl,by show 1+p.1.length<=100000;omega,by show 2<=1000;decide,q,u⟩
  have m:oK (a.map λp=>D.t [.str p.2,.str ("a" ++ p.1)])=some (vI a):=by
   rw[qB (g:=λp:Af×Af=>((Sum.inr p.2:fS),D.str ("a" ++ p.1))) (λp=>⟨.str p.2,rfl,rfl⟩)];rfl
  refine⟨_,m,by omega,?_⟩;refine⟨by omega,z _ ⟨_,λx B=>?_,rfl⟩⟩;rw[Nf (vI a) [] b,fW,vV _ _ b];exact Qk a _ (by rw[vV _ _ (Cm nd),yS B];rfl)
 rintro _ ⟨d,X,rfl⟩;exact G d X
end
theorem Jx:(["name","word","names","turned"]:Aa Af).Nodup:=by decide +kernel
theorem U2:(["pair","turned"]:Aa Af).Nodup:=by decide +kernel
def nB (f:Af->Af) (g:Af×Af×Aa Af):Af×Af×Aa Af:=(f g.1,g.2.1,g.2.2.map f)
def qS (f:Af->Af) (C:Cel):Cel:=⟨C.ins.map f,C.gates.map (nB f),C.outs.map f⟩
def oQ (f:Af->Af) (g:Aa (Af×Af)):Aa (Af×Af):=g.map λp=>(f p.1,f p.2)
def Kh:RD:=λe c d=>∃ C a b f,c=[kS C a,.k b]/\GC C/\a.length<=100/\(∀ p∈a,p.1∈C.names/\p.2∈C.names)/\(∀ x∈C.names,kR b (Sum.inr x)=some (.str (f x)))/\d (.v (kS (qS f C) (oQ f a)))
section
variable {P:Ah}{K:kQ}
theorem Dy:FnScope ["row","turned","cell","gates","along"] ["row","turned"] (lQ Dt):=mO
theorem L4 {w:Af}{n:Nat}(h:ArOk w n):n<=3:=by
 rcases h.ok with⟨_,q | q⟩ | ⟨_,q⟩ | ⟨_,q⟩ | ⟨_,q⟩ | ⟨_,q⟩<;>omega
theorem Zc (T:Txt r) (j:Kn P w K r base 1 "all_turned" Cw ["names","turned"] Ps):mM P w K r base 2 "row_turned" Dt ["row","turned"] Kh:=by
 refine mT Dy λf X A R s H E dk ds Φ L d Y=>?_
 obtain⟨C,b,a,f,rfl,u,lp,Z,m,Q⟩:=Y;have li:=u.li;have lg:=u.lg;have lo:=u.lo;refine⟨_,(gD (kZ 2 Dy.nd (hB d 0 eI)) (gD (vJ 3 ["name","word","names"] ["turned"] [1] Dy.nd (lK (hB d 2 eI)) (λ_ _ _ _ _=>(nK (n:=3) rfl (lL (hO 0 Jx) (lL (hO 1 Jx) (lL (hO 2 Jx) nJ))))) (λ_ _ _ _ _=>(lI (dK (hB d 3 (eH 0)) (dK (eH 1) (dK (lD j L (dK (eH 2) (dK (eH 3) eJ))) eJ)))))) (gD (vJ 4 ["pair"] ["turned"] [1] Dy.nd (lK (hB d 0 eI)) (λ_ _ _ _ _=>(hO 0 U2)) (λ_ _ _ _ _=>(lD j L (dK (eH 0) (dK (eH 1) eJ))))) (kX (lX (lI (dK (lI (dK (lD j L (dK (hB d 2 eI) (dK (eH 1) eJ))) (dK (lZ pT pM T.tuple bN (dK (eH 3) eJ)) (dK (lD j L (dK (hB d 2 eI) (dK (eH 1) eJ))) eJ)))) (dK (lZ pT pM T.tuple bN (dK (eH 4) eJ)) eJ)))))))),?_⟩;refine gV (λF=>F=[.v (kS C b),.v (.k a),.v (oW C),.n,.n]) (λN B=>⟨rfl,_,rfl,B _ rfl⟩) ?_;rintro _ rfl;refine gV (λF=>F=[.v (kS C b),.v (.k a),.v (oW C),.o (.l ((qS f C).gates.map lY)),.n]) (λN B=>?_) ?_
 .unfold mV;refine mC C.gates lY (λg=>lY (nB f g)) _ (λΨ h=>⟨rfl,_,rfl,h⟩) (by omega) (λi g U S e M O=>?_) (B _ ?_)
  .have G:=aE e;obtain⟨V,W⟩:=u.gt.at e;have I:∀ p∈g.2.2,p∈C.names:=λp q=>by
    rcases aY.mp (W p q) with z | z
    .exact aM _ z
    .obtain⟨y,J,rfl⟩:=aD.mp z;exact aJ _ (aU (hG J))
   have l3:=L4 V;refine⟨rfl,rfl,rfl,.str (f g.1),?_,g.2.2,a,f,rfl,by omega,λx c=>m x (I x c),.inl rfl,by show 3<=1000;decide,M,O⟩;show some (kR a (Sum.inr g.1))=_;rw[m g.1 (aJ _ (aU G))]
  .unfold qS;dsimp only;rw[List.map_map];rfl
 rintro _ rfl;refine gV (λF=>F=[.v (kS C b),.v (.k a),.v (oW C),.o (.l ((qS f C).gates.map lY)),.o (.l ((oQ f b).map λp=>D.t [.str p.1,.str p.2]))]) (λN B=>?_) ?_
 .unfold mV;refine mC b (λp=>D.t [.str p.1,.str p.2]) (λp=>D.t [.str (f p.1),.str (f p.2)]) _ (λΨ h=>⟨rfl,_,rfl,h⟩) (by omega) (λi p U S e M O=>?_) (B _ ?_)
  .have G:=Z p (aE e);refine⟨[p.1,p.2],a,f,rfl,by show 2<=100;decide,λx c=>?_,.inl rfl,M,O⟩;rcases aI.mp c with z | z
   .rw[z];exact m _ G.1
   .rw[aW.mp z];exact m _ G.2
  .unfold oQ;rw[List.map_map];rfl
 rintro _ rfl;refine⟨rfl,_,rfl,C.ins,a,f,rfl,by omega,λx c=>m x (aM _ c),.inl rfl,rfl,_,rfl,C.outs,a,f,rfl,by omega,λx c=>m x (u.os x c),.inl rfl,by show 3<=1000;decide,by show 2<=1000;decide,Q⟩
end
theorem M5:(["output","name"]:Aa Af).Nodup:=by decide +kernel
def oN (g:Aa (Af×Af)):Aa Af:=g.map λp => "a" ++ p.1
def sI (j g:Aa Af):Aa Af:=j.filter λx=>!decide (x∈g)
def Lr (C D:Cel) (g:Aa Af):Cel:=⟨C.ins++sI D.ins g,C.gates++D.gates,sI C.outs g++D.outs⟩
def Ox:RD:=λh e f=>∃ C c a d b,e=[kS C c,kS a d,.t (b.map λp=>D.t [.str p.1,.str p.2])]/\C.ins.length<=100/\C.gates.length<=100/\C.outs.length<=100/\a.ins.length<=100/\a.gates.length<=100/\a.outs.length<=100/\c.length<=100/\d.length<=100/\b.length<=100/\(∀ p∈b,p.1.length<=1000)/\f (.v (kS (Lr C a (oN b)) (c++d)))
section
variable {P:Ah}{K:kQ}
theorem Dl:FnScope ["one","other","pairs","gone","inputs","outputs"] ["one","other","pairs"] (lQ Dq):=mO
theorem Z5 (T:Txt j) (g:Kn P w K j base 1 "without" Ea ["names","gone"] Rj):mM P w K j base 2 "joined" Dq ["one","other","pairs"] Ox:=by
 refine mT Dl λf F A z s H E Z r X B c Q=>?_
 obtain⟨C,q,d,u,a,rfl,li,U,lo,V,S,W,I,J,lp,R,y⟩:=Q;refine⟨_,(gD (vJ 3 ["output","name"] [] [] Dl.nd (lK (eH 2)) (λ_ _ _ _ _=>(nK (n:=2) rfl (lL (hO 0 M5) (lL (hO 1 M5) nJ)))) (λ_ _ _ _ _=>(kT lO lM mJ (eH 0)))) (gD (kZ 4 Dl.nd (kT lO lM (lV c (hB c 0 eI) eI) (lD g B (dK (lV c (hB c 1 eI) eI) (dK (eH 3) eJ))))) (gD (kZ 5 Dl.nd (kT lO lM (lD g B (dK (lV c (hB c 0 eI) eI) (dK (eH 3) eJ))) (lV c (hB c 1 eI) eI))) (kX (lX (lI (dK (lI (dK (eH 4) (dK (kT lO lM (lV c (hB c 0 eI) eI) (lV c (hB c 1 eI) eI)) (dK (eH 5) eJ)))) (dK (kT lO lM (hB c 0 eI) (hB c 1 eI)) eJ)))))))),?_⟩;let b:Aa Sl:=[.v (kS C q),.v (kS d u),.v (.t (a.map λp=>D.t [.str p.1,.str p.2]))];refine gV (λm=>m=b++[.o (.l ((oN a).map D.str)),.n,.n]) (λN k=>?_) ?_
 .unfold mV;refine mC a (λp=>D.t [.str p.1,.str p.2]) (λp=>D.str ("a" ++ p.1)) _ (λΨ h=>h) (by omega) (λi p ys Y e M O=>?_) (k _ ?_)
  .have:=R p (aE e);exact⟨rfl,rfl,by show 1+p.1.length<=100000;omega,M,O⟩
  .unfold oN;rw[List.map_map];rfl
 rintro _ rfl;have f1:=bU (λx=>!decide (x∈oN a)) d.ins;have f2:=bU (λx=>!decide (x∈oN a)) C.outs;refine gV (λm=>m=b++[.v (.l ((oN a).map D.str)),.v (.t ((C.ins++sI d.ins (oN a)).map D.str)),.n]) (λN k=>?_) ?_
 .refine⟨rfl,_,rfl,_,rfl,rfl,_,rfl,_,rfl,d.ins,oN a,rfl,by omega,.inl rfl,by simp only[aA];omega,k _ ?_⟩;rw[aF];rfl
 rintro _ rfl;refine gV (λm=>m=b++[.v (.l ((oN a).map D.str)),.v (.t ((C.ins++sI d.ins (oN a)).map D.str)),.v (.t ((sI C.outs (oN a)++d.outs).map D.str))]) (λN k=>?_) ?_
 .refine⟨rfl,_,rfl,_,rfl,C.outs,oN a,rfl,by omega,.inl rfl,rfl,_,rfl,_,rfl,by simp only[aA];omega,k _ ?_⟩;rw[aF (l₁:=sI C.outs (oN a))];rfl
 rintro _ rfl;refine⟨rfl,_,rfl,_,rfl,rfl,_,rfl,_,rfl,by simp only[aA];omega,by show 3<=1000;decide,rfl,_,rfl,rfl,_,rfl,by simp only[aA];omega,by show 2<=1000;decide,?_⟩;have G:C.gates.map lY++d.gates.map lY=(C.gates++d.gates).map lY:=aF.symm;have L:(q.map λp=>D.t [.str p.1,.str p.2])++(u.map λp=>D.t [.str p.1,.str p.2])=(q++u).map λp=>D.t [.str p.1,.str p.2]:=aF.symm
 show X (.v (.t [.t [.t ((C.ins++sI d.ins (oN a)).map D.str),.t (C.gates.map lY++d.gates.map lY),.t ((sI C.outs (oN a)++d.outs).map D.str)],.t ((q.map λp=>D.t [.str p.1,.str p.2])++(u.map λp=>D.t [.str p.1,.str p.2]))]));rw[G,L];exact y
end
end Lw
namespace L2
open PySem PySem.Spec PyProof.Rows Lw
def Qa:V->Aa V->Hp->VK->Prop:=λx b H Q=>∃ (l:Ad) (a:Aa Af) (y:Af) (j:Nat),x = .ref l/\b=[.str y]/\H l=some (.l (a.map V.str))/\a[j]?=some y/\(∀ m,m<j->a[m]?≠some y)/\Q .e (upd H l (.l ((a.eraseIdx j).map V.str)))
theorem Ii (f:g->j):∀ (l:Aa g) (n:Nat),(l.map f).eraseIdx n=(l.eraseIdx n).map f
 | [],_=>by simp
 | a::l,0=>rfl
 | a::l,n+1=>by rw[bH,eP,eP,bH,Ii f l n]
section
variable {X:Cx}
theorem Oo:Is X "list.remove" Qa:=by
 intro K s p H x g v Z Q I S R h;obtain⟨l,b,y,j,rfl,rfl,E,G,B,q⟩:=h;cases S;obtain⟨u,rfl,P⟩:=R.one;obtain⟨t,rfl⟩:=P;obtain⟨z,a,n,r,N,e⟩:=I.lstM E;have W:=EI r;have f:a.length=b.length:=by rw[<- r.length,aA]
 have d:∀ m (k:m<a.toArray.size),isStrOf y a.toArray[m]=decide (b[m]?=some y):=λm k=>by
  have A:m<a.length:=by simpa using k
  have O:(b.map V.str)[m]?=some (V.str (b[m]'(by omega))):=by rw[bM,aR (by omega)];rfl
  obtain⟨o,hw,Y,rfl⟩:=r.get O;have L:a.toArray[m] = .str (b[m]'(by omega)) Y:=by
   rw[aR A] at hw
   simpa using bT hw
  rw[L,aR (by omega)];show (b[m]'(by omega) == y)=_;by_cases c:b[m]'(by omega)=y<;>simp[c]
 have M:=(aL.mp G).1;have D:a.toArray.size<=sizeLine:=by rw[bE,f];have:=N;simp at this;omega
 refine jI F.slot_list_remove ⟨_,e,rfl⟩ F.entry_list_remove (F.args_list_remove_2 _ _)
  (MeetsSeq.list_remove l a.toArray n (.str y t) (isStrOf y) (λw hw=>eq_isStrOf y t W w (by simpa using hw)) j (by rw[bE];omega) ?_ ?_ D) ⟨e,?_⟩
 .rw[d];exact aV G
 .intro m k i;rw[d];exact aP (B m i)
 refine⟨.e,_,I.lset (its':=a.eraseIdx j) E e ?_ ?_ ?_,rfl,q⟩
 .show a.toArray.eraseIdxIfInBounds j=(a.eraseIdx j).toArray;rw[iZ]
 .rw[<- Ii];exact r.eraseIdx j
 .have:=Fn (b.map V.str) j;rw[Ii] at this;omega
end
def Xd:OW:=λc b f=>match c,b with
 | .l d,[.str y]=>∃ (a:Aa Af) (j:Nat),d=a.map D.str/\a[j]?=some y/\(∀ m,m<j->a[m]?≠some y)/\f .e (.l ((a.eraseIdx j).map D.str))
 | _,_=>False
theorem Oy {K:kQ}:∀ {j:Aa Af}{l:Aa V},Reps K A H (j.map D.str) l->l=j.map V.str
 | [],_,h=>by cases h;rfl
 | y::j,_,h=>by
  cases h with
  | cons g r=>rw[g.str_inv,Oy r];rfl
theorem Nm {K:kQ}:∀ (g:Aa Af),Reps K A H (g.map D.str) (g.map V.str)
 | []=>.nil
 | y::g=>.cons (.str y) (Nm g)
theorem N7 {K:kQ}:yN K Qa Xd:=by
 intro A H a c t w x Q _ n rd b k;cases c<;>first | exact False.elim b | skip
 cases rd with
 | nil=>exact False.elim b
 | cons m rd =>
 rename_i d _ _ _
 cases d<;>first | exact False.elim b | skip
 cases rd with
 | cons _ _=>exact False.elim b
 | nil =>
  obtain⟨v,h,r⟩:=n;have:=m.str_inv;subst this;obtain⟨q,j,rfl,f,i,b⟩:=b;have:=Oy r;subst this;exact⟨a,q,_,j,rfl,rfl,h,f,i,k _ _ _ _ b .e λs u=>⟨_,nM,Nm _⟩⟩
section
variable {X:Cx}
theorem Eg {st:Stmt}:rE X st (λ_ _ _=>False):=λ_ _ _ _ _ _ h=>h.elim λ_ _ _ _ _ _ a _=>a.elim
theorem C5 (l:X.mg n=some (.int i t)) (j:Gl X n:=by rfl) (g:(n == ("__debug__" : Af))=false:=by decide):PD X (.Name n p) (cd (.int i)):=A3 (B5 (v:=.int i) j l ⟨t,rfl⟩ g) λ_ _ _=>.int i
end
end L2
namespace Lw
open PySem L2
theorem JJ:(["name"]:Aa Af).Nodup:=by decide +kernel
structure Bds (mg:Str->Option Value):Prop where
 i:∃ t,mg "MOST_INPUTS" = some (.int 6 t)
 o:∃ t,mg "MOST_OUTPUTS" = some (.int 6 t)
 g:∃ t,mg "MOST_GATES" = some (.int 24 t)
 a:∃ t,mg "MOST_ALONG" = some (.int 4 t)
def Rb:RD:=λd b c=>∃ (x:Af) (a:Aa Af),b=[.str x,.l (a.map D.str)]/\x∈a/\c (.v .e)
structure PrsOk (os is:List Str) (ps:List (Str×Str)):Prop where
 n1:(ps.map (·.1)).Nodup
 n2:(ps.map (·.2)).Nodup
 m:∀ p∈ps,p.1∈os/\p.2∈is
def Nh:RD:=λi f h=>∃ C b a c d,f=[kS C b,kS a c,.t (d.map λp=>D.t [.str p.1,.str p.2])]/\C.outs.length<=100/\b.length<=100/\a.ins.length<=100/\c.length<=100/\C.outs.Nodup/\a.ins.Nodup/\PrsOk (hI C b) (lJ a c) d/\h (.v .e)
def Lo:RD:=λd b c=>∃ C a,b=[kS C a]/\(∀ x∈C.names,x.cps.all (·<128)=true/\x.length<=1000/\rH x=true)/\C.ins.length<=6/\C.outs.length<=6/\C.gates.length<=24/\a.length<=4/\c (.v .e)
def rM (g j:Aa Af):Aa Af:=g.filter λx=>!decide (x∈j)
theorem Pr (p:g.Nodup) (C:x∈g) (r:x∉o):∃ j,(rM g o)[j]?=some x/\(∀ m,m<j->(rM g o)[m]?≠some x)/\(rM g o).eraseIdx j=rM g (o++[x]):=by
 have s:x∈rM g o:=aX.mpr ⟨C,by rw[aP r];rfl⟩;have c:(rM g o).Nodup:=p.filter _;obtain⟨j,d,e⟩:=jV s;refine⟨j,by rw[aR d,e],λm t q=>?_,?_⟩
 .obtain⟨k,D⟩:=aL.mp q;have:=(List.getElem?_inj (j:=j) k c).mp (q.trans (by rw[aR d,e]));omega
 .have i:(rM g o).eraseIdx j=(rM g o).filter λy=>!decide (y=x):=by
   have go:∀ (l:Aa Af) (j:Nat),l.Nodup->l[j]?=some x->l.eraseIdx j=l.filter λy=>!decide (y=x):=by
    intro l;induction l with
    | nil=>intro j _ h;cases h
    | cons a l u =>
     intro j p h;obtain⟨f,v⟩:=bX.mp p;cases j with
     | zero =>
      have h:a=x:=by simpa using h
      subst h;rw[List.eraseIdx_cons_zero,List.filter_cons,aK (by simp)];exact (jW.mpr λb n=>by rw[aP (λz:b=a=>f (z▸n))];rfl).symm
     | succ j =>
      have h:l[j]?=some x:=by simpa using h
      have w:¬ a=x:=λz=>f (z▸aE h)
      rw[eP,List.filter_cons,aZ (by rw[aP w];rfl),u j v h]
   exact go _ j c (by rw[aR d,e])
  rw[i];unfold rM;rw[kD];refine iX λy _=>?_
  by_cases A:y=x<;>by_cases B:y∈o<;>simp[A,B]
section
variable {P:Ah}{K:kQ}
theorem CK:FnScope ["name","free"] ["name","free"] (lQ D9):=mO
theorem Cb:FnScope ["one","other","pairs","outputs","inputs","output","name"] ["one","other","pairs"] (lQ Cu):=mO
theorem Kv:FnScope ["row","cell"] ["row"] (lQ Ff):=mO
theorem T0 (T:Txt g):mM P w K g base 1 "check_free" D9 ["name","free"] Rb:=by
 refine mT CK λf c A b s H E i k q m e d=>?_
 obtain⟨x,n,rfl,h,a⟩:=d;refine⟨_,(kX (nW (vK (rF e) (qQ true) (eH 0) (pv 1)) (kX Eg) nT)),?_⟩;refine⟨_,_,rfl,qU _,?_⟩;rw[qC];exact nI (by simp[nb,h]) a
theorem Yq (T:Txt J) (r:Kn P w K J base 1 "word_outputs" As ["row"] Gm) (I:Kn P w K J base 2 "word_inputs" By ["row"] Bz) (g:Kn P w K J base 1 "check_free" D9 ["name","free"] Rb):mM P w K J base 3 "check_pairs" Cu ["one","other","pairs"] Nh:=by
 refine mT Cb λf aa A O s H E dk ds Φ z hu hR=>?_
 obtain⟨C,c,d,i,a,rfl,l1,l2,l3,l4,B8,M,B,L⟩:=hR;refine⟨_,(gD (kZ 3 Cb.nd (lD r z (dK (eH 0) eJ))) (gD (kZ 4 Cb.nd (lD I z (dK (eH 1) eJ))) (kX (oE (lK (eH 2)) (nK (n:=2) rfl (lL (hO 5 Cb.nd) (lL (hO 6 Cb.nd) nJ))) (gD (oV (lD g z (dK (eH 5) (rA (pv 3) eJ)))) (gD (oV (lD g z (dK (eH 6) (rA (pv 4) eJ)))) (gD (oV (qE bW PySem.F.slot_list_remove PySem.F.type_list_remove Oo N7 (pv 3) (dK (eH 5) eJ))) (kX (oV (qE bW PySem.F.slot_list_remove PySem.F.type_list_remove Oo N7 (pv 4) (dK (eH 6) eJ))))))))))),?_⟩;let b:Aa Sl:=[.v (kS C c),.v (kS d i),.v (.t (a.map λp=>D.t [.str p.1,.str p.2]))];refine gV (λk=>k=b++[.o (.l ((hI C c).map D.str)),.n,.n,.n]) (λN G=>⟨C,c,rfl,l2,by omega,.inl rfl,G _ rfl⟩) ?_;rintro _ rfl;refine gV (λk=>k=b++[.o (.l ((hI C c).map D.str)),.o (.l ((lJ d i).map D.str)),.n,.n]) (λN G=>⟨d,i,rfl,l4,by omega,.inl rfl,G _ rfl⟩) ?_;rintro _ rfl;have no:(hI C c).Nodup:=B8.filter _;have ni:(lJ d i).Nodup:=M.filter _;let st (j:Nat) (x y:Sl):Aa Sl:=b++[.o (.l ((rM (hI C c) ((a.take j).map (·.1))).map D.str)),.o (.l ((rM (lJ d i) ((a.take j).map (·.2))).map D.str)),x,y];have l0:∀ Q:Aa Af,rM Q []=Q:=λQ=>jW.mpr λ_ _=>rfl
 refine nR (a.map λp=>D.t [.str p.1,.str p.2]) (st 0 .n .n) (λΨ h=>?_) (λj k=>∃ x y,k=st j x y) ⟨.n,.n,rfl⟩ ?_ ?_
 .have e:st 0 .n .n=b++[.o (.l ((hI C c).map D.str)),.o (.l ((lJ d i).map D.str)),.n,.n]:=by simp[st,l0]
  rw[e] at h;exact h
 .rintro j e k he ⟨x,y,rfl⟩;obtain⟨p,W,rfl⟩:=qI he;have pm:=aE W;have V:∀ (f:Af×Af->Af),(a.take (j+1)).map f=(a.take j).map f++[f p]:=λf=>by rw[cA,W,aF];rfl
  have u:∀ (f:Af×Af->Af),(a.map f).Nodup->f p∉(a.take j).map f:=λf nd q=>by
   have:=nd.sublist ((fG (j+1) a).map f);rw[V f] at this;exact (bC.mp this).2.2 _ q _ (aW.mpr rfl) rfl
  obtain⟨j1,R,X,Y⟩:=Pr no (B.m p pm).1 (u (·.1) B.n1);obtain⟨j2,S,Z,U⟩:=Pr ni (B.m p pm).2 (u (·.2) B.n2);refine⟨rfl,rfl,rfl,p.1,rM (hI C c) ((a.take j).map (·.1)),rfl,aE R,.inr rfl,?_⟩;refine⟨rfl,p.2,rM (lJ d i) ((a.take j).map (·.2)),rfl,aE S,.inr rfl,?_⟩;refine⟨rfl,_,j1,rfl,R,X,rfl,_,j2,rfl,S,Z,.v (.str p.1),.v (.str p.2),?_⟩;show _=st (j+1) _ _;simp only[st,V,<- Y,<- U];rfl
 .rintro k ⟨x,y,rfl⟩;exact L
theorem Wg (T:Txt r) (B:Bds r) (j:Kn P w K r base 1 "cell_names" yO ["row"] Dh) (l:Kn P w K r base 1 "is_name" Hg ["text"] Mo):mM P w K r base 2 "check_bounds" Ff ["row"] Lo:=by
 refine mT Kv λf O A y s H E Z I Φ z k W=>?_
 obtain⟨C,c,rfl,q,U,lo,J,lp,u⟩:=W;obtain⟨t1,F⟩:=B.i;obtain⟨t2,G⟩:=B.o;obtain⟨t3,L⟩:=B.g;obtain⟨t4,M⟩:=B.a;refine⟨_,(gD (kZ 1 Kv.nd (hB k 0 eI)) (gD (nW (Gq (Bk (nF (Ob rfl) V3 T.all PyProof.Rows.boot_all (dK (mF ["name"] [] [] (lK (lD j z (dK (eH 0) eJ))) (λ_ _ _ _ _=>(hO 0 JJ)) (λ_ _ _ _ _=>(lD l z (dK (eH 0) eJ)))) eJ)))) (kX Eg) nT) (gD (nW (vO (yK (rY uT uO (nF pJ pN T.len cH (dK (hB k 1 eI) eJ)) (C5 F)) (B4 (rY uT uO (nF pJ pN T.len cH (dK (hB k 1 eI) eJ)) (C5 G))))) (kX Eg) nT) (kX (nW (vO (yK (rY uT uO (nF pJ pN T.len cH (dK (hB k 1 eI) eJ)) (C5 L)) (B4 (rY uT uO (nF pJ pN T.len cH (dK (hB k 0 eI) eJ)) (C5 M))))) (kX Eg) nT))))),?_⟩;let b:Aa Sl:=[.v (kS C c),.v (oW C)];refine gV (λm=>m=b) (λN d=>⟨rfl,_,rfl,d _ rfl⟩) ?_;rintro _ rfl;refine gV (λm=>m=b) (λN d=>?_) ?_
 .unfold vP Nd P6 dC aC;refine mC C.names D.str (λx=>.b (rH x)) b (λn h=>⟨C,c,rfl,by omega,by omega,.inl rfl,h⟩) (by unfold Cel.names;rw[List.length_append,List.length_map];omega) (λi x ys Y e S V=>⟨x,rfl,(q x (aE e)).1,(q x (aE e)).2.1,.inl rfl,S,V⟩) ?_;have R:uX (C.names.map λx=>D.b (rH x))=some (C.names.map rH):=by
   rw[show (C.names.map λx=>D.b (rH x))=(C.names.map rH).map D.b by rw[aG];rfl];exact Nr _
  refine⟨_,R,?_⟩;have Q:(C.names.map rH).all id=true:=by rw[List.all_map];exact eZ.mpr λx X=>(q x X).2.2
  rw[Q];exact⟨rfl,true,rfl,d _ rfl⟩
 rintro _ rfl;refine gV (λm=>m=b) (λN d=>?_) ?_
 .refine Bh (decide (((C.ins.map D.str).length:Int)>6)) (decide (((C.outs.map D.str).length:Int)>6)) (λn h=>?_) (λn h=>?_) ?_
  .exact⟨rfl,_,rfl,rfl,_,rfl,h⟩
  .exact⟨rfl,_,rfl,rfl,_,rfl,h⟩
  .exact nI (by simp;omega) (d _ rfl)
 rintro _ rfl;refine Bh (decide (((C.gates.map lY).length:Int)>24)) (decide (((c.map λp=>D.t [.str p.1,.str p.2]).length:Int)>4)) (λn h=>?_) (λn h=>?_) ?_
 .exact⟨rfl,_,rfl,rfl,_,rfl,h⟩
 .exact⟨rfl,_,rfl,rfl,_,rfl,h⟩
 .exact nI (by simp;omega) u
end
structure AZ (x:Str):Prop where
 az:∀ c∈x.cps.toList,97<=c/\c<=122
 lo:1<=x.length
 hi:x.length<=100
structure RG (C:Cel) (prs:List (Str×Str)):Prop where
 gc:GC C
 n1:(prs.map (·.1)).Nodup
 n2:(prs.map (·.2)).Nodup
 m:∀ p∈prs,p.1∈C.outs/\p.2∈C.ins
 lp:prs.length<=40
 az:∀ x∈C.names,AZ x
structure Fits (C:Cel) (prs:List (Str×Str)):Prop where
 i:C.ins.length<=6
 o:C.outs.length<=6
 g:C.gates.length<=24
 a:prs.length<=4
 l:∀ x∈C.names,x.length<=8
 n:("and" : Str)∉C.names
def fA (x:Af):Af := "a" ++ x
def fB (x:Af):Af := "b" ++ x
theorem Eb:∀ {l:Aa g},(l.map f).Nodup->∀ {a b:g},a∈l->b∈l->f a=f b->a=b
 | c::l,h,a,b,k,m,e=>by
  obtain⟨d,i⟩:=bX.mp h;rcases aI.mp k with p | p<;>rcases aI.mp m with q | q
  .rw[p,q]
  .subst p;exact absurd (by rw[e];exact aU q) d
  .subst q;exact absurd (by rw[<- e];exact aU p) d
  .exact Eb i p q e
def jC (C D:Cel) (g:Aa (Af×Af)):Cel:=Lr (qS fA C) (qS (kU g) D) (oN g)
def jP (g j l:Aa (Af×Af)):Aa (Af×Af):=oQ fA g++oQ (kU l) j
theorem sX (g:Aa (Af×Af)) (x:Af):(∃ p∈g,p.2=x/\kU g x=fA p.1)\/(x∉g.map (·.2)/\kU g x=fB x):=by
 unfold kU;cases e:g.find? λp=>decide (p.2=x) with
 | some p=>exact .inl ⟨p,fV e,cR (jT (p:=λp:Af×Af=>decide (p.2=x)) e),rfl⟩
 | none =>
  refine .inr ⟨λz=>?_,rfl⟩;obtain⟨p,a,q⟩:=aD.mp z;have:=gK.mp e p a;simp[q] at this
theorem str_ext {x y:Af}(h:x.cps.toList=y.cps.toList):x=y:=by
 obtain⟨a⟩:=x;obtain⟨b⟩:=y;have:a=b:=by simpa using h
 rw[this]
theorem Bv (x:Af):(fA x).cps.toList=97::x.cps.toList:=pI "a" x
theorem Ax (x:Af):(fB x).cps.toList=98::x.cps.toList:=pI "b" x
theorem qT (h:fA x=fA y):x=y:=str_ext (by have:=cL (λz:Af=>z.cps.toList) h;simpa [Bv] using this)
theorem Ed (h:fB x=fB y):x=y:=str_ext (by have:=cL (λz:Af=>z.cps.toList) h;simpa [Ax] using this)
theorem rD (x y:Af):fA x≠fB y:=λh=>by have:=cL (λz:Af=>z.cps.toList) h;simp[Bv,Ax] at this
theorem Z6 (x:Af):(fA x).length=x.length+1:=by rw[oX,Bv,dO,<- oX]
theorem AU (x:Af):(fB x).length=x.length+1:=by rw[oX,Ax,dO,<- oX]
theorem GK (h:97<=c/\c<=122):sY c=true:=by
 have a:∀ k:Fin 26,sY (97+k.val)=true:=by decide +kernel
 have:=a ⟨c-97,by omega⟩
 rwa [show 97+(c-97)=c by omega] at this
theorem Yw {z:Af}{c:Nat}{r:Aa Nat}(h:z.cps.toList=c::r) (j:c=97\/c=98) (g:z ≠ "and"):uE z=none/\z∉A2:=by
 have ne:∀ (y:Af) (d:Nat),y.cps.toList.head?=some d->d≠97->d≠98->z≠y:=λy d e a b q=>by
  rw[<- q,h] at e;have e:c=d:=bT e;omega
 have a:=ne "or" 111 rfl (by decide) (by decide);have b:=ne "odd" 111 rfl (by decide) (by decide);have f:=ne "most" 109 rfl (by decide) (by decide);have i:=ne "not" 110 rfl (by decide) (by decide);have k:=ne "one" 111 rfl (by decide) (by decide);have m:=ne "nil" 110 rfl (by decide) (by decide);have n:=ne "in" 105 rfl (by decide) (by decide);have s:=ne "out" 111 rfl (by decide) (by decide);refine⟨?_,λq=>?_⟩
 .unfold uE;rw[aK (by simp[g,a,b]),aK f,aK i,aK (by simp[k,m])]
 .unfold A2 at q;rcases aI.mp q with q | q
  .exact n q
  .exact s (aW.mp q)
theorem K8 {z:Af}{c:Nat}{r:Aa Nat}(h:z.cps.toList=c::r) (g:c=97\/c=98) (l:∀ x∈r,97<=x/\x<=122) (o:z.length<=8) (j:z ≠ "and"):z.cps.all (·<128)=true/\z.length<=1000/\rH z=true:=by
 have b:∀ x∈z.cps.toList,97<=x/\x<=122:=λx a=>by
  rw[h] at a;rcases aI.mp a with q | q
  .omega
  .exact l x q
 obtain⟨d,e⟩:=Yw h g j;have f:1<=z.length:=by rw[oX,h,dO];omega
 refine⟨?_,by omega,?_⟩
 .rw[<- Array.all_toList,eZ];intro x a;have:=b x a;exact aV (by omega)
 .unfold rH;rw[d,aP e,aV (show (1:Int)<=z.length by omega),aV (show (z.length:Int)<=8 by omega)];have:z.cps.toList.all sY=true:=eZ.mpr λx a=>GK (b x a)
  rw[this];rfl
theorem Jd {D:Cel}{j:Aa (Af×Af)}(r:D.names.Nodup) (o:∀ p∈j,p.2∈D.ins){g:Af}(l:g∈D.gates.map (·.1)):g∉j.map (·.2):=λz=>by
 obtain⟨p,a,rfl⟩:=aD.mp z;exact (bC.mp r).2.2 _ (o p a) _ l rfl
theorem sZ (h:x∉g.map (·.2)):kU g x=fB x:=by
 rcases sX g x with⟨p,b,e,_⟩ | ⟨_,a⟩
 .exact absurd (aD.mpr ⟨p,b,e⟩) h
 .exact a
theorem Ei (C D:Cel) (j:Aa (Af×Af)):(jC C D j).gates.map (·.1)=C.gates.map (λg=>fA g.1)++D.gates.map λg=>kU j g.1:=by
 show ((qS fA C).gates++(qS (kU j) D).gates).map (·.1)=_;unfold qS;rw[aF,aG,aG];rfl
theorem vC {D:Cel}:(jC C D g).ins=C.ins.map fA++(D.ins.filter λx=>!decide (x∈g.map (·.2))).map fB:=by
 show C.ins.map fA++sI (D.ins.map (kU g)) (oN g)=_;unfold sI;rw[jU];have e:∀ x,((λx=>!decide (x∈oN g))∘kU g) x = !decide (x∈g.map (·.2)):=λx=>by
  show (!decide (kU g x∈oN g))=_;rcases sX g x with⟨p,a,b,c⟩ | ⟨d,f⟩
  .rw[aV (show kU g x∈oN g by rw[c];exact aD.mpr ⟨p,a,rfl⟩),aV (aD.mpr ⟨p,a,b⟩)]
  .rw[aP d,aP λz=>?_];obtain⟨p,_,e⟩:=aD.mp z;exact rD p.1 x (e.trans f)
 rw[show ((λx=>!decide (x∈oN g))∘kU g)=λx=>!decide (x∈g.map (·.2)) from funext e]
 congr 1
 exact bZ λx h=>sZ (by have:=(aX.mp h).2;simpa using this)
theorem Fo {D:Cel}(l:D.names.Nodup) (j:∀ p∈g,p.2∈D.ins) (h:z∈(jC C D g).names):(∃ x∈C.names,z=fA x)\/∃ x∈D.names,x∉g.map (·.2)/\z=fB x:=by
 unfold Cel.names at h;rw[vC,Ei] at h;rcases aY.mp h with h | h<;>rcases aY.mp h with h | h<;>obtain⟨x,a,rfl⟩:=aD.mp h
 .exact .inl ⟨x,aM _ a,rfl⟩
 .obtain⟨c,d⟩:=aX.mp a;exact .inr ⟨x,aM _ c,by simpa using d,rfl⟩
 .exact .inl ⟨x.1,aJ _ (aU a),rfl⟩
 .have b:=Jd l j (aU (f:=(·.1)) a);exact .inr ⟨x.1,aJ _ (aU a),b,sZ b⟩
theorem U5 {D:Cel}(r:RG C J) (o:RG D T) (I:∀ p∈g,p.2∈D.ins) (j:Fits (jC C D g) (jP J T g)):∀ z∈(jC C D g).names,z.cps.all (·<128)=true/\z.length<=1000/\rH z=true:=λz b=>by
 have l:=j.l z b;have n:z ≠ "and" := λq=>j.n (q▸b)
 rcases Fo o.gc.nd I b with⟨x,a,rfl⟩ | ⟨x,a,_,rfl⟩
 .exact K8 (Bv x) (.inl rfl) (r.az x a).az l n
 .exact K8 (Ax x) (.inr rfl) (o.az x a).az l n
def Ic:RD:=λh e f=>∃ C c b d a,e=[kS C c,kS b d,.t (a.map λp=>D.t [.str p.1,.str p.2])]/\RG C c/\RG b d/\PrsOk (hI C c) (lJ b d) a/\a.length<=40/\Fits (jC C b a) (jP c d a)/\f (.v (kS (jC C b a) (jP c d a)))
section
variable {P:Ah}{K:kQ}
theorem N9:FnScope ["one","other","pairs","row"] ["one","other","pairs"] (lQ Cn):=mO
theorem Yh (T:Txt mg) (I:Kn P w K mg base 3 "check_pairs" Cu ["one","other","pairs"] Nh) (U:Kn P w K mg base 2 "joined" Dq ["one","other","pairs"] Ox) (j:Kn P w K mg base 2 "row_turned" Dt ["row","turned"] Kh) (J:Kn P w K mg base 2 "first_names" Db ["row"] Rt) (r:Kn P w K mg base 2 "second_names" Dv ["row","pairs"] Po) (l:Kn P w K mg base 2 "check_bounds" Ff ["row"] Lo):mM P w K mg base 4 "rows_together" Cn ["one","other","pairs"] Ic:=by
 refine mT N9 λf W A S s H E dk ds Φ q hu X=>?_
 obtain⟨C,u,k,y,d,rfl,c,e,L,lp,z,Q⟩:=X;have a1:=c.gc.li;have a2:=c.gc.lg;have a3:=c.gc.lo;have c1:=e.gc.li;have c2:=e.gc.lg;have c3:=e.gc.lo;have d1:=c.lp;have d2:=e.lp;have pin:∀ p∈d,p.2∈k.ins:=λp h=>(aX.mp (L.m p h).2).1
 have V:∀ p∈d,p.1∈C.names:=λp h=>c.gc.os _ (aX.mp (L.m p h).1).1
 have F:∀ p∈d,p.1.length<=1000:=λp h=>by have:=(c.az _ (V p h)).hi;omega
 refine⟨_,(gD (oV (lD I q (dK (eH 0) (dK (eH 1) (dK (eH 2) eJ))))) (gD (kZ 3 N9.nd (lD U q (dK (lD j q (dK (eH 0) (dK (lD J q (dK (eH 0) eJ)) eJ))) (dK (lD j q (dK (eH 1) (dK (lD r q (dK (eH 1) (dK (eH 2) eJ))) eJ))) (dK (eH 2) eJ))))) (gD (oV (lD l q (dK (eH 3) eJ))) (kX (lX (eH 3)))))),?_⟩;let b:Aa Sl:=[.v (kS C u),.v (kS k y),.v (.t (d.map λp=>D.t [.str p.1,.str p.2]))];refine gV (λG=>G=b++[.n]) (λN B=>⟨C,u,k,y,d,rfl,by omega,by omega,by omega,by omega,c.gc.ond,(bC.mp e.gc.nd).1,L,.inl rfl,B _ rfl⟩) ?_;rintro _ rfl;refine gV (λG=>G=b++[.v (kS (jC C k d) (jP u y d))]) (λN B=>?_) ?_
 .refine⟨C,u,rfl,c.gc.nd,by omega,by omega,λx O=>by have:=(c.az x O).hi;omega,λZ Y=>⟨.inl rfl,?_⟩⟩;refine⟨C,u,Z,fA,rfl,c.gc,by omega,λp h=>⟨c.gc.os _ (c.m p h).1,aM _ (c.m p h).2⟩,Y,.inl rfl,?_⟩;refine⟨k,y,d,rfl,e.gc.nd,by omega,by omega,λx O=>by have:=(e.az x O).hi;omega,L.n2,by omega,F,λR M=>⟨.inl rfl,?_⟩⟩;refine⟨k,y,R,kU d,rfl,e.gc,by omega,λp h=>⟨e.gc.os _ (e.m p h).1,aM _ (e.m p h).2⟩,M,.inl rfl,?_⟩;refine⟨qS fA C,oQ fA u,qS (kU d) k,oQ (kU d) y,d,rfl,?_,?_,?_,?_,?_,?_,?_,?_,by omega,F,.inl rfl,B _ rfl⟩
  all_goals (simp only[qS,oQ,aA];omega)
 rintro _ rfl;refine gV (λG=>G=b++[.v (kS (jC C k d) (jP u y d))]) (λN B=>⟨_,_,rfl,U5 c e pin z,z.i,z.o,z.g,z.a,.inl rfl,B _ rfl⟩) ?_;rintro _ rfl;exact Q
end
theorem IL:(["name","one"]:Aa Af).Nodup:=by decide +kernel
theorem GW:(["pair"]:Aa Af).Nodup:=by decide +kernel
def Qv:RD:=λk h i=>∃ (f:Aa Int) (C:Cel) (b:Aa (Af×Af)) (a:Cel) (d:Aa (Af×Af)),h=[.c (f.map D.int),kS C b,kS a d]/\f.length<=63/\C.outs.length<=100/\b.length<=100/\a.ins.length<=100/\d.length<=100/\C.outs.Nodup/\a.ins.Nodup/\∀ e,PrsOk (hI C b) (lJ a d) e->e.length<=4->i (.v (.t (e.map mP)))
section
variable {P:Ah}{K:kQ}
theorem yC:FnScope ["script","one","other","outputs","inputs","pairs","k","output"] ["script","one","other"] (lQ Dz):=mO
theorem Zi (T:Txt mg) (g:Kn P w K mg base 1 "_law_draw" tS ["script","k"] vD) (r:Kn P w K mg base 2 "_law_wordly" Ec ["row"] Bz):mM P w K mg base 3 "_law_pairs" Dz ["script","one","other"] Qv:=by
 refine mT yC λf ae A ac s H E dk ds Φ O Q hR=>?_
 obtain⟨a,C,m,L,M,rfl,U,l1,l2,l3,l4,B8,ab,aa⟩:=hR;refine⟨_,(gD (vJ 3 ["name"] ["one"] [1] yC.nd (lK (lV Q (hB Q 1 eI) eI)) (λ_ _ _ _ _=>(hO 0 IL)) (λ_ _ _ _ _=>(eH 0)) (ht:=λ_ _ _ _ _=>(uI (oO (rF Q) (qQ true) (pv 0) (mF ["pair"] [] [] (lK (hB Q 1 eI)) (λ_ _ _ _ _=>(hO 0 GW)) (λ_ _ _ _ _=>(hB Q 0 eI))))))) (gD (kZ 4 yC.nd (lD r O (dK (eH 2) eJ))) (gD (kZ 5 yC.nd (qR eJ)) (gD (oE (tU (by rfl) T.range (kT mQ mR (lD g O (dK (eH 0) (dK eI eJ))) eI)) (hO 6 yC.nd) (kX (nW (vO (G8 (oO (G5 O.units) (rZ true) (pv 3) (qR eJ)) (Hz (oO (G5 O.units) (rZ true) (pv 4) (qR eJ))))) (gD (kZ 7 yC.nd (qE bW PySem.F.slot_list_pop PySem.F.type_list_pop Ra Mc (pv 3) (dK (kT mQ mR (lD g O (dK (eH 0) (dK (kT lO lM eI (eH 6)) eJ))) (nF pJ pN T.len cH (rA (pv 3) eJ))) eJ))) (kX (oV (qE bW cE cF sO tX (pv 5) (dK (lI (dK (eH 7) (dK (qE bW PySem.F.slot_list_pop PySem.F.type_list_pop Ra Mc (pv 4) (dK (kT mQ mR (lD g O (dK (eH 0) (dK (kT lO lM eI (eH 6)) eJ))) (nF pJ pN T.len cH (rA (pv 4) eJ))) eJ)) eJ))) eJ))))) nT))) (kX (lX (lZ pT pM T.tuple bN (rA (pv 5) eJ)))))))),?_⟩;let b:Aa Sl:=[.v (.c (a.map D.int)),.v (kS C m),.v (kS L M)];have lo:(hI C m).length<=100:=bS (bU ..) l1;have li:(lJ L M).length<=100:=bS (bU ..) l3;refine gV (λt=>t=b++[.o (.l ((hI C m).map D.str)),.n,.n,.n,.n]) (λN u=>?_) ?_
 .unfold mV;refine sV C.outs D.str D.str (λx=>!decide (x∈m.map λp:Af×Af=>p.1)) _ (λX h=>⟨rfl,_,rfl,_,rfl,h⟩) (by omega) (λi x ys Nx e Y Z h3=>?_) (u _ rfl);refine⟨rfl,?_⟩;refine mC m mP (λp=>D.str p.1) _ (λX h=>⟨rfl,_,rfl,h⟩) (by omega) (λi p ys Nx e Y Z=>⟨rfl,_,rfl,Y,Z⟩) ?_;have e1:(m.map λp=>D.str p.1)=(m.map (·.1)).map D.str:=by rw[aG];rfl
  refine⟨.str x,(m.map (·.1)).map V.str,rfl,by rw[e1];exact qU _,?_⟩;rw[qC];show if (!decide (x∈m.map (·.1)))=true then _ else _
  by_cases q:x∈m.map (·.1)
  .exact nI (by rw[aV q];rfl) (h3 (by rw[aV q];rfl))
  .exact oI (by rw[aP q];rfl) ⟨Y,Z (by rw[aP q];rfl)⟩
 rintro _ rfl;refine gV (λt=>t=b++[.o (.l ((hI C m).map D.str)),.o (.l ((lJ L M).map D.str)),.n,.n,.n]) (λN u=>⟨L,M,rfl,l4,by omega,.inl rfl,u _ rfl⟩) ?_;rintro _ rfl;refine gV (λt=>t=b++[.o (.l ((hI C m).map D.str)),.o (.l ((lJ L M).map D.str)),.o (.l []),.n,.n]) (λN u=>⟨by show 0<=1000;decide,u _ rfl⟩) ?_;rintro _ rfl;let st (os is:Aa Af) (d:Aa (Af×Af)) (B G:Sl):Aa Sl:=b++[.o (.l (os.map D.str)),.o (.l (is.map D.str)),.o (.l (d.map mP)),B,G];refine gV (λt=>∃ os is d B G,(d.map (·.1)++os).Perm (hI C m)/\(d.map (·.2)++is).Perm (lJ L M)/\d.length<=4/\t=st os is d B G) (λN u=>?_) ?_
 .have hg:kW a 200%5<=4:=by have:=cV (kW a 200) (show 0<5 by decide);omega
  have eg:((kW a 200:Int)%5).toNat=kW a 200%5:=by omega
  refine nR (nL 0 (kW a 200%5)) (st (hI C m) (lJ L M) [] .n .n) (λX h=>⟨a,200,by simp,U,by omega,.inl rfl,by show (0:Int)<5;decide,by omega,by omega,by rw[eg];exact h⟩) (λk t=>∃ os is d B G,(d.map (·.1)++os).Perm (hI C m)/\(d.map (·.2)++is).Perm (lJ L M)/\d.length<=k/\t=st os is d B G) ⟨_,_,[],.n,.n,.refl _,.refl _,bF _,rfl⟩ ?_ ?_
  .rintro k e t he ⟨os,is,d,B,G,y,z,R,rfl⟩;obtain⟨hk,rfl⟩:=vH he;let s0:Sl:=.v (.int (0+(k:Int)));refine Ir (decide (os≠[])) (decide (is≠[])) (λX h=>?_) (λX h=>?_) ?_
   .exact⟨rfl,by show 0<=1000;decide,by cases os<;>exact h⟩
   .exact⟨rfl,by show 0<=1000;decide,by cases is<;>exact h⟩
   by_cases z1:os=[]
   .exact nI (by simp[z1]) ⟨os,is,d,_,_,y,z,by omega,rfl⟩
   by_cases z2:is=[]
   .exact nI (by simp[z2]) ⟨os,is,d,_,_,y,z,by omega,rfl⟩
   refine oI (by simp[z1,z2]) ?_;have ol:os.length<=100:=by have:=y.length_eq;rw[aO] at this;omega
   have il:is.length<=100:=by have:=z.length_eq;rw[aO] at this;omega
   have o0:0<os.length:=iB.mpr z1;have i0:0<is.length:=iB.mpr z2;have J:=cV (kW a (201+k)) o0;have I:=cV (kW a (205+k)) i0;have W:(kW a (201+k):Int)%((os.map D.str).length:Int)=((kW a (201+k)%os.length:Nat):Int):=by rw[aA];omega
   have S:(kW a (205+k):Int)%((is.map D.str).length:Int)=((kW a (205+k)%is.length:Nat):Int):=by rw[aA];omega
   generalize ag:kW a (201+k)%os.length=j at J W;generalize af:kW a (205+k)%is.length=i at I S;have gj:os[j]?=some os[j]:=aR J;have gi:is[i]?=some is[i]:=aR I;refine gV (λt=>t=st (os.eraseIdx j) is d s0 (.v (.str os[j]))) (λN u=>?_) ?_
   .refine⟨rfl,a,201+k,by simp,U,by omega,.inl rfl,rfl,rfl,(os.map D.str).length,rfl,by rw[aA];show (0:Int)<_;omega,j,.str os[j],?_,?_,?_,?_,u _ ?_⟩
    .show -(2 ^ 63)<=(kW a (201+k):Int)%((os.map D.str).length:Int);rw[W];omega
    .show (kW a (201+k):Int)%((os.map D.str).length:Int)<2 ^ 63;rw[W];omega
    .show seqIndex? ((kW a (201+k):Int)%((os.map D.str).length:Int)) (os.map D.str).length=_;rw[W,aA];exact Lb J
    .show (os.map D.str)[j]?=_;rw[bM,gj];rfl
    .rw[Jz];rfl
   rintro _ rfl;refine⟨rfl,rfl,a,205+k,by simp,U,by omega,.inl rfl,rfl,rfl,(is.map D.str).length,rfl,by rw[aA];show (0:Int)<_;omega,i,.str is[i],?_,?_,?_,?_,by show 2<=1000;decide,by show (d.map mP).length<100000;rw[aA];omega,os.eraseIdx j,is.eraseIdx i,d++[(os[j],is[i])],s0,.v (.str os[j]),?_,?_,?_,?_⟩
   .show -(2 ^ 63)<=(kW a (205+k):Int)%((is.map D.str).length:Int);rw[S];omega
   .show (kW a (205+k):Int)%((is.map D.str).length:Int)<2 ^ 63;rw[S];omega
   .show seqIndex? ((kW a (205+k):Int)%((is.map D.str).length:Int)) (is.map D.str).length=_;rw[S,aA];exact Lb I
   .show (is.map D.str)[i]?=_;rw[bM,gi];rfl
   .rw[aF,bB];exact ((Fv gj).symm.append_left _).trans y
   .rw[aF,bB];exact ((Fv gi).symm.append_left _).trans z
   .rw[aO];exact jH R
   .show _=st _ _ (d++[(os[j],is[i])]) _ _;simp only[st,aF,<- Jz];rfl
  .rintro t ⟨os,is,d,B,G,y,z,R,rfl⟩;exact u _ ⟨os,is,d,B,G,y,z,by simp[nL] at R;omega,rfl⟩
 rintro _ ⟨os,is,d,B,G,y,z,R,rfl⟩;have w1:=(bC.mp (y.nodup_iff.mpr (B8.filter _))).1;have w2:=(bC.mp (z.nodup_iff.mpr (ab.filter _))).1;refine⟨rfl,aa d ⟨w1,w2,λp hp=>⟨y.mem_iff.mp (aM _ (aU hp)),z.mem_iff.mp (aM _ (aU hp))⟩⟩ R⟩
end
noncomputable def lU (g:Af->Int) (u:Nat->Af->Int):Nat->Af×Af->Int
 | 0,p=>g p.2
 | j+1,p=>u j p.1
def lT (C:Cel) (g:Aa (Af×Af)) (u:Nat->Af->Int) (W:Nat):mS:=(hI C g).map λo=>(o,sN (λj=>2 ^ j*u j o) W)
def lW (g:Aa (Af×Af)) (l:Af->Int) (u:Nat->Af->Int) (j:Nat):mS:=g.map λp=>(p.2,lU l u j p)
structure RowOk (C:Cel) (prs:List (Str×Str)):Prop where
 gc:GC C
 n1:(prs.map (·.1)).Nodup
 n2:(prs.map (·.2)).Nodup
 o:∀ p∈prs,p.1∈C.outs
 lp:prs.length<=100
structure RunOk (C:Cel) (prs:List (Str×Str)) (W:Nat) (wf ef:Str->Int) (u:Nat->Str->Int) (ρ:Nat->Str->Int):Prop where
 e:∀ p∈prs,mI (ef p.2)
 uu:∀ j,j<W->u j=tW C (ρ j)
 w:∀ j,j<W->∀ x∈lJ C prs,ρ j x=wf x/2 ^ j%2
 c:∀ j,j<W->∀ p∈prs,ρ j p.2=lU ef u j p
theorem RunOk.bits {W:Nat}(R:RowOk C g) (h:RunOk C g W wf r u l):∀ j,j<W->(∀ x∈C.ins,mI (l j x))/\∀ o∈C.outs,mI (u j o)
 | j,a=>by
  have key:∀ x∈C.ins,mI (l j x):=λx f=>by
   by_cases q:x∈g.map (·.2)
   .obtain⟨p,b,rfl⟩:=aD.mp q;rw[h.c j a p b];cases j with
    | zero=>exact h.e p b
    | succ j=>exact (h.bits R j (by omega)).2 p.1 (R.o p b)
   .rw[h.w j a x (aX.mpr ⟨f,by rw[aP q];rfl⟩)];have:=gP (wf x/2 ^ j) (show (2:Int)≠0 by decide);have:=iM (wf x/2 ^ j) (show (0:Int)<2 by decide);unfold mI;omega
  refine⟨key,λo d=>?_⟩;rw[h.uu j a];exact CN R.gc key o d
theorem O9 (g:GC C):(lJ C j).Nodup:=(bC.mp g.nd).1.filter _
theorem tQ (g:GC C):(hI C prs).Nodup:=g.ond.filter _
theorem sE {g:Aa Af}{v:Af->Int}:(g.map λx=>(x,v x)).map (·.1)=g:=by simp[cS]
theorem Wc (h:g[i]?=some (.v d)) (k:j (.v d) g):vd i l g j:=by
 unfold vd;rw[h];exact k
theorem Wy (h:g[i]?=some (.o d)) (k:j (.v d) (g.set i (.v d))):vd i l g j:=by
 unfold vd;rw[h];exact k
noncomputable def pY (os:Aa Af) (a b:Af->Int) (n:Nat):mS:=(os.take n).map (λo=>(o,b o))++(os.drop n).map λo=>(o,a o)
theorem yF (os:Aa Af) (a b:Af->Int) (n:Nat):(pY os a b n).map (·.1)=os:=by
 unfold pY;rw[aF,sE,sE,fT]
theorem Lv {os:Aa Af}(g:os.Nodup) (h:os[n]?=some o):look (pY os a b n) o=a o/\sR (pY os a b n) o (b o)=pY os a b (n+1):=by
 obtain⟨t,q⟩:=aL.mp h;have e:os.drop n=o::os.drop (n+1):=by rw[List.drop_eq_getElem_cons t,q]
 have k:os.take (n+1)=os.take n++[o]:=by rw[cA,h];rfl
 have i:os=os.take n++o::os.drop (n+1):=by rw[<- e,fT]
 have c:=g;rw[i] at c;have f:o∉os.take n:=λz=>(bC.mp c).2.2 o z o aT rfl
 have m:o∉os.drop (n+1):=(bX.mp (bC.mp c).2.1).1;constructor
 .unfold pY;rw[S8,sE,aK f,e,bH,vS,aZ rfl]
 .unfold sR;rw[aZ (by rw[yF];exact aE h)];unfold pY;rw[k,e,aF,aF,bH,bH,bB];have same:∀ (d:Aa Af) (v:Af->Int),o∉d->(d.map λx=>(x,v x)).map (λp=>if p.1=o then (p.1,b o) else p)=d.map λx=>(x,v x):=λd v u=>by
   rw[aG];refine bZ λx s=>?_
   have ne:¬ x=o:=λz=>u (by rw[<- z];exact s)
   show (if x=o then (x,b o) else (x,v x))=_;rw[aK ne]
  rw[same _ _ f,same _ _ m];show _++(if o=o then _ else _)::_=_;rw[aZ rfl];rfl
def Mn:RD:=λc a b=>∃ n:Nat,a=[.int n]/\n<=1000/\b (.v (.l ((List.range n).map λi=>D.int (2 ^ i))))
section
variable {P:Ah}{K:kQ}
theorem A7:FnScope ["count","found","worth","place"] ["count"] (lQ Ee):=mO
theorem Y8 (T:Txt g):mM P w K g base 1 "place_worths" Ee ["count"] Mn:=by
 refine mT A7 λf k A e s H E t u G B F m=>?_
 obtain⟨n,rfl,z,d⟩:=m;refine⟨_,(gD (kZ 1 A7.nd (qR eJ)) (gD (kZ 2 A7.nd eI) (gD (oE (tU (by rfl) T.range (eH 0)) (hO 3 A7.nd) (gD (oV (qE bW cE cF sO tX (pv 1) (dK (eH 2) eJ))) (kX (kZ 2 A7.nd (mK tJ tM 2 eI))))) (kX (lX (eH 1)))))),?_⟩;refine⟨by show 0<=1000;decide,?_⟩;dsimp only;refine gV (λb=>b=[.v (.int n),.o (.l []),.v (.int 1),.n]) (λN c=>c _ rfl) ?_;rintro _ rfl;refine gV (λb=>∃ a:Sl,b=[.v (.int n),.o (.l ((List.range n).map λi=>D.int (2 ^ i))),.v (.int (2 ^ n)),a]) (λN c=>?_) ?_
 .refine nR (nL 0 n) [.v (.int n),.o (.l []),.v (.int 1),.n] (λL h=>⟨by omega,by omega,h⟩) (λi b=>∃ a:Sl,b=[.v (.int n),.o (.l ((List.range i).map λi=>D.int (2 ^ i))),.v (.int (2 ^ i)),a]) ⟨.n,rfl⟩ ?_ ?_
  .rintro i x b q ⟨a,rfl⟩;obtain⟨y,rfl⟩:=vH q;refine⟨rfl,by show ((List.range i).map λi=>D.int (2 ^ i)).length<100000;rw[aA,cM];omega,rfl,.inr ⟨by decide,by decide⟩,.v (.int (0+(i:Int))),?_⟩;rw[jS,aF];rfl
  .rintro b ⟨a,rfl⟩;have:(nL 0 n).length=n:=by simp[nL]
   rw[this];exact c _ ⟨a,rfl⟩
 rintro _ ⟨a,rfl⟩;exact d
end
end Lw
namespace PySem
open PyProof.Rows L2
def mX (b:Bool) (h:Ag) (g t:Ad) (i:Nat):Prop:=match b with
 | true=>h.IsTupleIter g t i
 | false=>h.IsListIter g t i
def mY (b:Bool) (h:Ag) (a:Ad) (g:Array Ac):Prop:=match b with
 | true=>h.IsTuple a g
 | false=>h.IsList a g
theorem pZ (x:mX b h g t i) (k:∀ o,h.get? g=some o->j.get? g=some o):mX b j g t i:=by
 cases b
 .exact let ⟨o,e,r⟩:=(show h.IsListIter g t i from x);⟨o,k o e,r⟩
 .exact let ⟨o,e,r⟩:=(show h.IsTupleIter g t i from x);⟨o,k o e,r⟩
theorem pO (x:mY b h a g) (k:∀ o,h.get? a=some o->j.get? a=some o):mY b j a g:=by
 cases b
 .exact let ⟨o,e,r⟩:=(show h.IsList a g from x);⟨o,k o e,r⟩
 .exact let ⟨o,e,r⟩:=(show h.IsTuple a g from x);⟨o,k o e,r⟩
theorem Dp (x:mX b h g t i):∃ o,h.get? g=some o:=by
 cases b
 .exact let ⟨o,e,_⟩:=(show h.IsListIter g t i from x);⟨o,e⟩
 .exact let ⟨o,e,_⟩:=(show h.IsTupleIter g t i from x);⟨o,e⟩
theorem D3 (x:mY b h a g):∃ o,h.get? a=some o:=by
 cases b
 .exact let ⟨o,e,_⟩:=(show h.IsList a g from x);⟨o,e⟩
 .exact let ⟨o,e,_⟩:=(show h.IsTuple a g from x);⟨o,e⟩
section
theorem Ai (I:mX b s.heap j t i) (T:mY b s.heap t l) (o:l[i]?=some x) (q:∀ g,mX b g j t (i+1)->Heap.SameBut j s.heap g->Q x { s with heap:=g }) :
  wpAny (model p w) A (Builtin.SmallTypes.nextOf (.ref j)) Q E s:=by
 cases b
 .exact wpAny_nextOf_list_item I T o q
 .exact DK I T o q
theorem Dj (calm:A.handled=none) (I:mX b s.heap p t i) (T:mY b s.heap t j) (l:j[i]?=none)
  (q:∀ g e,Heap.ExtBut p s.heap g->(∃ o,g.get? e=some o/\o.cls = .type "StopIteration")->E (.ref e) { s with heap:=g }):wpAny (model r w) A (Builtin.SmallTypes.nextOf (.ref p)) Q E s:=by
 cases b
 .exact wpAny_nextOf_list_end calm I T l q
 .exact Y4 calm I T l q
theorem Si {I J:Bool}{z TI TO j l r C:Ad}{k1 k2:Nat}{xs ys:Array Ac}{x y a b:Ac}{Q:Ab Ac->Ae->Prop}(D:ZipApart z TI TO j l r C) (hz:IsZip s.heap z TI TO .none) (T:IsPair s.heap TI (.ref j) (.ref l)) (U:IsPair s.heap TO a b)
  (h1:mX I s.heap j r k1) (h2:mX J s.heap l C k2) (aa:mY I s.heap r xs) (ab:mY J s.heap C ys) (hx:xs[k1]?=some x) (hy:ys[k2]?=some y)
  (ac:∀ g,IsZip g z TI TO (rawInt s.heap.objs.size)->IsPair g TO x y->mX I g j r (k1+1)->mX J g l C (k2+1)->IsPair g s.heap.objs.size x y->g.objs.size=s.heap.objs.size+1 ->(∀ c o,c≠z->c≠TO->c≠j->c≠l->s.heap.get? c=some o->g.get? c=some o)->Q (some (.ref s.heap.objs.size)) { s with heap:=g }):wpAny (model ae w) A (pyNext (.ref z)) Q E s:=by
 have ty:s.TypeIs (.ref z) "zip" := ⟨_,hz,rfl⟩;unfold pyNext;refine aB (fE (cI (name:=Str.ofString "__next__") ty fJ (cW fJ ty jK (Pa (p:=a) (q:=b) hz T λg1 Y f=>?_) (iY _))));have d:∀ c o,c≠z->s.heap.get? c=some o->g1.get? c=some o:=λc o n e=>f.extBut _ _ n e
 refine Ai (pZ h1 λo e=>d _ o D.i1z e) (pO aa λo e=>d _ o D.l1z e) hx λg2 S h=>?_
 have i:∀ c o,c≠j->g1.get? c=some o->g2.get? c=some o:=λc o n e=>h.extBut _ _ n e
 refine⟨i _ _ D.TOi1 (d _ _ D.TOz U),λg3 W H=>?_⟩;have k:∀ c o,c≠TO->g2.get? c=some o->g3.get? c=some o:=λc o n e=>H.extBut _ _ n e
 refine Ai (pZ h2 λo e=>k _ o D.TOi2.symm (i _ o D.i12.symm (d _ o D.i2z e))) (pO ab λo e=>k _ o D.l2TO (i _ o D.l2i1 (d _ o D.l2z e))) hy λF V K=>?_
 have t:∀ c o,c≠l->g3.get? c=some o->F.get? c=some o:=λc o n e=>K.extBut _ _ n e
 refine⟨t _ _ D.TOi2 W,λG X L=>?_⟩;have u:∀ c o,c≠TO->F.get? c=some o->G.get? c=some o:=λc o n e=>L.extBut _ _ n e
 have sz:G.objs.size=s.heap.objs.size:=by rw[L.1,K.1,H.1,h.1,f.1]
 refine⟨u _ _ D.TOz.symm (t _ _ D.i2z.symm (k _ _ D.TOz.symm (i _ _ D.i1z.symm Y))),λg M N O m=>?_⟩;rw[sz] at M N O |-;refine aH (ac g M (m _ _ D.TOz X) (pZ S λo e=>m _ o D.i1z (u _ o D.TOi1.symm (t _ o D.i12 (k _ o D.TOi1.symm e)))) (pZ V λo e=>m _ o D.i2z (u _ o D.TOi2.symm e)) N O λc o v B P R e=>?_);exact m c o v (u c o B (t c o R (k c o B (i c o P (d c o v e)))))
theorem V0 {b1 l:Bool}{z TI TO j I l1 l2:Ad}{k1 k2:Nat}{xs ys:Array Ac}{a b:Ac}{Q:Ab Ac->Ae->Prop}(calm:A.handled=none) (D:ZipApart z TI TO j I l1 l2) (hz:IsZip s.heap z TI TO .none) (aa:IsPair s.heap TI (.ref j) (.ref I)) (ab:IsPair s.heap TO a b)
  (h1:mX b1 s.heap j l1 k1) (h2:mX l s.heap I l2 k2) (C:mY b1 s.heap l1 xs) (ac:mY l s.heap l2 ys) (r:xs[k1]?=none\/ys[k2]?=none)
  (ae:∀ U,(∀ c o,c≠z->c≠TO->c≠j->c≠I->s.heap.get? c=some o->U.get? c=some o)->Q none { s with heap:=U }):wpAny (model J w) A (pyNext (.ref z)) Q E s:=by
 have ty:s.TypeIs (.ref z) "zip" := ⟨_,hz,rfl⟩;have f:∀ (g:Ag) (e:Ad),(∀ c o,c≠z->c≠TO->c≠j->c≠I->s.heap.get? c=some o->g.get? c=some o)->(∃ o,g.get? e=some o/\o.cls = .type "StopIteration")->IsZip g z TI TO .ellipsis ->
   El z TI TO (λe V=>wpAny (model J w) A (do if <- isInstance e (.type "StopIteration") then pure none else throw e) Q E V) (.ref e) { s with heap:=g }:=λg e k ⟨o,H,L⟩ O=>by
  refine⟨O,λU M=>?_⟩;have ne:e≠z:=λq=>by
   rw[q,O] at H;cases H;injection L with y;exact absurd y (by decide)
  exact aB (eY (T := "StopIteration") (b:=true) ⟨o,M.extBut _ _ ne H,L⟩ isSubtype_stop (aH (ae U λc o h v i B q=>M.extBut _ _ h (k c o h v i B q))))
 unfold pyNext;refine aB (fE (cI (name:=Str.ofString "__next__") ty fJ (cW fJ ty jK (Pa (p:=a) (q:=b) hz aa λg1 N F=>?_) (iY _))));have d:∀ c o,c≠z->s.heap.get? c=some o->g1.get? c=some o:=λc o n e=>F.extBut _ _ n e
 rcases Option.eq_none_or_eq_some xs[k1]? with m | ⟨x,m⟩
 .exact Dj calm (pZ h1 λo e=>d _ o D.i1z e) (pO C λo e=>d _ o D.l1z e) m λg2 e l W=>f g2 e (λc o h _ i _ q=>l c o i (d c o h q)) W (l _ _ D.i1z.symm N)
 .refine Ai (pZ h1 λo e=>d _ o D.i1z e) (pO C λo e=>d _ o D.l1z e) m λg2 Y G=>?_
  have t:∀ c o,c≠j->g1.get? c=some o->g2.get? c=some o:=λc o n e=>G.extBut _ _ n e
  refine⟨t _ _ D.TOi1 (d _ _ D.TOz ab),λg3 Z S=>?_⟩;have u:∀ c o,c≠TO->g2.get? c=some o->g3.get? c=some o:=λc o n e=>S.extBut _ _ n e
  have P:ys[k2]?=none:=r.elim (λn=>by rw[n] at m;cases m) id;exact Dj calm (pZ h2 λo e=>u _ o D.TOi2.symm (t _ o D.i12.symm (d _ o D.i2z e))) (pO ac λo e=>u _ o D.l2TO (t _ o D.l2i1 (d _ o D.l2z e))) P λR e K X=>f R e (λc o h v i B q=>K c o B (u c o v (t c o i (d c o h q)))) X (K _ _ D.i2z.symm (u _ _ D.TOz.symm (t _ _ D.i1z.symm N)))
end
section
theorem JE {I J:Bool}{z TI TO T j l r C:Ad}{U k2:Nat}{f:Bool}{oT:Obj}{xs ys:Array Ac}{x y:Ac}{Q:Ac->Ae->Prop}(D:ZipApart z TI TO j l r C)
  (hz:vQ s.heap z TI TO T f) (hT:s.heap.get? T=some oT) (aa:IsPair s.heap TI (.ref j) (.ref l))
  (h1:mX I s.heap j r U) (h2:mX J s.heap l C k2) (ab:mY I s.heap r xs) (ac:mY J s.heap C ys) (hx:xs[U]?=some x) (hy:ys[k2]?=some y)
  (hQ:∀ g,vQ g z TI TO T true->mX I g j r (U+1)->mX J g l C (k2+1)->IsPair g s.heap.objs.size x y->g.objs.size=s.heap.objs.size+1 ->(∀ c o,c≠z->c≠j->c≠l->s.heap.get? c=some o->g.get? c=some o)->Q (.ref s.heap.objs.size) { s with heap:=g }) :
  wpAny (model ae w) A (Builtin.«zip.__next__» ⟨[.ref z],[]⟩) (λfin s'=>∃ v,fin = .done (.ret v)/\Q v s') E s:=by
 refine P5 hz hT aa λd K m=>?_
 have up1:∀ c o,c≠z->s.heap.get? c=some o->d.get? c=some o:=λc o n e=>m.extBut _ _ n e
 have there:mX I d j r U/\mX J d l C k2/\mY I d r xs/\mY J d C ys:=⟨pZ h1 λo e=>up1 _ o D.i1z e,pZ h2 λo e=>up1 _ o D.i2z e,pO ab λo e=>up1 _ o D.l1z e,pO ac λo e=>up1 _ o D.l2z e⟩;refine Ai there.1 there.2.2.1 hx λk G q=>?_
 have a:∀ c o,c≠j->d.get? c=some o->k.get? c=some o:=λc o n e=>q.extBut _ _ n e
 refine Ai (pZ there.2.1 λo e=>a _ o D.i12.symm e) (pO there.2.2.2 λo e=>a _ o D.l2i1 e) hy λh H t=>?_
 have b:∀ c o,c≠l->k.get? c=some o->h.get? c=some o:=λc o n e=>t.extBut _ _ n e
 have i:h.objs.size=s.heap.objs.size:=t.1.trans (q.1.trans m.1);have more:∀ {c:Ad} {o p:Obj},h.get? c=some o->(h.push p).get? c=some o:=λe=>aQ _ e
 refine wpAny_newTuple ⟨_,rfl,?_⟩ (hsz:=(show 2<=sizeLine by decide));have last:=hQ (h.push (seqObj "tuple" #[x,y] 0)) (more (b _ _ D.i2z.symm (a _ _ D.i1z.symm K))) (pZ G λo e=>more (b _ o D.i12 e)) (pZ H λo e=>more e) (i▸bL _ rfl) ((dN ..).trans (by rw[i]))
  λc o u B F e=>more (b _ _ F (a _ _ B (up1 _ _ u e)))
 rw[<- i] at last;exact last
theorem Yv {TI TO:Ad}(hh:A.handled=none) (D:ZipApart z TI TO j U l l2)
  (hz:vQ s.heap z TI TO T f) (hT:s.heap.get? T=some oT) (C:IsPair s.heap TI (.ref j) (.ref U))
  (h1:mX p s.heap j l k1) (h2:mX b2 s.heap U l2 k2) (I:mY p s.heap l xs) (J:mY b2 s.heap l2 ys) (g:xs[k1]?=none\/ys[k2]?=none)
  (hE:∀ r e,(∀ c o,c≠z->c≠j->c≠U->s.heap.get? c=some o->r.get? c=some o)->(∃ o,r.get? e=some o/\o.cls = .type "StopIteration")->E (.ref e) { s with heap:=r }) :
  wpAny (model aa w) A (Builtin.«zip.__next__» ⟨[.ref z],[]⟩) Q E s:=by
 refine P5 hz hT C λi M F=>?_
 have up1:∀ c o,c≠z->s.heap.get? c=some o->i.get? c=some o:=λc o n e=>F.extBut _ _ n e
 have there:mX p i j l k1/\mY p i l xs:=⟨pZ h1 λo e=>up1 _ o D.i1z e,pO I λo e=>up1 _ o D.l1z e⟩;rcases Option.eq_none_or_eq_some xs[k1]? with b | ⟨x,b⟩
 .exact Dj hh there.1 there.2 b λk e t H=>hE k e (λc o d h _ q=>t c o h (up1 c o d q)) H
 .refine Ai there.1 there.2 b λk L G=>?_
  have a:∀ c o,c≠z->c≠j->s.heap.get? c=some o->k.get? c=some o:=λc o n m e=>G.extBut _ _ m (up1 c o n e)
  have y:ys[k2]?=none:=g.elim (λn=>by rw[n] at b;cases b) id;exact Dj hh (pZ h2 λo e=>a _ o D.i2z D.i12.symm e) (pO J λo e=>a _ o D.l2z D.l2i1 e) y λB e u K=>hE B e (λc o d h v q=>u c o v (a c o d h q)) K
theorem Ur {TI TO:Ad}(D:ZipApart z TI TO r C U l2)
  (j:Bc s.heap z TI TO r C) (I:mX b1 s.heap r U k) (J:mX b2 s.heap C l2 k) (l:mY b1 s.heap U xs) (p:mY b2 s.heap l2 ys) (hx:xs[k]?=some x) (hy:ys[k]?=some y)
  (hQ:∀ g,Bc g z TI TO r C->mX b1 g r U (k+1)->mX b2 g C l2 (k+1)->IsPair g s.heap.objs.size x y->g.objs.size=s.heap.objs.size+1 ->(∀ c o,c≠z->c≠TO->c≠r->c≠C->s.heap.get? c=some o->g.get? c=some o)->Q (some (.ref s.heap.objs.size)) { s with heap:=g }) :
  wpAny (model aa w) A (pyNext (.ref z)) Q E s:=by
 obtain⟨d,⟨a,b,i⟩,j⟩:=j;obtain⟨V,P⟩:=Dp I;obtain⟨W,R⟩:=Dp J;have q:∀ {c o},s.heap.get? c=some o->s.heap.objs.size≠c:=λe=>(cB (bK e)).symm
 rcases j with j | ⟨T,f,o,j,F,G,S,H,K⟩
 .refine Si D j d i I J l p hx hy λg t L u v n B h=>?_
  exact hQ g ⟨h _ _ D.TIz D.TITO D.TIi1 D.TIi2 d,⟨_,_,L⟩,.inr ⟨_,false,_,t,n,q j,q i,q P,q R⟩⟩ u v n B h
 .have m:s.TypeIs (.ref z) "zip" := ⟨_,j,rfl⟩;unfold pyNext;refine aB (fE (cI (name:=Str.ofString "__next__") m fJ (cW fJ m jK (JE D j F d I J l p hx hy λg t u v n B h=>aH ?_) (iY _))));exact hQ g ⟨h _ _ D.TIz D.TIi1 D.TIi2 d,⟨_,_,h _ _ D.TOz D.TOi1 D.TOi2 i⟩,.inr ⟨T,true,_,t,h _ _ G H K F,G,S,H,K⟩⟩ u v n B λc o M _ N O e=>h c o M N O e
theorem DO {TI TO:Ad}(hh:A.handled=none) (D:ZipApart z TI TO C I l1 l2)
  (j:Bc s.heap z TI TO C I) (J:mX b1 s.heap C l1 k) (U:mX b2 s.heap I l2 k) (l:mY b1 s.heap l1 xs) (p:mY b2 s.heap l2 ys) (g:xs[k]?=none\/ys[k]?=none)
  (hQ:∀ r,(∀ c o,c≠z->c≠TO->c≠C->c≠I->s.heap.get? c=some o->r.get? c=some o)->Q none { s with heap:=r }):wpAny (model aa w) A (pyNext (.ref z)) Q E s:=by
 obtain⟨d,⟨a,b,i⟩,j⟩:=j;rcases j with j | ⟨T,f,o,j,t,B,F,G,H⟩
 .exact V0 hh D j d i J U l p g hQ
 .have h:s.TypeIs (.ref z) "zip" := ⟨_,j,rfl⟩;unfold pyNext;refine aB (fE (cI (name:=Str.ofString "__next__") h fJ (cW fJ h jK (Yv hh D j t d J U l p g λr e x v=>?_) (iY _))));obtain⟨o,y,u⟩:=v;refine aB (eY (T := "StopIteration") (b:=true) ⟨o,y,u⟩ isSubtype_stop ?_);exact aH (hQ _ λc o m _ n q e=>x c o m n q e)
end
section
variable {K:Type} [DecidableEq K] {knd:KeyKind prog w K}{A:Around}{R:Result->Ae->Prop}
theorem GO {TI TO:Ad}(hh:A.handled=none) (D:ZipApart z TI TO l p I J) (hd:d∉[z,TI,TO,l,p,I,J]) (more:Aa (K×Ac)) (hn:more.length=min U.size ys.size) (j:more.length<=sizeLine)
  (hT:∀ (i:Nat) x y,U[i]?=some x->ys[i]?=some y->∃ k,knd.is k x=true/\more[i]?=some (k,y)) (h0:Ag) :
  ∀ (m i:Nat) (s:Ae),more.length-i=m->i<=more.length->Bc s.heap z TI TO l p->mX r s.heap l I i->mX C s.heap p J i->mY r s.heap I U->mY C s.heap J ys->(∀ b o,b∉[z,TO,l,p,d]->h0.get? b=some o->s.heap.get? b=some o)->s.heap.DictOf knd d (merged [] (more.take i)) ->
   (∀ g tk,(∀ b o,b∉[z,TO,l,p,d]->h0.get? b=some o->g.get? b=some o)->g.DictOf knd d (merged [] more)->R (.ok (.ret .none)) { s with heap:=g,toks:=tk }) ->
   codeAny (model prog w) A (.builtin "dict.update.loop" ⟨[.ref d,.ref z,.int (i:Int) 0,.none],[]⟩) R s:=by
 simp only[aI,bJ,dZ,not_or] at hd;obtain⟨d1,d2,S,V,W,d6,d7⟩:=hd;have na:∀ {b:Ad},b∉[z,TO,l,p,d]->b≠z/\b≠TO/\b≠l/\b≠p/\b≠d:=λj=>by
  simpa only [aI,bJ,dZ,not_or] using j
 intro m;induction m with
 | zero =>
  intro i s hm hi hz Z h2 c h kp H hR;have ei:i=more.length:=by omega
  subst ei;rw[cG (bF _)] at H;refine jO Ds ?_;rw[gX wD _];show wpAny _ A.in1 (pyNext (.ref z) >>= _) _ _ s;refine aB (DO (by simpa using hh) D hz Z h2 c h ?_ λg B=>?_)
  .rcases Nat.le_total U.size ys.size with q | q
   .exact .inl (fL (by omega))
   .exact .inr (fL (by omega))
  .show wpAny _ A.in1 (Builtin.Dict.addKeywords d [] >>= _) _ _ _;refine aB (aH ?_);obtain⟨o,F,E,u,rest⟩:=H;exact aH (hR g _ (λb o j e=>let ⟨r,C,P,Q,b5⟩:=na j;B b o r C P Q (kp b o j e)) ⟨o,F,E,B d _ d1 S V W u,rest⟩)
 | succ m ih =>
  intro i s hm hi hz Z h2 c h kp H hR;have ab:i<more.length:=by omega
  obtain⟨x,hx⟩:∃ x,U[i]?=some x:=⟨_,dL (by omega)⟩;obtain⟨y,hy⟩:∃ y,ys[i]?=some y:=⟨_,dL (by omega)⟩;obtain⟨ky,N,t⟩:=hT i x y hx hy;refine jO Ds ?_;rw[gX wD _];show wpAny _ A.in1 (pyNext (.ref z) >>= _) _ _ s;refine aB (Ur D hz Z h2 c h hx hy λg z' ac ae pr sz B=>?_);have aa:g.DictOf knd d (merged [] (more.take i)):=by
   obtain⟨o,F,E,u,rest⟩:=H;exact⟨o,F,E,B d _ d1 S V W u,rest⟩
  have af:mY r g I U:=pO c λo e=>B I o D.l1z D.l1TO D.l1i1 D.l1i2 e
  have ag:mY C g J ys:=pO h λo e=>B J o D.l2z D.l2TO D.l2i1 D.l2i2 e
  have pd:s.heap.objs.size≠d:=by
   obtain⟨o,F,E,u,rest⟩:=H;exact (cB (bK u)).symm
  show wpAny _ A.in1 (holding [Value.ref s.heap.objs.size] _ >>= _) _ _ _;refine aB (dB ?_);refine aB (wpAny_tryCatch ?_);unfold Builtin.Dict.pairItems;refine aB (fY (T := "tuple") ⟨_,pr,rfl⟩ ?_);rw[aZ (by decide)];refine aB (eF pr rfl ?_);refine aH ?_;show wpAny _ A.in1 (holding [x,y] (dictSet d x y)) _ _ _;refine dB ?_;have v:(merged [] (more.take i)).length<=sizeLine:=by
   have X:=merged_length_le ([]:Aa (K×Ac)) (more.take i);rw[eG,cC] at X;omega
  refine wpAny_dictSet_pairs (hsz:=v) N aa λG n sb=>?_
  rw[<- merged_take_succ [] more i (ky,y) t] at n;refine aH ⟨kH wD _,?_⟩;have X:(rawInt ((i:Int)+1))=Value.int ((i+1:Nat):Int) 0:=by rfl
  rw[X];have up:∀ b o,b≠d->g.get? b=some o->G.get? b=some o:=λb o j e=>by rw[sb.2 b j];exact e
  have zz:Bc G z TI TO l p:=by
   obtain⟨p1,⟨a,b,p2⟩,p3⟩:=z';refine⟨up _ _ (eR d2) p1,⟨a,b,up _ _ (eR S) p2⟩,?_⟩;rcases p3 with p3 | ⟨T,f,o,q1,q2,q3,q4,q5,q6⟩
   .exact .inl (up _ _ (eR d1) p3)
   .by_cases M:T=d
    .subst M;obtain⟨o',F,E,u,rest⟩:=n;exact .inr ⟨T,f,_,up _ _ (eR d1) q1,u,q3,q4,q5,q6⟩
    .exact .inr ⟨T,f,o,up _ _ (eR d1) q1,up _ _ M q2,q3,q4,q5,q6⟩
  refine ih (i+1) _ (by omega) ab zz (pZ ac λo e=>up _ o (eR V) e) (pZ ae λo e=>up _ o (eR W) e) (pO af λo e=>up _ o (eR d6) e) (pO ag λo e=>up _ o (eR d7) e) (λb o j e=>?_) n λY tk O L=>hR Y tk O L
  obtain⟨r,C,P,Q,b5⟩:=na j;exact up b o b5 (B b o r C P Q (kp b o j e))
theorem FD {TI TO:Ad}(hh:A.handled=none) (D:ZipApart z TI TO U i2 l1 l2)
  (T:IsZip s.heap z TI TO .none) (l:IsPair s.heap TI (.ref U) (.ref i2)) (C:IsPair s.heap TO .none .none) (h1:mX b1 s.heap U l1 0) (h2:mX b2 s.heap i2 l2 0) (I:mY b1 s.heap l1 xs) (J:mY b2 s.heap l2 ys)
  (hn:more.length=min xs.size ys.size) (g:more.length<=sizeLine) (hT:∀ (i:Nat) x y,xs[i]?=some x->ys[i]?=some y->∃ k,knd.is k x=true/\more[i]?=some (k,y))
  (h:∀ (j:Ag) (tk:Nat),j.DictOf knd s.heap.objs.size (merged [] more)->(∀ b o,b∉[z,TO,U,i2]->s.heap.get? b=some o->j.get? b=some o)->Q (.ref s.heap.objs.size) { s with heap:=j,toks:=tk }) :
  wpAny (model prog w) A (call (.type "dict") [.ref z]) Q E s:=by
 let d:=s.heap.objs.size;have made:(xU s).heap.DictOf knd d []:=Heap.DictOf.new s.heap;have old:∀ b o,s.heap.get? b=some o->(xU s).heap.get? b=some o:=λb o e=>aQ _ e
 refine callType_codes F.kt_called_dict (F.kt_typeCall_dict_1 _) F.entry_dict_init (kt_code_dict_new _ (Q₁:=λv n=>v = .ref d/\n=xU s) ⟨rfl,rfl⟩) λv n q=>?_
 obtain⟨rfl,rfl⟩:=q;refine⟨made.typeIs,F.args_dict_init_2 _ _,S3 made.typeIs (old _ _ T) (by simp[hh]) λc tk e x=>⟨kH wD _,?_⟩⟩;have keeps:∀ b o,s.heap.get? b=some o->c.get? b=some o:=λb o e=>x.keeps _ _ (old b o e)
 obtain⟨N,G⟩:=Dp h1;obtain⟨O,H⟩:=Dp h2;obtain⟨P,L⟩:=D3 I;obtain⟨S,M⟩:=D3 J;have a:∀ {b o},s.heap.get? b=some o->d≠b:=λe=>(cB (bK e)).symm
 have f:c.DictOf knd d []:=by
  obtain⟨o,u,t,p,r⟩:=made;exact⟨o,u,t,x.keeps _ _ p,r⟩
 refine GO (knd:=knd) (by simp[hh]) D ?_ more hn g hT s.heap more.length 0 _ rfl (dR _) ⟨keeps _ _ l,⟨_,_,keeps _ _ C⟩,.inl (keeps _ _ T)⟩ (pZ h1 λo e=>keeps _ o e) (pZ h2 λo e=>keeps _ o e) (pO I λo e=>keeps _ o e) (pO J λo e=>keeps _ o e) (λb o _ e=>keeps b o e) (by simpa [merged] using f) λj m B fin=>?_
 .simp only[aI,bJ,dZ,not_or];exact⟨a T,a l,a C,a G,a H,a L,a M⟩
 .refine⟨rfl,h j m fin λb o g e=>B b o (λq=>?_) e⟩;simp only[aI,bJ,dZ,not_or] at g q;rcases q with q | q | q | q | q
  .exact g.1 q
  .exact g.2.1 q
  .exact g.2.2.1 q
  .exact g.2.2.2 q
  .exact a e q.symm
end
noncomputable def pG (b:Bool) (t:Ad):Obj:={ cls:=.type (match b with | true => "tuple_iterator" | false => "list_iterator"),data:=.fields #[.ref t,.int 0 0] }
theorem Pg (b:Bool) (e:h.get? g=some (pG b t)):mX b h g t 0:=by
 cases b
 .exact⟨_,e,rfl,rfl⟩
 .exact⟨_,e,rfl,rfl⟩
theorem Qe (T:mY b s.heap l j) (q:Q (.ref s.heap.objs.size) { s with heap:=s.heap.push (pG b l) }):wpAny (model g w) A (pyIter (.ref l)) Q E s:=by
 cases b
 .exact iT T q
 .exact iK T q
def Kb (g j:Bool) (h:Ag) (s t:Ad):Ag:=((((h.push (pG g s)).push (pG j t)).push (B9 (.ref h.objs.size) (.ref (h.push (pG g s)).objs.size))).push (B9 .none .none)).push (Q6 ((h.push (pG g s)).push (pG j t)).objs.size (((h.push (pG g s)).push (pG j t)).push (B9 (.ref h.objs.size) (.ref (h.push (pG g s)).objs.size))).objs.size)
theorem Vj (j p:Bool) (l m:Ad) (C I:Array Ac):Meets (Builtin.«zip.__new__» ⟨[.type "zip",.ref l,.ref m],[]⟩) (λ_ R s=>mY j s.heap l C/\mY p s.heap m I /\ ∀ r,r=Kb j p s.heap l m->∀ n,n=s.heap.objs.size+4->R (.ok (.ret (.ref n))) { s with heap:=r }) :=
 .of_wp λf w A R s h=>by
  obtain⟨c,g,d,i,os⟩:=s;obtain⟨k,q,h⟩:=h;have under:=sub_zip;have a:mY j (Shared.heap ⟨c,g,d,i,os⟩) l C:=k;have b:mY p (Shared.heap ⟨c.push (pG j l),g,d,i,os⟩) m I:=pO q λo e=>aQ _ e
  wp_walk using Qe a,Qe b
  refine⟨_,rfl,h _ rfl _ ?_⟩;rw[dN,dN,dN,dN]
section
theorem Wo (J:mY r s.heap l U) (T:mY C s.heap m ys)
  (q:∀ j,IsZip j (s.heap.objs.size+4) (s.heap.objs.size+2) (s.heap.objs.size+3) .none->IsPair j (s.heap.objs.size+2) (.ref s.heap.objs.size) (.ref (s.heap.objs.size+1))->IsPair j (s.heap.objs.size+3) .none .none ->mX r j s.heap.objs.size l 0->mX C j (s.heap.objs.size+1) m 0->j.objs.size=s.heap.objs.size+5->(∀ c o,s.heap.get? c=some o->j.get? c=some o)->Q (.ref (s.heap.objs.size+4)) { s with heap:=j }) :
  wpAny (model I w) A (call (.type "zip") [.ref l,.ref m]) Q E s:=by
 refine callType_new F.called_zip (by decide) (F.typeCall_zip_2 _ _) (F.newCall_zip_2 _ _) (λobj=>F.args_object_init_3 obj _ _) F.entry_zip_new (Vj r C l m U ys) ⟨J,T,λj e n t=>?_⟩;subst e t;have d:(s.heap.push (pG r l)).objs.size=s.heap.objs.size+1:=dN ..;have h:((s.heap.push (pG r l)).push (pG C m)).objs.size=s.heap.objs.size+2:=by rw[dN,d]
 have i:∀ p,(((s.heap.push (pG r l)).push (pG C m)).push p).objs.size=s.heap.objs.size+3:=λp=>by rw[dN,h]
 have k:∀ p q,((((s.heap.push (pG r l)).push (pG C m)).push p).push q).objs.size=s.heap.objs.size+4:=λp q=>by rw[dN,i]
 have b:∀ (g:Ag) (o:Obj) (n:Nat),o.isFreed=false->g.objs.size=n->(g.push o).get? n=some o:=λg o n f e=>by rw[<- e];exact bL _ f
 have a:∀ {g:Ag} {o p:Obj} {c:Ad},g.get? c=some o->(g.push p).get? c=some o:=λe=>aQ _ e
 unfold Kb;rw[d,h,i];have z:=b ((((s.heap.push (pG r l)).push (pG C m)).push (B9 (.ref s.heap.objs.size) (.ref (s.heap.objs.size+1)))).push (B9 .none .none)) (Q6 (s.heap.objs.size+2) (s.heap.objs.size+3)) _ rfl (k _ _);exact⟨⟨_,z,rfl⟩,q _ z (a (a (b _ _ _ rfl h))) (a (b _ _ _ rfl (i _))) (Pg r (a (a (a (a (bL _ rfl)))))) (Pg C (a (a (a (b _ _ _ rfl d))))) (by rw[dN,k]) λc o e=>a (a (a (a (a e))))⟩
end
end PySem
namespace L2
open PySem PySem.Spec PyProof.Rows
def zM (b:Bool) (K:kQ) (H:Hp) (a:Ad) (g:Aa V):Prop:=match b with
 | true=>lR K H a g
 | false=>lG K H a g
section
variable {X:Cx}
theorem Inv.seqB (I:Inv X j o H s) (h:zM b X.K H a l):∃ g:Aa Ac,lC l g/\mY b s.heap a g.toArray:=by
 cases b
 .obtain⟨g,r,p,_⟩:=I.list h;exact⟨g,r,p.isList⟩
 .obtain⟨g,r,p,_⟩:=I.tuple h;exact⟨g,r,p⟩
end
section
variable {X:Cx}
variable {K:kQ}
def Jo:D->Ab (Bool×Aa D)
 | .l a=>some (false,a)
 | .t a=>some (true,a)
 | _=>none
end
end L2
namespace L2
open PySem PySem.Spec PyProof.Rows Lw
section
variable {X:Cx}
def Wn (K:kQ) (g:TA):TE:=λi H Q=>g i H λh a=>∃ (e f:Bool) (l m:Ad) (b:Aa fS) (c:Aa V),h=[.ref l,.ref m]/\zM e K a l (b.map kV)/\zM f K a m c/\b.length<=1000/\∀ d,a d=none->Q (.ref d) (upd a d (.k (pD [] (b.zip c))))
theorem Ts (j:X.calm=true) (hg:Gl X "dict") (hm:X.mg "dict" = none) (r:Gl X "zip") (C:X.mg "zip" = none) (ha:PA X [a,b] ta)
  (hs:starEach [a,b] X.env=(false,eval a X.env)::starEach [b] X.env:=by rfl) (J:(backTo g (starEach [b] X.env)).any (·.1)=false:=by rfl) :
  PE X (.Call (.Name "dict" p) [.Call (.Name "zip" p') [a,b] [] g] [] pos) (Wn X.K ta):=by
 intro z s σ H Q I h;refine gG (xG I hg hm boot_dict ?_ (by decide) (by decide));refine eQ ?_ rfl rfl;show wpAny _ _ (spliced ((false,eval (.Call (.Name "zip" p') [a,b] [] g) X.env)::backTo pos (starEach [] X.env))) _ _ s;refine iH ?_;refine gG (xG I r C boot_zip ?_ (by decide) (by decide));refine eQ (kY (ha g z s σ H _ I h) λus B M=>?_) hs J;obtain⟨xs,H1,t,S,q1⟩:=M;obtain⟨b1,b2,l,m,c,E,rfl,hl,hv,hn,q⟩:=q1;obtain⟨Z,T,rfl,W,Y⟩:∃ Z T,us=[Z,T]/\lA (.ref l) Z/\lA (.ref m) T:=by
  cases S with | cons S V=>cases V with | cons V r3=>cases r3;exact⟨_,_,rfl,S,V⟩
 cases W;cases Y;obtain⟨N,r',R⟩:=t.seqB hl;obtain⟨f,A,n⟩:=t.seqB hv;refine Wo R n λD z1 z2 z3 z4 z5 z6 U=>?_
 refine Calls.spliced_nil ?_;have L1:=r'.length;have L2:=A.length;rw[aA] at L1;have F:=Oq c A;have O:l<B.heap.objs.size:=by obtain⟨_,e⟩:=D3 R;exact bK e
 have P:m<B.heap.objs.size:=by obtain⟨_,e⟩:=D3 n;exact bK e
 refine FD (knd:=nG X.prog X.w) (more:=c.zip f) (s:={ B with heap:=D }) (t.ok.hd j) (zipApart_new O P) z1 z2 z3 z4 z5 (pO R λo e=>U _ o e) (pO n λo e=>U _ o e) ?_ ?_ ?_ λh2 tk hD hk=>?_
 .rw[kO,bE,bE];omega
 .rw[kO];exact hU (dM (show min c.length f.length<=1000 by omega) (by decide))
 .intro i x y v G;have v:N[i]?=some x:=by simpa using v
  have G:f[i]?=some y:=by simpa using G
  obtain⟨hi,_⟩:=aL.mp v;obtain⟨u,hu,ru⟩:=r'.get (i:=i) (x:=kV (c[i]'(by omega))) (by simp[show i<c.length by omega]);rw[hu] at v;cases v;refine⟨c[i]'(by omega),uG ru,?_⟩;rw[List.getElem?_zip_eq_some];exact⟨aR _,G⟩
 .have L:(pD [] (c.zip E)).length<=sizeLine:=by
   have h1:=B1 (c.zip E) [];rw[eG,kO] at h1;exact hU (dM (show (pD [] (c.zip E)).length<=1000 by omega) (by decide))
  have d:B.heap.objs.size<=D.objs.size:=by omega
  have kp:∀ b o,B.heap.get? b=some o->h2.get? b=some o:=λb o e=>hk b o (λq=>by
   have:=bK e;simp only[aI,bJ,dZ] at q;rcases q with q | q | q | q<;>rw[q] at this<;>first | exact absurd this (fC _) | exact absurd this (kM.mpr (kJ _ _))) (U b o e)
  refine⟨.ref D.objs.size,_,t.laid (a:=D.objs.size) (o:=.k (pD [] (c.zip E))) (t':=tk) kp d ?_,rfl,q _ (t.hok.fresh d)⟩;exact yQ L (dP.mpr (eR (cB (bR t.big d)))) (F.merge .nil) hD
end
section
variable {X:Cx}{K:kQ}
def Nc:OC:=λf h=>match f with
 | [d1,d2]=>∃ d e b c a,Jo d1=some (d,b)/\Jo d2=some (e,c)/\wZ b=some a/\a.length<=1000/\h (.o (.k (oY [] (a.zip c))))
 | _=>False
theorem Qi (e:Jo d=some (b,j)) (r:mE K A H d v):∃ a g,v = .ref a/\zM b K H a g/\Reps K A H j g:=by
 cases d<;>first | cases e | skip
 .obtain⟨a,g,rfl,h,r⟩:=Rep.tup_inv r;exact⟨a,g,rfl,lR.of h,r⟩
 .obtain⟨a,g,rfl,h,r⟩:=r.lst_inv;exact⟨a,g,rfl,lG.of h,r⟩
theorem X5:qD K (λC H Q=>∃ (o r:Bool) (l m:Ad) (g:Aa fS) (j:Aa V),C=[.ref l,.ref m]/\zM o K H l (g.map kV)/\zM r K H m j/\g.length<=1000/\∀ d,H d=none->Q (.ref d) (upd H d (.k (pD [] (g.zip j))))) Nc:=by
 intro B L H h C N Q hd f c k
 match h,c with
 | [d1,d2],c =>
  obtain⟨x,y,rfl,v,py⟩:=Bp f;obtain⟨o,r,C,M,g,i,n,t,u,c⟩:=c;obtain⟨a,G,rfl,q,A⟩:=Qi i v;obtain⟨b,j,rfl,s,D⟩:=Qi n py;have e:=Td t A;subst e;obtain⟨E,F⟩:=Me g D;obtain⟨w,z⟩:=Ap (kvs:=[]) (vs:=[]) E F rfl .nil;exact⟨o,r,a,b,g,j,rfl,q,s,u,λp f=>k _ _ _ c (hd.dKF f w z)⟩
theorem Vw (g:X.calm=true) (I:Gl X "dict") (J:X.mg "dict" = none) (l:Gl X "zip") (o:X.mg "zip" = none) (C:rQ X [a,b] U)
  (T:starEach [a,b] X.env=(false,eval a X.env)::starEach [b] X.env:=by rfl) (r:(backTo j (starEach [b] X.env)).any (·.1)=false:=by rfl) :
  PD X (.Call (.Name "dict" p) [.Call (.Name "zip" p') [a,b] [] j] [] pos) (dC Nc U):=(Ts g I J l o C T r).mono λ_ _ _ h=>Hq X5 h
end
end L2
namespace Lw
open PySem L2
theorem FE:(["name","edges"]:Aa Af).Nodup:=by decide +kernel
theorem FM:(["name"]:Aa Af).Nodup:=by decide +kernel
theorem HM:(["name","words","worth"]:Aa Af).Nodup:=by decide +kernel
theorem Nk:(["output","name","after"]:Aa Af).Nodup:=by decide +kernel
theorem N5:(["output","name","carried"]:Aa Af).Nodup:=by decide +kernel
def Ov:RD:=λi e f=>∃ (C:Cel) (a:Aa (Af×Af)) (W:Nat) (c b:Aa (fS×D)) (wf d:Af->Int) (u h:Nat->Af->Int),e=[kS C a,.int W,.k c,.k b]/\RowOk C a/\RunOk C a W wf d u h/\W<=60/\(∀ x∈lJ C a,kR c (Sum.inr x)=some (.int (wf x)))/\(∀ p∈a,kR b (Sum.inr p.2)=some (.int (d p.2))) /\
 f (.v (.t [.k (eW (lT C a u W)),.k (eW (a.map λp=>(p.1,lU d u W p)))]))
section
variable {P:Ah}{K:kQ}
theorem tP:FnScope ["row","width","words","edges","cell","inputs","carried","outputs","told","worth","bits","after","name"] ["row","width","words","edges"] (lQ Cq):=mO
abbrev rS (C:Cel) (j:Aa (Af×Af)) (W:Nat) (l g:Aa (fS×D)) (r cr J T U p o I:Sl):Aa Sl:=[.v (kS C j),.v (.int W),.v (.k l),.v (.k g),.v (oW C),r,cr,J,T,U,p,o,I]
theorem CD (T:Txt mg) (I:Kn P w K mg base 1 "check_there" A5 ["names","given"] Ia) (r:Kn P w K mg base 1 "carried_inputs" Aw ["row"] A8) (aa:Kn P w K mg base 2 "word_inputs" By ["row"] Bz) (U:Kn P w K mg base 1 "word_outputs" As ["row"] Gm) (J:Kn P w K mg base 1 "place_worths" Ee ["count"] Mn) (ab:Kn P w K mg base 2 "told_by" Fb ["cell","bits"] Qb) :
  mM P w K mg base 3 "laid" Cq ["row","width","words","edges"] Ov:=by
 refine mT tP λf ak A aj s H E dk ds Φ hr hu hR=>?_
 obtain⟨C,d,W,G,B,wf,L,u,ah,rfl,R,ac,hW,hw,he,ai⟩:=hR;have lp:=R.lp;have li:=R.gc.li;have lo:=R.gc.lo;have an:(lJ C d).length<=40:=bS (bU ..) li;have ao:(hI C d).length<=40:=bS (bU ..) lo;refine⟨_,(gD (kZ 4 tP.nd (hB hu 0 eI)) (gD (kZ 5 tP.nd (lD aa hr (dK (eH 0) eJ))) (gD (oV (lD I hr (dK (eH 5) (dK (eH 2) eJ)))) (gD (oV (lD I hr (dK (lD r hr (dK (eH 0) eJ)) (dK (eH 3) eJ)))) (gD (kZ 6 tP.nd (lZ (pU rfl) pR T.dict bQ (dK (mF ["name"] ["edges"] [3] (lK (lD r hr (dK (eH 0) eJ))) (λ_ _ _ _ _=>(hO 0 FE)) (λ_ _ _ _ _=>(lI (dK (eH 0) (dK (hB hu 1 (eH 0)) eJ))))) eJ))) (gD (kZ 7 tP.nd (lD U hr (dK (eH 0) eJ))) (gD (kZ 8 tP.nd (lZ (pU rfl) pR T.dict bQ (dK (mF ["name"] [] [] (lK (eH 7)) (λ_ _ _ _ _=>(hO 0 FM)) (λ_ _ _ _ _=>(lI (dK (eH 0) (dK eI eJ))))) eJ))) (gD (oE (lK (lD J hr (dK (eH 1) eJ))) (hO 9 tP.nd) (gD (kZ 10 tP.nd (lZ (pU rfl) pR T.dict bQ (dK (mF ["name"] ["words","worth"] [2,9] (lK (eH 5)) (λ_ _ _ _ _=>(hO 0 HM)) (λ_ _ _ _ _=>(lI (dK (eH 0) (dK (kT mQ mR (kT uV vA (hB hu 1 (eH 0)) (eH 2)) eI) eJ))))) eJ))) (gD (oV (qE iQ PySem.F.slot_dict_update PySem.F.type_dict_update P7 Qu (pv 10) (dK (eH 6) eJ))) (gD (kZ 11 tP.nd (Vw rfl (by rfl) T.dict (by rfl) T.zip (dK (hB hu 4 eI) (dK (lD ab hr (dK (eH 4) (rA (pv 10) eJ))) eJ)))) (gD (oE (lK (eH 7)) (hO 12 tP.nd) (kX (U9 (n:=8) (m:=12) hu (pv 8) (pv 12) (mK tJ tM 9 (hB hu 11 (eH 12)))))) (kX (kZ 6 tP.nd (lZ (pU rfl) pR T.dict bQ (dK (mF ["output","name"] ["after"] [11] (lK (hB hu 0 eI)) (λ_ _ _ _ _=>(nK (n:=2) rfl (lL (hO 0 Nk) (lL (hO 1 Nk) nJ)))) (λ_ _ _ _ _=>(lI (dK (eH 1) (dK (hB hu 2 (eH 0)) eJ))))) eJ))))))))) (kX (lX (lI (dK (eH 8) (dK (lZ (pU rfl) pR T.dict bQ (dK (mF ["output","name"] ["carried"] [6] (lK (hB hu 0 eI)) (λ_ _ _ _ _=>(nK (n:=2) rfl (lL (hO 0 N5) (lL (hO 1 N5) nJ)))) (λ_ _ _ _ _=>(lI (dK (eH 0) (dK (hB hu 2 (eH 1)) eJ))))) eJ)) eJ))))))))))))),?_⟩;refine gV (λM=>M=rS C d W G B .n .n .n .n .n .n .n .n) (λN S=>⟨rfl,_,rfl,S _ rfl⟩) ?_;rintro _ rfl;refine gV (λM=>M=rS C d W G B (.o (.l ((lJ C d).map D.str))) .n .n .n .n .n .n .n) (λN S=>⟨C,d,rfl,lp,by omega,.inl rfl,S _ rfl⟩) ?_;rintro _ rfl;refine gV (λM=>M=rS C d W G B (.v (.l ((lJ C d).map D.str))) .n .n .n .n .n .n .n) (λN S=>?_) ?_
 .exact⟨lJ C d,G,.inr rfl,λx hx=>⟨_,hw x hx⟩,.inl rfl,S _ rfl⟩
 rintro _ rfl;refine gV (λM=>M=rS C d W G B (.v (.l ((lJ C d).map D.str))) .n .n .n .n .n .n .n) (λN S=>?_) ?_
 .refine⟨C,d,rfl,lp,.inl rfl,d.map (·.2),B,.inr (by rw[aG];rfl),λx hx=>?_,.inl rfl,S _ rfl⟩;obtain⟨p,hp,rfl⟩:=aD.mp hx;exact⟨_,he p hp⟩
 rintro _ rfl;refine gV (λM=>M=rS C d W G B (.v (.l ((lJ C d).map D.str))) (.o (.k (eW (lW d L u 0)))) .n .n .n .n .n .n) (λN S=>?_) ?_
 .unfold mV dC aC;refine mC d (λp=>D.str p.2) (λp=>.t [.str p.2,.int (L p.2)]) (rS C d W G B (.v (.l ((lJ C d).map D.str))) .n .n .n .n .n .n .n) (λΨ h=>⟨C,d,rfl,lp,.inl rfl,h⟩) (by omega) (λi p ys Nx e X Y=>⟨rfl,_,?_,by show 2<=1000;decide,X,Y⟩) ?_
  .show some (kR B (Sum.inr p.2))=_;rw[he p (aE e)]
  have e0:oK (d.map λp=>D.t [.str p.2,.int (L p.2)])=some (eW (lW d L u 0)):=by
   rw[qB (g:=λp:Af×Af=>((Sum.inr p.2:fS),D.int (L p.2))) (λp=>⟨.str p.2,rfl,rfl⟩)];simp[eW,lW,lU]
  refine⟨_,e0,by rw[pB];unfold lW;rw[List.length_map];omega,?_⟩;rw[sH (by simpa [lW,cS] using R.n2)];exact S _ rfl
 rintro _ rfl;refine gV (λM=>M=rS C d W G B (.v (.l ((lJ C d).map D.str))) (.o (.k (eW (lW d L u 0)))) (.o (.l ((hI C d).map D.str))) .n .n .n .n .n) (λN S=>⟨C,d,rfl,lp,by omega,.inl rfl,S _ rfl⟩) ?_;rintro _ rfl;refine gV (λM=>M=rS C d W G B (.v (.l ((lJ C d).map D.str))) (.o (.k (eW (lW d L u 0)))) (.v (.l ((hI C d).map D.str))) (.o (.k (eW (lT C d u 0)))) .n .n .n .n) (λN S=>?_) ?_
 .unfold mV dC aC;refine mC (hI C d) D.str (λo=>.t [.str o,.int 0]) (rS C d W G B (.v (.l ((lJ C d).map D.str))) (.o (.k (eW (lW d L u 0)))) (.v (.l ((hI C d).map D.str))) .n .n .n .n .n) (λΨ h=>h) (by omega) (λi p ys Nx e X Y=>⟨by show 2<=1000;decide,X,Y⟩) ?_;have e0:oK ((hI C d).map λo=>D.t [.str o,.int 0])=some (eW (lT C d u 0)):=by
   rw[qB (g:=λo:Af=>((Sum.inr o:fS),D.int 0)) (λp=>⟨.str p,rfl,rfl⟩)];simp[eW,lT,sN]
  refine⟨_,e0,by rw[pB];unfold lT;rw[List.length_map];omega,?_⟩;rw[sH (by unfold lT;rw[sE];exact tQ R.gc)];exact S _ rfl
 rintro _ rfl;refine gV (λM=>∃ wo Q Z O:Sl,M=rS C d W G B (.v (.l ((lJ C d).map D.str))) (.o (.k (eW (lW d L u W)))) (.v (.l ((hI C d).map D.str))) (.o (.k (eW (lT C d u W)))) wo Q Z O) (λN S=>?_) ?_
 .refine nR ((List.range W).map λi=>D.int (2 ^ i)) _ (λΨ h=>⟨W,rfl,by omega,.inl rfl,h⟩) (λj M=>∃ wo Q Z O:Sl,M=rS C d W G B (.v (.l ((lJ C d).map D.str))) (.o (.k (eW (lW d L u j)))) (.v (.l ((hI C d).map D.str))) (.o (.k (eW (lT C d u j)))) wo Q Z O) ⟨.n,.n,.n,.n,rfl⟩ ?_ ?_
  .rintro j x M hd ⟨wo,Q,Z,O,rfl⟩;obtain⟨y,hy,rfl⟩:=qI hd;obtain⟨hj,rfl⟩:j<W/\j=y:=by
    obtain⟨X,Y⟩:=aL.mp hy;rw[cM] at X;rw[List.getElem_range] at Y;exact⟨X,Y⟩
   have p2:=AD (i:=j) (by omega);refine gV (λM=>M=rS C d W G B (.v (.l ((lJ C d).map D.str))) (.o (.k (eW (lW d L u j)))) (.v (.l ((hI C d).map D.str))) (.o (.k (eW (lT C d u j)))) (.v (.int (2 ^ j))) (.o (.k (eW ((lJ C d).map λx=>(x,wf x/2 ^ j%2))))) Z O) (λN' V=>?_) ?_
   .unfold mV dC aC;refine mC (lJ C d) D.str (λx=>.t [.str x,.int (wf x/2 ^ j%2)]) (rS C d W G B (.v (.l ((lJ C d).map D.str))) (.o (.k (eW (lW d L u j)))) (.v (.l ((hI C d).map D.str))) (.o (.k (eW (lT C d u j)))) (.v (.int (2 ^ j))) Q Z O) (λΨ h=>h) (by omega) (λi p ys Nx e X Y=>⟨rfl,.int (wf p),?_,p2,by show (0:Int)<2;decide,by show 2<=1000;decide,X,Y⟩) ?_
    .show some (kR G (Sum.inr p))=_;rw[hw p (aE e)]
    have e0:oK ((lJ C d).map λx=>D.t [.str x,.int (wf x/2 ^ j%2)])=some (eW ((lJ C d).map λx=>(x,wf x/2 ^ j%2))):=by
     rw[qB (g:=λx:Af=>((Sum.inr x:fS),D.int (wf x/2 ^ j%2))) (λp=>⟨.str p,rfl,rfl⟩)];simp[eW]
    refine⟨_,e0,by rw[pB,aA];omega,?_⟩;rw[sH (by rw[sE];exact O9 R.gc)];exact V _ rfl
   rintro _ rfl;have ck:∀ j,(lW d L u j).map (·.1)=d.map (·.2):=λj=>by simp[lW,cS]
   have ae:(((lJ C d).map λx=>(x,wf x/2 ^ j%2))++lW d L u j).map (·.1) |>.Nodup:=by
    rw[aF,sE,ck];refine bC.mpr ⟨O9 R.gc,R.n2,λa ha b hb z=>?_⟩;have:=(aX.mp ha).2;rw[aV (z▸hb)] at this;cases this
   refine gV (λM=>M=rS C d W G B (.v (.l ((lJ C d).map D.str))) (.v (.k (eW (lW d L u j)))) (.v (.l ((hI C d).map D.str))) (.o (.k (eW (lT C d u j)))) (.v (.int (2 ^ j))) (.o (.k (eW (((lJ C d).map λx=>(x,wf x/2 ^ j%2))++lW d L u j)))) Z O) (λN' V=>?_) ?_
   .refine⟨rfl,?_,?_⟩
    .rw[pB,pB,aA];unfold lW;rw[List.length_map];omega
    .rw[Ji _ _ ae];exact V _ rfl
   rintro _ rfl;have has:rV (eW (((lJ C d).map λx=>(x,wf x/2 ^ j%2))++lW d L u j)) C.ins (ah j):=λx hx=>by
    refine⟨?_,(ac.bits R j hj).1 x hx⟩;by_cases q:x∈d.map (·.2)
    .obtain⟨p,hp,rfl⟩:=aD.mp q;have hm:(p.2,lU L u j p)∈((lJ C d).map λx=>(x,wf x/2 ^ j%2))++lW d L u j:=aJ _ (aD.mpr ⟨p,hp,rfl⟩);rw[(rJ _ p.2).1 (aD.mpr ⟨_,hm,rfl⟩),xC ae hm,ac.c j hj p hp]
    .have ag:x∈lJ C d:=aX.mpr ⟨hx,by rw[aP q];rfl⟩;have hm:(x,wf x/2 ^ j%2)∈((lJ C d).map λx=>(x,wf x/2 ^ j%2))++lW d L u j:=aM _ (aD.mpr ⟨x,ag,rfl⟩);rw[(rJ _ x).1 (aD.mpr ⟨_,hm,rfl⟩),xC ae hm,ac.w j hj x ag]
   refine gV (λM=>∃ Q:Sl,M=rS C d W G B (.v (.l ((lJ C d).map D.str))) (.v (.k (eW (lW d L u j)))) (.v (.l ((hI C d).map D.str))) (.o (.k (eW (lT C d u j)))) (.v (.int (2 ^ j))) Q (.o (.k (eW (C.outs.map λo=>(o,u j o))))) O) (λN' V=>?_) ?_
   .refine⟨rfl,_,rfl,rfl,C,_,ah j,rfl,R.gc,has,.inr (Va _ _),true,true,_,_,_,rfl,rfl,M4 _,by rw[aA];omega,?_⟩;rw[Tr,sH (by simpa [cS] using R.gc.ond),<- ac.uu j hj];exact V _ ⟨_,rfl⟩
   rintro _ ⟨Q,rfl⟩;refine gV (λM=>∃ O:Sl,M=rS C d W G B (.v (.l ((lJ C d).map D.str))) (.v (.k (eW (lW d L u j)))) (.v (.l ((hI C d).map D.str))) (.o (.k (eW (lT C d u (j+1))))) (.v (.int (2 ^ j))) Q (.o (.k (eW (C.outs.map λo=>(o,u j o))))) O) (λN' V=>?_) ?_
   .have u0:pY (hI C d) (λo=>sN (λj=>2 ^ j*u j o) j) (λo=>sN (λj=>2 ^ j*u j o) (j+1)) 0=lT C d u j:=by unfold pY lT;rw[List.take_zero,List.drop_zero];rfl
    have uN:pY (hI C d) (λo=>sN (λj=>2 ^ j*u j o) j) (λo=>sN (λj=>2 ^ j*u j o) (j+1)) (hI C d).length=lT C d u (j+1):=by unfold pY lT;rw[List.take_of_length_le (Nat.le_refl _),List.drop_of_length_le (Nat.le_refl _),List.map_nil,List.append_nil]
    refine nR ((hI C d).map D.str) _ (λΨ h=>h) (λm M=>∃ O:Sl,M=rS C d W G B (.v (.l ((lJ C d).map D.str))) (.v (.k (eW (lW d L u j)))) (.v (.l ((hI C d).map D.str))) (.o (.k (eW (pY (hI C d) (λo=>sN (λj=>2 ^ j*u j o) j) (λo=>sN (λj=>2 ^ j*u j o) (j+1)) m)))) (.v (.int (2 ^ j))) Q (.o (.k (eW (C.outs.map λo=>(o,u j o))))) O) ⟨O,by rw[u0]⟩ ?_ ?_
    .rintro m x M hx ⟨O,rfl⟩;obtain⟨o,ho,rfl⟩:=qI hx;obtain⟨q1,q2⟩:=Lv (tQ (prs:=d) R.gc) (a:=λo=>sN (λj=>2 ^ j*u j o) j) (b:=λo=>sN (λj=>2 ^ j*u j o) (j+1)) ho;have om:=aE ho;refine⟨_,o,rfl,rfl,by rw[yF];exact om,by rw[yF];exact tQ R.gc,?_,rfl,rfl,.int (u j o),?_,.inl ⟨by omega,by omega⟩,rfl,.v (.str o),?_⟩
     .have:=cL List.length (yF (hI C d) (λo=>sN (λj=>2 ^ j*u j o) j) (λo=>sN (λj=>2 ^ j*u j o) (j+1)) m);rw[aA] at this;omega
     .show some (kR (eW (C.outs.map λo=>(o,u j o))) (Sum.inr o))=_;rw[Kk ((aX.mp om).1)]
     .rw[q1];show rS _ _ _ _ _ _ _ _ (.o (.k (eW (sR _ o (sN (λj=>2 ^ j*u j o) (j+1)))))) _ _ _ _=_;rw[q2]
    .rintro M ⟨O,rfl⟩;rw[aA,uN];exact V _ ⟨O,rfl⟩
   rintro _ ⟨O,rfl⟩;unfold mV dC aC;refine mC d (λp=>D.t [.str p.1,.str p.2]) (λp=>.t [.str p.2,.int (u j p.1)]) (rS C d W G B (.v (.l ((lJ C d).map D.str))) (.v (.k (eW (lW d L u j)))) (.v (.l ((hI C d).map D.str))) (.o (.k (eW (lT C d u (j+1))))) (.v (.int (2 ^ j))) Q (.o (.k (eW (C.outs.map λo=>(o,u j o))))) O) (λΨ h=>⟨rfl,_,rfl,h⟩) (by omega) (λi p ys Nx e X Y=>⟨rfl,rfl,rfl,.int (u j p.1),?_,by show 2<=1000;decide,X,Y⟩) ?_
   .show some (kR (eW (C.outs.map λo=>(o,u j o))) (Sum.inr p.1))=_;rw[Kk (R.o p (aE e))]
   have e0:oK (d.map λp=>D.t [.str p.2,.int (u j p.1)])=some (eW (lW d L u (j+1))):=by
    rw[qB (g:=λp:Af×Af=>((Sum.inr p.2:fS),D.int (u j p.1))) (λp=>⟨.str p.2,rfl,rfl⟩)];simp[eW,lW,lU]
   refine⟨_,e0,by rw[pB];unfold lW;rw[List.length_map];omega,?_⟩;rw[sH (by rw[ck];exact R.n2)];exact⟨_,_,_,_,rfl⟩
  .rintro M ⟨wo,Q,Z,O,rfl⟩;rw[aA,cM];exact S _ ⟨wo,Q,Z,O,rfl⟩
 rintro _ ⟨wo,Q,Z,O,rfl⟩;unfold oS mG aC dC;refine Wy rfl ?_;refine mC d (λp=>D.t [.str p.1,.str p.2]) (λp=>.t [.str p.1,.int (lU L u W p)]) (rS C d W G B (.v (.l ((lJ C d).map D.str))) (.o (.k (eW (lW d L u W)))) (.v (.l ((hI C d).map D.str))) (.v (.k (eW (lT C d u W)))) wo Q Z O) (λΨ h=>⟨rfl,_,rfl,h⟩) (by omega) (λi p ys Nx e X Y=>⟨rfl,rfl,rfl,.int (lU L u W p),?_,by show 2<=1000;decide,X,Y⟩) ?_
 .have pm:=aE e;show some (kR (eW (lW d L u W)) (Sum.inr p.2))=_;have hm:(p.2,lU L u W p)∈lW d L u W:=aD.mpr ⟨p,pm,rfl⟩;rw[(rJ _ p.2).1 (aD.mpr ⟨_,hm,rfl⟩),xC (by simpa [lW,cS] using R.n2) hm]
 have e0:oK (d.map λp=>D.t [.str p.1,.int (lU L u W p)])=some (eW (d.map λp=>(p.1,lU L u W p))):=by
  rw[qB (g:=λp:Af×Af=>((Sum.inr p.1:fS),D.int (lU L u W p))) (λp=>⟨.str p.1,rfl,rfl⟩)];simp[eW]
 refine⟨_,e0,by rw[pB,aA];omega,?_⟩;rw[sH (by simpa [cS] using R.n1)];exact⟨by show 2<=1000;decide,ai⟩
end
end Lw
namespace L2
open PySem PySem.Spec PyProof.Rows Lw
section
variable {X:Cx}
def Lm:Aa V->Hp->VK->Prop:=λc H Q=>∃ (a:Ad) (b:Aa (fS×V)),c=[.ref a]/\Rd H a (.k b)/\∀ l,H l=none->Q (.ref l) (upd H l (.l (b.map λp=>kV p.1)))
theorem Yc (g:X.calm=true):mZ X (.type "list") Lm:=by
 intro E s σ H xs d Q I r h;obtain⟨a,b,rfl,P,q⟩:=h;obtain⟨u,rfl,J⟩:=qH r;cases J;obtain⟨z,lo,f,m,D⟩:=qJ I.hok P;obtain⟨C,O,N,d1,d2,F,G⟩:=id D;have Y:b.length=f.length:=fN m;refine PySem.W.kdl_call (PySem.W.kdl_dict (knd:=nG X.prog X.w) (kvs:=f) (ep:=N) lo) (I.ok.hd g) ⟨C,O,d1,d2,F,G⟩ (by rw[<- Y];exact z) λU T n c S y A=>?_
 obtain⟨Z,j⟩:=A;have rel:lC (b.map λp=>kV p.1) n.toList:=by
  have go:∀ (b:Aa (fS×V)) (f:Aa (fS×Ac)) (d:Aa Ac),KV b f->d.length=f.length->(∀ (i:Nat) v,d[i]?=some v->∃ k x,f[i]?=some (k,x)/\(nG X.prog X.w).is k v=true)->lC (b.map λp=>kV p.1) d:=by
   intro b;induction b with
   | nil =>
    intro f d m t _;cases m;cases d with
    | nil=>exact .nil
    | cons _ _=>cases t
   | cons p b R =>
    intro f d m t B;cases m with
    | cons h m =>
     cases d with
     | nil=>cases t
     | cons u d =>
      obtain⟨k,x,K,L⟩:=B 0 u rfl;cases K;have M:p.1=k:=h.1;rw[bH,M];exact .cons (Uf L) (R _ d m (Nat.succ.inj t) λi v e=>B (i+1) v e)
  exact go b f n.toList m (by rw[eU];exact Z) λi v e=>j i v (by rw[<- eX];exact e)
 exact⟨.ref s.heap.objs.size,_,I.laid (a:=s.heap.objs.size) (o:=.l (b.map λp=>kV p.1)) (t':=T) S (bF _) ⟨by rw[aA];exact z,n.toList,c,rel,by rw[Array.toArray_toList];exact y⟩,rfl,q _ (I.hok.fresh (bF _))⟩
def Z4:OC:=λb c=>match b with
 | [.k a]=>c (.o (.l (a.map λp=>sK p.1)))
 | _=>False
theorem X3 {K:kQ}:qD K Lm Z4:=by
 intro B L H f u v Q hd s c k;cases f with
 | nil=>exact False.elim c
 | cons d f =>
 cases d<;>first | exact False.elim c | skip<;>cases f<;>first | exact False.elim c | skip
 rename_i b
 obtain⟨x,rfl,t⟩:=rK s;obtain⟨a,i,rfl,h,e,r⟩:=t.dK_inv;refine⟨a,i,rfl,h,λl q=>k _ _ _ c (hd.lstF q ?_)⟩;have m:(b.map λp=>sK p.1)=(b.map (·.1)).map sK:=by rw[aG];rfl
 have n:(i.map λp=>kV p.1)=(b.map (·.1)).map kV:=by rw[e,aG];rfl
 rw[m,n];exact Df _
end
end L2
namespace Lw
open PySem L2
theorem Om:(["output","name","edges"]:Aa Af).Nodup:=by decide +kernel
theorem CU:(["name","along"]:Aa Af).Nodup:=by decide +kernel
theorem DG:(["pair"]:Aa Af).Nodup:=by decide +kernel
theorem C1:(["output","name","values"]:Aa Af).Nodup:=by decide +kernel
def Mt:RD:=λi e f=>∃ (C:Cel) (a:Aa (Af×Af)) (W:Nat) (c b:Aa (fS×D)) (wf d:Af->Int) (u h:Nat->Af->Int),e=[kS C a,.int W,.k c,.k b]/\RowOk C a/\RunOk C a W wf d u h/\1<=W/\W<=60/\(∀ x∈lJ C a,kR c (Sum.inr x)=some (.int (wf x))/\0<=wf x)/\(∀ p∈a,kR b (Sum.inr p.2)=some (.int (d p.2))) /\
 f (.v (.t [.k (eW (lT C a u W)),.k (eW (a.map λp=>(p.1,lU d u W p)))]))
theorem Uj (i:Int) (j:Nat):i*2 ^ ((0:Int)+(j:Int)).toNat=2 ^ j*i:=by
 rw[show ((0:Int)+(j:Int)).toNat=j by omega,Int.mul_comm]
theorem JF (h:0<=z):Builtin.bitAnd z 1=z%2:=by
 obtain⟨n,rfl⟩:=Int.eq_ofNat_of_zero_le h;have e:Builtin.bitAnd (n:Int) 1=((n &&& 1:Nat):Int):=by
  unfold Builtin.bitAnd;rw[aV h,aV (show (0:Int)<=1 by decide)];rfl
 rw[e,Nat.and_one_is_mod];rfl
abbrev zS (C:Cel) (g:Aa (Af×Af)) (W:Nat) (l j:Aa (fS×D)) (hd r p J o I T:Sl):Aa Sl:=[.v (kS C g),.v (.int W),.v (.k l),.v (.k j),.v (oW C),.v (.t (g.map mP)),hd,r,p,J,o,I,T]
section
variable {P:Ah}{K:kQ}
theorem rX:FnScope ["row","width","words","edges","cell","along","held","found","ends","place","bits","name","values"] ["row","width","words","edges"] (lQ Ep):=mO
theorem Yd (T:Txt mg) (l:Kn P w K mg base 2 "_law_values" Fd ["cell","bits"] Rx) :
  mM P w K mg base 3 "_law_laid" Ep ["row","width","words","edges"] Mt:=by
 refine mT rX λf ah A ag s H E dk ds Φ hr X hR=>?_
 obtain⟨C,d,W,G,F,wf,O,u,ab,rfl,R,aa,ai,hW,hw,he,af⟩:=hR;have lp:=R.lp;have li:=R.gc.li;have lo:=R.gc.lo;have aj:(hI C d).length<=40:=bS (bU ..) lo;have ck:∀ j,(lW d O u j).map (·.1)=d.map (·.2):=λj=>by simp[lW,cS]
 let ET (j:Nat):mS:=d.map λp=>(p.1,lU O u j p)
 refine⟨_,(gD (Q8 (m:=99) (eH 0) (nK (n:=2) rfl (lL (hO 4 rX.nd) (lL (hO 5 rX.nd) nJ)))) (gD (kZ 6 rX.nd (lZ (pU rfl) pR T.dict bQ (dK (mF ["output","name"] ["edges"] [3] (lK (eH 5)) (λ_ _ _ _ _=>(nK (n:=2) rfl (lL (hO 0 Om) (lL (hO 1 Om) nJ)))) (λ_ _ _ _ _=>(lI (dK (eH 1) (dK (hB X 2 (eH 1)) eJ))))) eJ))) (gD (kZ 7 rX.nd (lZ (pU rfl) pR T.dict bQ (dK (mF ["name"] ["along"] [5] (lK (hB X 4 eI)) (λ_ _ _ _ _=>(hO 0 CU)) (λ_ _ _ _ _=>(lI (dK (eH 0) (dK eI eJ)))) (ht:=λ_ _ _ _ _=>(uI (oO (rF X) (qQ true) (pv 0) (mF ["pair"] [] [] (lK (eH 1)) (λ_ _ _ _ _=>(hO 0 DG)) (λ_ _ _ _ _=>(hB X 0 eI))))))) eJ))) (gD (kZ 8 rX.nd yG) (gD (oE (tU (by rfl) T.range (eH 1)) (hO 9 rX.nd) (gD (kZ 10 rX.nd yG) (gD (oE (lK (hB X 4 eI)) (hO 11 rX.nd) (kX (sF (n:=10) X (Hm (vK (J2 X) (qQ false) (eH 11) (pv 6)) (hB X 6 (eH 11)) (kT Tp W6 (kT Vv Uw (hB X 2 (eH 11)) (eH 9)) eI)) (pv 10) (eH 11)))) (gD (kZ 12 rX.nd (lD l hr (dK (eH 4) (dK (eH 10) eJ)))) (gD (oE (lK (lZ (Yc rfl) X3 T.list dY (rA (pv 7) eJ))) (hO 11 rX.nd) (kX (sF (n:=7) X (kT lO lM (hB X 7 (eH 11)) (kT D2 Cz (hB X 12 (eH 11)) (eH 9))) (pv 7) (eH 11)))) (gD (kZ 6 rX.nd (lZ (pU rfl) pR T.dict bQ (dK (mF ["output","name"] ["values"] [12] (lK (eH 5)) (λ_ _ _ _ _=>(nK (n:=2) rfl (lL (hO 0 C1) (lL (hO 1 C1) nJ)))) (λ_ _ _ _ _=>(lI (dK (eH 1) (dK (hB X 2 (eH 0)) eJ))))) eJ))) (kX (kZ 8 rX.nd (lZ (pU rfl) pR T.dict bQ (dK (mF ["output","name"] ["values"] [12] (lK (eH 5)) (λ_ _ _ _ _=>(nK (n:=2) rfl (lL (hO 0 C1) (lL (hO 1 C1) nJ)))) (λ_ _ _ _ _=>(lI (dK (eH 0) (dK (hB X 2 (eH 0)) eJ))))) eJ)))))))))) (kX (lX (lI (dK (eH 7) (dK (eH 8) eJ)))))))))),?_⟩;refine gV (λM=>M=zS C d W G F .n .n .n .n .n .n .n) (λN hN=>⟨rfl,rfl,hN _ rfl⟩) ?_;rintro _ rfl;refine gV (λM=>M=zS C d W G F (.o (.k (eW (lW d O u 0)))) .n .n .n .n .n .n) (λN hN=>?_) ?_
 .unfold mV dC aC;refine mC d mP (λp=>.t [.str p.2,.int (O p.2)]) (zS C d W G F .n .n .n .n .n .n .n) (λΨ h=>h) (by omega) (λi p ys Nx e S h2=>⟨rfl,rfl,rfl,.int (O p.2),?_,by show 2<=1000;decide,S,h2⟩) ?_
  .show some (kR F (Sum.inr p.2))=_;rw[he p (aE e)]
  have e0:oK (d.map λp=>D.t [.str p.2,.int (O p.2)])=some (eW (lW d O u 0)):=by
   rw[qB (g:=λp:Af×Af=>((Sum.inr p.2:fS),D.int (O p.2))) (λp=>⟨.str p.2,rfl,rfl⟩)];simp[eW,lW,lU]
  refine⟨_,e0,by rw[pB];unfold lW;rw[List.length_map];omega,?_⟩;rw[sH (by rw[ck];exact R.n2)];exact hN _ rfl
 rintro _ rfl;refine gV (λM=>M=zS C d W G F (.o (.k (eW (lW d O u 0)))) (.o (.k (eW (lT C d u 0)))) .n .n .n .n .n) (λN hN=>?_) ?_
 .unfold mV dC aC;refine sV C.outs D.str (λo=>.t [.str o,.int 0]) (λx=>!decide (x∈d.map λp:Af×Af=>p.1)) _ (λΨ h=>⟨rfl,_,rfl,h⟩) (by omega) (λi x ys Nx e S h2 h3=>?_) ?_
  .refine⟨rfl,?_⟩;refine mC d mP (λp=>D.str p.1) _ (λΨ h=>h) (by omega) (λi p ys Nx e S h2=>⟨rfl,_,rfl,S,h2⟩) ?_;have e1:(d.map λp=>D.str p.1)=(d.map (·.1)).map D.str:=by rw[aG];rfl
   refine⟨.str x,(d.map (·.1)).map V.str,rfl,by rw[e1];exact qU _,?_⟩;rw[qC];show if (!decide (x∈d.map (·.1)))=true then _ else _
   by_cases q:x∈d.map (·.1)
   .exact nI (by rw[aV q];rfl) (h3 (by rw[aV q];rfl))
   .exact oI (by rw[aP q];rfl) ⟨by show 2<=1000;decide,S,h2 (by rw[aP q];rfl)⟩
  have e0:oK ((hI C d).map λo=>D.t [.str o,.int 0])=some (eW (lT C d u 0)):=by
   rw[qB (g:=λo:Af=>((Sum.inr o:fS),D.int 0)) (λp=>⟨.str p,rfl,rfl⟩)];simp[eW,lT,sN]
  refine⟨_,e0,by rw[pB];unfold lT;rw[List.length_map];omega,?_⟩;rw[sH (by unfold lT;rw[sE];exact tQ R.gc)];exact hN _ rfl
 rintro _ rfl;refine gV (λM=>M=zS C d W G F (.o (.k (eW (lW d O u 0)))) (.o (.k (eW (lT C d u 0)))) (.o (.k [])) .n .n .n .n) (λN hN=>hN _ rfl) ?_;rintro _ rfl;refine gV (λM=>∃ pl bi L Z:Sl,M=zS C d W G F (.o (.k (eW (lW d O u W)))) (.o (.k (eW (lT C d u W)))) (.o (.k (eW (ET W)))) pl bi L Z) (λN hN=>?_) ?_
 .refine nR (nL 0 W) _ (λΨ h=>⟨by omega,by omega,h⟩) (λj M=>∃ (ek:Aa (fS×D)) (pl bi L Z:Sl),M=zS C d W G F (.o (.k (eW (lW d O u j)))) (.o (.k (eW (lT C d u j)))) (.o (.k ek)) pl bi L Z/\(0<j->ek=eW (ET j))) ⟨[],.n,.n,.n,.n,rfl,λz=>absurd z (by omega)⟩ ?_ ?_
  .rintro j x M hd ⟨ek,pl,bi,L,Z,rfl,_⟩;obtain⟨hj,rfl⟩:=vH hd;let hS:Sl:=.o (.k (eW (lW d O u j)));let I:Sl:=.o (.k ek);let pS:Sl:=.v (.int (0+(j:Int)));let J (t:mS):Sl:=.o (.k (eW t));refine gV (λM=>M=zS C d W G F hS (J (lT C d u j)) I pS (.o (.k [])) L Z) (λN' Q=>Q _ rfl) ?_;rintro _ rfl;refine gV (λM=>∃ (B:Aa (fS×D)) (L:Sl),M=zS C d W G F hS (J (lT C d u j)) I pS (.o (.k B)) L Z/\rV B C.ins (ab j)/\B.length<=40) (λN' Q=>?_) ?_
   .refine nR (C.ins.map D.str) _ (λΨ h=>⟨rfl,_,rfl,h⟩) (λm M=>∃ (B:Aa (fS×D)) (L:Sl),M=zS C d W G F hS (J (lT C d u j)) I pS (.o (.k B)) L Z/\(∀ x∈C.ins.take m,kR B (Sum.inr x)=some (.int (ab j x)))/\B.length<=m) ⟨[],L,rfl,(λx hx=>by simp at hx),bF _⟩ ?_ ?_
    .rintro m x M hx ⟨B,L,rfl,S,h3⟩;obtain⟨y,hy,rfl⟩:=qI hx;have ym:=aE hy;have hm:m<C.ins.length:=(aL.mp hy).1;have tk:C.ins.take (m+1)=C.ins.take m++[y]:=by rw[cA,hy];rfl
     have fin:∀ i:Int,i=ab j y->∃ (r:Aa (fS×D)) (L:Sl),zS C d W G F hS (J (lT C d u j)) I pS (.o (.k (nN B (Sum.inr y) (.int i)))) (.v (.str y)) Z=zS C d W G F hS (J (lT C d u j)) I pS (.o (.k r)) L Z/\(∀ x∈C.ins.take (m+1),kR r (Sum.inr x)=some (.int (ab j x)))/\r.length<=m+1:=λi hi=>by
      refine⟨_,_,rfl,λx hx=>?_,by have:=xH B (Sum.inr y:fS) (.int i);omega⟩;rw[xB];by_cases e:x=y
      .subst e;rw[aZ rfl,hi]
      .rw[aK (λz=>e (dD z).symm)];rw[tk] at hx;rcases aY.mp hx with q | q
       .exact S x q
       .exact absurd (aW.mp q) e
     unfold Et Op;by_cases q:y∈d.map (·.2)
     .obtain⟨p,hp,rfl⟩:=aD.mp q;have hv:kR (eW (lW d O u j)) (Sum.inr p.2)=some (.int (lU O u j p)):=by
       rw[(rJ _ p.2).1 (by rw[ck];exact q),xC (t:=lW d O u j) (p:=(p.2,lU O u j p)) (by rw[ck];exact R.n2) (aD.mpr ⟨p,hp,rfl⟩)]
      refine⟨some (.int (lU O u j p)),by show some (kR _ (Sum.inr p.2))=_;rw[hv],oI rfl ⟨rfl,.int (lU O u j p),by show some (kR _ (Sum.inr p.2))=_;rw[hv],?_⟩⟩;exact⟨rfl,_,rO (by omega),fin _ (aa.c j hj p hp).symm⟩
     .have hv:kR (eW (lW d O u j)) (Sum.inr y)=none:=((rJ (lW d O u j) y).2 (by rw[ck];exact q)).1;have yw:y∈lJ C d:=aX.mpr ⟨ym,by rw[aP q];rfl⟩;refine⟨none,by show some (kR _ (Sum.inr y))=_;rw[hv],nI rfl ⟨rfl,.int (wf y),by show some (kR G (Sum.inr y))=_;rw[(hw y yw).1],by show (0:Int)<=0+(j:Int);omega,?_⟩⟩;refine⟨rfl,_,rO (by omega),fin _ ?_⟩;rw[aa.w j hj y yw,show ((0:Int)+(j:Int)).toNat=j by omega];exact JF (Int.ediv_nonneg (hw y yw).2 (Int.le_of_lt (kP (by decide))))
    .rintro M ⟨B,L,rfl,S,h3⟩;rw[aA,cG (bF _)] at S;rw[aA] at h3;exact Q _ ⟨B,L,rfl,λx hx=>⟨S x hx,(aa.bits R j hj).1 x hx⟩,by omega⟩
   rintro _ ⟨B,L,rfl,has,bl⟩;refine gV (λM=>∃ Y:Aa (fS×D),M=zS C d W G F hS (J (lT C d u j)) I pS (.v (.k B)) L (.o (.k Y))/\∀ o∈C.outs,kR Y (Sum.inr o)=some (.int (u j o))) (λN' Q=>?_) ?_
   .refine⟨C,B,ab j,rfl,R.gc,bl,has,λY U=>⟨.inl rfl,Q _ ⟨Y,rfl,λo ho=>?_⟩⟩⟩;rw[aa.uu j hj];exact (U o (R.gc.os o ho)).1
   rintro _ ⟨Y,rfl,U⟩;refine gV (λM=>∃ L:Sl,M=zS C d W G F hS (J (lT C d u (j+1))) I pS (.v (.k B)) L (.o (.k Y))) (λN' Q=>?_) ?_
   .let a:Af->Int:=λo=>sN (λj=>2 ^ j*u j o) j
    let a':Af->Int:=λo=>sN (λj=>2 ^ j*u j o) (j+1)
    have u0:pY (hI C d) a a' 0=lT C d u j:=by unfold pY lT;rw[List.take_zero,List.drop_zero];rfl
    have uN:pY (hI C d) a a' (hI C d).length=lT C d u (j+1):=by unfold pY lT;rw[List.take_of_length_le (Nat.le_refl _),List.drop_of_length_le (Nat.le_refl _),List.map_nil,List.append_nil]
    refine nR ((hI C d).map D.str) _ (λΨ h=>?_) (λm M=>∃ L:Sl,M=zS C d W G F hS (J (pY (hI C d) a a' m)) I pS (.v (.k B)) L (.o (.k Y))) ⟨L,by rw[u0]⟩ ?_ ?_
    .have e1:((eW (lT C d u j)).map λp=>sK p.1)=(hI C d).map D.str:=by unfold eW lT;rw[List.map_map,List.map_map];rfl
     refine⟨rfl,?_⟩;show Ψ ((eW (lT C d u j)).map λp=>sK p.1) _;rw[e1];exact h
    .rintro m x M hx ⟨L,rfl⟩;obtain⟨o,ho,rfl⟩:=qI hx;obtain⟨q1,q2⟩:=Lv (tQ (prs:=d) R.gc) (a:=a) (b:=a') ho;have om:=aE ho;have oc:=(aX.mp om).1;have ub:=(aa.bits R j hj).2 o oc;have kl:=cL List.length (yF (hI C d) a a' m);rw[aA] at kl;have ae:o∈(pY (hI C d) a a' m).map (·.1):=by rw[yF];exact om
     refine⟨rfl,.int (a o),?_,rfl,.int (u j o),?_,⟨by omega,by omega,by rcases ub with q | q<;>rw[q]<;>decide⟩,rfl,_,rO (by rw[pB];omega),.v (.str o),?_⟩
     .show some (kR _ (Sum.inr o))=_;rw[(rJ _ o).1 ae,q1]
     .show some (kR Y (Sum.inr o))=_;rw[U o oc]
     .rw[Jk];have:a o+u j o*2 ^ ((0:Int)+(j:Int)).toNat=a' o:=by rw[Uj];rfl
      rw[this,q2];rfl
    .rintro M ⟨L,rfl⟩;rw[aA,uN];exact Q _ ⟨L,rfl⟩
   rintro _ ⟨L,rfl⟩;refine gV (λM=>M=zS C d W G F (.o (.k (eW (lW d O u (j+1))))) (J (lT C d u (j+1))) I pS (.v (.k B)) L (.o (.k Y))) (λN' Q=>?_) ?_
   .unfold mV dC aC;refine mC d mP (λp=>.t [.str p.2,.int (u j p.1)]) (zS C d W G F hS (J (lT C d u (j+1))) I pS (.v (.k B)) L (.o (.k Y))) (λΨ h=>h) (by omega) (λi p ys Nx e S h2=>⟨rfl,rfl,rfl,.int (u j p.1),?_,by show 2<=1000;decide,S,h2⟩) ?_
    .show some (kR Y (Sum.inr p.1))=_;rw[U _ (R.o p (aE e))]
    have e0:oK (d.map λp=>D.t [.str p.2,.int (u j p.1)])=some (eW (lW d O u (j+1))):=by
     rw[qB (g:=λp:Af×Af=>((Sum.inr p.2:fS),D.int (u j p.1))) (λp=>⟨.str p.2,rfl,rfl⟩)];simp[eW,lW,lU]
    refine⟨_,e0,by rw[pB];unfold lW;rw[List.length_map];omega,?_⟩;rw[sH (by rw[ck];exact R.n2)];exact Q _ rfl
   rintro _ rfl;unfold mV dC aC;refine mC d mP (λp=>.t [.str p.1,.int (u j p.1)]) (zS C d W G F (.o (.k (eW (lW d O u (j+1))))) (J (lT C d u (j+1))) I pS (.v (.k B)) L (.o (.k Y))) (λΨ h=>h) (by omega) (λi p ys Nx e S h2=>⟨rfl,rfl,rfl,.int (u j p.1),?_,by show 2<=1000;decide,S,h2⟩) ?_
   .show some (kR Y (Sum.inr p.1))=_;rw[U _ (R.o p (aE e))]
   have e0:oK (d.map λp=>D.t [.str p.1,.int (u j p.1)])=some (eW (ET (j+1))):=by
    rw[qB (g:=λp:Af×Af=>((Sum.inr p.1:fS),D.int (u j p.1))) (λp=>⟨.str p.1,rfl,rfl⟩)];simp[eW,ET,lU]
   refine⟨_,e0,by rw[pB];show (d.map _).length<=_;rw[aA];omega,?_⟩;rw[sH (by show ((d.map λp=>(p.1,lU O u (j+1) p)).map (·.1)).Nodup;rw[aG];exact R.n1)];exact⟨_,_,_,_,_,rfl,λ_=>rfl⟩
  .rintro M ⟨ek,pl,bi,L,Z,rfl,ac⟩;have hz:(nL 0 W).length=W:=by unfold nL;simp
   rw[hz] at ac |-;rw[ac (by omega)];exact hN _ ⟨pl,bi,L,Z,rfl⟩
 rintro _ ⟨pl,bi,L,Z,rfl⟩;exact⟨by show 2<=1000;decide,af⟩
end
theorem L5:(["name"]:Aa Af).Nodup:=by decide +kernel
theorem P0:(["gate"]:Aa Af).Nodup:=by decide +kernel
theorem U6:(["part","names"]:Aa Af).Nodup:=by decide +kernel
theorem D8:(["output","name"]:Aa Af).Nodup:=by decide +kernel
theorem Vt:(["name","first"]:Aa Af).Nodup:=by decide +kernel
theorem FX:(["name","second","taken"]:Aa Af).Nodup:=by decide +kernel
theorem R5:(["name","first","gone"]:Aa Af).Nodup:=by decide +kernel
theorem GL:(["name","second"]:Aa Af).Nodup:=by decide +kernel
theorem Mq:(["output","name","first"]:Aa Af).Nodup:=by decide +kernel
theorem N0:(["output","name","second"]:Aa Af).Nodup:=by decide +kernel
def Ef:RD:=λh e f=>∃ C c b d a,e=[kS C c,kS b d,.t (a.map mP)]/\RG C c/\RG b d/\PrsOk (hI C c) (lJ b d) a/\a.length<=40/\f (.v (kS (jC C b a) (jP c d a)))
theorem Qw (h:p.2∉g.map (·.2)) (x:Af):kU (g++[p]) x=if p.2=x then fA p.1 else kU g x:=by
 unfold kU;rw[List.find?_append];by_cases q:p.2=x
 .have:g.find? (λp=>decide (p.2=x))=none:=gK.mpr λy a z=>h (by rw[q,<- cR z];exact aU a)
  rw[aZ q,this,Option.none_or,cX,aV q];rfl
 .rw[aK q,cX,aP q,List.find?_nil,Option.or_none]
abbrev uS (C:Cel) (T:Aa (Af×Af)) (J:Cel) (U ps:Aa (Af×Af)) (s3 s4 s5 s6 s7 s8 s9 g j l o p r I:Sl):Aa Sl:=[.v (kS C T),.v (kS J U),.v (.t (ps.map mP)),s3,s4,s5,s6,s7,s8,s9,g,j,l,o,p,r,I]
theorem yH (C D:Cel) (g:Aa (Af×Af)):(jC C D g).outs=(C.outs.filter λx=>!decide (x∈g.map (·.1))).map fA++D.outs.map (kU g):=by
 show sI (C.outs.map fA) (oN g)++D.outs.map (kU g)=_
 congr 1
 unfold sI;rw[jU];refine cL (List.map fA) (iX λx _=>?_);have:fA x∈oN g↔x∈g.map (·.1):=by
  constructor
  .intro z;obtain⟨p,a,e⟩:=aD.mp z;exact aD.mpr ⟨p,a,qT e⟩
  .intro z;obtain⟨p,a,rfl⟩:=aD.mp z;exact aD.mpr ⟨p,a,rfl⟩
 simp only[Function.comp,this]
theorem Ht (C D:Cel) (g:Aa (Af×Af)):(jC C D g).ins=C.ins.map fA++(D.ins.filter λx=>!decide (x∈g.map (·.2))).map (kU g):=by
 rw[vC]
 congr 1
 exact (bZ λx a=>sZ (by have:=(aX.mp a).2;simpa using this)).symm
section
variable {P:Ah}{K:kQ}
theorem pK:FnScope ["one","other","pairs","first","second","output","name","gates","names","row","word","some","taken","gone","inputs","outputs","along"] ["one","other","pairs"] (lQ yI):=mO
theorem BI (T:Txt mg):mM P w K mg base 1 "_law_due_row" yI ["one","other","pairs"] Ef:=by
 refine mT pK λf ak A af s H E dk ds Φ hr u hR=>?_
 obtain⟨C,S,b,r,a,rfl,h1,h2,pk,lp,ac⟩:=hR;refine⟨_,(gD (kZ 3 pK.nd (lZ (pU rfl) pR T.dict bQ (dK (mF ["name"] [] [] (lK (kT lO lM (lZ yP zU T.list dY (dK (lV u (hB u 0 eI) eI) eJ)) (mF ["gate"] [] [] (lK (lV u (hB u 0 eI) eI)) (λ_ _ _ _ _=>(hO 0 P0)) (λ_ _ _ _ _=>(hB u 0 eI))))) (λ_ _ _ _ _=>(hO 0 L5)) (λ_ _ _ _ _=>(lI (dK (eH 0) (dK (kT lO lM mJ (eH 0)) eJ))))) eJ))) (gD (kZ 4 pK.nd (lZ (pU rfl) pR T.dict bQ (dK (mF ["name"] [] [] (lK (kT lO lM (lZ yP zU T.list dY (dK (lV u (hB u 1 eI) eI) eJ)) (mF ["gate"] [] [] (lK (lV u (hB u 1 eI) eI)) (λ_ _ _ _ _=>(hO 0 P0)) (λ_ _ _ _ _=>(hB u 0 eI))))) (λ_ _ _ _ _=>(hO 0 L5)) (λ_ _ _ _ _=>(lI (dK (eH 0) (dK (kT lO lM mJ (eH 0)) eJ))))) eJ))) (gD (oE (lK (eH 2)) (nK (n:=2) rfl (lL (hO 5 pK.nd) (lL (hO 6 pK.nd) nJ))) (kX (sF (n:=4) u (kT lO lM mJ (eH 5)) (pv 4) (eH 6)))) (gD (kZ 7 pK.nd (qR eJ)) (gD (oE (lK (lI (dK (lI (dK (eH 3) (dK (eH 0) eJ))) (dK (lI (dK (eH 4) (dK (eH 1) eJ))) eJ)))) (nK (n:=2) rfl (lL (hO 8 pK.nd) (lL (hO 9 pK.nd) nJ))) (kX (oE (lK (lV u (hB u 9 eI) eI)) (nK (n:=3) rfl (lL (hO 6 pK.nd) (lL (hO 10 pK.nd) (lL (hO 11 pK.nd) nJ)))) (kX (oV (qE bW cE cF sO tX (pv 7) (dK (lI (dK (hB u 8 (eH 6)) (dK (eH 10) (dK (lZ pT pM T.tuple bN (dK (mF ["part"] ["names"] [8] (lK (eH 11)) (λ_ _ _ _ _=>(hO 0 U6)) (λ_ _ _ _ _=>(hB u 1 (eH 0)))) eJ)) eJ)))) eJ))))))) (gD (kZ 12 pK.nd (mF ["output","name"] [] [] (lK (eH 2)) (λ_ _ _ _ _=>(nK (n:=2) rfl (lL (hO 0 D8) (lL (hO 1 D8) nJ)))) (λ_ _ _ _ _=>(eH 1)))) (gD (kZ 13 pK.nd (mF ["output","name"] [] [] (lK (eH 2)) (λ_ _ _ _ _=>(nK (n:=2) rfl (lL (hO 0 D8) (lL (hO 1 D8) nJ)))) (λ_ _ _ _ _=>(eH 0)))) (gD (vJ 14 ["name"] ["first"] [3] pK.nd (lK (lV u (hB u 0 eI) eI)) (λ_ _ _ _ _=>(hO 0 Vt)) (λ_ _ _ _ _=>(hB u 1 (eH 0)))) (gD (kZ 14 pK.nd (mK lO lM 14 (mF ["name"] ["second","taken"] [4,12] (lK (lV u (hB u 1 eI) eI)) (λ_ _ _ _ _=>(hO 0 FX)) (λ_ _ _ _ _=>(hB u 1 (eH 0))) (ht:=λ_ _ _ _ _=>(uI (vK (rF u) (qQ true) (eH 0) (pv 2))))))) (gD (vJ 15 ["name"] ["first","gone"] [3,13] pK.nd (lK (lV u (hB u 0 eI) eI)) (λ_ _ _ _ _=>(hO 0 R5)) (λ_ _ _ _ _=>(hB u 1 (eH 0))) (ht:=λ_ _ _ _ _=>(uI (vK (rF u) (qQ true) (eH 0) (pv 2))))) (gD (kZ 15 pK.nd (mK lO lM 15 (mF ["name"] ["second"] [4] (lK (lV u (hB u 1 eI) eI)) (λ_ _ _ _ _=>(hO 0 GL)) (λ_ _ _ _ _=>(hB u 1 (eH 0)))))) (gD (vJ 16 ["output","name"] ["first"] [3] pK.nd (lK (hB u 0 eI)) (λ_ _ _ _ _=>(nK (n:=2) rfl (lL (hO 0 Mq) (lL (hO 1 Mq) nJ)))) (λ_ _ _ _ _=>(lI (dK (hB u 2 (eH 0)) (dK (hB u 2 (eH 1)) eJ))))) (gD (kZ 16 pK.nd (mK lO lM 16 (mF ["output","name"] ["second"] [4] (lK (hB u 1 eI)) (λ_ _ _ _ _=>(nK (n:=2) rfl (lL (hO 0 N0) (lL (hO 1 N0) nJ)))) (λ_ _ _ _ _=>(lI (dK (hB u 2 (eH 0)) (dK (hB u 2 (eH 1)) eJ))))))) (kX (lX (lI (dK (lI (dK (lZ pT pM T.tuple bN (dK (eH 14) eJ)) (dK (lZ pT pM T.tuple bN (rA (pv 7) eJ)) (dK (lZ pT pM T.tuple bN (dK (eH 15) eJ)) eJ)))) (dK (lZ pT pM T.tuple bN (dK (eH 16) eJ)) eJ)))))))))))))))))),?_⟩;have a1:=h1.gc.li;have a2:=h1.gc.lg;have a3:=h1.gc.lo;have c1:=h2.gc.li;have c2:=h2.gc.lg;have c3:=h2.gc.lo;have d1:=h1.lp;have d2:=h2.lp;have lN:C.names.length<=80:=by unfold Cel.names;rw[List.length_append,List.length_map];omega
 have an:b.names.length<=80:=by unfold Cel.names;rw[List.length_append,List.length_map];omega
 have ag:∀ p∈a,p.1∈C.names:=λp hp=>h1.gc.os _ (aX.mp (pk.m p hp).1).1
 have en:∀ C:Cel,C.ins.map D.str++C.gates.map (λg=>D.str g.1)=C.names.map D.str:=λC=>by unfold Cel.names;rw[List.map_append,List.map_map];rfl
 refine gV (λc=>∃ Y,(∀ x∈C.names,kR Y (Sum.inr x)=some (.str (fA x)))/\c=uS C S b r a (.o (.k Y)) .n .n .n .n .n .n .n .n .n .n .n .n .n) (λN R=>?_) ?_
 .unfold mV dC aC;refine mC C.names D.str (λn=>.t [.str n,.str ("a" ++ n)]) (uS C S b r a .n .n .n .n .n .n .n .n .n .n .n .n .n .n) (λΨ h=>?_) (by omega) (λi n ys Nx e W X=>?_) ?_
  .refine⟨rfl,_,rfl,_,rfl,_,rfl,?_⟩;refine mC C.gates lY (λg=>D.str g.1) _ (λΨ h=>⟨rfl,_,rfl,_,rfl,h⟩) (by omega) (λi x ys Nx e W X=>⟨rfl,_,rfl,W,X⟩) ?_;rw[<- en] at h;exact⟨by simp;omega,h⟩
  .have:=(h1.az n (aE e)).hi;exact⟨by show 1+n.length<=100000;omega,by show 2<=1000;decide,W,X⟩
  have e0:oK (C.names.map λn=>D.t [.str n,.str ("a" ++ n)])=some (oG "a" C.names):=by
   rw[qB (g:=λn=>((Sum.inr n:fS),D.str ("a" ++ n))) (λn=>⟨.str n,rfl,rfl⟩)];rfl
  refine⟨_,e0,by unfold oG;rw[List.length_map];omega,R _ ⟨_,λx hx=>?_,rfl⟩⟩;rw[vV _ _ (Cm h1.gc.nd),yS hx];rfl
 rintro _ ⟨Z,v1,rfl⟩;refine gV (λc=>∃ Y,(∀ x∈b.names,kR Y (Sum.inr x)=some (.str (kU [] x)))/\Y.length<=80/\c=uS C S b r a (.o (.k Z)) (.o (.k Y)) .n .n .n .n .n .n .n .n .n .n .n .n) (λN R=>?_) ?_
 .unfold mV dC aC;refine mC b.names D.str (λn=>.t [.str n,.str ("b" ++ n)]) (uS C S b r a (.o (.k Z)) .n .n .n .n .n .n .n .n .n .n .n .n .n) (λΨ h=>?_) (by omega) (λi n ys Nx e W X=>?_) ?_
  .refine⟨rfl,_,rfl,_,rfl,_,rfl,?_⟩;refine mC b.gates lY (λg=>D.str g.1) _ (λΨ h=>⟨rfl,_,rfl,_,rfl,h⟩) (by omega) (λi x ys Nx e W X=>⟨rfl,_,rfl,W,X⟩) ?_;rw[<- en] at h;exact⟨by simp;omega,h⟩
  .have:=(h2.az n (aE e)).hi;exact⟨by show 1+n.length<=100000;omega,by show 2<=1000;decide,W,X⟩
  have e0:oK (b.names.map λn=>D.t [.str n,.str ("b" ++ n)])=some (oG "b" b.names):=by
   rw[qB (g:=λn=>((Sum.inr n:fS),D.str ("b" ++ n))) (λn=>⟨.str n,rfl,rfl⟩)];rfl
  refine⟨_,e0,by unfold oG;rw[List.length_map];omega,R _ ⟨_,λx hx=>?_,?_,rfl⟩⟩
  .rw[vV _ _ (Cm h2.gc.nd),yS hx];rfl
  .have:=Aq (oG "b" b.names) [];rw[eG] at this;have l3:(oG "b" b.names).length=b.names.length:=by unfold oG;rw[List.length_map]
   omega
 rintro _ ⟨ae,v0,l0,rfl⟩;refine gV (λc=>∃ Y J Q,(∀ x∈b.names,kR Y (Sum.inr x)=some (.str (kU a x)))/\c=uS C S b r a (.o (.k Z)) (.o (.k Y)) J Q .n .n .n .n .n .n .n .n .n .n) (λN R=>?_) ?_
 .refine nR (a.map mP) _ (λΨ h=>h) (λi c=>∃ Y J Q,(∀ x∈b.names,kR Y (Sum.inr x)=some (.str (kU (a.take i) x)))/\Y.length<=80+i/\c=uS C S b r a (.o (.k Z)) (.o (.k Y)) J Q .n .n .n .n .n .n .n .n .n .n) ⟨ae,.n,.n,v0,by omega,rfl⟩ ?_ ?_
  .rintro i x c hx ⟨Y,J,Q,v,l,rfl⟩;obtain⟨p,hp,rfl⟩:=qI hx;have pm:=aE hp;have hi:=(aL.mp hp).1;have aq:=(h1.az _ (ag p pm)).hi;have et:a.take (i+1)=a.take i++[p]:=by rw[cA,hp];rfl
   have hn:p.2∉(a.take i).map (·.2):=λq=>by
    have:=pk.n2.sublist ((fG (i+1) a).map (·.2));rw[et,aF] at this;exact (bC.mp this).2.2 _ q _ (aW.mpr rfl) rfl
   refine⟨rfl,rfl,by show 1+p.1.length<=100000;omega,rfl,_,rO (by omega),_,_,_,λx hx=>?_,?_,rfl⟩
   .rw[xB,et,Qw hn];by_cases q:p.2=x
    .rw[aZ (by rw[q]),aZ q];rfl
    .rw[aK λz=>q (dD z),aK q,v x hx]
   .have:=xH Y (Sum.inr p.2:fS) (.str ("a" ++ p.1));omega
  .rintro c ⟨Y,J,Q,v,l,rfl⟩;rw[aA,cN] at v;exact R _ ⟨Y,J,Q,v,rfl⟩
 rintro _ ⟨U,J,Q,v2,rfl⟩;refine gV (λc=>c=uS C S b r a (.o (.k Z)) (.o (.k U)) J Q (.o (.l [])) .n .n .n .n .n .n .n .n .n) (λN R=>⟨by show 0<=1000;decide,R _ rfl⟩) ?_;rintro _ rfl;let G (gs:Aa (Af×Af×Aa Af)):Sl:=.o (.l (gs.map lY));let K1:Sl:=.v (.k Z);let K2:Sl:=.v (.k U);refine gV (λc=>∃ Q s8 s9 F M,c=uS C S b r a K1 K2 J Q (G (C.gates.map (nB fA)++b.gates.map (nB (kU a)))) s8 s9 F M .n .n .n .n .n) (λN R=>?_) ?_
 .let L:Aa (Aa (fS×D)×Cel×Aa (Af×Af)×(Af->Af)):=[(Z,C,S,fA),(U,b,r,kU a)];have hL:∀ q∈L,GC q.2.1/\∀ x∈q.2.1.names,kR q.1 (Sum.inr x)=some (.str (q.2.2.2 x)):=λq hq=>by
   rcases aI.mp hq with rfl | hq
   .exact⟨h1.gc,v1⟩
   .rw[aW.mp hq];exact⟨h2.gc,v2⟩
  let eL:Aa (fS×D)×Cel×Aa (Af×Af)×(Af->Af)->D:=λq=>D.t [.k q.1,kS q.2.1 q.2.2.1]
  let gl (i:Nat):Aa (Af×Af×Aa Af):=(L.take i).flatMap λq=>q.2.1.gates.map (nB q.2.2.2)
  refine nR (L.map eL) (uS C S b r a K1 K2 J Q (G []) .n .n .n .n .n .n .n .n .n) (λΨ h=>⟨by show 2<=1000;decide,by show 2<=1000;decide,by show 2<=1000;decide,h⟩) (λi c=>∃ Q s8 s9 F M,c=uS C S b r a K1 K2 J Q (G (gl i)) s8 s9 F M .n .n .n .n .n) ⟨_,_,_,_,_,rfl⟩ ?_ ?_
  .rintro i x c hx ⟨Q,s8,s9,F,M,rfl⟩;obtain⟨⟨Y,C',p',f⟩,hq,rfl⟩:=qI hx;obtain⟨gc,hv⟩:=hL _ (aE hq);have lg:C'.gates.length<=40:=gc.lg;have eg:gl (i+1)=gl i++C'.gates.map (nB f):=by
    show ((L.take (i+1)).flatMap _)=_;rw[cA,hq,jX];show _++[(Y,C',p',f)].flatMap _=_;rw[List.flatMap_singleton]
   have ao:(gl i).length<=80:=by
    have e:∀ (L:Aa (Aa (fS×D)×Cel×Aa (Af×Af)×(Af->Af))) n,(∀ q∈L,q.2.1.gates.length<=40)->((L.take n).flatMap λq=>q.2.1.gates.map (nB q.2.2.2)).length<=40*L.length:=by
     intro L;induction L with
     | nil=>intro n _;simp
     | cons q L ih =>
      intro n hq;cases n with
      | zero=>simp
      | succ n =>
       have h1:=ih n λy hy=>hq y (bD _ hy)
       have h2:=hq q aT;rw[List.take_succ_cons,List.flatMap_cons,aO,aA,dO];omega
    have:=e L i λq hq=>(hL q hq).1.lg
    exact this
   refine⟨rfl,rfl,?_⟩;refine nR (C'.gates.map lY) (uS C S b r a K1 K2 J Q (G (gl i)) (.v (.k Y)) (.v (kS C' p')) F M .n .n .n .n .n) (λΨ h=>⟨rfl,_,rfl,_,rfl,h⟩) (λj c=>∃ Q F M,c=uS C S b r a K1 K2 J Q (G (gl i++(C'.gates.take j).map (nB f))) (.v (.k Y)) (.v (kS C' p')) F M .n .n .n .n .n) ⟨Q,F,M,by rw[iU,gH,cD]⟩ ?_ ?_
   .rintro j x c hx ⟨Q,F,M,rfl⟩;obtain⟨g,hg,rfl⟩:=qI hx;have gm:=aE hg;have hj:=(aL.mp hg).1;obtain⟨r1,r2⟩:=gc.gt.at hg;have hs:∀ p∈g.2.2,p∈C'.names:=λp q=>by
     rcases aY.mp (r2 p q) with z | z
     .exact aM _ z
     .obtain⟨y,hy,rfl⟩:=aD.mp z;exact aJ _ (aU (hG hy))
    have l3:=L4 r1;refine⟨rfl,rfl,rfl,rfl,.str (f g.1),by show some (kR Y (Sum.inr g.1))=_;rw[hv g.1 (aJ _ (aU gm))],?_⟩;refine Wc (i:=10) (d:=.str g.2.1) rfl ?_;unfold dC aC;refine mC g.2.2 D.str (λx=>D.str (f x)) (uS C S b r a K1 K2 J (.v (.str g.1)) (G (gl i++(C'.gates.take j).map (nB f))) (.v (.k Y)) (.v (kS C' p')) (.v (.str g.2.1)) (.v (.t (g.2.2.map D.str))) .n .n .n .n .n) (λΨ h=>h) (by omega) (λk x ys Nx e W X=>⟨rfl,.str (f x),by show some (kR Y (Sum.inr x))=_;rw[hv x (hs x (aE e))],W,X⟩) ?_;refine⟨by show 3<=1000;decide,?_,.v (.str g.1),.v (.str g.2.1),.v (.t (g.2.2.map D.str)),?_⟩
    .show (List.map lY _).length<100000;rw[aA,aO,aA,cC];omega
    .have e2:(gl i++(C'.gates.take (j+1)).map (nB f)).map lY=(gl i++(C'.gates.take j).map (nB f)).map lY++[D.t [.str (f g.1),.str g.2.1,.t (g.2.2.map λx=>D.str (f x))]]:=by
      rw[cA,hg,aF (f:=nB f),<- bB,aF (f:=lY) (l₁:=gl i++(C'.gates.take j).map (nB f))]
      congr 1
      show [lY (nB f g)]=_;unfold lY nB;dsimp only;rw[aG];rfl
     show _=uS C S b r a K1 K2 J _ (.o (.l ((gl i++(C'.gates.take (j+1)).map (nB f)).map lY))) _ _ _ _ _ _ _ _ _;rw[e2];rfl
   .rintro c ⟨Q,F,M,rfl⟩;rw[aA,cN];exact⟨_,_,_,_,_,by rw[eg]⟩
  .rintro c ⟨Q,s8,s9,F,M,rfl⟩;refine R _ ⟨Q,s8,s9,F,M,?_⟩;have:gl (L.map eL).length=C.gates.map (nB fA)++b.gates.map (nB (kU a)):=by
    rw[aA];show (L.take L.length).flatMap _=_;rw[cN];simp[L]
   rw[this]
 rintro _ ⟨Q,s8,s9,F,M,rfl⟩;let g:Sl:=G (C.gates.map (nB fA)++b.gates.map (nB (kU a)));let tk:Aa Af:=a.map (·.2);let gn:Aa Af:=a.map (·.1);have aa:(a.map λp=>D.str p.1)=(a.map (·.1)).map D.str:=by rw[aG];rfl
 have ab:(a.map λp=>D.str p.2)=(a.map (·.2)).map D.str:=by rw[aG];rfl
 let FO:Aa Af:=C.outs.filter λx=>!decide (x∈a.map (·.1))
 refine gV (λc=>c=uS C S b r a K1 K2 J Q g s8 s9 F M (.o (.l (tk.map D.str))) .n .n .n .n) (λN R=>?_) ?_
 .unfold mV;refine mC a mP (λp=>D.str p.2) _ (λΨ h=>h) (by omega) (λi p ys Nx e W X=>⟨rfl,rfl,W,X⟩) (R _ ?_);rw[ab];rfl
 rintro _ rfl;refine gV (λc=>c=uS C S b r a K1 K2 J Q g s8 s9 F M (.o (.l (tk.map D.str))) (.o (.l (gn.map D.str))) .n .n .n) (λN R=>?_) ?_
 .unfold mV;refine mC a mP (λp=>D.str p.1) _ (λΨ h=>h) (by omega) (λi p ys Nx e W X=>⟨rfl,rfl,W,X⟩) (R _ ?_);rw[aa];rfl
 rintro _ rfl;let T1:Sl:=.o (.l (tk.map D.str));let T2:Sl:=.o (.l (gn.map D.str));let B (ah ai aj:Sl):Aa Sl:=uS C S b r a K1 K2 J Q g s8 s9 F M T1 T2 ah ai aj;refine gV (λc=>c=B (.o (.l ((C.ins.map fA).map D.str))) .n .n) (λN R=>?_) ?_
 .unfold mV;refine mC C.ins D.str (λx=>D.str (fA x)) (B .n .n .n) (λΨ h=>⟨rfl,_,rfl,_,rfl,h⟩) (by omega) (λi x ys Nx e W X=>⟨rfl,.str (fA x),by show some (kR Z (Sum.inr x))=_;rw[v1 x (aM _ (aE e))],W,X⟩) (R _ ?_);rw[aG];rfl
 rintro _ rfl;refine gV (λc=>c=B (.o (.l ((jC C b a).ins.map D.str))) .n .n) (λN R=>?_) ?_
 .refine⟨rfl,?_⟩;refine sV b.ins D.str (λx=>D.str (kU a x)) (λx=>!decide (x∈tk)) (B (.o (.l ((C.ins.map fA).map D.str))) .n .n) (λΨ h=>⟨rfl,_,rfl,_,rfl,h⟩) (by omega) (λi x ys Nx e W X q3=>?_) ?_
  .refine⟨.str x,tk.map V.str,rfl,qU _,?_⟩;rw[qC];show if (!decide (x∈tk))=true then _ else _
   by_cases q:x∈tk
   .exact nI (by rw[aV q];rfl) (q3 (by rw[aV q];rfl))
   .exact oI (by rw[aP q];rfl) ⟨rfl,.str (kU a x),by show some (kR U (Sum.inr x))=_;rw[v2 x (aM _ (aE e))],W,X (by rw[aP q];rfl)⟩
  refine⟨by simp only[aA];exact Nat.le_trans (Nat.add_le_add_left (bU _ _) _) (by omega),R _ ?_⟩;rw[Ht,aF,aG (g:=D.str) (f:=kU a)];rfl
 rintro _ rfl;let I:Sl:=.o (.l ((jC C b a).ins.map D.str));refine gV (λc=>c=B I (.o (.l ((FO.map fA).map D.str))) .n) (λN R=>?_) ?_
 .unfold mV;refine sV C.outs D.str (λx=>D.str (fA x)) (λx=>!decide (x∈gn)) (B I .n .n) (λΨ h=>⟨rfl,_,rfl,_,rfl,h⟩) (by omega) (λi x ys Nx e W X q3=>?_) (R _ ?_)
  .refine⟨.str x,gn.map V.str,rfl,qU _,?_⟩;rw[qC];show if (!decide (x∈gn))=true then _ else _
   by_cases q:x∈gn
   .exact nI (by rw[aV q];rfl) (q3 (by rw[aV q];rfl))
   .exact oI (by rw[aP q];rfl) ⟨rfl,.str (fA x),by show some (kR Z (Sum.inr x))=_;rw[v1 x (h1.gc.os x (aE e))],W,X (by rw[aP q];rfl)⟩
  rw[aG];rfl
 rintro _ rfl;refine gV (λc=>c=B I (.o (.l ((jC C b a).outs.map D.str))) .n) (λN R=>?_) ?_
 .refine⟨rfl,?_⟩;refine mC b.outs D.str (λx=>D.str (kU a x)) (B I (.o (.l ((FO.map fA).map D.str))) .n) (λΨ h=>⟨rfl,_,rfl,_,rfl,h⟩) (by omega) (λi x ys Nx e W X=>⟨rfl,.str (kU a x),by show some (kR U (Sum.inr x))=_;rw[v2 x (h2.gc.os x (aE e))],W,X⟩) ?_;have lf:FO.length<=C.outs.length:=bU ..;refine⟨by simp only[aA];omega,R _ ?_⟩;rw[yH,aF,aG (g:=D.str) (f:=kU a)];rfl
 rintro _ rfl;let O:Sl:=.o (.l ((jC C b a).outs.map D.str));refine gV (λc=>c=B I O (.o (.l ((oQ fA S).map mP)))) (λN R=>?_) ?_
 .unfold mV;refine mC S mP (λp=>D.t [.str (fA p.1),.str (fA p.2)]) (B I O .n) (λΨ h=>⟨rfl,_,rfl,h⟩) (by omega) (λi p ys Nx e W X=>?_) (R _ ?_)
  .have pm:=h1.m p (aE e);exact⟨rfl,rfl,rfl,.str (fA p.1),by show some (kR Z (Sum.inr p.1))=_;rw[v1 _ (h1.gc.os _ pm.1)],rfl,.str (fA p.2),by show some (kR Z (Sum.inr p.2))=_;rw[v1 _ (aM _ pm.2)],by show 2<=1000;decide,W,X⟩
  .unfold oQ;rw[List.map_map];rfl
 rintro _ rfl;refine gV (λc=>c=B I O (.o (.l ((jP S r a).map mP)))) (λN R=>?_) ?_
 .refine⟨rfl,?_⟩;refine mC r mP (λp=>D.t [.str (kU a p.1),.str (kU a p.2)]) (B I O (.o (.l ((oQ fA S).map mP)))) (λΨ h=>⟨rfl,_,rfl,h⟩) (by omega) (λi p ys Nx e W X=>?_) ?_
  .have pm:=h2.m p (aE e);exact⟨rfl,rfl,rfl,.str (kU a p.1),by show some (kR U (Sum.inr p.1))=_;rw[v2 _ (h2.gc.os _ pm.1)],rfl,.str (kU a p.2),by show some (kR U (Sum.inr p.2))=_;rw[v2 _ (aM _ pm.2)],by show 2<=1000;decide,W,X⟩
  have l1:((oQ fA S).map mP).length=S.length:=by unfold oQ;rw[List.length_map,List.length_map]
  refine⟨by rw[l1,aA];omega,R _ ?_⟩;show _=B I O (.o (.l ((oQ fA S++oQ (kU a) r).map mP)));rw[aF];have:(oQ (kU a) r).map mP=r.map λp=>D.t [.str (kU a p.1),.str (kU a p.2)]:=by unfold oQ;rw[List.map_map];rfl
  rw[this];rfl
 rintro _ rfl;exact⟨rfl,by show 3<=1000;decide,by show 2<=1000;decide,ac⟩
end
theorem Tl:(["gate"]:Aa Af).Nodup:=by decide +kernel
theorem FW:(["name"]:Aa Af).Nodup:=by decide +kernel
def Gf:RD:=λi f h=>∃ C d c e a,f=[kS C d,kS c e,.t (a.map mP)]/\RG C d/\RG c e/\PrsOk (hI C d) (lJ c e) a/\a.length<=40/\∀ b,(b=true↔¬ Fits (jC C c a) (jP d e a))->h (.v (.b b))
theorem T7 (a b:Bool) (j:Aa Sl) (r:∀ g:Bool->Aa Sl->Prop,g a l->t o l g) (C:∀ g:Bool->Aa Sl->Prop,g b j->u o l g) (I:a=true->p true l) (J:a=false->p b j):Bx t u o l p:=by
 unfold Bx;refine r _ ?_;cases a
 .exact C _ (J rfl)
 .exact I rfl
theorem Iu (a b:Bool) (o:∀ g:Sl->Aa Sl->Prop,g (.v (.b a)) j->t l j g) (p:∀ g:Sl->Aa Sl->Prop,g (.v (.b b)) j->u l j g) (k:r (.v (.b (a||b))) j):G3 t u l j r:=by
 unfold G3;refine o _ ?_;cases a
 .exact p _ k
 .exact k
section
variable {P:Ah}{K:kQ}
theorem Jv:FnScope ["one","other","pairs","row","names"] ["one","other","pairs"] (lQ Ay):=mO
theorem Za (T:Txt mg) (j:Kn P w K mg base 1 "_law_due_row" yI ["one","other","pairs"] Ef):mM P w K mg base 2 "_law_great" Ay ["one","other","pairs"] Gf:=by
 refine mT Jv λf aa A Z s H E dk ds Φ U d hR=>?_
 obtain⟨C,R,k,S,c,rfl,M,G,pk,lp,L⟩:=hR;refine⟨_,(gD (kZ 3 Jv.nd (lD j U (dK (eH 0) (dK (eH 1) (dK (eH 2) eJ))))) (gD (kZ 4 Jv.nd (kT lO lM (lZ yP zU T.list dY (dK (lV d (hB d 3 eI) eI) eJ)) (mF ["gate"] [] [] (lK (lV d (hB d 3 eI) eI)) (λ_ _ _ _ _=>(hO 0 Tl)) (λ_ _ _ _ _=>(hB d 0 eI))))) (gD (nW (vO (yK (vK (J2 d) (qQ false) mJ (pv 4)) (B4 (rY (G5 U.units) (rZ true) (mF ["name"] [] [] (lK (eH 4)) (λ_ _ _ _ _=>(hO 0 FW)) (λ_ _ _ _ _=>(eH 0)) (ht:=λ_ _ _ _ _=>(uI (rY uT uO (nF pJ pN T.len cH (dK (eH 0) eJ)) eI)))) (qR eJ))))) (kX (lX yY)) nT) (kX (lX (F0 (xZ uT uO (nF pJ pN T.len cH (dK (lV d (hB d 3 eI) eI) eJ)) eI) (F0 (xZ uT uO (nF pJ pN T.len cH (dK (lV d (hB d 3 eI) eI) eJ)) eI) (F0 (xZ uT uO (nF pJ pN T.len cH (dK (lV d (hB d 3 eI) eI) eJ)) eI) (W9 (xZ uT uO (nF pJ pN T.len cH (dK (hB d 3 eI) eJ)) eI)))))))))),?_⟩;let b:Aa Sl:=[.v (kS C R),.v (kS k S),.v (.t (c.map mP))];refine gV (λW=>W=b++[.v (kS (jC C k c) (jP R S c)),.n]) (λN O=>⟨C,R,k,S,c,rfl,M,G,pk,lp,.inl rfl,O _ rfl⟩) ?_;rintro _ rfl;have jl:(jC C k c).ins.length<=80/\(jC C k c).gates.length<=80/\(jC C k c).outs.length<=80/\(jP R S c).length<=80:=by
  have a1:=M.gc.li;have a2:=M.gc.lg;have a3:=M.gc.lo;have c1:=G.gc.li;have c2:=G.gc.lg;have c3:=G.gc.lo;have d1:=M.lp;have d2:=G.lp;have f1:=bU (λx=>!decide (x∈c.map (·.2))) k.ins;have f2:=bU (λx=>!decide (x∈c.map (·.1))) C.outs;refine⟨by rw[Ht,aO,aA,aA];exact Nat.le_trans (Nat.add_le_add_left (bU _ _) _) (by omega),?_,by rw[yH,aO,aA,aA];exact Nat.le_trans (Nat.add_le_add_right (bU _ _) _) (by omega),?_⟩
  .show ((qS fA C).gates++(qS (kU c) k).gates).length<=80;unfold qS;rw[List.length_append,List.length_map,List.length_map];omega
  .unfold jP oQ;rw[List.length_append,List.length_map,List.length_map];omega
 have jz:∀ x∈(jC C k c).names,x.length<=1000:=λx Q=>by
  have pin:∀ p∈c,p.2∈k.ins:=λp hp=>(aX.mp (pk.m p hp).2).1
  rcases Fo G.gc.nd pin Q with⟨y,Y,rfl⟩ | ⟨y,Y,_,rfl⟩
  .have:=(M.az y Y).hi;rw[Z6];omega
  .have:=(G.az y Y).hi;rw[AU];omega
 generalize jC C k c=J at *;generalize jP R S c=X at *;obtain⟨l1,l2,l3,l4⟩:=jl;have lN:J.names.length<=160:=by unfold Cel.names;rw[List.length_append,List.length_map];omega
 refine gV (λW=>W=b++[.v (kS J X),.o (.l (J.names.map D.str))]) (λN O=>?_) ?_
 .refine⟨rfl,_,rfl,_,rfl,_,rfl,?_⟩;refine mC J.gates lY (λg=>D.str g.1) _ (λu h=>⟨rfl,_,rfl,_,rfl,h⟩) (by omega) (λi x ys Nx e r I=>⟨rfl,_,rfl,r,I⟩) ?_;refine⟨by simp;omega,O _ ?_⟩;unfold Cel.names;rw[List.map_append,List.map_map];rfl
 rintro _ rfl;let F:Aa Af:=J.names.filter λx=>decide ((x.length:Int)>8)
 have ab:F.length<=J.names.length:=bU ..;refine gV (λW=>(("and" : Af)∉J.names/\F=[])/\∃ s,W=b++[.v (kS J X),s]) (λN O=>?_) ?_
 .refine T7 (decide (("and" : Af)∈J.names)) (decide (F≠[])) (b++[.v (kS J X),.v (.l (J.names.map D.str))]) (λu h=>?_) (λu h=>?_) (λz=>?_) (λz=>?_)
  .refine⟨.str "and",J.names.map V.str,rfl,qU _,?_⟩;rw[qC];exact h
  .unfold wO d2;refine sV J.names D.str D.str (λx=>decide ((x.length:Int)>8)) _ (λu h=>h) (by omega) (λi x ys Nx e r I q3=>?_) ?_
   .refine⟨aV (by have:=jz x (aE e);omega),_,rfl,?_⟩;by_cases q:(x.length:Int)>8
    .exact oI (aV q) ⟨r,I (aV q)⟩
    .exact nI (aP q) (q3 (aP q))
   .refine⟨by show 0<=1000;decide,?_⟩;have:nb true (F.map D.str).isEmpty=decide (F≠[]):=by cases F<;>rfl
    show u (nb true (F.map D.str).isEmpty) _;rw[this];exact h
  .refine oI rfl (L true ⟨λ_ B=>B.n (cR z),λ_=>rfl⟩)
  .by_cases q:F=[]
   .exact nI (by simp[q]) (O _ ⟨⟨of_decide_eq_false z,q⟩,_,rfl⟩)
   .refine oI (aV q) (L true ⟨λ_ B=>q (List.filter_eq_nil_iff.mpr λx Q=>?_),λ_=>rfl⟩);have:=B.l x Q;rw[aP (by omega)];decide
 rintro _ ⟨⟨n1,n2⟩,s,rfl⟩;have nl:∀ x∈J.names,x.length<=8:=λx Q=>by
  have:=List.filter_eq_nil_iff.mp n2 x Q;simp at this;omega
 unfold oS;refine Iu (decide (((J.ins.map D.str).length:Int)>6)) (decide (((J.outs.map D.str).length:Int)>6)||(decide (((J.gates.map lY).length:Int)>24)||decide (((X.map mP).length:Int)>4))) (λu h=>?_) (λu h=>?_) ?_
 .exact⟨rfl,_,rfl,_,rfl,rfl,_,rfl,h⟩
 .refine Iu _ _ (λu h=>⟨rfl,_,rfl,_,rfl,rfl,_,rfl,h⟩) (λu h=>Iu _ _ (λu h=>⟨rfl,_,rfl,_,rfl,rfl,_,rfl,h⟩) (λu h=>⟨rfl,_,rfl,rfl,_,rfl,h⟩) h) h
 .refine L _ ?_;rw[aA,aA,aA,aA];constructor
  .intro z B;have a1:=B.i;have a2:=B.o;have a3:=B.g;have a4:=B.a;simp only[jR,eD] at z;omega
  .intro z;simp only[jR,eD];refine Decidable.byContradiction λq=>z ⟨?_,?_,?_,?_,nl,n1⟩<;>omega
end
def lz (k:Nat):Nat:=if k<23 then 97+k else 98+k
def zN (k:Nat):Af := "z" ++ (⟨#[lz k]⟩:Af)
def zG (i:Af) (n:Nat):Aa (Af×Af×Aa Af):=(List.range n).map λk=>(zN k,("not" : Af),[i])
def zC (C:Cel) (i:Af) (n:Nat):Cel:=⟨C.ins,C.gates++zG i n,C.outs⟩
def Gp:Af := "abcdefghijklmnopqrstuvwyz"
theorem EL {k:Nat}(h:k<25):nH Gp.cps.toList (k:Int)=some (lz k):=by
 have a:∀ k:Fin 25,Gp.cps.toList[k.val]?=some (lz k.val):=by decide +kernel
 exact pL (a ⟨k,h⟩)
def Mu:RD:=λd b c=>∃ (C:Cel) (a:Aa (Af×Af)) (n:Nat) (i:Af),b=[kS C a,.int n]/\n<=25/\C.ins.head?=some i/\C.gates.length<=100/\c (.v (kS (zC C i n) a))
def Rp:RD:=λh e f=>∃ (d:Aa Int) (a:Nat) (b:Aa Af) (W:Nat),e=[.c (d.map D.int),.int a,.t (b.map D.str),.int W]/\d.length<=63/\a<=900/\b.length<=40/\b.Nodup/\1<=W/\W<=60/\∀ wf:Af->Int,(∀ x∈b,0<=wf x/\wf x<2 ^ W)->f (.o (.k (eW (b.map λx=>(x,wf x)))))
section
variable {P:Ah}{K:kQ}
theorem Jg:FnScope ["row","many","gates","k"] ["row","many"] (lQ Cy):=mO
theorem zK:FnScope ["script","at","names","width","found","k","name","draw","some"] ["script","at","names","width"] (lQ Du):=mO
theorem Ym (T:Txt g):mM P w K g base 1 "_law_more_gates" Cy ["row","many"] Mu:=by
 refine mT Jg λf t A q s H E D F Q M a x=>?_
 obtain⟨C,c,n,b,rfl,L,z,O,m⟩:=x;refine⟨_,(gD (kZ 2 Jg.nd (lZ yP zU T.list dY (dK (lV a (hB a 0 eI) eI) eJ))) (gD (oE (tU (by rfl) T.range (eH 1)) (hO 3 Jg.nd) (kX (oV (qE bW cE cF sO tX (pv 2) (dK (lI (dK (kT lO lM mJ (lV a mJ (eH 3))) (dK mJ (dK (lI (dK (lV a (lV a (hB a 0 eI) eI) eI) eJ)) eJ)))) eJ))))) (kX (lX (lI (dK (lI (dK (lV a (hB a 0 eI) eI) (dK (lZ pT pM T.tuple bN (rA (pv 2) eJ)) (dK (lV a (hB a 0 eI) eI) eJ)))) (dK (hB a 0 eI) eJ))))))),?_⟩;let st (j:Nat) (s:Sl):Aa Sl:=[.v (kS C c),.v (.int n),.o (.l ((C.gates++zG b j).map lY)),s];refine gV (λd=>d=st 0 .n) (λN i=>⟨rfl,_,rfl,_,rfl,_,rfl,i _ ?_⟩) ?_
 .show _=[Sl.v (kS C c),.v (.int n),.o (.l ((C.gates++[]).map lY)),.n];rw[cD];rfl
 rintro _ rfl;refine gV (λd=>∃ s,d=st n s) (λN i=>?_) ?_
 .refine nR (nL 0 n) (st 0 .n) (λR h=>⟨by omega,by omega,h⟩) (λj d=>∃ s,d=st j s) ⟨_,rfl⟩ ?_ ?_
  .rintro j e d y ⟨s,rfl⟩;obtain⟨G,rfl⟩:=vH y;have B:=EL (k:=j) (by omega);have u:zG b (j+1)=zG b j++[(zN j,("not" : Af),[b])]:=by unfold zG;rw[List.range_succ,List.map_append];rfl
   refine⟨rfl,by show Gp.length<=100000;decide +kernel,lz j,?_,by show 1+1<=100000;decide,rfl,_,rfl,_,rfl,.str b,?_,by show 1<=1000;decide,by show 3<=1000;decide,?_,.v (.int (0+(j:Int))),?_⟩
   .rw[show (0:Int)+(j:Int)=j by omega];exact B
   .refine pL (j:=0) ?_;rw[bM,<- List.head?_eq_getElem?,z];rfl
   .show (List.map lY _).length<100000;rw[aA,aO];unfold zG;rw[aA,cM];omega
   .show _=[Sl.v (kS C c),.v (.int n),.o (.l ((C.gates++zG b (j+1)).map lY)),.v (.int (0+(j:Int)))];rw[u,<- bB,aF (l₁:=C.gates++zG b j)];rfl
  .rintro d ⟨s,rfl⟩;exact i _ ⟨s,by simp[nL]⟩
 rintro _ ⟨s,rfl⟩;exact⟨rfl,_,rfl,_,rfl,rfl,rfl,_,rfl,_,rfl,by show 3<=1000;decide,rfl,_,rfl,by show 2<=1000;decide,m⟩
theorem Wt (T:Txt mg) (g:Kn P w K mg base 1 "_law_draw" tS ["script","k"] vD):mM P w K mg base 2 "_law_some" Du ["script","at","names","width"] Rp:=by
 refine mT zK λf aa A C s H E dk ds Φ hr U hR=>?_
 obtain⟨r,a,m,W,rfl,hl,ha,lx,nd,w1,ab,p⟩:=hR;have I:(0:Int)<2 ^ W:=kP (by decide);refine⟨_,(gD (kZ 4 zK.nd yG) (gD (oE (Nl (by rfl) T.enumerate (eH 2)) (nK (n:=2) rfl (lL (hO 5 zK.nd) (lL (hO 6 zK.nd) nJ))) (gD (kZ 7 zK.nd (lD g hr (dK (eH 0) (dK (mK lO lM 1 (eH 5)) eJ)))) (gD (kZ 8 zK.nd (qR (dK eI (dK (mK uV vA 7 eI) (dK (kT wA vR (kT D2 Cz eI (eH 3)) eI) (dK (kT D2 Cz eI (mK wA vR 3 eI)) eJ)))))) (kX (sF (n:=4) U (kT mQ mR (hB U 8 (mK mQ mR 7 eI)) (kT D2 Cz eI (eH 3))) (pv 4) (eH 6)))))) (kX (lX (Hi 4 (pv 4)))))),?_⟩;let b:Aa Sl:=[.v (.c (r.map D.int)),.v (.int a),.v (.t (m.map D.str)),.v (.int W)];refine gV (λu=>u=b++[.o (.k []),.n,.n,.n,.n]) (λN G=>G _ rfl) ?_;rintro _ rfl;refine gV (λu=>∃ (wf:Af->Int) (L M O F:Sl),(∀ x∈m,0<=wf x/\wf x<2 ^ W)/\u=b++[.o (.k (eW (m.map λx=>(x,wf x)))),L,M,O,F]) (λN G=>?_) ?_
 .refine nR (vF (m.map D.str)) _ (λΨ h=>h) (λj u=>∃ (wf:Af->Int) (L M O F:Sl),(∀ x∈m.take j,0<=wf x/\wf x<2 ^ W)/\u=b++[.o (.k (eW ((m.take j).map λx=>(x,wf x)))),L,M,O,F]) ⟨λ_=>0,.n,.n,.n,.n,(λx Q=>by simp at Q),rfl⟩ ?_ ?_
  .rintro j e u Y ⟨wf,L,M,O,F,hw,rfl⟩;obtain⟨x,Q,rfl⟩:∃ x,m[j]?=some x/\e = .t [.int j,.str x]:=by
    have R:=(aL.mp Y).1;rw[Eu,aA] at R;have:=Li (xs:=m.map D.str) (i:=j) (d:=.str m[j]) (by rw[bM,aR R];rfl);rw[this] at Y;exact⟨m[j],aR R,(bT Y).symm⟩
   have xm:=aE Q;have R:=(aL.mp Q).1;have X:m.take (j+1)=m.take j++[x]:=by rw[cA,Q];rfl
   have nx:x∉m.take j:=λq=>by
    have:=nd.sublist (fG (j+1) m);rw[X] at this;exact (bC.mp this).2.2 x q x (aW.mpr rfl) rfl
   refine⟨rfl,rfl,?_⟩;let B:=kW r (a+j);refine gV (λu=>u=b++[.o (.k (eW ((m.take j).map λx=>(x,wf x)))),.v (.int j),.v (.str x),.v (.int B),F]) (λN G=>⟨rfl,r,a+j,by simp,hl,by omega,.inl rfl,G _ rfl⟩) ?_;rintro _ rfl;let V:Aa Int:=[0,(B:Int)/4,1*2 ^ (W:Int).toNat-1,1*2 ^ ((W:Int)-1).toNat];refine gV (λu=>u=b++[.o (.k (eW ((m.take j).map λx=>(x,wf x)))),.v (.int j),.v (.str x),.v (.int B),.o (.l (V.map D.int))]) (λN G=>?_) ?_
   .exact⟨rfl,by show (0:Int)<4/\(4:Int)<2 ^ 64;decide,⟨by omega,by omega,by decide⟩,rfl,⟨by show (0:Int)<=(W:Int)-1;omega,by show (W:Int)-1<=_;omega,by decide⟩,by show 4<=1000;decide,G _ rfl⟩
   rintro _ rfl;have hm:B%4<4:=cV _ (by decide);have em:(B:Int)%4=((B%4:Nat):Int):=by omega
   have J:(1:Int)*2 ^ (W:Int).toNat=2 ^ W:=by rw[Int.one_mul,cY]
   have Z:∃ v:Int,V[B%4]?=some v:=⟨V[B%4]'(by show B%4<4;exact hm),aR _⟩;obtain⟨v,Z⟩:=Z;have l0:(eW ((m.take j).map λx=>(x,wf x))).length<=40:=by rw[pB,aA,cC];omega
   refine⟨rfl,rfl,by show (0:Int)<4;decide,.int v,?_,⟨by omega,by omega,by decide⟩,by rw[J];exact I,rfl,_,rO (by omega),λy=>if y=x then v%2 ^ W else wf y,.v (.int j),.v (.str x),.v (.int B),.o (.l (V.map D.int)),λy S=>?_,?_⟩
   .rw[em];exact pL (by rw[bM,Z];rfl)
   .dsimp only;by_cases q:y=x
    .rw[aZ q];exact⟨gP _ (Int.ne_of_gt I),iM _ I⟩
    .rw[aK q];rw[X] at S;rcases aY.mp S with z | z
     .exact hw y z
     .exact absurd (aW.mp z) q
   .rw[J,Jk];have e1:sR ((m.take j).map λx=>(x,wf x)) x (v%2 ^ W)=(m.take (j+1)).map λy=>(y,if y=x then v%2 ^ W else wf y):=by
     unfold sR;rw[sE,aK nx,X,aF]
     congr 1
     .refine bZ λy S=>?_
      rw[aK λz:y=x=>nx (z▸S)]
     .show _=[(x,if x=x then v%2 ^ W else wf x)];rw[aZ rfl]
    rw[e1];rfl
  .rintro u ⟨wf,L,M,O,F,hw,rfl⟩;have el:(vF (m.map D.str)).length=m.length:=by rw[Eu,aA]
   rw[el,cN] at hw |-;exact G _ ⟨wf,L,M,O,F,hw,rfl⟩
 rintro _ ⟨wf,L,M,O,F,hw,rfl⟩;exact p wf hw
end
end Lw
namespace L2
open PySem PySem.Spec PyProof.Rows
section
variable {X:Cx}{x3:Nat}
theorem CI (g:PD X e o) (l:wF e=true:=by rfl):PD X (.Tuple [.Tuple [.Tuple [] x1 p1,.Tuple [.Tuple [.Constant (.str t) j q,e,.Tuple [] x2 p2] x3 p3] x4 p4,.Tuple [.Constant (.str t') j' q'] x5 p5] x6 p6,.Tuple [] x7 p7] x8 p8) (mG (aC (mG (aC (mG mH) (aC (mG (aC (mG (aC (cd (.str t)) (aC o (aC (mG mH) mH)))) mH)) (aC (mG (aC (cd (.str t')) mH)) mH)))) (aC (mG mH) mH))) :=
 lI (dK (lI (dK (lI eJ) (dK (lI (dK (lI (dK mJ (dK g (dK (lI eJ) eJ) l))) eJ)) (dK (lI (dK mJ eJ)) eJ)))) (dK (lI eJ) eJ))
theorem Sn (o:X.A.units+1<cLine) (g:PD X e r) (l:xI e:=by exact λ_ _=>rfl):PD X (.Subscript (.Tuple [.Constant (.str t) j q,.Constant (.str p) C T] U I) e J) (d2 wT (mG (aC (cd (.str t)) (aC (cd (.str p)) mH))) r) :=
 lV o (lI (dK mJ (dK mJ eJ))) g l
theorem JB (o:X.A.units+1<cLine) (g:PD X e p) (l:xI e:=by exact λ_ _=>rfl):PD X (.Subscript (.List [.Constant (.int n) j q,.Constant (.int m) r J] C) e I) (d2 wT (N1 (aC (cd (.int n)) (aC (cd (.int m)) mH))) p) :=
 lV o (qR (dK eI (dK eI eJ))) g l
theorem Vf {i:Nat}{x:Af}{j pos g:Pos}{c v:Expr}{l:pE}{o:lP}{rest:Aa Stmt}{C:oB->Prop}(T:PD X v o) (p:X.N.Nodup) (J:X.N[i]?=some x) (U:rG X.env.scope x) (I:X.fn x=true) (r:qN X c l) (hw:swapsWith v (some (.Name x j)) pos.line X.env=pure false)
  (k:∃ u,oM X rest u/\C (tV (vP l (mV i o) A9) u)):∃ u,oM X (.If c [.Assign [.Name x j] v pos] [] g::rest) u/\C u:=by
 obtain⟨u,a,b⟩:=k;exact⟨_,gD (nW r (kX (kZ i p T J U hw (.inl I))) nT) a,b⟩
theorem GV {i:Nat}{x:Af}{p' pos g:Pos}{c:Expr}{tc:pE}{rest:Aa Stmt}{C:oB->Prop}(hN:X.N.Nodup) (hi:X.N[i]?=some x) (hx:rG X.env.scope x) (hf:X.fn x=true) (hc:qN X c tc) (he:PD X e te) (hn:wF e=true)
  (k:∃ u,oM X rest u/\C (tV (vP tc (mV i (mG (aC (mG (aC (mG mH) (aC (mG (aC (mG (aC (cd (.str t)) (aC te (aC (mG mH) mH)))) mH)) (aC (mG (aC (cd (.str l)) mH)) mH)))) (aC (mG mH) mH)))) A9) u)) :
  ∃ u,oM X (.If c [.Assign [.Name x p'] (.Tuple [.Tuple [.Tuple [] x1 p,.Tuple [.Tuple [.Constant (.str t) j q,e,.Tuple [] x2 r] x3 I] x4 J,.Tuple [.Constant (.str l) o q'] x5 T] x6 U,.Tuple [] x7 p7] x8 p8) pos] [] g::rest) u/\C u:=by
 have a:=CI (X:=X) (t:=t) (t':=l) (j:=j) (j':=o) (q:=q) (q':=q') (x1:=x1) (x2:=x2) (x3:=x3) (x4:=x4) (x5:=x5) (x6:=x6) (x7:=x7) (x8:=x8) (p1:=p) (p2:=r) (p3:=I) (p4:=J) (p5:=T) (p6:=U) (p7:=p7) (p8:=p8) he hn;have hw:swapsWith (.Tuple [.Tuple [.Tuple [] x1 p,.Tuple [.Tuple [.Constant (.str t) j q,e,.Tuple [] x2 r] x3 I] x4 J,.Tuple [.Constant (.str l) o q'] x5 T] x6 U,.Tuple [] x7 p7] x8 p8) (some (.Name x p')) pos.line X.env=pure false:=rfl;revert a hw k;generalize (Expr.Tuple [.Tuple [.Tuple [] x1 p,.Tuple [.Tuple [.Constant (.str t) j q,e,.Tuple [] x2 r] x3 I] x4 J,.Tuple [.Constant (.str l) o q'] x5 T] x6 U,.Tuple [] x7 p7] x8 p8)=v;intro k a hw;exact Vf a hN hi hx hf hc hw k
section
theorem Xb:PD X (.Tuple [.Tuple [.Tuple [.Constant (.str t) j q] x1 T,.Tuple [.Tuple [.Constant (.str g) r q',.Constant (.str l) C q2,.Tuple [.Constant (.str o) I q3] x2 U] x3 p3] x4 p4,.Tuple [.Constant (.str p) J q4] x5 p5] x6 p6,.Tuple [] x7 p7] x8 p8) (mG (aC (mG (aC (mG (aC (cd (.str t)) mH)) (aC (mG (aC (mG (aC (cd (.str g)) (aC (cd (.str l)) (aC (mG (aC (cd (.str o)) mH)) mH)))) mH)) (aC (mG (aC (cd (.str p)) mH)) mH)))) (aC (mG mH) mH))) :=
 @lI _ _ _ _ _ (@dK _ _ _ _ _ (@lI _ _ _ _ _ (@dK _ _ _ _ _ (@lI _ _ _ _ _ (@dK _ _ _ _ _ (@mJ _ _ _ _) (@eJ _) rfl)) (@dK _ _ _ _ _ (@lI _ _ _ _ _ (@dK _ _ _ _ _ (@lI _ _ _ _ _ (@dK _ _ _ _ _ (@mJ _ _ _ _) (@dK _ _ _ _ _ (@mJ _ _ _ _) (@dK _ _ _ _ _ (@lI _ _ _ _ _ (@dK _ _ _ _ _ (@mJ _ _ _ _) (@eJ _) rfl)) (@eJ _) rfl) rfl) rfl)) (@eJ _) rfl)) (@dK _ _ _ _ _ (@lI _ _ _ _ _ (@dK _ _ _ _ _ (@mJ _ _ _ _) (@eJ _) rfl)) (@eJ _) rfl) rfl) rfl)) (@dK _ _ _ _ _ (@lI _ _ _ _ _ (@eJ _)) (@eJ _) rfl) rfl)
theorem Yn {i:Nat}{x:Af}{g pos:Pos}{v:Expr}{j:lP}{rest:Aa Stmt}{C:oB->Prop}(r:PD X v j) (l:X.N.Nodup) (p:X.N[i]?=some x) (I:rG X.env.scope x) (o:X.fn x=true) (hw:swapsWith v (some (.Name x g)) pos.line X.env=pure false)
  (k:∃ u,oM X rest u/\C (tV (mV i j) u)):∃ u,oM X (.Assign [.Name x g] v pos::rest) u/\C u:=by
 obtain⟨u,a,b⟩:=k;exact⟨_,gD (kZ i l r p I hw (.inl o)) a,b⟩
theorem Xy {i:Nat}{x:Af}{p' pos:Pos}{rest:Aa Stmt}{C:oB->Prop}(hN:X.N.Nodup) (hi:X.N[i]?=some x) (hx:rG X.env.scope x) (hf:X.fn x=true)
  (k:∃ u,oM X rest u/\C (tV (mV i (mG (aC (mG (aC (mG (aC (cd (.str t)) mH)) (aC (mG (aC (mG (aC (cd (.str g)) (aC (cd (.str l)) (aC (mG (aC (cd (.str o)) mH)) mH)))) mH)) (aC (mG (aC (cd (.str p)) mH)) mH)))) (aC (mG mH) mH)))) u)):∃ u,oM X (.Assign [.Name x p'] (.Tuple [.Tuple [.Tuple [.Constant (.str t) j q] x1 U,.Tuple [.Tuple [.Constant (.str g) r q',.Constant (.str l) I q2,.Tuple [.Constant (.str o) J q3] x2 p2] x3 p3] x4 p4,.Tuple [.Constant (.str p) T q4] x5 p5] x6 p6,.Tuple [] x7 p7] x8 p8) pos::rest) u/\C u:=by
 have a:PD X (.Tuple [.Tuple [.Tuple [.Constant (.str t) j q] x1 U,.Tuple [.Tuple [.Constant (.str g) r q',.Constant (.str l) I q2,.Tuple [.Constant (.str o) J q3] x2 p2] x3 p3] x4 p4,.Tuple [.Constant (.str p) T q4] x5 p5] x6 p6,.Tuple [] x7 p7] x8 p8) (mG (aC (mG (aC (mG (aC (cd (.str t)) mH)) (aC (mG (aC (mG (aC (cd (.str g)) (aC (cd (.str l)) (aC (mG (aC (cd (.str o)) mH)) mH)))) mH)) (aC (mG (aC (cd (.str p)) mH)) mH)))) (aC (mG mH) mH))):=@Xb _ _ _ _ _ _ _ _ _ _ _ _ _ _ _ _ _ _ _ _ _ _ _ _ _ _ _ _ _ _ _ _;have hw:swapsWith (.Tuple [.Tuple [.Tuple [.Constant (.str t) j q] x1 U,.Tuple [.Tuple [.Constant (.str g) r q',.Constant (.str l) I q2,.Tuple [.Constant (.str o) J q3] x2 p2] x3 p3] x4 p4,.Tuple [.Constant (.str p) T q4] x5 p5] x6 p6,.Tuple [] x7 p7] x8 p8) (some (.Name x p')) pos.line X.env=pure false:=rfl;revert a hw k;generalize (Expr.Tuple [.Tuple [.Tuple [.Constant (.str t) j q] x1 U,.Tuple [.Tuple [.Constant (.str g) r q',.Constant (.str l) I q2,.Tuple [.Constant (.str o) J q3] x2 p2] x3 p3] x4 p4,.Tuple [.Constant (.str p) T q4] x5 p5] x6 p6,.Tuple [] x7 p7] x8 p8)=v;intro k a hw;exact Yn a hN hi hx hf hw k
end
end
end L2
namespace Lw
open PySem L2
theorem HS (g:Aa Int) (i:Nat):AZ (mN g i):=by
 have b:∀ z:Nat,97<=97+z%26/\97+z%26<=122:=λz=>by have:=cV z (show 0<26 by decide);omega
 have m:∀ c∈(oP g).cps.toList,97<=c/\c<=122:=λc a=>by
  rw[show (oP g).cps.toList=[97+kW g 0%26] from rfl] at a;rw[aW.mp a];exact b _
 have e:∀ c∈(Ek g i).cps.toList,97<=c/\c<=122:=λc a=>by
  rw[show (Ek g i).cps.toList=[97+(i+kW g 3)%26] from rfl] at a;rw[aW.mp a];exact b _
 have f:∀ n:Nat,∀ c∈(Txt.mul (oP g) (n:Int)).cps.toList,97<=c/\c<=122:=λn c a=>by
  unfold oP at a;rw[yD] at a;rw[(kC.mp a).2];exact b _
 have k:∀ c∈(nP g i).cps.toList,97<=c/\c<=122:=λc a=>by
  unfold nP at a;rw[pI,pI] at a;rcases aY.mp a with q | q
  .rcases aY.mp q with q | q
   .exact f _ c q
   .exact e c q
  .exact f _ c q
 have l:=IJ g i;refine⟨λc a=>?_,l.1,by omega⟩;unfold mN at a;by_cases h:kW g 8%4=1
 .rw[aZ h] at a;exact e c a
 .rw[aK h,pI] at a;rcases aY.mp a with q | q
  .by_cases d:i%2=1/\(nP g i).length<7
   .rw[aZ d,pI] at q;rcases aY.mp q with q | q
    .exact k c q
    .exact m c q
   .rw[aK d] at q;exact k c q
  .rw[show ("x" : Af).cps.toList=[120] from rfl] at q;rw[aW.mp q];decide
theorem Yx (g:Aa Int) (i:Nat):(mN g i).length=1\/(mN g i).cps.toList.getLast?=some 120:=by
 unfold mN;by_cases h:kW g 8%4=1
 .rw[aZ h];exact .inl rfl
 .rw[aK h,pI];refine .inr ?_;rw[show ("x" : Af).cps.toList=[120] from rfl,List.getLast?_append];rfl
theorem yB (k:Nat):(zN k).cps.toList=[122,lz k]:=pI "z" ⟨#[lz k]⟩
theorem S7 (h:k<25):AZ (zN k):=by
 refine⟨λc a=>?_,by rw[oX,yB];show 1<=2;decide,by rw[oX,yB];show 2<=100;decide⟩;rw[yB] at a;rcases aI.mp a with q | q
 .omega
 .rw[aW.mp q];unfold lz;split<;>omega
theorem GG:zN k≠mN g i:=λe=>by
 rcases Yx g i with h | h
 .rw[<- e,oX,yB] at h;cases h
 .rw[<- e,yB] at h;have h:lz k=120:=by simpa using h
  unfold lz at h;split at h<;>omega
theorem X4 (e:zN j=zN k):j=k:=by
 have:=cL (λz:Af=>z.cps.toList) e;simp only[yB,eV,and_true,true_and] at this;unfold lz at this;split at this<;>split at this<;>omega
structure Drn (ns:List Int) (C:Cel) (prs:List (Str×Str)):Prop where
 m:∃ m g:Nat,1<=m/\m<=6/\1<=g/\g<=6/\C.ins=(List.range m).map (mN ns)/\C.gates.map (·.1)=(List.range g).map λk=>mN ns (6+k)
 gc:GC C
 on:C.outs≠[]
 ol:C.outs.length<=4
 og:∀ o∈C.outs,o∈C.gates.map (·.1)
 al:Alg C prs
theorem Drn.word (h:Drn l C o) (j:x∈C.names):∃ i,x=mN l i:=by
 obtain⟨m,g,_,_,_,_,a,b⟩:=h.m;unfold Cel.names at j;rw[a,b] at j;rcases aY.mp j with q | q<;>obtain⟨i,_,rfl⟩:=aD.mp q
 .exact⟨i,rfl⟩
 .exact⟨_,rfl⟩
theorem Drn.rg (h:Drn j C g):RG C g :=
 ⟨h.gc,h.al.n1,h.al.n2,h.al.o,by have:=h.al.l;omega,λx a=>by obtain⟨i,rfl⟩:=h.word a;exact HS j i⟩
theorem J3 {kn:Aa Af}:∀ (n:Nat) (g:Aa (Af×Af×Aa Af)),oA kn g->i∈kn->oA kn (g++zG i n)
 | 0,g,h,_=>by
  show oA kn (g++[]);rw[cD];exact h
 | n+1,g,h,a=>by
  have e:zG i (n+1)=zG i n++[(zN n,("not" : Af),[i])]:=by unfold zG;rw[List.range_succ,List.map_append];rfl
  rw[e,<- bB];refine oA.snoc (J3 n g h a) ⟨.inr (.inr (.inl ⟨rfl,rfl⟩))⟩ λp b=>?_
  rw[aW.mp b];exact aM _ a
theorem Drn.more (h:Drn I C l) (p:C.ins.head?=some i) (r:n<=25):RG (zC C i n) l:=by
 have t:i∈C.ins:=List.mem_of_mem_head? p;have R:=h.rg;have z:C.gates.length<=6:=by
  obtain⟨m,g,_,_,_,w,_,e⟩:=h.m;have:=cL List.length e;rw[aA,aA,cM] at this;omega
 have f:(zG i n).map (·.1)=(List.range n).map zN:=by unfold zG;rw[List.map_map];rfl
 have d:(zC C i n).names=C.names++(List.range n).map zN:=by
  unfold zC Cel.names;dsimp only;rw[aF,f,bB]
 refine⟨⟨?_,J3 n _ h.gc.gt t,λo u=>?_,h.gc.ond,h.gc.li,?_,h.gc.lo⟩,R.n1,R.n2,R.m,R.lp,λx c=>?_⟩
 .rw[d,bC];refine⟨h.gc.nd,gT _ (λa b q e=>q (X4 e)) kK,λx c y v e=>?_⟩;obtain⟨j,rfl⟩:=h.word c;obtain⟨k,_,rfl⟩:=aD.mp v;exact GG e.symm
 .rw[d];exact aM _ (h.gc.os o u)
 .show (C.gates++zG i n).length<=40;unfold zG;rw[aO,aA,cM];omega
 .rw[d] at c;rcases aY.mp c with q | q
  .exact R.az x q
  .obtain⟨k,s,rfl⟩:=aD.mp q;exact S7 (by have:=gW.mp s;omega)
def tC (w:Af):Cel:=⟨[],[("told",w,[])],["told"]⟩
theorem Sz {w:Af} (h:w = "one" \/ w = "nil"):RG (tC w) []:=by
 refine⟨⟨by show (["told"]:Aa Af).Nodup;simp,⟨?_,(λ_ h=>absurd h bJ),True.intro⟩,λo b=>b,by show (["told"]:Aa Af).Nodup;simp,by show 0<=40;decide,by show 1<=40;decide,by show 1<=40;decide⟩,cZ,cZ,(λ_ h=>absurd h bJ),by decide,λx a=>?_⟩
 .rcases h with rfl | rfl
  .exact⟨.inr (.inr (.inr (.inl ⟨rfl,rfl⟩)))⟩
  .exact⟨.inr (.inr (.inr (.inr ⟨rfl,rfl⟩)))⟩
 .have a:x∈(["told"]:Aa Af):=a;rw[aW.mp a];exact⟨by decide +kernel,by decide +kernel,by decide +kernel⟩
theorem Drn.head (h:Drn l C j):∃ i,C.ins.head?=some i:=by
 obtain⟨m,g,a,_,_,_,e,_⟩:=h.m;rw[e];cases m with
 | zero=>omega
 | succ m=>rw[List.range_succ_eq_map];exact⟨_,rfl⟩
theorem Drn.gl (h:Drn l C j):C.gates.length<=6:=by
 obtain⟨m,g,_,_,_,a,_,e⟩:=h.m;have:=cL List.length e;rw[aA,aA,cM] at this;omega
def Nu:RD:=λi f h=>∃ b:Aa Int,f=[.c (b.map D.int)]/\b.length<=63/\∀ C d a e,RG C d->RG a e->h (.v (.t [kS C d,kS a e]))
section
variable {P:Ah}{K:kQ}
theorem xW:FnScope ["script","one","other","draw","many"] ["script"] (lQ E6):=mO
theorem Tq (T:Txt p) (o:Kn P w K p base 1 "_law_draw" tS ["script","k"] vD) (l:Kn P w K p base 5 "_law_row" D1 ["script","begin"] Lz) (j:Kn P w K p base 1 "_law_more_gates" Cy ["row","many"] Mu):mM P w K p base 6 "_law_two_rows" E6 ["script"] Nu:=by
 refine mT xW λf ae A ac s H E dk ds Φ F G hR=>?_
 obtain⟨d,rfl,hl,ab⟩:=hR;refine Au (kZ 1 xW.nd (lD l F (dK (eH 0) (dK eI eJ)))) ?_;refine Au (kZ 2 xW.nd (lD l F (dK (eH 0) (dK eI eJ)))) ?_;refine Au (kZ 3 xW.nd (lD o F (dK (eH 0) (dK eI eJ)))) ?_;refine GV (i:=1) xW.nd rfl (Or.inl rfl) rfl (rY (tZ F.units) (rZ false) (mK mQ mR 3 eI) eI) (Sn G (kT mQ mR (mK uV vA 3 eI) eI)) rfl ?_;refine⟨_,(gD (nW (rY (tZ F.units) (rZ false) (mK mQ mR 3 eI) eI) (gD (kZ 4 xW.nd (kT wA vR (kT wA vR (JB G (kT mQ mR (mK uV vA 3 eI) eI)) (nF pJ pN T.len cH (dK (lV G (hB G 1 eI) eI) eJ))) (nF pJ pN T.len cH (dK (lV G (hB G 2 eI) eI) eJ)))) (kX (kZ 1 xW.nd (lD j F (dK (eH 1) (dK (eH 4) eJ)))))) nT) (kX (lX (lI (dK (eH 1) (dK (eH 2) eJ)))))),?_⟩;refine gV (λk=>∃ C e,Drn d C e/\k=[.v (.c (d.map D.int)),.v (kS C e),.n,.n,.n]) (λN b=>⟨d,0,by simp,hl,by omega,λm g C y O Q R S V W X Y Z u x=>⟨.inl rfl,b _ ⟨C,y,⟨⟨m,g,O,Q,R,S,V,W⟩,X,Y,Z,u,x⟩,rfl⟩⟩⟩) ?_;rintro _ ⟨C,e,hC,rfl⟩;refine gV (λk=>∃ h t,Drn d h t/\k=[.v (.c (d.map D.int)),.v (kS C e),.v (kS h t),.n,.n]) (λN b=>⟨d,100,by simp,hl,by omega,λm g C y O Q R S V W X Y Z u x=>⟨.inl rfl,b _ ⟨C,y,⟨⟨m,g,O,Q,R,S,V,W⟩,X,Y,Z,u,x⟩,rfl⟩⟩⟩) ?_;rintro _ ⟨h,t,L,rfl⟩;let a:Nat:=kW d 15;refine gV (λk=>k=[.v (.c (d.map D.int)),.v (kS C e),.v (kS h t),.v (.int a),.n]) (λN b=>⟨d,15,by simp,hl,by omega,.inl rfl,b _ rfl⟩) ?_;rintro _ rfl;refine gV (λk=>∃ C e,RG C e/\(a%8=2->Drn d C e)/\k=[.v (.c (d.map D.int)),.v (kS C e),.v (kS h t),.v (.int a),.n]) (λN b=>?_) ?_
 .refine⟨rfl,by show (0:Int)<8;decide,?_⟩;by_cases q:a%8=1
  .refine oI (aV (by omega)) ?_;have hm:a/8%2=0\/a/8%2=1:=by omega
   obtain⟨w,hw,aa⟩:∃ w:Af,nH [D.str "one",D.str "nil"] ((a:Int)/8%2)=some (.str w)/\(w = "one" \/ w = "nil"):=by
    rw[show (a:Int)/8%2=((a/8%2:Nat):Int) by omega];rcases hm with z | z<;>rw[z]
    .exact⟨"one",pL rfl,.inl rfl⟩
    .exact⟨"nil",pL rfl,.inr rfl⟩
   exact⟨by show 0<=1000;decide,by show 2<=1000;decide,rfl,by show (0:Int)<8/\(8:Int)<2 ^ 64;decide,by show (0:Int)<2;decide,_,hw,by show 0<=1000;decide,by show 3<=1000;decide,by show 1<=1000;decide,by show 1<=1000;decide,by show 3<=1000;decide,by show 0<=1000;decide,by show 2<=1000;decide,b _ ⟨tC w,[],Sz aa,λz=>by omega,rfl⟩⟩
  .exact nI (aP (by omega)) (b _ ⟨C,e,hC.rg,λ_=>hC,rfl⟩)
 rintro _ ⟨B,p',J,I,rfl⟩;refine gV (λk=>∃ C e s,RG C e/\k=[.v (.c (d.map D.int)),.v (kS C e),.v (kS h t),.v (.int a),s]) (λN b=>?_) ?_
 .refine⟨rfl,by show (0:Int)<8;decide,?_⟩;by_cases q:a%8=2
  .refine oI (aV (by omega)) ?_;have r:=I q;have g1:=r.gl;have g2:=L.gl;obtain⟨i0,M⟩:=r.head;obtain⟨n,hn,hv⟩:∃ n:Nat,n<=25/\∃ v:Int,nH [D.int 24,D.int 25] ((a:Int)/8%2)=some (.int v)/\v-((B.gates.map lY).length:Int)-((h.gates.map lY).length:Int)=n:=by
    rw[aA,aA,show (a:Int)/8%2=((a/8%2:Nat):Int) by omega];have hm:a/8%2=0\/a/8%2=1:=by omega
    rcases hm with z | z<;>rw[z]
    .exact⟨24-B.gates.length-h.gates.length,by omega,24,pL rfl,by omega⟩
    .exact⟨25-B.gates.length-h.gates.length,by omega,25,pL rfl,by omega⟩
   obtain⟨v,hv,ev⟩:=hv;refine gV (λk=>k=[.v (.c (d.map D.int)),.v (kS B p'),.v (kS h t),.v (.int a),.v (.int n)]) (λN b=>?_) ?_
   .refine⟨by show 2<=1000;decide,rfl,by show (0:Int)<8/\(8:Int)<2 ^ 64;decide,by show (0:Int)<2;decide,_,hv,rfl,_,rfl,_,rfl,rfl,_,rfl,rfl,_,rfl,_,rfl,rfl,_,rfl,b _ ?_⟩;rw[<- ev];rfl
   rintro _ rfl;exact⟨B,p',n,i0,rfl,hn,M,by omega,.inl rfl,b _ ⟨_,_,_,r.more M hn,rfl⟩⟩
  .exact nI (aP (by omega)) (b _ ⟨B,p',_,J,rfl⟩)
 rintro _ ⟨C3,p3,s,U,rfl⟩;exact⟨by show 2<=1000;decide,ab C3 p3 h t U L.rg⟩
end
def xO (g:Aa (Af×Af)) (wf:Af->Int) (c:Af×Af->Int) (j:Nat) (x:Af):Int:=match g.find? λp=>decide (p.2=x) with
 | some p=>c p
 | none=>wf x/2 ^ j%2
def uR (C:Cel) (g:Aa (Af×Af)) (wf l:Af->Int):Nat->Af->Int
 | 0=>tW C (xO g wf (λp=>l p.2) 0)
 | j+1=>tW C (xO g wf (λp=>uR C g wf l j p.1) (j+1))
def rR (C:Cel) (g:Aa (Af×Af)) (wf l:Af->Int) (j:Nat):Af->Int:=xO g wf (lU l (uR C g wf l) j) j
theorem Fc (C:Cel) (g:Aa (Af×Af)) (wf l:Af->Int):∀ j,uR C g wf l j=tW C (rR C g wf l j)
 | 0=>rfl
 | j+1=>rfl
theorem Ca (o:(g.map (·.2)).Nodup) (l:p∈g):xO g wf c j p.2=c p:=by
 unfold xO;cases e:g.find? λq=>decide (q.2=p.2) with
 | some q=>rw[Eb o (fV e) l (cR (jT (p:=λq:Af×Af=>decide (q.2=p.2)) e))]
 | none =>
  have:=gK.mp e p l;simp at this
theorem zE (l:x∉g.map (·.2)):xO g wf c j x=wf x/2 ^ j%2:=by
 unfold xO;cases e:g.find? λq=>decide (q.2=x) with
 | some q=>exact absurd (aD.mpr ⟨q,fV e,cR (jT (p:=λq:Af×Af=>decide (q.2=x)) e)⟩) l
 | none=>rfl
theorem B3 (h:x∈lJ C g):x∉g.map (·.2):=by
 have:=(aX.mp h).2
 simpa using this
theorem E3 (r:(g.map (·.2)).Nodup) (o:∀ p∈g,mI (l p.2)) (W:Nat):RunOk C g W wf l (uR C g wf l) (rR C g wf l) :=
 ⟨o,λj _=>Fc C g wf l j,λj _ x b=>zE (B3 b),λj _ p a=>Ca r a⟩
theorem RG.row (h:RG C g):RowOk C g:=⟨h.gc,h.n1,h.n2,λp a=>(h.m p a).1,by have:=h.lp;omega⟩
def Yp (r:Af->Af) (g:Aa Af):Prop:=∀ x∈g,∀ y∈g,r x=r y->x=y
theorem Jt:∀ (l:Aa (Af×Af×Aa Af)) (kn:Aa Af) (o j:Af->Int),oA kn l->Yp r (kn++l.map (·.1))->(∀ x∈kn,j (r x)=o x)->∀ x∈kn++l.map (·.1),oZ j (l.map (nB r)) (r x)=oZ o l x
 | [],kn,o,j,_,_,h,x,a=>by simpa [oZ] using h x (by simpa using a)
 | g::l,kn,o,j,ok,inj,h,x,a=>by
  have c:kn++(g::l).map (·.1)=(kn++[g.1])++l.map (·.1):=by simp
  rw[c] at inj a;refine Jt l (kn++[g.1]) (yU o g) (yU j (nB r g)) ok.2.2 inj (λy b=>?_) x a;unfold yU;have d:((nB r g).2.2.map j)=g.2.2.map o:=by
   show (g.2.2.map r).map j=_;rw[aG];exact bZ λz f=>h z (ok.2.1 z f)
  by_cases z:y=g.1
  .subst z;rw[aZ (show r g.1=(nB r g).1 from rfl),aZ rfl,d];rfl
  .have e:¬ r y=(nB r g).1:=λq=>z (inj y (aM _ b) g.1 (by simp) q)
   rw[aK e,aK z];rcases aY.mp b with q | q
   .exact h y q
   .exact absurd (aW.mp q) z
theorem Rz:∀ (j l:Aa (Af×Af×Aa Af)) (o:Af->Int),oZ o (j++l)=oZ (oZ o j) l
 | [],_,_=>rfl
 | g::j,l,o=>Rz j l _
theorem Ge:∀ (j:Aa (Af×Af×Aa Af)) (l:Af->Int){x:Af},x∉j.map (·.1)->oZ l j x=l x
 | [],_,_,_=>rfl
 | g::j,l,x,h=>by
  show oZ (yU l g) j x=l x;rw[Ge j _ λz=>h (bD _ z)];unfold yU;rw[aK λz:x=g.1=>h (z▸aT)]
section
variable {D:Cel}
theorem Ci (j:(g.map (·.1)).Nodup) (l:(g.map (·.2)).Nodup) (e:kU g x=kU g y):x=y:=by
 rcases sX g x with⟨p,c,b,a⟩ | ⟨f,a⟩<;>rcases sX g y with⟨q,d,f1,f2⟩ | ⟨g1,f2⟩<;>rw[a,f2] at e
 .have:=Eb j c d (qT e);rw[<- b,<- f1,this]
 .exact absurd e (rD _ _)
 .exact absurd e.symm (rD _ _)
 .exact Ed e
theorem Rn (j:x∈C.names):fA x∈(jC C D l).names:=by
 unfold Cel.names;rw[vC,Ei];rcases aY.mp j with q | q
 .exact aM _ (aM _ (aU q))
 .obtain⟨g,a,rfl⟩:=aD.mp q;exact aJ _ (aM _ (aD.mpr ⟨g,a,rfl⟩))
theorem FS (l:x∈D.names) (po:∀ p∈j,p.1∈C.names):kU j x∈(jC C D j).names:=by
 rcases sX j x with⟨p,d,e,a⟩ | ⟨b,a⟩
 .rw[a];exact Rn (po p d)
 .unfold Cel.names;rw[vC,Ei];rcases aY.mp l with q | q
  .rw[a];exact aM _ (aJ _ (aU (aX.mpr ⟨q,by rw[aP b];rfl⟩)))
  .obtain⟨g,c,rfl⟩:=aD.mp q;exact aJ _ (aJ _ (aD.mpr ⟨g,c,rfl⟩))
theorem oA.weak:∀ {l:Aa (Af×Af×Aa Af)}{kn j:Aa Af},oA kn l->(∀ x∈kn,x∈j)->oA j l
 | [],_,_,_,_=>True.intro
 | g::l,kn,j,h,a=>⟨h.1,λp b=>a p (h.2.1 p b),h.2.2.weak λx c=>(aY.mp c).elim (λq=>aM _ (a x q)) λq=>aJ _ q⟩
theorem oA.app:∀ {j l:Aa (Af×Af×Aa Af)}{kn:Aa Af},oA kn j->oA (kn++j.map (·.1)) l->oA kn (j++l)
 | [],l,kn,_,h=>by simpa using h
 | g::j,l,kn,h,a=>⟨h.1,h.2.1,h.2.2.app (by simpa using a)⟩
theorem oA.tn:∀ {j:Aa (Af×Af×Aa Af)}{kn:Aa Af},oA kn j->oA (kn.map r) (j.map (nB r))
 | [],_,_=>True.intro
 | g::j,kn,h=>by
  refine⟨by show ArOk g.2.1 (g.2.2.map r).length;rw[aA];exact h.1,λp a=>?_,?_⟩
  .obtain⟨q,b,rfl⟩:=aD.mp (show p∈g.2.2.map r from a);exact aU (h.2.1 q b)
  .have:=h.2.2.tn (r:=r);rw[aF] at this;exact this
theorem tR {j o:Type}{f:j->o}{l:Aa j}(h:l.Nodup) (g:∀ x∈l,∀ y∈l,f x=f y->x=y):(l.map f).Nodup:=by
 induction l with
 | nil=>exact cZ
 | cons a l n =>
  obtain⟨d,i⟩:=bX.mp h;rw[bH,bX];refine⟨λz=>?_,n i λx k y m=>g x (bD _ k) y (bD _ m)⟩;obtain⟨b,c,e⟩:=aD.mp z;exact d (g b (bD _ c) a aT e▸c)
theorem My (J:RG C U) (I:RG D p2) (T:PrsOk (hI C U) (lJ D p2) j) (ft:Fits (jC C D j) (jP U p2 j)):RG (jC C D j) (jP U p2 j):=by
 have pin:∀ p∈j,p.2∈D.ins:=λp f=>(aX.mp (T.m p f).2).1
 have w:∀ p∈j,p.1∈C.outs:=λp f=>(aX.mp (T.m p f).1).1
 have po:∀ p∈j,p.1∈C.names:=λp f=>J.gc.os _ (w p f)
 have t:∀ q∈p2,q.2∉j.map (·.2):=λq u z=>by
  obtain⟨p,f,e⟩:=aD.mp z;exact B3 (T.m p f).2 (e▸aU u)
 have s:∀ q∈U,q.1∉j.map (·.1):=λq u z=>by
  obtain⟨p,f,e⟩:=aD.mp z;have:=(aX.mp (T.m p f).1).2;rw[aV (show p.1∈U.map (·.1) from e▸aU u)] at this;cases this
 have N:∀ g∈D.gates,kU j g.1=fB g.1:=λg E=>sZ (Jd I.gc.nd pin (aU E))
 refine⟨⟨?_,?_,?_,?_,by have:=ft.i;omega,by have:=ft.g;omega,by have:=ft.o;omega⟩,?_,?_,?_,by have:=ft.a;omega,?_⟩
 .-- the names are unlike
  unfold Cel.names;rw[vC,Ei];have n:(D.gates.map λg=>kU j g.1)=(D.gates.map (·.1)).map fB:=by
   rw[aG];exact bZ N
  have H:(C.gates.map λg=>fA g.1)=(C.gates.map (·.1)).map fA:=by rw[aG];rfl
  rw[H,n];have pm:((C.ins.map fA++(D.ins.filter λx=>!decide (x∈j.map (·.2))).map fB)++((C.gates.map (·.1)).map fA++(D.gates.map (·.1)).map fB)).Perm (C.names.map fA++((D.ins.filter λx=>!decide (x∈j.map (·.2)))++D.gates.map (·.1)).map fB):=by
   unfold Cel.names;rw[aF,aF,bB,bB];refine gR _ ?_;rw[<- bB,<- bB];exact jE.append_right _
  rw[pm.nodup_iff,bC];refine⟨tR J.gc.nd λx _ y _ e=>qT e,tR ?_ λx _ y _ e=>Ed e,λx h y k e=>?_⟩
  .exact I.gc.nd.sublist (List.Sublist.append_right List.filter_sublist _)
  .obtain⟨a,_,rfl⟩:=aD.mp h;obtain⟨b,_,rfl⟩:=aD.mp k;exact rD a b e
 .show oA (jC C D j).ins (C.gates.map (nB fA)++D.gates.map (nB (kU j)));refine oA.app (J.gc.gt.tn.weak λx h=>?_) (I.gc.gt.tn.weak λx h=>?_)
  .rw[vC];exact aM _ h
  .obtain⟨y,k,rfl⟩:=aD.mp h;rcases sX j y with⟨p,f,H,n⟩ | ⟨M,n⟩
   .rw[n];rcases aY.mp (po p f) with q | q
    .exact aM _ (by rw[vC];exact aM _ (aU q))
    .obtain⟨g,E,e⟩:=aD.mp q;exact aJ _ (aD.mpr ⟨nB fA g,aU E,by show fA g.1=_;rw[e]⟩)
   .rw[n,vC];exact aM _ (aJ _ (aU (aX.mpr ⟨k,by rw[aP M];rfl⟩)))
 .intro o K;rw[yH] at K;rcases aY.mp K with q | q<;>obtain⟨x,h,rfl⟩:=aD.mp q
  .exact Rn (J.gc.os x (aX.mp h).1)
  .exact FS (I.gc.os x h) po
 .rw[yH,bC];refine⟨tR (J.gc.ond.filter _) λx _ y _ e=>qT e,tR I.gc.ond λx _ y _ e=>Ci T.n1 T.n2 e,λx h y k e=>?_⟩;obtain⟨a,A,rfl⟩:=aD.mp h;obtain⟨b,B,rfl⟩:=aD.mp k;rcases sX j b with⟨p,f,_,n⟩ | ⟨_,n⟩<;>rw[n] at e
  .have:=(aX.mp A).2;rw[aV (show a∈j.map (·.1) from qT e▸aU f)] at this;cases this
  .exact rD _ _ e
 .unfold jP oQ;rw[aF,aG,aG,bC];have F:(U.map ((·.1)∘λp=>(fA p.1,fA p.2)))=(U.map (·.1)).map fA:=by rw[aG];rfl
  have G:(p2.map ((·.1)∘λp=>(kU j p.1,kU j p.2)))=(p2.map (·.1)).map (kU j):=by rw[aG];rfl
  rw[F,G];refine⟨tR J.n1 λx _ y _ e=>qT e,tR I.n1 λx _ y _ e=>Ci T.n1 T.n2 e,λx h y k e=>?_⟩;obtain⟨a,A,rfl⟩:=aD.mp h;obtain⟨b,B,rfl⟩:=aD.mp k;rcases sX j b with⟨p,f,_,n⟩ | ⟨_,n⟩<;>rw[n] at e
  .obtain⟨q,u,rfl⟩:=aD.mp A;exact s q u (qT e▸aU f)
  .exact rD _ _ e
 .unfold jP oQ;rw[aF,aG,aG,bC];have F:(U.map ((·.2)∘λp=>(fA p.1,fA p.2)))=(U.map (·.2)).map fA:=by rw[aG];rfl
  have G:(p2.map ((·.2)∘λp=>(kU j p.1,kU j p.2)))=(p2.map (·.2)).map (kU j):=by rw[aG];rfl
  rw[F,G];refine⟨tR J.n2 λx _ y _ e=>qT e,tR I.n2 λx _ y _ e=>Ci T.n1 T.n2 e,λx h y k e=>?_⟩;obtain⟨a,A,rfl⟩:=aD.mp h;obtain⟨b,B,rfl⟩:=aD.mp k;obtain⟨q,u,rfl⟩:=aD.mp B;rw[sZ (t q u)] at e;exact rD _ _ e
 .intro p f;rw[yH,Ht];rcases aY.mp f with q | q<;>obtain⟨r,v,rfl⟩:=aD.mp q
  .exact⟨aM _ (aU (aX.mpr ⟨(J.m r v).1,by rw[aP (s r v)];rfl⟩)),aM _ (aU (J.m r v).2)⟩
  .exact⟨aJ _ (aU (I.m r v).1),aJ _ (aU (aX.mpr ⟨(I.m r v).2,by rw[aP (t r v)];rfl⟩))⟩
 .intro x h;have l:=ft.l x h;have mk:∀ (c:Nat) (y:Af),AZ y->x.cps.toList=c::y.cps.toList->97<=c/\c<=122->AZ x:=λc y k e L=>by
   refine⟨λd hd=>?_,by rw[oX,e,dO];omega,by omega⟩;rw[e] at hd;rcases aI.mp hd with z | z
   .rw[z];exact L
   .exact k.az d z
  rcases Fo I.gc.nd pin h with⟨y,k,rfl⟩ | ⟨y,k,_,rfl⟩
  .exact mk 97 y (J.az y k) (Bv y) (by decide)
  .exact mk 98 y (I.az y k) (Ax y) (by decide)
end
theorem Iz {f:Nat->Int}:∀ W,(∀ j,j<W->mI (f j))->0<=sN (λj=>2 ^ j*f j) W/\sN (λj=>2 ^ j*f j) W<2 ^ W
 | 0,_=>⟨Int.le_refl _,by show (0:Int)<2 ^ 0;decide⟩
 | W+1,h=>by
  obtain⟨a,b⟩:=Iz W λj c=>h j (by omega)
  have p:(0:Int)<2 ^ W:=kP (by decide);show 0<=sN (λj=>2 ^ j*f j) W+2 ^ W*f W/\sN (λj=>2 ^ j*f j) W+2 ^ W*f W<2 ^ (W+1);rw[Int.pow_succ];rcases h W (by omega) with q | q<;>rw[q]<;>omega
theorem O4 {f:Nat->Int}:∀ W,(∀ j,j<W->mI (f j))->∀ j,j<W->sN (λi=>2 ^ i*f i) W/2 ^ j%2=f j
 | 0,_,j,k=>by omega
 | W+1,h,j,k=>by
  show (sN (λi=>2 ^ i*f i) W+2 ^ W*f W)/2 ^ j%2=f j;have c:(2:Int) ^ j≠0:=Int.ne_of_gt (kP (by decide));by_cases q:j=W
  .subst q;obtain⟨a,b⟩:=Iz j λi d=>h i (by omega)
   rw[Int.add_mul_ediv_left _ _ c,Int.ediv_eq_zero_of_lt a b,Int.zero_add];rcases h j (by omega) with z | z<;>rw[z]<;>rfl
  .obtain⟨m,rfl⟩:∃ m,W=j+(m+1):=⟨W-j-1,by omega⟩;have e:(2:Int) ^ (j+(m+1))*f (j+(m+1))=2 ^ j*(2*(2 ^ m*f (j+(m+1)))):=by
    rw[Int.pow_add,Int.pow_succ,Int.mul_assoc,Int.mul_comm (2 ^ m) 2,Int.mul_assoc]
   rw[e,Int.add_mul_ediv_left _ _ c,Int.add_mul_emod_self_left];exact O4 (j+(m+1)) (λi d=>h i (by omega)) j (by omega)
section
variable {C D:Cel}{p1 p2 ps:Aa (Af×Af)}{wf1 wf2 ef1 ef2 wfJ efJ fed:Af->Int}{W:Nat}
theorem CL (l:RG C p1) (r:RG D p2) (o:PrsOk (hI C p1) (lJ D p2) ps) (I:RG (jC C D ps) (jP p1 p2 ps)) (J:∀ p∈p1,mI (ef1 p.2))
  (w1:∀ x∈lJ C p1,wfJ (fA x)=wf1 x) (w2:∀ x∈lJ D p2,x∉ps.map (·.2)->wfJ (fB x)=wf2 x) (T:∀ p∈p1,efJ (fA p.2)=ef1 p.2) (U:∀ p∈p2,efJ (fB p.2)=ef2 p.2)
  (f1:∀ p∈ps,fed p.2=sN (λj=>2 ^ j*uR C p1 wf1 ef1 j p.1) W) (f2:∀ x∈lJ D p2,x∉ps.map (·.2)->fed x=wf2 x) :
  ∀ j,j<W->(∀ x∈C.names,uR (jC C D ps) (jP p1 p2 ps) wfJ efJ j (fA x)=uR C p1 wf1 ef1 j x)/\∀ x∈D.names,uR (jC C D ps) (jP p1 p2 ps) wfJ efJ j (kU ps x)=uR D p2 fed ef2 j x:=by
 have pin:∀ p∈ps,p.2∈D.ins:=λp d=>(aX.mp (o.m p d).2).1
 have i:∀ p∈ps,p.1∈C.outs:=λp d=>(aX.mp (o.m p d).1).1
 have f:∀ q∈p2,q.2∉ps.map (·.2):=λq N z=>by
  obtain⟨p,d,e⟩:=aD.mp z;exact B3 (o.m p d).2 (e▸aU N)
 have P:∀ g∈D.gates,kU ps g.1=fB g.1:=λg u=>sZ (Jd r.gc.nd pin (aU u))
 have R1:=E3 (C:=C) l.n2 (wf:=wf1) J W;have Q:=R1.bits l.row;have w:∀ p∈ps,∀ j,j<W->mI (uR C p1 wf1 ef1 j p.1):=λp d j s=>(Q j s).2 p.1 (i p d)
 have step:∀ j,j<W->(∀ p∈p1,lU efJ (uR (jC C D ps) (jP p1 p2 ps) wfJ efJ) j (fA p.1,fA p.2)=lU ef1 (uR C p1 wf1 ef1) j p)->(∀ p∈p2,lU efJ (uR (jC C D ps) (jP p1 p2 ps) wfJ efJ) j (kU ps p.1,kU ps p.2)=lU ef2 (uR D p2 fed ef2) j p) ->
   (∀ x∈C.names,uR (jC C D ps) (jP p1 p2 ps) wfJ efJ j (fA x)=uR C p1 wf1 ef1 j x)/\∀ x∈D.names,uR (jC C D ps) (jP p1 p2 ps) wfJ efJ j (kU ps x)=uR D p2 fed ef2 j x:=by
  intro j s K L;let h:=rR (jC C D ps) (jP p1 p2 ps) wfJ efJ j;have B:uR (jC C D ps) (jP p1 p2 ps) wfJ efJ j=oZ (oZ h (C.gates.map (nB fA))) (D.gates.map (nB (kU ps))):=by
   rw[Fc];exact Rz _ _ _
  have F:(jP p1 p2 ps).map (·.2)=p1.map (λp=>fA p.2)++p2.map (λp=>kU ps p.2):=by
   unfold jP oQ;rw[List.map_append,List.map_map,List.map_map];rfl
  have A:∀ x∈C.ins,h (fA x)=rR C p1 wf1 ef1 j x:=λx t=>by
   by_cases q:x∈p1.map (·.2)
   .obtain⟨p,d,rfl⟩:=aD.mp q;have a:=Ca (wf:=wfJ) (c:=lU efJ (uR (jC C D ps) (jP p1 p2 ps) wfJ efJ) j) (j:=j) I.n2 (p:=(fA p.1,fA p.2)) (aM _ (aD.mpr ⟨p,d,rfl⟩));have b:=Ca (wf:=wf1) (c:=lU ef1 (uR C p1 wf1 ef1) j) (j:=j) l.n2 d;exact a.trans ((K p d).trans b.symm)
   .have n:fA x∉(jP p1 p2 ps).map (·.2):=λz=>by
     rw[F] at z;rcases aY.mp z with z | z<;>obtain⟨p,d,e⟩:=aD.mp z
     .exact q (aD.mpr ⟨p,d,qT e⟩)
     .rw[sZ (f p d)] at e;exact rD _ _ e.symm
    have a:h (fA x)=_:=zE n;have b:rR C p1 wf1 ef1 j x=_:=zE q;rw[a,b,w1 x (aX.mpr ⟨t,by rw[aP q];rfl⟩)]
  have mid:∀ x∈C.names,oZ h (C.gates.map (nB fA)) (fA x)=uR C p1 wf1 ef1 j x:=λx t=>by
   rw[Fc];exact Jt C.gates C.ins _ _ l.gc.gt (λa _ b _ e=>qT e) A x t
  refine⟨λx t=>?_,λx t=>?_⟩
  .rw[B,Ge _ _ λz=>?_,mid x t];obtain⟨M,k,e⟩:=aD.mp z;obtain⟨g,u,rfl⟩:=aD.mp k;have e:kU ps g.1=fA x:=e;rw[P g u] at e;exact rD _ _ e.symm
  .rw[B,Fc];refine Jt D.gates D.ins _ _ r.gc.gt (λa _ b _ e=>Ci o.n1 o.n2 e) (λy O=>?_) x t;rcases sX ps y with⟨p,d,rfl,v⟩ | ⟨G,v⟩
   .rw[v,mid _ (l.gc.os _ (i p d))];have b:rR D p2 fed ef2 j p.2=_:=zE (B3 (o.m p d).2);rw[b,f1 p d,O4 W (w p d) j s]
   .rw[v,Ge _ _ λz=>?_]
    .by_cases q:y∈p2.map (·.2)
     .obtain⟨p,d,rfl⟩:=aD.mp q;have a:=Ca (wf:=wfJ) (c:=lU efJ (uR (jC C D ps) (jP p1 p2 ps) wfJ efJ) j) (j:=j) I.n2 (p:=(kU ps p.1,kU ps p.2)) (aJ _ (aD.mpr ⟨p,d,rfl⟩));have b:=Ca (wf:=fed) (c:=lU ef2 (uR D p2 fed ef2) j) (j:=j) r.n2 d;have a:h (kU ps p.2)=_:=a;rw[L p d,v] at a;exact a.trans b.symm
     .have n:fB y∉(jP p1 p2 ps).map (·.2):=λz=>by
       rw[F] at z;rcases aY.mp z with z | z<;>obtain⟨p,d,e⟩:=aD.mp z
       .exact rD _ _ e
       .rw[sZ (f p d)] at e;exact q (aD.mpr ⟨p,d,Ed e⟩)
      have a:h (fB y)=_:=zE n;have b:rR D p2 fed ef2 j y=_:=zE q;have H:y∈lJ D p2:=aX.mpr ⟨O,by rw[aP q];rfl⟩;rw[a,b,w2 y H G,f2 y H G]
    .obtain⟨M,k,e⟩:=aD.mp z;obtain⟨g,u,rfl⟩:=aD.mp k;have e:fA g.1=fB y:=e;exact rD _ _ e
 intro j;induction j with
 | zero =>
  intro s;refine step 0 s (λp d=>T p d) λp d=>?_
  show efJ (kU ps p.2)=ef2 p.2;rw[sZ (f p d)];exact U p d
 | succ j E=>exact λs=>step (j+1) s (λp d=>(E (by omega)).1 p.1 (l.gc.os _ (l.m p d).1)) λp d=>(E (by omega)).2 p.1 (r.gc.os _ (r.m p d).1)
end
theorem Um:(["pair"]:Aa Af).Nodup:=by decide +kernel
theorem Xp:(["name"]:Aa Af).Nodup:=by decide +kernel
theorem Zs:(["name","first"]:Aa Af).Nodup:=by decide +kernel
def qZ (C:Cel) (r:Aa (Af×Af)) (l g o:Af->Int) (W:Nat) (I:Aa (Af×Af)) (x:Af):Int:=match I.find? λp=>decide (p.2=x) with
 | some p=>sN (λj=>2 ^ j*uR C r l g j p.1) W
 | none=>o x
def nY (g:Aa Af) (f:Af->Int):mS:=g.map λx=>(x,f x)
theorem zP (h:x∈g):kR (eW (nY g f)) (Sum.inr x)=some (.int (f x)):=by
 rw[(rJ _ x).1 (by unfold nY;rw[sE];exact h)];unfold nY;rw[Gj h]
def uY (C:Cel) (l:Aa (Af×Af)) (D:Cel) (p g:Aa (Af×Af)) (r I:Nat->Af->Int) (W:Nat):mS:=((hI C l).filter λo=>!decide (o∈g.map (·.1))).map (λo=>(fA o,sN (λj=>2 ^ j*r j o) W))++(hI D p).map λo=>(kU g o,sN (λj=>2 ^ j*I j o) W)
def uU (l o r:Aa (Af×Af)) (g j:Af->Int) (C I:Nat->Af->Int) (W:Nat):mS:=l.map (λp=>(fA p.1,lU g C W p))++o.map λp=>(kU r p.1,lU j I W p)
def Rr:RD:=λq m n=>∃ (C:Cel) (d:Aa (Af×Af)) (f:Cel) (h i:Aa (Af×Af)) (W:Nat) (b a e c:Af->Int),m=[kS C d,kS f h,.t (i.map mP),.int W,.l [.k (eW (nY C.ins b)),.k (eW (nY f.ins e))],.l [.k (eW (nY C.ins a)),.k (eW (nY f.ins c))]] /\
 RG C d/\RG f h/\PrsOk (hI C d) (lJ f h) i/\i.length<=40/\1<=W/\W<=60/\(∀ x∈C.ins,0<=b x/\mI (a x))/\(∀ x∈f.ins,0<=e x/\mI (c x)) /\
 ((uY C d f h i (uR C d b a) (uR f h (qZ C d b a e W i) c) W).map (·.1)).Nodup/\((uU d h i a c (uR C d b a) (uR f h (qZ C d b a e W i) c) W).map (·.1)).Nodup /\
 n (.v (.t [.k (eW (uY C d f h i (uR C d b a) (uR f h (qZ C d b a e W i) c) W)),.k (eW (uU d h i a c (uR C d b a) (uR f h (qZ C d b a e W i) c) W))]))
abbrev Z8 (C:Cel) (p1:Aa (Af×Af)) (g:Cel) (p2 ps:Aa (Af×Af)) (W:Nat) (T j U o:Af->Int) (s6 s7 s8 s9 p r I J:Sl):Aa Sl:=[.v (kS C p1),.v (kS g p2),.v (.t (ps.map mP)),.v (.int W),.v (.l [.k (eW (nY C.ins T)),.k (eW (nY g.ins U))]),.v (.l [.k (eW (nY C.ins j)),.k (eW (nY g.ins o))]),s6,s7,s8,s9,p,r,I,J]
theorem R9 {W:Nat}(h:p.2∉o.map (·.2)) (x:Af):qZ C I l g r W (o++[p]) x=if p.2=x then sN (λj=>2 ^ j*uR C I l g j p.1) W else qZ C I l g r W o x:=by
 unfold qZ;rw[List.find?_append];by_cases q:p.2=x
 .have:o.find? (λp=>decide (p.2=x))=none:=gK.mpr λy a z=>h (by rw[q,<- cR z];exact aU a)
  rw[aZ q,this,Option.none_or,cX,aV q]
 .rw[aK q,cX,aP q,List.find?_nil,Option.or_none]
theorem Iy (C:Cel) (I:Aa (Af×Af)) (l g o:Af->Int) (W:Nat) (r:Aa (Af×Af)) (x:Af):(∃ p∈r,p.2=x/\qZ C I l g o W r x=sN (λj=>2 ^ j*uR C I l g j p.1) W)\/(x∉r.map (·.2)/\qZ C I l g o W r x=o x):=by
 unfold qZ;cases e:r.find? λp=>decide (p.2=x) with
 | some p=>exact .inl ⟨p,fV e,cR (jT (p:=λp:Af×Af=>decide (p.2=x)) e),rfl⟩
 | none =>
  refine .inr ⟨λz=>?_,rfl⟩;obtain⟨p,a,q⟩:=aD.mp z;have:=gK.mp e p a;simp[q] at this
theorem yM (t:mS):tK (eW t)=(t.map (·.1)).map D.str:=by unfold tK eW;rw[List.map_map,List.map_map];rfl
theorem D7 (g:(t.map (·.1)).Nodup) (h:p∈t):kR (eW t) (Sum.inr p.1)=some (.int p.2):=by
 rw[(rJ t p.1).1 (aU h),xC g h]
theorem Ck (h:x∉t.map (·.1)):nN (eW t) (Sum.inr x) (.int i)=eW (t++[(x,i)]):=by
 rw[Jk];unfold sR;rw[if_neg h]
section
variable {P:Ah}{K:kQ}
theorem rP:FnScope ["one","other","pairs","width","words","edges","first","fed","output","name","second","found","renamed","ends"] ["one","other","pairs","width","words","edges"] (lQ Di):=mO
theorem Zw (T:Txt mg) (l:Kn P w K mg base 3 "_law_laid" Ep ["row","width","words","edges"] Mt):mM P w K mg base 4 "_law_due" Di ["one","other","pairs","width","words","edges"] Rr:=by
 refine mT rP λf a7 A ay s H E dk ds Φ hr X hR=>?_
 obtain⟨C,B,u,a,F,W,r,d,ab,M,rfl,h1,h2,pk,lp,w1,ar,ag,ah,ax,an,aw⟩:=hR;refine⟨_,(gD (kZ 6 rP.nd (lD l hr (dK (eH 0) (dK (eH 3) (dK (hB X 4 eI) (dK (hB X 5 eI) eJ)))))) (gD (kZ 7 rP.nd (lZ (pU rfl) pR T.dict bQ (dK (hB X 4 eI) eJ))) (gD (oE (lK (eH 2)) (nK (n:=2) rfl (lL (hO 8 rP.nd) (lL (hO 9 rP.nd) nJ))) (kX (sF (n:=7) X (lV X (hB X 6 eI) (eH 8)) (pv 7) (eH 9)))) (gD (kZ 10 rP.nd (lD l hr (dK (eH 1) (dK (eH 3) (dK (eH 7) (dK (hB X 5 eI) eJ)))))) (gD (kZ 11 rP.nd yG) (gD (D5 (m:=99) gO rfl (hB X 6 eI) (hO 9 rP.nd) (kX (nW (oO (rF X) (qQ true) (pv 9) (mF ["pair"] [] [] (lK (eH 2)) (λ_ _ _ _ _=>(hO 0 Um)) (λ_ _ _ _ _=>(hB X 0 eI)))) (kX (sF (n:=11) X (lV X (hB X 6 eI) (eH 9)) (pv 11) (kT lO lM mJ (eH 9)))) nT))) (gD (kZ 12 rP.nd (lZ (pU rfl) pR T.dict bQ (dK (Pj ["name"] [] [] rfl (hB X 10 eI) rfl rfl (λ_ _ _ _ _=>(hO 0 Xp)) (λ_ _ _ _ _=>Bu) (λ_ _ _ _ _=>(lI (dK (eH 0) (dK (kT lO lM mJ (eH 0)) eJ))))) eJ))) (gD (oE (lK (eH 2)) (nK (n:=2) rfl (lL (hO 8 rP.nd) (lL (hO 9 rP.nd) nJ))) (kX (sF (n:=12) X (kT lO lM mJ (eH 8)) (pv 12) (eH 9)))) (gD (D5 (m:=99) gO rfl (hB X 10 eI) (hO 9 rP.nd) (kX (sF (n:=11) X (lV X (hB X 10 eI) (eH 9)) (pv 11) (hB X 12 (eH 9))))) (gD (kZ 13 rP.nd (lZ (pU rfl) pR T.dict bQ (dK (Pj ["name"] ["first"] [6] rfl (hB X 6 eI) rfl rfl (λ_ _ _ _ _=>(hO 0 Zs)) (λ_ _ _ _ _=>Bu) (λ_ _ _ _ _=>(lI (dK (kT lO lM mJ (eH 0)) (dK (lV X (hB X 1 eI) (eH 0)) eJ))))) eJ))) (gD (D5 (m:=99) gO rfl (hB X 10 eI) (hO 9 rP.nd) (kX (sF (n:=13) X (lV X (hB X 10 eI) (eH 9)) (pv 13) (Ot X (pv 12) (eH 9) (kT lO lM mJ (eH 9)))))) (kX (lX (lI (dK (eH 11) (dK (eH 13) eJ)))))))))))))))),?_⟩;let Y:=uR C B r d;let fd:=qZ C B r d ab W F;let u2:=uR u a fd M;have a1:=h1.gc.li;have a3:=h1.gc.lo;have c1:=h2.gc.li;have c3:=h2.gc.lo;have d1:=h1.lp;have d2:=h2.lp;have b1:∀ p∈B,mI (d p.2):=λp Q=>(ag _ (h1.m p Q).2).2
 have b2:∀ p∈a,mI (M p.2):=λp Q=>(ah _ (h2.m p Q).2).2
 have R1:RunOk C B W r d Y (rR C B r d):=E3 h1.n2 b1 W;have R2:RunOk u a W fd M u2 (rR u a fd M):=E3 h2.n2 b2 W;have pin:∀ p∈F,p.2∈u.ins:=λp Q=>(aX.mp (pk.m p Q).2).1
 have a0:∀ p∈F,p.1∈C.names:=λp Q=>h1.gc.os _ (aX.mp (pk.m p Q).1).1
 have lo1:(hI C B).length<=40:=bS (bU ..) a3;have a8:(hI u a).length<=40:=bS (bU ..) c3;let o1:mS:=lT C B Y W;let o2:mS:=lT u a u2 W;let e1:mS:=B.map λp=>(p.1,lU d Y W p)
 let e2:mS:=a.map λp=>(p.1,lU M u2 W p)
 have ak:o1.map (·.1)=hI C B:=by show (lT C B Y W).map (·.1)=_;unfold lT;rw[sE]
 have af:o2.map (·.1)=hI u a:=by show (lT u a u2 W).map (·.1)=_;unfold lT;rw[sE]
 have ai:e1.map (·.1)=B.map (·.1):=by show (B.map λp=>(p.1,lU d Y W p)).map (·.1)=_;rw[aG];rfl
 have aj:e2.map (·.1)=a.map (·.1):=by show (a.map λp=>(p.1,lU M u2 W p)).map (·.1)=_;rw[aG];rfl
 have aq:∀ o∈hI C B,kR (eW o1) (Sum.inr o)=some (.int (sN (λj=>2 ^ j*Y j o) W)):=λo ho=>D7 (t:=o1) (p:=(o,sN (λj=>2 ^ j*Y j o) W)) (by rw[ak];exact tQ h1.gc) (aD.mpr ⟨o,ho,rfl⟩)
 have a6:∀ o∈hI u a,kR (eW o2) (Sum.inr o)=some (.int (sN (λj=>2 ^ j*u2 j o) W)):=λo ho=>D7 (t:=o2) (p:=(o,sN (λj=>2 ^ j*u2 j o) W)) (by rw[af];exact tQ h2.gc) (aD.mpr ⟨o,ho,rfl⟩)
 have a4:∀ p∈B,kR (eW e1) (Sum.inr p.1)=some (.int (lU d Y W p)):=λp Q=>D7 (t:=e1) (p:=(p.1,lU d Y W p)) (by rw[ai];exact h1.n1) (aD.mpr ⟨p,Q,rfl⟩)
 have a5:∀ p∈a,kR (eW e2) (Sum.inr p.1)=some (.int (lU M u2 W p)):=λp Q=>D7 (t:=e2) (p:=(p.1,lU M u2 W p)) (by rw[aj];exact h2.n1) (aD.mpr ⟨p,Q,rfl⟩)
 let S:=Z8 C B u a F W r d ab M;let I:Sl:=.v (.t [.k (eW o1),.k (eW e1)]);let L:Sl:=.v (.t [.k (eW o2),.k (eW e2)]);refine gV (λG=>G=S I .n .n .n .n .n .n .n) (λN U=>?_) ?_
 .refine⟨rfl,_,rfl,rfl,_,rfl,C,B,W,eW (nY C.ins r),eW (nY C.ins d),r,d,Y,rR C B r d,rfl,h1.row,R1,w1,ar,λx R=>?_,λp Q=>zP (h1.m p Q).2,.inl rfl,U _ rfl⟩;have:=(aX.mp R).1;exact⟨zP this,(ag x this).1⟩
 rintro _ rfl;refine gV (λG=>G=S I (.o (.k (eW (nY u.ins ab)))) .n .n .n .n .n .n) (λN U=>⟨rfl,_,rfl,U _ rfl⟩) ?_;rintro _ rfl;have ao:∀ {i:Nat} {p:Af×Af},F[i]?=some p->F.take (i+1)=F.take i++[p]/\p.2∉(F.take i).map (·.2):=λ{i p} Q=>by
  have et:F.take (i+1)=F.take i++[p]:=by rw[cA,Q];rfl
  refine⟨et,λq=>?_⟩;have:=pk.n2.sublist ((fG (i+1) F).map (·.2));rw[et,aF] at this;exact (bC.mp this).2.2 _ q _ (aW.mpr rfl) rfl
 refine gV (λG=>∃ kv O b,(∀ x∈u.ins,kR kv (Sum.inr x)=some (.int (fd x)))/\G=S I (.o (.k kv)) O b .n .n .n .n) (λN U=>?_) ?_
 .refine nR (F.map mP) _ (λΨ h=>h) (λi G=>∃ kv O b,(∀ x∈u.ins,kR kv (Sum.inr x)=some (.int (qZ C B r d ab W (F.take i) x)))/\kv.length<=40+i/\G=S I (.o (.k kv)) O b .n .n .n .n) ⟨_,.n,.n,λx R=>zP R,by rw[pB];unfold nY;rw[List.length_map];omega,rfl⟩ ?_ ?_
  .rintro i x G R ⟨kv,O,b,hv,hl,rfl⟩;obtain⟨p,Q,rfl⟩:=qI R;obtain⟨et,hn⟩:=ao Q;have pm:=pk.m p (aE Q);have hi:=(aL.mp Q).1;refine⟨rfl,rfl,rfl,_,rfl,.int (sN (λj=>2 ^ j*Y j p.1) W),by show some (kR (eW o1) (Sum.inr p.1))=_;rw[aq p.1 pm.1],rfl,_,rO (by omega),_,.v (.str p.1),.v (.str p.2),λx R=>?_,by have:=xH kv (Sum.inr p.2:fS) (.int (sN (λj=>2 ^ j*Y j p.1) W));omega,rfl⟩;rw[xB,et,R9 hn];by_cases q:p.2=x
   .rw[aZ (by rw[q]),aZ q]
   .rw[aK λz=>q (dD z),aK q,hv x R]
  .rintro G ⟨kv,O,b,hv,hl,rfl⟩;rw[aA,cN] at hv;exact U _ ⟨kv,O,b,hv,rfl⟩
 rintro _ ⟨kv,O,b,hv,rfl⟩;let s7:Sl:=.v (.k kv);refine gV (λG=>G=S I s7 O b L .n .n .n) (λN U=>?_) ?_
 .refine⟨rfl,_,rfl,u,a,W,kv,eW (nY u.ins M),fd,M,u2,rR u a fd M,rfl,h2.row,R2,w1,ar,λx R=>?_,λp Q=>zP (h2.m p Q).2,.inl rfl,U _ rfl⟩;have ac:=(aX.mp R).1;refine⟨hv x ac,?_⟩;rcases Iy C B r d ab W F x with⟨p,Q,_,e⟩ | ⟨_,e⟩
  .show 0<=qZ C B r d ab W F x;rw[e];exact (Iz W λj hj=>(R1.bits h1.row j hj).2 p.1 (aX.mp (pk.m p Q).1).1).1
  .show 0<=qZ C B r d ab W F x;rw[e];exact (ah x ac).1
 rintro _ rfl;refine gV (λG=>G=S I s7 O b L (.o (.k [])) .n .n) (λN U=>U _ rfl) ?_;rintro _ rfl;let fr:Af->Bool:=λo=>!decide (o∈F.map (·.1))
 let T1 (i:Nat):mS:=(((hI C B).take i).filter fr).map λo=>(fA o,sN (λj=>2 ^ j*Y j o) W)
 refine gV (λG=>∃ b,G=S I s7 O b L (.o (.k (eW (T1 (hI C B).length)))) .n .n) (λN U=>?_) ?_
 .refine nR ((hI C B).map D.str) (S I s7 O b L (.o (.k [])) .n .n) (λΨ h=>⟨rfl,_,rfl,?_⟩) (λi G=>∃ b,G=S I s7 O b L (.o (.k (eW (T1 i)))) .n .n) ⟨b,rfl⟩ ?_ ?_
  .show Ψ (tK (eW o1)) _;rw[yM,ak];exact h
  .rintro i x G R ⟨b,rfl⟩;obtain⟨o,ho,rfl⟩:=qI R;have om:=aE ho;have hi:=(aL.mp ho).1;have et:(hI C B).take (i+1)=(hI C B).take i++[o]:=by rw[cA,ho];rfl
   have lt:(T1 i).length<=40:=by
    show (List.map _ _).length<=40;rw[aA];exact bS (bU ..) (by rw[cC];omega)
   refine⟨rfl,?_⟩;refine mC F mP (λp=>D.str p.1) _ (λΨ h=>h) (by omega) (λi p ys Nx e q1 q2=>⟨rfl,_,rfl,q1,q2⟩) ?_;have ee:(F.map λp=>D.str p.1)=(F.map (·.1)).map D.str:=by rw[aG];rfl
   refine⟨.str o,(F.map (·.1)).map V.str,rfl,by rw[ee];exact qU _,?_⟩;rw[qC];by_cases q:o∈F.map (·.1)
   .refine nI (by simp[nb,q]) ⟨.v (.str o),?_⟩;have:T1 (i+1)=T1 i:=by
     show (((hI C B).take (i+1)).filter fr).map _=_;rw[et,iL,show [o].filter fr=[] by simp[fr,q],cD]
    rw[this];rfl
   .refine oI (by simp[nb,q]) ?_;have l1:=(h1.az o (h1.gc.os o (aX.mp om).1)).hi;refine⟨rfl,_,rfl,.int (sN (λj=>2 ^ j*Y j o) W),by show some (kR (eW o1) (Sum.inr o))=_;rw[aq o om],rfl,by show 1+o.length<=100000;omega,_,rO (by rw[pB];omega),.v (.str o),?_⟩;have hn:fA o∉(T1 i).map (·.1):=λz=>by
     show False;have z:fA o∈((((hI C B).take i).filter fr).map λo=>(fA o,sN (λj=>2 ^ j*Y j o) W)).map (·.1):=z;rw[aG] at z;obtain⟨y,hy,e⟩:=aD.mp z;have e:y=o:=qT e;have nd:=(tQ (prs:=B) h1.gc).sublist (fG (i+1) _);rw[et] at nd;exact (bC.mp nd).2.2 y (aX.mp hy).1 o (aW.mpr rfl) e
    have:T1 (i+1)=T1 i++[(fA o,sN (λj=>2 ^ j*Y j o) W)]:=by
     show (((hI C B).take (i+1)).filter fr).map _=_;rw[et,iL,show [o].filter fr=[o] by simp[fr,q],aF];rfl
    rw[this,<- Ck hn];rfl
  .rintro G ⟨b,rfl⟩;rw[aA];exact U _ ⟨b,rfl⟩
 rintro _ ⟨b,rfl⟩;let Z:Sl:=.o (.k (eW (T1 (hI C B).length)));refine gV (λG=>∃ J,((∀ x∈hI u a,kR J (Sum.inr x)=some (.str (kU [] x)))/\(∀ x,x∉hI u a->kR J (Sum.inr x)=none)/\J.length<=40)/\G=S I s7 O b L Z (.o (.k J)) .n) (λN U=>?_) ?_
 .unfold mV dC aC;refine mC (hI u a) D.str (λn=>.t [.str n,.str ("b" ++ n)]) (S I s7 O b L Z .n .n) (λΨ h=>⟨rfl,_,rfl,?_⟩) (by omega) (λi n ys Nx e q1 q2=>?_) ?_
  .show Ψ (tK (eW o2)) _;rw[yM,af];exact h
  .have:=(h2.az n (h2.gc.os n (aX.mp (aE e)).1)).hi;exact⟨by show 1+n.length<=100000;omega,by show 2<=1000;decide,q1,q2⟩
  have e0:oK ((hI u a).map λn=>D.t [.str n,.str ("b" ++ n)])=some (oG "b" (hI u a)):=by
   rw[qB (g:=λn=>((Sum.inr n:fS),D.str ("b" ++ n))) (λn=>⟨.str n,rfl,rfl⟩)];rfl
  have nd:=Cm (c := "b") (tQ (prs:=a) h2.gc);have ln:(oG "b" (hI u a)).length=(hI u a).length:=by unfold oG;rw[List.length_map]
  refine⟨_,e0,by omega,U _ ⟨_,⟨λx R=>?_,λx R=>?_,?_⟩,rfl⟩⟩
  .rw[vV _ _ nd,yS R];rfl
  .rw[vV _ _ nd,Ce,Option.or_none];cases z:kR (oG "b" (hI u a)) (Sum.inr x) with
   | none=>rfl
   | some c =>
    have z2:((oG "b" (hI u a)).any λkv=>decide (kv.1=Sum.inr x))=true:=by rw[Bi,z];rfl
    obtain⟨kv,m1,m2⟩:=hX.mp z2;obtain⟨y,hy,rfl⟩:=aD.mp m1;exact absurd (dD (cR m2)▸hy) R
  .have:=Aq (oG "b" (hI u a)) [];rw[eG] at this;omega
 rintro _ ⟨a2,⟨r1,r2,r3⟩,rfl⟩;refine gV (λG=>∃ J O b,((∀ x,x∈hI u a\/x∈F.map (·.2)->kR J (Sum.inr x)=some (.str (kU F x)))/\(∀ x,x∉hI u a->x∉F.map (·.2)->kR J (Sum.inr x)=none))/\G=S I s7 O b L Z (.o (.k J)) .n) (λN U=>?_) ?_
 .refine nR (F.map mP) _ (λΨ h=>h) (λi G=>∃ J O b,((∀ x,x∈hI u a\/x∈(F.take i).map (·.2)->kR J (Sum.inr x)=some (.str (kU (F.take i) x)))/\(∀ x,x∉hI u a->x∉(F.take i).map (·.2)->kR J (Sum.inr x)=none)/\J.length<=40+i)/\G=S I s7 O b L Z (.o (.k J)) .n) ⟨a2,O,b,⟨λx R=>r1 x (R.resolve_right bJ),λx R _=>r2 x R,by omega⟩,rfl⟩ ?_ ?_
  .rintro i x G R ⟨J,O,b,⟨q1,q2,q3⟩,rfl⟩;obtain⟨p,Q,rfl⟩:=qI R;obtain⟨et,hn⟩:=ao Q;have hi:=(aL.mp Q).1;have l1:=(h1.az _ (a0 p (aE Q))).hi;refine⟨rfl,rfl,by show 1+p.1.length<=100000;omega,rfl,_,rO (by omega),_,.v (.str p.1),.v (.str p.2),⟨λx R=>?_,λx R ac=>?_,by have:=xH J (Sum.inr p.2:fS) (.str ("a" ++ p.1));omega⟩,rfl⟩
   .rw[xB,et,Qw hn];by_cases q:p.2=x
    .rw[aZ (by rw[q]),aZ q];rfl
    .rw[aK λz=>q (dD z),aK q];refine q1 x (R.imp id λz=>?_);rw[et,aF] at z;rcases aY.mp z with z | z
     .exact z
     .exact absurd (aW.mp z).symm q
   .rw[et,aF] at ac;rw[xB,aK λz=>ac (aJ _ (aW.mpr (dD z).symm))];exact q2 x R λz=>ac (aM _ z)
  .rintro G ⟨J,O,b,⟨q1,q2,q3⟩,rfl⟩;rw[aA,cN] at q1 q2;exact U _ ⟨J,O,b,⟨q1,q2⟩,rfl⟩
 rintro _ ⟨J,O,b,⟨q1,q2⟩,rfl⟩;let aa:Sl:=.o (.k J);let T2 (i:Nat):mS:=T1 (hI C B).length++((hI u a).take i).map λo=>(kU F o,sN (λj=>2 ^ j*u2 j o) W)
 have tF:T2 (hI u a).length=uY C B u a F Y u2 W:=by
  show ((((hI C B).take (hI C B).length).filter fr).map _)++_=_;rw[cN,cN];rfl
 have lF:(uY C B u a F Y u2 W).length<=80:=by
  unfold uY;rw[aO,aA,aA];have:=bU (λo=>!decide (o∈F.map (·.1))) (hI C B);omega
 refine gV (λG=>∃ b,G=S I s7 O b L (.o (.k (eW (T2 (hI u a).length)))) aa .n) (λN U=>?_) ?_
 .refine nR ((hI u a).map D.str) (S I s7 O b L Z aa .n) (λΨ h=>⟨rfl,_,rfl,?_⟩) (λi G=>∃ b,G=S I s7 O b L (.o (.k (eW (T2 i)))) aa .n) ⟨b,?_⟩ ?_ ?_
  .show Ψ (tK (eW o2)) _;rw[yM,af];exact h
  .show _=S I s7 O b L (.o (.k (eW (T1 (hI C B).length++[])))) aa .n;rw[cD]
  .rintro i x G R ⟨b,rfl⟩;obtain⟨o,ho,rfl⟩:=qI R;have om:=aE ho;have hi:=(aL.mp ho).1;have et:(hI u a).take (i+1)=(hI u a).take i++[o]:=by rw[cA,ho];rfl
   have e2:T2 (i+1)=T2 i++[(kU F o,sN (λj=>2 ^ j*u2 j o) W)]:=by
    show _++((hI u a).take (i+1)).map _=_;rw[et,aF,<- bB];rfl
   have pre:(T2 (i+1)).map (·.1) <+: (T2 (hI u a).length).map (·.1):=by
    refine gU _ ?_;show _++((hI u a).take (i+1)).map _ <+: _++((hI u a).take (hI u a).length).map _;refine (gQ _).mpr (gU _ ?_);rw[cN];exact kL _ _
   have nd:((T2 (i+1)).map (·.1)).Nodup:=(tF▸ax:((T2 (hI u a).length).map (·.1)).Nodup).sublist pre.sublist;have lt:(T2 i).length<=80:=by
    have:=pre.length_le;rw[aA,aA,tF,e2,aO] at this;omega
   have hn:kU F o∉(T2 i).map (·.1):=λz=>by
    rw[e2,aF] at nd;exact (bC.mp nd).2.2 _ z _ (aW.mpr rfl) rfl
   refine⟨rfl,_,rfl,.int (sN (λj=>2 ^ j*u2 j o) W),by show some (kR (eW o2) (Sum.inr o))=_;rw[a6 o om],rfl,rfl,.str (kU F o),by show some (kR J (Sum.inr o))=_;rw[q1 o (.inl om)],_,rO (by rw[pB];omega),.v (.str o),?_⟩;rw[e2,<- Ck hn];rfl
  .rintro G ⟨b,rfl⟩;rw[aA];exact U _ ⟨b,rfl⟩
 rintro _ ⟨b,rfl⟩;rw[tF];let Z:Sl:=.o (.k (eW (uY C B u a F Y u2 W)));let E1:mS:=B.map λp=>(fA p.1,lU d Y W p)
 have lE:(uU B a F d M Y u2 W).length<=80:=by unfold uU;rw[List.length_append,List.length_map,List.length_map];omega
 refine gV (λG=>G=S I s7 O b L Z aa (.o (.k (eW E1)))) (λN U=>?_) ?_
 .unfold mV dC aC;refine mC B (λp=>D.str p.1) (λp=>.t [.str ("a" ++ p.1),.int (lU d Y W p)]) (S I s7 O b L Z aa .n) (λΨ h=>⟨rfl,_,rfl,?_⟩) (by omega) (λi p ys Nx e q1 q2=>?_) ?_
  .show Ψ (tK (eW e1)) _;rw[yM,ai,aG];exact h
  .have pm:=aE e;have:=(h1.az p.1 (h1.gc.os _ (h1.m p pm).1)).hi;exact⟨by show 1+p.1.length<=100000;omega,rfl,_,rfl,.int (lU d Y W p),by show some (kR (eW e1) (Sum.inr p.1))=_;rw[a4 p pm],by show 2<=1000;decide,q1,q2⟩
  have e0:oK (B.map λp=>D.t [.str ("a" ++ p.1),.int (lU d Y W p)])=some (eW E1):=by
   rw[qB (f:=λp:Af×Af=>D.t [.str ("a" ++ p.1),.int (lU d Y W p)]) (g:=λp:Af×Af=>((Sum.inr ("a" ++ p.1):fS),D.int (lU d Y W p))) (λp=>⟨.str ("a" ++ p.1),rfl,rfl⟩)];show some _=some ((B.map λp=>(fA p.1,lU d Y W p)).map _);rw[aG];rfl
  refine⟨_,e0,by rw[pB];show (B.map _).length<=_;rw[aA];omega,?_⟩;rw[sH (by have:=an;unfold uU at this;rw[List.map_append] at this;exact (bC.mp this).1)];exact U _ rfl
 rintro _ rfl;let E2 (i:Nat):mS:=E1++(a.take i).map λp=>(kU F p.1,lU M u2 W p)
 have tE:E2 a.length=uU B a F d M Y u2 W:=by
  show _++(a.take a.length).map _=_;rw[cN];rfl
 refine gV (λG=>∃ b,G=S I s7 O b L Z aa (.o (.k (eW (E2 a.length))))) (λN U=>?_) ?_
 .refine nR (a.map λp=>D.str p.1) (S I s7 O b L Z aa (.o (.k (eW E1)))) (λΨ h=>⟨rfl,_,rfl,?_⟩) (λi G=>∃ b,G=S I s7 O b L Z aa (.o (.k (eW (E2 i))))) ⟨b,?_⟩ ?_ ?_
  .show Ψ (tK (eW e2)) _;rw[yM,aj,aG];exact h
  .show _=S I s7 O b L Z aa (.o (.k (eW (E1++[]))));rw[cD]
  .rintro i x G R ⟨b,rfl⟩;obtain⟨p,Q,rfl⟩:=qI R;have pm:=aE Q;have hi:=(aL.mp Q).1;have et:a.take (i+1)=a.take i++[p]:=by rw[cA,Q];rfl
   have ae:E2 (i+1)=E2 i++[(kU F p.1,lU M u2 W p)]:=by
    show _++(a.take (i+1)).map _=_;rw[et,aF,<- bB];rfl
   have pre:(E2 (i+1)).map (·.1) <+: (E2 a.length).map (·.1):=by
    refine gU _ ?_;show _++(a.take (i+1)).map _ <+: _++(a.take a.length).map _;refine (gQ _).mpr (gU _ ?_);rw[cN];exact kL _ _
   have nd:((E2 (i+1)).map (·.1)).Nodup:=(tE▸an:((E2 a.length).map (·.1)).Nodup).sublist pre.sublist;have lt:(E2 i).length<=80:=by
    have:=pre.length_le;rw[aA,aA,tE,ae,aO] at this;omega
   have hn:kU F p.1∉(E2 i).map (·.1):=λz=>by
    rw[ae,aF] at nd;exact (bC.mp nd).2.2 _ z _ (aW.mpr rfl) rfl
   have l2:=(h2.az p.1 (h2.gc.os _ (h2.m p pm).1)).hi;have hk:∃ o,wY (.k J) (.str p.1)=some o/\o.getD (.str ("b" ++ p.1)) = .str (kU F p.1):=by
    refine⟨kR J (Sum.inr p.1),rfl,?_⟩;by_cases z:p.1∈hI u a\/p.1∈F.map (·.2)
    .rw[q1 _ z];rfl
    .rw[q2 _ (λy=>z (.inl y)) λy=>z (.inr y),sZ λy=>z (.inr y)];rfl
   obtain⟨o,au,av⟩:=hk;refine⟨rfl,_,rfl,.int (lU M u2 W p),by show some (kR (eW e2) (Sum.inr p.1))=_;rw[a5 p pm],rfl,rfl,by show 1+p.1.length<=100000;omega,o,au,?_⟩;dsimp only[sd];rw[av];exact⟨_,rO (by rw[pB];omega),.v (.str p.1),by rw[ae,<- Ck hn];rfl⟩
  .rintro G ⟨b,rfl⟩;rw[aA];exact U _ ⟨b,rfl⟩
 rintro _ ⟨b,rfl⟩;rw[tE];exact⟨by show 2<=1000;decide,aw⟩
end
theorem CB:(["name","row"]:Aa Af).Nodup:=by decide +kernel
theorem IG:(["pair"]:Aa Af).Nodup:=by decide +kernel
theorem AK:(["name"]:Aa Af).Nodup:=by decide +kernel
theorem vN:∀ {g:Aa D},(∀ x∈g,nX x=true)->tY g=true
 | [],_=>rfl
 | x::g,h=>by
  show (nX x&&tY g)=true;rw[h x aT,vN λy a=>h y (bD _ a)];rfl
theorem Pf:∀ {g:Aa D},(∀ x∈g,(py x).depth<=n)->PyData.depthAll (uQ g)<=n
 | [],_=>dR _
 | x::g,h=>Nat.max_le.mpr ⟨h x aT,Pf λy a=>h y (bD _ a)⟩
theorem wL (h:∀ x∈g,(py x).depth<=n):(py (.t g)).depth<=n+1:=by
 show PyData.depthAll (uQ g)+1<=n+1;have:=Pf h;omega
theorem Jp (g:Aa Af):(py (.t (g.map D.str))).depth<=1:=wL (n:=0) λx a=>by
 obtain⟨y,_,rfl⟩:=aD.mp a;exact bF _
theorem HL (C:Cel) (j:Aa (Af×Af)):(py (kS C j)).depth<=60:=by
 have g:∀ g:Af×Af×Aa Af,(py (lY g)).depth<=2:=λg=>wL (n:=1) λx a=>by
  simp only[aI,bJ,dZ] at a;rcases a with rfl | rfl | rfl
  .exact dR _
  .exact dR _
  .exact Jp _
 have c:(py (oW C)).depth<=4:=wL (n:=3) λx a=>by
  simp only[aI,bJ,dZ] at a;rcases a with rfl | rfl | rfl
  .exact bS (Jp _) (by decide)
  .exact wL (n:=2) λx a=>by
    obtain⟨y,_,rfl⟩:=aD.mp a;exact g y
  .exact bS (Jp _) (by decide)
 refine bS (wL (n:=4) λx a=>?_) (by decide);simp only[aI,bJ,dZ] at a;rcases a with rfl | rfl
 .exact c
 .exact bS (wL (n:=1) λx a=>by
   obtain⟨y,_,rfl⟩:=aD.mp a;exact wL (n:=0) λx a=>by
    simp only[aI,bJ,dZ] at a;rcases a with rfl | rfl<;>exact bF _) (by decide)
theorem DC (h:∀ c∈x.cps.toList,97<=c/\c<=122):PyData.strOk x=true:=by
 unfold PyData.strOk;rw[Array.all_eq_true'];intro c a;have:=h c (by simpa using a);exact aV (by omega)
theorem Jy {g:Aa Af}(h:∀ x∈g,PyData.strOk x=true):nX (.t (g.map D.str))=true:=vN λy b=>by
 obtain⟨x,a,rfl⟩:=aD.mp b;exact h x a
theorem HY (h:RG C j):nX (kS C j)=true:=by
 have b:∀ x∈C.names,PyData.strOk x=true:=λx a=>DC (h.az x a).az
 refine vN λx a=>?_
 simp only[aI,bJ,dZ] at a;rcases a with rfl | rfl
 .refine vN λx a=>?_
  simp only[aI,bJ,dZ] at a;rcases a with rfl | rfl | rfl
  .exact Jy λx a=>b x (aM _ a)
  .refine vN λx a=>?_
   obtain⟨g,k,rfl⟩:=aD.mp a;obtain⟨i,t⟩:=List.getElem?_of_mem k;obtain⟨d,f⟩:=h.gc.gt.at t;refine vN λx a=>?_
   simp only[aI,bJ,dZ] at a;rcases a with rfl | rfl | rfl
   .exact b g.1 (aJ _ (aU k))
   .show PyData.strOk g.2.1=true;rcases d.ok with⟨q,_⟩ | ⟨q,_⟩ | ⟨q,_⟩ | ⟨q,_⟩ | ⟨q,_⟩
    .unfold O6 at q;simp only[aI,bJ,dZ] at q;rcases q with q | q | q<;>(rw[q];decide +kernel)
    all_goals (rw[q];decide +kernel)
   .refine Jy λx a=>?_
    rcases aY.mp (f x a) with q | q
    .exact b x (aM _ q)
    .obtain⟨s,c,e⟩:=aD.mp q;exact b x (aJ _ (aD.mpr ⟨s,hG c,e⟩))
  .exact Jy λx a=>b x (h.gc.os x a)
 .refine vN λx a=>?_
  obtain⟨p,n,rfl⟩:=aD.mp a;refine vN λx a=>?_
  simp only[aI,bJ,dZ] at a;rcases a with rfl | rfl
  .exact b p.1 (h.gc.os _ (h.m p n).1)
  .exact b p.2 (aM _ (h.m p n).2)
theorem Q2 (h:RG C g) (k:j (.v (.b (!neg)))):Gg neg (kS C g) (kS C g) j:=by
 have l:=HY h;refine⟨l,l,bS (Nat.min_le_left _ _) (HL C g),?_⟩;rw[SeqAt.eqv_refl _ (Dc l)];cases neg<;>exact k
def x3:Cel:=⟨["x"],[("s","not",["x"])],["s"]⟩
theorem D0:RG x3 []:=by
 refine⟨⟨by show (["x","s"]:Aa Af).Nodup;decide +kernel,⟨⟨.inr (.inr (.inl ⟨rfl,rfl⟩))⟩,(λp c=>c),True.intro⟩,(λo b=>aJ _ b),by show (["s"]:Aa Af).Nodup;simp,by show 1<=40;decide,by show 1<=40;decide,by show 1<=40;decide⟩,cZ,cZ,(λ_ h=>absurd h bJ),by decide,λx a=>?_⟩;have a:x∈(["x","s"]:Aa Af):=a;simp only[aI,bJ,dZ] at a;rcases a with rfl | rfl<;>exact⟨by decide +kernel,by decide +kernel,by decide +kernel⟩
def Od:RD:=λe c d=>∃ C a,c=[kS C a]/\RG C a/\d (.v (.b true))
section
variable {P:Ah}{K:kQ}
theorem D6:FnScope ["row","words","third","pairs"] ["row"] (lQ E5):=mO
theorem GD (T:Txt I) (r:Kn P w K I base 2 "_law_great" Ay ["one","other","pairs"] Gf) (g:Kn P w K I base 4 "rows_together" Cn ["one","other","pairs"] Ic) (j:Kn P w K I base 1 "_law_due_row" yI ["one","other","pairs"] Ef):mM P w K I base 5 "_law_again_right" E5 ["row"] Od:=by
 refine mT D6 λf Z A M s H E dk ds Φ G B hR=>?_
 obtain⟨C,c,rfl,d,F⟩:=hR;have d1:=d.lp;have a3:=d.gc.lo;refine Au (vJ 1 ["name"] ["row"] [0] D6.nd (lK (lV B (hB B 0 eI) eI)) (λ_ _ _ _ _=>(hO 0 CB)) (λ_ _ _ _ _=>(eH 0)) (ht:=λ_ _ _ _ _=>(uI (oO (rF B) (qQ true) (pv 0) (mF ["pair"] [] [] (lK (hB B 1 eI)) (λ_ _ _ _ _=>(hO 0 IG)) (λ_ _ _ _ _=>(hB B 0 eI))))))) ?_;refine Xy (i:=2) D6.nd rfl (Or.inl rfl) rfl ?_;refine⟨_,(gD (kZ 3 D6.nd (lZ pT pM T.tuple bN (dK (mF ["name"] [] [] (lK (Vy Sd U7 (pv 1) Zy (HV eI))) (λ_ _ _ _ _=>(hO 0 AK)) (λ_ _ _ _ _=>(lI (dK (eH 0) (dK mJ eJ))))) eJ))) (gD (nW (Bk (lD r G (dK (eH 0) (dK (eH 2) (dK (eH 3) eJ))))) (kX (lX yY)) nT) (kX (lX (xZ (xK G.units) (wG false) (lD g G (dK (eH 0) (dK (eH 2) (dK (eH 3) eJ)))) (lD j G (dK (eH 0) (dK (eH 2) (dK (eH 3) eJ))))))))),?_⟩;refine gV (λu=>u=[.v (kS C c),.o (.l ((hI C c).map D.str)),.n,.n]) (λN m=>?_) ?_
 .unfold mV;refine sV C.outs D.str D.str (λx=>!decide (x∈c.map λp:Af×Af=>p.1)) _ (λY h=>⟨rfl,_,rfl,_,rfl,h⟩) (by omega) (λi x X S e O Q q3=>?_) (m _ rfl);refine⟨rfl,?_⟩;refine mC c mP (λp=>D.str p.1) _ (λY h=>⟨rfl,_,rfl,h⟩) (by omega) (λi p X S e d U=>⟨rfl,_,rfl,d,U⟩) ?_;have J:(c.map λp=>D.str p.1)=(c.map (·.1)).map D.str:=by rw[aG];rfl
  refine⟨.str x,(c.map (·.1)).map V.str,rfl,by rw[J];exact qU _,?_⟩;rw[qC];show if (!decide (x∈c.map (·.1)))=true then _ else _
  by_cases q:x∈c.map (·.1)
  .exact nI (by rw[aV q];rfl) (q3 (by rw[aV q];rfl))
  .exact oI (by rw[aP q];rfl) ⟨O,Q (by rw[aP q];rfl)⟩
 rintro _ rfl;refine gV (λu=>u=[.v (kS C c),.o (.l ((hI C c).map D.str)),.v (kS x3 []),.n]) (λN m=>?_) ?_
 .exact⟨by show 1<=1000;decide,by show 1<=1000;decide,by show 3<=1000;decide,by show 1<=1000;decide,by show 1<=1000;decide,by show 3<=1000;decide,by show 0<=1000;decide,by show 2<=1000;decide,m _ rfl⟩
 rintro _ rfl;let k:Aa (Af×Af):=((hI C c).take 1).map λo=>(o,("x" : Af))
 have aa:k.length<=1:=by show (List.map _ _).length<=1;rw[aA,cC];omega
 have L:PrsOk (hI C c) (lJ x3 []) k:=by
  refine⟨?_,?_,λp hp=>?_⟩
  .show ((((hI C c).take 1).map λo=>(o,("x" : Af))).map (·.1)).Nodup;rw[aG];exact tR ((tQ d.gc).sublist (fG 1 _)) λx _ y _ e=>e
  .show ((((hI C c).take 1).map λo=>(o,("x" : Af))).map (·.2)).Nodup;cases hI C c with
   | nil=>exact cZ
   | cons a l=>exact bX.mpr ⟨bJ,cZ⟩
  .obtain⟨o,ho,rfl⟩:=aD.mp hp;exact⟨hG ho,by show ("x" : Af)∈(["x"]:Aa Af);simp⟩
 refine gV (λu=>∃ R,u=[.v (kS C c),R,.v (kS x3 []),.v (.t (k.map mP))]) (λN m=>?_) ?_
 .unfold mV dC aC;refine mC ((hI C c).take 1) D.str (λo=>.t [.str o,.str "x"]) [.v (kS C c),.o (.l ((hI C c).map D.str)),.v (kS x3 []),.n] (λY h=>?_) (by rw[cC];omega) (λi x X S e O Q=>⟨by show 2<=1000;decide,O,Q⟩) (m _ ⟨.o (.l ((hI C c).map D.str)),?_⟩)
  .rw[<- JD D.str (hI C c) 1] at h;exact⟨rfl,h⟩
  .show _=[Sl.v (kS C c),.o (.l ((hI C c).map D.str)),.v (kS x3 []),.v (.t ((((hI C c).take 1).map λo=>(o,("x" : Af))).map mP))];rw[aG];rfl
 rintro _ ⟨R,rfl⟩;refine gV (λu=>Fits (jC C x3 k) (jP c [] k)/\u=[.v (kS C c),R,.v (kS x3 []),.v (.t (k.map mP))]) (λN m=>?_) ?_
 .refine⟨C,c,x3,[],k,rfl,d,D0,L,by omega,λb hb=>⟨.inl rfl,rfl,b,rfl,?_⟩⟩;cases b with
  | true=>exact oI rfl F
  | false =>
   refine nI rfl (m _ ⟨?_,rfl⟩);exact Classical.byContradiction λz=>absurd (hb.mpr z) (by decide)
 rintro _ ⟨W,rfl⟩;refine⟨C,c,x3,[],k,rfl,d,D0,L,by omega,W,.inl rfl,C,c,x3,[],k,rfl,d,D0,L,by omega,.inl rfl,?_⟩;exact Q2 (neg:=false) (My d D0 L W) F
end
section
variable {D:Cel}
theorem T8 (r:PrsOk (hI C j) (lJ D l) g):hI (jC C D g) (jP j l g)=((hI C j).filter λo=>!decide (o∈g.map (·.1))).map fA++(hI D l).map (kU g):=by
 have f:(jP j l g).map (·.1)=j.map (λp=>fA p.1)++l.map (λp=>kU g p.1):=by
  unfold jP oQ;rw[List.map_append,List.map_map,List.map_map];rfl
 have b:∀ p∈g,p.1∉j.map (·.1):=λp a z=>by
  have:=(aX.mp (r.m p a).1).2;rw[aV z] at this;cases this
 have i:∀ x,x∉g.map (·.1)->(fA x∈(jP j l g).map (·.1)↔x∈j.map (·.1)):=λx h=>by
  rw[f];constructor
  .intro z;rcases aY.mp z with z | z<;>obtain⟨p,a,e⟩:=aD.mp z
   .exact aD.mpr ⟨p,a,qT e⟩
   .rcases sX g p.1 with⟨q,d,_,c⟩ | ⟨_,c⟩<;>rw[c] at e
    .exact absurd (aD.mpr ⟨q,d,qT e⟩) h
    .exact absurd e.symm (rD _ _)
  .intro z;obtain⟨p,a,rfl⟩:=aD.mp z;exact aM _ (aD.mpr ⟨p,a,rfl⟩)
 have k:∀ x,kU g x∈(jP j l g).map (·.1)↔x∈l.map (·.1):=λx=>by
  rw[f];constructor
  .intro z;rcases aY.mp z with z | z<;>obtain⟨p,a,e⟩:=aD.mp z
   .rcases sX g x with⟨q,d,_,c⟩ | ⟨_,c⟩<;>rw[c] at e
    .exact absurd (aD.mpr ⟨p,a,qT e⟩) (b q d)
    .exact absurd e (rD _ _)
   .exact aD.mpr ⟨p,a,Ci r.n1 r.n2 e⟩
  .intro z;obtain⟨p,a,rfl⟩:=aD.mp z;exact aJ _ (aD.mpr ⟨p,a,rfl⟩)
 unfold hI;rw[yH,iL,jU,jU]
 congr 1
 .rw[kD,kD];refine cL (List.map fA) (iX λx _=>?_);by_cases q:x∈g.map (·.1)
  .simp[q]
  .simp only[Function.comp,i x q];exact Bool.and_comm _ _
 .refine cL (List.map (kU g)) (iX λx _=>?_);simp only[Function.comp,k x]
theorem Sv (T:PrsOk (hI C l) (lJ D p) g) (I:RG C l) (J:RG D p){W:Nat}(h:∀ j,j<W->(∀ x∈C.names,r j (fA x)=U j x)/\∀ x∈D.names,r j (kU g x)=u2 j x):lT (jC C D g) (jP l p g) r W=uY C l D p g U u2 W:=by
 unfold lT uY;rw[T8 T,aF,aG,aG]
 congr 1
 .refine bZ λo b=>?_
  have:=I.gc.os o (aX.mp (aX.mp b).1).1;show (fA o,_)=(fA o,_);rw[Jj W λj a=>by rw[(h j a).1 o this]]
 .refine bZ λo b=>?_
  have:=J.gc.os o (aX.mp b).1;show (kU g o,_)=(kU g o,_);rw[Jj W λj a=>by rw[(h j a).2 o this]]
theorem IH (o:RG C I) (r:RG D J){W:Nat}(hW:1<=W) (h:∀ j,j<W->(∀ x∈C.names,l j (fA x)=T j x)/\∀ x∈D.names,l j (kU g x)=U j x):((jP I J g).map λp=>(p.1,lU ac l W p))=uU I J g aa ab T U W:=by
 obtain⟨j,rfl⟩:∃ j,W=j+1:=⟨W-1,by omega⟩;unfold jP oQ uU;rw[aF,aG,aG]
 congr 1
 .refine bZ λp a=>?_
  show (fA p.1,l j (fA p.1))=(fA p.1,T j p.1);rw[(h j (by omega)).1 p.1 (o.gc.os _ (o.m p a).1)]
 .refine bZ λp a=>?_
  show (kU g p.1,l j (kU g p.1))=(kU g p.1,U j p.1);rw[(h j (by omega)).2 p.1 (r.gc.os _ (r.m p a).1)]
end
def uL (C D:Cel) (f g:Af->Int):mS:=C.ins.map (λx=>(fA x,f x))++D.ins.map λx=>(fB x,g x)
theorem Dx {D:Cel}(j:C.ins.Nodup) (l:D.ins.Nodup) (f g:Af->Int):((uL C D f g).map (·.1)).Nodup:=by
 unfold uL;rw[aF,aG,aG,bC];have h:(C.ins.map ((·.1)∘λx=>(fA x,f x)))=C.ins.map fA:=bZ λ_ _=>rfl
 have i:(D.ins.map ((·.1)∘λx=>(fB x,g x)))=D.ins.map fB:=bZ λ_ _=>rfl
 rw[h,i];refine⟨tR j λx _ y _ e=>qT e,tR l λx _ y _ e=>Ed e,λx c y d e=>?_⟩;obtain⟨a,_,rfl⟩:=aD.mp c;obtain⟨b,_,rfl⟩:=aD.mp d;exact rD a b e
theorem Ja {D:Cel}(j:C.ins.Nodup) (l:D.ins.Nodup) (o:x∈C.ins):look (uL C D f g) (fA x)=f x:=xC (p:=(fA x,f x)) (Dx j l f g) (aM _ (aD.mpr ⟨x,o,rfl⟩))
theorem Gw {D:Cel}(j:C.ins.Nodup) (l:D.ins.Nodup) (o:x∈D.ins):look (uL C D f g) (fB x)=g x:=xC (p:=(fB x,g x)) (Dx j l f g) (aJ _ (aD.mpr ⟨x,o,rfl⟩))
theorem N4 {D:Cel}(h:z∈(jC C D j).ins):z∈(uL C D f g).map (·.1):=by
 rw[vC] at h;unfold uL;rw[aF];rcases aY.mp h with q | q<;>obtain⟨x,a,rfl⟩:=aD.mp q
 .exact aM _ (aD.mpr ⟨_,aD.mpr ⟨x,a,rfl⟩,rfl⟩)
 .exact aJ _ (aD.mpr ⟨_,aD.mpr ⟨x,(aX.mp a).1,rfl⟩,rfl⟩)
end Lw
namespace L2
open PySem PySem.Spec PyProof.Rows Lw
section
def Cs (g:Ah) (w:World) (A:Around) (s:Ae) (x y:Ac):Prop:=∀ (E:Ac->Ae->Prop) (Q:Bool->Ae->Prop),Q true s->wpAny (model g w) A (eqBool x y) Q E s
end
section
variable {X:Cx}
def An (H:Hp) (x y:V):Prop:=∃ (a b:Ad) (c:Aa (fS×V)),x = .ref a/\y = .ref b/\Rd H a (.k c)/\Rd H b (.k c)/\(c.map (·.1)).Nodup/\∀ p∈c,pF p.2=true/\pH p.2 p.2=true
theorem An.now (I:Inv X g p H s) (h:An H x y) (l:lA x u) (o:lA y v) (j:A.units<cLine):Cs X.prog X.w A s u v:=by
 obtain⟨a,b,c,rfl,rfl,n,t,F,B⟩:=h;cases l;cases o;by_cases e:a=b
 .subst e;exact λE Q q=>SeqAt.EqAt.same _ X.prog X.w E Q q
 intro E Q q;obtain⟨K,d1,i,d,k⟩:=qJ I.hok n;obtain⟨L,d2,G,f,m⟩:=qJ I.hok t;have D:i.length=G.length:=by rw[<- d.length,<- f.length]
 unfold eqBool;refine dB (wpAny_ite_split (λz=>absurd (Value.ref.inj (eq_of_beq z)) e) λ_=>aB ?_);refine PySem.W.keq_eq d1 d2 k m j (λ_=>Zl f F c i d (λ_ h=>h) B) (eC ?_);rw[D];simpa using q
end
section
theorem BR (hl:IsTup s.heap l #[j,o]) (hm:IsTup s.heap m #[C,I]) (hu:A.units<cLine)
  (J:Cs g w A.in1 s j C) (T:Cs g w A.in1 s o I) (U:Q (.bool false) s):wpAny (model g w) A (compareOp .NotEq (.ref l) (.ref m)) Q E s:=by
 obtain⟨t,g1,i,n,d1⟩:=id hl;obtain⟨x,g2,k,q,d2⟩:=id hm;have f:s.TypeIs (.ref l) "tuple" := ⟨_,g1,i⟩;have h:s.TypeIs (.ref m) "tuple" := ⟨_,g2,k⟩;refine wpAny_richCompare_same_room (op:=.NotEq) f h F.slot_tuple_ne ?_ hu;refine cW F.slot_tuple_ne f F.entry_tuple_ne ?_ (F.args_tuple_ne_2 _ _);show wpAny _ _ (isInstance (.ref m) (.type "tuple") >>= _) _ _ s;refine aB (eY h isSubtype_tuple_tuple ?_);simp only[Bool.not_true,fQ,gM];refine aB (wpAny_tupleItemsOf g1 d1 ?_);refine aB (wpAny_tupleItemsOf g2 d2 ?_);refine aB ?_;refine wpAny_forIn_list _ (λrest r c=>r.1=none/\c=s/\∀ p∈rest,Cs g w A.in1 s p.1 p.2) _ ?_ ?_ _ _ ⟨rfl,rfl,λp a=>?_⟩
 .rintro ⟨u,v⟩ rest r c ⟨b,rfl,d⟩;refine aB (d (u,v) aT _ _ ?_);exact aH ⟨rfl,rfl,λp a=>d p (bD _ a)⟩
 .rintro ⟨y,z⟩ c ⟨b,rfl,_⟩;simp only at b;subst b;exact aH ⟨_,rfl,(λe=>nomatch e),U⟩
 .have a:p∈[(j,C),(o,I)]:=a;simp only[aI,bJ,dZ] at a;rcases a with rfl | rfl
  .exact J
  .exact T
end
section
variable {X:Cx}
def Kc:R2:=λx y H Q=>∃ (l m:Ad) (p q a c:V),x = .ref l/\y = .ref m/\H l=some (.t [p,q])/\H m=some (.t [a,c])/\An H p a/\An H q c/\Q (.b false) H
theorem AX (g:X.A.units+64<cLine):lH X (compareOp .NotEq) Kc:=by
 intro i s Z H x y v u Q I L M h;obtain⟨l,m,p,q,W,Y,rfl,rfl,w,z,N,O,k⟩:=h;cases L;cases M;obtain⟨B,F,D,_⟩:=I.tuple (lR.of (K:=X.K) w);obtain⟨f,G,E,_⟩:=I.tuple (lR.of (K:=X.K) z);obtain⟨P,R,n,a,c⟩:=yV F;obtain⟨S,V,t,d,e⟩:=yV G;subst n t;exact BR D E (by omega) (N.now I a d (by rw[Around.in1_units];omega)) (O.now I c e (by rw[Around.in1_units];omega)) ⟨.b false,H,I,rfl,k⟩
def Bd (g:Aa (fS×D)):Prop:=(g.map (·.1)).Nodup/\∃ a:Aa V,uB (g.map (·.2))=some a/\∀ v∈a,pH v v=true
theorem Qf {K:kQ}(f:Bd g) (h:Rep K A H (.k g) v):∃ a j,v = .ref a/\Rd H a (.k j)/\j.map (·.1)=g.map (·.1)/\uB (g.map (·.2))=some (j.map (·.2))/\(j.map (·.2)).all pF=true:=by
 obtain⟨a,j,rfl,_,h,e,r⟩:=h.dK_inv;obtain⟨_,i,b,_⟩:=f;obtain⟨c,d⟩:=Oi b r;exact⟨a,j,rfl,h,e.symm,by rw[b,c],by rw[c];exact d⟩
theorem Q4:∀ {g j:Aa (l×o)},g.map (·.1)=j.map (·.1)->g.map (·.2)=j.map (·.2)->g=j
 | [],[],_,_=>rfl
 | [],_::_,e,_=>by cases e
 | _::_,[],e,_=>by cases e
 | (a,b)::g,(c,d)::j,i,k=>by
  rw[bH,bH] at i k;obtain⟨f,m⟩:=kI i;obtain⟨h,n⟩:=kI k;have f:a=c:=f;have h:b=d:=h;rw[f,h,Q4 m n]
theorem M3 {K:kQ}(f:Bd g) (j:Rep K A H (.k g) x) (l:Rep K A H (.k g) y):An H x y:=by
 obtain⟨a,s,rfl,n,d,h,q⟩:=Qf f j;obtain⟨b,m,rfl,g1,g2,g3,u⟩:=Qf f l;have e:m=s:=Q4 (g2.trans d.symm) (by rw[h] at g3;exact (bT g3).symm);subst e;refine⟨a,b,m,rfl,rfl,n,g1,by rw[d];exact f.1,λp i=>?_⟩;obtain⟨v,c,t⟩:=f.2;rw[h] at c;have c:=bT c;exact⟨eZ.mp q p.2 (aU i),t p.2 (by rw[<- c];exact aU i)⟩
def We:O2:=λd e f=>∃ a c:Aa (fS×D),d = .t [.k a,.k c]/\e = .t [.k a,.k c]/\Bd a/\Bd c/\f (.v (.b false))
theorem CM {K:kQ}:nD K Kc We:=by
 intro B L H d e x y M Q hd z A s k;obtain⟨D,E,rfl,rfl,v,w,f⟩:=s;obtain⟨l,G,rfl,t,a⟩:=z.tup_inv;obtain⟨m,F,rfl,u,c⟩:=A.tup_inv;cases a with
 | cons h a =>
 cases a with
 | cons i a =>
 cases a;cases c with
 | cons n c =>
 cases c with
 | cons q c =>
 cases c;exact⟨l,m,_,_,_,_,rfl,rfl,t,u,M3 v h n,M3 w i q,k _ _ H f (hd.pushF (.b _))⟩
end
end L2
namespace Lw
open PySem L2
theorem IE (K:kQ) (v:Ac):PySem.W.kitOne K v v=some true:=by unfold PySem.W.kitOne;rw[if_pos (by simp)]
def J4:RD:=λf d e=>∃ a:Aa Int,d=[.c (a.map D.int)]/\a.length<=63/\e (.v (.b true))
def E8 (K:kQ):Sp:=wN K J4
abbrev Ib (J:Aa Int) (C:Cel) (T:Aa (Af×Af)) (I:Cel) (U ps:Aa (Af×Af)) (s4 s5 s6 s7 s8 s9 g j l o p r:Sl):Aa Sl:=[.v (.c (J.map D.int)),.v (kS C T),.v (kS I U),.v (.t (ps.map mP)),s4,s5,s6,s7,s8,s9,g,j,l,o,p,r]
theorem Ow (g:(t.map (·.1)).Nodup):Bd (eW t):=by
 refine⟨?_,t.map λp=>V.int p.2,?_,λv a=>?_⟩
 .unfold eW;rw[aG];have:((t.map (·.1)).map (Sum.inr:Af->fS)).Nodup:=gT _ (λx y h e=>h (dD e)) g;rw[aG] at this;exact this
 .unfold eW;rw[aG];exact Fq (f:=λp:Af×Int=>D.int p.2) (λ_=>rfl) t
 .obtain⟨p,_,rfl⟩:=aD.mp a;exact jJ (α:=Int) p.2
abbrev SG:=Af×Aa Af×(Af->Int)×(Af->Int)
def oR (h:SG->Af->Int) (q:SG):mS:=q.2.1.map λx=>(q.1++x,h q x)
section
variable {P:Ah}{K:kQ}
theorem qK:FnScope ["script","one","other","pairs","row","turn","width","words","edges","k","part","both","sides","sign","side","name"] ["script"] (lQ xP):=mO
theorem HU (T:Txt mg) (ab:Kn P w K mg base 6 "_law_two_rows" E6 ["script"] Nu) (ah:Kn P w K mg base 3 "_law_pairs" Dz ["script","one","other"] Qv) (ag:Kn P w K mg base 2 "_law_great" Ay ["one","other","pairs"] Gf) (U:Kn P w K mg base 4 "rows_together" Cn ["one","other","pairs"] Ic) (ae:Kn P w K mg base 1 "_law_due_row" yI ["one","other","pairs"] Ef) (I:Kn P w K mg base 5 "_law_again_right" E5 ["row"] Od) (ai:Kn P w K mg base 1 "_law_draw" tS ["script","k"] vD) (aa:Kn P w K mg base 2 "_law_some" Du ["script","at","names","width"] Rp) (ak:Kn P w K mg base 3 "laid" Cq ["row","width","words","edges"] Ov) (aj:Kn P w K mg base 4 "_law_due" Di ["one","other","pairs","width","words","edges"] Rr):mM P w K mg base 7 "law" xP ["script"] J4:=by
 refine mT qK λf ay A aw s H E dk ds Φ hr hu hR=>?_
 obtain⟨ns,rfl,hl,ar⟩:=hR;refine⟨_,(gD (Q8 (m:=99) (lD ab hr (dK (eH 0) eJ)) (nK (n:=2) rfl (lL (hO 1 qK.nd) (lL (hO 2 qK.nd) nJ)))) (gD (kZ 3 qK.nd (lD ah hr (dK (eH 0) (dK (eH 1) (dK (eH 2) eJ))))) (gD (nW (Bk (lD ag hr (dK (eH 1) (dK (eH 2) (dK (eH 3) eJ))))) (kX (lX yY)) nT) (gD (kZ 4 qK.nd (lD U hr (dK (eH 1) (dK (eH 2) (dK (eH 3) eJ))))) (gD (nW (vO (yK (Gq (Bk (nF (GH _) IU T.isinstance PyProof.Rows.boot_isinstance (dK (eH 4) (dK (IC (by rfl) T.tuple bN) eJ))))) (yK (oO (IF hr.units) (wG true) (pv 4) (lD ae hr (dK (eH 1) (dK (eH 2) (dK (eH 3) eJ))))) (B4 (Gq (Bk (lD I hr (dK (eH 4) eJ)))))))) (kX (lX yY)) nT) (gD (oE (tU (by rfl) T.range eI) (hO 5 qK.nd) (gD (kZ 6 qK.nd (lV hu (qR (dK eI (dK eI (dK (kT lO lM eI (kT mQ mR (lD ai hr (dK (eH 0) (dK (kT lO lM eI (eH 5)) eJ))) eI)) eJ)))) (eH 5))) (gD (kZ 7 qK.nd (qR eJ)) (gD (kZ 8 qK.nd (qR eJ)) (gD (oE (Nl (by rfl) T.enumerate (lI (dK (eH 1) (dK (eH 2) eJ)))) (nK (n:=2) rfl (lL (hO 9 qK.nd) (lL (hO 10 qK.nd) nJ))) (gD (oV (qE bW cE cF sO tX (pv 7) (dK (lD aa hr (dK (eH 0) (dK (kT lO lM (kT lO lM eI (kT tJ tM eI (eH 5))) (kT tJ tM eI (eH 9))) (dK (lV hu (hB hu 10 eI) eI) (dK (eH 6) eJ))))) eJ))) (kX (oV (qE bW cE cF sO tX (pv 8) (dK (lD aa hr (dK (eH 0) (dK (kT lO lM (kT lO lM eI (kT tJ tM eI (eH 5))) (kT tJ tM eI (eH 9))) (dK (lV hu (hB hu 10 eI) eI) (dK eI eJ))))) eJ)))))) (gD (kZ 11 qK.nd yG) (gD (kZ 12 qK.nd yG) (gD (oE (lK (lI (dK (lI (dK mJ (dK (hB hu 7 eI) (dK (hB hu 8 eI) eJ)))) (dK (lI (dK mJ (dK (hB hu 7 eI) (dK (hB hu 8 eI) eJ)))) eJ)))) (nK (n:=3) rfl (lL (hO 13 qK.nd) (lL (hO 10 qK.nd) (lL (hO 14 qK.nd) nJ)))) (kX (D5 (m:=99) gO rfl (eH 10) (hO 15 qK.nd) (gD (sF (n:=11) hu (hB hu 10 (eH 15)) (pv 11) (mK lO lM 13 (eH 15))) (kX (sF (n:=12) hu (hB hu 14 (eH 15)) (pv 12) (mK lO lM 13 (eH 15)))))))) (kX (nW (rY (AX hr.units) CM (lD ak hr (dK (eH 4) (dK (eH 6) (dK (eH 11) (dK (eH 12) eJ))))) (lD aj hr (dK (eH 1) (dK (eH 2) (dK (eH 3) (dK (eH 6) (dK (eH 7) (dK (eH 8) eJ)))))))) (kX (lX yY)) nT)))))))))) (kX (lX yY)))))))),?_⟩;refine gV (λV=>∃ C p1 X p2,RG C p1/\RG X p2/\V=[.v (.c (ns.map D.int)),.v (kS C p1),.v (kS X p2),.n,.n,.n,.n,.n,.n,.n,.n,.n,.n,.n,.n,.n]) (λN Z=>⟨ns,rfl,hl,λC p1 X p2 h1 h2=>⟨.inl rfl,rfl,rfl,Z _ ⟨C,p1,X,p2,h1,h2,rfl⟩⟩⟩) ?_;rintro _ ⟨C,p1,X,p2,h1,h2,rfl⟩;have a1:=h1.gc.li;have a3:=h1.gc.lo;have c1:=h2.gc.li;have d1:=h1.lp;have d2:=h2.lp;have n1:C.ins.Nodup:=(bC.mp h1.gc.nd).1;have n2:X.ins.Nodup:=(bC.mp h2.gc.nd).1;refine gV (λV=>∃ ps,PrsOk (hI C p1) (lJ X p2) ps/\ps.length<=4/\V=Ib ns C p1 X p2 ps .n .n .n .n .n .n .n .n .n .n .n .n) (λN Z=>⟨ns,C,p1,X,p2,rfl,hl,by omega,by omega,by omega,by omega,h1.gc.ond,n2,λps pk lp=>⟨.inl rfl,Z _ ⟨ps,pk,lp,rfl⟩⟩⟩) ?_;rintro _ ⟨ps,pk,lp,rfl⟩;let J:=jC C X ps;let PJ:=jP p1 p2 ps;refine gV (λV=>Fits J PJ/\V=Ib ns C p1 X p2 ps .n .n .n .n .n .n .n .n .n .n .n .n) (λN Z=>?_) ?_
 .refine⟨C,p1,X,p2,ps,rfl,h1,h2,pk,by omega,λb hb=>⟨.inl rfl,rfl,b,rfl,?_⟩⟩;cases b with
  | true=>exact oI rfl ar
  | false=>exact nI rfl (Z _ ⟨Classical.byContradiction λz=>absurd (hb.mpr z) (by decide),rfl⟩)
 rintro _ ⟨ft,rfl⟩;have hJ:RG J PJ:=My h1 h2 pk ft;let S:=Ib ns C p1 X p2 ps (.v (kS J PJ));refine gV (λV=>V=S .n .n .n .n .n .n .n .n .n .n .n) (λN Z=>⟨C,p1,X,p2,ps,rfl,h1,h2,pk,by omega,ft,.inl rfl,Z _ rfl⟩) ?_;rintro _ rfl;refine gV (λV=>V=S .n .n .n .n .n .n .n .n .n .n .n) (λN Z=>?_) ?_
 .refine Bh false (false||false) (λΨ h=>⟨"tuple",true,rfl,IE K _,rfl,true,rfl,h⟩) (λΨ h=>Bh false false (λΨ h=>⟨rfl,C,p1,X,p2,ps,rfl,h1,h2,pk,by omega,.inl rfl,Q2 (neg:=true) hJ h⟩) (λΨ h=>⟨J,PJ,rfl,hJ,.inl rfl,rfl,true,rfl,h⟩) h) ?_;exact nI rfl (Z _ rfl)
 rintro _ rfl;refine gV (λV=>True) (λN Z=>?_) (λ_ _=>ar);refine nR (nL 0 3) _ (λΨ h=>⟨by decide,by decide,h⟩) (λi V=>∃ s5 s6 s7 s8 s9 d af ac O R a,V=S s5 s6 s7 s8 s9 d af ac O R a) ⟨_,_,_,_,_,_,_,_,_,_,_,rfl⟩ ?_ (λ_ _=>Z _ True.intro);rintro i e V he ⟨s5,s6,s7,s8,s9,d,af,ac,O,R,a,rfl⟩;obtain⟨hi,rfl⟩:=vH he;let t5:Sl:=.v (.int (0+(i:Int)));refine gV (λV=>∃ W:Nat,1<=W/\W<=40/\V=S t5 (.v (.int W)) s7 s8 s9 d af ac O R a) (λN Z=>?_) ?_
 .obtain⟨W,w1,au,hW⟩:∃ W:Nat,1<=W/\W<=40/\nH [D.int 1,D.int 2,D.int (1+(kW ns (210+i):Int)%40)] (0+(i:Int))=some (.int W):=by
   rw[show (0:Int)+(i:Int)=(i:Nat) by omega];have h3:i=0\/i=1\/i=2:=by omega
   rcases h3 with rfl | rfl | rfl
   .exact⟨1,by decide,by decide,pL rfl⟩
   .exact⟨2,by decide,by decide,pL rfl⟩
   .refine⟨1+kW ns (210+2)%40,by omega,by have:=cV (kW ns (210+2)) (show 0<40 by decide);omega,?_⟩;rw[show (1:Int)+(kW ns (210+2):Int)%40=((1+kW ns (210+2)%40:Nat):Int) by omega];exact pL rfl
  exact⟨ns,210+i,by simp,hl,by omega,.inl rfl,by show (0:Int)<40;decide,by show 3<=1000;decide,_,hW,Z _ ⟨W,w1,au,rfl⟩⟩
 rintro _ ⟨W,w1,au,rfl⟩;let t6:Sl:=.v (.int W);refine gV (λV=>V=S t5 t6 (.o (.l [])) s8 s9 d af ac O R a) (λN Z=>⟨by show 0<=1000;decide,Z _ rfl⟩) ?_;rintro _ rfl;refine gV (λV=>V=S t5 t6 (.o (.l [])) (.o (.l [])) s9 d af ac O R a) (λN Z=>⟨by show 0<=1000;decide,Z _ rfl⟩) ?_;rintro _ rfl;let G (Q:Cel) (wf ef:Af->Int):Prop:=(∀ x∈Q.ins,0<=wf x/\wf x<2 ^ W)/\∀ x∈Q.ins,0<=ef x/\ef x<2 ^ 1;let dT (Q:Cel) (f:Af->Int):D:=.k (eW (nY Q.ins f));refine gV (λV=>∃ u F M Y s9 d,G C u F/\G X M Y/\V=S t5 t6 (.o (.l [dT C u,dT X M])) (.o (.l [dT C F,dT X Y])) s9 d af ac O R a) (λN Z=>?_) ?_
 .refine nR (vF [kS C p1,kS X p2]) _ (λΨ h=>⟨by show 2<=1000;decide,h⟩) (λk V=>(k=0/\∃ s9 d,V=S t5 t6 (.o (.l [])) (.o (.l [])) s9 d af ac O R a)\/(k=1/\∃ u F s9 d,G C u F/\V=S t5 t6 (.o (.l [dT C u])) (.o (.l [dT C F])) s9 d af ac O R a)\/(k=2/\∃ u F M Y s9 d,G C u F/\G X M Y/\V=S t5 t6 (.o (.l [dT C u,dT X M])) (.o (.l [dT C F,dT X Y])) s9 d af ac O R a)) (.inl ⟨rfl,_,_,rfl⟩) ?_ ?_
  .rintro k e V he (⟨rfl,s9,d,rfl⟩ | ⟨rfl,u,F,s9,d,g1,rfl⟩ | ⟨rfl,_⟩)
   .obtain rfl:D.t [.int 0,kS C p1]=e:=bT he;refine⟨rfl,rfl,?_⟩;refine gV (λV=>∃ u,(∀ x∈C.ins,0<=u x/\u x<2 ^ W)/\V=S t5 t6 (.o (.l [dT C u])) (.o (.l [])) (.v (.int 0)) (.v (kS C p1)) af ac O R a) (λN Z=>⟨rfl,.inl (by decide),.inl (by decide),rfl,_,rfl,_,rfl,ns,220+20*i,C.ins,W,by rw[<- show (220:Int)+20*(0+(i:Int))+10*0=((220+20*i:Nat):Int) by omega],hl,by omega,by omega,n1,w1,by omega,λwf hw=>⟨.inl rfl,by show 0<100000;decide,Z _ ⟨wf,hw,rfl⟩⟩⟩) ?_;rintro _ ⟨u,hw,rfl⟩;exact⟨rfl,.inl (by decide),.inl (by decide),rfl,_,rfl,_,rfl,ns,300+20*i,C.ins,1,by rw[<- show (300:Int)+20*(0+(i:Int))+10*0=((300+20*i:Nat):Int) by omega];rfl,hl,by omega,by omega,n1,by omega,by omega,λef hf=>⟨.inl rfl,by show 0<100000;decide,.inr (.inl ⟨rfl,u,ef,_,_,⟨hw,hf⟩,rfl⟩)⟩⟩
   .obtain rfl:D.t [.int 1,kS X p2]=e:=bT he;refine⟨rfl,rfl,?_⟩;refine gV (λV=>∃ M,(∀ x∈X.ins,0<=M x/\M x<2 ^ W)/\V=S t5 t6 (.o (.l [dT C u,dT X M])) (.o (.l [dT C F])) (.v (.int 1)) (.v (kS X p2)) af ac O R a) (λN Z=>⟨rfl,.inl (by decide),.inl (by decide),rfl,_,rfl,_,rfl,ns,230+20*i,X.ins,W,by rw[<- show (220:Int)+20*(0+(i:Int))+10*1=((230+20*i:Nat):Int) by omega],hl,by omega,by omega,n2,w1,by omega,λwf hw=>⟨.inl rfl,by show 1<100000;decide,Z _ ⟨wf,hw,rfl⟩⟩⟩) ?_;rintro _ ⟨M,hw,rfl⟩;exact⟨rfl,.inl (by decide),.inl (by decide),rfl,_,rfl,_,rfl,ns,310+20*i,X.ins,1,by rw[<- show (300:Int)+20*(0+(i:Int))+10*1=((310+20*i:Nat):Int) by omega];rfl,hl,by omega,by omega,n2,by omega,by omega,λef hf=>⟨.inl rfl,by show 1<100000;decide,.inr (.inr ⟨rfl,u,F,M,ef,_,_,g1,⟨hw,hf⟩,rfl⟩)⟩⟩
   .cases he
  .rintro V (⟨z,_⟩ | ⟨z,_⟩ | ⟨_,u,F,M,Y,s9,d,g1,g2,rfl⟩)
   .cases z
   .cases z
   .exact Z _ ⟨u,F,M,Y,s9,d,g1,g2,rfl⟩
 rintro _ ⟨u,F,M,Y,s9,d,g1,g2,rfl⟩;let t7:Sl:=.o (.l [dT C u,dT X M]);let t8:Sl:=.o (.l [dT C F,dT X Y]);refine gV (λV=>V=S t5 t6 t7 t8 s9 d (.o (.k [])) ac O R a) (λN Z=>Z _ rfl) ?_;rintro _ rfl;refine gV (λV=>V=S t5 t6 t7 t8 s9 d (.o (.k [])) (.o (.k [])) O R a) (λN Z=>Z _ rfl) ?_;rintro _ rfl;let wB:mS:=uL C X u M;let eB:mS:=uL C X F Y;refine gV (λV=>∃ d O R a,V=S t5 t6 t7 t8 s9 d (.o (.k (eW wB))) (.o (.k (eW eB))) O R a) (λN Z=>?_) ?_
 .let L:Aa SG:=[("a",C.ins,u,F),("b",X.ins,M,Y)];let eS:SG->D:=λq=>D.t [.str q.1,.k (eW (nY q.2.1 q.2.2.1)),.k (eW (nY q.2.1 q.2.2.2))]
  let hw:SG->Af->Int:=λq=>q.2.2.1
  let he:SG->Af->Int:=λq=>q.2.2.2
  have fw:L.flatMap (oR hw)=wB:=by show _++(_++[])=_;rw[cD];rfl
  have fe:L.flatMap (oR he)=eB:=by show _++(_++[])=_;rw[cD];rfl
  have lB:∀ f g,(uL C X f g).length<=80:=λf g=>by unfold uL;rw[List.length_append,List.length_map,List.length_map];omega
  have hL:∀ q∈L,q.2.1.length<=40/\q.2.1.Nodup/\q.1.length=1/\∀ x∈q.2.1,x.length<=100:=λq hq=>by
   rcases aI.mp hq with rfl | hq
   .exact⟨a1,n1,rfl,λx hx=>(h1.az x (aM _ hx)).hi⟩
   .rw[aW.mp hq];exact⟨c1,n2,rfl,λx hx=>(h2.az x (aM _ hx)).hi⟩
  have pre:∀ (h:SG->Af->Int) (i:Nat) (q:SG) (j:Nat),L[i]?=some q->((L.take i).flatMap (oR h)++(q.2.1.take j).map (λx=>(q.1++x,h q x))) <+: L.flatMap (oR h):=λh i q j hq=>by
   have e:L=L.take i++q::L.drop (i+1):=by
    obtain⟨hi,rfl⟩:=aL.mp hq;rw[iW,fT]
   have e2:L.flatMap (oR h)=(L.take i).flatMap (oR h)++(oR h q++(L.drop (i+1)).flatMap (oR h)):=by
    conv=>lhs;rw[e]
    rw[jX,List.flatMap_cons]
   rw[e2];refine (gQ _).mpr ?_;refine List.IsPrefix.trans (gU _ (kL j _)) (List.prefix_append _ _)
  refine nR (L.map eS) (S t5 t6 t7 t8 s9 d (.o (.k [])) (.o (.k [])) O R a) (λΨ h=>⟨rfl,_,rfl,rfl,_,rfl,by show 3<=1000;decide,rfl,_,rfl,rfl,_,rfl,by show 3<=1000;decide,by show 2<=1000;decide,h⟩) (λi V=>∃ d O R a,V=S t5 t6 t7 t8 s9 d (.o (.k (eW ((L.take i).flatMap (oR hw))))) (.o (.k (eW ((L.take i).flatMap (oR he))))) O R a) ⟨_,_,_,_,rfl⟩ ?_ ?_
  .rintro i x V hx ⟨d,O,R,a,rfl⟩;obtain⟨⟨sg,xs,f,g⟩,hq,rfl⟩:=qI hx;obtain⟨lx,xn,ls,lz⟩:=hL _ (aE hq);have ls:sg.length=1:=ls;have eg:∀ h:SG->Af->Int,(L.take (i+1)).flatMap (oR h)=(L.take i).flatMap (oR h)++oR h (sg,xs,f,g):=λh=>by
    rw[cA,hq,jX];show _++[(sg,xs,f,g)].flatMap _=_;rw[List.flatMap_singleton]
   let B (h:SG->Af->Int) (j:Nat):mS:=(L.take i).flatMap (oR h)++(xs.take j).map λx=>(sg++x,h (sg,xs,f,g) x)
   refine⟨rfl,rfl,?_⟩;refine nR (xs.map D.str) (S t5 t6 t7 t8 s9 (.v (.k (eW (nY xs f)))) (.o (.k (eW ((L.take i).flatMap (oR hw))))) (.o (.k (eW ((L.take i).flatMap (oR he))))) (.v (.str sg)) (.v (.k (eW (nY xs g)))) a) (λΨ h=>?_) (λj V=>∃ a,V=S t5 t6 t7 t8 s9 (.v (.k (eW (nY xs f)))) (.o (.k (eW (B hw j)))) (.o (.k (eW (B he j)))) (.v (.str sg)) (.v (.k (eW (nY xs g)))) a) ⟨a,?_⟩ ?_ ?_
   .show Ψ (tK (eW (nY xs f))) _;rw[yM];have:(nY xs f).map (·.1)=xs:=by unfold nY;rw[sE]
    rw[this];exact h
   .show _=S t5 t6 t7 t8 s9 _ (.o (.k (eW ((L.take i).flatMap (oR hw)++[])))) (.o (.k (eW ((L.take i).flatMap (oR he)++[])))) _ _ a;rw[cD,cD]
   .rintro j x V hx ⟨a,rfl⟩;obtain⟨y,hy,rfl⟩:=qI hx;have ym:=aE hy;have et:xs.take (j+1)=xs.take j++[y]:=by rw[cA,hy];rfl
    have eB:∀ h:SG->Af->Int,B h (j+1)=B h j++[(sg++y,h (sg,xs,f,g) y)]:=λh=>by
     show _++(xs.take (j+1)).map _=_;rw[et,aF,<- bB];rfl
    have a2:=lz y ym;have aq:∀ h:SG->Af->Int,(L.flatMap (oR h)).length<=80->((L.flatMap (oR h)).map (·.1)).Nodup->sg++y∉(B h j).map (·.1)/\(B h j).length<=80:=λh hl hn=>by
     have p:=pre h i (sg,xs,f,g) (j+1) hq;have p:B h (j+1) <+: L.flatMap (oR h):=p;have nd:=hn.sublist (p.map (·.1)).sublist;have ll:=p.length_le;rw[eB] at nd ll;rw[aF] at nd;rw[aO] at ll;exact⟨λz=>(bC.mp nd).2.2 _ z _ (aW.mpr rfl) rfl,by omega⟩
    obtain⟨ax,a4⟩:=aq hw (by rw[fw];exact lB _ _) (by rw[fw];exact Dx n1 n2 _ _);obtain⟨av,a0⟩:=aq he (by rw[fe];exact lB _ _) (by rw[fe];exact Dx n1 n2 _ _);refine⟨rfl,.int (f y),by show some (kR _ (Sum.inr y))=_;rw[zP ym],rfl,rfl,by show sg.length+y.length<=100000;omega,_,rO (by rw[pB];omega),?_⟩;refine⟨rfl,.int (g y),by show some (kR _ (Sum.inr y))=_;rw[zP ym],rfl,rfl,by show sg.length+y.length<=100000;omega,_,rO (by rw[pB];omega),.v (.str y),?_⟩;rw[eB hw,eB he,<- Ck ax,<- Ck av];rfl
   .rintro V ⟨a,rfl⟩;rw[aA];refine⟨.v (.k (eW (nY xs f))),.v (.str sg),.v (.k (eW (nY xs g))),a,?_⟩;rw[eg hw,eg he];show S t5 t6 t7 t8 s9 _ (.o (.k (eW ((L.take i).flatMap (oR hw)++(xs.take xs.length).map _)))) (.o (.k (eW ((L.take i).flatMap (oR he)++(xs.take xs.length).map _)))) _ _ a=_;rw[cN];rfl
  .rintro V ⟨d,O,R,a,rfl⟩;rw[aA];refine Z _ ⟨d,O,R,a,?_⟩;rw[cN,fw,fe]
 rintro _ ⟨d,O,R,a,rfl⟩;have ao:∀ (Q:Cel) (wf ef:Af->Int),G Q wf ef->∀ x∈Q.ins,0<=wf x/\mI (ef x):=λQ wf ef g x hx=>by
  refine⟨(g.1 x hx).1,?_⟩;have:=g.2 x hx;unfold mI;omega
 have q1:=ao C u F g1;have q2:=ao X M Y g2;let u1:=uR C p1 u F;let fd:=qZ C p1 u F M W ps;let u2:=uR X p2 fd Y;let uJ:=uR J PJ (look wB) (look eB);have an:∀ q∈p2,q.2∉ps.map (·.2):=λq hq z=>by
  obtain⟨p,hp,e⟩:=aD.mp z;exact B3 (pk.m p hp).2 (e▸aU hq)
 have run:=CL (wfJ:=look wB) (efJ:=look eB) (ef2:=Y) (wf2:=M) (fed:=fd) (W:=W) h1 h2 pk hJ (λp hp=>(q1 _ (h1.m p hp).2).2) (λx hx=>Ja n1 n2 (aX.mp hx).1) (λx hx _=>Gw n1 n2 (aX.mp hx).1) (λp hp=>Ja n1 n2 (h1.m p hp).2) (λp hp=>Gw n1 n2 (h2.m p hp).2) (λp hp=>by
   rcases Iy C p1 u F M W ps p.2 with⟨q,hq,e1,e2⟩ | ⟨z,_⟩
   .rw[Eb pk.n2 hq hp e1] at e2;exact e2
   .exact absurd (aU hp) z) (λx hx z=>by
   rcases Iy C p1 u F M W ps x with⟨q,hq,e1,_⟩ | ⟨_,e⟩
   .exact absurd (aD.mpr ⟨q,hq,e1⟩) z
   .exact e)
 have eO:lT J PJ uJ W=uY C p1 X p2 ps u1 u2 W:=Sv pk h1 h2 run;have eE:(PJ.map λp=>(p.1,lU (look eB) uJ W p))=uU p1 p2 ps F Y u1 u2 W:=IH h1 h2 w1 run;have nO:((lT J PJ uJ W).map (·.1)).Nodup:=by unfold lT;rw[sE];exact tQ hJ.gc
 have nE:((PJ.map λp=>(p.1,lU (look eB) uJ W p)).map (·.1)).Nodup:=by rw[aG];exact hJ.n1
 have eb:∀ p∈PJ,mI (look eB p.2):=λp hp=>by
  rcases aY.mp hp with z | z<;>obtain⟨r,hr,rfl⟩:=aD.mp z
  .show mI (look eB (fA r.2));rw[show look eB (fA r.2)=F r.2 from Ja n1 n2 (h1.m r hr).2];exact (q1 _ (h1.m r hr).2).2
  .show mI (look eB (kU ps r.2));rw[sZ (an r hr),show look eB (fB r.2)=Y r.2 from Gw n1 n2 (h2.m r hr).2];exact (q2 _ (h2.m r hr).2).2
 refine⟨J,PJ,W,eW wB,eW eB,look wB,look eB,uJ,rR J PJ (look wB) (look eB),rfl,hJ.row,E3 hJ.n2 eb W,by omega,λx hx=>(rJ wB x).1 (N4 (aX.mp hx).1),λp hp=>(rJ eB p.2).1 (N4 (hJ.m p hp).2),.inl rfl,?_⟩;refine⟨C,p1,X,p2,ps,W,u,F,M,Y,rfl,h1,h2,pk,by omega,w1,by omega,q1,q2,by rw[<- eO];exact nO,by rw[<- eE];exact nE,.inl rfl,?_⟩;refine⟨eW (lT J PJ uJ W),eW (PJ.map λp=>(p.1,lU (look eB) uJ W p)),rfl,by rw[eO,eE],Ow nO,Ow nE,?_⟩;exact nI rfl ⟨_,_,_,_,_,_,_,_,_,_,_,rfl⟩
end
end Lw
namespace Lw
open PySem L2 PySem.Spec PyProof.Rows
theorem wJ {K:kQ}(h:K.lookup t=some ⟨.type "tuple",d,.seq g n,p⟩) (l:g.size<=sizeLine) (j:lC o g.toList):∀ H,lR K H t o :=
 λH=>.inr ⟨_,g,n,h,rfl,rfl,l,j⟩
section
variable {K:kQ}{aS:Ad}{dS d1 d2:Ab Ad}
theorem W4 (eL:g "LETTERS" = some (.str zL tL)) (e8:g "LONGEST_NAME" = some (.int i8 t8)) (eS:g "SIDE_WORDS" = some (.ref aS)) (eN:g "NAME_COUNTS" = some (.ref U)) (eA:g "all" = none)
  (lS:K.lookup aS=some ⟨.type "tuple",dS,.seq #[.str ay a1,.str az a2] nS,sS⟩)
  (lN:K.lookup U=some ⟨.type "dict",none,.dict #[⟨h1,.str z1 bc,.ref l⟩,⟨h2,.str z2 bd,.ref o⟩,⟨h3,.str z3 be,.ref r⟩,⟨h4,.str z4 bf,.ref C⟩,⟨h5,.str z5 bg,.ref I⟩,⟨h6,.str z6 bh,.ref J⟩,⟨h7,.str z7 bi,.ref T⟩] ep,#[]⟩)
  (zN:(U == sysModules)=false)
  (q1:h1=hashStr w "and") (q2:h2=hashStr w "or") (q3:h3=hashStr w "odd") (q4:h4=hashStr w "most") (q5:h5=hashStr w "not") (q6:h6=hashStr w "one") (q7:h7=hashStr w "nil")
  (l1:K.lookup l=some ⟨.type "tuple",d1,.seq #[.int j1 a3,.int j2 a4] n1,s1⟩)
  (l2:K.lookup o=some ⟨.type "tuple",d2,.seq #[.int j3 a5,.int j4 a6] n2,s2⟩)
  (l3:K.lookup r=some ⟨.type "tuple",d3,.seq #[.int j5 a7,.int j6 a8] n3,s3⟩)
  (l4:K.lookup C=some ⟨.type "tuple",d4,.seq #[.int j7 a9] n4,s4⟩)
  (l5:K.lookup I=some ⟨.type "tuple",d5,.seq #[.int j8 ba] n5,s5⟩)
  (l6:K.lookup J=some ⟨.type "tuple",d6,.seq #[.int j9 bb] n6,s6⟩)
  (l7:K.lookup T=some ⟨.type "tuple",d7,.seq #[.int aa a0] n7,s7⟩)
  (vL:zL=lettersS) (v8:i8=8) (ai:ay = "in") (aj:az = "out") (v11:z1 = "and") (ab:z2 = "or") (ac:z3 = "odd") (ae:z4 = "most") (af:z5 = "not") (ag:z6 = "one") (ah:z7 = "nil") (ak:j1=2) (an:j2=3) (ao:j3=2) (aq:j4=3) (ar:j5=2) (au:j6=3) (av:j7=3) (aw:j8=1) (ax:j9=0) (j:aa=0):Tops K w g:=by
 subst vL v8 ai aj v11 ab ac ae af ag ah ak an ao aq ar au av aw ax j;refine⟨⟨_,eL⟩,⟨_,e8⟩,⟨aS,eS,wJ lS (by show 2<=sizeLine;decide) (.cons ⟨_,rfl⟩ (.cons ⟨_,rfl⟩ .nil))⟩,⟨U,_,eN,IM (D:=[("and",.ref l,.ref l),("or",.ref o,.ref o),("odd",.ref r,.ref r),("most",.ref C,.ref C),("not",.ref I,.ref I),("one",.ref J,.ref J),("nil",.ref T,.ref T)]) ?_ ?_ ?_ ?_,λz=>?_⟩,eA⟩
 .intro p m;simp only[aI,bJ,dZ] at m;rcases m with rfl | rfl | rfl | rfl | rfl | rfl | rfl<;>rfl
 .unfold KTD.tabLook;simp only[lN,zN];simp[KTD.rowsLook]
 .show (["and","or","odd","most","not","one","nil"]:Aa Af).Nodup;decide +kernel
 .unfold KTD.hashesOf;simp only[lN,q1,q2,q3,q4,q5,q6,q7];rfl
 .simp only[bH,gH];have ne:∀ {x:Af},¬ z=x->¬ (Sum.inr x:fS)=Sum.inr z:=λh e=>h (dD e).symm
  by_cases c:z = "and"
  .subst c;exact .inr ⟨l,[2,3],sL rfl,rfl,wJ l1 (by show 2<=sizeLine;decide) (.cons ⟨_,rfl⟩ (.cons ⟨_,rfl⟩ .nil))⟩
  rw[sJ (ne c)];by_cases d:z = "or"
  .subst d;exact .inr ⟨o,[2,3],sL rfl,rfl,wJ l2 (by show 2<=sizeLine;decide) (.cons ⟨_,rfl⟩ (.cons ⟨_,rfl⟩ .nil))⟩
  rw[sJ (ne d)];by_cases f:z = "odd"
  .subst f;exact .inr ⟨r,[2,3],sL rfl,rfl,wJ l3 (by show 2<=sizeLine;decide) (.cons ⟨_,rfl⟩ (.cons ⟨_,rfl⟩ .nil))⟩
  rw[sJ (ne f)];by_cases a:z = "most"
  .subst a;exact .inr ⟨C,[3],sL rfl,rfl,wJ l4 (by show 1<=sizeLine;decide) (.cons ⟨_,rfl⟩ .nil)⟩
  rw[sJ (ne a)];by_cases b:z = "not"
  .subst b;exact .inr ⟨I,[1],sL rfl,rfl,wJ l5 (by show 1<=sizeLine;decide) (.cons ⟨_,rfl⟩ .nil)⟩
  rw[sJ (ne b)];by_cases i:z = "one"
  .subst i;exact .inr ⟨J,[0],sL rfl,rfl,wJ l6 (by show 1<=sizeLine;decide) (.cons ⟨_,rfl⟩ .nil)⟩
  rw[sJ (ne i)];by_cases k:z = "nil"
  .subst k;exact .inr ⟨T,[0],sL rfl,rfl,wJ l7 (by show 1<=sizeLine;decide) (.cons ⟨_,rfl⟩ .nil)⟩
  rw[sJ (ne k)];refine .inl ⟨rfl,?_⟩;unfold uE;rw[aK (by rintro (e | e | e)<;>contradiction),aK a,aK b,aK (by rintro (e | e)<;>contradiction)]
end
open PySem L2 in
theorem Vk (j:g "MOST_INPUTS" = some (.int I tI)) (l:g "MOST_OUTPUTS" = some (.int J tO)) (o:g "MOST_GATES" = some (.int C tG)) (p:g "MOST_ALONG" = some (.int r tA)) (v1:I=6) (T:J=6) (U:C=24) (v4:r=4):Bds g:=by
 subst v1 T U v4;exact⟨⟨_,j⟩,⟨_,l⟩,⟨_,o⟩,⟨_,p⟩⟩
theorem P9 {K:kQ}:∀ g:Aa Int,Reps K A H (g.map D.int) (g.map V.int)
 | []=>.nil
 | _::g=>.cons (.int _) (P9 g)
theorem CO {K:kQ}{g:Aa Int}(p:g.length<=63) (j:Ex H) (l:lG K H a (g.map V.int)):E8 K [.ref a] H (λv _=>v = .b true) λ_ _ _=>False:=by
 have e:uP K H a (g.map V.int):=by
  rcases l with (h | h) | h
  .rcases j a with z | ⟨o,f,z⟩
   .rw[h] at z;cases z
   .rw[h] at z;cases z
  .exact .inl h
  .exact .inr h
 refine⟨[],λ_=>False,[.c (g.map D.int)],λs=>s = .v (.b true),.inl rfl,λ_ z=>z.elim,.cons (.c e (P9 g)) .nil,⟨g,rfl,p,rfl⟩,?_⟩;rintro s v d rfl _ _ r;exact (show Rep K _ d (.b true) v from r).bl_inv
end Lw
namespace Lw
open PySem L2
def DF (K:kQ) (x:Af) (st:Stmt):Prop:=∃ (f:Ad) (e a:Ab Ad) (h:Array (Ab Ac)) (d kV c pm cd b:Ac),PySem.W.nsIn K mainGlobals x=some (some (.ref f))/\K.lookup f=some ⟨d,e,.func (PySem.W.fnOf x x (sA st) (qM st) (lQ st) .none kV c pm a cd b),h⟩/\PySem.W.codeIn K cd x=true/\PySem.W.keepIn K (.ref f)=true
def NZ (K:kQ) (x:Af):Prop:=PySem.W.nsIn K mainGlobals x=some none
theorem df_mk {K:kQ}{st:Stmt}{kV cd:Ac}(a:PySem.W.nsIn K mainGlobals x=some (some (.ref f))) (l:K.lookup f=some ⟨p,r,.func (PySem.W.fnOf x x (sA st) (qM st) (lQ st) .none kV o pm g cd j),C⟩) (c:PySem.W.codeIn K cd x=true) (k:PySem.W.keepIn K (.ref f)=true):DF K x st:=⟨f,r,g,C,p,kV,o,pm,cd,j,a,l,c,k⟩
theorem Ch {K:kQ}{st:Stmt}(o:Aa Af) (X:K.In h) (G:h.Ns mainGlobals J) (d:DF K x st)
  (I:∀ (kV j pm:Ac) (r:Ab Ad) (g C:Ac) (p:Aa Ac),p.length=o.length->bindArgs (PySem.W.fnOf x x (sA st) (qM st) (lQ st) .none kV j pm r g C) ⟨p,[]⟩=pure (o.zip p)):∃ f fd,Gd K J x st o f fd:=by
 obtain⟨f,i,r,m,e,kV,b,pm,cd,C,a,l,c,k⟩:=d;have F:=Ny (st:=st) l c k;exact⟨f,_,F,fF X G a,k,F.binds I⟩
theorem sM {K:kQ}{st:Stmt}(j:Af) (X:K.In h) (G:h.Ns mainGlobals o) (d:DF K x st) (l:∀ a b c d e f g,bindArgs (PySem.W.fnOf x x (sA st) (qM st) (lQ st) .none a b c d e f) ⟨[g],[]⟩=pure [(j,g)]:=by intros;rfl):∃ f fd,Gd K o x st [j] f fd :=
 Ch [j] X G d λa b c d e f k i=>by rcases k with _ | ⟨g,_ | _⟩<;>first | exact l a b c d e f g | cases i
theorem qX {K:kQ}{st:Stmt}(l o:Af) (X:K.In h) (G:h.Ns mainGlobals r) (d:DF K x st) (p:∀ a b c d e f g j,bindArgs (PySem.W.fnOf x x (sA st) (qM st) (lQ st) .none a b c d e f) ⟨[g,j],[]⟩=pure [(l,g),(o,j)]:=by intros;rfl):∃ f fd,Gd K r x st [l,o] f fd :=
 Ch [l,o] X G d λa b c d e f k i=>by rcases k with _ | ⟨g,_ | ⟨j,_ | _⟩⟩<;>first | exact p a b c d e f g j | cases i
theorem zZ {K:kQ}{st:Stmt}(o p r:Af) (X:K.In h) (G:h.Ns mainGlobals I) (d:DF K x st) (C:∀ a b c d e f g j l,bindArgs (PySem.W.fnOf x x (sA st) (qM st) (lQ st) .none a b c d e f) ⟨[g,j,l],[]⟩=pure [(o,g),(p,j),(r,l)]:=by intros;rfl):∃ f fd,Gd K I x st [o,p,r] f fd :=
 Ch [o,p,r] X G d λa b c d e f k i=>by rcases k with _ | ⟨g,_ | ⟨j,_ | ⟨l,_ | _⟩⟩⟩<;>first | exact C a b c d e f g j l | cases i
theorem E7 {K:kQ}{st:Stmt}(o p r C:Af) (X:K.In h) (G:h.Ns mainGlobals J) (d:DF K x st) (I:∀ a b c d e f g j l x3,bindArgs (PySem.W.fnOf x x (sA st) (qM st) (lQ st) .none a b c d e f) ⟨[g,j,l,x3],[]⟩=pure [(o,g),(p,j),(r,l),(C,x3)]:=by intros;rfl):∃ f fd,Gd K J x st [o,p,r,C] f fd :=
 Ch [o,p,r,C] X G d λa b c d e f k i=>by rcases k with _ | ⟨g,_ | ⟨j,_ | ⟨l,_ | ⟨x3,_ | _⟩⟩⟩⟩<;>first | exact I a b c d e f g j l x3 | cases i
theorem Xv {K:kQ}{st:Stmt}(r C I J T U:Af) (X:K.In h) (G:h.Ns mainGlobals mg) (d:DF K x st) (hb:∀ a b c d e f g j l x3 o p,bindArgs (PySem.W.fnOf x x (sA st) (qM st) (lQ st) .none a b c d e f) ⟨[g,j,l,x3,o,p],[]⟩=pure [(r,g),(C,j),(I,l),(J,x3),(T,o),(U,p)]:=by intros;rfl):∃ f fd,Gd K mg x st [r,C,I,J,T,U] f fd :=
 Ch [r,C,I,J,T,U] X G d λa b c d e f k i=>by rcases k with _ | ⟨g,_ | ⟨j,_ | ⟨l,_ | ⟨x3,_ | ⟨o,_ | ⟨p,_ | _⟩⟩⟩⟩⟩⟩<;>first | exact hb a b c d e f g j l x3 o p | cases i
theorem all_mk {l:PySem.W.OpenLaw}{K:kQ}(X:K.In h) (G:h.Ns mainGlobals mg) (cw:mg "law" = some (.ref fa))
{aS:Ad} {dS:Ab Ad}
  (d1:DF K "is_name" Hg)
  (d2:DF K "check_there" A5)
  (d3:DF K "told_by" Fb)
  (d4:DF K "gate_bit" Er)
  (d5:DF K "place_worths" Ee)
  (d6:DF K "carried_inputs" Aw)
  (d7:DF K "word_inputs" By)
  (d8:DF K "word_outputs" As)
  (d9:DF K "rows_together" Cn)
  (bv:DF K "check_pairs" Cu)
  (bw:DF K "check_free" D9)
  (bx:DF K "first_names" Db)
  (bz:DF K "second_names" Dv)
  (b0:DF K "cell_names" yO)
  (b1:DF K "row_turned" Dt)
  (b2:DF K "all_turned" Cw)
  (b3:DF K "joined" Dq)
  (b4:DF K "without" Ea)
  (b5:DF K "check_bounds" Ff)
  (b6:DF K "laid" Cq)
  (b7:DF K "_law_draw" tS)
  (b8:DF K "_law_word" B6)
  (b9:DF K "_law_gate" Es)
  (ca:DF K "_law_cell" Ej)
  (cb:DF K "_law_row" D1)
  (cc:DF K "_law_worth" Ev)
  (cf:DF K "_law_values" Fd)
  (cg:DF K "_law_laid" Ep)
  (ch:DF K "_law_carried" Fe)
  (cj:DF K "_law_wordly" Ec)
  (ck:DF K "_law_pairs" Dz)
  (cl:DF K "_law_due_row" yI)
  (cm:DF K "_law_great" Ay)
  (cn:DF K "_law_more_gates" Cy)
  (cp:DF K "_law_two_rows" E6)
  (cq:DF K "_law_due" Di)
  (cs:DF K "_law_some" Du)
  (cu:DF K "_law_again_right" E5)
  (cv:DF K "law" xP)
  (z1:NZ K "len")
  (z2:NZ K "range")
  (z3:NZ K "sum")
  (z4:NZ K "min")
  (z5:NZ K "max")
  (z6:NZ K "tuple")
  (z7:NZ K "list")
  (z8:NZ K "set")
  (z9:NZ K "dict")
  (ea:NZ K "int")
  (eb:NZ K "str")
  (ec:NZ K "zip")
  (ed:NZ K "enumerate")
  (ee:NZ K "all")
  (ef:NZ K "any")
  (eg:NZ K "isinstance")
  (eh:NZ K "sorted")
  (ei:NZ K "abs")
  (ej:NZ K "reversed")
  (ek:NZ K "bool")
  (xL:PySem.W.nsIn K mainGlobals "LETTERS" = some (some (.str zL tL)))
  (x8:PySem.W.nsIn K mainGlobals "LONGEST_NAME" = some (some (.int i8 t8)))
  (xS:PySem.W.nsIn K mainGlobals "SIDE_WORDS" = some (some (.ref aS)))
  (xN:PySem.W.nsIn K mainGlobals "NAME_COUNTS" = some (some (.ref aN)))
  (lS:K.lookup aS=some ⟨.type "tuple",dS,.seq #[.str el he,.str em hf] nS,sS⟩)
  (lN:K.lookup aN=some ⟨.type "dict",none,.dict #[⟨h1,.str du hp,.ref r1⟩,⟨h2,.str dv hq,.ref r2⟩,⟨h3,.str dw hr,.ref r3⟩,⟨h4,.str dx hs,.ref r4⟩,⟨h5,.str dy ht,.ref r5⟩,⟨h6,.str dz hu,.ref r6⟩,⟨h7,.str d0 hv,.ref r7⟩] ep,#[]⟩)
  (zN:(aN == sysModules)=false)
  (cy:K.lookup r1=some ⟨.type "tuple",g6,.seq #[.int j1 hg,.int j2 hh] n1,s1⟩)
  (cz:K.lookup r2=some ⟨.type "tuple",g7,.seq #[.int j3 hi,.int j4 hj] n2,s2⟩)
  (c0:K.lookup r3=some ⟨.type "tuple",g8,.seq #[.int j5 hk,.int j6 hl] n3,s3⟩)
  (c1:K.lookup r4=some ⟨.type "tuple",g9,.seq #[.int j7 hm] n4,s4⟩)
  (c2:K.lookup r5=some ⟨.type "tuple",ha,.seq #[.int j8 hn] n5,s5⟩)
  (c3:K.lookup r6=some ⟨.type "tuple",hb,.seq #[.int j9 ho] n6,s6⟩)
  (c4:K.lookup r7=some ⟨.type "tuple",hc,.seq #[.int cx en] n7,s7⟩)
  (dm:du = "and")
  (dn:dv = "or")
  (dp:dw = "odd")
  (dq:dx = "most")
  (dr:dy = "not")
  (ds:dz = "one")
  (dt:d0 = "nil")
  (vL:zL=Lw.lettersS)
  (v8:i8=8)
  (c5:el = "in")
  (c6:em = "out")
  (db:j1=2)
  (dd:j2=3)
  (de:j3=2)
  (df:j4=3)
  (dg:j5=2)
  (dh:j6=3)
  (di:j7=3)
  (dj:j8=1)
  (dk:j9=0)
  (bu:cx=0)
  (q1:h1=hashStr w "and")
  (q2:h2=hashStr w "or")
  (q3:h3=hashStr w "odd")
  (q4:h4=hashStr w "most")
  (q5:h5=hashStr w "not")
  (q6:h6=hashStr w "one")
  (q7:h7=hashStr w "nil")
  (bI:PySem.W.nsIn K mainGlobals "MOST_INPUTS" = some (some (.int iI tI)))
  (bO:PySem.W.nsIn K mainGlobals "MOST_OUTPUTS" = some (some (.int iO tO)))
  (bG:PySem.W.nsIn K mainGlobals "MOST_GATES" = some (some (.int iG tG)))
  (bA:PySem.W.nsIn K mainGlobals "MOST_ALONG" = some (some (.int iA tA)))
  (c9:iI=6)
  (da:iO=6)
  (c8:iG=24)
  (c7:iA=4)
  : ∃ fd:FuncData,(∀ (s:Ae) (v:Ac),BindsTo s fd ⟨[v],[]⟩ [("script",v)])/\∀ base:Ag,K.In base->base.Ns mainGlobals mg->FnOk l.prog w K mg base rN 7 fa fd ["script"] (E8 K):=by
 obtain⟨f1,e1,bd⟩:=sM "text" X G d1;obtain⟨f2,e2,C⟩:=qX "names" "given" X G d2;obtain⟨f3,e3,bg⟩:=qX "cell" "bits" X G d3;obtain⟨f4,e4,a1⟩:=qX "word" "bits" X G d4;obtain⟨f5,e5,Q⟩:=sM "count" X G d5;obtain⟨f6,e6,A⟩:=sM "row" X G d6;obtain⟨f7,e7,aa⟩:=sM "row" X G d7;obtain⟨f8,e8,V⟩:=sM "row" X G d8;obtain⟨f9,e9,L⟩:=zZ "one" "other" "pairs" X G d9;obtain⟨fw,eo,r⟩:=zZ "one" "other" "pairs" X G bv;obtain⟨fx,er,ah⟩:=qX "name" "free" X G bw;obtain⟨fy,es,I⟩:=sM "row" X G bx;obtain⟨f0,et,S⟩:=qX "row" "pairs" X G bz;obtain⟨ga,eu,ag⟩:=sM "row" X G b0;obtain⟨gb,ev,ak⟩:=qX "row" "turned" X G b1;obtain⟨gc,ew,af⟩:=qX "names" "turned" X G b2;obtain⟨gd,ex,bp⟩:=zZ "one" "other" "pairs" X G b3;obtain⟨gf,ey,bh⟩:=qX "names" "gone" X G b4;obtain⟨gg,ez,N⟩:=sM "row" X G b5;obtain⟨gh,e0,br⟩:=E7 "row" "width" "words" "edges" X G b6;obtain⟨gi,fb,a3⟩:=qX "script" "k" X G b7;obtain⟨gj,fc,a7⟩:=qX "script" "i" X G b8;obtain⟨gk,fe,a4⟩:=E7 "script" "at" "k" "names" X G b9;obtain⟨gm,ff,a2⟩:=qX "script" "begin" X G ca;obtain⟨gn,fg,bf⟩:=qX "script" "begin" X G cb;obtain⟨gp,fh,ay⟩:=qX "word" "some" X G cc;obtain⟨gq,fi,ai⟩:=qX "cell" "bits" X G cf;obtain⟨gr,fj,a5⟩:=E7 "row" "width" "words" "edges" X G cg;obtain⟨gs,fk,J⟩:=sM "row" X G ch;obtain⟨gu,fl,aj⟩:=sM "row" X G cj;obtain⟨gv,fm,ax⟩:=zZ "script" "one" "other" X G ck;obtain⟨gw,fo,U⟩:=zZ "one" "other" "pairs" X G cl;obtain⟨gx,fp,aw⟩:=zZ "one" "other" "pairs" X G cm;obtain⟨gy,fq,D⟩:=qX "row" "many" X G cn;obtain⟨gz,fr,P⟩:=sM "script" X G cp;obtain⟨g0,ft,be⟩:=Xv "one" "other" "pairs" "width" "words" "edges" X G cq;obtain⟨g4,fu,a6⟩:=E7 "script" "at" "names" "width" X G cs;obtain⟨g5,fv,y⟩:=sM "row" X G cu;obtain⟨f,od,an,sl,oc,kV,dc,pm,cd,ct,a,lk,c,k⟩:=cv;cases cw.symm.trans (fF X G a);have FL:=Ny (st:=xP) lk c k;refine⟨PySem.W.fnOf "law" "law" (sA xP) (qM xP) (lQ xP) .none kV dc pm an cd ct,λs v=>.of_eq rfl,λbase _ _=>?_⟩;have T:Txt mg:=⟨bV X G z1,bV X G z2,bV X G z3,bV X G z4,bV X G z5,bV X G z6,bV X G z7,bV X G z8,bV X G z9,bV X G ea,bV X G eb,bV X G ec,bV X G ed,bV X G ee,bV X G ef,bV X G eg,bV X G eh,bV X G ei,bV X G ej,bV X G ek⟩;have O:Tops K w mg:=W4 (fF X G xL) (fF X G x8) (fF X G xS) (fF X G xN) T.all lS lN zN q1 q2 q3 q4 q5 q6 q7 cy cz c0 c1 c2 c3 c4 vL v8 c5 c6 dm dn dp dq dr ds dt db dd de df dg dh di dj dk bu;have B:Bds mg:=Vk (fF X G bI) (fF X G bO) (fF X G bG) (fF X G bA) c9 da c8 c7;have q:∀ {k x st ps R f fd},Gd K mg x st ps f fd->mM l.prog w K mg base k x st ps R->Kn l.prog w K mg base k x st ps R:=λg o=>⟨_,_,g,o _ _ g.F⟩
 have bi:=q bd (Xs T O);have t:=q C λ_ _=>Yb
 have a8:=q a1 (Y2 T);have bn:=q bg (IY T t a8);have j:=q Q (Y8 T);have e:=q A Tc;have u:=q aa (DL e);have n:=q V Ul;have aq:=q ah (T0 T);have ab:=q r (Yq T n u aq);have i:=q ag (HH T);have ac:=q I (Ws T i);have p:=q S (CV T i);have ao:=q af (Xw T);have av:=q ak (Zc T ao);have bo:=q bh (FC T);have bq:=q bp (Z5 T bo);have Y:=q N (Wg T B i bi);have m:=q L (Yh T ab bq av ac p Y);have bt:=q br (CD T t e u n j bn);have b:=q a3 (Xf T);have M:=q a7 (R6 T b);have ba:=q a4 (Wv T b M);have a9:=q a2 (Xn T b M ba);have bm:=q bf (CP T b a9);have a0:=q ay (Ug T);have ar:=q ai (HQ T a0);have bb:=q a5 (Yd T ar);have ae:=q J DM;have au:=q aj (Vu ae);have az:=q ax (Zi T b au);have d:=q U (BI T);have E:=q aw (Za T d);have H:=q D (Ym T);have Z:=q P (Tq T b bm H);have bj:=q be (Zw T bb);have bc:=q a6 (Wt T b);have z:=q y (GD T E m d);exact HU T Z az E m d z b bc bt bj _ _ FL
theorem walk {l:PySem.W.OpenLaw}{q:Ah}{g:Aa Af}{C:(Af->Ab Ac)->Ag->Prop}{p:World->Ag->Prop}{d:DefRec}{K:Params->kQ}(J:l.most=some 63) (o:d.params.defaults=[])
  (I:∀ (w:World) (h:Ag),p w h->(K w.params).In h)
  (F:∀ (w:World) (j:Af->Ab Ac) (r:Ad) (h:Ag),(K w.params).In h->h.Ns mainGlobals j->j d.name=some (.ref r) ->∃ fd:FuncData,(∀ (s:Ae) (u:Ac),BindsTo s fd ⟨[u],[]⟩ [("script",u)])/\∀ base:Ag,(K w.params).In base->base.Ns mainGlobals j->FnOk l.prog w (K w.params) j base rN 7 r fd ["script"] (E8 (K w.params))) :
  PySem.W.WalkO q g C p l.row.toRowW d [] (λf T=>PySem.call f T) :=
 L2.walk_of (n:=63) (k:=7) (x := "script") (CX:=λ_=>rN) (sp:=λw=>E8 (K w.params)) J (by decide) o ⟨rfl,by decide,by decide⟩ I F (λ_ _ a i e b c=>CO e b c) λ_ _ _ _ _ z=>z
end Lw
namespace PySem.W.Fast
theorem tw1216528498981854587:True:=⟨⟩
theorem tw17533823479634038923:True:=⟨⟩
theorem tw6997107619252115952:True:=⟨⟩
theorem tw7786449243739882029:True:=⟨⟩
theorem tw12508520255287600285:True:=⟨⟩
theorem tw7605208255670696089:True:=⟨⟩
theorem tw4555500642349279713:True:=⟨⟩
theorem tw6362060663249566428:True:=⟨⟩
theorem tw7617610426794817068:True:=⟨⟩
theorem tw6680959490051425192:True:=⟨⟩
theorem tw15238889593237028642:True:=⟨⟩
theorem tw15266360451191185966:True:=⟨⟩
theorem tw17216113935600219470:True:=⟨⟩
theorem tw7299854378798617477:True:=⟨⟩
theorem tw12468883535852638384:True:=⟨⟩
theorem tw11722234695326045622:True:=⟨⟩
theorem tw15474681153480855287:True:=⟨⟩
theorem tw8148775776021086655:True:=⟨⟩
theorem tw8450994815396074917:True:=⟨⟩
theorem tw10188073955702254269:True:=⟨⟩
theorem tw5511807538533022630:True:=⟨⟩
theorem tw3100671337980717544:True:=⟨⟩
theorem tw14151315566449469093:True:=⟨⟩
theorem tw7127612068841434231:True:=⟨⟩
theorem tw17935521613655653512:True:=⟨⟩
theorem tw17954466131857385042:True:=⟨⟩
theorem tw5711673946894121557:True:=⟨⟩
theorem tw6989922181065638804:True:=⟨⟩
theorem tw3853572167497498708:True:=⟨⟩
theorem tw8231178942113941736:True:=⟨⟩
theorem tw11456744554494227953:True:=⟨⟩
theorem tw11544092908124544424:True:=⟨⟩
theorem tw11409097461324051617:True:=⟨⟩
theorem tw15332440310910396967:True:=⟨⟩
theorem tw6612521616857466934:True:=⟨⟩
theorem tw6622455204621597024:True:=⟨⟩
theorem tw4933067232053604995:True:=⟨⟩
theorem tw5979100398087754660:True:=⟨⟩
theorem tw17406586414738654595:True:=⟨⟩
theorem tw15265257366787632453:True:=⟨⟩
theorem tw3392580188275446740:True:=⟨⟩
theorem tw1249655684719859451:True:=⟨⟩
theorem tw346944294715577016:True:=⟨⟩
theorem tw8188168335357844185:True:=⟨⟩
theorem tw6643443578069562994:True:=⟨⟩
theorem tw634873539937770256:True:=⟨⟩
theorem tw12463875487677104707:True:=⟨⟩
theorem tw5205959564593877422:True:=⟨⟩
theorem tw5186168156672535576:True:=⟨⟩
theorem tw14096554762684032416:True:=⟨⟩
theorem tw17773646746368473217:True:=⟨⟩
theorem tw16876463480875896133:True:=⟨⟩
theorem tw9833689735775733699:True:=⟨⟩
theorem tw8553806343731173027:True:=⟨⟩
theorem tw4085023437131915879:True:=⟨⟩
theorem tw6310997161708928718:True:=⟨⟩
theorem tw420304228798828928:True:=⟨⟩
theorem tw2946078366427037649:True:=⟨⟩
theorem tw3117991793974733003:True:=⟨⟩
theorem tw15153086664808382516:True:=⟨⟩
theorem tw1337101656229040697:True:=⟨⟩
theorem tw8041322049287326387:True:=⟨⟩
theorem tw12252319720846030480:True:=⟨⟩
theorem tw2674059500853770228:True:=⟨⟩
theorem tw988187443194315938:True:=⟨⟩
theorem tw16861037285197928716:True:=⟨⟩
theorem tw17738867014528959397:True:=⟨⟩
theorem tw9035176447974978981:True:=⟨⟩
theorem tw7756172997589348883:True:=⟨⟩
theorem tw2950292111429953018:True:=⟨⟩
theorem tw2610650793477182469:True:=⟨⟩
theorem tw17677542462315779732:True:=⟨⟩
theorem tw17912642886438780149:True:=⟨⟩
theorem tw18388050860777255538:True:=⟨⟩
theorem tw8477866538872737174:True:=⟨⟩
theorem tw9534052027040728966:True:=⟨⟩
theorem tw14091324972613106905:True:=⟨⟩
theorem tw12436687044054696084:True:=⟨⟩
theorem tw9217409017831192875:True:=⟨⟩
theorem tw11236234475529145420:True:=⟨⟩
theorem tw15485815902174571705:True:=⟨⟩
theorem tw826465840211361184:True:=⟨⟩
theorem tw5491747003668302156:True:=⟨⟩
theorem tw6273868030718263085:True:=⟨⟩
theorem tw16329756361358237116:True:=⟨⟩
theorem tw9045715854817871833:True:=⟨⟩
theorem tw1215453083883194675:True:=⟨⟩
theorem tw9196613774128675397:True:=⟨⟩
theorem tw3074540566913610587:True:=⟨⟩
theorem tw13123903164847298105:True:=⟨⟩
theorem tw11742897323604246144:True:=⟨⟩
theorem tw14436100287524729849:True:=⟨⟩
theorem tw344235670748695647:True:=⟨⟩
theorem tw10622361724801332999:True:=⟨⟩
theorem tw3065184940054577988:True:=⟨⟩
theorem tw11217608017714968303:True:=⟨⟩
theorem tw2184240349228029270:True:=⟨⟩
theorem tw2284492399076173839:True:=⟨⟩
theorem tw9807717484986608605:True:=⟨⟩
theorem tw7313913831817200165:True:=⟨⟩
theorem tw11333419573845774658:True:=⟨⟩
theorem tw1842598079533545166:True:=⟨⟩
theorem tw14407638263653792568:True:=⟨⟩
theorem tw10621954099159925316:True:=⟨⟩
theorem tw9455566145936853689:True:=⟨⟩
theorem tw1346935186820545606:True:=⟨⟩
theorem tw11509851529069184564:True:=⟨⟩
theorem tw10495230276717794524:True:=⟨⟩
theorem tw13091551373133625479:True:=⟨⟩
theorem tw15754513163813889639:True:=⟨⟩
end PySem.W.Fast
open PySem PySem.W PyProof.Rows
set_option maxRecDepth 100000 in
set_option maxHeartbeats 0 in
theorem PySem.Challenge.cw_laidcells_k32_rows_laid_together_holds : PySem.Challenge.rw_laidcells_k32_rows_laid_together.Holds := by
 w_on;o_law;k_head;(case hw=>w_witness2)
 k_fill
 refine Lw.walk (l:=PySem.Challenge.rw_laidcells_k32_rows_laid_together) rfl rfl (fun w h Y=>PySem.W.kIn_of Y) ?F
 case F =>
  intro w mg fa h KX G hmg;refine' Lw.all_mk KX G hmg ?_ ?_ ?_ ?_ ?_ ?_ ?_ ?_ ?_ ?_ ?_ ?_ ?_ ?_ ?_ ?_ ?_ ?_ ?_ ?_ ?_ ?_ ?_ ?_ ?_ ?_ ?_ ?_ ?_ ?_ ?_ ?_ ?_ ?_ ?_ ?_ ?_ ?_ ?_ ?_ ?_ ?_ ?_ ?_ ?_ ?_ ?_ ?_ ?_ ?_ ?_ ?_ ?_ ?_ ?_ ?_ ?_ ?_ ?_ ?xL ?x8 ?xS ?xN ?lS ?lN ?zN ?l_1 ?l_2 ?l_3 ?l_4 ?l_5 ?l_6 ?l_7 ?vz1 ?vz2 ?vz3 ?vz4 ?vz5 ?vz6 ?vz7 ?vL ?v8 ?vS1 ?vS2 ?vj1 ?vj2 ?vj3 ?vj4 ?vj5 ?vj6 ?vj7 ?vj8 ?vj9 ?vj10 ?q1 ?q2 ?q3 ?q4 ?q5 ?q6 ?q7 ?bI ?bO ?bG ?bA ?vbI ?vbO ?vbG ?vbA
  all_goals try refine' Lw.df_mk ?_ ?_ ?_ ?_
  all_goals try unfold Lw.NZ
  all_goals try first | k_is | (dsimp only;k_is)
  all_goals first | kernel_rfl | rfl
