import PyProof.Rows.All
import Wide.All
import OpenK.AllK
import Wide.FinOn
import Lean
import PyProof.EqAt
import PyProof.EqKinds
import PyProof.TupleCall
import PyProof.StationsW
import PyProof.Commute
import PyProof.ExcClass3
import PyProof.ExcInit
import OpenK.KCls
import OpenK.KMake
import PyProof.ExcArgsOwn
import PyProof.InstStoreFacts
import PyProof.MaxThree
import KE.KMinKey
import KE.KIntText
import PyProof.DictUpdate
import PyProof.Draws
import PyProof.EnumMake
import PyProof.DictIter
import PyProof.StrBlock2
import PyProof.FString
import PyProof.FitsInt
import PySem.Challenge.RW_laidcells_k33_not_laid_together
set_option Elab.async false
set_option linter.all false
set_option compiler.extract_closed false
set_option maxRecDepth 100000
set_option maxHeartbeats 20000000
noncomputable section
abbrev Aa:=@List
abbrev Ab:=@Option
abbrev Ac:=@PySem.Value
abbrev Ad:=@PySem.Addr
abbrev Ae:=@PySem.Shared
abbrev Af:=@PySem.Str
abbrev Ag:=@PySem.Heap
abbrev Ah:=@PySem.Program
abbrev kM:=PySem.W.Frag
abbrev aA:=@List.length_map
abbrev aB:=@PySem.wpAny_bind
abbrev aD:=@List.length_append
abbrev aE:=@PySem.Heap.get?_push_of_some
abbrev aF:=@PySem.wpAny_pure
abbrev aG:=@List.map_append
abbrev aH:=@List.mem_singleton
abbrev aI:=@List.mem_of_getElem?
abbrev aJ:=@List.getElem?_eq_getElem
abbrev aK:=@List.mem_cons
abbrev aL:=@if_neg
abbrev aM:=@List.mem_append_left
abbrev aO:=@List.mem_cons_self
abbrev aP:=@List.map_map
abbrev aQ:=@decide_eq_false
abbrev aR:=@List.mem_append
abbrev aT:=@List.mem_append_right
abbrev aU:=@if_pos
abbrev aV:=@List.getElem?_eq_some_iff
abbrev aW:=@List.map_cons
abbrev aX:=@decide_eq_true
abbrev aY:=@PySem.Heap.lt_size
abbrev aZ:=@List.mem_cons_of_mem
abbrev bB:=@List.mem_map
abbrev bC:=@PyProof.Rows.boot_tuple
abbrev bD:=@Nat.le_refl
abbrev bE:=@List.not_mem_nil
abbrev bF:=@List.size_toArray
abbrev bH:=@List.getElem?_map
abbrev bK:=@List.append_assoc
abbrev bL:=@PySem.Heap.get?_push_size
abbrev bM:=@Bool.false_ne_true
abbrev bN:=@List.nodup_cons
abbrev bP:=@Nat.lt_of_lt_of_le
abbrev bQ:=@List.mem_filter
abbrev bR:=@PySem.W.mg_none_of
abbrev bS:=@List.nodup_append
abbrev bT:=@List.length_filter_le
abbrev bU:=@Nat.le_trans
abbrev bV:=@List.length_set
abbrev bW:=@List.length_replicate
abbrev bX:=@List.nodup_nil
abbrev bY:=@Option.some.inj
abbrev bZ:=@PySem.F.plainAttrs_list
abbrev cA:=@List.mem_map_of_mem
abbrev cB:=@PySem.boot_len
abbrev cD:=@Nat.ne_of_lt
abbrev cE:=@PySem.W.mg_of
abbrev cF:=@List.cons_append
abbrev cG:=@List.append_nil
abbrev cH:=@congrArg
abbrev cK:=@Bool.and_eq_true
abbrev cL:=@Option.map_eq_some_iff
abbrev cM:=@PyProof.Rows.boot_dict
abbrev cO:=@PySem.F.slot_list_append
abbrev cP:=@PySem.F.type_list_append
abbrev cQ:=@List.length_cons
abbrev cR:=@List.lookup_cons
abbrev cS:=@List.length_nil
abbrev cT:=@PySem.wpAny_mono
abbrev cU:=@Bool.false_eq_true
abbrev cV:=@PySem.Heap.get?_update_self
abbrev cW:=@PySem.wpAny_holding
abbrev cX:=@List.replicate_succ
abbrev cY:=@PySem.Heap.get?_update_other
abbrev cZ:=@Option.isSome_iff_exists
abbrev dB:=@Nat.mod_lt
abbrev dD:=@List.length_take
abbrev dF:=@PySem.F.slot_dict_itemiterator_next
abbrev dH:=@PyProof.Rows.boot_list
abbrev dJ:=@beq_eq_false_iff_ne
abbrev dL:=@PySem.mem_of_lookup
abbrev dM:=@List.length_range
abbrev dN:=@List.getElem?_set_ne
abbrev dO:=@List.getElem?_append_right
abbrev dP:=@PySem.Obj.data_mapFields
abbrev dQ:=@List.find?_cons
abbrev dR:=@List.eq_nil_iff_forall_not_mem
abbrev dU:=@Array.getElem?_eq_getElem
abbrev dX:=@Sum.inr.inj
abbrev dY:=@decide_eq_true_eq
abbrev dZ:=@List.take_add_one
abbrev eB:=@Nat.lt_irrefl
abbrev eC:=@PySem.F.slot_dict_keyiterator_next
abbrev eE:=@PyProof.Rows.boot_isinstance
abbrev eF:=@List.all_eq_true
abbrev eG:=@List.eraseIdx_cons_succ
abbrev eI:=@of_decide_eq_true
abbrev eJ:=@Int.toNat_natCast
abbrev eK:=@List.map_congr_left
abbrev eM:=@List.length_pos_iff
abbrev eO:=@List.cons.injEq
abbrev eP:=@Array.getElem?_toList
abbrev eQ:=@PySem.Obj.isFreed_of_fields
abbrev eR:=@Nat.lt_of_le_of_lt
abbrev eT:=@List.getElem_mem
abbrev eU:=@List.mem_replicate
abbrev eV:=@PySem.wpAny_call_entry
abbrev eW:=@PySem.wpAny_setField_rec
abbrev eX:=@PySem.Heap.get?_none_of_le
abbrev eY:=@Bool.and_eq_true_iff
abbrev eZ:=@Ne.symm
abbrev fH:=@PySem.wpAny_truthy_bool
abbrev fK:=@PySem.wpAny_newObj_type
abbrev fM:=@List.nil_append
abbrev fQ:=@Array.length_toList
abbrev fR:=@PySem.Paired.length
abbrev fU:=@List.any_cons
abbrev fV:=@Nat.zero_le
abbrev fX:=@PySem.wpAny_attempt
abbrev fY:=@List.take_length
abbrev fZ:=@PySem.Calls.Constant_str
abbrev gA:=@Array.getElem?_eq_some_iff
abbrev gB:=@PySem.F.excAttr_ValueError
abbrev gC:=@beq_iff_eq
abbrev gE:=@PySem.F.excBase_ValueError
abbrev gF:=@List.getElem?_append_left
abbrev gG:=@List.flatten_cons
abbrev gH:=@Nat.le_succ
abbrev gI:=@List.map_nil
abbrev gJ:=@PySem.wpAny_field
abbrev gK:=@if_false
abbrev gL:=@PySem.wpAny_of_eq
abbrev gM:=@PySem.wpAny_dictEntries
abbrev gO:=@List.Pairwise.map
abbrev gP:=@List.set_eq_of_length_le
abbrev gQ:=@List.filterMap_cons
abbrev gR:=@List.mem_range
abbrev gS:=@PySem.F.plainAttrs_dict
abbrev gT:=@List.perm_middle
abbrev gU:=@PySem.wpAny_callSpecial?_slot
abbrev gW:=@List.getElem?_set_self
abbrev gX:=@PySem.Calls.spliced_cons
abbrev gY:=@PySem.Calls.callWith_builtin
abbrev gZ:=@PySem.tupleKind_room_in1
abbrev hG:=@List.zip_cons_cons
abbrev hU:=@PySem.wpAny_dictEpoch
abbrev hV:=@PySem.wpAny_loadPart_at
abbrev hW:=@List.filter_congr
abbrev hZ:=@PySem.codeAny_call_builtin
abbrev iB:=@Nat.add_le_add_left
abbrev iC:=@List.filter_eq_self
abbrev iD:=@PySem.wpAny_standAt
abbrev iE:=@PySem.F.args_tuple_add_2
abbrev iF:=@PySem.F.store_ValueError
abbrev iH:=@PySem.F.slot_list_getattribute
abbrev iJ:=@PySem.strLen_append
abbrev iK:=@PySem.wpAny_passesOwn
abbrev iL:=@Bool.eq_iff_iff
abbrev iM:=@if_true
abbrev iN:=@PySem.wpAny_call
abbrev iP:=@PySem.wpAny_Call_Name_kw
abbrev iQ:=@List.filter_filter
abbrev iR:=@PySem.F.entry_tuple_add
abbrev iS:=@PySem.F.slot_tuple_add
abbrev iT:=@PySem.wpAny_setField
abbrev iU:=@Array.getElem?_eq_none
abbrev iW:=@PySem.wpAny_isOneOf_itemiter
abbrev iX:=@List.eraseIdxIfInBounds_toArray
abbrev iY:=@PySem.F.slot_dict_get
abbrev iZ:=@PySem.wpAny_notOrdered_dict
abbrev jA:=@List.getElem?_eq_none
abbrev jB:=@List.Perm.append_left
abbrev jD:=@Nat.succ_le_succ
abbrev jE:=@PySem.wpAny_isInstance
abbrev jF:=@beq_self_eq_true
abbrev jG:=@List.all_cons
abbrev jH:=@PySem.Calls.evalArgs_plain
abbrev jI:=@List.mem_of_mem_take
abbrev jJ:=@PySem.wpAny_execs_nil
abbrev jK:=@Bool.or_eq_true
abbrev jL:=@List.getElem_of_mem
abbrev jM:=@Nat.le_of_lt
abbrev jN:=@List.mem_filterMap
abbrev jO:=@PySem.call_meets
abbrev jQ:=@Option.isSome_some
abbrev jR:=@PySem.wpAny_fieldsOf
abbrev jS:=@PySem.refuseLoop_ref
abbrev jT:=@PySem.sizeLine_eq
abbrev jU:=@Option.isSome_map
abbrev jV:=@Bool.eq_false_iff
abbrev jW:=@Option.some.injEq
abbrev jX:=@Option.bind_some
abbrev jY:=@List.any_eq_true
abbrev jZ:=@List.nodup_range
abbrev kA:=@Nat.lt_trans
abbrev kB:=@Nat.not_lt
abbrev kC:=@List.all_map
abbrev kD:=@List.of_mem_zip
abbrev kE:=@List.forIn_cons
abbrev kF:=@Int.emod_nonneg
abbrev kG:=@List.range_succ
abbrev kH:=@List.filter_map
abbrev kK:=@Array.size_push
abbrev kL:=@or_false
namespace L2
open PySem PySem.Spec PyProof.Rows
abbrev gV:=Sum Int Af
noncomputable def wO:gV->Ac->Bool
 | .inl k,v=>Value.isInt k v
 | .inr x,v=>Value.isStrOf x v
def W5 (w:World):gV->Int
 | .inl k=>hashInt k
 | .inr x=>hashStr w x
theorem uK:∀ {k:gV}{v:Ac},wO k v=true->(∃ i t,k=Sum.inl i/\v=Value.int i t)\/(∃ x t,k=Sum.inr x/\v=Value.str x t)
 | .inl i,v,h=>by
  obtain⟨t,e⟩:=Value.isInt_shape (k:=i) (v:=v) h;exact .inl ⟨i,t,rfl,e⟩
 | .inr x,v,h=>by
  obtain⟨t,e⟩:=Value.isStrOf_shape (x:=x) (v:=v) h;exact .inr ⟨x,t,rfl,e⟩
theorem DU (i:Int) (t:Tok):wO (.inl i) (.int i t)=true:=by simp[wO,Value.isInt]
theorem Vv (x:Af) (t:Tok):wO (.inr x) (.str x t)=true:=by simp[wO,Value.isStrOf]
theorem S3 (a b:Int):decide ((Sum.inl a:gV)=Sum.inl b)=(a == b):=by
 by_cases e:a=b
 .subst e;simp
 .have h:¬ (Sum.inl a:gV)=Sum.inl b:=λq=>e (Sum.inl.inj q)
  rw[aQ h];exact (dJ.mpr e).symm
theorem Ta (a b:Af):decide ((Sum.inr a:gV)=Sum.inr b)=decide (a=b):=by
 by_cases e:a=b
 .subst e;simp
 .have h:¬ (Sum.inr a:gV)=Sum.inr b:=λq=>e (dX q)
  rw[aQ h,aQ e]
theorem U8 (a:Int) (b:Af):decide ((Sum.inl a:gV)=Sum.inr b)=false:=aQ (λq=>nomatch q)
theorem BR (a:Af) (b:Int):decide ((Sum.inr a:gV)=Sum.inl b)=false:=aQ (λq=>nomatch q)
def oA (g:Ah) (w:World):PySem.KeyKind g w gV where
 is:=wO
 hash:=W5 w
 inj:=λv a b m f=>by
  rcases uK m with⟨i,t,rfl,rfl⟩ | ⟨x,t,rfl,rfl⟩
  .rcases uK f with⟨j,u,rfl,e⟩ | ⟨y,u,rfl,e⟩
   .injection e with c _;rw[c]
   .exact nomatch e
  .rcases uK f with⟨j,u,rfl,e⟩ | ⟨y,u,rfl,e⟩
   .exact nomatch e
   .injection e with c _;rw[c]
 byValue:=λk v h=>by
  rcases uK h with⟨i,t,rfl,rfl⟩ | ⟨x,t,rfl,rfl⟩<;>rfl
 pyHash:=λd h=>by
  rcases uK d with⟨i,t,rfl,rfl⟩ | ⟨x,t,rfl,rfl⟩
  .exact wpAny_pyHash_int h
  .exact wpAny_pyHash_str h
 eqBool:=λn d h=>by
  rcases uK n with⟨i,t,rfl,rfl⟩ | ⟨x,t,rfl,rfl⟩
  .rcases uK d with⟨j,u,rfl,rfl⟩ | ⟨y,u,rfl,rfl⟩
   .rw[S3] at h;exact wpAny_eqBool_int h
   .rw[U8] at h;exact SeqAt.EqAt.int_str i t y u _ _ _ _ h
  .rcases uK d with⟨j,u,rfl,rfl⟩ | ⟨y,u,rfl,rfl⟩
   .rw[BR] at h;exact SeqAt.EqAt.str_int x t j u _ _ _ _ h
   .rw[Ta] at h;exact wpAny_eqBool_str h
 «strs»:=λk x t v h=>by
  rcases uK h with⟨i,u,rfl,e⟩ | ⟨y,u,rfl,e⟩
  .exact nomatch e
  .injection e with c _;subst c;cases v<;>rfl
theorem DO (g:Ah) (w:World) (i:Int) (t:Tok):(oA g w).is (.inl i) (.int i t)=true:=DU i t
theorem N3 (g:Ah) (w:World) (x:Af) (t:Tok):(oA g w).is (.inr x) (.str x t)=true:=Vv x t
inductive V where
 | e | b (b:Bool) | int (i:Int) | str (x:Str) | byt (b:Array UInt8) | flt (b:UInt64) | ref (a:Addr) | ty (n:String)
 deriving DecidableEq
def kR:V->Ac->Prop
 | .e,u=>u=Value.none
 | .b b,u=>u=Value.bool b
 | .int i,u=>∃ t,u=Value.int i t
 | .str x,u=>∃ t,u=Value.str x t
 | .byt b,u=>∃ t,u=Value.bytes b t
 | .flt b,u=>∃ t,u=Value.float b t
 | .ref a,u=>u=Value.ref a
 | .ty n,u=>u=Value.type n
abbrev kY:Aa V->Aa Ac->Prop:=Paired kR
theorem kY.length (r:kY j g):j.length=g.length:=fR r
theorem kY.get:∀ {j:Aa V}{g:Aa Ac}{i:Nat}{x:V},kY j g->j[i]?=some x->∃ u,g[i]?=some u/\kR x u
 | _,_,_,_,.nil,e=>by simp at e
 | _,_,0,_,.cons r _,e=>by simp at e;subst e;exact⟨_,rfl,r⟩
 | _,_,i+1,x,.cons _ t,e=>by
  obtain⟨u,a,b⟩:=kY.get (i:=i) (x:=x) t (by simpa using e);exact⟨u,by simpa using a,b⟩
theorem kY.set (r:kR x u):∀ {j:Aa V}{g:Aa Ac}(i:Nat),kY j g->kY (j.set i x) (g.set i u)
 | _,_,_,.nil=>.nil
 | _,_,0,.cons _ t=>.cons r t
 | _,_,i+1,.cons q t=>.cons q (kY.set r i t)
theorem kY.append:∀ {l o:Aa V}{g j:Aa Ac},kY l g->kY o j->kY (l++o) (g++j)
 | _,_,_,_,.nil,s=>s
 | _,_,_,_,.cons r t,s=>.cons r (kY.append t s)
def sU:Ab V->Ab Ac->Prop
 | some v,some u=>kR v u
 | none,none=>True
 | _,_=>False
def KV {g:Type}:Aa (g×V)->Aa (g×Ac)->Prop:=Paired λ(p:g×V) (q:g×Ac)=>p.1=q.1/\kR p.2 q.2
def kV:gV->V
 | .inl i=>.int i
 | .inr x=>.str x
inductive HO where
 | l (xs:List V)
 | t (xs:List V)
 | k (kvs:List (gV×V)) | T (kvs:List (List gV×V))
 | set (S:Int->Bool) (n:Nat)
 | ins (C dx:Addr) (fs:List (Str×V))
 | o (x:Addr)
 | xd (fs:List (Str×V))
 | met (f x:Addr)
 | rng (lo hi:Int)
 | frz (o:Obj) (u:HO)
 | tbl (ps:Array Value)
 | ext (φ:Heap->Prop)
abbrev Hp:=Ad->Ab HO
def upd (H:Hp) (a:Ad) (o:HO):Hp:=λb=>if b=a then some o else H b
theorem lT:upd H a o a=some o:=by unfold upd;rw[if_pos rfl]
theorem kX (h:b≠a):upd H a o b=H b:=by unfold upd;rw[if_neg h]
theorem Rq:upd (upd H a o) a u=upd H a u:=by
 funext b;unfold upd;split<;>rfl
theorem CD {H:Hp}{a b:Ad}{o u:HO}(h:H a=some o) (g:H b=some u) (d:o≠u):a≠b:=by
 intro e;subst e;rw[h] at g;exact d (bY g)
theorem nP {H:Hp}{a b:Ad}{o:HO}(h:H a=some o) (g:H b=none):a≠b:=by
 intro e;subst e;rw[h] at g;cases g
section
variable (P:Ah) (w:World)
def xK (h:Ag) (a:Ad) (items:Array Ac):Prop:=IsTup h a items/\∃ o,h.get? a=some o/\o.dict=none
theorem xK.new (h:Ag) (items:Array Ac):xK (h.push { cls:=.type "tuple",data:=.seq items }) h.objs.size items:=⟨IsTup.new _ _,_,bL _ rfl,rfl⟩
def nB (H:Hp) (h:Ag) (a:Ad):HO->Prop
 | .l d=>d.length<=sizeLine/\∃ (b:Aa Ac) (n:Nat),kY d b/\h.get? a=some { cls:=.type "list",data:=.seq b.toArray n }
 | .t d=>d.length<=sizeLine/\∃ b:Aa Ac,kY d b/\xK h a b.toArray
 | .k c=>c.length<=sizeLine/\(a == sysModules)=false/\∃ A,KV c A/\h.DictOf (oA P w) a A
 | .T c=>c.length<=sizeLine/\(a == sysModules)=false/\∃ d:Aa (Aa gV×Ad×Ac),
   Paired (λ(p:Aa gV×V) (q:Aa gV×Ad×Ac)=>p.1=q.1/\H q.2.1=some (.t (p.1.map kV))/\kR p.2 q.2.2) c d /\
   ∃ o s B,h.get? a=some o/\o.ExactDict/\o.data = .dict s B/\s.toList=d.map (entryOfKey (tupleKind (oA P w)))/\(d.map (·.1)).Nodup
 | .set S n=>h.SetOf (intKind P w) a S n
 | .ins C i fs=>H i=some (.o a)/\fs.length<=1000/\i≠a/\h.get? a=some (PySem.W.instObj C i) /\
   ∃ e,h.Ns1 i e/\(∀ f,sU (fs.lookup f) (e f))/\PySem.Within e (fs.map (·.1))
 | .o _=>∃ o,h.get? a=some o
 | .xd fs=>∃ e,h.Ns1 a e/\∀ f,sU (fs.lookup f) (e f)
 | .rng lo D=>∃ t u v,h.get? a=some { cls:=.type "range",data:=.fields #[.int lo t,.int D u,.int 1 v] }
 | .frz o u=>h.get? a=some o/\nB H h a u
 | .tbl E=>h.get? a=some { cls:=.none,data:=.fields E }
 | .met f x=>h.get? a=some (PySem.W.methodObj (.ref f) (.ref x))
 | .ext m=>m h/\(∃ o,h.get? a=some o)/\∀ y z:Ag,m y->(∀ o,y.get? a=some o->z.get? a=some o)->m z
def nA (H:Hp) (h:Ag):Prop:=∀ a o,H a=some o->nB P w H h a o
end
section
variable {P:Ah}
theorem nB.lt (x:nB P w H h a o):a<h.objs.size:=by
 cases o with
 | l c=>obtain⟨_,_,_,_,e⟩:=x;exact aY e
 | t c=>obtain⟨_,_,_,p,_⟩:=x;exact p.lt
 | k b=>obtain⟨_,_,_,_,o,_,_,e,_⟩:=x;exact aY e
 | T b=>obtain⟨_,_,_,_,o,_,_,e,_⟩:=x;exact aY e
 | set S n=>obtain⟨o,_,_,_,e,_⟩:=x;exact aY e
 | ins C d fs=>obtain⟨_,_,_,e,_⟩:=x;exact aY e
 | o y=>obtain⟨_,e⟩:=x;exact aY e
 | xd fs=>obtain⟨_,⟨_,_,_,e,_⟩,_⟩:=x;exact aY e
 | rng lo i=>obtain⟨_,_,_,e⟩:=x;exact aY e
 | frz m u=>obtain⟨e,_⟩:=x;exact aY e
 | tbl q=>exact aY (show h.get? a=some _ from x)
 | met f y=>exact aY (show h.get? a=some _ from x)
 | ext s=>obtain⟨_,⟨_,e⟩,_⟩:=x;exact aY e
theorem Paired.mapP {F:l->o->Prop}:∀ {g:Aa l}{j:Aa o},Paired F g j->(∀ a b,F a b->G a b)->Paired G g j
 | _,_,.nil,_=>.nil
 | _,_,.cons r t,f=>.cons (f _ _ r) (Paired.mapP t f)
theorem nB.stay (x:nB P w H h a o) (k:∀ b u,(b=a\/H b=some (.o a))->h.get? b=some u->j.get? b=some u)
  (J:∀ b,H b=some (.o a)->I b=some (.o a)) (U:∀ b g,H b=some (.t g)->I b=some (.t g)):nB P w I j a o:=by
 induction o with
 | l g=>obtain⟨z,A,n,r,e⟩:=x;exact⟨z,A,n,r,k _ _ (.inl rfl) e⟩
 | t g=>obtain⟨z,A,r,⟨i,e,c⟩,M,B,K⟩:=x;exact⟨z,A,r,⟨i,k _ _ (.inl rfl) e,c⟩,M,k _ _ (.inl rfl) B,K⟩
 | k D=>obtain⟨z,y,N,r,i,s,m,e,c⟩:=x;exact⟨z,y,N,r,i,s,m,k _ _ (.inl rfl) e,c⟩
 | T D =>
  obtain⟨z,y,g,r,i,s,m,e,c⟩:=x;exact⟨z,y,g,Paired.mapP r λp q z=>⟨z.1,U _ _ z.2.1,z.2.2⟩,i,s,m,k _ _ (.inl rfl) e,c⟩
 | set S n=>obtain⟨i,s,m,t,e,c⟩:=x;exact⟨i,s,m,t,k _ _ (.inl rfl) e,c⟩
 | ins C O fs =>
  obtain⟨d,z,ne,e,E,⟨F,s,m,B,c⟩,r⟩:=x;exact⟨J _ d,z,ne,k _ _ (.inl rfl) e,E,⟨F,s,m,k _ _ (.inr d) B,c⟩,r⟩
 | o y=>obtain⟨i,e⟩:=x;exact⟨i,k _ _ (.inl rfl) e⟩
 | xd fs=>obtain⟨E,⟨F,s,m,e,c⟩,r⟩:=x;exact⟨E,⟨F,s,m,k _ _ (.inl rfl) e,c⟩,r⟩
 | rng lo Q=>obtain⟨t,u,v,e⟩:=x;exact⟨t,u,v,k _ _ (.inl rfl) e⟩
 | frz i u L=>obtain⟨e,q⟩:=x;exact⟨k _ _ (.inl rfl) e,L q⟩
 | tbl G =>
  have e:h.get? a=some { cls:=.none,data:=.fields G }:=x;show j.get? a=some { cls:=.none,data:=.fields G };exact k a _ (.inl rfl) e
 | met f y =>
  have e:h.get? a=some (PySem.W.methodObj (.ref f) (.ref y)):=x;show j.get? a=some (PySem.W.methodObj (.ref f) (.ref y));exact k a _ (.inl rfl) e
 | ext R=>obtain⟨p,⟨o,e⟩,st⟩:=x;exact⟨st _ _ p λo q=>k _ _ (.inl rfl) q,⟨o,k _ _ (.inl rfl) e⟩,st⟩
theorem nA.lt (x:nA P w H h) (e:H a=some o):a<h.objs.size:=(x a o e).lt
theorem nA.fresh (x:nA P w H h) (e:h.objs.size<=a):H a=none:=by
 cases q:H a with
 | none=>rfl
 | some u=>exact absurd (bP (x.lt q) e) (eB _)
theorem nA.kept (x:nA P w H h) (k:∀ b u,h.get? b=some u->g.get? b=some u):nA P w H g:=λa o e =>
 (x a o e).stay (λb u _ q=>k b u q) (λ_ q=>q) λ_ _ q=>q
theorem nA.laid (x:nA P w H h) (k:∀ b u,h.get? b=some u->h'.get? b=some u) (g:h.objs.size<=a) (new:nB P w (upd H a o) h' a o):nA P w (upd H a o) h':=λb u e=>by
 have f:=x.fresh g;by_cases d:b=a
 .subst d;rw[lT] at e;cases e;exact new
 .rw[kX d] at e;exact (x b u e).stay (λc v _ q=>k c v q) (λc q=>by rw[kX (nP q f)];exact q) λc i q=>by rw[kX (nP q f)];exact q
end
def Rd (H:Hp) (a:Ad) (u:HO):Prop:=H a=some u\/∃ o,H a=some (.frz o u)
theorem Rd.ok {P:Ah}(r:Rd H a u) (x:nA P w H h):nB P w H h a u:=by
 rcases r with r | ⟨o,r⟩
 .exact x a u r
 .obtain⟨_,q⟩:=x a _ r;exact q
def A2:Ab HO->Prop
 | some (.l _)=>True
 | some (.k _)=>True
 | some (.T _)=>True
 | some (.set _ _)=>True
 | some (.ins _ _ _)=>True
 | some (.ext _)=>True
 | _=>False
section
variable {P:Ah}
theorem nA.write (ok:nA P w H h) (g:A2 (H x)) (l:e=x\/H e=some (.o x)) (k:∀ b u,b≠e->h.get? b=some u->h'.get? b=some u) (j:∃ u,h'.get? e=some u)
  (new:nB P w (upd H x p) h' x p):nA P w (upd H x p) h':=λb u q=>by
 have d:∀ c y,H c=some (.o y)->c≠x:=λc y r z=>by subst z;rw[r] at g;exact g
 have f:∀ c n,H c=some (.t n)->c≠x:=λc n r z=>by subst z;rw[r] at g;exact g
 by_cases i:b=x
 .subst i;rw[lT] at q;cases q;exact new
 .rw[kX i] at q;by_cases a:b=e
  .have s:H b=some (.o x):=by
    rcases l with z | z
    .exact absurd (a.trans z) i
    .rw[a];exact z
   rw[q] at s;cases s;obtain⟨v,A⟩:=j;exact⟨v,by rw[a];exact A⟩
  .refine (ok b u q).stay (λc v m r=>k c v ?_ r) (λc r=>by rw[kX (d c b r)];exact r) λc n r=>by rw[kX (f c n r)];exact r
   rcases m with rfl | m
   .exact a
   .rintro rfl;rcases l with z | z
    .exact d c b m z
    .rw[m] at z;cases z;exact i rfl
end
structure Un (fs ex:List Addr) (H H':Hp) (h h':Heap):Prop where
 keep:∀ b o,h.get? b=some o->H b=none->b∉fs->b∉ex->h'.get? b=some o
 slot:∀ b o,h.get? b=some o->H b=none->b∈fs->b∉ex->∃ sl,h'.get? b=some { o with slots:=sl }
 free:∀ b o,h.get? b=some o->H b=none->b∉ex->H' b=none
 there:∀ b o,h.get? b=some o->b∉ex->∃ o',h'.get? b=some o'
 tups:∀ b xs,H b=some (.t xs)->H' b=some (.t xs)
 frzs:∀ b o u,H b=some (.frz o u)->H' b=some (.frz o u)
 tbls:∀ b ps,H b=some (.tbl ps)->∃ more,H' b=some (.tbl (ps++more))
section
theorem Un.any (u:Un fs l H r h o) (q:h.get? b=some g) (n:H b=none) (j:b∉l):∃ p,o.get? b=some { g with slots:=p }:=by
 by_cases a:b∈fs
 .exact u.slot b g q n a j
 .exact⟨g.slots,u.keep b g q n a j⟩
theorem Un.kept (k:∀ b u,h.get? b=some u->g.get? b=some u):Un fs j H H h g :=
 ⟨λb a q _ _ _=>k b a q,λb a q _ _ _=>⟨a.slots,k b a q⟩,λ_ _ _ n _=>n,λb a q _=>⟨a,k b a q⟩,λ_ _ q=>q,λ_ _ _ q=>q,λ_ c q=>⟨#[],by rw[q];simp⟩⟩
theorem Un.refl:Un fs g H H h h:=Un.kept λ_ _ q=>q
theorem Un.laid (k:∀ b u,h.get? b=some u->h'.get? b=some u) (j:h.objs.size<=a) (g:H a=none):Un fs l H (upd H a o) h h' where
 keep:=λb u q _ _ _=>k b u q
 slot:=λb u q _ _ _=>⟨u.slots,k b u q⟩
 free:=λb u q n _=>by rw[kX (cD (bP (aY q) j))];exact n
 there:=λb u q _=>⟨u,k b u q⟩
 tups:=λb c q=>by rw[kX (nP q g)];exact q
 frzs:=λb u c q=>by rw[kX (nP q g)];exact q
 tbls:=λb d q=>⟨#[],by rw[kX (nP q g),q];simp⟩
theorem Un.write (g:A2 (H x)) (l:e=x\/H e=some (.o x)) (k:∀ b u,b≠e->h.get? b=some u->h'.get? b=some u) (j:∃ u,h'.get? e=some u):Un fs p H (upd H x o) h h':=by
 have f:∀ b,H b=none->b≠x:=λb n z=>by subst z;rw[n] at g;exact g
 have d:∀ b,H b=none->b≠e:=λb n z=>by
  subst z;rcases l with r | r
  .exact f b n r
  .rw[n] at r;cases r
 have c:∀ b u,H b=some u->¬ A2 (some u)->b≠x:=λb u q i z=>by subst z;rw[q] at g;exact i g
 refine⟨λb u q n _ _=>k b u (d b n) q,λb u q n _ _=>⟨u.slots,k b u (d b n) q⟩,λb u q n _=>by rw[kX (f b n)];exact n,λb u q _=>?_,
  λb m q=>by rw[kX (c b _ q λz=>z)];exact q,λb u m q=>by rw[kX (c b _ q λz=>z)];exact q,λb s q=>⟨#[],by rw[kX (c b _ q λz=>z),q];simp⟩⟩
 by_cases a:b=e
 .subst a;exact j
 .exact⟨u,k b u a q⟩
end
noncomputable def Dg (h:Ag) (H:Hp):Aa Ad:=(List.range h.objs.size).filter λa=>(H a).isSome
def vF (h:Ag) (H:Hp):Ag:=PySem.W.hideAll h (Dg h H)
theorem U5 (h:Ag) (H:Hp):(vF h H).objs.size=h.objs.size:=PySem.W.hideAll_size _ _
theorem Tf (e:h.get? b=some o) (n:H b=none):(vF h H).get? b=some o :=
 PySem.W.hideAll_get _ e λa=>by
  have q:(H b).isSome=true:=(bQ.mp a).2;rw[n] at q;simp at q
theorem Vm (e:(vF h H).get? b=some o):h.get? b=some o/\H b=none:=by
 have a:h.get? b=some o:=PySem.W.of_hideAll (Dg h H) e;refine⟨a,?_⟩;cases q:H b with
 | none=>rfl
 | some x =>
  have c:b∈Dg h H:=bQ.mpr ⟨gR.mpr (aY a),by simp[q]⟩;have z:(vF h H).get? b=none:=PySem.W.hideAll_none (Dg h H) c;rw[z] at e;cases e
structure Mod (K:kM) (mg:Str->Option Value) (base:Heap):Prop where
 kin:K.In base
 glob:base.Ns mainGlobals mg
 blt:∃ mb,base.Ns builtinsNs mb/\∀ x:Str,x ≠ "__name__" -> mb x=bootBuiltins x
 nolimit:base.NoLimit
/-- the context: a def's body (or a comprehension's block) running. base: fixed through the whole law;s₀,H₀: the entry;outer: the frames whose slots others may change (a def's callers);stack: all frames that run;
 ex: iterators that were made ahead of the entry and are walked here (a comprehension's);fn: the names whose cells were made at the entry (a def: all;a comprehension's block: its own);calm: not within an except suite;pn: pins that every state bears;xe: what is wanted of an exception that leaves the code -/
structure Cx where
 prog:Program
 w:World
 K:kM
 mg:Str->Option Value
 base:Heap
 A:Around
 N:List Str
 s₀:Shared
 H₀:Hp
 env:Env
 outer:List Env
 stack:List Env
 ex:List Addr
 fn:Str->Bool
 calm:Bool
 pn:List (Addr×Obj)
 xe:Value->Shared->Prop
noncomputable def rK (l:Aa Env):Aa Ad:=l.filterMap (·.frame)
abbrev Cx.fs (X:Cx):Aa Ad:=rK X.outer
def Gu (g:Scope) (x:Af):Prop:=g.names.lookup x=some .local\/g.names.lookup x=some .cell\/g.names.lookup x=some .free
def rT (g:Scope) (x:Af):Prop:=g.names.lookup x=some .local\/g.names.lookup x=some .cell
def Va (g:Env) (h:Ag) (m:Af->Ab Ac) (x:Af) (u:Ac):Prop :=
 (g.kindOf x=some .local/\m x=some u)\/((g.kindOf x=some .cell\/g.kindOf x=some .free)/\∃ c,g.cells.lookup x=some c/\h.IsCell c (some u))
structure Cx.Ok (X:Cx):Prop where
 mod:Mod X.K X.mg X.base
 kind:X.env.scope.kind = .function
 glob:X.env.globals=mainGlobals
 blt:X.env.builtins=builtinsNs
 above:X.s₀.heap.objs.size<=X.env.locals
 inj:∀ x y c,X.env.cells.lookup x=some c->X.env.cells.lookup y=some c->x=y
 has:∀ x,(X.env.kindOf x=some .cell\/X.env.kindOf x=some .free)->∃ c,X.env.cells.lookup x=some c
 cab:∀ x c,X.fn x=true->X.env.cells.lookup x=some c->X.s₀.heap.objs.size<=c
 hd:X.calm=true->X.A.handled=none
 frames:X.A.frames=some X.stack
 stk:X.stack=X.outer\/(X.stack=X.env::X.outer/\X.env.frame=some X.env.locals)
 exf:∀ b∈X.ex,b≠X.env.locals/\∀ x c,X.env.cells.lookup x=some c->c≠b
 bs:∀ b o,X.base.get? b=some o->X.s₀.heap.get? b=some o/\X.H₀ b=none
 bsz:X.base.objs.size<=X.s₀.heap.objs.size
 noex:∀ b o,X.base.get? b=some o->b∉X.ex
 exfs:∀ b∈X.ex,b∉X.fs
 funs:X.s₀.heap.FunFrames X.base X.outer
 frf:∀ b∈X.fs,X.H₀ b=none
structure Inv (X:Cx) (pins:List (Addr×Obj)) (σ:List (Option V)) (H:Hp) (s:Shared):Prop where
 ok:X.Ok
 os:s.os=X.s₀.os
 bare:AllBare s.gens
 base:Un X.fs X.ex X.H₀ H X.s₀.heap s.heap
 loc:∃ m,s.heap.Ns X.env.locals m/\∀ (i:Nat) (x:Str) (v:V),X.N[i]?=some x->σ[i]?=some (some v)->Gu X.env.scope x->∃ u,kR v u/\Va X.env s.heap m x u
 cell:∀ x c,X.env.cells.lookup x=some c->∃ v,s.heap.IsCell c v
 free:H X.env.locals=none
 freeC:∀ x c,X.env.cells.lookup x=some c->H c=none
 pin:∀ p∈X.pn++pins,s.heap.get? p.1=some p.2/\H p.1=none/\p.1≠X.env.locals/\p.1∉X.fs/\∀ v,p.2.data ≠ .cell v
 hok:nA X.prog X.w H s.heap
 len:σ.length=X.N.length
section
variable {X:Cx}
theorem Cx.Ok.nofr (ok:X.Ok) (e:X.base.get? b=some o):b∉X.fs:=λa=>by
 have:=(ok.funs.mem a).1;rw[e] at this;cases this
theorem Inv.bs (I:Inv X g j H s):∀ b o,X.base.get? b=some o->s.heap.get? b=some o/\H b=none:=λb o e =>
 ⟨I.base.keep b o (I.ok.bs b o e).1 (I.ok.bs b o e).2 (I.ok.nofr e) (I.ok.noex b o e),I.base.free b o (I.ok.bs b o e).1 (I.ok.bs b o e).2 (I.ok.noex b o e)⟩
theorem Inv.bk (I:Inv X g j H s):∀ b o,X.base.get? b=some o->s.heap.get? b=some o:=λb o e=>(I.bs b o e).1
theorem Inv.mod (I:Inv X g j H s):Mod X.K X.mg X.base:=I.ok.mod
theorem Inv.kIn (I:Inv X g j H s):X.K.In s.heap:=I.ok.mod.kin.keeps I.bk
theorem Inv.lt (I:Inv X g j H s):X.env.locals<s.heap.objs.size:=let ⟨_,a,_⟩:=I.loc;a.lt
theorem Inv.sz (I:Inv X g j H s):X.s₀.heap.objs.size<=s.heap.objs.size:=bU I.ok.above (jM I.lt)
theorem Inv.nofs (I:Inv X g j H s) (h:s.heap.objs.size<=a):a∉X.fs:=λb=>by
 obtain⟨_,o,c,_⟩:=I.ok.funs.mem b;exact absurd (bP (aY c) (bU I.sz h)) (eB _)
theorem Inv.cne (I:Inv X g j H s):∀ x c,X.env.cells.lookup x=some c->c≠X.env.locals:=λx c e z=>by
 obtain⟨v,o,d,hd⟩:=I.cell x c e;obtain⟨m,⟨i,h,f,b,a,_⟩,_⟩:=I.loc;rw[z,b] at d;cases d;rw[a] at hd;cases hd
theorem Inv.funs (I:Inv X g j H s):s.heap.FunFrames X.base X.outer:=by
 have all:∀ (l:Aa Env),(∀ b∈rK l,b∈X.fs)->X.s₀.heap.FunFrames X.base l->s.heap.FunFrames X.base l:=by
  intro l;induction l with
  | nil=>intro _ _;trivial
  | cons h r t =>
   intro f k;obtain⟨i,⟨L,o,d,m,n,hd⟩,q⟩:=k;have a:L∈X.fs:=f L (by unfold rK;rw[List.filterMap_cons,d];exact aO);obtain⟨u,e⟩:=I.base.slot L o n (I.ok.frf L a) a λz=>I.ok.exfs L z a
   exact⟨i,⟨L,_,d,m,e,hd⟩,t (λb c=>f b (by unfold rK;rw[List.filterMap_cons,d];exact aZ _ c)) q⟩
 exact all X.outer (λ_ c=>c) I.ok.funs
theorem Inv.stack (I:Inv X g j H s):s.heap.FunFrames X.base X.stack:=by
 rcases I.ok.stk with e | ⟨e,a⟩
 .rw[e];exact I.funs
 .rw[e];obtain⟨m,b,_⟩:=I.loc;refine .cons (by rw[I.ok.kind];decide) a b ?_ I.funs;exact eX (bU I.ok.bsz I.ok.above)
theorem Inv.stkSub (I:Inv X g j H s):∀ b∈rK X.stack,b∈X.env.locals::X.fs:=λb a=>by
 rcases I.ok.stk with e | ⟨e,c⟩
 .rw[e] at a;exact aZ _ a
 .rw[e] at a;unfold rK at a;rw[gQ,c] at a;exact a
theorem Inv.stkFree (I:Inv X g j H s):∀ b∈rK X.stack,H b=none:=λb a=>by
 rcases aK.mp (I.stkSub b a) with e | a
 .rw[e];exact I.free
 .obtain⟨_,o,c,_⟩:=I.ok.funs.mem a;exact I.base.free b o c (I.ok.frf b a) λz=>I.ok.exfs b z a
theorem Inv.step {g':Array GenState}{t':Nat}{d':Drawn}{ch:Aa Ad}(I:Inv X j σ H s)
  (g:∀ b∈ch,(b∈X.ex\/X.s₀.heap.objs.size<=b)/\b≠X.env.locals/\(∀ x c,X.env.cells.lookup x=some c->c≠b)/\∀ p∈X.pn++j,p.1≠b)
  (keep:∀ b o,b≠X.env.locals->b∉X.fs->b∉ch->s.heap.get? b=some o->H b=none->J.get? b=some o)
  (slot:∀ b o,b≠X.env.locals->b∈X.fs->b∉ch->s.heap.get? b=some o->H b=none->∃ sl,J.get? b=some { o with slots:=sl }) (free:∀ b o,b∉ch->s.heap.get? b=some o->H b=none->T b=none)
  (there:∀ b o,b∉ch->s.heap.get? b=some o->∃ o',J.get? b=some o')
  (ab:∀ b C,H b=some (.t C)->T b=some (.t C)) (U:∀ b o u,H b=some (.frz o u)->T b=some (.frz o u)) (aa:∀ b ps,H b=some (.tbl ps)->∃ more,T b=some (.tbl (ps++more)))
  (ns:∀ m,s.heap.Ns X.env.locals m->J.Ns X.env.locals m) (ac:nA X.prog X.w T J) (hg:AllBare g') :
  Inv X j σ T { s with heap:=J,gens:=g',drawn:=d',toks:=t' }:=by
 have F:∀ b o,X.s₀.heap.get? b=some o->b≠X.env.locals:=λb o e=>cD (bP (aY e) I.ok.above)
 have A:∀ b o,X.s₀.heap.get? b=some o->b∉X.ex->b∉ch:=λb o e a B=>by
  rcases (g b B).1 with z | z
  .exact a z
  .exact absurd (bP (aY e) z) (eB _)
 have f:∀ x c,X.env.cells.lookup x=some c->∀ v,s.heap.IsCell c v->J.IsCell c v:=λx c e v G=>by
  obtain⟨o,D,hd⟩:=G;have h:c∉ch:=λz=>(g c z).2.2.1 x c e rfl
  by_cases L:c∈X.fs
  .obtain⟨sl,q⟩:=slot c o (I.cne x c e) L h D (I.freeC x c e);exact⟨_,q,hd⟩
  .exact⟨o,keep c o (I.cne x c e) L h D (I.freeC x c e),hd⟩
 refine⟨I.ok,I.os,hg,⟨λb o e n B a=>?_,λb o e n B a=>?_,λb o e n a=>?_,λb o e a=>?_,λb C e=>ab b C (I.base.tups b C e),λb o C e=>U b o C (I.base.frzs b o C e),λb ps e=>?_⟩,?_,λx c e=>?_,?_,λx c e=>?_,λp M=>?_,ac,I.len⟩
 .exact keep b o (F b o e) B (A b o e a) (I.base.keep b o e n B a) (I.base.free b o e n a)
 .obtain⟨sl,y⟩:=I.base.slot b o e n B a;obtain⟨K,E⟩:=slot b _ (F b o e) B (A b o e a) y (I.base.free b o e n a);exact⟨K,E⟩
 .obtain⟨o',y⟩:=I.base.there b o e a;exact free b o' (A b o e a) y (I.base.free b o e n a)
 .obtain⟨o',y⟩:=I.base.there b o e a;exact there b o' (A b o e a) y
 .obtain⟨R,y⟩:=I.base.tbls b ps e;obtain⟨S,E⟩:=aa b _ y;exact⟨R++S,by rw[E,Array.append_assoc]⟩
 .obtain⟨m,Q,P⟩:=I.loc;refine⟨m,ns m Q,λi x v y E O=>?_⟩;obtain⟨u,r,l⟩:=P i x v y E O;refine⟨u,r,?_⟩;rcases l with l | ⟨k,c,e,z⟩
  .exact .inl l
  .exact .inr ⟨k,c,e,f x c e _ z⟩
 .obtain⟨v,z⟩:=I.cell x c e;exact⟨v,f x c e v z⟩
 .obtain⟨m,⟨o,_,_,D,_⟩,_⟩:=I.loc;exact free _ o (λz=>(g _ z).2.1 rfl) D I.free
 .obtain⟨v,o,D,hd⟩:=I.cell x c e;exact free c o (λz=>(g c z).2.2.1 x c e rfl) D (I.freeC x c e)
 .obtain⟨e,n,ne,N,d⟩:=I.pin p M;have h:p.1∉ch:=λz=>(g p.1 z).2.2.2 p M rfl
  exact⟨keep p.1 p.2 ne N h e n,free p.1 p.2 h e n,ne,N,d⟩
theorem Inv.un (I:Inv X g p H s) (u:Un X.fs [] H l s.heap h') (j:nA X.prog X.w l h'):Inv X g p l { s with heap:=h',toks:=t' }:=by
 obtain⟨m,⟨o,v,t,h,r⟩,_⟩:=id I.loc;obtain⟨A,i⟩:=u.any h I.free (by simp);exact I.step (g':=s.gens) (d':=s.drawn) (ch:=[]) (λ_ z=>nomatch z) (λb o _ f _ e n=>u.keep b o e n f (by simp)) (λb o _ f _ e n=>u.slot b o e n f (by simp)) (λb o _ e n=>u.free b o e n (by simp)) (λb o _ e=>u.there b o e (by simp)) u.tups u.frzs u.tbls (λx k=>by
  obtain⟨y,d,c,a,q⟩:=k;rw[h] at a;cases a;exact⟨_,d,c,i,q⟩) j I.bare
theorem Inv.call (I:Inv X g T H s) (u:Un (rK X.stack) ch H C s.heap h') (l:nA X.prog X.w C h') (J:AllBare g')
  (j:∀ b∈ch,(b∈X.ex\/X.s₀.heap.objs.size<=b)/\b≠X.env.locals/\(∀ x c,X.env.cells.lookup x=some c->c≠b)/\∀ p∈X.pn++g,p.1≠b) :
  Inv X g T C { s with heap:=h',gens:=g',drawn:=d',toks:=t' }:=by
 obtain⟨m,⟨o,A,y,k,r⟩,_⟩:=id I.loc;obtain⟨E,i⟩:=u.any k I.free λz=>(j _ z).2.1 rfl
 exact I.step (ch:=ch) j (λb o i q a e n=>u.keep b o e n (λz=>(aK.mp (I.stkSub b z)).elim i q) a) (λb o _ _ a e n=>u.any e n a) (λb o a e n=>u.free b o e n a) (λb o a e=>u.there b o e a) u.tups u.frzs u.tbls (λB t=>by
  obtain⟨D,h,f,d,v⟩:=t;rw[k] at d;cases d;exact⟨_,h,f,i,v⟩) l J
theorem Inv.turned (I:Inv X j σ H s) (k:∀ b o,b≠g->s.heap.get? b=some o->C.get? b=some o) (hn:H g=none) (l:g≠X.env.locals)
  (J:g∈X.ex\/X.s₀.heap.objs.size<=g) (T:∀ x c,X.env.cells.lookup x=some c->c≠g) (U:∀ p∈X.pn++j,p.1≠g):Inv X j σ H { s with heap:=C,toks:=t' }:=by
 have d:∀ b u,H b=some u->b≠g:=λb u e z=>by rw[z,hn] at e;cases e
 refine I.step (g':=s.gens) (d':=s.drawn) (ch:=[g]) (λb i=>?_) (λb o _ _ a e _=>k b o (λz=>a (by simp[z])) e) (λb o _ _ a e _=>⟨o.slots,k b o (λz=>a (by simp[z])) e⟩) (λ_ _ _ _ n=>n)
  (λb o a e=>⟨o,k b o (λz=>a (by simp[z])) e⟩) (λ_ _ e=>e) (λ_ _ _ e=>e) (λb y e=>⟨#[],by rw[e];simp⟩) (λm t=>?_) (λb u e=>?_) I.bare
 .have e:b=g:=by simpa using i
  subst e;exact⟨J,l,T,U⟩
 .obtain⟨o,h,f,w,r⟩:=t;exact⟨o,h,f,k _ o (eZ l) w,r⟩
 .refine (I.hok b u e).stay (λc v a q=>k c v ?_ q) (λ_ q=>q) λ_ _ q=>q
  rcases a with z | z
  .rw[z];exact d b u e
  .exact d c _ z
theorem Inv.tok (I:Inv X g j H s) (t:Nat):Inv X g j H { s with toks:=t }:=I.un (h':=s.heap) (t':=t) Un.refl I.hok
theorem Inv.kept (I:Inv X g l H s) (k:∀ b u,s.heap.get? b=some u->j.get? b=some u):Inv X g l H { s with heap:=j,toks:=t' }:=I.un (Un.kept k) (I.hok.kept k)
theorem Inv.laid (I:Inv X g l H s) (k:∀ b u,s.heap.get? b=some u->h'.get? b=some u) (j:s.heap.objs.size<=a) (new:nB X.prog X.w (upd H a o) h' a o) :
  Inv X g l (upd H a o) { s with heap:=h',toks:=t' }:=I.un (Un.laid k j (I.hok.fresh j)) (I.hok.laid k j new)
theorem Inv.write (I:Inv X j r H s) (p:A2 (H x)) (l:e=x\/H e=some (.o x)) (k:∀ b u,b≠e->s.heap.get? b=some u->h'.get? b=some u) (g:∃ u,h'.get? e=some u)
  (new:nB X.prog X.w (upd H x o) h' x o):Inv X j r (upd H x o) { s with heap:=h',toks:=t' }:=I.un (Un.write p l k g) (I.hok.write p l k g new)
theorem Inv.pins_of (I:Inv X j l H s) (h:∀ p∈g,s.heap.get? p.1=some p.2/\H p.1=none/\p.1≠X.env.locals/\p.1∉X.fs/\∀ v,p.2.data ≠ .cell v):Inv X g l H s :=
 ⟨I.ok,I.os,I.bare,I.base,I.loc,I.cell,I.free,I.freeC,λp a=>(aR.mp a).elim (λz=>I.pin p (aM _ z)) (h p),I.hok,I.len⟩
theorem Oi {N:Aa Af}(g:N.Nodup){i j:Nat}{x:Af}(a:N[i]?=some x) (b:N[j]?=some x):i=j:=by
 obtain⟨e,c⟩:=aV.mp a;obtain⟨f,d⟩:=aV.mp b;exact (List.getElem_inj g).mp (c.trans d.symm)
theorem M6 (I:Inv X J σ H s) (hN:X.N.Nodup) (l:X.N[i]?=some x) (g:rT X.env.scope x) (r:kR v u)
  (h:∀ s',Inv X J (σ.set i (some v)) H s'->(∃ a,Heap.SameBut a s.heap s'.heap/\(a=X.env.locals\/X.env.cells.lookup x=some a))->Q () s') (hf:X.fn x=true\/X.env.scope.names.lookup x=some .local:=by first | exact .inl rfl | exact .inr rfl | assumption):wpAny M A (storeName X.env x u) Q E s:=by
 obtain⟨m,hn,hl⟩:=id I.loc;have Y:(X.env.scope.kind == .class||(X.env.scope.kind == .module&&X.env.locals != X.env.globals))=false:=by rw[I.ok.kind];rfl
 have K:i<σ.length:=by rw[I.len];exact (aV.mp l).1
 have cne:=I.cne;have B:∀ {a:Ad} {S:Ag},(∃ o,s.heap.get? a=some o/\H a=none)->Heap.SameBut a s.heap S->nA X.prog X.w H S:=λ{a S} ha f b ob e=>by
  obtain⟨_,_,F⟩:=ha;refine (I.hok b ob e).stay (λc U D q=>(f.2 c ?_).trans q) (λ_ q=>q) λ_ _ q=>q
  rintro rfl;rcases D with rfl | D
  .rw[F] at e;cases e
  .rw[F] at D;cases D
 rcases g with L | L
 .refine wpAny_storeName_local L hn (λS aa f=>?_) Y;obtain⟨oL,_,_,ab,_⟩:=id hn;refine h _ ⟨I.ok,I.os,I.bare,⟨λb o e n O g=>?_,λb o e n O g=>?_,I.base.free,λb o e g=>?_,I.base.tups,I.base.frzs,I.base.tbls⟩,⟨_,aa,λj y v' t G e3=>?_⟩,λy c e=>?_,I.free,I.freeC,λp hp=>?_,B ⟨oL,ab,I.free⟩ f,by simpa using I.len⟩ ⟨_,f,.inl rfl⟩
  .exact (f.2 b (cD (bP (aY e) I.ok.above))).trans (I.base.keep b o e n O g)
  .obtain⟨sl,t⟩:=I.base.slot b o e n O g;exact⟨sl,(f.2 b (cD (bP (aY e) I.ok.above))).trans t⟩
  .obtain⟨o',t⟩:=I.base.there b o e g;exact⟨o',(f.2 b (cD (bP (aY e) I.ok.above))).trans t⟩
  .by_cases R:j=i
   .subst R;rw[l] at t;cases t;rw[gW K] at G;cases G;exact⟨u,r,.inl ⟨L,by simp⟩⟩
   .rw[dN (eZ R)] at G;obtain⟨u',r',q⟩:=hl j y v' t G e3;refine⟨u',r',?_⟩;rcases q with⟨k,e⟩ | ⟨k,c,e,z⟩
    .refine .inl ⟨k,?_⟩;have:y≠x:=λe=>R (Oi hN t (e▸l))
     simp[this,e]
    .exact .inr ⟨k,c,e,z.sameBut f (cne y c e)⟩
  .obtain⟨U,z⟩:=I.cell y c e;exact⟨U,z.sameBut f (cne y c e)⟩
  .obtain⟨e,n,ne,nf,d⟩:=I.pin p hp;exact⟨(f.2 p.1 ne).trans e,n,ne,nf,d⟩
 .have P:X.fn x=true:=by
   rcases hf with z | z
   .exact z
   .rw[z] at L;cases L
  obtain⟨c,D⟩:=I.ok.has x (.inl L);obtain⟨U,z⟩:=I.cell x c D;refine wpAny_storeName_cell I.ok.kind L D z (λS V f=>?_);obtain⟨oc,Z,C⟩:=id z;refine h { s with heap:=S } ⟨I.ok,I.os,I.bare,⟨λb o e n O g=>?_,λb o e n O g=>?_,I.base.free,λb o e g=>?_,I.base.tups,I.base.frzs,I.base.tbls⟩,⟨m,hn.sameBut f (eZ (cne x c D)),λj y v' t G e3=>?_⟩,λy T e=>?_,I.free,I.freeC,λp hp=>?_,B ⟨oc,Z,I.freeC x c D⟩ f,by simpa using I.len⟩ ⟨c,f,.inr D⟩
  .exact (f.2 b (cD (bP (aY e) (I.ok.cab x c P D)))).trans (I.base.keep b o e n O g)
  .obtain⟨sl,t⟩:=I.base.slot b o e n O g;exact⟨sl,(f.2 b (cD (bP (aY e) (I.ok.cab x c P D)))).trans t⟩
  .obtain⟨o',t⟩:=I.base.there b o e g;exact⟨o',(f.2 b (cD (bP (aY e) (I.ok.cab x c P D)))).trans t⟩
  .by_cases R:j=i
   .subst R;rw[l] at t;cases t;rw[gW K] at G;cases G;exact⟨u,r,.inr ⟨.inl L,c,D,V⟩⟩
   .rw[dN (eZ R)] at G;obtain⟨u',r',q⟩:=hl j y v' t G e3;refine⟨u',r',?_⟩;rcases q with q | ⟨k,T,e,z'⟩
    .exact .inl q
    .refine .inr ⟨k,T,e,z'.sameBut f ?_⟩;rintro rfl;exact R (Oi hN t (I.ok.inj _ _ _ e D▸l))
  .by_cases W:T=c
   .subst W;exact⟨_,V⟩
   .obtain⟨w2,z2⟩:=I.cell y T e;exact⟨w2,z2.sameBut f W⟩
  .obtain⟨e,n,ne,nf,d⟩:=I.pin p hp;refine⟨(f.2 p.1 ?_).trans e,n,ne,nf,d⟩;intro q;rw[q,Z] at e;have q':oc=p.2:=bY e;exact d U (by rw[<- q'];exact C)
theorem Gn (I:Inv X g J H s) (l:X.N.Nodup) (p:X.N[i]?=some x) (C:rT X.env.scope x) (r:kR v u)
  (h:∀ j,Inv X g (J.set i (some v)) H j->Q () j) (o:X.fn x=true\/X.env.scope.names.lookup x=some .local:=by first | exact .inl rfl | exact .inr rfl | assumption):wpAny M A (storeName X.env x u) Q E s :=
 M6 I l p C r (λj a _=>h j a) o
theorem Inv.call' (I:Inv X g J H s) (C:s'.os=s.os) (u:Un (rK X.stack) ch H o s.heap s'.heap) (l:nA X.prog X.w o s'.heap) (r:AllBare s'.gens)
  (j:∀ b∈ch,(b∈X.ex\/X.s₀.heap.objs.size<=b)/\b≠X.env.locals/\(∀ x c,X.env.cells.lookup x=some c->c≠b)/\∀ p∈X.pn++g,p.1≠b):Inv X g J o s':=by
 obtain⟨i,d,a,h,f⟩:=s';have e:f=s.os:=C;subst e;exact I.call (g':=d) (t':=h) (d':=a) u l r j
end
abbrev XK:=Ac->Ab Ad->Hp->Prop
abbrev St:=Aa (Ab V)
abbrev VK:=V->Hp->Prop
abbrev TE:=St->Hp->VK->Prop
abbrev TT:=St->Hp->(Bool->Hp->Prop)->Prop
abbrev TA:=St->Hp->(Aa V->Hp->Prop)->Prop
structure Ends where
 nx:St->Hp->Prop
 rt:VK
 bk:St->Hp->Prop:=λ_ _=>False
 ct:St->Hp->Prop:=λ_ _=>False
abbrev TS:=Ends->St->Hp->Prop
def EP (X:Cx) (g:Aa (Ad×Obj)) (l:St) (Q:VK) (u:Ac) (j:Ae):Prop:=∃ v a,Inv X g l a j/\kR v u/\Q v a
def TP (X:Cx) (g:Aa (Ad×Obj)) (l:St) (Q:Bool->Hp->Prop) (b:Bool) (j:Ae):Prop:=∃ a,Inv X g l a j/\Q b a
def AP (X:Cx) (g:Aa (Ad×Obj)) (o:St) (Q:Aa V->Hp->Prop) (l:Aa Ac) (j:Ae):Prop:=∃ b a,Inv X g o a j/\kY b l/\Q b a
def SP (X:Cx) (g:Aa (Ad×Obj)) (D:Ends) (f:Flow) (j:Ae):Prop :=
 match f with
 | .next=>∃ a b,Inv X g a b j/\D.nx a b
 | .brk=>∃ a b,Inv X g a b j/\D.bk a b
 | .cont=>∃ a b,Inv X g a b j/\D.ct a b
 | .ret u=>∃ v a b,Inv X g a b j/\kR v u/\D.rt v b
def PE (X:Cx) (e:Expr) (t:TE):Prop :=
 ∀ (a:Aa (Ad×Obj)) (s:Ae) (b:St) (H:Hp) (Q:VK),Inv X a b H s->t b H Q->wpAny (model X.prog X.w) X.A (eval e X.env) (EP X a b Q) X.xe s
def PT (X:Cx) (e:Expr) (t:TT):Prop :=
 ∀ (a:Aa (Ad×Obj)) (s:Ae) (b:St) (H:Hp) (Q:Bool->Hp->Prop),Inv X a b H s->t b H Q->wpAny (model X.prog X.w) X.A (isTrue e X.env (eval e X.env)) (TP X a b Q) X.xe s
def PW (X:Cx) (e:Expr) (t:TT):Prop :=
 ∀ (whole:Sem Ac) (a:Aa (Ad×Obj)) (s:Ae) (b:St) (H:Hp) (Q:Bool->Hp->Prop),Inv X a b H s->t b H Q->wpAny (model X.prog X.w) X.A (isTrue e X.env whole) (TP X a b Q) X.xe s
theorem PW.pt {X:Cx}(h:PW X e t):PT X e t:=h _
def PA (X:Cx) (g:Aa Expr) (t:TA):Prop :=
 ∀ (pos:Pos) (a:Aa (Ad×Obj)) (s:Ae) (b:St) (H:Hp) (Q:Aa V->Hp->Prop),Inv X a b H s->t b H Q->wpAny (model X.prog X.w) X.A (spliced (backTo pos (starEach g X.env))) (AP X a b Q) X.xe s
def PS (X:Cx) (st:Stmt) (t:TS):Prop :=
 ∀ (a:Aa (Ad×Obj)) (s:Ae) (b:St) (H:Hp) (D:Ends),Inv X a b H s->t D b H->wpAny (model X.prog X.w) X.A (exec st X.env) (SP X a D) X.xe s
def oC (X:Cx) (st:Aa Stmt) (t:TS):Prop :=
 ∀ (a:Aa (Ad×Obj)) (s:Ae) (b:St) (H:Hp) (D:Ends),Inv X a b H s->t D b H->wpAny (model X.prog X.w) X.A (execs st X.env) (SP X a D) X.xe s
theorem kT (h:wpAny M A t Q E s) (j:∀ a s,Q a s->g a s):wpAny M A t g E s:=cT h j λ_ _ x=>x
section
variable {X:Cx}
def pP (i:Nat):TE:=λa H Q=>∃ v,a[i]?=some (some v)/\Q v H
def tC (v:V):TE:=λ_ H Q=>Q v H
theorem Qk (j:X.N[i]?=some x) (o:Gu X.env.scope x) (hd:(x == ("__debug__" : Af))=false:=by decide) (g:(x == ("__classdict__" : Af))=false:=by decide):PE X (.Name x pos) (pP i):=by
 intro d s t H Q I h;obtain⟨v,e,h⟩:=h;obtain⟨m,q,k⟩:=I.loc;obtain⟨u,r,l⟩:=k i x v j e o;have fin:EP X d t Q u s:=⟨v,H,I,r,h⟩;rcases l with⟨b,n⟩ | ⟨b,c,f,a⟩
 .exact wpAny_Name (wpAny_loadName_local I.ok.kind b q n fin) hd
 .rcases b with b | b
  .exact wpAny_Name (wpAny_loadName_cell I.ok.kind b f a fin) hd
  .exact wpAny_Name (wpAny_loadName_free I.ok.kind b f a fin g) hd
theorem Fa {i j pos}:PE X (.Constant (.int i) j pos) (tC (.int i)):=λ_ _ _ H _ I h=>wpAny_Constant_int ⟨.int i,H,I.tok _,⟨_,rfl⟩,h⟩
theorem sG {b j pos}:PE X (.Constant (.bool b) j pos) (tC (.b b)):=λ_ _ _ H _ I h=>Constant_bool ⟨.b b,H,I,rfl,h⟩
theorem N6 {j pos}:PE X (.Constant .none j pos) (tC .e):=λ_ _ _ H _ I h=>Constant_none ⟨.e,H,I,rfl,h⟩
theorem xB {x j pos}:PE X (.Constant (.str x) j pos) (tC (.str x)):=λ_ _ _ H _ I h=>fZ ⟨.str x,H,I.tok _,⟨_,rfl⟩,h⟩
def Gl (X:Cx) (x:Af):Prop:=X.env.kindOf x=some .globalImplicit
theorem At (I:Inv X g o H s) (j:Gl X x) (l:X.mg x=some u) (h:Q u s)
  (hd:(x == ("__debug__" : Af))=false:=by decide):wpAny (model X.prog X.w) X.A (eval (.Name x pos) X.env) Q E s :=
 Calls.Name_function_global I.ok.kind j (Calls.loadGlobal_global (by rw[I.ok.glob];exact I.mod.glob.keeps I.bk) l h) hd
theorem Di (I:Inv X g r H s) (j:Gl X x) (l:X.mg x=none) (p:bootBuiltins x=some u) (h:Q u s)
  (o:x ≠ "__name__" := by decide) (hd:(x == ("__debug__" : Af))=false:=by decide):wpAny (model X.prog X.w) X.A (eval (.Name x pos) X.env) Q E s:=by
 obtain⟨c,a,b⟩:=I.mod.blt;exact Calls.Name_function_global I.ok.kind j (Calls.loadGlobal_builtin (by rw[I.ok.glob];exact I.mod.glob.keeps I.bk) l (by rw[I.ok.blt];exact a.keeps I.bk) ((b x o).trans p) h) hd
theorem sF (g:Gl X x) (j:X.mg x=some u) (r:kR v u) (hd:(x == ("__debug__" : Af))=false:=by decide):PE X (.Name x pos) (tC v) :=
 λ_ _ _ H _ I h=>At I g j ⟨v,H,I,r,h⟩ hd
theorem GG (g:Gl X x) (j:X.mg x=none) (o:bootBuiltins x=some u) (r:kR v u) (l:x ≠ "__name__" := by decide) (hd:(x == ("__debug__" : Af))=false:=by decide):PE X (.Name x pos) (tC v) :=
 λ_ _ _ H _ I h=>Di I g j o ⟨v,H,I,r,h⟩ l hd
def PC (X:Cx) (op:CmpOp) (a b:Expr) (t:TE):Prop :=
 ∀ (c:Aa (Ad×Obj)) (s:Ae) (f:St) (H:Hp) (Q:VK),Inv X c f H s->t f H Q ->
  wpAny (model X.prog X.w) X.A (eval a X.env) (λv d=>wpAny (model X.prog X.w) X.A (eval b X.env) (λu e=>wpAny (model X.prog X.w) X.A (compareOp op v u) (EP X c f Q) X.xe e) X.xe d) X.xe s
theorem EA (b:Expr) (h:op ≠ .In) (g:op ≠ .NotIn):behindInMarks op b=false:=by
 have a:(op == CmpOp.In)=false:=by cases op<;>first | rfl | exact absurd rfl h
 have c:(op == CmpOp.NotIn)=false:=by cases op<;>first | rfl | exact absurd rfl g
 cases b<;>simp[behindInMarks,a,c]
def CI (g:TE):TE:=λc H Q=>g c H λx a=>Q (.b (!decide (x = .e))) a
theorem kR.none_iff (r:kR x v):(v == Value.none)=decide (x = .e):=by
 cases x with
 | e=>cases r;rfl
 | b _=>cases r;rfl
 | int _=>obtain⟨t,rfl⟩:=r;rfl
 | str _=>obtain⟨t,rfl⟩:=r;rfl
 | byt _=>obtain⟨t,rfl⟩:=r;rfl
 | flt _=>obtain⟨t,rfl⟩:=r;rfl
 | ref _=>cases r;rfl
 | ty _=>cases r;rfl
theorem FH {j g}(l:PE X a o):PC X .IsNot a (.Constant .none j g) (CI o):=by
 intro c s m H Q I h;refine kT (l c s m H _ I h) λv n d=>?_
 obtain⟨x,e,f,k,i⟩:=d;exact Constant_none (isnot_none_gen ⟨.b _,e,f,by rw[k.none_iff];rfl,i⟩)
def tB (t:TE):TT:=λd H Q=>t d H λx a=>∃ c,x = .b c/\Q c a
theorem BE (h:PC X op a b t) (g:behindInMarks op b=false:=by first | exact EA _ (by decide) (by decide) | rfl):PE X (.Compare a [op] [b] pos) t:=λc s d H Q I hw=>wpAny_Compare1 (h c s d H Q I hw) g
theorem xG (h:PE X e t) (g:∀ whole,isTrue e X.env whole=(do let v <- whole;standAt e.pos;holding [v] (truthy v)):=by intro _;rfl):PT X e (tB t):=by
 intro a s m H Q I hw;refine isTrue_plain (kT (h a s m H _ I hw) λv n b=>?_) (g _);obtain⟨x,c,f,k,i⟩:=b;obtain⟨d,rfl,q⟩:=i;cases k;exact fH ⟨c,f,q⟩
variable {rest:Aa Expr}
def V2 (t u:TT):TT:=λb H Q=>t b H λc a=>if c=true then u b a Q else Q false a
def AQ (t u:TT):TT:=λb H Q=>t b H λc a=>if c=true then Q true a else u b a Q
def Ts (t:TT):TT:=λb H Q=>t b H λc a=>Q (!c) a
theorem N7 (g:PT X a j):PW X (.BoolOp .And [a] pos) j:=by
 intro i b s d H Q I h;refine isTrue_and (kT (g b s d H Q I h) λc f e=>?_);cases c with
 | true=>exact isTrue_and_nil e
 | false=>exact e
theorem F6 (g:PT X a j):PW X (.BoolOp .Or [a] pos) j:=by
 intro i b s d H Q I h;refine isTrue_or (kT (g b s d H Q I h) λc f e=>?_);cases c with
 | false=>exact isTrue_or_nil e
 | true=>exact e
theorem No (j:PT X a o) (l:PW X (.BoolOp .And (b::rest) pos) g):PW X (.BoolOp .And (a::b::rest) pos) (V2 o g):=by
 intro q d s m H Q I h;refine isTrue_and (kT (j d s m H _ I h) λc n e=>?_);obtain⟨f,i,k⟩:=e;cases c with
 | true=>exact l q d n m f Q i k
 | false=>exact⟨f,i,k⟩
theorem C0 (j:PT X a o) (l:PW X (.BoolOp .Or (b::rest) pos) g):PW X (.BoolOp .Or (a::b::rest) pos) (AQ o g):=by
 intro q d s m H Q I h;refine isTrue_or (kT (j d s m H _ I h) λc n e=>?_);obtain⟨f,i,k⟩:=e;cases c with
 | true=>exact⟨f,i,k⟩
 | false=>exact l q d n m f Q i k
theorem Be (g:PT X a j):PT X (.UnaryOp .Not a pos) (Ts j):=by
 intro b s e H Q I h;exact isTrue_not (g b s e H (λc d=>Q (!c) d) I h)
def Qf (g j:TE):TE:=λd H Q=>g d H λx a=>∃ c,x = .b c/\if c=true then j d a Q else Q (.b false) a
def R0 (g j:TE):TE:=λd H Q=>g d H λx a=>∃ c,x = .b c/\if c=true then Q (.b true) a else j d a Q
theorem J7 {op}(h:PE X a t):PE X (.BoolOp op [a] pos) t:=λb s c H Q I hw=>BoolOp_one (h b s c H Q I hw)
theorem J1 (g:PE X a l) (j:PE X (.BoolOp .And (b::rest) pos) o):PE X (.BoolOp .And (a::b::rest) pos) (Qf l o):=by
 intro d s m H Q I h;refine BoolOp_and (kT (g d s m H _ I h) λv q f=>?_);obtain⟨x,i,k,n,e⟩:=f;obtain⟨c,rfl,e⟩:=e;cases n;refine fH ?_;cases c with
 | true=>exact j d q m i Q k e
 | false=>exact⟨.b false,i,k,rfl,e⟩
theorem CV (g:PE X a l) (j:PE X (.BoolOp .Or (b::rest) pos) o):PE X (.BoolOp .Or (a::b::rest) pos) (R0 l o):=by
 intro d s m H Q I h;refine BoolOp_or (kT (g d s m H _ I h) λv q f=>?_);obtain⟨x,i,k,n,e⟩:=f;obtain⟨c,rfl,e⟩:=e;cases n;refine fH ?_;cases c with
 | false=>exact j d q m i Q k e
 | true=>exact⟨.b true,i,k,rfl,e⟩
end
def lG (K:kM) (H:Hp) (a:Ad) (g:Aa V):Prop :=
 Rd H a (.l g) \/
  ∃ (o:Obj) (b:Array Ac) (n:Nat),K.lookup a=some o/\o.cls = .type "list" /\ o.dict=none/\o.data = .seq b n/\b.size<=sizeLine/\kY g b.toList
def lZ (K:kM) (H:Hp) (a:Ad) (g:Aa V):Prop :=
 Rd H a (.t g) \/
  ∃ (o:Obj) (b:Array Ac) (n:Nat),K.lookup a=some o/\o.cls = .type "tuple" /\ o.data = .seq b n/\b.size<=sizeLine/\kY g b.toList
noncomputable def Zg:Ac->Ab V
 | .none=>some .e
 | .bool b=>some (.b b)
 | .int i _=>some (.int i)
 | .str x _=>some (.str x)
 | .bytes b _=>some (.byt b)
 | .float b _=>some (.flt b)
 | .ref a=>some (.ref a)
 | .type n=>some (.ty n)
 | _=>none
theorem kR.abs (r:kR x u):Zg u=some x:=by
 cases x with
 | e=>cases r;rfl
 | b _=>cases r;rfl
 | int _=>obtain⟨t,rfl⟩:=r;rfl
 | str _=>obtain⟨t,rfl⟩:=r;rfl
 | byt _=>obtain⟨t,rfl⟩:=r;rfl
 | flt _=>obtain⟨t,rfl⟩:=r;rfl
 | ref _=>cases r;rfl
 | ty _=>cases r;rfl
theorem kR.inj (r:kR x u) (q:kR y u):x=y:=bY (r.abs.symm.trans q.abs)
theorem kY.inj:∀ {j l:Aa V}{g:Aa Ac},kY j g->kY l g->j=l
 | _,_,_,.nil,.nil=>rfl
 | _,_,_,.cons r t,.cons a b=>by rw[r.inj a,kY.inj t b]
section
variable {X:Cx}
theorem lG.of {K:kM}(h:H a=some (.l g)):lG K H a g:=.inl (.inl h)
theorem lZ.of {K:kM}(h:H a=some (.t g)):lZ K H a g:=.inl (.inl h)
theorem Inv.list (I:Inv X j p H s) (h:lG X.K H a l):∃ g:Aa Ac,kY l g/\PlainL s.heap a g.toArray/\l.length<=sizeLine:=by
 rcases h with h | ⟨o,g,n,c,b,hd,d,f,r⟩
 .obtain⟨z,g,n,r,e⟩:=h.ok I.hok;exact⟨g,r,⟨_,n,e,rfl,rfl,rfl⟩,z⟩
 .refine⟨g.toList,r,⟨o,n,I.kIn a o c,b,hd,by simpa using d⟩,?_⟩;have e:=r.length;simp only[fQ] at e;omega
theorem Inv.tuple (I:Inv X j C H s) (h:lZ X.K H a l):∃ g:Aa Ac,kY l g/\IsTup s.heap a g.toArray/\l.length<=sizeLine:=by
 rcases h with h | ⟨o,g,n,c,b,d,f,r⟩
 .obtain⟨z,g,r,p,_⟩:=h.ok I.hok;exact⟨g,r,p,z⟩
 .refine⟨g.toList,r,⟨o,I.kIn a o c,b,n,by simpa using d⟩,?_⟩;have e:=r.length;simp only[fQ] at e;omega
theorem Inv.list_inj (I:Inv X g C H s) (h:lG X.K H a l) (j:lG X.K H a p):l=p:=by
 obtain⟨c,r,⟨o,n,e,_,_,d⟩,_⟩:=I.list h;obtain⟨b,k,⟨q,m,i,_,_,f⟩,_⟩:=I.list j;rw[e] at i;cases i;rw[d] at f;injection f with d1 _;have:c=b:=by simpa using cH Array.toList d1
 subst this;exact r.inj k
theorem Inv.tuple_inj (I:Inv X g C H s) (h:lZ X.K H a l) (j:lZ X.K H a p):l=p:=by
 obtain⟨c,r,⟨o,e,_,n,d⟩,_⟩:=I.tuple h;obtain⟨b,k,⟨q,i,_,m,f⟩,_⟩:=I.tuple j;rw[e] at i;cases i;rw[d] at f;injection f with d1 _;have:c=b:=by simpa using cH Array.toList d1
 subst this;exact r.inj k
end
noncomputable abbrev Cx.wish (X:Cx) (E:Ac->Ae->Prop):Cx:={ X with xe:=E }
abbrev Cx.nox (X:Cx):Cx:=X.wish λ_ _=>False
theorem Cx.Ok.wish {X:Cx}(ok:X.Ok) (E:Ac->Ae->Prop):(X.wish E).Ok :=
 ⟨ok.mod,ok.kind,ok.glob,ok.blt,ok.above,ok.inj,ok.has,ok.cab,ok.hd,ok.frames,ok.stk,ok.exf,ok.bs,ok.bsz,ok.noex,ok.exfs,ok.funs,ok.frf⟩
theorem Cx.Ok.unwish {X:Cx}(ok:(X.wish E).Ok):X.Ok :=
 ⟨ok.mod,ok.kind,ok.glob,ok.blt,ok.above,ok.inj,ok.has,ok.cab,ok.hd,ok.frames,ok.stk,ok.exf,ok.bs,ok.bsz,ok.noex,ok.exfs,ok.funs,ok.frf⟩
section
variable {X:Cx}
theorem Inv.wish (I:Inv X g j H s) (E:Ac->Ae->Prop):Inv (X.wish E) g j H s:=⟨I.ok.wish E,I.os,I.bare,I.base,I.loc,I.cell,I.free,I.freeC,I.pin,I.hok,I.len⟩
theorem Inv.unwish (I:Inv (X.wish E) g j H s):Inv X g j H s:=⟨I.ok.unwish,I.os,I.bare,I.base,I.loc,I.cell,I.free,I.freeC,I.pin,I.hok,I.len⟩
theorem SP.unwish {D:Ends}(h:SP (X.wish E) g D f j):SP X g D f j:=by
 cases f with
 | next=>obtain⟨a,b,I,q⟩:=h;exact⟨a,b,I.unwish,q⟩
 | brk=>obtain⟨a,b,I,q⟩:=h;exact⟨a,b,I.unwish,q⟩
 | cont=>obtain⟨a,b,I,q⟩:=h;exact⟨a,b,I.unwish,q⟩
 | ret u=>obtain⟨v,a,b,I,r,q⟩:=h;exact⟨v,a,b,I.unwish,r,q⟩
theorem oC.nox {st:Aa Stmt}(h:oC X.nox st t):oC X st t:=λa s b H D I hw =>
 cT (h a s b H D (I.wish _) hw) (λ_ _ q=>q.unwish) λ_ _ z=>False.elim z
end
section
variable {X:Cx}{st:Stmt}{rest:Aa Stmt}
def EJ:TS:=λD a H=>D.nx a H
def Iq (t u:TS):TS:=λD a H=>t { D with nx:=u D } a H
theorem wX:oC X [] EJ:=λ_ _ a H _ I h=>jJ ⟨a,H,I,h⟩
theorem sP (g:PS X st t) (j:oC X rest u):oC X (st::rest) (Iq t u):=by
 intro a s i H D I h;refine wpAny_execs_cons (kT (g a s i H { D with nx:=u D } I h) λf e q=>?_);cases f with
 | next =>
  obtain⟨b,c,d,q⟩:=q;exact j a e b c D d q
 | ret v=>exact q
 | brk=>exact q
 | cont=>exact q
theorem qG (g:PS X st t):oC X [st] t:=by
 intro a s b H D I h;refine wpAny_execs_cons (kT (g a s b H D I h) λf c q=>?_);cases f with
 | next=>exact jJ q
 | ret v=>exact q
 | brk=>exact q
 | cont=>exact q
theorem Inv.quiet (I:Inv X g j H s):interactive X.env=false:=by simp[interactive,I.ok.kind]
def EO (g:TE):TS:=λD a H=>g a H λ_ b=>D.nx a b
theorem B9 (g:PE X e l) (j:swapsWith e none pos.line X.env=pure false:=by rfl):PS X (.Expr e pos) (EO l):=by
 intro a s b H D I h;exact wpAny_Expr_any (kT (g a s b H _ I h) λv k ⟨x,c,d,i,f⟩=>⟨b,c,d,f⟩) I.quiet j
def BG (g:TE):TS:=λD a H=>g a H D.rt
theorem tJ (g:PE X e j):PS X (.Return (some e) pos) (BG j):=by
 intro a s b H D I h;exact wpAny_Return_some (kT (g a s b H _ I h) λv k ⟨x,c,d,i,f⟩=>⟨x,b,c,d,i,f⟩)
def FJ (c:TT) (t u:TS):TS:=λD a H=>c a H λb d=>if b=true then t D a d else u D a d
theorem wJ (l:PT X c o) (g:oC X a t) (j:oC X b u):PS X (.If c a b pos) (FJ o t u):=by
 intro e s i H D I h;refine wpAny_If (kT (l e s i H _ I h) λd q f=>?_);obtain⟨k,m,n⟩:=f;cases d with
 | true=>exact g e q i k D m n
 | false=>exact j e q i k D m n
end
abbrev TG:=V->St->Hp->(St->Hp->Prop)->Prop
abbrev yN:=Aa V->St->Hp->(St->Hp->Prop)->Prop
def PG (X:Cx) (target:Expr) (t:TG):Prop :=
 ∀ (a:Aa (Ad×Obj)) (s:Ae) (d:St) (H:Hp) (v:V) (u:Ac) (Q:St->Hp->Prop),Inv X a d H s->kR v u->t v d H Q ->
  wpAny (model X.prog X.w) X.A (assign target X.env u) (λ_ e=>∃ b c,Inv X a b c e/\Q b c) X.xe s
def wA (X:Cx) (g:Aa Expr) (t:yN):Prop :=
 ∀ (a:Aa (Ad×Obj)) (s:Ae) (f:St) (H:Hp) (e:Aa V) (d:Aa Ac) (Q:St->Hp->Prop),Inv X a f H s->kY e d->t e f H Q ->
  wpAny (model X.prog X.w) X.A (assignInOrder ((assignEach g X.env).map (·.2)) d) (λ_ h=>∃ b c,Inv X a b c h/\Q b c) X.xe s
abbrev Ht:=V->V->V->Hp->(Hp->Prop)->Prop
def Hu (X:Cx) (t:Ht):Prop :=
 ∀ (a:Aa (Ad×Obj)) (s:Ae) (e:St) (H:Hp) (o i v:V) (d c u:Ac) (Q:Hp->Prop),Inv X a e H s->kR o d->kR i c->kR v u->t o i v H Q ->
  wpAny (model X.prog X.w) X.A (setItem d c u) (λ_ f=>∃ b,Inv X a e b f/\Q b) X.xe s
section
variable {X:Cx}
def xF (i:Nat):TG:=λv a H Q=>Q (a.set i (some v)) H
theorem Dp (g:X.N.Nodup) (l:X.N[i]?=some x) (o:rT X.env.scope x) (j:X.fn x=true\/X.env.scope.names.lookup x=some .local:=by first | exact .inl rfl | exact .inr rfl | assumption):PG X (.Name x pos) (xF i):=by
 intro a s d H v u Q I r h;exact wpAny_assign_Name (Gn I g l o r (λc b=>⟨_,H,b,h⟩) j)
def EB:yN:=λa b H Q=>a=[]/\Q b H
def BA (t:TG) (u:yN):yN:=λc d H Q=>∃ v r,c=v::r/\t v d H λa b=>u r a b Q
theorem Wx:wA X [] EB:=by
 intro a s b H d c Q I r h;obtain⟨e,h⟩:=h;subst e;cases r;exact assignInOrder_nil ⟨b,H,I,h⟩
theorem Xn (j:PG X e t) (l:wA X g u)
  (o:(assignEach (e::g) X.env).map (·.2)=assign e X.env::(assignEach g X.env).map (·.2):=by rfl):wA X (e::g) (BA t u):=by
 intro a s q H y w Q I r h;obtain⟨v,x,i,h⟩:=h;subst i;cases r with
 | cons r m =>
  rw[o];refine assignInOrder_cons (kT (j a s q H _ _ _ I r h) λ_ n b=>?_);obtain⟨c,d,f,k⟩:=b;exact l a n c d _ _ Q f m k
def T8 (K:kM) (n:Nat) (t:yN):TG:=λv c H Q=>∃ a b,v = .ref a/\lZ K H a b/\b.length=n/\t b c H Q
theorem FC (l:X.calm=true) (h:wA X g t)
  (p:(assignEach g X.env).length=n:=by rfl) (j:(assignEach g X.env).findIdx? (·.1)=none:=by rfl):PG X (.Tuple g k pos) (T8 X.K n t):=by
 intro c s f H v u Q I r hw;obtain⟨a,B,m,x,w,hw⟩:=hw;subst m;cases r;obtain⟨A,d,y,D⟩:=I.tuple x;refine assign_Tuple_tuple (I.ok.hd l) y (by simp[p,<- w,d.length]) j λq z=>?_
 have i:Inv X c f H { s with heap:=q }:=I.kept (t':=s.toks) λb o e=>z b o (cD (aY e)) e
 exact h c _ f H B _ Q i (by simpa using d) hw
def Tl (j g:TE) (t:Ht):TG:=λv a H Q=>j a H λo b=>g a b λi c=>t o i v c λd=>Q a d
theorem Uh (C:PE X o U) (p:PE X i T) (J:Hu X t)
  (l:∀ v,assign (.Subscript o i pos) X.env v=(do
   let g <- holding [v] (eval o X.env);let j <- holding [v,g] (eval i X.env)
   standAt pos
   holding [v,g,j] (setItem g j v)
   release [v,g,j] []):=by intro _;rfl):PG X (.Subscript o i pos) (Tl U T t):=by
 intro b s c H v u Q I r h;rw[l];refine aB (cW (kT (C b s c H _ I h) λg D a=>?_));obtain⟨x,d,k,A,q⟩:=a;refine aB (cW (kT (p b D c d _ k q) λj E a=>?_));obtain⟨y,e,m,B,w⟩:=a;refine aB (iD (aB (cW (kT (J b E c e x y v g j u _ m A B r w) λ_ F a=>?_))));obtain⟨f,n,z⟩:=a;exact wpAny_release ⟨c,f,n,z⟩
def D5 (j:TE) (g:TG):TS:=λD a H=>j a H λx b=>g x a b D.nx
theorem Ra (o:PE X e C) (p:PG X j g) (r:swapsWithSole [j] e pos.line X.env=pure false:=by rfl) (hw:swappedStores [j] e X.env=pure none:=by rfl)
  (l:(assignEach [j] X.env).map (·.2)=[assign j X.env]:=by rfl):PS X (.Assign [j] e pos) (D5 C g):=by
 intro a s c H D I h;refine wpAny_Assign_stores (kT (o a s c H _ I h) λv m b=>?_) r hw;obtain⟨x,d,f,k,i⟩:=b;rw[l];exact kT (p a m c d x v _ f k i) λ_ n q=>q
theorem zD (j:X.N.Nodup) (p:X.N[i]?=some x) (C:rT X.env.scope x) (l:PE X e J) (r:swapsWith e (some (.Name x g)) pos.line X.env=pure false:=by rfl) (o:X.fn x=true\/X.env.scope.names.lookup x=some .local:=by first | exact .inl rfl | exact .inr rfl | assumption) :
  PS X (.Assign [.Name x g] e pos) (D5 J (xF i)):=by
 intro a s n H D I h;refine wpAny_Assign_Name (kT (l a s n H _ I h) λv q b=>?_) r;obtain⟨y,c,d,m,k⟩:=b;exact Gn d j p C m (λt f=>⟨_,c,f,k⟩) o
end
structure It where
 go:Nat->Hp->Prop
 yld:Nat->Hp->V->Hp->Prop
 stop:Nat->Hp->Prop
def rH (X:Cx) (g:Aa (Ad×Obj)) (H:Hp) (b:Ad):Prop :=
 H b=none/\b≠X.env.locals/\b∉X.fs/\(b∈X.ex\/X.s₀.heap.objs.size<=b)/\(∀ x c,X.env.cells.lookup x=some c->c≠b)/\∀ p∈X.pn++g,p.1≠b
theorem Inv.fpOk {X:Cx}(I:Inv X j r H s) (g:s.heap.objs.size<=b) (o:l b=none):rH X j l b:=by
 refine⟨o,Nat.ne_of_gt (bP I.lt g),I.nofs g,.inr (bU I.sz g),λx c e z=>?_,λp a z=>?_⟩
 .obtain⟨v,q⟩:=I.cell x c e;exact absurd (bP q.lt (by rw[z];exact g)) (eB _)
 .exact absurd (bP (aY (I.pin p a).1) (by rw[z];exact g)) (eB _)
structure Turn (P:Program) (w:World) (K:kM) (tg:Expr) (J:It) (fp:List Addr) (it:Addr) (tn:Nat->Heap->Prop):Prop where
 mem:it∈fp
 obj:∀ i h,tn i h->∀ b∈fp,∃ o,h.get? b=some o/\∀ v,o.data ≠ .cell v
 keep:∀ i h h',tn i h->(∀ b∈fp,∀ o,h.get? b=some o->h'.get? b=some o)->tn i h'
 item:∀ (X:Cx),X.prog=P->X.w=w->X.K=K->X.calm=true->∀ (i:Nat) (pins:List (Addr×Obj)) (s:Shared) (σ:St) (H:Hp) (E:Value->Shared->Prop),Inv X pins σ H s->(∀ b∈fp,rH X pins H b)->tn i s.heap->J.go i H ->
  wpAny (model P w) X.A (pyNext (.ref it)) (λr s1=>∃ u,r=some u /\ wpAny (model P w) X.A (letOwnedTupleGo tg (.ref it) u) (λ_ s2=>∃ x H',Inv X pins σ H' s2/\kR x u/\J.yld i H x H'/\tn (i+1) s2.heap/\∀ b∈fp,H' b=none) E s1) E s
 done:∀ (X:Cx),X.prog=P->X.w=w->X.K=K->X.calm=true->∀ (i:Nat) (pins:List (Addr×Obj)) (s:Shared) (σ:St) (H:Hp) (E:Value->Shared->Prop),Inv X pins σ H s->(∀ b∈fp,rH X pins H b)->tn i s.heap->J.stop i H ->
  wpAny (model P w) X.A (pyNext (.ref it)) (λr s1=>r=none/\Inv X pins σ H s1) E s
 self:∀ (A:Around) (i:Nat) (s:Shared) (Q:Value->Shared->Prop) (E:Value->Shared->Prop),tn i s.heap->Q (.ref it) s->wpAny (model P w) A (pyIter (.ref it)) Q E s
abbrev TI:=St->Hp->(It->Hp->Prop)->Prop
def Lg (X:Cx) (g:Aa (Ad×Obj)) (p:St) (o:Expr) (R:It->Hp->Prop) (j:Ac) (l:Ae):Prop :=
 ∃ (d:Ad) (c:Aa Ad) (e:Nat->Ag->Prop) (J:It) (a:Hp),j = .ref d/\Inv X g p a l/\Turn X.prog X.w X.K o J c d e/\e 0 l.heap/\(∀ b∈c,rH X g a b)/\R J a
def PI (X:Cx) (g iter:Expr) (j:TI):Prop :=
 ∀ (a:Aa (Ad×Obj)) (s:Ae) (b:St) (H:Hp) (R:It->Hp->Prop),Inv X a b H s->j b H R ->
  wpAny (model X.prog X.w) X.A (eval iter X.env) (λv c=>wpAny (model X.prog X.w) X.A (pyIter v) (Lg X a b g R) X.xe c) X.xe s
theorem Bk (p:s.heap.get? r=some o) (j:o.cls = .type n) (hd:o.data = .fields I)
  (l:["enumerate","zip","dict_itemiterator","dict_reverseitemiterator","odict_iterator","itertools.zip_longest","itertools.pairwise"].contains n=false) (g:Q () s):wpAny M A (letOwnedTupleGo C (.ref r) u) Q E s:=by
 unfold letOwnedTupleGo;cases C<;>first
  | exact aF g
  | (cases u<;>first
    | exact aF g
    | (refine aB (wpAny_load p ?_);rw[j,hd];show wpAny M A (if (["enumerate","zip","dict_itemiterator","dict_reverseitemiterator","odict_iterator","itertools.zip_longest","itertools.pairwise"].contains n&&I[0]? == some (rawInt _))=true then _ else _) Q E s;rw[aL (by intro h;rw[l,Bool.false_and] at h;cases h)];exact aF g))
def Dm (K:kM) (a:Ad):It :=
 ⟨λi H=>∃ b x,lG K H a b/\b[i]?=some x,λi H x c=>c=H/\∀ b,lG K H a b->b[i]?=some x,λi H=>∃ b,lG K H a b/\b.length<=i⟩
def D9 (K:kM) (a:Ad):It :=
 ⟨λi H=>∃ b x,lZ K H a b/\b[i]?=some x,λi H x c=>c=H/\∀ b,lZ K H a b->b[i]?=some x,λi H=>∃ b,lZ K H a b/\b.length<=i⟩
def yT (lo:Int) (n:Nat):It:=⟨λi _=>i<n,λi H x a=>a=H/\x = .int (lo+i),λi _=>n<=i⟩
theorem Vy {P:Ah}{K:kM}(a g:Ad):Turn P w K T (Dm K a) [g] g (λi h=>h.IsListIter g a i) where
 mem:=by simp
 obj:=λi h st b m=>by
  have e:b=g:=by simpa using m
  subst e;obtain⟨o,e,c,d⟩:=st;exact⟨o,e,λv z=>by rw[d] at z;cases z⟩
 keep:=λi h q st k=>st.at λo e=>k g (by simp) o e
 item:=by
  intro X L hw G R i f s S H E I t st M;subst L hw G;obtain⟨C,x,y,N⟩:=M;obtain⟨O,Q,p,j⟩:=I.list y;obtain⟨u,Y,l⟩:=Q.get N;obtain⟨A,f1,f2,B,D,F⟩:=t g (by simp);refine wpAny_pyNext_list_item st p.isList (x:=u) (by simpa using Y) λq n r=>?_
  have V:Inv X f S H { s with heap:=q }:=I.turned (t':=s.toks) (λb o m e=>(r.2 b m).trans e) A f1 B D F;obtain⟨o,e,c,d⟩:=id n;exact⟨u,rfl,Bk (s:={ s with heap:=q }) e c d (by decide) ⟨x,H,V,l,⟨rfl,λU Z=>by rw[I.list_inj Z y];exact N⟩,n,λb m=>(t b m).1⟩⟩
 done:=by
  intro X L hw G R i f s S H E I t st M;subst L hw G;obtain⟨C,y,N⟩:=M;obtain⟨O,Q,p,j⟩:=I.list y;obtain⟨A,f1,f2,B,D,F⟩:=t g (by simp);have J:=Q.length;exact wpAny_pyNext_list_end (I.ok.hd R) st p.isList (by simp;omega) λq W=>⟨rfl,I.turned (t':=s.toks) (λb o m e=>W b o m e) A f1 B D F⟩
 self:=λ_ _ _ _ _ st h=>wpAny_pyIter_listiter st h
theorem Pg {P:Ah}{K:kM}(a g:Ad):Turn P w K T (D9 K a) [g] g (λi h=>h.IsTupleIter g a i) where
 mem:=by simp
 obj:=λi h st b m=>by
  have e:b=g:=by simpa using m
  subst e;obtain⟨o,e,c,d⟩:=st;exact⟨o,e,λv z=>by rw[d] at z;cases z⟩
 keep:=λi h t st k=>st.at λo e=>k g (by simp) o e
 item:=by
  intro X M hw L R i f s S H E I y st N;subst M hw L;obtain⟨C,x,A,O⟩:=N;obtain⟨n,Q,p,j⟩:=I.tuple A;obtain⟨u,Y,l⟩:=Q.get O;obtain⟨B,f1,f2,D,F,G⟩:=y g (by simp);refine wpAny_pyNext_tuple_item st (show s.heap.IsTuple a n.toArray from p) (x:=u) (by simpa using Y) λt q r=>?_
  have V:Inv X f S H { s with heap:=t }:=I.turned (t':=s.toks) (λb o m e=>(r.2 b m).trans e) B f1 D F G;obtain⟨o,e,c,d⟩:=id q;exact⟨u,rfl,Bk (s:={ s with heap:=t }) e c d (by decide) ⟨x,H,V,l,⟨rfl,λU Z=>by rw[I.tuple_inj Z A];exact O⟩,q,λb m=>(y b m).1⟩⟩
 done:=by
  intro X M hw L R i f s S H E I y st N;subst M hw L;obtain⟨C,A,O⟩:=N;obtain⟨n,Q,p,j⟩:=I.tuple A;obtain⟨B,f1,f2,D,F,G⟩:=y g (by simp);have J:=Q.length;exact wpAny_pyNext_tuple_end (I.ok.hd R) st (show s.heap.IsTuple a n.toArray from p) (by simp;omega) λt W=>⟨rfl,I.turned (t':=s.toks) (λb o m e=>W b o m e) B f1 D F G⟩
 self:=λ_ _ _ _ _ st h=>wpAny_pyIter_tupleiter st h
theorem Ru {P:Ah}{K:kM}(g:Ad) (lo:Int) (n:Nat):Turn P w K j (yT lo n) [g] g (λi h=>IsRangeIter h g (lo+(i:Nat)*1) ((n:Int)-(i:Nat)) 1) where
 mem:=by simp
 obj:=λi h st b c=>by
  have e:b=g:=by simpa using c
  subst e;exact⟨_,st,λv z=>by
   have R:Data.fields _=Data.cell v:=z;cases R⟩
 keep:=λi h f st k=>k g (by simp) _ st
 item:=by
  intro X B hw A D i a s L H E I m st F;subst B hw A;obtain⟨q,f1,f2,u,x,y⟩:=m g (by simp);have W:=Walks.range (prog:=X.prog) (w:=X.w) (I.ok.hd D) g lo 1 n;refine W.item i s _ _ F st λv f G O d Q=>?_
  obtain⟨t,rfl⟩:=O;have M:Inv X a L H { s with heap:=f,toks:=G }:=I.turned (λb o c e=>Q b o (by simpa using c) e) q f1 u x y;refine⟨_,rfl,Bk (s:={ s with heap:=f,toks:=G }) (n := "range_iterator") d rfl rfl (by decide) ⟨.int (lo+i),H,M,⟨t,?_⟩,⟨rfl,rfl⟩,d,λb c=>(m b c).1⟩⟩;rw[Int.mul_one]
 done:=by
  intro X B hw A D i a s L H E I m st F;subst B hw A;obtain⟨q,f1,f2,u,x,y⟩:=m g (by simp);exact wpAny_pyNext_range_end (I.ok.hd D) st (by have:n<=i:=F;omega) λf N=>⟨rfl,I.turned (t':=s.toks) (λb o c e=>N b o c e) q f1 u x y⟩
 self:=λ_ _ _ _ _ st h=>wpAny_pyIter_rangeiter st h
section
variable {X:Cx}
def AV (K:kM) (g:TE):TI:=λd H R=>g d H λx b=>∃ a,x = .ref a/\(∃ c,lZ K b a c)/\R (D9 K a) b
theorem Rg (g:PE X l j):PI X r l (AV X.K j):=by
 intro c s y H R I h;refine kT (g c s y H _ I h) λv d i=>?_
 obtain⟨x,m,f,w,u⟩:=i;obtain⟨a,e,⟨B,t⟩,q⟩:=u;subst e;cases w;obtain⟨k,A,p,z⟩:=f.tuple t;refine wpAny_pyIter_tuple (show d.heap.IsTuple a k.toArray from p) ?_;refine⟨d.heap.objs.size,[d.heap.objs.size],_,_,m,rfl,f.kept (t':=d.toks) λb o e=>aE _ e,Pg a _,⟨_,bL _ rfl,rfl,rfl⟩,λb n=>?_,q⟩;have e:b=d.heap.objs.size:=by simpa using n
 subst e;exact f.fpOk (bD _) (f.hok.fresh (bD _))
theorem T7 {R:It->Hp->Prop}{lo:Int}(I:Inv X j p H s) (r:-(2 ^ 62)<=lo) (C:lo<2 ^ 62) (J:-(2 ^ 62)<=g) (T:g<2 ^ 62)
  (q:R (yT lo (g-lo).toNat) H):wpAny (model X.prog X.w) X.A (pyIter (.ref s.heap.objs.size)) (Lg X j p U R) E { s with heap:=s.heap.push { cls:=.type "range",data:=.fields #[.int lo t,.int g u,.int 1 v] },toks:=l }:=by
 refine wpAny_pyIter_range (IsRange.new ..) (small_one r C J T) ?_;have a:Inv X j p H { s with heap:=s.heap.push { cls:=.type "range",data:=.fields #[.int lo t,.int g u,.int 1 v] },toks:=l }:=I.kept λb o e=>aE _ e
 refine⟨(s.heap.push { cls:=.type "range",data:=.fields #[.int lo t,.int g u,.int 1 v] }).objs.size,[(s.heap.push { cls:=.type "range",data:=.fields #[.int lo t,.int g u,.int 1 v] }).objs.size],_,_,H,rfl,
  a.kept (t':=l) λb o e=>aE _ e,Ru _ lo (g-lo).toNat,?_,λb f=>?_,q⟩
 .have c:lo+((0:Nat):Int)*1=lo:=by simp
  have d:(((g-lo).toNat:Nat):Int)-((0:Nat):Int)=Builtin.Range.rangeSize lo g 1:=by rw[rangeSize_one];split<;>omega
  show IsRangeIter _ _ (lo+((0:Nat):Int)*1) ((((g-lo).toNat:Nat):Int)-((0:Nat):Int)) 1;rw[c,d];exact bL _ rfl
 .have e:b=(s.heap.push { cls:=.type "range",data:=.fields #[.int lo t,.int g u,.int 1 v] }).objs.size:=by simpa using f
  subst e;exact a.fpOk (bD _) (a.hok.fresh (bD _))
def EU (g:TA):TI:=λc H R=>g c H λb a=>∃ j:Int,b=[.int j]/\-(2 ^ 62)<=j/\j<2 ^ 62/\R (yT 0 j.toNat) a
theorem X3 (l:Gl X "range") (o:X.mg "range" = none) (g:PA X [a] J) (C:starEach [a] X.env=[(false,eval a X.env)]:=by rfl):PI X T (.Call (.Name "range" p) [a] [] pos) (EU J):=by
 intro b s n H R I h;refine Call_ (Di I l o boot_range (PyProof.Rows.callWith_type1 (kT (g pos b s n H _ I h) λw v c=>?_) C rfl));obtain⟨x,u,f,k,d⟩:=c;obtain⟨j,e,d,i,q⟩:=d;subst e;cases k with
 | cons r m =>
  cases m;obtain⟨t,rfl⟩:=r;exact call_range_1 (T7 f (by omega) (by omega) d i (by simpa using q))
def Xv (l:TI) (g:TG) (j:TS):TS:=λD a H=>l a H λJ f=>∃ W:Nat->Nat->St->Hp->Prop,(∃ m,W 0 m a f)/\∀ i m a H,W i m a H ->
 (J.stop i H/\D.nx a H)\/(J.go i H/\∃ N:St->Hp->Prop,(∀ c b,N c b->∃ e,e<m/\W (i+1) e c b)/\∀ x b,J.yld i H x b->g x a b λd h=>j { D with nx:=N,ct:=N,bk:=D.nx } d h)
def Bg (g:Aa Ad) (h:Ag):Aa (Ad×Obj):=g.filterMap λb=>(h.get? b).map λo=>(b,o)
theorem Ch (j:b∈g) (e:h.get? b=some o):(b,o)∈Bg g h:=jN.mpr ⟨b,j,by rw[e];rfl⟩
theorem AK (j:p∈Bg g h):p.1∈g/\h.get? p.1=some p.2:=by
 obtain⟨b,c,e⟩:=jN.mp j;cases q:h.get? b with
 | none=>rw[q] at e;cases e
 | some o =>
  rw[q] at e;have a:(b,o)=p:=bY e;subst a;exact⟨c,q⟩
theorem Inv.pinned (I:Inv X g C H s) (l:∀ b∈j,rH X g H b) (r:∀ b∈j,∃ o,s.heap.get? b=some o/\∀ v,o.data ≠ .cell v):Inv X (g++Bg j s.heap) C H s :=
 I.pins_of λp h=>(aR.mp h).elim (λz=>I.pin p (aT _ z)) λz=>by
  obtain⟨c,e⟩:=AK z;obtain⟨f,f1,f2,_⟩:=l p.1 c;obtain⟨o,a,d⟩:=r p.1 c;rw[e] at a;cases a;exact⟨e,f,f1,f2,d⟩
theorem Inv.unpinned (I:Inv X (g++l) j H s):Inv X g j H s:=I.pins_of λp a=>I.pin p (aT _ (aM _ a))
theorem Bc {iter:Expr}(l:PassesOwn (model X.prog X.w) X.A X.env X.xe) (U:X.calm=true) (hi:PI X tg iter wi) (hg:PG X tg g) (j:oC X body tb)
  (hs:∀ x,foldedSetIterable iter X.env x=pure x:=by intro _;rfl):PS X (.For tg iter body [] pos) (Xv wi g tb):=by
 intro a s σ H D I h;refine wpAny_For (kT (hi a s σ H _ I h) λv s1 h1=>kT h1 λaa s2 h2=>?_) hs;obtain⟨it,K,tn,J,H2,e,I2,T,st2,f2,W,⟨m0,w0⟩,P⟩:=h2;subst e;have y:∀ {E:Hp},(∀ b∈K,E b=none)->∀ b∈K,rH X a E b:=λhn b j=>⟨hn b j,(f2 b j).2⟩
 refine codeAny_forLoop_any (λn s'=>∃ i z E,Inv X a z E s'/\tn i s'.heap/\(∀ b∈K,E b=none)/\W i n z E) ?_ m0 ⟨0,σ,H2,I2,st2,λb j=>(f2 b j).1,w0⟩;rintro n s3 ⟨i,B,Q,C,O,L,w3⟩;rcases P i n B Q w3 with⟨stop,qn⟩ | ⟨go,N,hN,step⟩
 .refine iK l (kT (T.done X rfl rfl rfl U i a s3 B Q X.xe C (y L) O stop) λr s4 k=>?_);obtain⟨V,I4⟩:=k;subst V;exact jJ ⟨B,Q,I4,qn⟩
 .refine iK l (kT (T.item X rfl rfl rfl U i a s3 B Q X.xe C (y L) O go) λr s4 k=>?_);obtain⟨u,V,h4⟩:=k;subst V;refine iK l (kT h4 λ_ s5 k=>?_);obtain⟨x,p,I5,r5,y5,G,S⟩:=k;have R:=I5.pinned (y S) (T.obj _ _ G);refine iK l (kT (hg _ s5 B p x u _ R r5 (step x p y5)) λ_ s6 k=>?_);obtain⟨Z,H6,I6,q6⟩:=k;refine iK l (kT (j _ s6 Z H6 _ I6 q6) λf Y F=>?_);have again:∀ {c:St} {q:Hp},Inv X (a++Bg K s5.heap) c q Y->N c q->∃ m,m<n/\∃ i z E,Inv X a z E Y/\tn i Y.heap/\(∀ b∈K,E b=none)/\W i m z E:=λ{c q} t M=>by
   obtain⟨m',hm,w7⟩:=hN c q M;refine⟨m',hm,i+1,c,q,t.unpinned,T.keep _ _ _ G λb j o e=>(t.pin (b,o) (aT _ (aT _ (Ch j e)))).1,λb j=>?_,w7⟩;obtain⟨o,e,d⟩:=T.obj _ _ G b j;exact (t.pin (b,o) (aT _ (aT _ (Ch j e)))).2.1
  cases f with
  | next=>obtain⟨c,q,t,M⟩:=F;exact again t M
  | cont=>obtain⟨c,q,t,M⟩:=F;exact again t M
  | brk=>obtain⟨c,q,t,F⟩:=F;exact⟨c,q,t.unpinned,F⟩
  | ret v=>obtain⟨x7,c,q,t,r7,F⟩:=F;exact⟨x7,c,q,t.unpinned,r7,F⟩
end
abbrev R2:=V->V->Hp->VK->Prop
def lF (X:Cx) (f:Ac->Ac->Sem Ac) (r:R2):Prop :=
 ∀ (a:Aa (Ad×Obj)) (s:Ae) (b:St) (H:Hp) (x y:V) (v u:Ac) (Q:VK),Inv X a b H s->kR x v->kR y u->r x y H Q ->
  wpAny (model X.prog X.w) X.A (f v u) (EP X a b Q) X.xe s
def Go (X:Cx) (f:Ac->Sem Ac) (r:V->Hp->VK->Prop):Prop :=
 ∀ (a:Aa (Ad×Obj)) (s:Ae) (b:St) (H:Hp) (x:V) (v:Ac) (Q:VK),Inv X a b H s->kR x v->r x H Q ->
  wpAny (model X.prog X.w) X.A (f v) (EP X a b Q) X.xe s
def nI (X:Cx) (f:Ac) (r:Aa V->Hp->VK->Prop):Prop :=
 ∀ (a:Aa (Ad×Obj)) (s:Ae) (d:St) (H:Hp) (c:Aa V) (b:Aa Ac) (Q:VK),Inv X a d H s->kY c b->r c H Q ->
  wpAny (model X.prog X.w) X.A (call f b) (EP X a d Q) X.xe s
def U2 (X:Cx) (r:V->Hp->(Bool->Hp->Prop)->Prop):Prop :=
 ∀ (a:Aa (Ad×Obj)) (s:Ae) (b:St) (H:Hp) (x:V) (v:Ac) (Q:Bool->Hp->Prop),Inv X a b H s->kR x v->r x H Q ->
  wpAny (model X.prog X.w) X.A (truthy v) (TP X a b Q) X.xe s
def zA (r:R2) (g j:TE):TE:=λa H Q=>g a H λx b=>j a b λy c=>r x y c Q
def Vh (r:V->Hp->VK->Prop) (g:TE):TE:=λb H Q=>g b H λx a=>r x a Q
def rI (C:Int->Int->Prop) (g:Int->Int->V):R2:=λx y H Q=>∃ i j,x = .int i/\y = .int j/\C i j/\Q (g i j) H
def rE (g:Int->Int->V):R2:=λx y H Q=>∃ i j,x = .int i/\y = .int j/\Q (g i j) H
def rU (g:Int->V):V->Hp->VK->Prop:=λx H Q=>∃ i,x = .int i/\Q (g i) H
section
variable {X:Cx}
theorem Gy (J:PE X a ta) (T:PE X b tb){g:Aa (Ad×Obj)}{s:Ae}{l:St}{H:Hp}{R:V->V->Hp->Prop}(I:Inv X g l H s)
  (h:ta l H λx C=>tb l C λy j=>R x y j){Q:Ac->Ae->Prop}{f:Ac->Ac->Sem Ac}
  (U:∀ v u r x y j,Inv X g l j r->kR x v->kR y u->R x y j->wpAny (model X.prog X.w) X.A (f v u) Q X.xe r) :
  wpAny (model X.prog X.w) X.A (eval a X.env) (λv o=>wpAny (model X.prog X.w) X.A (eval b X.env) (λu p=>wpAny (model X.prog X.w) X.A (f v u) Q X.xe p) X.xe o) X.xe s:=by
 refine kT (J g s l H _ I h) λv q c=>?_
 obtain⟨x,C,d,m,i⟩:=c;refine kT (T g q l C _ d i) λu r c=>?_
 obtain⟨y,j,e,n,k⟩:=c;exact U v u r x y j e m n k
theorem Kl (l:lF X (binaryOp op) r) (g:PE X a o) (j:PE X b p):PE X (.BinOp a op b pos) (zA r o p):=by
 intro c s m H Q I h;exact wpAny_BinOp (Gy g j I h λv u k x y d e f i q=>l c k m d x y v u Q e f i q)
theorem Xd (j:Go X (unaryOp op) r) (g:PE X a l):PE X (.UnaryOp op a pos) (Vh r l):=by
 intro b s c H Q I h;exact UnaryOp_ (kT (g b s c H _ I h) λv k ⟨x,d,e,i,f⟩=>j b k c d x v Q e i f)
theorem Cd {f:Ac->Ac->Sem Ac}{C:Int->Int->Prop}{g:Int->Int->Int}
  (rule:∀ (i j:Int) (t u:Tok) (s:Ae) (Q:Ac->Ae->Prop) (E:Ac->Ae->Prop),C i j->Q (.int (g i j) s.toks) { s with toks:=s.toks+1 }->wpAny (model X.prog X.w) X.A (f (.int i t) (.int j u)) Q E s) :
  lF X f (rI C λi j=>.int (g i j)):=by
 intro a s k H x y v u Q I c d h;obtain⟨i,j,rfl,rfl,b,q⟩:=h;obtain⟨t,rfl⟩:=c;obtain⟨e,rfl⟩:=d;exact rule i j t e s _ _ b ⟨.int (g i j),H,I.tok _,⟨_,rfl⟩,q⟩
theorem Jv {f:Ac->Ac->Sem Ac}{g:Int->Int->Int}
  (rule:∀ (i j:Int) (t u:Tok) (s:Ae) (Q:Ac->Ae->Prop) (E:Ac->Ae->Prop),Q (.int (g i j) s.toks) { s with toks:=s.toks+1 }->wpAny (model X.prog X.w) X.A (f (.int i t) (.int j u)) Q E s) :
  lF X f (rE λi j=>.int (g i j)):=by
 intro a s e H x y v u Q I b c h;obtain⟨i,j,rfl,rfl,q⟩:=h;obtain⟨t,rfl⟩:=b;obtain⟨d,rfl⟩:=c;exact rule i j t d s _ _ ⟨.int (g i j),H,I.tok _,⟨_,rfl⟩,q⟩
theorem Dd {f:Ac->Ac->Sem Ac}{g:Int->Int->Bool}
  (rule:∀ (i j:Int) (t u:Tok) (s:Ae) (Q:Ac->Ae->Prop) (E:Ac->Ae->Prop),Q (.bool (g i j)) s->wpAny (model X.prog X.w) X.A (f (.int i t) (.int j u)) Q E s) :
  lF X f (rE λi j=>.b (g i j)):=by
 intro a s k H x y v u Q I c d h;obtain⟨i,j,rfl,rfl,q⟩:=h;obtain⟨t,rfl⟩:=c;obtain⟨e,rfl⟩:=d;exact rule i j t e s _ _ ⟨.b (g i j),H,I,rfl,q⟩
def P1 (i j:Int):Prop:=0<=j/\j<=1000000/\i.natAbs<2 ^ 64
def Eu (i j:Int):Prop:=(-(2 ^ 64)<i/\i<2 ^ 64)\/(-(2 ^ 64)<j/\j<2 ^ 64)
theorem Eu.ok (h:Eu i j):IntMulOk i j:=by
 rcases h with⟨a,b⟩ | ⟨a,b⟩
 .exact .of_left (intBits_le_64 a b)
 .exact .of_right (intBits_le_64 a b)
theorem Zu:lF X (binaryOp .Add) (rE λi j=>.int (i+j)):=Jv λ_ _ _ _ _ _ _ q=>add_int q
theorem C8:lF X (binaryOp .Sub) (rE λi j=>.int (i-j)):=Jv λ_ _ _ _ _ _ _ q=>sub_int q
theorem DI:lF X (binaryOp .Mult) (rI Eu λi j=>.int (i*j)):=Cd λ_ _ _ _ _ _ _ a q=>mul_int q a.ok
theorem nE:lF X (binaryOp .Mod) (rI (λ_ j=>0<j) λi j=>.int (i%j)):=Cd λi j _ _ _ _ _ a q=>by
 have b:(0:Int)<j:=a;exact mod_int' (by omega) (by rw[Int.fmod_eq_emod_of_nonneg i (by omega)];exact q)
theorem Mz:lF X (binaryOp .Pow) (rI P1 λi j=>.int (i ^ j.toNat)):=Cd λ_ _ _ _ _ _ _ a q=>pow_int_small a.1 a.2.1 a.2.2 q
theorem Sd {f:Ac->Sem Ac}{g:Int->Int}
  (rule:∀ (i:Int) (t:Tok) (s:Ae) (Q:Ac->Ae->Prop) (E:Ac->Ae->Prop),Q (.int (g i) s.toks) { s with toks:=s.toks+1 }->wpAny (model X.prog X.w) X.A (f (.int i t)) Q E s) :
  Go X f (rU λi=>.int (g i)):=by
 intro a s c H x v Q I b h;obtain⟨i,rfl,q⟩:=h;obtain⟨t,rfl⟩:=b;exact rule i t s _ _ ⟨.int (g i),H,I.tok _,⟨_,rfl⟩,q⟩
theorem BK:Go X (unaryOp .USub) (rU λi=>.int (-i)):=Sd λ_ _ _ _ _ q=>neg_int q
end
noncomputable def Fx:V->V->Bool
 | .e,.e=>true | .e,.int _=>true | .int _,.e=>true | .e,.b _=>true | .b _,.e=>true | .e,.str _=>true | .str _,.e=>true
 | .int _,.int _=>true | .b _,.b _=>true | .str _,.str _=>true | .byt _,.byt _=>true
 | .int _,.str _=>true | .str _,.int _=>true | .b _,.str _=>true | .str _,.b _=>true
 | _,_=>false
def V3:R2:=λx y H Q=>Fx x y=true/\Q (.b (decide (x=y))) H
def W6:R2:=λx y H Q=>Fx x y=true/\Q (.b (!decide (x=y))) H
theorem Kw:decide (V.int i=V.int j)=(i == j):=by
 rw[iL];simp
theorem Pq:decide (V.b i=V.b j)=(i == j):=by
 rw[iL];simp
theorem J4:decide (V.str i=V.str j)=(i == j):=by
 rw[iL];simp
theorem Nd:decide (V.byt i=V.byt j)=(i.toList == j.toList):=by
 rw[iL];cases i;cases j;simp
section
variable {X:Cx}
theorem nJ (I:Inv X g l H s) (q:Q (.b k) H) (e:k=j):EP X g l Q (.bool j) s:=by
 subst e;exact⟨.b k,H,I,rfl,q⟩
theorem Mg:lF X (compareOp .Eq) V3:=by
 intro k s m H x y v u Q I f a h;obtain⟨d,q⟩:=h;cases x with
 | e =>
  cases f;cases y with
  | e=>cases a;exact PySem.EqNone.eq_none_none (nJ I q (by simp))
  | b j=>cases a;exact PySem.EqNone.eq_none_bool (nJ I q (by simp))
  | int j=>obtain⟨c,rfl⟩:=a;exact PySem.EqNone.eq_none_int (nJ I q (by simp))
  | str j=>obtain⟨c,rfl⟩:=a;exact PySem.EqNone.eq_none_str (nJ I q (by simp))
  | _=>exact absurd (show false=true from d) bM
 | b i =>
  cases f;cases y with
  | e=>cases a;exact PySem.EqNone.eq_bool_none (nJ I q (by simp))
  | b j=>cases a;exact eq_bool (nJ I q Pq)
  | str j=>obtain⟨c,rfl⟩:=a;exact PySem.EqMixed.eq_bool_str (nJ I q (by simp))
  | _=>exact absurd (show false=true from d) bM
 | int i =>
  obtain⟨t,rfl⟩:=f;cases y with
  | e=>cases a;exact PySem.EqNone.eq_int_none (nJ I q (by simp))
  | int j=>obtain⟨c,rfl⟩:=a;exact eq_int (nJ I q Kw)
  | str j=>obtain⟨c,rfl⟩:=a;exact PySem.EqMixed.eq_int_str (nJ I q (by simp))
  | _=>exact absurd (show false=true from d) bM
 | str i =>
  obtain⟨t,rfl⟩:=f;cases y with
  | e=>cases a;exact PySem.EqNone.eq_str_none (nJ I q (by simp))
  | b j=>cases a;exact PySem.EqMixed.eq_str_bool (nJ I q (by simp))
  | int j=>obtain⟨c,rfl⟩:=a;exact PySem.EqMixed.eq_str_int (nJ I q (by simp))
  | str j=>obtain⟨c,rfl⟩:=a;exact eq_str (nJ I q J4)
  | _=>exact absurd (show false=true from d) bM
 | byt i =>
  obtain⟨t,rfl⟩:=f;cases y with
  | byt j=>obtain⟨c,rfl⟩:=a;exact PySem.W.eq_bytes (nJ I q Nd)
  | _=>exact absurd (show false=true from d) bM
 | _=>cases y<;>exact absurd (show false=true from d) bM
theorem By:lF X (compareOp .NotEq) W6:=by
 intro k s m H x y v u Q I f a h;obtain⟨d,q⟩:=h;cases x with
 | e =>
  cases f;cases y with
  | e=>cases a;exact PySem.EqNone.ne_none_none (nJ I q (by simp))
  | b j=>cases a;exact PySem.EqNone.ne_none_bool (nJ I q (by simp))
  | int j=>obtain⟨c,rfl⟩:=a;exact PySem.EqNone.ne_none_int (nJ I q (by simp))
  | str j=>obtain⟨c,rfl⟩:=a;exact PySem.EqNone.ne_none_str (nJ I q (by simp))
  | _=>exact absurd (show false=true from d) bM
 | b i =>
  cases f;cases y with
  | e=>cases a;exact PySem.EqNone.ne_bool_none (nJ I q (by simp))
  | b j=>cases a;exact ne_bool (nJ I q (cH not Pq))
  | str j=>obtain⟨c,rfl⟩:=a;exact PySem.EqMixed.ne_bool_str (nJ I q (by simp))
  | _=>exact absurd (show false=true from d) bM
 | int i =>
  obtain⟨t,rfl⟩:=f;cases y with
  | e=>cases a;exact PySem.EqNone.ne_int_none (nJ I q (by simp))
  | int j=>obtain⟨c,rfl⟩:=a;exact ne_int (nJ I q (cH not Kw))
  | str j=>obtain⟨c,rfl⟩:=a;exact PySem.EqMixed.ne_int_str (nJ I q (by simp))
  | _=>exact absurd (show false=true from d) bM
 | str i =>
  obtain⟨t,rfl⟩:=f;cases y with
  | e=>cases a;exact PySem.EqNone.ne_str_none (nJ I q (by simp))
  | b j=>cases a;exact PySem.EqMixed.ne_str_bool (nJ I q (by simp))
  | int j=>obtain⟨c,rfl⟩:=a;exact PySem.EqMixed.ne_str_int (nJ I q (by simp))
  | str j=>obtain⟨c,rfl⟩:=a;exact ne_str (nJ I q (cH not J4))
  | _=>exact absurd (show false=true from d) bM
 | byt i =>
  obtain⟨t,rfl⟩:=f;cases y with
  | byt j=>obtain⟨c,rfl⟩:=a;exact PySem.W.ne_bytes (nJ I q (cH not Nd))
  | _=>exact absurd (show false=true from d) bM
 | _=>cases y<;>exact absurd (show false=true from d) bM
theorem GB:lF X (compareOp .Lt) (rE λi j=>.b (decide (i<j))):=Dd λ_ _ _ _ _ _ _ q=>lt_int q
theorem Hm:lF X (compareOp .LtE) (rE λi j=>.b (decide (i<=j))):=Dd λ_ _ _ _ _ _ _ q=>le_int q
theorem uV:lF X (compareOp .Gt) (rE λi j=>.b (decide (j<i))):=Dd λ_ _ _ _ _ _ _ q=>gt_int q
theorem CP:lF X (compareOp .GtE) (rE λi j=>.b (decide (j<=i))):=Dd λ_ _ _ _ _ _ _ q=>ge_int q
theorem Q6:lF X (compareOp .In) (λx y H Q=>∃ i j,x = .str i/\y = .str j/\Q (.b (!(Builtin.Str.occurrences j i 0 j.length 1).isEmpty)) H):=by
 intro a s f H x y v u Q I c d h;obtain⟨i,j,rfl,rfl,q⟩:=h;obtain⟨t,rfl⟩:=c;obtain⟨e,rfl⟩:=d;exact in_str (nJ I q rfl)
theorem To:lF X (compareOp .NotIn) (λx y H Q=>∃ i j,x = .str i/\y = .str j/\Q (.b (!(!(Builtin.Str.occurrences j i 0 j.length 1).isEmpty))) H):=by
 intro a s f H x y v u Q I c d h;obtain⟨i,j,rfl,rfl,q⟩:=h;obtain⟨t,rfl⟩:=c;obtain⟨e,rfl⟩:=d;exact notIn_str (nJ I q rfl)
theorem lF.or (h:lF X f r) (g:lF X f j):lF X f (λx y H Q=>r x y H Q\/j x y H Q):=by
 intro a s d H x y v u Q I b c q;rcases q with q | q
 .exact h a s d H x y v u Q I b c q
 .exact g a s d H x y v u Q I b c q
theorem wV (b:Expr) (h:op ≠ .In:=by decide) (g:op ≠ .NotIn:=by decide):behindInMarks op b=false:=by
 have a:(op == CmpOp.In)=false:=by cases op<;>first | rfl | exact absurd rfl h
 have c:(op == CmpOp.NotIn)=false:=by cases op<;>first | rfl | exact absurd rfl g
 cases b<;>simp[behindInMarks,a,c]
theorem Dx (o:lF X (compareOp op) r) (g:PE X a p) (j:PE X b C) (l:behindInMarks op b=false):PE X (.Compare a [op] [b] pos) (zA r p C):=by
 intro c s m H Q I h;exact wpAny_Compare1 (Gy g j I h λv u k x y d e f i q=>o c k m d x y v u Q e f i q) l
def DV (t:TE):TT:=λc H Q=>t c H λx a=>∃ k,x = .b k/\Q k a
theorem zP (o:lF X (compareOp op) r) (g:PE X a p) (j:PE X b C) (l:behindInMarks op b=false):PT X (.Compare a [op] [b] pos) (DV (zA r p C)):=by
 intro d s f H Q I h;refine wpAny_isTrue_Compare1 (kT (g d s f H _ I h) λv K ⟨x,i,q,E,A⟩=>kT (j d K f i _ q A) λu L ⟨y,m,t,F,B⟩ =>kT (o d L f m x y v u _ t E F B) λc M ⟨z,n,w,G,k,e,D⟩=>?_) l;subst e;cases G;exact fH ⟨n,w,D⟩
def Ww (r g:R2) (j l o:TE):TE:=λa H Q=>j a H λx d=>l a d λy e=>r x y e λz c=>∃ k,z = .b k /\
 (if k=true then o a c λh f=>g y h f Q else Q (.b false) c)
theorem Yp (J:lF X (compareOp op) r) (j:lF X (compareOp g) T) (l:PE X a U) (o:PE X b tb) (p:PE X c tc)
  (C:lastMarks [op,g] [b,c]=false:=by with_unfolding_all rfl):PE X (.Compare a [op,g] [b,c] pos) (Ww r T U tb tc):=by
 intro f s i H Q I h;refine Compare_chain (kT (l f s i H _ I h) λv P ⟨x,w,D,M,G⟩=>chain_link (kT (o f P i w _ D G) λu R ⟨y,A,E,t,K⟩ =>kT (J f R i A x y v u _ E M t K) λd S ⟨z,m,n,N,k,e,q⟩=>?_)) C;subst e;cases N;refine fH ?_;cases k with
 | false=>exact ite_ff ⟨.b false,m,n,rfl,q⟩
 | true=>exact ite_tt (chain_last (kT (p f S i m _ n q) λW V ⟨Y,B,F,O,L⟩=>j f V i B y Y u W Q F t O L))
def Hf (K:kM) (x:V) (H:Hp) (k:Bool):Prop :=
 match x with
 | .e=>k=false
 | .b b=>k=b
 | .int i=>k=(i != 0)
 | .str y=>y.length<=sizeLine/\k=((y.length:Int) != 0)
 | .byt y=>y.size<=sizeLine/\k=((y.size:Int) != 0)
 | .ref p=>(∃ c,lG K H p c/\k = !c.isEmpty)\/(∃ c,lZ K H p c/\k = !c.isEmpty)\/∃ a,Rd H p (.k a)/\k = !a.isEmpty
 | _=>False
theorem Wj (r:KV g j):(!j.isEmpty) = !g.isEmpty:=by
 cases r<;>rfl
theorem Qj (r:kY j g):(!g.toArray.isEmpty) = !j.isEmpty:=by
 cases r<;>simp
theorem wY:(sizeLine:Nat)<2 ^ 63:=by rw[jT];decide
theorem BL:U2 X (λx H Q=>∃ k,Hf X.K x H k/\Q k H):=by
 intro E s N H x v Q I n h;obtain⟨k,e,q⟩:=h;have L:=wY;have M:sizeLine=16777216:=jT;cases x with
 | e =>
  cases n;have a:k=false:=e;subst a;exact truthy_none ⟨H,I,q⟩
 | b b =>
  cases n;have a:k=b:=e;subst a;exact fH ⟨H,I,q⟩
 | int i =>
  obtain⟨t,rfl⟩:=n;have a:k=(i != 0):=e;subst a;exact PySem.P.truthy_int ⟨H,I,q⟩
 | str y =>
  obtain⟨t,rfl⟩:=n;obtain⟨G,a⟩:y.length<=sizeLine/\k=((y.length:Int) != 0):=e;subst a;exact PySem.P.truthy_str (by omega) ⟨H,I.tok _,q⟩
 | byt y =>
  obtain⟨t,rfl⟩:=n;obtain⟨G,a⟩:y.size<=sizeLine/\k=((y.size:Int) != 0):=e;subst a;exact PySem.W.truthy_bytes (by omega) ⟨H,I.tok _,q⟩
 | ref p =>
  cases n;have a:(∃ f,lG X.K H p f/\k = !f.isEmpty)\/(∃ f,lZ X.K H p f/\k = !f.isEmpty)\/∃ c,Rd H p (.k c)/\k = !c.isEmpty:=e;rcases a with⟨f,u,a⟩ | ⟨f,u,a⟩ | ⟨c,u,a⟩
  .subst a;obtain⟨A,r,B,D⟩:=I.list u;have d:=r.length;exact wpAny_truthy_list B.isList (by simp only[bF];omega) ⟨H,I.tok _,by rw[Qj r];exact q⟩
  .subst a;obtain⟨A,r,B,D⟩:=I.tuple u;have d:=r.length;exact truthy_tuple B (by simp only[bF];omega) ⟨H,I.tok _,by rw[Qj r];exact q⟩
  .subst a;obtain⟨D,F,z,r,m⟩:c.length<=sizeLine/\(p == sysModules)=false/\∃ z,KV c z/\s.heap.DictOf (oA X.prog X.w) p z:=Rd.ok u I.hok;have d:c.length=z.length:=fR r;exact wpAny_truthy_dict F m (by omega) ⟨H,I.tok _,by rw[Wj r];exact q⟩
 | _=>exact (show False from e).elim
theorem K4 (l:PE X a p) (o:∀ whole,isTrue a X.env whole=(do let v <- whole;standAt a.pos;holding [v] (truthy v))) :
  PT X a (λg H Q=>p g H λx j=>∃ k,Hf X.K x j k/\Q k j):=by
 intro b s g H Q I h;exact isTrue_plain (kT (l b s g H _ I h) λv i ⟨x,c,d,f,e⟩=>BL b i g c x v Q d f e) (o _)
theorem BW:lF X (binaryOp .Add) (λx y H Q=>∃ i j,x = .str i/\y = .str j/\i.length+j.length<=sizeLine/\Q (.str (i++j)) H):=by
 intro a s k H x y v u Q I c d h;obtain⟨i,j,rfl,rfl,b,q⟩:=h;obtain⟨t,rfl⟩:=c;obtain⟨e,rfl⟩:=d;exact add_str (λe f=>⟨.str (i++j),H,I.tok _,⟨_,rfl⟩,q⟩) b
theorem sZ (r:kY [x] g):∃ u,g=[u]/\kR x u:=by
 cases r with
 | cons a b=>cases b;exact⟨_,rfl,a⟩
theorem zR (r:kY [x,y] j):∃ u g,j=[u,g]/\kR x u/\kR y g:=by
 cases r with
 | cons a b =>
  cases b with
  | cons c d=>cases d;exact⟨_,_,rfl,a,c⟩
theorem EL (l:X.calm=true):nI X (.builtin "max") (λg H Q=>∃ i j,g=[.int i,.int j]/\Q (.int (if j>i then j else i)) H):=by
 intro b s n H g f Q I r h;obtain⟨i,j,rfl,q⟩:=h;obtain⟨u,m,rfl,⟨t,rfl⟩,⟨d,rfl⟩⟩:=zR r;refine max_two_ints (I.ok.hd l) λc e k=>⟨_,H,I.kept k,?_,q⟩
 by_cases a:j>i
 .rw[aU a,aU a];exact⟨_,rfl⟩
 .rw[aL a,aL a];exact⟨_,rfl⟩
theorem Yc (l:X.calm=true):nI X (.builtin "min") (λg H Q=>∃ i j,g=[.int i,.int j]/\Q (.int (if j<i then j else i)) H):=by
 intro b s n H g f Q I r h;obtain⟨i,j,rfl,q⟩:=h;obtain⟨u,m,rfl,⟨t,rfl⟩,⟨d,rfl⟩⟩:=zR r;refine min_two_ints (I.ok.hd l) λc e k=>⟨_,H,I.kept k,?_,q⟩
 by_cases a:j<i
 .rw[aU a,aU a];exact⟨_,rfl⟩
 .rw[aL a,aL a];exact⟨_,rfl⟩
end
theorem sU.some_of (r:sU (some v) o):∃ u,o=some u/\kR v u:=by
 cases o with
 | none=>exact (show False from r).elim
 | some u=>exact⟨u,rfl,r⟩
structure Room (k:Nat) (A:Around):Prop where
 hd:A.handled=none
 dp:A.depth+3*k+5<recursionLimit
 un:A.units+16*k+200<cLine
theorem Room.mono (r:Room k A) (h:j<=k):Room j A:=⟨r.hd,by have:=r.dp;omega,by have:=r.un;omega⟩
theorem Room.deeper (r:Room (k+1) A) (g:Env):Room k (A.deeper g) :=
 ⟨r.hd,by have:=r.dp;show A.depth+1+3*k+5<_;omega,by have:=r.un;show A.units+3+16*k+200<_;omega⟩
theorem Wt {A:Around}:(A.under (.builtin "type.__call__" ⟨.ref C::j,g⟩)).depth=A.depth+1:=by
 first | rfl | simp[Around.under,Code.weight,Code.isCreation,Code.isGuard,Code.isCaller,Code.frames,Code.isFrame,guardIds]
theorem S0 {A:Around}:(A.under (.builtin "type.__call__" ⟨.ref C::j,g⟩)).units=A.units+1:=by
 first | rfl | simp[Around.under,Code.cUnits,Code.frames,Code.isFrame]
theorem Room.make (r:Room (k+1) A) (C:Ad) (j:Aa Ac) (g:Aa (Af×Ac)):Room k (A.under (.builtin "type.__call__" ⟨.ref C::j,g⟩)) :=
 ⟨r.hd,by have:=r.dp;rw[Wt];omega,by have:=r.un;rw[S0];omega⟩
theorem Room.depth (r:Room k A):A.depth<recursionLimit:=by have:=r.dp;omega
theorem Room.units (r:Room k A):A.units+64<cLine:=by have:=r.un;omega
def Ux:TA:=λ_ H Q=>Q [] H
def Nv (g:TE) (j:TA):TA:=λa H Q=>g a H λx b=>j a b λd c=>Q (x::d) c
section
variable {X:Cx}
theorem pW:PA X [] Ux:=λ_ _ _ _ H Q I h=>Calls.spliced_nil ⟨[],H,I,.nil,h⟩
theorem EI (j:PE X e p) (l:PA X g t) (o:starEach (e::g) X.env=(false,eval e X.env)::starEach g X.env:=by rfl):PA X (e::g) (Nv p t):=by
 intro pos a s c H Q I h;rw[o];show wpAny _ _ (spliced ((false,eval e X.env)::backTo pos (starEach g X.env))) _ _ s;refine gX (kT (j a s c H _ I h) λu w b=>?_);obtain⟨x,d,i,q,m⟩:=b;exact kT (l pos a w c d _ i m) λA z ⟨y,f,k,v,n⟩=>⟨x::y,f,k,.cons q v,n⟩
def Xf (t:TA):TE:=λc H Q=>t c H λb a=>b.length<=sizeLine/\∀ p,a p=none->Q (.ref p) (upd a p (.t b))
def Wp (t:TA):TE:=λc H Q=>t c H λb a=>b.length<=sizeLine/\∀ p,a p=none->Q (.ref p) (upd a p (.l b))
theorem xP {j}(h:PA X g t):PE X (.Tuple g j pos) (Xf t):=by
 intro a s v H Q I k;refine wpAny_Tuple_spliced (kT (h pos a s v H _ I k) λm c ⟨n,d,f,r,z,q⟩=>⟨by rw[<- r.length];exact z,?_⟩);have i:d c.heap.objs.size=none:=f.hok.fresh (bD _);refine⟨.ref c.heap.objs.size,upd d c.heap.objs.size (.t n),f.laid (t':=c.toks) (λb u e=>aE _ e) (bD _) ?_,rfl,q _ i⟩;exact⟨z,m,r,⟨_,bL _ rfl,rfl,_,rfl⟩,_,bL _ rfl,rfl⟩
theorem Wn (h:PA X g t):PE X (.List g pos) (Wp t):=by
 intro a s v H Q I k;refine wpAny_List_spliced (kT (h pos a s v H _ I k) λm c ⟨n,d,f,r,z,q⟩=>⟨by rw[<- r.length];exact z,?_⟩);have i:d c.heap.objs.size=none:=f.hok.fresh (bD _);refine⟨.ref c.heap.objs.size,upd d c.heap.objs.size (.l n),f.laid (t':=c.toks) (λb u e=>aE _ e) (bD _) ?_,rfl,q _ i⟩;exact⟨z,m,0,r,bL _ rfl⟩
end
abbrev Sp:=Aa V->Hp->VK->XK->Prop
abbrev xE:=Aa Env->Hp->Ae->XK->Ac->Ae->Prop
structure Env0 (P:Program) (w:World) (K:kM) (mg:Str->Option Value) (base:Heap) (A:Around) (outer:List Env) (s:Shared) (H:Hp):Prop where
 frames:A.frames=some outer
 mod:Mod K mg base
 bs:∀ b o,base.get? b=some o->s.heap.get? b=some o/\H b=none
 bsz:base.objs.size<=s.heap.objs.size
 funs:s.heap.FunFrames base outer
 frf:∀ b∈rK outer,H b=none
 hok:nA P w H s.heap
 bare:AllBare s.gens
def CE (g:Aa Env) (P:Ah) (w:World) (H:Hp) (s:Ae) (Q:VK) (u:Ac) (j:Ae):Prop :=
 ∃ v a,j.os=s.os/\AllBare j.gens/\Un (rK g) [] H a s.heap j.heap/\nA P w a j.heap/\kR v u/\Q v a
def CR (l:xE) (g:Aa Env) (P:Ah) (w:World) (H:Hp) (s:Ae) (Q:VK) (E:XK) (r:Result) (j:Ae):Prop :=
 match r with
 | .ok (.ret u)=>CE g P w H s Q u j
 | .ok _=>False
 | .error e=>l g H s E e j
structure FnOk (P:Program) (w:World) (K:kM) (mg:Str->Option Value) (base:Heap) (CX:xE) (k:Nat) (f:Addr) (fd:FuncData) (ps:List Str) (sp:Sp):Prop where
 len:∀ vs H Q E,sp vs H Q E->vs.length=ps.length
 run:∀ (A:Around) (outer:List Env) (s:Shared) (H:Hp) (args:Args) (us:List Value) (vs:List V) (Q:VK) (E:XK),Room k A->Env0 P w K mg base A outer s H->BindsTo s fd args (ps.zip us)->kY vs us->sp vs H Q E ->
  codeAny (model P w) A (.call (.ref f) args) (CR CX outer P w H s Q E) s
theorem FnOk.imp {P:Ah}{K:kM}(F:FnOk P w K o base l k f fd p r)
  (h:∀ g H Q E,j g H Q E->r g H Q E):FnOk P w K o base l k f fd p j :=
 ⟨λg H Q E q=>F.len g H Q E (h _ _ _ _ q),λA a s H args m g Q E d c b i e=>F.run A a s H args m g Q E d c b i (h _ _ _ _ e)⟩
theorem Env0.make {P:Ah}{K:kM}(e:Env0 P w K l base A g s H) (C:Ad) (o:Aa Ac) (j:Aa (Af×Ac)) :
  Env0 P w K l base (A.under (.builtin "type.__call__" ⟨.ref C::o,j⟩)) g s H:=⟨by first | exact e.frames | (simpa [Around.under,Code.envs,Code.isFrame,pushEnvs] using e.frames),e.mod,e.bs,e.bsz,e.funs,e.frf,e.hok,e.bare⟩
section
variable {X:Cx}
theorem Inv.env0 (I:Inv X g j H s):Env0 X.prog X.w X.K X.mg X.base X.A X.stack s H :=
 ⟨I.ok.frames,I.ok.mod,I.bs,bU I.ok.bsz I.sz,I.stack,I.stkFree,I.hok,I.bare⟩
theorem Inv.after (I:Inv X j o H s) (h:CE X.stack X.prog X.w H s Q u l):EP X j o Q u l:=by
 obtain⟨v,e,os,bare,un,a,r,q⟩:=h;obtain⟨f,g,d,t,c⟩:=l;obtain rfl:c=s.os:=os;exact⟨v,e,I.call (h':=f) (g':=g) (d':=d) (t':=t) (ch:=[]) un a bare (λb z=>absurd z (by simp)),r,q⟩
end
def Yi (j:Sp) (g:Aa V) (E:XK) (t:TA):TE:=λc H Q=>t c H λb a=>j (b++g) a Q E
def sW (K:kM) (fd:FuncData) (j:Aa Af) (g:Aa Ac):Prop :=
 ∀ (s:Ae) (a:Aa Ac),K.In s.heap->(a++g).length=j.length->BindsTo s fd ⟨a,[]⟩ (j.zip (a++g))
theorem sW.all {K:kM}(h:∀ g:Aa Ac,g.length=j.length->bindArgs fd ⟨g,[]⟩=pure (j.zip g)):sW K fd j []:=λs g _ a=>by
 rw[cG] at a |-;exact .of_eq (h g a)
def Bd (g:xE) (X:Cx) (E:XK):Prop:=∀ (a:Aa (Ad×Obj)) (c:St) (H:Hp) (s:Ae) (e:Ac) (b:Ae),Inv X a c H s->g X.stack H s E e b->X.xe e b
section
variable {X:Cx}
theorem Th (F:FnOk X.prog X.w X.K X.mg X.base T k f fd C sp) (hr:Room k X.A) (U:sW X.K fd C o) (hd:kY j o) (hx:Bd T X E)
  (I:Inv X g J H s) (r:kY p l) (h:sp (p++j) H Q E):wpAny (model X.prog X.w) X.A (call (.ref f) l) (EP X g J Q) X.xe s:=by
 have b:kY (p++j) (l++o):=r.append hd;have d:(l++o).length=C.length:=by rw[<- b.length];exact F.len _ _ _ _ h
 refine iN (codeAny_mono (F.run X.A X.stack s H ⟨l,[]⟩ (l++o) (p++j) Q E hr I.env0 (U s l I.kIn d) b h) λr i a=>?_);cases r with
 | error e=>exact hx g J H s e i I a
 | ok c =>
  cases c with
  | ret u=>exact I.after a
  | next=>exact False.elim a
  | brk=>exact False.elim a
  | cont=>exact False.elim a
structure StB (X:Cx) (e:Expr) (es:List Expr) (pos:Pos):Prop where
 a:starEach (e::es) X.env=(false,eval e X.env)::starEach es X.env:=by rfl
 b:(backTo pos (starEach es X.env)).any (·.1)=false:=by rfl
theorem zQ (F:FnOk X.prog X.w X.K X.mg X.base C k f fd ps sp) (hr:Room k X.A) (hg:Gl X x) (hm:X.mg x=some (.ref f)) (hk:PySem.W.keepIn X.K (.ref f)=true) (U:sW X.K fd ps J) (hd:kY j J) (hx:Bd C X E)
  (T:PA X (e::o) t) (l:(x == ("__debug__" : Af))=false:=by decide) (g:StB X e o pos:=by exact {}) :
  PE X (.Call (.Name x p) (e::o) [] pos) (Yi sp j E t):=by
 intro c s i H Q I h;refine iP (At I hg hm ?_ l);refine PySem.W.callWith_K (h₀:=X.base) I.ok.mod.kin hk (kT (T pos c s i H _ I h) λu n ⟨v,m,d,r,q⟩=>⟨d.kIn,?_⟩) g.a g.b;exact Th F hr U hd hx d r q
end
structure FnScope (N P:List Str) (sc:Scope):Prop where
 kind:sc.kind = .function
 co:sc.isCoroutine=false
 gen:sc.isGenerator=false
 nd:N.Nodup
 pre:N.take P.length=P
 par:∀ x∈P,sc.names.lookup x=some .local\/sc.names.lookup x=some .cell
 nofree:∀ y∈sc.names,y.2 ≠ .free
theorem Nr {kindOf:Af->Ab NameKind}:∀ {binds:Aa (Af×Ac)}{m:Af->Ab Ac},(∀ v,(x,v)∉binds)->bindL kindOf binds m x=m x
 | [],_,_=>rfl
 | (n,v)::r,m,h=>by
  unfold bindL;rw[Nr λw hw=>h w (aZ _ hw)];split
  .have:x≠n:=by rintro rfl;exact h v aO
   simp[this]
  .rfl
theorem Kv {kindOf:Af->Ab NameKind}:∀ {binds:Aa (Af×Ac)}{m:Af->Ab Ac},(∀ v,(x,v)∉binds)->bindC kindOf binds m x=m x
 | [],_,_=>rfl
 | (n,v)::r,m,h=>by
  unfold bindC;rw[Kv λw hw=>h w (aZ _ hw)];split
  .rfl
  .have:x≠n:=by rintro rfl;exact h v aO
   simp[this]
theorem P6 {kindOf:Af->Ab NameKind}:∀ {P:Aa Af}{g:Aa Ac}{i:Nat}{m:Af->Ab Ac},P.Nodup->P[i]?=some x->g[i]?=some v->kindOf x=some .local ->
  bindL kindOf (P.zip g) m x=some v
 | [],_,_,_,_,h,_,_=>by simp at h
 | _::_,[],_,_,_,_,h,_=>by simp at h
 | p::P,w::g,0,m,d,a,b,c=>by
  simp at a b;subst a;subst b;show bindL kindOf ((p,w)::P.zip g) m p=_;unfold bindL;rw[Nr λv e=>(bN.mp d).1 (kD e).1,aU c];simp
 | p::P,w::g,i+1,m,d,a,b,c=>by
  show bindL kindOf ((p,w)::P.zip g) m x=_;unfold bindL;exact P6 (i:=i) (bN.mp d).2 (by simpa using a) (by simpa using b) c
theorem Ky {kindOf:Af->Ab NameKind}:∀ {P:Aa Af}{g:Aa Ac}{i:Nat}{m:Af->Ab Ac},P.Nodup->P[i]?=some x->g[i]?=some v->kindOf x≠some .local ->
  bindC kindOf (P.zip g) m x=some v
 | [],_,_,_,_,h,_,_=>by simp at h
 | _::_,[],_,_,_,_,h,_=>by simp at h
 | p::P,w::g,0,m,d,a,b,c=>by
  simp at a b;subst a;subst b;show bindC kindOf ((p,w)::P.zip g) m p=_;unfold bindC;rw[Kv λv e=>(bN.mp d).1 (kD e).1,aL c];simp
 | p::P,w::g,i+1,m,d,a,b,c=>by
  show bindC kindOf ((p,w)::P.zip g) m x=_;unfold bindC;exact Ky (i:=i) (bN.mp d).2 (by simpa using a) (by simpa using b) c
def start (N:Aa Af) (g:Aa V):St:=g.map some++List.replicate (N.length-g.length) none
noncomputable def mZ (o:xE) (P:Ah) (w:World) (K:kM) (p:Af->Ab Ac) (base:Ag) (N:Aa Af) (l:Af) (g:Scope) (f:Ad) (cd:Ac) (A:Around) (j:Aa Env) (s:Ae) (H:Hp) (E:XK):Cx where
 prog:=P
 w:=w
 K:=K
 mg:=p
 base:=base
 A:=A.deeper (envOfC l g s.heap.objs.size f cd)
 N:=N
 s₀:=s
 H₀:=H
 env:=envOfC l g s.heap.objs.size f cd
 outer:=j
 stack:=envOfC l g s.heap.objs.size f cd::j
 ex:=[]
 calm:=true
 fn:=λ_=>true
 pn:=[]
 xe:=λe c=>wpAny (model P w) (A.deeper (envOfC l g s.heap.objs.size f cd)) (leaving (envOfC l g s.heap.objs.size f cd) e) (λ_ a=>o j H s E e a) (λb a=>o j H s E b a) c
theorem Kj {g:Scope}{n:Nat}{x:Af}(h:g.names.lookup x=some .cell):∃ c,(cellsFrom n g.names []).lookup x=some c:=by
 have q:=PySem.W.cellsFrom_some g.names n [] (.inl h);exact cZ.mp q
theorem R9 {P:Ah}{K:kM}{cd:Ac}
  (S:FnScope N C g) (hd:A.handled=none) (o:Env0 P w K J base A j s H) (hl:I.length=C.length) (r:kY I T)
  (x:InCallC s s.heap.objs.size (bindL (envOfC l g s.heap.objs.size f cd).kindOf (C.zip T) λ_=>none) (cellsFrom (s.heap.objs.size+1) g.names []) (bindC (envOfC l g s.heap.objs.size f cd).kindOf (C.zip T) λ_=>none) s1) :
  Inv (mZ U P w K J base N l g f cd A j s H E) [] (start N I) H s1:=by
 have Q:C.length<=N.length:=by have:=cH List.length S.pre;rw[dD] at this;omega
 obtain⟨F,W,rfl,L⟩:=x.done;have t:∀ b:Ad,b∉(mZ U P w K J base N l g f cd A j s H E).ex:=λb z=>absurd (show b∈([]:Aa Ad) from z) (by simp)
 refine⟨⟨o.mod,S.kind,rfl,rfl,bD _,λy z c F d=>?_,λy m=>?_,λy c _ h=>?_,λ_=>hd,Around.frames_deeper o.frames,.inr ⟨rfl,rfl⟩,λb z=>absurd z (t b),o.bs,o.bsz,λb _ _=>t b,λb z=>absurd z (t b),o.funs,o.frf⟩,
  rfl,o.bare,Un.kept L,⟨_,x.toInCall.ns,λi y v F d V=>?_⟩,λy c h=>⟨_,x.cell y c h⟩,o.hok.fresh (bD _),λy c h=>?_,λp B=>absurd (show p∈([]:Aa (Ad×Obj)) from B) (by simp),o.hok.kept L,?_⟩
 .exact name_of_addr x.apart (dL F) (dL d)
 .have m:g.names.lookup y=some .cell\/g.names.lookup y=some .free:=m;rcases m with m | m
  .exact Kj m
  .exact absurd rfl (S.nofree _ (dL m))
 .exact jM (x.above y c (dL h))
 .have G:i<I.length:=by
   unfold start at d;by_cases G:i<I.length
   .exact G
   .rw[dO (by simpa using G)] at d;rw[List.getElem?_replicate] at d;split at d<;>cases d
  have O:I[i]?=some v:=by
   unfold start at d;rw[gF (by simpa using G),bH] at d;cases e:I[i]? with
   | none=>rw[e] at d;cases d
   | some a=>rw[e] at d;cases d;rfl
  obtain⟨u,M,R⟩:=r.get O;have B:C[i]?=some y:=by
   rw[<- S.pre,List.getElem?_take_of_lt (by omega)];exact F
  have D:C.Nodup:=by rw[<- S.pre];exact S.nd.sublist (List.take_sublist _ _)
  refine⟨u,R,?_⟩;rcases S.par y (aI B) with k | k
  .exact .inl ⟨k,P6 D B M k⟩
  .obtain⟨c,e⟩:=Kj (n:=s.heap.objs.size+1) k;refine .inr ⟨.inl k,c,e,?_⟩;have q:=x.cell y c e;rw[Ky D B M (by show g.names.lookup y≠_;rw[k];decide)] at q;exact q
 .exact o.hok.fresh (jM (x.above y c (dL h)))
 .unfold start;show _=N.length;rw[aD,aA,bW];omega
theorem Nu {P:Ah}{K:kM}{kV:Ac}
(lk:K.lookup f=some ⟨oc,od,.func (PySem.W.fnOf name l C body g dV kV ab pm an p ct),ae⟩) (ac:PySem.W.codeIn K p l=true) (S:FnScope N ps g)
  (len:∀ T H Q E,sp T H Q E->T.length=ps.length)
  (aa:∀ (A:Around) (j:Aa Env) (s:Ae) (H:Hp) (T:Aa V) (Q:VK) (E:XK),Room k (A.deeper (envOfC l g s.heap.objs.size f p))->sp T H Q E ->∃ t,oC (mZ CX P w K mg base N l g f p A j s H E) body t/\t { nx:=λ_ U=>Q .e U,rt:=Q } (start N T) H) :
  FnOk P w K mg base CX (k+1) f (PySem.W.fnOf name l C body g dV kV ab pm an p ct) ps sp:=by
 refine⟨len,λA j s H args us T Q E m h O r i=>?_⟩;have X:=len _ _ _ _ i;have F:K.In s.heap:=h.mod.kin.keeps λb o e=>(h.bs b o e).1
 have z:s.heap.NoLimit:=h.mod.nolimit.keeps λb o e=>(h.bs b o e).1
 have c:∀ y∈ps.zip us,g.names.lookup y.1=some .local\/(g.names.lookup y.1=some .cell/\((cellsFrom (s.heap.objs.size+1) g.names []).lookup y.1).isSome=true):=λ⟨n,v⟩ hy=>by
  rcases S.par n (kD hy).1 with q | q
  .exact .inl q
  .exact .inr ⟨q,PySem.W.cellsFrom_some _ _ _ (.inl q)⟩
 refine codeAny_call_function m.depth (F _ _ lk) rfl S.co S.gen rfl (PySem.W.codeRec_of F ac) (O _ _ _ _ ?_);refine wpAny_newFunctionEnv_cells S.kind c λL R G x=>?_
 subst R;refine⟨z.keeps x.toInCall.keep,codeAny_func ?_⟩;obtain⟨t,Z,Y⟩:=aa A j s H T Q E (m.deeper _) i;have I:Inv (mZ CX P w K mg base N l g f p A j s H E) [] (start N T) H G:=R9 S m.hd h X r x;refine cT (Z [] G (start N T) H _ I Y) (λM D d=>?_) λe D d=>d
 have fin:∀ {a:St} {U:Hp} {v:V} {u:Ac},Inv (mZ CX P w K mg base N l g f p A j s H E) [] a U D->kR v u->Q v U->CE j P w H s Q u D :=
  λ{a U v u} J B q=>⟨v,U,J.os,J.bare,J.base,J.hok,B,q⟩
 cases M with
 | ret u =>
  obtain⟨v,a,U,J,B,q⟩:=d;exact fin J B q
 | next =>
  obtain⟨a,U,J,q⟩:=d;exact fin (v:=V.e) (u:=Value.none) J rfl q
 | brk =>
  obtain⟨_,_,_,q⟩:=d;exact False.elim q
 | cont =>
  obtain⟨_,_,_,q⟩:=d;exact False.elim q
section
variable {X:Cx}{id:String}
def Kg (r:Aa V->Hp->VK->Prop) (t:TA):TE:=λc H Q=>t c H λb a=>r b a Q
theorem wB (C:nI X (.builtin id) r) (J:Gl X x) (T:X.mg x=none) (hv:bootBuiltins x=some (.builtin id)) (o:PA X (e::l) t) (U:x ≠ "__name__" := by decide) (j:(x == ("__debug__" : Af))=false:=by decide)
  (g:StB X e l pos:=by exact {}):PE X (.Call (.Name x p) (e::l) [] pos) (Kg r t):=by
 intro c s d H Q I h;refine iP (Di I J T hv ?_ U j);exact PyProof.Rows.callWith_builtin1 (kT (o pos c s d H _ I h) λq n ⟨u,f,i,m,k⟩=>C c n d f u q Q i m k) g.a g.b
theorem Xp (C:nI X (.type T) r) (J:Gl X x) (U:X.mg x=none) (hv:bootBuiltins x=some (.type T)) (o:PA X (e::l) t) (hn:x ≠ "__name__" := by decide) (j:(x == ("__debug__" : Af))=false:=by decide)
  (g:StB X e l pos:=by exact {}):PE X (.Call (.Name x p) (e::l) [] pos) (Kg r t):=by
 intro c s d H Q I h;refine iP (Di I J U hv ?_ hn j);exact PyProof.Rows.callWith_type1 (kT (o pos c s d H _ I h) λq n ⟨u,f,i,m,k⟩=>C c n d f u q Q i m k) g.a g.b
end
end L2
namespace HT
open PySem PyProof.Rows
section
theorem cat_tup (J:IsTup s.heap t j.toArray) (I:IsTup s.heap b g.toArray) (o:j≠[])
  (r:g=[]->Q (.ref t) s) (C:g≠[]->Q (.ref s.heap.objs.size) { s with heap:=s.heap.push { cls:=.type "tuple",data:=.seq (j++g).toArray } })
  (l:j.length+g.length<=sizeLine):wpAny (model p w) A (binaryOp .Add (.ref t) (.ref b)) Q E s:=by
 obtain⟨⟨cls,m,data,v⟩,i,q,n,hd⟩:=id J;obtain⟨⟨k,c,data2,h⟩,a,d,u,f⟩:=id I;simp only at q hd d f;subst q hd d f;have e:j.toArray++g.toArray=(j++g).toArray:=by simp
 by_cases hw:g=[]
 .exact concat_meets ⟨_,i,rfl⟩ ⟨_,a,rfl⟩ noFill_tuple_add seq_tuple_add iS iR (iE _ _)
   (tuple_addW1 t b j.toArray g.toArray n u m c v h (by simpa using o) (by simp[hw])) ⟨i,a,r hw⟩
 .refine concat_meets ⟨_,i,rfl⟩ ⟨_,a,rfl⟩ noFill_tuple_add seq_tuple_add iS iR (iE _ _)
   (tuple_addW2 t b j.toArray g.toArray n u m c v h (by simpa using o) (by simpa using hw) (by rw[bF,bF];exact l)) ⟨i,a,?_⟩
  rw[e];exact C hw
end
end HT
namespace L2
open PySem PySem.Spec PyProof.Rows
section
variable {X:Cx}{lo:Ab Expr}
def Rb (K:kM):R2:=λx y H Q=>∃ a b d c,x = .ref a/\y = .ref b/\lZ K H a d/\lZ K H b c/\d≠[]/\d.length+c.length<=sizeLine /\
 (c=[]->Q (.ref a) H)/\(c≠[]->∀ p,H p=none->Q (.ref p) (upd H p (.t (d++c))))
theorem kY.nil_iff (r:kY j g):g=[]↔j=[]:=by
 cases r with
 | nil=>simp
 | cons _ _=>simp
theorem T3:lF X (binaryOp .Add) (Rb X.K):=by
 intro i s P H x y v u Q I G L h;obtain⟨a,b,M,N,rfl,rfl,k,m,n,e,E,F⟩:=h;cases G;cases L;obtain⟨A,d,B,_⟩:=I.tuple k;obtain⟨f,c,D,_⟩:=I.tuple m;refine HT.cat_tup B D (λz=>n (d.nil_iff.mp z)) (λz=>⟨.ref a,H,I,rfl,E (c.nil_iff.mp z)⟩) (λz=>?_) (by rw[<- d.length,<- c.length];exact e);refine⟨.ref s.heap.objs.size,_,I.laid (t':=s.toks) (o:=.t (M++N)) (λb O q=>aE _ q) (bD _) ?_,rfl,F (λw=>z (c.nil_iff.mpr w)) _ (I.hok.fresh (bD _))⟩;exact⟨by rw[aD];exact e,_,d.append c,xK.new _ _⟩
end
noncomputable def sA (n:Nat) (i:Int):Ab Nat:=if 0<=i then (if i<n then some i.toNat else none) else if -(n:Int)<=i then some (i+n).toNat else none
def nO {l:Type}(g:Aa l) (i:Int):Ab l:=(sA g.length i).bind λj=>g[j]?
theorem Pr (h:sA n i=some j):seqIndex? i n=some j/\j<n/\-(n:Int)<=i/\i<n:=by
 unfold sA at h;by_cases b:0<=i
 .rw[aU b] at h;by_cases a:i<n
  .rw[aU a] at h;have e:i.toNat=j:=bY h;exact⟨by rw[seqIndex_of b a,e],by omega,by omega,a⟩
  .rw[aL a] at h;cases h
 .rw[aL b] at h;by_cases a:-(n:Int)<=i
  .rw[aU a] at h;have e:(i+n).toNat=j:=bY h;exact⟨by rw[seqIndex_neg (by omega) a,e],by omega,a,by omega⟩
  .rw[aL a] at h;cases h
theorem G1 (h:nO g i=some v):∃ j,seqIndex? i g.length=some j/\g[j]?=some v/\j<g.length/\-(g.length:Int)<=i/\i<g.length:=by
 unfold nO at h;cases e:sA g.length i with
 | none=>rw[e] at h;cases h
 | some j =>
  rw[e] at h;obtain⟨a,b,c,d⟩:=Pr e;exact⟨j,a,h,b,c,d⟩
theorem qC {l:Type}{g:Aa l}{j:Nat}{v:l}(h:g[j]?=some v):nO g (j:Int)=some v:=by
 have a:j<g.length:=(aV.mp h).1;have e:sA g.length (j:Int)=some j:=by
  unfold sA;rw[aU (by omega),aU (by omega)];simp
 unfold nO;rw[e];exact h
theorem CJ (g:Aa j) (v:j):nO (g++[v]) (-1)=some v:=by
 have a:(g++[v]).length=g.length+1:=by simp
 have e:sA (g++[v]).length (-1)=some g.length:=by
  unfold sA;rw[a,aL (by decide),aU (by omega)]
  congr 1
  omega
 unfold nO;rw[e];show (g++[v])[g.length]?=some v;simp
def xY (b:Expr):Prop:=∀ o i,subscripted b false o i=operate [o,i] (getItem o i)
def tM (X:Cx) (r:R2):Prop :=
 ∀ (value slice:Expr) (a:Aa (Ad×Obj)) (s:Ae) (b:St) (H:Hp) (x y:V) (v u:Ac) (Q:VK),Inv X a b H s->kR x v->kR y u->r x y H Q ->
  subscripted slice false v u=operate [v,u] (getItem v u)->wpAny (model X.prog X.w) X.A (subscriptTail value slice v u) (EP X a b Q) X.xe s
def E5 (X:Cx) (id:String) (r:V->Aa V->Hp->VK->Prop):Prop :=
 ∀ (a:Aa (Ad×Obj)) (s:Ae) (d:St) (H:Hp) (x:V) (c:Aa V) (v:Ac) (b:Aa Ac) (Q:VK),Inv X a d H s->kR x v->kY c b->r x c H Q ->
  wpAny (model X.prog X.w) X.A (call (.builtin id) (v::b)) (EP X a d Q) X.xe s
section
variable {X:Cx}
theorem tM.or (h:tM X r) (g:tM X j):tM X (λx y H Q=>r x y H Q\/j x y H Q):=by
 intro value slice a s e H x y v u Q I c d q b;rcases q with q | q
 .exact h value slice a s e H x y v u Q I c d q b
 .exact g value slice a s e H x y v u Q I c d q b
theorem Mn (l:tM X r) (g:PE X a p) (j:PE X b C) (o:xY b):PE X (.Subscript a b pos) (zA r p C):=by
 intro c s m H Q I h;exact Subscript_ (Gy g j I h λv u k x y d e f i q=>l a b c k m d x y v u Q e f i q (o _ _))
def Q3 (K:kM):R2:=λx y H Q=>∃ p a i v,x = .ref p/\y = .int i/\lG K H p a/\nO a i=some v/\Q v H
def M8 (K:kM):R2:=λx y H Q=>∃ p a i v,x = .ref p/\y = .int i/\lZ K H p a/\nO a i=some v/\Q v H
def Me:R2:=λx y H Q=>∃ z i c,x = .str z/\y = .int i/\z.length<=sizeLine/\nO z.cps.toList i=some c/\Q (.str ⟨#[c]⟩) H
theorem S6:tM X (Q3 X.K):=by
 intro value slice a s A H x y v u Q I M N h n;obtain⟨p,V,i,z,rfl,rfl,L,F,q⟩:=h;cases M;obtain⟨t,rfl⟩:=N;obtain⟨d,r,e,S⟩:=I.list L;obtain⟨j,b,B,P,D,E⟩:=G1 F;obtain⟨w,k,f⟩:=r.get B;have G:=r.length;have R:=wY;have fin:EP X a A Q w s:=⟨z,H,I,f,q⟩;by_cases m:0<=i
 .have c:i.toNat=j:=by
   rw[seqIndex_of m E] at b;exact bY b
  exact item_listR e.isList m (by omega) (by rw[c];simpa using k) fin n
 .have c:(i+(d.toArray.size:Int)).toNat=j:=by
   rw[seqIndex_neg (by omega) D] at b;rw[bF,<- G];exact bY b
  exact subscriptTail_builtinR (x:=w) e.isList.typeIs slot_list_getitem.lookup
   (wpAny_getItem_list_neg (Q:=λr O=>r=w/\EP X a A Q r O) e.isList (by omega) (by rw[bF]<;>omega) (by omega) (by rw[c];simpa using k) ⟨rfl,fin⟩) n
theorem Wq:tM X (M8 X.K):=by
 intro value slice a s d H x y v u Q I E F h B;obtain⟨p,R,i,z,rfl,rfl,A,m,q⟩:=h;cases E;obtain⟨t,rfl⟩:=F;obtain⟨D,r,c,P⟩:=I.tuple A;obtain⟨j,f,k,L,M,N⟩:=G1 m;obtain⟨w,e,b⟩:=r.get k;have n:=r.length;have O:=wY;have fin:EP X a d Q w s:=⟨z,H,I,b,q⟩;exact subscriptTail_builtinR (x:=w) c.typeIs slot_tuple_getitem.lookup
  (getItem_tuple (j:=j) (Q:=λr G=>r=w/\EP X a d Q r G) c (by omega) (by omega) (by rw[bF,<- n];exact f) (by simpa using e) ⟨rfl,fin⟩) B
theorem FU:tM X Me:=by
 intro value slice b s L H x y v u Q I B D h A;obtain⟨z,i,c,rfl,rfl,G,n,q⟩:=h;obtain⟨t,rfl⟩:=B;obtain⟨K,rfl⟩:=D;obtain⟨j,a,f,E,k,m⟩:=G1 n;have w:z.cps.toList.length=z.length:=by simp[Str.length]
 rw[w] at a k m;have F:=wY;exact tail_any (typeIs_str s z t) slot_str_getitem.lookup (getItem_str (c:=c) (by
  have d:decide (i < -(2 ^ 63:Int))=false:=aQ (by omega);have e:decide (i>=2 ^ 63)=false:=aQ (by omega);rw[d,e,Bool.or_false]) (by rw[a];simpa using f) ⟨.str ⟨#[c]⟩,H,I.tok _,⟨_,rfl⟩,q⟩) A
def Qw (K:kM):R2:=λx y H Q=>Q3 K x y H Q\/M8 K x y H Q\/Me x y H Q
theorem FS:tM X (Qw X.K):=S6.or (Wq.or FU)
theorem Sj (g:Aa Ac) (n j:Nat) (u:Ac):Obj.mapSeq (·.setIfInBounds j u) { cls:=.type "list",data:=.seq g.toArray n }={ cls:=.type "list",data:=.seq (g.set j u).toArray n }:=by
 simp[Obj.mapSeq]
theorem Inv.lst (I:Inv X j C H s) (h:H p=some (.l o)) :
  ∃ (g:Aa Ac) (n:Nat),kY o g/\s.heap.get? p=some { cls:=.type "list",data:=.seq g.toArray n }/\o.length<=sizeLine:=by
 obtain⟨z,g,n,r,e⟩:=I.hok p _ h;exact⟨g,n,r,e,z⟩
theorem Inv.lstUpd {j:Aa Ac}(I:Inv X o σ H s) (h:H p=some (.l xs))
  (U:s.heap.get? p=some { cls:=.type "list",data:=.seq j.toArray n }) (C:f { cls:=.type "list",data:=.seq j.toArray n }={ cls:=.type "list",data:=.seq g.toArray J }) (r:kY T g) (hz:T.length<=sizeLine) (t:Nat) :
  Inv X o σ (upd H p (.l T)) { s with heap:=s.heap.update p f,toks:=t }:=by
 have e:(s.heap.update p f).get? p=some { cls:=.type "list",data:=.seq g.toArray J }:=by
  rw[cV f U (by rw[C]<;>rfl),C]
 refine I.write (x:=p) (e:=p) (by rw[h];trivial) (.inl rfl) (λb u a q=>(cY _ _ (eZ a)).trans q) ⟨_,e⟩ ?_;exact⟨hz,g,J,r,e⟩
def Pe:V->V->V->Hp->(Hp->Prop)->Prop:=λo i v H Q=>∃ p a k j,o = .ref p/\i = .int k/\H p=some (.l a)/\sA a.length k=some j/\Q (upd H p (.l (a.set j v)))
theorem Rw:Hu X Pe:=by
 intro b s K H o i v O N u Q I E D F h;obtain⟨p,G,k,j,rfl,rfl,z,A,q⟩:=h;cases E;obtain⟨t,rfl⟩:=D;obtain⟨a,n,r,f,B⟩:=I.lst z;obtain⟨c,L,x,y⟩:=Pr A;have e:=r.length;have M:=wY;have m:Inv X b K (upd H p (.l (G.set j v))) { s with heap:=s.heap.update p (Obj.mapSeq (·.setIfInBounds j u)) } :=
  I.lstUpd z f (Sj a n j u) (r.set F j) (by rw[bV];exact B) s.toks
 by_cases w:0<=k
 .have d:k.toNat=j:=by
   rw[seqIndex_of w y] at c;exact bY c
  exact PySem.W.ki_setAt f w (by omega) (by rw[bF,<- e];exact y) (by rw[d];exact⟨_,m,q⟩)
 .have d:(k+(a.toArray.size:Int)).toNat=j:=by
   rw[seqIndex_neg (by omega) x] at c;rw[bF,<- e];exact bY c
  exact PySem.W.ki_setBack f (by omega) (by rw[bF,<- e];exact x) (by omega) (by rw[d];exact⟨_,m,q⟩)
def qI:V->Bool
 | .e=>true
 | .b _=>true
 | .int _=>true
 | .str _=>true
 | _=>false
noncomputable def qT:V->V->Bool
 | .e,.e=>true
 | .b a,.b b=>a == b
 | .b a,.int b=>(if a then 1 else 0) == b
 | .int a,.b b=>a == (if b then 1 else 0)
 | .int a,.int b=>a == b
 | .str a,.str b=>a == b
 | _,_=>false
theorem Jb (l:kR y u) (g:kR x v) (o:qI y=true) (j:qI x=true):SeqAt.EqAt A s u v (qT y x):=by
 cases y with
 | e =>
  cases l;cases x with
  | e=>cases g;exact SeqAt.EqAt.same _
  | b b=>cases g;exact SeqAt.EqAt.none_bool b
  | int b=>obtain⟨t,rfl⟩:=g;exact SeqAt.EqAt.none_int b t
  | str b=>obtain⟨t,rfl⟩:=g;exact SeqAt.EqAt.none_str b t
  | _=>exact absurd (show false=true from j) bM
 | b a =>
  cases l;cases x with
  | e=>cases g;exact SeqAt.EqAt.bool_none a
  | b b=>cases g;exact SeqAt.EqAt.bool_bool a b
  | int b=>obtain⟨t,rfl⟩:=g;exact SeqAt.EqAt.bool_int a b t
  | str b=>obtain⟨t,rfl⟩:=g;exact SeqAt.EqAt.bool_str a b t
  | _=>exact absurd (show false=true from j) bM
 | int a =>
  obtain⟨c,rfl⟩:=l;cases x with
  | e=>cases g;exact SeqAt.EqAt.int_none a c
  | b b=>cases g;exact SeqAt.EqAt.int_bool a c b
  | int b=>obtain⟨t,rfl⟩:=g;exact SeqAt.EqAt.int_int a c b t
  | str b=>obtain⟨t,rfl⟩:=g;exact SeqAt.EqAt.int_str a c b t
  | _=>exact absurd (show false=true from j) bM
 | str a =>
  obtain⟨c,rfl⟩:=l;cases x with
  | e=>cases g;exact SeqAt.EqAt.str_none a c
  | b b=>cases g;exact SeqAt.EqAt.str_bool a c b
  | int b=>obtain⟨t,rfl⟩:=g;exact SeqAt.EqAt.str_int a c b t
  | str b=>obtain⟨t,rfl⟩:=g;exact SeqAt.EqAt.str_str a c b t
  | _=>exact absurd (show false=true from j) bM
 | _=>exact absurd (show false=true from o) bM
def rA (x:V) (u:Ac):Bool:=match u with
 | .none=>qT .e x
 | .bool b=>qT (.b b) x
 | .int i _=>qT (.int i) x
 | .str z _=>qT (.str z) x
 | _=>false
theorem Op (r:kR y u) (f:qI y=true):rA x u=qT y x:=by
 cases y with
 | e=>cases r;rfl
 | b b=>cases r;rfl
 | int i=>obtain⟨t,rfl⟩:=r;rfl
 | str z=>obtain⟨t,rfl⟩:=r;rfl
 | _=>exact absurd (show false=true from f) bM
theorem Bw:∀ {g:Aa V}{j:Aa Ac},kY g j->g.all qI=true->j.any (rA x)=g.any λy=>qT y x
 | _,_,.nil,_=>rfl
 | y::g,u::j,.cons r t,f=>by
  rw[jG,cK] at f;rw[fU,fU,Op r f.1,Bw t f.2]
theorem As (o:kR x v) (l:qI x=true):∀ {j:Aa V}{g:Aa Ac},kY j g->j.all qI=true->∀ u∈g,SeqAt.EqAt A s u v (rA x u)
 | _,_,.nil,_=>λu a=>by cases a
 | y::j,u::g,.cons r t,f=>λb a=>by
  rw[jG,cK] at f;rcases aK.mp a with rfl | a
  .rw[Op r f.1];exact Jb r o f.1 l
  .exact As o l t f.2 b a
def zF (x:V) (g:Aa V):Bool:=g.any λy=>qT y x
def Ey (K:kM) (neg:Bool):R2:=λx y H Q=>∃ p a,y = .ref p/\(lG K H p a\/lZ K H p a)/\qI x=true/\a.all qI=true/\Q (.b (if neg then !zF x a else zF x a)) H
theorem Tq:lF X (compareOp .In) (Ey X.K false):=by
 intro f s t H x y v u Q I i m h;obtain⟨p,n,rfl,c,e,fs,q⟩:=h;cases m;rcases c with c | c
 .obtain⟨a,r,d,k⟩:=I.list c;refine SeqAt.in_listAt (rA x) d.isList (λw hw=>As i e r fs w (by simpa using hw)) ⟨.b _,H,I,rfl,?_⟩;rw[show a.toArray.any (rA x)=a.any (rA x) by simp,Bw r fs];exact q
 .obtain⟨a,r,d,k⟩:=I.tuple c;refine SeqAt.in_tupleAt (rA x) d (λw hw=>As i e r fs w (by simpa using hw)) ⟨.b _,H,I,rfl,?_⟩;rw[show a.toArray.any (rA x)=a.any (rA x) by simp,Bw r fs];exact q
theorem J5:lF X (compareOp .NotIn) (Ey X.K true):=by
 intro f s t H x y v u Q I i m h;obtain⟨p,n,rfl,c,e,fs,q⟩:=h;cases m;rcases c with c | c
 .obtain⟨a,r,d,k⟩:=I.list c;refine SeqAt.notIn_listAt (rA x) d.isList (λw hw=>As i e r fs w (by simpa using hw)) ⟨.b _,H,I,rfl,?_⟩;rw[show a.toArray.any (rA x)=a.any (rA x) by simp,Bw r fs];exact q
 .obtain⟨a,r,d,k⟩:=I.tuple c;refine SeqAt.notIn_tupleAt (rA x) d (λw hw=>As i e r fs w (by simpa using hw)) ⟨.b _,H,I,rfl,?_⟩;rw[show a.toArray.any (rA x)=a.any (rA x) by simp,Bw r fs];exact q
theorem Ui:nI X (.builtin "len") (λj H Q=>∃ p g,j=[.ref p]/\(lG X.K H p g\/lZ X.K H p g)/\Q (.int g.length) H):=by
 intro f s t H j n Q I r h;obtain⟨p,g,rfl,b,q⟩:=h;obtain⟨u,rfl,k⟩:=sZ r;cases k;have m:=wY;rcases b with b | b
 .obtain⟨c,e,d,i⟩:=I.list b;have a:=e.length;exact Calls.call_len_list d.isList (by simp only[bF]<;>omega) ⟨.int g.length,H,I.tok _,⟨s.toks+1,by rw[bF,a]⟩,q⟩
 .obtain⟨c,e,d,i⟩:=I.tuple b;have a:=e.length;exact len_tuple d (by simp only[bF]<;>omega) ⟨.int g.length,H,I.tok _,⟨s.toks+1,by rw[bF,a]⟩,q⟩
theorem Qn:nI X (.builtin "len") (λg H Q=>∃ z,g=[.str z]/\z.length<=sizeLine/\Q (.int z.length) H):=by
 intro a s e H g d Q I r h;obtain⟨z,rfl,c,q⟩:=h;obtain⟨u,rfl,t,rfl⟩:=sZ r;have b:=wY;exact len_str (by omega) ⟨.int z.length,H,I.tok _,⟨_,rfl⟩,q⟩
theorem nI.or (h:nI X f r) (j:nI X f l):nI X f (λg H Q=>r g H Q\/l g H Q):=by
 intro a s d H g c Q I b q;rcases q with q | q
 .exact h a s d H g c Q I b q
 .exact j a s d H g c Q I b q
theorem vY:nI X (.type "list") (λj H Q=>∃ p g,j=[.ref p]/\(lG X.K H p g\/lZ X.K H p g)/\∀ l,H l=none->Q (.ref l) (upd H l (.l g))):=by
 intro v s D H j E Q I r h;obtain⟨p,g,rfl,k,q⟩:=h;obtain⟨u,rfl,B⟩:=sZ r;cases B;have fin:∀ (a:Aa Ac),kY g a->g.length<=sizeLine->∀ (c:Ag) (d:Nat),(∀ b A,s.heap.get? b=some A->c.get? b=some A) ->
   c.get? s.heap.objs.size=some { cls:=.type "list",dict:=none,data:=.seq a.toArray d,slots:=#[] }->EP X v D Q (.ref s.heap.objs.size) { s with heap:=c }:=λa f m c d t e =>
  ⟨.ref s.heap.objs.size,_,I.laid (t':=s.toks) t (bD _) (show nB X.prog X.w _ c _ (.l g) from ⟨m,a,d,f,e⟩),rfl,q _ (I.hok.fresh (bD _))⟩
 rcases k with k | k
 .obtain⟨a,f,z,m⟩:=I.list k;have i:=f.length;obtain⟨o,y,x,n,hd⟩:=z.isList;exact call_list_seq p (.inl rfl) y x hd (λc d t e=>fin a f m c d t e) (by simp only[bF]<;>omega)
 .obtain⟨a,f,z,m⟩:=I.tuple k;have i:=f.length;obtain⟨o,y,x,n,hd⟩:=z;exact call_list_seq p (.inr rfl) y x hd (λc d t e=>fin a f m c d t e) (by simp only[bF]<;>omega)
theorem oZ:nI X (.type "tuple") (λj H Q=>∃ p g,j=[.ref p]/\((lG X.K H p g/\∀ l,H l=none->Q (.ref l) (upd H l (.t g)))\/(lZ X.K H p g/\Q (.ref p) H))):=by
 intro a s x H j B Q I r h;obtain⟨p,g,rfl,h⟩:=h;obtain⟨u,rfl,A⟩:=sZ r;cases A;rcases h with⟨f,q⟩ | ⟨f,q⟩
 .obtain⟨c,k,i,v⟩:=I.list f;have n:=k.length;refine call_tuple_list i.isList (λd z=>?_) (by simp only[bF]<;>omega);have m:Inv X a x H { s with heap:=d }:=I.kept (t':=s.toks) z;have y:Inv X a x (upd H d.objs.size (.t g)) { s with heap:=d.push { cls:=.type "tuple",data:=.seq c.toArray } } :=
   m.laid (t':=s.toks) (λb o e=>aE _ e) (bD _) (show nB X.prog X.w _ _ _ (.t g) from ⟨v,c,k,xK.new _ _⟩)
  exact⟨.ref d.objs.size,_,y,rfl,q _ (m.hok.fresh (bD _))⟩
 .obtain⟨c,k,i,v⟩:=I.tuple f;exact call_tuple_same i ⟨.ref p,H,I,rfl,q⟩
def Ci (K:kM) (T:String) (x:V) (H:Hp):Prop:=match x with
 | .str _=>T = "str"
 | .int _=>T = "int"
 | .ref p=>(T = "list" /\ ∃ b,lG K H p b)\/(T = "tuple" /\ ∃ o,K.lookup p=some o/\o.cls = .type "tuple" /\ o.dict=none) \/
   (T = "dict" /\ ((∃ a,Rd H p (.k a))\/∃ a,H p=some (.T a)))\/(T = "set" /\ ∃ S n,H p=some (.set S n))
 | _=>False
theorem Vw (I:Inv X j l H s) (r:kR x v) (ty:Ci X.K T x H) :
  s.TypeIs v T/\∀ a,v = .ref a->∃ g,s.heap.get? a=some g/\g.dict=none:=by
 cases x with
 | str z =>
  obtain⟨t,rfl⟩:=r;cases (show T = "str" from ty);exact⟨typeIs_str s z t,λ_ e=>nomatch e⟩
 | int i =>
  obtain⟨t,rfl⟩:=r;cases (show T = "int" from ty);exact⟨typeIs_int s i t,λ_ e=>nomatch e⟩
 | ref p =>
  cases r;rcases ty with⟨rfl,A,u⟩ | ⟨rfl,o,b,q,hd⟩ | ⟨rfl,b⟩ | ⟨rfl,S,n,b⟩
  .obtain⟨y,_,m,_⟩:=I.list u;refine⟨m.isList.typeIs,λa e=>?_⟩;cases e;obtain⟨o,n,e,c,hd,_⟩:=m;exact⟨o,e,hd⟩
  .refine⟨⟨o,I.kIn p o b,q⟩,λa e=>?_⟩;cases e;exact⟨o,I.kIn _ o b,hd⟩
  .have z:∃ o,s.heap.get? p=some o/\o.ExactDict:=by
    rcases b with⟨f,b⟩ | ⟨f,b⟩
    .obtain⟨_,_,_,_,o,_,_,e,d,_⟩:=(show nB X.prog X.w H s.heap p (.k f) from Rd.ok b I.hok);exact⟨o,e,d⟩
    .obtain⟨_,_,_,_,o,_,_,e,d,_⟩:=I.hok p _ b;exact⟨o,e,d⟩
   obtain⟨o,e,d⟩:=z;refine⟨⟨o,e,d.1⟩,λa h=>?_⟩;cases h;exact⟨o,e,d.2.1⟩
  .obtain⟨o,_,_,_,e,d,_⟩:=I.hok p _ b;refine⟨⟨o,e,d.1⟩,λa h=>?_⟩;cases h;exact⟨o,e,d.2.1⟩
 | _=>exact False.elim ty
def Zd (K:kM) (T:String) (r:V->Aa V->Hp->VK->Prop) (g:TE) (t:TA):TE:=λb H Q=>g b H λx a=>Ci K T x a/\t b a λd c=>r x d c Q
variable {id:String}
structure MtB (X:Cx) (o:Expr) (name:Str) (apos:Pos) (e:Expr) (es:List Expr) (cpos:Pos):Prop extends StB X e es cpos where
 c:attributeBase o name X.env (eval o X.env)=eval o X.env:=by rfl
 d:((backTo cpos (starEach (e::es) X.env)).all (λx=>!x.1)&&(backToKw cpos (keywordEach [] X.env)).all (λx=>x.1.isSome)&&decide ((e::es).length+([]:List Keyword).length+(if ([]:List Keyword).isEmpty then 0 else 1)<30))=true:=by rfl
 f:(apos.endLine == cpos.line)=true:=by rfl
theorem CO (pa:PlainAttrs T) (slot:Slot T name id) (p:typeOf (.builtin id)=pure (.type "method_descriptor")) (J:E5 X id r) (U:PE X o to) (C:PA X (e::l) t)
  (j:MtB X o name apos e l g:=by exact {}) :
  PE X (.Call (.Attribute o name apos) (e::l) [] g) (Zd X.K T r to t):=by
 intro i s m H Q I h;refine wpAny_Call_method_late j.c j.d j.f rfl (kT (U i s m H _ I h) λv G k=>?_);obtain⟨x,w,n,u,ty,D⟩:=k;obtain⟨A,B⟩:=Vw n u ty;refine⟨T,id,pa,slot,p,A,B,?_⟩;have q:=C g i G m w _ n D;rw[j.a] at q |-;refine gY (by show (false||(backTo g (starEach l X.env)).any (·.1))=false;rw[j.b]<;>rfl) (jH ?_);exact kT q λM L ⟨N,y,z,F,E⟩=>J i L m y x N v M Q z u F E
/- xs.append(e),list.index on a module's tuple .. are E5 facts of 06m -/
end
def Hg (X:Cx) (id:String) (r:V->Aa V->Hp->VK->Prop):Prop :=
 ∀ (a:Aa (Ad×Obj)) (s:Ae) (d:St) (H:Hp) (x:V) (c:Aa V) (v:Ac) (b:Aa Ac) (Q:VK),Inv X a d H s->kR x v->kY c b->r x c H Q ->
  wpAny (model X.prog X.w) X.A (call (.builtin id) (v::b)) (EP X a d Q) X.xe s
theorem kY.one:∀ {x:V}{g:Aa Ac},kY [x] g->∃ u,g=[u]/\kR x u
 | _,_,.cons r .nil=>⟨_,rfl,r⟩
theorem kY.eraseIdx:∀ {j:Aa V}{g:Aa Ac}(i:Nat),kY j g->kY (j.eraseIdx i) (g.eraseIdx i)
 | _,_,_,.nil=>.nil
 | _,_,0,.cons _ t=>t
 | _,_,i+1,.cons r t=>.cons r (kY.eraseIdx i t)
theorem kY.rep (h:kY j g):∀ k:Nat,kY (List.replicate k j).flatten (List.replicate k g).flatten
 | 0=>.nil
 | k+1=>by
  rw[cX,cX,gG,gG];exact kY.append h (kY.rep h k)
theorem Hy:∀ (l:Aa g) (i:Nat),(l.eraseIdx i).length<=l.length
 | [],_=>bD _
 | _::_,0=>gH _
 | _::r,i+1=>jD (Hy r i)
theorem N4 (j:Aa Ac):∀ (k:Nat) (g:Aa Ac),
  List.foldl (λl o=>l++o) g.toArray (List.replicate k j.toArray)=(g++(List.replicate k j).flatten).toArray
 | 0,g=>by simp
 | k+1,g=>by
  have e:g.toArray++j.toArray=(g++j).toArray:=by simp
  have a:(g++j)++(List.replicate k j).flatten=g++(List.replicate (k+1) j).flatten:=by
   rw[cX,gG,bK]
  rw[<- a,<- N4 j k (g++j),<- e,cX,List.foldl_cons]
section
variable {X:Cx}
theorem Inv.lset {g:Aa Ac}(I:Inv X j T H s) (p:H l=some (.l xs))
  (e:s.heap.get? l=some { cls:=.type "list",data:=.seq g.toArray n }) (r:f g.toArray=its'.toArray) (C:kY o its') (J:o.length<=sizeLine) :
  Inv X j T (upd H l (.l o)) { s with heap:=s.heap.update l (Obj.mapSeq f),toks:=U }:=by
 have q:=PySem.IsL.update e f;rw[r] at q;refine I.write (x:=l) (e:=l) (by rw[p];exact trivial) (.inl rfl) (λc u a b=>(cY s.heap (Obj.mapSeq f) (eZ a)).trans b) ⟨_,q⟩ ?_;exact⟨J,its',_,C,q⟩
theorem Inv.lnew (I:Inv X g p H s) (j:kY ys its) (o:ys.length<=sizeLine) :
  Inv X g p (upd H s.heap.objs.size (.l ys)) { s with heap:=s.heap.push { cls:=.type "list",data:=.seq its.toArray },toks:=t' } :=
 I.laid (λ_ _ q=>aE _ q) (bD _) ⟨o,its,0,j,bL _ rfl⟩
theorem Inv.fresh (I:Inv X g j H s):H s.heap.objs.size=none:=I.hok.fresh (bD _)
theorem Inv.lstM (I:Inv X o C H s) (p:H l=some (.l j)):j.length<=sizeLine/\∃ (g:Aa Ac) (n:Nat),kY j g/\j.length=g.length/\s.heap.get? l=some { cls:=.type "list",data:=.seq g.toArray n }:=by
 obtain⟨z,g,n,r,e⟩:=I.hok l _ p;exact⟨z,g,n,r,r.length,e⟩
theorem Zk (h:n<=sizeLine):Builtin.List.listTooLong n=false:=by
 unfold Builtin.List.listTooLong;exact aQ (by omega)
end
section
variable {X:Cx}
def Pj:V->Aa V->Hp->VK->Prop:=λx b H Q=>∃ l a y,x = .ref l/\b=[y]/\H l=some (.l a)/\a.length<sizeLine/\Q .e (upd H l (.l (a++[y])))
theorem uI:Hg X "list.append" Pj:=by
 intro c s B H x w v t Q I i f h;obtain⟨l,A,y,rfl,rfl,b,m,q⟩:=h;cases i;obtain⟨u,rfl,d⟩:=f.one;obtain⟨z,a,n,r,k,e⟩:=I.lstM b;refine jO F.slot_list_append ⟨_,e,rfl⟩ F.entry_list_append (F.args_list_append_2 _ _) (PySem.list_append l a.toArray n u (by rw[bF];omega)) ⟨e,?_⟩;refine⟨.e,_,I.lset (its':=a++[u]) b e (by simp) (r.append (.cons d .nil)) ?_,rfl,q⟩;rw[aD,List.length_singleton];omega
def GP:V->Aa V->Hp->VK->Prop:=λx d H Q=>∃ l b a c,x = .ref l/\d=[.ref b]/\H l=some (.l a)/\H b=some (.l c)/\a.length+c.length<=sizeLine/\Q .e (upd H l (.l (a++c)))
def J2:V->Aa V->Hp->VK->Prop:=λx b H Q=>∃ l a i k y,x = .ref l/\b=[.int i]/\H l=some (.l a)/\-(2 ^ 63)<=i/\i<2 ^ 63/\seqIndex? i a.length=some k/\a[k]?=some y/\Q y (upd H l (.l (a.eraseIdx k)))
theorem Nt:Hg X "list.pop" J2:=by
 intro d s O H x N v M Q I K G h;obtain⟨l,L,i,k,y,rfl,rfl,c,f,m,A,D,q⟩:=h;cases K;obtain⟨u,rfl,E⟩:=G.one;obtain⟨t,rfl⟩:=E;obtain⟨z,a,n,r,B,e⟩:=I.lstM c;obtain⟨w,hw,b⟩:=r.get D;refine jO F.slot_list_pop ⟨_,e,rfl⟩ F.entry_list_pop (F.args_list_pop_2 _ _)
  (MeetsSeq.list_pop_at l a.toArray n i t k w (fitsIndex_both f m) (by rw[bF,<- B];exact A) (by rw[<- eP];exact hw) (by rw[bF];omega)) ⟨e,?_⟩
 refine⟨y,_,I.lset (its':=a.eraseIdx k) c e ?_ (r.eraseIdx k) ?_,b,q⟩
 .show a.toArray.eraseIdxIfInBounds k=(a.eraseIdx k).toArray;rw[iX]
 .have:=Hy L k;omega
def Pb:R2:=λx y H Q=>∃ l b a c,x = .ref l/\y = .ref b/\H l=some (.l a)/\H b=some (.l c)/\a.length+c.length<=sizeLine/\∀ p,H p=none->Q (.ref p) (upd H p (.l (a++c)))
theorem Ya:lF X (binaryOp .Add) Pb:=by
 intro d s M H x y v u Q I A B h;obtain⟨l,b,G,L,rfl,rfl,m,k,E,q⟩:=h;cases A;cases B;obtain⟨z,c,n,r,D,e⟩:=I.lstM m;obtain⟨K,a,F,w,t,f⟩:=I.lstM k;refine PySem.P.add_list e f ?_ (by rw[bF,bF];omega);have i:c.toArray++a.toArray=(c++a).toArray:=by simp
 rw[i];exact⟨.ref _,_,I.lnew (t':=s.toks) (r.append w) (by rw[aD];omega),rfl,q _ I.fresh⟩
def Oy:R2:=λx y H Q=>∃ l k a,x = .ref l/\y = .int k/\H l=some (.l a)/\-(2 ^ 63)<=k/\k<2 ^ 63/\a.length*k.toNat<=sizeLine /\
 ∀ p,H p=none->Q (.ref p) (upd H p (.l (List.replicate k.toNat a).flatten))
theorem CF (g:Aa j) (k:Nat):(List.replicate k g).flatten.length=k*g.length:=by
 induction k with
 | zero=>simp
 | succ k a=>rw[cX,gG,aD,a,Nat.succ_mul,Nat.add_comm]
theorem Wv:lF X (binaryOp .Mult) Oy:=by
 intro E s W H x y v u Q I O P h;obtain⟨l,k,V,rfl,rfl,M,K,L,D,q⟩:=h;cases O;obtain⟨t,rfl⟩:=P;obtain⟨z,b,n,r,N,e⟩:=I.lstM M;have i:b.toArray.size*k.toNat<=sizeLine:=by rw[bF,<- N];exact D
 have d:¬ b.toArray.size*k.toNat>(2 ^ 63-1)/8:=by
  have:(sizeLine:Nat)<=(2 ^ 63-1)/8:=by decide
  omega
 have f:¬ (!Builtin.List.listFitsIndex k)=true:=by
  rw[fitsIndex_both K L];exact bM
 have c:¬ Builtin.List.listTooLong (b.toArray.size*k.toNat)=true:=by
  rw[Zk i];exact bM
 have w:List.foldl (λA B=>A++B) #[] (List.replicate (if b.toArray.isEmpty=true then 0 else k.toNat) b.toArray)=(List.replicate k.toNat b).flatten.toArray:=by
  have G:∀ m:Nat,List.foldl (λA B=>A++B) #[] (List.replicate m b.toArray)=(List.replicate m b).flatten.toArray:=λm=>by
   have:=N4 b m [];rw[fM] at this;exact this
  rw[G];cases b with
  | nil=>simp
  | cons a S=>rw[aL (by simp)]
 refine wpAny_binaryOp_repeat_ref (T := "list") (U := "int") (by decide) ⟨_,e,rfl⟩ (λR=>typeIs_int R k t) noFill_list_mul F.fills_int_mul F.slot_int_rmul repeat_list F.slot_int_index.lookup
  (jO F.slot_int_rmul (typeIs_int s k t) F.entry_int_rmul (F.args_int_rmul_2 _ _) (int___rmul___int_list k t l b.toArray n) ⟨e,rfl,⟨_,e,rfl⟩,jO F.slot_list_mul ⟨_,e,rfl⟩ F.entry_list_mul (F.args_list_mul_2 _ _) (AutoListH.list___mul___list_int_3 l b.toArray n k t f d c) ⟨e,?_⟩⟩)
 rw[w];exact⟨.ref _,_,I.lnew (t':=s.toks) (r.rep k.toNat) (by rw[CF,Nat.mul_comm];exact D),rfl,q _ I.fresh⟩
end
section
variable [DecidableEq κ]
noncomputable def pN (g:Aa (κ×V)) (k:κ):Ab V:=(g.find? λa=>decide (a.1=k)).map (·.2)
noncomputable def pR (g:Aa (κ×V)) (k:κ) (v:V):Aa (κ×V) :=
 if (g.any λa=>decide (a.1=k))=true then g.map (λa=>if a.1=k then (a.1,v) else a) else g++[(k,v)]
theorem tH {p:κ×V}{r:Aa (κ×V)}{k:κ}(e:p.1=k):pN (p::r) k=some p.2:=by simp[pN,dQ,e]
theorem sY {p:κ×V}{r:Aa (κ×V)}{k:κ}(e:¬ p.1=k):pN (p::r) k=pN r k:=by simp[pN,dQ,e]
theorem O9 (k:κ):∀ g:Aa (κ×V),(g.any λj=>decide (j.1=k))=(pN g k).isSome
 | []=>rfl
 | p::r=>by
  rw[fU];by_cases e:p.1=k
  .simp only[tH e,aX e,Bool.true_or,jQ]
  .rw[sY e,aQ e,Bool.false_or];exact O9 k r
theorem Fs (g:Aa (κ×V)) (k:κ) (v:V):(pR g k v).length<=g.length+1:=by
 unfold pR;split
 .rw[aA];omega
 .rw[aD,cQ,cS];omega
theorem sU.isSome_eq (r:sU o u):o.isSome=u.isSome:=by
 cases o with
 | none=>cases u with
  | none=>rfl
  | some _=>exact (show False from r).elim
 | some _=>cases u with
  | none=>exact (show False from r).elim
  | some _=>rfl
theorem sU.getD (r:sU o u) (rd:kR d g):kR (o.getD d) (u.getD g):=by
 cases o with
 | none=>cases u with
  | none=>exact rd
  | some _=>exact (show False from r).elim
 | some _=>cases u with
  | none=>exact (show False from r).elim
  | some _=>exact r
theorem KV.val (r:KV g j) (k:κ):sU (pN g k) (valueAt j k):=by
 unfold KV at r;induction r with
 | nil=>exact True.intro
 | @cons p q m c h t i =>
  obtain⟨d,f⟩:=h;by_cases e:p.1=k
  .have a:q.1=k:=d.symm.trans e;have b:valueAt (q::c) k=some q.2:=by simp[valueAt,dQ,a]
   rw[tH e,b];exact f
  .have a:¬ q.1=k:=λz=>e (d.trans z)
   have b:valueAt (q::c) k=valueAt c k:=by simp[valueAt,dQ,a]
   rw[sY e,b];exact i
theorem KV.any (r:KV j l) (k:κ):(j.any λg=>decide (g.1=k))=l.any λg=>decide (g.1=k):=by
 unfold KV at r;induction r with
 | nil=>rfl
 | cons h t a=>rw[fU,fU,a,h.1]
theorem KV.repl (r:KV j o) (k:κ) (l:kR y u) :
  KV (j.map λg=>if g.1=k then (g.1,y) else g) (o.map λg=>if g.1=k then (g.1,u) else g):=by
 unfold KV at r |-;induction r with
 | nil=>exact .nil
 | @cons p q d f h t c =>
  rw[aW,aW];refine .cons ?_ c;obtain⟨a,b⟩:=h;by_cases e:p.1=k
  .rw[aU e,aU (a.symm.trans e)];exact⟨a,l⟩
  .rw[aL e,aL (λz=>e (a.trans z))];exact⟨a,b⟩
theorem KV.put (r:KV g l) (k:κ) (j:kR y u):KV (pR g k y) (stored l k u):=by
 unfold pR stored;rw[r.any k];by_cases e:(l.any λa=>decide (a.1=k))=true
 .rw[aU e,aU e];exact r.repl k j
 .rw[aL e,aL e];exact Paired.snoc r ⟨rfl,j⟩
theorem KV.length (r:KV g j):g.length=j.length:=fR r
end
theorem vR {P:Ah}(r:kR (kV k) u):(oA P w).is k u=true:=by
 cases k with
 | inl i=>obtain⟨t,e⟩:=(show ∃ t,u=Value.int i t from r);subst e;exact DO P w i t
 | inr x=>obtain⟨t,e⟩:=(show ∃ t,u=Value.str x t from r);subst e;exact N3 P w x t
theorem Mv {P:Ah}:∀ {g:Aa gV}{j:Aa Ac},kY (g.map kV) j->ItemsAre (oA P w) g j
 | [],_,r=>by rw[gI] at r;cases r;exact .nil
 | k::g,_,r=>by
  rw[aW] at r;cases r with
  | cons h t=>exact .cons (vR h) (Mv t)
abbrev KT (H:Hp):Aa (Aa gV×V)->Aa (Aa gV×Ad×Ac)->Prop:=Paired λp q=>p.1=q.1/\H q.2.1=some (.t (p.1.map kV))/\kR p.2 q.2.2
theorem KT.val (r:KT H g j) (k:Aa gV):sU (pN g k) ((atKey j k).map (·.2)):=by
 induction r with
 | nil=>exact True.intro
 | @cons p q m c h t i =>
  obtain⟨d,_,f⟩:=h;by_cases e:p.1=k
  .have a:q.1=k:=d.symm.trans e;have b:atKey (q::c) k=some q.2:=by simp[atKey,dQ,a]
   rw[tH e,b];exact f
  .have a:¬ q.1=k:=λz=>e (d.trans z)
   have b:atKey (q::c) k=atKey c k:=by simp[atKey,dQ,a]
   rw[sY e,b];exact i
theorem KT.repl (r:KT H j o) (k:Aa gV) (l:kR y u) :
  KT H (j.map λg=>if g.1=k then (g.1,y) else g) (o.map (putAt k u)):=by
 induction r with
 | nil=>exact .nil
 | @cons p q f i h t d =>
  rw[aW,aW];refine .cons ?_ d;obtain⟨a,b,c⟩:=h;unfold putAt;by_cases e:p.1=k
  .rw[aU e,aU (a.symm.trans e)];exact⟨a,b,l⟩
  .rw[aL e,aL (λz=>e (a.trans z))];exact⟨a,b,c⟩
theorem KT.put (r:KT H g j) (k:Aa gV) (o:H b=some (.t (k.map kV))) (l:kR y u) :
  KT H (pR g k y) (storedH j k b u):=by
 have e:(g.any λa=>decide (a.1=k))=(atKey j k).isSome:=by
  rw[O9,(r.val k).isSome_eq,jU]
 unfold pR storedH;rw[e];by_cases q:(atKey j k).isSome=true
 .rw[aU q,aU q];exact r.repl k l
 .rw[aL q,aL q];exact Paired.snoc r ⟨rfl,o,l⟩
theorem KT.keeps (r:KT H g p) (o:∀ b j,H b=some (.t j)->l b=some (.t j)):KT l g p :=
 Paired.mapP r λ_ _ z=>⟨z.1,o _ _ z.2.1,z.2.2⟩
section
variable {P:Ah}
theorem Ph (ok:nA P w H h) (e:Rd H a u):nB P w H h a u:=e.ok ok
theorem rP (ok:nA P w H h) (e:Rd H a (.k g)):g.length<=sizeLine/\(a == sysModules)=false/\∃ j,KV g j/\h.DictOf (oA P w) a j :=
 show nB P w H h a (.k g) from Ph ok e
theorem Iu (ok:nA P w H h) (e:H a=some (.k g)):g.length<=sizeLine/\(a == sysModules)=false/\∃ j,KV g j/\h.DictOf (oA P w) a j:=rP ok (.inl e)
theorem yP (ok:nA P w H h) (e:H a=some (.t (g.map kV))):(tupleKind (oA P w)).is h g a:=by
 obtain⟨_,b,r,⟨o,c,d,n,f⟩,_⟩:=(show nB P w H h a (.t (g.map kV)) from ok a _ e);exact⟨o,b.toArray,n,c,d,f,by simpa using Mv r⟩
theorem xT (ok:nA P w H h) (e:Rd H a (.T g)):g.length<=sizeLine/\(a == sysModules)=false /\
  ∃ j,KT H g j/\h.DictOfH (tupleKind (oA P w)) a j:=by
 obtain⟨z,y,j,r,o,f,d,i,k,n,s,u⟩:=(show nB P w H h a (.T g) from Ph ok e);refine⟨z,y,j,r,o,f,d,i,k,n,s,λx b=>?_,u⟩;have all:∀ {l:Aa (Aa gV×V)} {m:Aa (Aa gV×Ad×Ac)},KT H l m->∀ x∈m,(tupleKind (oA P w)).is h x.1 x.2.1:=by
  intro l m q;induction q with
  | nil=>intro x b;exact nomatch b
  | @cons p q A B c t v =>
   intro x b;rcases aK.mp b with e | b
   .subst e;exact yP ok (by rw[<- c.1];exact c.2.1)
   .exact v x b
 exact all r x b
theorem Ub (ok:nA P w H h) (e:H a=some (.T g)):g.length<=sizeLine/\(a == sysModules)=false /\
  ∃ j,KT H g j/\h.DictOfH (tupleKind (oA P w)) a j:=xT ok (.inl e)
end
def vA (H:Hp) (a:Ad) (y:V) (r:Ab V):Prop :=
 (∃ c k,Rd H a (.k c)/\y=kV k/\r=pN c k)\/∃ c k b,Rd H a (.T c)/\y = .ref b/\H b=some (.t (k.map kV))/\r=pN c k
def wQ (H:Hp) (a:Ad) (y v:V) (g:Hp):Prop :=
 (∃ c k,H a=some (.k c)/\y=kV k/\c.length<sizeLine/\g=upd H a (.k (pR c k v))) \/
 ∃ c k b,H a=some (.T c)/\y = .ref b/\H b=some (.t (k.map kV))/\c.length<sizeLine/\g=upd H a (.T (pR c k v))
theorem wQ.k {k:gV}(e:H a=some (.k g)) (j:g.length<sizeLine):wQ H a (kV k) v (upd H a (.k (pR g k v))):=.inl ⟨g,k,e,rfl,j,rfl⟩
theorem wQ.t {H:Hp}{a b:Ad}{g:Aa (Aa gV×V)}{k:Aa gV}{v:V}(e:H a=some (.T g)) (j:H b=some (.t (k.map kV))) (l:g.length<sizeLine) :
  wQ H a (.ref b) v (upd H a (.T (pR g k v))):=.inr ⟨g,k,b,e,rfl,j,l,rfl⟩
section
variable {X:Cx}
theorem Inv.big (I:Inv X g j H s):sysModules<s.heap.objs.size:=by
 have h:mainGlobals<s.heap.objs.size:=(I.mod.glob.keeps I.bk).lt;exact kA (by decide) h
theorem BZ (T:A.units+1<cLine) (I:Inv X r U H s) (g:vA H a y (some v)) (C:kR y u) (h:∀ j J,Inv X r U H J->kR v j->Q j J) :
  wpAny (model X.prog X.w) A (getItem (.ref a) u) Q E s:=by
 rcases g with⟨m,k,e,f,l⟩ | ⟨m,k,b,e,f,n,l⟩
 .subst f;obtain⟨z,hd,t,rel,d⟩:=rP I.hok e;obtain⟨j,hw,c⟩:=sU.some_of (v:=v) (o:=valueAt t k) (by rw[l];exact rel.val k);exact wpAny_getItem_of (vR C) d.mapOf hw (h j _ (I.tok _) c)
 .subst f;cases (show u=Value.ref b from C);obtain⟨z,hd,x,rel,d⟩:=xT I.hok e;obtain⟨j,hw,c⟩:=sU.some_of (v:=v) (o:=(atKey x k).map (·.2)) (by rw[l];exact rel.val k);obtain⟨p,q,i⟩:=cL.mp hw;refine wpAny_getItem_heap (gZ T) (yP I.hok n) d q ?_;rw[i];exact h j _ (I.tok _) c
theorem EN (C:A.units+1<cLine) (I:Inv X j J H s) (g:vA H a y o) (p:kR y u) (h:∀ r,Inv X j J H r->Q (.bool o.isSome) r) :
  wpAny (model X.prog X.w) A (compareOp .In u (.ref a)) Q E s:=by
 rcases g with⟨f,k,e,d,l⟩ | ⟨f,k,b,e,d,i,l⟩
 .subst d;obtain⟨z,hd,m,rel,c⟩:=rP I.hok e;refine wpAny_in_of (vR p) hd c.mapOf ?_;rw[<- (rel.val k).isSome_eq,<- l];exact h _ (I.tok _)
 .subst d;cases (show u=Value.ref b from p);obtain⟨z,hd,n,rel,c⟩:=xT I.hok e;refine wpAny_in_heap (gZ C) (yP I.hok i) hd c ?_;have q:=(rel.val k).isSome_eq;rw[jU] at q;rw[<- q,<- l];exact h _ (I.tok _)
theorem DH (C:A.units+1<cLine) (I:Inv X j J H s) (g:vA H a y o) (p:kR y u) (h:∀ r,Inv X j J H r->Q (.bool (!o.isSome)) r) :
  wpAny (model X.prog X.w) A (compareOp .NotIn u (.ref a)) Q E s:=by
 rcases g with⟨f,k,e,d,l⟩ | ⟨f,k,b,e,d,i,l⟩
 .subst d;obtain⟨z,hd,m,rel,c⟩:=rP I.hok e;refine wpAny_notIn_of (vR p) hd c.mapOf ?_;rw[<- (rel.val k).isSome_eq,<- l];exact h _ (I.tok _)
 .subst d;cases (show u=Value.ref b from p);obtain⟨z,hd,n,rel,c⟩:=xT I.hok e;refine wpAny_notIn_heap (gZ C) (yP I.hok i) hd c ?_;have q:=(rel.val k).isSome_eq;rw[jU] at q;rw[<- q,<- l];exact h _ (I.tok _)
theorem Dh (I:Inv X g C H s) (r:A2 (H a)) (p:Heap.SameBut a s.heap j) (o:∃ q,j.get? a=some q) (new:nB X.prog X.w (upd H a l) j a l) :
  Inv X g C (upd H a l) { s with heap:=j,toks:=J } :=
 I.write (x:=a) (e:=a) r (.inl rfl) (λb q c z=>(p.2 b c).trans z) o new
theorem B2 {P:Ah}(z:g.length<=sizeLine) (hd:(a == sysModules)=false) (rel:KV g j) (l:o.DictOf (oA P w) a j) :
  nB P w p o a (.k g):=⟨z,hd,j,rel,l⟩
theorem AO (T:A.units+1<cLine) (I:Inv X j U H s) (g:wQ H a y v J) (p:kR y u) (o:kR v r) (h:∀ C,Inv X j U J C->Q () C) :
  wpAny (model X.prog X.w) A (setItem (.ref a) u r) Q E s:=by
 rcases g with⟨d,k,e,t,l,n⟩ | ⟨d,k,b,e,t,F,l,n⟩
 .subst t n;obtain⟨z,hd,V,rel,m⟩:=Iu I.hok e;have D:V.length<=sizeLine:=by rw[<- rel.length];exact z
  have x:(pR d k v).length<=sizeLine:=by have:=Fs d k v;omega
  refine wpAny_setItem_pairs (hsz:=D) (vR p) m λK f B=>h _ ?_
  have S:∃ q,K.get? a=some q:=let ⟨q,_,_,i,_⟩:=f;⟨q,i⟩;exact Dh I (by rw[e];exact True.intro) B S (B2 x hd (rel.put k o) f)
 .subst t n;cases (show u=Value.ref b from p);obtain⟨z,hd,W,rel,m⟩:=Ub I.hok e;have D:W.length<=sizeLine:=by rw[<- fR rel];exact z
  have x:(pR d k v).length<=sizeLine:=by have:=Fs d k v;omega
  refine wpAny_setItem_heap (hsz:=D) (gZ T) (yP I.hok F) m λK f B=>h _ ?_
  obtain⟨q,M,L,i,N,O,P,_,R⟩:=f;refine Dh I (by rw[e];exact True.intro) B ⟨q,i⟩ ⟨x,hd,_,(rel.put k F o).keeps λc Y G=>?_,q,M,L,i,N,O,P,R⟩;rw[kX (CD G e (λz=>nomatch z))];exact G
end
section
variable {X:Cx}
theorem GI (I:Inv X g o H s) (e:Rd H a (.k j)) (h:∀ t l,Inv X g o H l->Q (.int j.length t) l):wpAny (model X.prog X.w) A (call (.builtin "len") [.ref a]) Q E s:=by
 obtain⟨z,hd,c,rel,b⟩:=rP I.hok e;refine call_len_dict hd b (by rw[<- rel.length];rw[jT] at z;omega) ?_;rw[<- rel.length];exact h _ _ (I.tok _)
end
theorem Qi {X:Cx}(I:Inv X j l H s) (g:vA H a y o):s.TypeIs (.ref a) "dict" := by
 rcases g with⟨d,k,e,_,_⟩ | ⟨d,k,b,e,_,_,_⟩
 .obtain⟨_,_,f,_,c⟩:=rP I.hok e;exact c.typeIs
 .obtain⟨_,_,h,_,c⟩:=xT I.hok e;exact c.typeIs
theorem Qu {P:Ah}(h:Ag) (g:sysModules<h.objs.size):nB P w H (h.push { cls:=.type "dict",data:=.dict #[] }) h.objs.size (.k []) :=
 ⟨fV _,dJ.mpr (eZ (cD g)),[],.nil,Heap.DictOf.new h⟩
def S1:TE:=λ_ H Q=>∀ p,H p=none->Q (.ref p) (upd H p (.k []))
section
variable {X:Cx}
theorem Wh:PE X (.Dict [] [] pos) S1:=λb s c H Q I h =>
 wpAny_Dict_empty ⟨.ref s.heap.objs.size,_,I.laid (a:=s.heap.objs.size) (o:=.k []) (t':=s.toks) (λ_ _ q=>aE _ q) (bD _) (Qu s.heap I.big),rfl,h _ (I.hok.fresh (bD _))⟩
end
def Bi:Aa (TE×TE)->St->Hp->(Aa (V×V)->Hp->Prop)->Prop
 | [],_,H,Q=>Q [] H
 | (f,h)::r,a,H,Q=>f a H λx b=>h a b λy c=>Bi r a c λe d=>Q ((x,y)::e) d
abbrev VV:Aa (V×V)->Aa (Ac×Ac)->Prop:=Paired λp q=>kR p.1 q.1/\kR p.2 q.2
def Aq (X:Cx) (pos:Pos) (keys:Aa (Ab Expr)) (values:Aa Expr) (g:Aa (TE×TE)):Prop :=
 ∀ (a:Aa (Ad×Obj)) (s:Ae) (b:St) (H:Hp) (Q:Aa (V×V)->Hp->Prop),Inv X a b H s->Bi g b H Q ->
  wpAny (model X.prog X.w) X.A (evalPairs (pairTrees keys values X.env pos)) (λf e=>∃ d c,Inv X a b c e/\VV d f/\Q d c) X.xe s
theorem R6 {X:Cx}:Aq X pos [] [] []:=λa s b H Q I h=>pairTrees_nil_walk ⟨[],H,I,.nil,h⟩
theorem Cb {X:Cx}(j:PE X k r) (o:PE X v C) (l:Aq X pos p J g) :
  Aq X pos (some k::p) (v::J) ((r,C)::g):=λa s b H Q I h =>
 pairTrees_cons_walk (kT (j a s b H _ I h) λu B ⟨x,c,f,z,q⟩=>kT (o a B b c _ f q) λF D ⟨y,d,i,A,t⟩ =>kT (l a D b d _ i t) λG E ⟨n,e,m,rel,w⟩=>⟨(x,y)::n,e,m,.cons ⟨z,A⟩ rel,w⟩)
def qS (g more:Aa (gV×V)):Aa (gV×V):=more.foldl (λa b=>pR a b.1 b.2) g
theorem KV.merge:∀ {more:Aa (gV×V)}{l:Aa (gV×Ac)}{g:Aa (gV×V)}{j:Aa (gV×Ac)},KV more l->KV g j->KV (qS g more) (merged j l):=by
 intro more l g j r;unfold KV at r;induction r generalizing g j with
 | nil=>intro q;exact q
 | @cons p q c d h t a =>
  intro b;have e:KV (pR g p.1 p.2) (stored j q.1 q.2):=by
   have:=b.put p.1 h.2;rw[<- h.1];exact this
  exact a e
theorem Eg:∀ (more g:Aa (gV×V)),(qS g more).length<=g.length+more.length
 | [],g=>by show g.length<=g.length+0;omega
 | p::r,g=>by
  have a:=Eg r (pR g p.1 p.2);have b:=Fs g p.1 p.2;show (qS (pR g p.1 p.2) r).length<=_;rw[cQ];omega
theorem Kq {P:Ah}:∀ {g:Aa (gV×V)}{o:Aa (Ac×Ac)},VV (g.map λl=>(kV l.1,l.2)) o->∃ j,Carries (oA P w) o j/\KV g j
 | [],_,r=>by rw[gI] at r;cases r;exact⟨[],True.intro,.nil⟩
 | p::g,_,r=>by
  rw[aW] at r;cases r with
  | @cons a b as bs h t =>
   obtain⟨j,c,q⟩:=Kq (P:=P) (w:=w) t;obtain⟨e,d⟩:=b;exact⟨(p.1,d)::j,⟨vR h.1,rfl,c⟩,.cons ⟨rfl,h.2⟩ q⟩
def U1 (g:Aa (TE×TE)):TE:=λe H Q=>∀ p,H p=none->Bi g e (upd H p (.k [])) λd b=>b p=some (.k [])/\∃ a:Aa (gV×V),d=a.map (λc=>(kV c.1,c.2))/\a.length<=15/\Q (.ref p) (upd b p (.k (qS [] a)))
theorem FD {X:Cx}(h:Aq X pos keys values l) (g:keys.all (·.isSome)=true) (r:keys.length=values.length) (p:keys≠[])
  (j:keys.length<=15):PE X (.Dict keys values pos) (U1 l):=by
 intro f s N H Q I q;have A:=I.hok.fresh (bD s.heap.objs.size);have n:=I.laid (a:=s.heap.objs.size) (o:=.k []) (h':=s.heap.push { cls:=.type "dict",data:=.dict #[] }) (t':=s.toks) (λ_ _ q=>aE _ q) (bD _) (Qu s.heap I.big);refine wpAny_Dict_walk (knd:=oA X.prog X.w) g r p j (kT (h f _ N _ _ n (q _ A)) λW V i=>?_);obtain⟨S,O,m,rel,e,d,u,R,F⟩:=i;subst u;obtain⟨L,c,K⟩:=Kq (P:=X.prog) (w:=X.w) rel;obtain⟨z,hd,M,G,t⟩:=Iu m.hok e;cases G;refine⟨L,c,t,λv b D=>⟨.ref s.heap.objs.size,_,?_,rfl,F⟩⟩;have E:(qS [] d).length<=sizeLine:=by
  have x:=Eg d [];rw[cS] at x;rw[jT];omega
 have y:∃ q,v.get? s.heap.objs.size=some q:=let ⟨q,_,_,B,_⟩:=b;⟨q,B⟩;exact Dh m (by rw[e];exact True.intro) D y (B2 E hd (K.merge .nil) b)
structure M2 (X:Cx) (o:Expr) (m:Str) (apos:Pos) (e f:Expr) (cpos:Pos):Prop where
 base:attributeBase o m X.env (eval o X.env)=eval o X.env
 few:((backTo cpos (starEach [e,f] X.env)).all (λx=>!x.1)&&(backToKw cpos (keywordEach [] X.env)).all (λx=>x.1.isSome) && decide (([e,f]:List Expr).length+([]:List Keyword).length+(if ([]:List Keyword).isEmpty then 0 else 1)<30))=true
 line:(apos.endLine == cpos.line)=true
 trees:backTo cpos (starEach [e,f] X.env)=[(false,eval e X.env),(false,eval f X.env)]
def Hi (H:Hp) (a:Ad):Prop:=(∃ b,Rd H a (.k b))\/∃ b,Rd H a (.T b)
theorem Uo {X:Cx}(I:Inv X j l H s) (d:Hi H a) :
  s.TypeIs (.ref a) "dict" /\ (∀ b,Value.ref a = .ref b->∃ g,s.heap.get? b=some g/\g.dict=none)/\(a == sysModules)=false:=by
 rcases d with⟨i,e⟩ | ⟨i,e⟩
 .obtain⟨_,hd,k,_,c⟩:=rP I.hok e;refine⟨c.typeIs,λb q=>?_,hd⟩;cases q;obtain⟨g,_,_,f,h,_⟩:=c;exact⟨g,f,h.2.1⟩
 .obtain⟨_,hd,m,_,c⟩:=xT I.hok e;refine⟨c.typeIs,λb q=>?_,hd⟩;cases q;obtain⟨g,_,_,f,h,_⟩:=c;exact⟨g,f,h.2.1⟩
section
variable {X:Cx}
theorem BF (T:A.units+1<cLine) (I:Inv X j U H s) (g:vA H a y o) (p:kR y u) (rd:kR d r) (h:∀ J C,Inv X j U H C->kR (o.getD d) J->Q J C) :
  wpAny (model X.prog X.w) A (call (.builtin "dict.get") [.ref a,u,r]) Q E s:=by
 rcases g with⟨i,k,e,f,l⟩ | ⟨i,k,b,e,f,m,l⟩
 .subst f;obtain⟨z,hd,q,rel,c⟩:=rP I.hok e;refine call_meetsIn iY c.typeIs PySem.F.entry_dict_get (PySem.F.args_dict_get_3 _ _ _) (meets_dict_get_default (oA X.prog X.w) a (vR p) hd r) ⟨_,c.mapOf,h _ _ (I.tok _) ?_⟩;rw[l];exact (rel.val k).getD rd
 .subst f;cases (show u=Value.ref b from p);obtain⟨z,hd,n,rel,c⟩:=xT I.hok e;refine call_meetsIn iY c.typeIs PySem.F.entry_dict_get (PySem.F.args_dict_get_3 _ _ _) (meetsH_dict_get_default (tupleKind (oA X.prog X.w)) a b hd r) ⟨gZ T,k,n,yP I.hok m,c,h _ _ (I.tok _) ?_⟩;rw[l];exact (rel.val k).getD rd
end
def Xu (g ty j:TE):TE:=λb H Q=>g b H λx c=>∃ a,x = .ref a/\Hi c a/\ty b c λy e=>j b e λz d=>∃ o,vA d a y o/\Q (o.getD z) d
section
variable {X:Cx}
theorem Yd (C:X.A.units+1<cLine) (r:PE X o J) (l:PE X e ty) (p:PE X f T) (m:M2 X o "get" apos e f j):PE X (.Call (.Attribute o "get" apos) [e,f] [] j) (Xu J ty T):=by
 intro b s k H Q I h;refine wpAny_Call_method m.base m.few m.line gS iY PySem.F.type_dict_get (kT (r b s k H _ I h) λu P c=>?_);obtain⟨x,q,n,M,a,E,d,G⟩:=c;subst E;obtain rfl:u=Value.ref a:=M;obtain⟨S,V,_⟩:=Uo n d;refine⟨S,V,?_⟩;rw[m.trees];refine gY rfl (jH (gX (kT (l b P k q _ n G) λY R ⟨y,t,w,N,K⟩ =>gX (kT (p b R k t _ w K) λW U ⟨z,v,B,O,Z,g,L⟩=>Calls.spliced_nil ?_))));exact BF C B g N O λw' s4 D i=>⟨_,v,D,i,L⟩
end
section
variable {X:Cx}
theorem Y9 (I:Inv X j r H s) (e:Rd H a (.k g)) (h:∀ p l,H p=none->Inv X j r (upd H p (.k g)) l->Q (.ref p) l):wpAny (model X.prog X.w) A (call (.type "dict") [.ref a]) Q E s:=by
 obtain⟨z,hd,n,rel,f⟩:=rP I.hok e;refine kt_call_dict hd f (by rw[<- rel.length];exact z) λm c i=>?_
 refine h _ _ (I.hok.fresh (bD _)) (I.laid (a:=s.heap.objs.size) (o:=.k g) (t':=s.toks) (λb q d=>?_) (bD _) (B2 z (dJ.mpr (eZ (cD I.big))) rel c));exact (i.2 b (cD (aY d))).trans (aE _ d)
end
end L2
namespace Att
open PySem PySem.W PySem.Calls PyProof.Rows
theorem S8 {P:Params}:∀ (g:Aa Int) (j:Aa Ac),WellAll P h j (g.map WData.int)->IntsAre j g:=by
 intro g;induction g with
 | nil =>
  intro j w;rw[gI] at w;cases w;exact .nil
 | cons n g c =>
  intro j w;rw[aW] at w;cases w with
  | cons a b =>
   cases a;exact .cons _ _ (c _ b)
theorem CM {l:OpenLaw}(I:l.most=some n){P:Params}
  (j:l.row.toRowW.claim.pre args=true) (p:WellAll P h o args) :
  ∃ a C g,o=[Value.ref a]/\args=[WData.list (g.map WData.int)]/\h.get? a=some { cls:=.type "list",data:=.seq C.toArray }/\IntsAre C g/\g.length<=n:=by
 have i:WShape.hasAll [] args [.list .int]=true:=(pre_splitW j).1;have k:l.pre.holds [] { args:=args }=true:=(pre_splitW j).2;obtain⟨d,r,rfl,m,s⟩:=hasAllW_cons i;obtain rfl:=hasAllW_nil s;obtain⟨y,rfl,t⟩:=hasW_list m;obtain⟨g,rfl⟩:=items_int t;have c:g.length<=n:=by
  unfold OpenLaw.pre at k;have e:(WTm.not (.lt (.lit (.int (n:Int))) (.len (.arg 0)))).holds [] { args:=[.list (g.map .int)] }=true:=by
   have e:=(holds_andW k).1;rw[I] at e;exact e
  have f:=condW_of e (w_not (w_lt w_lit (w_len_list (w_arg rfl))));rw[aA] at f;refine Nat.le_of_not_lt λq=>?_
  have v:(n:Int)<((g.length:Nat):Int):=by omega
  first
   | (rw[aX v] at f;exact absurd f (by decide))
   | (simp at f;omega)
 cases p with
 | cons w x =>
  cases x;cases w with
  | list u b=>exact⟨_,_,g,rfl,rfl,u,S8 g _ b,c⟩
theorem U4 (l:OpenLaw) (args:Aa WData):l.row.toRowW.claim.post args (.bool true) args=true :=
 postW_of (r:=l.row.toRowW) (X:=(true == true))
  (show WShape.has [] (.bool true) .bool=true by first | rfl | decide | simp[WShape.has,WShape.arms,WShape.armsAll])
  (show (WTm.eq .res (.lit (.bool true))).value [] { args:=args,res:=some (.bool true),after:=args }=some (.bool (true == true)) from w_eq_bool (w_res rfl) w_lit) rfl
theorem attach_call {l:OpenLaw}{XP:(Af->Ab Ac)->Ag->Prop}
  (hn:l.most=some n) (aa:d.params.defaults=[])
  (call:∀ (w:World) (j g:Ae) (T mb:Af->Ab Ac) (J:Ad) (o:Obj) (pm cd p:Ac) (a:Ad) (I:Aa Ac) (U:Aa Int),Ground q C [] XP w j T mb g.heap->YP w g.heap ->g.heap.get? J=some o->o.data = .func (docDef d.name d.params d.body d.scope pm cd p)->g.heap.CodeRec cd d.name->T d.name=some (.ref J) ->g.heap.get? a=some { cls:=.type "list",data:=.seq I.toArray }->IntsAre I U->U.length<=n->g.gens=#[] ->
   codeAny (model l.prog w) callerA (.call (.ref J) ⟨[.ref a],[]⟩) (λr s'=>r = .ok (.ret (.bool true))/\OldK g.heap s'.heap/\s'.os=g.os/\AllBare s'.gens) g) :
  WalkO q C XP YP l.row.toRowW d [] (λf I=>PySem.call f I):=by
 intro w j g T mb G Y J o pm cd p v kV E hd i s k A args u as h t H m B;obtain rfl:v = .none:=Dflts.none s aa;obtain rfl:kV = .none:=Dflts.noKw s;obtain⟨a,I,U,rfl,rfl,e,b,c⟩:=CM hn h m;refine enter_call (codeAny_mono (call w j g T mb J o pm cd p a I U G Y E (fd_plain hd) i k e b c A) λr s' F=>?_);obtain⟨rfl,x,y,z⟩:=F;exact⟨.inl ⟨.bool true,.bool true,[],rfl,λ_=>rfl,.bool true,U4 l _,λ_=>⟨List.Pairwise.nil,λ_ D=>(nomatch D)⟩⟩,x,y,z⟩
end Att
namespace L2
open PySem PySem.Spec PyProof.Rows
theorem Ri:∀ {j:Aa Ac}{g:Aa Int},IntsAre j g->kY (g.map V.int) j
 | _,_,.nil=>.nil
 | _,_,.cons n t h=>.cons ⟨t,rfl⟩ (Ri h)
def Ej (H:Hp):Prop:=∀ b,H b=none\/∃ o a,H b=some (.frz o (.l a))
theorem FA {P:Ah}{K:kM}
  (KX:K.In g.heap) (T:g.heap.Ns mainGlobals mg) (j:g.heap.Ns builtinsNs mb) (ab:∀ x:Af,x ≠ "__name__" -> mb x=bootBuiltins x) (J:g.heap.NoLimit) (hg:g.gens=#[])
  (U:g.heap.get? a=some { cls:=.type "list",data:=.seq I.toArray }) (hi:IntsAre I ns) (hl:ns.length<=sizeLine) (hr:Room k callerA)
  (F:∀ base:Ag,K.In base->base.Ns mainGlobals mg->FnOk P w K mg base CX k fa fd [x] sp) (C:∀ (s:Ae) (u:Ac),BindsTo s fd ⟨[u],[]⟩ [(x,u)])
  (ac:∀ H:Hp,Ej H->lG K H a (ns.map V.int)->sp [.ref a] H (λv _=>v = .b true) λ_ _ _=>False)
  (aa:∀ H e p,CX [] H g (λ_ _ _=>False) e p->False) :
  codeAny (model P w) callerA (.call (.ref fa) ⟨[.ref a],[]⟩) (λr p=>r = .ok (.ret (.bool true))/\OldK g.heap p.heap/\p.os=g.os/\AllBare p.gens) g:=by
 have R:=Ri hi;have D:=hi.length;have core:∀ H:Hp,Ej H->lG K H a (ns.map V.int)->nA P w H g.heap->(∀ b,H b≠none->b=a)->(H a≠none->K.lookup a=none) ->
   codeAny (model P w) callerA (.call (.ref fa) ⟨[.ref a],[]⟩) (λr p=>r = .ok (.ret (.bool true))/\OldK g.heap p.heap/\p.os=g.os/\AllBare p.gens) g:=by
  intro H Q hS A O hK;have c:∀ {b:Ad} {o:Obj},g.heap.get? b=some o->H b=none->(vF g.heap H).get? b=some o:=λe n=>Tf e n
  have M:∀ {b:Ad} {o:Obj} {t:Array DictEntry} {i:Nat},g.heap.get? b=some o->o.data = .dict t i->H b=none:=λ{b o t i} e d=>by
   cases q:H b with
   | none=>rfl
   | some u =>
    have G:b=a:=O b (by rw[q];simp);subst G;rw[U] at e;cases e;have S:Data.seq I.toArray _=Data.dict t i:=d;cases S
  have f:∀ {b:Ad} {m:Af->Ab Ac},g.heap.Ns b m->(vF g.heap H).Ns b m:=λ{b m} ⟨o,t,i,e,d,r⟩=>⟨o,t,i,c e (M e d),d,r⟩
  have y:K.In (vF g.heap H):=λb o e=>c (KX b o e) (by
   cases q:H b with
   | none=>rfl
   | some u =>
    have G:b=a:=O b (by rw[q];simp);subst G;rw[hK (by rw[q];simp)] at e;cases e)
  have hM:Mod K mg (vF g.heap H):=⟨y,f T,⟨mb,f j,ab⟩,let ⟨mc,Z,h2⟩:=J;⟨mc,f Z,h2⟩⟩;have W:Env0 P w K mg (vF g.heap H) callerA [] g H:=⟨rfl,hM,λb o e=>Vm e,Nat.le_of_eq (U5 _ _),trivial,λb j=>absurd (show b∈([]:Aa Ad) from j) (by simp),A,.of_eq hg⟩;refine codeAny_mono ((F _ y (f T)).run callerA [] g H ⟨[.ref a],[]⟩ [.ref a] [.ref a] _ _ hr W (C g (.ref a)) (.cons rfl .nil) (ac H Q hS)) λr p h=>?_
  cases r with
  | error e=>exact (aa H e p h).elim
  | ok Y =>
   cases Y with
   | next=>exact False.elim h
   | brk=>exact False.elim h
   | cont=>exact False.elim h
   | ret u =>
    obtain⟨v,H',os,bare,un,B,r',q⟩:=h;have q':v = .b true:=q;subst q';obtain rfl:u=Value.bool true:=r';refine⟨rfl,OldK.of_keep λb o e=>?_,os,bare⟩;cases q:H b with
    | none=>exact un.keep b o e q (by intro z;exact absurd (show b∈([]:Aa Ad) from z) (by simp)) (by simp)
    | some u =>
     rcases Q b with z | ⟨ob,xs,z⟩
     .rw[q] at z;cases z
     .have z2:=un.frzs b ob _ z;obtain⟨N,_⟩:=A b _ z;obtain⟨X,_⟩:=B b _ z2;rw[e] at N;cases N;exact X
 cases L:K.lookup a with
 | some o =>
  have e:=KX a o L;rw[U] at e;cases e;refine core (λ_=>none) (λ_=>.inl rfl) (.inr ⟨_,I.toArray,_,L,rfl,rfl,rfl,by rw[bF,D];exact hl,by simpa using R⟩) (λb u z=>by have E:(none:Ab HO)=some u:=z;cases E) (λb z=>absurd rfl z) λz=>absurd rfl z
 | none =>
  refine core (λb=>if b=a then some (.frz { cls:=.type "list",data:=.seq I.toArray } (.l (ns.map V.int))) else none) (λb=>?_) (.inl (.inr ⟨{ cls:=.type "list",data:=.seq I.toArray },aU rfl⟩)) (λb u z=>?_) (λb z=>?_) λ_=>L
  .by_cases j:b=a
   .exact .inr ⟨_,_,aU j⟩
   .exact .inl (aL j)
  .by_cases j:b=a
   .have E:=(aU j).symm.trans z;cases E;subst j;exact⟨U,by rw[aA];exact hl,I,_,R,U⟩
   .have E:=(aL j).symm.trans z;cases E
  .by_cases j:b=a
   .exact j
   .exact absurd (aL j) z
theorem walk_of {l:PySem.W.OpenLaw}{n k:Nat}{q:Ah}{j:Aa Af}{XP:(Af->Ab Ac)->Ag->Prop}{YP:World->Ag->Prop}{d:DefRec}{K:Params->kM}{CX:World->xE}{sp:World->Sp}{x:Af}
  (hn:l.most=some n) (U:n<=sizeLine) (J:d.params.defaults=[]) (hr:Room k callerA)
  (hY:∀ (w:World) (h:Ag),YP w h->(K w.params).In h)
  (F:∀ (w:World) (p:Af->Ab Ac) (r:Ad) (h:Ag),(K w.params).In h->h.Ns mainGlobals p->p d.name=some (.ref r) ->∃ fd:FuncData,(∀ (s:Ae) (u:Ac),BindsTo s fd ⟨[u],[]⟩ [(x,u)]) /\ ∀ base:Ag,(K w.params).In base->base.Ns mainGlobals p->FnOk l.prog w (K w.params) p base (CX w) k r fd [x] (sp w))
  (aa:∀ (w:World) (H:Hp) (a:Ad) (C:Aa Int),C.length<=n->Ej H->lG (K w.params) H a (C.map V.int)->sp w [.ref a] H (λv _=>v = .b true) λ_ _ _=>False)
  (I:∀ (w:World) (H:Hp) (s:Ae) (e:Ac) (s':Ae),CX w [] H s (λ_ _ _=>False) e s'->False) :
  PySem.W.WalkO q j XP YP l.row.toRowW d [] (λf vs=>PySem.call f vs):=by
 refine Att.attach_call hn J λw A t p Q r o pm cd B a vs C G Y P hd N y m i c O=>?_
 have z:=hY w _ Y;obtain⟨fd,M,D⟩:=F w p r _ z G.T.g y;exact FA z G.T.g G.T.b G.T.builtins G.T.nolimit O m i (bU c U) hr D M (λH E L=>aa w H a C c E L) λH e s'=>I w H t e s'
def rC (s:Stmt):Arguments:=match s with
 | .FunctionDef _ a _ _ _ _ _ _ _ _=>a
 | _=>{ posonlyargs:=[],args:=[],vararg:=none,kwonlyargs:=[],kw_defaults:=[],kwarg:=none,defaults:=[] }
def pQ (s:Stmt):Aa Stmt:=match s with
 | .FunctionDef _ _ b _ _ _ _ _ _ _=>b
 | _=>[]
def lB (s:Stmt):Scope:=match s with
 | .FunctionDef _ _ _ _ _ _ a _ _ _=>a
 | _=>{ kind:=.function,names:=[],isGenerator:=false,isCoroutine:=false }
abbrev lV:xE:=λ_ _ _ _ _ _=>False
abbrev E0:XK:=λ_ _ _=>False
theorem Ce {X:Cx}:Bd lV X E0:=λ_ _ _ _ _ _ _ h=>h.elim
structure Fun (K:kM) (x qual:Str) (st:Stmt) (f:Addr) (fd:FuncData):Prop where
 ex:∃ (oc:Value) (od:Option Addr) (kV doc pm:Value) (an:Option Addr) (cdv ct:Value) (osl:Array (Option Value)),
  fd=PySem.W.fnOf x qual (rC st) (pQ st) (lB st) .none kV doc pm an cdv ct/\K.lookup f=some ⟨oc,od,.func fd,osl⟩/\PySem.W.codeIn K cdv qual=true
 kp:PySem.W.keepIn K (.ref f)=true
section
variable {P:Ah}{K:kM}
theorem Fun.ok {st:Stmt}(F:Fun K x l st f fd) (S:FnScope N r (lB st)) (len:∀ p H Q E,C p H Q E->p.length=r.length)
  (o:∀ (j:Ac) (A:Around) (g:Aa Env) (s:Ae) (H:Hp) (p:Aa V) (Q:VK) (E:XK),Room k (A.deeper (envOfC l (lB st) s.heap.objs.size f j))->C p H Q E ->∃ t,oC (mZ lV P w K J base N l (lB st) f j A g s H E).nox (pQ st) t/\t { nx:=λ_ I=>Q .e I,rt:=Q } (start N p) H):FnOk P w K J base lV (k+1) f fd r C:=by
 obtain⟨v,y,kV,c,pm,n,j,u,m,rfl,i,a⟩:=F.ex;refine Nu i a S len λA g s H p Q E d b=>?_
 obtain⟨t,h,q⟩:=o j A g s H p Q E d b;exact⟨t,h.nox,q⟩
theorem Fun.binds {st:Stmt}(F:Fun K x l st f fd)
  (h:∀ (kV j pm:Ac) (o:Ab Ad) (g p:Ac) (r:Aa Ac),r.length=ps.length->bindArgs (PySem.W.fnOf x l (rC st) (pQ st) (lB st) .none kV j pm o g p) ⟨r,[]⟩=pure (ps.zip r)):sW K fd ps []:=by
 obtain⟨d,e,kV,j,pm,o,g,p,b,rfl,c,a⟩:=F.ex;exact .all (h kV j pm o g p)
theorem E4 {st:Stmt}{kV:Ac}(l:K.lookup f=some ⟨C,I,.func (PySem.W.fnOf x qual (rC st) (pQ st) (lB st) .none kV j pm p g r),o⟩)
  (c:PySem.W.codeIn K g qual=true) (k:PySem.W.keepIn K (.ref f)=true):Fun K x qual st f (PySem.W.fnOf x qual (rC st) (pQ st) (lB st) .none kV j pm p g r):=⟨⟨C,I,kV,j,pm,p,g,r,o,rfl,l,c⟩,k⟩
end
theorem sB (g:Room k A):A.units+1<cLine:=eR (iB (by decide:1<=64) _) g.units
section
variable {X:Cx}
theorem pv (i:Nat) (j:X.N[i]?=some x:=by rfl) (l:Gu X.env.scope x:=by first | exact Or.inl rfl | exact Or.inr (Or.inl rfl) | exact Or.inr (Or.inr rfl)) (hd:(x == ("__debug__" : Af))=false:=by decide)
  (g:(x == ("__classdict__" : Af))=false:=by decide):PE X (.Name x pos) (pP i):=Qk j l hd g
theorem X2:nI X (.builtin "len") (λj H Q=>∃ a g,j=[V.ref a]/\Rd H a (.k g)/\Q (.int g.length) H):=by
 intro b s m H j i Q I r h;obtain⟨a,g,rfl,d,q⟩:=h;obtain⟨u,rfl,e⟩:=sZ r;cases e;exact GI I d λt f c=>⟨.int g.length,H,c,⟨t,rfl⟩,q⟩
end
theorem sE {A B:Prop}(h:B):if false=true then A else B:=by
 rw[aL bM];exact h
theorem Er {c A B:Prop} [Decidable c] (g:c->A) (j:¬ c->B):if c then A else B:=by
 by_cases h:c
 .rw[aU h];exact g h
 .rw[aL h];exact j h
def mF (H g:Hp):Prop:=∀ b o,H b=some o->g b=some o
theorem mF.refl (H:Hp):mF H H:=λ_ _ h=>h
theorem mF.trans (a:mF H g) (b:mF g j):mF H j:=λc o h=>b c o (a c o h)
end L2
namespace PySem
structure XAt (h:Heap) (e:Addr) (cls:Value) (od:Option Addr) (T:Addr) (fl:Value):Prop where
 ex:∃ oe vs oT ts,h.get? e=some oe/\oe.cls=cls/\oe.dict=od/\oe.data = .fields vs/\vs[1]?=some (.ref T)/\T≠e/\h.get? T=some oT/\oT.data = .fields ts/\ts[3]?=some fl
structure XKeep (fs xs:List Addr) (h h':Heap):Prop where
 keep:∀ b o,h.get? b=some o->b∉xs->b∉fs->h'.get? b=some o
 slot:∀ b o,h.get? b=some o->b∉xs->∃ sl,h'.get? b=some { o with slots:=sl }
 there:∀ b o,h.get? b=some o->∃ o',h'.get? b=some o'
theorem XKeep.trans (a:XKeep fs g h j) (b:XKeep fs g j l):XKeep fs g h l where
 keep:=λc o e d i=>b.keep c o (a.keep c o e d i) d i
 slot:=λc o e d=>by
  obtain⟨q,f⟩:=a.slot c o e d;obtain⟨n,k⟩:=b.slot c _ f d;exact⟨n,k⟩
 there:=λc o e=>by
  obtain⟨m,f⟩:=a.there c o e;exact b.there c m f
theorem XKeep.more (a:XKeep fs l h j) (g:∀ b∈l,b∈p):XKeep fs p h j :=
 ⟨λc o e d f=>a.keep c o e (λz=>d (g _ z)) f,λc o e d=>a.slot c o e λz=>d (g _ z),a.there⟩
section
variable {A:Around}{s:Ae}
abbrev tS (l:Aa Env):Aa Ad:=l.filterMap (·.frame)
theorem Tr {h base:Ag}{l:Aa Env}(r:h.FunFrames base l){e:Ad}{g:Obj}{j:Array Ac}(p:h.get? e=some g) (hd:g.data = .fields j):e∉tS l:=λb=>by
 obtain⟨_,o,c,a⟩:=r.mem b;have:=c.symm.trans p;cases this;exact a j hd
theorem Pk
  (I:A.frames=some (l::j)) (U:s.heap.FunFrames base (l::j)) (hf:l.frame=some L) (J:s.heap.get? e=some r) (hd:r.data = .fields vs) (p:1<vs.size)
  (k:∀ C T,XKeep (tS (l::j)) [e] s.heap C->XAt C e r.cls r.dict T (rawInt L)->s.heap.objs.size<=T->Q () { s with heap:=C }) :
  wpAny M A (do let a <- frameOf l;let pl <- entryPlaceOf L aa;let b <- EntryCells.newEntry head a .none (rawInt L) .none pl;setField (.ref e) 1 b) Q E s:=by
 have u:=Tr U J hd;refine aB (wpAny_frameOf_fun I U hf λg t=>aB (wpAny_entryPlaceOf λpl i=>?_));unfold EntryCells.newEntry newFields;have ge:g.get? e=some r:=by rw[t.2.1 e u];exact J
 have f:g.objs.size≠e:=λz=>absurd (aY ge) (by rw[z];exact eB _)
 refine aB (fK ?_ (i.sizeOk5 _ _ _ _ _));generalize h:({ cls:=.type "traceback",dict:=none,data:=.fields _ }:Obj)=m;refine iT (aE m ge) hd p (k _ g.objs.size ?_ ?_ ?_)
 .have st:∀ b o,g.get? b=some o->b≠e->((g.push m).update e (Obj.mapFields (·.setIfInBounds 1 (Value.ref g.objs.size)))).get? b=some o:=λb o d n=>by
   rw[cY _ _ (eZ n)];exact aE _ d
  refine⟨λb o d v x=>st b o (by rw[t.2.1 b x];exact d) (by simpa using v),λb o d v=>?_,λb o d=>?_⟩
  .obtain⟨w,q⟩:=t.2.2 b o d;exact⟨w,st b _ q (by simpa using v)⟩
  .obtain⟨w,q⟩:=t.2.2 b o d;by_cases n:b=e
   .subst n;exact⟨_,cV _ (aE m ge) (eQ (dP hd _))⟩
   .exact⟨_,st b _ q n⟩
 .refine⟨_,_,m,_,cV _ (aE m ge) (eQ (dP hd _)),Obj.cls_mapFields _ _,?_,dP hd _,by simp[p],f,?_,by rw[<- h],?_⟩
  .obtain⟨c,y,B,w⟩:=r;simp only at hd;subst hd;rfl
  .rw[cY _ _ (eZ f)];exact bL g (by rw[<- h];rfl)
  .rcases i with rfl | ⟨_,_,_,_,_,_,_,rfl⟩<;>simp
 .rw[t.1];exact bD _
theorem Ew (x:XAt s.heap e cls j T l)
  (k:∀ g,XKeep [] [T] s.heap g->XAt g e cls j T .none->Q () { s with heap:=g }):wpAny M A (setFlight (.ref e) none) Q E s:=by
 obtain⟨z,D,F,B,u,y,i,hd,t,d,h,a,w⟩:=x.ex;have v:3<B.size:=(gA.mp w).1;unfold setFlight;refine aB (gJ u hd t ?_);rw[aU (by simp)];refine iT h a v (k _ ?_ ?_)
 .have q:∀ b o,s.heap.get? b=some o->b≠T->(s.heap.update T (Obj.mapFields (·.setIfInBounds 3 ((none:Ab Ad).elim Value.none λf=>rawInt f)))).get? b=some o:=λb o c n=>by
   rw[cY _ _ (eZ n)];exact c
  refine⟨λb o c m _=>q b o c (by simpa using m),λb o c m=>⟨o.slots,q b o c (by simpa using m)⟩,λb o c=>?_⟩;by_cases n:b=T
  .subst n;exact⟨_,cV _ h (eQ (dP a _))⟩
  .exact⟨o,q b o c n⟩
 .exact⟨z,D,_,_,by rw[cY _ _ d];exact u,y,i,hd,t,d,cV _ h (eQ (dP a _)),dP a _,by simp[v]⟩
theorem Yu
  (o:A.frames=some (j::g)) (J:s.heap.FunFrames base (j::g)) (I:j.frame=some L) (C:s.heap.get? e=some p) (hd:p.data = .fields U) (r:U[1]?=some .none)
  (k:∀ l T,XKeep (tS (j::g)) [e] s.heap l->XAt l e p.cls p.dict T (rawInt L)->s.heap.objs.size<=T->Q () { s with heap:=l }):wpAny M A (noteFrame (.ref e) j) Q E s:=by
 unfold noteFrame;simp only[I];refine aB (gJ C hd r ?_);rw[aL (by decide)];exact Pk o J I C hd (gA.mp r).1 k
theorem Mb
  (r:A.frames=some (j::g)) (I:s.heap.FunFrames base (j::g)) (C:j.frame=some L) (x:XAt s.heap e cls J T .none)
  (k:∀ l p,XKeep (tS (j::g)) [e,T] s.heap l->XAt l e cls J p (rawInt L)->s.heap.objs.size<=p->Q () { s with heap:=l }):wpAny M A (noteFrame (.ref e) j) Q E s:=by
 obtain⟨F,N,K,G,v,y,i,hd,t,h,f,c,u⟩:=x.ex;subst y i;unfold noteFrame;simp only[C];refine aB (gJ v hd t ?_);rw[aU (by simp)];refine aB (gJ f c u ?_);rw[aL (by simp[rawInt])];refine aB (iT f c (gA.mp u).1 ?_);have d:∀ b o,s.heap.get? b=some o->b≠T->(s.heap.update T (Obj.mapFields (·.setIfInBounds 3 Value.none))).get? b=some o:=λb o a n=>by
  rw[cY _ _ (eZ n)];exact a
 have B:XKeep (tS (j::g)) [e,T] s.heap (s.heap.update T (Obj.mapFields (·.setIfInBounds 3 Value.none))):=by
  refine⟨λb o a q _=>d b o a (λz=>q (by simp[z])),λb o a q=>⟨o.slots,d b o a (λz=>q (by simp[z]))⟩,λb o a=>?_⟩;by_cases n:b=T
  .subst n;exact⟨_,cV _ f (eQ (dP c _))⟩
  .exact⟨o,d b o a n⟩
 refine Pk r (I.of_keeps λb o a D=>⟨o,d b o a λz=>?_,rfl⟩) C (d e F v (eZ h)) hd (gA.mp t).1 λl p m H w=>k l p (B.trans (m.more λb z=>by simp at z;simp[z])) H ?_
 .subst z;have:=a.symm.trans f;cases this;exact D G c
 .rw[Heap.size_update] at w;exact w
theorem Ys
  (j:A.frames=some (env::outer)) (I:s.heap.FunFrames base (env::outer)) (C:env.frame=some L) (r:s.heap.get? e=some l) (hd:l.data = .fields J) (p:J[1]?=some .none)
  (k:∀ g T,XKeep (tS (env::outer)) [e] s.heap g->XAt g e l.cls l.dict T .none->s.heap.objs.size<=T->Q () { s with heap:=g }):wpAny M A (leaving env (.ref e)) Q E s:=by
 unfold leaving;refine aB (Yu j I C r hd p λn T f x d=>have m:=eX d;Ew x λq c w=>k q T ⟨λb o a h t=>?_,λb o a h=>?_,λb o a=>?_⟩ w d)
 .exact c.keep b o (f.keep b o a h t) (λz=>by simp at z;subst z;rw[m] at a;cases a) (by simp)
 .obtain⟨v,i⟩:=f.slot b o a h;exact⟨v,c.keep b _ i (λz=>by simp at z;subst z;rw[m] at a;cases a) (by simp)⟩
 .obtain⟨u,i⟩:=f.there b o a;exact c.there b u i
theorem Zt
  (l:A.frames=some (env::outer)) (r:s.heap.FunFrames base (env::outer)) (p:env.frame=some L) (x:XAt s.heap e cls C T .none)
  (k:∀ j g,XKeep (tS (env::outer)) [e,T] s.heap j->XAt j e cls C g .none->s.heap.objs.size<=g->Q () { s with heap:=j }):wpAny M A (leaving env (.ref e)) Q E s:=by
 unfold leaving;refine aB (Mb l r p x λn g f w d=>have m:=eX d;Ew w λq c y=>k q g ⟨λb o a h t=>?_,λb o a h=>?_,λb o a=>?_⟩ y d)
 .exact c.keep b o (f.keep b o a h t) (λz=>by simp at z;subst z;rw[m] at a;cases a) (by simp)
 .obtain⟨v,i⟩:=f.slot b o a h;exact⟨v,c.keep b _ i (λz=>by simp at z;subst z;rw[m] at a;cases a) (by simp)⟩
 .obtain⟨u,i⟩:=f.there b o a;exact c.there b u i
end
section
variable {os:OsState}
variable {sub:Aa Ac}
abbrev Au (args:Aa Ac):Obj:={ cls:=.type "tuple",data:=.seq args.toArray }
abbrev qX (C t:Ad):Obj:={ cls:=.ref C,data:=.fields #[.ref t,.none,.none,.none,.bool false,.none] }
theorem DP (Fn:ExcBaseFacts Bn j af ac) (I:l.contains (.type Bn)=true) (F:ExcBaseFacts B ag U l) (T:OwnTail h l bm){fI:Ad}
  (p:h.get? C=some (excClassObj nm q C N bs bm aa sn sub ab ae dd k0 k1 k2 k3 k5 j)) (cN:h.Ns N mN) (ci:mN "__init__" = some (.ref fI)) (cf:h.get? fI=some oI) (ct:oI.cls = .type "function") (hz:args.length<=sizeLine)
  (k:∀ h' e,h.objs.size<=e->Heap.MadeExcOf h h' e (.ref C) args->wpAny (model J w) A (call (.ref fI) (.ref e::args)) (λr s'=>r = .none/\Q (.done (.ret (.ref e))) s') E ⟨h',g,d,t,os⟩) :
  wpAny (model J w) A (Builtin.«type.__call__» ⟨.ref C::args,[]⟩) Q E ⟨h,g,d,t,os⟩:=by
 repeat (first | with_reducible refine hV p ?_ | with_reducible refine wpAny_madeBy_exc p ?_ | wp_step)
 refine codeAny_call_builtin_code (Code.quiet_builtin _ Fn.quiet) (wpAny_check_new_subU Fn I T p (codeAny_exc_new_subU Fn I F T p ?_ hz));show wpAny _ _ _ _ _ _;have up:∀ b o,h.get? b=some o->((h.push (Au args)).push (qX C h.objs.size)).get? b=some o:=λb o z=>aE _ (aE _ z)
 have ge:((h.push (Au args)).push (qX C h.objs.size)).get? (h.objs.size+1)=some (qX C h.objs.size):=Heap.get?_push_at (by rw[Heap.size_push]) rfl;have gt:((h.push (Au args)).push (qX C h.objs.size)).get? h.objs.size=some (Au args):=aE _ (Heap.get?_push_at rfl rfl);have a:=up C _ p;have c:((h.push (Au args)).push (qX C h.objs.size)).Ns N mN:=let ⟨o,i,f,e,r⟩:=cN;⟨o,i,f,up _ _ e,r⟩;have own:(Value.ref C::bm).contains (.ref C)=true:=by simp
 unfold isInstance
 repeat (first | with_reducible refine hV ge ?_ | (with_reducible refine wpAny_isSubtype_exc a ?_;rw[own]) | wp_step)
 show wpAny _ _ (typeLookup (.ref C) _) _ _ _;refine wpAny_typeLookup_tail a c (T.keeps up) F.mroIs F.init.lookup ?_;rw[ci];refine cW (aB ?_);unfold bindSpecial;refine aB (wpAny_typeOf (T := "function") ⟨_,up _ _ cf,ct⟩ ?_);rw[aU (by decide)];refine aF (aB (cT (k _ (h.objs.size+1) (gH _) ⟨up,eX (gH _),h.objs.size,ge,eX (bD _),gt⟩) (λr s' n=>?_) λ_ _ z=>z));obtain⟨rfl,m⟩:=n
 wp_walk
 exact m
theorem x_call (Fn:ExcBaseFacts Bn j af ac) (U:l.contains (.type Bn)=true) (F:ExcBaseFacts B ag J l) (T:OwnTail h l bm){fI:Ad}
  (p:h.get? C=some (excClassObj nm q C N bs bm aa sn sub ab ae dd k0 k1 k2 k3 k5 j)) (cN:h.Ns N mN) (ci:mN "__init__" = some (.ref fI)) (cf:h.get? fI=some oI) (ct:oI.cls = .type "function") (hz:args.length<=sizeLine)
  (k:∀ I e,h.objs.size<=e->Heap.MadeExcOf h I e (.ref C) args->wpAny (model o w) (A.under (.builtin "type.__call__" ⟨.ref C::args,[]⟩)) (call (.ref fI) (.ref e::args)) (λr s'=>r = .none/\Q (.ref e) s') E ⟨I,g,d,t,os⟩) :
  wpAny (model o w) A (call (.ref C) args) Q E ⟨h,g,d,t,os⟩:=by
 have c:=tc_lookup;have f:=tc_bind (.ref C);have i:(⟨h,g,d,t,os⟩:Ae).TypeIs (.ref C) "type" := ⟨_,p,rfl⟩;refine iN (codeAny_of_tree ?_);show wpAny _ _ (callAny (.ref C) _) _ _ _
 repeat (any_goals (first | assumption | with_reducible refine hV p ?_ | wp_step))
 refine⟨rfl,codeAny_call_builtin_at (Code.quiet_builtin _ (by decide +kernel)) entry_typeCall (wpAny_check_type_call_sub p (DP Fn U F T p cN ci cf ct hz λI e a b=>k I e a b))⟩
theorem Vp (hh:A.handled=none)
  (k:wpAny (model p w) A x (λv r=>∃ (e:Ad) (o:Obj) (J:Array Ac) (C N:Ad) (I:Aa Ac) (nm q:Af) (bs:Aa Ac) (j:Bool) (sn:Aa Af) (sub:Aa Ac) (T:Bool) (l:Ab Bool) (U:Ab Ad) (k0 k1 k2 k3 k5:Ab Ac) (g:String),v = .ref e /\ r.heap.get? C=some (excClassObj nm q C N bs I j sn sub T l U k0 k1 k2 k3 k5 g)/\I.contains (.type "BaseException")=true/\r.heap.get? e=some o/\o.cls = .ref C/\o.data = .fields J/\J[1]?=some .none/\E (.ref e) r) E s) :
  wpAny (model p w) A (raiseStmt aa (some x) none) Q E s:=by
 unfold raiseStmt;refine aB (cT k (λv r z=>?_) λ_ _ z=>z);obtain⟨e,o,J,C,N,I,nm,q,bs,j,sn,sub,T,l,U,k0,k1,k2,k3,k5,g,rfl,b,f,i,c,hd,d,h⟩:=z;have a:(Value.ref C::I).contains (.type "BaseException")=true:=by rw[List.contains_cons,f,Bool.or_true]
 obtain⟨u,g1,d1,D,n⟩:=r;obtain⟨y,B,m,t⟩:=o;simp only at c hd;subst c hd
 repeat (first | with_reducible refine hV i ?_ | with_reducible refine hV b ?_ | (with_reducible refine wpAny_isSubtype_exc b ?_;rw[a]) | wp_step)
 rw[d];refine aF ?_;rw[aL (by decide)];exact aF (wpAny_raiseNew_none hh h)
end
end PySem
namespace L2
open PySem PySem.Spec PyProof.Rows
def pS (e:Ad) (C:Ac) (g:Ab Ad):HO:=.ext λh=>∃ a b,h.get? e=some a/\a.cls=C/\a.dict=g/\a.data = .fields b
def pE (a:Ad):HO:=.ext λh=>∃ o,h.get? a=some o
theorem J8 {P:Ah}(l:h.get? e=some g) (o:g.cls=C) (p:g.dict=J) (I:g.data = .fields j):nB P w H h e (pS e C J) :=
 ⟨⟨g,j,l,o,p,I⟩,⟨_,l⟩,λ_ _ ⟨g,j,z,r⟩ k=>⟨g,j,k _ z,r⟩⟩
theorem Fy {P:Ah}(g:h.get? a=some o):nB P w H h a (pE a):=⟨⟨o,g⟩,⟨_,g⟩,λ_ _ ⟨o,z⟩ k=>⟨o,k _ z⟩⟩
theorem Ua {P:Ah}(x:XAt h e C g T j):nB P w H h e (pS e C g):=by
 obtain⟨f,k,d,i,c,b,a,hd,_⟩:=x.ex;exact J8 c b a hd
theorem DL {P:Ah}(x:XAt h e C j T g):nB P w H h T (pE T):=by
 obtain⟨c,f,b,d,_,_,_,_,_,_,a,_⟩:=x.ex;exact Fy a
theorem Im {P:Ah}(g:nA P w H h) (k:XKeep fs J h j) (U:∀ b∈fs,H b=none) (p:H e=some (pS e C od)) (I:∀ b∈J,b=e\/H b=some (pE b)) (x:XAt j e C od T fl) (l:H T=none) :
  nA P w (upd H T (pE T)) j:=λa o q=>by
 by_cases n:a=T
 .subst n;rw[lT] at q;cases q;exact DL x
 rw[kX n] at q;by_cases ne:a=e
 .subst ne;rw[p] at q;cases q;exact Ua x
 by_cases f:a∈J
 .rcases I a f with z | z
  .exact absurd z ne
  .rw[z] at q;cases q;obtain⟨⟨o,i⟩,_⟩:=g a _ z;obtain⟨m,d⟩:=k.there a o i;exact Fy d
 refine (g a o q).stay (λb u c r=>k.keep b u r (λz=>?_) λz=>?_) (λb r=>?_) λb s r=>?_
 .rcases c with rfl | c
  .exact f z
  .rcases I b z with y | y
   .rw[y,p] at c;cases c
   .rw[y] at c;cases c
 .have:=U b z;rcases c with rfl | c
  .rw[q] at this;cases this
  .rw[c] at this;cases this
 .rw[kX (λz=>by rw[z,l] at r;cases r)];exact r
 .rw[kX (λz=>by rw[z,l] at r;cases r)];exact r
theorem Gk (u:Un fs [] r H l h) (k:XKeep g U h C) (I:∀ b o,l.get? b=some o->b∈g->b∈fs) (p:∀ b∈U,H b≠none) (j:H T=none) (J:h.objs.size<=T):Un fs [] r (upd H T o) l C where
 keep:=λb v q n d a=>k.keep b v (u.keep b v q n d a) (λz=>p b z (u.free b v q n a)) λz=>d (I b v q z)
 slot:=λb v q n s a=>by
  obtain⟨y,e⟩:=u.slot b v q n s a;obtain⟨c,i⟩:=k.slot b _ e λz=>p b z (u.free b v q n a)
  exact⟨c,i⟩
 free:=λb v q n a=>by
  obtain⟨f,e⟩:=u.there b v q a;rw[kX (λz=>absurd (aY e) (by rw[z];exact kB.mpr J))];exact u.free b v q n a
 there:=λb v q a=>let ⟨f,e⟩:=u.there b v q a;k.there b f e
 tups:=λb w q=>by
  have:=u.tups b w q;rw[kX (λz=>by rw[z,j] at this;cases this)];exact this
 frzs:=λb v x q=>by
  have:=u.frzs b v x q;rw[kX (λz=>by rw[z,j] at this;cases this)];exact this
 tbls:=λb t q=>by
  obtain⟨m,e⟩:=u.tbls b t q;rw[kX (λz=>by rw[z,j] at e;cases e)];exact⟨m,e⟩
def mJ (P:Ah) (w:World):xE:=λa H s E f c=>∃ (e T:Ad) (C:Ac) (d:Ab Ad) (b:Hp),f = .ref e/\c.os=s.os/\AllBare c.gens/\Un (rK a) [] H b s.heap c.heap/\nA P w b c.heap /\
 XAt c.heap e C d T .none/\b e=some (pS e C d)/\b T=some (pE T)/\E C d b
section
variable {P:Ah}{K:kM}{cd:Ac}{s0:Ae}
theorem Ql (q:s0.heap.get? b=some o) (j:b∈tS (envOfC p l s0.heap.objs.size f cd::g)):b∈rK g:=by
 unfold tS at j;rw[gQ] at j;rcases aK.mp j with z | z
 .have:=aY q;rw[z] at this;exact absurd this (eB _)
 .exact z
theorem Up (hE:∀ C r H e l,J C r H->H e=some (pS e C r)->H l=none->E C r (upd H l (pE l))):Bd (mJ P w) (mZ (mJ P w) P w K mg base N p j f cd A g s0 U E) J:=by
 intro m O H s Q F I h;obtain⟨e,T,C,r,i,rfl,t,D,un,c,M,n,G,B⟩:=h;have d:Inv (mZ (mJ P w) P w K mg base N p j f cd A g s0 U E) m O i F:=I.call' (ch:=[]) t un c D (λb z=>absurd z (by simp));refine Zt (base:=base) (env:=envOfC p j s0.heap.objs.size f cd) (outer:=g) (L:=s0.heap.objs.size) d.ok.frames d.stack rfl M λR l v x k=>?_
 have a:i l=none:=c.fresh k;have ne:l≠e:=λz=>by rw[z,n] at a;cases a
 have u:∀ b∈[e,T],b=e\/i b=some (pE b):=λb z=>by
  rcases aK.mp z with z | z
  .exact .inl z
  .rw[aH.mp z];exact .inr G
 refine⟨e,l,C,r,upd i l (pE l),rfl,d.os,d.bare,Gk d.base v (λb o q z=>Ql q z) (λb z=>?_) a k,Im c v d.stkFree n u x a,x,by rw[kX ne.symm];exact n,lT,hE C r i e l B n a⟩;rcases u b z with y | y
 .rw[y,n];simp
 .rw[y];simp
end
end L2
namespace PySem.W
open PySem PySem.Calls PyProof.Rows Builtin Builtin.ObjectAttr
section
variable {K:Frag}
theorem Lu:builtinKind "BaseException.__getattribute__" = some .slot:=by decide +kernel
theorem Ps:splitId "BaseException.__getattribute__" = some ("BaseException","__getattribute__"):=by decide +kernel
theorem O8 (x v:Ac):slotArgs "__getattribute__" 1 ⟨[x,v],[]⟩=pure (x,[v]):=by kernel_rfl
theorem x_attr (X:K.In s.heap) (I:InstAt s.heap x U C T) (l:findIn K (.ref C) "__getattribute__" = some (some (.builtin "BaseException.__getattribute__"))) (J:findIn K (.ref C) "__getattr__" = some none)
  (o:mroIn K C (.type "BaseException")=some true) (p:findObj K C T name=some (.value v)) (r:handedIn v=true) (h:Q v { s with toks:=s.toks+1 }):wpAny (model j w) A (getAttr (.ref x) name expr) Q E s:=by
 obtain⟨b,g,d,t,os⟩:=s;have a:=I.type (M:=model j w);have c:=looks_findIn (M:=model j w) X l;have L2:Looks (model j w) b (hookBefore (.ref C)) none:=looks_hook X J;have e:=looks_find (M:=model j w) X I p;have f:Looks (model j w) b (isInstance (.ref x) (.type "BaseException")) true:=a.andThen (looks_mroIn X o);have nb:(onTheHeap (Value.ref C)&&Value.builtin "BaseException.__getattribute__" == Value.builtin "object.__getattribute__")=false:=by
  rw[show (Value.builtin "BaseException.__getattribute__" == Value.builtin "object.__getattribute__")=false by decide +kernel];rfl
 have ne:(expr&&onTheHeap (Value.builtin "BaseException.__getattribute__"))=false:=by cases expr<;>rfl
 unfold getAttr getAttrBy;refine aB (wpAny_mkText (cW (aB (a.at (aB (c.at ?_))))));simp only[nb,cU,gK];unfold getAttrByItsOwn;refine aB (L2.at (aB (fX (cW ?_))));unfold callGetattribute;simp only[ne,cU,gK];unfold boundAndCalled;rw[gB.ga.bind];refine aB (aF ?_);show wpAny _ _ (call (Value.builtin "BaseException.__getattribute__") [Value.ref x,Value.str name t]) _ _ _;refine iN (hZ gB.ga.plain PySem.F.entry_bexc_ga (@check_slot (model j w) _ _ ⟨b,g,d,t+1,os⟩ "BaseException.__getattribute__" "BaseException" "__getattribute__" (.ref x) [.str name t] [] _ Lu Ps f (PySem.F.args_bexc_ga (.ref x) (.str name t)) ?_));unfold Builtin.«object.__getattribute__»;rw[O8];refine aB (aF ?_);show wpAny _ _ (attrName (Value.str name t) >>= _) _ _ _;rw[show attrName (Value.str name t)=pure name from rfl];refine aB (aF (aB (a.at (aB (e.at (aF ?_))))));show wpAny _ _ (handedOut v) _ _ _;rw[handedOut_of r];exact aF h
end
section
variable {K:Frag}
theorem x_set {cd:ClassData}(X:K.In s.heap) (T:s.heap.get? x=some r) (U:r.cls = .ref C) (hd:r.dict=none) (l:r.data = .fields vs)
  (aa:findIn K (.ref C) "__setattr__" = some (some (.builtin "object.__setattr__"))) (J:clsIn K C=some cd) (hh:cd.hasDict=true) (hO:mroIn K C (.type "object")=some true) (hp:refuseLoop (.ref x) "__setattr__" cd.mro=pure ()) (hn:findIn K (.ref C) name=some none)
  (k:∀ p ab,p.get? x=some { r with dict:=some s.heap.objs.size }->p.Ns1 s.heap.objs.size (λy=>if y=name then some v else none)->(∀ b o,b≠x->s.heap.get? b=some o->p.get? b=some o)->Q () { s with heap:=p,toks:=ab }) :
  wpAny (model j w) A (setAttr (.ref x) name v) Q E s:=by
 obtain⟨a,g,d,t,os⟩:=s;have c:=iF;have I:InstAt a x r C none:=⟨T,U,by unfold notCls;rw[l],by rw[hd];trivial⟩;have n:=I.type (M:=model j w);have z:=looks_findIn (M:=model j w) X aa;have L2:Looks (model j w) a (isInstance (.ref x) (.type "object")) true:=n.andThen (looks_mroIn X hO);have B:Looks (model j w) a (mroOf (.ref C)) cd.mro:=(looks_clsIn X J).andThen .now;have D:=looks_findIn (M:=model j w) X hn;unfold setAttr;refine aB (wpAny_mkText ?_);refine aB (aB (aB (n.at (z.at (cW (aB ?_))))));rw[c.slot.bind];refine aF (aB ?_);show wpAny _ _ (call (Value.builtin "object.__setattr__") [Value.ref x,Value.str name t,v]) _ _ _;refine iN (hZ c.slot.plain c.entry (@check_slot (model j w) _ _ ⟨a,g,d,t+1,os⟩ "object.__setattr__" "object" "__setattr__" (.ref x) [.str name t,v] [] _ c.kind c.split L2 (c.args (.ref x) (.str name t) v) ?_));rw[osa_eq,refuse_eq];refine aB (aB (n.at (aB (B.at ?_))));rw[hp];refine aF (aB (n.at (aB (D.at (aB (aF ?_))))));show wpAny _ _ (storeInOwnDict (.ref x) (.ref C) (.str name t) name v _) _ _ _;obtain⟨oc,ae,ac,m⟩:=r;simp only at U hd l;subst U hd l;have h:x≠a.objs.size:=cD (aY T);unfold storeInOwnDict;refine aB (aF ?_);show wpAny _ _ (ownDictForStores (.ref x) >>= _) _ _ _;refine aB ?_;unfold ownDictForStores instanceDict;refine aB (wpAny_loadPart T ?_);dsimp only;refine aB ((looks_clsIn X J).at ?_);rw[hh];refine aB (wpAny_alloc' ?_);have i:(a.push { cls:=.type "dict",data:=.dict #[] }).get? x=some { cls:=.ref C,dict:=none,data:=.fields vs,slots:=m }:=aE _ T;refine aB (wpAny_update' i ?_);refine aF ?_;have S:((a.push { cls:=.type "dict",data:=.dict #[] }).update x λo=>{ o with dict:=some a.objs.size }).get? x=some { cls:=.ref C,dict:=some a.objs.size,data:=.fields vs,slots:=m }:=cV _ i rfl;have R:((a.push { cls:=.type "dict",data:=.dict #[] }).update x λo=>{ o with dict:=some a.objs.size }).get? a.objs.size=some { cls:=.type "dict",data:=.dict #[] }:=(Heap.get?_update_ne _ _ _ _ h.symm).trans (Heap.get?_push_at rfl rfl);have nd:((a.push { cls:=.type "dict",data:=.dict #[] }).update x λo=>{ o with dict:=some a.objs.size }).Ns a.objs.size (λ_=>none):=⟨_,#[],_,R,rfl,λe Z=>absurd Z (by simp),λ_=>rfl⟩;show wpAny _ _ (storeInDict a.objs.size (.str name t) name v) _ _ _;unfold storeInDict newKeyGuard;refine aB (aF (aB (wpAny_nsSet1 (Heap.Ns1.of_empty nd) λp f u=>?_)));obtain⟨oD,eD,pD,V,W,Y⟩:=f.count (Within.cons name v Within.nil);refine aB (wpAny_lookBehind V (by rw[W];exact pastItsLine_dict (bU Y (by rw[cQ,cS,jT];omega))) ?_);refine aF ?_;refine aF (aF (k p _ ((u.2 x h).trans S) ?_ λb o nb q=>?_))
 .obtain⟨o',O,N,F,G,H,P,L⟩:=f;exact⟨o',O,N,F,G,H,P,λy=>by rw[L y]⟩
 .exact (u.2 b (cD (aY q))).trans ((Heap.get?_update_ne _ _ _ _ nb).trans (aE _ q))
end
end PySem.W
namespace PySem
section
variable {os:OsState}
variable {sub:Aa Ac}
theorem DY (F:ExcBaseFacts B ac j l) (T:OwnTail h l bm) (hz:args.length<=sizeLine)
  (cC:h.get? C=some (excClassObj nm q C N bs bm J sn sub ab aa dd k0 k1 k2 k3 k5 I)) (r:h.get? e=some (qX C t0))
  (k:∀ p t',p.get? e=some (qX C t')->(∀ b o,b≠e->h.get? b=some o->p.get? b=some o)->Q .none ⟨p,g,d,t,os⟩) :
  wpAny (model U w) A (call (.builtin j) (.ref e::args)) Q E ⟨h,g,d,t,os⟩:=by
 refine iN (hZ F.init.plain F.initEntry (wpAny_check_init_subU F T cC r rfl ?_));have c:=aY r
 wp_walk
 refine k _ h.objs.size ?_ λb o nb a=>?_
 .rw[cV _ (aE _ r) rfl];rfl
 .rw[cY _ _ (eZ nb)];exact aE _ a
end
end PySem
namespace L2
open PySem PySem.Spec PyProof.Rows
section
variable {X:Cx}
theorem Ir {K:kM}:∀ {l:Aa Int}{g:Aa Ac},kY (l.map V.int) g->∃ j:Array (Int×Tok),g.toArray=intItems j/\l=j.toList.map (·.1)
 | [],_,.nil=>⟨#[],by simp[intItems],rfl⟩
 | n::l,_,.cons r c=>by
  obtain⟨t,rfl⟩:=r;obtain⟨j,a,b⟩:=Ir (K:=K) c;refine⟨(⟨(n,t)::j.toList⟩:Array (Int×Tok)),?_,by rw[b];rfl⟩;have:(intItems j).toList=_:=(cH Array.toList a).symm;unfold intItems at this |-;refine Array.toList_inj.mp ?_;simp only[Array.toList_map] at this |-;rw[aW,this]
theorem Eh (p:l=o.toList.map (·.1)) (g:j<o.size):∃ h:j<l.length,numAt o j=l[j]:=by
 subst p;refine⟨by simpa using g,?_⟩;simp[numAt,g]
theorem X6 (l:X.calm=true):nI X (.builtin "min") (λxs H Q=>∃ (p:Ad) (g:Aa Int),xs=[.ref p]/\lG X.K H p (g.map V.int)/\g≠[]/\∀ m:Int,m∈g->(∀ a∈g,m<=a)->Q (.int m) H):=by
 intro n s Y H xs W Q I r h;obtain⟨p,g,rfl,B,f,q⟩:=h;obtain⟨u,rfl,N⟩:=sZ r;cases N;obtain⟨E,M,L,P⟩:=I.list B;obtain⟨b,e,d⟩:=Ir (K:=X.K) M;have i:0<b.size:=by
  rcases Nat.eq_zero_or_pos b.size with z | z
  .exfalso;apply f;rw[d];simp[Array.size_eq_zero_iff.mp z]
  .exact z
 refine min_intList (xs:=b) (I.ok.hd l) (e▸L.isList) i λv O S D A=>?_
 obtain⟨t,rfl⟩:=intItems_at (xs:=b) D;have c:=argBest_lt (numAt b) (b.size-1);obtain⟨G,w⟩:=Eh d (eR c.1 (show b.size-1<b.size by omega));refine⟨.int _,H,I.kept A,⟨t,rfl⟩,q _ (w▸eT G) λa y=>?_⟩;obtain⟨j,k,rfl⟩:=jL y;have F:j<b.size:=by rw[d] at k;simpa using k
 obtain⟨R,x⟩:=Eh d F;exact x▸c.2 j (by omega)
theorem Ws (l:X.calm=true):nI X (.builtin "max") (λxs H Q=>∃ (p:Ad) (g:Aa Int),xs=[.ref p]/\lG X.K H p (g.map V.int)/\g≠[]/\∀ m:Int,m∈g->(∀ a∈g,a<=m)->Q (.int m) H):=by
 intro n s Y H xs W Q I r h;obtain⟨p,g,rfl,B,f,q⟩:=h;obtain⟨u,rfl,N⟩:=sZ r;cases N;obtain⟨E,M,L,P⟩:=I.list B;obtain⟨b,e,d⟩:=Ir (K:=X.K) M;have i:0<b.size:=by
  rcases Nat.eq_zero_or_pos b.size with z | z
  .exfalso;apply f;rw[d];simp[Array.size_eq_zero_iff.mp z]
  .exact z
 refine max_intList (xs:=b) (I.ok.hd l) (e▸L.isList) i λv O S D A=>?_
 obtain⟨t,rfl⟩:=intItems_at (xs:=b) D;have c:=argBest_gt (numAt b) (b.size-1);obtain⟨G,w⟩:=Eh d (eR c.1 (show b.size-1<b.size by omega));refine⟨.int _,H,I.kept A,⟨t,rfl⟩,q _ (w▸eT G) λa y=>?_⟩;obtain⟨j,k,rfl⟩:=jL y;have F:j<b.size:=by rw[d] at k;simpa using k
 obtain⟨R,x⟩:=Eh d F;exact x▸c.2 j (by omega)
theorem AR:∀ {j:Aa Af}{g:Aa Ac},kY (j.map V.str) g->StrsAre g j:=by
 intro j;induction j with
 | nil=>intro g r;cases r;exact .nil
 | cons y r c =>
  intro g h;cases h with
  | cons a b =>
   obtain⟨t,rfl⟩:=a;exact .cons _ _ (c b)
end
mutual
inductive DatV (K:kM) (H:Hp):V->PyData->Prop where
 | e:DatV K H .e .none
 | b (b:Bool):DatV K H (.b b) (.bool b)
 | int (i:Int):DatV K H (.int i) (.int i)
 | str (x:Str):DatV K H (.str x) (.str x)
 | l {a:Addr} {xs:List V} {ds:List PyData}:lG K H a xs->DatVs K H xs ds->DatV K H (.ref a) (.list ds)
 | t {a:Addr} {xs:List V} {ds:List PyData}:lZ K H a xs->DatVs K H xs ds->DatV K H (.ref a) (.tuple ds)
inductive DatVs (K:kM) (H:Hp):List V->List PyData->Prop where
 | nil:DatVs K H [] []
 | cons {x:V} {d:PyData} {xs:List V} {ds:List PyData}:DatV K H x d->DatVs K H xs ds->DatVs K H (x::xs) (d::ds)
end
section
variable {X:Cx}
mutual
theorem DatV.reads (I:Inv X g j H s):∀ {x:V}{d:PyData}{u:Ac},DatV X.K H x d->kR x u->∃ as,Reads s.heap u d as
 | _,_,_,.e,r=>by cases r;exact⟨_,.none⟩
 | _,_,_,.b b,r=>by cases r;exact⟨_,.bool b⟩
 | _,_,_,.int i,r=>by obtain⟨t,rfl⟩:=r;exact⟨_,.int i t⟩
 | _,_,_,.str x,r=>by obtain⟨t,rfl⟩:=r;exact⟨_,.str x t⟩
 | _,_,_,.l a f,r=>by
  cases r;obtain⟨k,m,⟨o,n,e,c,_,d⟩,_⟩:=I.list a;obtain⟨as,h⟩:=DatVs.reads I f m;exact⟨_,.list e c d (by simpa using h)⟩
 | _,_,_,.t a f,r=>by
  cases r;obtain⟨k,m,⟨o,e,c,n,d⟩,_⟩:=I.tuple a;obtain⟨as,h⟩:=DatVs.reads I f m;exact⟨_,.tuple e c d (by simpa using h)⟩
theorem DatVs.reads (I:Inv X j p H s):∀ {o:Aa V}{g:Aa PyData}{l:Aa Ac},DatVs X.K H o g->kY o l->∃ as,ReadsAll s.heap l g as
 | _,_,_,.nil,.nil=>⟨_,.nil⟩
 | _,_,_,.cons h c,.cons r d=>by
  obtain⟨as,a⟩:=DatV.reads I h r;obtain⟨bs,b⟩:=DatVs.reads I c d;exact⟨_,.cons a b⟩
end
end
section
variable {X:Cx}
def Hj (K:kM) (neg:Bool):R2:=λx y H Q=>∃ a c,DatV K H x a/\DatV K H y c/\a.canLay0=true/\c.canLay0=true/\min a.depth c.depth<=60/\Q (.b (if neg then !PyData.eqv a c else PyData.eqv a c)) H
theorem Yj (g:X.A.units+64<cLine):lF X (compareOp .Eq) (Hj X.K false):=by
 intro a s B H x y v u Q I m n h;obtain⟨t,w,c,d,e,f,z,q⟩:=h;obtain⟨as,i⟩:=c.reads I m;obtain⟨bs,k⟩:=d.reads I n;exact SeqAt.compareEq_reads i k e f (by omega) ⟨.b _,H,I,rfl,q⟩
theorem FY (g:X.A.units+64<cLine):lF X (compareOp .NotEq) (Hj X.K true):=by
 intro a s B H x y v u Q I m n h;obtain⟨t,w,c,d,e,f,z,q⟩:=h;obtain⟨as,i⟩:=c.reads I m;obtain⟨bs,k⟩:=d.reads I n;exact SeqAt.compareNe_reads i k e f (by omega) ⟨.b _,H,I,rfl,q⟩
def Dy (K:kM) (neg:Bool):R2:=λx y H Q=>∃ (a b:Ad) (c:Aa V),x = .ref a/\y = .ref b/\lG K H a c/\lG K H b []/\Q (.b (if neg then !c.isEmpty else c.isEmpty)) H
theorem My (g:X.A.units+64<cLine):lF X (compareOp .Eq) (Dy X.K false):=by
 intro c s M H x y v u Q I F G h;obtain⟨a,b,L,rfl,rfl,f,z,q⟩:=h;cases F;cases G;obtain⟨B,D,m,_⟩:=I.list f;obtain⟨k,E,n,_⟩:=I.list z;cases E;have t:∀ d,d=L.isEmpty->EP X c M Q (.bool d) s:=λd e=>⟨.b d,H,I,rfl,by subst e;exact q⟩
 cases D with
 | nil=>exact SeqAt.RcAt.lists (e:=λ_=>true) m.isList n.isList rfl (by omega) (λi f _=>by simp at f) X.prog X.w _ _ (t _ (by simp))
 | cons r N=>exact SeqAt.RcAt.lists_lengths m.isList n.isList (by simp) (by omega) X.prog X.w _ _ (t _ rfl)
end
end L2
namespace L2
open PySem PySem.Spec PyProof.Rows
section
variable {X:Cx}
theorem Vl (z:Af):z.cps.toList.length=z.length:=by
 rw[fQ];rfl
theorem Xx:nI X (.type "dict") (λj H Q=>∃ (a:Ad) (g:Aa (gV×V)),j=[.ref a]/\Rd H a (.k g)/\∀ p,H p=none->Q (.ref p) (upd H p (.k g))):=by
 intro b s n H j m Q I r h;obtain⟨a,g,rfl,d,q⟩:=h;obtain⟨u,rfl,f⟩:=sZ r;cases f;exact Y9 I d λp i e c=>⟨.ref p,_,c,rfl,q p e⟩
end
def tW (z:Af):It:=⟨λi _=>i<z.length,λi H x a=>a=H/\∃ c,z.cps[i]?=some c/\x = .str ⟨#[c]⟩,λi _=>z.length<=i⟩
theorem P2 {P:Ah}{K:kM}(z:Af) (t:Tok) (it:Ad):Turn P w K tg (tW z) [it] it (λi h=>h.IsStrIter it "str_ascii_iterator" z t i) where
 mem:=by simp
 obj:=λi h st b hb=>by
  have e:b=it:=by simpa using hb
  subst e;obtain⟨o,e,c,d⟩:=st;exact⟨o,e,λv z=>by rw[d] at z;cases z⟩
 keep:=λi h h' st k=>by
  obtain⟨o,e,r⟩:=st;exact⟨o,k it (by simp) o e,r⟩
 item:=by
  intro X hP hw hK hc i pins s σ H E I hf st hg;subst hP hw hK;have hg:i<z.length:=hg;obtain⟨f0,f1,f2,f3,f4,f5⟩:=hf it (by simp);have hz:z.cps[i]?=some (z.cps[i]'hg):=dU hg;refine wpAny_pyNext_ascii_item st hz λh' st' sb=>?_
  have I1:Inv X pins σ H { s with heap:=h',toks:=s.toks+1 }:=I.turned (t':=s.toks+1) (λb o hb e=>(sb.2 b hb).trans e) f0 f1 f3 f4 f5;obtain⟨o,e,c,d⟩:=id st';exact⟨_,rfl,Bk (s:={ s with heap:=h',toks:=s.toks+1 }) e c d (by decide) ⟨.str ⟨#[z.cps[i]'hg]⟩,H,I1,⟨_,rfl⟩,⟨rfl,_,hz,rfl⟩,st',λb hb=>(hf b hb).1⟩⟩
 done:=by
  intro X hP hw hK hc i pins s σ H E I hf st hg;subst hP hw hK;have hg:z.length<=i:=hg;obtain⟨f0,f1,f2,f3,f4,f5⟩:=hf it (by simp);exact wpAny_pyNext_ascii_end (I.ok.hd hc) st (iU (by exact hg)) λh' eb=>⟨rfl,I.turned (t':=s.toks) (λb o hb e=>eb b o hb e) f0 f1 f3 f4 f5⟩
 self:=λ_ _ _ _ _ st h=>wpAny_pyIter_striter_ascii st h
section
variable {X:Cx}
def BV (g:TE):TI:=λb H R=>g b H λx a=>∃ z:Af,x = .str z/\z.cps.all (·<128)=true/\R (tW z) a
theorem CU (g:PE X l j):PI X o l (BV j):=by
 intro a s k H R I h;refine kT (g a s k H _ I h) λv c f=>?_
 obtain⟨x,i,d,y,z,n,u,q⟩:=f;subst n;obtain⟨t,rfl⟩:=y;refine wpAny_pyIter_ascii u ?_;have m:Inv X a k i { c with heap:=c.heap.push { cls:=.type "str_ascii_iterator",data:=.fields #[.str z t,.int 0 0] } }:=d.kept (t':=c.toks) λb A q=>aE _ q
 refine⟨c.heap.objs.size,[c.heap.objs.size],_,tW z,i,rfl,m,P2 z t _,⟨_,bL _ rfl,rfl,rfl⟩,λb w=>?_,q⟩;have e:b=c.heap.objs.size:=by simpa using w
 subst e;exact d.fpOk (bD _) (d.hok.fresh (bD _))
end
end L2
namespace PySem
open PyProof.Rows L2
section
theorem BH {s g:Ae}(a:g.gens=s.gens) (b:g.drawn=s.drawn) (c:g.os=s.os):g={ s with heap:=g.heap,toks:=g.toks }:=by
 cases s;cases g;cases a;cases b;cases c;rfl
end
theorem N2:entryFor table "dict.update.loop" = some Builtin.«dict.update.loop»:=entryFor_of_tree (by kernel_rfl)
theorem D3:plainId "dict.update.loop" = true:=by decide +kernel
theorem DG:typeLookup (.type "list") "keys" = pure none:=am_miss_of_fast (by decide +kernel)
section
theorem Sb
  (l:s.heap.get? a=some { cls:=.type "list",dict:=none,data:=.seq j n,slots:=r }) (calm:A.handled=none) (o:∀ p C e,Heap.NewAttrErr s.heap p e (.ref a) "keys" -> E (.ref e) { s with heap:=p,toks:=C }) :
  wpAny (model g w) A (boundAndCalled (.builtin "list.__getattribute__") (.ref a) (.str "keys" u)) Q E s:=by
 have ask:wpAny (model g w) A (call (.builtin "list.__getattribute__") [.ref a,.str "keys" u]) Q E s :=
  jO iH ⟨_,l,rfl⟩ am_entry_list_getattribute (F.args_list_getattribute_2 _ _) (meets_getattribute_miss_list a j n r "keys" u DG (by decide +kernel)) ⟨l,calm,o⟩
 unfold boundAndCalled;rw[iH.bind (.ref a)];exact aB (aF ask)
theorem T5 (t:s.TypeIs (.ref e) "AttributeError") (j:E (.ref e) s) :
  wpAny (model g w) A (getattributeRaised o name (.type "list") (.ref e) none false false) Q E s:=by
 have last:wpAny (model g w) A (hookOrError o name (.ref e) false false none) Q E s:=aB (wpAny_throw j);have a:hookBehind (.type "list") none=pure none:=am_list_getattr_none;unfold getattributeRaised;refine aB (jE t sub_AttributeError ?_);rw[aU rfl,a];exact aB (aF last)
theorem BI
  (l:s.heap.get? a=some { cls:=.type "list",dict:=none,data:=.seq I n,slots:=J }) (calm:A.handled=none) (C:∀ j p e,Heap.NewExcOf s.heap j e "AttributeError" -> Q none { s with heap:=j,toks:=p }) :
  wpAny (model g w) A (getAttr? (.ref a) "keys") Q E s:=by
 have c:∀ j p e,Heap.NewAttrErr s.heap j e (.ref a) "keys" -> (∃ o,j.get? e=some o/\o.cls = .type "AttributeError")/\Q none { s with heap:=j,toks:=p }:=λj p e x=>by
  obtain⟨_,_,y⟩:=x.there;exact⟨⟨_,y,rfl⟩,C j p e x.of⟩
 let d:Ae:={ s with toks:=s.toks+1 };let b:Except Ac Ac->Ae->Prop:=λr i=>wpAny (model g w) A (match r with | .ok v=>pure (some v) | .error e=>do if <- isInstance e (.type "AttributeError") then pure none else throw e) Q E i
 have mB:wpAny (model g w) A (getAttrBy (.ref a) (.str "keys" s.toks) false) (λv=>b (.ok v)) (λe=>b (.error e)) d:=by
  refine cW (aB (wpAny_typeOf (T := "list") ⟨_,l,rfl⟩ (aB (gL iH.lookup ?_))));have own:wpAny (model g w) A (getAttrByItsOwn (.ref a) (.str "keys" s.toks) (.type "list") (.builtin "list.__getattribute__") false false) (λv=>b (.ok v)) (λe=>b (.error e)) d:=by
   refine aB (aF (aB (fX (cW (Sb (s:=d) l calm λj p e x=>?_)))));obtain⟨⟨o,f,h⟩,q⟩:=c j p e x;exact T5 ⟨o,f,h⟩ (aB (jE (T := "AttributeError") ⟨o,f,h⟩ sub_AttributeError (aF q)))
  exact own
 exact aB (wpAny_mkText (aB (fX mB)))
end
section
variable {R:Result->Ae->Prop}{P:Nat->Ac->Prop}{St:Nat->Ae->Prop}
theorem DB (W:WalksS j w A.in1 J fp l G n P St) (d:Ad) (I:d∉fp) (C:Ag) (M:Nat->Ag->Prop) (U:∀ i h p,(∀ b o,b∉l->h.get? b=some o->p.get? b=some o)->M i h->M i p)
  (hT:∀ i v,i<n->P i v->∃ (t:Ad) (o:Obj) (m:Nat) (r x:Ac),v = .ref t/\t∉d::l/\C.get? t=some o/\o.cls = .type "tuple" /\ o.data = .seq #[r,x] m /\ ∀ (s:Ae) (Q:Unit->Ae->Prop) (E:Ac->Ae->Prop),(∀ b o,b∉d::l->C.get? b=some o->s.heap.get? b=some o)->M i s.heap ->(∀ p c,M (i+1) p->Heap.SameBut d s.heap p->Q () { s with heap:=p,toks:=s.toks+c })->wpAny (model j w) A.in1 (dictSet d r x) Q E s) :
  ∀ (k i:Nat) (s:Ae),n-i=k->i<=n->St i s->(∀ b o,b∉d::l->C.get? b=some o->s.heap.get? b=some o)->M i s.heap ->
   (∀ g,Moved (d::l) G s g->M n g.heap->R (.ok (.ret .none)) g) ->
   codeAny (model j w) A (.builtin "dict.update.loop" ⟨[.ref d,.ref J,.int (i:Int) 0,.none],[]⟩) R s:=by
 have q:∀ b∈l,b∈d::l:=λb z=>aZ _ z
 intro k;induction k with
 | zero =>
  intro i s hk hi st f L K;have ei:i=n:=by omega
  subst ei;refine codeAny_builtin N2 ?_;rw[Around.under_plainId D3 _];show wpAny _ A.in1 (pyNext (.ref J) >>= _) _ _ s;refine aB (W.done s _ _ st λg D=>?_);show wpAny _ A.in1 (Builtin.Dict.addKeywords d [] >>= _) _ _ g;exact aB (aF (aF (K g (D.mono q) (U _ _ _ D.heap L))))
 | succ k ih =>
  intro i s hk hi st f L K;have B:i<n:=by omega
  refine codeAny_builtin N2 ?_;rw[Around.under_plainId D3 _];show wpAny _ A.in1 (pyNext (.ref J) >>= _) _ _ s;refine aB (W.item i s _ _ B st λv g hv Z D=>?_);obtain⟨t,o,m,r,x,rfl,ht,V,O,S,put⟩:=hT i v B hv;have a:∀ b o,b∉d::l->C.get? b=some o->g.heap.get? b=some o:=λb o u e=>D.heap b o (λz=>u (q _ z)) (f b o u e)
  have y:=a t o ht V;show wpAny _ A.in1 (holding [Value.ref t] _ >>= _) _ _ g;refine aB (cW ?_);refine aB (wpAny_tryCatch ?_);unfold Builtin.Dict.pairItems;refine aB (wpAny_typeOf (T := "tuple") ⟨o,y,O⟩ ?_);rw[aU (by decide)];refine aB (wpAny_seqItems y S ?_);refine aF ?_;show wpAny _ A.in1 (holding [r,x] (dictSet d r x)) _ _ g;refine cW (put g _ _ a (U _ _ _ D.heap L) λp c N Y=>?_);refine aF ⟨plainId_quiet D3 _,?_⟩;have e1:(rawInt ((i:Int)+1))=Value.int ((i+1:Nat):Int) 0:=by rfl
  rw[e1];refine ih (i+1) _ (by omega) B (W.frame _ g _ _ Z (Nat.le_add_right _ _) λb u o e=>?_) (λb o u e=>?_) N λX H F=>?_
  .rw[Y.2 b (λz:b=d=>I (by rw[<- z];exact u))];exact e
  .rw[Y.2 b (λz:b=d=>u (by rw[z];exact aO))];exact a b o u e
  .refine K X (Moved.trans W.gtrans ((D.mono q).then_heap (Nat.le_add_right _ _) λb o u e=>?_) H) F;rw[Y.2 b (λz:b=d=>u (by rw[z];exact aO))];exact e
end
section
variable {K:Type} [DecidableEq K] {knd:KeyKind prog w K}{A:Around}
abbrev Gq (l:Ad):Obj:={ cls:=.type "list_iterator",data:=.fields #[.ref l,.int 0 0] }
abbrev Tp (g:Array Ac) (n:Nat) (j:Array (Ab Ac)):Obj:={ cls:=.type "list",dict:=none,data:=.seq g n,slots:=j }
theorem R7 (t:s.TypeIs (.ref d) "dict") (j:s.heap.get? l=some (Tp r n I)) (calm:A.handled=none)
  (C:∀ g o e,Heap.NewExcOf s.heap g e "AttributeError" -> Q (.again (.builtin "dict.update.loop" ⟨[.ref d,.ref g.objs.size,.int 0 0,.none],[]⟩)) { s with heap:=g.push (Gq l),toks:=o }) :
  wpAny (model prog w) A (Builtin.«dict.__init__» ⟨[.ref d,.ref l],[]⟩) Q E s:=by
 have first:wpAny (model prog w) A (Builtin.Dict.selfAndRest "__init__" ⟨[.ref d,.ref l],[]⟩) (λp b=>p=(d,[Value.ref l])/\b=s) E s:=aB (iZ t (aF ⟨rfl,rfl⟩))
 have a:wpAny (model prog w) A (Builtin.Dict.updateFrom "dict.__init__" d (.ref l) [] .none) Q E s:=by
  refine aB (wpAny_typeOf (T := "list") ⟨_,j,rfl⟩ ?_);rw[aU (by decide)];refine aB (BI j calm λg o e x=>?_);exact aB (wpAny_rule (aB (wpAny_pyIter_list ⟨_,x.keeps _ _ j,rfl,n,rfl⟩ (aF (C g o e x)))))
 exact aB (cT first (λp b q=>by obtain⟨rfl,rfl⟩:=q;exact a) λ_ _ q=>q)
def Co (s:Ae):Ae:={ s with heap:=s.heap.push { cls:=.type "dict",data:=.dict #[] } }
theorem V4 (M:Nat->Ag->Prop) (I:A.handled=none) (C:s.heap.get? l=some o) (hc:o.cls = .type "list") (hd:o.dict=none) (r:o.data = .seq items nl)
  (m0:∀ h:Ag,h.get? s.heap.objs.size=some { cls:=.type "dict",data:=.dict #[] }->M 0 h) (T:∀ i h g,(∀ b o,b<=s.heap.objs.size->h.get? b=some o->g.get? b=some o)->M i h->M i g)
  (U:∀ (i:Nat) v,items[i]?=some v->∃ (t:Ad) (o:Obj) (m:Nat) (p x:Ac),v = .ref t/\s.heap.get? t=some o/\o.cls = .type "tuple" /\ o.data = .seq #[p,x] m /\ ∀ (B:Around) (j:Ae) (Q:Unit->Ae->Prop) (E:Ac->Ae->Prop),(A.units+2<cLine->B.units<cLine)->(∀ b o,s.heap.get? b=some o->j.heap.get? b=some o)->M i j.heap ->(∀ g c,M (i+1) g->Heap.SameBut s.heap.objs.size j.heap g->Q () { j with heap:=g,toks:=j.toks+c })->wpAny (model prog w) B (dictSet s.heap.objs.size p x) Q E j)
  (h:∀ (g:Ag) (J:Nat),M items.size g->(∀ b o,s.heap.get? b=some o->g.get? b=some o)->Q (.ref s.heap.objs.size) { s with heap:=g,toks:=J }) :
  wpAny (model prog w) A (call (.type "dict") [.ref l]) Q E s:=by
 obtain⟨oc,od,Z,aa⟩:=o;cases hc;cases hd;cases r;let D:=s.heap.objs.size;have O:(Co s).heap.get? D=some { cls:=.type "dict",data:=.dict #[] }:=bL _ rfl;have ty:(Co s).TypeIs (.ref D) "dict" := ⟨_,O,rfl⟩;have old:∀ b o,s.heap.get? b=some o->(Co s).heap.get? b=some o:=λb o e=>aE _ e
 refine callType_codes F.kt_called_dict (F.kt_typeCall_dict_1 _) F.entry_dict_init (kt_code_dict_new _ (Q₁:=λv N=>v = .ref D/\N=Co s) ⟨rfl,rfl⟩) λv N q=>?_
 obtain⟨rfl,rfl⟩:=q;refine⟨ty,F.args_dict_init_2 _ _,R7 ty (old _ _ C) (by simp[I]) λu J e x=>⟨plainId_quiet D3 _,?_⟩⟩;have d:D<u.objs.size:=aY (x.keeps _ _ O);have H:l<D:=aY C;have keeps:∀ b o,s.heap.get? b=some o->(u.push (Gq l)).get? b=some o:=λb o e=>aE _ (x.keeps _ _ (old b o e))
 have a:∀ {b:Ad},b<D->b∉[D,u.objs.size]:=λ{b} G z=>by
  rcases aK.mp z with q | q
  .exact cD G q
  .exact cD (kA G d) (aH.mp q)
 have n:D∉[u.objs.size,l]:=λz=>by
  rcases aK.mp z with q | q
  .exact cD d q
  .exact Nat.ne_of_gt H (aH.mp q)
 have f:(u.push (Gq l)).IsList l items:=⟨_,keeps _ _ C,rfl,nl,rfl⟩;refine DB ((Walks.list (by simp[I]) u.objs.size l (cD (kA H d)) items).toS) D n s.heap M (λi h g k m=>T i h g (λb o V e=>k b o (λz=>cD (eR V d) (aH.mp z)) e) m) (λi v _ X=>?_) items.size 0 _ (by omega) (fV _) ⟨⟨_,bL _ rfl,rfl,rfl⟩,f⟩ (λb o _ e=>keeps b o e) (m0 _ (aE _ (x.keeps _ _ O))) λj L fin=>?_
 .obtain⟨t,ot,m,p,y,rfl,P,r1,r2,put⟩:=U i v X;exact⟨t,ot,m,p,y,rfl,a (aY P),P,r1,r2,λN S R Y=>put _ N S R (λW=>by simpa using W) λb o e=>Y b o (a (aY e)) e⟩
 .have res:=h j.heap j.toks fin λb o e=>L.heap b o (a (aY e)) (keeps b o e)
  rw[show j={ s with heap:=j.heap,toks:=j.toks } from BH L.gens L.drawn L.os];exact⟨rfl,res⟩
theorem Vs (J:A.handled=none) (T:s.heap.get? l=some o) (I:o.cls = .type "list") (hd:o.dict=none) (p:o.data = .seq items nl)
  (hn:more.length=items.size)
  (C:∀ (i:Nat) v,items[i]?=some v->∃ (t:Ad) (o:Obj) (m:Nat) (k:K) (j x:Ac),v = .ref t/\s.heap.get? t=some o/\o.cls = .type "tuple" /\ o.data = .seq #[j,x] m/\knd.is k j=true/\more[i]?=some (k,x)) (U:items.size<=sizeLine)
  (h:∀ (g:Ag) (r:Nat),g.DictOf knd s.heap.objs.size (merged [] more)->(∀ b o,s.heap.get? b=some o->g.get? b=some o)->Q (.ref s.heap.objs.size) { s with heap:=g,toks:=r }) :
  wpAny (model prog w) A (call (.type "dict") [.ref l]) Q E s:=by
 refine V4 (λi g=>g.DictOf knd s.heap.objs.size (merged [] (more.take i))) J T I hd p (λn e=>?_) (λi n y k m=>?_) (λi v H=>?_) λg r m=>h g r (by rw[List.take_of_length_le (by omega)] at m;exact m)
 .obtain⟨z,f,d,u,rest⟩:=Heap.DictOf.new (knd:=knd) s.heap;cases u.symm.trans (bL _ rfl);exact⟨_,f,d,e,rest⟩
 .obtain⟨z,f,d,u,rest⟩:=m;exact⟨z,f,d,k _ _ (bD _) u,rest⟩
 .obtain⟨t,M,m,L,j,x,rfl,n,y,F,c,a⟩:=C i v H;refine⟨t,M,m,j,x,rfl,n,y,F,λB O Q E _ _ G k=>wpAny_dictSet_pairs (hsz:=?_) c G λg q N=>k g 1 (by rw[merged_take_succ [] more i (L,x) a];exact q) N⟩;have D:=merged_length_le ([]:Aa (K×Ac)) (more.take i);rw[cS,dD] at D;omega
end
end PySem
namespace L2
open PySem PySem.Spec PyProof.Rows
section
variable {X:Cx}
def B3 (H:Hp) (j:Aa Ad) (g:Aa (gV×V)):Prop:=Paired (λt (a:gV×V)=>H t=some (.t [kV a.1,a.2])) j g
theorem EQ {P:Ah}(p:nA P w H h):∀ {l:Aa Ad}{g:Aa (gV×V)},B3 H l g->∃ more:Aa (gV×Ac),KV g more /\
  ∀ (i:Nat) t,l[i]?=some t->∃ (o:Obj) (m:Nat) (k:gV) (j x:Ac),h.get? t=some o/\o.cls = .type "tuple" /\ o.data = .seq #[j,x] m/\(oA P w).is k j=true/\more[i]?=some (k,x):=by
 intro l g r;unfold B3 at r;induction r with
 | nil=>exact⟨[],.nil,λi t e=>by simp at e⟩
 | @cons t j l g d G u =>
  obtain⟨more,B,q⟩:=u;obtain⟨z,v,a,⟨o,s,f,n,b⟩,_⟩:=p t _ d;cases a with
  | @cons _ E _ K y a =>
   cases a with
   | @cons _ c _ F A a =>
    cases a;refine⟨(j.1,c)::more,.cons ⟨rfl,A⟩ B,λi D e=>?_⟩;cases i with
    | zero =>
     simp at e;subst e;exact⟨o,n,j.1,E,c,s,f,b,vR y,rfl⟩
    | succ i=>simpa using q i D (by simpa using e)
theorem BP (l:X.calm=true):nI X (.type "dict") (λC H Q=>∃ (p:Ad) (j:Aa Ad) (g:Aa (gV×V)),C=[.ref p]/\lG X.K H p (j.map V.ref)/\B3 H j g/\g.length<=1000/\∀ d,H d=none->Q (.ref d) (upd H d (.k (qS [] g)))):=by
 intro E s σ H C us Q I r h;obtain⟨p,j,g,rfl,U,D,hz,q⟩:=h;obtain⟨u,rfl,B⟩:=sZ r;cases B;obtain⟨c,F,⟨o,n,e,L,M,N⟩,_⟩:=I.list U;have f:=F.length;rw[aA] at f;have Z:j.length=g.length:=D.length;obtain⟨more,G,J⟩:=EQ I.hok D;have T:=G.length;have b:∀ (i:Nat) v,c[i]?=some v->∃ t,j[i]?=some t/\v = .ref t:=by
  intro i v y;have hi:i<c.length:=(aV.mp y).1;have:i<j.length:=by omega
  obtain⟨u,hu,B⟩:=F.get (i:=i) (x:=V.ref j[i]) (by simp[this]);rw[hu] at y;cases y;cases B;exact⟨j[i],by simp[this],rfl⟩
 refine Vs (knd:=oA X.prog X.w) (more:=more) (I.ok.hd l) e L M N (by rw[bF];omega) ?_ (by rw[bF];exact jM (eR (show c.length<=1000 by omega) (by decide))) λh' tk W Y=>?_
 .intro i v y;obtain⟨t,ht,rfl⟩:=b i v (by simpa using y);obtain⟨o,m,k,kv,x,z,O,P,R,S⟩:=J i t ht;exact⟨t,o,m,k,kv,x,rfl,z,O,P,R,S⟩
 .have A:(qS [] g).length<=sizeLine:=by
   have z:=Eg g [];rw[cS] at z;exact jM (eR (show (qS [] g).length<=1000 by omega) (by decide))
  refine⟨.ref s.heap.objs.size,_,I.laid (a:=s.heap.objs.size) (o:=.k (qS [] g)) (t':=tk) Y (bD _) ?_,rfl,q _ I.fresh⟩;exact B2 A (dJ.mpr (eZ (cD I.big))) (G.merge .nil) W
end
def vJ:Aa Ac:=[.type "ValueError",.type "Exception",.type "BaseException",.type "object"]
theorem U9 {K:kM}(X:K.In h) (G:h.Ns N g) (e:PySem.W.nsIn K N n=some (some v)):g n=some v:=by
 obtain⟨o,a,i,m,hd,_,k⟩:=G;unfold PySem.W.nsIn at e;cases q:List.lookup N K with
 | none=>rw[q] at e;cases e
 | some t =>
  rw[q] at e;have z:=X _ _ q;rw[m] at z;cases z;obtain⟨c,d,f,u⟩:=o;cases (show f = .dict a i from hd);cases b:a.toList.find? (λx=>x.key.isStr n) with
  | some s =>
   have e:=(show (match a.toList.find? (λx=>x.key.isStr n) with | some e=>some (some e.val) | none=>if (a.toList.any λx=>x.refKey)=true then none else some none)=some (some v) from e);rw[b] at e;cases e;rw[<- k];unfold nsFind findBy;rw[<- Array.find?_toList,b];rfl
  | none =>
   have e:=(show (match a.toList.find? (λx=>x.key.isStr n) with | some e=>some (some e.val) | none=>if (a.toList.any λx=>x.refKey)=true then none else some none)=some (some v) from e);rw[b] at e;by_cases w:(a.toList.any λx=>x.refKey)=true
   .rw[show (match (none:Ab DictEntry) with | some e=>some (some e.val) | none=>if (a.toList.any λx=>x.refKey)=true then none else some none)=none from aU w] at e;cases e
   .rw[show (match (none:Ab DictEntry) with | some e=>some (some e.val) | none=>if (a.toList.any λx=>x.refKey)=true then none else some none)=some none from aL w] at e;cases e
def qQ (K:kM) (C N:Ad) (g:Aa Ac) (init:Ab Ac):Bool:=match K.lookup C with
 | some o=>o.cls == .type "type" && (match o.data with
  | .cls cd=>cd.mro == .ref C::g&&(o.slots.toList.length == 6&&(o.slots.toList[4]? == some (some (.builtin "ValueError.__new__"))&&(!cd.hasDel&&(cd.hasDict&&(cd.ns == N&&(PySem.W.tailIn K vJ g&&(PySem.W.nsOkIn K N&&PySem.W.nsIn K N "__init__" == some init)))))))
  | _=>false)
 | none=>false
theorem Qx {K:kM}(q:qQ K C N l init=true):∃ j cd g,K.lookup C=some ⟨.type "type",j,.cls cd,g⟩/\cd.mro = .ref C::l/\g.toList.length=6/\g.toList[4]?=some (some (.builtin "ValueError.__new__"))/\cd.hasDel=false/\cd.hasDict=true/\cd.ns=N /\
  PySem.W.tailIn K vJ l=true/\PySem.W.nsOkIn K N=true/\PySem.W.nsIn K N "__init__" = some init:=by
 unfold qQ at q;cases b:K.lookup C with
 | none=>rw[b] at q;cases q
 | some o =>
  rw[b] at q;obtain⟨c,j,d,g⟩:=o;obtain⟨e,a⟩:=eY.mp q;clear q;obtain rfl:c = .type "type" := gC.mp e;cases d<;>first | (cases a;done) | skip
  rename_i cd
  simp only[cK,gC,Bool.not_eq_true'] at a;exact⟨j,cd,g,rfl,a⟩
theorem AL:∀ {l:Aa g}{x:g},l.length=6->l[4]?=some x->∃ a b c d f,l=[a,b,c,d,x,f]
 | [a,b,c,d,_,f],_,_,h=>⟨a,b,c,d,f,by cases h;rfl⟩
structure XCls (h:Heap) (C N:Addr) (bm:List Value) (init:Option Value):Prop where
 ex:∃ nm q bs sn sub ab col dd k0 k1 k2 k3 k5 mN,h.get? C=some (excClassObj nm q C N bs bm true sn sub ab col dd k0 k1 k2 k3 k5 "ValueError.__new__")/\h.Ns N mN/\mN "__init__" = init
 tail:OwnTail h vJ bm
theorem Iy {K:kM}(X:K.In h) (q:qQ K C N g init=true):XCls h C N g init:=by
 obtain⟨m,cd,G,t,f,s,n,b,c,rfl,i,a,d⟩:=Qx q;obtain⟨w,x,y,z,A,u⟩:=AL s n
 ··obtain⟨D,bs,B,E,F,hd,H,sub,k,e,del⟩:=cd;dsimp only at f b a d c i;subst f b c;obtain⟨l⟩:=G;obtain rfl:l=_:=u;refine (⟨⟨D,F,bs,H,sub,k,e,m,w,x,y,z,A,h.nsMap E,X _ _ t,.of_isNs (PySem.W.isNs_of_in X a),?_⟩,PySem.W.tail_of_in X i⟩:XCls h _ _ _ _);cases init with
   | none=>exact PySem.W.nsMap_none_of_in X a d
   | some v=>exact U9 X (.of_isNs (PySem.W.isNs_of_in X a)) d
def uY (e C:Ad):HO:=.ext λh=>∃ t,h.get? e=some (qX C t)
def zS (e C g:Ad):HO:=.ext λh=>∃ t,h.get? e=some { qX C t with dict:=some g }
theorem Lp (h:H a=some o):upd H a o=H:=by
 funext b
 unfold upd;split
 .rename_i z;rw[z];exact h.symm
 .rfl
section
variable {X:Cx}
def EH (a b:Af) (g:TE):TE:=λe H Q=>g e H λy d=>∃ x:Af,y = .str x/\(∀ c∈x.cps.toList,c<16 ^ 8)/\x.length<=1000/\∀ z:Af,Q (.str z) d
theorem AN (g:PE X e l) (o:a.length<=1000:=by decide +kernel) (p:b.length<=1000:=by decide +kernel):PE X (.JoinedStr [.Constant (.str a) i r,.FormattedValue e 114 none C,.Constant (.str b) j J] pos) (EH a b l):=by
 intro c s A H Q I h;have big:20000<=sizeLine:=by decide
 have m:(Str.empty++a).length=a.length:=by rw[iJ];simp[Str.empty,Str.length]
 refine wpAny_JoinedStr ?_;refine fZ ⟨a,_,rfl,by omega,?_⟩;refine wpAny_FormattedValue_repr (kT (g c _ A H _ (I.tok _) h) λu F d=>?_);obtain⟨y,f,k,z,x,v,w,E,q⟩:=d;subst v;obtain⟨t,rfl⟩:=z;have D:=StrLaws.reprText_len x w;have n:(Str.empty++a++reprText x).length=a.length+(reprText x).length:=by rw[iJ,m]
 have B:(Str.empty++a++reprText x++b).length=a.length+(reprText x).length+b.length:=by rw[iJ,n]
 refine wpAny_pyReprObj_str (hsz:=by omega) (wpAny_formatField_str (hx:=by omega) ?_ ?_)
 .refine⟨_,_,rfl,by omega,fZ ⟨b,_,rfl,by omega,⟨by omega,.str _,f,?_,⟨_,rfl⟩,q _⟩⟩⟩;exact ((k.tok _).tok _).tok _
 .refine⟨_,_,rfl,by omega,fZ ⟨b,_,rfl,by omega,⟨by omega,.str _,f,?_,⟨_,rfl⟩,q _⟩⟩⟩;exact (((k.tok _).tok _).tok _).tok _
end
theorem Qq {P:Ah}(g:h.get? e=some (qX C t)):nB P w H h e (uY e C):=⟨⟨t,g⟩,⟨_,g⟩,λ_ _ ⟨t,z⟩ k=>⟨t,k _ z⟩⟩
theorem Tw {P:Ah}(g:h.get? e=some { qX C t with dict:=some j }):nB P w H h e (zS e C j):=⟨⟨t,g⟩,⟨_,g⟩,λ_ _ ⟨t,z⟩ k=>⟨t,k _ z⟩⟩
section
variable {X:Cx}
def Vo (K:kM) (j g:TE):TE:=λb H Q=>j b H λx c=>g b c λy a=>∃ (e C N:Ad) (d:Aa Ac) (i:Ab Ac) (z:Af),x = .ref e/\y = .str z/\a e=some (uY e C)/\qQ K C N d i=true/\Q .e a
theorem Nl {CE:Ad}(U:Gl X x) (hm:X.mg x=some (.ref CE)) (r:PySem.W.specialIn X.K (.ref CE) "__getattribute__" = some (some (.builtin "type.__getattribute__")))
  (J:PySem.W.readsIn X.K CE (.type "type")=true) (p:PySem.W.findCls X.K (.ref CE) (.type "type") "__init__" = some (PySem.W.CFound.val (.builtin "ValueError.__init__"))) (hs:PE X j ts) (T:PE X g tf) (m:M2 X (.Name x np) "__init__" apos j g pos)
  (l:(x == ("__debug__" : Af))=false:=by decide):PE X (.Call (.Attribute (.Name x np) "__init__" apos) [j,g] [] pos) (Vo X.K ts tf):=by
 intro a s w H Q I h;rw[arm_eval_Call,m.base];refine aB (At I U hm ?_ l);refine aB (iD ?_);have b:methodCallForm (([j,g]:Aa Expr).length+([]:Aa Keyword).length) (backTo pos (starEach [j,g] X.env)) (backToKw pos (keywordEach [] X.env))=true:=m.few;have d:methodCallPos true (.Name x np) X.env apos pos=pure pos:=by unfold methodCallPos;simp[m.line]
 unfold methodCall;rw[b];refine aB (cW ?_);refine PySem.W.method_cls I.kIn r (PySem.W.cls_value I.kIn J p rfl ?_);refine aB (gL d ?_);rw[m.trees];refine gY rfl (jH (gX (kT (hs a _ w H _ (I.tok _) h) λu V ⟨y,A,D,S,P⟩ =>gX (kT (T a V w A _ D P) λM Y ⟨z,B,f,rz,e,C,N,bm,i,zz,G,L,k,xc,R⟩=>Calls.spliced_nil ?_))));subst G L;obtain rfl:u=Value.ref e:=S;obtain⟨⟨t0,n⟩,_,_⟩:=f.hok e _ k;have v:=Iy f.kIn xc;obtain⟨nm,q,bs,sn,sub,ab,F,dd,k0,k1,k2,k3,k5,mN,E,cN,ci⟩:=v.ex;obtain⟨h3,g3,d3,Z,O⟩:=Y;refine DY gE v.tail (show ([M]:Aa Ac).length<=sizeLine by show 1<=sizeLine;decide) E n λh' t' c keep=>?_
 have t:=f.write (x:=e) (e:=e) (o:=uY e C) (t':=Z) (by rw[k];exact True.intro) (.inl rfl) keep ⟨_,c⟩ (Qq c);rw[Lp k] at t;exact⟨.e,B,t,rfl,R⟩
def GH (K:kM) (g j:TE) (f:Af):TS:=λD h H=>j h H λy k=>g h k λx b=>∃ (e C N:Ad) (c:Aa Ac) (i:Ab Ac),x = .ref e/\b e=some (uY e C)/\qQ K C N c i=true /\
 PySem.W.findIn K (.ref C) "__setattr__" = some (some (.builtin "object.__setattr__"))/\PySem.W.findIn K (.ref C) f=some none/\(∀ a,refuseLoop (.ref a) "__setattr__" (.ref C::c)=pure ())/\c.contains (.type "object")=true /\
 ∀ d,b d=none->D.nx h (upd (upd b d (.xd [(f,y)])) e (zS e C d))
theorem Lz {K:kM}(q:qQ K C N g i=true):∃ cd,PySem.W.clsIn K C=some cd/\cd.hasDict=true/\cd.mro = .ref C::g:=by
 obtain⟨e,cd,k,d,c,h,f,b,a,_⟩:=Qx q;refine⟨cd,?_,a,c⟩;unfold PySem.W.clsIn;rw[d]
theorem P0 (T:PE X o to) (hv:PE X value tv) (U:swapsWith value (some (.Attribute o f g)) pos.line X.env=pure false):PS X (.Assign [.Attribute o f g] value pos) (GH X.K to tv f):=by
 intro c s O H D I h;refine plainObj_wpAny_Assign_Attribute (kT (hv c s O H _ I h) λu s1 ⟨y,R,S,ry,q⟩=>kT (T c s1 O R _ S q) λov B hz=>?_) U;obtain⟨x,H2,A,rx,e,C,N,bm,i,r,Q,xc,fs,fn,rf,L,q2⟩:=hz;subst r;obtain rfl:ov=Value.ref e:=rx;obtain⟨⟨E,d⟩,_,_⟩:=A.hok e _ Q;obtain⟨cd,m,F,t⟩:=Lz xc;have J:PySem.W.mroIn X.K C (.type "object")=some true:=by
  unfold PySem.W.mroIn;rw[m,jX,t,aL (by simp),List.contains_cons,L,Bool.or_true]
 refine PySem.W.x_set A.kIn d rfl rfl rfl fs m F J (by rw[t];exact rf e) fn λk w g1 g2 g3=>?_
 have ne:B.heap.objs.size≠e:=λz=>absurd (aY d) (by rw[<- z];exact eB _)
 have u1:(k.update e λ_=>qX C E).get? e=some (qX C E):=cV _ g1 rfl;have M:∀ b,b≠e->(k.update e λ_=>qX C E).get? b=k.get? b:=λb n=>cY _ _ (eZ n)
 have G:=A.hok.fresh (bD B.heap.objs.size);have V:=A.laid (a:=B.heap.objs.size) (o:=.xd [(f,y)]) (h':=k.update e λ_=>qX C E) (t':=w) (λb v q=>?_) (bD _) ?_
 rotate_left
 .by_cases n:b=e
  .subst n;rw[d] at q;cases q;exact u1
  .rw[M b n];exact g3 b v n q
 .obtain⟨o',p,l,Z,j⟩:=g2;refine⟨_,⟨o',p,l,by rw[M _ ne];exact Z,j⟩,λP=>?_⟩;by_cases n:P=f
  .subst n;simp only[cR,jF,iM];exact ry
  .have:(P == f)=false:=dJ.mpr n;simp only[cR,this,aL n,List.lookup_nil]
   trivial
 have Y:=V.write (x:=e) (e:=e) (o:=zS e C B.heap.objs.size) (h':=k) (t':=w) (by rw[kX ne.symm,Q];exact True.intro) (.inl rfl) (λb v n q=>by rw[<- M b n];exact q) ⟨_,g1⟩ (Tw g1);exact⟨O,_,Y,q2 _ G⟩
end
section
variable {X:Cx}
def ET (C:Ad) (g:Sp) (t:TA):TE:=λf H Q=>t f H λc b=>c.length<=10/\∀ a,b a=none->g (.ref a::c) (upd b a (uY a C)) (λv d=>v = .e/\Q (.ref a) d) E0
theorem BN (xc:qQ X.K C N bm (some (.ref f))=true) (J:PySem.W.keepIn X.K (.ref C)=true) (hf:X.K.lookup f=some oI) (l:oI.cls = .type "function") (F:FnOk X.prog X.w X.K X.mg X.base lV k f fd T sp) (hr:Room (k+1) X.A) (hg:Gl X x) (hm:X.mg x=some (.ref C)) (hb:sW X.K fd T [])
  (ha:PA X (e::es) t) (j:(x == ("__debug__" : Af))=false:=by decide) (g:StB X e es pos:=by exact {}) :
  PE X (.Call (.Name x p) (e::es) [] pos) (ET C sp t):=by
 intro d s R H Q I h;refine iP (At I hg hm ?_ j);refine PySem.W.callWith_K (h₀:=X.base) I.ok.mod.kin J (kT (ha pos d s R H _ I h) λi s1 ⟨vs,B,m,r,hl,q⟩=>⟨m.kIn,?_⟩) g.a g.b;have P:=Iy m.kIn xc;obtain⟨nm,qn,bs,sn,sub,ab,aa,dd,k0,k1,k2,k3,k5,mN,Z,U,ci⟩:=P.ex;have hz:i.length<=sizeLine:=by rw[<- r.length];exact bU hl (by decide)
 obtain⟨h1,g1,d1,O,z⟩:=s1;refine x_call gE gE.hasB gE P.tail Z U ci (m.kIn _ _ hf) l hz λh' a G mk=>?_
 obtain⟨ta,ea,ae,ac⟩:=mk.there;have na:B a=none:=m.hok.fresh G;have L:=q a na;have y:Inv X d R (upd B a (uY a C)) ⟨h',g1,d1,O,z⟩:=m.laid (a:=a) (o:=uY a C) (t':=O) mk.keeps G (Qq ea);have M:kY (V.ref a::vs) (Value.ref a::i):=.cons rfl r;have n:(Value.ref a::i++[]).length=T.length:=by
  rw[cG,<- M.length];exact F.len _ _ _ _ L
 have D:=hb _ (Value.ref a::i) y.kIn n;rw[cG] at D;refine iN (codeAny_mono (F.run _ X.stack _ _ ⟨Value.ref a::i,[]⟩ (Value.ref a::i) _ _ E0 (hr.make C i []) (y.env0.make C i []) D M L) λrr s' c=>?_);cases rr with
 | error E=>exact c.elim
 | ok fl =>
  cases fl with
  | ret u =>
   obtain⟨v,S,Y,rv,E,q3⟩:=y.after c;subst E;exact⟨rv,⟨V.ref a,S,Y,rfl,q3⟩⟩
  | next=>exact False.elim c
  | brk=>exact False.elim c
  | cont=>exact False.elim c
end
section
variable {P:Ah}{K:kM}{cd:Ac}
def BX (K:kM) (E:XK) (t:TE):TS:=λ_ d H=>t d H λv a=>∃ (e C N b:Ad) (c:Aa Ac) (i:Ab Ac),v = .ref e/\a e=some (zS e C b)/\qQ K C N c i=true/\c.contains (.type "BaseException")=true /\
 ∀ T,a T=none->E (.ref C) (some b) (upd (upd a e (pS e (.ref C) (some b))) T (pE T))
theorem DJ (he:PE (mZ (mJ P w) P w K mg base J l j f cd A g p r E) U t):PS (mZ (mJ P w) P w K mg base J l j f cd A g p r E) (.Raise (some U) none pos) (BX K E t):=by
 intro m s σ H D I h;rw[arm_exec_Raise];refine aB (iD ?_);refine Vp (I.ok.hd rfl) (aB (kT (he m s σ H _ I h) λu S z=>aB (iD (aF ?_))));obtain⟨v,B,c,rv,e,C,N,k,X,i,Z,Q,xc,hB,hE⟩:=z;subst Z;obtain rfl:u=Value.ref e:=rv;have xk:=Iy c.kIn xc;obtain⟨nm,qn,bs,sn,sub,W,F,G,k0,k1,k2,k3,k5,mN,Y,cN,ci⟩:=xk.ex;obtain⟨⟨t0,a⟩,_,_⟩:=c.hok e _ Q;refine⟨e,_,_,C,N,X,nm,qn,bs,true,sn,sub,W,F,G,k0,k1,k2,k3,k5,_,rfl,Y,hB,a,rfl,rfl,rfl,?_⟩;have d:=c.write (x:=e) (e:=e) (o:=pS e (.ref C) (some k)) (h':=S.heap) (t':=S.toks) (by rw[Q];exact True.intro) (.inl rfl) (λ_ _ _ q=>q) ⟨_,a⟩ (J8 a rfl rfl rfl);refine Ys (base:=base) (env:=envOfC l j p.heap.objs.size f cd) (outer:=g) (L:=p.heap.objs.size) c.ok.frames c.stack rfl a rfl rfl λh' T R V O=>?_
 have y:(upd B e (pS e (.ref C) (some k))) e=some (pS e (.ref C) (some k)):=lT;have n:(upd B e (pS e (.ref C) (some k))) T=none:=d.hok.fresh O;have M:B T=none:=c.hok.fresh O;have ne:T≠e:=λz=>by rw[z,y] at n;cases n
 exact⟨e,T,.ref C,some k,_,rfl,d.os,d.bare,Gk d.base R (λb o q z=>Ql q z) (λb z=>by rw[aH.mp z,y];simp) n O,Im d.hok R d.stkFree y (λb z=>.inl (aH.mp z)) V n,V,by rw[kX ne.symm];exact y,lT,hE T M⟩
end
theorem So {K:kM}(X:K.In s.heap) (j:s.heap.get? e=some l) (g:l.cls=cls) (h:PySem.W.exmOne K cls c=some b) (q:Q b s) :
  wpAny M A (excMatches (.ref e) c) Q E s:=by
 obtain⟨a,L2⟩:=PySem.W.exm_cls (M:=M) X h;have d:=PySem.W.exm_ty (M:=M) X h;have f:PySem.W.Looks M s.heap (typeOf (.ref e)) cls:=g▸(PySem.W.Looks.ld j).andThen .now;unfold excMatches;refine aB (d.here ?_);simp only[cU,gK];refine aB (aF ?_);simp only[kE,List.forIn_nil];refine aB (aB (aB (a.here ?_)));simp only[Bool.not_true,cU,gK];refine aF (aF (aB (f.here (aB (aB (aB (L2.here ?_)))))));cases b
 .simp only[cU,gK];exact aF (aF (aF q))
 .simp only[iM];exact aF (aF (aF q))
section
variable {X:Cx}
theorem Sc (I:Inv X g C H s) (J:X.N.Nodup) (T:X.N[j]?=some n) (U:X.env.scope.names.lookup n=some .local)
  (h:∀ l,Inv X g (C.set j none) H l->Q () l):wpAny M A (do bindName X.env n .none;unbindBehindTheSuite X.env n pos) Q E s:=by
 obtain⟨m,hn,hv⟩:=id I.loc;refine wpAny_nameGoes_keeps U hn (by rw[I.ok.kind];rfl) λZ v F sb=>h _ ?_
 have keep:∀ b o,b≠X.env.locals->s.heap.get? b=some o->Z.get? b=some o:=λb o nb q=>(sb.2 b nb).trans q
 refine⟨I.ok,I.os,I.bare,?_,⟨_,F,λi x w S d t=>?_⟩,λx c R=>?_,I.free,I.freeC,λp hp=>?_,λa o e=>?_,by rw[bV];exact I.len⟩
 .have f:∀ b o,X.s₀.heap.get? b=some o->b≠X.env.locals:=λb o e=>cD (bP (aY e) I.ok.above)
  refine⟨λb o q z nf y=>keep b o (f b o q) (I.base.keep b o q z nf y),λb o q z k y=>?_,I.base.free,λb o q y=>?_,I.base.tups,I.base.frzs,I.base.tbls⟩
  .obtain⟨sl,r⟩:=I.base.slot b o q z k y;exact⟨sl,keep b _ (f b o q) r⟩
  .obtain⟨o',r⟩:=I.base.there b o q y;exact⟨o',keep b _ (f b o q) r⟩
 .by_cases G:j=i
  .subst G;by_cases D:j<C.length
   .rw[gW D] at d;cases d
   .rw[jA (by rw[bV];omega)] at d;cases d
  rw[dN G] at d;have xn:x≠n:=λz=>by
   subst z;have l1:=(aV.mp S);have l2:=(aV.mp T);exact G ((List.getElem_inj (J)).mp (l2.2.trans l1.2.symm))
  obtain⟨u,ru,lk⟩:=hv i x w S d t;refine⟨u,ru,?_⟩;rcases lk with⟨K,B⟩ | ⟨K,c,B,o,L,O⟩
  .exact .inl ⟨K,by show (if x=n then v else m x)=some u;rw[aL xn];exact B⟩
  .exact .inr ⟨K,c,B,o,keep c o (I.cne x c B) L,O⟩
 .obtain⟨v',o,L,O⟩:=I.cell x c R;exact⟨v',o,keep c o (I.cne x c R) L,O⟩
 .obtain⟨V,W,P,Y⟩:=I.pin p hp;exact⟨keep _ _ P V,W,P,Y⟩
 .refine (I.hok a o e).stay (λb u k q=>keep b u (λz=>?_) q) (λ_ q=>q) λ_ _ q=>q
  have:=I.free;rcases k with rfl | k
  .rw[z,this] at e;cases e
  .rw[z,this] at k;cases k
abbrev Cx.marked (X:Cx) (e:Ad) (E:Ac->Ae->Prop):Cx:={ X with A:=X.A.mark (some (.ref e)),calm:=false,xe:=E }
theorem Inv.marked (I:Inv X g j H s) (e:Ad) (E:Ac->Ae->Prop):Inv (X.marked e E) g j H s:=by
 obtain⟨ok,q,t,u,v,w,x,y,A,B,a⟩:=I;obtain⟨D,F,G,K,L,M,N,O,P,b,c,d,f,h,i,k,m,n⟩:=ok;exact⟨⟨D,F,G,K,L,M,N,O,(λz=>by cases z),b,c,d,f,h,i,k,m,n⟩,q,t,u,v,w,x,y,A,B,a⟩
theorem Inv.unmarked (ok:X.Ok) (I:Inv (X.marked e E) g j H s):Inv X g j H s:=by
 obtain⟨_,b,c,d,f,h,i,k,m,n,a⟩:=I;exact⟨ok,b,c,d,f,h,i,k,m,n,a⟩
end
theorem DD {X:Cx}(I:Inv X g σ H s) (k:XKeep (tS X.stack) U s.heap j) (r:H e=some (pS e C J)) (p:∀ b∈U,b=e\/H b=some (pE b)) (x:XAt j e C J T fl) (l:s.heap.objs.size<=T) :
  Inv X g σ (upd H T (pE T)) { s with heap:=j }:=by
 have a:=I.hok.fresh l;refine I.call (g':=s.gens) (d':=s.drawn) (t':=s.toks) (ch:=[]) (Gk Un.refl k (λb o _ z=>z) (λb z=>?_) a l) (Im I.hok k I.stkFree r p x a) I.bare (λb z=>absurd z (by simp));rcases p b z with y | y
 .rw[y,r];simp
 .rw[y];simp
theorem Xy {X:Cx}(I:Inv X g p H s) (k:XKeep [] [T] s.heap l) (j:H T=some (pE T)):Inv X g p H { s with heap:=l }:=by
 obtain⟨⟨o,c⟩,_⟩:=I.hok T _ j;obtain⟨d,a⟩:=k.there T o c;have J:=I.write (x:=T) (e:=T) (o:=pE T) (t':=s.toks) (by rw[j];exact True.intro) (.inl rfl) (λb u n q=>k.keep b u q (by simpa using n) (by simp)) ⟨_,a⟩ (Fy a);rw[Lp j] at J;exact J
end L2
namespace PySem.W
open PySem PySem.Calls PyProof.Rows Builtin Builtin.ObjectAttr
structure XFacts (K:Frag) (C:Addr):Prop where
 ga:findIn K (.ref C) "__getattribute__" = some (some (.builtin "BaseException.__getattribute__"))
 gh:findIn K (.ref C) "__getattr__" = some none
 mb:mroIn K C (.type "BaseException")=some true
 mo:mroIn K C (.type "object")=some true
 cl:findIn K (.ref C) "__class__" = some (some (.builtin "object.__class__"))
 cg:specialIn K (.builtin "object.__class__") "__get__" = some (some (.builtin "getset_descriptor.__get__"))
 ct:takesIn K (.builtin "object.__class__")=some true
section
variable {K:Frag}
theorem XFacts.cls (F:XFacts K C):∃ cd,clsIn K C=some cd:=by
 have:=F.mb;unfold mroIn at this;cases h:clsIn K C with
 | none=>rw[h] at this;cases this
 | some cd=>exact⟨cd,rfl⟩
theorem Zo (F:XFacts K C) (X:K.In s.heap) (I:InstAt s.heap x o C l) (h:Q (some (.ref C)) { s with toks:=s.toks+1 }):wpAny (model j w) A (getAttr? (.ref x) "__class__") Q E s:=by
 obtain⟨c,g,d,t,os⟩:=s;obtain⟨cd,b⟩:=F.cls;have k:findObj K C l "__class__" = some (.bind (.builtin "getset_descriptor.__get__") (.builtin "object.__class__")):=by
  unfold findObj;rw[b,F.cl];simp only[jX,F.cg,F.ct]
 have a:=I.type (M:=model j w);have e:=looks_findIn (M:=model j w) X F.ga;have L2:Looks (model j w) c (hookBefore (.ref C)) none:=looks_hook X F.gh;have f:=looks_find (M:=model j w) X I k;have i:Looks (model j w) c (isInstance (.ref x) (.type "BaseException")) true:=a.andThen (looks_mroIn X F.mb);have nb:(onTheHeap (Value.ref C)&&Value.builtin "BaseException.__getattribute__" == Value.builtin "object.__getattribute__")=false:=by
  rw[show (Value.builtin "BaseException.__getattribute__" == Value.builtin "object.__getattribute__")=false by decide +kernel];rfl
 unfold getAttr? getAttrBy? getAttrBy;refine aB (wpAny_mkText (aB (fX (cW (aB (a.at (aB (e.at ?_))))))));simp only[nb,cU,gK];unfold getAttrByItsOwn;refine aB (L2.at (aB (fX (cW ?_))));unfold callGetattribute;simp only[Bool.false_and,cU,gK];unfold boundAndCalled;rw[gB.ga.bind];refine aB (aF ?_);show wpAny _ _ (call (Value.builtin "BaseException.__getattribute__") [Value.ref x,Value.str "__class__" t]) _ _ _;refine iN (hZ gB.ga.plain PySem.F.entry_bexc_ga (@check_slot (model j w) _ _ ⟨c,g,d,t+1,os⟩ "BaseException.__getattribute__" "BaseException" "__getattribute__" (.ref x) [.str "__class__" t] [] _ Lu Ps i (PySem.F.args_bexc_ga (.ref x) (.str "__class__" t)) ?_));unfold Builtin.«object.__getattribute__»;rw[O8];refine aB (aF ?_);show wpAny _ _ (attrName (Value.str "__class__" t) >>= _) _ _ _;rw[show attrName (Value.str "__class__" t)=pure "__class__" from rfl];refine aB (aF (aB (a.at (aB (f.at ?_)))));show wpAny _ _ (bindTo (.builtin "getset_descriptor.__get__") (.builtin "object.__class__") (.ref x) (.ref C)) _ _ _;unfold bindTo;refine aB (cW (iN (class_get X I F.mo ?_)));refine aF ?_;show wpAny _ _ (handedOut (.ref C)) _ _ _;exact aF (aF h)
theorem Px {K:Frag}{cd:ClassData}(h:clsIn K C=some cd):∃ c g j,K.lookup C=some ⟨c,g,.cls cd,j⟩:=by
 unfold clsIn at h;cases a:List.lookup C K with
 | none=>rw[a] at h;cases h
 | some o =>
  rw[a] at h;obtain⟨c,g,b,j⟩:=o;cases b<;>first | (cases h;done) | skip
  cases h;exact⟨c,g,j,rfl⟩
theorem kitx_exc (F:XFacts K C):KitX K (.ref x) (.ref C) (λh=>∃ j g,InstAt h x j C g) where
 ty:=λ_ _ _ ⟨_,_,I⟩=>I.type
 it:=λ_ _ X _=>by
  obtain⟨cd,a⟩:=F.cls;obtain⟨_,_,_,b⟩:=Px a;intro f m i t k q;unfold isType loadHead;exact aB (wpAny_loadPart (k _ _ (X _ _ b)) (aF q))
 ne:=λh e s d n u X c=>by
  obtain⟨cd,a⟩:=F.cls;refine jV.mpr λq=>?_
  obtain rfl:C=e:=Value.ref.inj (gC.mp q);obtain⟨_,_,_,b⟩:=Px a;have z:=(X _ _ b).symm.trans c;cases z
 ca:=λX ⟨_,_,I⟩ k=>Zo F X I k
end
end PySem.W
namespace L2
open PySem PySem.Spec PyProof.Rows
section
variable {X:Cx}
theorem Nk {P:Ah}(j:nA P w H h) (r:H e=some (pS e (.ref C) p)) (hd:∀ g,p=some g->∃ fs,H g=some (.xd fs)):∃ I l,PySem.W.InstAt h e I C l:=by
 obtain⟨⟨f,s,a,b,c,d⟩,_⟩:=j e _ r;cases p with
 | none=>exact⟨f,none,a,b,by unfold PySem.W.notCls;rw[d],by rw[c];trivial⟩
 | some g =>
  obtain⟨fs,k⟩:=hd g rfl;obtain⟨q,⟨o,n,m,i,_⟩,_⟩:=j g _ k;exact⟨f,some o,a,b,by unfold PySem.W.notCls;rw[d],by rw[c];exact i⟩
def Ni (K:kM):Aa V->Hp->VK->Prop:=λi H Q=>∃ (e C:Ad) (h:Ab Ad) (c:V) (d:Ac) (b:Bool),i=[.ref e,c]/\((∃ a,c = .ref a/\d = .ref a)\/∃ n,c = .ty n/\d = .type n)/\H e=some (pS e (.ref C) h)/\(∀ f,h=some f->∃ fs,H f=some (.xd fs))/\PySem.W.XFacts K C/\PySem.W.kitOne K (.ref C) d=some b/\Q (.b b) H
theorem EM:nI X (.builtin "isinstance") (Ni X.K):=by
 intro d s D H B A Q I r h;obtain⟨e,C,x,c,i,b,rfl,v,k,hd,F,m,q⟩:=h;obtain⟨u,w,rfl,t,f⟩:=zR r;cases t;obtain rfl:w=i:=by
  rcases v with⟨a,rfl,rfl⟩ | ⟨n,rfl,rfl⟩
  .exact f
  .exact f
 exact PySem.W.kia_one (PySem.W.kitx_exc F) I.kIn (Nk I.hok k hd) m (λz=>nomatch z) λy=>⟨.b b,H,I.tok _,rfl,q⟩
theorem G7:∀ {as:Aa Ad}{g:Aa Ac},kY (as.map V.ref) g->g=as.map Value.ref
 | [],_,r=>by cases r;rfl
 | a::as,_,r=>by
  cases r with
  | cons b c =>
   cases b;rw[G7 c];rfl
def F8 (K:kM):Aa V->Hp->VK->Prop:=λf H Q=>∃ (e C d:Ad) (c:Ab Ad) (as:Aa Ad) (b:Bool),f=[.ref e,.ref d]/\H d=some (.t (as.map V.ref))/\H e=some (pS e (.ref C) c)/\(∀ a,c=some a->∃ fs,H a=some (.xd fs))/\PySem.W.XFacts K C/\PySem.W.kitAny K (.ref C) (as.map Value.ref)=some b/\Q (.b b) H
theorem Qo:nI X (.builtin "isinstance") (F8 X.K):=by
 intro f s P H O M Q I r h;obtain⟨e,C,D,G,as,b,rfl,m,i,hd,F,k,q⟩:=h;obtain⟨u,N,rfl,y,A⟩:=zR r;cases y;cases A;obtain⟨_,t,B,⟨o,a,c,n,d⟩,_⟩:=I.hok D _ m;obtain⟨E,v,w,x⟩:=o;simp only at c d;subst c d;rw[G7 B] at a;exact PySem.W.kia_tup (PySem.W.kitx_exc F) I.kIn (Nk I.hok i hd) a k (λz=>nomatch z) λL=>⟨.b b,H,I.tok _,rfl,q⟩
theorem Rx {h:Ag}{a:Ad}{g:Af->Ab Ac}{o:Obj}{name:Af}{u:Ac}(j:h.Ns1 a g) (l:h.get? a=some o) (p:g name=some u):PySem.W.lookIn name o=some (some u):=by
 obtain⟨s,i,q,c,d,k,m,f⟩:=j;rw[l] at c;cases c;have z:=f name;rw[p] at z;unfold nsFind findBy at z;rw[<- Array.find?_toList] at z;unfold PySem.W.lookIn;rw[d];cases b:i.toList.find? (λe=>e.key.isStr name) with
 | none=>rw[b] at z;cases z
 | some n=>rw[b] at z;simp only[Option.map_some,jW] at z;simp only[b,z]
theorem AE (r:kR v u):PySem.W.handedIn u=true:=by
 cases v with
 | e=>cases r;rfl
 | b _=>cases r;rfl
 | int _=>obtain⟨t,rfl⟩:=r;rfl
 | str _=>obtain⟨t,rfl⟩:=r;rfl
 | byt _=>obtain⟨t,rfl⟩:=r;rfl
 | flt _=>obtain⟨t,rfl⟩:=r;rfl
 | ref _=>cases r;rfl
 | ty _=>cases r;rfl
def O6 (K:kM) (g:TE) (f:Af):TE:=λd H Q=>g d H λx a=>∃ (e C N b:Ad) (c:Aa Ac) (i:Ab Ac) (fs:Aa (Af×V)) (v:V),x = .ref e/\a e=some (pS e (.ref C) (some b))/\a b=some (.xd fs)/\fs.lookup f=some v/\PySem.W.XFacts K C/\qQ K C N c i=true/\PySem.W.findIn K (.ref C) f=some none/\Q v a
theorem Z6 (j:PE X e r) (g:attributeBase e f X.env (eval e X.env)=eval e X.env):PE X (.Attribute e f pos) (O6 X.K r f):=by
 intro c s T H Q I h;refine Attribute_any_ (kT (j c s T H _ I h) λu p V=>?_) (by rw[arm_eval_Attribute,g]);obtain⟨x,B,d,l,k,C,N,D,U,i,fs,v,E,M,O,P,F,J,fn,q⟩:=V;subst E;obtain rfl:u=Value.ref k:=l;obtain⟨⟨Z,vs,g1,g2,g3,L⟩,_⟩:=d.hok k _ M;obtain⟨mA,a,b⟩:=d.hok D _ O;have z:=b f;rw[P] at z;obtain⟨y,G,A⟩:=z.some_of;obtain⟨o,es,ep,w,m⟩:=id a;have Y:=Rx a w G;obtain⟨cd,n,t,S⟩:=Lz J;have inst:PySem.W.InstAt p.heap k Z C (some o):=⟨g1,g2,by unfold PySem.W.notCls;rw[L],by rw[g3];exact w⟩;have R:PySem.W.findObj X.K C (some o) f=some (.value y):=by
  unfold PySem.W.findObj PySem.W.ownOf;rw[n,fn];simp only[jX,t,iM,Y]
 exact PySem.W.x_attr d.kIn inst F.ga F.gh F.mb R (AE A) ⟨v,B,d.tok _,A,q⟩
end
noncomputable def I3 (o:Ab Af) (N:Aa Af) (kind:Af->Ab NameKind) (g:Scope) (T j:Aa Af) (l:Aa Nat):Bool :=
 decide (g.names.filter (λp=>p.2 == .cell)=o.toList.map λn=>(n,NameKind.cell))&&o.all (λa=>g.names.lookup a == some .cell)&&g.names.all (λp=>p.2 != .free||kind p.1 == some .cell) &&
 g.names.all (λp=>p.2 != .local||g.names.lookup p.1 == some .local) &&
 (j.zip l).all (λp=>decide (N[p.2]?=some p.1)&&g.names.lookup p.1 == some .free)&&j.length == l.length
abbrev yV:=I3 none
noncomputable def qK (T:Aa Af) (g:Aa Nat) (j:St):St:=T.map (λ_=>none)++g.map (λi=>(j[i]?).join)
noncomputable def qA (X:Cx) (p:Aa Af) (g:Scope) (o:Aa (Af×Ad)) (C:Ad) (l:Ae) (j:Hp) (r:Aa Ad):Cx :=
 { prog:=X.prog,w:=X.w,K:=X.K,mg:=X.mg,base:=X.base,A:=X.A,N:=p,s₀:=l,H₀:=j,env:=compEnvC g o C X.env,outer:=X.stack,stack:=X.stack,ex:=r, fn:=λx=>(o.lookup x).isNone,calm:=X.calm,pn:=[],xe:=λ_ _=>False }
def tF (X:Cx) (g:Aa Expr) (t:TT):Prop :=
 ∀ (a:Aa (Ad×Obj)) (s:Ae) (b:St) (H:Hp) (Q:Bool->Hp->Prop),Inv X a b H s->t b H Q ->
  wpAny (model X.prog X.w) X.A (forIn g true λc r=>if r=true then do let ok <- isTrue c X.env (eval c X.env);pure (ForInStep.yield ok) else pure (ForInStep.yield r)) (TP X a b Q) X.xe s
def Ck:TT:=λ_ H Q=>Q true H
theorem Kt {X:Cx}:tF X [] Ck:=λa s b H Q I h=>wpAny_tests_nil ⟨H,I,h⟩
theorem DQ {X:Cx}(h:PT X c t):tF X [c] t:=λa s b H Q I hw=>wpAny_tests_one (h a s b H Q I hw)
def B0 (T:Aa Af) (j:Aa Nat) (J:It) (g:TG) (r:TT) (p:TE) (C:St) (o:Hp) (Q:VK) (D:Ad):Prop :=
 ∃ W:Nat->Nat->Aa V->St->Hp->Prop,(∃ m,W 0 m [] (qK T j C) (upd o D (.l [])))/\∀ i m c h d,W i m c h d ->
  (J.stop i d/\Q (.ref D) d)\/(J.go i d/\∃ (N:St->V->Hp->Prop) (F:St->Hp->Prop),(∀ a v k,N a v k->k D=some (.l c)/\c.length<sizeLine/\∃ f,f<m/\W (i+1) f (c++[v]) a (upd k D (.l (c++[v]))))/\(∀ a e,F a e->∃ f,f<m/\W (i+1) f c a e) /\ ∀ x n,J.yld i d x n->g x h n λa q=>r a q λb e=>if b=true then p a e (N a) else F a e)
def B4 (T:Aa Af) (j:Aa Nat) (p:TI) (g:TG) (o:TT) (l:TE):TE:=λb H Q=>p b H λJ a=>∀ D,a D=none->B0 T j J g o l b a Q D
theorem Ft:∀ (names:Aa (Af×NameKind)) (g:Aa (Af×Ad)),(∀ p∈names,p.2 = .free->∃ c,env.cells.lookup p.1=some c) ->
  (∀ x c,g.lookup x=some c->env.cells.lookup x=some c) ->
  ∃ j,(forIn names g λx r=>if (x.2 == NameKind.free)=true then (cellOf env x.1 >>= λa=>pure (ForInStep.yield ((x.1,a)::r))) else pure (ForInStep.yield r):Sem (Aa (Af×Ad)))=pure j /\
   (∀ x c,j.lookup x=some c->env.cells.lookup x=some c)/\(∀ x,(x,NameKind.free)∈names->(j.lookup x).isSome=true)/\(∀ x,(g.lookup x).isSome=true->(j.lookup x).isSome=true)
 | [],g,_,i=>⟨g,rfl,i,λx h=>by simp at h,λ_ h=>h⟩
 | (n,k)::r,g,v,i=>by
  by_cases w:k = .free
  .subst w;obtain⟨c,z⟩:=v (n,.free) aO rfl;have u:∀ x d,((n,c)::g).lookup x=some d->env.cells.lookup x=some d:=by
    intro x d h;rw[cR] at h;cases e:x == n with
    | true=>rw[e] at h;have:=gC.mp e;subst this;cases h;exact z
    | false=>rw[e] at h;exact i x d h
   obtain⟨j,m,s,t,f⟩:=Ft r ((n,c)::g) (λp y=>v p (aZ _ y)) u;have A:(((n,c)::g).lookup n).isSome=true:=by rw[cR];simp
   refine⟨j,?_,s,λx b=>?_,λx b=>f x ?_⟩
   .rw[kE];simp only[jF,iM];have:cellOf env n=pure c:=by unfold cellOf;rw[z]
    rw[this];exact m
   .rcases aK.mp b with q | q
    .cases q;exact f _ A
    .exact t x q
   .rw[cR];cases e:x == n with
    | true=>rfl
    | false=>exact b
  .obtain⟨j,m,s,t,f⟩:=Ft r g (λp y=>v p (aZ _ y)) i;refine⟨j,?_,s,λx b=>?_,f⟩
   .rw[kE];have:(k == NameKind.free)=false:=by simpa using w
    simp only[this,cU,gK];exact m
   .rcases aK.mp b with q | q
    .cases q;exact absurd rfl w
    .exact t x q
theorem V1 (o:∀ p∈g.names,p.2 = .free->∃ c,j.cells.lookup p.1=some c) :
  ∃ l,closureFor g j=pure l/\(∀ x c,l.lookup x=some c->j.cells.lookup x=some c)/\(∀ x,(x,NameKind.free)∈g.names->(l.lookup x).isSome=true):=by
 obtain⟨l,e,d,f,_⟩:=Ft (env:=j) g.names [] o (λx c h=>by simp at h);refine⟨l,?_,d,f⟩;simp only[closureFor];have b:(forIn g.names [] λx r=>if (x.2 == NameKind.free)=true then (cellOf j x.1 >>= λa=>pure (ForInStep.yield ((x.1,a)::r))) else pure (ForInStep.yield r):Sem (Aa (Af×Ad)))=pure l:=e
 first
  | exact b
  | (simp only[bind_pure];exact b)
theorem Yf (h:g.names.lookup x=some k):∃ j,(relabel g env).names.lookup x=some j/\(j=k\/(k = .free/\j = .cell)):=by
 have:∀ names:Aa (Af×NameKind),names.lookup x=some k->∃ j,(names.map λ(p:Af×NameKind)=>match p with | (n,k)=>if (k == NameKind.free&&env.scope.kind == .function&&env.kindOf n == some .cell) then (n,NameKind.cell) else (n,k)).lookup x=some j/\(j=k\/(k = .free/\j = .cell)):=by
  intro names;induction names with
  | nil=>intro h;simp at h
  | cons p r b =>
   obtain⟨n,c⟩:=p;intro h;rw[aW];by_cases a:(c == NameKind.free&&env.scope.kind == .function&&env.kindOf n == some .cell)=true
   .simp only[a,iM];rw[cR] at h |-;cases e:x == n with
    | true =>
     rw[e] at h;cases h;have:k=NameKind.free:=by
      have:=(cK _ _).mp ((cK _ _).mp a).1;exact gC.mp this.1
     exact⟨_,rfl,.inr ⟨this,rfl⟩⟩
    | false=>rw[e] at h;exact b h
   .simp only[a,gK];rw[aL (by simp)];rw[cR] at h |-;cases e:x == n with
    | true=>rw[e] at h;cases h;exact⟨_,rfl,.inl rfl⟩
    | false=>rw[e] at h;exact b h
 exact this g.names h
theorem Yz {R:Result->Ae->Prop}{iter:Expr}(I:Nat->Ae->Prop)
  (ae:∀ n s,I n s->wpAny (model g w) A (pyNext it) (λr l=>match r with
   | none=>R (.ok .next) l
   | some v=>wpAny (model g w) A (letOwnedTupleGo target it v) (λ_ o=>wpAny (model g w) A (assign target j v) (λ_ C =>
     wpAny (model g w) A (forIn ac true λc r=>if r=true then do let ok <- isTrue c j (eval c j);pure (ForInStep.yield ok) else pure (ForInStep.yield r)) (λok p =>if ok=true then wpAny (model g w) A (eval ab j) (λx J =>wpAny (model g w) A (call (.builtin "list.append") [aa,x]) (λ_ T=>∃ m,m<n/\I m T) (λ_ _=>False) J) (λ_ _=>False) p else ∃ m,m<n/\I m p) (λ_ _=>False) C) (λ_ _=>False) o) (λ_ _=>False) l) (λ_ _=>False) s)
  (n:Nat) (h:I n s) :
  codeAny (model g w) A (.compLoop (.ListComp ab [⟨target,iter,ac,0⟩] U pos) 0 it aa j) R s:=by
 refine codeAny_loop rfl I (λn s q=>?_) n h;show wpAny _ A ((compTurn (.ListComp ab [⟨target,iter,ac,0⟩] U pos) 0 it aa j).onRaise (λx=>do noteFrame x j;theTreesLotGoes x)) _ _ s;refine wpAny_noted ?_;rw[compTurn_list];refine aB (iD (aB (cT (ae n s q) (λr l b=>?_) λ_ _ a=>a.elim)));cases r with
 | none=>exact aF b
 | some v =>
  refine aB (cT b (λ_ o e=>?_) λ_ _ a=>a.elim);refine aB (cT e (λ_ C f=>aB (cT f (λok p d=>?_) λ_ _ a=>a.elim)) λ_ _ a=>a.elim);cases ok with
  | false=>exact aF ⟨rfl,d⟩
  | true =>
   exact aB (aB (cT d (λx J i=>aB (cT i (λ_ T k=>aF (aF ⟨rfl,k⟩)) λ_ _ a=>a.elim)) λ_ _ a=>a.elim))
structure LcO (nw:Option Str) (N:List Str) (kind:Str->Option NameKind) (scope:Scope) (capN:List Str) (caps:List Nat):Prop where
 one:scope.names.filter (λp=>p.2 == .cell)=nw.toList.map λn=>(n,NameKind.cell)
 cel:∀ nm,nw=some nm->scope.names.lookup nm=some .cell
 free:∀ p∈scope.names,p.2 = .free->kind p.1=some .cell
 loc:∀ p∈scope.names,p.2 = .local->scope.names.lookup p.1=some .local
 cap:∀ (j:Nat) (x:Str),capN[j]?=some x->∃ i:Nat,caps[j]?=some i/\N[i]?=some x/\scope.names.lookup x=some .free
 len:capN.length=caps.length
theorem Qy (h:I3 r N kind o T l g=true):LcO r N kind o l g:=by
 unfold I3 at h;simp only[cK] at h;obtain⟨⟨⟨⟨⟨d,c⟩,f⟩,k⟩,m⟩,n⟩:=h;have q:l.length=g.length:=gC.mp n;refine⟨eI d,λu e=>?_,λp a e=>?_,λp a e=>?_,λj x e=>?_,q⟩
 .rw[e] at c;exact gC.mp c
 .have:=eF.mp f p a;rw[e] at this
  simpa using this
 .have:=eF.mp k p a;rw[e] at this
  simpa using this
 .have t:j<l.length:=(aV.mp e).1;have b:g[j]?=some (g[j]'(by omega)):=aJ (by omega);have s:(x,g[j]'(by omega))∈l.zip g:=aI (i:=j) (by rw[List.getElem?_zip_eq_some];exact⟨e,b⟩);have:=eF.mp m _ s;simp only[cK,dY,gC] at this;exact⟨_,b,this.1,this.2⟩
theorem LcO.only (h:LcO o N kind g j l) (x:Af) (e:g.names.lookup x=some .cell):o=some x:=by
 have a:(x,NameKind.cell)∈g.names.filter (λp=>p.2 == .cell):=bQ.mpr ⟨dL e,rfl⟩;rw[h.one] at a;cases o with
 | none=>cases a
 | some n=>rw[(Prod.mk.inj (aH.mp a)).1]
theorem Lb:∀ {g:Scope},(relabel g j).names.lookup x=some k->(k = .cell\/k = .free)->g.names.lookup x=some .cell\/g.names.lookup x=some .free:=by
 intro g;unfold relabel;have all:∀ names:Aa (Af×NameKind),(names.map λ(n,k)=>if (k == NameKind.free&&j.scope.kind == .function&&j.kindOf n == some .cell) then (n,NameKind.cell) else (n,k)).lookup x=some k->(k = .cell\/k = .free)->names.lookup x=some .cell\/names.lookup x=some .free:=by
  intro names;induction names with
  | nil=>intro h _;simp at h
  | cons p r d =>
   intro h b;obtain⟨n,e⟩:=p;rw[aW] at h;rw[cR];cases c:x == n with
   | true =>
    by_cases a:(e == NameKind.free&&j.scope.kind == .function&&j.kindOf n == some .cell)=true
    .simp only[cK,gC] at a;exact .inr (by rw[a.1.1])
    .simp only[a,cU,gK,cR,c] at h;cases h;rcases b with q | q
     .exact .inl (by rw[q])
     .exact .inr (by rw[q])
   | false =>
    by_cases a:(e == NameKind.free&&j.scope.kind == .function&&j.kindOf n == some .cell)=true
    .simp only[a,iM,cR,c] at h;exact d h b
    .simp only[a,cU,gK,cR,c] at h;exact d h b
 exact all g.names
theorem Gx:∀ (names:Aa (Af×NameKind)) (n:Nat) (g:Aa (Af×Ad)) (h:Ag),names.filter (λp=>p.2 == .cell)=[]->cellsFrom n names g=g/\pushCells h names=h
 | [],_,_,_,_=>⟨rfl,rfl⟩
 | (y,k)::r,n,g,h,e=>by
  unfold cellsFrom pushCells;by_cases a:(k == NameKind.cell)=true
  .rw[List.filter_cons_of_pos (by exact a)] at e;cases e
  .rw[List.filter_cons_of_neg (by exact a)] at e;rw[aL a,aL a];exact Gx r n g h e
theorem Nf:∀ (names:Aa (Af×NameKind)) (n:Nat) (g:Aa (Af×Ad)) (h:Ag),names.filter (λp=>p.2 == .cell)=[(j,.cell)]->cellsFrom n names g=(j,n)::g/\pushCells h names=h.push { cls:=.type "cell",data:=.cell none }
 | [],_,_,_,e=>by cases e
 | (y,k)::r,n,g,h,e=>by
  unfold cellsFrom pushCells;by_cases a:(k == NameKind.cell)=true
  .rw[List.filter_cons_of_pos (by exact a)] at e;have b:=(List.cons.inj e).1;have c:=(List.cons.inj e).2;rw[aU a,aU a];have:=Gx r (n+1) ((y,n)::g) (h.push { cls:=.type "cell",data:=.cell none }) c;rw[this.1,this.2,(Prod.mk.inj b).1];exact⟨rfl,rfl⟩
  .rw[List.filter_cons_of_neg (by exact a)] at e;rw[aL a,aL a];exact Nf r n g h e
def yG (g:Ab Af) (C:Ad):Aa (Af×Ad):=match g with
 | none=>[]
 | some a=>[(a,C+1)]
theorem V6 {globals:Ad}(one:g.names.filter (λp=>p.2 == .cell)=T.toList.map λn=>(n,NameKind.cell))
  (h:∀ j,j.Ns s.heap.objs.size (λ_=>none)->(∀ J,T=some J->j.IsCell (s.heap.objs.size+1) none)->(∀ b o,s.heap.get? b=some o->j.get? b=some o) ->Q { scope:=g,locals:=s.heap.objs.size,globals:=globals,cells:=yG T s.heap.objs.size++r,qual:=C,func:=none,code:=l.code,frame:=l.frame,builtins:=l.builtins } { s with heap:=j }) :
  wpAny M A (newFunctionEnv g globals r [] C none .none (some l)) Q E s:=by
 simp only[newFunctionEnv,jQ,iM];refine aB (wpAny_alloc ?_);refine aB (wpAny_layCells _ (λname kind I=>by cases i:kind == NameKind.cell<;>simp[i]) _ _ _ _ ?_);have z:(s.heap.push { cls:=.type "dict",data:=.dict #[] }).objs.size=s.heap.objs.size+1:=Heap.size_push ..;have a:=Heap.Ns.new s.heap (.type "dict");show wpAny M A _ Q E _;cases T with
 | none =>
  obtain⟨c,f⟩:=Gx g.names (s.heap.push { cls:=.type "dict",data:=.dict #[] }).objs.size r (s.heap.push { cls:=.type "dict",data:=.dict #[] }) one;rw[c,f];exact aB (aF (aF (h _ a (λ_ e=>nomatch e) λb o e=>aE _ e)))
 | some J =>
  obtain⟨c,f⟩:=Nf g.names (s.heap.push { cls:=.type "dict",data:=.dict #[] }).objs.size r (s.heap.push { cls:=.type "dict",data:=.dict #[] }) one;have d:cellsFrom ({ s with heap:=s.heap.push { cls:=.type "dict",data:=.dict #[] } }:Ae).heap.objs.size g.names r=(J,s.heap.objs.size+1)::r:=by rw[<- z];exact c
  rw[d,f];refine aB (aF (aF (h _ (a.keeps λb o e=>aE _ e) (λ_ _=>?_) λb o e=>aE _ (aE _ e))));exact⟨_,by rw[<- z];exact bL _ rfl,rfl⟩
noncomputable def EX (j:Ab Af) (g:Aa (Af×Ad)):Af->Bool:=match j with
 | none=>λx=>(g.lookup x).isNone
 | some a=>λx=>x == a||(g.lookup x).isNone
def tX (p:Ab Af) (X:Cx) (r:Aa Af) (g:Scope) (o:Aa (Af×Ad)) (C:Ad) (l:Ae) (j:Hp) (I:Aa Ad):Cx :=
 { prog:=X.prog,w:=X.w,K:=X.K,mg:=X.mg,base:=X.base,A:=X.A,N:=r,s₀:=l,H₀:=j,env:=compEnvC g (yG p C++o) C X.env,outer:=X.stack,stack:=X.stack,ex:=I, fn:=EX p o,calm:=X.calm,pn:=[],xe:=λ_ _=>False }
section
variable {X:Cx}
theorem Inv.moved {t':Nat}{fp:Aa Ad}(I:Inv X g p H s) (j:∀ b∈fp,rH X g H b) (k:∀ b o,b∉fp->s.heap.get? b=some o->l.get? b=some o):Inv X g p H { s with heap:=l,toks:=t' }:=by
 have d:∀ b u,H b=some u->b∉fp:=λb u e z=>by rw[(j b z).1] at e;cases e
 refine I.step (g':=s.gens) (d':=s.drawn) (ch:=fp) (λb f=>⟨(j b f).2.2.2.1,(j b f).2.1,(j b f).2.2.2.2.1,(j b f).2.2.2.2.2⟩) (λb o _ _ a e _=>k b o a e) (λb o _ _ a e _=>⟨o.slots,k b o a e⟩) (λ_ _ _ _ n=>n)
  (λb o a e=>⟨o,k b o a e⟩) (λ_ _ e=>e) (λ_ _ _ e=>e) (λb x e=>⟨#[],by rw[e];simp⟩) (λm t=>?_) (λb u e=>?_) I.bare
 .obtain⟨o,i,h,w,r⟩:=t;exact⟨o,i,h,k _ o (λz=>(j _ z).2.1 rfl) w,r⟩
 .refine (I.hok b u e).stay (λc v a q=>k c v ?_ q) (λ_ q=>q) λ_ _ q=>q
  rcases a with z | z
  .rw[z];exact d b u e
  .exact d c _ z
end
section
variable {X:Cx}
theorem Oe {iter:Expr}(T U:Aa Af) (aa:Aa Nat) (hc:X.calm=true) (hi:PI X tg iter wi)
  (hk:j.kind = .function) (O:LcO nw X.N X.env.kindOf j U aa)
  (hg:∀ ae ab C cl fp,PG (tX nw X (T++U) j cl C ae ab fp) tg g)
  (ht:∀ ae ab C cl fp,tF (tX nw X (T++U) j cl C ae ab fp) af tt)
  (he:∀ ae ab C cl fp,PE (tX nw X (T++U) j cl C ae ab fp) a4 te)
  (hs:∀ x,foldedSetIterable iter X.env x=pure x)
(I:Inv X ac σ H s) (h:B4 T aa wi g tt te σ H Q)
  (fin:∀ (C D:Ad) (s6:Ae) (H5:Hp),Inv X ac σ H5 s6->Q (.ref D) H5->rH X ac H5 C->(∃ m,s6.heap.Ns C m)->compPost (model X.prog X.w) X.A X.xe a2 Qs (.ref D) C (.ok .next) s6) :
  wpAny (model X.prog X.w) X.A (comprehension (.ListComp a4 [⟨tg,iter,af,0⟩] j pos) j X.env (firstIterPos [⟨tg,iter,af,0⟩] pos) (newList []) (firstAsync [⟨tg,iter,af,0⟩]) (firstIter [⟨tg,iter,af,0⟩] X.env) a2) Qs X.xe s:=by
 have ax:∀ p∈j.names,p.2 = .free->∃ c,X.env.cells.lookup p.1=some c:=λp hp e=>I.ok.has p.1 (.inl (O.free p hp e))
 obtain⟨cl,aw,P,a3⟩:=V1 ax;refine wpAny_comprehension_free (use:=a2) rfl hs aw hk O.loc (kT (hi ac s σ H _ I h) λv s1 h1=>kT h1 λb3 s2 h2=>?_);obtain⟨it,fp,tn,J,H2,rfl,I2,B,st2,f2,hD⟩:=h2;refine fK ?_;have f:Inv X ac σ (upd H2 s2.heap.objs.size (.l [])) { s2 with heap:=s2.heap.push { cls:=.type "list",data:=.seq ([]:Aa Ac).toArray } }:=I2.lnew (t':=s2.toks) (its:=[]) (ys:=[]) .nil (fV _);have fD:H2 s2.heap.objs.size=none:=I2.fresh;obtain⟨W,⟨m0,w0⟩,ao⟩:=hD s2.heap.objs.size fD;generalize bn:s2.heap.objs.size=D at f fD w0 ao |-;have bx:tn 0 (s2.heap.push { cls:=.type "list",data:=.seq ([]:Aa Ac).toArray }):=B.keep _ _ _ st2 λb _ o e=>aE _ e
 have a9:∀ b∈fp,b<D:=λb a=>by
  obtain⟨o,e,_⟩:=B.obj _ _ st2 b a;rw[<- bn];exact aY e
 generalize br:({ s2 with heap:=s2.heap.push { cls:=.type "list",data:=.seq ([]:Aa Ac).toArray } }:Ae)=K at f |-;have ag:tn 0 K.heap:=by rw[<- br];exact bx
 generalize bo:upd H2 D (.l [])=M at f w0;have f3:∀ b∈fp,rH X ac M b:=λb a=>by
  obtain⟨z0,z⟩:=f2 b a;exact⟨by rw[<- bo,kX (cD (a9 b a))];exact z0,z⟩
 refine V6 O.one (λZ V S old=>?_);have av:M K.heap.objs.size=none:=f.fresh;have ak:M (K.heap.objs.size+1)=none:=f.hok.fresh (gH _);generalize hC:K.heap.objs.size=C at V S av ak |-;have ba:∀ b o,K.heap.get? b=some o->b≠C:=λb o e=>by rw[<- hC];exact cD (aY e)
 have a5:∀ b∈fp,b≠C:=λb a=>by
  obtain⟨o,e,_⟩:=B.obj _ _ ag b a;exact ba b o e
 have a6:∀ b∈fp,b∉rK X.stack:=λb a z=>by
  rcases aK.mp (f.stkSub b z) with q | q
  .exact (f3 b a).2.1 q
  .exact (f3 b a).2.2.1 q
 have bj:∀ b∈fp,b<C:=λb a=>by
  obtain⟨o,e,_⟩:=B.obj _ _ ag b a;rw[<- hC];exact aY e
 have mB:∀ x c,(yG nw C++cl).lookup x=some c->(nw=some x/\c=C+1)\/(nw≠some x/\cl.lookup x=some c):=λx c e=>by
  cases nw with
  | none=>exact .inr ⟨(λz=>nomatch z),e⟩
  | some nm =>
   have e:((nm,C+1)::cl).lookup x=some c:=e;rw[cR] at e;cases a:x == nm with
   | true=>rw[a] at e;cases e;exact .inl ⟨by rw[gC.mp a],rfl⟩
   | false=>rw[a] at e;exact .inr ⟨(λz=>by cases z;simp at a),e⟩
 have lift:∀ x c,nw≠some x->cl.lookup x=some c->(yG nw C++cl).lookup x=some c:=λx c n e=>by
  cases nw with
  | none=>exact e
  | some nm =>
   show ((nm,C+1)::cl).lookup x=some c;rw[cR,show (x == nm)=false from dJ.mpr λz=>n (by rw[z])];exact e
 have ai:∀ x c,cl.lookup x=some c->c<C:=λx c e=>by
  obtain⟨v,o,ho,_⟩:=f.cell x c (P x c e);rw[<- hC];exact aY ho
 have aj:∀ b∈fp,∀ x c,(yG nw C++cl).lookup x=some c->c≠b:=λb a x c e=>by
  rcases mB x c e with⟨_,q⟩ | ⟨_,q⟩
  .exact λz=>absurd (bj b a) (by rw[<- z,q];exact kB.mpr (gH C))
  .exact (f3 b a).2.2.2.2.1 x c (P x c q)
 have a8:(tX nw X (T++U) j cl C K M fp).Ok:=by
  refine⟨f.ok.mod,hk,f.ok.glob,f.ok.blt,Nat.le_of_eq hC,λx y c R E=>?_,λx hx=>?_,λx c R E=>?_,f.ok.hd,f.ok.frames,.inl rfl,λb a=>⟨a5 b a,λx c e=>aj b a x c e⟩,λb o e=>f.bs b o e,?_,λb o e z=>?_,λb a=>a6 b a,f.stack,f.stkFree⟩
  .rcases mB x c R with⟨q1,r1⟩ | ⟨q1,r1⟩
   .rcases mB y c E with⟨q2,r2⟩ | ⟨q2,r2⟩
    .exact bY (q1.symm.trans q2)
    .exact absurd (ai y c r2) (by rw[r1];exact kB.mpr (gH C))
   .rcases mB y c E with⟨q2,r2⟩ | ⟨q2,r2⟩
    .exact absurd (ai x c r1) (by rw[r2];exact kB.mpr (gH C))
    .exact f.ok.inj x y c (P x c r1) (P y c r2)
  .have bt:(relabel j X.env).names.lookup x=some .cell\/(relabel j X.env).names.lookup x=some .free:=hx;have hf:j.names.lookup x=some .cell\/j.names.lookup x=some .free:=by
    rcases bt with q | q
    .exact Lb q (.inl rfl)
    .exact Lb q (.inr rfl)
   show ∃ c,(yG nw C++cl).lookup x=some c;by_cases a:nw=some x
   .subst a;exact⟨C+1,by show ((x,C+1)::cl).lookup x=_;rw[cR,jF]⟩
   .rcases hf with q | q
    .exact absurd (O.only x q) a
    .obtain⟨c,e⟩:=cZ.mp (a3 x (dL q));exact⟨c,lift x c a e⟩
  .rcases mB x c E with⟨q,r⟩ | ⟨q,r⟩
   .show K.heap.objs.size<=c;rw[r,hC];exact gH C
   .cases nw with
    | none =>
     have R:(cl.lookup x).isNone=true:=R;rw[r] at R;cases R
    | some nm =>
     have R:(x == nm||(cl.lookup x).isNone)=true:=R;rw[r,show (x == nm)=false from dJ.mpr λz=>q (by rw[z])] at R;cases R
  .exact bU f.ok.bsz f.sz
  .obtain⟨z0,z1,z2,z3,_⟩:=f3 b z;rcases z3 with q | q
   .exact f.ok.noex b o e q
   .exact absurd (bP (aY e) (bU f.ok.bsz q)) (eB _)
 have I4:Inv (tX nw X (T++U) j cl C K M fp) [] (qK T aa σ) M { K with heap:=Z }:=by
  refine⟨a8,rfl,f.bare,Un.kept old,⟨_,V,λi x v R E e3=>?_⟩,λx c e=>?_,av,λx c e=>?_,λp hp=>absurd (show p∈([]:Aa (Ad×Obj)) from hp) (by simp),f.hok.kept old,?_⟩
  .have R:(T++U)[i]?=some x:=R;unfold qK at E;by_cases hi:i<T.length
   .rw[gF (by simpa using hi),bH] at E;cases q:T[i]? with
    | none=>rw[q] at E;cases E
    | some z=>rw[q] at E;cases E
   .rw[dO (by omega)] at R;rw[dO (by simpa using hi),bH,aA] at E;obtain⟨k,k1,k2,k3⟩:=O.cap _ x R;rw[k1] at E;have E:(σ[k]?).join=some v:=bY E;have bi:σ[k]?=some (some v):=by
     cases q:σ[k]? with
     | none=>rw[q] at E;cases E
     | some z=>rw[q] at E;exact cH some E
    have Y:X.env.kindOf x=some .cell:=O.free (x,.free) (dL k3) rfl;obtain⟨m,hn,hl⟩:=f.loc;obtain⟨u,r,l⟩:=hl k x v k2 bi (.inr (.inl Y));refine⟨u,r,.inr ⟨?_,?_⟩⟩
    .obtain⟨k',e5,e6⟩:=Yf (env:=X.env) k3;rcases e6 with z | ⟨_,z⟩
     .subst z;exact .inr e5
     .subst z;exact .inl e5
    .rcases l with⟨l1,_⟩ | ⟨_,c,e7,o,ay,az⟩
     .rw[Y] at l1;cases l1
     .obtain⟨c',e8⟩:=cZ.mp (a3 x (dL k3));have:=P x c' e8;rw[e7] at this;cases this;exact⟨c,lift x c (λz=>by rw[O.cel x z] at k3;cases k3) e8,o,old c o ay,az⟩
  .rcases mB x c e with⟨n,q⟩ | ⟨_,q⟩
   .exact⟨none,q▸S x n⟩
   .obtain⟨v,o,ay,az⟩:=f.cell x c (P x c q);exact⟨v,o,old c o ay,az⟩
  .rcases mB x c e with⟨_,q⟩ | ⟨_,q⟩
   .exact q▸ak
   .exact f.freeC x c (P x c q)
  .show (qK T aa σ).length=(T++U).length;unfold qK;rw[aD,aD,aA,aA,O.len]
 have au:∀ {H':Hp},(∀ b∈fp,H' b=none)->∀ b∈fp,rH (tX nw X (T++U) j cl C K M fp) [] H' b:=λhn b a =>
  ⟨hn b a,a5 b a,a6 b a,.inl a,λx c e=>aj b a x c e,λp hp=>absurd (show p∈([]:Aa (Ad×Obj)) from hp) (by simp)⟩
 have bb:tn 0 Z:=B.keep _ _ _ ag λb _ o e=>old b o e
 have bz:W 0 m0 [] (qK T aa σ) M:=w0;have an:codeAny (model X.prog X.w) X.A (.compLoop (.ListComp a4 [⟨tg,iter,af,0⟩] j pos) 0 (.ref it) (.ref D) (compEnvC j (yG nw C++cl) C X.env))
   (compPost (model X.prog X.w) X.A X.xe a2 Qs (.ref D) C) { K with heap:=Z }:=by
  refine Yz (λn s'=>∃ i ys bd H',Inv (tX nw X (T++U) j cl C K M fp) [] bd H' s'/\tn i s'.heap/\(∀ b∈fp,H' b=none)/\W i n ys bd H') ?_ m0 ⟨0,[],qK T aa σ,M,I4,bb,λb a=>(f3 b a).1,bz⟩;rintro n s5 ⟨i,ys,ah,H5,I5,bc,a7,w5⟩;rcases ao i n ys ah H5 w5 with⟨stop,qn⟩ | ⟨go,N,F,hN,hF,step⟩
  .refine kT (B.done (tX nw X (T++U) j cl C K M fp) rfl rfl rfl hc i [] s5 ah H5 _ I5 (au a7) bc stop) λr s6 t=>?_
   obtain⟨hr,I6⟩:=t;subst hr;obtain⟨m6,bq,_⟩:=I6.loc;have bp:H5 C=none:=I6.free;have ub:=I6.base;have a0:=f.fpOk (Nat.le_of_eq hC) av;refine fin C D s6 H5 (Inv.call' (s':=s6) (ch:=fp) f I6.os ?_ I6.hok I6.bare (λb a=>⟨(f3 b a).2.2.2.1,(f3 b a).2.1,(f3 b a).2.2.2.2.1,(f3 b a).2.2.2.2.2⟩)) qn ⟨bp,a0.2⟩ ⟨m6,bq⟩;exact⟨λb o q n a hx=>ub.keep b o q n a hx,λb o q n a hx=>ub.slot b o q n a hx,ub.free,λb o q hx=>ub.there b o q hx,ub.tups,ub.frzs,ub.tbls⟩
  .refine kT (B.item (tX nw X (T++U) j cl C K M fp) rfl rfl rfl hc i [] s5 ah H5 _ I5 (au a7) bc go) λr s6 t=>?_
   obtain⟨u,hr,h6⟩:=t;subst hr;refine kT h6 λ_ s7 t=>?_
   obtain⟨x,H7,I7,r7,y7,a1,bm⟩:=t;have bg:=I7.pinned (au bm) (B.obj _ _ a1);have G:∀ {L:St} {H8:Hp} {s8:Ae},Inv (tX nw X (T++U) j cl C K M fp) ([]++Bg fp s7.heap) L H8 s8->tn (i+1) s8.heap/\(∀ b∈fp,H8 b=none):=λ{L H8 s8} I8=>by
    refine⟨B.keep _ _ _ a1 λb a o e=>(I8.pin (b,o) (aT _ (aT _ (Ch a e)))).1,λb a=>?_⟩;obtain⟨o,e,d⟩:=B.obj _ _ a1 b a;exact (I8.pin (b,o) (aT _ (aT _ (Ch a e)))).2.1
   refine kT (hg K M C cl fp _ s7 ah H7 x u _ bg r7 (step x H7 y7)) λ_ s8 t=>?_
   obtain⟨L,H8,I8,q8⟩:=t;refine kT (ht K M C cl fp _ s8 L H8 _ I8 q8) λok s9 t=>?_
   obtain⟨H9,I9,q9⟩:=t;cases ok with
   | false =>
    rw[aL (by simp)] at q9;rw[aL (by simp)];obtain⟨m',hm,w9⟩:=hF _ _ q9;exact⟨m',hm,i+1,ys,L,H9,I9.unpinned,(G I9).1,(G I9).2,w9⟩
   | true =>
    rw[aU rfl] at q9;rw[aU rfl];refine kT (he K M C cl fp _ s9 L H9 _ I9 q9) λvv bw t=>?_
    obtain⟨v,be,bf,bv,bu⟩:=t;obtain⟨bh,b2,m',hm,b0⟩:=hN _ _ _ bu;refine kT (uI (X:=tX nw X (T++U) j cl C K M fp) _ bw L be (.ref D) [v] (.ref D) [vv] (λ_ aq=>W (i+1) m' (ys++[v]) L aq) bf rfl (.cons bv .nil) ⟨D,ys,v,rfl,rfl,bh,b2,b0⟩) λ_ b4 t=>?_
    obtain⟨_,aq,ar,_,b1⟩:=t;exact⟨m',hm,i+1,ys++[v],L,aq,ar.unpinned,(G ar).1,(G ar).2,b1⟩
 exact codeAny_compStart_list an (B.self _ 0 _ _ _ bb an)
theorem Wl {D:Ad}(I:Inv X g J j p) (q:Q (.ref D) j) (r:rH X g j C) (l:∃ m,p.heap.Ns C m):compPost (model X.prog X.w) X.A X.xe none (EP X g J Q) (.ref D) C (.ok .next) p:=by
 obtain⟨m,l⟩:=l;refine⟨m,l,λd c=>⟨.ref D,j,I.moved (t':=p.toks) (fp:=[C]) (λb a=>?_) (λb o a e=>?_),rfl,q⟩⟩
 .rw[aH.mp a];exact r
 .exact c.extBut b o (λz=>a (aH.mpr z)) e
theorem C6 {iter:Expr}(T o:Aa Af) (r:Aa Nat) (hc:X.calm=true) (hi:PI X tg iter wi)
  (hk:j.kind = .function) (ho:yV X.N X.env.kindOf j T o r=true)
  (hg:∀ p l C U J,PG (qA X (T++o) j U C p l J) tg g)
  (ht:∀ p l C U J,tF (qA X (T++o) j U C p l J) ab tt)
  (he:∀ p l C U J,PE (qA X (T++o) j U C p l J) aa te)
  (hs:∀ x,foldedSetIterable iter X.env x=pure x:=by intro _;rfl) :
  PE X (.ListComp aa [⟨tg,iter,ab,0⟩] j pos) (B4 T r wi g tt te):=by
 intro a s e H Q I h;rw[eval_ListComp];exact Oe (nw:=none) T o r hc hi hk (Qy ho) hg ht he hs I h λC D d c I q J b=>Wl I q J b
end
structure Yields (J:It) (xs:List V) (R:Hp->Prop):Prop where
 go:∀ i H,i<xs.length->R H->J.go i H
 yld:∀ i H x H',i<xs.length->R H->J.yld i H x H'->H'=H/\xs[i]?=some x
 stop:∀ i H,i=xs.length->R H->J.stop i H
def sQ (z:Af):Aa V:=z.cps.toList.map λc=>V.str ⟨#[c]⟩
theorem Xt:Yields (tW z) (sQ z) (λ_=>True) :=
 ⟨λi H a _=>by simpa [tW,sQ,Str.length] using a,
  λi H x d a _ y=>by
   obtain⟨e,c,b,rfl⟩:=y;refine⟨e,?_⟩;unfold sQ;rw[bH,eP,b];rfl,
  λi H e _=>by simp[tW,e,sQ,Str.length]⟩
def Hs (o:St) (D:Ad) (Pv:Nat->Aa V->Hp->Prop) (i:Nat) (g:Aa V) (j:St):VK:=λv a=>(∃ t,j=t::o)/\a D=some (.l g)/\g.length<sizeLine/\Pv (i+1) (g++[v]) (upd a D (.l (g++[v])))
def Ly (l:St) (Pv:Nat->Aa V->Hp->Prop) (i:Nat) (o:Aa V) (g:St) (j:Hp):Prop:=(∃ t,g=t::l)/\Pv (i+1) o j
theorem Yb {R:Hp->Prop}{D:Ad}(Y:Yields J o R) (Pv:Nat->Aa V->Hp->Prop)
  (U:Pv 0 [] (upd T D (.l []))) (I:∀ i j H,i<=o.length->Pv i j H->R H)
  (hs:∀ i x j H,o[i]?=some x->Pv i j H->tt (some x::g.map (λi=>(r[i]?).join)) H λb C =>if b=true then te (some x::g.map (λi=>(r[i]?).join)) C (Hs (g.map (λi=>(r[i]?).join)) D Pv i j (some x::g.map (λi=>(r[i]?).join))) else Ly (g.map (λi=>(r[i]?).join)) Pv i j (some x::g.map (λi=>(r[i]?).join)) C)
  (hd:∀ j H,Pv o.length j H->Q (.ref D) H):B0 [nm] g J (xF 0) tt te r T Q D:=by
 refine⟨λi m j d H=>m=o.length-i/\i<=o.length/\(∃ t,d=t::g.map (λi=>(r[i]?).join))/\Pv i j H,⟨o.length,by simp,fV _,⟨none,rfl⟩,U⟩,?_⟩;rintro i m j d c ⟨rfl,h,⟨t,rfl⟩,p⟩;by_cases a:i<o.length
 .refine .inr ⟨Y.go i c a (I i j c h p),Hs (g.map (λi=>(r[i]?).join)) D Pv i j,Ly (g.map (λi=>(r[i]?).join)) Pv i j,?_,?_,λx q y=>?_⟩
  .rintro n v z ⟨k,s,u,f⟩;exact⟨s,u,o.length-(i+1),by omega,rfl,a,k,f⟩
  .rintro n C ⟨k,f⟩;exact⟨o.length-(i+1),by omega,rfl,a,k,f⟩
  .obtain⟨rfl,w⟩:=Y.yld i c x q a (I i j c h p) y;exact hs i x j q w p
 .have e:i=o.length:=by omega
  subst e;exact .inl ⟨Y.stop _ _ rfl (I _ j c h p),hd j c p⟩
def vH:Expr->Bool
 | .Starred _ _=>false
 | _=>true
theorem Uc (h:vH e=true):starEach (e::j) g=(false,eval e g)::starEach j g:=by
 cases e<;>first | rfl | (cases h;done)
section
variable {X:Cx}
theorem mW (j:PE X e o) (l:PA X g t) (h:vH e=true:=by rfl):PA X (e::g) (Nv o t):=EI j l (Uc h)
def FK (g:Aa Af):TA:=λ_ H Q=>Q (g.map V.str) H
theorem Ox:∀ (l:Aa (Af×Nat×Pos)),PA X (l.map λp=>.Constant (.str p.1) p.2.1 p.2.2) (FK (l.map (·.1)))
 | []=>pW
 | a::r=>λpos b s c H Q I h=>mW (xB (x:=a.1) (j:=a.2.1) (pos:=a.2.2)) (Ox r) (by rfl) pos b s c H Q I h
end
theorem Su {R:Hp->Prop}{D:Ad}(Y:Yields J o R) (Pv:Nat->Aa V->Hp->Prop)
  (I:Pv 0 [] (upd C D (.l []))) (T:∀ i j H,i<=o.length->Pv i j H->R H)
  (U:∀ i x j H,o[i]?=some x->Pv i j H->te (some x::g.map (λi=>(r[i]?).join)) H (Hs (g.map (λi=>(r[i]?).join)) D Pv i j (some x::g.map (λi=>(r[i]?).join))))
  (hd:∀ j H,Pv o.length j H->Q (.ref D) H):B0 [nm] g J (xF 0) Ck te r C Q D:=by
 refine Yb Y Pv I T (λi x j H a p=>?_) hd;unfold Ck;dsimp only;rw[aU rfl];exact U i x j H a p
theorem Tz {R:Hp->Prop}{D:Ad}(Y:Yields J g R) (f:V->V) (T:j D=none) (C:∀ H,mF j H->R H) (hl:g.length<=1000)
  (I:∀ (i:Nat) x H (k:VK),g[i]?=some x->mF j H->k (f x) H->U (some x::r.map (λi=>(σ[i]?).join)) H k)
  (hd:Q (.ref D) (upd j D (.l (g.map f)))):B0 [nm] r J (xF 0) Ck U σ j Q D:=by
 have h:∀ o,mF j (upd j D o):=λo b u e=>by rw[kX (nP e T)];exact e
 refine Su Y (λi a H=>i<=g.length/\a=(g.take i).map f/\H=upd j D (.l a)) ⟨fV _,by simp,rfl⟩ (λi a H _ p=>C H (by rw[p.2.2];exact h _)) ?_ ?_
 .rintro i x a H d ⟨n,rfl,rfl⟩;have c:=(aV.mp d).1;have m:g.take (i+1)=g.take i++[x]:=by rw[dZ,d];rfl
  refine I i x _ _ d (h _) ⟨⟨_,rfl⟩,lT,?_,c,?_,?_⟩
  .rw[aA,dD];exact eR (show min i g.length<=1000 by omega) (by decide)
  .rw[m,aG];rfl
  .rw[Rq]
 .rintro a H ⟨_,rfl,rfl⟩;rw[List.take_of_length_le (bD _)];exact hd
theorem Cf {X:Cx}{st:Stmt}{rest:Aa Stmt}{D:Ends}(I:St->Hp->Prop) (g:∀ u:TS,(∀ j l,I j l->u D j l)->∃ t,PS X st t/\t { D with nx:=u D } o H)
  (h:∀ j l,I j l->∃ u,oC X rest u/\u D j l):∃ t,oC X (st::rest) t/\t D o H:=by
 let u:TS:=λb j l=>∃ c,oC X rest c/\c b j l
 have k:oC X rest u:=λa s j l b d ⟨c,i,e⟩=>i a s j l b d e
 obtain⟨t,pt,f⟩:=g u h;exact⟨Iq t u,sP pt k,f⟩
theorem CY {X:Cx}{st:Stmt}{rest:Aa Stmt}{D:Ends}(t:TS) (p:PS X st t) (h:t { D with nx:=λg j=>∃ u,oC X rest u/\u D g j } l H):∃ t,oC X (st::rest) t/\t D l H:=by
 let u:TS:=λb g j=>∃ c,oC X rest c/\c b g j
 have i:oC X rest u:=λa s g j b d ⟨c,f,e⟩=>f a s g j b d e
 exact⟨Iq t u,sP p i,h⟩
section
variable {X:Cx}
def Y3 (g:Aa Int):TA:=λ_ H Q=>Q (g.map V.int) H
theorem Rf:∀ (l:Aa (Int×Nat×Pos)),PA X (l.map λp=>.Constant (.int p.1) p.2.1 p.2.2) (Y3 (l.map (·.1)))
 | []=>pW
 | a::r=>λpos b s c H Q I h=>mW (Fa (i:=a.1) (j:=a.2.1) (pos:=a.2.2)) (Rf r) (by rfl) pos b s c H Q I h
end
section
variable {X:Cx}
theorem L3 (g:X.A.units+64<cLine):lF X (compareOp .NotEq) (Dy X.K true):=by
 intro c s M H x y v u Q I F G h;obtain⟨a,b,L,rfl,rfl,f,z,q⟩:=h;cases F;cases G;obtain⟨B,D,m,_⟩:=I.list f;obtain⟨k,E,n,_⟩:=I.list z;cases E;have t:∀ d,d = !L.isEmpty->EP X c M Q (.bool d) s:=λd e=>⟨.b d,H,I,rfl,by subst e;exact q⟩
 cases D with
 | nil=>exact SeqAt.RcNeAt.lists (e:=λ_=>true) m.isList n.isList rfl (by omega) (λi f _=>by simp at f) X.prog X.w _ _ (t _ (by simp))
 | cons r N=>exact SeqAt.RcNeAt.lists_lengths m.isList n.isList (by simp) (by omega) X.prog X.w _ _ (t _ rfl)
end
section
variable {X:Cx}
theorem FX {bs:Aa Bool}{g:Aa Ac}(r:kY (bs.map V.b) g){i:Nat}{v:Ac}(h:g[i]?=some v):∃ b,bs[i]?=some b/\v = .bool b:=by
 have d:=r.length;rw[aA] at d;have f:i<g.length:=(aV.mp h).1;have a:bs[i]?=some (bs[i]'(by omega)):=aJ (by omega);obtain⟨u,c,e⟩:=r.get (i:=i) (x:=V.b (bs[i]'(by omega))) (by rw[bH,a];rfl);rw[h] at c;cases c;exact⟨_,a,e⟩
theorem Ss (bs:Aa Bool):((List.range bs.length).all λi=>(bs[i]?).getD true)=bs.all id:=by
 have e:(List.range bs.length).map (λi=>(bs[i]?).getD true)=bs:=by
  apply List.ext_getElem (by simp);intro i p q;simp[q]
 calc ((List.range bs.length).all λi=>(bs[i]?).getD true)=((List.range bs.length).map λi=>(bs[i]?).getD true).all id:=by rw[kC];rfl
  _=bs.all id:=by rw[e]
def Jy (K:kM):Aa V->Hp->VK->Prop:=λa H Q=>∃ (p:Ad) (bs:Aa Bool),a=[.ref p]/\lG K H p (bs.map V.b)/\Q (.b (bs.all id)) H
theorem Q7 (g:X.calm=true):nI X (.builtin "all") (Jy X.K):=by
 intro m s P H O N Q I r h;obtain⟨p,bs,rfl,z,q⟩:=h;obtain⟨u,rfl,D⟩:=sZ r;cases D;obtain⟨c,n,B,_⟩:=I.list z;have d:=B.isList;have a:=n.length;rw[aA] at a;have f:p<s.heap.objs.size:=by obtain⟨_,e,_⟩:=id d;exact aY e
 refine call_all_walk (wpAny_pyIter_list d ?_);refine⟨s.heap.objs.size,[s.heap.objs.size,p],[s.heap.objs.size],c.toArray.size,_,_,λi=>(bs[i]?).getD true,rfl,Walks.list (A:=X.A.in1) (I.ok.hd g) _ p (cD f) c.toArray,⟨⟨_,bL _ rfl,rfl,rfl⟩,d.push _⟩,λi v L F E t k=>?_,λG M w=>?_⟩
 .obtain⟨b,e,rfl⟩:=FX n (by simpa using t);simp only[e,Option.getD_some] at k;exact fH k
 .have e:((List.range c.toArray.size).all λi=>(bs[i]?).getD true)=bs.all id:=by
   rw[bF,<- a];exact Ss bs
  rw[e];exact⟨.b _,H,I.kept λb x e=>w b x (λy=>by rw[aH.mp y] at e;exact eB _ (aY e)) (aE _ e),rfl,q⟩
end
section
variable {X:Cx}
theorem Inv.movedT {t':Nat}{p:Aa Ad}{ys:Aa V}{j:Aa Ac}(I:Inv X g U H s) (l:∀ b∈p,rH X g H b) (k:∀ b o,b∉p->s.heap.get? b=some o->C.get? b=some o)
  (new:xK C s.heap.objs.size j.toArray) (T:kY ys j) (J:ys.length<=sizeLine):Inv X g U (upd H s.heap.objs.size (.t ys)) { s with heap:=C,toks:=t' }:=by
 have f:=I.fresh;have h:∀ b u,H b=some u->b∉p:=λb u e z=>by rw[(l b z).1] at e;cases e
 have lt:∀ b o,s.heap.get? b=some o->b≠s.heap.objs.size:=λb o e=>cD (aY e)
 refine I.step (g':=s.gens) (d':=s.drawn) (ch:=p) (λb a=>⟨(l b a).2.2.2.1,(l b a).2.1,(l b a).2.2.2.2.1,(l b a).2.2.2.2.2⟩) (λb o _ _ d e _=>k b o d e) (λb o _ _ d e _=>⟨o.slots,k b o d e⟩) (λb o _ e n=>by rw[kX (lt b o e)];exact n)
  (λb o d e=>⟨o,k b o d e⟩) (λb A e=>by rw[kX (nP e f)];exact e) (λb o u e=>by rw[kX (nP e f)];exact e) (λb B e=>⟨#[],by rw[kX (nP e f),e];simp⟩) (λm x=>?_) (λb u e=>?_) I.bare
 .obtain⟨o,w,i,y,r⟩:=x;exact⟨o,w,i,k _ o (λz=>(l _ z).2.1 rfl) y,r⟩
 .by_cases a:b=s.heap.objs.size
  .subst a;rw[lT] at e;cases e;exact⟨J,j,T,new⟩
  .rw[kX a] at e;refine (I.hok b u e).stay (λc v d q=>k c v ?_ q) (λc q=>by rw[kX (nP q f)];exact q) λc A q=>by rw[kX (nP q f)];exact q
   rcases d with z | z
   .rw[z];exact h b u e
   .exact h c _ z
end
def F7 (K:kM) (w:World) (a:Ad) (g:Aa (gV×V)):Prop:=(a == sysModules)=false/\∀ (P:Ah) (h:Ag),K.In h->∃ b,KV g b/\h.DictOf (oA P w) a b
theorem Z0 (P:Ah) (w:World){D:Aa (Af×V×Ac)}(h:KTD.Rows (λ(d:V×Ac) v=>v=d.2) g D) (j:∀ p∈D,kR p.2.1 p.2.2):g.map (·.hash)=D.map (λp=>hashStr w p.1) ->
  (∀ e∈g,∃ k,(oA P w).is k e.key=true/\e.hash=(oA P w).hash k)/\Pairs (oA P w) g (D.map λp=>((.inr p.1:gV),p.2.2))/\KV (D.map λp=>((.inr p.1:gV),p.2.1)) (D.map λp=>((.inr p.1:gV),p.2.2)):=by
 induction h with
 | nil=>exact λ_=>⟨(λ_ h=>nomatch h),.nil,.nil⟩
 | @cons e x t d g D b u _ y =>
  intro c;simp only[aW,eO] at c;obtain⟨m,n,q⟩:=y (λp s=>j p (aZ _ s)) c.2;have f:(oA P w).is (.inr x:gV) e.key=true:=by rw[b];exact N3 P w x t
  refine⟨λi a=>?_,.cons f u n,.cons ⟨rfl,j (x,d) (aO ..)⟩ q⟩;rcases aK.mp a with a | a
  .rw[a];exact⟨.inr x,f,c.1⟩
  .exact m i a
theorem Us {K:kM}{D:Aa (Af×V×Ac)}(r:∀ p∈D,kR p.2.1 p.2.2) (g:KTD.tabLook (λ(d:V×Ac) v=>v == d.2) (λb=>K.lookup b) a D=true) (l:(D.map (·.1)).Nodup)
  (j:KTD.hashesOf (λb=>K.lookup b) a=D.map λp=>hashStr w p.1):F7 K w a (D.map λp=>(.inr p.1,p.2.1)):=by
 simp only[KTD.tabLook,cK] at g;obtain⟨u,g⟩:=g;refine⟨by simpa using u,λP h y=>?_⟩;split at g
 .rename_i o m
  simp only[cK] at g;obtain⟨⟨⟨n,q⟩,s⟩,c⟩:=g;split at c
  .rename_i k t hd
   have i:k.toList.map (·.hash)=D.map λp=>hashStr w p.1:=by
    rw[<- j];unfold KTD.hashesOf;simp only[m,hd]
   obtain⟨B,E,A⟩:=Z0 P w (KTD.rows_of_look (R:=λ(d:V×Ac) v=>v=d.2) (λd v e=>gC.mp e) c) r i;refine⟨_,A,o,k,t,y _ _ m,⟨gC.mp n,by simpa using q,by simpa using s⟩,hd,λe z=>B e (by simpa using z),E,?_⟩;rw[aP];have:(D.map ((λ(x:gV×Ac)=>x.1)∘λp=>((.inr p.1:gV),p.2.2)))=(D.map (·.1)).map (Sum.inr:Af->gV):=by rw[aP];rfl
   rw[this];exact l.map _ (λa b f e=>f (dX e))
  .cases c
 .cases g
section
variable {X:Cx}
def Mm (K:kM) (w:World) (neg:Bool):R2:=λx y H Q=>∃ (z:Af) (a:Ad) (c:Aa (gV×V)),x = .str z/\y = .ref a/\F7 K w a c/\Q (.b (if neg then !(pN c (.inr z)).isSome else (pN c (.inr z)).isSome)) H
theorem Vj:lF X (compareOp .NotIn) (Mm X.K X.w true):=by
 intro c s t H x y v u Q I i m h;obtain⟨z,a,f,rfl,rfl,⟨hd,e⟩,q⟩:=h;cases m;obtain⟨n,rel,d⟩:=e X.prog s.heap I.kIn;refine wpAny_notIn_of (vR (k:=.inr z) i) hd d.mapOf ?_;rw[<- (rel.val (.inr z)).isSome_eq];exact⟨.b _,H,I.tok _,rfl,q⟩
end
section
variable {X:Cx}
theorem CW {iter:Expr}(T p:Aa Af) (J:Aa Nat) (hN:X.N.Nodup) (af:X.N[i]?=some x) (hx:rT X.env.scope x)
  (hc:X.calm=true) (hi:PI X tg iter wi) (hk:j.kind = .function) (ho:yV X.N X.env.kindOf j T p J=true)
  (hg:∀ r l C cl U,PG (qA X (T++p) j cl C r l U) tg g)
  (ht:∀ r l C cl U,tF (qA X (T++p) j cl C r l U) ac tt)
  (he:∀ r l C cl U,PE (qA X (T++p) j cl C r l U) ab te)
  (ag:swapsWith (.ListComp ab [⟨tg,iter,ac,0⟩] j pos) (some (.Name x aa)) ae.line X.env=pure true:=by rfl)
  (hs:∀ x,foldedSetIterable iter X.env x=pure x:=by intro _;rfl)
  (hf:X.fn x=true\/X.env.scope.names.lookup x=some .local:=by first | exact .inl rfl | exact .inr rfl | assumption) :
  PS X (.Assign [.Name x aa] (.ListComp ab [⟨tg,iter,ac,0⟩] j pos) ae) (D5 (B4 T J wi g tt te) (xF i)):=by
 intro u s M H D I h;rw[exec_Assign_Name_used _ _ _ _ ag];refine aB (iD (aB ?_));show wpAny _ _ (comprehension _ _ _ _ _ _ _ _ >>= λ_=>pure ()) _ _ _;refine aB (Oe (nw:=none) T p J hc hi hk (Qy ho) hg ht he hs I h λC t L w A q U k=>?_);obtain⟨m,E⟩:=k;show wpAny _ _ (assign (.Name x aa) X.env (.ref t)) _ _ _;refine wpAny_assign_Name (M6 A hN af hx (v:=.ref t) rfl (λF y f=>?_) hf);obtain⟨a,G,B⟩:=f;have c:C≠a:=by
  rcases B with z | z
  .rw[z];exact U.2.1
  .exact (U.2.2.2.2.1 x a z).symm
 refine⟨m,E.sameBut G c,λK n=>aF (aF ⟨_,w,y.moved (t':=F.toks) (fp:=[C]) (λb d=>?_) (λb o d e=>?_),q⟩)⟩
 .rw[aH.mp d];exact U
 .exact n.extBut b o (λz=>d (aH.mpr z)) e
end
inductive D where
 | e | b (b:Bool) | int (i:Int) | str (x:Str) | r (v:V)
 | t (xs:List D) | l (xs:List D)
 | k (kvs:List (gV×D)) | T (kvs:List (List gV×D))
 | c (xs:List D)
 | con (xs:List D)
def Ax (K:kM) (a:Ad) (g:Aa V):Prop:=∃ (o:Obj) (b:Array Ac) (n:Nat),K.lookup a=some o/\o.cls = .type "tuple" /\ o.data = .seq b n/\b.size<=sizeLine/\kY g b.toList
theorem Ax.sqT {K:kM}(h:Ax K a g):lZ K H a g:=.inr h
def uH (K:kM) (H:Hp) (a:Ad) (g:Aa V):Prop:=(∃ o,H a=some (.frz o (.l g))) \/
 ∃ (o:Obj) (b:Array Ac) (n:Nat),K.lookup a=some o/\o.cls = .type "list" /\ o.dict=none/\o.data = .seq b n/\b.size<=sizeLine/\kY g b.toList
theorem uH.sqL {K:kM}(h:uH K H a g):lG K H a g:=h.elim (λh=>.inl (.inr h)) .inr
mutual
inductive Rep (K:kM) (A:Addr->Prop) (H:Hp):D->V->Prop where
 | e:Rep K A H .e .e
 | b (b:Bool):Rep K A H (.b b) (.b b)
 | int (i:Int):Rep K A H (.int i) (.int i)
 | str (x:Str):Rep K A H (.str x) (.str x)
 | r (v:V):Rep K A H (.r v) v
 | t {a:Addr} {vs:List V} {ds:List D}:H a=some (.t vs)->Reps K A H ds vs->Rep K A H (.t ds) (.ref a)
 | con {a:Addr} {vs:List V} {ds:List D}:Ax K a vs->Reps K A H ds vs->Rep K A H (.con ds) (.ref a)
 | l {a:Addr} {vs:List V} {ds:List D}:A a->H a=some (.l vs)->Reps K A H ds vs->Rep K A H (.l ds) (.ref a)
 | c {a:Addr} {vs:List V} {ds:List D}:uH K H a vs->Reps K A H ds vs->Rep K A H (.c ds) (.ref a)
 | k {a:Addr} {kvs:List (gV×V)} {ds:List (gV×D)}:A a->Rd H a (.k kvs)->ds.map (·.1)=kvs.map (·.1)->Reps K A H (ds.map (·.2)) (kvs.map (·.2))->Rep K A H (.k ds) (.ref a)
 | T {a:Addr} {kvs:List (List gV×V)} {ds:List (List gV×D)}:A a->Rd H a (.T kvs)->ds.map (·.1)=kvs.map (·.1)->Reps K A H (ds.map (·.2)) (kvs.map (·.2))->Rep K A H (.T ds) (.ref a)
inductive Reps (K:kM) (A:Addr->Prop) (H:Hp):List D->List V->Prop where
 | nil:Reps K A H [] []
 | cons {d:D} {v:V} {ds:List D} {vs:List V}:Rep K A H d v->Reps K A H ds vs->Reps K A H (d::ds) (v::vs)
end
def El:HO->Bool
 | .t _=>true
 | .frz _ _=>true
 | _=>false
def Kp (A j:Ad->Prop) (H g:Hp):Prop:=(∀ a o,A a->H a=some o->j a/\g a=some o)/\∀ a o,El o=true->H a=some o->g a=some o
section
variable {K:kM}
theorem Kp.sqF (k:Kp A l H g) (h:uH K H a j):uH K g a j:=by
 rcases h with⟨o,h⟩ | h
 .exact .inl ⟨o,k.2 _ _ rfl h⟩
 .exact .inr h
theorem Kp.rd (k:Kp A j H l) (g:A a) (h:Rd H a u):j a/\Rd l a u:=by
 rcases h with h | ⟨o,h⟩
 .exact⟨(k.1 _ _ g h).1,.inl (k.1 _ _ g h).2⟩
 .exact⟨(k.1 _ _ g h).1,.inr ⟨o,(k.1 _ _ g h).2⟩⟩
theorem Rep.mono (k:Kp A g H j) (h:Rep K A H d v):Rep K g j d v :=
 Rep.rec (motive_1:=λd v _=>Rep K g j d v) (motive_2:=λf i _=>Reps K g j f i) .e .b .int .str .r (λh _ r=>.t (k.2 _ _ rfl h) r) (λh _ r=>.con h r)
  (λa h _ r=>.l (k.1 _ _ a h).1 (k.1 _ _ a h).2 r) (λh _ r=>.c (k.sqF h) r) (λa h e _ r=>.k (k.rd a h).1 (k.rd a h).2 e r) (λa h e _ r=>.T (k.rd a h).1 (k.rd a h).2 e r) .nil (λ_ _ h r=>.cons h r) h
theorem Reps.mono (k:Kp A o H p) (h:Reps K A H j l):Reps K o p j l:=by
 induction j generalizing l with
 | nil=>cases h;exact .nil
 | cons d j a=>cases h with | cons g r=>exact .cons (g.mono k) (a r)
theorem Kp.all (h:∀ a,A a->g a):Kp A g H H:=⟨λa o b e=>⟨h a b,e⟩,λ_ _ _ e=>e⟩
theorem Kp.trans (a:Kp A l H r) (b:Kp l g r j):Kp A g H j:=⟨λx o c e=>let ⟨p,q⟩:=a.1 x o c e;b.1 x o p q,λx o t e=>b.2 x o t (a.2 x o t e)⟩
theorem Kp.laid (g:H p=none) (h:∀ a,A a->a≠p->j a):Kp A j H (upd H p o) :=
 ⟨λa u b e=>⟨h a b (nP e g),by rw[kX (nP e g)];exact e⟩,λa u _ e=>by rw[kX (nP e g)];exact e⟩
theorem Kp.same (s:mF H j) (h:∀ a,A a->g a):Kp A g H j:=⟨λa o b e=>⟨h a b,s a o e⟩,λa o _ e=>s a o e⟩
theorem Kp.write (l:H p=some u) (g:El u=false) (j:¬ A p):Kp A A H (upd H p o):=by
 refine⟨λa w b e=>⟨b,?_⟩,λa w t e=>?_⟩
 .rw[kX (λz:a=p=>j (by rw[<- z];exact b))];exact e
 .rw[kX (λz=>?_)]
  .exact e
  .subst z;rw[l] at e;cases e;rw[t] at g;cases g
theorem Reps.length (h:Reps K A H j l):j.length=l.length:=by
 induction j generalizing l with
 | nil=>cases h;rfl
 | cons d j a=>cases h with | cons g r=>exact cH (·+1) (a r)
theorem Reps.get {j:Aa D}{l:Aa V}{i:Nat}{d:D}(h:Reps K A H j l) (e:j[i]?=some d):∃ v,l[i]?=some v/\Rep K A H d v:=by
 induction j generalizing l i with
 | nil=>cases e
 | cons c j a =>
  cases h with
  | cons g r =>
   cases i with
   | zero=>cases e;exact⟨_,rfl,g⟩
   | succ i=>exact a r (i:=i) e
theorem Reps.getV {j:Aa D}{l:Aa V}{i:Nat}{v:V}(h:Reps K A H j l) (e:l[i]?=some v):∃ d,j[i]?=some d/\Rep K A H d v:=by
 induction j generalizing l i with
 | nil=>cases h;cases e
 | cons c j a =>
  cases h with
  | cons g r =>
   cases i with
   | zero=>cases e;exact⟨_,rfl,g⟩
   | succ i=>exact a r (i:=i) e
theorem Reps.append (h:Reps K A H j l) (s:Reps K A H o p):Reps K A H (j++o) (l++p):=by
 induction j generalizing l with
 | nil=>cases h;exact s
 | cons d j a=>cases h with | cons g r=>exact .cons g (a r)
theorem Reps.set (h:Rep K A H d v):∀ {j:Aa D}{l:Aa V}(i:Nat),Reps K A H j l->Reps K A H (j.set i d) (l.set i v)
 | _,_,_,.nil=>.nil
 | _,_,0,.cons _ r=>.cons h r
 | _,_,i+1,.cons g r=>.cons g (Reps.set h i r)
theorem Reps.erase:∀ {j:Aa D}{l:Aa V}(i:Nat),Reps K A H j l->Reps K A H (j.eraseIdx i) (l.eraseIdx i)
 | _,_,_,.nil=>.nil
 | _,_,0,.cons _ r=>r
 | _,_,i+1,.cons g r=>.cons g (Reps.erase i r)
theorem Reps.nil_iff (h:Reps K A H g j):j=[]↔g=[]:=by
 cases h<;>simp
theorem Rep.int_inv (h:Rep K A H (.int i) v):v = .int i:=by cases h;rfl
theorem Rep.str_inv (h:Rep K A H (.str i) v):v = .str i:=by cases h;rfl
theorem Rep.bl_inv (h:Rep K A H (.b i) v):v = .b i:=by cases h;rfl
theorem Rep.non_inv (h:Rep K A H .e v):v = .e:=by cases h;rfl
theorem Rep.tup_inv (h:Rep K A H (.t j) v):∃ a g,v = .ref a/\H a=some (.t g)/\Reps K A H j g:=by
 cases h with | t h r=>exact⟨_,_,rfl,h,r⟩
theorem Rep.lst_inv (h:Rep K A H (.l j) v):∃ a g,v = .ref a/\A a/\H a=some (.l g)/\Reps K A H j g:=by
 cases h with | l d h r=>exact⟨_,_,rfl,d,h,r⟩
theorem Rep.con_inv (h:Rep K A H (.con j) v):∃ a g,v = .ref a/\Ax K a g/\Reps K A H j g:=by
 cases h with | con h r=>exact⟨_,_,rfl,h,r⟩
theorem Rep.scr_inv (h:Rep K A H (.c j) v):∃ a g,v = .ref a/\uH K H a g/\Reps K A H j g:=by
 cases h with | c h r=>exact⟨_,_,rfl,h,r⟩
theorem Rep.dK_inv (h:Rep K A H (.k j) v):∃ a g,v = .ref a/\A a/\Rd H a (.k g)/\j.map (·.1)=g.map (·.1)/\Reps K A H (j.map (·.2)) (g.map (·.2)):=by
 cases h with | k d h e r=>exact⟨_,_,rfl,d,h,e,r⟩
theorem Rep.dT_inv (h:Rep K A H (.T j) v):∃ a g,v = .ref a/\A a/\Rd H a (.T g)/\j.map (·.1)=g.map (·.1)/\Reps K A H (j.map (·.2)) (g.map (·.2)):=by
 cases h with | T d h e r=>exact⟨_,_,rfl,d,h,e,r⟩
end
mutual
def imm:D->Bool
 | .t a=>sK a
 | .c a=>sK a
 | .con a=>sK a
 | .l _=>false
 | .k _=>false
 | .T _=>false
 | _=>true
def sK:Aa D->Bool
 | []=>true
 | d::a=>imm d&&sK a
end
section
variable {K:kM}
theorem Rep.imm (h:Rep K A H d v):imm d=true->Rep K g H d v :=
 Rep.rec (motive_1:=λd v _=>L2.imm d=true->Rep K g H d v) (motive_2:=λa f _=>sK a=true->Reps K g H a f) (λ_=>.e) (λb _=>.b b) (λi _=>.int i) (λx _=>.str x) (λv _=>.r v) (λh _ r e=>.t h (r e)) (λh _ r e=>.con h (r e))
  (λ_ _ _ _ e=>Bool.noConfusion (show false=true from e)) (λh _ r e=>.c h (r e)) (λ_ _ _ _ _ e=>Bool.noConfusion (show false=true from e)) (λ_ _ _ _ _ e=>Bool.noConfusion (show false=true from e)) (λ_=>.nil) (λ_ _ h r e=>.cons (h (eY.mp e).1) (r (eY.mp e).2)) h
theorem Reps.imm (h:Reps K A H j l) (e:sK j=true):Reps K o H j l:=by
 induction j generalizing l with
 | nil=>cases h;exact .nil
 | cons d j a=>cases h with | cons g r=>exact .cons (g.imm (eY.mp e).1) (a r (eY.mp e).2)
theorem Pm:∀ {g:Aa D},(∀ d∈g,L2.imm d=true)->sK g=true
 | [],_=>rfl
 | d::g,h=>eY.mpr ⟨h d aO,Pm λe a=>h e (aZ _ a)⟩
theorem Z8 {g:Type}{f:g->D}(h:∀ x,L2.imm (f x)=true) (j:Aa g):sK (j.map f)=true:=Pm λd hd=>by
 obtain⟨x,_,rfl⟩:=bB.mp hd;exact h x
end
end L2
namespace Lw
open PySem L2
structure DeckAt (H:Hp) (d c:Addr):Prop where
 ex:∃ (ns:List Int) (p:Int),H d=some (.l [.ref c,.int p])/\H c=some (.l (ns.map V.int))/\0<ns.length/\ns.length<=100
end Lw
namespace L2
open PySem PySem.Spec PyProof.Rows Lw
inductive Sl where
 | n | v (d:D) | o (d:D)
abbrev mY:=Aa (Sl×Ab V)
def Dk (g:Aa Ad) (H:Hp):Prop:=g=[]\/∃ d c,g=[d,c]/\DeckAt H d c
theorem Dk.some (h:Dk j H) (g:a∈j):∃ o,H a=some (.l o):=by
 rcases h with rfl | ⟨d,c,rfl,h⟩
 .cases g
 .obtain⟨f,p,b,e,_⟩:=h.ex;rcases aK.mp g with rfl | g
  .exact⟨_,b⟩
  .rcases aK.mp g with rfl | g
   .exact⟨_,e⟩
   .cases g
theorem Dk.keep (h:Dk g H) (k:∀ a∈g,j a=H a):Dk g j:=by
 rcases h with rfl | ⟨d,c,rfl,h⟩
 .exact .inl rfl
 .refine .inr ⟨d,c,rfl,?_⟩;obtain⟨i,p,b,e,f⟩:=h.ex;exact⟨i,p,by rw[k d (by simp)];exact b,by rw[k c (by simp)];exact e,f⟩
theorem Dk.upd (h:Dk g H) (j:p∉g):Dk g (upd H p o):=h.keep λa b=>kX λz=>j (z▸b)
noncomputable def xW:Sl×Ab V->Ab Ad
 | (.o _,some (.ref a))=>some a
 | _=>none
def hH (L:mY):Aa Ad:=L.filterMap xW
structure Bs where
 dk:List Addr
 A0:Addr->Prop
 H0:Hp
def Al (B:Bs) (R:Aa Ad) (a:Ad):Prop:=a∉B.dk/\a∉R/\(B.A0 a\/B.H0 a=none)
def nY (K:kM) (A:Ad->Prop) (H:Hp) (a:Ad):D->Prop
 | .l c=>∃ d,H a=some (.l d)/\Reps K A H c d
 | .k c=>∃ b,H a=some (.k b)/\c.map (·.1)=b.map (·.1)/\Reps K A H (c.map (·.2)) (b.map (·.2))
 | .T c=>∃ b,H a=some (.T b)/\c.map (·.1)=b.map (·.1)/\Reps K A H (c.map (·.2)) (b.map (·.2))
 | _=>False
def qY (K:kM) (A:Ad->Prop) (H:Hp):Sl->Ab V->Prop
 | .n,_=>True
 | .v d,x=>∃ v,x=some v/\Rep K A H d v
 | .o d,x=>∃ a,x=some (.ref a)/\nY K A H a d
structure DS (K:kM) (B:Bs) (L:mY) (H:Hp):Prop where
 fr:∀ b o,B.H0 b=some o->b∉B.dk->H b=some o
 dk:Dk B.dk H
 nd:(hH L).Nodup
 new:∀ a∈hH L,B.H0 a=none/\a∉B.dk
 ok:∀ p∈L,qY K (Al B (hH L)) H p.1 p.2
section
variable {K:kM}{L2:mY}
theorem nY.mono (k:Kp A p H j) (g:∀ o,H a=some o->j a=some o) (h:nY K A H a d):nY K p j a d:=by
 cases d with
 | l _=>obtain⟨b,h,r⟩:=h;exact⟨b,g _ h,r.mono k⟩
 | k _=>obtain⟨b,h,e,r⟩:=h;exact⟨b,g _ h,e,r.mono k⟩
 | T _=>obtain⟨b,h,e,r⟩:=h;exact⟨b,g _ h,e,r.mono k⟩
 | _=>exact False.elim h
theorem nY.some:∀ {d:D},nY K A H a d->∃ o,H a=some o/\El o=false
 | .l _,⟨b,h,r⟩=>⟨_,h,rfl⟩
 | .k _,⟨b,h,e,r⟩=>⟨_,h,rfl⟩
 | .T _,⟨b,h,e,r⟩=>⟨_,h,rfl⟩
theorem nY.rep (g:∀ b,A b->o b) (j:o a):∀ {d:D},nY K A H a d->Rep K o H d (.ref a)
 | .l _,⟨c,h,r⟩=>.l j h (r.mono (.all g))
 | .k _,⟨c,h,e,r⟩=>.k j (.inl h) e (r.mono (.all g))
 | .T _,⟨c,h,e,r⟩=>.T j (.inl h) e (r.mono (.all g))
theorem qY.mono (k:Kp A j H g) (h:qY K A H s y) (l:∀ a,xW (s,y)=some a->∀ o,H a=some o->g a=some o):qY K j g s y:=by
 cases s with
 | n=>trivial
 | v d=>obtain⟨v,e,r⟩:=h;exact⟨v,e,r.mono k⟩
 | o d=>obtain⟨a,rfl,r⟩:=h;exact⟨a,rfl,r.mono k (l a rfl)⟩
theorem pZ:hH (g++L2)=hH g++hH L2:=List.filterMap_append
theorem rV:a∈hH L↔∃ p∈L,xW p=some a:=jN
theorem qF:hH (L1++x::L2)=hH L1++((xW x).toList++hH L2):=by
 unfold hH;rw[List.filterMap_append,List.filterMap_cons];cases xW x<;>rfl
theorem DS.live (h:DS K B L H) (g:a∈hH L):∃ o,H a=some o/\El o=false:=by
 obtain⟨p,c,e⟩:=rV.mp g;have:=h.ok p c;obtain⟨s,y⟩:=p;cases s with
 | n=>cases e
 | v d=>cases e
 | o d =>
  obtain⟨b,rfl,r⟩:=this;cases e;exact r.some
theorem DS.drop (h:DS K B (L1++x::L2) H):DS K B (L1++L2) H:=by
 have e:=qF (L1:=L1) (x:=x) (L2:=L2);have d:∀ a,a∈hH (L1++L2)->a∈hH (L1++x::L2):=λa c=>by
  rw[pZ] at c;rw[e];simp only[aR] at c |-;rcases c with q | q
  .exact .inl q
  .exact .inr (.inr q)
 refine⟨h.fr,h.dk,?_,λa c=>h.new a (d a c),λp f=>?_⟩
 .have n:=h.nd;rw[e] at n;rw[pZ];obtain⟨k,m,s⟩:=bS.mp n;exact bS.mpr ⟨k,(bS.mp m).2.1,λa c b i=>s a c b (aT _ i)⟩
 .refine (h.ok p (by simp only[aR,aK] at f |-;rcases f with q | q;exact .inl q;exact .inr (.inr q))).mono (.all λa z=>⟨z.1,λq=>z.2.1 (d a q),z.2.2⟩) (λ_ _ _ q=>q)
theorem DS.at (h:DS K B (g++x::L2) H):qY K (Al B (hH (g++x::L2))) H x.1 x.2:=h.ok x (aT _ aO)
theorem DS.valAt (h:DS K B (g++(.v d,some v)::L2) H):Rep K (Al B (hH (g++L2))) H d v:=by
 obtain⟨u,e,r⟩:=h.at;cases e;have:hH (g++(Sl.v d,some v)::L2)=hH (g++L2):=by rw[qF,pZ];rfl
 rw[this] at r;exact r
theorem DS.push (h:DS K B (L1++L2) H) (r:Rep K (Al B (hH (L1++L2))) H d v):DS K B (L1++(.v d,some v)::L2) H:=by
 have e:hH (L1++(Sl.v d,some v)::L2)=hH (L1++L2):=by rw[qF,pZ];rfl
 refine⟨h.fr,h.dk,by rw[e];exact h.nd,by rw[e];exact h.new,λp a=>?_⟩;rw[e];simp only[aR,aK] at a;rcases a with q | q | q
 .exact h.ok p (aM _ q)
 .subst q;exact⟨v,rfl,r⟩
 .exact h.ok p (aT _ q)
theorem DS.pushN (h:DS K B (L1++L2) H) (y:Ab V):DS K B (L1++(.n,y)::L2) H:=by
 have e:hH (L1++(Sl.n,y)::L2)=hH (L1++L2):=by rw[qF,pZ];rfl
 refine⟨h.fr,h.dk,by rw[e];exact h.nd,by rw[e];exact h.new,λp a=>?_⟩;rw[e];simp only[aR,aK] at a;rcases a with q | q | q
 .exact h.ok p (aM _ q)
 .subst q;trivial
 .exact h.ok p (aT _ q)
theorem DS.grow (h:DS K B L H) (s:mF H g) (j:Dk B.dk g):DS K B L g :=
 ⟨λb o e n=>s b o (h.fr b o e n),j,h.nd,h.new,λp a=>(h.ok p a).mono (.same s λ_ z=>z) (λ_ _ o q=>s _ o q)⟩
theorem DS.free (h:DS K B L H) (g:H a=none):B.H0 a=none/\a∉B.dk/\a∉hH L:=by
 have n:a∉B.dk:=λz=>by obtain⟨b,e⟩:=h.dk.some z;rw[e] at g;cases g
 refine⟨?_,n,λz=>by obtain⟨o,e,_⟩:=h.live z;rw[e] at g;cases g⟩;cases e:B.H0 a with
 | none=>rfl
 | some o=>rw[h.fr a o e n] at g;cases g
theorem DS.laid (h:DS K B L H) (g:H a=none):DS K B L (upd H a o) :=
 h.grow (λb u e=>by rw[kX (nP e g)];exact e) (h.dk.upd (h.free g).2.1)
theorem DS.tup (h:DS K B (L1++L2) H) (g:H a=none) (r:Reps K (Al B (hH (L1++L2))) H j l):DS K B (L1++(.v (.t j),some (.ref a))::L2) (upd H a (.t l)) :=
 (h.laid g).push (.t lT (r.mono (.laid g λ_ z _=>z)))
theorem DS.make (h:DS K B (L1++L2) H) (g:H a=none) (r:∀ j,Kp (Al B (hH (L1++L2))) j H (upd H a o)->nY K j (upd H a o) a d):DS K B (L1++(.o d,some (.ref a))::L2) (upd H a o):=by
 obtain⟨f1,f2,k⟩:=h.free g;have e:hH (L1++(Sl.o d,some (.ref a))::L2)=hH L1++a::hH L2:=qF;have m:∀ b,b∈hH L1++a::hH L2↔b=a\/b∈hH (L1++L2):=λb=>by
  rw[pZ];simp only[aR,aK];constructor
  .rintro (q | q | q)
   .exact .inr (.inl q)
   .exact .inl q
   .exact .inr (.inr q)
  .rintro (q | q | q)
   .exact .inr (.inl q)
   .exact .inl q
   .exact .inr (.inr q)
 have s:Kp (Al B (hH (L1++L2))) (Al B (hH L1++a::hH L2)) H (upd H a o):=.laid g λb z n=>⟨z.1,λq=>(m b).mp q |>.elim n z.2.1,z.2.2⟩
 refine⟨λb u q n=>by rw[kX (nP (h.fr b u q n) g)];exact h.fr b u q n,h.dk.upd f2,?_,λb i=>?_,λp f=>?_⟩
 .rw[e];have n:=h.nd;rw[pZ] at n k;obtain⟨v,x,y⟩:=bS.mp n;refine bS.mpr ⟨v,bN.mpr ⟨λz=>k (aT _ z),x⟩,λb i c t=>?_⟩;rcases aK.mp t with q | q
  .intro z;subst z;subst q;exact k (aM _ i)
  .exact y b i c q
 .rw[e] at i;rcases (m b).mp i with q | q
  .subst q;exact⟨f1,f2⟩
  .exact h.new b q
 .rw[e];simp only[aR,aK] at f;have old:∀ p∈L1++L2,qY K (Al B (hH L1++a::hH L2)) (upd H a o) p.1 p.2:=λp f=>(h.ok p f).mono s λb i w q=>by rw[kX (nP q g)];exact q
  rcases f with q | q | q
  .exact old p (aM _ q)
  .subst q;exact⟨a,rfl,r _ s⟩
  .exact old p (aT _ q)
theorem DS.freeze (h:DS K B (g++(.o d,some v)::L2) H):DS K B (g++(.v d,some v)::L2) H:=by
 obtain⟨a,e,r⟩:=h.at;cases e;have c:hH (g++(Sl.o d,some (V.ref a))::L2)=hH g++a::hH L2:=qF;have hd:=h.drop;have f:=h.new a (by rw[c];simp);refine hd.push (r.rep (λb z=>⟨z.1,λq=>z.2.1 ?_,z.2.2⟩) ⟨f.2,λq=>?_,.inr f.1⟩)
 .rw[c];rw[pZ] at q;simp only[aR,aK] at q |-;rcases q with q | q
  .exact .inl q
  .exact .inr (.inr q)
 .have n:=h.nd;rw[c] at n;rw[pZ] at q;obtain⟨m,i,k⟩:=bS.mp n;rcases aR.mp q with q | q
  .exact k a q a aO rfl
  .exact (bN.mp i).1 q
theorem DS.write (h:DS K B (g++(.o d,some (.ref a))::L2) H) (r:∀ j,Kp (Al B (hH g++a::hH L2)) j H (upd H a o)->nY K j (upd H a o) a d'):DS K B (g++(.o d',some (.ref a))::L2) (upd H a o):=by
 have e:∀ d,hH (g++(Sl.o d,some (V.ref a))::L2)=hH g++a::hH L2:=λd=>qF
 have s:=h.new a (by rw[e];simp);obtain⟨u,t,A⟩:=h.live (a:=a) (by rw[e];simp);have k:Kp (Al B (hH g++a::hH L2)) (Al B (hH g++a::hH L2)) H (upd H a o):=.write t A λz=>z.2.1 (by simp)
 have n:=h.nd;rw[e] at n;have y:∀ b,b∈hH g\/b∈hH L2->b≠a:=λb c z=>by
  subst z;obtain⟨D,v,x⟩:=bS.mp n;rcases c with c | c
  .exact x b c b aO rfl
  .exact (bN.mp v).1 c
 refine⟨λb w q m=>?_,h.dk.upd s.2,by rw[e];exact n,λb c=>h.new b (by rw[e] at c |-;exact c),λp f=>?_⟩
 .have:b≠a:=λz=>by subst z;rw[s.1] at q;cases q
  rw[kX this];exact h.fr b w q m
 .rw[e];have old:∀ p,p∈g\/p∈L2->qY K (Al B (hH g++a::hH L2)) (upd H a o) p.1 p.2:=λp i=>by
   have:=h.ok p (by simp only[aR,aK];rcases i with q | q;exact .inl q;exact .inr (.inr q));rw[e] at this;refine this.mono k λb c w q=>?_
   rw[kX (y b ?_)]
   .exact q
   .rcases i with z | z
    .exact .inl (rV.mpr ⟨p,z,c⟩)
    .exact .inr (rV.mpr ⟨p,z,c⟩)
  simp only[aR,aK] at f;rcases f with q | q | q
  .exact old p (.inl q)
  .subst q;exact⟨a,rfl,r _ k⟩
  .exact old p (.inr q)
theorem DS.ownAt (h:DS K B (g++(.o d,some v)::L2) H):∃ a,v = .ref a/\nY K (Al B (hH g++a::hH L2)) H a d:=by
 obtain⟨a,e,r⟩:=h.at;cases e;rw[show hH (g++(Sl.o d,some (V.ref a))::L2)=hH g++a::hH L2 from qF] at r;exact⟨a,rfl,r⟩
theorem DS.perm (h:DS K B L H) (p:L.Perm M):DS K B M H:=by
 have e:(hH L).Perm (hH M):=p.filterMap xW;refine⟨h.fr,h.dk,e.nodup_iff.mp h.nd,λa b=>h.new a (e.mem_iff.mpr b),λq c=>(h.ok q (p.mem_iff.mpr c)).mono (.all λa z=>⟨z.1,λw=>z.2.1 (e.mem_iff.mpr w),z.2.2⟩) λ_ _ _ w=>w⟩
end
section
theorem uJ {g:Aa Sl}{σ:St}(C:g.length=σ.length){i:Nat}{s:Sl}(h:g[i]?=some s):∃ j y l,σ[i]?=some y/\j.length=i/\g.zip σ=j++(s,y)::l/\∀ o p,(g.set i o).zip (σ.set i p)=j++(o,p)::l:=by
 induction g generalizing σ i with
 | nil=>simp at h
 | cons r g e =>
  cases σ with
  | nil=>simp at C
  | cons z σ =>
   cases i with
   | zero=>simp at h;subst h;exact⟨[],z,g.zip σ,rfl,rfl,rfl,λ_ _=>rfl⟩
   | succ i =>
    obtain⟨j,y,l,a,b,c,d⟩:=e (σ:=σ) (by simpa using C) (i:=i) (by simpa using h);exact⟨(r,z)::j,y,l,by simpa using a,by simp[b],by simp[c],λo p=>by simp[d]⟩
theorem yZ {g:St}{i:Nat}{y:Ab V}(h:g[i]?=some y):g.set i y=g:=by
 obtain⟨a,rfl⟩:=aV.mp h;exact List.set_getElem_self a
end
abbrev lL:=Aa Ad->Aa Sl->(Sl->Aa Sl->Prop)->Prop
abbrev pX:=Aa Ad->Aa Sl->(Bool->Aa Sl->Prop)->Prop
def dE (K:kM) (g:lL):TE:=λb H Q=>∃ (B:Bs) (c:Aa Sl) (T:mY) (e:Sl->Aa Sl->Prop),c.length=b.length/\DS K B (c.zip b++T) H/\g B.dk c e /\
 ∀ r a v d,a.length=b.length->DS K B (a.zip b++(r,some v)::T) d->e r a->Q v d
def rM (K:kM) (g:pX):TT:=λc H Q=>∃ (B:Bs) (d:Aa Sl) (T:mY) (f:Bool->Aa Sl->Prop),d.length=c.length/\DS K B (d.zip c++T) H/\g B.dk d f /\
 ∀ b a e,a.length=c.length->DS K B (a.zip c++T) e->f b a->Q b e
theorem dE.elim {K:kM}{P:Prop}(h:dE K C o H Q) (f:∀ (B:Bs) (j:Aa Sl) (T:mY) (l:Sl->Aa Sl->Prop),j.length=o.length->DS K B (j.zip o++T) H->C B.dk j l ->(∀ r g v p,g.length=o.length->DS K B (g.zip o++(r,some v)::T) p->l r g->Q v p)->P):P:=by
 obtain⟨B,j,T,l,a,hd,b,k⟩:=h;exact f B j T l a hd b k
theorem rM.elim {K:kM}{P:Prop}(h:rM K r o H Q) (f:∀ (B:Bs) (j:Aa Sl) (T:mY) (l:Bool->Aa Sl->Prop),j.length=o.length->DS K B (j.zip o++T) H->r B.dk j l ->(∀ b g p,g.length=o.length->DS K B (g.zip o++T) p->l b g->Q b p)->P):P:=by
 obtain⟨B,j,T,l,a,hd,c,k⟩:=h;exact f B j T l a hd c k
abbrev PD (X:Cx) (e:Expr) (g:lL):Prop:=PE X e (dE X.K g)
abbrev qH (X:Cx) (e:Expr) (g:pX):Prop:=PT X e (rM X.K g)
abbrev xX (X:Cx) (e:Expr) (g:pX):Prop:=PW X e (rM X.K g)
theorem PE.mono {X:Cx}(h:PE X e t) (k:∀ g H Q,j g H Q->t g H Q):PE X e j:=λa s g H Q I q=>h a s g H Q I (k g H Q q)
theorem PT.mono {X:Cx}(h:PT X e t) (k:∀ g H Q,j g H Q->t g H Q):PT X e j:=λa s g H Q I q=>h a s g H Q I (k g H Q q)
theorem PW.mono {X:Cx}(h:PW X e t) (k:∀ g H Q,j g H Q->t g H Q):PW X e j:=λb a s g H Q I q=>h b a s g H Q I (k g H Q q)
def sd:Sl->Ab D
 | .v d=>some d
 | .o d=>some d
 | .n=>none
section
variable {K:kM}{L2:mY}
theorem Hh:hH (g++(Sl.v d,y)::L2)=hH (g++L2):=by rw[qF,pZ];rfl
theorem DS.thaw (h:DS K B (g++(r,some v)::L2) H) (e:sd r=some d):DS K B (g++(.v d,some v)::L2) H:=by
 cases r with
 | n=>cases e
 | v c=>cases e;exact h
 | o c=>cases e;exact h.freeze
theorem DS.one (h:DS K B (L++(r,some v)::T) H) (e:sd r=some d):DS K B (L++T) H/\Rep K (Al B (hH (L++T))) H d v:=by
 have a:=h.thaw e;exact⟨a.drop,a.valAt⟩
theorem DS.two (h:DS K B (L++(l,some u)::(r,some v)::T) H) (g:sd r=some d) (j:sd l=some e):DS K B (L++T) H/\Rep K (Al B (hH (L++T))) H d v/\Rep K (Al B (hH (L++T))) H e u:=by
 have m:=h.thaw j;have n:DS K B ((L++[(Sl.v e,some u)])++(r,some v)::T) H:=by simpa using m
 have a:=n.thaw g;have b:DS K B (L++(Sl.v e,some u)::(.v d,some v)::T) H:=by simpa using a
 have c:=b.valAt;have f:=a.valAt;have i:hH (L++(Sl.v d,some v)::T)=hH (L++T):=by rw[qF,pZ];rfl
 have k:hH ((L++[(Sl.v e,some u)])++T)=hH (L++T):=by
  rw[bK];show hH (L++(Sl.v e,some u)::T)=_;rw[qF,pZ];rfl
 rw[i] at c;rw[k] at f;exact⟨b.drop.drop,f,c⟩
theorem DS.mid (h:DS K B (x::(L++T)) H):DS K B (L++x::T) H:=h.perm gT.symm
theorem DS.front (h:DS K B (L++x::T) H):DS K B (x::(L++T)) H:=h.perm gT
theorem DS.pushF (h:DS K B L H) (r:Rep K (Al B (hH L)) H d v):DS K B ((.v d,some v)::L) H:=DS.push (L1:=[]) h r
theorem DS.tupF (h:DS K B L H) (j:H a=none) (r:Reps K (Al B (hH L)) H g l):DS K B ((.v (.t g),some (.ref a))::L) (upd H a (.t l)):=DS.tup (L1:=[]) h j r
theorem DS.lstF (h:DS K B L H) (p:H a=none) (r:Reps K (Al B (hH L)) H j g):DS K B ((.o (.l j),some (.ref a))::L) (upd H a (.l g)) :=
 DS.make (L1:=[]) h p λb k=>⟨g,lT,r.mono k⟩
theorem DS.dKF (h:DS K B L H) (g:H a=none) (e:ds.map (·.1)=kvs.map (·.1)) (r:Reps K (Al B (hH L)) H (ds.map (·.2)) (kvs.map (·.2))):DS K B ((.o (.k ds),some (.ref a))::L) (upd H a (.k kvs)) :=
 DS.make (L1:=[]) h g λb k=>⟨kvs,lT,e,r.mono k⟩
end
def mU (K:kM) (A:Ad->Prop) (H:Hp):D->V->Prop
 | .l f,v=>∃ a h,v = .ref a/\H a=some (.l h)/\Reps K A H f h
 | .k f,v=>∃ a d,v = .ref a/\Rd H a (.k d)/\f.map (·.1)=d.map (·.1)/\Reps K A H (f.map (·.2)) (d.map (·.2))
 | .T f,v=>∃ a d,v = .ref a/\Rd H a (.T d)/\f.map (·.1)=d.map (·.1)/\Reps K A H (f.map (·.2)) (d.map (·.2))
 | .e,v=>Rep K A H .e v
 | .b b,v=>Rep K A H (.b b) v
 | .int b,v=>Rep K A H (.int b) v
 | .str b,v=>Rep K A H (.str b) v
 | .r b,v=>Rep K A H (.r b) v
 | .t b,v=>Rep K A H (.t b) v
 | .con b,v=>Rep K A H (.con b) v
 | .c b,v=>Rep K A H (.c b) v
section
variable {K:kM}
theorem Rep.peek (h:Rep K A H d v):mU K A H d v:=by
 cases h with
 | l _ h r=>exact⟨_,_,rfl,h,r⟩
 | k _ h e r=>exact⟨_,_,rfl,h,e,r⟩
 | T _ h e r=>exact⟨_,_,rfl,h,e,r⟩
 | e=>exact .e
 | b=>exact .b _
 | int=>exact .int _
 | str=>exact .str _
 | r=>exact .r _
 | t h r=>exact .t h r
 | con h r=>exact .con h r
 | c h r=>exact .c h r
theorem nY.peek:∀ {d:D},nY K A H a d->mU K A H d (.ref a)
 | .l _,⟨b,h,r⟩=>⟨_,b,rfl,h,r⟩
 | .k _,⟨b,h,e,r⟩=>⟨_,b,rfl,.inl h,e,r⟩
 | .T _,⟨b,h,e,r⟩=>⟨_,b,rfl,.inl h,e,r⟩
theorem mU.lst_inv (h:mU K A H (.l j) v):∃ a g,v = .ref a/\H a=some (.l g)/\Reps K A H j g:=h
theorem mU.dK_inv (h:mU K A H (.k j) v):∃ a g,v = .ref a/\Rd H a (.k g)/\j.map (·.1)=g.map (·.1)/\Reps K A H (j.map (·.2)) (g.map (·.2)):=h
theorem mU.dT_inv (h:mU K A H (.T j) v):∃ a g,v = .ref a/\Rd H a (.T g)/\j.map (·.1)=g.map (·.1)/\Reps K A H (j.map (·.2)) (g.map (·.2)):=h
theorem mU.tup_inv (h:mU K A H (.t j) v):∃ a g,v = .ref a/\H a=some (.t g)/\Reps K A H j g:=Rep.tup_inv h
theorem mU.con_inv (h:mU K A H (.con j) v):∃ a g,v = .ref a/\Ax K a g/\Reps K A H j g:=Rep.con_inv h
theorem mU.scr_inv (h:mU K A H (.c j) v):∃ a g,v = .ref a/\uH K H a g/\Reps K A H j g:=Rep.scr_inv h
theorem mU.int_inv (h:mU K A H (.int i) v):v = .int i:=Rep.int_inv h
theorem mU.str_inv (h:mU K A H (.str i) v):v = .str i:=Rep.str_inv h
theorem mU.bl_inv (h:mU K A H (.b i) v):v = .b i:=Rep.bl_inv h
theorem mU.non_inv (h:mU K A H .e v):v = .e:=Rep.non_inv h
def at? (g:Aa Sl) (i:Nat):Ab D:=(g[i]?).bind sd
theorem DS.peek (l:g.length=j.length) (h:DS K B (g.zip j++T) H) (e:at? g i=some d):∃ v,j[i]?=some (some v)/\mU K (Al B (hH (g.zip j++T))) H d v:=by
 unfold at? at e;cases f:g[i]? with
 | none=>rw[f] at e;cases e
 | some s =>
  rw[f] at e;obtain⟨q,y,t,k,_,m,_⟩:=uJ l f;have b:=h;rw[m] at b;have:=b.ok (s,y) (by simp);rw[<- m] at this;cases s with
  | n=>cases e
  | v c=>cases e;obtain⟨v,rfl,r⟩:=this;exact⟨v,k,r.peek⟩
  | o c=>cases e;obtain⟨a,rfl,r⟩:=this;exact⟨_,k,r.peek⟩
end
noncomputable def vd (i:Nat):lL:=λ_ a b=>match a[i]? with
 | some (.v d)=>b (.v d) a
 | some (.o d)=>b (.v d) (a.set i (.v d))
 | _=>False
def cd (d:D):lL:=λ_ b a=>a (.v d) b
section
variable {X:Cx}
theorem dT (i:Nat) (h:PE X (.Name x pos) (pP i):=by exact pv _):PD X (.Name x pos) (vd i):=h.mono λL H Q z=>z.elim λB D T M w hd c k=>by
 unfold vd at c;cases e:D[i]? with
 | none=>rw[e] at c;exact c.elim
 | some s =>
  rw[e] at c;obtain⟨f,y,m,A,_,G,q⟩:=uJ w e;have b:DS X.K B (f++(s,y)::(m++T)) H:=by rw[G] at hd;simpa using hd
  cases s with
  | n=>exact c.elim
  | v d =>
   obtain⟨v,rfl,_⟩:=b.at;refine⟨v,A,k _ _ v H w ?_ c⟩;refine hd.push ?_;have:=b.valAt;rw[G];have t:hH ((f++(Sl.v d,some v)::m)++T)=hH (f++(m++T)):=by
    rw[bK,cF,Hh]
   rw[t];exact this
  | o d =>
   obtain⟨a,rfl,_⟩:=b.at;have E:=b.freeze;have F:(D.set i (.v d)).zip L=f++(.v d,some (.ref a))::m:=by
    have:=q (.v d) (some (.ref a));rw[yZ A] at this;exact this
   have u:DS X.K B ((D.set i (.v d)).zip L++T) H:=by rw[F];simpa using E
   refine⟨.ref a,A,k _ _ _ H (by rw[bV];exact w) ?_ c⟩;refine u.push ?_;have:=E.valAt;rw[F];have t:hH ((f++(Sl.v d,some (V.ref a))::m)++T)=hH (f++(m++T)):=by
    rw[bK,cF,Hh]
   rw[t];exact this
theorem Bh (h:PE X e (tC v)) (r:∀ K A H,Rep K A H d v):PD X e (cd d):=h.mono λm H Q a=>a.elim λB f T i b hd c k=>k _ f v H b (hd.push (r _ _ _)) c
theorem gD:PD X (.Constant (.int i) j pos) (cd (.int i)):=Bh Fa λ_ _ _=>.int i
theorem nF {x:Af}{j:Nat}:PD X (.Constant (.str x) j pos) (cd (.str x)):=Bh xB λ_ _ _=>.str x
theorem wI:PD X (.Constant (.bool x) j pos) (cd (.b x)):=Bh sG λ_ _ _=>.b x
theorem Xq:PD X (.Constant .none j pos) (cd .e):=Bh N6 λ_ _ _=>.e
abbrev O2:=D->D->(Sl->Prop)->Prop
def oH (K:kM) (r:R2) (f:O2):Prop:=∀ (B:Bs) (L:mY) (H:Hp) (d e:D) (x y:V) (b:Sl->Prop) (Q:VK),DS K B L H->mU K (Al B (hH L)) H d x->mU K (Al B (hH L)) H e y->f d e b ->
 (∀ s v a,b s->DS K B ((s,some v)::L) a->Q v a)->r x y H Q
def d2 (f:O2) (g j:lL):lL:=λc m k=>g c m λh a=>j c a λi b=>match sd h,sd i with
 | some d,some e=>f d e λr=>k r b
 | _,_=>False
theorem Et (o:oH X.K r f) (h:dE X.K (d2 f p C) l H Q):dE X.K p l H λx j=>dE X.K C l j λy g=>r x y g Q:=by
 obtain⟨B,N,T,O,w,hd,A,k⟩:=h;refine⟨B,N,T,_,w,hd,A,λq m x j D d1 u=>⟨B,m,(q,some x)::T,_,D,d1,u,λM n y g E d2 a=>?_⟩⟩;cases b:sd q with
 | none=>rw[b] at a;exact a.elim
 | some d =>
  cases c:sd M with
  | none=>rw[b,c] at a;exact a.elim
  | some e =>
   rw[b,c] at a;obtain⟨F,G,L⟩:=d2.two b c;exact o B _ g d e x y _ Q F G.peek L.peek a λs v t z i=>k s n v t E i.mid z
def wZ (f:O2) (i:Nat) (g:lL):lL:=λc b k=>(at? b i).isSome=true/\g c b λh a=>match at? a i,sd h with
 | some d,some e=>f d e λr=>k r a
 | _,_=>False
def Mf (f:O2) (g:lL) (i:Nat):lL:=λb k h=>g b k λc a=>match sd c,at? a i with
 | some d,some e=>f d e λr=>h r a
 | _,_=>False
theorem Fh (o:oH X.K r f) (h:dE X.K (wZ f i p) j H Q):pP i j H λx l=>dE X.K p j l λy g=>r x y g Q:=by
 obtain⟨B,O,T,S,t,hd,⟨E,G⟩,k⟩:=h;obtain⟨P,D⟩:=cZ.mp E;obtain⟨x,u,_⟩:=hd.peek t D;refine⟨x,u,B,O,T,_,t,hd,G,λN c y g w d2 a=>?_⟩;cases m:at? c i with
 | none=>rw[m] at a;exact a.elim
 | some d =>
  cases n:sd N with
  | none=>rw[m,n] at a;exact a.elim
  | some e =>
   rw[m,n] at a;obtain⟨z,M⟩:=d2.one n;obtain⟨R,b,L⟩:=z.peek w m;rw[u] at b;cases b;exact o B _ g d e x y _ Q z L M.peek a λs v A F q=>k s c v A w q.mid F
theorem Ut (o:oH X.K r f) (h:dE X.K (Mf f p i) j H Q):dE X.K p j H λx g=>pP i j g λy l=>r x y l Q:=by
 obtain⟨B,G,T,L,w,hd,A,k⟩:=h;refine⟨B,G,T,_,w,hd,A,λF b x g q d1 a=>?_⟩;cases c:sd F with
 | none=>rw[c] at a;exact a.elim
 | some d =>
  cases m:at? b i with
  | none=>rw[c,m] at a;exact a.elim
  | some e =>
   rw[c,m] at a;obtain⟨t,E⟩:=d1.one c;obtain⟨y,D,py⟩:=t.peek q m;exact⟨y,D,o B _ g d e x y _ Q t E.peek py a λs v u z n=>k s b v u q n.mid z⟩
theorem mP (o:lF X (binaryOp op) r) (l:oH X.K r f) (i:Nat) (j:PD X b p) (g:PE X a (pP i):=by exact pv _):PD X (.BinOp a op b pos) (wZ f i p):=(Kl o g j).mono λ_ _ _ h=>Fh l h
theorem kS (o:lF X (binaryOp op) r) (l:oH X.K r f) (g:PD X a p) (j:PD X b C):PD X (.BinOp a op b pos) (d2 f p C):=(Kl o g j).mono λ_ _ _ h=>Et l h
theorem Eo (p:lF X (compareOp op) r) (l:oH X.K r f) (g:PD X a C) (j:PD X b I) (o:behindInMarks op b=false:=by first | exact wV _ | (with_unfolding_all rfl)):PD X (.Compare a [op] [b] pos) (d2 f C I) :=
 (Dx p g j o).mono λ_ _ _ h=>Et l h
def yR (t:lL):pX:=λc e d=>t c e λr a=>match r with
 | .v (.b b)=>d b a
 | _=>False
theorem Hn (h:rM X.K (yR t) j H Q):dE X.K t j H λx g=>∃ k,x = .b k/\Q k g:=by
 obtain⟨B,m,T,q,e,hd,f,k⟩:=h;refine⟨B,m,T,_,e,hd,f,λr c v g i d1 a=>?_⟩;cases r with
 | n=>exact a.elim
 | o d=>exact a.elim
 | v d =>
  cases d with
  | b b=>exact⟨b,d1.valAt.bl_inv,k b c g i d1.drop a⟩
  | _=>exact a.elim
theorem uC (p:lF X (compareOp op) r) (l:oH X.K r f) (g:PE X a (pP i)) (j:PD X b C) (o:behindInMarks op b=false:=by first | exact wV _ | (with_unfolding_all rfl)):qH X (.Compare a [op] [b] pos) (yR (wZ f i C)) :=
 (zP p g j o).mono λc H Q h=>Fh l (Hn h)
theorem wG (p:lF X (compareOp op) r) (l:oH X.K r f) (g:PD X a C) (j:PE X b (pP i)) (o:behindInMarks op b=false:=by first | exact wV _ | (with_unfolding_all rfl)):qH X (.Compare a [op] [b] pos) (yR (Mf f C i)) :=
 (zP p g j o).mono λc H Q h=>Ut l (Hn h)
theorem qW (p:lF X (compareOp op) r) (l:oH X.K r f) (g:PD X a C) (j:PD X b I) (o:behindInMarks op b=false:=by first | exact wV _ | (with_unfolding_all rfl)):qH X (.Compare a [op] [b] pos) (yR (d2 f C I)) :=
 (zP p g j o).mono λc H Q h=>by
  have:=Hn h;exact Et l this
end
section
variable [DecidableEq κ]
noncomputable def kW (g:Aa (κ×D)) (k:κ):Ab D:=(g.find? λa=>decide (a.1=k)).map (·.2)
noncomputable def oG (g:Aa (κ×D)) (k:κ) (d:D):Aa (κ×D):=if g.any (λa=>decide (a.1=k)) then g.map (λa=>if a.1=k then (a.1,d) else a) else g++[(k,d)]
theorem yS:kW ([]:Aa (κ×D)) k=none:=rfl
theorem rO {k j:κ}{d:D}{r:Aa (κ×D)}:kW ((j,d)::r) k=if j=k then some d else kW r k:=by
 unfold kW;rw[List.find?_cons];by_cases h:j=k<;>simp[h]
theorem Ec (k:κ):∀ g:Aa (κ×D),(g.any λl=>decide (l.1=k))=(kW g k).isSome
 | []=>rfl
 | (j,d)::r=>by
  rw[rO,fU,Ec k r];by_cases h:j=k<;>simp[h]
theorem Hk (g:Aa (κ×D)) (k j:κ) (d:D):kW (oG g k d) j=if k=j then some d else kW g j:=by
 unfold oG;rw[Ec];have a:∀ r:Aa (κ×D),kW (r.map λf=>if f.1=k then (f.1,d) else f) j=if k=j then (kW r j).map (λ_=>d) else kW r j:=by
  intro r;induction r with
  | nil=>simp[yS]
  | cons p r b =>
   obtain⟨i,e⟩:=p;rw[aW];by_cases h:i=k
   .subst h;simp only[iM,rO,b];by_cases z:i=j<;>simp[z]
   .simp only[h,gK,rO,b];by_cases z:i=j
    .subst z;simp[eZ h]
    .simp[z]
 have c:∀ r:Aa (κ×D),kW r k=none->kW (r++[(k,d)]) j=if k=j then some d else kW r j:=by
  intro r;induction r with
  | nil=>intro _;rw[fM,rO,yS]
  | cons p r b =>
   obtain⟨i,e⟩:=p;rw[rO];by_cases h:i=k
   .simp[h]
   .rw[aL h];intro m;rw[cF,rO,b m,rO];by_cases z:i=j
    .subst z;simp[eZ h]
    .simp[z]
 cases e:kW g k with
 | none=>simp only[Option.isSome_none,cU,gK];exact c g e
 | some w =>
  simp only[jQ,iM,a];by_cases z:k=j
  .subst z;simp[e]
  .simp[z]
theorem Pc (g:Aa (κ×D)) (k:κ) (d:D):(oG g k d).length<=g.length+1:=by
 unfold oG;split<;>simp
end
section
variable [DecidableEq κ] {K:kM}
theorem E6:∀ {l:Aa (κ×D)}{g:Aa (κ×V)},l.map (·.1)=g.map (·.1)->Reps K A H (l.map (·.2)) (g.map (·.2))->∀ k,(∀ d,kW l k=some d->∃ v,pN g k=some v/\Rep K A H d v)/\(kW l k=none->pN g k=none)
 | [],[],_,_,k=>⟨λd h=>by simp[yS] at h,λ_=>rfl⟩
 | [],_::_,e,_,_=>by simp at e
 | _::_,[],e,_,_=>by simp at e
 | (i,d)::l,(j,v)::g,e,r,k=>by
  simp only[aW,eO] at e;obtain⟨a,b⟩:=e;subst a;cases r with
  | cons h r =>
   have c:=E6 b r k;rw[rO];by_cases z:i=k
   .rw[aU z,tH z];exact⟨λf q=>by cases q;exact⟨v,rfl,h⟩,λq=>by cases q⟩
   .rw[aL z,sY z];exact c
theorem Hx {o:Aa (κ×D)}{l:Aa (κ×V)}(e:o.map (·.1)=l.map (·.1)) (r:Reps K A H (o.map (·.2)) (l.map (·.2))){k:κ}{d:D}{v:V}(h:Rep K A H d v) :
  (oG o k d).map (·.1)=(pR l k v).map (·.1)/\Reps K A H ((oG o k d).map (·.2)) ((pR l k v).map (·.2)):=by
 have m:∀ (o:Aa (κ×D)) (l:Aa (κ×V)),o.map (·.1)=l.map (·.1)->(o.any λa=>decide (a.1=k))=l.any λa=>decide (a.1=k):=by
  intro o;induction o with
  | nil=>intro l e;cases l with
   | nil=>rfl
   | cons _ _=>simp at e
  | cons p o b=>intro l e;cases l with
   | nil=>simp at e
   | cons q l =>
    simp only[aW,eO] at e;rw[fU,fU,b l e.2,e.1]
 have n:∀ (o:Aa (κ×D)) (l:Aa (κ×V)),o.map (·.1)=l.map (·.1)->Reps K A H (o.map (·.2)) (l.map (·.2)) ->
   (o.map λa=>if a.1=k then (a.1,d) else a).map (·.1)=(l.map λa=>if a.1=k then (a.1,v) else a).map (·.1) /\
   Reps K A H ((o.map λa=>if a.1=k then (a.1,d) else a).map (·.2)) ((l.map λa=>if a.1=k then (a.1,v) else a).map (·.2)):=by
  intro o;induction o with
  | nil=>intro l e r;cases l with
   | nil=>exact⟨rfl,.nil⟩
   | cons _ _=>simp at e
  | cons p o b=>intro l e r;cases l with
   | nil=>simp at e
   | cons q l =>
    simp only[aW,eO] at e;cases r with
    | cons g r =>
     obtain⟨c,f⟩:=b l e.2 r;obtain⟨i,s⟩:=p;obtain⟨j,v0⟩:=q;obtain⟨rfl,t⟩:=e;by_cases z:i=k
     .simp only[aW,z,iM];exact⟨by rw[c],.cons h f⟩
     .simp only[aW,z,gK];exact⟨by rw[c],.cons g f⟩
 unfold oG pR;rw[m o l e];by_cases z:(l.any λa=>decide (a.1=k))=true
 .rw[aU z,aU z];exact n o l e r
 .rw[aL z,aL z];simp only[aG,aW,gI];exact⟨by rw[e],r.append (.cons h .nil)⟩
end
section
variable {X:Cx}{K:kM}
def P4 (K:kM):R2:=λx y H Q=>∃ a b c,x = .ref a/\y = .ref b/\lZ K H a []/\lZ K H b c/\Q (.ref b) H
theorem T6:lF X (binaryOp .Add) (P4 X.K):=by
 intro w s Z H x y v u Q I N O h;obtain⟨a,b,Y,rfl,rfl,B,D,q⟩:=h;cases N;cases O;obtain⟨E,M,G,_⟩:=I.tuple B;obtain⟨t,W,L,_⟩:=I.tuple D;cases M;obtain⟨⟨R,A,V,P⟩,m,k,n,hd⟩:=id G;obtain⟨⟨S,f,z,i⟩,e,c,F,d⟩:=id L;simp only at k hd c d;subst k hd c d;exact concat_meets ⟨_,m,rfl⟩ ⟨_,e,rfl⟩ noFill_tuple_add seq_tuple_add iS iR (iE _ _)
  (tuple_addW0 a b _ _ n F A f P i (by simp)) ⟨m,e,⟨.ref b,H,I,rfl,q⟩⟩
def Mr (K:kM):R2:=λx y H Q=>(rE λi j=>.int (i+j)) x y H Q\/(∃ i j,x = .str i/\y = .str j/\i.length+j.length<=sizeLine/\Q (.str (i++j)) H)\/Pb x y H Q\/Rb K x y H Q\/P4 K x y H Q
theorem lE:lF X (binaryOp .Add) (Mr X.K):=Zu.or (BW.or (Ya.or (T3.or T6)))
theorem zK (h:n<=100000):n<=sizeLine:=bU h (by decide)
def Wu:O2
 | .int i,.int j,a=>a (.v (.int (i+j)))
 | .str i,.str j,a=>i.length+j.length<=100000/\a (.v (.str (i++j)))
 | .l b,.l c,a=>b.length+c.length<=100000/\a (.o (.l (b++c)))
 | .t b,.t c,a=>b.length+c.length<=100000/\a (.v (.t (b++c)))
 | _,_,_=>False
theorem lD:oH K (Mr K) Wu:=by
 intro B L H d e x y A Q hd n s c k;cases d<;>first | exact False.elim c | skip<;>cases e<;>first | exact False.elim c | skip
 .cases n;cases s;exact .inl ⟨_,_,rfl,rfl,k _ _ H c (hd.pushF (.int _))⟩
 .cases n;cases s;exact .inr (.inl ⟨_,_,rfl,rfl,zK c.1,k _ _ H c.2 (hd.pushF (.str _))⟩)
 .obtain⟨a,m,rfl,t,f⟩:=n.tup_inv;obtain⟨b,i,rfl,u,h⟩:=s.tup_inv;have v:m.length+i.length<=100000:=by rw[<- f.length,<- h.length];exact c.1
  by_cases z:m=[]
  .subst z;have:=f.nil_iff.mp rfl;subst this;exact .inr (.inr (.inr (.inr ⟨a,b,i,rfl,rfl,lZ.of t,lZ.of u,k _ _ H c.2 (hd.pushF s)⟩)))
  .refine .inr (.inr (.inr (.inl ⟨a,b,m,i,rfl,rfl,lZ.of t,lZ.of u,z,zK v,λq=>?_,λ_ p w=>k _ _ _ c.2 (hd.tupF w (f.append h))⟩)));subst q;have:=h.nil_iff.mp rfl;subst this;exact k _ _ H c.2 (by rw[cG];exact hd.pushF n)
 .obtain⟨a,m,rfl,t,f⟩:=n.lst_inv;obtain⟨b,i,rfl,u,h⟩:=s.lst_inv;have v:m.length+i.length<=100000:=by rw[<- f.length,<- h.length];exact c.1
  exact .inr (.inr (.inl ⟨a,b,m,i,rfl,rfl,t,u,zK v,λp w=>k _ _ _ c.2 (hd.lstF w (f.append h))⟩))
def fI (C:Int->Int->Prop) (g:Int->Int->D):O2
 | .int i,.int j,a=>C i j/\a (.v (g i j))
 | _,_,_=>False
theorem He (p:∀ i j,C i j->l i j) (r:∀ A H i j,Rep K A H (g i j) (o i j)):oH K (rI l o) (fI C g):=by
 intro B L H d e x y f Q hd b c a k;cases d<;>first | exact False.elim a | skip<;>cases e<;>first | exact False.elim a | skip
 cases b;cases c;exact⟨_,_,rfl,rfl,p _ _ a.1,k _ _ H a.2 (hd.pushF (r _ _ _ _))⟩
def zO (g:Int->Int->D):O2
 | .int i,.int j,a=>a (.v (g i j))
 | _,_,_=>False
theorem Ba (o:∀ A H i j,Rep K A H (g i j) (l i j)):oH K (rE l) (zO g):=by
 intro B L H d e x y f Q hd b c a k;cases d<;>first | exact False.elim a | skip<;>cases e<;>first | exact False.elim a | skip
 cases b;cases c;exact⟨_,_,rfl,rfl,k _ _ H a (hd.pushF (o _ _ _ _))⟩
abbrev Zy:O2:=zO λi j=>.int (i-j)
theorem Dl:oH K (rE λi j=>.int (i-j)) Zy:=Ba λ_ _ _ _=>.int _
def Lk:R2:=λx y H Q=>(rI Eu λi j=>.int (i*j)) x y H Q\/Oy x y H Q
theorem Bt:lF X (binaryOp .Mult) Lk:=DI.or Wv
def Vx:O2
 | .int i,.int j,a=>((-(2 ^ 64)<i/\i<2 ^ 64)\/(-(2 ^ 64)<j/\j<2 ^ 64))/\a (.v (.int (i*j)))
 | .l b,.int k,a=>0<=k/\k<=1000/\b.length<=100/\a (.o (.l (List.replicate k.toNat b).flatten))
 | _,_,_=>False
theorem Pp (r:Reps K A H g j):∀ k:Nat,Reps K A H (List.replicate k g).flatten (List.replicate k j).flatten
 | 0=>.nil
 | k+1=>by rw[cX,cX,gG,gG];exact r.append (Pp r k)
theorem Bu:oH K Lk Vx:=by
 intro B L H d e x y w Q hd h i b k;cases d<;>first | exact False.elim b | skip<;>cases e<;>first | exact False.elim b | skip
 .cases h;cases i;exact .inl ⟨_,_,rfl,rfl,b.1,k _ _ H b.2 (hd.pushF (.int _))⟩
 .cases i
  rename_i n
  obtain⟨a,m,rfl,q,f⟩:=h.lst_inv;obtain⟨u,v,s,b⟩:=b;have c:m.length<=100:=by rw[<- f.length];exact s
  refine .inr ⟨a,n,m,rfl,rfl,q,by omega,by omega,bU (Nat.mul_le_mul c (show n.toNat<=1000 by omega)) (by decide),λp t=>?_⟩;exact k _ _ _ b (hd.lstF t (Pp f _))
theorem AY {j:Int}(g:0<j) (h:j<2 ^ 64):j.natAbs.log2<9000:=by
 have:j.natAbs<2 ^ 64:=by omega
 exact bP ((Nat.log2_lt (by omega)).mpr this) (by decide)
theorem vE:lF X (binaryOp .FloorDiv) (rI (λ_ j=>0<j/\j<2 ^ 64) λi j=>.int (i/j)):=Cd λi j _ _ _ _ _ a q=>by
 refine floordiv_int (by omega) ?_ (.inl (PyProof.noPylong_of_log2 (AY a.1 a.2)));rw[Int.fdiv_eq_ediv_of_nonneg _ (by omega)];exact q
abbrev Zj:O2:=fI (λ_ j=>0<j/\j<2 ^ 64) λi j=>.int (i/j)
theorem uU:oH K (rI (λ_ j=>0<j/\j<2 ^ 64) λi j=>.int (i/j)) Zj:=He (λ_ _ h=>h) λ_ _ _ _=>.int _
abbrev DK:O2:=fI (λ_ j=>0<j) λi j=>.int (i%j)
theorem nD:oH K (rI (λ_ j=>0<j) λi j=>.int (i%j)) DK:=He (λ_ _ h=>h) λ_ _ _ _=>.int _
abbrev Uv:O2:=fI (λi j=>0<=j/\j<=1000000/\i.natAbs<2 ^ 64) λi j=>.int (i ^ j.toNat)
theorem Mp:oH K (rI P1 λi j=>.int (i ^ j.toNat)) Uv:=He (λ_ _ h=>h) λ_ _ _ _=>.int _
abbrev Uj:O2:=zO λi j=>.b (decide (i<j))
theorem S4:oH K (rE λi j=>.b (decide (i<j))) Uj:=Ba λ_ _ _ _=>.b _
abbrev FT:O2:=zO λi j=>.b (decide (i<=j))
theorem AS:oH K (rE λi j=>.b (decide (i<=j))) FT:=Ba λ_ _ _ _=>.b _
abbrev Sk:O2:=zO λi j=>.b (decide (j<i))
theorem uZ:oH K (rE λi j=>.b (decide (j<i))) Sk:=Ba λ_ _ _ _=>.b _
abbrev Y1:O2:=zO λi j=>.b (decide (j<=i))
theorem Zn:oH K (rE λi j=>.b (decide (j<=i))) Y1:=Ba λ_ _ _ _=>.b _
end
noncomputable def sV:D->Ab gV
 | .int i=>some (.inl i)
 | .str x=>some (.inr x)
 | _=>none
def xV:Aa D->Ab (Aa gV)
 | []=>some []
 | d::a=>match sV d,xV a with
  | some k,some b=>some (k::b)
  | _,_=>none
noncomputable def nb (neg b:Bool):Bool:=if neg then !b else b
section
variable {X:Cx}{K:kM}
theorem Ez (h:sV d=some k) (r:mU K A H d v):v=kV k:=by
 cases d<;>cases h
 .exact r.int_inv
 .exact r.str_inv
theorem Lx (h:xV g=some j) (l:Reps K A H g o):o=j.map kV:=by
 induction g generalizing j o with
 | nil=>cases l;cases h;rfl
 | cons d g c =>
  cases l with
  | cons r l =>
  have h:=(show (match sV d,xV g with | some k,some j=>some (k::j) | _,_=>none)=some j from h);cases a:sV d with
  | none=>rw[a] at h;cases h
  | some k =>
   cases b:xV g with
   | none=>rw[a,b] at h;cases h
   | some e =>
    rw[a,b] at h;cases h;rw[Ez a r.peek,c b l];rfl
def zV:D->D->Ab (Ab D)
 | .k a,d=>(sV d).map (kW a)
 | .T a,.t b=>(xV b).map (kW a)
 | _,_=>none
theorem Gb (h:zV d e=some o) (g:mU K A H d x) (j:mU K A H e y):∃ a w,x = .ref a/\vA H a y w/\(∀ c,o=some c->∃ v,w=some v/\Rep K A H c v)/\(o=none->w=none):=by
 cases d with
 | k q =>
  obtain⟨a,B,rfl,i,f,z⟩:=g.dK_inv;obtain⟨k,n,rfl⟩:=cL.mp h;rw[Ez n j];obtain⟨s,u⟩:=E6 f z k;exact⟨a,_,rfl,.inl ⟨B,k,i,rfl,rfl⟩,λc m=>s c m,u⟩
 | T q =>
  obtain⟨a,B,rfl,i,f,z⟩:=g.dT_inv;cases e with
  | t G =>
   obtain⟨b,F,rfl,D,E⟩:=j.tup_inv;obtain⟨k,n,rfl⟩:=cL.mp h;rw[Lx n E] at D;obtain⟨s,u⟩:=E6 f z k;exact⟨a,_,rfl,.inr ⟨B,k,b,i,rfl,D,rfl⟩,λc m=>s c m,u⟩
  | _=>cases h
 | _=>cases h
def Qc:R2:=λx y H Q=>∃ a v,x = .ref a/\vA H a y (some v)/\Q v H
theorem CK (j:X.A.units+1<cLine):tM X Qc:=by
 intro value slice b s m H x y v u Q I i k h f;obtain⟨a,w,rfl,g,q⟩:=h;cases i;unfold subscriptTail;refine aB ?_;rw[getitemInPython_of_ne (Qi I g).not_modules];refine aB (wpAny_specialOf (Qi I g) PySem.F.slot_dict_getitem.lookup ?_);have fin:wpAny (model X.prog X.w) X.A (subscripted slice false (.ref a) u) (λr c=>wpAny (model X.prog X.w) X.A (letTemporaryGo value (.ref a) r >>= λ_=>pure r) (EP X b m Q) X.xe c) X.xe s:=by
  rw[f];exact wpAny_operating (BZ j I g k λt n e d=>aB (wpAny_letTemporaryGo (aF ⟨w,H,e,d,q⟩)))
 first
  | exact aF (aB fin)
  | exact aB (aF (aB fin))
  | exact aB fin
def Fk (K:kM):R2:=λx y H Q=>Qw K x y H Q\/Qc x y H Q
theorem P9 (g:X.A.units+1<cLine):tM X (Fk X.K):=FS.or (CK g)
def xR:O2:=λd e b=>match d,e with
 | .l a,.int i=>∃ c,nO a i=some c/\b (.v c)
 | .t a,.int i=>∃ c,nO a i=some c/\b (.v c)
 | .con a,.int i=>∃ c,nO a i=some c/\b (.v c)
 | .c a,.int i=>∃ c,nO a i=some c/\b (.v c)
 | .str z,.int i=>z.length<=100000/\∃ c,nO z.cps.toList i=some c/\b (.v (.str ⟨#[c]⟩))
 | d,e=>∃ c,zV d e=some (some c)/\b (.v c)
theorem Ep (r:Reps K A H g l) (h:nO g i=some c):∃ v,nO l i=some v/\Rep K A H c v:=by
 unfold nO at h |-;rw[<- r.length];cases e:sA g.length i with
 | none=>rw[e] at h;cases h
 | some j =>
  rw[e] at h;obtain⟨v,a,b⟩:=r.get (i:=j) h;exact⟨v,a,b⟩
theorem Kk:oH K (Fk K) xR:=by
 intro B L H d e x y D Q hd t u b k;have f:(∃ c,zV d e=some (some c)/\D (.v c))->Fk K x y H Q:=λz=>by
  obtain⟨c,h,b⟩:=z;obtain⟨a,w,rfl,g,i,_⟩:=Gb h t u;obtain⟨v,rfl,m⟩:=i c rfl;exact .inr ⟨a,v,rfl,g,k _ _ H b (hd.pushF m)⟩
 cases d<;>first | exact f b | skip
 .cases e<;>first | exact f b | skip
  cases u;cases t;obtain⟨A,c,h,b⟩:=b;exact .inl (.inr (.inr ⟨_,_,c,rfl,rfl,zK A,h,k _ _ H b (hd.pushF (.str _))⟩))
 .obtain⟨a,s,rfl,i,q⟩:=t.tup_inv;cases e<;>first | exact f b | skip
  cases u;obtain⟨c,h,b⟩:=b;obtain⟨v,n,m⟩:=Ep q h;exact .inl (.inr (.inl ⟨a,s,_,v,rfl,rfl,lZ.of i,n,k _ _ H b (hd.pushF m)⟩))
 .obtain⟨a,s,rfl,i,q⟩:=t.lst_inv;cases e<;>first | exact f b | skip
  cases u;obtain⟨c,h,b⟩:=b;obtain⟨v,n,m⟩:=Ep q h;exact .inl (.inl ⟨a,s,_,v,rfl,rfl,lG.of i,n,k _ _ H b (hd.pushF m)⟩)
 .obtain⟨a,s,rfl,i,q⟩:=t.scr_inv;cases e<;>first | exact f b | skip
  cases u;obtain⟨c,h,b⟩:=b;obtain⟨v,n,m⟩:=Ep q h;exact .inl (.inl ⟨a,s,_,v,rfl,rfl,i.sqL,n,k _ _ H b (hd.pushF m)⟩)
 .obtain⟨a,s,rfl,i,q⟩:=t.con_inv;cases e<;>first | exact f b | skip
  cases u;obtain⟨c,h,b⟩:=b;obtain⟨v,n,m⟩:=Ep q h;exact .inl (.inr (.inl ⟨a,s,_,v,rfl,rfl,i.sqT,n,k _ _ H b (hd.pushF m)⟩))
theorem lY (o:X.A.units+1<cLine) (g:PD X a p) (j:PD X b r) (l:xY b:=by exact λ_ _=>rfl):PD X (.Subscript a b pos) (d2 xR p r) :=
 (Mn (P9 o) g j l).mono λ_ _ _ h=>Et Kk h
def F2 (neg:Bool):R2:=λy x H Q=>∃ a o,x = .ref a/\vA H a y o/\Q (.b (nb neg o.isSome)) H
theorem Ug (j:X.A.units+1<cLine):lF X (compareOp .In) (F2 false):=by
 intro c s k H x y v u Q I e f h;obtain⟨a,o,rfl,g,q⟩:=h;cases f;exact EN j I g e λi d=>⟨.b o.isSome,H,d,rfl,q⟩
theorem EZ (j:X.A.units+1<cLine):lF X (compareOp .NotIn) (F2 true):=by
 intro c s k H x y v u Q I e f h;obtain⟨a,o,rfl,g,q⟩:=h;cases f;exact DH j I g e λi d=>⟨.b (!o.isSome),H,d,rfl,q⟩
def Ic (neg:Bool):R2:=λx y H Q=>∃ i j,x = .str i/\y = .str j/\Q (.b (nb neg (!(Builtin.Str.occurrences j i 0 j.length 1).isEmpty))) H
def Bo (K:kM) (neg:Bool):R2:=λx y H Q=>Ey K neg x y H Q\/Ic neg x y H Q\/F2 neg x y H Q
theorem Sx (g:X.A.units+1<cLine):lF X (compareOp .In) (Bo X.K false):=Tq.or ((show lF X (compareOp .In) (Ic false) from Q6).or (Ug g))
theorem sI (g:X.A.units+1<cLine):lF X (compareOp .NotIn) (Bo X.K true):=J5.or ((show lF X (compareOp .NotIn) (Ic true) from To).or (EZ g))
noncomputable def uL:D->Ab V
 | .e=>some .e
 | .b b=>some (.b b)
 | .int i=>some (.int i)
 | .str x=>some (.str x)
 | _=>none
def wH:Aa D->Ab (Aa V)
 | []=>some []
 | d::a=>match uL d,wH a with
  | some v,some b=>some (v::b)
  | _,_=>none
theorem Lq {l:Type}{f:l->D}{g:l->V}(h:∀ x,uL (f x)=some (g x)):∀ j:Aa l,wH (j.map f)=some (j.map g)
 | []=>rfl
 | x::j=>by
  show (match uL (f x),wH (j.map f) with | some v,some a=>some (v::a) | _,_=>none)=_;rw[h x,Lq h j];rfl
theorem Ay (h:uL d=some u) (r:mU K A H d v):v=u/\qI u=true:=by
 cases d<;>cases h<;>cases r<;>exact⟨rfl,rfl⟩
theorem Sf (h:wH g=some l) (j:Reps K A H g o):o=l/\l.all qI=true:=by
 induction g generalizing l o with
 | nil=>cases j;cases h;exact⟨rfl,rfl⟩
 | cons d g m =>
  cases j with
  | cons r j =>
  have h:=(show (match uL d,wH g with | some v,some o=>some (v::o) | _,_=>none)=some l from h);cases a:uL d with
  | none=>rw[a] at h;cases h
  | some k =>
   cases b:wH g with
   | none=>rw[a,b] at h;cases h
   | some n =>
    rw[a,b] at h;cases h;obtain⟨c,e⟩:=Ay a r.peek;obtain⟨f,i⟩:=m b j;exact⟨by rw[c,f],by rw[jG,e,i];rfl⟩
def Cn (neg:Bool) (d:D) (g:Aa D) (j:Sl->Prop):Prop:=∃ v a,uL d=some v/\wH g=some a/\j (.v (.b (nb neg (zF v a))))
def Ro (neg:Bool):O2:=λd e c=>match e with
 | .l a=>Cn neg d a c
 | .t a=>Cn neg d a c
 | .con a=>Cn neg d a c
 | .str j=>∃ i,d = .str i/\c (.v (.b (nb neg (!(Builtin.Str.occurrences j i 0 j.length 1).isEmpty))))
 | e=>∃ o,zV e d=some o/\c (.v (.b (nb neg o.isSome)))
theorem rR (neg:Bool):oH K (Bo K neg) (Ro neg):=by
 intro B L H d e x y G Q hd E s h k;have seq:∀ (a:Ad) (F:Aa D) (t:Aa V),Cn neg d F G->y = .ref a->(lG K H a t\/lZ K H a t)->Reps K (Al B (hH L)) H F t->Bo K neg x y H Q:=by
  rintro a F t ⟨v,m,f,z,M⟩ rfl O r;obtain⟨P,R⟩:=Ay f E;obtain⟨S,W⟩:=Sf z r;subst P S;exact .inl ⟨a,t,rfl,O,R,W,k _ _ H M (hd.pushF (.b _))⟩
 have u:(∃ o,zV e d=some o/\G (.v (.b (nb neg o.isSome))))->Bo K neg x y H Q:=λA=>by
  obtain⟨o,N,h⟩:=A;obtain⟨a,w,rfl,g,f,z⟩:=Gb N s E;have e:o.isSome=w.isSome:=by
   cases o with
   | none=>rw[z rfl];rfl
   | some c=>obtain⟨v,rfl,_⟩:=f c rfl;rfl
  exact .inr (.inr ⟨a,w,rfl,g,by rw[<- e];exact k _ _ H h (hd.pushF (.b _))⟩)
 cases e<;>first | exact u h | skip
 .obtain⟨i,rfl,h⟩:=h;cases E;cases s;exact .inr (.inl ⟨_,_,rfl,rfl,k _ _ H h (hd.pushF (.b _))⟩)
 .obtain⟨a,m,n,f,q⟩:=s.tup_inv;exact seq a _ m h n (.inr (lZ.of f)) q
 .obtain⟨a,m,n,f,q⟩:=s.lst_inv;exact seq a _ m h n (.inl (lG.of f)) q
 .obtain⟨a,m,n,f,q⟩:=s.con_inv;exact seq a _ m h n (.inr f.sqT) q
end
mutual
def py:D->PyData
 | .e=>.none
 | .b b=>.bool b
 | .int i=>.int i
 | .str x=>.str x
 | .t a=>.tuple (wD a)
 | .l a=>.list (wD a)
 | .con a=>.tuple (wD a)
 | .c a=>.list (wD a)
 | _=>.none
def wD:Aa D->Aa PyData
 | []=>[]
 | d::a=>py d::wD a
end
mutual
def oS:D->Bool
 | .e=>true
 | .b _=>true
 | .int _=>true
 | .str x=>PyData.strOk x
 | .t a=>vC a
 | .l a=>vC a
 | .con a=>vC a
 | .c a=>vC a
 | _=>false
def vC:Aa D->Bool
 | []=>true
 | d::a=>oS d&&vC a
end
section
variable {X:Cx}{K:kM}
mutual
theorem Jf:∀ {d:D}{v:V},Rep K A H d v->oS d=true->DatV K H v (py d)
 | _,_,.e,_=>.e
 | _,_,.b b,_=>.b b
 | _,_,.int i,_=>.int i
 | _,_,.str x,_=>.str x
 | _,_,.r v,e=>by simp[oS] at e
 | _,_,.t h r,e=>.t (lZ.of h) (yM r (by simpa [oS] using e))
 | _,_,.con h r,e=>.t h.sqT (yM r (by simpa [oS] using e))
 | _,_,.l _ h r,e=>.l (lG.of h) (yM r (by simpa [oS] using e))
 | _,_,.c h r,e=>.l h.sqL (yM r (by simpa [oS] using e))
 | _,_,.k _ _ _ _,e=>by simp[oS] at e
 | _,_,.T _ _ _ _,e=>by simp[oS] at e
theorem yM:∀ {g:Aa D}{j:Aa V},Reps K A H g j->vC g=true->DatVs K H j (wD g)
 | _,_,.nil,_=>.nil
 | _,_,.cons h r,e=>by
  rw[vC,cK] at e;exact .cons (Jf h e.1) (yM r e.2)
end
theorem Km (h:mU K A H d v) (e:oS d=true):DatV K H v (py d):=by
 cases d with
 | l _=>obtain⟨a,b,rfl,h,r⟩:=h.lst_inv;exact .l (lG.of h) (yM r (by simpa [oS] using e))
 | k _=>simp[oS] at e
 | T _=>simp[oS] at e
 | _=>exact Jf h e
mutual
theorem Ix:∀ {d:D},oS d=true->(py d).canLay0=true
 | .e,_=>rfl
 | .b _,_=>rfl
 | .int _,_=>rfl
 | .str x,e=>by simpa [py,PyData.canLay0,oS] using e
 | .t a,e=>by simp only[py,PyData.canLay0];exact Bx (by simpa [oS] using e)
 | .con a,e=>by simp only[py,PyData.canLay0];exact Bx (by simpa [oS] using e)
 | .l a,e=>by simp only[py,PyData.canLay0];exact Bx (by simpa [oS] using e)
 | .c a,e=>by simp only[py,PyData.canLay0];exact Bx (by simpa [oS] using e)
 | .r _,e=>by simp[oS] at e
 | .k _,e=>by simp[oS] at e
 | .T _,e=>by simp[oS] at e
theorem Bx:∀ {g:Aa D},vC g=true->PyData.canLayAll0 (wD g)=true
 | [],_=>rfl
 | d::g,e=>by
  rw[vC,cK] at e;simp only[wD,PyData.canLayAll0,Ix e.1,Bx e.2,Bool.and_self]
end
def G8 (v:Bool):R2:=λx y H Q=>∃ (a b:Ad) (c d:Aa (gV×V)),x = .ref a/\y = .ref b/\Rd H a (.k c)/\Rd H b (.k d)/\c.length=d.length /\
 (∀ p∈c,∃ w,pN d p.1=some w/\qI p.2=true/\qI w=true/\qT p.2 w=true)/\Q (.b v) H
theorem K5 {A:Around}{s:Ae}{g:Aa (gV×V)}{o:Aa (gV×Ac)}(C:KV g o) (r:Aa (gV×V)) (j:Aa (gV×Ac)) (h:KV r j)
  (l:∀ p∈r,∃ w,pN g p.1=some w/\qI p.2=true/\qI w=true/\qT p.2 w=true):PySem.W.KeqHits A s o j true:=by
 induction h with
 | nil=>exact .nil
 | @cons a b r j m B q =>
  obtain⟨k,v⟩:=a;obtain⟨t,z⟩:=b;obtain⟨e,u⟩:=m;have e:k=t:=e;subst e;obtain⟨w,hw,f1,f2,i⟩:=l (k,v) aO;have d:=C.val k;rw[hw] at d;obtain⟨y,f,x⟩:=d.some_of;have c:SeqAt.EqAt A s z y (qT v w):=Jb u x f1 f2;rw[i] at c;have:=PySem.W.KeqHits.hit f c (q λp n=>l p (aZ _ n));rw[Bool.true_and] at this;exact this
theorem Rm (g:X.A.units<cLine):lF X (compareOp .Eq) (G8 true):=by
 intro e s L H x y v u Q I D E h;obtain⟨a,b,d,B,rfl,rfl,t,w,c,z,q⟩:=h;cases D;cases E;obtain⟨G,d1,k,f,m⟩:=rP I.hok t;obtain⟨K,d2,F,i,n⟩:=rP I.hok w;have c:k.length=F.length:=by rw[<- f.length,<- i.length];exact c
 refine PySem.W.keq_eq d1 d2 m n g (λ_=>K5 i d k f z) ⟨.b _,H,I,rfl,?_⟩;rw[c];simpa using q
theorem CB (g:X.A.units<cLine):lF X (compareOp .NotEq) (G8 false):=by
 intro e s L H x y v u Q I D E h;obtain⟨a,b,d,B,rfl,rfl,t,w,c,z,q⟩:=h;cases D;cases E;obtain⟨G,d1,k,f,m⟩:=rP I.hok t;obtain⟨K,d2,F,i,n⟩:=rP I.hok w;have c:k.length=F.length:=by rw[<- f.length,<- i.length];exact c
 refine PySem.W.keq_ne d1 d2 m n g (λ_=>K5 i d k f z) ⟨.b _,H,I,rfl,?_⟩;rw[c];simpa using q
def zY (neg:Bool):R2:=λx y H Q=>Fx x y=true/\Q (.b (nb neg (decide (x=y)))) H
def Ip (K:kM) (neg:Bool):R2:=λx y H Q=>zY neg x y H Q\/Dy K neg x y H Q\/G8 (!neg) x y H Q\/Hj K neg x y H Q
theorem Mj (g:X.A.units+64<cLine):lF X (compareOp .Eq) (Ip X.K false):=(show lF X (compareOp .Eq) (zY false) from Mg).or ((My g).or ((Rm (by omega)).or (Yj g)))
theorem K8 (g:X.A.units+64<cLine):lF X (compareOp .NotEq) (Ip X.K true):=(show lF X (compareOp .NotEq) (zY true) from By).or ((L3 g).or ((CB (by omega)).or (FY g)))
def Ow (g j:Aa (gV×D)):Prop:=g.length=j.length/\∀ p∈g,∃ e v w,kW j p.1=some e/\uL p.2=some v/\uL e=some w/\qT v w=true
def Oo (neg:Bool):O2:=λd e a=>match d,e with
 | .int i,.int j=>a (.v (.b (nb neg (decide (i=j)))))
 | .str i,.str j=>a (.v (.b (nb neg (decide (i=j)))))
 | .b i,.b j=>a (.v (.b (nb neg (decide (i=j)))))
 | .l c,.l []=>a (.v (.b (nb neg c.isEmpty)))
 | .k c,.k f=>Ow c f/\a (.v (.b (!neg)))
 | d,e=>oS d=true/\oS e=true/\min (py d).depth (py e).depth<=60/\a (.v (.b (nb neg (PyData.eqv (py d) (py e)))))
theorem AJ {l C:Aa (gV×D)}{j o:Aa (gV×V)}(h:Ow l C) (I:l.map (·.1)=j.map (·.1)) (T:Reps K A H (l.map (·.2)) (j.map (·.2))) (J:C.map (·.1)=o.map (·.1)) (U:Reps K A H (C.map (·.2)) (o.map (·.2))) :
  j.length=o.length/\∀ p∈j,∃ w,pN o p.1=some w/\qI p.2=true/\qI w=true/\qT p.2 w=true:=by
 refine⟨by have a:=cH List.length I;have b:=cH List.length J;have c:=h.1;simp only[aA] at a b;omega,λp d=>?_⟩;have:∀ (l:Aa (gV×D)) (j:Aa (gV×V)),l.map (·.1)=j.map (·.1)->Reps K A H (l.map (·.2)) (j.map (·.2))->p∈j->∃ q∈l,q.1=p.1/\Rep K A H q.2 p.2:=by
  intro l;induction l with
  | nil=>intro j e _ d;cases j with
   | nil=>cases d
   | cons _ _=>simp at e
  | cons q l x=>intro j e r d;cases j with
   | nil=>cases d
   | cons k j =>
    simp only[aW,eO] at e;cases r with
    | cons g r =>
     rcases aK.mp d with z | z
     .subst z;exact⟨q,aO,e.1,g⟩
     .obtain⟨y,f,m⟩:=x j e.2 r z;exact⟨y,aZ _ f,m⟩
 obtain⟨q,u,i,B⟩:=this l j I T d;obtain⟨e,v,w,f,m,s,t⟩:=h.2 q u;rw[i] at f;obtain⟨E,hw,n⟩:=(E6 J U p.1).1 e f;obtain⟨F,G⟩:=Ay m B.peek;obtain⟨L,M⟩:=Ay s n.peek;subst F L;exact⟨E,hw,G,M,t⟩
theorem Ee (neg:Bool):oH K (Ip K neg) (Oo neg):=by
 intro B L H d e x y O Q hd h m c k;unfold Oo at c;split at c
 .cases h;cases m
  rename_i i j
  have f:decide (V.int i=V.int j)=decide (i=j):=by simp
  exact .inl ⟨rfl,by rw[f];exact k _ _ H c (hd.pushF (.b _))⟩
 .cases h;cases m
  rename_i i j
  have f:decide (V.str i=V.str j)=decide (i=j):=by simp
  exact .inl ⟨rfl,by rw[f];exact k _ _ H c (hd.pushF (.b _))⟩
 .cases h;cases m
  rename_i i j
  have f:decide (V.b i=V.b j)=decide (i=j):=by simp
  exact .inl ⟨rfl,by rw[f];exact k _ _ H c (hd.pushF (.b _))⟩
 .rename_i M
  obtain⟨a,A,rfl,n,u⟩:=h.lst_inv;obtain⟨b,N,rfl,q,v⟩:=m.lst_inv;cases v;have f:M.isEmpty=A.isEmpty:=by cases u<;>rfl
  refine .inr (.inl ⟨a,b,A,rfl,rfl,lG.of n,lG.of q,?_⟩);rw[<- f];exact k _ _ H c (hd.pushF (.b _))
 .obtain⟨a,s,rfl,n,f,u⟩:=h.dK_inv;obtain⟨b,t,rfl,q,E,v⟩:=m.dK_inv;obtain⟨F,G⟩:=AJ c.1 f u E v;exact .inr (.inr (.inl ⟨a,b,s,t,rfl,rfl,n,q,F,G,k _ _ H c.2 (hd.pushF (.b _))⟩))
 .obtain⟨w,z,D,c⟩:=c;exact .inr (.inr (.inr ⟨_,_,Km h w,Km m z,Ix w,Ix z,D,k _ _ H c (hd.pushF (.b _))⟩))
end
end L2
namespace L2
open PySem PySem.Spec PyProof.Rows Lw
def pt (o:Ab lL):Aa Ad->Aa Sl->(Ab Int->Aa Sl->Prop)->Prop:=λc b k=>match o with
 | none=>k none b
 | some t=>t c b λr a=>match r with
  | .v (.int i)=>k (some i) a
  | _=>False
section
variable {X:Cx}{K:kM}{lo:Ab Expr}
abbrev O1:=D->(Sl->Prop)->Prop
abbrev R1:=V->Hp->VK->Prop
def Ye (K:kM) (r:R1) (f:O1):Prop:=∀ (B:Bs) (L:mY) (H:Hp) (d:D) (x:V) (b:Sl->Prop) (Q:VK),DS K B L H->mU K (Al B (hH L)) H d x->f d b->(∀ s v a,b s->DS K B ((s,some v)::L) a->Q v a)->r x H Q
def d1 (f:O1) (g:lL):lL:=λb h e=>g b h λc a=>match sd c with
 | some d=>f d λr=>e r a
 | none=>False
theorem Z9 (j:Ye X.K r f) (h:dE X.K (d1 f l) o H Q):dE X.K l o H λx g=>r x g Q:=by
 obtain⟨B,z,T,A,m,hd,q,k⟩:=h;refine⟨B,z,T,_,m,hd,q,λy e x g t d1 a=>?_⟩;cases b:sd y with
 | none=>rw[b] at a;exact a.elim
 | some d =>
  rw[b] at a;obtain⟨u,w⟩:=d1.one b;exact j B _ g d x _ Q u w.peek a λs v i n c=>k s e v i t c.mid n
def Ol:O1
 | .int i,a=>a (.v (.int (-i)))
 | _,_=>False
theorem Ho (g:PD X a j):PD X (.UnaryOp .USub a pos) (d1 Ol j):=(Xd BK g).mono λ_ _ _ h=>Z9 (f:=Ol) (λB L H d x e Q hd c b k=>by
 cases d<;>first | exact False.elim b | skip
 cases c;exact⟨_,rfl,k _ _ H b (hd.pushF (.int _))⟩) h
noncomputable def Dr:D->Ab Bool
 | .e=>some false
 | .b b=>some b
 | .int i=>some (i != 0)
 | .str x=>some ((x.length:Int) != 0)
 | .l a=>some (!a.isEmpty)
 | .t a=>some (!a.isEmpty)
 | .k a=>some (!a.isEmpty)
 | _=>none
noncomputable def Ff:D->Bool
 | .str x=>decide (x.length<=100000)
 | _=>true
theorem Qb (h:mU K A H d x) (e:Dr d=some k) (g:Ff d=true):Hf K x H k:=by
 cases d<;>simp only[Dr,reduceCtorEq,jW] at e<;>subst e
 .have:=h.non_inv;subst this;rfl
 .have:=h.bl_inv;subst this;rfl
 .have:=h.int_inv;subst this;rfl
 .have:=h.str_inv;subst this;exact⟨zK (eI g),rfl⟩
 .obtain⟨a,b,rfl,h,r⟩:=h.tup_inv;exact .inr (.inl ⟨b,lZ.of h,by cases r<;>rfl⟩)
 .obtain⟨a,b,rfl,h,r⟩:=h.lst_inv;exact .inl ⟨b,lG.of h,by cases r<;>rfl⟩
 .rename_i c
  obtain⟨a,b,rfl,h,e,r⟩:=h.dK_inv;refine .inr (.inr ⟨b,h,?_⟩);cases c<;>cases b<;>simp at e |-
def Ki (t:lL):pX:=λc f e=>t c f λr a=>match sd r with
 | some d=>Ff d=true/\∃ b,Dr d=some b/\e b a
 | none=>False
def Mc (i:Nat):pX:=λe a c=>match at? a i with
 | some d=>Ff d=true/\∃ b,Dr d=some b/\c b a
 | none=>False
theorem yI (g:PD X a l) (j:∀ whole,isTrue a X.env whole=(do let v <- whole;standAt a.pos;holding [v] (truthy v)):=by intro _;rfl):qH X a (Ki l) :=
 (K4 g j).mono λz H Q f=>f.elim λB x T y n hd s k=>⟨B,x,T,_,n,hd,s,λr h v i t d1 c=>by
  cases e:sd r with
  | none=>rw[e] at c;exact c.elim
  | some d =>
   rw[e] at c;obtain⟨q,b,m,c⟩:=c;obtain⟨u,w⟩:=d1.one e;exact⟨b,Qb w.peek m q,k b h i t u c⟩⟩
theorem FM (g:PE X a (pP i)) (j:∀ whole,isTrue a X.env whole=(do let v <- whole;standAt a.pos;holding [v] (truthy v)):=by intro _;rfl):qH X a (Mc i) :=
 (K4 g j).mono λw H Q f=>f.elim λB m T u h hd c k=>by
  unfold Mc at c;cases e:at? m i with
  | none=>rw[e] at c;exact c.elim
  | some d =>
   rw[e] at c;obtain⟨q,b,n,c⟩:=c;obtain⟨x,s,t⟩:=hd.peek h e;exact⟨x,s,b,Qb t n q,k b m H h hd c⟩
def Hv (t u:pX):pX:=λb e d=>t b e λc a=>if c=true then u b a d else d false a
def B5 (t u:pX):pX:=λb e d=>t b e λc a=>if c=true then d true a else u b a d
def Po (t:pX):pX:=λb e d=>t b e λc a=>d (!c) a
variable {rest:Aa Expr}
theorem Hq (h:qH X a g):xX X (.BoolOp .And [a] pos) g:=N7 h
theorem B1 (h:qH X a g):xX X (.BoolOp .Or [a] pos) g:=F6 h
theorem Hb (j:qH X a o) (l:xX X (.BoolOp .And (b::rest) pos) g):xX X (.BoolOp .And (a::b::rest) pos) (Hv o g) :=
 (No j l).mono λt H Q e=>e.elim λB s T q m hd n k=>⟨B,s,T,_,m,hd,n,λc d i h d1 f=>by
  cases c with
  | true=>exact (aU rfl).mpr ⟨B,d,T,q,h,d1,(aU rfl).mp f,k⟩
  | false=>exact sE (k false d i h d1 ((aL (by decide)).mp f))⟩
theorem Cc (j:qH X a o) (l:xX X (.BoolOp .Or (b::rest) pos) g):xX X (.BoolOp .Or (a::b::rest) pos) (B5 o g) :=
 (C0 j l).mono λt H Q e=>e.elim λB s T q m hd n k=>⟨B,s,T,_,m,hd,n,λc d i h d1 f=>by
  cases c with
  | true=>exact (aU rfl).mpr (k true d i h d1 ((aU rfl).mp f))
  | false=>exact sE ⟨B,d,T,q,h,d1,(aL (by decide)).mp f,k⟩⟩
theorem wF (h:xX X a g):qH X a g:=PW.pt h
theorem xM (h:qH X a g):qH X (.UnaryOp .Not a pos) (Po g):=(Be h).mono λt H Q b=>b.elim λB q T s i hd m k=>⟨B,q,T,_,i,hd,m,λc d e n d1 f=>k _ d e n d1 f⟩
def GO (t u:lL):lL:=λc e d=>t c e λr a=>match r with
 | .v (.b true)=>u c a d
 | .v (.b false)=>d (.v (.b false)) a
 | _=>False
def G2 (t u:lL):lL:=λc e d=>t c e λr a=>match r with
 | .v (.b true)=>d (.v (.b true)) a
 | .v (.b false)=>u c a d
 | _=>False
theorem Yx (h:PD X a g):PD X (.BoolOp op [a] pos) g:=J7 h
theorem Gf (g:PD X a l) (j:PD X (.BoolOp .Or (b::rest) pos) p):PD X (.BoolOp .Or (a::b::rest) pos) (G2 l p) :=
 (CV g j).mono λw H Q h=>h.elim λB u T t q hd s k=>⟨B,u,T,_,q,hd,s,λr f v m i d1 e=>by
  cases r with
  | n=>exact e.elim
  | o d=>exact e.elim
  | v d =>
   cases d with
   | b c =>
    have:=d1.valAt.bl_inv;subst this;refine⟨c,rfl,?_⟩;cases c with
    | true=>exact (aU rfl).mpr (k _ f _ m i (d1.drop.push (.b _)) e)
    | false=>exact sE ⟨B,f,T,t,i,d1.drop,e,k⟩
   | _=>exact e.elim⟩
end
inductive Ar where
 | t (d:D) | al (i:Nat)
abbrev rW:=Aa Ad->Aa Sl->(Aa Ar->Aa Sl->Prop)->Prop
def sJ:Aa Ar->Aa V->mY
 | .t d::as,v::a=>(.v d,some v)::sJ as a
 | .al _::as,_::a=>sJ as a
 | _,_=>[]
inductive ArOk (σ:St):List Ar->List V->Prop where
 | nil:ArOk σ [] []
 | t {d:D} {v:V} {as:List Ar} {vs:List V}:ArOk σ as vs->ArOk σ (.t d::as) (v::vs)
 | al {i:Nat} {v:V} {as:List Ar} {vs:List V}:σ[i]?=some (some v)->ArOk σ as vs->ArOk σ (.al i::as) (v::vs)
noncomputable def sH (g:Aa Sl):Aa Ar->Ab (Aa D)
 | []=>some []
 | .t d::as=>(sH g as).map (d::·)
 | .al i::as=>match at? g i,sH g as with
  | some d,some a=>some (d::a)
  | _,_=>none
noncomputable def wM:Aa Ar->Ab (Aa D)
 | []=>some []
 | .t d::as=>(wM as).map (d::·)
 | .al _::_=>none
def wP:Aa Ar->Bool
 | []=>true
 | .t _::as=>wP as
 | .al _::_=>false
def dA (K:kM) (g:rW):TA:=λb H Q=>∃ (B:Bs) (d:Aa Sl) (T:mY) (f:Aa Ar->Aa Sl->Prop),d.length=b.length/\DS K B (d.zip b++T) H/\g B.dk d f /\
 ∀ as a c e,a.length=b.length->ArOk b as c->DS K B (a.zip b++(sJ as c++T)) e->f as a->Q c e
theorem dA.elim {K:kM}{P:Prop}(h:dA K C l H Q) (f:∀ (B:Bs) (j:Aa Sl) (T:mY) (o:Aa Ar->Aa Sl->Prop),j.length=l.length->DS K B (j.zip l++T) H->C B.dk j o ->(∀ as g p r,g.length=l.length->ArOk l as p->DS K B (g.zip l++(sJ as p++T)) r->o as g->Q p r)->P):P:=by
 obtain⟨B,j,T,o,a,hd,b,k⟩:=h;exact f B j T o a hd b k
abbrev rZ (X:Cx) (g:Aa Expr) (j:rW):Prop:=PA X g (dA X.K j)
def mH:rW:=λ_ b a=>a [] b
def aC (g:lL) (j:rW):rW:=λc f e=>g c f λr a=>j c a λas b=>match sd r with
 | some d=>e (.t d::as) b
 | none=>False
def aS (i:Nat) (g:rW):rW:=λc b d=>(at? b i).isSome=true/\g c b λas a=>d (.al i::as) a
theorem PA.mono {X:Cx}(h:PA X j t) (k:∀ g H Q,l g H Q->t g H Q):PA X j l:=λp a s g H Q I q=>h p a s g H Q I (k g H Q q)
def Am (B:Bs) (a:Ad):Prop:=a∉B.dk/\(B.A0 a\/B.H0 a=none)
inductive Peeks (K:kM) (A:Addr->Prop) (H:Hp):List D->List V->Prop where
 | nil:Peeks K A H [] []
 | cons {d:D} {v:V} {ds:List D} {vs:List V}:mU K A H d v->Peeks K A H ds vs->Peeks K A H (d::ds) (v::vs)
section
variable {X:Cx}{K:kM}
theorem eH:rZ X [] mH:=pW.mono λf H Q a=>a.elim λB d T e b hd c k=>k [] d [] H b .nil hd c
theorem dK (j:PD X e p) (l:rZ X g o) (h:vH e=true:=by rfl):rZ X (e::g) (aC p o):=(mW j l h).mono λD H Q f=>f.elim λB A T F v hd w k =>
 ⟨B,A,T,_,v,hd,w,λr i x E y d1 u=>⟨B,i,(r,some x)::T,_,y,d1,u,λas a n m z ok d2 b=>by
  cases c:sd r with
  | none=>rw[c] at b;exact b.elim
  | some d =>
   rw[c] at b;refine k (.t d::as) a (x::n) m z (.t ok) ?_ b;have q:DS X.K B ((a.zip D++sJ as n)++(r,some x)::T) m:=by simpa using d2
   have s:=(q.thaw c).front;exact DS.mid (by simpa using s)⟩⟩
theorem rN (j:PE X e (pP i)) (l:rZ X g o) (h:vH e=true:=by rfl):rZ X (e::g) (aS i o):=(mW j l h).mono λz H Q a=>a.elim λB v T y c hd ⟨q,s⟩ k=>by
 obtain⟨w,m⟩:=cZ.mp q;obtain⟨x,d,_⟩:=hd.peek c m;exact⟨x,d,B,v,T,_,c,hd,s,λas b u f t ok d2 n=>k (.al i::as) b (x::u) f t (.al d ok) d2 n⟩
theorem DS.rmArgs:∀ {as:Aa Ar}{vs:Aa V},DS K B (L++(sJ as vs++T)) H->DS K B (L++T) H
 | [],_,h=>h
 | .t d::as,[],h=>h
 | .al _::as,[],h=>h
 | .t d::as,v::vs,h=>DS.rmArgs (as:=as) (vs:=vs) (DS.drop (L1:=L) (L2:=sJ as vs++T) h)
 | .al _::as,v::vs,h=>DS.rmArgs (as:=as) (vs:=vs) h
theorem C7:∀ {as:Aa Ar}{vs:Aa V},hH (L++(sJ as vs++T))=hH (L++T)
 | [],_=>rfl
 | .t d::as,[]=>rfl
 | .al _::as,[]=>rfl
 | .t d::as,v::vs=>(show hH (L++(Sl.v d,some v)::(sJ as vs++T))=_ from Hh).trans (C7 (as:=as) (vs:=vs))
 | .al _::as,v::vs=>C7 (as:=as) (vs:=vs)
theorem DS.temps (h:DS K B (L++(sJ as j++T)) H) (ok:ArOk l as j):∀ g,wM as=some g->Reps K (Al B (hH (L++T))) H g j:=by
 have key:∀ p∈sJ as j,qY K (Al B (hH (L++T))) H p.1 p.2:=λp b=>by
  have:=h.ok p (by simp[b]);rw[C7] at this;exact this
 clear h;induction ok with
 | nil=>intro g e;cases e;exact .nil
 | @t d v as j ok i =>
  intro g e;obtain⟨a,c,rfl⟩:=cL.mp e;obtain⟨u,f,r⟩:=key (.v d,some v) aO;cases f;exact .cons r (i (λp b=>key p (aZ _ b)) a c)
 | al _ _ _=>intro g e;cases e
theorem DS.argsP (I:g.length=C.length) (h:DS K B (g.zip C++(sJ as l++T)) H) (ok:ArOk C as l):∀ j,sH g as=some j ->
  Peeks K (Al B (hH (g.zip C++T))) H j l/\Reps K (Am B) H j l/\(wP as=true->Reps K (Al B (hH (g.zip C++T))) H j l):=by
 have key:∀ p∈sJ as l,qY K (Al B (hH (g.zip C++T))) H p.1 p.2:=λp m=>by
  have:=h.ok p (by simp[m]);rw[C7] at this;exact this
 have A:=h.rmArgs;have am:∀ a,Al B (hH (g.zip C++T)) a->Am B a:=λa z=>⟨z.1,z.2.2⟩
 clear h;induction ok with
 | nil=>intro j e;cases e;exact⟨.nil,.nil,λ_=>.nil⟩
 | @t d v as l ok D =>
  intro j e;obtain⟨f,b,rfl⟩:=cL.mp e;obtain⟨u,k,r⟩:=key (.v d,some v) aO;cases k;obtain⟨E,F,O⟩:=D (λp m=>key p (aZ _ m)) f b;exact⟨.cons r.peek E,.cons (r.mono (.all am)) F,λn=>.cons r (O n)⟩
 | @al i v as l G ok D =>
  intro j e;have e:=(show (match at? g i,sH g as with | some d,some j=>some (d::j) | _,_=>none)=some j from e);cases b:at? g i with
  | none=>rw[b] at e;cases e
  | some d =>
   cases k:sH g as with
   | none=>rw[b,k] at e;cases e
   | some f =>
    rw[b,k] at e;cases e;obtain⟨E,F,O⟩:=D (λp m=>key p m) f k;obtain⟨V,q,pv⟩:=A.peek I b;rw[G] at q;cases q;have Q:Rep K (Am B) H d v:=by
     unfold at? at b;cases w:g[i]? with
     | none=>rw[w] at b;cases b
     | some s =>
      rw[w] at b;obtain⟨R,y,S,M,_,P,_⟩:=uJ I w;rw[G] at M;cases M;have L:(s,some v)∈g.zip C++T:=by rw[P];simp
      have:=A.ok _ L;cases s with
      | n=>cases b
      | v c=>cases b;obtain⟨u,x,r⟩:=this;cases x;exact r.mono (.all am)
      | o c =>
       cases b;obtain⟨a,x,r⟩:=this;cases x;have N:=A.new a (rV.mpr ⟨_,L,rfl⟩);exact r.rep am ⟨N.2,.inr N.1⟩
    exact⟨.cons pv E,.cons Q F,λn=>by simp[wP] at n⟩
def mG (g:rW):lL:=λc e d=>g c e λas a=>match wM as with
 | some b=>b.length<=1000/\d (.v (.t b)) a
 | none=>False
def Mu (g:rW):lL:=λc e d=>g c e λas a=>match wM as with
 | some b=>b.length<=1000/\d (.o (.l b)) a
 | none=>False
theorem Jw (h:n<=1000):n<=sizeLine:=bU h (by decide)
theorem kZ {l:Nat}(h:rZ X g j):PD X (.Tuple g l pos) (mG j):=(xP h).mono λv H Q c=>c.elim λB q T u f hd m k=>⟨B,q,T,_,f,hd,m,λas d t s n ok d1 a=>by
 cases b:wM as with
 | none=>rw[b] at a;exact a.elim
 | some e =>
  rw[b] at a;have r:=d1.temps ok e b;exact⟨Jw (by rw[<- r.length];exact a.1),λp i=>k _ d _ _ n (d1.rmArgs.tup i r) a.2⟩⟩
theorem rB (h:rZ X g j):PD X (.List g pos) (Mu j):=(Wn h).mono λv H Q c=>c.elim λB q T u f hd m k=>⟨B,q,T,_,f,hd,m,λas d t s n ok d1 a=>by
 cases b:wM as with
 | none=>rw[b] at a;exact a.elim
 | some e =>
  rw[b] at a;have r:=d1.temps ok e b;exact⟨Jw (by rw[<- r.length];exact a.1),λp i=>k _ d _ _ n (d1.rmArgs.lstF i r).mid a.2⟩⟩
def Vq:lL:=λ_ b a=>a (.o (.k [])) b
theorem Ur:PD X (.Dict [] [] pos) Vq:=Wh.mono λh H Q a=>a.elim λB e T f b hd d k p c=>k _ e _ _ b (hd.dKF (ds:=[]) (kvs:=[]) c rfl .nil).mid d
abbrev OC:=Aa D->(Sl->Prop)->Prop
def tD (K:kM) (r:Aa V->Hp->VK->Prop) (f:OC):Prop:=∀ (B:Bs) (L:mY) (H:Hp) (b:Aa D) (c:Aa V) (d:Sl->Prop) (Q:VK),DS K B L H->Peeks K (Al B (hH L)) H b c->f b d ->
 (∀ s v a,d s->DS K B ((s,some v)::L) a->Q v a)->r c H Q
def dC (f:OC) (g:rW):lL:=λb e d=>g b e λas a=>match sH a as with
 | some c=>f c λr=>d r a
 | none=>False
theorem L0 (l:tD X.K r f) (h:dE X.K (dC f o) p H Q):dA X.K o p H λj g=>r j g Q:=by
 obtain⟨B,u,T,w,n,hd,t,k⟩:=h;refine⟨B,u,T,_,n,hd,t,λas a j g i ok d1 b=>?_⟩;cases c:sH a as with
 | none=>rw[c] at b;exact b.elim
 | some e =>
  rw[c] at b;exact l B _ g e j _ Q d1.rmArgs (d1.argsP i ok e c).1 b λs v m q d=>k s a v m i d.mid q
variable {id:String}
theorem oP (C:nI X (.builtin id) r) (I:tD X.K r f) (T:X.mg x=none) (hv:bootBuiltins x=some (.builtin id)) (o:rZ X (e::l) ta) (J:Gl X x:=by rfl) (U:x ≠ "__name__" := by decide) (g:(x == ("__debug__" : Af))=false:=by decide)
  (j:StB X e l pos:=by exact {}):PD X (.Call (.Name x p) (e::l) [] pos) (dC f ta) :=
 (wB C J T hv o U g j).mono λ_ _ _ h=>L0 I h
theorem mQ (C:nI X (.type id) r) (I:tD X.K r f) (T:X.mg x=none) (hv:bootBuiltins x=some (.type id)) (o:rZ X (e::l) ta) (J:Gl X x:=by rfl) (U:x ≠ "__name__" := by decide) (g:(x == ("__debug__" : Af))=false:=by decide)
  (j:StB X e l pos:=by exact {}):PD X (.Call (.Name x p) (e::l) [] pos) (dC f ta) :=
 (Xp C J T hv o U g j).mono λ_ _ _ h=>L0 I h
end
def Bq:Sl->Bool
 | .v d=>imm d
 | .o (.l b)=>sK b
 | .o (.k a)=>sK (a.map (·.2))
 | .o (.T a)=>sK (a.map (·.2))
 | _=>false
def RV (K:kM) (g:Aa Ad) (A:Ad->Prop) (H:Hp) (s:Sl) (v:V) (j:Hp):Prop:=match s with
 | .n=>True
 | .v d=>Rep K (λa=>a∉g/\(A a\/H a=none)) j d v
 | .o d=>∃ a,v = .ref a/\H a=none/\a∉g/\nY K (λb=>b∉g/\b≠a/\(A b\/H b=none)) j a d
def vB (j:Aa Ad) (H g:Hp):Prop:=∀ b o,H b=some o->b∉j->g b=some o
abbrev RD:=Aa Ad->Aa D->(Sl->Prop)->Prop
def nC (K:kM) (R:RD):Sp:=λf H Q _=>∃ (b:Aa Ad) (A:Ad->Prop) (d:Aa D) (e:Sl->Prop),Dk b H/\(∀ a,A a->a∉b)/\Reps K A H d f/\R b d e /\
 ∀ s v c,e s->vB b H c->Dk b c->RV K b A H s v c->Q v c
section
variable {K:kM}
theorem nY.immR (h:nY K A H a d) (e:Bq (.o d)=true):nY K g H a d:=by
 cases d with
 | l _=>obtain⟨b,h,r⟩:=h;exact⟨b,h,r.imm e⟩
 | k _=>obtain⟨b,h,k,r⟩:=h;exact⟨b,h,k,r.imm e⟩
 | T _=>obtain⟨b,h,k,r⟩:=h;exact⟨b,h,k,r.imm e⟩
 | _=>exact False.elim h
theorem Kp.frm (f:vB g H l) (p:Dk g H) (h:∀ a,A a->a∉g/\j a):Kp A j H l:=by
 refine⟨λa o b e=>⟨(h a b).2,f a o e (h a b).1⟩,λa o t e=>f a o e λz=>?_⟩;obtain⟨c,q⟩:=p.some z;rw[e] at q;cases q;cases t
theorem DS.call (h:DS K B L H) (f:vB B.dk H g) (j:Dk B.dk g):DS K B L g :=
 ⟨λb o e n=>f b o (h.fr b o e n) n,j,h.nd,h.new,λp c=>(h.ok p c).mono (.frm f h.dk λa z=>⟨z.1,z⟩) λb d o q=>f b o q (h.new b (rV.mpr ⟨p,c,d⟩)).2⟩
theorem DS.adopt (h:DS K B L H) (f:vB B.dk H g) (l:Dk B.dk g) (j:H a=none) (r:nY K (Al B (a::hH L)) g a d):DS K B ((.o d,some (.ref a))::L) g:=by
 obtain⟨f1,f2,k⟩:=h.free j;have s:Kp (Al B (hH L)) (Al B (a::hH L)) H g:=by
  refine⟨λb o c e=>⟨⟨c.1,λz=>?_,c.2.2⟩,f b o e c.1⟩,λb o t e=>f b o e λz=>?_⟩
  .rcases aK.mp z with q | q
   .subst q;rw[j] at e;cases e
   .exact c.2.1 q
  .obtain⟨u,q⟩:=h.dk.some z;rw[e] at q;cases q;cases t
 have i:hH ((Sl.o d,some (V.ref a))::L)=a::hH L:=rfl;refine⟨λb o e n=>f b o (h.fr b o e n) n,l,by rw[i];exact bN.mpr ⟨k,h.nd⟩,λb c=>?_,λp m=>?_⟩
 .rw[i] at c;rcases aK.mp c with q | q
  .subst q;exact⟨f1,f2⟩
  .exact h.new b q
 .rw[i];rcases aK.mp m with q | q
  .subst q;exact⟨a,rfl,r⟩
  .exact (h.ok p q).mono s λb c o w=>f b o w (h.new b (rV.mpr ⟨p,q,c⟩)).2
theorem DS.result (h:DS K B L H) (f:vB B.dk H j) (l:Dk B.dk j) (r:RV K B.dk p H s v j) (g:(∀ a,p a->Al B (hH L) a)\/Bq s=true):DS K B ((s,some v)::L) j:=by
 have fresh:∀ b,b∉B.dk->H b=none->Al B (hH L) b:=λb n e=>⟨n,(h.free e).2.2,.inr (h.free e).1⟩
 cases s with
 | n=>exact (h.call f l).pushN (L1:=[]) _
 | v d =>
  refine (h.call f l).pushF ?_;rcases g with g | g
  .exact (show Rep K _ j d v from r).mono (.all λb z=>z.2.elim (g b) (fresh b z.1))
  .exact (show Rep K _ j d v from r).imm g
 | o d =>
  obtain⟨a,rfl,c,hd,r⟩:=r;refine h.adopt f l c ?_;rcases g with g | g
  .refine r.mono (.all λb z=>?_) λ_ q=>q
   have:=z.2.2.elim (g b) (fresh b z.1);exact⟨this.1,λq=>(aK.mp q).elim z.2.1 this.2.1,this.2.2⟩
  .exact r.immR g
end
def Io (R:RD) (g:rW):lL:=λb e d=>g b e λas a=>match sH a as with
 | some c=>R b c λs=>(wP as=true\/Bq s=true)/\d s a
 | none=>False
section
variable {X:Cx}{R:RD}
theorem Ue (h:dE X.K (Io R l) o H Q):dA X.K l o H λj g=>nC X.K R (j++[]) g Q E0:=by
 obtain⟨B,A,T,D,u,hd,w,k⟩:=h;refine⟨B,A,T,_,u,hd,w,λas b j g q ok d1 c=>?_⟩;cases m:sH b as with
 | none=>rw[m] at c;exact c.elim
 | some i =>
  rw[m] at c;obtain⟨_,x,y⟩:=d1.argsP q ok i m;have d2:=d1.rmArgs;rw[cG];by_cases t:wP as=true
  .exact⟨B.dk,_,i,_,d2.dk,λa z=>z.1,y t,c,λs v e d f n r=>k s b v e q (d2.result f n r (.inl λa z=>z)).mid d.2⟩
  .exact⟨B.dk,_,i,_,d2.dk,λa z=>z.1,x,c,λs v e d f n r=>k s b v e q (d2.result f n r (.inr (d.1.resolve_left t))).mid d.2⟩
theorem oR (F:FnOk X.prog X.w X.K X.mg X.base lV k f fd U (nC X.K R)) (T:Room k X.A) (C:Gl X x) (J:X.mg x=some (.ref f)) (I:PySem.W.keepIn X.K (.ref f)=true) (r:sW X.K fd U [])
  (o:rZ X (e::l) ta) (g:(x == ("__debug__" : Af))=false:=by decide) (j:StB X e l pos:=by exact {}) :
  PD X (.Call (.Name x p) (e::l) [] pos) (Io R ta):=(zQ F T C J I r .nil Ce o g j).mono λ_ _ _ h=>Ue h
end
structure DEnds where
 nx:List Sl->Prop
 rt:Sl->Prop
 bk:List Sl->Prop:=λ_=>False
 ct:List Sl->Prop:=λ_=>False
abbrev nQ:=Aa Ad->DEnds->Aa Sl->Prop
def xH (K:kM) (B:Bs) (T:mY) (n:Nat) (g:DEnds) (j:Ends):Prop :=
 (∀ b a c,b.length=a.length->a.length=n->DS K B (b.zip a++T) c->(g.nx b->j.nx a c)/\(g.bk b->j.bk a c)/\(g.ct b->j.ct a c)) /\
 ∀ (r:Sl) (v:V) (b:Aa Sl) (a:St) (c:Hp),b.length=a.length->DS K B (b.zip a++(r,some v)::T) c->g.rt r->j.rt v c
def dS (K:kM) (g:nQ):TS:=λd b H=>∃ (B:Bs) (a:Aa Sl) (T:mY) (c:DEnds),a.length=b.length/\DS K B (a.zip b++T) H/\g B.dk c a/\xH K B T b.length c d
theorem dS.elim {K:kM}{P:Prop}(h:dS K p o j H) (f:∀ (B:Bs) (g:Aa Sl) (T:mY) (l:DEnds),g.length=j.length->DS K B (g.zip j++T) H->p B.dk l g->xH K B T j.length l o->P):P:=by
 obtain⟨B,g,T,c,a,hd,b,k⟩:=h;exact f B g T c a hd b k
abbrev rL (X:Cx) (st:Stmt) (g:nQ):Prop:=PS X st (dS X.K g)
abbrev oM (X:Cx) (st:Aa Stmt) (g:nQ):Prop:=oC X st (dS X.K g)
theorem PS.mono {X:Cx}{st:Stmt}(h:PS X st t) (k:∀ D g H,j D g H->t D g H):PS X st j:=λa s g H D I q=>h a s g H D I (k D g H q)
theorem oC.mono {X:Cx}{st:Aa Stmt}(h:oC X st t) (k:∀ D g H,j D g H->t D g H):oC X st j:=λa s g H D I q=>h a s g H D I (k D g H q)
def Fm:nQ:=λ_ a b=>a.nx b
def uD (t u:nQ):nQ:=λb a c=>t b { a with nx:=u b a } c
def sT (g:lL):nQ:=λb a c=>g b c λr _=>a.rt r
def Nn (g:lL):nQ:=λc b d=>g c d λ_ a=>b.nx a
def xA (c:pX) (t u:nQ):nQ:=λd e f=>c d f λb a=>if b=true then t d e a else u d e a
def nG (i:Nat) (g:lL):nQ:=λc b d=>g c d λr a=>b.nx (a.set i r)
section
variable {X:Cx}{K:kM}{st:Stmt}{rest:Aa Stmt}
theorem xH.seq (h:xH K B T n o p){P:Aa Sl->Prop}(k:∀ j g l,j.length=g.length->g.length=n->DS K B (j.zip g++T) l->P j->N g l):xH K B T n { o with nx:=P } { p with nx:=N } :=
 ⟨λj g l a b d=>⟨k j g l a b d,(h.1 j g l a b d).2⟩,h.2⟩
theorem pC:oM X [] Fm:=wX.mono λi f H a=>a.elim λB e T h b hd c d=>(d.1 e f H b rfl hd).1 c
theorem kQ (g:rL X st t) (j:oM X rest u):oM X (st::rest) (uD t u):=(sP g j).mono λs w H a=>a.elim λB m T e f hd h c =>
 ⟨B,m,T,_,f,hd,h,c.seq λb n v i k d q=>⟨B,b,T,e,i,d,q,by rw[k];exact c⟩⟩
theorem lH (h:rL X st t):oM X [st] t:=qG h
theorem mO (h:PD X e g):rL X (.Return (some e) pos) (sT g):=(tJ h).mono λt q H a=>a.elim λB n T s f hd i m=>⟨B,n,T,_,f,hd,i,λr b v c k d1 d=>m.2 r v b q c k d1 d⟩
theorem sC (h:PD X e j) (g:swapsWith e none pos.line X.env=pure false:=by rfl):rL X (.Expr e pos) (Nn j):=(B9 h g).mono λt q H a=>a.elim λB n T s f hd i m=>⟨B,n,T,_,f,hd,i,λr b v c k d1 d=>(m.1 b q c k rfl d1.drop).1 d⟩
theorem qV (l:qH X c o) (g:oM X a t) (j:oM X b u):rL X (.If c a b pos) (xA o t u):=(wJ l g j).mono λs w H e=>e.elim λB q T f m hd n k=>⟨B,q,T,_,m,hd,n,λc d v i d1 h=>by
 cases c with
 | true=>exact (aU rfl).mpr ⟨B,d,T,f,i,d1,(aU rfl).mp h,k⟩
 | false=>exact sE ⟨B,d,T,f,i,d1,(aL (by decide)).mp h,k⟩⟩
theorem DS.assign {g:Aa Sl}{j:St}(l:g.length=j.length) (h:DS K B (g.zip j++(r,some v)::T) H) (i:Nat):DS K B ((g.set i r).zip (j.set i (some v))++T) H:=by
 by_cases m:i<g.length
 .obtain⟨b,y,c,_,_,n,a⟩:=uJ l (aJ m);rw[a r (some v)];rw[n] at h;have d:DS K B (b++(c++(r,some v)::T)) H:=DS.drop (L1:=b) (x:=(g[i],y)) (by simpa using h);have e:DS K B ((b++c)++(r,some v)::T) H:=by simpa using d
  have f:=e.front;have k:DS K B ((r,some v)::(b++(c++T))) H:=by simpa using f
  simpa using k.mid
 .rw[gP (by omega),gP (by omega)];exact h.drop
theorem kU (i:Nat) (j:X.N.Nodup) (l:PD X e J) (p:X.N[i]?=some x:=by rfl) (I:rT X.env.scope x:=by first | exact Or.inl rfl | exact Or.inr rfl) (C:swapsWith e (some (.Name x g)) pos.line X.env=pure false:=by rfl)
  (o:X.fn x=true\/X.env.scope.names.lookup x=some .local:=by first | exact .inl rfl | exact .inr rfl | assumption):rL X (.Assign [.Name x g] e pos) (nG i J) :=
 (zD j p I l C o).mono λs t H a=>a.elim λB m T q f hd h k=>⟨B,m,T,_,f,hd,h,λr n v c b d1 d=>(k.1 _ _ c (by rw[bV,bV];exact b) (bV ..) (d1.assign b i)).1 d⟩
end
def pM (N:Aa Af) (g:Aa D):Aa Sl:=g.map .v++List.replicate (N.length-g.length) .n
section
variable {P:Ah}{K:kM}
theorem E8:∀ {g:Aa D}{j:Aa V}(n:Nat),g.length=j.length->(g.map Sl.v++List.replicate n Sl.n).zip (j.map some++List.replicate n none)=(g.zip j).map (λp=>(Sl.v p.1,some p.2))++List.replicate n (Sl.n,none)
 | [],[],n,_=>by simp
 | [],_::_,_,e=>by simp at e
 | _::_,[],_,e=>by simp at e
 | d::g,v::j,n,e=>by
  simp only[aW,cF,hG,eO,true_and];exact E8 n (by simpa using e)
theorem F4 (l:Reps K A H g j):∀ p∈g.zip j,Rep K A H p.1 p.2:=by
 induction g generalizing j with
 | nil=>intro p a;cases a
 | cons d g b =>
  cases l with
  | cons h r =>
  intro p a;rw[hG] at a;rcases aK.mp a with rfl | q
  .exact h
  .exact b r p q
theorem Fun.okD {st:Stmt}{R:RD}(F:Fun K x J st f fd) (S:FnScope N ps (lB st)) (I:∀ C g T,R C g T->g.length=ps.length) (aa:ps.length<=N.length)
  (U:∀ (l:Ac) (A:Around) (j:Aa Env) (s:Ae) (H:Hp) (E:XK) (C:Aa Ad) (g:Aa D) (T:Sl->Prop),Room k (A.deeper (envOfC J (lB st) s.heap.objs.size f l))->R C g T ->∃ t,oM (mZ lV P w K mg base N J (lB st) f l A j s H E).nox (pQ st) t/\t C { nx:=λ_=>T (.v .e),rt:=T } (pM N g)):FnOk P w K mg base lV (k+1) f fd ps (nC K R):=by
 refine F.ok S (λm H Q E M=>by obtain⟨C,A,g,T,_,_,r,u,_⟩:=M;rw[<- r.length];exact I _ _ _ u) λl A j s H m Q E hr M=>?_
 obtain⟨C,A1,g,T,L,hA,r,u,X⟩:=M;obtain⟨t,ht,hb⟩:=U l A j s H E C g T hr u;have G:g.length=m.length:=r.length;have dl:g.length=ps.length:=I _ _ _ u;refine⟨_,ht,⟨C,A1,H⟩,pM N g,[],_,?_,?_,hb,?_,?_⟩
 .unfold pM start;rw[List.length_append,List.length_append,List.length_map,List.length_map,List.length_replicate,List.length_replicate,G]
 .have W:(pM N g).zip (start N m)=(g.zip m).map (λp=>(Sl.v p.1,some p.2))++List.replicate (N.length-g.length) (Sl.n,none):=by
   unfold pM start;rw[<- G];exact E8 _ G
  have B:hH ((pM N g).zip (start N m))=[]:=by
   rw[W];refine dR.mpr λa i=>?_
   obtain⟨q,c,e⟩:=rV.mp i;rcases aR.mp c with z | z
   .obtain⟨p,_,rfl⟩:=bB.mp z;cases e
   .rw[(eU.mp z).2] at e;cases e
  rw[cG];refine⟨λb o e _=>e,L,by rw[B];exact bX,(λa i=>by rw[B] at i;exact absurd i bE),λq c=>?_⟩;rw[B];rw[W] at c;rcases aR.mp c with z | z
  .obtain⟨p,hp,rfl⟩:=bB.mp z;exact⟨p.2,rfl,(F4 r p hp).mono (.all λa i=>⟨hA a i,bE,.inl i⟩)⟩
  .rw[(eU.mp z).2];trivial
 .intro O V y l1 l2 d1;refine⟨λh=>X _ _ y h d1.fr d1.dk .e,λh=>h.elim,λh=>h.elim⟩
 .intro Z v O V y l1 d1 h;refine X Z v y h d1.fr d1.dk ?_;cases Z with
  | n=>trivial
  | v d=>exact d1.valAt.mono (.all λa z=>⟨z.1,z.2.2⟩)
  | o d =>
   obtain⟨a,rfl,r'⟩:=d1.ownAt;have Y:=d1.new a (by rw[qF];exact aT _ aO);exact⟨a,rfl,Y.1,Y.2,r'.mono (.all λb z=>⟨z.1,λq=>z.2.1 (by simp[q]),z.2.2⟩) λ_ q=>q⟩
end
abbrev tN:=D->Aa Sl->(Aa Sl->Prop)->Prop
abbrev zW:=Aa D->Aa Sl->(Aa Sl->Prop)->Prop
noncomputable def oV (g:Aa D) (j:Aa V):mY:=(g.zip j).map λp=>(Sl.v p.1,some p.2)
def dG (K:kM) (n:Nat) (g:tN):TG:=λv c H Q=>∃ (B:Bs) (e:Aa Sl) (T:mY) (d:D) (h:Aa Sl->Prop),e.length=c.length/\DS K B (e.zip c++(.v d,some v)::T) H/\g d e h /\
 ∀ (b:Aa Sl) (a:St) (f:Hp),b.length=a.length->a.length=c.length->(∀ j,n<=j->a[j]?=c[j]?)->DS K B (b.zip a++T) f->h b->Q a f
def Gi (K:kM) (n:Nat) (g:zW):yN:=λh c H Q=>∃ (B:Bs) (e:Aa Sl) (T:mY) (d:Aa D) (i:Aa Sl->Prop),e.length=c.length/\d.length=h.length/\DS K B (e.zip c++(oV d h++T)) H/\g d e i /\
 ∀ (b:Aa Sl) (a:St) (f:Hp),b.length=a.length->a.length=c.length->(∀ j,n<=j->a[j]?=c[j]?)->DS K B (b.zip a++T) f->i b->Q a f
theorem dG.elim {K:kM}{P:Prop}(h:dG K n I v r H Q) (f:∀ (B:Bs) (o:Aa Sl) (T:mY) (d:D) (p:Aa Sl->Prop),o.length=r.length->DS K B (o.zip r++(.v d,some v)::T) H->I d o p ->(∀ (l:Aa Sl) (g:St) (C:Hp),l.length=g.length->g.length=r.length->(∀ j,n<=j->g[j]?=r[j]?)->DS K B (l.zip g++T) C->p l->Q g C)->P):P:=by
 obtain⟨B,o,T,d,p,a,hd,b,k⟩:=h;exact f B o T d p a hd b k
theorem Gi.elim {K:kM}{P:Prop}(h:Gi K n U J C H Q) (f:∀ (B:Bs) (p:Aa Sl) (T:mY) (o:Aa D) (r:Aa Sl->Prop),p.length=C.length->o.length=J.length->DS K B (p.zip C++(oV o J++T)) H->U o p r ->(∀ (l:Aa Sl) (g:St) (I:Hp),l.length=g.length->g.length=C.length->(∀ j,n<=j->g[j]?=C[j]?)->DS K B (l.zip g++T) I->r l->Q g I)->P):P:=by
 obtain⟨B,p,T,o,r,a,c,hd,b,k⟩:=h;exact f B p T o r a c hd b k
abbrev uA (X:Cx) (n:Nat) (e:Expr) (g:tN):Prop:=PG X e (dG X.K n g)
abbrev Dt (X:Cx) (n:Nat) (g:Aa Expr) (j:zW):Prop:=wA X g (Gi X.K n j)
theorem PG.mono {X:Cx}(h:PG X e t) (k:∀ v g H Q,j v g H Q->t v g H Q):PG X e j:=λa s g H v u Q I r q=>h a s g H v u Q I r (k v g H Q q)
theorem wA.mono {X:Cx}(h:wA X j t) (k:∀ v g H Q,l v g H Q->t v g H Q):wA X j l:=λa s g H v u Q I r q=>h a s g H v u Q I r (k v g H Q q)
def gN (i:Nat):tN:=λd b a=>a (b.set i (.v d))
def Y4:zW:=λa c b=>a=[]/\b c
def AX (g:tN) (j:zW):zW:=λa e c=>match a with
 | d::a=>g d e λb=>j a b c
 | []=>False
def X1 (n:Nat) (g:zW):tN:=λd c b=>match d with
 | .t a=>a.length=n/\g a c b
 | _=>False
section
variable {X:Cx}{K:kM}
theorem DS.pushs {A:Ad->Prop}:∀ {ds:Aa D}{vs:Aa V},DS K B (L++T) H->Reps K (Al B (hH (L++T))) H ds vs->DS K B (L++(oV ds vs++T)) H
 | _,_,h,.nil=>h
 | _,_,h,.cons (ds:=ds) (vs:=vs) r i=>by
  have c:=DS.pushs (A:=A) h i;have b:hH (L++(oV ds vs++T))=hH (L++T):=by
   have:∀ (ds:Aa D) (vs:Aa V),hH (oV ds vs)=[]:=λds vs=>by
    refine dR.mpr λa d=>?_
    obtain⟨q,f,e⟩:=rV.mp d;obtain⟨p,_,rfl⟩:=bB.mp f;cases e
   rw[pZ,pZ,pZ,this,fM]
  exact c.push (by rw[b];exact r)
theorem kP (i:Nat) (g:X.N.Nodup) (o:X.N[i]?=some x:=by rfl) (p:rT X.env.scope x:=by first | exact Or.inl rfl | exact Or.inr rfl) (r:i<m:=by decide) (l:X.fn x=true\/X.env.scope.names.lookup x=some .local:=by first | exact .inl rfl | exact .inr rfl | assumption):uA X m (.Name x pos) (gN i) :=
 (Dp g o p l).mono λv n H Q a=>a.elim λB h T d f b hd c k=>k _ _ H (by rw[bV,bV];exact b) (bV ..) (λj e=>dN (by omega)) (hd.assign b i) c
theorem pH:Dt X m [] Y4:=Wx.mono λf i H Q a=>a.elim λB h T n q c e hd ⟨b,d⟩ k=>by
 subst b;cases f with
 | nil=>exact⟨rfl,k h i H c rfl (λ_ _=>rfl) hd d⟩
 | cons _ _=>simp at e
theorem mE (p:uA X m e g) (r:Dt X m l o) (C:(assignEach (e::l) X.env).map (·.2)=assign e X.env::(assignEach l X.env).map (·.2):=by rfl):Dt X m (e::l) (AX g o) :=
 (Xn p r C).mono λb M H Q c=>c.elim λB F T a E w t hd s k=>by
  cases a with
  | nil=>exact s.elim
  | cons d a =>
   cases b with
   | nil=>simp at t
   | cons v b =>
    refine⟨v,b,rfl,B,F,oV a b++T,d,_,w,hd,s,λf G L x y f1 d1 q=>⟨B,f,T,a,E,x,by simpa using t,d1,q,λh i u z A f2 d2 D=>k h i u z (A.trans y) (λj n=>(f2 j n).trans (f1 j n)) d2 D⟩⟩
theorem pL (o:X.calm=true) (h:Dt X m g l) (p:(assignEach g X.env).length=n:=by rfl) (j:(assignEach g X.env).findIdx? (·.1)=none:=by rfl):uA X m (.Tuple g k pos) (X1 n l) :=
 (FC o h p j).mono λv x H Q b=>b.elim λB w T d u q hd c k=>by
  cases d with
  | t f =>
   obtain⟨a,s,rfl,i,e⟩:=hd.valAt.tup_inv;exact⟨a,s,rfl,lZ.of i,by rw[<- e.length];exact c.1,B,w,T,f,u,q,e.length,hd.drop.pushs (A:=λ_=>True) e,c.2,k⟩
  | _=>exact c.elim
end
def EY (j:lL) (g:tN):nQ:=λc b e=>j c e λr a=>match sd r with
 | some d=>g d a b.nx
 | none=>False
def Br:D->D->D->Ab D
 | .l b,.int i,d=>(sA b.length i).map λj=>.l (b.set j d)
 | .k a,k,d=>if a.length<100000 then (sV k).map λk=>.k (oG a k d) else none
 | .T a,.t c,d=>if a.length<100000 then (xV c).map λk=>.T (oG a k d) else none
 | _,_,_=>none
def Wm (i:Nat) (g j:lL):nQ:=λf h q=>j f q λn a=>(at? a i).isSome=true/\g f a λm b=>match sd n,sd m,b[i]? with
 | some d,some k,some (.o c)=>∃ e,Br c k d=some e/\h.nx (b.set i (.o e))
 | _,_,_=>False
section
variable {X:Cx}{K:kM}
theorem Gs (o:PD X e I) (p:uA X m l g) (C:swapsWithSole [l] e pos.line X.env=pure false:=by rfl) (hw:swappedStores [l] e X.env=pure none:=by rfl)
  (j:(assignEach [l] X.env).map (·.2)=[assign l X.env]:=by rfl):rL X (.Assign [l] e pos) (EY I g):=(Ra o p C hw j).mono λz D H b=>b.elim λB x T y k hd n s=>⟨B,x,T,_,k,hd,n,λr c v A q d1 j=>by
 cases a:sd r with
 | none=>rw[a] at j;exact j.elim
 | some d =>
  rw[a] at j;exact⟨B,c,T,d,_,q,d1.thaw a,j,λf h i t u _ d2 w=>(s.1 f h i t u d2).1 w⟩⟩
def Ng:Ht:=λo i v H Q=>Pe o i v H Q\/∃ a b,o = .ref a/\wQ H a i v b/\Q b
theorem Wa (j:X.A.units+1<cLine):Hu X Ng:=by
 intro b s t H o i v n m u Q I d c e h;rcases h with h | ⟨a,f,rfl,g,q⟩
 .exact Rw b s t H o i v n m u Q I d c e h
 .cases d;exact AO j I g c e λw k=>⟨f,k,q⟩
theorem DS.slotW {g:Aa Sl}{j:St}(C:g.length=j.length) (h:DS K B (g.zip j++T) H){i:Nat}{c:D}(e:g[i]?=some (.o c)):∃ a,j[i]?=some (some (.ref a))/\nY K (Al B (hH (g.zip j++T))) H a c /\
  ∀ (o:HO) (l:D),(∀ p,Kp (Al B (hH (g.zip j++T))) p H (upd H a o)->nY K p (upd H a o) a l)->DS K B ((g.set i (.o l)).zip j++T) (upd H a o):=by
 obtain⟨q,y,s,m,_,n,b⟩:=uJ C e;have d:DS K B (q++(.o c,y)::(s++T)) H:=by rw[n] at h;simpa using h
 obtain⟨a,rfl,_⟩:=d.at;have f:hH (g.zip j++T)=hH q++a::hH (s++T):=by rw[n,bK,cF,qF];rfl
 obtain⟨v,t,r⟩:=d.ownAt;cases t;refine⟨a,m,by rw[f];exact r,λo l k=>?_⟩;rw[f] at k;have u:=d.write (o:=o) (d':=l) k;have:=b (.o l) (some (.ref a));rw[yZ m] at this;rw[this]
 simpa using u
theorem U6 (h:Br c k d=some p) (r:nY K A H a c) (J:mU K A H k y) (I:Rep K A H d v)
  (C:∀ o,(∀ g,Kp A g H (upd H a o)->nY K g (upd H a o) a p)->Q (upd H a o)):Ng (.ref a) y v H Q:=by
 cases c with
 | l M =>
  cases k with
  | int i =>
   obtain⟨m,s,n⟩:=r;obtain⟨j,u,rfl⟩:=cL.mp h;have:=J.int_inv;subst this;exact .inl ⟨a,m,i,j,rfl,rfl,s,by rw[<- n.length];exact u,C _ λg w=>⟨_,lT,(n.set I j).mono w⟩⟩
  | _=>cases h
 | k e =>
  obtain⟨m,s,q,n⟩:=r;have h:=(show (if e.length<100000 then (sV k).map λj=>D.k (oG e j d) else none)=some p from h);by_cases f:e.length<100000
  .rw[aU f] at h;obtain⟨j,u,rfl⟩:=cL.mp h;rw[Ez u J];obtain⟨z,B⟩:=Hx q n (k:=j) I;have x:m.length<sizeLine:=by
    have:=cH List.length q;simp only[aA] at this;exact bP (show m.length<100000 by omega) (by decide)
   exact .inr ⟨a,_,rfl,wQ.k s x,C _ λg w=>⟨_,lT,z,B.mono w⟩⟩
  .rw[aL f] at h;cases h
 | T e =>
  cases k with
  | t F =>
   obtain⟨m,s,q,n⟩:=r;have h:=(show (if e.length<100000 then (xV F).map λj=>D.T (oG e j d) else none)=some p from h);by_cases f:e.length<100000
   .rw[aU f] at h;obtain⟨j,u,rfl⟩:=cL.mp h;obtain⟨b,L,rfl,E,G⟩:=J.tup_inv;rw[Lx u G] at E;obtain⟨z,B⟩:=Hx q n (k:=j) I;have x:m.length<sizeLine:=by
     have:=cH List.length q;simp only[aA] at this;exact bP (show m.length<100000 by omega) (by decide)
    exact .inr ⟨a,_,rfl,wQ.t s E x,C _ λg w=>⟨_,lT,z,B.mono w⟩⟩
   .rw[aL f] at h;cases h
  | _=>cases h
 | _=>cases h
theorem Ds (U:X.A.units+1<cLine) (hv:PD X e tv) (I:PE X o (pP n)) (r:PD X i ti)
  (j:∀ v,assign (.Subscript o i g) X.env v=(do
   let l <- holding [v] (eval o X.env);let C <- holding [v,l] (eval i X.env)
   standAt g
   holding [v,l,C] (setItem l C v)
   release [v,l,C] []):=by intro _;rfl)
  (J:swapsWithSole [.Subscript o i g] e pos.line X.env=pure false:=by rfl) (hw:swappedStores [.Subscript o i g] e X.env=pure none:=by rfl)
  (p:(assignEach [.Subscript o i g] X.env).map (·.2)=[assign (.Subscript o i g) X.env]:=by rfl):rL X (.Assign [.Subscript o i g] e pos) (Wm n ti tv) :=
 (Ra hv (Uh I r (Wa U) j) J hw p).mono λDn σ H q=>q.elim λB ρ T De N hd P Q=>⟨B,ρ,T,_,N,hd,P,λF u v H1 D d1 t=>by
  obtain⟨r,p⟩:=t;obtain⟨d0,L⟩:=cZ.mp r;obtain⟨x,z,_⟩:=d1.peek D L;refine⟨x,z,B,u,(F,some v)::T,_,D,d1,p,λY w y H2 E d2 b=>?_⟩;cases f:sd F with
  | none=>rw[f] at b;exact b.elim
  | some d =>
   cases h:sd Y with
   | none=>rw[f,h] at b;exact b.elim
   | some k =>
    cases m:w[n]? with
    | none=>rw[f,h,m] at b;exact b.elim
    | some s =>
     cases s with
     | n=>rw[f,h,m] at b;exact b.elim
     | v c=>rw[f,h,m] at b;exact b.elim
     | o c =>
      rw[f,h,m] at b;obtain⟨G,M,b⟩:=b;obtain⟨R,S,V⟩:=d2.two f h;obtain⟨a,j,W,Z⟩:=R.slotW E m;rw[z] at j;cases j;exact U6 M W V.peek S λo O=>(Q.1 _ _ _ (by rw[bV];exact E) rfl (Z o G O)).1 b⟩
end
section
variable {X:Cx}
def BB (K:kM) (R:It->Hp->Prop) (x:V) (H:Hp):Prop:=(∃ a,x = .ref a/\(∃ b,lG K H a b)/\R (Dm K a) H)\/(∃ a,x = .ref a/\(∃ b,lZ K H a b)/\R (D9 K a) H)\/∃ z:Af,x = .str z/\z.cps.all (·<128)=true/\R (tW z) H
def DM (K:kM) (g:TE):TI:=λb H R=>g b H λx a=>BB K R x a
theorem K3 (g:PE X l j):PI X r l (DM X.K j):=by
 intro d s G H R I h;refine kT (g d s G H _ I h) λv c u=>?_
 obtain⟨x,k,f,w,D⟩:=u;have m:∀ b∈[c.heap.objs.size],rH X d k b:=λb A=>by
  have e:b=c.heap.objs.size:=by simpa using A
  subst e;exact f.fpOk (bD _) (f.hok.fresh (bD _))
 rcases D with⟨a,rfl,⟨F,n⟩,q⟩ | ⟨a,rfl,⟨F,n⟩,q⟩ | ⟨z,rfl,y,q⟩
 .cases w;obtain⟨i,E,p,B⟩:=f.list n;exact wpAny_pyIter_list p.isList ⟨c.heap.objs.size,[c.heap.objs.size],_,_,k,rfl,f.kept (t':=c.toks) λb o e=>aE _ e,Vy a _,⟨_,bL _ rfl,rfl,rfl⟩,m,q⟩
 .cases w;obtain⟨i,E,p,B⟩:=f.tuple n;exact wpAny_pyIter_tuple (show c.heap.IsTuple a i.toArray from p) ⟨c.heap.objs.size,[c.heap.objs.size],_,_,k,rfl,f.kept (t':=c.toks) λb o e=>aE _ e,Pg a _,⟨_,bL _ rfl,rfl,rfl⟩,m,q⟩
 .obtain⟨t,rfl⟩:=w;exact wpAny_pyIter_ascii y ⟨c.heap.objs.size,[c.heap.objs.size],_,tW z,k,rfl,f.kept (t':=c.toks) λb L q=>aE _ q,P2 z t _,⟨_,bL _ rfl,rfl,rfl⟩,m,q⟩
end
def yB (K:kM) (A:Ad->Prop) (H:Hp) (E:mY):Prop:=∀ p∈E,qY K A H p.1 p.2
structure YD (K:kM) (J:It) (ds:List D) (E:mY):Prop where
 vals:hH E=[]
 go:∀ i H A,i<ds.length->yB K A H E->J.go i H
 yld:∀ i H A x H',i<ds.length->yB K A H E->J.yld i H x H'->∃ d,ds[i]?=some d/\((H'=H/\Rep K A H d x)\/∃ p es vs,H p=none/\x = .ref p/\H'=upd H p (.t vs)/\d = .t es/\Reps K A H es vs)
 stop:∀ i H A,i=ds.length->yB K A H E->J.stop i H
abbrev uT:=Aa Ad->Aa Sl->(Aa D->Aa Sl->Prop)->Prop
def dI (K:kM) (g:uT):TI:=λb H R=>∃ (B:Bs) (c:Aa Sl) (T:mY) (f:Aa D->Aa Sl->Prop),c.length=b.length/\DS K B (c.zip b++T) H/\g B.dk c f /\
 ∀ (J:It) (e:Aa D) (a:Aa Sl) (E:mY) (d:Hp),a.length=b.length->DS K B (a.zip b++(E++T)) d->YD K J e E->f e a->R J d
theorem dI.elim {K:kM}{R:It->Hp->Prop}{P:Prop}(h:dI K C o H R) (f:∀ (B:Bs) (j:Aa Sl) (T:mY) (l:Aa D->Aa Sl->Prop),j.length=o.length->DS K B (j.zip o++T) H->C B.dk j l ->(∀ (J:It) (r:Aa D) (g:Aa Sl) (E:mY) (p:Hp),g.length=o.length->DS K B (g.zip o++(E++T)) p->YD K J r E->l r g->R J p)->P):P:=by
 obtain⟨B,j,T,l,a,hd,b,k⟩:=h;exact f B j T l a hd b k
abbrev zX (X:Cx) (g iter:Expr) (j:uT):Prop:=PI X g iter (dI X.K j)
theorem PI.mono {X:Cx}{iter:Expr}(h:PI X j iter w) (k:∀ g H R,l g H R->w g H R):PI X j iter l:=λa s g H R I q=>h a s g H R I (k g H R q)
noncomputable def yJ (z:Af):Aa D:=z.cps.toList.map λc=>D.str ⟨#[c]⟩
def Vc:D->Ab (Aa D)
 | .l a=>some a
 | .t a=>some a
 | .con a=>some a
 | .c a=>some a
 | .str z=>if z.cps.all (·<128) then some (yJ z) else none
 | _=>none
def iV (g:lL):uT:=λb e d=>g b e λr a=>match (sd r).bind Vc with
 | some c=>d c a
 | none=>False
noncomputable def pA (lo:Int) (n:Nat):Aa D:=(List.range n).map λ(i:Nat)=>D.int (lo+i)
def GA (g:lL):uT:=λb d c=>g b d λr a=>match r with
 | .v (.int j)=>-(2 ^ 62)<=j/\j<2 ^ 62/\c (pA 0 j.toNat) a
 | _=>False
section
variable {X:Cx}{K:kM}
theorem Ry {a:Ad}{g:Aa D}:YD K (Dm K a) g [(.v (.l g),some (.ref a))] where
 vals:=rfl
 go:=λi H A h ok=>by
  obtain⟨v,e,r⟩:=ok _ aO;cases e;obtain⟨k,b,e,_,c,f⟩:=r.lst_inv;cases e;exact⟨b,b[i]'(by rw[<- f.length];exact h),lG.of c,aJ _⟩
 yld:=λi H A x m h ok y=>by
  obtain⟨v,e,r⟩:=ok _ aO;cases e;obtain⟨k,b,e,_,c,f⟩:=r.lst_inv;cases e;obtain⟨d,hd,rd⟩:=f.getV (y.2 b (lG.of c));exact⟨d,hd,.inl ⟨y.1,rd⟩⟩
 stop:=λi H A h ok=>by
  obtain⟨v,e,r⟩:=ok _ aO;cases e;obtain⟨k,b,e,_,c,f⟩:=r.lst_inv;cases e;exact⟨b,lG.of c,by rw[<- f.length];omega⟩
theorem Za {a:Ad}{g:Aa D}:YD K (Dm K a) g [(.v (.c g),some (.ref a))] where
 vals:=rfl
 go:=λi H A k ok=>by
  obtain⟨v,e,r⟩:=ok _ aO;cases e;obtain⟨m,b,e,f,h⟩:=r.scr_inv;cases e;exact⟨b,b[i]'(by rw[<- h.length];exact k),f.sqL,aJ _⟩
 yld:=λi H A x n k ok y=>by
  obtain⟨v,e,r⟩:=ok _ aO;cases e;obtain⟨m,b,e,f,h⟩:=r.scr_inv;cases e;obtain⟨d,hd,rd⟩:=h.getV (y.2 b f.sqL);exact⟨d,hd,.inl ⟨y.1,rd⟩⟩
 stop:=λi H A k ok=>by
  obtain⟨v,e,r⟩:=ok _ aO;cases e;obtain⟨m,b,e,f,h⟩:=r.scr_inv;cases e;exact⟨b,f.sqL,by rw[<- h.length];omega⟩
theorem Lf {a:Ad}{d:D}{g:Aa D}(hd:d = .t g\/d = .con g):YD K (D9 K a) g [(.v d,some (.ref a))]:=by
 have key:∀ A H,yB K A H [(.v d,some (.ref a))]->∃ b,lZ K H a b/\Reps K A H g b:=λA H ok=>by
  obtain⟨v,e,r⟩:=ok _ aO;cases e;rcases hd with rfl | rfl
  .obtain⟨k,b,e,c,f⟩:=r.tup_inv;cases e;exact⟨b,lZ.of c,f⟩
  .obtain⟨k,b,e,c,f⟩:=r.con_inv;cases e;exact⟨b,c.sqT,f⟩
 refine⟨rfl,λi H A h ok=>?_,λi H A x m h ok y=>?_,λi H A h ok=>?_⟩
 .obtain⟨b,c,f⟩:=key A H ok;exact⟨b,b[i]'(by rw[<- f.length];exact h),c,aJ _⟩
 .obtain⟨b,c,f⟩:=key A H ok;obtain⟨d,hd,rd⟩:=f.getV (y.2 b c);exact⟨d,hd,.inl ⟨y.1,rd⟩⟩
 .obtain⟨b,c,f⟩:=key A H ok;exact⟨b,c,by rw[<- f.length];omega⟩
theorem W4:YD K (tW z) (yJ z) [] where
 vals:=rfl
 go:=λi H A a _=>by simpa [tW,yJ,Str.length] using a
 yld:=λi H A x d a _ y=>by
  obtain⟨e,c,b,rfl⟩:=y;refine⟨.str ⟨#[c]⟩,?_,.inl ⟨e,.str _⟩⟩;unfold yJ;rw[bH,eP,b];rfl
 stop:=λi H A a _=>by simp[tW,a,yJ,Str.length]
theorem CG {lo:Int}:YD K (yT lo n) (pA lo n) [] where
 vals:=rfl
 go:=λi H A a _=>by simpa [yT,pA] using a
 yld:=λi H A x c a _ y=>by
  have b:i<n:=by simpa [pA] using a
  refine⟨.int (lo+i),by simp[pA,b],.inl ⟨y.1,?_⟩⟩;rw[y.2];exact .int _
 stop:=λi H A a _=>by simp[yT,pA,a]
theorem lK (g:PD X e j):zX X o e (iV j):=(K3 g).mono λM H R w=>w.elim λB L T G E hd F k=>⟨B,L,T,_,E,hd,F,λr f v n q d1 b=>by
 cases u:sd r with
 | none=>rw[u] at b;exact b.elim
 | some d =>
  rw[u] at b;have d2:=d1.thaw u;have s:=d2.valAt;cases d with
  | l m=>obtain⟨a,i,rfl,_,h,y⟩:=s.lst_inv;exact .inl ⟨a,rfl,⟨i,lG.of h⟩,k _ m f [_] n q d2 Ry b⟩
  | c m=>obtain⟨a,i,rfl,h,y⟩:=s.scr_inv;exact .inl ⟨a,rfl,⟨i,h.sqL⟩,k _ m f [_] n q d2 Za b⟩
  | t m=>obtain⟨a,i,rfl,h,y⟩:=s.tup_inv;exact .inr (.inl ⟨a,rfl,⟨i,lZ.of h⟩,k _ m f [_] n q d2 (Lf (.inl rfl)) b⟩)
  | con m=>obtain⟨a,i,rfl,h,y⟩:=s.con_inv;exact .inr (.inl ⟨a,rfl,⟨i,h.sqT⟩,k _ m f [_] n q d2 (Lf (.inr rfl)) b⟩)
  | str z =>
   have:=s.str_inv;subst this;have b:=(show (match (if z.cps.all (·<128)=true then some (yJ z) else none:Ab (Aa D)) with | some A=>G A f | none=>False) from b);by_cases x:z.cps.all (·<128)=true
   .rw[aU x] at b;exact .inr (.inr ⟨z,rfl,x,k _ _ f [] n q d2.drop W4 b⟩)
   .rw[aL x] at b;exact b.elim
  | _=>exact b.elim⟩
theorem wE (j:Gl X "range") (l:X.mg "range" = none) (g:PD X a I) (C:starEach [a] X.env=[(false,eval a X.env)]:=by rfl) (o:vH a=true:=by rfl):zX X J (.Call (.Name "range" p) [a] [] pos) (GA I) :=
 (X3 j l (mW g pW o) C).mono λs H R c=>c.elim λB n T q h hd i k=>⟨B,n,T,_,h,hd,i,λr e v f m d1 b=>by
  cases r<;>first | exact False.elim b | skip
  rename_i d
  cases d<;>first | exact False.elim b | skip
  have:=d1.valAt.int_inv;subst this;exact⟨_,rfl,b.1,b.2.1,k _ _ e [] f m d1.drop CG b.2.2⟩⟩
def Dj (l:uT) (g:tN) (j:nQ):nQ:=λf b k=>l f k λh c=>∃ Pv:Nat->Aa Sl->Prop,Pv 0 c /\
 (∀ i d a,h[i]?=some d->Pv i a->g d a λe=>j f { nx:=Pv (i+1),ct:=Pv (i+1),bk:=b.nx,rt:=b.rt } e)/\∀ a,Pv h.length a->b.nx a
theorem DS.rmE:∀ {E:mY},DS K B (L++(E++T)) H->DS K B (L++T) H
 | [],h=>h
 | x::E,h=>DS.rmE (E:=E) (DS.drop (L1:=L) (x:=x) (by simpa using h))
theorem sL {iter:Expr}{body:Aa Stmt}{o:uT}{g:tN}{j:nQ}(hi:zX X l iter o) (hg:uA X 99 l g) (I:oM X body j) (hp:PassesOwn (model X.prog X.w) X.A X.env X.xe:=by exact PassesOwn.never) (U:X.calm=true:=by rfl)
  (hs:∀ x,foldedSetIterable iter X.env x=pure x:=by intro _;rfl):rL X (.For l iter body [] pos) (Dj o g j) :=
 (Bc hp U hi hg I hs).mono λDn W H O=>O.elim λB ρ T De hl hd ht Q=>⟨B,ρ,T,_,hl,hd,ht,λJ F S E H1 l1 d1 Y P=>by
  obtain⟨Pv,p0,step,fin⟩:=P;refine⟨λi m c k=>m=F.length-i/\i<=F.length/\∃ a,a.length=c.length/\c.length=W.length/\DS X.K B (a.zip c++(E++T)) k/\Pv i a,⟨_,rfl,fV _,S,l1,rfl,d1,p0⟩,?_⟩;rintro i m c k ⟨rfl,aa,a,V,m2,L,pv⟩;have n:yB X.K (Al B (hH (a.zip c++(E++T)))) k E:=λq hq=>L.ok q (by simp[hq])
  by_cases s:i<F.length
  .refine .inr ⟨Y.go i k _ s n,λf t=>∃ b,b.length=f.length/\f.length=W.length/\DS X.K B (b.zip f++(E++T)) t/\Pv (i+1) b,λf t ⟨b,q1,q2,R,q4⟩=>⟨_,(by omega:F.length-(i+1)<_),rfl,s,b,q1,q2,R,q4⟩,λx t y=>?_⟩;obtain⟨d,M,alt⟩:=Y.yld i k _ x t s n y;have d2:DS X.K B (a.zip c++(.v d,some x)::(E++T)) t:=by
    rcases alt with⟨rfl,rx⟩ | ⟨p,es,vs,N,rfl,rfl,rfl,rr⟩
    .exact L.push rx
    .exact L.tup N rr
   refine⟨B,a,E++T,d,_,V,d2,step i d a M pv,λb f H3 n1 n2 _ Z R=>⟨B,b,E++T,_,n1,Z,R,?_,?_⟩⟩
   .intro e h G u a2 D;refine⟨λz=>⟨e,u,by omega,D,z⟩,λz=>?_,λz=>⟨e,u,by omega,D,z⟩⟩;exact (Q.1 e h G u (by omega) D.rmE).1 z
   .intro r v e h G u D z;refine Q.2 r v e h G u ?_ z;have:DS X.K B ((e.zip h++[(r,some v)])++(E++T)) G:=by simpa using D
    simpa using this.rmE
  .have C:i=F.length:=by omega
   subst C;exact .inl ⟨Y.stop _ k _ rfl n,(Q.1 a c k V m2 L.rmE).1 (fin a pv)⟩⟩
end
def mD (B:Bs) (D:Ad) (g:Aa V):Bs:=⟨B.dk,λa=>(B.A0 a\/B.H0 a=none)/\a≠D,λa=>if a=D then some (.l g) else B.H0 a⟩
section
variable {K:kM}{R:mY}{D:Ad}
theorem Aw {R:Aa Ad}:Al (mD B D g) R a↔Al B R a/\a≠D:=by
 unfold Al mD;constructor
 .rintro ⟨c,d,b | b⟩
  .exact⟨⟨c,d,b.1⟩,b.2⟩
  .dsimp only at b;by_cases z:a=D
   .rw[aU z] at b;cases b
   .rw[aL z] at b;exact⟨⟨c,d,.inr b⟩,z⟩
 .rintro ⟨⟨c,d,b⟩,e⟩;exact⟨c,d,.inl ⟨b,e⟩⟩
theorem DS.pin (h:DS K B L H) (g:H D=none):DS K (mD B D []) L (upd H D (.l [])):=by
 obtain⟨f1,f2,d⟩:=h.free g;refine⟨λb o e n=>?_,h.dk.upd f2,h.nd,λa c=>?_,λp f=>(h.ok p f).mono (.laid g λa z n=>Aw.mpr ⟨z,n⟩) λb i o q=>by rw[kX (nP q g)];exact q⟩
 .by_cases z:b=D
  .subst z;simp only[mD,iM] at e;cases e;exact lT
  .simp only[mD,aL z] at e;rw[kX z];exact h.fr b o e n
 .have:=h.new a c;have z:a≠D:=λq=>d (q▸c)
  exact⟨by simp only[mD,aL z];exact this.1,this.2⟩
theorem DS.pinAt (h:DS K (mD B D j) L H) (g:D∉B.dk):H D=some (.l j):=h.fr D _ (by simp[mD]) g
theorem DS.pinW (h:DS K (mD B D j) L H) (g:D∉B.dk):DS K (mD B D ys') L (upd H D (.l ys')):=by
 have d:=h.pinAt g;have k:Kp (Al (mD B D j) (hH L)) (Al (mD B D ys') (hH L)) H (upd H D (.l ys')) :=
  (Kp.write (A:=Al (mD B D j) (hH L)) d rfl λz=>(Aw.mp z).2 rfl).trans (.all λa z=>Aw.mpr (Aw.mp z))
 refine⟨λb o e n=>?_,h.dk.upd g,h.nd,λa f=>?_,λp c=>(h.ok p c).mono k λb i o q=>?_⟩
 .by_cases z:b=D
  .subst z;simp only[mD,iM] at e;cases e;exact lT
  .simp only[mD,aL z] at e;rw[kX z];exact h.fr b o (by simp only[mD,aL z];exact e) n
 .have:=h.new a f;have z:a≠D:=λq=>by subst q;simp[mD] at this
  simp only[mD,aL z] at this |-;exact this
 .have:=(h.new b (rV.mpr ⟨p,c,i⟩)).1;have z:b≠D:=λw=>by subst w;simp[mD] at this
  rw[kX z];exact q
theorem DS.unpin (h:DS K (mD B D g) L H) (r:Reps K (Al (mD B D g) (hH L)) H I g) (j:B.H0 D=none) (C:D∉B.dk):DS K B ((.o (.l I),some (.ref D))::L) H:=by
 have k:=h.pinAt C;have i:D∉hH L:=λz=>by have:=(h.new D z).1;simp[mD] at this
 have c:hH ((Sl.o (.l I),some (V.ref D))::L)=D::hH L:=rfl;have al:∀ a,Al (mD B D g) (hH L) a->Al B (D::hH L) a:=λa z=>by
  obtain⟨d,s⟩:=Aw.mp z;exact⟨d.1,λq=>(aK.mp q).elim s d.2.1,d.2.2⟩
 refine⟨λb o e n=>?_,h.dk,by rw[c];exact bN.mpr ⟨i,h.nd⟩,λa f=>?_,λp m=>?_⟩
 .have z:b≠D:=λq=>by subst q;rw[j] at e;cases e
  exact h.fr b o (by simp only[mD,aL z];exact e) n
 .rw[c] at f;rcases aK.mp f with q | q
  .subst q;exact⟨j,C⟩
  .have:=h.new a q;have z:a≠D:=λw=>i (w▸q)
   simp only[mD,aL z] at this;exact this
 .rw[c];rcases aK.mp m with q | q
  .subst q;exact⟨D,rfl,g,k,r.mono (.all al)⟩
  .exact (h.ok p q).mono (.all al) λ_ _ _ w=>w
theorem DS.lend1 {g:Aa Sl}{j:St}(l:g.length=j.length) (h:DS K B (g.zip j++R) H) (i:Nat):DS K B ((g.set i .n).zip j++((g[i]?).getD .n,(j[i]?).join)::R) H:=by
 by_cases d:i<g.length
 .obtain⟨b,y,c,f,_,t,a⟩:=uJ l (aJ d);rw[t] at h;have k:DS K B (b++(g[i],y)::(c++R)) H:=by simpa using h
  have m:=k.front;have q:DS K B (((g[i],y)::b)++(.n,y)::(c++R)) H:=DS.pushN (L1:=(g[i],y)::b) (by simpa using m) y;have e:=a .n y;rw[yZ f] at e;rw[e,aJ d,f];have s:DS K B ((g[i],y)::((b++(Sl.n,y)::c)++R)) H:=by simpa using q
  exact s.mid
 .rw[gP (by omega),jA (by omega),jA (by omega)];exact h.pushN _
theorem DS.back1 {g:Aa Sl}{l:St}{s:Sl}{y:Ab V}(o:g.length=l.length) (h:DS K B (g.zip l++(s,y)::R) H){i:Nat}(j:(l[i]?).join=y):DS K B ((g.set i s).zip l++R) H:=by
 by_cases q:i<g.length
 .obtain⟨d,a,f,c,_,t,b⟩:=uJ o (aJ q);rw[c] at j;have j:a=y:=j;subst j;have e:=b s a;rw[yZ c] at e;rw[e];rw[t] at h;have k:DS K B (d++(f++(s,a)::R)) H:=DS.drop (L1:=d) (x:=(g[i],a)) (by simpa using h);have m:DS K B ((d++f)++(s,a)::R) H:=by simpa using k
  have n:DS K B ((s,a)::(d++(f++R))) H:=by simpa using m.front
  simpa using n.mid
 .rw[gP (by omega)];exact h.drop
def oU (g:Aa Nat) (j:Aa Sl):Aa Sl:=g.map λi=>(j[i]?).getD .n
def qE (g:Aa Nat) (j:St):St:=g.map λi=>(j[i]?).join
def oN (g:Aa Nat) (j:Aa Sl):Aa Sl:=g.foldl (λj i=>j.set i .n) j
def pG:Aa Nat->Aa Sl->Aa Sl->Aa Sl
 | i::a,s::c,b=>pG a c (b.set i s)
 | _,_,b=>b
theorem Gr:∀ (g:Aa Nat) (j:Aa Sl),(oN g j).length=j.length
 | [],_=>rfl
 | i::g,j=>by show (oN g (j.set i .n)).length=_;rw[Gr g,bV]
theorem Qz:∀ (g:Aa Nat) (l:Aa Sl) (j:Aa Sl),(pG g l j).length=j.length
 | [],_,_=>rfl
 | _::_,[],_=>rfl
 | i::g,s::l,j=>(Qz g l (j.set i s)).trans (bV ..)
theorem DS.lend:∀ {caps:Aa Nat}{g:Aa Sl}{R:mY},caps.Nodup->g.length=l.length->DS K B (g.zip l++R) H->DS K B ((oN caps g).zip l++((oU caps g).zip (qE caps l)++R)) H
 | [],g,R,_,a,h=>h
 | i::caps,g,R,d,a,h=>by
  obtain⟨f,k⟩:=bN.mp d;have b:=DS.lend (caps:=caps) (R:=((g[i]?).getD .n,(l[i]?).join)::R) k (by rw[bV];exact a) (h.lend1 a i);have e:oU caps (g.set i .n)=oU caps g:=eK λj c=>by rw[dN (λz:i=j=>f (by rw[z];exact c))]
  rw[e] at b;show DS K B ((oN caps (g.set i .n)).zip l++((((g[i]?).getD .n,(l[i]?).join)::(oU caps g).zip (qE caps l))++R)) H;refine b.perm (jB _ ?_);rw[cF];exact gT
theorem DS.back:∀ {caps:Aa Nat}{cs:Aa Sl}{g:Aa Sl}{R:mY},cs.length=caps.length->g.length=j.length->DS K B (g.zip j++(cs.zip (qE caps j)++R)) H->DS K B ((pG caps cs g).zip j++R) H
 | [],[],g,R,_,a,h=>h
 | [],_::_,_,_,e,_,_=>by simp at e
 | _::_,[],_,_,e,_,_=>by simp at e
 | i::caps,s::cs,g,R,e,a,h=>by
  have b:DS K B (g.zip j++(s,(j[i]?).join)::(cs.zip (qE caps j)++R)) H:=h;exact DS.back (caps:=caps) (cs:=cs) (by simpa using e) (by rw[bV];exact a) (b.back1 a rfl)
theorem Sm (g:Aa Nat):∀ (o:Aa Sl) (l:Aa Sl),o.length=g.length->g.Nodup->pG g o (oN g l)=pG g o l:=by
 have ext:∀ (g:Aa Nat) (o:Aa Sl) (l a:Aa Sl),o.length=g.length->l.length=a.length->(∀ j,j∉g->l[j]?=a[j]?)->pG g o l=pG g o a:=by
  intro g;induction g with
  | nil=>intro o l a _ _ h;cases o<;>exact List.ext_getElem? λj=>h j bE
  | cons i g c =>
   intro o l a e d h;cases o with
   | nil=>simp at e
   | cons s o =>
    show pG g o (l.set i s)=pG g o (a.set i s);refine c o _ _ (by simpa using e) (by simp[d]) λj b=>?_
    by_cases z:j=i
    .subst z;rw[List.getElem?_set,List.getElem?_set,d,aU rfl,aU rfl]
    .rw[dN (eZ z),dN (eZ z)];exact h j λq=>(aK.mp q).elim z b
 intro o l e _;refine ext g o _ _ e (Gr g l) λj b=>?_
 have:∀ (g:Aa Nat) (l:Aa Sl),j∉g->(oN g l)[j]?=l[j]?:=by
  intro g;induction g with
  | nil=>intro l _;rfl
  | cons i g c =>
   intro l b;show (oN g (l.set i .n))[j]?=_;rw[c _ (λz=>b (aZ _ z)),dN (λz=>b (by simp[z]))]
 exact this g l b
theorem Lo:∀ {g:Aa L2.D}{j:Aa V},g.length=j.length->(∀ p∈oV g j,qY K A H p.1 p.2)->Reps K A H g j
 | [],[],_,_=>.nil
 | [],_::_,e,_=>by simp at e
 | _::_,[],e,_=>by simp at e
 | c::g,y::j,e,key=>by
  obtain⟨u,b,r⟩:=key (.v c,some y) (by simp[oV]);cases b;exact .cons r (Lo (by simpa using e) λp a=>key p (by simp only[oV,hG,aW,aK] at a |-;exact .inr a))
theorem DS.forget {ρ:Aa Sl}(n:Nat) (g:ρ.length=σ.length) (j:n<=ρ.length) (h:DS K B (ρ.zip σ++R) H):DS K B ((List.replicate n Sl.n++ρ.drop n).zip σ++R) H:=by
 induction n generalizing ρ σ R with
 | zero=>simpa using h
 | succ n c =>
  cases ρ with
  | nil=>simp at j
  | cons r ρ =>
   cases σ with
   | nil=>simp at g
   | cons y σ =>
    have a:DS K B (ρ.zip σ++R) H:=DS.drop (L1:=[]) (x:=(r,y)) h;have b:=c (ρ:=ρ) (σ:=σ) (R:=R) (by simpa using g) (by simpa using j) a;rw[cX,cF,List.drop_succ_cons,hG];exact DS.pushN (L1:=[]) b y
end
def I0:pX:=λ_ b a=>a true b
def xQ (n:Nat) (j:Aa Nat) (I:uT) (g:tN) (C:pX) (p:lL):lL:=λk u t=>I k u λs f=>∃ Pv:Nat->Aa D->Aa Sl->Prop,Pv 0 [] (oU j f) /\
 (∀ i d e a,s[i]?=some d->a.length=j.length->Pv i e a->g d (List.replicate n Sl.n++a) λm=>C k m λb h=>if b=true then p k h λr q=>match sd r with
  | some c=>e.length<100000/\Pv (i+1) (e++[c]) (q.drop n)
  | none=>False
  else Pv (i+1) e (h.drop n)) /\
 ∀ e a,a.length=j.length->Pv s.length e a->t (.o (.l e)) (pG j a f)
section
variable {X:Cx}
theorem Fg:tF X [] (rM X.K I0):=λa s f H Q I b=>b.elim λB e T h c hd d k=>Kt a s f H Q I (k true e H c hd d)
theorem tK (h:qH X c t):tF X [c] (rM X.K t):=DQ h
theorem D0 {T:Aa Af}{caps:Aa Nat}{g:tN}{tt:pX}{te:lL}{K:kM}(ac:caps.Nodup){U:St}{H1:Hp}{Q:VK}{B:Bs}{C:Aa Sl}{Tm:mY}{Φ:Sl->Aa Sl->Prop}{J:It}{ds:Aa L2.D}{D:Ad}(l1:C.length=U.length) (d1:DS K B (C.zip U++Tm) H1)
  (hJ:∀ i I La M H,(∀ q∈Tm,q∈M)->DS K (mD B D I) (La++M) H->(i<ds.length->J.go i H)/\(i=ds.length->J.stop i H)/\∀ x H2,i<ds.length->J.yld i H x H2->∃ d,ds[i]?=some d/\DS K (mD B D I) (La++(.v d,some x)::M) H2)
  (ag:∃ Pv:Nat->Aa L2.D->Aa Sl->Prop,Pv 0 [] (oU caps C) /\ (∀ i d I cs,ds[i]?=some d->cs.length=caps.length->Pv i I cs->g d (List.replicate T.length Sl.n++cs) λaf=>tt B.dk af λb ab=>if b=true then te B.dk ab λr aa=>match sd r with
    | some c=>I.length<100000/\Pv (i+1) (I++[c]) (aa.drop T.length)
    | none=>False
    else Pv (i+1) I (ab.drop T.length)) /\
   ∀ I cs,cs.length=caps.length->Pv ds.length I cs->Φ (.o (.l I)) (pG caps cs C))
  (k:∀ r ae v H',ae.length=U.length->DS K B (ae.zip U++(r,some v)::Tm) H'->Φ r ae->Q v H') (hD:H1 D=none):B0 T caps J (dG K T.length g) (rM K tt) (dE K te) U H1 Q D:=by
 obtain⟨Pv,p0,step,fin⟩:=ag;obtain⟨f1,f2,f3⟩:=d1.free hD;refine⟨λi m I s H'=>m=ds.length-i/\i<=ds.length/\s.length=T.length+caps.length/\(∀ j,T.length<=j->s[j]?=(qK T caps U)[j]?)/\∃ (h:Aa L2.D) (cs:Aa Sl),cs.length=caps.length/\h.length=I.length /\ DS K (mD B D I) ((List.replicate T.length Sl.n++cs).zip s++((oN caps C).zip U++(oV h I++Tm))) H'/\Pv i h cs,?_,?_⟩
 .refine⟨_,rfl,fV _,by simp[qK],λ_ _=>rfl,[],oU caps C,by simp[oU],rfl,?_,p0⟩;have h2:=(d1.lend ac l1).pin hD;have e:(List.replicate T.length Sl.n++oU caps C).zip (qK T caps U)=List.replicate T.length (Sl.n,none)++(oU caps C).zip (qE caps U):=by
   have:∀ n,(List.replicate n Sl.n++oU caps C).zip (List.replicate n none++qE caps U)=List.replicate n (Sl.n,none)++(oU caps C).zip (qE caps U):=by
    intro n;induction n with
    | zero=>rfl
    | succ n ih=>simp only[cX,cF,hG,ih]
   have W:qK T caps U=List.replicate T.length none++qE caps U:=by unfold qK qE;rw[List.map_const']
   rw[W];exact this _
  rw[e];have h3:DS K (mD B D []) ((oU caps C).zip (qE caps U)++((oN caps C).zip U++Tm)) (upd H1 D (.l [])):=h2.perm (by
   rw[<- bK,<- bK (as:=(oU caps C).zip (qE caps U))];exact List.perm_append_comm.append_right _)
  have:∀ n,DS K (mD B D []) (List.replicate n (Sl.n,none)++((oU caps C).zip (qE caps U)++((oN caps C).zip U++Tm))) (upd H1 D (.l [])):=by
   intro n;induction n with
   | zero=>exact h3
   | succ n ih=>rw[cX];exact DS.pushN (L1:=[]) ih none
  have e3:oV ([]:Aa L2.D) ([]:Aa V)=[]:=rfl;rw[e3]
  simpa using this T.length
 .rintro i m I s H' ⟨rfl,hi,ls,fs,h,cs,G,z,N,pv⟩;obtain⟨j1,j2,j3⟩:=hJ i I _ _ H' (λq hq=>by simp[hq]) N;by_cases w:i<ds.length
  .refine .inr ⟨j1 w,λf v R=>f.length=T.length+caps.length/\(∀ j,T.length<=j->f[j]?=(qK T caps U)[j]?)/\I.length<100000/\∃ (c:L2.D) (aa:Aa Sl),aa.length=f.length/\DS K (mD B D I) (aa.zip f++(.v c,some v)::((oN caps C).zip U++(oV h I++Tm))) R/\Pv (i+1) (h++[c]) (aa.drop T.length),λf P=>f.length=T.length+caps.length/\(∀ j,T.length<=j->f[j]?=(qK T caps U)[j]?)/\∃ aa:Aa Sl,aa.length=f.length/\DS K (mD B D I) (aa.zip f++((oN caps C).zip U++(oV h I++Tm))) P/\Pv (i+1) h (aa.drop T.length),?_,?_,λx H2 y=>?_⟩
   .rintro f v R ⟨q1,q2,q3,c,aa,A,t,q6⟩;refine⟨t.pinAt f2,bP q3 (by decide),ds.length-(i+1),by omega,rfl,w,q1,q2,h++[c],aa.drop T.length,by rw[List.length_drop];omega,by simp[z],?_,q6⟩;have w1:=(t.pinW (ys':=I++[v]) f2).forget T.length A (by omega);refine w1.perm (jB _ ?_);have ev:oV (h++[c]) (I++[v])=oV h I++[(.v c,some v)]:=by unfold oV;rw[List.zip_append z,List.map_append];rfl
    rw[ev];have p1:((Sl.v c,some v)::((oN caps C).zip U++(oV h I++Tm))).Perm ((oN caps C).zip U++(oV h I++((Sl.v c,some v)::Tm))):=by
     rw[<- bK,<- bK (as:=(oN caps C).zip U)];exact gT.symm
    simpa using p1
   .rintro f P ⟨q1,q2,aa,A,t,q6⟩;exact⟨ds.length-(i+1),by omega,rfl,w,q1,q2,h,aa.drop T.length,by rw[List.length_drop];omega,z,t.forget T.length A (by omega),q6⟩
   .obtain⟨d,Z,d2⟩:=j3 x H2 w y;refine⟨mD B D I,_,_,d,_,by simp[G,ls],d2,step i d h cs Z G pv,λaf f H3 n1 n2 fr d3 q3=>⟨mD B D I,af,_,_,n1,d3,q3,λb ab P m1 d4 A=>?_⟩⟩;have F:∀ j,T.length<=j->f[j]?=(qK T caps U)[j]?:=λj O=>(fr j O).trans (fs j O)
    cases b with
    | false=>exact sE ⟨by omega,F,ab,m1,d4,(aL (by decide)).mp A⟩
    | true =>
     refine (aU rfl).mpr ⟨mD B D I,ab,_,_,m1,d4,(aU rfl).mp A,λr aa v R m4 d5 t=>?_⟩;cases S:sd r with
     | none=>rw[S] at t;exact t.elim
     | some c =>
      rw[S] at t;exact⟨by omega,F,by rw[<- z];exact t.1,c,aa,m4,d5.thaw S,t.2⟩
  .have ei:i=ds.length:=by omega
   subst ei;refine .inl ⟨j2 rfl,?_⟩;have es:s=s.take T.length++qE caps U:=by
    apply List.ext_getElem?;intro j;by_cases O:j<T.length
    .rw[gF (by rw[dD];omega),List.getElem?_take_of_lt O]
    .rw[dO (by rw[dD];omega),dD,fs j (by omega)];have W:qK T caps U=List.replicate T.length none++qE caps U:=by unfold qK qE;rw[List.map_const']
     rw[W,dO (by rw[bW];omega),bW]
     congr 1
     omega
   have ez:(List.replicate T.length Sl.n++cs).zip s=(List.replicate T.length Sl.n).zip (s.take T.length)++cs.zip (qE caps U):=by
    conv=>lhs;rw[es]
    exact List.zip_append (by rw[bW,dD];omega)
   have rr:Reps K (Al (mD B D I) (hH ((pG caps cs (oN caps C)).zip U++Tm))) H' h I/\DS K (mD B D I) ((pG caps cs (oN caps C)).zip U++Tm) H':=by
    have g1:DS K (mD B D I) (cs.zip (qE caps U)++((oN caps C).zip U++(oV h I++Tm))) H':=by
     rw[ez,bK] at N;exact DS.rmE (L:=[]) (E:=(List.replicate T.length Sl.n).zip (s.take T.length)) N
    have g2:DS K (mD B D I) ((oN caps C).zip U++(cs.zip (qE caps U)++(oV h I++Tm))) H':=g1.perm (by
     rw[<- bK,<- bK (as:=(oN caps C).zip U)];exact List.perm_append_comm.append_right _)
    have g3:=g2.back G (by rw[Gr];exact l1);have Y:DS K (mD B D I) ((pG caps cs (oN caps C)).zip U++(oV h I++Tm)) H':=g3;refine⟨?_,Y.rmE⟩;have er:hH ((pG caps cs (oN caps C)).zip U++(oV h I++Tm))=hH ((pG caps cs (oN caps C)).zip U++Tm):=by
     have:hH (oV h I)=[]:=by
      refine dR.mpr λa ha=>?_
      obtain⟨q,hq,e⟩:=rV.mp ha;obtain⟨p,_,rfl⟩:=bB.mp hq;cases e
     rw[pZ,pZ,pZ,this,fM]
    have key:∀ p∈oV h I,qY K (Al (mD B D I) (hH ((pG caps cs (oN caps C)).zip U++Tm))) H' p.1 p.2:=λp hp=>by
     have:=Y.ok p (by simp[hp]);rw[er] at this;exact this
    clear g1 g2 g3 Y er N ez es;revert key z;generalize Al (mD B D I) (hH ((pG caps cs (oN caps C)).zip U++Tm))=AA;intro z key;exact Lo z key
   have u:=DS.unpin rr.2 rr.1 f1 f2;rw[Sm caps cs C G ac] at u;exact k _ _ _ H' (by rw[Qz];exact l1) u.mid (fin h cs G pv)
theorem O4 {K:kM}(o:j.Nodup) (h:dE K (xQ T.length j ι g U I) C H Q) :
  B4 T j (dI K ι) (dG K T.length g) (rM K U) (dE K I) C H Q:=by
 obtain⟨B,R,Tm,Φ,A,hd,G,k⟩:=h;refine⟨B,R,Tm,_,A,hd,G,λJ W S E V L d1 Y z D u=>D0 o (Tm:=E++Tm) L d1 (λi P s M H w d=>?_) z (λr c v m l d h=>k r c v m l (by
  have:DS K B ((c.zip C++[(r,some v)])++(E++Tm)) m:=by simpa using d
  simpa using this.rmE) h) u⟩
 have a:yB K (Al (mD B D P) (hH (s++M))) H E:=λq F=>d.ok q (by simp[w q (by simp[F])])
 refine⟨λb=>Y.go i H _ b a,λb=>Y.stop i H _ b a,λx n b y=>?_⟩;obtain⟨t,e,alt⟩:=Y.yld i H _ x n b a y;refine⟨t,e,?_⟩;rcases alt with⟨rfl,O⟩ | ⟨p,Z,vs,f,rfl,rfl,rfl,N⟩
 .exact d.push O
 .exact d.tup f N
theorem mS {iter:Expr}(T o:Aa Af) (r:Aa Nat) (hi:zX X tg iter ι)
  (hg:∀ p l C I J,uA (qA X (T++o) j I C p l J) T.length tg g)
  (he:∀ p l C I J,PD (qA X (T++o) j I C p l J) aa te)
  (ht:∀ p l C I J,tF (qA X (T++o) j I C p l J) ab (rM X.K tt):=by exact λ_ _ _ _ _=>Fg) (hc:X.calm=true:=by rfl) (hk:j.kind = .function:=by rfl) (ho:yV X.N X.env.kindOf j T o r=true:=by rfl) (U:r.Nodup:=by decide) (hs:∀ x,foldedSetIterable iter X.env x=pure x:=by intro _;rfl):PD X (.ListComp aa [⟨tg,iter,ab,0⟩] j pos) (xQ T.length r ι g tt te) :=
 (C6 T o r hc hi hk ho hg ht he hs).mono λ_ _ _ h=>O4 U h
theorem uG (i:Nat){iter:Expr}(T o:Aa Af) (I:Aa Nat) (hN:X.N.Nodup) (hi:zX X tg iter ι) (hg:∀ p l C J fp,uA (qA X (T++o) j J C p l fp) T.length tg g)
  (he:∀ p l C J fp,PD (qA X (T++o) j J C p l fp) U te)
  (ht:∀ p l C J fp,tF (qA X (T++o) j J C p l fp) ab (rM X.K tt):=by exact λ_ _ _ _ _=>Fg) (hc:X.calm=true:=by rfl) (hk:j.kind = .function:=by rfl) (ho:yV X.N X.env.kindOf j T o I=true:=by rfl) (af:X.N[i]?=some x:=by rfl) (hx:rT X.env.scope x:=by first | exact Or.inl rfl | exact Or.inr rfl) (aa:I.Nodup:=by decide)
  (ag:swapsWith (.ListComp U [⟨tg,iter,ab,0⟩] j pos) (some (.Name x ac)) ae.line X.env=pure true:=by rfl)
  (hs:∀ x,foldedSetIterable iter X.env x=pure x:=by intro _;rfl)
  (hf:X.fn x=true\/X.env.scope.names.lookup x=some .local:=by first | exact .inl rfl | exact .inr rfl | assumption) :
  rL X (.Assign [.Name x ac] (.ListComp U [⟨tg,iter,ab,0⟩] j pos) ae) (nG i (xQ T.length I ι g tt te)) :=
 (CW T o I hN af hx hc hi hk ho hg ht he ag hs hf).mono λn q H a=>a.elim λB h Tm m e hd ht f=>O4 aa ⟨B,h,Tm,_,e,hd,ht,λr k v c b d1 d=>(f.1 _ _ c (by rw[bV,bV];exact b) (bV ..) (d1.assign b i)).1 d⟩
end
section
variable {X:Cx}{K:kM}
theorem vD (h:Peeks K A H [d] g):∃ x,g=[x]/\mU K A H d x:=by
 cases h with | cons h r=>cases r;exact⟨_,rfl,h⟩
theorem Is (h:Peeks K A H [d,e] j):∃ x y,j=[x,y]/\mU K A H d x/\mU K A H e y:=by
 cases h with | cons h r=>cases r with | cons g r=>cases r;exact⟨_,_,rfl,h,g⟩
def Vn:D->Ab Nat
 | .l a=>some a.length
 | .t a=>some a.length
 | .con a=>some a.length
 | .c a=>some a.length
 | .str z=>some z.length
 | .k b=>some b.length
 | _=>none
def Wb:OC:=λa b=>match a with
 | [d]=>Ff d=true/\∃ n,Vn d=some n/\b (.v (.int n))
 | _=>False
def Kr (K:kM):Aa V->Hp->VK->Prop:=λc H Q=>(∃ p d,c=[.ref p]/\(lG K H p d\/lZ K H p d)/\Q (.int d.length) H)\/(∃ z,c=[.str z]/\z.length<=sizeLine/\Q (.int z.length) H)\/∃ a b,c=[V.ref a]/\Rd H a (.k b)/\Q (.int b.length) H
theorem pK:nI X (.builtin "len") (Kr X.K):=Ui.or (Qn.or X2)
theorem pI:tD K (Kr K) Wb:=by
 intro B L H m t u Q hd q i k;cases m with
 | nil=>exact False.elim i
 | cons d m =>
 cases m with
 | cons _ _=>exact False.elim i
 | nil =>
 obtain⟨x,rfl,f⟩:=vD q;obtain⟨s,n,c,i⟩:=i;have fin:Q (.int n) H:=k _ _ H i (hd.pushF (.int _));cases d<;>first | (cases c;done) | skip
 .cases c;have:=f.str_inv;subst this;exact .inr (.inl ⟨_,rfl,zK (eI s),fin⟩)
 .cases c;obtain⟨a,b,rfl,h,r⟩:=f.tup_inv;exact .inl ⟨a,b,rfl,.inr (lZ.of h),by rw[<- r.length];exact fin⟩
 .cases c;obtain⟨a,b,rfl,h,r⟩:=f.lst_inv;exact .inl ⟨a,b,rfl,.inl (lG.of h),by rw[<- r.length];exact fin⟩
 .cases c;obtain⟨a,b,rfl,h,e,r⟩:=f.dK_inv;refine .inr (.inr ⟨a,b,rfl,h,?_⟩);have:=cH List.length e;rw[aA,aA] at this;rw[<- this];exact fin
 .cases c;obtain⟨a,b,rfl,h,r⟩:=f.scr_inv;exact .inl ⟨a,b,rfl,.inl h.sqL,by rw[<- r.length];exact fin⟩
 .cases c;obtain⟨a,b,rfl,h,r⟩:=f.con_inv;exact .inl ⟨a,b,rfl,.inr h.sqT,by rw[<- r.length];exact fin⟩
noncomputable def Bp:Aa D->Ab (Aa Int)
 | []=>some []
 | .int i::a=>(Bp a).map (i::·)
 | _=>none
theorem Jk (h:Bp j=some l) (g:Reps K A H j o):o=l.map V.int:=by
 induction j generalizing l o with
 | nil=>cases g;cases h;rfl
 | cons d j b =>
  cases g with
  | cons r g =>
  cases d with
  | int i =>
   obtain⟨c,a,rfl⟩:=cL.mp h;rw[r.int_inv,b a g];rfl
  | _=>cases h
def GN:OC:=λb d=>match b with
 | [.l c]=>∃ a,Bp c=some a/\d (.v (.int a.sum))
 | _=>False
def Ge:OC:=λd c=>match d with
 | [.l e]=>∃ b,Bp e=some b/\b≠[]/\∀ m:Int,m∈b->(∀ a∈b,m<=a)->c (.v (.int m))
 | [.int i,.int j]=>∀ m:Int,(m=i\/m=j)->m<=i->m<=j->c (.v (.int m))
 | _=>False
def Uz:OC:=λd c=>match d with
 | [.l e]=>∃ b,Bp e=some b/\b≠[]/\∀ m:Int,m∈b->(∀ a∈b,a<=m)->c (.v (.int m))
 | [.int i,.int j]=>∀ m:Int,(m=i\/m=j)->i<=m->j<=m->c (.v (.int m))
 | _=>False
def Ih (K:kM):Aa V->Hp->VK->Prop:=λc H Q=>(∃ (p:Ad) (b:Aa Int),c=[.ref p]/\lG K H p (b.map V.int)/\b≠[]/\∀ m:Int,m∈b->(∀ a∈b,m<=a)->Q (.int m) H)\/∃ i j,c=[.int i,.int j]/\Q (.int (if j<i then j else i)) H
def Li (K:kM):Aa V->Hp->VK->Prop:=λc H Q=>(∃ (p:Ad) (b:Aa Int),c=[.ref p]/\lG K H p (b.map V.int)/\b≠[]/\∀ m:Int,m∈b->(∀ a∈b,a<=m)->Q (.int m) H)\/∃ i j,c=[.int i,.int j]/\Q (.int (if j>i then j else i)) H
theorem DZ (g:X.calm=true):nI X (.builtin "min") (Ih X.K):=(X6 g).or (Yc g)
theorem Xr (g:X.calm=true):nI X (.builtin "max") (Li X.K):=(Ws g).or (EL g)
theorem Y6:tD K (Ih K) Ge:=by
 intro B L H c A D Q hd n b k;cases c with
 | nil=>exact False.elim b
 | cons d c =>
 cases d<;>first | exact False.elim b | skip
 .cases c with
  | nil=>exact False.elim b
  | cons e c =>
  cases e<;>first | exact False.elim b | skip
  cases c with
  | cons _ _=>exact False.elim b
  | nil =>
  obtain⟨x,y,rfl,f,py⟩:=Is n;have:=f.int_inv;have:=py.int_inv;subst_vars
  rename_i i j
  refine .inr ⟨_,_,rfl,?_⟩;by_cases z:j<i
  .rw[aU z];exact k _ _ H (b _ (.inr rfl) (by omega) (by omega)) (hd.pushF (.int _))
  .rw[aL z];exact k _ _ H (b _ (.inl rfl) (by omega) (by omega)) (hd.pushF (.int _))
 .cases c with
  | cons _ _=>exact False.elim b
  | nil =>
  obtain⟨x,rfl,f⟩:=vD n;obtain⟨v,u,q,b⟩:=b;obtain⟨a,w,rfl,h,r⟩:=f.lst_inv;rw[Jk u r] at h;exact .inl ⟨a,v,rfl,lG.of h,q,λm s t=>k _ _ H (b m s t) (hd.pushF (.int _))⟩
theorem Rs:tD K (Li K) Uz:=by
 intro B L H c A D Q hd n b k;cases c with
 | nil=>exact False.elim b
 | cons d c =>
 cases d<;>first | exact False.elim b | skip
 .cases c with
  | nil=>exact False.elim b
  | cons e c =>
  cases e<;>first | exact False.elim b | skip
  cases c with
  | cons _ _=>exact False.elim b
  | nil =>
  obtain⟨x,y,rfl,f,py⟩:=Is n;have:=f.int_inv;have:=py.int_inv;subst_vars
  rename_i i j
  refine .inr ⟨_,_,rfl,?_⟩;by_cases z:j>i
  .rw[aU z];exact k _ _ H (b _ (.inr rfl) (by omega) (by omega)) (hd.pushF (.int _))
  .rw[aL z];exact k _ _ H (b _ (.inl rfl) (by omega) (by omega)) (hd.pushF (.int _))
 .cases c with
  | cons _ _=>exact False.elim b
  | nil =>
  obtain⟨x,rfl,f⟩:=vD n;obtain⟨v,u,q,b⟩:=b;obtain⟨a,w,rfl,h,r⟩:=f.lst_inv;rw[Jk u r] at h;exact .inl ⟨a,v,rfl,lG.of h,q,λm s t=>k _ _ H (b m s t) (hd.pushF (.int _))⟩
def Qa:D->Ab (Aa D)
 | .l a=>some a
 | .t a=>some a
 | .con a=>some a
 | .c a=>some a
 | _=>none
theorem Z5 (h:Qa d=some j) (p:mU K A H d x):∃ a g,x = .ref a/\(lG K H a g\/lZ K H a g)/\Reps K A H j g:=by
 cases d<;>cases h
 .obtain⟨a,g,rfl,h,r⟩:=p.tup_inv;exact⟨a,g,rfl,.inr (lZ.of h),r⟩
 .obtain⟨a,g,rfl,h,r⟩:=p.lst_inv;exact⟨a,g,rfl,.inl (lG.of h),r⟩
 .obtain⟨a,g,rfl,h,r⟩:=p.scr_inv;exact⟨a,g,rfl,.inl h.sqL,r⟩
 .obtain⟨a,g,rfl,h,r⟩:=p.con_inv;exact⟨a,g,rfl,.inr h.sqT,r⟩
def Y7:OC:=λb c=>match b with
 | [d]=>∃ a,Qa d=some a/\c (.o (.l a))
 | _=>False
theorem wN:tD K (λg H Q=>∃ p j,g=[.ref p]/\(lG K H p j\/lZ K H p j)/\∀ l,H l=none->Q (.ref l) (upd H l (.l j))) Y7:=by
 intro B L H c g q Q hd f b k;cases c with
 | nil=>exact False.elim b
 | cons d c =>
 cases c with
 | cons _ _=>exact False.elim b
 | nil =>
 obtain⟨x,rfl,m⟩:=vD f;obtain⟨g,i,b⟩:=b;obtain⟨a,n,rfl,h,r⟩:=Z5 i m;exact⟨a,n,rfl,h,λl e=>k _ _ _ b (hd.lstF e r)⟩
def Zs:OC:=λc b=>match c with
 | [.l a]=>b (.v (.t a))
 | [.t a]=>b (.v (.t a))
 | _=>False
theorem pB:tD K (λj H Q=>∃ p g,j=[.ref p]/\((lG K H p g/\∀ l,H l=none->Q (.ref l) (upd H l (.t g)))\/(lZ K H p g/\Q (.ref p) H))) Zs:=by
 intro B L H e j q Q hd m b k;cases e with
 | nil=>exact False.elim b
 | cons d e =>
 cases d<;>first | exact False.elim b | skip<;>cases e<;>first | exact False.elim b | skip
 .obtain⟨x,rfl,c⟩:=vD m;have f:=c;obtain⟨a,i,rfl,h,r⟩:=c.tup_inv;exact⟨a,i,rfl,.inr ⟨lZ.of h,k _ _ _ b (hd.pushF f)⟩⟩
 .obtain⟨x,rfl,c⟩:=vD m;obtain⟨a,i,rfl,h,r⟩:=c.lst_inv;exact⟨a,i,rfl,.inl ⟨lG.of h,λl n=>k _ _ _ b (hd.tupF n r)⟩⟩
def qN:Aa D->Ab (Aa (gV×D))
 | []=>some []
 | .t [k,d]::a=>match sV k,qN a with
  | some k,some r=>some ((k,d)::r)
  | _,_=>none
 | _=>none
theorem tZ {l:Type}{f:l->D}{g:l->gV×D}(h:∀ x,∃ k,f x = .t [k,(g x).2]/\sV k=some (g x).1):∀ j:Aa l,qN (j.map f)=some (j.map g)
 | []=>rfl
 | x::j=>by
  obtain⟨k,a,b⟩:=h x;rw[aW,a];show (match sV k,qN (j.map f) with | some k,some r=>some ((k,(g x).2)::r) | _,_=>none)=_;rw[b,tZ h j];rfl
def oE (g more:Aa (gV×D)):Aa (gV×D):=more.foldl (λa b=>oG a b.1 b.2) g
theorem W7 (h:qN l=some j) (o:Reps K A H l C):∃ (p:Aa Ad) (g:Aa (gV×V)),C=p.map V.ref/\B3 H p g/\j.map (·.1)=g.map (·.1)/\Reps K A H (j.map (·.2)) (g.map (·.2)):=by
 induction l generalizing j C with
 | nil=>cases o;cases h;exact⟨[],[],rfl,.nil,rfl,.nil⟩
 | cons d l t =>
  cases o with
  | cons r o =>
  cases d<;>first | (cases h;done) | skip
  rename_i x
  rcases x with _ | ⟨k,_ | ⟨e,_ | ⟨_,_⟩⟩⟩<;>first | (cases h;done) | skip
  .have h:=(show (match sV k,qN l with | some k,some r=>some ((k,e)::r) | _,_=>none)=some j from h);cases c:sV k with
   | none=>rw[c] at h;cases h
   | some u =>
    cases f:qN l with
    | none=>rw[c,f] at h;cases h
    | some y =>
     rw[c,f] at h;cases h;obtain⟨a,z,rfl,s,b⟩:=r.tup_inv;obtain⟨p,g,i,m,n,q⟩:=t f o;cases b with
     | cons v b =>
      cases b with
      | cons w b =>
       cases b;have:=Ez c v.peek;subst this;exact⟨a::p,(u,_)::g,by rw[i];rfl,.cons s m,by rw[aW,aW,n],.cons w q⟩
theorem Fb:∀ {more:Aa (gV×D)}{mv:Aa (gV×V)}{kvs:Aa (gV×D)}{vs:Aa (gV×V)},more.map (·.1)=mv.map (·.1)->Reps K A H (more.map (·.2)) (mv.map (·.2))->kvs.map (·.1)=vs.map (·.1)->Reps K A H (kvs.map (·.2)) (vs.map (·.2)) ->
  (oE kvs more).map (·.1)=(qS vs mv).map (·.1)/\Reps K A H ((oE kvs more).map (·.2)) ((qS vs mv).map (·.2))
 | [],[],_,_,_,_,e,r=>⟨e,r⟩
 | [],_::_,_,_,e,_,_,_=>by simp at e
 | _::_,[],_,_,e,_,_,_=>by simp at e
 | (k,d)::more,(j,v)::mv,kvs,vs,a,b,e,r=>by
  simp only[aW,eO] at a;obtain⟨rfl,a⟩:=a;cases b with
  | cons h b =>
   obtain⟨c,f⟩:=Hx e r (k:=k) h;exact Fb (more:=more) (mv:=mv) a b c f
def Wr:OC:=λc b=>match c with
 | [.k a]=>b (.o (.k a))
 | [.l d]=>∃ a,qN d=some a/\a.length<=1000/\b (.o (.k (oE [] a)))
 | _=>False
def Kd (K:kM):Aa V->Hp->VK->Prop:=λe H Q=>(∃ (a:Ad) (b:Aa (gV×V)),e=[.ref a]/\Rd H a (.k b)/\∀ p,H p=none->Q (.ref p) (upd H p (.k b))) \/
 ∃ (p:Ad) (c:Aa Ad) (b:Aa (gV×V)),e=[.ref p]/\lG K H p (c.map V.ref)/\B3 H c b/\b.length<=1000/\∀ d,H d=none->Q (.ref d) (upd H d (.k (qS [] b)))
theorem uM (g:X.calm=true):nI X (.type "dict") (Kd X.K):=Xx.or (BP g)
theorem uQ:tD K (Kd K) Wr:=by
 intro B L H i E F Q hd c b k;cases i with
 | nil=>exact False.elim b
 | cons d i =>
 cases d<;>first | exact False.elim b | skip<;>cases i<;>first | exact False.elim b | skip
 .obtain⟨x,rfl,n⟩:=vD c;obtain⟨w,v,D,b⟩:=b;obtain⟨a,s,rfl,h,r⟩:=n.lst_inv;obtain⟨A,f,rfl,t,q,u⟩:=W7 v r;obtain⟨y,z⟩:=Fb (kvs:=[]) (vs:=[]) q u rfl .nil;have m:f.length<=1000:=by
   have:=cH List.length q;simp only[aA] at this;omega
  exact .inr ⟨a,A,f,rfl,lG.of h,t,m,λp c=>k _ _ _ b (hd.dKF c y z)⟩
 .obtain⟨x,rfl,n⟩:=vD c;obtain⟨a,s,rfl,h,e,r⟩:=n.dK_inv;exact .inl ⟨a,s,rfl,h,λp c=>k _ _ _ b (hd.dKF c e r)⟩
noncomputable def uW:Aa D->Ab (Aa Bool)
 | []=>some []
 | .b b::a=>(uW a).map (b::·)
 | _=>none
theorem Q8:∀ (g:Aa Bool),uW (g.map D.b)=some g
 | []=>rfl
 | n::g=>by rw[aW,uW,Q8 g];rfl
theorem V7 (h:uW g=some j) (r:Reps K A H g l):l=j.map V.b:=by
 induction g generalizing j l with
 | nil=>cases r;simp only[uW,jW] at h;subst h;rfl
 | cons d g c =>
  cases r with
  | cons r e =>
  cases d with
  | b i =>
   simp only[uW,cL] at h;obtain⟨f,a,rfl⟩:=h;rw[r.bl_inv,c a e];rfl
  | _=>simp[uW] at h
def BU:OC:=λa d=>match a with
 | [.l c]=>∃ bs,uW c=some bs/\d (.v (.b (bs.all id)))
 | _=>False
theorem DE:tD K (Jy K) BU:=by
 intro B L H e s t Q hd i c k;cases e with
 | nil=>exact False.elim c
 | cons d e =>
  cases e with
  | cons _ _=>cases d<;>exact False.elim c
  | nil =>
   cases d<;>first | exact False.elim c | skip
   obtain⟨x,rfl,n⟩:=vD i;obtain⟨m,f,c⟩:=c;obtain⟨a,q,rfl,h,r⟩:=n.lst_inv;rw[V7 f r] at h;exact⟨a,m,rfl,lG.of h,k _ _ H c (hd.pushF (.b _))⟩
end
def G4 (T:String):D->Bool
 | .str _=>T == "str"
 | .l _=>T == "list"
 | .c _=>T == "list"
 | .k _=>T == "dict"
 | _=>false
section
variable {X:Cx}{K:kM}
theorem Zm (h:G4 T d=true) (p:mU K A H d x):Ci K T x H:=by
 cases d<;>first | (cases h;done) | skip
 all_goals (have h:=eq_of_beq h;subst h)
 .have:=p.str_inv;subst this;rfl
 .obtain⟨a,b,rfl,h,r⟩:=p.lst_inv;exact .inl ⟨rfl,b,lG.of h⟩
 .obtain⟨a,b,rfl,h,e,r⟩:=p.dK_inv;exact .inr (.inr (.inl ⟨rfl,.inl ⟨b,h⟩⟩))
 .obtain⟨a,b,rfl,h,r⟩:=p.scr_inv;exact .inl ⟨rfl,b,h.sqL⟩
abbrev OM:=D->Aa D->(Sl->Prop)->Prop
abbrev RM:=V->Aa V->Hp->VK->Prop
def GL (T:String) (f:OM) (i:Nat) (g:rW):lL:=λc b h=>(match at? b i with | some d=>G4 T d=true | none=>False)/\g c b λas a=>match at? a i,sH a as with
 | some d,some e=>f d e λs=>h s a
 | _,_=>False
variable {id:String}
abbrev OW:=D->Aa D->(D->D->Prop)->Prop
def yL (K:kM) (r:RM) (f:OW):Prop:=∀ (A:Ad->Prop) (H:Hp) (a:Ad) (c:D) (h:Aa D) (i:Aa V) (k:D->D->Prop) (Q:VK),¬ A a->nY K A H a c->Reps K A H h i->f c h k ->
 (∀ d v o e,k d e->Rep K A H d v->(∀ b,Kp A b H (upd H a o)->nY K b (upd H a o) a e)->Q v (upd H a o))->r (.ref a) i H Q
def dW (T:String) (f:OW) (i:Nat) (g:rW):lL:=λh b m=>(match at? b i with | some d=>G4 T d=true | none=>False)/\g h b λas a=>match a[i]?,wM as with
 | some (.o c),some k=>f c k λd e=>m (.v d) (a.set i (.o e))
 | _,_=>False
theorem V0 {f:OW}(C:yL X.K r f){g:St}{H:Hp}{Q:VK}(h:dE X.K (dW T f i ta) g H Q):pP i g H λx l=>Ci X.K T x l/\dA X.K ta g l λxs j=>r x xs j Q:=by
 obtain⟨B,Y,Tm,Φ,S,hd,⟨A,J⟩,k⟩:=h;cases F:at? Y i with
 | none=>rw[F] at A;exact A.elim
 | some d0 =>
  rw[F] at A;obtain⟨x,t,px⟩:=hd.peek S F;refine⟨x,t,Zm A px,B,Y,Tm,_,S,hd,J,λas e vs j D ok d2 b=>?_⟩;cases m:e[i]? with
  | none=>rw[m] at b;exact b.elim
  | some s =>
   cases s with
   | n=>rw[m] at b;exact b.elim
   | v c=>rw[m] at b;exact b.elim
   | o c =>
    cases G:wM as with
    | none=>rw[m,G] at b;exact b.elim
    | some P =>
     rw[m,G] at b;have O:=d2.temps ok P G;have Z:=d2.rmArgs;obtain⟨a,R,W,wr⟩:=Z.slotW D m;rw[t] at R;cases R;obtain⟨u,U,tu⟩:=W.some;have V:¬ Al B (hH (e.zip g++Tm)) a:=λz=>z.2.1 (by
      obtain⟨l1,y,N,w,_,L,_⟩:=uJ D m;rw[t] at w;cases w;rw[L,bK,cF,qF];exact aT _ aO)
     refine C _ j a c P vs _ Q V W O b λd v o E M rd I=>k _ _ v _ (by rw[bV];exact D) ?_ M
     refine (wr o E I).push ?_;have p:hH ((e.set i (.o E)).zip g++Tm)=hH (e.zip g++Tm):=by
      obtain⟨l1,y,N,w,_,L,q⟩:=uJ D m;rw[t] at w;cases w;have:=q (.o E) (some (.ref a));rw[yZ t] at this;rw[this,L,bK,bK,cF,cF,qF,qF];rfl
     rw[p];exact rd.mono (.write U tu V)
theorem rF {f:OW}(pa:PlainAttrs T) (slot:Slot T name id) (j:typeOf (.builtin id)=pure (.type "method_descriptor")) (J:E5 X id r) (I:yL X.K r f) (U:PE X o (pP i)) (p:rZ X (e::l) ta)
  (C:MtB X o name apos e l g:=by exact {}) :
  PD X (.Call (.Attribute o name apos) (e::l) [] g) (dW T f i ta):=(CO pa slot j J U p C).mono λ_ _ _ h=>V0 I h
noncomputable def AH:OW:=λc b f=>match c,b with
 | .l a,[d]=>a.length<100000/\f .e (.l (a++[d]))
 | _,_=>False
theorem vG:yL K Pj AH:=by
 intro A H a c q s t Q _ i rd b k;cases c<;>first | exact False.elim b | skip
 cases rd with
 | nil=>exact False.elim b
 | cons f rd =>
 cases rd with
 | cons _ _=>exact False.elim b
 | nil =>
 .obtain⟨m,h,r⟩:=i
  .refine⟨a,m,_,rfl,rfl,h,bP (by rw[<- r.length];exact b.1) (by decide),k _ _ _ _ b.2 .e λn d=>⟨_,lT,(r.append (.cons f .nil)).mono d⟩⟩
def BS:OW:=λc b d=>match c,b with
 | .l a,[.int i]=>∃ k y,-(2 ^ 63)<=i/\i<2 ^ 63/\seqIndex? i a.length=some k/\a[k]?=some y/\d y (.l (a.eraseIdx k))
 | _,_=>False
theorem N0:yL K J2 BS:=by
 intro A H a c z B D Q _ t rd b k;cases c<;>first | exact False.elim b | skip
 cases rd with
 | nil=>exact False.elim b
 | cons s rd =>
 rename_i d _ _ _
 cases d<;>first | exact False.elim b | skip
 cases rd with
 | cons _ _=>exact False.elim b
 | nil =>
 .obtain⟨w,h,r⟩:=t
  .have:=s.int_inv;subst this;obtain⟨j,y,e,f,i,m,b⟩:=b;obtain⟨v,n,u⟩:=r.get m;exact⟨a,w,_,j,v,rfl,rfl,h,e,f,by rw[<- r.length];exact i,n,k _ _ _ _ b u λx q=>⟨_,lT,(r.erase j).mono q⟩⟩
def Y0:D->Bool
 | .k _=>true
 | .T _=>true
 | _=>false
def Zh (i:Nat) (ty g:lL):lL:=λc e m=>(match at? e i with | some d=>Y0 d=true | none=>False)/\ty c e λf b=>g c b λh a=>match at? a i,sd f,sd h with
 | some d,some k,some x=>∃ o,zV d k=some o/\m (.v (o.getD x)) a
 | _,_,_=>False
theorem Eb (U:X.A.units+1<cLine) (l:PE X o (pP i)) (I:PD X k ty) (J:PD X x tx) (m:M2 X o "get" apos k x j:=by exact⟨rfl,rfl,rfl,rfl⟩):PD X (.Call (.Attribute o "get" apos) [k,x] [] j) (Zh i ty tx) :=
 (Yd U l I J m).mono λσ H Q E=>E.elim λB W Tm Φ N hd ⟨t,T⟩ k=>by
  cases u:at? W i with
  | none=>rw[u] at t;exact t.elim
  | some Z =>
   rw[u] at t;obtain⟨x,O,R⟩:=hd.peek N u;obtain⟨a,rfl,F⟩:∃ a,x = .ref a/\Hi H a:=by
    cases Z<;>first | (cases t;done) | skip
    .obtain⟨a,L,rfl,h,e,r⟩:=R.dK_inv;exact⟨a,rfl,.inl ⟨L,h⟩⟩
    .obtain⟨a,L,rfl,h,e,r⟩:=R.dT_inv;exact⟨a,rfl,.inr ⟨L,h⟩⟩
   refine⟨.ref a,O,a,rfl,F,B,W,Tm,_,N,hd,T,λV M y H1 l1 d1 C=>⟨B,M,(V,some y)::Tm,_,l1,d1,C,λrx q z Y P d2 b=>?_⟩⟩;cases f:at? q i with
   | none=>rw[f] at b;exact b.elim
   | some d =>
    cases s:sd V with
    | none=>rw[f,s] at b;exact b.elim
    | some kk =>
     cases D:sd rx with
     | none=>rw[f,s,D] at b;exact b.elim
     | some xx =>
      rw[f,s,D] at b;obtain⟨oo,l,b⟩:=b;obtain⟨S,q2,q3⟩:=d2.two s D;obtain⟨x',n,G⟩:=S.peek P f;rw[O] at n;cases n;obtain⟨a',w,p,g,g1,g2⟩:=Gb l G q2.peek;cases p;refine⟨w,g,k _ q _ Y P (S.push ?_) b⟩;cases oo with
      | none=>rw[g2 rfl];exact q3
      | some c=>obtain⟨v,rfl,rv⟩:=g1 c rfl;exact rv
theorem J3:∀ (g:Aa Int),Reps K A H (g.map D.int) (g.map V.int)
 | []=>.nil
 | y::g=>.cons (.int y) (J3 g)
end
section
variable {X:Cx}
theorem hI (o:X.A.units+1<cLine) (i:Nat) (j:PD X b p) (g:PE X a (pP i):=by exact pv _) (l:xY b:=by exact λ_ _=>rfl):PD X (.Subscript a b pos) (wZ xR i p) :=
 (Mn (P9 o) g j l).mono λ_ _ _ h=>Fh Kk h
end
section
variable {X:Cx}{K:kM}
theorem Rr (l:X.calm=true):nI X (.builtin "min") (λg H Q=>∃ i j k,g=[.int i,.int j,.int k]/\∀ m:Int,(m=i\/m=j\/m=k)->m<=i->m<=j->m<=k->Q (.int m) H):=by
 intro f s A H g F Q I r h;obtain⟨i,j,k,rfl,q⟩:=h;cases r with
 | cons y r =>
  obtain⟨v,u,rfl,⟨D,rfl⟩,⟨E,rfl⟩⟩:=zR r;obtain⟨B,rfl⟩:=y;refine min_three_ints (I.ok.hd l) λw z x=>?_
  have fin:∀ (m:Int) (t:Tok),(m=i\/m=j\/m=k)->m<=i->m<=j->m<=k->EP X f A Q (.int m t) { s with heap:=w,toks:=z }:=λm t a b c d=>⟨.int m,H,I.kept x,⟨t,rfl⟩,q m a b c d⟩
  by_cases n:j<i
  .rw[aU n];by_cases e:k<j
   .rw[aU e];exact fin _ _ (.inr (.inr rfl)) (by omega) (by omega) (by omega)
   .rw[aL e];exact fin _ _ (.inr (.inl rfl)) (by omega) (by omega) (by omega)
  .rw[aL n];by_cases e:k<i
   .rw[aU e];exact fin _ _ (.inr (.inr rfl)) (by omega) (by omega) (by omega)
   .rw[aL e];exact fin _ _ (.inl rfl) (by omega) (by omega) (by omega)
def Ig (K:kM):Aa V->Hp->VK->Prop:=λa H Q=>Ih K a H Q\/∃ i j k,a=[.int i,.int j,.int k]/\∀ m:Int,(m=i\/m=j\/m=k)->m<=i->m<=j->m<=k->Q (.int m) H
theorem DT (g:X.calm=true):nI X (.builtin "min") (Ig X.K):=(DZ g).or (Rr g)
def Wd:OC:=λa b=>match a with
 | [.int i,.int j,.int k]=>∀ m:Int,(m=i\/m=j\/m=k)->m<=i->m<=j->m<=k->b (.v (.int m))
 | a=>Ge a b
theorem CH:tD K (Ig K) Wd:=by
 intro B L H i n q Q hd h f k;have two:Ge i q->Ig K n H Q:=λf=>.inl (Y6 B L H _ n q Q hd h f k)
 rcases i with _ | ⟨d,_ | ⟨e,_ | ⟨g,_ | ⟨_,_⟩⟩⟩⟩
 .exact two f
 .cases d<;>exact two f
 .cases d<;>first | exact two f | (cases e<;>exact two f)
 .cases d<;>first | exact two f | skip
  cases e<;>first | exact two f | skip
  cases g<;>first | exact two f | skip
  cases h with
  | cons s h =>
   obtain⟨x,y,rfl,t,py⟩:=Is h;have:=s.int_inv;have:=t.int_inv;have:=py.int_inv;subst_vars;exact .inr ⟨_,_,_,rfl,λm a b c d=>k _ _ H (f m a b c d) (hd.pushF (.int _))⟩
 .cases d<;>first | exact two f | (cases e<;>first | exact two f | (cases g<;>exact two f))
end
end L2
namespace Lw
open PySem L2
abbrev mX:=Aa (Af×Int)
noncomputable def lA (t:mX):Aa (gV×D):=t.map λp=>(Sum.inr p.1,D.int p.2)
noncomputable def mB (t:mX) (x:Af):Int:=match t.find? (λp=>decide (p.1=x)) with
 | some p=>p.2
 | none=>0
theorem wL:mB (p::t) x=if p.1=x then p.2 else mB t x:=by
 unfold mB;rw[dQ];by_cases h:p.1=x<;>simp[h]
theorem vX:∀ (t:mX) (x:Af),(x∈t.map (·.1)->kW (lA t) (Sum.inr x)=some (.int (mB t x)))/\(x∉t.map (·.1)->kW (lA t) (Sum.inr x)=none/\mB t x=0)
 | [],x=>⟨λh=>by simp at h,λ_=>⟨rfl,rfl⟩⟩
 | p::t,x=>by
  have a:=vX t x;have e:lA (p::t)=(Sum.inr p.1,D.int p.2)::lA t:=rfl;rw[e,rO,wL];by_cases h:p.1=x
  .subst h;exact⟨λ_=>by rw[aU rfl,aU rfl],λn=>absurd (by simp) n⟩
  .have b:(Sum.inr p.1:gV)≠Sum.inr x:=λq=>h (dX q)
   rw[aL b,aL h];refine⟨λm=>a.1 ?_,λm=>a.2 λq=>m (by simp only[aW,aK];exact .inr q)⟩;simp only[aW,aK] at m;exact m.resolve_left λq=>h q.symm
theorem Gj (t:mX) (x:Af):(kW (lA t) (Sum.inr x)).getD (.int 0) = .int (mB t x):=by
 by_cases h:x∈t.map (·.1)
 .rw[(vX t x).1 h];rfl
 .rw[((vX t x).2 h).1,((vX t x).2 h).2];rfl
theorem Wo (h:x∉t.map (·.1)):oG (lA t) (Sum.inr x) (.int n)=lA (t++[(x,n)]):=by
 unfold oG;rw[Ec,((vX t x).2 h).1];simp[lA]
theorem Lh:∀ (u t:mX),((t++u).map (·.1)).Nodup->oE (lA t) (lA u)=lA (t++u)
 | [],t,_=>by simp[oE,lA]
 | p::u,t,h=>by
  have a:p.1∉t.map (·.1):=λq=>by
   rw[aG] at h;exact (bS.mp h).2.2 p.1 q p.1 (by simp) rfl
  have e:oE (lA t) (lA (p::u))=oE (oG (lA t) (Sum.inr p.1) (.int p.2)) (lA u):=rfl;rw[e,Wo a,Lh u (t++[p]) (by simpa using h)];simp
theorem R8 (h:(t.map (·.1)).Nodup):oE [] (lA t)=lA t:=by
 have:=Lh t [] (by simpa using h)
 simpa [lA] using this
end Lw
namespace L2
open PySem PySem.Spec PyProof.Rows Lw
section
theorem sR (J:Aa α) (U T:α->D) (p:α->Bool) (C:Aa Sl) (ac:∀ Ψ:Aa D->Aa Sl->Prop,Ψ (J.map U) C->ι dk ρ Ψ) (hl:J.length<=100000)
  (hs:∀ (i:Nat) x (I:Aa D) (Nx:Aa D->Aa Sl->Prop),J[i]?=some x->I.length<100000->(p x=true->Nx (I++[T x]) (oU j C))->(p x=false->Nx I (oU j C))->g (U x) (List.replicate n Sl.n++oU j C) λae=>tt dk ae λb aa=>if b=true then te dk aa λr af=>match sd r with
   | some c=>I.length<100000/\Nx (I++[c]) (af.drop n)
   | none=>False
   else Nx I (aa.drop n))
  (ab:Φ (.o (.l ((J.filter p).map T))) (pG j (oU j C) C)):xQ n j ι g tt te dk ρ Φ:=by
 refine ac _ ⟨λi I a=>I=((J.take i).filter p).map T/\a=oU j C,⟨by simp,rfl⟩,?_,?_⟩
 .rintro i d I a hd _ ⟨f,h⟩;rw[bH] at hd;cases e:J[i]? with
  | none=>rw[e] at hd;cases hd
  | some x =>
   rw[e] at hd;cases hd;obtain⟨s,_⟩:=aV.mp e;have k:(J.take (i+1)).filter p=(J.take i).filter p++(if p x=true then [x] else []):=by
    rw[dZ,e,List.filter_append];by_cases q:p x=true<;>simp[q]
   have len:I.length<100000:=by
    rw[f,aA];have m:=bT p (J.take i);rw[dD] at m;omega
   rw[h];refine hs i x I (λI a=>I=((J.take (i+1)).filter p).map T/\a=oU j C) e len (λq=>⟨?_,rfl⟩) λq=>⟨?_,rfl⟩
   .rw[k,aU q,f,aG];rfl
   .rw[k,aL (by rw[q];decide),cG];exact f
 .rintro I a _ ⟨f,h⟩;rw[f,h,aA,fY];exact ab
theorem mM (J:Aa α) (C I:α->D) (p:Aa Sl) (ab:∀ Ψ:Aa D->Aa Sl->Prop,Ψ (J.map C) p->ι dk ρ Ψ) (hl:J.length<=100000)
  (hs:∀ (i:Nat) x (T:Aa D) (U:Aa D->Aa Sl->Prop),J[i]?=some x->T.length<100000->U (T++[I x]) (oU j p)->g (C x) (List.replicate n Sl.n++oU j p) λac=>te dk ac λr ae=>match sd r with
   | some c=>T.length<100000/\U (T++[c]) (ae.drop n)
   | none=>False)
  (aa:Φ (.o (.l (J.map I))) (pG j (oU j p) p)):xQ n j ι g I0 te dk ρ Φ:=by
 refine sR J C I (λ_=>true) p ab hl (λi x T U e a b _=>hs i x T U e a (b rfl)) ?_;have:J.filter (λ_=>true)=J:=iC.mpr λ_ _=>rfl
 rw[this];exact aa
end
end L2
namespace Lw
open PySem L2
def mR (i:Nat):Stmt:=PySem.Challenge.pw_laidcells_k33_not_laid_together.main.body.getD i (.Pass ⟨0,0,0,0⟩)
abbrev Ja:Stmt:=mR 11
abbrev Ob:Stmt:=mR 11
abbrev zH:Stmt:=mR 13
abbrev A9:Stmt:=mR 14
abbrev Bl:Stmt:=mR 15
abbrev Fe:Stmt:=mR 16
abbrev Bb:Stmt:=mR 22
abbrev D4:Stmt:=mR 23
abbrev Df:Stmt:=mR 24
abbrev B6:Stmt:=mR 25
abbrev A7:Stmt:=mR 26
abbrev yY:Stmt:=mR 27
abbrev D1:Stmt:=mR 28
abbrev Em:Stmt:=mR 29
abbrev En:Stmt:=mR 30
abbrev Do:Stmt:=mR 31
abbrev C5:Stmt:=mR 32
abbrev E2:Stmt:=mR 33
abbrev Cz:Stmt:=mR 34
abbrev Fc:Stmt:=mR 35
abbrev uE:Stmt:=mR 37
abbrev xI:Stmt:=mR 38
abbrev Ct:Stmt:=mR 39
abbrev Cp:Stmt:=mR 40
abbrev Fd:Stmt:=mR 41
abbrev Bm:Stmt:=mR 45
abbrev Ei:Stmt:=mR 46
abbrev Dq:Stmt:=mR 47
abbrev Ex:Stmt:=mR 48
abbrev Du:Stmt:=mR 49
abbrev C9:Stmt:=mR 50
abbrev Cq:Stmt:=mR 51
abbrev A5:Stmt:=mR 52
abbrev Cu:Stmt:=mR 53
abbrev Cj:Stmt:=mR 54
abbrev Es:Stmt:=mR 55
abbrev Db:Stmt:=mR 56
abbrev yC:Stmt:=mR 57
def Of:Stmt->Aa Stmt
 | .ClassDef _ _ _ b ..=>b
 | _=>[]
abbrev zB:Stmt:=(Of (mR 4)).getD 0 (.Pass ⟨0,0,0,0⟩)
abbrev yW:Stmt:=(Of (mR 5)).getD 0 (.Pass ⟨0,0,0,0⟩)
structure Txt (mg:Str->Option Value):Prop where
 len:mg "len" = none
 range:mg "range" = none
 sum:mg "sum" = none
 min:mg "min" = none
 max:mg "max" = none
 tuple:mg "tuple" = none
 list:mg "list" = none
 set:mg "set" = none
 dict:mg "dict" = none
 int:mg "int" = none
 str:mg "str" = none
 zip:mg "zip" = none
 enumerate:mg "enumerate" = none
 all:mg "all" = none
 any:mg "any" = none
 isinstance:mg "isinstance" = none
 sorted:mg "sorted" = none
 abs:mg "abs" = none
 reversed:mg "reversed" = none
 bool:mg "bool" = none
structure Gd (K:kM) (mg:Str->Option Value) (x:Str) (st:Stmt) (ps:List Str) (f:Addr) (fd:FuncData):Prop where
 F:Fun K x x st f fd
 m:mg x=some (.ref f)
 k:PySem.W.keepIn K (.ref f)=true
 b:sW K fd ps []
def Kn (P:Ah) (w:World) (K:kM) (g:Af->Ab Ac) (base:Ag) (k:Nat) (x:Af) (st:Stmt) (j:Aa Af) (R:RD):Prop:=∃ f fd,Gd K g x st j f fd/\FnOk P w K g base lV k f fd j (nC K R)
theorem lU {X:Cx}{st:Stmt}{R:RD}(G:Kn X.prog X.w X.K X.mg X.base k x st T R) (I:Room m X.A) (o:rZ X (e::l) J) (C:k<=m:=by decide) (r:Gl X x:=by rfl) (g:(x == ("__debug__" : Af))=false:=by decide)
  (j:StB X e l pos:=by exact {}):PD X (.Call (.Name x p) (e::l) [] pos) (Io R J):=G.elim λ_ h=>h.elim λ_ h=>oR h.2 (I.mono C) r h.1.m h.1.k h.1.b o g j
def nU (P:Ah) (w:World) (K:kM) (g:Af->Ab Ac) (base:Ag) (k:Nat) (x:Af) (st:Stmt) (j:Aa Af) (R:RD):Prop:=∀ f fd,Fun K x x st f fd->FnOk P w K g base lV k f fd j (nC K R)
theorem oO {P:Ah}{K:kM}{st:Stmt}{R:RD}(S:FnScope N J (lB st))
  (j:∀ (f:Ad) (g:Ac) (A:Around) (l:Aa Env) (s:Ae) (H:Hp) (E:XK) (C:Aa Ad) (o:Aa D) (r:Sl->Prop),Room k (A.deeper (PyProof.Rows.envOfC x (lB st) s.heap.objs.size f g))->(A.deeper (PyProof.Rows.envOfC x (lB st) s.heap.objs.size f g)).units+1<cLine->R C o r ->∃ t,oM (mZ lV P w K T base N x (lB st) f g A l s H E).nox (pQ st) t/\t C { nx:=λ_=>r (.v .e),rt:=r } (pM N o)) (I:J.length<=N.length:=by decide) (p:∀ C o r,R C o r->o.length=J.length:=by rintro _ _ _ h;repeat' (rcases h with⟨i,h⟩;try (subst i;rfl))):nU P w K T base (k+1) x st J R:=λ_ _ F=>F.okD S p I λ_ _ _ _ _ _ _ _ _ a=>j _ _ _ _ _ _ _ _ _ _ a (sB a)
noncomputable def Pn:Aa Af:=["and","or","odd"]
structure ArOk (w:Str) (n:Nat):Prop where
 ok:(w∈Pn/\(n=2\/n=3))\/(w = "most" /\ n=3)\/(w = "not" /\ n=1)\/(w = "one" /\ n=0)\/(w = "nil" /\ n=0)
structure Cel where
 ins:List Str
 gates:List (Str×Str×List Str)
 outs:List Str
def Cel.names (C:Cel):Aa Af:=C.ins++C.gates.map (·.1)
def rS:Aa Af->Aa (Af×Af×Aa Af)->Prop
 | _,[]=>True
 | kn,g::r=>ArOk g.2.1 g.2.2.length/\(∀ p∈g.2.2,p∈kn)/\rS (kn++[g.1]) r
theorem rS.snoc:∀ {j:Aa (Af×Af×Aa Af)}{kn:Aa Af}{g:Af×Af×Aa Af},rS kn j->ArOk g.2.1 g.2.2.length->(∀ p∈g.2.2,p∈kn++j.map (·.1))->rS kn (j++[g])
 | [],kn,g,_,b,c=>⟨b,by simpa using c,True.intro⟩
 | a::r,kn,g,h,b,c=>⟨h.1,h.2.1,rS.snoc h.2.2 b (by simpa using c)⟩
theorem rS.at:∀ {kn:Aa Af}{i:Nat}{g:Af×Af×Aa Af},rS kn j->j[i]?=some g->ArOk g.2.1 g.2.2.length/\∀ p∈g.2.2,p∈kn++(j.take i).map (·.1):=by
 induction j with
 | nil=>intro kn i g _ h;simp at h
 | cons a r c =>
  intro kn i g h e;cases i with
  | zero=>simp at e;subst e;exact⟨h.1,by simpa using h.2.1⟩
  | succ i =>
   have:=c (kn:=kn++[a.1]) (i:=i) (g:=g) h.2.2 (by simpa using e);refine⟨this.1,λp b=>?_⟩;have q:=this.2 p b
   simpa using q
noncomputable def lP (g:Af×Af×Aa Af):D:=.t [.str g.1,.str g.2.1,.t (g.2.2.map D.str)]
def tY (C:Cel):D:=.t [.t (C.ins.map D.str),.t (C.gates.map lP),.t (C.outs.map D.str)]
structure GC (C:Cel):Prop where
 nd:C.names.Nodup
 gt:rS C.ins C.gates
 os:∀ o∈C.outs,o∈C.names
 ond:C.outs.Nodup
 li:C.ins.length<=40
 lg:C.gates.length<=40
 lo:C.outs.length<=40
theorem kN (I:Aa Sl->Prop) (o:∀ N:Aa Sl->Prop,(∀ g,I g->N g)->t l { j with nx:=N } r) (p:∀ g,I g->u l j g):uD t u l j r:=o _ p
theorem rY (p:Aa D) (l:Aa Sl) (r:∀ J:Aa D->Aa Sl->Prop,J p l->ι I ρ J) (Pv:Nat->Aa Sl->Prop) (T:Pv 0 l)
  (U:∀ (i:Nat) d j,p[i]?=some d->Pv i j->g d j λC=>tb I { nx:=Pv (i+1),ct:=Pv (i+1),bk:=o.nx,rt:=o.rt } C) (hd:∀ j,Pv p.length j->o.nx j):Dj ι g tb I o ρ:=r _ ⟨Pv,T,U,hd⟩
theorem vV {j:Type}{f:j->D}{g:Aa j}{i:Nat}{d:D}(h:(g.map f)[i]?=some d):∃ y,g[i]?=some y/\f y=d:=by
 rw[bH] at h;cases e:g[i]? with
 | none=>rw[e] at h;cases h
 | some y=>rw[e] at h;exact⟨y,rfl,bY h⟩
theorem yO {lo:Int}(h:(pA lo n)[i]?=some d):i<n/\d = .int (lo+i):=by
 unfold pA at h;rw[bH] at h;cases e:(List.range n)[i]? with
 | none=>rw[e] at h;cases h
 | some y =>
  rw[e] at h;obtain⟨a,b⟩:=aV.mp e;rw[dM] at a;rw[List.getElem_range] at b;subst b;exact⟨a,(bY h).symm⟩
theorem Hw:∀ {l:Aa g}{n:Nat}{y:g},l[n]?=some y->l.Perm (y::l.eraseIdx n)
 | a::l,0,y,h=>by simp at h;subst h;exact .refl _
 | a::l,n+1,y,h=>by
  have:=Hw (l:=l) (n:=n) (y:=y) (by simpa using h);rw[eG];exact (this.cons a).trans (.swap y a _)
theorem Ik (f:g->j):∀ (l:Aa g) (n:Nat),(l.map f).eraseIdx n=(l.eraseIdx n).map f
 | [],_=>by simp
 | a::l,0=>rfl
 | a::l,n+1=>by rw[aW,eG,eG,aW,Ik f l n]
theorem Ot {n k:Nat}(h:k<n):seqIndex? (k:Int) n=some k:=by
 unfold seqIndex?;have:¬ ((k:Int)<0):=by omega
 simp[this,h]
end Lw
namespace L2
open PySem PySem.Spec PyProof.Rows Lw
section
variable {X:Cx}{K:kM}
def G0 (K:kM) (neg:Bool):R2:=λx y H Q=>zY neg x y H Q\/Dy K neg x y H Q
theorem C2 (g:X.A.units+64<cLine):lF X (compareOp .Eq) (G0 X.K false):=(show lF X (compareOp .Eq) (zY false) from Mg).or (My g)
theorem Il (g:X.A.units+64<cLine):lF X (compareOp .NotEq) (G0 X.K true):=(show lF X (compareOp .NotEq) (zY true) from By).or (L3 g)
def Vg (neg:Bool):O2:=λd e a=>match d,e with
 | .int i,.int j=>a (.v (.b (nb neg (decide (i=j)))))
 | .str i,.str j=>a (.v (.b (nb neg (decide (i=j)))))
 | .b i,.b j=>a (.v (.b (nb neg (decide (i=j)))))
 | .e,.int _=>a (.v (.b (nb neg false)))
 | .l c,.l []=>a (.v (.b (nb neg c.isEmpty)))
 | _,_=>False
theorem xZ (neg:Bool):oH K (G0 K neg) (Vg neg):=by
 intro B L H d e x y A Q hd h m f k;cases d<;>first | exact False.elim f | skip<;>cases e<;>first | exact False.elim f | skip
 .cases h;cases m
  rename_i j
  have c:decide (V.e=V.int j)=false:=by simp
  exact .inl ⟨rfl,by rw[c];exact k _ _ H f (hd.pushF (.b _))⟩
 .cases h;cases m
  rename_i i j
  have c:decide (V.b i=V.b j)=decide (i=j):=by simp
  exact .inl ⟨rfl,by rw[c];exact k _ _ H f (hd.pushF (.b _))⟩
 .cases h;cases m
  rename_i i j
  have c:decide (V.int i=V.int j)=decide (i=j):=by simp
  exact .inl ⟨rfl,by rw[c];exact k _ _ H f (hd.pushF (.b _))⟩
 .cases h;cases m
  rename_i i j
  have c:decide (V.str i=V.str j)=decide (i=j):=by simp
  exact .inl ⟨rfl,by rw[c];exact k _ _ H f (hd.pushF (.b _))⟩
 .rename_i v w
  cases w with
  | cons _ _=>exact False.elim f
  | nil =>
  obtain⟨a,n,rfl,q,t⟩:=h.lst_inv;obtain⟨b,z,rfl,s,u⟩:=m.lst_inv;cases u;have c:v.isEmpty=n.isEmpty:=by cases t<;>rfl
  refine .inr ⟨a,b,n,rfl,rfl,lG.of q,lG.of s,?_⟩;rw[<- c];exact k _ _ H f (hd.pushF (.b _))
end
end L2
namespace Lw
open PySem L2
theorem Jx (h:g.length<100000):Br (.k g) (.str x) d=some (.k (oG g (Sum.inr x) d)):=by
 simp only[Br,aU h];rfl
end Lw
namespace L2
open PySem PySem.Spec PyProof.Rows Lw
def L6:RM:=λx d H Q=>∃ (a b:Ad) (c more:Aa (gV×V)),x = .ref a/\d=[.ref b]/\a≠b/\H a=some (.k c)/\Rd H b (.k more)/\c.length+more.length<=1000/\Q .e (upd H a (.k (qS c more)))
section
variable {X:Cx}{K:kM}
theorem Qg:E5 X "dict.update" L6:=by
 intro n s g H x W v V Q I G E h;obtain⟨a,b,c,more,rfl,rfl,ne,m,B,P,q⟩:=h;cases G;obtain⟨u,rfl,D⟩:=sZ E;cases D;obtain⟨Y,L,i,t,k⟩:=Iu I.hok m;obtain⟨Z,M,f,y,z⟩:=rP I.hok B;have R:c.length=i.length:=fR t;have S:more.length=f.length:=fR y;have d:i.length+f.length<=sizeLine:=bU (show _<=1000 by omega) (by decide);refine call_meetsIn F.slot_dict_update k.typeIs F.entry_dict_update (F.args_dict_update_2 _ _) (meets_dict_update (oA X.prog X.w) a b ne M) ⟨i,f,k,z,d,λA d1 _ N=>?_⟩;have O:(qS c more).length<=sizeLine:=by
  have:=Eg more c;exact bU (show (qS c more).length<=1000 by omega) (by decide)
 have there:∃ o,A.get? a=some o:=let ⟨o,_,_,e,_⟩:=d1;⟨o,e⟩;exact⟨.e,_,Dh I (by rw[m];exact True.intro) N there (B2 O L (y.merge t) d1),rfl,q⟩
def Ym:OW:=λc d f=>match c,d with
 | .k a,[.k b]=>a.length+b.length<=1000/\f .e (.k (oE a b))
 | _,_=>False
theorem Qm:yL K L6 Ym:=by
 intro A H a c G L M Q w E rd f k;cases c<;>first | exact False.elim f | skip
 cases rd with
 | nil=>exact False.elim f
 | cons B rd =>
 rename_i d _ _ _
 cases d<;>first | exact False.elim f | skip
 cases rd with
 | cons _ _=>exact False.elim f
 | nil =>
 .obtain⟨i,h,e,r⟩:=E
  .obtain⟨b,m,rfl,s,q,n,D⟩:=B.dK_inv;have u:=cH List.length e;have v:=cH List.length n;simp only[aA] at u v;refine⟨a,b,i,m,rfl,rfl,λz=>w (z▸s),h,q,by have:=f.1;omega,k _ _ _ _ f.2 .e λF t=>?_⟩;obtain⟨x,y⟩:=Fb n D e r;exact⟨_,lT,x,y.mono t⟩
theorem Nq:∀ g:Aa (Af×Int),Reps K A H ((g.map λc=>((Sum.inr c.1:gV),D.int c.2)).map (·.2)) ((g.map λc=>((Sum.inr c.1:gV),V.int c.2)).map (·.2))
 | []=>.nil
 | _::g=>.cons (.int _) (Nq g)
theorem Nw:∀ g:Aa Af,Reps K A H (g.map D.str) (g.map V.str)
 | []=>.nil
 | x::g=>.cons (.str x) (Nw g)
end
end L2
namespace PySem
open PyProof.Rows L2
section
theorem Kf (calm:A.handled=none) (l:∀ g e,(∀ b o,s.heap.get? b=some o->g.get? b=some o)->(∃ o,g.get? e=some o/\o.cls = .type "StopIteration")->E (.ref e) { s with heap:=g }) :
  wpAny (model j w) A (do raiseNew (<- newExc (.type "StopIteration") [])) Q E s:=by
 have c:firstArgMember (.type "StopIteration") []=pure Value.none:=by first | rfl | (simp only[firstArgMember];rfl)
 have made:wpAny (model j w) A (newExc (.type "StopIteration") []) (λv d=>∃ e g,v = .ref e/\d={ s with heap:=g }/\(∀ b o,s.heap.get? b=some o->g.get? b=some o)/\∃ o,g.get? e=some o/\o.cls = .type "StopIteration") E s:=by
  unfold newExc newTuple;refine aB (fK ?_ (by size_fits));refine aB (gL c ?_);exact fK ⟨_,_,rfl,rfl,λb o z=>aE _ (aE _ z),_,bL _ rfl,rfl⟩ (by size_fits)
 refine aB (cT made (λv d a=>?_) λ_ _ z=>z);obtain⟨e,g,h,f,k,t⟩:=a;subst h f;unfold raiseNew;refine aB (wpAny_handled ?_);rw[calm];exact aB (aF (wpAny_throw (l g e k t)))
end
structure RawD (h:Heap) (d:Addr) (o:Obj) (es:Array DictEntry) (ep:Nat):Prop where
 low:(d == sysModules)=false
 get:h.get? d=some o
 ex:o.ExactDict
 dat:o.data = .dict es ep
section
variable {s:Ae}
theorem RawD.ty (r:RawD s.heap d o j g):s.TypeIs (.ref d) "dict" := ⟨o,r.get,r.ex.1⟩
theorem Tn (r:RawD s.heap d o l j) (q:Q (.ref s.heap.objs.size) { s with heap:=s.heap.push { cls:=.type "dict_keyiterator",data:=.fields #[.ref d,.int 0 0,.int l.size 0,.int j 0] } }) :
  wpAny (model g w) A (pyIter (.ref d)) Q E s:=by
 have fresh:∀ h:Ag,h=s.heap.push { cls:=.type "dict_keyiterator",data:=.fields #[.ref d,rawInt 0,rawInt l.size,rawInt j] }->Shared.TypeIs { s with heap:=h } (.ref s.heap.objs.size) "dict_keyiterator" := λh e=>by
  subst e;exact⟨_,bL _ rfl,rfl⟩
 have body:wpAny (model g w) A.in1 (Builtin.«dict.__iter__» ⟨[.ref d],[]⟩) (λr c=>r = .done (.ret (.ref s.heap.objs.size))/\c={ s with heap:=s.heap.push { cls:=.type "dict_keyiterator",data:=.fields #[.ref d,rawInt 0,rawInt l.size,rawInt j] } }) E s:=by
  have self:wpAny (model g w) A.in1 (Builtin.Dict.dictSlotNone "__iter__" ⟨[.ref d],[]⟩) (λv c=>v = .ref d/\c=s) E s:=aB (iZ r.ty (aF ⟨rfl,rfl⟩));refine aB (cT self (λv c a=>?_) λ_ _ z=>z);obtain⟨f,i⟩:=a;subst f i;have b:Builtin.Dict.showsAll d=pure ():=by unfold Builtin.Dict.showsAll;simp[r.low]
  refine aB (gL (show Builtin.Dict.addrOf (.ref d)=pure d from rfl) (aB (gL b ?_)));exact aB (gM r.get r.dat (aB (hU r.get r.dat (aB (fK (aF ⟨rfl,rfl⟩))))))
 refine wpAny_pyIter_slot r.ty F.slot_dict_iter (eV F.slot_dict_iter r.ty F.entry_dict_iter (cT body (λv c a=>?_) λ_ _ z=>z) (F.args_dict_iter_1 _));obtain⟨f,i⟩:=a;subst f i;refine⟨_,rfl,"dict_keyiterator",_,fresh _ rfl,eC.lookup,?_⟩;exact q
theorem Yl (r:RawD s.heap d o j p) (I:s.heap.IsKeyIter g d i j.size p) (J:i<j.size) (q:∀ C,C.IsKeyIter g d (i+1) j.size p->Heap.SameBut g s.heap C->Q (some j[i].key) { s with heap:=C }) :
  wpAny (model l w) A (pyNext (.ref g)) Q E s:=by
 obtain⟨u,f,n,h⟩:=id I;have ty:s.TypeIs (.ref g) "dict_keyiterator" := ⟨u,f,n⟩;have plain:Builtin.Dict_items.ownsTuple "dict_keyiterator" = false:=by decide
 have c:∀ {E:Ac->Ae->Prop} {b:Ae} {k:Nat->Ae->Prop},b.TypeIs (.ref g) "dict_keyiterator" -> k 0 b->wpAny (model l w) A.in1 (do return if Builtin.Dict_items.ownsTuple (<- typeNameOfWhole (.ref g)) then 2 else 0) k E b:=λt z =>
  aB (wpAny_typeNameOfWhole_keyiter t (by rw[plain];exact aF z))
 let e:=s.heap.update g (Obj.mapFields (·.setIfInBounds 1 (rawInt ((i:Int)+1))));have m:e.IsKeyIter g d (i+1) j.size p:=by
  refine⟨_,cV _ f (eQ (dP h _)),?_,?_⟩
  .rw[Obj.cls_mapFields];exact n
  .rw[dP h];simp[rawInt]
 have body:wpAny (model l w) A.in1 (Builtin.«dict_keyiterator.__next__» ⟨[.ref g],[]⟩) (λx b=>x = .done (.ret j[i].key)/\b={ s with heap:=e }) (λ_ _=>False) s:=by
  refine aB (aF ?_);refine aB (aB (c ty ?_));refine aB (jR f h ?_);have a:¬ ((Value.ref d == Value.none)=true):=bM;show wpAny _ _ (if (Value.ref d == Value.none)=true then _ else _) _ _ s;rw[aL a];refine aB (aF (aB (gM r.get r.dat ?_)));rw[aL (by simp)];refine aB (aF (aB (hU r.get r.dat ?_)));rw[aL (by simp)];refine aF ?_;have row:(if (i:Int)<0 then none else j[(i:Int).toNat]?)=some j[i]:=by
   rw[aL (by omega),eJ,dU J]
  dsimp only;rw[row];refine aB (c ty ?_);refine aB (wpAny_isOneOf_keyiter ty ?_);change wpAny _ _ (setField (.ref g) 1 (rawInt ((i:Int)+1)) >>= _) _ _ s;refine aB (iT f h (by simp) ?_);refine aB (cW (aB (wpAny_isOneOf_keyiter (s:={ s with heap:=e }) m.typeIs ?_)));exact aF (aF ⟨rfl,rfl⟩)
 unfold pyNext;refine aB (fX (gU (name:=Str.ofString "__next__") ty eC (eV eC ty F.entry_dict_keyiterator_next (cT body (λx b ⟨v,y⟩=>?_) λ_ _ z=>z.elim) (F.args_dict_keyiterator_next_1 _))));subst v y;exact⟨_,rfl,aF (q e m (Heap.SameBut.update ..))⟩
theorem Z4 (calm:A.handled=none) (r:RawD s.heap d o p C) (I:s.heap.IsKeyIter l d p.size p.size C) (q:∀ g,Heap.ExtBut l s.heap g->Q none { s with heap:=g }) :
  wpAny (model j w) A (pyNext (.ref l)) Q E s:=by
 obtain⟨u,h,M,m⟩:=id I;have ty:s.TypeIs (.ref l) "dict_keyiterator" := ⟨u,h,M⟩;have plain:Builtin.Dict_items.ownsTuple "dict_keyiterator" = false:=by decide
 have f:∀ {n:Ac->Ae->Prop} {c:Ae} {i:Nat->Ae->Prop},c.TypeIs (.ref l) "dict_keyiterator" -> i 0 c->wpAny (model j w) A.in1 (do return if Builtin.Dict_items.ownsTuple (<- typeNameOfWhole (.ref l)) then 2 else 0) i n c:=λt z =>
  aB (wpAny_typeNameOfWhole_keyiter t (by rw[plain];exact aF z))
 have body:wpAny (model j w) A.in1 (Builtin.«dict_keyiterator.__next__» ⟨[.ref l],[]⟩) (λ_ _=>False) (λv c=>∃ e g,v = .ref e/\c={ s with heap:=g }/\Heap.ExtBut l s.heap g/\∃ o,g.get? e=some o/\o.cls = .type "StopIteration") s:=by
  refine aB (aF ?_);refine aB (aB (f ty ?_));refine aB (jR h m ?_);have a:¬ ((Value.ref d == Value.none)=true):=bM;show wpAny _ _ (if (Value.ref d == Value.none)=true then _ else _) _ _ s;rw[aL a];refine aB (aF (aB (gM r.get r.dat ?_)));rw[aL (by simp)];refine aB (aF (aB (hU r.get r.dat ?_)));rw[aL (by simp)];refine aF ?_;have row:(if ((p.size:Nat):Int)<0 then none else p[((p.size:Nat):Int).toNat]?)=none:=by
   rw[aL (by omega),eJ,iU (bD _)]
  dsimp only;rw[row];refine aB (f ty (aB (iT h m (by simp) ?_)));exact Kf calm λg e k z=>⟨e,g,rfl,rfl,λx o L K=>k x o ((Heap.SameBut.update ..).extBut x o L K),z⟩
 unfold pyNext;refine aB (fX (gU (name:=Str.ofString "__next__") ty eC (eV eC ty F.entry_dict_keyiterator_next (cT body (λ_ _ z=>z.elim) λv c ⟨e,g,y,B,D,o,G,H⟩=>?_) (F.args_dict_keyiterator_next_1 _))));subst y B;exact aB (jE (T := "StopIteration") (b:=true) ⟨o,G,H⟩ isSubtype_stop (aF (q g D)))
end
end PySem
namespace L2
open PySem PySem.Spec PyProof.Rows Lw
abbrev MK:=gV ⊕ Aa gV
def Iv (H:Hp):MK->V->Prop
 | .inl k,y=>y=kV k
 | .inr a,y=>∃ b,y = .ref b/\H b=some (.t (a.map kV))
def L4 (H:Hp):MK->Ac->Prop
 | .inl k,u=>kR (kV k) u
 | .inr a,u=>∃ b,u = .ref b/\H b=some (.t (a.map kV))
def qD:HO->Ab (Aa MK)
 | .T a=>some (a.map λp=>Sum.inr p.1)
 | .k a=>some (a.map λp=>Sum.inl p.1)
 | _=>none
def FE:HO->Bool
 | .T _=>true
 | .k _=>true
 | .frz _ (.T _)=>true
 | .frz _ (.k _)=>true
 | _=>false
structure Sw (H H':Hp) (a:Addr) (u:HO):Prop where
 out:∀ b,b≠a->H' b=H b
 k:(qD u).isSome=true
 l:Rd H a u
 r:Rd H' a u
section
theorem Sw.get (s:Sw H j a u) (h:H b=some g) (n:FE g=false:=by rfl):j b=some g:=by
 have ne:b≠a:=λz=>by
  subst z;have k:=s.k;rcases s.l with q | ⟨o,q⟩<;>rw[q] at h<;>cases h<;>cases u<;>first | (cases n;done) | (cases k;done)
 rw[s.out b ne];exact h
theorem Sw.rd (s:Sw H g a u) (j:(qD x).isSome=true) (h:Rd H b x):Rd g b x:=by
 by_cases e:b=a
 .subst e;have:x=u:=by
   have k:=s.k;rcases h with h | ⟨o,h⟩<;>rcases s.l with q | ⟨c,q⟩<;>rw[q] at h<;>cases h<;>first | rfl | (cases j;done) | (cases k;done)
  rw[this];exact s.r
 .rcases h with h | ⟨o,h⟩
  .exact .inl (by rw[s.out b e];exact h)
  .exact .inr ⟨o,by rw[s.out b e];exact h⟩
theorem Sw.sqF {K:kM}(s:Sw H g a u) (h:uH K H b j):uH K g b j:=by
 rcases h with⟨o,h⟩ | h
 .exact .inl ⟨o,s.get h⟩
 .exact .inr h
variable {K:kM}
theorem Rep.sw (s:Sw H j a u) (o:∀ b,A b->g b) (h:Rep K A H d v):Rep K g j d v :=
 Rep.rec (motive_1:=λd v _=>Rep K g j d v) (motive_2:=λi m _=>Reps K g j i m) .e .b .int .str .r (λh _ r=>.t (s.get h) r) (λh _ r=>.con h r)
  (λf h _ r=>.l (o _ f) (s.get h) r) (λh _ r=>.c (s.sqF h) r) (λf h e _ r=>.k (o _ f) (s.rd rfl h) e r) (λf h e _ r=>.T (o _ f) (s.rd rfl h) e r) .nil (λ_ _ h r=>.cons h r) h
theorem Reps.sw (s:Sw H p a u) (C:∀ b,A b->o b) (h:Reps K A H j l):Reps K o p j l:=by
 induction j generalizing l with
 | nil=>cases h;exact .nil
 | cons d j c=>cases h with | cons g r=>exact .cons (g.sw s C) (c r)
theorem nY.sw (s:Sw H o a u) (g:∀ b,A b->j b) (ne:b≠a) (h:nY K A H b d):nY K j o b d:=by
 cases d with
 | l _=>obtain⟨c,h,r⟩:=h;exact⟨c,by rw[s.out b ne];exact h,r.sw s g⟩
 | k _=>obtain⟨c,h,e,r⟩:=h;exact⟨c,by rw[s.out b ne];exact h,e,r.sw s g⟩
 | T _=>obtain⟨c,h,e,r⟩:=h;exact⟨c,by rw[s.out b ne];exact h,e,r.sw s g⟩
 | _=>exact False.elim h
theorem qY.sw (s:Sw H l a u) (g:∀ b,A b->j b) (ne:∀ b,xW (x,y)=some b->b≠a) (h:qY K A H x y):qY K j l x y:=by
 cases x with
 | n=>trivial
 | v d=>obtain⟨v,e,r⟩:=h;exact⟨v,e,r.sw s g⟩
 | o d=>obtain⟨b,e,r⟩:=h;subst e;exact⟨b,rfl,r.sw s g (ne b rfl)⟩
noncomputable def nK (B:Bs) (a:Ad) (o:Obj) (u:HO):Bs:=⟨B.dk,λb=>B.A0 b\/b=a,λb=>if b=a then some (.frz o u) else B.H0 b⟩
theorem DS.fz (h:DS K B L H) (s:Sw H g a u) (j:g a=some (.frz o u)) (al:Al B (hH L) a):DS K (nK B a o u) L g:=by
 refine⟨λb m e n=>?_,h.dk.keep λb c=>s.out b λz=>al.1 (z▸c),h.nd,λb c=>?_,λp d=>?_⟩
 .by_cases z:b=a
  .subst z;rw[show (nK B b o u).H0 b=some (.frz o u) from aU rfl] at e;rw[j];exact e
  .rw[show (nK B a o u).H0 b=B.H0 b from aL z] at e;rw[s.out b z];exact h.fr b m e n
 .have z:b≠a:=λz=>al.2.1 (z▸c)
  rw[show (nK B a o u).H0 b=B.H0 b from aL z];exact h.new b c
 .refine (h.ok p d).sw s (λb ⟨f,i,k⟩=>⟨f,i,?_⟩) λb c z=>al.2.1 (rV.mpr ⟨p,d,z▸c⟩)
  by_cases z:b=a
  .exact .inl (.inr z)
  .refine k.elim (λq=>.inl (.inl q)) λq=>.inr ?_
   rw[show (nK B a o u).H0 b=B.H0 b from aL z];exact q
theorem DS.known (h:DS K (nK B a o u) L H) (g:a∉B.dk):H a=some (.frz o u):=h.fr a _ (aU rfl) g
theorem DS.th (h:DS K (nK B a o u) L H) (s:Sw H j a u) (C:a∉B.dk) (l:∀ g,B.H0 a=some g->j a=some g) (r:B.A0 a\/B.H0 a=none):DS K B L j:=by
 have f:∀ b∈hH L,b≠a:=λb c z=>by
  have:=(h.new b c).1;rw[z,show (nK B a o u).H0 a=some (.frz o u) from aU rfl] at this;cases this
 refine⟨λb g e n=>?_,h.dk.keep λb c=>s.out b λz=>C (z▸c),h.nd,λb c=>?_,λp d=>?_⟩
 .by_cases z:b=a
  .subst z;exact l g e
  .rw[s.out b z];exact h.fr b g (by rw[show (nK B a o u).H0 b=B.H0 b from aL z];exact e) n
 .have:=h.new b c;rw[show (nK B a o u).H0 b=B.H0 b from aL (f b c)] at this;exact this
 .refine (h.ok p d).sw s (λb ⟨i,k,m⟩=>⟨i,k,?_⟩) λb c z=>f b (rV.mpr ⟨p,d,c⟩) z
  by_cases z:b=a
  .rw[z];exact r
  .refine m.elim (λq=>.inl (q.resolve_right z)) λq=>.inr ?_
   rw[show (nK B a o u).H0 b=B.H0 b from aL z] at q;exact q
end
section
variable {X:Cx}
theorem Inv.swapped (I:Inv X j C H s) (sw:Sw H g a u) (r:∀ o u,X.H₀ a≠some (.frz o u)) (ok:nB X.prog X.w g s.heap a u->∀ v,g a=some v->nB X.prog X.w g s.heap a v):Inv X j C g s:=by
 have d:∀ b,H b=none->g b=none:=λb e=>by
  rw[sw.out b λz=>by subst z;rcases sw.l with q | ⟨o,q⟩<;>rw[q] at e<;>cases e];exact e
 have tup_at:∀ b h,H b=some (.t h)->g b=some (.t h):=λb h e=>sw.get e
 have f:∀ b y,H b=some (.o y)->g b=some (.o y):=λb h e=>sw.get e
 refine⟨I.ok,I.os,I.bare,⟨I.base.keep,I.base.slot,λb u e n x=>d b (I.base.free b u e n x),I.base.there,λb h e=>tup_at b h (I.base.tups b h e),λb i u e=>?_,λb m e=>?_⟩,I.loc,I.cell,d _ I.free,λx c e=>d c (I.freeC x c e),λp k=>?_,λb v e=>?_,I.len⟩
 .have ne:b≠a:=λz=>r i u (z▸e)
  rw[sw.out b ne];exact I.base.frzs b i u e
 .obtain⟨more,q⟩:=I.base.tbls b m e;exact⟨more,sw.get q⟩
 .obtain⟨A,B,D⟩:=I.pin p k;exact⟨A,d _ B,D⟩
 .by_cases z:b=a
  .subst z;have base:nB X.prog X.w H s.heap b u:=sw.l.ok I.hok;exact ok (base.stay (λ_ _ _ q=>q) (λc q=>f c _ q) tup_at) v e
  .rw[sw.out b z] at e;exact (I.hok b v e).stay (λ_ _ _ q=>q) (λc q=>f c _ q) tup_at
theorem Inv.no_frz (I:Inv X j p H s) (o:(qD u).isSome=true) (l:H a=some u):∀ g v,X.H₀ a≠some (.frz g v):=λg v e=>by
 have:=I.base.frzs a g v e;rw[l] at this;cases this;cases o
theorem Inv.frozen (I:Inv X g r H s) (l:(qD u).isSome=true) (j:H a=some u) (p:s.heap.get? a=some o):Inv X g r (upd H a (.frz o u)) s:=by
 refine I.swapped ⟨λb n=>kX n,l,.inl j,.inr ⟨o,lT⟩⟩ (I.no_frz l j) λq v e=>?_
 rw[lT] at e;cases e;exact⟨p,q⟩
theorem Inv.thawed (I:Inv X g r H s) (p:(qD u).isSome=true) (l:H a=some (.frz o u)) (j:∀ o u,X.H₀ a≠some (.frz o u)):Inv X g r (upd H a u) s:=by
 refine I.swapped ⟨λb n=>kX n,p,.inr ⟨o,l⟩,.inl lT⟩ j λq v e=>?_
 rw[lT] at e;cases e;exact q
end
theorem Pd {P:Ah}(g:(qD u).isSome=true) (ok:nB P w H h a u):∃ o,h.get? a=some o:=by
 cases u<;>first | (cases g;done) | (obtain⟨_,_,_,_,o,_,_,e,_⟩:=ok;exact⟨o,e⟩)
def vS (a:Ad) (o:Obj) (u:HO) (g:Aa MK):It :=
 ⟨λi H=>H a=some (.frz o u)/\i<g.length,λi H x b=>b=H/\∃ k,g[i]?=some k/\Iv H k x,λi H=>H a=some (.frz o u)/\i=g.length⟩
theorem Dz {F:l->o->Prop}:∀ {g:Aa l}{j:Aa o}{i:Nat}{a:l},Paired F g j->g[i]?=some a->∃ b,j[i]?=some b/\F a b
 | _,_,_,_,.nil,h=>by simp at h
 | _,_,0,_,.cons x r,h=>by simp at h;subst h;exact⟨_,by simp,x⟩
 | _,_,i+1,a,.cons x r,h=>by
  obtain⟨b,c,d⟩:=Dz (i:=i) r (by simpa using h);exact⟨b,by simpa using c,d⟩
theorem FW (h:L4 H k u):∃ y,Iv H k y/\kR y u:=by
 rcases k with k | c
 .exact⟨kV k,rfl,h⟩
 .obtain⟨b,rfl,a⟩:=h;exact⟨.ref b,⟨b,rfl,a⟩,rfl⟩
theorem Q9 (h:wO k v=true):kR (kV k) v:=by
 rcases uK h with⟨i,t,rfl,rfl⟩ | ⟨x,t,rfl,rfl⟩
 .exact⟨t,rfl⟩
 .exact⟨t,rfl⟩
theorem P7 {P:Ah}:∀ {g:Aa DictEntry}{j:Aa (gV×Ac)},Pairs (oA P w) g j->g.length=j.length/\∀ (i:Nat) e q,g[i]?=some e->j[i]?=some q->wO q.1 e.key=true/\e.val=q.2:=by
 intro g;induction g with
 | nil=>intro j h;cases h;exact⟨rfl,λi e q h=>by cases h⟩
 | cons a g m =>
  intro j h;cases h with
  | cons d f k =>
   obtain⟨n,s⟩:=m k;refine⟨cH (·+1) n,λi e q b c=>?_⟩;cases i with
   | zero=>cases b;cases c;exact⟨d,f⟩
   | succ i=>exact s i e q b c
theorem Fl {P:Ah}(ok:nA P w H h) (l:qD u=some I) (C:H a=some (.frz o u)) :
  ∃ g p,RawD h a o g p/\g.size=I.length/\∀ (i:Nat) (j:i<g.size),∃ k,I[i]?=some k/\L4 H k g[i].key:=by
 have f:∀ {g:Array DictEntry} {i:Nat} {e:DictEntry} (j:i<g.size),g.toList[i]?=some e->g[i]=e:=λ{g i e} j h=>by
  rw[eP,dU j] at h;exact bY h
 cases u with
 | T b =>
  cases l;obtain⟨c,z,lo,K,r,E,g,p,d,m,n,s,_⟩:=(show nB P w H h a (.frz o (.T _)) from ok a _ C);rw[c] at d;cases d;have D:=fR r;have x:g.size=K.length:=by simpa using cH List.length s
  refine⟨g,p,⟨lo,c,m,n⟩,by rw[aA];omega,λi j=>?_⟩;obtain⟨q,t,y,F,L⟩:=Dz r (aJ (show i<_ by omega));refine⟨_,by rw[bH,aJ (show i<_ by omega)];rfl,?_⟩;rw[f j (by rw[s,bH,t];rfl)];exact⟨_,rfl,F⟩
 | k b =>
  cases l;obtain⟨c,z,lo,G,r,E,g,p,d,m,n,s,A,_⟩:=(show nB P w H h a (.frz o (.k b)) from ok a _ C);rw[c] at d;cases d;have D:b.length=G.length:=fR r;obtain⟨x,v⟩:=P7 A;rw[fQ] at x;refine⟨g,p,⟨lo,c,m,n⟩,by rw[aA];omega,λi j=>?_⟩;have l:i<b.length:=by omega
  obtain⟨q,t,y,_⟩:=Dz r (aJ l);obtain⟨B,_⟩:=v i g[i] q (by rw[eP,dU j]) t;refine⟨Sum.inl b[i].1,by rw[bH,aJ l];rfl,?_⟩;show kR (kV b[i].1) g[i].key;rw[y];exact Q9 B
 | _=>cases l
theorem V5 {P:Ah}{K:kM}(a j:Ad) (o:Obj) (p:qD u=some C):Turn P w K tg (vS a o u C) [j] j (λi h=>∃ g,(∃ l,o.data = .dict l g)/\h.IsKeyIter j a i C.length g) where
 mem:=by simp
 obj:=λi h st b n=>by
  have e:b=j:=by simpa using n
  subst e;obtain⟨_,_,o,e,c,d⟩:=st;exact⟨o,e,λv z=>by rw[d] at z;cases z⟩
 keep:=λi h A ⟨g,q,o,e,r⟩ k=>⟨g,q,o,k j (by simp) o e,r⟩
 item:=by
  intro X O hw N V i m s W H E I B st R;subst O hw N;obtain⟨g,⟨D,t⟩,st⟩:=st;obtain⟨Q,S⟩:=R;obtain⟨l,f,raw,sz,rows⟩:=Fl I.hok p Q;have:f=g:=by have:=raw.dat;rw[t] at this;cases this;rfl
  subst this;rw[<- sz] at st S;obtain⟨k,J,T⟩:=rows i S;obtain⟨y,U,k4⟩:=FW T;obtain⟨F,f1,f2,G,L,M⟩:=B j (by simp);refine Yl raw st S λA x sb=>?_
  have Y:Inv X m W H { s with heap:=A }:=I.turned (t':=s.toks) (λb o n e=>(sb.2 b n).trans e) F f1 G L M;rw[sz] at x;obtain⟨oi,e,c,d⟩:=id x;exact⟨_,rfl,Bk (s:={ s with heap:=A }) e c d (by decide) ⟨y,H,Y,k4,⟨rfl,k,J,U⟩,⟨f,⟨l,raw.dat⟩,x⟩,λb n=>(B b n).1⟩⟩
 done:=by
  intro X O hw N V i m s W H E I B st R;subst O hw N;obtain⟨g,⟨D,t⟩,st⟩:=st;obtain⟨Q,rfl⟩:=R;obtain⟨l,f,raw,sz,rows⟩:=Fl I.hok p Q;have:f=g:=by have:=raw.dat;rw[t] at this;cases this;rfl
  subst this;rw[<- sz] at st;obtain⟨F,f1,f2,G,L,M⟩:=B j (by simp);exact Z4 (I.ok.hd V) raw st λA Z=>⟨rfl,I.turned (t':=s.toks) (λb o n e=>Z b o n e) F f1 G L M⟩
 self:=λ_ _ _ _ _ ⟨_,_,st⟩ h=>wpAny_pyIter_keyiter st h
noncomputable def xJ:gV->D
 | .inl i=>.int i
 | .inr x=>.str x
theorem Fq {K:kM}:∀ k:Aa gV,Reps K A H (k.map xJ) (k.map kV)
 | []=>.nil
 | .inl i::k=>.cons (.int i) (Fq k)
 | .inr x::k=>.cons (.str x) (Fq k)
def Hc (g:Aa (Aa gV×D)):Aa D:=g.map λp=>.t (p.1.map xJ)
def uB:MK->D
 | .inl k=>xJ k
 | .inr a=>.t (a.map xJ)
theorem Tu {K:kM}:∀ {k:MK}{y:V},Iv H k y->Rep K A H (uB k) y
 | .inl (.inl i),_,rfl=>.int i
 | .inl (.inr x),_,rfl=>.str x
 | .inr c,_,⟨b,rfl,a⟩=>.t a (Fq c)
def Bv (g:Aa (gV×D)):Aa D:=g.map λp=>xJ p.1
def F3:D->Ab (Aa D)
 | .T a=>some (Hc a)
 | .k a=>some (Bv a)
 | _=>none
structure YS (K:kM) (J:It) (ds:List D) (S:Hp->Prop):Prop where
 go:∀ i H,i<ds.length->S H->J.go i H
 yld:∀ i H x H',i<ds.length->S H->J.yld i H x H'->∃ d,ds[i]?=some d/\H'=H/\∀ A,Rep K A H d x
 stop:∀ i H,i=ds.length->S H->J.stop i H
def Ul (g:lL):uT:=λb f e=>g b f λr a=>match r with
 | .v d=>match F3 d with
  | some c=>e c a
  | none=>False
 | _=>False
def Xb (X:Cx) (g:TE):TI:=λe H R=>g e H λx b=>∃ a u c,qD u=some c/\x = .ref a/\((b a=some u/\∀ o,(∀ d u,X.H₀ a≠some (.frz d u))->R (vS a o u c) (upd b a (.frz o u)))\/∃ o,b a=some (.frz o u)/\R (vS a o u c) b)
section
variable {X:Cx}
theorem U0 (g:PE X l j):PI X p l (Xb X j):=by
 intro c s z H R I h;refine kT (g c s z H _ I h) λv i w=>?_
 obtain⟨x,K,k,G,a,u,y,n,e,alt⟩:=w;subst e;cases G;have t:(qD u).isSome=true:=by rw[n];rfl
 obtain⟨o,f,m,d,q⟩:∃ o f,Inv X c z f i/\f a=some (.frz o u)/\R (vS a o u y) f:=by
  rcases alt with⟨d,q⟩ | ⟨o,d,q⟩
  .obtain⟨o,F⟩:=Pd t (k.hok a _ d);exact⟨o,_,k.frozen t d F,lT,q o (k.no_frz t d)⟩
  .exact⟨o,_,k,d,q⟩
 obtain⟨B,A,raw,sz,_⟩:=Fl m.hok n d;have D:∀ b∈[i.heap.objs.size],rH X c f b:=λb E=>by
  have e:b=i.heap.objs.size:=by simpa using E
  subst e;exact m.fpOk (bD _) (m.hok.fresh (bD _))
 refine Tn raw ⟨i.heap.objs.size,[i.heap.objs.size],_,vS a o u y,f,rfl,m.kept (t':=i.toks) λb L q=>aE _ q,V5 a _ o n,⟨A,⟨B,raw.dat⟩,?_⟩,D,q⟩;exact⟨_,bL _ rfl,rfl,by rw[sz];rfl⟩
def thawQ (X:Cx) (Q:Hp->Prop) (H:Hp):Prop:=Q H\/∃ a o u,(qD u).isSome=true/\H a=some (.frz o u)/\(∀ b u,X.H₀ a≠some (.frz b u))/\Q (upd H a u)
theorem Inv.thawQ (I:Inv X g l H s) (h:L2.thawQ X Q H):∃ j,Inv X g l j s/\Q j:=by
 rcases h with h | ⟨a,o,u,d,c,b,h⟩
 .exact⟨H,I,h⟩
 .exact⟨_,I.thawed d c b,h⟩
theorem Wi (h:PE X e t):PE X e (λg H Q=>t g H λv=>thawQ X (Q v)):=λa s g H Q I q=>by
 refine kT (h a s g H _ I q) λv u b=>?_
 obtain⟨x,n,d,m,i⟩:=b;obtain⟨c,f,k⟩:=d.thawQ i;exact⟨x,c,f,m,k⟩
def Ends.thawQ (X:Cx) (D:Ends):Ends where
 nx:=λa=>L2.thawQ X (D.nx a)
 rt:=λv=>L2.thawQ X (D.rt v)
 bk:=λa=>L2.thawQ X (D.bk a)
 ct:=λa=>L2.thawQ X (D.ct a)
theorem S9 {st:Stmt}(h:PS X st t):PS X st (λD g H=>t (D.thawQ X) g H):=λi s g H D I q=>by
 refine kT (h i s g H _ I q) λf n q=>?_
 cases f with
 | next=>obtain⟨a,k,b,d⟩:=q;obtain⟨m,c,e⟩:=b.thawQ d;exact⟨a,_,c,e⟩
 | brk=>obtain⟨a,k,b,d⟩:=q;obtain⟨m,c,e⟩:=b.thawQ d;exact⟨a,_,c,e⟩
 | cont=>obtain⟨a,k,b,d⟩:=q;obtain⟨m,c,e⟩:=b.thawQ d;exact⟨a,_,c,e⟩
 | ret u=>obtain⟨v,a,k,b,r,d⟩:=q;obtain⟨m,c,e⟩:=b.thawQ d;exact⟨v,a,_,c,r,e⟩
theorem Vk {K:kM}:YS K (vS a o u ks) (ks.map uB) λH=>H a=some (.frz o u):=by
 refine⟨λi H b c=>⟨c,by rw[aA] at b;exact b⟩,?_,λi H b c=>⟨c,by rw[b,aA]⟩⟩;rintro i H x f b c ⟨rfl,k,d,e⟩;exact⟨uB k,by rw[bH,d];rfl,rfl,λA=>Tu e⟩
theorem DS.known2 {K:kM}(d:DS K B (L++(.v c,some v)::T) H) (p:F3 c=some r) :
  ∃ a u l,v = .ref a/\qD u=some l/\r=l.map uB/\a∉B.dk /\
   ((H a=some u/\∀ o,DS K (nK B a o u) (L++T) (upd H a (.frz o u))/\∀ j g,DS K (nK B a o u) j g->DS K B j (upd g a u)) \/ ∃ o,H a=some (.frz o u)/\DS K (nK B a o u) (L++T) H/\∀ j g,DS K (nK B a o u) j g->DS K B j g):=by
 have hd:=d.drop;have rep:=d.valAt;obtain⟨a,u,l,rfl,al,rd,y,q⟩:∃ a u l,v = .ref a/\Al B (hH (L++T)) a/\Rd H a u/\qD u=some l/\r=l.map uB:=by
  cases c with
  | T f =>
   cases p;obtain⟨a,x,rfl,al,rd,q,_⟩:=rep.dT_inv;refine⟨a,_,_,rfl,al,rd,rfl,?_⟩;have e:Hc f=(f.map (·.1)).map λk=>D.t (k.map xJ):=by unfold Hc;rw[List.map_map];rfl
   rw[e,q,aP,aP];rfl
  | k f =>
   cases p;obtain⟨a,x,rfl,al,rd,q,_⟩:=rep.dK_inv;refine⟨a,_,_,rfl,al,rd,rfl,?_⟩;have e:Bv f=(f.map (·.1)).map xJ:=by unfold Bv;rw[List.map_map];rfl
   rw[e,q,aP,aP];rfl
  | _=>cases p
 have h:=al.1;have w:(qD u).isSome=true:=by rw[y];rfl
 refine⟨a,u,l,rfl,y,q,h,?_⟩;rcases rd with i | ⟨s,i⟩
 .refine .inl ⟨i,λo=>⟨hd.fz (o:=o) ⟨λb n=>kX n,w,.inl i,.inr ⟨o,lT⟩⟩ lT al,λj g m=>m.th ⟨λb n=>kX n,w,.inr ⟨o,m.known h⟩,.inl lT⟩ h (λu e=>?_) al.2.2⟩⟩;have:=hd.fr a u e h;rw[i] at this;rw[lT];exact this
 .refine .inr ⟨s,i,hd.fz ⟨λ_ _=>rfl,w,.inr ⟨s,i⟩,.inr ⟨s,i⟩⟩ i al,λj g m=>m.th ⟨λ_ _=>rfl,w,.inr ⟨s,m.known h⟩,.inr ⟨s,m.known h⟩⟩ h (λu e=>?_) al.2.2⟩;have:=hd.fr a u e h;rw[i] at this;rw[m.known h];exact this
theorem CZ {K:kM}{B:Bs}{a D:Ad}{o:Obj}{u:HO}{p:Aa V}{L:mY}{H g:Hp}(r:a∉B.dk) (j:g a=some (.frz o u)) (C:g D=none) (d:DS K (mD (nK B a o u) D p) L H):H a=some (.frz o u):=by
 have ne:a≠D:=λz=>by rw[z,C] at j;cases j
 refine d.fr a _ ?_ r;show (if a=D then some (.l p) else if a=a then some (HO.frz o u) else B.H0 a)=_;rw[aL ne,aU rfl]
theorem Xg {iter:Expr}(hp:PassesOwn (model X.prog X.w) X.A X.env X.xe) (j:X.calm=true) (hi:PD X iter ti) (hg:uA X m tg g) (hb:oM X body tb)
  (C:∀ x,foldedSetIterable iter X.env x=pure x:=by intro _;rfl):rL X (.For tg iter body [] pos) (Dj (Ul ti) g tb) :=
 (S9 (Bc hp j (U0 hi) hg hb C)).mono λDn l H ab=>ab.elim λB ρ T De hl hd ht I=>by
  refine⟨B,ρ,T,_,hl,hd,ht,λr Z v H1 l1 d1 P=>?_⟩;cases r<;>first | exact False.elim P | skip
  rename_i c
  dsimp only at P;cases j:F3 c with
  | none=>rw[j] at P;exact False.elim P
  | some kd =>
   rw[j] at P;obtain⟨Pv,p0,step,fin⟩:=P;obtain⟨a,u,E,rfl,Q,rfl,dn,alt⟩:=d1.known2 j;have C:(qD u).isSome=true:=by rw[Q];rfl
   have Y:∀ o,_:=λo=>Vk (K:=X.K) (a:=a) (o:=o) (u:=u) (ks:=E)
   have G:∀ (o:Obj) (q:Ends) (F:Hp),DS X.K (nK B a o u) (Z.zip l++T) F->(∀ (e:Aa Sl) (b:St) (f:Hp),e.length=b.length->b.length=l.length->DS X.K (nK B a o u) (e.zip b++T) f->De.nx e->q.nx b f) ->
     (∀ (r:Sl) (v:V) (e:Aa Sl) (b:St) (f:Hp),e.length=b.length->DS X.K (nK B a o u) (e.zip b++(r,some v)::T) f->De.rt r->q.rt v f) ->
     ∃ W:Nat->Nat->St->Hp->Prop,(∃ m,W 0 m l F)/\∀ i n b f,W i n b f->((vS a o u E).stop i f/\q.nx b f)\/((vS a o u E).go i f/\∃ N:St->Hp->Prop,(∀ L t,N L t->∃ m',m'<n/\W (i+1) m' L t)/\∀ x t,(vS a o u E).yld i f x t->dG X.K m g x b t λk H3=>dS X.K tb { nx:=N,ct:=N,bk:=q.nx,rt:=q.rt } k H3):=λo q F d0 S ac=>by
    refine⟨λi m b f=>m=(E.map uB).length-i/\i<=(E.map uB).length/\∃ e,e.length=b.length/\b.length=l.length/\DS X.K (nK B a o u) (e.zip b++T) f/\Pv i e,⟨_,rfl,fV _,Z,l1,rfl,d0,p0⟩,?_⟩;rintro i m b f ⟨rfl,ae,e,m1,m2,U,pv⟩;have Q:=U.known dn;by_cases M:i<(E.map uB).length
    .refine .inr ⟨(Y o).go i f M Q,λk F=>∃ h,h.length=k.length/\k.length=l.length/\DS X.K (nK B a o u) (h.zip k++T) F/\Pv (i+1) h,λk F ⟨h,q1,q2,q3,q4⟩=>⟨_,(by omega:(E.map uB).length-(i+1)<_),rfl,M,h,q1,q2,q3,q4⟩,λx F y=>?_⟩;obtain⟨d,aa,rfl,rx⟩:=(Y o).yld i f x F M Q y;refine⟨nK B a o u,e,T,d,_,m1,U.push (rx _),step i d e aa pv,λh k H3 n1 n2 _ d3 q3=>⟨nK B a o u,h,T,_,n1,d3,q3,?_,?_⟩⟩
     .intro D O J s p R;exact⟨λz=>⟨D,s,by omega,R,z⟩,λz=>S D O J s (by omega) R z,λz=>⟨D,s,by omega,R,z⟩⟩
     .exact λr v D O J s R z=>ac r v D O J s R z
    .have ei:i=(E.map uB).length:=by omega
     subst ei;exact .inl ⟨(Y o).stop _ f rfl Q,S e b f m1 m2 U (fin e pv)⟩
   refine⟨a,u,E,Q,rfl,?_⟩;rcases alt with⟨ha,hh⟩ | ⟨o,ha,d2,back⟩
   .refine .inl ⟨ha,λo h0=>?_⟩;obtain⟨d2,back⟩:=hh o;exact G o _ _ d2 (λe b f s p d z=>.inr ⟨a,o,u,C,d.known dn,h0,(I.1 e b _ s p (back _ _ d)).1 z⟩) λr v e b f s d z=>.inr ⟨a,o,u,C,d.known dn,h0,I.2 r v e b _ s (back _ _ d) z⟩
   .exact .inr ⟨o,ha,G o _ _ d2 (λe b f s p d z=>.inl ((I.1 e b _ s p (back _ _ d)).1 z)) λr v e b f s d z=>.inl (I.2 r v e b _ s (back _ _ d) z)⟩
end
section
variable {X:Cx}{K:kM}
def vo (i:Nat):lL:=λ_ a b=>match a[i]? with
 | some (.o d)=>b (.o d) (a.set i .n)
 | _=>False
theorem Ks (i:Nat) (h:PE X (.Name x pos) (pP i)):PD X (.Name x pos) (vo i):=h.mono λG H Q q=>q.elim λB E T F m hd c k=>by
 unfold vo at c;cases f:E[i]? with
 | none=>rw[f] at c;exact False.elim c
 | some s =>
 rw[f] at c;cases s<;>first | exact False.elim c | skip
 .rename_i d
  obtain⟨a,y,b,t,_,z,e⟩:=uJ m f;have u:=e .n y;rw[yZ t] at u;obtain⟨v,w,_⟩:=hd.peek m (d:=d) (i:=i) (by unfold at?;rw[f];rfl);rw[t] at w;cases w;refine⟨v,t,k _ _ v H (by rw[bV];exact m) ?_ c⟩;rw[z,bK,cF] at hd;rw[u,bK,cF];have d1:DS X.K B ((.o d,some v)::(a++(b++T))) H:=hd.perm gT;have d2:DS X.K B (((.o d,some v)::a)++(Sl.n,some v)::(b++T)) H:=DS.pushN (L1:=(.o d,some v)::a) (L2:=b++T) d1 (some v);refine d2.perm ?_;have A:(((Sl.o d,some v)::a)++(Sl.n,some v)::(b++T)).Perm ((Sl.o d,some v)::(a++(Sl.n,some v)::b++T)):=by simp
  refine A.trans ?_;have D:((Sl.o d,some v)::(a++(Sl.n,some v)::b++T)).Perm ((a++(Sl.n,some v)::b)++(Sl.o d,some v)::T):=gT.symm;refine D.trans (by simp)
end
end L2
namespace PySem
open PyProof.Rows L2
section
theorem Yw (r:RawD s.heap d o l j) (q:Q (.ref s.heap.objs.size) { s with heap:=s.heap.push { cls:=.type "dict_items",data:=.fields #[.ref d] } }) :
  wpAny (model g w) A (call (.builtin "dict.items") [.ref d]) Q E s:=by
 have a:Builtin.Dict.showsAll d=pure ():=by unfold Builtin.Dict.showsAll;simp[r.low]
 have body:wpAny (model g w) A.in1 (Builtin.«dict.items» ⟨[.ref d],[]⟩) (λx b=>x = .done (.ret (.ref s.heap.objs.size))/\b={ s with heap:=s.heap.push { cls:=.type "dict_items",data:=.fields #[.ref d] } }) E s:=by
  have self:wpAny (model g w) A.in1 (Builtin.Dict.noArgs "items" ⟨[.ref d],[]⟩) (λv b=>v=d/\b=s) E s:=by
   unfold Builtin.Dict.noArgs;refine aB (iZ r.ty (aB (gL (show Builtin.Dict.nameIsSure "items" ⟨[.ref d],[]⟩ false=pure () from rfl) ?_)));refine aB (gL (show selfOnly _ ⟨[.ref d],[]⟩=pure (.ref d) from rfl) ?_);exact gL (show Builtin.Dict.addrOf (.ref d)=pure d from rfl) ⟨rfl,rfl⟩
  refine aB (cT self (λv b f=>?_) λ_ _ z=>z);obtain⟨c,e⟩:=f;subst c e;refine aB (gL a ?_);exact aB (fK (aF ⟨rfl,rfl⟩))
 exact eV F.slot_dict_items r.ty F.entry_dict_items (cT body (λv b ⟨c,e⟩=>by subst c e;exact⟨_,rfl,q⟩) λ_ _ z=>z) (F.args_dict_items_1 _)
theorem Z1 (V:s.heap.IsItemsView v d) (r:RawD s.heap d o l j)
  (q:Q (.ref s.heap.objs.size) { s with heap:=s.heap.push { cls:=.type "dict_itemiterator",data:=.fields #[.none,.bool false,.ref d,.int 0 0,.int l.size 0,.int j 0,.none,.none] } }) :
  wpAny (model g w) A (pyIter (.ref v)) Q E s:=by
 obtain⟨u,c,k,m⟩:=V;have ty:s.TypeIs (.ref v) "dict_items" := ⟨u,c,k⟩;have fresh:∀ h:Ag,h=s.heap.push { cls:=.type "dict_itemiterator",data:=.fields #[.none,.bool false,.ref d,.int 0 0,.int l.size 0,.int j 0,.none,.none] }->Shared.TypeIs { s with heap:=h } (.ref s.heap.objs.size) "dict_itemiterator" := λh e=>by
  subst e;exact⟨_,bL _ rfl,rfl⟩
 have body:wpAny (model g w) A.in1 (Builtin.«dict_items.__iter__» ⟨[.ref v],[]⟩) (λr b=>r = .done (.ret (.ref s.heap.objs.size))/\b={ s with heap:=s.heap.push { cls:=.type "dict_itemiterator",data:=.fields #[.none,.bool false,.ref d,.int 0 0,.int l.size 0,.int j 0,.none,.none] } }) E s:=by
  refine aB (aF ?_);refine aB (aB (gJ c m rfl (gL (show Builtin.Dict_items.addrOf (.ref d)=pure d from rfl) ?_)));refine aB (aB (gM r.get r.dat (aB (hU r.get r.dat ?_))));exact fK (aF ⟨rfl,rfl⟩) (hd:=by show 8<=sizeLine+2;decide)
 refine wpAny_pyIter_slot ty F.slot_dict_items_iter (eV F.slot_dict_items_iter ty F.entry_dict_items_iter (cT body (λv b a=>?_) λ_ _ z=>z) (F.args_dict_items_iter_1 _));obtain⟨f,i⟩:=a;subst f i;exact⟨_,rfl,"dict_itemiterator",_,fresh _ rfl,dF.lookup,q⟩
end
end PySem
namespace L2
open PySem PySem.Spec PyProof.Rows Lw
theorem uP (h:H a=none):mF H (upd H a o):=λb u e=>by rw[kX (nP e h)];exact e
end L2
namespace Lw
open PySem L2
def vT (t:mX):Aa (gV×V):=t.map λp=>(Sum.inr p.1,V.int p.2)
noncomputable def pF (t:mX) (x:Af) (i:Int):mX:=if x∈t.map (·.1) then t.map (λp=>if p.1=x then (p.1,i) else p) else t++[(x,i)]
theorem Na (t:mX) (x:Af) (i:Int):oG (lA t) (Sum.inr x) (.int i)=lA (pF t x i):=by
 unfold oG pF;have e:((lA t).any λa=>decide (a.1=(Sum.inr x:gV)))=decide (x∈t.map (·.1)):=by
  rw[iL];simp only[lA,List.any_map,jY,Function.comp_def,dY,bB,Sum.inr.injEq]
 rw[e];by_cases h:x∈t.map (·.1)
 .rw[aU (aX h),aU h];unfold lA;rw[aP,aP];refine eK λp _=>?_
  show (if (Sum.inr p.1:gV)=Sum.inr x then ((Sum.inr p.1:gV),D.int i) else (Sum.inr p.1,D.int p.2))=(Sum.inr (if p.1=x then (p.1,i) else p).1,D.int (if p.1=x then (p.1,i) else p).2);by_cases q:p.1=x
  .rw[aU (by rw[q]),aU q]
  .rw[aL (λz=>q (dX z)),aL q]
 .rw[aL (by simp[h]),aL h];unfold lA;rw[List.map_append];rfl
theorem Dc (t:mX) (x:Af) (i:Int):(pF t x i).map (·.1)=if x∈t.map (·.1) then t.map (·.1) else t.map (·.1)++[x]:=by
 unfold pF;by_cases h:x∈t.map (·.1)
 .rw[aU h,aU h,aP];refine eK λp _=>?_
  show (if p.1=x then (p.1,i) else p).1=p.1;by_cases q:p.1=x
  .rw[aU q]
  .rw[aL q]
 .rw[aL h,aL h,aG];rfl
theorem Fo (h:(t.map (·.1)).Nodup) (x:Af) (i:Int):((pF t x i).map (·.1)).Nodup:=by
 rw[Dc];by_cases q:x∈t.map (·.1)
 .rw[aU q];exact h
 .rw[aL q];exact bS.mpr ⟨h,by simp,λa c b d z=>by rw[aH.mp d] at z;exact q (z▸c)⟩
theorem F0 (t:mX) (x:Af) (i:Int):(pF t x i).length<=t.length+1:=by
 unfold pF;by_cases q:x∈t.map (·.1)
 .rw[aU q,aA];omega
 .rw[aL q,aD];simp
theorem EK (t u:mX) (x:Af):mB (t++u) x=if x∈t.map (·.1) then mB t x else mB u x:=by
 induction t with
 | nil=>rw[fM,aL (by simp)]
 | cons p t a =>
  rw[cF,wL,wL];by_cases e:p.1=x
  .rw[aU e,aU e,aU (by rw[<- e];exact aO)]
  .rw[aL e,aL e,a,aW];by_cases q:x∈t.map (·.1)
   .rw[aU q,aU (aZ _ q)]
   .rw[aL q,aL (λz=>(aK.mp z).elim (λz=>e z.symm) q)]
theorem Ia (t:mX) (x y:Af) (i:Int):mB (pF t x i) y=if y=x then i else mB t y:=by
 unfold pF;by_cases h:x∈t.map (·.1)
 .rw[aU h];induction t with
  | nil=>simp at h
  | cons p t c =>
   rw[aW,wL,wL];by_cases e:p.1=x
   .rw[aU e];by_cases q:p.1=y
    .rw[aU q,aU (by rw[<- q,e])]
    .rw[aL q];by_cases a:x∈t.map (·.1)
     .rw[c a,aL q]
     .have:t.map (λp=>if p.1=x then (p.1,i) else p)=t:=by
       conv=>rhs;rw[<- List.map_id t]
       exact eK λr d=>aL λz=>a (by rw[<- z];exact cA (f:=λp:Af×Int=>p.1) d)
      rw[this,aL (λz=>q (by rw[e,z])),aL q]
   .rw[aL e];have a:x∈t.map (·.1):=(aK.mp h).resolve_left λz=>e z.symm
    by_cases q:p.1=y
    .rw[aU q,aL (λz=>e (by rw[q,z])),aU q]
    .rw[aL q,c a,aL q]
 .rw[aL h,EK];by_cases q:y=x
  .rw[aU q,aL (by rw[q];exact h),wL,aU q.symm]
  .rw[aL q];by_cases b:y∈t.map (·.1)
   .rw[aU b]
   .rw[aL b,wL,aL (λz=>q z.symm),(vX t y).2 b |>.2];rfl
theorem AF {K:kM}:∀ (t:mX) (g:Aa (gV×V)),(lA t).map (·.1)=g.map (·.1)->Reps K A H ((lA t).map (·.2)) (g.map (·.2))->g=vT t:=λt=>by
 induction t with
 | nil =>
  intro g k r;cases g with
  | nil=>rfl
  | cons p q=>simp[lA] at k
 | cons p t d =>
  intro g k r;cases g with
  | nil=>simp[lA] at k
  | cons q g =>
   obtain⟨e,i⟩:=q;simp only[lA,aW,eO] at k r;cases r with
   | cons f h =>
    have a:=d g k.2 h;have b:=f.int_inv;have c:Sum.inr p.1=e:=k.1;subst a b c;rfl
theorem R5 {K:kM}(h:Rep K A H (.k (lA t)) v):∃ a,v = .ref a/\A a/\Rd H a (.k (vT t)):=by
 obtain⟨a,b,rfl,c,e,k,r⟩:=h.dK_inv;exact⟨a,rfl,c,by rw[<- AF t b k r];exact e⟩
theorem Qe (g:(t.map (·.1)).Nodup) (h:p∈t):mB t p.1=p.2:=by
 induction t with
 | nil=>cases h
 | cons q t a =>
  obtain⟨b,c⟩:=bN.mp g;rw[wL];rcases aK.mp h with z | z
  .subst z;rw[aU rfl]
  .rw[aL (λe=>b (by show q.1∈t.map (·.1);rw[e];exact cA (f:=λp:Af×Int=>p.1) z)),a c z]
theorem rX (g:Aa Af):wH (g.map D.str)=some (g.map V.str):=Lq (λ_=>rfl) g
theorem qR:∀ g:Aa Af,zF (.str x) (g.map V.str)=decide (x∈g)
 | []=>by simp[zF]
 | y::g=>by
  have a:=qR (x:=x) g;unfold zF at a |-;rw[aW,fU,a];by_cases e:x=y
  .subst e;have:qT (V.str x) (V.str x)=true:=jF x;simp[this]
  .have:qT (V.str y) (V.str x)=false:=by
    show (y == x)=false;exact dJ.mpr λz=>e z.symm
   have:qT (V.str x) (V.str y)=false:=by
    show (x == y)=false;exact dJ.mpr e
   simp[*]
theorem nL {p q:Prop}{c:Bool}(h:c=false) (g:q):if c=true then p else q:=by rw[aL (by rw[h];decide)];exact g
theorem oJ {p q:Prop}{c:Bool}(h:c=true) (g:p):if c=true then p else q:=by rw[aU h];exact g
theorem Dv:(["output","name"]:Aa Af).Nodup:=by decide +kernel
theorem Jo:(["name","carried"]:Aa Af).Nodup:=by decide +kernel
def hQ (C:Cel) (g:Aa (Af×Af)):D:=.t [tY C,.t (g.map λp=>D.t [.str p.1,.str p.2])]
noncomputable def lX (C:Cel) (g:Aa (Af×Af)):Aa Af:=C.ins.filter λx=>!decide (x∈g.map (·.2))
noncomputable def lQ (C:Cel) (g:Aa (Af×Af)):Aa Af:=C.outs.filter λx=>!decide (x∈g.map (·.1))
def xD:RD:=λd b c=>∃ C a,b=[hQ C a]/\a.length<=100/\c (.o (.l (a.map λp=>D.str p.2)))
def B8:RD:=λd b c=>∃ C a,b=[hQ C a]/\a.length<=100/\C.ins.length<=100/\c (.o (.l ((lX C a).map D.str)))
def Hd:RD:=λd b c=>∃ C a,b=[hQ C a]/\a.length<=100/\C.outs.length<=100/\c (.o (.l ((lQ C a).map D.str)))
section
variable {P:Ah}{K:kM}
theorem mT {P:Aa Af}(a:j.kind = .function:=by rfl) (b:j.isCoroutine=false:=by rfl) (c:j.isGenerator=false:=by rfl) (d:N.Nodup:=by decide +kernel) (e:N.take P.length=P:=by rfl) (f:∀ x∈P,j.names.lookup x=some .local\/j.names.lookup x=some .cell:=by decide +kernel) (g:∀ y∈j.names,y.2 ≠ .free:=by decide +kernel):L2.FnScope N P j:=⟨a,b,c,d,e,f,g⟩
theorem Xz:FnScope ["row"] ["row"] (lB zH):=mT
theorem M0:FnScope ["row","carried"] ["row"] (lB A9):=mT
theorem Py:FnScope ["row","carried"] ["row"] (lB Bl):=mT
theorem Qv:nU P w K g base 1 "carried_inputs" zH ["row"] xD:=by
 refine oO Xz λf d A b s H E x y G z u q=>?_
 obtain⟨C,c,rfl,B,a⟩:=q;refine⟨_,(lH (mO (mS ["output","name"] [] [] (lK (hI u 0 gD)) (λ_ _ _ _ _=>(pL (n:=2) rfl (mE (kP 0 Dv) (mE (kP 1 Dv) pH)))) (λ_ _ _ _ _=>(dT 1))))),?_⟩;unfold sT;exact mM c (λp=>D.t [.str p.1,.str p.2]) (λp=>D.str p.2) _ (λL h=>⟨rfl,_,rfl,h⟩) (by omega) (λi p F v e k m=>⟨rfl,rfl,k,m⟩) a
theorem Pl (g:Kn P w K j base 1 "carried_inputs" zH ["row"] xD):nU P w K j base 2 "word_inputs" A9 ["row"] B8:=by
 refine oO M0 λf k A d s H E L M R z b y=>?_
 obtain⟨C,a,rfl,B,O,c⟩:=y;refine⟨_,(kQ (kU 1 M0.nd (lU g z (dK (dT 0) eH))) (lH (mO (mS ["name"] ["carried"] [1] (lK (lY b (hI b 0 gD) gD)) (λ_ _ _ _ _=>(kP 0 Jo)) (λ_ _ _ _ _=>(dT 0)) (ht:=λ_ _ _ _ _=>(tK (wG (sI b) (rR true) (dT 0) (pv 1)))))))),?_⟩;refine kN (λF=>F=_) (λN v=>⟨C,a,rfl,B,.inl rfl,v _ rfl⟩) ?_;rintro _ rfl;unfold sT;refine sR C.ins D.str D.str (λx=>!decide (x∈a.map λp:Af×Af=>p.2)) _ (λS h=>⟨rfl,_,rfl,_,rfl,h⟩) (by omega) (λi x Q G e n t u=>?_) c;have m:(a.map λp=>D.str p.2)=(a.map (·.2)).map D.str:=by rw[aP];rfl
 refine⟨.str x,(a.map (·.2)).map V.str,rfl,by rw[m];exact rX _,?_⟩;rw[qR];show if (!decide (x∈a.map (·.2)))=true then _ else _
 by_cases q:x∈a.map (·.2)
 .exact nL (by rw[aX q];rfl) (u (by rw[aX q];rfl))
 .exact oJ (by rw[aQ q];rfl) ⟨n,t (by rw[aQ q];rfl)⟩
theorem Jd:nU P w K g base 1 "word_outputs" Bl ["row"] Hd:=by
 refine oO Py λf y A m s H E Q R Y S b G=>?_
 obtain⟨C,a,rfl,X,W,k⟩:=G;refine⟨_,(kQ (kU 1 Py.nd (mS ["output","name"] [] [] (lK (hI b 0 gD)) (λ_ _ _ _ _=>(pL (n:=2) rfl (mE (kP 0 Dv) (mE (kP 1 Dv) pH)))) (λ_ _ _ _ _=>(dT 0)))) (lH (mO (mS ["name"] ["carried"] [1] (lK (lY b (hI b 0 gD) gD)) (λ_ _ _ _ _=>(kP 0 Jo)) (λ_ _ _ _ _=>(dT 0)) (ht:=λ_ _ _ _ _=>(tK (wG (sI b) (rR true) (dT 0) (pv 1)))))))),?_⟩;refine kN (λO=>O=[.v (hQ C a),.o (.l (a.map λp=>D.str p.1))]) (λN F=>?_) ?_
 .unfold nG;exact mM a (λp=>D.t [.str p.1,.str p.2]) (λp=>D.str p.1) _ (λM h=>⟨rfl,_,rfl,h⟩) (by omega) (λi p L u e c d=>⟨rfl,rfl,c,d⟩) (F _ rfl)
 rintro _ rfl;unfold sT;refine sR C.outs D.str D.str (λx=>!decide (x∈a.map λp:Af×Af=>p.1)) _ (λM h=>⟨rfl,_,rfl,_,rfl,h⟩) (by omega) (λi x L u e c d B=>?_) k;have z:(a.map λp=>D.str p.1)=(a.map (·.1)).map D.str:=by rw[aP];rfl
 refine⟨.str x,(a.map (·.1)).map V.str,rfl,by rw[z];exact rX _,?_⟩;rw[qR];show if (!decide (x∈a.map (·.1)))=true then _ else _
 by_cases q:x∈a.map (·.1)
 .exact nL (by rw[aX q];rfl) (B (by rw[aX q];rfl))
 .exact oJ (by rw[aQ q];rfl) ⟨c,d (by rw[aQ q];rfl)⟩
end
def nR (g:Aa Int):Nat:=max 1 g.length
def qB (g:Aa Int) (k:Nat):Int:=((g++[0])[k%nR g]?).getD 0
def D6 (c:Int):Nat->Int
 | 0=>c
 | t+1=>D6 c t/1000003
def wU (g:Aa Int) (k:Nat):Int:=(qB g k%2147483629+17+68209*((k/nR g:Nat):Int))*47791%2147483629
def yU (g:Aa Int) (k:Nat):Int:=if 10 ^ 18<=qB g k\/qB g k <= -(10 ^ 18) then D6 (qB g k) (min (k/nR g) 60)%1000003 else wU g k*wU g k%2147483587*38839%2147483579
def kO (g:Aa Int) (k:Nat):Nat:=(yU g k).toNat
theorem DR (g:Aa Int) (k:Nat):yU g k=(kO g k:Int):=by
 have h:0<=yU g k:=by
  unfold yU;split
  .exact kF _ (by decide)
  .exact kF _ (by decide)
 unfold kO;omega
def wT:RD:=λe b d=>∃ (a:Aa Int) (k:Nat),b=[.c (a.map D.int),.int k]/\a.length<=63/\k<=1000/\d (.v (.int (kO a k)))
theorem C4 (a b:Bool) (o:∀ g:Bool->Aa Sl->Prop,g a j->t l j g) (p:∀ g:Bool->Aa Sl->Prop,g b j->u l j g) (k:r (a||b) j):B5 t u l j r:=by
 unfold B5;refine o _ ?_;cases a
 .exact p _ k
 .exact k
section
variable {P:Ah}{K:kM}
theorem yE:FnScope ["script","k","many","cell","turn","mixed"] ["script","k"] (lB uE):=mT
theorem O7 (T:Txt r):nU P w K r base 1 "_law_draw" uE ["script","k"] wT:=by
 refine oO yE λf V A R s H E J U Φ hr p W=>?_
 obtain⟨a,k,rfl,g,Z,b⟩:=W;rw[<- DR] at b;refine⟨_,(kQ (kU 2 yE.nd (oP (Xr rfl) Rs T.max PyProof.Rows.boot_max (dK gD (dK (oP pK pI T.len cB (dK (dT 0) eH)) eH)))) (kQ (kU 3 yE.nd (lY p (kS lE lD (mQ vY wN T.list dH (dK (dT 0) eH)) (rB (dK gD eH))) (mP nE nD 1 (dT 2)))) (kQ (qV (wF (Cc (uC CP Zn (pv 3) (kS Mz Mp gD gD)) (B1 (uC Hm AS (pv 3) (Ho (kS Mz Mp gD gD)))))) (kQ (sL (wE (by rfl) T.range (oP (DT rfl) CH T.min PyProof.Rows.boot_min (dK (mP vE uU 1 (dT 2)) (dK gD eH)))) (kP 4 yE.nd) (lH (kU 3 yE.nd (mP vE uU 3 gD)))) (lH (mO (mP nE nD 3 gD)))) pC) (kQ (kU 5 yE.nd (kS nE nD (kS Bt Bu (kS lE lD (kS lE lD (mP nE nD 3 gD) gD) (kS Bt Bu gD (mP vE uU 1 (dT 2)))) gD) gD)) (kQ (kU 5 yE.nd (kS nE nD (mP Bt Bu 5 (dT 5)) gD)) (lH (mO (kS nE nD (mP Bt Bu 5 gD) gD)))))))),?_⟩;have M:1<=nR a:=Nat.le_max_left _ _;have l:nR a<=63:=Nat.max_le.mpr ⟨by decide,g⟩;refine kN (λu=>u=[.v (.c (a.map D.int)),.v (.int k),.v (.int (nR a)),.n,.n,.n]) (λN x=>?_) ?_
 .refine⟨rfl,_,rfl,λm j G S=>?_⟩;have e:(a.map D.int).length=a.length:=aA ..;rw[e] at j S;have:m=(nR a:Int):=by unfold nR;omega
  rw[this];exact x _ rfl
 rintro _ rfl;have X:nO (a.map D.int++[D.int 0]) ((k:Int)%(nR a:Int))=some (.int (qB a k)):=by
  have Y:k%nR a<(a++[0]).length:=by
   rw[aD,List.length_singleton];have:=dB k M;unfold nR at this |-;omega
  have e:a.map D.int++[D.int 0]=(a++[0]).map D.int:=by rw[aG];rfl
  rw[e,show (k:Int)%(nR a:Int)=((k%nR a:Nat):Int) by norm_cast];refine qC ?_;unfold qB;rw[bH,aJ Y];rfl
 refine kN (λu=>u=[.v (.c (a.map D.int)),.v (.int k),.v (.int (nR a)),.v (.int (qB a k)),.n,.n]) (λN x=>?_) ?_
 .exact⟨_,rfl,by show 1<=1000;decide,by show (a.map D.int).length+1<=100000;rw[aA];omega,rfl,by show (0:Int)<nR a;omega,_,X,x _ rfl⟩
 rintro _ rfl;have O:(k:Int)/(nR a:Int)=((k/nR a:Nat):Int):=by norm_cast
 have Q:k/nR a<=1000:=bU (Nat.div_le_self _ _) Z;generalize B:k/nR a=t at O Q;refine kN (λu=>¬ (10 ^ 18<=qB a k\/qB a k <= -(10 ^ 18))/\u=[.v (.c (a.map D.int)),.v (.int k),.v (.int (nR a)),.v (.int (qB a k)),.n,.n]) (λN x=>?_) ?_
 .unfold xA;refine C4 (decide (10 ^ 18<=qB a k)) (decide (qB a k <= -(10 ^ 18))) (λC h=>⟨rfl,⟨by decide,by decide,by decide⟩,h⟩) (λC h=>⟨rfl,⟨by decide,by decide,by decide⟩,h⟩) ?_;by_cases y:10 ^ 18<=qB a k\/qB a k <= -(10 ^ 18)
  .refine oJ (by rw[jK,dY,dY];exact y) ?_;unfold yU at b;rw[aU y,B] at b;refine kN (λu=>∃ F,u=[.v (.c (a.map D.int)),.v (.int k),.v (.int (nR a)),.v (.int (D6 (qB a k) (min t 60))),F,.n]) (λI L=>?_) ?_
   .refine⟨rfl,⟨by show (0:Int)<nR a;omega,by show (nR a:Int)<2 ^ 64;omega⟩,?_⟩;refine λq o G S=>?_
    rw[O] at o G;obtain rfl:q=((min t 60:Nat):Int):=by omega
    refine⟨by omega,by omega,λi u=>∃ F,u=[.v (.c (a.map D.int)),.v (.int k),.v (.int (nR a)),.v (.int (D6 (qB a k) i)),F,.n],⟨.n,rfl⟩,?_,λu h=>L _ ?_⟩
    .rintro i d u hd ⟨F,rfl⟩;exact⟨rfl,⟨by show (0:Int)<1000003;decide,by show (1000003:Int)<2 ^ 64;decide⟩,_,rfl⟩
    .have e:(pA 0 ((min t 60:Nat):Int).toNat).length=min t 60:=by rw[eJ];simp[pA]
     rw[e] at h;exact h
   rintro _ ⟨F,rfl⟩;exact⟨rfl,by show (0:Int)<1000003;decide,b⟩
  .exact nL (by rw[jV,ne_eq,jK,dY,dY];exact y) (x _ ⟨y,rfl⟩)
 rintro _ ⟨y,rfl⟩;unfold yU at b;rw[aL y] at b;have big:∀ z:Int,0<=z->z<2147483648->-(2 ^ 64:Int)<z/\z<2 ^ 64:=λz h0 G=>by omega
 have mx:0<=wU a k/\wU a k<2147483648:=⟨kF _ (by decide),Int.lt_trans (Int.emod_lt_of_pos _ (by decide)) (by decide)⟩;refine kN (λu=>u=[.v (.c (a.map D.int)),.v (.int k),.v (.int (nR a)),.v (.int (qB a k)),.n,.v (.int (wU a k))]) (λN x=>?_) ?_
 .refine⟨rfl,by show (0:Int)<2147483629;decide,rfl,⟨by show (0:Int)<nR a;omega,by show (nR a:Int)<2 ^ 64;omega⟩,.inl ⟨by decide,by decide⟩,.inr ⟨by decide,by decide⟩,by show (0:Int)<2147483629;decide,x _ ?_⟩;unfold wU;rw[B,<- O];rfl
 rintro _ rfl;refine kN (λu=>u=[.v (.c (a.map D.int)),.v (.int k),.v (.int (nR a)),.v (.int (qB a k)),.n,.v (.int (wU a k*wU a k%2147483587))]) (λN x=>?_) ?_
 .exact⟨rfl,.inl (big _ mx.1 mx.2),by show (0:Int)<2147483587;decide,x _ rfl⟩
 rintro _ rfl;exact⟨rfl,.inr ⟨by decide,by decide⟩,by show (0:Int)<2147483579;decide,b⟩
end
end Lw
namespace L2
open PySem PySem.Spec PyProof.Rows
def Oh:R2:=λx y H Q=>∃ (z:Af) (n:Int),x = .str z/\y = .int n/\0<=n/\n<=100/\z.length<=100/\Q (.str (Txt.mul z n)) H
section
variable {X:Cx}{K:kM}
theorem Pa:lF X (binaryOp .Mult) Oh:=by
 intro b s A H x y v u Q I d e h;obtain⟨z,n,rfl,rfl,f,i,c,q⟩:=h;obtain⟨t,rfl⟩:=d;obtain⟨w,rfl⟩:=e;refine SB.mul ⟨?_,λm _=>?_,λ_ _=>?_⟩ λt k=>⟨.str _,H,I.tok _,⟨_,rfl⟩,q⟩
 .rw[aQ (by omega),aQ (by omega)];rfl
 .have a:(100:Int)<=(2 ^ 63-1)/n:=Int.le_ediv_of_mul_le (by omega) (by omega);omega
 .have a:z.length*n.toNat<=100*100:=Nat.mul_le_mul c (by omega);exact aQ (kB.mpr (bU a (by decide)))
def S2:O2
 | .str z,.int n,a=>0<=n/\n<=100/\z.length<=100/\a (.v (.str (Txt.mul z n)))
 | _,_,_=>False
theorem Nb:oH K Oh S2:=by
 intro B L H d e x y f Q hd b c a k;cases d<;>first | exact False.elim a | skip<;>cases e<;>first | exact False.elim a | skip
 cases b;cases c;exact⟨_,_,rfl,rfl,a.1,a.2.1,a.2.2.1,k _ _ H a.2.2.2 (hd.pushF (.str _))⟩
end
end L2
namespace Lw
open PySem L2
def Ed (c:Nat):Af:=⟨#[97+c]⟩
def oW (g:Aa Int):Af:=Ed (kO g 0%26)
def oB (g:Aa Int):Nat:=kO g 1%7
def pU (g:Aa Int):Nat:=kO g 2%(7-oB g)
def Cv (g:Aa Int) (i:Nat):Af:=Ed ((i+kO g 3)%26)
def nX (g:Aa Int) (i:Nat):Af:=Txt.mul (oW g) (oB g:Int)++Cv g i++Txt.mul (oW g) (pU g:Int)
def lR (g:Aa Int) (i:Nat):Af:=if kO g 8%4=1 then Cv g i else (if i%2=1/\(nX g i).length<7 then nX g i++oW g else nX g i) ++ "x"
def B7:Af := "abcdefghijklmnopqrstuvwxyz"
theorem Uq {k:Nat}(h:k<26):nO B7.cps.toList (k:Int)=some (97+k):=by
 have a:∀ k:Fin 26,B7.cps.toList[k.val]?=some (97+k.val):=by decide +kernel
 exact qC (a ⟨k,h⟩)
theorem L7 (z:Nat):nO B7.cps.toList ((z:Int)%26)=some (97+z%26):=by
 rw[show (z:Int)%26=((z%26:Nat):Int) by omega];exact Uq (dB _ (by decide))
theorem pO (x y:Af):(x++y).cps.toList=x.cps.toList++y.cps.toList:=by
 show (x.cps++y.cps).toList=_;rw[Array.toList_append]
theorem oX (x:Af):x.length=x.cps.toList.length:=fQ.symm
theorem An (c:Nat) (n:Nat):(Txt.mul (Ed c) (n:Int)).cps.toList=List.replicate n (97+c):=by
 have f:∀ m (a:Array Nat),((List.replicate m (#[97+c]:Array Nat)).foldl (·++·) a).toList=a.toList++List.replicate m (97+c):=λm=>by
  induction m with
  | zero=>intro a;simp
  | succ m b=>intro a;rw[cX,List.foldl_cons,b,Array.toList_append,bK];rfl
 unfold Txt.mul
 match n with
 | 0=>rw[aU (by decide)];rfl
 | 1=>rw[aL (by decide),aU (by simp)];rfl
 | n+2 =>
  rw[aL (by omega),aL (by simp[Ed,Str.length];omega)];rw[show (((n+2:Nat):Int)).toNat=n+2 from eJ _];exact (f (n+2) #[]).trans (fM _)
theorem Gv (a b:Bool) (o:∀ g:Bool->Aa Sl->Prop,g a j->t l j g) (p:∀ g:Bool->Aa Sl->Prop,g b j->u l j g) (k:r (a&&b) j):Hv t u l j r:=by
 unfold Hv;refine o _ ?_;cases a
 .exact k
 .exact p _ k
def Bj:RD:=λe b d=>∃ (a:Aa Int) (i:Nat),b=[.c (a.map D.int),.int i]/\a.length<=63/\i<=1000/\d (.v (.str (lR a i)))
theorem Gz (g:Aa Int) (i:Nat):(nX g i).length=oB g+1+pU g:=by
 rw[oX];unfold nX oW;rw[pO,pO,An,An,aD,aD,bW,bW];rfl
section
variable {P:Ah}{K:kM}
theorem xU:FnScope ["script","i","letters","pad","place","tail","word"] ["script","i"] (lB xI):=mT
theorem Q4 (T:Txt j) (g:Kn P w K j base 1 "_law_draw" uE ["script","k"] wT):nU P w K j base 2 "_law_word" xI ["script","i"] Bj:=by
 refine oO xU λf O A G s H E Z l I q B V=>?_
 obtain⟨b,i,rfl,t,r,m⟩:=V;refine⟨_,(kQ (kU 2 xU.nd nF) (kQ (kU 3 xU.nd (hI B 2 (kS nE nD (lU g q (dK (dT 0) (dK gD eH))) gD))) (kQ (kU 4 xU.nd (kS nE nD (lU g q (dK (dT 0) (dK gD eH))) gD)) (kQ (kU 5 xU.nd (kS nE nD (lU g q (dK (dT 0) (dK gD eH))) (kS C8 Dl gD (dT 4)))) (kQ (qV (qW (C2 q.units) (xZ false) (kS nE nD (lU g q (dK (dT 0) (dK gD eH))) gD) gD) (lH (mO (hI B 2 (kS nE nD (mP lE lD 1 (lU g q (dK (dT 0) (dK gD eH)))) gD)))) pC) (kQ (kU 6 xU.nd (kS lE lD (kS lE lD (mP Pa Nb 3 (dT 4)) (hI B 2 (kS nE nD (mP lE lD 1 (lU g q (dK (dT 0) (dK gD eH)))) gD))) (mP Pa Nb 3 (dT 5)))) (kQ (qV (wF (Hb (qW (C2 q.units) (xZ false) (mP nE nD 1 gD) gD) (Hq (qW GB S4 (oP pK pI T.len cB (dK (dT 6) eH)) gD)))) (lH (kU 6 xU.nd (mP lE lD 6 (dT 3)))) pC) (lH (mO (mP lE lD 6 nF)))))))))),?_⟩;let a:Aa Sl:=[.v (.c (b.map D.int)),.v (.int i),.v (.str B7)];refine kN (λe=>e=a++[.n,.n,.n,.n]) (λN d=>d _ rfl) ?_;rintro _ rfl;refine kN (λe=>e=a++[.v (.str (oW b)),.n,.n,.n]) (λN d=>?_) ?_
 .exact⟨rfl,b,0,rfl,t,by decide,.inl rfl,by show (0:Int)<26;decide,by decide,_,L7 _,d _ rfl⟩
 rintro _ rfl;refine kN (λe=>e=a++[.v (.str (oW b)),.v (.int (oB b)),.n,.n]) (λN d=>?_) ?_
 .exact⟨b,1,rfl,t,by decide,.inl rfl,by show (0:Int)<7;decide,d _ rfl⟩
 rintro _ rfl;have o:oB b<7:=dB _ (by decide);refine kN (λe=>e=a++[.v (.str (oW b)),.v (.int (oB b)),.v (.int (pU b)),.n]) (λN d=>?_) ?_
 .refine⟨b,2,rfl,t,by decide,.inl rfl,by show (0:Int)<7-(oB b:Int);omega,d _ ?_⟩;unfold pU;rw[show (7:Int)-(oB b:Int)=((7-oB b:Nat):Int) by omega];rfl
 rintro _ rfl;have Q:(i:Int)+(kO b 3:Int)=((i+kO b 3:Nat):Int):=by omega
 have u:nO B7.cps.toList (((i:Int)+(kO b 3:Int))%26)=some (97+(i+kO b 3)%26):=by rw[Q];exact L7 _
 have M:decide ((kO b 8:Int)%4=1)=decide (kO b 8%4=1):=by
  by_cases h:kO b 8%4=1
  .rw[aX h,aX (by omega)]
  .rw[aQ h,aQ (by omega)]
 have W:pU b<7:=bP (dB _ (by omega)) (Nat.sub_le _ _);refine kN (λe=>¬ kO b 8%4=1/\e=a++[.v (.str (oW b)),.v (.int (oB b)),.v (.int (pU b)),.n]) (λN d=>?_) ?_
 .refine⟨b,8,rfl,t,by decide,.inl rfl,by show (0:Int)<4;decide,?_⟩;by_cases h:kO b 8%4=1
  .refine oJ (M.trans (aX h)) ⟨rfl,rfl,b,3,rfl,t,by decide,.inl rfl,by show (0:Int)<26;decide,by decide,_,u,?_⟩;have k:=m;unfold lR at k;rw[aU h] at k;exact k
  .exact nL (M.trans (aQ h)) (d _ ⟨h,rfl⟩)
 rintro _ ⟨S,rfl⟩;unfold lR at m;rw[aL S] at m;have x:=Gz b i;have X:∀ z:Af,z.length<=100->z.length<=100000:=λz h=>by omega
 have F:∀ n:Nat,(Txt.mul (oW b) (n:Int)).length=n:=λn=>by
  rw[oX];unfold oW;rw[An,bW]
 refine kN (λe=>e=a++[.v (.str (oW b)),.v (.int (oB b)),.v (.int (pU b)),.v (.str (nX b i))]) (λN d=>?_) ?_
 .refine⟨rfl,by omega,by omega,by show 1<=100;decide,rfl,rfl,b,3,rfl,t,by decide,.inl rfl,by show (0:Int)<26;decide,by decide,_,u,?_,rfl,by omega,by omega,by show 1<=100;decide,?_,d _ rfl⟩
  .rw[F];show oB b+1<=100000;omega
  .rw[F,oX,pO,aD,<- oX,F];show oB b+1+pU b<=100000;omega
 rintro _ rfl;let L:Af:=if i%2=1/\(nX b i).length<7 then nX b i++oW b else nX b i
 have C:L.length<=100:=by
  show (if i%2=1/\(nX b i).length<7 then nX b i++oW b else nX b i).length<=100;split
  .rw[oX,pO,aD,<- oX,x];show oB b+1+pU b+1<=100;omega
  .rw[x];omega
 refine kN (λe=>e=a++[.v (.str (oW b)),.v (.int (oB b)),.v (.int (pU b)),.v (.str L)]) (λN d=>?_) ?_
 .unfold xA;refine Gv (decide ((i:Int)%2=1)) (decide (((nX b i).length:Int)<7)) (λY h=>⟨rfl,by show (0:Int)<2;decide,h⟩) (λY h=>⟨aX (by rw[x];omega),_,rfl,h⟩) ?_;by_cases y:i%2=1/\(nX b i).length<7
  .refine oJ (by rw[aX (by omega),aX (by omega)];rfl) ⟨rfl,?_,d _ ?_⟩
   .rw[x];show oB b+1+pU b+1<=100000;omega
   .show _=a++[.v (.str (oW b)),.v (.int (oB b)),.v (.int (pU b)),.v (.str (if i%2=1/\(nX b i).length<7 then nX b i++oW b else nX b i))];rw[aU y];rfl
  .refine nL ?_ (d _ ?_)
   .by_cases R:i%2=1
    .rw[aQ (p:=((nX b i).length:Int)<7) (λz=>y ⟨R,by omega⟩),Bool.and_false]
    .rw[aQ (p:=(i:Int)%2=1) (by omega),Bool.false_and]
   .show _=a++[.v (.str (oW b)),.v (.int (oB b)),.v (.int (pU b)),.v (.str (if i%2=1/\(nX b i).length<7 then nX b i++oW b else nX b i))];rw[aL y]
 rintro _ rfl;exact⟨rfl,by show L.length+1<=100000;omega,m⟩
end
end Lw
namespace L2
open PySem PySem.Spec PyProof.Rows Lw
def Gp:Aa (Af×lL)->Aa Ad->Aa Sl->(Aa (Af×Int)->Aa Sl->Prop)->Prop
 | [],_,b,a=>a [] b
 | (x,t)::r,e,b,a=>t e b λh c=>match h with
  | .v (.int i)=>Gp r e c λf d=>a ((x,i)::f) d
  | _=>False
def Yr (g:Aa (Af×lL)):lL:=λd f e=>Gp g d f λb a=>b.length<=15/\e (.o (.k (oE [] (b.map λc=>((Sum.inr c.1:gV),D.int c.2))))) a
section
variable {X:Cx}{K:kM}
theorem Ls:∀ (J:Aa (Af×lL)){j:Aa Sl}{H:Hp}{I:Aa (Af×Int)->Aa Sl->Prop}{Q:Aa (V×V)->Hp->Prop},j.length=l.length->DS K B (j.zip l++T) H->Gp J B.dk j I ->
  (∀ C g o,g.length=l.length->DS K B (g.zip l++T) o->I C g->Q (C.map λc=>(V.str c.1,V.int c.2)) o)->Bi (J.map λp=>(tC (.str p.1),dE K p.2)) l H Q
 | [],j,H,I,Q,f,hd,h,k=>k [] j H f hd h
 | (x,t)::r,j,H,I,Q,f,hd,h,k=>by
  show tC (.str x) l H λx n=>dE K t l n λy m=>Bi (r.map λp=>(tC (.str p.1),dE K p.2)) l m λu q=>Q ((x,y)::u) q
  refine⟨B,j,T,_,f,hd,h,λz A y m s d1 e=>?_⟩;cases z<;>first | exact False.elim e | skip
  rename_i d
  cases d<;>first | exact False.elim e | skip
  rename_i i
  obtain⟨v,w⟩:=d1.one (d:=.int i) rfl;cases w.int_inv;exact Ls r s v e λC g o a b c=>k ((x,i)::C) g o a b c
theorem GK (r:Aa (Af×lL)) (h:Aq X pos keys values (r.map λp=>(tC (.str p.1),dE X.K p.2))) (g:keys.all (·.isSome)=true:=by rfl) (l:keys.length=values.length:=by rfl) (C:keys≠[]:=by simp) (j:keys.length<=15:=by decide) :
  PD X (.Dict keys values pos) (Yr r):=(FD h g l C j).mono λG H Q f=>f.elim λB F T M l hd w k p v=>by
  have d:DS X.K B (F.zip G++(.o (.k []),some (.ref p))::T) (upd H p (.k [])):=DS.mid (DS.dKF hd v rfl .nil);refine Ls r l d w λb i s y d2 m=>?_
  obtain⟨a,t,n,x,u,_⟩:=d2.ownAt;cases t;have:n=[]:=by
   cases n with
   | nil=>rfl
   | cons _ _=>cases u
  subst this;refine⟨x,b.map λc=>((Sum.inr c.1:gV),V.int c.2),by rw[aP];rfl,by rw[aA];exact m.1,k _ i _ _ y (d2.write λq L=>?_) m.2⟩;have e:(b.map λc=>((Sum.inr c.1:gV),D.int c.2)).map (·.1)=(b.map λc=>((Sum.inr c.1:gV),V.int c.2)).map (·.1):=by rw[aP,aP];rfl
  obtain⟨z,E⟩:=Fb (kvs:=[]) (vs:=[]) e (Nq (K:=X.K) (A:=q) (H:=upd s p (.k (qS [] (b.map λc=>((Sum.inr c.1:gV),V.int c.2))))) b) rfl .nil;exact⟨_,lT,z,E⟩
end
end L2
namespace L2
open PySem PySem.Spec PyProof.Rows
def zJ:Expr->Ab (Af×Nat×Pos)
 | .Constant (.str x) j p=>some (x,j,p)
 | _=>none
theorem V8 (h:zJ e=some q):e = .Constant (.str q.1) q.2.1 q.2.2:=by
 unfold zJ at h;split at h
 .cases h;rfl
 .cases h
def zI (g:Aa Expr):Aa (Af×Nat×Pos):=g.filterMap zJ
theorem J9:∀ {g:Aa Expr},(g.all λe=>(zJ e).isSome)=true->g=(zI g).map λp=>.Constant (.str p.1) p.2.1 p.2.2
 | [],_=>rfl
 | e::g,h=>by
  rw[jG,cK] at h;obtain⟨q,a⟩:=cZ.mp h.1;have b:=J9 h.2;unfold zI at b |-;rw[List.filterMap_cons_some a,aW,<- b,<- V8 a]
def Gh (g:Aa Af):lL:=λ_ b a=>a (.v (.t (g.map D.str))) b
section
variable {X:Cx}
theorem ED (l:Aa (Af×Nat×Pos)) (g:l.length<=1000):PD X (.Tuple (l.map λp=>.Constant (.str p.1) p.2.1 p.2.2) x1 pos) (Gh (l.map (·.1))) :=
 (xP (Ox l)).mono λh H Q b=>b.elim λB e T f a hd d k=>⟨by rw[aA,aA];exact bU g (by decide),λp c=>k _ e _ _ a (hd.tupF c (Nw _)).mid d⟩
theorem Tx (j:Aa Af) (h:(g.all λe=>(zJ e).isSome)=true:=by rfl) (hw:(zI g).map (·.1)=j:=by rfl) (l:g.length<=1000:=by decide):PD X (.Tuple g o pos) (Gh j):=by
 have e:=J9 h;have a:(zI g).length<=1000:=bU (List.length_filterMap_le _ _) l;have:=ED (X:=X) (pos:=pos) (x1:=o) (zI g) a;rw[<- e,hw] at this;exact this
end
section
variable {X:Cx}
theorem sM {st:Stmt}{rest:Aa Stmt}{g:nQ}{C:nQ->Prop}(j:rL X st g) (k:∃ t,oM X rest t/\C (uD g t)):∃ t,oM X (st::rest) t/\C t:=by
 obtain⟨t,a,b⟩:=k;exact⟨_,kQ j a,b⟩
theorem EF {i:Nat}{x:Af}{p p' p2 pos:Pos}{x1:Nat}{g:Aa Expr}{e:Expr}{l:lL}{rest:Aa Stmt}{C:nQ->Prop}(j:Aa Af) (hu:X.A.units+1<cLine) (o:X.N.Nodup) (J:X.N[i]?=some x) (hx:rT X.env.scope x) (I:X.fn x=true) (h:(g.all λe=>(zJ e).isSome)=true) (hw:(zI g).map (·.1)=j) (T:g.length<=1000) (r:PD X e l) (U:xY e)
  (k:∃ t,oM X rest t/\C (uD (nG i (d2 xR (Gh j) l)) t)):∃ t,oM X (.Assign [.Name x p'] (.Subscript (.Tuple g x1 p) e p2) pos::rest) t/\C t:=by
 obtain⟨t,a,b⟩:=k;exact⟨_,kQ (kU i o (lY hu (Tx j h hw T) r U) J hx rfl (.inl I)) a,b⟩
end
end L2
namespace Lw
open PySem L2
def yH:Aa Af:=["and","or","odd","most","not","odd","and","one","nil","odd","most","or"]
def uF (a b:Int):Aa (gV×D):=oE [] ([("and",2+a),("or",2),("odd",2+b),("most",3),("not",1)].map λc=>((Sum.inr c.1:gV),D.int c.2))
theorem V9 (hw:w∈yH) (g:a=0\/a=1) (j:b=0\/b=1):∃ m:Nat,(kW (uF a b) (Sum.inr w)).getD (.int 0) = .int m/\m<=3/\ArOk w m:=by
 unfold yH at hw;simp only[aK,bE,kL] at hw;have fin:∀ (w:Af) (m:Nat),(kW (uF a b) (Sum.inr w)).getD (.int 0) = .int (m:Nat)->m<=3->ArOk w m->∃ m:Nat,(kW (uF a b) (Sum.inr w)).getD (.int 0) = .int m/\m<=3/\ArOk w m:=λw m c d e=>⟨m,c,d,e⟩
 rcases g with rfl | rfl<;>rcases j with rfl | rfl<;>rcases hw with rfl | rfl | rfl | rfl | rfl | rfl | rfl | rfl | rfl | rfl | rfl | rfl<;>first | exact⟨2,rfl,by decide,⟨by decide⟩⟩ | exact⟨3,rfl,by decide,⟨by decide⟩⟩ | exact⟨1,rfl,by decide,⟨by decide⟩⟩ | exact⟨0,rfl,by decide,⟨by decide⟩⟩
def Jr:RD:=λm h i=>∃ (d:Aa Int) (a k:Nat) (b:Aa Af),h=[.c (d.map D.int),.int a,.int k,.l (b.map D.str)]/\d.length<=63/\a<=500/\k<=50/\b≠[]/\b.length<=100/\∀ (f:Af) (e:Aa Af),ArOk f e.length->(∀ p∈e,p∈b)->i (.v (.t [.str (lR d (6+k)),.str f,.t (e.map D.str)]))
section
variable {P:Ah}{K:kM}
theorem wW:FnScope ["script","at","k","names","draw","word","sizes","many","some","place"] ["script","at","k","names"] (lB Ct):=mT
theorem Ti (T:Txt C) (g:Kn P w K C base 1 "_law_draw" uE ["script","k"] wT) (j:Kn P w K C base 2 "_law_word" xI ["script","i"] Bj):nU P w K C base 3 "_law_gate" Ct ["script","at","k","names"] Jr:=by
 refine oO wW λf aa A I s H E dk ds Φ V W hR=>?_
 obtain⟨O,a,k,x,rfl,R,ha,hk,hx,ac,r⟩:=hR;refine sM (kU 4 wW.nd (lU g V (dK (dT 0) (dK (kS lE lD (mP lE lD 1 gD) (dT 2)) eH)))) ?_;refine EF (i:=5) yH W wW.nd rfl (Or.inl rfl) rfl rfl rfl (by decide) (mP nE nD 4 gD) (λ_ _=>rfl) ?_;refine⟨_,(kQ (kU 6 wW.nd (GK [("and",_),("or",_),("odd",_),("most",_),("not",_)] (Cb xB (kS lE lD gD (kS nE nD (mP vE uU 4 gD) gD)) (Cb xB gD (Cb xB (kS lE lD gD (kS nE nD (mP vE uU 4 gD) gD)) (Cb xB gD (Cb xB gD R6))))))) (kQ (kU 7 wW.nd (Eb W (pv 6) (dT 5) gD)) (kQ (kU 8 wW.nd (rB eH)) (kQ (sL (wE (by rfl) T.range (dT 7)) (kP 9 wW.nd) (lH (sC (rF bZ cO cP uI vG (pv 8) (dK (hI W 3 (kS nE nD (lU g V (dK (dT 0) (dK (kS lE lD (kS lE lD (mP lE lD 1 gD) (kS Bt Bu gD (dT 2))) (dT 9)) eH))) (oP pK pI T.len cB (dK (dT 3) eH)))) eH))))) (lH (mO (kZ (dK (lU j V (dK (dT 0) (dK (kS lE lD gD (dT 2)) eH))) (dK (dT 5) (dK (mQ oZ pB T.tuple bC (rN (pv 8) eH)) eH)))))))))),?_⟩;let b:Aa Sl:=[.v (.c (O.map D.int)),.v (.int a),.v (.int k),.v (.l (x.map D.str))];refine kN (λq=>∃ d:Nat,q=b++[.v (.int d),.n,.n,.n,.n,.n]) (λN y=>?_) ?_
 .exact⟨rfl,O,a+40+k,by simp,R,by omega,.inl rfl,y _ ⟨_,rfl⟩⟩
 rintro _ ⟨d,rfl⟩;refine kN (λq=>∃ F∈yH,q=b++[.v (.int d),.v (.str F),.n,.n,.n,.n]) (λN y=>?_) ?_
 .have J:d%12<yH.length:=dB _ (by decide);refine⟨rfl,by show (0:Int)<12;decide,.str yH[d%12],?_,y _ ⟨_,eT J,rfl⟩⟩;show nO (yH.map D.str) ((d:Int)%12)=_;rw[show (d:Int)%12=((d%12:Nat):Int) by omega];exact qC (by rw[bH,aJ J];rfl)
 rintro _ ⟨F,Z,rfl⟩;have L:∀ z:Int,z%2=0\/z%2=1:=λz=>by omega
 refine kN (λq=>∃ u v:Int,(u=0\/u=1)/\(v=0\/v=1)/\q=b++[.v (.int d),.v (.str F),.o (.k (uF u v)),.n,.n,.n]) (λN y=>?_) ?_
 .exact⟨rfl,⟨by decide,by decide⟩,by show (0:Int)<2;decide,rfl,⟨by decide,by decide⟩,by show (0:Int)<2;decide,by show 5<=15;decide,y _ ⟨_,_,L _,L _,rfl⟩⟩
 rintro _ ⟨u,v,X,Y,rfl⟩;obtain⟨m,hm,ab,U⟩:=V9 Z X Y;refine kN (λq=>q=b++[.v (.int d),.v (.str F),.o (.k (uF u v)),.v (.int m),.n,.n]) (λN y=>?_) ?_
 .refine⟨rfl,_,rfl,y _ ?_⟩;show b++[.v (.int d),.v (.str F),.o (.k (uF u v)),.v ((kW (uF u v) (Sum.inr F)).getD (.int 0)),.n,.n]=_;rw[hm]
 rintro _ rfl;refine kN (λq=>q=b++[.v (.int d),.v (.str F),.o (.k (uF u v)),.v (.int m),.o (.l []),.n]) (λN y=>⟨by show 0<=1000;decide,y _ rfl⟩) ?_;rintro _ rfl;refine kN (λq=>∃ (t:Aa Af) (G:Sl),t.length=m/\(∀ p∈t,p∈x)/\q=b++[.v (.int d),.v (.str F),.o (.k (uF u v)),.v (.int m),.o (.l (t.map D.str)),G]) (λN y=>?_) ?_
 .refine rY (pA 0 m) _ (λΨ h=>⟨by omega,by omega,h⟩) (λi q=>∃ (t:Aa Af) (G:Sl),t.length=i/\(∀ p∈t,p∈x)/\q=b++[.v (.int d),.v (.str F),.o (.k (uF u v)),.v (.int m),.o (.l (t.map D.str)),G]) ⟨[],.n,rfl,λp h=>(nomatch h),rfl⟩ ?_ ?_
  .rintro i e q he ⟨t,G,M,B,rfl⟩;obtain⟨hi,rfl⟩:=yO he;have S:0<x.length:=eM.mpr hx;have Q:∀ z:Nat,nO (x.map D.str) ((z:Int)%((x.map D.str).length:Int))=some (.str (x[z%x.length]'(dB _ S))):=λz=>by
    rw[aA,show (z:Int)%(x.length:Int)=((z%x.length:Nat):Int) by norm_cast];exact qC (by rw[bH,aJ (dB _ S)];rfl)
   refine⟨rfl,rfl,rfl,.inl ⟨by decide,by decide⟩,O,a+50+3*k+i,by simp,R,by omega,.inl rfl,rfl,_,rfl,by show (0:Int)<((x.map D.str).length:Int);rw[aA];omega,_,Q _,by rw[aA];omega,t++[x[kO O (a+50+3*k+i)%x.length]'(dB _ S)],.v (.int (0+(i:Int))),by rw[aD,M];rfl,λp h=>?_,?_⟩
   .rcases aR.mp h with h | h
    .exact B p h
    .rw[aH.mp h];exact eT _
   .rw[aG];rfl
  .rintro q ⟨t,G,M,B,rfl⟩;exact y _ ⟨t,G,by rw[M];simp[pA],B,rfl⟩
 rintro _ ⟨t,G,M,B,rfl⟩;subst M;exact⟨O,6+k,by simp,R,by omega,.inl rfl,rfl,by show 3<=1000;decide,r F t U B⟩
end
def M7 (g:Aa Int):Nat:=if kO g 8%4=1 then 0 else oB g
theorem P8 (g:Aa Int) (i:Nat):(lR g i).cps.toList[M7 g]?=some (97+(i+kO g 3)%26):=by
 unfold lR M7;by_cases h:kO g 8%4=1
 .rw[aU h,aU h];rfl
 .rw[aL h,aL h];have w:∀ u:Af,(nX g i++u).cps.toList[oB g]?=some (97+(i+kO g 3)%26):=λu=>by
   unfold nX oW;rw[pO,pO,pO,An,An,bK,bK,dO (by rw[bW];exact bD _),bW,Nat.sub_self];rfl
  by_cases q:i%2=1/\(nX g i).length<7
  .rw[aU q,pO,gF,w];rw[<- oX,oX,pO,aD,<- oX,Gz];omega
  .rw[aL q,w]
theorem F1 (l:i<26) (o:j<26) (h:lR g i=lR g j):i=j:=by
 have a:=P8 g i;rw[h,P8 g j] at a;have:=bY a;omega
theorem Tg (g:Aa Int) (i:Nat):1<=(lR g i).length/\(lR g i).length<=9:=by
 have a:=Gz g i;have b:oB g<7:=dB _ (by decide);have c:oB g+pU g<7:=by
  have:pU g<7-oB g:=dB _ (by omega);omega
 unfold lR;by_cases h:kO g 8%4=1
 .rw[aU h];exact⟨bD _,by show 1<=9;decide⟩
 .rw[aL h];by_cases q:i%2=1/\(nX g i).length<7
  .rw[aU q,oX,pO,pO,aD,aD,<- oX,a];show 1<=oB g+1+pU g+1+1/\oB g+1+pU g+1+1<=9;omega
  .rw[aL q,oX,pO,aD,<- oX,a];show 1<=oB g+1+pU g+1/\oB g+1+pU g+1<=9;omega
theorem W2 (l:Aa Int){is:Aa Nat}(g:is.Nodup) (h:∀ i∈is,i<26):(is.map (lR l)).Nodup:=by
 induction is with
 | nil=>exact bX
 | cons i is b =>
  obtain⟨c,d⟩:=bN.mp g;rw[aW,bN];refine⟨λz=>?_,b d λj a=>h j (aZ _ a)⟩;obtain⟨j,a,e⟩:=bB.mp z;exact c (F1 (h j (aZ _ a)) (h i aO) e▸a)
end Lw
namespace L2
open PySem PySem.Spec PyProof.Rows
def yX:Expr->Ab (Int×Nat×Pos)
 | .Constant (.int x) j p=>some (x,j,p)
 | _=>none
theorem W3 (h:yX e=some q):e = .Constant (.int q.1) q.2.1 q.2.2:=by
 unfold yX at h;split at h
 .cases h;rfl
 .cases h
def zZ (g:Aa Expr):Aa (Int×Nat×Pos):=g.filterMap yX
theorem Ov:∀ {g:Aa Expr},(g.all λe=>(yX e).isSome)=true->g=(zZ g).map λp=>.Constant (.int p.1) p.2.1 p.2.2
 | [],_=>rfl
 | e::g,h=>by
  rw[jG,cK] at h;obtain⟨q,a⟩:=cZ.mp h.1;have b:=Ov h.2;unfold zZ at b |-;rw[List.filterMap_cons_some a,aW,<- b,<- W3 a]
def Fz (g:Aa Int):lL:=λ_ b a=>a (.v (.t (g.map D.int))) b
section
variable {X:Cx}
theorem BY (l:Aa (Int×Nat×Pos)) (g:l.length<=1000):PD X (.Tuple (l.map λp=>.Constant (.int p.1) p.2.1 p.2.2) x1 pos) (Fz (l.map (·.1))) :=
 (xP (Rf l)).mono λh H Q b=>b.elim λB e T f a hd d k=>⟨by rw[aA,aA];exact bU g (by decide),λp c=>k _ e _ _ a (hd.tupF c (J3 _)).mid d⟩
theorem Sz (j:Aa Int) (h:(g.all λe=>(yX e).isSome)=true:=by rfl) (hw:(zZ g).map (·.1)=j:=by rfl) (l:g.length<=1000:=by decide):PD X (.Tuple g o pos) (Fz j):=by
 have e:=Ov h;have a:(zZ g).length<=1000:=bU (List.length_filterMap_le _ _) l;have:=BY (X:=X) (pos:=pos) (x1:=o) (zZ g) a;rw[<- e,hw] at this;exact this
theorem AW {i:Nat}{x:Af}{p p' p2 pos:Pos}{x1:Nat}{g:Aa Expr}{e:Expr}{l:lL}{rest:Aa Stmt}{C:nQ->Prop}(j:Aa Int) (hu:X.A.units+1<cLine) (o:X.N.Nodup) (J:X.N[i]?=some x) (hx:rT X.env.scope x) (I:X.fn x=true) (h:(g.all λe=>(yX e).isSome)=true) (hw:(zZ g).map (·.1)=j) (T:g.length<=1000) (r:PD X e l) (U:xY e)
  (k:∃ t,oM X rest t/\C (uD (nG i (d2 xR (Fz j) l)) t)):∃ t,oM X (.Assign [.Name x p'] (.Subscript (.Tuple g x1 p) e p2) pos::rest) t/\C t:=by
 obtain⟨t,a,b⟩:=k;exact⟨_,kQ (kU i o (lY hu (Sz j h hw T) r U) J hx rfl (.inl I)) a,b⟩
end
end L2
namespace Lw
open PySem L2
theorem FZ:(["k","script"]:Aa Af).Nodup:=by decide +kernel
theorem Wy (n j:Af) (g:Aa Af):Bq (.v (.t [.str n,.str j,.t (g.map D.str)]))=true:=by
 show (true&&(true&&(sK (g.map D.str)&&true)))=true;rw[Z8 (λ_=>rfl) g];rfl
theorem AG {g:Type}{xs:Aa g}{i:Int}{j:Nat}(l:i<0) (o:i+xs.length=j){v:g}(h:xs[j]?=some v):nO xs i=some v:=by
 have e:sA xs.length i=some j:=by
  unfold sA;rw[aL (by omega),aU (by omega)];congr 1;omega
 unfold nO;rw[e];exact h
def Qd:RD:=λf d e=>∃ (b:Aa Int) (a:Nat),d=[.c (b.map D.int),.int a]/\b.length<=63/\a<=300/\∀ (m g:Nat) (C:Cel),1<=m->m<=6->1<=g->g<=6->C.ins=(List.range m).map (lR b)->C.gates.map (·.1)=(List.range g).map (λk=>lR b (6+k))->GC C->C.outs≠[]->C.outs.length<=4->(∀ o∈C.outs,o∈C.gates.map (·.1))->e (.v (tY C))
section
variable {P:Ah}{K:kM}
theorem vP:FnScope ["script","begin","many","inputs","names","gates","k","outputs","name"] ["script","begin"] (lB Cp):=mT
theorem Sg (T:Txt mg) (r:Kn P w K mg base 1 "_law_draw" uE ["script","k"] wT) (I:Kn P w K mg base 2 "_law_word" xI ["script","i"] Bj) (C:Kn P w K mg base 3 "_law_gate" Ct ["script","at","k","names"] Jr):nU P w K mg base 4 "_law_cell" Cp ["script","begin"] Qd:=by
 refine oO vP λf ah A ag s H E dk ds Φ J U hR=>?_
 obtain⟨d,a,rfl,Z,ha,af⟩:=hR;refine AW (i:=2) [1,2,3,4,2,3,5,6] U vP.nd rfl (Or.inl rfl) rfl rfl rfl (by decide) (kS nE nD (lU r J (dK (dT 0) (dK (dT 1) eH))) gD) (λ_ _=>rfl) ?_;refine⟨_,(kQ (uG 3 ["k"] ["script"] [0] vP.nd (wE (by rfl) T.range (dT 2)) (λ_ _ _ _ _=>(kP 0 FZ)) (λ_ _ _ _ _=>(lU I J (dK (dT 1) (dK (dT 0) eH))))) (kQ (kU 4 vP.nd (mQ vY wN T.list dH (dK (dT 3) eH))) (kQ (kU 5 vP.nd (rB eH)) (kQ (sL (wE (by rfl) T.range (kS lE lD gD (kS nE nD (lU r J (dK (dT 0) (dK (mP lE lD 1 gD) eH))) gD))) (kP 6 vP.nd) (kQ (sC (rF bZ cO cP uI vG (pv 5) (dK (lU C J (dK (dT 0) (dK (dT 1) (dK (dT 6) (rN (pv 4) eH))))) eH))) (lH (sC (rF bZ cO cP uI vG (pv 4) (dK (lY U (hI U 5 (Ho gD)) gD) eH)))))) (kQ (kU 7 vP.nd (rB eH)) (kQ (sL (wE (by rfl) T.range (kS lE lD gD (kS nE nD (lU r J (dK (dT 0) (dK (mP lE lD 1 gD) eH))) gD))) (kP 6 vP.nd) (kQ (kU 8 vP.nd (lY U (hI U 5 (kS C8 Dl (Ho gD) (kS nE nD (lU r J (dK (dT 0) (dK (kS lE lD (mP lE lD 1 gD) (dT 6)) eH))) (oP pK pI T.len cB (rN (pv 5) eH))))) gD)) (lH (qV (wG (sI U) (rR true) (dT 8) (pv 7)) (lH (sC (rF bZ cO cP uI vG (pv 7) (dK (dT 8) eH)))) pC)))) (lH (mO (kZ (dK (mQ oZ pB T.tuple bC (dK (dT 3) eH)) (dK (mQ oZ pB T.tuple bC (rN (pv 5) eH)) (dK (mQ oZ pB T.tuple bC (rN (pv 7) eH)) eH)))))))))))),?_⟩;let b:Aa Sl:=[.v (.c (d.map D.int)),.v (.int a)];refine kN (λu=>∃ m:Nat,1<=m/\m<=6/\u=b++[.v (.int m),.n,.n,.n,.n,.n,.n]) (λN F=>?_) ?_
 .obtain⟨m,Q,R,h3⟩:∃ m:Nat,1<=m/\m<=6/\nO ([1,2,3,4,2,3,5,6].map D.int) ((kO d a:Int)%8)=some (.int m):=by
   have h8:kO d a%8<8:=dB _ (by decide);have key:∀ j:Fin 8,∃ m:Nat,1<=m/\m<=6/\([1,2,3,4,2,3,5,6].map D.int)[j.val]?=some (.int m):=λj=>by
    match j with
    | 0=>exact⟨1,by decide,by decide,rfl⟩
    | 1=>exact⟨2,by decide,by decide,rfl⟩
    | 2=>exact⟨3,by decide,by decide,rfl⟩
    | 3=>exact⟨4,by decide,by decide,rfl⟩
    | 4=>exact⟨2,by decide,by decide,rfl⟩
    | 5=>exact⟨3,by decide,by decide,rfl⟩
    | 6=>exact⟨5,by decide,by decide,rfl⟩
    | 7=>exact⟨6,by decide,by decide,rfl⟩
   obtain⟨m,Q,R,h3⟩:=key ⟨kO d a%8,h8⟩;exact⟨m,Q,R,by rw[show (kO d a:Int)%8=((kO d a%8:Nat):Int) by omega];exact qC h3⟩
  exact⟨d,a,rfl,Z,by omega,.inl rfl,by show (0:Int)<8;decide,_,h3,F _ ⟨m,Q,R,rfl⟩⟩
 rintro _ ⟨m,ac,ae,rfl⟩;let ins:Aa Af:=(List.range m).map (lR d);have O:ins.length=m:=by show ((List.range m).map (lR d)).length=m;rw[aA,dM]
 refine kN (λu=>u=b++[.v (.int m),.o (.l (ins.map D.str)),.n,.n,.n,.n,.n]) (λN F=>?_) ?_
 .unfold nG;refine mM (List.range m) (λi:Nat=>.int (0+(i:Int))) (λi=>.str (lR d i)) (b++[.v (.int m),.n,.n,.n,.n,.n,.n]) (λΨ h=>⟨by omega,by omega,by rw[eJ];exact h⟩) (by rw[dM];omega) (λi x ys Nx e Q R=>?_) (F _ ?_)
  .have hx:=gR.mp (aI e);exact⟨d,x,by simp,Z,by omega,.inl rfl,Q,R⟩
  .show _=b++[.v (.int m),.o (.l (((List.range m).map (lR d)).map D.str)),.n,.n,.n,.n,.n];rw[aP];rfl
 rintro _ rfl;refine kN (λu=>u=b++[.v (.int m),.v (.l (ins.map D.str)),.o (.l (ins.map D.str)),.n,.n,.n,.n]) (λN F=>⟨_,rfl,F _ rfl⟩) ?_;rintro _ rfl;refine kN (λu=>u=b++[.v (.int m),.v (.l (ins.map D.str)),.o (.l (ins.map D.str)),.o (.l []),.n,.n,.n]) (λN F=>⟨by show 0<=1000;decide,F _ rfl⟩) ?_;rintro _ rfl;let st (t:Aa (Af×Af×Aa Af)) (B s7 W:Sl):Aa Sl:=b++[.v (.int m),.v (.l (ins.map D.str)),.o (.l ((ins++t.map (·.1)).map D.str)),.o (.l (t.map lP)),B,s7,W];refine kN (λu=>∃ (g:Nat) (t:Aa (Af×Af×Aa Af)) (B:Sl),1<=g/\g<=6/\t.map (·.1)=(List.range g).map (λk=>lR d (6+k))/\rS ins t/\u=st t B .n .n) (λN F=>?_) ?_
 .have hg:1+kO d (a+1)%6<=6:=by have:=dB (kO d (a+1)) (show 0<6 by decide);omega
  have eg:((1:Int)+(kO d (a+1):Int)%6).toNat=1+kO d (a+1)%6:=by omega
  refine rY (pA 0 (1+kO d (a+1)%6)) _ (λΨ h=>⟨rfl,d,a+1,by simp,Z,by omega,.inl rfl,by show (0:Int)<6;decide,by omega,by omega,by rw[eg];exact h⟩) (λk u=>∃ (t:Aa (Af×Af×Aa Af)) (B:Sl),t.map (·.1)=(List.range k).map (λk=>lR d (6+k))/\rS ins t/\u=st t B .n .n) ⟨[],.n,rfl,True.intro,by simp[st]⟩ ?_ ?_
  .rintro k e u he ⟨t,B,G,M,rfl⟩;obtain⟨hk,rfl⟩:=yO he;have S:t.length=k:=by have:=cH List.length G;rw[aA,aA,dM] at this;exact this
   refine kN (λu=>∃ (X:Af) (V:Aa Af),ArOk X V.length/\(∀ p∈V,p∈ins++t.map (·.1))/\u=b++[.v (.int m),.v (.l (ins.map D.str)),.o (.l ((ins++t.map (·.1)).map D.str)),.o (.l ((t++[(lR d (6+k),X,V)]).map lP)),.v (.int (0+(k:Int))),.n,.n]) (λN F=>?_) ?_
   .refine⟨rfl,rfl,d,a,k,ins++t.map (·.1),by simp,Z,by omega,by omega,?_,by rw[aD,O,aA];omega,λX V Q R=>⟨.inr (Wy _ _ _),by rw[aA];omega,F _ ⟨X,V,Q,R,?_⟩⟩⟩
    .intro z;have:=cH List.length z;rw[aD,O,cS] at this;omega
    .rw[aG (f:=lP)];rfl
   rintro _ ⟨X,V,Q,R,rfl⟩;refine⟨rfl,rfl,lP (lR d (6+k),X,V),by rw[aG];exact CJ _ _,.str (lR d (6+k)),qC (j:=0) rfl,by rw[aA,aD,O,aA];omega,t++[(lR d (6+k),X,V)],.v (.int (0+(k:Int))),?_,M.snoc Q R,?_⟩
   .rw[aG,G,kG,aG];rfl
   .show _=st (t++[(lR d (6+k),X,V)]) _ .n .n;simp only[st,aG,bK];rfl
  .rintro u ⟨t,B,G,M,rfl⟩;refine F _ ⟨1+kO d (a+1)%6,t,B,by omega,hg,?_,M,rfl⟩;rw[G];simp[pA]
 rintro _ ⟨g,t,B,aa,ab,G,M,rfl⟩;have S:t.length=g:=by have:=cH List.length G;rw[aA,aA,dM] at this;exact this
 refine kN (λu=>u=st t B (.o (.l [])) .n) (λN F=>⟨by show 0<=1000;decide,F _ rfl⟩) ?_;rintro _ rfl;refine kN (λu=>∃ (os:Aa Af) (B W:Sl),os≠[]/\os.length<=4/\os.Nodup/\(∀ o∈os,o∈t.map (·.1))/\u=st t B (.o (.l (os.map D.str))) W) (λN F=>?_) ?_
 .have hg:1+kO d (a+2)%4<=4:=by have:=dB (kO d (a+2)) (show 0<4 by decide);omega
  have eg:((1:Int)+(kO d (a+2):Int)%4).toNat=1+kO d (a+2)%4:=by omega
  refine rY (pA 0 (1+kO d (a+2)%4)) (st t B (.o (.l [])) .n) (λΨ h=>⟨rfl,d,a+2,by simp,Z,by omega,.inl rfl,by show (0:Int)<4;decide,by omega,by omega,by rw[eg];exact h⟩) (λk u=>∃ (os:Aa Af) (B W:Sl),(0<k->os≠[])/\os.length<=k/\os.Nodup/\(∀ o∈os,o∈t.map (·.1))/\u=st t B (.o (.l (os.map D.str))) W) ⟨[],B,.n,λh=>absurd h (by decide),bD _,bX,λ_ h=>absurd h bE,rfl⟩ ?_ ?_
  .rintro k e u he ⟨os,B,W,on,ol,L,Y,rfl⟩;obtain⟨hk,rfl⟩:=yO he;refine kN (λu=>∃ x∈t.map (·.1),u=st t (.v (.int (0+(k:Int)))) (.o (.l (os.map D.str))) (.v (.str x))) (λN F=>?_) ?_
   .have hj:=dB (kO d (a+20+k)) (show 0<g by omega);have hq:g-1-kO d (a+20+k)%g<t.length:=by omega
    refine⟨rfl,rfl,d,a+20+k,by simp,Z,by omega,.inl rfl,rfl,rfl,(t.map lP).length,rfl,by show (0:Int)<((t.map lP).length:Int);rw[aA];omega,lP t[g-1-kO d (a+20+k)%g],AG (xs:=t.map lP) (j:=g-1-kO d (a+20+k)%g) ?_ ?_ (by rw[bH,aJ hq];rfl),.str t[g-1-kO d (a+20+k)%g].1,qC (j:=0) rfl,F _ ⟨_,cA (eT hq),rfl⟩⟩
    .have:(kO d (a+20+k):Int)%((t.map lP).length:Int)=((kO d (a+20+k)%g:Nat):Int):=by rw[aA,S];omega
     show -1-(kO d (a+20+k):Int)%((t.map lP).length:Int)<0;rw[this];omega
    .have:(kO d (a+20+k):Int)%((t.map lP).length:Int)=((kO d (a+20+k)%g:Nat):Int):=by rw[aA,S];omega
     show -1-(kO d (a+20+k):Int)%((t.map lP).length:Int)+((t.map lP).length:Int)=_;rw[this,aA,S];omega
   rintro _ ⟨x,hx,rfl⟩;refine⟨_,_,rfl,rX _,?_⟩;rw[qR];by_cases hm:x∈os
   .refine nL (by simp[nb,hm]) ?_;exact⟨os,_,_,λ_ z=>absurd hm (by rw[z];exact bE),by omega,L,Y,rfl⟩
   .refine oJ (by simp[nb,hm]) ?_;refine⟨rfl,by rw[aA];omega,os++[x],.v (.int (0+(k:Int))),.v (.str x),λ_ z=>absurd z (by simp),by rw[aD];exact jD ol,?_,?_,?_⟩
    .rw[bS];exact⟨L,bN.mpr ⟨bE,bX⟩,λy hy z hz e=>hm (by rw[<- aH.mp hz,<- e];exact hy)⟩
    .intro o ho;rcases aR.mp ho with q | q
     .exact Y o q
     .rw[aH.mp q];exact hx
    .rw[aG];rfl
  .rintro u ⟨os,B,W,on,ol,L,Y,rfl⟩;rw[show (pA 0 (1+kO d (a+2)%4)).length=1+kO d (a+2)%4 by simp[pA]] at on ol;exact F _ ⟨os,B,W,on (by omega),by omega,L,Y,rfl⟩
 rintro _ ⟨os,B,W,on,ol,L,Y,rfl⟩;refine⟨rfl,rfl,?_⟩;show 3<=1000/\Φ (.v (tY ⟨ins,t,os⟩));have nd:(ins++t.map (·.1)).Nodup:=by
  have e:ins++t.map (·.1)=(List.range m++(List.range g).map (6+·)).map (lR d):=by rw[G,aG,aP];rfl
  rw[e];refine W2 d ?_ ?_
  .rw[bS];refine⟨jZ,gO _ (λx y h e=>h (by have e2:6+x=6+y:=e;omega)) (jZ (n:=g)),λx hx y hy e=>?_⟩;obtain⟨z,_,rfl⟩:=bB.mp hy;have:=gR.mp hx;omega
  .intro i hi;rcases aR.mp hi with q | q
   .have:=gR.mp q;omega
   .obtain⟨z,hz,rfl⟩:=bB.mp q;have:=gR.mp hz;omega
 exact⟨by decide,af m g ⟨ins,t,os⟩ ac ae aa ab rfl G ⟨nd,M,λo ho=>aT _ (Y o ho),L,by show ins.length<=40;omega,by show t.length<=40;omega,by show os.length<=40;omega⟩ on ol Y⟩
end
end Lw
namespace L2
open PySem PySem.Spec PyProof.Rows Lw
def Oa (n i:Nat) (g:tN) (C:pX) (p:lL):lL:=λk m q=>∃ e:Aa D,m[i]?=some (.o (.l e))/\∃ Pv:Nat->Aa D->Prop,Pv 0 [] /\
 (∀ j d a,e[j]?=some d->Pv j a->g d (List.replicate n Sl.n) λf=>C k f λb h=>if b=true then p k h λr s=>match sd r with
  | some c=>a.length<100000/\Pv (j+1) (a++[c])
  | none=>False
  else Pv (j+1) a) /\
 ∀ a,Pv e.length a->q (.o (.l a)) m
theorem Zp:pG [] g j=j:=by cases g<;>rfl
section
variable {X:Cx}
theorem Ma (T:Aa Af) (i:Nat)
  (hg:∀ U J C cl fp,uA (qA X (T++[]) I cl C U J fp) T.length tg g)
  (he:∀ U J C cl fp,PD (qA X (T++[]) I cl C U J fp) aa te)
  (ht:∀ U J C cl fp,tF (qA X (T++[]) I cl C U J fp) ab (rM X.K tt):=by exact λ_ _ _ _ _=>Fg) (hi:PE X (.Name x p) (pP i):=by exact pv _) (hc:X.calm=true:=by rfl) (hk:I.kind = .function:=by rfl) (ho:yV X.N X.env.kindOf I T [] []=true:=by rfl) (hs:∀ y,foldedSetIterable (.Name x p) X.env y=pure y:=by intro _;rfl):PD X (.ListComp aa [⟨tg,.Name x p,ab,0⟩] I pos) (Oa T.length i g tt te) :=
 (C6 (g:=dG X.K T.length g) (te:=dE X.K te) T [] [] hc (K3 hi) hk ho hg ht he hs).mono λu H Q R=>R.elim λB m Tm Φ E hd ⟨w,W,Pv,p0,step,fin⟩ k=>by
  have b:=hd.lend1 E i;rw[W] at b;have b:DS X.K B ((m.set i .n).zip u++(.o (.l w),(u[i]?).join)::Tm) H:=b;obtain⟨a,f,vs,h1,r1⟩:=b.at;have f:(u[i]?).join=some (.ref a):=f;have es:u[i]?=some (some (.ref a)):=by
   cases q:u[i]? with
   | none=>rw[q] at f;cases f
   | some y=>rw[q] at f;rw[show y=some (V.ref a) from f]
  rw[f] at b;refine⟨.ref a,es,.inl ⟨a,rfl,⟨vs,lG.of h1⟩,λdd hD=>?_⟩⟩;refine D0 (g:=g) (te:=te) (caps:=[]) (ds:=w) (Tm:=(.o (.l w),some (.ref a))::Tm) (Φ:=λr D=>D=m.set i .n/\Φ r m) (B:=B) bX (by rw[bV];exact E) b (λj z La M H2 hM d=>?_) ⟨λj z G=>Pv j z,p0,λj d z G hj A P=>?_,λz G A P=>⟨Zp,fin z P⟩⟩ (λr D v F l d h=>?_) hD
  .obtain⟨a',L,e,s,t⟩:=d.ok _ (aT _ (hM _ aO));cases L;refine⟨λhi=>⟨e,e[j]'(by rw[<- t.length];exact hi),lG.of s,aJ _⟩,λhi=>⟨e,lG.of s,by rw[<- t.length];omega⟩,λx H3 hi y=>?_⟩;obtain⟨y1,y2⟩:=y;subst y1;obtain⟨c,hc,rc⟩:=t.getV (y2 e (lG.of s));exact⟨c,hc,d.push rc⟩
  .cases G with
   | nil=>rw[cG];exact step j d z hj P
   | cons _ _=>cases A
  .obtain⟨rfl,h⟩:=h;have d2:DS X.K B (((m.set i .n).zip u++[(r,some v)])++(.o (.l w),some (.ref a))::Tm) F:=by simpa using d
   have Y:DS X.K B ((m.set i .n).zip u++(.o (.l w),some (.ref a))::(r,some v)::Tm) F:=d2.perm (by
    rw[bK];exact jB _ (List.Perm.swap ..))
   have S:=Y.back1 (by rw[bV];exact E) f;have e4:(m.set i Sl.n).set i (.o (.l w))=m:=by
    rw[List.set_set];obtain⟨O,Z⟩:=aV.mp W;rw[<- Z];exact List.set_getElem_self O
   rw[e4] at S;exact k r m v F E S h
theorem Pf (p:Aa α) (f h:α->D) (T:I[i]?=some (.o (.l (p.map f)))) (hl:p.length<=1000)
  (step:∀ x∈p,∀ N:Sl->Prop,N (.v (h x))->g (f x) (List.replicate n Sl.n) λC=>U J C λr _=>N r) (fin:Φ (.o (.l (p.map h))) I):Oa n i g I0 U J I Φ:=by
 refine⟨_,T,λj b=>b=(p.take j).map h,rfl,λj d b a e=>?_,λb e=>?_⟩
 .rw[bH] at a;cases q:p[j]? with
  | none=>rw[q] at a;cases a
  | some x =>
   rw[q] at a;cases a;have k:=(aV.mp q).1;refine step x (aI q) (λr=>match sd r with | some c=>b.length<100000/\b++[c]=(p.take (j+1)).map h | none=>False) ?_;subst e;exact⟨by rw[aA,dD];omega,by rw[dZ,q,aG];rfl⟩
 .subst e;rw[aA,fY];exact fin
end
end L2
namespace Lw
open PySem L2
theorem Oz:(["pair"]:Aa Af).Nodup:=by decide +kernel
def oF (p:Af×Af):D:=.t [.str p.1,.str p.2]
structure Alg (C:Cel) (prs:List (Str×Str)):Prop where
 o:∀ p∈prs,p.1∈C.outs/\p.2∈C.ins
 n1:(prs.map (·.1)).Nodup
 n2:(prs.map (·.2)).Nodup
 l:prs.length<=4
theorem Ka (h:g.Nodup) (q:x∉g):(g++[x]).Nodup:=by
 rw[bS];exact⟨h,bN.mpr ⟨bE,bX⟩,λy a z b e=>q (by rw[<- aH.mp b,<- e];exact a)⟩
def Ny:RD:=λh e f=>∃ (d:Aa Int) (a:Nat),e=[.c (d.map D.int),.int a]/\d.length<=63/\a<=300/\∀ (m g:Nat) (C:Cel) (b:Aa (Af×Af)),1<=m->m<=6->1<=g->g<=6->C.ins=(List.range m).map (lR d)->C.gates.map (·.1)=(List.range g).map (λk=>lR d (6+k))->GC C->C.outs≠[]->C.outs.length<=4->(∀ o∈C.outs,o∈C.gates.map (·.1))->Alg C b->f (.v (hQ C b))
section
variable {P:Ah}{K:kM}
theorem zE:FnScope ["script","begin","cell","along","k","output","name"] ["script","begin"] (lB Fd):=mT
theorem Sy (T:Txt mg) (j:Kn P w K mg base 1 "_law_draw" uE ["script","k"] wT) (r:Kn P w K mg base 4 "_law_cell" Cp ["script","begin"] Qd):nU P w K mg base 5 "_law_row" Fd ["script","begin"] Ny:=by
 refine oO zE λf ac A ab s H E dk ds Φ W B hR=>?_
 obtain⟨i,a,rfl,S,ha,aa⟩:=hR;refine⟨_,(kQ (kU 2 zE.nd (lU r W (dK (dT 0) (dK (dT 1) eH)))) (kQ (kU 3 zE.nd (rB eH)) (kQ (sL (wE (by rfl) T.range (kS nE nD (lU j W (dK (dT 0) (dK (mP lE lD 1 gD) eH))) gD)) (kP 4 zE.nd) (kQ (kU 5 zE.nd (lY B (hI B 2 gD) (kS nE nD (lU j W (dK (dT 0) (dK (kS lE lD (mP lE lD 1 gD) (dT 4)) eH))) (oP pK pI T.len cB (dK (hI B 2 gD) eH))))) (kQ (kU 6 zE.nd (lY B (hI B 2 gD) (kS nE nD (lU j W (dK (dT 0) (dK (kS lE lD (mP lE lD 1 gD) (dT 4)) eH))) (oP pK pI T.len cB (dK (hI B 2 gD) eH))))) (lH (qV (wF (Hb (uC (sI B) (rR true) (pv 5) (Ma ["pair"] 3 (λ_ _ _ _ _=>(kP 0 Oz)) (λ_ _ _ _ _=>(hI B 0 gD)))) (Hq (uC (sI B) (rR true) (pv 6) (Ma ["pair"] 3 (λ_ _ _ _ _=>(kP 0 Oz)) (λ_ _ _ _ _=>(hI B 0 gD))))))) (lH (sC (rF bZ cO cP uI vG (pv 3) (dK (kZ (dK (dT 5) (dK (dT 6) eH))) eH)))) pC))))) (lH (mO (kZ (dK (dT 2) (dK (mQ oZ pB T.tuple bC (rN (pv 3) eH)) eH)))))))),?_⟩;let b:Aa Sl:=[.v (.c (i.map D.int)),.v (.int a)];refine kN (λz=>∃ (m g:Nat) (C:Cel),1<=m/\m<=6/\1<=g/\g<=6/\C.ins=(List.range m).map (lR i)/\C.gates.map (·.1)=(List.range g).map (λk=>lR i (6+k))/\GC C/\C.outs≠[]/\C.outs.length<=4/\(∀ o∈C.outs,o∈C.gates.map (·.1))/\z=b++[.v (tY C),.n,.n,.n,.n]) (λN u=>?_) ?_
 .exact⟨i,a,rfl,S,ha,λm g C X Y Z I Q J U R h9 M=>⟨.inl rfl,u _ ⟨m,g,C,X,Y,Z,I,Q,J,U,R,h9,M,rfl⟩⟩⟩
 rintro _ ⟨m,g,C,X,Y,Z,I,Q,J,U,R,h9,M,rfl⟩;refine kN (λz=>z=b++[.v (tY C),.o (.l []),.n,.n,.n]) (λN u=>⟨by show 0<=1000;decide,u _ rfl⟩) ?_;rintro _ rfl;let st (d:Aa (Af×Af)) (G L F:Sl):Aa Sl:=b++[.v (tY C),.o (.l (d.map oF)),G,L,F];refine kN (λz=>∃ (d:Aa (Af×Af)) (G L F:Sl),Alg C d/\z=st d G L F) (λN u=>?_) ?_
 .have hg:kO i (a+3)%5<=4:=by have:=dB (kO i (a+3)) (show 0<5 by decide);omega
  have eg:((kO i (a+3):Int)%5).toNat=kO i (a+3)%5:=by omega
  refine rY (pA 0 (kO i (a+3)%5)) (st [] .n .n .n) (λΨ h=>⟨rfl,i,a+3,by simp,S,by omega,.inl rfl,by show (0:Int)<5;decide,by omega,by omega,by rw[eg];exact h⟩) (λk z=>∃ (d:Aa (Af×Af)) (G L F:Sl),(Alg C d/\d.length<=k)/\z=st d G L F) ⟨[],.n,.n,.n,⟨⟨λ_ h=>absurd h bE,bX,bX,by decide⟩,bD _⟩,rfl⟩ ?_ ?_
  .rintro k e z he ⟨d,G,L,F,⟨al,pl⟩,rfl⟩;obtain⟨hk,rfl⟩:=yO he;let s0:Sl:=.v (.int (0+(k:Int)));refine kN (λz=>∃ x∈C.outs,z=st d s0 (.v (.str x)) F) (λN u=>?_) ?_
   .have O:=dB (kO i (a+30+k)) (show 0<C.outs.length from eM.mpr R);refine⟨rfl,.t (C.outs.map D.str),rfl,rfl,i,a+30+k,by simp,S,by omega,.inl rfl,rfl,.t (C.outs.map D.str),rfl,rfl,(C.outs.map D.str).length,rfl,by show (0:Int)<((C.outs.map D.str).length:Int);rw[aA];omega,.str C.outs[kO i (a+30+k)%C.outs.length],?_,u _ ⟨_,eT O,rfl⟩⟩;rw[aA,show (kO i (a+30+k):Int)%(C.outs.length:Int)=((kO i (a+30+k)%C.outs.length:Nat):Int) by omega];exact qC (by rw[bH,aJ O];rfl)
   rintro _ ⟨x,hx,rfl⟩;refine kN (λz=>∃ y∈C.ins,z=st d s0 (.v (.str x)) (.v (.str y))) (λN u=>?_) ?_
   .have li:C.ins.length=m:=by rw[Q,aA,dM]
    have O:=dB (kO i (a+35+k)) (show 0<C.ins.length by omega);refine⟨rfl,.t (C.ins.map D.str),rfl,rfl,i,a+35+k,by simp,S,by omega,.inl rfl,rfl,.t (C.ins.map D.str),rfl,rfl,(C.ins.map D.str).length,rfl,by show (0:Int)<((C.ins.map D.str).length:Int);rw[aA];omega,.str C.ins[kO i (a+35+k)%C.ins.length],?_,u _ ⟨_,eT O,rfl⟩⟩;rw[aA,show (kO i (a+35+k):Int)%(C.ins.length:Int)=((kO i (a+35+k)%C.ins.length:Nat):Int) by omega];exact qC (by rw[bH,aJ O];rfl)
   rintro _ ⟨y,hy,rfl⟩;refine Gv (!decide (x∈d.map (·.1))) (!decide (y∈d.map (·.2))) (λΨ h=>?_) (λΨ h=>?_) ?_
   .refine⟨rfl,?_⟩;refine Pf d oF (λp=>.str p.1) rfl (by omega) (λp hp N u=>⟨rfl,_,rfl,u⟩) ?_;refine⟨.str x,(d.map (·.1)).map V.str,rfl,?_,?_⟩
    .rw[show (d.map λp=>D.str p.1)=(d.map (·.1)).map D.str by rw[aP];rfl];exact rX _
    .rw[qR];exact h
   .refine⟨rfl,?_⟩;refine Pf d oF (λp=>.str p.2) rfl (by omega) (λp hp N u=>⟨rfl,_,rfl,u⟩) ?_;refine⟨.str y,(d.map (·.2)).map V.str,rfl,?_,?_⟩
    .rw[show (d.map λp=>D.str p.2)=(d.map (·.2)).map D.str by rw[aP];rfl];exact rX _
    .rw[qR];exact h
   by_cases q1:x∈d.map (·.1)
   .exact nL (by simp[q1]) ⟨d,_,_,_,⟨al,by omega⟩,rfl⟩
   by_cases q2:y∈d.map (·.2)
   .exact nL (by simp[q2]) ⟨d,_,_,_,⟨al,by omega⟩,rfl⟩
   refine oJ (by simp[q1,q2]) ⟨rfl,by show 2<=1000;decide,by rw[aA];omega,d++[(x,y)],s0,.v (.str x),.v (.str y),⟨⟨λp hp=>?_,?_,?_,by rw[aD];show _+1<=4;omega⟩,by rw[aD];exact jD pl⟩,?_⟩
   .rcases aR.mp hp with q | q
    .exact al.o p q
    .rw[aH.mp q];exact⟨hx,hy⟩
   .rw[aG];exact Ka al.n1 q1
   .rw[aG];exact Ka al.n2 q2
   .show _=st (d++[(x,y)]) _ _ _;simp only[st,aG];rfl
  .rintro z ⟨d,G,L,F,⟨al,pl⟩,rfl⟩;exact u _ ⟨d,G,L,F,al,rfl⟩
 rintro _ ⟨d,G,L,F,al,rfl⟩;refine⟨rfl,by show 2<=1000;decide,?_⟩;exact aa m g C d X Y Z I Q J U R h9 M al
end
def lettersS:Af := "abcdefghijklmnopqrstuvwxyz"
def Ap:Aa Af:=["in","out"]
def uN (z:Af):Ab (Aa Int) :=
 if z = "and" \/ z = "or" \/ z = "odd" then some [2,3] else if z = "most" then some [3] else if z = "not" then some [1] else if z = "one" \/ z = "nil" then some [0] else none
structure Tops (K:kM) (w:World) (mg:Str->Option Value):Prop where
 lets:∃ t,mg "LETTERS" = some (.str lettersS t)
 long:∃ t,mg "LONGEST_NAME" = some (.int 8 t)
 side:∃ a,mg "SIDE_WORDS" = some (.ref a)/\∀ H,lZ K H a (Ap.map V.str)
 cnt:∃ a kvs,mg "NAME_COUNTS" = some (.ref a)/\F7 K w a kvs/\∀ z:Str,(pN kvs (Sum.inr z)=none/\uN z=none)\/∃ t ns,pN kvs (Sum.inr z)=some (.ref t)/\uN z=some ns/\∀ H,lZ K H t (ns.map V.int)
 all:mg "all" = none
def tR (c:Nat):Bool:=!(Builtin.Str.occurrences lettersS ⟨#[c]⟩ 0 lettersS.length 1).isEmpty
def qO (z:Af):Bool:=z.cps.toList.all tR&&(decide ((1:Int)<=z.length)&&decide ((z.length:Int)<=8)) && !(uN z).isSome && !decide (z∈Ap)
def Yy:Sp:=λc H Q _=>∃ z:Af,c=[.str z]/\z.cps.all (·<128)=true/\z.length<=1000/\∀ a,mF H a->Q (.b (qO z)) a
theorem DX (z:Af):∀ (f:V->V),(∀ c,f (.str ⟨#[c]⟩) = .b (tR c))->(sQ z).map f=(z.cps.toList.map tR).map V.b:=by
 intro f a;unfold sQ;rw[aP,aP];refine eK λc _=>a c
def Ai:V->V
 | .str x=>.b (!(Builtin.Str.occurrences lettersS x 0 lettersS.length 1).isEmpty)
 | v=>v
theorem Az (x:Af):([x]:Aa Af).Nodup:=by simp
theorem Xs (h:H p=none):mF H (upd H p o):=λb u e=>by rw[kX (nP e h)];exact e
theorem Uy (g:Aa Af):(g.map V.str).all qI=true:=by
 rw[eF];intro v a;obtain⟨y,_,rfl⟩:=bB.mp a;rfl
section
variable {P:Ah}{K:kM}
theorem EE:FnScope ["text"] ["text"] (lB Ob):=mT
theorem BQ (F:Fun K "is_name" "is_name" Ob f fd) (T:Txt o) (O:Tops K w o):FnOk P w K o base lV 1 f fd ["text"] Yy:=by
 refine F.ok EE (λvs H Q E h=>?_) (λJ A W s H vs Q E hr h=>?_)
 .obtain⟨z,rfl,_⟩:=h;rfl
 .obtain⟨z,rfl,ha,j,k⟩:=h;obtain⟨I,el⟩:=O.lets;obtain⟨r,U⟩:=O.long;obtain⟨M,es,hs⟩:=O.side;obtain⟨G,B,L,kd,hc⟩:=O.cnt;have rl:kR (.str lettersS) (.str lettersS I):=⟨I,rfl⟩;have r8:kR (.int 8) (.int 8 r):=⟨r,rfl⟩;have rs:kR (.ref M) (.ref M):=rfl;have rc:kR (.ref G) (.ref G):=rfl;refine⟨_,sP (wJ (Be (xG (wB (Q7 rfl) (by rfl) O.all PyProof.Rows.boot_all (mW (C6 ["sign"] [] [] rfl (CU (pv 0)) rfl rfl (λd a C X g=>Dp (i:=0) (Az _) rfl (Or.inl rfl)) (λd a C X g=>Kt) (λd a C X g=>Dx Q6 (pv 0) (sF (by rfl) el rl) rfl)) pW)))) (qG (tJ sG)) wX) (qG (tJ (J1 (Yp Hm Hm Fa (wB Qn (by rfl) T.len cB (mW (pv 0) pW)) (sF (by rfl) U r8)) (J1 (Dx Vj (pv 0) (sF (by rfl) L rc) rfl) (J7 (Dx J5 (pv 0) (sF (by rfl) es rs) rfl)))))),?_⟩;refine⟨_,rfl,z,rfl,ha,λv D=>?_⟩;have p:mF H (upd H v (.l ((sQ z).map Ai))):=Xs D;refine Tz Xt Ai D (λ_ _=>True.intro) ?_ ?_ ?_
  .unfold sQ;rw[List.length_map,Vl];exact j
  .rintro i x H2 kk u sm q;obtain⟨c,rfl⟩:∃ c,x=V.str ⟨#[c]⟩:=by
    unfold sQ at u;rw[bH] at u;cases e:z.cps.toList[i]? with
    | none=>rw[e] at u;cases u
    | some c=>rw[e] at u;exact⟨c,(bY u).symm⟩
   exact⟨_,rfl,_,_,rfl,rfl,q⟩
  .have em:=DX z Ai λc=>rfl
   refine⟨v,z.cps.toList.map tR,rfl,lG.of (by rw[lT,em]),_,rfl,?_⟩;have y:(z.cps.toList.map tR).all id=z.cps.toList.all tR:=by rw[kC];rfl
   rw[y];refine Er (λh=>?_) (λh=>?_)
   .have N:z.cps.toList.all tR=false:=by simpa using h
    refine (?_:Q _ _);have:=k _ p;unfold qO at this;rw[N] at this
    simpa using this
   .have N:z.cps.toList.all tR=true:=by simpa using h
    have hz:z.length<=sizeLine:=bU j (by decide);have fin:∀ b,b=((decide ((1:Int)<=z.length)&&decide ((z.length:Int)<=8)) && !(uN z).isSome && !decide (z∈Ap))->Q (.b b) (upd H v (.l ((sQ z).map Ai))):=by
     intro b eb;have:=k _ p;unfold qO at this;rw[N,Bool.true_and] at this;rw[eb];exact this
    have S:(pN B (Sum.inr z)).isSome=(uN z).isSome:=by
     rcases hc z with⟨Y,Z⟩ | ⟨t,ns,Y,Z,_⟩<;>rw[Y,Z]<;>rfl
    refine⟨_,rfl,z,rfl,hz,_,_,rfl,rfl,_,rfl,?_⟩;have tail:∀ c:Bool,c=(decide ((1:Int)<=z.length)&&decide ((z.length:Int)<=8))->(if c=true then Qf (zA (Mm K w true) (pP 0) (tC (V.ref G))) (zA (Ey K true) (pP 0) (tC (V.ref M))) (L2.start ["text"] [V.str z]) (upd H v (.l ((sQ z).map Ai))) Q else Q (.b false) (upd H v (.l ((sQ z).map Ai)))):=by
     intro c L;refine Er (λm=>?_) (λm=>?_)
     .refine⟨_,rfl,z,G,B,rfl,rfl,kd,_,rfl,?_⟩;rw[S];refine Er (λR=>?_) (λR=>?_)
      .refine⟨_,rfl,M,_,rfl,.inr (hs _),rfl,Uy _,?_⟩;refine fin _ ?_;rw[qR,<- L,m];have n:(!(uN z).isSome)=true:=R;rw[n];rfl
      .refine fin _ ?_;have n:(!(uN z).isSome)=false:=jV.mpr R;rw[n];simp
     .refine fin _ ?_;rw[<- L];have:c=false:=by simpa using m
      rw[this];simp
    refine Er (λm=>?_) (λm=>?_)
    .refine⟨_,_,rfl,rfl,_,rfl,tail _ ?_⟩;rw[m,Bool.true_and]
    .refine⟨_,rfl,tail _ ?_⟩;have:decide ((1:Int)<=(z.length:Int))=false:=by simpa using m
     rw[this];rfl
def Ju:RD:=λd a c=>∃ z:Af,a=[.str z]/\z.cps.all (·<128)=true/\z.length<=1000/\c (.v (.b (qO z)))
theorem Q0 (T:Txt g) (O:Tops K w g):nU P w K g base 1 "is_name" Ja ["text"] Ju:=λf fd F=>(BQ F T O).imp λD H Q E h=>by
 obtain⟨x,A,y,L,c,B,r,⟨z,rfl,m,n,s⟩,k⟩:=h;cases r with
 | cons u v =>
  cases v;have:=u.str_inv;subst this;exact⟨z,rfl,m,n,λi d=>k _ _ i s (λb o e _=>d b o e) (c.keep λa t=>by
   obtain⟨G,q⟩:=c.some t;rw[d a _ q,q]) (Rep.b _)⟩
end
theorem Qr:(["output","name"]:Aa Af).Nodup:=by decide +kernel
theorem Vf:(["name","row"]:Aa Af).Nodup:=by decide +kernel
section
variable {P:Ah}{K:kM}
theorem Zv:FnScope ["row"] ["row"] (lB Bm):=mT
theorem X5:FnScope ["row"] ["row"] (lB Ei):=mT
theorem J0:nU P w K g base 1 "_law_carried" Bm ["row"] xD:=by
 refine oO Zv λf d A b s H E x y G z u q=>?_
 obtain⟨C,c,rfl,B,a⟩:=q;refine⟨_,(lH (mO (mS ["output","name"] [] [] (lK (hI u 0 gD)) (λ_ _ _ _ _=>(pL (n:=2) rfl (mE (kP 0 Qr) (mE (kP 1 Qr) pH)))) (λ_ _ _ _ _=>(dT 1))))),?_⟩;unfold sT;exact mM c (λp=>D.t [.str p.1,.str p.2]) (λp=>D.str p.2) _ (λL h=>⟨rfl,_,rfl,h⟩) (by omega) (λi p F v e k m=>⟨rfl,rfl,k,m⟩) a
theorem Yv (g:Kn P w K j base 1 "_law_carried" Bm ["row"] xD):nU P w K j base 2 "_law_wordly" Ei ["row"] B8:=by
 refine oO X5 λf k A d s H E F G N y b v=>?_
 obtain⟨C,a,rfl,z,L,c⟩:=v;refine⟨_,(lH (mO (mS ["name"] ["row"] [0] (lK (lY b (hI b 0 gD) gD)) (λ_ _ _ _ _=>(kP 0 Vf)) (λ_ _ _ _ _=>(dT 0)) (ht:=λ_ _ _ _ _=>(tK (uC (sI b) (rR true) (pv 0) (lU g y (dK (dT 1) eH)))))))),?_⟩;unfold sT;refine sR C.ins D.str D.str (λx=>!decide (x∈a.map λp:Af×Af=>p.2)) _ (λO h=>⟨rfl,_,rfl,_,rfl,h⟩) (by omega) (λi x M B e n t u=>?_) c;have m:(a.map λp=>D.str p.2)=(a.map (·.2)).map D.str:=by rw[aP];rfl
 refine⟨rfl,C,a,rfl,z,.inl rfl,.str x,(a.map (·.2)).map V.str,rfl,by rw[m];exact rX _,?_⟩;rw[qR];show if (!decide (x∈a.map (·.2)))=true then _ else _
 by_cases q:x∈a.map (·.2)
 .exact nL (by rw[aX q];rfl) (u (by rw[aX q];rfl))
 .exact oJ (by rw[aQ q];rfl) ⟨n,t (by rw[aQ q];rfl)⟩
end
theorem BM:(["name","turned"]:Aa Af).Nodup:=by decide +kernel
theorem AI:(["name","gone"]:Aa Af).Nodup:=by decide +kernel
theorem Gc:(["name","word","names"]:Aa Af).Nodup:=by decide +kernel
def Nc:RD:=λe c d=>∃ (b:Aa Af) (a:Aa (gV×D)) (f:Af->Af),c=[.t (b.map D.str),.k a]/\b.length<=100/\(∀ x∈b,kW a (Sum.inr x)=some (.str (f x)))/\d (.v (.t ((b.map f).map D.str)))
def Jl:RD:=λe c d=>∃ (a b:Aa Af),c=[.t (a.map D.str),.l (b.map D.str)]/\a.length<=100/\d (.v (.t ((a.filter λx=>!decide (x∈b)).map D.str)))
def Ek:RD:=λd b c=>∃ C a,b=[hQ C a]/\C.gates.length<=100/\C.ins.length<=100/\c (.v (.t (C.names.map D.str)))
section
variable {P:Ah}{K:kM}
theorem Xw:FnScope ["names","turned"] ["names","turned"] (lB Em):=mT
theorem Xo:FnScope ["names","gone"] ["names","gone"] (lB Do):=mT
theorem Xi:FnScope ["row"] ["row"] (lB yY):=mT
theorem Zr (T:Txt g):nU P w K g base 1 "all_turned" Em ["names","turned"] Nc:=by
 refine oO Xw λf d A c s H E y z L B q n=>?_
 obtain⟨u,b,f,rfl,F,t,a⟩:=n;refine⟨_,(lH (mO (mQ oZ pB T.tuple bC (dK (mS ["name"] ["turned"] [1] (lK (dT 0)) (λ_ _ _ _ _=>(kP 0 BM)) (λ_ _ _ _ _=>(hI q 1 (dT 0)))) eH)))),?_⟩;unfold sT dC aC;refine mM u D.str (λx=>D.str (f x)) _ (λM h=>h) (by omega) (λi x G v e k m=>⟨rfl,.str (f x),?_,k,m⟩) ?_
 .show some (kW b (Sum.inr x))=_;rw[t x (aI e)]
 .rw[aP] at a;exact a
theorem BC (T:Txt g):nU P w K g base 1 "without" Do ["names","gone"] Jl:=by
 refine oO Xo λf d A c s H E z B M F u t=>?_
 obtain⟨v,a,rfl,G,b⟩:=t;refine⟨_,(lH (mO (mQ oZ pB T.tuple bC (dK (mS ["name"] ["gone"] [1] (lK (dT 0)) (λ_ _ _ _ _=>(kP 0 AI)) (λ_ _ _ _ _=>(dT 0)) (ht:=λ_ _ _ _ _=>(tK (wG (sI u) (rR true) (dT 0) (pv 1))))) eH)))),?_⟩;unfold sT dC aC;refine sR v D.str D.str (λx=>!decide (x∈a)) _ (λN h=>h) (by omega) (λi x L y e k m n=>?_) b;refine⟨.str x,a.map V.str,rfl,rX _,?_⟩;rw[qR];show if (!decide (x∈a))=true then _ else _
 by_cases q:x∈a
 .exact nL (by rw[aX q];rfl) (n (by rw[aX q];rfl))
 .exact oJ (by rw[aQ q];rfl) ⟨k,m (by rw[aQ q];rfl)⟩
theorem Ll (T:Txt j):nU P w K j base 1 "cell_names" yY ["row"] Ek:=by
 refine oO Xi λf d A c s H E v y L z b q=>?_
 obtain⟨C,t,rfl,B,F,a⟩:=q;refine⟨_,(lH (mO (kS lE lD (lY b (hI b 0 gD) gD) (mQ oZ pB T.tuple bC (dK (mS ["name","word","names"] [] [] (lK (lY b (hI b 0 gD) gD)) (λ_ _ _ _ _=>(pL (n:=3) rfl (mE (kP 0 Gc) (mE (kP 1 Gc) (mE (kP 2 Gc) pH))))) (λ_ _ _ _ _=>(dT 0))) eH))))),?_⟩;refine⟨rfl,_,rfl,_,rfl,?_⟩;unfold dC aC;refine mM C.gates lP (λg=>D.str g.1) _ (λM h=>⟨rfl,_,rfl,_,rfl,h⟩) (by omega) (λi x G u e k m=>⟨rfl,rfl,k,m⟩) ?_;have e:C.ins.map D.str++C.gates.map (λg=>D.str g.1)=C.names.map D.str:=by unfold Cel.names;rw[List.map_append,List.map_map];rfl
 rw[<- e] at a;exact⟨by simp;omega,a⟩
end
theorem Oq:(["name"]:Aa Af).Nodup:=by decide +kernel
theorem K6:(["output","name"]:Aa Af).Nodup:=by decide +kernel
def pV (c:Af) (g:Aa Af):Aa (gV×D):=g.map λx=>((Sum.inr x:gV),D.str (c++x))
theorem wK:∀ (b a:Aa (gV×D)),(b.map (·.1)).Nodup->kW (oE a b) k=(kW b k).or (kW a k)
 | [],a,_=>by rw[yS];rfl
 | (j,d)::b,a,h=>by
  obtain⟨i,m⟩:=bN.mp h;have e:oE a ((j,d)::b)=oE (oG a j d) b:=rfl;rw[e,wK b _ m,Hk,rO];by_cases q:j=k
  .rw[aU q,aU q];have:kW b k=none:=by
    cases z:kW b k with
    | none=>rfl
    | some c =>
     refine absurd ?_ i;have t:(b.any λf=>decide (f.1=k))=true:=by rw[Ec,z];rfl
     obtain⟨f,n,s⟩:=jY.mp t;exact bB.mpr ⟨f,n,by rw[q];exact eI s⟩
   rw[this];rfl
  .rw[aL q,aL q]
theorem Og:∀ (b a:Aa (gV×D)),((a++b).map (·.1)).Nodup->oE a b=a++b
 | [],a,_=>by rw[cG];rfl
 | p::b,a,h=>by
  have d:p.1∉a.map (·.1):=λq=>by
   rw[aG] at h;exact (bS.mp h).2.2 p.1 q p.1 (by simp) rfl
  have e:oE a (p::b)=oE (oG a p.1 p.2) b:=rfl;have c:oG a p.1 p.2=a++[p]:=by
   unfold oG;rw[aL λz=>by
    obtain⟨f,i,k⟩:=jY.mp z;exact d (bB.mpr ⟨f,i,eI k⟩)]
  rw[e,c,Og b (a++[p]) (by simpa using h)];simp
theorem yK:∀ (b a:Aa (gV×D)),(oE a b).length<=a.length+b.length
 | [],a=>bD _
 | p::b,a=>by
  have e:oE a (p::b)=oE (oG a p.1 p.2) b:=rfl;have c:=yK b (oG a p.1 p.2);have d:=Pc a p.1 p.2;rw[e,cQ];omega
theorem A6:∀ {g:Aa Af},x∈g->kW (pV c g) (Sum.inr x)=some (.str (c++x))
 | y::g,h=>by
  show kW (((Sum.inr y:gV),D.str (c++y))::pV c g) (Sum.inr x)=_;rw[rO];by_cases q:y=x
  .subst q;rw[aU rfl]
  .rw[aL λz=>q (dX z)];rcases aK.mp h with z | z
   .exact absurd z.symm q
   .exact A6 z
theorem Cs (g:j.Nodup):((pV c j).map (·.1)).Nodup:=by
 unfold pV;rw[aP];exact gO _ (λx y h e=>h (dX e)) g
def Hz:RD:=λe c d=>∃ C a,c=[hQ C a]/\C.names.Nodup/\C.gates.length<=100/\C.ins.length<=100/\(∀ x∈C.names,x.length<=1000)/\∀ b,(∀ x∈C.names,kW b (Sum.inr x)=some (.str ("a" ++ x)))->d (.o (.k b))
def lO (g:Aa (Af×Af)) (x:Af):Af:=match g.find? λp=>decide (p.2=x) with
 | some p => "a" ++ p.1
 | none => "b" ++ x
def vN (g:Aa (Af×Af)):Aa (gV×D):=g.map λp=>((Sum.inr p.2:gV),D.str ("a" ++ p.1))
theorem Lm:∀ (g:Aa (Af×Af)) (d:Ab D),(d=some (.str ("b" ++ x)))->(kW (vN g) (Sum.inr x)).or d=some (.str (lO g x))
 | [],d,h=>h
 | p::g,d,h=>by
  show (kW (((Sum.inr p.2:gV),D.str ("a" ++ p.1))::vN g) (Sum.inr x)).or d=_;rw[rO];unfold lO;rw[dQ];by_cases q:p.2=x
  .rw[aU (by rw[q]),aX q];rfl
  .rw[aL λz=>q (dX z),aQ q];exact Lm g d h
def G6:RD:=λf d e=>∃ C b a,d=[hQ C b,.t (a.map λp=>D.t [.str p.1,.str p.2])]/\C.names.Nodup/\C.gates.length<=100/\C.ins.length<=100/\(∀ x∈C.names,x.length<=1000)/\(a.map (·.2)).Nodup/\a.length<=100/\(∀ p∈a,p.1.length<=1000)/\∀ c,(∀ x∈C.names,kW c (Sum.inr x)=some (.str (lO a x)))->e (.o (.k c))
section
variable {P:Ah}{K:kM}
theorem U7:FnScope ["row"] ["row"] (lB B6):=mT
theorem Ln:FnScope ["row","pairs","turned"] ["row","pairs"] (lB A7):=mT
theorem DC (T:Txt l) (j:Kn P w K l base 1 "cell_names" yY ["row"] Ek):nU P w K l base 2 "first_names" B6 ["row"] Hz:=by
 refine oO U7 λf k A c s H E L M R y N v=>?_
 obtain⟨C,d,rfl,F,z,B,a,b⟩:=v;have O:C.names.length<=200:=by unfold Cel.names;rw[List.length_append,List.length_map];omega
 refine⟨_,(lH (mO (mQ (uM rfl) uQ T.dict cM (dK (mS ["name"] [] [] (lK (lU j y (dK (dT 0) eH))) (λ_ _ _ _ _=>(kP 0 Oq)) (λ_ _ _ _ _=>(kZ (dK (dT 0) (dK (kS lE lD nF (dT 0)) eH))))) eH)))),?_⟩;unfold sT dC aC;refine mM C.names D.str (λn=>.t [.str n,.str ("a" ++ n)]) _ (λS h=>⟨C,d,rfl,z,B,.inl rfl,h⟩) (by omega) (λi n Q G e q u=>?_) ?_
 .have:=a n (aI e);exact⟨by show 1+n.length<=100000;omega,by show 2<=1000;decide,q,u⟩
 have m:qN (C.names.map λn=>D.t [.str n,.str ("a" ++ n)])=some (pV "a" C.names):=by
  rw[tZ (g:=λn=>((Sum.inr n:gV),D.str ("a" ++ n))) (λn=>⟨.str n,rfl,rfl⟩)];rfl
 refine⟨_,m,by unfold pV;rw[List.length_map];omega,?_⟩;refine b _ λx a=>?_
 rw[wK _ _ (Cs F),A6 a];rfl
theorem Xa (T:Txt l) (j:Kn P w K l base 1 "cell_names" yY ["row"] Ek):nU P w K l base 2 "second_names" A7 ["row","pairs"] G6:=by
 refine oO Ln λf R A L s H E dk ds Φ W hu S=>?_
 obtain⟨C,c,a,rfl,nd,I,J,B,M,U,V,G⟩:=S;have r:C.names.length<=200:=by unfold Cel.names;rw[List.length_append,List.length_map];omega
 refine⟨_,(kQ (kU 2 Ln.nd (mQ (uM rfl) uQ T.dict cM (dK (mS ["name"] [] [] (lK (lU j W (dK (dT 0) eH))) (λ_ _ _ _ _=>(kP 0 Oq)) (λ_ _ _ _ _=>(kZ (dK (dT 0) (dK (kS lE lD nF (dT 0)) eH))))) eH))) (kQ (sC (rF gS PySem.F.slot_dict_update PySem.F.type_dict_update Qg Qm (pv 2) (dK (mQ (uM rfl) uQ T.dict cM (dK (mS ["output","name"] [] [] (lK (dT 1)) (λ_ _ _ _ _=>(pL (n:=2) rfl (mE (kP 0 K6) (mE (kP 1 K6) pH)))) (λ_ _ _ _ _=>(kZ (dK (dT 1) (dK (kS lE lD nF (dT 0)) eH))))) eH)) eH))) (lH (mO (Ks 2 (pv 2)))))),?_⟩;refine kN (λO=>O=[.v (hQ C c),.v (.t (a.map λp=>D.t [.str p.1,.str p.2])),.o (.k (oE [] (pV "b" C.names)))]) (λN z=>?_) ?_
 .unfold nG dC aC;refine mM C.names D.str (λn=>.t [.str n,.str ("b" ++ n)]) _ (λΨ h=>⟨C,c,rfl,I,J,.inl rfl,h⟩) (by omega) (λi n ys Q e q u=>?_) ?_
  .have:=B n (aI e);exact⟨by show 1+n.length<=100000;omega,by show 2<=1000;decide,q,u⟩
  have m:qN (C.names.map λn=>D.t [.str n,.str ("b" ++ n)])=some (pV "b" C.names):=by
   rw[tZ (g:=λn=>((Sum.inr n:gV),D.str ("b" ++ n))) (λn=>⟨.str n,rfl,rfl⟩)];rfl
  exact⟨_,m,by unfold pV;rw[List.length_map];omega,z _ rfl⟩
 rintro _ rfl;have Y:=yK (pV "b" C.names) [];have Z:=yK (vN a) [];have l3:(pV "b" C.names).length<=200:=by unfold pV;rw[List.length_map];exact r
 have l4:(vN a).length<=100:=by unfold vN;rw[List.length_map];exact U
 rw[cS] at Y Z;have b:((vN a).map (·.1)).Nodup:=by
  unfold vN;rw[aP];have:((a.map (·.2)).map (Sum.inr:Af->gV)).Nodup:=gO _ (λx y h e=>h (dX e)) M;rw[aP] at this;exact this
 refine kN (λO=>∃ d,(∀ x∈C.names,kW d (Sum.inr x)=some (.str (lO a x)))/\O=[.v (hQ C c),.v (.t (a.map λp=>D.t [.str p.1,.str p.2])),.o (.k d)]) (λN z=>?_) ?_
 .unfold Nn dW aC dC;refine⟨rfl,?_⟩;refine mM a (λp=>D.t [.str p.1,.str p.2]) (λp=>.t [.str p.2,.str ("a" ++ p.1)]) _ (λΨ h=>h) (by omega) (λi p ys Q e q u=>?_) ?_
  .have:=V p (aI e);exact⟨rfl,rfl,by show 1+p.1.length<=100000;omega,by show 2<=1000;decide,q,u⟩
  have m:qN (a.map λp=>D.t [.str p.2,.str ("a" ++ p.1)])=some (vN a):=by
   rw[tZ (g:=λp:Af×Af=>((Sum.inr p.2:gV),D.str ("a" ++ p.1))) (λp=>⟨.str p.2,rfl,rfl⟩)];rfl
  refine⟨_,m,by omega,?_⟩;refine⟨by omega,z _ ⟨_,λx B=>?_,rfl⟩⟩;rw[Og (vN a) [] b,fM,wK _ _ b];exact Lm a _ (by rw[wK _ _ (Cs nd),A6 B];rfl)
 rintro _ ⟨d,X,rfl⟩;exact G d X
end
theorem Ga:(["name","word","names","turned"]:Aa Af).Nodup:=by decide +kernel
theorem Wk:(["pair","turned"]:Aa Af).Nodup:=by decide +kernel
def nH (f:Af->Af) (g:Af×Af×Aa Af):Af×Af×Aa Af:=(f g.1,g.2.1,g.2.2.map f)
def qU (f:Af->Af) (C:Cel):Cel:=⟨C.ins.map f,C.gates.map (nH f),C.outs.map f⟩
def oY (f:Af->Af) (g:Aa (Af×Af)):Aa (Af×Af):=g.map λp=>(f p.1,f p.2)
def L9:RD:=λe c d=>∃ C a b f,c=[hQ C a,.k b]/\GC C/\a.length<=100/\(∀ p∈a,p.1∈C.names/\p.2∈C.names)/\(∀ x∈C.names,kW b (Sum.inr x)=some (.str (f x)))/\d (.v (hQ (qU f C) (oY f a)))
section
variable {P:Ah}{K:kM}
theorem Ea:FnScope ["row","turned","cell","gates","along"] ["row","turned"] (lB D1):=mT
theorem Iw {w:Af}{n:Nat}(h:ArOk w n):n<=3:=by
 rcases h.ok with⟨_,q | q⟩ | ⟨_,q⟩ | ⟨_,q⟩ | ⟨_,q⟩ | ⟨_,q⟩<;>omega
theorem DN (T:Txt r) (j:Kn P w K r base 1 "all_turned" Em ["names","turned"] Nc):nU P w K r base 2 "row_turned" D1 ["row","turned"] L9:=by
 refine oO Ea λf X A R s H E dk ds Φ L d Y=>?_
 obtain⟨C,b,a,f,rfl,u,lp,Z,m,Q⟩:=Y;have li:=u.li;have lg:=u.lg;have lo:=u.lo;refine⟨_,(kQ (kU 2 Ea.nd (hI d 0 gD)) (kQ (uG 3 ["name","word","names"] ["turned"] [1] Ea.nd (lK (hI d 2 gD)) (λ_ _ _ _ _=>(pL (n:=3) rfl (mE (kP 0 Ga) (mE (kP 1 Ga) (mE (kP 2 Ga) pH))))) (λ_ _ _ _ _=>(kZ (dK (hI d 3 (dT 0)) (dK (dT 1) (dK (lU j L (dK (dT 2) (dK (dT 3) eH))) eH)))))) (kQ (uG 4 ["pair"] ["turned"] [1] Ea.nd (lK (hI d 0 gD)) (λ_ _ _ _ _=>(kP 0 Wk)) (λ_ _ _ _ _=>(lU j L (dK (dT 0) (dK (dT 1) eH))))) (lH (mO (kZ (dK (kZ (dK (lU j L (dK (hI d 2 gD) (dK (dT 1) eH))) (dK (mQ oZ pB T.tuple bC (dK (dT 3) eH)) (dK (lU j L (dK (hI d 2 gD) (dK (dT 1) eH))) eH)))) (dK (mQ oZ pB T.tuple bC (dK (dT 4) eH)) eH)))))))),?_⟩;refine kN (λF=>F=[.v (hQ C b),.v (.k a),.v (tY C),.n,.n]) (λN B=>⟨rfl,_,rfl,B _ rfl⟩) ?_;rintro _ rfl;refine kN (λF=>F=[.v (hQ C b),.v (.k a),.v (tY C),.o (.l ((qU f C).gates.map lP)),.n]) (λN B=>?_) ?_
 .unfold nG;refine mM C.gates lP (λg=>lP (nH f g)) _ (λΨ h=>⟨rfl,_,rfl,h⟩) (by omega) (λi g U S e M O=>?_) (B _ ?_)
  .have G:=aI e;obtain⟨V,W⟩:=u.gt.at e;have I:∀ p∈g.2.2,p∈C.names:=λp q=>by
    rcases aR.mp (W p q) with z | z
    .exact aM _ z
    .obtain⟨y,J,rfl⟩:=bB.mp z;exact aT _ (cA (jI J))
   have l3:=Iw V;refine⟨rfl,rfl,rfl,.str (f g.1),?_,g.2.2,a,f,rfl,by omega,λx c=>m x (I x c),.inl rfl,by show 3<=1000;decide,M,O⟩;show some (kW a (Sum.inr g.1))=_;rw[m g.1 (aT _ (cA G))]
  .unfold qU;dsimp only;rw[List.map_map];rfl
 rintro _ rfl;refine kN (λF=>F=[.v (hQ C b),.v (.k a),.v (tY C),.o (.l ((qU f C).gates.map lP)),.o (.l ((oY f b).map λp=>D.t [.str p.1,.str p.2]))]) (λN B=>?_) ?_
 .unfold nG;refine mM b (λp=>D.t [.str p.1,.str p.2]) (λp=>D.t [.str (f p.1),.str (f p.2)]) _ (λΨ h=>⟨rfl,_,rfl,h⟩) (by omega) (λi p U S e M O=>?_) (B _ ?_)
  .have G:=Z p (aI e);refine⟨[p.1,p.2],a,f,rfl,by show 2<=100;decide,λx c=>?_,.inl rfl,M,O⟩;rcases aK.mp c with z | z
   .rw[z];exact m _ G.1
   .rw[aH.mp z];exact m _ G.2
  .unfold oY;rw[List.map_map];rfl
 rintro _ rfl;refine⟨rfl,_,rfl,C.ins,a,f,rfl,by omega,λx c=>m x (aM _ c),.inl rfl,rfl,_,rfl,C.outs,a,f,rfl,by omega,λx c=>m x (u.os x c),.inl rfl,by show 3<=1000;decide,by show 2<=1000;decide,Q⟩
end
theorem Mh:(["output","name"]:Aa Af).Nodup:=by decide +kernel
def oQ (g:Aa (Af×Af)):Aa Af:=g.map λp => "a" ++ p.1
def sD (j g:Aa Af):Aa Af:=j.filter λx=>!decide (x∈g)
def Ku (C D:Cel) (g:Aa Af):Cel:=⟨C.ins++sD D.ins g,C.gates++D.gates,sD C.outs g++D.outs⟩
def M4:RD:=λh e f=>∃ C c a d b,e=[hQ C c,hQ a d,.t (b.map λp=>D.t [.str p.1,.str p.2])]/\C.ins.length<=100/\C.gates.length<=100/\C.outs.length<=100/\a.ins.length<=100/\a.gates.length<=100/\a.outs.length<=100/\c.length<=100/\d.length<=100/\b.length<=100/\(∀ p∈b,p.1.length<=1000)/\f (.v (hQ (Ku C a (oQ b)) (c++d)))
section
variable {P:Ah}{K:kM}
theorem Cy:FnScope ["one","other","pairs","gone","inputs","outputs"] ["one","other","pairs"] (lB En):=mT
theorem FQ (T:Txt j) (g:Kn P w K j base 1 "without" Do ["names","gone"] Jl):nU P w K j base 2 "joined" En ["one","other","pairs"] M4:=by
 refine oO Cy λf F A z s H E Z r X B c Q=>?_
 obtain⟨C,q,d,u,a,rfl,li,U,lo,V,S,W,I,J,lp,R,y⟩:=Q;refine⟨_,(kQ (uG 3 ["output","name"] [] [] Cy.nd (lK (dT 2)) (λ_ _ _ _ _=>(pL (n:=2) rfl (mE (kP 0 Mh) (mE (kP 1 Mh) pH)))) (λ_ _ _ _ _=>(kS lE lD nF (dT 0)))) (kQ (kU 4 Cy.nd (kS lE lD (lY c (hI c 0 gD) gD) (lU g B (dK (lY c (hI c 1 gD) gD) (dK (dT 3) eH))))) (kQ (kU 5 Cy.nd (kS lE lD (lU g B (dK (lY c (hI c 0 gD) gD) (dK (dT 3) eH))) (lY c (hI c 1 gD) gD))) (lH (mO (kZ (dK (kZ (dK (dT 4) (dK (kS lE lD (lY c (hI c 0 gD) gD) (lY c (hI c 1 gD) gD)) (dK (dT 5) eH)))) (dK (kS lE lD (hI c 0 gD) (hI c 1 gD)) eH)))))))),?_⟩;let b:Aa Sl:=[.v (hQ C q),.v (hQ d u),.v (.t (a.map λp=>D.t [.str p.1,.str p.2]))];refine kN (λm=>m=b++[.o (.l ((oQ a).map D.str)),.n,.n]) (λN k=>?_) ?_
 .unfold nG;refine mM a (λp=>D.t [.str p.1,.str p.2]) (λp=>D.str ("a" ++ p.1)) _ (λΨ h=>h) (by omega) (λi p ys Y e M O=>?_) (k _ ?_)
  .have:=R p (aI e);exact⟨rfl,rfl,by show 1+p.1.length<=100000;omega,M,O⟩
  .unfold oQ;rw[List.map_map];rfl
 rintro _ rfl;have f1:=bT (λx=>!decide (x∈oQ a)) d.ins;have f2:=bT (λx=>!decide (x∈oQ a)) C.outs;refine kN (λm=>m=b++[.v (.l ((oQ a).map D.str)),.v (.t ((C.ins++sD d.ins (oQ a)).map D.str)),.n]) (λN k=>?_) ?_
 .refine⟨rfl,_,rfl,_,rfl,rfl,_,rfl,_,rfl,d.ins,oQ a,rfl,by omega,.inl rfl,by simp only[aA];omega,k _ ?_⟩;rw[aG];rfl
 rintro _ rfl;refine kN (λm=>m=b++[.v (.l ((oQ a).map D.str)),.v (.t ((C.ins++sD d.ins (oQ a)).map D.str)),.v (.t ((sD C.outs (oQ a)++d.outs).map D.str))]) (λN k=>?_) ?_
 .refine⟨rfl,_,rfl,_,rfl,C.outs,oQ a,rfl,by omega,.inl rfl,rfl,_,rfl,_,rfl,by simp only[aA];omega,k _ ?_⟩;rw[aG (l₁:=sD C.outs (oQ a))];rfl
 rintro _ rfl;refine⟨rfl,_,rfl,_,rfl,rfl,_,rfl,_,rfl,by simp only[aA];omega,by show 3<=1000;decide,rfl,_,rfl,rfl,_,rfl,by simp only[aA];omega,by show 2<=1000;decide,?_⟩;have G:C.gates.map lP++d.gates.map lP=(C.gates++d.gates).map lP:=aG.symm;have L:(q.map λp=>D.t [.str p.1,.str p.2])++(u.map λp=>D.t [.str p.1,.str p.2])=(q++u).map λp=>D.t [.str p.1,.str p.2]:=aG.symm
 show X (.v (.t [.t [.t ((C.ins++sD d.ins (oQ a)).map D.str),.t (C.gates.map lP++d.gates.map lP),.t ((sD C.outs (oQ a)++d.outs).map D.str)],.t ((q.map λp=>D.t [.str p.1,.str p.2])++(u.map λp=>D.t [.str p.1,.str p.2]))]));rw[G,L];exact y
end
end Lw
namespace L2
open PySem PySem.Spec PyProof.Rows Lw
def Ml:V->Aa V->Hp->VK->Prop:=λx b H Q=>∃ (l:Ad) (a:Aa Af) (y:Af) (j:Nat),x = .ref l/\b=[.str y]/\H l=some (.l (a.map V.str))/\a[j]?=some y/\(∀ m,m<j->a[m]?≠some y)/\Q .e (upd H l (.l ((a.eraseIdx j).map V.str)))
theorem Fp (f:g->j):∀ (l:Aa g) (n:Nat),(l.map f).eraseIdx n=(l.eraseIdx n).map f
 | [],_=>by simp
 | a::l,0=>rfl
 | a::l,n+1=>by rw[aW,eG,eG,aW,Fp f l n]
section
variable {X:Cx}
theorem Lc:Hg X "list.remove" Ml:=by
 intro K s p H x g v Z Q I S R h;obtain⟨l,b,y,j,rfl,rfl,E,G,B,q⟩:=h;cases S;obtain⟨u,rfl,P⟩:=R.one;obtain⟨t,rfl⟩:=P;obtain⟨z,a,n,r,N,e⟩:=I.lstM E;have W:=AR r;have f:a.length=b.length:=by rw[<- r.length,aA]
 have d:∀ m (k:m<a.toArray.size),isStrOf y a.toArray[m]=decide (b[m]?=some y):=λm k=>by
  have A:m<a.length:=by simpa using k
  have O:(b.map V.str)[m]?=some (V.str (b[m]'(by omega))):=by rw[bH,aJ (by omega)];rfl
  obtain⟨o,hw,Y,rfl⟩:=r.get O;have L:a.toArray[m] = .str (b[m]'(by omega)) Y:=by
   rw[aJ A] at hw
   simpa using bY hw
  rw[L,aJ (by omega)];show (b[m]'(by omega) == y)=_;by_cases c:b[m]'(by omega)=y<;>simp[c]
 have M:=(aV.mp G).1;have D:a.toArray.size<=sizeLine:=by rw[bF,f];have:=N;simp at this;omega
 refine jO F.slot_list_remove ⟨_,e,rfl⟩ F.entry_list_remove (F.args_list_remove_2 _ _)
  (MeetsSeq.list_remove l a.toArray n (.str y t) (isStrOf y) (λw hw=>eq_isStrOf y t W w (by simpa using hw)) j (by rw[bF];omega) ?_ ?_ D) ⟨e,?_⟩
 .rw[d];exact aX G
 .intro m k i;rw[d];exact aQ (B m i)
 refine⟨.e,_,I.lset (its':=a.eraseIdx j) E e ?_ ?_ ?_,rfl,q⟩
 .show a.toArray.eraseIdxIfInBounds j=(a.eraseIdx j).toArray;rw[iX]
 .rw[<- Fp];exact r.eraseIdx j
 .have:=Hy (b.map V.str) j;rw[Fp] at this;omega
end
def BD:OW:=λc b f=>match c,b with
 | .l d,[.str y]=>∃ (a:Aa Af) (j:Nat),d=a.map D.str/\a[j]?=some y/\(∀ m,m<j->a[m]?≠some y)/\f .e (.l ((a.eraseIdx j).map D.str))
 | _,_=>False
theorem Ji {K:kM}:∀ {j:Aa Af}{l:Aa V},Reps K A H (j.map D.str) l->l=j.map V.str
 | [],_,h=>by cases h;rfl
 | y::j,_,h=>by
  cases h with
  | cons g r=>rw[g.str_inv,Ji r];rfl
theorem Kc {K:kM}:∀ (g:Aa Af),Reps K A H (g.map D.str) (g.map V.str)
 | []=>.nil
 | y::g=>.cons (.str y) (Kc g)
theorem Jp {K:kM}:yL K Ml BD:=by
 intro A H a c t w x Q _ n rd b k;cases c<;>first | exact False.elim b | skip
 cases rd with
 | nil=>exact False.elim b
 | cons m rd =>
 rename_i d _ _ _
 cases d<;>first | exact False.elim b | skip
 cases rd with
 | cons _ _=>exact False.elim b
 | nil =>
  obtain⟨v,h,r⟩:=n;have:=m.str_inv;subst this;obtain⟨q,j,rfl,f,i,b⟩:=b;have:=Ji r;subst this;exact⟨a,q,_,j,rfl,rfl,h,f,i,k _ _ _ _ b .e λs u=>⟨_,lT,Kc _⟩⟩
section
variable {X:Cx}
theorem W8 {st:Stmt}:rL X st (λ_ _ _=>False):=λ_ _ _ _ _ _ h=>h.elim λ_ _ _ _ _ _ a _=>a.elim
theorem Cg (l:X.mg n=some (.int i t)) (j:Gl X n:=by rfl) (g:(n == ("__debug__" : Af))=false:=by decide):PD X (.Name n p) (cd (.int i)):=Bh (sF (v:=.int i) j l ⟨t,rfl⟩ g) λ_ _ _=>.int i
end
end L2
namespace Lw
open PySem L2
structure Bds (mg:Str->Option Value):Prop where
 i:∃ t,mg "MOST_INPUTS" = some (.int 6 t)
 o:∃ t,mg "MOST_OUTPUTS" = some (.int 6 t)
 g:∃ t,mg "MOST_GATES" = some (.int 24 t)
 a:∃ t,mg "MOST_ALONG" = some (.int 4 t)
structure PrsOk (os is:List Str) (ps:List (Str×Str)):Prop where
 n1:(ps.map (·.1)).Nodup
 n2:(ps.map (·.2)).Nodup
 m:∀ p∈ps,p.1∈os/\p.2∈is
def mK (g j:Aa Af):Aa Af:=g.filter λx=>!decide (x∈j)
theorem Jc (p:g.Nodup) (C:x∈g) (r:x∉o):∃ j,(mK g o)[j]?=some x/\(∀ m,m<j->(mK g o)[m]?≠some x)/\(mK g o).eraseIdx j=mK g (o++[x]):=by
 have s:x∈mK g o:=bQ.mpr ⟨C,by rw[aQ r];rfl⟩;have c:(mK g o).Nodup:=p.filter _;obtain⟨j,d,e⟩:=jL s;refine⟨j,by rw[aJ d,e],λm t q=>?_,?_⟩
 .obtain⟨k,D⟩:=aV.mp q;have:=(List.getElem?_inj (j:=j) k c).mp (q.trans (by rw[aJ d,e]));omega
 .have i:(mK g o).eraseIdx j=(mK g o).filter λy=>!decide (y=x):=by
   have go:∀ (l:Aa Af) (j:Nat),l.Nodup->l[j]?=some x->l.eraseIdx j=l.filter λy=>!decide (y=x):=by
    intro l;induction l with
    | nil=>intro j _ h;cases h
    | cons a l u =>
     intro j p h;obtain⟨f,v⟩:=bN.mp p;cases j with
     | zero =>
      have h:a=x:=by simpa using h
      subst h;rw[List.eraseIdx_cons_zero,List.filter_cons,aL (by simp)];exact (iC.mpr λb n=>by rw[aQ (λz:b=a=>f (z▸n))];rfl).symm
     | succ j =>
      have h:l[j]?=some x:=by simpa using h
      have w:¬ a=x:=λz=>f (z▸aI h)
      rw[eG,List.filter_cons,aU (by rw[aQ w];rfl),u j v h]
   exact go _ j c (by rw[aJ d,e])
  rw[i];unfold mK;rw[iQ];refine hW λy _=>?_
  by_cases A:y=x<;>by_cases B:y∈o<;>simp[A,B]
section
variable {P:Ah}{K:kM}
theorem Yt:FnScope ["name","free"] ["name","free"] (lB Df):=mT
theorem Bf:FnScope ["one","other","pairs","outputs","inputs","output","name"] ["one","other","pairs"] (lB D4):=mT
theorem Kb:FnScope ["row","cell"] ["row"] (lB C5):=mT
end
structure AZ (x:Str):Prop where
 az:∀ c∈x.cps.toList,97<=c/\c<=122
 lo:1<=x.length
 hi:x.length<=100
structure RG (C:Cel) (prs:List (Str×Str)):Prop where
 gc:GC C
 n1:(prs.map (·.1)).Nodup
 n2:(prs.map (·.2)).Nodup
 m:∀ p∈prs,p.1∈C.outs/\p.2∈C.ins
 lp:prs.length<=40
 az:∀ x∈C.names,AZ x
structure Fits (C:Cel) (prs:List (Str×Str)):Prop where
 i:C.ins.length<=6
 o:C.outs.length<=6
 g:C.gates.length<=24
 a:prs.length<=4
 l:∀ x∈C.names,x.length<=8
 n:("and" : Str)∉C.names
def fA (x:Af):Af := "a" ++ x
def fB (x:Af):Af := "b" ++ x
def jC (C D:Cel) (g:Aa (Af×Af)):Cel:=Ku (qU fA C) (qU (lO g) D) (oQ g)
def jP (g j l:Aa (Af×Af)):Aa (Af×Af):=oY fA g++oY (lO l) j
theorem K7 (g:Aa (Af×Af)) (x:Af):(∃ p∈g,p.2=x/\lO g x=fA p.1)\/(x∉g.map (·.2)/\lO g x=fB x):=by
 unfold lO;cases e:g.find? λp=>decide (p.2=x) with
 | some p=>exact .inl ⟨p,List.mem_of_find?_eq_some e,eI (List.find?_some (p:=λp:Af×Af=>decide (p.2=x)) e),rfl⟩
 | none =>
  refine .inr ⟨λz=>?_,rfl⟩;obtain⟨p,a,q⟩:=bB.mp z;have:=List.find?_eq_none.mp e p a;simp[q] at this
theorem ER {x y:Af}(h:x.cps.toList=y.cps.toList):x=y:=by
 obtain⟨a⟩:=x;obtain⟨b⟩:=y;have:a=b:=by simpa using h
 rw[this]
theorem A3 (x:Af):(fA x).cps.toList=97::x.cps.toList:=pO "a" x
theorem D2 (x:Af):(fB x).cps.toList=98::x.cps.toList:=pO "b" x
theorem Zb (h:fA x=fA y):x=y:=ER (by have:=cH (λz:Af=>z.cps.toList) h;simpa [A3] using this)
theorem Zw (x y:Af):fA x≠fB y:=λh=>by have:=cH (λz:Af=>z.cps.toList) h;simp[A3,D2] at this
theorem Vt (x:Af):(fA x).length=x.length+1:=by rw[oX,A3,cQ,<- oX]
theorem Wc (x:Af):(fB x).length=x.length+1:=by rw[oX,D2,cQ,<- oX]
theorem Rl (h:97<=c/\c<=122):tR c=true:=by
 have a:∀ k:Fin 26,tR (97+k.val)=true:=by decide +kernel
 have:=a ⟨c-97,by omega⟩
 rwa [show 97+(c-97)=c by omega] at this
theorem S7 {z:Af}{c:Nat}{r:Aa Nat}(h:z.cps.toList=c::r) (j:c=97\/c=98) (g:z ≠ "and"):uN z=none/\z∉Ap:=by
 have ne:∀ (y:Af) (d:Nat),y.cps.toList.head?=some d->d≠97->d≠98->z≠y:=λy d e a b q=>by
  rw[<- q,h] at e;have e:c=d:=bY e;omega
 have a:=ne "or" 111 rfl (by decide) (by decide);have b:=ne "odd" 111 rfl (by decide) (by decide);have f:=ne "most" 109 rfl (by decide) (by decide);have i:=ne "not" 110 rfl (by decide) (by decide);have k:=ne "one" 111 rfl (by decide) (by decide);have m:=ne "nil" 110 rfl (by decide) (by decide);have n:=ne "in" 105 rfl (by decide) (by decide);have s:=ne "out" 111 rfl (by decide) (by decide);refine⟨?_,λq=>?_⟩
 .unfold uN;rw[aL (by simp[g,a,b]),aL f,aL i,aL (by simp[k,m])]
 .unfold Ap at q;rcases aK.mp q with q | q
  .exact n q
  .exact s (aH.mp q)
theorem N9 {z:Af}{c:Nat}{r:Aa Nat}(h:z.cps.toList=c::r) (g:c=97\/c=98) (l:∀ x∈r,97<=x/\x<=122) (o:z.length<=8) (j:z ≠ "and"):z.cps.all (·<128)=true/\z.length<=1000/\qO z=true:=by
 have b:∀ x∈z.cps.toList,97<=x/\x<=122:=λx a=>by
  rw[h] at a;rcases aK.mp a with q | q
  .omega
  .exact l x q
 obtain⟨d,e⟩:=S7 h g j;have f:1<=z.length:=by rw[oX,h,cQ];omega
 refine⟨?_,by omega,?_⟩
 .rw[<- Array.all_toList,eF];intro x a;have:=b x a;exact aX (by omega)
 .unfold qO;rw[d,aQ e,aX (show (1:Int)<=z.length by omega),aX (show (z.length:Int)<=8 by omega)];have:z.cps.toList.all tR=true:=eF.mpr λx a=>Rl (b x a)
  rw[this];rfl
theorem Wz {D:Cel}{j:Aa (Af×Af)}(r:D.names.Nodup) (o:∀ p∈j,p.2∈D.ins){g:Af}(l:g∈D.gates.map (·.1)):g∉j.map (·.2):=λz=>by
 obtain⟨p,a,rfl⟩:=bB.mp z;exact (bS.mp r).2.2 _ (o p a) _ l rfl
theorem G5 (h:x∉g.map (·.2)):lO g x=fB x:=by
 rcases K7 g x with⟨p,b,e,_⟩ | ⟨_,a⟩
 .exact absurd (bB.mpr ⟨p,b,e⟩) h
 .exact a
theorem Oc (C D:Cel) (j:Aa (Af×Af)):(jC C D j).gates.map (·.1)=C.gates.map (λg=>fA g.1)++D.gates.map λg=>lO j g.1:=by
 show ((qU fA C).gates++(qU (lO j) D).gates).map (·.1)=_;unfold qU;rw[aG,aP,aP];rfl
theorem Gm {D:Cel}:(jC C D g).ins=C.ins.map fA++(D.ins.filter λx=>!decide (x∈g.map (·.2))).map fB:=by
 show C.ins.map fA++sD (D.ins.map (lO g)) (oQ g)=_;unfold sD;rw[kH];have e:∀ x,((λx=>!decide (x∈oQ g))∘lO g) x = !decide (x∈g.map (·.2)):=λx=>by
  show (!decide (lO g x∈oQ g))=_;rcases K7 g x with⟨p,a,b,c⟩ | ⟨d,f⟩
  .rw[aX (show lO g x∈oQ g by rw[c];exact bB.mpr ⟨p,a,rfl⟩),aX (bB.mpr ⟨p,a,b⟩)]
  .rw[aQ d,aQ λz=>?_];obtain⟨p,_,e⟩:=bB.mp z;exact Zw p.1 x (e.trans f)
 rw[show ((λx=>!decide (x∈oQ g))∘lO g)=λx=>!decide (x∈g.map (·.2)) from funext e]
 congr 1
 exact eK λx h=>G5 (by have:=(bQ.mp h).2;simpa using this)
theorem F9 {D:Cel}(l:D.names.Nodup) (j:∀ p∈g,p.2∈D.ins) (h:z∈(jC C D g).names):(∃ x∈C.names,z=fA x)\/∃ x∈D.names,x∉g.map (·.2)/\z=fB x:=by
 unfold Cel.names at h;rw[Gm,Oc] at h;rcases aR.mp h with h | h<;>rcases aR.mp h with h | h<;>obtain⟨x,a,rfl⟩:=bB.mp h
 .exact .inl ⟨x,aM _ a,rfl⟩
 .obtain⟨c,d⟩:=bQ.mp a;exact .inr ⟨x,aM _ c,by simpa using d,rfl⟩
 .exact .inl ⟨x.1,aT _ (cA a),rfl⟩
 .have b:=Wz l j (cA (f:=(·.1)) a);exact .inr ⟨x.1,aT _ (cA a),b,G5 b⟩
theorem Xm {D:Cel}(r:RG C J) (o:RG D T) (I:∀ p∈g,p.2∈D.ins) (j:Fits (jC C D g) (jP J T g)):∀ z∈(jC C D g).names,z.cps.all (·<128)=true/\z.length<=1000/\qO z=true:=λz b=>by
 have l:=j.l z b;have n:z ≠ "and" := λq=>j.n (q▸b)
 rcases F9 o.gc.nd I b with⟨x,a,rfl⟩ | ⟨x,a,_,rfl⟩
 .exact N9 (A3 x) (.inl rfl) (r.az x a).az l n
 .exact N9 (D2 x) (.inr rfl) (o.az x a).az l n
section
variable {P:Ah}{K:kM}
theorem Qh:FnScope ["one","other","pairs","row"] ["one","other","pairs"] (lB Bb):=mT
end
theorem T9:(["name","one"]:Aa Af).Nodup:=by decide +kernel
theorem Si:(["pair"]:Aa Af).Nodup:=by decide +kernel
def Qp:RD:=λk h i=>∃ (f:Aa Int) (C:Cel) (b:Aa (Af×Af)) (a:Cel) (d:Aa (Af×Af)),h=[.c (f.map D.int),hQ C b,hQ a d]/\f.length<=63/\C.outs.length<=100/\b.length<=100/\a.ins.length<=100/\d.length<=100/\C.outs.Nodup/\a.ins.Nodup/\∀ e,PrsOk (lQ C b) (lX a d) e->e.length<=4->i (.v (.t (e.map oF)))
section
variable {P:Ah}{K:kM}
theorem zU:FnScope ["script","one","other","outputs","inputs","pairs","k","output"] ["script","one","other"] (lB Dq):=mT
theorem Ve (T:Txt mg) (g:Kn P w K mg base 1 "_law_draw" uE ["script","k"] wT) (r:Kn P w K mg base 2 "_law_wordly" Ei ["row"] B8):nU P w K mg base 3 "_law_pairs" Dq ["script","one","other"] Qp:=by
 refine oO zU λf ae A ac s H E dk ds Φ O Q hR=>?_
 obtain⟨a,C,m,L,M,rfl,U,l1,l2,l3,l4,Az,ab,aa⟩:=hR;refine⟨_,(kQ (uG 3 ["name"] ["one"] [1] zU.nd (lK (lY Q (hI Q 1 gD) gD)) (λ_ _ _ _ _=>(kP 0 T9)) (λ_ _ _ _ _=>(dT 0)) (ht:=λ_ _ _ _ _=>(tK (uC (sI Q) (rR true) (pv 0) (mS ["pair"] [] [] (lK (hI Q 1 gD)) (λ_ _ _ _ _=>(kP 0 Si)) (λ_ _ _ _ _=>(hI Q 0 gD))))))) (kQ (kU 4 zU.nd (lU r O (dK (dT 2) eH))) (kQ (kU 5 zU.nd (rB eH)) (kQ (sL (wE (by rfl) T.range (kS nE nD (lU g O (dK (dT 0) (dK gD eH))) gD)) (kP 6 zU.nd) (lH (qV (wF (Hb (uC (Il O.units) (xZ true) (pv 3) (rB eH)) (Hq (uC (Il O.units) (xZ true) (pv 4) (rB eH))))) (kQ (kU 7 zU.nd (rF bZ PySem.F.slot_list_pop PySem.F.type_list_pop Nt N0 (pv 3) (dK (kS nE nD (lU g O (dK (dT 0) (dK (kS lE lD gD (dT 6)) eH))) (oP pK pI T.len cB (rN (pv 3) eH))) eH))) (lH (sC (rF bZ cO cP uI vG (pv 5) (dK (kZ (dK (dT 7) (dK (rF bZ PySem.F.slot_list_pop PySem.F.type_list_pop Nt N0 (pv 4) (dK (kS nE nD (lU g O (dK (dT 0) (dK (kS lE lD gD (dT 6)) eH))) (oP pK pI T.len cB (rN (pv 4) eH))) eH)) eH))) eH))))) pC))) (lH (mO (mQ oZ pB T.tuple bC (rN (pv 5) eH)))))))),?_⟩;let b:Aa Sl:=[.v (.c (a.map D.int)),.v (hQ C m),.v (hQ L M)];have lo:(lQ C m).length<=100:=bU (bT ..) l1;have li:(lX L M).length<=100:=bU (bT ..) l3;refine kN (λt=>t=b++[.o (.l ((lQ C m).map D.str)),.n,.n,.n,.n]) (λN u=>?_) ?_
 .unfold nG;refine sR C.outs D.str D.str (λx=>!decide (x∈m.map λp:Af×Af=>p.1)) _ (λX h=>⟨rfl,_,rfl,_,rfl,h⟩) (by omega) (λi x ys Nx e Y Z h3=>?_) (u _ rfl);refine⟨rfl,?_⟩;refine mM m oF (λp=>D.str p.1) _ (λX h=>⟨rfl,_,rfl,h⟩) (by omega) (λi p ys Nx e Y Z=>⟨rfl,_,rfl,Y,Z⟩) ?_;have e1:(m.map λp=>D.str p.1)=(m.map (·.1)).map D.str:=by rw[aP];rfl
  refine⟨.str x,(m.map (·.1)).map V.str,rfl,by rw[e1];exact rX _,?_⟩;rw[qR];show if (!decide (x∈m.map (·.1)))=true then _ else _
  by_cases q:x∈m.map (·.1)
  .exact nL (by rw[aX q];rfl) (h3 (by rw[aX q];rfl))
  .exact oJ (by rw[aQ q];rfl) ⟨Y,Z (by rw[aQ q];rfl)⟩
 rintro _ rfl;refine kN (λt=>t=b++[.o (.l ((lQ C m).map D.str)),.o (.l ((lX L M).map D.str)),.n,.n,.n]) (λN u=>⟨L,M,rfl,l4,by omega,.inl rfl,u _ rfl⟩) ?_;rintro _ rfl;refine kN (λt=>t=b++[.o (.l ((lQ C m).map D.str)),.o (.l ((lX L M).map D.str)),.o (.l []),.n,.n]) (λN u=>⟨by show 0<=1000;decide,u _ rfl⟩) ?_;rintro _ rfl;let st (os is:Aa Af) (d:Aa (Af×Af)) (B G:Sl):Aa Sl:=b++[.o (.l (os.map D.str)),.o (.l (is.map D.str)),.o (.l (d.map oF)),B,G];refine kN (λt=>∃ os is d B G,(d.map (·.1)++os).Perm (lQ C m)/\(d.map (·.2)++is).Perm (lX L M)/\d.length<=4/\t=st os is d B G) (λN u=>?_) ?_
 .have hg:kO a 200%5<=4:=by have:=dB (kO a 200) (show 0<5 by decide);omega
  have eg:((kO a 200:Int)%5).toNat=kO a 200%5:=by omega
  refine rY (pA 0 (kO a 200%5)) (st (lQ C m) (lX L M) [] .n .n) (λX h=>⟨a,200,by simp,U,by omega,.inl rfl,by show (0:Int)<5;decide,by omega,by omega,by rw[eg];exact h⟩) (λk t=>∃ os is d B G,(d.map (·.1)++os).Perm (lQ C m)/\(d.map (·.2)++is).Perm (lX L M)/\d.length<=k/\t=st os is d B G) ⟨_,_,[],.n,.n,.refl _,.refl _,bD _,rfl⟩ ?_ ?_
  .rintro k e t he ⟨os,is,d,B,G,y,z,R,rfl⟩;obtain⟨hk,rfl⟩:=yO he;let s0:Sl:=.v (.int (0+(k:Int)));refine Gv (decide (os≠[])) (decide (is≠[])) (λX h=>?_) (λX h=>?_) ?_
   .exact⟨rfl,by show 0<=1000;decide,by cases os<;>exact h⟩
   .exact⟨rfl,by show 0<=1000;decide,by cases is<;>exact h⟩
   by_cases z1:os=[]
   .exact nL (by simp[z1]) ⟨os,is,d,_,_,y,z,by omega,rfl⟩
   by_cases z2:is=[]
   .exact nL (by simp[z2]) ⟨os,is,d,_,_,y,z,by omega,rfl⟩
   refine oJ (by simp[z1,z2]) ?_;have ol:os.length<=100:=by have:=y.length_eq;rw[aD] at this;omega
   have il:is.length<=100:=by have:=z.length_eq;rw[aD] at this;omega
   have o0:0<os.length:=eM.mpr z1;have i0:0<is.length:=eM.mpr z2;have J:=dB (kO a (201+k)) o0;have I:=dB (kO a (205+k)) i0;have W:(kO a (201+k):Int)%((os.map D.str).length:Int)=((kO a (201+k)%os.length:Nat):Int):=by rw[aA];omega
   have S:(kO a (205+k):Int)%((is.map D.str).length:Int)=((kO a (205+k)%is.length:Nat):Int):=by rw[aA];omega
   generalize ag:kO a (201+k)%os.length=j at J W;generalize af:kO a (205+k)%is.length=i at I S;have gj:os[j]?=some os[j]:=aJ J;have gi:is[i]?=some is[i]:=aJ I;refine kN (λt=>t=st (os.eraseIdx j) is d s0 (.v (.str os[j]))) (λN u=>?_) ?_
   .refine⟨rfl,a,201+k,by simp,U,by omega,.inl rfl,rfl,rfl,(os.map D.str).length,rfl,by rw[aA];show (0:Int)<_;omega,j,.str os[j],?_,?_,?_,?_,u _ ?_⟩
    .show -(2 ^ 63)<=(kO a (201+k):Int)%((os.map D.str).length:Int);rw[W];omega
    .show (kO a (201+k):Int)%((os.map D.str).length:Int)<2 ^ 63;rw[W];omega
    .show seqIndex? ((kO a (201+k):Int)%((os.map D.str).length:Int)) (os.map D.str).length=_;rw[W,aA];exact Ot J
    .show (os.map D.str)[j]?=_;rw[bH,gj];rfl
    .rw[Ik];rfl
   rintro _ rfl;refine⟨rfl,rfl,a,205+k,by simp,U,by omega,.inl rfl,rfl,rfl,(is.map D.str).length,rfl,by rw[aA];show (0:Int)<_;omega,i,.str is[i],?_,?_,?_,?_,by show 2<=1000;decide,by show (d.map oF).length<100000;rw[aA];omega,os.eraseIdx j,is.eraseIdx i,d++[(os[j],is[i])],s0,.v (.str os[j]),?_,?_,?_,?_⟩
   .show -(2 ^ 63)<=(kO a (205+k):Int)%((is.map D.str).length:Int);rw[S];omega
   .show (kO a (205+k):Int)%((is.map D.str).length:Int)<2 ^ 63;rw[S];omega
   .show seqIndex? ((kO a (205+k):Int)%((is.map D.str).length:Int)) (is.map D.str).length=_;rw[S,aA];exact Ot I
   .show (is.map D.str)[i]?=_;rw[bH,gi];rfl
   .rw[aG,bK];exact ((Hw gj).symm.append_left _).trans y
   .rw[aG,bK];exact ((Hw gi).symm.append_left _).trans z
   .rw[aD];exact jD R
   .show _=st _ _ (d++[(os[j],is[i])]) _ _;simp only[st,aG,<- Ik];rfl
  .rintro t ⟨os,is,d,B,G,y,z,R,rfl⟩;exact u _ ⟨os,is,d,B,G,y,z,by simp[pA] at R;omega,rfl⟩
 rintro _ ⟨os,is,d,B,G,y,z,R,rfl⟩;have w1:=(bS.mp (y.nodup_iff.mpr (Az.filter _))).1;have w2:=(bS.mp (z.nodup_iff.mpr (ab.filter _))).1;refine⟨rfl,aa d ⟨w1,w2,λp hp=>⟨y.mem_iff.mp (aM _ (cA hp)),z.mem_iff.mp (aM _ (cA hp))⟩⟩ R⟩
end
theorem L5 (h:g[i]?=some (.v d)) (k:j (.v d) g):vd i l g j:=by
 unfold vd;rw[h];exact k
theorem Rh:(["name"]:Aa Af).Nodup:=by decide +kernel
theorem Ou:(["gate"]:Aa Af).Nodup:=by decide +kernel
theorem Um:(["part","names"]:Aa Af).Nodup:=by decide +kernel
theorem Ef:(["output","name"]:Aa Af).Nodup:=by decide +kernel
theorem AD:(["name","first"]:Aa Af).Nodup:=by decide +kernel
theorem AM:(["name","second","taken"]:Aa Af).Nodup:=by decide +kernel
theorem EG:(["name","first","gone"]:Aa Af).Nodup:=by decide +kernel
theorem Uf:(["name","second"]:Aa Af).Nodup:=by decide +kernel
theorem Rj:(["output","name","first"]:Aa Af).Nodup:=by decide +kernel
theorem K0:(["output","name","second"]:Aa Af).Nodup:=by decide +kernel
def Js:RD:=λh e f=>∃ C c b d a,e=[hQ C c,hQ b d,.t (a.map oF)]/\RG C c/\RG b d/\PrsOk (lQ C c) (lX b d) a/\a.length<=40/\f (.v (hQ (jC C b a) (jP c d a)))
theorem GJ (h:p.2∉g.map (·.2)) (x:Af):lO (g++[p]) x=if p.2=x then fA p.1 else lO g x:=by
 unfold lO;rw[List.find?_append];by_cases q:p.2=x
 .have:g.find? (λp=>decide (p.2=x))=none:=List.find?_eq_none.mpr λy a z=>h (by rw[q,<- eI z];exact cA a)
  rw[aU q,this,Option.none_or,dQ,aX q];rfl
 .rw[aL q,dQ,aQ q,List.find?_nil,Option.or_none]
abbrev uS (C:Cel) (T:Aa (Af×Af)) (J:Cel) (U ps:Aa (Af×Af)) (s3 s4 s5 s6 s7 s8 s9 g j l o p r I:Sl):Aa Sl:=[.v (hQ C T),.v (hQ J U),.v (.t (ps.map oF)),s3,s4,s5,s6,s7,s8,s9,g,j,l,o,p,r,I]
theorem Jq (C D:Cel) (g:Aa (Af×Af)):(jC C D g).outs=(C.outs.filter λx=>!decide (x∈g.map (·.1))).map fA++D.outs.map (lO g):=by
 show sD (C.outs.map fA) (oQ g)++D.outs.map (lO g)=_
 congr 1
 unfold sD;rw[kH];refine cH (List.map fA) (hW λx _=>?_);have:fA x∈oQ g↔x∈g.map (·.1):=by
  constructor
  .intro z;obtain⟨p,a,e⟩:=bB.mp z;exact bB.mpr ⟨p,a,Zb e⟩
  .intro z;obtain⟨p,a,rfl⟩:=bB.mp z;exact bB.mpr ⟨p,a,rfl⟩
 simp only[Function.comp,this]
theorem Le (C D:Cel) (g:Aa (Af×Af)):(jC C D g).ins=C.ins.map fA++(D.ins.filter λx=>!decide (x∈g.map (·.2))).map (lO g):=by
 rw[Gm]
 congr 1
 exact (eK λx a=>G5 (by have:=(bQ.mp a).2;simpa using this)).symm
section
variable {P:Ah}{K:kM}
theorem pT:FnScope ["one","other","pairs","first","second","output","name","gates","names","row","word","some","taken","gone","inputs","outputs","along"] ["one","other","pairs"] (lB Ex):=mT
theorem X4 (T:Txt mg):nU P w K mg base 1 "_law_due_row" Ex ["one","other","pairs"] Js:=by
 refine oO pT λf ak A af s H E dk ds Φ hr u hR=>?_
 obtain⟨C,S,b,r,a,rfl,h1,h2,pk,lp,ac⟩:=hR;refine⟨_,(kQ (kU 3 pT.nd (mQ (uM rfl) uQ T.dict cM (dK (mS ["name"] [] [] (lK (kS lE lD (mQ vY wN T.list dH (dK (lY u (hI u 0 gD) gD) eH)) (mS ["gate"] [] [] (lK (lY u (hI u 0 gD) gD)) (λ_ _ _ _ _=>(kP 0 Ou)) (λ_ _ _ _ _=>(hI u 0 gD))))) (λ_ _ _ _ _=>(kP 0 Rh)) (λ_ _ _ _ _=>(kZ (dK (dT 0) (dK (kS lE lD nF (dT 0)) eH))))) eH))) (kQ (kU 4 pT.nd (mQ (uM rfl) uQ T.dict cM (dK (mS ["name"] [] [] (lK (kS lE lD (mQ vY wN T.list dH (dK (lY u (hI u 1 gD) gD) eH)) (mS ["gate"] [] [] (lK (lY u (hI u 1 gD) gD)) (λ_ _ _ _ _=>(kP 0 Ou)) (λ_ _ _ _ _=>(hI u 0 gD))))) (λ_ _ _ _ _=>(kP 0 Rh)) (λ_ _ _ _ _=>(kZ (dK (dT 0) (dK (kS lE lD nF (dT 0)) eH))))) eH))) (kQ (sL (lK (dT 2)) (pL (n:=2) rfl (mE (kP 5 pT.nd) (mE (kP 6 pT.nd) pH))) (lH (Ds (n:=4) u (kS lE lD nF (dT 5)) (pv 4) (dT 6)))) (kQ (kU 7 pT.nd (rB eH)) (kQ (sL (lK (kZ (dK (kZ (dK (dT 3) (dK (dT 0) eH))) (dK (kZ (dK (dT 4) (dK (dT 1) eH))) eH)))) (pL (n:=2) rfl (mE (kP 8 pT.nd) (mE (kP 9 pT.nd) pH))) (lH (sL (lK (lY u (hI u 9 gD) gD)) (pL (n:=3) rfl (mE (kP 6 pT.nd) (mE (kP 10 pT.nd) (mE (kP 11 pT.nd) pH)))) (lH (sC (rF bZ cO cP uI vG (pv 7) (dK (kZ (dK (hI u 8 (dT 6)) (dK (dT 10) (dK (mQ oZ pB T.tuple bC (dK (mS ["part"] ["names"] [8] (lK (dT 11)) (λ_ _ _ _ _=>(kP 0 Um)) (λ_ _ _ _ _=>(hI u 1 (dT 0)))) eH)) eH)))) eH))))))) (kQ (kU 12 pT.nd (mS ["output","name"] [] [] (lK (dT 2)) (λ_ _ _ _ _=>(pL (n:=2) rfl (mE (kP 0 Ef) (mE (kP 1 Ef) pH)))) (λ_ _ _ _ _=>(dT 1)))) (kQ (kU 13 pT.nd (mS ["output","name"] [] [] (lK (dT 2)) (λ_ _ _ _ _=>(pL (n:=2) rfl (mE (kP 0 Ef) (mE (kP 1 Ef) pH)))) (λ_ _ _ _ _=>(dT 0)))) (kQ (uG 14 ["name"] ["first"] [3] pT.nd (lK (lY u (hI u 0 gD) gD)) (λ_ _ _ _ _=>(kP 0 AD)) (λ_ _ _ _ _=>(hI u 1 (dT 0)))) (kQ (kU 14 pT.nd (mP lE lD 14 (mS ["name"] ["second","taken"] [4,12] (lK (lY u (hI u 1 gD) gD)) (λ_ _ _ _ _=>(kP 0 AM)) (λ_ _ _ _ _=>(hI u 1 (dT 0))) (ht:=λ_ _ _ _ _=>(tK (wG (sI u) (rR true) (dT 0) (pv 2))))))) (kQ (uG 15 ["name"] ["first","gone"] [3,13] pT.nd (lK (lY u (hI u 0 gD) gD)) (λ_ _ _ _ _=>(kP 0 EG)) (λ_ _ _ _ _=>(hI u 1 (dT 0))) (ht:=λ_ _ _ _ _=>(tK (wG (sI u) (rR true) (dT 0) (pv 2))))) (kQ (kU 15 pT.nd (mP lE lD 15 (mS ["name"] ["second"] [4] (lK (lY u (hI u 1 gD) gD)) (λ_ _ _ _ _=>(kP 0 Uf)) (λ_ _ _ _ _=>(hI u 1 (dT 0)))))) (kQ (uG 16 ["output","name"] ["first"] [3] pT.nd (lK (hI u 0 gD)) (λ_ _ _ _ _=>(pL (n:=2) rfl (mE (kP 0 Rj) (mE (kP 1 Rj) pH)))) (λ_ _ _ _ _=>(kZ (dK (hI u 2 (dT 0)) (dK (hI u 2 (dT 1)) eH))))) (kQ (kU 16 pT.nd (mP lE lD 16 (mS ["output","name"] ["second"] [4] (lK (hI u 1 gD)) (λ_ _ _ _ _=>(pL (n:=2) rfl (mE (kP 0 K0) (mE (kP 1 K0) pH)))) (λ_ _ _ _ _=>(kZ (dK (hI u 2 (dT 0)) (dK (hI u 2 (dT 1)) eH))))))) (lH (mO (kZ (dK (kZ (dK (mQ oZ pB T.tuple bC (dK (dT 14) eH)) (dK (mQ oZ pB T.tuple bC (rN (pv 7) eH)) (dK (mQ oZ pB T.tuple bC (dK (dT 15) eH)) eH)))) (dK (mQ oZ pB T.tuple bC (dK (dT 16) eH)) eH)))))))))))))))))),?_⟩;have a1:=h1.gc.li;have a2:=h1.gc.lg;have a3:=h1.gc.lo;have c1:=h2.gc.li;have c2:=h2.gc.lg;have c3:=h2.gc.lo;have d1:=h1.lp;have d2:=h2.lp;have lN:C.names.length<=80:=by unfold Cel.names;rw[List.length_append,List.length_map];omega
 have an:b.names.length<=80:=by unfold Cel.names;rw[List.length_append,List.length_map];omega
 have ag:∀ p∈a,p.1∈C.names:=λp hp=>h1.gc.os _ (bQ.mp (pk.m p hp).1).1
 have en:∀ C:Cel,C.ins.map D.str++C.gates.map (λg=>D.str g.1)=C.names.map D.str:=λC=>by unfold Cel.names;rw[List.map_append,List.map_map];rfl
 refine kN (λc=>∃ Y,(∀ x∈C.names,kW Y (Sum.inr x)=some (.str (fA x)))/\c=uS C S b r a (.o (.k Y)) .n .n .n .n .n .n .n .n .n .n .n .n .n) (λN R=>?_) ?_
 .unfold nG dC aC;refine mM C.names D.str (λn=>.t [.str n,.str ("a" ++ n)]) (uS C S b r a .n .n .n .n .n .n .n .n .n .n .n .n .n .n) (λΨ h=>?_) (by omega) (λi n ys Nx e W X=>?_) ?_
  .refine⟨rfl,_,rfl,_,rfl,_,rfl,?_⟩;refine mM C.gates lP (λg=>D.str g.1) _ (λΨ h=>⟨rfl,_,rfl,_,rfl,h⟩) (by omega) (λi x ys Nx e W X=>⟨rfl,_,rfl,W,X⟩) ?_;rw[<- en] at h;exact⟨by simp;omega,h⟩
  .have:=(h1.az n (aI e)).hi;exact⟨by show 1+n.length<=100000;omega,by show 2<=1000;decide,W,X⟩
  have e0:qN (C.names.map λn=>D.t [.str n,.str ("a" ++ n)])=some (pV "a" C.names):=by
   rw[tZ (g:=λn=>((Sum.inr n:gV),D.str ("a" ++ n))) (λn=>⟨.str n,rfl,rfl⟩)];rfl
  refine⟨_,e0,by unfold pV;rw[List.length_map];omega,R _ ⟨_,λx hx=>?_,rfl⟩⟩;rw[wK _ _ (Cs h1.gc.nd),A6 hx];rfl
 rintro _ ⟨Z,v1,rfl⟩;refine kN (λc=>∃ Y,(∀ x∈b.names,kW Y (Sum.inr x)=some (.str (lO [] x)))/\Y.length<=80/\c=uS C S b r a (.o (.k Z)) (.o (.k Y)) .n .n .n .n .n .n .n .n .n .n .n .n) (λN R=>?_) ?_
 .unfold nG dC aC;refine mM b.names D.str (λn=>.t [.str n,.str ("b" ++ n)]) (uS C S b r a (.o (.k Z)) .n .n .n .n .n .n .n .n .n .n .n .n .n) (λΨ h=>?_) (by omega) (λi n ys Nx e W X=>?_) ?_
  .refine⟨rfl,_,rfl,_,rfl,_,rfl,?_⟩;refine mM b.gates lP (λg=>D.str g.1) _ (λΨ h=>⟨rfl,_,rfl,_,rfl,h⟩) (by omega) (λi x ys Nx e W X=>⟨rfl,_,rfl,W,X⟩) ?_;rw[<- en] at h;exact⟨by simp;omega,h⟩
  .have:=(h2.az n (aI e)).hi;exact⟨by show 1+n.length<=100000;omega,by show 2<=1000;decide,W,X⟩
  have e0:qN (b.names.map λn=>D.t [.str n,.str ("b" ++ n)])=some (pV "b" b.names):=by
   rw[tZ (g:=λn=>((Sum.inr n:gV),D.str ("b" ++ n))) (λn=>⟨.str n,rfl,rfl⟩)];rfl
  refine⟨_,e0,by unfold pV;rw[List.length_map];omega,R _ ⟨_,λx hx=>?_,?_,rfl⟩⟩
  .rw[wK _ _ (Cs h2.gc.nd),A6 hx];rfl
  .have:=yK (pV "b" b.names) [];rw[cS] at this;have l3:(pV "b" b.names).length=b.names.length:=by unfold pV;rw[List.length_map]
   omega
 rintro _ ⟨ae,v0,l0,rfl⟩;refine kN (λc=>∃ Y J Q,(∀ x∈b.names,kW Y (Sum.inr x)=some (.str (lO a x)))/\c=uS C S b r a (.o (.k Z)) (.o (.k Y)) J Q .n .n .n .n .n .n .n .n .n .n) (λN R=>?_) ?_
 .refine rY (a.map oF) _ (λΨ h=>h) (λi c=>∃ Y J Q,(∀ x∈b.names,kW Y (Sum.inr x)=some (.str (lO (a.take i) x)))/\Y.length<=80+i/\c=uS C S b r a (.o (.k Z)) (.o (.k Y)) J Q .n .n .n .n .n .n .n .n .n .n) ⟨ae,.n,.n,v0,by omega,rfl⟩ ?_ ?_
  .rintro i x c hx ⟨Y,J,Q,v,l,rfl⟩;obtain⟨p,hp,rfl⟩:=vV hx;have pm:=aI hp;have hi:=(aV.mp hp).1;have aq:=(h1.az _ (ag p pm)).hi;have et:a.take (i+1)=a.take i++[p]:=by rw[dZ,hp];rfl
   have hn:p.2∉(a.take i).map (·.2):=λq=>by
    have:=pk.n2.sublist ((List.take_sublist (i+1) a).map (·.2));rw[et,aG] at this;exact (bS.mp this).2.2 _ q _ (aH.mpr rfl) rfl
   refine⟨rfl,rfl,by show 1+p.1.length<=100000;omega,rfl,_,Jx (by omega),_,_,_,λx hx=>?_,?_,rfl⟩
   .rw[Hk,et,GJ hn];by_cases q:p.2=x
    .rw[aU (by rw[q]),aU q];rfl
    .rw[aL λz=>q (dX z),aL q,v x hx]
   .have:=Pc Y (Sum.inr p.2:gV) (.str ("a" ++ p.1));omega
  .rintro c ⟨Y,J,Q,v,l,rfl⟩;rw[aA,fY] at v;exact R _ ⟨Y,J,Q,v,rfl⟩
 rintro _ ⟨U,J,Q,v2,rfl⟩;refine kN (λc=>c=uS C S b r a (.o (.k Z)) (.o (.k U)) J Q (.o (.l [])) .n .n .n .n .n .n .n .n .n) (λN R=>⟨by show 0<=1000;decide,R _ rfl⟩) ?_;rintro _ rfl;let G (gs:Aa (Af×Af×Aa Af)):Sl:=.o (.l (gs.map lP));let K1:Sl:=.v (.k Z);let K2:Sl:=.v (.k U);refine kN (λc=>∃ Q s8 s9 F M,c=uS C S b r a K1 K2 J Q (G (C.gates.map (nH fA)++b.gates.map (nH (lO a)))) s8 s9 F M .n .n .n .n .n) (λN R=>?_) ?_
 .let L:Aa (Aa (gV×D)×Cel×Aa (Af×Af)×(Af->Af)):=[(Z,C,S,fA),(U,b,r,lO a)];have hL:∀ q∈L,GC q.2.1/\∀ x∈q.2.1.names,kW q.1 (Sum.inr x)=some (.str (q.2.2.2 x)):=λq hq=>by
   rcases aK.mp hq with rfl | hq
   .exact⟨h1.gc,v1⟩
   .rw[aH.mp hq];exact⟨h2.gc,v2⟩
  let eL:Aa (gV×D)×Cel×Aa (Af×Af)×(Af->Af)->D:=λq=>D.t [.k q.1,hQ q.2.1 q.2.2.1]
  let gl (i:Nat):Aa (Af×Af×Aa Af):=(L.take i).flatMap λq=>q.2.1.gates.map (nH q.2.2.2)
  refine rY (L.map eL) (uS C S b r a K1 K2 J Q (G []) .n .n .n .n .n .n .n .n .n) (λΨ h=>⟨by show 2<=1000;decide,by show 2<=1000;decide,by show 2<=1000;decide,h⟩) (λi c=>∃ Q s8 s9 F M,c=uS C S b r a K1 K2 J Q (G (gl i)) s8 s9 F M .n .n .n .n .n) ⟨_,_,_,_,_,rfl⟩ ?_ ?_
  .rintro i x c hx ⟨Q,s8,s9,F,M,rfl⟩;obtain⟨⟨Y,C',p',f⟩,hq,rfl⟩:=vV hx;obtain⟨gc,hv⟩:=hL _ (aI hq);have lg:C'.gates.length<=40:=gc.lg;have eg:gl (i+1)=gl i++C'.gates.map (nH f):=by
    show ((L.take (i+1)).flatMap _)=_;rw[dZ,hq,List.flatMap_append];show _++[(Y,C',p',f)].flatMap _=_;rw[List.flatMap_singleton]
   have ao:(gl i).length<=80:=by
    have e:∀ (L:Aa (Aa (gV×D)×Cel×Aa (Af×Af)×(Af->Af))) n,(∀ q∈L,q.2.1.gates.length<=40)->((L.take n).flatMap λq=>q.2.1.gates.map (nH q.2.2.2)).length<=40*L.length:=by
     intro L;induction L with
     | nil=>intro n _;simp
     | cons q L ih =>
      intro n hq;cases n with
      | zero=>simp
      | succ n =>
       have h1:=ih n λy hy=>hq y (aZ _ hy)
       have h2:=hq q aO;rw[List.take_succ_cons,List.flatMap_cons,aD,aA,cQ];omega
    have:=e L i λq hq=>(hL q hq).1.lg
    exact this
   refine⟨rfl,rfl,?_⟩;refine rY (C'.gates.map lP) (uS C S b r a K1 K2 J Q (G (gl i)) (.v (.k Y)) (.v (hQ C' p')) F M .n .n .n .n .n) (λΨ h=>⟨rfl,_,rfl,_,rfl,h⟩) (λj c=>∃ Q F M,c=uS C S b r a K1 K2 J Q (G (gl i++(C'.gates.take j).map (nH f))) (.v (.k Y)) (.v (hQ C' p')) F M .n .n .n .n .n) ⟨Q,F,M,by rw[List.take_zero,gI,cG]⟩ ?_ ?_
   .rintro j x c hx ⟨Q,F,M,rfl⟩;obtain⟨g,hg,rfl⟩:=vV hx;have gm:=aI hg;have hj:=(aV.mp hg).1;obtain⟨r1,r2⟩:=gc.gt.at hg;have hs:∀ p∈g.2.2,p∈C'.names:=λp q=>by
     rcases aR.mp (r2 p q) with z | z
     .exact aM _ z
     .obtain⟨y,hy,rfl⟩:=bB.mp z;exact aT _ (cA (jI hy))
    have l3:=Iw r1;refine⟨rfl,rfl,rfl,rfl,.str (f g.1),by show some (kW Y (Sum.inr g.1))=_;rw[hv g.1 (aT _ (cA gm))],?_⟩;refine L5 (i:=10) (d:=.str g.2.1) rfl ?_;unfold dC aC;refine mM g.2.2 D.str (λx=>D.str (f x)) (uS C S b r a K1 K2 J (.v (.str g.1)) (G (gl i++(C'.gates.take j).map (nH f))) (.v (.k Y)) (.v (hQ C' p')) (.v (.str g.2.1)) (.v (.t (g.2.2.map D.str))) .n .n .n .n .n) (λΨ h=>h) (by omega) (λk x ys Nx e W X=>⟨rfl,.str (f x),by show some (kW Y (Sum.inr x))=_;rw[hv x (hs x (aI e))],W,X⟩) ?_;refine⟨by show 3<=1000;decide,?_,.v (.str g.1),.v (.str g.2.1),.v (.t (g.2.2.map D.str)),?_⟩
    .show (List.map lP _).length<100000;rw[aA,aD,aA,dD];omega
    .have e2:(gl i++(C'.gates.take (j+1)).map (nH f)).map lP=(gl i++(C'.gates.take j).map (nH f)).map lP++[D.t [.str (f g.1),.str g.2.1,.t (g.2.2.map λx=>D.str (f x))]]:=by
      rw[dZ,hg,aG (f:=nH f),<- bK,aG (f:=lP) (l₁:=gl i++(C'.gates.take j).map (nH f))]
      congr 1
      show [lP (nH f g)]=_;unfold lP nH;dsimp only;rw[aP];rfl
     show _=uS C S b r a K1 K2 J _ (.o (.l ((gl i++(C'.gates.take (j+1)).map (nH f)).map lP))) _ _ _ _ _ _ _ _ _;rw[e2];rfl
   .rintro c ⟨Q,F,M,rfl⟩;rw[aA,fY];exact⟨_,_,_,_,_,by rw[eg]⟩
  .rintro c ⟨Q,s8,s9,F,M,rfl⟩;refine R _ ⟨Q,s8,s9,F,M,?_⟩;have:gl (L.map eL).length=C.gates.map (nH fA)++b.gates.map (nH (lO a)):=by
    rw[aA];show (L.take L.length).flatMap _=_;rw[fY];simp[L]
   rw[this]
 rintro _ ⟨Q,s8,s9,F,M,rfl⟩;let g:Sl:=G (C.gates.map (nH fA)++b.gates.map (nH (lO a)));let tk:Aa Af:=a.map (·.2);let gn:Aa Af:=a.map (·.1);have aa:(a.map λp=>D.str p.1)=(a.map (·.1)).map D.str:=by rw[aP];rfl
 have ab:(a.map λp=>D.str p.2)=(a.map (·.2)).map D.str:=by rw[aP];rfl
 let FO:Aa Af:=C.outs.filter λx=>!decide (x∈a.map (·.1))
 refine kN (λc=>c=uS C S b r a K1 K2 J Q g s8 s9 F M (.o (.l (tk.map D.str))) .n .n .n .n) (λN R=>?_) ?_
 .unfold nG;refine mM a oF (λp=>D.str p.2) _ (λΨ h=>h) (by omega) (λi p ys Nx e W X=>⟨rfl,rfl,W,X⟩) (R _ ?_);rw[ab];rfl
 rintro _ rfl;refine kN (λc=>c=uS C S b r a K1 K2 J Q g s8 s9 F M (.o (.l (tk.map D.str))) (.o (.l (gn.map D.str))) .n .n .n) (λN R=>?_) ?_
 .unfold nG;refine mM a oF (λp=>D.str p.1) _ (λΨ h=>h) (by omega) (λi p ys Nx e W X=>⟨rfl,rfl,W,X⟩) (R _ ?_);rw[aa];rfl
 rintro _ rfl;let T1:Sl:=.o (.l (tk.map D.str));let T2:Sl:=.o (.l (gn.map D.str));let B (ah ai aj:Sl):Aa Sl:=uS C S b r a K1 K2 J Q g s8 s9 F M T1 T2 ah ai aj;refine kN (λc=>c=B (.o (.l ((C.ins.map fA).map D.str))) .n .n) (λN R=>?_) ?_
 .unfold nG;refine mM C.ins D.str (λx=>D.str (fA x)) (B .n .n .n) (λΨ h=>⟨rfl,_,rfl,_,rfl,h⟩) (by omega) (λi x ys Nx e W X=>⟨rfl,.str (fA x),by show some (kW Z (Sum.inr x))=_;rw[v1 x (aM _ (aI e))],W,X⟩) (R _ ?_);rw[aP];rfl
 rintro _ rfl;refine kN (λc=>c=B (.o (.l ((jC C b a).ins.map D.str))) .n .n) (λN R=>?_) ?_
 .refine⟨rfl,?_⟩;refine sR b.ins D.str (λx=>D.str (lO a x)) (λx=>!decide (x∈tk)) (B (.o (.l ((C.ins.map fA).map D.str))) .n .n) (λΨ h=>⟨rfl,_,rfl,_,rfl,h⟩) (by omega) (λi x ys Nx e W X q3=>?_) ?_
  .refine⟨.str x,tk.map V.str,rfl,rX _,?_⟩;rw[qR];show if (!decide (x∈tk))=true then _ else _
   by_cases q:x∈tk
   .exact nL (by rw[aX q];rfl) (q3 (by rw[aX q];rfl))
   .exact oJ (by rw[aQ q];rfl) ⟨rfl,.str (lO a x),by show some (kW U (Sum.inr x))=_;rw[v2 x (aM _ (aI e))],W,X (by rw[aQ q];rfl)⟩
  refine⟨by simp only[aA];exact bU (iB (bT _ _) _) (by omega),R _ ?_⟩;rw[Le,aG,aP (g:=D.str) (f:=lO a)];rfl
 rintro _ rfl;let I:Sl:=.o (.l ((jC C b a).ins.map D.str));refine kN (λc=>c=B I (.o (.l ((FO.map fA).map D.str))) .n) (λN R=>?_) ?_
 .unfold nG;refine sR C.outs D.str (λx=>D.str (fA x)) (λx=>!decide (x∈gn)) (B I .n .n) (λΨ h=>⟨rfl,_,rfl,_,rfl,h⟩) (by omega) (λi x ys Nx e W X q3=>?_) (R _ ?_)
  .refine⟨.str x,gn.map V.str,rfl,rX _,?_⟩;rw[qR];show if (!decide (x∈gn))=true then _ else _
   by_cases q:x∈gn
   .exact nL (by rw[aX q];rfl) (q3 (by rw[aX q];rfl))
   .exact oJ (by rw[aQ q];rfl) ⟨rfl,.str (fA x),by show some (kW Z (Sum.inr x))=_;rw[v1 x (h1.gc.os x (aI e))],W,X (by rw[aQ q];rfl)⟩
  rw[aP];rfl
 rintro _ rfl;refine kN (λc=>c=B I (.o (.l ((jC C b a).outs.map D.str))) .n) (λN R=>?_) ?_
 .refine⟨rfl,?_⟩;refine mM b.outs D.str (λx=>D.str (lO a x)) (B I (.o (.l ((FO.map fA).map D.str))) .n) (λΨ h=>⟨rfl,_,rfl,_,rfl,h⟩) (by omega) (λi x ys Nx e W X=>⟨rfl,.str (lO a x),by show some (kW U (Sum.inr x))=_;rw[v2 x (h2.gc.os x (aI e))],W,X⟩) ?_;have lf:FO.length<=C.outs.length:=bT ..;refine⟨by simp only[aA];omega,R _ ?_⟩;rw[Jq,aG,aP (g:=D.str) (f:=lO a)];rfl
 rintro _ rfl;let O:Sl:=.o (.l ((jC C b a).outs.map D.str));refine kN (λc=>c=B I O (.o (.l ((oY fA S).map oF)))) (λN R=>?_) ?_
 .unfold nG;refine mM S oF (λp=>D.t [.str (fA p.1),.str (fA p.2)]) (B I O .n) (λΨ h=>⟨rfl,_,rfl,h⟩) (by omega) (λi p ys Nx e W X=>?_) (R _ ?_)
  .have pm:=h1.m p (aI e);exact⟨rfl,rfl,rfl,.str (fA p.1),by show some (kW Z (Sum.inr p.1))=_;rw[v1 _ (h1.gc.os _ pm.1)],rfl,.str (fA p.2),by show some (kW Z (Sum.inr p.2))=_;rw[v1 _ (aM _ pm.2)],by show 2<=1000;decide,W,X⟩
  .unfold oY;rw[List.map_map];rfl
 rintro _ rfl;refine kN (λc=>c=B I O (.o (.l ((jP S r a).map oF)))) (λN R=>?_) ?_
 .refine⟨rfl,?_⟩;refine mM r oF (λp=>D.t [.str (lO a p.1),.str (lO a p.2)]) (B I O (.o (.l ((oY fA S).map oF)))) (λΨ h=>⟨rfl,_,rfl,h⟩) (by omega) (λi p ys Nx e W X=>?_) ?_
  .have pm:=h2.m p (aI e);exact⟨rfl,rfl,rfl,.str (lO a p.1),by show some (kW U (Sum.inr p.1))=_;rw[v2 _ (h2.gc.os _ pm.1)],rfl,.str (lO a p.2),by show some (kW U (Sum.inr p.2))=_;rw[v2 _ (aM _ pm.2)],by show 2<=1000;decide,W,X⟩
  have l1:((oY fA S).map oF).length=S.length:=by unfold oY;rw[List.length_map,List.length_map]
  refine⟨by rw[l1,aA];omega,R _ ?_⟩;show _=B I O (.o (.l ((oY fA S++oY (lO a) r).map oF)));rw[aG];have:(oY (lO a) r).map oF=r.map λp=>D.t [.str (lO a p.1),.str (lO a p.2)]:=by unfold oY;rw[List.map_map];rfl
  rw[this];rfl
 rintro _ rfl;exact⟨rfl,by show 3<=1000;decide,by show 2<=1000;decide,ac⟩
end
theorem Z2:(["gate"]:Aa Af).Nodup:=by decide +kernel
theorem Tt:(["name"]:Aa Af).Nodup:=by decide +kernel
def Lv:RD:=λi f h=>∃ C d c e a,f=[hQ C d,hQ c e,.t (a.map oF)]/\RG C d/\RG c e/\PrsOk (lQ C d) (lX c e) a/\a.length<=40/\∀ b,(b=true↔¬ Fits (jC C c a) (jP d e a))->h (.v (.b b))
theorem Rt (a b:Bool) (j:Aa Sl) (r:∀ g:Bool->Aa Sl->Prop,g a l->t o l g) (C:∀ g:Bool->Aa Sl->Prop,g b j->u o l g) (I:a=true->p true l) (J:a=false->p b j):B5 t u o l p:=by
 unfold B5;refine r _ ?_;cases a
 .exact C _ (J rfl)
 .exact I rfl
theorem Fu (a b:Bool) (o:∀ g:Sl->Aa Sl->Prop,g (.v (.b a)) j->t l j g) (p:∀ g:Sl->Aa Sl->Prop,g (.v (.b b)) j->u l j g) (k:r (.v (.b (a||b))) j):G2 t u l j r:=by
 unfold G2;refine o _ ?_;cases a
 .exact p _ k
 .exact k
section
variable {P:Ah}{K:kM}
theorem F5:FnScope ["one","other","pairs","row","names"] ["one","other","pairs"] (lB Du):=mT
theorem Se (T:Txt mg) (j:Kn P w K mg base 1 "_law_due_row" Ex ["one","other","pairs"] Js):nU P w K mg base 2 "_law_great" Du ["one","other","pairs"] Lv:=by
 refine oO F5 λf aa A Z s H E dk ds Φ U c hR=>?_
 obtain⟨C,R,k,S,d,rfl,M,G,pk,lp,L⟩:=hR;refine⟨_,(kQ (kU 3 F5.nd (lU j U (dK (dT 0) (dK (dT 1) (dK (dT 2) eH))))) (kQ (kU 4 F5.nd (kS lE lD (mQ vY wN T.list dH (dK (lY c (hI c 3 gD) gD) eH)) (mS ["gate"] [] [] (lK (lY c (hI c 3 gD) gD)) (λ_ _ _ _ _=>(kP 0 Z2)) (λ_ _ _ _ _=>(hI c 0 gD))))) (kQ (qV (wF (Cc (wG (Sx c) (rR false) nF (pv 4)) (B1 (qW (Il U.units) (xZ true) (mS ["name"] [] [] (lK (dT 4)) (λ_ _ _ _ _=>(kP 0 Tt)) (λ_ _ _ _ _=>(dT 0)) (ht:=λ_ _ _ _ _=>(tK (qW uV uZ (oP pK pI T.len cB (dK (dT 0) eH)) gD)))) (rB eH))))) (lH (mO wI)) pC) (lH (mO (Gf (Eo uV uZ (oP pK pI T.len cB (dK (lY c (hI c 3 gD) gD) eH)) gD) (Gf (Eo uV uZ (oP pK pI T.len cB (dK (lY c (hI c 3 gD) gD) eH)) gD) (Gf (Eo uV uZ (oP pK pI T.len cB (dK (lY c (hI c 3 gD) gD) eH)) gD) (Yx (Eo uV uZ (oP pK pI T.len cB (dK (hI c 3 gD) eH)) gD)))))))))),?_⟩;let b:Aa Sl:=[.v (hQ C R),.v (hQ k S),.v (.t (d.map oF))];refine kN (λW=>W=b++[.v (hQ (jC C k d) (jP R S d)),.n]) (λN O=>⟨C,R,k,S,d,rfl,M,G,pk,lp,.inl rfl,O _ rfl⟩) ?_;rintro _ rfl;have jl:(jC C k d).ins.length<=80/\(jC C k d).gates.length<=80/\(jC C k d).outs.length<=80/\(jP R S d).length<=80:=by
  have a1:=M.gc.li;have a2:=M.gc.lg;have a3:=M.gc.lo;have c1:=G.gc.li;have c2:=G.gc.lg;have c3:=G.gc.lo;have d1:=M.lp;have d2:=G.lp;refine⟨by rw[Le,aD,aA,aA];exact bU (iB (bT _ _) _) (by omega),?_,by rw[Jq,aD,aA,aA];exact bU (Nat.add_le_add_right (bT _ _) _) (by omega),?_⟩
  .show ((qU fA C).gates++(qU (lO d) k).gates).length<=80;unfold qU;rw[List.length_append,List.length_map,List.length_map];omega
  .unfold jP oY;rw[List.length_append,List.length_map,List.length_map];omega
 have jz:∀ x∈(jC C k d).names,x.length<=1000:=λx Q=>by
  have pin:∀ p∈d,p.2∈k.ins:=λp hp=>(bQ.mp (pk.m p hp).2).1
  rcases F9 G.gc.nd pin Q with⟨y,Y,rfl⟩ | ⟨y,Y,_,rfl⟩
  .have:=(M.az y Y).hi;rw[Vt];omega
  .have:=(G.az y Y).hi;rw[Wc];omega
 generalize jC C k d=J at *;generalize jP R S d=X at *;obtain⟨l1,l2,l3,l4⟩:=jl;have lN:J.names.length<=160:=by unfold Cel.names;rw[List.length_append,List.length_map];omega
 refine kN (λW=>W=b++[.v (hQ J X),.o (.l (J.names.map D.str))]) (λN O=>?_) ?_
 .refine⟨rfl,_,rfl,_,rfl,_,rfl,?_⟩;refine mM J.gates lP (λg=>D.str g.1) _ (λu h=>⟨rfl,_,rfl,_,rfl,h⟩) (by omega) (λi x ys Nx e r I=>⟨rfl,_,rfl,r,I⟩) ?_;refine⟨by simp;omega,O _ ?_⟩;unfold Cel.names;rw[List.map_append,List.map_map];rfl
 rintro _ rfl;let F:Aa Af:=J.names.filter λx=>decide ((x.length:Int)>8)
 have ab:F.length<=J.names.length:=bT ..;refine kN (λW=>(("and" : Af)∉J.names/\F=[])/\∃ s,W=b++[.v (hQ J X),s]) (λN O=>?_) ?_
 .refine Rt (decide (("and" : Af)∈J.names)) (decide (F≠[])) (b++[.v (hQ J X),.v (.l (J.names.map D.str))]) (λu h=>?_) (λu h=>?_) (λz=>?_) (λz=>?_)
  .refine⟨.str "and",J.names.map V.str,rfl,rX _,?_⟩;rw[qR];exact h
  .unfold yR d2;refine sR J.names D.str D.str (λx=>decide ((x.length:Int)>8)) _ (λu h=>h) (by omega) (λi x ys Nx e r I q3=>?_) ?_
   .refine⟨aX (by have:=jz x (aI e);omega),_,rfl,?_⟩;by_cases q:(x.length:Int)>8
    .exact oJ (aX q) ⟨r,I (aX q)⟩
    .exact nL (aQ q) (q3 (aQ q))
   .refine⟨by show 0<=1000;decide,?_⟩;have:nb true (F.map D.str).isEmpty=decide (F≠[]):=by cases F<;>rfl
    show u (nb true (F.map D.str).isEmpty) _;rw[this];exact h
  .refine oJ rfl (L true ⟨λ_ B=>B.n (eI z),λ_=>rfl⟩)
  .by_cases q:F=[]
   .exact nL (by simp[q]) (O _ ⟨⟨of_decide_eq_false z,q⟩,_,rfl⟩)
   .refine oJ (aX q) (L true ⟨λ_ B=>q (List.filter_eq_nil_iff.mpr λx Q=>?_),λ_=>rfl⟩);have:=B.l x Q;rw[aQ (by omega)];decide
 rintro _ ⟨⟨n1,n2⟩,s,rfl⟩;have nl:∀ x∈J.names,x.length<=8:=λx Q=>by
  have:=List.filter_eq_nil_iff.mp n2 x Q;simp at this;omega
 unfold sT;refine Fu (decide (((J.ins.map D.str).length:Int)>6)) (decide (((J.outs.map D.str).length:Int)>6)||(decide (((J.gates.map lP).length:Int)>24)||decide (((X.map oF).length:Int)>4))) (λu h=>?_) (λu h=>?_) ?_
 .exact⟨rfl,_,rfl,_,rfl,rfl,_,rfl,h⟩
 .refine Fu _ _ (λu h=>⟨rfl,_,rfl,_,rfl,rfl,_,rfl,h⟩) (λu h=>Fu _ _ (λu h=>⟨rfl,_,rfl,_,rfl,rfl,_,rfl,h⟩) (λu h=>⟨rfl,_,rfl,rfl,_,rfl,h⟩) h) h
 .refine L _ ?_;rw[aA,aA,aA,aA];constructor
  .intro z B;have a1:=B.i;have a2:=B.o;have a3:=B.g;have a4:=B.a;simp only[jK,dY] at z;omega
  .intro z;simp only[jK,dY];refine Decidable.byContradiction λq=>z ⟨?_,?_,?_,?_,nl,n1⟩<;>omega
end
def lz (k:Nat):Nat:=if k<23 then 97+k else 98+k
def zN (k:Nat):Af := "z" ++ (⟨#[lz k]⟩:Af)
def zG (i:Af) (n:Nat):Aa (Af×Af×Aa Af):=(List.range n).map λk=>(zN k,("not" : Af),[i])
def zC (C:Cel) (i:Af) (n:Nat):Cel:=⟨C.ins,C.gates++zG i n,C.outs⟩
def Fj:Af := "abcdefghijklmnopqrstuvwyz"
theorem Vd {k:Nat}(h:k<25):nO Fj.cps.toList (k:Int)=some (lz k):=by
 have a:∀ k:Fin 25,Fj.cps.toList[k.val]?=some (lz k.val):=by decide +kernel
 exact qC (a ⟨k,h⟩)
def Nj:RD:=λd b c=>∃ (C:Cel) (a:Aa (Af×Af)) (n:Nat) (i:Af),b=[hQ C a,.int n]/\n<=25/\C.ins.head?=some i/\C.gates.length<=100/\c (.v (hQ (zC C i n) a))
section
variable {P:Ah}{K:kM}
theorem Ha:FnScope ["row","many","gates","k"] ["row","many"] (lB C9):=mT
theorem Sv (T:Txt g):nU P w K g base 1 "_law_more_gates" C9 ["row","many"] Nj:=by
 refine oO Ha λf t A q s H E D F Q M a x=>?_
 obtain⟨C,c,n,b,rfl,L,z,O,m⟩:=x;refine⟨_,(kQ (kU 2 Ha.nd (mQ vY wN T.list dH (dK (lY a (hI a 0 gD) gD) eH))) (kQ (sL (wE (by rfl) T.range (dT 1)) (kP 3 Ha.nd) (lH (sC (rF bZ cO cP uI vG (pv 2) (dK (kZ (dK (kS lE lD nF (lY a nF (dT 3))) (dK nF (dK (kZ (dK (lY a (lY a (hI a 0 gD) gD) gD) eH)) eH)))) eH))))) (lH (mO (kZ (dK (kZ (dK (lY a (hI a 0 gD) gD) (dK (mQ oZ pB T.tuple bC (rN (pv 2) eH)) (dK (lY a (hI a 0 gD) gD) eH)))) (dK (hI a 0 gD) eH))))))),?_⟩;let st (j:Nat) (s:Sl):Aa Sl:=[.v (hQ C c),.v (.int n),.o (.l ((C.gates++zG b j).map lP)),s];refine kN (λd=>d=st 0 .n) (λN i=>⟨rfl,_,rfl,_,rfl,_,rfl,i _ ?_⟩) ?_
 .show _=[Sl.v (hQ C c),.v (.int n),.o (.l ((C.gates++[]).map lP)),.n];rw[cG];rfl
 rintro _ rfl;refine kN (λd=>∃ s,d=st n s) (λN i=>?_) ?_
 .refine rY (pA 0 n) (st 0 .n) (λR h=>⟨by omega,by omega,h⟩) (λj d=>∃ s,d=st j s) ⟨_,rfl⟩ ?_ ?_
  .rintro j e d y ⟨s,rfl⟩;obtain⟨G,rfl⟩:=yO y;have B:=Vd (k:=j) (by omega);have u:zG b (j+1)=zG b j++[(zN j,("not" : Af),[b])]:=by unfold zG;rw[List.range_succ,List.map_append];rfl
   refine⟨rfl,by show Fj.length<=100000;decide +kernel,lz j,?_,by show 1+1<=100000;decide,rfl,_,rfl,_,rfl,.str b,?_,by show 1<=1000;decide,by show 3<=1000;decide,?_,.v (.int (0+(j:Int))),?_⟩
   .rw[show (0:Int)+(j:Int)=j by omega];exact B
   .refine qC (j:=0) ?_;rw[bH,<- List.head?_eq_getElem?,z];rfl
   .show (List.map lP _).length<100000;rw[aA,aD];unfold zG;rw[aA,dM];omega
   .show _=[Sl.v (hQ C c),.v (.int n),.o (.l ((C.gates++zG b (j+1)).map lP)),.v (.int (0+(j:Int)))];rw[u,<- bK,aG (l₁:=C.gates++zG b j)];rfl
  .rintro d ⟨s,rfl⟩;exact i _ ⟨s,by simp[pA]⟩
 rintro _ ⟨s,rfl⟩;exact⟨rfl,_,rfl,_,rfl,rfl,rfl,_,rfl,_,rfl,by show 3<=1000;decide,rfl,_,rfl,by show 2<=1000;decide,m⟩
end
end Lw
namespace L2
open PySem PySem.Spec PyProof.Rows
section
variable {X:Cx}
theorem DW (g:PD X e o) (l:vH e=true:=by rfl):PD X (.Tuple [.Tuple [.Tuple [] x1 p1,.Tuple [.Tuple [.Constant (.str t) j q,e,.Tuple [] x2 p2] x3 p3] x4 p4,.Tuple [.Constant (.str t') j' q'] x5 p5] x6 p6,.Tuple [] x7 p7] x8 p8) (mG (aC (mG (aC (mG mH) (aC (mG (aC (mG (aC (cd (.str t)) (aC o (aC (mG mH) mH)))) mH)) (aC (mG (aC (cd (.str t')) mH)) mH)))) (aC (mG mH) mH))) :=
 kZ (dK (kZ (dK (kZ eH) (dK (kZ (dK (kZ (dK nF (dK g (dK (kZ eH) eH) l))) eH)) (dK (kZ (dK nF eH)) eH)))) (dK (kZ eH) eH))
theorem Ud (o:X.A.units+1<cLine) (g:PD X e r) (l:xY e:=by exact λ_ _=>rfl):PD X (.Subscript (.Tuple [.Constant (.str t) j q,.Constant (.str p) C T] U I) e J) (d2 xR (mG (aC (cd (.str t)) (aC (cd (.str p)) mH))) r) :=
 lY o (kZ (dK nF (dK nF eH))) g l
theorem Tv (o:X.A.units+1<cLine) (g:PD X e p) (l:xY e:=by exact λ_ _=>rfl):PD X (.Subscript (.List [.Constant (.int n) j q,.Constant (.int m) r J] C) e I) (d2 xR (Mu (aC (cd (.int n)) (aC (cd (.int m)) mH))) p) :=
 lY o (rB (dK gD (dK gD eH))) g l
theorem Zi {i:Nat}{x:Af}{j pos g:Pos}{c v:Expr}{l:pX}{o:lL}{rest:Aa Stmt}{C:nQ->Prop}(T:PD X v o) (p:X.N.Nodup) (J:X.N[i]?=some x) (U:rT X.env.scope x) (I:X.fn x=true) (r:qH X c l) (hw:swapsWith v (some (.Name x j)) pos.line X.env=pure false)
  (k:∃ u,oM X rest u/\C (uD (xA l (nG i o) Fm) u)):∃ u,oM X (.If c [.Assign [.Name x j] v pos] [] g::rest) u/\C u:=by
 obtain⟨u,a,b⟩:=k;exact⟨_,kQ (qV r (lH (kU i p T J U hw (.inl I))) pC) a,b⟩
theorem EC {i:Nat}{x:Af}{p' pos g:Pos}{c:Expr}{tc:pX}{rest:Aa Stmt}{C:nQ->Prop}(hN:X.N.Nodup) (hi:X.N[i]?=some x) (hx:rT X.env.scope x) (hf:X.fn x=true) (hc:qH X c tc) (he:PD X e te) (hn:vH e=true)
  (k:∃ u,oM X rest u/\C (uD (xA tc (nG i (mG (aC (mG (aC (mG mH) (aC (mG (aC (mG (aC (cd (.str t)) (aC te (aC (mG mH) mH)))) mH)) (aC (mG (aC (cd (.str l)) mH)) mH)))) (aC (mG mH) mH)))) Fm) u)) :
  ∃ u,oM X (.If c [.Assign [.Name x p'] (.Tuple [.Tuple [.Tuple [] x1 p,.Tuple [.Tuple [.Constant (.str t) j q,e,.Tuple [] x2 r] x3 I] x4 J,.Tuple [.Constant (.str l) o q'] x5 T] x6 U,.Tuple [] x7 p7] x8 p8) pos] [] g::rest) u/\C u:=by
 have a:=DW (X:=X) (t:=t) (t':=l) (j:=j) (j':=o) (q:=q) (q':=q') (x1:=x1) (x2:=x2) (x3:=x3) (x4:=x4) (x5:=x5) (x6:=x6) (x7:=x7) (x8:=x8) (p1:=p) (p2:=r) (p3:=I) (p4:=J) (p5:=T) (p6:=U) (p7:=p7) (p8:=p8) he hn;have hw:swapsWith (.Tuple [.Tuple [.Tuple [] x1 p,.Tuple [.Tuple [.Constant (.str t) j q,e,.Tuple [] x2 r] x3 I] x4 J,.Tuple [.Constant (.str l) o q'] x5 T] x6 U,.Tuple [] x7 p7] x8 p8) (some (.Name x p')) pos.line X.env=pure false:=rfl;revert a hw k;generalize (Expr.Tuple [.Tuple [.Tuple [] x1 p,.Tuple [.Tuple [.Constant (.str t) j q,e,.Tuple [] x2 r] x3 I] x4 J,.Tuple [.Constant (.str l) o q'] x5 T] x6 U,.Tuple [] x7 p7] x8 p8)=v;intro k a hw;exact Zi a hN hi hx hf hc hw k
section
theorem Yg {i:Nat}{x:Af}{g pos:Pos}{v:Expr}{j:lL}{rest:Aa Stmt}{C:nQ->Prop}(r:PD X v j) (l:X.N.Nodup) (p:X.N[i]?=some x) (I:rT X.env.scope x) (o:X.fn x=true) (hw:swapsWith v (some (.Name x g)) pos.line X.env=pure false)
  (k:∃ u,oM X rest u/\C (uD (nG i j) u)):∃ u,oM X (.Assign [.Name x g] v pos::rest) u/\C u:=by
 obtain⟨u,a,b⟩:=k;exact⟨_,kQ (kU i l r p I hw (.inl o)) a,b⟩
end
end
end L2
namespace Lw
open PySem L2
theorem E3 (g:Aa Int) (i:Nat):AZ (lR g i):=by
 have b:∀ z:Nat,97<=97+z%26/\97+z%26<=122:=λz=>by have:=dB z (show 0<26 by decide);omega
 have m:∀ c∈(oW g).cps.toList,97<=c/\c<=122:=λc a=>by
  rw[show (oW g).cps.toList=[97+kO g 0%26] from rfl] at a;rw[aH.mp a];exact b _
 have e:∀ c∈(Cv g i).cps.toList,97<=c/\c<=122:=λc a=>by
  rw[show (Cv g i).cps.toList=[97+(i+kO g 3)%26] from rfl] at a;rw[aH.mp a];exact b _
 have f:∀ n:Nat,∀ c∈(Txt.mul (oW g) (n:Int)).cps.toList,97<=c/\c<=122:=λn c a=>by
  unfold oW at a;rw[An] at a;rw[(eU.mp a).2];exact b _
 have k:∀ c∈(nX g i).cps.toList,97<=c/\c<=122:=λc a=>by
  unfold nX at a;rw[pO,pO] at a;rcases aR.mp a with q | q
  .rcases aR.mp q with q | q
   .exact f _ c q
   .exact e c q
  .exact f _ c q
 have l:=Tg g i;refine⟨λc a=>?_,l.1,by omega⟩;unfold lR at a;by_cases h:kO g 8%4=1
 .rw[aU h] at a;exact e c a
 .rw[aL h,pO] at a;rcases aR.mp a with q | q
  .by_cases d:i%2=1/\(nX g i).length<7
   .rw[aU d,pO] at q;rcases aR.mp q with q | q
    .exact k c q
    .exact m c q
   .rw[aL d] at q;exact k c q
  .rw[show ("x" : Af).cps.toList=[120] from rfl] at q;rw[aH.mp q];decide
theorem Od (g:Aa Int) (i:Nat):(lR g i).length=1\/(lR g i).cps.toList.getLast?=some 120:=by
 unfold lR;by_cases h:kO g 8%4=1
 .rw[aU h];exact .inl rfl
 .rw[aL h,pO];refine .inr ?_;rw[show ("x" : Af).cps.toList=[120] from rfl,List.getLast?_append];rfl
theorem zM (k:Nat):(zN k).cps.toList=[122,lz k]:=pO "z" ⟨#[lz k]⟩
theorem Rk (h:k<25):AZ (zN k):=by
 refine⟨λc a=>?_,by rw[oX,zM];show 1<=2;decide,by rw[oX,zM];show 2<=100;decide⟩;rw[zM] at a;rcases aK.mp a with q | q
 .omega
 .rw[aH.mp q];unfold lz;split<;>omega
theorem Jt:zN k≠lR g i:=λe=>by
 rcases Od g i with h | h
 .rw[<- e,oX,zM] at h;cases h
 .rw[<- e,zM] at h;have h:lz k=120:=by simpa using h
  unfold lz at h;split at h<;>omega
theorem Y8 (e:zN j=zN k):j=k:=by
 have:=cH (λz:Af=>z.cps.toList) e;simp only[zM,eO,and_true,true_and] at this;unfold lz at this;split at this<;>split at this<;>omega
structure Drn (ns:List Int) (C:Cel) (prs:List (Str×Str)):Prop where
 m:∃ m g:Nat,1<=m/\m<=6/\1<=g/\g<=6/\C.ins=(List.range m).map (lR ns)/\C.gates.map (·.1)=(List.range g).map λk=>lR ns (6+k)
 gc:GC C
 on:C.outs≠[]
 ol:C.outs.length<=4
 og:∀ o∈C.outs,o∈C.gates.map (·.1)
 al:Alg C prs
theorem Drn.word (h:Drn l C o) (j:x∈C.names):∃ i,x=lR l i:=by
 obtain⟨m,g,_,_,_,_,a,b⟩:=h.m;unfold Cel.names at j;rw[a,b] at j;rcases aR.mp j with q | q<;>obtain⟨i,_,rfl⟩:=bB.mp q
 .exact⟨i,rfl⟩
 .exact⟨_,rfl⟩
theorem Drn.rg (h:Drn j C g):RG C g :=
 ⟨h.gc,h.al.n1,h.al.n2,h.al.o,by have:=h.al.l;omega,λx a=>by obtain⟨i,rfl⟩:=h.word a;exact E3 j i⟩
theorem Jn {kn:Aa Af}:∀ (n:Nat) (g:Aa (Af×Af×Aa Af)),rS kn g->i∈kn->rS kn (g++zG i n)
 | 0,g,h,_=>by
  show rS kn (g++[]);rw[cG];exact h
 | n+1,g,h,a=>by
  have e:zG i (n+1)=zG i n++[(zN n,("not" : Af),[i])]:=by unfold zG;rw[List.range_succ,List.map_append];rfl
  rw[e,<- bK];refine rS.snoc (Jn n g h a) ⟨.inr (.inr (.inl ⟨rfl,rfl⟩))⟩ λp b=>?_
  rw[aH.mp b];exact aM _ a
theorem Drn.more (h:Drn I C l) (p:C.ins.head?=some i) (r:n<=25):RG (zC C i n) l:=by
 have t:i∈C.ins:=List.mem_of_mem_head? p;have R:=h.rg;have z:C.gates.length<=6:=by
  obtain⟨m,g,_,_,_,w,_,e⟩:=h.m;have:=cH List.length e;rw[aA,aA,dM] at this;omega
 have f:(zG i n).map (·.1)=(List.range n).map zN:=by unfold zG;rw[List.map_map];rfl
 have d:(zC C i n).names=C.names++(List.range n).map zN:=by
  unfold zC Cel.names;dsimp only;rw[aG,f,bK]
 refine⟨⟨?_,Jn n _ h.gc.gt t,λo u=>?_,h.gc.ond,h.gc.li,?_,h.gc.lo⟩,R.n1,R.n2,R.m,R.lp,λx c=>?_⟩
 .rw[d,bS];refine⟨h.gc.nd,gO _ (λa b q e=>q (Y8 e)) jZ,λx c y v e=>?_⟩;obtain⟨j,rfl⟩:=h.word c;obtain⟨k,_,rfl⟩:=bB.mp v;exact Jt e.symm
 .rw[d];exact aM _ (h.gc.os o u)
 .show (C.gates++zG i n).length<=40;unfold zG;rw[aD,aA,dM];omega
 .rw[d] at c;rcases aR.mp c with q | q
  .exact R.az x q
  .obtain⟨k,s,rfl⟩:=bB.mp q;exact Rk (by have:=gR.mp s;omega)
def tC (w:Af):Cel:=⟨[],[("told",w,[])],["told"]⟩
theorem S5 {w:Af}(h:w = "one" \/ w = "nil"):RG (tC w) []:=by
 refine⟨⟨by show (["told"]:Aa Af).Nodup;simp,⟨?_,(λ_ h=>absurd h bE),True.intro⟩,λo b=>b,by show (["told"]:Aa Af).Nodup;simp,by show 0<=40;decide,by show 1<=40;decide,by show 1<=40;decide⟩,bX,bX,(λ_ h=>absurd h bE),by decide,λx a=>?_⟩
 .rcases h with rfl | rfl
  .exact⟨.inr (.inr (.inr (.inl ⟨rfl,rfl⟩)))⟩
  .exact⟨.inr (.inr (.inr (.inr ⟨rfl,rfl⟩)))⟩
 .have a:x∈(["told"]:Aa Af):=a;rw[aH.mp a];exact⟨by decide +kernel,by decide +kernel,by decide +kernel⟩
theorem Drn.head (h:Drn l C j):∃ i,C.ins.head?=some i:=by
 obtain⟨m,g,a,_,_,_,e,_⟩:=h.m;rw[e];cases m with
 | zero=>omega
 | succ m=>rw[List.range_succ_eq_map];exact⟨_,rfl⟩
theorem Drn.gl (h:Drn l C j):C.gates.length<=6:=by
 obtain⟨m,g,_,_,_,a,_,e⟩:=h.m;have:=cH List.length e;rw[aA,aA,dM] at this;omega
def vI (g:Aa Int) (C:Cel):Prop:=lR g 20∉C.names/\lR g 21∉C.names
def zT (C:Cel):Prop:=∀ o∈C.outs,o∈C.gates.map (·.1)
theorem Drn.strange (h:Drn o C p) (r:12<=j) (l:j<26):lR o j∉C.names:=λa=>by
 obtain⟨m,g,_,k,_,f,c,d⟩:=h.m;unfold Cel.names at a;rw[c,d] at a;rcases aR.mp a with q | q<;>obtain⟨i,b,e⟩:=bB.mp q<;>have b:=gR.mp b
 .have:=F1 (by omega) l e;omega
 .have:=F1 (by omega) l e;omega
theorem Drn.st2 (h:Drn g C j):vI g C:=⟨h.strange (by decide) (by decide),h.strange (by decide) (by decide)⟩
theorem Drn.more2 (h:Drn g C l) (i:Af) (n:Nat):vI g (zC C i n)/\zT (zC C i n):=by
 have b:(zG i n).map (·.1)=(List.range n).map zN:=by unfold zG;rw[List.map_map];rfl
 have a:(zC C i n).names=C.names++(List.range n).map zN:=by
  unfold zC Cel.names;dsimp only;rw[aG,b,bK]
 have go:∀ j,lR g j∉C.names->lR g j∉(zC C i n).names:=λj c z=>by
  rw[a] at z;rcases aR.mp z with q | q
  .exact c q
  .obtain⟨k,_,e⟩:=bB.mp q;exact Jt e
 refine⟨⟨go _ h.st2.1,go _ h.st2.2⟩,λo d=>?_⟩;show o∈(C.gates++zG i n).map (·.1);rw[aG];exact aM _ (h.og o d)
theorem EV (g:Aa Int) (w:Af):vI g (tC w)/\zT (tC w):=by
 have go:∀ j,lR g j∉(tC w).names:=λj z=>by
  have z:lR g j∈(["told"]:Aa Af):=z;have z:=aH.mp z;rcases Od g j with h | h
  .rw[z] at h;revert h;decide +kernel
  .rw[z] at h;revert h;decide +kernel
 exact⟨⟨go _,go _⟩,λo a=>a⟩
def Mi:RD:=λi f h=>∃ a:Aa Int,f=[.c (a.map D.int)]/\a.length<=63/\∀ C d b e,RG C d->RG b e->vI a C/\zT C->vI a b->h (.v (.t [hQ C d,hQ b e]))
section
variable {P:Ah}{K:kM}
theorem xO:FnScope ["script","one","other","draw","many"] ["script"] (lB Cq):=mT
theorem Vu (T:Txt p) (o:Kn P w K p base 1 "_law_draw" uE ["script","k"] wT) (l:Kn P w K p base 5 "_law_row" Fd ["script","begin"] Ny) (j:Kn P w K p base 1 "_law_more_gates" C9 ["row","many"] Nj):nU P w K p base 6 "_law_two_rows" Cq ["script"] Mi:=by
 refine oO xO λf ah A ag s H E dk ds Φ G L hR=>?_
 obtain⟨b,rfl,hl,af⟩:=hR;refine sM (kU 1 xO.nd (lU l G (dK (dT 0) (dK gD eH)))) ?_;refine sM (kU 2 xO.nd (lU l G (dK (dT 0) (dK gD eH)))) ?_;refine sM (kU 3 xO.nd (lU o G (dK (dT 0) (dK gD eH)))) ?_;refine EC (i:=1) xO.nd rfl (Or.inl rfl) rfl (qW (C2 G.units) (xZ false) (mP nE nD 3 gD) gD) (Ud L (kS nE nD (mP vE uU 3 gD) gD)) rfl ?_;refine⟨_,(kQ (qV (qW (C2 G.units) (xZ false) (mP nE nD 3 gD) gD) (kQ (kU 4 xO.nd (kS C8 Dl (kS C8 Dl (Tv L (kS nE nD (mP vE uU 3 gD) gD)) (oP pK pI T.len cB (dK (lY L (hI L 1 gD) gD) eH))) (oP pK pI T.len cB (dK (lY L (hI L 2 gD) gD) eH)))) (lH (kU 1 xO.nd (lU j G (dK (dT 1) (dK (dT 4) eH)))))) pC) (lH (mO (kZ (dK (dT 1) (dK (dT 2) eH)))))),?_⟩;refine kN (λk=>∃ C e,Drn b C e/\k=[.v (.c (b.map D.int)),.v (hQ C e),.n,.n,.n]) (λN d=>⟨b,0,by simp,hl,by omega,λm g C B R S V W X Y Z r I u x=>⟨.inl rfl,d _ ⟨C,B,⟨⟨m,g,R,S,V,W,X,Y⟩,Z,r,I,u,x⟩,rfl⟩⟩⟩) ?_;rintro _ ⟨C,e,O,rfl⟩;refine kN (λk=>∃ h t,Drn b h t/\k=[.v (.c (b.map D.int)),.v (hQ C e),.v (hQ h t),.n,.n]) (λN d=>⟨b,100,by simp,hl,by omega,λm g C B R S V W X Y Z r I u x=>⟨.inl rfl,d _ ⟨C,B,⟨⟨m,g,R,S,V,W,X,Y⟩,Z,r,I,u,x⟩,rfl⟩⟩⟩) ?_;rintro _ ⟨h,t,y,rfl⟩;let a:Nat:=kO b 15;refine kN (λk=>k=[.v (.c (b.map D.int)),.v (hQ C e),.v (hQ h t),.v (.int a),.n]) (λN d=>⟨b,15,by simp,hl,by omega,.inl rfl,d _ rfl⟩) ?_;rintro _ rfl;refine kN (λk=>∃ C e,RG C e/\(vI b C/\zT C)/\(a%8=2->Drn b C e)/\k=[.v (.c (b.map D.int)),.v (hQ C e),.v (hQ h t),.v (.int a),.n]) (λN d=>?_) ?_
 .refine⟨rfl,by show (0:Int)<8;decide,?_⟩;by_cases q:a%8=1
  .refine oJ (aX (by omega)) ?_;have hm:a/8%2=0\/a/8%2=1:=by omega
   obtain⟨w,hw,ae⟩:∃ w:Af,nO [D.str "one",D.str "nil"] ((a:Int)/8%2)=some (.str w)/\(w = "one" \/ w = "nil"):=by
    rw[show (a:Int)/8%2=((a/8%2:Nat):Int) by omega];rcases hm with z | z<;>rw[z]
    .exact⟨"one",qC rfl,.inl rfl⟩
    .exact⟨"nil",qC rfl,.inr rfl⟩
   exact⟨by show 0<=1000;decide,by show 2<=1000;decide,rfl,by show (0:Int)<8/\(8:Int)<2 ^ 64;decide,by show (0:Int)<2;decide,_,hw,by show 0<=1000;decide,by show 3<=1000;decide,by show 1<=1000;decide,by show 1<=1000;decide,by show 3<=1000;decide,by show 0<=1000;decide,by show 2<=1000;decide,d _ ⟨tC w,[],S5 ae,EV b w,λz=>by omega,rfl⟩⟩
  .exact nL (aQ (by omega)) (d _ ⟨C,e,O.rg,⟨O.st2,O.og⟩,λ_=>O,rfl⟩)
 rintro _ ⟨F,p',U,ab,J,rfl⟩;refine kN (λk=>∃ C e s,RG C e/\(vI b C/\zT C)/\k=[.v (.c (b.map D.int)),.v (hQ C e),.v (hQ h t),.v (.int a),s]) (λN d=>?_) ?_
 .refine⟨rfl,by show (0:Int)<8;decide,?_⟩;by_cases q:a%8=2
  .refine oJ (aX (by omega)) ?_;have Q:=J q;have g1:=Q.gl;have g2:=y.gl;obtain⟨i0,M⟩:=Q.head;obtain⟨n,hn,hv⟩:∃ n:Nat,n<=25/\∃ v:Int,nO [D.int 24,D.int 25] ((a:Int)/8%2)=some (.int v)/\v-((F.gates.map lP).length:Int)-((h.gates.map lP).length:Int)=n:=by
    rw[aA,aA,show (a:Int)/8%2=((a/8%2:Nat):Int) by omega];have hm:a/8%2=0\/a/8%2=1:=by omega
    rcases hm with z | z<;>rw[z]
    .exact⟨24-F.gates.length-h.gates.length,by omega,24,qC rfl,by omega⟩
    .exact⟨25-F.gates.length-h.gates.length,by omega,25,qC rfl,by omega⟩
   obtain⟨v,hv,ev⟩:=hv;refine kN (λk=>k=[.v (.c (b.map D.int)),.v (hQ F p'),.v (hQ h t),.v (.int a),.v (.int n)]) (λN d=>?_) ?_
   .refine⟨by show 2<=1000;decide,rfl,by show (0:Int)<8/\(8:Int)<2 ^ 64;decide,by show (0:Int)<2;decide,_,hv,rfl,_,rfl,_,rfl,rfl,_,rfl,rfl,_,rfl,_,rfl,rfl,_,rfl,d _ ?_⟩;rw[<- ev];rfl
   rintro _ rfl;exact⟨F,p',n,i0,rfl,hn,M,by omega,.inl rfl,d _ ⟨_,_,_,Q.more M hn,Q.more2 i0 n,rfl⟩⟩
  .exact nL (aQ (by omega)) (d _ ⟨F,p',_,U,ab,rfl⟩)
 rintro _ ⟨C3,p3,s,aa,ac,rfl⟩;exact⟨by show 2<=1000;decide,af C3 p3 h t aa y.rg ac y.st2⟩
end
theorem Uw:(["name"]:Aa Af).Nodup:=by decide +kernel
theorem Sq:(["gate"]:Aa Af).Nodup:=by decide +kernel
theorem Te:(["one","named"]:Aa Af).Nodup:=by decide +kernel
theorem Mt:(["name","named"]:Aa Af).Nodup:=by decide +kernel
theorem N8:(["output","name","named"]:Aa Af).Nodup:=by decide +kernel
def tE (i x:Af) (y:Af):Af:=if i=y then x else y
def D8 (f:Af->Af) (C:Cel):Cel:=⟨C.ins.map f,C.gates.map (nH f),C.outs.map f⟩
def P5:RD:=λd b c=>∃ (C:Cel) (a:Aa (Af×Af)) (i x:Af),b=[hQ C a,.str x]/\RG C a/\C.ins.head?=some i/\c (.v (hQ (D8 (tE i x) C) (oY (tE i x) a)))
abbrev nS (C:Cel) (g:Aa (Af×Af)) (x:Af) (l o p r I J T U j:Sl):Aa Sl:=[.v (hQ C g),.v (.str x),l,o,p,r,I,J,T,U,j]
section
variable {P:Ah}{K:kM}
theorem tQ:FnScope ["row","new","cell","along","named","gates","name","word","some","inputs","outputs"] ["row","new"] (lB Db):=mT
theorem W0 (T:Txt mg):nU P w K mg base 1 "_law_named" Db ["row","new"] P5:=by
 refine oO tQ λf ac A ab s H E dk ds Φ hr B hR=>?_
 obtain⟨C,a,i,x,rfl,W,hi,aa⟩:=hR;refine⟨_,(kQ (Gs (m:=99) (dT 0) (pL (n:=2) rfl (mE (kP 2 tQ.nd) (mE (kP 3 tQ.nd) pH)))) (kQ (kU 4 tQ.nd (mQ (uM rfl) uQ T.dict cM (dK (mS ["name"] [] [] (lK (kS lE lD (mQ vY wN T.list dH (dK (hI B 2 gD) eH)) (mS ["gate"] [] [] (lK (hI B 2 gD)) (λ_ _ _ _ _=>(kP 0 Sq)) (λ_ _ _ _ _=>(hI B 0 gD))))) (λ_ _ _ _ _=>(kP 0 Uw)) (λ_ _ _ _ _=>(kZ (dK (dT 0) (dK (dT 0) eH))))) eH))) (kQ (Ds (n:=4) B (dT 1) (pv 4) (lY B (hI B 2 gD) gD)) (kQ (kU 5 tQ.nd (rB eH)) (kQ (sL (lK (hI B 2 gD)) (pL (n:=3) rfl (mE (kP 6 tQ.nd) (mE (kP 7 tQ.nd) (mE (kP 8 tQ.nd) pH)))) (lH (sC (rF bZ cO cP uI vG (pv 5) (dK (kZ (dK (hI B 4 (dT 6)) (dK (dT 7) (dK (mQ oZ pB T.tuple bC (dK (mS ["one"] ["named"] [4] (lK (dT 8)) (λ_ _ _ _ _=>(kP 0 Te)) (λ_ _ _ _ _=>(hI B 1 (dT 0)))) eH)) eH)))) eH))))) (kQ (kU 9 tQ.nd (mQ oZ pB T.tuple bC (dK (mS ["name"] ["named"] [4] (lK (hI B 2 gD)) (λ_ _ _ _ _=>(kP 0 Mt)) (λ_ _ _ _ _=>(hI B 1 (dT 0)))) eH))) (kQ (kU 10 tQ.nd (mQ oZ pB T.tuple bC (dK (mS ["name"] ["named"] [4] (lK (hI B 2 gD)) (λ_ _ _ _ _=>(kP 0 Mt)) (λ_ _ _ _ _=>(hI B 1 (dT 0)))) eH))) (kQ (kU 3 tQ.nd (mQ oZ pB T.tuple bC (dK (mS ["output","name"] ["named"] [4] (lK (dT 3)) (λ_ _ _ _ _=>(pL (n:=2) rfl (mE (kP 0 N8) (mE (kP 1 N8) pH)))) (λ_ _ _ _ _=>(kZ (dK (hI B 2 (dT 0)) (dK (hI B 2 (dT 1)) eH))))) eH))) (lH (mO (kZ (dK (kZ (dK (dT 9) (dK (mQ oZ pB T.tuple bC (rN (pv 5) eH)) (dK (dT 10) eH)))) (dK (dT 3) eH))))))))))))),?_⟩;have a1:=W.gc.li;have a2:=W.gc.lg;have a3:=W.gc.lo;have d1:=W.lp;let f:Af->Af:=tE i x;have lN:C.names.length<=80:=by unfold Cel.names;rw[List.length_append,List.length_map];omega
 have en:C.ins.map D.str++C.gates.map (λg=>D.str g.1)=C.names.map D.str:=by unfold Cel.names;rw[List.map_append,List.map_map];rfl
 let c:Sl:=.v (tY C);let L:Sl:=.v (.t (a.map oF));refine kN (λb=>b=nS C a x c L .n .n .n .n .n .n .n) (λN u=>⟨rfl,rfl,u _ rfl⟩) ?_;rintro _ rfl;refine kN (λb=>∃ F,(∀ y∈C.names,kW F (Sum.inr y)=some (.str y))/\F.length<=80/\b=nS C a x c L (.o (.k F)) .n .n .n .n .n .n) (λN u=>?_) ?_
 .unfold nG dC aC;refine mM C.names D.str (λn=>.t [.str n,.str n]) (nS C a x c L .n .n .n .n .n .n .n) (λZ h=>?_) (by omega) (λi n J r e S V=>?_) ?_
  .refine⟨rfl,_,rfl,_,rfl,?_⟩;refine mM C.gates lP (λg=>D.str g.1) _ (λZ h=>⟨rfl,_,rfl,h⟩) (by omega) (λi x J r e S V=>⟨rfl,_,rfl,S,V⟩) ?_;rw[<- en] at h;exact⟨by simp;omega,h⟩
  .exact⟨by show 2<=1000;decide,S,V⟩
  have e0:qN (C.names.map λn=>D.t [.str n,.str n])=some (C.names.map λn=>((Sum.inr n:gV),D.str n)):=by
   rw[tZ (g:=λn=>((Sum.inr n:gV),D.str n)) (λn=>⟨.str n,rfl,rfl⟩)]
  have I:((C.names.map λn=>((Sum.inr n:gV),D.str n)).map (·.1)).Nodup:=by
   have:(C.names.map (Sum.inr:Af->gV)).Nodup:=gO _ (λx y h e=>h (dX e)) W.gc.nd;rw[aP];exact this
  refine⟨_,e0,by rw[aA];omega,u _ ⟨_,λy X=>?_,?_,rfl⟩⟩
  .rw[wK _ _ I,yS,Option.or_none];clear I e0 lN en;generalize C.names=xs at X;induction xs with
   | nil=>cases X
   | cons z xs ih =>
    rw[aW,rO];by_cases q:z=y
    .rw[aU (by rw[q]),q]
    .rw[aL λe=>q (dX e)];rcases aK.mp X with e | e
     .exact absurd e.symm q
     .exact ih e
  .have:=yK (C.names.map λn=>((Sum.inr n:gV),D.str n)) [];rw[cS,aA] at this;omega
 rintro _ ⟨ae,v0,l0,rfl⟩;refine kN (λb=>∃ F,(∀ y∈C.names,kW F (Sum.inr y)=some (.str (f y)))/\b=nS C a x c L (.o (.k F)) .n .n .n .n .n .n) (λN u=>?_) ?_
 .have ha:nO (C.ins.map D.str) 0=some (.str i):=qC (j:=0) (by rw[bH,<- List.head?_eq_getElem?,hi];rfl);refine⟨rfl,rfl,_,rfl,_,ha,_,Jx (by omega),u _ ⟨_,λy X=>?_,rfl⟩⟩;rw[Hk];show _=some (D.str (tE i x y));unfold tE;by_cases q:i=y
  .rw[aU (by rw[q]),aU q]
  .rw[aL λz=>q (dX z),aL q,v0 y X]
 rintro _ ⟨F,Y,rfl⟩;refine kN (λb=>b=nS C a x c L (.o (.k F)) (.o (.l [])) .n .n .n .n .n) (λN u=>⟨by show 0<=1000;decide,u _ rfl⟩) ?_;rintro _ rfl;let G (gs:Aa (Af×Af×Aa Af)):Sl:=.o (.l (gs.map lP));let R:Sl:=.o (.k F);refine kN (λb=>∃ M O Q,b=nS C a x c L R (G (C.gates.map (nH f))) M O Q .n .n) (λN u=>?_) ?_
 .refine rY (C.gates.map lP) (nS C a x c L R (G []) .n .n .n .n .n) (λZ h=>⟨rfl,_,rfl,h⟩) (λj b=>∃ M O Q,b=nS C a x c L R (G ((C.gates.take j).map (nH f))) M O Q .n .n) ⟨_,_,_,rfl⟩ ?_ ?_
  .rintro j x' b hx ⟨M,O,Q,rfl⟩;obtain⟨g,U,rfl⟩:=vV hx;have gm:=aI U;have hj:=(aV.mp U).1;obtain⟨r1,r2⟩:=W.gc.gt.at U;have hs:∀ p∈g.2.2,p∈C.names:=λp q=>by
    rcases aR.mp (r2 p q) with z | z
    .exact aM _ z
    .obtain⟨y,X,rfl⟩:=bB.mp z;exact aT _ (cA (jI X))
   have l3:=Iw r1;refine⟨rfl,rfl,rfl,rfl,.str (f g.1),by show some (kW F (Sum.inr g.1))=_;rw[Y g.1 (aT _ (cA gm))],?_⟩;refine L5 (i:=7) (d:=.str g.2.1) rfl ?_;unfold dC aC;refine mM g.2.2 D.str (λx=>D.str (f x)) (nS C a x c L R (G ((C.gates.take j).map (nH f))) (.v (.str g.1)) (.v (.str g.2.1)) (.v (.t (g.2.2.map D.str))) .n .n) (λZ h=>h) (by omega) (λk x J r e S V=>⟨rfl,.str (f x),by show some (kW F (Sum.inr x))=_;rw[Y x (hs x (aI e))],S,V⟩) ?_;refine⟨by show 3<=1000;decide,?_,.v (.str g.1),.v (.str g.2.1),.v (.t (g.2.2.map D.str)),?_⟩
   .show (List.map lP _).length<100000;rw[aA,aA,dD];omega
   .have e2:((C.gates.take (j+1)).map (nH f)).map lP=((C.gates.take j).map (nH f)).map lP++[D.t [.str (f g.1),.str g.2.1,.t (g.2.2.map λx=>D.str (f x))]]:=by
     rw[dZ,U,aG (f:=nH f),aG (f:=lP)]
     congr 1
     show [lP (nH f g)]=_;unfold lP nH;dsimp only;rw[aP];rfl
    show _=nS C a x c L R (.o (.l (((C.gates.take (j+1)).map (nH f)).map lP))) _ _ _ _ _;rw[e2];rfl
  .rintro b ⟨M,O,Q,rfl⟩;rw[aA,fY];exact u _ ⟨_,_,_,rfl⟩
 rintro _ ⟨M,O,Q,rfl⟩;let g:Sl:=G (C.gates.map (nH f));refine kN (λb=>b=nS C a x c L R g M O Q (.v (.t ((C.ins.map f).map D.str))) .n) (λN u=>?_) ?_
 .unfold nG dC aC;refine mM C.ins D.str (λx=>D.str (f x)) (nS C a x c L R g M O Q .n .n) (λZ h=>⟨rfl,_,rfl,h⟩) (by omega) (λi x J r e S V=>⟨rfl,.str (f x),by show some (kW F (Sum.inr x))=_;rw[Y x (aM _ (aI e))],S,V⟩) (u _ ?_);rw[aP];rfl
 rintro _ rfl;refine kN (λb=>b=nS C a x c L R g M O Q (.v (.t ((C.ins.map f).map D.str))) (.v (.t ((C.outs.map f).map D.str)))) (λN u=>?_) ?_
 .unfold nG dC aC;refine mM C.outs D.str (λx=>D.str (f x)) (nS C a x c L R g M O Q (.v (.t ((C.ins.map f).map D.str))) .n) (λZ h=>⟨rfl,_,rfl,h⟩) (by omega) (λi x J r e S V=>⟨rfl,.str (f x),by show some (kW F (Sum.inr x))=_;rw[Y x (W.gc.os x (aI e))],S,V⟩) (u _ ?_);rw[aP (l:=C.outs)];rfl
 rintro _ rfl;refine kN (λb=>b=nS C a x c (.v (.t ((oY f a).map oF))) R g M O Q (.v (.t ((C.ins.map f).map D.str))) (.v (.t ((C.outs.map f).map D.str)))) (λN u=>?_) ?_
 .unfold nG dC aC;refine mM a oF (λp=>D.t [.str (f p.1),.str (f p.2)]) (nS C a x c L R g M O Q (.v (.t ((C.ins.map f).map D.str))) (.v (.t ((C.outs.map f).map D.str)))) (λZ h=>h) (by omega) (λi p J r e S V=>?_) (u _ ?_)
  .have pm:=W.m p (aI e);exact⟨rfl,rfl,rfl,.str (f p.1),by show some (kW F (Sum.inr p.1))=_;rw[Y _ (W.gc.os _ pm.1)],rfl,.str (f p.2),by show some (kW F (Sum.inr p.2))=_;rw[Y _ (aM _ pm.2)],by show 2<=1000;decide,S,V⟩
  .unfold oY;rw[List.map_map (l:=a)];rfl
 rintro _ rfl;exact⟨rfl,by show 3<=1000;decide,by show 2<=1000;decide,aa⟩
end
end Lw
namespace L2
open PySem PySem.Spec PyProof.Rows Lw
abbrev Xc:=Ad×Aa (Af×V)
def Xe (x:Xc) (C:Ac) (g:Ab Ad) (H:Hp):Prop:=C = .ref x.1/\∃ a,g=some a/\H a=some (.xd x.2)
def XP (j:Aa Ad) (g:Hp) (x:Xc) (C:Ac) (l:Ab Ad) (H:Hp):Prop:=Xe x C l H/\vB j g H/\Dk j H/\∀ a,l=some a->g a=none
theorem Sa (h:Dk j H) (g:H T=none):Dk j (upd H T o):=by
 rcases h with h | ⟨d,c,e,f⟩
 .exact .inl h
 .refine .inr ⟨d,c,e,?_⟩;obtain⟨m,p,a,b,i,k⟩:=f.ex;exact⟨m,p,by rw[kX (nP a g)];exact a,by rw[kX (nP b g)];exact b,i,k⟩
theorem X8 (h:vB j g H) (l:H T=none):vB j g (upd H T o):=λb u e n=>by
 have:=h b u e n;rw[kX (nP this l)];exact this
theorem XP.note (h:XP l j x C p H) (g:H T=none):XP l j x C p (upd H T o):=by
 obtain⟨⟨c,b,d,a⟩,e,f,i⟩:=h;exact⟨⟨c,b,d,by rw[kX (nP a g)];exact a⟩,X8 e g,Sa f g,i⟩
abbrev RX:=Aa Ad->Aa D->(Sl->Prop)->(Xc->Prop)->Prop
def rJ (K:kM) (R:RX):Sp:=λi H Q E=>∃ (c:Aa Ad) (A:Ad->Prop) (d:Aa D) (h:Sl->Prop) (f:Xc->Prop),Dk c H/\(∀ a,A a->a∉c)/\Reps K A H d i/\R c d h f /\
 (∀ s v b,h s->vB c H b->Dk c b->RV K c A H s v b->Q v b)/\∀ x,f x->∀ C e b,XP c H x C e b->E C e b
def XL (B:Bs) (E:XK) (g:Xc->Prop):Prop:=∀ x,g x->∀ C b a,XP B.dk B.H0 x C b a->E C b a
def Av (K:kM) (E:XK) (g:Xc->Prop) (j:nQ):TS:=λd b H=>∃ (B:Bs) (a:Aa Sl) (T:mY) (c:DEnds),a.length=b.length/\DS K B (a.zip b++T) H/\j B.dk c a/\xH K B T b.length c d/\XL B E g
theorem Av.elim {K:kM}{P:Prop}(h:Av K E p r o l H) (f:∀ (B:Bs) (g:Aa Sl) (T:mY) (j:DEnds),g.length=l.length->DS K B (g.zip l++T) H->r B.dk j g->xH K B T l.length j o->XL B E p->P):P:=by
 obtain⟨B,g,T,j,a,hd,b,c,d⟩:=h;exact f B g T j a hd b c d
abbrev uX (X:Cx) (E:XK) (g:Xc->Prop) (st:Stmt) (j:nQ):Prop:=PS X st (Av X.K E g j)
abbrev wC (X:Cx) (E:XK) (g:Xc->Prop) (st:Aa Stmt) (j:nQ):Prop:=oC X st (Av X.K E g j)
section
variable {X:Cx}{st:Stmt}{rest:Aa Stmt}
theorem qJ (h:rL X st t):uX X E g st t:=h.mono λi k H c=>c.elim λB f T a b hd d e _=>⟨B,f,T,a,b,hd,d,e⟩
theorem A8 (h:oM X rest t):wC X E g rest t:=h.mono λi k H c=>c.elim λB f T a b hd d e _=>⟨B,f,T,a,b,hd,d,e⟩
theorem pJ (j:uX X E g st t) (l:wC X E g rest u):wC X E g (st::rest) (uD t u):=(sP j l).mono λv x H h=>h.elim λB n T e f hd i b c =>
 ⟨B,n,T,_,f,hd,i,b.seq λa s w k m d q=>⟨B,a,T,e,k,d,q,by rw[m];exact b,c⟩,c⟩
theorem rD (h:uX X E g st t):wC X E g [st] t:=qG h
theorem Aj (o:qH X c p) (j:wC X E g a t) (l:wC X E g b u):uX X E g (.If c a b pos) (xA p t u):=(wJ o j l).mono λv x H n=>n.elim λB s T e m hd q i k=>⟨B,s,T,_,m,hd,q,λc d w h d1 f=>by
 cases c with
 | true=>exact (aU rfl).mpr ⟨B,d,T,e,h,d1,(aU rfl).mp f,i,k⟩
 | false=>exact sE ⟨B,d,T,e,h,d1,(aL (by decide)).mp f,i,k⟩⟩
theorem J6 {iter:Expr}(hi:zX X j iter ι) (U:uA X 99 j g) (C:wC X E Ξ body tb) (hp:PassesOwn (model X.prog X.w) X.A X.env X.xe) (I:X.calm=true:=by rfl)
  (hs:∀ x,foldedSetIterable iter X.env x=pure x:=by intro _;rfl):uX X E Ξ (.For j iter body [] pos) (Dj ι g tb) :=
 (Bc hp I hi U C hs).mono λDn Z H P=>P.elim λB ρ T De hl hd ht R xl=>⟨B,ρ,T,_,hl,hd,ht,λJ G V k H1 l1 d1 Y Q=>by
  obtain⟨Pv,p0,step,fin⟩:=Q;refine⟨λi m c n=>m=G.length-i/\i<=G.length/\∃ a,a.length=c.length/\c.length=Z.length/\DS X.K B (a.zip c++(k++T)) n/\Pv i a,⟨_,rfl,fV _,V,l1,rfl,d1,p0⟩,?_⟩;rintro i m c n ⟨rfl,aa,a,W,m2,M,pv⟩;have s:yB X.K (Al B (hH (a.zip c++(k++T)))) n k:=λq hq=>M.ok q (by simp[hq])
  by_cases t:i<G.length
  .refine .inr ⟨Y.go i n _ t s,λf u=>∃ b,b.length=f.length/\f.length=Z.length/\DS X.K B (b.zip f++(k++T)) u/\Pv (i+1) b,λf u ⟨b,q1,q2,S,q4⟩=>⟨_,(by omega:G.length-(i+1)<_),rfl,t,b,q1,q2,S,q4⟩,λx u y=>?_⟩;obtain⟨d,N,alt⟩:=Y.yld i n _ x u t s y;have d2:DS X.K B (a.zip c++(.v d,some x)::(k++T)) u:=by
    rcases alt with⟨rfl,rx⟩ | ⟨p,es,vs,O,rfl,rfl,rfl,rr⟩
    .exact M.push rx
    .exact M.tup O rr
   refine⟨B,a,k++T,d,_,W,d2,step i d a N pv,λb f H3 n1 n2 _ l S=>⟨B,b,k++T,_,n1,l,S,⟨?_,?_⟩,xl⟩⟩
   .intro e h L D a2 F;refine⟨λz=>⟨e,D,by omega,F,z⟩,λz=>?_,λz=>⟨e,D,by omega,F,z⟩⟩;exact (R.1 e h L D (by omega) F.rmE).1 z
   .intro r v e h L D F z;refine R.2 r v e h L D ?_ z;have:DS X.K B ((e.zip h++[(r,some v)])++(k++T)) L:=by simpa using F
    simpa using this.rmE
  .have o:i=G.length:=by omega
   subst o;exact .inl ⟨Y.stop _ n _ rfl s,(R.1 a c n W m2 M.rmE).1 (fin a pv)⟩⟩
end
def N5 (j:Xc->Prop) (R:RX) (g:rW):nQ:=λb c e=>g b e λas a=>match sH a as with
 | some d=>R b d (λs=>(wP as=true\/Bq s=true)/\c.nx a) j
 | none=>False
section
variable {P:Ah}{K:kM}{cd:Ac}
variable {R:RX}
theorem x_call (F:FnOk P w K I base (mJ P w) k f fd ps (rJ K R)) (hr:Room k (mZ (mJ P w) P w K I base N l j f0 cd J g s0 U E).A) (hg:Gl (mZ (mJ P w) P w K I base N l j f0 cd J g s0 U E) x) (hm:I x=some (.ref f)) (hk:PySem.W.keepIn K (.ref f)=true) (hb:sW K fd ps [])
  (ha:rZ (mZ (mJ P w) P w K I base N l j f0 cd J g s0 U E) (e::es) ta) (ab:(x == ("__debug__" : Af))=false:=by decide) (he:starEach (e::es) (mZ (mJ P w) P w K I base N l j f0 cd J g s0 U E).env=(false,eval e (mZ (mJ P w) P w K I base N l j f0 cd J g s0 U E).env)::starEach es (mZ (mJ P w) P w K I base N l j f0 cd J g s0 U E).env:=by rfl) (ac:(backTo pos (starEach es (mZ (mJ P w) P w K I base N l j f0 cd J g s0 U E).env)).any (·.1)=false:=by rfl)
  (hs:swapsWith (.Call (.Name x p) (e::es) [] pos) none aa.line (mZ (mJ P w) P w K I base N l j f0 cd J g s0 U E).env=pure false:=by rfl) :
  uX (mZ (mJ P w) P w K I base N l j f0 cd J g s0 U E) E Ξ (.Expr (.Call (.Name x p) (e::es) [] pos) aa) (N5 Ξ R ta) :=
 (B9 (zQ (E:=λC i H=>∀ c,H c=none->E C i (upd H c (pE c))) F hr hg hm hk hb .nil (Up λC i H e c h _ L=>h c L) ha ab ⟨he,ac⟩) hs).mono λDn S H hq=>hq.elim λB ρ T De hl hd ht O xl=>by
  refine⟨B,ρ,T,_,hl,hd,ht,λas m vs V M ok d1 t=>?_⟩;cases G:sH m as with
  | none=>rw[G] at t;exact t.elim
  | some D =>
   rw[G] at t;obtain⟨_,q2,q3⟩:=d1.argsP M ok D G;have d2:=d1.rmArgs;rw[cG];have raised:∀ x,Ξ x->∀ C i d,XP B.dk V x C i d->∀ c,d c=none->E C i (upd d c (pE c)):=λx hx C i d y c L=>by
    refine xl x hx C i _ (XP.note ⟨y.1,λb o X n=>y.2.1 b o (d2.fr b o X n) n,y.2.2.1,λu Z=>?_⟩ L);have:=y.2.2.2 u Z;cases Y:B.H0 u with
    | none=>rfl
    | some o =>
     by_cases n:u∈B.dk
     .obtain⟨xs,q⟩:=d2.dk.some n;rw[q] at this;cases this
     .rw[d2.fr u o Y n] at this;cases this
   by_cases Q:wP as=true
   .exact⟨B.dk,_,D,_,Ξ,d2.dk,λa z=>z.1,q3 Q,t,λs v d hs f hk r=>(O.1 m S d M rfl ((d2.result f hk r (.inl λa z=>z)).drop (L1:=[]))).1 hs.2,raised⟩
   .exact⟨B.dk,_,D,_,Ξ,d2.dk,λa z=>z.1,q2,t,λs v d hs f hk r=>(O.1 m S d M rfl ((d2.result f hk r (.inr (hs.1.resolve_left Q))).drop (L1:=[]))).1 hs.2,raised⟩
end
section
variable {P:Ah}{K:kM}
theorem Fun.okDX {st:Stmt}{R:RX}(F:Fun K x J st f fd) (S:FnScope N ps (lB st)) (I:∀ C g T Ξ,R C g T Ξ->g.length=ps.length) (ab:ps.length<=N.length)
  (U:∀ (l:Ac) (A:Around) (j:Aa Env) (s:Ae) (H:Hp) (E:XK) (C:Aa Ad) (g:Aa D) (T:Sl->Prop) (Ξ:Xc->Prop),Room k (A.deeper (envOfC J (lB st) s.heap.objs.size f l))->R C g T Ξ ->∃ t,wC (mZ (mJ P w) P w K mg base N J (lB st) f l A j s H E) E Ξ (pQ st) t/\t C { nx:=λ_=>T (.v .e),rt:=T } (pM N g)):FnOk P w K mg base (mJ P w) (k+1) f fd ps (rJ K R):=by
 obtain⟨oc,od,kV,aa,pm,an,l,ct,ac,rfl,lk,L⟩:=F.ex;refine Nu lk L S (λm H Q E O=>by obtain⟨C,A,g,T,Ξ,_,_,r,u,_⟩:=O;rw[<- r.length];exact I _ _ _ _ u) λA j s H m Q E hr O=>?_
 obtain⟨C,A1,g,T,Ξ,M,hA,r,u,Y,hx⟩:=O;obtain⟨t,ht,hb⟩:=U l A j s H E C g T Ξ hr u;have G:g.length=m.length:=r.length;have dl:g.length=ps.length:=I _ _ _ _ u;refine⟨_,ht,⟨C,A1,H⟩,pM N g,[],_,?_,?_,hb,⟨?_,?_⟩,hx⟩
 .unfold pM start;rw[List.length_append,List.length_append,List.length_map,List.length_map,List.length_replicate,List.length_replicate,G]
 .have X:(pM N g).zip (start N m)=(g.zip m).map (λp=>(Sl.v p.1,some p.2))++List.replicate (N.length-g.length) (Sl.n,none):=by
   unfold pM start;rw[<- G];exact E8 _ G
  have B:hH ((pM N g).zip (start N m))=[]:=by
   rw[X];refine dR.mpr λa i=>?_
   obtain⟨q,c,e⟩:=rV.mp i;rcases aR.mp c with z | z
   .obtain⟨p,_,rfl⟩:=bB.mp z;cases e
   .rw[(eU.mp z).2] at e;cases e
  rw[cG];refine⟨λb o e _=>e,M,by rw[B];exact bX,(λa i=>by rw[B] at i;exact absurd i bE),λq c=>?_⟩;rw[B];rw[X] at c;rcases aR.mp c with z | z
  .obtain⟨p,hp,rfl⟩:=bB.mp z;exact⟨p.2,rfl,(F4 r p hp).mono (.all λa i=>⟨hA a i,bE,.inl i⟩)⟩
  .rw[(eU.mp z).2];trivial
 .intro V W y l1 l2 d1;refine⟨λh=>Y _ _ y h d1.fr d1.dk .e,λh=>h.elim,λh=>h.elim⟩
 .intro s' v V W y l1 d1 h;refine Y s' v y h d1.fr d1.dk ?_;cases s' with
  | n=>trivial
  | v d=>exact d1.valAt.mono (.all λa z=>⟨z.1,z.2.2⟩)
  | o d =>
   obtain⟨a,rfl,r'⟩:=d1.ownAt;have Z:=d1.new a (by rw[qF];exact aT _ aO);exact⟨a,rfl,Z.1,Z.2,r'.mono (.all λb z=>⟨z.1,λq=>z.2.1 (by simp[q]),z.2.2⟩) λ_ q=>q⟩
end
def E7 (C:Ad) (F:V->Ab (Aa (Af×V))):Sp:=λc H Q _=>∃ (e:Ad) (v:V) (b:Aa (Af×V)),c=[.ref e,v]/\F v=some b/\H e=some (uY e C)/\∀ a,H a=none->Q .e (upd (upd H a (.xd b)) e (zS e C a))
def Pu (j:Xc->Prop) (C:Ad) (F:V->Ab (Aa (Af×V))) (g:lL):nQ:=λb _ c=>g b c λr _=>match sd r with
 | some d=>∃ v a,uL d=some v/\F v=some a/\j (C,a)
 | none=>False
section
variable {P:Ah}{K:kM}{cd:Ac}
variable {F:V->Ab (Aa (Af×V))}
theorem Y5 (xc:qQ K C N bm (some (.ref f))=true) (bb:bm.contains (.type "BaseException")=true) (ac:PySem.W.keepIn K (.ref C)=true) (hf:K.lookup f=some oI) (ab:oI.cls = .type "function") (FI:FnOk P w K I base lV k f fd ps (E7 C F)) (hr:Room (k+1) (mZ (mJ P w) P w K I base Nm l j f0 cd J g s0 U E).A)
  (hg:Gl (mZ (mJ P w) P w K I base Nm l j f0 cd J g s0 U E) x) (hm:I x=some (.ref C)) (hb:sW K fd ps []) (he:PD (mZ (mJ P w) P w K I base Nm l j f0 cd J g s0 U E) e te) (hn:vH e=true:=by rfl) (aa:(x == ("__debug__" : Af))=false:=by decide)
  (h1:starEach [e] (mZ (mJ P w) P w K I base Nm l j f0 cd J g s0 U E).env=(false,eval e (mZ (mJ P w) P w K I base Nm l j f0 cd J g s0 U E).env)::starEach [] (mZ (mJ P w) P w K I base Nm l j f0 cd J g s0 U E).env:=by rfl) :
  uX (mZ (mJ P w) P w K I base Nm l j f0 cd J g s0 U E) E Ξ (.Raise (some (.Call (.Name x p) [e] [] pos)) none ae) (Pu Ξ C F te) :=
 (DJ (BN (x:=x) (e:=e) (es:=[]) xc ac hf ab FI hr hg hm hb (mW he pW hn) aa ⟨h1,rfl⟩)).mono λDn σ H hq=>hq.elim λB ρ T De hl hd ht lk xl=>by
  refine⟨B,ρ,T,_,hl,hd,ht,λr af v s l1 d1 h1=>?_⟩;cases G:sd r with
  | none=>rw[G] at h1;exact h1.elim
  | some d =>
   rw[G] at h1;obtain⟨u,X,L,hF,M⟩:=h1;have d2:=d1.thaw G;obtain⟨rfl,_⟩:=Ay L d2.valAt.peek;refine⟨by show 1<=10;decide,λa Q=>⟨a,_,X,rfl,hF,lT,λc D=>⟨rfl,a,C,N,c,bm,_,rfl,lT,xc,bb,λm i=>?_⟩⟩⟩;have t:c≠a:=λz=>by rw[z,lT] at D;cases D
   have h:s c=none:=by rw[kX t] at D;exact D
   have R:m≠a:=λz=>by rw[z,lT] at i;cases i
   have S:m≠c:=λz=>by rw[z,kX t,lT] at i;cases i
   have O:s m=none:=by rw[kX R,kX S,kX R] at i;exact i
   have keep:∀ b o,s b=some o->upd (upd (upd (upd (upd s a (uY a C)) c (.xd X)) a (zS a C c)) a (pS a (.ref C) (some c))) m (pE m) b=some o:=λb o e=>by
    rw[kX (nP e O),kX (nP e Q),kX (nP e Q),kX (nP e h),kX (nP e Q)];exact e
   refine xl _ M _ _ _ ⟨⟨rfl,c,rfl,by rw[kX S.symm,kX t,kX t,lT]⟩,λb o Z n=>keep b o (d2.fr b o Z n),?_,λd' ed=>?_⟩
   .rcases d2.dk with q | ⟨x,y,q,Y⟩
    .exact .inl q
    .refine .inr ⟨x,y,q,?_⟩;obtain⟨ns,p,g1,g2,g3,g4⟩:=Y.ex;exact⟨ns,p,keep _ _ g1,keep _ _ g2,g3,g4⟩
   .cases ed;cases e2:B.H0 c with
    | none=>rfl
    | some o =>
     by_cases n:c∈B.dk
     .obtain⟨zs,q⟩:=d2.dk.some n;rw[q] at h;cases h
     .rw[d2.fr c o e2 n] at h;cases h
end
end L2
namespace L2
open PySem PySem.Spec PyProof.Rows
section
variable {X:Cx}
def Ze (g:TE):TE:=λb H Q=>g b H λy a=>∃ i:Int,y = .int i/\i.natAbs<10 ^ 9/\∀ z:Af,Q (.str z) a
theorem AU (g:PE X e l) (o:a.length<=1000:=by decide +kernel) (p:b.length<=1000:=by decide +kernel):PE X (.JoinedStr [.Constant (.str a) i r,.FormattedValue e (-1) none C,.Constant (.str b) j J] pos) (Ze l):=by
 intro c s E H Q I h;have big:20000<=sizeLine:=by decide
 have w:(Str.empty++a).length=a.length:=by rw[iJ];simp[Str.empty,Str.length]
 refine wpAny_JoinedStr ?_;refine fZ ⟨a,_,rfl,by omega,?_⟩;refine wpAny_FormattedValue_plain (kT (g c _ E H _ (I.tok _) h) λu K d=>?_);obtain⟨y,m,v,D,n,A,f,q⟩:=d;subst A;obtain⟨t,rfl⟩:=D;have G:(Str.ofString (toString n)).length<=20:=by
  have:=int_text_length_le10 (a:=n) (k:=9) (by decide) f;rw[PySem.ofString_length];omega
 have x:(Str.empty++a++Str.ofString (toString n)).length=a.length+(Str.ofString (toString n)).length:=by rw[iJ,w]
 have F:(Str.empty++a++Str.ofString (toString n)++b).length=a.length+(Str.ofString (toString n)).length+b.length:=by rw[iJ,x]
 have B:n.natAbs.log2<1920:=by
  by_cases z:n.natAbs=0
  .rw[z];decide
  .exact (Nat.log2_lt z).mpr (kA f (bP (show 10 ^ 9<2 ^ 30 by decide) (Nat.pow_le_pow_right (by decide) (by decide))))
 refine wpAny_formatField_int B ?_;refine⟨_,_,rfl,by omega,fZ ⟨b,_,rfl,by omega,⟨by omega,.str _,m,?_,⟨_,rfl⟩,q _⟩⟩⟩;exact (((v.tok _).tok _).tok _).tok _
end
end L2
namespace Lw
open PySem L2
structure XK1 (K:kM) (mg:Str->Option Value) (CE:Addr) (x:Str) (at_:Str) (C N fI:Addr) (bm:List Value):Prop where
 mCE:mg "CellError" = some (.ref CE)
 g1:PySem.W.specialIn K (.ref CE) "__getattribute__" = some (some (.builtin "type.__getattribute__"))
 g2:PySem.W.readsIn K CE (.type "type")=true
 g3:PySem.W.findCls K (.ref CE) (.type "type") "__init__" = some (PySem.W.CFound.val (.builtin "ValueError.__init__"))
 m:mg x=some (.ref C)
 xc:qQ K C N bm (some (.ref fI))=true
 kp:PySem.W.keepIn K (.ref C)=true
 sa:PySem.W.findIn K (.ref C) "__setattr__" = some (some (.builtin "object.__setattr__"))
 fr:PySem.W.findIn K (.ref C) at_=some none
 rf:∀ a,refuseLoop (.ref a) "__setattr__" (.ref C::bm)=pure ()
 ob:bm.contains (.type "object")=true
 bb:bm.contains (.type "BaseException")=true
 xf:PySem.W.XFacts K C
 ex:PySem.W.exmOne K (.ref C) (.ref CE)=some true
def oK (x:Af):Prop:=(∀ c∈x.cps.toList,c<16 ^ 8)/\x.length<=1000
open Classical in
def yQ:V->Ab (Aa (Af×V))
 | .str y=>if oK y then some [(("word" : Af),V.str y)] else none
 | _=>none
def yF:V->Ab (Aa (Af×V))
 | .int n=>if n.natAbs<10 ^ 9 then some [(("row" : Af),V.int n)] else none
 | _=>none
section
variable {P:Ah}{K:kM}{CE fI:Ad}
theorem Sn:FnScope ["self","word"] ["self","word"] (lB yW):=mT
theorem DA:FnScope ["self","row"] ["self","row"] (lB zB):=mT
theorem Sh (F:Fun K "__init__" "NoName.__init__" yW f fd) (O:XK1 K j CE "NoName" "word" C N fI g):FnOk P w K j base lV 1 f fd ["self","word"] (E7 C yQ):=by
 refine F.ok Sn (λq H Q E h=>?_) (λi A b s H q Q E t h=>?_)
 .obtain⟨e,y,d,rfl,_⟩:=h;rfl
 .obtain⟨e,v,d,rfl,a,c,k⟩:=h;obtain⟨y,rfl,⟨m,n⟩,rfl⟩:∃ y,v = .str y/\oK y/\d=[(("word" : Af),V.str y)]:=by
   cases v<;>first | (cases a;done) | skip
   rename_i y
   by_cases z:oK y
   .simp only[yQ,aU z] at a;exact⟨y,rfl,z,(bY a).symm⟩
   .simp only[yQ,aL z] at a;cases a
  refine⟨_,sP (B9 (Nl (by rfl) O.mCE O.g1 O.g2 O.g3 (pv 0) (AN (pv 1)) ⟨rfl,rfl,rfl,rfl⟩)) (qG (P0 (pv 0) (pv 1) rfl)),?_⟩;refine⟨_,rfl,_,rfl,y,rfl,m,n,λz=>⟨e,C,N,g,_,z,rfl,rfl,c,O.xc,?_⟩⟩;exact⟨_,rfl,_,rfl,e,C,N,g,_,rfl,c,O.xc,O.sa,O.fr,O.rf,O.ob,k⟩
theorem FV (F:Fun K "__init__" "NoCell.__init__" zB f fd) (O:XK1 K j CE "NoCell" "row" C N fI g):FnOk P w K j base lV 1 f fd ["self","row"] (E7 C yF):=by
 refine F.ok DA (λn H Q E h=>?_) (λi A b s H n Q E q h=>?_)
 .obtain⟨e,y,d,rfl,_⟩:=h;rfl
 .obtain⟨e,v,d,rfl,a,c,k⟩:=h;obtain⟨y,rfl,m,rfl⟩:∃ y:Int,v = .int y/\y.natAbs<10 ^ 9/\d=[(("row" : Af),V.int y)]:=by
   cases v<;>first | (cases a;done) | skip
   rename_i y
   by_cases z:y.natAbs<10 ^ 9
   .simp only[yF,aU z] at a;exact⟨y,rfl,z,(bY a).symm⟩
   .simp only[yF,aL z] at a;cases a
  refine⟨_,sP (B9 (Nl (by rfl) O.mCE O.g1 O.g2 O.g3 (pv 0) (AU (pv 1)) ⟨rfl,rfl,rfl,rfl⟩)) (qG (P0 (pv 0) (pv 1) rfl)),?_⟩;refine⟨_,rfl,_,rfl,y,rfl,m,λz=>⟨e,C,N,g,_,z,rfl,rfl,c,O.xc,?_⟩⟩;exact⟨_,rfl,_,rfl,e,C,N,g,_,rfl,c,O.xc,O.sa,O.fr,O.rf,O.ob,k⟩
end
structure XO (P:Program) (w:World) (K:kM) (mg:Str->Option Value) (base:Heap) (x p:Str) (C:Addr) (F:V->Option (List (Str×V))):Prop where
 ex:∃ (N f:Addr) (bm:List Value) (oI:Obj) (fd:FuncData),qQ K C N bm (some (.ref f))=true/\bm.contains (.type "BaseException")=true/\PySem.W.keepIn K (.ref C)=true/\K.lookup f=some oI/\oI.cls = .type "function" /\ FnOk P w K mg base lV 1 f fd ["self",p] (E7 C F)/\mg x=some (.ref C)/\sW K fd ["self",p] []
section
variable {P:Ah}{K:kM}{cd:Ac}
variable {F:V->Ab (Aa (Af×V))}
theorem Cw (O:XO P w K r base x q C F) (hr:Room 2 (mZ (mJ P w) P w K r base T o l U cd I j s0 J E).A)
  (he:PD (mZ (mJ P w) P w K r base T o l U cd I j s0 J E) e te) (hg:Gl (mZ (mJ P w) P w K r base T o l U cd I j s0 J E) x:=by rfl) (hn:vH e=true:=by rfl) (aa:(x == ("__debug__" : Af))=false:=by decide)
  (h1:starEach [e] (mZ (mJ P w) P w K r base T o l U cd I j s0 J E).env=(false,eval e (mZ (mJ P w) P w K r base T o l U cd I j s0 J E).env)::starEach [] (mZ (mJ P w) P w K r base T o l U cd I j s0 J E).env:=by rfl) :
  uX (mZ (mJ P w) P w K r base T o l U cd I j s0 J E) E Ξ (.Raise (some (.Call (.Name x p) [e] [] pos)) none ab) (Pu Ξ C F te):=by
 obtain⟨N,f,m,n,fd,a,b,c,d,k,g,h,i⟩:=O.ex;exact Y5 a b c d k g hr hg h i he hn aa h1
end
theorem FF:(["name"]:Aa Af).Nodup:=by decide +kernel
def Ak (g:Ad) (y:Af):Xc:=(g,[(("word" : Af),V.str y)])
def yD (g:Ad):Xc:=(g,[(("row" : Af),V.int 0)])
def K9 (g:Ad):RX:=λf b d c=>∃ (x:Af) (a:Aa Af),b=[.str x,.l (a.map D.str)]/\oK x/\(x∈a->d (.v .e))/\(x∉a->c (Ak g x))
def nZ:Aa Af->Aa Af->Aa (Af×Af)->Ab Af
 | _,_,[]=>none
 | os,is,p::a=>if p.1∈os then (if p.2∈is then nZ (mK os [p.1]) (mK is [p.2]) a else some p.2) else some p.1
def Ms (g:Ad):RX:=λk f i h=>∃ C b a c d,f=[hQ C b,hQ a c,.t (d.map λp=>D.t [.str p.1,.str p.2])]/\C.outs.length<=100/\b.length<=100/\a.ins.length<=100/\c.length<=100/\C.outs.Nodup/\a.ins.Nodup/\(∀ p∈d,oK p.1/\oK p.2) /\
 (nZ (lQ C b) (lX a c) d=none->i (.v .e))/\∀ y,nZ (lQ C b) (lX a c) d=some y->h (Ak g y)
structure InB (C:Cel) (prs:List (Str×Str)):Prop where
 n:∀ x∈C.names,qO x=true
 i:C.ins.length<=6
 o:C.outs.length<=6
 g:C.gates.length<=24
 a:prs.length<=4
def Lj (g:Ad):RX:=λf b d c=>∃ C a,b=[hQ C a]/\(∀ x∈C.names,x.cps.all (·<128)=true/\x.length<=1000)/\C.ins.length<=100/\C.outs.length<=100/\C.gates.length<=100/\a.length<=100/\(InB C a->d (.v .e))/\(¬ InB C a->c (yD g))
def Gw (j g:Ad):RX:=λi f h e=>∃ C c b d a,f=[hQ C c,hQ b d,.t (a.map λp=>D.t [.str p.1,.str p.2])]/\RG C c/\RG b d/\(∀ p∈a,oK p.1/\oK p.2)/\a.length<=40 /\
 (nZ (lQ C c) (lX b d) a=none->InB (jC C b a) (jP c d a)->h (.v (hQ (jC C b a) (jP c d a))))/\(nZ (lQ C c) (lX b d) a=none->¬ InB (jC C b a) (jP c d a)->e (yD g))/\∀ y,nZ (lQ C c) (lX b d) a=some y->e (Ak j y)
theorem Bz (os is:Aa Af) (p:Af×Af) (g:Aa (Af×Af)):nZ os is (p::g)=if p.1∈os then (if p.2∈is then nZ (mK os [p.1]) (mK is [p.2]) g else some p.2) else some p.1:=rfl
theorem Kx (j g:Aa Af) (x:Af):mK (mK j g) [x]=mK j (g++[x]):=by
 unfold mK;rw[iQ];refine hW λy _=>?_
 by_cases a:y=x<;>by_cases b:y∈g<;>simp[a,b]
theorem qZ:x∈mK g j↔x∈g/\x∉j:=by
 unfold mK;rw[bQ];simp
theorem Fi:∀ (g:Aa (Af×Af)) (os is:Aa Af),nZ os is g=none->PrsOk os is g
 | [],_,_,_=>⟨bX,bX,λ_ h=>absurd h bE⟩
 | p::g,os,is,h=>by
  unfold nZ at h;by_cases e:p.1∈os
  .rw[aU e] at h;by_cases f:p.2∈is
   .rw[aU f] at h;have r:=Fi g _ _ h;refine⟨bN.mpr ⟨λq=>?_,r.n1⟩,bN.mpr ⟨λq=>?_,r.n2⟩,λq a=>?_⟩
    .obtain⟨d,b,c⟩:=bB.mp q;have:=(qZ.mp (r.m d b).1).2;exact this (by rw[c];exact aH.mpr rfl)
    .obtain⟨d,b,c⟩:=bB.mp q;have:=(qZ.mp (r.m d b).2).2;exact this (by rw[c];exact aH.mpr rfl)
    .rcases aK.mp a with rfl | a
     .exact⟨e,f⟩
     .exact⟨(qZ.mp (r.m q a).1).1,(qZ.mp (r.m q a).2).1⟩
   .rw[aL f] at h;cases h
  .rw[aL e] at h;cases h
theorem Hl (n:Int) (h:n.natAbs<10 ^ 9):yF (.int n)=some [(("row" : Af),V.int n)]:=by simp only[yF,aU h]
section
variable {P:Ah}{K:kM}
theorem Rv (F:Fun K "check_free" "check_free" Df f fd) (T:Txt g) (l:XO P w K g base "NoName" "word" j yQ):FnOk P w K g base (mJ P w) 3 f fd ["name","free"] (rJ K (K9 j)):=by
 refine F.okDX (k:=2) Yt (λh i y v ⟨_,_,e,_⟩=>by rw[e];rfl) (by decide) λd A c s H E h i y v a m=>?_
 have q:=sB a;obtain⟨x,u,rfl,t,b,n⟩:=m;refine⟨_,(rD (Aj (wG (sI q) (rR true) (dT 0) (pv 1)) (rD (Cw l a (dT 0))) (A8 pC))),?_⟩;refine⟨_,_,rfl,rX _,?_⟩;rw[qR];by_cases z:x∈u
 .exact nL (by simp[nb,z]) (b z)
 .refine oJ (by simp[nb,z]) ⟨.str x,_,rfl,?_,n z⟩;simp only[yQ,aU t]
theorem X7 {fI:Ad}(F:Fun K "check_pairs" "check_pairs" D4 f fd) (T:Txt mg) (r:Gd K mg "word_outputs" Bl ["row"] fO ae) (I:Gd K mg "word_inputs" A9 ["row"] fI ac) (g:Gd K mg "check_free" Df ["name","free"] fF ab) (U:FnOk P w K mg base lV 1 fO ae ["row"] (nC K Hd)) (aa:FnOk P w K mg base lV 2 fI ac ["row"] (nC K B8)) (J:FnOk P w K mg base (mJ P w) 3 fF ab ["name","free"] (rJ K (K9 CN))):FnOk P w K mg base (mJ P w) 4 f fd ["one","other","pairs"] (rJ K (Ms CN)):=by
 refine F.okDX (k:=3) Bf (λdk ds Φ Ξ ⟨_,_,_,_,_,e,_⟩=>by rw[e];rfl) (by decide) λaf A W s H E dk ds Φ Ξ y hR=>?_
 have hu:=sB y;obtain⟨C,d,i,q,c,rfl,l1,l2,l3,l4,Az,V,sm,S,Y⟩:=hR;refine⟨_,(pJ (qJ (kU 3 Bf.nd (oR U (y.mono (by decide)) (by rfl) r.m r.k r.b (dK (dT 0) eH)))) (pJ (qJ (kU 4 Bf.nd (oR aa (y.mono (by decide)) (by rfl) I.m I.k I.b (dK (dT 1) eH)))) (rD (J6 (lK (dT 2)) (pL (n:=2) rfl (mE (kP 5 Bf.nd) (mE (kP 6 Bf.nd) pH))) (pJ (x_call J (y.mono (by decide)) (by rfl) g.m g.k g.b (dK (dT 5) (rN (pv 3) eH))) (pJ (x_call J (y.mono (by decide)) (by rfl) g.m g.k g.b (dK (dT 6) (rN (pv 4) eH))) (pJ (qJ (sC (rF bZ PySem.F.slot_list_remove PySem.F.type_list_remove Lc Jp (pv 3) (dK (dT 5) eH)))) (rD (qJ (sC (rF bZ PySem.F.slot_list_remove PySem.F.type_list_remove Lc Jp (pv 4) (dK (dT 6) eH)))))))) PassesOwn.leaving)))),?_⟩;let b:Aa Sl:=[.v (hQ C d),.v (hQ i q),.v (.t (c.map λp=>D.t [.str p.1,.str p.2]))];refine kN (λu=>u=b++[.o (.l ((lQ C d).map D.str)),.n,.n,.n]) (λN Q=>⟨C,d,rfl,l2,by omega,.inl rfl,Q _ rfl⟩) ?_;rintro _ rfl;refine kN (λu=>u=b++[.o (.l ((lQ C d).map D.str)),.o (.l ((lX i q).map D.str)),.n,.n]) (λN Q=>⟨i,q,rfl,l4,by omega,.inl rfl,Q _ rfl⟩) ?_;rintro _ rfl;have no:(lQ C d).Nodup:=Az.filter _;have ni:(lX i q).Nodup:=V.filter _;let st (j:Nat) (z B:Sl):Aa Sl:=b++[.o (.l ((mK (lQ C d) ((c.take j).map (·.1))).map D.str)),.o (.l ((mK (lX i q) ((c.take j).map (·.2))).map D.str)),z,B];let x (j:Nat):Prop:=nZ (mK (lQ C d) ((c.take j).map (·.1))) (mK (lX i q) ((c.take j).map (·.2))) (c.drop j)=nZ (lQ C d) (lX i q) c;have Z:∀ X:Aa Af,mK X []=X:=λX=>iC.mpr λ_ _=>rfl
 refine rY (c.map λp=>D.t [.str p.1,.str p.2]) (st 0 .n .n) (λΨ h=>?_) (λj u=>x j/\∃ z B,u=st j z B) ⟨?_,.n,.n,rfl⟩ ?_ ?_
 .have e:st 0 .n .n=b++[.o (.l ((lQ C d).map D.str)),.o (.l ((lX i q).map D.str)),.n,.n]:=by simp[st,Z]
  rw[e] at h;exact h
 .simp[x,Z]
 .rintro j e u he ⟨M,z,B,rfl⟩;obtain⟨p,R,rfl⟩:=vV he;have pm:=aI R;have O:∀ (f:Af×Af->Af),(c.take (j+1)).map f=(c.take j).map f++[f p]:=λf=>by rw[dZ,R,aG];rfl
  have ed:c.drop j=p::c.drop (j+1):=by
   obtain⟨h1,h2⟩:=aV.mp R;rw[List.drop_eq_getElem_cons h1,h2]
  have a:=M;unfold x at a;rw[ed,Bz] at a;refine⟨rfl,rfl,rfl,p.1,mK (lQ C d) ((c.take j).map (·.1)),rfl,(sm p pm).1,λG=>⟨.inr rfl,?_⟩,λG=>?_⟩
  .rw[aU G] at a;refine⟨rfl,p.2,mK (lX i q) ((c.take j).map (·.2)),rfl,(sm p pm).2,λL=>⟨.inr rfl,?_⟩,λL=>?_⟩
   .rw[aU L] at a;obtain⟨j1,a1,a2,a3⟩:=Jc no (qZ.mp G).1 (qZ.mp G).2;obtain⟨j2,c1,c2,c3⟩:=Jc ni (qZ.mp L).1 (qZ.mp L).2;refine⟨rfl,_,j1,rfl,a1,a2,rfl,_,j2,rfl,c1,c2,?_,.v (.str p.1),.v (.str p.2),?_⟩
    .unfold x;rw[O (·.1),O (·.2),<- Kx,<- Kx];exact a
    .show _=st (j+1) _ _;simp only[st,O,<- a3,<- c3];rfl
   .rw[aL L] at a;exact Y _ a.symm
  .rw[aL G] at a;exact Y _ a.symm
 .rintro u ⟨M,z,B,rfl⟩;refine S ?_;unfold x at M;rw[<- M,aA,List.drop_length];rfl
theorem Sr {fI:Ad}(F:Fun K "check_bounds" "check_bounds" C5 f fd) (T:Txt J) (B:Bds J) (OC:XO P w K J base "NoCell" "row" CC yF) (j:Gd K J "cell_names" yY ["row"] fN aa) (l:Gd K J "is_name" Ja ["text"] fI U) (r:FnOk P w K J base lV 1 fN aa ["row"] (nC K Ek)) (I:FnOk P w K J base lV 1 fI U ["text"] (nC K Ju)):FnOk P w K J base (mJ P w) 3 f fd ["row"] (rJ K (Lj CC)):=by
 refine F.okDX (k:=2) Kb (λdk ds Φ Ξ ⟨_,_,e,_⟩=>by rw[e];rfl) (by decide) λab A V s H E dk ds Φ Ξ c hR=>?_
 have Q:=c;have u:=sB Q;obtain⟨C,d,rfl,W,li,lo,lg,lp,S,O⟩:=hR;obtain⟨t1,X⟩:=B.i;obtain⟨t2,Y⟩:=B.o;obtain⟨t3,Z⟩:=B.g;obtain⟨t4,b4⟩:=B.a;refine⟨_,(pJ (qJ (kU 1 Kb.nd (hI u 0 gD))) (pJ (Aj (xM (yI (oP (Q7 rfl) DE T.all PyProof.Rows.boot_all (dK (mS ["name"] [] [] (lK (oR r (Q.mono (by decide)) (by rfl) j.m j.k j.b (dK (dT 0) eH))) (λ_ _ _ _ _=>(kP 0 FF)) (λ_ _ _ _ _=>(oR I (Q.mono (by decide)) (by rfl) l.m l.k l.b (dK (dT 0) eH)))) eH)))) (rD (Cw OC c gD)) (A8 pC)) (pJ (Aj (wF (Cc (qW uV uZ (oP pK pI T.len cB (dK (hI u 1 gD) eH)) (Cg X)) (B1 (qW uV uZ (oP pK pI T.len cB (dK (hI u 1 gD) eH)) (Cg Y))))) (rD (Cw OC c gD)) (A8 pC)) (rD (Aj (wF (Cc (qW uV uZ (oP pK pI T.len cB (dK (hI u 1 gD) eH)) (Cg Z)) (B1 (qW uV uZ (oP pK pI T.len cB (dK (hI u 0 gD) eH)) (Cg b4))))) (rD (Cw OC c gD)) (A8 pC)))))),?_⟩;let b:Aa Sl:=[.v (hQ C d),.v (tY C)];refine kN (λG=>G=b) (λN q=>⟨rfl,_,rfl,q _ rfl⟩) ?_;rintro _ rfl;refine kN (λG=>G=b/\∀ x∈C.names,qO x=true) (λN q=>?_) ?_
 .unfold xA Po Ki dC aC;refine mM C.names D.str (λx=>.b (qO x)) b (λM h=>⟨C,d,rfl,by omega,by omega,.inl rfl,h⟩) (by unfold Cel.names;rw[List.length_append,List.length_map];omega) (λi x ys Nx e h1 h2=>⟨x,rfl,(W x (aI e)).1,(W x (aI e)).2,.inl rfl,h1,h2⟩) ?_;have eb:uW (C.names.map λx=>D.b (qO x))=some (C.names.map qO):=by
   rw[show (C.names.map λx=>D.b (qO x))=(C.names.map qO).map D.b by rw[aP];rfl];exact Q8 _
  refine⟨_,eb,?_⟩;cases L:(C.names.map qO).all id with
  | true =>
   rw[kC] at L;exact⟨rfl,true,rfl,q _ ⟨rfl,λx R=>eF.mp L x R⟩⟩
  | false =>
   refine⟨rfl,false,rfl,.int 0,_,rfl,Hl 0 (by decide),O λz=>?_⟩;have:(C.names.map qO).all id=true:=by rw[kC];exact eF.mpr λx R=>z.n x R
   rw[this] at L;cases L
 rintro _ ⟨rfl,nn⟩;refine kN (λG=>G=b/\C.ins.length<=6/\C.outs.length<=6) (λN q=>?_) ?_
 .refine C4 (decide (((C.ins.map D.str).length:Int)>6)) (decide (((C.outs.map D.str).length:Int)>6)) (λM h=>?_) (λM h=>?_) ?_
  .exact⟨rfl,_,rfl,rfl,_,rfl,h⟩
  .exact⟨rfl,_,rfl,rfl,_,rfl,h⟩
  .by_cases z:C.ins.length<=6/\C.outs.length<=6
   .exact nL (by simp;omega) (q _ ⟨rfl,z⟩)
   .refine oJ (by simp;omega) ⟨.int 0,_,rfl,Hl 0 (by decide),O λy=>z ⟨y.i,y.o⟩⟩
 rintro _ ⟨rfl,z1,z2⟩;refine C4 (decide (((C.gates.map lP).length:Int)>24)) (decide (((d.map λp=>D.t [.str p.1,.str p.2]).length:Int)>4)) (λM h=>?_) (λM h=>?_) ?_
 .exact⟨rfl,_,rfl,rfl,_,rfl,h⟩
 .exact⟨rfl,_,rfl,rfl,_,rfl,h⟩
 .by_cases z:C.gates.length<=24/\d.length<=4
  .exact nL (by simp;omega) (S ⟨nn,z1,z2,z.1,z.2⟩)
  .refine oJ (by simp;omega) ⟨.int 0,_,rfl,Hl 0 (by decide),O λy=>z ⟨y.g,y.a⟩⟩
end
theorem Zx {D:Cel}(j:RG C r) (g:RG D I) (l:∀ p∈o,p.2∈D.ins):∀ z∈(jC C D o).names,z.cps.all (·<128)=true/\z.length<=1000:=λz f=>by
 have go:∀ (x z:Af) (c:Nat),AZ x->z.cps.toList=c::x.cps.toList->c<128->z.cps.all (·<128)=true/\z.length<=1000:=λx z c a e h=>by
  refine⟨?_,?_⟩
  .rw[<- Array.all_toList,e,eF];intro y d;rcases aK.mp d with q | q
   .exact aX (by omega)
   .have:=a.az y q;exact aX (by omega)
  .rw[oX,e,cQ,<- oX];have:=a.hi;omega
 rcases F9 g.gc.nd l f with⟨x,b,rfl⟩ | ⟨x,b,_,rfl⟩
 .exact go x _ 97 (j.az x b) (A3 x) (by decide)
 .exact go x _ 98 (g.az x b) (D2 x) (by decide)
section
variable {P:Ah}{K:kM}
theorem Vi {fB:Ad}(F:Fun K "rows_together" "rows_together" Bb f fd) (T:Txt mg) (o:Gd K mg "check_pairs" D4 ["one","other","pairs"] fP ai) (J:Gd K mg "joined" En ["one","other","pairs"] fJ ah) (g:Gd K mg "row_turned" D1 ["row","turned"] fT ak) (r:Gd K mg "first_names" B6 ["row"] fF ag) (l:Gd K mg "second_names" A7 ["row","pairs"] fS aj) (j:Gd K mg "check_bounds" C5 ["row"] fB af) (ab:FnOk P w K mg base (mJ P w) 4 fP ai ["one","other","pairs"] (rJ K (Ms CN))) (ae:FnOk P w K mg base lV 2 fJ ah ["one","other","pairs"] (nC K M4)) (I:FnOk P w K mg base lV 2 fT ak ["row","turned"] (nC K L9)) (ac:FnOk P w K mg base lV 2 fF ag ["row"] (nC K Hz)) (aa:FnOk P w K mg base lV 2 fS aj ["row","pairs"] (nC K G6)) (U:FnOk P w K mg base (mJ P w) 3 fB af ["row"] (rJ K (Lj CC))):FnOk P w K mg base (mJ P w) 5 f fd ["one","other","pairs"] (rJ K (Gw CN CC)):=by
 refine F.okDX (k:=4) Qh (λY Z Φ Ξ ⟨_,_,_,_,_,e,_⟩=>by rw[e];rfl) (by decide) λX A S s H E Y Z Φ Ξ y hR=>?_
 have hu:=sB y;obtain⟨C,q,c,u,a,rfl,d,h,sm,lp,Q,hC,hX⟩:=hR;have a1:=d.gc.li;have a2:=d.gc.lg;have a3:=d.gc.lo;have c1:=h.gc.li;have c2:=h.gc.lg;have c3:=h.gc.lo;have d1:=d.lp;have d2:=h.lp;refine⟨_,(pJ (x_call ab (y.mono (by decide)) (by rfl) o.m o.k o.b (dK (dT 0) (dK (dT 1) (dK (dT 2) eH)))) (pJ (qJ (kU 3 Qh.nd (oR ae (y.mono (by decide)) (by rfl) J.m J.k J.b (dK (oR I (y.mono (by decide)) (by rfl) g.m g.k g.b (dK (dT 0) (dK (oR ac (y.mono (by decide)) (by rfl) r.m r.k r.b (dK (dT 0) eH)) eH))) (dK (oR I (y.mono (by decide)) (by rfl) g.m g.k g.b (dK (dT 1) (dK (oR aa (y.mono (by decide)) (by rfl) l.m l.k l.b (dK (dT 1) (dK (dT 2) eH))) eH))) (dK (dT 2) eH)))))) (pJ (x_call U (y.mono (by decide)) (by rfl) j.m j.k j.b (dK (dT 3) eH)) (rD (qJ (mO (dT 3))))))),?_⟩;let b:Aa Sl:=[.v (hQ C q),.v (hQ c u),.v (.t (a.map λp=>D.t [.str p.1,.str p.2]))];refine kN (λL=>L=b++[.n]/\nZ (lQ C q) (lX c u) a=none) (λN B=>⟨C,q,c,u,a,rfl,by omega,by omega,by omega,by omega,d.gc.ond,(bS.mp h.gc.nd).1,sm,λz=>⟨.inl rfl,B _ ⟨rfl,z⟩⟩,hX⟩) ?_;rintro _ ⟨rfl,nb⟩;have V:=Fi _ _ _ nb;have pin:∀ p∈a,p.2∈c.ins:=λp i=>(bQ.mp (V.m p i).2).1
 have W:∀ p∈a,p.1∈C.names:=λp i=>d.gc.os _ (bQ.mp (V.m p i).1).1
 have G:∀ p∈a,p.1.length<=1000:=λp i=>by have:=(d.az _ (W p i)).hi;omega
 refine kN (λL=>L=b++[.v (hQ (jC C c a) (jP q u a))]) (λN B=>?_) ?_
 .refine⟨C,q,rfl,d.gc.nd,by omega,by omega,λx O=>by have:=(d.az x O).hi;omega,λkv hv=>⟨.inl rfl,?_⟩⟩;refine⟨C,q,kv,fA,rfl,d.gc,by omega,λp i=>⟨d.gc.os _ (d.m p i).1,aM _ (d.m p i).2⟩,hv,.inl rfl,?_⟩;refine⟨c,u,a,rfl,h.gc.nd,by omega,by omega,λx O=>by have:=(h.az x O).hi;omega,V.n2,by omega,G,λR M=>⟨.inl rfl,?_⟩⟩;refine⟨c,u,R,lO a,rfl,h.gc,by omega,λp i=>⟨h.gc.os _ (h.m p i).1,aM _ (h.m p i).2⟩,M,.inl rfl,?_⟩;refine⟨qU fA C,oY fA q,qU (lO a) c,oY (lO a) u,a,rfl,?_,?_,?_,?_,?_,?_,?_,?_,by omega,G,.inl rfl,B _ rfl⟩
  all_goals (simp only[qU,oY,aA];omega)
 rintro _ rfl;have li:(jC C c a).ins.length<=100:=by
  rw[Gm,aD,aA,aA];have:=bT (λx=>!decide (x∈a.map (·.2))) c.ins;omega
 have lg:(jC C c a).gates.length<=100:=by
  have:=cH List.length (Oc C c a);rw[aA,aD,aA,aA] at this;omega
 have lo:(jC C c a).outs.length<=100:=by
  show (_++_:Aa Af).length<=100;simp only[aD,sD,qU];have:=bT (λx=>!decide (x∈oQ a)) (C.outs.map fA);simp only[aA] at this |-;omega
 have la:(jP q u a).length<=100:=by
  simp only[jP,oY,aD,aA];omega
 refine kN (λL=>L=b++[.v (hQ (jC C c a) (jP q u a))]/\InB (jC C c a) (jP q u a)) (λN B=>⟨_,_,rfl,Zx d h pin,li,lo,lg,la,λz=>⟨.inl rfl,B _ ⟨rfl,z⟩⟩,λz=>hC nb z⟩) ?_;rintro _ ⟨rfl,z⟩;exact Q nb z
end
end Lw
namespace PySem
open PyProof.Rows L2
abbrev uR (h:Ag) (j d:Ad) (i n g:Nat) (z:Ac) (f:Bool) (ok l:Ac):Prop:=h.get? j=some { cls:=.type "dict_itemiterator",data:=.fields #[z,.bool f,.ref d,.int i 0,.int n 0,.int g 0,ok,l] }
def Zf (z:Ac):Prop:=z = .none\/∃ T:Ad,z=rawInt T
section
theorem FG (h:Q (s.heap.get? a) s):wpAny (model g w) A (loadIfAlive a) Q E s:=λ_ _ _=>h
theorem Xl (I:uR s.heap l d i n p z f ok J) (C:Zf z) (g:∀ b j r,uR j l d i n p z r ok J->Heap.SameBut l s.heap j->Q b { s with heap:=j }) :
  wpAny (model o w) A (Builtin.Dict_items.ownedTupleIsFree (.ref l)) Q E s:=by
 unfold Builtin.Dict_items.ownedTupleIsFree;rcases C with rfl | ⟨T,rfl⟩
 .refine aB (gJ I rfl (x:=.none) rfl ?_);exact aF (g true _ _ I (Heap.SameBut.refl _ _))
 .refine aB (gJ I rfl (x:=rawInt T) rfl ?_);show wpAny _ _ (loadIfAlive ((T:Int).toNat) >>= _) _ _ _;rw[eJ];refine aB (FG ?_);cases s.heap.get? T with
  | none =>
   simp only[Option.isNone_none,iM];exact aF (g true _ _ I (Heap.SameBut.refl _ _))
  | some h =>
   simp only[Option.isNone_some,cU,gK];refine aB (gJ I rfl (x:=.bool f) rfl ?_);cases f with
   | true =>
    rw[aL (show ¬ ((Value.bool true != Value.bool true)=true) from bM)];exact aF (g false _ _ I (Heap.SameBut.refl _ _))
   | false =>
    rw[aU (show (Value.bool false != Value.bool true)=true from rfl)];exact aB (eW I (by simp) λe c a=>aF (g false _ _ c a))
theorem FP (r:RawD s.heap d o g ep) (I:uR s.heap j d i g.size ep z f ok ov) (hz:Zf z) (hi:i<g.size)
  (q:∀ l U f' p C,Zf U->uR l j d (i+1) g.size ep U f' p C->l.get? s.heap.objs.size=some { cls:=.type "tuple",data:=.seq #[g[i].key,g[i].val] }->l.objs.size=s.heap.objs.size+1 ->
   (∀ b o,b≠j->s.heap.get? b=some o->l.get? b=some o)->Q (some (.ref s.heap.objs.size)) { s with heap:=l }) :
  wpAny (model T w) A (pyNext (.ref j)) Q E s:=by
 have ty:s.TypeIs (.ref j) "dict_itemiterator" := ⟨_,I,rfl⟩;have own:Builtin.Dict_items.ownsTuple "dict_itemiterator" = true:=by decide
 have u:∀ {E:Ac->Ae->Prop} {m:Ae} {D:Nat->Ae->Prop},m.TypeIs (.ref j) "dict_itemiterator" -> D 2 m->wpAny (model T w) A.in1 (do return if Builtin.Dict_items.ownsTuple (<- typeNameOfWhole (.ref j)) then 2 else 0) D E m:=λt z =>
  aB (wpAny_typeNameOfWhole_itemiter t (by rw[own];exact aF z))
 have body:wpAny (model T w) A.in1 (Builtin.«dict_itemiterator.__next__» ⟨[.ref j],[]⟩) (λx m=>∃ l U f' p C,x = .done (.ret (.ref s.heap.objs.size))/\m={ s with heap:=l }/\Zf U/\uR l j d (i+1) g.size ep U f' p C/\l.get? s.heap.objs.size=some { cls:=.type "tuple",data:=.seq #[g[i].key,g[i].val] }/\l.objs.size=s.heap.objs.size+1 /\
   ∀ b o,b≠j->s.heap.get? b=some o->l.get? b=some o) (λ_ _=>False) s:=by
  refine aB (aF ?_);refine aB (aB (u ty ?_));refine aB (jR I rfl ?_);have h:¬ ((Value.ref d == Value.none)=true):=bM;show wpAny _ _ (if (Value.ref d == Value.none)=true then _ else _) _ _ s;rw[aL h];refine aB (aF (aB (gM r.get r.dat ?_)));rw[aL (by simp)];refine aB (aF (aB (hU r.get r.dat ?_)));rw[aL (by simp)];refine aF ?_;have row:(if (i:Int)<0 then none else g[(i:Int).toNat]?)=some g[i]:=by
   rw[aL (by omega),eJ,dU hi]
  dsimp only;rw[row];refine aB (u ty ?_);refine aB (iW ty ?_);change wpAny _ _ (setField (.ref j) 3 (rawInt ((i:Int)+1)) >>= _) _ _ s;refine aB (eW I (by simp) λk g2 a=>?_);have y:Shared.TypeIs { s with heap:=k } (.ref j) "dict_itemiterator" := ⟨_,g2,rfl⟩;have N:k.objs.size≠j:=λz=>absurd (aY I) (by rw[<- z,a.1];exact eB _)
  refine aB (cW (aB (iW (s:={ s with heap:=k }) y ?_)));refine aB (iW (s:={ s with heap:=k }) y ?_);change wpAny _ _ (Builtin.Dict_items.pairFromOwner (.ref j) 6 g[i].key g[i].val) _ _ _;unfold Builtin.Dict_items.pairFromOwner;refine aB (wpAny_newTuple ?_);have g3:uR (k.push { cls:=Value.type "tuple",data:=.seq #[g[i].key,g[i].val] }) j d (i+1) g.size ep z f ok ov:=aE _ g2;refine aB (Xl (s:={ s with heap:=k.push _ }) g3 hz λb M Y c v=>?_);cases b with
  | false =>
   have J:M.objs.size=s.heap.objs.size+1:=by
    rw[v.1,<- a.1];exact kK ..
   refine aF (aF ⟨M,z,Y,ok,ov,?_,rfl,hz,c,?_,J,λb ob n e=>?_⟩)
   .rw[<- a.1]
   .rw[<- a.1,v.2 _ N];exact bL _ rfl
   .rw[v.2 b n];exact aE _ ((a.2 b n).trans e)
  | true =>
   show wpAny _ _ (field (.ref j) 6 >>= _) _ _ _;refine aB (gJ c rfl rfl (aB (gJ c rfl rfl ?_)));refine aB (eW c (by simp) λh4 Z G=>?_);refine aB (eW Z (by simp) λh5 g5 H=>?_);refine aB (eW g5 (by simp) λh6 g6 K=>?_);refine aB (eW g6 (by simp) λB g7 L=>?_);have same:∀ b,b≠j->B.get? b=(k.push { cls:=Value.type "tuple",data:=.seq #[g[i].key,g[i].val] }).get? b:=λb n=>(L.2 b n).trans ((K.2 b n).trans ((H.2 b n).trans ((G.2 b n).trans (v.2 b n))))
   have J:B.objs.size=s.heap.objs.size+1:=by
    have e:=L.1.trans (K.1.trans (H.1.trans (G.1.trans v.1)));rw[e,<- a.1];exact kK ..
   refine aB (wpAny_letGo (aF (aF ⟨B,rawInt k.objs.size,false,g[i].key,g[i].val,?_,rfl,.inr ⟨_,rfl⟩,?_,?_,J,λb ob n e=>?_⟩)))
   .rw[<- a.1]
   .exact g7
   .rw[<- a.1,same _ N];exact bL _ rfl
   .rw[same b n];exact aE _ ((a.2 b n).trans e)
 unfold pyNext;refine aB (fX (gU (name:=Str.ofString "__next__") ty dF (eV dF ty F.entry_dict_itemiterator_next (cT body (λx m ⟨l,U,f',p,C,O,P,R,S,V,W,X⟩=>?_) λ_ _ z=>z.elim) (F.args_dict_itemiterator_next_1 _))));subst O P;exact⟨_,rfl,aF (q l U f' p C R S V W X)⟩
theorem Wf (calm:A.handled=none) (r:RawD s.heap d o p C) (I:uR s.heap l d p.size p.size C z f ok J) (q:∀ g,Heap.ExtBut l s.heap g->Q none { s with heap:=g }) :
  wpAny (model j w) A (pyNext (.ref l)) Q E s:=by
 have ty:s.TypeIs (.ref l) "dict_itemiterator" := ⟨_,I,rfl⟩;have own:Builtin.Dict_items.ownsTuple "dict_itemiterator" = true:=by decide
 have h:∀ {m:Ac->Ae->Prop} {c:Ae} {i:Nat->Ae->Prop},c.TypeIs (.ref l) "dict_itemiterator" -> i 2 c->wpAny (model j w) A.in1 (do return if Builtin.Dict_items.ownsTuple (<- typeNameOfWhole (.ref l)) then 2 else 0) i m c:=λt z =>
  aB (wpAny_typeNameOfWhole_itemiter t (by rw[own];exact aF z))
 have body:wpAny (model j w) A.in1 (Builtin.«dict_itemiterator.__next__» ⟨[.ref l],[]⟩) (λ_ _=>False) (λv c=>∃ e g,v = .ref e/\c={ s with heap:=g }/\Heap.ExtBut l s.heap g/\∃ o,g.get? e=some o/\o.cls = .type "StopIteration") s:=by
  refine aB (aF ?_);refine aB (aB (h ty ?_));refine aB (jR I rfl ?_);have a:¬ ((Value.ref d == Value.none)=true):=bM;show wpAny _ _ (if (Value.ref d == Value.none)=true then _ else _) _ _ s;rw[aL a];refine aB (aF (aB (gM r.get r.dat ?_)));rw[aL (by simp)];refine aB (aF (aB (hU r.get r.dat ?_)));rw[aL (by simp)];refine aF ?_;have row:(if ((p.size:Nat):Int)<0 then none else p[((p.size:Nat):Int).toNat]?)=none:=by
   rw[aL (by omega),eJ,iU (bD _)]
  dsimp only;rw[row];refine aB (h ty (aB (eW I (by simp) λL g2 n=>?_)));exact Kf calm λg e k z=>⟨e,g,rfl,rfl,λx o K H=>k x o ((n.2 x K).trans H),z⟩
 unfold pyNext;refine aB (fX (gU (name:=Str.ofString "__next__") ty dF (eV dF ty F.entry_dict_itemiterator_next (cT body (λ_ _ z=>z.elim) λv c ⟨e,g,u,y,B,o,D,G⟩=>?_) (F.args_dict_itemiterator_next_1 _))));subst u y;exact aB (jE (T := "StopIteration") (b:=true) ⟨o,D,G⟩ isSubtype_stop (aF (q g B)))
theorem Tc (I:uR s.heap g d i n l z f ok o) (q:Q (.ref g) s):wpAny (model j w) A (pyIter (.ref g)) Q E s:=by
 have ty:s.TypeIs (.ref g) "dict_itemiterator" := ⟨_,I,rfl⟩;have a:entryFor table "dict_itemiterator.__iter__" = some Builtin.«dict_keyiterator.__iter__»:=entryFor_alias (id' := "dict_keyiterator.__iter__") (by kernel_rfl) (by decide +kernel) (by decide +kernel) (by kernel_rfl);exact wpAny_pyIter_slot ty F.slot_dict_itemiterator_iter (eV F.slot_dict_itemiterator_iter ty a (aB (aF (aF ⟨_,rfl,"dict_itemiterator",_,ty,dF.lookup,q⟩))) (F.args_dict_itemiterator_iter_1 _))
end
end PySem
namespace L2
open PySem PySem.Spec PyProof.Rows Lw
def wR (a:Ad) (o:Obj) (t:mX):It :=
 ⟨λi H=>H a=some (.frz o (.k (vT t)))/\i<t.length,λi H x c=>∃ b y n,H b=none/\x = .ref b/\c=upd H b (.t [.str y,.int n])/\t[i]?=some (y,n),λi H=>H a=some (.frz o (.k (vT t)))/\i=t.length⟩
theorem G3 {P:Ah}(ok:nA P w H h) (p:H a=some (.frz o (.k (vT t)))) :
  ∃ g j,RawD h a o g j/\g.size=t.length/\∀ (i:Nat) (l:i<g.size),∃ y n,t[i]?=some (y,n)/\kR (.str y) g[i].key/\kR (.int n) g[i].val:=by
 obtain⟨c,z,lo,F,r,M,g,j,d,f,m,G,s,_⟩:=(show nB P w H h a (.frz o (.k (vT t))) from ok a _ p);rw[c] at d;cases d;have L:(vT t).length=F.length:=fR r;have K:(vT t).length=t.length:=aA ..;obtain⟨B,b⟩:=P7 s;rw[fQ] at B;refine⟨g,j,⟨lo,c,f,m⟩,by omega,λi l=>?_⟩;have e:i<t.length:=by omega
 have u:(vT t)[i]?=some (Sum.inr t[i].1,V.int t[i].2):=by unfold vT;rw[List.getElem?_map,List.getElem?_eq_getElem e];rfl
 obtain⟨q,v,D,E⟩:=Dz r u;obtain⟨x,A⟩:=b i g[i] q (by rw[eP,dU l]) v;refine⟨t[i].1,t[i].2,aJ e,?_,by rw[A];exact E⟩;have:=Q9 x;rw[<- D] at this;exact this
theorem Xh {P:Ah}{K:kM}(a l:Ad) (o:Obj) (t:mX) :
  Turn P w K (.Name x pos) (wR a o t) [l] l (λi h=>∃ g z f ok p,(∃ j,o.data = .dict j g)/\Zf z/\uR h l a i t.length g z f ok p) where
 mem:=aO
 obj:=λi h st b A=>by
  obtain rfl:=aH.mp A;obtain⟨_,_,_,_,_,_,_,st⟩:=st;exact⟨_,st,λv z=>nomatch z⟩
 keep:=λi h M ⟨g,z,f,ok,p,q,G,st⟩ k=>⟨g,z,f,ok,p,q,G,k l aO _ st⟩
 item:=by
  intro X O hw N Y i D s σ H E I F st S;subst O hw N;obtain⟨g,z,f,ok,p,⟨L,m⟩,G,st⟩:=st;obtain⟨Q,V⟩:=S;obtain⟨j,d,raw,sz,rows⟩:=G3 I.hok Q;have:d=g:=by have:=raw.dat;rw[m] at this;cases this;rfl
  subst this;rw[<- sz] at st V;obtain⟨y,n,k1,k2,k4⟩:=rows i V;refine FP raw st G V λM z' f' aa ab W B u Z kp=>⟨_,rfl,?_⟩
  have ne:s.heap.objs.size≠l:=λz=>absurd (aY st) (by rw[<- z];exact eB _)
  have nt:xK M s.heap.objs.size [j[i].key,j[i].val].toArray:=⟨⟨_,u,rfl,_,rfl⟩,_,u,rfl⟩;have r:=I.movedT (t':=s.toks) (ys:=[.str y,.int n]) F (λc oc R q=>kp c oc (λz=>R (aH.mpr z)) q) nt (.cons k2 (.cons k4 .nil)) (by show 2<=sizeLine;decide);rw[sz] at B;show wpAny _ _ (pure ()) _ _ _;refine aF ⟨.ref s.heap.objs.size,_,r,rfl,⟨_,y,n,I.fresh,rfl,rfl,k1⟩,⟨d,_,_,_,_,⟨j,raw.dat⟩,W,B⟩,λb A=>?_⟩;obtain rfl:=aH.mp A;rw[kX (eZ ne)];exact (F _ aO).1
 done:=by
  intro X O hw N Y i D s σ H E I F st S;subst O hw N;obtain⟨g,z,f,ok,p,⟨L,m⟩,G,st⟩:=st;obtain⟨Q,rfl⟩:=S;obtain⟨j,d,raw,sz,rows⟩:=G3 I.hok Q;have:d=g:=by have:=raw.dat;rw[m] at this;cases this;rfl
  subst this;rw[<- sz] at st;obtain⟨J,f1,f2,T,U,f5⟩:=F l aO;exact Wf (I.ok.hd Y) raw st λM C=>⟨rfl,I.turned (t':=s.toks) (λb o A e=>C b o A e) J f1 T U f5⟩
 self:=λ_ _ _ _ _ ⟨_,_,_,_,_,_,_,st⟩ h=>Tc st h
def Pw (X:Cx) (g:TE):TI:=λd H R=>g d H λx b=>∃ a t,x = .ref a/\((b a=some (.k (vT t))/\∀ o,(∀ c u,X.H₀ a≠some (.frz c u))->R (wR a o t) (upd b a (.frz o (.k (vT t)))))\/∃ o,b a=some (.frz o (.k (vT t)))/\R (wR a o t) b)
section
variable {X:Cx}
theorem Zz (r:PE X l C) (g:attributeBase l "items" X.env (eval l X.env)=eval l X.env:=by rfl) (j:(apos.endLine == p.line)=true:=by rfl) :
  PI X (.Name x J) (.Call (.Attribute l "items" apos) [] [] p) (Pw X C):=by
 intro c s E H R I h;refine wpAny_Call_method0_late g j (kT (r c s E H _ I h) λv d A=>?_);obtain⟨x,N,u,M,a,t,e,alt⟩:=A;subst e;cases M;have z:(qD (.k (vT t))).isSome=true:=rfl;obtain⟨y,i,w,f,q⟩:∃ o i,Inv X c E i d/\i a=some (.frz o (.k (vT t)))/\R (wR a o t) i:=by
  rcases alt with⟨f,q⟩ | ⟨o,f,q⟩
  .obtain⟨o,L⟩:=Pd z (u.hok a _ f);exact⟨o,_,u.frozen z f L,lT,q o (u.no_frz z f)⟩
  .exact⟨o,_,u,f,q⟩
 obtain⟨D,B,raw,sz,_⟩:=G3 w.hok f;refine⟨"dict",_,gS,PySem.F.slot_dict_items,PySem.F.type_dict_items,raw.ty,(λO e=>by cases e;exact⟨y,raw.get,raw.ex.2.1⟩),gY rfl (PySem.evalArgs_none (Yw raw ?_))⟩;have m:RawD (d.heap.push { cls:=.type "dict_items",data:=.fields #[.ref a] }) a y D B:=⟨raw.low,aE _ raw.get,raw.ex,raw.dat⟩;have G:∀ b∈[d.heap.objs.size+1],rH X c i b:=λb K=>by
  obtain rfl:=aH.mp K;exact w.fpOk (gH _) (w.hok.fresh (gH _))
 have n:(d.heap.push { cls:=.type "dict_items",data:=.fields #[.ref a] }).objs.size=d.heap.objs.size+1:=kK ..;refine Z1 (s:={ d with heap:=d.heap.push { cls:=.type "dict_items",data:=.fields #[.ref a] } }) ⟨_,bL _ rfl,rfl,rfl⟩ m ⟨d.heap.objs.size+1,[d.heap.objs.size+1],_,wR a y t,i,?_,w.kept (t':=d.toks) λb P q=>aE _ (aE _ q),Xh a _ y t,⟨B,.none,false,.none,.none,⟨D,raw.dat⟩,.inl rfl,?_⟩,G,q⟩
 .exact cH Value.ref n
 .rw[<- sz,<- n];exact bL _ rfl
def yA (t:mX):Aa D:=t.map λp=>.t [.str p.1,.int p.2]
def Mo (g:lL):uT:=λc e d=>g c e λr b=>match r with
 | .v (.k a)=>∃ t:mX,a=lA t/\d (yA t) b
 | _=>False
theorem DS.knownT {K:kM}(d:DS K B (L++(.v (.k (lA t)),some v)::T) H) :
  ∃ a,v = .ref a/\a∉B.dk /\
   ((H a=some (.k (vT t))/\∀ o,DS K (nK B a o (.k (vT t))) (L++T) (upd H a (.frz o (.k (vT t))))/\∀ j g,DS K (nK B a o (.k (vT t))) j g->DS K B j (upd g a (.k (vT t)))) \/ ∃ o,H a=some (.frz o (.k (vT t)))/\DS K (nK B a o (.k (vT t))) (L++T) H/\∀ j g,DS K (nK B a o (.k (vT t))) j g->DS K B j g):=by
 have hd:=d.drop;obtain⟨a,rfl,al,rd⟩:=R5 d.valAt;have c:=al.1;have m:(qD (.k (vT t))).isSome=true:=rfl;refine⟨a,rfl,c,?_⟩;rcases rd with f | ⟨i,f⟩
 .refine .inl ⟨f,λo=>⟨hd.fz (o:=o) ⟨λb n=>kX n,m,.inl f,.inr ⟨o,lT⟩⟩ lT al,λj g h=>h.th ⟨λb n=>kX n,m,.inr ⟨o,h.known c⟩,.inl lT⟩ c (λu e=>?_) al.2.2⟩⟩;have:=hd.fr a u e c;rw[f] at this;rw[lT];exact this
 .refine .inr ⟨i,f,hd.fz ⟨λ_ _=>rfl,m,.inr ⟨i,f⟩,.inr ⟨i,f⟩⟩ f al,λj g h=>h.th ⟨λ_ _=>rfl,m,.inr ⟨i,h.known c⟩,.inr ⟨i,h.known c⟩⟩ c (λu e=>?_) al.2.2⟩;have:=hd.fr a u e c;rw[f] at this;rw[h.known c];exact this
theorem BJ (l:j.Nodup) (h:dE X.K (xQ T.length j (Mo C) g I p) σ H Q) :
  B4 T j (Pw X (dE X.K C)) (dG X.K T.length g) (rM X.K I) (dE X.K p) σ H λv=>thawQ X (Q v):=by
 obtain⟨B,Z,Tm,Φ,V,hd,Y,k⟩:=h;refine⟨B,Z,Tm,_,V,hd,Y,λr U v w O d1 s=>?_⟩;cases r<;>first | exact False.elim s | skip
 rename_i d
 cases d<;>first | exact False.elim s | skip
 obtain⟨t,rfl,s⟩:=s;obtain⟨a,rfl,L,alt⟩:=d1.knownT;have W:(qD (.k (vT t))).isSome=true:=rfl;have len:(yA t).length=t.length:=aA ..;have J:∀ (o:Obj) (D:Ad) (w:Hp),w a=some (.frz o (.k (vT t)))->w D=none->∀ i m c M H,DS X.K (mD (nK B a o (.k (vT t))) D m) (c++M) H->(i<(yA t).length->(wR a o t).go i H)/\(i=(yA t).length->(wR a o t).stop i H)/\∀ x F,i<(yA t).length->(wR a o t).yld i H x F->∃ d,(yA t)[i]?=some d/\DS X.K (mD (nK B a o (.k (vT t))) D m) (c++(.v d,some x)::M) F:=λo D w u f i m c M H d=>by
  have N:=CZ L u f d;refine⟨λA=>⟨N,by rw[<- len];exact A⟩,λA=>⟨N,by rw[A,len]⟩,?_⟩;rintro x F A ⟨b,y,n,nb,rfl,rfl,e⟩;refine⟨.t [.str y,.int n],by unfold yA;rw[List.getElem?_map,e];rfl,DS.tup d nb (.cons (.str y) (.cons (.int n) .nil))⟩
 refine⟨a,t,rfl,?_⟩;rcases alt with⟨u,S⟩ | ⟨o,u,d2,back⟩
 .refine .inl ⟨u,λo R D f=>?_⟩;obtain⟨d2,back⟩:=S o;exact D0 (B:=nK B a o (.k (vT t))) l O d2 (λi m c M H _ d=>J o D _ lT f i m c M H d) s (λr q v P G E z=>.inr ⟨a,o,_,W,E.known L,R,k r q v _ G (back _ _ E) z⟩) f
 .refine .inr ⟨o,u,λD f=>?_⟩;exact D0 (B:=nK B a o (.k (vT t))) l O d2 (λi m c M H _ d=>J o D _ u f i m c M H d) s (λr q v P G E z=>.inl (k r q v _ G (back _ _ E) z)) f
theorem BO (T p:Aa Af) (I:Aa Nat) (hc:X.calm=true) (hi:PD X l ti)
  (hk:j.kind = .function) (ho:yV X.N X.env.kindOf j T p I=true)
  (hg:∀ r o C cl fp,uA (qA X (T++p) j cl C r o fp) T.length (.Name x ps) g)
  (ht:∀ r o C cl fp,tF (qA X (T++p) j cl C r o fp) ae (rM X.K tt))
  (he:∀ r o C cl fp,PD (qA X (T++p) j cl C r o fp) ac te)
  (U:attributeBase l "items" X.env (eval l X.env)=eval l X.env:=by rfl) (aa:(apos.endLine == J.line)=true:=by rfl)
  (ab:I.Nodup:=by decide) (hs:∀ x,foldedSetIterable (.Call (.Attribute l "items" apos) [] [] J) X.env x=pure x:=by intro _;rfl):PD X (.ListComp ac [⟨.Name x ps,.Call (.Attribute l "items" apos) [] [] J,ae,0⟩] j pos) (xQ T.length I (Mo ti) g tt te) :=
 (Wi (C6 T p I hc (Zz hi U aa) hk ho hg ht he hs)).mono λ_ _ _ h=>BJ ab h
end
end L2
namespace Lw
open PySem L2
theorem AT:(["name","turned","edges"]:Aa Af).Nodup:=by decide +kernel
theorem Rn:(["name","turned","weights"]:Aa Af).Nodup:=by decide +kernel
def pY (C:Cel) (g:Aa (Af×Af)):Aa Af:=lX C g++lQ C g++g.map (·.2)
def sO (a b:mX):mX:=b.foldl (λt p=>pF t p.1 p.2) a
theorem Om:∀ (b a:mX),oE (lA a) (lA b)=lA (sO a b)
 | [],a=>rfl
 | p::b,a=>by
  show oE (oG (lA a) (Sum.inr p.1) (.int p.2)) (lA b)=_;rw[Na,Om b (pF a p.1 p.2)];rfl
theorem Mw:∀ (b a:mX) (x:Af),x∈(sO a b).map (·.1)↔x∈a.map (·.1)\/x∈b.map (·.1)
 | [],a,x=>by simp[sO]
 | p::b,a,x=>by
  show x∈(sO (pF a p.1 p.2) b).map (·.1)↔_;rw[Mw b,Dc];by_cases q:p.1∈a.map (·.1)
  .rw[aU q];simp only[aW,aK];constructor
   .rintro (h | h)
    .exact .inl h
    .exact .inr (.inr h)
   .rintro (h | h | h)
    .exact .inl h
    .exact .inl (h▸q)
    .exact .inr h
  .rw[aL q];simp only[aW,aK,aR,bE,kL];constructor
   .rintro ((h | h) | h)
    .exact .inl h
    .exact .inr (.inl h)
    .exact .inr (.inr h)
   .rintro (h | h | h)
    .exact .inl (.inl h)
    .exact .inl (.inr h)
    .exact .inr h
theorem Jg:∀ (b a:mX),(a.map (·.1)).Nodup->((sO a b).map (·.1)).Nodup
 | [],a,h=>h
 | p::b,a,h=>Jg b _ (Fo h p.1 p.2)
theorem Iz:∀ (b a:mX),(sO a b).length<=a.length+b.length
 | [],a=>bD _
 | p::b,a=>by
  have:=Iz b (pF a p.1 p.2);have:=F0 a p.1 p.2;show (sO (pF a p.1 p.2) b).length<=_;rw[cQ];omega
theorem Ko (h:t.length<100000):Br (.k (lA t)) (.str x) (.int n)=some (.k (lA (pF t x n))):=by
 have:(lA t).length<100000:=by unfold lA;rw[List.length_map];exact h
 show (if (lA t).length<100000 then some (D.k (oG (lA t) (Sum.inr x) (.int n))) else none)=_;rw[aU this,Na]
theorem Lr:∀ (b a:mX),(∀ x,mB a x=0)->(∀ p∈b,p.2=0)->∀ x,mB (sO a b) x=0
 | [],a,h,_,x=>h x
 | p::b,a,h,c,x=>Lr b (pF a p.1 p.2) (λy=>by rw[Ia,c p aO,h y];exact ite_self 0) (λq d=>c q (aZ _ d)) x
def qP (f:Af->Af) (t:mX) (C:Cel) (g:Aa (Af×Af)):mX:=pF (sO [] ((pY C g).map λx=>(f x,mB t x))) "" (mB t "")
def wS (f:Af->Af) (e:Af->D) (g:Aa (Af×Af)):Aa (gV×D):=oE [] (g.map λp=>((Sum.inr (f p.2):gV),e p.2))
def M9:RD:=λd b c=>∃ C a,b=[hQ C a]/\a.length<=100/\C.ins.length<=100/\C.outs.length<=100/\c (.o (.l ((pY C a).map D.str)))
def Nh:RD:=λi d h=>∃ C a b c f e,d=[hQ C a,.k b,.k c]/\a.length<=100/\(∀ p∈a,kW c (Sum.inr p.2)=some (.str (f p.2))/\kW b (Sum.inr p.2)=some (e p.2))/\h (.o (.k (wS f e a)))
def Jj:RD:=λe c d=>∃ C a t b f,c=[hQ C a,.k (lA t),.k b]/\a.length<=100/\C.ins.length<=100/\C.outs.length<=100/\(∀ x∈pY C a,kW b (Sum.inr x)=some (.str (f x)))/\d (.o (.k (lA (qP f t C a))))
theorem O0 (j:g.length<=100) (l:C.ins.length<=100) (o:C.outs.length<=100):(pY C g).length<=300:=by
 unfold pY lX lQ;rw[aD,aD,aA];exact bU (Nat.add_le_add (Nat.add_le_add (bT _ _) (bT _ _)) (bD _)) (by omega)
section
variable {P:Ah}{K:kM}
theorem We:FnScope ["row"] ["row"] (lB Fe):=mT
theorem Xj:FnScope ["row","edges","turned"] ["row","edges","turned"] (lB Cz):=mT
theorem Q1:FnScope ["row","weights","turned","found"] ["row","weights","turned"] (lB Fc):=mT
theorem CQ {fI:Ad}(F:Fun K "weighed_names" "weighed_names" Fe f fd) (l:Gd K J "word_inputs" A9 ["row"] fI U) (j:Gd K J "word_outputs" Bl ["row"] fO aa) (g:Gd K J "carried_inputs" zH ["row"] fC T) (I:FnOk P w K J base lV 2 fI U ["row"] (nC K B8)) (r:FnOk P w K J base lV 1 fO aa ["row"] (nC K Hd)) (o:FnOk P w K J base lV 1 fC T ["row"] (nC K xD)):FnOk P w K J base lV 3 f fd ["row"] (nC K M9):=by
 refine F.okD (k:=2) We (λq t x ⟨_,_,e,_⟩=>by rw[e];rfl) (by decide) λn A i s H E q t x d u=>?_
 have B:=sB d;obtain⟨C,a,rfl,h,v,lo,c⟩:=u;have y:(lX C a).length<=C.ins.length:=bT _ _;have z:(lQ C a).length<=C.outs.length:=bT _ _;refine⟨_,(lH (mO (kS lE lD (kS lE lD (oR I (d.mono (by decide)) (by rfl) l.m l.k l.b (dK (dT 0) eH)) (oR r (d.mono (by decide)) (by rfl) j.m j.k j.b (dK (dT 0) eH))) (oR o (d.mono (by decide)) (by rfl) g.m g.k g.b (dK (dT 0) eH))))),?_⟩;refine⟨C,a,rfl,h,v,.inl rfl,C,a,rfl,h,lo,.inl rfl,?_,C,a,rfl,h,.inl rfl,?_,?_⟩
 .simp only[aA];omega
 .simp only[aD,aA];omega
 .have e:(pY C a).map D.str=(lX C a).map D.str++(lQ C a).map D.str++a.map λp=>D.str p.2:=by
   unfold pY;rw[aG,aG,aP];rfl
  rw[e] at c;exact c
theorem Zl (F:Fun K "edges_turned" "edges_turned" Cz f fd) (T:Txt r) (j:Gd K r "carried_inputs" zH ["row"] I o) (l:FnOk P w K r base lV 1 I o ["row"] (nC K xD)):FnOk P w K r base lV 2 f fd ["row","edges","turned"] (nC K Nh):=by
 refine F.okD (k:=1) Xj (λv x S ⟨_,_,_,_,_,_,e,_⟩=>by rw[e];rfl) (by decide) λu A d s H E v x S n M=>?_
 have q:=sB n;obtain⟨C,a,B,Q,f,e,rfl,O,N,c⟩:=M;refine⟨_,(lH (mO (mQ (uM rfl) uQ T.dict cM (dK (mS ["name"] ["turned","edges"] [2,1] (lK (oR l (n.mono (by decide)) (by rfl) j.m j.k j.b (dK (dT 0) eH))) (λ_ _ _ _ _=>(kP 0 AT)) (λ_ _ _ _ _=>(kZ (dK (hI q 1 (dT 0)) (dK (hI q 2 (dT 0)) eH))))) eH)))),?_⟩;unfold sT dC aC;refine mM a (λp=>D.str p.2) (λp=>.t [.str (f p.2),e p.2]) _ (λX h=>⟨C,a,rfl,O,.inl rfl,h⟩) (by omega) (λi p W V y G L=>?_) ?_
 .obtain⟨v1,R⟩:=N p (aI y);exact⟨rfl,_,cH some v1,rfl,_,cH some R,by show 2<=1000;decide,G,L⟩
 have z:qN (a.map λp=>D.t [.str (f p.2),e p.2])=some (a.map λp=>((Sum.inr (f p.2):gV),e p.2)):=tZ (g:=λp:Af×Af=>((Sum.inr (f p.2):gV),e p.2)) (λp=>⟨.str (f p.2),rfl,rfl⟩) a;exact⟨_,z,by rw[aA];omega,c⟩
theorem Vb (F:Fun K "weights_turned" "weights_turned" Fc f fd) (T:Txt r) (j:Gd K r "weighed_names" Fe ["row"] I p) (l:FnOk P w K r base lV 3 I p ["row"] (nC K M9)):FnOk P w K r base lV 4 f fd ["row","weights","turned"] (nC K Jj):=by
 refine F.okD (k:=3) Q1 (λO Q J ⟨_,_,_,_,_,e,_⟩=>by rw[e];rfl) (by decide) λM A u s H E O Q J B X=>?_
 have c:=sB B;obtain⟨C,a,t,y,f,rfl,L,G,lo,Y,q⟩:=X;have ln:=O0 L G lo;refine⟨_,(kQ (kU 3 Q1.nd (mQ (uM rfl) uQ T.dict cM (dK (mS ["name"] ["turned","weights"] [2,1] (lK (oR l (B.mono (by decide)) (by rfl) j.m j.k j.b (dK (dT 0) eH))) (λ_ _ _ _ _=>(kP 0 Rn)) (λ_ _ _ _ _=>(kZ (dK (hI c 1 (dT 0)) (dK (Eb c (pv 2) (dT 0) gD) eH))))) eH))) (kQ (Ds (n:=3) c (Eb c (pv 1) nF gD) (pv 3) nF) (lH (mO (Ks 3 (pv 3)))))),?_⟩;let b:Aa Sl:=[.v (hQ C a),.v (.k (lA t)),.v (.k y)];refine kN (λz=>z=b++[.o (.k (lA (sO [] ((pY C a).map λx=>(f x,mB t x)))))]) (λN d=>?_) ?_
 .unfold nG dC aC;refine mM (pY C a) D.str (λx=>.t [.str (f x),.int (mB t x)]) _ (λΨ h=>⟨C,a,rfl,L,G,lo,.inl rfl,h⟩) (by omega) (λi x ys U R V W=>?_) ?_
  .refine⟨rfl,_,cH some (Y x (aI R)),rfl,_,rfl,?_⟩;rw[Gj];exact⟨by show 2<=1000;decide,V,W⟩
  have S:qN ((pY C a).map λx=>D.t [.str (f x),.int (mB t x)])=some (lA ((pY C a).map λx=>(f x,mB t x))):=by
   rw[tZ (g:=λx:Af=>((Sum.inr (f x):gV),D.int (mB t x))) (λx=>⟨.str (f x),rfl,rfl⟩)];unfold lA;rw[aP];rfl
  refine⟨_,S,by unfold lA;rw[List.length_map,List.length_map];omega,d _ ?_⟩;have:=Om ((pY C a).map λx=>(f x,mB t x)) [];rw[show lA []=[] from rfl] at this;rw[this];rfl
 rintro _ rfl;refine kN (λz=>z=b++[.o (.k (lA (qP f t C a)))]) (λN d=>?_) ?_
 .have Z:=Iz ((pY C a).map λx=>(f x,mB t x)) [];rw[aA,cS] at Z;refine⟨rfl,_,rfl,rfl,_,?_,d _ rfl⟩;rw[Gj];exact Ko (by omega)
 rintro _ rfl;exact q
end
theorem Yq:(["pair"]:Aa Af).Nodup:=by decide +kernel
def sX (a b:mX):mX:=b.foldl (λt p=>pF t p.1 (mB t p.1+p.2)) a
theorem M5:∀ (b a:mX) (x:Af),x∈a.map (·.1)->x∈(sX a b).map (·.1)
 | [],a,x,h=>h
 | p::b,a,x,h=>M5 b _ x (by rw[Dc];split<;>simp[h])
theorem Np:∀ (b a:mX),(a.map (·.1)).Nodup->((sX a b).map (·.1)).Nodup
 | [],a,h=>h
 | p::b,a,h=>Np b _ (Fo h p.1 _)
theorem Ij:∀ (b a:mX),(sX a b).length<=a.length+b.length
 | [],a=>bD _
 | p::b,a=>by
  have:=Ij b (pF a p.1 (mB a p.1+p.2));have:=F0 a p.1 (mB a p.1+p.2);show (sX (pF a p.1 (mB a p.1+p.2)) b).length<=_;rw[cQ];omega
theorem Pt:∀ (b a:mX),(∀ x,mB a x=0)->(∀ p∈b,p.2=0)->∀ x,mB (sX a b) x=0
 | [],a,h,_,x=>h x
 | p::b,a,h,c,x=>Pt b _ (λy=>by rw[Ia,c p aO,h p.1,h y];exact ite_self 0) (λq d=>c q (aZ _ d)) x
theorem Tj {a b:mX}{j:Nat}{p:Af×Int}(h:b[j]?=some p):sX a (b.take (j+1))=pF (sX a (b.take j)) p.1 (mB (sX a (b.take j)) p.1+p.2):=by
 unfold sX;rw[dZ,h,List.foldl_append];rfl
theorem Fw (f:Af->Af) (t:mX) (C:Cel) (g:Aa (Af×Af)):((qP f t C g).map (·.1)).Nodup:=Fo (Jg _ [] bX) _ _
theorem Q2 (j:g.length<=100) (l:C.ins.length<=100) (o:C.outs.length<=100):(qP f t C g).length<=301:=by
 have b:=O0 j l o;have a:=Iz ((pY C g).map λx=>(f x,mB t x)) [];have c:=F0 (sO [] ((pY C g).map λx=>(f x,mB t x))) "" (mB t "");rw[aA,cS] at a;unfold qP;omega
theorem Vz (h:x∈pY C g):f x∈(qP f t C g).map (·.1):=by
 have:f x∈(sO [] ((pY C g).map λx=>(f x,mB t x))).map (·.1):=(Mw _ _ _).mpr (.inr (by rw[aP];exact bB.mpr ⟨x,h,rfl⟩));unfold qP;rw[Dc];split<;>simp[this]
def rG (C g:Cel) (j l o:Aa (Af×Af)) (p r:mX):mX:=sX (qP fA p C j) (qP (lO o) r g l)
def Ca (l o p:Aa (Af×Af)) (g j:Af->D):Aa (gV×D):=oE (wS fA g l) (wS (lO p) j o)
def Je (j g:Ad):RX:=λw s u q=>∃ C b d c a e f m n h i,s=[hQ C b,hQ d c,.t (a.map λp=>D.t [.str p.1,.str p.2]),.t [.k e,.k (lA h)],.t [.k f,.k (lA i)]]/\RG C b/\RG d c/\(∀ p∈a,oK p.1/\oK p.2)/\a.length<=40 /\
 (∀ p∈b,kW e (Sum.inr p.2)=some (m p.2))/\(∀ p∈c,kW f (Sum.inr p.2)=some (n p.2)) /\
 (nZ (lQ C b) (lX d c) a=none->InB (jC C d a) (jP b c a)->(∀ p∈a,mB (rG C d b c a h i) (fA p.1)=0)/\u (.v (.t [.k (Ca b c a m n),.k (lA ((rG C d b c a h i).filter λp=>!decide (p.2=0)))]))) /\
 (nZ (lQ C b) (lX d c) a=none->¬ InB (jC C d a) (jP b c a)->q (yD g))/\∀ y,nZ (lQ C b) (lX d c) a=some y->q (Ak j y)
theorem O5:(wS f e g).length<=g.length:=by
 have:=yK (g.map λp=>((Sum.inr (f p.2):gV),e p.2)) [];rw[cS,aA] at this;unfold wS;omega
section
variable {P:Ah}{K:kM}
theorem vQ:FnScope ["one","other","pairs","claim_one","claim_other","turned","turned_other","edges","weights","more","name","output"] ["one","other","pairs","claim_one","claim_other"] (lB E2):=mT
theorem FR (F:Fun K "claims_together" "claims_together" E2 f fd) (T:Txt mg) (I:Gd K mg "rows_together" Bb ["one","other","pairs"] fT aw) (U:Gd K mg "first_names" B6 ["row"] fF au) (J:Gd K mg "second_names" A7 ["row","pairs"] fS av) (r:Gd K mg "edges_turned" Cz ["row","edges","turned"] fE ar) (l:Gd K mg "weights_turned" Fc ["row","weights","turned"] fW ax) (ac:FnOk P w K mg base (mJ P w) 5 fT aw ["one","other","pairs"] (rJ K (Gw CN CC))) (af:FnOk P w K mg base lV 2 fF au ["row"] (nC K Hz)) (ae:FnOk P w K mg base lV 2 fS av ["row","pairs"] (nC K G6)) (ab:FnOk P w K mg base lV 2 fE ar ["row","edges","turned"] (nC K Nh)) (aa:FnOk P w K mg base lV 4 fW ax ["row","weights","turned"] (nC K Jj)):FnOk P w K mg base (mJ P w) 6 f fd ["one","other","pairs","claim_one","claim_other"] (rJ K (Je CN CC)):=by
 refine F.okDX (k:=5) vQ (λdk ds Φ Ξ ⟨_,_,_,_,_,_,_,_,_,_,_,e,_⟩=>by rw[e];rfl) (by decide) λa6 A a4 s H E dk ds Φ Ξ Z hR=>?_
 have hu:=sB Z;obtain⟨C,q,G,u,d,ag,ah,e1,e2,R,V,rfl,X,Y,sm,lp,ay,a0,ai,hC,hX⟩:=hR;have a1:=X.gc.li;have a2:=X.gc.lg;have a3:=X.gc.lo;have c1:=Y.gc.li;have c2:=Y.gc.lg;have c3:=Y.gc.lo;have d1:=X.lp;have d2:=Y.lp;refine⟨_,(pJ (x_call ac (Z.mono (by decide)) (by rfl) I.m I.k I.b (dK (dT 0) (dK (dT 1) (dK (dT 2) eH)))) (pJ (qJ (kU 5 vQ.nd (oR af (Z.mono (by decide)) (by rfl) U.m U.k U.b (dK (dT 0) eH)))) (pJ (qJ (kU 6 vQ.nd (oR ae (Z.mono (by decide)) (by rfl) J.m J.k J.b (dK (dT 1) (dK (dT 2) eH))))) (pJ (qJ (kU 7 vQ.nd (oR ab (Z.mono (by decide)) (by rfl) r.m r.k r.b (dK (dT 0) (dK (hI hu 3 gD) (dK (dT 5) eH)))))) (pJ (qJ (sC (rF gS PySem.F.slot_dict_update PySem.F.type_dict_update Qg Qm (pv 7) (dK (oR ab (Z.mono (by decide)) (by rfl) r.m r.k r.b (dK (dT 1) (dK (hI hu 4 gD) (dK (dT 6) eH)))) eH)))) (pJ (qJ (kU 8 vQ.nd (oR aa (Z.mono (by decide)) (by rfl) l.m l.k l.b (dK (dT 0) (dK (hI hu 3 gD) (dK (dT 5) eH)))))) (pJ (qJ (kU 9 vQ.nd (oR aa (Z.mono (by decide)) (by rfl) l.m l.k l.b (dK (dT 1) (dK (hI hu 4 gD) (dK (dT 6) eH)))))) (pJ (qJ (Xg (m:=99) PassesOwn.leaving rfl (dT 9) (kP 10 vQ.nd) (lH (Ds (n:=8) hu (kS lE lD (Eb hu (pv 8) (dT 10) gD) (hI hu 9 (dT 10))) (pv 8) (dT 10))))) (pJ (J6 (lK (dT 2)) (pL (n:=2) rfl (mE (kP 11 vQ.nd) (mE (kP 10 vQ.nd) pH))) (rD (Aj (qW (K8 Z.units) (Ee true) (hI hu 8 (kS lE lD nF (dT 11))) gD) (rD (qJ W8)) (A8 pC))) PassesOwn.leaving) (rD (qJ (mO (kZ (dK (dT 7) (dK (mQ (uM rfl) uQ T.dict cM (dK (BO ["pair"] [] [] rfl (dT 8) rfl rfl (λ_ _ _ _ _=>(kP 0 Yq)) (λ_ _ _ _ _=>(tK (qW (K8 Z.units) (Ee true) (hI hu 0 gD) gD))) (λ_ _ _ _ _=>(dT 0))) eH)) eH))))))))))))))),?_⟩;let b:Aa Sl:=[.v (hQ C q),.v (hQ G u),.v (.t (d.map λp=>D.t [.str p.1,.str p.2])),.v (.t [.k ag,.k (lA R)]),.v (.t [.k ah,.k (lA V)])];refine kN (λB=>B=b++[.n,.n,.n,.n,.n,.n,.n]/\nZ (lQ C q) (lX G u) d=none/\InB (jC C G d) (jP q u d)) (λN O=>⟨C,q,G,u,d,rfl,X,Y,sm,lp,λz y=>⟨.inl rfl,O _ ⟨rfl,z,y⟩⟩,hC,hX⟩) ?_;rintro _ ⟨rfl,aq,ib⟩;have pk:=Fi _ _ _ aq;obtain⟨z0,ai⟩:=ai aq ib;have a5:∀ p∈d,p.1∈C.names:=λp S=>X.gc.os _ (bQ.mp (pk.m p S).1).1
 have ao:∀ p∈d,p.1.length<=1000:=λp S=>by have:=(X.az _ (a5 p S)).hi;omega
 have wg:∀ {C:Cel} {aj:Aa (Af×Af)},RG C aj->∀ x∈pY C aj,x∈C.names:=λ{C aj} h x L=>by
  unfold pY at L;rcases aR.mp L with L | L
  .rcases aR.mp L with L | L
   .exact aM _ (bQ.mp L).1
   .exact h.gc.os _ (bQ.mp L).1
  .obtain⟨p,S,rfl⟩:=bB.mp L;exact aM _ (h.m p S).2
 refine kN (λB=>∃ kv,(∀ x∈C.names,kW kv (Sum.inr x)=some (.str (fA x)))/\B=b++[.o (.k kv),.n,.n,.n,.n,.n,.n]) (λN O=>⟨C,q,rfl,X.gc.nd,by omega,by omega,λx L=>by have:=(X.az x L).hi;omega,λkv hv=>⟨.inl rfl,O _ ⟨kv,hv,rfl⟩⟩⟩) ?_;rintro _ ⟨Q,ak,rfl⟩;refine kN (λB=>∃ kv,(∀ x∈G.names,kW kv (Sum.inr x)=some (.str (lO d x)))/\B=b++[.o (.k Q),.o (.k kv),.n,.n,.n,.n,.n]) (λN O=>⟨G,u,d,rfl,Y.gc.nd,by omega,by omega,λx L=>by have:=(Y.az x L).hi;omega,pk.n2,by omega,ao,λkv hv=>⟨.inl rfl,O _ ⟨kv,hv,rfl⟩⟩⟩) ?_;rintro _ ⟨W,an,rfl⟩;refine kN (λB=>B=b++[.v (.k Q),.o (.k W),.o (.k (wS fA e1 q)),.n,.n,.n,.n]) (λN O=>⟨rfl,_,rfl,C,q,ag,Q,fA,e1,rfl,by omega,λp S=>⟨ak _ (aM _ (X.m p S).2),ay p S⟩,.inl rfl,O _ rfl⟩) ?_;rintro _ rfl;refine kN (λB=>B=b++[.v (.k Q),.v (.k W),.o (.k (Ca q u d e1 e2)),.n,.n,.n,.n]) (λN O=>⟨rfl,rfl,_,rfl,G,u,ah,W,lO d,e2,rfl,by omega,λp S=>⟨an _ (aM _ (Y.m p S).2),a0 p S⟩,.inl rfl,?_,O _ rfl⟩) ?_
 .have l1:(wS fA e1 q).length<=q.length:=O5;have l2:(wS (lO d) e2 u).length<=u.length:=O5;omega
 rintro _ rfl;refine kN (λB=>B=b++[.v (.k Q),.v (.k W),.o (.k (Ca q u d e1 e2)),.o (.k (lA (qP fA R C q))),.n,.n,.n]) (λN O=>⟨rfl,_,rfl,C,q,R,Q,fA,rfl,by omega,by omega,by omega,λx L=>ak x (wg X x L),.inl rfl,O _ rfl⟩) ?_;rintro _ rfl;refine kN (λB=>B=b++[.v (.k Q),.v (.k W),.o (.k (Ca q u d e1 e2)),.o (.k (lA (qP fA R C q))),.o (.k (lA (qP (lO d) V G u))),.n,.n]) (λN O=>⟨rfl,_,rfl,G,u,V,W,lO d,rfl,by omega,by omega,by omega,λx L=>an x (wg Y x L),.inl rfl,O _ rfl⟩) ?_;rintro _ rfl;let W1:=qP fA R C q;let M:=qP (lO d) V G u;have nM:(M.map (·.1)).Nodup:=Fw ..;have lW:W1.length<=301:=Q2 (by omega) (by omega) (by omega);have lM:M.length<=301:=Q2 (by omega) (by omega) (by omega);let st (t:mX) (c a:Sl):Aa Sl:=b++[.v (.k Q),.v (.k W),.o (.k (Ca q u d e1 e2)),.o (.k (lA t)),.v (.k (lA M)),c,a];refine kN (λB=>∃ c a,B=st (rG C G q u d R V) c a) (λN O=>?_) ?_
 .refine rY (M.map λp=>D.str p.1) (st W1 .n .n) (λΨ h=>?_) (λj B=>∃ c a,B=st (sX W1 (M.take j)) c a) ⟨.n,.n,rfl⟩ ?_ ?_
  .have e:(M.map λp=>D.str p.1)=Bv (lA M):=by unfold Bv lA;rw[List.map_map];rfl
   rw[e] at h;exact h
  .rintro j _ B he ⟨c,a,rfl⟩;obtain⟨p,S,rfl⟩:=vV he;have pm:=aI S;have vM:kW (lA M) (Sum.inr p.1)=some (.int p.2):=by
    rw[(vX M p.1).1 (cA pm),Qe nM pm]
   have l1:=Ij (M.take j) W1;have l2:(M.take j).length<=M.length:=by rw[dD];omega
   refine⟨rfl,_,rfl,?_⟩;rw[Gj];refine⟨rfl,_,cH some vM,rfl,_,Ko (by omega),.v (.str p.1),a,?_⟩;rw[Tj S];rfl
  .rintro B ⟨c,a,rfl⟩;rw[aA,fY];exact O _ ⟨c,a,rfl⟩
 rintro _ ⟨c,a,rfl⟩;have nW:((rG C G q u d R V).map (·.1)).Nodup:=Np _ _ (Fw ..);have lC:(rG C G q u d R V).length<=602:=by
  have:=Ij M W1;show (sX W1 M).length<=602;omega
 refine kN (λB=>∃ c a,B=st (rG C G q u d R V) c a) (λN O=>?_) ?_
 .refine rY (d.map λp:Af×Af=>D.t [.str p.1,.str p.2]) (st (rG C G q u d R V) c a) (λΨ h=>h) (λj B=>∃ c a,B=st (rG C G q u d R V) c a) ⟨c,a,rfl⟩ ?_ ?_
  .rintro j _ B he ⟨c,a,rfl⟩;obtain⟨p,S,rfl⟩:=vV he;have pm:=aI S;have ky:fA p.1∈(rG C G q u d R V).map (·.1):=M5 _ _ _ (Vz (aM _ (aT _ (pk.m p pm).1)));have vW:kW (lA (rG C G q u d R V)) (Sum.inr (fA p.1))=some (.int 0):=by rw[(vX _ _).1 ky,z0 p pm]
   have lq:=ao p pm;refine⟨rfl,rfl,rfl,by show 1+p.1.length<=100000;omega,_,cH some vW,?_⟩;exact⟨.v (.str p.2),.v (.str p.1),rfl⟩
  .rintro B ⟨c,a,rfl⟩;exact O _ ⟨c,a,rfl⟩
 rintro _ ⟨c,a,rfl⟩;unfold sT mG aC;dsimp only[vd,sd,st,b,List.cons_append,List.nil_append,List.getElem?_cons_succ,List.getElem?_cons_zero,List.set_cons_succ,List.set_cons_zero];unfold dC;refine sR (rG C G q u d R V) (λp:Af×Int=>D.t [.str p.1,.int p.2]) (λp=>D.t [.str p.1,.int p.2]) (λp=>!decide (p.2=0)) _ (λΨ h=>⟨_,rfl,h⟩) (by omega) (λi p ys Nx e hy X Y=>?_) ?_
 .refine⟨rfl,_,rfl,?_⟩;by_cases z:p.2=0
  .exact nL (by simp[nb,z]) (Y (by simp[z]))
  .exact oJ (by simp[nb,z]) ⟨hy,X (by simp[z])⟩
 have e0:qN (((rG C G q u d R V).filter λp=>!decide (p.2=0)).map λp=>D.t [.str p.1,.int p.2])=some (lA ((rG C G q u d R V).filter λp=>!decide (p.2=0))):=tZ (g:=λp:Af×Int=>((Sum.inr p.1:gV),D.int p.2)) (λp=>⟨.str p.1,rfl,rfl⟩) _;have lf:=bT (λp:Af×Int=>!decide (p.2=0)) (rG C G q u d R V);refine⟨_,e0,by unfold lA;rw[List.length_map];omega,by show 2<=1000;decide,?_⟩;rw[R8 (nW.sublist ((List.filter_sublist ..).map _))];exact ai
end
end Lw
namespace L2
open PySem PySem.Spec PyProof.Rows Lw
abbrev Cx.held (X:Cx) (g:Aa (Ad×Obj)):Cx:={ X with pn:=X.pn++g }
section
variable {X:Cx}
theorem Inv.hold (I:Inv X g j H s):Inv (X.held g) [] j H s:=by
 obtain⟨ok,q,t,u,v,w,x,y,z,A,a⟩:=I;obtain⟨B,D,E,F,G,K,L,M,N,b,c,d,e,f,h,i,k,m⟩:=ok;exact⟨⟨B,D,E,F,G,K,L,M,N,b,c,d,e,f,h,i,k,m⟩,q,t,u,v,w,x,y,λp n=>z p (by rw[cG] at n;exact n),A,a⟩
theorem Inv.unhold (ok:X.Ok) (I:Inv (X.held g) j l H s):Inv X g l H s:=by
 obtain⟨_,b,c,d,e,f,h,i,k,m,a⟩:=I;exact⟨ok,b,c,d,e,f,h,i,λp n=>k p (aM _ n),m,a⟩
end
def Ao (X:Cx) (g:XK):Ac->Ae->Prop:=λf d=>∃ (a:Aa (Ad×Obj)) (h:St) (e T:Ad) (C:Ac) (c:Ab Ad) (b:Hp),f = .ref e/\Inv X a h b d/\XAt d.heap e C c T .none/\b e=some (pS e C c)/\b T=some (pE T)/\g C c b
theorem Yn {X:Cx}:Bd (mJ X.prog X.w) (X.wish (Ao X g)) g:=by
 intro a i H s y t I h;obtain⟨e,T,C,q,f,rfl,d,n,un,c,x,v,u,m⟩:=h;have k:Inv (X.wish (Ao X g)) a i f t:=I.call' (ch:=[]) d un c n (λb z=>absurd z (by simp));exact⟨a,i,e,T,C,q,f,rfl,k.unwish,x,v,u,m⟩
def T0 (K:kM) (CE:Ad) (j l:Nat) (tB:XK->TS):TS:=λD f H=>∃ c:XK,tB c D f H /\
 ∀ C d b,c C d b->∀ a:St,a.length=f.length->∀ e T,b e=some (pS e C d)->b T=none->PySem.W.exmOne K C (.ref CE)=some true/\D.nx (((a.set j (some (.ref e))).set l (some (.ref e))).set j none) (upd b T (pE T))
section
variable {X:Cx}{CE:Ad}{tB:XK->TS}
theorem ES (hB:∀ (g:Aa (Ad×Obj)) (E1:XK),oC ((X.held g).wish (Ao (X.held g) E1)) body (tB E1))
  (af:Gl X cx) (ag:X.mg cx=some (.ref CE)) (hN:X.N.Nodup) (hj:X.N[j]?=some p) (hl:X.N[l]?=some ct) (le:X.env.scope.names.lookup p=some .local) (lc:X.env.scope.names.lookup ct=some .local)
  (J:X.stack=X.env::X.outer) (ae:X.env.frame=some X.env.locals) (hc:X.calm=true) (hex:X.ex=[])
  (aa:(cx == ("__debug__" : Af))=false:=by decide) (ab:(p == ("__debug__" : Af))=false:=by decide) (ac:(p == ("__classdict__" : Af))=false:=by decide)
  (ah:swapsWith (.Name p ep) (some (.Name ct tp)) U.line X.env=pure false:=by rfl) :
  PS X (.Try body [.ExceptHandler (some (.Name cx cp)) (some p) [.Assign [.Name ct tp] (.Name p ep) U] hp] [] [] pos) (T0 X.K CE j l tB):=by
 intro g s σ H D I h;obtain⟨E1,hb,O⟩:=h;refine wpAny_Try_except ?_;refine cT (hB g E1 [] s σ H D (I.hold.wish _) hb) (λL s1 z=>?_) λev E z=>?_
 .cases L with
  | next =>
   obtain⟨a,d,f,q⟩:=z;exact jJ ⟨a,d,f.unwish.unhold I.ok,q⟩
  | ret u =>
   obtain⟨v,a,d,f,r,q⟩:=z;exact⟨v,a,d,f.unwish.unhold I.ok,r,q⟩
  | brk =>
   obtain⟨a,d,f,q⟩:=z;exact⟨a,d,f.unwish.unhold I.ok,q⟩
  | cont =>
   obtain⟨a,d,f,q⟩:=z;exact⟨a,d,f.unwish.unhold I.ok,q⟩
 .obtain⟨ai,a,e,T,C,od,x,rfl,F,xa,te,tT,hE⟩:=z;have y:Inv X g a x E:=F.unhold I.ok;have l1:a.length=σ.length:=by rw[y.len,I.len]
  have frm:X.A.frames=some (X.env::X.outer):=by rw[<- J];exact y.ok.frames
  refine Mb (base:=X.base) frm (by rw[<- J];exact y.stack) ae xa λh3 t k x3 Z=>?_
  refine Ew x3 λM m x4=>?_
  have B:=eX Z;have kp:XKeep (tS X.stack) [e,T] E.heap M:=by
   rw[J];refine⟨λb o c Y n2=>?_,λb o c Y=>?_,λb o c=>?_⟩
   .exact m.keep b o (k.keep b o c Y n2) (λz=>by simp at z;subst z;rw[B] at c;cases c) (by simp)
   .obtain⟨y1,q1⟩:=k.slot b o c Y;exact⟨y1,m.keep b _ q1 (λz=>by simp at z;subst z;rw[B] at c;cases c) (by simp)⟩
   .obtain⟨o1,q1⟩:=k.there b o c;exact m.there b o1 q1
  have P:x t=none:=y.hok.fresh Z;have G:Inv X g a (upd x t (pE t)) { E with heap:=M }:=DD y kp te (λb z=>by
   rcases aK.mp z with z | z
   .exact .inl z
   .rw[aH.mp z];exact .inr tT) x4 Z
  obtain⟨hm,hD⟩:=O C od x hE a l1 e t te P;obtain⟨oe,ak,oT,ts,R,Q,_⟩:=id x4.ex;refine wpAny_handleBy_cons (codeAny_handlers_test (At (X:=X.marked e (notedBy (model X.prog X.w) (X.A.mark (some (.ref e))) X.env (cameBackBy (model X.prog X.w) X.A X.env X.xe))) (G.marked e _) af ag ?_ aa)) (by intro z;cases z);refine So G.kIn R Q hm ?_;refine codeAny_handlers_suite_as (Ew x4 λh5 W x5=>?_);have I5:=Xy (s:={ E with heap:=M }) G W lT;refine Gn (v:=V.ref e) I5 hN hj (Or.inl le) (show kR (V.ref e) (Value.ref e) from rfl) (λs6 I6=>?_) (.inr le);have S:j<a.length:=by rw[I5.len];exact (aV.mp hj).1
  have n:oC (X.marked e (λ_ _=>False)) [.Assign [.Name ct tp] (.Name p ep) U] (D5 (pP j) (xF l)):=qG (zD (X:=X.marked e (λ_ _=>False)) (i:=l) hN hl (Or.inl lc) (Qk (X:=X.marked e (λ_ _=>False)) hj (Or.inl le) ab ac) ah (.inr lc));refine cT (n g s6 _ _ { nx:=λaj H'=>aj=((a.set j (some (.ref e))).set l (some (.ref e)))/\H'=upd x t (pE t),rt:=λ_ _=>False } (I6.marked e (λ_ _=>False)) ⟨.ref e,by rw[gW S],rfl,rfl⟩) (λL s7 z=>?_) λ_ _ z=>z.elim
  cases L with
  | next =>
   obtain⟨an,H7,I7,rfl,rfl⟩:=z;exact Sc (I7.unmarked I.ok) hN hj le λs8 I8=>⟨_,_,I8,hD⟩
  | ret u=>obtain⟨_,_,_,_,_,z⟩:=z;exact z.elim
  | brk=>obtain⟨_,_,_,z⟩:=z;exact z.elim
  | cont=>obtain⟨_,_,_,z⟩:=z;exact z.elim
end
section
variable {X:Cx}{R:RX}
theorem Jh (F:FnOk X.prog X.w X.K X.mg X.base (mJ X.prog X.w) k f fd ps (rJ X.K R)) (hr:Room k X.A) (hg:Gl X x) (hm:X.mg x=some (.ref f)) (l:PySem.W.keepIn X.K (.ref f)=true) (hb:sW X.K fd ps [])
  (ha:rZ (X.wish (Ao X j)) (e::es) ta) (aa:(x == ("__debug__" : Af))=false:=by decide) (I:StB X e es pos:=by exact {})
  (g:swapsWith (.Call (.Name x p) (e::es) [] pos) none J.line X.env=pure false:=by rfl) :
  uX (X.wish (Ao X j)) j U (.Expr (.Call (.Name x p) (e::es) [] pos) J) (N5 U R ta) :=
 (B9 (zQ (X:=X.wish (Ao X j)) (E:=j) F hr hg hm l hb .nil Yn ha aa ⟨I.a,I.b⟩) g).mono λDn M H V=>V.elim λB ρ T De S hd Y G xl=>by
  refine⟨B,ρ,T,_,S,hd,Y,λas d vs N D ok d1 h=>?_⟩;cases y:sH d as with
  | none=>rw[y] at h;exact h.elim
  | some u =>
   rw[y] at h;obtain⟨_,q2,q3⟩:=d1.argsP D ok u y;have d2:=d1.rmArgs;rw[cG];have raised:∀ x,U x->∀ C t c,XP B.dk N x C t c->j C t c:=λx Z C t c m=>by
    refine xl x Z C t _ ⟨m.1,λb o O n=>m.2.1 b o (d2.fr b o O n) n,m.2.2.1,λi Q=>?_⟩;have:=m.2.2.2 i Q;cases P:B.H0 i with
    | none=>rfl
    | some o =>
     by_cases n:i∈B.dk
     .obtain⟨xs,q⟩:=d2.dk.some n;rw[q] at this;cases this
     .rw[d2.fr i o P n] at this;cases this
   by_cases L:wP as=true
   .exact⟨B.dk,_,u,_,U,d2.dk,λa z=>z.1,q3 L,h,λs v c g f l r=>(G.1 d M c D rfl ((d2.result f l r (.inl λa z=>z)).drop (L1:=[]))).1 g.2,raised⟩
   .exact⟨B.dk,_,u,_,U,d2.dk,λa z=>z.1,q2,h,λs v c g f l r=>(G.1 d M c D rfl ((d2.result f l r (.inr (g.1.resolve_left L))).drop (L1:=[]))).1 g.2,raised⟩
end
end L2
namespace L2
open PySem PySem.Spec Lw
theorem DS.first {K:kM}(N:Aa Af) (r:Reps K A H g j):(pM N g).length=(start N j).length/\DS K ⟨[],A,H⟩ ((pM N g).zip (start N j)++[]) H:=by
 have h:g.length=j.length:=r.length;refine⟨by unfold pM L2.start;rw[List.length_append,List.length_append,List.length_map,List.length_map,List.length_replicate,List.length_replicate,h],?_⟩;have i:(pM N g).zip (L2.start N j)=(g.zip j).map (λp=>(Sl.v p.1,some p.2))++List.replicate (N.length-g.length) (Sl.n,none):=by
  unfold pM L2.start;rw[<- h];exact E8 _ h
 have f:hH ((pM N g).zip (L2.start N j))=[]:=by
  rw[i];refine dR.mpr λa d=>?_
  obtain⟨q,c,e⟩:=rV.mp d;rcases aR.mp c with z | z
  .obtain⟨p,_,rfl⟩:=bB.mp z;cases e
  .rw[(eU.mp z).2] at e;cases e
 rw[cG];refine⟨λb o e _=>e,.inl rfl,by rw[f];exact bX,(λa d=>by rw[f] at d;exact absurd d bE),λq c=>?_⟩;rw[f];rw[i] at c;rcases aR.mp c with z | z
 .obtain⟨p,k,rfl⟩:=bB.mp z;exact⟨p.2,rfl,(F4 r p k).mono (.all λa d=>⟨bE,bE,.inl d⟩)⟩
 .rw[(eU.mp z).2];trivial
end L2
namespace Lw
open PySem L2
theorem R4:(["row"]:Aa Af).Nodup:=by decide +kernel
theorem Yo:(["name"]:Aa Af).Nodup:=by decide +kernel
def Hr (I r:Ad) (C j:Cel) (l p g:Aa (Af×Af)) (o:Ab Xc):Prop:=(∀ y,nZ (lQ C l) (lX j p) g=some y->o=some (Ak I y)) /\
 (nZ (lQ C l) (lX j p) g=none->¬ InB (jC C j g) (jP l p g)->o=some (yD r))/\(nZ (lQ C l) (lX j p) g=none->InB (jC C j g) (jP l p g)->o=none)
def Zc (x:Xc) (e:Ad) (H:Hp):Prop:=∃ a,H e=some (pS e (.ref x.1) (some a))/\H a=some (.xd x.2)
def Ie (K:kM) (j g:Ad):Sp:=λk H Q _=>∃ (A:Ad->Prop) (C d:Cel) (f h c:Aa (Af×Af)) (i:Bool) (o:Ab Xc),Reps K A H [hQ C f,hQ d h,.t (c.map λp=>D.t [.str p.1,.str p.2]),.b i] k/\RG C f/\RG d h/\(∀ p∈c,oK p.1/\oK p.2)/\c.length<=40/\Hr j g C d f h c o /\
 (o=none->∀ a,mF H a->Q .e a)/\∀ x,o=some x->∀ e a,Zc x e a->mF H a->Q (.ref e) a
theorem CS (C g:Cel) (j l o:Aa (Af×Af)) (x:Af):mB (rG C g j l o [] []) x=0:=by
 have go:∀ (f:Af->Af) (C:Cel) (a:Aa (Af×Af)) (y:Af),mB (qP f [] C a) y=0:=λf C a y=>by
  unfold qP;rw[Ia,Lr _ [] (λ_=>rfl) (λp b=>?_)]
  .exact ite_self 0
  .obtain⟨x,_,rfl⟩:=bB.mp b;rfl
 refine Pt _ _ (λy=>go _ _ _ y) (λp b=>?_) x;rw[<- Qe (Fw ..) b];exact go _ _ _ _
section
variable {P:Ah}{K:kM}{CE:Ad}
theorem Dw:FnScope ["one","other","pairs","by_claims","caught","claims","e"] ["one","other","pairs","by_claims"] (lB A5):=mT
theorem Yk (F:Fun K "_law_caught" "_law_caught" A5 f fd) (T:Txt mg) (aj:mg "CellError" = some (.ref CE)) (xN:PySem.W.exmOne K (.ref CN) (.ref CE)=some true) (xC:PySem.W.exmOne K (.ref CC) (.ref CE)=some true) (J:Gd K mg "rows_together" Bb ["one","other","pairs"] fT ah) (I:Gd K mg "claims_together" E2 ["one","other","pairs","claim_one","claim_other"] fC af) (U:Gd K mg "_law_carried" Bm ["row"] fL ag) (ab:FnOk P w K mg base (mJ P w) 5 fT ah ["one","other","pairs"] (rJ K (Gw CN CC))) (aa:FnOk P w K mg base (mJ P w) 6 fC af ["one","other","pairs","claim_one","claim_other"] (rJ K (Je CN CC))) (ac:FnOk P w K mg base lV 1 fL ag ["row"] (nC K xD)):FnOk P w K mg base lV 7 f fd ["one","other","pairs","by_claims"] (Ie K CN CC):=by
 refine F.ok (k:=6) Dw (λvs H Q E h=>?_) (λaq A ak s H vs Q E hr h=>?_)
 .obtain⟨_,_,_,_,_,_,_,_,r,_⟩:=h;rw[<- r.length];rfl
 .obtain⟨A1,C,R,L,M,S,bc,o,r,h1,h2,sm,lp,G,hn,hx⟩:=h;have hu:=sB hr;obtain⟨v0,v1,v2,v3,rfl⟩:∃ a b c d,vs=[a,b,c,d]:=by
   have:=r.length
   match vs,this with
   | [a,b,c,d],_=>exact⟨a,b,c,d,rfl⟩
  refine CY _ (zD (i:=4) Dw.nd rfl (Or.inl rfl) N6) ?_;have r5:Reps K A1 H [hQ C L,hQ R M,.t (S.map λp=>D.t [.str p.1,.str p.2]),.b bc,.e] [v0,v1,v2,v3,.e]:=by
   cases r with | cons a r=>cases r with | cons b r=>cases r with | cons c r=>cases r with | cons d r=>cases r;exact .cons a (.cons b (.cons c (.cons d (.cons .e .nil))))
  obtain⟨l0,d0⟩:=DS.first ["one","other","pairs","by_claims","caught","claims","e"] r5
  refine Cf (λσ Y=>∃ v4,σ[4]?=some (some v4)/\Q v4 Y) (λu Z=>?_) ?_
  .refine⟨_,ES (j:=6) (l:=4) (tB:=λE1=>Av K E1 (λx=>o=some x) _) (λao E1=>(rD (Aj (FM (pv 3)) (pJ (qJ (uG 5 ["row"] [] [] Dw.nd (lK (kZ (dK (dT 0) (dK (dT 1) eH)))) (λ_ _ _ _ _=>(kP 0 R4)) (λ_ _ _ _ _=>(kZ (dK (mQ (uM rfl) uQ T.dict cM (dK (mS ["name"] [] [] (lK (oR ac (hr.mono (by decide)) (by rfl) U.m U.k U.b (dK (dT 0) eH))) (λ_ _ _ _ _=>(kP 0 Yo)) (λ_ _ _ _ _=>(kZ (dK (dT 0) (dK Xq eH))))) eH)) (dK Ur eH)))))) (rD (Jh aa (hr.mono (by decide)) (by rfl) I.m I.k I.b (dK (dT 0) (dK (dT 1) (dK (dT 2) (dK (hI hu 5 gD) (dK (hI hu 5 gD) eH)))))))) (rD (Jh ab (hr.mono (by decide)) (by rfl) J.m J.k J.b (dK (dT 0) (dK (dT 1) (dK (dT 2) eH)))))))) (by rfl) aj Dw.nd rfl rfl rfl rfl rfl rfl rfl rfl,?_⟩;refine⟨λC od X=>∃ x,o=some x/\XP [] H x C od X,⟨⟨[],A1,H⟩,pM ["one","other","pairs","by_claims","caught","claims","e"] [hQ C L,hQ R M,.t (S.map λp=>D.t [.str p.1,.str p.2]),.b bc,.e],[],{ nx:=λρ=>ρ[4]?=some (.v .e)/\o=none,rt:=λ_=>False },l0,d0,?_,?_,λx hx C od X hp=>⟨x,hx,hp⟩⟩,?_⟩
   .have a1:=h1.lp;have a2:=h2.lp;cases bc with
    | false=>exact⟨rfl,false,rfl,C,L,R,M,S,rfl,h1,h2,sm,lp,λz y=>⟨.inl rfl,rfl,G.2.2 z y⟩,λz y=>G.2.1 z y,λy z=>G.1 y z⟩
    | true =>
     have kd:∀ {B:Aa (Af×Af)},(B.map (·.2)).Nodup->∀ p∈B,kW (oE [] (B.map λp:Af×Af=>((Sum.inr p.2:gV),D.e))) (Sum.inr p.2)=some .e:=λ{B} nd p hp=>by
      have ae:((B.map λp:Af×Af=>((Sum.inr p.2:gV),D.e)).map (·.1)).Nodup:=by
       have:((B.map (·.2)).map (Sum.inr:Af->gV)).Nodup:=gO _ (λx y h e=>h (dX e)) nd;rw[aP] at this |-;exact this
      rw[wK _ _ ae,yS,Option.or_none];clear nd ae;induction B with
      | nil=>cases hp
      | cons q B ih =>
       rw[aW,rO];by_cases z:q.2=p.2
       .rw[aU (by rw[z])]
       .rw[aL λy=>z (dX y)];rcases aK.mp hp with y | y
        .exact absurd (by rw[y]) z
        .exact ih y
     let cl (B:Aa (Af×Af)):D:=.t [.k (oE [] (B.map λp:Af×Af=>((Sum.inr p.2:gV),D.e))),.k []];refine⟨rfl,true,rfl,?_⟩;refine oJ rfl ?_;refine kN (λρ=>ρ=[.v (hQ C L),.v (hQ R M),.v (.t (S.map λp=>D.t [.str p.1,.str p.2])),.v (.b true),.v .e,.o (.l [cl L,cl M]),.n]) (λN hN=>?_) ?_
     .unfold nG;refine mM [(C,L),(R,M)] (λq:Cel×Aa (Af×Af)=>hQ q.1 q.2) (λq=>cl q.2) _ (λΨ h=>⟨by show 2<=1000;decide,h⟩) (by show 2<=100000;decide) (λi q ys Nx e g1 g2=>?_) (hN _ rfl);have lq:q.2.length<=100:=by
       rcases aK.mp (aI e) with rfl | z
       .show L.length<=100;omega
       .rw[aH.mp z];show M.length<=100;omega
      unfold gN mG aC dC;refine mM q.2 (λp:Af×Af=>D.str p.2) (λp=>.t [.str p.2,.e]) _ (λΨ h=>⟨q.1,q.2,rfl,lq,.inl rfl,h⟩) (by omega) (λi p zs Nz e' k1 k2=>⟨by show 2<=1000;decide,k1,k2⟩) ?_;have e0:qN (q.2.map λp:Af×Af=>D.t [.str p.2,.e])=some (q.2.map λp=>((Sum.inr p.2:gV),D.e)):=tZ (g:=λp:Af×Af=>((Sum.inr p.2:gV),D.e)) (λp=>⟨.str p.2,rfl,rfl⟩) _;exact⟨_,e0,by rw[aA];omega,by show 2<=1000;decide,g1,g2⟩
     rintro _ rfl;exact⟨rfl,_,rfl,rfl,_,rfl,C,L,R,M,S,_,_,λ_=>.e,λ_=>.e,[],[],rfl,h1,h2,sm,lp,kd h1.n2,kd h2.n2,λz y=>⟨λp _=>CS ..,.inl rfl,rfl,G.2.2 z y⟩,λz y=>G.2.1 z y,λy z=>G.1 y z⟩
   .refine⟨λan O X m1 m2 d=>⟨λ⟨e,V⟩=>Z _ _ ?_,λz=>z.elim,λz=>z.elim⟩,λr v an O X _ _ z=>z.elim⟩;obtain⟨v,hv,pk⟩:=d.peek m1 (d:=.e) (i:=4) (by unfold at?;rw[e];rfl);cases pk;exact⟨.e,hv,hn V X λb o e=>d.fr b o e bE⟩
   .rintro Cx od Y ⟨x,V,⟨⟨rfl,dd,rfl,ai⟩,frm,_,_⟩⟩ O hl e T' he nT;have s2:mF Y (upd Y T' (pE T')):=uP nT;refine⟨?_,Z _ _ ⟨.ref e,?_,hx x V e _ ⟨dd,s2 _ _ he,s2 _ _ ai⟩ (mF.trans (λb o e=>frm b o e bE) s2)⟩⟩
    .cases eb:nZ (lQ C L) (lX R M) S with
     | some y =>
      have:=(G.1 y eb).symm.trans V;cases this;exact xN
     | none =>
      by_cases ib:InB (jC C R S) (jP L M S)
      .have:=(G.2.2 eb ib).symm.trans V;cases this
      .have:=(G.2.1 eb ib).symm.trans V;cases this;exact xC
    .have l7:O.length=7:=hl
     match O,l7 with
     | [a0,a1,a2,a3,a4,a5,a6],_=>rfl
  rintro σ Y ⟨v4,e4,hq⟩;exact⟨_,qG (tJ (pv 4)),_,e4,hq⟩
end
theorem Gg {X:Cx}(K:kM) (g:X.K=K:=by rfl):nI X (.builtin "isinstance") (Ni K):=by subst g;exact EM
theorem Rp {X:Cx}(K:kM) (g:X.K=K:=by rfl):nI X (.builtin "isinstance") (F8 K):=by subst g;exact Qo
theorem Ld {X:Cx}(K:kM) (l:PE X e o) (j:attributeBase e f X.env (eval e X.env)=eval e X.env) (g:X.K=K:=by rfl):PE X (.Attribute e f pos) (O6 K o f):=by subst g;exact Z6 l j
structure XM (K:kM) (mg:Str->Option Value) (CN CC CA CL:Addr):Prop where
 mN:mg "NoName" = some (.ref CN)
 mC:mg "NoCell" = some (.ref CC)
 mA:mg "NoAsk" = some (.ref CA)
 mL:mg "NoClaim" = some (.ref CL)
 mV:mg "ValueError" = none
 mI:mg "isinstance" = none
 nN:PySem.W.kitOne K (.ref CN) (.ref CN)=some true
 nV:PySem.W.kitOne K (.ref CN) (.type "ValueError")=some true
 n3:PySem.W.kitAny K (.ref CN) [.ref CA,.ref CC,.ref CL]=some false
 cC:PySem.W.kitOne K (.ref CC) (.ref CC)=some true
 c3:PySem.W.kitAny K (.ref CC) [.ref CA,.ref CL,.ref CN]=some false
 xN:PySem.W.XFacts K CN
 xC:PySem.W.XFacts K CC
 aN:∃ N bm i,qQ K CN N bm i=true/\PySem.W.findIn K (.ref CN) "word" = some none
 aC:∃ N bm i,qQ K CC N bm i=true/\PySem.W.findIn K (.ref CC) "row" = some none
def Q5 (K:kM):Sp:=λh H Q _=>∃ (A:Ad->Prop) (C c:Cel) (d e a:Aa (Af×Af)) (y:Af),Reps K A H [hQ C d,hQ c e,.t (a.map λp=>D.t [.str p.1,.str p.2]),.str y] h/\RG C d/\RG c e/\(∀ p∈a,oK p.1/\oK p.2)/\a.length<=40/\nZ (lQ C d) (lX c e) a=some y /\
 ∀ f,mF H f->Q (.b true) f
section
variable {P:Ah}{K:kM}
theorem Fv:FnScope ["one","other","pairs","name","by_claims","caught"] ["one","other","pairs","name"] (lB Cj):=mT
theorem GF (F:Fun K "_law_name_right" "_law_name_right" Cj f fd) (M:XM K mg l o CA CL) (g:Gd K mg "_law_caught" A5 ["one","other","pairs","by_claims"] fC aa) (j:FnOk P w K mg base lV 7 fC aa ["one","other","pairs","by_claims"] (Ie K l o)):FnOk P w K mg base lV 8 f fd ["one","other","pairs","name"] (Q5 K):=by
 refine F.ok (k:=7) Fv (λvs H Q E h=>?_) (λai A ag s H vs Q E hr h=>?_)
 .obtain⟨_,_,_,_,_,_,_,r,_⟩:=h;rw[<- r.length];rfl
 .obtain⟨A1,C,U,p1,p2,ps,y,r,h1,h2,sm,lp,hb,hq⟩:=h;have hu:=sB hr;obtain⟨v0,v1,v2,v3,rfl⟩:∃ a b c d,vs=[a,b,c,d]:=by
   have:=r.length
   match vs,this with
   | [a,b,c,d],_=>exact⟨a,b,c,d,rfl⟩
  obtain rfl:v3 = .str y:=by
   cases r with | cons a r=>cases r with | cons b r=>cases r with | cons c r=>cases r with | cons d r=>exact Rep.str_inv d
  have ab:Hr l o C U p1 p2 ps (some (Ak l y)):=⟨λz hz=>(by rw[hb] at hz;cases hz;rfl),λz=>(by rw[hb] at z;cases z),λz=>(by rw[hb] at z;cases z)⟩;refine Cf (λR n=>mF H n) (λu ac=>?_) ?_
  .refine⟨_,Bc PassesOwn.never rfl (Rg (xP (mW sG (mW sG pW)))) (Dp (i:=4) Fv.nd rfl (Or.inl rfl)) (sP (zD (i:=5) Fv.nd rfl (Or.inl rfl) (zQ j hr rfl g.m g.k g.b .nil Ce (mW (pv 0) (mW (pv 1) (mW (pv 2) (mW (pv 4) pW)))))) (sP (wJ (PW.pt (C0 (Be (xG (wB (Gg K) (by rfl) M.mI eE (mW (pv 5) (mW (sF (v:=.ref l) (by rfl) M.mN rfl) pW))))) (C0 (Be (xG (wB (Gg K) (by rfl) M.mI eE (mW (pv 5) (mW (GG (v:=.ty "ValueError") (by rfl) M.mV (show bootBuiltins "ValueError" = some (.type "ValueError") by decide +kernel) rfl) pW))))) (F6 (zP By (Ld K (pv 5) rfl) (pv 3) (wV _)))))) (qG (tJ sG)) wX) (qG (wJ (xG (wB (Rp K) (by rfl) M.mI eE (mW (pv 5) (mW (xP (mW (sF (v:=.ref CA) (by rfl) M.mA rfl) (mW (sF (v:=.ref o) (by rfl) M.mC rfl) (mW (sF (v:=.ref CL) (by rfl) M.mL rfl) pW)))) pW)))) (qG (tJ sG)) wX)))),?_⟩;refine⟨by show 2<=sizeLine;decide,λT af=>⟨T,rfl,⟨_,.inl (.inl lT)⟩,?_⟩⟩;have ah:mF H (upd H T (.t [.b false,.b true])):=uP af;refine⟨λi m R n=>m=2-i/\i<=2/\mF H n/\n T=some (.t [.b false,.b true])/\∃ J L,R=[some v0,some v1,some v2,some (.str y),J,L],⟨_,rfl,fV _,ah,lT,none,none,rfl⟩,?_⟩;rintro i m R n ⟨rfl,hi,Y,I,J,L,rfl⟩;by_cases X:i<2
   .refine .inr ⟨⟨_,([V.b false,V.b true])[i],.inl (.inl I),aJ X⟩,λR S=>mF H S/\S T=some (.t [.b false,.b true])/\∃ J L,R=[some v0,some v1,some v2,some (.str y),J,L],λaj H' ⟨a1,a2,a3⟩=>⟨_,(by omega:2-(i+1)<2-i),rfl,X,a1,a2,a3⟩,?_⟩;rintro x H4 ⟨rfl,hx⟩;have hx:=hx _ (.inl (.inl I));obtain⟨O,rfl⟩:∃ O,x = .b O:=by
     have:=aI hx;simp only[aK,bE,kL] at this;rcases this with rfl | rfl
     .exact⟨_,rfl⟩
     .exact⟨_,rfl⟩
    have r2:Reps K A1 H4 [hQ C p1,hQ U p2,.t (ps.map λp=>D.t [.str p.1,.str p.2]),.b O] [v0,v1,v2,.b O]:=by
     have:=r.mono (.same Y λ_ z=>z);cases this with | cons a r=>cases r with | cons b r=>cases r with | cons c r=>exact .cons a (.cons b (.cons c (.cons (.b O) .nil)))
    refine⟨_,rfl,_,rfl,_,rfl,_,rfl,A1,C,U,p1,p2,ps,O,_,r2,h1,h2,sm,lp,ab,λz=>(by cases z),λx ae e S xo s3=>?_⟩;cases ae;obtain⟨W,Z,hd⟩:=id xo;obtain⟨N,bm,ii,xc,fr⟩:=M.aN;have B:∀ {n:Hp},mF S n->∀ q,some W=some q->∃ fs,n q=some (.xd fs):=λsm q z=>by cases z;exact⟨_,sm _ _ hd⟩
    refine⟨_,rfl,e,l,some W,.ref l,.ref l,true,rfl,.inl ⟨l,rfl,rfl⟩,Z,B (mF.refl _),M.xN,M.nN,_,rfl,sE ?_⟩;refine⟨_,rfl,e,l,some W,.ty "ValueError",.type "ValueError",true,rfl,.inr ⟨"ValueError",rfl,rfl⟩,Z,B (mF.refl _),M.xN,M.nV,_,rfl,sE ?_⟩;refine⟨_,rfl,e,l,N,W,bm,ii,_,.str y,rfl,Z,hd,rfl,M.xN,xc,fr,?_⟩;refine⟨_,rfl,rfl,_,rfl,nL (by simp) ?_⟩;refine⟨_,rfl,(by show 3<=sizeLine;decide),λtq G=>⟨e,l,tq,some W,[CA,o,CL],false,rfl,lT,uP G _ _ Z,B (uP G),M.xN,M.n3,?_⟩⟩;have L:mF H4 (upd S tq (.t [.ref CA,.ref o,.ref CL])):=mF.trans s3 (uP G);exact⟨_,rfl,sE ⟨mF.trans Y L,L _ _ I,_,_,rfl⟩⟩
   .have ei:i=2:=by omega
    subst ei;exact .inl ⟨⟨_,.inl (.inl I),bD _⟩,ac _ _ Y⟩
  rintro R n Y;exact⟨_,qG (tJ sG),hq _ Y⟩
end
end Lw
namespace L2
open PySem PySem.Spec PyProof.Rows
def M3 (K:kM):Aa V->Hp->VK->Prop:=λc H Q=>∃ (a:Ad) (as:Aa Ad) (b:Bool),c=[.e,.ref a]/\H a=some (.t (as.map V.ref))/\PySem.W.kitAny K (.type "NoneType") (as.map Value.ref)=some b/\Q (.b b) H
theorem Tk {X:Cx}:nI X (.builtin "isinstance") (M3 X.K):=by
 intro e s L H G E Q I r h;obtain⟨A,as,b,rfl,i,f,q⟩:=h;obtain⟨u,F,rfl,w,x⟩:=zR r;cases w;cases x;obtain⟨_,k,y,⟨o,a,c,n,d⟩,_⟩:=I.hok A _ i;obtain⟨B,m,t,v⟩:=o;simp only at c d;subst c d;rw[G7 y] at a;exact PySem.W.kia_tup PySem.W.kitx_none I.kIn trivial a f (λz=>nomatch z) λD=>⟨.b b,H,I.tok _,rfl,q⟩
theorem Xk {X:Cx}(K:kM) (j:X.K=K:=by rfl):nI X (.builtin "isinstance") (λg H Q=>F8 K g H Q\/M3 K g H Q):=by subst j;exact Qo.or Tk
end L2
namespace Lw
open PySem L2
theorem Kz:∀ (g:Aa (Af×Af)) (os is:Aa Af),PrsOk os is g->nZ os is g=none
 | [],_,_,_=>rfl
 | p::g,os,is,h=>by
  obtain⟨f,i⟩:=h.m p aO;obtain⟨b,c⟩:=bN.mp h.n1;obtain⟨d,e⟩:=bN.mp h.n2;rw[Bz,aU f,aU i];refine Kz g _ _ ⟨c,e,λq a=>⟨qZ.mpr ⟨(h.m q (aZ _ a)).1,λz=>?_⟩,qZ.mpr ⟨(h.m q (aZ _ a)).2,λz=>?_⟩⟩⟩
  .exact b (bB.mpr ⟨q,a,aH.mp z⟩)
  .exact d (bB.mpr ⟨q,a,aH.mp z⟩)
theorem vO (h:AZ x):oK x:=⟨λc a=>by have:=(h.az c a).2;show c<4294967296;omega,by have:=h.hi;omega⟩
theorem Rz {D:Cel}(I:RG C l) (J:RG D r) (T:∀ p∈j,p.2∈D.ins):Fits (jC C D j) (jP l r j)↔InB (jC C D j) (jP l r j):=by
 refine⟨λc=>⟨λx d=>(Xm I J T c x d).2.2,c.i,c.o,c.g,c.a⟩,λb=>⟨b.i,b.o,b.g,b.a,λx d=>?_,λd=>?_⟩⟩
 .have:=b.n x d;unfold qO at this;simp only[cK,dY] at this;omega
 .have:=b.n _ d;revert this;decide +kernel
def Jz (K:kM):Sp:=λh H Q _=>∃ (A:Ad->Prop) (C a:Cel) (c d e:Aa (Af×Af)),Reps K A H [hQ C c,hQ a d,.t (e.map λp=>D.t [.str p.1,.str p.2])] h/\RG C c/\RG a d/\PrsOk (lQ C c) (lX a d) e/\e.length<=40/\∀ f,mF H f->Q (.b true) f
section
variable {P:Ah}{K:kM}
theorem D7:FnScope ["one","other","pairs","great","by_claims","caught"] ["one","other","pairs"] (lB Es):=mT
theorem GD (F:Fun K "_law_great_right" "_law_great_right" Es f fd) (M:XM K mg T J U CL) (kn:PySem.W.kitAny K (.type "NoneType") [.ref U,.ref CL,.ref T]=some false) (j:Gd K mg "_law_great" Du ["one","other","pairs"] fG ah) (I:FnOk P w K mg base lV 2 fG ah ["one","other","pairs"] (nC K Lv)) (g:Gd K mg "_law_caught" A5 ["one","other","pairs","by_claims"] fC ag) (l:FnOk P w K mg base lV 7 fC ag ["one","other","pairs","by_claims"] (Ie K T J)):FnOk P w K mg base lV 8 f fd ["one","other","pairs"] (Jz K):=by
 refine F.ok (k:=7) D7 (λvs H Q E h=>?_) (λao A ak s H vs Q E hr h=>?_)
 .obtain⟨_,_,_,_,_,_,r,_⟩:=h;rw[<- r.length];rfl
 .obtain⟨A1,C,R,p1,p2,B,r,h1,h2,pk,lp,hq⟩:=h;have hu:=sB hr;obtain⟨v0,v1,v2,rfl⟩:∃ a b c,vs=[a,b,c]:=by
   have:=r.length
   match vs,this with
   | [a,b,c],_=>exact⟨a,b,c,rfl⟩
  have pin:∀ p∈B,p.2∈R.ins:=λp hp=>(bQ.mp (pk.m p hp).2).1
  have sm:∀ p∈B,oK p.1/\oK p.2:=λp hp=>⟨vO (h1.az _ (h1.gc.os _ (bQ.mp (pk.m p hp).1).1)),vO (h2.az _ (aM _ (pin p hp)))⟩
  have af:=Kz _ _ _ pk;have fi:=Rz h1 h2 pin;have oc:∃ (b:Bool) (o:Ab Xc),(b=true↔¬ Fits (jC C R B) (jP p1 p2 B))/\Hr T J C R p1 p2 B o/\(b=false/\o=none\/b=true/\o=some (yD J)):=by
   by_cases z:Fits (jC C R B) (jP p1 p2 B)
   .exact⟨false,none,⟨λh=>(by cases h),λh=>absurd z h⟩,⟨λy hy=>(by rw[af] at hy;cases hy),λ_ h=>absurd (fi.mp z) h,λ_ _=>rfl⟩,.inl ⟨rfl,rfl⟩⟩
   .exact⟨true,some (yD J),⟨λ_=>z,λ_=>rfl⟩,⟨λy hy=>(by rw[af] at hy;cases hy),λ_ _=>rfl,λ_ h=>absurd (fi.mpr h) z⟩,.inr ⟨rfl,rfl⟩⟩
  obtain⟨L,o,ac,ai,aa⟩:=oc;refine Cf (λO d=>mF H d/\O=[some v0,some v1,some v2,some (.b L),none,none]) (λu Y=>?_) ?_
  .refine⟨_,zD (i:=3) D7.nd rfl (Or.inl rfl) (zQ I (hr.mono (by decide)) rfl j.m j.k j.b .nil Ce (mW (pv 0) (mW (pv 1) (mW (pv 2) pW)))),?_⟩;refine⟨_,rfl,_,rfl,_,rfl,[],A1,_,λs=>s = .v (.b L),.inl rfl,λa _=>bE,r,⟨C,p1,R,p2,B,rfl,h1,h2,pk,lp,λb hb=>?_⟩,?_⟩
   .have:b=L:=by
     cases b<;>cases L<;>first | rfl | (exact absurd (hb.mp rfl) (λz=>by have:=ac.mpr z;cases this)) | (exact absurd (ac.mp rfl) (λz=>by have:=hb.mpr z;cases this))
    rw[this]
   .rintro _ v H' rfl fr _ rv;cases rv;exact Y _ _ ⟨λb o e=>fr b o e bE,rfl⟩
  rintro _ H1 ⟨s1,rfl⟩;refine Cf (λO d=>mF H d) (λu Y=>?_) ?_
  .refine⟨_,Bc PassesOwn.never rfl (Rg (xP (mW sG (mW sG pW)))) (Dp (i:=4) D7.nd rfl (Or.inl rfl)) (sP (zD (i:=5) D7.nd rfl (Or.inl rfl) (zQ l hr rfl g.m g.k g.b .nil Ce (mW (pv 0) (mW (pv 1) (mW (pv 2) (mW (pv 4) pW)))))) (sP (wJ (zP By (BE (FH (pv 5))) (pv 3) (wV _)) (qG (tJ sG)) wX) (sP (wJ (PW.pt (No (xG (pv 3)) (N7 (PW.pt (C0 (Be (xG (wB (Gg K) (by rfl) M.mI eE (mW (pv 5) (mW (sF (v:=.ref J) (by rfl) M.mC rfl) pW))))) (F6 (zP By (Ld K (pv 5) rfl) Fa (wV _)))))))) (qG (tJ sG)) wX) (qG (wJ (xG (wB (Xk K) (by rfl) M.mI eE (mW (pv 5) (mW (xP (mW (sF (v:=.ref U) (by rfl) M.mA rfl) (mW (sF (v:=.ref CL) (by rfl) M.mL rfl) (mW (sF (v:=.ref T) (by rfl) M.mN rfl) pW)))) pW)))) (qG (tJ sG)) wX))))),?_⟩;refine⟨by show 2<=sizeLine;decide,λtp aj=>⟨tp,rfl,⟨_,.inl (.inl lT)⟩,?_⟩⟩;have an:mF H (upd H1 tp (.t [.b false,.b true])):=mF.trans s1 (uP aj);refine⟨λi m O d=>m=2-i/\i<=2/\mF H d/\d tp=some (.t [.b false,.b true])/\∃ s4 s5,O=[some v0,some v1,some v2,some (.b L),s4,s5],⟨_,rfl,fV _,an,lT,none,none,rfl⟩,?_⟩;rintro i m O d ⟨rfl,hi,s2,ht,s4,s5,rfl⟩;by_cases ae:i<2
   .refine .inr ⟨⟨_,([V.b false,V.b true])[i],.inl (.inl ht),aJ ae⟩,λO S=>mF H S/\S tp=some (.t [.b false,.b true])/\∃ s4 s5,O=[some v0,some v1,some v2,some (.b L),s4,s5],λaq H' ⟨a1,a2,a3⟩=>⟨_,(by omega:2-(i+1)<2-i),rfl,ae,a1,a2,a3⟩,?_⟩;rintro x H4 ⟨rfl,hx⟩;have hx:=hx _ (.inl (.inl ht));obtain⟨Z,rfl⟩:∃ Z,x = .b Z:=by
     have:=aI hx;simp only[aK,bE,kL] at this;rcases this with rfl | rfl
     .exact⟨_,rfl⟩
     .exact⟨_,rfl⟩
    have r2:Reps K A1 H4 [hQ C p1,hQ R p2,.t (B.map λp=>D.t [.str p.1,.str p.2]),.b Z] [v0,v1,v2,.b Z]:=by
     have:=r.mono (.same s2 λ_ z=>z);cases this with | cons a r=>cases r with | cons b r=>cases r with | cons c r=>exact .cons a (.cons b (.cons c (.cons (.b Z) .nil)))
    refine⟨_,rfl,_,rfl,_,rfl,_,rfl,A1,C,R,p1,p2,B,Z,o,r2,h1,h2,sm,lp,ai,λz S s3=>?_,λx G e S xo s3=>?_⟩
    .obtain rfl:L=false:=by
      rcases aa with⟨q,_⟩ | ⟨_,q⟩
      .exact q
      .rw[q] at z;cases z
     refine⟨_,rfl,_,rfl,rfl,_,rfl,nL (by simp) ?_⟩;refine⟨_,rfl,_,rfl,nL rfl (sE ?_)⟩;refine⟨_,rfl,(by show 3<=sizeLine;decide),λtq n=>.inr ⟨tq,[U,CL,T],false,rfl,lT,kn,?_⟩⟩;have s6:mF H4 (upd S tq (.t [.ref U,.ref CL,.ref T])):=mF.trans s3 (uP n);exact⟨_,rfl,sE ⟨mF.trans s2 s6,s6 _ _ ht,_,_,rfl⟩⟩
    .obtain⟨rfl,rfl⟩:L=true/\x=yD J:=by
      rcases aa with⟨_,q⟩ | ⟨q1,q2⟩
      .rw[q] at G;cases G
      .rw[q2] at G;cases G;exact⟨q1,rfl⟩
     obtain⟨dd,he,hd⟩:=id xo;obtain⟨N,bm,ii,xc,fr⟩:=M.aC;have ab:∀ {d:Hp},mF S d->∀ X,some dd=some X->∃ fs,d X=some (.xd fs):=λsm X z=>by cases z;exact⟨_,sm _ _ hd⟩
     refine⟨_,rfl,_,rfl,rfl,_,rfl,nL (by simp) ?_⟩;refine⟨_,rfl,_,rfl,(aU rfl).mpr ?_⟩;refine⟨_,rfl,e,J,some dd,.ref J,.ref J,true,rfl,.inl ⟨J,rfl,rfl⟩,he,ab (mF.refl _),M.xC,M.cC,_,rfl,sE ?_⟩;refine⟨_,rfl,e,J,N,dd,bm,ii,_,.int 0,rfl,he,hd,rfl,M.xC,xc,fr,?_⟩;refine⟨rfl,_,rfl,nL (by simp) ?_⟩;refine⟨_,rfl,(by show 3<=sizeLine;decide),λtq n=>.inl ⟨e,J,tq,some dd,[U,CL,T],false,rfl,lT,uP n _ _ he,ab (uP n),M.xC,M.c3,?_⟩⟩;have s6:mF H4 (upd S tq (.t [.ref U,.ref CL,.ref T])):=mF.trans s3 (uP n);exact⟨_,rfl,sE ⟨mF.trans s2 s6,s6 _ _ ht,_,_,rfl⟩⟩
   .have ei:i=2:=by omega
    subst ei;exact .inl ⟨⟨_,.inl (.inl ht),bD _⟩,Y _ _ s2⟩
  rintro O d s2;exact⟨_,qG (tJ sG),hq _ s2⟩
end
theorem Md:∀ (g j:Aa (Af×Af)) (os is:Aa Af),PrsOk os is g->nZ os is (g++j)=nZ (mK os (g.map (·.1))) (mK is (g.map (·.2))) j
 | [],j,os,is,_=>by
  have d:∀ a:Aa Af,mK a []=a:=λa=>iC.mpr λ_ _=>rfl
  rw[gI,gI,d,d];rfl
 | p::g,j,os,is,h=>by
  obtain⟨s,t⟩:=h.m p aO;obtain⟨f,i⟩:=bN.mp h.n1;obtain⟨k,n⟩:=bN.mp h.n2;have e:∀ (a c:Aa Af) (x:Af),mK (mK a [x]) c=mK a (x::c):=λa c x=>by
   unfold mK;rw[iQ];refine hW λy _=>?_
   by_cases u:y=x<;>by_cases v:y∈c<;>simp[u,v]
  rw[cF,Bz,aU s,aU t,Md g j _ _ ⟨i,n,λq b=>⟨qZ.mpr ⟨(h.m q (aZ _ b)).1,λz=>?_⟩,qZ.mpr ⟨(h.m q (aZ _ b)).2,λz=>?_⟩⟩⟩,e,e]
  .rfl
  .exact f (bB.mpr ⟨q,b,aH.mp z⟩)
  .exact k (bB.mpr ⟨q,b,aH.mp z⟩)
def Ii (C j:Cel) (l o g:Aa (Af×Af)) (z a b y:Af):Prop:=(a∈C.names\/a=z)/\(b∈j.names\/b=z) /\
 (a∉mK (lQ C l) (g.map (·.1))/\y=a\/a∈mK (lQ C l) (g.map (·.1))/\b∉mK (lX j o) (g.map (·.2))/\y=b)
def qL (C:Cel) (j l:Aa (Af×Af)) (z:Af):Aa Af:=C.ins++[z]++(j++l).map (·.1)++((C.gates.map (·.1)).filter λg=>!decide (g∈C.outs))
def rQ (g:Cel) (j l:Aa (Af×Af)) (z:Af):Aa Af:=g.gates.map (·.1)++[z]++(j++l).map (·.2)
def tU (C:Cel) (g j:Aa (Af×Af)):Aa Af:=C.outs.filter λx=>!decide (x∈(g++j).map (·.1))
theorem Td (g:RG C j) (I:∀ o∈C.outs,o∈C.gates.map (·.1)) (r:z∉C.names) (J:∀ p∈l,p.1∈lQ C j) (h:a∈qL C j l z):(a∈C.names\/a=z)/\a∉mK (lQ C j) (l.map (·.1)):=by
 have sub:∀ {x},x∈mK (lQ C j) (l.map (·.1))->x∈C.outs/\x∉j.map (·.1)/\x∉l.map (·.1):=λe=>by
  obtain⟨c,d⟩:=qZ.mp e;obtain⟨f,i⟩:=bQ.mp c;exact⟨f,by simpa using i,d⟩
 unfold qL at h;rcases aR.mp h with h | h
 .rcases aR.mp h with h | h
  .rcases aR.mp h with h | h
   .refine⟨.inl (aM _ h),λq=>?_⟩;exact (bS.mp g.gc.nd).2.2 _ h _ (I _ (sub q).1) rfl
   .rw[aH.mp h];exact⟨.inr rfl,λq=>r (g.gc.os _ (sub q).1)⟩
  .rw[aG] at h;rcases aR.mp h with h | h
   .refine⟨.inl ?_,λq=>(sub q).2.1 h⟩;obtain⟨p,b,rfl⟩:=bB.mp h;exact g.gc.os _ (g.m p b).1
   .refine⟨.inl ?_,λq=>(sub q).2.2 h⟩;obtain⟨p,b,rfl⟩:=bB.mp h;exact g.gc.os _ (bQ.mp (J p b)).1
 .obtain⟨c,d⟩:=bQ.mp h;exact⟨.inl (aT _ c),λq=>by have:=(sub q).1;simp[this] at d⟩
theorem X0 (o:RG g j) (r:z∉g.names) (C:∀ p∈l,p.2∈lX g j) (h:b∈rQ g j l z):(b∈g.names\/b=z)/\b∉mK (lX g j) (l.map (·.2)):=by
 have sub:∀ {x},x∈mK (lX g j) (l.map (·.2))->x∈g.ins/\x∉j.map (·.2)/\x∉l.map (·.2):=λc=>by
  obtain⟨d,e⟩:=qZ.mp c;obtain⟨f,i⟩:=bQ.mp d;exact⟨f,by simpa using i,e⟩
 unfold rQ at h;rcases aR.mp h with h | h
 .rcases aR.mp h with h | h
  .exact⟨.inl (aT _ h),λq=>(bS.mp o.gc.nd).2.2 _ (sub q).1 _ h rfl⟩
  .rw[aH.mp h];exact⟨.inr rfl,λq=>r (aM _ (sub q).1)⟩
 .rw[aG] at h;rcases aR.mp h with h | h
  .refine⟨.inl ?_,λq=>(sub q).2.1 h⟩;obtain⟨p,a,rfl⟩:=bB.mp h;exact aM _ (o.m p a).2
  .refine⟨.inl ?_,λq=>(sub q).2.2 h⟩;obtain⟨p,a,rfl⟩:=bB.mp h;exact aM _ (bQ.mp (C p a)).1
theorem Z3 (C:Cel) (g j:Aa (Af×Af)):tU C g j=mK (lQ C g) (j.map (·.1)):=by
 unfold tU mK lQ;rw[iQ];refine hW λy _=>?_
 rw[aG];by_cases a:y∈g.map (·.1)<;>by_cases b:y∈j.map (·.1)<;>simp[a,b]
theorem Pz (p:PrsOk (lQ C j) (lX g l) o) (h:Ii C g j l o z a b y) (r:Aa (Af×Af)):nZ (lQ C j) (lX g l) (o++(a,b)::r)=some y:=by
 rw[Md _ _ _ _ p,Bz];obtain⟨_,_,⟨c,rfl⟩ | ⟨c,d,rfl⟩⟩:=h
 .rw[aL c]
 .rw[aU c,aL d]
theorem G9:(["pair"]:Aa Af).Nodup:=by decide +kernel
theorem Z7:(["gate","one"]:Aa Af).Nodup:=by decide +kernel
theorem AC:(["gate"]:Aa Af).Nodup:=by decide +kernel
theorem W9:(["name","one","pairs"]:Aa Af).Nodup:=by decide +kernel
def Rc:RD:=λn k m=>∃ (e:Aa Int) (C:Cel) (f:Aa (Af×Af)) (d:Cel) (h i:Aa (Af×Af)),k=[.c (e.map D.int),hQ C f,hQ d h,.t (i.map λp:Af×Af=>D.t [.str p.1,.str p.2])]/\e.length<=63/\RG C f/\RG d h/\PrsOk (lQ C f) (lX d h) i/\i.length<=40/\(∀ o∈C.outs,o∈C.gates.map (·.1))/\lR e 20∉C.names/\lR e 20∉d.names /\
 ∀ a b y,Ii C d f h i (lR e 20) a b y->m (.v (.t [.t [.str a,.str b],.str y]))
section
variable {P:Ah}{K:kM}
theorem uO:FnScope ["script","one","other","pairs","draw","strange","outputs","inputs","left","bad"] ["script","one","other","pairs"] (lB Cu):=mT
theorem FN (F:Fun K "_law_bad_pair" "_law_bad_pair" Cu f fd) (T:Txt mg) (r:Gd K mg "_law_draw" uE ["script","k"] fD ae) (I:Gd K mg "_law_word" xI ["script","i"] fW af) (J:FnOk P w K mg base lV 1 fD ae ["script","k"] (nC K wT)) (U:FnOk P w K mg base lV 2 fW af ["script","i"] (nC K Bj)):FnOk P w K mg base lV 3 f fd ["script","one","other","pairs"] (nC K Rc):=by
 refine F.okD (k:=2) uO (λdk ds Φ ⟨_,_,_,_,_,_,e,_⟩=>by rw[e];rfl) (by decide) λah A ag s H E dk ds Φ hr hR=>?_
 have B:=sB hr;obtain⟨O,C,u,M,Q,d,rfl,ln,h1,h2,pk,lp,og,z1,z2,aa⟩:=hR;have a1:=h1.gc.li;have a2:=h1.gc.lg;have a3:=h1.gc.lo;have c1:=h2.gc.li;have c2:=h2.gc.lg;have c3:=h2.gc.lo;have q1:=h1.lp;have q2:=h2.lp;refine⟨_,(kQ (kU 4 uO.nd (oR J (hr.mono (by decide)) (by rfl) r.m r.k r.b (dK (dT 0) (dK gD eH)))) (kQ (kU 5 uO.nd (oR U (hr.mono (by decide)) (by rfl) I.m I.k I.b (dK (dT 0) (dK gD eH)))) (kQ (kU 6 uO.nd (kS lE lD (kS lE lD (mQ vY wN T.list dH (dK (lY B (hI B 1 gD) gD) eH)) (rB (dK (dT 5) eH))) (mS ["pair"] [] [] (lK (kS lE lD (hI B 1 gD) (dT 3))) (λ_ _ _ _ _=>(kP 0 G9)) (λ_ _ _ _ _=>(hI B 0 gD))))) (kQ (kU 6 uO.nd (mP lE lD 6 (mS ["gate"] ["one"] [1] (lK (lY B (hI B 1 gD) gD)) (λ_ _ _ _ _=>(kP 0 Z7)) (λ_ _ _ _ _=>(hI B 0 gD)) (ht:=λ_ _ _ _ _=>(tK (qW (sI B) (rR true) (hI B 0 gD) (lY B (hI B 1 gD) gD))))))) (kQ (kU 7 uO.nd (kS lE lD (mS ["gate"] [] [] (lK (lY B (hI B 2 gD) gD)) (λ_ _ _ _ _=>(kP 0 AC)) (λ_ _ _ _ _=>(hI B 0 gD))) (rB (dK (dT 5) eH)))) (kQ (kU 7 uO.nd (mP lE lD 7 (mS ["pair"] [] [] (lK (kS lE lD (hI B 2 gD) (dT 3))) (λ_ _ _ _ _=>(kP 0 G9)) (λ_ _ _ _ _=>(hI B 0 gD))))) (kQ (uG 8 ["name"] ["one","pairs"] [1,3] uO.nd (lK (lY B (hI B 1 gD) gD)) (λ_ _ _ _ _=>(kP 0 W9)) (λ_ _ _ _ _=>(dT 0)) (ht:=λ_ _ _ _ _=>(tK (uC (sI B) (rR true) (pv 0) (mS ["pair"] [] [] (lK (kS lE lD (hI B 1 gD) (dT 2))) (λ_ _ _ _ _=>(kP 0 G9)) (λ_ _ _ _ _=>(hI B 0 gD))))))) (kQ (qV (wF (Cc (qW (Mj hr.units) (Ee false) (mP nE nD 4 gD) gD) (B1 (uC (Mj hr.units) (Ee false) (pv 8) (rB eH))))) (kQ (kU 9 uO.nd (hI B 6 (kS nE nD (mP vE uU 4 gD) (oP pK pI T.len cB (dK (dT 6) eH))))) (lH (mO (kZ (dK (kZ (dK (dT 9) (dK (dT 5) eH))) (dK (dT 9) eH)))))) pC) (kQ (kU 9 uO.nd (hI B 7 (kS nE nD (mP vE uU 4 gD) (oP pK pI T.len cB (dK (dT 7) eH))))) (lH (mO (kZ (dK (kZ (dK (hI B 8 gD) (dK (dT 9) eH))) (dK (dT 9) eH)))))))))))))),?_⟩;let b:Aa Sl:=[.v (.c (O.map D.int)),.v (hQ C u),.v (hQ M Q),.v (.t (d.map λp:Af×Af=>D.t [.str p.1,.str p.2]))];let z:=lR O 20;refine kN (λL=>L=b++[.v (.int (kO O 210)),.n,.n,.n,.n,.n]) (λN G=>⟨O,210,rfl,ln,by decide,.inl rfl,G _ rfl⟩) ?_;rintro _ rfl;refine kN (λL=>L=b++[.v (.int (kO O 210)),.v (.str z),.n,.n,.n,.n]) (λN G=>⟨O,20,rfl,ln,by decide,.inl rfl,G _ rfl⟩) ?_;rintro _ rfl;let st (s6 s7 s8 s9:Sl):Aa Sl:=b++[.v (.int (kO O 210)),.v (.str z),s6,s7,s8,s9];let Z:Aa Af:=C.ins++[z]++(u++d).map (·.1);refine kN (λL=>L=b++[.v (.int (kO O 210)),.v (.str z),.o (.l (Z.map D.str)),.n,.n,.n]) (λN G=>?_) ?_
 .unfold nG d2;refine⟨rfl,_,rfl,_,rfl,_,rfl,?_⟩;refine⟨by show 1<=1000;decide,by show (C.ins.map D.str).length+1<=100000;rw[aA];omega,?_⟩;refine mM (u++d) (λp:Af×Af=>D.t [.str p.1,.str p.2]) (λp=>D.str p.1) (st .n .n .n .n) (λΨ h=>⟨rfl,_,rfl,?_,?_⟩) (by rw[aD];omega) (λi p ys Nx e S V=>⟨rfl,_,rfl,S,V⟩) ?_
  .rw[aA,aA];omega
  .rw[<- aG];exact h
  refine⟨?_,G _ ?_⟩
  .simp only[aD,aA,cQ,cS];omega
  .show b++[_,_,.o (.l (C.ins.map D.str++[D.str z]++(u++d).map λp=>D.str p.1)),_,_,_]=_;simp only[Z,aG,aP];rfl
 rintro _ rfl;refine kN (λL=>L=b++[.v (.int (kO O 210)),.v (.str z),.o (.l ((qL C u d z).map D.str)),.n,.n,.n]) (λN G=>?_) ?_
 .unfold nG wZ;refine⟨rfl,?_⟩;refine sR C.gates lP (λg=>.str g.1) (λg=>!decide (g.1∈C.outs)) (st (.o (.l (Z.map D.str))) .n .n .n) (λΨ h=>⟨rfl,_,rfl,_,rfl,h⟩) (by omega) (λi g ys Nx e hy S V=>?_) ?_
  .refine⟨rfl,_,rfl,rfl,_,rfl,_,rfl,_,_,rfl,rX _,?_⟩;rw[qR];by_cases y:g.1∈C.outs
   .exact nL (by simp[nb,y]) (V (by simp[y]))
   .exact oJ (by simp[nb,y]) ⟨rfl,_,rfl,hy,S (by simp[y])⟩
  refine⟨?_,G _ ?_⟩
  .simp only[Z,aD,aA,cQ,cS];exact bU (iB (bT _ _) _) (by omega)
  .show b++[_,_,.o (.l (Z.map D.str++(C.gates.filter λg=>!decide (g.1∈C.outs)).map λg=>D.str g.1)),_,_,_]=_;have e:(qL C u d z).map D.str=Z.map D.str++(C.gates.filter λg=>!decide (g.1∈C.outs)).map λg=>D.str g.1:=by
    show (Z++_).map D.str=_;rw[aG,kH,aP];rfl
   rw[e]
 rintro _ rfl;let Y:Aa Af:=M.gates.map (·.1)++[z];refine kN (λL=>L=st (.o (.l ((qL C u d z).map D.str))) (.o (.l (Y.map D.str))) .n .n) (λN G=>?_) ?_
 .unfold nG d2;refine mM M.gates lP (λg=>.str g.1) (st (.o (.l ((qL C u d z).map D.str))) .n .n .n) (λΨ h=>⟨rfl,_,rfl,_,rfl,h⟩) (by omega) (λi g ys Nx e S V=>⟨rfl,_,rfl,S,V⟩) ?_;refine⟨by show 1<=1000;decide,by show (M.gates.map λg=>D.str g.1).length+1<=100000;rw[aA];omega,G _ ?_⟩;show b++[_,_,_,.o (.l ((M.gates.map λg=>D.str g.1)++[D.str z])),_,_]=_;simp only[st,Y,aG,aP];rfl
 rintro _ rfl;refine kN (λL=>L=st (.o (.l ((qL C u d z).map D.str))) (.o (.l ((rQ M Q d z).map D.str))) .n .n) (λN G=>?_) ?_
 .unfold nG wZ;refine⟨rfl,?_⟩;refine mM (Q++d) (λp:Af×Af=>D.t [.str p.1,.str p.2]) (λp=>D.str p.2) (st (.o (.l ((qL C u d z).map D.str))) (.o (.l (Y.map D.str))) .n .n) (λΨ h=>⟨rfl,_,rfl,?_,?_⟩) (by rw[aD];omega) (λi p ys Nx e S V=>⟨rfl,_,rfl,S,V⟩) ?_
  .rw[aA,aA];omega
  .rw[<- aG];exact h
  refine⟨?_,G _ ?_⟩
  .simp only[Y,aD,aA,cQ,cS];omega
  .show b++[_,_,_,.o (.l (Y.map D.str++(Q++d).map λp=>D.str p.2)),_,_]=_;have e:(rQ M Q d z).map D.str=Y.map D.str++(Q++d).map λp=>D.str p.2:=by
    show (Y++_).map D.str=_;rw[aG,aP];rfl
   show _=st _ (.o (.l ((rQ M Q d z).map D.str))) _ _;rw[e]
 rintro _ rfl;refine kN (λL=>L=st (.o (.l ((qL C u d z).map D.str))) (.o (.l ((rQ M Q d z).map D.str))) (.o (.l ((tU C u d).map D.str))) .n) (λN G=>?_) ?_
 .unfold nG;refine sR C.outs D.str D.str (λx=>!decide (x∈(u++d).map (·.1))) (st (.o (.l ((qL C u d z).map D.str))) (.o (.l ((rQ M Q d z).map D.str))) .n .n) (λΨ h=>⟨rfl,_,rfl,_,rfl,h⟩) (by omega) (λi x ys Nx e hy S V=>?_) (G _ rfl);unfold gN yR wZ;refine⟨rfl,?_⟩;refine mM (u++d) (λp:Af×Af=>D.t [.str p.1,.str p.2]) (λp=>D.str p.1) [.v (.str x),.v (hQ C u),.v (.t (d.map λp:Af×Af=>D.t [.str p.1,.str p.2]))] (λΨ h=>⟨rfl,_,rfl,?_,?_⟩) (by rw[aD];omega) (λi p ys Nx e S V=>⟨rfl,_,rfl,S,V⟩) ?_
  .rw[aA,aA];omega
  .rw[<- aG];exact h
  have em:((u++d).map λp=>D.str p.1)=((u++d).map (·.1)).map D.str:=by rw[aP];rfl
  refine⟨_,_,rfl,(by rw[em];exact rX _),?_⟩;rw[qR];by_cases y:x∈(u++d).map (·.1)
  .exact nL (by simp only[nb,aX y];rfl) (V (by rw[aX y];rfl))
  .exact oJ (by simp only[nb,aQ y];rfl) ⟨hy,S (by rw[aQ y];rfl)⟩
 rintro _ rfl;have W:∀ (R:Aa Af),R≠[]->∃ a∈R,nO (R.map D.str) ((kO O 210:Int)/2%((R.map D.str).length:Int))=some (.str a):=λR hx=>by
  have hp:0<R.length:=eM.mpr hx;have hk:kO O 210/2%R.length<R.length:=dB _ hp;refine⟨R[kO O 210/2%R.length],eT hk,?_⟩;rw[aA,show (kO O 210:Int)/2%(R.length:Int)=((kO O 210/2%R.length:Nat):Int) by rw[Int.natCast_emod,Int.natCast_ediv];rfl];exact qC (by rw[bH,aJ hk];rfl)
 have ab:∀ p∈d,p.1∈lQ C u:=λp hp=>(pk.m p hp).1
 have ac:∀ p∈d,p.2∈lX M Q:=λp hp=>(pk.m p hp).2
 refine kN (λL=>L=st (.o (.l ((qL C u d z).map D.str))) (.o (.l ((rQ M Q d z).map D.str))) (.o (.l ((tU C u d).map D.str))) .n/\tU C u d≠[]) (λN G=>?_) ?_
 .refine C4 (decide ((kO O 210:Int)%2=1)) ((tU C u d).map D.str).isEmpty (λΨ h=>?_) (λΨ h=>?_) ?_
  .exact⟨rfl,by show (0:Int)<2;decide,h⟩
  .exact⟨rfl,by decide,h⟩
  .have one:qL C u d z≠[]:=λq=>by have:z∈qL C u d z:=(by unfold qL;simp);rw[q] at this;cases this
   cases X:(decide ((kO O 210:Int)%2=1)||((tU C u d).map D.str).isEmpty) with
   | true =>
    refine oJ rfl ?_;obtain⟨a,ha,ea⟩:=W _ one;obtain⟨b1,b2⟩:=Td h1 og z1 ab ha;refine kN (λL=>L=st (.v (.l ((qL C u d z).map D.str))) (.o (.l ((rQ M Q d z).map D.str))) (.o (.l ((tU C u d).map D.str))) (.v (.str a))) (λN G=>⟨rfl,rfl,by show (0:Int)<2/\(2:Int)<2 ^ 64;decide,rfl,_,rfl,?_,_,ea,G _ rfl⟩) ?_
    .show (0:Int)<(((qL C u d z).map D.str).length:Int);rw[aA];have:=eM.mpr one;omega
    rintro _ rfl;exact⟨by show 2<=1000;decide,by show 2<=1000;decide,aa a z a ⟨b1,.inr rfl,.inl ⟨b2,rfl⟩⟩⟩
   | false =>
    refine nL rfl (G _ ⟨rfl,λq=>?_⟩);rw[q] at X;simp at X
 rintro _ ⟨rfl,ne⟩;have one:rQ M Q d z≠[]:=λq=>by have:z∈rQ M Q d z:=(by unfold rQ;simp);rw[q] at this;cases this
 obtain⟨y,hy,ey⟩:=W _ one;obtain⟨b1,b2⟩:=X0 h2 z2 ac hy;obtain⟨a,ll,el⟩:∃ a ll,tU C u d=a::ll:=by
  cases e:tU C u d with
  | nil=>exact absurd e ne
  | cons a ll=>exact⟨a,ll,rfl⟩
 have am:a∈mK (lQ C u) (d.map (·.1)):=by rw[<- Z3,el];exact aO
 refine kN (λL=>L=st (.o (.l ((qL C u d z).map D.str))) (.v (.l ((rQ M Q d z).map D.str))) (.o (.l ((tU C u d).map D.str))) (.v (.str y))) (λN G=>⟨rfl,rfl,by show (0:Int)<2/\(2:Int)<2 ^ 64;decide,rfl,_,rfl,?_,_,ey,G _ rfl⟩) ?_
 .show (0:Int)<(((rQ M Q d z).map D.str).length:Int);rw[aA];have:=eM.mpr one;omega
 rintro _ rfl;refine⟨rfl,.str a,by rw[el];exact qC (j:=0) rfl,by show 2<=1000;decide,by show 2<=1000;decide,aa a y y ⟨.inl ?_,b1,.inr ⟨am,b2,rfl⟩⟩⟩;exact h1.gc.os _ (bQ.mp (qZ.mp am).1).1
end
end Lw
namespace L2
open PySem PySem.Spec PyProof.Rows
theorem AB:swapsWith (.Tuple o n p) (some (.Name x j)) l g=pure false:=rfl
section
variable {X:Cx}
theorem U3:PD X (.Tuple [.Tuple [.Tuple [.Constant (.str t4) j4 q4,.Constant (.str t5) j5 q5] x3 p3,.Tuple [.Tuple [.Constant (.str t8) j8 q8,.Constant (.str t9) j9 q9,.Tuple [.Constant (.str g) o T,.Constant (.str j) p U] ab C] x7 p7] x6 p6,.Tuple [.Constant (.str l) r aa] ac I] x2 p2,.Tuple [] ae J] x1 p1) (mG (aC (mG (aC (mG (aC (cd (.str t4)) (aC (cd (.str t5)) mH))) (aC (mG (aC (mG (aC (cd (.str t8)) (aC (cd (.str t9)) (aC (mG (aC (cd (.str g)) (aC (cd (.str j)) mH))) mH)))) mH)) (aC (mG (aC (cd (.str l)) mH)) mH)))) (aC (mG mH) mH))) :=
 (@kZ _ _ _ _ _ (@dK _ _ _ _ _ (@kZ _ _ _ _ _ (@dK _ _ _ _ _ (@kZ _ _ _ _ _ (@dK _ _ _ _ _ (@nF _ _ _ _) (@dK _ _ _ _ _ (@nF _ _ _ _) (@eH _) rfl) rfl)) (@dK _ _ _ _ _ (@kZ _ _ _ _ _ (@dK _ _ _ _ _ (@kZ _ _ _ _ _ (@dK _ _ _ _ _ (@nF _ _ _ _) (@dK _ _ _ _ _ (@nF _ _ _ _) (@dK _ _ _ _ _ (@kZ _ _ _ _ _ (@dK _ _ _ _ _ (@nF _ _ _ _) (@dK _ _ _ _ _ (@nF _ _ _ _) (@eH _) rfl) rfl)) (@eH _) rfl) rfl) rfl)) (@eH _) rfl)) (@dK _ _ _ _ _ (@kZ _ _ _ _ _ (@dK _ _ _ _ _ (@nF _ _ _ _) (@eH _) rfl)) (@eH _) rfl) rfl) rfl)) (@dK _ _ _ _ _ (@kZ _ _ _ _ _ (@eH _)) (@eH _) rfl) rfl))
theorem Zq {i:Nat}{x:Af}{p' pos:Pos}{rest:Aa Stmt}{C:nQ->Prop}(hN:X.N.Nodup) (hi:X.N[i]?=some x) (hx:rT X.env.scope x) (hf:X.fn x=true)
  (k:∃ u,oM X rest u/\C (uD (nG i (mG (aC (mG (aC (mG (aC (cd (.str t4)) (aC (cd (.str t5)) mH))) (aC (mG (aC (mG (aC (cd (.str t8)) (aC (cd (.str t9)) (aC (mG (aC (cd (.str g)) (aC (cd (.str j)) mH))) mH)))) mH)) (aC (mG (aC (cd (.str l)) mH)) mH)))) (aC (mG mH) mH)))) u)):∃ u,oM X (.Assign [.Name x p'] (.Tuple [.Tuple [.Tuple [.Constant (.str t4) j4 q4,.Constant (.str t5) j5 q5] x3 p3,.Tuple [.Tuple [.Constant (.str t8) j8 q8,.Constant (.str t9) j9 q9,.Tuple [.Constant (.str g) o U,.Constant (.str j) p aa] ac I] x7 p7] x6 p6,.Tuple [.Constant (.str l) r ab] ae J] x2 p2,.Tuple [] af T] x1 p1) pos::rest) u/\C u:=by
 have a:PD X (.Tuple [.Tuple [.Tuple [.Constant (.str t4) j4 q4,.Constant (.str t5) j5 q5] x3 p3,.Tuple [.Tuple [.Constant (.str t8) j8 q8,.Constant (.str t9) j9 q9,.Tuple [.Constant (.str g) o U,.Constant (.str j) p aa] ac I] x7 p7] x6 p6,.Tuple [.Constant (.str l) r ab] ae J] x2 p2,.Tuple [] af T] x1 p1) (mG (aC (mG (aC (mG (aC (cd (.str t4)) (aC (cd (.str t5)) mH))) (aC (mG (aC (mG (aC (cd (.str t8)) (aC (cd (.str t9)) (aC (mG (aC (cd (.str g)) (aC (cd (.str j)) mH))) mH)))) mH)) (aC (mG (aC (cd (.str l)) mH)) mH)))) (aC (mG mH) mH))):=@U3 _ _ _ _ _ _ _ _ _ _ _ _ _ _ _ _ _ _ _ _ _ _ _ _ _ _ _ _ _ _ _ _ _ _ _ _ _ _;have hw:swapsWith (.Tuple [.Tuple [.Tuple [.Constant (.str t4) j4 q4,.Constant (.str t5) j5 q5] x3 p3,.Tuple [.Tuple [.Constant (.str t8) j8 q8,.Constant (.str t9) j9 q9,.Tuple [.Constant (.str g) o U,.Constant (.str j) p aa] ac I] x7 p7] x6 p6,.Tuple [.Constant (.str l) r ab] ae J] x2 p2,.Tuple [] af T] x1 p1) (some (.Name x p')) pos.line X.env=pure false:=AB;revert a hw k;generalize (Expr.Tuple [.Tuple [.Tuple [.Constant (.str t4) j4 q4,.Constant (.str t5) j5 q5] x3 p3,.Tuple [.Tuple [.Constant (.str t8) j8 q8,.Constant (.str t9) j9 q9,.Tuple [.Constant (.str g) o U,.Constant (.str j) p aa] ac I] x7 p7] x6 p6,.Tuple [.Constant (.str l) r ab] ae J] x2 p2,.Tuple [] af T] x1 p1)=v;intro k a hw;exact Yg a hN hi hx hf hw k
end
section
variable {X:Cx}
theorem Uu:PD X (.Tuple [.Constant (.str g) p T,.Constant (.str j) r U,.Constant (.str l) C q4,.Constant (.str o) I q5] x1 J) (mG (aC (cd (.str g)) (aC (cd (.str j)) (aC (cd (.str l)) (aC (cd (.str o)) mH))))) :=
 (@kZ _ _ _ _ _ (@dK _ _ _ _ _ (@nF _ _ _ _) (@dK _ _ _ _ _ (@nF _ _ _ _) (@dK _ _ _ _ _ (@nF _ _ _ _) (@dK _ _ _ _ _ (@nF _ _ _ _) (@eH _) rfl) rfl) rfl) rfl))
end
end L2
namespace Lw
open PySem L2
def Qt:RD:=λf h i=>f=[]/\∃ (C:Cel) (d:Aa (Af×Af)) (c:Cel) (e a:Aa (Af×Af)) (y:Af),h=[hQ C d,hQ c e,.t (a.map λp=>D.t [.str p.1,.str p.2]),.str y]/\RG C d/\RG c e/\(∀ p∈a,oK p.1/\oK p.2)/\a.length<=40/\nZ (lQ C d) (lX c e) a=some y/\i (.v (.b true))
def Jm:RD:=λf h i=>f=[]/\∃ (C:Cel) (c:Aa (Af×Af)) (a:Cel) (d e:Aa (Af×Af)),h=[hQ C c,hQ a d,.t (e.map λp=>D.t [.str p.1,.str p.2])]/\RG C c/\RG a d/\PrsOk (lQ C c) (lX a d) e/\e.length<=40/\i (.v (.b true))
theorem T4 {K:kM}:∀ g H Q E,nC K Qt g H Q E->Q5 K g H Q E:=by
 rintro g H Q E ⟨_,A,v,w,_,_,r,⟨rfl,C,m,c,n,q,y,rfl,d,f,t,i,h,a⟩,k⟩;exact⟨A,C,c,m,n,q,y,r,d,f,t,i,h,λu s=>k _ _ _ a (λb o e _=>s b o e) (.inl rfl) (.b true)⟩
theorem Yh {K:kM}:∀ g H Q E,nC K Jm g H Q E->Jz K g H Q E:=by
 rintro g H Q E ⟨_,A,u,v,_,_,r,⟨rfl,C,i,c,m,q,rfl,d,f,n,h,a⟩,k⟩;exact⟨A,C,c,i,m,q,r,d,f,n,h,λt s=>k _ _ _ a (λb o e _=>s b o e) (.inl rfl) (.b true)⟩
def qM (x:Af):Cel:=⟨[x,"t"],[("s","odd",[x,"t"])],["s"]⟩
theorem Oj (h:AZ x) (g:x ≠ "t") (j:x ≠ "s"):RG (qM x) []:=by
 have a:∀ y:Af,y∈[x,"t","s"]->AZ y:=λy c=>by
  rcases aK.mp c with q | q
  .rw[q];exact h
  .rcases aK.mp q with q | q
   .rw[q];exact⟨by decide +kernel,by decide +kernel,by decide +kernel⟩
   .rw[aH.mp q];exact⟨by decide +kernel,by decide +kernel,by decide +kernel⟩
 have e:("t" : Af) ≠ "s" := by decide +kernel
 have d:([x,"t","s"]:Aa Af).Nodup:=by
  refine bN.mpr ⟨λq=>?_,bN.mpr ⟨λq=>e (aH.mp q),bN.mpr ⟨bE,bX⟩⟩⟩;rcases aK.mp q with q | q
  .exact g q
  .exact j (aH.mp q)
 exact⟨⟨d,⟨⟨.inl ⟨show ("odd" : Af)∈Pn by decide +kernel,.inl rfl⟩⟩,λ_ h=>h,True.intro⟩,λo b=>by rw[aH.mp b];exact aZ _ (aZ _ aO),bN.mpr ⟨bE,bX⟩,by show 2<=40;decide,by show 1<=40;decide,by show 1<=40;decide⟩,bX,bX,(λ_ h=>absurd h bE),by decide,a⟩
theorem L8 (x:Af):hQ (D8 (tE "p" x) (qM "p")) (oY (tE "p" x) [])=hQ (qM x) []:=by
 have a:tE "p" x "p" = x:=aU rfl;have b:tE "p" x "t" = "t" := aL (by decide +kernel);have c:tE "p" x "s" = "s" := aL (by decide +kernel);have:D8 (tE "p" x) (qM "p")=qM x:=by
  unfold D8 qM nH;simp only[aW,gI,a,b,c]
 rw[this];rfl
def Ib:Aa Af:=["nd","zzzzzzyz","zzzzzyz","n"]
theorem Kh (h:x∈Ib):RG (qM x) []:=by
 have:AZ x/\x ≠ "t" /\ x ≠ "s" := by
  unfold Ib at h;simp only[aK,bE,kL] at h;rcases h with rfl | rfl | rfl | rfl<;>exact⟨⟨by decide +kernel,by decide +kernel,by decide +kernel⟩,by decide +kernel,by decide +kernel⟩
 exact Oj this.1 this.2.1 this.2.2
theorem E9:RG (qM "p") []:=Oj ⟨by decide +kernel,by decide +kernel,by decide +kernel⟩ (by decide +kernel) (by decide +kernel)
theorem EW (x:Af):PrsOk (lQ (qM "p") []) (lX (qM x) []) [("s","t")]:=by
 refine⟨bN.mpr ⟨bE,bX⟩,bN.mpr ⟨bE,bX⟩,λp a=>?_⟩;rw[aH.mp a];exact⟨bQ.mpr ⟨aO,rfl⟩,bQ.mpr ⟨aZ _ aO,rfl⟩⟩
def Mq:RD:=λd e f=>d=[]/\∃ a:Aa Int,e=[.c (a.map D.int)]/\a.length<=63/\f (.v (.b true))
def Cm (K:kM):Sp:=nC K Mq
section
variable {P:Ah}{K:kM}
theorem vU:FnScope ["script","one","other","pairs","bad","name","strange","small","new"] ["script"] (lB yC):=mT
theorem Vr (T:Txt U) (r:Kn P w K U base 6 "_law_two_rows" Cq ["script"] Mi) (I:Kn P w K U base 3 "_law_pairs" Dq ["script","one","other"] Qp) (o:Kn P w K U base 3 "_law_bad_pair" Cu ["script","one","other","pairs"] Rc) (J:Kn P w K U base 2 "_law_word" xI ["script","i"] Bj) (j:Kn P w K U base 8 "_law_name_right" Cj ["one","other","pairs","name"] Qt) (g:Kn P w K U base 8 "_law_great_right" Es ["one","other","pairs"] Jm) (l:Kn P w K U base 1 "_law_named" Db ["row","new"] P5):nU P w K U base 9 "law" yC ["script"] Mq:=by
 refine oO vU λf ac A ab s H E dk ds Φ O hu hR=>?_
 obtain⟨rfl,V,rfl,hl,aa⟩:=hR;refine sM (Gs (m:=99) (lU r O (dK (dT 0) eH)) (pL (n:=2) rfl (mE (kP 1 vU.nd) (mE (kP 2 vU.nd) pH)))) ?_;refine sM (kU 3 vU.nd (lU I O (dK (dT 0) (dK (dT 1) (dK (dT 2) eH))))) ?_;refine sM (Gs (m:=99) (lU o O (dK (dT 0) (dK (dT 1) (dK (dT 2) (dK (dT 3) eH))))) (pL (n:=2) rfl (mE (kP 4 vU.nd) (mE (kP 5 vU.nd) pH)))) ?_;refine sM (kU 6 vU.nd (lU J O (dK (dT 0) (dK gD eH)))) ?_;refine sM (qV (xM (yI (lU j O (dK (dT 1) (dK (dT 2) (dK (mP lE lD 3 (kZ (dK (dT 4) eH))) (dK (dT 5) eH))))))) (lH (mO wI)) pC) ?_;refine sM (qV (xM (yI (lU j O (dK (dT 1) (dK (dT 2) (dK (mP lE lD 3 (kZ (dK (dT 4) (dK (kZ (dK (dT 6) (dK (dT 6) eH))) eH)))) (dK (dT 5) eH))))))) (lH (mO wI)) pC) ?_;refine sM (qV (xM (yI (lU j O (dK (dT 1) (dK (dT 2) (dK (kS lE lD (kZ (dK (kZ (dK (dT 6) (dK (dT 5) eH))) eH)) (dT 3)) (dK (dT 6) eH))))))) (lH (mO wI)) pC) ?_;refine sM (qV (xM (yI (lU g O (dK (dT 1) (dK (dT 2) (dK (dT 3) eH)))))) (lH (mO wI)) pC) ?_;refine Zq (i:=7) vU.nd rfl (Or.inl rfl) rfl ?_;refine⟨_,(kQ (sL (lK (@Uu _ _ _ _ _ _ _ _ _ _ _ _ _ _ _)) (kP 8 vU.nd) (kQ (qV (xM (yI (lU g O (dK (lU l O (dK (dT 7) (dK (dT 8) eH))) (dK (dT 7) (dK (kZ eH) eH)))))) (lH (mO wI)) pC) (lH (qV (xM (yI (lU g O (dK (dT 7) (dK (lU l O (dK (dT 7) (dK (dT 8) eH))) (dK (kZ (dK (kZ (dK nF (dK nF eH))) eH)) eH)))))) (lH (mO wI)) pC)))) (lH (mO wI))),?_⟩;let b:Aa Sl:=[.v (.c (V.map D.int))];refine kN (λd=>∃ C F B G,RG C F/\RG B G/\(vI V C/\zT C)/\vI V B/\d=b++[.v (hQ C F),.v (hQ B G),.n,.n,.n,.n,.n,.n]) (λN k=>⟨V,rfl,hl,λC F B G L M h3 h4=>⟨.inl rfl,rfl,rfl,k _ ⟨C,F,B,G,L,M,h3,h4,rfl⟩⟩⟩) ?_;rintro _ ⟨C,F,B,G,L,M,⟨s1,og⟩,s2,rfl⟩;have a1:=L.gc.li;have a3:=L.gc.lo;have c1:=M.gc.li;have d1:=L.lp;have d2:=M.lp;have n1:C.ins.Nodup:=(bS.mp L.gc.nd).1;have n2:B.ins.Nodup:=(bS.mp M.gc.nd).1;let Z (u:Aa (Af×Af)):Sl:=.v (.t (u.map λp:Af×Af=>D.t [.str p.1,.str p.2]));refine kN (λd=>∃ u,PrsOk (lQ C F) (lX B G) u/\u.length<=4/\d=b++[.v (hQ C F),.v (hQ B G),Z u,.n,.n,.n,.n,.n]) (λN k=>⟨V,C,F,B,G,rfl,hl,by omega,by omega,by omega,by omega,L.gc.ond,n2,λu X lp=>⟨.inl rfl,k _ ⟨u,X,lp,rfl⟩⟩⟩) ?_;rintro _ ⟨u,X,lp,rfl⟩;let z:=lR V 20;refine kN (λd=>∃ a Q y,Ii C B F G u z a Q y/\d=b++[.v (hQ C F),.v (hQ B G),Z u,.v (.t [.str a,.str Q]),.v (.str y),.n,.n,.n]) (λN k=>⟨V,C,F,B,G,u,rfl,hl,L,M,X,by omega,og,s1.1,s2.1,λa Q y h=>⟨.inl rfl,rfl,rfl,k _ ⟨a,Q,y,h,rfl⟩⟩⟩) ?_;rintro _ ⟨a,Q,y,Y,rfl⟩;let R:=lR V 21;refine kN (λd=>d=b++[.v (hQ C F),.v (hQ B G),Z u,.v (.t [.str a,.str Q]),.v (.str y),.v (.str R),.n,.n]) (λN k=>⟨V,21,rfl,hl,by decide,.inl rfl,k _ rfl⟩) ?_;rintro _ rfl;let S:Aa Sl:=b++[.v (hQ C F),.v (hQ B G),Z u,.v (.t [.str a,.str Q]),.v (.str y),.v (.str R)];have sa:oK a:=by
  rcases Y.1 with q | q
  .exact vO (L.az _ q)
  .rw[q];exact vO (E3 _ _)
 have sb:oK Q:=by
  rcases Y.2.1 with q | q
  .exact vO (M.az _ q)
  .rw[q];exact vO (E3 _ _)
 have sy:oK y:=by
  rcases Y.2.2 with⟨_,q⟩ | ⟨_,_,q⟩
  .rw[q];exact sa
  .rw[q];exact sb
 have sz:oK R:=vO (E3 _ _);have sp:∀ p∈u,oK p.1/\oK p.2:=λp W=>⟨vO (L.az _ (L.gc.os _ (bQ.mp (X.m p W).1).1)),vO (M.az _ (aM _ (bQ.mp (X.m p W).2).1))⟩
 refine kN (λd=>d=S++[.n,.n]) (λN k=>?_) ?_
 .refine⟨rfl,by show 1<=1000;decide,?_⟩;refine⟨by show _+1<=100000;rw[aA];omega,rfl,C,F,B,G,u++[(a,Q)],y,by rw[aG];rfl,L,M,λp W=>?_,by rw[aD];show u.length+1<=40;omega,Pz X Y [],.inl rfl,rfl,_,rfl,k _ rfl⟩;rcases aR.mp W with q | q
  .exact sp p q
  .rw[aH.mp q];exact⟨sa,sb⟩
 rintro _ rfl;refine kN (λd=>d=S++[.n,.n]) (λN k=>?_) ?_
 .refine⟨rfl,by show 2<=1000;decide,by show 2<=1000;decide,?_⟩;refine⟨by show _+2<=100000;rw[aA];omega,rfl,C,F,B,G,u++[(a,Q),(R,R)],y,by rw[aG];rfl,L,M,λp W=>?_,by rw[aD];show u.length+2<=40;omega,Pz X Y [(R,R)],.inl rfl,rfl,_,rfl,k _ rfl⟩;rcases aR.mp W with q | q
  .exact sp p q
  .rcases aK.mp q with q | q
   .rw[q];exact⟨sa,sb⟩
   .rw[aH.mp q];exact⟨sz,sz⟩
 rintro _ rfl;refine kN (λd=>d=S++[.n,.n]) (λN k=>?_) ?_
 .have hz:R∉lQ C F:=λq=>s1.2 (L.gc.os _ (bQ.mp q).1)
  refine⟨by show 2<=1000;decide,by show 1<=1000;decide,?_⟩;refine⟨by show 1+_<=100000;rw[aA];omega,rfl,C,F,B,G,(R,y)::u,R,rfl,L,M,λp W=>?_,by show u.length+1<=40;omega,by rw[Bz,aL hz],.inl rfl,rfl,_,rfl,k _ rfl⟩;rcases aK.mp W with q | q
  .rw[q];exact⟨sz,sy⟩
  .exact sp p q
 rintro _ rfl;refine kN (λd=>d=S++[.n,.n]) (λN k=>⟨rfl,C,F,B,G,u,rfl,L,M,X,by omega,.inl rfl,rfl,_,rfl,k _ rfl⟩) ?_;rintro _ rfl;let m:Sl:=.v (hQ (qM "p") []);refine kN (λd=>d=S++[m,.n]) (λN k=>⟨by show 2<=1000;decide,by show 2<=1000;decide,by show 3<=1000;decide,by show 1<=1000;decide,by show 1<=1000;decide,by show 3<=1000;decide,by show 0<=1000;decide,by show 2<=1000;decide,k _ rfl⟩) ?_;rintro _ rfl;refine kN (λd=>True) (λN k=>?_) (λ_ _=>aa);refine rY (Ib.map D.str) _ (λΨ h=>⟨by show 4<=1000;decide,h⟩) (λi d=>∃ s8,d=S++[m,s8]) ⟨_,rfl⟩ ?_ (λ_ _=>k _ True.intro);rintro i e d he ⟨s8,rfl⟩;obtain⟨x,hx,rfl⟩:=vV he;have xm:=aI hx;refine kN (λd=>d=S++[m,.v (.str x)]) (λN k=>?_) ?_
 .refine⟨qM "p",[],"p",x,rfl,E9,rfl,.inl rfl,?_⟩;refine⟨by show 0<=1000;decide,rfl,qM x,[],qM "p",[],[],?_,Kh xm,E9,⟨bX,bX,λ_ h=>absurd h bE⟩,by decide,.inl rfl,rfl,_,rfl,k _ rfl⟩;rw[L8];rfl
 rintro _ rfl;refine⟨qM "p",[],"p",x,rfl,E9,rfl,.inl rfl,?_⟩;refine⟨by show 2<=1000;decide,by show 1<=1000;decide,rfl,qM "p",[],qM x,[],[("s","t")],?_,E9,Kh xm,EW x,by show 1<=40;decide,.inl rfl,rfl,_,rfl,_,rfl⟩;rw[L8];rfl
end
end Lw
namespace Lw
open PySem L2 PySem.Spec PyProof.Rows
theorem vZ {K:kM}(h:K.lookup t=some ⟨.type "tuple",d,.seq g n,p⟩) (l:g.size<=sizeLine) (j:kY o g.toList):∀ H,lZ K H t o :=
 λH=>.inr ⟨_,g,n,h,rfl,rfl,l,j⟩
section
variable {K:kM}{aS:Ad}{dS d1 d2:Ab Ad}{nS:Nat}
theorem X9 (eL:g "LETTERS" = some (.str zL tL)) (e8:g "LONGEST_NAME" = some (.int i8 t8)) (eS:g "SIDE_WORDS" = some (.ref aS)) (eN:g "NAME_COUNTS" = some (.ref U)) (eA:g "all" = none)
  (lS:K.lookup aS=some ⟨.type "tuple",dS,.seq #[.str ay a1,.str az a2] nS,sS⟩)
  (lN:K.lookup U=some ⟨.type "dict",none,.dict #[⟨h1,.str z1 bc,.ref l⟩,⟨h2,.str z2 bd,.ref o⟩,⟨h3,.str z3 be,.ref r⟩,⟨h4,.str z4 bf,.ref C⟩,⟨h5,.str z5 bg,.ref I⟩,⟨h6,.str z6 bh,.ref J⟩,⟨h7,.str z7 bi,.ref T⟩] ep,#[]⟩)
  (zN:(U == sysModules)=false)
  (q1:h1=hashStr w "and") (q2:h2=hashStr w "or") (q3:h3=hashStr w "odd") (q4:h4=hashStr w "most") (q5:h5=hashStr w "not") (q6:h6=hashStr w "one") (q7:h7=hashStr w "nil")
  (l1:K.lookup l=some ⟨.type "tuple",d1,.seq #[.int j1 a3,.int j2 a4] n1,s1⟩)
  (l2:K.lookup o=some ⟨.type "tuple",d2,.seq #[.int j3 a5,.int j4 a6] n2,s2⟩)
  (l3:K.lookup r=some ⟨.type "tuple",d3,.seq #[.int j5 a7,.int j6 a8] n3,s3⟩)
  (l4:K.lookup C=some ⟨.type "tuple",d4,.seq #[.int j7 a9] n4,s4⟩)
  (l5:K.lookup I=some ⟨.type "tuple",d5,.seq #[.int j8 ba] n5,s5⟩)
  (l6:K.lookup J=some ⟨.type "tuple",d6,.seq #[.int j9 bb] n6,s6⟩)
  (l7:K.lookup T=some ⟨.type "tuple",d7,.seq #[.int aa a0] n7,s7⟩)
  (vL:zL=lettersS) (v8:i8=8) (ai:ay = "in") (aj:az = "out") (v11:z1 = "and") (ab:z2 = "or") (ac:z3 = "odd") (ae:z4 = "most") (af:z5 = "not") (ag:z6 = "one") (ah:z7 = "nil") (ak:j1=2) (an:j2=3) (ao:j3=2) (aq:j4=3) (ar:j5=2) (au:j6=3) (av:j7=3) (aw:j8=1) (ax:j9=0) (j:aa=0):Tops K w g:=by
 subst vL v8 ai aj v11 ab ac ae af ag ah ak an ao aq ar au av aw ax j;refine⟨⟨_,eL⟩,⟨_,e8⟩,⟨aS,eS,vZ lS (by show 2<=sizeLine;decide) (.cons ⟨_,rfl⟩ (.cons ⟨_,rfl⟩ .nil))⟩,⟨U,_,eN,Us (D:=[("and",.ref l,.ref l),("or",.ref o,.ref o),("odd",.ref r,.ref r),("most",.ref C,.ref C),("not",.ref I,.ref I),("one",.ref J,.ref J),("nil",.ref T,.ref T)]) ?_ ?_ ?_ ?_,λz=>?_⟩,eA⟩
 .intro p m;simp only[aK,bE,kL] at m;rcases m with rfl | rfl | rfl | rfl | rfl | rfl | rfl<;>rfl
 .unfold KTD.tabLook;simp only[lN,zN];simp[KTD.rowsLook]
 .show (["and","or","odd","most","not","one","nil"]:Aa Af).Nodup;decide +kernel
 .unfold KTD.hashesOf;simp only[lN,q1,q2,q3,q4,q5,q6,q7];rfl
 .simp only[aW,gI];have ne:∀ {x:Af},¬ z=x->¬ (Sum.inr x:gV)=Sum.inr z:=λh e=>h (dX e).symm
  by_cases c:z = "and"
  .subst c;exact .inr ⟨l,[2,3],tH rfl,rfl,vZ l1 (by show 2<=sizeLine;decide) (.cons ⟨_,rfl⟩ (.cons ⟨_,rfl⟩ .nil))⟩
  rw[sY (ne c)];by_cases d:z = "or"
  .subst d;exact .inr ⟨o,[2,3],tH rfl,rfl,vZ l2 (by show 2<=sizeLine;decide) (.cons ⟨_,rfl⟩ (.cons ⟨_,rfl⟩ .nil))⟩
  rw[sY (ne d)];by_cases f:z = "odd"
  .subst f;exact .inr ⟨r,[2,3],tH rfl,rfl,vZ l3 (by show 2<=sizeLine;decide) (.cons ⟨_,rfl⟩ (.cons ⟨_,rfl⟩ .nil))⟩
  rw[sY (ne f)];by_cases a:z = "most"
  .subst a;exact .inr ⟨C,[3],tH rfl,rfl,vZ l4 (by show 1<=sizeLine;decide) (.cons ⟨_,rfl⟩ .nil)⟩
  rw[sY (ne a)];by_cases b:z = "not"
  .subst b;exact .inr ⟨I,[1],tH rfl,rfl,vZ l5 (by show 1<=sizeLine;decide) (.cons ⟨_,rfl⟩ .nil)⟩
  rw[sY (ne b)];by_cases i:z = "one"
  .subst i;exact .inr ⟨J,[0],tH rfl,rfl,vZ l6 (by show 1<=sizeLine;decide) (.cons ⟨_,rfl⟩ .nil)⟩
  rw[sY (ne i)];by_cases k:z = "nil"
  .subst k;exact .inr ⟨T,[0],tH rfl,rfl,vZ l7 (by show 1<=sizeLine;decide) (.cons ⟨_,rfl⟩ .nil)⟩
  rw[sY (ne k)];refine .inl ⟨rfl,?_⟩;unfold uN;rw[aL (by rintro (e | e | e)<;>contradiction),aL a,aL b,aL (by rintro (e | e)<;>contradiction)]
end
open PySem L2 in
theorem Wg (j:g "MOST_INPUTS" = some (.int I tI)) (l:g "MOST_OUTPUTS" = some (.int J tO)) (o:g "MOST_GATES" = some (.int C tG)) (p:g "MOST_ALONG" = some (.int r tA)) (v1:I=6) (T:J=6) (U:C=24) (v4:r=4):Bds g:=by
 subst v1 T U v4;exact⟨⟨_,j⟩,⟨_,l⟩,⟨_,o⟩,⟨_,p⟩⟩
theorem Ke {K:kM}:∀ g:Aa Int,Reps K A H (g.map D.int) (g.map V.int)
 | []=>.nil
 | _::g=>.cons (.int _) (Ke g)
theorem Y2 {K:kM}{g:Aa Int}(p:g.length<=63) (j:Ej H) (l:lG K H a (g.map V.int)):Cm K [.ref a] H (λv _=>v = .b true) λ_ _ _=>False:=by
 have e:uH K H a (g.map V.int):=by
  rcases l with (h | h) | h
  .rcases j a with z | ⟨o,f,z⟩
   .rw[h] at z;cases z
   .rw[h] at z;cases z
  .exact .inl h
  .exact .inr h
 refine⟨[],λ_=>False,[.c (g.map D.int)],λs=>s = .v (.b true),.inl rfl,λ_ z=>z.elim,.cons (.c e (Ke g)) .nil,⟨rfl,g,rfl,p,rfl⟩,?_⟩;rintro s v d rfl _ _ r;exact (show Rep K _ d (.b true) v from r).bl_inv
end Lw
namespace Lw
open PySem L2
def DF (K:kM) (x:Af) (st:Stmt):Prop:=∃ (f:Ad) (e a:Ab Ad) (h:Array (Ab Ac)) (d kV c pm cd b:Ac),PySem.W.nsIn K mainGlobals x=some (some (.ref f))/\K.lookup f=some ⟨d,e,.func (PySem.W.fnOf x x (rC st) (pQ st) (lB st) .none kV c pm a cd b),h⟩/\PySem.W.codeIn K cd x=true/\PySem.W.keepIn K (.ref f)=true
def NZ (K:kM) (x:Af):Prop:=PySem.W.nsIn K mainGlobals x=some none
theorem df_mk {K:kM}{st:Stmt}{kV cd:Ac}(a:PySem.W.nsIn K mainGlobals x=some (some (.ref f))) (l:K.lookup f=some ⟨p,r,.func (PySem.W.fnOf x x (rC st) (pQ st) (lB st) .none kV o pm g cd j),C⟩) (c:PySem.W.codeIn K cd x=true) (k:PySem.W.keepIn K (.ref f)=true):DF K x st:=⟨f,r,g,C,p,kV,o,pm,cd,j,a,l,c,k⟩
theorem A4 {K:kM}{st:Stmt}(o:Aa Af) (X:K.In h) (G:h.Ns mainGlobals J) (d:DF K x st)
  (I:∀ (kV j pm:Ac) (r:Ab Ad) (g C:Ac) (p:Aa Ac),p.length=o.length->bindArgs (PySem.W.fnOf x x (rC st) (pQ st) (lB st) .none kV j pm r g C) ⟨p,[]⟩=pure (o.zip p)):∃ f fd,Gd K J x st o f fd:=by
 obtain⟨f,i,r,m,e,kV,b,pm,cd,C,a,l,c,k⟩:=d;have F:=E4 (st:=st) l c k;exact⟨f,_,F,cE X G a,k,F.binds I⟩
theorem tV {K:kM}{st:Stmt}(j:Af) (X:K.In h) (G:h.Ns mainGlobals o) (d:DF K x st) (l:∀ a b c d e f g,bindArgs (PySem.W.fnOf x x (rC st) (pQ st) (lB st) .none a b c d e f) ⟨[g],[]⟩=pure [(j,g)]:=by intros;rfl):∃ f fd,Gd K o x st [j] f fd :=
 A4 [j] X G d λa b c d e f k i=>by rcases k with _ | ⟨g,_ | _⟩<;>first | exact l a b c d e f g | cases i
theorem tP {K:kM}{st:Stmt}(l o:Af) (X:K.In h) (G:h.Ns mainGlobals r) (d:DF K x st) (p:∀ a b c d e f g j,bindArgs (PySem.W.fnOf x x (rC st) (pQ st) (lB st) .none a b c d e f) ⟨[g,j],[]⟩=pure [(l,g),(o,j)]:=by intros;rfl):∃ f fd,Gd K r x st [l,o] f fd :=
 A4 [l,o] X G d λa b c d e f k i=>by rcases k with _ | ⟨g,_ | ⟨j,_ | _⟩⟩<;>first | exact p a b c d e f g j | cases i
theorem vK {K:kM}{st:Stmt}(o p r:Af) (X:K.In h) (G:h.Ns mainGlobals I) (d:DF K x st) (C:∀ a b c d e f g j l,bindArgs (PySem.W.fnOf x x (rC st) (pQ st) (lB st) .none a b c d e f) ⟨[g,j,l],[]⟩=pure [(o,g),(p,j),(r,l)]:=by intros;rfl):∃ f fd,Gd K I x st [o,p,r] f fd :=
 A4 [o,p,r] X G d λa b c d e f k i=>by rcases k with _ | ⟨g,_ | ⟨j,_ | ⟨l,_ | _⟩⟩⟩<;>first | exact C a b c d e f g j l | cases i
theorem Ev {K:kM}{st:Stmt}(p r C I:Af) (X:K.In h) (G:h.Ns mainGlobals T) (d:DF K x st) (J:∀ a b c d e f g j l o,bindArgs (PySem.W.fnOf x x (rC st) (pQ st) (lB st) .none a b c d e f) ⟨[g,j,l,o],[]⟩=pure [(p,g),(r,j),(C,l),(I,o)]:=by intros;rfl):∃ f fd,Gd K T x st [p,r,C,I] f fd :=
 A4 [p,r,C,I] X G d λa b c d e f k i=>by rcases k with _ | ⟨g,_ | ⟨j,_ | ⟨l,_ | ⟨o,_ | _⟩⟩⟩⟩<;>first | exact J a b c d e f g j l o | cases i
theorem Uk {K:kM}{st:Stmt}(r C I J T:Af) (X:K.In h) (G:h.Ns mainGlobals mg) (d:DF K x st) (U:∀ a b c d e f g j l o p,bindArgs (PySem.W.fnOf x x (rC st) (pQ st) (lB st) .none a b c d e f) ⟨[g,j,l,o,p],[]⟩=pure [(r,g),(C,j),(I,l),(J,o),(T,p)]:=by intros;rfl):∃ f fd,Gd K mg x st [r,C,I,J,T] f fd :=
 A4 [r,C,I,J,T] X G d λa b c d e f k i=>by rcases k with _ | ⟨g,_ | ⟨j,_ | ⟨l,_ | ⟨o,_ | ⟨p,_ | _⟩⟩⟩⟩⟩<;>first | exact U a b c d e f g j l o p | cases i
theorem all_mk {l:PySem.W.OpenLaw}{K:kM}(X:K.In h) (G:h.Ns mainGlobals mg) (du:mg "law" = some (.ref fa))
  {CE fI:Ad}{aS:Ad}{dS:Ab Ad}{nS:Nat}
  (d1:DF K "is_name" Ja)
  (d2:DF K "carried_inputs" zH)
  (d3:DF K "word_inputs" A9)
  (d4:DF K "word_outputs" Bl)
  (d5:DF K "weighed_names" Fe)
  (d6:DF K "rows_together" Bb)
  (d7:DF K "check_pairs" D4)
  (d8:DF K "check_free" Df)
  (d9:DF K "first_names" B6)
  (cz:DF K "second_names" A7)
  (c0:DF K "cell_names" yY)
  (c1:DF K "row_turned" D1)
  (c2:DF K "all_turned" Em)
  (c3:DF K "joined" En)
  (c4:DF K "without" Do)
  (c5:DF K "check_bounds" C5)
  (c6:DF K "claims_together" E2)
  (c7:DF K "edges_turned" Cz)
  (c8:DF K "weights_turned" Fc)
  (c9:DF K "_law_draw" uE)
  (da:DF K "_law_word" xI)
  (db:DF K "_law_gate" Ct)
  (dd:DF K "_law_cell" Cp)
  (de:DF K "_law_row" Fd)
  (df:DF K "_law_carried" Bm)
  (dg:DF K "_law_wordly" Ei)
  (dh:DF K "_law_pairs" Dq)
  (di:DF K "_law_due_row" Ex)
  (dj:DF K "_law_great" Du)
  (dk:DF K "_law_more_gates" C9)
  (dm:DF K "_law_two_rows" Cq)
  (dn:DF K "_law_caught" A5)
  (dp:DF K "_law_bad_pair" Cu)
  (dq:DF K "_law_name_right" Cj)
  (dr:DF K "_law_great_right" Es)
  (ds:DF K "_law_named" Db)
  (dt:DF K "law" yC)
  (z1:NZ K "len")
  (z2:NZ K "range")
  (z3:NZ K "sum")
  (z4:NZ K "min")
  (z5:NZ K "max")
  (z6:NZ K "tuple")
  (z7:NZ K "list")
  (z8:NZ K "set")
  (z9:NZ K "dict")
  (f0:NZ K "int")
  (ga:NZ K "str")
  (gb:NZ K "zip")
  (gc:NZ K "enumerate")
  (gd:NZ K "all")
  (gf:NZ K "any")
  (cy:NZ K "isinstance")
  (gg:NZ K "sorted")
  (gh:NZ K "abs")
  (gi:NZ K "reversed")
  (gj:NZ K "bool")
  (gk:NZ K "ValueError")
  (b2:PySem.W.nsIn K mainGlobals "CellError" = some (some (.ref CE)))
  (b3:PySem.W.nsIn K mainGlobals "NoName" = some (some (.ref CN)))
  (fm:PySem.W.nsIn K mainGlobals "NoAsk" = some (some (.ref CA)))
  (b1:PySem.W.nsIn K mainGlobals "NoCell" = some (some (.ref CC)))
  (fo:PySem.W.nsIn K mainGlobals "NoClaim" = some (some (.ref CL)))
  (gq:K.lookup CN=some ⟨g9,ha,.cls ⟨hi,he,hb::bm,NS,hj,hh,hk,hm,hc,hf,hg⟩,hn⟩)
  (k0:PySem.W.nsIn K NS "__init__" = some (some (.ref fI)))
  (lI:K.lookup fI=some ⟨dy,jq,.func (PySem.W.fnOf "__init__" "NoName.__init__" (rC yW) (pQ yW) (lB yW) .none jo jn jr jl dx jm),js⟩)
  (cI:PySem.W.codeIn K dx "NoName.__init__" = true)
  (kI:PySem.W.keepIn K (.ref fI)=true)
  (dv:dy = .type "function")
  (bz:bm = .ref CE::vJ)
  (b5:qQ K CN NS bm (some (.ref fI))=true)
  (g1:PySem.W.specialIn K (.ref CE) "__getattribute__" = some (some (.builtin "type.__getattribute__")))
  (g2:PySem.W.readsIn K CE (.type "type")=true)
  (g3:PySem.W.findCls K (.ref CE) (.type "type") "__init__" = some (PySem.W.CFound.val (.builtin "ValueError.__init__")))
  (bw:PySem.W.keepIn K (.ref CN)=true)
  (cl:PySem.W.findIn K (.ref CN) "__getattribute__" = some (some (.builtin "BaseException.__getattribute__")))
  (cn:PySem.W.findIn K (.ref CN) "__getattr__" = some none)
  (cq:PySem.W.mroIn K CN (.type "BaseException")=some true)
  (cu:PySem.W.mroIn K CN (.type "object")=some true)
  (cw:PySem.W.findIn K (.ref CN) "__class__" = some (some (.builtin "object.__class__")))
  (ff:PySem.W.specialIn K (.builtin "object.__class__") "__get__" = some (some (.builtin "getset_descriptor.__get__")))
  (fg:PySem.W.takesIn K (.builtin "object.__class__")=some true)
  (sa:PySem.W.findIn K (.ref CN) "__setattr__" = some (some (.builtin "object.__setattr__")))
  (fw:PySem.W.findIn K (.ref CN) "word" = some none)
  (cj:PySem.W.exmOne K (.ref CN) (.ref CE)=some true)
  (gp:K.lookup CC=some ⟨gs,gu,.cls ⟨g4,gx,gv::bc,br,g5,g0,g6,g7,gw,gy,gz⟩,g8⟩)
  (k1:PySem.W.nsIn K br "__init__" = some (some (.ref fJ)))
  (lJ:K.lookup fJ=some ⟨ea,jx,.func (PySem.W.fnOf "__init__" "NoCell.__init__" (rC zB) (pQ zB) (lB zB) .none jw jv jy jt d0 ju),jz⟩)
  (cJ:PySem.W.codeIn K d0 "NoCell.__init__" = true)
  (kJ:PySem.W.keepIn K (.ref fJ)=true)
  (dw:ea = .type "function")
  (bx:bc = .ref CE::vJ)
  (b4:qQ K CC br bc (some (.ref fJ))=true)
  (bv:PySem.W.keepIn K (.ref CC)=true)
  (ck:PySem.W.findIn K (.ref CC) "__getattribute__" = some (some (.builtin "BaseException.__getattribute__")))
  (cm:PySem.W.findIn K (.ref CC) "__getattr__" = some none)
  (cp:PySem.W.mroIn K CC (.type "BaseException")=some true)
  (cs:PySem.W.mroIn K CC (.type "object")=some true)
  (cv:PySem.W.findIn K (.ref CC) "__class__" = some (some (.builtin "object.__class__")))
  (ek:PySem.W.findIn K (.ref CC) "__setattr__" = some (some (.builtin "object.__setattr__")))
  (fr:PySem.W.findIn K (.ref CC) "row" = some none)
  (ch:PySem.W.exmOne K (.ref CC) (.ref CE)=some true)
  (nN:PySem.W.kitOne K (.ref CN) (.ref CN)=some true)
  (nV:PySem.W.kitOne K (.ref CN) (.type "ValueError")=some true)
  (ec:PySem.W.kitAny K (.ref CN) [.ref CA,.ref CC,.ref CL]=some false)
  (cC:PySem.W.kitOne K (.ref CC) (.ref CC)=some true)
  (eb:PySem.W.kitAny K (.ref CC) [.ref CA,.ref CL,.ref CN]=some false)
  (k3:PySem.W.kitAny K (.type "NoneType") [.ref CA,.ref CL,.ref CN]=some false)
  (xL:PySem.W.nsIn K mainGlobals "LETTERS" = some (some (.str zL tL)))
  (x8:PySem.W.nsIn K mainGlobals "LONGEST_NAME" = some (some (.int i8 t8)))
  (xS:PySem.W.nsIn K mainGlobals "SIDE_WORDS" = some (some (.ref aS)))
  (xN:PySem.W.nsIn K mainGlobals "NAME_COUNTS" = some (some (.ref aN)))
  (lS:K.lookup aS=some ⟨.type "tuple",dS,.seq #[.str gm kg,.str gn kh] nS,sS⟩)
  (lN:K.lookup aN=some ⟨.type "dict",none,.dict #[⟨h1,.str fp kt,.ref r1⟩,⟨h2,.str fq ku,.ref r2⟩,⟨h3,.str ft kv,.ref r3⟩,⟨h4,.str fu kw,.ref r4⟩,⟨h5,.str fv kx,.ref r5⟩,⟨h6,.str fx ky,.ref r6⟩,⟨h7,.str fy kz,.ref r7⟩] ep,#[]⟩)
  (zN:(aN == sysModules)=false)
  (ed:K.lookup r1=some ⟨.type "tuple",j0,.seq #[.int j1 ki,.int j2 kj] n1,s1⟩)
  (ee:K.lookup r2=some ⟨.type "tuple",ka,.seq #[.int j3 kl,.int j4 km] n2,s2⟩)
  (ef:K.lookup r3=some ⟨.type "tuple",kb,.seq #[.int j5 ko,.int j6 kp] n3,s3⟩)
  (eg:K.lookup r4=some ⟨.type "tuple",kc,.seq #[.int j7 kq] n4,s4⟩)
  (eh:K.lookup r5=some ⟨.type "tuple",kd,.seq #[.int j8 kr] n5,s5⟩)
  (ei:K.lookup r6=some ⟨.type "tuple",ke,.seq #[.int j9 ks] n6,s6⟩)
  (ej:K.lookup r7=some ⟨.type "tuple",kf,.seq #[.int dz gr] n7,s7⟩)
  (fc:fp = "and")
  (fe:fq = "or")
  (fh:ft = "odd")
  (fi:fu = "most")
  (fj:fv = "not")
  (fk:fx = "one")
  (fl:fy = "nil")
  (vL:zL=Lw.lettersS)
  (v8:i8=8)
  (el:gm = "in")
  (em:gn = "out")
  (et:j1=2)
  (eu:j2=3)
  (ev:j3=2)
  (ew:j4=3)
  (ex:j5=2)
  (ey:j6=3)
  (ez:j7=3)
  (e0:j8=1)
  (fb:j9=0)
  (cx:dz=0)
  (q1:h1=hashStr w "and")
  (q2:h2=hashStr w "or")
  (q3:h3=hashStr w "odd")
  (q4:h4=hashStr w "most")
  (q5:h5=hashStr w "not")
  (q6:h6=hashStr w "one")
  (q7:h7=hashStr w "nil")
  (bI:PySem.W.nsIn K mainGlobals "MOST_INPUTS" = some (some (.int iI tI)))
  (bO:PySem.W.nsIn K mainGlobals "MOST_OUTPUTS" = some (some (.int iO tO)))
  (bG:PySem.W.nsIn K mainGlobals "MOST_GATES" = some (some (.int iG tG)))
  (bA:PySem.W.nsIn K mainGlobals "MOST_ALONG" = some (some (.int iA tA)))
  (er:iI=6)
  (es:iO=6)
  (eo:iG=24)
  (en:iA=4)
  : ∃ fd:FuncData,(∀ (s:Ae) (v:Ac),BindsTo s fd ⟨[v],[]⟩ [("script",v)])/\∀ base:Ag,K.In base->base.Ns mainGlobals mg->FnOk l.prog w K mg base lV 9 fa fd ["script"] (Cm K):=by
 obtain⟨f1,e1,ac⟩:=tV "text" X G d1;obtain⟨f2,e2,b⟩:=tV "row" X G d2;obtain⟨f3,e3,i⟩:=tV "row" X G d3;obtain⟨f4,e4,e⟩:=tV "row" X G d4;obtain⟨f5,e5,N⟩:=tV "row" X G d5;obtain⟨f6,e6,m⟩:=vK "one" "other" "pairs" X G d6;obtain⟨f7,e7,r⟩:=vK "one" "other" "pairs" X G d7;obtain⟨f8,e8,U⟩:=tP "name" "free" X G d8;obtain⟨f9,e9,t⟩:=tV "row" X G d9;obtain⟨it,ho,n⟩:=tP "row" "pairs" X G cz;obtain⟨iu,hp,H⟩:=tV "row" X G c0;obtain⟨iv,hq,aa⟩:=tP "row" "turned" X G c1;obtain⟨iw,hr,ay⟩:=tP "names" "turned" X G c2;obtain⟨ix,hs,a2⟩:=vK "one" "other" "pairs" X G c3;obtain⟨iy,ht,bi⟩:=tP "names" "gone" X G c4;obtain⟨iz,hu,V⟩:=tV "row" X G c5;obtain⟨i0,hv,q⟩:=Uk "one" "other" "pairs" "claim_one" "claim_other" X G c6;obtain⟨i1,hx,Y⟩:=vK "row" "edges" "turned" X G c7;obtain⟨i2,hy,D⟩:=vK "row" "weights" "turned" X G c8;obtain⟨i3,hz,C⟩:=tP "script" "k" X G c9;obtain⟨i4,h0,I⟩:=tP "script" "i" X G da;obtain⟨i5,h8,bd⟩:=Ev "script" "at" "k" "names" X G db;obtain⟨i6,h9,ba⟩:=tP "script" "begin" X G dd;obtain⟨i7,ia,bh⟩:=tP "script" "begin" X G de;obtain⟨i9,ib,u⟩:=tV "row" X G df;obtain⟨ja,ic,az⟩:=tV "row" X G dg;obtain⟨jb,ie,a5⟩:=vK "script" "one" "other" X G dh;obtain⟨jc,ig,ar⟩:=vK "one" "other" "pairs" X G di;obtain⟨jd,ih,af⟩:=vK "one" "other" "pairs" X G dj;obtain⟨je,ij,ag⟩:=tP "row" "many" X G dk;obtain⟨jf,ik,aj⟩:=tV "script" X G dm;obtain⟨jg,il,L⟩:=Ev "one" "other" "pairs" "by_claims" X G dn;obtain⟨jh,im,Z⟩:=Ev "script" "one" "other" "pairs" X G dp;obtain⟨ji,ip,A⟩:=Ev "one" "other" "pairs" "name" X G dq;obtain⟨jj,iq,y⟩:=vK "one" "other" "pairs" X G dr;obtain⟨jk,ir,a4⟩:=tP "row" "new" X G ds;obtain⟨f,od,an,sl,oc,kV,dc,pm,cd,ct,a,lk,c,k⟩:=dt;cases du.symm.trans (cE X G a);have FL:=E4 (st:=yC) lk c k;refine⟨PySem.W.fnOf "law" "law" (rC yC) (pQ yC) (lB yC) .none kV dc pm an cd ct,λs v=>.of_eq rfl,λbase _ _=>?_⟩;have T:Txt mg:=⟨(bR X G z1),(bR X G z2),(bR X G z3),(bR X G z4),(bR X G z5),(bR X G z6),(bR X G z7),(bR X G z8),(bR X G z9),(bR X G f0),(bR X G ga),(bR X G gb),(bR X G gc),(bR X G gd),(bR X G gf),(bR X G cy),(bR X G gg),(bR X G gh),(bR X G gi),(bR X G gj)⟩;have O:Tops K w mg:=X9 (cE X G xL) (cE X G x8) (cE X G xS) (cE X G xN) T.all lS lN zN q1 q2 q3 q4 q5 q6 q7 ed ee ef eg eh ei ej vL v8 el em fc fe fh fi fj fk fl et eu ev ew ex ey ez e0 fb cx;have B:Bds mg:=Wg (cE X G bI) (cE X G bO) (cE X G bG) (cE X G bA) er es eo en;have kk:∀ {k x st ps R f fd},Gd K mg x st ps f fd->nU l.prog w K mg base k x st ps R->Kn l.prog w K mg base k x st ps R:=λg o=>⟨_,_,g,o _ _ g.F⟩
 have oo:∀ {k x st ps R f fd},Gd K mg x st ps f fd->nU l.prog w K mg base k x st ps R->FnOk l.prog w K mg base lV k f fd ps (nC K R):=λg o=>o _ _ g.F
 have b6:=E4 (x := "__init__") (qual := "NoName.__init__") (st:=yW) lI cI kI;have bI:=b6.binds (ps:=["self","word"]) λ_ _ _ _ _ _ us hl=>by rcases us with _ | ⟨x0,_ | ⟨x1,_ | _⟩⟩<;>first | rfl | cases hl
 have b7:=E4 (x := "__init__") (qual := "NoCell.__init__") (st:=zB) lJ cJ kJ;have bJ:=b7.binds (ps:=["self","row"]) λ_ _ _ _ _ _ us hl=>by rcases us with _ | ⟨x0,_ | ⟨x1,_ | _⟩⟩<;>first | rfl | cases hl
 have N1:XK1 K mg CE "NoName" "word" CN NS fI bm:=⟨(cE X G b2),g1,g2,g3,(cE X G b3),b5,bw,sa,fw,λx=>by subst bz;rw[jS,jS];exact iF.passes _,by subst bz;simp[vJ],by subst bz;simp[vJ],⟨cl,cn,cq,cu,cw,ff,fg⟩,cj⟩;have C1:XK1 K mg CE "NoCell" "row" CC br fJ bc:=⟨(cE X G b2),g1,g2,g3,(cE X G b1),b4,bv,ek,fr,λx=>by subst bx;rw[jS,jS];exact iF.passes _,by subst bx;simp[vJ],by subst bx;simp[vJ],⟨ck,cm,cp,cs,cv,ff,fg⟩,ch⟩;have ON:XO l.prog w K mg base "NoName" "word" CN yQ:=⟨NS,fI,bm,_,_,b5,N1.bb,bw,lI,dv,Sh b6 N1,(cE X G b3),bI⟩;have OC:XO l.prog w K mg base "NoCell" "row" CC yF:=⟨br,fJ,bc,_,_,b4,C1.bb,bv,lJ,dw,FV b7 C1,(cE X G b1),bJ⟩;have M:XM K mg CN CC CA CL:=⟨(cE X G b3),(cE X G b1),(cE X G fm),(cE X G fo),(bR X G gk),(bR X G cy),nN,nV,ec,cC,eb,N1.xf,C1.xf,⟨_,_,_,b5,fw⟩,⟨_,_,_,b4,fr⟩⟩;have b0:=kk ac (Q0 T O);have bg:=oo ac (Q0 T O);have E:=kk b Qv;have z:=oo b Qv;have bq:=kk i (Pl E);have p:=oo i (Pl E);have bp:=kk e Jd;have S:=oo e Jd;have ab:=kk H (Ll T);have aw:=oo H (Ll T);have j:=oo t (DC T ab);have Q:=oo n (Xa T ab);have a0:=kk ay (Zr T);have ax:=oo aa (DN T a0);have bn:=kk bi (BC T);have bo:=oo a2 (FQ T bn);have cc:=Rv (P:=l.prog) (w:=w) (base:=base) U.F T ON;have cf:=X7 (P:=l.prog) (w:=w) (base:=base) r.F T e i U S p cc;have cb:=Sr (P:=l.prog) (w:=w) (base:=base) V.F T B OC H ac aw bg;have bu:=Vi (P:=l.prog) (w:=w) (base:=base) m.F T r a2 aa t n V cf bo ax j Q cb;have b9:=CQ (P:=l.prog) (w:=w) (base:=base) N.F i e b p S z;have b8:=Zl (P:=l.prog) (w:=w) (base:=base) Y.F T b z;have ca:=Vb (P:=l.prog) (w:=w) (base:=base) D.F T N b9;have cg:=FR (P:=l.prog) (w:=w) (base:=base) q.F T m t n Y D bu j Q b8 ca;have d:=kk C (O7 T);have a8:=oo C (O7 T);have J:=kk I (Q4 T d);have a9:=oo I (Q4 T d);have bf:=kk bd (Ti T d J);have be:=kk ba (Sg T d J bf);have bj:=kk bh (Sy T d be);have au:=kk u J0;have aq:=oo u J0;have a1:=kk az (Yv au);have a7:=kk a5 (Ve T d a1);have av:=kk ar (X4 T);have a3:=oo af (Se T av);have ah:=kk ag (Sv T);have ao:=kk aj (Vu T d bj ah);have bt:=Yk (P:=l.prog) (w:=w) (base:=base) L.F T (cE X G b2) cj ch m q u bu cg aq;have ak:Kn l.prog w K mg base _ _ _ _ _:=⟨_,_,Z,FN (P:=l.prog) (w:=w) (base:=base) Z.F T C I a8 a9⟩;have ai:Kn l.prog w K mg base _ _ _ _ _:=⟨_,_,A,(GF (P:=l.prog) (w:=w) (base:=base) A.F M L bt).imp T4⟩;have ae:Kn l.prog w K mg base _ _ _ _ _:=⟨_,_,y,(GD (P:=l.prog) (w:=w) (base:=base) y.F M k3 af a3 L bt).imp Yh⟩;have a6:=kk a4 (W0 T);exact Vr T ao a7 ak J ai ae a6 _ _ FL
theorem walk {l:PySem.W.OpenLaw}{q:Ah}{g:Aa Af}{XP:(Af->Ab Ac)->Ag->Prop}{p:World->Ag->Prop}{d:DefRec}{K:Params->kM}(I:l.most=some 63) (o:d.params.defaults=[])
  (C:∀ (w:World) (h:Ag),p w h->(K w.params).In h)
  (F:∀ (w:World) (j:Af->Ab Ac) (r:Ad) (h:Ag),(K w.params).In h->h.Ns mainGlobals j->j d.name=some (.ref r) ->∃ fd:FuncData,(∀ (s:Ae) (u:Ac),BindsTo s fd ⟨[u],[]⟩ [("script",u)])/\∀ base:Ag,(K w.params).In base->base.Ns mainGlobals j->FnOk l.prog w (K w.params) j base lV 9 r fd ["script"] (Cm (K w.params))) :
  PySem.W.WalkO q g XP p l.row.toRowW d [] (λf J=>PySem.call f J) :=
 L2.walk_of (n:=63) (k:=9) (x := "script") (CX:=λ_=>lV) (sp:=λw=>Cm (K w.params)) I (by decide) o ⟨rfl,by decide,by decide⟩ C F (λ_ _ a i e b c=>Y2 e b c) λ_ _ _ _ _ z=>z
end Lw
namespace PySem.W.Fast
theorem tw3541337695963973236:True:=⟨⟩
theorem tw11740426119062445146:True:=⟨⟩
theorem tw3991308109930023279:True:=⟨⟩
theorem tw6933687763611304826:True:=⟨⟩
theorem tw10202679838755775644:True:=⟨⟩
theorem tw8570830580166803997:True:=⟨⟩
theorem tw2312214592719209584:True:=⟨⟩
theorem tw17518936792284297550:True:=⟨⟩
theorem tw11509617802921659482:True:=⟨⟩
theorem tw8367325826167669369:True:=⟨⟩
theorem tw12393131025030455320:True:=⟨⟩
theorem tw8587269316534309617:True:=⟨⟩
theorem tw10002010492805514977:True:=⟨⟩
theorem tw4290457581827091518:True:=⟨⟩
theorem tw14849458155430685805:True:=⟨⟩
theorem tw7222317302075799455:True:=⟨⟩
theorem tw5367714628898092210:True:=⟨⟩
theorem tw937235179777524975:True:=⟨⟩
theorem tw15997735664495421890:True:=⟨⟩
theorem tw15871202020662745014:True:=⟨⟩
theorem tw13151703171722172204:True:=⟨⟩
theorem tw3550345687831492696:True:=⟨⟩
theorem tw5845235465443293995:True:=⟨⟩
theorem tw10734399431946779092:True:=⟨⟩
theorem tw8753337739192514458:True:=⟨⟩
theorem tw11620387905137180154:True:=⟨⟩
theorem tw5922160585325256159:True:=⟨⟩
theorem tw2088716393950234145:True:=⟨⟩
theorem tw5965728274963863110:True:=⟨⟩
theorem tw4679431417334215083:True:=⟨⟩
theorem tw8235921022430536836:True:=⟨⟩
theorem tw14300048902848596726:True:=⟨⟩
theorem tw13098316600374022116:True:=⟨⟩
theorem tw3348684700131094777:True:=⟨⟩
theorem tw9203015792516564939:True:=⟨⟩
theorem tw9268172417659903460:True:=⟨⟩
theorem tw4667925459840363516:True:=⟨⟩
theorem tw3455709970798626582:True:=⟨⟩
theorem tw2239242036257896908:True:=⟨⟩
theorem tw11385494128053085234:True:=⟨⟩
theorem tw10125022879670439172:True:=⟨⟩
theorem tw2911711811080400952:True:=⟨⟩
theorem tw6277324842640504436:True:=⟨⟩
theorem tw1812699543908915559:True:=⟨⟩
theorem tw5176109566645329142:True:=⟨⟩
theorem tw9324515827782985909:True:=⟨⟩
theorem tw15586397636704479847:True:=⟨⟩
theorem tw6498480713845559553:True:=⟨⟩
theorem tw13193589131131318046:True:=⟨⟩
theorem tw17625446043393888792:True:=⟨⟩
theorem tw17834685699619608398:True:=⟨⟩
theorem tw12675970207919449926:True:=⟨⟩
theorem tw16626672890462531408:True:=⟨⟩
theorem tw17309150409952821405:True:=⟨⟩
theorem tw12743280206491892640:True:=⟨⟩
theorem tw141637190348043256:True:=⟨⟩
theorem tw3533892649804122278:True:=⟨⟩
theorem tw11009331539188176316:True:=⟨⟩
theorem tw6972765890820653188:True:=⟨⟩
theorem tw1424901662026892984:True:=⟨⟩
theorem tw6263757762862092631:True:=⟨⟩
theorem tw6018039778167843453:True:=⟨⟩
theorem tw15651030362550891703:True:=⟨⟩
theorem tw7366410447839896727:True:=⟨⟩
theorem tw6639754337913323046:True:=⟨⟩
theorem tw13832987255566972614:True:=⟨⟩
theorem tw18261643404147060079:True:=⟨⟩
theorem tw1791042456024024487:True:=⟨⟩
theorem tw17619377151746381421:True:=⟨⟩
theorem tw12180941427073673522:True:=⟨⟩
theorem tw13239538504772151194:True:=⟨⟩
theorem tw5656496264284680279:True:=⟨⟩
theorem tw17293348456154419188:True:=⟨⟩
theorem tw6326008322652532481:True:=⟨⟩
theorem tw13394316657365217502:True:=⟨⟩
theorem tw7956696266393506224:True:=⟨⟩
theorem tw14184071454246350518:True:=⟨⟩
theorem tw9436478582910024038:True:=⟨⟩
theorem tw127504887105458873:True:=⟨⟩
theorem tw12491607476260052069:True:=⟨⟩
theorem tw10388643166530113892:True:=⟨⟩
theorem tw2566931715952344716:True:=⟨⟩
theorem tw3744174150334739211:True:=⟨⟩
theorem tw500478408891387015:True:=⟨⟩
theorem tw12532900426152214804:True:=⟨⟩
theorem tw1342016549082679976:True:=⟨⟩
theorem tw9481717571465857565:True:=⟨⟩
theorem tw5563200723255540645:True:=⟨⟩
theorem tw2981862998574377126:True:=⟨⟩
theorem tw1339615983359231794:True:=⟨⟩
theorem tw14510748746353042027:True:=⟨⟩
theorem tw18433105471325271870:True:=⟨⟩
theorem tw4209936434577606688:True:=⟨⟩
theorem tw4735672320487487385:True:=⟨⟩
theorem tw16254527151634778769:True:=⟨⟩
theorem tw17897844961134713438:True:=⟨⟩
theorem tw17626384267537233661:True:=⟨⟩
theorem tw7369854993490123760:True:=⟨⟩
theorem tw14760899156652285144:True:=⟨⟩
theorem tw17606831000497585597:True:=⟨⟩
theorem tw16061798322962564114:True:=⟨⟩
theorem tw103580430258259290:True:=⟨⟩
theorem tw9434368974269294326:True:=⟨⟩
theorem tw14239097192836536764:True:=⟨⟩
theorem tw17367313581581283035:True:=⟨⟩
theorem tw10230513665535132073:True:=⟨⟩
theorem tw16441737491702861020:True:=⟨⟩
theorem tw14417274014880888370:True:=⟨⟩
theorem tw11096993293108507344:True:=⟨⟩
theorem tw1603534357363888704:True:=⟨⟩
theorem tw12747330862344618061:True:=⟨⟩
theorem tw3243984134164688685:True:=⟨⟩
theorem tw13645349213143231742:True:=⟨⟩
theorem tw9613732623162219780:True:=⟨⟩
theorem tw1575768172019835097:True:=⟨⟩
end PySem.W.Fast
open PySem PySem.W PyProof.Rows
set_option maxRecDepth 100000 in
set_option maxHeartbeats 0 in
theorem PySem.Challenge.cw_laidcells_k33_not_laid_together_holds : PySem.Challenge.rw_laidcells_k33_not_laid_together.Holds := by
 w_on;o_law;k_head;(case hw=>w_witness2)
 k_fill
 refine Lw.walk (l:=PySem.Challenge.rw_laidcells_k33_not_laid_together) rfl rfl (fun w h Y=>PySem.W.kIn_of Y) ?F
 case F =>
  intro w mg fa h KX G hmg;refine' Lw.all_mk KX G hmg ?_ ?_ ?_ ?_ ?_ ?_ ?_ ?_ ?_ ?_ ?_ ?_ ?_ ?_ ?_ ?_ ?_ ?_ ?_ ?_ ?_ ?_ ?_ ?_ ?_ ?_ ?_ ?_ ?_ ?_ ?_ ?_ ?_ ?_ ?_ ?_ ?_ ?_ ?_ ?_ ?_ ?_ ?_ ?_ ?_ ?_ ?_ ?_ ?_ ?_ ?_ ?_ ?_ ?_ ?_ ?_ ?_ ?_ ?xCE ?xCN ?xCA ?xCC ?xCL ?lkCN ?xfI ?lI ?cI ?kI ?hoc ?hbm ?xcN ?g1 ?g2 ?g3 ?kpCN ?faCN ?fbCN ?fcCN ?fdCN ?feCN ?ff ?fg ?sa ?fw ?exm ?lkCC ?xfJ ?lJ ?cJ ?kJ ?hoj ?hbc ?xcC ?kpCC ?faCC ?fbCC ?fcCC ?fdCC ?feCC ?saC ?fr ?exC ?nN ?nV ?kN3 ?cC ?kC3 ?k3 ?xL ?x8 ?xS ?xN ?lS ?lN ?zN ?l_1 ?l_2 ?l_3 ?l_4 ?l_5 ?l_6 ?l_7 ?vz1 ?vz2 ?vz3 ?vz4 ?vz5 ?vz6 ?vz7 ?vL ?v8 ?vS1 ?vS2 ?vj1 ?vj2 ?vj3 ?vj4 ?vj5 ?vj6 ?vj7 ?vj8 ?vj9 ?vj10 ?q1 ?q2 ?q3 ?q4 ?q5 ?q6 ?q7 ?bI ?bO ?bG ?bA ?vbI ?vbO ?vbG ?vbA
  all_goals try refine' Lw.df_mk ?_ ?_ ?_ ?_
  all_goals try unfold Lw.NZ
  all_goals try first | k_is | (dsimp only;k_is)
  all_goals first | kernel_rfl | rfl
