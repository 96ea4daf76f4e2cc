import PyProof.Rows.All
import Wide.All
import OpenK.AllK
import Wide.FinOn
import Lean
import PyProof.EqAt
import PyProof.EqKinds
import PyProof.TupleCall
import PyProof.StationsW
import PyProof.Commute
import PyProof.ExcClass3
import PyProof.ExcInit
import OpenK.KCls
import OpenK.KMake
import PyProof.ExcArgsOwn
import PyProof.InstStoreFacts
import PyProof.MaxThree
import KE.KMinKey
import KE.KIntText
import PyProof.FString
import PyProof.FitsInt
import PyProof.DictUpdate
import PyProof.Draws
import PyProof.EnumMake
import PyProof.DictIter
import PyProof.StrBlock2
import KE.KDictSum
import KE.KRevSl
import PyProof.Rows.SortStr
import PyProof.Rows.SortWalk
import PyProof.DictValues
import PyProof.DictWalks
import PyProof.MeetsDictList
import PySem.Challenge.RW_laidcells_k34_claims_laid_together
set_option Elab.async false
set_option linter.all false
set_option compiler.extract_closed false
set_option maxRecDepth 100000
set_option maxHeartbeats 20000000
noncomputable section
abbrev Aa:=@List
abbrev Ab:=@Option
abbrev Ac:=@PySem.Value
abbrev Ad:=@PySem.Addr
abbrev Ae:=@PySem.Shared
abbrev Af:=@PySem.Str
abbrev Ag:=@PySem.Heap
abbrev Ah:=@PySem.Program
abbrev nH:=PySem.W.Frag
abbrev aA:=@List.length_map
abbrev aB:=@PySem.wpAny_bind
abbrev aD:=@PySem.Heap.get?_push_of_some
abbrev aE:=@List.length_append
abbrev aF:=@PySem.wpAny_pure
abbrev aG:=@if_neg
abbrev aH:=@List.getElem?_eq_getElem
abbrev aI:=@List.mem_cons_self
abbrev aJ:=@List.mem_singleton
abbrev aK:=@List.mem_of_getElem?
abbrev aL:=@List.mem_append_left
abbrev aM:=@List.mem_cons
abbrev aO:=@List.mem_map
abbrev aP:=@List.getElem?_eq_some_iff
abbrev aQ:=@if_pos
abbrev aR:=@List.not_mem_nil
abbrev aT:=@List.map_append
abbrev aU:=@List.map_map
abbrev aV:=@List.mem_cons_of_mem
abbrev aW:=@List.mem_append
abbrev aX:=@List.mem_append_right
abbrev aY:=@decide_eq_false
abbrev aZ:=@PySem.Heap.lt_size
abbrev bB:=@Nat.le_refl
abbrev bC:=@decide_eq_true
abbrev bD:=@List.map_cons
abbrev bE:=@List.size_toArray
abbrev bF:=@PySem.Heap.get?_push_size
abbrev bH:=@List.getElem?_map
abbrev bK:=@List.length_filter_le
abbrev bM:=@List.append_assoc
abbrev bN:=@Bool.false_ne_true
abbrev bP:=@List.nodup_cons
abbrev bQ:=@List.mem_map_of_mem
abbrev bR:=@List.mem_filter
abbrev bS:=@Nat.le_trans
abbrev bT:=@Nat.lt_of_lt_of_le
abbrev bU:=@PyProof.Rows.boot_tuple
abbrev bV:=@Option.some.inj
abbrev bW:=@List.nodup_append
abbrev bX:=@PySem.AutoSeq1.wpAny_loadPart'
abbrev bY:=@PySem.W.mg_none_of
abbrev bZ:=@List.length_replicate
abbrev cA:=@congrArg
abbrev cB:=@List.length_set
abbrev cD:=@Nat.ne_of_lt
abbrev cE:=@List.nodup_nil
abbrev cF:=@PySem.Heap.get?_update_other
abbrev cG:=@Array.getElem?_eq_getElem
abbrev cH:=@List.take_add_one
abbrev cK:=@PySem.Heap.get?_update_self
abbrev cL:=@Bool.false_eq_true
abbrev cM:=@PySem.F.plainAttrs_list
abbrev cO:=@List.append_nil
abbrev cP:=@PySem.wpAny_holding
abbrev cQ:=@PySem.W.mg_of
abbrev cR:=@PySem.boot_len
abbrev cS:=@List.length_cons
abbrev cT:=@List.cons_append
abbrev cU:=@PyProof.Rows.boot_list
abbrev cV:=@PyProof.Rows.boot_dict
abbrev cW:=@List.length_take
abbrev cX:=@Bool.and_eq_true
abbrev cY:=@List.take_length
abbrev cZ:=@PySem.wpAny_mono
abbrev dB:=@PySem.wpAny_setField_rec
abbrev dF:=@Option.map_eq_some_iff
abbrev dH:=@List.lookup_cons
abbrev dJ:=@List.eq_nil_iff_forall_not_mem
abbrev dL:=@List.length_nil
abbrev dM:=@Int.toNat_natCast
abbrev dN:=@Nat.lt_irrefl
abbrev dO:=@List.replicate_succ
abbrev dP:=@PyProof.Rows.boot_isinstance
abbrev dQ:=@PySem.wpAny_truthy_bool
abbrev dR:=@Option.isSome_iff_exists
abbrev dU:=@Nat.mod_lt
abbrev dX:=@PySem.F.slot_list_append
abbrev dY:=@PySem.F.type_list_append
abbrev dZ:=@List.getElem?_append_right
abbrev eB:=@PySem.F.excBase_ValueError
abbrev eC:=@PySem.wpAny_call_entry
abbrev eG:=@PySem.MeetsSeq3.plain_eq_loop
abbrev eI:=@Sum.inr.inj
abbrev eJ:=@PySem.wpAny_field
abbrev eK:=@PySem.F.slot_dict_itemiterator_next
abbrev eM:=@Classical.byContradiction
abbrev eO:=@PySem.W.kia_one
abbrev eP:=@beq_eq_false_iff_ne
abbrev eQ:=@PySem.mem_of_lookup
abbrev eR:=@List.map_congr_left
abbrev eT:=@decide_eq_true_eq
abbrev eU:=@List.length_range
abbrev eV:=@PySem.F.plainAttrs_dict
abbrev eX:=@List.filter_cons_of_pos
abbrev eY:=@List.getElem?_set_ne
abbrev eZ:=@PySem.Calls.Constant_str
abbrev fG:=@PySem.Calls.spliced_cons
abbrev fH:=@PySem.Obj.data_mapFields
abbrev fK:=@List.mem_replicate
abbrev fM:=@List.find?_cons
abbrev fQ:=@Ne.symm
abbrev fU:=@of_decide_eq_true
abbrev fX:=@Array.getElem?_toList
abbrev fY:=@List.cons.injEq
abbrev fZ:=@PySem.F.slot_dict_keyiterator_next
abbrev gA:=@Nat.zero_le
abbrev gB:=@List.all_eq_true
abbrev gC:=@List.filter_cons_of_neg
abbrev gE:=@List.eraseIdx_cons_succ
abbrev gF:=@PySem.wpAny_callSpecial?_slot
abbrev gG:=@PyProof.Rows.callWith_type1
abbrev gH:=@PySem.wpAny_attempt
abbrev gI:=@PySem.strLen_append
abbrev gJ:=@PySem.Calls.callWith_builtin
abbrev gK:=@Array.getElem?_eq_some_iff
abbrev gL:=@PySem.wpAny_loadPart_at
abbrev gM:=@Array.length_toList
abbrev gO:=@List.getElem?_append_left
abbrev gP:=@PySem.Obj.isFreed_of_fields
abbrev gQ:=@if_false
abbrev gR:=@PySem.wpAny_Call_Name_kw
abbrev gS:=@Nat.lt_of_le_of_lt
abbrev gT:=@PySem.Around.in1_units
abbrev gU:=@PySem.Paired.length
abbrev gW:=@PySem.Heap.get?_none_of_le
abbrev gX:=@Nat.le_succ
abbrev gY:=@PySem.codeAny_call_builtin
abbrev gZ:=@PySem.Around.under_plainId
abbrev hG:=@Bool.and_eq_true_iff
abbrev hU:=@PySem.wpAny_newObj_type
abbrev hV:=@List.nil_append
abbrev hW:=@PySem.codeAny_builtin
abbrev hZ:=@List.getElem?_set_self
abbrev iB:=@PySem.wpAny_richCompare_same_room
abbrev iC:=@List.any_cons
abbrev iD:=@PySem.wpAny_of_eq
abbrev iE:=@List.getElem_mem
abbrev iF:=@PySem.wpAny_isInstance
abbrev iH:=@PySem.F.excAttr_ValueError
abbrev iJ:=@beq_iff_eq
abbrev iK:=@List.mem_iff_getElem?
abbrev iL:=@PySem.Calls.spliced_nil
abbrev iM:=@List.flatten_cons
abbrev iN:=@PySem.wpAny_dictEntries
abbrev iP:=@List.Pairwise.map
abbrev iQ:=@PySem.Heap.SameBut.refl
abbrev iR:=@PySem.wpAny_standAt
abbrev iS:=@PySem.wpAny_call
abbrev iT:=@PySem.plainId_quiet
abbrev iU:=@List.set_eq_of_length_le
abbrev iW:=@List.filterMap_cons
abbrev iX:=@Nat.add_le_add_left
abbrev iY:=@List.mem_range
abbrev iZ:=@beq_self_eq_true
abbrev jA:=@List.perm_middle
abbrev jB:=@List.any_eq_true
abbrev jD:=@PySem.MeetsSeq3.entry_eq_loop
abbrev jE:=@Nat.le_of_lt
abbrev jF:=@PySem.tupleKind_room_in1
abbrev jG:=@Array.getElem?_eq_none
abbrev jH:=@List.zip_cons_cons
abbrev jI:=@Bool.eq_iff_iff
abbrev jJ:=@PySem.wpAny_dictEpoch
abbrev jK:=@Array.size_push
abbrev jL:=@PySem.F.slot_enumerate_next
abbrev jM:=@Option.some.injEq
abbrev jN:=@PySem.PassesOwn.leaving
abbrev jO:=@PySem.Calls.evalArgs_plain
abbrev jQ:=@PySem.wpAny_FormattedValue_plain
abbrev jR:=@Nat.le_add_right
abbrev jS:=@if_true
abbrev jT:=@List.getElem?_zip_eq_some
abbrev jU:=@List.filter_eq_self
abbrev jV:=@List.length_pos_iff
abbrev jW:=@List.filter_sublist
abbrev jX:=@PySem.F.args_tuple_add_2
abbrev jY:=@PySem.F.store_ValueError
abbrev jZ:=@PySem.F.slot_list_getattribute
abbrev kA:=@or_false
abbrev kB:=@PySem.wpAny_passesOwn
abbrev kC:=@PySem.Code.quiet_builtin
abbrev kD:=@PySem.wpAny_tupleItemsOf
abbrev kE:=@PySem.F.entry_tuple_add
abbrev kF:=@List.getElem?_cons_zero
abbrev kG:=@List.getElem?_cons_succ
abbrev kH:=@List.take_sublist
abbrev kK:=@PySem.F.slot_tuple_add
abbrev kL:=@List.reverse_cons
abbrev kM:=@List.map_nil
abbrev kN:=@PySem.call_meetsIn
abbrev kO:=@PySem.wpAny_setField
abbrev kP:=@PySem.Heap.get?_push_at
abbrev kQ:=@PySem.Heap.size_push
abbrev kR:=@List.take_of_length_le
abbrev kS:=@PySem.wpAny_isOneOf_itemiter
abbrev kT:=@List.foldl_append
abbrev kU:=@List.eraseIdxIfInBounds_toArray
abbrev kW:=@List.length_singleton
abbrev kX:=@PySem.F.slot_dict_pop
abbrev kY:=@PySem.F.slot_dict_get
abbrev kZ:=@PySem.wpAny_notOrdered_dict
abbrev lA:=@PySem.wpAny_formatField_str
abbrev lB:=@List.getElem?_eq_none
abbrev lD:=@List.Perm.append_left
abbrev lG:=@Nat.succ_le_succ
abbrev lH:=@List.filter_cons
abbrev lK:=@Nat.not_lt
abbrev lO:=@List.all_cons
abbrev lP:=@PySem.wpAny_execs_nil
abbrev lQ:=@PySem.SeqAt.EqAt.same
abbrev lR:=@PySem.PassesOwn.never
abbrev lU:=@Bool.or_eq_true
abbrev lV:=@PySem.wpAny_updateSeq
abbrev lX:=@PySem.wpAny_ite_split
abbrev lY:=@PySem.wpAny_isSubtype_exc
abbrev lZ:=@List.getElem_of_mem
abbrev mB:=@PySem.codeAny_mono
abbrev mD:=@Nat.le_of_eq
abbrev mE:=@PySem.wpAny_typeOf
abbrev mF:=@List.mem_filterMap
abbrev mG:=@Array.find?_toList
abbrev mH:=@PySem.W.callWith_K
abbrev mJ:=@PySem.call_meets
abbrev mK:=@Option.isSome_some
abbrev mM:=@PySem.wpAny_fieldsOf
abbrev mO:=@PySem.refuseLoop_ref
abbrev mP:=@PySem.sizeLine_eq
abbrev mQ:=@Option.isSome_map
abbrev mR:=@Bool.eq_false_iff
abbrev mS:=@Function.comp_def
abbrev mU:=@List.filter_congr
abbrev mV:=@PySem.Value.ref.inj
abbrev mW:=@List.cons.inj
abbrev mX:=@Option.bind_some
abbrev mY:=@List.nodup_range
abbrev mZ:=@Nat.lt_trans
abbrev nA:=@List.all_map
abbrev nB:=@Nat.zero_add
abbrev nC:=@List.of_mem_zip
abbrev nE:=@List.forIn_cons
abbrev nF:=@Int.emod_nonneg
abbrev nG:=@List.range_succ
namespace L2
open PySem PySem.Spec PyProof.Rows
abbrev hH:=Sum Int Af
noncomputable def Aq:hH->Ac->Bool
 | .inl k,v=>Value.isInt k v
 | .inr x,v=>Value.isStrOf x v
def EX (w:World):hH->Int
 | .inl k=>hashInt k
 | .inr x=>hashStr w x
theorem yO:∀ {k:hH}{v:Ac},Aq k v=true->(∃ i t,k=Sum.inl i/\v=Value.int i t)\/(∃ x t,k=Sum.inr x/\v=Value.str x t)
 | .inl i,v,h=>by
  obtain⟨t,e⟩:=Value.isInt_shape (k:=i) (v:=v) h;exact .inl ⟨i,t,rfl,e⟩
 | .inr x,v,h=>by
  obtain⟨t,e⟩:=Value.isStrOf_shape (x:=x) (v:=v) h;exact .inr ⟨x,t,rfl,e⟩
theorem FC (i:Int) (t:Tok):Aq (.inl i) (.int i t)=true:=by simp[Aq,Value.isInt]
theorem RA (x:Af) (t:Tok):Aq (.inr x) (.str x t)=true:=by simp[Aq,Value.isStrOf]
theorem HZ (a b:Int):decide ((Sum.inl a:hH)=Sum.inl b)=(a == b):=by
 by_cases e:a=b
 .subst e;simp
 .have h:¬ (Sum.inl a:hH)=Sum.inl b:=λq=>e (Sum.inl.inj q)
  rw[aY h];exact (eP.mpr e).symm
theorem W3 (a b:Af):decide ((Sum.inr a:hH)=Sum.inr b)=decide (a=b):=by
 by_cases e:a=b
 .subst e;simp
 .have h:¬ (Sum.inr a:hH)=Sum.inr b:=λq=>e (eI q)
  rw[aY h,aY e]
theorem MW (a:Int) (b:Af):decide ((Sum.inl a:hH)=Sum.inr b)=false:=aY (λq=>nomatch q)
theorem EA (a:Af) (b:Int):decide ((Sum.inr a:hH)=Sum.inl b)=false:=aY (λq=>nomatch q)
def qJ (g:Ah) (w:World):PySem.KeyKind g w hH where
 is:=Aq
 hash:=EX w
 inj:=λv a b m f=>by
  rcases yO m with⟨i,t,rfl,rfl⟩ | ⟨x,t,rfl,rfl⟩
  .rcases yO f with⟨j,u,rfl,e⟩ | ⟨y,u,rfl,e⟩
   .injection e with c _;rw[c]
   .exact nomatch e
  .rcases yO f with⟨j,u,rfl,e⟩ | ⟨y,u,rfl,e⟩
   .exact nomatch e
   .injection e with c _;rw[c]
 byValue:=λk v h=>by
  rcases yO h with⟨i,t,rfl,rfl⟩ | ⟨x,t,rfl,rfl⟩<;>rfl
 pyHash:=λd h=>by
  rcases yO d with⟨i,t,rfl,rfl⟩ | ⟨x,t,rfl,rfl⟩
  .exact wpAny_pyHash_int h
  .exact wpAny_pyHash_str h
 eqBool:=λn d h=>by
  rcases yO n with⟨i,t,rfl,rfl⟩ | ⟨x,t,rfl,rfl⟩
  .rcases yO d with⟨j,u,rfl,rfl⟩ | ⟨y,u,rfl,rfl⟩
   .rw[HZ] at h;exact wpAny_eqBool_int h
   .rw[MW] at h;exact SeqAt.EqAt.int_str i t y u _ _ _ _ h
  .rcases yO d with⟨j,u,rfl,rfl⟩ | ⟨y,u,rfl,rfl⟩
   .rw[EA] at h;exact SeqAt.EqAt.str_int x t j u _ _ _ _ h
   .rw[W3] at h;exact wpAny_eqBool_str h
 «strs»:=λk x t v h=>by
  rcases yO h with⟨i,u,rfl,e⟩ | ⟨y,u,rfl,e⟩
  .exact nomatch e
  .injection e with c _;subst c;cases v<;>rfl
theorem DJ (g:Ah) (w:World) (i:Int) (t:Tok):(qJ g w).is (.inl i) (.int i t)=true:=FC i t
theorem Qq (g:Ah) (w:World) (x:Af) (t:Tok):(qJ g w).is (.inr x) (.str x t)=true:=RA x t
inductive V where
 | e | b (b:Bool) | int (i:Int) | str (x:Str) | byt (b:Array UInt8) | flt (b:UInt64) | ref (a:Addr) | ty (n:String)
 deriving DecidableEq
def nO:V->Ac->Prop
 | .e,u=>u=Value.none
 | .b b,u=>u=Value.bool b
 | .int i,u=>∃ t,u=Value.int i t
 | .str x,u=>∃ t,u=Value.str x t
 | .byt b,u=>∃ t,u=Value.bytes b t
 | .flt b,u=>∃ t,u=Value.float b t
 | .ref a,u=>u=Value.ref a
 | .ty n,u=>u=Value.type n
abbrev oA:Aa V->Aa Ac->Prop:=Paired nO
theorem oA.length (r:oA j g):j.length=g.length:=gU r
theorem oA.get:∀ {j:Aa V}{g:Aa Ac}{i:Nat}{x:V},oA j g->j[i]?=some x->∃ u,g[i]?=some u/\nO x u
 | _,_,_,_,.nil,e=>by simp at e
 | _,_,0,_,.cons r _,e=>by simp at e;subst e;exact⟨_,rfl,r⟩
 | _,_,i+1,x,.cons _ t,e=>by
  obtain⟨u,a,b⟩:=oA.get (i:=i) (x:=x) t (by simpa using e);exact⟨u,by simpa using a,b⟩
theorem oA.set (r:nO x u):∀ {j:Aa V}{g:Aa Ac}(i:Nat),oA j g->oA (j.set i x) (g.set i u)
 | _,_,_,.nil=>.nil
 | _,_,0,.cons _ t=>.cons r t
 | _,_,i+1,.cons q t=>.cons q (oA.set r i t)
theorem oA.append:∀ {l o:Aa V}{g j:Aa Ac},oA l g->oA o j->oA (l++o) (g++j)
 | _,_,_,_,.nil,s=>s
 | _,_,_,_,.cons r t,s=>.cons r (oA.append t s)
def tR:Ab V->Ab Ac->Prop
 | some v,some u=>nO v u
 | none,none=>True
 | _,_=>False
def KV {g:Type}:Aa (g×V)->Aa (g×Ac)->Prop:=Paired λ(p:g×V) (q:g×Ac)=>p.1=q.1/\nO p.2 q.2
def kV:hH->V
 | .inl i=>.int i
 | .inr x=>.str x
inductive HO where
 | l (xs:List V)
 | t (xs:List V)
 | k (kvs:List (hH×V)) | T (kvs:List (List hH×V))
 | set (S:Int->Bool) (n:Nat)
 | ins (C dx:Addr) (fs:List (Str×V))
 | o (x:Addr)
 | xd (fs:List (Str×V))
 | met (f x:Addr)
 | rng (lo hi:Int)
 | frz (o:Obj) (u:HO)
 | tbl (ps:Array Value)
 | ext (φ:Heap->Prop)
abbrev Hp:=Ad->Ab HO
def upd (H:Hp) (a:Ad) (o:HO):Hp:=λb=>if b=a then some o else H b
theorem oO:upd H a o a=some o:=by unfold upd;rw[if_pos rfl]
theorem nP (h:b≠a):upd H a o b=H b:=by unfold upd;rw[if_neg h]
theorem Xn:upd (upd H a o) a u=upd H a u:=by
 funext b;unfold upd;split<;>rfl
theorem EJ {H:Hp}{a b:Ad}{o u:HO}(h:H a=some o) (g:H b=some u) (d:o≠u):a≠b:=by
 intro e;subst e;rw[h] at g;exact d (bV g)
theorem pJ {H:Hp}{a b:Ad}{o:HO}(h:H a=some o) (g:H b=none):a≠b:=by
 intro e;subst e;rw[h] at g;cases g
section
variable (P:Ah) (w:World)
def Ap (h:Ag) (a:Ad) (items:Array Ac):Prop:=IsTup h a items/\∃ o,h.get? a=some o/\o.dict=none
theorem Ap.new (h:Ag) (items:Array Ac):Ap (h.push { cls:=.type "tuple",data:=.seq items }) h.objs.size items:=⟨IsTup.new _ _,_,bF _ rfl,rfl⟩
def pE (H:Hp) (h:Ag) (a:Ad):HO->Prop
 | .l d=>d.length<=sizeLine/\∃ (b:Aa Ac) (n:Nat),oA d b/\h.get? a=some { cls:=.type "list",data:=.seq b.toArray n }
 | .t d=>d.length<=sizeLine/\∃ b:Aa Ac,oA d b/\Ap h a b.toArray
 | .k c=>c.length<=sizeLine/\(a == sysModules)=false/\∃ A,KV c A/\h.DictOf (qJ P w) a A
 | .T c=>c.length<=sizeLine/\(a == sysModules)=false/\∃ d:Aa (Aa hH×Ad×Ac),
   Paired (λ(p:Aa hH×V) (q:Aa hH×Ad×Ac)=>p.1=q.1/\H q.2.1=some (.t (p.1.map kV))/\nO p.2 q.2.2) c d /\
   ∃ o s B,h.get? a=some o/\o.ExactDict/\o.data = .dict s B/\s.toList=d.map (entryOfKey (tupleKind (qJ P w)))/\(d.map (·.1)).Nodup
 | .set S n=>h.SetOf (intKind P w) a S n
 | .ins C i fs=>H i=some (.o a)/\fs.length<=1000/\i≠a/\h.get? a=some (PySem.W.instObj C i) /\
   ∃ e,h.Ns1 i e/\(∀ f,tR (fs.lookup f) (e f))/\PySem.Within e (fs.map (·.1))
 | .o _=>∃ o,h.get? a=some o
 | .xd fs=>∃ e,h.Ns1 a e/\∀ f,tR (fs.lookup f) (e f)
 | .rng lo D=>∃ t u v,h.get? a=some { cls:=.type "range",data:=.fields #[.int lo t,.int D u,.int 1 v] }
 | .frz o u=>h.get? a=some o/\pE H h a u
 | .tbl E=>h.get? a=some { cls:=.none,data:=.fields E }
 | .met f x=>h.get? a=some (PySem.W.methodObj (.ref f) (.ref x))
 | .ext m=>m h/\(∃ o,h.get? a=some o)/\∀ y z:Ag,m y->(∀ o,y.get? a=some o->z.get? a=some o)->m z
def pP (H:Hp) (h:Ag):Prop:=∀ a o,H a=some o->pE P w H h a o
end
section
variable {P:Ah}
theorem pE.lt (x:pE P w H h a o):a<h.objs.size:=by
 cases o with
 | l c=>obtain⟨_,_,_,_,e⟩:=x;exact aZ e
 | t c=>obtain⟨_,_,_,p,_⟩:=x;exact p.lt
 | k b=>obtain⟨_,_,_,_,o,_,_,e,_⟩:=x;exact aZ e
 | T b=>obtain⟨_,_,_,_,o,_,_,e,_⟩:=x;exact aZ e
 | set S n=>obtain⟨o,_,_,_,e,_⟩:=x;exact aZ e
 | ins C d fs=>obtain⟨_,_,_,e,_⟩:=x;exact aZ e
 | o y=>obtain⟨_,e⟩:=x;exact aZ e
 | xd fs=>obtain⟨_,⟨_,_,_,e,_⟩,_⟩:=x;exact aZ e
 | rng lo i=>obtain⟨_,_,_,e⟩:=x;exact aZ e
 | frz m u=>obtain⟨e,_⟩:=x;exact aZ e
 | tbl q=>exact aZ (show h.get? a=some _ from x)
 | met f y=>exact aZ (show h.get? a=some _ from x)
 | ext s=>obtain⟨_,⟨_,e⟩,_⟩:=x;exact aZ e
theorem Paired.mapP {F:l->o->Prop}:∀ {g:Aa l}{j:Aa o},Paired F g j->(∀ a b,F a b->G a b)->Paired G g j
 | _,_,.nil,_=>.nil
 | _,_,.cons r t,f=>.cons (f _ _ r) (Paired.mapP t f)
theorem pE.stay (x:pE P w H h a o) (k:∀ b u,(b=a\/H b=some (.o a))->h.get? b=some u->j.get? b=some u)
  (J:∀ b,H b=some (.o a)->I b=some (.o a)) (U:∀ b g,H b=some (.t g)->I b=some (.t g)):pE P w I j a o:=by
 induction o with
 | l g=>obtain⟨z,A,n,r,e⟩:=x;exact⟨z,A,n,r,k _ _ (.inl rfl) e⟩
 | t g=>obtain⟨z,A,r,⟨i,e,c⟩,M,B,K⟩:=x;exact⟨z,A,r,⟨i,k _ _ (.inl rfl) e,c⟩,M,k _ _ (.inl rfl) B,K⟩
 | k D=>obtain⟨z,y,N,r,i,s,m,e,c⟩:=x;exact⟨z,y,N,r,i,s,m,k _ _ (.inl rfl) e,c⟩
 | T D =>
  obtain⟨z,y,g,r,i,s,m,e,c⟩:=x;exact⟨z,y,g,Paired.mapP r λp q z=>⟨z.1,U _ _ z.2.1,z.2.2⟩,i,s,m,k _ _ (.inl rfl) e,c⟩
 | set S n=>obtain⟨i,s,m,t,e,c⟩:=x;exact⟨i,s,m,t,k _ _ (.inl rfl) e,c⟩
 | ins C O fs =>
  obtain⟨d,z,ne,e,E,⟨F,s,m,B,c⟩,r⟩:=x;exact⟨J _ d,z,ne,k _ _ (.inl rfl) e,E,⟨F,s,m,k _ _ (.inr d) B,c⟩,r⟩
 | o y=>obtain⟨i,e⟩:=x;exact⟨i,k _ _ (.inl rfl) e⟩
 | xd fs=>obtain⟨E,⟨F,s,m,e,c⟩,r⟩:=x;exact⟨E,⟨F,s,m,k _ _ (.inl rfl) e,c⟩,r⟩
 | rng lo Q=>obtain⟨t,u,v,e⟩:=x;exact⟨t,u,v,k _ _ (.inl rfl) e⟩
 | frz i u L=>obtain⟨e,q⟩:=x;exact⟨k _ _ (.inl rfl) e,L q⟩
 | tbl G =>
  have e:h.get? a=some { cls:=.none,data:=.fields G }:=x;show j.get? a=some { cls:=.none,data:=.fields G };exact k a _ (.inl rfl) e
 | met f y =>
  have e:h.get? a=some (PySem.W.methodObj (.ref f) (.ref y)):=x;show j.get? a=some (PySem.W.methodObj (.ref f) (.ref y));exact k a _ (.inl rfl) e
 | ext R=>obtain⟨p,⟨o,e⟩,st⟩:=x;exact⟨st _ _ p λo q=>k _ _ (.inl rfl) q,⟨o,k _ _ (.inl rfl) e⟩,st⟩
theorem pP.lt (x:pP P w H h) (e:H a=some o):a<h.objs.size:=(x a o e).lt
theorem pP.fresh (x:pP P w H h) (e:h.objs.size<=a):H a=none:=by
 cases q:H a with
 | none=>rfl
 | some u=>exact absurd (bT (x.lt q) e) (dN _)
theorem pP.kept (x:pP P w H h) (k:∀ b u,h.get? b=some u->g.get? b=some u):pP P w H g:=λa o e =>
 (x a o e).stay (λb u _ q=>k b u q) (λ_ q=>q) λ_ _ q=>q
theorem pP.laid (x:pP P w H h) (k:∀ b u,h.get? b=some u->h'.get? b=some u) (g:h.objs.size<=a) (new:pE P w (upd H a o) h' a o):pP P w (upd H a o) h':=λb u e=>by
 have f:=x.fresh g;by_cases d:b=a
 .subst d;rw[oO] at e;cases e;exact new
 .rw[nP d] at e;exact (x b u e).stay (λc v _ q=>k c v q) (λc q=>by rw[nP (pJ q f)];exact q) λc i q=>by rw[nP (pJ q f)];exact q
end
def Rd (H:Hp) (a:Ad) (u:HO):Prop:=H a=some u\/∃ o,H a=some (.frz o u)
theorem Rd.ok {P:Ah}(r:Rd H a u) (x:pP P w H h):pE P w H h a u:=by
 rcases r with r | ⟨o,r⟩
 .exact x a u r
 .obtain⟨_,q⟩:=x a _ r;exact q
def Fp:Ab HO->Prop
 | some (.l _)=>True
 | some (.k _)=>True
 | some (.T _)=>True
 | some (.set _ _)=>True
 | some (.ins _ _ _)=>True
 | some (.ext _)=>True
 | _=>False
section
variable {P:Ah}
theorem pP.write (ok:pP P w H h) (g:Fp (H x)) (l:e=x\/H e=some (.o x)) (k:∀ b u,b≠e->h.get? b=some u->h'.get? b=some u) (j:∃ u,h'.get? e=some u)
  (new:pE P w (upd H x p) h' x p):pP P w (upd H x p) h':=λb u q=>by
 have d:∀ c y,H c=some (.o y)->c≠x:=λc y r z=>by subst z;rw[r] at g;exact g
 have f:∀ c n,H c=some (.t n)->c≠x:=λc n r z=>by subst z;rw[r] at g;exact g
 by_cases i:b=x
 .subst i;rw[oO] at q;cases q;exact new
 .rw[nP i] at q;by_cases a:b=e
  .have s:H b=some (.o x):=by
    rcases l with z | z
    .exact absurd (a.trans z) i
    .rw[a];exact z
   rw[q] at s;cases s;obtain⟨v,A⟩:=j;exact⟨v,by rw[a];exact A⟩
  .refine (ok b u q).stay (λc v m r=>k c v ?_ r) (λc r=>by rw[nP (d c b r)];exact r) λc n r=>by rw[nP (f c n r)];exact r
   rcases m with rfl | m
   .exact a
   .rintro rfl;rcases l with z | z
    .exact d c b m z
    .rw[m] at z;cases z;exact i rfl
end
structure Un (fs ex:List Addr) (H H':Hp) (h h':Heap):Prop where
 keep:∀ b o,h.get? b=some o->H b=none->b∉fs->b∉ex->h'.get? b=some o
 slot:∀ b o,h.get? b=some o->H b=none->b∈fs->b∉ex->∃ sl,h'.get? b=some { o with slots:=sl }
 free:∀ b o,h.get? b=some o->H b=none->b∉ex->H' b=none
 there:∀ b o,h.get? b=some o->b∉ex->∃ o',h'.get? b=some o'
 tups:∀ b xs,H b=some (.t xs)->H' b=some (.t xs)
 frzs:∀ b o u,H b=some (.frz o u)->H' b=some (.frz o u)
 tbls:∀ b ps,H b=some (.tbl ps)->∃ more,H' b=some (.tbl (ps++more))
section
theorem Un.any (u:Un fs l H r h o) (q:h.get? b=some g) (n:H b=none) (j:b∉l):∃ p,o.get? b=some { g with slots:=p }:=by
 by_cases a:b∈fs
 .exact u.slot b g q n a j
 .exact⟨g.slots,u.keep b g q n a j⟩
theorem Un.kept (k:∀ b u,h.get? b=some u->g.get? b=some u):Un fs j H H h g :=
 ⟨λb a q _ _ _=>k b a q,λb a q _ _ _=>⟨a.slots,k b a q⟩,λ_ _ _ n _=>n,λb a q _=>⟨a,k b a q⟩,λ_ _ q=>q,λ_ _ _ q=>q,λ_ c q=>⟨#[],by rw[q];simp⟩⟩
theorem Un.refl:Un fs g H H h h:=Un.kept λ_ _ q=>q
theorem Un.laid (k:∀ b u,h.get? b=some u->h'.get? b=some u) (j:h.objs.size<=a) (g:H a=none):Un fs l H (upd H a o) h h' where
 keep:=λb u q _ _ _=>k b u q
 slot:=λb u q _ _ _=>⟨u.slots,k b u q⟩
 free:=λb u q n _=>by rw[nP (cD (bT (aZ q) j))];exact n
 there:=λb u q _=>⟨u,k b u q⟩
 tups:=λb c q=>by rw[nP (pJ q g)];exact q
 frzs:=λb u c q=>by rw[nP (pJ q g)];exact q
 tbls:=λb d q=>⟨#[],by rw[nP (pJ q g),q];simp⟩
theorem Un.write (g:Fp (H x)) (l:e=x\/H e=some (.o x)) (k:∀ b u,b≠e->h.get? b=some u->h'.get? b=some u) (j:∃ u,h'.get? e=some u):Un fs p H (upd H x o) h h':=by
 have f:∀ b,H b=none->b≠x:=λb n z=>by subst z;rw[n] at g;exact g
 have d:∀ b,H b=none->b≠e:=λb n z=>by
  subst z;rcases l with r | r
  .exact f b n r
  .rw[n] at r;cases r
 have c:∀ b u,H b=some u->¬ Fp (some u)->b≠x:=λb u q i z=>by subst z;rw[q] at g;exact i g
 refine⟨λb u q n _ _=>k b u (d b n) q,λb u q n _ _=>⟨u.slots,k b u (d b n) q⟩,λb u q n _=>by rw[nP (f b n)];exact n,λb u q _=>?_,
  λb m q=>by rw[nP (c b _ q λz=>z)];exact q,λb u m q=>by rw[nP (c b _ q λz=>z)];exact q,λb s q=>⟨#[],by rw[nP (c b _ q λz=>z),q];simp⟩⟩
 by_cases a:b=e
 .subst a;exact j
 .exact⟨u,k b u a q⟩
end
noncomputable def G1 (h:Ag) (H:Hp):Aa Ad:=(List.range h.objs.size).filter λa=>(H a).isSome
def yY (h:Ag) (H:Hp):Ag:=PySem.W.hideAll h (G1 h H)
theorem CW (h:Ag) (H:Hp):(yY h H).objs.size=h.objs.size:=PySem.W.hideAll_size _ _
theorem MC (e:h.get? b=some o) (n:H b=none):(yY h H).get? b=some o :=
 PySem.W.hideAll_get _ e λa=>by
  have q:(H b).isSome=true:=(bR.mp a).2;rw[n] at q;simp at q
theorem EO (e:(yY h H).get? b=some o):h.get? b=some o/\H b=none:=by
 have a:h.get? b=some o:=PySem.W.of_hideAll (G1 h H) e;refine⟨a,?_⟩;cases q:H b with
 | none=>rfl
 | some x =>
  have c:b∈G1 h H:=bR.mpr ⟨iY.mpr (aZ a),by simp[q]⟩;have z:(yY h H).get? b=none:=PySem.W.hideAll_none (G1 h H) c;rw[z] at e;cases e
structure Mod (K:nH) (mg:Str->Option Value) (base:Heap):Prop where
 kin:K.In base
 glob:base.Ns mainGlobals mg
 blt:∃ mb,base.Ns builtinsNs mb/\∀ x:Str,x ≠ "__name__" -> mb x=bootBuiltins x
 nolimit:base.NoLimit
/-- the context: a def's body (or a comprehension's block) running. base: fixed through the whole law;s₀,H₀: the entry;outer: the frames whose slots others may change (a def's callers);stack: all frames that run;
 ex: iterators that were made ahead of the entry and are walked here (a comprehension's);fn: the names whose cells were made at the entry (a def: all;a comprehension's block: its own);calm: not within an except suite;pn: pins that every state bears;xe: what is wanted of an exception that leaves the code -/
structure Cx where
 prog:Program
 w:World
 K:nH
 mg:Str->Option Value
 base:Heap
 A:Around
 N:List Str
 s₀:Shared
 H₀:Hp
 env:Env
 outer:List Env
 stack:List Env
 ex:List Addr
 fn:Str->Bool
 calm:Bool
 pn:List (Addr×Obj)
 xe:Value->Shared->Prop
noncomputable def uV (l:Aa Env):Aa Ad:=l.filterMap (·.frame)
abbrev Cx.fs (X:Cx):Aa Ad:=uV X.outer
def Me (g:Scope) (x:Af):Prop:=g.names.lookup x=some .local\/g.names.lookup x=some .cell\/g.names.lookup x=some .free
def wI (g:Scope) (x:Af):Prop:=g.names.lookup x=some .local\/g.names.lookup x=some .cell
def DU (g:Env) (h:Ag) (m:Af->Ab Ac) (x:Af) (u:Ac):Prop :=
 (g.kindOf x=some .local/\m x=some u)\/((g.kindOf x=some .cell\/g.kindOf x=some .free)/\∃ c,g.cells.lookup x=some c/\h.IsCell c (some u))
structure Cx.Ok (X:Cx):Prop where
 mod:Mod X.K X.mg X.base
 kind:X.env.scope.kind = .function
 glob:X.env.globals=mainGlobals
 blt:X.env.builtins=builtinsNs
 above:X.s₀.heap.objs.size<=X.env.locals
 inj:∀ x y c,X.env.cells.lookup x=some c->X.env.cells.lookup y=some c->x=y
 has:∀ x,(X.env.kindOf x=some .cell\/X.env.kindOf x=some .free)->∃ c,X.env.cells.lookup x=some c
 cab:∀ x c,X.fn x=true->X.env.cells.lookup x=some c->X.s₀.heap.objs.size<=c
 hd:X.calm=true->X.A.handled=none
 frames:X.A.frames=some X.stack
 stk:X.stack=X.outer\/(X.stack=X.env::X.outer/\X.env.frame=some X.env.locals)
 exf:∀ b∈X.ex,b≠X.env.locals/\∀ x c,X.env.cells.lookup x=some c->c≠b
 bs:∀ b o,X.base.get? b=some o->X.s₀.heap.get? b=some o/\X.H₀ b=none
 bsz:X.base.objs.size<=X.s₀.heap.objs.size
 noex:∀ b o,X.base.get? b=some o->b∉X.ex
 exfs:∀ b∈X.ex,b∉X.fs
 funs:X.s₀.heap.FunFrames X.base X.outer
 frf:∀ b∈X.fs,X.H₀ b=none
structure Inv (X:Cx) (pins:List (Addr×Obj)) (σ:List (Option V)) (H:Hp) (s:Shared):Prop where
 ok:X.Ok
 os:s.os=X.s₀.os
 bare:AllBare s.gens
 base:Un X.fs X.ex X.H₀ H X.s₀.heap s.heap
 loc:∃ m,s.heap.Ns X.env.locals m/\∀ (i:Nat) (x:Str) (v:V),X.N[i]?=some x->σ[i]?=some (some v)->Me X.env.scope x->∃ u,nO v u/\DU X.env s.heap m x u
 cell:∀ x c,X.env.cells.lookup x=some c->∃ v,s.heap.IsCell c v
 free:H X.env.locals=none
 freeC:∀ x c,X.env.cells.lookup x=some c->H c=none
 pin:∀ p∈X.pn++pins,s.heap.get? p.1=some p.2/\H p.1=none/\p.1≠X.env.locals/\p.1∉X.fs/\∀ v,p.2.data ≠ .cell v
 hok:pP X.prog X.w H s.heap
 len:σ.length=X.N.length
section
variable {X:Cx}
theorem Cx.Ok.nofr (ok:X.Ok) (e:X.base.get? b=some o):b∉X.fs:=λa=>by
 have:=(ok.funs.mem a).1;rw[e] at this;cases this
theorem Inv.bs (I:Inv X g j H s):∀ b o,X.base.get? b=some o->s.heap.get? b=some o/\H b=none:=λb o e =>
 ⟨I.base.keep b o (I.ok.bs b o e).1 (I.ok.bs b o e).2 (I.ok.nofr e) (I.ok.noex b o e),I.base.free b o (I.ok.bs b o e).1 (I.ok.bs b o e).2 (I.ok.noex b o e)⟩
theorem Inv.bk (I:Inv X g j H s):∀ b o,X.base.get? b=some o->s.heap.get? b=some o:=λb o e=>(I.bs b o e).1
theorem Inv.mod (I:Inv X g j H s):Mod X.K X.mg X.base:=I.ok.mod
theorem Inv.kIn (I:Inv X g j H s):X.K.In s.heap:=I.ok.mod.kin.keeps I.bk
theorem Inv.lt (I:Inv X g j H s):X.env.locals<s.heap.objs.size:=let ⟨_,a,_⟩:=I.loc;a.lt
theorem Inv.sz (I:Inv X g j H s):X.s₀.heap.objs.size<=s.heap.objs.size:=bS I.ok.above (jE I.lt)
theorem Inv.nofs (I:Inv X g j H s) (h:s.heap.objs.size<=a):a∉X.fs:=λb=>by
 obtain⟨_,o,c,_⟩:=I.ok.funs.mem b;exact absurd (bT (aZ c) (bS I.sz h)) (dN _)
theorem Inv.cne (I:Inv X g j H s):∀ x c,X.env.cells.lookup x=some c->c≠X.env.locals:=λx c e z=>by
 obtain⟨v,o,d,hd⟩:=I.cell x c e;obtain⟨m,⟨i,h,f,b,a,_⟩,_⟩:=I.loc;rw[z,b] at d;cases d;rw[a] at hd;cases hd
theorem Inv.funs (I:Inv X g j H s):s.heap.FunFrames X.base X.outer:=by
 have all:∀ (l:Aa Env),(∀ b∈uV l,b∈X.fs)->X.s₀.heap.FunFrames X.base l->s.heap.FunFrames X.base l:=by
  intro l;induction l with
  | nil=>intro _ _;trivial
  | cons h r t =>
   intro f k;obtain⟨i,⟨L,o,d,m,n,hd⟩,q⟩:=k;have a:L∈X.fs:=f L (by unfold uV;rw[List.filterMap_cons,d];exact aI);obtain⟨u,e⟩:=I.base.slot L o n (I.ok.frf L a) a λz=>I.ok.exfs L z a
   exact⟨i,⟨L,_,d,m,e,hd⟩,t (λb c=>f b (by unfold uV;rw[List.filterMap_cons,d];exact aV _ c)) q⟩
 exact all X.outer (λ_ c=>c) I.ok.funs
theorem Inv.stack (I:Inv X g j H s):s.heap.FunFrames X.base X.stack:=by
 rcases I.ok.stk with e | ⟨e,a⟩
 .rw[e];exact I.funs
 .rw[e];obtain⟨m,b,_⟩:=I.loc;refine .cons (by rw[I.ok.kind];decide) a b ?_ I.funs;exact gW (bS I.ok.bsz I.ok.above)
theorem Inv.stkSub (I:Inv X g j H s):∀ b∈uV X.stack,b∈X.env.locals::X.fs:=λb a=>by
 rcases I.ok.stk with e | ⟨e,c⟩
 .rw[e] at a;exact aV _ a
 .rw[e] at a;unfold uV at a;rw[iW,c] at a;exact a
theorem Inv.stkFree (I:Inv X g j H s):∀ b∈uV X.stack,H b=none:=λb a=>by
 rcases aM.mp (I.stkSub b a) with e | a
 .rw[e];exact I.free
 .obtain⟨_,o,c,_⟩:=I.ok.funs.mem a;exact I.base.free b o c (I.ok.frf b a) λz=>I.ok.exfs b z a
theorem Inv.step {g':Array GenState}{t':Nat}{d':Drawn}{ch:Aa Ad}(I:Inv X j σ H s)
  (g:∀ b∈ch,(b∈X.ex\/X.s₀.heap.objs.size<=b)/\b≠X.env.locals/\(∀ x c,X.env.cells.lookup x=some c->c≠b)/\∀ p∈X.pn++j,p.1≠b)
  (keep:∀ b o,b≠X.env.locals->b∉X.fs->b∉ch->s.heap.get? b=some o->H b=none->J.get? b=some o)
  (slot:∀ b o,b≠X.env.locals->b∈X.fs->b∉ch->s.heap.get? b=some o->H b=none->∃ sl,J.get? b=some { o with slots:=sl }) (free:∀ b o,b∉ch->s.heap.get? b=some o->H b=none->T b=none)
  (there:∀ b o,b∉ch->s.heap.get? b=some o->∃ o',J.get? b=some o')
  (ab:∀ b C,H b=some (.t C)->T b=some (.t C)) (U:∀ b o u,H b=some (.frz o u)->T b=some (.frz o u)) (aa:∀ b ps,H b=some (.tbl ps)->∃ more,T b=some (.tbl (ps++more)))
  (ns:∀ m,s.heap.Ns X.env.locals m->J.Ns X.env.locals m) (ac:pP X.prog X.w T J) (hg:AllBare g') :
  Inv X j σ T { s with heap:=J,gens:=g',drawn:=d',toks:=t' }:=by
 have F:∀ b o,X.s₀.heap.get? b=some o->b≠X.env.locals:=λb o e=>cD (bT (aZ e) I.ok.above)
 have A:∀ b o,X.s₀.heap.get? b=some o->b∉X.ex->b∉ch:=λb o e a B=>by
  rcases (g b B).1 with z | z
  .exact a z
  .exact absurd (bT (aZ e) z) (dN _)
 have f:∀ x c,X.env.cells.lookup x=some c->∀ v,s.heap.IsCell c v->J.IsCell c v:=λx c e v G=>by
  obtain⟨o,D,hd⟩:=G;have h:c∉ch:=λz=>(g c z).2.2.1 x c e rfl
  by_cases L:c∈X.fs
  .obtain⟨sl,q⟩:=slot c o (I.cne x c e) L h D (I.freeC x c e);exact⟨_,q,hd⟩
  .exact⟨o,keep c o (I.cne x c e) L h D (I.freeC x c e),hd⟩
 refine⟨I.ok,I.os,hg,⟨λb o e n B a=>?_,λb o e n B a=>?_,λb o e n a=>?_,λb o e a=>?_,λb C e=>ab b C (I.base.tups b C e),λb o C e=>U b o C (I.base.frzs b o C e),λb ps e=>?_⟩,?_,λx c e=>?_,?_,λx c e=>?_,λp M=>?_,ac,I.len⟩
 .exact keep b o (F b o e) B (A b o e a) (I.base.keep b o e n B a) (I.base.free b o e n a)
 .obtain⟨sl,y⟩:=I.base.slot b o e n B a;obtain⟨K,E⟩:=slot b _ (F b o e) B (A b o e a) y (I.base.free b o e n a);exact⟨K,E⟩
 .obtain⟨o',y⟩:=I.base.there b o e a;exact free b o' (A b o e a) y (I.base.free b o e n a)
 .obtain⟨o',y⟩:=I.base.there b o e a;exact there b o' (A b o e a) y
 .obtain⟨R,y⟩:=I.base.tbls b ps e;obtain⟨S,E⟩:=aa b _ y;exact⟨R++S,by rw[E,Array.append_assoc]⟩
 .obtain⟨m,Q,P⟩:=I.loc;refine⟨m,ns m Q,λi x v y E O=>?_⟩;obtain⟨u,r,l⟩:=P i x v y E O;refine⟨u,r,?_⟩;rcases l with l | ⟨k,c,e,z⟩
  .exact .inl l
  .exact .inr ⟨k,c,e,f x c e _ z⟩
 .obtain⟨v,z⟩:=I.cell x c e;exact⟨v,f x c e v z⟩
 .obtain⟨m,⟨o,_,_,D,_⟩,_⟩:=I.loc;exact free _ o (λz=>(g _ z).2.1 rfl) D I.free
 .obtain⟨v,o,D,hd⟩:=I.cell x c e;exact free c o (λz=>(g c z).2.2.1 x c e rfl) D (I.freeC x c e)
 .obtain⟨e,n,ne,N,d⟩:=I.pin p M;have h:p.1∉ch:=λz=>(g p.1 z).2.2.2 p M rfl
  exact⟨keep p.1 p.2 ne N h e n,free p.1 p.2 h e n,ne,N,d⟩
theorem Inv.un (I:Inv X g p H s) (u:Un X.fs [] H l s.heap h') (j:pP X.prog X.w l h'):Inv X g p l { s with heap:=h',toks:=t' }:=by
 obtain⟨m,⟨o,v,t,h,r⟩,_⟩:=id I.loc;obtain⟨A,i⟩:=u.any h I.free (by simp);exact I.step (g':=s.gens) (d':=s.drawn) (ch:=[]) (λ_ z=>nomatch z) (λb o _ f _ e n=>u.keep b o e n f (by simp)) (λb o _ f _ e n=>u.slot b o e n f (by simp)) (λb o _ e n=>u.free b o e n (by simp)) (λb o _ e=>u.there b o e (by simp)) u.tups u.frzs u.tbls (λx k=>by
  obtain⟨y,d,c,a,q⟩:=k;rw[h] at a;cases a;exact⟨_,d,c,i,q⟩) j I.bare
theorem Inv.call (I:Inv X g T H s) (u:Un (uV X.stack) ch H C s.heap h') (l:pP X.prog X.w C h') (J:AllBare g')
  (j:∀ b∈ch,(b∈X.ex\/X.s₀.heap.objs.size<=b)/\b≠X.env.locals/\(∀ x c,X.env.cells.lookup x=some c->c≠b)/\∀ p∈X.pn++g,p.1≠b) :
  Inv X g T C { s with heap:=h',gens:=g',drawn:=d',toks:=t' }:=by
 obtain⟨m,⟨o,A,y,k,r⟩,_⟩:=id I.loc;obtain⟨E,i⟩:=u.any k I.free λz=>(j _ z).2.1 rfl
 exact I.step (ch:=ch) j (λb o i q a e n=>u.keep b o e n (λz=>(aM.mp (I.stkSub b z)).elim i q) a) (λb o _ _ a e n=>u.any e n a) (λb o a e n=>u.free b o e n a) (λb o a e=>u.there b o e a) u.tups u.frzs u.tbls (λB t=>by
  obtain⟨D,h,f,d,v⟩:=t;rw[k] at d;cases d;exact⟨_,h,f,i,v⟩) l J
theorem Inv.turned (I:Inv X j σ H s) (k:∀ b o,b≠g->s.heap.get? b=some o->C.get? b=some o) (hn:H g=none) (l:g≠X.env.locals)
  (J:g∈X.ex\/X.s₀.heap.objs.size<=g) (T:∀ x c,X.env.cells.lookup x=some c->c≠g) (U:∀ p∈X.pn++j,p.1≠g):Inv X j σ H { s with heap:=C,toks:=t' }:=by
 have d:∀ b u,H b=some u->b≠g:=λb u e z=>by rw[z,hn] at e;cases e
 refine I.step (g':=s.gens) (d':=s.drawn) (ch:=[g]) (λb i=>?_) (λb o _ _ a e _=>k b o (λz=>a (by simp[z])) e) (λb o _ _ a e _=>⟨o.slots,k b o (λz=>a (by simp[z])) e⟩) (λ_ _ _ _ n=>n)
  (λb o a e=>⟨o,k b o (λz=>a (by simp[z])) e⟩) (λ_ _ e=>e) (λ_ _ _ e=>e) (λb y e=>⟨#[],by rw[e];simp⟩) (λm t=>?_) (λb u e=>?_) I.bare
 .have e:b=g:=by simpa using i
  subst e;exact⟨J,l,T,U⟩
 .obtain⟨o,h,f,w,r⟩:=t;exact⟨o,h,f,k _ o (fQ l) w,r⟩
 .refine (I.hok b u e).stay (λc v a q=>k c v ?_ q) (λ_ q=>q) λ_ _ q=>q
  rcases a with z | z
  .rw[z];exact d b u e
  .exact d c _ z
theorem Inv.tok (I:Inv X g j H s) (t:Nat):Inv X g j H { s with toks:=t }:=I.un (h':=s.heap) (t':=t) Un.refl I.hok
theorem Inv.kept (I:Inv X g l H s) (k:∀ b u,s.heap.get? b=some u->j.get? b=some u):Inv X g l H { s with heap:=j,toks:=t' }:=I.un (Un.kept k) (I.hok.kept k)
theorem Inv.laid (I:Inv X g l H s) (k:∀ b u,s.heap.get? b=some u->h'.get? b=some u) (j:s.heap.objs.size<=a) (new:pE X.prog X.w (upd H a o) h' a o) :
  Inv X g l (upd H a o) { s with heap:=h',toks:=t' }:=I.un (Un.laid k j (I.hok.fresh j)) (I.hok.laid k j new)
theorem Inv.write (I:Inv X j r H s) (p:Fp (H x)) (l:e=x\/H e=some (.o x)) (k:∀ b u,b≠e->s.heap.get? b=some u->h'.get? b=some u) (g:∃ u,h'.get? e=some u)
  (new:pE X.prog X.w (upd H x o) h' x o):Inv X j r (upd H x o) { s with heap:=h',toks:=t' }:=I.un (Un.write p l k g) (I.hok.write p l k g new)
theorem Inv.pins_of (I:Inv X j l H s) (h:∀ p∈g,s.heap.get? p.1=some p.2/\H p.1=none/\p.1≠X.env.locals/\p.1∉X.fs/\∀ v,p.2.data ≠ .cell v):Inv X g l H s :=
 ⟨I.ok,I.os,I.bare,I.base,I.loc,I.cell,I.free,I.freeC,λp a=>(aW.mp a).elim (λz=>I.pin p (aL _ z)) (h p),I.hok,I.len⟩
theorem Sq {N:Aa Af}(g:N.Nodup){i j:Nat}{x:Af}(a:N[i]?=some x) (b:N[j]?=some x):i=j:=by
 obtain⟨e,c⟩:=aP.mp a;obtain⟨f,d⟩:=aP.mp b;exact (List.getElem_inj g).mp (c.trans d.symm)
theorem Th (I:Inv X J σ H s) (hN:X.N.Nodup) (l:X.N[i]?=some x) (g:wI X.env.scope x) (r:nO v u)
  (h:∀ s',Inv X J (σ.set i (some v)) H s'->(∃ a,Heap.SameBut a s.heap s'.heap/\(a=X.env.locals\/X.env.cells.lookup x=some a))->Q () s') (hf:X.fn x=true\/X.env.scope.names.lookup x=some .local:=by first | exact .inl rfl | exact .inr rfl | assumption):wpAny M A (storeName X.env x u) Q E s:=by
 obtain⟨m,hn,hl⟩:=id I.loc;have Y:(X.env.scope.kind == .class||(X.env.scope.kind == .module&&X.env.locals != X.env.globals))=false:=by rw[I.ok.kind];rfl
 have K:i<σ.length:=by rw[I.len];exact (aP.mp l).1
 have cne:=I.cne;have B:∀ {a:Ad} {S:Ag},(∃ o,s.heap.get? a=some o/\H a=none)->Heap.SameBut a s.heap S->pP X.prog X.w H S:=λ{a S} ha f b ob e=>by
  obtain⟨_,_,F⟩:=ha;refine (I.hok b ob e).stay (λc U D q=>(f.2 c ?_).trans q) (λ_ q=>q) λ_ _ q=>q
  rintro rfl;rcases D with rfl | D
  .rw[F] at e;cases e
  .rw[F] at D;cases D
 rcases g with L | L
 .refine wpAny_storeName_local L hn (λS aa f=>?_) Y;obtain⟨oL,_,_,ab,_⟩:=id hn;refine h _ ⟨I.ok,I.os,I.bare,⟨λb o e n O g=>?_,λb o e n O g=>?_,I.base.free,λb o e g=>?_,I.base.tups,I.base.frzs,I.base.tbls⟩,⟨_,aa,λj y v' t G e3=>?_⟩,λy c e=>?_,I.free,I.freeC,λp hp=>?_,B ⟨oL,ab,I.free⟩ f,by simpa using I.len⟩ ⟨_,f,.inl rfl⟩
  .exact (f.2 b (cD (bT (aZ e) I.ok.above))).trans (I.base.keep b o e n O g)
  .obtain⟨sl,t⟩:=I.base.slot b o e n O g;exact⟨sl,(f.2 b (cD (bT (aZ e) I.ok.above))).trans t⟩
  .obtain⟨o',t⟩:=I.base.there b o e g;exact⟨o',(f.2 b (cD (bT (aZ e) I.ok.above))).trans t⟩
  .by_cases R:j=i
   .subst R;rw[l] at t;cases t;rw[hZ K] at G;cases G;exact⟨u,r,.inl ⟨L,by simp⟩⟩
   .rw[eY (fQ R)] at G;obtain⟨u',r',q⟩:=hl j y v' t G e3;refine⟨u',r',?_⟩;rcases q with⟨k,e⟩ | ⟨k,c,e,z⟩
    .refine .inl ⟨k,?_⟩;have:y≠x:=λe=>R (Sq hN t (e▸l))
     simp[this,e]
    .exact .inr ⟨k,c,e,z.sameBut f (cne y c e)⟩
  .obtain⟨U,z⟩:=I.cell y c e;exact⟨U,z.sameBut f (cne y c e)⟩
  .obtain⟨e,n,ne,nf,d⟩:=I.pin p hp;exact⟨(f.2 p.1 ne).trans e,n,ne,nf,d⟩
 .have P:X.fn x=true:=by
   rcases hf with z | z
   .exact z
   .rw[z] at L;cases L
  obtain⟨c,D⟩:=I.ok.has x (.inl L);obtain⟨U,z⟩:=I.cell x c D;refine wpAny_storeName_cell I.ok.kind L D z (λS V f=>?_);obtain⟨oc,Z,C⟩:=id z;refine h { s with heap:=S } ⟨I.ok,I.os,I.bare,⟨λb o e n O g=>?_,λb o e n O g=>?_,I.base.free,λb o e g=>?_,I.base.tups,I.base.frzs,I.base.tbls⟩,⟨m,hn.sameBut f (fQ (cne x c D)),λj y v' t G e3=>?_⟩,λy T e=>?_,I.free,I.freeC,λp hp=>?_,B ⟨oc,Z,I.freeC x c D⟩ f,by simpa using I.len⟩ ⟨c,f,.inr D⟩
  .exact (f.2 b (cD (bT (aZ e) (I.ok.cab x c P D)))).trans (I.base.keep b o e n O g)
  .obtain⟨sl,t⟩:=I.base.slot b o e n O g;exact⟨sl,(f.2 b (cD (bT (aZ e) (I.ok.cab x c P D)))).trans t⟩
  .obtain⟨o',t⟩:=I.base.there b o e g;exact⟨o',(f.2 b (cD (bT (aZ e) (I.ok.cab x c P D)))).trans t⟩
  .by_cases R:j=i
   .subst R;rw[l] at t;cases t;rw[hZ K] at G;cases G;exact⟨u,r,.inr ⟨.inl L,c,D,V⟩⟩
   .rw[eY (fQ R)] at G;obtain⟨u',r',q⟩:=hl j y v' t G e3;refine⟨u',r',?_⟩;rcases q with q | ⟨k,T,e,z'⟩
    .exact .inl q
    .refine .inr ⟨k,T,e,z'.sameBut f ?_⟩;rintro rfl;exact R (Sq hN t (I.ok.inj _ _ _ e D▸l))
  .by_cases W:T=c
   .subst W;exact⟨_,V⟩
   .obtain⟨w2,z2⟩:=I.cell y T e;exact⟨w2,z2.sameBut f W⟩
  .obtain⟨e,n,ne,nf,d⟩:=I.pin p hp;refine⟨(f.2 p.1 ?_).trans e,n,ne,nf,d⟩;intro q;rw[q,Z] at e;have q':oc=p.2:=bV e;exact d U (by rw[<- q'];exact C)
theorem Lb (I:Inv X g J H s) (l:X.N.Nodup) (p:X.N[i]?=some x) (C:wI X.env.scope x) (r:nO v u)
  (h:∀ j,Inv X g (J.set i (some v)) H j->Q () j) (o:X.fn x=true\/X.env.scope.names.lookup x=some .local:=by first | exact .inl rfl | exact .inr rfl | assumption):wpAny M A (storeName X.env x u) Q E s :=
 Th I l p C r (λj a _=>h j a) o
theorem Inv.call' (I:Inv X g J H s) (C:s'.os=s.os) (u:Un (uV X.stack) ch H o s.heap s'.heap) (l:pP X.prog X.w o s'.heap) (r:AllBare s'.gens)
  (j:∀ b∈ch,(b∈X.ex\/X.s₀.heap.objs.size<=b)/\b≠X.env.locals/\(∀ x c,X.env.cells.lookup x=some c->c≠b)/\∀ p∈X.pn++g,p.1≠b):Inv X g J o s':=by
 obtain⟨i,d,a,h,f⟩:=s';have e:f=s.os:=C;subst e;exact I.call (g':=d) (t':=h) (d':=a) u l r j
end
abbrev XK:=Ac->Ab Ad->Hp->Prop
abbrev St:=Aa (Ab V)
abbrev VK:=V->Hp->Prop
abbrev TE:=St->Hp->VK->Prop
abbrev TT:=St->Hp->(Bool->Hp->Prop)->Prop
abbrev TA:=St->Hp->(Aa V->Hp->Prop)->Prop
structure Ends where
 nx:St->Hp->Prop
 rt:VK
 bk:St->Hp->Prop:=λ_ _=>False
 ct:St->Hp->Prop:=λ_ _=>False
abbrev TS:=Ends->St->Hp->Prop
def EP (X:Cx) (g:Aa (Ad×Obj)) (l:St) (Q:VK) (u:Ac) (j:Ae):Prop:=∃ v a,Inv X g l a j/\nO v u/\Q v a
def TP (X:Cx) (g:Aa (Ad×Obj)) (l:St) (Q:Bool->Hp->Prop) (b:Bool) (j:Ae):Prop:=∃ a,Inv X g l a j/\Q b a
def AP (X:Cx) (g:Aa (Ad×Obj)) (o:St) (Q:Aa V->Hp->Prop) (l:Aa Ac) (j:Ae):Prop:=∃ b a,Inv X g o a j/\oA b l/\Q b a
def SP (X:Cx) (g:Aa (Ad×Obj)) (D:Ends) (f:Flow) (j:Ae):Prop :=
 match f with
 | .next=>∃ a b,Inv X g a b j/\D.nx a b
 | .brk=>∃ a b,Inv X g a b j/\D.bk a b
 | .cont=>∃ a b,Inv X g a b j/\D.ct a b
 | .ret u=>∃ v a b,Inv X g a b j/\nO v u/\D.rt v b
def PE (X:Cx) (e:Expr) (t:TE):Prop :=
 ∀ (a:Aa (Ad×Obj)) (s:Ae) (b:St) (H:Hp) (Q:VK),Inv X a b H s->t b H Q->wpAny (model X.prog X.w) X.A (eval e X.env) (EP X a b Q) X.xe s
def PT (X:Cx) (e:Expr) (t:TT):Prop :=
 ∀ (a:Aa (Ad×Obj)) (s:Ae) (b:St) (H:Hp) (Q:Bool->Hp->Prop),Inv X a b H s->t b H Q->wpAny (model X.prog X.w) X.A (isTrue e X.env (eval e X.env)) (TP X a b Q) X.xe s
def PW (X:Cx) (e:Expr) (t:TT):Prop :=
 ∀ (whole:Sem Ac) (a:Aa (Ad×Obj)) (s:Ae) (b:St) (H:Hp) (Q:Bool->Hp->Prop),Inv X a b H s->t b H Q->wpAny (model X.prog X.w) X.A (isTrue e X.env whole) (TP X a b Q) X.xe s
theorem PW.pt {X:Cx}(h:PW X e t):PT X e t:=h _
def PA (X:Cx) (g:Aa Expr) (t:TA):Prop :=
 ∀ (pos:Pos) (a:Aa (Ad×Obj)) (s:Ae) (b:St) (H:Hp) (Q:Aa V->Hp->Prop),Inv X a b H s->t b H Q->wpAny (model X.prog X.w) X.A (spliced (backTo pos (starEach g X.env))) (AP X a b Q) X.xe s
def PS (X:Cx) (st:Stmt) (t:TS):Prop :=
 ∀ (a:Aa (Ad×Obj)) (s:Ae) (b:St) (H:Hp) (D:Ends),Inv X a b H s->t D b H->wpAny (model X.prog X.w) X.A (exec st X.env) (SP X a D) X.xe s
def qD (X:Cx) (st:Aa Stmt) (t:TS):Prop :=
 ∀ (a:Aa (Ad×Obj)) (s:Ae) (b:St) (H:Hp) (D:Ends),Inv X a b H s->t D b H->wpAny (model X.prog X.w) X.A (execs st X.env) (SP X a D) X.xe s
theorem nL (h:wpAny M A t Q E s) (j:∀ a s,Q a s->g a s):wpAny M A t g E s:=cZ h j λ_ _ x=>x
section
variable {X:Cx}
def rC (i:Nat):TE:=λa H Q=>∃ v,a[i]?=some (some v)/\Q v H
def tC (v:V):TE:=λ_ H Q=>Q v H
theorem Q4 (j:X.N[i]?=some x) (o:Me X.env.scope x) (hd:(x == ("__debug__" : Af))=false:=by decide) (g:(x == ("__classdict__" : Af))=false:=by decide):PE X (.Name x pos) (rC i):=by
 intro d s t H Q I h;obtain⟨v,e,h⟩:=h;obtain⟨m,q,k⟩:=I.loc;obtain⟨u,r,l⟩:=k i x v j e o;have fin:EP X d t Q u s:=⟨v,H,I,r,h⟩;rcases l with⟨b,n⟩ | ⟨b,c,f,a⟩
 .exact wpAny_Name (wpAny_loadName_local I.ok.kind b q n fin) hd
 .rcases b with b | b
  .exact wpAny_Name (wpAny_loadName_cell I.ok.kind b f a fin) hd
  .exact wpAny_Name (wpAny_loadName_free I.ok.kind b f a fin g) hd
theorem tV {i j pos}:PE X (.Constant (.int i) j pos) (tC (.int i)):=λ_ _ _ H _ I h=>wpAny_Constant_int ⟨.int i,H,I.tok _,⟨_,rfl⟩,h⟩
theorem Dc {b j pos}:PE X (.Constant (.bool b) j pos) (tC (.b b)):=λ_ _ _ H _ I h=>Constant_bool ⟨.b b,H,I,rfl,h⟩
theorem Qc {j pos}:PE X (.Constant .none j pos) (tC .e):=λ_ _ _ H _ I h=>Constant_none ⟨.e,H,I,rfl,h⟩
theorem A7 {x j pos}:PE X (.Constant (.str x) j pos) (tC (.str x)):=λ_ _ _ H _ I h=>eZ ⟨.str x,H,I.tok _,⟨_,rfl⟩,h⟩
def Gl (X:Cx) (x:Af):Prop:=X.env.kindOf x=some .globalImplicit
theorem C0 (I:Inv X g o H s) (j:Gl X x) (l:X.mg x=some u) (h:Q u s)
  (hd:(x == ("__debug__" : Af))=false:=by decide):wpAny (model X.prog X.w) X.A (eval (.Name x pos) X.env) Q E s :=
 Calls.Name_function_global I.ok.kind j (Calls.loadGlobal_global (by rw[I.ok.glob];exact I.mod.glob.keeps I.bk) l h) hd
theorem B9 (I:Inv X g r H s) (j:Gl X x) (l:X.mg x=none) (p:bootBuiltins x=some u) (h:Q u s)
  (o:x ≠ "__name__" := by decide) (hd:(x == ("__debug__" : Af))=false:=by decide):wpAny (model X.prog X.w) X.A (eval (.Name x pos) X.env) Q E s:=by
 obtain⟨c,a,b⟩:=I.mod.blt;exact Calls.Name_function_global I.ok.kind j (Calls.loadGlobal_builtin (by rw[I.ok.glob];exact I.mod.glob.keeps I.bk) l (by rw[I.ok.blt];exact a.keeps I.bk) ((b x o).trans p) h) hd
theorem tQ (g:Gl X x) (j:X.mg x=some u) (r:nO v u) (hd:(x == ("__debug__" : Af))=false:=by decide):PE X (.Name x pos) (tC v) :=
 λ_ _ _ H _ I h=>C0 I g j ⟨v,H,I,r,h⟩ hd
theorem Zq (g:Gl X x) (j:X.mg x=none) (o:bootBuiltins x=some u) (r:nO v u) (l:x ≠ "__name__" := by decide) (hd:(x == ("__debug__" : Af))=false:=by decide):PE X (.Name x pos) (tC v) :=
 λ_ _ _ H _ I h=>B9 I g j o ⟨v,H,I,r,h⟩ l hd
def PC (X:Cx) (op:CmpOp) (a b:Expr) (t:TE):Prop :=
 ∀ (c:Aa (Ad×Obj)) (s:Ae) (f:St) (H:Hp) (Q:VK),Inv X c f H s->t f H Q ->
  wpAny (model X.prog X.w) X.A (eval a X.env) (λv d=>wpAny (model X.prog X.w) X.A (eval b X.env) (λu e=>wpAny (model X.prog X.w) X.A (compareOp op v u) (EP X c f Q) X.xe e) X.xe d) X.xe s
theorem W6 (b:Expr) (h:op ≠ .In) (g:op ≠ .NotIn):behindInMarks op b=false:=by
 have a:(op == CmpOp.In)=false:=by cases op<;>first | rfl | exact absurd rfl h
 have c:(op == CmpOp.NotIn)=false:=by cases op<;>first | rfl | exact absurd rfl g
 cases b<;>simp[behindInMarks,a,c]
def PM (g:TE):TE:=λc H Q=>g c H λx a=>Q (.b (decide (x = .e))) a
def Ym (g:TE):TE:=λc H Q=>g c H λx a=>Q (.b (!decide (x = .e))) a
theorem nO.none_iff (r:nO x v):(v == Value.none)=decide (x = .e):=by
 cases x with
 | e=>cases r;rfl
 | b _=>cases r;rfl
 | int _=>obtain⟨t,rfl⟩:=r;rfl
 | str _=>obtain⟨t,rfl⟩:=r;rfl
 | byt _=>obtain⟨t,rfl⟩:=r;rfl
 | flt _=>obtain⟨t,rfl⟩:=r;rfl
 | ref _=>cases r;rfl
 | ty _=>cases r;rfl
theorem W7 {j g}(l:PE X a o):PC X .Is a (.Constant .none j g) (PM o):=by
 intro c s m H Q I h;refine nL (l c s m H _ I h) λv n d=>?_
 obtain⟨x,e,f,k,i⟩:=d;exact Constant_none (is_none_gen ⟨.b _,e,f,by rw[k.none_iff];rfl,i⟩)
theorem JX {j g}(l:PE X a o):PC X .IsNot a (.Constant .none j g) (Ym o):=by
 intro c s m H Q I h;refine nL (l c s m H _ I h) λv n d=>?_
 obtain⟨x,e,f,k,i⟩:=d;exact Constant_none (isnot_none_gen ⟨.b _,e,f,by rw[k.none_iff];rfl,i⟩)
def tB (t:TE):TT:=λd H Q=>t d H λx a=>∃ c,x = .b c/\Q c a
theorem U6 (h:PC X op a b t) (g:behindInMarks op b=false:=by first | exact W6 _ (by decide) (by decide) | rfl):PT X (.Compare a [op] [b] pos) (tB t):=by
 intro e s y H Q I hw;refine wpAny_isTrue_Compare1 (nL (h e s y H _ I hw) λv z g=>nL g λu A m=>nL m λc B f=>?_) g;obtain⟨x,i,k,w,n⟩:=f;obtain⟨d,rfl,q⟩:=n;cases w;exact dQ ⟨i,k,q⟩
theorem M7 (h:PE X e t) (g:∀ whole,isTrue e X.env whole=(do let v <- whole;standAt e.pos;holding [v] (truthy v)):=by intro _;rfl):PT X e (tB t):=by
 intro a s m H Q I hw;refine isTrue_plain (nL (h a s m H _ I hw) λv n b=>?_) (g _);obtain⟨x,c,f,k,i⟩:=b;obtain⟨d,rfl,q⟩:=i;cases k;exact dQ ⟨c,f,q⟩
variable {rest:Aa Expr}
def GF (t u:TT):TT:=λb H Q=>t b H λc a=>if c=true then u b a Q else Q false a
def BO (t u:TT):TT:=λb H Q=>t b H λc a=>if c=true then Q true a else u b a Q
def GU (t:TT):TT:=λb H Q=>t b H λc a=>Q (!c) a
theorem PP (g:PT X a j):PW X (.BoolOp .And [a] pos) j:=by
 intro i b s d H Q I h;refine isTrue_and (nL (g b s d H Q I h) λc f e=>?_);cases c with
 | true=>exact isTrue_and_nil e
 | false=>exact e
theorem Rw (g:PT X a j):PW X (.BoolOp .Or [a] pos) j:=by
 intro i b s d H Q I h;refine isTrue_or (nL (g b s d H Q I h) λc f e=>?_);cases c with
 | false=>exact isTrue_or_nil e
 | true=>exact e
theorem PQ (j:PT X a o) (l:PW X (.BoolOp .And (b::rest) pos) g):PW X (.BoolOp .And (a::b::rest) pos) (GF o g):=by
 intro q d s m H Q I h;refine isTrue_and (nL (j d s m H _ I h) λc n e=>?_);obtain⟨f,i,k⟩:=e;cases c with
 | true=>exact l q d n m f Q i k
 | false=>exact⟨f,i,k⟩
theorem O4 (j:PT X a o) (l:PW X (.BoolOp .Or (b::rest) pos) g):PW X (.BoolOp .Or (a::b::rest) pos) (BO o g):=by
 intro q d s m H Q I h;refine isTrue_or (nL (j d s m H _ I h) λc n e=>?_);obtain⟨f,i,k⟩:=e;cases c with
 | true=>exact⟨f,i,k⟩
 | false=>exact l q d n m f Q i k
theorem M0 (g:PT X a j):PT X (.UnaryOp .Not a pos) (GU j):=by
 intro b s e H Q I h;exact isTrue_not (g b s e H (λc d=>Q (!c) d) I h)
def Uo (g j:TE):TE:=λd H Q=>g d H λx a=>∃ c,x = .b c/\if c=true then j d a Q else Q (.b false) a
def KJ (g j:TE):TE:=λd H Q=>g d H λx a=>∃ c,x = .b c/\if c=true then Q (.b true) a else j d a Q
def FA (g:TE):TE:=λd H Q=>g d H λx a=>∃ c,x = .b c/\Q (.b (!c)) a
theorem J7 {op}(h:PE X a t):PE X (.BoolOp op [a] pos) t:=λb s c H Q I hw=>BoolOp_one (h b s c H Q I hw)
theorem E6 (g:PE X a l) (j:PE X (.BoolOp .And (b::rest) pos) o):PE X (.BoolOp .And (a::b::rest) pos) (Uo l o):=by
 intro d s m H Q I h;refine BoolOp_and (nL (g d s m H _ I h) λv q f=>?_);obtain⟨x,i,k,n,e⟩:=f;obtain⟨c,rfl,e⟩:=e;cases n;refine dQ ?_;cases c with
 | true=>exact j d q m i Q k e
 | false=>exact⟨.b false,i,k,rfl,e⟩
theorem X9 (g:PE X a l) (j:PE X (.BoolOp .Or (b::rest) pos) o):PE X (.BoolOp .Or (a::b::rest) pos) (KJ l o):=by
 intro d s m H Q I h;refine BoolOp_or (nL (g d s m H _ I h) λv q f=>?_);obtain⟨x,i,k,n,e⟩:=f;obtain⟨c,rfl,e⟩:=e;cases n;refine dQ ?_;cases c with
 | false=>exact j d q m i Q k e
 | true=>exact⟨.b true,i,k,rfl,e⟩
theorem P0 (g:PE X a j):PE X (.UnaryOp .Not a pos) (FA j):=by
 intro d s n H Q I h;refine UnaryOp_ (nL (g d s n H _ I h) λv q e=>?_);obtain⟨x,i,k,m,f⟩:=e;obtain⟨c,rfl,f⟩:=f;cases m;exact not_of (dQ ⟨.b (!c),i,k,rfl,f⟩)
end
def nX (K:nH) (H:Hp) (a:Ad) (g:Aa V):Prop :=
 Rd H a (.l g) \/
  ∃ (o:Obj) (b:Array Ac) (n:Nat),K.lookup a=some o/\o.cls = .type "list" /\ o.dict=none/\o.data = .seq b n/\b.size<=sizeLine/\oA g b.toList
def oP (K:nH) (H:Hp) (a:Ad) (g:Aa V):Prop :=
 Rd H a (.t g) \/
  ∃ (o:Obj) (b:Array Ac) (n:Nat),K.lookup a=some o/\o.cls = .type "tuple" /\ o.data = .seq b n/\b.size<=sizeLine/\oA g b.toList
noncomputable def JJ:Ac->Ab V
 | .none=>some .e
 | .bool b=>some (.b b)
 | .int i _=>some (.int i)
 | .str x _=>some (.str x)
 | .bytes b _=>some (.byt b)
 | .float b _=>some (.flt b)
 | .ref a=>some (.ref a)
 | .type n=>some (.ty n)
 | _=>none
theorem nO.abs (r:nO x u):JJ u=some x:=by
 cases x with
 | e=>cases r;rfl
 | b _=>cases r;rfl
 | int _=>obtain⟨t,rfl⟩:=r;rfl
 | str _=>obtain⟨t,rfl⟩:=r;rfl
 | byt _=>obtain⟨t,rfl⟩:=r;rfl
 | flt _=>obtain⟨t,rfl⟩:=r;rfl
 | ref _=>cases r;rfl
 | ty _=>cases r;rfl
theorem nO.inj (r:nO x u) (q:nO y u):x=y:=bV (r.abs.symm.trans q.abs)
theorem oA.inj:∀ {j l:Aa V}{g:Aa Ac},oA j g->oA l g->j=l
 | _,_,_,.nil,.nil=>rfl
 | _,_,_,.cons r t,.cons a b=>by rw[r.inj a,oA.inj t b]
section
variable {X:Cx}
theorem nX.of {K:nH}(h:H a=some (.l g)):nX K H a g:=.inl (.inl h)
theorem oP.of {K:nH}(h:H a=some (.t g)):oP K H a g:=.inl (.inl h)
theorem Inv.list (I:Inv X j p H s) (h:nX X.K H a l):∃ g:Aa Ac,oA l g/\PlainL s.heap a g.toArray/\l.length<=sizeLine:=by
 rcases h with h | ⟨o,g,n,c,b,hd,d,f,r⟩
 .obtain⟨z,g,n,r,e⟩:=h.ok I.hok;exact⟨g,r,⟨_,n,e,rfl,rfl,rfl⟩,z⟩
 .refine⟨g.toList,r,⟨o,n,I.kIn a o c,b,hd,by simpa using d⟩,?_⟩;have e:=r.length;simp only[gM] at e;omega
theorem Inv.tuple (I:Inv X j C H s) (h:oP X.K H a l):∃ g:Aa Ac,oA l g/\IsTup s.heap a g.toArray/\l.length<=sizeLine:=by
 rcases h with h | ⟨o,g,n,c,b,d,f,r⟩
 .obtain⟨z,g,r,p,_⟩:=h.ok I.hok;exact⟨g,r,p,z⟩
 .refine⟨g.toList,r,⟨o,I.kIn a o c,b,n,by simpa using d⟩,?_⟩;have e:=r.length;simp only[gM] at e;omega
theorem Inv.list_inj (I:Inv X g C H s) (h:nX X.K H a l) (j:nX X.K H a p):l=p:=by
 obtain⟨c,r,⟨o,n,e,_,_,d⟩,_⟩:=I.list h;obtain⟨b,k,⟨q,m,i,_,_,f⟩,_⟩:=I.list j;rw[e] at i;cases i;rw[d] at f;injection f with d1 _;have:c=b:=by simpa using cA Array.toList d1
 subst this;exact r.inj k
theorem Inv.tuple_inj (I:Inv X g C H s) (h:oP X.K H a l) (j:oP X.K H a p):l=p:=by
 obtain⟨c,r,⟨o,e,_,n,d⟩,_⟩:=I.tuple h;obtain⟨b,k,⟨q,i,_,m,f⟩,_⟩:=I.tuple j;rw[e] at i;cases i;rw[d] at f;injection f with d1 _;have:c=b:=by simpa using cA Array.toList d1
 subst this;exact r.inj k
end
noncomputable abbrev Cx.wish (X:Cx) (E:Ac->Ae->Prop):Cx:={ X with xe:=E }
abbrev Cx.nox (X:Cx):Cx:=X.wish λ_ _=>False
theorem Cx.Ok.wish {X:Cx}(ok:X.Ok) (E:Ac->Ae->Prop):(X.wish E).Ok :=
 ⟨ok.mod,ok.kind,ok.glob,ok.blt,ok.above,ok.inj,ok.has,ok.cab,ok.hd,ok.frames,ok.stk,ok.exf,ok.bs,ok.bsz,ok.noex,ok.exfs,ok.funs,ok.frf⟩
theorem Cx.Ok.unwish {X:Cx}(ok:(X.wish E).Ok):X.Ok :=
 ⟨ok.mod,ok.kind,ok.glob,ok.blt,ok.above,ok.inj,ok.has,ok.cab,ok.hd,ok.frames,ok.stk,ok.exf,ok.bs,ok.bsz,ok.noex,ok.exfs,ok.funs,ok.frf⟩
section
variable {X:Cx}
theorem Inv.wish (I:Inv X g j H s) (E:Ac->Ae->Prop):Inv (X.wish E) g j H s:=⟨I.ok.wish E,I.os,I.bare,I.base,I.loc,I.cell,I.free,I.freeC,I.pin,I.hok,I.len⟩
theorem Inv.unwish (I:Inv (X.wish E) g j H s):Inv X g j H s:=⟨I.ok.unwish,I.os,I.bare,I.base,I.loc,I.cell,I.free,I.freeC,I.pin,I.hok,I.len⟩
theorem SP.unwish {D:Ends}(h:SP (X.wish E) g D f j):SP X g D f j:=by
 cases f with
 | next=>obtain⟨a,b,I,q⟩:=h;exact⟨a,b,I.unwish,q⟩
 | brk=>obtain⟨a,b,I,q⟩:=h;exact⟨a,b,I.unwish,q⟩
 | cont=>obtain⟨a,b,I,q⟩:=h;exact⟨a,b,I.unwish,q⟩
 | ret u=>obtain⟨v,a,b,I,r,q⟩:=h;exact⟨v,a,b,I.unwish,r,q⟩
theorem qD.nox {st:Aa Stmt}(h:qD X.nox st t):qD X st t:=λa s b H D I hw =>
 cZ (h a s b H D (I.wish _) hw) (λ_ _ q=>q.unwish) λ_ _ z=>False.elim z
end
section
variable {X:Cx}{st:Stmt}{rest:Aa Stmt}
def Yz:TS:=λD a H=>D.nx a H
def Kc (t u:TS):TS:=λD a H=>t { D with nx:=u D } a H
theorem yF:qD X [] Yz:=λ_ _ a H _ I h=>lP ⟨a,H,I,h⟩
theorem A2 (g:PS X st t) (j:qD X rest u):qD X (st::rest) (Kc t u):=by
 intro a s i H D I h;refine wpAny_execs_cons (nL (g a s i H { D with nx:=u D } I h) λf e q=>?_);cases f with
 | next =>
  obtain⟨b,c,d,q⟩:=q;exact j a e b c D d q
 | ret v=>exact q
 | brk=>exact q
 | cont=>exact q
theorem sV (g:PS X st t):qD X [st] t:=by
 intro a s b H D I h;refine wpAny_execs_cons (nL (g a s b H D I h) λf c q=>?_);cases f with
 | next=>exact lP q
 | ret v=>exact q
 | brk=>exact q
 | cont=>exact q
theorem Inv.quiet (I:Inv X g j H s):interactive X.env=false:=by simp[interactive,I.ok.kind]
def QE (g:TE):TS:=λD a H=>g a H λ_ b=>D.nx a b
theorem At (g:PE X e l) (j:swapsWith e none pos.line X.env=pure false:=by rfl):PS X (.Expr e pos) (QE l):=by
 intro a s b H D I h;exact wpAny_Expr_any (nL (g a s b H _ I h) λv k ⟨x,c,d,i,f⟩=>⟨b,c,d,f⟩) I.quiet j
def Se (g:TE):TS:=λD a H=>g a H D.rt
theorem wT (g:PE X e j):PS X (.Return (some e) pos) (Se j):=by
 intro a s b H D I h;exact wpAny_Return_some (nL (g a s b H _ I h) λv k ⟨x,c,d,i,f⟩=>⟨x,b,c,d,i,f⟩)
def MI (c:TT) (t u:TS):TS:=λD a H=>c a H λb d=>if b=true then t D a d else u D a d
theorem yP (l:PT X c o) (g:qD X a t) (j:qD X b u):PS X (.If c a b pos) (MI o t u):=by
 intro e s i H D I h;refine wpAny_If (nL (l e s i H _ I h) λd q f=>?_);obtain⟨k,m,n⟩:=f;cases d with
 | true=>exact g e q i k D m n
 | false=>exact j e q i k D m n
end
abbrev TG:=V->St->Hp->(St->Hp->Prop)->Prop
abbrev Do:=Aa V->St->Hp->(St->Hp->Prop)->Prop
def PG (X:Cx) (target:Expr) (t:TG):Prop :=
 ∀ (a:Aa (Ad×Obj)) (s:Ae) (d:St) (H:Hp) (v:V) (u:Ac) (Q:St->Hp->Prop),Inv X a d H s->nO v u->t v d H Q ->
  wpAny (model X.prog X.w) X.A (assign target X.env u) (λ_ e=>∃ b c,Inv X a b c e/\Q b c) X.xe s
def Aj (X:Cx) (g:Aa Expr) (t:Do):Prop :=
 ∀ (a:Aa (Ad×Obj)) (s:Ae) (f:St) (H:Hp) (e:Aa V) (d:Aa Ac) (Q:St->Hp->Prop),Inv X a f H s->oA e d->t e f H Q ->
  wpAny (model X.prog X.w) X.A (assignInOrder ((assignEach g X.env).map (·.2)) d) (λ_ h=>∃ b c,Inv X a b c h/\Q b c) X.xe s
abbrev Kw:=V->V->V->Hp->(Hp->Prop)->Prop
def Nu (X:Cx) (t:Kw):Prop :=
 ∀ (a:Aa (Ad×Obj)) (s:Ae) (e:St) (H:Hp) (o i v:V) (d c u:Ac) (Q:Hp->Prop),Inv X a e H s->nO o d->nO i c->nO v u->t o i v H Q ->
  wpAny (model X.prog X.w) X.A (setItem d c u) (λ_ f=>∃ b,Inv X a e b f/\Q b) X.xe s
section
variable {X:Cx}
def Bz (i:Nat):TG:=λv a H Q=>Q (a.set i (some v)) H
theorem Iy (g:X.N.Nodup) (l:X.N[i]?=some x) (o:wI X.env.scope x) (j:X.fn x=true\/X.env.scope.names.lookup x=some .local:=by first | exact .inl rfl | exact .inr rfl | assumption):PG X (.Name x pos) (Bz i):=by
 intro a s d H v u Q I r h;exact wpAny_assign_Name (Lb I g l o r (λc b=>⟨_,H,b,h⟩) j)
def QF:Do:=λa b H Q=>a=[]/\Q b H
def QY (t:TG) (u:Do):Do:=λc d H Q=>∃ v r,c=v::r/\t v d H λa b=>u r a b Q
theorem P2:Aj X [] QF:=by
 intro a s b H d c Q I r h;obtain⟨e,h⟩:=h;subst e;cases r;exact assignInOrder_nil ⟨b,H,I,h⟩
theorem Kh (j:PG X e t) (l:Aj X g u)
  (o:(assignEach (e::g) X.env).map (·.2)=assign e X.env::(assignEach g X.env).map (·.2):=by rfl):Aj X (e::g) (QY t u):=by
 intro a s q H y w Q I r h;obtain⟨v,x,i,h⟩:=h;subst i;cases r with
 | cons r m =>
  rw[o];refine assignInOrder_cons (nL (j a s q H _ _ _ I r h) λ_ n b=>?_);obtain⟨c,d,f,k⟩:=b;exact l a n c d _ _ Q f m k
def GD (K:nH) (n:Nat) (t:Do):TG:=λv c H Q=>∃ a b,v = .ref a/\oP K H a b/\b.length=n/\t b c H Q
theorem Qu (l:X.calm=true) (h:Aj X g t)
  (p:(assignEach g X.env).length=n:=by rfl) (j:(assignEach g X.env).findIdx? (·.1)=none:=by rfl):PG X (.Tuple g k pos) (GD X.K n t):=by
 intro c s f H v u Q I r hw;obtain⟨a,B,m,x,w,hw⟩:=hw;subst m;cases r;obtain⟨A,d,y,D⟩:=I.tuple x;refine assign_Tuple_tuple (I.ok.hd l) y (by simp[p,<- w,d.length]) j λq z=>?_
 have i:Inv X c f H { s with heap:=q }:=I.kept (t':=s.toks) λb o e=>z b o (cD (aZ e)) e
 exact h c _ f H B _ Q i (by simpa using d) hw
def GW (j g:TE) (t:Kw):TG:=λv a H Q=>j a H λo b=>g a b λi c=>t o i v c λd=>Q a d
theorem DO (C:PE X o U) (p:PE X i T) (J:Nu X t)
  (l:∀ v,assign (.Subscript o i pos) X.env v=(do
   let g <- holding [v] (eval o X.env);let j <- holding [v,g] (eval i X.env)
   standAt pos
   holding [v,g,j] (setItem g j v)
   release [v,g,j] []):=by intro _;rfl):PG X (.Subscript o i pos) (GW U T t):=by
 intro b s c H v u Q I r h;rw[l];refine aB (cP (nL (C b s c H _ I h) λg D a=>?_));obtain⟨x,d,k,A,q⟩:=a;refine aB (cP (nL (p b D c d _ k q) λj E a=>?_));obtain⟨y,e,m,B,w⟩:=a;refine aB (iR (aB (cP (nL (J b E c e x y v g j u _ m A B r w) λ_ F a=>?_))));obtain⟨f,n,z⟩:=a;exact wpAny_release ⟨c,f,n,z⟩
def Gf (j:TE) (g:TG):TS:=λD a H=>j a H λx b=>g x a b D.nx
theorem Rp (o:PE X e C) (p:PG X j g) (r:swapsWithSole [j] e pos.line X.env=pure false:=by rfl) (hw:swappedStores [j] e X.env=pure none:=by rfl)
  (l:(assignEach [j] X.env).map (·.2)=[assign j X.env]:=by rfl):PS X (.Assign [j] e pos) (Gf C g):=by
 intro a s c H D I h;refine wpAny_Assign_stores (nL (o a s c H _ I h) λv m b=>?_) r hw;obtain⟨x,d,f,k,i⟩:=b;rw[l];exact nL (p a m c d x v _ f k i) λ_ n q=>q
theorem zX (j:X.N.Nodup) (p:X.N[i]?=some x) (C:wI X.env.scope x) (l:PE X e J) (r:swapsWith e (some (.Name x g)) pos.line X.env=pure false:=by rfl) (o:X.fn x=true\/X.env.scope.names.lookup x=some .local:=by first | exact .inl rfl | exact .inr rfl | assumption) :
  PS X (.Assign [.Name x g] e pos) (Gf J (Bz i)):=by
 intro a s n H D I h;refine wpAny_Assign_Name (nL (l a s n H _ I h) λv q b=>?_) r;obtain⟨y,c,d,m,k⟩:=b;exact Lb d j p C m (λt f=>⟨_,c,f,k⟩) o
end
structure It where
 go:Nat->Hp->Prop
 yld:Nat->Hp->V->Hp->Prop
 stop:Nat->Hp->Prop
def uT (X:Cx) (g:Aa (Ad×Obj)) (H:Hp) (b:Ad):Prop :=
 H b=none/\b≠X.env.locals/\b∉X.fs/\(b∈X.ex\/X.s₀.heap.objs.size<=b)/\(∀ x c,X.env.cells.lookup x=some c->c≠b)/\∀ p∈X.pn++g,p.1≠b
theorem Inv.fpOk {X:Cx}(I:Inv X j r H s) (g:s.heap.objs.size<=b) (o:l b=none):uT X j l b:=by
 refine⟨o,Nat.ne_of_gt (bT I.lt g),I.nofs g,.inr (bS I.sz g),λx c e z=>?_,λp a z=>?_⟩
 .obtain⟨v,q⟩:=I.cell x c e;exact absurd (bT q.lt (by rw[z];exact g)) (dN _)
 .exact absurd (bT (aZ (I.pin p a).1) (by rw[z];exact g)) (dN _)
structure Turn (P:Program) (w:World) (K:nH) (tg:Expr) (J:It) (fp:List Addr) (it:Addr) (tn:Nat->Heap->Prop):Prop where
 mem:it∈fp
 obj:∀ i h,tn i h->∀ b∈fp,∃ o,h.get? b=some o/\∀ v,o.data ≠ .cell v
 keep:∀ i h h',tn i h->(∀ b∈fp,∀ o,h.get? b=some o->h'.get? b=some o)->tn i h'
 item:∀ (X:Cx),X.prog=P->X.w=w->X.K=K->X.calm=true->∀ (i:Nat) (pins:List (Addr×Obj)) (s:Shared) (σ:St) (H:Hp) (E:Value->Shared->Prop),Inv X pins σ H s->(∀ b∈fp,uT X pins H b)->tn i s.heap->J.go i H ->
  wpAny (model P w) X.A (pyNext (.ref it)) (λr s1=>∃ u,r=some u /\ wpAny (model P w) X.A (letOwnedTupleGo tg (.ref it) u) (λ_ s2=>∃ x H',Inv X pins σ H' s2/\nO x u/\J.yld i H x H'/\tn (i+1) s2.heap/\∀ b∈fp,H' b=none) E s1) E s
 done:∀ (X:Cx),X.prog=P->X.w=w->X.K=K->X.calm=true->∀ (i:Nat) (pins:List (Addr×Obj)) (s:Shared) (σ:St) (H:Hp) (E:Value->Shared->Prop),Inv X pins σ H s->(∀ b∈fp,uT X pins H b)->tn i s.heap->J.stop i H ->
  wpAny (model P w) X.A (pyNext (.ref it)) (λr s1=>r=none/\Inv X pins σ H s1) E s
 self:∀ (A:Around) (i:Nat) (s:Shared) (Q:Value->Shared->Prop) (E:Value->Shared->Prop),tn i s.heap->Q (.ref it) s->wpAny (model P w) A (pyIter (.ref it)) Q E s
abbrev TI:=St->Hp->(It->Hp->Prop)->Prop
def Wx (X:Cx) (g:Aa (Ad×Obj)) (p:St) (o:Expr) (R:It->Hp->Prop) (j:Ac) (l:Ae):Prop :=
 ∃ (d:Ad) (c:Aa Ad) (e:Nat->Ag->Prop) (J:It) (a:Hp),j = .ref d/\Inv X g p a l/\Turn X.prog X.w X.K o J c d e/\e 0 l.heap/\(∀ b∈c,uT X g a b)/\R J a
def PI (X:Cx) (g iter:Expr) (j:TI):Prop :=
 ∀ (a:Aa (Ad×Obj)) (s:Ae) (b:St) (H:Hp) (R:It->Hp->Prop),Inv X a b H s->j b H R ->
  wpAny (model X.prog X.w) X.A (eval iter X.env) (λv c=>wpAny (model X.prog X.w) X.A (pyIter v) (Wx X a b g R) X.xe c) X.xe s
theorem Ef (p:s.heap.get? r=some o) (j:o.cls = .type n) (hd:o.data = .fields I)
  (l:["enumerate","zip","dict_itemiterator","dict_reverseitemiterator","odict_iterator","itertools.zip_longest","itertools.pairwise"].contains n=false) (g:Q () s):wpAny M A (letOwnedTupleGo C (.ref r) u) Q E s:=by
 unfold letOwnedTupleGo;cases C<;>first
  | exact aF g
  | (cases u<;>first
    | exact aF g
    | (refine aB (wpAny_load p ?_);rw[j,hd];show wpAny M A (if (["enumerate","zip","dict_itemiterator","dict_reverseitemiterator","odict_iterator","itertools.zip_longest","itertools.pairwise"].contains n&&I[0]? == some (rawInt _))=true then _ else _) Q E s;rw[aG (by intro h;rw[l,Bool.false_and] at h;cases h)];exact aF g))
def Hm (K:nH) (a:Ad):It :=
 ⟨λi H=>∃ b x,nX K H a b/\b[i]?=some x,λi H x c=>c=H/\∀ b,nX K H a b->b[i]?=some x,λi H=>∃ b,nX K H a b/\b.length<=i⟩
def Gw (K:nH) (a:Ad):It :=
 ⟨λi H=>∃ b x,oP K H a b/\b[i]?=some x,λi H x c=>c=H/\∀ b,oP K H a b->b[i]?=some x,λi H=>∃ b,oP K H a b/\b.length<=i⟩
def Dd (lo:Int) (n:Nat):It:=⟨λi _=>i<n,λi H x a=>a=H/\x = .int (lo+i),λi _=>n<=i⟩
theorem KZ {P:Ah}{K:nH}(a g:Ad):Turn P w K T (Hm K a) [g] g (λi h=>h.IsListIter g a i) where
 mem:=by simp
 obj:=λi h st b m=>by
  have e:b=g:=by simpa using m
  subst e;obtain⟨o,e,c,d⟩:=st;exact⟨o,e,λv z=>by rw[d] at z;cases z⟩
 keep:=λi h q st k=>st.at λo e=>k g (by simp) o e
 item:=by
  intro X L hw G R i f s S H E I t st M;subst L hw G;obtain⟨C,x,y,N⟩:=M;obtain⟨O,Q,p,j⟩:=I.list y;obtain⟨u,Y,l⟩:=Q.get N;obtain⟨A,f1,f2,B,D,F⟩:=t g (by simp);refine wpAny_pyNext_list_item st p.isList (x:=u) (by simpa using Y) λq n r=>?_
  have V:Inv X f S H { s with heap:=q }:=I.turned (t':=s.toks) (λb o m e=>(r.2 b m).trans e) A f1 B D F;obtain⟨o,e,c,d⟩:=id n;exact⟨u,rfl,Ef (s:={ s with heap:=q }) e c d (by decide) ⟨x,H,V,l,⟨rfl,λU Z=>by rw[I.list_inj Z y];exact N⟩,n,λb m=>(t b m).1⟩⟩
 done:=by
  intro X L hw G R i f s S H E I t st M;subst L hw G;obtain⟨C,y,N⟩:=M;obtain⟨O,Q,p,j⟩:=I.list y;obtain⟨A,f1,f2,B,D,F⟩:=t g (by simp);have J:=Q.length;exact wpAny_pyNext_list_end (I.ok.hd R) st p.isList (by simp;omega) λq W=>⟨rfl,I.turned (t':=s.toks) (λb o m e=>W b o m e) A f1 B D F⟩
 self:=λ_ _ _ _ _ st h=>wpAny_pyIter_listiter st h
theorem Rg {P:Ah}{K:nH}(a g:Ad):Turn P w K T (Gw K a) [g] g (λi h=>h.IsTupleIter g a i) where
 mem:=by simp
 obj:=λi h st b m=>by
  have e:b=g:=by simpa using m
  subst e;obtain⟨o,e,c,d⟩:=st;exact⟨o,e,λv z=>by rw[d] at z;cases z⟩
 keep:=λi h t st k=>st.at λo e=>k g (by simp) o e
 item:=by
  intro X M hw L R i f s S H E I y st N;subst M hw L;obtain⟨C,x,A,O⟩:=N;obtain⟨n,Q,p,j⟩:=I.tuple A;obtain⟨u,Y,l⟩:=Q.get O;obtain⟨B,f1,f2,D,F,G⟩:=y g (by simp);refine wpAny_pyNext_tuple_item st (show s.heap.IsTuple a n.toArray from p) (x:=u) (by simpa using Y) λt q r=>?_
  have V:Inv X f S H { s with heap:=t }:=I.turned (t':=s.toks) (λb o m e=>(r.2 b m).trans e) B f1 D F G;obtain⟨o,e,c,d⟩:=id q;exact⟨u,rfl,Ef (s:={ s with heap:=t }) e c d (by decide) ⟨x,H,V,l,⟨rfl,λU Z=>by rw[I.tuple_inj Z A];exact O⟩,q,λb m=>(y b m).1⟩⟩
 done:=by
  intro X M hw L R i f s S H E I y st N;subst M hw L;obtain⟨C,A,O⟩:=N;obtain⟨n,Q,p,j⟩:=I.tuple A;obtain⟨B,f1,f2,D,F,G⟩:=y g (by simp);have J:=Q.length;exact wpAny_pyNext_tuple_end (I.ok.hd R) st (show s.heap.IsTuple a n.toArray from p) (by simp;omega) λt W=>⟨rfl,I.turned (t':=s.toks) (λb o m e=>W b o m e) B f1 D F G⟩
 self:=λ_ _ _ _ _ st h=>wpAny_pyIter_tupleiter st h
theorem QU {P:Ah}{K:nH}(g:Ad) (lo:Int) (n:Nat):Turn P w K j (Dd lo n) [g] g (λi h=>IsRangeIter h g (lo+(i:Nat)*1) ((n:Int)-(i:Nat)) 1) where
 mem:=by simp
 obj:=λi h st b c=>by
  have e:b=g:=by simpa using c
  subst e;exact⟨_,st,λv z=>by
   have R:Data.fields _=Data.cell v:=z;cases R⟩
 keep:=λi h f st k=>k g (by simp) _ st
 item:=by
  intro X B hw A D i a s L H E I m st F;subst B hw A;obtain⟨q,f1,f2,u,x,y⟩:=m g (by simp);have W:=Walks.range (prog:=X.prog) (w:=X.w) (I.ok.hd D) g lo 1 n;refine W.item i s _ _ F st λv f G O d Q=>?_
  obtain⟨t,rfl⟩:=O;have M:Inv X a L H { s with heap:=f,toks:=G }:=I.turned (λb o c e=>Q b o (by simpa using c) e) q f1 u x y;refine⟨_,rfl,Ef (s:={ s with heap:=f,toks:=G }) (n := "range_iterator") d rfl rfl (by decide) ⟨.int (lo+i),H,M,⟨t,?_⟩,⟨rfl,rfl⟩,d,λb c=>(m b c).1⟩⟩;rw[Int.mul_one]
 done:=by
  intro X B hw A D i a s L H E I m st F;subst B hw A;obtain⟨q,f1,f2,u,x,y⟩:=m g (by simp);exact wpAny_pyNext_range_end (I.ok.hd D) st (by have:n<=i:=F;omega) λf N=>⟨rfl,I.turned (t':=s.toks) (λb o c e=>N b o c e) q f1 u x y⟩
 self:=λ_ _ _ _ _ st h=>wpAny_pyIter_rangeiter st h
section
variable {X:Cx}
def MF (K:nH) (g:TE):TI:=λd H R=>g d H λx b=>∃ a,x = .ref a/\(∃ c,oP K b a c)/\R (Gw K a) b
theorem Zc (g:PE X l j):PI X r l (MF X.K j):=by
 intro c s y H R I h;refine nL (g c s y H _ I h) λv d i=>?_
 obtain⟨x,m,f,w,u⟩:=i;obtain⟨a,e,⟨B,t⟩,q⟩:=u;subst e;cases w;obtain⟨k,A,p,z⟩:=f.tuple t;refine wpAny_pyIter_tuple (show d.heap.IsTuple a k.toArray from p) ?_;refine⟨d.heap.objs.size,[d.heap.objs.size],_,_,m,rfl,f.kept (t':=d.toks) λb o e=>aD _ e,Rg a _,⟨_,bF _ rfl,rfl,rfl⟩,λb n=>?_,q⟩;have e:b=d.heap.objs.size:=by simpa using n
 subst e;exact f.fpOk (bB _) (f.hok.fresh (bB _))
theorem EL {R:It->Hp->Prop}{lo:Int}(I:Inv X j p H s) (r:-(2 ^ 62)<=lo) (C:lo<2 ^ 62) (J:-(2 ^ 62)<=g) (T:g<2 ^ 62)
  (q:R (Dd lo (g-lo).toNat) H):wpAny (model X.prog X.w) X.A (pyIter (.ref s.heap.objs.size)) (Wx X j p U R) E { s with heap:=s.heap.push { cls:=.type "range",data:=.fields #[.int lo t,.int g u,.int 1 v] },toks:=l }:=by
 refine wpAny_pyIter_range (IsRange.new ..) (small_one r C J T) ?_;have a:Inv X j p H { s with heap:=s.heap.push { cls:=.type "range",data:=.fields #[.int lo t,.int g u,.int 1 v] },toks:=l }:=I.kept λb o e=>aD _ e
 refine⟨(s.heap.push { cls:=.type "range",data:=.fields #[.int lo t,.int g u,.int 1 v] }).objs.size,[(s.heap.push { cls:=.type "range",data:=.fields #[.int lo t,.int g u,.int 1 v] }).objs.size],_,_,H,rfl,
  a.kept (t':=l) λb o e=>aD _ e,QU _ lo (g-lo).toNat,?_,λb f=>?_,q⟩
 .have c:lo+((0:Nat):Int)*1=lo:=by simp
  have d:(((g-lo).toNat:Nat):Int)-((0:Nat):Int)=Builtin.Range.rangeSize lo g 1:=by rw[rangeSize_one];split<;>omega
  show IsRangeIter _ _ (lo+((0:Nat):Int)*1) ((((g-lo).toNat:Nat):Int)-((0:Nat):Int)) 1;rw[c,d];exact bF _ rfl
 .have e:b=(s.heap.push { cls:=.type "range",data:=.fields #[.int lo t,.int g u,.int 1 v] }).objs.size:=by simpa using f
  subst e;exact a.fpOk (bB _) (a.hok.fresh (bB _))
def AQ (g:TA):TI:=λc H R=>g c H λb a=>∃ j:Int,b=[.int j]/\-(2 ^ 62)<=j/\j<2 ^ 62/\R (Dd 0 j.toNat) a
theorem QW (l:Gl X "range") (o:X.mg "range" = none) (g:PA X [a] J) (C:starEach [a] X.env=[(false,eval a X.env)]:=by rfl):PI X T (.Call (.Name "range" p) [a] [] pos) (AQ J):=by
 intro b s n H R I h;refine Call_ (B9 I l o boot_range (gG (nL (g pos b s n H _ I h) λw v c=>?_) C rfl));obtain⟨x,u,f,k,d⟩:=c;obtain⟨j,e,d,i,q⟩:=d;subst e;cases k with
 | cons r m =>
  cases m;obtain⟨t,rfl⟩:=r;exact call_range_1 (EL f (by omega) (by omega) d i (by simpa using q))
def IF (l:TI) (g:TG) (j:TS):TS:=λD a H=>l a H λJ f=>∃ W:Nat->Nat->St->Hp->Prop,(∃ m,W 0 m a f)/\∀ i m a H,W i m a H ->
 (J.stop i H/\D.nx a H)\/(J.go i H/\∃ N:St->Hp->Prop,(∀ c b,N c b->∃ e,e<m/\W (i+1) e c b)/\∀ x b,J.yld i H x b->g x a b λd h=>j { D with nx:=N,ct:=N,bk:=D.nx } d h)
def Em (g:Aa Ad) (h:Ag):Aa (Ad×Obj):=g.filterMap λb=>(h.get? b).map λo=>(b,o)
theorem Je (j:b∈g) (e:h.get? b=some o):(b,o)∈Em g h:=mF.mpr ⟨b,j,by rw[e];rfl⟩
theorem IA (j:p∈Em g h):p.1∈g/\h.get? p.1=some p.2:=by
 obtain⟨b,c,e⟩:=mF.mp j;cases q:h.get? b with
 | none=>rw[q] at e;cases e
 | some o =>
  rw[q] at e;have a:(b,o)=p:=bV e;subst a;exact⟨c,q⟩
theorem Inv.pinned (I:Inv X g C H s) (l:∀ b∈j,uT X g H b) (r:∀ b∈j,∃ o,s.heap.get? b=some o/\∀ v,o.data ≠ .cell v):Inv X (g++Em j s.heap) C H s :=
 I.pins_of λp h=>(aW.mp h).elim (λz=>I.pin p (aX _ z)) λz=>by
  obtain⟨c,e⟩:=IA z;obtain⟨f,f1,f2,_⟩:=l p.1 c;obtain⟨o,a,d⟩:=r p.1 c;rw[e] at a;cases a;exact⟨e,f,f1,f2,d⟩
theorem Inv.unpinned (I:Inv X (g++l) j H s):Inv X g j H s:=I.pins_of λp a=>I.pin p (aX _ (aL _ a))
theorem Hu {iter:Expr}(l:PassesOwn (model X.prog X.w) X.A X.env X.xe) (U:X.calm=true) (hi:PI X tg iter wi) (hg:PG X tg g) (j:qD X body tb)
  (hs:∀ x,foldedSetIterable iter X.env x=pure x:=by intro _;rfl):PS X (.For tg iter body [] pos) (IF wi g tb):=by
 intro a s σ H D I h;refine wpAny_For (nL (hi a s σ H _ I h) λv s1 h1=>nL h1 λaa s2 h2=>?_) hs;obtain⟨it,K,tn,J,H2,e,I2,T,st2,f2,W,⟨m0,w0⟩,P⟩:=h2;subst e;have y:∀ {E:Hp},(∀ b∈K,E b=none)->∀ b∈K,uT X a E b:=λhn b j=>⟨hn b j,(f2 b j).2⟩
 refine codeAny_forLoop_any (λn s'=>∃ i z E,Inv X a z E s'/\tn i s'.heap/\(∀ b∈K,E b=none)/\W i n z E) ?_ m0 ⟨0,σ,H2,I2,st2,λb j=>(f2 b j).1,w0⟩;rintro n s3 ⟨i,B,Q,C,O,L,w3⟩;rcases P i n B Q w3 with⟨stop,qn⟩ | ⟨go,N,hN,step⟩
 .refine kB l (nL (T.done X rfl rfl rfl U i a s3 B Q X.xe C (y L) O stop) λr s4 k=>?_);obtain⟨V,I4⟩:=k;subst V;exact lP ⟨B,Q,I4,qn⟩
 .refine kB l (nL (T.item X rfl rfl rfl U i a s3 B Q X.xe C (y L) O go) λr s4 k=>?_);obtain⟨u,V,h4⟩:=k;subst V;refine kB l (nL h4 λ_ s5 k=>?_);obtain⟨x,p,I5,r5,y5,G,S⟩:=k;have R:=I5.pinned (y S) (T.obj _ _ G);refine kB l (nL (hg _ s5 B p x u _ R r5 (step x p y5)) λ_ s6 k=>?_);obtain⟨Z,H6,I6,q6⟩:=k;refine kB l (nL (j _ s6 Z H6 _ I6 q6) λf Y F=>?_);have again:∀ {c:St} {q:Hp},Inv X (a++Em K s5.heap) c q Y->N c q->∃ m,m<n/\∃ i z E,Inv X a z E Y/\tn i Y.heap/\(∀ b∈K,E b=none)/\W i m z E:=λ{c q} t M=>by
   obtain⟨m',hm,w7⟩:=hN c q M;refine⟨m',hm,i+1,c,q,t.unpinned,T.keep _ _ _ G λb j o e=>(t.pin (b,o) (aX _ (aX _ (Je j e)))).1,λb j=>?_,w7⟩;obtain⟨o,e,d⟩:=T.obj _ _ G b j;exact (t.pin (b,o) (aX _ (aX _ (Je j e)))).2.1
  cases f with
  | next=>obtain⟨c,q,t,M⟩:=F;exact again t M
  | cont=>obtain⟨c,q,t,M⟩:=F;exact again t M
  | brk=>obtain⟨c,q,t,F⟩:=F;exact⟨c,q,t.unpinned,F⟩
  | ret v=>obtain⟨x7,c,q,t,r7,F⟩:=F;exact⟨x7,c,q,t.unpinned,r7,F⟩
end
abbrev R2:=V->V->Hp->VK->Prop
def oJ (X:Cx) (f:Ac->Ac->Sem Ac) (r:R2):Prop :=
 ∀ (a:Aa (Ad×Obj)) (s:Ae) (b:St) (H:Hp) (x y:V) (v u:Ac) (Q:VK),Inv X a b H s->nO x v->nO y u->r x y H Q ->
  wpAny (model X.prog X.w) X.A (f v u) (EP X a b Q) X.xe s
def J8 (X:Cx) (f:Ac->Sem Ac) (r:V->Hp->VK->Prop):Prop :=
 ∀ (a:Aa (Ad×Obj)) (s:Ae) (b:St) (H:Hp) (x:V) (v:Ac) (Q:VK),Inv X a b H s->nO x v->r x H Q ->
  wpAny (model X.prog X.w) X.A (f v) (EP X a b Q) X.xe s
def qC (X:Cx) (f:Ac) (r:Aa V->Hp->VK->Prop):Prop :=
 ∀ (a:Aa (Ad×Obj)) (s:Ae) (d:St) (H:Hp) (c:Aa V) (b:Aa Ac) (Q:VK),Inv X a d H s->oA c b->r c H Q ->
  wpAny (model X.prog X.w) X.A (call f b) (EP X a d Q) X.xe s
def HU (X:Cx) (r:V->Hp->(Bool->Hp->Prop)->Prop):Prop :=
 ∀ (a:Aa (Ad×Obj)) (s:Ae) (b:St) (H:Hp) (x:V) (v:Ac) (Q:Bool->Hp->Prop),Inv X a b H s->nO x v->r x H Q ->
  wpAny (model X.prog X.w) X.A (truthy v) (TP X a b Q) X.xe s
def D4 (r:R2) (g j:TE):TE:=λa H Q=>g a H λx b=>j a b λy c=>r x y c Q
def CO (r:V->Hp->VK->Prop) (g:TE):TE:=λb H Q=>g b H λx a=>r x a Q
def rI (C:Int->Int->Prop) (g:Int->Int->V):R2:=λx y H Q=>∃ i j,x = .int i/\y = .int j/\C i j/\Q (g i j) H
def uQ (g:Int->Int->V):R2:=λx y H Q=>∃ i j,x = .int i/\y = .int j/\Q (g i j) H
def rU (g:Int->V):V->Hp->VK->Prop:=λx H Q=>∃ i,x = .int i/\Q (g i) H
section
variable {X:Cx}
theorem M9 (J:PE X a ta) (T:PE X b tb){g:Aa (Ad×Obj)}{s:Ae}{l:St}{H:Hp}{R:V->V->Hp->Prop}(I:Inv X g l H s)
  (h:ta l H λx C=>tb l C λy j=>R x y j){Q:Ac->Ae->Prop}{f:Ac->Ac->Sem Ac}
  (U:∀ v u r x y j,Inv X g l j r->nO x v->nO y u->R x y j->wpAny (model X.prog X.w) X.A (f v u) Q X.xe r) :
  wpAny (model X.prog X.w) X.A (eval a X.env) (λv o=>wpAny (model X.prog X.w) X.A (eval b X.env) (λu p=>wpAny (model X.prog X.w) X.A (f v u) Q X.xe p) X.xe o) X.xe s:=by
 refine nL (J g s l H _ I h) λv q c=>?_
 obtain⟨x,C,d,m,i⟩:=c;refine nL (T g q l C _ d i) λu r c=>?_
 obtain⟨y,j,e,n,k⟩:=c;exact U v u r x y j e m n k
theorem S4 (l:oJ X (binaryOp op) r) (g:PE X a o) (j:PE X b p):PE X (.BinOp a op b pos) (D4 r o p):=by
 intro c s m H Q I h;exact wpAny_BinOp (M9 g j I h λv u k x y d e f i q=>l c k m d x y v u Q e f i q)
theorem Oq (j:J8 X (unaryOp op) r) (g:PE X a l):PE X (.UnaryOp op a pos) (CO r l):=by
 intro b s c H Q I h;exact UnaryOp_ (nL (g b s c H _ I h) λv k ⟨x,d,e,i,f⟩=>j b k c d x v Q e i f)
theorem Hr {f:Ac->Ac->Sem Ac}{C:Int->Int->Prop}{g:Int->Int->Int}
  (rule:∀ (i j:Int) (t u:Tok) (s:Ae) (Q:Ac->Ae->Prop) (E:Ac->Ae->Prop),C i j->Q (.int (g i j) s.toks) { s with toks:=s.toks+1 }->wpAny (model X.prog X.w) X.A (f (.int i t) (.int j u)) Q E s) :
  oJ X f (rI C λi j=>.int (g i j)):=by
 intro a s k H x y v u Q I c d h;obtain⟨i,j,rfl,rfl,b,q⟩:=h;obtain⟨t,rfl⟩:=c;obtain⟨e,rfl⟩:=d;exact rule i j t e s _ _ b ⟨.int (g i j),H,I.tok _,⟨_,rfl⟩,q⟩
theorem Og {f:Ac->Ac->Sem Ac}{g:Int->Int->Int}
  (rule:∀ (i j:Int) (t u:Tok) (s:Ae) (Q:Ac->Ae->Prop) (E:Ac->Ae->Prop),Q (.int (g i j) s.toks) { s with toks:=s.toks+1 }->wpAny (model X.prog X.w) X.A (f (.int i t) (.int j u)) Q E s) :
  oJ X f (uQ λi j=>.int (g i j)):=by
 intro a s e H x y v u Q I b c h;obtain⟨i,j,rfl,rfl,q⟩:=h;obtain⟨t,rfl⟩:=b;obtain⟨d,rfl⟩:=c;exact rule i j t d s _ _ ⟨.int (g i j),H,I.tok _,⟨_,rfl⟩,q⟩
theorem Jh {f:Ac->Ac->Sem Ac}{g:Int->Int->Bool}
  (rule:∀ (i j:Int) (t u:Tok) (s:Ae) (Q:Ac->Ae->Prop) (E:Ac->Ae->Prop),Q (.bool (g i j)) s->wpAny (model X.prog X.w) X.A (f (.int i t) (.int j u)) Q E s) :
  oJ X f (uQ λi j=>.b (g i j)):=by
 intro a s k H x y v u Q I c d h;obtain⟨i,j,rfl,rfl,q⟩:=h;obtain⟨t,rfl⟩:=c;obtain⟨e,rfl⟩:=d;exact rule i j t e s _ _ ⟨.b (g i j),H,I,rfl,q⟩
def Qt (i j:Int):Prop:=0<=j/\j<=1000000/\i.natAbs<2 ^ 64
def Gu (i j:Int):Prop:=(-(2 ^ 64)<i/\i<2 ^ 64)\/(-(2 ^ 64)<j/\j<2 ^ 64)
theorem Gu.ok (h:Gu i j):IntMulOk i j:=by
 rcases h with⟨a,b⟩ | ⟨a,b⟩
 .exact .of_left (intBits_le_64 a b)
 .exact .of_right (intBits_le_64 a b)
theorem LZ:oJ X (binaryOp .Add) (uQ λi j=>.int (i+j)):=Og λ_ _ _ _ _ _ _ q=>add_int q
theorem Jn:oJ X (binaryOp .Sub) (uQ λi j=>.int (i-j)):=Og λ_ _ _ _ _ _ _ q=>sub_int q
theorem PV:oJ X (binaryOp .Mult) (rI Gu λi j=>.int (i*j)):=Hr λ_ _ _ _ _ _ _ a q=>mul_int q a.ok
theorem pQ:oJ X (binaryOp .Mod) (rI (λ_ j=>0<j) λi j=>.int (i%j)):=Hr λi j _ _ _ _ _ a q=>by
 have b:(0:Int)<j:=a;exact mod_int' (by omega) (by rw[Int.fmod_eq_emod_of_nonneg i (by omega)];exact q)
theorem Kv:oJ X (binaryOp .Pow) (rI Qt λi j=>.int (i ^ j.toNat)):=Hr λ_ _ _ _ _ _ _ a q=>pow_int_small a.1 a.2.1 a.2.2 q
theorem MO {f:Ac->Sem Ac}{g:Int->Int}
  (rule:∀ (i:Int) (t:Tok) (s:Ae) (Q:Ac->Ae->Prop) (E:Ac->Ae->Prop),Q (.int (g i) s.toks) { s with toks:=s.toks+1 }->wpAny (model X.prog X.w) X.A (f (.int i t)) Q E s) :
  J8 X f (rU λi=>.int (g i)):=by
 intro a s c H x v Q I b h;obtain⟨i,rfl,q⟩:=h;obtain⟨t,rfl⟩:=b;exact rule i t s _ _ ⟨.int (g i),H,I.tok _,⟨_,rfl⟩,q⟩
theorem Sd:J8 X (unaryOp .USub) (rU λi=>.int (-i)):=MO λ_ _ _ _ _ q=>neg_int q
end
noncomputable def Ly:V->V->Bool
 | .e,.e=>true | .e,.int _=>true | .int _,.e=>true | .e,.b _=>true | .b _,.e=>true | .e,.str _=>true | .str _,.e=>true
 | .int _,.int _=>true | .b _,.b _=>true | .str _,.str _=>true | .byt _,.byt _=>true
 | .int _,.str _=>true | .str _,.int _=>true | .b _,.str _=>true | .str _,.b _=>true
 | _,_=>false
def DD:R2:=λx y H Q=>Ly x y=true/\Q (.b (decide (x=y))) H
def JU:R2:=λx y H Q=>Ly x y=true/\Q (.b (!decide (x=y))) H
theorem S3:decide (V.int i=V.int j)=(i == j):=by
 rw[jI];simp
theorem Sf:decide (V.b i=V.b j)=(i == j):=by
 rw[jI];simp
theorem P5:decide (V.str i=V.str j)=(i == j):=by
 rw[jI];simp
theorem Vg:decide (V.byt i=V.byt j)=(i.toList == j.toList):=by
 rw[jI];cases i;cases j;simp
section
variable {X:Cx}
theorem qE (I:Inv X g l H s) (q:Q (.b k) H) (e:k=j):EP X g l Q (.bool j) s:=by
 subst e;exact⟨.b k,H,I,rfl,q⟩
theorem FP:oJ X (compareOp .Eq) DD:=by
 intro k s m H x y v u Q I f a h;obtain⟨d,q⟩:=h;cases x with
 | e =>
  cases f;cases y with
  | e=>cases a;exact PySem.EqNone.eq_none_none (qE I q (by simp))
  | b j=>cases a;exact PySem.EqNone.eq_none_bool (qE I q (by simp))
  | int j=>obtain⟨c,rfl⟩:=a;exact PySem.EqNone.eq_none_int (qE I q (by simp))
  | str j=>obtain⟨c,rfl⟩:=a;exact PySem.EqNone.eq_none_str (qE I q (by simp))
  | _=>exact absurd (show false=true from d) bN
 | b i =>
  cases f;cases y with
  | e=>cases a;exact PySem.EqNone.eq_bool_none (qE I q (by simp))
  | b j=>cases a;exact eq_bool (qE I q Sf)
  | str j=>obtain⟨c,rfl⟩:=a;exact PySem.EqMixed.eq_bool_str (qE I q (by simp))
  | _=>exact absurd (show false=true from d) bN
 | int i =>
  obtain⟨t,rfl⟩:=f;cases y with
  | e=>cases a;exact PySem.EqNone.eq_int_none (qE I q (by simp))
  | int j=>obtain⟨c,rfl⟩:=a;exact eq_int (qE I q S3)
  | str j=>obtain⟨c,rfl⟩:=a;exact PySem.EqMixed.eq_int_str (qE I q (by simp))
  | _=>exact absurd (show false=true from d) bN
 | str i =>
  obtain⟨t,rfl⟩:=f;cases y with
  | e=>cases a;exact PySem.EqNone.eq_str_none (qE I q (by simp))
  | b j=>cases a;exact PySem.EqMixed.eq_str_bool (qE I q (by simp))
  | int j=>obtain⟨c,rfl⟩:=a;exact PySem.EqMixed.eq_str_int (qE I q (by simp))
  | str j=>obtain⟨c,rfl⟩:=a;exact eq_str (qE I q P5)
  | _=>exact absurd (show false=true from d) bN
 | byt i =>
  obtain⟨t,rfl⟩:=f;cases y with
  | byt j=>obtain⟨c,rfl⟩:=a;exact PySem.W.eq_bytes (qE I q Vg)
  | _=>exact absurd (show false=true from d) bN
 | _=>cases y<;>exact absurd (show false=true from d) bN
theorem Nh:oJ X (compareOp .NotEq) JU:=by
 intro k s m H x y v u Q I f a h;obtain⟨d,q⟩:=h;cases x with
 | e =>
  cases f;cases y with
  | e=>cases a;exact PySem.EqNone.ne_none_none (qE I q (by simp))
  | b j=>cases a;exact PySem.EqNone.ne_none_bool (qE I q (by simp))
  | int j=>obtain⟨c,rfl⟩:=a;exact PySem.EqNone.ne_none_int (qE I q (by simp))
  | str j=>obtain⟨c,rfl⟩:=a;exact PySem.EqNone.ne_none_str (qE I q (by simp))
  | _=>exact absurd (show false=true from d) bN
 | b i =>
  cases f;cases y with
  | e=>cases a;exact PySem.EqNone.ne_bool_none (qE I q (by simp))
  | b j=>cases a;exact ne_bool (qE I q (cA not Sf))
  | str j=>obtain⟨c,rfl⟩:=a;exact PySem.EqMixed.ne_bool_str (qE I q (by simp))
  | _=>exact absurd (show false=true from d) bN
 | int i =>
  obtain⟨t,rfl⟩:=f;cases y with
  | e=>cases a;exact PySem.EqNone.ne_int_none (qE I q (by simp))
  | int j=>obtain⟨c,rfl⟩:=a;exact ne_int (qE I q (cA not S3))
  | str j=>obtain⟨c,rfl⟩:=a;exact PySem.EqMixed.ne_int_str (qE I q (by simp))
  | _=>exact absurd (show false=true from d) bN
 | str i =>
  obtain⟨t,rfl⟩:=f;cases y with
  | e=>cases a;exact PySem.EqNone.ne_str_none (qE I q (by simp))
  | b j=>cases a;exact PySem.EqMixed.ne_str_bool (qE I q (by simp))
  | int j=>obtain⟨c,rfl⟩:=a;exact PySem.EqMixed.ne_str_int (qE I q (by simp))
  | str j=>obtain⟨c,rfl⟩:=a;exact ne_str (qE I q (cA not P5))
  | _=>exact absurd (show false=true from d) bN
 | byt i =>
  obtain⟨t,rfl⟩:=f;cases y with
  | byt j=>obtain⟨c,rfl⟩:=a;exact PySem.W.ne_bytes (qE I q (cA not Vg))
  | _=>exact absurd (show false=true from d) bN
 | _=>cases y<;>exact absurd (show false=true from d) bN
theorem KH:oJ X (compareOp .Lt) (uQ λi j=>.b (decide (i<j))):=Jh λ_ _ _ _ _ _ _ q=>lt_int q
theorem Kg:oJ X (compareOp .LtE) (uQ λi j=>.b (decide (i<=j))):=Jh λ_ _ _ _ _ _ _ q=>le_int q
theorem xI:oJ X (compareOp .Gt) (uQ λi j=>.b (decide (j<i))):=Jh λ_ _ _ _ _ _ _ q=>gt_int q
theorem FF:oJ X (compareOp .GtE) (uQ λi j=>.b (decide (j<=i))):=Jh λ_ _ _ _ _ _ _ q=>ge_int q
theorem Tr:oJ X (compareOp .In) (λx y H Q=>∃ i j,x = .str i/\y = .str j/\Q (.b (!(Builtin.Str.occurrences j i 0 j.length 1).isEmpty)) H):=by
 intro a s f H x y v u Q I c d h;obtain⟨i,j,rfl,rfl,q⟩:=h;obtain⟨t,rfl⟩:=c;obtain⟨e,rfl⟩:=d;exact in_str (qE I q rfl)
theorem HB:oJ X (compareOp .NotIn) (λx y H Q=>∃ i j,x = .str i/\y = .str j/\Q (.b (!(!(Builtin.Str.occurrences j i 0 j.length 1).isEmpty))) H):=by
 intro a s f H x y v u Q I c d h;obtain⟨i,j,rfl,rfl,q⟩:=h;obtain⟨t,rfl⟩:=c;obtain⟨e,rfl⟩:=d;exact notIn_str (qE I q rfl)
theorem oJ.or (h:oJ X f r) (g:oJ X f j):oJ X f (λx y H Q=>r x y H Q\/j x y H Q):=by
 intro a s d H x y v u Q I b c q;rcases q with q | q
 .exact h a s d H x y v u Q I b c q
 .exact g a s d H x y v u Q I b c q
theorem Ce (b:Expr) (h:op ≠ .In:=by decide) (g:op ≠ .NotIn:=by decide):behindInMarks op b=false:=by
 have a:(op == CmpOp.In)=false:=by cases op<;>first | rfl | exact absurd rfl h
 have c:(op == CmpOp.NotIn)=false:=by cases op<;>first | rfl | exact absurd rfl g
 cases b<;>simp[behindInMarks,a,c]
theorem Eg (o:oJ X (compareOp op) r) (g:PE X a p) (j:PE X b C) (l:behindInMarks op b=false):PE X (.Compare a [op] [b] pos) (D4 r p C):=by
 intro c s m H Q I h;exact wpAny_Compare1 (M9 g j I h λv u k x y d e f i q=>o c k m d x y v u Q e f i q) l
def IN (t:TE):TT:=λc H Q=>t c H λx a=>∃ k,x = .b k/\Q k a
theorem F9 (o:oJ X (compareOp op) r) (g:PE X a p) (j:PE X b C) (l:behindInMarks op b=false):PT X (.Compare a [op] [b] pos) (IN (D4 r p C)):=by
 intro d s f H Q I h;refine wpAny_isTrue_Compare1 (nL (g d s f H _ I h) λv K ⟨x,i,q,E,A⟩=>nL (j d K f i _ q A) λu L ⟨y,m,t,F,B⟩ =>nL (o d L f m x y v u _ t E F B) λc M ⟨z,n,w,G,k,e,D⟩=>?_) l;subst e;cases G;exact dQ ⟨n,w,D⟩
def JQ (r g:R2) (j l o:TE):TE:=λa H Q=>j a H λx d=>l a d λy e=>r x y e λz c=>∃ k,z = .b k /\
 (if k=true then o a c λh f=>g y h f Q else Q (.b false) c)
theorem Zh (J:oJ X (compareOp op) r) (j:oJ X (compareOp g) T) (l:PE X a U) (o:PE X b tb) (p:PE X c tc)
  (C:lastMarks [op,g] [b,c]=false:=by with_unfolding_all rfl):PE X (.Compare a [op,g] [b,c] pos) (JQ r T U tb tc):=by
 intro f s i H Q I h;refine Compare_chain (nL (l f s i H _ I h) λv P ⟨x,w,D,M,G⟩=>chain_link (nL (o f P i w _ D G) λu R ⟨y,A,E,t,K⟩ =>nL (J f R i A x y v u _ E M t K) λd S ⟨z,m,n,N,k,e,q⟩=>?_)) C;subst e;cases N;refine dQ ?_;cases k with
 | false=>exact ite_ff ⟨.b false,m,n,rfl,q⟩
 | true=>exact ite_tt (chain_last (nL (p f S i m _ n q) λW V ⟨Y,B,F,O,L⟩=>j f V i B y Y u W Q F t O L))
def Mz (K:nH) (x:V) (H:Hp) (k:Bool):Prop :=
 match x with
 | .e=>k=false
 | .b b=>k=b
 | .int i=>k=(i != 0)
 | .str y=>y.length<=sizeLine/\k=((y.length:Int) != 0)
 | .byt y=>y.size<=sizeLine/\k=((y.size:Int) != 0)
 | .ref p=>(∃ c,nX K H p c/\k = !c.isEmpty)\/(∃ c,oP K H p c/\k = !c.isEmpty)\/∃ a,Rd H p (.k a)/\k = !a.isEmpty
 | _=>False
theorem IY (r:KV g j):(!j.isEmpty) = !g.isEmpty:=by
 cases r<;>rfl
theorem O5 (r:oA j g):(!g.toArray.isEmpty) = !j.isEmpty:=by
 cases r<;>simp
theorem B4:(sizeLine:Nat)<2 ^ 63:=by rw[mP];decide
theorem OT:HU X (λx H Q=>∃ k,Mz X.K x H k/\Q k H):=by
 intro E s N H x v Q I n h;obtain⟨k,e,q⟩:=h;have L:=B4;have M:sizeLine=16777216:=mP;cases x with
 | e =>
  cases n;have a:k=false:=e;subst a;exact truthy_none ⟨H,I,q⟩
 | b b =>
  cases n;have a:k=b:=e;subst a;exact dQ ⟨H,I,q⟩
 | int i =>
  obtain⟨t,rfl⟩:=n;have a:k=(i != 0):=e;subst a;exact PySem.P.truthy_int ⟨H,I,q⟩
 | str y =>
  obtain⟨t,rfl⟩:=n;obtain⟨G,a⟩:y.length<=sizeLine/\k=((y.length:Int) != 0):=e;subst a;exact PySem.P.truthy_str (by omega) ⟨H,I.tok _,q⟩
 | byt y =>
  obtain⟨t,rfl⟩:=n;obtain⟨G,a⟩:y.size<=sizeLine/\k=((y.size:Int) != 0):=e;subst a;exact PySem.W.truthy_bytes (by omega) ⟨H,I.tok _,q⟩
 | ref p =>
  cases n;have a:(∃ f,nX X.K H p f/\k = !f.isEmpty)\/(∃ f,oP X.K H p f/\k = !f.isEmpty)\/∃ c,Rd H p (.k c)/\k = !c.isEmpty:=e;rcases a with⟨f,u,a⟩ | ⟨f,u,a⟩ | ⟨c,u,a⟩
  .subst a;obtain⟨A,r,B,D⟩:=I.list u;have d:=r.length;exact wpAny_truthy_list B.isList (by simp only[bE];omega) ⟨H,I.tok _,by rw[O5 r];exact q⟩
  .subst a;obtain⟨A,r,B,D⟩:=I.tuple u;have d:=r.length;exact truthy_tuple B (by simp only[bE];omega) ⟨H,I.tok _,by rw[O5 r];exact q⟩
  .subst a;obtain⟨D,F,z,r,m⟩:c.length<=sizeLine/\(p == sysModules)=false/\∃ z,KV c z/\s.heap.DictOf (qJ X.prog X.w) p z:=Rd.ok u I.hok;have d:c.length=z.length:=gU r;exact wpAny_truthy_dict F m (by omega) ⟨H,I.tok _,by rw[IY r];exact q⟩
 | _=>exact (show False from e).elim
theorem CP (l:PE X a p) (o:∀ whole,isTrue a X.env whole=(do let v <- whole;standAt a.pos;holding [v] (truthy v))) :
  PT X a (λg H Q=>p g H λx j=>∃ k,Mz X.K x j k/\Q k j):=by
 intro b s g H Q I h;exact isTrue_plain (nL (l b s g H _ I h) λv i ⟨x,c,d,f,e⟩=>OT b i g c x v Q d f e) (o _)
theorem ES:oJ X (binaryOp .Add) (λx y H Q=>∃ i j,x = .str i/\y = .str j/\i.length+j.length<=sizeLine/\Q (.str (i++j)) H):=by
 intro a s k H x y v u Q I c d h;obtain⟨i,j,rfl,rfl,b,q⟩:=h;obtain⟨t,rfl⟩:=c;obtain⟨e,rfl⟩:=d;exact add_str (λe f=>⟨.str (i++j),H,I.tok _,⟨_,rfl⟩,q⟩) b
theorem wL (r:oA [x] g):∃ u,g=[u]/\nO x u:=by
 cases r with
 | cons a b=>cases b;exact⟨_,rfl,a⟩
theorem uJ (r:oA [x,y] j):∃ u g,j=[u,g]/\nO x u/\nO y g:=by
 cases r with
 | cons a b =>
  cases b with
  | cons c d=>cases d;exact⟨_,_,rfl,a,c⟩
theorem BD (l:X.calm=true):qC X (.builtin "max") (λg H Q=>∃ i j,g=[.int i,.int j]/\Q (.int (if j>i then j else i)) H):=by
 intro b s n H g f Q I r h;obtain⟨i,j,rfl,q⟩:=h;obtain⟨u,m,rfl,⟨t,rfl⟩,⟨d,rfl⟩⟩:=uJ r;refine max_two_ints (I.ok.hd l) λc e k=>⟨_,H,I.kept k,?_,q⟩
 by_cases a:j>i
 .rw[aQ a,aQ a];exact⟨_,rfl⟩
 .rw[aG a,aG a];exact⟨_,rfl⟩
theorem LR (l:X.calm=true):qC X (.builtin "min") (λg H Q=>∃ i j,g=[.int i,.int j]/\Q (.int (if j<i then j else i)) H):=by
 intro b s n H g f Q I r h;obtain⟨i,j,rfl,q⟩:=h;obtain⟨u,m,rfl,⟨t,rfl⟩,⟨d,rfl⟩⟩:=uJ r;refine min_two_ints (I.ok.hd l) λc e k=>⟨_,H,I.kept k,?_,q⟩
 by_cases a:j<i
 .rw[aQ a,aQ a];exact⟨_,rfl⟩
 .rw[aG a,aG a];exact⟨_,rfl⟩
end
structure ObjM (h:Heap) (x dx C:Addr) (mA:Str->Option Value):Prop where
 obj:h.get? x=some (PySem.W.instObj C dx)
 ns:h.Ns1 dx mA
 ne:dx≠x
theorem QR {h:Ag}{g:Ad}{j:Af->Ab Ac}(n:h.Ns1 g j):∃ l,h.get? g=some l/\∀ name,PySem.W.lookIn name l=some (j name):=by
 obtain⟨o,c,s,k,hd,f,_,i⟩:=n;refine⟨o,k,λname=>?_⟩;have e:=i name;unfold nsFind findBy at e;rw[<- mG] at e;unfold PySem.W.lookIn;rw[hd];dsimp only;split
 .rename_i y q
  rw[q] at e;exact cA some e
 .rename_i q
  rw[q] at e;have a:c.toList.any (·.refKey)=false:=by
   rw[List.any_eq_false];intro y m;obtain⟨z,t,b⟩:=f y (Array.mem_toList_iff.mp m);simp[DictEntry.refKey,b]
  have d:¬ c.toList.any (·.refKey)=true:=by rw[a];exact bN
  rw[aG d];exact cA some e
theorem ObjM.look (I:ObjM h x j C l):∃ g,PySem.W.InstAt h x (PySem.W.instObj C j) C (some g)/\∀ name,PySem.W.lookIn name g=some (l name) :=
 let ⟨g,b,a⟩:=QR I.ns
 ⟨g,⟨I.obj,rfl,rfl,b⟩,a⟩
theorem tR.some_of (r:tR (some v) o):∃ u,o=some u/\nO v u:=by
 cases o with
 | none=>exact (show False from r).elim
 | some u=>exact⟨u,rfl,r⟩
theorem tR.none_of (r:tR none o):o=none:=by
 cases o with
 | none=>rfl
 | some u=>exact (show False from r).elim
section
variable {P:Ah}
theorem Zo (l:pP P w H h) (e:H a=some (.ins C j fs)):∃ g,ObjM h a j C g/\(∀ f,tR (fs.lookup f) (g f))/\PySem.Within g (fs.map (·.1))/\fs.length<=1000/\H j=some (.o a):=by
 obtain⟨d,z,ne,b,g,n,r,q⟩:=(show pE P w H h a (.ins C j fs) from l a _ e);exact⟨g,⟨b,n,ne⟩,r,q,z,d⟩
end
structure Cls (K:nH) (C:Addr):Prop where
 pg:PySem.W.plainGet K C Str.empty=true
 hd:PySem.W.hasDictIn K C=true
 po:PySem.W.plainOver K C=true
 sa:PySem.W.findIn K (.ref C) "__setattr__" = some (some (.builtin "object.__setattr__"))
theorem Cls.get {K:nH}(c:Cls K C) (f:Af):PySem.W.plainGet K C f=true:=c.pg
section
variable {X:Cx}
inductive TyOf (K:nH) (H:Hp):V->Value->Prop where
 | e:TyOf K H .e (.type "NoneType")
 | b (x:Bool):TyOf K H (.b x) (.type "bool")
 | int (i:Int):TyOf K H (.int i) (.type "int")
 | str (x:Str):TyOf K H (.str x) (.type "str")
 | flt (x:UInt64):TyOf K H (.flt x) (.type "float")
 | l {a:Addr} {xs:List V} (e:H a=some (.l xs)):TyOf K H (.ref a) (.type "list")
 | frz {a:Addr} {o:Obj} {xs:List V} (e:H a=some (.frz o (.l xs))):TyOf K H (.ref a) (.type "list")
 | t {a:Addr} {xs:List V} (e:H a=some (.t xs)):TyOf K H (.ref a) (.type "tuple")
 | k {a:Addr} {kvs:List (hH×V)} (e:Rd H a (.k kvs)):TyOf K H (.ref a) (.type "dict")
 | T {a:Addr} {kvs:List (List hH×V)} (e:H a=some (.T kvs)):TyOf K H (.ref a) (.type "dict")
 | ins {a C dx:Addr} {fs:List (Str×V)} (e:H a=some (.ins C dx fs)) (cl:Cls K C) (ha:PySem.W.findIn K (.ref C) "__class__" = some (some (.builtin "object.__class__")))
   (hn:PySem.W.specialIn K (.builtin "object.__class__") "__get__" = some (some (.builtin "getset_descriptor.__get__"))) (htk:PySem.W.takesIn K (.builtin "object.__class__")=some true)
   (hm:PySem.W.mroIn K C (.type "object")=some true):TyOf K H (.ref a) (.ref C)
theorem LY (I:Inv X j U H s) (g:nO x u) (ty:TyOf X.K H x t) (e:PySem.W.kitOne X.K t c=some b) (h:∀ r,Q (.bool b) { s with toks:=r }) :
  wpAny (model X.prog X.w) A (call (.builtin "isinstance") [u,c]) Q E s:=by
 cases ty with
 | e=>cases (show u=Value.none from g);exact eO PySem.W.kitx_none I.kIn True.intro e (λz=>nomatch z) h
 | b y=>cases (show u=Value.bool y from g);exact eO PySem.W.kitx_bool I.kIn True.intro e (λz=>nomatch z) h
 | int i=>obtain⟨t,q⟩:=(show ∃ t,u=Value.int i t from g);cases q;exact eO PySem.W.kitx_int I.kIn True.intro e (λz=>nomatch z) h
 | str y=>obtain⟨t,q⟩:=(show ∃ t,u=Value.str y t from g);cases q;exact eO PySem.W.kitx_str I.kIn True.intro e (λz=>nomatch z) h
 | flt y=>obtain⟨t,q⟩:=(show ∃ t,u=Value.float y t from g);cases q;exact eO PySem.W.kitx_float I.kIn True.intro e (λz=>nomatch z) h
 | @l a v d =>
  cases (show u=Value.ref a from g);obtain⟨_,_,n,_,f⟩:=(show pE X.prog X.w H s.heap a (.l v) from I.hok a _ d);exact eO PySem.W.kitx_list I.kIn ⟨_,f,rfl⟩ e (λz=>nomatch z) h
 | @frz a R v d =>
  cases (show u=Value.ref a from g);obtain⟨_,_,_,n,_,f⟩:=(show pE X.prog X.w H s.heap a (.frz R (.l v)) from I.hok a _ d);exact eO PySem.W.kitx_list I.kIn ⟨_,f,rfl⟩ e (λz=>nomatch z) h
 | @t a v d =>
  cases (show u=Value.ref a from g);obtain⟨_,_,_,p,_⟩:=(show pE X.prog X.w H s.heap a (.t v) from I.hok a _ d);obtain⟨o,f,B,_⟩:=p;exact eO PySem.W.kitx_tuple I.kIn ⟨o,f,B⟩ e (λz=>nomatch z) h
 | @k a m d =>
  cases (show u=Value.ref a from g);obtain⟨_,_,Z,_,p⟩:=(show pE X.prog X.w H s.heap a (.k m) from Rd.ok d I.hok);obtain⟨o,L,G,f,B,_⟩:=p;exact eO PySem.W.kitx_dict I.kIn ⟨o,f,B.1⟩ e (λz=>nomatch z) h
 | @T a m d =>
  cases (show u=Value.ref a from g);obtain⟨_,_,v,_,o,L,G,f,B,_⟩:=(show pE X.prog X.w H s.heap a (.T m) from I.hok a _ d);exact eO PySem.W.kitx_dict I.kIn ⟨o,f,B.1⟩ e (λz=>nomatch z) h
 | @ins a C S fs d F M P D N =>
  cases (show u=Value.ref a from g);obtain⟨V,O,_⟩:=Zo I.hok d;obtain⟨Y,J,_⟩:=O.look;exact eO (PySem.W.kitx_own (F.get _) F.hd M P D N) I.kIn J e (λz=>nomatch z) h
end
structure Room (k:Nat) (A:Around):Prop where
 hd:A.handled=none
 dp:A.depth+3*k+5<recursionLimit
 un:A.units+16*k+200<cLine
theorem Room.mono (r:Room k A) (h:j<=k):Room j A:=⟨r.hd,by have:=r.dp;omega,by have:=r.un;omega⟩
theorem Room.deeper (r:Room (k+1) A) (g:Env):Room k (A.deeper g) :=
 ⟨r.hd,by have:=r.dp;show A.depth+1+3*k+5<_;omega,by have:=r.un;show A.units+3+16*k+200<_;omega⟩
theorem CI {A:Around}:(A.under (.builtin "type.__call__" ⟨.ref C::j,g⟩)).depth=A.depth+1:=by
 first | rfl | simp[Around.under,Code.weight,Code.isCreation,Code.isGuard,Code.isCaller,Code.frames,Code.isFrame,guardIds]
theorem EF {A:Around}:(A.under (.builtin "type.__call__" ⟨.ref C::j,g⟩)).units=A.units+1:=by
 first | rfl | simp[Around.under,Code.cUnits,Code.frames,Code.isFrame]
theorem Room.make (r:Room (k+1) A) (C:Ad) (j:Aa Ac) (g:Aa (Af×Ac)):Room k (A.under (.builtin "type.__call__" ⟨.ref C::j,g⟩)) :=
 ⟨r.hd,by have:=r.dp;rw[CI];omega,by have:=r.un;rw[EF];omega⟩
theorem Room.depth (r:Room k A):A.depth<recursionLimit:=by have:=r.dp;omega
theorem Room.units (r:Room k A):A.units+64<cLine:=by have:=r.un;omega
def Ua:TA:=λ_ H Q=>Q [] H
def Jp (g:TE) (j:TA):TA:=λa H Q=>g a H λx b=>j a b λd c=>Q (x::d) c
section
variable {X:Cx}
theorem qN:PA X [] Ua:=λ_ _ _ _ H Q I h=>iL ⟨[],H,I,.nil,h⟩
theorem AE (j:PE X e p) (l:PA X g t) (o:starEach (e::g) X.env=(false,eval e X.env)::starEach g X.env:=by rfl):PA X (e::g) (Jp p t):=by
 intro pos a s c H Q I h;rw[o];show wpAny _ _ (spliced ((false,eval e X.env)::backTo pos (starEach g X.env))) _ _ s;refine fG (nL (j a s c H _ I h) λu w b=>?_);obtain⟨x,d,i,q,m⟩:=b;exact nL (l pos a w c d _ i m) λA z ⟨y,f,k,v,n⟩=>⟨x::y,f,k,.cons q v,n⟩
def Q2 (t:TA):TE:=λc H Q=>t c H λb a=>b.length<=sizeLine/\∀ p,a p=none->Q (.ref p) (upd a p (.t b))
def IM (t:TA):TE:=λc H Q=>t c H λb a=>b.length<=sizeLine/\∀ p,a p=none->Q (.ref p) (upd a p (.l b))
theorem zU {j}(h:PA X g t):PE X (.Tuple g j pos) (Q2 t):=by
 intro a s v H Q I k;refine wpAny_Tuple_spliced (nL (h pos a s v H _ I k) λm c ⟨n,d,f,r,z,q⟩=>⟨by rw[<- r.length];exact z,?_⟩);have i:d c.heap.objs.size=none:=f.hok.fresh (bB _);refine⟨.ref c.heap.objs.size,upd d c.heap.objs.size (.t n),f.laid (t':=c.toks) (λb u e=>aD _ e) (bB _) ?_,rfl,q _ i⟩;exact⟨z,m,r,⟨_,bF _ rfl,rfl,_,rfl⟩,_,bF _ rfl,rfl⟩
theorem Uv (h:PA X g t):PE X (.List g pos) (IM t):=by
 intro a s v H Q I k;refine wpAny_List_spliced (nL (h pos a s v H _ I k) λm c ⟨n,d,f,r,z,q⟩=>⟨by rw[<- r.length];exact z,?_⟩);have i:d c.heap.objs.size=none:=f.hok.fresh (bB _);refine⟨.ref c.heap.objs.size,upd d c.heap.objs.size (.l n),f.laid (t':=c.toks) (λb u e=>aD _ e) (bB _) ?_,rfl,q _ i⟩;exact⟨z,m,0,r,bF _ rfl⟩
end
abbrev Sp:=Aa V->Hp->VK->XK->Prop
abbrev Br:=Aa Env->Hp->Ae->XK->Ac->Ae->Prop
structure Env0 (P:Program) (w:World) (K:nH) (mg:Str->Option Value) (base:Heap) (A:Around) (outer:List Env) (s:Shared) (H:Hp):Prop where
 frames:A.frames=some outer
 mod:Mod K mg base
 bs:∀ b o,base.get? b=some o->s.heap.get? b=some o/\H b=none
 bsz:base.objs.size<=s.heap.objs.size
 funs:s.heap.FunFrames base outer
 frf:∀ b∈uV outer,H b=none
 hok:pP P w H s.heap
 bare:AllBare s.gens
def CE (g:Aa Env) (P:Ah) (w:World) (H:Hp) (s:Ae) (Q:VK) (u:Ac) (j:Ae):Prop :=
 ∃ v a,j.os=s.os/\AllBare j.gens/\Un (uV g) [] H a s.heap j.heap/\pP P w a j.heap/\nO v u/\Q v a
def CR (l:Br) (g:Aa Env) (P:Ah) (w:World) (H:Hp) (s:Ae) (Q:VK) (E:XK) (r:Result) (j:Ae):Prop :=
 match r with
 | .ok (.ret u)=>CE g P w H s Q u j
 | .ok _=>False
 | .error e=>l g H s E e j
structure FnOk (P:Program) (w:World) (K:nH) (mg:Str->Option Value) (base:Heap) (CX:Br) (k:Nat) (f:Addr) (fd:FuncData) (ps:List Str) (sp:Sp):Prop where
 len:∀ vs H Q E,sp vs H Q E->vs.length=ps.length
 run:∀ (A:Around) (outer:List Env) (s:Shared) (H:Hp) (args:Args) (us:List Value) (vs:List V) (Q:VK) (E:XK),Room k A->Env0 P w K mg base A outer s H->BindsTo s fd args (ps.zip us)->oA vs us->sp vs H Q E ->
  codeAny (model P w) A (.call (.ref f) args) (CR CX outer P w H s Q E) s
theorem FnOk.imp {P:Ah}{K:nH}(F:FnOk P w K o base l k f fd p r)
  (h:∀ g H Q E,j g H Q E->r g H Q E):FnOk P w K o base l k f fd p j :=
 ⟨λg H Q E q=>F.len g H Q E (h _ _ _ _ q),λA a s H args m g Q E d c b i e=>F.run A a s H args m g Q E d c b i (h _ _ _ _ e)⟩
theorem Env0.make {P:Ah}{K:nH}(e:Env0 P w K l base A g s H) (C:Ad) (o:Aa Ac) (j:Aa (Af×Ac)) :
  Env0 P w K l base (A.under (.builtin "type.__call__" ⟨.ref C::o,j⟩)) g s H:=⟨by first | exact e.frames | (simpa [Around.under,Code.envs,Code.isFrame,pushEnvs] using e.frames),e.mod,e.bs,e.bsz,e.funs,e.frf,e.hok,e.bare⟩
section
variable {X:Cx}
theorem Inv.env0 (I:Inv X g j H s):Env0 X.prog X.w X.K X.mg X.base X.A X.stack s H :=
 ⟨I.ok.frames,I.ok.mod,I.bs,bS I.ok.bsz I.sz,I.stack,I.stkFree,I.hok,I.bare⟩
theorem Inv.after (I:Inv X j o H s) (h:CE X.stack X.prog X.w H s Q u l):EP X j o Q u l:=by
 obtain⟨v,e,os,bare,un,a,r,q⟩:=h;obtain⟨f,g,d,t,c⟩:=l;obtain rfl:c=s.os:=os;exact⟨v,e,I.call (h':=f) (g':=g) (d':=d) (t':=t) (ch:=[]) un a bare (λb z=>absurd z (by simp)),r,q⟩
end
def LJ (j:Sp) (g:Aa V) (E:XK) (t:TA):TE:=λc H Q=>t c H λb a=>j (b++g) a Q E
def wQ (K:nH) (fd:FuncData) (g:Aa Af) (ds:Aa Ac):Prop :=
 ∀ (s:Ae) (a:Aa Ac),K.In s.heap->(a++ds).length=g.length->BindsTo s fd ⟨a,[]⟩ (g.zip (a++ds))
theorem wQ.all {K:nH}(h:∀ g:Aa Ac,g.length=j.length->bindArgs fd ⟨g,[]⟩=pure (j.zip g)):wQ K fd j []:=λs g _ a=>by
 rw[cO] at a |-;exact .of_eq (h g a)
def Ec (g:Br) (X:Cx) (E:XK):Prop:=∀ (a:Aa (Ad×Obj)) (c:St) (H:Hp) (s:Ae) (e:Ac) (b:Ae),Inv X a c H s->g X.stack H s E e b->X.xe e b
section
variable {X:Cx}
theorem BN (F:FnOk X.prog X.w X.K X.mg X.base J k f fd p sp) (U:Room k X.A) (T:wQ X.K fd p ds) (hd:oA j ds) (hx:Ec J X E)
  (I:Inv X g C H s) (r:oA o l) (h:sp (o++j) H Q E):wpAny (model X.prog X.w) X.A (call (.ref f) l) (EP X g C Q) X.xe s:=by
 have b:oA (o++j) (l++ds):=r.append hd;have d:(l++ds).length=p.length:=by rw[<- b.length];exact F.len _ _ _ _ h
 refine iS (mB (F.run X.A X.stack s H ⟨l,[]⟩ (l++ds) (o++j) Q E U I.env0 (T s l I.kIn d) b h) λr i a=>?_);cases r with
 | error e=>exact hx g C H s e i I a
 | ok c =>
  cases c with
  | ret u=>exact I.after a
  | next=>exact False.elim a
  | brk=>exact False.elim a
  | cont=>exact False.elim a
structure StB (X:Cx) (e:Expr) (es:List Expr) (pos:Pos):Prop where
 a:starEach (e::es) X.env=(false,eval e X.env)::starEach es X.env:=by rfl
 b:(backTo pos (starEach es X.env)).any (·.1)=false:=by rfl
theorem yA (F:FnOk X.prog X.w X.K X.mg X.base C k f fd ps sp) (hr:Room k X.A) (U:Gl X x) (hm:X.mg x=some (.ref f)) (hk:PySem.W.keepIn X.K (.ref f)=true) (T:wQ X.K fd ps ds) (hd:oA j ds) (hx:Ec C X E)
  (J:PA X (e::o) t) (l:(x == ("__debug__" : Af))=false:=by decide) (g:StB X e o pos:=by exact {}) :
  PE X (.Call (.Name x p) (e::o) [] pos) (LJ sp j E t):=by
 intro c s i H Q I h;refine gR (C0 I U hm ?_ l);refine mH (h₀:=X.base) I.ok.mod.kin hk (nL (J pos c s i H _ I h) λu n ⟨v,m,d,r,q⟩=>⟨d.kIn,?_⟩) g.a g.b;exact BN F hr T hd hx d r q
end
structure FnScope (N P:List Str) (sc:Scope):Prop where
 kind:sc.kind = .function
 co:sc.isCoroutine=false
 gen:sc.isGenerator=false
 nd:N.Nodup
 pre:N.take P.length=P
 par:∀ x∈P,sc.names.lookup x=some .local\/sc.names.lookup x=some .cell
 nofree:∀ y∈sc.names,y.2 ≠ .free
theorem Q5 {kindOf:Af->Ab NameKind}:∀ {binds:Aa (Af×Ac)}{m:Af->Ab Ac},(∀ v,(x,v)∉binds)->bindL kindOf binds m x=m x
 | [],_,_=>rfl
 | (n,v)::r,m,h=>by
  unfold bindL;rw[Q5 λw hw=>h w (aV _ hw)];split
  .have:x≠n:=by rintro rfl;exact h v aI
   simp[this]
  .rfl
theorem Su {kindOf:Af->Ab NameKind}:∀ {binds:Aa (Af×Ac)}{m:Af->Ab Ac},(∀ v,(x,v)∉binds)->bindC kindOf binds m x=m x
 | [],_,_=>rfl
 | (n,v)::r,m,h=>by
  unfold bindC;rw[Su λw hw=>h w (aV _ hw)];split
  .rfl
  .have:x≠n:=by rintro rfl;exact h v aI
   simp[this]
theorem Qy {kindOf:Af->Ab NameKind}:∀ {P:Aa Af}{g:Aa Ac}{i:Nat}{m:Af->Ab Ac},P.Nodup->P[i]?=some x->g[i]?=some v->kindOf x=some .local ->
  bindL kindOf (P.zip g) m x=some v
 | [],_,_,_,_,h,_,_=>by simp at h
 | _::_,[],_,_,_,_,h,_=>by simp at h
 | p::P,w::g,0,m,d,a,b,c=>by
  simp at a b;subst a;subst b;show bindL kindOf ((p,w)::P.zip g) m p=_;unfold bindL;rw[Q5 λv e=>(bP.mp d).1 (nC e).1,aQ c];simp
 | p::P,w::g,i+1,m,d,a,b,c=>by
  show bindL kindOf ((p,w)::P.zip g) m x=_;unfold bindL;exact Qy (i:=i) (bP.mp d).2 (by simpa using a) (by simpa using b) c
theorem Ub {kindOf:Af->Ab NameKind}:∀ {P:Aa Af}{g:Aa Ac}{i:Nat}{m:Af->Ab Ac},P.Nodup->P[i]?=some x->g[i]?=some v->kindOf x≠some .local ->
  bindC kindOf (P.zip g) m x=some v
 | [],_,_,_,_,h,_,_=>by simp at h
 | _::_,[],_,_,_,_,h,_=>by simp at h
 | p::P,w::g,0,m,d,a,b,c=>by
  simp at a b;subst a;subst b;show bindC kindOf ((p,w)::P.zip g) m p=_;unfold bindC;rw[Su λv e=>(bP.mp d).1 (nC e).1,aG c];simp
 | p::P,w::g,i+1,m,d,a,b,c=>by
  show bindC kindOf ((p,w)::P.zip g) m x=_;unfold bindC;exact Ub (i:=i) (bP.mp d).2 (by simpa using a) (by simpa using b) c
def start (N:Aa Af) (g:Aa V):St:=g.map some++List.replicate (N.length-g.length) none
noncomputable def pA (o:Br) (P:Ah) (w:World) (K:nH) (p:Af->Ab Ac) (base:Ag) (N:Aa Af) (l:Af) (g:Scope) (f:Ad) (cd:Ac) (A:Around) (j:Aa Env) (s:Ae) (H:Hp) (E:XK):Cx where
 prog:=P
 w:=w
 K:=K
 mg:=p
 base:=base
 A:=A.deeper (envOfC l g s.heap.objs.size f cd)
 N:=N
 s₀:=s
 H₀:=H
 env:=envOfC l g s.heap.objs.size f cd
 outer:=j
 stack:=envOfC l g s.heap.objs.size f cd::j
 ex:=[]
 calm:=true
 fn:=λ_=>true
 pn:=[]
 xe:=λe c=>wpAny (model P w) (A.deeper (envOfC l g s.heap.objs.size f cd)) (leaving (envOfC l g s.heap.objs.size f cd) e) (λ_ a=>o j H s E e a) (λb a=>o j H s E b a) c
theorem Ur {g:Scope}{n:Nat}{x:Af}(h:g.names.lookup x=some .cell):∃ c,(cellsFrom n g.names []).lookup x=some c:=by
 have q:=PySem.W.cellsFrom_some g.names n [] (.inl h);exact dR.mp q
theorem FD {P:Ah}{K:nH}{cd:Ac}
  (S:FnScope N C g) (hd:A.handled=none) (o:Env0 P w K J base A j s H) (hl:I.length=C.length) (r:oA I T)
  (x:InCallC s s.heap.objs.size (bindL (envOfC l g s.heap.objs.size f cd).kindOf (C.zip T) λ_=>none) (cellsFrom (s.heap.objs.size+1) g.names []) (bindC (envOfC l g s.heap.objs.size f cd).kindOf (C.zip T) λ_=>none) s1) :
  Inv (pA U P w K J base N l g f cd A j s H E) [] (start N I) H s1:=by
 have Q:C.length<=N.length:=by have:=cA List.length S.pre;rw[cW] at this;omega
 obtain⟨F,W,rfl,L⟩:=x.done;have t:∀ b:Ad,b∉(pA U P w K J base N l g f cd A j s H E).ex:=λb z=>absurd (show b∈([]:Aa Ad) from z) (by simp)
 refine⟨⟨o.mod,S.kind,rfl,rfl,bB _,λy z c F d=>?_,λy m=>?_,λy c _ h=>?_,λ_=>hd,Around.frames_deeper o.frames,.inr ⟨rfl,rfl⟩,λb z=>absurd z (t b),o.bs,o.bsz,λb _ _=>t b,λb z=>absurd z (t b),o.funs,o.frf⟩,
  rfl,o.bare,Un.kept L,⟨_,x.toInCall.ns,λi y v F d V=>?_⟩,λy c h=>⟨_,x.cell y c h⟩,o.hok.fresh (bB _),λy c h=>?_,λp B=>absurd (show p∈([]:Aa (Ad×Obj)) from B) (by simp),o.hok.kept L,?_⟩
 .exact name_of_addr x.apart (eQ F) (eQ d)
 .have m:g.names.lookup y=some .cell\/g.names.lookup y=some .free:=m;rcases m with m | m
  .exact Ur m
  .exact absurd rfl (S.nofree _ (eQ m))
 .exact jE (x.above y c (eQ h))
 .have G:i<I.length:=by
   unfold start at d;by_cases G:i<I.length
   .exact G
   .rw[dZ (by simpa using G)] at d;rw[List.getElem?_replicate] at d;split at d<;>cases d
  have O:I[i]?=some v:=by
   unfold start at d;rw[gO (by simpa using G),bH] at d;cases e:I[i]? with
   | none=>rw[e] at d;cases d
   | some a=>rw[e] at d;cases d;rfl
  obtain⟨u,M,R⟩:=r.get O;have B:C[i]?=some y:=by
   rw[<- S.pre,List.getElem?_take_of_lt (by omega)];exact F
  have D:C.Nodup:=by rw[<- S.pre];exact S.nd.sublist (kH _ _)
  refine⟨u,R,?_⟩;rcases S.par y (aK B) with k | k
  .exact .inl ⟨k,Qy D B M k⟩
  .obtain⟨c,e⟩:=Ur (n:=s.heap.objs.size+1) k;refine .inr ⟨.inl k,c,e,?_⟩;have q:=x.cell y c e;rw[Ub D B M (by show g.names.lookup y≠_;rw[k];decide)] at q;exact q
 .exact o.hok.fresh (jE (x.above y c (eQ h)))
 .unfold start;show _=N.length;rw[aE,aA,bZ];omega
theorem Na {P:Ah}{K:nH}{kV:Ac}
(lk:K.lookup f=some ⟨oc,od,.func (PySem.W.fnOf name l C body g dV kV ab pm an p ct),ae⟩) (ac:PySem.W.codeIn K p l=true) (S:FnScope N ps g)
  (len:∀ T H Q E,sp T H Q E->T.length=ps.length)
  (aa:∀ (A:Around) (j:Aa Env) (s:Ae) (H:Hp) (T:Aa V) (Q:VK) (E:XK),Room k (A.deeper (envOfC l g s.heap.objs.size f p))->sp T H Q E ->∃ t,qD (pA CX P w K mg base N l g f p A j s H E) body t/\t { nx:=λ_ U=>Q .e U,rt:=Q } (start N T) H) :
  FnOk P w K mg base CX (k+1) f (PySem.W.fnOf name l C body g dV kV ab pm an p ct) ps sp:=by
 refine⟨len,λA j s H args us T Q E m h O r i=>?_⟩;have X:=len _ _ _ _ i;have F:K.In s.heap:=h.mod.kin.keeps λb o e=>(h.bs b o e).1
 have z:s.heap.NoLimit:=h.mod.nolimit.keeps λb o e=>(h.bs b o e).1
 have c:∀ y∈ps.zip us,g.names.lookup y.1=some .local\/(g.names.lookup y.1=some .cell/\((cellsFrom (s.heap.objs.size+1) g.names []).lookup y.1).isSome=true):=λ⟨n,v⟩ hy=>by
  rcases S.par n (nC hy).1 with q | q
  .exact .inl q
  .exact .inr ⟨q,PySem.W.cellsFrom_some _ _ _ (.inl q)⟩
 refine codeAny_call_function m.depth (F _ _ lk) rfl S.co S.gen rfl (PySem.W.codeRec_of F ac) (O _ _ _ _ ?_);refine wpAny_newFunctionEnv_cells S.kind c λL R G x=>?_
 subst R;refine⟨z.keeps x.toInCall.keep,codeAny_func ?_⟩;obtain⟨t,Z,Y⟩:=aa A j s H T Q E (m.deeper _) i;have I:Inv (pA CX P w K mg base N l g f p A j s H E) [] (start N T) H G:=FD S m.hd h X r x;refine cZ (Z [] G (start N T) H _ I Y) (λM D d=>?_) λe D d=>d
 have fin:∀ {a:St} {U:Hp} {v:V} {u:Ac},Inv (pA CX P w K mg base N l g f p A j s H E) [] a U D->nO v u->Q v U->CE j P w H s Q u D :=
  λ{a U v u} J B q=>⟨v,U,J.os,J.bare,J.base,J.hok,B,q⟩
 cases M with
 | ret u =>
  obtain⟨v,a,U,J,B,q⟩:=d;exact fin J B q
 | next =>
  obtain⟨a,U,J,q⟩:=d;exact fin (v:=V.e) (u:=Value.none) J rfl q
 | brk =>
  obtain⟨_,_,_,q⟩:=d;exact False.elim q
 | cont =>
  obtain⟨_,_,_,q⟩:=d;exact False.elim q
section
variable {X:Cx}{id:String}
def O6 (r:Aa V->Hp->VK->Prop) (t:TA):TE:=λc H Q=>t c H λb a=>r b a Q
theorem yX (C:qC X (.builtin id) r) (J:Gl X x) (T:X.mg x=none) (hv:bootBuiltins x=some (.builtin id)) (o:PA X (e::l) t) (U:x ≠ "__name__" := by decide) (j:(x == ("__debug__" : Af))=false:=by decide)
  (g:StB X e l pos:=by exact {}):PE X (.Call (.Name x p) (e::l) [] pos) (O6 r t):=by
 intro c s d H Q I h;refine gR (B9 I J T hv ?_ U j);exact PyProof.Rows.callWith_builtin1 (nL (o pos c s d H _ I h) λq n ⟨u,f,i,m,k⟩=>C c n d f u q Q i m k) g.a g.b
theorem HD (C:qC X (.type T) r) (J:Gl X x) (U:X.mg x=none) (hv:bootBuiltins x=some (.type T)) (o:PA X (e::l) t) (hn:x ≠ "__name__" := by decide) (j:(x == ("__debug__" : Af))=false:=by decide)
  (g:StB X e l pos:=by exact {}):PE X (.Call (.Name x p) (e::l) [] pos) (O6 r t):=by
 intro c s d H Q I h;refine gR (B9 I J U hv ?_ hn j);exact gG (nL (o pos c s d H _ I h) λq n ⟨u,f,i,m,k⟩=>C c n d f u q Q i m k) g.a g.b
end
end L2
namespace HT
open PySem PyProof.Rows
section
theorem cat_tup (J:IsTup s.heap t j.toArray) (I:IsTup s.heap b g.toArray) (o:j≠[])
  (r:g=[]->Q (.ref t) s) (C:g≠[]->Q (.ref s.heap.objs.size) { s with heap:=s.heap.push { cls:=.type "tuple",data:=.seq (j++g).toArray } })
  (l:j.length+g.length<=sizeLine):wpAny (model p w) A (binaryOp .Add (.ref t) (.ref b)) Q E s:=by
 obtain⟨⟨cls,m,data,v⟩,i,q,n,hd⟩:=id J;obtain⟨⟨k,c,data2,h⟩,a,d,u,f⟩:=id I;simp only at q hd d f;subst q hd d f;have e:j.toArray++g.toArray=(j++g).toArray:=by simp
 by_cases hw:g=[]
 .exact concat_meets ⟨_,i,rfl⟩ ⟨_,a,rfl⟩ noFill_tuple_add seq_tuple_add kK kE (jX _ _)
   (tuple_addW1 t b j.toArray g.toArray n u m c v h (by simpa using o) (by simp[hw])) ⟨i,a,r hw⟩
 .refine concat_meets ⟨_,i,rfl⟩ ⟨_,a,rfl⟩ noFill_tuple_add seq_tuple_add kK kE (jX _ _)
   (tuple_addW2 t b j.toArray g.toArray n u m c v h (by simpa using o) (by simpa using hw) (by rw[bE,bE];exact l)) ⟨i,a,?_⟩
  rw[e];exact C hw
end
end HT
namespace L2
open PySem PySem.Spec PyProof.Rows
section
variable {X:Cx}{lo:Ab Expr}
def Pp (K:nH):R2:=λx y H Q=>∃ a b d c,x = .ref a/\y = .ref b/\oP K H a d/\oP K H b c/\d≠[]/\d.length+c.length<=sizeLine /\
 (c=[]->Q (.ref a) H)/\(c≠[]->∀ p,H p=none->Q (.ref p) (upd H p (.t (d++c))))
theorem oA.nil_iff (r:oA j g):g=[]↔j=[]:=by
 cases r with
 | nil=>simp
 | cons _ _=>simp
theorem Zs:oJ X (binaryOp .Add) (Pp X.K):=by
 intro i s P H x y v u Q I G L h;obtain⟨a,b,M,N,rfl,rfl,k,m,n,e,E,F⟩:=h;cases G;cases L;obtain⟨A,d,B,_⟩:=I.tuple k;obtain⟨f,c,D,_⟩:=I.tuple m;refine HT.cat_tup B D (λz=>n (d.nil_iff.mp z)) (λz=>⟨.ref a,H,I,rfl,E (c.nil_iff.mp z)⟩) (λz=>?_) (by rw[<- d.length,<- c.length];exact e);refine⟨.ref s.heap.objs.size,_,I.laid (t':=s.toks) (o:=.t (M++N)) (λb O q=>aD _ q) (bB _) ?_,rfl,F (λw=>z (c.nil_iff.mpr w)) _ (I.hok.fresh (bB _))⟩;exact⟨by rw[aE];exact e,_,d.append c,Ap.new _ _⟩
end
noncomputable def vU (n:Nat) (i:Int):Ab Nat:=if 0<=i then (if i<n then some i.toNat else none) else if -(n:Int)<=i then some (i+n).toNat else none
def pY {l:Type}(g:Aa l) (i:Int):Ab l:=(vU g.length i).bind λj=>g[j]?
theorem Qz (h:vU n i=some j):seqIndex? i n=some j/\j<n/\-(n:Int)<=i/\i<n:=by
 unfold vU at h;by_cases b:0<=i
 .rw[aQ b] at h;by_cases a:i<n
  .rw[aQ a] at h;have e:i.toNat=j:=bV h;exact⟨by rw[seqIndex_of b a,e],by omega,by omega,a⟩
  .rw[aG a] at h;cases h
 .rw[aG b] at h;by_cases a:-(n:Int)<=i
  .rw[aQ a] at h;have e:(i+n).toNat=j:=bV h;exact⟨by rw[seqIndex_neg (by omega) a,e],by omega,a,by omega⟩
  .rw[aG a] at h;cases h
theorem Mj (h:pY g i=some v):∃ j,seqIndex? i g.length=some j/\g[j]?=some v/\j<g.length/\-(g.length:Int)<=i/\i<g.length:=by
 unfold pY at h;cases e:vU g.length i with
 | none=>rw[e] at h;cases h
 | some j =>
  rw[e] at h;obtain⟨a,b,c,d⟩:=Qz e;exact⟨j,a,h,b,c,d⟩
theorem pU {g:Type}{xs:Aa g}{j:Nat}{v:g}(h:xs[j]?=some v):pY xs (j:Int)=some v:=by
 have a:j<xs.length:=(aP.mp h).1;have e:vU xs.length (j:Int)=some j:=by
  unfold vU;rw[aQ (by omega),aQ (by omega)];simp
 unfold pY;rw[e];exact h
theorem Zt (g:Aa j) (v:j):pY (g++[v]) (-1)=some v:=by
 have a:(g++[v]).length=g.length+1:=by simp
 have e:vU (g++[v]).length (-1)=some g.length:=by
  unfold vU;rw[a,aG (by decide),aQ (by omega)]
  congr 1
  omega
 unfold pY;rw[e];show (g++[v])[g.length]?=some v;simp
def Bb (b:Expr):Prop:=∀ o i,subscripted b false o i=operate [o,i] (getItem o i)
def xO (X:Cx) (r:R2):Prop :=
 ∀ (value slice:Expr) (a:Aa (Ad×Obj)) (s:Ae) (b:St) (H:Hp) (x y:V) (v u:Ac) (Q:VK),Inv X a b H s->nO x v->nO y u->r x y H Q ->
  subscripted slice false v u=operate [v,u] (getItem v u)->wpAny (model X.prog X.w) X.A (subscriptTail value slice v u) (EP X a b Q) X.xe s
def Cj (X:Cx) (id:String) (r:V->Aa V->Hp->VK->Prop):Prop :=
 ∀ (a:Aa (Ad×Obj)) (s:Ae) (d:St) (H:Hp) (x:V) (c:Aa V) (v:Ac) (b:Aa Ac) (Q:VK),Inv X a d H s->nO x v->oA c b->r x c H Q ->
  wpAny (model X.prog X.w) X.A (call (.builtin id) (v::b)) (EP X a d Q) X.xe s
section
variable {X:Cx}
theorem xO.or (h:xO X r) (g:xO X j):xO X (λx y H Q=>r x y H Q\/j x y H Q):=by
 intro value slice a s e H x y v u Q I c d q b;rcases q with q | q
 .exact h value slice a s e H x y v u Q I c d q b
 .exact g value slice a s e H x y v u Q I c d q b
theorem wK (l:xO X r) (g:PE X a p) (j:PE X b C) (o:Bb b):PE X (.Subscript a b pos) (D4 r p C):=by
 intro c s m H Q I h;exact Subscript_ (M9 g j I h λv u k x y d e f i q=>l a b c k m d x y v u Q e f i q (o _ _))
def N8 (K:nH):R2:=λx y H Q=>∃ p a i v,x = .ref p/\y = .int i/\nX K H p a/\pY a i=some v/\Q v H
def Rq (K:nH):R2:=λx y H Q=>∃ p a i v,x = .ref p/\y = .int i/\oP K H p a/\pY a i=some v/\Q v H
def Wa:R2:=λx y H Q=>∃ z i c,x = .str z/\y = .int i/\z.length<=sizeLine/\pY z.cps.toList i=some c/\Q (.str ⟨#[c]⟩) H
theorem Bg:xO X (N8 X.K):=by
 intro value slice a s A H x y v u Q I M N h n;obtain⟨p,V,i,z,rfl,rfl,L,F,q⟩:=h;cases M;obtain⟨t,rfl⟩:=N;obtain⟨d,r,e,S⟩:=I.list L;obtain⟨j,b,B,P,D,E⟩:=Mj F;obtain⟨w,k,f⟩:=r.get B;have G:=r.length;have R:=B4;have fin:EP X a A Q w s:=⟨z,H,I,f,q⟩;by_cases m:0<=i
 .have c:i.toNat=j:=by
   rw[seqIndex_of m E] at b;exact bV b
  exact item_listR e.isList m (by omega) (by rw[c];simpa using k) fin n
 .have c:(i+(d.toArray.size:Int)).toNat=j:=by
   rw[seqIndex_neg (by omega) D] at b;rw[bE,<- G];exact bV b
  exact subscriptTail_builtinR (x:=w) e.isList.typeIs slot_list_getitem.lookup
   (wpAny_getItem_list_neg (Q:=λr O=>r=w/\EP X a A Q r O) e.isList (by omega) (by rw[bE]<;>omega) (by omega) (by rw[c];simpa using k) ⟨rfl,fin⟩) n
theorem Et:xO X (Rq X.K):=by
 intro value slice a s d H x y v u Q I E F h B;obtain⟨p,R,i,z,rfl,rfl,A,m,q⟩:=h;cases E;obtain⟨t,rfl⟩:=F;obtain⟨D,r,c,P⟩:=I.tuple A;obtain⟨j,f,k,L,M,N⟩:=Mj m;obtain⟨w,e,b⟩:=r.get k;have n:=r.length;have O:=B4;have fin:EP X a d Q w s:=⟨z,H,I,b,q⟩;exact subscriptTail_builtinR (x:=w) c.typeIs slot_tuple_getitem.lookup
  (getItem_tuple (j:=j) (Q:=λr G=>r=w/\EP X a d Q r G) c (by omega) (by omega) (by rw[bE,<- n];exact f) (by simpa using e) ⟨rfl,fin⟩) B
theorem HY:xO X Wa:=by
 intro value slice b s L H x y v u Q I B D h A;obtain⟨z,i,c,rfl,rfl,G,n,q⟩:=h;obtain⟨t,rfl⟩:=B;obtain⟨K,rfl⟩:=D;obtain⟨j,a,f,E,k,m⟩:=Mj n;have w:z.cps.toList.length=z.length:=by simp[Str.length]
 rw[w] at a k m;have F:=B4;exact tail_any (typeIs_str s z t) slot_str_getitem.lookup (getItem_str (c:=c) (by
  have d:decide (i < -(2 ^ 63:Int))=false:=aY (by omega);have e:decide (i>=2 ^ 63)=false:=aY (by omega);rw[d,e,Bool.or_false]) (by rw[a];simpa using f) ⟨.str ⟨#[c]⟩,H,I.tok _,⟨_,rfl⟩,q⟩) A
def Oi (K:nH):R2:=λx y H Q=>N8 K x y H Q\/Rq K x y H Q\/Wa x y H Q
theorem QK:xO X (Oi X.K):=Bg.or (Et.or HY)
theorem MG (g:Aa Ac) (n j:Nat) (u:Ac):Obj.mapSeq (·.setIfInBounds j u) { cls:=.type "list",data:=.seq g.toArray n }={ cls:=.type "list",data:=.seq (g.set j u).toArray n }:=by
 simp[Obj.mapSeq]
theorem Inv.lst {j:Aa (Ad×Obj)}{C:St}{H:Hp}{s:Ae}{p:Ad}{o:Aa V}(I:Inv X j C H s) (h:H p=some (.l o)) :
  ∃ (g:Aa Ac) (n:Nat),oA o g/\s.heap.get? p=some { cls:=.type "list",data:=.seq g.toArray n }/\o.length<=sizeLine:=by
 obtain⟨z,g,n,r,e⟩:=I.hok p _ h;exact⟨g,n,r,e,z⟩
theorem Inv.lstUpd {j:Aa Ac}(I:Inv X o σ H s) (h:H p=some (.l xs))
  (U:s.heap.get? p=some { cls:=.type "list",data:=.seq j.toArray n }) (C:f { cls:=.type "list",data:=.seq j.toArray n }={ cls:=.type "list",data:=.seq g.toArray J }) (r:oA T g) (hz:T.length<=sizeLine) (t:Nat) :
  Inv X o σ (upd H p (.l T)) { s with heap:=s.heap.update p f,toks:=t }:=by
 have e:(s.heap.update p f).get? p=some { cls:=.type "list",data:=.seq g.toArray J }:=by
  rw[cK f U (by rw[C]<;>rfl),C]
 refine I.write (x:=p) (e:=p) (by rw[h];trivial) (.inl rfl) (λb u a q=>(cF _ _ (fQ a)).trans q) ⟨_,e⟩ ?_;exact⟨hz,g,J,r,e⟩
def Tw:V->V->V->Hp->(Hp->Prop)->Prop:=λo i v H Q=>∃ p a k j,o = .ref p/\i = .int k/\H p=some (.l a)/\vU a.length k=some j/\Q (upd H p (.l (a.set j v)))
theorem BH:Nu X Tw:=by
 intro b s K H o i v O N u Q I E D F h;obtain⟨p,G,k,j,rfl,rfl,z,A,q⟩:=h;cases E;obtain⟨t,rfl⟩:=D;obtain⟨a,n,r,f,B⟩:=I.lst z;obtain⟨c,L,x,y⟩:=Qz A;have e:=r.length;have M:=B4;have m:Inv X b K (upd H p (.l (G.set j v))) { s with heap:=s.heap.update p (Obj.mapSeq (·.setIfInBounds j u)) } :=
  I.lstUpd z f (MG a n j u) (r.set F j) (by rw[cB];exact B) s.toks
 by_cases w:0<=k
 .have d:k.toNat=j:=by
   rw[seqIndex_of w y] at c;exact bV c
  exact PySem.W.ki_setAt f w (by omega) (by rw[bE,<- e];exact y) (by rw[d];exact⟨_,m,q⟩)
 .have d:(k+(a.toArray.size:Int)).toNat=j:=by
   rw[seqIndex_neg (by omega) x] at c;rw[bE,<- e];exact bV c
  exact PySem.W.ki_setBack f (by omega) (by rw[bE,<- e];exact x) (by omega) (by rw[d];exact⟨_,m,q⟩)
def rR:V->Bool
 | .e=>true
 | .b _=>true
 | .int _=>true
 | .str _=>true
 | _=>false
noncomputable def sC:V->V->Bool
 | .e,.e=>true
 | .b a,.b b=>a == b
 | .b a,.int b=>(if a then 1 else 0) == b
 | .int a,.b b=>a == (if b then 1 else 0)
 | .int a,.int b=>a == b
 | .str a,.str b=>a == b
 | _,_=>false
theorem Lq (l:nO y u) (g:nO x v) (o:rR y=true) (j:rR x=true):SeqAt.EqAt A s u v (sC y x):=by
 cases y with
 | e =>
  cases l;cases x with
  | e=>cases g;exact lQ _
  | b b=>cases g;exact SeqAt.EqAt.none_bool b
  | int b=>obtain⟨t,rfl⟩:=g;exact SeqAt.EqAt.none_int b t
  | str b=>obtain⟨t,rfl⟩:=g;exact SeqAt.EqAt.none_str b t
  | _=>exact absurd (show false=true from j) bN
 | b a =>
  cases l;cases x with
  | e=>cases g;exact SeqAt.EqAt.bool_none a
  | b b=>cases g;exact SeqAt.EqAt.bool_bool a b
  | int b=>obtain⟨t,rfl⟩:=g;exact SeqAt.EqAt.bool_int a b t
  | str b=>obtain⟨t,rfl⟩:=g;exact SeqAt.EqAt.bool_str a b t
  | _=>exact absurd (show false=true from j) bN
 | int a =>
  obtain⟨c,rfl⟩:=l;cases x with
  | e=>cases g;exact SeqAt.EqAt.int_none a c
  | b b=>cases g;exact SeqAt.EqAt.int_bool a c b
  | int b=>obtain⟨t,rfl⟩:=g;exact SeqAt.EqAt.int_int a c b t
  | str b=>obtain⟨t,rfl⟩:=g;exact SeqAt.EqAt.int_str a c b t
  | _=>exact absurd (show false=true from j) bN
 | str a =>
  obtain⟨c,rfl⟩:=l;cases x with
  | e=>cases g;exact SeqAt.EqAt.str_none a c
  | b b=>cases g;exact SeqAt.EqAt.str_bool a c b
  | int b=>obtain⟨t,rfl⟩:=g;exact SeqAt.EqAt.str_int a c b t
  | str b=>obtain⟨t,rfl⟩:=g;exact SeqAt.EqAt.str_str a c b t
  | _=>exact absurd (show false=true from j) bN
 | _=>exact absurd (show false=true from o) bN
def uN (x:V) (u:Ac):Bool:=match u with
 | .none=>sC .e x
 | .bool b=>sC (.b b) x
 | .int i _=>sC (.int i) x
 | .str z _=>sC (.str z) x
 | _=>false
theorem Ta (r:nO y u) (f:rR y=true):uN x u=sC y x:=by
 cases y with
 | e=>cases r;rfl
 | b b=>cases r;rfl
 | int i=>obtain⟨t,rfl⟩:=r;rfl
 | str z=>obtain⟨t,rfl⟩:=r;rfl
 | _=>exact absurd (show false=true from f) bN
theorem F6:∀ {g:Aa V}{j:Aa Ac},oA g j->g.all rR=true->j.any (uN x)=g.any λy=>sC y x
 | _,_,.nil,_=>rfl
 | y::g,u::j,.cons r t,f=>by
  rw[lO,cX] at f;rw[iC,iC,Ta r f.1,F6 t f.2]
theorem E7 (o:nO x v) (l:rR x=true):∀ {j:Aa V}{g:Aa Ac},oA j g->j.all rR=true->∀ u∈g,SeqAt.EqAt A s u v (uN x u)
 | _,_,.nil,_=>λu a=>by cases a
 | y::j,u::g,.cons r t,f=>λb a=>by
  rw[lO,cX] at f;rcases aM.mp a with rfl | a
  .rw[Ta r f.1];exact Lq r o f.1 l
  .exact E7 o l t f.2 b a
def Cg (x:V) (g:Aa V):Bool:=g.any λy=>sC y x
def Gn (K:nH) (neg:Bool):R2:=λx y H Q=>∃ p a,y = .ref p/\(nX K H p a\/oP K H p a)/\rR x=true/\a.all rR=true/\Q (.b (if neg then !Cg x a else Cg x a)) H
theorem LH:oJ X (compareOp .In) (Gn X.K false):=by
 intro f s t H x y v u Q I i m h;obtain⟨p,n,rfl,c,e,fs,q⟩:=h;cases m;rcases c with c | c
 .obtain⟨a,r,d,k⟩:=I.list c;refine SeqAt.in_listAt (uN x) d.isList (λw hw=>E7 i e r fs w (by simpa using hw)) ⟨.b _,H,I,rfl,?_⟩;rw[show a.toArray.any (uN x)=a.any (uN x) by simp,F6 r fs];exact q
 .obtain⟨a,r,d,k⟩:=I.tuple c;refine SeqAt.in_tupleAt (uN x) d (λw hw=>E7 i e r fs w (by simpa using hw)) ⟨.b _,H,I,rfl,?_⟩;rw[show a.toArray.any (uN x)=a.any (uN x) by simp,F6 r fs];exact q
theorem Pz:oJ X (compareOp .NotIn) (Gn X.K true):=by
 intro f s t H x y v u Q I i m h;obtain⟨p,n,rfl,c,e,fs,q⟩:=h;cases m;rcases c with c | c
 .obtain⟨a,r,d,k⟩:=I.list c;refine SeqAt.notIn_listAt (uN x) d.isList (λw hw=>E7 i e r fs w (by simpa using hw)) ⟨.b _,H,I,rfl,?_⟩;rw[show a.toArray.any (uN x)=a.any (uN x) by simp,F6 r fs];exact q
 .obtain⟨a,r,d,k⟩:=I.tuple c;refine SeqAt.notIn_tupleAt (uN x) d (λw hw=>E7 i e r fs w (by simpa using hw)) ⟨.b _,H,I,rfl,?_⟩;rw[show a.toArray.any (uN x)=a.any (uN x) by simp,F6 r fs];exact q
theorem KW:qC X (.builtin "len") (λj H Q=>∃ p g,j=[.ref p]/\(nX X.K H p g\/oP X.K H p g)/\Q (.int g.length) H):=by
 intro f s t H j n Q I r h;obtain⟨p,g,rfl,b,q⟩:=h;obtain⟨u,rfl,k⟩:=wL r;cases k;have m:=B4;rcases b with b | b
 .obtain⟨c,e,d,i⟩:=I.list b;have a:=e.length;exact Calls.call_len_list d.isList (by simp only[bE]<;>omega) ⟨.int g.length,H,I.tok _,⟨s.toks+1,by rw[bE,a]⟩,q⟩
 .obtain⟨c,e,d,i⟩:=I.tuple b;have a:=e.length;exact len_tuple d (by simp only[bE]<;>omega) ⟨.int g.length,H,I.tok _,⟨s.toks+1,by rw[bE,a]⟩,q⟩
theorem Sm:qC X (.builtin "len") (λg H Q=>∃ z,g=[.str z]/\z.length<=sizeLine/\Q (.int z.length) H):=by
 intro a s e H g d Q I r h;obtain⟨z,rfl,c,q⟩:=h;obtain⟨u,rfl,t,rfl⟩:=wL r;have b:=B4;exact len_str (by omega) ⟨.int z.length,H,I.tok _,⟨_,rfl⟩,q⟩
theorem qC.or (h:qC X f r) (j:qC X f l):qC X f (λg H Q=>r g H Q\/l g H Q):=by
 intro a s d H g c Q I b q;rcases q with q | q
 .exact h a s d H g c Q I b q
 .exact j a s d H g c Q I b q
theorem xP:qC X (.type "list") (λj H Q=>∃ p g,j=[.ref p]/\(nX X.K H p g\/oP X.K H p g)/\∀ l,H l=none->Q (.ref l) (upd H l (.l g))):=by
 intro v s D H j E Q I r h;obtain⟨p,g,rfl,k,q⟩:=h;obtain⟨u,rfl,B⟩:=wL r;cases B;have fin:∀ (a:Aa Ac),oA g a->g.length<=sizeLine->∀ (c:Ag) (d:Nat),(∀ b A,s.heap.get? b=some A->c.get? b=some A) ->
   c.get? s.heap.objs.size=some { cls:=.type "list",dict:=none,data:=.seq a.toArray d,slots:=#[] }->EP X v D Q (.ref s.heap.objs.size) { s with heap:=c }:=λa f m c d t e =>
  ⟨.ref s.heap.objs.size,_,I.laid (t':=s.toks) t (bB _) (show pE X.prog X.w _ c _ (.l g) from ⟨m,a,d,f,e⟩),rfl,q _ (I.hok.fresh (bB _))⟩
 rcases k with k | k
 .obtain⟨a,f,z,m⟩:=I.list k;have i:=f.length;obtain⟨o,y,x,n,hd⟩:=z.isList;exact call_list_seq p (.inl rfl) y x hd (λc d t e=>fin a f m c d t e) (by simp only[bE]<;>omega)
 .obtain⟨a,f,z,m⟩:=I.tuple k;have i:=f.length;obtain⟨o,y,x,n,hd⟩:=z;exact call_list_seq p (.inr rfl) y x hd (λc d t e=>fin a f m c d t e) (by simp only[bE]<;>omega)
theorem tY:qC X (.type "tuple") (λj H Q=>∃ p g,j=[.ref p]/\((nX X.K H p g/\∀ l,H l=none->Q (.ref l) (upd H l (.t g)))\/(oP X.K H p g/\Q (.ref p) H))):=by
 intro a s x H j B Q I r h;obtain⟨p,g,rfl,h⟩:=h;obtain⟨u,rfl,A⟩:=wL r;cases A;rcases h with⟨f,q⟩ | ⟨f,q⟩
 .obtain⟨c,k,i,v⟩:=I.list f;have n:=k.length;refine call_tuple_list i.isList (λd z=>?_) (by simp only[bE]<;>omega);have m:Inv X a x H { s with heap:=d }:=I.kept (t':=s.toks) z;have y:Inv X a x (upd H d.objs.size (.t g)) { s with heap:=d.push { cls:=.type "tuple",data:=.seq c.toArray } } :=
   m.laid (t':=s.toks) (λb o e=>aD _ e) (bB _) (show pE X.prog X.w _ _ _ (.t g) from ⟨v,c,k,Ap.new _ _⟩)
  exact⟨.ref d.objs.size,_,y,rfl,q _ (m.hok.fresh (bB _))⟩
 .obtain⟨c,k,i,v⟩:=I.tuple f;exact call_tuple_same i ⟨.ref p,H,I,rfl,q⟩
def Er (K:nH) (T:String) (x:V) (H:Hp):Prop:=match x with
 | .str _=>T = "str"
 | .int _=>T = "int"
 | .ref p=>(T = "list" /\ ∃ b,nX K H p b)\/(T = "tuple" /\ ∃ o,K.lookup p=some o/\o.cls = .type "tuple" /\ o.dict=none) \/
   (T = "dict" /\ ((∃ a,Rd H p (.k a))\/∃ a,H p=some (.T a)))\/(T = "set" /\ ∃ S n,H p=some (.set S n))
 | _=>False
theorem Pl (I:Inv X j l H s) (r:nO x v) (ty:Er X.K T x H) :
  s.TypeIs v T/\∀ a,v = .ref a->∃ g,s.heap.get? a=some g/\g.dict=none:=by
 cases x with
 | str z =>
  obtain⟨t,rfl⟩:=r;cases (show T = "str" from ty);exact⟨typeIs_str s z t,λ_ e=>nomatch e⟩
 | int i =>
  obtain⟨t,rfl⟩:=r;cases (show T = "int" from ty);exact⟨typeIs_int s i t,λ_ e=>nomatch e⟩
 | ref p =>
  cases r;rcases ty with⟨rfl,A,u⟩ | ⟨rfl,o,b,q,hd⟩ | ⟨rfl,b⟩ | ⟨rfl,S,n,b⟩
  .obtain⟨y,_,m,_⟩:=I.list u;refine⟨m.isList.typeIs,λa e=>?_⟩;cases e;obtain⟨o,n,e,c,hd,_⟩:=m;exact⟨o,e,hd⟩
  .refine⟨⟨o,I.kIn p o b,q⟩,λa e=>?_⟩;cases e;exact⟨o,I.kIn _ o b,hd⟩
  .have z:∃ o,s.heap.get? p=some o/\o.ExactDict:=by
    rcases b with⟨f,b⟩ | ⟨f,b⟩
    .obtain⟨_,_,_,_,o,_,_,e,d,_⟩:=(show pE X.prog X.w H s.heap p (.k f) from Rd.ok b I.hok);exact⟨o,e,d⟩
    .obtain⟨_,_,_,_,o,_,_,e,d,_⟩:=I.hok p _ b;exact⟨o,e,d⟩
   obtain⟨o,e,d⟩:=z;refine⟨⟨o,e,d.1⟩,λa h=>?_⟩;cases h;exact⟨o,e,d.2.1⟩
  .obtain⟨o,_,_,_,e,d,_⟩:=I.hok p _ b;refine⟨⟨o,e,d.1⟩,λa h=>?_⟩;cases h;exact⟨o,e,d.2.1⟩
 | _=>exact False.elim ty
def X8 (K:nH) (T:String) (r:V->Aa V->Hp->VK->Prop) (g:TE):TE:=λb H Q=>g b H λx a=>Er K T x a/\r x [] a Q
def DW (K:nH) (T:String) (r:V->Aa V->Hp->VK->Prop) (g:TE) (t:TA):TE:=λb H Q=>g b H λx a=>Er K T x a/\t b a λd c=>r x d c Q
variable {id:String}
theorem Qr (U:PlainAttrs T) (slot:Slot T name id) (p:typeOf (.builtin id)=pure (.type "method_descriptor")) (C:Cj X id r) (J:PE X o to)
  (g:attributeBase o name X.env (eval o X.env)=eval o X.env:=by rfl) (j:(apos.endLine == l.line)=true:=by rfl):PE X (.Call (.Attribute o name apos) [] [] l) (X8 X.K T r to):=by
 intro a s e H Q I h;refine wpAny_Call_method0_late g j (nL (J a s e H _ I h) λv n b=>?_);obtain⟨x,f,c,d,ty,m⟩:=b;obtain⟨i,k⟩:=Pl c d ty;exact⟨T,id,U,slot,p,i,k,gJ rfl (PySem.evalArgs_none (C a n e f x [] v [] Q c d .nil m))⟩
structure MtB (X:Cx) (o:Expr) (name:Str) (apos:Pos) (e:Expr) (es:List Expr) (cpos:Pos):Prop extends StB X e es cpos where
 c:attributeBase o name X.env (eval o X.env)=eval o X.env:=by rfl
 d:((backTo cpos (starEach (e::es) X.env)).all (λx=>!x.1)&&(backToKw cpos (keywordEach [] X.env)).all (λx=>x.1.isSome)&&decide ((e::es).length+([]:List Keyword).length+(if ([]:List Keyword).isEmpty then 0 else 1)<30))=true:=by rfl
 f:(apos.endLine == cpos.line)=true:=by rfl
theorem HH (pa:PlainAttrs T) (slot:Slot T name id) (p:typeOf (.builtin id)=pure (.type "method_descriptor")) (J:Cj X id r) (U:PE X o to) (C:PA X (e::l) t)
  (j:MtB X o name apos e l g:=by exact {}) :
  PE X (.Call (.Attribute o name apos) (e::l) [] g) (DW X.K T r to t):=by
 intro i s m H Q I h;refine wpAny_Call_method_late j.c j.d j.f rfl (nL (U i s m H _ I h) λv G k=>?_);obtain⟨x,w,n,u,ty,D⟩:=k;obtain⟨A,B⟩:=Pl n u ty;refine⟨T,id,pa,slot,p,A,B,?_⟩;have q:=C g i G m w _ n D;rw[j.a] at q |-;refine gJ (by show (false||(backTo g (starEach l X.env)).any (·.1))=false;rw[j.b]<;>rfl) (jO ?_);exact nL q λM L ⟨N,y,z,F,E⟩=>J i L m y x N v M Q z u F E
/- xs.append(e),list.index on a module's tuple .. are Cj facts of 06m -/
end
def K7 (X:Cx) (id:String) (r:V->Aa V->Hp->VK->Prop):Prop :=
 ∀ (a:Aa (Ad×Obj)) (s:Ae) (d:St) (H:Hp) (x:V) (c:Aa V) (v:Ac) (b:Aa Ac) (Q:VK),Inv X a d H s->nO x v->oA c b->r x c H Q ->
  wpAny (model X.prog X.w) X.A (call (.builtin id) (v::b)) (EP X a d Q) X.xe s
theorem oA.one:∀ {x:V}{g:Aa Ac},oA [x] g->∃ u,g=[u]/\nO x u
 | _,_,.cons r .nil=>⟨_,rfl,r⟩
theorem oA.eraseIdx:∀ {j:Aa V}{g:Aa Ac}(i:Nat),oA j g->oA (j.eraseIdx i) (g.eraseIdx i)
 | _,_,_,.nil=>.nil
 | _,_,0,.cons _ t=>t
 | _,_,i+1,.cons r t=>.cons r (oA.eraseIdx i t)
theorem oA.reverse (h:oA j g):oA j.reverse g.reverse:=by
 induction h with
 | nil=>exact .nil
 | cons r t a=>rw[kL,kL];exact oA.append a (.cons r .nil)
theorem oA.rep (h:oA j g):∀ k:Nat,oA (List.replicate k j).flatten (List.replicate k g).flatten
 | 0=>.nil
 | k+1=>by
  rw[dO,dO,iM,iM];exact oA.append h (oA.rep h k)
theorem Np:∀ (l:Aa g) (i:Nat),(l.eraseIdx i).length<=l.length
 | [],_=>bB _
 | _::_,0=>gX _
 | _::r,i+1=>lG (Np r i)
theorem Uu (j:Aa Ac):∀ (k:Nat) (g:Aa Ac),
  List.foldl (λl o=>l++o) g.toArray (List.replicate k j.toArray)=(g++(List.replicate k j).flatten).toArray
 | 0,g=>by simp
 | k+1,g=>by
  have e:g.toArray++j.toArray=(g++j).toArray:=by simp
  have a:(g++j)++(List.replicate k j).flatten=g++(List.replicate (k+1) j).flatten:=by
   rw[dO,iM,bM]
  rw[<- a,<- Uu j k (g++j),<- e,dO,List.foldl_cons]
section
variable {X:Cx}
theorem Inv.lset {g:Aa Ac}(I:Inv X j T H s) (p:H l=some (.l xs))
  (e:s.heap.get? l=some { cls:=.type "list",data:=.seq g.toArray n }) (r:f g.toArray=its'.toArray) (C:oA o its') (J:o.length<=sizeLine) :
  Inv X j T (upd H l (.l o)) { s with heap:=s.heap.update l (Obj.mapSeq f),toks:=U }:=by
 have q:=PySem.IsL.update e f;rw[r] at q;refine I.write (x:=l) (e:=l) (by rw[p];exact trivial) (.inl rfl) (λc u a b=>(cF s.heap (Obj.mapSeq f) (fQ a)).trans b) ⟨_,q⟩ ?_;exact⟨J,its',_,C,q⟩
theorem Inv.lnew (I:Inv X g p H s) (j:oA ys its) (o:ys.length<=sizeLine) :
  Inv X g p (upd H s.heap.objs.size (.l ys)) { s with heap:=s.heap.push { cls:=.type "list",data:=.seq its.toArray },toks:=t' } :=
 I.laid (λ_ _ q=>aD _ q) (bB _) ⟨o,its,0,j,bF _ rfl⟩
theorem Inv.fresh (I:Inv X g j H s):H s.heap.objs.size=none:=I.hok.fresh (bB _)
theorem Inv.lstM (I:Inv X o C H s) (p:H l=some (.l j)):j.length<=sizeLine/\∃ (g:Aa Ac) (n:Nat),oA j g/\j.length=g.length/\s.heap.get? l=some { cls:=.type "list",data:=.seq g.toArray n }:=by
 obtain⟨z,g,n,r,e⟩:=I.hok l _ p;exact⟨z,g,n,r,r.length,e⟩
theorem X4 (h:n<=sizeLine):Builtin.List.listTooLong n=false:=by
 unfold Builtin.List.listTooLong;exact aY (by omega)
end
section
variable {X:Cx}
def U2:V->Aa V->Hp->VK->Prop:=λx b H Q=>∃ l a y,x = .ref l/\b=[y]/\H l=some (.l a)/\a.length<sizeLine/\Q .e (upd H l (.l (a++[y])))
theorem yZ:K7 X "list.append" U2:=by
 intro c s B H x w v t Q I i f h;obtain⟨l,A,y,rfl,rfl,b,m,q⟩:=h;cases i;obtain⟨u,rfl,d⟩:=f.one;obtain⟨z,a,n,r,k,e⟩:=I.lstM b;refine mJ F.slot_list_append ⟨_,e,rfl⟩ F.entry_list_append (F.args_list_append_2 _ _) (PySem.list_append l a.toArray n u (by rw[bE];omega)) ⟨e,?_⟩;refine⟨.e,_,I.lset (its':=a++[u]) b e (by simp) (r.append (.cons d .nil)) ?_,rfl,q⟩;rw[aE,kW];omega
def RH:V->Aa V->Hp->VK->Prop:=λx d H Q=>∃ l b a c,x = .ref l/\d=[.ref b]/\H l=some (.l a)/\H b=some (.l c)/\a.length+c.length<=sizeLine/\Q .e (upd H l (.l (a++c)))
def Td:V->Aa V->Hp->VK->Prop:=λx b H Q=>∃ l a i k y,x = .ref l/\b=[.int i]/\H l=some (.l a)/\-(2 ^ 63)<=i/\i<2 ^ 63/\seqIndex? i a.length=some k/\a[k]?=some y/\Q y (upd H l (.l (a.eraseIdx k)))
theorem Qw:K7 X "list.pop" Td:=by
 intro d s O H x N v M Q I K G h;obtain⟨l,L,i,k,y,rfl,rfl,c,f,m,A,D,q⟩:=h;cases K;obtain⟨u,rfl,E⟩:=G.one;obtain⟨t,rfl⟩:=E;obtain⟨z,a,n,r,B,e⟩:=I.lstM c;obtain⟨w,hw,b⟩:=r.get D;refine mJ F.slot_list_pop ⟨_,e,rfl⟩ F.entry_list_pop (F.args_list_pop_2 _ _)
  (MeetsSeq.list_pop_at l a.toArray n i t k w (fitsIndex_both f m) (by rw[bE,<- B];exact A) (by rw[<- fX];exact hw) (by rw[bE];omega)) ⟨e,?_⟩
 refine⟨y,_,I.lset (its':=a.eraseIdx k) c e ?_ (r.eraseIdx k) ?_,b,q⟩
 .show a.toArray.eraseIdxIfInBounds k=(a.eraseIdx k).toArray;rw[kU]
 .have:=Np L k;omega
def U1:R2:=λx y H Q=>∃ l b a c,x = .ref l/\y = .ref b/\H l=some (.l a)/\H b=some (.l c)/\a.length+c.length<=sizeLine/\∀ p,H p=none->Q (.ref p) (upd H p (.l (a++c)))
theorem NQ:oJ X (binaryOp .Add) U1:=by
 intro d s M H x y v u Q I A B h;obtain⟨l,b,G,L,rfl,rfl,m,k,E,q⟩:=h;cases A;cases B;obtain⟨z,c,n,r,D,e⟩:=I.lstM m;obtain⟨K,a,F,w,t,f⟩:=I.lstM k;refine PySem.P.add_list e f ?_ (by rw[bE,bE];omega);have i:c.toArray++a.toArray=(c++a).toArray:=by simp
 rw[i];exact⟨.ref _,_,I.lnew (t':=s.toks) (r.append w) (by rw[aE];omega),rfl,q _ I.fresh⟩
def Ve:R2:=λx y H Q=>∃ l k a,x = .ref l/\y = .int k/\H l=some (.l a)/\-(2 ^ 63)<=k/\k<2 ^ 63/\a.length*k.toNat<=sizeLine /\
 ∀ p,H p=none->Q (.ref p) (upd H p (.l (List.replicate k.toNat a).flatten))
theorem BB (g:Aa j) (k:Nat):(List.replicate k g).flatten.length=k*g.length:=by
 induction k with
 | zero=>simp
 | succ k a=>rw[dO,iM,aE,a,Nat.succ_mul,Nat.add_comm]
theorem Zi:oJ X (binaryOp .Mult) Ve:=by
 intro E s W H x y v u Q I O P h;obtain⟨l,k,V,rfl,rfl,M,K,L,D,q⟩:=h;cases O;obtain⟨t,rfl⟩:=P;obtain⟨z,b,n,r,N,e⟩:=I.lstM M;have i:b.toArray.size*k.toNat<=sizeLine:=by rw[bE,<- N];exact D
 have d:¬ b.toArray.size*k.toNat>(2 ^ 63-1)/8:=by
  have:(sizeLine:Nat)<=(2 ^ 63-1)/8:=by decide
  omega
 have f:¬ (!Builtin.List.listFitsIndex k)=true:=by
  rw[fitsIndex_both K L];exact bN
 have c:¬ Builtin.List.listTooLong (b.toArray.size*k.toNat)=true:=by
  rw[X4 i];exact bN
 have w:List.foldl (λA B=>A++B) #[] (List.replicate (if b.toArray.isEmpty=true then 0 else k.toNat) b.toArray)=(List.replicate k.toNat b).flatten.toArray:=by
  have G:∀ m:Nat,List.foldl (λA B=>A++B) #[] (List.replicate m b.toArray)=(List.replicate m b).flatten.toArray:=λm=>by
   have:=Uu b m [];rw[hV] at this;exact this
  rw[G];cases b with
  | nil=>simp
  | cons a S=>rw[aG (by simp)]
 refine wpAny_binaryOp_repeat_ref (T := "list") (U := "int") (by decide) ⟨_,e,rfl⟩ (λR=>typeIs_int R k t) noFill_list_mul F.fills_int_mul F.slot_int_rmul repeat_list F.slot_int_index.lookup
  (mJ F.slot_int_rmul (typeIs_int s k t) F.entry_int_rmul (F.args_int_rmul_2 _ _) (int___rmul___int_list k t l b.toArray n) ⟨e,rfl,⟨_,e,rfl⟩,mJ F.slot_list_mul ⟨_,e,rfl⟩ F.entry_list_mul (F.args_list_mul_2 _ _) (AutoListH.list___mul___list_int_3 l b.toArray n k t f d c) ⟨e,?_⟩⟩)
 rw[w];exact⟨.ref _,_,I.lnew (t':=s.toks) (r.rep k.toNat) (by rw[BB,Nat.mul_comm];exact D),rfl,q _ I.fresh⟩
end
section
variable [DecidableEq κ]
noncomputable def qA (g:Aa (κ×V)) (k:κ):Ab V:=(g.find? λa=>decide (a.1=k)).map (·.2)
noncomputable def sA (g:Aa (κ×V)) (k:κ) (v:V):Aa (κ×V) :=
 if (g.any λa=>decide (a.1=k))=true then g.map (λa=>if a.1=k then (a.1,v) else a) else g++[(k,v)]
def Bu (g:Aa (κ×V)) (k:κ):Aa (κ×V):=g.filter λa=>decide (a.1≠k)
theorem vB {p:κ×V}{r:Aa (κ×V)}{k:κ}(e:p.1=k):qA (p::r) k=some p.2:=by simp[qA,fM,e]
theorem uX {p:κ×V}{r:Aa (κ×V)}{k:κ}(e:¬ p.1=k):qA (p::r) k=qA r k:=by simp[qA,fM,e]
theorem Ol (k:κ):∀ g:Aa (κ×V),(g.any λj=>decide (j.1=k))=(qA g k).isSome
 | []=>rfl
 | p::r=>by
  rw[iC];by_cases e:p.1=k
  .simp only[vB e,bC e,Bool.true_or,mK]
  .rw[uX e,aY e,Bool.false_or];exact Ol k r
theorem Nn (g:Aa (κ×V)) (k:κ) (v:V):(sA g k v).length<=g.length+1:=by
 unfold sA;split
 .rw[aA];omega
 .rw[aE,cS,dL];omega
theorem tR.isSome_eq (r:tR o u):o.isSome=u.isSome:=by
 cases o with
 | none=>cases u with
  | none=>rfl
  | some _=>exact (show False from r).elim
 | some _=>cases u with
  | none=>exact (show False from r).elim
  | some _=>rfl
theorem tR.getD (r:tR o u) (rd:nO d g):nO (o.getD d) (u.getD g):=by
 cases o with
 | none=>cases u with
  | none=>exact rd
  | some _=>exact (show False from r).elim
 | some _=>cases u with
  | none=>exact (show False from r).elim
  | some _=>exact r
theorem KV.val (r:KV g j) (k:κ):tR (qA g k) (valueAt j k):=by
 unfold KV at r;induction r with
 | nil=>exact True.intro
 | @cons p q m c h t i =>
  obtain⟨d,f⟩:=h;by_cases e:p.1=k
  .have a:q.1=k:=d.symm.trans e;have b:valueAt (q::c) k=some q.2:=by simp[valueAt,fM,a]
   rw[vB e,b];exact f
  .have a:¬ q.1=k:=λz=>e (d.trans z)
   have b:valueAt (q::c) k=valueAt c k:=by simp[valueAt,fM,a]
   rw[uX e,b];exact i
theorem KV.any (r:KV j l) (k:κ):(j.any λg=>decide (g.1=k))=l.any λg=>decide (g.1=k):=by
 unfold KV at r;induction r with
 | nil=>rfl
 | cons h t a=>rw[iC,iC,a,h.1]
theorem KV.repl (r:KV j o) (k:κ) (l:nO y u) :
  KV (j.map λg=>if g.1=k then (g.1,y) else g) (o.map λg=>if g.1=k then (g.1,u) else g):=by
 unfold KV at r |-;induction r with
 | nil=>exact .nil
 | @cons p q d f h t c =>
  rw[bD,bD];refine .cons ?_ c;obtain⟨a,b⟩:=h;by_cases e:p.1=k
  .rw[aQ e,aQ (a.symm.trans e)];exact⟨a,l⟩
  .rw[aG e,aG (λz=>e (a.trans z))];exact⟨a,b⟩
theorem KV.put (r:KV g l) (k:κ) (j:nO y u):KV (sA g k y) (stored l k u):=by
 unfold sA stored;rw[r.any k];by_cases e:(l.any λa=>decide (a.1=k))=true
 .rw[aQ e,aQ e];exact r.repl k j
 .rw[aG e,aG e];exact Paired.snoc r ⟨rfl,j⟩
theorem KV.drop (r:KV g j) (k:κ):KV (Bu g k) (without j k):=by
 unfold KV at r |-;unfold Bu without;induction r with
 | nil=>exact .nil
 | @cons p q m n h t d =>
  obtain⟨c,i⟩:=h;rw[lH,lH];by_cases e:p.1=k
  .have a:¬ decide (p.1≠k)=true:=by simp[e]
   have b:¬ decide (q.1≠k)=true:=by simp[c.symm.trans e]
   rw[aG a,aG b];exact d
  .have f:¬ q.1=k:=λz=>e (c.trans z)
   have a:decide (p.1≠k)=true:=by simp[e]
   have b:decide (q.1≠k)=true:=by simp[f]
   rw[aQ a,aQ b];exact .cons ⟨c,i⟩ d
theorem KV.length (r:KV g j):g.length=j.length:=gU r
theorem LG (g:Aa (κ×V)) (k:κ):(Bu g k).length<=g.length:=bK _ _
end
theorem wY {P:Ah}(r:nO (kV k) u):(qJ P w).is k u=true:=by
 cases k with
 | inl i=>obtain⟨t,e⟩:=(show ∃ t,u=Value.int i t from r);subst e;exact DJ P w i t
 | inr x=>obtain⟨t,e⟩:=(show ∃ t,u=Value.str x t from r);subst e;exact Qq P w x t
theorem Pt {P:Ah}:∀ {g:Aa hH}{j:Aa Ac},oA (g.map kV) j->ItemsAre (qJ P w) g j
 | [],_,r=>by rw[kM] at r;cases r;exact .nil
 | k::g,_,r=>by
  rw[bD] at r;cases r with
  | cons h t=>exact .cons (wY h) (Pt t)
abbrev KT (H:Hp):Aa (Aa hH×V)->Aa (Aa hH×Ad×Ac)->Prop:=Paired λp q=>p.1=q.1/\H q.2.1=some (.t (p.1.map kV))/\nO p.2 q.2.2
theorem KT.val (r:KT H g j) (k:Aa hH):tR (qA g k) ((atKey j k).map (·.2)):=by
 induction r with
 | nil=>exact True.intro
 | @cons p q m c h t i =>
  obtain⟨d,_,f⟩:=h;by_cases e:p.1=k
  .have a:q.1=k:=d.symm.trans e;have b:atKey (q::c) k=some q.2:=by simp[atKey,fM,a]
   rw[vB e,b];exact f
  .have a:¬ q.1=k:=λz=>e (d.trans z)
   have b:atKey (q::c) k=atKey c k:=by simp[atKey,fM,a]
   rw[uX e,b];exact i
theorem KT.repl (r:KT H j o) (k:Aa hH) (l:nO y u) :
  KT H (j.map λg=>if g.1=k then (g.1,y) else g) (o.map (putAt k u)):=by
 induction r with
 | nil=>exact .nil
 | @cons p q f i h t d =>
  rw[bD,bD];refine .cons ?_ d;obtain⟨a,b,c⟩:=h;unfold putAt;by_cases e:p.1=k
  .rw[aQ e,aQ (a.symm.trans e)];exact⟨a,b,l⟩
  .rw[aG e,aG (λz=>e (a.trans z))];exact⟨a,b,c⟩
theorem KT.put (r:KT H g j) (k:Aa hH) (o:H b=some (.t (k.map kV))) (l:nO y u) :
  KT H (sA g k y) (storedH j k b u):=by
 have e:(g.any λa=>decide (a.1=k))=(atKey j k).isSome:=by
  rw[Ol,(r.val k).isSome_eq,mQ]
 unfold sA storedH;rw[e];by_cases q:(atKey j k).isSome=true
 .rw[aQ q,aQ q];exact r.repl k l
 .rw[aG q,aG q];exact Paired.snoc r ⟨rfl,o,l⟩
theorem KT.keeps (r:KT H g p) (o:∀ b j,H b=some (.t j)->l b=some (.t j)):KT l g p :=
 Paired.mapP r λ_ _ z=>⟨z.1,o _ _ z.2.1,z.2.2⟩
section
variable {P:Ah}
theorem Sy (ok:pP P w H h) (e:Rd H a u):pE P w H h a u:=e.ok ok
theorem uE (ok:pP P w H h) (e:Rd H a (.k g)):g.length<=sizeLine/\(a == sysModules)=false/\∃ j,KV g j/\h.DictOf (qJ P w) a j :=
 show pE P w H h a (.k g) from Sy ok e
theorem C7 (ok:pP P w H h) (e:H a=some (.k g)):g.length<=sizeLine/\(a == sysModules)=false/\∃ j,KV g j/\h.DictOf (qJ P w) a j:=uE ok (.inl e)
theorem Dg (ok:pP P w H h) (e:H a=some (.t (g.map kV))):(tupleKind (qJ P w)).is h g a:=by
 obtain⟨_,b,r,⟨o,c,d,n,f⟩,_⟩:=(show pE P w H h a (.t (g.map kV)) from ok a _ e);exact⟨o,b.toArray,n,c,d,f,by simpa using Pt r⟩
theorem Bf (ok:pP P w H h) (e:Rd H a (.T g)):g.length<=sizeLine/\(a == sysModules)=false /\
  ∃ j,KT H g j/\h.DictOfH (tupleKind (qJ P w)) a j:=by
 obtain⟨z,y,j,r,o,f,d,i,k,n,s,u⟩:=(show pE P w H h a (.T g) from Sy ok e);refine⟨z,y,j,r,o,f,d,i,k,n,s,λx b=>?_,u⟩;have all:∀ {l:Aa (Aa hH×V)} {m:Aa (Aa hH×Ad×Ac)},KT H l m->∀ x∈m,(tupleKind (qJ P w)).is h x.1 x.2.1:=by
  intro l m q;induction q with
  | nil=>intro x b;exact nomatch b
  | @cons p q A B c t v =>
   intro x b;rcases aM.mp b with e | b
   .subst e;exact Dg ok (by rw[<- c.1];exact c.2.1)
   .exact v x b
 exact all r x b
theorem Y6 (ok:pP P w H h) (e:H a=some (.T g)):g.length<=sizeLine/\(a == sysModules)=false /\
  ∃ j,KT H g j/\h.DictOfH (tupleKind (qJ P w)) a j:=Bf ok (.inl e)
end
def wR (H:Hp) (a:Ad) (y:V) (r:Ab V):Prop :=
 (∃ c k,Rd H a (.k c)/\y=kV k/\r=qA c k)\/∃ c k b,Rd H a (.T c)/\y = .ref b/\H b=some (.t (k.map kV))/\r=qA c k
def yQ (H:Hp) (a:Ad) (y v:V) (g:Hp):Prop :=
 (∃ c k,H a=some (.k c)/\y=kV k/\c.length<sizeLine/\g=upd H a (.k (sA c k v))) \/
 ∃ c k b,H a=some (.T c)/\y = .ref b/\H b=some (.t (k.map kV))/\c.length<sizeLine/\g=upd H a (.T (sA c k v))
theorem wR.k {k:hH}(e:H a=some (.k g)):wR H a (kV k) (qA g k):=.inl ⟨g,k,.inl e,rfl,rfl⟩
theorem yQ.k {k:hH}(e:H a=some (.k g)) (j:g.length<sizeLine):yQ H a (kV k) v (upd H a (.k (sA g k v))):=.inl ⟨g,k,e,rfl,j,rfl⟩
theorem yQ.t {H:Hp}{a b:Ad}{g:Aa (Aa hH×V)}{k:Aa hH}{v:V}(e:H a=some (.T g)) (j:H b=some (.t (k.map kV))) (l:g.length<sizeLine) :
  yQ H a (.ref b) v (upd H a (.T (sA g k v))):=.inr ⟨g,k,b,e,rfl,j,l,rfl⟩
section
variable {X:Cx}
theorem Inv.big (I:Inv X g j H s):sysModules<s.heap.objs.size:=by
 have h:mainGlobals<s.heap.objs.size:=(I.mod.glob.keeps I.bk).lt;exact mZ (by decide) h
theorem NI (T:A.units+1<cLine) (I:Inv X r U H s) (g:wR H a y (some v)) (C:nO y u) (h:∀ j J,Inv X r U H J->nO v j->Q j J) :
  wpAny (model X.prog X.w) A (getItem (.ref a) u) Q E s:=by
 rcases g with⟨m,k,e,f,l⟩ | ⟨m,k,b,e,f,n,l⟩
 .subst f;obtain⟨z,hd,t,rel,d⟩:=uE I.hok e;obtain⟨j,hw,c⟩:=tR.some_of (v:=v) (o:=valueAt t k) (by rw[l];exact rel.val k);exact wpAny_getItem_of (wY C) d.mapOf hw (h j _ (I.tok _) c)
 .subst f;cases (show u=Value.ref b from C);obtain⟨z,hd,x,rel,d⟩:=Bf I.hok e;obtain⟨j,hw,c⟩:=tR.some_of (v:=v) (o:=(atKey x k).map (·.2)) (by rw[l];exact rel.val k);obtain⟨p,q,i⟩:=dF.mp hw;refine wpAny_getItem_heap (jF T) (Dg I.hok n) d q ?_;rw[i];exact h j _ (I.tok _) c
theorem HJ (C:A.units+1<cLine) (I:Inv X j J H s) (g:wR H a y o) (p:nO y u) (h:∀ r,Inv X j J H r->Q (.bool o.isSome) r) :
  wpAny (model X.prog X.w) A (compareOp .In u (.ref a)) Q E s:=by
 rcases g with⟨f,k,e,d,l⟩ | ⟨f,k,b,e,d,i,l⟩
 .subst d;obtain⟨z,hd,m,rel,c⟩:=uE I.hok e;refine wpAny_in_of (wY p) hd c.mapOf ?_;rw[<- (rel.val k).isSome_eq,<- l];exact h _ (I.tok _)
 .subst d;cases (show u=Value.ref b from p);obtain⟨z,hd,n,rel,c⟩:=Bf I.hok e;refine wpAny_in_heap (jF C) (Dg I.hok i) hd c ?_;have q:=(rel.val k).isSome_eq;rw[mQ] at q;rw[<- q,<- l];exact h _ (I.tok _)
theorem BK (C:A.units+1<cLine) (I:Inv X j J H s) (g:wR H a y o) (p:nO y u) (h:∀ r,Inv X j J H r->Q (.bool (!o.isSome)) r) :
  wpAny (model X.prog X.w) A (compareOp .NotIn u (.ref a)) Q E s:=by
 rcases g with⟨f,k,e,d,l⟩ | ⟨f,k,b,e,d,i,l⟩
 .subst d;obtain⟨z,hd,m,rel,c⟩:=uE I.hok e;refine wpAny_notIn_of (wY p) hd c.mapOf ?_;rw[<- (rel.val k).isSome_eq,<- l];exact h _ (I.tok _)
 .subst d;cases (show u=Value.ref b from p);obtain⟨z,hd,n,rel,c⟩:=Bf I.hok e;refine wpAny_notIn_heap (jF C) (Dg I.hok i) hd c ?_;have q:=(rel.val k).isSome_eq;rw[mQ] at q;rw[<- q,<- l];exact h _ (I.tok _)
theorem Ds (I:Inv X g C H s) (r:Fp (H a)) (p:Heap.SameBut a s.heap j) (o:∃ q,j.get? a=some q) (new:pE X.prog X.w (upd H a l) j a l) :
  Inv X g C (upd H a l) { s with heap:=j,toks:=J } :=
 I.write (x:=a) (e:=a) r (.inl rfl) (λb q c z=>(p.2 b c).trans z) o new
theorem Bh {P:Ah}(z:g.length<=sizeLine) (hd:(a == sysModules)=false) (rel:KV g j) (l:o.DictOf (qJ P w) a j) :
  pE P w p o a (.k g):=⟨z,hd,j,rel,l⟩
theorem Qe (T:A.units+1<cLine) (I:Inv X j U H s) (g:yQ H a y v J) (p:nO y u) (o:nO v r) (h:∀ C,Inv X j U J C->Q () C) :
  wpAny (model X.prog X.w) A (setItem (.ref a) u r) Q E s:=by
 rcases g with⟨d,k,e,t,l,n⟩ | ⟨d,k,b,e,t,F,l,n⟩
 .subst t n;obtain⟨z,hd,V,rel,m⟩:=C7 I.hok e;have D:V.length<=sizeLine:=by rw[<- rel.length];exact z
  have x:(sA d k v).length<=sizeLine:=by have:=Nn d k v;omega
  refine wpAny_setItem_pairs (hsz:=D) (wY p) m λK f B=>h _ ?_
  have S:∃ q,K.get? a=some q:=let ⟨q,_,_,i,_⟩:=f;⟨q,i⟩;exact Ds I (by rw[e];exact True.intro) B S (Bh x hd (rel.put k o) f)
 .subst t n;cases (show u=Value.ref b from p);obtain⟨z,hd,W,rel,m⟩:=Y6 I.hok e;have D:W.length<=sizeLine:=by rw[<- gU rel];exact z
  have x:(sA d k v).length<=sizeLine:=by have:=Nn d k v;omega
  refine wpAny_setItem_heap (hsz:=D) (jF T) (Dg I.hok F) m λK f B=>h _ ?_
  obtain⟨q,M,L,i,N,O,P,_,R⟩:=f;refine Ds I (by rw[e];exact True.intro) B ⟨q,i⟩ ⟨x,hd,_,(rel.put k F o).keeps λc Y G=>?_,q,M,L,i,N,O,P,R⟩;rw[nP (EJ G e (λz=>nomatch z))];exact G
end
section
variable {X:Cx}
theorem PB (I:Inv X j T H s) (e:H a=some (.k g)) (r:nO (kV k) u) (l:qA g k=some v) (C:more=[]\/∃ x,more=[x])
  (h:∀ p J,Inv X j T (upd H a (.k (Bu g k))) J->nO v p->Q p J):wpAny (model X.prog X.w) A (call (.builtin "dict.pop") (.ref a::u::more)) Q E s:=by
 obtain⟨z,hd,f,rel,d⟩:=C7 I.hok e;obtain⟨p,hw,c⟩:=tR.some_of (v:=v) (o:=valueAt f k) (by rw[<- l];exact rel.val k);have B:(keyPart u).isSome=true:=by
  cases k with
  | inl i=>obtain⟨t,q⟩:=(show ∃ t,u=Value.int i t from r);subst q;rfl
  | inr x=>obtain⟨t,q⟩:=(show ∃ t,u=Value.str x t from r);subst q;rfl
 have n:argsOk "dict.pop" ⟨.ref a::u::more,[]⟩:=by
  rcases C with q | ⟨x,q⟩
  .subst q;exact PySem.F.args_dict_pop_2 _ _
  .subst q;exact PySem.F.args_dict_pop_3 _ _ _
 refine kN kX d.typeIs PySem.F.entry_dict_pop n (meets_dict_pop_there (qJ X.prog X.w) a (wY r) more C B)
  ⟨f,p,d,by rw[<- rel.length];exact z,hw,λm b G=>h p _ ?_ c⟩
 have y:∃ q,m.get? a=some q:=let ⟨q,_,_,D,_⟩:=b;⟨q,D⟩;exact Ds I (by rw[e];exact True.intro) G y (Bh (bS (LG g k) z) hd (rel.drop k) b)
theorem PY (I:Inv X g C H s) (e:H a=some (.k j)) (o:nO (kV k) u) (l:qA j k=none) (h:∀ p,Inv X g C H p->Q r p) :
  wpAny (model X.prog X.w) A (call (.builtin "dict.pop") [.ref a,u,r]) Q E s:=by
 obtain⟨z,hd,c,rel,b⟩:=C7 I.hok e;have d:valueAt c k=none:=tR.none_of (by rw[<- l];exact rel.val k);have f:(keyPart u).isSome=true:=by
  cases k with
  | inl i=>obtain⟨t,q⟩:=(show ∃ t,u=Value.int i t from o);subst q;rfl
  | inr x=>obtain⟨t,q⟩:=(show ∃ t,u=Value.str x t from o);subst q;rfl
 exact kN kX b.typeIs PySem.F.entry_dict_pop (PySem.F.args_dict_pop_3 _ _ _) (meets_dict_pop_default (qJ X.prog X.w) a (wY o) hd f r) ⟨c,b,d,h _ (I.tok _)⟩
theorem W8 (I:Inv X g o H s) (e:Rd H a (.k j)) (h:∀ t l,Inv X g o H l->Q (.int j.length t) l):wpAny (model X.prog X.w) A (call (.builtin "len") [.ref a]) Q E s:=by
 obtain⟨z,hd,c,rel,b⟩:=uE I.hok e;refine call_len_dict hd b (by rw[<- rel.length];rw[mP] at z;omega) ?_;rw[<- rel.length];exact h _ _ (I.tok _)
end
theorem S2 {X:Cx}(I:Inv X j l H s) (g:wR H a y o):s.TypeIs (.ref a) "dict" := by
 rcases g with⟨d,k,e,_,_⟩ | ⟨d,k,b,e,_,_,_⟩
 .obtain⟨_,_,f,_,c⟩:=uE I.hok e;exact c.typeIs
 .obtain⟨_,_,h,_,c⟩:=Bf I.hok e;exact c.typeIs
def GX (g ty j:TE):TS:=λD b H=>j b H λv d=>g b d λx e=>ty b e λy f=>∃ a c,x = .ref a/\yQ f a y v c/\D.nx b c
section
variable {X:Cx}
theorem IC (J:X.A.units+1<cLine) (p:PE X o U) (l:PE X i ty) (T:PE X value tv) (C:swapsWith value (some (.Subscript o i j)) pos.line X.env=pure false) :
  PS X (.Assign [.Subscript o i j] value pos) (GX U ty tv):=by
 intro b s c H D I h;refine wpAny_Assign_Subscript (nL (T b s c H _ I h) λr L ⟨v,e,m,F,z⟩=>nL (p b L c e _ m z) λu M ⟨x,f,n,G,B⟩=>nL (l b M c f _ n B) λO P d=>?_) C;obtain⟨y,N,q,K,a,k,w,g,E⟩:=d;subst w;obtain rfl:u=Value.ref a:=G;exact Qe J q g K F λQ t=>⟨c,k,t,E⟩
end
theorem Qk {P:Ah}(h:Ag) (g:sysModules<h.objs.size):pE P w H (h.push { cls:=.type "dict",data:=.dict #[] }) h.objs.size (.k []) :=
 ⟨gA _,eP.mpr (fQ (cD g)),[],.nil,Heap.DictOf.new h⟩
def QH:TE:=λ_ H Q=>∀ p,H p=none->Q (.ref p) (upd H p (.k []))
section
variable {X:Cx}
theorem MD:PE X (.Dict [] [] pos) QH:=λb s c H Q I h =>
 wpAny_Dict_empty ⟨.ref s.heap.objs.size,_,I.laid (a:=s.heap.objs.size) (o:=.k []) (t':=s.toks) (λ_ _ q=>aD _ q) (bB _) (Qk s.heap I.big),rfl,h _ (I.hok.fresh (bB _))⟩
end
def Fu:Aa (TE×TE)->St->Hp->(Aa (V×V)->Hp->Prop)->Prop
 | [],_,H,Q=>Q [] H
 | (f,h)::r,a,H,Q=>f a H λx b=>h a b λy c=>Fu r a c λe d=>Q ((x,y)::e) d
abbrev VV:Aa (V×V)->Aa (Ac×Ac)->Prop:=Paired λp q=>nO p.1 q.1/\nO p.2 q.2
def Fk (X:Cx) (pos:Pos) (keys:Aa (Ab Expr)) (values:Aa Expr) (g:Aa (TE×TE)):Prop :=
 ∀ (a:Aa (Ad×Obj)) (s:Ae) (b:St) (H:Hp) (Q:Aa (V×V)->Hp->Prop),Inv X a b H s->Fu g b H Q ->
  wpAny (model X.prog X.w) X.A (evalPairs (pairTrees keys values X.env pos)) (λf e=>∃ d c,Inv X a b c e/\VV d f/\Q d c) X.xe s
theorem Sn {X:Cx}:Fk X pos [] [] []:=λa s b H Q I h=>pairTrees_nil_walk ⟨[],H,I,.nil,h⟩
theorem Cv {X:Cx}(j:PE X k r) (o:PE X v C) (l:Fk X pos p J g) :
  Fk X pos (some k::p) (v::J) ((r,C)::g):=λa s b H Q I h =>
 pairTrees_cons_walk (nL (j a s b H _ I h) λu B ⟨x,c,f,z,q⟩=>nL (o a B b c _ f q) λF D ⟨y,d,i,A,t⟩ =>nL (l a D b d _ i t) λG E ⟨n,e,m,rel,w⟩=>⟨(x,y)::n,e,m,.cons ⟨z,A⟩ rel,w⟩)
def uI (g more:Aa (hH×V)):Aa (hH×V):=more.foldl (λa b=>sA a b.1 b.2) g
theorem KV.merge:∀ {more:Aa (hH×V)}{l:Aa (hH×Ac)}{g:Aa (hH×V)}{j:Aa (hH×Ac)},KV more l->KV g j->KV (uI g more) (merged j l):=by
 intro more l g j r;unfold KV at r;induction r generalizing g j with
 | nil=>intro q;exact q
 | @cons p q c d h t a =>
  intro b;have e:KV (sA g p.1 p.2) (stored j q.1 q.2):=by
   have:=b.put p.1 h.2;rw[<- h.1];exact this
  exact a e
theorem Hk:∀ (more g:Aa (hH×V)),(uI g more).length<=g.length+more.length
 | [],g=>by show g.length<=g.length+0;omega
 | p::r,g=>by
  have a:=Hk r (sA g p.1 p.2);have b:=Nn g p.1 p.2;show (uI (sA g p.1 p.2) r).length<=_;rw[cS];omega
theorem Pq {P:Ah}:∀ {g:Aa (hH×V)}{o:Aa (Ac×Ac)},VV (g.map λl=>(kV l.1,l.2)) o->∃ j,Carries (qJ P w) o j/\KV g j
 | [],_,r=>by rw[kM] at r;cases r;exact⟨[],True.intro,.nil⟩
 | p::g,_,r=>by
  rw[bD] at r;cases r with
  | @cons a b as bs h t =>
   obtain⟨j,c,q⟩:=Pq (P:=P) (w:=w) t;obtain⟨e,d⟩:=b;exact⟨(p.1,d)::j,⟨wY h.1,rfl,c⟩,.cons ⟨rfl,h.2⟩ q⟩
def LK (g:Aa (TE×TE)):TE:=λe H Q=>∀ p,H p=none->Fu g e (upd H p (.k [])) λd b=>b p=some (.k [])/\∃ a:Aa (hH×V),d=a.map (λc=>(kV c.1,c.2))/\a.length<=15/\Q (.ref p) (upd b p (.k (uI [] a)))
theorem Sb {X:Cx}(h:Fk X pos keys values l) (g:keys.all (·.isSome)=true) (r:keys.length=values.length) (p:keys≠[])
  (j:keys.length<=15):PE X (.Dict keys values pos) (LK l):=by
 intro f s N H Q I q;have A:=I.hok.fresh (bB s.heap.objs.size);have n:=I.laid (a:=s.heap.objs.size) (o:=.k []) (h':=s.heap.push { cls:=.type "dict",data:=.dict #[] }) (t':=s.toks) (λ_ _ q=>aD _ q) (bB _) (Qk s.heap I.big);refine wpAny_Dict_walk (knd:=qJ X.prog X.w) g r p j (nL (h f _ N _ _ n (q _ A)) λW V i=>?_);obtain⟨S,O,m,rel,e,d,u,R,F⟩:=i;subst u;obtain⟨L,c,K⟩:=Pq (P:=X.prog) (w:=X.w) rel;obtain⟨z,hd,M,G,t⟩:=C7 m.hok e;cases G;refine⟨L,c,t,λv b D=>⟨.ref s.heap.objs.size,_,?_,rfl,F⟩⟩;have E:(uI [] d).length<=sizeLine:=by
  have x:=Hk d [];rw[dL] at x;rw[mP];omega
 have y:∃ q,v.get? s.heap.objs.size=some q:=let ⟨q,_,_,B,_⟩:=b;⟨q,B⟩;exact Ds m (by rw[e];exact True.intro) D y (Bh E hd (K.merge .nil) b)
structure M2 (X:Cx) (o:Expr) (m:Str) (apos:Pos) (e f:Expr) (cpos:Pos):Prop where
 base:attributeBase o m X.env (eval o X.env)=eval o X.env
 few:((backTo cpos (starEach [e,f] X.env)).all (λx=>!x.1)&&(backToKw cpos (keywordEach [] X.env)).all (λx=>x.1.isSome) && decide (([e,f]:List Expr).length+([]:List Keyword).length+(if ([]:List Keyword).isEmpty then 0 else 1)<30))=true
 line:(apos.endLine == cpos.line)=true
 trees:backTo cpos (starEach [e,f] X.env)=[(false,eval e X.env),(false,eval f X.env)]
def G6 (H:Hp) (a:Ad):Prop:=(∃ b,Rd H a (.k b))\/∃ b,Rd H a (.T b)
theorem Ri {X:Cx}(I:Inv X j l H s) (d:G6 H a) :
  s.TypeIs (.ref a) "dict" /\ (∀ b,Value.ref a = .ref b->∃ g,s.heap.get? b=some g/\g.dict=none)/\(a == sysModules)=false:=by
 rcases d with⟨i,e⟩ | ⟨i,e⟩
 .obtain⟨_,hd,k,_,c⟩:=uE I.hok e;refine⟨c.typeIs,λb q=>?_,hd⟩;cases q;obtain⟨g,_,_,f,h,_⟩:=c;exact⟨g,f,h.2.1⟩
 .obtain⟨_,hd,m,_,c⟩:=Bf I.hok e;refine⟨c.typeIs,λb q=>?_,hd⟩;cases q;obtain⟨g,_,_,f,h,_⟩:=c;exact⟨g,f,h.2.1⟩
section
variable {X:Cx}
theorem AB (T:A.units+1<cLine) (I:Inv X j U H s) (g:wR H a y o) (p:nO y u) (rd:nO d r) (h:∀ J C,Inv X j U H C->nO (o.getD d) J->Q J C) :
  wpAny (model X.prog X.w) A (call (.builtin "dict.get") [.ref a,u,r]) Q E s:=by
 rcases g with⟨i,k,e,f,l⟩ | ⟨i,k,b,e,f,m,l⟩
 .subst f;obtain⟨z,hd,q,rel,c⟩:=uE I.hok e;refine kN kY c.typeIs PySem.F.entry_dict_get (PySem.F.args_dict_get_3 _ _ _) (meets_dict_get_default (qJ X.prog X.w) a (wY p) hd r) ⟨_,c.mapOf,h _ _ (I.tok _) ?_⟩;rw[l];exact (rel.val k).getD rd
 .subst f;cases (show u=Value.ref b from p);obtain⟨z,hd,n,rel,c⟩:=Bf I.hok e;refine kN kY c.typeIs PySem.F.entry_dict_get (PySem.F.args_dict_get_3 _ _ _) (meetsH_dict_get_default (tupleKind (qJ X.prog X.w)) a b hd r) ⟨jF T,k,n,Dg I.hok m,c,h _ _ (I.tok _) ?_⟩;rw[l];exact (rel.val k).getD rd
end
def DE (g ty j:TE):TE:=λb H Q=>g b H λx c=>∃ a,x = .ref a/\G6 c a/\ty b c λy e=>j b e λz d=>∃ o,wR d a y o/\Q (o.getD z) d
def AO (g ty j:TE):TE:=λd H Q=>g d H λx e=>∃ a,x = .ref a/\G6 e a/\ty d e λy f=>j d f λz c=>∃ b k,c a=some (.k b)/\y=kV k /\
 (∀ v,qA b k=some v->Q v (upd c a (.k (Bu b k))))/\(qA b k=none->Q z c)
section
variable {X:Cx}
theorem Wz (C:X.A.units+1<cLine) (r:PE X o J) (l:PE X e ty) (p:PE X f T) (m:M2 X o "get" apos e f j):PE X (.Call (.Attribute o "get" apos) [e,f] [] j) (DE J ty T):=by
 intro b s k H Q I h;refine wpAny_Call_method m.base m.few m.line eV kY PySem.F.type_dict_get (nL (r b s k H _ I h) λu P c=>?_);obtain⟨x,q,n,M,a,E,d,G⟩:=c;subst E;obtain rfl:u=Value.ref a:=M;obtain⟨S,V,_⟩:=Ri n d;refine⟨S,V,?_⟩;rw[m.trees];refine gJ rfl (jO (fG (nL (l b P k q _ n G) λY R ⟨y,t,w,N,K⟩ =>fG (nL (p b R k t _ w K) λW U ⟨z,v,B,O,Z,g,L⟩=>iL ?_))));exact AB C B g N O λw' s4 D i=>⟨_,v,D,i,L⟩
theorem LV (r:PE X o td) (j:PE X e ty) (p:PE X f tx) (m:M2 X o "pop" apos e f g):PE X (.Call (.Attribute o "pop" apos) [e,f] [] g) (AO td ty tx):=by
 intro b s t H Q I h;refine wpAny_Call_method m.base m.few m.line eV kX PySem.F.type_dict_pop (nL (r b s t H _ I h) λu Z i=>?_);obtain⟨x,E,w,W,a,M,d,P⟩:=i;subst M;obtain rfl:u=Value.ref a:=W;obtain⟨T,U,_⟩:=Ri w d;refine⟨T,U,?_⟩;rw[m.trees];refine gJ rfl (jO (fG (nL (j b Z t E _ w P) λiv C ⟨y,G,L,D,R⟩ =>fG (nL (p b C t G _ L R) λO s3 ⟨z,K,A,Y,n,k,B,N,S,V⟩=>iL ?_))));subst N;cases l:qA n k with
 | some v=>exact PB A B D l (.inr ⟨O,rfl⟩) λw' J c q=>⟨v,_,c,q,S v l⟩
 | none=>exact PY A B D l λJ c=>⟨z,K,c,Y,V l⟩
end
section
variable {X:Cx}
theorem EV (I:Inv X j r H s) (e:Rd H a (.k g)) (h:∀ p l,H p=none->Inv X j r (upd H p (.k g)) l->Q (.ref p) l):wpAny (model X.prog X.w) A (call (.type "dict") [.ref a]) Q E s:=by
 obtain⟨z,hd,n,rel,f⟩:=uE I.hok e;refine kt_call_dict hd f (by rw[<- rel.length];exact z) λm c i=>?_
 refine h _ _ (I.hok.fresh (bB _)) (I.laid (a:=s.heap.objs.size) (o:=.k g) (t':=s.toks) (λb q d=>?_) (bB _) (Bh z (eP.mpr (fQ (cD I.big))) rel c));exact (i.2 b (cD (aZ d))).trans (aD _ d)
end
end L2
namespace Att
open PySem PySem.W PySem.Calls PyProof.Rows
theorem Y7 {P:Params}:∀ (g:Aa Int) (j:Aa Ac),WellAll P h j (g.map WData.int)->IntsAre j g:=by
 intro g;induction g with
 | nil =>
  intro j w;rw[kM] at w;cases w;exact .nil
 | cons n g c =>
  intro j w;rw[bD] at w;cases w with
  | cons a b =>
   cases a;exact .cons _ _ (c _ b)
theorem AG {l:OpenLaw}(I:l.most=some n){P:Params}
  (j:l.row.toRowW.claim.pre args=true) (p:WellAll P h o args) :
  ∃ a C g,o=[Value.ref a]/\args=[WData.list (g.map WData.int)]/\h.get? a=some { cls:=.type "list",data:=.seq C.toArray }/\IntsAre C g/\g.length<=n:=by
 have i:WShape.hasAll [] args [.list .int]=true:=(pre_splitW j).1;have k:l.pre.holds [] { args:=args }=true:=(pre_splitW j).2;obtain⟨d,r,rfl,m,s⟩:=hasAllW_cons i;obtain rfl:=hasAllW_nil s;obtain⟨y,rfl,t⟩:=hasW_list m;obtain⟨g,rfl⟩:=items_int t;have c:g.length<=n:=by
  unfold OpenLaw.pre at k;have e:(WTm.not (.lt (.lit (.int (n:Int))) (.len (.arg 0)))).holds [] { args:=[.list (g.map .int)] }=true:=by
   have e:=(holds_andW k).1;rw[I] at e;exact e
  have f:=condW_of e (w_not (w_lt w_lit (w_len_list (w_arg rfl))));rw[aA] at f;refine Nat.le_of_not_lt λq=>?_
  have v:(n:Int)<((g.length:Nat):Int):=by omega
  first
   | (rw[bC v] at f;exact absurd f (by decide))
   | (simp at f;omega)
 cases p with
 | cons w x =>
  cases x;cases w with
  | list u b=>exact⟨_,_,g,rfl,rfl,u,Y7 g _ b,c⟩
theorem FJ (l:OpenLaw) (args:Aa WData):l.row.toRowW.claim.post args (.bool true) args=true :=
 postW_of (r:=l.row.toRowW) (X:=(true == true))
  (show WShape.has [] (.bool true) .bool=true by first | rfl | decide | simp[WShape.has,WShape.arms,WShape.armsAll])
  (show (WTm.eq .res (.lit (.bool true))).value [] { args:=args,res:=some (.bool true),after:=args }=some (.bool (true == true)) from w_eq_bool (w_res rfl) w_lit) rfl
theorem attach_call {l:OpenLaw}{XP:(Af->Ab Ac)->Ag->Prop}
  (hn:l.most=some n) (aa:d.params.defaults=[])
  (call:∀ (w:World) (j g:Ae) (T mb:Af->Ab Ac) (J:Ad) (o:Obj) (pm cd p:Ac) (a:Ad) (I:Aa Ac) (U:Aa Int),Ground q C [] XP w j T mb g.heap->YP w g.heap ->g.heap.get? J=some o->o.data = .func (docDef d.name d.params d.body d.scope pm cd p)->g.heap.CodeRec cd d.name->T d.name=some (.ref J) ->g.heap.get? a=some { cls:=.type "list",data:=.seq I.toArray }->IntsAre I U->U.length<=n->g.gens=#[] ->
   codeAny (model l.prog w) callerA (.call (.ref J) ⟨[.ref a],[]⟩) (λr s'=>r = .ok (.ret (.bool true))/\OldK g.heap s'.heap/\s'.os=g.os/\AllBare s'.gens) g) :
  WalkO q C XP YP l.row.toRowW d [] (λf I=>PySem.call f I):=by
 intro w j g T mb G Y J o pm cd p v kV E hd i s k A args u as h t H m B;obtain rfl:v = .none:=Dflts.none s aa;obtain rfl:kV = .none:=Dflts.noKw s;obtain⟨a,I,U,rfl,rfl,e,b,c⟩:=AG hn h m;refine enter_call (mB (call w j g T mb J o pm cd p a I U G Y E (fd_plain hd) i k e b c A) λr s' F=>?_);obtain⟨rfl,x,y,z⟩:=F;exact⟨.inl ⟨.bool true,.bool true,[],rfl,λ_=>rfl,.bool true,FJ l _,λ_=>⟨List.Pairwise.nil,λ_ D=>(nomatch D)⟩⟩,x,y,z⟩
end Att
namespace L2
open PySem PySem.Spec PyProof.Rows
theorem Vh:∀ {j:Aa Ac}{g:Aa Int},IntsAre j g->oA (g.map V.int) j
 | _,_,.nil=>.nil
 | _,_,.cons n t h=>.cons ⟨t,rfl⟩ (Vh h)
def Gb (H:Hp):Prop:=∀ b,H b=none\/∃ o a,H b=some (.frz o (.l a))
theorem CM {P:Ah}{K:nH}
  (KX:K.In g.heap) (T:g.heap.Ns mainGlobals mg) (j:g.heap.Ns builtinsNs mb) (ab:∀ x:Af,x ≠ "__name__" -> mb x=bootBuiltins x) (J:g.heap.NoLimit) (hg:g.gens=#[])
  (U:g.heap.get? a=some { cls:=.type "list",data:=.seq I.toArray }) (hi:IntsAre I ns) (hl:ns.length<=sizeLine) (hr:Room k callerA)
  (F:∀ base:Ag,K.In base->base.Ns mainGlobals mg->FnOk P w K mg base CX k fa fd [x] sp) (C:∀ (s:Ae) (u:Ac),BindsTo s fd ⟨[u],[]⟩ [(x,u)])
  (ac:∀ H:Hp,Gb H->nX K H a (ns.map V.int)->sp [.ref a] H (λv _=>v = .b true) λ_ _ _=>False)
  (aa:∀ H e p,CX [] H g (λ_ _ _=>False) e p->False) :
  codeAny (model P w) callerA (.call (.ref fa) ⟨[.ref a],[]⟩) (λr p=>r = .ok (.ret (.bool true))/\OldK g.heap p.heap/\p.os=g.os/\AllBare p.gens) g:=by
 have R:=Vh hi;have D:=hi.length;have core:∀ H:Hp,Gb H->nX K H a (ns.map V.int)->pP P w H g.heap->(∀ b,H b≠none->b=a)->(H a≠none->K.lookup a=none) ->
   codeAny (model P w) callerA (.call (.ref fa) ⟨[.ref a],[]⟩) (λr p=>r = .ok (.ret (.bool true))/\OldK g.heap p.heap/\p.os=g.os/\AllBare p.gens) g:=by
  intro H Q hS A O hK;have c:∀ {b:Ad} {o:Obj},g.heap.get? b=some o->H b=none->(yY g.heap H).get? b=some o:=λe n=>MC e n
  have M:∀ {b:Ad} {o:Obj} {t:Array DictEntry} {i:Nat},g.heap.get? b=some o->o.data = .dict t i->H b=none:=λ{b o t i} e d=>by
   cases q:H b with
   | none=>rfl
   | some u =>
    have G:b=a:=O b (by rw[q];simp);subst G;rw[U] at e;cases e;have S:Data.seq I.toArray _=Data.dict t i:=d;cases S
  have f:∀ {b:Ad} {m:Af->Ab Ac},g.heap.Ns b m->(yY g.heap H).Ns b m:=λ{b m} ⟨o,t,i,e,d,r⟩=>⟨o,t,i,c e (M e d),d,r⟩
  have y:K.In (yY g.heap H):=λb o e=>c (KX b o e) (by
   cases q:H b with
   | none=>rfl
   | some u =>
    have G:b=a:=O b (by rw[q];simp);subst G;rw[hK (by rw[q];simp)] at e;cases e)
  have hM:Mod K mg (yY g.heap H):=⟨y,f T,⟨mb,f j,ab⟩,let ⟨mc,Z,h2⟩:=J;⟨mc,f Z,h2⟩⟩;have W:Env0 P w K mg (yY g.heap H) callerA [] g H:=⟨rfl,hM,λb o e=>EO e,mD (CW _ _),trivial,λb j=>absurd (show b∈([]:Aa Ad) from j) (by simp),A,.of_eq hg⟩;refine mB ((F _ y (f T)).run callerA [] g H ⟨[.ref a],[]⟩ [.ref a] [.ref a] _ _ hr W (C g (.ref a)) (.cons rfl .nil) (ac H Q hS)) λr p h=>?_
  cases r with
  | error e=>exact (aa H e p h).elim
  | ok Y =>
   cases Y with
   | next=>exact False.elim h
   | brk=>exact False.elim h
   | cont=>exact False.elim h
   | ret u =>
    obtain⟨v,H',os,bare,un,B,r',q⟩:=h;have q':v = .b true:=q;subst q';obtain rfl:u=Value.bool true:=r';refine⟨rfl,OldK.of_keep λb o e=>?_,os,bare⟩;cases q:H b with
    | none=>exact un.keep b o e q (by intro z;exact absurd (show b∈([]:Aa Ad) from z) (by simp)) (by simp)
    | some u =>
     rcases Q b with z | ⟨ob,xs,z⟩
     .rw[q] at z;cases z
     .have z2:=un.frzs b ob _ z;obtain⟨N,_⟩:=A b _ z;obtain⟨X,_⟩:=B b _ z2;rw[e] at N;cases N;exact X
 cases L:K.lookup a with
 | some o =>
  have e:=KX a o L;rw[U] at e;cases e;refine core (λ_=>none) (λ_=>.inl rfl) (.inr ⟨_,I.toArray,_,L,rfl,rfl,rfl,by rw[bE,D];exact hl,by simpa using R⟩) (λb u z=>by have E:(none:Ab HO)=some u:=z;cases E) (λb z=>absurd rfl z) λz=>absurd rfl z
 | none =>
  refine core (λb=>if b=a then some (.frz { cls:=.type "list",data:=.seq I.toArray } (.l (ns.map V.int))) else none) (λb=>?_) (.inl (.inr ⟨{ cls:=.type "list",data:=.seq I.toArray },aQ rfl⟩)) (λb u z=>?_) (λb z=>?_) λ_=>L
  .by_cases j:b=a
   .exact .inr ⟨_,_,aQ j⟩
   .exact .inl (aG j)
  .by_cases j:b=a
   .have E:=(aQ j).symm.trans z;cases E;subst j;exact⟨U,by rw[aA];exact hl,I,_,R,U⟩
   .have E:=(aG j).symm.trans z;cases E
  .by_cases j:b=a
   .exact j
   .exact absurd (aG j) z
theorem walk_of {l:PySem.W.OpenLaw}{n k:Nat}{q:Ah}{j:Aa Af}{XP:(Af->Ab Ac)->Ag->Prop}{YP:World->Ag->Prop}{d:DefRec}{K:Params->nH}{CX:World->Br}{sp:World->Sp}{x:Af}
  (hn:l.most=some n) (U:n<=sizeLine) (J:d.params.defaults=[]) (hr:Room k callerA)
  (hY:∀ (w:World) (h:Ag),YP w h->(K w.params).In h)
  (F:∀ (w:World) (p:Af->Ab Ac) (r:Ad) (h:Ag),(K w.params).In h->h.Ns mainGlobals p->p d.name=some (.ref r) ->∃ fd:FuncData,(∀ (s:Ae) (u:Ac),BindsTo s fd ⟨[u],[]⟩ [(x,u)]) /\ ∀ base:Ag,(K w.params).In base->base.Ns mainGlobals p->FnOk l.prog w (K w.params) p base (CX w) k r fd [x] (sp w))
  (aa:∀ (w:World) (H:Hp) (a:Ad) (C:Aa Int),C.length<=n->Gb H->nX (K w.params) H a (C.map V.int)->sp w [.ref a] H (λv _=>v = .b true) λ_ _ _=>False)
  (I:∀ (w:World) (H:Hp) (s:Ae) (e:Ac) (s':Ae),CX w [] H s (λ_ _ _=>False) e s'->False) :
  PySem.W.WalkO q j XP YP l.row.toRowW d [] (λf vs=>PySem.call f vs):=by
 refine Att.attach_call hn J λw A t p Q r o pm cd B a vs C G Y P hd N y m i c O=>?_
 have z:=hY w _ Y;obtain⟨fd,M,D⟩:=F w p r _ z G.T.g y;exact CM z G.T.g G.T.b G.T.builtins G.T.nolimit O m i (bS c U) hr D M (λH E L=>aa w H a C c E L) λH e s'=>I w H t e s'
def uP (s:Stmt):Arguments:=match s with
 | .FunctionDef _ a _ _ _ _ _ _ _ _=>a
 | _=>{ posonlyargs:=[],args:=[],vararg:=none,kwonlyargs:=[],kw_defaults:=[],kwarg:=none,defaults:=[] }
def sH (s:Stmt):Aa Stmt:=match s with
 | .FunctionDef _ _ b _ _ _ _ _ _ _=>b
 | _=>[]
def oC (s:Stmt):Scope:=match s with
 | .FunctionDef _ _ _ _ _ _ a _ _ _=>a
 | _=>{ kind:=.function,names:=[],isGenerator:=false,isCoroutine:=false }
abbrev oM:Br:=λ_ _ _ _ _ _=>False
abbrev E0:XK:=λ_ _ _=>False
theorem Ao {X:Cx}:Ec oM X E0:=λ_ _ _ _ _ _ _ h=>h.elim
structure Fun (K:nH) (x qual:Str) (st:Stmt) (f:Addr) (fd:FuncData):Prop where
 ex:∃ (oc:Value) (od:Option Addr) (kV doc pm:Value) (an:Option Addr) (cdv ct:Value) (osl:Array (Option Value)),
  fd=PySem.W.fnOf x qual (uP st) (sH st) (oC st) .none kV doc pm an cdv ct/\K.lookup f=some ⟨oc,od,.func fd,osl⟩/\PySem.W.codeIn K cdv qual=true
 kp:PySem.W.keepIn K (.ref f)=true
section
variable {P:Ah}{K:nH}
theorem Fun.ok {st:Stmt}(F:Fun K x l st f fd) (S:FnScope N r (oC st)) (len:∀ p H Q E,C p H Q E->p.length=r.length)
  (o:∀ (j:Ac) (A:Around) (g:Aa Env) (s:Ae) (H:Hp) (p:Aa V) (Q:VK) (E:XK),Room k (A.deeper (envOfC l (oC st) s.heap.objs.size f j))->C p H Q E ->∃ t,qD (pA oM P w K J base N l (oC st) f j A g s H E).nox (sH st) t/\t { nx:=λ_ I=>Q .e I,rt:=Q } (start N p) H):FnOk P w K J base oM (k+1) f fd r C:=by
 obtain⟨v,y,kV,c,pm,n,j,u,m,rfl,i,a⟩:=F.ex;refine Na i a S len λA g s H p Q E d b=>?_
 obtain⟨t,h,q⟩:=o j A g s H p Q E d b;exact⟨t,h.nox,q⟩
theorem Fun.binds {st:Stmt}(F:Fun K x l st f fd)
  (h:∀ (kV j pm:Ac) (o:Ab Ad) (g p:Ac) (r:Aa Ac),r.length=ps.length->bindArgs (PySem.W.fnOf x l (uP st) (sH st) (oC st) .none kV j pm o g p) ⟨r,[]⟩=pure (ps.zip r)):wQ K fd ps []:=by
 obtain⟨d,e,kV,j,pm,o,g,p,b,rfl,c,a⟩:=F.ex;exact .all (h kV j pm o g p)
theorem Jl {st:Stmt}{kV:Ac}(l:K.lookup f=some ⟨C,I,.func (PySem.W.fnOf x qual (uP st) (sH st) (oC st) .none kV j pm p g r),o⟩)
  (c:PySem.W.codeIn K g qual=true) (k:PySem.W.keepIn K (.ref f)=true):Fun K x qual st f (PySem.W.fnOf x qual (uP st) (sH st) (oC st) .none kV j pm p g r):=⟨⟨C,I,kV,j,pm,p,g,r,o,rfl,l,c⟩,k⟩
end
theorem tW (g:Room k A):A.units+1<cLine:=gS (iX (by decide:1<=64) _) g.units
section
variable {X:Cx}
theorem pv (i:Nat) (j:X.N[i]?=some x:=by rfl) (l:Me X.env.scope x:=by first | exact Or.inl rfl | exact Or.inr (Or.inl rfl) | exact Or.inr (Or.inr rfl)) (hd:(x == ("__debug__" : Af))=false:=by decide)
  (g:(x == ("__classdict__" : Af))=false:=by decide):PE X (.Name x pos) (rC i):=Q4 j l hd g
theorem LF:qC X (.builtin "len") (λj H Q=>∃ a g,j=[V.ref a]/\Rd H a (.k g)/\Q (.int g.length) H):=by
 intro b s m H j i Q I r h;obtain⟨a,g,rfl,d,q⟩:=h;obtain⟨u,rfl,e⟩:=wL r;cases e;exact W8 I d λt f c=>⟨.int g.length,H,c,⟨t,rfl⟩,q⟩
end
theorem uZ {A B:Prop}(h:B):if false=true then A else B:=by
 rw[aG bN];exact h
theorem J3 {c A B:Prop} [Decidable c] (g:c->A) (j:¬ c->B):if c then A else B:=by
 by_cases h:c
 .rw[aQ h];exact g h
 .rw[aG h];exact j h
def pG (H g:Hp):Prop:=∀ b o,H b=some o->g b=some o
theorem pG.refl (H:Hp):pG H H:=λ_ _ h=>h
theorem pG.trans (a:pG H g) (b:pG g j):pG H j:=λc o h=>b c o (a c o h)
end L2
namespace PySem
structure XAt (h:Heap) (e:Addr) (cls:Value) (od:Option Addr) (T:Addr) (fl:Value):Prop where
 ex:∃ oe vs oT ts,h.get? e=some oe/\oe.cls=cls/\oe.dict=od/\oe.data = .fields vs/\vs[1]?=some (.ref T)/\T≠e/\h.get? T=some oT/\oT.data = .fields ts/\ts[3]?=some fl
structure XKeep (fs xs:List Addr) (h h':Heap):Prop where
 keep:∀ b o,h.get? b=some o->b∉xs->b∉fs->h'.get? b=some o
 slot:∀ b o,h.get? b=some o->b∉xs->∃ sl,h'.get? b=some { o with slots:=sl }
 there:∀ b o,h.get? b=some o->∃ o',h'.get? b=some o'
theorem XKeep.trans (a:XKeep fs g h j) (b:XKeep fs g j l):XKeep fs g h l where
 keep:=λc o e d i=>b.keep c o (a.keep c o e d i) d i
 slot:=λc o e d=>by
  obtain⟨q,f⟩:=a.slot c o e d;obtain⟨n,k⟩:=b.slot c _ f d;exact⟨n,k⟩
 there:=λc o e=>by
  obtain⟨m,f⟩:=a.there c o e;exact b.there c m f
theorem XKeep.more (a:XKeep fs l h j) (g:∀ b∈l,b∈p):XKeep fs p h j :=
 ⟨λc o e d f=>a.keep c o e (λz=>d (g _ z)) f,λc o e d=>a.slot c o e λz=>d (g _ z),a.there⟩
section
variable {A:Around}{s:Ae}
abbrev xK (l:Aa Env):Aa Ad:=l.filterMap (·.frame)
theorem KD {h base:Ag}{l:Aa Env}(r:h.FunFrames base l){e:Ad}{g:Obj}{j:Array Ac}(p:h.get? e=some g) (hd:g.data = .fields j):e∉xK l:=λb=>by
 obtain⟨_,o,c,a⟩:=r.mem b;have:=c.symm.trans p;cases this;exact a j hd
theorem V0
  (I:A.frames=some (l::j)) (U:s.heap.FunFrames base (l::j)) (hf:l.frame=some L) (J:s.heap.get? e=some r) (hd:r.data = .fields vs) (p:1<vs.size)
  (k:∀ C T,XKeep (xK (l::j)) [e] s.heap C->XAt C e r.cls r.dict T (rawInt L)->s.heap.objs.size<=T->Q () { s with heap:=C }) :
  wpAny M A (do let a <- frameOf l;let pl <- entryPlaceOf L aa;let b <- EntryCells.newEntry head a .none (rawInt L) .none pl;setField (.ref e) 1 b) Q E s:=by
 have u:=KD U J hd;refine aB (wpAny_frameOf_fun I U hf λg t=>aB (wpAny_entryPlaceOf λpl i=>?_));unfold EntryCells.newEntry newFields;have ge:g.get? e=some r:=by rw[t.2.1 e u];exact J
 have f:g.objs.size≠e:=λz=>absurd (aZ ge) (by rw[z];exact dN _)
 refine aB (hU ?_ (i.sizeOk5 _ _ _ _ _));generalize h:({ cls:=.type "traceback",dict:=none,data:=.fields _ }:Obj)=m;refine kO (aD m ge) hd p (k _ g.objs.size ?_ ?_ ?_)
 .have st:∀ b o,g.get? b=some o->b≠e->((g.push m).update e (Obj.mapFields (·.setIfInBounds 1 (Value.ref g.objs.size)))).get? b=some o:=λb o d n=>by
   rw[cF _ _ (fQ n)];exact aD _ d
  refine⟨λb o d v x=>st b o (by rw[t.2.1 b x];exact d) (by simpa using v),λb o d v=>?_,λb o d=>?_⟩
  .obtain⟨w,q⟩:=t.2.2 b o d;exact⟨w,st b _ q (by simpa using v)⟩
  .obtain⟨w,q⟩:=t.2.2 b o d;by_cases n:b=e
   .subst n;exact⟨_,cK _ (aD m ge) (gP (fH hd _))⟩
   .exact⟨_,st b _ q n⟩
 .refine⟨_,_,m,_,cK _ (aD m ge) (gP (fH hd _)),Obj.cls_mapFields _ _,?_,fH hd _,by simp[p],f,?_,by rw[<- h],?_⟩
  .obtain⟨c,y,B,w⟩:=r;simp only at hd;subst hd;rfl
  .rw[cF _ _ (fQ f)];exact bF g (by rw[<- h];rfl)
  .rcases i with rfl | ⟨_,_,_,_,_,_,_,rfl⟩<;>simp
 .rw[t.1];exact bB _
theorem Ge (x:XAt s.heap e cls j T l)
  (k:∀ g,XKeep [] [T] s.heap g->XAt g e cls j T .none->Q () { s with heap:=g }):wpAny M A (setFlight (.ref e) none) Q E s:=by
 obtain⟨z,D,F,B,u,y,i,hd,t,d,h,a,w⟩:=x.ex;have v:3<B.size:=(gK.mp w).1;unfold setFlight;refine aB (eJ u hd t ?_);rw[aQ (by simp)];refine kO h a v (k _ ?_ ?_)
 .have q:∀ b o,s.heap.get? b=some o->b≠T->(s.heap.update T (Obj.mapFields (·.setIfInBounds 3 ((none:Ab Ad).elim Value.none λf=>rawInt f)))).get? b=some o:=λb o c n=>by
   rw[cF _ _ (fQ n)];exact c
  refine⟨λb o c m _=>q b o c (by simpa using m),λb o c m=>⟨o.slots,q b o c (by simpa using m)⟩,λb o c=>?_⟩;by_cases n:b=T
  .subst n;exact⟨_,cK _ h (gP (fH a _))⟩
  .exact⟨o,q b o c n⟩
 .exact⟨z,D,_,_,by rw[cF _ _ d];exact u,y,i,hd,t,d,cK _ h (gP (fH a _)),fH a _,by simp[v]⟩
theorem X3
  (o:A.frames=some (j::g)) (J:s.heap.FunFrames base (j::g)) (I:j.frame=some L) (C:s.heap.get? e=some p) (hd:p.data = .fields U) (r:U[1]?=some .none)
  (k:∀ l T,XKeep (xK (j::g)) [e] s.heap l->XAt l e p.cls p.dict T (rawInt L)->s.heap.objs.size<=T->Q () { s with heap:=l }):wpAny M A (noteFrame (.ref e) j) Q E s:=by
 unfold noteFrame;simp only[I];refine aB (eJ C hd r ?_);rw[aG (by decide)];exact V0 o J I C hd (gK.mp r).1 k
theorem Pe
  (r:A.frames=some (j::g)) (I:s.heap.FunFrames base (j::g)) (C:j.frame=some L) (x:XAt s.heap e cls J T .none)
  (k:∀ l p,XKeep (xK (j::g)) [e,T] s.heap l->XAt l e cls J p (rawInt L)->s.heap.objs.size<=p->Q () { s with heap:=l }):wpAny M A (noteFrame (.ref e) j) Q E s:=by
 obtain⟨F,N,K,G,v,y,i,hd,t,h,f,c,u⟩:=x.ex;subst y i;unfold noteFrame;simp only[C];refine aB (eJ v hd t ?_);rw[aQ (by simp)];refine aB (eJ f c u ?_);rw[aG (by simp[rawInt])];refine aB (kO f c (gK.mp u).1 ?_);have d:∀ b o,s.heap.get? b=some o->b≠T->(s.heap.update T (Obj.mapFields (·.setIfInBounds 3 Value.none))).get? b=some o:=λb o a n=>by
  rw[cF _ _ (fQ n)];exact a
 have B:XKeep (xK (j::g)) [e,T] s.heap (s.heap.update T (Obj.mapFields (·.setIfInBounds 3 Value.none))):=by
  refine⟨λb o a q _=>d b o a (λz=>q (by simp[z])),λb o a q=>⟨o.slots,d b o a (λz=>q (by simp[z]))⟩,λb o a=>?_⟩;by_cases n:b=T
  .subst n;exact⟨_,cK _ f (gP (fH c _))⟩
  .exact⟨o,d b o a n⟩
 refine V0 r (I.of_keeps λb o a D=>⟨o,d b o a λz=>?_,rfl⟩) C (d e F v (fQ h)) hd (gK.mp t).1 λl p m H w=>k l p (B.trans (m.more λb z=>by simp at z;simp[z])) H ?_
 .subst z;have:=a.symm.trans f;cases this;exact D G c
 .rw[Heap.size_update] at w;exact w
theorem Wg
  (j:A.frames=some (env::outer)) (I:s.heap.FunFrames base (env::outer)) (C:env.frame=some L) (r:s.heap.get? e=some l) (hd:l.data = .fields J) (p:J[1]?=some .none)
  (k:∀ g T,XKeep (xK (env::outer)) [e] s.heap g->XAt g e l.cls l.dict T .none->s.heap.objs.size<=T->Q () { s with heap:=g }):wpAny M A (leaving env (.ref e)) Q E s:=by
 unfold leaving;refine aB (X3 j I C r hd p λn T f x d=>have m:=gW d;Ge x λq c w=>k q T ⟨λb o a h t=>?_,λb o a h=>?_,λb o a=>?_⟩ w d)
 .exact c.keep b o (f.keep b o a h t) (λz=>by simp at z;subst z;rw[m] at a;cases a) (by simp)
 .obtain⟨v,i⟩:=f.slot b o a h;exact⟨v,c.keep b _ i (λz=>by simp at z;subst z;rw[m] at a;cases a) (by simp)⟩
 .obtain⟨u,i⟩:=f.there b o a;exact c.there b u i
theorem QJ
  (l:A.frames=some (env::outer)) (r:s.heap.FunFrames base (env::outer)) (p:env.frame=some L) (x:XAt s.heap e cls C T .none)
  (k:∀ j g,XKeep (xK (env::outer)) [e,T] s.heap j->XAt j e cls C g .none->s.heap.objs.size<=g->Q () { s with heap:=j }):wpAny M A (leaving env (.ref e)) Q E s:=by
 unfold leaving;refine aB (Pe l r p x λn g f w d=>have m:=gW d;Ge w λq c y=>k q g ⟨λb o a h t=>?_,λb o a h=>?_,λb o a=>?_⟩ y d)
 .exact c.keep b o (f.keep b o a h t) (λz=>by simp at z;subst z;rw[m] at a;cases a) (by simp)
 .obtain⟨v,i⟩:=f.slot b o a h;exact⟨v,c.keep b _ i (λz=>by simp at z;subst z;rw[m] at a;cases a) (by simp)⟩
 .obtain⟨u,i⟩:=f.there b o a;exact c.there b u i
end
section
variable {os:OsState}
variable {sub:Aa Ac}
abbrev A4 (args:Aa Ac):Obj:={ cls:=.type "tuple",data:=.seq args.toArray }
abbrev rV (C t:Ad):Obj:={ cls:=.ref C,data:=.fields #[.ref t,.none,.none,.none,.bool false,.none] }
theorem GA (Fn:ExcBaseFacts Bn j af ac) (I:l.contains (.type Bn)=true) (F:ExcBaseFacts B ag U l) (T:OwnTail h l bm){fI:Ad}
  (p:h.get? C=some (excClassObj nm q C N bs bm aa sn sub ab ae dd k0 k1 k2 k3 k5 j)) (cN:h.Ns N mN) (ci:mN "__init__" = some (.ref fI)) (cf:h.get? fI=some oI) (ct:oI.cls = .type "function") (hz:args.length<=sizeLine)
  (k:∀ h' e,h.objs.size<=e->Heap.MadeExcOf h h' e (.ref C) args->wpAny (model J w) A (call (.ref fI) (.ref e::args)) (λr s'=>r = .none/\Q (.done (.ret (.ref e))) s') E ⟨h',g,d,t,os⟩) :
  wpAny (model J w) A (Builtin.«type.__call__» ⟨.ref C::args,[]⟩) Q E ⟨h,g,d,t,os⟩:=by
 repeat (first | with_reducible refine gL p ?_ | with_reducible refine wpAny_madeBy_exc p ?_ | wp_step)
 refine codeAny_call_builtin_code (kC _ Fn.quiet) (wpAny_check_new_subU Fn I T p (codeAny_exc_new_subU Fn I F T p ?_ hz));show wpAny _ _ _ _ _ _;have up:∀ b o,h.get? b=some o->((h.push (A4 args)).push (rV C h.objs.size)).get? b=some o:=λb o z=>aD _ (aD _ z)
 have ge:((h.push (A4 args)).push (rV C h.objs.size)).get? (h.objs.size+1)=some (rV C h.objs.size):=kP (by rw[kQ]) rfl;have gt:((h.push (A4 args)).push (rV C h.objs.size)).get? h.objs.size=some (A4 args):=aD _ (kP rfl rfl);have a:=up C _ p;have c:((h.push (A4 args)).push (rV C h.objs.size)).Ns N mN:=let ⟨o,i,f,e,r⟩:=cN;⟨o,i,f,up _ _ e,r⟩;have own:(Value.ref C::bm).contains (.ref C)=true:=by simp
 unfold isInstance
 repeat (first | with_reducible refine gL ge ?_ | (with_reducible refine lY a ?_;rw[own]) | wp_step)
 show wpAny _ _ (typeLookup (.ref C) _) _ _ _;refine wpAny_typeLookup_tail a c (T.keeps up) F.mroIs F.init.lookup ?_;rw[ci];refine cP (aB ?_);unfold bindSpecial;refine aB (mE (T := "function") ⟨_,up _ _ cf,ct⟩ ?_);rw[aQ (by decide)];refine aF (aB (cZ (k _ (h.objs.size+1) (gX _) ⟨up,gW (gX _),h.objs.size,ge,gW (bB _),gt⟩) (λr s' n=>?_) λ_ _ z=>z));obtain⟨rfl,m⟩:=n
 wp_walk
 exact m
theorem x_call (Fn:ExcBaseFacts Bn j af ac) (U:l.contains (.type Bn)=true) (F:ExcBaseFacts B ag J l) (T:OwnTail h l bm){fI:Ad}
  (p:h.get? C=some (excClassObj nm q C N bs bm aa sn sub ab ae dd k0 k1 k2 k3 k5 j)) (cN:h.Ns N mN) (ci:mN "__init__" = some (.ref fI)) (cf:h.get? fI=some oI) (ct:oI.cls = .type "function") (hz:args.length<=sizeLine)
  (k:∀ I e,h.objs.size<=e->Heap.MadeExcOf h I e (.ref C) args->wpAny (model o w) (A.under (.builtin "type.__call__" ⟨.ref C::args,[]⟩)) (call (.ref fI) (.ref e::args)) (λr s'=>r = .none/\Q (.ref e) s') E ⟨I,g,d,t,os⟩) :
  wpAny (model o w) A (call (.ref C) args) Q E ⟨h,g,d,t,os⟩:=by
 have c:=tc_lookup;have f:=tc_bind (.ref C);have i:(⟨h,g,d,t,os⟩:Ae).TypeIs (.ref C) "type" := ⟨_,p,rfl⟩;refine iS (codeAny_of_tree ?_);show wpAny _ _ (callAny (.ref C) _) _ _ _
 repeat (any_goals (first | assumption | with_reducible refine gL p ?_ | wp_step))
 refine⟨rfl,codeAny_call_builtin_at (kC _ (by decide +kernel)) entry_typeCall (wpAny_check_type_call_sub p (GA Fn U F T p cN ci cf ct hz λI e a b=>k I e a b))⟩
theorem Vp (hh:A.handled=none)
  (k:wpAny (model p w) A x (λv r=>∃ (e:Ad) (o:Obj) (J:Array Ac) (C N:Ad) (I:Aa Ac) (nm q:Af) (bs:Aa Ac) (j:Bool) (sn:Aa Af) (sub:Aa Ac) (T:Bool) (l:Ab Bool) (U:Ab Ad) (k0 k1 k2 k3 k5:Ab Ac) (g:String),v = .ref e /\ r.heap.get? C=some (excClassObj nm q C N bs I j sn sub T l U k0 k1 k2 k3 k5 g)/\I.contains (.type "BaseException")=true/\r.heap.get? e=some o/\o.cls = .ref C/\o.data = .fields J/\J[1]?=some .none/\E (.ref e) r) E s) :
  wpAny (model p w) A (raiseStmt aa (some x) none) Q E s:=by
 unfold raiseStmt;refine aB (cZ k (λv r z=>?_) λ_ _ z=>z);obtain⟨e,o,J,C,N,I,nm,q,bs,j,sn,sub,T,l,U,k0,k1,k2,k3,k5,g,rfl,b,f,i,c,hd,d,h⟩:=z;have a:(Value.ref C::I).contains (.type "BaseException")=true:=by rw[List.contains_cons,f,Bool.or_true]
 obtain⟨u,g1,d1,D,n⟩:=r;obtain⟨y,B,m,t⟩:=o;simp only at c hd;subst c hd
 repeat (first | with_reducible refine gL i ?_ | with_reducible refine gL b ?_ | (with_reducible refine lY b ?_;rw[a]) | wp_step)
 rw[d];refine aF ?_;rw[aG (by decide)];exact aF (wpAny_raiseNew_none hh h)
end
end PySem
namespace L2
open PySem PySem.Spec PyProof.Rows
def qR (e:Ad) (C:Ac) (g:Ab Ad):HO:=.ext λh=>∃ a b,h.get? e=some a/\a.cls=C/\a.dict=g/\a.data = .fields b
def rF (a:Ad):HO:=.ext λh=>∃ o,h.get? a=some o
theorem Mc {P:Ah}(l:h.get? e=some g) (o:g.cls=C) (p:g.dict=J) (I:g.data = .fields j):pE P w H h e (qR e C J) :=
 ⟨⟨g,j,l,o,p,I⟩,⟨_,l⟩,λ_ _ ⟨g,j,z,r⟩ k=>⟨g,j,k _ z,r⟩⟩
theorem Mn {P:Ah}(g:h.get? a=some o):pE P w H h a (rF a):=⟨⟨o,g⟩,⟨_,g⟩,λ_ _ ⟨o,z⟩ k=>⟨o,k _ z⟩⟩
theorem Zd {P:Ah}(x:XAt h e C g T j):pE P w H h e (qR e C g):=by
 obtain⟨f,k,d,i,c,b,a,hd,_⟩:=x.ex;exact Mc c b a hd
theorem QV {P:Ah}(x:XAt h e C j T g):pE P w H h T (rF T):=by
 obtain⟨c,f,b,d,_,_,_,_,_,_,a,_⟩:=x.ex;exact Mn a
theorem J1 {P:Ah}(g:pP P w H h) (k:XKeep fs J h j) (U:∀ b∈fs,H b=none) (p:H e=some (qR e C od)) (I:∀ b∈J,b=e\/H b=some (rF b)) (x:XAt j e C od T fl) (l:H T=none) :
  pP P w (upd H T (rF T)) j:=λa o q=>by
 by_cases n:a=T
 .subst n;rw[oO] at q;cases q;exact QV x
 rw[nP n] at q;by_cases ne:a=e
 .subst ne;rw[p] at q;cases q;exact Zd x
 by_cases f:a∈J
 .rcases I a f with z | z
  .exact absurd z ne
  .rw[z] at q;cases q;obtain⟨⟨o,i⟩,_⟩:=g a _ z;obtain⟨m,d⟩:=k.there a o i;exact Mn d
 refine (g a o q).stay (λb u c r=>k.keep b u r (λz=>?_) λz=>?_) (λb r=>?_) λb s r=>?_
 .rcases c with rfl | c
  .exact f z
  .rcases I b z with y | y
   .rw[y,p] at c;cases c
   .rw[y] at c;cases c
 .have:=U b z;rcases c with rfl | c
  .rw[q] at this;cases this
  .rw[c] at this;cases this
 .rw[nP (λz=>by rw[z,l] at r;cases r)];exact r
 .rw[nP (λz=>by rw[z,l] at r;cases r)];exact r
theorem Gs (u:Un fs [] r H l h) (k:XKeep g U h C) (I:∀ b o,l.get? b=some o->b∈g->b∈fs) (p:∀ b∈U,H b≠none) (j:H T=none) (J:h.objs.size<=T):Un fs [] r (upd H T o) l C where
 keep:=λb v q n d a=>k.keep b v (u.keep b v q n d a) (λz=>p b z (u.free b v q n a)) λz=>d (I b v q z)
 slot:=λb v q n s a=>by
  obtain⟨y,e⟩:=u.slot b v q n s a;obtain⟨c,i⟩:=k.slot b _ e λz=>p b z (u.free b v q n a)
  exact⟨c,i⟩
 free:=λb v q n a=>by
  obtain⟨f,e⟩:=u.there b v q a;rw[nP (λz=>absurd (aZ e) (by rw[z];exact lK.mpr J))];exact u.free b v q n a
 there:=λb v q a=>let ⟨f,e⟩:=u.there b v q a;k.there b f e
 tups:=λb w q=>by
  have:=u.tups b w q;rw[nP (λz=>by rw[z,j] at this;cases this)];exact this
 frzs:=λb v x q=>by
  have:=u.frzs b v x q;rw[nP (λz=>by rw[z,j] at this;cases this)];exact this
 tbls:=λb t q=>by
  obtain⟨m,e⟩:=u.tbls b t q;rw[nP (λz=>by rw[z,j] at e;cases e)];exact⟨m,e⟩
def oQ (P:Ah) (w:World):Br:=λa H s E f c=>∃ (e T:Ad) (C:Ac) (d:Ab Ad) (b:Hp),f = .ref e/\c.os=s.os/\AllBare c.gens/\Un (uV a) [] H b s.heap c.heap/\pP P w b c.heap /\
 XAt c.heap e C d T .none/\b e=some (qR e C d)/\b T=some (rF T)/\E C d b
section
variable {P:Ah}{K:nH}{cd:Ac}{s0:Ae}
theorem Lh (q:s0.heap.get? b=some o) (j:b∈xK (envOfC p l s0.heap.objs.size f cd::g)):b∈uV g:=by
 unfold xK at j;rw[iW] at j;rcases aM.mp j with z | z
 .have:=aZ q;rw[z] at this;exact absurd this (dN _)
 .exact z
theorem NX (hE:∀ C r H e l,J C r H->H e=some (qR e C r)->H l=none->E C r (upd H l (rF l))):Ec (oQ P w) (pA (oQ P w) P w K mg base N p j f cd A g s0 U E) J:=by
 intro m O H s Q F I h;obtain⟨e,T,C,r,i,rfl,t,D,un,c,M,n,G,B⟩:=h;have d:Inv (pA (oQ P w) P w K mg base N p j f cd A g s0 U E) m O i F:=I.call' (ch:=[]) t un c D (λb z=>absurd z (by simp));refine QJ (base:=base) (env:=envOfC p j s0.heap.objs.size f cd) (outer:=g) (L:=s0.heap.objs.size) d.ok.frames d.stack rfl M λR l v x k=>?_
 have a:i l=none:=c.fresh k;have ne:l≠e:=λz=>by rw[z,n] at a;cases a
 have u:∀ b∈[e,T],b=e\/i b=some (rF b):=λb z=>by
  rcases aM.mp z with z | z
  .exact .inl z
  .rw[aJ.mp z];exact .inr G
 refine⟨e,l,C,r,upd i l (rF l),rfl,d.os,d.bare,Gs d.base v (λb o q z=>Lh q z) (λb z=>?_) a k,J1 c v d.stkFree n u x a,x,by rw[nP ne.symm];exact n,oO,hE C r i e l B n a⟩;rcases u b z with y | y
 .rw[y,n];simp
 .rw[y];simp
end
end L2
namespace PySem.W
open PySem PySem.Calls PyProof.Rows Builtin Builtin.ObjectAttr
section
variable {K:Frag}
theorem O0:builtinKind "BaseException.__getattribute__" = some .slot:=by decide +kernel
theorem N6:splitId "BaseException.__getattribute__" = some ("BaseException","__getattribute__"):=by decide +kernel
theorem Rk (x v:Ac):slotArgs "__getattribute__" 1 ⟨[x,v],[]⟩=pure (x,[v]):=by kernel_rfl
theorem x_attr (X:K.In s.heap) (I:InstAt s.heap x U C T) (l:findIn K (.ref C) "__getattribute__" = some (some (.builtin "BaseException.__getattribute__"))) (J:findIn K (.ref C) "__getattr__" = some none)
  (o:mroIn K C (.type "BaseException")=some true) (p:findObj K C T name=some (.value v)) (r:handedIn v=true) (h:Q v { s with toks:=s.toks+1 }):wpAny (model j w) A (getAttr (.ref x) name expr) Q E s:=by
 obtain⟨b,g,d,t,os⟩:=s;have a:=I.type (M:=model j w);have c:=looks_findIn (M:=model j w) X l;have L2:Looks (model j w) b (hookBefore (.ref C)) none:=looks_hook X J;have e:=looks_find (M:=model j w) X I p;have f:Looks (model j w) b (isInstance (.ref x) (.type "BaseException")) true:=a.andThen (looks_mroIn X o);have nb:(onTheHeap (Value.ref C)&&Value.builtin "BaseException.__getattribute__" == Value.builtin "object.__getattribute__")=false:=by
  rw[show (Value.builtin "BaseException.__getattribute__" == Value.builtin "object.__getattribute__")=false by decide +kernel];rfl
 have ne:(expr&&onTheHeap (Value.builtin "BaseException.__getattribute__"))=false:=by cases expr<;>rfl
 unfold getAttr getAttrBy;refine aB (wpAny_mkText (cP (aB (a.at (aB (c.at ?_))))));simp only[nb,cL,gQ];unfold getAttrByItsOwn;refine aB (L2.at (aB (gH (cP ?_))));unfold callGetattribute;simp only[ne,cL,gQ];unfold boundAndCalled;rw[iH.ga.bind];refine aB (aF ?_);show wpAny _ _ (call (Value.builtin "BaseException.__getattribute__") [Value.ref x,Value.str name t]) _ _ _;refine iS (gY iH.ga.plain PySem.F.entry_bexc_ga (@check_slot (model j w) _ _ ⟨b,g,d,t+1,os⟩ "BaseException.__getattribute__" "BaseException" "__getattribute__" (.ref x) [.str name t] [] _ O0 N6 f (PySem.F.args_bexc_ga (.ref x) (.str name t)) ?_));unfold Builtin.«object.__getattribute__»;rw[Rk];refine aB (aF ?_);show wpAny _ _ (attrName (Value.str name t) >>= _) _ _ _;rw[show attrName (Value.str name t)=pure name from rfl];refine aB (aF (aB (a.at (aB (e.at (aF ?_))))));show wpAny _ _ (handedOut v) _ _ _;rw[handedOut_of r];exact aF h
end
section
variable {K:Frag}
theorem x_set {cd:ClassData}(X:K.In s.heap) (T:s.heap.get? x=some r) (U:r.cls = .ref C) (hd:r.dict=none) (l:r.data = .fields vs)
  (aa:findIn K (.ref C) "__setattr__" = some (some (.builtin "object.__setattr__"))) (J:clsIn K C=some cd) (hh:cd.hasDict=true) (hO:mroIn K C (.type "object")=some true) (hp:refuseLoop (.ref x) "__setattr__" cd.mro=pure ()) (hn:findIn K (.ref C) name=some none)
  (k:∀ p ab,p.get? x=some { r with dict:=some s.heap.objs.size }->p.Ns1 s.heap.objs.size (λy=>if y=name then some v else none)->(∀ b o,b≠x->s.heap.get? b=some o->p.get? b=some o)->Q () { s with heap:=p,toks:=ab }) :
  wpAny (model j w) A (setAttr (.ref x) name v) Q E s:=by
 obtain⟨a,g,d,t,os⟩:=s;have c:=jY;have I:InstAt a x r C none:=⟨T,U,by unfold notCls;rw[l],by rw[hd];trivial⟩;have n:=I.type (M:=model j w);have z:=looks_findIn (M:=model j w) X aa;have L2:Looks (model j w) a (isInstance (.ref x) (.type "object")) true:=n.andThen (looks_mroIn X hO);have B:Looks (model j w) a (mroOf (.ref C)) cd.mro:=(looks_clsIn X J).andThen .now;have D:=looks_findIn (M:=model j w) X hn;unfold setAttr;refine aB (wpAny_mkText ?_);refine aB (aB (aB (n.at (z.at (cP (aB ?_))))));rw[c.slot.bind];refine aF (aB ?_);show wpAny _ _ (call (Value.builtin "object.__setattr__") [Value.ref x,Value.str name t,v]) _ _ _;refine iS (gY c.slot.plain c.entry (@check_slot (model j w) _ _ ⟨a,g,d,t+1,os⟩ "object.__setattr__" "object" "__setattr__" (.ref x) [.str name t,v] [] _ c.kind c.split L2 (c.args (.ref x) (.str name t) v) ?_));rw[osa_eq,refuse_eq];refine aB (aB (n.at (aB (B.at ?_))));rw[hp];refine aF (aB (n.at (aB (D.at (aB (aF ?_))))));show wpAny _ _ (storeInOwnDict (.ref x) (.ref C) (.str name t) name v _) _ _ _;obtain⟨oc,ae,ac,m⟩:=r;simp only at U hd l;subst U hd l;have h:x≠a.objs.size:=cD (aZ T);unfold storeInOwnDict;refine aB (aF ?_);show wpAny _ _ (ownDictForStores (.ref x) >>= _) _ _ _;refine aB ?_;unfold ownDictForStores instanceDict;refine aB (wpAny_loadPart T ?_);dsimp only;refine aB ((looks_clsIn X J).at ?_);rw[hh];refine aB (wpAny_alloc' ?_);have i:(a.push { cls:=.type "dict",data:=.dict #[] }).get? x=some { cls:=.ref C,dict:=none,data:=.fields vs,slots:=m }:=aD _ T;refine aB (wpAny_update' i ?_);refine aF ?_;have S:((a.push { cls:=.type "dict",data:=.dict #[] }).update x λo=>{ o with dict:=some a.objs.size }).get? x=some { cls:=.ref C,dict:=some a.objs.size,data:=.fields vs,slots:=m }:=cK _ i rfl;have R:((a.push { cls:=.type "dict",data:=.dict #[] }).update x λo=>{ o with dict:=some a.objs.size }).get? a.objs.size=some { cls:=.type "dict",data:=.dict #[] }:=(Heap.get?_update_ne _ _ _ _ h.symm).trans (kP rfl rfl);have nd:((a.push { cls:=.type "dict",data:=.dict #[] }).update x λo=>{ o with dict:=some a.objs.size }).Ns a.objs.size (λ_=>none):=⟨_,#[],_,R,rfl,λe Z=>absurd Z (by simp),λ_=>rfl⟩;show wpAny _ _ (storeInDict a.objs.size (.str name t) name v) _ _ _;unfold storeInDict newKeyGuard;refine aB (aF (aB (wpAny_nsSet1 (Heap.Ns1.of_empty nd) λp f u=>?_)));obtain⟨oD,eD,pD,V,W,Y⟩:=f.count (Within.cons name v Within.nil);refine aB (wpAny_lookBehind V (by rw[W];exact pastItsLine_dict (bS Y (by rw[cS,dL,mP];omega))) ?_);refine aF ?_;refine aF (aF (k p _ ((u.2 x h).trans S) ?_ λb o nb q=>?_))
 .obtain⟨o',O,N,F,G,H,P,L⟩:=f;exact⟨o',O,N,F,G,H,P,λy=>by rw[L y]⟩
 .exact (u.2 b (cD (aZ q))).trans ((Heap.get?_update_ne _ _ _ _ nb).trans (aD _ q))
end
end PySem.W
namespace PySem
section
variable {os:OsState}
variable {sub:Aa Ac}
theorem Qo (F:ExcBaseFacts B ac j l) (T:OwnTail h l bm) (hz:args.length<=sizeLine)
  (cC:h.get? C=some (excClassObj nm q C N bs bm J sn sub ab aa dd k0 k1 k2 k3 k5 I)) (r:h.get? e=some (rV C t0))
  (k:∀ p t',p.get? e=some (rV C t')->(∀ b o,b≠e->h.get? b=some o->p.get? b=some o)->Q .none ⟨p,g,d,t,os⟩) :
  wpAny (model U w) A (call (.builtin j) (.ref e::args)) Q E ⟨h,g,d,t,os⟩:=by
 refine iS (gY F.init.plain F.initEntry (wpAny_check_init_subU F T cC r rfl ?_));have c:=aZ r
 wp_walk
 refine k _ h.objs.size ?_ λb o nb a=>?_
 .rw[cK _ (aD _ r) rfl];rfl
 .rw[cF _ _ (fQ nb)];exact aD _ a
end
end PySem
namespace L2
open PySem PySem.Spec PyProof.Rows
section
variable {X:Cx}
theorem Nv {K:nH}:∀ {l:Aa Int}{g:Aa Ac},oA (l.map V.int) g->∃ j:Array (Int×Tok),g.toArray=intItems j/\l=j.toList.map (·.1)
 | [],_,.nil=>⟨#[],by simp[intItems],rfl⟩
 | n::l,_,.cons r c=>by
  obtain⟨t,rfl⟩:=r;obtain⟨j,a,b⟩:=Nv (K:=K) c;refine⟨(⟨(n,t)::j.toList⟩:Array (Int×Tok)),?_,by rw[b];rfl⟩;have:(intItems j).toList=_:=(cA Array.toList a).symm;unfold intItems at this |-;refine Array.toList_inj.mp ?_;simp only[Array.toList_map] at this |-;rw[bD,this]
theorem Gg (p:l=o.toList.map (·.1)) (g:j<o.size):∃ h:j<l.length,numAt o j=l[j]:=by
 subst p;refine⟨by simpa using g,?_⟩;simp[numAt,g]
theorem JB (l:X.calm=true):qC X (.builtin "min") (λxs H Q=>∃ (p:Ad) (g:Aa Int),xs=[.ref p]/\nX X.K H p (g.map V.int)/\g≠[]/\∀ m:Int,m∈g->(∀ a∈g,m<=a)->Q (.int m) H):=by
 intro n s Y H xs W Q I r h;obtain⟨p,g,rfl,B,f,q⟩:=h;obtain⟨u,rfl,N⟩:=wL r;cases N;obtain⟨E,M,L,P⟩:=I.list B;obtain⟨b,e,d⟩:=Nv (K:=X.K) M;have i:0<b.size:=by
  rcases Nat.eq_zero_or_pos b.size with z | z
  .exfalso;apply f;rw[d];simp[Array.size_eq_zero_iff.mp z]
  .exact z
 refine min_intList (xs:=b) (I.ok.hd l) (e▸L.isList) i λv O S D A=>?_
 obtain⟨t,rfl⟩:=intItems_at (xs:=b) D;have c:=argBest_lt (numAt b) (b.size-1);obtain⟨G,w⟩:=Gg d (gS c.1 (show b.size-1<b.size by omega));refine⟨.int _,H,I.kept A,⟨t,rfl⟩,q _ (w▸iE G) λa y=>?_⟩;obtain⟨j,k,rfl⟩:=lZ y;have F:j<b.size:=by rw[d] at k;simpa using k
 obtain⟨R,x⟩:=Gg d F;exact x▸c.2 j (by omega)
theorem HR (l:X.calm=true):qC X (.builtin "max") (λxs H Q=>∃ (p:Ad) (g:Aa Int),xs=[.ref p]/\nX X.K H p (g.map V.int)/\g≠[]/\∀ m:Int,m∈g->(∀ a∈g,a<=m)->Q (.int m) H):=by
 intro n s Y H xs W Q I r h;obtain⟨p,g,rfl,B,f,q⟩:=h;obtain⟨u,rfl,N⟩:=wL r;cases N;obtain⟨E,M,L,P⟩:=I.list B;obtain⟨b,e,d⟩:=Nv (K:=X.K) M;have i:0<b.size:=by
  rcases Nat.eq_zero_or_pos b.size with z | z
  .exfalso;apply f;rw[d];simp[Array.size_eq_zero_iff.mp z]
  .exact z
 refine max_intList (xs:=b) (I.ok.hd l) (e▸L.isList) i λv O S D A=>?_
 obtain⟨t,rfl⟩:=intItems_at (xs:=b) D;have c:=argBest_gt (numAt b) (b.size-1);obtain⟨G,w⟩:=Gg d (gS c.1 (show b.size-1<b.size by omega));refine⟨.int _,H,I.kept A,⟨t,rfl⟩,q _ (w▸iE G) λa y=>?_⟩;obtain⟨j,k,rfl⟩:=lZ y;have F:j<b.size:=by rw[d] at k;simpa using k
 obtain⟨R,x⟩:=Gg d F;exact x▸c.2 j (by omega)
theorem DY:∀ {j:Aa Af}{g:Aa Ac},oA (j.map V.str) g->StrsAre g j:=by
 intro j;induction j with
 | nil=>intro g r;cases r;exact .nil
 | cons y r c =>
  intro g h;cases h with
  | cons a b =>
   obtain⟨t,rfl⟩:=a;exact .cons _ _ (c b)
end
mutual
inductive DatV (K:nH) (H:Hp):V->PyData->Prop where
 | e:DatV K H .e .none
 | b (b:Bool):DatV K H (.b b) (.bool b)
 | int (i:Int):DatV K H (.int i) (.int i)
 | str (x:Str):DatV K H (.str x) (.str x)
 | l {a:Addr} {xs:List V} {ds:List PyData}:nX K H a xs->DatVs K H xs ds->DatV K H (.ref a) (.list ds)
 | t {a:Addr} {xs:List V} {ds:List PyData}:oP K H a xs->DatVs K H xs ds->DatV K H (.ref a) (.tuple ds)
inductive DatVs (K:nH) (H:Hp):List V->List PyData->Prop where
 | nil:DatVs K H [] []
 | cons {x:V} {d:PyData} {xs:List V} {ds:List PyData}:DatV K H x d->DatVs K H xs ds->DatVs K H (x::xs) (d::ds)
end
section
variable {X:Cx}
mutual
theorem DatV.reads (I:Inv X g j H s):∀ {x:V}{d:PyData}{u:Ac},DatV X.K H x d->nO x u->∃ as,Reads s.heap u d as
 | _,_,_,.e,r=>by cases r;exact⟨_,.none⟩
 | _,_,_,.b b,r=>by cases r;exact⟨_,.bool b⟩
 | _,_,_,.int i,r=>by obtain⟨t,rfl⟩:=r;exact⟨_,.int i t⟩
 | _,_,_,.str x,r=>by obtain⟨t,rfl⟩:=r;exact⟨_,.str x t⟩
 | _,_,_,.l a f,r=>by
  cases r;obtain⟨k,m,⟨o,n,e,c,_,d⟩,_⟩:=I.list a;obtain⟨as,h⟩:=DatVs.reads I f m;exact⟨_,.list e c d (by simpa using h)⟩
 | _,_,_,.t a f,r=>by
  cases r;obtain⟨k,m,⟨o,e,c,n,d⟩,_⟩:=I.tuple a;obtain⟨as,h⟩:=DatVs.reads I f m;exact⟨_,.tuple e c d (by simpa using h)⟩
theorem DatVs.reads (I:Inv X g o H s):∀ {l:Aa V}{ds:Aa PyData}{j:Aa Ac},DatVs X.K H l ds->oA l j->∃ as,ReadsAll s.heap j ds as
 | _,_,_,.nil,.nil=>⟨_,.nil⟩
 | _,_,_,.cons h c,.cons r d=>by
  obtain⟨as,a⟩:=DatV.reads I h r;obtain⟨bs,b⟩:=DatVs.reads I c d;exact⟨_,.cons a b⟩
end
end
section
variable {X:Cx}
def S8 (K:nH) (neg:Bool):R2:=λx y H Q=>∃ a c,DatV K H x a/\DatV K H y c/\a.canLay0=true/\c.canLay0=true/\min a.depth c.depth<=60/\Q (.b (if neg then !PyData.eqv a c else PyData.eqv a c)) H
theorem Z4 (g:X.A.units+64<cLine):oJ X (compareOp .NotEq) (S8 X.K true):=by
 intro a s B H x y v u Q I m n h;obtain⟨t,w,c,d,e,f,z,q⟩:=h;obtain⟨as,i⟩:=c.reads I m;obtain⟨bs,k⟩:=d.reads I n;exact SeqAt.compareNe_reads i k e f (by omega) ⟨.b _,H,I,rfl,q⟩
def Gi (K:nH) (neg:Bool):R2:=λx y H Q=>∃ (a b:Ad) (c:Aa V),x = .ref a/\y = .ref b/\nX K H a c/\nX K H b []/\Q (.b (if neg then !c.isEmpty else c.isEmpty)) H
theorem HQ (g:X.A.units+64<cLine):oJ X (compareOp .Eq) (Gi X.K false):=by
 intro c s M H x y v u Q I F G h;obtain⟨a,b,L,rfl,rfl,f,z,q⟩:=h;cases F;cases G;obtain⟨B,D,m,_⟩:=I.list f;obtain⟨k,E,n,_⟩:=I.list z;cases E;have t:∀ d,d=L.isEmpty->EP X c M Q (.bool d) s:=λd e=>⟨.b d,H,I,rfl,by subst e;exact q⟩
 cases D with
 | nil=>exact SeqAt.RcAt.lists (e:=λ_=>true) m.isList n.isList rfl (by omega) (λi f _=>by simp at f) X.prog X.w _ _ (t _ (by simp))
 | cons r N=>exact SeqAt.RcAt.lists_lengths m.isList n.isList (by simp) (by omega) X.prog X.w _ _ (t _ rfl)
end
end L2
namespace L2
open PySem PySem.Spec PyProof.Rows
section
variable {X:Cx}
theorem Z6 (z:Af):z.cps.toList.length=z.length:=by
 rw[gM];rfl
theorem Yx:qC X (.type "dict") (λj H Q=>∃ (a:Ad) (g:Aa (hH×V)),j=[.ref a]/\Rd H a (.k g)/\∀ p,H p=none->Q (.ref p) (upd H p (.k g))):=by
 intro b s n H j m Q I r h;obtain⟨a,g,rfl,d,q⟩:=h;obtain⟨u,rfl,f⟩:=wL r;cases f;exact EV I d λp i e c=>⟨.ref p,_,c,rfl,q p e⟩
theorem FW (I:KV g C) (j:(g.map (·.1)).Nodup) :
  ∀ (r:Aa (hH×V)) (o:Aa (hH×Ac)),KV r o->(∀ p∈r,p∈g)->(∀ p∈r,rR p.2=true/\sC p.2 p.2=true)->PySem.W.KeqHits A s C o true:=by
 intro r;induction r with
 | nil=>intro o h _ _;cases h;exact .nil
 | cons p r x =>
  intro o h c i;cases h with
  | cons t u =>
   rename_i q d
   obtain⟨k,v⟩:=p;obtain⟨D,K⟩:=q;obtain⟨e,G⟩:=t;have e:k=D:=e;subst e;have w:qA g k=some v:=by
    have b:=c (k,v) aI;have:∀ (l:Aa (hH×V)),(l.map (·.1)).Nodup->(k,v)∈l->qA l k=some v:=by
     intro l;induction l with
     | nil=>intro _ h;cases h
     | cons a l B =>
      intro j c;have j:(a.1::l.map (·.1)).Nodup:=j;obtain⟨E,F⟩:=bP.mp j;rcases aM.mp c with z | z
      .subst z;exact vB rfl
      .rw[uX (λe=>E (by rw[e];exact aO.mpr ⟨_,z,rfl⟩))];exact B F z
    exact this g j b
   have m:=I.val k;rw[w] at m;obtain⟨y,n,H⟩:=m.some_of;obtain⟨f1,f2⟩:=i (k,v) aI;have f:SeqAt.EqAt A s K y (sC v v):=Lq G H f1 f1;rw[f2] at f;have:=PySem.W.KeqHits.hit n f (x d u (λp b=>c p (aV _ b)) λp b=>i p (aV _ b))
   simpa using this
theorem BJ:qC X (.builtin "isinstance") (λj H Q=>∃ (x c:V) (t g:Ac) (b:Bool),j=[x,c]/\nO c g/\TyOf X.K H x t/\PySem.W.kitOne X.K t g=some b/\Q (.b b) H):=by
 intro k s A H j y Q I r h;obtain⟨x,c,t,g,b,rfl,d,ty,e,q⟩:=h;obtain⟨u,v,rfl,m,f⟩:=uJ r;have:v=g:=by
  cases c with
  | ref a=>cases d;cases f;rfl
  | ty n=>cases d;cases f;rfl
  | e=>cases d;cases f;rfl
  | b b=>cases d;cases f;rfl
  | int i=>obtain⟨z,rfl⟩:=d;exact absurd e (by unfold PySem.W.kitOne PySem.W.kitCls;cases ty<;>simp)
  | str i=>obtain⟨z,rfl⟩:=d;exact absurd e (by unfold PySem.W.kitOne PySem.W.kitCls;cases ty<;>simp)
  | byt i=>obtain⟨z,rfl⟩:=d;exact absurd e (by unfold PySem.W.kitOne PySem.W.kitCls;cases ty<;>simp)
  | flt i=>obtain⟨z,rfl⟩:=d;exact absurd e (by unfold PySem.W.kitOne PySem.W.kitCls;cases ty<;>simp)
 subst this;exact LY I m ty e λw=>⟨.b b,H,I.tok _,rfl,q⟩
end
def xG (z:Af):It:=⟨λi _=>i<z.length,λi H x a=>a=H/\∃ c,z.cps[i]?=some c/\x = .str ⟨#[c]⟩,λi _=>z.length<=i⟩
theorem V7 {P:Ah}{K:nH}(z:Af) (t:Tok) (it:Ad):Turn P w K tg (xG z) [it] it (λi h=>h.IsStrIter it "str_ascii_iterator" z t i) where
 mem:=by simp
 obj:=λi h st b hb=>by
  have e:b=it:=by simpa using hb
  subst e;obtain⟨o,e,c,d⟩:=st;exact⟨o,e,λv z=>by rw[d] at z;cases z⟩
 keep:=λi h h' st k=>by
  obtain⟨o,e,r⟩:=st;exact⟨o,k it (by simp) o e,r⟩
 item:=by
  intro X hP hw hK hc i pins s σ H E I hf st hg;subst hP hw hK;have hg:i<z.length:=hg;obtain⟨f0,f1,f2,f3,f4,f5⟩:=hf it (by simp);have hz:z.cps[i]?=some (z.cps[i]'hg):=cG hg;refine wpAny_pyNext_ascii_item st hz λh' st' sb=>?_
  have I1:Inv X pins σ H { s with heap:=h',toks:=s.toks+1 }:=I.turned (t':=s.toks+1) (λb o hb e=>(sb.2 b hb).trans e) f0 f1 f3 f4 f5;obtain⟨o,e,c,d⟩:=id st';exact⟨_,rfl,Ef (s:={ s with heap:=h',toks:=s.toks+1 }) e c d (by decide) ⟨.str ⟨#[z.cps[i]'hg]⟩,H,I1,⟨_,rfl⟩,⟨rfl,_,hz,rfl⟩,st',λb hb=>(hf b hb).1⟩⟩
 done:=by
  intro X hP hw hK hc i pins s σ H E I hf st hg;subst hP hw hK;have hg:z.length<=i:=hg;obtain⟨f0,f1,f2,f3,f4,f5⟩:=hf it (by simp);exact wpAny_pyNext_ascii_end (I.ok.hd hc) st (jG (by exact hg)) λh' eb=>⟨rfl,I.turned (t':=s.toks) (λb o hb e=>eb b o hb e) f0 f1 f3 f4 f5⟩
 self:=λ_ _ _ _ _ st h=>wpAny_pyIter_striter_ascii st h
section
variable {X:Cx}
def X2 (g:TE):TI:=λb H R=>g b H λx a=>∃ z:Af,x = .str z/\z.cps.all (·<128)=true/\R (xG z) a
theorem Xj (g:PE X l j):PI X o l (X2 j):=by
 intro a s k H R I h;refine nL (g a s k H _ I h) λv c f=>?_
 obtain⟨x,i,d,y,z,n,u,q⟩:=f;subst n;obtain⟨t,rfl⟩:=y;refine wpAny_pyIter_ascii u ?_;have m:Inv X a k i { c with heap:=c.heap.push { cls:=.type "str_ascii_iterator",data:=.fields #[.str z t,.int 0 0] } }:=d.kept (t':=c.toks) λb A q=>aD _ q
 refine⟨c.heap.objs.size,[c.heap.objs.size],_,xG z,i,rfl,m,V7 z t _,⟨_,bF _ rfl,rfl,rfl⟩,λb w=>?_,q⟩;have e:b=c.heap.objs.size:=by simpa using w
 subst e;exact d.fpOk (bB _) (d.hok.fresh (bB _))
end
end L2
namespace PySem
open PyProof.Rows L2
section
theorem KU {s g:Ae}(a:g.gens=s.gens) (b:g.drawn=s.drawn) (c:g.os=s.os):g={ s with heap:=g.heap,toks:=g.toks }:=by
 cases s;cases g;cases a;cases b;cases c;rfl
end
theorem Vi:entryFor table "dict.update.loop" = some Builtin.«dict.update.loop»:=entryFor_of_tree (by kernel_rfl)
theorem Ie:plainId "dict.update.loop" = true:=by decide +kernel
theorem Z3:typeLookup (.type "list") "keys" = pure none:=am_miss_of_fast (by decide +kernel)
section
theorem NE
  (l:s.heap.get? a=some { cls:=.type "list",dict:=none,data:=.seq j n,slots:=r }) (calm:A.handled=none) (o:∀ p C e,Heap.NewAttrErr s.heap p e (.ref a) "keys" -> E (.ref e) { s with heap:=p,toks:=C }) :
  wpAny (model g w) A (boundAndCalled (.builtin "list.__getattribute__") (.ref a) (.str "keys" u)) Q E s:=by
 have ask:wpAny (model g w) A (call (.builtin "list.__getattribute__") [.ref a,.str "keys" u]) Q E s :=
  mJ jZ ⟨_,l,rfl⟩ am_entry_list_getattribute (F.args_list_getattribute_2 _ _) (meets_getattribute_miss_list a j n r "keys" u Z3 (by decide +kernel)) ⟨l,calm,o⟩
 unfold boundAndCalled;rw[jZ.bind (.ref a)];exact aB (aF ask)
theorem Xb (t:s.TypeIs (.ref e) "AttributeError") (j:E (.ref e) s) :
  wpAny (model g w) A (getattributeRaised o name (.type "list") (.ref e) none false false) Q E s:=by
 have last:wpAny (model g w) A (hookOrError o name (.ref e) false false none) Q E s:=aB (wpAny_throw j);have a:hookBehind (.type "list") none=pure none:=am_list_getattr_none;unfold getattributeRaised;refine aB (iF t sub_AttributeError ?_);rw[aQ rfl,a];exact aB (aF last)
theorem IH
  (l:s.heap.get? a=some { cls:=.type "list",dict:=none,data:=.seq I n,slots:=J }) (calm:A.handled=none) (C:∀ j p e,Heap.NewExcOf s.heap j e "AttributeError" -> Q none { s with heap:=j,toks:=p }) :
  wpAny (model g w) A (getAttr? (.ref a) "keys") Q E s:=by
 have c:∀ j p e,Heap.NewAttrErr s.heap j e (.ref a) "keys" -> (∃ o,j.get? e=some o/\o.cls = .type "AttributeError")/\Q none { s with heap:=j,toks:=p }:=λj p e x=>by
  obtain⟨_,_,y⟩:=x.there;exact⟨⟨_,y,rfl⟩,C j p e x.of⟩
 let d:Ae:={ s with toks:=s.toks+1 };let b:Except Ac Ac->Ae->Prop:=λr i=>wpAny (model g w) A (match r with | .ok v=>pure (some v) | .error e=>do if <- isInstance e (.type "AttributeError") then pure none else throw e) Q E i
 have look:wpAny (model g w) A (getAttrBy (.ref a) (.str "keys" s.toks) false) (λv=>b (.ok v)) (λe=>b (.error e)) d:=by
  refine cP (aB (mE (T := "list") ⟨_,l,rfl⟩ (aB (iD jZ.lookup ?_))));have own:wpAny (model g w) A (getAttrByItsOwn (.ref a) (.str "keys" s.toks) (.type "list") (.builtin "list.__getattribute__") false false) (λv=>b (.ok v)) (λe=>b (.error e)) d:=by
   refine aB (aF (aB (gH (cP (NE (s:=d) l calm λj p e x=>?_)))));obtain⟨⟨o,f,h⟩,q⟩:=c j p e x;exact Xb ⟨o,f,h⟩ (aB (iF (T := "AttributeError") ⟨o,f,h⟩ sub_AttributeError (aF q)))
  exact own
 exact aB (wpAny_mkText (aB (gH look)))
end
section
variable {R:Result->Ae->Prop}{P:Nat->Ac->Prop}{St:Nat->Ae->Prop}
theorem JG (W:WalksS j w A.in1 J fp l G n P St) (d:Ad) (I:d∉fp) (C:Ag) (M:Nat->Ag->Prop) (U:∀ i h p,(∀ b o,b∉l->h.get? b=some o->p.get? b=some o)->M i h->M i p)
  (hT:∀ i v,i<n->P i v->∃ (t:Ad) (o:Obj) (m:Nat) (r x:Ac),v = .ref t/\t∉d::l/\C.get? t=some o/\o.cls = .type "tuple" /\ o.data = .seq #[r,x] m /\ ∀ (s:Ae) (Q:Unit->Ae->Prop) (E:Ac->Ae->Prop),(∀ b o,b∉d::l->C.get? b=some o->s.heap.get? b=some o)->M i s.heap ->(∀ p c,M (i+1) p->Heap.SameBut d s.heap p->Q () { s with heap:=p,toks:=s.toks+c })->wpAny (model j w) A.in1 (dictSet d r x) Q E s) :
  ∀ (k i:Nat) (s:Ae),n-i=k->i<=n->St i s->(∀ b o,b∉d::l->C.get? b=some o->s.heap.get? b=some o)->M i s.heap ->
   (∀ g,Moved (d::l) G s g->M n g.heap->R (.ok (.ret .none)) g) ->
   codeAny (model j w) A (.builtin "dict.update.loop" ⟨[.ref d,.ref J,.int (i:Int) 0,.none],[]⟩) R s:=by
 have q:∀ b∈l,b∈d::l:=λb z=>aV _ z
 intro k;induction k with
 | zero =>
  intro i s hk hi st f L K;have ei:i=n:=by omega
  subst ei;refine hW Vi ?_;rw[gZ Ie _];show wpAny _ A.in1 (pyNext (.ref J) >>= _) _ _ s;refine aB (W.done s _ _ st λg D=>?_);show wpAny _ A.in1 (Builtin.Dict.addKeywords d [] >>= _) _ _ g;exact aB (aF (aF (K g (D.mono q) (U _ _ _ D.heap L))))
 | succ k ih =>
  intro i s hk hi st f L K;have B:i<n:=by omega
  refine hW Vi ?_;rw[gZ Ie _];show wpAny _ A.in1 (pyNext (.ref J) >>= _) _ _ s;refine aB (W.item i s _ _ B st λv g hv Z D=>?_);obtain⟨t,o,m,r,x,rfl,ht,V,O,S,put⟩:=hT i v B hv;have a:∀ b o,b∉d::l->C.get? b=some o->g.heap.get? b=some o:=λb o u e=>D.heap b o (λz=>u (q _ z)) (f b o u e)
  have y:=a t o ht V;show wpAny _ A.in1 (holding [Value.ref t] _ >>= _) _ _ g;refine aB (cP ?_);refine aB (wpAny_tryCatch ?_);unfold Builtin.Dict.pairItems;refine aB (mE (T := "tuple") ⟨o,y,O⟩ ?_);rw[aQ (by decide)];refine aB (wpAny_seqItems y S ?_);refine aF ?_;show wpAny _ A.in1 (holding [r,x] (dictSet d r x)) _ _ g;refine cP (put g _ _ a (U _ _ _ D.heap L) λp c N Y=>?_);refine aF ⟨iT Ie _,?_⟩;have e1:(rawInt ((i:Int)+1))=Value.int ((i+1:Nat):Int) 0:=by rfl
  rw[e1];refine ih (i+1) _ (by omega) B (W.frame _ g _ _ Z (jR _ _) λb u o e=>?_) (λb o u e=>?_) N λX H F=>?_
  .rw[Y.2 b (λz:b=d=>I (by rw[<- z];exact u))];exact e
  .rw[Y.2 b (λz:b=d=>u (by rw[z];exact aI))];exact a b o u e
  .refine K X (Moved.trans W.gtrans ((D.mono q).then_heap (jR _ _) λb o u e=>?_) H) F;rw[Y.2 b (λz:b=d=>u (by rw[z];exact aI))];exact e
end
section
variable {K:Type} [DecidableEq K] {knd:KeyKind prog w K}{A:Around}
abbrev Lz (l:Ad):Obj:={ cls:=.type "list_iterator",data:=.fields #[.ref l,.int 0 0] }
abbrev EU (g:Array Ac) (n:Nat) (j:Array (Ab Ac)):Obj:={ cls:=.type "list",dict:=none,data:=.seq g n,slots:=j }
theorem NG (t:s.TypeIs (.ref d) "dict") (j:s.heap.get? l=some (EU r n C)) (calm:A.handled=none)
  (on:∀ g o e,Heap.NewExcOf s.heap g e "AttributeError" -> Q (.again (.builtin "dict.update.loop" ⟨[.ref d,.ref g.objs.size,.int 0 0,.none],[]⟩)) { s with heap:=g.push (Lz l),toks:=o }) :
  wpAny (model prog w) A (Builtin.«dict.__init__» ⟨[.ref d,.ref l],[]⟩) Q E s:=by
 have first:wpAny (model prog w) A (Builtin.Dict.selfAndRest "__init__" ⟨[.ref d,.ref l],[]⟩) (λp b=>p=(d,[Value.ref l])/\b=s) E s:=aB (kZ t (aF ⟨rfl,rfl⟩))
 have a:wpAny (model prog w) A (Builtin.Dict.updateFrom "dict.__init__" d (.ref l) [] .none) Q E s:=by
  refine aB (mE (T := "list") ⟨_,j,rfl⟩ ?_);rw[aQ (by decide)];refine aB (IH j calm λg o e x=>?_);exact aB (wpAny_rule (aB (wpAny_pyIter_list ⟨_,x.keeps _ _ j,rfl,n,rfl⟩ (aF (on g o e x)))))
 exact aB (cZ first (λp b q=>by obtain⟨rfl,rfl⟩:=q;exact a) λ_ _ q=>q)
def Gr (s:Ae):Ae:={ s with heap:=s.heap.push { cls:=.type "dict",data:=.dict #[] } }
theorem QD (M:Nat->Ag->Prop) (I:A.handled=none) (C:s.heap.get? l=some o) (hc:o.cls = .type "list") (hd:o.dict=none) (r:o.data = .seq items nl)
  (m0:∀ h:Ag,h.get? s.heap.objs.size=some { cls:=.type "dict",data:=.dict #[] }->M 0 h) (T:∀ i h g,(∀ b o,b<=s.heap.objs.size->h.get? b=some o->g.get? b=some o)->M i h->M i g)
  (U:∀ (i:Nat) v,items[i]?=some v->∃ (t:Ad) (o:Obj) (m:Nat) (p x:Ac),v = .ref t/\s.heap.get? t=some o/\o.cls = .type "tuple" /\ o.data = .seq #[p,x] m /\ ∀ (B:Around) (j:Ae) (Q:Unit->Ae->Prop) (E:Ac->Ae->Prop),(A.units+2<cLine->B.units<cLine)->(∀ b o,s.heap.get? b=some o->j.heap.get? b=some o)->M i j.heap ->(∀ g c,M (i+1) g->Heap.SameBut s.heap.objs.size j.heap g->Q () { j with heap:=g,toks:=j.toks+c })->wpAny (model prog w) B (dictSet s.heap.objs.size p x) Q E j)
  (h:∀ (g:Ag) (J:Nat),M items.size g->(∀ b o,s.heap.get? b=some o->g.get? b=some o)->Q (.ref s.heap.objs.size) { s with heap:=g,toks:=J }) :
  wpAny (model prog w) A (call (.type "dict") [.ref l]) Q E s:=by
 obtain⟨oc,od,Z,aa⟩:=o;cases hc;cases hd;cases r;let D:=s.heap.objs.size;have O:(Gr s).heap.get? D=some { cls:=.type "dict",data:=.dict #[] }:=bF _ rfl;have ty:(Gr s).TypeIs (.ref D) "dict" := ⟨_,O,rfl⟩;have old:∀ b o,s.heap.get? b=some o->(Gr s).heap.get? b=some o:=λb o e=>aD _ e
 refine callType_codes F.kt_called_dict (F.kt_typeCall_dict_1 _) F.entry_dict_init (kt_code_dict_new _ (Q₁:=λv N=>v = .ref D/\N=Gr s) ⟨rfl,rfl⟩) λv N q=>?_
 obtain⟨rfl,rfl⟩:=q;refine⟨ty,F.args_dict_init_2 _ _,NG ty (old _ _ C) (by simp[I]) λu J e x=>⟨iT Ie _,?_⟩⟩;have d:D<u.objs.size:=aZ (x.keeps _ _ O);have H:l<D:=aZ C;have keeps:∀ b o,s.heap.get? b=some o->(u.push (Lz l)).get? b=some o:=λb o e=>aD _ (x.keeps _ _ (old b o e))
 have a:∀ {b:Ad},b<D->b∉[D,u.objs.size]:=λ{b} G z=>by
  rcases aM.mp z with q | q
  .exact cD G q
  .exact cD (mZ G d) (aJ.mp q)
 have n:D∉[u.objs.size,l]:=λz=>by
  rcases aM.mp z with q | q
  .exact cD d q
  .exact Nat.ne_of_gt H (aJ.mp q)
 have f:(u.push (Lz l)).IsList l items:=⟨_,keeps _ _ C,rfl,nl,rfl⟩;refine JG ((Walks.list (by simp[I]) u.objs.size l (cD (mZ H d)) items).toS) D n s.heap M (λi h g k m=>T i h g (λb o V e=>k b o (λz=>cD (gS V d) (aJ.mp z)) e) m) (λi v _ X=>?_) items.size 0 _ (by omega) (gA _) ⟨⟨_,bF _ rfl,rfl,rfl⟩,f⟩ (λb o _ e=>keeps b o e) (m0 _ (aD _ (x.keeps _ _ O))) λj L fin=>?_
 .obtain⟨t,ot,m,p,y,rfl,P,r1,r2,put⟩:=U i v X;exact⟨t,ot,m,p,y,rfl,a (aZ P),P,r1,r2,λN S R Y=>put _ N S R (λW=>by simpa using W) λb o e=>Y b o (a (aZ e)) e⟩
 .have res:=h j.heap j.toks fin λb o e=>L.heap b o (a (aZ e)) (keeps b o e)
  rw[show j={ s with heap:=j.heap,toks:=j.toks } from KU L.gens L.drawn L.os];exact⟨rfl,res⟩
theorem Yf (J:A.handled=none) (T:s.heap.get? l=some o) (I:o.cls = .type "list") (hd:o.dict=none) (p:o.data = .seq items nl)
  (hn:more.length=items.size)
  (C:∀ (i:Nat) v,items[i]?=some v->∃ (t:Ad) (o:Obj) (m:Nat) (k:K) (j x:Ac),v = .ref t/\s.heap.get? t=some o/\o.cls = .type "tuple" /\ o.data = .seq #[j,x] m/\knd.is k j=true/\more[i]?=some (k,x)) (U:items.size<=sizeLine)
  (h:∀ (g:Ag) (r:Nat),g.DictOf knd s.heap.objs.size (merged [] more)->(∀ b o,s.heap.get? b=some o->g.get? b=some o)->Q (.ref s.heap.objs.size) { s with heap:=g,toks:=r }) :
  wpAny (model prog w) A (call (.type "dict") [.ref l]) Q E s:=by
 refine QD (λi g=>g.DictOf knd s.heap.objs.size (merged [] (more.take i))) J T I hd p (λn e=>?_) (λi n y k m=>?_) (λi v H=>?_) λg r m=>h g r (by rw[kR (by omega)] at m;exact m)
 .obtain⟨z,f,d,u,rest⟩:=Heap.DictOf.new (knd:=knd) s.heap;cases u.symm.trans (bF _ rfl);exact⟨_,f,d,e,rest⟩
 .obtain⟨z,f,d,u,rest⟩:=m;exact⟨z,f,d,k _ _ (bB _) u,rest⟩
 .obtain⟨t,M,m,L,j,x,rfl,n,y,F,c,a⟩:=C i v H;refine⟨t,M,m,j,x,rfl,n,y,F,λB O Q E _ _ G k=>wpAny_dictSet_pairs (hsz:=?_) c G λg q N=>k g 1 (by rw[merged_take_succ [] more i (L,x) a];exact q) N⟩;have D:=merged_length_le ([]:Aa (K×Ac)) (more.take i);rw[dL,cW] at D;omega
end
end PySem
namespace L2
open PySem PySem.Spec PyProof.Rows
section
variable {X:Cx}
def F3 (H:Hp) (j:Aa Ad) (g:Aa (hH×V)):Prop:=Paired (λt (a:hH×V)=>H t=some (.t [kV a.1,a.2])) j g
theorem IK {P:Ah}(p:pP P w H h):∀ {l:Aa Ad}{g:Aa (hH×V)},F3 H l g->∃ more:Aa (hH×Ac),KV g more /\
  ∀ (i:Nat) t,l[i]?=some t->∃ (o:Obj) (m:Nat) (k:hH) (j x:Ac),h.get? t=some o/\o.cls = .type "tuple" /\ o.data = .seq #[j,x] m/\(qJ P w).is k j=true/\more[i]?=some (k,x):=by
 intro l g r;unfold F3 at r;induction r with
 | nil=>exact⟨[],.nil,λi t e=>by simp at e⟩
 | @cons t j l g d G u =>
  obtain⟨more,B,q⟩:=u;obtain⟨z,v,a,⟨o,s,f,n,b⟩,_⟩:=p t _ d;cases a with
  | @cons _ E _ K y a =>
   cases a with
   | @cons _ c _ F A a =>
    cases a;refine⟨(j.1,c)::more,.cons ⟨rfl,A⟩ B,λi D e=>?_⟩;cases i with
    | zero =>
     simp at e;subst e;exact⟨o,n,j.1,E,c,s,f,b,wY y,rfl⟩
    | succ i=>simpa using q i D (by simpa using e)
theorem AT (l:X.calm=true):qC X (.type "dict") (λC H Q=>∃ (p:Ad) (j:Aa Ad) (g:Aa (hH×V)),C=[.ref p]/\nX X.K H p (j.map V.ref)/\F3 H j g/\g.length<=1000/\∀ d,H d=none->Q (.ref d) (upd H d (.k (uI [] g)))):=by
 intro E s σ H C us Q I r h;obtain⟨p,j,g,rfl,U,D,hz,q⟩:=h;obtain⟨u,rfl,B⟩:=wL r;cases B;obtain⟨c,F,⟨o,n,e,L,M,N⟩,_⟩:=I.list U;have f:=F.length;rw[aA] at f;have Z:j.length=g.length:=D.length;obtain⟨more,G,J⟩:=IK I.hok D;have T:=G.length;have b:∀ (i:Nat) v,c[i]?=some v->∃ t,j[i]?=some t/\v = .ref t:=by
  intro i v y;have hi:i<c.length:=(aP.mp y).1;have:i<j.length:=by omega
  obtain⟨u,hu,B⟩:=F.get (i:=i) (x:=V.ref j[i]) (by simp[this]);rw[hu] at y;cases y;cases B;exact⟨j[i],by simp[this],rfl⟩
 refine Yf (knd:=qJ X.prog X.w) (more:=more) (I.ok.hd l) e L M N (by rw[bE];omega) ?_ (by rw[bE];exact jE (gS (show c.length<=1000 by omega) (by decide))) λh' tk W Y=>?_
 .intro i v y;obtain⟨t,ht,rfl⟩:=b i v (by simpa using y);obtain⟨o,m,k,kv,x,z,O,P,R,S⟩:=J i t ht;exact⟨t,o,m,k,kv,x,rfl,z,O,P,R,S⟩
 .have A:(uI [] g).length<=sizeLine:=by
   have z:=Hk g [];rw[dL] at z;exact jE (gS (show (uI [] g).length<=1000 by omega) (by decide))
  refine⟨.ref s.heap.objs.size,_,I.laid (a:=s.heap.objs.size) (o:=.k (uI [] g)) (t':=tk) Y (bB _) ?_,rfl,q _ I.fresh⟩;exact Bh A (eP.mpr (fQ (cD I.big))) (G.merge .nil) W
end
def xD:Aa Ac:=[.type "ValueError",.type "Exception",.type "BaseException",.type "object"]
theorem Z8 {K:nH}(X:K.In h) (G:h.Ns N g) (e:PySem.W.nsIn K N n=some (some v)):g n=some v:=by
 obtain⟨o,a,i,m,hd,_,k⟩:=G;unfold PySem.W.nsIn at e;cases q:List.lookup N K with
 | none=>rw[q] at e;cases e
 | some t =>
  rw[q] at e;have z:=X _ _ q;rw[m] at z;cases z;obtain⟨c,d,f,u⟩:=o;cases (show f = .dict a i from hd);cases b:a.toList.find? (λx=>x.key.isStr n) with
  | some s =>
   have e:=(show (match a.toList.find? (λx=>x.key.isStr n) with | some e=>some (some e.val) | none=>if (a.toList.any λx=>x.refKey)=true then none else some none)=some (some v) from e);rw[b] at e;cases e;rw[<- k];unfold nsFind findBy;rw[<- Array.find?_toList,b];rfl
  | none =>
   have e:=(show (match a.toList.find? (λx=>x.key.isStr n) with | some e=>some (some e.val) | none=>if (a.toList.any λx=>x.refKey)=true then none else some none)=some (some v) from e);rw[b] at e;by_cases w:(a.toList.any λx=>x.refKey)=true
   .rw[show (match (none:Ab DictEntry) with | some e=>some (some e.val) | none=>if (a.toList.any λx=>x.refKey)=true then none else some none)=none from aQ w] at e;cases e
   .rw[show (match (none:Ab DictEntry) with | some e=>some (some e.val) | none=>if (a.toList.any λx=>x.refKey)=true then none else some none)=some none from aG w] at e;cases e
def sI (K:nH) (C N:Ad) (g:Aa Ac) (init:Ab Ac):Bool:=match K.lookup C with
 | some o=>o.cls == .type "type" && (match o.data with
  | .cls cd=>cd.mro == .ref C::g&&(o.slots.toList.length == 6&&(o.slots.toList[4]? == some (some (.builtin "ValueError.__new__"))&&(!cd.hasDel&&(cd.hasDict&&(cd.ns == N&&(PySem.W.tailIn K xD g&&(PySem.W.nsOkIn K N&&PySem.W.nsIn K N "__init__" == some init)))))))
  | _=>false)
 | none=>false
theorem Ra {K:nH}(q:sI K C N l init=true):∃ j cd g,K.lookup C=some ⟨.type "type",j,.cls cd,g⟩/\cd.mro = .ref C::l/\g.toList.length=6/\g.toList[4]?=some (some (.builtin "ValueError.__new__"))/\cd.hasDel=false/\cd.hasDict=true/\cd.ns=N /\
  PySem.W.tailIn K xD l=true/\PySem.W.nsOkIn K N=true/\PySem.W.nsIn K N "__init__" = some init:=by
 unfold sI at q;cases b:K.lookup C with
 | none=>rw[b] at q;cases q
 | some o =>
  rw[b] at q;obtain⟨c,j,d,g⟩:=o;obtain⟨e,a⟩:=hG.mp q;clear q;obtain rfl:c = .type "type" := iJ.mp e;cases d<;>first | (cases a;done) | skip
  rename_i cd
  simp only[cX,iJ,Bool.not_eq_true'] at a;exact⟨j,cd,g,rfl,a⟩
theorem OH:∀ {l:Aa g}{x:g},l.length=6->l[4]?=some x->∃ a b c d f,l=[a,b,c,d,x,f]
 | [a,b,c,d,_,f],_,_,h=>⟨a,b,c,d,f,by cases h;rfl⟩
structure XCls (h:Heap) (C N:Addr) (bm:List Value) (init:Option Value):Prop where
 ex:∃ nm q bs sn sub ab col dd k0 k1 k2 k3 k5 mN,h.get? C=some (excClassObj nm q C N bs bm true sn sub ab col dd k0 k1 k2 k3 k5 "ValueError.__new__")/\h.Ns N mN/\mN "__init__" = init
 tail:OwnTail h xD bm
theorem En {K:nH}(X:K.In h) (q:sI K C N g init=true):XCls h C N g init:=by
 obtain⟨m,cd,G,t,f,s,n,b,c,rfl,i,a,d⟩:=Ra q;obtain⟨w,x,y,z,A,u⟩:=OH s n
 ··obtain⟨D,bs,B,E,F,hd,H,sub,k,e,del⟩:=cd;dsimp only at f b a d c i;subst f b c;obtain⟨l⟩:=G;obtain rfl:l=_:=u;refine (⟨⟨D,F,bs,H,sub,k,e,m,w,x,y,z,A,h.nsMap E,X _ _ t,.of_isNs (PySem.W.isNs_of_in X a),?_⟩,PySem.W.tail_of_in X i⟩:XCls h _ _ _ _);cases init with
   | none=>exact PySem.W.nsMap_none_of_in X a d
   | some v=>exact Z8 X (.of_isNs (PySem.W.isNs_of_in X a)) d
def vX (e C:Ad):HO:=.ext λh=>∃ t,h.get? e=some (rV C t)
def Cq (e C g:Ad):HO:=.ext λh=>∃ t,h.get? e=some { rV C t with dict:=some g }
theorem Q9 (h:H a=some o):upd H a o=H:=by
 funext b
 unfold upd;split
 .rename_i z;rw[z];exact h.symm
 .rfl
section
variable {X:Cx}
def IB (a b:Af) (g:TE):TE:=λe H Q=>g e H λy d=>∃ x:Af,y = .str x/\(∀ c∈x.cps.toList,c<16 ^ 8)/\x.length<=1000/\∀ z:Af,Q (.str z) d
theorem BW (g:PE X e l) (o:a.length<=1000:=by decide +kernel) (p:b.length<=1000:=by decide +kernel):PE X (.JoinedStr [.Constant (.str a) i r,.FormattedValue e 114 none C,.Constant (.str b) j J] pos) (IB a b l):=by
 intro c s A H Q I h;have big:20000<=sizeLine:=by decide
 have m:(Str.empty++a).length=a.length:=by rw[gI];simp[Str.empty,Str.length]
 refine wpAny_JoinedStr ?_;refine eZ ⟨a,_,rfl,by omega,?_⟩;refine wpAny_FormattedValue_repr (nL (g c _ A H _ (I.tok _) h) λu F d=>?_);obtain⟨y,f,k,z,x,v,w,E,q⟩:=d;subst v;obtain⟨t,rfl⟩:=z;have D:=StrLaws.reprText_len x w;have n:(Str.empty++a++reprText x).length=a.length+(reprText x).length:=by rw[gI,m]
 have B:(Str.empty++a++reprText x++b).length=a.length+(reprText x).length+b.length:=by rw[gI,n]
 refine wpAny_pyReprObj_str (hsz:=by omega) (lA (hx:=by omega) ?_ ?_)
 .refine⟨_,_,rfl,by omega,eZ ⟨b,_,rfl,by omega,⟨by omega,.str _,f,?_,⟨_,rfl⟩,q _⟩⟩⟩;exact ((k.tok _).tok _).tok _
 .refine⟨_,_,rfl,by omega,eZ ⟨b,_,rfl,by omega,⟨by omega,.str _,f,?_,⟨_,rfl⟩,q _⟩⟩⟩;exact (((k.tok _).tok _).tok _).tok _
end
theorem Nc {P:Ah}(g:h.get? e=some (rV C t)):pE P w H h e (vX e C):=⟨⟨t,g⟩,⟨_,g⟩,λ_ _ ⟨t,z⟩ k=>⟨t,k _ z⟩⟩
theorem Xq {P:Ah}(g:h.get? e=some { rV C t with dict:=some j }):pE P w H h e (Cq e C j):=⟨⟨t,g⟩,⟨_,g⟩,λ_ _ ⟨t,z⟩ k=>⟨t,k _ z⟩⟩
section
variable {X:Cx}
def MQ (K:nH) (j g:TE):TE:=λb H Q=>j b H λx c=>g b c λy a=>∃ (e C N:Ad) (d:Aa Ac) (i:Ab Ac) (z:Af),x = .ref e/\y = .str z/\a e=some (vX e C)/\sI K C N d i=true/\Q .e a
theorem Ou {CE:Ad}(U:Gl X x) (hm:X.mg x=some (.ref CE)) (r:PySem.W.specialIn X.K (.ref CE) "__getattribute__" = some (some (.builtin "type.__getattribute__")))
  (J:PySem.W.readsIn X.K CE (.type "type")=true) (p:PySem.W.findCls X.K (.ref CE) (.type "type") "__init__" = some (PySem.W.CFound.val (.builtin "ValueError.__init__"))) (hs:PE X j ts) (T:PE X g tf) (m:M2 X (.Name x np) "__init__" apos j g pos)
  (l:(x == ("__debug__" : Af))=false:=by decide):PE X (.Call (.Attribute (.Name x np) "__init__" apos) [j,g] [] pos) (MQ X.K ts tf):=by
 intro a s w H Q I h;rw[arm_eval_Call,m.base];refine aB (C0 I U hm ?_ l);refine aB (iR ?_);have b:methodCallForm (([j,g]:Aa Expr).length+([]:Aa Keyword).length) (backTo pos (starEach [j,g] X.env)) (backToKw pos (keywordEach [] X.env))=true:=m.few;have d:methodCallPos true (.Name x np) X.env apos pos=pure pos:=by unfold methodCallPos;simp[m.line]
 unfold methodCall;rw[b];refine aB (cP ?_);refine PySem.W.method_cls I.kIn r (PySem.W.cls_value I.kIn J p rfl ?_);refine aB (iD d ?_);rw[m.trees];refine gJ rfl (jO (fG (nL (hs a _ w H _ (I.tok _) h) λu V ⟨y,A,D,S,P⟩ =>fG (nL (T a V w A _ D P) λM Y ⟨z,B,f,rz,e,C,N,bm,i,zz,G,L,k,xc,R⟩=>iL ?_))));subst G L;obtain rfl:u=Value.ref e:=S;obtain⟨⟨t0,n⟩,_,_⟩:=f.hok e _ k;have v:=En f.kIn xc;obtain⟨nm,q,bs,sn,sub,ab,F,dd,k0,k1,k2,k3,k5,mN,E,cN,ci⟩:=v.ex;obtain⟨h3,g3,d3,Z,O⟩:=Y;refine Qo eB v.tail (show ([M]:Aa Ac).length<=sizeLine by show 1<=sizeLine;decide) E n λh' t' c keep=>?_
 have t:=f.write (x:=e) (e:=e) (o:=vX e C) (t':=Z) (by rw[k];exact True.intro) (.inl rfl) keep ⟨_,c⟩ (Nc c);rw[Q9 k] at t;exact⟨.e,B,t,rfl,R⟩
def BQ (K:nH) (g j:TE) (f:Af):TS:=λD h H=>j h H λy k=>g h k λx b=>∃ (e C N:Ad) (c:Aa Ac) (i:Ab Ac),x = .ref e/\b e=some (vX e C)/\sI K C N c i=true /\
 PySem.W.findIn K (.ref C) "__setattr__" = some (some (.builtin "object.__setattr__"))/\PySem.W.findIn K (.ref C) f=some none/\(∀ a,refuseLoop (.ref a) "__setattr__" (.ref C::c)=pure ())/\c.contains (.type "object")=true /\
 ∀ d,b d=none->D.nx h (upd (upd b d (.xd [(f,y)])) e (Cq e C d))
theorem Wi {K:nH}(q:sI K C N g i=true):∃ cd,PySem.W.clsIn K C=some cd/\cd.hasDict=true/\cd.mro = .ref C::g:=by
 obtain⟨e,cd,k,d,c,h,f,b,a,_⟩:=Ra q;refine⟨cd,?_,a,c⟩;unfold PySem.W.clsIn;rw[d]
theorem U9 (T:PE X o to) (hv:PE X value tv) (U:swapsWith value (some (.Attribute o f g)) pos.line X.env=pure false):PS X (.Assign [.Attribute o f g] value pos) (BQ X.K to tv f):=by
 intro c s O H D I h;refine plainObj_wpAny_Assign_Attribute (nL (hv c s O H _ I h) λu s1 ⟨y,R,S,ry,q⟩=>nL (T c s1 O R _ S q) λov B hz=>?_) U;obtain⟨x,H2,A,rx,e,C,N,bm,i,r,Q,xc,fs,fn,rf,L,q2⟩:=hz;subst r;obtain rfl:ov=Value.ref e:=rx;obtain⟨⟨E,d⟩,_,_⟩:=A.hok e _ Q;obtain⟨cd,m,F,t⟩:=Wi xc;have J:PySem.W.mroIn X.K C (.type "object")=some true:=by
  unfold PySem.W.mroIn;rw[m,mX,t,aG (by simp),List.contains_cons,L,Bool.or_true]
 refine PySem.W.x_set A.kIn d rfl rfl rfl fs m F J (by rw[t];exact rf e) fn λk w g1 g2 g3=>?_
 have ne:B.heap.objs.size≠e:=λz=>absurd (aZ d) (by rw[<- z];exact dN _)
 have u1:(k.update e λ_=>rV C E).get? e=some (rV C E):=cK _ g1 rfl;have M:∀ b,b≠e->(k.update e λ_=>rV C E).get? b=k.get? b:=λb n=>cF _ _ (fQ n)
 have G:=A.hok.fresh (bB B.heap.objs.size);have V:=A.laid (a:=B.heap.objs.size) (o:=.xd [(f,y)]) (h':=k.update e λ_=>rV C E) (t':=w) (λb v q=>?_) (bB _) ?_
 rotate_left
 .by_cases n:b=e
  .subst n;rw[d] at q;cases q;exact u1
  .rw[M b n];exact g3 b v n q
 .obtain⟨o',p,l,Z,j⟩:=g2;refine⟨_,⟨o',p,l,by rw[M _ ne];exact Z,j⟩,λP=>?_⟩;by_cases n:P=f
  .subst n;simp only[dH,iZ,jS];exact ry
  .have:(P == f)=false:=eP.mpr n;simp only[dH,this,aG n,List.lookup_nil]
   trivial
 have Y:=V.write (x:=e) (e:=e) (o:=Cq e C B.heap.objs.size) (h':=k) (t':=w) (by rw[nP ne.symm,Q];exact True.intro) (.inl rfl) (λb v n q=>by rw[<- M b n];exact q) ⟨_,g1⟩ (Xq g1);exact⟨O,_,Y,q2 _ G⟩
end
section
variable {X:Cx}
def LX (C:Ad) (g:Sp) (t:TA):TE:=λf H Q=>t f H λc b=>c.length<=10/\∀ a,b a=none->g (.ref a::c) (upd b a (vX a C)) (λv d=>v = .e/\Q (.ref a) d) E0
theorem Xa (xc:sI X.K C N bm (some (.ref f))=true) (J:PySem.W.keepIn X.K (.ref C)=true) (hf:X.K.lookup f=some oI) (l:oI.cls = .type "function") (F:FnOk X.prog X.w X.K X.mg X.base oM k f fd T sp) (hr:Room (k+1) X.A) (hg:Gl X x) (hm:X.mg x=some (.ref C)) (hb:wQ X.K fd T [])
  (ha:PA X (e::es) t) (j:(x == ("__debug__" : Af))=false:=by decide) (g:StB X e es pos:=by exact {}) :
  PE X (.Call (.Name x p) (e::es) [] pos) (LX C sp t):=by
 intro d s R H Q I h;refine gR (C0 I hg hm ?_ j);refine mH (h₀:=X.base) I.ok.mod.kin J (nL (ha pos d s R H _ I h) λi s1 ⟨vs,B,m,r,hl,q⟩=>⟨m.kIn,?_⟩) g.a g.b;have P:=En m.kIn xc;obtain⟨nm,qn,bs,sn,sub,ab,aa,dd,k0,k1,k2,k3,k5,mN,Z,U,ci⟩:=P.ex;have hz:i.length<=sizeLine:=by rw[<- r.length];exact bS hl (by decide)
 obtain⟨h1,g1,d1,O,z⟩:=s1;refine x_call eB eB.hasB eB P.tail Z U ci (m.kIn _ _ hf) l hz λh' a G mk=>?_
 obtain⟨ta,ea,ae,ac⟩:=mk.there;have na:B a=none:=m.hok.fresh G;have L:=q a na;have y:Inv X d R (upd B a (vX a C)) ⟨h',g1,d1,O,z⟩:=m.laid (a:=a) (o:=vX a C) (t':=O) mk.keeps G (Nc ea);have M:oA (V.ref a::vs) (Value.ref a::i):=.cons rfl r;have n:(Value.ref a::i++[]).length=T.length:=by
  rw[cO,<- M.length];exact F.len _ _ _ _ L
 have D:=hb _ (Value.ref a::i) y.kIn n;rw[cO] at D;refine iS (mB (F.run _ X.stack _ _ ⟨Value.ref a::i,[]⟩ (Value.ref a::i) _ _ E0 (hr.make C i []) (y.env0.make C i []) D M L) λrr s' c=>?_);cases rr with
 | error E=>exact c.elim
 | ok fl =>
  cases fl with
  | ret u =>
   obtain⟨v,S,Y,rv,E,q3⟩:=y.after c;subst E;exact⟨rv,⟨V.ref a,S,Y,rfl,q3⟩⟩
  | next=>exact False.elim c
  | brk=>exact False.elim c
  | cont=>exact False.elim c
end
section
variable {P:Ah}{K:nH}{cd:Ac}
def OS (K:nH) (E:XK) (t:TE):TS:=λ_ d H=>t d H λv a=>∃ (e C N b:Ad) (c:Aa Ac) (i:Ab Ac),v = .ref e/\a e=some (Cq e C b)/\sI K C N c i=true/\c.contains (.type "BaseException")=true /\
 ∀ T,a T=none->E (.ref C) (some b) (upd (upd a e (qR e (.ref C) (some b))) T (rF T))
theorem KY (he:PE (pA (oQ P w) P w K mg base J l j f cd A g p r E) U t):PS (pA (oQ P w) P w K mg base J l j f cd A g p r E) (.Raise (some U) none pos) (OS K E t):=by
 intro m s σ H D I h;rw[arm_exec_Raise];refine aB (iR ?_);refine Vp (I.ok.hd rfl) (aB (nL (he m s σ H _ I h) λu S z=>aB (iR (aF ?_))));obtain⟨v,B,c,rv,e,C,N,k,X,i,Z,Q,xc,hB,hE⟩:=z;subst Z;obtain rfl:u=Value.ref e:=rv;have xk:=En c.kIn xc;obtain⟨nm,qn,bs,sn,sub,W,F,G,k0,k1,k2,k3,k5,mN,Y,cN,ci⟩:=xk.ex;obtain⟨⟨t0,a⟩,_,_⟩:=c.hok e _ Q;refine⟨e,_,_,C,N,X,nm,qn,bs,true,sn,sub,W,F,G,k0,k1,k2,k3,k5,_,rfl,Y,hB,a,rfl,rfl,rfl,?_⟩;have d:=c.write (x:=e) (e:=e) (o:=qR e (.ref C) (some k)) (h':=S.heap) (t':=S.toks) (by rw[Q];exact True.intro) (.inl rfl) (λ_ _ _ q=>q) ⟨_,a⟩ (Mc a rfl rfl rfl);refine Wg (base:=base) (env:=envOfC l j p.heap.objs.size f cd) (outer:=g) (L:=p.heap.objs.size) c.ok.frames c.stack rfl a rfl rfl λh' T R V O=>?_
 have y:(upd B e (qR e (.ref C) (some k))) e=some (qR e (.ref C) (some k)):=oO;have n:(upd B e (qR e (.ref C) (some k))) T=none:=d.hok.fresh O;have M:B T=none:=c.hok.fresh O;have ne:T≠e:=λz=>by rw[z,y] at n;cases n
 exact⟨e,T,.ref C,some k,_,rfl,d.os,d.bare,Gs d.base R (λb o q z=>Lh q z) (λb z=>by rw[aJ.mp z,y];simp) n O,J1 d.hok R d.stkFree y (λb z=>.inl (aJ.mp z)) V n,V,by rw[nP ne.symm];exact y,oO,hE T M⟩
end
theorem IX {K:nH}(X:K.In s.heap) (j:s.heap.get? e=some l) (g:l.cls=cls) (h:PySem.W.exmOne K cls c=some b) (q:Q b s) :
  wpAny M A (excMatches (.ref e) c) Q E s:=by
 obtain⟨a,L2⟩:=PySem.W.exm_cls (M:=M) X h;have d:=PySem.W.exm_ty (M:=M) X h;have f:PySem.W.Looks M s.heap (typeOf (.ref e)) cls:=g▸(PySem.W.Looks.ld j).andThen .now;unfold excMatches;refine aB (d.here ?_);simp only[cL,gQ];refine aB (aF ?_);simp only[nE,List.forIn_nil];refine aB (aB (aB (a.here ?_)));simp only[Bool.not_true,cL,gQ];refine aF (aF (aB (f.here (aB (aB (aB (L2.here ?_)))))));cases b
 .simp only[cL,gQ];exact aF (aF (aF q))
 .simp only[jS];exact aF (aF (aF q))
section
variable {X:Cx}
theorem OA (I:Inv X g C H s) (J:X.N.Nodup) (T:X.N[j]?=some n) (U:X.env.scope.names.lookup n=some .local)
  (h:∀ l,Inv X g (C.set j none) H l->Q () l):wpAny M A (do bindName X.env n .none;unbindBehindTheSuite X.env n pos) Q E s:=by
 obtain⟨m,hn,hv⟩:=id I.loc;refine wpAny_nameGoes_keeps U hn (by rw[I.ok.kind];rfl) λZ v F sb=>h _ ?_
 have keep:∀ b o,b≠X.env.locals->s.heap.get? b=some o->Z.get? b=some o:=λb o nb q=>(sb.2 b nb).trans q
 refine⟨I.ok,I.os,I.bare,?_,⟨_,F,λi x w S d t=>?_⟩,λx c R=>?_,I.free,I.freeC,λp hp=>?_,λa o e=>?_,by rw[cB];exact I.len⟩
 .have f:∀ b o,X.s₀.heap.get? b=some o->b≠X.env.locals:=λb o e=>cD (bT (aZ e) I.ok.above)
  refine⟨λb o q z nf y=>keep b o (f b o q) (I.base.keep b o q z nf y),λb o q z k y=>?_,I.base.free,λb o q y=>?_,I.base.tups,I.base.frzs,I.base.tbls⟩
  .obtain⟨sl,r⟩:=I.base.slot b o q z k y;exact⟨sl,keep b _ (f b o q) r⟩
  .obtain⟨o',r⟩:=I.base.there b o q y;exact⟨o',keep b _ (f b o q) r⟩
 .by_cases G:j=i
  .subst G;by_cases D:j<C.length
   .rw[hZ D] at d;cases d
   .rw[lB (by rw[cB];omega)] at d;cases d
  rw[eY G] at d;have xn:x≠n:=λz=>by
   subst z;have l1:=(aP.mp S);have l2:=(aP.mp T);exact G ((List.getElem_inj (J)).mp (l2.2.trans l1.2.symm))
  obtain⟨u,ru,lk⟩:=hv i x w S d t;refine⟨u,ru,?_⟩;rcases lk with⟨K,B⟩ | ⟨K,c,B,o,L,O⟩
  .exact .inl ⟨K,by show (if x=n then v else m x)=some u;rw[aG xn];exact B⟩
  .exact .inr ⟨K,c,B,o,keep c o (I.cne x c B) L,O⟩
 .obtain⟨v',o,L,O⟩:=I.cell x c R;exact⟨v',o,keep c o (I.cne x c R) L,O⟩
 .obtain⟨V,W,P,Y⟩:=I.pin p hp;exact⟨keep _ _ P V,W,P,Y⟩
 .refine (I.hok a o e).stay (λb u k q=>keep b u (λz=>?_) q) (λ_ q=>q) λ_ _ q=>q
  have:=I.free;rcases k with rfl | k
  .rw[z,this] at e;cases e
  .rw[z,this] at k;cases k
abbrev Cx.marked (X:Cx) (e:Ad) (E:Ac->Ae->Prop):Cx:={ X with A:=X.A.mark (some (.ref e)),calm:=false,xe:=E }
theorem Inv.marked (I:Inv X g j H s) (e:Ad) (E:Ac->Ae->Prop):Inv (X.marked e E) g j H s:=by
 obtain⟨ok,q,t,u,v,w,x,y,A,B,a⟩:=I;obtain⟨D,F,G,K,L,M,N,O,P,b,c,d,f,h,i,k,m,n⟩:=ok;exact⟨⟨D,F,G,K,L,M,N,O,(λz=>by cases z),b,c,d,f,h,i,k,m,n⟩,q,t,u,v,w,x,y,A,B,a⟩
theorem Inv.unmarked (ok:X.Ok) (I:Inv (X.marked e E) g j H s):Inv X g j H s:=by
 obtain⟨_,b,c,d,f,h,i,k,m,n,a⟩:=I;exact⟨ok,b,c,d,f,h,i,k,m,n,a⟩
end
theorem IL {X:Cx}(I:Inv X g σ H s) (k:XKeep (xK X.stack) U s.heap j) (r:H e=some (qR e C J)) (p:∀ b∈U,b=e\/H b=some (rF b)) (x:XAt j e C J T fl) (l:s.heap.objs.size<=T) :
  Inv X g σ (upd H T (rF T)) { s with heap:=j }:=by
 have a:=I.hok.fresh l;refine I.call (g':=s.gens) (d':=s.drawn) (t':=s.toks) (ch:=[]) (Gs Un.refl k (λb o _ z=>z) (λb z=>?_) a l) (J1 I.hok k I.stkFree r p x a) I.bare (λb z=>absurd z (by simp));rcases p b z with y | y
 .rw[y,r];simp
 .rw[y];simp
theorem IW {X:Cx}(I:Inv X g p H s) (k:XKeep [] [T] s.heap l) (j:H T=some (rF T)):Inv X g p H { s with heap:=l }:=by
 obtain⟨⟨o,c⟩,_⟩:=I.hok T _ j;obtain⟨d,a⟩:=k.there T o c;have J:=I.write (x:=T) (e:=T) (o:=rF T) (t':=s.toks) (by rw[j];exact True.intro) (.inl rfl) (λb u n q=>k.keep b u q (by simpa using n) (by simp)) ⟨_,a⟩ (Mn a);rw[Q9 j] at J;exact J
end L2
namespace PySem.W
open PySem PySem.Calls PyProof.Rows Builtin Builtin.ObjectAttr
structure XFacts (K:Frag) (C:Addr):Prop where
 ga:findIn K (.ref C) "__getattribute__" = some (some (.builtin "BaseException.__getattribute__"))
 gh:findIn K (.ref C) "__getattr__" = some none
 mb:mroIn K C (.type "BaseException")=some true
 mo:mroIn K C (.type "object")=some true
 cl:findIn K (.ref C) "__class__" = some (some (.builtin "object.__class__"))
 cg:specialIn K (.builtin "object.__class__") "__get__" = some (some (.builtin "getset_descriptor.__get__"))
 ct:takesIn K (.builtin "object.__class__")=some true
section
variable {K:Frag}
theorem XFacts.cls (F:XFacts K C):∃ cd,clsIn K C=some cd:=by
 have:=F.mb;unfold mroIn at this;cases h:clsIn K C with
 | none=>rw[h] at this;cases this
 | some cd=>exact⟨cd,rfl⟩
theorem X5 (F:XFacts K C) (X:K.In s.heap) (I:InstAt s.heap x o C l) (h:Q (some (.ref C)) { s with toks:=s.toks+1 }):wpAny (model j w) A (getAttr? (.ref x) "__class__") Q E s:=by
 obtain⟨c,g,d,t,os⟩:=s;obtain⟨cd,b⟩:=F.cls;have k:findObj K C l "__class__" = some (.bind (.builtin "getset_descriptor.__get__") (.builtin "object.__class__")):=by
  unfold findObj;rw[b,F.cl];simp only[mX,F.cg,F.ct]
 have a:=I.type (M:=model j w);have e:=looks_findIn (M:=model j w) X F.ga;have L2:Looks (model j w) c (hookBefore (.ref C)) none:=looks_hook X F.gh;have f:=looks_find (M:=model j w) X I k;have i:Looks (model j w) c (isInstance (.ref x) (.type "BaseException")) true:=a.andThen (looks_mroIn X F.mb);have nb:(onTheHeap (Value.ref C)&&Value.builtin "BaseException.__getattribute__" == Value.builtin "object.__getattribute__")=false:=by
  rw[show (Value.builtin "BaseException.__getattribute__" == Value.builtin "object.__getattribute__")=false by decide +kernel];rfl
 unfold getAttr? getAttrBy? getAttrBy;refine aB (wpAny_mkText (aB (gH (cP (aB (a.at (aB (e.at ?_))))))));simp only[nb,cL,gQ];unfold getAttrByItsOwn;refine aB (L2.at (aB (gH (cP ?_))));unfold callGetattribute;simp only[Bool.false_and,cL,gQ];unfold boundAndCalled;rw[iH.ga.bind];refine aB (aF ?_);show wpAny _ _ (call (Value.builtin "BaseException.__getattribute__") [Value.ref x,Value.str "__class__" t]) _ _ _;refine iS (gY iH.ga.plain PySem.F.entry_bexc_ga (@check_slot (model j w) _ _ ⟨c,g,d,t+1,os⟩ "BaseException.__getattribute__" "BaseException" "__getattribute__" (.ref x) [.str "__class__" t] [] _ O0 N6 i (PySem.F.args_bexc_ga (.ref x) (.str "__class__" t)) ?_));unfold Builtin.«object.__getattribute__»;rw[Rk];refine aB (aF ?_);show wpAny _ _ (attrName (Value.str "__class__" t) >>= _) _ _ _;rw[show attrName (Value.str "__class__" t)=pure "__class__" from rfl];refine aB (aF (aB (a.at (aB (f.at ?_)))));show wpAny _ _ (bindTo (.builtin "getset_descriptor.__get__") (.builtin "object.__class__") (.ref x) (.ref C)) _ _ _;unfold bindTo;refine aB (cP (iS (class_get X I F.mo ?_)));refine aF ?_;show wpAny _ _ (handedOut (.ref C)) _ _ _;exact aF (aF h)
theorem Rs {K:Frag}{cd:ClassData}(h:clsIn K C=some cd):∃ c g j,K.lookup C=some ⟨c,g,.cls cd,j⟩:=by
 unfold clsIn at h;cases a:List.lookup C K with
 | none=>rw[a] at h;cases h
 | some o =>
  rw[a] at h;obtain⟨c,g,b,j⟩:=o;cases b<;>first | (cases h;done) | skip
  cases h;exact⟨c,g,j,rfl⟩
theorem kitx_exc (F:XFacts K C):KitX K (.ref x) (.ref C) (λh=>∃ j g,InstAt h x j C g) where
 ty:=λ_ _ _ ⟨_,_,I⟩=>I.type
 it:=λ_ _ X _=>by
  obtain⟨cd,a⟩:=F.cls;obtain⟨_,_,_,b⟩:=Rs a;intro f m i t k q;unfold isType loadHead;exact aB (wpAny_loadPart (k _ _ (X _ _ b)) (aF q))
 ne:=λh e s d n u X c=>by
  obtain⟨cd,a⟩:=F.cls;refine mR.mpr λq=>?_
  obtain rfl:C=e:=mV (iJ.mp q);obtain⟨_,_,_,b⟩:=Rs a;have z:=(X _ _ b).symm.trans c;cases z
 ca:=λX ⟨_,_,I⟩ k=>X5 F X I k
end
end PySem.W
namespace L2
open PySem PySem.Spec PyProof.Rows
section
variable {X:Cx}
theorem Ov {P:Ah}(j:pP P w H h) (r:H e=some (qR e (.ref C) p)) (hd:∀ g,p=some g->∃ fs,H g=some (.xd fs)):∃ I l,PySem.W.InstAt h e I C l:=by
 obtain⟨⟨f,s,a,b,c,d⟩,_⟩:=j e _ r;cases p with
 | none=>exact⟨f,none,a,b,by unfold PySem.W.notCls;rw[d],by rw[c];trivial⟩
 | some g =>
  obtain⟨fs,k⟩:=hd g rfl;obtain⟨q,⟨o,n,m,i,_⟩,_⟩:=j g _ k;exact⟨f,some o,a,b,by unfold PySem.W.notCls;rw[d],by rw[c];exact i⟩
def Vu (K:nH):Aa V->Hp->VK->Prop:=λi H Q=>∃ (e C:Ad) (h:Ab Ad) (c:V) (d:Ac) (b:Bool),i=[.ref e,c]/\((∃ a,c = .ref a/\d = .ref a)\/∃ n,c = .ty n/\d = .type n)/\H e=some (qR e (.ref C) h)/\(∀ f,h=some f->∃ fs,H f=some (.xd fs))/\PySem.W.XFacts K C/\PySem.W.kitOne K (.ref C) d=some b/\Q (.b b) H
theorem Xe:qC X (.builtin "isinstance") (Vu X.K):=by
 intro d s D H B A Q I r h;obtain⟨e,C,x,c,i,b,rfl,v,k,hd,F,m,q⟩:=h;obtain⟨u,w,rfl,t,f⟩:=uJ r;cases t;obtain rfl:w=i:=by
  rcases v with⟨a,rfl,rfl⟩ | ⟨n,rfl,rfl⟩
  .exact f
  .exact f
 exact eO (PySem.W.kitx_exc F) I.kIn (Ov I.hok k hd) m (λz=>nomatch z) λy=>⟨.b b,H,I.tok _,rfl,q⟩
theorem Tz:∀ {as:Aa Ad}{g:Aa Ac},oA (as.map V.ref) g->g=as.map Value.ref
 | [],_,r=>by cases r;rfl
 | a::as,_,r=>by
  cases r with
  | cons b c =>
   cases b;rw[Tz c];rfl
def S5 (K:nH):Aa V->Hp->VK->Prop:=λf H Q=>∃ (e C d:Ad) (c:Ab Ad) (as:Aa Ad) (b:Bool),f=[.ref e,.ref d]/\H d=some (.t (as.map V.ref))/\H e=some (qR e (.ref C) c)/\(∀ a,c=some a->∃ fs,H a=some (.xd fs))/\PySem.W.XFacts K C/\PySem.W.kitAny K (.ref C) (as.map Value.ref)=some b/\Q (.b b) H
theorem PN:qC X (.builtin "isinstance") (S5 X.K):=by
 intro f s P H O M Q I r h;obtain⟨e,C,D,G,as,b,rfl,m,i,hd,F,k,q⟩:=h;obtain⟨u,N,rfl,y,A⟩:=uJ r;cases y;cases A;obtain⟨_,t,B,⟨o,a,c,n,d⟩,_⟩:=I.hok D _ m;obtain⟨E,v,w,x⟩:=o;simp only at c d;subst c d;rw[Tz B] at a;exact PySem.W.kia_tup (PySem.W.kitx_exc F) I.kIn (Ov I.hok i hd) a k (λz=>nomatch z) λL=>⟨.b b,H,I.tok _,rfl,q⟩
theorem EK {h:Ag}{a:Ad}{g:Af->Ab Ac}{o:Obj}{name:Af}{u:Ac}(j:h.Ns1 a g) (l:h.get? a=some o) (p:g name=some u):PySem.W.lookIn name o=some (some u):=by
 obtain⟨s,i,q,c,d,k,m,f⟩:=j;rw[l] at c;cases c;have z:=f name;rw[p] at z;unfold nsFind findBy at z;rw[<- mG] at z;unfold PySem.W.lookIn;rw[d];cases b:i.toList.find? (λe=>e.key.isStr name) with
 | none=>rw[b] at z;cases z
 | some n=>rw[b] at z;simp only[Option.map_some,jM] at z;simp only[b,z]
theorem LI (r:nO v u):PySem.W.handedIn u=true:=by
 cases v with
 | e=>cases r;rfl
 | b _=>cases r;rfl
 | int _=>obtain⟨t,rfl⟩:=r;rfl
 | str _=>obtain⟨t,rfl⟩:=r;rfl
 | byt _=>obtain⟨t,rfl⟩:=r;rfl
 | flt _=>obtain⟨t,rfl⟩:=r;rfl
 | ref _=>cases r;rfl
 | ty _=>cases r;rfl
def Sv (K:nH) (g:TE) (f:Af):TE:=λd H Q=>g d H λx a=>∃ (e C N b:Ad) (c:Aa Ac) (i:Ab Ac) (fs:Aa (Af×V)) (v:V),x = .ref e/\a e=some (qR e (.ref C) (some b))/\a b=some (.xd fs)/\fs.lookup f=some v/\PySem.W.XFacts K C/\sI K C N c i=true/\PySem.W.findIn K (.ref C) f=some none/\Q v a
theorem FV (j:PE X e r) (g:attributeBase e f X.env (eval e X.env)=eval e X.env):PE X (.Attribute e f pos) (Sv X.K r f):=by
 intro c s T H Q I h;refine Attribute_any_ (nL (j c s T H _ I h) λu p V=>?_) (by rw[arm_eval_Attribute,g]);obtain⟨x,B,d,l,k,C,N,D,U,i,fs,v,E,M,O,P,F,J,fn,q⟩:=V;subst E;obtain rfl:u=Value.ref k:=l;obtain⟨⟨Z,vs,g1,g2,g3,L⟩,_⟩:=d.hok k _ M;obtain⟨mA,a,b⟩:=d.hok D _ O;have z:=b f;rw[P] at z;obtain⟨y,G,A⟩:=z.some_of;obtain⟨o,es,ep,w,m⟩:=id a;have Y:=EK a w G;obtain⟨cd,n,t,S⟩:=Wi J;have inst:PySem.W.InstAt p.heap k Z C (some o):=⟨g1,g2,by unfold PySem.W.notCls;rw[L],by rw[g3];exact w⟩;have R:PySem.W.findObj X.K C (some o) f=some (.value y):=by
  unfold PySem.W.findObj PySem.W.ownOf;rw[n,fn];simp only[mX,t,jS,Y]
 exact PySem.W.x_attr d.kIn inst F.ga F.gh F.mb R (LI A) ⟨v,B,d.tok _,A,q⟩
end
end L2
namespace PySem
section
variable {os:OsState}
variable {sub:Aa Ac}
theorem Y4 (Fn:ExcBaseFacts Bn j ag ae) (J:l.contains (.type Bn)=true) (F:ExcBaseFacts B ah U l) (T:OwnTail h l bm)
  (p:h.get? C=some (excClassObj nm q C N bs bm aa sn sub ab af dd k0 k1 k2 k3 k5 j)) (cN:h.Ns N mN) (ci:mN "__init__" = none) (hz:args.length<=sizeLine)
  (k:∀ I e t',h.objs.size<=e->I.get? e=some (rV C t')->(∀ b o,h.get? b=some o->I.get? b=some o)->Q (.done (.ret (.ref e))) ⟨I,g,d,t,os⟩) :
  wpAny (model ac w) A (Builtin.«type.__call__» ⟨.ref C::args,[]⟩) Q E ⟨h,g,d,t,os⟩:=by
 repeat (first | with_reducible refine gL p ?_ | with_reducible refine wpAny_madeBy_exc p ?_ | wp_step)
 refine codeAny_call_builtin_code (kC _ Fn.quiet) (wpAny_check_new_subU Fn J T p (codeAny_exc_new_subU Fn J F T p ?_ hz));show wpAny _ _ _ _ _ _;have up:∀ b o,h.get? b=some o->((h.push (A4 args)).push (rV C h.objs.size)).get? b=some o:=λb o z=>aD _ (aD _ z)
 have ge:((h.push (A4 args)).push (rV C h.objs.size)).get? (h.objs.size+1)=some (rV C h.objs.size):=kP (by rw[kQ]) rfl;have a:=up C _ p;have c:((h.push (A4 args)).push (rV C h.objs.size)).Ns N mN:=let ⟨o,n,m,e,r⟩:=cN;⟨o,n,m,up _ _ e,r⟩;have own:(Value.ref C::bm).contains (.ref C)=true:=by simp
 unfold isInstance
 repeat (first | with_reducible refine gL ge ?_ | (with_reducible refine lY a ?_;rw[own]) | wp_step)
 show wpAny _ _ (typeLookup (.ref C) _) _ _ _;refine wpAny_typeLookup_tail a c (T.keeps up) F.mroIs F.init.lookup ?_;rw[ci];refine cP (aB (iD (F.init.bind _) ?_));refine aB (Qo F (T.keeps up) hz a ge λI t' f s=>?_)
 wp_walk
 refine k I _ t' (gX _) f λb o i=>s b o (λz=>?_) (up b o i)
 have:=aZ i;rw[z] at this;exact absurd this (lK.mpr (gX _))
theorem PH (Fn:ExcBaseFacts Bn j ag ae) (J:l.contains (.type Bn)=true) (F:ExcBaseFacts B ah I l) (T:OwnTail h l bm)
  (r:h.get? C=some (excClassObj nm q C N bs bm aa sn sub ab af dd k0 k1 k2 k3 k5 j)) (cN:h.Ns N mN) (ci:mN "__init__" = none) (hz:args.length<=sizeLine)
  (k:∀ p e U,h.objs.size<=e->p.get? e=some (rV C U)->(∀ b o,h.get? b=some o->p.get? b=some o)->Q (.ref e) ⟨p,g,d,t,os⟩) :
  wpAny (model ac w) A (call (.ref C) args) Q E ⟨h,g,d,t,os⟩:=by
 have a:=tc_lookup;have c:=tc_bind (.ref C);have f:(⟨h,g,d,t,os⟩:Ae).TypeIs (.ref C) "type" := ⟨_,r,rfl⟩;refine iS (codeAny_of_tree ?_);show wpAny _ _ (callAny (.ref C) _) _ _ _
 repeat (any_goals (first | assumption | with_reducible refine gL r ?_ | wp_step))
 exact⟨rfl,codeAny_call_builtin_at (kC _ (by decide +kernel)) entry_typeCall (wpAny_check_type_call_sub r (Y4 Fn J F T r cN ci hz λp e U a c f=>k p e U a c f))⟩
end
end PySem
namespace L2
open PySem PySem.Spec PyProof.Rows
noncomputable def Mu (o:Ab Af) (N:Aa Af) (kind:Af->Ab NameKind) (g:Scope) (T j:Aa Af) (l:Aa Nat):Bool :=
 decide (g.names.filter (λp=>p.2 == .cell)=o.toList.map λn=>(n,NameKind.cell))&&o.all (λa=>g.names.lookup a == some .cell)&&g.names.all (λp=>p.2 != .free||kind p.1 == some .cell) &&
 g.names.all (λp=>p.2 != .local||g.names.lookup p.1 == some .local) &&
 (j.zip l).all (λp=>decide (N[p.2]?=some p.1)&&g.names.lookup p.1 == some .free)&&j.length == l.length
abbrev Bv:=Mu none
noncomputable def tX (T:Aa Af) (g:Aa Nat) (j:St):St:=T.map (λ_=>none)++g.map (λi=>(j[i]?).join)
noncomputable def rX (X:Cx) (p:Aa Af) (g:Scope) (o:Aa (Af×Ad)) (C:Ad) (l:Ae) (j:Hp) (r:Aa Ad):Cx :=
 { prog:=X.prog,w:=X.w,K:=X.K,mg:=X.mg,base:=X.base,A:=X.A,N:=p,s₀:=l,H₀:=j,env:=compEnvC g o C X.env,outer:=X.stack,stack:=X.stack,ex:=r, fn:=λx=>(o.lookup x).isNone,calm:=X.calm,pn:=[],xe:=λ_ _=>False }
def wB (X:Cx) (g:Aa Expr) (t:TT):Prop :=
 ∀ (a:Aa (Ad×Obj)) (s:Ae) (b:St) (H:Hp) (Q:Bool->Hp->Prop),Inv X a b H s->t b H Q ->
  wpAny (model X.prog X.w) X.A (forIn g true λc r=>if r=true then do let ok <- isTrue c X.env (eval c X.env);pure (ForInStep.yield ok) else pure (ForInStep.yield r)) (TP X a b Q) X.xe s
def I3:TT:=λ_ H Q=>Q true H
theorem R6 {X:Cx}:wB X [] I3:=λa s b H Q I h=>wpAny_tests_nil ⟨H,I,h⟩
theorem Xd {X:Cx}(h:PT X c t):wB X [c] t:=λa s b H Q I hw=>wpAny_tests_one (h a s b H Q I hw)
def C5 (T:Aa Af) (j:Aa Nat) (J:It) (g:TG) (r:TT) (p:TE) (C:St) (o:Hp) (Q:VK) (D:Ad):Prop :=
 ∃ W:Nat->Nat->Aa V->St->Hp->Prop,(∃ m,W 0 m [] (tX T j C) (upd o D (.l [])))/\∀ i m c h d,W i m c h d ->
  (J.stop i d/\Q (.ref D) d)\/(J.go i d/\∃ (N:St->V->Hp->Prop) (F:St->Hp->Prop),(∀ a v k,N a v k->k D=some (.l c)/\c.length<sizeLine/\∃ f,f<m/\W (i+1) f (c++[v]) a (upd k D (.l (c++[v]))))/\(∀ a e,F a e->∃ f,f<m/\W (i+1) f c a e) /\ ∀ x n,J.yld i d x n->g x h n λa q=>r a q λb e=>if b=true then p a e (N a) else F a e)
def Co (T:Aa Af) (j:Aa Nat) (p:TI) (g:TG) (o:TT) (l:TE):TE:=λb H Q=>p b H λJ a=>∀ D,a D=none->C5 T j J g o l b a Q D
theorem Kd:∀ (names:Aa (Af×NameKind)) (g:Aa (Af×Ad)),(∀ p∈names,p.2 = .free->∃ c,env.cells.lookup p.1=some c) ->
  (∀ x c,g.lookup x=some c->env.cells.lookup x=some c) ->
  ∃ j,(forIn names g λx r=>if (x.2 == NameKind.free)=true then (cellOf env x.1 >>= λa=>pure (ForInStep.yield ((x.1,a)::r))) else pure (ForInStep.yield r):Sem (Aa (Af×Ad)))=pure j /\
   (∀ x c,j.lookup x=some c->env.cells.lookup x=some c)/\(∀ x,(x,NameKind.free)∈names->(j.lookup x).isSome=true)/\(∀ x,(g.lookup x).isSome=true->(j.lookup x).isSome=true)
 | [],g,_,i=>⟨g,rfl,i,λx h=>by simp at h,λ_ h=>h⟩
 | (n,k)::r,g,v,i=>by
  by_cases w:k = .free
  .subst w;obtain⟨c,z⟩:=v (n,.free) aI rfl;have u:∀ x d,((n,c)::g).lookup x=some d->env.cells.lookup x=some d:=by
    intro x d h;rw[dH] at h;cases e:x == n with
    | true=>rw[e] at h;have:=iJ.mp e;subst this;cases h;exact z
    | false=>rw[e] at h;exact i x d h
   obtain⟨j,m,s,t,f⟩:=Kd r ((n,c)::g) (λp y=>v p (aV _ y)) u;have A:(((n,c)::g).lookup n).isSome=true:=by rw[dH];simp
   refine⟨j,?_,s,λx b=>?_,λx b=>f x ?_⟩
   .rw[nE];simp only[iZ,jS];have:cellOf env n=pure c:=by unfold cellOf;rw[z]
    rw[this];exact m
   .rcases aM.mp b with q | q
    .cases q;exact f _ A
    .exact t x q
   .rw[dH];cases e:x == n with
    | true=>rfl
    | false=>exact b
  .obtain⟨j,m,s,t,f⟩:=Kd r g (λp y=>v p (aV _ y)) i;refine⟨j,?_,s,λx b=>?_,f⟩
   .rw[nE];have:(k == NameKind.free)=false:=by simpa using w
    simp only[this,cL,gQ];exact m
   .rcases aM.mp b with q | q
    .cases q;exact absurd rfl w
    .exact t x q
theorem RC (o:∀ p∈g.names,p.2 = .free->∃ c,j.cells.lookup p.1=some c) :
  ∃ l,closureFor g j=pure l/\(∀ x c,l.lookup x=some c->j.cells.lookup x=some c)/\(∀ x,(x,NameKind.free)∈g.names->(l.lookup x).isSome=true):=by
 obtain⟨l,e,d,f,_⟩:=Kd (env:=j) g.names [] o (λx c h=>by simp at h);refine⟨l,?_,d,f⟩;simp only[closureFor];have b:(forIn g.names [] λx r=>if (x.2 == NameKind.free)=true then (cellOf j x.1 >>= λa=>pure (ForInStep.yield ((x.1,a)::r))) else pure (ForInStep.yield r):Sem (Aa (Af×Ad)))=pure l:=e
 first
  | exact b
  | (simp only[bind_pure];exact b)
theorem NN (h:g.names.lookup x=some k):∃ j,(relabel g env).names.lookup x=some j/\(j=k\/(k = .free/\j = .cell)):=by
 have:∀ names:Aa (Af×NameKind),names.lookup x=some k->∃ j,(names.map λ(p:Af×NameKind)=>match p with | (n,k)=>if (k == NameKind.free&&env.scope.kind == .function&&env.kindOf n == some .cell) then (n,NameKind.cell) else (n,k)).lookup x=some j/\(j=k\/(k = .free/\j = .cell)):=by
  intro names;induction names with
  | nil=>intro h;simp at h
  | cons p r b =>
   obtain⟨n,c⟩:=p;intro h;rw[bD];by_cases a:(c == NameKind.free&&env.scope.kind == .function&&env.kindOf n == some .cell)=true
   .simp only[a,jS];rw[dH] at h |-;cases e:x == n with
    | true =>
     rw[e] at h;cases h;have:k=NameKind.free:=by
      have:=(cX _ _).mp ((cX _ _).mp a).1;exact iJ.mp this.1
     exact⟨_,rfl,.inr ⟨this,rfl⟩⟩
    | false=>rw[e] at h;exact b h
   .simp only[a,gQ];rw[aG (by simp)];rw[dH] at h |-;cases e:x == n with
    | true=>rw[e] at h;cases h;exact⟨_,rfl,.inl rfl⟩
    | false=>rw[e] at h;exact b h
 exact this g.names h
theorem Z1 {R:Result->Ae->Prop}{iter:Expr}(I:Nat->Ae->Prop)
  (ae:∀ n s,I n s->wpAny (model g w) A (pyNext it) (λr l=>match r with
   | none=>R (.ok .next) l
   | some v=>wpAny (model g w) A (letOwnedTupleGo target it v) (λ_ o=>wpAny (model g w) A (assign target j v) (λ_ C =>
     wpAny (model g w) A (forIn ac true λc r=>if r=true then do let ok <- isTrue c j (eval c j);pure (ForInStep.yield ok) else pure (ForInStep.yield r)) (λok p =>if ok=true then wpAny (model g w) A (eval ab j) (λx J =>wpAny (model g w) A (call (.builtin "list.append") [aa,x]) (λ_ T=>∃ m,m<n/\I m T) (λ_ _=>False) J) (λ_ _=>False) p else ∃ m,m<n/\I m p) (λ_ _=>False) C) (λ_ _=>False) o) (λ_ _=>False) l) (λ_ _=>False) s)
  (n:Nat) (h:I n s) :
  codeAny (model g w) A (.compLoop (.ListComp ab [⟨target,iter,ac,0⟩] U pos) 0 it aa j) R s:=by
 refine codeAny_loop rfl I (λn s q=>?_) n h;show wpAny _ A ((compTurn (.ListComp ab [⟨target,iter,ac,0⟩] U pos) 0 it aa j).onRaise (λx=>do noteFrame x j;theTreesLotGoes x)) _ _ s;refine wpAny_noted ?_;rw[compTurn_list];refine aB (iR (aB (cZ (ae n s q) (λr l b=>?_) λ_ _ a=>a.elim)));cases r with
 | none=>exact aF b
 | some v =>
  refine aB (cZ b (λ_ o e=>?_) λ_ _ a=>a.elim);refine aB (cZ e (λ_ C f=>aB (cZ f (λok p d=>?_) λ_ _ a=>a.elim)) λ_ _ a=>a.elim);cases ok with
  | false=>exact aF ⟨rfl,d⟩
  | true =>
   exact aB (aB (cZ d (λx J i=>aB (cZ i (λ_ T k=>aF (aF ⟨rfl,k⟩)) λ_ _ a=>a.elim)) λ_ _ a=>a.elim))
structure LcO (nw:Option Str) (N:List Str) (kind:Str->Option NameKind) (scope:Scope) (capN:List Str) (caps:List Nat):Prop where
 one:scope.names.filter (λp=>p.2 == .cell)=nw.toList.map λn=>(n,NameKind.cell)
 cel:∀ nm,nw=some nm->scope.names.lookup nm=some .cell
 free:∀ p∈scope.names,p.2 = .free->kind p.1=some .cell
 loc:∀ p∈scope.names,p.2 = .local->scope.names.lookup p.1=some .local
 cap:∀ (j:Nat) (x:Str),capN[j]?=some x->∃ i:Nat,caps[j]?=some i/\N[i]?=some x/\scope.names.lookup x=some .free
 len:capN.length=caps.length
theorem Vr (h:Mu r N kind o T l g=true):LcO r N kind o l g:=by
 unfold Mu at h;simp only[cX] at h;obtain⟨⟨⟨⟨⟨d,c⟩,f⟩,k⟩,m⟩,n⟩:=h;have q:l.length=g.length:=iJ.mp n;refine⟨fU d,λu e=>?_,λp a e=>?_,λp a e=>?_,λj x e=>?_,q⟩
 .rw[e] at c;exact iJ.mp c
 .have:=gB.mp f p a;rw[e] at this
  simpa using this
 .have:=gB.mp k p a;rw[e] at this
  simpa using this
 .have t:j<l.length:=(aP.mp e).1;have b:g[j]?=some (g[j]'(by omega)):=aH (by omega);have s:(x,g[j]'(by omega))∈l.zip g:=aK (i:=j) (by rw[jT];exact⟨e,b⟩);have:=gB.mp m _ s;simp only[cX,eT,iJ] at this;exact⟨_,b,this.1,this.2⟩
theorem LcO.only (h:LcO o N kind g j l) (x:Af) (e:g.names.lookup x=some .cell):o=some x:=by
 have a:(x,NameKind.cell)∈g.names.filter (λp=>p.2 == .cell):=bR.mpr ⟨eQ e,rfl⟩;rw[h.one] at a;cases o with
 | none=>cases a
 | some n=>rw[(Prod.mk.inj (aJ.mp a)).1]
theorem Sx:∀ {g:Scope},(relabel g j).names.lookup x=some k->(k = .cell\/k = .free)->g.names.lookup x=some .cell\/g.names.lookup x=some .free:=by
 intro g;unfold relabel;have all:∀ names:Aa (Af×NameKind),(names.map λ(n,k)=>if (k == NameKind.free&&j.scope.kind == .function&&j.kindOf n == some .cell) then (n,NameKind.cell) else (n,k)).lookup x=some k->(k = .cell\/k = .free)->names.lookup x=some .cell\/names.lookup x=some .free:=by
  intro names;induction names with
  | nil=>intro h _;simp at h
  | cons p r d =>
   intro h b;obtain⟨n,e⟩:=p;rw[bD] at h;rw[dH];cases c:x == n with
   | true =>
    by_cases a:(e == NameKind.free&&j.scope.kind == .function&&j.kindOf n == some .cell)=true
    .simp only[cX,iJ] at a;exact .inr (by rw[a.1.1])
    .simp only[a,cL,gQ,dH,c] at h;cases h;rcases b with q | q
     .exact .inl (by rw[q])
     .exact .inr (by rw[q])
   | false =>
    by_cases a:(e == NameKind.free&&j.scope.kind == .function&&j.kindOf n == some .cell)=true
    .simp only[a,jS,dH,c] at h;exact d h b
    .simp only[a,cL,gQ,dH,c] at h;exact d h b
 exact all g.names
theorem Nd:∀ (names:Aa (Af×NameKind)) (n:Nat) (g:Aa (Af×Ad)) (h:Ag),names.filter (λp=>p.2 == .cell)=[]->cellsFrom n names g=g/\pushCells h names=h
 | [],_,_,_,_=>⟨rfl,rfl⟩
 | (y,k)::r,n,g,h,e=>by
  unfold cellsFrom pushCells;by_cases a:(k == NameKind.cell)=true
  .rw[eX (by exact a)] at e;cases e
  .rw[gC (by exact a)] at e;rw[aG a,aG a];exact Nd r n g h e
theorem O7:∀ (names:Aa (Af×NameKind)) (n:Nat) (g:Aa (Af×Ad)) (h:Ag),names.filter (λp=>p.2 == .cell)=[(j,.cell)]->cellsFrom n names g=(j,n)::g/\pushCells h names=h.push { cls:=.type "cell",data:=.cell none }
 | [],_,_,_,e=>by cases e
 | (y,k)::r,n,g,h,e=>by
  unfold cellsFrom pushCells;by_cases a:(k == NameKind.cell)=true
  .rw[eX (by exact a)] at e;have b:=(mW e).1;have c:=(mW e).2;rw[aQ a,aQ a];have:=Nd r (n+1) ((y,n)::g) (h.push { cls:=.type "cell",data:=.cell none }) c;rw[this.1,this.2,(Prod.mk.inj b).1];exact⟨rfl,rfl⟩
  .rw[gC (by exact a)] at e;rw[aG a,aG a];exact O7 r n g h e
def B5 (g:Ab Af) (C:Ad):Aa (Af×Ad):=match g with
 | none=>[]
 | some a=>[(a,C+1)]
theorem Zr {globals:Ad}(one:g.names.filter (λp=>p.2 == .cell)=T.toList.map λn=>(n,NameKind.cell))
  (h:∀ j,j.Ns s.heap.objs.size (λ_=>none)->(∀ J,T=some J->j.IsCell (s.heap.objs.size+1) none)->(∀ b o,s.heap.get? b=some o->j.get? b=some o) ->Q { scope:=g,locals:=s.heap.objs.size,globals:=globals,cells:=B5 T s.heap.objs.size++r,qual:=C,func:=none,code:=l.code,frame:=l.frame,builtins:=l.builtins } { s with heap:=j }) :
  wpAny M A (newFunctionEnv g globals r [] C none .none (some l)) Q E s:=by
 simp only[newFunctionEnv,mK,jS];refine aB (wpAny_alloc ?_);refine aB (wpAny_layCells _ (λname kind I=>by cases i:kind == NameKind.cell<;>simp[i]) _ _ _ _ ?_);have z:(s.heap.push { cls:=.type "dict",data:=.dict #[] }).objs.size=s.heap.objs.size+1:=kQ ..;have a:=Heap.Ns.new s.heap (.type "dict");show wpAny M A _ Q E _;cases T with
 | none =>
  obtain⟨c,f⟩:=Nd g.names (s.heap.push { cls:=.type "dict",data:=.dict #[] }).objs.size r (s.heap.push { cls:=.type "dict",data:=.dict #[] }) one;rw[c,f];exact aB (aF (aF (h _ a (λ_ e=>nomatch e) λb o e=>aD _ e)))
 | some J =>
  obtain⟨c,f⟩:=O7 g.names (s.heap.push { cls:=.type "dict",data:=.dict #[] }).objs.size r (s.heap.push { cls:=.type "dict",data:=.dict #[] }) one;have d:cellsFrom ({ s with heap:=s.heap.push { cls:=.type "dict",data:=.dict #[] } }:Ae).heap.objs.size g.names r=(J,s.heap.objs.size+1)::r:=by rw[<- z];exact c
  rw[d,f];refine aB (aF (aF (h _ (a.keeps λb o e=>aD _ e) (λ_ _=>?_) λb o e=>aD _ (aD _ e))));exact⟨_,by rw[<- z];exact bF _ rfl,rfl⟩
noncomputable def QI (j:Ab Af) (g:Aa (Af×Ad)):Af->Bool:=match j with
 | none=>λx=>(g.lookup x).isNone
 | some a=>λx=>x == a||(g.lookup x).isNone
def xH (p:Ab Af) (X:Cx) (r:Aa Af) (g:Scope) (o:Aa (Af×Ad)) (C:Ad) (l:Ae) (j:Hp) (I:Aa Ad):Cx :=
 { prog:=X.prog,w:=X.w,K:=X.K,mg:=X.mg,base:=X.base,A:=X.A,N:=r,s₀:=l,H₀:=j,env:=compEnvC g (B5 p C++o) C X.env,outer:=X.stack,stack:=X.stack,ex:=I, fn:=QI p o,calm:=X.calm,pn:=[],xe:=λ_ _=>False }
section
variable {X:Cx}
theorem Inv.moved {t':Nat}{fp:Aa Ad}(I:Inv X g p H s) (j:∀ b∈fp,uT X g H b) (k:∀ b o,b∉fp->s.heap.get? b=some o->l.get? b=some o):Inv X g p H { s with heap:=l,toks:=t' }:=by
 have d:∀ b u,H b=some u->b∉fp:=λb u e z=>by rw[(j b z).1] at e;cases e
 refine I.step (g':=s.gens) (d':=s.drawn) (ch:=fp) (λb f=>⟨(j b f).2.2.2.1,(j b f).2.1,(j b f).2.2.2.2.1,(j b f).2.2.2.2.2⟩) (λb o _ _ a e _=>k b o a e) (λb o _ _ a e _=>⟨o.slots,k b o a e⟩) (λ_ _ _ _ n=>n)
  (λb o a e=>⟨o,k b o a e⟩) (λ_ _ e=>e) (λ_ _ _ e=>e) (λb x e=>⟨#[],by rw[e];simp⟩) (λm t=>?_) (λb u e=>?_) I.bare
 .obtain⟨o,i,h,w,r⟩:=t;exact⟨o,i,h,k _ o (λz=>(j _ z).2.1 rfl) w,r⟩
 .refine (I.hok b u e).stay (λc v a q=>k c v ?_ q) (λ_ q=>q) λ_ _ q=>q
  rcases a with z | z
  .rw[z];exact d b u e
  .exact d c _ z
end
section
variable {X:Cx}
theorem So {iter:Expr}(T U:Aa Af) (aa:Aa Nat) (hc:X.calm=true) (hi:PI X tg iter wi)
  (hk:j.kind = .function) (O:LcO nw X.N X.env.kindOf j U aa)
  (hg:∀ ae ab C cl fp,PG (xH nw X (T++U) j cl C ae ab fp) tg g)
  (ht:∀ ae ab C cl fp,wB (xH nw X (T++U) j cl C ae ab fp) af tt)
  (he:∀ ae ab C cl fp,PE (xH nw X (T++U) j cl C ae ab fp) a4 te)
  (hs:∀ x,foldedSetIterable iter X.env x=pure x)
(I:Inv X ac σ H s) (h:Co T aa wi g tt te σ H Q)
  (fin:∀ (C D:Ad) (s6:Ae) (H5:Hp),Inv X ac σ H5 s6->Q (.ref D) H5->uT X ac H5 C->(∃ m,s6.heap.Ns C m)->compPost (model X.prog X.w) X.A X.xe a2 Qs (.ref D) C (.ok .next) s6) :
  wpAny (model X.prog X.w) X.A (comprehension (.ListComp a4 [⟨tg,iter,af,0⟩] j pos) j X.env (firstIterPos [⟨tg,iter,af,0⟩] pos) (newList []) (firstAsync [⟨tg,iter,af,0⟩]) (firstIter [⟨tg,iter,af,0⟩] X.env) a2) Qs X.xe s:=by
 have ax:∀ p∈j.names,p.2 = .free->∃ c,X.env.cells.lookup p.1=some c:=λp hp e=>I.ok.has p.1 (.inl (O.free p hp e))
 obtain⟨cl,aw,P,a3⟩:=RC ax;refine wpAny_comprehension_free (use:=a2) rfl hs aw hk O.loc (nL (hi ac s σ H _ I h) λv s1 h1=>nL h1 λb3 s2 h2=>?_);obtain⟨it,fp,tn,J,H2,rfl,I2,B,st2,f2,hD⟩:=h2;refine hU ?_;have f:Inv X ac σ (upd H2 s2.heap.objs.size (.l [])) { s2 with heap:=s2.heap.push { cls:=.type "list",data:=.seq ([]:Aa Ac).toArray } }:=I2.lnew (t':=s2.toks) (its:=[]) (ys:=[]) .nil (gA _);have fD:H2 s2.heap.objs.size=none:=I2.fresh;obtain⟨W,⟨m0,w0⟩,ao⟩:=hD s2.heap.objs.size fD;generalize bn:s2.heap.objs.size=D at f fD w0 ao |-;have bx:tn 0 (s2.heap.push { cls:=.type "list",data:=.seq ([]:Aa Ac).toArray }):=B.keep _ _ _ st2 λb _ o e=>aD _ e
 have a9:∀ b∈fp,b<D:=λb a=>by
  obtain⟨o,e,_⟩:=B.obj _ _ st2 b a;rw[<- bn];exact aZ e
 generalize br:({ s2 with heap:=s2.heap.push { cls:=.type "list",data:=.seq ([]:Aa Ac).toArray } }:Ae)=K at f |-;have ag:tn 0 K.heap:=by rw[<- br];exact bx
 generalize bo:upd H2 D (.l [])=M at f w0;have f3:∀ b∈fp,uT X ac M b:=λb a=>by
  obtain⟨z0,z⟩:=f2 b a;exact⟨by rw[<- bo,nP (cD (a9 b a))];exact z0,z⟩
 refine Zr O.one (λZ V S old=>?_);have av:M K.heap.objs.size=none:=f.fresh;have ak:M (K.heap.objs.size+1)=none:=f.hok.fresh (gX _);generalize hC:K.heap.objs.size=C at V S av ak |-;have ba:∀ b o,K.heap.get? b=some o->b≠C:=λb o e=>by rw[<- hC];exact cD (aZ e)
 have a5:∀ b∈fp,b≠C:=λb a=>by
  obtain⟨o,e,_⟩:=B.obj _ _ ag b a;exact ba b o e
 have a6:∀ b∈fp,b∉uV X.stack:=λb a z=>by
  rcases aM.mp (f.stkSub b z) with q | q
  .exact (f3 b a).2.1 q
  .exact (f3 b a).2.2.1 q
 have bj:∀ b∈fp,b<C:=λb a=>by
  obtain⟨o,e,_⟩:=B.obj _ _ ag b a;rw[<- hC];exact aZ e
 have look:∀ x c,(B5 nw C++cl).lookup x=some c->(nw=some x/\c=C+1)\/(nw≠some x/\cl.lookup x=some c):=λx c e=>by
  cases nw with
  | none=>exact .inr ⟨(λz=>nomatch z),e⟩
  | some nm =>
   have e:((nm,C+1)::cl).lookup x=some c:=e;rw[dH] at e;cases a:x == nm with
   | true=>rw[a] at e;cases e;exact .inl ⟨by rw[iJ.mp a],rfl⟩
   | false=>rw[a] at e;exact .inr ⟨(λz=>by cases z;simp at a),e⟩
 have lift:∀ x c,nw≠some x->cl.lookup x=some c->(B5 nw C++cl).lookup x=some c:=λx c n e=>by
  cases nw with
  | none=>exact e
  | some nm =>
   show ((nm,C+1)::cl).lookup x=some c;rw[dH,show (x == nm)=false from eP.mpr λz=>n (by rw[z])];exact e
 have ai:∀ x c,cl.lookup x=some c->c<C:=λx c e=>by
  obtain⟨v,o,ho,_⟩:=f.cell x c (P x c e);rw[<- hC];exact aZ ho
 have aj:∀ b∈fp,∀ x c,(B5 nw C++cl).lookup x=some c->c≠b:=λb a x c e=>by
  rcases look x c e with⟨_,q⟩ | ⟨_,q⟩
  .exact λz=>absurd (bj b a) (by rw[<- z,q];exact lK.mpr (gX C))
  .exact (f3 b a).2.2.2.2.1 x c (P x c q)
 have a8:(xH nw X (T++U) j cl C K M fp).Ok:=by
  refine⟨f.ok.mod,hk,f.ok.glob,f.ok.blt,mD hC,λx y c R E=>?_,λx hx=>?_,λx c R E=>?_,f.ok.hd,f.ok.frames,.inl rfl,λb a=>⟨a5 b a,λx c e=>aj b a x c e⟩,λb o e=>f.bs b o e,?_,λb o e z=>?_,λb a=>a6 b a,f.stack,f.stkFree⟩
  .rcases look x c R with⟨q1,r1⟩ | ⟨q1,r1⟩
   .rcases look y c E with⟨q2,r2⟩ | ⟨q2,r2⟩
    .exact bV (q1.symm.trans q2)
    .exact absurd (ai y c r2) (by rw[r1];exact lK.mpr (gX C))
   .rcases look y c E with⟨q2,r2⟩ | ⟨q2,r2⟩
    .exact absurd (ai x c r1) (by rw[r2];exact lK.mpr (gX C))
    .exact f.ok.inj x y c (P x c r1) (P y c r2)
  .have bt:(relabel j X.env).names.lookup x=some .cell\/(relabel j X.env).names.lookup x=some .free:=hx;have hf:j.names.lookup x=some .cell\/j.names.lookup x=some .free:=by
    rcases bt with q | q
    .exact Sx q (.inl rfl)
    .exact Sx q (.inr rfl)
   show ∃ c,(B5 nw C++cl).lookup x=some c;by_cases a:nw=some x
   .subst a;exact⟨C+1,by show ((x,C+1)::cl).lookup x=_;rw[dH,iZ]⟩
   .rcases hf with q | q
    .exact absurd (O.only x q) a
    .obtain⟨c,e⟩:=dR.mp (a3 x (eQ q));exact⟨c,lift x c a e⟩
  .rcases look x c E with⟨q,r⟩ | ⟨q,r⟩
   .show K.heap.objs.size<=c;rw[r,hC];exact gX C
   .cases nw with
    | none =>
     have R:(cl.lookup x).isNone=true:=R;rw[r] at R;cases R
    | some nm =>
     have R:(x == nm||(cl.lookup x).isNone)=true:=R;rw[r,show (x == nm)=false from eP.mpr λz=>q (by rw[z])] at R;cases R
  .exact bS f.ok.bsz f.sz
  .obtain⟨z0,z1,z2,z3,_⟩:=f3 b z;rcases z3 with q | q
   .exact f.ok.noex b o e q
   .exact absurd (bT (aZ e) (bS f.ok.bsz q)) (dN _)
 have I4:Inv (xH nw X (T++U) j cl C K M fp) [] (tX T aa σ) M { K with heap:=Z }:=by
  refine⟨a8,rfl,f.bare,Un.kept old,⟨_,V,λi x v R E e3=>?_⟩,λx c e=>?_,av,λx c e=>?_,λp hp=>absurd (show p∈([]:Aa (Ad×Obj)) from hp) (by simp),f.hok.kept old,?_⟩
  .have R:(T++U)[i]?=some x:=R;unfold tX at E;by_cases hi:i<T.length
   .rw[gO (by simpa using hi),bH] at E;cases q:T[i]? with
    | none=>rw[q] at E;cases E
    | some z=>rw[q] at E;cases E
   .rw[dZ (by omega)] at R;rw[dZ (by simpa using hi),bH,aA] at E;obtain⟨k,k1,k2,k3⟩:=O.cap _ x R;rw[k1] at E;have E:(σ[k]?).join=some v:=bV E;have bi:σ[k]?=some (some v):=by
     cases q:σ[k]? with
     | none=>rw[q] at E;cases E
     | some z=>rw[q] at E;exact cA some E
    have Y:X.env.kindOf x=some .cell:=O.free (x,.free) (eQ k3) rfl;obtain⟨m,hn,hl⟩:=f.loc;obtain⟨u,r,l⟩:=hl k x v k2 bi (.inr (.inl Y));refine⟨u,r,.inr ⟨?_,?_⟩⟩
    .obtain⟨k',e5,e6⟩:=NN (env:=X.env) k3;rcases e6 with z | ⟨_,z⟩
     .subst z;exact .inr e5
     .subst z;exact .inl e5
    .rcases l with⟨l1,_⟩ | ⟨_,c,e7,o,ay,az⟩
     .rw[Y] at l1;cases l1
     .obtain⟨c',e8⟩:=dR.mp (a3 x (eQ k3));have:=P x c' e8;rw[e7] at this;cases this;exact⟨c,lift x c (λz=>by rw[O.cel x z] at k3;cases k3) e8,o,old c o ay,az⟩
  .rcases look x c e with⟨n,q⟩ | ⟨_,q⟩
   .exact⟨none,q▸S x n⟩
   .obtain⟨v,o,ay,az⟩:=f.cell x c (P x c q);exact⟨v,o,old c o ay,az⟩
  .rcases look x c e with⟨_,q⟩ | ⟨_,q⟩
   .exact q▸ak
   .exact f.freeC x c (P x c q)
  .show (tX T aa σ).length=(T++U).length;unfold tX;rw[aE,aE,aA,aA,O.len]
 have au:∀ {H':Hp},(∀ b∈fp,H' b=none)->∀ b∈fp,uT (xH nw X (T++U) j cl C K M fp) [] H' b:=λhn b a =>
  ⟨hn b a,a5 b a,a6 b a,.inl a,λx c e=>aj b a x c e,λp hp=>absurd (show p∈([]:Aa (Ad×Obj)) from hp) (by simp)⟩
 have bb:tn 0 Z:=B.keep _ _ _ ag λb _ o e=>old b o e
 have bz:W 0 m0 [] (tX T aa σ) M:=w0;have an:codeAny (model X.prog X.w) X.A (.compLoop (.ListComp a4 [⟨tg,iter,af,0⟩] j pos) 0 (.ref it) (.ref D) (compEnvC j (B5 nw C++cl) C X.env))
   (compPost (model X.prog X.w) X.A X.xe a2 Qs (.ref D) C) { K with heap:=Z }:=by
  refine Z1 (λn s'=>∃ i ys bd H',Inv (xH nw X (T++U) j cl C K M fp) [] bd H' s'/\tn i s'.heap/\(∀ b∈fp,H' b=none)/\W i n ys bd H') ?_ m0 ⟨0,[],tX T aa σ,M,I4,bb,λb a=>(f3 b a).1,bz⟩;rintro n s5 ⟨i,ys,ah,H5,I5,bc,a7,w5⟩;rcases ao i n ys ah H5 w5 with⟨stop,qn⟩ | ⟨go,N,F,hN,hF,step⟩
  .refine nL (B.done (xH nw X (T++U) j cl C K M fp) rfl rfl rfl hc i [] s5 ah H5 _ I5 (au a7) bc stop) λr s6 t=>?_
   obtain⟨hr,I6⟩:=t;subst hr;obtain⟨m6,bq,_⟩:=I6.loc;have bp:H5 C=none:=I6.free;have ub:=I6.base;have a0:=f.fpOk (mD hC) av;refine fin C D s6 H5 (Inv.call' (s':=s6) (ch:=fp) f I6.os ?_ I6.hok I6.bare (λb a=>⟨(f3 b a).2.2.2.1,(f3 b a).2.1,(f3 b a).2.2.2.2.1,(f3 b a).2.2.2.2.2⟩)) qn ⟨bp,a0.2⟩ ⟨m6,bq⟩;exact⟨λb o q n a hx=>ub.keep b o q n a hx,λb o q n a hx=>ub.slot b o q n a hx,ub.free,λb o q hx=>ub.there b o q hx,ub.tups,ub.frzs,ub.tbls⟩
  .refine nL (B.item (xH nw X (T++U) j cl C K M fp) rfl rfl rfl hc i [] s5 ah H5 _ I5 (au a7) bc go) λr s6 t=>?_
   obtain⟨u,hr,h6⟩:=t;subst hr;refine nL h6 λ_ s7 t=>?_
   obtain⟨x,H7,I7,r7,y7,a1,bm⟩:=t;have bg:=I7.pinned (au bm) (B.obj _ _ a1);have G:∀ {L:St} {H8:Hp} {s8:Ae},Inv (xH nw X (T++U) j cl C K M fp) ([]++Em fp s7.heap) L H8 s8->tn (i+1) s8.heap/\(∀ b∈fp,H8 b=none):=λ{L H8 s8} I8=>by
    refine⟨B.keep _ _ _ a1 λb a o e=>(I8.pin (b,o) (aX _ (aX _ (Je a e)))).1,λb a=>?_⟩;obtain⟨o,e,d⟩:=B.obj _ _ a1 b a;exact (I8.pin (b,o) (aX _ (aX _ (Je a e)))).2.1
   refine nL (hg K M C cl fp _ s7 ah H7 x u _ bg r7 (step x H7 y7)) λ_ s8 t=>?_
   obtain⟨L,H8,I8,q8⟩:=t;refine nL (ht K M C cl fp _ s8 L H8 _ I8 q8) λok s9 t=>?_
   obtain⟨H9,I9,q9⟩:=t;cases ok with
   | false =>
    rw[aG (by simp)] at q9;rw[aG (by simp)];obtain⟨m',hm,w9⟩:=hF _ _ q9;exact⟨m',hm,i+1,ys,L,H9,I9.unpinned,(G I9).1,(G I9).2,w9⟩
   | true =>
    rw[aQ rfl] at q9;rw[aQ rfl];refine nL (he K M C cl fp _ s9 L H9 _ I9 q9) λvv bw t=>?_
    obtain⟨v,be,bf,bv,bu⟩:=t;obtain⟨bh,b2,m',hm,b0⟩:=hN _ _ _ bu;refine nL (yZ (X:=xH nw X (T++U) j cl C K M fp) _ bw L be (.ref D) [v] (.ref D) [vv] (λ_ aq=>W (i+1) m' (ys++[v]) L aq) bf rfl (.cons bv .nil) ⟨D,ys,v,rfl,rfl,bh,b2,b0⟩) λ_ b4 t=>?_
    obtain⟨_,aq,ar,_,b1⟩:=t;exact⟨m',hm,i+1,ys++[v],L,aq,ar.unpinned,(G ar).1,(G ar).2,b1⟩
 exact codeAny_compStart_list an (B.self _ 0 _ _ _ bb an)
theorem W0 {D:Ad}(I:Inv X g J j p) (q:Q (.ref D) j) (r:uT X g j C) (l:∃ m,p.heap.Ns C m):compPost (model X.prog X.w) X.A X.xe none (EP X g J Q) (.ref D) C (.ok .next) p:=by
 obtain⟨m,l⟩:=l;refine⟨m,l,λd c=>⟨.ref D,j,I.moved (t':=p.toks) (fp:=[C]) (λb a=>?_) (λb o a e=>?_),rfl,q⟩⟩
 .rw[aJ.mp a];exact r
 .exact c.extBut b o (λz=>a (aJ.mpr z)) e
theorem E8 {iter:Expr}(T o:Aa Af) (r:Aa Nat) (hc:X.calm=true) (hi:PI X tg iter wi)
  (hk:j.kind = .function) (ho:Bv X.N X.env.kindOf j T o r=true)
  (hg:∀ p l C U J,PG (rX X (T++o) j U C p l J) tg g)
  (ht:∀ p l C U J,wB (rX X (T++o) j U C p l J) ab tt)
  (he:∀ p l C U J,PE (rX X (T++o) j U C p l J) aa te)
  (hs:∀ x,foldedSetIterable iter X.env x=pure x:=by intro _;rfl) :
  PE X (.ListComp aa [⟨tg,iter,ab,0⟩] j pos) (Co T r wi g tt te):=by
 intro a s e H Q I h;rw[eval_ListComp];exact So (nw:=none) T o r hc hi hk (Vr ho) hg ht he hs I h λC D d c I q J b=>W0 I q J b
end
structure Yields (J:It) (xs:List V) (R:Hp->Prop):Prop where
 go:∀ i H,i<xs.length->R H->J.go i H
 yld:∀ i H x H',i<xs.length->R H->J.yld i H x H'->H'=H/\xs[i]?=some x
 stop:∀ i H,i=xs.length->R H->J.stop i H
def wU (z:Af):Aa V:=z.cps.toList.map λc=>V.str ⟨#[c]⟩
theorem ER:Yields (xG z) (wU z) (λ_=>True) :=
 ⟨λi H a _=>by simpa [xG,wU,Str.length] using a,
  λi H x d a _ y=>by
   obtain⟨e,c,b,rfl⟩:=y;refine⟨e,?_⟩;unfold wU;rw[bH,fX,b];rfl,
  λi H e _=>by simp[xG,e,wU,Str.length]⟩
def L3 (o:St) (D:Ad) (Pv:Nat->Aa V->Hp->Prop) (i:Nat) (g:Aa V) (j:St):VK:=λv a=>(∃ t,j=t::o)/\a D=some (.l g)/\g.length<sizeLine/\Pv (i+1) (g++[v]) (upd a D (.l (g++[v])))
def Ox (l:St) (Pv:Nat->Aa V->Hp->Prop) (i:Nat) (o:Aa V) (g:St) (j:Hp):Prop:=(∃ t,g=t::l)/\Pv (i+1) o j
theorem PF {R:Hp->Prop}{D:Ad}(Y:Yields J o R) (Pv:Nat->Aa V->Hp->Prop)
  (U:Pv 0 [] (upd T D (.l []))) (I:∀ i j H,i<=o.length->Pv i j H->R H)
  (hs:∀ i x j H,o[i]?=some x->Pv i j H->tt (some x::g.map (λi=>(r[i]?).join)) H λb C =>if b=true then te (some x::g.map (λi=>(r[i]?).join)) C (L3 (g.map (λi=>(r[i]?).join)) D Pv i j (some x::g.map (λi=>(r[i]?).join))) else Ox (g.map (λi=>(r[i]?).join)) Pv i j (some x::g.map (λi=>(r[i]?).join)) C)
  (hd:∀ j H,Pv o.length j H->Q (.ref D) H):C5 [nm] g J (Bz 0) tt te r T Q D:=by
 refine⟨λi m j d H=>m=o.length-i/\i<=o.length/\(∃ t,d=t::g.map (λi=>(r[i]?).join))/\Pv i j H,⟨o.length,by simp,gA _,⟨none,rfl⟩,U⟩,?_⟩;rintro i m j d c ⟨rfl,h,⟨t,rfl⟩,p⟩;by_cases a:i<o.length
 .refine .inr ⟨Y.go i c a (I i j c h p),L3 (g.map (λi=>(r[i]?).join)) D Pv i j,Ox (g.map (λi=>(r[i]?).join)) Pv i j,?_,?_,λx q y=>?_⟩
  .rintro n v z ⟨k,s,u,f⟩;exact⟨s,u,o.length-(i+1),by omega,rfl,a,k,f⟩
  .rintro n C ⟨k,f⟩;exact⟨o.length-(i+1),by omega,rfl,a,k,f⟩
  .obtain⟨rfl,w⟩:=Y.yld i c x q a (I i j c h p) y;exact hs i x j q w p
 .have e:i=o.length:=by omega
  subst e;exact .inl ⟨Y.stop _ _ rfl (I _ j c h p),hd j c p⟩
def yG:Expr->Bool
 | .Starred _ _=>false
 | _=>true
theorem Y0 (h:yG e=true):starEach (e::j) g=(false,eval e g)::starEach j g:=by
 cases e<;>first | rfl | (cases h;done)
section
variable {X:Cx}
theorem oH (j:PE X e o) (l:PA X g t) (h:yG e=true:=by rfl):PA X (e::g) (Jp o t):=AE j l (Y0 h)
def AN (g:Aa Af):TA:=λ_ H Q=>Q (g.map V.str) H
theorem R9:∀ (l:Aa (Af×Nat×Pos)),PA X (l.map λp=>.Constant (.str p.1) p.2.1 p.2.2) (AN (l.map (·.1)))
 | []=>qN
 | a::r=>λpos b s c H Q I h=>oH (A7 (x:=a.1) (j:=a.2.1) (pos:=a.2.2)) (R9 r) (by rfl) pos b s c H Q I h
end
theorem OF {R:Hp->Prop}{D:Ad}(Y:Yields J o R) (Pv:Nat->Aa V->Hp->Prop)
  (I:Pv 0 [] (upd C D (.l []))) (T:∀ i j H,i<=o.length->Pv i j H->R H)
  (U:∀ i x j H,o[i]?=some x->Pv i j H->te (some x::g.map (λi=>(r[i]?).join)) H (L3 (g.map (λi=>(r[i]?).join)) D Pv i j (some x::g.map (λi=>(r[i]?).join))))
  (hd:∀ j H,Pv o.length j H->Q (.ref D) H):C5 [nm] g J (Bz 0) I3 te r C Q D:=by
 refine PF Y Pv I T (λi x j H a p=>?_) hd;unfold I3;dsimp only;rw[aQ rfl];exact U i x j H a p
theorem GI {R:Hp->Prop}{D:Ad}(Y:Yields J g R) (f:V->V) (T:j D=none) (C:∀ H,pG j H->R H) (hl:g.length<=1000)
  (I:∀ (i:Nat) x H (k:VK),g[i]?=some x->pG j H->k (f x) H->U (some x::r.map (λi=>(σ[i]?).join)) H k)
  (hd:Q (.ref D) (upd j D (.l (g.map f)))):C5 [nm] r J (Bz 0) I3 U σ j Q D:=by
 have h:∀ o,pG j (upd j D o):=λo b u e=>by rw[nP (pJ e T)];exact e
 refine OF Y (λi a H=>i<=g.length/\a=(g.take i).map f/\H=upd j D (.l a)) ⟨gA _,by simp,rfl⟩ (λi a H _ p=>C H (by rw[p.2.2];exact h _)) ?_ ?_
 .rintro i x a H d ⟨n,rfl,rfl⟩;have c:=(aP.mp d).1;have m:g.take (i+1)=g.take i++[x]:=by rw[cH,d];rfl
  refine I i x _ _ d (h _) ⟨⟨_,rfl⟩,oO,?_,c,?_,?_⟩
  .rw[aA,cW];exact gS (show min i g.length<=1000 by omega) (by decide)
  .rw[m,aT];rfl
  .rw[Xn]
 .rintro a H ⟨_,rfl,rfl⟩;rw[kR (bB _)];exact hd
theorem rO {X:Cx}{st:Stmt}{rest:Aa Stmt}{D:Ends}(I:St->Hp->Prop) (g:∀ u:TS,(∀ j l,I j l->u D j l)->∃ t,PS X st t/\t { D with nx:=u D } o H)
  (h:∀ j l,I j l->∃ u,qD X rest u/\u D j l):∃ t,qD X (st::rest) t/\t D o H:=by
 let u:TS:=λb j l=>∃ c,qD X rest c/\c b j l
 have k:qD X rest u:=λa s j l b d ⟨c,i,e⟩=>i a s j l b d e
 obtain⟨t,pt,f⟩:=g u h;exact⟨Kc t u,A2 pt k,f⟩
theorem PL {X:Cx}{st:Stmt}{rest:Aa Stmt}{D:Ends}(t:TS) (p:PS X st t) (h:t { D with nx:=λg j=>∃ u,qD X rest u/\u D g j } l H):∃ t,qD X (st::rest) t/\t D l H:=by
 let u:TS:=λb g j=>∃ c,qD X rest c/\c b g j
 have i:qD X rest u:=λa s g j b d ⟨c,f,e⟩=>f a s g j b d e
 exact⟨Kc t u,A2 p i,h⟩
section
variable {X:Cx}
def Yn (g:Aa Int):TA:=λ_ H Q=>Q (g.map V.int) H
theorem T4:∀ (l:Aa (Int×Nat×Pos)),PA X (l.map λp=>.Constant (.int p.1) p.2.1 p.2.2) (Yn (l.map (·.1)))
 | []=>qN
 | a::r=>λpos b s c H Q I h=>oH (tV (i:=a.1) (j:=a.2.1) (pos:=a.2.2)) (T4 r) (by rfl) pos b s c H Q I h
end
section
variable {X:Cx}
theorem Si (g:X.A.units+64<cLine):oJ X (compareOp .NotEq) (Gi X.K true):=by
 intro c s M H x y v u Q I F G h;obtain⟨a,b,L,rfl,rfl,f,z,q⟩:=h;cases F;cases G;obtain⟨B,D,m,_⟩:=I.list f;obtain⟨k,E,n,_⟩:=I.list z;cases E;have t:∀ d,d = !L.isEmpty->EP X c M Q (.bool d) s:=λd e=>⟨.b d,H,I,rfl,by subst e;exact q⟩
 cases D with
 | nil=>exact SeqAt.RcNeAt.lists (e:=λ_=>true) m.isList n.isList rfl (by omega) (λi f _=>by simp at f) X.prog X.w _ _ (t _ (by simp))
 | cons r N=>exact SeqAt.RcNeAt.lists_lengths m.isList n.isList (by simp) (by omega) X.prog X.w _ _ (t _ rfl)
def Sa (K:nH):Aa V->Hp->VK->Prop:=λd H Q=>∃ (x c:V) (t a:Ac) (b:Bool),d=[x,c]/\nO c a/\TyOf K H x t/\PySem.W.kitOne K t a=some b/\Q (.b b) H
theorem AR (K:nH) (g:X.K=K:=by rfl):qC X (.builtin "isinstance") (Sa K):=by subst g;exact BJ
end
section
variable {X:Cx}
theorem JT {bs:Aa Bool}{g:Aa Ac}(r:oA (bs.map V.b) g){i:Nat}{v:Ac}(h:g[i]?=some v):∃ b,bs[i]?=some b/\v = .bool b:=by
 have d:=r.length;rw[aA] at d;have f:i<g.length:=(aP.mp h).1;have a:bs[i]?=some (bs[i]'(by omega)):=aH (by omega);obtain⟨u,c,e⟩:=r.get (i:=i) (x:=V.b (bs[i]'(by omega))) (by rw[bH,a];rfl);rw[h] at c;cases c;exact⟨_,a,e⟩
theorem FS (bs:Aa Bool):((List.range bs.length).all λi=>(bs[i]?).getD true)=bs.all id:=by
 have e:(List.range bs.length).map (λi=>(bs[i]?).getD true)=bs:=by
  apply List.ext_getElem (by simp);intro i p q;simp[q]
 calc ((List.range bs.length).all λi=>(bs[i]?).getD true)=((List.range bs.length).map λi=>(bs[i]?).getD true).all id:=by rw[nA];rfl
  _=bs.all id:=by rw[e]
def O8 (K:nH):Aa V->Hp->VK->Prop:=λa H Q=>∃ (p:Ad) (bs:Aa Bool),a=[.ref p]/\nX K H p (bs.map V.b)/\Q (.b (bs.all id)) H
theorem Vl (g:X.calm=true):qC X (.builtin "all") (O8 X.K):=by
 intro m s P H O N Q I r h;obtain⟨p,bs,rfl,z,q⟩:=h;obtain⟨u,rfl,D⟩:=wL r;cases D;obtain⟨c,n,B,_⟩:=I.list z;have d:=B.isList;have a:=n.length;rw[aA] at a;have f:p<s.heap.objs.size:=by obtain⟨_,e,_⟩:=id d;exact aZ e
 refine call_all_walk (wpAny_pyIter_list d ?_);refine⟨s.heap.objs.size,[s.heap.objs.size,p],[s.heap.objs.size],c.toArray.size,_,_,λi=>(bs[i]?).getD true,rfl,Walks.list (A:=X.A.in1) (I.ok.hd g) _ p (cD f) c.toArray,⟨⟨_,bF _ rfl,rfl,rfl⟩,d.push _⟩,λi v L F E t k=>?_,λG M w=>?_⟩
 .obtain⟨b,e,rfl⟩:=JT n (by simpa using t);simp only[e,Option.getD_some] at k;exact dQ k
 .have e:((List.range c.toArray.size).all λi=>(bs[i]?).getD true)=bs.all id:=by
   rw[bE,<- a];exact FS bs
  rw[e];exact⟨.b _,H,I.kept λb x e=>w b x (λy=>by rw[aJ.mp y] at e;exact dN _ (aZ e)) (aD _ e),rfl,q⟩
end
section
variable {X:Cx}
theorem Inv.movedT {t':Nat}{p:Aa Ad}{ys:Aa V}{j:Aa Ac}(I:Inv X g U H s) (l:∀ b∈p,uT X g H b) (k:∀ b o,b∉p->s.heap.get? b=some o->C.get? b=some o)
  (new:Ap C s.heap.objs.size j.toArray) (T:oA ys j) (J:ys.length<=sizeLine):Inv X g U (upd H s.heap.objs.size (.t ys)) { s with heap:=C,toks:=t' }:=by
 have f:=I.fresh;have h:∀ b u,H b=some u->b∉p:=λb u e z=>by rw[(l b z).1] at e;cases e
 have lt:∀ b o,s.heap.get? b=some o->b≠s.heap.objs.size:=λb o e=>cD (aZ e)
 refine I.step (g':=s.gens) (d':=s.drawn) (ch:=p) (λb a=>⟨(l b a).2.2.2.1,(l b a).2.1,(l b a).2.2.2.2.1,(l b a).2.2.2.2.2⟩) (λb o _ _ d e _=>k b o d e) (λb o _ _ d e _=>⟨o.slots,k b o d e⟩) (λb o _ e n=>by rw[nP (lt b o e)];exact n)
  (λb o d e=>⟨o,k b o d e⟩) (λb A e=>by rw[nP (pJ e f)];exact e) (λb o u e=>by rw[nP (pJ e f)];exact e) (λb B e=>⟨#[],by rw[nP (pJ e f),e];simp⟩) (λm x=>?_) (λb u e=>?_) I.bare
 .obtain⟨o,w,i,y,r⟩:=x;exact⟨o,w,i,k _ o (λz=>(l _ z).2.1 rfl) y,r⟩
 .by_cases a:b=s.heap.objs.size
  .subst a;rw[oO] at e;cases e;exact⟨J,j,T,new⟩
  .rw[nP a] at e;refine (I.hok b u e).stay (λc v d q=>k c v ?_ q) (λc q=>by rw[nP (pJ q f)];exact q) λc A q=>by rw[nP (pJ q f)];exact q
   rcases d with z | z
   .rw[z];exact h b u e
   .exact h c _ z
end
def Md (K:nH) (w:World) (a:Ad) (g:Aa (hH×V)):Prop:=(a == sysModules)=false/\∀ (P:Ah) (h:Ag),K.In h->∃ b,KV g b/\h.DictOf (qJ P w) a b
theorem NF (P:Ah) (w:World){D:Aa (Af×V×Ac)}(h:KTD.Rows (λ(d:V×Ac) v=>v=d.2) g D) (j:∀ p∈D,nO p.2.1 p.2.2):g.map (·.hash)=D.map (λp=>hashStr w p.1) ->
  (∀ e∈g,∃ k,(qJ P w).is k e.key=true/\e.hash=(qJ P w).hash k)/\Pairs (qJ P w) g (D.map λp=>((.inr p.1:hH),p.2.2))/\KV (D.map λp=>((.inr p.1:hH),p.2.1)) (D.map λp=>((.inr p.1:hH),p.2.2)):=by
 induction h with
 | nil=>exact λ_=>⟨(λ_ h=>nomatch h),.nil,.nil⟩
 | @cons e x t d g D b u _ y =>
  intro c;simp only[bD,fY] at c;obtain⟨m,n,q⟩:=y (λp s=>j p (aV _ s)) c.2;have f:(qJ P w).is (.inr x:hH) e.key=true:=by rw[b];exact Qq P w x t
  refine⟨λi a=>?_,.cons f u n,.cons ⟨rfl,j (x,d) (aI ..)⟩ q⟩;rcases aM.mp a with a | a
  .rw[a];exact⟨.inr x,f,c.1⟩
  .exact m i a
theorem GV {K:nH}{D:Aa (Af×V×Ac)}(r:∀ p∈D,nO p.2.1 p.2.2) (g:KTD.tabLook (λ(d:V×Ac) v=>v == d.2) (λb=>K.lookup b) a D=true) (l:(D.map (·.1)).Nodup)
  (j:KTD.hashesOf (λb=>K.lookup b) a=D.map λp=>hashStr w p.1):Md K w a (D.map λp=>(.inr p.1,p.2.1)):=by
 simp only[KTD.tabLook,cX] at g;obtain⟨u,g⟩:=g;refine⟨by simpa using u,λP h y=>?_⟩;split at g
 .rename_i o m
  simp only[cX] at g;obtain⟨⟨⟨n,q⟩,s⟩,c⟩:=g;split at c
  .rename_i k t hd
   have i:k.toList.map (·.hash)=D.map λp=>hashStr w p.1:=by
    rw[<- j];unfold KTD.hashesOf;simp only[m,hd]
   obtain⟨B,E,A⟩:=NF P w (KTD.rows_of_look (R:=λ(d:V×Ac) v=>v=d.2) (λd v e=>iJ.mp e) c) r i;refine⟨_,A,o,k,t,y _ _ m,⟨iJ.mp n,by simpa using q,by simpa using s⟩,hd,λe z=>B e (by simpa using z),E,?_⟩;rw[aU];have:(D.map ((λ(x:hH×Ac)=>x.1)∘λp=>((.inr p.1:hH),p.2.2)))=(D.map (·.1)).map (Sum.inr:Af->hH):=by rw[aU];rfl
   rw[this];exact l.map _ (λa b f e=>f (eI e))
  .cases c
 .cases g
section
variable {X:Cx}
def Wu (K:nH) (w:World) (neg:Bool):R2:=λx y H Q=>∃ (z:Af) (a:Ad) (c:Aa (hH×V)),x = .str z/\y = .ref a/\Md K w a c/\Q (.b (if neg then !(qA c (.inr z)).isSome else (qA c (.inr z)).isSome)) H
theorem MN:oJ X (compareOp .NotIn) (Wu X.K X.w true):=by
 intro c s t H x y v u Q I i m h;obtain⟨z,a,f,rfl,rfl,⟨hd,e⟩,q⟩:=h;cases m;obtain⟨n,rel,d⟩:=e X.prog s.heap I.kIn;refine wpAny_notIn_of (wY (k:=.inr z) i) hd d.mapOf ?_;rw[<- (rel.val (.inr z)).isSome_eq];exact⟨.b _,H,I.tok _,rfl,q⟩
end
section
variable {X:Cx}
theorem IU {iter:Expr}(T p:Aa Af) (J:Aa Nat) (hN:X.N.Nodup) (af:X.N[i]?=some x) (hx:wI X.env.scope x)
  (hc:X.calm=true) (hi:PI X tg iter wi) (hk:j.kind = .function) (ho:Bv X.N X.env.kindOf j T p J=true)
  (hg:∀ r l C cl U,PG (rX X (T++p) j cl C r l U) tg g)
  (ht:∀ r l C cl U,wB (rX X (T++p) j cl C r l U) ac tt)
  (he:∀ r l C cl U,PE (rX X (T++p) j cl C r l U) ab te)
  (ag:swapsWith (.ListComp ab [⟨tg,iter,ac,0⟩] j pos) (some (.Name x aa)) ae.line X.env=pure true:=by rfl)
  (hs:∀ x,foldedSetIterable iter X.env x=pure x:=by intro _;rfl)
  (hf:X.fn x=true\/X.env.scope.names.lookup x=some .local:=by first | exact .inl rfl | exact .inr rfl | assumption) :
  PS X (.Assign [.Name x aa] (.ListComp ab [⟨tg,iter,ac,0⟩] j pos) ae) (Gf (Co T J wi g tt te) (Bz i)):=by
 intro u s M H D I h;rw[exec_Assign_Name_used _ _ _ _ ag];refine aB (iR (aB ?_));show wpAny _ _ (comprehension _ _ _ _ _ _ _ _ >>= λ_=>pure ()) _ _ _;refine aB (So (nw:=none) T p J hc hi hk (Vr ho) hg ht he hs I h λC t L w A q U k=>?_);obtain⟨m,E⟩:=k;show wpAny _ _ (assign (.Name x aa) X.env (.ref t)) _ _ _;refine wpAny_assign_Name (Th A hN af hx (v:=.ref t) rfl (λF y f=>?_) hf);obtain⟨a,G,B⟩:=f;have c:C≠a:=by
  rcases B with z | z
  .rw[z];exact U.2.1
  .exact (U.2.2.2.2.1 x a z).symm
 refine⟨m,E.sameBut G c,λK n=>aF (aF ⟨_,w,y.moved (t':=F.toks) (fp:=[C]) (λb d=>?_) (λb o d e=>?_),q⟩)⟩
 .rw[aJ.mp d];exact U
 .exact n.extBut b o (λz=>d (aJ.mpr z)) e
end
inductive D where
 | e | b (b:Bool) | int (i:Int) | str (x:Str) | r (v:V)
 | t (xs:List D) | l (xs:List D)
 | k (kvs:List (hH×D)) | T (kvs:List (List hH×D))
 | c (xs:List D)
 | con (xs:List D)
def El (K:nH) (a:Ad) (g:Aa V):Prop:=∃ (o:Obj) (b:Array Ac) (n:Nat),K.lookup a=some o/\o.cls = .type "tuple" /\ o.data = .seq b n/\b.size<=sizeLine/\oA g b.toList
theorem El.sqT {K:nH}(h:El K a g):oP K H a g:=.inr h
def yE (K:nH) (H:Hp) (a:Ad) (g:Aa V):Prop:=(∃ o,H a=some (.frz o (.l g))) \/
 ∃ (o:Obj) (b:Array Ac) (n:Nat),K.lookup a=some o/\o.cls = .type "list" /\ o.dict=none/\o.data = .seq b n/\b.size<=sizeLine/\oA g b.toList
theorem yE.sqL {K:nH}(h:yE K H a g):nX K H a g:=h.elim (λh=>.inl (.inr h)) .inr
mutual
inductive Rep (K:nH) (A:Addr->Prop) (H:Hp):D->V->Prop where
 | e:Rep K A H .e .e
 | b (b:Bool):Rep K A H (.b b) (.b b)
 | int (i:Int):Rep K A H (.int i) (.int i)
 | str (x:Str):Rep K A H (.str x) (.str x)
 | r (v:V):Rep K A H (.r v) v
 | t {a:Addr} {vs:List V} {ds:List D}:H a=some (.t vs)->Reps K A H ds vs->Rep K A H (.t ds) (.ref a)
 | con {a:Addr} {vs:List V} {ds:List D}:El K a vs->Reps K A H ds vs->Rep K A H (.con ds) (.ref a)
 | l {a:Addr} {vs:List V} {ds:List D}:A a->H a=some (.l vs)->Reps K A H ds vs->Rep K A H (.l ds) (.ref a)
 | c {a:Addr} {vs:List V} {ds:List D}:yE K H a vs->Reps K A H ds vs->Rep K A H (.c ds) (.ref a)
 | k {a:Addr} {kvs:List (hH×V)} {ds:List (hH×D)}:A a->Rd H a (.k kvs)->ds.map (·.1)=kvs.map (·.1)->Reps K A H (ds.map (·.2)) (kvs.map (·.2))->Rep K A H (.k ds) (.ref a)
 | T {a:Addr} {kvs:List (List hH×V)} {ds:List (List hH×D)}:A a->Rd H a (.T kvs)->ds.map (·.1)=kvs.map (·.1)->Reps K A H (ds.map (·.2)) (kvs.map (·.2))->Rep K A H (.T ds) (.ref a)
inductive Reps (K:nH) (A:Addr->Prop) (H:Hp):List D->List V->Prop where
 | nil:Reps K A H [] []
 | cons {d:D} {v:V} {ds:List D} {vs:List V}:Rep K A H d v->Reps K A H ds vs->Reps K A H (d::ds) (v::vs)
end
def F8:HO->Bool
 | .t _=>true
 | .frz _ _=>true
 | _=>false
def Kp (A j:Ad->Prop) (H g:Hp):Prop:=(∀ a o,A a->H a=some o->j a/\g a=some o)/\∀ a o,F8 o=true->H a=some o->g a=some o
section
variable {K:nH}
theorem Kp.sqF (k:Kp A l H g) (h:yE K H a j):yE K g a j:=by
 rcases h with⟨o,h⟩ | h
 .exact .inl ⟨o,k.2 _ _ rfl h⟩
 .exact .inr h
theorem Kp.rd (k:Kp A j H l) (g:A a) (h:Rd H a u):j a/\Rd l a u:=by
 rcases h with h | ⟨o,h⟩
 .exact⟨(k.1 _ _ g h).1,.inl (k.1 _ _ g h).2⟩
 .exact⟨(k.1 _ _ g h).1,.inr ⟨o,(k.1 _ _ g h).2⟩⟩
theorem Rep.mono (k:Kp A A' H H') (h:Rep K A H d v):Rep K A' H' d v :=
 Rep.rec (motive_1:=λd v _=>Rep K A' H' d v) (motive_2:=λds f _=>Reps K A' H' ds f) .e .b .int .str .r (λh _ r=>.t (k.2 _ _ rfl h) r) (λh _ r=>.con h r)
  (λa h _ r=>.l (k.1 _ _ a h).1 (k.1 _ _ a h).2 r) (λh _ r=>.c (k.sqF h) r) (λa h e _ r=>.k (k.rd a h).1 (k.rd a h).2 e r) (λa h e _ r=>.T (k.rd a h).1 (k.rd a h).2 e r) .nil (λ_ _ h r=>.cons h r) h
theorem Reps.mono (k:Kp A A' H H') (h:Reps K A H ds j):Reps K A' H' ds j:=by
 induction ds generalizing j with
 | nil=>cases h;exact .nil
 | cons d ds a=>cases h with | cons g r=>exact .cons (g.mono k) (a r)
theorem Kp.all (h:∀ a,A a->g a):Kp A g H H:=⟨λa o b e=>⟨h a b,e⟩,λ_ _ _ e=>e⟩
theorem Kp.trans (a:Kp A l H r) (b:Kp l g r j):Kp A g H j:=⟨λx o c e=>let ⟨p,q⟩:=a.1 x o c e;b.1 x o p q,λx o t e=>b.2 x o t (a.2 x o t e)⟩
theorem Kp.laid (g:H p=none) (h:∀ a,A a->a≠p->j a):Kp A j H (upd H p o) :=
 ⟨λa u b e=>⟨h a b (pJ e g),by rw[nP (pJ e g)];exact e⟩,λa u _ e=>by rw[nP (pJ e g)];exact e⟩
theorem Kp.same (s:pG H j) (h:∀ a,A a->g a):Kp A g H j:=⟨λa o b e=>⟨h a b,s a o e⟩,λa o _ e=>s a o e⟩
theorem Kp.write (l:H p=some u) (g:F8 u=false) (j:¬ A p):Kp A A H (upd H p o):=by
 refine⟨λa w b e=>⟨b,?_⟩,λa w t e=>?_⟩
 .rw[nP (λz:a=p=>j (by rw[<- z];exact b))];exact e
 .rw[nP (λz=>?_)]
  .exact e
  .subst z;rw[l] at e;cases e;rw[t] at g;cases g
theorem Reps.length (h:Reps K A H ds j):ds.length=j.length:=by
 induction ds generalizing j with
 | nil=>cases h;rfl
 | cons d ds a=>cases h with | cons g r=>exact cA (·+1) (a r)
theorem Reps.get {ds:Aa D}{j:Aa V}{i:Nat}{d:D}(h:Reps K A H ds j) (e:ds[i]?=some d):∃ v,j[i]?=some v/\Rep K A H d v:=by
 induction ds generalizing j i with
 | nil=>cases e
 | cons c ds a =>
  cases h with
  | cons g r =>
   cases i with
   | zero=>cases e;exact⟨_,rfl,g⟩
   | succ i=>exact a r (i:=i) e
theorem Reps.getV {ds:Aa D}{j:Aa V}{i:Nat}{v:V}(h:Reps K A H ds j) (e:j[i]?=some v):∃ d,ds[i]?=some d/\Rep K A H d v:=by
 induction ds generalizing j i with
 | nil=>cases h;cases e
 | cons c ds a =>
  cases h with
  | cons g r =>
   cases i with
   | zero=>cases e;exact⟨_,rfl,g⟩
   | succ i=>exact a r (i:=i) e
theorem Reps.append (h:Reps K A H ds j) (s:Reps K A H l o):Reps K A H (ds++l) (j++o):=by
 induction ds generalizing j with
 | nil=>cases h;exact s
 | cons d ds a=>cases h with | cons g r=>exact .cons g (a r)
theorem Reps.set (h:Rep K A H d v):∀ {ds:Aa D}{j:Aa V}(i:Nat),Reps K A H ds j->Reps K A H (ds.set i d) (j.set i v)
 | _,_,_,.nil=>.nil
 | _,_,0,.cons _ r=>.cons h r
 | _,_,i+1,.cons g r=>.cons g (Reps.set h i r)
theorem Reps.erase:∀ {ds:Aa D}{j:Aa V}(i:Nat),Reps K A H ds j->Reps K A H (ds.eraseIdx i) (j.eraseIdx i)
 | _,_,_,.nil=>.nil
 | _,_,0,.cons _ r=>r
 | _,_,i+1,.cons g r=>.cons g (Reps.erase i r)
theorem Reps.reverse (h:Reps K A H ds j):Reps K A H ds.reverse j.reverse:=by
 induction ds generalizing j with
 | nil=>cases h;exact .nil
 | cons d ds a =>
  cases h with
  | cons g r=>rw[kL,kL];exact (a r).append (.cons g .nil)
theorem Reps.nil_iff (h:Reps K A H ds g):g=[]↔ds=[]:=by
 cases h<;>simp
theorem Rep.int_inv (h:Rep K A H (.int i) v):v = .int i:=by cases h;rfl
theorem Rep.str_inv (h:Rep K A H (.str i) v):v = .str i:=by cases h;rfl
theorem Rep.bl_inv (h:Rep K A H (.b i) v):v = .b i:=by cases h;rfl
theorem Rep.non_inv (h:Rep K A H .e v):v = .e:=by cases h;rfl
theorem Rep.raw_inv (h:Rep K A H (.r u) v):v=u:=by cases h;rfl
theorem Rep.tup_inv (h:Rep K A H (.t ds) v):∃ a g,v = .ref a/\H a=some (.t g)/\Reps K A H ds g:=by
 cases h with | t h r=>exact⟨_,_,rfl,h,r⟩
theorem Rep.lst_inv (h:Rep K A H (.l ds) v):∃ a g,v = .ref a/\A a/\H a=some (.l g)/\Reps K A H ds g:=by
 cases h with | l d h r=>exact⟨_,_,rfl,d,h,r⟩
theorem Rep.con_inv (h:Rep K A H (.con ds) v):∃ a g,v = .ref a/\El K a g/\Reps K A H ds g:=by
 cases h with | con h r=>exact⟨_,_,rfl,h,r⟩
theorem Rep.scr_inv (h:Rep K A H (.c ds) v):∃ a g,v = .ref a/\yE K H a g/\Reps K A H ds g:=by
 cases h with | c h r=>exact⟨_,_,rfl,h,r⟩
theorem Rep.dK_inv (h:Rep K A H (.k ds) v):∃ a g,v = .ref a/\A a/\Rd H a (.k g)/\ds.map (·.1)=g.map (·.1)/\Reps K A H (ds.map (·.2)) (g.map (·.2)):=by
 cases h with | k d h e r=>exact⟨_,_,rfl,d,h,e,r⟩
theorem Rep.dT_inv (h:Rep K A H (.T ds) v):∃ a g,v = .ref a/\A a/\Rd H a (.T g)/\ds.map (·.1)=g.map (·.1)/\Reps K A H (ds.map (·.2)) (g.map (·.2)):=by
 cases h with | T d h e r=>exact⟨_,_,rfl,d,h,e,r⟩
end
mutual
def imm:D->Bool
 | .t a=>wN a
 | .c a=>wN a
 | .con a=>wN a
 | .l _=>false
 | .k _=>false
 | .T _=>false
 | _=>true
def wN:Aa D->Bool
 | []=>true
 | d::ds=>imm d&&wN ds
end
section
variable {K:nH}
theorem Rep.imm (h:Rep K A H d v):imm d=true->Rep K g H d v :=
 Rep.rec (motive_1:=λd v _=>L2.imm d=true->Rep K g H d v) (motive_2:=λds a _=>wN ds=true->Reps K g H ds a) (λ_=>.e) (λb _=>.b b) (λi _=>.int i) (λx _=>.str x) (λv _=>.r v) (λh _ r e=>.t h (r e)) (λh _ r e=>.con h (r e))
  (λ_ _ _ _ e=>Bool.noConfusion (show false=true from e)) (λh _ r e=>.c h (r e)) (λ_ _ _ _ _ e=>Bool.noConfusion (show false=true from e)) (λ_ _ _ _ _ e=>Bool.noConfusion (show false=true from e)) (λ_=>.nil) (λ_ _ h r e=>.cons (h (hG.mp e).1) (r (hG.mp e).2)) h
theorem Reps.imm (h:Reps K A H ds j) (e:wN ds=true):Reps K l H ds j:=by
 induction ds generalizing j with
 | nil=>cases h;exact .nil
 | cons d ds a=>cases h with | cons g r=>exact .cons (g.imm (hG.mp e).1) (a r (hG.mp e).2)
theorem Tf:∀ {ds:Aa D},(∀ d∈ds,L2.imm d=true)->wN ds=true
 | [],_=>rfl
 | d::ds,h=>hG.mpr ⟨h d aI,Tf λe a=>h e (aV _ a)⟩
theorem KI {g:Type}{f:g->D}(h:∀ x,L2.imm (f x)=true) (j:Aa g):wN (j.map f)=true:=Tf λd hd=>by
 obtain⟨x,_,rfl⟩:=aO.mp hd;exact h x
end
end L2
namespace Lw
open PySem L2
structure DeckAt (H:Hp) (d c:Addr):Prop where
 ex:∃ (ns:List Int) (p:Int),H d=some (.l [.ref c,.int p])/\H c=some (.l (ns.map V.int))/\0<ns.length/\ns.length<=100
end Lw
namespace L2
open PySem PySem.Spec PyProof.Rows Lw
inductive Sl where
 | n | v (d:D) | o (d:D)
abbrev pN:=Aa (Sl×Ab V)
def Dk (g:Aa Ad) (H:Hp):Prop:=g=[]\/∃ d c,g=[d,c]/\DeckAt H d c
theorem Dk.some (h:Dk j H) (g:a∈j):∃ o,H a=some (.l o):=by
 rcases h with rfl | ⟨d,c,rfl,h⟩
 .cases g
 .obtain⟨f,p,b,e,_⟩:=h.ex;rcases aM.mp g with rfl | g
  .exact⟨_,b⟩
  .rcases aM.mp g with rfl | g
   .exact⟨_,e⟩
   .cases g
theorem Dk.keep (h:Dk g H) (k:∀ a∈g,j a=H a):Dk g j:=by
 rcases h with rfl | ⟨d,c,rfl,h⟩
 .exact .inl rfl
 .refine .inr ⟨d,c,rfl,?_⟩;obtain⟨i,p,b,e,f⟩:=h.ex;exact⟨i,p,by rw[k d (by simp)];exact b,by rw[k c (by simp)];exact e,f⟩
theorem Dk.upd (h:Dk g H) (j:p∉g):Dk g (upd H p o):=h.keep λa b=>nP λz=>j (z▸b)
noncomputable def Bt:Sl×Ab V->Ab Ad
 | (.o _,some (.ref a))=>some a
 | _=>none
def lT (L:pN):Aa Ad:=L.filterMap Bt
structure Bs where
 dk:List Addr
 A0:Addr->Prop
 H0:Hp
def Al (B:Bs) (R:Aa Ad) (a:Ad):Prop:=a∉B.dk/\a∉R/\(B.A0 a\/B.H0 a=none)
def pX (K:nH) (A:Ad->Prop) (H:Hp) (a:Ad):D->Prop
 | .l ds=>∃ c,H a=some (.l c)/\Reps K A H ds c
 | .k ds=>∃ b,H a=some (.k b)/\ds.map (·.1)=b.map (·.1)/\Reps K A H (ds.map (·.2)) (b.map (·.2))
 | .T ds=>∃ b,H a=some (.T b)/\ds.map (·.1)=b.map (·.1)/\Reps K A H (ds.map (·.2)) (b.map (·.2))
 | _=>False
def uF (K:nH) (A:Ad->Prop) (H:Hp):Sl->Ab V->Prop
 | .n,_=>True
 | .v d,x=>∃ v,x=some v/\Rep K A H d v
 | .o d,x=>∃ a,x=some (.ref a)/\pX K A H a d
structure DS (K:nH) (B:Bs) (L:pN) (H:Hp):Prop where
 fr:∀ b o,B.H0 b=some o->b∉B.dk->H b=some o
 dk:Dk B.dk H
 nd:(lT L).Nodup
 new:∀ a∈lT L,B.H0 a=none/\a∉B.dk
 ok:∀ p∈L,uF K (Al B (lT L)) H p.1 p.2
section
variable {K:nH}{L2:pN}
theorem pX.mono (k:Kp A A' H H') (g:∀ o,H a=some o->H' a=some o) (h:pX K A H a d):pX K A' H' a d:=by
 cases d with
 | l _=>obtain⟨b,h,r⟩:=h;exact⟨b,g _ h,r.mono k⟩
 | k _=>obtain⟨b,h,e,r⟩:=h;exact⟨b,g _ h,e,r.mono k⟩
 | T _=>obtain⟨b,h,e,r⟩:=h;exact⟨b,g _ h,e,r.mono k⟩
 | _=>exact False.elim h
theorem pX.some:∀ {d:D},pX K A H a d->∃ o,H a=some o/\F8 o=false
 | .l _,⟨b,h,r⟩=>⟨_,h,rfl⟩
 | .k _,⟨b,h,e,r⟩=>⟨_,h,rfl⟩
 | .T _,⟨b,h,e,r⟩=>⟨_,h,rfl⟩
theorem pX.rep (g:∀ b,A b->o b) (j:o a):∀ {d:D},pX K A H a d->Rep K o H d (.ref a)
 | .l _,⟨c,h,r⟩=>.l j h (r.mono (.all g))
 | .k _,⟨c,h,e,r⟩=>.k j (.inl h) e (r.mono (.all g))
 | .T _,⟨c,h,e,r⟩=>.T j (.inl h) e (r.mono (.all g))
theorem uF.mono (k:Kp A A' H H') (h:uF K A H s y) (g:∀ a,Bt (s,y)=some a->∀ o,H a=some o->H' a=some o):uF K A' H' s y:=by
 cases s with
 | n=>trivial
 | v d=>obtain⟨v,e,r⟩:=h;exact⟨v,e,r.mono k⟩
 | o d=>obtain⟨a,rfl,r⟩:=h;exact⟨a,rfl,r.mono k (g a rfl)⟩
theorem sZ:lT (g++L2)=lT g++lT L2:=List.filterMap_append
theorem uC:a∈lT L↔∃ p∈L,Bt p=some a:=mF
theorem sD:lT (L1++x::L2)=lT L1++((Bt x).toList++lT L2):=by
 unfold lT;rw[List.filterMap_append,List.filterMap_cons];cases Bt x<;>rfl
theorem DS.live (h:DS K B L H) (g:a∈lT L):∃ o,H a=some o/\F8 o=false:=by
 obtain⟨p,c,e⟩:=uC.mp g;have:=h.ok p c;obtain⟨s,y⟩:=p;cases s with
 | n=>cases e
 | v d=>cases e
 | o d =>
  obtain⟨b,rfl,r⟩:=this;cases e;exact r.some
theorem DS.drop (h:DS K B (L1++x::L2) H):DS K B (L1++L2) H:=by
 have e:=sD (L1:=L1) (x:=x) (L2:=L2);have d:∀ a,a∈lT (L1++L2)->a∈lT (L1++x::L2):=λa c=>by
  rw[sZ] at c;rw[e];simp only[aW] at c |-;rcases c with q | q
  .exact .inl q
  .exact .inr (.inr q)
 refine⟨h.fr,h.dk,?_,λa c=>h.new a (d a c),λp f=>?_⟩
 .have n:=h.nd;rw[e] at n;rw[sZ];obtain⟨k,m,s⟩:=bW.mp n;exact bW.mpr ⟨k,(bW.mp m).2.1,λa c b i=>s a c b (aX _ i)⟩
 .refine (h.ok p (by simp only[aW,aM] at f |-;rcases f with q | q;exact .inl q;exact .inr (.inr q))).mono (.all λa z=>⟨z.1,λq=>z.2.1 (d a q),z.2.2⟩) (λ_ _ _ q=>q)
theorem DS.at (h:DS K B (g++x::L2) H):uF K (Al B (lT (g++x::L2))) H x.1 x.2:=h.ok x (aX _ aI)
theorem DS.valAt (h:DS K B (g++(.v d,some v)::L2) H):Rep K (Al B (lT (g++L2))) H d v:=by
 obtain⟨u,e,r⟩:=h.at;cases e;have:lT (g++(Sl.v d,some v)::L2)=lT (g++L2):=by rw[sD,sZ];rfl
 rw[this] at r;exact r
theorem DS.push (h:DS K B (L1++L2) H) (r:Rep K (Al B (lT (L1++L2))) H d v):DS K B (L1++(.v d,some v)::L2) H:=by
 have e:lT (L1++(Sl.v d,some v)::L2)=lT (L1++L2):=by rw[sD,sZ];rfl
 refine⟨h.fr,h.dk,by rw[e];exact h.nd,by rw[e];exact h.new,λp a=>?_⟩;rw[e];simp only[aW,aM] at a;rcases a with q | q | q
 .exact h.ok p (aL _ q)
 .subst q;exact⟨v,rfl,r⟩
 .exact h.ok p (aX _ q)
theorem DS.pushN (h:DS K B (L1++L2) H) (y:Ab V):DS K B (L1++(.n,y)::L2) H:=by
 have e:lT (L1++(Sl.n,y)::L2)=lT (L1++L2):=by rw[sD,sZ];rfl
 refine⟨h.fr,h.dk,by rw[e];exact h.nd,by rw[e];exact h.new,λp a=>?_⟩;rw[e];simp only[aW,aM] at a;rcases a with q | q | q
 .exact h.ok p (aL _ q)
 .subst q;trivial
 .exact h.ok p (aX _ q)
theorem DS.grow (h:DS K B L H) (s:pG H g) (j:Dk B.dk g):DS K B L g :=
 ⟨λb o e n=>s b o (h.fr b o e n),j,h.nd,h.new,λp a=>(h.ok p a).mono (.same s λ_ z=>z) (λ_ _ o q=>s _ o q)⟩
theorem DS.free (h:DS K B L H) (g:H a=none):B.H0 a=none/\a∉B.dk/\a∉lT L:=by
 have n:a∉B.dk:=λz=>by obtain⟨b,e⟩:=h.dk.some z;rw[e] at g;cases g
 refine⟨?_,n,λz=>by obtain⟨o,e,_⟩:=h.live z;rw[e] at g;cases g⟩;cases e:B.H0 a with
 | none=>rfl
 | some o=>rw[h.fr a o e n] at g;cases g
theorem DS.laid (h:DS K B L H) (g:H a=none):DS K B L (upd H a o) :=
 h.grow (λb u e=>by rw[nP (pJ e g)];exact e) (h.dk.upd (h.free g).2.1)
theorem DS.tup (h:DS K B (L1++L2) H){ds:Aa D}{j:Aa V}(g:H a=none) (r:Reps K (Al B (lT (L1++L2))) H ds j):DS K B (L1++(.v (.t ds),some (.ref a))::L2) (upd H a (.t j)) :=
 (h.laid g).push (.t oO (r.mono (.laid g λ_ z _=>z)))
theorem DS.make (h:DS K B (L1++L2) H) (g:H a=none) (r:∀ j,Kp (Al B (lT (L1++L2))) j H (upd H a o)->pX K j (upd H a o) a d):DS K B (L1++(.o d,some (.ref a))::L2) (upd H a o):=by
 obtain⟨f1,f2,k⟩:=h.free g;have e:lT (L1++(Sl.o d,some (.ref a))::L2)=lT L1++a::lT L2:=sD;have m:∀ b,b∈lT L1++a::lT L2↔b=a\/b∈lT (L1++L2):=λb=>by
  rw[sZ];simp only[aW,aM];constructor
  .rintro (q | q | q)
   .exact .inr (.inl q)
   .exact .inl q
   .exact .inr (.inr q)
  .rintro (q | q | q)
   .exact .inr (.inl q)
   .exact .inl q
   .exact .inr (.inr q)
 have s:Kp (Al B (lT (L1++L2))) (Al B (lT L1++a::lT L2)) H (upd H a o):=.laid g λb z n=>⟨z.1,λq=>(m b).mp q |>.elim n z.2.1,z.2.2⟩
 refine⟨λb u q n=>by rw[nP (pJ (h.fr b u q n) g)];exact h.fr b u q n,h.dk.upd f2,?_,λb i=>?_,λp f=>?_⟩
 .rw[e];have n:=h.nd;rw[sZ] at n k;obtain⟨v,x,y⟩:=bW.mp n;refine bW.mpr ⟨v,bP.mpr ⟨λz=>k (aX _ z),x⟩,λb i c t=>?_⟩;rcases aM.mp t with q | q
  .intro z;subst z;subst q;exact k (aL _ i)
  .exact y b i c q
 .rw[e] at i;rcases (m b).mp i with q | q
  .subst q;exact⟨f1,f2⟩
  .exact h.new b q
 .rw[e];simp only[aW,aM] at f;have old:∀ p∈L1++L2,uF K (Al B (lT L1++a::lT L2)) (upd H a o) p.1 p.2:=λp f=>(h.ok p f).mono s λb i w q=>by rw[nP (pJ q g)];exact q
  rcases f with q | q | q
  .exact old p (aL _ q)
  .subst q;exact⟨a,rfl,r _ s⟩
  .exact old p (aX _ q)
theorem DS.freeze (h:DS K B (g++(.o d,some v)::L2) H):DS K B (g++(.v d,some v)::L2) H:=by
 obtain⟨a,e,r⟩:=h.at;cases e;have c:lT (g++(Sl.o d,some (V.ref a))::L2)=lT g++a::lT L2:=sD;have hd:=h.drop;have f:=h.new a (by rw[c];simp);refine hd.push (r.rep (λb z=>⟨z.1,λq=>z.2.1 ?_,z.2.2⟩) ⟨f.2,λq=>?_,.inr f.1⟩)
 .rw[c];rw[sZ] at q;simp only[aW,aM] at q |-;rcases q with q | q
  .exact .inl q
  .exact .inr (.inr q)
 .have n:=h.nd;rw[c] at n;rw[sZ] at q;obtain⟨m,i,k⟩:=bW.mp n;rcases aW.mp q with q | q
  .exact k a q a aI rfl
  .exact (bP.mp i).1 q
theorem DS.write (h:DS K B (g++(.o d,some (.ref a))::L2) H) (r:∀ j,Kp (Al B (lT g++a::lT L2)) j H (upd H a o)->pX K j (upd H a o) a d'):DS K B (g++(.o d',some (.ref a))::L2) (upd H a o):=by
 have e:∀ d,lT (g++(Sl.o d,some (V.ref a))::L2)=lT g++a::lT L2:=λd=>sD
 have s:=h.new a (by rw[e];simp);obtain⟨u,t,A⟩:=h.live (a:=a) (by rw[e];simp);have k:Kp (Al B (lT g++a::lT L2)) (Al B (lT g++a::lT L2)) H (upd H a o):=.write t A λz=>z.2.1 (by simp)
 have n:=h.nd;rw[e] at n;have y:∀ b,b∈lT g\/b∈lT L2->b≠a:=λb c z=>by
  subst z;obtain⟨D,v,x⟩:=bW.mp n;rcases c with c | c
  .exact x b c b aI rfl
  .exact (bP.mp v).1 c
 refine⟨λb w q m=>?_,h.dk.upd s.2,by rw[e];exact n,λb c=>h.new b (by rw[e] at c |-;exact c),λp f=>?_⟩
 .have:b≠a:=λz=>by subst z;rw[s.1] at q;cases q
  rw[nP this];exact h.fr b w q m
 .rw[e];have old:∀ p,p∈g\/p∈L2->uF K (Al B (lT g++a::lT L2)) (upd H a o) p.1 p.2:=λp i=>by
   have:=h.ok p (by simp only[aW,aM];rcases i with q | q;exact .inl q;exact .inr (.inr q));rw[e] at this;refine this.mono k λb c w q=>?_
   rw[nP (y b ?_)]
   .exact q
   .rcases i with z | z
    .exact .inl (uC.mpr ⟨p,z,c⟩)
    .exact .inr (uC.mpr ⟨p,z,c⟩)
  simp only[aW,aM] at f;rcases f with q | q | q
  .exact old p (.inl q)
  .subst q;exact⟨a,rfl,r _ k⟩
  .exact old p (.inr q)
theorem DS.ownAt (h:DS K B (g++(.o d,some v)::L2) H):∃ a,v = .ref a/\pX K (Al B (lT g++a::lT L2)) H a d:=by
 obtain⟨a,e,r⟩:=h.at;cases e;rw[show lT (g++(Sl.o d,some (V.ref a))::L2)=lT g++a::lT L2 from sD] at r;exact⟨a,rfl,r⟩
theorem DS.perm (h:DS K B L H) (p:L.Perm M):DS K B M H:=by
 have e:(lT L).Perm (lT M):=p.filterMap Bt;refine⟨h.fr,h.dk,e.nodup_iff.mp h.nd,λa b=>h.new a (e.mem_iff.mpr b),λq c=>(h.ok q (p.mem_iff.mpr c)).mono (.all λa z=>⟨z.1,λw=>z.2.1 (e.mem_iff.mpr w),z.2.2⟩) λ_ _ _ w=>w⟩
end
section
theorem yN {g:Aa Sl}{σ:St}(C:g.length=σ.length){i:Nat}{s:Sl}(h:g[i]?=some s):∃ j y l,σ[i]?=some y/\j.length=i/\g.zip σ=j++(s,y)::l/\∀ o p,(g.set i o).zip (σ.set i p)=j++(o,p)::l:=by
 induction g generalizing σ i with
 | nil=>simp at h
 | cons r g e =>
  cases σ with
  | nil=>simp at C
  | cons z σ =>
   cases i with
   | zero=>simp at h;subst h;exact⟨[],z,g.zip σ,rfl,rfl,rfl,λ_ _=>rfl⟩
   | succ i =>
    obtain⟨j,y,l,a,b,c,d⟩:=e (σ:=σ) (by simpa using C) (i:=i) (by simpa using h);exact⟨(r,z)::j,y,l,by simpa using a,by simp[b],by simp[c],λo p=>by simp[d]⟩
theorem Dp {g:St}{i:Nat}{y:Ab V}(h:g[i]?=some y):g.set i y=g:=by
 obtain⟨a,rfl⟩:=aP.mp h;exact List.set_getElem_self a
end
abbrev oG:=Aa Ad->Aa Sl->(Sl->Aa Sl->Prop)->Prop
abbrev sW:=Aa Ad->Aa Sl->(Bool->Aa Sl->Prop)->Prop
def dE (K:nH) (g:oG):TE:=λb H Q=>∃ (B:Bs) (c:Aa Sl) (T:pN) (e:Sl->Aa Sl->Prop),c.length=b.length/\DS K B (c.zip b++T) H/\g B.dk c e /\
 ∀ r a v d,a.length=b.length->DS K B (a.zip b++(r,some v)::T) d->e r a->Q v d
def tE (K:nH) (g:sW):TT:=λc H Q=>∃ (B:Bs) (d:Aa Sl) (T:pN) (f:Bool->Aa Sl->Prop),d.length=c.length/\DS K B (d.zip c++T) H/\g B.dk d f /\
 ∀ b a e,a.length=c.length->DS K B (a.zip c++T) e->f b a->Q b e
theorem dE.elim {K:nH}{P:Prop}(h:dE K C o H Q) (f:∀ (B:Bs) (j:Aa Sl) (T:pN) (l:Sl->Aa Sl->Prop),j.length=o.length->DS K B (j.zip o++T) H->C B.dk j l ->(∀ r g v p,g.length=o.length->DS K B (g.zip o++(r,some v)::T) p->l r g->Q v p)->P):P:=by
 obtain⟨B,j,T,l,a,hd,b,k⟩:=h;exact f B j T l a hd b k
theorem tE.elim {K:nH}{P:Prop}(h:tE K r o H Q) (f:∀ (B:Bs) (j:Aa Sl) (T:pN) (l:Bool->Aa Sl->Prop),j.length=o.length->DS K B (j.zip o++T) H->r B.dk j l ->(∀ b g p,g.length=o.length->DS K B (g.zip o++T) p->l b g->Q b p)->P):P:=by
 obtain⟨B,j,T,l,a,hd,c,k⟩:=h;exact f B j T l a hd c k
abbrev PD (X:Cx) (e:Expr) (g:oG):Prop:=PE X e (dE X.K g)
abbrev uD (X:Cx) (e:Expr) (g:sW):Prop:=PT X e (tE X.K g)
abbrev Be (X:Cx) (e:Expr) (g:sW):Prop:=PW X e (tE X.K g)
theorem PE.mono {X:Cx}(h:PE X e t) (k:∀ g H Q,j g H Q->t g H Q):PE X e j:=λa s g H Q I q=>h a s g H Q I (k g H Q q)
theorem PT.mono {X:Cx}(h:PT X e t) (k:∀ g H Q,j g H Q->t g H Q):PT X e j:=λa s g H Q I q=>h a s g H Q I (k g H Q q)
theorem PW.mono {X:Cx}(h:PW X e t) (k:∀ g H Q,j g H Q->t g H Q):PW X e j:=λb a s g H Q I q=>h b a s g H Q I (k g H Q q)
def sd:Sl->Ab D
 | .v d=>some d
 | .o d=>some d
 | .n=>none
section
variable {K:nH}{L2:pN}
theorem Ld:lT (g++(Sl.v d,y)::L2)=lT (g++L2):=by rw[sD,sZ];rfl
theorem DS.thaw (h:DS K B (g++(r,some v)::L2) H) (e:sd r=some d):DS K B (g++(.v d,some v)::L2) H:=by
 cases r with
 | n=>cases e
 | v c=>cases e;exact h
 | o c=>cases e;exact h.freeze
theorem DS.one (h:DS K B (L++(r,some v)::T) H) (e:sd r=some d):DS K B (L++T) H/\Rep K (Al B (lT (L++T))) H d v:=by
 have a:=h.thaw e;exact⟨a.drop,a.valAt⟩
theorem DS.two (h:DS K B (L++(l,some u)::(r,some v)::T) H) (g:sd r=some d) (j:sd l=some e):DS K B (L++T) H/\Rep K (Al B (lT (L++T))) H d v/\Rep K (Al B (lT (L++T))) H e u:=by
 have m:=h.thaw j;have n:DS K B ((L++[(Sl.v e,some u)])++(r,some v)::T) H:=by simpa using m
 have a:=n.thaw g;have b:DS K B (L++(Sl.v e,some u)::(.v d,some v)::T) H:=by simpa using a
 have c:=b.valAt;have f:=a.valAt;have i:lT (L++(Sl.v d,some v)::T)=lT (L++T):=by rw[sD,sZ];rfl
 have k:lT ((L++[(Sl.v e,some u)])++T)=lT (L++T):=by
  rw[bM];show lT (L++(Sl.v e,some u)::T)=_;rw[sD,sZ];rfl
 rw[i] at c;rw[k] at f;exact⟨b.drop.drop,f,c⟩
theorem DS.mid (h:DS K B (x::(L++T)) H):DS K B (L++x::T) H:=h.perm jA.symm
theorem DS.front (h:DS K B (L++x::T) H):DS K B (x::(L++T)) H:=h.perm jA
theorem DS.pushF (h:DS K B L H) (r:Rep K (Al B (lT L)) H d v):DS K B ((.v d,some v)::L) H:=DS.push (L1:=[]) h r
theorem DS.tupF (h:DS K B L H) (g:H a=none) (r:Reps K (Al B (lT L)) H ds j):DS K B ((.v (.t ds),some (.ref a))::L) (upd H a (.t j)):=DS.tup (L1:=[]) h g r
theorem DS.lstF (h:DS K B L H) (j:H a=none) (r:Reps K (Al B (lT L)) H ds g):DS K B ((.o (.l ds),some (.ref a))::L) (upd H a (.l g)) :=
 DS.make (L1:=[]) h j λb k=>⟨g,oO,r.mono k⟩
theorem DS.dKF (h:DS K B L H) (g:H a=none) (e:ds.map (·.1)=kvs.map (·.1)) (r:Reps K (Al B (lT L)) H (ds.map (·.2)) (kvs.map (·.2))):DS K B ((.o (.k ds),some (.ref a))::L) (upd H a (.k kvs)) :=
 DS.make (L1:=[]) h g λb k=>⟨kvs,oO,e,r.mono k⟩
end
def pC (K:nH) (A:Ad->Prop) (H:Hp):D->V->Prop
 | .l ds,v=>∃ a f,v = .ref a/\H a=some (.l f)/\Reps K A H ds f
 | .k ds,v=>∃ a d,v = .ref a/\Rd H a (.k d)/\ds.map (·.1)=d.map (·.1)/\Reps K A H (ds.map (·.2)) (d.map (·.2))
 | .T ds,v=>∃ a d,v = .ref a/\Rd H a (.T d)/\ds.map (·.1)=d.map (·.1)/\Reps K A H (ds.map (·.2)) (d.map (·.2))
 | .e,v=>Rep K A H .e v
 | .b b,v=>Rep K A H (.b b) v
 | .int b,v=>Rep K A H (.int b) v
 | .str b,v=>Rep K A H (.str b) v
 | .r b,v=>Rep K A H (.r b) v
 | .t b,v=>Rep K A H (.t b) v
 | .con b,v=>Rep K A H (.con b) v
 | .c b,v=>Rep K A H (.c b) v
section
variable {K:nH}
theorem Rep.peek (h:Rep K A H d v):pC K A H d v:=by
 cases h with
 | l _ h r=>exact⟨_,_,rfl,h,r⟩
 | k _ h e r=>exact⟨_,_,rfl,h,e,r⟩
 | T _ h e r=>exact⟨_,_,rfl,h,e,r⟩
 | e=>exact .e
 | b=>exact .b _
 | int=>exact .int _
 | str=>exact .str _
 | r=>exact .r _
 | t h r=>exact .t h r
 | con h r=>exact .con h r
 | c h r=>exact .c h r
theorem pX.peek:∀ {d:D},pX K A H a d->pC K A H d (.ref a)
 | .l _,⟨b,h,r⟩=>⟨_,b,rfl,h,r⟩
 | .k _,⟨b,h,e,r⟩=>⟨_,b,rfl,.inl h,e,r⟩
 | .T _,⟨b,h,e,r⟩=>⟨_,b,rfl,.inl h,e,r⟩
theorem pC.lst_inv (h:pC K A H (.l ds) v):∃ a g,v = .ref a/\H a=some (.l g)/\Reps K A H ds g:=h
theorem pC.dK_inv (h:pC K A H (.k ds) v):∃ a g,v = .ref a/\Rd H a (.k g)/\ds.map (·.1)=g.map (·.1)/\Reps K A H (ds.map (·.2)) (g.map (·.2)):=h
theorem pC.dT_inv (h:pC K A H (.T ds) v):∃ a g,v = .ref a/\Rd H a (.T g)/\ds.map (·.1)=g.map (·.1)/\Reps K A H (ds.map (·.2)) (g.map (·.2)):=h
theorem pC.tup_inv (h:pC K A H (.t ds) v):∃ a g,v = .ref a/\H a=some (.t g)/\Reps K A H ds g:=Rep.tup_inv h
theorem pC.con_inv (h:pC K A H (.con ds) v):∃ a g,v = .ref a/\El K a g/\Reps K A H ds g:=Rep.con_inv h
theorem pC.scr_inv (h:pC K A H (.c ds) v):∃ a g,v = .ref a/\yE K H a g/\Reps K A H ds g:=Rep.scr_inv h
theorem pC.int_inv (h:pC K A H (.int i) v):v = .int i:=Rep.int_inv h
theorem pC.str_inv (h:pC K A H (.str i) v):v = .str i:=Rep.str_inv h
theorem pC.bl_inv (h:pC K A H (.b i) v):v = .b i:=Rep.bl_inv h
theorem pC.non_inv (h:pC K A H .e v):v = .e:=Rep.non_inv h
theorem pC.raw_inv (h:pC K A H (.r u) v):v=u:=Rep.raw_inv h
def at? (g:Aa Sl) (i:Nat):Ab D:=(g[i]?).bind sd
theorem DS.peek (l:g.length=j.length) (h:DS K B (g.zip j++T) H) (e:at? g i=some d):∃ v,j[i]?=some (some v)/\pC K (Al B (lT (g.zip j++T))) H d v:=by
 unfold at? at e;cases f:g[i]? with
 | none=>rw[f] at e;cases e
 | some s =>
  rw[f] at e;obtain⟨q,y,t,k,_,m,_⟩:=yN l f;have b:=h;rw[m] at b;have:=b.ok (s,y) (by simp);rw[<- m] at this;cases s with
  | n=>cases e
  | v c=>cases e;obtain⟨v,rfl,r⟩:=this;exact⟨v,k,r.peek⟩
  | o c=>cases e;obtain⟨a,rfl,r⟩:=this;exact⟨_,k,r.peek⟩
end
noncomputable def vd (i:Nat):oG:=λ_ a b=>match a[i]? with
 | some (.v d)=>b (.v d) a
 | some (.o d)=>b (.v d) (a.set i (.v d))
 | _=>False
def cd (d:D):oG:=λ_ b a=>a (.v d) b
section
variable {X:Cx}
theorem eH (i:Nat) (h:PE X (.Name x pos) (rC i):=by exact pv _):PD X (.Name x pos) (vd i):=h.mono λL H Q z=>z.elim λB D T M w hd c k=>by
 unfold vd at c;cases e:D[i]? with
 | none=>rw[e] at c;exact c.elim
 | some s =>
  rw[e] at c;obtain⟨f,y,m,A,_,G,q⟩:=yN w e;have b:DS X.K B (f++(s,y)::(m++T)) H:=by rw[G] at hd;simpa using hd
  cases s with
  | n=>exact c.elim
  | v d =>
   obtain⟨v,rfl,_⟩:=b.at;refine⟨v,A,k _ _ v H w ?_ c⟩;refine hd.push ?_;have:=b.valAt;rw[G];have t:lT ((f++(Sl.v d,some v)::m)++T)=lT (f++(m++T)):=by
    rw[bM,cT,Ld]
   rw[t];exact this
  | o d =>
   obtain⟨a,rfl,_⟩:=b.at;have E:=b.freeze;have F:(D.set i (.v d)).zip L=f++(.v d,some (.ref a))::m:=by
    have:=q (.v d) (some (.ref a));rw[Dp A] at this;exact this
   have u:DS X.K B ((D.set i (.v d)).zip L++T) H:=by rw[F];simpa using E
   refine⟨.ref a,A,k _ _ _ H (by rw[cB];exact w) ?_ c⟩;refine u.push ?_;have:=E.valAt;rw[F];have t:lT ((f++(Sl.v d,some (V.ref a))::m)++T)=lT (f++(m++T)):=by
    rw[bM,cT,Ld]
   rw[t];exact this
theorem D3 (h:PE X e (tC v)) (r:∀ K A H,Rep K A H d v):PD X e (cd d):=h.mono λm H Q a=>a.elim λB f T i b hd c k=>k _ f v H b (hd.push (r _ _ _)) c
theorem gD:PD X (.Constant (.int i) j pos) (cd (.int i)):=D3 tV λ_ _ _=>.int i
theorem qM:PD X (.Constant (.str x) j pos) (cd (.str x)):=D3 A7 λ_ _ _=>.str x
theorem Sr:PD X (.Constant (.bool x) j pos) (cd (.b x)):=D3 Dc λ_ _ _=>.b x
theorem Mh:PD X (.Constant .none j pos) (cd .e):=D3 Qc λ_ _ _=>.e
abbrev O2:=D->D->(Sl->Prop)->Prop
def qI (K:nH) (r:R2) (f:O2):Prop:=∀ (B:Bs) (L:pN) (H:Hp) (d e:D) (x y:V) (b:Sl->Prop) (Q:VK),DS K B L H->pC K (Al B (lT L)) H d x->pC K (Al B (lT L)) H e y->f d e b ->
 (∀ s v a,b s->DS K B ((s,some v)::L) a->Q v a)->r x y H Q
def d2 (f:O2) (g j:oG):oG:=λc m k=>g c m λh a=>j c a λi b=>match sd h,sd i with
 | some d,some e=>f d e λr=>k r b
 | _,_=>False
theorem Jy (o:qI X.K r f) (h:dE X.K (d2 f p C) l H Q):dE X.K p l H λx j=>dE X.K C l j λy g=>r x y g Q:=by
 obtain⟨B,N,T,O,w,hd,A,k⟩:=h;refine⟨B,N,T,_,w,hd,A,λq m x j D d1 u=>⟨B,m,(q,some x)::T,_,D,d1,u,λM n y g E d2 a=>?_⟩⟩;cases b:sd q with
 | none=>rw[b] at a;exact a.elim
 | some d =>
  cases c:sd M with
  | none=>rw[b,c] at a;exact a.elim
  | some e =>
   rw[b,c] at a;obtain⟨F,G,L⟩:=d2.two b c;exact o B _ g d e x y _ Q F G.peek L.peek a λs v t z i=>k s n v t E i.mid z
def Ei (f:O2) (i:Nat) (g:oG):oG:=λc b k=>(at? b i).isSome=true/\g c b λh a=>match at? a i,sd h with
 | some d,some e=>f d e λr=>k r a
 | _,_=>False
def Wk (f:O2) (g:oG) (i:Nat):oG:=λb k h=>g b k λc a=>match sd c,at? a i with
 | some d,some e=>f d e λr=>h r a
 | _,_=>False
theorem Ho (o:qI X.K r f) (h:dE X.K (Ei f i p) j H Q):rC i j H λx l=>dE X.K p j l λy g=>r x y g Q:=by
 obtain⟨B,O,T,S,t,hd,⟨E,G⟩,k⟩:=h;obtain⟨P,D⟩:=dR.mp E;obtain⟨x,u,_⟩:=hd.peek t D;refine⟨x,u,B,O,T,_,t,hd,G,λN c y g w d2 a=>?_⟩;cases m:at? c i with
 | none=>rw[m] at a;exact a.elim
 | some d =>
  cases n:sd N with
  | none=>rw[m,n] at a;exact a.elim
  | some e =>
   rw[m,n] at a;obtain⟨z,M⟩:=d2.one n;obtain⟨R,b,L⟩:=z.peek w m;rw[u] at b;cases b;exact o B _ g d e x y _ Q z L M.peek a λs v A F q=>k s c v A w q.mid F
theorem AL (o:qI X.K r f) (h:dE X.K (Wk f p i) j H Q):dE X.K p j H λx g=>rC i j g λy l=>r x y l Q:=by
 obtain⟨B,G,T,L,w,hd,A,k⟩:=h;refine⟨B,G,T,_,w,hd,A,λF b x g q d1 a=>?_⟩;cases c:sd F with
 | none=>rw[c] at a;exact a.elim
 | some d =>
  cases m:at? b i with
  | none=>rw[c,m] at a;exact a.elim
  | some e =>
   rw[c,m] at a;obtain⟨t,E⟩:=d1.one c;obtain⟨y,D,py⟩:=t.peek q m;exact⟨y,D,o B _ g d e x y _ Q t E.peek py a λs v u z n=>k s b v u q n.mid z⟩
theorem pH (o:oJ X (binaryOp op) r) (l:qI X.K r f) (i:Nat) (j:PD X b p) (g:PE X a (rC i):=by exact pv _):PD X (.BinOp a op b pos) (Ei f i p):=(S4 o g j).mono λ_ _ _ h=>Ho l h
theorem IQ (p:oJ X (compareOp op) r) (l:qI X.K r f) (g:PE X a (rC i)) (j:PD X b C) (o:behindInMarks op b=false:=by first | exact Ce _ | (with_unfolding_all rfl)):PD X (.Compare a [op] [b] pos) (Ei f i C) :=
 (Eg p g j o).mono λ_ _ _ h=>Ho l h
theorem nV (o:oJ X (binaryOp op) r) (l:qI X.K r f) (g:PD X a p) (j:PD X b C):PD X (.BinOp a op b pos) (d2 f p C):=(S4 o g j).mono λ_ _ _ h=>Jy l h
theorem Fg (p:oJ X (compareOp op) r) (l:qI X.K r f) (g:PD X a C) (j:PD X b I) (o:behindInMarks op b=false:=by first | exact Ce _ | (with_unfolding_all rfl)):PD X (.Compare a [op] [b] pos) (d2 f C I) :=
 (Eg p g j o).mono λ_ _ _ h=>Jy l h
def Es (t:oG):sW:=λc e d=>t c e λr a=>match r with
 | .v (.b b)=>d b a
 | _=>False
theorem L9 (h:tE X.K (Es t) j H Q):dE X.K t j H λx g=>∃ k,x = .b k/\Q k g:=by
 obtain⟨B,m,T,q,e,hd,f,k⟩:=h;refine⟨B,m,T,_,e,hd,f,λr c v g i d1 a=>?_⟩;cases r with
 | n=>exact a.elim
 | o d=>exact a.elim
 | v d =>
  cases d with
  | b b=>exact⟨b,d1.valAt.bl_inv,k b c g i d1.drop a⟩
  | _=>exact a.elim
theorem yS (p:oJ X (compareOp op) r) (l:qI X.K r f) (g:PE X a (rC i)) (j:PD X b C) (o:behindInMarks op b=false:=by first | exact Ce _ | (with_unfolding_all rfl)):uD X (.Compare a [op] [b] pos) (Es (Ei f i C)) :=
 (F9 p g j o).mono λc H Q h=>Ho l (L9 h)
theorem zK (p:oJ X (compareOp op) r) (l:qI X.K r f) (g:PD X a C) (j:PE X b (rC i)) (o:behindInMarks op b=false:=by first | exact Ce _ | (with_unfolding_all rfl)):uD X (.Compare a [op] [b] pos) (Es (Wk f C i)) :=
 (F9 p g j o).mono λc H Q h=>AL l (L9 h)
theorem sY (p:oJ X (compareOp op) r) (l:qI X.K r f) (g:PD X a C) (j:PD X b I) (o:behindInMarks op b=false:=by first | exact Ce _ | (with_unfolding_all rfl)):uD X (.Compare a [op] [b] pos) (Es (d2 f C I)) :=
 (F9 p g j o).mono λc H Q h=>by
  have:=L9 h;exact Jy l this
end
section
variable [DecidableEq κ]
noncomputable def nR (g:Aa (κ×D)) (k:κ):Ab D:=(g.find? λa=>decide (a.1=k)).map (·.2)
noncomputable def pZ (g:Aa (κ×D)) (k:κ) (d:D):Aa (κ×D):=if g.any (λa=>decide (a.1=k)) then g.map (λa=>if a.1=k then (a.1,d) else a) else g++[(k,d)]
theorem Ct:nR ([]:Aa (κ×D)) k=none:=rfl
theorem uM {k j:κ}{d:D}{r:Aa (κ×D)}:nR ((j,d)::r) k=if j=k then some d else nR r k:=by
 unfold nR;rw[List.find?_cons];by_cases h:j=k<;>simp[h]
theorem Im (k:κ):∀ g:Aa (κ×D),(g.any λl=>decide (l.1=k))=(nR g k).isSome
 | []=>rfl
 | (j,d)::r=>by
  rw[uM,iC,Im k r];by_cases h:j=k<;>simp[h]
theorem A8 (g:Aa (κ×D)) (k j:κ) (d:D):nR (pZ g k d) j=if k=j then some d else nR g j:=by
 unfold pZ;rw[Im];have a:∀ r:Aa (κ×D),nR (r.map λf=>if f.1=k then (f.1,d) else f) j=if k=j then (nR r j).map (λ_=>d) else nR r j:=by
  intro r;induction r with
  | nil=>simp[Ct]
  | cons p r b =>
   obtain⟨i,e⟩:=p;rw[bD];by_cases h:i=k
   .subst h;simp only[jS,uM,b];by_cases z:i=j<;>simp[z]
   .simp only[h,gQ,uM,b];by_cases z:i=j
    .subst z;simp[fQ h]
    .simp[z]
 have c:∀ r:Aa (κ×D),nR r k=none->nR (r++[(k,d)]) j=if k=j then some d else nR r j:=by
  intro r;induction r with
  | nil=>intro _;rw[hV,uM,Ct]
  | cons p r b =>
   obtain⟨i,e⟩:=p;rw[uM];by_cases h:i=k
   .simp[h]
   .rw[aG h];intro m;rw[cT,uM,b m,uM];by_cases z:i=j
    .subst z;simp[fQ h]
    .simp[z]
 cases e:nR g k with
 | none=>simp only[Option.isSome_none,cL,gQ];exact c g e
 | some w =>
  simp only[mK,jS,a];by_cases z:k=j
  .subst z;simp[e]
  .simp[z]
theorem Db (g:Aa (κ×D)) (k:κ) (d:D):(pZ g k d).length<=g.length+1:=by
 unfold pZ;split<;>simp
theorem JE (g:Aa (κ×D)) (k:κ) (d:D):(pZ g k d).map (·.1)=if k∈g.map (·.1) then g.map (·.1) else g.map (·.1)++[k]:=by
 unfold pZ;by_cases h:g.any (λc=>decide (c.1=k))=true
 .have a:k∈g.map (·.1):=by
   obtain⟨p,b,e⟩:=jB.mp h;exact aO.mpr ⟨p,b,fU e⟩
  rw[aQ h,aQ a,aU];apply eR;intro p _;simp only[Function.comp];split<;>rfl
 .have a:¬ k∈g.map (·.1):=λz=>by
   obtain⟨p,b,e⟩:=aO.mp z;exact h (jB.mpr ⟨p,b,by simp[e]⟩)
  rw[aG h,aG a];simp
end
section
variable [DecidableEq κ] {K:nH}
theorem Jv:∀ {ds:Aa (κ×D)}{g:Aa (κ×V)},ds.map (·.1)=g.map (·.1)->Reps K A H (ds.map (·.2)) (g.map (·.2))->∀ k,(∀ d,nR ds k=some d->∃ v,qA g k=some v/\Rep K A H d v)/\(nR ds k=none->qA g k=none)
 | [],[],_,_,k=>⟨λd h=>by simp[Ct] at h,λ_=>rfl⟩
 | [],_::_,e,_,_=>by simp at e
 | _::_,[],e,_,_=>by simp at e
 | (i,d)::ds,(j,v)::g,e,r,k=>by
  simp only[bD,fY] at e;obtain⟨a,b⟩:=e;subst a;cases r with
  | cons h r =>
   have c:=Jv b r k;rw[uM];by_cases z:i=k
   .rw[aQ z,vB z];exact⟨λf q=>by cases q;exact⟨v,rfl,h⟩,λq=>by cases q⟩
   .rw[aG z,uX z];exact c
theorem Nz {ds:Aa (κ×D)}{l:Aa (κ×V)}(e:ds.map (·.1)=l.map (·.1)) (r:Reps K A H (ds.map (·.2)) (l.map (·.2))){k:κ}{d:D}{v:V}(h:Rep K A H d v) :
  (pZ ds k d).map (·.1)=(sA l k v).map (·.1)/\Reps K A H ((pZ ds k d).map (·.2)) ((sA l k v).map (·.2)):=by
 have m:∀ (ds:Aa (κ×D)) (l:Aa (κ×V)),ds.map (·.1)=l.map (·.1)->(ds.any λa=>decide (a.1=k))=l.any λa=>decide (a.1=k):=by
  intro ds;induction ds with
  | nil=>intro l e;cases l with
   | nil=>rfl
   | cons _ _=>simp at e
  | cons p ds b=>intro l e;cases l with
   | nil=>simp at e
   | cons q l =>
    simp only[bD,fY] at e;rw[iC,iC,b l e.2,e.1]
 have n:∀ (ds:Aa (κ×D)) (l:Aa (κ×V)),ds.map (·.1)=l.map (·.1)->Reps K A H (ds.map (·.2)) (l.map (·.2)) ->
   (ds.map λa=>if a.1=k then (a.1,d) else a).map (·.1)=(l.map λa=>if a.1=k then (a.1,v) else a).map (·.1) /\
   Reps K A H ((ds.map λa=>if a.1=k then (a.1,d) else a).map (·.2)) ((l.map λa=>if a.1=k then (a.1,v) else a).map (·.2)):=by
  intro ds;induction ds with
  | nil=>intro l e r;cases l with
   | nil=>exact⟨rfl,.nil⟩
   | cons _ _=>simp at e
  | cons p ds b=>intro l e r;cases l with
   | nil=>simp at e
   | cons q l =>
    simp only[bD,fY] at e;cases r with
    | cons g r =>
     obtain⟨c,f⟩:=b l e.2 r;obtain⟨i,s⟩:=p;obtain⟨j,v0⟩:=q;obtain⟨rfl,t⟩:=e;by_cases z:i=k
     .simp only[bD,z,jS];exact⟨by rw[c],.cons h f⟩
     .simp only[bD,z,gQ];exact⟨by rw[c],.cons g f⟩
 unfold pZ sA;rw[m ds l e];by_cases z:(l.any λa=>decide (a.1=k))=true
 .rw[aQ z,aQ z];exact n ds l e r
 .rw[aG z,aG z];simp only[aT,bD,kM];exact⟨by rw[e],r.append (.cons h .nil)⟩
end
section
variable {X:Cx}{K:nH}
def T6 (K:nH):R2:=λx y H Q=>∃ a b c,x = .ref a/\y = .ref b/\oP K H a []/\oP K H b c/\Q (.ref b) H
theorem HA:oJ X (binaryOp .Add) (T6 X.K):=by
 intro w s Z H x y v u Q I N O h;obtain⟨a,b,Y,rfl,rfl,B,D,q⟩:=h;cases N;cases O;obtain⟨E,M,G,_⟩:=I.tuple B;obtain⟨t,W,L,_⟩:=I.tuple D;cases M;obtain⟨⟨R,A,V,P⟩,m,k,n,hd⟩:=id G;obtain⟨⟨S,f,z,i⟩,e,c,F,d⟩:=id L;simp only at k hd c d;subst k hd c d;exact concat_meets ⟨_,m,rfl⟩ ⟨_,e,rfl⟩ noFill_tuple_add seq_tuple_add kK kE (jX _ _)
  (tuple_addW0 a b _ _ n F A f P i (by simp)) ⟨m,e,⟨.ref b,H,I,rfl,q⟩⟩
def Vq (K:nH):R2:=λx y H Q=>(uQ λi j=>.int (i+j)) x y H Q\/(∃ i j,x = .str i/\y = .str j/\i.length+j.length<=sizeLine/\Q (.str (i++j)) H)\/U1 x y H Q\/Pp K x y H Q\/T6 K x y H Q
theorem oE:oJ X (binaryOp .Add) (Vq X.K):=LZ.or (ES.or (NQ.or (Zs.or HA)))
theorem Dh (h:n<=100000):n<=sizeLine:=bS h (by decide)
def JK:O2
 | .int i,.int j,a=>a (.v (.int (i+j)))
 | .str i,.str j,a=>i.length+j.length<=100000/\a (.v (.str (i++j)))
 | .l b,.l c,a=>b.length+c.length<=100000/\a (.o (.l (b++c)))
 | .t b,.t c,a=>b.length+c.length<=100000/\a (.v (.t (b++c)))
 | _,_,_=>False
theorem oF:qI K (Vq K) JK:=by
 intro B L H d e x y A Q hd n s c k;cases d<;>first | exact False.elim c | skip<;>cases e<;>first | exact False.elim c | skip
 .cases n;cases s;exact .inl ⟨_,_,rfl,rfl,k _ _ H c (hd.pushF (.int _))⟩
 .cases n;cases s;exact .inr (.inl ⟨_,_,rfl,rfl,Dh c.1,k _ _ H c.2 (hd.pushF (.str _))⟩)
 .obtain⟨a,m,rfl,t,f⟩:=n.tup_inv;obtain⟨b,i,rfl,u,h⟩:=s.tup_inv;have v:m.length+i.length<=100000:=by rw[<- f.length,<- h.length];exact c.1
  by_cases z:m=[]
  .subst z;have:=f.nil_iff.mp rfl;subst this;exact .inr (.inr (.inr (.inr ⟨a,b,i,rfl,rfl,oP.of t,oP.of u,k _ _ H c.2 (hd.pushF s)⟩)))
  .refine .inr (.inr (.inr (.inl ⟨a,b,m,i,rfl,rfl,oP.of t,oP.of u,z,Dh v,λq=>?_,λ_ p w=>k _ _ _ c.2 (hd.tupF w (f.append h))⟩)));subst q;have:=h.nil_iff.mp rfl;subst this;exact k _ _ H c.2 (by rw[cO];exact hd.pushF n)
 .obtain⟨a,m,rfl,t,f⟩:=n.lst_inv;obtain⟨b,i,rfl,u,h⟩:=s.lst_inv;have v:m.length+i.length<=100000:=by rw[<- f.length,<- h.length];exact c.1
  exact .inr (.inr (.inl ⟨a,b,m,i,rfl,rfl,t,u,Dh v,λp w=>k _ _ _ c.2 (hd.lstF w (f.append h))⟩))
def fI (C:Int->Int->Prop) (g:Int->Int->D):O2
 | .int i,.int j,a=>C i j/\a (.v (g i j))
 | _,_,_=>False
theorem Ms (p:∀ i j,C i j->l i j) (r:∀ A H i j,Rep K A H (g i j) (o i j)):qI K (rI l o) (fI C g):=by
 intro B L H d e x y f Q hd b c a k;cases d<;>first | exact False.elim a | skip<;>cases e<;>first | exact False.elim a | skip
 cases b;cases c;exact⟨_,_,rfl,rfl,p _ _ a.1,k _ _ H a.2 (hd.pushF (r _ _ _ _))⟩
def Cm (g:Int->Int->D):O2
 | .int i,.int j,a=>a (.v (g i j))
 | _,_,_=>False
theorem Ek (o:∀ A H i j,Rep K A H (g i j) (l i j)):qI K (uQ l) (Cm g):=by
 intro B L H d e x y f Q hd b c a k;cases d<;>first | exact False.elim a | skip<;>cases e<;>first | exact False.elim a | skip
 cases b;cases c;exact⟨_,_,rfl,rfl,k _ _ H a (hd.pushF (o _ _ _ _))⟩
abbrev JI:O2:=Cm λi j=>.int (i-j)
theorem Gp:qI K (uQ λi j=>.int (i-j)) JI:=Ek λ_ _ _ _=>.int _
def R8:R2:=λx y H Q=>(rI Gu λi j=>.int (i*j)) x y H Q\/Ve x y H Q
theorem Fq:oJ X (binaryOp .Mult) R8:=PV.or Zi
def Y2:O2
 | .int i,.int j,a=>((-(2 ^ 64)<i/\i<2 ^ 64)\/(-(2 ^ 64)<j/\j<2 ^ 64))/\a (.v (.int (i*j)))
 | .l b,.int k,a=>0<=k/\k<=1000/\b.length<=100/\a (.o (.l (List.replicate k.toNat b).flatten))
 | _,_,_=>False
theorem Uc (r:Reps K A H ds g):∀ k:Nat,Reps K A H (List.replicate k ds).flatten (List.replicate k g).flatten
 | 0=>.nil
 | k+1=>by rw[dO,dO,iM,iM];exact r.append (Uc r k)
theorem F2:qI K R8 Y2:=by
 intro B L H d e x y w Q hd h i b k;cases d<;>first | exact False.elim b | skip<;>cases e<;>first | exact False.elim b | skip
 .cases h;cases i;exact .inl ⟨_,_,rfl,rfl,b.1,k _ _ H b.2 (hd.pushF (.int _))⟩
 .cases i
  rename_i n
  obtain⟨a,m,rfl,q,f⟩:=h.lst_inv;obtain⟨u,v,s,b⟩:=b;have c:m.length<=100:=by rw[<- f.length];exact s
  refine .inr ⟨a,n,m,rfl,rfl,q,by omega,by omega,bS (Nat.mul_le_mul c (show n.toNat<=1000 by omega)) (by decide),λp t=>?_⟩;exact k _ _ _ b (hd.lstF t (Uc f _))
theorem AM {j:Int}(g:0<j) (h:j<2 ^ 64):j.natAbs.log2<9000:=by
 have:j.natAbs<2 ^ 64:=by omega
 exact bT ((Nat.log2_lt (by omega)).mpr this) (by decide)
theorem zP:oJ X (binaryOp .FloorDiv) (rI (λ_ j=>0<j/\j<2 ^ 64) λi j=>.int (i/j)):=Hr λi j _ _ _ _ _ a q=>by
 refine floordiv_int (by omega) ?_ (.inl (PyProof.noPylong_of_log2 (AM a.1 a.2)));rw[Int.fdiv_eq_ediv_of_nonneg _ (by omega)];exact q
abbrev LQ:O2:=fI (λ_ j=>0<j/\j<2 ^ 64) λi j=>.int (i/j)
theorem zR:qI K (rI (λ_ j=>0<j/\j<2 ^ 64) λi j=>.int (i/j)) LQ:=Ms (λ_ _ h=>h) λ_ _ _ _=>.int _
abbrev NU:O2:=fI (λ_ j=>0<j) λi j=>.int (i%j)
theorem pO:qI K (rI (λ_ j=>0<j) λi j=>.int (i%j)) NU:=Ms (λ_ _ h=>h) λ_ _ _ _=>.int _
abbrev AJ:O2:=fI (λi j=>0<=j/\j<=1000000/\i.natAbs<2 ^ 64) λi j=>.int (i ^ j.toNat)
theorem Kq:qI K (rI Qt λi j=>.int (i ^ j.toNat)) AJ:=Ms (λ_ _ h=>h) λ_ _ _ _=>.int _
abbrev HI:O2:=Cm λi j=>.b (decide (i<j))
theorem GQ:qI K (uQ λi j=>.b (decide (i<j))) HI:=Ek λ_ _ _ _=>.b _
abbrev Xg:O2:=Cm λi j=>.b (decide (i<=j))
theorem GB:qI K (uQ λi j=>.b (decide (i<=j))) Xg:=Ek λ_ _ _ _=>.b _
abbrev Zp:O2:=Cm λi j=>.b (decide (j<i))
theorem wZ:qI K (uQ λi j=>.b (decide (j<i))) Zp:=Ek λ_ _ _ _=>.b _
abbrev BU:O2:=Cm λi j=>.b (decide (j<=i))
theorem EZ:qI K (uQ λi j=>.b (decide (j<=i))) BU:=Ek λ_ _ _ _=>.b _
end
noncomputable def vI:D->Ab hH
 | .int i=>some (.inl i)
 | .str x=>some (.inr x)
 | _=>none
def Bk:Aa D->Ab (Aa hH)
 | []=>some []
 | d::ds=>match vI d,Bk ds with
  | some k,some a=>some (k::a)
  | _,_=>none
noncomputable def nb (neg b:Bool):Bool:=if neg then !b else b
section
variable {X:Cx}{K:nH}
theorem F4 (h:vI d=some k) (r:pC K A H d v):v=kV k:=by
 cases d<;>cases h
 .exact r.int_inv
 .exact r.str_inv
theorem Rr (h:Bk ds=some g) (j:Reps K A H ds l):l=g.map kV:=by
 induction ds generalizing g l with
 | nil=>cases j;cases h;rfl
 | cons d ds c =>
  cases j with
  | cons r j =>
  have h:=(show (match vI d,Bk ds with | some k,some g=>some (k::g) | _,_=>none)=some g from h);cases a:vI d with
  | none=>rw[a] at h;cases h
  | some k =>
   cases b:Bk ds with
   | none=>rw[a,b] at h;cases h
   | some e =>
    rw[a,b] at h;cases h;rw[F4 a r.peek,c b j];rfl
def Dl:D->D->Ab (Ab D)
 | .k a,d=>(vI d).map (nR a)
 | .T a,.t b=>(Bk b).map (nR a)
 | _,_=>none
theorem Mt (h:Dl d e=some o) (g:pC K A H d x) (j:pC K A H e y):∃ a w,x = .ref a/\wR H a y w/\(∀ c,o=some c->∃ v,w=some v/\Rep K A H c v)/\(o=none->w=none):=by
 cases d with
 | k q =>
  obtain⟨a,B,rfl,i,f,z⟩:=g.dK_inv;obtain⟨k,n,rfl⟩:=dF.mp h;rw[F4 n j];obtain⟨s,u⟩:=Jv f z k;exact⟨a,_,rfl,.inl ⟨B,k,i,rfl,rfl⟩,λc m=>s c m,u⟩
 | T q =>
  obtain⟨a,B,rfl,i,f,z⟩:=g.dT_inv;cases e with
  | t G =>
   obtain⟨b,F,rfl,D,E⟩:=j.tup_inv;obtain⟨k,n,rfl⟩:=dF.mp h;rw[Rr n E] at D;obtain⟨s,u⟩:=Jv f z k;exact⟨a,_,rfl,.inr ⟨B,k,b,i,rfl,D,rfl⟩,λc m=>s c m,u⟩
  | _=>cases h
 | _=>cases h
def Q0:R2:=λx y H Q=>∃ a v,x = .ref a/\wR H a y (some v)/\Q v H
theorem MP (j:X.A.units+1<cLine):xO X Q0:=by
 intro value slice b s m H x y v u Q I i k h f;obtain⟨a,w,rfl,g,q⟩:=h;cases i;unfold subscriptTail;refine aB ?_;rw[getitemInPython_of_ne (S2 I g).not_modules];refine aB (wpAny_specialOf (S2 I g) PySem.F.slot_dict_getitem.lookup ?_);have fin:wpAny (model X.prog X.w) X.A (subscripted slice false (.ref a) u) (λr c=>wpAny (model X.prog X.w) X.A (letTemporaryGo value (.ref a) r >>= λ_=>pure r) (EP X b m Q) X.xe c) X.xe s:=by
  rw[f];exact wpAny_operating (NI j I g k λt n e d=>aB (wpAny_letTemporaryGo (aF ⟨w,H,e,d,q⟩)))
 first
  | exact aF (aB fin)
  | exact aB (aF (aB fin))
  | exact aB fin
def L6 (K:nH):R2:=λx y H Q=>Oi K x y H Q\/Q0 x y H Q
theorem Sc (g:X.A.units+1<cLine):xO X (L6 X.K):=QK.or (MP g)
def Bo:O2:=λd e b=>match d,e with
 | .l a,.int i=>∃ c,pY a i=some c/\b (.v c)
 | .t a,.int i=>∃ c,pY a i=some c/\b (.v c)
 | .con a,.int i=>∃ c,pY a i=some c/\b (.v c)
 | .c a,.int i=>∃ c,pY a i=some c/\b (.v c)
 | .str z,.int i=>z.length<=100000/\∃ c,pY z.cps.toList i=some c/\b (.v (.str ⟨#[c]⟩))
 | d,e=>∃ c,Dl d e=some (some c)/\b (.v c)
theorem Hy (r:Reps K A H ds g) (h:pY ds i=some c):∃ v,pY g i=some v/\Rep K A H c v:=by
 unfold pY at h |-;rw[<- r.length];cases e:vU ds.length i with
 | none=>rw[e] at h;cases h
 | some j =>
  rw[e] at h;obtain⟨v,a,b⟩:=r.get (i:=j) h;exact⟨v,a,b⟩
theorem Sg:qI K (L6 K) Bo:=by
 intro B L H d e x y D Q hd t u b k;have f:(∃ c,Dl d e=some (some c)/\D (.v c))->L6 K x y H Q:=λz=>by
  obtain⟨c,h,b⟩:=z;obtain⟨a,w,rfl,g,i,_⟩:=Mt h t u;obtain⟨v,rfl,m⟩:=i c rfl;exact .inr ⟨a,v,rfl,g,k _ _ H b (hd.pushF m)⟩
 cases d<;>first | exact f b | skip
 .cases e<;>first | exact f b | skip
  cases u;cases t;obtain⟨A,c,h,b⟩:=b;exact .inl (.inr (.inr ⟨_,_,c,rfl,rfl,Dh A,h,k _ _ H b (hd.pushF (.str _))⟩))
 .obtain⟨a,s,rfl,i,q⟩:=t.tup_inv;cases e<;>first | exact f b | skip
  cases u;obtain⟨c,h,b⟩:=b;obtain⟨v,n,m⟩:=Hy q h;exact .inl (.inr (.inl ⟨a,s,_,v,rfl,rfl,oP.of i,n,k _ _ H b (hd.pushF m)⟩))
 .obtain⟨a,s,rfl,i,q⟩:=t.lst_inv;cases e<;>first | exact f b | skip
  cases u;obtain⟨c,h,b⟩:=b;obtain⟨v,n,m⟩:=Hy q h;exact .inl (.inl ⟨a,s,_,v,rfl,rfl,nX.of i,n,k _ _ H b (hd.pushF m)⟩)
 .obtain⟨a,s,rfl,i,q⟩:=t.scr_inv;cases e<;>first | exact f b | skip
  cases u;obtain⟨c,h,b⟩:=b;obtain⟨v,n,m⟩:=Hy q h;exact .inl (.inl ⟨a,s,_,v,rfl,rfl,i.sqL,n,k _ _ H b (hd.pushF m)⟩)
 .obtain⟨a,s,rfl,i,q⟩:=t.con_inv;cases e<;>first | exact f b | skip
  cases u;obtain⟨c,h,b⟩:=b;obtain⟨v,n,m⟩:=Hy q h;exact .inl (.inr (.inl ⟨a,s,_,v,rfl,rfl,i.sqT,n,k _ _ H b (hd.pushF m)⟩))
theorem oK (o:X.A.units+1<cLine) (g:PD X a p) (j:PD X b r) (l:Bb b:=by exact λ_ _=>rfl):PD X (.Subscript a b pos) (d2 Bo p r) :=
 (wK (Sc o) g j l).mono λ_ _ _ h=>Jy Sg h
def Kk (neg:Bool):R2:=λy x H Q=>∃ a o,x = .ref a/\wR H a y o/\Q (.b (nb neg o.isSome)) H
theorem ND (j:X.A.units+1<cLine):oJ X (compareOp .In) (Kk false):=by
 intro c s k H x y v u Q I e f h;obtain⟨a,o,rfl,g,q⟩:=h;cases f;exact HJ j I g e λi d=>⟨.b o.isSome,H,d,rfl,q⟩
theorem IS (j:X.A.units+1<cLine):oJ X (compareOp .NotIn) (Kk true):=by
 intro c s k H x y v u Q I e f h;obtain⟨a,o,rfl,g,q⟩:=h;cases f;exact BK j I g e λi d=>⟨.b (!o.isSome),H,d,rfl,q⟩
def Mr (neg:Bool):R2:=λx y H Q=>∃ i j,x = .str i/\y = .str j/\Q (.b (nb neg (!(Builtin.Str.occurrences j i 0 j.length 1).isEmpty))) H
def E3 (K:nH) (neg:Bool):R2:=λx y H Q=>Gn K neg x y H Q\/Mr neg x y H Q\/Kk neg x y H Q
theorem GY (g:X.A.units+1<cLine):oJ X (compareOp .In) (E3 X.K false):=LH.or ((show oJ X (compareOp .In) (Mr false) from Tr).or (ND g))
theorem wS (g:X.A.units+1<cLine):oJ X (compareOp .NotIn) (E3 X.K true):=Pz.or ((show oJ X (compareOp .NotIn) (Mr true) from HB).or (IS g))
noncomputable def yK:D->Ab V
 | .e=>some .e
 | .b b=>some (.b b)
 | .int i=>some (.int i)
 | .str x=>some (.str x)
 | _=>none
def Au:Aa D->Ab (Aa V)
 | []=>some []
 | d::ds=>match yK d,Au ds with
  | some v,some a=>some (v::a)
  | _,_=>none
theorem Pf {l:Type}{f:l->D}{g:l->V}(h:∀ x,yK (f x)=some (g x)):∀ j:Aa l,Au (j.map f)=some (j.map g)
 | []=>rfl
 | x::j=>by
  show (match yK (f x),Au (j.map f) with | some v,some a=>some (v::a) | _,_=>none)=_;rw[h x,Pf h j];rfl
theorem Fw (h:yK d=some u) (r:pC K A H d v):v=u/\rR u=true:=by
 cases d<;>cases h<;>cases r<;>exact⟨rfl,rfl⟩
theorem FH (h:Au ds=some j) (g:Reps K A H ds l):l=j/\j.all rR=true:=by
 induction ds generalizing j l with
 | nil=>cases g;cases h;exact⟨rfl,rfl⟩
 | cons d ds m =>
  cases g with
  | cons r g =>
  have h:=(show (match yK d,Au ds with | some v,some l=>some (v::l) | _,_=>none)=some j from h);cases a:yK d with
  | none=>rw[a] at h;cases h
  | some k =>
   cases b:Au ds with
   | none=>rw[a,b] at h;cases h
   | some n =>
    rw[a,b] at h;cases h;obtain⟨c,e⟩:=Fw a r.peek;obtain⟨f,i⟩:=m b g;exact⟨by rw[c,f],by rw[lO,e,i];rfl⟩
def Ja (neg:Bool) (d:D) (g:Aa D) (j:Sl->Prop):Prop:=∃ v a,yK d=some v/\Au g=some a/\j (.v (.b (nb neg (Cg v a))))
def Z0 (neg:Bool):O2:=λd e c=>match e with
 | .l a=>Ja neg d a c
 | .t a=>Ja neg d a c
 | .con a=>Ja neg d a c
 | .str j=>∃ i,d = .str i/\c (.v (.b (nb neg (!(Builtin.Str.occurrences j i 0 j.length 1).isEmpty))))
 | e=>∃ o,Dl e d=some o/\c (.v (.b (nb neg o.isSome)))
theorem vQ (neg:Bool):qI K (E3 K neg) (Z0 neg):=by
 intro B L H d e x y G Q hd E s h k;have seq:∀ (a:Ad) (F:Aa D) (t:Aa V),Ja neg d F G->y = .ref a->(nX K H a t\/oP K H a t)->Reps K (Al B (lT L)) H F t->E3 K neg x y H Q:=by
  rintro a F t ⟨v,m,f,z,M⟩ rfl O r;obtain⟨P,R⟩:=Fw f E;obtain⟨S,W⟩:=FH z r;subst P S;exact .inl ⟨a,t,rfl,O,R,W,k _ _ H M (hd.pushF (.b _))⟩
 have u:(∃ o,Dl e d=some o/\G (.v (.b (nb neg o.isSome))))->E3 K neg x y H Q:=λA=>by
  obtain⟨o,N,h⟩:=A;obtain⟨a,w,rfl,g,f,z⟩:=Mt N s E;have e:o.isSome=w.isSome:=by
   cases o with
   | none=>rw[z rfl];rfl
   | some c=>obtain⟨v,rfl,_⟩:=f c rfl;rfl
  exact .inr (.inr ⟨a,w,rfl,g,by rw[<- e];exact k _ _ H h (hd.pushF (.b _))⟩)
 cases e<;>first | exact u h | skip
 .obtain⟨i,rfl,h⟩:=h;cases E;cases s;exact .inr (.inl ⟨_,_,rfl,rfl,k _ _ H h (hd.pushF (.b _))⟩)
 .obtain⟨a,m,n,f,q⟩:=s.tup_inv;exact seq a _ m h n (.inr (oP.of f)) q
 .obtain⟨a,m,n,f,q⟩:=s.lst_inv;exact seq a _ m h n (.inl (nX.of f)) q
 .obtain⟨a,m,n,f,q⟩:=s.con_inv;exact seq a _ m h n (.inr f.sqT) q
end
mutual
def py:D->PyData
 | .e=>.none
 | .b b=>.bool b
 | .int i=>.int i
 | .str x=>.str x
 | .t a=>.tuple (zZ a)
 | .l a=>.list (zZ a)
 | .con a=>.tuple (zZ a)
 | .c a=>.list (zZ a)
 | _=>.none
def zZ:Aa D->Aa PyData
 | []=>[]
 | d::ds=>py d::zZ ds
end
mutual
def rH:D->Bool
 | .e=>true
 | .b _=>true
 | .int _=>true
 | .str x=>PyData.strOk x
 | .t a=>zT a
 | .l a=>zT a
 | .con a=>zT a
 | .c a=>zT a
 | _=>false
def zT:Aa D->Bool
 | []=>true
 | d::ds=>rH d&&zT ds
end
section
variable {X:Cx}{K:nH}
mutual
theorem Ts:∀ {d:D}{v:V},Rep K A H d v->rH d=true->DatV K H v (py d)
 | _,_,.e,_=>.e
 | _,_,.b b,_=>.b b
 | _,_,.int i,_=>.int i
 | _,_,.str x,_=>.str x
 | _,_,.r v,e=>by simp[rH] at e
 | _,_,.t h r,e=>.t (oP.of h) (D2 r (by simpa [rH] using e))
 | _,_,.con h r,e=>.t h.sqT (D2 r (by simpa [rH] using e))
 | _,_,.l _ h r,e=>.l (nX.of h) (D2 r (by simpa [rH] using e))
 | _,_,.c h r,e=>.l h.sqL (D2 r (by simpa [rH] using e))
 | _,_,.k _ _ _ _,e=>by simp[rH] at e
 | _,_,.T _ _ _ _,e=>by simp[rH] at e
theorem D2:∀ {ds:Aa D}{g:Aa V},Reps K A H ds g->zT ds=true->DatVs K H g (zZ ds)
 | _,_,.nil,_=>.nil
 | _,_,.cons h r,e=>by
  rw[zT,cX] at e;exact .cons (Ts h e.1) (D2 r e.2)
end
theorem S6 (h:pC K A H d v) (e:rH d=true):DatV K H v (py d):=by
 cases d with
 | l _=>obtain⟨a,b,rfl,h,r⟩:=h.lst_inv;exact .l (nX.of h) (D2 r (by simpa [rH] using e))
 | k _=>simp[rH] at e
 | T _=>simp[rH] at e
 | _=>exact Ts h e
mutual
theorem L7:∀ {d:D},rH d=true->(py d).canLay0=true
 | .e,_=>rfl
 | .b _,_=>rfl
 | .int _,_=>rfl
 | .str x,e=>by simpa [py,PyData.canLay0,rH] using e
 | .t a,e=>by simp only[py,PyData.canLay0];exact F5 (by simpa [rH] using e)
 | .con a,e=>by simp only[py,PyData.canLay0];exact F5 (by simpa [rH] using e)
 | .l a,e=>by simp only[py,PyData.canLay0];exact F5 (by simpa [rH] using e)
 | .c a,e=>by simp only[py,PyData.canLay0];exact F5 (by simpa [rH] using e)
 | .r _,e=>by simp[rH] at e
 | .k _,e=>by simp[rH] at e
 | .T _,e=>by simp[rH] at e
theorem F5:∀ {ds:Aa D},zT ds=true->PyData.canLayAll0 (zZ ds)=true
 | [],_=>rfl
 | d::ds,e=>by
  rw[zT,cX] at e;simp only[zZ,PyData.canLayAll0,L7 e.1,F5 e.2,Bool.and_self]
end
def N3 (v:Bool):R2:=λx y H Q=>∃ (a b:Ad) (c d:Aa (hH×V)),x = .ref a/\y = .ref b/\Rd H a (.k c)/\Rd H b (.k d)/\c.length=d.length /\
 (∀ p∈c,∃ w,qA d p.1=some w/\rR p.2=true/\rR w=true/\sC p.2 w=true)/\Q (.b v) H
theorem N0 {A:Around}{s:Ae}{g:Aa (hH×V)}{o:Aa (hH×Ac)}(C:KV g o) (r:Aa (hH×V)) (j:Aa (hH×Ac)) (h:KV r j)
  (l:∀ p∈r,∃ w,qA g p.1=some w/\rR p.2=true/\rR w=true/\sC p.2 w=true):PySem.W.KeqHits A s o j true:=by
 induction h with
 | nil=>exact .nil
 | @cons a b r j m B q =>
  obtain⟨k,v⟩:=a;obtain⟨t,z⟩:=b;obtain⟨e,u⟩:=m;have e:k=t:=e;subst e;obtain⟨w,hw,f1,f2,i⟩:=l (k,v) aI;have d:=C.val k;rw[hw] at d;obtain⟨y,f,x⟩:=d.some_of;have c:SeqAt.EqAt A s z y (sC v w):=Lq u x f1 f2;rw[i] at c;have:=PySem.W.KeqHits.hit f c (q λp n=>l p (aV _ n));rw[Bool.true_and] at this;exact this
theorem OX (g:X.A.units<cLine):oJ X (compareOp .NotEq) (N3 false):=by
 intro e s L H x y v u Q I D E h;obtain⟨a,b,d,B,rfl,rfl,t,w,c,z,q⟩:=h;cases D;cases E;obtain⟨G,d1,k,f,m⟩:=uE I.hok t;obtain⟨K,d2,F,i,n⟩:=uE I.hok w;have c:k.length=F.length:=by rw[<- f.length,<- i.length];exact c
 refine PySem.W.keq_ne d1 d2 m n g (λ_=>N0 i d k f z) ⟨.b _,H,I,rfl,?_⟩;rw[c];simpa using q
def Ed (neg:Bool):R2:=λx y H Q=>Ly x y=true/\Q (.b (nb neg (decide (x=y)))) H
def Oy (K:nH) (neg:Bool):R2:=λx y H Q=>Ed neg x y H Q\/Gi K neg x y H Q\/N3 (!neg) x y H Q\/S8 K neg x y H Q
theorem Hl (g:X.A.units+64<cLine):oJ X (compareOp .NotEq) (Oy X.K true):=(show oJ X (compareOp .NotEq) (Ed true) from Nh).or ((Si g).or ((OX (by omega)).or (Z4 g)))
def Pm (g j:Aa (hH×D)):Prop:=g.length=j.length/\∀ p∈g,∃ e v w,nR j p.1=some e/\yK p.2=some v/\yK e=some w/\sC v w=true
def Oh (neg:Bool):O2:=λd e a=>match d,e with
 | .int i,.int j=>a (.v (.b (nb neg (decide (i=j)))))
 | .str i,.str j=>a (.v (.b (nb neg (decide (i=j)))))
 | .b i,.b j=>a (.v (.b (nb neg (decide (i=j)))))
 | .l c,.l []=>a (.v (.b (nb neg c.isEmpty)))
 | .k c,.k f=>Pm c f/\a (.v (.b (!neg)))
 | d,e=>rH d=true/\rH e=true/\min (py d).depth (py e).depth<=60/\a (.v (.b (nb neg (PyData.eqv (py d) (py e)))))
theorem CB {l C:Aa (hH×D)}{j o:Aa (hH×V)}(h:Pm l C) (I:l.map (·.1)=j.map (·.1)) (T:Reps K A H (l.map (·.2)) (j.map (·.2))) (J:C.map (·.1)=o.map (·.1)) (U:Reps K A H (C.map (·.2)) (o.map (·.2))) :
  j.length=o.length/\∀ p∈j,∃ w,qA o p.1=some w/\rR p.2=true/\rR w=true/\sC p.2 w=true:=by
 refine⟨by have a:=cA List.length I;have b:=cA List.length J;have c:=h.1;simp only[aA] at a b;omega,λp d=>?_⟩;have:∀ (l:Aa (hH×D)) (j:Aa (hH×V)),l.map (·.1)=j.map (·.1)->Reps K A H (l.map (·.2)) (j.map (·.2))->p∈j->∃ q∈l,q.1=p.1/\Rep K A H q.2 p.2:=by
  intro l;induction l with
  | nil=>intro j e _ d;cases j with
   | nil=>cases d
   | cons _ _=>simp at e
  | cons q l x=>intro j e r d;cases j with
   | nil=>cases d
   | cons k j =>
    simp only[bD,fY] at e;cases r with
    | cons g r =>
     rcases aM.mp d with z | z
     .subst z;exact⟨q,aI,e.1,g⟩
     .obtain⟨y,f,m⟩:=x j e.2 r z;exact⟨y,aV _ f,m⟩
 obtain⟨q,u,i,B⟩:=this l j I T d;obtain⟨e,v,w,f,m,s,t⟩:=h.2 q u;rw[i] at f;obtain⟨E,hw,n⟩:=(Jv J U p.1).1 e f;obtain⟨F,G⟩:=Fw m B.peek;obtain⟨L,M⟩:=Fw s n.peek;subst F L;exact⟨E,hw,G,M,t⟩
theorem Ga (neg:Bool):qI K (Oy K neg) (Oh neg):=by
 intro B L H d e x y O Q hd h m c k;unfold Oh at c;split at c
 .cases h;cases m
  rename_i i j
  have f:decide (V.int i=V.int j)=decide (i=j):=by simp
  exact .inl ⟨rfl,by rw[f];exact k _ _ H c (hd.pushF (.b _))⟩
 .cases h;cases m
  rename_i i j
  have f:decide (V.str i=V.str j)=decide (i=j):=by simp
  exact .inl ⟨rfl,by rw[f];exact k _ _ H c (hd.pushF (.b _))⟩
 .cases h;cases m
  rename_i i j
  have f:decide (V.b i=V.b j)=decide (i=j):=by simp
  exact .inl ⟨rfl,by rw[f];exact k _ _ H c (hd.pushF (.b _))⟩
 .rename_i M
  obtain⟨a,A,rfl,n,u⟩:=h.lst_inv;obtain⟨b,N,rfl,q,v⟩:=m.lst_inv;cases v;have f:M.isEmpty=A.isEmpty:=by cases u<;>rfl
  refine .inr (.inl ⟨a,b,A,rfl,rfl,nX.of n,nX.of q,?_⟩);rw[<- f];exact k _ _ H c (hd.pushF (.b _))
 .obtain⟨a,s,rfl,n,f,u⟩:=h.dK_inv;obtain⟨b,t,rfl,q,E,v⟩:=m.dK_inv;obtain⟨F,G⟩:=CB c.1 f u E v;exact .inr (.inr (.inl ⟨a,b,s,t,rfl,rfl,n,q,F,G,k _ _ H c.2 (hd.pushF (.b _))⟩))
 .obtain⟨w,z,D,c⟩:=c;exact .inr (.inr (.inr ⟨_,_,S6 h w,S6 m z,L7 w,L7 z,D,k _ _ H c (hd.pushF (.b _))⟩))
end
end L2
namespace L2
open PySem PySem.Spec PyProof.Rows Lw
def pt (o:Ab oG):Aa Ad->Aa Sl->(Ab Int->Aa Sl->Prop)->Prop:=λc b k=>match o with
 | none=>k none b
 | some t=>t c b λr a=>match r with
  | .v (.int i)=>k (some i) a
  | _=>False
section
variable {X:Cx}{K:nH}{lo:Ab Expr}
abbrev O1:=D->(Sl->Prop)->Prop
abbrev R1:=V->Hp->VK->Prop
def Ys (K:nH) (r:R1) (f:O1):Prop:=∀ (B:Bs) (L:pN) (H:Hp) (d:D) (x:V) (b:Sl->Prop) (Q:VK),DS K B L H->pC K (Al B (lT L)) H d x->f d b->(∀ s v a,b s->DS K B ((s,some v)::L) a->Q v a)->r x H Q
def d1 (f:O1) (g:oG):oG:=λb h e=>g b h λc a=>match sd c with
 | some d=>f d λr=>e r a
 | none=>False
theorem Zu (j:Ys X.K r f) (h:dE X.K (d1 f l) o H Q):dE X.K l o H λx g=>r x g Q:=by
 obtain⟨B,z,T,A,m,hd,q,k⟩:=h;refine⟨B,z,T,_,m,hd,q,λy e x g t d1 a=>?_⟩;cases b:sd y with
 | none=>rw[b] at a;exact a.elim
 | some d =>
  rw[b] at a;obtain⟨u,w⟩:=d1.one b;exact j B _ g d x _ Q u w.peek a λs v i n c=>k s e v i t c.mid n
def Pn:O1
 | .int i,a=>a (.v (.int (-i)))
 | _,_=>False
theorem Bq (g:PD X a j):PD X (.UnaryOp .USub a pos) (d1 Pn j):=(Oq Sd g).mono λ_ _ _ h=>Zu (f:=Pn) (λB L H d x e Q hd c b k=>by
 cases d<;>first | exact False.elim b | skip
 cases c;exact⟨_,rfl,k _ _ H b (hd.pushF (.int _))⟩) h
noncomputable def Lf:D->Ab Bool
 | .e=>some false
 | .b b=>some b
 | .int i=>some (i != 0)
 | .str x=>some ((x.length:Int) != 0)
 | .l a=>some (!a.isEmpty)
 | .t a=>some (!a.isEmpty)
 | .k a=>some (!a.isEmpty)
 | _=>none
noncomputable def Mg:D->Bool
 | .str x=>decide (x.length<=100000)
 | _=>true
theorem EG (h:pC K A H d x) (e:Lf d=some k) (g:Mg d=true):Mz K x H k:=by
 cases d<;>simp only[Lf,reduceCtorEq,jM] at e<;>subst e
 .have:=h.non_inv;subst this;rfl
 .have:=h.bl_inv;subst this;rfl
 .have:=h.int_inv;subst this;rfl
 .have:=h.str_inv;subst this;exact⟨Dh (fU g),rfl⟩
 .obtain⟨a,b,rfl,h,r⟩:=h.tup_inv;exact .inr (.inl ⟨b,oP.of h,by cases r<;>rfl⟩)
 .obtain⟨a,b,rfl,h,r⟩:=h.lst_inv;exact .inl ⟨b,nX.of h,by cases r<;>rfl⟩
 .rename_i c
  obtain⟨a,b,rfl,h,e,r⟩:=h.dK_inv;refine .inr (.inr ⟨b,h,?_⟩);cases c<;>cases b<;>simp at e |-
def Ru (t:oG):sW:=λc f e=>t c f λr a=>match sd r with
 | some d=>Mg d=true/\∃ b,Lf d=some b/\e b a
 | none=>False
theorem Kr (g:PD X a l) (j:∀ whole,isTrue a X.env whole=(do let v <- whole;standAt a.pos;holding [v] (truthy v)):=by intro _;rfl):uD X a (Ru l) :=
 (CP g j).mono λz H Q f=>f.elim λB x T y n hd s k=>⟨B,x,T,_,n,hd,s,λr h v i t d1 c=>by
  cases e:sd r with
  | none=>rw[e] at c;exact c.elim
  | some d =>
   rw[e] at c;obtain⟨q,b,m,c⟩:=c;obtain⟨u,w⟩:=d1.one e;exact⟨b,EG w.peek m q,k b h i t u c⟩⟩
def K3 (t u:sW):sW:=λb e d=>t b e λc a=>if c=true then u b a d else d false a
def Fm (t u:sW):sW:=λb e d=>t b e λc a=>if c=true then d true a else u b a d
def Qj (t:sW):sW:=λb e d=>t b e λc a=>d (!c) a
variable {rest:Aa Expr}
theorem Nb (h:uD X a g):Be X (.BoolOp .And [a] pos) g:=PP h
theorem Eu (h:uD X a g):Be X (.BoolOp .Or [a] pos) g:=Rw h
theorem Le (j:uD X a o) (l:Be X (.BoolOp .And (b::rest) pos) g):Be X (.BoolOp .And (a::b::rest) pos) (K3 o g) :=
 (PQ j l).mono λt H Q e=>e.elim λB s T q m hd n k=>⟨B,s,T,_,m,hd,n,λc d i h d1 f=>by
  cases c with
  | true=>exact (aQ rfl).mpr ⟨B,d,T,q,h,d1,(aQ rfl).mp f,k⟩
  | false=>exact uZ (k false d i h d1 ((aG (by decide)).mp f))⟩
theorem C8 (j:uD X a o) (l:Be X (.BoolOp .Or (b::rest) pos) g):Be X (.BoolOp .Or (a::b::rest) pos) (Fm o g) :=
 (O4 j l).mono λt H Q e=>e.elim λB s T q m hd n k=>⟨B,s,T,_,m,hd,n,λc d i h d1 f=>by
  cases c with
  | true=>exact (aQ rfl).mpr (k true d i h d1 ((aQ rfl).mp f))
  | false=>exact uZ ⟨B,d,T,q,h,d1,(aG (by decide)).mp f,k⟩⟩
theorem As (h:Be X a g):uD X a g:=PW.pt h
theorem We (h:uD X a g):uD X (.UnaryOp .Not a pos) (Qj g):=(M0 h).mono λt H Q b=>b.elim λB q T s i hd m k=>⟨B,q,T,_,i,hd,m,λc d e n d1 f=>k _ d e n d1 f⟩
def BX (t u:oG):oG:=λc e d=>t c e λr a=>match r with
 | .v (.b true)=>u c a d
 | .v (.b false)=>d (.v (.b false)) a
 | _=>False
def L5 (t u:oG):oG:=λc e d=>t c e λr a=>match r with
 | .v (.b true)=>d (.v (.b true)) a
 | .v (.b false)=>u c a d
 | _=>False
theorem Uz (h:PD X a g):PD X (.BoolOp op [a] pos) g:=J7 h
theorem GK (g:PD X a l) (j:PD X (.BoolOp .And (b::rest) pos) p):PD X (.BoolOp .And (a::b::rest) pos) (BX l p) :=
 (E6 g j).mono λw H Q h=>h.elim λB u T t q hd s k=>⟨B,u,T,_,q,hd,s,λr f v m i d1 e=>by
  cases r with
  | n=>exact e.elim
  | o d=>exact e.elim
  | v d =>
   cases d with
   | b c =>
    have:=d1.valAt.bl_inv;subst this;refine⟨c,rfl,?_⟩;cases c with
    | true=>exact (aQ rfl).mpr ⟨B,f,T,t,i,d1.drop,e,k⟩
    | false=>exact uZ (k _ f _ m i (d1.drop.push (.b _)) e)
   | _=>exact e.elim⟩
theorem Kx (g:PD X a l) (j:PD X (.BoolOp .Or (b::rest) pos) p):PD X (.BoolOp .Or (a::b::rest) pos) (L5 l p) :=
 (X9 g j).mono λw H Q h=>h.elim λB u T t q hd s k=>⟨B,u,T,_,q,hd,s,λr f v m i d1 e=>by
  cases r with
  | n=>exact e.elim
  | o d=>exact e.elim
  | v d =>
   cases d with
   | b c =>
    have:=d1.valAt.bl_inv;subst this;refine⟨c,rfl,?_⟩;cases c with
    | true=>exact (aQ rfl).mpr (k _ f _ m i (d1.drop.push (.b _)) e)
    | false=>exact uZ ⟨B,f,T,t,i,d1.drop,e,k⟩
   | _=>exact e.elim⟩
end
inductive Ar where
 | t (d:D) | al (i:Nat)
abbrev vD:=Aa Ad->Aa Sl->(Aa Ar->Aa Sl->Prop)->Prop
def vE:Aa Ar->Aa V->pN
 | .t d::as,v::a=>(.v d,some v)::vE as a
 | .al _::as,_::a=>vE as a
 | _,_=>[]
inductive ArOk (σ:St):List Ar->List V->Prop where
 | nil:ArOk σ [] []
 | t {d:D} {v:V} {as:List Ar} {vs:List V}:ArOk σ as vs->ArOk σ (.t d::as) (v::vs)
 | al {i:Nat} {v:V} {as:List Ar} {vs:List V}:σ[i]?=some (some v)->ArOk σ as vs->ArOk σ (.al i::as) (v::vs)
noncomputable def vP (g:Aa Sl):Aa Ar->Ab (Aa D)
 | []=>some []
 | .t d::as=>(vP g as).map (d::·)
 | .al i::as=>match at? g i,vP g as with
  | some d,some ds=>some (d::ds)
  | _,_=>none
noncomputable def Az:Aa Ar->Ab (Aa D)
 | []=>some []
 | .t d::as=>(Az as).map (d::·)
 | .al _::_=>none
def Ai:Aa Ar->Bool
 | []=>true
 | .t _::as=>Ai as
 | .al _::_=>false
def dA (K:nH) (g:vD):TA:=λb H Q=>∃ (B:Bs) (d:Aa Sl) (T:pN) (f:Aa Ar->Aa Sl->Prop),d.length=b.length/\DS K B (d.zip b++T) H/\g B.dk d f /\
 ∀ as a c e,a.length=b.length->ArOk b as c->DS K B (a.zip b++(vE as c++T)) e->f as a->Q c e
theorem dA.elim {K:nH}{P:Prop}(h:dA K C l H Q) (f:∀ (B:Bs) (j:Aa Sl) (T:pN) (o:Aa Ar->Aa Sl->Prop),j.length=l.length->DS K B (j.zip l++T) H->C B.dk j o ->(∀ as g p r,g.length=l.length->ArOk l as p->DS K B (g.zip l++(vE as p++T)) r->o as g->Q p r)->P):P:=by
 obtain⟨B,j,T,o,a,hd,b,k⟩:=h;exact f B j T o a hd b k
abbrev vA (X:Cx) (g:Aa Expr) (j:vD):Prop:=PA X g (dA X.K j)
def sJ:vD:=λ_ b a=>a [] b
def aC (g:oG) (j:vD):vD:=λc f e=>g c f λr a=>j c a λas b=>match sd r with
 | some d=>e (.t d::as) b
 | none=>False
def aS (i:Nat) (g:vD):vD:=λc b d=>(at? b i).isSome=true/\g c b λas a=>d (.al i::as) a
theorem PA.mono {X:Cx}(h:PA X j t) (k:∀ g H Q,l g H Q->t g H Q):PA X j l:=λp a s g H Q I q=>h p a s g H Q I (k g H Q q)
def Am (B:Bs) (a:Ad):Prop:=a∉B.dk/\(B.A0 a\/B.H0 a=none)
inductive Peeks (K:nH) (A:Addr->Prop) (H:Hp):List D->List V->Prop where
 | nil:Peeks K A H [] []
 | cons {d:D} {v:V} {ds:List D} {vs:List V}:pC K A H d v->Peeks K A H ds vs->Peeks K A H (d::ds) (v::vs)
section
variable {X:Cx}{K:nH}
theorem gV:vA X [] sJ:=qN.mono λf H Q a=>a.elim λB d T e b hd c k=>k [] d [] H b .nil hd c
theorem dK (j:PD X e p) (l:vA X g o) (h:yG e=true:=by rfl):vA X (e::g) (aC p o):=(oH j l h).mono λD H Q f=>f.elim λB A T F v hd w k =>
 ⟨B,A,T,_,v,hd,w,λr i x E y d1 u=>⟨B,i,(r,some x)::T,_,y,d1,u,λas a n m z ok d2 b=>by
  cases c:sd r with
  | none=>rw[c] at b;exact b.elim
  | some d =>
   rw[c] at b;refine k (.t d::as) a (x::n) m z (.t ok) ?_ b;have q:DS X.K B ((a.zip D++vE as n)++(r,some x)::T) m:=by simpa using d2
   have s:=(q.thaw c).front;exact DS.mid (by simpa using s)⟩⟩
theorem vJ (j:PE X e (rC i)) (l:vA X g o) (h:yG e=true:=by rfl):vA X (e::g) (aS i o):=(oH j l h).mono λz H Q a=>a.elim λB v T y c hd ⟨q,s⟩ k=>by
 obtain⟨w,m⟩:=dR.mp q;obtain⟨x,d,_⟩:=hd.peek c m;exact⟨x,d,B,v,T,_,c,hd,s,λas b u f t ok d2 n=>k (.al i::as) b (x::u) f t (.al d ok) d2 n⟩
theorem DS.rmArgs:∀ {as:Aa Ar}{vs:Aa V},DS K B (L++(vE as vs++T)) H->DS K B (L++T) H
 | [],_,h=>h
 | .t d::as,[],h=>h
 | .al _::as,[],h=>h
 | .t d::as,v::vs,h=>DS.rmArgs (as:=as) (vs:=vs) (DS.drop (L1:=L) (L2:=vE as vs++T) h)
 | .al _::as,v::vs,h=>DS.rmArgs (as:=as) (vs:=vs) h
theorem Jk:∀ {as:Aa Ar}{vs:Aa V},lT (L++(vE as vs++T))=lT (L++T)
 | [],_=>rfl
 | .t d::as,[]=>rfl
 | .al _::as,[]=>rfl
 | .t d::as,v::vs=>(show lT (L++(Sl.v d,some v)::(vE as vs++T))=_ from Ld).trans (Jk (as:=as) (vs:=vs))
 | .al _::as,v::vs=>Jk (as:=as) (vs:=vs)
theorem DS.temps (h:DS K B (L++(vE as g++T)) H) (ok:ArOk j as g):∀ ds,Az as=some ds->Reps K (Al B (lT (L++T))) H ds g:=by
 have key:∀ p∈vE as g,uF K (Al B (lT (L++T))) H p.1 p.2:=λp b=>by
  have:=h.ok p (by simp[b]);rw[Jk] at this;exact this
 clear h;induction ok with
 | nil=>intro ds e;cases e;exact .nil
 | @t d v as g ok i =>
  intro ds e;obtain⟨a,c,rfl⟩:=dF.mp e;obtain⟨u,f,r⟩:=key (.v d,some v) aI;cases f;exact .cons r (i (λp b=>key p (aV _ b)) a c)
 | al _ _ _=>intro ds e;cases e
theorem DS.argsP (C:g.length=l.length) (h:DS K B (g.zip l++(vE as j++T)) H) (ok:ArOk l as j):∀ ds,vP g as=some ds ->
  Peeks K (Al B (lT (g.zip l++T))) H ds j/\Reps K (Am B) H ds j/\(Ai as=true->Reps K (Al B (lT (g.zip l++T))) H ds j):=by
 have key:∀ p∈vE as j,uF K (Al B (lT (g.zip l++T))) H p.1 p.2:=λp m=>by
  have:=h.ok p (by simp[m]);rw[Jk] at this;exact this
 have A:=h.rmArgs;have am:∀ a,Al B (lT (g.zip l++T)) a->Am B a:=λa z=>⟨z.1,z.2.2⟩
 clear h;induction ok with
 | nil=>intro ds e;cases e;exact⟨.nil,.nil,λ_=>.nil⟩
 | @t d v as j ok D =>
  intro ds e;obtain⟨f,b,rfl⟩:=dF.mp e;obtain⟨u,k,r⟩:=key (.v d,some v) aI;cases k;obtain⟨E,F,O⟩:=D (λp m=>key p (aV _ m)) f b;exact⟨.cons r.peek E,.cons (r.mono (.all am)) F,λn=>.cons r (O n)⟩
 | @al i v as j G ok D =>
  intro ds e;have e:=(show (match at? g i,vP g as with | some d,some ds=>some (d::ds) | _,_=>none)=some ds from e);cases b:at? g i with
  | none=>rw[b] at e;cases e
  | some d =>
   cases k:vP g as with
   | none=>rw[b,k] at e;cases e
   | some f =>
    rw[b,k] at e;cases e;obtain⟨E,F,O⟩:=D (λp m=>key p m) f k;obtain⟨V,q,pv⟩:=A.peek C b;rw[G] at q;cases q;have Q:Rep K (Am B) H d v:=by
     unfold at? at b;cases w:g[i]? with
     | none=>rw[w] at b;cases b
     | some s =>
      rw[w] at b;obtain⟨R,y,S,M,_,P,_⟩:=yN C w;rw[G] at M;cases M;have L:(s,some v)∈g.zip l++T:=by rw[P];simp
      have:=A.ok _ L;cases s with
      | n=>cases b
      | v c=>cases b;obtain⟨u,x,r⟩:=this;cases x;exact r.mono (.all am)
      | o c =>
       cases b;obtain⟨a,x,r⟩:=this;cases x;have N:=A.new a (uC.mpr ⟨_,L,rfl⟩);exact r.rep am ⟨N.2,.inr N.1⟩
    exact⟨.cons pv E,.cons Q F,λn=>by simp[Ai] at n⟩
def tD (g:vD):oG:=λb d c=>g b d λas a=>match Az as with
 | some ds=>ds.length<=1000/\c (.v (.t ds)) a
 | none=>False
def Vx (g:vD):oG:=λb d c=>g b d λas a=>match Az as with
 | some ds=>ds.length<=1000/\c (.o (.l ds)) a
 | none=>False
theorem Tn (h:n<=1000):n<=sizeLine:=bS h (by decide)
theorem oW (h:vA X g j):PD X (.Tuple g l pos) (tD j):=(zU h).mono λu H Q c=>c.elim λB n T t e hd i k=>⟨B,n,T,_,e,hd,i,λas d s q m ok d1 a=>by
 cases b:Az as with
 | none=>rw[b] at a;exact a.elim
 | some ds =>
  rw[b] at a;have r:=d1.temps ok ds b;exact⟨Tn (by rw[<- r.length];exact a.1),λp f=>k _ d _ _ m (d1.rmArgs.tup f r) a.2⟩⟩
theorem uR (h:vA X g j):PD X (.List g pos) (Vx j):=(Uv h).mono λu H Q c=>c.elim λB n T t e hd i k=>⟨B,n,T,_,e,hd,i,λas d s q m ok d1 a=>by
 cases b:Az as with
 | none=>rw[b] at a;exact a.elim
 | some ds =>
  rw[b] at a;have r:=d1.temps ok ds b;exact⟨Tn (by rw[<- r.length];exact a.1),λp f=>k _ d _ _ m (d1.rmArgs.lstF f r).mid a.2⟩⟩
def FG:oG:=λ_ b a=>a (.o (.k [])) b
theorem Ii:PD X (.Dict [] [] pos) FG:=MD.mono λh H Q a=>a.elim λB e T f b hd d k p c=>k _ e _ _ b (hd.dKF (ds:=[]) (kvs:=[]) c rfl .nil).mid d
abbrev OC:=Aa D->(Sl->Prop)->Prop
def wP (K:nH) (r:Aa V->Hp->VK->Prop) (f:OC):Prop:=∀ (B:Bs) (L:pN) (H:Hp) (ds:Aa D) (b:Aa V) (c:Sl->Prop) (Q:VK),DS K B L H->Peeks K (Al B (lT L)) H ds b->f ds c ->
 (∀ s v a,c s->DS K B ((s,some v)::L) a->Q v a)->r b H Q
def dC (f:OC) (g:vD):oG:=λb d c=>g b d λas a=>match vP a as with
 | some ds=>f ds λr=>c r a
 | none=>False
theorem Wo (l:wP X.K r f) (h:dE X.K (dC f o) p H Q):dA X.K o p H λj g=>r j g Q:=by
 obtain⟨B,t,T,u,m,hd,q,k⟩:=h;refine⟨B,t,T,_,m,hd,q,λas a j g e ok d1 b=>?_⟩;cases c:vP a as with
 | none=>rw[c] at b;exact b.elim
 | some ds =>
  rw[c] at b;exact l B _ g ds j _ Q d1.rmArgs (d1.argsP e ok ds c).1 b λs v i n d=>k s a v i e d.mid n
variable {id:String}
theorem rK (C:qC X (.builtin id) r) (I:wP X.K r f) (T:X.mg x=none) (hv:bootBuiltins x=some (.builtin id)) (o:vA X (e::l) ta) (J:Gl X x:=by rfl) (U:x ≠ "__name__" := by decide) (g:(x == ("__debug__" : Af))=false:=by decide)
  (j:StB X e l pos:=by exact {}):PD X (.Call (.Name x p) (e::l) [] pos) (dC f ta) :=
 (yX C J T hv o U g j).mono λ_ _ _ h=>Wo I h
theorem pI (C:qC X (.type id) r) (I:wP X.K r f) (T:X.mg x=none) (hv:bootBuiltins x=some (.type id)) (o:vA X (e::l) ta) (J:Gl X x:=by rfl) (U:x ≠ "__name__" := by decide) (g:(x == ("__debug__" : Af))=false:=by decide)
  (j:StB X e l pos:=by exact {}):PD X (.Call (.Name x p) (e::l) [] pos) (dC f ta) :=
 (HD C J T hv o U g j).mono λ_ _ _ h=>Wo I h
end
def Ez:Sl->Bool
 | .v d=>imm d
 | .o (.l b)=>wN b
 | .o (.k a)=>wN (a.map (·.2))
 | .o (.T a)=>wN (a.map (·.2))
 | _=>false
def RV (K:nH) (g:Aa Ad) (A:Ad->Prop) (H:Hp) (s:Sl) (v:V) (j:Hp):Prop:=match s with
 | .n=>True
 | .v d=>Rep K (λa=>a∉g/\(A a\/H a=none)) j d v
 | .o d=>∃ a,v = .ref a/\H a=none/\a∉g/\pX K (λb=>b∉g/\b≠a/\(A b\/H b=none)) j a d
def yT (j:Aa Ad) (H g:Hp):Prop:=∀ b o,H b=some o->b∉j->g b=some o
abbrev RD:=Aa Ad->Aa D->(Sl->Prop)->Prop
def pF (K:nH) (R:RD):Sp:=λe H Q _=>∃ (b:Aa Ad) (A:Ad->Prop) (ds:Aa D) (d:Sl->Prop),Dk b H/\(∀ a,A a->a∉b)/\Reps K A H ds e/\R b ds d /\
 ∀ s v c,d s->yT b H c->Dk b c->RV K b A H s v c->Q v c
section
variable {K:nH}
theorem pX.immR (h:pX K A H a d) (e:Ez (.o d)=true):pX K g H a d:=by
 cases d with
 | l _=>obtain⟨b,h,r⟩:=h;exact⟨b,h,r.imm e⟩
 | k _=>obtain⟨b,h,k,r⟩:=h;exact⟨b,h,k,r.imm e⟩
 | T _=>obtain⟨b,h,k,r⟩:=h;exact⟨b,h,k,r.imm e⟩
 | _=>exact False.elim h
theorem Kp.frm (f:yT g H l) (p:Dk g H) (h:∀ a,A a->a∉g/\j a):Kp A j H l:=by
 refine⟨λa o b e=>⟨(h a b).2,f a o e (h a b).1⟩,λa o t e=>f a o e λz=>?_⟩;obtain⟨c,q⟩:=p.some z;rw[e] at q;cases q;cases t
theorem DS.call (h:DS K B L H) (f:yT B.dk H g) (j:Dk B.dk g):DS K B L g :=
 ⟨λb o e n=>f b o (h.fr b o e n) n,j,h.nd,h.new,λp c=>(h.ok p c).mono (.frm f h.dk λa z=>⟨z.1,z⟩) λb d o q=>f b o q (h.new b (uC.mpr ⟨p,c,d⟩)).2⟩
theorem DS.adopt (h:DS K B L H) (f:yT B.dk H g) (l:Dk B.dk g) (j:H a=none) (r:pX K (Al B (a::lT L)) g a d):DS K B ((.o d,some (.ref a))::L) g:=by
 obtain⟨f1,f2,k⟩:=h.free j;have s:Kp (Al B (lT L)) (Al B (a::lT L)) H g:=by
  refine⟨λb o c e=>⟨⟨c.1,λz=>?_,c.2.2⟩,f b o e c.1⟩,λb o t e=>f b o e λz=>?_⟩
  .rcases aM.mp z with q | q
   .subst q;rw[j] at e;cases e
   .exact c.2.1 q
  .obtain⟨u,q⟩:=h.dk.some z;rw[e] at q;cases q;cases t
 have i:lT ((Sl.o d,some (V.ref a))::L)=a::lT L:=rfl;refine⟨λb o e n=>f b o (h.fr b o e n) n,l,by rw[i];exact bP.mpr ⟨k,h.nd⟩,λb c=>?_,λp m=>?_⟩
 .rw[i] at c;rcases aM.mp c with q | q
  .subst q;exact⟨f1,f2⟩
  .exact h.new b q
 .rw[i];rcases aM.mp m with q | q
  .subst q;exact⟨a,rfl,r⟩
  .exact (h.ok p q).mono s λb c o w=>f b o w (h.new b (uC.mpr ⟨p,q,c⟩)).2
theorem DS.result (h:DS K B L H) (f:yT B.dk H j) (l:Dk B.dk j) (r:RV K B.dk A1 H s v j) (g:(∀ a,A1 a->Al B (lT L) a)\/Ez s=true):DS K B ((s,some v)::L) j:=by
 have fresh:∀ b,b∉B.dk->H b=none->Al B (lT L) b:=λb n e=>⟨n,(h.free e).2.2,.inr (h.free e).1⟩
 cases s with
 | n=>exact (h.call f l).pushN (L1:=[]) _
 | v d =>
  refine (h.call f l).pushF ?_;rcases g with g | g
  .exact (show Rep K _ j d v from r).mono (.all λb z=>z.2.elim (g b) (fresh b z.1))
  .exact (show Rep K _ j d v from r).imm g
 | o d =>
  obtain⟨a,rfl,c,hd,r⟩:=r;refine h.adopt f l c ?_;rcases g with g | g
  .refine r.mono (.all λb z=>?_) λ_ q=>q
   have:=z.2.2.elim (g b) (fresh b z.1);exact⟨this.1,λq=>(aM.mp q).elim z.2.1 this.2.1,this.2.2⟩
  .exact r.immR g
end
def Ny (R:RD) (g:vD):oG:=λb d c=>g b d λas a=>match vP a as with
 | some ds=>R b ds λs=>(Ai as=true\/Ez s=true)/\c s a
 | none=>False
section
variable {X:Cx}{R:RD}
theorem Xp (h:dE X.K (Ny R l) o H Q):dA X.K l o H λj g=>pF X.K R (j++[]) g Q E0:=by
 obtain⟨B,y,T,A,t,hd,u,k⟩:=h;refine⟨B,y,T,_,t,hd,u,λas b j g n ok d1 c=>?_⟩;cases i:vP b as with
 | none=>rw[i] at c;exact c.elim
 | some ds =>
  rw[i] at c;obtain⟨_,w,x⟩:=d1.argsP n ok ds i;have d2:=d1.rmArgs;rw[cO];by_cases q:Ai as=true
  .exact⟨B.dk,_,ds,_,d2.dk,λa z=>z.1,x q,c,λs v e d f m r=>k s b v e n (d2.result f m r (.inl λa z=>z)).mid d.2⟩
  .exact⟨B.dk,_,ds,_,d2.dk,λa z=>z.1,w,c,λs v e d f m r=>k s b v e n (d2.result f m r (.inr (d.1.resolve_left q))).mid d.2⟩
theorem pS (F:FnOk X.prog X.w X.K X.mg X.base oM k f fd U (pF X.K R)) (T:Room k X.A) (C:Gl X x) (J:X.mg x=some (.ref f)) (I:PySem.W.keepIn X.K (.ref f)=true) (r:wQ X.K fd U [])
  (o:vA X (e::l) ta) (g:(x == ("__debug__" : Af))=false:=by decide) (j:StB X e l pos:=by exact {}) :
  PD X (.Call (.Name x p) (e::l) [] pos) (Ny R ta):=(yA F T C J I r .nil Ao o g j).mono λ_ _ _ h=>Xp h
end
structure DEnds where
 nx:List Sl->Prop
 rt:Sl->Prop
 bk:List Sl->Prop:=λ_=>False
 ct:List Sl->Prop:=λ_=>False
abbrev qK:=Aa Ad->DEnds->Aa Sl->Prop
def Bm (K:nH) (B:Bs) (T:pN) (n:Nat) (g:DEnds) (j:Ends):Prop :=
 (∀ b a c,b.length=a.length->a.length=n->DS K B (b.zip a++T) c->(g.nx b->j.nx a c)/\(g.bk b->j.bk a c)/\(g.ct b->j.ct a c)) /\
 ∀ (r:Sl) (v:V) (b:Aa Sl) (a:St) (c:Hp),b.length=a.length->DS K B (b.zip a++(r,some v)::T) c->g.rt r->j.rt v c
def dS (K:nH) (g:qK):TS:=λd b H=>∃ (B:Bs) (a:Aa Sl) (T:pN) (c:DEnds),a.length=b.length/\DS K B (a.zip b++T) H/\g B.dk c a/\Bm K B T b.length c d
theorem dS.elim {K:nH}{P:Prop}(h:dS K p o j H) (f:∀ (B:Bs) (g:Aa Sl) (T:pN) (l:DEnds),g.length=j.length->DS K B (g.zip j++T) H->p B.dk l g->Bm K B T j.length l o->P):P:=by
 obtain⟨B,g,T,c,a,hd,b,k⟩:=h;exact f B g T c a hd b k
abbrev vR (X:Cx) (st:Stmt) (g:qK):Prop:=PS X st (dS X.K g)
abbrev sB (X:Cx) (st:Aa Stmt) (g:qK):Prop:=qD X st (dS X.K g)
theorem PS.mono {X:Cx}{st:Stmt}(h:PS X st t) (k:∀ D g H,j D g H->t D g H):PS X st j:=λa s g H D I q=>h a s g H D I (k D g H q)
theorem qD.mono {X:Cx}{st:Aa Stmt}(h:qD X st t) (k:∀ D g H,j D g H->t D g H):qD X st j:=λa s g H D I q=>h a s g H D I (k D g H q)
def Jq:qK:=λ_ a b=>a.nx b
def zJ (t u:qK):qK:=λb a c=>t b { a with nx:=u b a } c
def xA (g:oG):qK:=λb a c=>g b c λr _=>a.rt r
def V1 (g:oG):qK:=λc b d=>g c d λ_ a=>b.nx a
def B8 (c:sW) (t u:qK):qK:=λd e f=>c d f λb a=>if b=true then t d e a else u d e a
def rQ (i:Nat) (g:oG):qK:=λc b d=>g c d λr a=>b.nx (a.set i r)
section
variable {X:Cx}{K:nH}{st:Stmt}{rest:Aa Stmt}
theorem Bm.seq (h:Bm K B T n o p){P:Aa Sl->Prop}(k:∀ j g l,j.length=g.length->g.length=n->DS K B (j.zip g++T) l->P j->N g l):Bm K B T n { o with nx:=P } { p with nx:=N } :=
 ⟨λj g l a b d=>⟨k j g l a b d,(h.1 j g l a b d).2⟩,h.2⟩
theorem tN:sB X [] Jq:=yF.mono λi f H a=>a.elim λB e T h b hd c d=>(d.1 e f H b rfl hd).1 c
theorem nY (g:vR X st t) (j:sB X rest u):sB X (st::rest) (zJ t u):=(A2 g j).mono λs w H a=>a.elim λB m T e f hd h c =>
 ⟨B,m,T,_,f,hd,h,c.seq λb n v i k d q=>⟨B,b,T,e,i,d,q,by rw[k];exact c⟩⟩
theorem oN (h:vR X st t):sB X [st] t:=sV h
theorem pT (h:PD X e g):vR X (.Return (some e) pos) (xA g):=(wT h).mono λt q H a=>a.elim λB n T s f hd i m=>⟨B,n,T,_,f,hd,i,λr b v c k d1 d=>m.2 r v b q c k d1 d⟩
theorem wJ (h:PD X e j) (g:swapsWith e none pos.line X.env=pure false:=by rfl):vR X (.Expr e pos) (V1 j):=(At h g).mono λt q H a=>a.elim λB n T s f hd i m=>⟨B,n,T,_,f,hd,i,λr b v c k d1 d=>(m.1 b q c k rfl d1.drop).1 d⟩
theorem wF (l:uD X c o) (g:sB X a t) (j:sB X b u):vR X (.If c a b pos) (B8 o t u):=(yP l g j).mono λs w H e=>e.elim λB q T f m hd n k=>⟨B,q,T,_,m,hd,n,λc d v i d1 h=>by
 cases c with
 | true=>exact (aQ rfl).mpr ⟨B,d,T,f,i,d1,(aQ rfl).mp h,k⟩
 | false=>exact uZ ⟨B,d,T,f,i,d1,(aG (by decide)).mp h,k⟩⟩
theorem DS.assign {g:Aa Sl}{j:St}(l:g.length=j.length) (h:DS K B (g.zip j++(r,some v)::T) H) (i:Nat):DS K B ((g.set i r).zip (j.set i (some v))++T) H:=by
 by_cases m:i<g.length
 .obtain⟨b,y,c,_,_,n,a⟩:=yN l (aH m);rw[a r (some v)];rw[n] at h;have d:DS K B (b++(c++(r,some v)::T)) H:=DS.drop (L1:=b) (x:=(g[i],y)) (by simpa using h);have e:DS K B ((b++c)++(r,some v)::T) H:=by simpa using d
  have f:=e.front;have k:DS K B ((r,some v)::(b++(c++T))) H:=by simpa using f
  simpa using k.mid
 .rw[iU (by omega),iU (by omega)];exact h.drop
theorem oB (i:Nat) (j:X.N.Nodup) (l:PD X e J) (p:X.N[i]?=some x:=by rfl) (I:wI X.env.scope x:=by first | exact Or.inl rfl | exact Or.inr rfl) (C:swapsWith e (some (.Name x g)) pos.line X.env=pure false:=by rfl)
  (o:X.fn x=true\/X.env.scope.names.lookup x=some .local:=by first | exact .inl rfl | exact .inr rfl | assumption):vR X (.Assign [.Name x g] e pos) (rQ i J) :=
 (zX j p I l C o).mono λs t H a=>a.elim λB m T q f hd h k=>⟨B,m,T,_,f,hd,h,λr n v c b d1 d=>(k.1 _ _ c (by rw[cB,cB];exact b) (cB ..) (d1.assign b i)).1 d⟩
end
def qY (N:Aa Af) (ds:Aa D):Aa Sl:=ds.map .v++List.replicate (N.length-ds.length) .n
section
variable {P:Ah}{K:nH}
theorem Fl:∀ {ds:Aa D}{g:Aa V}(n:Nat),ds.length=g.length->(ds.map Sl.v++List.replicate n Sl.n).zip (g.map some++List.replicate n none)=(ds.zip g).map (λp=>(Sl.v p.1,some p.2))++List.replicate n (Sl.n,none)
 | [],[],n,_=>by simp
 | [],_::_,_,e=>by simp at e
 | _::_,[],_,e=>by simp at e
 | d::ds,v::g,n,e=>by
  simp only[bD,cT,jH,fY,true_and];exact Fl n (by simpa using e)
theorem Ix (j:Reps K A H ds g):∀ p∈ds.zip g,Rep K A H p.1 p.2:=by
 induction ds generalizing g with
 | nil=>intro p a;cases a
 | cons d ds b =>
  cases j with
  | cons h r =>
  intro p a;rw[jH] at a;rcases aM.mp a with rfl | q
  .exact h
  .exact b r p q
theorem Fun.okD {st:Stmt}{R:RD}(F:Fun K x I st f fd) (S:FnScope N U (oC st)) (C:∀ l ds J,R l ds J->ds.length=U.length) (aa:U.length<=N.length)
  (T:∀ (j:Ac) (A:Around) (g:Aa Env) (s:Ae) (H:Hp) (E:XK) (l:Aa Ad) (ds:Aa D) (J:Sl->Prop),Room k (A.deeper (envOfC I (oC st) s.heap.objs.size f j))->R l ds J ->∃ t,sB (pA oM P w K mg base N I (oC st) f j A g s H E).nox (sH st) t/\t l { nx:=λ_=>J (.v .e),rt:=J } (qY N ds)):FnOk P w K mg base oM (k+1) f fd U (pF K R):=by
 refine F.ok S (λm H Q E M=>by obtain⟨l,A,ds,J,_,_,r,u,_⟩:=M;rw[<- r.length];exact C _ _ _ u) λj A g s H m Q E hr M=>?_
 obtain⟨l,A1,ds,J,L,hA,r,u,X⟩:=M;obtain⟨t,ht,hb⟩:=T j A g s H E l ds J hr u;have G:ds.length=m.length:=r.length;have dl:ds.length=U.length:=C _ _ _ u;refine⟨_,ht,⟨l,A1,H⟩,qY N ds,[],_,?_,?_,hb,?_,?_⟩
 .unfold qY start;rw[List.length_append,List.length_append,List.length_map,List.length_map,List.length_replicate,List.length_replicate,G]
 .have W:(qY N ds).zip (start N m)=(ds.zip m).map (λp=>(Sl.v p.1,some p.2))++List.replicate (N.length-ds.length) (Sl.n,none):=by
   unfold qY start;rw[<- G];exact Fl _ G
  have B:lT ((qY N ds).zip (start N m))=[]:=by
   rw[W];refine dJ.mpr λa i=>?_
   obtain⟨q,c,e⟩:=uC.mp i;rcases aW.mp c with z | z
   .obtain⟨p,_,rfl⟩:=aO.mp z;cases e
   .rw[(fK.mp z).2] at e;cases e
  rw[cO];refine⟨λb o e _=>e,L,by rw[B];exact cE,(λa i=>by rw[B] at i;exact absurd i aR),λq c=>?_⟩;rw[B];rw[W] at c;rcases aW.mp c with z | z
  .obtain⟨p,hp,rfl⟩:=aO.mp z;exact⟨p.2,rfl,(Ix r p hp).mono (.all λa i=>⟨hA a i,aR,.inl i⟩)⟩
  .rw[(fK.mp z).2];trivial
 .intro O V y l1 l2 d1;refine⟨λh=>X _ _ y h d1.fr d1.dk .e,λh=>h.elim,λh=>h.elim⟩
 .intro Z v O V y l1 d1 h;refine X Z v y h d1.fr d1.dk ?_;cases Z with
  | n=>trivial
  | v d=>exact d1.valAt.mono (.all λa z=>⟨z.1,z.2.2⟩)
  | o d =>
   obtain⟨a,rfl,r'⟩:=d1.ownAt;have Y:=d1.new a (by rw[sD];exact aX _ aI);exact⟨a,rfl,Y.1,Y.2,r'.mono (.all λb z=>⟨z.1,λq=>z.2.1 (by simp[q]),z.2.2⟩) λ_ q=>q⟩
end
abbrev vY:=D->Aa Sl->(Aa Sl->Prop)->Prop
abbrev Ch:=Aa D->Aa Sl->(Aa Sl->Prop)->Prop
noncomputable def rE (ds:Aa D) (g:Aa V):pN:=(ds.zip g).map λp=>(Sl.v p.1,some p.2)
def dG (K:nH) (n:Nat) (g:vY):TG:=λv c H Q=>∃ (B:Bs) (e:Aa Sl) (T:pN) (d:D) (h:Aa Sl->Prop),e.length=c.length/\DS K B (e.zip c++(.v d,some v)::T) H/\g d e h /\
 ∀ (b:Aa Sl) (a:St) (f:Hp),b.length=a.length->a.length=c.length->(∀ j,n<=j->a[j]?=c[j]?)->DS K B (b.zip a++T) f->h b->Q a f
def Lm (K:nH) (n:Nat) (g:Ch):Do:=λf c H Q=>∃ (B:Bs) (d:Aa Sl) (T:pN) (ds:Aa D) (h:Aa Sl->Prop),d.length=c.length/\ds.length=f.length/\DS K B (d.zip c++(rE ds f++T)) H/\g ds d h /\
 ∀ (b:Aa Sl) (a:St) (e:Hp),b.length=a.length->a.length=c.length->(∀ j,n<=j->a[j]?=c[j]?)->DS K B (b.zip a++T) e->h b->Q a e
theorem dG.elim {K:nH}{P:Prop}(h:dG K n I v r H Q) (f:∀ (B:Bs) (o:Aa Sl) (T:pN) (d:D) (p:Aa Sl->Prop),o.length=r.length->DS K B (o.zip r++(.v d,some v)::T) H->I d o p ->(∀ (l:Aa Sl) (g:St) (C:Hp),l.length=g.length->g.length=r.length->(∀ j,n<=j->g[j]?=r[j]?)->DS K B (l.zip g++T) C->p l->Q g C)->P):P:=by
 obtain⟨B,o,T,d,p,a,hd,b,k⟩:=h;exact f B o T d p a hd b k
theorem Lm.elim {K:nH}{P:Prop}(h:Lm K n J I r H Q) (f:∀ (B:Bs) (o:Aa Sl) (T:pN) (ds:Aa D) (p:Aa Sl->Prop),o.length=r.length->ds.length=I.length->DS K B (o.zip r++(rE ds I++T)) H->J ds o p ->(∀ (l:Aa Sl) (g:St) (C:Hp),l.length=g.length->g.length=r.length->(∀ j,n<=j->g[j]?=r[j]?)->DS K B (l.zip g++T) C->p l->Q g C)->P):P:=by
 obtain⟨B,o,T,ds,p,a,c,hd,b,k⟩:=h;exact f B o T ds p a c hd b k
abbrev wE (X:Cx) (n:Nat) (e:Expr) (g:vY):Prop:=PG X e (dG X.K n g)
abbrev Ic (X:Cx) (n:Nat) (g:Aa Expr) (j:Ch):Prop:=Aj X g (Lm X.K n j)
theorem PG.mono {X:Cx}(h:PG X e t) (k:∀ v g H Q,j v g H Q->t v g H Q):PG X e j:=λa s g H v u Q I r q=>h a s g H v u Q I r (k v g H Q q)
theorem Aj.mono {X:Cx}(h:Aj X j t) (k:∀ v g H Q,l v g H Q->t v g H Q):Aj X j l:=λa s g H v u Q I r q=>h a s g H v u Q I r (k v g H Q q)
def gN (i:Nat):vY:=λd b a=>a (b.set i (.v d))
def HX:Ch:=λds b a=>ds=[]/\a b
def EE (g:vY) (j:Ch):Ch:=λds c b=>match ds with
 | d::ds=>g d c λa=>j ds a b
 | []=>False
def QN (n:Nat) (g:Ch):vY:=λd b a=>match d with
 | .t ds=>ds.length=n/\g ds b a
 | _=>False
section
variable {X:Cx}{K:nH}
theorem DS.pushs {A:Ad->Prop}:∀ {ds:Aa D}{g:Aa V},DS K B (L++T) H->Reps K (Al B (lT (L++T))) H ds g->DS K B (L++(rE ds g++T)) H
 | _,_,h,.nil=>h
 | _,_,h,.cons (ds:=ds) (vs:=g) r i=>by
  have c:=DS.pushs (A:=A) h i;have b:lT (L++(rE ds g++T))=lT (L++T):=by
   have:∀ (ds:Aa D) (g:Aa V),lT (rE ds g)=[]:=λds g=>by
    refine dJ.mpr λa d=>?_
    obtain⟨q,f,e⟩:=uC.mp d;obtain⟨p,_,rfl⟩:=aO.mp f;cases e
   rw[sZ,sZ,sZ,this,hV]
  exact c.push (by rw[b];exact r)
theorem nU (i:Nat) (g:X.N.Nodup) (o:X.N[i]?=some x:=by rfl) (p:wI X.env.scope x:=by first | exact Or.inl rfl | exact Or.inr rfl) (r:i<m:=by decide) (l:X.fn x=true\/X.env.scope.names.lookup x=some .local:=by first | exact .inl rfl | exact .inr rfl | assumption):wE X m (.Name x pos) (gN i) :=
 (Iy g o p l).mono λv n H Q a=>a.elim λB h T d f b hd c k=>k _ _ H (by rw[cB,cB];exact b) (cB ..) (λj e=>eY (by omega)) (hd.assign b i) c
theorem rY:Ic X m [] HX:=P2.mono λf i H Q a=>a.elim λB h T ds n c e hd ⟨b,d⟩ k=>by
 subst b;cases f with
 | nil=>exact⟨rfl,k h i H c rfl (λ_ _=>rfl) hd d⟩
 | cons _ _=>simp at e
theorem oX (p:wE X m e g) (r:Ic X m l o) (C:(assignEach (e::l) X.env).map (·.2)=assign e X.env::(assignEach l X.env).map (·.2):=by rfl):Ic X m (e::l) (EE g o) :=
 (Kh p r C).mono λa L H Q b=>b.elim λB E T ds D u s hd n k=>by
  cases ds with
  | nil=>exact n.elim
  | cons d ds =>
   cases a with
   | nil=>simp at s
   | cons v a =>
    refine⟨v,a,rfl,B,E,rE ds a++T,d,_,u,hd,n,λc F G w x f1 d1 q=>⟨B,c,T,ds,D,w,by simpa using s,d1,q,λf h t y z f2 d2 A=>k f h t y (z.trans x) (λj i=>(f2 j i).trans (f1 j i)) d2 A⟩⟩
theorem rZ (o:X.calm=true) (h:Ic X m g l) (p:(assignEach g X.env).length=n:=by rfl) (j:(assignEach g X.env).findIdx? (·.1)=none:=by rfl):wE X m (.Tuple g k pos) (QN n l) :=
 (Qu o h p j).mono λv w H Q b=>b.elim λB u T d s i hd c k=>by
  cases d with
  | t ds =>
   obtain⟨a,q,rfl,f,e⟩:=hd.valAt.tup_inv;exact⟨a,q,rfl,oP.of f,by rw[<- e.length];exact c.1,B,u,T,ds,s,i,e.length,hd.drop.pushs (A:=λ_=>True) e,c.2,k⟩
  | _=>exact c.elim
end
def BI (j:oG) (g:vY):qK:=λc b e=>j c e λr a=>match sd r with
 | some d=>g d a b.nx
 | none=>False
def F1:D->D->D->Ab D
 | .l b,.int i,d=>(vU b.length i).map λj=>.l (b.set j d)
 | .k a,k,d=>if a.length<100000 then (vI k).map λk=>.k (pZ a k d) else none
 | .T a,.t c,d=>if a.length<100000 then (Bk c).map λk=>.T (pZ a k d) else none
 | _,_,_=>none
def Xi (i:Nat) (g j:oG):qK:=λf h q=>j f q λn a=>(at? a i).isSome=true/\g f a λm b=>match sd n,sd m,b[i]? with
 | some d,some k,some (.o c)=>∃ e,F1 c k d=some e/\h.nx (b.set i (.o e))
 | _,_,_=>False
section
variable {X:Cx}{K:nH}
theorem AY (o:PD X e I) (p:wE X m l g) (C:swapsWithSole [l] e pos.line X.env=pure false:=by rfl) (hw:swappedStores [l] e X.env=pure none:=by rfl)
  (j:(assignEach [l] X.env).map (·.2)=[assign l X.env]:=by rfl):vR X (.Assign [l] e pos) (BI I g):=(Rp o p C hw j).mono λz D H b=>b.elim λB x T y k hd n s=>⟨B,x,T,_,k,hd,n,λr c v A q d1 j=>by
 cases a:sd r with
 | none=>rw[a] at j;exact j.elim
 | some d =>
  rw[a] at j;exact⟨B,c,T,d,_,q,d1.thaw a,j,λf h i t u _ d2 w=>(s.1 f h i t u d2).1 w⟩⟩
def Vj:Kw:=λo i v H Q=>Tw o i v H Q\/∃ a b,o = .ref a/\yQ H a i v b/\Q b
theorem AH (j:X.A.units+1<cLine):Nu X Vj:=by
 intro b s t H o i v n m u Q I d c e h;rcases h with h | ⟨a,f,rfl,g,q⟩
 .exact BH b s t H o i v n m u Q I d c e h
 .cases d;exact Qe j I g c e λw k=>⟨f,k,q⟩
theorem DS.slotW {g:Aa Sl}{j:St}(C:g.length=j.length) (h:DS K B (g.zip j++T) H){i:Nat}{c:D}(e:g[i]?=some (.o c)):∃ a,j[i]?=some (some (.ref a))/\pX K (Al B (lT (g.zip j++T))) H a c /\
  ∀ (o:HO) (l:D),(∀ p,Kp (Al B (lT (g.zip j++T))) p H (upd H a o)->pX K p (upd H a o) a l)->DS K B ((g.set i (.o l)).zip j++T) (upd H a o):=by
 obtain⟨q,y,s,m,_,n,b⟩:=yN C e;have d:DS K B (q++(.o c,y)::(s++T)) H:=by rw[n] at h;simpa using h
 obtain⟨a,rfl,_⟩:=d.at;have f:lT (g.zip j++T)=lT q++a::lT (s++T):=by rw[n,bM,cT,sD];rfl
 obtain⟨v,t,r⟩:=d.ownAt;cases t;refine⟨a,m,by rw[f];exact r,λo l k=>?_⟩;rw[f] at k;have u:=d.write (o:=o) (d':=l) k;have:=b (.o l) (some (.ref a));rw[Dp m] at this;rw[this]
 simpa using u
theorem Zg (h:F1 c k d=some p) (r:pX K A H a c) (J:pC K A H k y) (I:Rep K A H d v)
  (C:∀ o,(∀ g,Kp A g H (upd H a o)->pX K g (upd H a o) a p)->Q (upd H a o)):Vj (.ref a) y v H Q:=by
 cases c with
 | l M =>
  cases k with
  | int i =>
   obtain⟨m,s,n⟩:=r;obtain⟨j,u,rfl⟩:=dF.mp h;have:=J.int_inv;subst this;exact .inl ⟨a,m,i,j,rfl,rfl,s,by rw[<- n.length];exact u,C _ λg w=>⟨_,oO,(n.set I j).mono w⟩⟩
  | _=>cases h
 | k e =>
  obtain⟨m,s,q,n⟩:=r;have h:=(show (if e.length<100000 then (vI k).map λj=>D.k (pZ e j d) else none)=some p from h);by_cases f:e.length<100000
  .rw[aQ f] at h;obtain⟨j,u,rfl⟩:=dF.mp h;rw[F4 u J];obtain⟨z,B⟩:=Nz q n (k:=j) I;have x:m.length<sizeLine:=by
    have:=cA List.length q;simp only[aA] at this;exact bT (show m.length<100000 by omega) (by decide)
   exact .inr ⟨a,_,rfl,yQ.k s x,C _ λg w=>⟨_,oO,z,B.mono w⟩⟩
  .rw[aG f] at h;cases h
 | T e =>
  cases k with
  | t F =>
   obtain⟨m,s,q,n⟩:=r;have h:=(show (if e.length<100000 then (Bk F).map λj=>D.T (pZ e j d) else none)=some p from h);by_cases f:e.length<100000
   .rw[aQ f] at h;obtain⟨j,u,rfl⟩:=dF.mp h;obtain⟨b,L,rfl,E,G⟩:=J.tup_inv;rw[Rr u G] at E;obtain⟨z,B⟩:=Nz q n (k:=j) I;have x:m.length<sizeLine:=by
     have:=cA List.length q;simp only[aA] at this;exact bT (show m.length<100000 by omega) (by decide)
    exact .inr ⟨a,_,rfl,yQ.t s E x,C _ λg w=>⟨_,oO,z,B.mono w⟩⟩
   .rw[aG f] at h;cases h
  | _=>cases h
 | _=>cases h
theorem yJ (U:X.A.units+1<cLine) (hv:PD X e tv) (I:PE X o (rC n)) (r:PD X i ti)
  (j:∀ v,assign (.Subscript o i g) X.env v=(do
   let l <- holding [v] (eval o X.env);let C <- holding [v,l] (eval i X.env)
   standAt g
   holding [v,l,C] (setItem l C v)
   release [v,l,C] []):=by intro _;rfl)
  (J:swapsWithSole [.Subscript o i g] e pos.line X.env=pure false:=by rfl) (hw:swappedStores [.Subscript o i g] e X.env=pure none:=by rfl)
  (p:(assignEach [.Subscript o i g] X.env).map (·.2)=[assign (.Subscript o i g) X.env]:=by rfl):vR X (.Assign [.Subscript o i g] e pos) (Xi n ti tv) :=
 (Rp hv (DO I r (AH U) j) J hw p).mono λDn σ H q=>q.elim λB ρ T De N hd P Q=>⟨B,ρ,T,_,N,hd,P,λF u v H1 D d1 t=>by
  obtain⟨r,p⟩:=t;obtain⟨d0,L⟩:=dR.mp r;obtain⟨x,z,_⟩:=d1.peek D L;refine⟨x,z,B,u,(F,some v)::T,_,D,d1,p,λY w y H2 E d2 b=>?_⟩;cases f:sd F with
  | none=>rw[f] at b;exact b.elim
  | some d =>
   cases h:sd Y with
   | none=>rw[f,h] at b;exact b.elim
   | some k =>
    cases m:w[n]? with
    | none=>rw[f,h,m] at b;exact b.elim
    | some s =>
     cases s with
     | n=>rw[f,h,m] at b;exact b.elim
     | v c=>rw[f,h,m] at b;exact b.elim
     | o c =>
      rw[f,h,m] at b;obtain⟨G,M,b⟩:=b;obtain⟨R,S,V⟩:=d2.two f h;obtain⟨a,j,W,Z⟩:=R.slotW E m;rw[z] at j;cases j;exact Zg M W V.peek S λo O=>(Q.1 _ _ _ (by rw[cB];exact E) rfl (Z o G O)).1 b⟩
end
section
variable {X:Cx}
def IV (K:nH) (R:It->Hp->Prop) (x:V) (H:Hp):Prop:=(∃ a,x = .ref a/\(∃ b,nX K H a b)/\R (Hm K a) H)\/(∃ a,x = .ref a/\(∃ b,oP K H a b)/\R (Gw K a) H)\/∃ z:Af,x = .str z/\z.cps.all (·<128)=true/\R (xG z) H
def DM (K:nH) (g:TE):TI:=λb H R=>g b H λx a=>IV K R x a
theorem U0 (g:PE X l j):PI X r l (DM X.K j):=by
 intro d s G H R I h;refine nL (g d s G H _ I h) λv c u=>?_
 obtain⟨x,k,f,w,D⟩:=u;have m:∀ b∈[c.heap.objs.size],uT X d k b:=λb A=>by
  have e:b=c.heap.objs.size:=by simpa using A
  subst e;exact f.fpOk (bB _) (f.hok.fresh (bB _))
 rcases D with⟨a,rfl,⟨F,n⟩,q⟩ | ⟨a,rfl,⟨F,n⟩,q⟩ | ⟨z,rfl,y,q⟩
 .cases w;obtain⟨i,E,p,B⟩:=f.list n;exact wpAny_pyIter_list p.isList ⟨c.heap.objs.size,[c.heap.objs.size],_,_,k,rfl,f.kept (t':=c.toks) λb o e=>aD _ e,KZ a _,⟨_,bF _ rfl,rfl,rfl⟩,m,q⟩
 .cases w;obtain⟨i,E,p,B⟩:=f.tuple n;exact wpAny_pyIter_tuple (show c.heap.IsTuple a i.toArray from p) ⟨c.heap.objs.size,[c.heap.objs.size],_,_,k,rfl,f.kept (t':=c.toks) λb o e=>aD _ e,Rg a _,⟨_,bF _ rfl,rfl,rfl⟩,m,q⟩
 .obtain⟨t,rfl⟩:=w;exact wpAny_pyIter_ascii y ⟨c.heap.objs.size,[c.heap.objs.size],_,xG z,k,rfl,f.kept (t':=c.toks) λb L q=>aD _ q,V7 z t _,⟨_,bF _ rfl,rfl,rfl⟩,m,q⟩
end
def Ax (K:nH) (A:Ad->Prop) (H:Hp) (E:pN):Prop:=∀ p∈E,uF K A H p.1 p.2
structure YD (K:nH) (J:It) (ds:List D) (E:pN):Prop where
 vals:lT E=[]
 go:∀ i H A,i<ds.length->Ax K A H E->J.go i H
 yld:∀ i H A x H',i<ds.length->Ax K A H E->J.yld i H x H'->∃ d,ds[i]?=some d/\((H'=H/\Rep K A H d x)\/∃ p es vs,H p=none/\x = .ref p/\H'=upd H p (.t vs)/\d = .t es/\Reps K A H es vs)
 stop:∀ i H A,i=ds.length->Ax K A H E->J.stop i H
abbrev xY:=Aa Ad->Aa Sl->(Aa D->Aa Sl->Prop)->Prop
def dI (K:nH) (g:xY):TI:=λb H R=>∃ (B:Bs) (c:Aa Sl) (T:pN) (e:Aa D->Aa Sl->Prop),c.length=b.length/\DS K B (c.zip b++T) H/\g B.dk c e /\
 ∀ (J:It) (ds:Aa D) (a:Aa Sl) (E:pN) (d:Hp),a.length=b.length->DS K B (a.zip b++(E++T)) d->YD K J ds E->e ds a->R J d
theorem dI.elim {K:nH}{R:It->Hp->Prop}{P:Prop}(h:dI K r o H R) (f:∀ (B:Bs) (j:Aa Sl) (T:pN) (l:Aa D->Aa Sl->Prop),j.length=o.length->DS K B (j.zip o++T) H->r B.dk j l ->(∀ (J:It) (ds:Aa D) (g:Aa Sl) (E:pN) (p:Hp),g.length=o.length->DS K B (g.zip o++(E++T)) p->YD K J ds E->l ds g->R J p)->P):P:=by
 obtain⟨B,j,T,l,a,hd,b,k⟩:=h;exact f B j T l a hd b k
abbrev B1 (X:Cx) (g iter:Expr) (j:xY):Prop:=PI X g iter (dI X.K j)
theorem PI.mono {X:Cx}{iter:Expr}(h:PI X j iter w) (k:∀ g H R,l g H R->w g H R):PI X j iter l:=λa s g H R I q=>h a s g H R I (k g H R q)
noncomputable def Dw (z:Af):Aa D:=z.cps.toList.map λc=>D.str ⟨#[c]⟩
def EW:D->Ab (Aa D)
 | .l a=>some a
 | .t a=>some a
 | .con a=>some a
 | .c a=>some a
 | .str z=>if z.cps.all (·<128) then some (Dw z) else none
 | _=>none
def iV (g:oG):xY:=λb d c=>g b d λr a=>match (sd r).bind EW with
 | some ds=>c ds a
 | none=>False
noncomputable def rL (lo:Int) (n:Nat):Aa D:=(List.range n).map λ(i:Nat)=>D.int (lo+i)
def DB (g:oG):xY:=λb d c=>g b d λr a=>match r with
 | .v (.int j)=>-(2 ^ 62)<=j/\j<2 ^ 62/\c (rL 0 j.toNat) a
 | _=>False
section
variable {X:Cx}{K:nH}
theorem QL {a:Ad}{ds:Aa D}:YD K (Hm K a) ds [(.v (.l ds),some (.ref a))] where
 vals:=rfl
 go:=λi H A h ok=>by
  obtain⟨v,e,r⟩:=ok _ aI;cases e;obtain⟨k,b,e,_,c,f⟩:=r.lst_inv;cases e;exact⟨b,b[i]'(by rw[<- f.length];exact h),nX.of c,aH _⟩
 yld:=λi H A x m h ok y=>by
  obtain⟨v,e,r⟩:=ok _ aI;cases e;obtain⟨k,b,e,_,c,f⟩:=r.lst_inv;cases e;obtain⟨d,hd,rd⟩:=f.getV (y.2 b (nX.of c));exact⟨d,hd,.inl ⟨y.1,rd⟩⟩
 stop:=λi H A h ok=>by
  obtain⟨v,e,r⟩:=ok _ aI;cases e;obtain⟨k,b,e,_,c,f⟩:=r.lst_inv;cases e;exact⟨b,nX.of c,by rw[<- f.length];omega⟩
theorem FN {a:Ad}{ds:Aa D}:YD K (Hm K a) ds [(.v (.c ds),some (.ref a))] where
 vals:=rfl
 go:=λi H A k ok=>by
  obtain⟨v,e,r⟩:=ok _ aI;cases e;obtain⟨m,b,e,f,h⟩:=r.scr_inv;cases e;exact⟨b,b[i]'(by rw[<- h.length];exact k),f.sqL,aH _⟩
 yld:=λi H A x n k ok y=>by
  obtain⟨v,e,r⟩:=ok _ aI;cases e;obtain⟨m,b,e,f,h⟩:=r.scr_inv;cases e;obtain⟨d,hd,rd⟩:=h.getV (y.2 b f.sqL);exact⟨d,hd,.inl ⟨y.1,rd⟩⟩
 stop:=λi H A k ok=>by
  obtain⟨v,e,r⟩:=ok _ aI;cases e;obtain⟨m,b,e,f,h⟩:=r.scr_inv;cases e;exact⟨b,f.sqL,by rw[<- h.length];omega⟩
theorem Wv {a:Ad}{d:D}{ds:Aa D}(hd:d = .t ds\/d = .con ds):YD K (Gw K a) ds [(.v d,some (.ref a))]:=by
 have key:∀ A H,Ax K A H [(.v d,some (.ref a))]->∃ b,oP K H a b/\Reps K A H ds b:=λA H ok=>by
  obtain⟨v,e,r⟩:=ok _ aI;cases e;rcases hd with rfl | rfl
  .obtain⟨k,b,e,c,f⟩:=r.tup_inv;cases e;exact⟨b,oP.of c,f⟩
  .obtain⟨k,b,e,c,f⟩:=r.con_inv;cases e;exact⟨b,c.sqT,f⟩
 refine⟨rfl,λi H A h ok=>?_,λi H A x m h ok y=>?_,λi H A h ok=>?_⟩
 .obtain⟨b,c,f⟩:=key A H ok;exact⟨b,b[i]'(by rw[<- f.length];exact h),c,aH _⟩
 .obtain⟨b,c,f⟩:=key A H ok;obtain⟨d,hd,rd⟩:=f.getV (y.2 b c);exact⟨d,hd,.inl ⟨y.1,rd⟩⟩
 .obtain⟨b,c,f⟩:=key A H ok;exact⟨b,c,by rw[<- f.length];omega⟩
theorem QT:YD K (xG z) (Dw z) [] where
 vals:=rfl
 go:=λi H A a _=>by simpa [xG,Dw,Str.length] using a
 yld:=λi H A x d a _ y=>by
  obtain⟨e,c,b,rfl⟩:=y;refine⟨.str ⟨#[c]⟩,?_,.inl ⟨e,.str _⟩⟩;unfold Dw;rw[bH,fX,b];rfl
 stop:=λi H A a _=>by simp[xG,a,Dw,Str.length]
theorem LD {lo:Int}:YD K (Dd lo n) (rL lo n) [] where
 vals:=rfl
 go:=λi H A a _=>by simpa [Dd,rL] using a
 yld:=λi H A x c a _ y=>by
  have b:i<n:=by simpa [rL] using a
  refine⟨.int (lo+i),by simp[rL,b],.inl ⟨y.1,?_⟩⟩;rw[y.2];exact .int _
 stop:=λi H A a _=>by simp[Dd,rL,a]
theorem oS (g:PD X e j):B1 X o e (iV j):=(U0 g).mono λL H R w=>w.elim λB G T F A hd E k=>⟨B,G,T,_,A,hd,E,λr f v n q d1 b=>by
 cases u:sd r with
 | none=>rw[u] at b;exact b.elim
 | some d =>
  rw[u] at b;have d2:=d1.thaw u;have s:=d2.valAt;cases d with
  | l m=>obtain⟨a,i,rfl,_,h,y⟩:=s.lst_inv;exact .inl ⟨a,rfl,⟨i,nX.of h⟩,k _ m f [_] n q d2 QL b⟩
  | c m=>obtain⟨a,i,rfl,h,y⟩:=s.scr_inv;exact .inl ⟨a,rfl,⟨i,h.sqL⟩,k _ m f [_] n q d2 FN b⟩
  | t m=>obtain⟨a,i,rfl,h,y⟩:=s.tup_inv;exact .inr (.inl ⟨a,rfl,⟨i,oP.of h⟩,k _ m f [_] n q d2 (Wv (.inl rfl)) b⟩)
  | con m=>obtain⟨a,i,rfl,h,y⟩:=s.con_inv;exact .inr (.inl ⟨a,rfl,⟨i,h.sqT⟩,k _ m f [_] n q d2 (Wv (.inr rfl)) b⟩)
  | str z =>
   have:=s.str_inv;subst this;have b:=(show (match (if z.cps.all (·<128)=true then some (Dw z) else none:Ab (Aa D)) with | some ds=>F ds f | none=>False) from b);by_cases x:z.cps.all (·<128)=true
   .rw[aQ x] at b;exact .inr (.inr ⟨z,rfl,x,k _ _ f [] n q d2.drop QT b⟩)
   .rw[aG x] at b;exact b.elim
  | _=>exact b.elim⟩
theorem zA (j:Gl X "range") (l:X.mg "range" = none) (g:PD X a I) (C:starEach [a] X.env=[(false,eval a X.env)]:=by rfl) (o:yG a=true:=by rfl):B1 X J (.Call (.Name "range" p) [a] [] pos) (DB I) :=
 (QW j l (oH g qN o) C).mono λs H R c=>c.elim λB n T q h hd i k=>⟨B,n,T,_,h,hd,i,λr e v f m d1 b=>by
  cases r<;>first | exact False.elim b | skip
  rename_i d
  cases d<;>first | exact False.elim b | skip
  have:=d1.valAt.int_inv;subst this;exact⟨_,rfl,b.1,b.2.1,k _ _ e [] f m d1.drop LD b.2.2⟩⟩
def Io (l:xY) (g:vY) (j:qK):qK:=λf b h=>l f h λds c=>∃ Pv:Nat->Aa Sl->Prop,Pv 0 c /\
 (∀ i d a,ds[i]?=some d->Pv i a->g d a λe=>j f { nx:=Pv (i+1),ct:=Pv (i+1),bk:=b.nx,rt:=b.rt } e)/\∀ a,Pv ds.length a->b.nx a
theorem DS.rmE:∀ {E:pN},DS K B (L++(E++T)) H->DS K B (L++T) H
 | [],h=>h
 | x::E,h=>DS.rmE (E:=E) (DS.drop (L1:=L) (x:=x) (by simpa using h))
theorem tU {iter:Expr}{body:Aa Stmt}{o:xY}{g:vY}{j:qK}(hi:B1 X l iter o) (U:wE X 99 l g) (C:sB X body j) (hp:PassesOwn (model X.prog X.w) X.A X.env X.xe:=by exact lR) (I:X.calm=true:=by rfl)
  (hs:∀ x,foldedSetIterable iter X.env x=pure x:=by intro _;rfl):vR X (.For l iter body [] pos) (Io o g j) :=
 (Hu hp I hi U C hs).mono λDn V H N=>N.elim λB ρ T De hl hd ht P=>⟨B,ρ,T,_,hl,hd,ht,λJ ds R E H1 l1 d1 Y O=>by
  obtain⟨Pv,p0,step,fin⟩:=O;refine⟨λi m c k=>m=ds.length-i/\i<=ds.length/\∃ a,a.length=c.length/\c.length=V.length/\DS X.K B (a.zip c++(E++T)) k/\Pv i a,⟨_,rfl,gA _,R,l1,rfl,d1,p0⟩,?_⟩;rintro i m c k ⟨rfl,aa,a,S,m2,G,pv⟩;have n:Ax X.K (Al B (lT (a.zip c++(E++T)))) k E:=λq hq=>G.ok q (by simp[hq])
  by_cases s:i<ds.length
  .refine .inr ⟨Y.go i k _ s n,λf t=>∃ b,b.length=f.length/\f.length=V.length/\DS X.K B (b.zip f++(E++T)) t/\Pv (i+1) b,λf t ⟨b,q1,q2,Q,q4⟩=>⟨_,(by omega:ds.length-(i+1)<_),rfl,s,b,q1,q2,Q,q4⟩,λx t y=>?_⟩;obtain⟨d,L,alt⟩:=Y.yld i k _ x t s n y;have d2:DS X.K B (a.zip c++(.v d,some x)::(E++T)) t:=by
    rcases alt with⟨rfl,rx⟩ | ⟨p,es,vs,M,rfl,rfl,rfl,rr⟩
    .exact G.push rx
    .exact G.tup M rr
   refine⟨B,a,E++T,d,_,S,d2,step i d a L pv,λb f H3 n1 n2 _ W Q=>⟨B,b,E++T,_,n1,W,Q,?_,?_⟩⟩
   .intro e h F u a2 D;refine⟨λz=>⟨e,u,by omega,D,z⟩,λz=>?_,λz=>⟨e,u,by omega,D,z⟩⟩;exact (P.1 e h F u (by omega) D.rmE).1 z
   .intro r v e h F u D z;refine P.2 r v e h F u ?_ z;have:DS X.K B ((e.zip h++[(r,some v)])++(E++T)) F:=by simpa using D
    simpa using this.rmE
  .have Z:i=ds.length:=by omega
   subst Z;exact .inl ⟨Y.stop _ k _ rfl n,(P.1 a c k S m2 G.rmE).1 (fin a pv)⟩⟩
end
def oV (B:Bs) (D:Ad) (g:Aa V):Bs:=⟨B.dk,λa=>(B.A0 a\/B.H0 a=none)/\a≠D,λa=>if a=D then some (.l g) else B.H0 a⟩
section
variable {K:nH}{R:pN}{D:Ad}
theorem Fe {R:Aa Ad}:Al (oV B D g) R a↔Al B R a/\a≠D:=by
 unfold Al oV;constructor
 .rintro ⟨c,d,b | b⟩
  .exact⟨⟨c,d,b.1⟩,b.2⟩
  .dsimp only at b;by_cases z:a=D
   .rw[aQ z] at b;cases b
   .rw[aG z] at b;exact⟨⟨c,d,.inr b⟩,z⟩
 .rintro ⟨⟨c,d,b⟩,e⟩;exact⟨c,d,.inl ⟨b,e⟩⟩
theorem DS.pin (h:DS K B L H) (g:H D=none):DS K (oV B D []) L (upd H D (.l [])):=by
 obtain⟨f1,f2,d⟩:=h.free g;refine⟨λb o e n=>?_,h.dk.upd f2,h.nd,λa c=>?_,λp f=>(h.ok p f).mono (.laid g λa z n=>Fe.mpr ⟨z,n⟩) λb i o q=>by rw[nP (pJ q g)];exact q⟩
 .by_cases z:b=D
  .subst z;simp only[oV,jS] at e;cases e;exact oO
  .simp only[oV,aG z] at e;rw[nP z];exact h.fr b o e n
 .have:=h.new a c;have z:a≠D:=λq=>d (q▸c)
  exact⟨by simp only[oV,aG z];exact this.1,this.2⟩
theorem DS.pinAt (h:DS K (oV B D j) L H) (g:D∉B.dk):H D=some (.l j):=h.fr D _ (by simp[oV]) g
theorem DS.pinW (h:DS K (oV B D j) L H) (g:D∉B.dk):DS K (oV B D ys') L (upd H D (.l ys')):=by
 have d:=h.pinAt g;have k:Kp (Al (oV B D j) (lT L)) (Al (oV B D ys') (lT L)) H (upd H D (.l ys')) :=
  (Kp.write (A:=Al (oV B D j) (lT L)) d rfl λz=>(Fe.mp z).2 rfl).trans (.all λa z=>Fe.mpr (Fe.mp z))
 refine⟨λb o e n=>?_,h.dk.upd g,h.nd,λa f=>?_,λp c=>(h.ok p c).mono k λb i o q=>?_⟩
 .by_cases z:b=D
  .subst z;simp only[oV,jS] at e;cases e;exact oO
  .simp only[oV,aG z] at e;rw[nP z];exact h.fr b o (by simp only[oV,aG z];exact e) n
 .have:=h.new a f;have z:a≠D:=λq=>by subst q;simp[oV] at this
  simp only[oV,aG z] at this |-;exact this
 .have:=(h.new b (uC.mpr ⟨p,c,i⟩)).1;have z:b≠D:=λw=>by subst w;simp[oV] at this
  rw[nP z];exact q
theorem DS.unpin (h:DS K (oV B D g) L H) (r:Reps K (Al (oV B D g) (lT L)) H I g) (j:B.H0 D=none) (C:D∉B.dk):DS K B ((.o (.l I),some (.ref D))::L) H:=by
 have k:=h.pinAt C;have i:D∉lT L:=λz=>by have:=(h.new D z).1;simp[oV] at this
 have c:lT ((Sl.o (.l I),some (V.ref D))::L)=D::lT L:=rfl;have al:∀ a,Al (oV B D g) (lT L) a->Al B (D::lT L) a:=λa z=>by
  obtain⟨d,s⟩:=Fe.mp z;exact⟨d.1,λq=>(aM.mp q).elim s d.2.1,d.2.2⟩
 refine⟨λb o e n=>?_,h.dk,by rw[c];exact bP.mpr ⟨i,h.nd⟩,λa f=>?_,λp m=>?_⟩
 .have z:b≠D:=λq=>by subst q;rw[j] at e;cases e
  exact h.fr b o (by simp only[oV,aG z];exact e) n
 .rw[c] at f;rcases aM.mp f with q | q
  .subst q;exact⟨j,C⟩
  .have:=h.new a q;have z:a≠D:=λw=>i (w▸q)
   simp only[oV,aG z] at this;exact this
 .rw[c];rcases aM.mp m with q | q
  .subst q;exact⟨D,rfl,g,k,r.mono (.all al)⟩
  .exact (h.ok p q).mono (.all al) λ_ _ _ w=>w
theorem DS.lend1 {g:Aa Sl}{j:St}(l:g.length=j.length) (h:DS K B (g.zip j++R) H) (i:Nat):DS K B ((g.set i .n).zip j++((g[i]?).getD .n,(j[i]?).join)::R) H:=by
 by_cases d:i<g.length
 .obtain⟨b,y,c,f,_,t,a⟩:=yN l (aH d);rw[t] at h;have k:DS K B (b++(g[i],y)::(c++R)) H:=by simpa using h
  have m:=k.front;have q:DS K B (((g[i],y)::b)++(.n,y)::(c++R)) H:=DS.pushN (L1:=(g[i],y)::b) (by simpa using m) y;have e:=a .n y;rw[Dp f] at e;rw[e,aH d,f];have s:DS K B ((g[i],y)::((b++(Sl.n,y)::c)++R)) H:=by simpa using q
  exact s.mid
 .rw[iU (by omega),lB (by omega),lB (by omega)];exact h.pushN _
theorem DS.back1 {g:Aa Sl}{l:St}{s:Sl}{y:Ab V}(o:g.length=l.length) (h:DS K B (g.zip l++(s,y)::R) H){i:Nat}(j:(l[i]?).join=y):DS K B ((g.set i s).zip l++R) H:=by
 by_cases q:i<g.length
 .obtain⟨d,a,f,c,_,t,b⟩:=yN o (aH q);rw[c] at j;have j:a=y:=j;subst j;have e:=b s a;rw[Dp c] at e;rw[e];rw[t] at h;have k:DS K B (d++(f++(s,a)::R)) H:=DS.drop (L1:=d) (x:=(g[i],a)) (by simpa using h);have m:DS K B ((d++f)++(s,a)::R) H:=by simpa using k
  have n:DS K B ((s,a)::(d++(f++R))) H:=by simpa using m.front
  simpa using n.mid
 .rw[iU (by omega)];exact h.drop
def rA (g:Aa Nat) (j:Aa Sl):Aa Sl:=g.map λi=>(j[i]?).getD .n
def tF (g:Aa Nat) (j:St):St:=g.map λi=>(j[i]?).join
def qZ (g:Aa Nat) (j:Aa Sl):Aa Sl:=g.foldl (λj i=>j.set i .n) j
def rP:Aa Nat->Aa Sl->Aa Sl->Aa Sl
 | i::a,s::c,b=>rP a c (b.set i s)
 | _,_,b=>b
theorem Mo:∀ (g:Aa Nat) (j:Aa Sl),(qZ g j).length=j.length
 | [],_=>rfl
 | i::g,j=>by show (qZ g (j.set i .n)).length=_;rw[Mo g,cB]
theorem Pb:∀ (g:Aa Nat) (l:Aa Sl) (j:Aa Sl),(rP g l j).length=j.length
 | [],_,_=>rfl
 | _::_,[],_=>rfl
 | i::g,s::l,j=>(Pb g l (j.set i s)).trans (cB ..)
theorem DS.lend:∀ {caps:Aa Nat}{g:Aa Sl}{R:pN},caps.Nodup->g.length=l.length->DS K B (g.zip l++R) H->DS K B ((qZ caps g).zip l++((rA caps g).zip (tF caps l)++R)) H
 | [],g,R,_,a,h=>h
 | i::caps,g,R,d,a,h=>by
  obtain⟨f,k⟩:=bP.mp d;have b:=DS.lend (caps:=caps) (R:=((g[i]?).getD .n,(l[i]?).join)::R) k (by rw[cB];exact a) (h.lend1 a i);have e:rA caps (g.set i .n)=rA caps g:=eR λj c=>by rw[eY (λz:i=j=>f (by rw[z];exact c))]
  rw[e] at b;show DS K B ((qZ caps (g.set i .n)).zip l++((((g[i]?).getD .n,(l[i]?).join)::(rA caps g).zip (tF caps l))++R)) H;refine b.perm (lD _ ?_);rw[cT];exact jA
theorem DS.back:∀ {caps:Aa Nat}{cs:Aa Sl}{g:Aa Sl}{R:pN},cs.length=caps.length->g.length=j.length->DS K B (g.zip j++(cs.zip (tF caps j)++R)) H->DS K B ((rP caps cs g).zip j++R) H
 | [],[],g,R,_,a,h=>h
 | [],_::_,_,_,e,_,_=>by simp at e
 | _::_,[],_,_,e,_,_=>by simp at e
 | i::caps,s::cs,g,R,e,a,h=>by
  have b:DS K B (g.zip j++(s,(j[i]?).join)::(cs.zip (tF caps j)++R)) H:=h;exact DS.back (caps:=caps) (cs:=cs) (by simpa using e) (by rw[cB];exact a) (b.back1 a rfl)
theorem LA (g:Aa Nat):∀ (o:Aa Sl) (l:Aa Sl),o.length=g.length->g.Nodup->rP g o (qZ g l)=rP g o l:=by
 have ext:∀ (g:Aa Nat) (o:Aa Sl) (l a:Aa Sl),o.length=g.length->l.length=a.length->(∀ j,j∉g->l[j]?=a[j]?)->rP g o l=rP g o a:=by
  intro g;induction g with
  | nil=>intro o l a _ _ h;cases o<;>exact List.ext_getElem? λj=>h j aR
  | cons i g c =>
   intro o l a e d h;cases o with
   | nil=>simp at e
   | cons s o =>
    show rP g o (l.set i s)=rP g o (a.set i s);refine c o _ _ (by simpa using e) (by simp[d]) λj b=>?_
    by_cases z:j=i
    .subst z;rw[List.getElem?_set,List.getElem?_set,d,aQ rfl,aQ rfl]
    .rw[eY (fQ z),eY (fQ z)];exact h j λq=>(aM.mp q).elim z b
 intro o l e _;refine ext g o _ _ e (Mo g l) λj b=>?_
 have:∀ (g:Aa Nat) (l:Aa Sl),j∉g->(qZ g l)[j]?=l[j]?:=by
  intro g;induction g with
  | nil=>intro l _;rfl
  | cons i g c =>
   intro l b;show (qZ g (l.set i .n))[j]?=_;rw[c _ (λz=>b (aV _ z)),eY (λz=>b (by simp[z]))]
 exact this g l b
theorem Uk:∀ {g:Aa L2.D}{j:Aa V},g.length=j.length->(∀ p∈rE g j,uF K A H p.1 p.2)->Reps K A H g j
 | [],[],_,_=>.nil
 | [],_::_,e,_=>by simp at e
 | _::_,[],e,_=>by simp at e
 | c::g,y::j,e,key=>by
  obtain⟨u,b,r⟩:=key (.v c,some y) (by simp[rE]);cases b;exact .cons r (Uk (by simpa using e) λp a=>key p (by simp only[rE,jH,bD,aM] at a |-;exact .inr a))
theorem DS.forget {ρ:Aa Sl}(n:Nat) (g:ρ.length=σ.length) (j:n<=ρ.length) (h:DS K B (ρ.zip σ++R) H):DS K B ((List.replicate n Sl.n++ρ.drop n).zip σ++R) H:=by
 induction n generalizing ρ σ R with
 | zero=>simpa using h
 | succ n c =>
  cases ρ with
  | nil=>simp at j
  | cons r ρ =>
   cases σ with
   | nil=>simp at g
   | cons y σ =>
    have a:DS K B (ρ.zip σ++R) H:=DS.drop (L1:=[]) (x:=(r,y)) h;have b:=c (ρ:=ρ) (σ:=σ) (R:=R) (by simpa using g) (by simpa using j) a;rw[dO,cT,List.drop_succ_cons,jH];exact DS.pushN (L1:=[]) b y
end
def Lr:sW:=λ_ b a=>a true b
def zH (n:Nat) (j:Aa Nat) (I:xY) (g:vY) (C:sW) (p:oG):oG:=λk t s=>I k t λds f=>∃ Pv:Nat->Aa D->Aa Sl->Prop,Pv 0 [] (rA j f) /\
 (∀ i d e a,ds[i]?=some d->a.length=j.length->Pv i e a->g d (List.replicate n Sl.n++a) λm=>C k m λb h=>if b=true then p k h λr q=>match sd r with
  | some c=>e.length<100000/\Pv (i+1) (e++[c]) (q.drop n)
  | none=>False
  else Pv (i+1) e (h.drop n)) /\
 ∀ e a,a.length=j.length->Pv ds.length e a->s (.o (.l e)) (rP j a f)
section
variable {X:Cx}
theorem Ka:wB X [] (tE X.K Lr):=λa s f H Q I b=>b.elim λB e T h c hd d k=>R6 a s f H Q I (k true e H c hd d)
theorem xJ (h:uD X c t):wB X [c] (tE X.K t):=Xd h
theorem Ey {T:Aa Af}{caps:Aa Nat}{g:vY}{tt:sW}{te:oG}{K:nH}(ac:caps.Nodup){U:St}{H1:Hp}{Q:VK}{B:Bs}{C:Aa Sl}{Tm:pN}{Φ:Sl->Aa Sl->Prop}{J:It}{ds:Aa L2.D}{D:Ad}(l1:C.length=U.length) (d1:DS K B (C.zip U++Tm) H1)
  (hJ:∀ i I La M H,(∀ q∈Tm,q∈M)->DS K (oV B D I) (La++M) H->(i<ds.length->J.go i H)/\(i=ds.length->J.stop i H)/\∀ x H2,i<ds.length->J.yld i H x H2->∃ d,ds[i]?=some d/\DS K (oV B D I) (La++(.v d,some x)::M) H2)
  (ag:∃ Pv:Nat->Aa L2.D->Aa Sl->Prop,Pv 0 [] (rA caps C) /\ (∀ i d I cs,ds[i]?=some d->cs.length=caps.length->Pv i I cs->g d (List.replicate T.length Sl.n++cs) λaf=>tt B.dk af λb ab=>if b=true then te B.dk ab λr aa=>match sd r with
    | some c=>I.length<100000/\Pv (i+1) (I++[c]) (aa.drop T.length)
    | none=>False
    else Pv (i+1) I (ab.drop T.length)) /\
   ∀ I cs,cs.length=caps.length->Pv ds.length I cs->Φ (.o (.l I)) (rP caps cs C))
  (k:∀ r ae v H',ae.length=U.length->DS K B (ae.zip U++(r,some v)::Tm) H'->Φ r ae->Q v H') (hD:H1 D=none):C5 T caps J (dG K T.length g) (tE K tt) (dE K te) U H1 Q D:=by
 obtain⟨Pv,p0,step,fin⟩:=ag;obtain⟨f1,f2,f3⟩:=d1.free hD;refine⟨λi m I s H'=>m=ds.length-i/\i<=ds.length/\s.length=T.length+caps.length/\(∀ j,T.length<=j->s[j]?=(tX T caps U)[j]?)/\∃ (h:Aa L2.D) (cs:Aa Sl),cs.length=caps.length/\h.length=I.length /\ DS K (oV B D I) ((List.replicate T.length Sl.n++cs).zip s++((qZ caps C).zip U++(rE h I++Tm))) H'/\Pv i h cs,?_,?_⟩
 .refine⟨_,rfl,gA _,by simp[tX],λ_ _=>rfl,[],rA caps C,by simp[rA],rfl,?_,p0⟩;have h2:=(d1.lend ac l1).pin hD;have e:(List.replicate T.length Sl.n++rA caps C).zip (tX T caps U)=List.replicate T.length (Sl.n,none)++(rA caps C).zip (tF caps U):=by
   have:∀ n,(List.replicate n Sl.n++rA caps C).zip (List.replicate n none++tF caps U)=List.replicate n (Sl.n,none)++(rA caps C).zip (tF caps U):=by
    intro n;induction n with
    | zero=>rfl
    | succ n ih=>simp only[dO,cT,jH,ih]
   have W:tX T caps U=List.replicate T.length none++tF caps U:=by unfold tX tF;rw[List.map_const']
   rw[W];exact this _
  rw[e];have h3:DS K (oV B D []) ((rA caps C).zip (tF caps U)++((qZ caps C).zip U++Tm)) (upd H1 D (.l [])):=h2.perm (by
   rw[<- bM,<- bM (as:=(rA caps C).zip (tF caps U))];exact List.perm_append_comm.append_right _)
  have:∀ n,DS K (oV B D []) (List.replicate n (Sl.n,none)++((rA caps C).zip (tF caps U)++((qZ caps C).zip U++Tm))) (upd H1 D (.l [])):=by
   intro n;induction n with
   | zero=>exact h3
   | succ n ih=>rw[dO];exact DS.pushN (L1:=[]) ih none
  have e3:rE ([]:Aa L2.D) ([]:Aa V)=[]:=rfl;rw[e3]
  simpa using this T.length
 .rintro i m I s H' ⟨rfl,hi,ls,fs,h,cs,G,z,N,pv⟩;obtain⟨j1,j2,j3⟩:=hJ i I _ _ H' (λq hq=>by simp[hq]) N;by_cases w:i<ds.length
  .refine .inr ⟨j1 w,λf v R=>f.length=T.length+caps.length/\(∀ j,T.length<=j->f[j]?=(tX T caps U)[j]?)/\I.length<100000/\∃ (c:L2.D) (aa:Aa Sl),aa.length=f.length/\DS K (oV B D I) (aa.zip f++(.v c,some v)::((qZ caps C).zip U++(rE h I++Tm))) R/\Pv (i+1) (h++[c]) (aa.drop T.length),λf P=>f.length=T.length+caps.length/\(∀ j,T.length<=j->f[j]?=(tX T caps U)[j]?)/\∃ aa:Aa Sl,aa.length=f.length/\DS K (oV B D I) (aa.zip f++((qZ caps C).zip U++(rE h I++Tm))) P/\Pv (i+1) h (aa.drop T.length),?_,?_,λx H2 y=>?_⟩
   .rintro f v R ⟨q1,q2,q3,c,aa,A,t,q6⟩;refine⟨t.pinAt f2,bT q3 (by decide),ds.length-(i+1),by omega,rfl,w,q1,q2,h++[c],aa.drop T.length,by rw[List.length_drop];omega,by simp[z],?_,q6⟩;have w1:=(t.pinW (ys':=I++[v]) f2).forget T.length A (by omega);refine w1.perm (lD _ ?_);have ev:rE (h++[c]) (I++[v])=rE h I++[(.v c,some v)]:=by unfold rE;rw[List.zip_append z,List.map_append];rfl
    rw[ev];have p1:((Sl.v c,some v)::((qZ caps C).zip U++(rE h I++Tm))).Perm ((qZ caps C).zip U++(rE h I++((Sl.v c,some v)::Tm))):=by
     rw[<- bM,<- bM (as:=(qZ caps C).zip U)];exact jA.symm
    simpa using p1
   .rintro f P ⟨q1,q2,aa,A,t,q6⟩;exact⟨ds.length-(i+1),by omega,rfl,w,q1,q2,h,aa.drop T.length,by rw[List.length_drop];omega,z,t.forget T.length A (by omega),q6⟩
   .obtain⟨d,Z,d2⟩:=j3 x H2 w y;refine⟨oV B D I,_,_,d,_,by simp[G,ls],d2,step i d h cs Z G pv,λaf f H3 n1 n2 fr d3 q3=>⟨oV B D I,af,_,_,n1,d3,q3,λb ab P m1 d4 A=>?_⟩⟩;have F:∀ j,T.length<=j->f[j]?=(tX T caps U)[j]?:=λj O=>(fr j O).trans (fs j O)
    cases b with
    | false=>exact uZ ⟨by omega,F,ab,m1,d4,(aG (by decide)).mp A⟩
    | true =>
     refine (aQ rfl).mpr ⟨oV B D I,ab,_,_,m1,d4,(aQ rfl).mp A,λr aa v R m4 d5 t=>?_⟩;cases S:sd r with
     | none=>rw[S] at t;exact t.elim
     | some c =>
      rw[S] at t;exact⟨by omega,F,by rw[<- z];exact t.1,c,aa,m4,d5.thaw S,t.2⟩
  .have ei:i=ds.length:=by omega
   subst ei;refine .inl ⟨j2 rfl,?_⟩;have es:s=s.take T.length++tF caps U:=by
    apply List.ext_getElem?;intro j;by_cases O:j<T.length
    .rw[gO (by rw[cW];omega),List.getElem?_take_of_lt O]
    .rw[dZ (by rw[cW];omega),cW,fs j (by omega)];have W:tX T caps U=List.replicate T.length none++tF caps U:=by unfold tX tF;rw[List.map_const']
     rw[W,dZ (by rw[bZ];omega),bZ]
     congr 1
     omega
   have ez:(List.replicate T.length Sl.n++cs).zip s=(List.replicate T.length Sl.n).zip (s.take T.length)++cs.zip (tF caps U):=by
    conv=>lhs;rw[es]
    exact List.zip_append (by rw[bZ,cW];omega)
   have rr:Reps K (Al (oV B D I) (lT ((rP caps cs (qZ caps C)).zip U++Tm))) H' h I/\DS K (oV B D I) ((rP caps cs (qZ caps C)).zip U++Tm) H':=by
    have g1:DS K (oV B D I) (cs.zip (tF caps U)++((qZ caps C).zip U++(rE h I++Tm))) H':=by
     rw[ez,bM] at N;exact DS.rmE (L:=[]) (E:=(List.replicate T.length Sl.n).zip (s.take T.length)) N
    have g2:DS K (oV B D I) ((qZ caps C).zip U++(cs.zip (tF caps U)++(rE h I++Tm))) H':=g1.perm (by
     rw[<- bM,<- bM (as:=(qZ caps C).zip U)];exact List.perm_append_comm.append_right _)
    have g3:=g2.back G (by rw[Mo];exact l1);have Y:DS K (oV B D I) ((rP caps cs (qZ caps C)).zip U++(rE h I++Tm)) H':=g3;refine⟨?_,Y.rmE⟩;have er:lT ((rP caps cs (qZ caps C)).zip U++(rE h I++Tm))=lT ((rP caps cs (qZ caps C)).zip U++Tm):=by
     have:lT (rE h I)=[]:=by
      refine dJ.mpr λa ha=>?_
      obtain⟨q,hq,e⟩:=uC.mp ha;obtain⟨p,_,rfl⟩:=aO.mp hq;cases e
     rw[sZ,sZ,sZ,this,hV]
    have key:∀ p∈rE h I,uF K (Al (oV B D I) (lT ((rP caps cs (qZ caps C)).zip U++Tm))) H' p.1 p.2:=λp hp=>by
     have:=Y.ok p (by simp[hp]);rw[er] at this;exact this
    clear g1 g2 g3 Y er N ez es;revert key z;generalize Al (oV B D I) (lT ((rP caps cs (qZ caps C)).zip U++Tm))=AA;intro z key;exact Uk z key
   have u:=DS.unpin rr.2 rr.1 f1 f2;rw[LA caps cs C G ac] at u;exact k _ _ _ H' (by rw[Pb];exact l1) u.mid (fin h cs G pv)
theorem Qp {K:nH}(o:j.Nodup) (h:dE K (zH T.length j ι g U I) C H Q) :
  Co T j (dI K ι) (dG K T.length g) (tE K U) (dE K I) C H Q:=by
 obtain⟨B,R,Tm,Φ,A,hd,G,k⟩:=h;refine⟨B,R,Tm,_,A,hd,G,λJ ds S E V L d1 Y z D u=>Ey o (Tm:=E++Tm) L d1 (λi P s M H w d=>?_) z (λr c v m l d h=>k r c v m l (by
  have:DS K B ((c.zip C++[(r,some v)])++(E++Tm)) m:=by simpa using d
  simpa using this.rmE) h) u⟩
 have a:Ax K (Al (oV B D P) (lT (s++M))) H E:=λq F=>d.ok q (by simp[w q (by simp[F])])
 refine⟨λb=>Y.go i H _ b a,λb=>Y.stop i H _ b a,λx n b y=>?_⟩;obtain⟨t,e,alt⟩:=Y.yld i H _ x n b a y;refine⟨t,e,?_⟩;rcases alt with⟨rfl,O⟩ | ⟨p,W,Z,f,rfl,rfl,rfl,N⟩
 .exact d.push O
 .exact d.tup f N
theorem qF {iter:Expr}(T o:Aa Af) (r:Aa Nat) (hi:B1 X tg iter ι)
  (hg:∀ p l C I J,wE (rX X (T++o) j I C p l J) T.length tg g)
  (he:∀ p l C I J,PD (rX X (T++o) j I C p l J) aa te)
  (ht:∀ p l C I J,wB (rX X (T++o) j I C p l J) ab (tE X.K tt):=by exact λ_ _ _ _ _=>Ka) (hc:X.calm=true:=by rfl) (hk:j.kind = .function:=by rfl) (ho:Bv X.N X.env.kindOf j T o r=true:=by rfl) (U:r.Nodup:=by decide) (hs:∀ x,foldedSetIterable iter X.env x=pure x:=by intro _;rfl):PD X (.ListComp aa [⟨tg,iter,ab,0⟩] j pos) (zH T.length r ι g tt te) :=
 (E8 T o r hc hi hk ho hg ht he hs).mono λ_ _ _ h=>Qp U h
theorem zV (i:Nat){iter:Expr}(T o:Aa Af) (I:Aa Nat) (hN:X.N.Nodup) (hi:B1 X tg iter ι) (hg:∀ p l C J fp,wE (rX X (T++o) j J C p l fp) T.length tg g)
  (he:∀ p l C J fp,PD (rX X (T++o) j J C p l fp) U te)
  (ht:∀ p l C J fp,wB (rX X (T++o) j J C p l fp) ab (tE X.K tt):=by exact λ_ _ _ _ _=>Ka) (hc:X.calm=true:=by rfl) (hk:j.kind = .function:=by rfl) (ho:Bv X.N X.env.kindOf j T o I=true:=by rfl) (af:X.N[i]?=some x:=by rfl) (hx:wI X.env.scope x:=by first | exact Or.inl rfl | exact Or.inr rfl) (aa:I.Nodup:=by decide)
  (ag:swapsWith (.ListComp U [⟨tg,iter,ab,0⟩] j pos) (some (.Name x ac)) ae.line X.env=pure true:=by rfl)
  (hs:∀ x,foldedSetIterable iter X.env x=pure x:=by intro _;rfl)
  (hf:X.fn x=true\/X.env.scope.names.lookup x=some .local:=by first | exact .inl rfl | exact .inr rfl | assumption) :
  vR X (.Assign [.Name x ac] (.ListComp U [⟨tg,iter,ab,0⟩] j pos) ae) (rQ i (zH T.length I ι g tt te)) :=
 (IU T o I hN af hx hc hi hk ho hg ht he ag hs hf).mono λn q H a=>a.elim λB h Tm m e hd ht f=>Qp aa ⟨B,h,Tm,_,e,hd,ht,λr k v c b d1 d=>(f.1 _ _ c (by rw[cB,cB];exact b) (cB ..) (d1.assign b i)).1 d⟩
end
section
variable {X:Cx}{K:nH}
theorem zM (h:Peeks K A H [d] g):∃ x,g=[x]/\pC K A H d x:=by
 cases h with | cons h r=>cases r;exact⟨_,rfl,h⟩
theorem Hv (h:Peeks K A H [d,e] j):∃ x y,j=[x,y]/\pC K A H d x/\pC K A H e y:=by
 cases h with | cons h r=>cases r with | cons g r=>cases r;exact⟨_,_,rfl,h,g⟩
def KS:D->Ab Nat
 | .l a=>some a.length
 | .t a=>some a.length
 | .con a=>some a.length
 | .c a=>some a.length
 | .str z=>some z.length
 | .k b=>some b.length
 | _=>none
def W9:OC:=λds a=>match ds with
 | [d]=>Mg d=true/\∃ n,KS d=some n/\a (.v (.int n))
 | _=>False
def Ul (K:nH):Aa V->Hp->VK->Prop:=λc H Q=>(∃ p d,c=[.ref p]/\(nX K H p d\/oP K H p d)/\Q (.int d.length) H)\/(∃ z,c=[.str z]/\z.length<=sizeLine/\Q (.int z.length) H)\/∃ a b,c=[V.ref a]/\Rd H a (.k b)/\Q (.int b.length) H
theorem sQ:qC X (.builtin "len") (Ul X.K):=KW.or (Sm.or LF)
theorem sU:wP K (Ul K) W9:=by
 intro B L H ds s t Q hd m i k;cases ds with
 | nil=>exact False.elim i
 | cons d ds =>
 cases ds with
 | cons _ _=>exact False.elim i
 | nil =>
 obtain⟨x,rfl,f⟩:=zM m;obtain⟨q,n,c,i⟩:=i;have fin:Q (.int n) H:=k _ _ H i (hd.pushF (.int _));cases d<;>first | (cases c;done) | skip
 .cases c;have:=f.str_inv;subst this;exact .inr (.inl ⟨_,rfl,Dh (fU q),fin⟩)
 .cases c;obtain⟨a,b,rfl,h,r⟩:=f.tup_inv;exact .inl ⟨a,b,rfl,.inr (oP.of h),by rw[<- r.length];exact fin⟩
 .cases c;obtain⟨a,b,rfl,h,r⟩:=f.lst_inv;exact .inl ⟨a,b,rfl,.inl (nX.of h),by rw[<- r.length];exact fin⟩
 .cases c;obtain⟨a,b,rfl,h,e,r⟩:=f.dK_inv;refine .inr (.inr ⟨a,b,rfl,h,?_⟩);have:=cA List.length e;rw[aA,aA] at this;rw[<- this];exact fin
 .cases c;obtain⟨a,b,rfl,h,r⟩:=f.scr_inv;exact .inl ⟨a,b,rfl,.inl h.sqL,by rw[<- r.length];exact fin⟩
 .cases c;obtain⟨a,b,rfl,h,r⟩:=f.con_inv;exact .inl ⟨a,b,rfl,.inr h.sqT,by rw[<- r.length];exact fin⟩
noncomputable def Eh:Aa D->Ab (Aa Int)
 | []=>some []
 | .int i::ds=>(Eh ds).map (i::·)
 | _=>none
theorem Tv (h:Eh ds=some j) (g:Reps K A H ds l):l=j.map V.int:=by
 induction ds generalizing j l with
 | nil=>cases g;cases h;rfl
 | cons d ds b =>
  cases g with
  | cons r g =>
  cases d with
  | int i =>
   obtain⟨c,a,rfl⟩:=dF.mp h;rw[r.int_inv,b a g];rfl
  | _=>cases h
def RE:OC:=λds c=>match ds with
 | [.l b]=>∃ a,Eh b=some a/\c (.v (.int a.sum))
 | _=>False
def M5:OC:=λds c=>match ds with
 | [.l d]=>∃ b,Eh d=some b/\b≠[]/\∀ m:Int,m∈b->(∀ a∈b,m<=a)->c (.v (.int m))
 | [.int i,.int j]=>∀ m:Int,(m=i\/m=j)->m<=i->m<=j->c (.v (.int m))
 | _=>False
def Zk:OC:=λds c=>match ds with
 | [.l d]=>∃ b,Eh d=some b/\b≠[]/\∀ m:Int,m∈b->(∀ a∈b,a<=m)->c (.v (.int m))
 | [.int i,.int j]=>∀ m:Int,(m=i\/m=j)->i<=m->j<=m->c (.v (.int m))
 | _=>False
def Mp (K:nH):Aa V->Hp->VK->Prop:=λc H Q=>(∃ (p:Ad) (b:Aa Int),c=[.ref p]/\nX K H p (b.map V.int)/\b≠[]/\∀ m:Int,m∈b->(∀ a∈b,m<=a)->Q (.int m) H)\/∃ i j,c=[.int i,.int j]/\Q (.int (if j<i then j else i)) H
def Oo (K:nH):Aa V->Hp->VK->Prop:=λc H Q=>(∃ (p:Ad) (b:Aa Int),c=[.ref p]/\nX K H p (b.map V.int)/\b≠[]/\∀ m:Int,m∈b->(∀ a∈b,a<=m)->Q (.int m) H)\/∃ i j,c=[.int i,.int j]/\Q (.int (if j>i then j else i)) H
theorem W4 (g:X.calm=true):qC X (.builtin "min") (Mp X.K):=(JB g).or (LR g)
theorem HM (g:X.calm=true):qC X (.builtin "max") (Oo X.K):=(HR g).or (BD g)
theorem QG:wP K (Mp K) M5:=by
 intro B L H ds w A Q hd f b k;cases ds with
 | nil=>exact False.elim b
 | cons d ds =>
 cases d<;>first | exact False.elim b | skip
 .cases ds with
  | nil=>exact False.elim b
  | cons e ds =>
  cases e<;>first | exact False.elim b | skip
  cases ds with
  | cons _ _=>exact False.elim b
  | nil =>
  obtain⟨x,y,rfl,c,py⟩:=Hv f;have:=c.int_inv;have:=py.int_inv;subst_vars
  rename_i i j
  refine .inr ⟨_,_,rfl,?_⟩;by_cases z:j<i
  .rw[aQ z];exact k _ _ H (b _ (.inr rfl) (by omega) (by omega)) (hd.pushF (.int _))
  .rw[aG z];exact k _ _ H (b _ (.inl rfl) (by omega) (by omega)) (hd.pushF (.int _))
 .cases ds with
  | cons _ _=>exact False.elim b
  | nil =>
  obtain⟨x,rfl,c⟩:=zM f;obtain⟨u,t,n,b⟩:=b;obtain⟨a,v,rfl,h,r⟩:=c.lst_inv;rw[Tv t r] at h;exact .inl ⟨a,u,rfl,nX.of h,n,λm q s=>k _ _ H (b m q s) (hd.pushF (.int _))⟩
theorem LL:wP K (Oo K) Zk:=by
 intro B L H ds w A Q hd f b k;cases ds with
 | nil=>exact False.elim b
 | cons d ds =>
 cases d<;>first | exact False.elim b | skip
 .cases ds with
  | nil=>exact False.elim b
  | cons e ds =>
  cases e<;>first | exact False.elim b | skip
  cases ds with
  | cons _ _=>exact False.elim b
  | nil =>
  obtain⟨x,y,rfl,c,py⟩:=Hv f;have:=c.int_inv;have:=py.int_inv;subst_vars
  rename_i i j
  refine .inr ⟨_,_,rfl,?_⟩;by_cases z:j>i
  .rw[aQ z];exact k _ _ H (b _ (.inr rfl) (by omega) (by omega)) (hd.pushF (.int _))
  .rw[aG z];exact k _ _ H (b _ (.inl rfl) (by omega) (by omega)) (hd.pushF (.int _))
 .cases ds with
  | cons _ _=>exact False.elim b
  | nil =>
  obtain⟨x,rfl,c⟩:=zM f;obtain⟨u,t,n,b⟩:=b;obtain⟨a,v,rfl,h,r⟩:=c.lst_inv;rw[Tv t r] at h;exact .inl ⟨a,u,rfl,nX.of h,n,λm q s=>k _ _ H (b m q s) (hd.pushF (.int _))⟩
def N5:D->Ab (Aa D)
 | .l a=>some a
 | .t a=>some a
 | .con a=>some a
 | .c a=>some a
 | _=>none
theorem AU (h:N5 d=some j) (p:pC K A H d x):∃ a g,x = .ref a/\(nX K H a g\/oP K H a g)/\Reps K A H j g:=by
 cases d<;>cases h
 .obtain⟨a,g,rfl,h,r⟩:=p.tup_inv;exact⟨a,g,rfl,.inr (oP.of h),r⟩
 .obtain⟨a,g,rfl,h,r⟩:=p.lst_inv;exact⟨a,g,rfl,.inl (nX.of h),r⟩
 .obtain⟨a,g,rfl,h,r⟩:=p.scr_inv;exact⟨a,g,rfl,.inl h.sqL,r⟩
 .obtain⟨a,g,rfl,h,r⟩:=p.con_inv;exact⟨a,g,rfl,.inr h.sqT,r⟩
def Xz:OC:=λds b=>match ds with
 | [d]=>∃ a,N5 d=some a/\b (.o (.l a))
 | _=>False
theorem xB:wP K (λg H Q=>∃ p j,g=[.ref p]/\(nX K H p j\/oP K H p j)/\∀ l,H l=none->Q (.ref l) (upd H l (.l j))) Xz:=by
 intro B L H ds g n Q hd e b k;cases ds with
 | nil=>exact False.elim b
 | cons d ds =>
 cases ds with
 | cons _ _=>exact False.elim b
 | nil =>
 obtain⟨x,rfl,i⟩:=zM e;obtain⟨g,h,b⟩:=b;obtain⟨a,m,rfl,f,r⟩:=AU h i;exact⟨a,m,rfl,f,λl c=>k _ _ _ b (hd.lstF c r)⟩
def Yl:OC:=λds b=>match ds with
 | [.l a]=>b (.v (.t a))
 | [.t a]=>b (.v (.t a))
 | _=>False
theorem tJ:wP K (λj H Q=>∃ p g,j=[.ref p]/\((nX K H p g/\∀ l,H l=none->Q (.ref l) (upd H l (.t g)))\/(oP K H p g/\Q (.ref p) H))) Yl:=by
 intro B L H ds j n Q hd i b k;cases ds with
 | nil=>exact False.elim b
 | cons d ds =>
 cases d<;>first | exact False.elim b | skip<;>cases ds<;>first | exact False.elim b | skip
 .obtain⟨x,rfl,c⟩:=zM i;have e:=c;obtain⟨a,f,rfl,h,r⟩:=c.tup_inv;exact⟨a,f,rfl,.inr ⟨oP.of h,k _ _ _ b (hd.pushF e)⟩⟩
 .obtain⟨x,rfl,c⟩:=zM i;obtain⟨a,f,rfl,h,r⟩:=c.lst_inv;exact⟨a,f,rfl,.inl ⟨nX.of h,λl m=>k _ _ _ b (hd.tupF m r)⟩⟩
def uH:Aa D->Ab (Aa (hH×D))
 | []=>some []
 | .t [k,d]::ds=>match vI k,uH ds with
  | some k,some r=>some ((k,d)::r)
  | _,_=>none
 | _=>none
theorem yD {l:Type}{f:l->D}{g:l->hH×D}(h:∀ x,∃ k,f x = .t [k,(g x).2]/\vI k=some (g x).1):∀ j:Aa l,uH (j.map f)=some (j.map g)
 | []=>rfl
 | x::j=>by
  obtain⟨k,a,b⟩:=h x;rw[bD,a];show (match vI k,uH (j.map f) with | some k,some r=>some ((k,(g x).2)::r) | _,_=>none)=_;rw[b,yD h j];rfl
def pR (g more:Aa (hH×D)):Aa (hH×D):=more.foldl (λa b=>pZ a b.1 b.2) g
theorem QP (h:uH ds=some j) (l:Reps K A H ds p):∃ (o:Aa Ad) (g:Aa (hH×V)),p=o.map V.ref/\F3 H o g/\j.map (·.1)=g.map (·.1)/\Reps K A H (j.map (·.2)) (g.map (·.2)):=by
 induction ds generalizing j p with
 | nil=>cases l;cases h;exact⟨[],[],rfl,.nil,rfl,.nil⟩
 | cons d ds t =>
  cases l with
  | cons r l =>
  cases d<;>first | (cases h;done) | skip
  rename_i x
  rcases x with _ | ⟨k,_ | ⟨e,_ | ⟨_,_⟩⟩⟩<;>first | (cases h;done) | skip
  .have h:=(show (match vI k,uH ds with | some k,some r=>some ((k,e)::r) | _,_=>none)=some j from h);cases c:vI k with
   | none=>rw[c] at h;cases h
   | some u =>
    cases f:uH ds with
    | none=>rw[c,f] at h;cases h
    | some y =>
     rw[c,f] at h;cases h;obtain⟨a,z,rfl,s,b⟩:=r.tup_inv;obtain⟨o,g,i,m,n,q⟩:=t f l;cases b with
     | cons v b =>
      cases b with
      | cons w b =>
       cases b;have:=F4 c v.peek;subst this;exact⟨a::o,(u,_)::g,by rw[i];rfl,.cons s m,by rw[bD,bD,n],.cons w q⟩
theorem G8:∀ {more:Aa (hH×D)}{mv:Aa (hH×V)}{kvs:Aa (hH×D)}{vs:Aa (hH×V)},more.map (·.1)=mv.map (·.1)->Reps K A H (more.map (·.2)) (mv.map (·.2))->kvs.map (·.1)=vs.map (·.1)->Reps K A H (kvs.map (·.2)) (vs.map (·.2)) ->
  (pR kvs more).map (·.1)=(uI vs mv).map (·.1)/\Reps K A H ((pR kvs more).map (·.2)) ((uI vs mv).map (·.2))
 | [],[],_,_,_,_,e,r=>⟨e,r⟩
 | [],_::_,_,_,e,_,_,_=>by simp at e
 | _::_,[],_,_,e,_,_,_=>by simp at e
 | (k,d)::more,(j,v)::mv,kvs,vs,a,b,e,r=>by
  simp only[bD,fY] at a;obtain⟨rfl,a⟩:=a;cases b with
  | cons h b =>
   obtain⟨c,f⟩:=Nz e r (k:=k) h;exact G8 (more:=more) (mv:=mv) a b c f
def X7:OC:=λds b=>match ds with
 | [.k a]=>b (.o (.k a))
 | [.l c]=>∃ a,uH c=some a/\a.length<=1000/\b (.o (.k (pR [] a)))
 | _=>False
def V8 (K:nH):Aa V->Hp->VK->Prop:=λe H Q=>(∃ (a:Ad) (b:Aa (hH×V)),e=[.ref a]/\Rd H a (.k b)/\∀ p,H p=none->Q (.ref p) (upd H p (.k b))) \/
 ∃ (p:Ad) (c:Aa Ad) (b:Aa (hH×V)),e=[.ref p]/\nX K H p (c.map V.ref)/\F3 H c b/\b.length<=1000/\∀ d,H d=none->Q (.ref d) (upd H d (.k (uI [] b)))
theorem wX (g:X.calm=true):qC X (.type "dict") (V8 X.K):=Yx.or (AT g)
theorem xU:wP K (V8 K) X7:=by
 intro B L H ds D E Q hd c b k;cases ds with
 | nil=>exact False.elim b
 | cons d ds =>
 cases d<;>first | exact False.elim b | skip<;>cases ds<;>first | exact False.elim b | skip
 .obtain⟨x,rfl,m⟩:=zM c;obtain⟨v,u,A,b⟩:=b;obtain⟨a,q,rfl,h,r⟩:=m.lst_inv;obtain⟨z,f,rfl,s,n,t⟩:=QP u r;obtain⟨w,y⟩:=G8 (kvs:=[]) (vs:=[]) n t rfl .nil;have i:f.length<=1000:=by
   have:=cA List.length n;simp only[aA] at this;omega
  exact .inr ⟨a,z,f,rfl,nX.of h,s,i,λp c=>k _ _ _ b (hd.dKF c w y)⟩
 .obtain⟨x,rfl,m⟩:=zM c;obtain⟨a,q,rfl,h,e,r⟩:=m.dK_inv;exact .inl ⟨a,q,rfl,h,λp c=>k _ _ _ b (hd.dKF c e r)⟩
noncomputable def zE:Aa D->Ab (Aa Bool)
 | []=>some []
 | .b b::ds=>(zE ds).map (b::·)
 | _=>none
theorem Qi:∀ (g:Aa Bool),zE (g.map D.b)=some g
 | []=>rfl
 | n::g=>by rw[bD,zE,Qi g];rfl
theorem FE (h:zE ds=some g) (r:Reps K A H ds j):j=g.map V.b:=by
 induction ds generalizing g j with
 | nil=>cases r;simp only[zE,jM] at h;subst h;rfl
 | cons d ds c =>
  cases r with
  | cons r e =>
  cases d with
  | b i =>
   simp only[zE,dF] at h;obtain⟨f,a,rfl⟩:=h;rw[r.bl_inv,c a e];rfl
  | _=>simp[zE] at h
def BA:OC:=λds c=>match ds with
 | [.l a]=>∃ bs,zE a=some bs/\c (.v (.b (bs.all id)))
 | _=>False
theorem MS:wP K (O8 K) BA:=by
 intro B L H ds q s Q hd f c k;cases ds with
 | nil=>exact False.elim c
 | cons d ds =>
  cases ds with
  | cons _ _=>cases d<;>exact False.elim c
  | nil =>
   cases d<;>first | exact False.elim c | skip
   obtain⟨x,rfl,m⟩:=zM f;obtain⟨i,e,c⟩:=c;obtain⟨a,n,rfl,h,r⟩:=m.lst_inv;rw[FE e r] at h;exact⟨a,i,rfl,nX.of h,k _ _ H c (hd.pushF (.b _))⟩
end
def Lp (T:String):D->Bool
 | .str _=>T == "str"
 | .l _=>T == "list"
 | .c _=>T == "list"
 | .k _=>T == "dict"
 | _=>false
section
variable {X:Cx}{K:nH}
theorem DX (h:Lp T d=true) (p:pC K A H d x):Er K T x H:=by
 cases d<;>first | (cases h;done) | skip
 all_goals (have h:=eq_of_beq h;subst h)
 .have:=p.str_inv;subst this;rfl
 .obtain⟨a,b,rfl,h,r⟩:=p.lst_inv;exact .inl ⟨rfl,b,nX.of h⟩
 .obtain⟨a,b,rfl,h,e,r⟩:=p.dK_inv;exact .inr (.inr (.inl ⟨rfl,.inl ⟨b,h⟩⟩))
 .obtain⟨a,b,rfl,h,r⟩:=p.scr_inv;exact .inl ⟨rfl,b,h.sqL⟩
abbrev OM:=D->Aa D->(Sl->Prop)->Prop
abbrev RM:=V->Aa V->Hp->VK->Prop
def RF (T:String) (f:OM) (i:Nat) (g:vD):oG:=λc b e=>(match at? b i with | some d=>Lp T d=true | none=>False)/\g c b λas a=>match at? a i,vP a as with
 | some d,some ds=>f d ds λs=>e s a
 | _,_=>False
variable {id:String}
abbrev OW:=D->Aa D->(D->D->Prop)->Prop
def Dv (K:nH) (r:RM) (f:OW):Prop:=∀ (A:Ad->Prop) (H:Hp) (a:Ad) (c:D) (ds:Aa D) (h:Aa V) (i:D->D->Prop) (Q:VK),¬ A a->pX K A H a c->Reps K A H ds h->f c ds i ->
 (∀ d v o e,i d e->Rep K A H d v->(∀ b,Kp A b H (upd H a o)->pX K b (upd H a o) a e)->Q v (upd H a o))->r (.ref a) h H Q
def dW (T:String) (f:OW) (i:Nat) (g:vD):oG:=λh b k=>(match at? b i with | some d=>Lp T d=true | none=>False)/\g h b λas a=>match a[i]?,Az as with
 | some (.o c),some ds=>f c ds λd e=>k (.v d) (a.set i (.o e))
 | _,_=>False
theorem OZ {f:OW}(p:Dv X.K r f){g:St}{H:Hp}{Q:VK}(h:dE X.K (dW T f i ta) g H Q):rC i g H λx l=>Er X.K T x l/\dA X.K ta g l λxs j=>r x xs j Q:=by
 obtain⟨B,W,Tm,Φ,R,hd,⟨A,I⟩,k⟩:=h;cases F:at? W i with
 | none=>rw[F] at A;exact A.elim
 | some d0 =>
  rw[F] at A;obtain⟨x,t,px⟩:=hd.peek R F;refine⟨x,t,DX A px,B,W,Tm,_,R,hd,I,λas e vs j D ok d2 b=>?_⟩;cases m:e[i]? with
  | none=>rw[m] at b;exact b.elim
  | some s =>
   cases s with
   | n=>rw[m] at b;exact b.elim
   | v c=>rw[m] at b;exact b.elim
   | o c =>
    cases G:Az as with
    | none=>rw[m,G] at b;exact b.elim
    | some ds =>
     rw[m,G] at b;have O:=d2.temps ok ds G;have Y:=d2.rmArgs;obtain⟨a,P,V,wr⟩:=Y.slotW D m;rw[t] at P;cases P;obtain⟨u,J,tu⟩:=V.some;have S:¬ Al B (lT (e.zip g++Tm)) a:=λz=>z.2.1 (by
      obtain⟨U,y,N,w,_,L,_⟩:=yN D m;rw[t] at w;cases w;rw[L,bM,cT,sD];exact aX _ aI)
     refine p _ j a c ds vs _ Q S V O b λd v o E M rd C=>k _ _ v _ (by rw[cB];exact D) ?_ M
     refine (wr o E C).push ?_;have Z:lT ((e.set i (.o E)).zip g++Tm)=lT (e.zip g++Tm):=by
      obtain⟨U,y,N,w,_,L,q⟩:=yN D m;rw[t] at w;cases w;have:=q (.o E) (some (.ref a));rw[Dp t] at this;rw[this,L,bM,bM,cT,cT,sD,sD];rfl
     rw[Z];exact rd.mono (.write J tu S)
theorem uW {f:OW}(pa:PlainAttrs T) (slot:Slot T name id) (j:typeOf (.builtin id)=pure (.type "method_descriptor")) (J:Cj X id r) (I:Dv X.K r f) (U:PE X o (rC i)) (p:vA X (e::l) ta)
  (C:MtB X o name apos e l g:=by exact {}) :
  PD X (.Call (.Attribute o name apos) (e::l) [] g) (dW T f i ta):=(HH pa slot j J U p C).mono λ_ _ _ h=>OZ I h
noncomputable def Xh:OW:=λc ds b=>match c,ds with
 | .l a,[d]=>a.length<100000/\b .e (.l (a++[d]))
 | _,_=>False
theorem An:Dv K U2 Xh:=by
 intro A H a c ds q s Q _ i rd b k;cases c<;>first | exact False.elim b | skip
 cases rd with
 | nil=>exact False.elim b
 | cons f rd =>
 cases rd with
 | cons _ _=>exact False.elim b
 | nil =>
 .obtain⟨m,h,r⟩:=i
  .refine⟨a,m,_,rfl,rfl,h,bT (by rw[<- r.length];exact b.1) (by decide),k _ _ _ _ b.2 .e λn d=>⟨_,oO,(r.append (.cons f .nil)).mono d⟩⟩
def FM:OW:=λc ds b=>match c,ds with
 | .l a,[.int i]=>∃ k y,-(2 ^ 63)<=i/\i<2 ^ 63/\seqIndex? i a.length=some k/\a[k]?=some y/\b y (.l (a.eraseIdx k))
 | _,_=>False
theorem Oj:Dv K Td FM:=by
 intro A H a c ds z B Q _ t rd b k;cases c<;>first | exact False.elim b | skip
 cases rd with
 | nil=>exact False.elim b
 | cons s rd =>
 rename_i d _ _ _
 cases d<;>first | exact False.elim b | skip
 cases rd with
 | cons _ _=>exact False.elim b
 | nil =>
 .obtain⟨w,h,r⟩:=t
  .have:=s.int_inv;subst this;obtain⟨j,y,e,f,i,m,b⟩:=b;obtain⟨v,n,u⟩:=r.get m;exact⟨a,w,_,j,v,rfl,rfl,h,e,f,by rw[<- r.length];exact i,n,k _ _ _ _ b u λx q=>⟨_,oO,(r.erase j).mono q⟩⟩
def HK:D->Bool
 | .k _=>true
 | .T _=>true
 | _=>false
def AD (i:Nat) (ty g:oG):oG:=λc e m=>(match at? e i with | some d=>HK d=true | none=>False)/\ty c e λf b=>g c b λh a=>match at? a i,sd f,sd h with
 | some d,some k,some x=>∃ o,Dl d k=some o/\m (.v (o.getD x)) a
 | _,_,_=>False
theorem Fa (U:X.A.units+1<cLine) (l:PE X o (rC i)) (I:PD X k ty) (J:PD X x tx) (m:M2 X o "get" apos k x j:=by exact⟨rfl,rfl,rfl,rfl⟩):PD X (.Call (.Attribute o "get" apos) [k,x] [] j) (AD i ty tx) :=
 (Wz U l I J m).mono λσ H Q E=>E.elim λB W Tm Φ N hd ⟨t,T⟩ k=>by
  cases u:at? W i with
  | none=>rw[u] at t;exact t.elim
  | some Z =>
   rw[u] at t;obtain⟨x,O,R⟩:=hd.peek N u;obtain⟨a,rfl,F⟩:∃ a,x = .ref a/\G6 H a:=by
    cases Z<;>first | (cases t;done) | skip
    .obtain⟨a,L,rfl,h,e,r⟩:=R.dK_inv;exact⟨a,rfl,.inl ⟨L,h⟩⟩
    .obtain⟨a,L,rfl,h,e,r⟩:=R.dT_inv;exact⟨a,rfl,.inr ⟨L,h⟩⟩
   refine⟨.ref a,O,a,rfl,F,B,W,Tm,_,N,hd,T,λV M y H1 l1 d1 C=>⟨B,M,(V,some y)::Tm,_,l1,d1,C,λrx q z Y P d2 b=>?_⟩⟩;cases f:at? q i with
   | none=>rw[f] at b;exact b.elim
   | some d =>
    cases s:sd V with
    | none=>rw[f,s] at b;exact b.elim
    | some kk =>
     cases D:sd rx with
     | none=>rw[f,s,D] at b;exact b.elim
     | some xx =>
      rw[f,s,D] at b;obtain⟨oo,l,b⟩:=b;obtain⟨S,q2,q3⟩:=d2.two s D;obtain⟨x',n,G⟩:=S.peek P f;rw[O] at n;cases n;obtain⟨a',w,p,g,g1,g2⟩:=Mt l G q2.peek;cases p;refine⟨w,g,k _ q _ Y P (S.push ?_) b⟩;cases oo with
      | none=>rw[g2 rfl];exact q3
      | some c=>obtain⟨v,rfl,rv⟩:=g1 c rfl;exact rv
theorem Ww:∀ (g:Aa Int),Reps K A H (g.map D.int) (g.map V.int)
 | []=>.nil
 | y::g=>.cons (.int y) (Ww g)
end
section
variable {X:Cx}
theorem nI (o:X.A.units+1<cLine) (i:Nat) (j:PD X b p) (g:PE X a (rC i):=by exact pv _) (l:Bb b:=by exact λ_ _=>rfl):PD X (.Subscript a b pos) (Ei Bo i p) :=
 (wK (Sc o) g j l).mono λ_ _ _ h=>Ho Sg h
end
section
variable {X:Cx}{K:nH}
theorem CH (l:X.calm=true):qC X (.builtin "min") (λg H Q=>∃ i j k,g=[.int i,.int j,.int k]/\∀ m:Int,(m=i\/m=j\/m=k)->m<=i->m<=j->m<=k->Q (.int m) H):=by
 intro f s A H g F Q I r h;obtain⟨i,j,k,rfl,q⟩:=h;cases r with
 | cons y r =>
  obtain⟨v,u,rfl,⟨D,rfl⟩,⟨E,rfl⟩⟩:=uJ r;obtain⟨B,rfl⟩:=y;refine min_three_ints (I.ok.hd l) λw z x=>?_
  have fin:∀ (m:Int) (t:Tok),(m=i\/m=j\/m=k)->m<=i->m<=j->m<=k->EP X f A Q (.int m t) { s with heap:=w,toks:=z }:=λm t a b c d=>⟨.int m,H,I.kept x,⟨t,rfl⟩,q m a b c d⟩
  by_cases n:j<i
  .rw[aQ n];by_cases e:k<j
   .rw[aQ e];exact fin _ _ (.inr (.inr rfl)) (by omega) (by omega) (by omega)
   .rw[aG e];exact fin _ _ (.inr (.inl rfl)) (by omega) (by omega) (by omega)
  .rw[aG n];by_cases e:k<i
   .rw[aQ e];exact fin _ _ (.inr (.inr rfl)) (by omega) (by omega) (by omega)
   .rw[aG e];exact fin _ _ (.inl rfl) (by omega) (by omega) (by omega)
def Ll (K:nH):Aa V->Hp->VK->Prop:=λa H Q=>Mp K a H Q\/∃ i j k,a=[.int i,.int j,.int k]/\∀ m:Int,(m=i\/m=j\/m=k)->m<=i->m<=j->m<=k->Q (.int m) H
theorem BV (g:X.calm=true):qC X (.builtin "min") (Ll X.K):=(W4 g).or (CH g)
def BE:OC:=λds a=>match ds with
 | [.int i,.int j,.int k]=>∀ m:Int,(m=i\/m=j\/m=k)->m<=i->m<=j->m<=k->a (.v (.int m))
 | ds=>M5 ds a
theorem EY:wP K (Ll K) BE:=by
 intro B L H ds i n Q hd h f k;have two:M5 ds n->Ll K i H Q:=λf=>.inl (QG B L H _ i n Q hd h f k)
 rcases ds with _ | ⟨d,_ | ⟨e,_ | ⟨g,_ | ⟨_,_⟩⟩⟩⟩
 .exact two f
 .cases d<;>exact two f
 .cases d<;>first | exact two f | (cases e<;>exact two f)
 .cases d<;>first | exact two f | skip
  cases e<;>first | exact two f | skip
  cases g<;>first | exact two f | skip
  cases h with
  | cons q h =>
   obtain⟨x,y,rfl,s,py⟩:=Hv h;have:=q.int_inv;have:=s.int_inv;have:=py.int_inv;subst_vars;exact .inr ⟨_,_,_,rfl,λm a b c d=>k _ _ H (f m a b c d) (hd.pushF (.int _))⟩
 .cases d<;>first | exact two f | (cases e<;>first | exact two f | (cases g<;>exact two f))
noncomputable def Ks:D->Ab String
 | .e=>some "NoneType"
 | .b _=>some "bool"
 | .int _=>some "int"
 | .str _=>some "str"
 | .l _=>some "list"
 | .t _=>some "tuple"
 | .k _=>some "dict"
 | _=>none
theorem OD (h:Ks d=some n) (p:pC K A H d x):TyOf K H x (.type n):=by
 cases d<;>simp only[Ks,reduceCtorEq,jM] at h<;>subst h
 .have:=p.non_inv;subst this;exact .e
 .have:=p.bl_inv;subst this;exact .b _
 .have:=p.int_inv;subst this;exact .int _
 .have:=p.str_inv;subst this;exact .str _
 .obtain⟨a,c,rfl,h,r⟩:=p.tup_inv;exact .t h
 .obtain⟨a,c,rfl,h,r⟩:=p.lst_inv;exact .l h
 .obtain⟨a,c,rfl,h,e,r⟩:=p.dK_inv;exact .k h
def AV (K:nH):OC:=λds a=>match ds with
 | [d,.r (.ty c)]=>∃ n b,Ks d=some n/\PySem.W.kitOne K (.type n) (.type c)=some b/\a (.v (.b b))
 | _=>False
theorem MV:wP K (Sa K) (AV K):=by
 intro B L H ds m q Q hd h a k;cases ds with
 | nil=>exact False.elim a
 | cons d ds =>
  cases ds with
  | nil=>exact False.elim a
  | cons e ds =>
   cases e<;>first | exact False.elim a | skip
   rename_i v
   cases v<;>first | exact False.elim a | skip
   cases ds with
   | cons _ _=>exact False.elim a
   | nil =>
    obtain⟨x,y,rfl,i,py⟩:=Hv h;obtain⟨n,b,c,f,a⟩:=a;have:=py.raw_inv;subst this;exact⟨x,_,_,_,b,rfl,rfl,OD c i,f,k _ _ H a (hd.pushF (.b _))⟩
theorem Yr (g:Gl X x) (j:X.mg x=none) (o:bootBuiltins x=some (.type n)) (l:x ≠ "__name__" := by decide) (hd:(x == ("__debug__" : Af))=false:=by decide):PD X (.Name x pos) (cd (.r (.ty n))) :=
 D3 (Zq (v:=.ty n) g j o rfl l hd) λ_ _ _=>.r _
end
def Mw (K:nH) (a:Ad):It :=
 ⟨λi H=>∃ b x,nX K H a b/\b[i]?=some x,λi H v c=>∃ p x,H p=none/\v = .ref p/\c=upd H p (.t [.int i,x])/\∀ b,nX K H a b->b[i]?=some x,λi H=>∃ b,nX K H a b/\b.length<=i⟩
def DT (a e g:Ad) (i:Nat) (h:Ag):Prop:=(∃ old,IsEnum h e g i old)/\h.IsListIter g a i
theorem MU {P:Ah}{K:nH}(g:e≠it) :
  Turn P w K (.Tuple j x1 pos) (Mw K a) [e,it] e (DT a e it) where
 mem:=by simp
 obj:=λi h st c m=>by
  obtain⟨⟨old,d⟩,⟨o4,f,c4,p⟩⟩:=st;simp only[aM,aR,kA] at m;rcases m with e | e<;>subst e
  .exact⟨_,d,λv z=>nomatch z⟩
  .exact⟨_,f,λv z=>by rw[p] at z;cases z⟩
 keep:=λi h R st k=>by
  obtain⟨⟨old,d⟩,f⟩:=st;exact⟨⟨old,k e (by simp) _ d⟩,f.at λo q=>k it (by simp) o q⟩
 item:=by
  intro X B hw A m i n s σ H E I t st D;subst B hw A;obtain⟨⟨old,d⟩,f⟩:=st;obtain⟨xs,x,u,W⟩:=D;obtain⟨G,N,L,_⟩:=I.list u;obtain⟨Q,F,M⟩:=N.get W;refine wpAny_pyNext_enum_item d f L.isList (x:=Q) (by simpa using F) g λR T U Y n4 n5=>?_
  refine⟨_,rfl,wpAny_letOwnedTupleGo_enum T λS J y=>?_⟩;have C:∀ c o,c∉[e,it]->s.heap.get? c=some o->S.get? c=some o:=λc o b q=>by
   simp only[aM,aR,kA,not_or] at b;exact y.extBut c o b.1 (n5 c o b.1 b.2 q)
  have Z:s.heap.objs.size≠e:=λq=>dN _ (by have:=aZ d;rw[<- q] at this;exact this)
  have nt:Ap S s.heap.objs.size [.int i s.toks,Q].toArray:=⟨⟨_,y.extBut _ _ Z Y,rfl,_,rfl⟩,_,y.extBut _ _ Z Y,rfl⟩;have l:=I.movedT (t':=s.toks+1) (ys:=[.int i,x]) t C nt (.cons ⟨_,rfl⟩ (.cons M .nil)) (by show 2<=sizeLine;decide);refine⟨.ref s.heap.objs.size,_,l,rfl,⟨_,x,I.fresh,rfl,rfl,λaa q'=>by rw[I.list_inj q' u];exact W⟩,⟨⟨Q,?_⟩,?_⟩,λc b=>?_⟩
  .have:((i+1:Nat):Int)=(i:Int)+1:=by omega
   rw[this];exact J
  .exact U.at λo q=>y.extBut _ o (fQ g) q
  .rw[nP]
   .exact (t c b).1
   .intro q;obtain⟨o,r⟩:∃ o,s.heap.get? c=some o:=by
     obtain⟨o4,O,_⟩:=f;simp only[aM,aR,kA] at b;rcases b with q | q<;>rw[q]
     .exact⟨_,d⟩
     .exact⟨_,O⟩
    have:=aZ r;rw[q] at this;exact dN _ this
 done:=by
  intro X B hw A m i n s σ H E I t st D;subst B hw A;obtain⟨⟨old,d⟩,f⟩:=st;obtain⟨xs,u,V⟩:=D;obtain⟨G,N,L,_⟩:=I.list u;have lx:=N.length;refine wpAny_pyNext_enum_end (I.ok.hd m) d f L.isList (by simp;omega) λR k=>⟨rfl,I.moved (t':=s.toks) t λc o b q=>?_⟩
  simp only[aM,aR,kA,not_or] at b;exact k c o b.2 q
 self:=λ_ _ _ _ _ st h=>by
  obtain⟨⟨old,d⟩,f⟩:=st;exact wpAny_pyIter_enum d h
section
variable {X:Cx}{K:nH}
def CJ (K:nH) (g:TA):TI:=λe H R=>g e H λc b=>∃ a,c=[.ref a]/\(∃ d,nX K b a d)/\R (Mw K a) b
theorem OO (l:Gl X "enumerate") (o:X.mg "enumerate" = none) (j:PA X [e] C) (r:starEach [e] X.env=[(false,eval e X.env)]:=by rfl) :
  PI X (.Tuple g T J) (.Call (.Name "enumerate" p) [e] [] pos) (CJ X.K C):=by
 intro b s t H R I h;refine Call_ (B9 I l o boot_enumerate (gG (nL (j pos b s t H _ I h) λM f i=>?_) r rfl));obtain⟨N,k,d,E,B⟩:=i;obtain⟨a,rfl,⟨O,D⟩,q⟩:=B;obtain⟨u,rfl,F⟩:=wL E;cases F;obtain⟨x,L,A,_⟩:=d.list D;refine call_enumerate_list A.isList λw n y G z=>?_
 have v:Inv X b t k { f with heap:=w }:=d.kept (t':=f.toks) z;refine wpAny_pyIter_enum n ⟨_,[_,_],_,_,k,rfl,v,MU (a:=a) (e:=f.heap.objs.size+1) (it:=f.heap.objs.size) (Nat.succ_ne_self _),⟨⟨_,n⟩,y⟩,λc m=>?_,q⟩;simp only[aM,aR,kA] at m;rcases m with e | e<;>(subst e;exact d.fpOk (by omega) (d.hok.fresh (by omega)))
def uB (g:Aa D):Aa D:=(List.range g.length).zipWith (λi d=>D.t [.int (i:Nat),d]) g
theorem Kl {xs:Aa D}{i:Nat}{d:D}(h:xs[i]?=some d):(uB xs)[i]?=some (.t [.int i,d]):=by
 obtain⟨a,rfl⟩:=aP.mp h;unfold uB;simp[a]
theorem By:(uB g).length=g.length:=by simp[uB]
theorem BR:YD K (Mw K a) (uB ds) [(.v (.l ds),some (.ref a))]:=by
 have key:∀ A H,Ax K A H [(.v (.l ds),some (.ref a))]->∃ b,nX K H a b/\Reps K A H ds b:=λA H ok=>by
  obtain⟨v,e,r⟩:=ok _ aI;cases e;obtain⟨q,b,e,_,c,f⟩:=r.lst_inv;cases e;exact⟨b,nX.of c,f⟩
 refine⟨rfl,λi H A h ok=>?_,λi H A x n h ok y=>?_,λi H A h ok=>?_⟩
 .obtain⟨b,c,f⟩:=key A H ok;rw[By] at h;exact⟨b,b[i]'(by rw[<- f.length];exact h),c,aH _⟩
 .obtain⟨b,c,f⟩:=key A H ok;obtain⟨p,z,k,rfl,rfl,m⟩:=y;obtain⟨d,hd,rd⟩:=f.getV (m b c);exact⟨_,Kl hd,.inr ⟨p,_,_,k,rfl,rfl,rfl,.cons (.int _) (.cons rd .nil)⟩⟩
 .obtain⟨b,c,f⟩:=key A H ok;rw[By] at h;exact⟨b,c,by rw[<- f.length];omega⟩
def AX (g:oG):xY:=λb e d=>g b e λr a=>match sd r with
 | some (.l c)=>d (uB c) a
 | _=>False
theorem DR (o:Gl X "enumerate") (C:X.mg "enumerate" = none) (j:PD X e U) (J:starEach [e] X.env=[(false,eval e X.env)]:=by rfl) (I:yG e=true:=by rfl) :
  B1 X (.Tuple g x1 ps) (.Call (.Name "enumerate" p) [e] [] pos) (AX U) :=
 (OO o C (oH j qN I) J).mono λA H R f=>f.elim λB w T z n hd q k=>⟨B,w,T,_,n,hd,q,λr h v i s d1 b=>by
  cases c:sd r with
  | none=>rw[c] at b;exact b.elim
  | some d =>
   rw[c] at b;have d2:=d1.thaw c;have t:=d2.valAt;cases d with
   | l y=>obtain⟨a,u,rfl,_,m,x⟩:=t.lst_inv;exact⟨a,rfl,⟨u,nX.of m⟩,k _ _ h [_] i s d2 BR b⟩
   | _=>exact b.elim⟩
end
end L2
namespace Lw
open PySem L2
abbrev nQ:=Aa (Af×Int)
noncomputable def hI (t:nQ):Aa (hH×D):=t.map λp=>(Sum.inr p.1,D.int p.2)
noncomputable def look (t:nQ) (x:Af):Int:=match t.find? (λp=>decide (p.1=x)) with
 | some p=>p.2
 | none=>0
theorem RI:look [] x=0:=rfl
theorem wA:look (p::t) x=if p.1=x then p.2 else look t x:=by
 unfold look;rw[fM];by_cases h:p.1=x<;>simp[h]
theorem sX:∀ (t:nQ) (x:Af),(x∈t.map (·.1)->nR (hI t) (Sum.inr x)=some (.int (look t x)))/\(x∉t.map (·.1)->nR (hI t) (Sum.inr x)=none/\look t x=0)
 | [],x=>⟨λh=>by simp at h,λ_=>⟨rfl,rfl⟩⟩
 | p::t,x=>by
  have a:=sX t x;have e:hI (p::t)=(Sum.inr p.1,D.int p.2)::hI t:=rfl;rw[e,uM,wA];by_cases h:p.1=x
  .subst h;exact⟨λ_=>by rw[aQ rfl,aQ rfl],λn=>absurd (by simp) n⟩
  .have b:(Sum.inr p.1:hH)≠Sum.inr x:=λq=>h (eI q)
   rw[aG b,aG h];refine⟨λm=>a.1 ?_,λm=>a.2 λq=>m (by simp only[bD,aM];exact .inr q)⟩;simp only[bD,aM] at m;exact m.resolve_left λq=>h q.symm
theorem Gz (t:nQ) (x:Af):(nR (hI t) (Sum.inr x)).getD (.int 0) = .int (look t x):=by
 by_cases h:x∈t.map (·.1)
 .rw[(sX t x).1 h];rfl
 .rw[((sX t x).2 h).1,((sX t x).2 h).2];rfl
theorem Xf (h:x∉t.map (·.1)):pZ (hI t) (Sum.inr x) (.int n)=hI (t++[(x,n)]):=by
 unfold pZ;rw[Im,((sX t x).2 h).1];simp[hI]
theorem R7:∀ (u t:nQ),((t++u).map (·.1)).Nodup->pR (hI t) (hI u)=hI (t++u)
 | [],t,_=>by simp[pR,hI]
 | p::u,t,h=>by
  have a:p.1∉t.map (·.1):=λq=>by
   rw[aT] at h;exact (bW.mp h).2.2 p.1 q p.1 (by simp) rfl
  have e:pR (hI t) (hI (p::u))=pR (pZ (hI t) (Sum.inr p.1) (.int p.2)) (hI u):=rfl;rw[e,Xf a,R7 u (t++[p]) (by simpa using h)];simp
theorem Ry (h:(t.map (·.1)).Nodup):pR [] (hI t)=hI t:=by
 have:=R7 t [] (by simpa using h)
 simpa [hI] using this
end Lw
namespace L2
open PySem PySem.Spec PyProof.Rows Lw
section
theorem wM (J:Aa α) (U T:α->D) (p:α->Bool) (C:Aa Sl) (ac:∀ Ψ:Aa D->Aa Sl->Prop,Ψ (J.map U) C->ι dk ρ Ψ) (hl:J.length<=100000)
  (hs:∀ (i:Nat) x (I:Aa D) (Nx:Aa D->Aa Sl->Prop),J[i]?=some x->I.length<100000->(p x=true->Nx (I++[T x]) (rA j C))->(p x=false->Nx I (rA j C))->g (U x) (List.replicate n Sl.n++rA j C) λae=>tt dk ae λb aa=>if b=true then te dk aa λr af=>match sd r with
   | some c=>I.length<100000/\Nx (I++[c]) (af.drop n)
   | none=>False
   else Nx I (aa.drop n))
  (ab:Φ (.o (.l ((J.filter p).map T))) (rP j (rA j C) C)):zH n j ι g tt te dk ρ Φ:=by
 refine ac _ ⟨λi I a=>I=((J.take i).filter p).map T/\a=rA j C,⟨by simp,rfl⟩,?_,?_⟩
 .rintro i d I a hd _ ⟨f,h⟩;rw[bH] at hd;cases e:J[i]? with
  | none=>rw[e] at hd;cases hd
  | some x =>
   rw[e] at hd;cases hd;obtain⟨s,_⟩:=aP.mp e;have k:(J.take (i+1)).filter p=(J.take i).filter p++(if p x=true then [x] else []):=by
    rw[cH,e,List.filter_append];by_cases q:p x=true<;>simp[q]
   have len:I.length<100000:=by
    rw[f,aA];have m:=bK p (J.take i);rw[cW] at m;omega
   rw[h];refine hs i x I (λI a=>I=((J.take (i+1)).filter p).map T/\a=rA j C) e len (λq=>⟨?_,rfl⟩) λq=>⟨?_,rfl⟩
   .rw[k,aQ q,f,aT];rfl
   .rw[k,aG (by rw[q];decide),cO];exact f
 .rintro I a _ ⟨f,h⟩;rw[f,h,aA,cY];exact ab
theorem qH (J:Aa α) (C I:α->D) (p:Aa Sl) (ab:∀ Ψ:Aa D->Aa Sl->Prop,Ψ (J.map C) p->ι dk ρ Ψ) (hl:J.length<=100000)
  (hs:∀ (i:Nat) x (T:Aa D) (U:Aa D->Aa Sl->Prop),J[i]?=some x->T.length<100000->U (T++[I x]) (rA j p)->g (C x) (List.replicate n Sl.n++rA j p) λac=>te dk ac λr ae=>match sd r with
   | some c=>T.length<100000/\U (T++[c]) (ae.drop n)
   | none=>False)
  (aa:Φ (.o (.l (J.map I))) (rP j (rA j p) p)):zH n j ι g Lr te dk ρ Φ:=by
 refine wM J C I (λ_=>true) p ab hl (λi x T U e a b _=>hs i x T U e a (b rfl)) ?_;have:J.filter (λ_=>true)=J:=jU.mpr λ_ _=>rfl
 rw[this];exact aa
end
end L2
namespace Lw
open PySem L2
def pB (i:Nat):Stmt:=PySem.Challenge.pw_laidcells_k34_claims_laid_together.main.body.getD i (.Pass ⟨0,0,0,0⟩)
abbrev K6:Stmt:=pB 11
abbrev Wp:Stmt:=pB 11
abbrev C6:Stmt:=pB 13
abbrev Fo:Stmt:=pB 14
abbrev Ex:Stmt:=pB 15
abbrev Jg:Stmt:=pB 16
abbrev Iz:Stmt:=pB 22
abbrev J0:Stmt:=pB 23
abbrev Hq:Stmt:=pB 24
abbrev E5:Stmt:=pB 25
abbrev E2:Stmt:=pB 26
abbrev D6:Stmt:=pB 27
abbrev Ik:Stmt:=pB 28
abbrev Jx:Stmt:=pB 29
abbrev Jj:Stmt:=pB 30
abbrev J2:Stmt:=pB 31
abbrev Ig:Stmt:=pB 32
abbrev Ee:Stmt:=pB 33
abbrev J5:Stmt:=pB 34
abbrev Hz:Stmt:=pB 35
abbrev xT:Stmt:=pB 37
abbrev Cp:Stmt:=pB 38
abbrev Gk:Stmt:=pB 39
abbrev Iv:Stmt:=pB 40
abbrev I0:Stmt:=pB 41
abbrev Ev:Stmt:=pB 45
abbrev Ip:Stmt:=pB 46
abbrev Iu:Stmt:=pB 47
abbrev G0:Stmt:=pB 48
abbrev Gh:Stmt:=pB 49
abbrev G2:Stmt:=pB 50
abbrev Go:Stmt:=pB 51
abbrev F7:Stmt:=pB 52
abbrev Ji:Stmt:=pB 53
abbrev Gq:Stmt:=pB 54
abbrev Jr:Stmt:=pB 55
abbrev Jf:Stmt:=pB 56
abbrev G9:Stmt:=pB 57
abbrev Iq:Stmt:=pB 58
abbrev B6:Stmt:=pB 59
def Wj:Stmt->Aa Stmt
 | .ClassDef _ _ _ b ..=>b
 | _=>[]
abbrev Cs:Stmt:=(Wj (pB 4)).getD 0 (.Pass ⟨0,0,0,0⟩)
abbrev Cw:Stmt:=(Wj (pB 5)).getD 0 (.Pass ⟨0,0,0,0⟩)
structure Txt (mg:Str->Option Value):Prop where
 len:mg "len" = none
 range:mg "range" = none
 sum:mg "sum" = none
 min:mg "min" = none
 max:mg "max" = none
 tuple:mg "tuple" = none
 list:mg "list" = none
 set:mg "set" = none
 dict:mg "dict" = none
 int:mg "int" = none
 str:mg "str" = none
 zip:mg "zip" = none
 enumerate:mg "enumerate" = none
 all:mg "all" = none
 any:mg "any" = none
 isinstance:mg "isinstance" = none
 sorted:mg "sorted" = none
 abs:mg "abs" = none
 reversed:mg "reversed" = none
 bool:mg "bool" = none
structure Gd (K:nH) (mg:Str->Option Value) (x:Str) (st:Stmt) (ps:List Str) (f:Addr) (fd:FuncData):Prop where
 F:Fun K x x st f fd
 m:mg x=some (.ref f)
 k:PySem.W.keepIn K (.ref f)=true
 b:wQ K fd ps []
def Kn (P:Ah) (w:World) (K:nH) (g:Af->Ab Ac) (base:Ag) (k:Nat) (x:Af) (st:Stmt) (j:Aa Af) (R:RD):Prop:=∃ f fd,Gd K g x st j f fd/\FnOk P w K g base oM k f fd j (pF K R)
theorem pM {X:Cx}{st:Stmt}{R:RD}(G:Kn X.prog X.w X.K X.mg X.base k x st T R) (I:Room m X.A) (o:vA X (e::l) J) (C:k<=m:=by decide) (r:Gl X x:=by rfl) (g:(x == ("__debug__" : Af))=false:=by decide)
  (j:StB X e l pos:=by exact {}):PD X (.Call (.Name x p) (e::l) [] pos) (Ny R J):=G.elim λ_ h=>h.elim λ_ h=>pS h.2 (I.mono C) r h.1.m h.1.k h.1.b o g j
def qX (P:Ah) (w:World) (K:nH) (g:Af->Ab Ac) (base:Ag) (k:Nat) (x:Af) (st:Stmt) (j:Aa Af) (R:RD):Prop:=∀ f fd,Fun K x x st f fd->FnOk P w K g base oM k f fd j (pF K R)
theorem rS {P:Ah}{K:nH}{st:Stmt}{R:RD}(S:FnScope N I (oC st))
  (j:∀ (f:Ad) (g:Ac) (A:Around) (l:Aa Env) (s:Ae) (H:Hp) (E:XK) (r:Aa Ad) (ds:Aa D) (p:Sl->Prop),Room k (A.deeper (PyProof.Rows.envOfC x (oC st) s.heap.objs.size f g))->(A.deeper (PyProof.Rows.envOfC x (oC st) s.heap.objs.size f g)).units+1<cLine->R r ds p ->∃ t,sB (pA oM P w K J base N x (oC st) f g A l s H E).nox (sH st) t/\t r { nx:=λ_=>p (.v .e),rt:=p } (qY N ds)) (C:I.length<=N.length:=by decide) (o:∀ r ds p,R r ds p->ds.length=I.length:=by rintro _ _ _ h;repeat' (rcases h with⟨i,h⟩;try (subst i;rfl))):qX P w K J base (k+1) x st I R:=λ_ _ F=>F.okD S o C λ_ _ _ _ _ _ _ _ _ a=>j _ _ _ _ _ _ _ _ _ _ a (tW a)
end Lw
namespace L2
open PySem PySem.Spec PyProof.Rows Lw
abbrev Xc:=Ad×Aa (Af×V)
def LM (x:Xc) (C:Ac) (g:Ab Ad) (H:Hp):Prop:=C = .ref x.1/\(x.2=[]/\g=none\/∃ a,g=some a/\H a=some (.xd x.2))
def XP (j:Aa Ad) (g:Hp) (x:Xc) (C:Ac) (l:Ab Ad) (H:Hp):Prop:=LM x C l H/\yT j g H/\Dk j H/\∀ a,l=some a->g a=none
theorem Tc (h:Dk j H) (g:H T=none):Dk j (upd H T o):=by
 rcases h with h | ⟨d,c,e,f⟩
 .exact .inl h
 .refine .inr ⟨d,c,e,?_⟩;obtain⟨m,p,a,b,i,k⟩:=f.ex;exact⟨m,p,by rw[nP (pJ a g)];exact a,by rw[nP (pJ b g)];exact b,i,k⟩
theorem Va (h:yT j g H) (l:H T=none):yT j g (upd H T o):=λb u e n=>by
 have:=h b u e n;rw[nP (pJ this l)];exact this
theorem XP.note (h:XP l j x C p H) (g:H T=none):XP l j x C p (upd H T o):=by
 obtain⟨⟨d,a⟩,f,i,k⟩:=h;refine⟨⟨d,?_⟩,Va f g,Tc i g,k⟩;rcases a with a | ⟨c,e,b⟩
 .exact .inl a
 .exact .inr ⟨c,e,by rw[nP (pJ b g)];exact b⟩
abbrev RX:=Aa Ad->Aa D->(Sl->Prop)->(Xc->Prop)->Prop
def vF (K:nH) (R:RX):Sp:=λh H Q E=>∃ (c:Aa Ad) (A:Ad->Prop) (ds:Aa D) (f:Sl->Prop) (e:Xc->Prop),Dk c H/\(∀ a,A a->a∉c)/\Reps K A H ds h/\R c ds f e /\
 (∀ s v b,f s->yT c H b->Dk c b->RV K c A H s v b->Q v b)/\∀ x,e x->∀ C d b,XP c H x C d b->E C d b
def XL (B:Bs) (E:XK) (g:Xc->Prop):Prop:=∀ x,g x->∀ C b a,XP B.dk B.H0 x C b a->E C b a
def Fh (K:nH) (E:XK) (g:Xc->Prop) (j:qK):TS:=λd b H=>∃ (B:Bs) (a:Aa Sl) (T:pN) (c:DEnds),a.length=b.length/\DS K B (a.zip b++T) H/\j B.dk c a/\Bm K B T b.length c d/\XL B E g
theorem Fh.elim {K:nH}{P:Prop}(h:Fh K E p r o l H) (f:∀ (B:Bs) (g:Aa Sl) (T:pN) (j:DEnds),g.length=l.length->DS K B (g.zip l++T) H->r B.dk j g->Bm K B T l.length j o->XL B E p->P):P:=by
 obtain⟨B,g,T,j,a,hd,b,c,d⟩:=h;exact f B g T j a hd b c d
abbrev xF (X:Cx) (E:XK) (g:Xc->Prop) (st:Stmt) (j:qK):Prop:=PS X st (Fh X.K E g j)
abbrev A3 (X:Cx) (E:XK) (g:Xc->Prop) (st:Aa Stmt) (j:qK):Prop:=qD X st (Fh X.K E g j)
section
variable {X:Cx}{st:Stmt}{rest:Aa Stmt}
theorem sE (h:vR X st t):xF X E g st t:=h.mono λi k H c=>c.elim λB f T a b hd d e _=>⟨B,f,T,a,b,hd,d,e⟩
theorem Eo (h:sB X rest t):A3 X E g rest t:=h.mono λi k H c=>c.elim λB f T a b hd d e _=>⟨B,f,T,a,b,hd,d,e⟩
theorem xR (j:xF X E g st t) (l:A3 X E g rest u):A3 X E g (st::rest) (zJ t u):=(A2 j l).mono λv x H h=>h.elim λB n T e f hd i b c =>
 ⟨B,n,T,_,f,hd,i,b.seq λa s w k m d q=>⟨B,a,T,e,k,d,q,by rw[m];exact b,c⟩,c⟩
theorem wH (h:xF X E g st t):A3 X E g [st] t:=sV h
theorem Fj (o:uD X c p) (j:A3 X E g a t) (l:A3 X E g b u):xF X E g (.If c a b pos) (B8 p t u):=(yP o j l).mono λv x H n=>n.elim λB s T e m hd q i k=>⟨B,s,T,_,m,hd,q,λc d w h d1 f=>by
 cases c with
 | true=>exact (aQ rfl).mpr ⟨B,d,T,e,h,d1,(aQ rfl).mp f,i,k⟩
 | false=>exact uZ ⟨B,d,T,e,h,d1,(aG (by decide)).mp f,i,k⟩⟩
theorem Pw {iter:Expr}(U:B1 X j iter ι) (I:wE X 99 j g) (o:A3 X E Ξ body tb) (hp:PassesOwn (model X.prog X.w) X.A X.env X.xe) (C:X.calm=true:=by rfl)
  (hs:∀ x,foldedSetIterable iter X.env x=pure x:=by intro _;rfl):xF X E Ξ (.For j iter body [] pos) (Io ι g tb) :=
 (Hu hp C U I o hs).mono λDn W H O=>O.elim λB ρ T De hl hd ht Q xl=>⟨B,ρ,T,_,hl,hd,ht,λJ ds S k H1 l1 d1 Y P=>by
  obtain⟨Pv,p0,step,fin⟩:=P;refine⟨λi m c n=>m=ds.length-i/\i<=ds.length/\∃ a,a.length=c.length/\c.length=W.length/\DS X.K B (a.zip c++(k++T)) n/\Pv i a,⟨_,rfl,gA _,S,l1,rfl,d1,p0⟩,?_⟩;rintro i m c n ⟨rfl,aa,a,V,m2,L,pv⟩;have s:Ax X.K (Al B (lT (a.zip c++(k++T)))) n k:=λq hq=>L.ok q (by simp[hq])
  by_cases t:i<ds.length
  .refine .inr ⟨Y.go i n _ t s,λf u=>∃ b,b.length=f.length/\f.length=W.length/\DS X.K B (b.zip f++(k++T)) u/\Pv (i+1) b,λf u ⟨b,q1,q2,R,q4⟩=>⟨_,(by omega:ds.length-(i+1)<_),rfl,t,b,q1,q2,R,q4⟩,λx u y=>?_⟩;obtain⟨d,M,alt⟩:=Y.yld i n _ x u t s y;have d2:DS X.K B (a.zip c++(.v d,some x)::(k++T)) u:=by
    rcases alt with⟨rfl,rx⟩ | ⟨p,es,vs,N,rfl,rfl,rfl,rr⟩
    .exact L.push rx
    .exact L.tup N rr
   refine⟨B,a,k++T,d,_,V,d2,step i d a M pv,λb f H3 n1 n2 _ Z R=>⟨B,b,k++T,_,n1,Z,R,⟨?_,?_⟩,xl⟩⟩
   .intro e h G D a2 F;refine⟨λz=>⟨e,D,by omega,F,z⟩,λz=>?_,λz=>⟨e,D,by omega,F,z⟩⟩;exact (Q.1 e h G D (by omega) F.rmE).1 z
   .intro r v e h G D F z;refine Q.2 r v e h G D ?_ z;have:DS X.K B ((e.zip h++[(r,some v)])++(k++T)) G:=by simpa using F
    simpa using this.rmE
  .have l:i=ds.length:=by omega
   subst l;exact .inl ⟨Y.stop _ n _ rfl s,(Q.1 a c n V m2 L.rmE).1 (fin a pv)⟩⟩
end
def Qd (j:Xc->Prop) (R:RX) (g:vD):qK:=λb c d=>g b d λas a=>match vP a as with
 | some ds=>R b ds (λs=>(Ai as=true\/Ez s=true)/\c.nx a) j
 | none=>False
section
variable {P:Ah}{K:nH}{cd:Ac}
variable {R:RX}
theorem x_call (F:FnOk P w K I base (oQ P w) k f fd ps (vF K R)) (hr:Room k (pA (oQ P w) P w K I base N l j f0 cd J g s0 U E).A) (hg:Gl (pA (oQ P w) P w K I base N l j f0 cd J g s0 U E) x) (hm:I x=some (.ref f)) (hk:PySem.W.keepIn K (.ref f)=true) (hb:wQ K fd ps [])
  (ha:vA (pA (oQ P w) P w K I base N l j f0 cd J g s0 U E) (e::es) ta) (ab:(x == ("__debug__" : Af))=false:=by decide) (he:starEach (e::es) (pA (oQ P w) P w K I base N l j f0 cd J g s0 U E).env=(false,eval e (pA (oQ P w) P w K I base N l j f0 cd J g s0 U E).env)::starEach es (pA (oQ P w) P w K I base N l j f0 cd J g s0 U E).env:=by rfl) (ac:(backTo pos (starEach es (pA (oQ P w) P w K I base N l j f0 cd J g s0 U E).env)).any (·.1)=false:=by rfl)
  (hs:swapsWith (.Call (.Name x p) (e::es) [] pos) none aa.line (pA (oQ P w) P w K I base N l j f0 cd J g s0 U E).env=pure false:=by rfl) :
  xF (pA (oQ P w) P w K I base N l j f0 cd J g s0 U E) E Ξ (.Expr (.Call (.Name x p) (e::es) [] pos) aa) (Qd Ξ R ta) :=
 (At (yA (E:=λC i H=>∀ c,H c=none->E C i (upd H c (rF c))) F hr hg hm hk hb .nil (NX λC i H e c h _ G=>h c G) ha ab ⟨he,ac⟩) hs).mono λDn Q H hq=>hq.elim λB ρ T De Z hd ht M xl=>by
  refine⟨B,ρ,T,_,Z,hd,ht,λas m vs S L ok d1 t=>?_⟩;cases D:vP m as with
  | none=>rw[D] at t;exact t.elim
  | some ds =>
   rw[D] at t;obtain⟨_,q2,q3⟩:=d1.argsP L ok ds D;have d2:=d1.rmArgs;rw[cO];have raised:∀ x,Ξ x->∀ C i d,XP B.dk S x C i d->∀ c,d c=none->E C i (upd d c (rF c)):=λx hx C i d y c G=>by
    refine xl x hx C i _ (XP.note ⟨y.1,λb o V n=>y.2.1 b o (d2.fr b o V n) n,y.2.2.1,λu Y=>?_⟩ G);have:=y.2.2.2 u Y;cases X:B.H0 u with
    | none=>rfl
    | some o =>
     by_cases n:u∈B.dk
     .obtain⟨xs,q⟩:=d2.dk.some n;rw[q] at this;cases this
     .rw[d2.fr u o X n] at this;cases this
   by_cases O:Ai as=true
   .exact⟨B.dk,_,ds,_,Ξ,d2.dk,λa z=>z.1,q3 O,t,λs v d hs f hk r=>(M.1 m Q d L rfl ((d2.result f hk r (.inl λa z=>z)).drop (L1:=[]))).1 hs.2,raised⟩
   .exact⟨B.dk,_,ds,_,Ξ,d2.dk,λa z=>z.1,q2,t,λs v d hs f hk r=>(M.1 m Q d L rfl ((d2.result f hk r (.inr (hs.1.resolve_left O))).drop (L1:=[]))).1 hs.2,raised⟩
end
section
variable {P:Ah}{K:nH}
theorem Fun.okDX {st:Stmt}{R:RX}(F:Fun K x I st f fd) (S:FnScope N ps (oC st)) (C:∀ l ds J U,R l ds J U->ds.length=ps.length) (ab:ps.length<=N.length)
  (T:∀ (j:Ac) (A:Around) (g:Aa Env) (s:Ae) (H:Hp) (E:XK) (l:Aa Ad) (ds:Aa D) (J:Sl->Prop) (U:Xc->Prop),Room k (A.deeper (envOfC I (oC st) s.heap.objs.size f j))->R l ds J U ->∃ t,A3 (pA (oQ P w) P w K mg base N I (oC st) f j A g s H E) E U (sH st) t/\t l { nx:=λ_=>J (.v .e),rt:=J } (qY N ds)):FnOk P w K mg base (oQ P w) (k+1) f fd ps (vF K R):=by
 obtain⟨oc,od,kV,aa,pm,an,j,ct,ac,rfl,lk,L⟩:=F.ex;refine Na lk L S (λm H Q E O=>by obtain⟨l,A,ds,J,U,_,_,r,u,_⟩:=O;rw[<- r.length];exact C _ _ _ _ u) λA g s H m Q E hr O=>?_
 obtain⟨l,A1,ds,J,U,M,hA,r,u,Y,hx⟩:=O;obtain⟨t,ht,hb⟩:=T j A g s H E l ds J U hr u;have G:ds.length=m.length:=r.length;have dl:ds.length=ps.length:=C _ _ _ _ u;refine⟨_,ht,⟨l,A1,H⟩,qY N ds,[],_,?_,?_,hb,⟨?_,?_⟩,hx⟩
 .unfold qY start;rw[List.length_append,List.length_append,List.length_map,List.length_map,List.length_replicate,List.length_replicate,G]
 .have X:(qY N ds).zip (start N m)=(ds.zip m).map (λp=>(Sl.v p.1,some p.2))++List.replicate (N.length-ds.length) (Sl.n,none):=by
   unfold qY start;rw[<- G];exact Fl _ G
  have B:lT ((qY N ds).zip (start N m))=[]:=by
   rw[X];refine dJ.mpr λa i=>?_
   obtain⟨q,c,e⟩:=uC.mp i;rcases aW.mp c with z | z
   .obtain⟨p,_,rfl⟩:=aO.mp z;cases e
   .rw[(fK.mp z).2] at e;cases e
  rw[cO];refine⟨λb o e _=>e,M,by rw[B];exact cE,(λa i=>by rw[B] at i;exact absurd i aR),λq c=>?_⟩;rw[B];rw[X] at c;rcases aW.mp c with z | z
  .obtain⟨p,hp,rfl⟩:=aO.mp z;exact⟨p.2,rfl,(Ix r p hp).mono (.all λa i=>⟨hA a i,aR,.inl i⟩)⟩
  .rw[(fK.mp z).2];trivial
 .intro V W y l1 l2 d1;refine⟨λh=>Y _ _ y h d1.fr d1.dk .e,λh=>h.elim,λh=>h.elim⟩
 .intro s' v V W y l1 d1 h;refine Y s' v y h d1.fr d1.dk ?_;cases s' with
  | n=>trivial
  | v d=>exact d1.valAt.mono (.all λa z=>⟨z.1,z.2.2⟩)
  | o d =>
   obtain⟨a,rfl,r'⟩:=d1.ownAt;have Z:=d1.new a (by rw[sD];exact aX _ aI);exact⟨a,rfl,Z.1,Z.2,r'.mono (.all λb z=>⟨z.1,λq=>z.2.1 (by simp[q]),z.2.2⟩) λ_ q=>q⟩
end
def Gc (C:Ad) (F:V->Ab (Aa (Af×V))):Sp:=λc H Q _=>∃ (e:Ad) (v:V) (b:Aa (Af×V)),c=[.ref e,v]/\F v=some b/\H e=some (vX e C)/\∀ a,H a=none->Q .e (upd (upd H a (.xd b)) e (Cq e C a))
def T7 (j:Xc->Prop) (C:Ad) (F:V->Ab (Aa (Af×V))) (g:oG):qK:=λb _ c=>g b c λr _=>match sd r with
 | some d=>∃ v a,yK d=some v/\F v=some a/\j (C,a)
 | none=>False
section
variable {P:Ah}{K:nH}{cd:Ac}
variable {F:V->Ab (Aa (Af×V))}
theorem Y5 (xc:sI K C N bm (some (.ref f))=true) (bb:bm.contains (.type "BaseException")=true) (ac:PySem.W.keepIn K (.ref C)=true) (hf:K.lookup f=some oI) (ab:oI.cls = .type "function") (FI:FnOk P w K I base oM k f fd ps (Gc C F)) (hr:Room (k+1) (pA (oQ P w) P w K I base Nm l j f0 cd J g s0 U E).A)
  (hg:Gl (pA (oQ P w) P w K I base Nm l j f0 cd J g s0 U E) x) (hm:I x=some (.ref C)) (hb:wQ K fd ps []) (he:PD (pA (oQ P w) P w K I base Nm l j f0 cd J g s0 U E) e te) (hn:yG e=true:=by rfl) (aa:(x == ("__debug__" : Af))=false:=by decide)
  (h1:starEach [e] (pA (oQ P w) P w K I base Nm l j f0 cd J g s0 U E).env=(false,eval e (pA (oQ P w) P w K I base Nm l j f0 cd J g s0 U E).env)::starEach [] (pA (oQ P w) P w K I base Nm l j f0 cd J g s0 U E).env:=by rfl) :
  xF (pA (oQ P w) P w K I base Nm l j f0 cd J g s0 U E) E Ξ (.Raise (some (.Call (.Name x p) [e] [] pos)) none ae) (T7 Ξ C F te) :=
 (KY (Xa (x:=x) (e:=e) (es:=[]) xc ac hf ab FI hr hg hm hb (oH he qN hn) aa ⟨h1,rfl⟩)).mono λDn σ H hq=>hq.elim λB ρ T De hl hd ht lk xl=>by
  refine⟨B,ρ,T,_,hl,hd,ht,λr af v s l1 d1 h1=>?_⟩;cases G:sd r with
  | none=>rw[G] at h1;exact h1.elim
  | some d =>
   rw[G] at h1;obtain⟨u,X,L,hF,M⟩:=h1;have d2:=d1.thaw G;obtain⟨rfl,_⟩:=Fw L d2.valAt.peek;refine⟨by show 1<=10;decide,λa Q=>⟨a,_,X,rfl,hF,oO,λc D=>⟨rfl,a,C,N,c,bm,_,rfl,oO,xc,bb,λm i=>?_⟩⟩⟩;have t:c≠a:=λz=>by rw[z,oO] at D;cases D
   have h:s c=none:=by rw[nP t] at D;exact D
   have R:m≠a:=λz=>by rw[z,oO] at i;cases i
   have S:m≠c:=λz=>by rw[z,nP t,oO] at i;cases i
   have O:s m=none:=by rw[nP R,nP S,nP R] at i;exact i
   have keep:∀ b o,s b=some o->upd (upd (upd (upd (upd s a (vX a C)) c (.xd X)) a (Cq a C c)) a (qR a (.ref C) (some c))) m (rF m) b=some o:=λb o e=>by
    rw[nP (pJ e O),nP (pJ e Q),nP (pJ e Q),nP (pJ e h),nP (pJ e Q)];exact e
   refine xl _ M _ _ _ ⟨⟨rfl,.inr ⟨c,rfl,by rw[nP S.symm,nP t,nP t,oO]⟩⟩,λb o Z n=>keep b o (d2.fr b o Z n),?_,λd' ed=>?_⟩
   .rcases d2.dk with q | ⟨x,y,q,Y⟩
    .exact .inl q
    .refine .inr ⟨x,y,q,?_⟩;obtain⟨ns,p,g1,g2,g3,g4⟩:=Y.ex;exact⟨ns,p,keep _ _ g1,keep _ _ g2,g3,g4⟩
   .cases ed;cases e2:B.H0 c with
    | none=>rfl
    | some o =>
     by_cases n:c∈B.dk
     .obtain⟨zs,q⟩:=d2.dk.some n;rw[q] at h;cases h
     .rw[d2.fr c o e2 n] at h;cases h
end
end L2
namespace L2
open PySem PySem.Spec PyProof.Rows
section
variable {X:Cx}
def DL (g:TE):TE:=λb H Q=>g b H λy a=>∃ i:Int,y = .int i/\i.natAbs<10 ^ 9/\∀ z:Af,Q (.str z) a
theorem IR (g:PE X e l) (o:a.length<=1000:=by decide +kernel) (p:b.length<=1000:=by decide +kernel):PE X (.JoinedStr [.Constant (.str a) i r,.FormattedValue e (-1) none C,.Constant (.str b) j J] pos) (DL l):=by
 intro c s E H Q I h;have big:20000<=sizeLine:=by decide
 have w:(Str.empty++a).length=a.length:=by rw[gI];simp[Str.empty,Str.length]
 refine wpAny_JoinedStr ?_;refine eZ ⟨a,_,rfl,by omega,?_⟩;refine jQ (nL (g c _ E H _ (I.tok _) h) λu K d=>?_);obtain⟨y,m,v,D,n,A,f,q⟩:=d;subst A;obtain⟨t,rfl⟩:=D;have G:(Str.ofString (toString n)).length<=20:=by
  have:=int_text_length_le10 (a:=n) (k:=9) (by decide) f;rw[PySem.ofString_length];omega
 have x:(Str.empty++a++Str.ofString (toString n)).length=a.length+(Str.ofString (toString n)).length:=by rw[gI,w]
 have F:(Str.empty++a++Str.ofString (toString n)++b).length=a.length+(Str.ofString (toString n)).length+b.length:=by rw[gI,x]
 have B:n.natAbs.log2<1920:=by
  by_cases z:n.natAbs=0
  .rw[z];decide
  .exact (Nat.log2_lt z).mpr (mZ f (bT (show 10 ^ 9<2 ^ 30 by decide) (Nat.pow_le_pow_right (by decide) (by decide))))
 refine wpAny_formatField_int B ?_;refine⟨_,_,rfl,by omega,eZ ⟨b,_,rfl,by omega,⟨by omega,.str _,m,?_,⟨_,rfl⟩,q _⟩⟩⟩;exact (((v.tok _).tok _).tok _).tok _
end
end L2
namespace Lw
open PySem L2
structure XK1 (K:nH) (mg:Str->Option Value) (CE:Addr) (x:Str) (at_:Str) (C N fI:Addr) (bm:List Value):Prop where
 mCE:mg "CellError" = some (.ref CE)
 g1:PySem.W.specialIn K (.ref CE) "__getattribute__" = some (some (.builtin "type.__getattribute__"))
 g2:PySem.W.readsIn K CE (.type "type")=true
 g3:PySem.W.findCls K (.ref CE) (.type "type") "__init__" = some (PySem.W.CFound.val (.builtin "ValueError.__init__"))
 m:mg x=some (.ref C)
 xc:sI K C N bm (some (.ref fI))=true
 kp:PySem.W.keepIn K (.ref C)=true
 sa:PySem.W.findIn K (.ref C) "__setattr__" = some (some (.builtin "object.__setattr__"))
 fr:PySem.W.findIn K (.ref C) at_=some none
 rf:∀ a,refuseLoop (.ref a) "__setattr__" (.ref C::bm)=pure ()
 ob:bm.contains (.type "object")=true
 bb:bm.contains (.type "BaseException")=true
 xf:PySem.W.XFacts K C
 ex:PySem.W.exmOne K (.ref C) (.ref CE)=some true
def uK (x:Af):Prop:=(∀ c∈x.cps.toList,c<16 ^ 8)/\x.length<=1000
open Classical in
def Cb:V->Ab (Aa (Af×V))
 | .str y=>if uK y then some [(("word" : Af),V.str y)] else none
 | _=>none
def Bx:V->Ab (Aa (Af×V))
 | .int n=>if n.natAbs<10 ^ 9 then some [(("row" : Af),V.int n)] else none
 | _=>none
section
variable {P:Ah}{K:nH}{CE fI:Ad}
theorem LB:FnScope ["self","word"] ["self","word"] (oC Cw):=⟨rfl,rfl,rfl,by decide +kernel,rfl,by decide +kernel,by decide +kernel⟩
theorem JA:FnScope ["self","row"] ["self","row"] (oC Cs):=⟨rfl,rfl,rfl,by decide +kernel,rfl,by decide +kernel,by decide +kernel⟩
theorem Xl (F:Fun K "__init__" "NoName.__init__" Cw f fd) (O:XK1 K j CE "NoName" "word" C N fI g):FnOk P w K j base oM 1 f fd ["self","word"] (Gc C Cb):=by
 refine F.ok LB (λq H Q E h=>?_) (λi A b s H q Q E t h=>?_)
 .obtain⟨e,y,d,rfl,_⟩:=h;rfl
 .obtain⟨e,v,d,rfl,a,c,k⟩:=h;obtain⟨y,rfl,⟨m,n⟩,rfl⟩:∃ y,v = .str y/\uK y/\d=[(("word" : Af),V.str y)]:=by
   cases v<;>first | (cases a;done) | skip
   rename_i y
   by_cases z:uK y
   .simp only[Cb,aQ z] at a;exact⟨y,rfl,z,(bV a).symm⟩
   .simp only[Cb,aG z] at a;cases a
  refine⟨_,A2 (At (Ou (by rfl) O.mCE O.g1 O.g2 O.g3 (pv 0) (BW (pv 1)) ⟨rfl,rfl,rfl,rfl⟩)) (sV (U9 (pv 0) (pv 1) rfl)),?_⟩;refine⟨_,rfl,_,rfl,y,rfl,m,n,λz=>⟨e,C,N,g,_,z,rfl,rfl,c,O.xc,?_⟩⟩;exact⟨_,rfl,_,rfl,e,C,N,g,_,rfl,c,O.xc,O.sa,O.fr,O.rf,O.ob,k⟩
theorem IP (F:Fun K "__init__" "NoCell.__init__" Cs f fd) (O:XK1 K j CE "NoCell" "row" C N fI g):FnOk P w K j base oM 1 f fd ["self","row"] (Gc C Bx):=by
 refine F.ok JA (λn H Q E h=>?_) (λi A b s H n Q E q h=>?_)
 .obtain⟨e,y,d,rfl,_⟩:=h;rfl
 .obtain⟨e,v,d,rfl,a,c,k⟩:=h;obtain⟨y,rfl,m,rfl⟩:∃ y:Int,v = .int y/\y.natAbs<10 ^ 9/\d=[(("row" : Af),V.int y)]:=by
   cases v<;>first | (cases a;done) | skip
   rename_i y
   by_cases z:y.natAbs<10 ^ 9
   .simp only[Bx,aQ z] at a;exact⟨y,rfl,z,(bV a).symm⟩
   .simp only[Bx,aG z] at a;cases a
  refine⟨_,A2 (At (Ou (by rfl) O.mCE O.g1 O.g2 O.g3 (pv 0) (IR (pv 1)) ⟨rfl,rfl,rfl,rfl⟩)) (sV (U9 (pv 0) (pv 1) rfl)),?_⟩;refine⟨_,rfl,_,rfl,y,rfl,m,λz=>⟨e,C,N,g,_,z,rfl,rfl,c,O.xc,?_⟩⟩;exact⟨_,rfl,_,rfl,e,C,N,g,_,rfl,c,O.xc,O.sa,O.fr,O.rf,O.ob,k⟩
end
structure XO (P:Program) (w:World) (K:nH) (mg:Str->Option Value) (base:Heap) (x p:Str) (C:Addr) (F:V->Option (List (Str×V))):Prop where
 ex:∃ (N f:Addr) (bm:List Value) (oI:Obj) (fd:FuncData),sI K C N bm (some (.ref f))=true/\bm.contains (.type "BaseException")=true/\PySem.W.keepIn K (.ref C)=true/\K.lookup f=some oI/\oI.cls = .type "function" /\ FnOk P w K mg base oM 1 f fd ["self",p] (Gc C F)/\mg x=some (.ref C)/\wQ K fd ["self",p] []
section
variable {P:Ah}{K:nH}{cd:Ac}
variable {F:V->Ab (Aa (Af×V))}
theorem Hs (O:XO P w K r base x q C F) (hr:Room 2 (pA (oQ P w) P w K r base T o l U cd I j s0 J E).A)
  (he:PD (pA (oQ P w) P w K r base T o l U cd I j s0 J E) e te) (hg:Gl (pA (oQ P w) P w K r base T o l U cd I j s0 J E) x:=by rfl) (hn:yG e=true:=by rfl) (aa:(x == ("__debug__" : Af))=false:=by decide)
  (h1:starEach [e] (pA (oQ P w) P w K r base T o l U cd I j s0 J E).env=(false,eval e (pA (oQ P w) P w K r base T o l U cd I j s0 J E).env)::starEach [] (pA (oQ P w) P w K r base T o l U cd I j s0 J E).env:=by rfl) :
  xF (pA (oQ P w) P w K r base T o l U cd I j s0 J E) E Ξ (.Raise (some (.Call (.Name x p) [e] [] pos)) none ab) (T7 Ξ C F te):=by
 obtain⟨N,f,m,n,fd,a,b,c,d,k,g,h,i⟩:=O.ex;exact Y5 a b c d k g hr hg h i he hn aa h1
end
noncomputable def Xu:Aa Af:=["and","or","odd"]
structure ArOk (w:Str) (n:Nat):Prop where
 ok:(w∈Xu/\(n=2\/n=3))\/(w = "most" /\ n=3)\/(w = "not" /\ n=1)\/(w = "one" /\ n=0)\/(w = "nil" /\ n=0)
structure Cel where
 ins:List Str
 gates:List (Str×Str×List Str)
 outs:List Str
def Cel.names (C:Cel):Aa Af:=C.ins++C.gates.map (·.1)
def uY:Aa Af->Aa (Af×Af×Aa Af)->Prop
 | _,[]=>True
 | kn,g::r=>ArOk g.2.1 g.2.2.length/\(∀ p∈g.2.2,p∈kn)/\uY (kn++[g.1]) r
theorem uY.snoc:∀ {j:Aa (Af×Af×Aa Af)}{kn:Aa Af}{g:Af×Af×Aa Af},uY kn j->ArOk g.2.1 g.2.2.length->(∀ p∈g.2.2,p∈kn++j.map (·.1))->uY kn (j++[g])
 | [],kn,g,_,b,c=>⟨b,by simpa using c,True.intro⟩
 | a::r,kn,g,h,b,c=>⟨h.1,h.2.1,uY.snoc h.2.2 b (by simpa using c)⟩
theorem uY.at:∀ {kn:Aa Af}{i:Nat}{g:Af×Af×Aa Af},uY kn j->j[i]?=some g->ArOk g.2.1 g.2.2.length/\∀ p∈g.2.2,p∈kn++(j.take i).map (·.1):=by
 induction j with
 | nil=>intro kn i g _ h;simp at h
 | cons a r c =>
  intro kn i g h e;cases i with
  | zero=>simp at e;subst e;exact⟨h.1,by simpa using h.2.1⟩
  | succ i =>
   have:=c (kn:=kn++[a.1]) (i:=i) (g:=g) h.2.2 (by simpa using e);refine⟨this.1,λp b=>?_⟩;have q:=this.2 p b
   simpa using q
noncomputable def oY (g:Af×Af×Aa Af):D:=.t [.str g.1,.str g.2.1,.t (g.2.2.map D.str)]
def yU (C:Cel):D:=.t [.t (C.ins.map D.str),.t (C.gates.map oY),.t (C.outs.map D.str)]
structure GC (C:Cel):Prop where
 nd:C.names.Nodup
 gt:uY C.ins C.gates
 os:∀ o∈C.outs,o∈C.names
 ond:C.outs.Nodup
 li:C.ins.length<=40
 lg:C.gates.length<=40
 lo:C.outs.length<=40
theorem nJ (I:Aa Sl->Prop) (o:∀ N:Aa Sl->Prop,(∀ g,I g->N g)->t l { j with nx:=N } r) (p:∀ g,I g->u l j g):zJ t u l j r:=o _ p
theorem rW (ds:Aa D) (l:Aa Sl) (p:∀ I:Aa D->Aa Sl->Prop,I ds l->ι C ρ I) (Pv:Nat->Aa Sl->Prop) (J:Pv 0 l)
  (T:∀ (i:Nat) d j,ds[i]?=some d->Pv i j->g d j λr=>U C { nx:=Pv (i+1),ct:=Pv (i+1),bk:=o.nx,rt:=o.rt } r) (hd:∀ j,Pv ds.length j->o.nx j):Io ι g U C o ρ:=p _ ⟨Pv,J,T,hd⟩
theorem wG {j:Type}{f:j->D}{g:Aa j}{i:Nat}{d:D}(h:(g.map f)[i]?=some d):∃ y,g[i]?=some y/\f y=d:=by
 rw[bH] at h;cases e:g[i]? with
 | none=>rw[e] at h;cases h
 | some y=>rw[e] at h;exact⟨y,rfl,bV h⟩
theorem Bl {lo:Int}(h:(rL lo n)[i]?=some d):i<n/\d = .int (lo+i):=by
 unfold rL at h;rw[bH] at h;cases e:(List.range n)[i]? with
 | none=>rw[e] at h;cases h
 | some y =>
  rw[e] at h;obtain⟨a,b⟩:=aP.mp e;rw[eU] at a;rw[List.getElem_range] at b;subst b;exact⟨a,(bV h).symm⟩
theorem L8:∀ {l:Aa g}{n:Nat}{y:g},l[n]?=some y->l.Perm (y::l.eraseIdx n)
 | a::l,0,y,h=>by simp at h;subst h;exact .refl _
 | a::l,n+1,y,h=>by
  have:=L8 (l:=l) (n:=n) (y:=y) (by simpa using h);rw[gE];exact (this.cons a).trans (.swap y a _)
theorem My (f:g->j):∀ (l:Aa g) (n:Nat),(l.map f).eraseIdx n=(l.eraseIdx n).map f
 | [],_=>by simp
 | a::l,0=>rfl
 | a::l,n+1=>by rw[bD,gE,gE,bD,My f l n]
theorem Od {n k:Nat}(h:k<n):seqIndex? (k:Int) n=some k:=by
 unfold seqIndex?;have:¬ ((k:Int)<0):=by omega
 simp[this,h]
end Lw
namespace L2
open PySem PySem.Spec PyProof.Rows Lw
section
variable {X:Cx}{K:nH}
def L0 (K:nH) (neg:Bool):R2:=λx y H Q=>Ed neg x y H Q\/Gi K neg x y H Q
theorem Js (g:X.A.units+64<cLine):oJ X (compareOp .Eq) (L0 X.K false):=(show oJ X (compareOp .Eq) (Ed false) from FP).or (HQ g)
theorem Mq (g:X.A.units+64<cLine):oJ X (compareOp .NotEq) (L0 X.K true):=(show oJ X (compareOp .NotEq) (Ed true) from Nh).or (Si g)
def Y9 (neg:Bool):O2:=λd e a=>match d,e with
 | .int i,.int j=>a (.v (.b (nb neg (decide (i=j)))))
 | .str i,.str j=>a (.v (.b (nb neg (decide (i=j)))))
 | .b i,.b j=>a (.v (.b (nb neg (decide (i=j)))))
 | .e,.int _=>a (.v (.b (nb neg false)))
 | .l c,.l []=>a (.v (.b (nb neg c.isEmpty)))
 | _,_=>False
theorem B7 (neg:Bool):qI K (L0 K neg) (Y9 neg):=by
 intro B L H d e x y A Q hd h m f k;cases d<;>first | exact False.elim f | skip<;>cases e<;>first | exact False.elim f | skip
 .cases h;cases m
  rename_i j
  have c:decide (V.e=V.int j)=false:=by simp
  exact .inl ⟨rfl,by rw[c];exact k _ _ H f (hd.pushF (.b _))⟩
 .cases h;cases m
  rename_i i j
  have c:decide (V.b i=V.b j)=decide (i=j):=by simp
  exact .inl ⟨rfl,by rw[c];exact k _ _ H f (hd.pushF (.b _))⟩
 .cases h;cases m
  rename_i i j
  have c:decide (V.int i=V.int j)=decide (i=j):=by simp
  exact .inl ⟨rfl,by rw[c];exact k _ _ H f (hd.pushF (.b _))⟩
 .cases h;cases m
  rename_i i j
  have c:decide (V.str i=V.str j)=decide (i=j):=by simp
  exact .inl ⟨rfl,by rw[c];exact k _ _ H f (hd.pushF (.b _))⟩
 .rename_i v w
  cases w with
  | cons _ _=>exact False.elim f
  | nil =>
  obtain⟨a,n,rfl,q,t⟩:=h.lst_inv;obtain⟨b,z,rfl,s,u⟩:=m.lst_inv;cases u;have c:v.isEmpty=n.isEmpty:=by cases t<;>rfl
  refine .inr ⟨a,b,n,rfl,rfl,nX.of q,nX.of s,?_⟩;rw[<- c];exact k _ _ H f (hd.pushF (.b _))
end
end L2
namespace Lw
open PySem L2
theorem C4 (h:g.length<100000):F1 (.k g) (.str x) d=some (.k (pZ g (Sum.inr x) d)):=by
 simp only[F1,aQ h];rfl
end Lw
namespace L2
open PySem PySem.Spec PyProof.Rows Lw
def Q3:RM:=λx d H Q=>∃ (a b:Ad) (c more:Aa (hH×V)),x = .ref a/\d=[.ref b]/\a≠b/\H a=some (.k c)/\Rd H b (.k more)/\c.length+more.length<=1000/\Q .e (upd H a (.k (uI c more)))
section
variable {X:Cx}{K:nH}
theorem Rh:Cj X "dict.update" Q3:=by
 intro n s g H x W v V Q I G E h;obtain⟨a,b,c,more,rfl,rfl,ne,m,B,P,q⟩:=h;cases G;obtain⟨u,rfl,D⟩:=wL E;cases D;obtain⟨Y,L,i,t,k⟩:=C7 I.hok m;obtain⟨Z,M,f,y,z⟩:=uE I.hok B;have R:c.length=i.length:=gU t;have S:more.length=f.length:=gU y;have d:i.length+f.length<=sizeLine:=bS (show _<=1000 by omega) (by decide);refine kN F.slot_dict_update k.typeIs F.entry_dict_update (F.args_dict_update_2 _ _) (meets_dict_update (qJ X.prog X.w) a b ne M) ⟨i,f,k,z,d,λA d1 _ N=>?_⟩;have O:(uI c more).length<=sizeLine:=by
  have:=Hk more c;exact bS (show (uI c more).length<=1000 by omega) (by decide)
 have there:∃ o,A.get? a=some o:=let ⟨o,_,_,e,_⟩:=d1;⟨o,e⟩;exact⟨.e,_,Ds I (by rw[m];exact True.intro) N there (Bh O L (y.merge t) d1),rfl,q⟩
def NC:OW:=λc ds d=>match c,ds with
 | .k a,[.k b]=>a.length+b.length<=1000/\d .e (.k (pR a b))
 | _,_=>False
theorem Rn:Dv K Q3 NC:=by
 intro A H a c ds G L Q w E rd f k;cases c<;>first | exact False.elim f | skip
 cases rd with
 | nil=>exact False.elim f
 | cons B rd =>
 rename_i d _ _ _
 cases d<;>first | exact False.elim f | skip
 cases rd with
 | cons _ _=>exact False.elim f
 | nil =>
 .obtain⟨i,h,e,r⟩:=E
  .obtain⟨b,m,rfl,s,q,n,D⟩:=B.dK_inv;have u:=cA List.length e;have v:=cA List.length n;simp only[aA] at u v;refine⟨a,b,i,m,rfl,rfl,λz=>w (z▸s),h,q,by have:=f.1;omega,k _ _ _ _ f.2 .e λF t=>?_⟩;obtain⟨x,y⟩:=G8 n D e r;exact⟨_,oO,x,y.mono t⟩
theorem Ob:∀ g:Aa (Af×Int),Reps K A H ((g.map λc=>((Sum.inr c.1:hH),D.int c.2)).map (·.2)) ((g.map λc=>((Sum.inr c.1:hH),V.int c.2)).map (·.2))
 | []=>.nil
 | _::g=>.cons (.int _) (Ob g)
theorem Vo:∀ g:Aa Af,Reps K A H (g.map D.str) (g.map V.str)
 | []=>.nil
 | x::g=>.cons (.str x) (Vo g)
end
end L2
namespace PySem
open PyProof.Rows L2
section
theorem Wt (calm:A.handled=none) (l:∀ g e,(∀ b o,s.heap.get? b=some o->g.get? b=some o)->(∃ o,g.get? e=some o/\o.cls = .type "StopIteration")->E (.ref e) { s with heap:=g }) :
  wpAny (model j w) A (do raiseNew (<- newExc (.type "StopIteration") [])) Q E s:=by
 have c:firstArgMember (.type "StopIteration") []=pure Value.none:=by first | rfl | (simp only[firstArgMember];rfl)
 have made:wpAny (model j w) A (newExc (.type "StopIteration") []) (λv d=>∃ e g,v = .ref e/\d={ s with heap:=g }/\(∀ b o,s.heap.get? b=some o->g.get? b=some o)/\∃ o,g.get? e=some o/\o.cls = .type "StopIteration") E s:=by
  unfold newExc newTuple;refine aB (hU ?_ (by size_fits));refine aB (iD c ?_);exact hU ⟨_,_,rfl,rfl,λb o z=>aD _ (aD _ z),_,bF _ rfl,rfl⟩ (by size_fits)
 refine aB (cZ made (λv d a=>?_) λ_ _ z=>z);obtain⟨e,g,h,f,k,t⟩:=a;subst h f;unfold raiseNew;refine aB (wpAny_handled ?_);rw[calm];exact aB (aF (wpAny_throw (l g e k t)))
end
structure RawD (h:Heap) (d:Addr) (o:Obj) (es:Array DictEntry) (ep:Nat):Prop where
 low:(d == sysModules)=false
 get:h.get? d=some o
 ex:o.ExactDict
 dat:o.data = .dict es ep
section
variable {s:Ae}
theorem RawD.ty (r:RawD s.heap d o j g):s.TypeIs (.ref d) "dict" := ⟨o,r.get,r.ex.1⟩
theorem X0 (r:RawD s.heap d o l j) (q:Q (.ref s.heap.objs.size) { s with heap:=s.heap.push { cls:=.type "dict_keyiterator",data:=.fields #[.ref d,.int 0 0,.int l.size 0,.int j 0] } }) :
  wpAny (model g w) A (pyIter (.ref d)) Q E s:=by
 have fresh:∀ h:Ag,h=s.heap.push { cls:=.type "dict_keyiterator",data:=.fields #[.ref d,rawInt 0,rawInt l.size,rawInt j] }->Shared.TypeIs { s with heap:=h } (.ref s.heap.objs.size) "dict_keyiterator" := λh e=>by
  subst e;exact⟨_,bF _ rfl,rfl⟩
 have body:wpAny (model g w) A.in1 (Builtin.«dict.__iter__» ⟨[.ref d],[]⟩) (λr c=>r = .done (.ret (.ref s.heap.objs.size))/\c={ s with heap:=s.heap.push { cls:=.type "dict_keyiterator",data:=.fields #[.ref d,rawInt 0,rawInt l.size,rawInt j] } }) E s:=by
  have self:wpAny (model g w) A.in1 (Builtin.Dict.dictSlotNone "__iter__" ⟨[.ref d],[]⟩) (λv c=>v = .ref d/\c=s) E s:=aB (kZ r.ty (aF ⟨rfl,rfl⟩));refine aB (cZ self (λv c a=>?_) λ_ _ z=>z);obtain⟨f,i⟩:=a;subst f i;have b:Builtin.Dict.showsAll d=pure ():=by unfold Builtin.Dict.showsAll;simp[r.low]
  refine aB (iD (show Builtin.Dict.addrOf (.ref d)=pure d from rfl) (aB (iD b ?_)));exact aB (iN r.get r.dat (aB (jJ r.get r.dat (aB (hU (aF ⟨rfl,rfl⟩))))))
 refine wpAny_pyIter_slot r.ty F.slot_dict_iter (eC F.slot_dict_iter r.ty F.entry_dict_iter (cZ body (λv c a=>?_) λ_ _ z=>z) (F.args_dict_iter_1 _));obtain⟨f,i⟩:=a;subst f i;refine⟨_,rfl,"dict_keyiterator",_,fresh _ rfl,fZ.lookup,?_⟩;exact q
theorem CK (r:RawD s.heap d o j p) (I:s.heap.IsKeyIter g d i j.size p) (J:i<j.size) (q:∀ C,C.IsKeyIter g d (i+1) j.size p->Heap.SameBut g s.heap C->Q (some j[i].key) { s with heap:=C }) :
  wpAny (model l w) A (pyNext (.ref g)) Q E s:=by
 obtain⟨u,f,m,h⟩:=id I;have ty:s.TypeIs (.ref g) "dict_keyiterator" := ⟨u,f,m⟩;have plain:Builtin.Dict_items.ownsTuple "dict_keyiterator" = false:=by decide
 have c:∀ {E:Ac->Ae->Prop} {b:Ae} {k:Nat->Ae->Prop},b.TypeIs (.ref g) "dict_keyiterator" -> k 0 b->wpAny (model l w) A.in1 (do return if Builtin.Dict_items.ownsTuple (<- typeNameOfWhole (.ref g)) then 2 else 0) k E b:=λt z =>
  aB (wpAny_typeNameOfWhole_keyiter t (by rw[plain];exact aF z))
 let e:=s.heap.update g (Obj.mapFields (·.setIfInBounds 1 (rawInt ((i:Int)+1))));have on:e.IsKeyIter g d (i+1) j.size p:=by
  refine⟨_,cK _ f (gP (fH h _)),?_,?_⟩
  .rw[Obj.cls_mapFields];exact m
  .rw[fH h];simp[rawInt]
 have body:wpAny (model l w) A.in1 (Builtin.«dict_keyiterator.__next__» ⟨[.ref g],[]⟩) (λx b=>x = .done (.ret j[i].key)/\b={ s with heap:=e }) (λ_ _=>False) s:=by
  refine aB (aF ?_);refine aB (aB (c ty ?_));refine aB (mM f h ?_);have a:¬ ((Value.ref d == Value.none)=true):=bN;show wpAny _ _ (if (Value.ref d == Value.none)=true then _ else _) _ _ s;rw[aG a];refine aB (aF (aB (iN r.get r.dat ?_)));rw[aG (by simp)];refine aB (aF (aB (jJ r.get r.dat ?_)));rw[aG (by simp)];refine aF ?_;have row:(if (i:Int)<0 then none else j[(i:Int).toNat]?)=some j[i]:=by
   rw[aG (by omega),dM,cG J]
  dsimp only;rw[row];refine aB (c ty ?_);refine aB (wpAny_isOneOf_keyiter ty ?_);change wpAny _ _ (setField (.ref g) 1 (rawInt ((i:Int)+1)) >>= _) _ _ s;refine aB (kO f h (by simp) ?_);refine aB (cP (aB (wpAny_isOneOf_keyiter (s:={ s with heap:=e }) on.typeIs ?_)));exact aF (aF ⟨rfl,rfl⟩)
 unfold pyNext;refine aB (gH (gF (name:=Str.ofString "__next__") ty fZ (eC fZ ty F.entry_dict_keyiterator_next (cZ body (λx b ⟨n,v⟩=>?_) λ_ _ z=>z.elim) (F.args_dict_keyiterator_next_1 _))));subst n v;exact⟨_,rfl,aF (q e on (Heap.SameBut.update ..))⟩
theorem X1 (calm:A.handled=none) (r:RawD s.heap d o p C) (I:s.heap.IsKeyIter l d p.size p.size C) (q:∀ g,Heap.ExtBut l s.heap g->Q none { s with heap:=g }) :
  wpAny (model j w) A (pyNext (.ref l)) Q E s:=by
 obtain⟨u,h,M,m⟩:=id I;have ty:s.TypeIs (.ref l) "dict_keyiterator" := ⟨u,h,M⟩;have plain:Builtin.Dict_items.ownsTuple "dict_keyiterator" = false:=by decide
 have f:∀ {n:Ac->Ae->Prop} {c:Ae} {i:Nat->Ae->Prop},c.TypeIs (.ref l) "dict_keyiterator" -> i 0 c->wpAny (model j w) A.in1 (do return if Builtin.Dict_items.ownsTuple (<- typeNameOfWhole (.ref l)) then 2 else 0) i n c:=λt z =>
  aB (wpAny_typeNameOfWhole_keyiter t (by rw[plain];exact aF z))
 have body:wpAny (model j w) A.in1 (Builtin.«dict_keyiterator.__next__» ⟨[.ref l],[]⟩) (λ_ _=>False) (λv c=>∃ e g,v = .ref e/\c={ s with heap:=g }/\Heap.ExtBut l s.heap g/\∃ o,g.get? e=some o/\o.cls = .type "StopIteration") s:=by
  refine aB (aF ?_);refine aB (aB (f ty ?_));refine aB (mM h m ?_);have a:¬ ((Value.ref d == Value.none)=true):=bN;show wpAny _ _ (if (Value.ref d == Value.none)=true then _ else _) _ _ s;rw[aG a];refine aB (aF (aB (iN r.get r.dat ?_)));rw[aG (by simp)];refine aB (aF (aB (jJ r.get r.dat ?_)));rw[aG (by simp)];refine aF ?_;have row:(if ((p.size:Nat):Int)<0 then none else p[((p.size:Nat):Int).toNat]?)=none:=by
   rw[aG (by omega),dM,jG (bB _)]
  dsimp only;rw[row];refine aB (f ty (aB (kO h m (by simp) ?_)));exact Wt calm λg e k z=>⟨e,g,rfl,rfl,λx o L K=>k x o ((Heap.SameBut.update ..).extBut x o L K),z⟩
 unfold pyNext;refine aB (gH (gF (name:=Str.ofString "__next__") ty fZ (eC fZ ty F.entry_dict_keyiterator_next (cZ body (λ_ _ z=>z.elim) λv c ⟨e,g,y,B,D,o,G,H⟩=>?_) (F.args_dict_keyiterator_next_1 _))));subst y B;exact aB (iF (T := "StopIteration") (b:=true) ⟨o,G,H⟩ isSubtype_stop (aF (q g D)))
end
end PySem
namespace L2
open PySem PySem.Spec PyProof.Rows Lw
abbrev MK:=hH ⊕ Aa hH
def M6 (H:Hp):MK->V->Prop
 | .inl k,y=>y=kV k
 | .inr a,y=>∃ b,y = .ref b/\H b=some (.t (a.map kV))
def Rz (H:Hp):MK->Ac->Prop
 | .inl k,u=>nO (kV k) u
 | .inr a,u=>∃ b,u = .ref b/\H b=some (.t (a.map kV))
def sL:HO->Ab (Aa MK)
 | .T a=>some (a.map λp=>Sum.inr p.1)
 | .k a=>some (a.map λp=>Sum.inl p.1)
 | _=>none
def QM:HO->Bool
 | .T _=>true
 | .k _=>true
 | .frz _ (.T _)=>true
 | .frz _ (.k _)=>true
 | _=>false
structure Sw (H H':Hp) (a:Addr) (u:HO):Prop where
 out:∀ b,b≠a->H' b=H b
 k:(sL u).isSome=true
 l:Rd H a u
 r:Rd H' a u
section
theorem Sw.get (s:Sw H j a u) (h:H b=some g) (n:QM g=false:=by rfl):j b=some g:=by
 have ne:b≠a:=λz=>by
  subst z;have k:=s.k;rcases s.l with q | ⟨o,q⟩<;>rw[q] at h<;>cases h<;>cases u<;>first | (cases n;done) | (cases k;done)
 rw[s.out b ne];exact h
theorem Sw.rd (s:Sw H g a u) (j:(sL x).isSome=true) (h:Rd H b x):Rd g b x:=by
 by_cases e:b=a
 .subst e;have:x=u:=by
   have k:=s.k;rcases h with h | ⟨o,h⟩<;>rcases s.l with q | ⟨c,q⟩<;>rw[q] at h<;>cases h<;>first | rfl | (cases j;done) | (cases k;done)
  rw[this];exact s.r
 .rcases h with h | ⟨o,h⟩
  .exact .inl (by rw[s.out b e];exact h)
  .exact .inr ⟨o,by rw[s.out b e];exact h⟩
theorem Sw.sqF {K:nH}(s:Sw H g a u) (h:yE K H b j):yE K g b j:=by
 rcases h with⟨o,h⟩ | h
 .exact .inl ⟨o,s.get h⟩
 .exact .inr h
variable {K:nH}
theorem Rep.sw (s:Sw H j a u) (o:∀ b,A b->g b) (h:Rep K A H d v):Rep K g j d v :=
 Rep.rec (motive_1:=λd v _=>Rep K g j d v) (motive_2:=λds i _=>Reps K g j ds i) .e .b .int .str .r (λh _ r=>.t (s.get h) r) (λh _ r=>.con h r)
  (λf h _ r=>.l (o _ f) (s.get h) r) (λh _ r=>.c (s.sqF h) r) (λf h e _ r=>.k (o _ f) (s.rd rfl h) e r) (λf h e _ r=>.T (o _ f) (s.rd rfl h) e r) .nil (λ_ _ h r=>.cons h r) h
theorem Reps.sw (s:Sw H o a u) (p:∀ b,A b->l b) (h:Reps K A H ds j):Reps K l o ds j:=by
 induction ds generalizing j with
 | nil=>cases h;exact .nil
 | cons d ds c=>cases h with | cons g r=>exact .cons (g.sw s p) (c r)
theorem pX.sw (s:Sw H o a u) (g:∀ b,A b->j b) (ne:b≠a) (h:pX K A H b d):pX K j o b d:=by
 cases d with
 | l _=>obtain⟨c,h,r⟩:=h;exact⟨c,by rw[s.out b ne];exact h,r.sw s g⟩
 | k _=>obtain⟨c,h,e,r⟩:=h;exact⟨c,by rw[s.out b ne];exact h,e,r.sw s g⟩
 | T _=>obtain⟨c,h,e,r⟩:=h;exact⟨c,by rw[s.out b ne];exact h,e,r.sw s g⟩
 | _=>exact False.elim h
theorem uF.sw (s:Sw H l a u) (g:∀ b,A b->j b) (ne:∀ b,Bt (x,y)=some b->b≠a) (h:uF K A H x y):uF K j l x y:=by
 cases x with
 | n=>trivial
 | v d=>obtain⟨v,e,r⟩:=h;exact⟨v,e,r.sw s g⟩
 | o d=>obtain⟨b,e,r⟩:=h;subst e;exact⟨b,rfl,r.sw s g (ne b rfl)⟩
noncomputable def qB (B:Bs) (a:Ad) (o:Obj) (u:HO):Bs:=⟨B.dk,λb=>B.A0 b\/b=a,λb=>if b=a then some (.frz o u) else B.H0 b⟩
theorem DS.fz (h:DS K B L H) (s:Sw H g a u) (j:g a=some (.frz o u)) (al:Al B (lT L) a):DS K (qB B a o u) L g:=by
 refine⟨λb m e n=>?_,h.dk.keep λb c=>s.out b λz=>al.1 (z▸c),h.nd,λb c=>?_,λp d=>?_⟩
 .by_cases z:b=a
  .subst z;rw[show (qB B b o u).H0 b=some (.frz o u) from aQ rfl] at e;rw[j];exact e
  .rw[show (qB B a o u).H0 b=B.H0 b from aG z] at e;rw[s.out b z];exact h.fr b m e n
 .have z:b≠a:=λz=>al.2.1 (z▸c)
  rw[show (qB B a o u).H0 b=B.H0 b from aG z];exact h.new b c
 .refine (h.ok p d).sw s (λb ⟨f,i,k⟩=>⟨f,i,?_⟩) λb c z=>al.2.1 (uC.mpr ⟨p,d,z▸c⟩)
  by_cases z:b=a
  .exact .inl (.inr z)
  .refine k.elim (λq=>.inl (.inl q)) λq=>.inr ?_
   rw[show (qB B a o u).H0 b=B.H0 b from aG z];exact q
theorem DS.known (h:DS K (qB B a o u) L H) (g:a∉B.dk):H a=some (.frz o u):=h.fr a _ (aQ rfl) g
theorem DS.th (h:DS K (qB B a o u) L H) (s:Sw H j a u) (C:a∉B.dk) (l:∀ g,B.H0 a=some g->j a=some g) (r:B.A0 a\/B.H0 a=none):DS K B L j:=by
 have f:∀ b∈lT L,b≠a:=λb c z=>by
  have:=(h.new b c).1;rw[z,show (qB B a o u).H0 a=some (.frz o u) from aQ rfl] at this;cases this
 refine⟨λb g e n=>?_,h.dk.keep λb c=>s.out b λz=>C (z▸c),h.nd,λb c=>?_,λp d=>?_⟩
 .by_cases z:b=a
  .subst z;exact l g e
  .rw[s.out b z];exact h.fr b g (by rw[show (qB B a o u).H0 b=B.H0 b from aG z];exact e) n
 .have:=h.new b c;rw[show (qB B a o u).H0 b=B.H0 b from aG (f b c)] at this;exact this
 .refine (h.ok p d).sw s (λb ⟨i,k,m⟩=>⟨i,k,?_⟩) λb c z=>f b (uC.mpr ⟨p,d,c⟩) z
  by_cases z:b=a
  .rw[z];exact r
  .refine m.elim (λq=>.inl (q.resolve_right z)) λq=>.inr ?_
   rw[show (qB B a o u).H0 b=B.H0 b from aG z] at q;exact q
end
section
variable {X:Cx}
theorem Inv.swapped (I:Inv X j C H s) (sw:Sw H g a u) (r:∀ o u,X.H₀ a≠some (.frz o u)) (ok:pE X.prog X.w g s.heap a u->∀ v,g a=some v->pE X.prog X.w g s.heap a v):Inv X j C g s:=by
 have d:∀ b,H b=none->g b=none:=λb e=>by
  rw[sw.out b λz=>by subst z;rcases sw.l with q | ⟨o,q⟩<;>rw[q] at e<;>cases e];exact e
 have tup_at:∀ b h,H b=some (.t h)->g b=some (.t h):=λb h e=>sw.get e
 have f:∀ b y,H b=some (.o y)->g b=some (.o y):=λb h e=>sw.get e
 refine⟨I.ok,I.os,I.bare,⟨I.base.keep,I.base.slot,λb u e n x=>d b (I.base.free b u e n x),I.base.there,λb h e=>tup_at b h (I.base.tups b h e),λb i u e=>?_,λb m e=>?_⟩,I.loc,I.cell,d _ I.free,λx c e=>d c (I.freeC x c e),λp k=>?_,λb v e=>?_,I.len⟩
 .have ne:b≠a:=λz=>r i u (z▸e)
  rw[sw.out b ne];exact I.base.frzs b i u e
 .obtain⟨more,q⟩:=I.base.tbls b m e;exact⟨more,sw.get q⟩
 .obtain⟨A,B,D⟩:=I.pin p k;exact⟨A,d _ B,D⟩
 .by_cases z:b=a
  .subst z;have base:pE X.prog X.w H s.heap b u:=sw.l.ok I.hok;exact ok (base.stay (λ_ _ _ q=>q) (λc q=>f c _ q) tup_at) v e
  .rw[sw.out b z] at e;exact (I.hok b v e).stay (λ_ _ _ q=>q) (λc q=>f c _ q) tup_at
theorem Inv.no_frz (I:Inv X j p H s) (o:(sL u).isSome=true) (l:H a=some u):∀ g v,X.H₀ a≠some (.frz g v):=λg v e=>by
 have:=I.base.frzs a g v e;rw[l] at this;cases this;cases o
theorem Inv.frozen (I:Inv X g r H s) (l:(sL u).isSome=true) (j:H a=some u) (p:s.heap.get? a=some o):Inv X g r (upd H a (.frz o u)) s:=by
 refine I.swapped ⟨λb n=>nP n,l,.inl j,.inr ⟨o,oO⟩⟩ (I.no_frz l j) λq v e=>?_
 rw[oO] at e;cases e;exact⟨p,q⟩
theorem Inv.thawed (I:Inv X g r H s) (p:(sL u).isSome=true) (l:H a=some (.frz o u)) (j:∀ o u,X.H₀ a≠some (.frz o u)):Inv X g r (upd H a u) s:=by
 refine I.swapped ⟨λb n=>nP n,p,.inr ⟨o,l⟩,.inl oO⟩ j λq v e=>?_
 rw[oO] at e;cases e;exact q
end
theorem Sj {P:Ah}(g:(sL u).isSome=true) (ok:pE P w H h a u):∃ o,h.get? a=some o:=by
 cases u<;>first | (cases g;done) | (obtain⟨_,_,_,_,o,_,_,e,_⟩:=ok;exact⟨o,e⟩)
def zO (a:Ad) (o:Obj) (u:HO) (g:Aa MK):It :=
 ⟨λi H=>H a=some (.frz o u)/\i<g.length,λi H x b=>b=H/\∃ k,g[i]?=some k/\M6 H k x,λi H=>H a=some (.frz o u)/\i=g.length⟩
theorem G7 {F:l->o->Prop}:∀ {g:Aa l}{j:Aa o}{i:Nat}{a:l},Paired F g j->g[i]?=some a->∃ b,j[i]?=some b/\F a b
 | _,_,_,_,.nil,h=>by simp at h
 | _,_,0,_,.cons x r,h=>by simp at h;subst h;exact⟨_,by simp,x⟩
 | _,_,i+1,a,.cons x r,h=>by
  obtain⟨b,c,d⟩:=G7 (i:=i) r (by simpa using h);exact⟨b,by simpa using c,d⟩
theorem Zy (h:Rz H k u):∃ y,M6 H k y/\nO y u:=by
 rcases k with k | c
 .exact⟨kV k,rfl,h⟩
 .obtain⟨b,rfl,a⟩:=h;exact⟨.ref b,⟨b,rfl,a⟩,rfl⟩
theorem Ui (h:Aq k v=true):nO (kV k) v:=by
 rcases yO h with⟨i,t,rfl,rfl⟩ | ⟨x,t,rfl,rfl⟩
 .exact⟨t,rfl⟩
 .exact⟨t,rfl⟩
theorem Tq {P:Ah}:∀ {g:Aa DictEntry}{j:Aa (hH×Ac)},Pairs (qJ P w) g j->g.length=j.length/\∀ (i:Nat) e q,g[i]?=some e->j[i]?=some q->Aq q.1 e.key=true/\e.val=q.2:=by
 intro g;induction g with
 | nil=>intro j h;cases h;exact⟨rfl,λi e q h=>by cases h⟩
 | cons a g m =>
  intro j h;cases h with
  | cons d f k =>
   obtain⟨n,s⟩:=m k;refine⟨cA (·+1) n,λi e q b c=>?_⟩;cases i with
   | zero=>cases b;cases c;exact⟨d,f⟩
   | succ i=>exact s i e q b c
theorem Lx {P:Ah}(ok:pP P w H h) (l:sL u=some I) (C:H a=some (.frz o u)) :
  ∃ g p,RawD h a o g p/\g.size=I.length/\∀ (i:Nat) (j:i<g.size),∃ k,I[i]?=some k/\Rz H k g[i].key:=by
 have f:∀ {g:Array DictEntry} {i:Nat} {e:DictEntry} (j:i<g.size),g.toList[i]?=some e->g[i]=e:=λ{g i e} j h=>by
  rw[fX,cG j] at h;exact bV h
 cases u with
 | T b =>
  cases l;obtain⟨c,z,lo,K,r,E,g,p,d,m,n,s,_⟩:=(show pE P w H h a (.frz o (.T _)) from ok a _ C);rw[c] at d;cases d;have D:=gU r;have x:g.size=K.length:=by simpa using cA List.length s
  refine⟨g,p,⟨lo,c,m,n⟩,by rw[aA];omega,λi j=>?_⟩;obtain⟨q,t,y,F,L⟩:=G7 r (aH (show i<_ by omega));refine⟨_,by rw[bH,aH (show i<_ by omega)];rfl,?_⟩;rw[f j (by rw[s,bH,t];rfl)];exact⟨_,rfl,F⟩
 | k b =>
  cases l;obtain⟨c,z,lo,G,r,E,g,p,d,m,n,s,A,_⟩:=(show pE P w H h a (.frz o (.k b)) from ok a _ C);rw[c] at d;cases d;have D:b.length=G.length:=gU r;obtain⟨x,v⟩:=Tq A;rw[gM] at x;refine⟨g,p,⟨lo,c,m,n⟩,by rw[aA];omega,λi j=>?_⟩;have l:i<b.length:=by omega
  obtain⟨q,t,y,_⟩:=G7 r (aH l);obtain⟨B,_⟩:=v i g[i] q (by rw[fX,cG j]) t;refine⟨Sum.inl b[i].1,by rw[bH,aH l];rfl,?_⟩;show nO (kV b[i].1) g[i].key;rw[y];exact Ui B
 | _=>cases l
theorem Zx {P:Ah}{K:nH}(a j:Ad) (o:Obj) (p:sL u=some C):Turn P w K tg (zO a o u C) [j] j (λi h=>∃ g,(∃ l,o.data = .dict l g)/\h.IsKeyIter j a i C.length g) where
 mem:=by simp
 obj:=λi h st b n=>by
  have e:b=j:=by simpa using n
  subst e;obtain⟨_,_,o,e,c,d⟩:=st;exact⟨o,e,λv z=>by rw[d] at z;cases z⟩
 keep:=λi h A ⟨g,q,o,e,r⟩ k=>⟨g,q,o,k j (by simp) o e,r⟩
 item:=by
  intro X O hw N V i m s W H E I B st R;subst O hw N;obtain⟨g,⟨D,t⟩,st⟩:=st;obtain⟨Q,S⟩:=R;obtain⟨l,f,raw,sz,rows⟩:=Lx I.hok p Q;have:f=g:=by have:=raw.dat;rw[t] at this;cases this;rfl
  subst this;rw[<- sz] at st S;obtain⟨k,J,T⟩:=rows i S;obtain⟨y,U,k4⟩:=Zy T;obtain⟨F,f1,f2,G,L,M⟩:=B j (by simp);refine CK raw st S λA x sb=>?_
  have Y:Inv X m W H { s with heap:=A }:=I.turned (t':=s.toks) (λb o n e=>(sb.2 b n).trans e) F f1 G L M;rw[sz] at x;obtain⟨oi,e,c,d⟩:=id x;exact⟨_,rfl,Ef (s:={ s with heap:=A }) e c d (by decide) ⟨y,H,Y,k4,⟨rfl,k,J,U⟩,⟨f,⟨l,raw.dat⟩,x⟩,λb n=>(B b n).1⟩⟩
 done:=by
  intro X O hw N V i m s W H E I B st R;subst O hw N;obtain⟨g,⟨D,t⟩,st⟩:=st;obtain⟨Q,rfl⟩:=R;obtain⟨l,f,raw,sz,rows⟩:=Lx I.hok p Q;have:f=g:=by have:=raw.dat;rw[t] at this;cases this;rfl
  subst this;rw[<- sz] at st;obtain⟨F,f1,f2,G,L,M⟩:=B j (by simp);exact X1 (I.ok.hd V) raw st λA Z=>⟨rfl,I.turned (t':=s.toks) (λb o n e=>Z b o n e) F f1 G L M⟩
 self:=λ_ _ _ _ _ ⟨_,_,st⟩ h=>wpAny_pyIter_keyiter st h
noncomputable def B3:hH->D
 | .inl i=>.int i
 | .inr x=>.str x
theorem M3 {K:nH}:∀ k:Aa hH,Reps K A H (k.map B3) (k.map kV)
 | []=>.nil
 | .inl i::k=>.cons (.int i) (M3 k)
 | .inr x::k=>.cons (.str x) (M3 k)
def Mm (g:Aa (Aa hH×D)):Aa D:=g.map λp=>.t (p.1.map B3)
def yR:MK->D
 | .inl k=>B3 k
 | .inr a=>.t (a.map B3)
theorem KR {K:nH}:∀ {k:MK}{y:V},M6 H k y->Rep K A H (yR k) y
 | .inl (.inl i),_,rfl=>.int i
 | .inl (.inr x),_,rfl=>.str x
 | .inr c,_,⟨b,rfl,a⟩=>.t a (M3 c)
def wD (g:Aa (hH×D)):Aa D:=g.map λp=>B3 p.1
def J6:D->Ab (Aa D)
 | .T a=>some (Mm a)
 | .k a=>some (wD a)
 | _=>none
structure YS (K:nH) (J:It) (ds:List D) (S:Hp->Prop):Prop where
 go:∀ i H,i<ds.length->S H->J.go i H
 yld:∀ i H x H',i<ds.length->S H->J.yld i H x H'->∃ d,ds[i]?=some d/\H'=H/\∀ A,Rep K A H d x
 stop:∀ i H,i=ds.length->S H->J.stop i H
def K0 (g:oG):xY:=λb e c=>g b e λr a=>match r with
 | .v d=>match J6 d with
  | some ds=>c ds a
  | none=>False
 | _=>False
def P7 (X:Cx) (g:TE):TI:=λe H R=>g e H λx b=>∃ a u c,sL u=some c/\x = .ref a/\((b a=some u/\∀ o,(∀ d u,X.H₀ a≠some (.frz d u))->R (zO a o u c) (upd b a (.frz o u)))\/∃ o,b a=some (.frz o u)/\R (zO a o u c) b)
section
variable {X:Cx}
theorem Q8 (g:PE X l j):PI X p l (P7 X j):=by
 intro c s z H R I h;refine nL (g c s z H _ I h) λv i w=>?_
 obtain⟨x,K,k,G,a,u,y,n,e,alt⟩:=w;subst e;cases G;have t:(sL u).isSome=true:=by rw[n];rfl
 obtain⟨o,f,m,d,q⟩:∃ o f,Inv X c z f i/\f a=some (.frz o u)/\R (zO a o u y) f:=by
  rcases alt with⟨d,q⟩ | ⟨o,d,q⟩
  .obtain⟨o,F⟩:=Sj t (k.hok a _ d);exact⟨o,_,k.frozen t d F,oO,q o (k.no_frz t d)⟩
  .exact⟨o,_,k,d,q⟩
 obtain⟨B,A,raw,sz,_⟩:=Lx m.hok n d;have D:∀ b∈[i.heap.objs.size],uT X c f b:=λb E=>by
  have e:b=i.heap.objs.size:=by simpa using E
  subst e;exact m.fpOk (bB _) (m.hok.fresh (bB _))
 refine X0 raw ⟨i.heap.objs.size,[i.heap.objs.size],_,zO a o u y,f,rfl,m.kept (t':=i.toks) λb L q=>aD _ q,Zx a _ o n,⟨A,⟨B,raw.dat⟩,?_⟩,D,q⟩;exact⟨_,bF _ rfl,rfl,by rw[sz];rfl⟩
def thawQ (X:Cx) (Q:Hp->Prop) (H:Hp):Prop:=Q H\/∃ a o u,(sL u).isSome=true/\H a=some (.frz o u)/\(∀ b u,X.H₀ a≠some (.frz b u))/\Q (upd H a u)
theorem Inv.thawQ (I:Inv X g l H s) (h:L2.thawQ X Q H):∃ j,Inv X g l j s/\Q j:=by
 rcases h with h | ⟨a,o,u,d,c,b,h⟩
 .exact⟨H,I,h⟩
 .exact⟨_,I.thawed d c b,h⟩
theorem Wq (h:PE X e t):PE X e (λg H Q=>t g H λv=>thawQ X (Q v)):=λa s g H Q I q=>by
 refine nL (h a s g H _ I q) λv u b=>?_
 obtain⟨x,n,d,m,i⟩:=b;obtain⟨c,f,k⟩:=d.thawQ i;exact⟨x,c,f,m,k⟩
def Ends.thawQ (X:Cx) (D:Ends):Ends where
 nx:=λa=>L2.thawQ X (D.nx a)
 rt:=λv=>L2.thawQ X (D.rt v)
 bk:=λa=>L2.thawQ X (D.bk a)
 ct:=λa=>L2.thawQ X (D.ct a)
theorem Yo {st:Stmt}(h:PS X st t):PS X st (λD g H=>t (D.thawQ X) g H):=λi s g H D I q=>by
 refine nL (h i s g H _ I q) λf n q=>?_
 cases f with
 | next=>obtain⟨a,k,b,d⟩:=q;obtain⟨m,c,e⟩:=b.thawQ d;exact⟨a,_,c,e⟩
 | brk=>obtain⟨a,k,b,d⟩:=q;obtain⟨m,c,e⟩:=b.thawQ d;exact⟨a,_,c,e⟩
 | cont=>obtain⟨a,k,b,d⟩:=q;obtain⟨m,c,e⟩:=b.thawQ d;exact⟨a,_,c,e⟩
 | ret u=>obtain⟨v,a,k,b,r,d⟩:=q;obtain⟨m,c,e⟩:=b.thawQ d;exact⟨v,a,_,c,r,e⟩
theorem Ma {K:nH}:YS K (zO a o u ks) (ks.map yR) λH=>H a=some (.frz o u):=by
 refine⟨λi H b c=>⟨c,by rw[aA] at b;exact b⟩,?_,λi H b c=>⟨c,by rw[b,aA]⟩⟩;rintro i H x f b c ⟨rfl,k,d,e⟩;exact⟨yR k,by rw[bH,d];rfl,rfl,λA=>KR e⟩
theorem Sh {T:Aa Af}{j:Aa Nat}{g:vY}{tt:sW}{te:oG}{K:nH}(aa:j.Nodup){σ:St}{H1:Hp}{Q:VK}{B:Bs}{C:Aa Sl}{Tm:pN}{Φ:Sl->Aa Sl->Prop}{J:It}{ds:Aa L2.D}{S:Hp->Prop}{D:Ad}(l1:C.length=σ.length) (d1:DS K B (C.zip σ++Tm) H1) (Y:YS K J ds S)
  (hS:∀ D,H1 D=none->∀ p L H,DS K (oV B D p) L H->S H)
  (ac:∃ Pv:Nat->Aa L2.D->Aa Sl->Prop,Pv 0 [] (rA j C) /\ (∀ i d p I,ds[i]?=some d->I.length=j.length->Pv i p I->g d (List.replicate T.length Sl.n++I) λae=>tt B.dk ae λb ab=>if b=true then te B.dk ab λr af=>match sd r with
    | some c=>p.length<100000/\Pv (i+1) (p++[c]) (af.drop T.length)
    | none=>False
    else Pv (i+1) p (ab.drop T.length)) /\
   ∀ p I,I.length=j.length->Pv ds.length p I->Φ (.o (.l p)) (rP j I C))
  (k:∀ r U v H',U.length=σ.length->DS K B (U.zip σ++(r,some v)::Tm) H'->Φ r U->Q v H') (hD:H1 D=none):C5 T j J (dG K T.length g) (tE K tt) (dE K te) σ H1 Q D :=
 Ey aa l1 d1 (λi p q M H _ d=>⟨λa=>Y.go i H a (hS D hD _ _ _ d),λa=>Y.stop i H a (hS D hD _ _ _ d),λx f a y=>by obtain⟨h,e,rfl,m⟩:=Y.yld i H x f a (hS D hD _ _ _ d) y;exact⟨h,e,d.push (m _)⟩⟩) ac k hD
theorem DS.known2 {K:nH}(d:DS K B (L++(.v c,some v)::T) H) (p:J6 c=some r) :
  ∃ a u l,v = .ref a/\sL u=some l/\r=l.map yR/\a∉B.dk /\
   ((H a=some u/\∀ o,DS K (qB B a o u) (L++T) (upd H a (.frz o u))/\∀ j g,DS K (qB B a o u) j g->DS K B j (upd g a u)) \/ ∃ o,H a=some (.frz o u)/\DS K (qB B a o u) (L++T) H/\∀ j g,DS K (qB B a o u) j g->DS K B j g):=by
 have hd:=d.drop;have rep:=d.valAt;obtain⟨a,u,l,rfl,al,rd,y,q⟩:∃ a u l,v = .ref a/\Al B (lT (L++T)) a/\Rd H a u/\sL u=some l/\r=l.map yR:=by
  cases c with
  | T f =>
   cases p;obtain⟨a,x,rfl,al,rd,q,_⟩:=rep.dT_inv;refine⟨a,_,_,rfl,al,rd,rfl,?_⟩;have e:Mm f=(f.map (·.1)).map λk=>D.t (k.map B3):=by unfold Mm;rw[List.map_map];rfl
   rw[e,q,aU,aU];rfl
  | k f =>
   cases p;obtain⟨a,x,rfl,al,rd,q,_⟩:=rep.dK_inv;refine⟨a,_,_,rfl,al,rd,rfl,?_⟩;have e:wD f=(f.map (·.1)).map B3:=by unfold wD;rw[List.map_map];rfl
   rw[e,q,aU,aU];rfl
  | _=>cases p
 have h:=al.1;have w:(sL u).isSome=true:=by rw[y];rfl
 refine⟨a,u,l,rfl,y,q,h,?_⟩;rcases rd with i | ⟨s,i⟩
 .refine .inl ⟨i,λo=>⟨hd.fz (o:=o) ⟨λb n=>nP n,w,.inl i,.inr ⟨o,oO⟩⟩ oO al,λj g m=>m.th ⟨λb n=>nP n,w,.inr ⟨o,m.known h⟩,.inl oO⟩ h (λu e=>?_) al.2.2⟩⟩;have:=hd.fr a u e h;rw[i] at this;rw[oO];exact this
 .refine .inr ⟨s,i,hd.fz ⟨λ_ _=>rfl,w,.inr ⟨s,i⟩,.inr ⟨s,i⟩⟩ i al,λj g m=>m.th ⟨λ_ _=>rfl,w,.inr ⟨s,m.known h⟩,.inr ⟨s,m.known h⟩⟩ h (λu e=>?_) al.2.2⟩;have:=hd.fr a u e h;rw[i] at this;rw[m.known h];exact this
theorem Mi {K:nH}{B:Bs}{a D:Ad}{o:Obj}{u:HO}{p:Aa V}{L:pN}{H g:Hp}(r:a∉B.dk) (j:g a=some (.frz o u)) (C:g D=none) (d:DS K (oV (qB B a o u) D p) L H):H a=some (.frz o u):=by
 have ne:a≠D:=λz=>by rw[z,C] at j;cases j
 refine d.fr a _ ?_ r;show (if a=D then some (.l p) else if a=a then some (HO.frz o u) else B.H0 a)=_;rw[aG ne,aQ rfl]
theorem CZ (l:j.Nodup) (h:dE X.K (zH T.length j (K0 C) g I p) J H Q) :
  Co T j (P7 X (dE X.K C)) (dG X.K T.length g) (tE X.K I) (dE X.K p) J H λv=>thawQ X (Q v):=by
 obtain⟨B,N,Tm,S,A,hd,F,k⟩:=h;refine⟨B,N,Tm,_,A,hd,F,λr O v P t d1 b=>?_⟩;cases r<;>first | exact False.elim b | skip
 rename_i d
 dsimp only at b;cases n:J6 d with
 | none=>rw[n] at b;exact False.elim b
 | some R =>
  rw[n] at b;obtain⟨a,u,G,rfl,s,rfl,m,alt⟩:=d1.known2 n;have E:(sL u).isSome=true:=by rw[s];rfl
  refine⟨a,u,G,s,rfl,?_⟩;rcases alt with⟨f,y⟩ | ⟨o,f,d2,back⟩
  .refine .inl ⟨f,λo x D c=>?_⟩;obtain⟨d2,back⟩:=y o;exact Sh (B:=qB B a o u) l t d2 Ma (λD c M L H d=>Mi m oO c d) b (λr e v w q i z=>.inr ⟨a,o,u,E,i.known m,x,k r e v _ q (back _ _ i) z⟩) c
  .refine .inr ⟨o,f,λD c=>?_⟩;exact Sh (B:=qB B a o u) l t d2 Ma (λD c M L H d=>Mi m f c d) b (λr e v w q i z=>.inl (k r e v _ q (back _ _ i) z)) c
theorem PZ {iter:Expr}(T o:Aa Af) (r:Aa Nat) (hc:X.calm=true) (hi:PD X iter ti)
  (hk:j.kind = .function) (ho:Bv X.N X.env.kindOf j T o r=true)
  (hg:∀ p l C I J,wE (rX X (T++o) j I C p l J) T.length tg g)
  (ht:∀ p l C I J,wB (rX X (T++o) j I C p l J) ab (tE X.K tt))
  (he:∀ p l C I J,PD (rX X (T++o) j I C p l J) aa te)
  (U:r.Nodup:=by decide) (hs:∀ x,foldedSetIterable iter X.env x=pure x:=by intro _;rfl):PD X (.ListComp aa [⟨tg,iter,ab,0⟩] j pos) (zH T.length r (K0 ti) g tt te) :=
 (Wq (E8 T o r hc (Q8 hi) hk ho hg ht he hs)).mono λ_ _ _ h=>CZ U h
theorem Ke {iter:Expr}(hp:PassesOwn (model X.prog X.w) X.A X.env X.xe) (j:X.calm=true) (hi:PD X iter ti) (hg:wE X m tg g) (hb:sB X body tb)
  (C:∀ x,foldedSetIterable iter X.env x=pure x:=by intro _;rfl):vR X (.For tg iter body [] pos) (Io (K0 ti) g tb) :=
 (Yo (Hu hp j (Q8 hi) hg hb C)).mono λDn l H ab=>ab.elim λB ρ T De hl hd ht I=>by
  refine⟨B,ρ,T,_,hl,hd,ht,λr Z v H1 l1 d1 P=>?_⟩;cases r<;>first | exact False.elim P | skip
  rename_i c
  dsimp only at P;cases j:J6 c with
  | none=>rw[j] at P;exact False.elim P
  | some kd =>
   rw[j] at P;obtain⟨Pv,p0,step,fin⟩:=P;obtain⟨a,u,E,rfl,Q,rfl,dn,alt⟩:=d1.known2 j;have C:(sL u).isSome=true:=by rw[Q];rfl
   have Y:∀ o,_:=λo=>Ma (K:=X.K) (a:=a) (o:=o) (u:=u) (ks:=E)
   have G:∀ (o:Obj) (q:Ends) (F:Hp),DS X.K (qB B a o u) (Z.zip l++T) F->(∀ (e:Aa Sl) (b:St) (f:Hp),e.length=b.length->b.length=l.length->DS X.K (qB B a o u) (e.zip b++T) f->De.nx e->q.nx b f) ->
     (∀ (r:Sl) (v:V) (e:Aa Sl) (b:St) (f:Hp),e.length=b.length->DS X.K (qB B a o u) (e.zip b++(r,some v)::T) f->De.rt r->q.rt v f) ->
     ∃ W:Nat->Nat->St->Hp->Prop,(∃ m,W 0 m l F)/\∀ i n b f,W i n b f->((zO a o u E).stop i f/\q.nx b f)\/((zO a o u E).go i f/\∃ N:St->Hp->Prop,(∀ L t,N L t->∃ m',m'<n/\W (i+1) m' L t)/\∀ x t,(zO a o u E).yld i f x t->dG X.K m g x b t λk H3=>dS X.K tb { nx:=N,ct:=N,bk:=q.nx,rt:=q.rt } k H3):=λo q F d0 S ac=>by
    refine⟨λi m b f=>m=(E.map yR).length-i/\i<=(E.map yR).length/\∃ e,e.length=b.length/\b.length=l.length/\DS X.K (qB B a o u) (e.zip b++T) f/\Pv i e,⟨_,rfl,gA _,Z,l1,rfl,d0,p0⟩,?_⟩;rintro i m b f ⟨rfl,ae,e,m1,m2,U,pv⟩;have Q:=U.known dn;by_cases M:i<(E.map yR).length
    .refine .inr ⟨(Y o).go i f M Q,λk F=>∃ h,h.length=k.length/\k.length=l.length/\DS X.K (qB B a o u) (h.zip k++T) F/\Pv (i+1) h,λk F ⟨h,q1,q2,q3,q4⟩=>⟨_,(by omega:(E.map yR).length-(i+1)<_),rfl,M,h,q1,q2,q3,q4⟩,λx F y=>?_⟩;obtain⟨d,aa,rfl,rx⟩:=(Y o).yld i f x F M Q y;refine⟨qB B a o u,e,T,d,_,m1,U.push (rx _),step i d e aa pv,λh k H3 n1 n2 _ d3 q3=>⟨qB B a o u,h,T,_,n1,d3,q3,?_,?_⟩⟩
     .intro D O J s p R;exact⟨λz=>⟨D,s,by omega,R,z⟩,λz=>S D O J s (by omega) R z,λz=>⟨D,s,by omega,R,z⟩⟩
     .exact λr v D O J s R z=>ac r v D O J s R z
    .have ei:i=(E.map yR).length:=by omega
     subst ei;exact .inl ⟨(Y o).stop _ f rfl Q,S e b f m1 m2 U (fin e pv)⟩
   refine⟨a,u,E,Q,rfl,?_⟩;rcases alt with⟨ha,hh⟩ | ⟨o,ha,d2,back⟩
   .refine .inl ⟨ha,λo h0=>?_⟩;obtain⟨d2,back⟩:=hh o;exact G o _ _ d2 (λe b f s p d z=>.inr ⟨a,o,u,C,d.known dn,h0,(I.1 e b _ s p (back _ _ d)).1 z⟩) λr v e b f s d z=>.inr ⟨a,o,u,C,d.known dn,h0,I.2 r v e b _ s (back _ _ d) z⟩
   .exact .inr ⟨o,ha,G o _ _ d2 (λe b f s p d z=>.inl ((I.1 e b _ s p (back _ _ d)).1 z)) λr v e b f s d z=>.inl (I.2 r v e b _ s (back _ _ d) z)⟩
end
section
variable {X:Cx}{K:nH}
def vo (i:Nat):oG:=λ_ a b=>match a[i]? with
 | some (.o d)=>b (.o d) (a.set i .n)
 | _=>False
theorem K4 (i:Nat) (h:PE X (.Name x pos) (rC i)):PD X (.Name x pos) (vo i):=h.mono λG H Q q=>q.elim λB E T F m hd c k=>by
 unfold vo at c;cases f:E[i]? with
 | none=>rw[f] at c;exact False.elim c
 | some s =>
 rw[f] at c;cases s<;>first | exact False.elim c | skip
 .rename_i d
  obtain⟨a,y,b,t,_,z,e⟩:=yN m f;have u:=e .n y;rw[Dp t] at u;obtain⟨v,w,_⟩:=hd.peek m (d:=d) (i:=i) (by unfold at?;rw[f];rfl);rw[t] at w;cases w;refine⟨v,t,k _ _ v H (by rw[cB];exact m) ?_ c⟩;rw[z,bM,cT] at hd;rw[u,bM,cT];have d1:DS X.K B ((.o d,some v)::(a++(b++T))) H:=hd.perm jA;have d2:DS X.K B (((.o d,some v)::a)++(Sl.n,some v)::(b++T)) H:=DS.pushN (L1:=(.o d,some v)::a) (L2:=b++T) d1 (some v);refine d2.perm ?_;have A:(((Sl.o d,some v)::a)++(Sl.n,some v)::(b++T)).Perm ((Sl.o d,some v)::(a++(Sl.n,some v)::b++T)):=by simp
  refine A.trans ?_;have D:((Sl.o d,some v)::(a++(Sl.n,some v)::b++T)).Perm ((a++(Sl.n,some v)::b)++(Sl.o d,some v)::T):=jA.symm;refine D.trans (by simp)
end
section
variable {X:Cx}
def DG (l g:oG):oG:=λc i h=>l c i λe a=>g c a λf b=>match sd e,sd f with
 | some k,some d=>∃ j,vI k=some j/\h (.o (.k [(j,d)])) b
 | _,_=>False
theorem P4 (g:PD X r J) (l:PD X C I):PD X (.Dict [some r] [C] pos) (DG J I) :=
 (Sb (Cv g l Sn) rfl rfl (by simp) (show 1<=15 by decide)).mono λO H Q h=>h.elim λB u T W A hd E k=>by
  intro p D;have f:DS X.K B (u.zip O++(.o (.k []),some (.ref p))::T) (upd H p (.k [])):=DS.mid (DS.dKF hd D rfl .nil);refine⟨B,u,(.o (.k []),some (.ref p))::T,_,A,f,E,λs i x R G d1 w=>⟨B,i,(s,some x)::(.o (.k []),some (.ref p))::T,_,G,d1,w,λN m y S L d2 b=>?_⟩⟩;cases c:sd s with
  | none=>rw[c] at b;exact False.elim b
  | some V =>
   cases e:sd N with
   | none=>rw[c,e] at b;exact False.elim b
   | some d =>
    rw[c,e] at b;obtain⟨j,z,b⟩:=b;obtain⟨n,M,q⟩:=d2.two c e;obtain⟨a,v,t,l,g,_⟩:=n.ownAt;cases v;have:t=[]:=by
     cases t with
     | nil=>rfl
     | cons _ _=>cases g
    subst this;obtain rfl:=F4 z M.peek;refine⟨l,[(j,y)],rfl,(show 1<=15 by decide),k _ m _ _ L ?_ b⟩;rw[sD] at q;exact n.write λP F=>⟨[(j,y)],oO,rfl,.cons (q.mono F) .nil⟩
end
end L2
namespace PySem
open PyProof.Rows L2
section
theorem Yw (r:RawD s.heap d o l j) (q:Q (.ref s.heap.objs.size) { s with heap:=s.heap.push { cls:=.type "dict_items",data:=.fields #[.ref d] } }) :
  wpAny (model g w) A (call (.builtin "dict.items") [.ref d]) Q E s:=by
 have a:Builtin.Dict.showsAll d=pure ():=by unfold Builtin.Dict.showsAll;simp[r.low]
 have body:wpAny (model g w) A.in1 (Builtin.«dict.items» ⟨[.ref d],[]⟩) (λx b=>x = .done (.ret (.ref s.heap.objs.size))/\b={ s with heap:=s.heap.push { cls:=.type "dict_items",data:=.fields #[.ref d] } }) E s:=by
  have self:wpAny (model g w) A.in1 (Builtin.Dict.noArgs "items" ⟨[.ref d],[]⟩) (λv b=>v=d/\b=s) E s:=by
   unfold Builtin.Dict.noArgs;refine aB (kZ r.ty (aB (iD (show Builtin.Dict.nameIsSure "items" ⟨[.ref d],[]⟩ false=pure () from rfl) ?_)));refine aB (iD (show selfOnly _ ⟨[.ref d],[]⟩=pure (.ref d) from rfl) ?_);exact iD (show Builtin.Dict.addrOf (.ref d)=pure d from rfl) ⟨rfl,rfl⟩
  refine aB (cZ self (λv b f=>?_) λ_ _ z=>z);obtain⟨c,e⟩:=f;subst c e;refine aB (iD a ?_);exact aB (hU (aF ⟨rfl,rfl⟩))
 exact eC F.slot_dict_items r.ty F.entry_dict_items (cZ body (λv b ⟨c,e⟩=>by subst c e;exact⟨_,rfl,q⟩) λ_ _ z=>z) (F.args_dict_items_1 _)
theorem GJ (V:s.heap.IsItemsView v d) (r:RawD s.heap d o l j)
  (q:Q (.ref s.heap.objs.size) { s with heap:=s.heap.push { cls:=.type "dict_itemiterator",data:=.fields #[.none,.bool false,.ref d,.int 0 0,.int l.size 0,.int j 0,.none,.none] } }) :
  wpAny (model g w) A (pyIter (.ref v)) Q E s:=by
 obtain⟨u,c,k,m⟩:=V;have ty:s.TypeIs (.ref v) "dict_items" := ⟨u,c,k⟩;have fresh:∀ h:Ag,h=s.heap.push { cls:=.type "dict_itemiterator",data:=.fields #[.none,.bool false,.ref d,.int 0 0,.int l.size 0,.int j 0,.none,.none] }->Shared.TypeIs { s with heap:=h } (.ref s.heap.objs.size) "dict_itemiterator" := λh e=>by
  subst e;exact⟨_,bF _ rfl,rfl⟩
 have body:wpAny (model g w) A.in1 (Builtin.«dict_items.__iter__» ⟨[.ref v],[]⟩) (λr b=>r = .done (.ret (.ref s.heap.objs.size))/\b={ s with heap:=s.heap.push { cls:=.type "dict_itemiterator",data:=.fields #[.none,.bool false,.ref d,.int 0 0,.int l.size 0,.int j 0,.none,.none] } }) E s:=by
  refine aB (aF ?_);refine aB (aB (eJ c m rfl (iD (show Builtin.Dict_items.addrOf (.ref d)=pure d from rfl) ?_)));refine aB (aB (iN r.get r.dat (aB (jJ r.get r.dat ?_))));exact hU (aF ⟨rfl,rfl⟩) (hd:=by show 8<=sizeLine+2;decide)
 refine wpAny_pyIter_slot ty F.slot_dict_items_iter (eC F.slot_dict_items_iter ty F.entry_dict_items_iter (cZ body (λv b a=>?_) λ_ _ z=>z) (F.args_dict_items_iter_1 _));obtain⟨f,i⟩:=a;subst f i;exact⟨_,rfl,"dict_itemiterator",_,fresh _ rfl,eK.lookup,q⟩
end
end PySem
namespace L2
open PySem PySem.Spec PyProof.Rows Lw
theorem JR (h:H a=some o):upd H a o=H:=by
 funext b
 by_cases e:b=a
 .subst e;rw[oO,h]
 .rw[nP e]
theorem zS (h:H a=none):pG H (upd H a o):=λb u e=>by rw[nP (pJ e h)];exact e
end L2
namespace Lw
open PySem L2
def vT (t:nQ):Aa (hH×V):=t.map λp=>(Sum.inr p.1,V.int p.2)
noncomputable def pV (t:nQ) (x:Af) (i:Int):nQ:=if x∈t.map (·.1) then t.map (λp=>if p.1=x then (p.1,i) else p) else t++[(x,i)]
theorem OP (t:nQ) (x:Af) (i:Int):sA (vT t) (Sum.inr x) (.int i)=vT (pV t x i):=by
 unfold sA pV;have e:((vT t).any λa=>decide (a.1=(Sum.inr x:hH)))=decide (x∈t.map (·.1)):=by
  rw[jI];simp only[vT,List.any_map,jB,mS,eT,aO,Sum.inr.injEq]
 rw[e];by_cases h:x∈t.map (·.1)
 .rw[aQ (bC h),aQ h];unfold vT;rw[aU,aU];refine eR λp _=>?_
  show (if (Sum.inr p.1:hH)=Sum.inr x then ((Sum.inr p.1:hH),V.int i) else (Sum.inr p.1,V.int p.2))=(Sum.inr (if p.1=x then (p.1,i) else p).1,V.int (if p.1=x then (p.1,i) else p).2);by_cases q:p.1=x
  .rw[aQ (by rw[q]),aQ q]
  .rw[aG (λz=>q (eI z)),aG q]
 .rw[aG (by simp[h]),aG h];unfold vT;rw[List.map_append];rfl
theorem Vc (t:nQ) (x:Af) (i:Int):pZ (hI t) (Sum.inr x) (.int i)=hI (pV t x i):=by
 unfold pZ pV;have e:((hI t).any λa=>decide (a.1=(Sum.inr x:hH)))=decide (x∈t.map (·.1)):=by
  rw[jI];simp only[hI,List.any_map,jB,mS,eT,aO,Sum.inr.injEq]
 rw[e];by_cases h:x∈t.map (·.1)
 .rw[aQ (bC h),aQ h];unfold hI;rw[aU,aU];refine eR λp _=>?_
  show (if (Sum.inr p.1:hH)=Sum.inr x then ((Sum.inr p.1:hH),D.int i) else (Sum.inr p.1,D.int p.2))=(Sum.inr (if p.1=x then (p.1,i) else p).1,D.int (if p.1=x then (p.1,i) else p).2);by_cases q:p.1=x
  .rw[aQ (by rw[q]),aQ q]
  .rw[aG (λz=>q (eI z)),aG q]
 .rw[aG (by simp[h]),aG h];unfold hI;rw[List.map_append];rfl
theorem Cf (t:nQ) (x:Af) (i:Int):(pV t x i).map (·.1)=if x∈t.map (·.1) then t.map (·.1) else t.map (·.1)++[x]:=by
 unfold pV;by_cases h:x∈t.map (·.1)
 .rw[aQ h,aQ h,aU];refine eR λp _=>?_
  show (if p.1=x then (p.1,i) else p).1=p.1;by_cases q:p.1=x
  .rw[aQ q]
  .rw[aG q]
 .rw[aG h,aG h,aT];rfl
theorem Dr (h:(t.map (·.1)).Nodup) (x:Af) (i:Int):((pV t x i).map (·.1)).Nodup:=by
 rw[Cf];by_cases q:x∈t.map (·.1)
 .rw[aQ q];exact h
 .rw[aG q];exact bW.mpr ⟨h,by simp,λa c b d z=>by rw[aJ.mp d] at z;exact q (z▸c)⟩
theorem Cn (t:nQ) (x:Af) (i:Int):(pV t x i).length<=t.length+1:=by
 unfold pV;by_cases q:x∈t.map (·.1)
 .rw[aQ q,aA];omega
 .rw[aG q,aE];simp
theorem NW (t u:nQ) (x:Af):look (t++u) x=if x∈t.map (·.1) then look t x else look u x:=by
 induction t with
 | nil=>rw[hV,aG (by simp)]
 | cons p t a =>
  rw[cT,wA,wA];by_cases e:p.1=x
  .rw[aQ e,aQ e,aQ (by rw[<- e];exact aI)]
  .rw[aG e,aG e,a,bD];by_cases q:x∈t.map (·.1)
   .rw[aQ q,aQ (aV _ q)]
   .rw[aG q,aG (λz=>(aM.mp z).elim (λz=>e z.symm) q)]
theorem QC (t:nQ) (x y:Af) (i:Int):look (pV t x i) y=if y=x then i else look t y:=by
 unfold pV;by_cases h:x∈t.map (·.1)
 .rw[aQ h];induction t with
  | nil=>simp at h
  | cons p t c =>
   rw[bD,wA,wA];by_cases e:p.1=x
   .rw[aQ e];by_cases q:p.1=y
    .rw[aQ q,aQ (by rw[<- q,e])]
    .rw[aG q];by_cases a:x∈t.map (·.1)
     .rw[c a,aG q]
     .have:t.map (λp=>if p.1=x then (p.1,i) else p)=t:=by
       conv=>rhs;rw[<- List.map_id t]
       exact eR λr d=>aG λz=>a (by rw[<- z];exact bQ (f:=λp:Af×Int=>p.1) d)
      rw[this,aG (λz=>q (by rw[e,z])),aG q]
   .rw[aG e];have a:x∈t.map (·.1):=(aM.mp h).resolve_left λz=>e z.symm
    by_cases q:p.1=y
    .rw[aQ q,aG (λz=>e (by rw[q,z])),aQ q]
    .rw[aG q,c a,aG q]
 .rw[aG h,NW];by_cases q:y=x
  .rw[aQ q,aG (by rw[q];exact h),wA,aQ q.symm]
  .rw[aG q];by_cases b:y∈t.map (·.1)
   .rw[aQ b]
   .rw[aG b,wA,aG (λz=>q z.symm),(sX t y).2 b |>.2];rfl
theorem Ue {K:nH}:∀ (t:nQ) (g:Aa (hH×V)),(hI t).map (·.1)=g.map (·.1)->Reps K A H ((hI t).map (·.2)) (g.map (·.2))->g=vT t:=λt=>by
 induction t with
 | nil =>
  intro g k r;cases g with
  | nil=>rfl
  | cons p q=>simp[hI] at k
 | cons p t d =>
  intro g k r;cases g with
  | nil=>simp[hI] at k
  | cons q g =>
   obtain⟨e,i⟩:=q;simp only[hI,bD,fY] at k r;cases r with
   | cons f h =>
    have a:=d g k.2 h;have b:=f.int_inv;have c:Sum.inr p.1=e:=k.1;subst a b c;rfl
theorem JF {K:nH}(h:Rep K A H (.k (hI t)) v):∃ a,v = .ref a/\A a/\Rd H a (.k (vT t)):=by
 obtain⟨a,b,rfl,c,e,k,r⟩:=h.dK_inv;exact⟨a,rfl,c,by rw[<- Ue t b k r];exact e⟩
theorem OV (t:nQ):(hI t).map (·.1)=(vT t).map (·.1):=by simp[hI,vT,mS]
theorem Uq {K:nH}:∀ t:nQ,Reps K A H ((hI t).map (·.2)) ((vT t).map (·.2))
 | []=>.nil
 | _::t=>.cons (.int _) (Uq t)
theorem Qg {K:nH}(h:H a=some (.k (vT t))):pX K A H a (.k (hI t)):=⟨vT t,h,OV t,Uq t⟩
theorem Df (g:(t.map (·.1)).Nodup) (h:p∈t):look t p.1=p.2:=by
 induction t with
 | nil=>cases h
 | cons q t a =>
  obtain⟨b,c⟩:=bP.mp g;rw[wA];rcases aM.mp h with z | z
  .subst z;rw[aQ rfl]
  .rw[aG (λe=>b (by show q.1∈t.map (·.1);rw[e];exact bQ (f:=λp:Af×Int=>p.1) z)),a c z]
theorem vN (g:Aa Af):Au (g.map D.str)=some (g.map V.str):=Pf (λ_=>rfl) g
theorem uU:∀ g:Aa Af,Cg (.str x) (g.map V.str)=decide (x∈g)
 | []=>by simp[Cg]
 | y::g=>by
  have a:=uU (x:=x) g;unfold Cg at a |-;rw[bD,iC,a];by_cases e:x=y
  .subst e;have:sC (V.str x) (V.str x)=true:=iZ x;simp[this]
  .have:sC (V.str y) (V.str x)=false:=by
    show (y == x)=false;exact eP.mpr λz=>e z.symm
   have:sC (V.str x) (V.str y)=false:=by
    show (x == y)=false;exact eP.mpr e
   simp[*]
theorem qL {p q:Prop}{c:Bool}(h:c=false) (g:q):if c=true then p else q:=by rw[aG (by rw[h];decide)];exact g
theorem qS {p q:Prop}{c:Bool}(h:c=true) (g:p):if c=true then p else q:=by rw[aQ h];exact g
theorem J4:(["output","name"]:Aa Af).Nodup:=by decide +kernel
theorem Om:(["name","carried"]:Aa Af).Nodup:=by decide +kernel
def nD (C:Cel) (g:Aa (Af×Af)):D:=.t [yU C,.t (g.map λp=>D.t [.str p.1,.str p.2])]
noncomputable def oZ (C:Cel) (g:Aa (Af×Af)):Aa Af:=C.ins.filter λx=>!decide (x∈g.map (·.2))
noncomputable def oR (C:Cel) (g:Aa (Af×Af)):Aa Af:=C.outs.filter λx=>!decide (x∈g.map (·.1))
def B2:RD:=λc ds b=>∃ C a,ds=[nD C a]/\a.length<=100/\b (.o (.l (a.map λp=>D.str p.2)))
def E9:RD:=λc ds b=>∃ C a,ds=[nD C a]/\a.length<=100/\C.ins.length<=100/\b (.o (.l ((oZ C a).map D.str)))
def M4:RD:=λc ds b=>∃ C a,ds=[nD C a]/\a.length<=100/\C.outs.length<=100/\b (.o (.l ((oR C a).map D.str)))
section
variable {P:Ah}{K:nH}
theorem pK {P:Aa Af}(a:j.kind = .function:=by rfl) (b:j.isCoroutine=false:=by rfl) (c:j.isGenerator=false:=by rfl) (d:N.Nodup:=by decide +kernel) (e:N.take P.length=P:=by rfl) (f:∀ x∈P,j.names.lookup x=some .local\/j.names.lookup x=some .cell:=by decide +kernel) (g:∀ y∈j.names,y.2 ≠ .free:=by decide +kernel):L2.FnScope N P j:=⟨a,b,c,d,e,f,g⟩
theorem Yk:FnScope ["row"] ["row"] (oC C6):=pK
theorem V4:FnScope ["row","carried"] ["row"] (oC Fo):=pK
theorem V6:FnScope ["row","carried"] ["row"] (oC Ex):=pK
theorem Wh:qX P w K g base 1 "carried_inputs" C6 ["row"] B2:=by
 refine rS Yk λf d A b s H E x ds F y u q=>?_
 obtain⟨C,c,rfl,z,a⟩:=q;refine⟨_,(oN (pT (qF ["output","name"] [] [] (oS (nI u 0 gD)) (λ_ _ _ _ _=>(rZ (n:=2) rfl (oX (nU 0 J4) (oX (nU 1 J4) rY)))) (λ_ _ _ _ _=>(eH 1))))),?_⟩;unfold xA;exact qH c (λp=>D.t [.str p.1,.str p.2]) (λp=>D.str p.2) _ (λG h=>⟨rfl,_,rfl,h⟩) (by omega) (λi p B v e k m=>⟨rfl,rfl,k,m⟩) a
theorem Uh (g:Kn P w K j base 1 "carried_inputs" C6 ["row"] B2):qX P w K j base 2 "word_inputs" Fo ["row"] E9:=by
 refine rS V4 λf k A d s H E L ds Q z b y=>?_
 obtain⟨C,a,rfl,B,M,c⟩:=y;refine⟨_,(nY (oB 1 V4.nd (pM g z (dK (eH 0) gV))) (oN (pT (qF ["name"] ["carried"] [1] (oS (oK b (nI b 0 gD) gD)) (λ_ _ _ _ _=>(nU 0 Om)) (λ_ _ _ _ _=>(eH 0)) (ht:=λ_ _ _ _ _=>(xJ (zK (wS b) (vQ true) (eH 0) (pv 1)))))))),?_⟩;refine nJ (λF=>F=_) (λN v=>⟨C,a,rfl,B,.inl rfl,v _ rfl⟩) ?_;rintro _ rfl;unfold xA;refine wM C.ins D.str D.str (λx=>!decide (x∈a.map λp:Af×Af=>p.2)) _ (λR h=>⟨rfl,_,rfl,_,rfl,h⟩) (by omega) (λi x O G e n t u=>?_) c;have m:(a.map λp=>D.str p.2)=(a.map (·.2)).map D.str:=by rw[aU];rfl
 refine⟨.str x,(a.map (·.2)).map V.str,rfl,by rw[m];exact vN _,?_⟩;rw[uU];show if (!decide (x∈a.map (·.2)))=true then _ else _
 by_cases q:x∈a.map (·.2)
 .exact qL (by rw[bC q];rfl) (u (by rw[bC q];rfl))
 .exact qS (by rw[aY q];rfl) ⟨n,t (by rw[aY q];rfl)⟩
theorem Pc:qX P w K g base 1 "word_outputs" Ex ["row"] M4:=by
 refine rS V6 λf y A m s H E Q ds X R b G=>?_
 obtain⟨C,a,rfl,W,S,k⟩:=G;refine⟨_,(nY (oB 1 V6.nd (qF ["output","name"] [] [] (oS (nI b 0 gD)) (λ_ _ _ _ _=>(rZ (n:=2) rfl (oX (nU 0 J4) (oX (nU 1 J4) rY)))) (λ_ _ _ _ _=>(eH 0)))) (oN (pT (qF ["name"] ["carried"] [1] (oS (oK b (nI b 0 gD) gD)) (λ_ _ _ _ _=>(nU 0 Om)) (λ_ _ _ _ _=>(eH 0)) (ht:=λ_ _ _ _ _=>(xJ (zK (wS b) (vQ true) (eH 0) (pv 1)))))))),?_⟩;refine nJ (λO=>O=[.v (nD C a),.o (.l (a.map λp=>D.str p.1))]) (λN F=>?_) ?_
 .unfold rQ;exact qH a (λp=>D.t [.str p.1,.str p.2]) (λp=>D.str p.1) _ (λM h=>⟨rfl,_,rfl,h⟩) (by omega) (λi p L u e c d=>⟨rfl,rfl,c,d⟩) (F _ rfl)
 rintro _ rfl;unfold xA;refine wM C.outs D.str D.str (λx=>!decide (x∈a.map λp:Af×Af=>p.1)) _ (λM h=>⟨rfl,_,rfl,_,rfl,h⟩) (by omega) (λi x L u e c d B=>?_) k;have z:(a.map λp=>D.str p.1)=(a.map (·.1)).map D.str:=by rw[aU];rfl
 refine⟨.str x,(a.map (·.1)).map V.str,rfl,by rw[z];exact vN _,?_⟩;rw[uU];show if (!decide (x∈a.map (·.1)))=true then _ else _
 by_cases q:x∈a.map (·.1)
 .exact qL (by rw[bC q];rfl) (B (by rw[bC q];rfl))
 .exact qS (by rw[aY q];rfl) ⟨c,d (by rw[aY q];rfl)⟩
end
def qO (g:Aa Int):Nat:=max 1 g.length
def tH (g:Aa Int) (k:Nat):Int:=((g++[0])[k%qO g]?).getD 0
def Jz (c:Int):Nat->Int
 | 0=>c
 | t+1=>Jz c t/1000003
def Av (g:Aa Int) (k:Nat):Int:=(tH g k%2147483629+17+68209*((k/qO g:Nat):Int))*47791%2147483629
def D5 (g:Aa Int) (k:Nat):Int:=if 10 ^ 18<=tH g k\/tH g k <= -(10 ^ 18) then Jz (tH g k) (min (k/qO g) 60)%1000003 else Av g k*Av g k%2147483587*38839%2147483579
def nK (g:Aa Int) (k:Nat):Nat:=(D5 g k).toNat
theorem JM (g:Aa Int) (k:Nat):D5 g k=(nK g k:Int):=by
 have h:0<=D5 g k:=by
  unfold D5;split
  .exact nF _ (by decide)
  .exact nF _ (by decide)
 unfold nK;omega
def yV:RD:=λd ds b=>∃ (a:Aa Int) (k:Nat),ds=[.c (a.map D.int),.int k]/\a.length<=63/\k<=1000/\b (.v (.int (nK a k)))
theorem D9 (a b:Bool) (o:∀ g:Bool->Aa Sl->Prop,g a j->t l j g) (p:∀ g:Bool->Aa Sl->Prop,g b j->u l j g) (k:r (a||b) j):Fm t u l j r:=by
 unfold Fm;refine o _ ?_;cases a
 .exact p _ k
 .exact k
section
variable {P:Ah}{K:nH}
theorem Bp:FnScope ["script","k","many","cell","turn","mixed"] ["script","k"] (oC xT):=pK
theorem Ug (T:Txt r):qX P w K r base 1 "_law_draw" xT ["script","k"] yV:=by
 refine rS Bp λf V A R s H E J ds Φ hr p W=>?_
 obtain⟨a,k,rfl,g,Z,b⟩:=W;rw[<- JM] at b;refine⟨_,(nY (oB 2 Bp.nd (rK (HM rfl) LL T.max PyProof.Rows.boot_max (dK gD (dK (rK sQ sU T.len cR (dK (eH 0) gV)) gV)))) (nY (oB 3 Bp.nd (oK p (nV oE oF (pI xP xB T.list cU (dK (eH 0) gV)) (uR (dK gD gV))) (pH pQ pO 1 (eH 2)))) (nY (wF (As (C8 (yS FF EZ (pv 3) (nV Kv Kq gD gD)) (Eu (yS Kg GB (pv 3) (Bq (nV Kv Kq gD gD)))))) (nY (tU (zA (by rfl) T.range (rK (BV rfl) EY T.min PyProof.Rows.boot_min (dK (pH zP zR 1 (eH 2)) (dK gD gV)))) (nU 4 Bp.nd) (oN (oB 3 Bp.nd (pH zP zR 3 gD)))) (oN (pT (pH pQ pO 3 gD)))) tN) (nY (oB 5 Bp.nd (nV pQ pO (nV Fq F2 (nV oE oF (nV oE oF (pH pQ pO 3 gD) gD) (nV Fq F2 gD (pH zP zR 1 (eH 2)))) gD) gD)) (nY (oB 5 Bp.nd (nV pQ pO (pH Fq F2 5 (eH 5)) gD)) (oN (pT (nV pQ pO (pH Fq F2 5 gD) gD)))))))),?_⟩;have M:1<=qO a:=Nat.le_max_left _ _;have l:qO a<=63:=Nat.max_le.mpr ⟨by decide,g⟩;refine nJ (λu=>u=[.v (.c (a.map D.int)),.v (.int k),.v (.int (qO a)),.n,.n,.n]) (λN x=>?_) ?_
 .refine⟨rfl,_,rfl,λm j G S=>?_⟩;have e:(a.map D.int).length=a.length:=aA ..;rw[e] at j S;have:m=(qO a:Int):=by unfold qO;omega
  rw[this];exact x _ rfl
 rintro _ rfl;have X:pY (a.map D.int++[D.int 0]) ((k:Int)%(qO a:Int))=some (.int (tH a k)):=by
  have Y:k%qO a<(a++[0]).length:=by
   rw[aE,kW];have:=dU k M;unfold qO at this |-;omega
  have e:a.map D.int++[D.int 0]=(a++[0]).map D.int:=by rw[aT];rfl
  rw[e,show (k:Int)%(qO a:Int)=((k%qO a:Nat):Int) by norm_cast];refine pU ?_;unfold tH;rw[bH,aH Y];rfl
 refine nJ (λu=>u=[.v (.c (a.map D.int)),.v (.int k),.v (.int (qO a)),.v (.int (tH a k)),.n,.n]) (λN x=>?_) ?_
 .exact⟨_,rfl,by show 1<=1000;decide,by show (a.map D.int).length+1<=100000;rw[aA];omega,rfl,by show (0:Int)<qO a;omega,_,X,x _ rfl⟩
 rintro _ rfl;have O:(k:Int)/(qO a:Int)=((k/qO a:Nat):Int):=by norm_cast
 have Q:k/qO a<=1000:=bS (Nat.div_le_self _ _) Z;generalize B:k/qO a=t at O Q;refine nJ (λu=>¬ (10 ^ 18<=tH a k\/tH a k <= -(10 ^ 18))/\u=[.v (.c (a.map D.int)),.v (.int k),.v (.int (qO a)),.v (.int (tH a k)),.n,.n]) (λN x=>?_) ?_
 .unfold B8;refine D9 (decide (10 ^ 18<=tH a k)) (decide (tH a k <= -(10 ^ 18))) (λC h=>⟨rfl,⟨by decide,by decide,by decide⟩,h⟩) (λC h=>⟨rfl,⟨by decide,by decide,by decide⟩,h⟩) ?_;by_cases y:10 ^ 18<=tH a k\/tH a k <= -(10 ^ 18)
  .refine qS (by rw[lU,eT,eT];exact y) ?_;unfold D5 at b;rw[aQ y,B] at b;refine nJ (λu=>∃ F,u=[.v (.c (a.map D.int)),.v (.int k),.v (.int (qO a)),.v (.int (Jz (tH a k) (min t 60))),F,.n]) (λI L=>?_) ?_
   .refine⟨rfl,⟨by show (0:Int)<qO a;omega,by show (qO a:Int)<2 ^ 64;omega⟩,?_⟩;refine λq o G S=>?_
    rw[O] at o G;obtain rfl:q=((min t 60:Nat):Int):=by omega
    refine⟨by omega,by omega,λi u=>∃ F,u=[.v (.c (a.map D.int)),.v (.int k),.v (.int (qO a)),.v (.int (Jz (tH a k) i)),F,.n],⟨.n,rfl⟩,?_,λu h=>L _ ?_⟩
    .rintro i d u hd ⟨F,rfl⟩;exact⟨rfl,⟨by show (0:Int)<1000003;decide,by show (1000003:Int)<2 ^ 64;decide⟩,_,rfl⟩
    .have e:(rL 0 ((min t 60:Nat):Int).toNat).length=min t 60:=by rw[dM];simp[rL]
     rw[e] at h;exact h
   rintro _ ⟨F,rfl⟩;exact⟨rfl,by show (0:Int)<1000003;decide,b⟩
  .exact qL (by rw[mR,ne_eq,lU,eT,eT];exact y) (x _ ⟨y,rfl⟩)
 rintro _ ⟨y,rfl⟩;unfold D5 at b;rw[aG y] at b;have big:∀ z:Int,0<=z->z<2147483648->-(2 ^ 64:Int)<z/\z<2 ^ 64:=λz U G=>by omega
 have mx:0<=Av a k/\Av a k<2147483648:=⟨nF _ (by decide),Int.lt_trans (Int.emod_lt_of_pos _ (by decide)) (by decide)⟩;refine nJ (λu=>u=[.v (.c (a.map D.int)),.v (.int k),.v (.int (qO a)),.v (.int (tH a k)),.n,.v (.int (Av a k))]) (λN x=>?_) ?_
 .refine⟨rfl,by show (0:Int)<2147483629;decide,rfl,⟨by show (0:Int)<qO a;omega,by show (qO a:Int)<2 ^ 64;omega⟩,.inl ⟨by decide,by decide⟩,.inr ⟨by decide,by decide⟩,by show (0:Int)<2147483629;decide,x _ ?_⟩;unfold Av;rw[B,<- O];rfl
 rintro _ rfl;refine nJ (λu=>u=[.v (.c (a.map D.int)),.v (.int k),.v (.int (qO a)),.v (.int (tH a k)),.n,.v (.int (Av a k*Av a k%2147483587))]) (λN x=>?_) ?_
 .exact⟨rfl,.inl (big _ mx.1 mx.2),by show (0:Int)<2147483587;decide,x _ rfl⟩
 rintro _ rfl;exact⟨rfl,.inr ⟨by decide,by decide⟩,by show (0:Int)<2147483579;decide,b⟩
end
end Lw
namespace L2
open PySem PySem.Spec PyProof.Rows
def Rx:R2:=λx y H Q=>∃ (z:Af) (n:Int),x = .str z/\y = .int n/\0<=n/\n<=100/\z.length<=100/\Q (.str (Txt.mul z n)) H
section
variable {X:Cx}{K:nH}
theorem U7:oJ X (binaryOp .Mult) Rx:=by
 intro b s A H x y v u Q I d e h;obtain⟨z,n,rfl,rfl,f,i,c,q⟩:=h;obtain⟨t,rfl⟩:=d;obtain⟨w,rfl⟩:=e;refine SB.mul ⟨?_,λm _=>?_,λ_ _=>?_⟩ λt k=>⟨.str _,H,I.tok _,⟨_,rfl⟩,q⟩
 .rw[aY (by omega),aY (by omega)];rfl
 .have a:(100:Int)<=(2 ^ 63-1)/n:=Int.le_ediv_of_mul_le (by omega) (by omega);omega
 .have a:z.length*n.toNat<=100*100:=Nat.mul_le_mul c (by omega);exact aY (lK.mpr (bS a (by decide)))
def JN:O2
 | .str z,.int n,a=>0<=n/\n<=100/\z.length<=100/\a (.v (.str (Txt.mul z n)))
 | _,_,_=>False
theorem R0:qI K Rx JN:=by
 intro B L H d e x y f Q hd b c a k;cases d<;>first | exact False.elim a | skip<;>cases e<;>first | exact False.elim a | skip
 cases b;cases c;exact⟨_,_,rfl,rfl,a.1,a.2.1,a.2.2.1,k _ _ H a.2.2.2 (hd.pushF (.str _))⟩
end
end L2
namespace Lw
open PySem L2
def Ia (c:Nat):Af:=⟨#[97+c]⟩
def rM (g:Aa Int):Af:=Ia (nK g 0%26)
def qT (g:Aa Int):Nat:=nK g 1%7
def sR (g:Aa Int):Nat:=nK g 2%(7-qT g)
def Jt (g:Aa Int) (i:Nat):Af:=Ia ((i+nK g 3)%26)
def qP (g:Aa Int) (i:Nat):Af:=Txt.mul (rM g) (qT g:Int)++Jt g i++Txt.mul (rM g) (sR g:Int)
def oU (g:Aa Int) (i:Nat):Af:=if nK g 8%4=1 then Jt g i else (if i%2=1/\(qP g i).length<7 then qP g i++rM g else qP g i) ++ "x"
def Fs:Af := "abcdefghijklmnopqrstuvwxyz"
theorem Zb {k:Nat}(h:k<26):pY Fs.cps.toList (k:Int)=some (97+k):=by
 have a:∀ k:Fin 26,Fs.cps.toList[k.val]?=some (97+k.val):=by decide +kernel
 exact pU (a ⟨k,h⟩)
theorem Op (z:Nat):pY Fs.cps.toList ((z:Int)%26)=some (97+z%26):=by
 rw[show (z:Int)%26=((z%26:Nat):Int) by omega];exact Zb (dU _ (by decide))
theorem rT (x y:Af):(x++y).cps.toList=x.cps.toList++y.cps.toList:=by
 show (x.cps++y.cps).toList=_;rw[Array.toList_append]
theorem rN (x:Af):x.length=x.cps.toList.length:=gM.symm
theorem Dz (c:Nat) (n:Nat):(Txt.mul (Ia c) (n:Int)).cps.toList=List.replicate n (97+c):=by
 have f:∀ m (a:Array Nat),((List.replicate m (#[97+c]:Array Nat)).foldl (·++·) a).toList=a.toList++List.replicate m (97+c):=λm=>by
  induction m with
  | zero=>intro a;simp
  | succ m b=>intro a;rw[dO,List.foldl_cons,b,Array.toList_append,bM];rfl
 unfold Txt.mul
 match n with
 | 0=>rw[aQ (by decide)];rfl
 | 1=>rw[aG (by decide),aQ (by simp)];rfl
 | n+2 =>
  rw[aG (by omega),aG (by simp[Ia,Str.length];omega)];rw[show (((n+2:Nat):Int)).toNat=n+2 from dM _];exact (f (n+2) #[]).trans (hV _)
theorem Lj (a b:Bool) (o:∀ g:Bool->Aa Sl->Prop,g a j->t l j g) (p:∀ g:Bool->Aa Sl->Prop,g b j->u l j g) (k:r (a&&b) j):K3 t u l j r:=by
 unfold K3;refine o _ ?_;cases a
 .exact k
 .exact p _ k
def G3:RD:=λd ds b=>∃ (a:Aa Int) (i:Nat),ds=[.c (a.map D.int),.int i]/\a.length<=63/\i<=1000/\b (.v (.str (oU a i)))
theorem K9 (g:Aa Int) (i:Nat):(qP g i).length=qT g+1+sR g:=by
 rw[rN];unfold qP rM;rw[rT,rT,Dz,Dz,aE,aE,bZ,bZ];rfl
section
variable {P:Ah}{K:nH}
theorem Ca:FnScope ["script","i","letters","pad","place","tail","word"] ["script","i"] (oC Cp):=pK
theorem U5 (T:Txt j) (g:Kn P w K j base 1 "_law_draw" xT ["script","k"] yV):qX P w K j base 2 "_law_word" Cp ["script","i"] G3:=by
 refine rS Ca λf O A G s H E Z ds C q B V=>?_
 obtain⟨b,i,rfl,t,o,m⟩:=V;refine⟨_,(nY (oB 2 Ca.nd qM) (nY (oB 3 Ca.nd (nI B 2 (nV pQ pO (pM g q (dK (eH 0) (dK gD gV))) gD))) (nY (oB 4 Ca.nd (nV pQ pO (pM g q (dK (eH 0) (dK gD gV))) gD)) (nY (oB 5 Ca.nd (nV pQ pO (pM g q (dK (eH 0) (dK gD gV))) (nV Jn Gp gD (eH 4)))) (nY (wF (sY (Js q.units) (B7 false) (nV pQ pO (pM g q (dK (eH 0) (dK gD gV))) gD) gD) (oN (pT (nI B 2 (nV pQ pO (pH oE oF 1 (pM g q (dK (eH 0) (dK gD gV)))) gD)))) tN) (nY (oB 6 Ca.nd (nV oE oF (nV oE oF (pH U7 R0 3 (eH 4)) (nI B 2 (nV pQ pO (pH oE oF 1 (pM g q (dK (eH 0) (dK gD gV)))) gD))) (pH U7 R0 3 (eH 5)))) (nY (wF (As (Le (sY (Js q.units) (B7 false) (pH pQ pO 1 gD) gD) (Nb (sY KH GQ (rK sQ sU T.len cR (dK (eH 6) gV)) gD)))) (oN (oB 6 Ca.nd (pH oE oF 6 (eH 3)))) tN) (oN (pT (pH oE oF 6 qM)))))))))),?_⟩;let a:Aa Sl:=[.v (.c (b.map D.int)),.v (.int i),.v (.str Fs)];refine nJ (λe=>e=a++[.n,.n,.n,.n]) (λN d=>d _ rfl) ?_;rintro _ rfl;refine nJ (λe=>e=a++[.v (.str (rM b)),.n,.n,.n]) (λN d=>?_) ?_
 .exact⟨rfl,b,0,rfl,t,by decide,.inl rfl,by show (0:Int)<26;decide,by decide,_,Op _,d _ rfl⟩
 rintro _ rfl;refine nJ (λe=>e=a++[.v (.str (rM b)),.v (.int (qT b)),.n,.n]) (λN d=>?_) ?_
 .exact⟨b,1,rfl,t,by decide,.inl rfl,by show (0:Int)<7;decide,d _ rfl⟩
 rintro _ rfl;have l:qT b<7:=dU _ (by decide);refine nJ (λe=>e=a++[.v (.str (rM b)),.v (.int (qT b)),.v (.int (sR b)),.n]) (λN d=>?_) ?_
 .refine⟨b,2,rfl,t,by decide,.inl rfl,by show (0:Int)<7-(qT b:Int);omega,d _ ?_⟩;unfold sR;rw[show (7:Int)-(qT b:Int)=((7-qT b:Nat):Int) by omega];rfl
 rintro _ rfl;have Q:(i:Int)+(nK b 3:Int)=((i+nK b 3:Nat):Int):=by omega
 have u:pY Fs.cps.toList (((i:Int)+(nK b 3:Int))%26)=some (97+(i+nK b 3)%26):=by rw[Q];exact Op _
 have M:decide ((nK b 8:Int)%4=1)=decide (nK b 8%4=1):=by
  by_cases h:nK b 8%4=1
  .rw[bC h,bC (by omega)]
  .rw[aY h,aY (by omega)]
 have W:sR b<7:=bT (dU _ (by omega)) (Nat.sub_le _ _);refine nJ (λe=>¬ nK b 8%4=1/\e=a++[.v (.str (rM b)),.v (.int (qT b)),.v (.int (sR b)),.n]) (λN d=>?_) ?_
 .refine⟨b,8,rfl,t,by decide,.inl rfl,by show (0:Int)<4;decide,?_⟩;by_cases h:nK b 8%4=1
  .refine qS (M.trans (bC h)) ⟨rfl,rfl,b,3,rfl,t,by decide,.inl rfl,by show (0:Int)<26;decide,by decide,_,u,?_⟩;have k:=m;unfold oU at k;rw[aQ h] at k;exact k
  .exact qL (M.trans (aY h)) (d _ ⟨h,rfl⟩)
 rintro _ ⟨S,rfl⟩;unfold oU at m;rw[aG S] at m;have x:=K9 b i;have X:∀ z:Af,z.length<=100->z.length<=100000:=λz h=>by omega
 have F:∀ n:Nat,(Txt.mul (rM b) (n:Int)).length=n:=λn=>by
  rw[rN];unfold rM;rw[Dz,bZ]
 refine nJ (λe=>e=a++[.v (.str (rM b)),.v (.int (qT b)),.v (.int (sR b)),.v (.str (qP b i))]) (λN d=>?_) ?_
 .refine⟨rfl,by omega,by omega,by show 1<=100;decide,rfl,rfl,b,3,rfl,t,by decide,.inl rfl,by show (0:Int)<26;decide,by decide,_,u,?_,rfl,by omega,by omega,by show 1<=100;decide,?_,d _ rfl⟩
  .rw[F];show qT b+1<=100000;omega
  .rw[F,rN,rT,aE,<- rN,F];show qT b+1+sR b<=100000;omega
 rintro _ rfl;let L:Af:=if i%2=1/\(qP b i).length<7 then qP b i++rM b else qP b i
 have r:L.length<=100:=by
  show (if i%2=1/\(qP b i).length<7 then qP b i++rM b else qP b i).length<=100;split
  .rw[rN,rT,aE,<- rN,x];show qT b+1+sR b+1<=100;omega
  .rw[x];omega
 refine nJ (λe=>e=a++[.v (.str (rM b)),.v (.int (qT b)),.v (.int (sR b)),.v (.str L)]) (λN d=>?_) ?_
 .unfold B8;refine Lj (decide ((i:Int)%2=1)) (decide (((qP b i).length:Int)<7)) (λY h=>⟨rfl,by show (0:Int)<2;decide,h⟩) (λY h=>⟨bC (by rw[x];omega),_,rfl,h⟩) ?_;by_cases y:i%2=1/\(qP b i).length<7
  .refine qS (by rw[bC (by omega),bC (by omega)];rfl) ⟨rfl,?_,d _ ?_⟩
   .rw[x];show qT b+1+sR b+1<=100000;omega
   .show _=a++[.v (.str (rM b)),.v (.int (qT b)),.v (.int (sR b)),.v (.str (if i%2=1/\(qP b i).length<7 then qP b i++rM b else qP b i))];rw[aQ y];rfl
  .refine qL ?_ (d _ ?_)
   .by_cases R:i%2=1
    .rw[aY (p:=((qP b i).length:Int)<7) (λz=>y ⟨R,by omega⟩),Bool.and_false]
    .rw[aY (p:=(i:Int)%2=1) (by omega),Bool.false_and]
   .show _=a++[.v (.str (rM b)),.v (.int (qT b)),.v (.int (sR b)),.v (.str (if i%2=1/\(qP b i).length<7 then qP b i++rM b else qP b i))];rw[aG y]
 rintro _ rfl;exact⟨rfl,by show L.length+1<=100000;omega,m⟩
end
end Lw
namespace L2
open PySem PySem.Spec PyProof.Rows Lw
def Nf:Aa (Af×oG)->Aa Ad->Aa Sl->(Aa (Af×Int)->Aa Sl->Prop)->Prop
 | [],_,b,a=>a [] b
 | (x,t)::r,e,b,a=>t e b λh c=>match h with
  | .v (.int i)=>Nf r e c λf d=>a ((x,i)::f) d
  | _=>False
def BF (g:Aa (Af×oG)):oG:=λd f e=>Nf g d f λb a=>b.length<=15/\e (.o (.k (pR [] (b.map λc=>((Sum.inr c.1:hH),D.int c.2))))) a
section
variable {X:Cx}{K:nH}
theorem T9:∀ (J:Aa (Af×oG)){j:Aa Sl}{H:Hp}{I:Aa (Af×Int)->Aa Sl->Prop}{Q:Aa (V×V)->Hp->Prop},j.length=l.length->DS K B (j.zip l++T) H->Nf J B.dk j I ->
  (∀ C g o,g.length=l.length->DS K B (g.zip l++T) o->I C g->Q (C.map λc=>(V.str c.1,V.int c.2)) o)->Fu (J.map λp=>(tC (.str p.1),dE K p.2)) l H Q
 | [],j,H,I,Q,f,hd,h,k=>k [] j H f hd h
 | (x,t)::r,j,H,I,Q,f,hd,h,k=>by
  show tC (.str x) l H λx n=>dE K t l n λy m=>Fu (r.map λp=>(tC (.str p.1),dE K p.2)) l m λu q=>Q ((x,y)::u) q
  refine⟨B,j,T,_,f,hd,h,λz A y m s d1 e=>?_⟩;cases z<;>first | exact False.elim e | skip
  rename_i d
  cases d<;>first | exact False.elim e | skip
  rename_i i
  obtain⟨v,w⟩:=d1.one (d:=.int i) rfl;cases w.int_inv;exact T9 r s v e λC g o a b c=>k ((x,i)::C) g o a b c
theorem AC (r:Aa (Af×oG)) (h:Fk X pos keys values (r.map λp=>(tC (.str p.1),dE X.K p.2))) (g:keys.all (·.isSome)=true:=by rfl) (l:keys.length=values.length:=by rfl) (C:keys≠[]:=by simp) (j:keys.length<=15:=by decide) :
  PD X (.Dict keys values pos) (BF r):=(Sb h g l C j).mono λG H Q f=>f.elim λB F T M l hd w k p v=>by
  have d:DS X.K B (F.zip G++(.o (.k []),some (.ref p))::T) (upd H p (.k [])):=DS.mid (DS.dKF hd v rfl .nil);refine T9 r l d w λb i s y d2 m=>?_
  obtain⟨a,t,n,x,u,_⟩:=d2.ownAt;cases t;have:n=[]:=by
   cases n with
   | nil=>rfl
   | cons _ _=>cases u
  subst this;refine⟨x,b.map λc=>((Sum.inr c.1:hH),V.int c.2),by rw[aU];rfl,by rw[aA];exact m.1,k _ i _ _ y (d2.write λq L=>?_) m.2⟩;have e:(b.map λc=>((Sum.inr c.1:hH),D.int c.2)).map (·.1)=(b.map λc=>((Sum.inr c.1:hH),V.int c.2)).map (·.1):=by rw[aU,aU];rfl
  obtain⟨z,E⟩:=G8 (kvs:=[]) (vs:=[]) e (Ob (K:=X.K) (A:=q) (H:=upd s p (.k (uI [] (b.map λc=>((Sum.inr c.1:hH),V.int c.2))))) b) rfl .nil;exact⟨_,oO,z,E⟩
end
end L2
namespace L2
open PySem PySem.Spec PyProof.Rows
def Dm:Expr->Ab (Af×Nat×Pos)
 | .Constant (.str x) j p=>some (x,j,p)
 | _=>none
theorem Yd (h:Dm e=some q):e = .Constant (.str q.1) q.2.1 q.2.2:=by
 unfold Dm at h;split at h
 .cases h;rfl
 .cases h
def Di (g:Aa Expr):Aa (Af×Nat×Pos):=g.filterMap Dm
theorem S1:∀ {g:Aa Expr},(g.all λe=>(Dm e).isSome)=true->g=(Di g).map λp=>.Constant (.str p.1) p.2.1 p.2.2
 | [],_=>rfl
 | e::g,h=>by
  rw[lO,cX] at h;obtain⟨q,a⟩:=dR.mp h.1;have b:=S1 h.2;unfold Di at b |-;rw[List.filterMap_cons_some a,bD,<- b,<- Yd a]
def Ls (g:Aa Af):oG:=λ_ b a=>a (.v (.t (g.map D.str))) b
section
variable {X:Cx}
theorem JL (l:Aa (Af×Nat×Pos)) (g:l.length<=1000):PD X (.Tuple (l.map λp=>.Constant (.str p.1) p.2.1 p.2.2) x1 pos) (Ls (l.map (·.1))) :=
 (zU (R9 l)).mono λh H Q b=>b.elim λB e T f a hd d k=>⟨by rw[aA,aA];exact bS g (by decide),λp c=>k _ e _ _ a (hd.tupF c (Vo _)).mid d⟩
theorem Zm (j:Aa Af) (h:(g.all λe=>(Dm e).isSome)=true:=by rfl) (hw:(Di g).map (·.1)=j:=by rfl) (l:g.length<=1000:=by decide):PD X (.Tuple g o pos) (Ls j):=by
 have e:=S1 h;have a:(Di g).length<=1000:=bS (List.length_filterMap_le _ _) l;have:=JL (X:=X) (pos:=pos) (x1:=o) (Di g) a;rw[<- e,hw] at this;exact this
end
section
variable {X:Cx}
theorem Jw {st:Stmt}{rest:Aa Stmt}{g:qK}{C:qK->Prop}(j:vR X st g) (k:∃ t,sB X rest t/\C (zJ g t)):∃ t,sB X (st::rest) t/\C t:=by
 obtain⟨t,a,b⟩:=k;exact⟨_,nY j a,b⟩
theorem FY {i:Nat}{x:Af}{p p' p2 pos:Pos}{x1:Nat}{g:Aa Expr}{e:Expr}{l:oG}{rest:Aa Stmt}{C:qK->Prop}(j:Aa Af) (hu:X.A.units+1<cLine) (o:X.N.Nodup) (J:X.N[i]?=some x) (hx:wI X.env.scope x) (I:X.fn x=true) (h:(g.all λe=>(Dm e).isSome)=true) (hw:(Di g).map (·.1)=j) (T:g.length<=1000) (r:PD X e l) (U:Bb e)
  (k:∃ t,sB X rest t/\C (zJ (rQ i (d2 Bo (Ls j) l)) t)):∃ t,sB X (.Assign [.Name x p'] (.Subscript (.Tuple g x1 p) e p2) pos::rest) t/\C t:=by
 obtain⟨t,a,b⟩:=k;exact⟨_,nY (oB i o (oK hu (Zm j h hw T) r U) J hx rfl (.inl I)) a,b⟩
end
end L2
namespace Lw
open PySem L2
def Bc:Aa Af:=["and","or","odd","most","not","odd","and","one","nil","odd","most","or"]
def yM (a b:Int):Aa (hH×D):=pR [] ([("and",2+a),("or",2),("odd",2+b),("most",3),("not",1)].map λc=>((Sum.inr c.1:hH),D.int c.2))
theorem KQ (hw:w∈Bc) (g:a=0\/a=1) (j:b=0\/b=1):∃ m:Nat,(nR (yM a b) (Sum.inr w)).getD (.int 0) = .int m/\m<=3/\ArOk w m:=by
 unfold Bc at hw;simp only[aM,aR,kA] at hw;have fin:∀ (w:Af) (m:Nat),(nR (yM a b) (Sum.inr w)).getD (.int 0) = .int (m:Nat)->m<=3->ArOk w m->∃ m:Nat,(nR (yM a b) (Sum.inr w)).getD (.int 0) = .int m/\m<=3/\ArOk w m:=λw m c d e=>⟨m,c,d,e⟩
 rcases g with rfl | rfl<;>rcases j with rfl | rfl<;>rcases hw with rfl | rfl | rfl | rfl | rfl | rfl | rfl | rfl | rfl | rfl | rfl | rfl<;>first | exact⟨2,rfl,by decide,⟨by decide⟩⟩ | exact⟨3,rfl,by decide,⟨by decide⟩⟩ | exact⟨1,rfl,by decide,⟨by decide⟩⟩ | exact⟨0,rfl,by decide,⟨by decide⟩⟩
def Vk:RD:=λi ds h=>∃ (d:Aa Int) (a k:Nat) (b:Aa Af),ds=[.c (d.map D.int),.int a,.int k,.l (b.map D.str)]/\d.length<=63/\a<=500/\k<=50/\b≠[]/\b.length<=100/\∀ (f:Af) (e:Aa Af),ArOk f e.length->(∀ p∈e,p∈b)->h (.v (.t [.str (oU d (6+k)),.str f,.t (e.map D.str)]))
section
variable {P:Ah}{K:nH}
theorem Ba:FnScope ["script","at","k","names","draw","word","sizes","many","some","place"] ["script","at","k","names"] (oC Gk):=pK
theorem EB (T:Txt C) (g:Kn P w K C base 1 "_law_draw" xT ["script","k"] yV) (j:Kn P w K C base 2 "_law_word" Cp ["script","i"] G3):qX P w K C base 3 "_law_gate" Gk ["script","at","k","names"] Vk:=by
 refine rS Ba λf aa A I s H E dk ds Φ V W hR=>?_
 obtain⟨O,a,k,x,rfl,R,ha,hk,hx,ac,r⟩:=hR;refine Jw (oB 4 Ba.nd (pM g V (dK (eH 0) (dK (nV oE oF (pH oE oF 1 gD) (eH 2)) gV)))) ?_;refine FY (i:=5) Bc W Ba.nd rfl (Or.inl rfl) rfl rfl rfl (by decide) (pH pQ pO 4 gD) (λ_ _=>rfl) ?_;refine⟨_,(nY (oB 6 Ba.nd (AC [("and",_),("or",_),("odd",_),("most",_),("not",_)] (Cv A7 (nV oE oF gD (nV pQ pO (pH zP zR 4 gD) gD)) (Cv A7 gD (Cv A7 (nV oE oF gD (nV pQ pO (pH zP zR 4 gD) gD)) (Cv A7 gD (Cv A7 gD Sn))))))) (nY (oB 7 Ba.nd (Fa W (pv 6) (eH 5) gD)) (nY (oB 8 Ba.nd (uR gV)) (nY (tU (zA (by rfl) T.range (eH 7)) (nU 9 Ba.nd) (oN (wJ (uW cM dX dY yZ An (pv 8) (dK (nI W 3 (nV pQ pO (pM g V (dK (eH 0) (dK (nV oE oF (nV oE oF (pH oE oF 1 gD) (nV Fq F2 gD (eH 2))) (eH 9)) gV))) (rK sQ sU T.len cR (dK (eH 3) gV)))) gV))))) (oN (pT (oW (dK (pM j V (dK (eH 0) (dK (nV oE oF gD (eH 2)) gV))) (dK (eH 5) (dK (pI tY tJ T.tuple bU (vJ (pv 8) gV)) gV)))))))))),?_⟩;let b:Aa Sl:=[.v (.c (O.map D.int)),.v (.int a),.v (.int k),.v (.l (x.map D.str))];refine nJ (λq=>∃ d:Nat,q=b++[.v (.int d),.n,.n,.n,.n,.n]) (λN y=>?_) ?_
 .exact⟨rfl,O,a+40+k,by simp,R,by omega,.inl rfl,y _ ⟨_,rfl⟩⟩
 rintro _ ⟨d,rfl⟩;refine nJ (λq=>∃ F∈Bc,q=b++[.v (.int d),.v (.str F),.n,.n,.n,.n]) (λN y=>?_) ?_
 .have J:d%12<Bc.length:=dU _ (by decide);refine⟨rfl,by show (0:Int)<12;decide,.str Bc[d%12],?_,y _ ⟨_,iE J,rfl⟩⟩;show pY (Bc.map D.str) ((d:Int)%12)=_;rw[show (d:Int)%12=((d%12:Nat):Int) by omega];exact pU (by rw[bH,aH J];rfl)
 rintro _ ⟨F,Z,rfl⟩;have L:∀ z:Int,z%2=0\/z%2=1:=λz=>by omega
 refine nJ (λq=>∃ u v:Int,(u=0\/u=1)/\(v=0\/v=1)/\q=b++[.v (.int d),.v (.str F),.o (.k (yM u v)),.n,.n,.n]) (λN y=>?_) ?_
 .exact⟨rfl,⟨by decide,by decide⟩,by show (0:Int)<2;decide,rfl,⟨by decide,by decide⟩,by show (0:Int)<2;decide,by show 5<=15;decide,y _ ⟨_,_,L _,L _,rfl⟩⟩
 rintro _ ⟨u,v,X,Y,rfl⟩;obtain⟨m,hm,ab,U⟩:=KQ Z X Y;refine nJ (λq=>q=b++[.v (.int d),.v (.str F),.o (.k (yM u v)),.v (.int m),.n,.n]) (λN y=>?_) ?_
 .refine⟨rfl,_,rfl,y _ ?_⟩;show b++[.v (.int d),.v (.str F),.o (.k (yM u v)),.v ((nR (yM u v) (Sum.inr F)).getD (.int 0)),.n,.n]=_;rw[hm]
 rintro _ rfl;refine nJ (λq=>q=b++[.v (.int d),.v (.str F),.o (.k (yM u v)),.v (.int m),.o (.l []),.n]) (λN y=>⟨by show 0<=1000;decide,y _ rfl⟩) ?_;rintro _ rfl;refine nJ (λq=>∃ (t:Aa Af) (G:Sl),t.length=m/\(∀ p∈t,p∈x)/\q=b++[.v (.int d),.v (.str F),.o (.k (yM u v)),.v (.int m),.o (.l (t.map D.str)),G]) (λN y=>?_) ?_
 .refine rW (rL 0 m) _ (λΨ h=>⟨by omega,by omega,h⟩) (λi q=>∃ (t:Aa Af) (G:Sl),t.length=i/\(∀ p∈t,p∈x)/\q=b++[.v (.int d),.v (.str F),.o (.k (yM u v)),.v (.int m),.o (.l (t.map D.str)),G]) ⟨[],.n,rfl,λp h=>(nomatch h),rfl⟩ ?_ ?_
  .rintro i e q he ⟨t,G,M,B,rfl⟩;obtain⟨hi,rfl⟩:=Bl he;have S:0<x.length:=jV.mpr hx;have Q:∀ z:Nat,pY (x.map D.str) ((z:Int)%((x.map D.str).length:Int))=some (.str (x[z%x.length]'(dU _ S))):=λz=>by
    rw[aA,show (z:Int)%(x.length:Int)=((z%x.length:Nat):Int) by norm_cast];exact pU (by rw[bH,aH (dU _ S)];rfl)
   refine⟨rfl,rfl,rfl,.inl ⟨by decide,by decide⟩,O,a+50+3*k+i,by simp,R,by omega,.inl rfl,rfl,_,rfl,by show (0:Int)<((x.map D.str).length:Int);rw[aA];omega,_,Q _,by rw[aA];omega,t++[x[nK O (a+50+3*k+i)%x.length]'(dU _ S)],.v (.int (0+(i:Int))),by rw[aE,M];rfl,λp h=>?_,?_⟩
   .rcases aW.mp h with h | h
    .exact B p h
    .rw[aJ.mp h];exact iE _
   .rw[aT];rfl
  .rintro q ⟨t,G,M,B,rfl⟩;exact y _ ⟨t,G,by rw[M];simp[rL],B,rfl⟩
 rintro _ ⟨t,G,M,B,rfl⟩;subst M;exact⟨O,6+k,by simp,R,by omega,.inl rfl,rfl,by show 3<=1000;decide,r F t U B⟩
end
def Oa (g:Aa Int):Nat:=if nK g 8%4=1 then 0 else qT g
theorem P1 (g:Aa Int) (i:Nat):(oU g i).cps.toList[Oa g]?=some (97+(i+nK g 3)%26):=by
 unfold oU Oa;by_cases h:nK g 8%4=1
 .rw[aQ h,aQ h];rfl
 .rw[aG h,aG h];have w:∀ u:Af,(qP g i++u).cps.toList[qT g]?=some (97+(i+nK g 3)%26):=λu=>by
   unfold qP rM;rw[rT,rT,rT,Dz,Dz,bM,bM,dZ (by rw[bZ];exact bB _),bZ,Nat.sub_self];rfl
  by_cases q:i%2=1/\(qP g i).length<7
  .rw[aQ q,rT,gO,w];rw[<- rN,rN,rT,aE,<- rN,K9];omega
  .rw[aG q,w]
theorem Ln (l:i<26) (o:j<26) (h:oU g i=oU g j):i=j:=by
 have a:=P1 g i;rw[h,P1 g j] at a;have:=bV a;omega
theorem FR (g:Aa Int) (i:Nat):1<=(oU g i).length/\(oU g i).length<=9:=by
 have a:=K9 g i;have b:qT g<7:=dU _ (by decide);have c:qT g+sR g<7:=by
  have:sR g<7-qT g:=dU _ (by omega);omega
 unfold oU;by_cases h:nK g 8%4=1
 .rw[aQ h];exact⟨bB _,by show 1<=9;decide⟩
 .rw[aG h];by_cases q:i%2=1/\(qP g i).length<7
  .rw[aQ q,rN,rT,rT,aE,aE,<- rN,a];show 1<=qT g+1+sR g+1+1/\qT g+1+sR g+1+1<=9;omega
  .rw[aG q,rN,rT,aE,<- rN,a];show 1<=qT g+1+sR g+1/\qT g+1+sR g+1<=9;omega
theorem QA (l:Aa Int){is:Aa Nat}(g:is.Nodup) (h:∀ i∈is,i<26):(is.map (oU l)).Nodup:=by
 induction is with
 | nil=>exact cE
 | cons i is b =>
  obtain⟨c,d⟩:=bP.mp g;rw[bD,bP];refine⟨λz=>?_,b d λj a=>h j (aV _ a)⟩;obtain⟨j,a,e⟩:=aO.mp z;exact c (Ln (h j (aV _ a)) (h i aI) e▸a)
end Lw
namespace L2
open PySem PySem.Spec PyProof.Rows
def Cd:Expr->Ab (Int×Nat×Pos)
 | .Constant (.int x) j p=>some (x,j,p)
 | _=>none
theorem HG (h:Cd e=some q):e = .Constant (.int q.1) q.2.1 q.2.2:=by
 unfold Cd at h;split at h
 .cases h;rfl
 .cases h
def Dy (g:Aa Expr):Aa (Int×Nat×Pos):=g.filterMap Cd
theorem Tj:∀ {g:Aa Expr},(g.all λe=>(Cd e).isSome)=true->g=(Dy g).map λp=>.Constant (.int p.1) p.2.1 p.2.2
 | [],_=>rfl
 | e::g,h=>by
  rw[lO,cX] at h;obtain⟨q,a⟩:=dR.mp h.1;have b:=Tj h.2;unfold Dy at b |-;rw[List.filterMap_cons_some a,bD,<- b,<- HG a]
def Ko (g:Aa Int):oG:=λ_ b a=>a (.v (.t (g.map D.int))) b
section
variable {X:Cx}
theorem AI (l:Aa (Int×Nat×Pos)) (g:l.length<=1000):PD X (.Tuple (l.map λp=>.Constant (.int p.1) p.2.1 p.2.2) x1 pos) (Ko (l.map (·.1))) :=
 (zU (T4 l)).mono λh H Q b=>b.elim λB e T f a hd d k=>⟨by rw[aA,aA];exact bS g (by decide),λp c=>k _ e _ _ a (hd.tupF c (Ww _)).mid d⟩
theorem HP (j:Aa Int) (h:(g.all λe=>(Cd e).isSome)=true:=by rfl) (hw:(Dy g).map (·.1)=j:=by rfl) (l:g.length<=1000:=by decide):PD X (.Tuple g o pos) (Ko j):=by
 have e:=Tj h;have a:(Dy g).length<=1000:=bS (List.length_filterMap_le _ _) l;have:=AI (X:=X) (pos:=pos) (x1:=o) (Dy g) a;rw[<- e,hw] at this;exact this
theorem MB {i:Nat}{x:Af}{p p' p2 pos:Pos}{x1:Nat}{g:Aa Expr}{e:Expr}{l:oG}{rest:Aa Stmt}{C:qK->Prop}(j:Aa Int) (hu:X.A.units+1<cLine) (o:X.N.Nodup) (J:X.N[i]?=some x) (hx:wI X.env.scope x) (I:X.fn x=true) (h:(g.all λe=>(Cd e).isSome)=true) (hw:(Dy g).map (·.1)=j) (T:g.length<=1000) (r:PD X e l) (U:Bb e)
  (k:∃ t,sB X rest t/\C (zJ (rQ i (d2 Bo (Ko j) l)) t)):∃ t,sB X (.Assign [.Name x p'] (.Subscript (.Tuple g x1 p) e p2) pos::rest) t/\C t:=by
 obtain⟨t,a,b⟩:=k;exact⟨_,nY (oB i o (oK hu (HP j h hw T) r U) J hx rfl (.inl I)) a,b⟩
end
end L2
namespace Lw
open PySem L2
theorem HN:(["k","script"]:Aa Af).Nodup:=by decide +kernel
theorem OQ (n j:Af) (g:Aa Af):Ez (.v (.t [.str n,.str j,.t (g.map D.str)]))=true:=by
 show (true&&(true&&(wN (g.map D.str)&&true)))=true;rw[KI (λ_=>rfl) g];rfl
theorem JY {g:Type}{xs:Aa g}{i:Int}{j:Nat}(l:i<0) (o:i+xs.length=j){v:g}(h:xs[j]?=some v):pY xs i=some v:=by
 have e:vU xs.length i=some j:=by
  unfold vU;rw[aG (by omega),aQ (by omega)];congr 1;omega
 unfold pY;rw[e];exact h
def Oe:RD:=λe ds d=>∃ (b:Aa Int) (a:Nat),ds=[.c (b.map D.int),.int a]/\b.length<=63/\a<=300/\∀ (m g:Nat) (C:Cel),1<=m->m<=6->1<=g->g<=6->C.ins=(List.range m).map (oU b)->C.gates.map (·.1)=(List.range g).map (λk=>oU b (6+k))->GC C->C.outs≠[]->C.outs.length<=4->(∀ o∈C.outs,o∈C.gates.map (·.1))->d (.v (yU C))
section
variable {P:Ah}{K:nH}
theorem yW:FnScope ["script","begin","many","inputs","names","gates","k","outputs","name"] ["script","begin"] (oC Iv):=pK
theorem HW (T:Txt mg) (r:Kn P w K mg base 1 "_law_draw" xT ["script","k"] yV) (I:Kn P w K mg base 2 "_law_word" Cp ["script","i"] G3) (C:Kn P w K mg base 3 "_law_gate" Gk ["script","at","k","names"] Vk):qX P w K mg base 4 "_law_cell" Iv ["script","begin"] Oe:=by
 refine rS yW λf ah A ag s H E dk ds Φ J U hR=>?_
 obtain⟨d,a,rfl,Z,ha,af⟩:=hR;refine MB (i:=2) [1,2,3,4,2,3,5,6] U yW.nd rfl (Or.inl rfl) rfl rfl rfl (by decide) (nV pQ pO (pM r J (dK (eH 0) (dK (eH 1) gV))) gD) (λ_ _=>rfl) ?_;refine⟨_,(nY (zV 3 ["k"] ["script"] [0] yW.nd (zA (by rfl) T.range (eH 2)) (λ_ _ _ _ _=>(nU 0 HN)) (λ_ _ _ _ _=>(pM I J (dK (eH 1) (dK (eH 0) gV))))) (nY (oB 4 yW.nd (pI xP xB T.list cU (dK (eH 3) gV))) (nY (oB 5 yW.nd (uR gV)) (nY (tU (zA (by rfl) T.range (nV oE oF gD (nV pQ pO (pM r J (dK (eH 0) (dK (pH oE oF 1 gD) gV))) gD))) (nU 6 yW.nd) (nY (wJ (uW cM dX dY yZ An (pv 5) (dK (pM C J (dK (eH 0) (dK (eH 1) (dK (eH 6) (vJ (pv 4) gV))))) gV))) (oN (wJ (uW cM dX dY yZ An (pv 4) (dK (oK U (nI U 5 (Bq gD)) gD) gV)))))) (nY (oB 7 yW.nd (uR gV)) (nY (tU (zA (by rfl) T.range (nV oE oF gD (nV pQ pO (pM r J (dK (eH 0) (dK (pH oE oF 1 gD) gV))) gD))) (nU 6 yW.nd) (nY (oB 8 yW.nd (oK U (nI U 5 (nV Jn Gp (Bq gD) (nV pQ pO (pM r J (dK (eH 0) (dK (nV oE oF (pH oE oF 1 gD) (eH 6)) gV))) (rK sQ sU T.len cR (vJ (pv 5) gV))))) gD)) (oN (wF (zK (wS U) (vQ true) (eH 8) (pv 7)) (oN (wJ (uW cM dX dY yZ An (pv 7) (dK (eH 8) gV)))) tN)))) (oN (pT (oW (dK (pI tY tJ T.tuple bU (dK (eH 3) gV)) (dK (pI tY tJ T.tuple bU (vJ (pv 5) gV)) (dK (pI tY tJ T.tuple bU (vJ (pv 7) gV)) gV)))))))))))),?_⟩;let b:Aa Sl:=[.v (.c (d.map D.int)),.v (.int a)];refine nJ (λu=>∃ m:Nat,1<=m/\m<=6/\u=b++[.v (.int m),.n,.n,.n,.n,.n,.n]) (λN F=>?_) ?_
 .obtain⟨m,Q,R,h3⟩:∃ m:Nat,1<=m/\m<=6/\pY ([1,2,3,4,2,3,5,6].map D.int) ((nK d a:Int)%8)=some (.int m):=by
   have h8:nK d a%8<8:=dU _ (by decide);have key:∀ j:Fin 8,∃ m:Nat,1<=m/\m<=6/\([1,2,3,4,2,3,5,6].map D.int)[j.val]?=some (.int m):=λj=>by
    match j with
    | 0=>exact⟨1,by decide,by decide,rfl⟩
    | 1=>exact⟨2,by decide,by decide,rfl⟩
    | 2=>exact⟨3,by decide,by decide,rfl⟩
    | 3=>exact⟨4,by decide,by decide,rfl⟩
    | 4=>exact⟨2,by decide,by decide,rfl⟩
    | 5=>exact⟨3,by decide,by decide,rfl⟩
    | 6=>exact⟨5,by decide,by decide,rfl⟩
    | 7=>exact⟨6,by decide,by decide,rfl⟩
   obtain⟨m,Q,R,h3⟩:=key ⟨nK d a%8,h8⟩;exact⟨m,Q,R,by rw[show (nK d a:Int)%8=((nK d a%8:Nat):Int) by omega];exact pU h3⟩
  exact⟨d,a,rfl,Z,by omega,.inl rfl,by show (0:Int)<8;decide,_,h3,F _ ⟨m,Q,R,rfl⟩⟩
 rintro _ ⟨m,ac,ae,rfl⟩;let ins:Aa Af:=(List.range m).map (oU d);have O:ins.length=m:=by show ((List.range m).map (oU d)).length=m;rw[aA,eU]
 refine nJ (λu=>u=b++[.v (.int m),.o (.l (ins.map D.str)),.n,.n,.n,.n,.n]) (λN F=>?_) ?_
 .unfold rQ;refine qH (List.range m) (λi:Nat=>.int (0+(i:Int))) (λi=>.str (oU d i)) (b++[.v (.int m),.n,.n,.n,.n,.n,.n]) (λΨ h=>⟨by omega,by omega,by rw[dM];exact h⟩) (by rw[eU];omega) (λi x ys Nx e Q R=>?_) (F _ ?_)
  .have hx:=iY.mp (aK e);exact⟨d,x,by simp,Z,by omega,.inl rfl,Q,R⟩
  .show _=b++[.v (.int m),.o (.l (((List.range m).map (oU d)).map D.str)),.n,.n,.n,.n,.n];rw[aU];rfl
 rintro _ rfl;refine nJ (λu=>u=b++[.v (.int m),.v (.l (ins.map D.str)),.o (.l (ins.map D.str)),.n,.n,.n,.n]) (λN F=>⟨_,rfl,F _ rfl⟩) ?_;rintro _ rfl;refine nJ (λu=>u=b++[.v (.int m),.v (.l (ins.map D.str)),.o (.l (ins.map D.str)),.o (.l []),.n,.n,.n]) (λN F=>⟨by show 0<=1000;decide,F _ rfl⟩) ?_;rintro _ rfl;let st (t:Aa (Af×Af×Aa Af)) (B s7 W:Sl):Aa Sl:=b++[.v (.int m),.v (.l (ins.map D.str)),.o (.l ((ins++t.map (·.1)).map D.str)),.o (.l (t.map oY)),B,s7,W];refine nJ (λu=>∃ (g:Nat) (t:Aa (Af×Af×Aa Af)) (B:Sl),1<=g/\g<=6/\t.map (·.1)=(List.range g).map (λk=>oU d (6+k))/\uY ins t/\u=st t B .n .n) (λN F=>?_) ?_
 .have hg:1+nK d (a+1)%6<=6:=by have:=dU (nK d (a+1)) (show 0<6 by decide);omega
  have eg:((1:Int)+(nK d (a+1):Int)%6).toNat=1+nK d (a+1)%6:=by omega
  refine rW (rL 0 (1+nK d (a+1)%6)) _ (λΨ h=>⟨rfl,d,a+1,by simp,Z,by omega,.inl rfl,by show (0:Int)<6;decide,by omega,by omega,by rw[eg];exact h⟩) (λk u=>∃ (t:Aa (Af×Af×Aa Af)) (B:Sl),t.map (·.1)=(List.range k).map (λk=>oU d (6+k))/\uY ins t/\u=st t B .n .n) ⟨[],.n,rfl,True.intro,by simp[st]⟩ ?_ ?_
  .rintro k e u he ⟨t,B,G,M,rfl⟩;obtain⟨hk,rfl⟩:=Bl he;have S:t.length=k:=by have:=cA List.length G;rw[aA,aA,eU] at this;exact this
   refine nJ (λu=>∃ (X:Af) (V:Aa Af),ArOk X V.length/\(∀ p∈V,p∈ins++t.map (·.1))/\u=b++[.v (.int m),.v (.l (ins.map D.str)),.o (.l ((ins++t.map (·.1)).map D.str)),.o (.l ((t++[(oU d (6+k),X,V)]).map oY)),.v (.int (0+(k:Int))),.n,.n]) (λN F=>?_) ?_
   .refine⟨rfl,rfl,d,a,k,ins++t.map (·.1),by simp,Z,by omega,by omega,?_,by rw[aE,O,aA];omega,λX V Q R=>⟨.inr (OQ _ _ _),by rw[aA];omega,F _ ⟨X,V,Q,R,?_⟩⟩⟩
    .intro z;have:=cA List.length z;rw[aE,O,dL] at this;omega
    .rw[aT (f:=oY)];rfl
   rintro _ ⟨X,V,Q,R,rfl⟩;refine⟨rfl,rfl,oY (oU d (6+k),X,V),by rw[aT];exact Zt _ _,.str (oU d (6+k)),pU (j:=0) rfl,by rw[aA,aE,O,aA];omega,t++[(oU d (6+k),X,V)],.v (.int (0+(k:Int))),?_,M.snoc Q R,?_⟩
   .rw[aT,G,nG,aT];rfl
   .show _=st (t++[(oU d (6+k),X,V)]) _ .n .n;simp only[st,aT,bM];rfl
  .rintro u ⟨t,B,G,M,rfl⟩;refine F _ ⟨1+nK d (a+1)%6,t,B,by omega,hg,?_,M,rfl⟩;rw[G];simp[rL]
 rintro _ ⟨g,t,B,aa,ab,G,M,rfl⟩;have S:t.length=g:=by have:=cA List.length G;rw[aA,aA,eU] at this;exact this
 refine nJ (λu=>u=st t B (.o (.l [])) .n) (λN F=>⟨by show 0<=1000;decide,F _ rfl⟩) ?_;rintro _ rfl;refine nJ (λu=>∃ (os:Aa Af) (B W:Sl),os≠[]/\os.length<=4/\os.Nodup/\(∀ o∈os,o∈t.map (·.1))/\u=st t B (.o (.l (os.map D.str))) W) (λN F=>?_) ?_
 .have hg:1+nK d (a+2)%4<=4:=by have:=dU (nK d (a+2)) (show 0<4 by decide);omega
  have eg:((1:Int)+(nK d (a+2):Int)%4).toNat=1+nK d (a+2)%4:=by omega
  refine rW (rL 0 (1+nK d (a+2)%4)) (st t B (.o (.l [])) .n) (λΨ h=>⟨rfl,d,a+2,by simp,Z,by omega,.inl rfl,by show (0:Int)<4;decide,by omega,by omega,by rw[eg];exact h⟩) (λk u=>∃ (os:Aa Af) (B W:Sl),(0<k->os≠[])/\os.length<=k/\os.Nodup/\(∀ o∈os,o∈t.map (·.1))/\u=st t B (.o (.l (os.map D.str))) W) ⟨[],B,.n,λh=>absurd h (by decide),bB _,cE,λ_ h=>absurd h aR,rfl⟩ ?_ ?_
  .rintro k e u he ⟨os,B,W,on,ol,L,Y,rfl⟩;obtain⟨hk,rfl⟩:=Bl he;refine nJ (λu=>∃ x∈t.map (·.1),u=st t (.v (.int (0+(k:Int)))) (.o (.l (os.map D.str))) (.v (.str x))) (λN F=>?_) ?_
   .have hj:=dU (nK d (a+20+k)) (show 0<g by omega);have hq:g-1-nK d (a+20+k)%g<t.length:=by omega
    refine⟨rfl,rfl,d,a+20+k,by simp,Z,by omega,.inl rfl,rfl,rfl,(t.map oY).length,rfl,by show (0:Int)<((t.map oY).length:Int);rw[aA];omega,oY t[g-1-nK d (a+20+k)%g],JY (xs:=t.map oY) (j:=g-1-nK d (a+20+k)%g) ?_ ?_ (by rw[bH,aH hq];rfl),.str t[g-1-nK d (a+20+k)%g].1,pU (j:=0) rfl,F _ ⟨_,bQ (iE hq),rfl⟩⟩
    .have:(nK d (a+20+k):Int)%((t.map oY).length:Int)=((nK d (a+20+k)%g:Nat):Int):=by rw[aA,S];omega
     show -1-(nK d (a+20+k):Int)%((t.map oY).length:Int)<0;rw[this];omega
    .have:(nK d (a+20+k):Int)%((t.map oY).length:Int)=((nK d (a+20+k)%g:Nat):Int):=by rw[aA,S];omega
     show -1-(nK d (a+20+k):Int)%((t.map oY).length:Int)+((t.map oY).length:Int)=_;rw[this,aA,S];omega
   rintro _ ⟨x,hx,rfl⟩;refine⟨_,_,rfl,vN _,?_⟩;rw[uU];by_cases hm:x∈os
   .refine qL (by simp[nb,hm]) ?_;exact⟨os,_,_,λ_ z=>absurd hm (by rw[z];exact aR),by omega,L,Y,rfl⟩
   .refine qS (by simp[nb,hm]) ?_;refine⟨rfl,by rw[aA];omega,os++[x],.v (.int (0+(k:Int))),.v (.str x),λ_ z=>absurd z (by simp),by rw[aE];exact lG ol,?_,?_,?_⟩
    .rw[bW];exact⟨L,bP.mpr ⟨aR,cE⟩,λy hy z hz e=>hm (by rw[<- aJ.mp hz,<- e];exact hy)⟩
    .intro o ho;rcases aW.mp ho with q | q
     .exact Y o q
     .rw[aJ.mp q];exact hx
    .rw[aT];rfl
  .rintro u ⟨os,B,W,on,ol,L,Y,rfl⟩;rw[show (rL 0 (1+nK d (a+2)%4)).length=1+nK d (a+2)%4 by simp[rL]] at on ol;exact F _ ⟨os,B,W,on (by omega),by omega,L,Y,rfl⟩
 rintro _ ⟨os,B,W,on,ol,L,Y,rfl⟩;refine⟨rfl,rfl,?_⟩;show 3<=1000/\Φ (.v (yU ⟨ins,t,os⟩));have nd:(ins++t.map (·.1)).Nodup:=by
  have e:ins++t.map (·.1)=(List.range m++(List.range g).map (6+·)).map (oU d):=by rw[G,aT,aU];rfl
  rw[e];refine QA d ?_ ?_
  .rw[bW];refine⟨mY,iP _ (λx y h e=>h (by have e2:6+x=6+y:=e;omega)) (mY (n:=g)),λx hx y hy e=>?_⟩;obtain⟨z,_,rfl⟩:=aO.mp hy;have:=iY.mp hx;omega
  .intro i hi;rcases aW.mp hi with q | q
   .have:=iY.mp q;omega
   .obtain⟨z,hz,rfl⟩:=aO.mp q;have:=iY.mp hz;omega
 exact⟨by decide,af m g ⟨ins,t,os⟩ ac ae aa ab rfl G ⟨nd,M,λo ho=>aX _ (Y o ho),L,by show ins.length<=40;omega,by show t.length<=40;omega,by show os.length<=40;omega⟩ on ol Y⟩
end
end Lw
namespace L2
open PySem PySem.Spec PyProof.Rows Lw
def Vv (n i:Nat) (g:vY) (C:sW) (p:oG):oG:=λh k m=>∃ ds:Aa D,k[i]?=some (.o (.l ds))/\∃ Pv:Nat->Aa D->Prop,Pv 0 [] /\
 (∀ j d a,ds[j]?=some d->Pv j a->g d (List.replicate n Sl.n) λe=>C h e λb f=>if b=true then p h f λr q=>match sd r with
  | some c=>a.length<100000/\Pv (j+1) (a++[c])
  | none=>False
  else Pv (j+1) a) /\
 ∀ a,Pv ds.length a->m (.o (.l a)) k
theorem BY:rP [] g j=j:=by cases g<;>rfl
section
variable {X:Cx}
theorem To (T:Aa Af) (i:Nat)
  (hg:∀ U J C cl fp,wE (rX X (T++[]) I cl C U J fp) T.length tg g)
  (he:∀ U J C cl fp,PD (rX X (T++[]) I cl C U J fp) aa te)
  (ht:∀ U J C cl fp,wB (rX X (T++[]) I cl C U J fp) ab (tE X.K tt):=by exact λ_ _ _ _ _=>Ka) (hi:PE X (.Name x p) (rC i):=by exact pv _) (hc:X.calm=true:=by rfl) (hk:I.kind = .function:=by rfl) (ho:Bv X.N X.env.kindOf I T [] []=true:=by rfl) (hs:∀ y,foldedSetIterable (.Name x p) X.env y=pure y:=by intro _;rfl):PD X (.ListComp aa [⟨tg,.Name x p,ab,0⟩] I pos) (Vv T.length i g tt te) :=
 (E8 (g:=dG X.K T.length g) (te:=dE X.K te) T [] [] hc (U0 hi) hk ho hg ht he hs).mono λu H Q P=>P.elim λB m Tm Φ D hd ⟨ds,S,Pv,p0,step,fin⟩ k=>by
  have b:=hd.lend1 D i;rw[S] at b;have b:DS X.K B ((m.set i .n).zip u++(.o (.l ds),(u[i]?).join)::Tm) H:=b;obtain⟨a,f,vs,h1,r1⟩:=b.at;have f:(u[i]?).join=some (.ref a):=f;have es:u[i]?=some (some (.ref a)):=by
   cases q:u[i]? with
   | none=>rw[q] at f;cases f
   | some y=>rw[q] at f;rw[show y=some (V.ref a) from f]
  rw[f] at b;refine⟨.ref a,es,.inl ⟨a,rfl,⟨vs,nX.of h1⟩,λdd hD=>?_⟩⟩;refine Ey (g:=g) (te:=te) (caps:=[]) (ds:=ds) (Tm:=(.o (.l ds),some (.ref a))::Tm) (Φ:=λr A=>A=m.set i .n/\Φ r m) (B:=B) cE (by rw[cB];exact D) b (λj w La M H2 hM d=>?_) ⟨λj w F=>Pv j w,p0,λj d w F hj z O=>?_,λw F z O=>⟨BY,fin w O⟩⟩ (λr A v E l d h=>?_) hD
  .obtain⟨a',G,e,s,t⟩:=d.ok _ (aX _ (hM _ aI));cases G;refine⟨λhi=>⟨e,e[j]'(by rw[<- t.length];exact hi),nX.of s,aH _⟩,λhi=>⟨e,nX.of s,by rw[<- t.length];omega⟩,λx H3 hi y=>?_⟩;obtain⟨y1,y2⟩:=y;subst y1;obtain⟨c,hc,rc⟩:=t.getV (y2 e (nX.of s));exact⟨c,hc,d.push rc⟩
  .cases F with
   | nil=>rw[cO];exact step j d w hj O
   | cons _ _=>cases z
  .obtain⟨rfl,h⟩:=h;have d2:DS X.K B (((m.set i .n).zip u++[(r,some v)])++(.o (.l ds),some (.ref a))::Tm) E:=by simpa using d
   have W:DS X.K B ((m.set i .n).zip u++(.o (.l ds),some (.ref a))::(r,some v)::Tm) E:=d2.perm (by
    rw[bM];exact lD _ (List.Perm.swap ..))
   have R:=W.back1 (by rw[cB];exact D) f;have Z:(m.set i Sl.n).set i (.o (.l ds))=m:=by
    rw[List.set_set];obtain⟨L,Y⟩:=aP.mp S;rw[<- Y];exact List.set_getElem_self L
   rw[Z] at R;exact k r m v E D R h
theorem Vy (p:Aa α) (f h:α->D) (T:I[i]?=some (.o (.l (p.map f)))) (hl:p.length<=1000)
  (step:∀ x∈p,∀ N:Sl->Prop,N (.v (h x))->g (f x) (List.replicate n Sl.n) λC=>U J C λr _=>N r) (fin:Φ (.o (.l (p.map h))) I):Vv n i g Lr U J I Φ:=by
 refine⟨_,T,λj b=>b=(p.take j).map h,rfl,λj d b a e=>?_,λb e=>?_⟩
 .rw[bH] at a;cases q:p[j]? with
  | none=>rw[q] at a;cases a
  | some x =>
   rw[q] at a;cases a;have k:=(aP.mp q).1;refine step x (aK q) (λr=>match sd r with | some c=>b.length<100000/\b++[c]=(p.take (j+1)).map h | none=>False) ?_;subst e;exact⟨by rw[aA,cW];omega,by rw[cH,q,aT];rfl⟩
 .subst e;rw[aA,cY];exact fin
end
end L2
namespace Lw
open PySem L2
theorem S9:(["pair"]:Aa Af).Nodup:=by decide +kernel
def rJ (p:Af×Af):D:=.t [.str p.1,.str p.2]
structure Alg (C:Cel) (prs:List (Str×Str)):Prop where
 o:∀ p∈prs,p.1∈C.outs/\p.2∈C.ins
 n1:(prs.map (·.1)).Nodup
 n2:(prs.map (·.2)).Nodup
 l:prs.length<=4
theorem U8 (h:g.Nodup) (q:x∉g):(g++[x]).Nodup:=by
 rw[bW];exact⟨h,bP.mpr ⟨aR,cE⟩,λy a z b e=>q (by rw[<- aJ.mp b,<- e];exact a)⟩
def Wn:RD:=λf ds e=>∃ (d:Aa Int) (a:Nat),ds=[.c (d.map D.int),.int a]/\d.length<=63/\a<=300/\∀ (m g:Nat) (C:Cel) (b:Aa (Af×Af)),1<=m->m<=6->1<=g->g<=6->C.ins=(List.range m).map (oU d)->C.gates.map (·.1)=(List.range g).map (λk=>oU d (6+k))->GC C->C.outs≠[]->C.outs.length<=4->(∀ o∈C.outs,o∈C.gates.map (·.1))->Alg C b->e (.v (nD C b))
section
variable {P:Ah}{K:nH}
theorem C9:FnScope ["script","begin","cell","along","k","output","name"] ["script","begin"] (oC I0):=pK
theorem NR (T:Txt mg) (j:Kn P w K mg base 1 "_law_draw" xT ["script","k"] yV) (r:Kn P w K mg base 4 "_law_cell" Iv ["script","begin"] Oe):qX P w K mg base 5 "_law_row" I0 ["script","begin"] Wn:=by
 refine rS C9 λf ac A ab s H E dk ds Φ W B hR=>?_
 obtain⟨i,a,rfl,S,ha,aa⟩:=hR;refine⟨_,(nY (oB 2 C9.nd (pM r W (dK (eH 0) (dK (eH 1) gV)))) (nY (oB 3 C9.nd (uR gV)) (nY (tU (zA (by rfl) T.range (nV pQ pO (pM j W (dK (eH 0) (dK (pH oE oF 1 gD) gV))) gD)) (nU 4 C9.nd) (nY (oB 5 C9.nd (oK B (nI B 2 gD) (nV pQ pO (pM j W (dK (eH 0) (dK (nV oE oF (pH oE oF 1 gD) (eH 4)) gV))) (rK sQ sU T.len cR (dK (nI B 2 gD) gV))))) (nY (oB 6 C9.nd (oK B (nI B 2 gD) (nV pQ pO (pM j W (dK (eH 0) (dK (nV oE oF (pH oE oF 1 gD) (eH 4)) gV))) (rK sQ sU T.len cR (dK (nI B 2 gD) gV))))) (oN (wF (As (Le (yS (wS B) (vQ true) (pv 5) (To ["pair"] 3 (λ_ _ _ _ _=>(nU 0 S9)) (λ_ _ _ _ _=>(nI B 0 gD)))) (Nb (yS (wS B) (vQ true) (pv 6) (To ["pair"] 3 (λ_ _ _ _ _=>(nU 0 S9)) (λ_ _ _ _ _=>(nI B 0 gD))))))) (oN (wJ (uW cM dX dY yZ An (pv 3) (dK (oW (dK (eH 5) (dK (eH 6) gV))) gV)))) tN))))) (oN (pT (oW (dK (eH 2) (dK (pI tY tJ T.tuple bU (vJ (pv 3) gV)) gV)))))))),?_⟩;let b:Aa Sl:=[.v (.c (i.map D.int)),.v (.int a)];refine nJ (λz=>∃ (m g:Nat) (C:Cel),1<=m/\m<=6/\1<=g/\g<=6/\C.ins=(List.range m).map (oU i)/\C.gates.map (·.1)=(List.range g).map (λk=>oU i (6+k))/\GC C/\C.outs≠[]/\C.outs.length<=4/\(∀ o∈C.outs,o∈C.gates.map (·.1))/\z=b++[.v (yU C),.n,.n,.n,.n]) (λN u=>?_) ?_
 .exact⟨i,a,rfl,S,ha,λm g C X Y Z I Q J U R h9 M=>⟨.inl rfl,u _ ⟨m,g,C,X,Y,Z,I,Q,J,U,R,h9,M,rfl⟩⟩⟩
 rintro _ ⟨m,g,C,X,Y,Z,I,Q,J,U,R,h9,M,rfl⟩;refine nJ (λz=>z=b++[.v (yU C),.o (.l []),.n,.n,.n]) (λN u=>⟨by show 0<=1000;decide,u _ rfl⟩) ?_;rintro _ rfl;let st (d:Aa (Af×Af)) (G L F:Sl):Aa Sl:=b++[.v (yU C),.o (.l (d.map rJ)),G,L,F];refine nJ (λz=>∃ (d:Aa (Af×Af)) (G L F:Sl),Alg C d/\z=st d G L F) (λN u=>?_) ?_
 .have hg:nK i (a+3)%5<=4:=by have:=dU (nK i (a+3)) (show 0<5 by decide);omega
  have eg:((nK i (a+3):Int)%5).toNat=nK i (a+3)%5:=by omega
  refine rW (rL 0 (nK i (a+3)%5)) (st [] .n .n .n) (λΨ h=>⟨rfl,i,a+3,by simp,S,by omega,.inl rfl,by show (0:Int)<5;decide,by omega,by omega,by rw[eg];exact h⟩) (λk z=>∃ (d:Aa (Af×Af)) (G L F:Sl),(Alg C d/\d.length<=k)/\z=st d G L F) ⟨[],.n,.n,.n,⟨⟨λ_ h=>absurd h aR,cE,cE,by decide⟩,bB _⟩,rfl⟩ ?_ ?_
  .rintro k e z he ⟨d,G,L,F,⟨al,pl⟩,rfl⟩;obtain⟨hk,rfl⟩:=Bl he;let s0:Sl:=.v (.int (0+(k:Int)));refine nJ (λz=>∃ x∈C.outs,z=st d s0 (.v (.str x)) F) (λN u=>?_) ?_
   .have O:=dU (nK i (a+30+k)) (show 0<C.outs.length from jV.mpr R);refine⟨rfl,.t (C.outs.map D.str),rfl,rfl,i,a+30+k,by simp,S,by omega,.inl rfl,rfl,.t (C.outs.map D.str),rfl,rfl,(C.outs.map D.str).length,rfl,by show (0:Int)<((C.outs.map D.str).length:Int);rw[aA];omega,.str C.outs[nK i (a+30+k)%C.outs.length],?_,u _ ⟨_,iE O,rfl⟩⟩;rw[aA,show (nK i (a+30+k):Int)%(C.outs.length:Int)=((nK i (a+30+k)%C.outs.length:Nat):Int) by omega];exact pU (by rw[bH,aH O];rfl)
   rintro _ ⟨x,hx,rfl⟩;refine nJ (λz=>∃ y∈C.ins,z=st d s0 (.v (.str x)) (.v (.str y))) (λN u=>?_) ?_
   .have li:C.ins.length=m:=by rw[Q,aA,eU]
    have O:=dU (nK i (a+35+k)) (show 0<C.ins.length by omega);refine⟨rfl,.t (C.ins.map D.str),rfl,rfl,i,a+35+k,by simp,S,by omega,.inl rfl,rfl,.t (C.ins.map D.str),rfl,rfl,(C.ins.map D.str).length,rfl,by show (0:Int)<((C.ins.map D.str).length:Int);rw[aA];omega,.str C.ins[nK i (a+35+k)%C.ins.length],?_,u _ ⟨_,iE O,rfl⟩⟩;rw[aA,show (nK i (a+35+k):Int)%(C.ins.length:Int)=((nK i (a+35+k)%C.ins.length:Nat):Int) by omega];exact pU (by rw[bH,aH O];rfl)
   rintro _ ⟨y,hy,rfl⟩;refine Lj (!decide (x∈d.map (·.1))) (!decide (y∈d.map (·.2))) (λΨ h=>?_) (λΨ h=>?_) ?_
   .refine⟨rfl,?_⟩;refine Vy d rJ (λp=>.str p.1) rfl (by omega) (λp hp N u=>⟨rfl,_,rfl,u⟩) ?_;refine⟨.str x,(d.map (·.1)).map V.str,rfl,?_,?_⟩
    .rw[show (d.map λp=>D.str p.1)=(d.map (·.1)).map D.str by rw[aU];rfl];exact vN _
    .rw[uU];exact h
   .refine⟨rfl,?_⟩;refine Vy d rJ (λp=>.str p.2) rfl (by omega) (λp hp N u=>⟨rfl,_,rfl,u⟩) ?_;refine⟨.str y,(d.map (·.2)).map V.str,rfl,?_,?_⟩
    .rw[show (d.map λp=>D.str p.2)=(d.map (·.2)).map D.str by rw[aU];rfl];exact vN _
    .rw[uU];exact h
   by_cases q1:x∈d.map (·.1)
   .exact qL (by simp[q1]) ⟨d,_,_,_,⟨al,by omega⟩,rfl⟩
   by_cases q2:y∈d.map (·.2)
   .exact qL (by simp[q2]) ⟨d,_,_,_,⟨al,by omega⟩,rfl⟩
   refine qS (by simp[q1,q2]) ⟨rfl,by show 2<=1000;decide,by rw[aA];omega,d++[(x,y)],s0,.v (.str x),.v (.str y),⟨⟨λp hp=>?_,?_,?_,by rw[aE];show _+1<=4;omega⟩,by rw[aE];exact lG pl⟩,?_⟩
   .rcases aW.mp hp with q | q
    .exact al.o p q
    .rw[aJ.mp q];exact⟨hx,hy⟩
   .rw[aT];exact U8 al.n1 q1
   .rw[aT];exact U8 al.n2 q2
   .show _=st (d++[(x,y)]) _ _ _;simp only[st,aT];rfl
  .rintro z ⟨d,G,L,F,⟨al,pl⟩,rfl⟩;exact u _ ⟨d,G,L,F,al,rfl⟩
 rintro _ ⟨d,G,L,F,al,rfl⟩;refine⟨rfl,by show 2<=1000;decide,?_⟩;exact aa m g C d X Y Z I Q J U R h9 M al
end
def lettersS:Af := "abcdefghijklmnopqrstuvwxyz"
def Ea:Aa Af:=["in","out"]
def xX (z:Af):Ab (Aa Int) :=
 if z = "and" \/ z = "or" \/ z = "odd" then some [2,3] else if z = "most" then some [3] else if z = "not" then some [1] else if z = "one" \/ z = "nil" then some [0] else none
structure Tops (K:nH) (w:World) (mg:Str->Option Value):Prop where
 lets:∃ t,mg "LETTERS" = some (.str lettersS t)
 long:∃ t,mg "LONGEST_NAME" = some (.int 8 t)
 side:∃ a,mg "SIDE_WORDS" = some (.ref a)/\∀ H,oP K H a (Ea.map V.str)
 cnt:∃ a kvs,mg "NAME_COUNTS" = some (.ref a)/\Md K w a kvs/\∀ z:Str,(qA kvs (Sum.inr z)=none/\xX z=none)\/∃ t ns,qA kvs (Sum.inr z)=some (.ref t)/\xX z=some ns/\∀ H,oP K H t (ns.map V.int)
 all:mg "all" = none
def wV (c:Nat):Bool:=!(Builtin.Str.occurrences lettersS ⟨#[c]⟩ 0 lettersS.length 1).isEmpty
def tK (z:Af):Bool:=z.cps.toList.all wV&&(decide ((1:Int)<=z.length)&&decide ((z.length:Int)<=8)) && !(xX z).isSome && !decide (z∈Ea)
def DN:Sp:=λc H Q _=>∃ z:Af,c=[.str z]/\z.cps.all (·<128)=true/\z.length<=1000/\∀ a,pG H a->Q (.b (tK z)) a
theorem FK (z:Af):∀ (f:V->V),(∀ c,f (.str ⟨#[c]⟩) = .b (wV c))->(wU z).map f=(z.cps.toList.map wV).map V.b:=by
 intro f a;unfold wU;rw[aU,aU];refine eR λc _=>a c
def Dx:V->V
 | .str x=>.b (!(Builtin.Str.occurrences lettersS x 0 lettersS.length 1).isEmpty)
 | v=>v
theorem Ej (x:Af):([x]:Aa Af).Nodup:=by simp
theorem OJ (h:H p=none):pG H (upd H p o):=λb u e=>by rw[nP (pJ e h)];exact e
theorem Zz (g:Aa Af):(g.map V.str).all rR=true:=by
 rw[gB];intro v a;obtain⟨y,_,rfl⟩:=aO.mp a;rfl
section
variable {P:Ah}{K:nH}
theorem GH:FnScope ["text"] ["text"] (oC Wp):=pK
theorem KO (F:Fun K "is_name" "is_name" Wp f fd) (T:Txt o) (O:Tops K w o):FnOk P w K o base oM 1 f fd ["text"] DN:=by
 refine F.ok GH (λvs H Q E h=>?_) (λJ A W s H vs Q E hr h=>?_)
 .obtain⟨z,rfl,_⟩:=h;rfl
 .obtain⟨z,rfl,ha,j,k⟩:=h;obtain⟨I,el⟩:=O.lets;obtain⟨r,U⟩:=O.long;obtain⟨M,es,hs⟩:=O.side;obtain⟨G,B,L,kd,hc⟩:=O.cnt;have rl:nO (.str lettersS) (.str lettersS I):=⟨I,rfl⟩;have r8:nO (.int 8) (.int 8 r):=⟨r,rfl⟩;have rs:nO (.ref M) (.ref M):=rfl;have rc:nO (.ref G) (.ref G):=rfl;refine⟨_,A2 (yP (M0 (M7 (yX (Vl rfl) (by rfl) O.all PyProof.Rows.boot_all (oH (E8 ["sign"] [] [] rfl (Xj (pv 0)) rfl rfl (λd a C X g=>Iy (i:=0) (Ej _) rfl (Or.inl rfl)) (λd a C X g=>R6) (λd a C X g=>Eg Tr (pv 0) (tQ (by rfl) el rl) rfl)) qN)))) (sV (wT Dc)) yF) (sV (wT (E6 (Zh Kg Kg tV (yX Sm (by rfl) T.len cR (oH (pv 0) qN)) (tQ (by rfl) U r8)) (E6 (Eg MN (pv 0) (tQ (by rfl) L rc) rfl) (J7 (Eg Pz (pv 0) (tQ (by rfl) es rs) rfl)))))),?_⟩;refine⟨_,rfl,z,rfl,ha,λv D=>?_⟩;have p:pG H (upd H v (.l ((wU z).map Dx))):=OJ D;refine GI ER Dx D (λ_ _=>True.intro) ?_ ?_ ?_
  .unfold wU;rw[List.length_map,Z6];exact j
  .rintro i x H2 kk u sm q;obtain⟨c,rfl⟩:∃ c,x=V.str ⟨#[c]⟩:=by
    unfold wU at u;rw[bH] at u;cases e:z.cps.toList[i]? with
    | none=>rw[e] at u;cases u
    | some c=>rw[e] at u;exact⟨c,(bV u).symm⟩
   exact⟨_,rfl,_,_,rfl,rfl,q⟩
  .have em:=FK z Dx λc=>rfl
   refine⟨v,z.cps.toList.map wV,rfl,nX.of (by rw[oO,em]),_,rfl,?_⟩;have y:(z.cps.toList.map wV).all id=z.cps.toList.all wV:=by rw[nA];rfl
   rw[y];refine J3 (λh=>?_) (λh=>?_)
   .have N:z.cps.toList.all wV=false:=by simpa using h
    refine (?_:Q _ _);have:=k _ p;unfold tK at this;rw[N] at this
    simpa using this
   .have N:z.cps.toList.all wV=true:=by simpa using h
    have hz:z.length<=sizeLine:=bS j (by decide);have fin:∀ b,b=((decide ((1:Int)<=z.length)&&decide ((z.length:Int)<=8)) && !(xX z).isSome && !decide (z∈Ea))->Q (.b b) (upd H v (.l ((wU z).map Dx))):=by
     intro b eb;have:=k _ p;unfold tK at this;rw[N,Bool.true_and] at this;rw[eb];exact this
    have S:(qA B (Sum.inr z)).isSome=(xX z).isSome:=by
     rcases hc z with⟨Y,Z⟩ | ⟨t,ns,Y,Z,_⟩<;>rw[Y,Z]<;>rfl
    refine⟨_,rfl,z,rfl,hz,_,_,rfl,rfl,_,rfl,?_⟩;have tail:∀ c:Bool,c=(decide ((1:Int)<=z.length)&&decide ((z.length:Int)<=8))->(if c=true then Uo (D4 (Wu K w true) (rC 0) (tC (V.ref G))) (D4 (Gn K true) (rC 0) (tC (V.ref M))) (L2.start ["text"] [V.str z]) (upd H v (.l ((wU z).map Dx))) Q else Q (.b false) (upd H v (.l ((wU z).map Dx)))):=by
     intro c L;refine J3 (λm=>?_) (λm=>?_)
     .refine⟨_,rfl,z,G,B,rfl,rfl,kd,_,rfl,?_⟩;rw[S];refine J3 (λR=>?_) (λR=>?_)
      .refine⟨_,rfl,M,_,rfl,.inr (hs _),rfl,Zz _,?_⟩;refine fin _ ?_;rw[uU,<- L,m];have n:(!(xX z).isSome)=true:=R;rw[n];rfl
      .refine fin _ ?_;have n:(!(xX z).isSome)=false:=mR.mpr R;rw[n];simp
     .refine fin _ ?_;rw[<- L];have:c=false:=by simpa using m
      rw[this];simp
    refine J3 (λm=>?_) (λm=>?_)
    .refine⟨_,_,rfl,rfl,_,rfl,tail _ ?_⟩;rw[m,Bool.true_and]
    .refine⟨_,rfl,tail _ ?_⟩;have:decide ((1:Int)<=(z.length:Int))=false:=by simpa using m
     rw[this];rfl
def Vm:RD:=λc ds a=>∃ z:Af,ds=[.str z]/\z.cps.all (·<128)=true/\z.length<=1000/\a (.v (.b (tK z)))
theorem Tg (T:Txt g) (O:Tops K w g):qX P w K g base 1 "is_name" K6 ["text"] Vm:=λf fd F=>(KO F T O).imp λB H Q E h=>by
 obtain⟨x,A,ds,G,c,y,r,⟨z,rfl,m,n,s⟩,k⟩:=h;cases r with
 | cons u v =>
  cases v;have:=u.str_inv;subst this;exact⟨z,rfl,m,n,λi d=>k _ _ i s (λb o e _=>d b o e) (c.keep λa t=>by
   obtain⟨D,q⟩:=c.some t;rw[d a _ q,q]) (Rep.b _)⟩
end
theorem Ws:(["output","name"]:Aa Af).Nodup:=by decide +kernel
theorem BZ:(["name","row"]:Aa Af).Nodup:=by decide +kernel
section
variable {P:Ah}{K:nH}
theorem IG:FnScope ["row"] ["row"] (oC Ev):=pK
theorem Yy:FnScope ["row"] ["row"] (oC Ip):=pK
theorem Qa:qX P w K g base 1 "_law_carried" Ev ["row"] B2:=by
 refine rS IG λf d A b s H E x ds F y u q=>?_
 obtain⟨C,c,rfl,z,a⟩:=q;refine⟨_,(oN (pT (qF ["output","name"] [] [] (oS (nI u 0 gD)) (λ_ _ _ _ _=>(rZ (n:=2) rfl (oX (nU 0 Ws) (oX (nU 1 Ws) rY)))) (λ_ _ _ _ _=>(eH 1))))),?_⟩;unfold xA;exact qH c (λp=>D.t [.str p.1,.str p.2]) (λp=>D.str p.2) _ (λG h=>⟨rfl,_,rfl,h⟩) (by omega) (λi p B v e k m=>⟨rfl,rfl,k,m⟩) a
theorem Z7 (g:Kn P w K j base 1 "_law_carried" Ev ["row"] B2):qX P w K j base 2 "_law_wordly" Ip ["row"] E9:=by
 refine rS Yy λf k A d s H E F ds M y b v=>?_
 obtain⟨C,a,rfl,z,G,c⟩:=v;refine⟨_,(oN (pT (qF ["name"] ["row"] [0] (oS (oK b (nI b 0 gD) gD)) (λ_ _ _ _ _=>(nU 0 BZ)) (λ_ _ _ _ _=>(eH 0)) (ht:=λ_ _ _ _ _=>(xJ (yS (wS b) (vQ true) (pv 0) (pM g y (dK (eH 1) gV)))))))),?_⟩;unfold xA;refine wM C.ins D.str D.str (λx=>!decide (x∈a.map λp:Af×Af=>p.2)) _ (λN h=>⟨rfl,_,rfl,_,rfl,h⟩) (by omega) (λi x L B e n t u=>?_) c;have m:(a.map λp=>D.str p.2)=(a.map (·.2)).map D.str:=by rw[aU];rfl
 refine⟨rfl,C,a,rfl,z,.inl rfl,.str x,(a.map (·.2)).map V.str,rfl,by rw[m];exact vN _,?_⟩;rw[uU];show if (!decide (x∈a.map (·.2)))=true then _ else _
 by_cases q:x∈a.map (·.2)
 .exact qL (by rw[bC q];rfl) (u (by rw[bC q];rfl))
 .exact qS (by rw[aY q];rfl) ⟨n,t (by rw[aY q];rfl)⟩
end
theorem Yt:(["name","turned"]:Aa Af).Nodup:=by decide +kernel
theorem GS:(["name","gone"]:Aa Af).Nodup:=by decide +kernel
theorem Km:(["name","word","names"]:Aa Af).Nodup:=by decide +kernel
def Ql:RD:=λd ds c=>∃ (b:Aa Af) (a:Aa (hH×D)) (f:Af->Af),ds=[.t (b.map D.str),.k a]/\b.length<=100/\(∀ x∈b,nR a (Sum.inr x)=some (.str (f x)))/\c (.v (.t ((b.map f).map D.str)))
def Vt:RD:=λd ds c=>∃ (a b:Aa Af),ds=[.t (a.map D.str),.l (b.map D.str)]/\a.length<=100/\c (.v (.t ((a.filter λx=>!decide (x∈b)).map D.str)))
def Ib:RD:=λc ds b=>∃ C a,ds=[nD C a]/\C.gates.length<=100/\C.ins.length<=100/\b (.v (.t (C.names.map D.str)))
section
variable {P:Ah}{K:nH}
theorem OI:FnScope ["names","turned"] ["names","turned"] (oC Jx):=pK
theorem PR:FnScope ["names","gone"] ["names","gone"] (oC J2):=pK
theorem Ze:FnScope ["row"] ["row"] (oC D6):=pK
theorem QZ (T:Txt g):qX P w K g base 1 "all_turned" Jx ["names","turned"] Ql:=by
 refine rS OI λf d A c s H E y ds G z q n=>?_
 obtain⟨u,b,f,rfl,B,t,a⟩:=n;refine⟨_,(oN (pT (pI tY tJ T.tuple bU (dK (qF ["name"] ["turned"] [1] (oS (eH 0)) (λ_ _ _ _ _=>(nU 0 Yt)) (λ_ _ _ _ _=>(nI q 1 (eH 0)))) gV)))),?_⟩;unfold xA dC aC;refine qH u D.str (λx=>D.str (f x)) _ (λL h=>h) (by omega) (λi x F v e k m=>⟨rfl,.str (f x),?_,k,m⟩) ?_
 .show some (nR b (Sum.inr x))=_;rw[t x (aK e)]
 .rw[aU] at a;exact a
theorem JD (T:Txt g):qX P w K g base 1 "without" J2 ["names","gone"] Vt:=by
 refine rS PR λf d A c s H E z ds L B u t=>?_
 obtain⟨v,a,rfl,F,b⟩:=t;refine⟨_,(oN (pT (pI tY tJ T.tuple bU (dK (qF ["name"] ["gone"] [1] (oS (eH 0)) (λ_ _ _ _ _=>(nU 0 GS)) (λ_ _ _ _ _=>(eH 0)) (ht:=λ_ _ _ _ _=>(xJ (zK (wS u) (vQ true) (eH 0) (pv 1))))) gV)))),?_⟩;unfold xA dC aC;refine wM v D.str D.str (λx=>!decide (x∈a)) _ (λM h=>h) (by omega) (λi x G y e k m n=>?_) b;refine⟨.str x,a.map V.str,rfl,vN _,?_⟩;rw[uU];show if (!decide (x∈a))=true then _ else _
 by_cases q:x∈a
 .exact qL (by rw[bC q];rfl) (n (by rw[bC q];rfl))
 .exact qS (by rw[aY q];rfl) ⟨k,m (by rw[aY q];rfl)⟩
theorem Tk (T:Txt j):qX P w K j base 1 "cell_names" D6 ["row"] Ib:=by
 refine rS Ze λf d A c s H E v ds G y b q=>?_
 obtain⟨C,t,rfl,z,B,a⟩:=q;refine⟨_,(oN (pT (nV oE oF (oK b (nI b 0 gD) gD) (pI tY tJ T.tuple bU (dK (qF ["name","word","names"] [] [] (oS (oK b (nI b 0 gD) gD)) (λ_ _ _ _ _=>(rZ (n:=3) rfl (oX (nU 0 Km) (oX (nU 1 Km) (oX (nU 2 Km) rY))))) (λ_ _ _ _ _=>(eH 0))) gV))))),?_⟩;refine⟨rfl,_,rfl,_,rfl,?_⟩;unfold dC aC;refine qH C.gates oY (λg=>D.str g.1) _ (λL h=>⟨rfl,_,rfl,_,rfl,h⟩) (by omega) (λi x F u e k m=>⟨rfl,rfl,k,m⟩) ?_;have e:C.ins.map D.str++C.gates.map (λg=>D.str g.1)=C.names.map D.str:=by unfold Cel.names;rw[List.map_append,List.map_map];rfl
 rw[<- e] at a;exact⟨by simp;omega,a⟩
end
theorem Q6:(["name"]:Aa Af).Nodup:=by decide +kernel
theorem Qf:(["output","name"]:Aa Af).Nodup:=by decide +kernel
def sO (c:Af) (g:Aa Af):Aa (hH×D):=g.map λx=>((Sum.inr x:hH),D.str (c++x))
theorem yB:∀ (b a:Aa (hH×D)),(b.map (·.1)).Nodup->nR (pR a b) k=(nR b k).or (nR a k)
 | [],a,_=>by rw[Ct];rfl
 | (j,d)::b,a,h=>by
  obtain⟨i,m⟩:=bP.mp h;have e:pR a ((j,d)::b)=pR (pZ a j d) b:=rfl;rw[e,yB b _ m,A8,uM];by_cases q:j=k
  .rw[aQ q,aQ q];have:nR b k=none:=by
    cases z:nR b k with
    | none=>rfl
    | some c =>
     refine absurd ?_ i;have t:(b.any λf=>decide (f.1=k))=true:=by rw[Im,z];rfl
     obtain⟨f,n,s⟩:=jB.mp t;exact aO.mpr ⟨f,n,by rw[q];exact fU s⟩
   rw[this];rfl
  .rw[aG q,aG q]
theorem Rc:∀ (b a:Aa (hH×D)),((a++b).map (·.1)).Nodup->pR a b=a++b
 | [],a,_=>by rw[cO];rfl
 | p::b,a,h=>by
  have d:p.1∉a.map (·.1):=λq=>by
   rw[aT] at h;exact (bW.mp h).2.2 p.1 q p.1 (by simp) rfl
  have e:pR a (p::b)=pR (pZ a p.1 p.2) b:=rfl;have c:pZ a p.1 p.2=a++[p]:=by
   unfold pZ;rw[aG λz=>by
    obtain⟨f,i,k⟩:=jB.mp z;exact d (aO.mpr ⟨f,i,fU k⟩)]
  rw[e,c,Rc b (a++[p]) (by simpa using h)];simp
theorem D0:∀ (b a:Aa (hH×D)),(pR a b).length<=a.length+b.length
 | [],a=>bB _
 | p::b,a=>by
  have e:pR a (p::b)=pR (pZ a p.1 p.2) b:=rfl;have c:=D0 b (pZ a p.1 p.2);have d:=Db a p.1 p.2;rw[e,cS];omega
theorem E4:∀ {g:Aa Af},x∈g->nR (sO c g) (Sum.inr x)=some (.str (c++x))
 | y::g,h=>by
  show nR (((Sum.inr y:hH),D.str (c++y))::sO c g) (Sum.inr x)=_;rw[uM];by_cases q:y=x
  .subst q;rw[aQ rfl]
  .rw[aG λz=>q (eI z)];rcases aM.mp h with z | z
   .exact absurd z.symm q
   .exact E4 z
theorem Jc (g:j.Nodup):((sO c j).map (·.1)).Nodup:=by
 unfold sO;rw[aU];exact iP _ (λx y h e=>h (eI e)) g
def Ni:RD:=λd ds c=>∃ C a,ds=[nD C a]/\C.names.Nodup/\C.gates.length<=100/\C.ins.length<=100/\(∀ x∈C.names,x.length<=1000)/\∀ b,(∀ x∈C.names,nR b (Sum.inr x)=some (.str ("a" ++ x)))->c (.o (.k b))
def nZ (g:Aa (Af×Af)) (x:Af):Af:=match g.find? λp=>decide (p.2=x) with
 | some p => "a" ++ p.1
 | none => "b" ++ x
def zQ (g:Aa (Af×Af)):Aa (hH×D):=g.map λp=>((Sum.inr p.2:hH),D.str ("a" ++ p.1))
theorem Pr:∀ (g:Aa (Af×Af)) (d:Ab D),(d=some (.str ("b" ++ x)))->(nR (zQ g) (Sum.inr x)).or d=some (.str (nZ g x))
 | [],d,h=>h
 | p::g,d,h=>by
  show (nR (((Sum.inr p.2:hH),D.str ("a" ++ p.1))::zQ g) (Sum.inr x)).or d=_;rw[uM];unfold nZ;rw[fM];by_cases q:p.2=x
  .rw[aQ (by rw[q]),bC q];rfl
  .rw[aG λz=>q (eI z),aY q];exact Pr g d h
def Ml:RD:=λe ds d=>∃ C b a,ds=[nD C b,.t (a.map λp=>D.t [.str p.1,.str p.2])]/\C.names.Nodup/\C.gates.length<=100/\C.ins.length<=100/\(∀ x∈C.names,x.length<=1000)/\(a.map (·.2)).Nodup/\a.length<=100/\(∀ p∈a,p.1.length<=1000)/\∀ c,(∀ x∈C.names,nR c (Sum.inr x)=some (.str (nZ a x)))->d (.o (.k c))
section
variable {P:Ah}{K:nH}
theorem Z5:FnScope ["row"] ["row"] (oC E5):=pK
theorem Vd:FnScope ["row","pairs","turned"] ["row","pairs"] (oC E2):=pK
theorem MZ (T:Txt l) (j:Kn P w K l base 1 "cell_names" D6 ["row"] Ib):qX P w K l base 2 "first_names" E5 ["row"] Ni:=by
 refine rS Z5 λf k A c s H E L ds Q y M v=>?_
 obtain⟨C,d,rfl,F,z,B,a,b⟩:=v;have N:C.names.length<=200:=by unfold Cel.names;rw[List.length_append,List.length_map];omega
 refine⟨_,(oN (pT (pI (wX rfl) xU T.dict cV (dK (qF ["name"] [] [] (oS (pM j y (dK (eH 0) gV))) (λ_ _ _ _ _=>(nU 0 Q6)) (λ_ _ _ _ _=>(oW (dK (eH 0) (dK (nV oE oF qM (eH 0)) gV))))) gV)))),?_⟩;unfold xA dC aC;refine qH C.names D.str (λn=>.t [.str n,.str ("a" ++ n)]) _ (λR h=>⟨C,d,rfl,z,B,.inl rfl,h⟩) (by omega) (λi n O G e q u=>?_) ?_
 .have:=a n (aK e);exact⟨by show 1+n.length<=100000;omega,by show 2<=1000;decide,q,u⟩
 have m:uH (C.names.map λn=>D.t [.str n,.str ("a" ++ n)])=some (sO "a" C.names):=by
  rw[yD (g:=λn=>((Sum.inr n:hH),D.str ("a" ++ n))) (λn=>⟨.str n,rfl,rfl⟩)];rfl
 refine⟨_,m,by unfold sO;rw[List.length_map];omega,?_⟩;refine b _ λx a=>?_
 rw[yB _ _ (Jc F),E4 a];rfl
theorem HC (T:Txt l) (j:Kn P w K l base 1 "cell_names" D6 ["row"] Ib):qX P w K l base 2 "second_names" E2 ["row","pairs"] Ml:=by
 refine rS Vd λf R A L s H E dk ds Φ W hu S=>?_
 obtain⟨C,c,a,rfl,nd,I,J,B,M,U,V,G⟩:=S;have r:C.names.length<=200:=by unfold Cel.names;rw[List.length_append,List.length_map];omega
 refine⟨_,(nY (oB 2 Vd.nd (pI (wX rfl) xU T.dict cV (dK (qF ["name"] [] [] (oS (pM j W (dK (eH 0) gV))) (λ_ _ _ _ _=>(nU 0 Q6)) (λ_ _ _ _ _=>(oW (dK (eH 0) (dK (nV oE oF qM (eH 0)) gV))))) gV))) (nY (wJ (uW eV PySem.F.slot_dict_update PySem.F.type_dict_update Rh Rn (pv 2) (dK (pI (wX rfl) xU T.dict cV (dK (qF ["output","name"] [] [] (oS (eH 1)) (λ_ _ _ _ _=>(rZ (n:=2) rfl (oX (nU 0 Qf) (oX (nU 1 Qf) rY)))) (λ_ _ _ _ _=>(oW (dK (eH 1) (dK (nV oE oF qM (eH 0)) gV))))) gV)) gV))) (oN (pT (K4 2 (pv 2)))))),?_⟩;refine nJ (λO=>O=[.v (nD C c),.v (.t (a.map λp=>D.t [.str p.1,.str p.2])),.o (.k (pR [] (sO "b" C.names)))]) (λN z=>?_) ?_
 .unfold rQ dC aC;refine qH C.names D.str (λn=>.t [.str n,.str ("b" ++ n)]) _ (λΨ h=>⟨C,c,rfl,I,J,.inl rfl,h⟩) (by omega) (λi n ys Q e q u=>?_) ?_
  .have:=B n (aK e);exact⟨by show 1+n.length<=100000;omega,by show 2<=1000;decide,q,u⟩
  have m:uH (C.names.map λn=>D.t [.str n,.str ("b" ++ n)])=some (sO "b" C.names):=by
   rw[yD (g:=λn=>((Sum.inr n:hH),D.str ("b" ++ n))) (λn=>⟨.str n,rfl,rfl⟩)];rfl
  exact⟨_,m,by unfold sO;rw[List.length_map];omega,z _ rfl⟩
 rintro _ rfl;have Y:=D0 (sO "b" C.names) [];have Z:=D0 (zQ a) [];have l3:(sO "b" C.names).length<=200:=by unfold sO;rw[List.length_map];exact r
 have l4:(zQ a).length<=100:=by unfold zQ;rw[List.length_map];exact U
 rw[dL] at Y Z;have b:((zQ a).map (·.1)).Nodup:=by
  unfold zQ;rw[aU];have:((a.map (·.2)).map (Sum.inr:Af->hH)).Nodup:=iP _ (λx y h e=>h (eI e)) M;rw[aU] at this;exact this
 refine nJ (λO=>∃ d,(∀ x∈C.names,nR d (Sum.inr x)=some (.str (nZ a x)))/\O=[.v (nD C c),.v (.t (a.map λp=>D.t [.str p.1,.str p.2])),.o (.k d)]) (λN z=>?_) ?_
 .unfold V1 dW aC dC;refine⟨rfl,?_⟩;refine qH a (λp=>D.t [.str p.1,.str p.2]) (λp=>.t [.str p.2,.str ("a" ++ p.1)]) _ (λΨ h=>h) (by omega) (λi p ys Q e q u=>?_) ?_
  .have:=V p (aK e);exact⟨rfl,rfl,by show 1+p.1.length<=100000;omega,by show 2<=1000;decide,q,u⟩
  have m:uH (a.map λp=>D.t [.str p.2,.str ("a" ++ p.1)])=some (zQ a):=by
   rw[yD (g:=λp:Af×Af=>((Sum.inr p.2:hH),D.str ("a" ++ p.1))) (λp=>⟨.str p.2,rfl,rfl⟩)];rfl
  refine⟨_,m,by omega,?_⟩;refine⟨by omega,z _ ⟨_,λx B=>?_,rfl⟩⟩;rw[Rc (zQ a) [] b,hV,yB _ _ b];exact Pr a _ (by rw[yB _ _ (Jc nd),E4 B];rfl)
 rintro _ ⟨d,X,rfl⟩;exact G d X
end
theorem Mv:(["name","word","names","turned"]:Aa Af).Nodup:=by decide +kernel
theorem GR:(["pair","turned"]:Aa Af).Nodup:=by decide +kernel
def sF (f:Af->Af) (g:Af×Af×Aa Af):Af×Af×Aa Af:=(f g.1,g.2.1,g.2.2.map f)
def uA (f:Af->Af) (C:Cel):Cel:=⟨C.ins.map f,C.gates.map (sF f),C.outs.map f⟩
def sM (f:Af->Af) (g:Aa (Af×Af)):Aa (Af×Af):=g.map λp=>(f p.1,f p.2)
def Wd:RD:=λd ds c=>∃ C a b f,ds=[nD C a,.k b]/\GC C/\a.length<=100/\(∀ p∈a,p.1∈C.names/\p.2∈C.names)/\(∀ x∈C.names,nR b (Sum.inr x)=some (.str (f x)))/\c (.v (nD (uA f C) (sM f a)))
section
variable {P:Ah}{K:nH}
theorem G4:FnScope ["row","turned","cell","gates","along"] ["row","turned"] (oC Ik):=pK
theorem Rb {w:Af}{n:Nat}(h:ArOk w n):n<=3:=by
 rcases h.ok with⟨_,q | q⟩ | ⟨_,q⟩ | ⟨_,q⟩ | ⟨_,q⟩ | ⟨_,q⟩<;>omega
theorem EI (T:Txt r) (j:Kn P w K r base 1 "all_turned" Jx ["names","turned"] Ql):qX P w K r base 2 "row_turned" Ik ["row","turned"] Wd:=by
 refine rS G4 λf X A R s H E dk ds Φ L d Y=>?_
 obtain⟨C,b,a,f,rfl,u,lp,Z,m,Q⟩:=Y;have li:=u.li;have lg:=u.lg;have lo:=u.lo;refine⟨_,(nY (oB 2 G4.nd (nI d 0 gD)) (nY (zV 3 ["name","word","names"] ["turned"] [1] G4.nd (oS (nI d 2 gD)) (λ_ _ _ _ _=>(rZ (n:=3) rfl (oX (nU 0 Mv) (oX (nU 1 Mv) (oX (nU 2 Mv) rY))))) (λ_ _ _ _ _=>(oW (dK (nI d 3 (eH 0)) (dK (eH 1) (dK (pM j L (dK (eH 2) (dK (eH 3) gV))) gV)))))) (nY (zV 4 ["pair"] ["turned"] [1] G4.nd (oS (nI d 0 gD)) (λ_ _ _ _ _=>(nU 0 GR)) (λ_ _ _ _ _=>(pM j L (dK (eH 0) (dK (eH 1) gV))))) (oN (pT (oW (dK (oW (dK (pM j L (dK (nI d 2 gD) (dK (eH 1) gV))) (dK (pI tY tJ T.tuple bU (dK (eH 3) gV)) (dK (pM j L (dK (nI d 2 gD) (dK (eH 1) gV))) gV)))) (dK (pI tY tJ T.tuple bU (dK (eH 4) gV)) gV)))))))),?_⟩;refine nJ (λF=>F=[.v (nD C b),.v (.k a),.v (yU C),.n,.n]) (λN B=>⟨rfl,_,rfl,B _ rfl⟩) ?_;rintro _ rfl;refine nJ (λF=>F=[.v (nD C b),.v (.k a),.v (yU C),.o (.l ((uA f C).gates.map oY)),.n]) (λN B=>?_) ?_
 .unfold rQ;refine qH C.gates oY (λg=>oY (sF f g)) _ (λΨ h=>⟨rfl,_,rfl,h⟩) (by omega) (λi g U S e M O=>?_) (B _ ?_)
  .have G:=aK e;obtain⟨V,W⟩:=u.gt.at e;have I:∀ p∈g.2.2,p∈C.names:=λp q=>by
    rcases aW.mp (W p q) with z | z
    .exact aL _ z
    .obtain⟨y,J,rfl⟩:=aO.mp z;exact aX _ (bQ (List.mem_of_mem_take J))
   have l3:=Rb V;refine⟨rfl,rfl,rfl,.str (f g.1),?_,g.2.2,a,f,rfl,by omega,λx c=>m x (I x c),.inl rfl,by show 3<=1000;decide,M,O⟩;show some (nR a (Sum.inr g.1))=_;rw[m g.1 (aX _ (bQ G))]
  .unfold uA;dsimp only;rw[List.map_map];rfl
 rintro _ rfl;refine nJ (λF=>F=[.v (nD C b),.v (.k a),.v (yU C),.o (.l ((uA f C).gates.map oY)),.o (.l ((sM f b).map λp=>D.t [.str p.1,.str p.2]))]) (λN B=>?_) ?_
 .unfold rQ;refine qH b (λp=>D.t [.str p.1,.str p.2]) (λp=>D.t [.str (f p.1),.str (f p.2)]) _ (λΨ h=>⟨rfl,_,rfl,h⟩) (by omega) (λi p U S e M O=>?_) (B _ ?_)
  .have G:=Z p (aK e);refine⟨[p.1,p.2],a,f,rfl,by show 2<=100;decide,λx c=>?_,.inl rfl,M,O⟩;rcases aM.mp c with z | z
   .rw[z];exact m _ G.1
   .rw[aJ.mp z];exact m _ G.2
  .unfold sM;rw[List.map_map];rfl
 rintro _ rfl;refine⟨rfl,_,rfl,C.ins,a,f,rfl,by omega,λx c=>m x (aL _ c),.inl rfl,rfl,_,rfl,C.outs,a,f,rfl,by omega,λx c=>m x (u.os x c),.inl rfl,by show 3<=1000;decide,by show 2<=1000;decide,Q⟩
end
theorem Wy:(["output","name"]:Aa Af).Nodup:=by decide +kernel
def rG (g:Aa (Af×Af)):Aa Af:=g.map λp => "a" ++ p.1
def vO (j g:Aa Af):Aa Af:=j.filter λx=>!decide (x∈g)
def Ot (C D:Cel) (g:Aa Af):Cel:=⟨C.ins++vO D.ins g,C.gates++D.gates,vO C.outs g++D.outs⟩
def T5:RD:=λf ds e=>∃ C c a d b,ds=[nD C c,nD a d,.t (b.map λp=>D.t [.str p.1,.str p.2])]/\C.ins.length<=100/\C.gates.length<=100/\C.outs.length<=100/\a.ins.length<=100/\a.gates.length<=100/\a.outs.length<=100/\c.length<=100/\d.length<=100/\b.length<=100/\(∀ p∈b,p.1.length<=1000)/\e (.v (nD (Ot C a (rG b)) (c++d)))
section
variable {P:Ah}{K:nH}
theorem Ju:FnScope ["one","other","pairs","gone","inputs","outputs"] ["one","other","pairs"] (oC Jj):=pK
theorem CU (T:Txt j) (g:Kn P w K j base 1 "without" J2 ["names","gone"] Vt):qX P w K j base 2 "joined" Jj ["one","other","pairs"] T5:=by
 refine rS Ju λf F A z s H E Z ds X B c Q=>?_
 obtain⟨C,q,d,u,a,rfl,U,J,lo,V,S,W,r,I,lp,R,y⟩:=Q;refine⟨_,(nY (zV 3 ["output","name"] [] [] Ju.nd (oS (eH 2)) (λ_ _ _ _ _=>(rZ (n:=2) rfl (oX (nU 0 Wy) (oX (nU 1 Wy) rY)))) (λ_ _ _ _ _=>(nV oE oF qM (eH 0)))) (nY (oB 4 Ju.nd (nV oE oF (oK c (nI c 0 gD) gD) (pM g B (dK (oK c (nI c 1 gD) gD) (dK (eH 3) gV))))) (nY (oB 5 Ju.nd (nV oE oF (pM g B (dK (oK c (nI c 0 gD) gD) (dK (eH 3) gV))) (oK c (nI c 1 gD) gD))) (oN (pT (oW (dK (oW (dK (eH 4) (dK (nV oE oF (oK c (nI c 0 gD) gD) (oK c (nI c 1 gD) gD)) (dK (eH 5) gV)))) (dK (nV oE oF (nI c 0 gD) (nI c 1 gD)) gV)))))))),?_⟩;let b:Aa Sl:=[.v (nD C q),.v (nD d u),.v (.t (a.map λp=>D.t [.str p.1,.str p.2]))];refine nJ (λm=>m=b++[.o (.l ((rG a).map D.str)),.n,.n]) (λN k=>?_) ?_
 .unfold rQ;refine qH a (λp=>D.t [.str p.1,.str p.2]) (λp=>D.str ("a" ++ p.1)) _ (λΨ h=>h) (by omega) (λi p ys Y e M O=>?_) (k _ ?_)
  .have:=R p (aK e);exact⟨rfl,rfl,by show 1+p.1.length<=100000;omega,M,O⟩
  .unfold rG;rw[List.map_map];rfl
 rintro _ rfl;have f1:=bK (λx=>!decide (x∈rG a)) d.ins;have f2:=bK (λx=>!decide (x∈rG a)) C.outs;refine nJ (λm=>m=b++[.v (.l ((rG a).map D.str)),.v (.t ((C.ins++vO d.ins (rG a)).map D.str)),.n]) (λN k=>?_) ?_
 .refine⟨rfl,_,rfl,_,rfl,rfl,_,rfl,_,rfl,d.ins,rG a,rfl,by omega,.inl rfl,by simp only[aA];omega,k _ ?_⟩;rw[aT];rfl
 rintro _ rfl;refine nJ (λm=>m=b++[.v (.l ((rG a).map D.str)),.v (.t ((C.ins++vO d.ins (rG a)).map D.str)),.v (.t ((vO C.outs (rG a)++d.outs).map D.str))]) (λN k=>?_) ?_
 .refine⟨rfl,_,rfl,_,rfl,C.outs,rG a,rfl,by omega,.inl rfl,rfl,_,rfl,_,rfl,by simp only[aA];omega,k _ ?_⟩;rw[aT (l₁:=vO C.outs (rG a))];rfl
 rintro _ rfl;refine⟨rfl,_,rfl,_,rfl,rfl,_,rfl,_,rfl,by simp only[aA];omega,by show 3<=1000;decide,rfl,_,rfl,rfl,_,rfl,by simp only[aA];omega,by show 2<=1000;decide,?_⟩;have G:C.gates.map oY++d.gates.map oY=(C.gates++d.gates).map oY:=aT.symm;have L:(q.map λp=>D.t [.str p.1,.str p.2])++(u.map λp=>D.t [.str p.1,.str p.2])=(q++u).map λp=>D.t [.str p.1,.str p.2]:=aT.symm
 show X (.v (.t [.t [.t ((C.ins++vO d.ins (rG a)).map D.str),.t (C.gates.map oY++d.gates.map oY),.t ((vO C.outs (rG a)++d.outs).map D.str)],.t ((q.map λp=>D.t [.str p.1,.str p.2])++(u.map λp=>D.t [.str p.1,.str p.2]))]));rw[G,L];exact y
end
end Lw
namespace L2
open PySem PySem.Spec PyProof.Rows Lw
def Oz:V->Aa V->Hp->VK->Prop:=λx b H Q=>∃ (l:Ad) (a:Aa Af) (y:Af) (j:Nat),x = .ref l/\b=[.str y]/\H l=some (.l (a.map V.str))/\a[j]?=some y/\(∀ m,m<j->a[m]?≠some y)/\Q .e (upd H l (.l ((a.eraseIdx j).map V.str)))
theorem K8 (f:g->j):∀ (l:Aa g) (n:Nat),(l.map f).eraseIdx n=(l.eraseIdx n).map f
 | [],_=>by simp
 | a::l,0=>rfl
 | a::l,n+1=>by rw[bD,gE,gE,bD,K8 f l n]
section
variable {X:Cx}
theorem V5:K7 X "list.remove" Oz:=by
 intro K s p H x g v Z Q I S R h;obtain⟨l,b,y,j,rfl,rfl,E,G,B,q⟩:=h;cases S;obtain⟨u,rfl,P⟩:=R.one;obtain⟨t,rfl⟩:=P;obtain⟨z,a,n,r,N,e⟩:=I.lstM E;have W:=DY r;have f:a.length=b.length:=by rw[<- r.length,aA]
 have d:∀ m (k:m<a.toArray.size),isStrOf y a.toArray[m]=decide (b[m]?=some y):=λm k=>by
  have A:m<a.length:=by simpa using k
  have O:(b.map V.str)[m]?=some (V.str (b[m]'(by omega))):=by rw[bH,aH (by omega)];rfl
  obtain⟨o,hw,Y,rfl⟩:=r.get O;have L:a.toArray[m] = .str (b[m]'(by omega)) Y:=by
   rw[aH A] at hw
   simpa using bV hw
  rw[L,aH (by omega)];show (b[m]'(by omega) == y)=_;by_cases c:b[m]'(by omega)=y<;>simp[c]
 have M:=(aP.mp G).1;have D:a.toArray.size<=sizeLine:=by rw[bE,f];have:=N;simp at this;omega
 refine mJ F.slot_list_remove ⟨_,e,rfl⟩ F.entry_list_remove (F.args_list_remove_2 _ _)
  (MeetsSeq.list_remove l a.toArray n (.str y t) (isStrOf y) (λw hw=>eq_isStrOf y t W w (by simpa using hw)) j (by rw[bE];omega) ?_ ?_ D) ⟨e,?_⟩
 .rw[d];exact bC G
 .intro m k i;rw[d];exact aY (B m i)
 refine⟨.e,_,I.lset (its':=a.eraseIdx j) E e ?_ ?_ ?_,rfl,q⟩
 .show a.toArray.eraseIdxIfInBounds j=(a.eraseIdx j).toArray;rw[kU]
 .rw[<- K8];exact r.eraseIdx j
 .have:=Np (b.map V.str) j;rw[K8] at this;omega
end
def ML:OW:=λc ds d=>match c,ds with
 | .l b,[.str y]=>∃ (a:Aa Af) (j:Nat),b=a.map D.str/\a[j]?=some y/\(∀ m,m<j->a[m]?≠some y)/\d .e (.l ((a.eraseIdx j).map D.str))
 | _,_=>False
theorem Qn {K:nH}:∀ {j:Aa Af}{l:Aa V},Reps K A H (j.map D.str) l->l=j.map V.str
 | [],_,h=>by cases h;rfl
 | y::j,_,h=>by
  cases h with
  | cons g r=>rw[g.str_inv,Qn r];rfl
theorem Wl {K:nH}:∀ (g:Aa Af),Reps K A H (g.map D.str) (g.map V.str)
 | []=>.nil
 | y::g=>.cons (.str y) (Wl g)
theorem Oc {K:nH}:Dv K Oz ML:=by
 intro A H a c ds v w Q _ n rd b k;cases c<;>first | exact False.elim b | skip
 cases rd with
 | nil=>exact False.elim b
 | cons m rd =>
 rename_i d _ _ _
 cases d<;>first | exact False.elim b | skip
 cases rd with
 | cons _ _=>exact False.elim b
 | nil =>
  obtain⟨u,h,r⟩:=n;have:=m.str_inv;subst this;obtain⟨q,j,rfl,f,i,b⟩:=b;have:=Qn r;subst this;exact⟨a,q,_,j,rfl,rfl,h,f,i,k _ _ _ _ b .e λs t=>⟨_,oO,Wl _⟩⟩
section
variable {X:Cx}
theorem Il (l:X.mg n=some (.int i t)) (j:Gl X n:=by rfl) (g:(n == ("__debug__" : Af))=false:=by decide):PD X (.Name n p) (cd (.int i)):=D3 (tQ (v:=.int i) j l ⟨t,rfl⟩ g) λ_ _ _=>.int i
end
end L2
namespace Lw
open PySem L2
structure Bds (mg:Str->Option Value):Prop where
 i:∃ t,mg "MOST_INPUTS" = some (.int 6 t)
 o:∃ t,mg "MOST_OUTPUTS" = some (.int 6 t)
 g:∃ t,mg "MOST_GATES" = some (.int 24 t)
 a:∃ t,mg "MOST_ALONG" = some (.int 4 t)
structure PrsOk (os is:List Str) (ps:List (Str×Str)):Prop where
 n1:(ps.map (·.1)).Nodup
 n2:(ps.map (·.2)).Nodup
 m:∀ p∈ps,p.1∈os/\p.2∈is
def qV (g j:Aa Af):Aa Af:=g.filter λx=>!decide (x∈j)
theorem Sz (p:g.Nodup) (C:x∈g) (r:x∉o):∃ j,(qV g o)[j]?=some x/\(∀ m,m<j->(qV g o)[m]?≠some x)/\(qV g o).eraseIdx j=qV g (o++[x]):=by
 have s:x∈qV g o:=bR.mpr ⟨C,by rw[aY r];rfl⟩;have c:(qV g o).Nodup:=p.filter _;obtain⟨j,d,e⟩:=lZ s;refine⟨j,by rw[aH d,e],λm t q=>?_,?_⟩
 .obtain⟨k,D⟩:=aP.mp q;have:=(List.getElem?_inj (j:=j) k c).mp (q.trans (by rw[aH d,e]));omega
 .have i:(qV g o).eraseIdx j=(qV g o).filter λy=>!decide (y=x):=by
   have go:∀ (l:Aa Af) (j:Nat),l.Nodup->l[j]?=some x->l.eraseIdx j=l.filter λy=>!decide (y=x):=by
    intro l;induction l with
    | nil=>intro j _ h;cases h
    | cons a l u =>
     intro j p h;obtain⟨f,v⟩:=bP.mp p;cases j with
     | zero =>
      have h:a=x:=by simpa using h
      subst h;rw[List.eraseIdx_cons_zero,lH,aG (by simp)];exact (jU.mpr λb n=>by rw[aY (λz:b=a=>f (z▸n))];rfl).symm
     | succ j =>
      have h:l[j]?=some x:=by simpa using h
      have w:¬ a=x:=λz=>f (z▸aK h)
      rw[gE,lH,aQ (by rw[aY w];rfl),u j v h]
   exact go _ j c (by rw[aH d,e])
  rw[i];unfold qV;rw[List.filter_filter];refine mU λy _=>?_
  by_cases A:y=x<;>by_cases B:y∈o<;>simp[A,B]
section
variable {P:Ah}{K:nH}
theorem JP:FnScope ["name","free"] ["name","free"] (oC Hq):=pK
theorem Ep:FnScope ["one","other","pairs","outputs","inputs","output","name"] ["one","other","pairs"] (oC J0):=pK
theorem Ph:FnScope ["row","cell"] ["row"] (oC Ig):=pK
end
structure AZ (x:Str):Prop where
 az:∀ c∈x.cps.toList,97<=c/\c<=122
 lo:1<=x.length
 hi:x.length<=100
structure RG (C:Cel) (prs:List (Str×Str)):Prop where
 gc:GC C
 n1:(prs.map (·.1)).Nodup
 n2:(prs.map (·.2)).Nodup
 m:∀ p∈prs,p.1∈C.outs/\p.2∈C.ins
 lp:prs.length<=40
 az:∀ x∈C.names,AZ x
structure Fits (C:Cel) (prs:List (Str×Str)):Prop where
 i:C.ins.length<=6
 o:C.outs.length<=6
 g:C.gates.length<=24
 a:prs.length<=4
 l:∀ x∈C.names,x.length<=8
 n:("and" : Str)∉C.names
def fA (x:Af):Af := "a" ++ x
def fB (x:Af):Af := "b" ++ x
theorem T3:∀ {l:Aa g},(l.map f).Nodup->∀ {a b:g},a∈l->b∈l->f a=f b->a=b
 | c::l,h,a,b,k,m,e=>by
  obtain⟨d,i⟩:=bP.mp h;rcases aM.mp k with p | p<;>rcases aM.mp m with q | q
  .rw[p,q]
  .subst p;exact absurd (by rw[e];exact bQ q) d
  .subst q;exact absurd (by rw[<- e];exact bQ p) d
  .exact T3 i p q e
def jC (C D:Cel) (g:Aa (Af×Af)):Cel:=Ot (uA fA C) (uA (nZ g) D) (rG g)
def jP (g j l:Aa (Af×Af)):Aa (Af×Af):=sM fA g++sM (nZ l) j
theorem Fi (g:Aa (Af×Af)) (x:Af):(∃ p∈g,p.2=x/\nZ g x=fA p.1)\/(x∉g.map (·.2)/\nZ g x=fB x):=by
 unfold nZ;cases e:g.find? λp=>decide (p.2=x) with
 | some p=>exact .inl ⟨p,List.mem_of_find?_eq_some e,fU (List.find?_some (p:=λp:Af×Af=>decide (p.2=x)) e),rfl⟩
 | none =>
  refine .inr ⟨λz=>?_,rfl⟩;obtain⟨p,a,q⟩:=aO.mp z;have:=List.find?_eq_none.mp e p a;simp[q] at this
theorem V3 {x y:Af}(h:x.cps.toList=y.cps.toList):x=y:=by
 obtain⟨a⟩:=x;obtain⟨b⟩:=y;have:a=b:=by simpa using h
 rw[this]
theorem Fx (x:Af):(fA x).cps.toList=97::x.cps.toList:=rT "a" x
theorem Fd (x:Af):(fB x).cps.toList=98::x.cps.toList:=rT "b" x
theorem Ci (h:fA x=fA y):x=y:=V3 (by have:=cA (λz:Af=>z.cps.toList) h;simpa [Fx] using this)
theorem Za (h:fB x=fB y):x=y:=V3 (by have:=cA (λz:Af=>z.cps.toList) h;simpa [Fd] using this)
theorem Li (x y:Af):fA x≠fB y:=λh=>by have:=cA (λz:Af=>z.cps.toList) h;simp[Fx,Fd] at this
theorem HF (x:Af):(fA x).length=x.length+1:=by rw[rN,Fx,cS,<- rN]
theorem FQ (x:Af):(fB x).length=x.length+1:=by rw[rN,Fd,cS,<- rN]
theorem MM (h:97<=c/\c<=122):wV c=true:=by
 have a:∀ k:Fin 26,wV (97+k.val)=true:=by decide +kernel
 have:=a ⟨c-97,by omega⟩
 rwa [show 97+(c-97)=c by omega] at this
theorem RB {z:Af}{c:Nat}{r:Aa Nat}(h:z.cps.toList=c::r) (j:c=97\/c=98) (g:z ≠ "and"):xX z=none/\z∉Ea:=by
 have ne:∀ (y:Af) (d:Nat),y.cps.toList.head?=some d->d≠97->d≠98->z≠y:=λy d e a b q=>by
  rw[<- q,h] at e;have e:c=d:=bV e;omega
 have a:=ne "or" 111 rfl (by decide) (by decide);have b:=ne "odd" 111 rfl (by decide) (by decide);have f:=ne "most" 109 rfl (by decide) (by decide);have i:=ne "not" 110 rfl (by decide) (by decide);have k:=ne "one" 111 rfl (by decide) (by decide);have m:=ne "nil" 110 rfl (by decide) (by decide);have n:=ne "in" 105 rfl (by decide) (by decide);have s:=ne "out" 111 rfl (by decide) (by decide);refine⟨?_,λq=>?_⟩
 .unfold xX;rw[aG (by simp[g,a,b]),aG f,aG i,aG (by simp[k,m])]
 .unfold Ea at q;rcases aM.mp q with q | q
  .exact n q
  .exact s (aJ.mp q)
theorem Tu {z:Af}{c:Nat}{r:Aa Nat}(h:z.cps.toList=c::r) (g:c=97\/c=98) (l:∀ x∈r,97<=x/\x<=122) (o:z.length<=8) (j:z ≠ "and"):z.cps.all (·<128)=true/\z.length<=1000/\tK z=true:=by
 have b:∀ x∈z.cps.toList,97<=x/\x<=122:=λx a=>by
  rw[h] at a;rcases aM.mp a with q | q
  .omega
  .exact l x q
 obtain⟨d,e⟩:=RB h g j;have f:1<=z.length:=by rw[rN,h,cS];omega
 refine⟨?_,by omega,?_⟩
 .rw[<- Array.all_toList,gB];intro x a;have:=b x a;exact bC (by omega)
 .unfold tK;rw[d,aY e,bC (show (1:Int)<=z.length by omega),bC (show (z.length:Int)<=8 by omega)];have:z.cps.toList.all wV=true:=gB.mpr λx a=>MM (b x a)
  rw[this];rfl
theorem AK {D:Cel}{j:Aa (Af×Af)}(r:D.names.Nodup) (o:∀ p∈j,p.2∈D.ins){g:Af}(l:g∈D.gates.map (·.1)):g∉j.map (·.2):=λz=>by
 obtain⟨p,a,rfl⟩:=aO.mp z;exact (bW.mp r).2.2 _ (o p a) _ l rfl
theorem Nr (h:x∉g.map (·.2)):nZ g x=fB x:=by
 rcases Fi g x with⟨p,b,e,_⟩ | ⟨_,a⟩
 .exact absurd (aO.mpr ⟨p,b,e⟩) h
 .exact a
theorem Py (C D:Cel) (j:Aa (Af×Af)):(jC C D j).gates.map (·.1)=C.gates.map (λg=>fA g.1)++D.gates.map λg=>nZ j g.1:=by
 show ((uA fA C).gates++(uA (nZ j) D).gates).map (·.1)=_;unfold uA;rw[aT,aU,aU];rfl
theorem L4 {D:Cel}:(jC C D g).ins=C.ins.map fA++(D.ins.filter λx=>!decide (x∈g.map (·.2))).map fB:=by
 show C.ins.map fA++vO (D.ins.map (nZ g)) (rG g)=_;unfold vO;rw[List.filter_map];have e:∀ x,((λx=>!decide (x∈rG g))∘nZ g) x = !decide (x∈g.map (·.2)):=λx=>by
  show (!decide (nZ g x∈rG g))=_;rcases Fi g x with⟨p,a,b,c⟩ | ⟨d,f⟩
  .rw[bC (show nZ g x∈rG g by rw[c];exact aO.mpr ⟨p,a,rfl⟩),bC (aO.mpr ⟨p,a,b⟩)]
  .rw[aY d,aY λz=>?_];obtain⟨p,_,e⟩:=aO.mp z;exact Li p.1 x (e.trans f)
 rw[show ((λx=>!decide (x∈rG g))∘nZ g)=λx=>!decide (x∈g.map (·.2)) from funext e]
 congr 1
 exact eR λx h=>Nr (by have:=(bR.mp h).2;simpa using this)
theorem No {D:Cel}(l:D.names.Nodup) (j:∀ p∈g,p.2∈D.ins) (h:z∈(jC C D g).names):(∃ x∈C.names,z=fA x)\/∃ x∈D.names,x∉g.map (·.2)/\z=fB x:=by
 unfold Cel.names at h;rw[L4,Py] at h;rcases aW.mp h with h | h<;>rcases aW.mp h with h | h<;>obtain⟨x,a,rfl⟩:=aO.mp h
 .exact .inl ⟨x,aL _ a,rfl⟩
 .obtain⟨c,d⟩:=bR.mp a;exact .inr ⟨x,aL _ c,by simpa using d,rfl⟩
 .exact .inl ⟨x.1,aX _ (bQ a),rfl⟩
 .have b:=AK l j (bQ (f:=(·.1)) a);exact .inr ⟨x.1,aX _ (bQ a),b,Nr b⟩
theorem IE {D:Cel}(r:RG C J) (o:RG D T) (I:∀ p∈g,p.2∈D.ins) (j:Fits (jC C D g) (jP J T g)):∀ z∈(jC C D g).names,z.cps.all (·<128)=true/\z.length<=1000/\tK z=true:=λz b=>by
 have l:=j.l z b;have n:z ≠ "and" := λq=>j.n (q▸b)
 rcases No o.gc.nd I b with⟨x,a,rfl⟩ | ⟨x,a,_,rfl⟩
 .exact Tu (Fx x) (.inl rfl) (r.az x a).az l n
 .exact Tu (Fd x) (.inr rfl) (o.az x a).az l n
section
variable {P:Ah}{K:nH}
theorem Ow:FnScope ["one","other","pairs","row"] ["one","other","pairs"] (oC Iz):=pK
end
theorem KG:(["name"]:Aa Af).Nodup:=by decide +kernel
def Ak (g:Ad) (y:Af):Xc:=(g,[(("word" : Af),V.str y)])
def D8 (g:Ad):Xc:=(g,[(("row" : Af),V.int 0)])
def Wf (g:Ad):RX:=λd ds c b=>∃ (x:Af) (a:Aa Af),ds=[.str x,.l (a.map D.str)]/\uK x/\(x∈a->c (.v .e))/\(x∉a->b (Ak g x))
def qQ:Aa Af->Aa Af->Aa (Af×Af)->Ab Af
 | _,_,[]=>none
 | os,is,p::a=>if p.1∈os then (if p.2∈is then qQ (qV os [p.1]) (qV is [p.2]) a else some p.2) else some p.1
def Rl (g:Ad):RX:=λi ds h f=>∃ C b a c d,ds=[nD C b,nD a c,.t (d.map λp=>D.t [.str p.1,.str p.2])]/\C.outs.length<=100/\b.length<=100/\a.ins.length<=100/\c.length<=100/\C.outs.Nodup/\a.ins.Nodup/\(∀ p∈d,uK p.1/\uK p.2) /\
 (qQ (oR C b) (oZ a c) d=none->h (.v .e))/\∀ y,qQ (oR C b) (oZ a c) d=some y->f (Ak g y)
structure InB (C:Cel) (prs:List (Str×Str)):Prop where
 n:∀ x∈C.names,tK x=true
 i:C.ins.length<=6
 o:C.outs.length<=6
 g:C.gates.length<=24
 a:prs.length<=4
def Uj (g:Ad):RX:=λd ds c b=>∃ C a,ds=[nD C a]/\(∀ x∈C.names,x.cps.all (·<128)=true/\x.length<=1000)/\C.ins.length<=100/\C.outs.length<=100/\C.gates.length<=100/\a.length<=100/\(InB C a->c (.v .e))/\(¬ InB C a->b (D8 g))
def Vb (j g:Ad):RX:=λh ds f e=>∃ C c b d a,ds=[nD C c,nD b d,.t (a.map λp=>D.t [.str p.1,.str p.2])]/\RG C c/\RG b d/\(∀ p∈a,uK p.1/\uK p.2)/\a.length<=40 /\
 (qQ (oR C c) (oZ b d) a=none->InB (jC C b a) (jP c d a)->f (.v (nD (jC C b a) (jP c d a))))/\(qQ (oR C c) (oZ b d) a=none->¬ InB (jC C b a) (jP c d a)->e (D8 g))/\∀ y,qQ (oR C c) (oZ b d) a=some y->e (Ak j y)
theorem Ih (os is:Aa Af) (p:Af×Af) (g:Aa (Af×Af)):qQ os is (p::g)=if p.1∈os then (if p.2∈is then qQ (qV os [p.1]) (qV is [p.2]) g else some p.2) else some p.1:=rfl
theorem Pj (j g:Aa Af) (x:Af):qV (qV j g) [x]=qV j (g++[x]):=by
 unfold qV;rw[List.filter_filter];refine mU λy _=>?_
 by_cases a:y=x<;>by_cases b:y∈g<;>simp[a,b]
theorem vV:x∈qV g j↔x∈g/\x∉j:=by
 unfold qV;rw[bR];simp
theorem Nl:∀ (g:Aa (Af×Af)) (os is:Aa Af),qQ os is g=none->PrsOk os is g
 | [],_,_,_=>⟨cE,cE,λ_ h=>absurd h aR⟩
 | p::g,os,is,h=>by
  unfold qQ at h;by_cases e:p.1∈os
  .rw[aQ e] at h;by_cases f:p.2∈is
   .rw[aQ f] at h;have r:=Nl g _ _ h;refine⟨bP.mpr ⟨λq=>?_,r.n1⟩,bP.mpr ⟨λq=>?_,r.n2⟩,λq a=>?_⟩
    .obtain⟨d,b,c⟩:=aO.mp q;have:=(vV.mp (r.m d b).1).2;exact this (by rw[c];exact aJ.mpr rfl)
    .obtain⟨d,b,c⟩:=aO.mp q;have:=(vV.mp (r.m d b).2).2;exact this (by rw[c];exact aJ.mpr rfl)
    .rcases aM.mp a with rfl | a
     .exact⟨e,f⟩
     .exact⟨(vV.mp (r.m q a).1).1,(vV.mp (r.m q a).2).1⟩
   .rw[aG f] at h;cases h
  .rw[aG e] at h;cases h
theorem M8 (n:Int) (h:n.natAbs<10 ^ 9):Bx (.int n)=some [(("row" : Af),V.int n)]:=by simp only[Bx,aQ h]
section
variable {P:Ah}{K:nH}
theorem BM (F:Fun K "check_free" "check_free" Hq f fd) (T:Txt g) (l:XO P w K g base "NoName" "word" j Cb):FnOk P w K g base (oQ P w) 3 f fd ["name","free"] (vF K (Wf j)):=by
 refine F.okDX (k:=2) JP (λh ds v u ⟨_,_,e,_⟩=>by rw[e];rfl) (by decide) λd A c s H E h ds v u a i=>?_
 have n:=tW a;obtain⟨x,t,rfl,q,b,m⟩:=i;refine⟨_,(wH (Fj (zK (wS n) (vQ true) (eH 0) (pv 1)) (wH (Hs l a (eH 0))) (Eo tN))),?_⟩;refine⟨_,_,rfl,vN _,?_⟩;rw[uU];by_cases z:x∈t
 .exact qL (by simp[nb,z]) (b z)
 .refine qS (by simp[nb,z]) ⟨.str x,_,rfl,?_,m z⟩;simp only[Cb,aQ q]
theorem GZ {fI:Ad}(F:Fun K "check_pairs" "check_pairs" J0 f fd) (T:Txt mg) (r:Gd K mg "word_outputs" Ex ["row"] fO ae) (I:Gd K mg "word_inputs" Fo ["row"] fI ac) (g:Gd K mg "check_free" Hq ["name","free"] fF ab) (U:FnOk P w K mg base oM 1 fO ae ["row"] (pF K M4)) (aa:FnOk P w K mg base oM 2 fI ac ["row"] (pF K E9)) (J:FnOk P w K mg base (oQ P w) 3 fF ab ["name","free"] (vF K (Wf CN))):FnOk P w K mg base (oQ P w) 4 f fd ["one","other","pairs"] (vF K (Rl CN)):=by
 refine F.okDX (k:=3) Ep (λdk ds Φ Ξ ⟨_,_,_,_,_,e,_⟩=>by rw[e];rfl) (by decide) λaf A W s H E dk ds Φ Ξ y hR=>?_
 have hu:=tW y;obtain⟨C,d,i,q,c,rfl,l1,l2,l3,l4,Ej,V,sm,S,Y⟩:=hR;refine⟨_,(xR (sE (oB 3 Ep.nd (pS U (y.mono (by decide)) (by rfl) r.m r.k r.b (dK (eH 0) gV)))) (xR (sE (oB 4 Ep.nd (pS aa (y.mono (by decide)) (by rfl) I.m I.k I.b (dK (eH 1) gV)))) (wH (Pw (oS (eH 2)) (rZ (n:=2) rfl (oX (nU 5 Ep.nd) (oX (nU 6 Ep.nd) rY))) (xR (x_call J (y.mono (by decide)) (by rfl) g.m g.k g.b (dK (eH 5) (vJ (pv 3) gV))) (xR (x_call J (y.mono (by decide)) (by rfl) g.m g.k g.b (dK (eH 6) (vJ (pv 4) gV))) (xR (sE (wJ (uW cM PySem.F.slot_list_remove PySem.F.type_list_remove V5 Oc (pv 3) (dK (eH 5) gV)))) (wH (sE (wJ (uW cM PySem.F.slot_list_remove PySem.F.type_list_remove V5 Oc (pv 4) (dK (eH 6) gV)))))))) jN)))),?_⟩;let b:Aa Sl:=[.v (nD C d),.v (nD i q),.v (.t (c.map λp=>D.t [.str p.1,.str p.2]))];refine nJ (λu=>u=b++[.o (.l ((oR C d).map D.str)),.n,.n,.n]) (λN Q=>⟨C,d,rfl,l2,by omega,.inl rfl,Q _ rfl⟩) ?_;rintro _ rfl;refine nJ (λu=>u=b++[.o (.l ((oR C d).map D.str)),.o (.l ((oZ i q).map D.str)),.n,.n]) (λN Q=>⟨i,q,rfl,l4,by omega,.inl rfl,Q _ rfl⟩) ?_;rintro _ rfl;have no:(oR C d).Nodup:=Ej.filter _;have ni:(oZ i q).Nodup:=V.filter _;let st (j:Nat) (z B:Sl):Aa Sl:=b++[.o (.l ((qV (oR C d) ((c.take j).map (·.1))).map D.str)),.o (.l ((qV (oZ i q) ((c.take j).map (·.2))).map D.str)),z,B];let x (j:Nat):Prop:=qQ (qV (oR C d) ((c.take j).map (·.1))) (qV (oZ i q) ((c.take j).map (·.2))) (c.drop j)=qQ (oR C d) (oZ i q) c;have Z:∀ X:Aa Af,qV X []=X:=λX=>jU.mpr λ_ _=>rfl
 refine rW (c.map λp=>D.t [.str p.1,.str p.2]) (st 0 .n .n) (λΨ h=>?_) (λj u=>x j/\∃ z B,u=st j z B) ⟨?_,.n,.n,rfl⟩ ?_ ?_
 .have e:st 0 .n .n=b++[.o (.l ((oR C d).map D.str)),.o (.l ((oZ i q).map D.str)),.n,.n]:=by simp[st,Z]
  rw[e] at h;exact h
 .simp[x,Z]
 .rintro j e u he ⟨M,z,B,rfl⟩;obtain⟨p,R,rfl⟩:=wG he;have pm:=aK R;have O:∀ (f:Af×Af->Af),(c.take (j+1)).map f=(c.take j).map f++[f p]:=λf=>by rw[cH,R,aT];rfl
  have ed:c.drop j=p::c.drop (j+1):=by
   obtain⟨h1,h2⟩:=aP.mp R;rw[List.drop_eq_getElem_cons h1,h2]
  have a:=M;unfold x at a;rw[ed,Ih] at a;refine⟨rfl,rfl,rfl,p.1,qV (oR C d) ((c.take j).map (·.1)),rfl,(sm p pm).1,λG=>⟨.inr rfl,?_⟩,λG=>?_⟩
  .rw[aQ G] at a;refine⟨rfl,p.2,qV (oZ i q) ((c.take j).map (·.2)),rfl,(sm p pm).2,λL=>⟨.inr rfl,?_⟩,λL=>?_⟩
   .rw[aQ L] at a;obtain⟨j1,a1,a2,a3⟩:=Sz no (vV.mp G).1 (vV.mp G).2;obtain⟨j2,c1,c2,c3⟩:=Sz ni (vV.mp L).1 (vV.mp L).2;refine⟨rfl,_,j1,rfl,a1,a2,rfl,_,j2,rfl,c1,c2,?_,.v (.str p.1),.v (.str p.2),?_⟩
    .unfold x;rw[O (·.1),O (·.2),<- Pj,<- Pj];exact a
    .show _=st (j+1) _ _;simp only[st,O,<- a3,<- c3];rfl
   .rw[aG L] at a;exact Y _ a.symm
  .rw[aG G] at a;exact Y _ a.symm
 .rintro u ⟨M,z,B,rfl⟩;refine S ?_;unfold x at M;rw[<- M,aA,List.drop_length];rfl
theorem JV {fI:Ad}(F:Fun K "check_bounds" "check_bounds" Ig f fd) (T:Txt J) (B:Bds J) (OC:XO P w K J base "NoCell" "row" CC Bx) (j:Gd K J "cell_names" D6 ["row"] fN aa) (l:Gd K J "is_name" K6 ["text"] fI U) (r:FnOk P w K J base oM 1 fN aa ["row"] (pF K Ib)) (I:FnOk P w K J base oM 1 fI U ["text"] (pF K Vm)):FnOk P w K J base (oQ P w) 3 f fd ["row"] (vF K (Uj CC)):=by
 refine F.okDX (k:=2) Ph (λdk ds Φ Ξ ⟨_,_,e,_⟩=>by rw[e];rfl) (by decide) λab A V s H E dk ds Φ Ξ c hR=>?_
 have Q:=c;have u:=tW Q;obtain⟨C,d,rfl,W,li,lo,lg,lp,S,O⟩:=hR;obtain⟨t1,X⟩:=B.i;obtain⟨t2,Y⟩:=B.o;obtain⟨t3,Z⟩:=B.g;obtain⟨t4,b4⟩:=B.a;refine⟨_,(xR (sE (oB 1 Ph.nd (nI u 0 gD))) (xR (Fj (We (Kr (rK (Vl rfl) MS T.all PyProof.Rows.boot_all (dK (qF ["name"] [] [] (oS (pS r (Q.mono (by decide)) (by rfl) j.m j.k j.b (dK (eH 0) gV))) (λ_ _ _ _ _=>(nU 0 KG)) (λ_ _ _ _ _=>(pS I (Q.mono (by decide)) (by rfl) l.m l.k l.b (dK (eH 0) gV)))) gV)))) (wH (Hs OC c gD)) (Eo tN)) (xR (Fj (As (C8 (sY xI wZ (rK sQ sU T.len cR (dK (nI u 1 gD) gV)) (Il X)) (Eu (sY xI wZ (rK sQ sU T.len cR (dK (nI u 1 gD) gV)) (Il Y))))) (wH (Hs OC c gD)) (Eo tN)) (wH (Fj (As (C8 (sY xI wZ (rK sQ sU T.len cR (dK (nI u 1 gD) gV)) (Il Z)) (Eu (sY xI wZ (rK sQ sU T.len cR (dK (nI u 0 gD) gV)) (Il b4))))) (wH (Hs OC c gD)) (Eo tN)))))),?_⟩;let b:Aa Sl:=[.v (nD C d),.v (yU C)];refine nJ (λG=>G=b) (λN q=>⟨rfl,_,rfl,q _ rfl⟩) ?_;rintro _ rfl;refine nJ (λG=>G=b/\∀ x∈C.names,tK x=true) (λN q=>?_) ?_
 .unfold B8 Qj Ru dC aC;refine qH C.names D.str (λx=>.b (tK x)) b (λM h=>⟨C,d,rfl,by omega,by omega,.inl rfl,h⟩) (by unfold Cel.names;rw[List.length_append,List.length_map];omega) (λi x ys Nx e h1 h2=>⟨x,rfl,(W x (aK e)).1,(W x (aK e)).2,.inl rfl,h1,h2⟩) ?_;have eb:zE (C.names.map λx=>D.b (tK x))=some (C.names.map tK):=by
   rw[show (C.names.map λx=>D.b (tK x))=(C.names.map tK).map D.b by rw[aU];rfl];exact Qi _
  refine⟨_,eb,?_⟩;cases L:(C.names.map tK).all id with
  | true =>
   rw[nA] at L;exact⟨rfl,true,rfl,q _ ⟨rfl,λx R=>gB.mp L x R⟩⟩
  | false =>
   refine⟨rfl,false,rfl,.int 0,_,rfl,M8 0 (by decide),O λz=>?_⟩;have:(C.names.map tK).all id=true:=by rw[nA];exact gB.mpr λx R=>z.n x R
   rw[this] at L;cases L
 rintro _ ⟨rfl,nn⟩;refine nJ (λG=>G=b/\C.ins.length<=6/\C.outs.length<=6) (λN q=>?_) ?_
 .refine D9 (decide (((C.ins.map D.str).length:Int)>6)) (decide (((C.outs.map D.str).length:Int)>6)) (λM h=>?_) (λM h=>?_) ?_
  .exact⟨rfl,_,rfl,rfl,_,rfl,h⟩
  .exact⟨rfl,_,rfl,rfl,_,rfl,h⟩
  .by_cases z:C.ins.length<=6/\C.outs.length<=6
   .exact qL (by simp;omega) (q _ ⟨rfl,z⟩)
   .refine qS (by simp;omega) ⟨.int 0,_,rfl,M8 0 (by decide),O λy=>z ⟨y.i,y.o⟩⟩
 rintro _ ⟨rfl,z1,z2⟩;refine D9 (decide (((C.gates.map oY).length:Int)>24)) (decide (((d.map λp=>D.t [.str p.1,.str p.2]).length:Int)>4)) (λM h=>?_) (λM h=>?_) ?_
 .exact⟨rfl,_,rfl,rfl,_,rfl,h⟩
 .exact⟨rfl,_,rfl,rfl,_,rfl,h⟩
 .by_cases z:C.gates.length<=24/\d.length<=4
  .exact qL (by simp;omega) (S ⟨nn,z1,z2,z.1,z.2⟩)
  .refine qS (by simp;omega) ⟨.int 0,_,rfl,M8 0 (by decide),O λy=>z ⟨y.g,y.a⟩⟩
end
theorem NO {D:Cel}(j:RG C r) (g:RG D I) (l:∀ p∈o,p.2∈D.ins):∀ z∈(jC C D o).names,z.cps.all (·<128)=true/\z.length<=1000:=λz f=>by
 have go:∀ (x z:Af) (c:Nat),AZ x->z.cps.toList=c::x.cps.toList->c<128->z.cps.all (·<128)=true/\z.length<=1000:=λx z c a e h=>by
  refine⟨?_,?_⟩
  .rw[<- Array.all_toList,e,gB];intro y d;rcases aM.mp d with q | q
   .exact bC (by omega)
   .have:=a.az y q;exact bC (by omega)
  .rw[rN,e,cS,<- rN];have:=a.hi;omega
 rcases No g.gc.nd l f with⟨x,b,rfl⟩ | ⟨x,b,_,rfl⟩
 .exact go x _ 97 (j.az x b) (Fx x) (by decide)
 .exact go x _ 98 (g.az x b) (Fd x) (by decide)
section
variable {P:Ah}{K:nH}
theorem Yi {fB:Ad}(F:Fun K "rows_together" "rows_together" Iz f fd) (T:Txt mg) (o:Gd K mg "check_pairs" J0 ["one","other","pairs"] fP ai) (J:Gd K mg "joined" Jj ["one","other","pairs"] fJ ah) (g:Gd K mg "row_turned" Ik ["row","turned"] fT ak) (r:Gd K mg "first_names" E5 ["row"] fF ag) (l:Gd K mg "second_names" E2 ["row","pairs"] fS aj) (j:Gd K mg "check_bounds" Ig ["row"] fB af) (ab:FnOk P w K mg base (oQ P w) 4 fP ai ["one","other","pairs"] (vF K (Rl CN))) (ae:FnOk P w K mg base oM 2 fJ ah ["one","other","pairs"] (pF K T5)) (I:FnOk P w K mg base oM 2 fT ak ["row","turned"] (pF K Wd)) (ac:FnOk P w K mg base oM 2 fF ag ["row"] (pF K Ni)) (aa:FnOk P w K mg base oM 2 fS aj ["row","pairs"] (pF K Ml)) (U:FnOk P w K mg base (oQ P w) 3 fB af ["row"] (vF K (Uj CC))):FnOk P w K mg base (oQ P w) 5 f fd ["one","other","pairs"] (vF K (Vb CN CC)):=by
 refine F.okDX (k:=4) Ow (λY ds Φ Ξ ⟨_,_,_,_,_,e,_⟩=>by rw[e];rfl) (by decide) λX A S s H E Y ds Φ Ξ y hR=>?_
 have hu:=tW y;obtain⟨C,q,c,u,a,rfl,d,h,sm,lp,Q,Z,hX⟩:=hR;have a1:=d.gc.li;have a2:=d.gc.lg;have a3:=d.gc.lo;have c1:=h.gc.li;have c2:=h.gc.lg;have c3:=h.gc.lo;have d1:=d.lp;have d2:=h.lp;refine⟨_,(xR (x_call ab (y.mono (by decide)) (by rfl) o.m o.k o.b (dK (eH 0) (dK (eH 1) (dK (eH 2) gV)))) (xR (sE (oB 3 Ow.nd (pS ae (y.mono (by decide)) (by rfl) J.m J.k J.b (dK (pS I (y.mono (by decide)) (by rfl) g.m g.k g.b (dK (eH 0) (dK (pS ac (y.mono (by decide)) (by rfl) r.m r.k r.b (dK (eH 0) gV)) gV))) (dK (pS I (y.mono (by decide)) (by rfl) g.m g.k g.b (dK (eH 1) (dK (pS aa (y.mono (by decide)) (by rfl) l.m l.k l.b (dK (eH 1) (dK (eH 2) gV))) gV))) (dK (eH 2) gV)))))) (xR (x_call U (y.mono (by decide)) (by rfl) j.m j.k j.b (dK (eH 3) gV)) (wH (sE (pT (eH 3))))))),?_⟩;let b:Aa Sl:=[.v (nD C q),.v (nD c u),.v (.t (a.map λp=>D.t [.str p.1,.str p.2]))];refine nJ (λL=>L=b++[.n]/\qQ (oR C q) (oZ c u) a=none) (λN B=>⟨C,q,c,u,a,rfl,by omega,by omega,by omega,by omega,d.gc.ond,(bW.mp h.gc.nd).1,sm,λz=>⟨.inl rfl,B _ ⟨rfl,z⟩⟩,hX⟩) ?_;rintro _ ⟨rfl,nb⟩;have V:=Nl _ _ _ nb;have pin:∀ p∈a,p.2∈c.ins:=λp i=>(bR.mp (V.m p i).2).1
 have W:∀ p∈a,p.1∈C.names:=λp i=>d.gc.os _ (bR.mp (V.m p i).1).1
 have G:∀ p∈a,p.1.length<=1000:=λp i=>by have:=(d.az _ (W p i)).hi;omega
 refine nJ (λL=>L=b++[.v (nD (jC C c a) (jP q u a))]) (λN B=>?_) ?_
 .refine⟨C,q,rfl,d.gc.nd,by omega,by omega,λx O=>by have:=(d.az x O).hi;omega,λkv hv=>⟨.inl rfl,?_⟩⟩;refine⟨C,q,kv,fA,rfl,d.gc,by omega,λp i=>⟨d.gc.os _ (d.m p i).1,aL _ (d.m p i).2⟩,hv,.inl rfl,?_⟩;refine⟨c,u,a,rfl,h.gc.nd,by omega,by omega,λx O=>by have:=(h.az x O).hi;omega,V.n2,by omega,G,λR M=>⟨.inl rfl,?_⟩⟩;refine⟨c,u,R,nZ a,rfl,h.gc,by omega,λp i=>⟨h.gc.os _ (h.m p i).1,aL _ (h.m p i).2⟩,M,.inl rfl,?_⟩;refine⟨uA fA C,sM fA q,uA (nZ a) c,sM (nZ a) u,a,rfl,?_,?_,?_,?_,?_,?_,?_,?_,by omega,G,.inl rfl,B _ rfl⟩
  all_goals (simp only[uA,sM,aA];omega)
 rintro _ rfl;have li:(jC C c a).ins.length<=100:=by
  rw[L4,aE,aA,aA];have:=bK (λx=>!decide (x∈a.map (·.2))) c.ins;omega
 have lg:(jC C c a).gates.length<=100:=by
  have:=cA List.length (Py C c a);rw[aA,aE,aA,aA] at this;omega
 have lo:(jC C c a).outs.length<=100:=by
  show (_++_:Aa Af).length<=100;simp only[aE,vO,uA];have:=bK (λx=>!decide (x∈rG a)) (C.outs.map fA);simp only[aA] at this |-;omega
 have la:(jP q u a).length<=100:=by
  simp only[jP,sM,aE,aA];omega
 refine nJ (λL=>L=b++[.v (nD (jC C c a) (jP q u a))]/\InB (jC C c a) (jP q u a)) (λN B=>⟨_,_,rfl,NO d h pin,li,lo,lg,la,λz=>⟨.inl rfl,B _ ⟨rfl,z⟩⟩,λz=>Z nb z⟩) ?_;rintro _ ⟨rfl,z⟩;exact Q nb z
end
end Lw
namespace PySem
open PyProof.Rows L2
abbrev zD (h:Ag) (j d:Ad) (i n g:Nat) (z:Ac) (f:Bool) (ok l:Ac):Prop:=h.get? j=some { cls:=.type "dict_itemiterator",data:=.fields #[z,.bool f,.ref d,.int i 0,.int n 0,.int g 0,ok,l] }
def Zf (z:Ac):Prop:=z = .none\/∃ T:Ad,z=rawInt T
section
theorem Um (h:Q (s.heap.get? a) s):wpAny (model g w) A (loadIfAlive a) Q E s:=λ_ _ _=>h
theorem BS (I:zD s.heap l d i n p z f ok J) (C:Zf z) (g:∀ b j r,zD j l d i n p z r ok J->Heap.SameBut l s.heap j->Q b { s with heap:=j }) :
  wpAny (model o w) A (Builtin.Dict_items.ownedTupleIsFree (.ref l)) Q E s:=by
 unfold Builtin.Dict_items.ownedTupleIsFree;rcases C with rfl | ⟨T,rfl⟩
 .refine aB (eJ I rfl (x:=.none) rfl ?_);exact aF (g true _ _ I (iQ _ _))
 .refine aB (eJ I rfl (x:=rawInt T) rfl ?_);show wpAny _ _ (loadIfAlive ((T:Int).toNat) >>= _) _ _ _;rw[dM];refine aB (Um ?_);cases s.heap.get? T with
  | none =>
   simp only[Option.isNone_none,jS];exact aF (g true _ _ I (iQ _ _))
  | some h =>
   simp only[Option.isNone_some,cL,gQ];refine aB (eJ I rfl (x:=.bool f) rfl ?_);cases f with
   | true =>
    rw[aG (show ¬ ((Value.bool true != Value.bool true)=true) from bN)];exact aF (g false _ _ I (iQ _ _))
   | false =>
    rw[aQ (show (Value.bool false != Value.bool true)=true from rfl)];exact aB (dB I (by simp) λe c a=>aF (g false _ _ c a))
theorem Yg (r:RawD s.heap d o g ep) (I:zD s.heap j d i g.size ep z f ok ov) (hz:Zf z) (hi:i<g.size)
  (q:∀ l U f' p C,Zf U->zD l j d (i+1) g.size ep U f' p C->l.get? s.heap.objs.size=some { cls:=.type "tuple",data:=.seq #[g[i].key,g[i].val] }->l.objs.size=s.heap.objs.size+1 ->
   (∀ b o,b≠j->s.heap.get? b=some o->l.get? b=some o)->Q (some (.ref s.heap.objs.size)) { s with heap:=l }) :
  wpAny (model T w) A (pyNext (.ref j)) Q E s:=by
 have ty:s.TypeIs (.ref j) "dict_itemiterator" := ⟨_,I,rfl⟩;have own:Builtin.Dict_items.ownsTuple "dict_itemiterator" = true:=by decide
 have u:∀ {E:Ac->Ae->Prop} {m:Ae} {D:Nat->Ae->Prop},m.TypeIs (.ref j) "dict_itemiterator" -> D 2 m->wpAny (model T w) A.in1 (do return if Builtin.Dict_items.ownsTuple (<- typeNameOfWhole (.ref j)) then 2 else 0) D E m:=λt z =>
  aB (wpAny_typeNameOfWhole_itemiter t (by rw[own];exact aF z))
 have body:wpAny (model T w) A.in1 (Builtin.«dict_itemiterator.__next__» ⟨[.ref j],[]⟩) (λx m=>∃ l U f' p C,x = .done (.ret (.ref s.heap.objs.size))/\m={ s with heap:=l }/\Zf U/\zD l j d (i+1) g.size ep U f' p C/\l.get? s.heap.objs.size=some { cls:=.type "tuple",data:=.seq #[g[i].key,g[i].val] }/\l.objs.size=s.heap.objs.size+1 /\
   ∀ b o,b≠j->s.heap.get? b=some o->l.get? b=some o) (λ_ _=>False) s:=by
  refine aB (aF ?_);refine aB (aB (u ty ?_));refine aB (mM I rfl ?_);have h:¬ ((Value.ref d == Value.none)=true):=bN;show wpAny _ _ (if (Value.ref d == Value.none)=true then _ else _) _ _ s;rw[aG h];refine aB (aF (aB (iN r.get r.dat ?_)));rw[aG (by simp)];refine aB (aF (aB (jJ r.get r.dat ?_)));rw[aG (by simp)];refine aF ?_;have row:(if (i:Int)<0 then none else g[(i:Int).toNat]?)=some g[i]:=by
   rw[aG (by omega),dM,cG hi]
  dsimp only;rw[row];refine aB (u ty ?_);refine aB (kS ty ?_);change wpAny _ _ (setField (.ref j) 3 (rawInt ((i:Int)+1)) >>= _) _ _ s;refine aB (dB I (by simp) λk g2 a=>?_);have y:Shared.TypeIs { s with heap:=k } (.ref j) "dict_itemiterator" := ⟨_,g2,rfl⟩;have N:k.objs.size≠j:=λz=>absurd (aZ I) (by rw[<- z,a.1];exact dN _)
  refine aB (cP (aB (kS (s:={ s with heap:=k }) y ?_)));refine aB (kS (s:={ s with heap:=k }) y ?_);change wpAny _ _ (Builtin.Dict_items.pairFromOwner (.ref j) 6 g[i].key g[i].val) _ _ _;unfold Builtin.Dict_items.pairFromOwner;refine aB (wpAny_newTuple ?_);have g3:zD (k.push { cls:=Value.type "tuple",data:=.seq #[g[i].key,g[i].val] }) j d (i+1) g.size ep z f ok ov:=aD _ g2;refine aB (BS (s:={ s with heap:=k.push _ }) g3 hz λb M Y c v=>?_);cases b with
  | false =>
   have J:M.objs.size=s.heap.objs.size+1:=by
    rw[v.1,<- a.1];exact jK ..
   refine aF (aF ⟨M,z,Y,ok,ov,?_,rfl,hz,c,?_,J,λb ob n e=>?_⟩)
   .rw[<- a.1]
   .rw[<- a.1,v.2 _ N];exact bF _ rfl
   .rw[v.2 b n];exact aD _ ((a.2 b n).trans e)
  | true =>
   show wpAny _ _ (field (.ref j) 6 >>= _) _ _ _;refine aB (eJ c rfl rfl (aB (eJ c rfl rfl ?_)));refine aB (dB c (by simp) λh4 Z G=>?_);refine aB (dB Z (by simp) λh5 g5 H=>?_);refine aB (dB g5 (by simp) λh6 g6 K=>?_);refine aB (dB g6 (by simp) λB g7 L=>?_);have same:∀ b,b≠j->B.get? b=(k.push { cls:=Value.type "tuple",data:=.seq #[g[i].key,g[i].val] }).get? b:=λb n=>(L.2 b n).trans ((K.2 b n).trans ((H.2 b n).trans ((G.2 b n).trans (v.2 b n))))
   have J:B.objs.size=s.heap.objs.size+1:=by
    have e:=L.1.trans (K.1.trans (H.1.trans (G.1.trans v.1)));rw[e,<- a.1];exact jK ..
   refine aB (wpAny_letGo (aF (aF ⟨B,rawInt k.objs.size,false,g[i].key,g[i].val,?_,rfl,.inr ⟨_,rfl⟩,?_,?_,J,λb ob n e=>?_⟩)))
   .rw[<- a.1]
   .exact g7
   .rw[<- a.1,same _ N];exact bF _ rfl
   .rw[same b n];exact aD _ ((a.2 b n).trans e)
 unfold pyNext;refine aB (gH (gF (name:=Str.ofString "__next__") ty eK (eC eK ty F.entry_dict_itemiterator_next (cZ body (λx m ⟨l,U,f',p,C,O,P,R,S,V,W,X⟩=>?_) λ_ _ z=>z.elim) (F.args_dict_itemiterator_next_1 _))));subst O P;exact⟨_,rfl,aF (q l U f' p C R S V W X)⟩
theorem Xw (calm:A.handled=none) (r:RawD s.heap d o p C) (I:zD s.heap l d p.size p.size C z f ok J) (q:∀ g,Heap.ExtBut l s.heap g->Q none { s with heap:=g }) :
  wpAny (model j w) A (pyNext (.ref l)) Q E s:=by
 have ty:s.TypeIs (.ref l) "dict_itemiterator" := ⟨_,I,rfl⟩;have own:Builtin.Dict_items.ownsTuple "dict_itemiterator" = true:=by decide
 have h:∀ {m:Ac->Ae->Prop} {c:Ae} {i:Nat->Ae->Prop},c.TypeIs (.ref l) "dict_itemiterator" -> i 2 c->wpAny (model j w) A.in1 (do return if Builtin.Dict_items.ownsTuple (<- typeNameOfWhole (.ref l)) then 2 else 0) i m c:=λt z =>
  aB (wpAny_typeNameOfWhole_itemiter t (by rw[own];exact aF z))
 have body:wpAny (model j w) A.in1 (Builtin.«dict_itemiterator.__next__» ⟨[.ref l],[]⟩) (λ_ _=>False) (λv c=>∃ e g,v = .ref e/\c={ s with heap:=g }/\Heap.ExtBut l s.heap g/\∃ o,g.get? e=some o/\o.cls = .type "StopIteration") s:=by
  refine aB (aF ?_);refine aB (aB (h ty ?_));refine aB (mM I rfl ?_);have a:¬ ((Value.ref d == Value.none)=true):=bN;show wpAny _ _ (if (Value.ref d == Value.none)=true then _ else _) _ _ s;rw[aG a];refine aB (aF (aB (iN r.get r.dat ?_)));rw[aG (by simp)];refine aB (aF (aB (jJ r.get r.dat ?_)));rw[aG (by simp)];refine aF ?_;have row:(if ((p.size:Nat):Int)<0 then none else p[((p.size:Nat):Int).toNat]?)=none:=by
   rw[aG (by omega),dM,jG (bB _)]
  dsimp only;rw[row];refine aB (h ty (aB (dB I (by simp) λL g2 n=>?_)));exact Wt calm λg e k z=>⟨e,g,rfl,rfl,λx o K H=>k x o ((n.2 x K).trans H),z⟩
 unfold pyNext;refine aB (gH (gF (name:=Str.ofString "__next__") ty eK (eC eK ty F.entry_dict_itemiterator_next (cZ body (λ_ _ z=>z.elim) λv c ⟨e,g,u,y,B,o,D,G⟩=>?_) (F.args_dict_itemiterator_next_1 _))));subst u y;exact aB (iF (T := "StopIteration") (b:=true) ⟨o,D,G⟩ isSubtype_stop (aF (q g B)))
theorem GP (I:zD s.heap g d i n l z f ok o) (q:Q (.ref g) s):wpAny (model j w) A (pyIter (.ref g)) Q E s:=by
 have ty:s.TypeIs (.ref g) "dict_itemiterator" := ⟨_,I,rfl⟩;have a:entryFor table "dict_itemiterator.__iter__" = some Builtin.«dict_keyiterator.__iter__»:=entryFor_alias (id' := "dict_keyiterator.__iter__") (by kernel_rfl) (by decide +kernel) (by decide +kernel) (by kernel_rfl);exact wpAny_pyIter_slot ty F.slot_dict_itemiterator_iter (eC F.slot_dict_itemiterator_iter ty a (aB (aF (aF ⟨_,rfl,"dict_itemiterator",_,ty,eK.lookup,q⟩))) (F.args_dict_itemiterator_iter_1 _))
end
end PySem
namespace L2
open PySem PySem.Spec PyProof.Rows Lw
def zY (a:Ad) (o:Obj) (t:nQ):It :=
 ⟨λi H=>H a=some (.frz o (.k (vT t)))/\i<t.length,λi H x c=>∃ b y n,H b=none/\x = .ref b/\c=upd H b (.t [.str y,.int n])/\t[i]?=some (y,n),λi H=>H a=some (.frz o (.k (vT t)))/\i=t.length⟩
theorem Ku {P:Ah}(ok:pP P w H h) (p:H a=some (.frz o (.k (vT t)))) :
  ∃ g j,RawD h a o g j/\g.size=t.length/\∀ (i:Nat) (l:i<g.size),∃ y n,t[i]?=some (y,n)/\nO (.str y) g[i].key/\nO (.int n) g[i].val:=by
 obtain⟨c,z,lo,F,r,M,g,j,d,f,m,G,s,_⟩:=(show pE P w H h a (.frz o (.k (vT t))) from ok a _ p);rw[c] at d;cases d;have L:(vT t).length=F.length:=gU r;have K:(vT t).length=t.length:=aA ..;obtain⟨B,b⟩:=Tq s;rw[gM] at B;refine⟨g,j,⟨lo,c,f,m⟩,by omega,λi l=>?_⟩;have e:i<t.length:=by omega
 have u:(vT t)[i]?=some (Sum.inr t[i].1,V.int t[i].2):=by unfold vT;rw[List.getElem?_map,List.getElem?_eq_getElem e];rfl
 obtain⟨q,v,D,E⟩:=G7 r u;obtain⟨x,A⟩:=b i g[i] q (by rw[fX,cG l]) v;refine⟨t[i].1,t[i].2,aH e,?_,by rw[A];exact E⟩;have:=Ui x;rw[<- D] at this;exact this
theorem EC {P:Ah}{K:nH}(a l:Ad) (o:Obj) (t:nQ) :
  Turn P w K (.Name x pos) (zY a o t) [l] l (λi h=>∃ g z f ok p,(∃ j,o.data = .dict j g)/\Zf z/\zD h l a i t.length g z f ok p) where
 mem:=aI
 obj:=λi h st b A=>by
  obtain rfl:=aJ.mp A;obtain⟨_,_,_,_,_,_,_,st⟩:=st;exact⟨_,st,λv z=>nomatch z⟩
 keep:=λi h M ⟨g,z,f,ok,p,q,G,st⟩ k=>⟨g,z,f,ok,p,q,G,k l aI _ st⟩
 item:=by
  intro X O hw N Y i D s σ H E I F st S;subst O hw N;obtain⟨g,z,f,ok,p,⟨L,m⟩,G,st⟩:=st;obtain⟨Q,V⟩:=S;obtain⟨j,d,raw,sz,rows⟩:=Ku I.hok Q;have:d=g:=by have:=raw.dat;rw[m] at this;cases this;rfl
  subst this;rw[<- sz] at st V;obtain⟨y,n,k1,k2,k4⟩:=rows i V;refine Yg raw st G V λM z' f' aa ab W B u Z kp=>⟨_,rfl,?_⟩
  have ne:s.heap.objs.size≠l:=λz=>absurd (aZ st) (by rw[<- z];exact dN _)
  have nt:Ap M s.heap.objs.size [j[i].key,j[i].val].toArray:=⟨⟨_,u,rfl,_,rfl⟩,_,u,rfl⟩;have r:=I.movedT (t':=s.toks) (ys:=[.str y,.int n]) F (λc oc R q=>kp c oc (λz=>R (aJ.mpr z)) q) nt (.cons k2 (.cons k4 .nil)) (by show 2<=sizeLine;decide);rw[sz] at B;show wpAny _ _ (pure ()) _ _ _;refine aF ⟨.ref s.heap.objs.size,_,r,rfl,⟨_,y,n,I.fresh,rfl,rfl,k1⟩,⟨d,_,_,_,_,⟨j,raw.dat⟩,W,B⟩,λb A=>?_⟩;obtain rfl:=aJ.mp A;rw[nP (fQ ne)];exact (F _ aI).1
 done:=by
  intro X O hw N Y i D s σ H E I F st S;subst O hw N;obtain⟨g,z,f,ok,p,⟨L,m⟩,G,st⟩:=st;obtain⟨Q,rfl⟩:=S;obtain⟨j,d,raw,sz,rows⟩:=Ku I.hok Q;have:d=g:=by have:=raw.dat;rw[m] at this;cases this;rfl
  subst this;rw[<- sz] at st;obtain⟨J,f1,f2,T,U,f5⟩:=F l aI;exact Xw (I.ok.hd Y) raw st λM C=>⟨rfl,I.turned (t':=s.toks) (λb o A e=>C b o A e) J f1 T U f5⟩
 self:=λ_ _ _ _ _ ⟨_,_,_,_,_,_,_,st⟩ h=>GP st h
def Ti (X:Cx) (g:TE):TI:=λd H R=>g d H λx b=>∃ a t,x = .ref a/\((b a=some (.k (vT t))/\∀ o,(∀ c u,X.H₀ a≠some (.frz c u))->R (zY a o t) (upd b a (.frz o (.k (vT t)))))\/∃ o,b a=some (.frz o (.k (vT t)))/\R (zY a o t) b)
section
variable {X:Cx}
theorem GG (r:PE X l C) (g:attributeBase l "items" X.env (eval l X.env)=eval l X.env:=by rfl) (j:(apos.endLine == p.line)=true:=by rfl) :
  PI X (.Name x J) (.Call (.Attribute l "items" apos) [] [] p) (Ti X C):=by
 intro c s E H R I h;refine wpAny_Call_method0_late g j (nL (r c s E H _ I h) λv d A=>?_);obtain⟨x,N,u,M,a,t,e,alt⟩:=A;subst e;cases M;have z:(sL (.k (vT t))).isSome=true:=rfl;obtain⟨y,i,w,f,q⟩:∃ o i,Inv X c E i d/\i a=some (.frz o (.k (vT t)))/\R (zY a o t) i:=by
  rcases alt with⟨f,q⟩ | ⟨o,f,q⟩
  .obtain⟨o,L⟩:=Sj z (u.hok a _ f);exact⟨o,_,u.frozen z f L,oO,q o (u.no_frz z f)⟩
  .exact⟨o,_,u,f,q⟩
 obtain⟨D,B,raw,sz,_⟩:=Ku w.hok f;refine⟨"dict",_,eV,PySem.F.slot_dict_items,PySem.F.type_dict_items,raw.ty,(λO e=>by cases e;exact⟨y,raw.get,raw.ex.2.1⟩),gJ rfl (PySem.evalArgs_none (Yw raw ?_))⟩;have m:RawD (d.heap.push { cls:=.type "dict_items",data:=.fields #[.ref a] }) a y D B:=⟨raw.low,aD _ raw.get,raw.ex,raw.dat⟩;have G:∀ b∈[d.heap.objs.size+1],uT X c i b:=λb K=>by
  obtain rfl:=aJ.mp K;exact w.fpOk (gX _) (w.hok.fresh (gX _))
 have n:(d.heap.push { cls:=.type "dict_items",data:=.fields #[.ref a] }).objs.size=d.heap.objs.size+1:=jK ..;refine GJ (s:={ d with heap:=d.heap.push { cls:=.type "dict_items",data:=.fields #[.ref a] } }) ⟨_,bF _ rfl,rfl,rfl⟩ m ⟨d.heap.objs.size+1,[d.heap.objs.size+1],_,zY a y t,i,?_,w.kept (t':=d.toks) λb P q=>aD _ (aD _ q),EC a _ y t,⟨B,.none,false,.none,.none,⟨D,raw.dat⟩,.inl rfl,?_⟩,G,q⟩
 .exact cA Value.ref n
 .rw[<- sz,<- n];exact bF _ rfl
def Bi (t:nQ):Aa D:=t.map λp=>.t [.str p.1,.int p.2]
def Qm (g:oG):xY:=λc e d=>g c e λr b=>match r with
 | .v (.k a)=>∃ t:nQ,a=hI t/\d (Bi t) b
 | _=>False
theorem DS.knownT {K:nH}(d:DS K B (L++(.v (.k (hI t)),some v)::T) H) :
  ∃ a,v = .ref a/\a∉B.dk /\
   ((H a=some (.k (vT t))/\∀ o,DS K (qB B a o (.k (vT t))) (L++T) (upd H a (.frz o (.k (vT t))))/\∀ j g,DS K (qB B a o (.k (vT t))) j g->DS K B j (upd g a (.k (vT t)))) \/ ∃ o,H a=some (.frz o (.k (vT t)))/\DS K (qB B a o (.k (vT t))) (L++T) H/\∀ j g,DS K (qB B a o (.k (vT t))) j g->DS K B j g):=by
 have hd:=d.drop;obtain⟨a,rfl,al,rd⟩:=JF d.valAt;have c:=al.1;have m:(sL (.k (vT t))).isSome=true:=rfl;refine⟨a,rfl,c,?_⟩;rcases rd with f | ⟨i,f⟩
 .refine .inl ⟨f,λo=>⟨hd.fz (o:=o) ⟨λb n=>nP n,m,.inl f,.inr ⟨o,oO⟩⟩ oO al,λj g h=>h.th ⟨λb n=>nP n,m,.inr ⟨o,h.known c⟩,.inl oO⟩ c (λu e=>?_) al.2.2⟩⟩;have:=hd.fr a u e c;rw[f] at this;rw[oO];exact this
 .refine .inr ⟨i,f,hd.fz ⟨λ_ _=>rfl,m,.inr ⟨i,f⟩,.inr ⟨i,f⟩⟩ f al,λj g h=>h.th ⟨λ_ _=>rfl,m,.inr ⟨i,h.known c⟩,.inr ⟨i,h.known c⟩⟩ c (λu e=>?_) al.2.2⟩;have:=hd.fr a u e c;rw[f] at this;rw[h.known c];exact this
theorem NM (l:j.Nodup) (h:dE X.K (zH T.length j (Qm C) g I p) σ H Q) :
  Co T j (Ti X (dE X.K C)) (dG X.K T.length g) (tE X.K I) (dE X.K p) σ H λv=>thawQ X (Q v):=by
 obtain⟨B,Z,Tm,Φ,V,hd,Y,k⟩:=h;refine⟨B,Z,Tm,_,V,hd,Y,λr U v w O d1 s=>?_⟩;cases r<;>first | exact False.elim s | skip
 rename_i d
 cases d<;>first | exact False.elim s | skip
 obtain⟨t,rfl,s⟩:=s;obtain⟨a,rfl,L,alt⟩:=d1.knownT;have W:(sL (.k (vT t))).isSome=true:=rfl;have len:(Bi t).length=t.length:=aA ..;have J:∀ (o:Obj) (D:Ad) (w:Hp),w a=some (.frz o (.k (vT t)))->w D=none->∀ i m c M H,DS X.K (oV (qB B a o (.k (vT t))) D m) (c++M) H->(i<(Bi t).length->(zY a o t).go i H)/\(i=(Bi t).length->(zY a o t).stop i H)/\∀ x F,i<(Bi t).length->(zY a o t).yld i H x F->∃ d,(Bi t)[i]?=some d/\DS X.K (oV (qB B a o (.k (vT t))) D m) (c++(.v d,some x)::M) F:=λo D w u f i m c M H d=>by
  have N:=Mi L u f d;refine⟨λA=>⟨N,by rw[<- len];exact A⟩,λA=>⟨N,by rw[A,len]⟩,?_⟩;rintro x F A ⟨b,y,n,nb,rfl,rfl,e⟩;refine⟨.t [.str y,.int n],by unfold Bi;rw[List.getElem?_map,e];rfl,DS.tup d nb (.cons (.str y) (.cons (.int n) .nil))⟩
 refine⟨a,t,rfl,?_⟩;rcases alt with⟨u,S⟩ | ⟨o,u,d2,back⟩
 .refine .inl ⟨u,λo R D f=>?_⟩;obtain⟨d2,back⟩:=S o;exact Ey (B:=qB B a o (.k (vT t))) l O d2 (λi m c M H _ d=>J o D _ oO f i m c M H d) s (λr q v P G E z=>.inr ⟨a,o,_,W,E.known L,R,k r q v _ G (back _ _ E) z⟩) f
 .refine .inr ⟨o,u,λD f=>?_⟩;exact Ey (B:=qB B a o (.k (vT t))) l O d2 (λi m c M H _ d=>J o D _ u f i m c M H d) s (λr q v P G E z=>.inl (k r q v _ G (back _ _ E) z)) f
theorem CD (T p:Aa Af) (I:Aa Nat) (hc:X.calm=true) (hi:PD X l ti)
  (hk:j.kind = .function) (ho:Bv X.N X.env.kindOf j T p I=true)
  (hg:∀ r o C cl fp,wE (rX X (T++p) j cl C r o fp) T.length (.Name x ps) g)
  (ht:∀ r o C cl fp,wB (rX X (T++p) j cl C r o fp) ae (tE X.K tt))
  (he:∀ r o C cl fp,PD (rX X (T++p) j cl C r o fp) ac te)
  (U:attributeBase l "items" X.env (eval l X.env)=eval l X.env:=by rfl) (aa:(apos.endLine == J.line)=true:=by rfl)
  (ab:I.Nodup:=by decide) (hs:∀ x,foldedSetIterable (.Call (.Attribute l "items" apos) [] [] J) X.env x=pure x:=by intro _;rfl):PD X (.ListComp ac [⟨.Name x ps,.Call (.Attribute l "items" apos) [] [] J,ae,0⟩] j pos) (zH T.length I (Qm ti) g tt te) :=
 (Wq (E8 T p I hc (GG hi U aa) hk ho hg ht he hs)).mono λ_ _ _ h=>NM ab h
end
end L2
namespace Lw
open PySem L2
theorem Xm:(["name","turned","edges"]:Aa Af).Nodup:=by decide +kernel
theorem Yp:(["name","turned","weights"]:Aa Af).Nodup:=by decide +kernel
def qG (C:Cel) (g:Aa (Af×Af)):Aa Af:=oZ C g++oR C g++g.map (·.2)
def tS (a b:nQ):nQ:=b.foldl (λt p=>pV t p.1 p.2) a
theorem Ss:∀ (b a:nQ),pR (hI a) (hI b)=hI (tS a b)
 | [],a=>rfl
 | p::b,a=>by
  show pR (pZ (hI a) (Sum.inr p.1) (.int p.2)) (hI b)=_;rw[Vc,Ss b (pV a p.1 p.2)];rfl
theorem Qv:∀ (b a:nQ) (x:Af),x∈(tS a b).map (·.1)↔x∈a.map (·.1)\/x∈b.map (·.1)
 | [],a,x=>by simp[tS]
 | p::b,a,x=>by
  show x∈(tS (pV a p.1 p.2) b).map (·.1)↔_;rw[Qv b,Cf];by_cases q:p.1∈a.map (·.1)
  .rw[aQ q];simp only[bD,aM];constructor
   .rintro (h | h)
    .exact .inl h
    .exact .inr (.inr h)
   .rintro (h | h | h)
    .exact .inl h
    .exact .inl (h▸q)
    .exact .inr h
  .rw[aG q];simp only[bD,aM,aW,aR,kA];constructor
   .rintro ((h | h) | h)
    .exact .inl h
    .exact .inr (.inl h)
    .exact .inr (.inr h)
   .rintro (h | h | h)
    .exact .inl (.inl h)
    .exact .inl (.inr h)
    .exact .inr h
theorem Uw:∀ (b a:nQ),(a.map (·.1)).Nodup->((tS a b).map (·.1)).Nodup
 | [],a,h=>h
 | p::b,a,h=>Uw b _ (Dr h p.1 p.2)
theorem Mf:∀ (b a:nQ),(tS a b).length<=a.length+b.length
 | [],a=>bB _
 | p::b,a=>by
  have:=Mf b (pV a p.1 p.2);have:=Cn a p.1 p.2;show (tS (pV a p.1 p.2) b).length<=_;rw[cS];omega
theorem G5 (h:t.length<100000):F1 (.k (hI t)) (.str x) (.int n)=some (.k (hI (pV t x n))):=by
 have:(hI t).length<100000:=by unfold hI;rw[List.length_map];exact h
 show (if (hI t).length<100000 then some (D.k (pZ (hI t) (Sum.inr x) (.int n))) else none)=_;rw[aQ this,Vc]
def rD (f:Af->Af) (t:nQ) (C:Cel) (g:Aa (Af×Af)):nQ:=pV (tS [] ((qG C g).map λx=>(f x,look t x))) "" (look t "")
def vZ (f:Af->Af) (e:Af->D) (g:Aa (Af×Af)):Aa (hH×D):=pR [] (g.map λp=>((Sum.inr (f p.2):hH),e p.2))
def Vw:RD:=λc ds b=>∃ C a,ds=[nD C a]/\a.length<=100/\C.ins.length<=100/\C.outs.length<=100/\b (.o (.l ((qG C a).map D.str)))
def Wm:RD:=λh ds d=>∃ C a b c f e,ds=[nD C a,.k b,.k c]/\a.length<=100/\(∀ p∈a,nR c (Sum.inr p.2)=some (.str (f p.2))/\nR b (Sum.inr p.2)=some (e p.2))/\d (.o (.k (vZ f e a)))
def Vz:RD:=λd ds c=>∃ C a t b f,ds=[nD C a,.k (hI t),.k b]/\a.length<=100/\C.ins.length<=100/\C.outs.length<=100/\(∀ x∈qG C a,nR b (Sum.inr x)=some (.str (f x)))/\c (.o (.k (hI (rD f t C a))))
theorem R5 (j:g.length<=100) (l:C.ins.length<=100) (o:C.outs.length<=100):(qG C g).length<=300:=by
 unfold qG oZ oR;rw[aE,aE,aA];exact bS (Nat.add_le_add (Nat.add_le_add (bK _ _) (bK _ _)) (bB _)) (by omega)
section
variable {P:Ah}{K:nH}
theorem DV:FnScope ["row"] ["row"] (oC Jg):=pK
theorem QO:FnScope ["row","edges","turned"] ["row","edges","turned"] (oC J5):=pK
theorem Rf:FnScope ["row","weights","turned","found"] ["row","weights","turned"] (oC Hz):=pK
theorem Yh {fI:Ad}(F:Fun K "weighed_names" "weighed_names" Jg f fd) (l:Gd K J "word_inputs" Fo ["row"] fI U) (j:Gd K J "word_outputs" Ex ["row"] fO aa) (g:Gd K J "carried_inputs" C6 ["row"] fC T) (I:FnOk P w K J base oM 2 fI U ["row"] (pF K E9)) (r:FnOk P w K J base oM 1 fO aa ["row"] (pF K M4)) (o:FnOk P w K J base oM 1 fC T ["row"] (pF K B2)):FnOk P w K J base oM 3 f fd ["row"] (pF K Vw):=by
 refine F.okD (k:=2) DV (λq ds v ⟨_,_,e,_⟩=>by rw[e];rfl) (by decide) λn A i s H E q ds v d t=>?_
 have z:=tW d;obtain⟨C,a,rfl,h,u,lo,c⟩:=t;have x:(oZ C a).length<=C.ins.length:=bK _ _;have y:(oR C a).length<=C.outs.length:=bK _ _;refine⟨_,(oN (pT (nV oE oF (nV oE oF (pS I (d.mono (by decide)) (by rfl) l.m l.k l.b (dK (eH 0) gV)) (pS r (d.mono (by decide)) (by rfl) j.m j.k j.b (dK (eH 0) gV))) (pS o (d.mono (by decide)) (by rfl) g.m g.k g.b (dK (eH 0) gV))))),?_⟩;refine⟨C,a,rfl,h,u,.inl rfl,C,a,rfl,h,lo,.inl rfl,?_,C,a,rfl,h,.inl rfl,?_,?_⟩
 .simp only[aA];omega
 .simp only[aE,aA];omega
 .have e:(qG C a).map D.str=(oZ C a).map D.str++(oR C a).map D.str++a.map λp=>D.str p.2:=by
   unfold qG;rw[aT,aT,aU];rfl
  rw[e] at c;exact c
theorem MT (F:Fun K "edges_turned" "edges_turned" J5 f fd) (T:Txt r) (j:Gd K r "carried_inputs" C6 ["row"] I o) (l:FnOk P w K r base oM 1 I o ["row"] (pF K B2)):FnOk P w K r base oM 2 f fd ["row","edges","turned"] (pF K Wm):=by
 refine F.okD (k:=1) QO (λv ds R ⟨_,_,_,_,_,_,e,_⟩=>by rw[e];rfl) (by decide) λu A d s H E v ds R n L=>?_
 have q:=tW n;obtain⟨C,a,z,O,f,e,rfl,N,M,c⟩:=L;refine⟨_,(oN (pT (pI (wX rfl) xU T.dict cV (dK (qF ["name"] ["turned","edges"] [2,1] (oS (pS l (n.mono (by decide)) (by rfl) j.m j.k j.b (dK (eH 0) gV))) (λ_ _ _ _ _=>(nU 0 Xm)) (λ_ _ _ _ _=>(oW (dK (nI q 1 (eH 0)) (dK (nI q 2 (eH 0)) gV))))) gV)))),?_⟩;unfold xA dC aC;refine qH a (λp=>D.str p.2) (λp=>.t [.str (f p.2),e p.2]) _ (λW h=>⟨C,a,rfl,N,.inl rfl,h⟩) (by omega) (λi p V S x B G=>?_) ?_
 .obtain⟨v1,Q⟩:=M p (aK x);exact⟨rfl,_,cA some v1,rfl,_,cA some Q,by show 2<=1000;decide,B,G⟩
 have y:uH (a.map λp=>D.t [.str (f p.2),e p.2])=some (a.map λp=>((Sum.inr (f p.2):hH),e p.2)):=yD (g:=λp:Af×Af=>((Sum.inr (f p.2):hH),e p.2)) (λp=>⟨.str (f p.2),rfl,rfl⟩) a;exact⟨_,y,by rw[aA];omega,c⟩
theorem FZ (F:Fun K "weights_turned" "weights_turned" Hz f fd) (T:Txt r) (j:Gd K r "weighed_names" Jg ["row"] I p) (l:FnOk P w K r base oM 3 I p ["row"] (pF K Vw)):FnOk P w K r base oM 4 f fd ["row","weights","turned"] (pF K Vz):=by
 refine F.okD (k:=3) Rf (λO ds Z ⟨_,_,_,_,_,e,_⟩=>by rw[e];rfl) (by decide) λM A u s H E O ds Z B W=>?_
 have c:=tW B;obtain⟨C,a,t,y,f,rfl,L,G,lo,X,q⟩:=W;have U:=R5 L G lo;refine⟨_,(nY (oB 3 Rf.nd (pI (wX rfl) xU T.dict cV (dK (qF ["name"] ["turned","weights"] [2,1] (oS (pS l (B.mono (by decide)) (by rfl) j.m j.k j.b (dK (eH 0) gV))) (λ_ _ _ _ _=>(nU 0 Yp)) (λ_ _ _ _ _=>(oW (dK (nI c 1 (eH 0)) (dK (Fa c (pv 2) (eH 0) gD) gV))))) gV))) (nY (yJ (n:=3) c (Fa c (pv 1) qM gD) (pv 3) qM) (oN (pT (K4 3 (pv 3)))))),?_⟩;let b:Aa Sl:=[.v (nD C a),.v (.k (hI t)),.v (.k y)];refine nJ (λz=>z=b++[.o (.k (hI (tS [] ((qG C a).map λx=>(f x,look t x)))))]) (λN d=>?_) ?_
 .unfold rQ dC aC;refine qH (qG C a) D.str (λx=>.t [.str (f x),.int (look t x)]) _ (λΨ h=>⟨C,a,rfl,L,G,lo,.inl rfl,h⟩) (by omega) (λi x ys J Q S V=>?_) ?_
  .refine⟨rfl,_,cA some (X x (aK Q)),rfl,_,rfl,?_⟩;rw[Gz];exact⟨by show 2<=1000;decide,S,V⟩
  have R:uH ((qG C a).map λx=>D.t [.str (f x),.int (look t x)])=some (hI ((qG C a).map λx=>(f x,look t x))):=by
   rw[yD (g:=λx:Af=>((Sum.inr (f x):hH),D.int (look t x))) (λx=>⟨.str (f x),rfl,rfl⟩)];unfold hI;rw[aU];rfl
  refine⟨_,R,by unfold hI;rw[List.length_map,List.length_map];omega,d _ ?_⟩;have:=Ss ((qG C a).map λx=>(f x,look t x)) [];rw[show hI []=[] from rfl] at this;rw[this];rfl
 rintro _ rfl;refine nJ (λz=>z=b++[.o (.k (hI (rD f t C a)))]) (λN d=>?_) ?_
 .have Y:=Mf ((qG C a).map λx=>(f x,look t x)) [];rw[aA,dL] at Y;refine⟨rfl,_,rfl,rfl,_,?_,d _ rfl⟩;rw[Gz];exact G5 (by omega)
 rintro _ rfl;exact q
end
end Lw
namespace L2
open PySem PySem.Spec PyProof.Rows Lw
abbrev Cx.held (X:Cx) (g:Aa (Ad×Obj)):Cx:={ X with pn:=X.pn++g }
section
variable {X:Cx}
theorem Inv.hold (I:Inv X g j H s):Inv (X.held g) [] j H s:=by
 obtain⟨ok,q,t,u,v,w,x,y,z,A,a⟩:=I;obtain⟨B,D,E,F,G,K,L,M,N,b,c,d,e,f,h,i,k,m⟩:=ok;exact⟨⟨B,D,E,F,G,K,L,M,N,b,c,d,e,f,h,i,k,m⟩,q,t,u,v,w,x,y,λp n=>z p (by rw[cO] at n;exact n),A,a⟩
theorem Inv.unhold (ok:X.Ok) (I:Inv (X.held g) j l H s):Inv X g l H s:=by
 obtain⟨_,b,c,d,e,f,h,i,k,m,a⟩:=I;exact⟨ok,b,c,d,e,f,h,i,λp n=>k p (aL _ n),m,a⟩
end
def Dt (X:Cx) (g:XK):Ac->Ae->Prop:=λf d=>∃ (a:Aa (Ad×Obj)) (h:St) (e T:Ad) (C:Ac) (c:Ab Ad) (b:Hp),f = .ref e/\Inv X a h b d/\XAt d.heap e C c T .none/\b e=some (qR e C c)/\b T=some (rF T)/\g C c b
theorem JZ {X:Cx}:Ec (oQ X.prog X.w) (X.wish (Dt X g)) g:=by
 intro a i H s y t I h;obtain⟨e,T,C,q,f,rfl,d,n,un,c,x,v,u,m⟩:=h;have k:Inv (X.wish (Dt X g)) a i f t:=I.call' (ch:=[]) d un c n (λb z=>absurd z (by simp));exact⟨a,i,e,T,C,q,f,rfl,k.unwish,x,v,u,m⟩
def X6 (K:nH) (CE:Ad) (j l:Nat) (tB:XK->TS):TS:=λD f H=>∃ c:XK,tB c D f H /\
 ∀ C d b,c C d b->∀ a:St,a.length=f.length->∀ e T,b e=some (qR e C d)->b T=none->PySem.W.exmOne K C (.ref CE)=some true/\D.nx (((a.set j (some (.ref e))).set l (some (.ref e))).set j none) (upd b T (rF T))
section
variable {X:Cx}{CE:Ad}{tB:XK->TS}
theorem Yc (hB:∀ (g:Aa (Ad×Obj)) (E1:XK),qD ((X.held g).wish (Dt (X.held g) E1)) body (tB E1))
  (af:Gl X cx) (ag:X.mg cx=some (.ref CE)) (hN:X.N.Nodup) (hj:X.N[j]?=some p) (hl:X.N[l]?=some ct) (le:X.env.scope.names.lookup p=some .local) (lc:X.env.scope.names.lookup ct=some .local)
  (J:X.stack=X.env::X.outer) (ae:X.env.frame=some X.env.locals) (hc:X.calm=true) (hex:X.ex=[])
  (aa:(cx == ("__debug__" : Af))=false:=by decide) (ab:(p == ("__debug__" : Af))=false:=by decide) (ac:(p == ("__classdict__" : Af))=false:=by decide)
  (ah:swapsWith (.Name p ep) (some (.Name ct tp)) U.line X.env=pure false:=by rfl) :
  PS X (.Try body [.ExceptHandler (some (.Name cx cp)) (some p) [.Assign [.Name ct tp] (.Name p ep) U] hp] [] [] pos) (X6 X.K CE j l tB):=by
 intro g s σ H D I h;obtain⟨E1,hb,O⟩:=h;refine wpAny_Try_except ?_;refine cZ (hB g E1 [] s σ H D (I.hold.wish _) hb) (λL s1 z=>?_) λev E z=>?_
 .cases L with
  | next =>
   obtain⟨a,d,f,q⟩:=z;exact lP ⟨a,d,f.unwish.unhold I.ok,q⟩
  | ret u =>
   obtain⟨v,a,d,f,r,q⟩:=z;exact⟨v,a,d,f.unwish.unhold I.ok,r,q⟩
  | brk =>
   obtain⟨a,d,f,q⟩:=z;exact⟨a,d,f.unwish.unhold I.ok,q⟩
  | cont =>
   obtain⟨a,d,f,q⟩:=z;exact⟨a,d,f.unwish.unhold I.ok,q⟩
 .obtain⟨ai,a,e,T,C,od,x,rfl,F,xa,te,tT,hE⟩:=z;have y:Inv X g a x E:=F.unhold I.ok;have l1:a.length=σ.length:=by rw[y.len,I.len]
  have frm:X.A.frames=some (X.env::X.outer):=by rw[<- J];exact y.ok.frames
  refine Pe (base:=X.base) frm (by rw[<- J];exact y.stack) ae xa λh3 t k x3 Z=>?_
  refine Ge x3 λM m x4=>?_
  have B:=gW Z;have kp:XKeep (xK X.stack) [e,T] E.heap M:=by
   rw[J];refine⟨λb o c Y n2=>?_,λb o c Y=>?_,λb o c=>?_⟩
   .exact m.keep b o (k.keep b o c Y n2) (λz=>by simp at z;subst z;rw[B] at c;cases c) (by simp)
   .obtain⟨y1,q1⟩:=k.slot b o c Y;exact⟨y1,m.keep b _ q1 (λz=>by simp at z;subst z;rw[B] at c;cases c) (by simp)⟩
   .obtain⟨o1,q1⟩:=k.there b o c;exact m.there b o1 q1
  have P:x t=none:=y.hok.fresh Z;have G:Inv X g a (upd x t (rF t)) { E with heap:=M }:=IL y kp te (λb z=>by
   rcases aM.mp z with z | z
   .exact .inl z
   .rw[aJ.mp z];exact .inr tT) x4 Z
  obtain⟨hm,hD⟩:=O C od x hE a l1 e t te P;obtain⟨oe,ak,oT,ts,R,Q,_⟩:=id x4.ex;refine wpAny_handleBy_cons (codeAny_handlers_test (C0 (X:=X.marked e (notedBy (model X.prog X.w) (X.A.mark (some (.ref e))) X.env (cameBackBy (model X.prog X.w) X.A X.env X.xe))) (G.marked e _) af ag ?_ aa)) (by intro z;cases z);refine IX G.kIn R Q hm ?_;refine codeAny_handlers_suite_as (Ge x4 λh5 W x5=>?_);have I5:=IW (s:={ E with heap:=M }) G W oO;refine Lb (v:=V.ref e) I5 hN hj (Or.inl le) (show nO (V.ref e) (Value.ref e) from rfl) (λs6 I6=>?_) (.inr le);have S:j<a.length:=by rw[I5.len];exact (aP.mp hj).1
  have n:qD (X.marked e (λ_ _=>False)) [.Assign [.Name ct tp] (.Name p ep) U] (Gf (rC j) (Bz l)):=sV (zX (X:=X.marked e (λ_ _=>False)) (i:=l) hN hl (Or.inl lc) (Q4 (X:=X.marked e (λ_ _=>False)) hj (Or.inl le) ab ac) ah (.inr lc));refine cZ (n g s6 _ _ { nx:=λaj H'=>aj=((a.set j (some (.ref e))).set l (some (.ref e)))/\H'=upd x t (rF t),rt:=λ_ _=>False } (I6.marked e (λ_ _=>False)) ⟨.ref e,by rw[hZ S],rfl,rfl⟩) (λL s7 z=>?_) λ_ _ z=>z.elim
  cases L with
  | next =>
   obtain⟨an,H7,I7,rfl,rfl⟩:=z;exact OA (I7.unmarked I.ok) hN hj le λs8 I8=>⟨_,_,I8,hD⟩
  | ret u=>obtain⟨_,_,_,_,_,z⟩:=z;exact z.elim
  | brk=>obtain⟨_,_,_,z⟩:=z;exact z.elim
  | cont=>obtain⟨_,_,_,z⟩:=z;exact z.elim
end
section
variable {X:Cx}{R:RX}
theorem MJ (F:FnOk X.prog X.w X.K X.mg X.base (oQ X.prog X.w) k f fd ps (vF X.K R)) (hr:Room k X.A) (hg:Gl X x) (hm:X.mg x=some (.ref f)) (l:PySem.W.keepIn X.K (.ref f)=true) (hb:wQ X.K fd ps [])
  (ha:vA (X.wish (Dt X j)) (e::es) ta) (aa:(x == ("__debug__" : Af))=false:=by decide) (I:StB X e es pos:=by exact {})
  (g:swapsWith (.Call (.Name x p) (e::es) [] pos) none J.line X.env=pure false:=by rfl) :
  xF (X.wish (Dt X j)) j U (.Expr (.Call (.Name x p) (e::es) [] pos) J) (Qd U R ta) :=
 (At (yA (X:=X.wish (Dt X j)) (E:=j) F hr hg hm l hb .nil JZ ha aa ⟨I.a,I.b⟩) g).mono λDn L H S=>S.elim λB ρ T De Q hd V D xl=>by
  refine⟨B,ρ,T,_,Q,hd,V,λas d vs M y ok d1 h=>?_⟩;cases u:vP d as with
  | none=>rw[u] at h;exact h.elim
  | some ds =>
   rw[u] at h;obtain⟨_,Z,q3⟩:=d1.argsP y ok ds u;have d2:=d1.rmArgs;rw[cO];have raised:∀ x,U x->∀ C t c,XP B.dk M x C t c->j C t c:=λx Y C t c m=>by
    refine xl x Y C t _ ⟨m.1,λb o N n=>m.2.1 b o (d2.fr b o N n) n,m.2.2.1,λi P=>?_⟩;have:=m.2.2.2 i P;cases O:B.H0 i with
    | none=>rfl
    | some o =>
     by_cases n:i∈B.dk
     .obtain⟨xs,q⟩:=d2.dk.some n;rw[q] at this;cases this
     .rw[d2.fr i o O n] at this;cases this
   by_cases G:Ai as=true
   .exact⟨B.dk,_,ds,_,U,d2.dk,λa z=>z.1,q3 G,h,λs v c g f l r=>(D.1 d L c y rfl ((d2.result f l r (.inl λa z=>z)).drop (L1:=[]))).1 g.2,raised⟩
   .exact⟨B.dk,_,ds,_,U,d2.dk,λa z=>z.1,Z,h,λs v c g f l r=>(D.1 d L c y rfl ((d2.result f l r (.inr (g.1.resolve_left G))).drop (L1:=[]))).1 g.2,raised⟩
end
end L2
namespace L2
open PySem PySem.Spec PyProof.Rows
section
variable {X:Cx}
def DA (j g:TE):TE:=λb H Q=>j b H λy c=>∃ x:Af,y = .str x/\x.length<=1000/\g b c λe d=>∃ a:Af,e = .str a/\a.length<=1000/\∀ z:Af,Q (.str z) d
theorem W2 (p:PE X e r) (l:PE X g o) (C:a.length<=1000:=by decide +kernel) (J:b.length<=1000:=by decide +kernel) (T:c.length<=1000:=by decide +kernel):PE X (.JoinedStr [.Constant (.str a) i U,.FormattedValue e (-1) none p2,.Constant (.str b) j p3,.FormattedValue g (-1) none p4,.Constant (.str c) k p5] pos) (DA r o):=by
 intro d s w H Q I h;have big:20000<=sizeLine:=by decide
 have E:(Str.empty++a).length=a.length:=by rw[gI];simp[Str.empty,Str.length]
 refine wpAny_JoinedStr ?_;refine eZ ⟨a,_,rfl,by omega,?_⟩;refine jQ (nL (p d _ w H _ (I.tok _) h) λu R n=>?_);obtain⟨y,z,B,N,x,K,P,q⟩:=n;subst K;obtain⟨t,rfl⟩:=N;have F:(Str.empty++a++x).length=a.length+x.length:=by rw[gI,E]
 have g:(Str.empty++a++x++b).length=a.length+x.length+b.length:=by rw[gI,F]
 refine lA (hx:=by omega) ?_ ?_
 all_goals
  refine⟨_,_,rfl,by omega,eZ ⟨b,_,rfl,by omega,?_⟩⟩;refine jQ (nL (l d _ w z _ (by repeat (first | exact B | refine Inv.tok ?_ _)) q) λW S ⟨Y,A,D,v,f,m,L,M⟩=>?_);subst m;obtain⟨V,rfl⟩:=v;have G:(Str.empty++a++x++b++f).length=a.length+x.length+b.length+f.length:=by rw[gI,g]
  have O:(Str.empty++a++x++b++f++c).length=a.length+x.length+b.length+f.length+c.length:=by rw[gI,G]
  refine lA (hx:=by omega) ?_ ?_
  all_goals
   refine⟨_,_,rfl,by omega,eZ ⟨c,_,rfl,by omega,⟨by omega,.str _,A,?_,⟨_,rfl⟩,M _⟩⟩⟩
   repeat (first | exact D | refine Inv.tok ?_ _)
end
section
variable {P:Ah}{K:nH}{cd:Ac}
def BG (K:nH) (E:XK) (t:TE):TS:=λ_ c H=>t c H λv a=>∃ (e C N:Ad) (b:Aa Ac) (i:Ab Ac),v = .ref e/\a e=some (vX e C)/\sI K C N b i=true/\b.contains (.type "BaseException")=true /\
 ∀ T,a T=none->E (.ref C) none (upd (upd a e (qR e (.ref C) none)) T (rF T))
theorem IJ (he:PE (pA (oQ P w) P w K mg base J l j f cd A g p r E) U t):PS (pA (oQ P w) P w K mg base J l j f cd A g p r E) (.Raise (some U) none pos) (BG K E t):=by
 intro k s σ H D I h;rw[arm_exec_Raise];refine aB (iR ?_);refine Vp (I.ok.hd rfl) (aB (nL (he k s σ H _ I h) λu R z=>aB (iR (aF ?_))));obtain⟨v,y,c,rv,e,C,N,W,i,Y,O,xc,Z,hE⟩:=z;subst Y;obtain rfl:u=Value.ref e:=rv;have xk:=En c.kIn xc;obtain⟨nm,qn,bs,sn,sub,V,B,F,k0,k1,k2,k3,k5,mN,X,cN,ci⟩:=xk.ex;obtain⟨⟨t0,a⟩,_,_⟩:=c.hok e _ O;refine⟨e,_,_,C,N,W,nm,qn,bs,true,sn,sub,V,B,F,k0,k1,k2,k3,k5,_,rfl,X,Z,a,rfl,rfl,rfl,?_⟩;have d:=c.write (x:=e) (e:=e) (o:=qR e (.ref C) none) (h':=R.heap) (t':=R.toks) (by rw[O];exact True.intro) (.inl rfl) (λ_ _ _ q=>q) ⟨_,a⟩ (Mc a rfl rfl rfl);refine Wg (base:=base) (env:=envOfC l j p.heap.objs.size f cd) (outer:=g) (L:=p.heap.objs.size) c.ok.frames c.stack rfl a rfl rfl λh' T Q S M=>?_
 have n:(upd y e (qR e (.ref C) none)) e=some (qR e (.ref C) none):=oO;have m:(upd y e (qR e (.ref C) none)) T=none:=d.hok.fresh M;have G:y T=none:=c.hok.fresh M;have ne:T≠e:=λz=>by rw[z,n] at m;cases m
 exact⟨e,T,.ref C,none,_,rfl,d.os,d.bare,Gs d.base Q (λb o q z=>Lh q z) (λb z=>by rw[aJ.mp z,n];simp) m M,J1 d.hok Q d.stkFree n (λb z=>.inl (aJ.mp z)) S m,S,by rw[nP ne.symm];exact n,oO,hE T G⟩
end
section
variable {X:Cx}
def AF (C:Ad) (t:TA):TE:=λd H Q=>t d H λc b=>c.length<=10/\∀ a,b a=none->Q (.ref a) (upd b a (vX a C))
theorem KL (xc:sI X.K C N bm none=true) (l:PySem.W.keepIn X.K (.ref C)=true) (T:Gl X x) (U:X.mg x=some (.ref C)) (J:PA X (e::es) t) (j:(x == ("__debug__" : Af))=false:=by decide)
  (g:StB X e es pos:=by exact {}):PE X (.Call (.Name x p) (e::es) [] pos) (AF C t):=by
 intro c s D H Q I h;refine gR (C0 I T U ?_ j);refine mH (h₀:=X.base) I.ok.mod.kin l (nL (J pos c s D H _ I h) λB z ⟨vs,E,d,r,v,q⟩=>⟨d.kIn,?_⟩) g.a g.b;have i:=En d.kIn xc;obtain⟨Z,qn,bs,sn,sub,F,n,G,O,P,R,S,V,Y,k,m,ci⟩:=i.ex;have w:B.length<=sizeLine:=by rw[<- r.length];exact bS v (by decide)
 obtain⟨M,g1,d1,A,y⟩:=z;exact PH eB eB.hasB eB i.tail k m ci w λL a t' f u keep=>⟨.ref a,_,d.laid (a:=a) (o:=vX a C) (t':=A) keep f (Nc u),rfl,q a (d.hok.fresh f)⟩
end
end L2
namespace L2
open PySem PySem.Spec PyProof.Rows Lw
def Jb (K:nH) (E:XK) (j:Xc->Prop) (l:qK) (g:TS):TS:=λD d H=>∃ (B:Bs) (c:Aa Sl) (T:pN) (f:Aa Sl->Prop),c.length=d.length/\DS K B (c.zip d++T) H/\l B.dk { nx:=f,rt:=λ_=>False } c/\(∀ b a e,b.length=a.length->a.length=d.length->DS K B (b.zip a++T) e->f b->g D a e)/\XL B E j
section
variable {X:Cx}{st:Stmt}{rest:Aa Stmt}
theorem P8 (h:qD X rest g):qD X rest (Jb X.K E j Jq g):=h.mono λD d H ⟨B,c,T,e,a,hd,b,k,_⟩=>k c d H a rfl hd b
theorem uL (j:xF X E g st t) (l:qD X rest (Jb X.K E g u o)):qD X (st::rest) (Jb X.K E g (zJ t u) o):=(A2 j l).mono λD F H ⟨B,x,T,h,i,hd,m,k,e⟩ =>
 ⟨B,x,T,_,i,hd,m,⟨λa y A n s d=>⟨λq=>⟨B,a,T,h,n,d,q,λb c f v w=>k b c f v (w.trans s),e⟩,λz=>z.elim,λz=>z.elim⟩,λ_ _ _ _ _ _ _ z=>z.elim⟩,e⟩
end
abbrev pL:=Aa (hH×D)
abbrev F0:=Aa Ad->Aa D->(pL->pL->Prop)->(Xc->Prop)->Prop
def Cu (K:nH) (R:F0):Sp:=λq H Q E=>∃ (d:Aa Ad) (A:Ad->Prop) (ds:Aa D) (n:pL->pL->Prop) (m:Xc->Prop),Dk d H/\(∀ a,A a->a∉d)/\Reps K A H ds q/\R d ds n m /\
 (∀ (f h:pL) (t e w:Ad) (c:Hp),n f h->yT d H c->Dk d c->H t=none->H e=none->H w=none->e≠w->c t=some (.t [.ref e,.ref w])->pX K (λb=>b∉d/\(A b\/H b=none)) c e (.k f)->pX K (λb=>b∉d/\(A b\/H b=none)) c w (.k h)->Q (.ref t) c) /\
 ∀ x,m x->∀ C i c,XP d H x C i c->E C i c
theorem O9 {j:Aa Sl}{g:St}{i:Nat}{s:Sl}(o:j.length=g.length) (h:j[i]?=some s):∃ x l L2,g[i]?=some x/\j.zip g=l++(s,x)::L2:=by
 obtain⟨c,e⟩:=aP.mp h;have a:i<g.length:=o▸c;have d:i<(j.zip g).length:=by rw[List.length_zip];omega
 have b:(j.zip g)[i]=(s,g[i]):=by rw[List.getElem_zip,e]
 refine⟨g[i],(j.zip g).take i,(j.zip g).drop (i+1),aH a,?_⟩;rw[<- b,List.getElem_cons_drop,List.take_append_drop]
def OR (K:nH) (i:Nat) (g:oG):TS:=Se (Q2 (Jp (rC i) (Jp (dE K g) Ua)))
theorem Fun.okXP {P:Ah}{K:nH}{st:Stmt}{R:F0}(i:Nat) (F:Fun K x I st f fd) (S:FnScope N ps (oC st)) (C:∀ j ds Φ Ξ,R j ds Φ Ξ->ds.length=ps.length)
  (J:∀ (l:Ac) (A:Around) (g:Aa Env) (s:Ae) (H:Hp) (E:XK) (j:Aa Ad) (ds:Aa D) (Φ:pL->pL->Prop) (Ξ:Xc->Prop),Room k (A.deeper (envOfC I (oC st) s.heap.objs.size f l))->R j ds Φ Ξ ->∃ t te,qD (pA (oQ P w) P w K mg base N I (oC st) f l A g s H E) (sH st) (Jb K E Ξ t (OR K i te))/\t j { nx:=λρ=>∃ T,ρ[i]?=some (.o (.k T))/\te j ρ λr aa=>∃ U,r = .o (.k U)/\aa[i]?=some (.o (.k T))/\Φ T U,rt:=λ_=>False } (qY N ds)):FnOk P w K mg base (oQ P w) (k+1) f fd ps (Cu K R):=by
 obtain⟨oc,od,kV,aj,pm,an,l,ct,ak,rfl,lk,ab⟩:=F.ex;refine Na lk ab S (λL H Q E hz=>by obtain⟨j,A,ds,Φ,Ξ,_,_,r,X,_⟩:=hz;rw[<- r.length];exact C _ _ _ _ X) λA g s H L Q E hr hz=>?_
 obtain⟨j,W,ds,Φ,Ξ,ac,hA,r,X,hq,hx⟩:=hz;obtain⟨t,te,ht,hb⟩:=J l A g s H E j ds Φ Ξ hr X;have Y:ds.length=L.length:=r.length;have dl:ds.length=ps.length:=C _ _ _ _ X;refine⟨_,ht,⟨j,W,H⟩,qY N ds,[],_,?_,?_,hb,?_,hx⟩
 .unfold qY start;rw[List.length_append,List.length_append,List.length_map,List.length_map,List.length_replicate,List.length_replicate,Y]
 .have e0:(qY N ds).zip (start N L)=(ds.zip L).map (λp=>(Sl.v p.1,some p.2))++List.replicate (N.length-ds.length) (Sl.n,none):=by
   unfold qY start;rw[<- Y];exact Fl _ Y
  have u:lT ((qY N ds).zip (start N L))=[]:=by
   rw[e0];refine dJ.mpr λa c=>?_
   obtain⟨q,h,e⟩:=uC.mp c;rcases aW.mp h with z | z
   .obtain⟨p,_,rfl⟩:=aO.mp z;cases e
   .rw[(fK.mp z).2] at e;cases e
  rw[cO];refine⟨λb o e _=>e,ac,by rw[u];exact cE,(λa c=>by rw[u] at c;exact absurd c aR),λq h=>?_⟩;rw[u];rw[e0] at h;rcases aW.mp h with z | z
  .obtain⟨p,d,rfl⟩:=aO.mp z;exact⟨p.2,rfl,(Ix r p d).mono (.all λa c=>⟨hA a c,aR,.inl c⟩)⟩
  .rw[(fK.mp z).2];trivial
 .rintro aa O H' l1 _ d1 ⟨T,u,ae⟩;obtain⟨x,L1,L2,G,ez⟩:=O9 l1 u;have ag:=d1.ok (.o (.k T),x) (by rw[ez];simp);obtain⟨e,rfl,_⟩:=ag;refine⟨.ref e,G,⟨j,W,H⟩,aa,[],_,l1,d1,ae,?_⟩;rintro _ M v2 H2 m1 d2 ⟨U,rfl,e2,af⟩;obtain⟨x2,M1,M2,B,y⟩:=O9 m1 e2;rw[G] at B;cases B;have ah:=d2.ok (.o (.k U),some v2) (by simp);obtain⟨m,ew,r2⟩:=ah;cases ew;have ai:=d2.ok (.o (.k T),some (.ref e)) (by rw[y];simp);obtain⟨e',ee,r1⟩:=ai;cases ee;have nd:=d2.nd;have Z:lT (M.zip O++[(Sl.o (.k U),some (V.ref m))])=lT M1++([e]++(lT M2++[m])):=by
   rw[y,bM,cT,sD,sD];rfl
  have ne:e≠m:=λz=>by
   rw[Z,z] at nd;have:=(bW.mp nd).2.1;exact (bP.mp this).1 (by simp)
  have n1:=d2.new e (by rw[Z];simp);have n2:=d2.new m (by rw[Z];simp);refine⟨by show 2<=sizeLine;decide,λp d=>?_⟩;have kp:Kp (Al ⟨j,W,H⟩ (lT (M.zip O++[(Sl.o (.k U),some (V.ref m))]))) (λb=>b∉j/\(W b\/H b=none)) H2 (upd H2 p (.t [.ref e,.ref m])) :=
   ⟨λa o c q=>⟨⟨c.1,c.2.2⟩,by rw[nP (pJ q d)];exact q⟩,λa o _ q=>by rw[nP (pJ q d)];exact q⟩
  exact hq T U p e m _ af (Va d2.fr d) (Tc d2.dk d) (d2.free d).1 n1.1 n2.1 ne oO (r1.mono kp λo q=>by rw[nP (pJ q d)];exact q) (r2.mono kp λo q=>by rw[nP (pJ q d)];exact q)
theorem FnOk.told {P:Ah}{K:nH}{R:F0}(F:FnOk P w K I base C k f fd J (Cu K R)):FnOk P w K I base C k f fd J (vF K λg ds p j=>R g ds (λl o=>p (.v (.t [.k l,.k o]))) j):=by
 refine F.imp λY H Q E h=>?_
 obtain⟨g,A,ds,p,j,c,B,r,D,L,O⟩:=h;refine⟨g,A,ds,_,j,c,B,r,D,λl o t e w d n z G X x y ne N V W=>L _ _ d n z G ?_,O⟩;have hd:∀ {a:Ad},a∉g->H a=none->∀ {s:pL},pX K (λb=>b∉g/\(A b\/H b=none)) d a (.k s)->Rep K (λb=>b∉g/\(A b\/H b=none)) d (.k s) (.ref a):=λ{a} i m {s} M=>by
  obtain⟨S,g1,g2,g3⟩:=M;exact .k ⟨i,.inr m⟩ (.inl g1) g2 g3
 have u:∀ {a:Ad},H a=none->a∉g:=λ{a} i m=>by
  obtain⟨Z,q⟩:=c.some m;rw[i] at q;cases q
 exact .t N (.cons (hd (u x) x V) (.cons (hd (u y) y W) .nil))
theorem FnOk.quiet {P:Ah}{K:nH}(F:FnOk P w K j base (oQ P w) k f fd l o):FnOk P w K j base oM k f fd l (λg H Q _=>o g H Q λ_ _ _=>False) :=
 ⟨λg H Q E h=>F.len g H Q _ h,λA a s H args n g Q E e b d r i=>mB (F.run A a s H args n g Q _ e b d r i) λm t h=>by
  cases m with
  | error q=>obtain⟨_,_,_,_,_,_,_,_,_,_,_,_,_,z⟩:=h;exact z.elim
  | ok c=>cases c<;>exact h⟩
def Yv (g:Xc->Prop) (C:Ad) (i j:Nat):qK:=λ_ _ a=>∃ x y:Af,at? a i=some (.str x)/\at? a j=some (.str y)/\x.length<=1000/\y.length<=1000/\g (C,[])
section
variable {P:Ah}{K:nH}{cd:Ac}
theorem LO (xc:sI K C N bm none=true) (bb:bm.contains (.type "BaseException")=true) (ab:PySem.W.keepIn K (.ref C)=true)
  (hm:I x=some (.ref C)) (h1:PE (pA (oQ P w) P w K I base Nm r l f0 cd J g s0 U E) e1 (rC i)) (h2:PE (pA (oQ P w) P w K I base Nm r l f0 cd J g s0 U E) e2 (rC j)) (hg:Gl (pA (oQ P w) P w K I base Nm r l f0 cd J g s0 U E) x:=by rfl) (aa:(x == ("__debug__" : Af))=false:=by decide) (ha:a.length<=1000:=by decide +kernel) (hb:b.length<=1000:=by decide +kernel) (hc:c.length<=1000:=by decide +kernel) :
  xF (pA (oQ P w) P w K I base Nm r l f0 cd J g s0 U E) E Ξ (.Raise (some (.Call (.Name x p) [.JoinedStr [.Constant (.str a) k1 p1,.FormattedValue e1 (-1) none p2,.Constant (.str b) k2 p3,.FormattedValue e2 (-1) none p4,.Constant (.str c) k3 p5] p6] [] pos)) none ac) (Yv Ξ C i j) :=
 (IJ (KL (x:=x) (es:=[]) xc ab hg hm (oH (W2 h1 h2 ha hb hc) qN rfl) aa ⟨rfl,rfl⟩)).mono λDn σ H Q=>Q.elim λB ρ T De v hd R lk xl=>by
  obtain⟨Y,Z,M,O,S,V,m⟩:=R;obtain⟨v1,h,t⟩:=hd.peek v M;obtain⟨v2,k,u⟩:=hd.peek v O;cases t;cases u;refine⟨_,h,Y,rfl,S,_,k,Z,rfl,V,λz=>⟨by show 1<=10;decide,λe ne=>⟨e,C,N,bm,none,rfl,oO,xc,bb,λd f=>?_⟩⟩⟩;have D:d≠e:=λz=>by rw[z,oO] at f;cases f
  have s:H d=none:=by rw[nP D] at f;exact f
  have keep:∀ b o,H b=some o->upd (upd (upd H e (vX e C)) e (qR e (.ref C) none)) d (rF d) b=some o:=λb o q=>by
   rw[nP (pJ q s),nP (pJ q ne),nP (pJ q ne)];exact q
  refine xl _ m _ _ _ ⟨⟨rfl,.inl ⟨rfl,rfl⟩⟩,λb o F n=>keep b o (hd.fr b o F n),?_,λd' G=>by cases G⟩;rcases hd.dk with q | ⟨x,y,q,A⟩
  .exact .inl q
  .refine .inr ⟨x,y,q,?_⟩;obtain⟨X,p,g1,g2,g3,L⟩:=A.ex;exact⟨X,p,keep _ _ g1,keep _ _ g2,g3,L⟩
end
end L2
namespace Lw
open PySem L2
theorem Y1:(["pair"]:Aa Af).Nodup:=by decide +kernel
def wC (a b:nQ):nQ:=b.foldl (λt p=>pV t p.1 (look t p.1+p.2)) a
theorem N9:∀ (b a:nQ) (x:Af),x∈a.map (·.1)->x∈(wC a b).map (·.1)
 | [],a,x,h=>h
 | p::b,a,x,h=>N9 b _ x (by rw[Cf];split<;>simp[h])
theorem Nt:∀ (b a:nQ),(a.map (·.1)).Nodup->((wC a b).map (·.1)).Nodup
 | [],a,h=>h
 | p::b,a,h=>Nt b _ (Dr h p.1 _)
theorem Gv:∀ (b a:nQ),(wC a b).length<=a.length+b.length
 | [],a=>bB _
 | p::b,a=>by
  have:=Gv b (pV a p.1 (look a p.1+p.2));have:=Cn a p.1 (look a p.1+p.2);show (wC (pV a p.1 (look a p.1+p.2)) b).length<=_;rw[cS];omega
theorem Xx {a b:nQ}{j:Nat}{p:Af×Int}(h:b[j]?=some p):wC a (b.take (j+1))=pV (wC a (b.take j)) p.1 (look (wC a (b.take j)) p.1+p.2):=by
 unfold wC;rw[cH,h,kT];rfl
theorem Gm (f:Af->Af) (t:nQ) (C:Cel) (g:Aa (Af×Af)):((rD f t C g).map (·.1)).Nodup:=Dr (Uw _ [] cE) _ _
theorem Jm (j:g.length<=100) (l:C.ins.length<=100) (o:C.outs.length<=100):(rD f t C g).length<=301:=by
 have b:=R5 j l o;have a:=Mf ((qG C g).map λx=>(f x,look t x)) [];have c:=Cn (tS [] ((qG C g).map λx=>(f x,look t x))) "" (look t "");rw[aA,dL] at a;unfold rD;omega
theorem OG (h:x∈qG C g):f x∈(rD f t C g).map (·.1):=by
 have:f x∈(tS [] ((qG C g).map λx=>(f x,look t x))).map (·.1):=(Qv _ _ _).mpr (.inr (by rw[aU];exact aO.mpr ⟨x,h,rfl⟩));unfold rD;rw[Cf];split<;>simp[this]
def pW (C g:Cel) (j l o:Aa (Af×Af)) (p r:nQ):nQ:=wC (rD fA p C j) (rD (nZ o) r g l)
def zW (l o p:Aa (Af×Af)) (g j:Af->D):Aa (hH×D):=pR (vZ fA g l) (vZ (nZ p) j o)
structure XK0 (K:nH) (mg:Str->Option Value) (x:Str) (C N:Addr) (bm:List Value):Prop where
 xc:sI K C N bm none=true
 bb:bm.contains (.type "BaseException")=true
 kp:PySem.W.keepIn K (.ref C)=true
 m:mg x=some (.ref C)
def Lu (l g j:Ad):F0:=λu ds s m=>∃ C b d c a e f n q h i,ds=[nD C b,nD d c,.t (a.map λp=>D.t [.str p.1,.str p.2]),.t [.k e,.k (hI h)],.t [.k f,.k (hI i)]]/\RG C b/\RG d c/\(∀ p∈a,uK p.1/\uK p.2)/\a.length<=40 /\
 (∀ p∈b,nR e (Sum.inr p.2)=some (n p.2))/\(∀ p∈c,nR f (Sum.inr p.2)=some (q p.2)) /\
 (qQ (oR C b) (oZ d c) a=none->InB (jC C d a) (jP b c a)->(∀ p∈a,look (pW C d b c a h i) (fA p.1)=0)->s (zW b c a n q) (hI ((pW C d b c a h i).filter λp=>!decide (p.2=0)))) /\
 (qQ (oR C b) (oZ d c) a=none->InB (jC C d a) (jP b c a)->(∃ p∈a,look (pW C d b c a h i) (fA p.1)≠0)->m (j,[])) /\
 (qQ (oR C b) (oZ d c) a=none->¬ InB (jC C d a) (jP b c a)->m (D8 g))/\∀ y,qQ (oR C b) (oZ d c) a=some y->m (Ak l y)
theorem Us:(vZ f e g).length<=g.length:=by
 have:=D0 (g.map λp=>((Sum.inr (f p.2):hH),e p.2)) [];rw[dL,aA] at this;unfold vZ;omega
section
variable {P:Ah}{K:nH}
theorem zF:FnScope ["one","other","pairs","claim_one","claim_other","turned","turned_other","edges","weights","more","name","output"] ["one","other","pairs","claim_one","claim_other"] (oC Ee):=pK
theorem NH (F:Fun K "claims_together" "claims_together" Ee f fd) (T:Txt mg) (O:XK0 K mg "NoClaim" CL NL bL) (I:Gd K mg "rows_together" Iz ["one","other","pairs"] fT aw) (U:Gd K mg "first_names" E5 ["row"] fF au) (J:Gd K mg "second_names" E2 ["row","pairs"] fS av) (r:Gd K mg "edges_turned" J5 ["row","edges","turned"] fE ar) (l:Gd K mg "weights_turned" Hz ["row","weights","turned"] fW ax) (ac:FnOk P w K mg base (oQ P w) 5 fT aw ["one","other","pairs"] (vF K (Vb CN CC))) (af:FnOk P w K mg base oM 2 fF au ["row"] (pF K Ni)) (ae:FnOk P w K mg base oM 2 fS av ["row","pairs"] (pF K Ml)) (ab:FnOk P w K mg base oM 2 fE ar ["row","edges","turned"] (pF K Wm)) (aa:FnOk P w K mg base oM 4 fW ax ["row","weights","turned"] (pF K Vz)):FnOk P w K mg base (oQ P w) 6 f fd ["one","other","pairs","claim_one","claim_other"] (Cu K (Lu CN CC CL)):=by
 refine Fun.okXP (k:=5) 7 F zF (λdk ds Φ Ξ ⟨_,_,_,_,_,_,_,_,_,_,_,e,_⟩=>by rw[e];rfl) λa6 A a4 s H E dk ds Φ Ξ hr hR=>?_
 have hu:=tW hr;obtain⟨C,u,G,B,d,ag,ah,e1,e2,Q,R,rfl,Z,h2,sm,lp,ay,a0,ai,hL,hC,hX⟩:=hR;have a1:=Z.gc.li;have a2:=Z.gc.lg;have a3:=Z.gc.lo;have c1:=h2.gc.li;have c2:=h2.gc.lg;have c3:=h2.gc.lo;have d1:=Z.lp;have d2:=h2.lp;refine⟨_,_,(uL (x_call ac (hr.mono (by decide)) (by rfl) I.m I.k I.b (dK (eH 0) (dK (eH 1) (dK (eH 2) gV)))) (uL (sE (oB 5 zF.nd (pS af (hr.mono (by decide)) (by rfl) U.m U.k U.b (dK (eH 0) gV)))) (uL (sE (oB 6 zF.nd (pS ae (hr.mono (by decide)) (by rfl) J.m J.k J.b (dK (eH 1) (dK (eH 2) gV))))) (uL (sE (oB 7 zF.nd (pS ab (hr.mono (by decide)) (by rfl) r.m r.k r.b (dK (eH 0) (dK (nI hu 3 gD) (dK (eH 5) gV)))))) (uL (sE (wJ (uW eV PySem.F.slot_dict_update PySem.F.type_dict_update Rh Rn (pv 7) (dK (pS ab (hr.mono (by decide)) (by rfl) r.m r.k r.b (dK (eH 1) (dK (nI hu 4 gD) (dK (eH 6) gV)))) gV)))) (uL (sE (oB 8 zF.nd (pS aa (hr.mono (by decide)) (by rfl) l.m l.k l.b (dK (eH 0) (dK (nI hu 3 gD) (dK (eH 5) gV)))))) (uL (sE (oB 9 zF.nd (pS aa (hr.mono (by decide)) (by rfl) l.m l.k l.b (dK (eH 1) (dK (nI hu 4 gD) (dK (eH 6) gV)))))) (uL (sE (Ke (m:=99) jN rfl (eH 9) (nU 10 zF.nd) (oN (yJ (n:=8) hu (nV oE oF (Fa hu (pv 8) (eH 10) gD) (nI hu 9 (eH 10))) (pv 8) (eH 10))))) (uL (Pw (oS (eH 2)) (rZ (n:=2) rfl (oX (nU 11 zF.nd) (oX (nU 10 zF.nd) rY))) (wH (Fj (sY (Hl hr.units) (Ga true) (nI hu 8 (nV oE oF qM (eH 11))) gD) (wH (LO O.xc O.bb O.kp O.m (pv 11) (pv 10))) (Eo tN))) jN) (P8 (sV (wT (zU (oH (pv 7) (oH (pI (wX rfl) xU T.dict cV (dK (CD ["pair"] [] [] rfl (eH 8) rfl rfl (λ_ _ _ _ _=>(nU 0 Y1)) (λ_ _ _ _ _=>(xJ (sY (Hl hr.units) (Ga true) (nI hu 0 gD) gD))) (λ_ _ _ _ _=>(eH 0))) gV)) qN))))))))))))))),?_⟩;let b:Aa Sl:=[.v (nD C u),.v (nD G B),.v (.t (d.map λp=>D.t [.str p.1,.str p.2])),.v (.t [.k ag,.k (hI Q)]),.v (.t [.k ah,.k (hI R)])];refine nJ (λL=>L=b++[.n,.n,.n,.n,.n,.n,.n]/\qQ (oR C u) (oZ G B) d=none/\InB (jC C G d) (jP u B d)) (λN V=>⟨C,u,G,B,d,rfl,Z,h2,sm,lp,λz y=>⟨.inl rfl,V _ ⟨rfl,z,y⟩⟩,hC,hX⟩) ?_;rintro _ ⟨rfl,aj,ib⟩;have pk:=Nl _ _ _ aj;have ai:=ai aj ib;have hL:=hL aj ib;have a5:∀ p∈d,p.1∈C.names:=λp W=>Z.gc.os _ (bR.mp (pk.m p W).1).1
 have aq:∀ p∈d,p.1.length<=1000:=λp W=>by have:=(Z.az _ (a5 p W)).hi;omega
 have wg:∀ {C:Cel} {ak:Aa (Af×Af)},RG C ak->∀ x∈qG C ak,x∈C.names:=λ{C ak} h x S=>by
  unfold qG at S;rcases aW.mp S with S | S
  .rcases aW.mp S with S | S
   .exact aL _ (bR.mp S).1
   .exact h.gc.os _ (bR.mp S).1
  .obtain⟨p,W,rfl⟩:=aO.mp S;exact aL _ (h.m p W).2
 refine nJ (λL=>∃ kv,(∀ x∈C.names,nR kv (Sum.inr x)=some (.str (fA x)))/\L=b++[.o (.k kv),.n,.n,.n,.n,.n,.n]) (λN V=>⟨C,u,rfl,Z.gc.nd,by omega,by omega,λx S=>by have:=(Z.az x S).hi;omega,λkv hv=>⟨.inl rfl,V _ ⟨kv,hv,rfl⟩⟩⟩) ?_;rintro _ ⟨X,an,rfl⟩;refine nJ (λL=>∃ kv,(∀ x∈G.names,nR kv (Sum.inr x)=some (.str (nZ d x)))/\L=b++[.o (.k X),.o (.k kv),.n,.n,.n,.n,.n]) (λN V=>⟨G,B,d,rfl,h2.gc.nd,by omega,by omega,λx S=>by have:=(h2.az x S).hi;omega,pk.n2,by omega,aq,λkv hv=>⟨.inl rfl,V _ ⟨kv,hv,rfl⟩⟩⟩) ?_;rintro _ ⟨Y,ao,rfl⟩;refine nJ (λL=>L=b++[.v (.k X),.o (.k Y),.o (.k (vZ fA e1 u)),.n,.n,.n,.n]) (λN V=>⟨rfl,_,rfl,C,u,ag,X,fA,e1,rfl,by omega,λp W=>⟨an _ (aL _ (Z.m p W).2),ay p W⟩,.inl rfl,V _ rfl⟩) ?_;rintro _ rfl;refine nJ (λL=>L=b++[.v (.k X),.v (.k Y),.o (.k (zW u B d e1 e2)),.n,.n,.n,.n]) (λN V=>⟨rfl,rfl,_,rfl,G,B,ah,Y,nZ d,e2,rfl,by omega,λp W=>⟨ao _ (aL _ (h2.m p W).2),a0 p W⟩,.inl rfl,?_,V _ rfl⟩) ?_
 .have l1:(vZ fA e1 u).length<=u.length:=Us;have l2:(vZ (nZ d) e2 B).length<=B.length:=Us;omega
 rintro _ rfl;refine nJ (λL=>L=b++[.v (.k X),.v (.k Y),.o (.k (zW u B d e1 e2)),.o (.k (hI (rD fA Q C u))),.n,.n,.n]) (λN V=>⟨rfl,_,rfl,C,u,Q,X,fA,rfl,by omega,by omega,by omega,λx S=>an x (wg Z x S),.inl rfl,V _ rfl⟩) ?_;rintro _ rfl;refine nJ (λL=>L=b++[.v (.k X),.v (.k Y),.o (.k (zW u B d e1 e2)),.o (.k (hI (rD fA Q C u))),.o (.k (hI (rD (nZ d) R G B))),.n,.n]) (λN V=>⟨rfl,_,rfl,G,B,R,Y,nZ d,rfl,by omega,by omega,by omega,λx S=>ao x (wg h2 x S),.inl rfl,V _ rfl⟩) ?_;rintro _ rfl;let W1:=rD fA Q C u;let M:=rD (nZ d) R G B;have nM:(M.map (·.1)).Nodup:=Gm ..;have lW:W1.length<=301:=Jm (by omega) (by omega) (by omega);have lM:M.length<=301:=Jm (by omega) (by omega) (by omega);let st (t:nQ) (c a:Sl):Aa Sl:=b++[.v (.k X),.v (.k Y),.o (.k (zW u B d e1 e2)),.o (.k (hI t)),.v (.k (hI M)),c,a];refine nJ (λL=>∃ c a,L=st (pW C G u B d Q R) c a) (λN V=>?_) ?_
 .refine rW (M.map λp=>D.str p.1) (st W1 .n .n) (λΨ h=>?_) (λj L=>∃ c a,L=st (wC W1 (M.take j)) c a) ⟨.n,.n,rfl⟩ ?_ ?_
  .have e:(M.map λp=>D.str p.1)=wD (hI M):=by unfold wD hI;rw[List.map_map];rfl
   rw[e] at h;exact h
  .rintro j _ L he ⟨c,a,rfl⟩;obtain⟨p,W,rfl⟩:=wG he;have pm:=aK W;have vM:nR (hI M) (Sum.inr p.1)=some (.int p.2):=by
    rw[(sX M p.1).1 (bQ pm),Df nM pm]
   have l1:=Gv (M.take j) W1;have l2:(M.take j).length<=M.length:=by rw[cW];omega
   refine⟨rfl,_,rfl,?_⟩;rw[Gz];refine⟨rfl,_,cA some vM,rfl,_,G5 (by omega),.v (.str p.1),a,?_⟩;rw[Xx W];rfl
  .rintro L ⟨c,a,rfl⟩;rw[aA,cY];exact V _ ⟨c,a,rfl⟩
 rintro _ ⟨c,a,rfl⟩;have nW:((pW C G u B d Q R).map (·.1)).Nodup:=Nt _ _ (Gm ..);have lC:(pW C G u B d Q R).length<=602:=by
  have:=Gv M W1;show (wC W1 M).length<=602;omega
 refine nJ (λL=>(∀ p∈d,look (pW C G u B d Q R) (fA p.1)=0)/\∃ c a,L=st (pW C G u B d Q R) c a) (λN V=>?_) ?_
 .refine rW (d.map λp:Af×Af=>D.t [.str p.1,.str p.2]) (st (pW C G u B d Q R) c a) (λΨ h=>h) (λj L=>(∀ p∈d.take j,look (pW C G u B d Q R) (fA p.1)=0)/\∃ c a,L=st (pW C G u B d Q R) c a) ⟨by simp,c,a,rfl⟩ ?_ ?_
  .rintro j _ L he ⟨z0,c,a,rfl⟩;obtain⟨p,W,rfl⟩:=wG he;have pm:=aK W;have ky:fA p.1∈(pW C G u B d Q R).map (·.1):=N9 _ _ _ (OG (aL _ (aX _ (pk.m p pm).1)));have vW:=(sX (pW C G u B d Q R) (fA p.1)).1 ky;have lq:=aq p pm;refine⟨rfl,rfl,rfl,by show 1+p.1.length<=100000;omega,_,cA some vW,?_⟩;by_cases z:look (pW C G u B d Q R) (fA p.1)=0
   .refine qL (by simp[nb,z]) ⟨λq hq=>?_,.v (.str p.2),.v (.str p.1),rfl⟩;rw[cH,W] at hq;rcases aW.mp hq with y | y
    .exact z0 q y
    .rw[aJ.mp y];exact z
   .exact qS (by simp[nb,z]) ⟨p.1,p.2,rfl,rfl,by omega,(sm p pm).2.2,hL ⟨p,pm,z⟩⟩
  .rintro L ⟨z0,c,a,rfl⟩;rw[aA,cY] at z0;exact V _ ⟨z0,c,a,rfl⟩
 rintro _ ⟨z0,c,a,rfl⟩;refine⟨_,rfl,?_⟩;unfold dC;refine wM (pW C G u B d Q R) (λp:Af×Int=>D.t [.str p.1,.int p.2]) (λp=>D.t [.str p.1,.int p.2]) (λp=>!decide (p.2=0)) _ (λΨ h=>⟨_,rfl,h⟩) (by omega) (λi p ys Nx e hy Z h2=>?_) ?_
 .refine⟨rfl,_,rfl,?_⟩;by_cases z:p.2=0
  .exact qL (by simp[nb,z]) (h2 (by simp[z]))
  .exact qS (by simp[nb,z]) ⟨hy,Z (by simp[z])⟩
 have e0:uH (((pW C G u B d Q R).filter λp=>!decide (p.2=0)).map λp=>D.t [.str p.1,.int p.2])=some (hI ((pW C G u B d Q R).filter λp=>!decide (p.2=0))):=yD (g:=λp:Af×Int=>((Sum.inr p.1:hH),D.int p.2)) (λp=>⟨.str p.1,rfl,rfl⟩) _;have lf:=bK (λp:Af×Int=>!decide (p.2=0)) (pW C G u B d Q R);refine⟨_,e0,by unfold hI;rw[List.length_map];omega,?_⟩;rw[Ry (nW.sublist ((jW ..).map _))];exact⟨_,rfl,rfl,ai z0⟩
end
def vH (f:Af->Af) (t:nQ) (z:Af):Int:=((t.filter λp=>decide (f p.1=z)).map (·.2)).sum
theorem Ew (t:nQ) (x z:Af) (n:Int):look (pV t x n) z=if x=z then n else look t z:=by
 rw[QC];by_cases q:x=z
 .rw[aQ q,aQ q.symm]
 .rw[aG q,aG λe=>q e.symm]
theorem MX (f:Af->Af) (z:Af):vH f [] z=0:=rfl
theorem Lg (f:Af->Af) (p:Af×Int) (t:nQ) (z:Af):vH f (p::t) z=(if f p.1=z then p.2 else 0)+vH f t z:=by
 unfold vH;by_cases q:f p.1=z
 .rw[aQ q,eX (by simp[q])];rfl
 .rw[aG q,gC (by simp[q]),Int.zero_add]
def sG (f:Af->Af) (a t:nQ):nQ:=t.foldl (λu p=>pV u (f p.1) (look u (f p.1)+p.2)) a
theorem Ij (f:Af->Af) (z:Af):∀ (t a:nQ),look (sG f a t) z=look a z+vH f t z
 | [],a=>by show look a z=_;rw[MX,Int.add_zero]
 | p::t,a=>by
  show look (sG f (pV a (f p.1) (look a (f p.1)+p.2)) t) z=_;rw[Ij f z t,Ew,Lg];by_cases q:f p.1=z
  .rw[aQ q,aQ q,q];omega
  .rw[aG q,aG q];omega
theorem Ki (f:Af->Af):∀ (t a:nQ),(a.map (·.1)).Nodup->((sG f a t).map (·.1)).Nodup
 | [],a,h=>h
 | p::t,a,h=>Ki f t _ (Dr h _ _)
theorem Ff (f:Af->Af):∀ (t a:nQ),(sG f a t).length<=a.length+t.length
 | [],a=>bB _
 | p::t,a=>by
  have:=Ff f t (pV a (f p.1) (look a (f p.1)+p.2));have:=Cn a (f p.1) (look a (f p.1)+p.2);show (sG f (pV a (f p.1) (look a (f p.1)+p.2)) t).length<=_;rw[cS];omega
theorem Yb {f:Af->Af}{a t:nQ}{j:Nat}{p:Af×Int}(h:t[j]?=some p):sG f a (t.take (j+1))=pV (sG f a (t.take j)) (f p.1) (look (sG f a (t.take j)) (f p.1)+p.2):=by
 unfold sG;rw[cH,h,kT];rfl
theorem Nq:∀ {t:nQ},(∀ p∈t,f p.1≠z)->vH f t z=0
 | [],_=>rfl
 | p::t,h=>by rw[Lg,aG (h p aI),Nq λq a=>h q (aV _ a)];rfl
theorem Gx:∀ {t:nQ},(t.map (·.1)).Nodup->(∀ p∈t,f p.1=z↔p.1=x)->vH f t z=look t x
 | [],_,_=>rfl
 | p::t,d,h=>by
  obtain⟨b,c⟩:=bP.mp d;rw[Lg,wA];by_cases q:p.1=x
  .rw[aQ q,aQ ((h p aI).mpr q),Nq λr a e=>b ?_,Int.add_zero];have:=(h r (aV _ a)).mp e;exact aO.mpr ⟨r,a,this.trans q.symm⟩
  .rw[aG q,aG λe=>q ((h p aI).mp e),Gx c λr a=>h r (aV _ a),Int.zero_add]
theorem Hw {g:Af->Af}{v:Af->Int}{z:Af}:∀ (j:Aa Af) (a:nQ),look (tS a (j.map λx=>(g x,v x))) z=if z∈j.map g then look (tS [] (j.map λx=>(g x,v x))) z else look a z
 | [],a=>rfl
 | x::j,a=>by
  show look (tS (pV a (g x) (v x)) (j.map λx=>(g x,v x))) z=if z∈g x::j.map g then look (tS (pV [] (g x) (v x)) (j.map λx=>(g x,v x))) z else look a z
  rw[Hw j (pV a (g x) (v x)),Hw j (pV [] (g x) (v x)),Ew,Ew];by_cases q:z∈j.map g
  .simp only[aQ q,aQ (aV _ q)]
  .rw[aG q,aG q];by_cases y:g x=z
   .rw[aQ y,aQ y,aQ (by rw[<- y];exact aI)]
   .rw[aG y,aG λw=>?_];rcases aM.mp w with w | w
    .exact y w.symm
    .exact q w
theorem Up {g:Af->Af}{v:Af->Int}{z x:Af}:∀ {j:Aa Af},x∈j->g x=z->(∀ y∈j,g y=z->y=x)->look (tS [] (j.map λx=>(g x,v x))) z=v x
 | y::j,a,e,inj=>by
  show look (tS (pV [] (g y) (v y)) (j.map λx=>(g x,v x))) z=_;rw[Hw];by_cases q:z∈j.map g
  .rw[aQ q];obtain⟨w,hw,b⟩:=aO.mp q;have:=inj w (aV _ hw) b;exact Up (this▸hw) e λu c=>inj u (aV _ c)
  .rw[aG q,Ew];rcases aM.mp a with rfl | a
   .rw[aQ e]
   .exact absurd (aO.mpr ⟨x,a,e⟩) q
def qW (f:Af->Af) (x:Af):Af:=if x = "" then "" else f x
theorem Qh {f:Af->Af}{t:nQ}{C:Cel}{g:Aa (Af×Af)}(l:(t.map (·.1)).Nodup) (j:∀ x∈t.map (·.1),x∈qG C g\/x = "") (ne:∀ x∈qG C g,f x ≠ "") (n0:("" : Af)∉qG C g) (inj:∀ x∈qG C g,∀ y∈qG C g,f x=f y->x=y) (z:Af):look (rD f t C g) z=vH (qW f) t z:=by
 unfold rD;rw[Ew];have c:∀ x∈qG C g,qW f x=f x:=λx a=>aG λe:x = "" => n0 (e▸a)
 by_cases q:("" : Af)=z
 .rw[aQ q];refine (Gx l λp b=>?_).symm;rcases j _ (bQ b) with w | w
  .rw[c _ w,<- q];exact⟨λe=>absurd e (ne _ w),λe=>absurd (e▸w) n0⟩
  .rw[w,<- q];exact⟨λ_=>rfl,λ_=>aQ rfl⟩
 .rw[aG q];by_cases m:z∈(qG C g).map f
  .obtain⟨x,a,e⟩:=aO.mp m;rw[Up a e λy i d=>inj y i x a (d.trans e.symm)];refine (Gx l λp b=>?_).symm;rcases j _ (bQ b) with w | w
   .rw[c _ w];exact⟨λh=>inj _ w x a (h.trans e.symm),λh=>by rw[h];exact e⟩
   .rw[w];exact⟨λh=>absurd (show qW f "" = "" from aQ rfl) (by rw[h];exact λy=>q y.symm),λh=>absurd (h▸a) n0⟩
  .rw[Hw,aG m];refine (Nq λp b h=>?_).symm;rcases j _ (bQ b) with w | w
   .rw[c _ w] at h;exact m (aO.mpr ⟨_,w,h⟩)
   .rw[w] at h;exact q ((show qW f "" = "" from aQ rfl)▸h)
theorem LP (a b:nQ):wC a b=sG id a b:=rfl
theorem FT (g:(t.map (·.1)).Nodup) (z:Af):vH id t z=look t z:=Gx g λp _=>Iff.rfl
theorem CG (z:Af) (p:look (rD fA j C I) z=vH (qW fA) j z) (r:look (rD (nZ g) l o J) z=vH (qW (nZ g)) l z):look (pW C o I J g j l) z=vH (qW fA) j z+vH (qW (nZ g)) l z:=by
 unfold pW;rw[LP,Ij,FT (Gm ..),p,r]
end Lw
namespace PySem
open PyProof.Rows L2
abbrev xW (h:Ag) (e g:Ad) (i:Nat) (z:Ac) (f:Bool) (old:Ac):Prop:=h.get? e=some { cls:=.type "enumerate",data:=.fields #[z,.bool f,.ref g,.int i 0,.none,old] }
section
variable {A:Around}{e it l:Ad}
theorem Yu (I:xW s.heap e it i z f old) (r:Zf z) (g:∀ b j p,xW j e it i z p old->Heap.SameBut e s.heap j->Q b { s with heap:=j }) :
  wpAny (model o w) A (Builtin.SmallTypes.ownedTupleIsFree (.ref e)) Q E s:=by
 unfold Builtin.SmallTypes.ownedTupleIsFree;rcases r with rfl | ⟨T,rfl⟩
 .refine aB (eJ I rfl (x:=.none) rfl ?_);exact aF (g true _ _ I (iQ _ _))
 .refine aB (eJ I rfl (x:=rawInt T) rfl ?_);show wpAny _ _ (loadIfAlive ((T:Int).toNat) >>= _) _ _ _;rw[dM];refine aB (Um ?_);cases s.heap.get? T with
  | none =>
   simp only[Option.isNone_none,jS];exact aF (g true _ _ I (iQ _ _))
  | some h =>
   simp only[Option.isNone_some,cL,gQ];refine aB (eJ I rfl (x:=.bool f) rfl ?_);cases f with
   | true =>
    rw[aG (show ¬ ((Value.bool true != Value.bool true)=true) from bN)];exact aF (g false _ _ I (iQ _ _))
   | false =>
    rw[aQ (show (Value.bool false != Value.bool true)=true from rfl)];exact aB (dB I (by simp) λd c a=>aF (g false _ _ c a))
theorem KA (p:e≠it) (aa:l≠e) (ab:l≠it) (I:xW s.heap e it i z f old) (U:Zf z) (hit:s.heap.IsListIter it l i) (hl:s.heap.IsList l items) (hx:items[i]?=some x)
  (q:∀ j r C g t T,Zf r->xW j e it (i+1) r C g->j.IsListIter it l (i+1)->j.get? s.heap.objs.size=some { cls:=.type "tuple",data:=.seq #[.int i t,x] } ->
   (∀ b o,b≠e->b≠it->s.heap.get? b=some o->j.get? b=some o)->Q (some (.ref s.heap.objs.size)) { s with heap:=j,toks:=T }) :
  wpAny (model J w) A (pyNext (.ref e)) Q E s:=by
 have ty:s.TypeIs (.ref e) "enumerate" := ⟨_,I,rfl⟩;have body:wpAny (model J w) A.in1 (Builtin.«enumerate.__next__» ⟨[.ref e],[]⟩) (λy M=>∃ j r C g t T,y = .done (.ret (.ref s.heap.objs.size))/\M={ s with heap:=j,toks:=T }/\Zf r/\xW j e it (i+1) r C g/\j.IsListIter it l (i+1)/\j.get? s.heap.objs.size=some { cls:=.type "tuple",data:=.seq #[.int i t,x] } /\
   ∀ b o,b≠e->b≠it->s.heap.get? b=some o->j.get? b=some o) (λ_ _=>False) s:=by
  unfold Builtin.«enumerate.__next__»;refine aB (aF (aB (eJ I rfl (x:=.ref it) rfl ?_)));refine aB (wpAny_nextOf_list_item hit hl hx λG j1 H=>?_);have m:xW G e it i z f old:=(H.2 e p).trans I;refine aB (eJ (s:={ s with heap:=G }) m rfl (x:=.int i 0) rfl ?_);show wpAny _ _ (field (.ref e) 4 >>= _) _ _ _;refine aB (eJ (s:={ s with heap:=G }) m rfl (x:=.none) rfl ?_);show wpAny _ _ (mkInt i >>= _) _ _ _;refine aB (wpAny_mkInt ?_);refine aB (dB m (by simp) λh2 g2 u=>?_);refine aB (dB g2 (by simp) λa g3 v=>?_);have sz:a.objs.size=s.heap.objs.size:=v.1.trans (u.1.trans H.1);have ne:a.objs.size≠e:=λy=>absurd (aZ I) (by rw[<- y,sz];exact dN _)
  refine aB (wpAny_newTuple ?_);have O:xW (a.push { cls:=Value.type "tuple",data:=.seq #[.int i s.toks,x] }) e it (i+1) z f old:=aD _ g3;have up:∀ b o,b≠e->b≠it->s.heap.get? b=some o->(a.push { cls:=Value.type "tuple",data:=.seq #[.int i s.toks,x] }).get? b=some o:=λb o c h y =>
   aD _ ((v.2 b c).trans ((u.2 b c).trans ((H.2 b h).trans y)))
  have j3:(a.push { cls:=Value.type "tuple",data:=.seq #[.int i s.toks,x] }).IsListIter it l (i+1):=j1.at λo y=>aD _ ((v.2 it p.symm).trans ((u.2 it p.symm).trans y))
  refine aB (Yu (s:={ s with heap:=a.push _,toks:=_ }) O U λb d f4 D B=>?_);have k:∀ b o,b≠e->b≠it->s.heap.get? b=some o->d.get? b=some o:=λb o c h y=>(B.2 b c).trans (up b o c h y)
  have L:d.IsListIter it l (i+1):=j3.at λo y=>(B.2 it p.symm).trans y
  have N:d.get? a.objs.size=some { cls:=Value.type "tuple",data:=.seq #[.int i s.toks,x] }:=(B.2 _ ne).trans (bF _ rfl);cases b with
  | false=>exact aF ⟨d,z,f4,old,s.toks,_,by rw[<- sz],rfl,U,D,L,by rw[<- sz];exact N,k⟩
  | true =>
   refine aB (wpAny_rule (aB (eJ D rfl (x:=old) rfl ?_)));refine aB (dB D (by simp) λh5 g5 P=>?_);refine aB ?_;unfold Builtin.SmallTypes.ownedTupleHandOut;refine aB (dB g5 (by simp) λh6 g6 R=>?_);refine dB g6 (by simp) λK g7 S=>?_
   have same:∀ b,b≠e->K.get? b=d.get? b:=λb n=>(S.2 b n).trans ((R.2 b n).trans (P.2 b n))
   refine aB (wpAny_letGo (aF ⟨K,rawInt a.objs.size,false,x,s.toks,_,by rw[<- sz],rfl,.inr ⟨_,rfl⟩,g7,L.at λo y=>(same it p.symm).trans y,by rw[<- sz,same _ ne];exact N,λb o c h y=>(same b c).trans (k b o c h y)⟩))
 unfold pyNext;refine aB (gH (gF (name:=Str.ofString "__next__") ty jL (eC jL ty F.entry_enumerate_next (cZ body (λy M ⟨j,r,C,g,t,T,V,W,X,Y,Z,e6,e7⟩=>?_) λ_ _ z=>z.elim) (F.args_enumerate_next_1 _))));subst V W;exact⟨_,rfl,aF (q j r C g t T X Y Z e6 e7)⟩
theorem Ye (calm:A.handled=none) (I:xW s.heap e it i z f old) (hit:s.heap.IsListIter it l i) (p:s.heap.IsList l items) (r:items[i]?=none)
  (q:∀ g,Heap.ExtBut it s.heap g->Q none { s with heap:=g }):wpAny (model j w) A (pyNext (.ref e)) Q E s:=by
 have ty:s.TypeIs (.ref e) "enumerate" := ⟨_,I,rfl⟩;have body:wpAny (model j w) A.in1 (Builtin.«enumerate.__next__» ⟨[.ref e],[]⟩) (λ_ _=>False) (λv a=>∃ x g,v = .ref x/\a={ s with heap:=g }/\Heap.ExtBut it s.heap g/\∃ o,g.get? x=some o/\o.cls = .type "StopIteration") s:=by
  unfold Builtin.«enumerate.__next__»;refine aB (aF (aB (eJ I rfl (x:=.ref it) rfl ?_)));exact aB (wpAny_nextOf_list_end calm hit p r λg x k z=>⟨x,g,rfl,rfl,k,z⟩)
 unfold pyNext;refine aB (gH (gF (name:=Str.ofString "__next__") ty jL (eC jL ty F.entry_enumerate_next (cZ body (λ_ _ z=>z.elim) λv a ⟨e,g,c,d,h,o,m,n⟩=>?_) (F.args_enumerate_next_1 _))));subst c d;refine aB (iF (T := "StopIteration") (b:=true) ⟨o,m,n⟩ isSubtype_stop ?_);exact aF (q g h)
theorem MH {s:Ae}{items:Array Ac}{S:Ad}{R:Result->Ae->Prop}{h0:Ag}(calm:A.handled=none) (ab:e≠it) (T:l≠e) (U:l≠it) (J:S≠e) (C:S≠it) (aa:S≠l) (hn:items.size<=sizeLine)
  (hR:∀ (p:Ag) (r:Tok) (g:Array Ac) (c:Nat),(∀ b o,b≠e->b≠it->b≠S->h0.get? b=some o->p.get? b=some o)->p.get? S=some { cls:=.type "list",data:=.seq g c }->g.size=items.size->(∀ j,j<g.size->∃ (a:Ad) (t:Tok) (x:Ac),h0.objs.size<=a/\g[j]?=some (.ref a)/\items[j]?=some x/\p.get? a=some { cls:=.type "tuple",data:=.seq #[.int j t,x] })->R (.ok (.ret .none)) { s with heap:=p,toks:=r }) :
  ∀ (k i:Nat) (h:Ag) (r:Tok) (g:Array Ac) (c:Nat) (z old:Ac) (f:Bool),items.size-i=k->i<=items.size->Zf z->xW h e it i z f old->h.IsListIter it l i->h.IsList l items->h.get? S=some { cls:=.type "list",data:=.seq g c }->g.size=i->h0.objs.size<=h.objs.size ->
   (∀ b o,b≠e->b≠it->b≠S->h0.get? b=some o->h.get? b=some o)->(∀ j,j<g.size->∃ (a:Ad) (t:Tok) (x:Ac),h0.objs.size<=a/\g[j]?=some (.ref a)/\items[j]?=some x/\h.get? a=some { cls:=.type "tuple",data:=.seq #[.int j t,x] }) ->
   codeAny (model prog w) A (.builtin "list.extend.loop" ⟨[.ref S,.ref e,.none],[]⟩) R { s with heap:=h,toks:=r }:=by
 intro k;induction k with
 | zero =>
  intro i h r g c z old f hk hi hz I hit M E O q keep pa;have ei:i=items.size:=by omega
  refine hW F.entry_extend_loop ?_;show wpAny _ _ (pyNext (.ref e) >>= _) _ _ _;refine aB (Ye (s:={ s with heap:=h,toks:=r }) calm I hit M (jG (by omega)) λp W=>?_);refine aF (hR p r g c (λb o B v D y=>W b o v (keep b o B v D y)) (W S _ C E) (by omega) λj P=>?_);obtain⟨a,t,x,X,Y,Z,m⟩:=pa j P;refine⟨a,t,x,X,Y,Z,W a _ (λy=>?_) m⟩;subst y;obtain⟨o,q1,q2,_⟩:=hit;rw[q1] at m;cases m;exact absurd q2 (show ¬ (Value.type "tuple" = Value.type "list_iterator") by decide)
 | succ k ih =>
  intro i h r g c z old f hk hi hz I hit M E O q keep pa;have u:i<items.size:=by omega
  refine hW F.entry_extend_loop ?_;show wpAny _ _ (pyNext (.ref e) >>= _) _ _ _;refine aB (KA (s:={ s with heap:=h,toks:=r }) ab T U I hz hit M (cG u) λp z' f' L t ac V I' H ht up=>?_);have G:=up S _ J C E;show wpAny _ _ (updateSeq S (·.push (.ref h.objs.size)) >>= _) _ _ _;refine aB (lV G rfl ?_ (by omega) (by simp only[jK];omega));have N:=cK (Obj.mapSeq (·.push (Value.ref h.objs.size))) G rfl;have d:∀ b o,b≠S->p.get? b=some o->(p.update S (Obj.mapSeq (·.push (Value.ref h.objs.size)))).get? b=some o:=λb o n y=>(cF _ _ (fQ n)).trans y
  have nS:h.objs.size≠S:=λy=>absurd (aZ E) (by rw[<- y];exact dN _)
  have K:=d _ _ nS ht;refine aF ⟨iT PySem.F.plain_extend_loop _,ih (i+1) _ ac _ _ z' L f' (by omega) u V (d _ _ J.symm I') (H.at λo y=>d _ _ C.symm y) (M.at λo y=>d _ _ aa.symm (up l o T U y)) N (by rw[jK,O]) (bS q (jE (aZ K))) (λb o B v D y=>d b o D (up b o B v (keep b o B v D y))) λj P=>?_⟩;rw[jK] at P;by_cases Q:j<g.size
  .obtain⟨a,t',x,X,Y,Z,m⟩:=pa j Q;have B:a≠e:=λy=>by subst y;rw[I] at m;exact absurd (cA Obj.cls (bV m)) (show ¬ (Value.type "enumerate" = Value.type "tuple") by decide)
   have v:a≠it:=λy=>by
    subst y;obtain⟨o,q1,q2,_⟩:=hit;rw[q1] at m;cases m;exact absurd q2 (show ¬ (Value.type "tuple" = Value.type "list_iterator") by decide)
   have D:a≠S:=λy=>by subst y;rw[E] at m;exact absurd (cA Obj.cls (bV m)) (show ¬ (Value.type "list" = Value.type "tuple") by decide)
   exact⟨a,t',x,X,by rw[Array.getElem?_push,aG (by omega)];exact Y,Z,d _ _ D (up a _ B v m)⟩
  .have ej:j=i:=by omega
   subst ej;exact⟨h.objs.size,t,_,q,by rw[Array.getElem?_push,aQ O.symm],cG u,K⟩
theorem OY (calm:A.handled=none) (U:e≠it) (J:l≠e) (T:l≠it) (hn:items.size<=sizeLine) (I:xW s.heap e it 0 .none false .none) (hit:s.heap.IsListIter it l 0) (hl:s.heap.IsList l items)
  (hQ:∀ C tk g c,(∀ b o,b≠e->b≠it->s.heap.get? b=some o->C.get? b=some o)->C.get? s.heap.objs.size=some { cls:=.type "list",data:=.seq g c }->g.size=items.size->(∀ j,j<g.size->∃ (a:Ad) (t:Tok) (x:Ac),s.heap.objs.size<a/\g[j]?=some (.ref a)/\items[j]?=some x/\C.get? a=some { cls:=.type "tuple",data:=.seq #[.int j t,x] })->Q (.ref s.heap.objs.size) { s with heap:=C,toks:=tk }) :
  wpAny (model p w) A (call (.type "list") [.ref e]) Q E s:=by
 refine callType_codes (Q₁:=λobj f=>obj = .ref s.heap.objs.size/\f={ s with heap:=s.heap.push { cls:=.type "list",data:=.seq #[] } }) PySem.F.called_list (PySem.F.typeCall_list_1 _) PySem.F.entry_list_init
  (code_list_new _ ⟨rfl,rfl⟩) λobj f v=>?_
 obtain⟨rfl,rfl⟩:=v;have G:(s.heap.push { cls:=.type "list",data:=.seq #[] }).get? s.heap.objs.size=some { cls:=.type "list",data:=.seq #[] }:=bF _ rfl;have lt:∀ {b:Ad} {o:Obj},s.heap.get? b=some o->b≠s.heap.objs.size:=λy=>cD (aZ y)
 have S:e≠s.heap.objs.size:=lt I;have ii:it≠s.heap.objs.size:=by obtain⟨o,y,_⟩:=hit;exact lt y
 have X:l≠s.heap.objs.size:=by obtain⟨o,y,_⟩:=hl;exact lt y
 refine⟨⟨_,G,rfl⟩,PySem.F.args_list_init_2 _ _,?_⟩;show wpAny _ _ (do let old <- Builtin.List.listItems (.ref s.heap.objs.size);Builtin.List.listUpdate (.ref s.heap.objs.size) (λ_=>#[]);letGo old.toList.reverse;Builtin.List.listExtendWith (.ref s.heap.objs.size) (.ref e) .none) _ _ _;refine aB ?_;unfold Builtin.List.listItems;refine aB (wpAny_seqItems G rfl (aF ?_));show wpAny _ _ (updateSeq s.heap.objs.size (λ_=>#[]) >>= _) _ _ _;refine aB (lV G rfl ?_);have h:=cK (Obj.mapSeq (λ_=>(#[]:Array Ac))) G rfl;generalize R:(s.heap.push { cls:=.type "list",data:=.seq #[] }).update s.heap.objs.size (Obj.mapSeq (λ_=>(#[]:Array Ac)))=d at h;have D:∀ b o,s.heap.get? b=some o->d.get? b=some o:=λb o y=>by rw[<- R];exact (cF _ _ (fQ (lt y))).trans (aD _ y)
 show wpAny _ _ (letGo _ >>= _) _ _ { s with heap:=d };refine aB (wpAny_letGo ?_);unfold Builtin.List.listExtendWith;have P:xW d e it 0 .none false .none:=D _ _ I;have M:Shared.TypeIs { s with heap:=d } (.ref e) "enumerate" := ⟨_,P,rfl⟩;refine aB (mE M ?_);have H:Builtin.List.listSameRef (.ref s.heap.objs.size) (.ref e)=false:=by simp[Builtin.List.listSameRef,S.symm]
 have K:(Value.type "enumerate" == Value.type "list")=false:=by decide
 have L:(Value.type "enumerate" == Value.type "tuple")=false:=by decide
 simp only[H,K,L,Bool.or_false,cL,gQ];refine aB (wpAny_pyIter_enum (it:=it) (i:=0) (old:=.none) P ?_);have hint:∀ {A:Around} {E:Ac->Ae->Prop} {Q:Bool->Ae->Prop},Q true { s with heap:=d }->wpAny (model p w) A (Builtin.List.listLengthHint (.ref e)) Q E { s with heap:=d }:=λq=>by
  unfold Builtin.List.listLengthHint;refine aB (wpAny_specialOf M (r:=none) (by rw[typeLookup_type,builtinLookup_eq_fast];kernel_rfl) ?_);refine aB (wpAny_specialOf M (r:=none) (by rw[typeLookup_type,builtinLookup_eq_fast];kernel_rfl) ?_);exact aF q
 refine aB (cP (hint ?_));refine lX (λ_=>?_) (λz=>absurd (by simp) z);refine aB (wpAny_rule ?_);refine aB ?_;show wpAny _ _ (updateSeq s.heap.objs.size (·.push .none) >>= λ_=>updateSeq s.heap.objs.size (·.pop)) _ _ _;refine aB (lV h rfl ?_);have m:=cK (Obj.mapSeq (·.push Value.none)) h rfl;refine lV (hz:=by seq_fits) m rfl ?_;have u:=cK (Obj.mapSeq (·.pop)) m rfl;have B:∀ b o,b≠s.heap.objs.size->d.get? b=some o->((d.update s.heap.objs.size (Obj.mapSeq (·.push Value.none))).update s.heap.objs.size (Obj.mapSeq (·.pop))).get? b=some o:=λb o n y =>
  (cF _ _ (fQ n)).trans ((cF _ _ (fQ n)).trans y)
 have k:∀ b o,s.heap.get? b=some o->((d.update s.heap.objs.size (Obj.mapSeq (·.push Value.none))).update s.heap.objs.size (Obj.mapSeq (·.pop))).get? b=some o:=λb o y=>B b o (lt y) (D b o y)
 refine aF ⟨iT PySem.F.plain_extend_loop _,?_⟩;refine MH (prog:=p) (w:=w) (A:=A.in1) (s:=s) (h0:=s.heap.push { cls:=.type "list",data:=.seq #[] }) calm U J T S.symm ii.symm X.symm hn (λC tk g c Y N W pa=>?_) items.size 0 _ s.toks #[] _ .none .none false (by omega) (gA _) (.inl rfl) (k _ _ I) (hit.at λo y=>k _ _ y) (hl.at λo y=>k _ _ y) u rfl ?_ (λb o H K L y=>?_) (λj O=>absurd O (Nat.not_lt_zero _))
 .refine⟨rfl,hQ C tk g c (λb o H K y=>Y b o H K (lt y) (aD _ y)) N W λj O=>?_⟩;obtain⟨a,t,x,V,Z,p2,p3⟩:=pa j O;exact⟨a,t,x,by rw[kQ] at V;exact V,Z,p2,p3⟩
 .have:=aZ u;rw[kQ];exact this
 .refine B b o L ?_;rw[<- R];exact (cF _ _ (fQ L)).trans y
end
end PySem
namespace L2
open PySem PySem.Spec PyProof.Rows
def xE (H:Hp):Aa (Ad×HO)->Hp
 | []=>H
 | p::L=>upd (xE H L) p.1 p.2
theorem Fy:∀ {L:Aa (Ad×HO)}{a:Ad},(∀ p∈L,p.1≠a)->xE H L a=H a
 | [],_,_=>rfl
 | p::L,a,h=>by
  show upd (xE H L) p.1 p.2 a=_;rw[nP (h p aI).symm,Fy λq b=>h q (aV _ b)]
theorem Ir:∀ {L:Aa (Ad×HO)},(L.map (·.1)).Nodup->∀ p∈L,xE H L p.1=some p.2
 | q::L,d,p,a=>by
  obtain⟨b,c⟩:=bP.mp d;rcases aM.mp a with rfl | a
  .exact oO
  .show upd (xE H L) q.1 q.2 p.1=_;rw[nP λz=>b (aO.mpr ⟨p,a,z⟩),Ir c p a]
theorem Wc:∀ {j:Aa V}{g:Aa Ac}{i:Nat}{u:Ac},oA j g->g[i]?=some u->∃ x,j[i]?=some x/\nO x u
 | _,_,i,u,.nil,h=>by simp at h
 | _,_,0,u,.cons (a:=a) r _,h=>by
  rw[kF] at h;cases h;exact⟨_,rfl,r⟩
 | _,_,i+1,u,.cons _ b,h=>by
  rw[kG] at h |-;exact Wc b h
theorem Tl:∀ as:Aa Ad,oA (as.map V.ref) (as.map Value.ref)
 | []=>.nil
 | _::as=>.cons rfl (Tl as)
theorem HS (g:(L.map (·.1)).Nodup) (h:xE H L a=some o):(a,o)∈L\/(∀ p∈L,p.1≠a)/\H a=some o:=by
 by_cases z:∀ p∈L,p.1≠a
 .rw[Fy z] at h;exact .inr ⟨z,h⟩
 .have ⟨p,b,e⟩:∃ p,p∈L/\p.1=a:=by
   refine eM λq=>z λp b e=>q ⟨p,b,e⟩
  have:=Ir (H:=H) g p b;rw[e,h] at this;cases this;exact .inl (by rw[<- e];exact b)
section
variable {X:Cx}
theorem Inv.laysAll (I:Inv X g C H s) (k:∀ b u,s.heap.get? b=some u->j.get? b=some u) (r:(L.map (·.1)).Nodup) (l:∀ p∈L,s.heap.objs.size<=p.1) (new:∀ p∈L,pE X.prog X.w (xE H L) j p.1 p.2) :
  Inv X g C (xE H L) { s with heap:=j,toks:=J }:=by
 have old:∀ {b:Ad} {o:HO},H b=some o->xE H L b=some o:=λ{b o} q=>by
  rw[Fy λp a e=>?_]
  .exact q
  .have:=I.hok.fresh (l p a);rw[e,q] at this;cases this
 refine I.un ⟨λb u q _ _ _=>k b u q,λb u q _ _ _=>⟨u.slots,k b u q⟩,λb u q n _=>?_,λb u q _=>⟨u,k b u q⟩,λb d q=>old q,λb u d q=>old q,λb h q=>⟨#[],by rw[old q];simp⟩⟩ λb u e=>?_
 .rw[Fy λp a e=>absurd (aZ q) (by rw[<- e];exact lK.mpr (l p a))];exact n
 .rcases HS r e with z | ⟨z,f⟩
  .exact new _ z
  .exact (I.hok b u f).stay (λc v _ q=>k c v q) (λc q=>old q) λc d q=>old q
end
section
variable {X:Cx}
def GN (K:nH) (g:TE):TE:=λf H Q=>g f H λx c=>∃ (l:Ad) (e:Aa V),x = .ref l/\nX K c l e/\e.length<=1000 /\
 ∀ (q:Ad) (as:Aa Ad) (d:Hp),(∀ b o,c b=some o->d b=some o)->c q=none->d q=some (.l (as.map V.ref))->as.length=e.length->(∀ (j:Nat) a v,as[j]?=some a->e[j]?=some v->c a=none/\d a=some (.t [.int j,v]))->Q (.ref q) d
theorem QS (hg:Gl X "list") (hm:X.mg "list" = none) (ab:Gl X "enumerate") (ac:X.mg "enumerate" = none) (he:PE X e te) (r:X.calm=true) (hs:starEach [.Call (.Name "enumerate" T) [e] [] g] X.env=[(false,eval (.Call (.Name "enumerate" T) [e] [] g) X.env)]:=by rfl) (C:starEach [e] X.env=[(false,eval e X.env)]:=by rfl) :
  PE X (.Call (.Name "list" p) [.Call (.Name "enumerate" T) [e] [] g] [] pos) (GN X.K te):=by
 intro E s σ H Q I h;refine gR (B9 I hg hm boot_list ?_);refine gG ?_ hs rfl;rw[hs];show wpAny _ _ (spliced ((false,eval (.Call (.Name "enumerate" T) [e] [] g) X.env)::[])) _ _ s;refine fG ?_;refine gR (B9 I ab ac boot_enumerate ?_);refine gG ?_ C rfl;rw[C];show wpAny _ _ (spliced ((false,eval e X.env)::[])) _ _ s;refine fG (nL (he E s σ H _ I h) λu M ⟨x,H1,O,r1,q1⟩=>iL ?_);obtain⟨l,D,rfl,hx,hz,q⟩:=q1;cases r1;obtain⟨F,rv,pl,_⟩:=O.list hx;have lv:F.length=D.length:=rv.length.symm;refine call_enumerate_list pl.isList λd n1 n2 n3 n4=>iL ?_
 have ll:l<M.heap.objs.size:=by obtain⟨o,y,_⟩:=pl.isList;exact aZ y
 refine OY (s:={ M with heap:=d }) (O.ok.hd r) (Nat.succ_ne_self _) (cD (Nat.lt_succ_of_lt ll)) (cD ll) (by rw[bE];exact bS (mD lv) (bS hz (by decide))) n1 n2 (pl.isList.at λo y=>n4 _ _ y) λS tk f c kp hS sz pa=>?_
 have ae:d.objs.size=M.heap.objs.size+2:=n3;have keep:∀ b o,M.heap.get? b=some o->S.get? b=some o:=λb o y=>by
  have:=aZ y;exact kp b o (cD (Nat.lt_succ_of_lt this)) (cD this) (n4 b o y)
 have sz:f.size=D.length:=by rw[sz,bE,lv]
 obtain⟨as,ea,eb,U⟩:∃ as:Aa Ad,f.toList=as.map Value.ref/\as.length=D.length/\∀ (j:Nat) a,as[j]?=some a->d.objs.size<a/\∃ t x,F[j]?=some x/\S.get? a=some { cls:=.type "tuple",data:=.seq #[.int j t,x] }:=by
  have go:∀ m,m<=f.size->∃ as:Aa Ad,f.toList.take m=as.map Value.ref/\as.length=m/\∀ (j:Nat) a,as[j]?=some a->d.objs.size<a/\∃ t x,F[j]?=some x/\S.get? a=some { cls:=.type "tuple",data:=.seq #[.int j t,x] }:=λm=>by
   induction m with
   | zero=>exact λ_=>⟨[],rfl,rfl,λj a y=>by simp at y⟩
   | succ m ih =>
    intro hm;obtain⟨as,w,P,R⟩:=ih (by omega);obtain⟨a,t,x,p0,p1,T,p3⟩:=pa m (by omega);refine⟨as++[a],?_,by rw[aE,P];rfl,λj b y=>?_⟩
    .rw[cH,w,aT,fX,p1];rfl
    .by_cases W:j<as.length
     .rw[gO W] at y;exact R j b y
     .have hl:=(aP.mp y).1;rw[aE,kW] at hl;obtain rfl:j=m:=by omega
      rw[dZ (by omega),P,Nat.sub_self] at y;cases y;exact⟨p0,t,x,by simpa using T,p3⟩
  obtain⟨as,w,P,R⟩:=go f.size (bB _);rw[kR (by rw[gM];omega)] at w;exact⟨as,w,by omega,R⟩
 have tv:∀ (j:Nat) a,as[j]?=some a->∃ (v:V) (x:Ac) (t:Tok),D[j]?=some v/\nO v x/\S.get? a=some { cls:=.type "tuple",data:=.seq #[.int j t,x] }:=λj a y=>by
  obtain⟨_,t,x,w,P⟩:=U j a y;obtain⟨v,R,e4⟩:=Wc rv w;exact⟨v,x,t,R,e4,P⟩
 have dn:∀ (j k:Nat) a,as[j]?=some a->as[k]?=some a->j=k:=λj k a A N=>by
  obtain⟨_,_,t1,_,_,g1⟩:=tv j a A;obtain⟨_,_,t2,_,_,g2⟩:=tv k a N;rw[g1] at g2;have:=cA Obj.data (bV g2);simp only[Data.seq.injEq,and_true,Array.mk.injEq,fY,Value.int.injEq] at this;omega
 have aa:as.Nodup:=by
  rw[List.nodup_iff_pairwise_ne,List.pairwise_iff_getElem];intro i j hi W af e;have:=dn i j as[i] (aH hi) (by rw[e];exact aH W);omega
 let LT:Aa (Ad×HO):=(as.zip D.zipIdx).map λp=>(p.1,.t [.int (p.2.2:Nat),p.2.1])
 have mT:∀ (j:Nat) a v,as[j]?=some a->D[j]?=some v->(a,HO.t [.int j,v])∈LT:=λj a v A N=>by
  refine aO.mpr ⟨(a,v,j),?_,rfl⟩;refine aK (i:=j) ?_;rw[jT];exact⟨A,by rw[List.getElem?_zipIdx,N];simp⟩
 have Z:∀ p∈LT,∃ (j:Nat) (a:Ad) (v:V),as[j]?=some a/\D[j]?=some v/\p=(a,HO.t [.int j,v]):=λp n=>by
  obtain⟨⟨a,v,j⟩,hq,rfl⟩:=aO.mp n;obtain⟨k,hk⟩:=iK.mp hq;rw[jT,List.getElem?_zipIdx] at hk;obtain⟨h1,d⟩:=hk;cases w:D[k]? with
  | none=>rw[w] at d;cases d
  | some v' =>
   rw[w] at d;simp only[Option.map_some,jM,Prod.mk.injEq,nB] at d;obtain⟨rfl,rfl⟩:=d;exact⟨k,a,v',h1,w,rfl⟩
 have J:LT.map (·.1)=as:=by
  show ((as.zip D.zipIdx).map _).map _=_;rw[aU];exact List.map_fst_zip (by rw[List.length_zipIdx];omega)
 have big:∀ a∈as,d.objs.size<a:=λa ha=>by
  obtain⟨j,W⟩:=iK.mp ha;exact (U j a W).1
 let L:Aa (Ad×HO):=(d.objs.size,.l (as.map V.ref))::LT;have G:(L.map (·.1)).Nodup:=by
  show (d.objs.size::LT.map (·.1)).Nodup;rw[J];exact bP.mpr ⟨λz=>dN _ (big _ z),aa⟩
 have B:M.heap.objs.size<=d.objs.size:=by rw[ae];exact jR _ _
 have Y:∀ p∈L,M.heap.objs.size<=p.1:=λp n=>by
  rcases aM.mp n with rfl | n
  .exact B
  .obtain⟨j,a,v,A,_,rfl⟩:=Z p n;exact bS B (jE (U j a A).1)
 have vr:oA (as.map V.ref) f.toList:=by
  rw[ea];exact Tl as
 have I2:Inv X E σ (xE H1 L) { M with heap:=S,toks:=tk }:=O.laysAll keep G Y λp n=>by
  rcases aM.mp n with rfl | n
  .exact⟨by rw[aA,eb];exact bS hz (by decide),f.toList,c,vr,by rw[Array.toArray_toList];exact hS⟩
  .obtain⟨j,a,v,A,N,rfl⟩:=Z p n;obtain⟨v',x,t,y3,y4,y5⟩:=tv j a A;rw[N] at y3;cases y3;exact⟨by show 2<=sizeLine;decide,[.int j t,x],.cons ⟨t,rfl⟩ (.cons y4 .nil),⟨_,y5,rfl,_,rfl⟩,_,y5,rfl⟩
 refine⟨.ref d.objs.size,_,I2,rfl,q d.objs.size as (xE H1 L) (λb o y=>?_) (O.hok.fresh B) (Ir G _ aI) eb λj a v A N=>⟨O.hok.fresh (bS B (jE (U j a A).1)),Ir G _ (aV _ (mT j a v A N))⟩⟩;rw[Fy λp n e=>?_]
 .exact y
 .have:=O.hok.fresh (Y p n);rw[e,y] at this;cases this
end
section
variable {X:Cx}{st:Expr}
theorem JW (g:Aa Ac):slicePick g.toArray none none (some 1)=g.toArray:=by
 show slicePick g.toArray none none none=_;have:=PySem.W.kmk_pick_nat (lo:=none) (hi:=none) g.toArray (a:=0) (b:=g.toArray.size) rfl;rw[this];simp
def Xy (K:nH) (g j:TE):TE:=λd H Q=>g d H λx e=>j d e λy b=>∃ (a:Ad) (c:Aa V),x = .ref a/\nX K b a c/\(y = .int 1/\(∀ p,b p=none->Q (.ref p) (upd b p (.l c)))\/y = .int (-1)/\∀ p,b p=none->Q (.ref p) (upd b p (.l c.reverse)))
theorem JO (p:PE X e C) (g:PE X st J):PE X (.Subscript e (.Slice none none (some st) j) pos) (Xy X.K C J):=by
 intro c s m H Q I h;refine Subscript_ (nL (p c s m H _ I h) λv S i=>?_);obtain⟨x,M,N,R,O⟩:=i;refine wpAny_Slice ?_;rw[evalPart_none];refine aF (aF ?_);rw[evalPart_some];refine nL (g c S m M _ N O) λV d i=>?_
 obtain⟨y,E,F,L,P⟩:=i;obtain⟨a,z,rfl,G,q⟩:=P;cases R;rcases q with⟨rfl,q⟩ | ⟨rfl,q⟩
 .obtain⟨t,rfl⟩:=L;have f:Inv X c m E { d with heap:=d.heap.push { cls:=.type "slice",data:=.fields #[.none,.none,.int 1 t] } }:=F.kept (t':=d.toks) λb D q=>aD _ q
  obtain⟨k,r,u,B⟩:=f.list G;have n:k.length=z.length:=r.length.symm;show wpAny (model X.prog X.w) X.A (subscriptTail e (.Slice none none (some st) j) (.ref a) (.ref d.heap.objs.size)) (EP X c m Q) X.xe { d with heap:=d.heap.push { cls:=.type "slice",data:=.fields #[.none,.none,.int 1 t] } };refine tail_any (ops:=[.ref a,.ref d.heap.objs.size]) u.isList.typeIs slot_list_getitem.lookup ?_ (by with_unfolding_all rfl);refine wpAny_getItem_list_slice u.isList (Heap.IsSliceOf.new ..) .none .none (.int 1 t) (by decide) ?_ (by rw[bE];omega);rw[JW];refine⟨.ref _,_,f.laid (t':=d.toks) (o:=.l z) (λb D q=>aD _ q) (bB _) ?_,rfl,q _ (f.hok.fresh (bB _))⟩;exact⟨B,_,0,r,bF _ rfl⟩
 .obtain⟨t,rfl⟩:=L;have f:Inv X c m E { d with heap:=d.heap.push { cls:=.type "slice",data:=.fields #[.none,.none,.int (-1) t] } }:=F.kept (t':=d.toks) λb D q=>aD _ q
  obtain⟨k,r,u,B⟩:=f.list G;have n:k.length=z.length:=r.length.symm;show wpAny (model X.prog X.w) X.A (subscriptTail e (.Slice none none (some st) j) (.ref a) (.ref d.heap.objs.size)) (EP X c m Q) X.xe { d with heap:=d.heap.push { cls:=.type "slice",data:=.fields #[.none,.none,.int (-1) t] } };refine tail_any (ops:=[.ref a,.ref d.heap.objs.size]) u.isList.typeIs slot_list_getitem.lookup ?_ (by with_unfolding_all rfl);refine wpAny_getItem_list_slice u.isList (Heap.IsSliceOf.new ..) .none .none (.int (-1) t) (by decide) ?_ (by rw[bE];omega);rw[PySem.W.krv_pick];refine⟨.ref _,_,f.laid (t':=d.toks) (o:=.l z.reverse) (λb D q=>aD _ q) (bB _) ?_,rfl,q _ (f.hok.fresh (bB _))⟩;exact⟨by rw[List.length_reverse];exact B,_,0,oA.reverse r,bF _ rfl⟩
end
section
variable {X:Cx}{st:Expr}
def CQ (g j:oG):oG:=λc i f=>g c i λh b=>match sd h with
 | some (.l e)=>j c b λd a=>d = .v (.int 1)/\f (.o (.l e)) a\/d = .v (.int (-1))/\f (.o (.l e.reverse)) a
 | _=>False
theorem Xv (g:PD X e l) (j:PD X st o):PD X (.Subscript e (.Slice none none (some st) C) pos) (CQ l o) :=
 (JO g j).mono λO H Q n=>n.elim λB F T N A hd D k=>⟨B,F,T,_,A,hd,D,λz v x G E d1 b=>by
  cases i:sd z with
  | none=>rw[i] at b;exact b.elim
  | some d =>
   rw[i] at b;cases d<;>first | exact False.elim b | skip
   rename_i M
   refine⟨B,v,(z,some x)::T,_,E,d1,b,λL f y K w d2 c=>?_⟩;rcases c with⟨c,q⟩ | ⟨c,q⟩
   .subst c;obtain rfl:=d2.valAt.int_inv;obtain⟨t,u⟩:=d2.drop.one i;obtain⟨a,s,rfl,h,r⟩:=u.peek.lst_inv;exact⟨a,s,rfl,nX.of h,.inl ⟨rfl,λp m=>k _ f _ _ w (t.lstF m r).mid q⟩⟩
   .subst c;obtain rfl:=d2.valAt.int_inv;obtain⟨t,u⟩:=d2.drop.one i;obtain⟨a,s,rfl,h,r⟩:=u.peek.lst_inv;exact⟨a,s,rfl,nX.of h,.inr ⟨rfl,λp m=>k _ f _ _ w (t.lstF m r.reverse).mid q⟩⟩⟩
theorem LS (h:Dk j H) (k:∀ b o,H b=some o->g b=some o):Dk j g:=by
 rcases h with q | ⟨x,y,q,a⟩
 .exact .inl q
 .refine .inr ⟨x,y,q,?_⟩;obtain⟨d,p,g1,g2,g3,c⟩:=a.ex;exact⟨d,p,k _ _ g1,k _ _ g2,g3,c⟩
theorem U4 {K:nH}:∀ (ds:Aa D) (vs:Aa V) (as:Aa Ad) (n:Nat),Reps K A H ds vs->as.length=vs.length->(∀ (j:Nat) a v,as[j]?=some a->vs[j]?=some v->H a=some (.t [.int ((n+j:Nat):Int),v]))->Reps K A H ((List.range' n ds.length).zipWith (λi d=>D.t [.int (i:Nat),d]) ds) (as.map V.ref)
 | [],_,as,n,.nil,c,_=>by
  cases as with
  | nil=>exact .nil
  | cons _ _=>cases c
 | d::ds,_,as,n,.cons (v:=v) (vs:=vs) r e,c,h=>by
  cases as with
  | nil=>cases c
  | cons a as =>
   rw[cS,List.range'_succ,List.zipWith_cons_cons];refine .cons (.t (h 0 a v rfl rfl) (.cons (.int _) (.cons r .nil))) (U4 ds vs as (n+1) e (Nat.succ.inj c) λj b w f k=>?_);have:=h (j+1) b w f k;rw[show n+(j+1)=n+1+j by omega] at this;exact this
def LW (g:oG):oG:=λb d c=>g b d λr a=>match sd r with
 | some (.l ds)=>ds.length<=1000/\c (.o (.l (uB ds))) a
 | _=>False
theorem Y3 (hm:X.mg "list" = none) (J:X.mg "enumerate" = none) (he:PD X e te) (C:X.calm=true:=by rfl) (hg:Gl X "list" := by rfl) (I:Gl X "enumerate" := by rfl) (hs:starEach [.Call (.Name "enumerate" p2) [e] [] g] X.env=[(false,eval (.Call (.Name "enumerate" p2) [e] [] g) X.env)]:=by rfl) (U:starEach [e] X.env=[(false,eval e X.env)]:=by rfl) :
  PD X (.Call (.Name "list" p) [.Call (.Name "enumerate" p2) [e] [] g] [] pos) (LW te) :=
 (QS hg hm I J he C hs U).mono λF H Q n=>n.elim λB ρ T Φ N hd P k=>⟨B,ρ,T,_,N,hd,P,λZ c x G S d1 f=>by
  cases m:sd Z with
  | none=>rw[m] at f;exact f.elim
  | some d =>
   rw[m] at f;cases d<;>first | exact False.elim f | skip
   rename_i ds
   obtain⟨R,Y⟩:=f;obtain⟨w,z2⟩:=d1.one m;obtain⟨a,E,rfl,h,r⟩:=z2.peek.lst_inv;refine⟨a,E,rfl,nX.of h,by rw[<- r.length];exact R,λq as K keep u O L tv=>?_⟩;have W:q∉B.dk:=λz=>by
    obtain⟨xs,y⟩:=w.dk.some z;rw[u] at y;cases y
   have rr:=r.mono (A':=λb=>b∉B.dk/\b≠q/\(Al B (lT (c.zip F++T)) b\/G b=none)) (H':=K) ⟨λb o A y=>⟨⟨A.1,pJ y u,.inl A⟩,keep b o y⟩,λb o _ y=>keep b o y⟩;have M:uB ds=(List.range' 0 ds.length).zipWith (λi d=>D.t [.int (i:Nat),d]) ds:=by unfold uB;rw[List.range_eq_range']
   refine k _ c _ _ S (DS.result w (λb o y _=>keep b o y) (LS w.dk keep) (s:=.o (.l (uB ds))) (A1:=Al B (lT (c.zip F++T))) ⟨q,rfl,u,W,as.map V.ref,O,?_⟩ (.inl λ_ z=>z)).mid Y;rw[M];exact U4 ds E as 0 rr L λj a v y1 y2=>by rw[nB];exact (tv j a v y1 y2).2⟩
end
end L2
namespace L2
open PySem PySem.Spec PyProof.Rows Lw
section
def tP (g:Ah) (w:World) (A:Around) (s:Ae) (x y:Ac):Prop:=∀ (E:Ac->Ae->Prop) (Q:Bool->Ae->Prop),Q true s->wpAny (model g w) A (eqBool x y) Q E s
theorem QB {os:OsState}(gl:r.get? l=some ol) (C:r.get? m=some J) (dl:ol.data = .seq j n1) (I:J.data = .seq o n2) (hs:j.size=o.size)
  (U:∀ (i:Nat) x y,j[i]?=some x->o[i]?=some y->tP p w A.in1 ⟨r,g,d,t,os⟩ x y){R:Result->Ae->Prop}(T:R (.ok (.ret (.bool false))) ⟨r,g,d,t,os⟩) :
  ∀ left i:Nat,i+left=j.size->codeAny (model p w) A (.builtin "list.__eq__.loop" ⟨[.ref l,.ref m,rawInt i,rawInt 3],[]⟩) R ⟨r,g,d,t,os⟩:=by
 obtain⟨k,q,_,u⟩:=ol;obtain⟨n,s,_,v⟩:=J;simp only at dl I;subst dl I;intro left;induction left with
 | zero =>
  intro i f;have a:j[((i:Nat):Int).toNat]?=none:=by simp;omega
  have b:o[((i:Nat):Int).toNat]?=none:=by simp;omega
  refine hW jD ?_;rw[gZ eG _]
  wp_walk using bX gl,bX C
  rw[a,b]
  wp_walk using bX gl,bX C
  show R (.ok (.ret (.bool (j.size != o.size)))) _;rw[hs,bne_self_eq_false];exact T
 | succ left h =>
  intro i f;obtain⟨x,c⟩:∃ x,j[i]?=some x:=⟨_,cG (by omega)⟩;obtain⟨y,e⟩:∃ y,o[i]?=some y:=⟨_,cG (by omega)⟩;have a:j[((i:Nat):Int).toNat]?=some x:=by rw[dM];exact c
  have b:o[((i:Nat):Int).toNat]?=some y:=by rw[dM];exact e
  refine hW jD ?_;rw[gZ eG _]
  wp_walk using bX gl,bX C
  rw[a,b];refine aB (U i x y c e _ _ ?_)
  wp_walk
  exact⟨iT eG _,h (i+1) (by omega)⟩
theorem IT (J:s.heap.IsList l o) (T:s.heap.IsList m p) (r:o.size=p.size) (U:A.units<cLine)
  (I:∀ (i:Nat) x y,o[i]?=some x->p[i]?=some y->tP j w A.in1 s x y) (C:Q (.bool false) s):wpAny (model j w) A (compareOp .NotEq (.ref l) (.ref m)) Q E s:=by
 obtain⟨k,g,d,t,os⟩:=s;obtain⟨⟨cls,D,data,K⟩,e,h,n,hd⟩:=id J;obtain⟨⟨f,u,data2,z⟩,a,b,H,c⟩:=id T;simp only at h hd b c;subst h hd b c;have q:(⟨k,g,d,t,os⟩:Ae).TypeIs (.ref l) "list" := ⟨_,e,rfl⟩;have B:(⟨k,g,d,t,os⟩:Ae).TypeIs (.ref m) "list" := ⟨_,a,rfl⟩;refine iB (op:=.NotEq) q B F.slot_list_ne ?_ U;refine iS (gY F.slot_list_ne.plain F.entry_list_ne (F.slot_list_ne.check _ _ _ _ _ _ _ _ q (F.args_list_ne_2 _ _) ?_));have G:=AutoSeq1.sub_list_list;have v:¬ (o.size != p.size)=true:=by simp[r]
 wp_walk using bX e,bX a
 exact⟨iT eG _,QB e a rfl rfl r I ⟨(λx=>nomatch x),C⟩ o.size 0 (nB _)⟩
end
section
variable {X:Cx}
def Eb (H:Hp) (x y:V):Prop:=∃ (a b:Ad) (c:Aa (hH×V)),x = .ref a/\y = .ref b/\Rd H a (.k c)/\Rd H b (.k c)/\(c.map (·.1)).Nodup/\∀ p∈c,rR p.2=true/\sC p.2 p.2=true
theorem Eb.now (I:Inv X g p H s) (h:Eb H x y) (l:nO x u) (o:nO y v) (j:A.units<cLine):tP X.prog X.w A s u v:=by
 obtain⟨a,b,c,rfl,rfl,n,t,F,B⟩:=h;cases l;cases o;by_cases e:a=b
 .subst e;exact λE Q q=>lQ _ X.prog X.w E Q q
 intro E Q q;obtain⟨K,d1,i,d,k⟩:=uE I.hok n;obtain⟨L,d2,G,f,m⟩:=uE I.hok t;have D:i.length=G.length:=by rw[<- d.length,<- f.length]
 unfold eqBool;refine cP (lX (λz=>absurd (mV (eq_of_beq z)) e) λ_=>aB ?_);refine PySem.W.keq_eq d1 d2 k m j (λ_=>FW f F c i d (λ_ h=>h) B) (dQ ?_);rw[D];simpa using q
end
section
variable {X:Cx}
def HE:V->Aa V->Hp->VK->Prop:=λx c H Q=>∃ (a:Ad) (b:Aa (hH×V)),x = .ref a/\c=[]/\H a=some (.k b)/\Q .e (upd H a (.k []))
theorem Sk:Cj X "dict.clear" HE:=by
 intro f s E H x D v B Q I u t h;obtain⟨a,b,rfl,rfl,d,q⟩:=h;cases u;cases t;obtain⟨A,y,i,n,c⟩:=C7 I.hok d;have m:b.length=i.length:=gU n;refine kN F.slot_dict_clear c.typeIs F.entry_dict_clear (F.args_dict_clear_1 _) (meets_dict_clear (qJ X.prog X.w) a) ⟨i,c,by rw[<- m];exact A,λk d1 z=>?_⟩;have there:∃ o,k.get? a=some o:=let ⟨o,_,_,e,_⟩:=d1;⟨o,e⟩;exact⟨.e,_,Ds I (by rw[d];exact True.intro) z there (Bh (gA _) y .nil d1),rfl,q⟩
end
theorem Xs:∀ {g:Aa Af},g.Nodup->(g.map (Sum.inr:Af->hH)).Nodup:=λ{g} h=>by
 induction g with
 | nil=>exact cE
 | cons x g d =>
  obtain⟨a,b⟩:=bP.mp h;refine bP.mpr ⟨λz=>?_,d b⟩;obtain⟨y,c,e⟩:=aO.mp z;cases e;exact a c
section
theorem Tx (hl:IsTup s.heap l #[j,o]) (hm:IsTup s.heap m #[C,I]) (hu:A.units<cLine)
  (J:tP g w A.in1 s j C) (T:tP g w A.in1 s o I) (U:Q (.bool true) s):wpAny (model g w) A (compareOp .Eq (.ref l) (.ref m)) Q E s:=by
 obtain⟨t,g1,i,n,d1⟩:=id hl;obtain⟨x,g2,k,q,d2⟩:=id hm;have f:s.TypeIs (.ref l) "tuple" := ⟨_,g1,i⟩;have h:s.TypeIs (.ref m) "tuple" := ⟨_,g2,k⟩;refine iB (op:=.Eq) f h F.slot_tuple_eq ?_ hu;refine eC F.slot_tuple_eq f F.entry_tuple_eq ?_ (F.args_tuple_eq_2 _ _);show wpAny _ _ (isInstance (.ref m) (.type "tuple") >>= _) _ _ s;refine aB (iF h isSubtype_tuple_tuple ?_);simp only[Bool.not_true,cL,gQ];refine aB (kD g1 d1 ?_);refine aB (kD g2 d2 ?_);refine aB ?_;refine wpAny_forIn_list _ (λrest r c=>r.1=none/\c=s/\∀ p∈rest,tP g w A.in1 s p.1 p.2) _ ?_ ?_ _ _ ⟨rfl,rfl,λp a=>?_⟩
 .rintro ⟨u,v⟩ rest r c ⟨b,rfl,d⟩;refine aB (d (u,v) aI _ _ ?_);exact aF ⟨rfl,rfl,λp a=>d p (aV _ a)⟩
 .rintro ⟨y,z⟩ c ⟨b,rfl,_⟩;simp only at b;subst b;exact aF ⟨_,rfl,(λe=>nomatch e),U⟩
 .have a:p∈[(j,C),(o,I)]:=a;simp only[aM,aR,kA] at a;rcases a with rfl | rfl
  .exact J
  .exact T
end
section
variable {X:Cx}
def Bw (H:Hp) (x y:V):Prop:=∃ (a b:Ad) (c d:Aa (hH×V)),x = .ref a/\y = .ref b/\Rd H a (.k c)/\Rd H b (.k d)/\c.length=d.length/\∀ p∈c,∃ w,qA d p.1=some w/\rR p.2=true/\rR w=true/\sC p.2 w=true
theorem Bw.now (I:Inv X g p H s) (h:Bw H x y) (l:nO x u) (o:nO y v) (j:A.units<cLine):tP X.prog X.w A s u v:=by
 obtain⟨a,b,c,G,rfl,rfl,n,t,F,B⟩:=h;cases l;cases o;by_cases e:a=b
 .subst e;exact λE Q q=>lQ _ X.prog X.w E Q q
 intro E Q q;obtain⟨L,d1,i,d,k⟩:=uE I.hok n;obtain⟨M,d2,K,f,m⟩:=uE I.hok t;have D:i.length=K.length:=by rw[<- d.length,<- f.length];exact F
 unfold eqBool;refine cP (lX (λz=>absurd (mV (eq_of_beq z)) e) λ_=>aB ?_);refine PySem.W.keq_eq d1 d2 k m j (λ_=>N0 f c i d B) (dQ ?_);rw[D];simpa using q
def Vn:R2:=λx y H Q=>∃ (l m:Ad) (p q a c:V),x = .ref l/\y = .ref m/\H l=some (.t [p,q])/\H m=some (.t [a,c])/\Bw H p a/\Bw H q c/\Q (.b true) H
theorem PU (g:X.A.units+64<cLine):oJ X (compareOp .Eq) Vn:=by
 intro i s Z H x y v u Q I L M h;obtain⟨l,m,p,q,W,Y,rfl,rfl,w,z,N,O,k⟩:=h;cases L;cases M;obtain⟨B,F,D,_⟩:=I.tuple (oP.of (K:=X.K) w);obtain⟨f,G,E,_⟩:=I.tuple (oP.of (K:=X.K) z);obtain⟨P,R,n,a,c⟩:=uJ F;obtain⟨S,V,t,d,e⟩:=uJ G;subst n t;exact Tx D E (by omega) (N.now I a d (by rw[gT];omega)) (O.now I c e (by rw[gT];omega)) ⟨.b true,H,I,rfl,k⟩
end
section
theorem KN (hl:IsTup s.heap l #[j,o]) (hm:IsTup s.heap m #[C,I]) (hu:A.units<cLine)
  (J:tP g w A.in1 s j C) (T:tP g w A.in1 s o I) (U:Q (.bool false) s):wpAny (model g w) A (compareOp .NotEq (.ref l) (.ref m)) Q E s:=by
 obtain⟨t,g1,i,n,d1⟩:=id hl;obtain⟨x,g2,k,q,d2⟩:=id hm;have f:s.TypeIs (.ref l) "tuple" := ⟨_,g1,i⟩;have h:s.TypeIs (.ref m) "tuple" := ⟨_,g2,k⟩;refine iB (op:=.NotEq) f h F.slot_tuple_ne ?_ hu;refine eC F.slot_tuple_ne f F.entry_tuple_ne ?_ (F.args_tuple_ne_2 _ _);show wpAny _ _ (isInstance (.ref m) (.type "tuple") >>= _) _ _ s;refine aB (iF h isSubtype_tuple_tuple ?_);simp only[Bool.not_true,cL,gQ];refine aB (kD g1 d1 ?_);refine aB (kD g2 d2 ?_);refine aB ?_;refine wpAny_forIn_list _ (λrest r c=>r.1=none/\c=s/\∀ p∈rest,tP g w A.in1 s p.1 p.2) _ ?_ ?_ _ _ ⟨rfl,rfl,λp a=>?_⟩
 .rintro ⟨u,v⟩ rest r c ⟨b,rfl,d⟩;refine aB (d (u,v) aI _ _ ?_);exact aF ⟨rfl,rfl,λp a=>d p (aV _ a)⟩
 .rintro ⟨y,z⟩ c ⟨b,rfl,_⟩;simp only at b;subst b;exact aF ⟨_,rfl,(λe=>nomatch e),U⟩
 .have a:p∈[(j,C),(o,I)]:=a;simp only[aM,aR,kA] at a;rcases a with rfl | rfl
  .exact J
  .exact T
end
section
variable {X:Cx}
theorem Lv:∀ {g j:Aa (l×o)},g.map (·.1)=j.map (·.1)->g.map (·.2)=j.map (·.2)->g=j
 | [],[],_,_=>rfl
 | [],_::_,e,_=>by cases e
 | _::_,[],e,_=>by cases e
 | (a,b)::g,(c,d)::j,i,k=>by
  rw[bD,bD] at i k;obtain⟨f,m⟩:=mW i;obtain⟨h,n⟩:=mW k;have f:a=c:=f;have h:b=d:=h;rw[f,h,Lv m n]
end
section
theorem NA {os:OsState}(gl:r.get? l=some ol) (C:r.get? m=some J) (dl:ol.data = .seq j n1) (I:J.data = .seq o n2) (hs:j.size=o.size)
  (U:∀ (i:Nat) x y,j[i]?=some x->o[i]?=some y->tP p w A.in1 ⟨r,g,d,t,os⟩ x y){R:Result->Ae->Prop}(T:R (.ok (.ret (.bool true))) ⟨r,g,d,t,os⟩) :
  ∀ left i:Nat,i+left=j.size->codeAny (model p w) A (.builtin "list.__eq__.loop" ⟨[.ref l,.ref m,rawInt i,rawInt 2],[]⟩) R ⟨r,g,d,t,os⟩:=by
 obtain⟨k,q,_,u⟩:=ol;obtain⟨n,s,_,v⟩:=J;simp only at dl I;subst dl I;intro left;induction left with
 | zero =>
  intro i f;have a:j[((i:Nat):Int).toNat]?=none:=by simp;omega
  have b:o[((i:Nat):Int).toNat]?=none:=by simp;omega
  refine hW jD ?_;rw[gZ eG _]
  wp_walk using bX gl,bX C
  rw[a,b]
  wp_walk using bX gl,bX C
  show R (.ok (.ret (.bool (j.size == o.size)))) _;rw[hs,iZ];exact T
 | succ left h =>
  intro i f;obtain⟨x,c⟩:∃ x,j[i]?=some x:=⟨_,cG (by omega)⟩;obtain⟨y,e⟩:∃ y,o[i]?=some y:=⟨_,cG (by omega)⟩;have a:j[((i:Nat):Int).toNat]?=some x:=by rw[dM];exact c
  have b:o[((i:Nat):Int).toNat]?=some y:=by rw[dM];exact e
  refine hW jD ?_;rw[gZ eG _]
  wp_walk using bX gl,bX C
  rw[a,b];refine aB (U i x y c e _ _ ?_)
  wp_walk
  exact⟨iT eG _,h (i+1) (by omega)⟩
theorem HV (J:s.heap.IsList l o) (T:s.heap.IsList m p) (r:o.size=p.size) (U:A.units<cLine)
  (I:∀ (i:Nat) x y,o[i]?=some x->p[i]?=some y->tP j w A.in1 s x y) (C:Q (.bool true) s):wpAny (model j w) A (compareOp .Eq (.ref l) (.ref m)) Q E s:=by
 obtain⟨k,g,d,t,os⟩:=s;obtain⟨⟨cls,D,data,K⟩,e,h,n,hd⟩:=id J;obtain⟨⟨f,u,data2,z⟩,a,b,H,c⟩:=id T;simp only at h hd b c;subst h hd b c;have q:(⟨k,g,d,t,os⟩:Ae).TypeIs (.ref l) "list" := ⟨_,e,rfl⟩;have B:(⟨k,g,d,t,os⟩:Ae).TypeIs (.ref m) "list" := ⟨_,a,rfl⟩;refine iB (op:=.Eq) q B F.slot_list_eq ?_ U;refine iS (gY F.slot_list_eq.plain F.entry_list_eq (F.slot_list_eq.check _ _ _ _ _ _ _ _ q (F.args_list_eq_2 _ _) ?_));have G:=AutoSeq1.sub_list_list;have v:¬ (o.size != p.size)=true:=by simp[r]
 wp_walk using bX e,bX a
 exact⟨iT eG _,NA e a rfl rfl r I ⟨(λx=>nomatch x),C⟩ o.size 0 (nB _)⟩
theorem Zn (p:IsTup s.heap l #[I,J]) (r:IsTup s.heap m #[T,U]) (C:A.units<cLine) (j:tP g w A.in1 s I T) (o:tP g w A.in1 s J U):tP g w A s (.ref l) (.ref m):=by
 by_cases e:l=m
 .subst e;exact λE Q q=>lQ _ g w E Q q
 intro E Q q;unfold eqBool;refine cP (lX (λz=>absurd (mV (eq_of_beq z)) e) λ_=>aB ?_);exact Tx p r C j o (dQ q)
end
section
variable {X:Cx}
def Ro:R2:=λx y H Q=>∃ (l m:Ad) (p q a c:V),x = .ref l/\y = .ref m/\H l=some (.t [p,q])/\H m=some (.t [a,c])/\Bw H p a/\Bw H q c/\Q (.b false) H
theorem Zw (g:X.A.units+64<cLine):oJ X (compareOp .NotEq) Ro:=by
 intro i s Z H x y v u Q I L M h;obtain⟨l,m,p,q,W,Y,rfl,rfl,w,z,N,O,k⟩:=h;cases L;cases M;obtain⟨B,F,D,_⟩:=I.tuple (oP.of (K:=X.K) w);obtain⟨f,G,E,_⟩:=I.tuple (oP.of (K:=X.K) z);obtain⟨P,R,n,a,c⟩:=uJ F;obtain⟨S,V,t,d,e⟩:=uJ G;subst n t;exact KN D E (by omega) (N.now I a d (by rw[gT];omega)) (O.now I c e (by rw[gT];omega)) ⟨.b false,H,I,rfl,k⟩
def Du (H:Hp) (x y:V):Prop:=∃ (l m:Ad) (p q a b:V),x = .ref l/\y = .ref m/\H l=some (.t [p,q])/\H m=some (.t [a,b])/\Eb H p a/\Eb H q b
theorem Du.now (I:Inv X g C H s) (h:Du H x y) (j:nO x u) (o:nO y v) (r:A.units+1<cLine):tP X.prog X.w A s u v:=by
 obtain⟨l,m,p,q,P,Q,rfl,rfl,k,n,F,G⟩:=h;cases j;cases o;obtain⟨t,D,z,_⟩:=I.tuple (oP.of (K:=X.K) k);obtain⟨e,E,B,_⟩:=I.tuple (oP.of (K:=X.K) n);obtain⟨L,M,f,a,b⟩:=uJ D;obtain⟨N,O,i,c,d⟩:=uJ E;subst f i;exact Zn z B (by omega) (F.now I a c (by rw[gT];omega)) (G.now I b d (by rw[gT];omega))
def Kf (b:Bool):R2:=λx y H Q=>∃ (l m:Ad) (p q a c:V),x = .ref l/\y = .ref m/\H l=some (.l [p,q])/\H m=some (.l [a,c])/\Du H p a/\Du H q c/\Q (.b b) H
theorem Tt (I:Inv X C σ H s) (s1:Du H p p') (s2:Du H q q') (g:nO p J) (j:nO q T) (l:nO p' U) (o:nO q' b2) (r:A.units+1<cLine):∀ (i:Nat) x y,(#[J,T]:Array Ac)[i]?=some x->(#[U,b2]:Array Ac)[i]?=some y->tP X.prog X.w A s x y:=λi x y a b=>by
 have c:i=0\/i=1:=by
  have:=(gK.mp a).1;simp at this;omega
 rcases c with rfl | rfl
 .cases a;cases b;exact s1.now I g l r
 .cases a;cases b;exact s2.now I j o r
theorem Uy (g:X.A.units+64<cLine):oJ X (compareOp .NotEq) (Kf false):=by
 intro i s Z H x y v u Q I L M h;obtain⟨l,m,p,q,W,Y,rfl,rfl,w,z,N,O,k⟩:=h;cases L;cases M;obtain⟨B,F,D,_⟩:=I.list (nX.of (K:=X.K) w);obtain⟨f,G,E,_⟩:=I.list (nX.of (K:=X.K) z);obtain⟨P,R,n,a,c⟩:=uJ F;obtain⟨S,V,t,d,e⟩:=uJ G;subst n t;exact IT D.isList E.isList rfl (by omega) (Tt I N O a c d e (by rw[gT];omega)) ⟨.b false,H,I,rfl,k⟩
theorem KC (g:X.A.units+64<cLine):oJ X (compareOp .Eq) (Kf true):=by
 intro i s Z H x y v u Q I L M h;obtain⟨l,m,p,q,W,Y,rfl,rfl,w,z,N,O,k⟩:=h;cases L;cases M;obtain⟨B,F,D,_⟩:=I.list (nX.of (K:=X.K) w);obtain⟨f,G,E,_⟩:=I.list (nX.of (K:=X.K) z);obtain⟨P,R,n,a,c⟩:=uJ F;obtain⟨S,V,t,d,e⟩:=uJ G;subst n t;exact HV D.isList E.isList rfl (by omega) (Tt I N O a c d e (by rw[gT];omega)) ⟨.b true,H,I,rfl,k⟩
end
def xM (d:D):Prop:=d = .e\/∃ i:Int,d = .int i
def fV:D->V
 | .int i=>.int i
 | _=>.e
theorem xM.rep {K:nH}(f:xM d) (r:Rep K A H d v):v=fV d:=by
 rcases f with rfl | ⟨i,rfl⟩<;>cases r<;>rfl
theorem xM.flat (f:xM d):rR (fV d)=true/\sC (fV d) (fV d)=true:=by
 rcases f with rfl | ⟨i,rfl⟩
 .exact⟨rfl,rfl⟩
 .exact⟨rfl,iZ (α:=Int) i⟩
def vK (g:Aa (hH×D)):Aa (hH×V):=g.map λp=>(p.1,fV p.2)
def tM (g:Aa (hH×D)):Prop:=∀ p∈g,xM p.2
theorem Kb {K:nH}:∀ {ds:Aa D}{g:Aa V},(∀ d∈ds,xM d)->Reps K A H ds g->g=ds.map fV
 | _,_,_,.nil=>rfl
 | _,_,h,.cons r a=>by rw[bD,<- (h _ aI).rep r,Kb (λd hd=>h d (aV _ hd)) a]
theorem Ht {K:nH}(f:tM g) (h:Rep K A H (.k g) v):∃ a,v = .ref a/\Rd H a (.k (vK g)):=by
 obtain⟨a,i,rfl,_,h,e,r⟩:=h.dK_inv;refine⟨a,rfl,?_⟩;have b:=Kb (λd hd=>by obtain⟨p,c,rfl⟩:=aO.mp hd;exact f p c) r;have:i=vK g:=by
  refine Lv ?_ ?_
  .unfold vK;rw[List.map_map];exact e.symm
  .unfold vK;rw[b,List.map_map,List.map_map];rfl
 rw[<- this];exact h
theorem Fc:∀ (g:Aa (hH×D)) (k:hH),qA (vK g) k=(nR g k).map fV
 | [],k=>rfl
 | p::g,k=>by
  have a:=Fc g k;show qA ((p.1,fV p.2)::vK g) k=_;rw[show nR (p::g) k=if p.1=k then some p.2 else nR g k from uM];by_cases z:p.1=k
  .rw[aQ z,vB z];rfl
  .rw[aG z,uX z,a]
structure SmF (k j:List (hH×D)):Prop where
 len:k.length=j.length
 a:∀ p∈k,xM p.2/\nR j p.1=some p.2
 b:tM j
theorem SmF.same {K:nH}(h:SmF k j) (g:Rep K A H (.k k) x) (l:Rep K o H (.k j) y):Bw H x y:=by
 obtain⟨a,rfl,d⟩:=Ht (λp c=>(h.a p c).1) g;obtain⟨b,rfl,i⟩:=Ht h.b l;refine⟨a,b,_,_,rfl,rfl,d,i,by unfold vK;rw[List.length_map,List.length_map];exact h.len,λq m=>?_⟩;obtain⟨p,c,rfl⟩:=aO.mp m;obtain⟨f,e⟩:=h.a p c;exact⟨fV p.2,by rw[Fc,e];rfl,f.flat.1,f.flat.1,f.flat.2⟩
def Bj (k:Aa (hH×D)):Prop:=(k.map (·.1)).Nodup/\tM k
theorem Bj.same {K:nH}(h:Bj k) (g:Rep K A H (.k k) x) (j:Rep K l H (.k k) y):Eb H x y:=by
 obtain⟨a,rfl,c⟩:=Ht h.2 g;obtain⟨b,rfl,d⟩:=Ht h.2 j;refine⟨a,b,_,rfl,rfl,c,d,by unfold vK;rw[List.map_map];exact h.1,λq f=>?_⟩;obtain⟨p,e,rfl⟩:=aO.mp f;exact (h.2 p e).flat
theorem xZ {K:nH}{d1 d2:D}(h:Rep K A H (.t [d1,d2]) x):∃ (l:Ad) (p q:V),x = .ref l/\H l=some (.t [p,q])/\Rep K A H d1 p/\Rep K A H d2 q:=by
 obtain⟨l,e,rfl,d,a⟩:=h.peek.tup_inv;cases a with
 | cons b a =>
 cases a with
 | cons c a =>
 cases a;exact⟨l,_,_,rfl,d,b,c⟩
def T8 (b:Bool):O2:=λd e i=>∃ f h a c:Aa (hH×D),d = .t [.k f,.k h]/\e = .t [.k a,.k c]/\SmF f a/\SmF h c/\i (.v (.b b))
theorem Y8 {K:nH}:qI K Ro (T8 false):=by
 intro B L H d e x y O Q hd F G n k;obtain⟨z,A,v,w,rfl,rfl,M,N,a⟩:=n;obtain⟨l,p,q,rfl,s,c,f⟩:=xZ (show Rep K _ H (.t [.k z,.k A]) x from F);obtain⟨m,D,E,rfl,u,h,i⟩:=xZ (show Rep K _ H (.t [.k v,.k w]) y from G);exact⟨l,m,p,q,D,E,rfl,rfl,s,u,M.same c h,N.same f i,k _ _ H a (hd.pushF (.b _))⟩
theorem NP {K:nH}:qI K Vn (T8 true):=by
 intro B L H d e x y O Q hd F G n k;obtain⟨z,A,v,w,rfl,rfl,M,N,a⟩:=n;obtain⟨l,p,q,rfl,s,c,f⟩:=xZ (show Rep K _ H (.t [.k z,.k A]) x from F);obtain⟨m,D,E,rfl,u,h,i⟩:=xZ (show Rep K _ H (.t [.k v,.k w]) y from G);exact⟨l,m,p,q,D,E,rfl,rfl,s,u,M.same c h,N.same f i,k _ _ H a (hd.pushF (.b _))⟩
def DK (b:Bool):O2:=λd e i=>∃ a c f h:Aa (hH×D),d = .l [.t [.k a,.k c],.t [.k f,.k h]]/\e = .l [.t [.k a,.k c],.t [.k f,.k h]]/\Bj a/\Bj c/\Bj f/\Bj h/\i (.v (.b b))
theorem J9 {K:nH}:qI K (Kf b) (DK b):=by
 intro B L H d e x y Φ Q hd M N w k;obtain⟨p,r,C,I,rfl,rfl,D,E,F,G,f⟩:=w;obtain⟨l,vs,rfl,z,a⟩:=M.lst_inv;obtain⟨m,us,rfl,A,c⟩:=N.lst_inv;cases a with
 | cons h a =>
 cases a with
 | cons i a =>
 cases a;cases c with
 | cons n c =>
 cases c with
 | cons q c =>
 cases c;obtain⟨Z,J,q1,rfl,s,O,V⟩:=xZ h;obtain⟨g,T,q2,rfl,t,P,W⟩:=xZ i;obtain⟨j,U,q3,rfl,u,R,X⟩:=xZ n;obtain⟨o,p4,q4,rfl,v,S,Y⟩:=xZ q;exact⟨l,m,_,_,_,_,rfl,rfl,z,A,⟨_,_,_,_,_,_,rfl,rfl,s,u,D.same O R,E.same V X⟩,⟨_,_,_,_,_,_,rfl,rfl,t,v,F.same P S,G.same W Y⟩,k _ _ H f (hd.pushF (.b _))⟩
end L2
namespace Lw
open PySem L2
theorem AW:(["name","one"]:Aa Af).Nodup:=by decide +kernel
theorem DC:(["pair"]:Aa Af).Nodup:=by decide +kernel
def Q1:RD:=λi ds h=>∃ (f:Aa Int) (C:Cel) (b:Aa (Af×Af)) (a:Cel) (d:Aa (Af×Af)),ds=[.c (f.map D.int),nD C b,nD a d]/\f.length<=63/\C.outs.length<=100/\b.length<=100/\a.ins.length<=100/\d.length<=100/\C.outs.Nodup/\a.ins.Nodup/\∀ e,PrsOk (oR C b) (oZ a d) e->e.length<=4->h (.v (.t (e.map rJ)))
section
variable {P:Ah}{K:nH}
theorem Ck:FnScope ["script","one","other","outputs","inputs","pairs","k","output"] ["script","one","other"] (oC Iu):=pK
theorem CF (T:Txt mg) (g:Kn P w K mg base 1 "_law_draw" xT ["script","k"] yV) (r:Kn P w K mg base 2 "_law_wordly" Ip ["row"] E9):qX P w K mg base 3 "_law_pairs" Iu ["script","one","other"] Q1:=by
 refine rS Ck λf ae A ac s H E dk ds Φ O Q hR=>?_
 obtain⟨a,C,m,L,M,rfl,U,l1,l2,l3,l4,Ej,ab,aa⟩:=hR;refine⟨_,(nY (zV 3 ["name"] ["one"] [1] Ck.nd (oS (oK Q (nI Q 1 gD) gD)) (λ_ _ _ _ _=>(nU 0 AW)) (λ_ _ _ _ _=>(eH 0)) (ht:=λ_ _ _ _ _=>(xJ (yS (wS Q) (vQ true) (pv 0) (qF ["pair"] [] [] (oS (nI Q 1 gD)) (λ_ _ _ _ _=>(nU 0 DC)) (λ_ _ _ _ _=>(nI Q 0 gD))))))) (nY (oB 4 Ck.nd (pM r O (dK (eH 2) gV))) (nY (oB 5 Ck.nd (uR gV)) (nY (tU (zA (by rfl) T.range (nV pQ pO (pM g O (dK (eH 0) (dK gD gV))) gD)) (nU 6 Ck.nd) (oN (wF (As (Le (yS (Mq O.units) (B7 true) (pv 3) (uR gV)) (Nb (yS (Mq O.units) (B7 true) (pv 4) (uR gV))))) (nY (oB 7 Ck.nd (uW cM PySem.F.slot_list_pop PySem.F.type_list_pop Qw Oj (pv 3) (dK (nV pQ pO (pM g O (dK (eH 0) (dK (nV oE oF gD (eH 6)) gV))) (rK sQ sU T.len cR (vJ (pv 3) gV))) gV))) (oN (wJ (uW cM dX dY yZ An (pv 5) (dK (oW (dK (eH 7) (dK (uW cM PySem.F.slot_list_pop PySem.F.type_list_pop Qw Oj (pv 4) (dK (nV pQ pO (pM g O (dK (eH 0) (dK (nV oE oF gD (eH 6)) gV))) (rK sQ sU T.len cR (vJ (pv 4) gV))) gV)) gV))) gV))))) tN))) (oN (pT (pI tY tJ T.tuple bU (vJ (pv 5) gV)))))))),?_⟩;let b:Aa Sl:=[.v (.c (a.map D.int)),.v (nD C m),.v (nD L M)];have lo:(oR C m).length<=100:=bS (bK ..) l1;have li:(oZ L M).length<=100:=bS (bK ..) l3;refine nJ (λt=>t=b++[.o (.l ((oR C m).map D.str)),.n,.n,.n,.n]) (λN u=>?_) ?_
 .unfold rQ;refine wM C.outs D.str D.str (λx=>!decide (x∈m.map λp:Af×Af=>p.1)) _ (λX h=>⟨rfl,_,rfl,_,rfl,h⟩) (by omega) (λi x ys Nx e Y Z h3=>?_) (u _ rfl);refine⟨rfl,?_⟩;refine qH m rJ (λp=>D.str p.1) _ (λX h=>⟨rfl,_,rfl,h⟩) (by omega) (λi p ys Nx e Y Z=>⟨rfl,_,rfl,Y,Z⟩) ?_;have e1:(m.map λp=>D.str p.1)=(m.map (·.1)).map D.str:=by rw[aU];rfl
  refine⟨.str x,(m.map (·.1)).map V.str,rfl,by rw[e1];exact vN _,?_⟩;rw[uU];show if (!decide (x∈m.map (·.1)))=true then _ else _
  by_cases q:x∈m.map (·.1)
  .exact qL (by rw[bC q];rfl) (h3 (by rw[bC q];rfl))
  .exact qS (by rw[aY q];rfl) ⟨Y,Z (by rw[aY q];rfl)⟩
 rintro _ rfl;refine nJ (λt=>t=b++[.o (.l ((oR C m).map D.str)),.o (.l ((oZ L M).map D.str)),.n,.n,.n]) (λN u=>⟨L,M,rfl,l4,by omega,.inl rfl,u _ rfl⟩) ?_;rintro _ rfl;refine nJ (λt=>t=b++[.o (.l ((oR C m).map D.str)),.o (.l ((oZ L M).map D.str)),.o (.l []),.n,.n]) (λN u=>⟨by show 0<=1000;decide,u _ rfl⟩) ?_;rintro _ rfl;let st (os is:Aa Af) (d:Aa (Af×Af)) (B G:Sl):Aa Sl:=b++[.o (.l (os.map D.str)),.o (.l (is.map D.str)),.o (.l (d.map rJ)),B,G];refine nJ (λt=>∃ os is d B G,(d.map (·.1)++os).Perm (oR C m)/\(d.map (·.2)++is).Perm (oZ L M)/\d.length<=4/\t=st os is d B G) (λN u=>?_) ?_
 .have hg:nK a 200%5<=4:=by have:=dU (nK a 200) (show 0<5 by decide);omega
  have eg:((nK a 200:Int)%5).toNat=nK a 200%5:=by omega
  refine rW (rL 0 (nK a 200%5)) (st (oR C m) (oZ L M) [] .n .n) (λX h=>⟨a,200,by simp,U,by omega,.inl rfl,by show (0:Int)<5;decide,by omega,by omega,by rw[eg];exact h⟩) (λk t=>∃ os is d B G,(d.map (·.1)++os).Perm (oR C m)/\(d.map (·.2)++is).Perm (oZ L M)/\d.length<=k/\t=st os is d B G) ⟨_,_,[],.n,.n,.refl _,.refl _,bB _,rfl⟩ ?_ ?_
  .rintro k e t he ⟨os,is,d,B,G,y,z,R,rfl⟩;obtain⟨hk,rfl⟩:=Bl he;let s0:Sl:=.v (.int (0+(k:Int)));refine Lj (decide (os≠[])) (decide (is≠[])) (λX h=>?_) (λX h=>?_) ?_
   .exact⟨rfl,by show 0<=1000;decide,by cases os<;>exact h⟩
   .exact⟨rfl,by show 0<=1000;decide,by cases is<;>exact h⟩
   by_cases z1:os=[]
   .exact qL (by simp[z1]) ⟨os,is,d,_,_,y,z,by omega,rfl⟩
   by_cases z2:is=[]
   .exact qL (by simp[z2]) ⟨os,is,d,_,_,y,z,by omega,rfl⟩
   refine qS (by simp[z1,z2]) ?_;have ol:os.length<=100:=by have:=y.length_eq;rw[aE] at this;omega
   have il:is.length<=100:=by have:=z.length_eq;rw[aE] at this;omega
   have o0:0<os.length:=jV.mpr z1;have i0:0<is.length:=jV.mpr z2;have J:=dU (nK a (201+k)) o0;have I:=dU (nK a (205+k)) i0;have W:(nK a (201+k):Int)%((os.map D.str).length:Int)=((nK a (201+k)%os.length:Nat):Int):=by rw[aA];omega
   have S:(nK a (205+k):Int)%((is.map D.str).length:Int)=((nK a (205+k)%is.length:Nat):Int):=by rw[aA];omega
   generalize ag:nK a (201+k)%os.length=j at J W;generalize af:nK a (205+k)%is.length=i at I S;have gj:os[j]?=some os[j]:=aH J;have gi:is[i]?=some is[i]:=aH I;refine nJ (λt=>t=st (os.eraseIdx j) is d s0 (.v (.str os[j]))) (λN u=>?_) ?_
   .refine⟨rfl,a,201+k,by simp,U,by omega,.inl rfl,rfl,rfl,(os.map D.str).length,rfl,by rw[aA];show (0:Int)<_;omega,j,.str os[j],?_,?_,?_,?_,u _ ?_⟩
    .show -(2 ^ 63)<=(nK a (201+k):Int)%((os.map D.str).length:Int);rw[W];omega
    .show (nK a (201+k):Int)%((os.map D.str).length:Int)<2 ^ 63;rw[W];omega
    .show seqIndex? ((nK a (201+k):Int)%((os.map D.str).length:Int)) (os.map D.str).length=_;rw[W,aA];exact Od J
    .show (os.map D.str)[j]?=_;rw[bH,gj];rfl
    .rw[My];rfl
   rintro _ rfl;refine⟨rfl,rfl,a,205+k,by simp,U,by omega,.inl rfl,rfl,rfl,(is.map D.str).length,rfl,by rw[aA];show (0:Int)<_;omega,i,.str is[i],?_,?_,?_,?_,by show 2<=1000;decide,by show (d.map rJ).length<100000;rw[aA];omega,os.eraseIdx j,is.eraseIdx i,d++[(os[j],is[i])],s0,.v (.str os[j]),?_,?_,?_,?_⟩
   .show -(2 ^ 63)<=(nK a (205+k):Int)%((is.map D.str).length:Int);rw[S];omega
   .show (nK a (205+k):Int)%((is.map D.str).length:Int)<2 ^ 63;rw[S];omega
   .show seqIndex? ((nK a (205+k):Int)%((is.map D.str).length:Int)) (is.map D.str).length=_;rw[S,aA];exact Od I
   .show (is.map D.str)[i]?=_;rw[bH,gi];rfl
   .rw[aT,bM];exact ((L8 gj).symm.append_left _).trans y
   .rw[aT,bM];exact ((L8 gi).symm.append_left _).trans z
   .rw[aE];exact lG R
   .show _=st _ _ (d++[(os[j],is[i])]) _ _;simp only[st,aT,<- My];rfl
  .rintro t ⟨os,is,d,B,G,y,z,R,rfl⟩;exact u _ ⟨os,is,d,B,G,y,z,by simp[rL] at R;omega,rfl⟩
 rintro _ ⟨os,is,d,B,G,y,z,R,rfl⟩;have w1:=(bW.mp (y.nodup_iff.mpr (Ej.filter _))).1;have w2:=(bW.mp (z.nodup_iff.mpr (ab.filter _))).1;refine⟨rfl,aa d ⟨w1,w2,λp hp=>⟨y.mem_iff.mp (aL _ (bQ hp)),z.mem_iff.mp (aL _ (bQ hp))⟩⟩ R⟩
end
theorem Xt (h:g[i]?=some (.v d)) (k:j (.v d) g):vd i l g j:=by
 unfold vd;rw[h];exact k
theorem Pg:(["name"]:Aa Af).Nodup:=by decide +kernel
theorem Q7:(["gate"]:Aa Af).Nodup:=by decide +kernel
theorem BL:(["part","names"]:Aa Af).Nodup:=by decide +kernel
theorem Iw:(["output","name"]:Aa Af).Nodup:=by decide +kernel
theorem DH:(["name","first"]:Aa Af).Nodup:=by decide +kernel
theorem HL:(["name","second","taken"]:Aa Af).Nodup:=by decide +kernel
theorem ME:(["name","first","gone"]:Aa Af).Nodup:=by decide +kernel
theorem NB:(["name","second"]:Aa Af).Nodup:=by decide +kernel
theorem S0:(["output","name","first"]:Aa Af).Nodup:=by decide +kernel
theorem Rt:(["output","name","second"]:Aa Af).Nodup:=by decide +kernel
def Rj:RD:=λf ds e=>∃ C c b d a,ds=[nD C c,nD b d,.t (a.map rJ)]/\RG C c/\RG b d/\PrsOk (oR C c) (oZ b d) a/\a.length<=40/\e (.v (nD (jC C b a) (jP c d a)))
theorem Px (h:p.2∉g.map (·.2)) (x:Af):nZ (g++[p]) x=if p.2=x then fA p.1 else nZ g x:=by
 unfold nZ;rw[List.find?_append];by_cases q:p.2=x
 .have:g.find? (λp=>decide (p.2=x))=none:=List.find?_eq_none.mpr λy a z=>h (by rw[q,<- fU z];exact bQ a)
  rw[aQ q,this,Option.none_or,fM,bC q];rfl
 .rw[aG q,fM,aY q,List.find?_nil,Option.or_none]
abbrev uS (C:Cel) (T:Aa (Af×Af)) (J:Cel) (U ps:Aa (Af×Af)) (s3 s4 s5 s6 s7 s8 s9 g j l o p r I:Sl):Aa Sl:=[.v (nD C T),.v (nD J U),.v (.t (ps.map rJ)),s3,s4,s5,s6,s7,s8,s9,g,j,l,o,p,r,I]
theorem Wb (C D:Cel) (g:Aa (Af×Af)):(jC C D g).outs=(C.outs.filter λx=>!decide (x∈g.map (·.1))).map fA++D.outs.map (nZ g):=by
 show vO (C.outs.map fA) (rG g)++D.outs.map (nZ g)=_
 congr 1
 unfold vO;rw[List.filter_map];refine cA (List.map fA) (mU λx _=>?_);have:fA x∈rG g↔x∈g.map (·.1):=by
  constructor
  .intro z;obtain⟨p,a,e⟩:=aO.mp z;exact aO.mpr ⟨p,a,Ci e⟩
  .intro z;obtain⟨p,a,rfl⟩:=aO.mp z;exact aO.mpr ⟨p,a,rfl⟩
 simp only[Function.comp,this]
theorem T0 (C D:Cel) (g:Aa (Af×Af)):(jC C D g).ins=C.ins.map fA++(D.ins.filter λx=>!decide (x∈g.map (·.2))).map (nZ g):=by
 rw[L4]
 congr 1
 exact (eR λx a=>Nr (by have:=(bR.mp a).2;simpa using this)).symm
section
variable {P:Ah}{K:nH}
theorem sT:FnScope ["one","other","pairs","first","second","output","name","gates","names","row","word","some","taken","gone","inputs","outputs","along"] ["one","other","pairs"] (oC G0):=pK
theorem GL (T:Txt mg):qX P w K mg base 1 "_law_due_row" G0 ["one","other","pairs"] Rj:=by
 refine rS sT λf ak A af s H E dk ds Φ hr u hR=>?_
 obtain⟨C,S,b,r,a,rfl,h1,h2,pk,lp,ac⟩:=hR;refine⟨_,(nY (oB 3 sT.nd (pI (wX rfl) xU T.dict cV (dK (qF ["name"] [] [] (oS (nV oE oF (pI xP xB T.list cU (dK (oK u (nI u 0 gD) gD) gV)) (qF ["gate"] [] [] (oS (oK u (nI u 0 gD) gD)) (λ_ _ _ _ _=>(nU 0 Q7)) (λ_ _ _ _ _=>(nI u 0 gD))))) (λ_ _ _ _ _=>(nU 0 Pg)) (λ_ _ _ _ _=>(oW (dK (eH 0) (dK (nV oE oF qM (eH 0)) gV))))) gV))) (nY (oB 4 sT.nd (pI (wX rfl) xU T.dict cV (dK (qF ["name"] [] [] (oS (nV oE oF (pI xP xB T.list cU (dK (oK u (nI u 1 gD) gD) gV)) (qF ["gate"] [] [] (oS (oK u (nI u 1 gD) gD)) (λ_ _ _ _ _=>(nU 0 Q7)) (λ_ _ _ _ _=>(nI u 0 gD))))) (λ_ _ _ _ _=>(nU 0 Pg)) (λ_ _ _ _ _=>(oW (dK (eH 0) (dK (nV oE oF qM (eH 0)) gV))))) gV))) (nY (tU (oS (eH 2)) (rZ (n:=2) rfl (oX (nU 5 sT.nd) (oX (nU 6 sT.nd) rY))) (oN (yJ (n:=4) u (nV oE oF qM (eH 5)) (pv 4) (eH 6)))) (nY (oB 7 sT.nd (uR gV)) (nY (tU (oS (oW (dK (oW (dK (eH 3) (dK (eH 0) gV))) (dK (oW (dK (eH 4) (dK (eH 1) gV))) gV)))) (rZ (n:=2) rfl (oX (nU 8 sT.nd) (oX (nU 9 sT.nd) rY))) (oN (tU (oS (oK u (nI u 9 gD) gD)) (rZ (n:=3) rfl (oX (nU 6 sT.nd) (oX (nU 10 sT.nd) (oX (nU 11 sT.nd) rY)))) (oN (wJ (uW cM dX dY yZ An (pv 7) (dK (oW (dK (nI u 8 (eH 6)) (dK (eH 10) (dK (pI tY tJ T.tuple bU (dK (qF ["part"] ["names"] [8] (oS (eH 11)) (λ_ _ _ _ _=>(nU 0 BL)) (λ_ _ _ _ _=>(nI u 1 (eH 0)))) gV)) gV)))) gV))))))) (nY (oB 12 sT.nd (qF ["output","name"] [] [] (oS (eH 2)) (λ_ _ _ _ _=>(rZ (n:=2) rfl (oX (nU 0 Iw) (oX (nU 1 Iw) rY)))) (λ_ _ _ _ _=>(eH 1)))) (nY (oB 13 sT.nd (qF ["output","name"] [] [] (oS (eH 2)) (λ_ _ _ _ _=>(rZ (n:=2) rfl (oX (nU 0 Iw) (oX (nU 1 Iw) rY)))) (λ_ _ _ _ _=>(eH 0)))) (nY (zV 14 ["name"] ["first"] [3] sT.nd (oS (oK u (nI u 0 gD) gD)) (λ_ _ _ _ _=>(nU 0 DH)) (λ_ _ _ _ _=>(nI u 1 (eH 0)))) (nY (oB 14 sT.nd (pH oE oF 14 (qF ["name"] ["second","taken"] [4,12] (oS (oK u (nI u 1 gD) gD)) (λ_ _ _ _ _=>(nU 0 HL)) (λ_ _ _ _ _=>(nI u 1 (eH 0))) (ht:=λ_ _ _ _ _=>(xJ (zK (wS u) (vQ true) (eH 0) (pv 2))))))) (nY (zV 15 ["name"] ["first","gone"] [3,13] sT.nd (oS (oK u (nI u 0 gD) gD)) (λ_ _ _ _ _=>(nU 0 ME)) (λ_ _ _ _ _=>(nI u 1 (eH 0))) (ht:=λ_ _ _ _ _=>(xJ (zK (wS u) (vQ true) (eH 0) (pv 2))))) (nY (oB 15 sT.nd (pH oE oF 15 (qF ["name"] ["second"] [4] (oS (oK u (nI u 1 gD) gD)) (λ_ _ _ _ _=>(nU 0 NB)) (λ_ _ _ _ _=>(nI u 1 (eH 0)))))) (nY (zV 16 ["output","name"] ["first"] [3] sT.nd (oS (nI u 0 gD)) (λ_ _ _ _ _=>(rZ (n:=2) rfl (oX (nU 0 S0) (oX (nU 1 S0) rY)))) (λ_ _ _ _ _=>(oW (dK (nI u 2 (eH 0)) (dK (nI u 2 (eH 1)) gV))))) (nY (oB 16 sT.nd (pH oE oF 16 (qF ["output","name"] ["second"] [4] (oS (nI u 1 gD)) (λ_ _ _ _ _=>(rZ (n:=2) rfl (oX (nU 0 Rt) (oX (nU 1 Rt) rY)))) (λ_ _ _ _ _=>(oW (dK (nI u 2 (eH 0)) (dK (nI u 2 (eH 1)) gV))))))) (oN (pT (oW (dK (oW (dK (pI tY tJ T.tuple bU (dK (eH 14) gV)) (dK (pI tY tJ T.tuple bU (vJ (pv 7) gV)) (dK (pI tY tJ T.tuple bU (dK (eH 15) gV)) gV)))) (dK (pI tY tJ T.tuple bU (dK (eH 16) gV)) gV)))))))))))))))))),?_⟩;have a1:=h1.gc.li;have a2:=h1.gc.lg;have a3:=h1.gc.lo;have c1:=h2.gc.li;have c2:=h2.gc.lg;have c3:=h2.gc.lo;have d1:=h1.lp;have d2:=h2.lp;have lN:C.names.length<=80:=by unfold Cel.names;rw[List.length_append,List.length_map];omega
 have an:b.names.length<=80:=by unfold Cel.names;rw[List.length_append,List.length_map];omega
 have ag:∀ p∈a,p.1∈C.names:=λp hp=>h1.gc.os _ (bR.mp (pk.m p hp).1).1
 have en:∀ C:Cel,C.ins.map D.str++C.gates.map (λg=>D.str g.1)=C.names.map D.str:=λC=>by unfold Cel.names;rw[List.map_append,List.map_map];rfl
 refine nJ (λc=>∃ Y,(∀ x∈C.names,nR Y (Sum.inr x)=some (.str (fA x)))/\c=uS C S b r a (.o (.k Y)) .n .n .n .n .n .n .n .n .n .n .n .n .n) (λN R=>?_) ?_
 .unfold rQ dC aC;refine qH C.names D.str (λn=>.t [.str n,.str ("a" ++ n)]) (uS C S b r a .n .n .n .n .n .n .n .n .n .n .n .n .n .n) (λΨ h=>?_) (by omega) (λi n ys Nx e W X=>?_) ?_
  .refine⟨rfl,_,rfl,_,rfl,_,rfl,?_⟩;refine qH C.gates oY (λg=>D.str g.1) _ (λΨ h=>⟨rfl,_,rfl,_,rfl,h⟩) (by omega) (λi x ys Nx e W X=>⟨rfl,_,rfl,W,X⟩) ?_;rw[<- en] at h;exact⟨by simp;omega,h⟩
  .have:=(h1.az n (aK e)).hi;exact⟨by show 1+n.length<=100000;omega,by show 2<=1000;decide,W,X⟩
  have e0:uH (C.names.map λn=>D.t [.str n,.str ("a" ++ n)])=some (sO "a" C.names):=by
   rw[yD (g:=λn=>((Sum.inr n:hH),D.str ("a" ++ n))) (λn=>⟨.str n,rfl,rfl⟩)];rfl
  refine⟨_,e0,by unfold sO;rw[List.length_map];omega,R _ ⟨_,λx hx=>?_,rfl⟩⟩;rw[yB _ _ (Jc h1.gc.nd),E4 hx];rfl
 rintro _ ⟨Z,v1,rfl⟩;refine nJ (λc=>∃ Y,(∀ x∈b.names,nR Y (Sum.inr x)=some (.str (nZ [] x)))/\Y.length<=80/\c=uS C S b r a (.o (.k Z)) (.o (.k Y)) .n .n .n .n .n .n .n .n .n .n .n .n) (λN R=>?_) ?_
 .unfold rQ dC aC;refine qH b.names D.str (λn=>.t [.str n,.str ("b" ++ n)]) (uS C S b r a (.o (.k Z)) .n .n .n .n .n .n .n .n .n .n .n .n .n) (λΨ h=>?_) (by omega) (λi n ys Nx e W X=>?_) ?_
  .refine⟨rfl,_,rfl,_,rfl,_,rfl,?_⟩;refine qH b.gates oY (λg=>D.str g.1) _ (λΨ h=>⟨rfl,_,rfl,_,rfl,h⟩) (by omega) (λi x ys Nx e W X=>⟨rfl,_,rfl,W,X⟩) ?_;rw[<- en] at h;exact⟨by simp;omega,h⟩
  .have:=(h2.az n (aK e)).hi;exact⟨by show 1+n.length<=100000;omega,by show 2<=1000;decide,W,X⟩
  have e0:uH (b.names.map λn=>D.t [.str n,.str ("b" ++ n)])=some (sO "b" b.names):=by
   rw[yD (g:=λn=>((Sum.inr n:hH),D.str ("b" ++ n))) (λn=>⟨.str n,rfl,rfl⟩)];rfl
  refine⟨_,e0,by unfold sO;rw[List.length_map];omega,R _ ⟨_,λx hx=>?_,?_,rfl⟩⟩
  .rw[yB _ _ (Jc h2.gc.nd),E4 hx];rfl
  .have:=D0 (sO "b" b.names) [];rw[dL] at this;have l3:(sO "b" b.names).length=b.names.length:=by unfold sO;rw[List.length_map]
   omega
 rintro _ ⟨ae,v0,l0,rfl⟩;refine nJ (λc=>∃ Y J Q,(∀ x∈b.names,nR Y (Sum.inr x)=some (.str (nZ a x)))/\c=uS C S b r a (.o (.k Z)) (.o (.k Y)) J Q .n .n .n .n .n .n .n .n .n .n) (λN R=>?_) ?_
 .refine rW (a.map rJ) _ (λΨ h=>h) (λi c=>∃ Y J Q,(∀ x∈b.names,nR Y (Sum.inr x)=some (.str (nZ (a.take i) x)))/\Y.length<=80+i/\c=uS C S b r a (.o (.k Z)) (.o (.k Y)) J Q .n .n .n .n .n .n .n .n .n .n) ⟨ae,.n,.n,v0,by omega,rfl⟩ ?_ ?_
  .rintro i x c hx ⟨Y,J,Q,v,l,rfl⟩;obtain⟨p,hp,rfl⟩:=wG hx;have pm:=aK hp;have hi:=(aP.mp hp).1;have aq:=(h1.az _ (ag p pm)).hi;have et:a.take (i+1)=a.take i++[p]:=by rw[cH,hp];rfl
   have hn:p.2∉(a.take i).map (·.2):=λq=>by
    have:=pk.n2.sublist ((kH (i+1) a).map (·.2));rw[et,aT] at this;exact (bW.mp this).2.2 _ q _ (aJ.mpr rfl) rfl
   refine⟨rfl,rfl,by show 1+p.1.length<=100000;omega,rfl,_,C4 (by omega),_,_,_,λx hx=>?_,?_,rfl⟩
   .rw[A8,et,Px hn];by_cases q:p.2=x
    .rw[aQ (by rw[q]),aQ q];rfl
    .rw[aG λz=>q (eI z),aG q,v x hx]
   .have:=Db Y (Sum.inr p.2:hH) (.str ("a" ++ p.1));omega
  .rintro c ⟨Y,J,Q,v,l,rfl⟩;rw[aA,cY] at v;exact R _ ⟨Y,J,Q,v,rfl⟩
 rintro _ ⟨U,J,Q,v2,rfl⟩;refine nJ (λc=>c=uS C S b r a (.o (.k Z)) (.o (.k U)) J Q (.o (.l [])) .n .n .n .n .n .n .n .n .n) (λN R=>⟨by show 0<=1000;decide,R _ rfl⟩) ?_;rintro _ rfl;let G (gs:Aa (Af×Af×Aa Af)):Sl:=.o (.l (gs.map oY));let K1:Sl:=.v (.k Z);let K2:Sl:=.v (.k U);refine nJ (λc=>∃ Q s8 s9 F M,c=uS C S b r a K1 K2 J Q (G (C.gates.map (sF fA)++b.gates.map (sF (nZ a)))) s8 s9 F M .n .n .n .n .n) (λN R=>?_) ?_
 .let L:Aa (Aa (hH×D)×Cel×Aa (Af×Af)×(Af->Af)):=[(Z,C,S,fA),(U,b,r,nZ a)];have hL:∀ q∈L,GC q.2.1/\∀ x∈q.2.1.names,nR q.1 (Sum.inr x)=some (.str (q.2.2.2 x)):=λq hq=>by
   rcases aM.mp hq with rfl | hq
   .exact⟨h1.gc,v1⟩
   .rw[aJ.mp hq];exact⟨h2.gc,v2⟩
  let eL:Aa (hH×D)×Cel×Aa (Af×Af)×(Af->Af)->D:=λq=>D.t [.k q.1,nD q.2.1 q.2.2.1]
  let gl (i:Nat):Aa (Af×Af×Aa Af):=(L.take i).flatMap λq=>q.2.1.gates.map (sF q.2.2.2)
  refine rW (L.map eL) (uS C S b r a K1 K2 J Q (G []) .n .n .n .n .n .n .n .n .n) (λΨ h=>⟨by show 2<=1000;decide,by show 2<=1000;decide,by show 2<=1000;decide,h⟩) (λi c=>∃ Q s8 s9 F M,c=uS C S b r a K1 K2 J Q (G (gl i)) s8 s9 F M .n .n .n .n .n) ⟨_,_,_,_,_,rfl⟩ ?_ ?_
  .rintro i x c hx ⟨Q,s8,s9,F,M,rfl⟩;obtain⟨⟨Y,C',p',f⟩,hq,rfl⟩:=wG hx;obtain⟨gc,hv⟩:=hL _ (aK hq);have lg:C'.gates.length<=40:=gc.lg;have eg:gl (i+1)=gl i++C'.gates.map (sF f):=by
    show ((L.take (i+1)).flatMap _)=_;rw[cH,hq,List.flatMap_append];show _++[(Y,C',p',f)].flatMap _=_;rw[List.flatMap_singleton]
   have ao:(gl i).length<=80:=by
    have e:∀ (L:Aa (Aa (hH×D)×Cel×Aa (Af×Af)×(Af->Af))) n,(∀ q∈L,q.2.1.gates.length<=40)->((L.take n).flatMap λq=>q.2.1.gates.map (sF q.2.2.2)).length<=40*L.length:=by
     intro L;induction L with
     | nil=>intro n _;simp
     | cons q L ih =>
      intro n hq;cases n with
      | zero=>simp
      | succ n =>
       have h1:=ih n λy hy=>hq y (aV _ hy)
       have h2:=hq q aI;rw[List.take_succ_cons,List.flatMap_cons,aE,aA,cS];omega
    have:=e L i λq hq=>(hL q hq).1.lg
    exact this
   refine⟨rfl,rfl,?_⟩;refine rW (C'.gates.map oY) (uS C S b r a K1 K2 J Q (G (gl i)) (.v (.k Y)) (.v (nD C' p')) F M .n .n .n .n .n) (λΨ h=>⟨rfl,_,rfl,_,rfl,h⟩) (λj c=>∃ Q F M,c=uS C S b r a K1 K2 J Q (G (gl i++(C'.gates.take j).map (sF f))) (.v (.k Y)) (.v (nD C' p')) F M .n .n .n .n .n) ⟨Q,F,M,by rw[List.take_zero,kM,cO]⟩ ?_ ?_
   .rintro j x c hx ⟨Q,F,M,rfl⟩;obtain⟨g,hg,rfl⟩:=wG hx;have gm:=aK hg;have hj:=(aP.mp hg).1;obtain⟨r1,r2⟩:=gc.gt.at hg;have hs:∀ p∈g.2.2,p∈C'.names:=λp q=>by
     rcases aW.mp (r2 p q) with z | z
     .exact aL _ z
     .obtain⟨y,hy,rfl⟩:=aO.mp z;exact aX _ (bQ (List.mem_of_mem_take hy))
    have l3:=Rb r1;refine⟨rfl,rfl,rfl,rfl,.str (f g.1),by show some (nR Y (Sum.inr g.1))=_;rw[hv g.1 (aX _ (bQ gm))],?_⟩;refine Xt (i:=10) (d:=.str g.2.1) rfl ?_;unfold dC aC;refine qH g.2.2 D.str (λx=>D.str (f x)) (uS C S b r a K1 K2 J (.v (.str g.1)) (G (gl i++(C'.gates.take j).map (sF f))) (.v (.k Y)) (.v (nD C' p')) (.v (.str g.2.1)) (.v (.t (g.2.2.map D.str))) .n .n .n .n .n) (λΨ h=>h) (by omega) (λk x ys Nx e W X=>⟨rfl,.str (f x),by show some (nR Y (Sum.inr x))=_;rw[hv x (hs x (aK e))],W,X⟩) ?_;refine⟨by show 3<=1000;decide,?_,.v (.str g.1),.v (.str g.2.1),.v (.t (g.2.2.map D.str)),?_⟩
    .show (List.map oY _).length<100000;rw[aA,aE,aA,cW];omega
    .have e2:(gl i++(C'.gates.take (j+1)).map (sF f)).map oY=(gl i++(C'.gates.take j).map (sF f)).map oY++[D.t [.str (f g.1),.str g.2.1,.t (g.2.2.map λx=>D.str (f x))]]:=by
      rw[cH,hg,aT (f:=sF f),<- bM,aT (f:=oY) (l₁:=gl i++(C'.gates.take j).map (sF f))]
      congr 1
      show [oY (sF f g)]=_;unfold oY sF;dsimp only;rw[aU];rfl
     show _=uS C S b r a K1 K2 J _ (.o (.l ((gl i++(C'.gates.take (j+1)).map (sF f)).map oY))) _ _ _ _ _ _ _ _ _;rw[e2];rfl
   .rintro c ⟨Q,F,M,rfl⟩;rw[aA,cY];exact⟨_,_,_,_,_,by rw[eg]⟩
  .rintro c ⟨Q,s8,s9,F,M,rfl⟩;refine R _ ⟨Q,s8,s9,F,M,?_⟩;have:gl (L.map eL).length=C.gates.map (sF fA)++b.gates.map (sF (nZ a)):=by
    rw[aA];show (L.take L.length).flatMap _=_;rw[cY];simp[L]
   rw[this]
 rintro _ ⟨Q,s8,s9,F,M,rfl⟩;let g:Sl:=G (C.gates.map (sF fA)++b.gates.map (sF (nZ a)));let tk:Aa Af:=a.map (·.2);let gn:Aa Af:=a.map (·.1);have aa:(a.map λp=>D.str p.1)=(a.map (·.1)).map D.str:=by rw[aU];rfl
 have ab:(a.map λp=>D.str p.2)=(a.map (·.2)).map D.str:=by rw[aU];rfl
 let FO:Aa Af:=C.outs.filter λx=>!decide (x∈a.map (·.1))
 refine nJ (λc=>c=uS C S b r a K1 K2 J Q g s8 s9 F M (.o (.l (tk.map D.str))) .n .n .n .n) (λN R=>?_) ?_
 .unfold rQ;refine qH a rJ (λp=>D.str p.2) _ (λΨ h=>h) (by omega) (λi p ys Nx e W X=>⟨rfl,rfl,W,X⟩) (R _ ?_);rw[ab];rfl
 rintro _ rfl;refine nJ (λc=>c=uS C S b r a K1 K2 J Q g s8 s9 F M (.o (.l (tk.map D.str))) (.o (.l (gn.map D.str))) .n .n .n) (λN R=>?_) ?_
 .unfold rQ;refine qH a rJ (λp=>D.str p.1) _ (λΨ h=>h) (by omega) (λi p ys Nx e W X=>⟨rfl,rfl,W,X⟩) (R _ ?_);rw[aa];rfl
 rintro _ rfl;let T1:Sl:=.o (.l (tk.map D.str));let T2:Sl:=.o (.l (gn.map D.str));let B (ah ai aj:Sl):Aa Sl:=uS C S b r a K1 K2 J Q g s8 s9 F M T1 T2 ah ai aj;refine nJ (λc=>c=B (.o (.l ((C.ins.map fA).map D.str))) .n .n) (λN R=>?_) ?_
 .unfold rQ;refine qH C.ins D.str (λx=>D.str (fA x)) (B .n .n .n) (λΨ h=>⟨rfl,_,rfl,_,rfl,h⟩) (by omega) (λi x ys Nx e W X=>⟨rfl,.str (fA x),by show some (nR Z (Sum.inr x))=_;rw[v1 x (aL _ (aK e))],W,X⟩) (R _ ?_);rw[aU];rfl
 rintro _ rfl;refine nJ (λc=>c=B (.o (.l ((jC C b a).ins.map D.str))) .n .n) (λN R=>?_) ?_
 .refine⟨rfl,?_⟩;refine wM b.ins D.str (λx=>D.str (nZ a x)) (λx=>!decide (x∈tk)) (B (.o (.l ((C.ins.map fA).map D.str))) .n .n) (λΨ h=>⟨rfl,_,rfl,_,rfl,h⟩) (by omega) (λi x ys Nx e W X q3=>?_) ?_
  .refine⟨.str x,tk.map V.str,rfl,vN _,?_⟩;rw[uU];show if (!decide (x∈tk))=true then _ else _
   by_cases q:x∈tk
   .exact qL (by rw[bC q];rfl) (q3 (by rw[bC q];rfl))
   .exact qS (by rw[aY q];rfl) ⟨rfl,.str (nZ a x),by show some (nR U (Sum.inr x))=_;rw[v2 x (aL _ (aK e))],W,X (by rw[aY q];rfl)⟩
  refine⟨by simp only[aA];exact bS (iX (bK _ _) _) (by omega),R _ ?_⟩;rw[T0,aT,aU (g:=D.str) (f:=nZ a)];rfl
 rintro _ rfl;let I:Sl:=.o (.l ((jC C b a).ins.map D.str));refine nJ (λc=>c=B I (.o (.l ((FO.map fA).map D.str))) .n) (λN R=>?_) ?_
 .unfold rQ;refine wM C.outs D.str (λx=>D.str (fA x)) (λx=>!decide (x∈gn)) (B I .n .n) (λΨ h=>⟨rfl,_,rfl,_,rfl,h⟩) (by omega) (λi x ys Nx e W X q3=>?_) (R _ ?_)
  .refine⟨.str x,gn.map V.str,rfl,vN _,?_⟩;rw[uU];show if (!decide (x∈gn))=true then _ else _
   by_cases q:x∈gn
   .exact qL (by rw[bC q];rfl) (q3 (by rw[bC q];rfl))
   .exact qS (by rw[aY q];rfl) ⟨rfl,.str (fA x),by show some (nR Z (Sum.inr x))=_;rw[v1 x (h1.gc.os x (aK e))],W,X (by rw[aY q];rfl)⟩
  rw[aU];rfl
 rintro _ rfl;refine nJ (λc=>c=B I (.o (.l ((jC C b a).outs.map D.str))) .n) (λN R=>?_) ?_
 .refine⟨rfl,?_⟩;refine qH b.outs D.str (λx=>D.str (nZ a x)) (B I (.o (.l ((FO.map fA).map D.str))) .n) (λΨ h=>⟨rfl,_,rfl,_,rfl,h⟩) (by omega) (λi x ys Nx e W X=>⟨rfl,.str (nZ a x),by show some (nR U (Sum.inr x))=_;rw[v2 x (h2.gc.os x (aK e))],W,X⟩) ?_;have lf:FO.length<=C.outs.length:=bK ..;refine⟨by simp only[aA];omega,R _ ?_⟩;rw[Wb,aT,aU (g:=D.str) (f:=nZ a)];rfl
 rintro _ rfl;let O:Sl:=.o (.l ((jC C b a).outs.map D.str));refine nJ (λc=>c=B I O (.o (.l ((sM fA S).map rJ)))) (λN R=>?_) ?_
 .unfold rQ;refine qH S rJ (λp=>D.t [.str (fA p.1),.str (fA p.2)]) (B I O .n) (λΨ h=>⟨rfl,_,rfl,h⟩) (by omega) (λi p ys Nx e W X=>?_) (R _ ?_)
  .have pm:=h1.m p (aK e);exact⟨rfl,rfl,rfl,.str (fA p.1),by show some (nR Z (Sum.inr p.1))=_;rw[v1 _ (h1.gc.os _ pm.1)],rfl,.str (fA p.2),by show some (nR Z (Sum.inr p.2))=_;rw[v1 _ (aL _ pm.2)],by show 2<=1000;decide,W,X⟩
  .unfold sM;rw[List.map_map];rfl
 rintro _ rfl;refine nJ (λc=>c=B I O (.o (.l ((jP S r a).map rJ)))) (λN R=>?_) ?_
 .refine⟨rfl,?_⟩;refine qH r rJ (λp=>D.t [.str (nZ a p.1),.str (nZ a p.2)]) (B I O (.o (.l ((sM fA S).map rJ)))) (λΨ h=>⟨rfl,_,rfl,h⟩) (by omega) (λi p ys Nx e W X=>?_) ?_
  .have pm:=h2.m p (aK e);exact⟨rfl,rfl,rfl,.str (nZ a p.1),by show some (nR U (Sum.inr p.1))=_;rw[v2 _ (h2.gc.os _ pm.1)],rfl,.str (nZ a p.2),by show some (nR U (Sum.inr p.2))=_;rw[v2 _ (aL _ pm.2)],by show 2<=1000;decide,W,X⟩
  have l1:((sM fA S).map rJ).length=S.length:=by unfold sM;rw[List.length_map,List.length_map]
  refine⟨by rw[l1,aA];omega,R _ ?_⟩;show _=B I O (.o (.l ((sM fA S++sM (nZ a) r).map rJ)));rw[aT];have:(sM (nZ a) r).map rJ=r.map λp=>D.t [.str (nZ a p.1),.str (nZ a p.2)]:=by unfold sM;rw[List.map_map];rfl
  rw[this];rfl
 rintro _ rfl;exact⟨rfl,by show 3<=1000;decide,by show 2<=1000;decide,ac⟩
end
theorem KP:(["gate"]:Aa Af).Nodup:=by decide +kernel
theorem ED:(["name"]:Aa Af).Nodup:=by decide +kernel
def P9:RD:=λh ds f=>∃ C d c e a,ds=[nD C d,nD c e,.t (a.map rJ)]/\RG C d/\RG c e/\PrsOk (oR C d) (oZ c e) a/\a.length<=40/\∀ b,(b=true↔¬ Fits (jC C c a) (jP d e a))->f (.v (.b b))
theorem EQ (a b:Bool) (j:Aa Sl) (r:∀ g:Bool->Aa Sl->Prop,g a l->t o l g) (C:∀ g:Bool->Aa Sl->Prop,g b j->u o l g) (I:a=true->p true l) (J:a=false->p b j):Fm t u o l p:=by
 unfold Fm;refine r _ ?_;cases a
 .exact C _ (J rfl)
 .exact I rfl
theorem Lo (a b:Bool) (o:∀ g:Sl->Aa Sl->Prop,g (.v (.b a)) j->t l j g) (p:∀ g:Sl->Aa Sl->Prop,g (.v (.b b)) j->u l j g) (k:r (.v (.b (a||b))) j):L5 t u l j r:=by
 unfold L5;refine o _ ?_;cases a
 .exact p _ k
 .exact k
section
variable {P:Ah}{K:nH}
theorem Mb:FnScope ["one","other","pairs","row","names"] ["one","other","pairs"] (oC Gh):=pK
theorem DI (T:Txt mg) (j:Kn P w K mg base 1 "_law_due_row" G0 ["one","other","pairs"] Rj):qX P w K mg base 2 "_law_great" Gh ["one","other","pairs"] P9:=by
 refine rS Mb λf aa A Z s H E dk ds Φ U c hR=>?_
 obtain⟨C,R,k,S,d,rfl,M,G,pk,lp,L⟩:=hR;refine⟨_,(nY (oB 3 Mb.nd (pM j U (dK (eH 0) (dK (eH 1) (dK (eH 2) gV))))) (nY (oB 4 Mb.nd (nV oE oF (pI xP xB T.list cU (dK (oK c (nI c 3 gD) gD) gV)) (qF ["gate"] [] [] (oS (oK c (nI c 3 gD) gD)) (λ_ _ _ _ _=>(nU 0 KP)) (λ_ _ _ _ _=>(nI c 0 gD))))) (nY (wF (As (C8 (zK (GY c) (vQ false) qM (pv 4)) (Eu (sY (Mq U.units) (B7 true) (qF ["name"] [] [] (oS (eH 4)) (λ_ _ _ _ _=>(nU 0 ED)) (λ_ _ _ _ _=>(eH 0)) (ht:=λ_ _ _ _ _=>(xJ (sY xI wZ (rK sQ sU T.len cR (dK (eH 0) gV)) gD)))) (uR gV))))) (oN (pT Sr)) tN) (oN (pT (Kx (Fg xI wZ (rK sQ sU T.len cR (dK (oK c (nI c 3 gD) gD) gV)) gD) (Kx (Fg xI wZ (rK sQ sU T.len cR (dK (oK c (nI c 3 gD) gD) gV)) gD) (Kx (Fg xI wZ (rK sQ sU T.len cR (dK (oK c (nI c 3 gD) gD) gV)) gD) (Uz (Fg xI wZ (rK sQ sU T.len cR (dK (nI c 3 gD) gV)) gD)))))))))),?_⟩;let b:Aa Sl:=[.v (nD C R),.v (nD k S),.v (.t (d.map rJ))];refine nJ (λW=>W=b++[.v (nD (jC C k d) (jP R S d)),.n]) (λN O=>⟨C,R,k,S,d,rfl,M,G,pk,lp,.inl rfl,O _ rfl⟩) ?_;rintro _ rfl;have jl:(jC C k d).ins.length<=80/\(jC C k d).gates.length<=80/\(jC C k d).outs.length<=80/\(jP R S d).length<=80:=by
  have a1:=M.gc.li;have a2:=M.gc.lg;have a3:=M.gc.lo;have c1:=G.gc.li;have c2:=G.gc.lg;have c3:=G.gc.lo;have d1:=M.lp;have d2:=G.lp;refine⟨by rw[T0,aE,aA,aA];exact bS (iX (bK _ _) _) (by omega),?_,by rw[Wb,aE,aA,aA];exact bS (Nat.add_le_add_right (bK _ _) _) (by omega),?_⟩
  .show ((uA fA C).gates++(uA (nZ d) k).gates).length<=80;unfold uA;rw[List.length_append,List.length_map,List.length_map];omega
  .unfold jP sM;rw[List.length_append,List.length_map,List.length_map];omega
 have jz:∀ x∈(jC C k d).names,x.length<=1000:=λx Q=>by
  have pin:∀ p∈d,p.2∈k.ins:=λp hp=>(bR.mp (pk.m p hp).2).1
  rcases No G.gc.nd pin Q with⟨y,Y,rfl⟩ | ⟨y,Y,_,rfl⟩
  .have:=(M.az y Y).hi;rw[HF];omega
  .have:=(G.az y Y).hi;rw[FQ];omega
 generalize jC C k d=J at *;generalize jP R S d=X at *;obtain⟨l1,l2,l3,l4⟩:=jl;have lN:J.names.length<=160:=by unfold Cel.names;rw[List.length_append,List.length_map];omega
 refine nJ (λW=>W=b++[.v (nD J X),.o (.l (J.names.map D.str))]) (λN O=>?_) ?_
 .refine⟨rfl,_,rfl,_,rfl,_,rfl,?_⟩;refine qH J.gates oY (λg=>D.str g.1) _ (λu h=>⟨rfl,_,rfl,_,rfl,h⟩) (by omega) (λi x ys Nx e r I=>⟨rfl,_,rfl,r,I⟩) ?_;refine⟨by simp;omega,O _ ?_⟩;unfold Cel.names;rw[List.map_append,List.map_map];rfl
 rintro _ rfl;let F:Aa Af:=J.names.filter λx=>decide ((x.length:Int)>8)
 have ab:F.length<=J.names.length:=bK ..;refine nJ (λW=>(("and" : Af)∉J.names/\F=[])/\∃ s,W=b++[.v (nD J X),s]) (λN O=>?_) ?_
 .refine EQ (decide (("and" : Af)∈J.names)) (decide (F≠[])) (b++[.v (nD J X),.v (.l (J.names.map D.str))]) (λu h=>?_) (λu h=>?_) (λz=>?_) (λz=>?_)
  .refine⟨.str "and",J.names.map V.str,rfl,vN _,?_⟩;rw[uU];exact h
  .unfold Es d2;refine wM J.names D.str D.str (λx=>decide ((x.length:Int)>8)) _ (λu h=>h) (by omega) (λi x ys Nx e r I q3=>?_) ?_
   .refine⟨bC (by have:=jz x (aK e);omega),_,rfl,?_⟩;by_cases q:(x.length:Int)>8
    .exact qS (bC q) ⟨r,I (bC q)⟩
    .exact qL (aY q) (q3 (aY q))
   .refine⟨by show 0<=1000;decide,?_⟩;have:nb true (F.map D.str).isEmpty=decide (F≠[]):=by cases F<;>rfl
    show u (nb true (F.map D.str).isEmpty) _;rw[this];exact h
  .refine qS rfl (L true ⟨λ_ B=>B.n (fU z),λ_=>rfl⟩)
  .by_cases q:F=[]
   .exact qL (by simp[q]) (O _ ⟨⟨of_decide_eq_false z,q⟩,_,rfl⟩)
   .refine qS (bC q) (L true ⟨λ_ B=>q (List.filter_eq_nil_iff.mpr λx Q=>?_),λ_=>rfl⟩);have:=B.l x Q;rw[aY (by omega)];decide
 rintro _ ⟨⟨n1,n2⟩,s,rfl⟩;have nl:∀ x∈J.names,x.length<=8:=λx Q=>by
  have:=List.filter_eq_nil_iff.mp n2 x Q;simp at this;omega
 unfold xA;refine Lo (decide (((J.ins.map D.str).length:Int)>6)) (decide (((J.outs.map D.str).length:Int)>6)||(decide (((J.gates.map oY).length:Int)>24)||decide (((X.map rJ).length:Int)>4))) (λu h=>?_) (λu h=>?_) ?_
 .exact⟨rfl,_,rfl,_,rfl,rfl,_,rfl,h⟩
 .refine Lo _ _ (λu h=>⟨rfl,_,rfl,_,rfl,rfl,_,rfl,h⟩) (λu h=>Lo _ _ (λu h=>⟨rfl,_,rfl,_,rfl,rfl,_,rfl,h⟩) (λu h=>⟨rfl,_,rfl,rfl,_,rfl,h⟩) h) h
 .refine L _ ?_;rw[aA,aA,aA,aA];constructor
  .intro z B;have a1:=B.i;have a2:=B.o;have a3:=B.g;have a4:=B.a;simp only[lU,eT] at z;omega
  .intro z;simp only[lU,eT];refine Decidable.byContradiction λq=>z ⟨?_,?_,?_,?_,nl,n1⟩<;>omega
end
def lz (k:Nat):Nat:=if k<23 then 97+k else 98+k
def zN (k:Nat):Af := "z" ++ (⟨#[lz k]⟩:Af)
def zG (i:Af) (n:Nat):Aa (Af×Af×Aa Af):=(List.range n).map λk=>(zN k,("not" : Af),[i])
def zC (C:Cel) (i:Af) (n:Nat):Cel:=⟨C.ins,C.gates++zG i n,C.outs⟩
def Kj:Af := "abcdefghijklmnopqrstuvwyz"
theorem MR {k:Nat}(h:k<25):pY Kj.cps.toList (k:Int)=some (lz k):=by
 have a:∀ k:Fin 25,Kj.cps.toList[k.val]?=some (lz k.val):=by decide +kernel
 exact pU (a ⟨k,h⟩)
def P6:RD:=λc ds b=>∃ (C:Cel) (a:Aa (Af×Af)) (n:Nat) (i:Af),ds=[nD C a,.int n]/\n<=25/\C.ins.head?=some i/\C.gates.length<=100/\b (.v (nD (zC C i n) a))
section
variable {P:Ah}{K:nH}
theorem Kz:FnScope ["row","many","gates","k"] ["row","many"] (oC G2):=pK
theorem II (T:Txt g):qX P w K g base 1 "_law_more_gates" G2 ["row","many"] P6:=by
 refine rS Kz λf t A q s H E D ds O L a x=>?_
 obtain⟨C,c,n,b,rfl,G,z,M,m⟩:=x;refine⟨_,(nY (oB 2 Kz.nd (pI xP xB T.list cU (dK (oK a (nI a 0 gD) gD) gV))) (nY (tU (zA (by rfl) T.range (eH 1)) (nU 3 Kz.nd) (oN (wJ (uW cM dX dY yZ An (pv 2) (dK (oW (dK (nV oE oF qM (oK a qM (eH 3))) (dK qM (dK (oW (dK (oK a (oK a (nI a 0 gD) gD) gD) gV)) gV)))) gV))))) (oN (pT (oW (dK (oW (dK (oK a (nI a 0 gD) gD) (dK (pI tY tJ T.tuple bU (vJ (pv 2) gV)) (dK (oK a (nI a 0 gD) gD) gV)))) (dK (nI a 0 gD) gV))))))),?_⟩;let st (j:Nat) (s:Sl):Aa Sl:=[.v (nD C c),.v (.int n),.o (.l ((C.gates++zG b j).map oY)),s];refine nJ (λd=>d=st 0 .n) (λN i=>⟨rfl,_,rfl,_,rfl,_,rfl,i _ ?_⟩) ?_
 .show _=[Sl.v (nD C c),.v (.int n),.o (.l ((C.gates++[]).map oY)),.n];rw[cO];rfl
 rintro _ rfl;refine nJ (λd=>∃ s,d=st n s) (λN i=>?_) ?_
 .refine rW (rL 0 n) (st 0 .n) (λQ h=>⟨by omega,by omega,h⟩) (λj d=>∃ s,d=st j s) ⟨_,rfl⟩ ?_ ?_
  .rintro j e d y ⟨s,rfl⟩;obtain⟨F,rfl⟩:=Bl y;have B:=MR (k:=j) (by omega);have u:zG b (j+1)=zG b j++[(zN j,("not" : Af),[b])]:=by unfold zG;rw[List.range_succ,List.map_append];rfl
   refine⟨rfl,by show Kj.length<=100000;decide +kernel,lz j,?_,by show 1+1<=100000;decide,rfl,_,rfl,_,rfl,.str b,?_,by show 1<=1000;decide,by show 3<=1000;decide,?_,.v (.int (0+(j:Int))),?_⟩
   .rw[show (0:Int)+(j:Int)=j by omega];exact B
   .refine pU (j:=0) ?_;rw[bH,<- List.head?_eq_getElem?,z];rfl
   .show (List.map oY _).length<100000;rw[aA,aE];unfold zG;rw[aA,eU];omega
   .show _=[Sl.v (nD C c),.v (.int n),.o (.l ((C.gates++zG b (j+1)).map oY)),.v (.int (0+(j:Int)))];rw[u,<- bM,aT (l₁:=C.gates++zG b j)];rfl
  .rintro d ⟨s,rfl⟩;exact i _ ⟨s,by simp[rL]⟩
 rintro _ ⟨s,rfl⟩;exact⟨rfl,_,rfl,_,rfl,rfl,rfl,_,rfl,_,rfl,by show 3<=1000;decide,rfl,_,rfl,by show 2<=1000;decide,m⟩
end
end Lw
namespace L2
open PySem PySem.Spec PyProof.Rows
section
variable {X:Cx}
theorem QX (g:PD X e o) (l:yG e=true:=by rfl):PD X (.Tuple [.Tuple [.Tuple [] x1 p1,.Tuple [.Tuple [.Constant (.str t) j q,e,.Tuple [] x2 p2] x3 p3] x4 p4,.Tuple [.Constant (.str t') j' q'] x5 p5] x6 p6,.Tuple [] x7 p7] x8 p8) (tD (aC (tD (aC (tD sJ) (aC (tD (aC (tD (aC (cd (.str t)) (aC o (aC (tD sJ) sJ)))) sJ)) (aC (tD (aC (cd (.str t')) sJ)) sJ)))) (aC (tD sJ) sJ))) :=
 oW (dK (oW (dK (oW gV) (dK (oW (dK (oW (dK qM (dK g (dK (oW gV) gV) l))) gV)) (dK (oW (dK qM gV)) gV)))) (dK (oW gV) gV))
theorem OK (o:X.A.units+1<cLine) (g:PD X e r) (l:Bb e:=by exact λ_ _=>rfl):PD X (.Subscript (.Tuple [.Constant (.str t) j q,.Constant (.str p) C T] U I) e J) (d2 Bo (tD (aC (cd (.str t)) (aC (cd (.str p)) sJ))) r) :=
 oK o (oW (dK qM (dK qM gV))) g l
theorem PX (o:X.A.units+1<cLine) (g:PD X e p) (l:Bb e:=by exact λ_ _=>rfl):PD X (.Subscript (.List [.Constant (.int n) j q,.Constant (.int m) r J] C) e I) (d2 Bo (Vx (aC (cd (.int n)) (aC (cd (.int m)) sJ))) p) :=
 oK o (uR (dK gD (dK gD gV))) g l
theorem Yj {i:Nat}{x:Af}{j pos g:Pos}{c v:Expr}{l:sW}{o:oG}{rest:Aa Stmt}{C:qK->Prop}(T:PD X v o) (p:X.N.Nodup) (J:X.N[i]?=some x) (U:wI X.env.scope x) (I:X.fn x=true) (r:uD X c l) (hw:swapsWith v (some (.Name x j)) pos.line X.env=pure false)
  (k:∃ u,sB X rest u/\C (zJ (B8 l (rQ i o) Jq) u)):∃ u,sB X (.If c [.Assign [.Name x j] v pos] [] g::rest) u/\C u:=by
 obtain⟨u,a,b⟩:=k;exact⟨_,nY (wF r (oN (oB i p T J U hw (.inl I))) tN) a,b⟩
theorem BC {i:Nat}{x:Af}{p' pos g:Pos}{c:Expr}{tc:sW}{rest:Aa Stmt}{C:qK->Prop}(hN:X.N.Nodup) (hi:X.N[i]?=some x) (hx:wI X.env.scope x) (hf:X.fn x=true) (hc:uD X c tc) (he:PD X e te) (hn:yG e=true)
  (k:∃ u,sB X rest u/\C (zJ (B8 tc (rQ i (tD (aC (tD (aC (tD sJ) (aC (tD (aC (tD (aC (cd (.str t)) (aC te (aC (tD sJ) sJ)))) sJ)) (aC (tD (aC (cd (.str l)) sJ)) sJ)))) (aC (tD sJ) sJ)))) Jq) u)) :
  ∃ u,sB X (.If c [.Assign [.Name x p'] (.Tuple [.Tuple [.Tuple [] x1 p,.Tuple [.Tuple [.Constant (.str t) j q,e,.Tuple [] x2 r] x3 I] x4 J,.Tuple [.Constant (.str l) o q'] x5 T] x6 U,.Tuple [] x7 p7] x8 p8) pos] [] g::rest) u/\C u:=by
 have a:=QX (X:=X) (t:=t) (t':=l) (j:=j) (j':=o) (q:=q) (q':=q') (x1:=x1) (x2:=x2) (x3:=x3) (x4:=x4) (x5:=x5) (x6:=x6) (x7:=x7) (x8:=x8) (p1:=p) (p2:=r) (p3:=I) (p4:=J) (p5:=T) (p6:=U) (p7:=p7) (p8:=p8) he hn;have hw:swapsWith (.Tuple [.Tuple [.Tuple [] x1 p,.Tuple [.Tuple [.Constant (.str t) j q,e,.Tuple [] x2 r] x3 I] x4 J,.Tuple [.Constant (.str l) o q'] x5 T] x6 U,.Tuple [] x7 p7] x8 p8) (some (.Name x p')) pos.line X.env=pure false:=rfl;revert a hw k;generalize (Expr.Tuple [.Tuple [.Tuple [] x1 p,.Tuple [.Tuple [.Constant (.str t) j q,e,.Tuple [] x2 r] x3 I] x4 J,.Tuple [.Constant (.str l) o q'] x5 T] x6 U,.Tuple [] x7 p7] x8 p8)=v;intro k a hw;exact Yj a hN hi hx hf hc hw k
end
end L2
namespace Lw
open PySem L2
theorem Nk (g:Aa Int) (i:Nat):AZ (oU g i):=by
 have b:∀ z:Nat,97<=97+z%26/\97+z%26<=122:=λz=>by have:=dU z (show 0<26 by decide);omega
 have m:∀ c∈(rM g).cps.toList,97<=c/\c<=122:=λc a=>by
  rw[show (rM g).cps.toList=[97+nK g 0%26] from rfl] at a;rw[aJ.mp a];exact b _
 have e:∀ c∈(Jt g i).cps.toList,97<=c/\c<=122:=λc a=>by
  rw[show (Jt g i).cps.toList=[97+(i+nK g 3)%26] from rfl] at a;rw[aJ.mp a];exact b _
 have f:∀ n:Nat,∀ c∈(Txt.mul (rM g) (n:Int)).cps.toList,97<=c/\c<=122:=λn c a=>by
  unfold rM at a;rw[Dz] at a;rw[(fK.mp a).2];exact b _
 have k:∀ c∈(qP g i).cps.toList,97<=c/\c<=122:=λc a=>by
  unfold qP at a;rw[rT,rT] at a;rcases aW.mp a with q | q
  .rcases aW.mp q with q | q
   .exact f _ c q
   .exact e c q
  .exact f _ c q
 have l:=FR g i;refine⟨λc a=>?_,l.1,by omega⟩;unfold oU at a;by_cases h:nK g 8%4=1
 .rw[aQ h] at a;exact e c a
 .rw[aG h,rT] at a;rcases aW.mp a with q | q
  .by_cases d:i%2=1/\(qP g i).length<7
   .rw[aQ d,rT] at q;rcases aW.mp q with q | q
    .exact k c q
    .exact m c q
   .rw[aG d] at q;exact k c q
  .rw[show ("x" : Af).cps.toList=[120] from rfl] at q;rw[aJ.mp q];decide
theorem Ud (g:Aa Int) (i:Nat):(oU g i).length=1\/(oU g i).cps.toList.getLast?=some 120:=by
 unfold oU;by_cases h:nK g 8%4=1
 .rw[aQ h];exact .inl rfl
 .rw[aG h,rT];refine .inr ?_;rw[show ("x" : Af).cps.toList=[120] from rfl,List.getLast?_append];rfl
theorem Dj (k:Nat):(zN k).cps.toList=[122,lz k]:=rT "z" ⟨#[lz k]⟩
theorem NV (h:k<25):AZ (zN k):=by
 refine⟨λc a=>?_,by rw[rN,Dj];show 1<=2;decide,by rw[rN,Dj];show 2<=100;decide⟩;rw[Dj] at a;rcases aM.mp a with q | q
 .omega
 .rw[aJ.mp q];unfold lz;split<;>omega
theorem U3:zN k≠oU g i:=λe=>by
 rcases Ud g i with h | h
 .rw[<- e,rN,Dj] at h;cases h
 .rw[<- e,Dj] at h;have h:lz k=120:=by simpa using h
  unfold lz at h;split at h<;>omega
theorem Z2 (e:zN j=zN k):j=k:=by
 have:=cA (λz:Af=>z.cps.toList) e;simp only[Dj,fY,and_true,true_and] at this;unfold lz at this;split at this<;>split at this<;>omega
structure Drn (ns:List Int) (C:Cel) (prs:List (Str×Str)):Prop where
 m:∃ m g:Nat,1<=m/\m<=6/\1<=g/\g<=6/\C.ins=(List.range m).map (oU ns)/\C.gates.map (·.1)=(List.range g).map λk=>oU ns (6+k)
 gc:GC C
 on:C.outs≠[]
 ol:C.outs.length<=4
 og:∀ o∈C.outs,o∈C.gates.map (·.1)
 al:Alg C prs
theorem Drn.word (h:Drn l C o) (j:x∈C.names):∃ i,x=oU l i:=by
 obtain⟨m,g,_,_,_,_,a,b⟩:=h.m;unfold Cel.names at j;rw[a,b] at j;rcases aW.mp j with q | q<;>obtain⟨i,_,rfl⟩:=aO.mp q
 .exact⟨i,rfl⟩
 .exact⟨_,rfl⟩
theorem Drn.rg (h:Drn j C g):RG C g :=
 ⟨h.gc,h.al.n1,h.al.n2,h.al.o,by have:=h.al.l;omega,λx a=>by obtain⟨i,rfl⟩:=h.word a;exact Nk j i⟩
theorem S7 {kn:Aa Af}:∀ (n:Nat) (g:Aa (Af×Af×Aa Af)),uY kn g->i∈kn->uY kn (g++zG i n)
 | 0,g,h,_=>by
  show uY kn (g++[]);rw[cO];exact h
 | n+1,g,h,a=>by
  have e:zG i (n+1)=zG i n++[(zN n,("not" : Af),[i])]:=by unfold zG;rw[List.range_succ,List.map_append];rfl
  rw[e,<- bM];refine uY.snoc (S7 n g h a) ⟨.inr (.inr (.inl ⟨rfl,rfl⟩))⟩ λp b=>?_
  rw[aJ.mp b];exact aL _ a
theorem Drn.more (h:Drn I C l) (p:C.ins.head?=some i) (r:n<=25):RG (zC C i n) l:=by
 have t:i∈C.ins:=List.mem_of_mem_head? p;have R:=h.rg;have z:C.gates.length<=6:=by
  obtain⟨m,g,_,_,_,w,_,e⟩:=h.m;have:=cA List.length e;rw[aA,aA,eU] at this;omega
 have f:(zG i n).map (·.1)=(List.range n).map zN:=by unfold zG;rw[List.map_map];rfl
 have d:(zC C i n).names=C.names++(List.range n).map zN:=by
  unfold zC Cel.names;dsimp only;rw[aT,f,bM]
 refine⟨⟨?_,S7 n _ h.gc.gt t,λo u=>?_,h.gc.ond,h.gc.li,?_,h.gc.lo⟩,R.n1,R.n2,R.m,R.lp,λx c=>?_⟩
 .rw[d,bW];refine⟨h.gc.nd,iP _ (λa b q e=>q (Z2 e)) mY,λx c y v e=>?_⟩;obtain⟨j,rfl⟩:=h.word c;obtain⟨k,_,rfl⟩:=aO.mp v;exact U3 e.symm
 .rw[d];exact aL _ (h.gc.os o u)
 .show (C.gates++zG i n).length<=40;unfold zG;rw[aE,aA,eU];omega
 .rw[d] at c;rcases aW.mp c with q | q
  .exact R.az x q
  .obtain⟨k,s,rfl⟩:=aO.mp q;exact NV (by have:=iY.mp s;omega)
def tC (w:Af):Cel:=⟨[],[("told",w,[])],["told"]⟩
theorem Zl {w:Af}(h:w = "one" \/ w = "nil"):RG (tC w) []:=by
 refine⟨⟨by show (["told"]:Aa Af).Nodup;simp,⟨?_,(λ_ h=>absurd h aR),True.intro⟩,λo b=>b,by show (["told"]:Aa Af).Nodup;simp,by show 0<=40;decide,by show 1<=40;decide,by show 1<=40;decide⟩,cE,cE,(λ_ h=>absurd h aR),by decide,λx a=>?_⟩
 .rcases h with rfl | rfl
  .exact⟨.inr (.inr (.inr (.inl ⟨rfl,rfl⟩)))⟩
  .exact⟨.inr (.inr (.inr (.inr ⟨rfl,rfl⟩)))⟩
 .have a:x∈(["told"]:Aa Af):=a;rw[aJ.mp a];exact⟨by decide +kernel,by decide +kernel,by decide +kernel⟩
theorem Drn.head (h:Drn l C j):∃ i,C.ins.head?=some i:=by
 obtain⟨m,g,a,_,_,_,e,_⟩:=h.m;rw[e];cases m with
 | zero=>omega
 | succ m=>rw[List.range_succ_eq_map];exact⟨_,rfl⟩
theorem Drn.gl (h:Drn l C j):C.gates.length<=6:=by
 obtain⟨m,g,_,_,_,a,_,e⟩:=h.m;have:=cA List.length e;rw[aA,aA,eU] at this;omega
def wW (g:Aa Int) (C:Cel):Prop:=oU g 20∉C.names/\oU g 21∉C.names
def A6 (C:Cel):Prop:=∀ o∈C.outs,o∈C.gates.map (·.1)
theorem Drn.strange (h:Drn o C p) (r:12<=j) (l:j<26):oU o j∉C.names:=λa=>by
 obtain⟨m,g,_,k,_,f,c,d⟩:=h.m;unfold Cel.names at a;rw[c,d] at a;rcases aW.mp a with q | q<;>obtain⟨i,b,e⟩:=aO.mp q<;>have b:=iY.mp b
 .have:=Ln (by omega) l e;omega
 .have:=Ln (by omega) l e;omega
theorem Drn.st2 (h:Drn g C j):wW g C:=⟨h.strange (by decide) (by decide),h.strange (by decide) (by decide)⟩
theorem Drn.more2 (h:Drn g C l) (i:Af) (n:Nat):wW g (zC C i n)/\A6 (zC C i n):=by
 have b:(zG i n).map (·.1)=(List.range n).map zN:=by unfold zG;rw[List.map_map];rfl
 have a:(zC C i n).names=C.names++(List.range n).map zN:=by
  unfold zC Cel.names;dsimp only;rw[aT,b,bM]
 have go:∀ j,oU g j∉C.names->oU g j∉(zC C i n).names:=λj c z=>by
  rw[a] at z;rcases aW.mp z with q | q
  .exact c q
  .obtain⟨k,_,e⟩:=aO.mp q;exact U3 e
 refine⟨⟨go _ h.st2.1,go _ h.st2.2⟩,λo d=>?_⟩;show o∈(C.gates++zG i n).map (·.1);rw[aT];exact aL _ (h.og o d)
theorem GO (g:Aa Int) (w:Af):wW g (tC w)/\A6 (tC w):=by
 have go:∀ j,oU g j∉(tC w).names:=λj z=>by
  have z:oU g j∈(["told"]:Aa Af):=z;have z:=aJ.mp z;rcases Ud g j with h | h
  .rw[z] at h;revert h;decide +kernel
  .rw[z] at h;revert h;decide +kernel
 exact⟨⟨go _,go _⟩,λo a=>a⟩
def Pk:RD:=λh ds f=>∃ a:Aa Int,ds=[.c (a.map D.int)]/\a.length<=63/\∀ C d b e,RG C d->RG b e->wW a C/\A6 C->wW a b->f (.v (.t [nD C d,nD b e]))
section
variable {P:Ah}{K:nH}
theorem B0:FnScope ["script","one","other","draw","many"] ["script"] (oC Go):=pK
theorem EH (T:Txt p) (o:Kn P w K p base 1 "_law_draw" xT ["script","k"] yV) (l:Kn P w K p base 5 "_law_row" I0 ["script","begin"] Wn) (j:Kn P w K p base 1 "_law_more_gates" G2 ["row","many"] P6):qX P w K p base 6 "_law_two_rows" Go ["script"] Pk:=by
 refine rS B0 λf ah A ag s H E dk ds Φ G L hR=>?_
 obtain⟨b,rfl,hl,af⟩:=hR;refine Jw (oB 1 B0.nd (pM l G (dK (eH 0) (dK gD gV)))) ?_;refine Jw (oB 2 B0.nd (pM l G (dK (eH 0) (dK gD gV)))) ?_;refine Jw (oB 3 B0.nd (pM o G (dK (eH 0) (dK gD gV)))) ?_;refine BC (i:=1) B0.nd rfl (Or.inl rfl) rfl (sY (Js G.units) (B7 false) (pH pQ pO 3 gD) gD) (OK L (nV pQ pO (pH zP zR 3 gD) gD)) rfl ?_;refine⟨_,(nY (wF (sY (Js G.units) (B7 false) (pH pQ pO 3 gD) gD) (nY (oB 4 B0.nd (nV Jn Gp (nV Jn Gp (PX L (nV pQ pO (pH zP zR 3 gD) gD)) (rK sQ sU T.len cR (dK (oK L (nI L 1 gD) gD) gV))) (rK sQ sU T.len cR (dK (oK L (nI L 2 gD) gD) gV)))) (oN (oB 1 B0.nd (pM j G (dK (eH 1) (dK (eH 4) gV)))))) tN) (oN (pT (oW (dK (eH 1) (dK (eH 2) gV)))))),?_⟩;refine nJ (λk=>∃ C e,Drn b C e/\k=[.v (.c (b.map D.int)),.v (nD C e),.n,.n,.n]) (λN d=>⟨b,0,by simp,hl,by omega,λm g C B R S V W X Y Z r I u x=>⟨.inl rfl,d _ ⟨C,B,⟨⟨m,g,R,S,V,W,X,Y⟩,Z,r,I,u,x⟩,rfl⟩⟩⟩) ?_;rintro _ ⟨C,e,O,rfl⟩;refine nJ (λk=>∃ h t,Drn b h t/\k=[.v (.c (b.map D.int)),.v (nD C e),.v (nD h t),.n,.n]) (λN d=>⟨b,100,by simp,hl,by omega,λm g C B R S V W X Y Z r I u x=>⟨.inl rfl,d _ ⟨C,B,⟨⟨m,g,R,S,V,W,X,Y⟩,Z,r,I,u,x⟩,rfl⟩⟩⟩) ?_;rintro _ ⟨h,t,y,rfl⟩;let a:Nat:=nK b 15;refine nJ (λk=>k=[.v (.c (b.map D.int)),.v (nD C e),.v (nD h t),.v (.int a),.n]) (λN d=>⟨b,15,by simp,hl,by omega,.inl rfl,d _ rfl⟩) ?_;rintro _ rfl;refine nJ (λk=>∃ C e,RG C e/\(wW b C/\A6 C)/\(a%8=2->Drn b C e)/\k=[.v (.c (b.map D.int)),.v (nD C e),.v (nD h t),.v (.int a),.n]) (λN d=>?_) ?_
 .refine⟨rfl,by show (0:Int)<8;decide,?_⟩;by_cases q:a%8=1
  .refine qS (bC (by omega)) ?_;have hm:a/8%2=0\/a/8%2=1:=by omega
   obtain⟨w,hw,ae⟩:∃ w:Af,pY [D.str "one",D.str "nil"] ((a:Int)/8%2)=some (.str w)/\(w = "one" \/ w = "nil"):=by
    rw[show (a:Int)/8%2=((a/8%2:Nat):Int) by omega];rcases hm with z | z<;>rw[z]
    .exact⟨"one",pU rfl,.inl rfl⟩
    .exact⟨"nil",pU rfl,.inr rfl⟩
   exact⟨by show 0<=1000;decide,by show 2<=1000;decide,rfl,by show (0:Int)<8/\(8:Int)<2 ^ 64;decide,by show (0:Int)<2;decide,_,hw,by show 0<=1000;decide,by show 3<=1000;decide,by show 1<=1000;decide,by show 1<=1000;decide,by show 3<=1000;decide,by show 0<=1000;decide,by show 2<=1000;decide,d _ ⟨tC w,[],Zl ae,GO b w,λz=>by omega,rfl⟩⟩
  .exact qL (aY (by omega)) (d _ ⟨C,e,O.rg,⟨O.st2,O.og⟩,λ_=>O,rfl⟩)
 rintro _ ⟨F,p',U,ab,J,rfl⟩;refine nJ (λk=>∃ C e s,RG C e/\(wW b C/\A6 C)/\k=[.v (.c (b.map D.int)),.v (nD C e),.v (nD h t),.v (.int a),s]) (λN d=>?_) ?_
 .refine⟨rfl,by show (0:Int)<8;decide,?_⟩;by_cases q:a%8=2
  .refine qS (bC (by omega)) ?_;have Q:=J q;have g1:=Q.gl;have g2:=y.gl;obtain⟨i0,M⟩:=Q.head;obtain⟨n,hn,hv⟩:∃ n:Nat,n<=25/\∃ v:Int,pY [D.int 24,D.int 25] ((a:Int)/8%2)=some (.int v)/\v-((F.gates.map oY).length:Int)-((h.gates.map oY).length:Int)=n:=by
    rw[aA,aA,show (a:Int)/8%2=((a/8%2:Nat):Int) by omega];have hm:a/8%2=0\/a/8%2=1:=by omega
    rcases hm with z | z<;>rw[z]
    .exact⟨24-F.gates.length-h.gates.length,by omega,24,pU rfl,by omega⟩
    .exact⟨25-F.gates.length-h.gates.length,by omega,25,pU rfl,by omega⟩
   obtain⟨v,hv,ev⟩:=hv;refine nJ (λk=>k=[.v (.c (b.map D.int)),.v (nD F p'),.v (nD h t),.v (.int a),.v (.int n)]) (λN d=>?_) ?_
   .refine⟨by show 2<=1000;decide,rfl,by show (0:Int)<8/\(8:Int)<2 ^ 64;decide,by show (0:Int)<2;decide,_,hv,rfl,_,rfl,_,rfl,rfl,_,rfl,rfl,_,rfl,_,rfl,rfl,_,rfl,d _ ?_⟩;rw[<- ev];rfl
   rintro _ rfl;exact⟨F,p',n,i0,rfl,hn,M,by omega,.inl rfl,d _ ⟨_,_,_,Q.more M hn,Q.more2 i0 n,rfl⟩⟩
  .exact qL (aY (by omega)) (d _ ⟨F,p',_,U,ab,rfl⟩)
 rintro _ ⟨C3,p3,s,aa,ac,rfl⟩;exact⟨by show 2<=1000;decide,af C3 p3 h t aa y.rg ac y.st2⟩
end
theorem Ya:(["name","carried"]:Aa Af).Nodup:=by decide +kernel
theorem LN:(["pair"]:Aa Af).Nodup:=by decide +kernel
structure EdOk (prs:List (Str×Str)) (ekv:pL):Prop where
 nd:(ekv.map (·.1)).Nodup
 ks:∀ q∈ekv,∃ x∈prs.map (·.2),q.1=Sum.inr x/\xM q.2
 al:∀ x∈prs.map (·.2),∃ d,nR ekv (Sum.inr x)=some d
 le:ekv.length<=100
structure WtOk (C:Cel) (prs:List (Str×Str)) (t:nQ):Prop where
 nd:(t.map (·.1)).Nodup
 ks:∀ x∈t.map (·.1),x∈C.ins\/x∈oR C prs\/x = ""
 le:t.length<=200
theorem Ux {g:Aa Af}{d:D}(h:d∈uB (g.map D.str)):∃ (n:Nat) (x:Af),g[n]?=some x/\d = .t [.int n,.str x]:=by
 obtain⟨n,b⟩:=iK.mp h;have a:=(aP.mp b).1;rw[By,aA] at a;have e:=Kl (xs:=g.map D.str) (i:=n) (d:=.str g[n]) (by rw[bH,aH a];rfl);rw[b] at e;exact⟨n,g[n],aH a,bV e⟩
theorem JC {g:Aa Af}{x:Af}(h:x∈g):∃ n:Nat,D.t [.int n,.str x]∈uB (g.map D.str):=by
 obtain⟨n,a⟩:=iK.mp h;exact⟨n,aK (Kl (xs:=g.map D.str) (by rw[bH,a];rfl))⟩
theorem Rm {j:Type} [DecidableEq j] {k:j}{d:D}{q:j×D}{g:Aa (j×D)}(h:q∈pZ g k d):q=(k,d)\/q∈g:=by
 unfold pZ at h;by_cases z:(g.any λb=>decide (b.1=k))=true
 .rw[aQ z] at h;obtain⟨p,a,rfl⟩:=aO.mp h;by_cases y:p.1=k
  .rw[aQ y,y];exact .inl rfl
  .rw[aG y];exact .inr a
 .rw[aG z] at h;rcases aW.mp h with h | h
  .exact .inr h
  .exact .inl (aJ.mp h)
theorem Vs {j:Type} [DecidableEq j] {g:Aa (j×D)}{k:j}{d:D}(h:(g.map (·.1)).Nodup):((pZ g k d).map (·.1)).Nodup:=by
 rw[JE];by_cases z:k∈g.map (·.1)
 .rw[aQ z];exact h
 .rw[aG z,bW];exact⟨h,bP.mpr ⟨aR,cE⟩,λa c b f e=>z (by rw[<- aJ.mp f,<- e];exact c)⟩
def Qb:F0:=λh ds f i=>∃ (e:Aa Int) (a:Nat) (C:Cel) (b:Aa (Af×Af)),ds=[.c (e.map D.int),.int a,nD C b]/\e.length<=63/\a<=400/\RG C b/\∀ d t,EdOk b d->WtOk C b t->t.length<=101->f d (hI t)
section
variable {P:Ah}{K:nH}
theorem xQ:FnScope ["script","at","row","edges","k","name","weights","carried","names","draw","great"] ["script","at","row"] (oC F7):=pK
theorem OB (F:Fun K "_law_claim" "_law_claim" F7 f fd) (T:Txt mg) (g:Gd K mg "_law_draw" xT ["script","k"] fD ac) (r:Gd K mg "_law_carried" Ev ["row"] fL ae) (I:FnOk P w K mg base oM 1 fD ac ["script","k"] (pF K yV)) (J:FnOk P w K mg base oM 1 fL ae ["row"] (pF K B2)):FnOk P w K mg base (oQ P w) 2 f fd ["script","at","row"] (Cu K Qb):=by
 refine Fun.okXP (k:=1) 3 F xQ (λdk ds Φ Ξ ⟨_,_,_,_,e,_⟩=>by rw[e];rfl) λai A ah s H E dk ds Φ Ξ hr hR=>?_
 have W:=tW hr;obtain⟨L,a,C,B,rfl,ln,ha,h1,ag⟩:=hR;have a1:=h1.gc.li;have a3:=h1.gc.lo;have q1:=h1.lp;refine⟨_,_,(uL (sE (oB 3 xQ.nd Ii)) (uL (sE (tU (hp:=jN) (oS (Xv (Y3 T.list T.enumerate (pS J (hr.mono (by decide)) (by rfl) r.m r.k r.b (dK (eH 2) gV))) (oK W (uR (dK gD (dK (Bq gD) gV))) (nV pQ pO (pS I (hr.mono (by decide)) (by rfl) g.m g.k g.b (dK (eH 0) (dK (pH oE oF 1 gD) gV))) gD)))) (rZ (n:=2) rfl (oX (nU 4 xQ.nd) (oX (nU 5 xQ.nd) rY))) (oN (yJ (n:=3) W (oK W (uR (dK gD (dK gD (dK Mh (dK Mh gV))))) (nV pQ pO (pS I (hr.mono (by decide)) (by rfl) g.m g.k g.b (dK (eH 0) (dK (pH oE oF 1 (eH 4)) gV))) gD)) (pv 3) (eH 5))))) (uL (sE (oB 6 xQ.nd Ii)) (uL (sE (oB 7 xQ.nd (qF ["pair"] [] [] (oS (nI W 2 gD)) (λ_ _ _ _ _=>(nU 0 LN)) (λ_ _ _ _ _=>(nI W 0 gD))))) (uL (sE (oB 8 xQ.nd (nV oE oF (nV oE oF (pI xP xB T.list cU (dK (oK W (nI W 2 gD) gD) gV)) (qF ["name"] ["carried"] [7] (oS (oK W (nI W 2 gD) gD)) (λ_ _ _ _ _=>(nU 0 Ya)) (λ_ _ _ _ _=>(eH 0)) (ht:=λ_ _ _ _ _=>(xJ (zK (wS W) (vQ true) (eH 0) (pv 1)))))) (uR (dK qM gV))))) (uL (sE (tU (hp:=jN) (DR (by rfl) T.enumerate (eH 8)) (rZ (n:=2) rfl (oX (nU 4 xQ.nd) (oX (nU 5 xQ.nd) rY))) (nY (oB 9 xQ.nd (pS I (hr.mono (by decide)) (by rfl) g.m g.k g.b (dK (eH 0) (dK (nV oE oF (pH oE oF 1 gD) (eH 4)) gV)))) (oN (wF (sY xI wZ (pH pQ pO 9 gD) gD) (nY (oB 10 xQ.nd (nV pQ pO (pH zP zR 9 gD) (nV Kv Kq gD gD))) (oN (yJ (n:=6) W (oK W (uR (dK gD (dK gD (dK (Bq gD) (dK gD (dK (Bq gD) (dK (eH 10) (dK (Bq (eH 10)) (dK gD gV))))))))) (nV pQ pO (pH zP zR 9 gD) gD)) (pv 6) (eH 5)))) tN))))) (P8 (sV (wT (zU (oH (pv 3) (oH (K4 6 (pv 6)) qN)))))))))))),?_⟩;let b:Aa Sl:=[.v (.c (L.map D.int)),.v (.int a),.v (nD C B)];refine nJ (λG=>G=b++[.o (.k []),.n,.n,.n,.n,.n,.n,.n]) (λN S=>S _ rfl) ?_;rintro _ rfl;refine nJ (λG=>∃ u M O,EdOk B u/\G=b++[.o (.k u),M,O,.n,.n,.n,.n,.n]) (λN S=>?_) ?_
 .let xs:Aa Af:=B.map (·.2);have lx:xs.length<=40:=by show (B.map (·.2)).length<=40;rw[aA];exact q1
  have ex:B.map (λp=>D.str p.2)=xs.map D.str:=by rw[aU];rfl
  obtain⟨ds,aa,ab⟩:∃ ds:Aa D,(∀ d,d∈ds↔d∈uB (xs.map D.str))/\(nK L (a+4)%2=0/\ds=uB (xs.map D.str)\/nK L (a+4)%2=1/\ds=(uB (xs.map D.str)).reverse):=by
   rcases (show nK L (a+4)%2=0\/nK L (a+4)%2=1 by omega) with z | z
   .exact⟨_,λ_=>Iff.rfl,.inl ⟨z,rfl⟩⟩
   .exact⟨_,λ_=>List.mem_reverse,.inr ⟨z,rfl⟩⟩
  have ld:ds.length<=40:=by
   rcases ab with⟨_,rfl⟩ | ⟨_,rfl⟩
   .rw[By,aA];exact lx
   .rw[List.length_reverse,By,aA];exact lx
  refine rW ds (b++[.o (.k []),.n,.n,.n,.n,.n,.n,.n]) (λΨ h=>?_) (λi G=>∃ u M O,(u.map (·.1)).Nodup/\(∀ q∈u,∃ x∈xs,q.1=Sum.inr x/\xM q.2)/\(∀ (j n:Nat) (x:Af),j<i->ds[j]?=some (.t [.int n,.str x])->∃ d,nR u (Sum.inr x)=some d)/\u.length<=i/\G=b++[.o (.k u),M,O,.n,.n,.n,.n,.n]) ⟨[],_,_,cE,(λ_ h=>absurd h aR),(λ_ _ _ h=>absurd h (Nat.not_lt_zero _)),bB _,rfl⟩ ?_ ?_
  .refine⟨C,B,rfl,by omega,.inl rfl,?_⟩;rw[ex];refine⟨by rw[aA];omega,by show 2<=1000;decide,rfl,L,a+4,by simp,ln,by omega,.inl rfl,by show (0:Int)<2;decide,?_⟩;rcases ab with⟨z,rfl⟩ | ⟨z,rfl⟩
   .exact⟨.int 1,by rw[show (nK L (a+4):Int)%2=((0:Nat):Int) by omega];exact pU rfl,.inl ⟨rfl,h⟩⟩
   .exact⟨.int (-1),by rw[show (nK L (a+4):Int)%2=((1:Nat):Int) by omega];exact pU rfl,.inr ⟨rfl,h⟩⟩
  .rintro i d G hd ⟨u,M,O,e1,Z,e3,e4,rfl⟩;obtain⟨n,x,U,rfl⟩:=Ux ((aa d).mp (aK hd));have hn:=(aP.mp U).1;have hi:=(aP.mp hd).1;obtain⟨v,hv,fv⟩:∃ v,pY [D.int 0,D.int 1,D.e,D.e] ((nK L (a+n):Int)%4)=some v/\xM v:=by
    rcases (show nK L (a+n)%4=0\/nK L (a+n)%4=1\/nK L (a+n)%4=2\/nK L (a+n)%4=3 by omega) with z | z | z | z
    .exact⟨.int 0,by rw[show (nK L (a+n):Int)%4=((0:Nat):Int) by omega];exact pU rfl,.inr ⟨_,rfl⟩⟩
    .exact⟨.int 1,by rw[show (nK L (a+n):Int)%4=((1:Nat):Int) by omega];exact pU rfl,.inr ⟨_,rfl⟩⟩
    .exact⟨.e,by rw[show (nK L (a+n):Int)%4=((2:Nat):Int) by omega];exact pU rfl,.inl rfl⟩
    .exact⟨.e,by rw[show (nK L (a+n):Int)%4=((3:Nat):Int) by omega];exact pU rfl,.inl rfl⟩
   refine⟨rfl,rfl,by show 4<=1000;decide,rfl,L,a+n,by simp,ln,by omega,.inl rfl,by show (0:Int)<4;decide,_,hv,rfl,_,C4 (by omega),_,_,_,Vs e1,λq hq=>?_,λj m y hj he=>?_,?_,rfl⟩
   .rcases Rm hq with z | z
    .rw[z];exact⟨x,aK U,rfl,fv⟩
    .exact Z q z
   .rw[A8];by_cases z:(Sum.inr x:hH)=Sum.inr y
    .rw[aQ z];exact⟨_,rfl⟩
    .rw[aG z];by_cases q:j<i
     .exact e3 j m y q he
     .obtain rfl:j=i:=by omega
      rw[hd] at he;cases he;exact absurd rfl z
   .have:=Db u (Sum.inr x:hH) v;omega
  .rintro G ⟨u,M,O,e1,Z,e3,e4,rfl⟩;refine S _ ⟨u,M,O,⟨e1,Z,λx U=>?_,by omega⟩,rfl⟩;obtain⟨n,hn⟩:=JC U;obtain⟨j,hj⟩:=iK.mp ((aa _).mpr hn);exact e3 j n x (aP.mp hj).1 hj
 rintro _ ⟨u,M,O,he,rfl⟩;refine nJ (λG=>G=b++[.o (.k u),M,O,.o (.k []),.n,.n,.n,.n]) (λN S=>S _ rfl) ?_;rintro _ rfl;refine nJ (λG=>G=b++[.o (.k u),M,O,.o (.k []),.o (.l ((B.map (·.1)).map D.str)),.n,.n,.n]) (λN S=>?_) ?_
 .unfold rQ;refine qH B rJ (λp=>D.str p.1) _ (λΨ h=>⟨rfl,_,rfl,h⟩) (by omega) (λi p ys Nx e k1 k2=>⟨rfl,_,rfl,k1,k2⟩) (S _ ?_);rw[aU];rfl
 rintro _ rfl;let Q:Aa Af:=C.ins++oR C B++[("" : Af)];have lw:(oR C B).length<=C.outs.length:=bK ..;have lN:Q.length<=101:=by show (C.ins++oR C B++[("" : Af)]).length<=101;rw[aE,aE];show _+_+1<=101;omega
 refine nJ (λG=>∃ s7,G=b++[.o (.k u),M,O,.o (.k []),s7,.o (.l (Q.map D.str)),.n,.n]) (λN S=>?_) ?_
 .refine⟨rfl,_,rfl,_,rfl,_,rfl,?_⟩;refine wM C.outs D.str D.str (λx=>!decide (x∈B.map (·.1))) (b++[.o (.k u),M,O,.o (.k []),.o (.l ((B.map (·.1)).map D.str)),.n,.n,.n]) (λΨ h=>⟨rfl,_,rfl,_,rfl,h⟩) (by omega) (λi x ys Nx e X k1 k2=>?_) ?_
  .refine⟨.str x,(B.map (·.1)).map V.str,rfl,vN _,?_⟩;rw[uU];by_cases y:x∈B.map (·.1)
   .exact qL (by rw[bC y];rfl) (k2 (by rw[bC y];rfl))
   .exact qS (by rw[aY y];rfl) ⟨X,k1 (by rw[aY y];rfl)⟩
  refine⟨by simp only[aA];exact bS (iX (bK _ _) _) (by omega),by show 1<=1000;decide,?_,S _ ⟨.o (.l ((B.map (·.1)).map D.str)),?_⟩⟩
  .simp only[aE,aA,cS,dL];exact bS (Nat.add_le_add_right (iX (bK _ _) _) _) (by omega)
  .show b++[_,_,_,_,_,.o (.l (C.ins.map D.str++(oR C B).map D.str++[D.str ""])),_,_]=_;simp only[Q,aT];rfl
 rintro _ ⟨s7,rfl⟩;refine nJ (λG=>∃ t M O s8 s9 R,WtOk C B t/\t.length<=101/\G=b++[.o (.k u),M,O,.o (.k (hI t)),s7,s8,s9,R]) (λN S=>?_) ?_
 .refine rW (uB (Q.map D.str)) (b++[.o (.k u),M,O,.o (.k []),s7,.v (.l (Q.map D.str)),.n,.n]) (λΨ h=>h) (λi G=>∃ t M O s9 R,(t.map (·.1)).Nodup/\(∀ x∈t.map (·.1),x∈Q)/\t.length<=i/\G=b++[.o (.k u),M,O,.o (.k (hI t)),s7,.v (.l (Q.map D.str)),s9,R]) ⟨[],_,_,_,_,cE,(λ_ h=>absurd h aR),bB _,rfl⟩ ?_ ?_
  .rintro i d G hd ⟨t,M,O,s9,R,e1,Z,e3,rfl⟩;obtain⟨n,x,U,rfl⟩:=Ux (aK hd);have hn:=(aP.mp U).1;have hi:=(aP.mp hd).1;rw[By,aA] at hi;refine⟨rfl,rfl,?_⟩;let Y:Nat:=nK L (a+6+n);refine nJ (λG=>G=b++[.o (.k u),.v (.int n),.v (.str x),.o (.k (hI t)),s7,.v (.l (Q.map D.str)),.v (.int Y),R]) (λN S=>⟨rfl,L,a+6+n,by simp,ln,by omega,.inl rfl,S _ rfl⟩) ?_;rintro _ rfl;refine⟨rfl,by show (0:Int)<4;decide,?_⟩;by_cases z:0<Y%4
   .refine qS (bC (by omega)) ?_;let gr:Int:=(Y:Int)/32%1000000000;refine nJ (λG=>G=b++[.o (.k u),.v (.int n),.v (.str x),.o (.k (hI t)),s7,.v (.l (Q.map D.str)),.v (.int Y),.v (.int gr)]) (λN S=>?_) ?_
    .refine⟨rfl,by show (0:Int)<32/\(32:Int)<2 ^ 64;decide,⟨by show (0:Int)<=9;decide,by show (9:Int)<=1000000;decide,by show (10:Int).natAbs<2 ^ 64;decide⟩,by show (0:Int)<10 ^ (9:Int).toNat;decide,S _ rfl⟩
    rintro _ rfl;obtain⟨v,hv⟩:∃ v:Int,pY [D.int 0,D.int 1,D.int (-1),D.int 2,D.int (-3),D.int gr,D.int (-gr),D.int 5] ((Y:Int)/4%8)=some (.int v):=by
     have h8:Y/4%8<8:=dU _ (by decide);rw[show (Y:Int)/4%8=((Y/4%8:Nat):Int) by omega];generalize Y/4%8=m at h8;have:m=0\/m=1\/m=2\/m=3\/m=4\/m=5\/m=6\/m=7:=by omega
     rcases this with rfl | rfl | rfl | rfl | rfl | rfl | rfl | rfl<;>exact⟨_,pU rfl⟩
    refine⟨by show 8<=1000;decide,rfl,by show (0:Int)<4/\(4:Int)<2 ^ 64;decide,by show (0:Int)<8;decide,_,hv,rfl,_,G5 (by omega),pV t x v,_,_,_,_,Dr e1 x v,λy X=>?_,?_,rfl⟩
    .rw[Cf] at X;by_cases q:x∈t.map (·.1)
     .rw[aQ q] at X;exact Z y X
     .rw[aG q] at X;rcases aW.mp X with X | X
      .exact Z y X
      .rw[aJ.mp X];exact aK U
    .have:=Cn t x v;omega
   .exact qL (aY (by omega)) ⟨t,_,_,_,_,e1,Z,by omega,rfl⟩
  .rintro G ⟨t,M,O,s9,R,e1,Z,e3,rfl⟩;rw[By,aA] at e3;refine S _ ⟨t,M,O,_,s9,R,⟨e1,λx U=>?_,by omega⟩,by omega,rfl⟩;have:=Z x U;rcases aW.mp this with z | z
   .rcases aW.mp z with z | z
    .exact .inl z
    .exact .inr (.inl z)
   .exact .inr (.inr (aJ.mp z))
 rintro _ ⟨t,M,O,s8,s9,R,ht,af,rfl⟩;exact⟨_,rfl,_,rfl,rfl,ag _ _ he ht af⟩
end
end Lw
namespace L2
open PySem PySem.Spec PyProof.Rows Lw
def tZ (t:nQ) (x:Af):nQ:=t.filter λp=>decide (p.1≠x)
theorem BP (t:nQ) (x:Af):Bu (vT t) (Sum.inr x)=vT (tZ t x):=by
 induction t with
 | nil=>rfl
 | cons p t a =>
  have b:vT (p::t)=(Sum.inr p.1,V.int p.2)::vT t:=rfl;rw[b];unfold Bu tZ;by_cases h:p.1=x
  .rw[gC (by simp[h]),gC (by simp[h])];exact a
  .have c:(Sum.inr p.1:hH)≠Sum.inr x:=λz=>h (eI z)
   rw[eX (by simpa using c),eX (by simp[h])];exact cA (((Sum.inr p.1:hH),V.int p.2)::·) a
theorem Yq:∀ {t:nQ}{x:Af},qA (vT t) (Sum.inr x:hH)=none->tZ t x=t:=λ{t x} h=>by
 induction t with
 | nil=>rfl
 | cons p t b =>
  have a:vT (p::t)=(Sum.inr p.1,V.int p.2)::vT t:=rfl;rw[a] at h;by_cases e:p.1=x
  .rw[vB (show (Sum.inr p.1:hH)=_ by rw[e])] at h;cases h
  .rw[uX (show ¬ (Sum.inr p.1:hH)=_ from λz=>e (eI z))] at h;unfold tZ;rw[eX (by simp[e])];exact cA (p::·) (b h)
theorem JH (t:nQ) (x:Af):(tZ t x).length<=t.length:=bK ..
theorem NT (h:(t.map (·.1)).Nodup):((tZ t x).map (·.1)).Nodup:=h.sublist (jW.map _)
theorem Dq (t:nQ):vT t=vK (hI t):=by
 unfold vT vK hI;rw[aU];rfl
def NY (i:Nat) (g:oG):oG:=λc b e=>(∃ d:nQ,b[i]?=some (.o (.k (hI d))))/\g c b λr a=>∃ (t:nQ) (y:Af),r = .v (.str y)/\a[i]?=some (.o (.k (hI t)))/\e (.v (.int (look t y))) (a.set i (.o (.k (hI (tZ t y)))))
section
variable {X:Cx}
theorem ID (p:PE X o (rC i)) (j:PD X e r) (l:PE X f (tC (.int 0))) (m:M2 X o "pop" apos e f g):PD X (.Call (.Attribute o "pop" apos) [e,f] [] g) (NY i r) :=
 (LV p j l m).mono λJ H Q w=>w.elim λB V T I F hd x k=>by
  obtain⟨⟨C,M⟩,x⟩:=x;obtain⟨b,E,S,_⟩:=hd.slotW F M;obtain⟨P,u,_,_⟩:=S;refine⟨.ref b,E,b,rfl,.inl ⟨_,.inl u⟩,B,V,T,_,F,hd,x,?_⟩;rintro _ W v Y A d1 ⟨t,y,rfl,N,d⟩;obtain rfl:v = .str y:=Rep.str_inv d1.valAt;have d2:=d1.drop;obtain⟨Z,n,D,G⟩:=d2.slotW A N;rw[E] at n;cases n;obtain⟨q,c,L,R⟩:=D;rw[Ue t q L R] at c;refine⟨vT t,Sum.inr y,c,rfl,λv a=>?_,λa=>?_⟩
  .have s:v = .int (look t y):=by
    rw[Dq,Fc] at a;by_cases z:y∈t.map (·.1)
    .rw[(sX t y).1 z] at a;cases a;rfl
    .rw[((sX t y).2 z).1] at a;cases a
   subst s;have h:=G (.k (vT (tZ t y))) (.k (hI (tZ t y))) λK O=>Qg oO
   rw[<- BP] at h;exact k _ _ _ _ (by rw[cB];exact A) (h.push (.int _)) d
  .have s:look t y=0:=by
    rw[Dq,Fc] at a;by_cases z:y∈t.map (·.1)
    .rw[(sX t y).1 z] at a;cases a
    .exact ((sX t y).2 z).2
   have h:=G (.k (vT t)) (.k (hI (tZ t y))) λK O=>by rw[Yq a];exact Qg oO
   rw[JR c] at h;rw[s] at d;exact k _ _ _ _ (by rw[cB];exact A) (h.push (.int _)) d
end
end L2
namespace Lw
open PySem L2
def Fz (g:pL) (C:Cel) (f:Af->Af):Prop:=nR g (Sum.inr "")=some (.str "")/\∀ x∈C.ins++C.outs,nR g (Sum.inr x)=some (.str (f x))
def Pu:RD:=λi ds h=>∃ C e c f d,ds=[nD C e,nD c f,.t (d.map λp=>D.t [.str p.1,.str p.2])]/\RG C e/\RG c f/\PrsOk (oR C e) (oZ c f) d/\d.length<=40/\∀ a b,Fz a C fA->Fz b c (nZ d)->h (.v (.t [.k a,.k b]))
theorem RG.ne (h:RG C j) (g:x∈C.ins++C.outs):x ≠ "" := λe=>by
 have a:x∈C.names:=by
  rcases aW.mp g with z | z
  .exact aL _ z
  .exact h.gc.os _ z
 have:=(h.az x a).lo;rw[e] at this;exact absurd this (by decide +kernel)
section
variable {P:Ah}{K:nH}
theorem A9:FnScope ["one","other","pairs","first","name","second","output"] ["one","other","pairs"] (oC Gq):=pK
theorem EN (F:Fun K "_law_renamed" "_law_renamed" Gq f fd) (T:Txt mg):FnOk P w K mg base oM 1 f fd ["one","other","pairs"] (pF K Pu):=by
 refine F.okD (k:=0) A9 (λdk ds Φ ⟨_,_,_,_,_,e,_⟩=>by rw[e];rfl) (by decide) λah A ag s H E dk ds Φ hr hR=>?_
 have R:=tW hr;obtain⟨C,p1,V,p2,W,rfl,Y,l,pk,lp,aa⟩:=hR;have a1:=Y.gc.li;have a3:=Y.gc.lo;have c1:=l.gc.li;have c3:=l.gc.lo;refine⟨_,(nY (oB 3 A9.nd (P4 qM qM)) (nY (tU (oS (nV oE oF (pI xP xB T.list cU (dK (oK R (nI R 0 gD) gD) gV)) (pI xP xB T.list cU (dK (oK R (nI R 0 gD) gD) gV)))) (nU 4 A9.nd) (oN (yJ (n:=3) R (nV oE oF qM (eH 4)) (pv 3) (eH 4)))) (nY (oB 5 A9.nd (P4 qM qM)) (nY (tU (oS (nV oE oF (pI xP xB T.list cU (dK (oK R (nI R 1 gD) gD) gV)) (pI xP xB T.list cU (dK (oK R (nI R 1 gD) gD) gV)))) (nU 4 A9.nd) (oN (yJ (n:=5) R (nV oE oF qM (eH 4)) (pv 5) (eH 4)))) (nY (tU (oS (eH 2)) (rZ (n:=2) rfl (oX (nU 6 A9.nd) (oX (nU 4 A9.nd) rY))) (oN (yJ (n:=5) R (nV oE oF qM (eH 6)) (pv 5) (eH 4)))) (oN (pT (oW (dK (eH 3) (dK (eH 5) gV)))))))))),?_⟩;let b:Aa Sl:=[.v (nD C p1),.v (nD V p2),.v (.t (W.map λp=>D.t [.str p.1,.str p.2]))];let X:pL:=[((Sum.inr "" : hH),D.str "")];refine nJ (λu=>u=b++[.o (.k X),.n,.n,.n]) (λN S=>⟨_,rfl,S _ rfl⟩) ?_;rintro _ rfl;let B (a:pL) (J:Aa Af) (g:Af->Af):Prop:=nR a (Sum.inr "")=some (.str "")/\∀ x∈J,nR a (Sum.inr x)=some (.str (g x));have put:∀ {a:pL} {J:Aa Af} {g:Af->Af} {x:Af},B a J g->x ≠ "" -> B (pZ a (Sum.inr x) (.str (g x))) (J++[x]) g:=λ{a J g x} h M=>by
  refine⟨?_,λy hy=>?_⟩
  .rw[A8,aG λe=>M (eI e)];exact h.1
  .rw[A8];by_cases z:(Sum.inr x:hH)=Sum.inr y
   .rw[aQ z,eI z]
   .rw[aG z];rcases aW.mp hy with w | w
    .exact h.2 y w
    .exact absurd (by rw[aJ.mp w]) z
 have r:∀ g,B X [] g:=λg=>⟨rfl,λ_ h=>absurd h aR⟩
 let Q:Aa Af:=C.ins++C.outs;let G:Aa Af:=V.ins++V.outs;have ai:Q.length<=80:=by show (C.ins++C.outs).length<=80;rw[aE];omega
 have aj:G.length<=80:=by show (V.ins++V.outs).length<=80;rw[aE];omega
 have ae:∀ x∈Q,x.length<=100:=λx M=>(Y.az x (by rcases aW.mp M with z | z;exact aL _ z;exact Y.gc.os _ z)).hi
 have af:∀ x∈G,x.length<=100:=λx M=>(l.az x (by rcases aW.mp M with z | z;exact aL _ z;exact l.gc.os _ z)).hi
 refine nJ (λu=>∃ a c,B a Q fA/\u=b++[.o (.k a),c,.n,.n]) (λN S=>?_) ?_
 .refine rW (Q.map D.str) (b++[.o (.k X),.n,.n,.n]) (λΨ h=>?_) (λi u=>∃ a c,B a (Q.take i) fA/\a.length<=i+1/\u=b++[.o (.k a),c,.n,.n]) ⟨X,_,r _,bB _,rfl⟩ ?_ ?_
  .refine⟨rfl,_,rfl,_,rfl,_,rfl,rfl,_,rfl,_,rfl,_,rfl,by simp only[aA];omega,?_⟩;rw[show Q.map D.str=C.ins.map D.str++C.outs.map D.str from aT] at h;exact h
  .rintro i d u hd ⟨a,c,L,j,rfl⟩;obtain⟨x,M,rfl⟩:=wG hd;have I:=aK M;have hi:=(aP.mp M).1;have lx:=ae x I;refine⟨by show 1+x.length<=100000;omega,rfl,_,C4 (by omega),_,_,?_,?_,rfl⟩
   .rw[cH,M];exact put L (Y.ne I)
   .have:=Db a (Sum.inr x:hH) (.str ("a" ++ x));omega
  .rintro u ⟨a,c,L,j,rfl⟩;rw[aA,cY] at L;exact S _ ⟨a,c,L,rfl⟩
 rintro _ ⟨O,c,n1,rfl⟩;refine nJ (λu=>u=b++[.o (.k O),c,.o (.k X),.n]) (λN S=>⟨_,rfl,S _ rfl⟩) ?_;rintro _ rfl;refine nJ (λu=>∃ a c,B a G (nZ [])/\a.length<=81/\u=b++[.o (.k O),c,.o (.k a),.n]) (λN S=>?_) ?_
 .refine rW (G.map D.str) (b++[.o (.k O),c,.o (.k X),.n]) (λΨ h=>?_) (λi u=>∃ a c,B a (G.take i) (nZ [])/\a.length<=i+1/\u=b++[.o (.k O),c,.o (.k a),.n]) ⟨X,_,r _,bB _,rfl⟩ ?_ ?_
  .refine⟨rfl,_,rfl,_,rfl,_,rfl,rfl,_,rfl,_,rfl,_,rfl,by simp only[aA];omega,?_⟩;rw[show G.map D.str=V.ins.map D.str++V.outs.map D.str from aT] at h;exact h
  .rintro i d u hd ⟨a,c,L,j,rfl⟩;obtain⟨x,M,rfl⟩:=wG hd;have I:=aK M;have hi:=(aP.mp M).1;have lx:=af x I;refine⟨by show 1+x.length<=100000;omega,rfl,_,C4 (by omega),_,_,?_,?_,rfl⟩
   .rw[cH,M];exact put L (l.ne I)
   .have:=Db a (Sum.inr x:hH) (.str ("b" ++ x));omega
  .rintro u ⟨a,c,L,j,rfl⟩;rw[aA] at L j;rw[cY] at L;exact S _ ⟨a,c,L,by omega,rfl⟩
 rintro _ ⟨ab,c,n0,l0,rfl⟩;refine nJ (λu=>∃ a c Z,B a G (nZ W)/\u=b++[.o (.k O),c,.o (.k a),Z]) (λN S=>?_) ?_
 .refine rW (W.map λp:Af×Af=>D.t [.str p.1,.str p.2]) _ (λΨ h=>h) (λi u=>∃ a c Z,B a G (nZ (W.take i))/\a.length<=81+i/\u=b++[.o (.k O),c,.o (.k a),Z]) ⟨ab,_,_,n0,by omega,rfl⟩ ?_ ?_
  .rintro i d u hd ⟨a,c,Z,L,j,rfl⟩;obtain⟨p,U,rfl⟩:=wG hd;have pm:=aK U;have hi:=(aP.mp U).1;have pin:p.2∈V.ins:=(bR.mp (pk.m p pm).2).1;have lx:=(Y.az _ (Y.gc.os _ (bR.mp (pk.m p pm).1).1)).hi;have et:W.take (i+1)=W.take i++[p]:=by rw[cH,U];rfl
   have hn:p.2∉(W.take i).map (·.2):=λq=>by
    have:=pk.n2.sublist ((kH (i+1) W).map (·.2));rw[et,aT] at this;exact (bW.mp this).2.2 _ q _ (aJ.mpr rfl) rfl
   refine⟨rfl,rfl,by show 1+p.1.length<=100000;omega,rfl,_,C4 (by omega),_,_,_,⟨?_,λx M=>?_⟩,?_,rfl⟩
   .rw[A8,aG λe=>l.ne (aL _ pin) (eI e)];exact L.1
   .rw[A8,et,Px hn];by_cases q:p.2=x
    .rw[aQ (by rw[q]),aQ q];rfl
    .rw[aG λz=>q (eI z),aG q,L.2 x M]
   .have:=Db a (Sum.inr p.2:hH) (.str ("a" ++ p.1));omega
  .rintro u ⟨a,c,Z,L,j,rfl⟩;rw[aA,cY] at L;exact S _ ⟨a,c,Z,L,rfl⟩
 rintro _ ⟨ac,c,Z,n2,rfl⟩;exact⟨by show 2<=1000;decide,aa O ac n1 n2⟩
end
def Ky (f:Af->Af):hH->hH
 | .inr x=>.inr (f x)
 | .inl i=>.inl i
def uG (f:Af->Af) (g:pL):pL:=g.map λq=>(Ky f q.1,q.2)
def vG (l:Aa (Af×Af)) (g j:pL):pL:=pR (pR [] (uG fA g)) (uG (nZ l) j)
def zI (g:Aa (Af×Af)) (j l:nQ):nQ:=sG (qW (nZ g)) (sG (qW fA) [] j) l
def sK (t:nQ) (g:Aa (Af×Af)):nQ:=g.foldl (λt p=>tZ t (fA p.1)) t
def yI (g j:pL) (o p:nQ):D:=.l [.t [.k g,.k (hI o)],.t [.k j,.k (hI p)]]
def Wr:RD:=λq ds n=>∃ C b h c a i m d f,ds=[nD C b,nD h c,.t (a.map λp=>D.t [.str p.1,.str p.2]),yI i m d f]/\RG C b/\RG h c/\PrsOk (oR C b) (oZ h c) a/\a.length<=40/\EdOk b i/\EdOk c m/\WtOk C b d/\WtOk h c f /\
 ((∃ p∈a,look (zI a d f) (fA p.1)≠0)->n (.v .e))/\((∀ p∈a,look (zI a d f) (fA p.1)=0)->n (.v (.t [.k (vG a i m),.k (hI (sK (zI a d f) a))])))
theorem NJ (t:nQ) (x z:Af):look (tZ t x) z=if x=z then 0 else look t z:=by
 unfold tZ;induction t with
 | nil=>exact (ite_self 0).symm
 | cons p t a =>
  by_cases q:p.1=x
  .rw[gC (by simp[q]),a,wA];by_cases y:x=z
   .rw[aQ y,aQ y]
   .rw[aG y,aG y,aG λe=>y (q.symm.trans e)]
  .rw[eX (by simp[q]),wA,a,wA];by_cases y:p.1=z
   .rw[aQ y,aQ y,aG λe=>q (y.trans e.symm)]
   .rw[aG y,aG y]
theorem Nj (z:Af):∀ (g:Aa (Af×Af)) (t:nQ),look (sK t g) z=if z∈g.map (λp=>fA p.1) then 0 else look t z
 | [],t=>rfl
 | p::g,t=>by
  show look (sK (tZ t (fA p.1)) g) z=_;rw[Nj z g,NJ,bD];by_cases q:z∈g.map (λp=>fA p.1)
  .rw[aQ q,aQ (aV _ q)]
  .rw[aG q];by_cases y:fA p.1=z
   .rw[aQ y,aQ (by rw[y];exact aI)]
   .rw[aG y,aG λw=>?_];rcases aM.mp w with w | w
    .exact y w.symm
    .exact q w
theorem DQ {t:nQ}{g:Aa (Af×Af)}{j:Nat}{p:Af×Af}(h:g[j]?=some p):sK t (g.take (j+1))=tZ (sK t (g.take j)) (fA p.1):=by
 unfold sK;rw[cH,h,kT];rfl
theorem A5 [DecidableEq j]:∀ {g:Aa (j×D)},(g.map (·.1)).Nodup->(k,d)∈g->nR g k=some d
 | p::g,c,h=>by
  obtain⟨a,b⟩:=bP.mp c;rw[show nR (p::g) k=if p.1=k then some p.2 else nR g k from uM];rcases aM.mp h with h | h
  .rw[<- h,aQ rfl]
  .rw[aG λe=>a (aO.mpr ⟨_,h,e.symm⟩),A5 b h]
theorem Z9 {f:Af->Af}{a g:pL}{j:Nat}{x:Af}{d:D}(h:g[j]?=some (Sum.inr x,d)):pR a (uG f (g.take (j+1)))=pZ (pR a (uG f (g.take j))) (Sum.inr (f x)) d:=by
 unfold uG pR;rw[cH,h,aT,kT];rfl
theorem Te (f:Af->Af) (a g:pL):(pR a (uG f g)).length<=a.length+g.length:=by
 have:=D0 (uG f g) a;unfold uG at this |-;rw[aA] at this;omega
section
variable {P:Ah}{K:nH}
theorem yH:FnScope ["one","other","pairs","claims","edges","weights","names","k","name","there","output"] ["one","other","pairs","claims"] (oC Jr):=pK
theorem CV (F:Fun K "_law_due" "_law_due" Jr f fd) (T:Txt mg) (l:Gd K mg "_law_renamed" Gq ["one","other","pairs"] fR ae) (I:FnOk P w K mg base oM 1 fR ae ["one","other","pairs"] (pF K Pu)):FnOk P w K mg base oM 2 f fd ["one","other","pairs","claims"] (pF K Wr):=by
 refine F.okD (k:=1) yH (λdk ds Φ ⟨_,_,_,_,_,_,_,_,_,e,_⟩=>by rw[e];rfl) (by decide) λar A ao s H E dk ds Φ hr hR=>?_
 have B:=tW hr;obtain⟨C,p1,C2,p2,u,Y,e2,t1,t2,rfl,h1,h2,pk,lp,aa,ac,ab,aq,af,ag⟩:=hR;refine⟨_,(nY (oB 4 yH.nd Ii) (nY (oB 5 yH.nd Ii) (nY (oB 6 yH.nd (pS I (hr.mono (by decide)) (by rfl) l.m l.k l.b (dK (eH 0) (dK (eH 1) (dK (eH 2) gV))))) (nY (tU (zA (by rfl) T.range gD) (nU 7 yH.nd) (nY (Ke (m:=99) lR rfl (oK B (nI B 3 (eH 7)) gD) (nU 8 yH.nd) (oN (yJ (n:=4) B (oK B (oK B (nI B 3 (eH 7)) gD) (eH 8)) (pv 4) (oK B (nI B 6 (eH 7)) (eH 8))))) (oN (Ke (m:=99) lR rfl (oK B (nI B 3 (eH 7)) gD) (nU 8 yH.nd) (nY (oB 9 yH.nd (oK B (nI B 6 (eH 7)) (eH 8))) (oN (yJ (n:=5) B (nV oE oF (Fa B (pv 5) (eH 9) gD) (oK B (oK B (nI B 3 (eH 7)) gD) (eH 8))) (pv 5) (eH 9)))))))) (nY (tU (oS (eH 2)) (rZ (n:=2) rfl (oX (nU 10 yH.nd) (oX (nU 8 yH.nd) rY))) (oN (wF (sY (Hl hr.units) (Ga true) (ID (pv 5) (nV oE oF qM (eH 10)) tV ⟨rfl,rfl,rfl,rfl⟩) gD) (oN (pT Mh)) tN))) (oN (pT (oW (dK (eH 4) (dK (eH 5) gV)))))))))),?_⟩;let b:Aa Sl:=[.v (nD C p1),.v (nD C2 p2),.v (.t (u.map λp=>D.t [.str p.1,.str p.2])),.v (yI Y e2 t1 t2)];refine nJ (λc=>c=b++[.o (.k []),.n,.n,.n,.n,.n,.n]) (λN Q=>Q _ rfl) ?_;rintro _ rfl;refine nJ (λc=>c=b++[.o (.k []),.o (.k []),.n,.n,.n,.n,.n]) (λN Q=>Q _ rfl) ?_;rintro _ rfl;refine nJ (λc=>∃ G L,Fz G C fA/\Fz L C2 (nZ u)/\c=b++[.o (.k []),.o (.k []),.v (.t [.k G,.k L]),.n,.n,.n,.n]) (λN Q=>⟨C,p1,C2,p2,u,rfl,h1,h2,pk,lp,λG L q1 q2=>⟨.inl rfl,Q _ ⟨G,L,q1,q2,rfl⟩⟩⟩) ?_;rintro _ ⟨G,L,ak,an,rfl⟩;let R:Nat->pL:=λi=>if i=0 then [] else if i=1 then pR [] (uG fA Y) else vG u Y e2
 let S:Nat->nQ:=λi=>if i=0 then [] else if i=1 then sG (qW fA) [] t1 else zI u t1 t2
 let X:Sl:=.v (.t [.k G,.k L]);have ah:(R 1).length<=100:=by have:=Te fA [] Y;have:=aa.le;show (pR [] (uG fA Y)).length<=100;rw[dL] at *;omega
 have ai:(S 1).length<=200:=by have:=Ff (qW fA) t1 [];have:=ab.le;show (sG (qW fA) [] t1).length<=200;rw[dL] at *;omega
 refine nJ (λc=>∃ U a M,c=b++[.o (.k (vG u Y e2)),.o (.k (hI (zI u t1 t2))),X,U,a,M,.n]) (λN Q=>?_) ?_
 .refine rW (rL 0 2) (b++[.o (.k []),.o (.k []),X,.n,.n,.n,.n]) (λΨ h=>⟨by decide,by decide,h⟩) (λi c=>∃ U a M,c=b++[.o (.k (R i)),.o (.k (hI (S i))),X,U,a,M,.n]) ⟨_,_,_,rfl⟩ ?_ (λc ⟨U,a,M,h⟩=>Q _ ⟨U,a,M,h⟩);rintro i d c hd ⟨U,a,M,rfl⟩;obtain⟨hi,rfl⟩:=Bl hd;obtain⟨e,t,kv,g,Cc,J,hc,hk,ed,wt,rg,Z,eE,eW,lE,lW⟩:∃ (e:pL) (t:nQ) (kv:pL) (g:Af->Af) (Cc:Cel) (J:Aa (Af×Af)),pY [D.t [.k Y,.k (hI t1)],D.t [.k e2,.k (hI t2)]] (0+(i:Int))=some (.t [.k e,.k (hI t)])/\pY [D.k G,D.k L] (0+(i:Int))=some (.k kv)/\EdOk J e/\WtOk Cc J t/\RG Cc J/\Fz kv Cc g/\R (i+1)=pR (R i) (uG g e)/\S (i+1)=sG (qW g) (S i) t/\(R i).length<=100/\(S i).length<=200:=by
   rw[show (0:Int)+(i:Int)=(i:Nat) by omega];rcases (show i=0\/i=1 by omega) with rfl | rfl
   .exact⟨Y,t1,G,fA,C,p1,pU rfl,pU rfl,aa,ab,h1,ak,rfl,rfl,gA _,gA _⟩
   .exact⟨e2,t2,L,nZ u,C2,p2,pU rfl,pU rfl,ac,aq,h2,an,rfl,rfl,ah,ai⟩
  have le:=ed.le;have lt:=wt.le;refine nJ (λc=>∃ a,c=b++[.o (.k (R (i+1))),.o (.k (hI (S i))),X,.v (.int (0+(i:Int))),a,M,.n]) (λN Q=>?_) ?_
  .refine rW (wD e) (b++[.o (.k (R i)),.o (.k (hI (S i))),X,.v (.int (0+(i:Int))),a,M,.n]) (λΨ h=>⟨rfl,_,hc,_,rfl,h⟩) (λj c=>∃ a,c=b++[.o (.k (pR (R i) (uG g (e.take j)))),.o (.k (hI (S i))),X,.v (.int (0+(i:Int))),a,M,.n]) ⟨_,rfl⟩ ?_ ?_
   .rintro j d c hd ⟨a,rfl⟩;obtain⟨q,V,rfl⟩:=wG hd;have qm:=aK V;obtain⟨x,hx,ex,fx⟩:=ed.ks q qm;obtain⟨qk,qd⟩:=q;simp only at ex;subst ex;have vx:nR e (Sum.inr x)=some qd:=A5 ed.nd qm;have xi:x∈Cc.ins:=by obtain⟨p,hp,rfl⟩:=aO.mp hx;exact (rg.m p hp).2
    have vn:=Z.2 x (aL _ xi);have ll:=Te g (R i) (e.take j);have aj:(e.take j).length<=e.length:=by rw[cW];omega
    refine⟨rfl,_,hc,_,rfl,_,cA some vx,rfl,rfl,_,hk,_,cA some vn,_,C4 (by omega),.v (.str x),?_⟩;rw[Z9 V];rfl
   .rintro c ⟨a,rfl⟩;have:(wD e).length=e.length:=aA _;rw[this,cY,<- eE];exact Q _ ⟨a,rfl⟩
  rintro _ ⟨a,rfl⟩;refine rW (wD (hI t)) (b++[.o (.k (R (i+1))),.o (.k (hI (S i))),X,.v (.int (0+(i:Int))),a,M,.n]) (λΨ h=>⟨rfl,_,hc,_,rfl,h⟩) (λj c=>∃ a M,c=b++[.o (.k (R (i+1))),.o (.k (hI (sG (qW g) (S i) (t.take j)))),X,.v (.int (0+(i:Int))),a,M,.n]) ⟨_,_,rfl⟩ ?_ ?_
  .rintro j d c hd ⟨a,M,rfl⟩;obtain⟨q,V,rfl⟩:=wG hd;obtain⟨p,hp,rfl⟩:∃ p,t[j]?=some p/\((Sum.inr p.1:hH),D.int p.2)=q:=by
    unfold hI at V;rw[bH] at V;cases e0:t[j]? with
    | none=>rw[e0] at V;cases V
    | some p=>rw[e0] at V;exact⟨p,rfl,bV V⟩
   have pm:=aK hp;have vt:nR (hI t) (Sum.inr p.1)=some (.int p.2):=by rw[(sX t p.1).1 (bQ pm),Df wt.nd pm]
   have vn:nR kv (Sum.inr p.1)=some (.str (qW g p.1)):=by
    unfold qW;rcases wt.ks _ (bQ pm) with z | z | z
    .rw[aG (rg.ne (aL _ z))];exact Z.2 _ (aL _ z)
    .have z:=(bR.mp z).1;rw[aG (rg.ne (aX _ z))];exact Z.2 _ (aX _ z)
    .rw[aQ z,z];exact Z.1
   have ll:=Ff (qW g) (t.take j) (S i);have aj:(t.take j).length<=t.length:=by rw[cW];omega
   refine nJ (λc=>c=b++[.o (.k (R (i+1))),.o (.k (hI (sG (qW g) (S i) (t.take j)))),X,.v (.int (0+(i:Int))),.v (.str p.1),.v (.str (qW g p.1)),.n]) (λN Q=>⟨rfl,_,hk,_,cA some vn,Q _ rfl⟩) ?_;rintro _ rfl;refine⟨rfl,_,rfl,?_⟩;rw[Gz];refine⟨rfl,_,hc,_,rfl,_,cA some vt,rfl,_,G5 (by omega),.v (.str p.1),.v (.str (qW g p.1)),?_⟩;rw[Yb hp];rfl
  .rintro c ⟨a,M,rfl⟩;have:(wD (hI t)).length=t.length:=by unfold wD hI;rw[List.length_map,List.length_map]
   rw[this,cY,<- eW];exact⟨_,_,_,rfl⟩
 rintro _ ⟨U,a,M,rfl⟩;let W:=zI u t1 t2;refine nJ (λc=>(∀ p∈u,look W (fA p.1)=0)/\∃ a O,c=b++[.o (.k (vG u Y e2)),.o (.k (hI (sK W u))),X,U,a,M,O]) (λN Q=>?_) ?_
 .refine rW (u.map λp:Af×Af=>D.t [.str p.1,.str p.2]) _ (λΨ h=>h) (λj c=>(∀ p∈u.take j,look W (fA p.1)=0)/\∃ a O,c=b++[.o (.k (vG u Y e2)),.o (.k (hI (sK W (u.take j)))),X,U,a,M,O]) ⟨by simp,_,_,rfl⟩ ?_ ?_
  .rintro j d c hd ⟨z0,a,O,rfl⟩;obtain⟨p,hp,rfl⟩:=wG hd;have pm:=aK hp;have lx:=(h1.az _ (h1.gc.os _ (bR.mp (pk.m p pm).1).1)).hi;have et:u.take (j+1)=u.take j++[p]:=by rw[cH,hp];rfl
   have hn:fA p.1∉(u.take j).map (λp=>fA p.1):=λq=>by
    obtain⟨r,hr,er⟩:=aO.mp q;have:=pk.n1.sublist ((kH (j+1) u).map (·.1));rw[et,aT] at this;exact (bW.mp this).2.2 _ (bQ hr) _ (aJ.mpr rfl) (Ci er)
   have lv:look (sK W (u.take j)) (fA p.1)=look W (fA p.1):=by rw[Nj,aG hn]
   refine⟨rfl,rfl,⟨_,rfl⟩,by show 1+p.1.length<=100000;omega,sK W (u.take j),fA p.1,rfl,rfl,?_⟩;by_cases z:look W (fA p.1)=0
   .refine qL (by simp[nb,lv,z]) ⟨λq V=>?_,.v (.str p.2),.v (.str p.1),?_⟩
    .rw[et] at V;rcases aW.mp V with y | y
     .exact z0 q y
     .rw[aJ.mp y];exact z
    .rw[DQ hp];rfl
   .exact qS (by simp[nb,lv,z]) (af ⟨p,pm,z⟩)
  .rintro c ⟨z0,a,O,rfl⟩;rw[aA,cY] at z0;rw[aA,cY];exact Q _ ⟨z0,a,O,rfl⟩
 rintro _ ⟨z0,a,O,rfl⟩;exact⟨by show 2<=1000;decide,ag z0⟩
end
theorem OE:(["name","claim"]:Aa Af).Nodup:=by decide +kernel
theorem LU:(["claim"]:Aa Af).Nodup:=by decide +kernel
def rB (t:nQ):nQ:=t.filter λp=>!decide (p.2=0)
def Of:RD:=λb ds a=>∃ (e:pL) (t:nQ),ds=[.t [.k e,.k (hI t)]]/\(t.map (·.1)).Nodup/\t.length<=1000/\a (.v (.t [.k e,.k (hI (rB t))]))
def V9:RD:=λf ds e=>∃ (a b:pL) (c d:nQ),ds=[yI a b c d]/\e (.o (yI a b c d))
section
variable {P:Ah}{K:nH}
theorem Xo:FnScope ["claim"] ["claim"] (oC Jf):=pK
theorem FU:FnScope ["claims"] ["claims"] (oC Iq):=pK
theorem JS (F:Fun K "_law_bare" "_law_bare" Jf f fd) (T:Txt j):FnOk P w K j base oM 1 f fd ["claim"] (pF K Of):=by
 refine F.okD (k:=0) Xo (λx ds Q ⟨_,_,e,_⟩=>by rw[e];rfl) (by decide) λu A c s H E x ds Q m B=>?_
 have a:=tW m;obtain⟨e,t,rfl,n,lt,b⟩:=B;refine⟨_,(oN (pT (oW (dK (nI a 0 gD) (dK (pI (wX rfl) xU T.dict cV (dK (PZ ["name"] ["claim"] [0] rfl (nI a 0 gD) rfl rfl (λ_ _ _ _ _=>(nU 0 OE)) (λ_ _ _ _ _=>(xJ (sY (Hl m.units) (Ga true) (oK a (nI a 1 gD) (eH 0)) gD))) (λ_ _ _ _ _=>(oW (dK (eH 0) (dK (oK a (nI a 1 gD) (eH 0)) gV))))) gV)) gV))))),?_⟩;refine⟨rfl,_,rfl,?_⟩;dsimp only[sd];unfold aC dC;have N:t.map (λp:Af×Int=>D.str p.1)=wD (hI t):=by unfold wD hI;rw[List.map_map];rfl
 refine wM t (λp:Af×Int=>D.str p.1) (λp=>D.t [.str p.1,.int p.2]) (λp=>!decide (p.2=0)) [.v (.t [.k e,.k (hI t)])] (λV h=>⟨rfl,_,rfl,by rw[N] at h;exact h⟩) (by omega) (λi p S R d G L M=>?_) ?_
 .have q:nR (hI t) (Sum.inr p.1)=some (.int p.2):=by rw[(sX t p.1).1 (bQ (aK d)),Df n (aK d)]
  refine⟨rfl,_,rfl,_,cA some q,?_⟩;by_cases z:p.2=0
  .exact qL (by simp[nb,z]) (M (by simp[z]))
  .exact qS (by simp[nb,z]) ⟨rfl,_,rfl,_,cA some q,by show 2<=1000;decide,G,L (by simp[z])⟩
 .have y:uH ((t.filter λp=>!decide (p.2=0)).map λp=>D.t [.str p.1,.int p.2])=some (hI (rB t)):=yD (g:=λp:Af×Int=>((Sum.inr p.1:hH),D.int p.2)) (λp=>⟨.str p.1,rfl,rfl⟩) _;have lf:(rB t).length<=t.length:=bK ..;refine⟨_,y,by unfold hI;rw[List.length_map];omega,?_⟩;have O:((rB t).map (·.1)).Nodup:=n.sublist ((jW ..).map _);rw[Ry O];exact⟨by show 2<=1000;decide,b⟩
theorem FX (F:Fun K "_law_copies" "_law_copies" Iq f fd) (T:Txt g):FnOk P w K g base oM 1 f fd ["claims"] (pF K V9):=by
 refine F.okD (k:=0) FU (λm ds L ⟨_,_,_,_,e,_⟩=>by rw[e];rfl) (by decide) λd A b s H E m ds L x v=>?_
 have c:=tW x;obtain⟨n,u,B,G,rfl,a⟩:=v;refine⟨_,(oN (pT (qF ["claim"] [] [] (oS (eH 0)) (λ_ _ _ _ _=>(nU 0 LU)) (λ_ _ _ _ _=>(oW (dK (pI (wX rfl) xU T.dict cV (dK (nI c 0 gD) gV)) (dK (pI (wX rfl) xU T.dict cV (dK (nI c 0 gD) gV)) gV))))))),?_⟩;let q (p:pL×nQ):D:=.t [.k p.1,.k (hI p.2)];refine qH [(n,B),(u,G)] q q _ (λO h=>h) (by show 2<=100000;decide) (λi p N M e y z=>?_) a;exact⟨rfl,_,rfl,rfl,_,rfl,by show 2<=1000;decide,y,z⟩
end
end Lw
namespace L2
open PySem PySem.Spec Lw
theorem DS.pick {K:nH}{A:Ad->Prop}{H:Hp}{g:Aa Sl}{j:St}(h:∀ p∈g.zip j,p.1 = .n\/∃ d v,p=(.v d,some v)/\Rep K A H d v):DS K ⟨[],A,H⟩ (g.zip j++[]) H:=by
 have i:lT (g.zip j)=[]:=by
  refine dJ.mpr λa f=>?_
  obtain⟨q,c,e⟩:=uC.mp f;rcases h q c with z | ⟨d,v,rfl,_⟩
  .obtain⟨s,x⟩:=q;simp only at z;subst z;cases e
  .cases e
 rw[cO];refine⟨λb o e _=>e,.inl rfl,by rw[i];exact cE,(λa f=>by rw[i] at f;exact absurd f aR),λq c=>?_⟩;rw[i];rcases h q c with z | ⟨d,v,rfl,r⟩
 .obtain⟨s,x⟩:=q;simp only at z;subst z
  trivial
 .exact⟨v,rfl,r.mono (.all λa f=>⟨aR,aR,.inl f⟩)⟩
end L2
namespace Lw
open PySem L2
structure EvT (t:nQ) (ps:List (Str×Str)) (t':nQ):Prop where
 nd:(t'.map (·.1)).Nodup
 ks:∀ x∈t'.map (·.1),x∈t.map (·.1)\/x∈ps.map (·.2)
 le:t'.length<=t.length+ps.length
def Jo (w:Ad) (H g:Hp):Prop:=∀ b o,b≠w->H b=some o->g b=some o
def Ut (K:nH):Sp:=λw H Q _=>∃ (A:Ad->Prop) (n:Aa Int) (i:Aa (Af×Af)) (v0 v1:V) (a b s m u d:Ad) (v f:nQ),w=[v0,v1,.ref a,.ref b]/\Rep K A H (.c (n.map D.int)) v0/\Rep K A H (.t (i.map λp=>D.t [.str p.1,.str p.2])) v1/\n.length<=63/\i.length<=40 /\
 H a=some (.t [.ref s,.ref m])/\H b=some (.t [.ref u,.ref d])/\H m=some (.k (vT v))/\H d=some (.k (vT f))/\m≠d/\(f.map (·.1)).Nodup/\f.length<=200/\∀ q h,Jo d H h->h d=some (.k (vT q))->EvT f i q->Q .e h
section
variable {P:Ah}{K:nH}
theorem Ng:FnScope ["script","pairs","one","other","output","name"] ["script","pairs","one","other"] (oC Ji):=pK
theorem OU (F:Fun K "_law_made_even" "_law_made_even" Ji f fd) (T:Txt mg) (g:Gd K mg "_law_draw" xT ["script","k"] fD aa) (l:FnOk P w K mg base oM 1 fD aa ["script","k"] (pF K yV)):FnOk P w K mg base oM 2 f fd ["script","pairs","one","other"] (Ut K):=by
 refine F.ok (k:=1) Ng (λvs H Q E h=>?_) (λag A af s H vs Q E hr h=>?_)
 .obtain⟨_,_,_,_,_,_,_,_,_,_,_,_,_,rfl,_⟩:=h;rfl
 .obtain⟨A1,ns,B,v0,v1,a,b,e1,w1,e2,N,t1,Z,rfl,r0,r1,ln,lp,ha,hb,ac,M,nw,J,ah,hQ⟩:=h;have hu:=tW hr;obtain⟨pt,us,rfl,R,U⟩:=r1.tup_inv;have na:a≠N:=λz=>by rw[z,M] at ha;cases ha
  have nb:b≠N:=λz=>by rw[z,M] at hb;cases hb
  have np:pt≠N:=λz=>by rw[z,M] at R;cases R
  have ae:us.length=B.length:=by rw[<- U.length,aA]
  have item:∀ (i:Nat) p,B[i]?=some p->∃ q,us[i]?=some (V.ref q)/\H q=some (.t [.str p.1,.str p.2]):=λi p S=>by
   have hd:(B.map λp=>D.t [.str p.1,.str p.2])[i]?=some (D.t [.str p.1,.str p.2]):=by rw[bH,S];rfl
   obtain⟨v,hv,rv⟩:=U.get hd;obtain⟨q,x,y,rfl,hq,rx,ry⟩:=xZ rv;cases rx;cases ry;exact⟨q,hv,hq⟩
  refine rO (λr O=>∃ L,Jo N H O/\O N=some (.k (vT L))/\EvT Z B L) (λu C=>?_) ?_
  .refine⟨_,yP (sY xI wZ (nV pQ pO (pS l (hr.mono (by decide)) (by rfl) g.m g.k g.b (dK (eH 0) (dK gD gV))) gD) gD) (sV (Hu lR rfl (Zc (pv 1)) (Qu rfl (Kh (Iy (i:=4) Ng.nd rfl (Or.inl rfl)) (Kh (Iy (i:=5) Ng.nd rfl (Or.inl rfl)) P2))) (sV (IC hu (wK Et (pv 3) tV (λ_ _=>rfl)) (pv 5) (Oq Sd (Wz hu (wK Et (pv 2) tV (λ_ _=>rfl)) (pv 4) tV ⟨rfl,rfl,rfl,rfl⟩)) rfl)))) yF,?_⟩;refine⟨⟨[],A1,H⟩,[.v (.c (ns.map D.int)),.n,.n,.n,.n,.n],[],λ_ _=>True,rfl,DS.pick λp S=>?_,⟨ns,390,rfl,ln,by decide,.inl rfl,by show (0:Int)<4;decide,trivial⟩,λc ai H1 _ d _=>?_⟩
   .have S:p∈[(Sl.v (.c (ns.map D.int)),some v0),(.n,some (.ref pt)),(.n,some (.ref a)),(.n,some (.ref b)),(.n,none),(.n,none)]:=S;rcases aM.mp S with rfl | S
    .exact .inr ⟨_,_,rfl,r0⟩
    .simp only[aM,aR,kA] at S;rcases S with rfl | rfl | rfl | rfl | rfl<;>exact .inl rfl
   have sm:pG H H1:=λb o e=>d.fr b o e aR
   cases c with
   | false=>exact uZ (C _ _ ⟨Z,λb o _ e=>sm b o e,sm _ _ M,⟨J,λx G=>.inl G,jR _ _⟩⟩)
   | true =>
    refine (aQ rfl).mpr ?_;refine⟨.ref pt,rfl,pt,rfl,⟨us,.inl (.inl (sm _ _ R))⟩,?_⟩;refine⟨λi m r O=>m=B.length-i/\i<=B.length/\∃ L s4 s5,Jo N H O/\O N=some (.k (vT L))/\EvT Z (B.take i) L/\r=[some v0,some (.ref pt),some (.ref a),some (.ref b),s4,s5],⟨_,rfl,gA _,Z,none,none,λb o _ e=>sm b o e,sm _ _ M,⟨J,λx G=>.inl G,jR _ _⟩,rfl⟩,?_⟩;rintro i m r O ⟨rfl,hi,L,s4,s5,Y,k2,I,rfl⟩;have hT:O pt=some (.t us):=Y _ _ np R;by_cases W:i<B.length
    .refine .inr ⟨⟨_,us[i]'(by omega),.inl (.inl hT),aH _⟩,λr H3=>∃ L s4 s5,Jo N H H3/\H3 N=some (.k (vT L))/\EvT Z (B.take (i+1)) L/\r=[some v0,some (.ref pt),some (.ref a),some (.ref b),s4,s5],λaj H' z=>⟨_,(by omega:B.length-(i+1)<B.length-i),rfl,W,z⟩,?_⟩;rintro x H4 ⟨rfl,G⟩;have G:=G _ (.inl (.inl hT));obtain⟨q,ab,X⟩:=item i B[i] (aH W);rw[ab] at G;cases G;have nq:q≠N:=λz=>by rw[z,M] at X;cases X
     have n1:H4 w1=some (.k (vT t1)):=Y _ _ nw ac;obtain⟨j,hj⟩:∃ j:Int,(qA (vT t1) (Sum.inr (B[i]).1:hH)).getD (.int 0) = .int j:=by
      rw[Dq,Fc];by_cases z:(B[i]).1∈t1.map (·.1)
      .rw[(sX t1 _).1 z];exact⟨_,rfl⟩
      .rw[((sX t1 _).2 z).1];exact⟨0,rfl⟩
     have lt':=I.le;rw[cW] at lt';refine⟨q,[.str (B[i]).1,.str (B[i]).2],rfl,.inl (.inl (Y _ _ nq X)),rfl,_,_,rfl,_,_,rfl,rfl,?_⟩;refine⟨.ref a,rfl,a,[.ref e1,.ref w1],1,.ref w1,rfl,rfl,.inl (.inl (Y _ _ na ha)),pU (j:=1) rfl,w1,rfl,.inl ⟨_,.inl n1⟩,.str (B[i]).1,rfl,_,wR.k (k:=Sum.inr (B[i]).1) n1,j,hj,?_⟩;refine⟨.ref b,rfl,b,[.ref e2,.ref N],1,.ref N,rfl,rfl,.inl (.inl (Y _ _ nb hb)),pU (j:=1) rfl,.str (B[i]).2,rfl,N,_,rfl,yQ.k (k:=Sum.inr (B[i]).2) (v:=.int (-j)) k2 ?_,pV L (B[i]).2 (-j),_,_,λc o n e=>?_,?_,?_,rfl⟩
     .unfold vT;rw[List.length_map];exact bT (show L.length<1000 by omega) (by decide)
     .rw[nP n];exact Y c o n e
     .rw[oO,OP]
     .have ll:=Cn L (B[i]).2 (-j);refine⟨Dr I.nd _ _,λx G=>?_,by rw[cW];omega⟩;rw[cH,aH W,aT];rw[Cf] at G;have old:x∈L.map (·.1)->x∈Z.map (·.1)\/x∈(B.take i).map (·.2)++[(B[i]).2]:=λG=>by
       rcases I.ks x G with z | z
       .exact .inl z
       .exact .inr (aL _ z)
      by_cases z:(B[i]).2∈L.map (·.1)
      .rw[aQ z] at G;exact old G
      .rw[aG z] at G;rcases aW.mp G with G | G
       .exact old G
       .exact .inr (aX _ G)
    .have ei:i=B.length:=by omega
     subst ei;rw[cY] at I;exact .inl ⟨⟨_,.inl (.inl hT),mD ae⟩,C _ _ ⟨L,Y,k2,I⟩⟩
  rintro r O ⟨L,b1,b2,b3⟩;exact⟨_,yF,hQ L O b1 b2 b3⟩
end
end Lw
namespace L2
open PySem PySem.Spec Lw
theorem DS.first {K:nH}(N:Aa Af) (r:Reps K A H ds g):(qY N ds).length=(start N g).length/\DS K ⟨[],A,H⟩ ((qY N ds).zip (start N g)++[]) H:=by
 have h:ds.length=g.length:=r.length;refine⟨by unfold qY L2.start;rw[List.length_append,List.length_append,List.length_map,List.length_map,List.length_replicate,List.length_replicate,h],?_⟩;have i:(qY N ds).zip (L2.start N g)=(ds.zip g).map (λp=>(Sl.v p.1,some p.2))++List.replicate (N.length-ds.length) (Sl.n,none):=by
  unfold qY L2.start;rw[<- h];exact Fl _ h
 have f:lT ((qY N ds).zip (L2.start N g))=[]:=by
  rw[i];refine dJ.mpr λa d=>?_
  obtain⟨q,c,e⟩:=uC.mp d;rcases aW.mp c with z | z
  .obtain⟨p,_,rfl⟩:=aO.mp z;cases e
  .rw[(fK.mp z).2] at e;cases e
 rw[cO];refine⟨λb o e _=>e,.inl rfl,by rw[f];exact cE,(λa d=>by rw[f] at d;exact absurd d aR),λq c=>?_⟩;rw[f];rw[i] at c;rcases aW.mp c with z | z
 .obtain⟨p,k,rfl⟩:=aO.mp z;exact⟨p.2,rfl,(Ix r p k).mono (.all λa d=>⟨aR,aR,.inl d⟩)⟩
 .rw[(fK.mp z).2];trivial
end L2
namespace Lw
open PySem L2
def IZ (l g j:Ad):RX:=λa ds e d=>Lu l g j a ds (λb c=>e (.v (.t [.k b,.k c]))) d
def N4 (CN T U:Ad) (C j:Cel) (l r g:Aa (Af×Af)) (I J:nQ) (o:Ab Xc):Prop:=(∀ y,qQ (oR C l) (oZ j r) g=some y->o=some (Ak CN y)) /\
 (qQ (oR C l) (oZ j r) g=none->¬ InB (jC C j g) (jP l r g)->o=some (D8 T)) /\
 (qQ (oR C l) (oZ j r) g=none->InB (jC C j g) (jP l r g)->(∃ p∈g,look (pW C j l r g I J) (fA p.1)≠0)->o=some (U,[])) /\
 (qQ (oR C l) (oZ j r) g=none->InB (jC C j g) (jP l r g)->(∀ p∈g,look (pW C j l r g I J) (fA p.1)=0)->o=none)
def uO (x:Xc) (e:Ad) (H:Hp):Prop:=x.2=[]/\H e=some (qR e (.ref x.1) none)\/∃ a,H e=some (qR e (.ref x.1) (some a))/\H a=some (.xd x.2)
def eF (g:pL) (x:Af):D:=(nR g (Sum.inr x)).getD .e
theorem EdOk.at (h:EdOk g j):∀ p∈g,nR j (Sum.inr p.2)=some (eF j p.2):=λp a=>by
 obtain⟨d,e⟩:=h.al p.2 (bQ a);unfold eF;rw[e];rfl
def Po (K:nH) (l g j:Ad):Sp:=λn H Q _=>∃ (A:Ad->Prop) (C f:Cel) (b c d:Aa (Af×Af)) (h i:pL) (k m:nQ) (o:Ab Xc),Reps K A H [nD C b,nD f c,.t (d.map λp=>D.t [.str p.1,.str p.2]),yI h i k m] n/\RG C b/\RG f c/\(∀ p∈d,uK p.1/\uK p.2)/\d.length<=40/\EdOk b h/\EdOk c i/\N4 l g j C f b c d k m o /\
 (o=none->∀ a,pG H a->Q .e a)/\∀ x,o=some x->∀ e a,uO x e a->pG H a->Q (.ref e) a
section
variable {P:Ah}{K:nH}{CE:Ad}
theorem Lc:FnScope ["one","other","pairs","claims","caught","e"] ["one","other","pairs","claims"] (oC G9):=pK
theorem Zv (F:Fun K "_law_caught" "_law_caught" G9 f fd) (T:Txt mg) (ag:mg "CellError" = some (.ref CE)) (xN:PySem.W.exmOne K (.ref CN) (.ref CE)=some true) (xC:PySem.W.exmOne K (.ref CC) (.ref CE)=some true) (xL:PySem.W.exmOne K (.ref CL) (.ref CE)=some true) (g:Gd K mg "claims_together" Ee ["one","other","pairs","claim_one","claim_other"] fC ac) (I:FnOk P w K mg base (oQ P w) 6 fC ac ["one","other","pairs","claim_one","claim_other"] (vF K (IZ CN CC CL))):FnOk P w K mg base oM 7 f fd ["one","other","pairs","claims"] (Po K CN CC CL):=by
 refine F.ok (k:=6) Lc (λvs H Q E h=>?_) (λak A ah s H vs Q E hr h=>?_)
 .obtain⟨_,_,_,_,_,_,_,_,_,_,_,r,_⟩:=h;rw[<- r.length];rfl
 .obtain⟨A1,C,L,N,O,B,J,U,X,Y,o,r,h1,h2,sm,lp,aa,ab,n,hn,hx⟩:=h;have hu:=tW hr;obtain⟨v0,v1,v2,v3,rfl⟩:∃ a b c d,vs=[a,b,c,d]:=by
   have:=r.length
   match vs,this with
   | [a,b,c,d],_=>exact⟨a,b,c,d,rfl⟩
  refine PL _ (zX (i:=4) Lc.nd rfl (Or.inl rfl) Qc) ?_;have r5:Reps K A1 H [nD C N,nD L O,.t (B.map λp=>D.t [.str p.1,.str p.2]),yI J U X Y,.e] [v0,v1,v2,v3,.e]:=by
   cases r with | cons a r=>cases r with | cons b r=>cases r with | cons c r=>cases r with | cons d r=>cases r;exact .cons a (.cons b (.cons c (.cons d (.cons .e .nil))))
  obtain⟨l0,d0⟩:=DS.first ["one","other","pairs","claims","caught","e"] r5
  refine rO (λσ R=>∃ v4,σ[4]?=some (some v4)/\Q v4 R) (λu V=>?_) ?_
  .refine⟨_,Yc (j:=5) (l:=4) (tB:=λE1=>Fh K E1 (λx=>o=some x) _) (λaj E1=>(wH (MJ I (hr.mono (by decide)) (by rfl) g.m g.k g.b (dK (eH 0) (dK (eH 1) (dK (eH 2) (dK (nI hu 3 gD) (dK (nI hu 3 gD) gV)))))))) (by rfl) ag Lc.nd rfl rfl rfl rfl rfl rfl rfl rfl,?_⟩;refine⟨λC od S=>∃ x,o=some x/\XP [] H x C od S,⟨⟨[],A1,H⟩,qY ["one","other","pairs","claims","caught","e"] [nD C N,nD L O,.t (B.map λp=>D.t [.str p.1,.str p.2]),yI J U X Y,.e],[],{ nx:=λρ=>ρ[4]?=some (.v .e)/\o=none,rt:=λ_=>False },l0,d0,?_,?_,λx hx C od S hp=>⟨x,hx,hp⟩⟩,?_⟩
   .exact⟨rfl,_,rfl,rfl,_,rfl,C,N,L,O,B,J,U,eF J,eF U,X,Y,rfl,h1,h2,sm,lp,aa.at,ab.at,λz y x=>⟨.inl rfl,rfl,n.2.2.2 z y x⟩,λz y x=>n.2.2.1 z y x,λz y=>n.2.1 z y,λy z=>n.1 y z⟩
   .refine⟨λai G S m1 m2 d=>⟨λ⟨e,M⟩=>V _ _ ?_,λz=>z.elim,λz=>z.elim⟩,λr v ai G S _ _ z=>z.elim⟩;obtain⟨v,hv,pk⟩:=d.peek m1 (d:=.e) (i:=4) (by unfold at?;rw[e];rfl);cases pk;exact⟨.e,hv,hn M S λb o e=>d.fr b o e aR⟩
   .rintro Cx od R ⟨x,M,⟨⟨rfl,af⟩,frm,_,_⟩⟩ G hl e Z he nT;have s2:pG R (upd R Z (rF Z)):=zS nT;have xo:uO x e (upd R Z (rF Z)):=by
     rcases af with⟨z1,rfl⟩ | ⟨dd,rfl,ae⟩
     .exact .inl ⟨z1,s2 _ _ he⟩
     .exact .inr ⟨dd,s2 _ _ he,s2 _ _ ae⟩
    refine⟨?_,V _ _ ⟨.ref e,?_,hx x M e _ xo (pG.trans (λb o e=>frm b o e aR) s2)⟩⟩
    .cases eb:qQ (oR C N) (oZ L O) B with
     | some y =>
      have:=(n.1 y eb).symm.trans M;cases this;exact xN
     | none =>
      by_cases ib:InB (jC C L B) (jP N O B)
      .by_cases z:∀ p∈B,look (pW C L N O B X Y) (fA p.1)=0
       .have:=(n.2.2.2 eb ib z).symm.trans M;cases this
       .have z:∃ p∈B,look (pW C L N O B X Y) (fA p.1)≠0:=eM λq=>z λp hp=>eM λy=>q ⟨p,hp,y⟩
        have:=(n.2.2.1 eb ib z).symm.trans M;cases this;exact xL
      .have:=(n.2.1 eb ib).symm.trans M;cases this;exact xC
    .have l6:G.length=6:=hl
     match G,l6 with
     | [a0,a1,a2,a3,a4,a5],_=>rfl
  rintro σ R ⟨v4,e4,hq⟩;exact⟨_,sV (wT (pv 4)),_,e4,hq⟩
end
end Lw
namespace L2
open PySem PySem.Spec Lw
theorem Rep.live {K:nH}(r:Rep K A H d v):Rep K (λa=>∃ o,H a=some o) H d v:=r.mono ⟨λa o _ e=>⟨⟨o,e⟩,e⟩,λa o _ e=>e⟩
theorem Rep.on {K:nH}(r:Rep K A H d v) (h:∀ a o,A a->H a=some o->g a=some o) (C:∀ a j,H a=some (.t j)->g a=some (.t j)) (p:∀ a o u,H a=some (.frz o u)->g a=some (.frz o u)):Rep K A g d v:=r.mono ⟨λa o i e=>⟨i,h a o i e⟩,λa o f e=>by
 cases o<;>first | exact C _ _ e | exact p _ _ _ e | cases f⟩
theorem Aw {K:nH}(f:tM g) (h:pX K A H a (.k g)):H a=some (.k (vK g)):=by
 obtain⟨i,h,e,r⟩:=h;have b:=Kb (λd hd=>by obtain⟨p,c,rfl⟩:=aO.mp hd;exact f p c) r;have:i=vK g:=by
  refine Lv ?_ ?_
  .unfold vK;rw[List.map_map];exact e.symm
  .unfold vK;rw[b,List.map_map,List.map_map];rfl
 rw[<- this];exact h
theorem Cz {K:nH}(f:tM g) (j:A a) (h:H a=some (.k (vK g))):Rep K A H (.k g) (.ref a):=by
 refine .k j (.inl h) (by unfold vK;rw[List.map_map];rfl) ?_;have:∀ (l:Aa (hH×D)),(∀ p∈l,xM p.2)->Reps K A H (l.map (·.2)) ((vK l).map (·.2)):=λl b=>by
  induction l with
  | nil=>exact .nil
  | cons p l m =>
   refine .cons ?_ (m λq c=>b q (aV _ c));obtain⟨k,d⟩:=p;rcases b (k,d) aI with z | ⟨i,z⟩
   .have z:d = .e:=z;subst z;exact .e
   .have z:d = .int i:=z;subst z;exact .int i
 exact this g f
theorem zB (t:nQ):tM (hI t):=λp a=>by
 obtain⟨q,_,rfl⟩:=aO.mp a;exact .inr ⟨_,rfl⟩
end L2
namespace Lw
open PySem L2
theorem Rv (j:(g.map (·.1)).Nodup) (e:nZ g x=nZ g y):x=y:=by
 rcases Fi g x with⟨p,c,b,a⟩ | ⟨f,a⟩<;>rcases Fi g y with⟨q,d,f1,f2⟩ | ⟨g1,f2⟩<;>rw[a,f2] at e
 .have:=T3 j c d (Ci e);rw[<- b,<- f1,this]
 .exact absurd e (Li _ _)
 .exact absurd e.symm (Li _ _)
 .exact Za e
theorem R4 (x:Af):fA x ≠ "" := λe=>by
 have:=cA (λz:Af=>z.cps.toList) e;unfold fA at this;rw[rT] at this;cases this
theorem ET (x:Af):fB x ≠ "" := λe=>by
 have:=cA (λz:Af=>z.cps.toList) e;unfold fB at this;rw[rT] at this;cases this
theorem QQ (g:Aa (Af×Af)) (x:Af):nZ g x ≠ "" := by
 rcases Fi g x with⟨p,_,_,e⟩ | ⟨_,e⟩<;>rw[e]
 .exact R4 _
 .exact ET _
theorem Qx (h:x∈C.ins\/x∈oR C g):x∈qG C g:=by
 unfold qG;rcases h with h | h
 .by_cases q:x∈g.map (·.2)
  .exact aX _ q
  .exact aL _ (aL _ (bR.mpr ⟨h,by rw[aY q];rfl⟩))
 .exact aL _ (aX _ h)
theorem RG.n0 (h:RG C g):("" : Af)∉qG C g:=λq=>by
 unfold qG at q;rcases aW.mp q with q | q
 .rcases aW.mp q with q | q
  .exact h.ne (aL _ (bR.mp q).1) rfl
  .exact h.ne (aX _ (bR.mp q).1) rfl
 .obtain⟨p,a,e⟩:=aO.mp q;exact h.ne (aL _ (h.m p a).2) e
theorem AS (T:RG C l) (U:RG j o) (n1:(g.map (·.1)).Nodup) (I:WtOk C l p) (J:WtOk j o r) (z:Af):look (zI g p r) z=look (pW C j l o g p r) z:=by
 have b:∀ {C:Cel} {a:Aa (Af×Af)} {t:nQ},WtOk C a t->∀ x∈t.map (·.1),x∈qG C a\/x = "" := λ{C a t} w x c=>by
  rcases w.ks x c with z | z | z
  .exact .inl (Qx (.inl z))
  .exact .inl (Qx (.inr z))
  .exact .inr z
 rw[CG z (Qh I.nd (b I) (λx _=>R4 x) T.n0 (λx _ y _ e=>Ci e) z) (Qh J.nd (b J) (λx _=>QQ g x) U.n0 (λx _ y _ e=>Rv n1 e) z)];unfold zI;rw[Ij,Ij];show 0+_+_=_;rw[Int.zero_add]
theorem Ps (g:(t.map (·.1)).Nodup):(x,v)∈rB t↔look t x=v/\v≠0:=by
 constructor
 .intro h;obtain⟨a,b⟩:=bR.mp h;exact⟨Df g a,by simpa using b⟩
 .rintro ⟨a,b⟩;have d:x∈t.map (·.1):=eM λq=>b (by rw[<- a];exact ((sX t x).2 q).2)
  obtain⟨p,c,e⟩:=aO.mp d;have:=Df g c;rw[e,a] at this;refine bR.mpr ⟨?_,by simpa using b⟩;rw[show (x,v)=p from Prod.ext e.symm this];exact c
theorem Fb (g:(t.map (·.1)).Nodup):((rB t).map (·.1)).Nodup:=g.sublist ((jW ..).map _)
theorem NK (g:(a.map (·.1)).Nodup) (nb:(b.map (·.1)).Nodup) (h:∀ z,look a z=look b z):SmF (hI (rB a)) (hI (rB b)):=by
 have f:∀ p,p∈rB a↔p∈rB b:=λ⟨x,v⟩=>by rw[Ps g,Ps nb,h x]
 have c:∀ {t:nQ},(t.map (·.1)).Nodup->t.Nodup:=λh=>List.Pairwise.of_map _ (λa b q e=>q (by rw[e])) h
 have pm:(rB a).Perm (rB b):=(List.perm_ext_iff_of_nodup (c (Fb g)) (c (Fb nb))).mpr f;refine⟨by unfold hI;rw[List.length_map,List.length_map];exact pm.length_eq,λq k=>?_,zB _⟩;obtain⟨p,i,rfl⟩:=aO.mp k;refine⟨.inr ⟨_,rfl⟩,?_⟩;have d:=(f p).mp i;rw[(sX (rB b) p.1).1 (bQ d),Df (Fb nb) d]
theorem EM (t:nQ):rB (rB t)=rB t:=jU.mpr λp a=>(bR.mp a).2
theorem Cy:∀ (b a:pL),(a.map (·.1)).Nodup->((pR a b).map (·.1)).Nodup
 | [],a,h=>h
 | p::b,a,h=>Cy b _ (Vs h)
theorem D7:∀ (b a:pL),tM a->tM b->tM (pR a b)
 | [],a,h,_=>h
 | p::b,a,h,d=>D7 b _ (λq c=>by
   rcases Rm c with z | z
   .rw[z];exact d p aI
   .exact h q z) λq c=>d q (aV _ c)
theorem D1 {g:pL}{k:hH}{d:D}(h:nR g k=some d):(k,d)∈g:=by
 induction g with
 | nil=>cases h
 | cons p g a =>
  rw[show nR (p::g) k=if p.1=k then some p.2 else nR g k from uM] at h;by_cases z:p.1=k
  .rw[aQ z] at h;have:=bV h;rw[show (k,d)=p from Prod.ext z.symm this.symm];exact aI
  .rw[aG z] at h;exact aV _ (a h)
theorem Zj (g:(a.map (·.1)).Nodup) (nb:(b.map (·.1)).Nodup) (j:tM a) (l:tM b) (h:∀ k,nR a k=nR b k):SmF a b:=by
 have i:∀ p,p∈a↔p∈b:=λ⟨k,d⟩=>⟨λq=>D1 (by rw[<- h];exact A5 g q),λq=>D1 (by rw[h];exact A5 nb q)⟩
 have c:∀ {t:pL},(t.map (·.1)).Nodup->t.Nodup:=λh=>List.Pairwise.of_map _ (λa b q e=>q (by rw[e])) h
 have pm:a.Perm b:=(List.perm_ext_iff_of_nodup (c g) (c nb)).mpr i;exact⟨pm.length_eq,λp f=>⟨j p f,by rw[<- h];exact A5 g f⟩,l⟩
theorem Lk (j:EdOk l g) (inj:∀ x y,f x=f y->x=y):((uG f g).map (·.1)).Nodup:=by
 unfold uG;rw[aU];have:(g.map ((Ky f)∘(·.1))).Nodup:=by
  rw[<- aU];refine iP _ (λa b q e=>q ?_) j.nd;cases a<;>cases b<;>simp only[Ky,Sum.inr.injEq,Sum.inl.injEq,reduceCtorEq] at e
  .rw[e]
  .rw[inj _ _ e]
 exact this
theorem Vf (j:EdOk g l) (o:(g.map (·.2)).Nodup) (inj:∀ x y,f x=f y->x=y) (k:hH):nR (vZ f (eF l) g) k=nR (uG f l) k:=by
 have n:((g.map λp=>((Sum.inr (f p.2):hH),eF l p.2)).map (·.1)).Nodup:=by
  rw[aU];have:((g.map (·.2)).map λx=>(Sum.inr (f x):hH)).Nodup:=iP _ (λa b q e=>q (inj _ _ (eI e))) o;rw[aU] at this;exact this
 unfold vZ;rw[yB _ _ n,Ct,Option.or_none];refine Option.ext λd=>⟨λh=>?_,λh=>?_⟩
 .obtain⟨p,c,e⟩:=aO.mp (D1 h);cases e;refine A5 (Lk j inj) (aO.mpr ⟨(Sum.inr p.2,eF l p.2),D1 (j.at p c),rfl⟩)
 .obtain⟨q,m,e⟩:=aO.mp (D1 h);obtain⟨x,s,i,_⟩:=j.ks q m;obtain⟨p,c,rfl⟩:=aO.mp s;obtain⟨u,t⟩:=q;simp only at i;subst i;cases e;refine A5 n (aO.mpr ⟨p,c,?_⟩);have:=(j.at p c).symm.trans (A5 j.nd m);rw[bV this];rfl
theorem Pd (g:EdOk l j):tM (uG f j):=λp b=>by
 obtain⟨q,c,rfl⟩:=aO.mp b;obtain⟨_,_,_,a⟩:=g.ks q c;exact a
theorem CS (g:EdOk I C) (j:EdOk r o) (J:(I.map (·.2)).Nodup) (T:(r.map (·.2)).Nodup) (U:(l.map (·.1)).Nodup):SmF (zW I r l (eF C) (eF o)) (vG l C o):=by
 have f2:∀ {f:Af->Af} {a:Aa (Af×Af)} {b:pL},EdOk a b->tM (vZ f (eF b) a):=λ{f a b} d=>D7 _ _ (λ_ h=>absurd h aR) λq s=>by
  obtain⟨p,n,rfl⟩:=aO.mp s;obtain⟨_,_,_,m⟩:=d.ks _ (D1 (d.at p n));exact m
 have i:∀ x y,nZ l x=nZ l y->x=y:=λx y e=>Rv U e
 refine Zj (Cy _ _ (Cy _ [] cE)) (Cy _ _ (Cy _ [] cE)) (D7 _ _ (f2 g) (f2 j)) (D7 _ _ (D7 _ _ (λ_ h=>absurd h aR) (Pd g)) (Pd j)) λk=>?_
 have c:((vZ (nZ l) (eF o) r).map (·.1)).Nodup:=Cy _ [] cE;unfold zW vG;rw[yB _ _ c,yB _ _ (Lk j i),yB _ _ (Lk g λx y e=>Ci e),Ct,Option.or_none,Vf j T i,Vf g J λx y e=>Ci e]
theorem Hn:∀ (g:Aa (Af×Af)){t:nQ},(t.map (·.1)).Nodup->((sK t g).map (·.1)).Nodup
 | [],_,h=>h
 | p::g,t,h=>Hn g (NT h)
theorem V2:∀ (g:Aa (Af×Af)) (t:nQ),(sK t g).length<=t.length
 | [],_=>bB _
 | p::g,t=>bS (V2 g (tZ t (fA p.1))) (JH t (fA p.1))
end Lw
namespace L2
open PySem PySem.Spec PyProof.Rows Lw
abbrev qU:Ad->Prop:=λ_=>True
def xV (K:nH) (H:Hp):Sl->Ab V->Prop
 | .n,_=>True
 | .v d,x=>∃ v,x=some v/\Rep K qU H d v
 | .o _,_=>False
inductive SV (K:nH) (H:Hp):List Sl->St->Prop where
 | nil:SV K H [] []
 | cons {s:Sl} {x:Option V} {ρ:List Sl} {σ:St}:xV K H s x->SV K H ρ σ->SV K H (s::ρ) (x::σ)
section
variable {K:nH}
theorem SV.len (h:SV K H g j):g.length=j.length:=by
 induction h with
 | nil=>rfl
 | cons _ _ a=>rw[cS,cS,a]
theorem SV.ds (h:SV K H g j):DS K ⟨[],qU,H⟩ (g.zip j++[]) H:=DS.pick (by
 induction h with
 | nil=>intro p b;cases b
 | @cons s x g j a _ c =>
  intro p b;rcases aM.mp b with rfl | b
  .cases s with
   | n=>exact .inl rfl
   | v d=>obtain⟨v,rfl,r⟩:=a;exact .inr ⟨d,v,rfl,r⟩
   | o d=>exact a.elim
  .exact c p b)
theorem SV.same (h:SV K H g j) (s:pG H l):SV K l g j:=by
 induction h with
 | nil=>exact .nil
 | @cons c x g j a _ b =>
  refine .cons ?_ b;cases c with
  | n=>trivial
  | v d=>obtain⟨v,e,r⟩:=a;exact⟨v,e,r.mono (.same s λ_ z=>z)⟩
  | o d=>exact a.elim
theorem SV.get (h:SV K H g j){i:Nat}{d:D}(e:g[i]?=some (.v d)):∃ v,j[i]?=some (some v)/\Rep K qU H d v:=by
 induction h generalizing i with
 | nil=>simp at e
 | cons a _ b =>
  cases i with
  | zero =>
   rw[kF] at e;cases e;obtain⟨v,rfl,r⟩:=a;exact⟨v,rfl,r⟩
  | succ i=>rw[kG] at e |-;exact b e
theorem SV.set (h:SV K H g j) (i:Nat) (r:Rep K qU H d v):SV K H (g.set i (.v d)) (j.set i (some v)):=by
 induction h generalizing i with
 | nil=>exact .nil
 | cons a b c =>
  cases i with
  | zero=>exact .cons ⟨v,rfl,r⟩ b
  | succ i=>exact .cons a (c i)
def Gy:Sl->Sl
 | .o d=>.v d
 | s=>s
theorem Kt (h:pX K A H a d):Rep K qU H d (.ref a):=by
 cases d<;>first | exact False.elim h | skip
 .obtain⟨b,h,r⟩:=h;exact .l trivial h (r.mono (.all λ_ _=>trivial))
 .obtain⟨b,h,e,r⟩:=h;exact .k trivial (.inl h) e (r.mono (.all λ_ _=>trivial))
 .obtain⟨b,h,e,r⟩:=h;exact .T trivial (.inl h) e (r.mono (.all λ_ _=>trivial))
theorem Jd:∀ {g:Aa Sl}{j:St},g.length=j.length->(∀ p∈g.zip j,uF K A H p.1 p.2)->SV K H (g.map Gy) j
 | [],[],_,_=>.nil
 | s::g,x::j,b,h=>by
  refine .cons ?_ (Jd (Nat.succ.inj b) λp c=>h p (aV _ c));have:=h (s,x) aI;cases s with
  | n=>trivial
  | v d=>obtain⟨v,e,r⟩:=this;exact⟨v,e,r.mono (.all λ_ _=>trivial)⟩
  | o d=>obtain⟨a,e,r⟩:=this;exact⟨_,e,Kt r⟩
def Uf (K:nH) (H:Hp):Sl->V->Prop
 | .n,_=>True
 | .v d,v=>Rep K qU H d v
 | .o d,v=>Rep K qU H d v
theorem Bd {D:Ends}(T:SV K H C U) (ht:t [] De C) (I:∀ l g j,pG H j->g.length=U.length->SV K j (l.map Gy) g->De.nx l->D.nx g j)
  (J:∀ r v j,pG H j->Uf K j r v->De.rt r->D.rt v j) (hb:∀ C,¬ De.bk C) (hc:∀ C,¬ De.ct C):dS K t D U H:=by
 refine⟨⟨[],qU,H⟩,C,[],De,T.len,T.ds,ht,⟨λl g j c h d=>⟨λq=>?_,λz=>absurd z (hb _),λz=>absurd z (hc _)⟩,λr v l g j c d q=>?_⟩⟩
 .exact I l g j (λb o e=>d.fr b o e aR) h (Jd c λp f=>d.ok p (aL _ f)) q
 .refine J r v j (λb o e=>d.fr b o e aR) ?_ q;have:=d.ok (r,some v) (by simp);cases r with
  | n=>trivial
  | v d=>obtain⟨w,e,r⟩:=this;cases e;exact r.mono (.all λ_ _=>trivial)
  | o d=>obtain⟨a,e,r⟩:=this;cases e;exact Kt r
theorem MY (l:SV K H C I) (J:t [] C Φ) (k:∀ r g v j,pG H j->Uf K j r v->SV K j (g.map Gy) I->Φ r g->Q v j):dE K t I H Q:=by
 refine⟨⟨[],qU,H⟩,C,[],Φ,l.len,l.ds,J,λr g v j f d q=>k r g v j (λb o e=>d.fr b o e aR) ?_ (Jd f λp c=>d.ok p (aL _ c)) q⟩;have:=d.ok (r,some v) (by simp);cases r with
 | n=>trivial
 | v d=>obtain⟨w,e,r⟩:=this;cases e;exact r.mono (.all λ_ _=>trivial)
 | o d=>obtain⟨a,e,r⟩:=this;cases e;exact Kt r
end
section
variable {K:nH}
theorem SV.ten (h:SV K H [U,s1,s2,s3,s4,s5,s6,s7,s8,s9] σ):∃ g j l o p r C I J T,σ=[g,j,l,o,p,r,C,I,J,T]/\xV K H U g/\xV K H s1 j/\xV K H s2 l/\xV K H s3 o/\xV K H s4 p/\xV K H s5 r/\xV K H s6 C/\xV K H s7 I/\xV K H s8 J/\xV K H s9 T:=by
 cases h with | cons a h=>cases h with | cons b h=>cases h with | cons c h=>cases h with | cons d h=>cases h with | cons e h=>cases h with | cons f h=>cases h with | cons i h=>cases h with | cons k h=>cases h with | cons m h=>cases h with | cons n h=>cases h;exact⟨_,_,_,_,_,_,_,_,_,_,rfl,a,b,c,d,e,f,i,k,m,n⟩
theorem N7 (l:SV K H r C) (I:t [] r Φ) (k:∀ b g j,pG H j->SV K j (g.map Gy) C->Φ b g->Q b j):tE K t C H Q:=by
 exact⟨⟨[],qU,H⟩,r,[],Φ,l.len,l.ds,I,λb g j c d q=>k b g j (λb o e=>d.fr b o e aR) (Jd c λp a=>d.ok p (aL _ a)) q⟩
theorem SV.put (h:SV K H g j) (i:Nat) (x:Ab V) (e:g[i]?=some .n):SV K H g (j.set i x):=by
 induction h generalizing i with
 | nil=>exact .nil
 | cons a b c =>
  cases i with
  | zero =>
   rw[kF] at e;cases e;exact .cons trivial b
  | succ i=>rw[kG] at e;exact .cons a (c i e)
end
end L2
namespace Lw
open PySem L2 PySem.Spec
theorem Nw {X:Cx}(K:nH) (g:X.K=K:=by rfl):qC X (.builtin "isinstance") (Vu K):=by subst g;exact Xe
theorem K5 {X:Cx}(K:nH) (g:X.K=K:=by rfl):qC X (.builtin "isinstance") (S5 K):=by subst g;exact PN
theorem DP {X:Cx}(K:nH) (l:PE X e o) (j:attributeBase e f X.env (eval e X.env)=eval e X.env) (g:X.K=K:=by rfl):PE X (.Attribute e f pos) (Sv K o f):=by subst g;exact FV l j
structure XM4 (K:nH) (mg:Str->Option Value) (CN CC CA CL:Addr):Prop where
 mN:mg "NoName" = some (.ref CN)
 mC:mg "NoCell" = some (.ref CC)
 mA:mg "NoAsk" = some (.ref CA)
 mL:mg "NoClaim" = some (.ref CL)
 mI:mg "isinstance" = none
 nN:PySem.W.kitOne K (.ref CN) (.ref CN)=some true
 n3:PySem.W.kitAny K (.ref CN) [.ref CA,.ref CC,.ref CL]=some false
 cC:PySem.W.kitOne K (.ref CC) (.ref CC)=some true
 c3:PySem.W.kitAny K (.ref CC) [.ref CA,.ref CL,.ref CN]=some false
 lL:PySem.W.kitOne K (.ref CL) (.ref CL)=some true
 l3:PySem.W.kitAny K (.ref CL) [.ref CA,.ref CC,.ref CN]=some false
 xN:PySem.W.XFacts K CN
 xC:PySem.W.XFacts K CC
 xL:PySem.W.XFacts K CL
 aN:∃ N bm i,sI K CN N bm i=true/\PySem.W.findIn K (.ref CN) "word" = some none
def Ft (K:nH):Sp:=λe H Q _=>∃ (a:Aa Int) (v0:V),e=[v0]/\Rep K qU H (.c (a.map D.int)) v0/\a.length<=63/\∀ d,Q (.b true) d
abbrev pD (g:Aa (Af×Af)):D:=.t (g.map λp=>D.t [.str p.1,.str p.2])
theorem uO.same (h:uO x e H) (s:pG H g):uO x e g:=by
 rcases h with⟨a,b⟩ | ⟨c,a,b⟩
 .exact .inl ⟨a,s _ _ b⟩
 .exact .inr ⟨c,s _ _ a,s _ _ b⟩
theorem uO.obj (h:uO x e H):∃ l,H e=some (qR e (.ref x.1) l)/\∀ j,pG H j->∀ g,l=some g->∃ fs,j g=some (.xd fs):=by
 rcases h with⟨b,a⟩ | ⟨c,b,a⟩
 .exact⟨none,a,λj s g e=>by cases e⟩
 .exact⟨some c,b,λj s g e=>by cases e;exact⟨_,s _ _ a⟩⟩
theorem LC {D:Cel}(I:RG C l) (J:RG D r) (T:∀ p∈j,p.2∈D.ins):Fits (jC C D j) (jP l r j)↔InB (jC C D j) (jP l r j):=by
 refine⟨λc=>⟨λx d=>(IE I J T c x d).2.2,c.i,c.o,c.g,c.a⟩,λb=>⟨b.i,b.o,b.g,b.a,λx d=>?_,λd=>?_⟩⟩
 .have:=b.n x d;unfold tK at this;simp only[cX,eT] at this;omega
 .have:=b.n _ d;revert this;decide +kernel
theorem Xr (K:nH) (v:Ac):PySem.W.kitOne K v v=some true:=by unfold PySem.W.kitOne;rw[if_pos (by simp)]
theorem Pa:∀ (g:Aa (Af×Af)) (os is:Aa Af),PrsOk os is g->qQ os is g=none
 | [],_,_,_=>rfl
 | p::g,os,is,h=>by
  obtain⟨f,i⟩:=h.m p aI;obtain⟨b,c⟩:=bP.mp h.n1;obtain⟨d,e⟩:=bP.mp h.n2;rw[Ih,aQ f,aQ i];refine Pa g _ _ ⟨c,e,λq a=>⟨vV.mpr ⟨(h.m q (aV _ a)).1,λz=>?_⟩,vV.mpr ⟨(h.m q (aV _ a)).2,λz=>?_⟩⟩⟩
  .exact b (aO.mpr ⟨q,a,aJ.mp z⟩)
  .exact d (aO.mpr ⟨q,a,aJ.mp z⟩)
theorem Tp:∀ (g:Aa (Af×Af)) (os is:Aa Af),PrsOk os is g->z∉os->qQ os is (g++[(z,y)])=some z
 | [],os,is,_,b=>by rw[hV,Ih,aG b]
 | p::g,os,is,h,b=>by
  obtain⟨i,k⟩:=h.m p aI;obtain⟨c,d⟩:=bP.mp h.n1;obtain⟨e,f⟩:=bP.mp h.n2;rw[cT,Ih,aQ i,aQ k];refine Tp g _ _ ⟨d,f,λq a=>⟨vV.mpr ⟨(h.m q (aV _ a)).1,λz=>?_⟩,vV.mpr ⟨(h.m q (aV _ a)).2,λz=>?_⟩⟩⟩ λq=>b (vV.mp q).1
  .exact c (aO.mpr ⟨q,a,aJ.mp z⟩)
  .exact e (aO.mpr ⟨q,a,aJ.mp z⟩)
section
variable {P:Ah}{K:nH}
theorem wO:FnScope ["script","one","other","pairs","claims","kept","strange","caught","due","found"] ["script"] (oC B6):=pK
theorem CY (F:Fun K "law" "law" B6 f fd) (T:Txt mg) (M:XM4 K mg CN CC CA CL) (ac:Gd K mg "_law_two_rows" Go ["script"] f1 cw) (aj:Gd K mg "_law_pairs" Iu ["script","one","other"] f2 cx) (aa:Gd K mg "_law_claim" F7 ["script","at","row"] f3 cy) (ab:Gd K mg "_law_made_even" Ji ["script","pairs","one","other"] f4 cz) (ag:Gd K mg "_law_copies" Iq ["claims"] f5 c0) (ak:Gd K mg "_law_word" Cp ["script","i"] f6 c2) (U:Gd K mg "_law_caught" G9 ["one","other","pairs","claims"] f7 c4) (aq:Gd K mg "_law_due" Jr ["one","other","pairs","claims"] f8 c5) (ai:Gd K mg "_law_great" Gh ["one","other","pairs"] f9 c6) (I:Gd K mg "claims_together" Ee ["one","other","pairs","claim_one","claim_other"] fa c7) (g:Gd K mg "_law_bare" Jf ["claim"] fb c8) (a0:FnOk P w K mg base oM 6 f1 cw ["script"] (pF K Pk)) (a5:FnOk P w K mg base oM 3 f2 cx ["script","one","other"] (pF K Q1)) (au:FnOk P w K mg base oM 2 f3 cy ["script","at","row"] (λvs H Q _=>Cu K Qb vs H Q λ_ _ _=>False)) (av:FnOk P w K mg base oM 2 f4 cz ["script","pairs","one","other"] (Ut K)) (a2:FnOk P w K mg base oM 1 f5 c0 ["claims"] (pF K V9)) (a7:FnOk P w K mg base oM 2 f6 c2 ["script","i"] (pF K G3)) (ao:FnOk P w K mg base oM 7 f7 c4 ["one","other","pairs","claims"] (Po K CN CC CL)) (ba:FnOk P w K mg base oM 2 f8 c5 ["one","other","pairs","claims"] (pF K Wr)) (a4:FnOk P w K mg base oM 2 f9 c6 ["one","other","pairs"] (pF K P9)) (ae:FnOk P w K mg base oM 6 fa c7 ["one","other","pairs","claim_one","claim_other"] (λvs H Q _=>Cu K (Lu CN CC CL) vs H Q λ_ _ _=>False)) (af:FnOk P w K mg base oM 1 fb c8 ["claim"] (pF K Of)):FnOk P w K mg base oM 8 f fd ["script"] (Ft K):=by
 refine F.ok (k:=7) wO (λvs H Q E h=>?_) (λdm A dg s H vs Q E hr h=>?_)
 .obtain⟨_,_,rfl,_⟩:=h;rfl
 .obtain⟨ns,v0,rfl,r0,ln,hQ⟩:=h;have hu:=tW hr;let sc:Sl:=.v (.c (ns.map D.int));have ct:SV K H [sc,.n,.n,.n,.n,.n,.n,.n,.n,.n] (L2.start ["script","one","other","pairs","claims","kept","strange","caught","due","found"] [v0]):=.cons ⟨v0,rfl,r0⟩ (.cons trivial (.cons trivial (.cons trivial (.cons trivial (.cons trivial (.cons trivial (.cons trivial (.cons trivial (.cons trivial .nil)))))))));refine rO (λO R=>∃ C X S Y,RG C X/\RG S Y/\(wW ns C/\A6 C)/\wW ns S/\SV K R [sc,.v (nD C X),.v (nD S Y),.n,.n,.n,.n,.n,.n,.n] O) (λu B=>⟨_,(AY (m:=99) (pS a0 (hr.mono (by decide)) (by rfl) ac.m ac.k ac.b (dK (eH 0) gV)) (rZ (n:=2) rfl (oX (nU 1 wO.nd) (oX (nU 2 wO.nd) rY)))),Bd (De:={ nx:=λρ=>∃ C X S Y,RG C X/\RG S Y/\(wW ns C/\A6 C)/\wW ns S/\ρ=[sc,.v (nD C X),.v (nD S Y),.n,.n,.n,.n,.n,.n,.n],rt:=λ_=>False }) ct ⟨ns,rfl,ln,λC X S Y q1 q2 q3 q4=>⟨.inl rfl,rfl,rfl,⟨C,X,S,Y,q1,q2,q3,q4,rfl⟩⟩⟩ (λbe ar H' _ _ ah ⟨C,X,S,Y,q1,q2,q3,q4,e⟩=>B _ _ ⟨C,X,S,Y,q1,q2,q3,q4,by rw[e] at ah;exact ah⟩) (λ_ _ _ _ _ z=>z.elim) (λ_ z=>z) (λ_ z=>z)⟩) ?_;rintro O H1 ⟨C,X,S,Y,h1,h2,⟨dk,og⟩,st2,L⟩;have a1:=h1.gc.li;have a3:=h1.gc.lo;have c1:=h2.gc.li;have d1:=h1.lp;have d2:=h2.lp;have n2:S.ins.Nodup:=(bW.mp h2.gc.nd).1;let so:Sl:=.v (nD C X);let sp:Sl:=.v (nD S Y);refine rO (λO R=>∃ G,PrsOk (oR C X) (oZ S Y) G/\G.length<=4/\SV K R [sc,so,sp,.v (pD G),.n,.n,.n,.n,.n,.n] O) (λu B=>⟨_,(oB 3 wO.nd (pS a5 (hr.mono (by decide)) (by rfl) aj.m aj.k aj.b (dK (eH 0) (dK (eH 1) (dK (eH 2) gV))))),Bd (De:={ nx:=λρ=>∃ G,PrsOk (oR C X) (oZ S Y) G/\G.length<=4/\ρ=[sc,so,sp,.v (pD G),.n,.n,.n,.n,.n,.n],rt:=λ_=>False }) L ⟨ns,C,X,S,Y,rfl,ln,by omega,by omega,by omega,by omega,h1.gc.ond,n2,λG pk lp=>⟨.inl rfl,⟨G,pk,lp,rfl⟩⟩⟩ (λbe ar H' _ _ ah ⟨G,q1,q2,e⟩=>B _ _ ⟨G,q1,q2,by rw[e] at ah;exact ah⟩) (λ_ _ _ _ _ z=>z.elim) (λ_ z=>z) (λ_ z=>z)⟩) ?_;clear L;rintro O Hp ⟨G,pk,lp,L⟩;obtain⟨_,_,_,_,x4,x5,x6,x7,x8,x9,rfl,⟨v0,rfl,r0⟩,⟨v1,rfl,r1⟩,⟨v2,rfl,r2⟩,⟨v3,rfl,r3⟩,_⟩:=L.ten;clear ct;refine rO (λO H3=>∃ (k1 k2:pL) (t1 t2:nQ) (ta ea wa tb eb wb l:Ad),EdOk X k1/\WtOk C X t1/\EdOk Y k2/\WtOk S Y t2/\t2.length<=101/\pG Hp H3/\Hp wb=none/\wa≠wb/\ea≠wb/\eb≠wb/\H3 l=some (.l [.ref ta,.ref tb])/\H3 ta=some (.t [.ref ea,.ref wa])/\H3 tb=some (.t [.ref eb,.ref wb])/\H3 ea=some (.k (vK k1))/\H3 wa=some (.k (vT t1))/\H3 eb=some (.k (vK k2))/\H3 wb=some (.k (vT t2))/\O=[some v0,some v1,some v2,some v3,some (.ref l),x5,x6,x7,x8,x9]) (λu B=>?_) ?_
  .refine⟨_,zX (i:=4) wO.nd rfl (Or.inl rfl) (Uv (oH (yA au (hr.mono (by decide)) rfl aa.m aa.k aa.b .nil Ao (oH (pv 0) (oH tV (oH (pv 1) qN)))) (oH (yA au (hr.mono (by decide)) rfl aa.m aa.k aa.b .nil Ao (oH (pv 0) (oH tV (oH (pv 2) qN)))) qN))),?_⟩;have fe:∀ {a8:Aa (Af×Af)} {kv:pL},EdOk a8 kv->tM kv:=λ{a8 kv} h q hq=>by obtain⟨_,_,_,z⟩:=h.ks q hq;exact z
   refine⟨_,rfl,_,rfl,[],qU,[.c (ns.map D.int),.int 300,nD C X],λk1 k2=>∃ t,EdOk X k1/\WtOk C X t/\k2=hI t,λ_=>False,.inl rfl,λ_ _=>aR,.cons r0 (.cons (.int 300) (.cons r1 .nil)),⟨ns,300,C,X,rfl,ln,by decide,h1,λcv t q1 q2 _=>⟨t,q1,q2,rfl⟩⟩,?_,λ_ z=>z.elim⟩;rintro k1 _ ta ea wa R ⟨t1,q1,q2,rfl⟩ c9 _ dt dq dv dp bb dh cq;have s1:pG Hp R:=λb o e=>c9 b o e aR
   refine⟨_,rfl,_,rfl,[],qU,[.c (ns.map D.int),.int 340,nD S Y],λk1 k2=>∃ t,EdOk Y k1/\WtOk S Y t/\t.length<=101/\k2=hI t,λ_=>False,.inl rfl,λ_ _=>aR,.cons (r0.mono (.same s1 λ_ z=>z)) (.cons (.int 340) (.cons (r2.mono (.same s1 λ_ z=>z)) .nil)),⟨ns,340,S,Y,rfl,ln,by decide,h2,λcv t q1 q2 q3=>⟨t,q1,q2,q3,rfl⟩⟩,?_,λ_ z=>z.elim⟩;rintro k2 _ tb eb wb H3 ⟨t2,q3,q4,q5,rfl⟩ da _ du dr br de bc di dj;have s2:pG R H3:=λb o e=>da b o e aR
   refine⟨by show 2<=sizeLine;decide,λl nl=>B _ _ ?_⟩;have s3:pG H3 (upd H3 l (.l [.ref ta,.ref tb])):=zS nl;have ha:=Aw (fe q1) dh;have hb:=Aw (zB t1) cq;have hc:=Aw (fe q3) di;have hd:=Aw (zB t2) dj;rw[<- Dq] at hb hd;have nn:∀ {b:Ad} {o:HO},R b=some o->b≠wb:=λe z=>by rw[z,br] at e;cases e
   exact⟨k1,k2,t1,t2,ta,ea,wa,tb,eb,wb,l,q1,q2,q3,q4,q5,pG.trans (pG.trans s1 s2) s3,(by cases e:Hp wb with | none=>rfl | some o=>exact absurd rfl (nn (s1 _ _ e))),nn hb,nn ha,de,oO,s3 _ _ (s2 _ _ bb),s3 _ _ bc,s3 _ _ (s2 _ _ ha),s3 _ _ (s2 _ _ hb),s3 _ _ hc,s3 _ _ hd,rfl⟩
  rintro _ H3 ⟨k1,k2,t1,t2,ta,ea,wa,tb,eb,wb,l,aw,bg,ax,bo,dc,sP,br,b5,cm,cn,hl,bb,bc,cf,bz,cg,bn,rfl⟩;have fe:∀ {a8:Aa (Af×Af)} {kv:pL},EdOk a8 kv->tM kv:=λ{a8 kv} h q hq=>by obtain⟨_,_,_,z⟩:=h.ks q hq;exact z
  refine rO (λO H4=>∃ t2,WtOk S Y t2/\SV K H4 [sc,so,sp,.v (pD G),.v (yI k1 k2 t1 t2),.n,.n,.n,.n,.n] O) (λu B=>?_) ?_
  .refine⟨_,At (yA av (hr.mono (by decide)) rfl ab.m ab.k ab.b .nil Ao (oH (pv 0) (oH (pv 3) (oH (wK Bg (pv 4) tV (λ_ _=>rfl)) (oH (wK Bg (pv 4) tV (λ_ _=>rfl)) qN))))),?_⟩;refine⟨_,rfl,_,rfl,.ref l,rfl,l,_,0,.ref ta,rfl,rfl,nX.of hl,pU (j:=0) rfl,.ref l,rfl,l,_,1,.ref tb,rfl,rfl,nX.of hl,pU (j:=1) rfl,?_⟩;refine⟨qU,ns,G,v0,v3,ta,tb,ea,wa,eb,wb,t1,t2,rfl,r0.mono (.same sP λ_ z=>z),r3.mono (.same sP λ_ z=>z),ln,by omega,bb,bc,bz,bn,b5,bo.nd,by omega,λt' H4 b1 b2 b3=>B _ _ ?_⟩;have up:∀ {d:D} {v:V},Rep K qU Hp d v->Rep K qU H4 d v:=λ{d v} r=>by
    have nn:∀ {a:Ad} {o:HO},Hp a=some o->H4 a=some o:=λ{a o} e=>b1 _ _ (λz=>by rw[z,br] at e;cases e) (sP _ _ e)
    exact (r.live.on (λa o _ e=>nn e) (λa xs e=>nn e) (λa o u e=>nn e)).mono (.all λ_ _=>trivial)
   have db:H4 l=some (.l [.ref ta,.ref tb]):=b1 _ _ (λz=>by rw[z,bn] at hl;cases hl) hl;have cj:=b1 _ _ (λz=>by rw[z,bn] at bb;cases bb) bb;have ck:=b1 _ _ (λz=>by rw[z,bn] at bc;cases bc) bc;rw[Dq] at b2;have bu:=b1 _ _ b5 bz;rw[Dq] at bu;have rc:Rep K qU H4 (yI k1 k2 t1 t') (.ref l):=.l trivial db (.cons (.t cj (.cons (Cz (fe aw) trivial (b1 _ _ cm cf)) (.cons (Cz (zB t1) trivial bu) .nil))) (.cons (.t ck (.cons (Cz (fe ax) trivial (b1 _ _ cn cg)) (.cons (Cz (zB t') trivial b2) .nil))) .nil));have le:=b3.le;refine⟨t',⟨b3.nd,λx hx=>?_,by omega⟩,.cons ⟨_,rfl,up r0⟩ (.cons ⟨_,rfl,up r1⟩ (.cons ⟨_,rfl,up r2⟩ (.cons ⟨_,rfl,up r3⟩ (.cons ⟨_,rfl,rc⟩ (.cons trivial (.cons trivial (.cons trivial (.cons trivial (.cons trivial .nil)))))))))⟩;rcases b3.ks x hx with z | z
   .exact bo.ks x z
   .obtain⟨p,hp,rfl⟩:=aO.mp z;exact .inl (bR.mp (pk.m p hp).2).1
  clear hl bb bc cf bz cg bn b5 cm cn br bo dc sP r0 r1 r2 r3 L;clear t2;rintro O H4 ⟨t2,bh,L⟩;let cl:D:=yI k1 k2 t1 t2;let sq:Sl:=.v (pD G);let sl:Sl:=.v cl;refine rO (λO R=>SV K R [sc,so,sp,sq,sl,sl,.n,.n,.n,.n] O) (λu B=>⟨_,(oB 5 wO.nd (pS a2 (hr.mono (by decide)) (by rfl) ag.m ag.k ag.b (dK (eH 4) gV))),Bd (De:={ nx:=λρ=>ρ=[sc,so,sp,sq,sl,.o cl,.n,.n,.n,.n],rt:=λ_=>False }) L ⟨k1,k2,t1,t2,rfl,.inl rfl,rfl⟩ (λbe ar H' _ _ ah e=>B _ _ (by rw[e] at ah;exact ah)) (λ_ _ _ _ _ z=>z.elim) (λ_ z=>z) (λ_ z=>z)⟩) ?_;clear L;rintro O H5 L;let z:Af:=oU ns 20;refine rO (λO R=>SV K R [sc,so,sp,sq,sl,sl,.v (.str z),.n,.n,.n] O) (λu B=>⟨_,(oB 6 wO.nd (pS a7 (hr.mono (by decide)) (by rfl) ak.m ak.k ak.b (dK (eH 0) (dK gD gV)))),Bd (De:={ nx:=λρ=>ρ=[sc,so,sp,sq,sl,sl,.v (.str z),.n,.n,.n],rt:=λ_=>False }) L ⟨ns,20,rfl,ln,by decide,.inl rfl,rfl⟩ (λbe ar H' _ _ ah e=>B _ _ (by rw[e] at ah;exact ah)) (λ_ _ _ _ _ z=>z.elim) (λ_ z=>z) (λ_ z=>z)⟩) ?_;clear L;rintro O H6 L;have az:uK z:=⟨λc hc=>by have:=((Nk ns 20).az c hc).2;show c<4294967296;omega,by have:=(Nk ns 20).hi;show (oU ns 20).length<=1000;omega⟩;have cc:∀ {x:Af},AZ x->uK x:=λ{x} h=>⟨λc hc=>by have:=(h.az c hc).2;show c<4294967296;omega,by have:=h.hi;omega⟩
  have bt:∀ p∈G,uK p.1/\uK p.2:=λp hp=>⟨cc (h1.az _ (h1.gc.os _ (bR.mp (pk.m p hp).1).1)),cc (h2.az _ (aL _ (bR.mp (pk.m p hp).2).1))⟩
  have zo:z∉oR C X:=λq=>dk.1 (h1.gc.os _ (bR.mp q).1)
  have an:qQ (oR C X) (oZ S Y) G=none:=Pa _ _ _ pk;have bd:qQ (oR C X) (oZ S Y) (G++[(z,z)])=some z:=Tp _ _ _ pk zo;refine rO (λO R=>∃ e,uO (Ak CN z) e R/\SV K R [sc,so,sp,sq,sl,sl,.v (.str z),.v (.r (.ref e)),.n,.n] O) (λu B=>?_) ?_
  .obtain⟨_,_,_,_,_,_,_,x7,x8,x9,rfl,⟨v0,rfl,r0⟩,⟨v1,rfl,r1⟩,⟨v2,rfl,r2⟩,⟨v3,rfl,r3⟩,⟨v4,rfl,r4⟩,⟨v5,rfl,r5⟩,⟨v6,rfl,r6⟩,_,_,_⟩:=L.ten;refine⟨_,zX (i:=7) wO.nd rfl (Or.inl rfl) (yA ao hr rfl U.m U.k U.b .nil Ao (oH (pv 1) (oH (pv 2) (oH (pH oE oF 3 (oW (dK (oW (dK (eH 6) (dK (eH 6) gV))) gV))) (oH (pv 4) qN))))),?_⟩;refine⟨_,rfl,_,rfl,MY (Φ:=λr ρ=>r = .v (pD (G++[(z,z)]))) L ?_ ?_⟩
   .refine⟨rfl,by show 2<=1000;decide,by show 1<=1000;decide,by show _+1<=100000;rw[aA];omega,?_⟩;show Sl.v (D.t (G.map (λp=>D.t [.str p.1,.str p.2])++[D.t [.str z,.str z]]))=Sl.v (pD (G++[(z,z)]));unfold pD;rw[aT];rfl
   .rintro _ be v H7 s7 rv _ rfl;have rv:Rep K qU H7 (pD (G++[(z,z)])) v:=rv;refine⟨_,rfl,qU,C,S,X,Y,G++[(z,z)],k1,k2,t1,t2,some (Ak CN z),.cons (r1.mono (.same s7 λ_ z=>z)) (.cons (r2.mono (.same s7 λ_ z=>z)) (.cons rv (.cons (r4.mono (.same s7 λ_ z=>z)) .nil))),h1,h2,λp hp=>?_,by rw[aE];show G.length+1<=40;omega,aw,ax,⟨λy hy=>(by rw[bd] at hy;cases hy;rfl),λhy=>(by rw[bd] at hy;cases hy),λhy=>(by rw[bd] at hy;cases hy),λhy=>(by rw[bd] at hy;cases hy)⟩,λy=>(by cases y),λx hx e H8 xo s8=>B _ _ ?_⟩
    .rcases aW.mp hp with q | q
     .exact bt p q
     .rw[aJ.mp q];exact⟨az,az⟩
    .cases hx;exact⟨e,xo,(L.same (pG.trans s7 s8)).set 7 (.r _)⟩
  clear L;rintro O H7 ⟨e,xo,L⟩;refine rO (λO R=>uO (Ak CN z) e R/\SV K R [sc,so,sp,sq,sl,sl,.v (.str z),.v (.r (.ref e)),.n,.n] O) (λu B=>?_) ?_
  .obtain⟨x0,x1,x2,x3,x4,x5,_,_,x8,x9,rfl,_,_,_,_,_,_,⟨v6,rfl,r6⟩,⟨v7,rfl,r7⟩,_,_⟩:=id L.ten;cases r6;cases r7;refine⟨_,yP (PW.pt (O4 (M0 (M7 (yX (Nw K) (by rfl) M.mI dP (oH (pv 7) (oH (tQ (v:=.ref CN) (by rfl) M.mN rfl) qN))))) (Rw (F9 Nh (DP K (pv 7) rfl) (pv 6) (Ce _))))) (sV (wT Dc)) yF,?_⟩;rcases id xo with⟨q,_⟩ | ⟨dd,he,hd⟩
   .cases q
   obtain⟨N,bm,ii,xc,fr⟩:=M.aN;refine⟨_,rfl,e,CN,some dd,.ref CN,.ref CN,true,rfl,.inl ⟨CN,rfl,rfl⟩,he,λdn y=>by cases y;exact⟨_,hd⟩,M.xN,M.nN,_,rfl,uZ ?_⟩;refine⟨_,rfl,e,CN,N,dd,bm,ii,_,.str z,rfl,he,hd,rfl,M.xN,xc,fr,?_⟩;exact⟨_,rfl,rfl,_,rfl,qL (by simp) (B _ _ ⟨xo,L⟩)⟩
  clear L xo;rintro O H8 ⟨xo,L⟩;refine rO (λO R=>SV K R [sc,so,sp,sq,sl,sl,.v (.str z),.v (.r (.ref e)),.n,.n] O) (λu B=>?_) ?_
  .obtain⟨x0,x1,x2,x3,x4,x5,x6,_,x8,x9,rfl,_,_,_,_,_,_,_,⟨v7,rfl,r7⟩,_,_⟩:=id L.ten;cases r7;refine⟨_,yP (M7 (yX (K5 K) (by rfl) M.mI dP (oH (pv 7) (oH (zU (oH (tQ (v:=.ref CA) (by rfl) M.mA rfl) (oH (tQ (v:=.ref CC) (by rfl) M.mC rfl) (oH (tQ (v:=.ref CL) (by rfl) M.mL rfl) qN)))) qN)))) (sV (wT Dc)) yF,?_⟩;obtain⟨od,he,hd⟩:=xo.obj;refine⟨_,rfl,(by show 3<=sizeLine;decide),λtq a6=>⟨e,CN,tq,od,[CA,CC,CL],false,rfl,oO,zS a6 _ _ he,hd _ (zS a6),M.xN,M.n3,?_⟩⟩;exact⟨_,rfl,uZ (B _ _ (L.same (zS a6)))⟩
  clear L xo;rintro O H9 L;have fe:∀ {a8:Aa (Af×Af)} {kv:pL},EdOk a8 kv->tM kv:=λ{a8 kv} h q hq=>by obtain⟨_,_,_,z⟩:=h.ks q hq;exact z
  have bf:∀ {t:nQ},(t.map (·.1)).Nodup->Bj (hI t):=λ{t} h=>⟨by unfold hI;rw[List.map_map];have:=Xs h;rw[aU] at this;exact this,zB t⟩
  let W:nQ:=zI G t1 t2;let J:=jC C S G;let PJ:=jP X Y G;have lk:∀ y,look W y=look (pW C S X Y G t1 t2) y:=AS h1 h2 pk.n1 bg bh;let dT:D:=.t [.k (vG G k1 k2),.k (hI (sK W G))];obtain⟨dD,bp⟩:∃ dD:D,(∀ p∈G,look W (fA p.1)=0)/\dD=dT\/(∃ p∈G,look W (fA p.1)≠0)/\dD = .e:=by
   by_cases q:∀ p∈G,look W (fA p.1)=0
   .exact⟨_,.inl ⟨q,rfl⟩⟩
   .exact⟨_,.inr ⟨eM λy=>q λp hp=>eM λx=>y ⟨p,hp,x⟩,rfl⟩⟩
  have nz:(∀ p∈G,look W (fA p.1)=0)->(∃ p∈G,look W (fA p.1)≠0)->False:=λa ⟨p,hp,h⟩=>h (a p hp)
  refine rO (λO R=>SV K R [sc,so,sp,sq,sl,sl,.v (.str z),.v (.r (.ref e)),.v dD,.n] O) (λu B=>⟨_,(oB 8 wO.nd (pS ba (hr.mono (by decide)) (by rfl) aq.m aq.k aq.b (dK (eH 1) (dK (eH 2) (dK (eH 3) (dK (eH 4) gV)))))),Bd (De:={ nx:=λρ=>ρ=[sc,so,sp,sq,sl,sl,.v (.str z),.v (.r (.ref e)),.v dD,.n],rt:=λ_=>False }) L ⟨C,X,S,Y,G,k1,k2,t1,t2,rfl,h1,h2,pk,by omega,aw,ax,bg,bh,λq=>⟨.inl rfl,?_⟩,λq=>⟨.inl rfl,?_⟩⟩ (λbe ar H' _ _ ah e=>B _ _ (by rw[e] at ah;exact ah)) (λ_ _ _ _ _ z=>z.elim) (λ_ z=>z) (λ_ z=>z)⟩) ?_
  .rcases bp with⟨y,_⟩ | ⟨_,rfl⟩
   .exact (nz y q).elim
   .rfl
  .rcases bp with⟨_,rfl⟩ | ⟨y,_⟩
   .rfl
   .exact (nz q y).elim
  clear L;rintro O Ha L;obtain⟨o,bq⟩:∃ o,N4 CN CC CL C S X Y G t1 t2 o:=by
   by_cases ib:InB J PJ
   .by_cases q:∀ p∈G,look (pW C S X Y G t1 t2) (fA p.1)=0
    .exact⟨none,λy hy=>(by rw[an] at hy;cases hy),λ_ h=>absurd ib h,λ_ _ ⟨p,hp,h⟩=>absurd (q p hp) h,λ_ _ _=>rfl⟩
    .exact⟨some (CL,[]),λy hy=>(by rw[an] at hy;cases hy),λ_ h=>absurd ib h,λ_ _ _=>rfl,λ_ _ h=>absurd h q⟩
   .exact⟨some (D8 CC),λy hy=>(by rw[an] at hy;cases hy),λ_ _=>rfl,λ_ h=>absurd h ib,λ_ h=>absurd h ib⟩
  refine rO (λO R=>∃ vC,(o=none/\vC = .e\/∃ x e,o=some x/\vC = .ref e/\uO x e R)/\SV K R [sc,so,sp,sq,sl,sl,.v (.str z),.v (.r vC),.v dD,.n] O) (λu B=>?_) ?_
  .obtain⟨_,_,_,_,_,x5,x6,x7,x8,x9,rfl,_,⟨v1,rfl,r1⟩,⟨v2,rfl,r2⟩,⟨v3,rfl,r3⟩,⟨v4,rfl,r4⟩,_⟩:=id L.ten;refine⟨_,zX (i:=7) wO.nd rfl (Or.inl rfl) (yA ao hr rfl U.m U.k U.b .nil Ao (oH (pv 1) (oH (pv 2) (oH (pv 3) (oH (pv 4) qN))))),?_⟩;exact⟨_,rfl,_,rfl,_,rfl,_,rfl,qU,C,S,X,Y,G,k1,k2,t1,t2,o,.cons r1 (.cons r2 (.cons r3 (.cons r4 .nil))),h1,h2,bt,by omega,aw,ax,bq,λho H' s=>B _ _ ⟨.e,.inl ⟨ho,rfl⟩,(L.same s).set 7 (.r _)⟩,λx ho e H' xo s=>B _ _ ⟨.ref e,.inr ⟨x,e,ho,rfl,xo⟩,(L.same s).set 7 (.r _)⟩⟩
  clear L;rintro O Hb ⟨vC,ay,L⟩;let rb:Aa Sl:=[sc,so,sp,sq,sl,sl,.v (.str z),.v (.r vC),.v dD,.n];have bx:∀ {H H':L2.Hp},pG H H'->(o=none/\vC = .e\/∃ x e,o=some x/\vC = .ref e/\uO x e H)->(o=none/\vC = .e\/∃ x e,o=some x/\vC = .ref e/\uO x e H'):=λs h=>by
   rcases h with h | ⟨x,e,a,b,c⟩
   .exact .inl h
   .exact .inr ⟨x,e,a,b,c.same s⟩
  refine rO (λO R=>(o=none/\vC = .e\/∃ x e,o=some x/\vC = .ref e/\uO x e R)/\SV K R rb O) (λu B=>⟨_,(wF (yS (Uy hr.units) J9 (pv 4) (eH 5)) (oN (pT Sr)) tN),Bd (De:={ nx:=λρ=>ρ=rb,rt:=λ_=>False }) L ⟨rfl,k1,hI t1,k2,hI t2,rfl,rfl,⟨aw.nd,fe aw⟩,bf bg.nd,⟨ax.nd,fe ax⟩,bf bh.nd,rfl⟩ (λbe ar H' s _ ah e=>B _ _ ⟨bx s ay,by rw[e] at ah;exact ah⟩) (λ_ _ _ _ _ z=>z.elim) (λ_ z=>z) (λ_ z=>z)⟩) ?_;clear L ay;rintro O Hc ⟨ay,L⟩;have pin:∀ p∈G,p.2∈S.ins:=λp hp=>(bR.mp (pk.m p hp).2).1
  have fi:=LC h1 h2 pin;refine rO (λO R=>InB J PJ/\(o=none/\vC = .e\/∃ x e,o=some x/\vC = .ref e/\uO x e R)/\SV K R rb O) (λu B=>?_) ?_
  .obtain⟨x0,x1,x2,x3,x4,x5,x6,_,x8,x9,rfl,_,_,_,_,_,_,_,⟨v7,rfl,r7⟩,_,_⟩:=id L.ten;cases r7;refine⟨_,yP (Kr (pS a4 (hr.mono (by decide)) (by rfl) ai.m ai.k ai.b (dK (eH 1) (dK (eH 2) (dK (eH 3) gV))))) (sV (wT (E6 (yX (Nw K) (by rfl) M.mI dP (oH (pv 7) (oH (tQ (v:=.ref CC) (by rfl) M.mC rfl) qN))) (J7 (P0 (yX (K5 K) (by rfl) M.mI dP (oH (pv 7) (oH (zU (oH (tQ (v:=.ref CA) (by rfl) M.mA rfl) (oH (tQ (v:=.ref CL) (by rfl) M.mL rfl) (oH (tQ (v:=.ref CN) (by rfl) M.mN rfl) qN)))) qN)))))))) yF,?_⟩;refine N7 (Φ:=λb ρ=>(b=true↔¬ Fits J PJ)/\ρ=rb) L ⟨C,X,S,Y,G,rfl,h1,h2,pk,by omega,λb hb=>⟨.inl rfl,rfl,b,rfl,hb,rfl⟩⟩ ?_;rintro b be H' s' ah ⟨hb,e'⟩;rw[e'] at ah;cases b with
   | false=>exact uZ (B _ _ ⟨fi.mp (eM λy=>absurd (hb.mpr y) (by decide)),bx s' ay,ah⟩)
   | true =>
    have df:¬ InB J PJ:=λib=>hb.mp rfl (fi.mpr ib)
    have ho:=bq.2.1 an df;rcases ay with⟨a,_⟩ | ⟨x,e,a,rfl,xo⟩
    .rw[ho] at a;cases a
    rw[ho] at a;cases a;refine (aQ rfl).mpr ?_;obtain⟨od,he,hd⟩:=(xo.same s').obj;refine⟨_,rfl,e,CC,od,.ref CC,.ref CC,true,rfl,.inl ⟨CC,rfl,rfl⟩,he,hd _ (pG.refl _),M.xC,M.cC,_,rfl,(aQ rfl).mpr ?_⟩;exact⟨_,rfl,(by show 3<=sizeLine;decide),λtq a6=>⟨e,CC,tq,od,[CA,CL,CN],false,rfl,oO,zS a6 _ _ he,hd _ (zS a6),M.xC,M.c3,_,rfl,hQ _⟩⟩
  clear L ay;rintro O Hd ⟨ib,ay,L⟩;refine rO (λO R=>(∀ p∈G,look W (fA p.1)=0)/\dD=dT/\(o=none/\vC = .e\/∃ x e,o=some x/\vC = .ref e/\uO x e R)/\SV K R rb O) (λu B=>?_) ?_
  .obtain⟨x0,x1,x2,x3,x4,x5,x6,_,_,x9,rfl,_,_,_,_,_,_,_,⟨v7,rfl,r7⟩,⟨v8,rfl,r8⟩,_⟩:=id L.ten;cases r7;refine⟨_,yP (U6 (W7 (pv 8))) (sV (wT (E6 (yX (Nw K) (by rfl) M.mI dP (oH (pv 7) (oH (tQ (v:=.ref CL) (by rfl) M.mL rfl) qN))) (J7 (P0 (yX (K5 K) (by rfl) M.mI dP (oH (pv 7) (oH (zU (oH (tQ (v:=.ref CA) (by rfl) M.mA rfl) (oH (tQ (v:=.ref CC) (by rfl) M.mC rfl) (oH (tQ (v:=.ref CN) (by rfl) M.mN rfl) qN)))) qN)))))))) yF,?_⟩;rcases bp with⟨y,hd⟩ | ⟨y,hd⟩
   .have b6:Rep K qU Hd dT v8:=hd▸r8;obtain⟨a,_,_,rfl,_⟩:=xZ b6;exact⟨_,rfl,_,rfl,uZ (B _ _ ⟨y,hd,ay,L⟩)⟩
   .have b6:Rep K qU Hd .e v8:=hd▸r8;cases b6;have y':∃ p∈G,look (pW C S X Y G t1 t2) (fA p.1)≠0:=by
     obtain⟨p,hp,h⟩:=y;exact⟨p,hp,by rw[<- lk];exact h⟩
    have ho:=bq.2.2.1 an ib y';rcases ay with⟨a,_⟩ | ⟨x,e,a,rfl,xo⟩
    .rw[ho] at a;cases a
    rw[ho] at a;cases a;refine⟨_,rfl,_,rfl,(aQ rfl).mpr ?_⟩;obtain⟨od,he,hd⟩:=xo.obj;refine⟨_,rfl,e,CL,od,.ref CL,.ref CL,true,rfl,.inl ⟨CL,rfl,rfl⟩,he,hd _ (pG.refl _),M.xL,M.lL,_,rfl,(aQ rfl).mpr ?_⟩;exact⟨_,rfl,(by show 3<=sizeLine;decide),λtq a6=>⟨e,CL,tq,od,[CA,CC,CN],false,rfl,oO,zS a6 _ _ he,hd _ (zS a6),M.xL,M.l3,_,rfl,hQ _⟩⟩
  clear L ay bp;rintro O He ⟨cb,rfl,ay,L⟩;have bv:∀ p∈G,look (pW C S X Y G t1 t2) (fA p.1)=0:=λp hp=>by rw[<- lk];exact cb p hp
  obtain rfl:vC = .e:=by
   rcases ay with⟨_,a⟩ | ⟨x,e,a,_,_⟩
   .exact a
   .rw[bq.2.2.2 an ib bv] at a;cases a
  clear ay bx;refine rO (λO R=>SV K R rb O) (λu B=>?_) ?_
  .obtain⟨x0,x1,x2,x3,x4,x5,x6,_,x8,x9,rfl,_,_,_,_,_,_,_,⟨v7,rfl,r7⟩,_,_⟩:=id L.ten;cases r7;exact⟨_,yP (U6 (JX (pv 7))) (sV (wT Dc)) yF,⟨_,rfl,_,rfl,uZ (B _ _ L)⟩⟩
  clear L;rintro O Hf L;let fE:pL:=zW X Y G (eF k1) (eF k2);let fW:nQ:=rB (pW C S X Y G t1 t2);let fD:D:=.t [.k fE,.k (hI fW)];have ca:SmF fE (vG G k1 k2):=CS aw ax h1.n2 h2.n2 pk.n1;have bi:tM fE:=λp hp=>(ca.a p hp).1
  have b0:((pW C S X Y G t1 t2).map (·.1)).Nodup:=Nt _ _ (Gm ..);have b4:(W.map (·.1)).Nodup:=Ki _ _ _ (Ki _ _ _ cE);have cs:SmF (hI (rB fW)) (hI (rB (sK W G))):=by
   show SmF (hI (rB (rB (pW C S X Y G t1 t2)))) _;rw[EM];refine NK b0 (Hn G b4) λy=>?_
   rw[Nj,<- lk y];by_cases q:y∈G.map (λp=>fA p.1)
   .rw[aQ q];obtain⟨p,hp,rfl⟩:=aO.mp q;exact cb p hp
   .rw[aG q]
  have lW:W.length<=400:=by
   have q1:=Ff (qW (nZ G)) t2 (sG (qW fA) [] t1);have q2:=Ff (qW fA) t1 [];have q3:=bg.le;have q4:=bh.le;show (sG (qW (nZ G)) (sG (qW fA) [] t1) t2).length<=400;rw[dL] at q2;omega
  have lF:fW.length<=602:=by
   have q1:fW.length<=(pW C S X Y G t1 t2).length:=bK ..;have q2:=Gv (rD (nZ G) t2 S Y) (rD fA t1 C X);have q3:(rD fA t1 C X).length<=301:=Jm (by omega) (by omega) (by omega);have c3:=h2.gc.lo;have q4:(rD (nZ G) t2 S Y).length<=301:=Jm (by omega) (by omega) (by omega);have q5:(pW C S X Y G t1 t2).length<=(rD fA t1 C X).length+(rD (nZ G) t2 S Y).length:=q2;omega
  have lE:(sK W G).length<=W.length:=V2 G W;let r9:Aa Sl:=[sc,so,sp,sq,sl,sl,.v (.str z),.v (.r .e),.v dT,.v fD];refine rO (λar R=>∃ t Z fw,Hf Z=none/\Hf fw=none/\Z≠fw/\pG Hf R/\R t=some (.t [.ref Z,.ref fw])/\R Z=some (.k (vK fE))/\R fw=some (.k (vK (hI fW)))/\ar=O.set 9 (some (.ref t))) (λu B=>?_) ?_
  .obtain⟨v1,e1,r1⟩:=L.get (i:=1) (d:=nD C X) rfl;obtain⟨v2,e2,r2⟩:=L.get (i:=2) (d:=nD S Y) rfl;obtain⟨v3,e3,r3⟩:=L.get (i:=3) (d:=pD G) rfl;obtain⟨v4,e4,r4⟩:=L.get (i:=4) (d:=cl) rfl;obtain⟨l,vs,rfl,hl,rl⟩:=r4.peek.lst_inv;cases rl with
   | cons b7 rl =>
   cases rl with
   | cons b8 rl =>
   cases rl;refine⟨_,zX (i:=9) wO.nd rfl (Or.inl rfl) (yA ae (hr.mono (by decide)) rfl I.m I.k I.b .nil Ao (oH (pv 1) (oH (pv 2) (oH (pv 3) (oH (wK Bg (pv 4) tV (λ_ _=>rfl)) (oH (wK Bg (pv 4) tV (λ_ _=>rfl)) qN)))))),?_⟩;refine⟨_,e1,_,e2,_,e3,_,e4,l,_,0,_,rfl,rfl,nX.of hl,pU (j:=0) rfl,_,e4,l,_,1,_,rfl,rfl,nX.of hl,pU (j:=1) rfl,?_⟩;refine⟨[],qU,[nD C X,nD S Y,pD G,.t [.k k1,.k (hI t1)],.t [.k k2,.k (hI t2)]],λa b=>a=fE/\b=hI fW,λ_=>False,.inl rfl,λ_ _=>aR,.cons r1 (.cons r2 (.cons r3 (.cons b7 (.cons b8 .nil)))),⟨C,X,S,Y,G,k1,k2,eF k1,eF k2,t1,t2,rfl,h1,h2,bt,by omega,aw.at,ax.at,λ_ _ _=>⟨rfl,rfl⟩,λ_ _ ⟨p,hp,h⟩=>absurd (bv p hp) h,λ_ h=>absurd ib h,λy hy=>(by rw[an] at hy;cases hy)⟩,?_,λ_ z=>z.elim⟩;rintro _ _ t Z fw R ⟨rfl,rfl⟩ fr _ nt ne nw nn ht re b9;exact B _ _ ⟨t,Z,fw,ne,nw,nn,λb o e=>fr b o e aR,ht,Aw bi re,Aw (zB _) b9,rfl⟩
  rintro _ Hg ⟨t,Z,fw,n1,n3,nn,sg,ht,bj,bw,rfl⟩;have cp:∀ {Hx:L2.Hp} {t Z fw:Ad},Hx t=some (.t [.ref Z,.ref fw])->Hx Z=some (.k (vK fE))->Hx fw=some (.k (vK (hI fW)))->Rep K qU Hx fD (.ref t):=λa b c=>.t a (.cons (Cz bi trivial b) (.cons (Cz (zB _) trivial c) .nil))
  have cu:SV K Hg r9 (O.set 9 (some (.ref t))):=(L.same sg).set 9 (cp ht bj bw);refine rO (λar R=>pG Hg R/\ar=O.set 9 (some (.ref t))) (λu B=>?_) ?_
  .refine⟨_,yP (As (C8 (We (Kr (rK (AR _) MV T.isinstance dP (dK (eH 9) (dK (Yr (by rfl) T.tuple bU) gV))))) (C8 (sY (Zw hr.units) Y8 (pS af (hr.mono (by decide)) (by rfl) g.m g.k g.b (dK (eH 9) gV)) (pS af (hr.mono (by decide)) (by rfl) g.m g.k g.b (dK (eH 8) gV))) (Eu (yS (Uy hr.units) J9 (pv 4) (eH 5)))))) (sV (wT Dc)) yF,?_⟩;refine N7 (Φ:=λb ρ=>b=false) cu ?_ ?_
   .refine D9 false (false||false) (λΨ h=>⟨"tuple",true,rfl,Xr K _,rfl,true,rfl,h⟩) (λΨ h=>D9 false false (λΨ h=>⟨fE,fW,rfl,Fb b0,by omega,.inl rfl,vG G k1 k2,sK W G,rfl,Hn G b4,by omega,.inl rfl,fE,hI (rB fW),vG G k1 k2,hI (rB (sK W G)),rfl,rfl,ca,cs,h⟩) (λΨ h=>⟨rfl,k1,hI t1,k2,hI t2,rfl,rfl,⟨aw.nd,fe aw⟩,bf bg.nd,⟨ax.nd,fe ax⟩,bf bh.nd,h⟩) h) rfl
   .rintro b _ H' s' _ rfl;exact uZ (B _ _ ⟨s',rfl⟩)
  rintro _ Hh ⟨sh,rfl⟩;have h9:(O.set 9 (some (V.ref t)))[9]?=some (some (.ref t)):=by
   have:=L.len;rw[hZ (by rw[<- this];show 9<10;decide)]
  refine rO (λar R=>R=upd Hh Z (.k [])/\ar=O.set 9 (some (.ref t))) (λu B=>?_) ?_
  .refine⟨_,At (Qr eV PySem.F.slot_dict_clear PySem.F.type_dict_clear Sk (wK Et (pv 9) tV (λ_ _=>rfl))),?_⟩;exact⟨_,h9,t,_,0,.ref Z,rfl,rfl,oP.of (sh _ _ ht),pU (xs:=[V.ref Z,V.ref fw]) (j:=0) rfl,.inr (.inr (.inl ⟨rfl,.inl ⟨_,.inl (sh _ _ bj)⟩⟩)),Z,_,rfl,rfl,sh _ _ bj,B _ _ ⟨rfl,rfl⟩⟩
  rintro _ _ ⟨rfl,rfl⟩;have hw:upd Hh Z (.k []) fw=some (.k (vK (hI fW))):=by rw[nP nn.symm];exact sh _ _ bw
  have ch:upd Hh Z (.k []) t=some (.t [.ref Z,.ref fw]):=by
   rw[nP λq=>?_]
   .exact sh _ _ ht
   .rw[q,bj] at ht;cases ht
  refine rO (λar R=>R=upd (upd Hh Z (.k [])) fw (.k [])/\ar=O.set 9 (some (.ref t))) (λu B=>?_) ?_
  .refine⟨_,At (Qr eV PySem.F.slot_dict_clear PySem.F.type_dict_clear Sk (wK Et (pv 9) tV (λ_ _=>rfl))),?_⟩;exact⟨_,h9,t,_,1,.ref fw,rfl,rfl,oP.of ch,pU (xs:=[V.ref Z,V.ref fw]) (j:=1) rfl,.inr (.inr (.inl ⟨rfl,.inl ⟨_,.inl hw⟩⟩)),fw,_,rfl,rfl,hw,B _ _ ⟨rfl,rfl⟩⟩
  rintro _ _ ⟨rfl,rfl⟩;have s5:pG Hf (upd (upd Hh Z (.k [])) fw (.k [])):=λb o q=>by
   rw[nP (pJ q n3),nP (pJ q n1)];exact sh _ _ (sg _ _ q)
  have a9:SV K (upd (upd Hh Z (.k [])) fw (.k [])) rb (O.set 9 (some (.ref t))):=(L.same s5).put 9 _ rfl;clear cu h9 hw ch s5 sh ht bj bw sg n1 n3 nn;generalize upd (upd Hh Z (.k [])) fw (.k [])=Hi at a9;generalize O.set 9 (some (V.ref t))=dw at a9;clear L;refine rO (λar R=>SV K R r9 ar) (λu B=>?_) ?_
  .obtain⟨v1,e1,r1⟩:=a9.get (i:=1) (d:=nD C X) rfl;obtain⟨v2,e2,r2⟩:=a9.get (i:=2) (d:=nD S Y) rfl;obtain⟨v3,e3,r3⟩:=a9.get (i:=3) (d:=pD G) rfl;obtain⟨v4,e4,r4⟩:=a9.get (i:=4) (d:=cl) rfl;obtain⟨l,vs,rfl,hl,rl⟩:=r4.peek.lst_inv;cases rl with
   | cons b7 rl =>
   cases rl with
   | cons b8 rl =>
   cases rl;refine⟨_,zX (i:=9) wO.nd rfl (Or.inl rfl) (yA ae (hr.mono (by decide)) rfl I.m I.k I.b .nil Ao (oH (pv 1) (oH (pv 2) (oH (pv 3) (oH (wK Bg (pv 4) tV (λ_ _=>rfl)) (oH (wK Bg (pv 4) tV (λ_ _=>rfl)) qN)))))),?_⟩;refine⟨_,e1,_,e2,_,e3,_,e4,l,_,0,_,rfl,rfl,nX.of hl,pU (j:=0) rfl,_,e4,l,_,1,_,rfl,rfl,nX.of hl,pU (j:=1) rfl,?_⟩;refine⟨[],qU,[nD C X,nD S Y,pD G,.t [.k k1,.k (hI t1)],.t [.k k2,.k (hI t2)]],λa b=>a=fE/\b=hI fW,λ_=>False,.inl rfl,λ_ _=>aR,.cons r1 (.cons r2 (.cons r3 (.cons b7 (.cons b8 .nil)))),⟨C,X,S,Y,G,k1,k2,eF k1,eF k2,t1,t2,rfl,h1,h2,bt,by omega,aw.at,ax.at,λ_ _ _=>⟨rfl,rfl⟩,λ_ _ ⟨p,hp,h⟩=>absurd (bv p hp) h,λ_ h=>absurd ib h,λy hy=>(by rw[an] at hy;cases hy)⟩,?_,λ_ z=>z.elim⟩;rintro _ _ t Z fw R ⟨rfl,rfl⟩ fr _ nt ne nw nn ht re b9;exact B _ _ ((a9.same λb o e=>fr b o e aR).set 9 (cp ht (Aw bi re) (Aw (zB _) b9)))
  clear a9;rintro dx Hj L;refine⟨_,sV (pT (GK (Fg (PU hr.units) NP (pS af (hr.mono (by decide)) (by rfl) g.m g.k g.b (dK (eH 9) gV)) (pS af (hr.mono (by decide)) (by rfl) g.m g.k g.b (dK (eH 8) gV))) (Uz (IQ (KC hr.units) J9 (pv 4) (eH 5))))),Bd (De:={ nx:=λ_=>False,rt:=λr=>r = .v (.b true) }) L ?_ (λ_ _ _ _ _ _ z=>z.elim) (λr v H' _ rr e=>?_) (λ_ z=>z) (λ_ z=>z)⟩
  .exact⟨fE,fW,rfl,Fb b0,by omega,.inl rfl,vG G k1 k2,sK W G,rfl,Hn G b4,by omega,.inl rfl,fE,hI (rB fW),vG G k1 k2,hI (rB (sK W G)),rfl,rfl,ca,cs,rfl,k1,hI t1,k2,hI t2,rfl,rfl,⟨aw.nd,fe aw⟩,bf bg.nd,⟨ax.nd,fe ax⟩,bf bh.nd,rfl⟩
  .subst e;have rr:Rep K qU H' (.b true) v:=rr;cases rr;exact hQ _
end
end Lw
namespace Lw
open PySem L2 PySem.Spec PyProof.Rows
theorem Ay {K:nH}(h:K.lookup t=some ⟨.type "tuple",d,.seq g n,p⟩) (l:g.size<=sizeLine) (j:oA o g.toList):∀ H,oP K H t o :=
 λH=>.inr ⟨_,g,n,h,rfl,rfl,l,j⟩
section
variable {K:nH}{aS:Ad}{dS d1 d2:Ab Ad}
theorem DZ (eL:g "LETTERS" = some (.str zL tL)) (e8:g "LONGEST_NAME" = some (.int i8 t8)) (eS:g "SIDE_WORDS" = some (.ref aS)) (eN:g "NAME_COUNTS" = some (.ref U)) (eA:g "all" = none)
  (lS:K.lookup aS=some ⟨.type "tuple",dS,.seq #[.str ay a1,.str az a2] nS,sS⟩)
  (lN:K.lookup U=some ⟨.type "dict",none,.dict #[⟨h1,.str z1 bc,.ref l⟩,⟨h2,.str z2 bd,.ref o⟩,⟨h3,.str z3 be,.ref r⟩,⟨h4,.str z4 bf,.ref C⟩,⟨h5,.str z5 bg,.ref I⟩,⟨h6,.str z6 bh,.ref J⟩,⟨h7,.str z7 bi,.ref T⟩] ep,#[]⟩)
  (zN:(U == sysModules)=false)
  (q1:h1=hashStr w "and") (q2:h2=hashStr w "or") (q3:h3=hashStr w "odd") (q4:h4=hashStr w "most") (q5:h5=hashStr w "not") (q6:h6=hashStr w "one") (q7:h7=hashStr w "nil")
  (l1:K.lookup l=some ⟨.type "tuple",d1,.seq #[.int j1 a3,.int j2 a4] n1,s1⟩)
  (l2:K.lookup o=some ⟨.type "tuple",d2,.seq #[.int j3 a5,.int j4 a6] n2,s2⟩)
  (l3:K.lookup r=some ⟨.type "tuple",d3,.seq #[.int j5 a7,.int j6 a8] n3,s3⟩)
  (l4:K.lookup C=some ⟨.type "tuple",d4,.seq #[.int j7 a9] n4,s4⟩)
  (l5:K.lookup I=some ⟨.type "tuple",d5,.seq #[.int j8 ba] n5,s5⟩)
  (l6:K.lookup J=some ⟨.type "tuple",d6,.seq #[.int j9 bb] n6,s6⟩)
  (l7:K.lookup T=some ⟨.type "tuple",d7,.seq #[.int aa a0] n7,s7⟩)
  (vL:zL=lettersS) (v8:i8=8) (ai:ay = "in") (aj:az = "out") (v11:z1 = "and") (ab:z2 = "or") (ac:z3 = "odd") (ae:z4 = "most") (af:z5 = "not") (ag:z6 = "one") (ah:z7 = "nil") (ak:j1=2) (an:j2=3) (ao:j3=2) (aq:j4=3) (ar:j5=2) (au:j6=3) (av:j7=3) (aw:j8=1) (ax:j9=0) (j:aa=0):Tops K w g:=by
 subst vL v8 ai aj v11 ab ac ae af ag ah ak an ao aq ar au av aw ax j;refine⟨⟨_,eL⟩,⟨_,e8⟩,⟨aS,eS,Ay lS (by show 2<=sizeLine;decide) (.cons ⟨_,rfl⟩ (.cons ⟨_,rfl⟩ .nil))⟩,⟨U,_,eN,GV (D:=[("and",.ref l,.ref l),("or",.ref o,.ref o),("odd",.ref r,.ref r),("most",.ref C,.ref C),("not",.ref I,.ref I),("one",.ref J,.ref J),("nil",.ref T,.ref T)]) ?_ ?_ ?_ ?_,λz=>?_⟩,eA⟩
 .intro p m;simp only[aM,aR,kA] at m;rcases m with rfl | rfl | rfl | rfl | rfl | rfl | rfl<;>rfl
 .unfold KTD.tabLook;simp only[lN,zN];simp[KTD.rowsLook]
 .show (["and","or","odd","most","not","one","nil"]:Aa Af).Nodup;decide +kernel
 .unfold KTD.hashesOf;simp only[lN,q1,q2,q3,q4,q5,q6,q7];rfl
 .simp only[bD,kM];have ne:∀ {x:Af},¬ z=x->¬ (Sum.inr x:hH)=Sum.inr z:=λh e=>h (eI e).symm
  by_cases c:z = "and"
  .subst c;exact .inr ⟨l,[2,3],vB rfl,rfl,Ay l1 (by show 2<=sizeLine;decide) (.cons ⟨_,rfl⟩ (.cons ⟨_,rfl⟩ .nil))⟩
  rw[uX (ne c)];by_cases d:z = "or"
  .subst d;exact .inr ⟨o,[2,3],vB rfl,rfl,Ay l2 (by show 2<=sizeLine;decide) (.cons ⟨_,rfl⟩ (.cons ⟨_,rfl⟩ .nil))⟩
  rw[uX (ne d)];by_cases f:z = "odd"
  .subst f;exact .inr ⟨r,[2,3],vB rfl,rfl,Ay l3 (by show 2<=sizeLine;decide) (.cons ⟨_,rfl⟩ (.cons ⟨_,rfl⟩ .nil))⟩
  rw[uX (ne f)];by_cases a:z = "most"
  .subst a;exact .inr ⟨C,[3],vB rfl,rfl,Ay l4 (by show 1<=sizeLine;decide) (.cons ⟨_,rfl⟩ .nil)⟩
  rw[uX (ne a)];by_cases b:z = "not"
  .subst b;exact .inr ⟨I,[1],vB rfl,rfl,Ay l5 (by show 1<=sizeLine;decide) (.cons ⟨_,rfl⟩ .nil)⟩
  rw[uX (ne b)];by_cases i:z = "one"
  .subst i;exact .inr ⟨J,[0],vB rfl,rfl,Ay l6 (by show 1<=sizeLine;decide) (.cons ⟨_,rfl⟩ .nil)⟩
  rw[uX (ne i)];by_cases k:z = "nil"
  .subst k;exact .inr ⟨T,[0],vB rfl,rfl,Ay l7 (by show 1<=sizeLine;decide) (.cons ⟨_,rfl⟩ .nil)⟩
  rw[uX (ne k)];refine .inl ⟨rfl,?_⟩;unfold xX;rw[aG (by rintro (e | e | e)<;>contradiction),aG a,aG b,aG (by rintro (e | e)<;>contradiction)]
end
open PySem L2 in
theorem Xk (j:g "MOST_INPUTS" = some (.int I tI)) (l:g "MOST_OUTPUTS" = some (.int J tO)) (o:g "MOST_GATES" = some (.int C tG)) (p:g "MOST_ALONG" = some (.int r tA)) (v1:I=6) (T:J=6) (U:C=24) (v4:r=4):Bds g:=by
 subst v1 T U v4;exact⟨⟨_,j⟩,⟨_,l⟩,⟨_,o⟩,⟨_,p⟩⟩
theorem N2 {K:nH}:∀ g:Aa Int,Reps K A H (g.map D.int) (g.map V.int)
 | []=>.nil
 | _::g=>.cons (.int _) (N2 g)
theorem W5 {K:nH}{g:Aa Int}(p:g.length<=63) (j:Gb H) (l:nX K H a (g.map V.int)):Ft K [.ref a] H (λv _=>v = .b true) λ_ _ _=>False:=by
 have d:yE K H a (g.map V.int):=by
  rcases l with (h | h) | h
  .rcases j a with z | ⟨o,e,z⟩
   .rw[h] at z;cases z
   .rw[h] at z;cases z
  .exact .inl h
  .exact .inr h
 exact⟨g,.ref a,rfl,.c d (N2 g),p,λ_=>rfl⟩
end Lw
namespace Lw
open PySem L2
def DF (K:nH) (x:Af) (st:Stmt):Prop:=∃ (f:Ad) (e a:Ab Ad) (h:Array (Ab Ac)) (d kV c pm cd b:Ac),PySem.W.nsIn K mainGlobals x=some (some (.ref f))/\K.lookup f=some ⟨d,e,.func (PySem.W.fnOf x x (uP st) (sH st) (oC st) .none kV c pm a cd b),h⟩/\PySem.W.codeIn K cd x=true/\PySem.W.keepIn K (.ref f)=true
def NZ (K:nH) (x:Af):Prop:=PySem.W.nsIn K mainGlobals x=some none
theorem df_mk {K:nH}{st:Stmt}{kV cd:Ac}(a:PySem.W.nsIn K mainGlobals x=some (some (.ref f))) (l:K.lookup f=some ⟨p,r,.func (PySem.W.fnOf x x (uP st) (sH st) (oC st) .none kV o pm g cd j),C⟩) (c:PySem.W.codeIn K cd x=true) (k:PySem.W.keepIn K (.ref f)=true):DF K x st:=⟨f,r,g,C,p,kV,o,pm,cd,j,a,l,c,k⟩
theorem Fv {K:nH}{st:Stmt}(o:Aa Af) (X:K.In h) (G:h.Ns mainGlobals J) (d:DF K x st)
  (I:∀ (kV j pm:Ac) (r:Ab Ad) (g C:Ac) (p:Aa Ac),p.length=o.length->bindArgs (PySem.W.fnOf x x (uP st) (sH st) (oC st) .none kV j pm r g C) ⟨p,[]⟩=pure (o.zip p)):∃ f fd,Gd K J x st o f fd:=by
 obtain⟨f,i,r,m,e,kV,b,pm,cd,C,a,l,c,k⟩:=d;have F:=Jl (st:=st) l c k;exact⟨f,_,F,cQ X G a,k,F.binds I⟩
theorem vS {K:nH}{st:Stmt}(j:Af) (X:K.In h) (G:h.Ns mainGlobals o) (d:DF K x st) (l:∀ a b c d e f g,bindArgs (PySem.W.fnOf x x (uP st) (sH st) (oC st) .none a b c d e f) ⟨[g],[]⟩=pure [(j,g)]:=by intros;rfl):∃ f fd,Gd K o x st [j] f fd :=
 Fv [j] X G d λa b c d e f k i=>by rcases k with _ | ⟨g,_ | _⟩<;>first | exact l a b c d e f g | cases i
theorem yC {K:nH}{st:Stmt}(l o:Af) (X:K.In h) (G:h.Ns mainGlobals r) (d:DF K x st) (p:∀ a b c d e f g j,bindArgs (PySem.W.fnOf x x (uP st) (sH st) (oC st) .none a b c d e f) ⟨[g,j],[]⟩=pure [(l,g),(o,j)]:=by intros;rfl):∃ f fd,Gd K r x st [l,o] f fd :=
 Fv [l,o] X G d λa b c d e f k i=>by rcases k with _ | ⟨g,_ | ⟨j,_ | _⟩⟩<;>first | exact p a b c d e f g j | cases i
theorem yL {K:nH}{st:Stmt}(o p r:Af) (X:K.In h) (G:h.Ns mainGlobals I) (d:DF K x st) (C:∀ a b c d e f g j l,bindArgs (PySem.W.fnOf x x (uP st) (sH st) (oC st) .none a b c d e f) ⟨[g,j,l],[]⟩=pure [(o,g),(p,j),(r,l)]:=by intros;rfl):∃ f fd,Gd K I x st [o,p,r] f fd :=
 Fv [o,p,r] X G d λa b c d e f k i=>by rcases k with _ | ⟨g,_ | ⟨j,_ | ⟨l,_ | _⟩⟩⟩<;>first | exact C a b c d e f g j l | cases i
theorem Gj {K:nH}{st:Stmt}(p r C I:Af) (X:K.In h) (G:h.Ns mainGlobals T) (d:DF K x st) (J:∀ a b c d e f g j l o,bindArgs (PySem.W.fnOf x x (uP st) (sH st) (oC st) .none a b c d e f) ⟨[g,j,l,o],[]⟩=pure [(p,g),(r,j),(C,l),(I,o)]:=by intros;rfl):∃ f fd,Gd K T x st [p,r,C,I] f fd :=
 Fv [p,r,C,I] X G d λa b c d e f k i=>by rcases k with _ | ⟨g,_ | ⟨j,_ | ⟨l,_ | ⟨o,_ | _⟩⟩⟩⟩<;>first | exact J a b c d e f g j l o | cases i
theorem MA {K:nH}{st:Stmt}(r C I J T:Af) (X:K.In h) (G:h.Ns mainGlobals mg) (d:DF K x st) (U:∀ a b c d e f g j l o p,bindArgs (PySem.W.fnOf x x (uP st) (sH st) (oC st) .none a b c d e f) ⟨[g,j,l,o,p],[]⟩=pure [(r,g),(C,j),(I,l),(J,o),(T,p)]:=by intros;rfl):∃ f fd,Gd K mg x st [r,C,I,J,T] f fd :=
 Fv [r,C,I,J,T] X G d λa b c d e f k i=>by rcases k with _ | ⟨g,_ | ⟨j,_ | ⟨l,_ | ⟨o,_ | ⟨p,_ | _⟩⟩⟩⟩⟩<;>first | exact U a b c d e f g j l o p | cases i
theorem all_mk {l:PySem.W.OpenLaw}{K:nH}(X:K.In h) (G:h.Ns mainGlobals mg) (ej:mg "law" = some (.ref fa))
  {CE fI:Ad}{aS:Ad}{dS:Ab Ad}
  (d1:DF K "is_name" K6)
  (d2:DF K "carried_inputs" C6)
  (d3:DF K "word_inputs" Fo)
  (d4:DF K "word_outputs" Ex)
  (d5:DF K "weighed_names" Jg)
  (d6:DF K "rows_together" Iz)
  (d7:DF K "check_pairs" J0)
  (d8:DF K "check_free" Hq)
  (d9:DF K "first_names" E5)
  (da:DF K "second_names" E2)
  (db:DF K "cell_names" D6)
  (dd:DF K "row_turned" Ik)
  (de:DF K "all_turned" Jx)
  (df:DF K "joined" Jj)
  (dg:DF K "without" J2)
  (dh:DF K "check_bounds" Ig)
  (di:DF K "claims_together" Ee)
  (dj:DF K "edges_turned" J5)
  (dk:DF K "weights_turned" Hz)
  (dm:DF K "_law_draw" xT)
  (dn:DF K "_law_word" Cp)
  (dp:DF K "_law_gate" Gk)
  (dq:DF K "_law_cell" Iv)
  (dr:DF K "_law_row" I0)
  (dt:DF K "_law_carried" Ev)
  (du:DF K "_law_wordly" Ip)
  (dv:DF K "_law_pairs" Iu)
  (dw:DF K "_law_due_row" G0)
  (dx:DF K "_law_great" Gh)
  (dy:DF K "_law_more_gates" G2)
  (dz:DF K "_law_two_rows" Go)
  (d0:DF K "_law_claim" F7)
  (ea:DF K "_law_made_even" Ji)
  (eb:DF K "_law_renamed" Gq)
  (ec:DF K "_law_due" Jr)
  (ed:DF K "_law_bare" Jf)
  (ee:DF K "_law_caught" G9)
  (ef:DF K "_law_copies" Iq)
  (eg:DF K "law" B6)
  (z1:NZ K "len")
  (z2:NZ K "range")
  (z3:NZ K "sum")
  (z4:NZ K "min")
  (z5:NZ K "max")
  (z6:NZ K "tuple")
  (z7:NZ K "list")
  (z8:NZ K "set")
  (z9:NZ K "dict")
  (gu:NZ K "int")
  (gv:NZ K "str")
  (gw:NZ K "zip")
  (gx:NZ K "enumerate")
  (gy:NZ K "all")
  (gz:NZ K "any")
  (c9:NZ K "isinstance")
  (g0:NZ K "sorted")
  (g4:NZ K "abs")
  (g5:NZ K "reversed")
  (g6:NZ K "bool")
  (l7:NZ K "ValueError")
  (bz:PySem.W.nsIn K mainGlobals "CellError" = some (some (.ref CE)))
  (b0:PySem.W.nsIn K mainGlobals "NoName" = some (some (.ref CN)))
  (gi:PySem.W.nsIn K mainGlobals "NoAsk" = some (some (.ref CA)))
  (bx:PySem.W.nsIn K mainGlobals "NoCell" = some (some (.ref CC)))
  (c7:PySem.W.nsIn K mainGlobals "NoClaim" = some (some (.ref CL)))
  (hb:K.lookup CN=some ⟨ie,ig,.cls ⟨iq,ik,ih::bm,NS,ir,ip,it,iu,ij,il,im⟩,iv⟩)
  (l5:PySem.W.nsIn K NS "__init__" = some (some (.ref fI)))
  (lI:K.lookup fI=some ⟨en,kz,.func (PySem.W.fnOf "__init__" "NoName.__init__" (uP Cw) (sH Cw) (oC Cw) .none ky kx k0 kv em kw),k1⟩)
  (cI:PySem.W.codeIn K em "NoName.__init__" = true)
  (kI:PySem.W.keepIn K (.ref fI)=true)
  (ek:en = .type "function")
  (bv:bm = .ref CE::xD)
  (b1:sI K CN NS bm (some (.ref fI))=true)
  (g1:PySem.W.specialIn K (.ref CE) "__getattribute__" = some (some (.builtin "type.__getattribute__")))
  (g2:PySem.W.readsIn K CE (.type "type")=true)
  (g3:PySem.W.findCls K (.ref CE) (.type "type") "__init__" = some (PySem.W.CFound.val (.builtin "ValueError.__init__")))
  (bt:PySem.W.keepIn K (.ref CN)=true)
  (cq:PySem.W.findIn K (.ref CN) "__getattribute__" = some (some (.builtin "BaseException.__getattribute__")))
  (cv:PySem.W.findIn K (.ref CN) "__getattr__" = some none)
  (cy:PySem.W.mroIn K CN (.type "BaseException")=some true)
  (c1:PySem.W.mroIn K CN (.type "object")=some true)
  (c4:PySem.W.findIn K (.ref CN) "__class__" = some (some (.builtin "object.__class__")))
  (ff:PySem.W.specialIn K (.builtin "object.__class__") "__get__" = some (some (.builtin "getset_descriptor.__get__")))
  (fg:PySem.W.takesIn K (.builtin "object.__class__")=some true)
  (sa:PySem.W.findIn K (.ref CN) "__setattr__" = some (some (.builtin "object.__setattr__")))
  (fw:PySem.W.findIn K (.ref CN) "word" = some none)
  (cm:PySem.W.exmOne K (.ref CN) (.ref CE)=some true)
  (g9:K.lookup CC=some ⟨he,hf,.cls ⟨hn,hi,hg::bc,bp,ho,hm,hp,hq,hh,hj,hk⟩,hr⟩)
  (l6:PySem.W.nsIn K bp "__init__" = some (some (.ref fJ)))
  (lJ:K.lookup fJ=some ⟨es,k6,.func (PySem.W.fnOf "__init__" "NoCell.__init__" (uP Cs) (sH Cs) (oC Cs) .none k5 k4 k7 k2 er k3),k8⟩)
  (cJ:PySem.W.codeIn K er "NoCell.__init__" = true)
  (kJ:PySem.W.keepIn K (.ref fJ)=true)
  (el:es = .type "function")
  (bu:bc = .ref CE::xD)
  (c8:sI K CC bp bc (some (.ref fJ))=true)
  (br:PySem.W.keepIn K (.ref CC)=true)
  (cn:PySem.W.findIn K (.ref CC) "__getattribute__" = some (some (.builtin "BaseException.__getattribute__")))
  (cs:PySem.W.findIn K (.ref CC) "__getattr__" = some none)
  (cw:PySem.W.mroIn K CC (.type "BaseException")=some true)
  (cz:PySem.W.mroIn K CC (.type "object")=some true)
  (c2:PySem.W.findIn K (.ref CC) "__class__" = some (some (.builtin "object.__class__")))
  (fe:PySem.W.findIn K (.ref CC) "__setattr__" = some (some (.builtin "object.__setattr__")))
  (fr:PySem.W.findIn K (.ref CC) "row" = some none)
  (cl:PySem.W.exmOne K (.ref CC) (.ref CE)=some true)
  (nN:PySem.W.kitOne K (.ref CN) (.ref CN)=some true)
  (ev:PySem.W.kitAny K (.ref CN) [.ref CA,.ref CC,.ref CL]=some false)
  (cC:PySem.W.kitOne K (.ref CC) (.ref CC)=some true)
  (et:PySem.W.kitAny K (.ref CC) [.ref CA,.ref CL,.ref CN]=some false)
  (lL:PySem.W.kitOne K (.ref CL) (.ref CL)=some true)
  (eu:PySem.W.kitAny K (.ref CL) [.ref CA,.ref CC,.ref CN]=some false)
  (eh:PySem.W.exmOne K (.ref CL) (.ref CE)=some true)
  (ei:bL = .ref CE::xD)
  (ha:K.lookup CL=some ⟨hs,ht,.cls ⟨h8,hx,hu::bL,NL,h9,h0,ia,ib,hv,hy,hz⟩,ic⟩)
  (gj:sI K CL NL bL none=true)
  (c5:PySem.W.keepIn K (.ref CL)=true)
  (cp:PySem.W.findIn K (.ref CL) "__getattribute__" = some (some (.builtin "BaseException.__getattribute__")))
  (cu:PySem.W.findIn K (.ref CL) "__getattr__" = some none)
  (cx:PySem.W.mroIn K CL (.type "BaseException")=some true)
  (c0:PySem.W.mroIn K CL (.type "object")=some true)
  (c3:PySem.W.findIn K (.ref CL) "__class__" = some (some (.builtin "object.__class__")))
  (xL:PySem.W.nsIn K mainGlobals "LETTERS" = some (some (.str zL tL)))
  (x8:PySem.W.nsIn K mainGlobals "LONGEST_NAME" = some (some (.int i8 t8)))
  (xS:PySem.W.nsIn K mainGlobals "SIDE_WORDS" = some (some (.ref aS)))
  (xN:PySem.W.nsIn K mainGlobals "NAME_COUNTS" = some (some (.ref aN)))
  (lS:K.lookup aS=some ⟨.type "tuple",dS,.seq #[.str g7 lj,.str g8 ll] nS,sS⟩)
  (lN:K.lookup aN=some ⟨.type "dict",none,.dict #[⟨h1,.str gk lx,.ref r1⟩,⟨h2,.str gm ly,.ref r2⟩,⟨h3,.str gn l0,.ref r3⟩,⟨h4,.str gp l1,.ref r4⟩,⟨h5,.str gq l2,.ref r5⟩,⟨h6,.str gr l3,.ref r6⟩,⟨h7,.str gs l4,.ref r7⟩] ep,#[]⟩)
  (zN:(aN == sysModules)=false)
  (ew:K.lookup r1=some ⟨.type "tuple",k9,.seq #[.int j1 lm,.int j2 ln] n1,s1⟩)
  (ex:K.lookup r2=some ⟨.type "tuple",la,.seq #[.int j3 lp,.int j4 lq] n2,s2⟩)
  (ey:K.lookup r3=some ⟨.type "tuple",lb,.seq #[.int j5 lr,.int j6 ls] n3,s3⟩)
  (ez:K.lookup r4=some ⟨.type "tuple",lc,.seq #[.int j7 lu] n4,s4⟩)
  (e0:K.lookup r5=some ⟨.type "tuple",lg,.seq #[.int j8 lv] n5,s5⟩)
  (fb:K.lookup r6=some ⟨.type "tuple",lh,.seq #[.int j9 lw] n6,s6⟩)
  (fc:K.lookup r7=some ⟨.type "tuple",li,.seq #[.int eo hc] n7,s7⟩)
  (ga:gk = "and")
  (gb:gm = "or")
  (gc:gn = "odd")
  (gd:gp = "most")
  (gf:gq = "not")
  (gg:gr = "one")
  (gh:gs = "nil")
  (vL:zL=Lw.lettersS)
  (v8:i8=8)
  (fh:g7 = "in")
  (fi:g8 = "out")
  (fo:j1=2)
  (fp:j2=3)
  (fq:j3=2)
  (ft:j4=3)
  (fu:j5=2)
  (fv:j6=3)
  (fx:j7=3)
  (fy:j8=1)
  (f0:j9=0)
  (c6:eo=0)
  (q1:h1=hashStr w "and")
  (q2:h2=hashStr w "or")
  (q3:h3=hashStr w "odd")
  (q4:h4=hashStr w "most")
  (q5:h5=hashStr w "not")
  (q6:h6=hashStr w "one")
  (q7:h7=hashStr w "nil")
  (bI:PySem.W.nsIn K mainGlobals "MOST_INPUTS" = some (some (.int iI tI)))
  (bO:PySem.W.nsIn K mainGlobals "MOST_OUTPUTS" = some (some (.int iO tO)))
  (bG:PySem.W.nsIn K mainGlobals "MOST_GATES" = some (some (.int iG tG)))
  (bA:PySem.W.nsIn K mainGlobals "MOST_ALONG" = some (some (.int iA tA)))
  (fl:iI=6)
  (fm:iO=6)
  (fk:iG=24)
  (fj:iA=4)
  : ∃ fd:FuncData,(∀ (s:Ae) (v:Ac),BindsTo s fd ⟨[v],[]⟩ [("script",v)])/\∀ base:Ag,K.In base->base.Ns mainGlobals mg->FnOk l.prog w K mg base oM 8 fa fd ["script"] (Ft K):=by
 obtain⟨f1,e1,ac⟩:=vS "text" X G d1;obtain⟨f2,e2,b⟩:=vS "row" X G d2;obtain⟨f3,e3,m⟩:=vS "row" X G d3;obtain⟨f4,e4,e⟩:=vS "row" X G d4;obtain⟨f5,e5,L⟩:=vS "row" X G d5;obtain⟨f6,e6,H⟩:=yL "one" "other" "pairs" X G d6;obtain⟨f7,e7,p⟩:=yL "one" "other" "pairs" X G d7;obtain⟨f8,e8,I⟩:=yC "name" "free" X G d8;obtain⟨f9,e9,q⟩:=vS "row" X G d9;obtain⟨jr,iw,n⟩:=yC "row" "pairs" X G da;obtain⟨js,ix,D⟩:=vS "row" X G db;obtain⟨jt,iy,aa⟩:=yC "row" "turned" X G dd;obtain⟨ju,iz,a0⟩:=yC "names" "turned" X G de;obtain⟨jv,i0,a4⟩:=yL "one" "other" "pairs" X G df;obtain⟨jw,i1,bg⟩:=yC "names" "gone" X G dg;obtain⟨jx,i2,S⟩:=vS "row" X G dh;obtain⟨jy,i3,i⟩:=MA "one" "other" "pairs" "claim_one" "claim_other" X G di;obtain⟨jz,i4,V⟩:=yL "row" "edges" "turned" X G dj;obtain⟨j0,i5,z⟩:=yL "row" "weights" "turned" X G dk;obtain⟨ka,i6,y⟩:=yC "script" "k" X G dm;obtain⟨kb,i7,C⟩:=yC "script" "i" X G dn;obtain⟨kc,i9,a9⟩:=Gj "script" "at" "k" "names" X G dp;obtain⟨kd,ja,a8⟩:=yC "script" "begin" X G dq;obtain⟨ke,jb,bf⟩:=yC "script" "begin" X G dr;obtain⟨kf,jc,t⟩:=vS "row" X G dt;obtain⟨kg,jd,a1⟩:=vS "row" X G du;obtain⟨kh,je,ah⟩:=yL "script" "one" "other" X G dv;obtain⟨ki,jf,av⟩:=yL "one" "other" "pairs" X G dw;obtain⟨kj,jg,af⟩:=yL "one" "other" "pairs" X G dx;obtain⟨kl,jh,ag⟩:=yC "row" "many" X G dy;obtain⟨km,ji,Y⟩:=vS "script" X G dz;obtain⟨ko,jj,ae⟩:=yL "script" "at" "row" X G d0;obtain⟨kp,jk,E⟩:=Gj "script" "pairs" "one" "other" X G ea;obtain⟨kq,jl,r⟩:=yL "one" "other" "pairs" X G eb;obtain⟨kr,jm,au⟩:=Gj "one" "other" "pairs" "claims" X G ec;obtain⟨ks,jn,ak⟩:=vS "claim" X G ed;obtain⟨kt,jo,J⟩:=Gj "one" "other" "pairs" "claims" X G ee;obtain⟨ku,jq,U⟩:=vS "claims" X G ef;obtain⟨f,od,an,sl,oc,kV,dc,pm,cd,ct,a,lk,c,k⟩:=eg;cases ej.symm.trans (cQ X G a);have FL:=Jl (st:=B6) lk c k;refine⟨PySem.W.fnOf "law" "law" (uP B6) (sH B6) (oC B6) .none kV dc pm an cd ct,λs v=>.of_eq rfl,λbase _ _=>?_⟩;have T:Txt mg:=⟨(bY X G z1),(bY X G z2),(bY X G z3),(bY X G z4),(bY X G z5),(bY X G z6),(bY X G z7),(bY X G z8),(bY X G z9),(bY X G gu),(bY X G gv),(bY X G gw),(bY X G gx),(bY X G gy),(bY X G gz),(bY X G c9),(bY X G g0),(bY X G g4),(bY X G g5),(bY X G g6)⟩;have O:Tops K w mg:=DZ (cQ X G xL) (cQ X G x8) (cQ X G xS) (cQ X G xN) T.all lS lN zN q1 q2 q3 q4 q5 q6 q7 ew ex ey ez e0 fb fc vL v8 fh fi ga gb gc gd gf gg gh fo fp fq ft fu fv fx fy f0 c6;have B:Bds mg:=Xk (cQ X G bI) (cQ X G bO) (cQ X G bG) (cQ X G bA) fl fm fk fj;have kk:∀ {k x st ps R f fd},Gd K mg x st ps f fd->qX l.prog w K mg base k x st ps R->Kn l.prog w K mg base k x st ps R:=λg o=>⟨_,_,g,o _ _ g.F⟩
 have oo:∀ {k x st ps R f fd},Gd K mg x st ps f fd->qX l.prog w K mg base k x st ps R->FnOk l.prog w K mg base oM k f fd ps (pF K R):=λg o=>o _ _ g.F
 have b2:=Jl (x := "__init__") (qual := "NoName.__init__") (st:=Cw) lI cI kI;have bI:=b2.binds (ps:=["self","word"]) λ_ _ _ _ _ _ us hl=>by rcases us with _ | ⟨x0,_ | ⟨x1,_ | _⟩⟩<;>first | rfl | cases hl
 have b3:=Jl (x := "__init__") (qual := "NoCell.__init__") (st:=Cs) lJ cJ kJ;have bJ:=b3.binds (ps:=["self","row"]) λ_ _ _ _ _ _ us hl=>by rcases us with _ | ⟨x0,_ | ⟨x1,_ | _⟩⟩<;>first | rfl | cases hl
 have N1:XK1 K mg CE "NoName" "word" CN NS fI bm:=⟨(cQ X G bz),g1,g2,g3,(cQ X G b0),b1,bt,sa,fw,λx=>by subst bv;rw[mO,mO];exact jY.passes _,by subst bv;simp[xD],by subst bv;simp[xD],⟨cq,cv,cy,c1,c4,ff,fg⟩,cm⟩;have C1:XK1 K mg CE "NoCell" "row" CC bp fJ bc:=⟨(cQ X G bz),g1,g2,g3,(cQ X G bx),c8,br,fe,fr,λx=>by subst bu;rw[mO,mO];exact jY.passes _,by subst bu;simp[xD],by subst bu;simp[xD],⟨cn,cs,cw,cz,c2,ff,fg⟩,cl⟩;have ON:XO l.prog w K mg base "NoName" "word" CN Cb:=⟨NS,fI,bm,_,_,b1,N1.bb,bt,lI,ek,Xl b2 N1,(cQ X G b0),bI⟩;have OC:XO l.prog w K mg base "NoCell" "row" CC Bx:=⟨bp,fJ,bc,_,_,c8,C1.bb,br,lJ,el,IP b3 C1,(cQ X G bx),bJ⟩;have OL:XK0 K mg "NoClaim" CL NL bL:=⟨gj,by subst ei;simp[xD],c5,(cQ X G c7)⟩;have M:XM4 K mg CN CC CA CL:=⟨(cQ X G b0),(cQ X G bx),(cQ X G gi),(cQ X G c7),(bY X G c9),nN,ev,cC,et,lL,eu,N1.xf,C1.xf,⟨cp,cu,cx,c0,c3,ff,fg⟩,⟨_,_,_,b1,fw⟩⟩;have bw:=kk ac (Tg T O);have be:=oo ac (Tg T O);have A:=kk b Wh;have u:=oo b Wh;have bo:=kk m (Uh A);have j:=oo m (Uh A);have bn:=kk e Pc;have Q:=oo e Pc;have ab:=kk D (Tk T);have ay:=oo D (Tk T);have Z:=oo q (MZ T ab);have N:=oo n (HC T ab);have a2:=kk a0 (QZ T);have az:=oo aa (EI T a2);have bi:=kk bg (JD T);have bj:=oo a4 (CU T bi);have ca:=BM (P:=l.prog) (w:=w) (base:=base) I.F T ON;have cf:=GZ (P:=l.prog) (w:=w) (base:=base) p.F T e m I Q j ca;have b9:=JV (P:=l.prog) (w:=w) (base:=base) S.F T B OC D ac ay be;have ck:=Yi (P:=l.prog) (w:=w) (base:=base) H.F T p a4 aa q n S cf bj az Z N b9;have b5:=Yh (P:=l.prog) (w:=w) (base:=base) L.F m e b j Q u;have b4:=MT (P:=l.prog) (w:=w) (base:=base) V.F T b u;have b6:=FZ (P:=l.prog) (w:=w) (base:=base) z.F T L b5;have bq:=NH (P:=l.prog) (w:=w) (base:=base) i.F T OL H q n V z ck Z N b4 b6;have d:=kk y (Ug T);have aj:=oo y (Ug T);have ao:=kk C (U5 T d);have a7:=oo C (U5 T d);have bd:=kk a9 (EB T d ao);have ba:=kk a8 (HW T d ao bd);have bh:=kk bf (NR T d ba);have aw:=kk t Qa;have ar:=oo t Qa;have a3:=kk a1 (Z7 aw);have a6:=oo ah (CF T d a3);have ax:=kk av (GL T);have a5:=oo af (DI T ax);have ai:=kk ag (II T);have aq:=oo Y (EH T d bh ai);have b8:=Zv (P:=l.prog) (w:=w) (base:=base) J.F T (cQ X G bz) cm cl eh i bq.told;have cb:=(OB (P:=l.prog) (w:=w) (base:=base) ae.F T y t aj ar).quiet;have ch:=OU (P:=l.prog) (w:=w) (base:=base) E.F T y aj;have cj:=EN (P:=l.prog) (w:=w) (base:=base) r.F T;have cg:=CV (P:=l.prog) (w:=w) (base:=base) au.F T r cj;have b7:=JS (P:=l.prog) (w:=w) (base:=base) ak.F T;have cc:=FX (P:=l.prog) (w:=w) (base:=base) U.F T;exact CY FL T M Y ah ae E U C J au af i ak aq a6 cb ch cc a7 b8 cg a5 bq.quiet b7
theorem walk {l:PySem.W.OpenLaw}{q:Ah}{g:Aa Af}{XP:(Af->Ab Ac)->Ag->Prop}{p:World->Ag->Prop}{d:DefRec}{K:Params->nH}(I:l.most=some 63) (o:d.params.defaults=[])
  (C:∀ (w:World) (h:Ag),p w h->(K w.params).In h)
  (F:∀ (w:World) (j:Af->Ab Ac) (r:Ad) (h:Ag),(K w.params).In h->h.Ns mainGlobals j->j d.name=some (.ref r) ->∃ fd:FuncData,(∀ (s:Ae) (u:Ac),BindsTo s fd ⟨[u],[]⟩ [("script",u)])/\∀ base:Ag,(K w.params).In base->base.Ns mainGlobals j->FnOk l.prog w (K w.params) j base oM 8 r fd ["script"] (Ft (K w.params))) :
  PySem.W.WalkO q g XP p l.row.toRowW d [] (λf J=>PySem.call f J) :=
 L2.walk_of (n:=63) (k:=8) (x := "script") (CX:=λ_=>oM) (sp:=λw=>Ft (K w.params)) I (by decide) o ⟨rfl,by decide,by decide⟩ C F (λ_ _ a i e b c=>W5 e b c) λ_ _ _ _ _ z=>z
end Lw
namespace PySem.W.Fast
theorem tw1363976952849851151:True:=⟨⟩
theorem tw5040449363265450456:True:=⟨⟩
theorem tw16008177515535457533:True:=⟨⟩
theorem tw16386152124016540648:True:=⟨⟩
theorem tw10072604905400834091:True:=⟨⟩
theorem tw10255077264124676350:True:=⟨⟩
theorem tw17264602575536197021:True:=⟨⟩
theorem tw6672433041367749956:True:=⟨⟩
theorem tw11433164683121262761:True:=⟨⟩
theorem tw10799047581758171151:True:=⟨⟩
theorem tw7374897997069412727:True:=⟨⟩
theorem tw15008894615594916938:True:=⟨⟩
theorem tw1134900616798004911:True:=⟨⟩
theorem tw17731343869067681369:True:=⟨⟩
theorem tw10474176366622110052:True:=⟨⟩
theorem tw10214540279385096317:True:=⟨⟩
theorem tw10426758414299625479:True:=⟨⟩
theorem tw13532031749905525791:True:=⟨⟩
theorem tw1752705185110668782:True:=⟨⟩
theorem tw5916229501246957317:True:=⟨⟩
theorem tw9595875668910513460:True:=⟨⟩
theorem tw8123580336632077067:True:=⟨⟩
theorem tw13328405387472865060:True:=⟨⟩
theorem tw8271624093244253140:True:=⟨⟩
theorem tw156635037109524320:True:=⟨⟩
theorem tw2780311914277781580:True:=⟨⟩
theorem tw12685654676081647018:True:=⟨⟩
theorem tw18068323787393128749:True:=⟨⟩
theorem tw13683816031785048739:True:=⟨⟩
theorem tw7623651525686302215:True:=⟨⟩
theorem tw9159703739907387766:True:=⟨⟩
theorem tw6793925195270840861:True:=⟨⟩
theorem tw8086770352291092070:True:=⟨⟩
theorem tw7794630553781310767:True:=⟨⟩
theorem tw18162145862498903995:True:=⟨⟩
theorem tw17313304318649214097:True:=⟨⟩
theorem tw12316769968070245211:True:=⟨⟩
theorem tw5144003423578084087:True:=⟨⟩
theorem tw8588265151467050849:True:=⟨⟩
theorem tw2179804798640216646:True:=⟨⟩
theorem tw3602569958105707236:True:=⟨⟩
theorem tw8667834015292763743:True:=⟨⟩
theorem tw3196853222728021411:True:=⟨⟩
theorem tw4639947837345936132:True:=⟨⟩
theorem tw11385443271617714319:True:=⟨⟩
theorem tw4109839545616851409:True:=⟨⟩
theorem tw16968056388321495777:True:=⟨⟩
theorem tw6494849958237546852:True:=⟨⟩
theorem tw4678930283392830843:True:=⟨⟩
theorem tw12323216675077267567:True:=⟨⟩
theorem tw15772588232505211392:True:=⟨⟩
theorem tw1951949333446449822:True:=⟨⟩
theorem tw10504017197332594760:True:=⟨⟩
theorem tw6549641503917598340:True:=⟨⟩
theorem tw16207762621388763400:True:=⟨⟩
theorem tw11991683317611764125:True:=⟨⟩
theorem tw649831056193738241:True:=⟨⟩
theorem tw12801894080365839054:True:=⟨⟩
theorem tw5919547209764587284:True:=⟨⟩
theorem tw1939780411740929659:True:=⟨⟩
theorem tw8596041246230240351:True:=⟨⟩
theorem tw7556725052150142323:True:=⟨⟩
theorem tw5783449538229252372:True:=⟨⟩
theorem tw7134672728766926574:True:=⟨⟩
theorem tw8149757355641362121:True:=⟨⟩
theorem tw12494348676285087230:True:=⟨⟩
theorem tw6272599594823974051:True:=⟨⟩
theorem tw2176038099973072549:True:=⟨⟩
theorem tw14980231474147131110:True:=⟨⟩
theorem tw13776081305403667177:True:=⟨⟩
theorem tw8056918193268460598:True:=⟨⟩
theorem tw320143298578926135:True:=⟨⟩
theorem tw9081263223453907753:True:=⟨⟩
theorem tw14476817906033858491:True:=⟨⟩
theorem tw17297963445336537702:True:=⟨⟩
theorem tw15643490355396629087:True:=⟨⟩
theorem tw6429172151374719278:True:=⟨⟩
theorem tw1488887961231692079:True:=⟨⟩
theorem tw10252355877714816329:True:=⟨⟩
theorem tw17718737863282053245:True:=⟨⟩
theorem tw17708200552132475313:True:=⟨⟩
theorem tw14263211479187091045:True:=⟨⟩
theorem tw15449028644797304611:True:=⟨⟩
theorem tw10187242271049553920:True:=⟨⟩
theorem tw9315498761663708718:True:=⟨⟩
theorem tw5468517534380855259:True:=⟨⟩
theorem tw4182991664610929439:True:=⟨⟩
theorem tw16172431862467133341:True:=⟨⟩
theorem tw7633188856664087693:True:=⟨⟩
theorem tw4596944348137373635:True:=⟨⟩
theorem tw11958739970273932606:True:=⟨⟩
theorem tw3947174656142494529:True:=⟨⟩
theorem tw1622200415574111900:True:=⟨⟩
theorem tw15648738657919525226:True:=⟨⟩
theorem tw15268389054906205781:True:=⟨⟩
theorem tw12422173950257115058:True:=⟨⟩
theorem tw10981152324910514957:True:=⟨⟩
theorem tw16824600812694249948:True:=⟨⟩
theorem tw17472032063501493155:True:=⟨⟩
theorem tw5622013568397541609:True:=⟨⟩
theorem tw12715561973261733137:True:=⟨⟩
theorem tw14614325825876532981:True:=⟨⟩
theorem tw16350547856917662807:True:=⟨⟩
theorem tw8425049023575339560:True:=⟨⟩
theorem tw14712876962552682805:True:=⟨⟩
theorem tw12166888836953734698:True:=⟨⟩
theorem tw2282566122663393533:True:=⟨⟩
theorem tw14290935748823450565:True:=⟨⟩
theorem tw9522280096827334800:True:=⟨⟩
theorem tw6677328999679614576:True:=⟨⟩
theorem tw3713817808018496621:True:=⟨⟩
theorem tw17549064671655724719:True:=⟨⟩
theorem tw6805845709589678021:True:=⟨⟩
theorem tw13218736881771499553:True:=⟨⟩
theorem tw7764013431696630423:True:=⟨⟩
theorem tw10524314545133117562:True:=⟨⟩
theorem tw7493383833983824988:True:=⟨⟩
theorem tw11664230538176192561:True:=⟨⟩
theorem tw15780748452644142090:True:=⟨⟩
theorem tw14686962135014782217:True:=⟨⟩
end PySem.W.Fast
open PySem PySem.W PyProof.Rows
set_option maxRecDepth 100000 in
set_option maxHeartbeats 0 in
theorem PySem.Challenge.cw_laidcells_k34_claims_laid_together_holds : PySem.Challenge.rw_laidcells_k34_claims_laid_together.Holds := by
 w_on;o_law;k_head;(case hw=>w_witness2)
 k_fill
 refine Lw.walk (l:=PySem.Challenge.rw_laidcells_k34_claims_laid_together) rfl rfl (fun w h Y=>PySem.W.kIn_of Y) ?F
 case F =>
  intro w mg fa h KX G hmg;refine' Lw.all_mk KX G hmg ?_ ?_ ?_ ?_ ?_ ?_ ?_ ?_ ?_ ?_ ?_ ?_ ?_ ?_ ?_ ?_ ?_ ?_ ?_ ?_ ?_ ?_ ?_ ?_ ?_ ?_ ?_ ?_ ?_ ?_ ?_ ?_ ?_ ?_ ?_ ?_ ?_ ?_ ?_ ?_ ?_ ?_ ?_ ?_ ?_ ?_ ?_ ?_ ?_ ?_ ?_ ?_ ?_ ?_ ?_ ?_ ?_ ?_ ?_ ?_ ?xCE ?xCN ?xCA ?xCC ?xCL ?lkCN ?xfI ?lI ?cI ?kI ?hoc ?hbm ?xcN ?g1 ?g2 ?g3 ?kpCN ?faCN ?fbCN ?fcCN ?fdCN ?feCN ?ff ?fg ?sa ?fw ?exm ?lkCC ?xfJ ?lJ ?cJ ?kJ ?hoj ?hbc ?xcC ?kpCC ?faCC ?fbCC ?fcCC ?fdCC ?feCC ?saC ?fr ?exC ?nN ?kN3 ?cC ?kC3 ?lL ?kL3 ?exL ?hbL ?lkCL ?xcL ?kpCL ?faCL ?fbCL ?fcCL ?fdCL ?feCL ?xL ?x8 ?xS ?xN ?lS ?lN ?zN ?l_1 ?l_2 ?l_3 ?l_4 ?l_5 ?l_6 ?l_7 ?vz1 ?vz2 ?vz3 ?vz4 ?vz5 ?vz6 ?vz7 ?vL ?v8 ?vS1 ?vS2 ?vj1 ?vj2 ?vj3 ?vj4 ?vj5 ?vj6 ?vj7 ?vj8 ?vj9 ?vj10 ?q1 ?q2 ?q3 ?q4 ?q5 ?q6 ?q7 ?bI ?bO ?bG ?bA ?vbI ?vbO ?vbG ?vbA
  all_goals try refine' Lw.df_mk ?_ ?_ ?_ ?_
  all_goals try unfold Lw.NZ
  all_goals try first | k_is | (dsimp only;k_is)
  all_goals first | kernel_rfl | rfl
